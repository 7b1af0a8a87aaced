import PyProof.Rows.All
import Wide.All
import OpenK.AllK
import Wide.FinOn
import Lean
import PyProof.EqAt
import PyProof.EqKinds
import PyProof.TupleCall
import KE.KTryMore
import PyProof.NsDelKeeps
import PySem.Challenge.RW_lampway_k33_changes
set_option compiler.extract_closed false
set_option Elab.async false
set_option linter.all false
set_option maxRecDepth 100000
namespace L2
open PySem PySem.Spec PyProof.Rows
noncomputable abbrev Key:=Sum Int Str
noncomputable def cB:Key→Value→Bool
 | .inl k,v=>Value.isInt k v
 | .inr x,v=>Value.isStrOf x v
noncomputable def RN (w:World):Key→Int
 | .inl k=>hashInt k
 | .inr x=>hashStr w x
theorem ce:∀ {k:Key} {v:Value},cB k v=true→(∃ i t,k=Sum.inl i∧v=Value.int i t)∨(∃ x t,k=Sum.inr x∧v=Value.str x t)
 | .inl i,v,h=>by
  obtain ⟨t,e⟩:=Value.isInt_shape (k:=i) (v:=v) h
  exact .inl ⟨i,t,rfl,e⟩
 | .inr x,v,h=>by
  obtain ⟨t,e⟩:=Value.isStrOf_shape (x:=x) (v:=v) h
  exact .inr ⟨x,t,rfl,e⟩
theorem oC (i:Int) (t:Tok):cB (.inl i) (.int i t)=true:=by simp [cB,Value.isInt]
theorem EB (x:Str) (t:Tok):cB (.inr x) (.str x t)=true:=by simp [cB,Value.isStrOf]
theorem bL (a b:Int):decide ((Sum.inl a:Key)=Sum.inl b)=(a == b):=by
 by_cases e:a=b
 ·subst e;simp
 ·have h:¬ (Sum.inl a:Key)=Sum.inl b:=fun q=>e (Sum.inl.inj q)
  rw [decide_eq_false h]
  exact (beq_eq_false_iff_ne.mpr e).symm
theorem qL (a b:Str):decide ((Sum.inr a:Key)=Sum.inr b)=decide (a=b):=by
 by_cases e:a=b
 ·subst e;simp
 ·have h:¬ (Sum.inr a:Key)=Sum.inr b:=fun q=>e (Sum.inr.inj q)
  rw [decide_eq_false h,decide_eq_false e]
theorem rL (a:Int) (b:Str):decide ((Sum.inl a:Key)=Sum.inr b)=false:=decide_eq_false (fun q=>nomatch q)
theorem vL (a:Str) (b:Int):decide ((Sum.inr a:Key)=Sum.inl b)=false:=decide_eq_false (fun q=>nomatch q)
noncomputable def Ce (prog:Program) (w:World):PySem.KeyKind prog w Key where
 is:=cB
 hash:=RN w
 inj:=fun v a b ha hb=>by
  rcases ce ha with ⟨i,t,rfl,rfl⟩ | ⟨x,t,rfl,rfl⟩
  ·rcases ce hb with ⟨j,u,rfl,e⟩ | ⟨y,u,rfl,e⟩
   ·injection e with e1 _;rw [e1]
   ·exact nomatch e
  ·rcases ce hb with ⟨j,u,rfl,e⟩ | ⟨y,u,rfl,e⟩
   ·exact nomatch e
   ·injection e with e1 _;rw [e1]
 byValue:=fun k v h=>by
  rcases ce h with ⟨i,t,rfl,rfl⟩ | ⟨x,t,rfl,rfl⟩ <;> rfl
 pyHash:=fun hv h=>by
  rcases ce hv with ⟨i,t,rfl,rfl⟩ | ⟨x,t,rfl,rfl⟩
  ·exact wpAny_pyHash_int h
  ·exact wpAny_pyHash_str h
 eqBool:=fun hu hv h=>by
  rcases ce hu with ⟨i,t,rfl,rfl⟩ | ⟨x,t,rfl,rfl⟩
  ·rcases ce hv with ⟨j,u,rfl,rfl⟩ | ⟨y,u,rfl,rfl⟩
   ·rw [bL] at h;exact wpAny_eqBool_int h
   ·rw [rL] at h;exact SeqAt.EqAt.int_str i t y u _ _ _ _ h
  ·rcases ce hv with ⟨j,u,rfl,rfl⟩ | ⟨y,u,rfl,rfl⟩
   ·rw [vL] at h;exact SeqAt.EqAt.str_int x t j u _ _ _ _ h
   ·rw [qL] at h;exact wpAny_eqBool_str h
 «strs»:=fun k x t v h=>by
  rcases ce h with ⟨i,u,rfl,e⟩ | ⟨y,u,rfl,e⟩
  ·exact nomatch e
  ·injection e with e1 _
   subst e1
   cases v <;> rfl
theorem Jx (prog:Program) (w:World) (i:Int) (t:Tok):(Ce prog w).is (.inl i) (.int i t)=true:=oC i t
theorem Zx (prog:Program) (w:World) (x:Str) (t:Tok):(Ce prog w).is (.inr x) (.str x t)=true:=EB x t
end L2
namespace L2
open PySem PySem.Spec PyProof.Rows
inductive V where
 | non | bl (b:Bool) | int (i:Int) | str (x:Str) | byt (b:Array UInt8) | flt (b:UInt64) | ref (a:Addr) | ty (n:String)
 deriving DecidableEq
noncomputable def Ld:V→Value→Prop
 | .non,u=>u=Value.none
 | .bl b,u=>u=Value.bool b
 | .int i,u=>∃ t,u=Value.int i t
 | .str x,u=>∃ t,u=Value.str x t
 | .byt b,u=>∃ t,u=Value.bytes b t
 | .flt b,u=>∃ t,u=Value.float b t
 | .ref a,u=>u=Value.ref a
 | .ty n,u=>u=Value.type n
noncomputable abbrev Qd:List V→List Value→Prop:=Paired Ld
theorem Qd.length {xs:List V} {us:List Value} (r:Qd xs us):xs.length=us.length:=Paired.length r
theorem Qd.get:∀ {xs:List V} {us:List Value} {i:Nat} {x:V},Qd xs us→xs[i]? = some x→∃ u,us[i]? = some u∧Ld x u
 | _,_,_,_,.nil,e=>by simp at e
 | _,_,0,_,.cons r _,e=>by simp at e;subst e;exact ⟨_,rfl,r⟩
 | _,_,i + 1,x,.cons _ t,e=>by
  obtain ⟨u,h1,h2⟩:=Qd.get (i:=i) (x:=x) t (by simpa using e)
  exact ⟨u,by simpa using h1,h2⟩
theorem Qd.set {x:V} {u:Value} (r:Ld x u):∀ {xs:List V} {us:List Value} (i:Nat),Qd xs us→Qd (xs.set i x) (us.set i u)
 | _,_,_,.nil=>.nil
 | _,_,0,.cons _ t=>.cons r t
 | _,_,i + 1,.cons q t=>.cons q (Qd.set r i t)
theorem Qd.append:∀ {xs ys:List V} {us ws:List Value},Qd xs us→Qd ys ws→Qd (xs ++ ys) (us ++ ws)
 | _,_,_,_,.nil,s=>s
 | _,_,_,_,.cons r t,s=>.cons r (Qd.append t s)
theorem Qd.take:∀ {xs:List V} {us:List Value} (n:Nat),Qd xs us→Qd (xs.take n) (us.take n)
 | _,_,0,_=>.nil
 | _,_,_ + 1,.nil=>.nil
 | _,_,n + 1,.cons r t=>.cons r (Qd.take n t)
theorem Qd.drop:∀ {xs:List V} {us:List Value} (n:Nat),Qd xs us→Qd (xs.drop n) (us.drop n)
 | _,_,0,r=>r
 | _,_,_ + 1,.nil=>.nil
 | _,_,n + 1,.cons _ t=>Qd.drop n t
theorem Qd.none_of:∀ {xs:List V} {us:List Value} {i:Nat},Qd xs us→xs[i]? = none→us[i]? = none:=fun {xs us i} r e=>by
 have h1:=r.length
 have h2:xs.length ≤ i:=List.getElem?_eq_none_iff.mp e
 exact List.getElem?_eq_none_iff.mpr (by omega)
noncomputable def Wq:Option V→Option Value→Prop
 | some v,some u=>Ld v u
 | none,none=>True
 | _,_=>False
noncomputable def KV {κ:Type}:List (κ × V)→List (κ × Value)→Prop:=Paired fun (p:κ × V) (q:κ × Value)=>p.1=q.1∧Ld p.2 q.2
noncomputable def kV:Key→V
 | .inl i=>.int i
 | .inr x=>.str x
inductive HO where
  | lst (xs:List V)
  | tup (xs:List V)
  | dK (kvs:List (Key × V)) | dT (kvs:List (List Key × V))
  | set (S:Int→Bool) (n:Nat)
  | ins (C dx:Addr) (fs:List (Str × V))
  | own (x:Addr)
  | xd (fs:List (Str × V))
  | met (f x:Addr)
  | rng (lo hi:Int)
  | frz (o:Obj) (u:HO)
  | tbl (ps:Array Value)
  | ext (φ:Heap→Prop)
noncomputable abbrev Hp:=Addr→Option HO
noncomputable def upd (H:Hp) (a:Addr) (o:HO):Hp:=fun b=>if b=a then some o else H b
theorem db {H:Hp} {a:Addr} {o:HO}:upd H a o a=some o:=by unfold upd;rw [if_pos rfl]
theorem lb {H:Hp} {a b:Addr} {o:HO} (h:b ≠ a):upd H a o b=H b:=by unfold upd;rw [if_neg h]
theorem Wg {H:Hp} {a:Addr} {o u:HO}:upd (upd H a o) a u=upd H a u:=by
 funext b;unfold upd;split <;> rfl
theorem Vd {H:Hp} {a b:Addr} {o u:HO} (h:H a=some o) (h':H b=some u) (d:o ≠ u):a ≠ b:=by
 intro e;subst e;rw [h] at h';exact d (Option.some.inj h')
theorem vb {H:Hp} {a b:Addr} {o:HO} (h:H a=some o) (h':H b=none):a ≠ b:=by
 intro e;subst e;rw [h] at h';cases h'
section
variable (P:Program) (w:World)
noncomputable def zd (H:Hp) (h:Heap) (a:Addr):HO→Prop
 | .lst xs=>xs.length ≤ sizeLine∧∃ (its:List Value) (n:Nat),Qd xs its∧h.get? a=some { cls:=.type "list",data:=.seq its.toArray n }
 | .tup xs=>xs.length ≤ sizeLine∧∃ its:List Value,Qd xs its∧IsTup h a its.toArray
 | .dK kvs=>kvs.length ≤ sizeLine∧(a == sysModules)=false∧∃ vs,KV kvs vs∧h.DictOf (Ce P w) a vs
 | .dT kvs=>kvs.length ≤ sizeLine∧(a == sysModules)=false∧∃ xs:List (List Key × Addr × Value),
   Paired (fun (p:List Key × V) (q:List Key × Addr × Value)=>p.1=q.1∧H q.2.1=some (.tup (p.1.map kV))∧Ld p.2 q.2.2) kvs xs ∧
   ∃ o es ep,h.get? a=some o∧o.ExactDict∧o.data=.dict es ep∧es.toList=xs.map (entryOfKey (tupleKind (Ce P w)))∧(xs.map (·.1)).Nodup
 | .set S n=>h.SetOf (intKind P w) a S n
 | .ins C dx fs=>H dx=some (.own a)∧fs.length ≤ 1000∧dx ≠ a∧h.get? a=some (PySem.W.instObj C dx) ∧
   ∃ mA,h.Ns1 dx mA∧(∀ f,Wq (fs.lookup f) (mA f))∧PySem.Within mA (fs.map (·.1))
 | .own _=>∃ o,h.get? a=some o
 | .xd fs=>∃ mA,h.Ns1 a mA∧∀ f,Wq (fs.lookup f) (mA f)
 | .rng lo hi=>∃ t u v,h.get? a=some { cls:=.type "range",data:=.fields #[.int lo t,.int hi u,.int 1 v] }
 | .frz o u=>h.get? a=some o∧zd H h a u
 | .tbl ps=>h.get? a=some { cls:=.none,data:=.fields ps }
 | .met f x=>h.get? a=some (PySem.W.methodObj (.ref f) (.ref x))
 | .ext φ=>φ h∧(∃ o,h.get? a=some o)∧∀ h1 h2:Heap,φ h1→(∀ o,h1.get? a=some o→h2.get? a=some o)→φ h2
noncomputable def HOk (H:Hp) (h:Heap):Prop:=∀ a o,H a=some o→zd P w H h a o
end
section
variable {P:Program} {w:World} {H H':Hp} {h h':Heap} {a:Addr} {o:HO}
theorem zd.lt (x:zd P w H h a o):a < h.objs.size:=by
 cases o with
 | lst xs=>obtain ⟨_,_,_,_,e⟩:=x;exact Heap.lt_size e
 | tup xs=>obtain ⟨_,_,_,p⟩:=x;exact p.lt
 | dK kvs=>obtain ⟨_,_,_,_,o,_,_,e,_⟩:=x;exact Heap.lt_size e
 | dT kvs=>obtain ⟨_,_,_,_,o,_,_,e,_⟩:=x;exact Heap.lt_size e
 | set S n=>obtain ⟨o,_,_,_,e,_⟩:=x;exact Heap.lt_size e
 | ins C dx fs=>obtain ⟨_,_,_,e,_⟩:=x;exact Heap.lt_size e
 | own y=>obtain ⟨_,e⟩:=x;exact Heap.lt_size e
 | xd fs=>obtain ⟨_,⟨_,_,_,e,_⟩,_⟩:=x;exact Heap.lt_size e
 | rng lo hi=>obtain ⟨_,_,_,e⟩:=x;exact Heap.lt_size e
 | frz ob u=>obtain ⟨e,_⟩:=x;exact Heap.lt_size e
 | tbl ps=>exact Heap.lt_size (show h.get? a=some _ from x)
 | met f y=>exact Heap.lt_size (show h.get? a=some _ from x)
 | ext φ=>obtain ⟨_,⟨_,e⟩,_⟩:=x;exact Heap.lt_size e
theorem Paired.mapP {α β:Type} {F G:α→β→Prop}:∀ {l₁:List α} {l₂:List β},Paired F l₁ l₂→(∀ a b,F a b→G a b)→Paired G l₁ l₂
 | _,_,.nil,_=>.nil
 | _,_,.cons r t,f=>.cons (f _ _ r) (Paired.mapP t f)
theorem zd.stay (x:zd P w H h a o) (k:∀ b u,(b=a∨H b=some (.own a))→h.get? b=some u→h'.get? b=some u)
  (ho:∀ b,H b=some (.own a)→H' b=some (.own a)) (ht:∀ b xs,H b=some (.tup xs)→H' b=some (.tup xs)):zd P w H' h' a o:=by
 induction o with
 | lst xs=>obtain ⟨z,its,n,r,e⟩:=x;exact ⟨z,its,n,r,k _ _ (.inl rfl) e⟩
 | tup xs=>obtain ⟨z,its,r,ob,e,c⟩:=x;exact ⟨z,its,r,ob,k _ _ (.inl rfl) e,c⟩
 | dK kvs=>obtain ⟨z,y,vs,r,ob,es,ep,e,c⟩:=x;exact ⟨z,y,vs,r,ob,es,ep,k _ _ (.inl rfl) e,c⟩
 | dT kvs=>
  obtain ⟨z,y,xs,r,ob,es,ep,e,c⟩:=x
  exact ⟨z,y,xs,Paired.mapP r fun p q z=>⟨z.1,ht _ _ z.2.1,z.2.2⟩,ob,es,ep,k _ _ (.inl rfl) e,c⟩
 | set S n=>obtain ⟨ob,es,ep,t,e,c⟩:=x;exact ⟨ob,es,ep,t,k _ _ (.inl rfl) e,c⟩
 | ins C dx fs=>
  obtain ⟨d,z,ne,e,mA,⟨od,es,ep,e2,c⟩,r⟩:=x
  exact ⟨ho _ d,z,ne,k _ _ (.inl rfl) e,mA,⟨od,es,ep,k _ _ (.inr d) e2,c⟩,r⟩
 | own y=>obtain ⟨ob,e⟩:=x;exact ⟨ob,k _ _ (.inl rfl) e⟩
 | xd fs=>obtain ⟨mA,⟨od,es,ep,e,c⟩,r⟩:=x;exact ⟨mA,⟨od,es,ep,k _ _ (.inl rfl) e,c⟩,r⟩
 | rng lo hi=>obtain ⟨t,u,v,e⟩:=x;exact ⟨t,u,v,k _ _ (.inl rfl) e⟩
 | frz ob u ih=>obtain ⟨e,q⟩:=x;exact ⟨k _ _ (.inl rfl) e,ih q⟩
 | tbl ps=>
  have e:h.get? a=some { cls:=.none,data:=.fields ps }:=x
  show h'.get? a=some { cls:=.none,data:=.fields ps }
  exact k a _ (.inl rfl) e
 | met f y=>
  have e:h.get? a=some (PySem.W.methodObj (.ref f) (.ref y)):=x
  show h'.get? a=some (PySem.W.methodObj (.ref f) (.ref y))
  exact k a _ (.inl rfl) e
 | ext φ=>obtain ⟨p,⟨o,e⟩,st⟩:=x;exact ⟨st _ _ p fun o q=>k _ _ (.inl rfl) q,⟨o,k _ _ (.inl rfl) e⟩,st⟩
theorem HOk.lt (x:HOk P w H h) (e:H a=some o):a < h.objs.size:=(x a o e).lt
theorem HOk.fresh (x:HOk P w H h) (e:h.objs.size ≤ a):H a=none:=by
 cases q:H a with
 | none=>rfl
 | some u=>exact absurd (Nat.lt_of_lt_of_le (x.lt q) e) (Nat.lt_irrefl _)
theorem HOk.kept (x:HOk P w H h) (k:∀ b u,h.get? b=some u→h'.get? b=some u):HOk P w H h':=fun a o e=>
 (x a o e).stay (fun b u _ q=>k b u q) (fun _ q=>q) fun _ _ q=>q
theorem HOk.laid (x:HOk P w H h) (k:∀ b u,h.get? b=some u→h'.get? b=some u) (hp:h.objs.size ≤ a) (new:zd P w (upd H a o) h' a o):HOk P w (upd H a o) h':=fun b u e=>by
 have hn:=x.fresh hp
 by_cases hb:b=a
 ·subst hb;rw [db] at e;cases e;exact new
 ·rw [lb hb] at e
  exact (x b u e).stay (fun c v _ q=>k c v q) (fun c q=>by rw [lb (vb q hn)];exact q) fun c xs q=>by rw [lb (vb q hn)];exact q
end
noncomputable def Rd (H:Hp) (a:Addr) (u:HO):Prop:=H a=some u∨∃ o,H a=some (.frz o u)
theorem Rd.of {H:Hp} {a:Addr} {u:HO} (h:H a=some u):Rd H a u:=.inl h
theorem Rd.ok {P:Program} {w:World} {H:Hp} {h:Heap} {a:Addr} {u:HO} (r:Rd H a u) (x:HOk P w H h):zd P w H h a u:=by
 rcases r with r | ⟨o,r⟩
 ·exact x a u r
 ·obtain ⟨_,q⟩:=x a _ r
  exact q
noncomputable def Mut:Option HO→Prop
 | some (.lst _)=>True
 | some (.dK _)=>True
 | some (.dT _)=>True
 | some (.set _ _)=>True
 | some (.ins _ _ _)=>True
 | some (.ext _)=>True
 | _=>False
section
variable {P:Program} {w:World} {H:Hp} {h h':Heap} {x e:Addr} {o':HO}
theorem HOk.write (ok:HOk P w H h) (mu:Mut (H x)) (he:e=x∨H e=some (.own x)) (k:∀ b u,b ≠ e→h.get? b=some u→h'.get? b=some u) (heo:∃ u,h'.get? e=some u)
  (new:zd P w (upd H x o') h' x o'):HOk P w (upd H x o') h':=fun b u q=>by
 have nown:∀ c y,H c=some (.own y)→c ≠ x:=fun c y r z=>by subst z;rw [r] at mu;exact mu
 have ntup:∀ c xs,H c=some (.tup xs)→c ≠ x:=fun c xs r z=>by subst z;rw [r] at mu;exact mu
 by_cases hb:b=x
 ·subst hb;rw [db] at q;cases q;exact new
 ·rw [lb hb] at q
  by_cases hbe:b=e
  ·have q':H b=some (.own x):=by
    rcases he with z | z
    ·exact absurd (hbe.trans z) hb
    ·rw [hbe];exact z
   rw [q] at q';cases q'
   obtain ⟨v,hv⟩:=heo
   exact ⟨v,by rw [hbe];exact hv⟩
  ·refine (ok b u q).stay (fun c v hc r=>k c v ?_ r) (fun c r=>by rw [lb (nown c b r)];exact r) fun c xs r=>by rw [lb (ntup c xs r)];exact r
   rcases hc with rfl | hc
   ·exact hbe
   ·rintro rfl
    rcases he with z | z
    ·exact nown c b hc z
    ·rw [hc] at z;cases z;exact hb rfl
end
structure Un (fs ex:List Addr) (H H':Hp) (h h':Heap):Prop where
 keep:∀ b o,h.get? b=some o→H b=none→b ∉ fs→b ∉ ex→h'.get? b=some o
 slot:∀ b o,h.get? b=some o→H b=none→b ∈ fs→b ∉ ex→∃ sl,h'.get? b=some { o with slots:=sl }
 free:∀ b o,h.get? b=some o→H b=none→b ∉ ex→H' b=none
 there:∀ b o,h.get? b=some o→b ∉ ex→∃ o',h'.get? b=some o'
 tups:∀ b xs,H b=some (.tup xs)→H' b=some (.tup xs)
 frzs:∀ b o u,H b=some (.frz o u)→H' b=some (.frz o u)
 tbls:∀ b ps,H b=some (.tbl ps)→∃ more,H' b=some (.tbl (ps ++ more))
section
variable {fs fs' ex ex':List Addr} {H H1 H2:Hp} {h h1 h2 h':Heap} {a x e:Addr} {o:HO}
theorem Un.any (u:Un fs ex H H1 h h1) {b:Addr} {ob:Obj} (q:h.get? b=some ob) (n:H b=none) (hx:b ∉ ex):∃ sl,h1.get? b=some { ob with slots:=sl }:=by
 by_cases hb:b ∈ fs
 ·exact u.slot b ob q n hb hx
 ·exact ⟨ob.slots,u.keep b ob q n hb hx⟩
theorem Un.trans (a:Un fs ex H H1 h h1) (b:Un fs ex H1 H2 h1 h2):Un fs ex H H2 h h2 where
 keep:=fun c ob q n hc hx=>b.keep c ob (a.keep c ob q n hc hx) (a.free c ob q n hx) hc hx
 slot:=fun c ob q n hc hx=>by
  obtain ⟨sl,e1⟩:=a.slot c ob q n hc hx
  obtain ⟨sl',e2⟩:=b.slot c _ e1 (a.free c ob q n hx) hc hx
  exact ⟨sl',e2⟩
 free:=fun c ob q n hx=>by
  obtain ⟨o',e1⟩:=a.there c ob q hx
  exact b.free c o' e1 (a.free c ob q n hx) hx
 there:=fun c ob q hx=>by
  obtain ⟨o',e1⟩:=a.there c ob q hx
  exact b.there c o' e1 hx
 tups:=fun c xs q=>b.tups c xs (a.tups c xs q)
 frzs:=fun c ob xs q=>b.frzs c ob xs (a.frzs c ob xs q)
 tbls:=fun c ps q=>by
  obtain ⟨m1,e1⟩:=a.tbls c ps q
  obtain ⟨m2,e2⟩:=b.tbls c _ e1
  exact ⟨m1 ++ m2,by rw [e2,Array.append_assoc]⟩
theorem Un.kept (k:∀ b u,h.get? b=some u→h'.get? b=some u):Un fs ex H H h h':=
 ⟨fun b ob q _ _ _=>k b ob q,fun b ob q _ _ _=>⟨ob.slots,k b ob q⟩,fun _ _ _ n _=>n,fun b ob q _=>⟨ob,k b ob q⟩,fun _ _ q=>q,fun _ _ _ q=>q,fun _ ps q=>⟨#[],by rw [q];simp⟩⟩
theorem Un.refl:Un fs ex H H h h:=Un.kept fun _ _ q=>q
theorem Un.laid (k:∀ b u,h.get? b=some u→h'.get? b=some u) (hp:h.objs.size ≤ a) (hn:H a=none):Un fs ex H (upd H a o) h h' where
 keep:=fun b u q _ _ _=>k b u q
 slot:=fun b u q _ _ _=>⟨u.slots,k b u q⟩
 free:=fun b u q n _=>by rw [lb (Nat.ne_of_lt (Nat.lt_of_lt_of_le (Heap.lt_size q) hp))];exact n
 there:=fun b u q _=>⟨u,k b u q⟩
 tups:=fun b xs q=>by rw [lb (vb q hn)];exact q
 frzs:=fun b u xs q=>by rw [lb (vb q hn)];exact q
 tbls:=fun b ps q=>⟨#[],by rw [lb (vb q hn),q];simp⟩
theorem Un.write (mu:Mut (H x)) (he:e=x∨H e=some (.own x)) (k:∀ b u,b ≠ e→h.get? b=some u→h'.get? b=some u) (heo:∃ u,h'.get? e=some u):Un fs ex H (upd H x o) h h':=by
 have hx:∀ b,H b=none→b ≠ x:=fun b n z=>by subst z;rw [n] at mu;exact mu
 have hb:∀ b,H b=none→b ≠ e:=fun b n z=>by
  subst z
  rcases he with r | r
  ·exact hx b n r
  ·rw [n] at r;cases r
 have hm:∀ b u,H b=some u→¬ Mut (some u)→b ≠ x:=fun b u q nm z=>by subst z;rw [q] at mu;exact nm mu
 refine ⟨fun b u q n _ _=>k b u (hb b n) q,fun b u q n _ _=>⟨u.slots,k b u (hb b n) q⟩,fun b u q n _=>by rw [lb (hx b n)];exact n,fun b u q _=>?_,
  fun b xs q=>by rw [lb (hm b _ q fun z=>z)];exact q,fun b u xs q=>by rw [lb (hm b _ q fun z=>z)];exact q,fun b ps q=>⟨#[],by rw [lb (hm b _ q fun z=>z),q];simp⟩⟩
 by_cases hbe:b=e
 ·subst hbe;exact heo
 ·exact ⟨u,k b u hbe q⟩
theorem Un.mono (u:Un fs ex H H1 h h1) (hs:∀ b ∈ fs,b ∈ fs') (hx:∀ b ∈ ex,b ∈ ex'):Un fs' ex' H H1 h h1:=
 ⟨fun b ob q n hb he=>u.keep b ob q n (fun z=>hb (hs b z)) fun z=>he (hx b z),fun _ _ q n _ he=>u.any q n fun z=>he (hx _ z),fun b ob q n he=>u.free b ob q n fun z=>he (hx b z),fun b ob q he=>u.there b ob q fun z=>he (hx b z),u.tups,u.frzs,u.tbls⟩
end
noncomputable def trk (h:Heap) (H:Hp):List Addr:=(List.range h.objs.size).filter fun a=>(H a).isSome
noncomputable def xF (h:Heap) (H:Hp):Heap:=PySem.W.hideAll h (trk h H)
theorem ID (h:Heap) (H:Hp):(xF h H).objs.size=h.objs.size:=PySem.W.hideAll_size _ _
theorem pG {h:Heap} {H:Hp} {b:Addr} {o:Obj} (e:h.get? b=some o) (n:H b=none):(xF h H).get? b=some o:=
 PySem.W.hideAll_get _ e fun hm=>by
  have q:(H b).isSome=true:=(List.mem_filter.mp hm).2
  rw [n] at q;simp at q
theorem KJ {h:Heap} {H:Hp} {b:Addr} {o:Obj} (e:(xF h H).get? b=some o):h.get? b=some o∧H b=none:=by
 have e':h.get? b=some o:=PySem.W.of_hideAll (trk h H) e
 refine ⟨e',?_⟩
 cases q:H b with
 | none=>rfl
 | some x=>
  have hm:b ∈ trk h H:=List.mem_filter.mpr ⟨List.mem_range.mpr (Heap.lt_size e'),by simp [q]⟩
  have z:(xF h H).get? b=none:=PySem.W.hideAll_none (trk h H) hm
  rw [z] at e;cases e
noncomputable def fK (g h:Heap) (L:Addr):List (Addr × Obj):=(List.range h.objs.size).filterMap fun a=>if a=L∨(g.get? a).isSome=true then none else (h.get? a).map fun o=>(a,o)
noncomputable def rest (g h:Heap) (L d:Addr):List (Addr × Obj):=(fK g h L).filter fun p=>decide (p.1 ≠ d)
end L2
namespace L2
open PySem PySem.Spec PyProof.Rows
structure Mod (K:PySem.W.Frag) (mg:Str→Option Value) (base:Heap):Prop where
 kin:K.In base
 glob:base.Ns mainGlobals mg
 blt:∃ mb,base.Ns builtinsNs mb∧∀ x:Str,x ≠ "__name__" → mb x=bootBuiltins x
 nolimit:base.NoLimit
structure Cx where
 prog:Program
 w:World
 K:PySem.W.Frag
 mg:Str→Option Value
 base:Heap
 A:Around
 N:List Str
 s₀:Shared
 H₀:Hp
 env:Env
 outer:List Env
 stack:List Env
 ex:List Addr
 fn:Str→Bool
 calm:Bool
 pn:List (Addr × Obj)
 xe:Value→Shared→Prop
noncomputable def frs (l:List Env):List Addr:=l.filterMap (·.frame)
noncomputable abbrev Cx.fs (X:Cx):List Addr:=frs X.outer
noncomputable def Vis (sc:Scope) (x:Str):Prop:=sc.names.lookup x=some .local∨sc.names.lookup x=some .cell∨sc.names.lookup x=some .free
noncomputable def Loc (sc:Scope) (x:Str):Prop:=sc.names.lookup x=some .local∨sc.names.lookup x=some .cell
noncomputable def TN (env:Env) (h:Heap) (m:Str→Option Value) (x:Str) (u:Value):Prop:=
 (env.kindOf x=some .local∧m x=some u)∨((env.kindOf x=some .cell∨env.kindOf x=some .free)∧∃ c,env.cells.lookup x=some c∧h.IsCell c (some u))
structure Cx.Ok (X:Cx):Prop where
 mod:Mod X.K X.mg X.base
 kind:X.env.scope.kind=.function
 glob:X.env.globals=mainGlobals
 blt:X.env.builtins=builtinsNs
 above:X.s₀.heap.objs.size ≤ X.env.locals
 inj:∀ x y c,X.env.cells.lookup x=some c→X.env.cells.lookup y=some c→x=y
 has:∀ x,(X.env.kindOf x=some .cell∨X.env.kindOf x=some .free)→∃ c,X.env.cells.lookup x=some c
 cab:∀ x c,X.fn x=true→X.env.cells.lookup x=some c→X.s₀.heap.objs.size ≤ c
 hd:X.calm=true→X.A.handled=none
 frames:X.A.frames=some X.stack
 stk:X.stack=X.outer∨(X.stack=X.env :: X.outer∧X.env.frame=some X.env.locals)
 exf:∀ b ∈ X.ex,b ≠ X.env.locals∧∀ x c,X.env.cells.lookup x=some c→c ≠ b
 bs:∀ b o,X.base.get? b=some o→X.s₀.heap.get? b=some o∧X.H₀ b=none
 bsz:X.base.objs.size ≤ X.s₀.heap.objs.size
 noex:∀ b o,X.base.get? b=some o→b ∉ X.ex
 exfs:∀ b ∈ X.ex,b ∉ X.fs
 funs:X.s₀.heap.FunFrames X.base X.outer
 frf:∀ b ∈ X.fs,X.H₀ b=none
structure Inv (X:Cx) (pins:List (Addr × Obj)) (σ:List (Option V)) (H:Hp) (s:Shared):Prop where
 ok:X.Ok
 os:s.os=X.s₀.os
 bare:AllBare s.gens
 base:Un X.fs X.ex X.H₀ H X.s₀.heap s.heap
 loc:∃ m,s.heap.Ns X.env.locals m∧∀ (i:Nat) (x:Str) (v:V),X.N[i]? = some x→σ[i]? = some (some v)→Vis X.env.scope x→∃ u,Ld v u∧TN X.env s.heap m x u
 cell:∀ x c,X.env.cells.lookup x=some c→∃ v,s.heap.IsCell c v
 free:H X.env.locals=none
 freeC:∀ x c,X.env.cells.lookup x=some c→H c=none
 pin:∀ p ∈ X.pn ++ pins,s.heap.get? p.1=some p.2∧H p.1=none∧p.1 ≠ X.env.locals∧p.1 ∉ X.fs∧∀ v,p.2.data ≠ .cell v
 hok:HOk X.prog X.w H s.heap
 len:σ.length=X.N.length
section
variable {X:Cx} {pins:List (Addr × Obj)} {σ:List (Option V)} {H H':Hp} {s:Shared} {h':Heap}
theorem Cx.Ok.nofr (ok:X.Ok) {b:Addr} {o:Obj} (e:X.base.get? b=some o):b ∉ X.fs:=fun hb=>by
 have:=(ok.funs.mem hb).1
 rw [e] at this;cases this
theorem Inv.bs (I:Inv X pins σ H s):∀ b o,X.base.get? b=some o→s.heap.get? b=some o∧H b=none:=fun b o e=>
 ⟨I.base.keep b o (I.ok.bs b o e).1 (I.ok.bs b o e).2 (I.ok.nofr e) (I.ok.noex b o e),I.base.free b o (I.ok.bs b o e).1 (I.ok.bs b o e).2 (I.ok.noex b o e)⟩
theorem Inv.bk (I:Inv X pins σ H s):∀ b o,X.base.get? b=some o→s.heap.get? b=some o:=fun b o e=>(I.bs b o e).1
theorem Inv.mod (I:Inv X pins σ H s):Mod X.K X.mg X.base:=I.ok.mod
theorem Inv.kIn (I:Inv X pins σ H s):X.K.In s.heap:=I.ok.mod.kin.keeps I.bk
theorem Inv.nolimit (I:Inv X pins σ H s):s.heap.NoLimit:=I.ok.mod.nolimit.keeps I.bk
theorem Inv.fr (I:Inv X pins σ H s):∃ m,Fr X.base X.env.locals s.heap m:=
 let ⟨m,hn,_⟩:=I.loc
 ⟨m,hn,I.bk,Nat.le_trans I.ok.bsz I.ok.above⟩
theorem Inv.lt (I:Inv X pins σ H s):X.env.locals < s.heap.objs.size:=let ⟨_,hn,_⟩:=I.loc;hn.lt
theorem Inv.sz (I:Inv X pins σ H s):X.s₀.heap.objs.size ≤ s.heap.objs.size:=Nat.le_trans I.ok.above (Nat.le_of_lt I.lt)
theorem Inv.nofs (I:Inv X pins σ H s) {a:Addr} (h:s.heap.objs.size ≤ a):a ∉ X.fs:=fun hb=>by
 obtain ⟨_,o,ho,_⟩:=I.ok.funs.mem hb
 exact absurd (Nat.lt_of_lt_of_le (Heap.lt_size ho) (Nat.le_trans I.sz h)) (Nat.lt_irrefl _)
theorem Inv.cne (I:Inv X pins σ H s):∀ x c,X.env.cells.lookup x=some c→c ≠ X.env.locals:=fun x c e z=>by
 obtain ⟨v,o,ho,hd⟩:=I.cell x c e
 obtain ⟨m,⟨o',es,ep,ho',hd',_⟩,_⟩:=I.loc
 rw [z,ho'] at ho;cases ho;rw [hd'] at hd;cases hd
theorem Inv.funs (I:Inv X pins σ H s):s.heap.FunFrames X.base X.outer:=by
 have all:∀ (l:List Env),(∀ b ∈ frs l,b ∈ X.fs)→X.s₀.heap.FunFrames X.base l→s.heap.FunFrames X.base l:=by
  intro l
  induction l with
  | nil=>intro _ _;trivial
  | cons env r ih=>
   intro hs hl
   obtain ⟨hk,⟨L,o,hf,hn,ho,hd⟩,hr⟩:=hl
   have hL:L ∈ X.fs:=hs L (by unfold frs;rw [List.filterMap_cons,hf];exact List.mem_cons_self)
   obtain ⟨sl,e⟩:=I.base.slot L o ho (I.ok.frf L hL) hL fun z=>I.ok.exfs L z hL
   exact ⟨hk,⟨L,_,hf,hn,e,hd⟩,ih (fun b hb=>hs b (by unfold frs;rw [List.filterMap_cons,hf];exact List.mem_cons_of_mem _ hb)) hr⟩
 exact all X.outer (fun _ hb=>hb) I.ok.funs
theorem Inv.stack (I:Inv X pins σ H s):s.heap.FunFrames X.base X.stack:=by
 rcases I.ok.stk with e | ⟨e,hf⟩
 ·rw [e];exact I.funs
 ·rw [e]
  obtain ⟨m,hn,_⟩:=I.loc
  refine .cons (by rw [I.ok.kind];decide) hf hn ?_ I.funs
  exact Heap.get?_none_of_le (Nat.le_trans I.ok.bsz I.ok.above)
theorem Inv.stkSub (I:Inv X pins σ H s):∀ b ∈ frs X.stack,b ∈ X.env.locals :: X.fs:=fun b hb=>by
 rcases I.ok.stk with e | ⟨e,hf⟩
 ·rw [e] at hb;exact List.mem_cons_of_mem _ hb
 ·rw [e] at hb
  unfold frs at hb
  rw [List.filterMap_cons,hf] at hb
  exact hb
theorem Inv.stkFree (I:Inv X pins σ H s):∀ b ∈ frs X.stack,H b=none:=fun b hb=>by
 rcases List.mem_cons.mp (I.stkSub b hb) with e | hb
 ·rw [e];exact I.free
 ·obtain ⟨_,o,ho,_⟩:=I.ok.funs.mem hb
  exact I.base.free b o ho (I.ok.frf b hb) fun z=>I.ok.exfs b z hb
theorem Inv.step {g':Array GenState} {t':Nat} {d':Drawn} {ch:List Addr} (I:Inv X pins σ H s)
  (hch:∀ b ∈ ch,(b ∈ X.ex∨X.s₀.heap.objs.size ≤ b)∧b ≠ X.env.locals∧(∀ x c,X.env.cells.lookup x=some c→c ≠ b)∧∀ p ∈ X.pn ++ pins,p.1 ≠ b)
  (keep:∀ b o,b ≠ X.env.locals→b ∉ X.fs→b ∉ ch→s.heap.get? b=some o→H b=none→h'.get? b=some o)
  (slot:∀ b o,b ≠ X.env.locals→b ∈ X.fs→b ∉ ch→s.heap.get? b=some o→H b=none→∃ sl,h'.get? b=some { o with slots:=sl }) (free:∀ b o,b ∉ ch→s.heap.get? b=some o→H b=none→H' b=none)
  (there:∀ b o,b ∉ ch→s.heap.get? b=some o→∃ o',h'.get? b=some o')
  (tups:∀ b xs,H b=some (.tup xs)→H' b=some (.tup xs)) (frzs:∀ b o u,H b=some (.frz o u)→H' b=some (.frz o u)) (tbls:∀ b ps,H b=some (.tbl ps)→∃ more,H' b=some (.tbl (ps ++ more)))
  (ns:∀ m,s.heap.Ns X.env.locals m→h'.Ns X.env.locals m) (hok:HOk X.prog X.w H' h') (hg:AllBare g') :
  Inv X pins σ H' { s with heap:=h',gens:=g',drawn:=d',toks:=t' }:=by
 have neL:∀ b o,X.s₀.heap.get? b=some o→b ≠ X.env.locals:=fun b o e=>Nat.ne_of_lt (Nat.lt_of_lt_of_le (Heap.lt_size e) I.ok.above)
 have neC:∀ b o,X.s₀.heap.get? b=some o→b ∉ X.ex→b ∉ ch:=fun b o e hx hb=>by
  rcases (hch b hb).1 with z | z
  ·exact hx z
  ·exact absurd (Nat.lt_of_lt_of_le (Heap.lt_size e) z) (Nat.lt_irrefl _)
 have cellK:∀ x c,X.env.cells.lookup x=some c→∀ v,s.heap.IsCell c v→h'.IsCell c v:=fun x c e v ⟨o,ho,hd⟩=>by
  have nch:c ∉ ch:=fun z=>(hch c z).2.2.1 x c e rfl
  by_cases hc:c ∈ X.fs
  ·obtain ⟨sl,q⟩:=slot c o (I.cne x c e) hc nch ho (I.freeC x c e)
   exact ⟨_,q,hd⟩
  ·exact ⟨o,keep c o (I.cne x c e) hc nch ho (I.freeC x c e),hd⟩
 refine ⟨I.ok,I.os,hg,⟨fun b o e n hb hx=>?_,fun b o e n hb hx=>?_,fun b o e n hx=>?_,fun b o e hx=>?_,fun b xs e=>tups b xs (I.base.tups b xs e),fun b o xs e=>frzs b o xs (I.base.frzs b o xs e),fun b ps e=>?_⟩,?_,fun x c e=>?_,?_,fun x c e=>?_,fun p hp=>?_,hok,I.len⟩
 ·exact keep b o (neL b o e) hb (neC b o e hx) (I.base.keep b o e n hb hx) (I.base.free b o e n hx)
 ·obtain ⟨sl,e1⟩:=I.base.slot b o e n hb hx
  obtain ⟨sl',e2⟩:=slot b _ (neL b o e) hb (neC b o e hx) e1 (I.base.free b o e n hx)
  exact ⟨sl',e2⟩
 ·obtain ⟨o',e1⟩:=I.base.there b o e hx
  exact free b o' (neC b o e hx) e1 (I.base.free b o e n hx)
 ·obtain ⟨o',e1⟩:=I.base.there b o e hx
  exact there b o' (neC b o e hx) e1
 ·obtain ⟨m1,e1⟩:=I.base.tbls b ps e
  obtain ⟨m2,e2⟩:=tbls b _ e1
  exact ⟨m1 ++ m2,by rw [e2,Array.append_assoc]⟩
 ·obtain ⟨m,hn,hl⟩:=I.loc
  refine ⟨m,ns m hn,fun i x v e1 e2 e3=>?_⟩
  obtain ⟨u,r,l⟩:=hl i x v e1 e2 e3
  refine ⟨u,r,?_⟩
  rcases l with l | ⟨k,c,e,z⟩
  ·exact .inl l
  ·exact .inr ⟨k,c,e,cellK x c e _ z⟩
 ·obtain ⟨v,z⟩:=I.cell x c e
  exact ⟨v,cellK x c e v z⟩
 ·obtain ⟨m,⟨o,_,_,ho,_⟩,_⟩:=I.loc
  exact free _ o (fun z=>(hch _ z).2.1 rfl) ho I.free
 ·obtain ⟨v,o,ho,hd⟩:=I.cell x c e
  exact free c o (fun z=>(hch c z).2.2.1 x c e rfl) ho (I.freeC x c e)
 ·obtain ⟨e,n,ne,nf,d⟩:=I.pin p hp
  have nch:p.1 ∉ ch:=fun z=>(hch p.1 z).2.2.2 p hp rfl
  exact ⟨keep p.1 p.2 ne nf nch e n,free p.1 p.2 nch e n,ne,nf,d⟩
theorem Inv.un {t':Nat} (I:Inv X pins σ H s) (u:Un X.fs [] H H' s.heap h') (hok:HOk X.prog X.w H' h'):Inv X pins σ H' { s with heap:=h',toks:=t' }:=by
 obtain ⟨m,⟨o,es,ep,ho,r⟩,_⟩:=id I.loc
 obtain ⟨sl,hL⟩:=u.any ho I.free (by simp)
 exact I.step (g':=s.gens) (d':=s.drawn) (ch:=[]) (fun _ z=>nomatch z) (fun b o _ hb _ e n=>u.keep b o e n hb (by simp)) (fun b o _ hb _ e n=>u.slot b o e n hb (by simp)) (fun b o _ e n=>u.free b o e n (by simp)) (fun b o _ e=>u.there b o e (by simp)) u.tups u.frzs u.tbls (fun m' hm=>by
  obtain ⟨o',es',ep',ho',r'⟩:=hm
  rw [ho] at ho';cases ho'
  exact ⟨_,es',ep',hL,r'⟩) hok I.bare
theorem Inv.call {g':Array GenState} {t':Nat} {d':Drawn} {ch:List Addr} (I:Inv X pins σ H s) (u:Un (frs X.stack) ch H H' s.heap h') (hok:HOk X.prog X.w H' h') (hg:AllBare g')
  (hch:∀ b ∈ ch,(b ∈ X.ex∨X.s₀.heap.objs.size ≤ b)∧b ≠ X.env.locals∧(∀ x c,X.env.cells.lookup x=some c→c ≠ b)∧∀ p ∈ X.pn ++ pins,p.1 ≠ b) :
  Inv X pins σ H' { s with heap:=h',gens:=g',drawn:=d',toks:=t' }:=by
 obtain ⟨m,⟨o,es,ep,ho,r⟩,_⟩:=id I.loc
 obtain ⟨sl,hL⟩:=u.any ho I.free fun z=>(hch _ z).2.1 rfl
 exact I.step (ch:=ch) hch (fun b o hL hb hc e n=>u.keep b o e n (fun z=>(List.mem_cons.mp (I.stkSub b z)).elim hL hb) hc) (fun b o _ _ hc e n=>u.any e n hc) (fun b o hc e n=>u.free b o e n hc) (fun b o hc e=>u.there b o e hc) u.tups u.frzs u.tbls (fun m' hm=>by
  obtain ⟨o',es',ep',ho',r'⟩:=hm
  rw [ho] at ho';cases ho'
  exact ⟨_,es',ep',hL,r'⟩) hok hg
theorem Inv.turned {t':Nat} {it:Addr} (I:Inv X pins σ H s) (k:∀ b o,b ≠ it→s.heap.get? b=some o→h'.get? b=some o) (hn:H it=none) (hL:it ≠ X.env.locals)
  (h1:it ∈ X.ex∨X.s₀.heap.objs.size ≤ it) (h2:∀ x c,X.env.cells.lookup x=some c→c ≠ it) (h3:∀ p ∈ X.pn ++ pins,p.1 ≠ it):Inv X pins σ H { s with heap:=h',toks:=t' }:=by
 have nit:∀ b u,H b=some u→b ≠ it:=fun b u e z=>by rw [z,hn] at e;cases e
 refine I.step (g':=s.gens) (d':=s.drawn) (ch:=[it]) (fun b hb=>?_) (fun b o _ _ hc e _=>k b o (fun z=>hc (by simp [z])) e) (fun b o _ _ hc e _=>⟨o.slots,k b o (fun z=>hc (by simp [z])) e⟩) (fun _ _ _ _ n=>n)
  (fun b o hc e=>⟨o,k b o (fun z=>hc (by simp [z])) e⟩) (fun _ _ e=>e) (fun _ _ _ e=>e) (fun b ps e=>⟨#[],by rw [e];simp⟩) (fun m hm=>?_) (fun b u e=>?_) I.bare
 ·have e:b=it:=by simpa using hb
  subst e
  exact ⟨h1,hL,h2,h3⟩
 ·obtain ⟨o,es,ep,ho,r⟩:=hm
  exact ⟨o,es,ep,k _ o (Ne.symm hL) ho,r⟩
 ·refine (I.hok b u e).stay (fun c v hc q=>k c v ?_ q) (fun _ q=>q) fun _ _ q=>q
  rcases hc with z | z
  ·rw [z];exact nit b u e
  ·exact nit c _ z
theorem Inv.tok (I:Inv X pins σ H s) (t:Nat):Inv X pins σ H { s with toks:=t }:=I.un (h':=s.heap) (t':=t) Un.refl I.hok
theorem Inv.kept {t':Nat} (I:Inv X pins σ H s) (k:∀ b u,s.heap.get? b=some u→h'.get? b=some u):Inv X pins σ H { s with heap:=h',toks:=t' }:=I.un (Un.kept k) (I.hok.kept k)
theorem Inv.laid {a:Addr} {o:HO} {t':Nat} (I:Inv X pins σ H s) (k:∀ b u,s.heap.get? b=some u→h'.get? b=some u) (hp:s.heap.objs.size ≤ a) (new:zd X.prog X.w (upd H a o) h' a o) :
  Inv X pins σ (upd H a o) { s with heap:=h',toks:=t' }:=I.un (Un.laid k hp (I.hok.fresh hp)) (I.hok.laid k hp new)
theorem Inv.write {x e:Addr} {o:HO} {t':Nat} (I:Inv X pins σ H s) (mu:Mut (H x)) (he:e=x∨H e=some (.own x)) (k:∀ b u,b ≠ e→s.heap.get? b=some u→h'.get? b=some u) (heo:∃ u,h'.get? e=some u)
  (new:zd X.prog X.w (upd H x o) h' x o):Inv X pins σ (upd H x o) { s with heap:=h',toks:=t' }:=I.un (Un.write mu he k heo) (I.hok.write mu he k heo new)
theorem Inv.weak {σ':List (Option V)} (I:Inv X pins σ H s) (hl:σ'.length=σ.length) (w:∀ (i:Nat) v,σ'[i]? = some (some v)→σ[i]? = some (some v)):Inv X pins σ' H s:=
 ⟨I.ok,I.os,I.bare,I.base,let ⟨m,hn,hl'⟩:=I.loc;⟨m,hn,fun i x v e1 e2 e3=>hl' i x v e1 (w i v e2) e3⟩,I.cell,I.free,I.freeC,I.pin,I.hok,hl.trans I.len⟩
theorem Inv.pins_of {pins':List (Addr × Obj)} (I:Inv X pins σ H s) (h:∀ p ∈ pins',s.heap.get? p.1=some p.2∧H p.1=none∧p.1 ≠ X.env.locals∧p.1 ∉ X.fs∧∀ v,p.2.data ≠ .cell v):Inv X pins' σ H s:=
 ⟨I.ok,I.os,I.bare,I.base,I.loc,I.cell,I.free,I.freeC,fun p hp=>(List.mem_append.mp hp).elim (fun z=>I.pin p (List.mem_append_left _ z)) (h p),I.hok,I.len⟩
theorem gz {N:List Str} (hN:N.Nodup) {i j:Nat} {x:Str} (a:N[i]? = some x) (b:N[j]? = some x):i=j:=by
 obtain ⟨h1,e1⟩:=List.getElem?_eq_some_iff.mp a
 obtain ⟨h2,e2⟩:=List.getElem?_eq_some_iff.mp b
 exact (List.getElem_inj hN).mp (e1.trans e2.symm)
theorem nw {M:Model} {A:Around} {E:Value→Shared→Prop} {i:Nat} {x:Str} {v:V} {u:Value} {Q:Unit→Shared→Prop} (I:Inv X pins σ H s) (hN:X.N.Nodup) (hi:X.N[i]? = some x) (hx:Loc X.env.scope x) (r:Ld v u)
  (h:∀ s',Inv X pins (σ.set i (some v)) H s'→(∃ a,Heap.SameBut a s.heap s'.heap∧(a=X.env.locals∨X.env.cells.lookup x=some a))→Q () s') (hf:X.fn x=true∨X.env.scope.names.lookup x=some .local:=by first | exact .inl rfl | exact .inr rfl | assumption):wpAny M A (storeName X.env x u) Q E s:=by
 obtain ⟨m,hn,hl⟩:=id I.loc
 have hcls:(X.env.scope.kind == .class || (X.env.scope.kind == .module && X.env.locals != X.env.globals))=false:=by rw [I.ok.kind];rfl
 have hiσ:i < σ.length:=by rw [I.len];exact (List.getElem?_eq_some_iff.mp hi).1
 have cne:=I.cne
 have tracked:∀ {a:Addr} {h':Heap},(∃ o,s.heap.get? a=some o∧H a=none)→Heap.SameBut a s.heap h'→HOk X.prog X.w H h':=fun {a h'} ha hs b ob e=>by
  obtain ⟨_,_,hfree⟩:=ha
  refine (I.hok b ob e).stay (fun c w' hc q=>(hs.2 c ?_).trans q) (fun _ q=>q) fun _ _ q=>q
  rintro rfl
  rcases hc with rfl | hc
  ·rw [hfree] at e;cases e
  ·rw [hfree] at hc;cases hc
 rcases hx with hk | hk
 ·refine wpAny_storeName_local hk hn (fun h' hn' hs=>?_) hcls
  obtain ⟨oL,_,_,hoL,_⟩:=id hn
  refine h _ ⟨I.ok,I.os,I.bare,⟨fun b o e n hb hx=>?_,fun b o e n hb hx=>?_,I.base.free,fun b o e hx=>?_,I.base.tups,I.base.frzs,I.base.tbls⟩,⟨_,hn',fun j y v' e1 e2 e3=>?_⟩,fun y c e=>?_,I.free,I.freeC,fun p hp=>?_,tracked ⟨oL,hoL,I.free⟩ hs,by simpa using I.len⟩ ⟨_,hs,.inl rfl⟩
  ·exact (hs.2 b (Nat.ne_of_lt (Nat.lt_of_lt_of_le (Heap.lt_size e) I.ok.above))).trans (I.base.keep b o e n hb hx)
  ·obtain ⟨sl,e1⟩:=I.base.slot b o e n hb hx
   exact ⟨sl,(hs.2 b (Nat.ne_of_lt (Nat.lt_of_lt_of_le (Heap.lt_size e) I.ok.above))).trans e1⟩
  ·obtain ⟨o',e1⟩:=I.base.there b o e hx
   exact ⟨o',(hs.2 b (Nat.ne_of_lt (Nat.lt_of_lt_of_le (Heap.lt_size e) I.ok.above))).trans e1⟩
  ·by_cases hj:j=i
   ·subst hj
    rw [hi] at e1;cases e1
    rw [List.getElem?_set_self hiσ] at e2
    cases e2
    exact ⟨u,r,.inl ⟨hk,by simp⟩⟩
   ·rw [List.getElem?_set_ne (Ne.symm hj)] at e2
    obtain ⟨u',r',q⟩:=hl j y v' e1 e2 e3
    refine ⟨u',r',?_⟩
    rcases q with ⟨k,e⟩ | ⟨k,c,e,z⟩
    ·refine .inl ⟨k,?_⟩
     have:y ≠ x:=fun e=>hj (gz hN e1 (e ▸ hi))
     simp [this,e]
    ·exact .inr ⟨k,c,e,z.sameBut hs (cne y c e)⟩
  ·obtain ⟨w',z⟩:=I.cell y c e
   exact ⟨w',z.sameBut hs (cne y c e)⟩
  ·obtain ⟨e,n,ne,nf,d⟩:=I.pin p hp
   exact ⟨(hs.2 p.1 ne).trans e,n,ne,nf,d⟩
 ·have hfn:X.fn x=true:=by
   rcases hf with z | z
   ·exact z
   ·rw [z] at hk;cases hk
  obtain ⟨c,hc⟩:=I.ok.has x (.inl hk)
  obtain ⟨w',z⟩:=I.cell x c hc
  refine wpAny_storeName_cell I.ok.kind hk hc z (fun h' hc' hs=>?_)
  obtain ⟨oc,hoc,hocd⟩:=id z
  refine h { s with heap:=h' } ⟨I.ok,I.os,I.bare,⟨fun b o e n hb hx=>?_,fun b o e n hb hx=>?_,I.base.free,fun b o e hx=>?_,I.base.tups,I.base.frzs,I.base.tbls⟩,⟨m,hn.sameBut hs (Ne.symm (cne x c hc)),fun j y v' e1 e2 e3=>?_⟩,fun y c' e=>?_,I.free,I.freeC,fun p hp=>?_,tracked ⟨oc,hoc,I.freeC x c hc⟩ hs,by simpa using I.len⟩ ⟨c,hs,.inr hc⟩
  ·exact (hs.2 b (Nat.ne_of_lt (Nat.lt_of_lt_of_le (Heap.lt_size e) (I.ok.cab x c hfn hc)))).trans (I.base.keep b o e n hb hx)
  ·obtain ⟨sl,e1⟩:=I.base.slot b o e n hb hx
   exact ⟨sl,(hs.2 b (Nat.ne_of_lt (Nat.lt_of_lt_of_le (Heap.lt_size e) (I.ok.cab x c hfn hc)))).trans e1⟩
  ·obtain ⟨o',e1⟩:=I.base.there b o e hx
   exact ⟨o',(hs.2 b (Nat.ne_of_lt (Nat.lt_of_lt_of_le (Heap.lt_size e) (I.ok.cab x c hfn hc)))).trans e1⟩
  ·by_cases hj:j=i
   ·subst hj
    rw [hi] at e1;cases e1
    rw [List.getElem?_set_self hiσ] at e2
    cases e2
    exact ⟨u,r,.inr ⟨.inl hk,c,hc,hc'⟩⟩
   ·rw [List.getElem?_set_ne (Ne.symm hj)] at e2
    obtain ⟨u',r',q⟩:=hl j y v' e1 e2 e3
    refine ⟨u',r',?_⟩
    rcases q with q | ⟨k,c',e,z'⟩
    ·exact .inl q
    ·refine .inr ⟨k,c',e,z'.sameBut hs ?_⟩
     rintro rfl
     exact hj (gz hN e1 (I.ok.inj _ _ _ e hc ▸ hi))
  ·by_cases hcc:c'=c
   ·subst hcc;exact ⟨_,hc'⟩
   ·obtain ⟨w2,z2⟩:=I.cell y c' e
    exact ⟨w2,z2.sameBut hs hcc⟩
  ·obtain ⟨e,n,ne,nf,d⟩:=I.pin p hp
   refine ⟨(hs.2 p.1 ?_).trans e,n,ne,nf,d⟩
   intro q
   rw [q,hoc] at e
   have q':oc=p.2:=Option.some.inj e
   exact d w' (by rw [← q'];exact hocd)
theorem Lz {M:Model} {A:Around} {E:Value→Shared→Prop} {i:Nat} {x:Str} {v:V} {u:Value} {Q:Unit→Shared→Prop} (I:Inv X pins σ H s) (hN:X.N.Nodup) (hi:X.N[i]? = some x) (hx:Loc X.env.scope x) (r:Ld v u)
  (h:∀ s',Inv X pins (σ.set i (some v)) H s'→Q () s') (hf:X.fn x=true∨X.env.scope.names.lookup x=some .local:=by first | exact .inl rfl | exact .inr rfl | assumption):wpAny M A (storeName X.env x u) Q E s:=
 nw I hN hi hx r (fun s' I' _=>h s' I') hf
theorem Inv.call' {s':Shared} {ch:List Addr} (I:Inv X pins σ H s) (ho:s'.os=s.os) (u:Un (frs X.stack) ch H H' s.heap s'.heap) (hok:HOk X.prog X.w H' s'.heap) (hg:AllBare s'.gens)
  (hch:∀ b ∈ ch,(b ∈ X.ex∨X.s₀.heap.objs.size ≤ b)∧b ≠ X.env.locals∧(∀ x c,X.env.cells.lookup x=some c→c ≠ b)∧∀ p ∈ X.pn ++ pins,p.1 ≠ b):Inv X pins σ H' s':=by
 obtain ⟨h',g',d',t',o'⟩:=s'
 have e:o'=s.os:=ho
 subst e
 exact I.call (g':=g') (t':=t') (d':=d') u hok hg hch
end
noncomputable abbrev XK:=Value→Option Addr→Hp→Prop
noncomputable abbrev St:=List (Option V)
noncomputable abbrev VK:=V→Hp→Prop
noncomputable abbrev TE:=St→Hp→VK→Prop
noncomputable abbrev TT:=St→Hp→(Bool→Hp→Prop)→Prop
noncomputable abbrev TA:=St→Hp→(List V→Hp→Prop)→Prop
structure Mi where
 nx:St→Hp→Prop
 rt:VK
 bk:St→Hp→Prop:=fun _ _=>False
 ct:St→Hp→Prop:=fun _ _=>False
noncomputable abbrev TS:=Mi→St→Hp→Prop
noncomputable def EP (X:Cx) (pins:List (Addr × Obj)) (σ:St) (Q:VK) (u:Value) (s':Shared):Prop:=∃ v H',Inv X pins σ H' s'∧Ld v u∧Q v H'
noncomputable def TP (X:Cx) (pins:List (Addr × Obj)) (σ:St) (Q:Bool→Hp→Prop) (b:Bool) (s':Shared):Prop:=∃ H',Inv X pins σ H' s'∧Q b H'
noncomputable def AP (X:Cx) (pins:List (Addr × Obj)) (σ:St) (Q:List V→Hp→Prop) (us:List Value) (s':Shared):Prop:=∃ vs H',Inv X pins σ H' s'∧Qd vs us∧Q vs H'
noncomputable def SP (X:Cx) (pins:List (Addr × Obj)) (D:Mi) (f:Flow) (s':Shared):Prop:=
 match f with
 | .next=>∃ σ' H',Inv X pins σ' H' s'∧D.nx σ' H'
 | .brk=>∃ σ' H',Inv X pins σ' H' s'∧D.bk σ' H'
 | .cont=>∃ σ' H',Inv X pins σ' H' s'∧D.ct σ' H'
 | .ret u=>∃ v σ' H',Inv X pins σ' H' s'∧Ld v u∧D.rt v H'
noncomputable def PE (X:Cx) (e:Expr) (t:TE):Prop:=
 ∀ (pins:List (Addr × Obj)) (s:Shared) (σ:St) (H:Hp) (Q:VK),Inv X pins σ H s→t σ H Q→wpAny (model X.prog X.w) X.A (eval e X.env) (EP X pins σ Q) X.xe s
noncomputable def PT (X:Cx) (e:Expr) (t:TT):Prop:=
 ∀ (pins:List (Addr × Obj)) (s:Shared) (σ:St) (H:Hp) (Q:Bool→Hp→Prop),Inv X pins σ H s→t σ H Q→wpAny (model X.prog X.w) X.A (isTrue e X.env (eval e X.env)) (TP X pins σ Q) X.xe s
noncomputable def PW (X:Cx) (e:Expr) (t:TT):Prop:=
 ∀ (whole:Sem Value) (pins:List (Addr × Obj)) (s:Shared) (σ:St) (H:Hp) (Q:Bool→Hp→Prop),Inv X pins σ H s→t σ H Q→wpAny (model X.prog X.w) X.A (isTrue e X.env whole) (TP X pins σ Q) X.xe s
theorem PW.pt {X:Cx} {e:Expr} {t:TT} (h:PW X e t):PT X e t:=h _
noncomputable def PA (X:Cx) (es:List Expr) (t:TA):Prop:=
 ∀ (pos:Pos) (pins:List (Addr × Obj)) (s:Shared) (σ:St) (H:Hp) (Q:List V→Hp→Prop),Inv X pins σ H s→t σ H Q→wpAny (model X.prog X.w) X.A (spliced (backTo pos (starEach es X.env))) (AP X pins σ Q) X.xe s
noncomputable def PS (X:Cx) (st:Stmt) (t:TS):Prop:=
 ∀ (pins:List (Addr × Obj)) (s:Shared) (σ:St) (H:Hp) (D:Mi),Inv X pins σ H s→t D σ H→wpAny (model X.prog X.w) X.A (exec st X.env) (SP X pins D) X.xe s
noncomputable def PSs (X:Cx) (st:List Stmt) (t:TS):Prop:=
 ∀ (pins:List (Addr × Obj)) (s:Shared) (σ:St) (H:Hp) (D:Mi),Inv X pins σ H s→t D σ H→wpAny (model X.prog X.w) X.A (execs st X.env) (SP X pins D) X.xe s
theorem thn {α:Type} {t:Sem α} {Q Q':α→Shared→Prop} {M:Model} {A:Around} {E:Value→Shared→Prop} {s:Shared} (h:wpAny M A t Q E s) (hQ:∀ a s,Q a s→Q' a s):wpAny M A t Q' E s:=wpAny_mono h hQ fun _ _ x=>x
end L2
namespace L2
open PySem PySem.Spec PyProof.Rows
section
variable {X:Cx}
noncomputable def NM (i:Nat):TE:=fun σ H Q=>∃ v,σ[i]? = some (some v)∧Q v H
noncomputable def tC (v:V):TE:=fun _ H Q=>Q v H
theorem VL {i:Nat} {x:Str} {pos:Pos} (hN:X.N[i]? = some x) (hv:Vis X.env.scope x) (hd:(x == ("__debug__" : Str))=false:=by decide) (hcd:(x == ("__classdict__" : Str))=false:=by decide):PE X (.Name x pos) (NM i):=by
 intro pins s σ H Q I h
 obtain ⟨v,e,h⟩:=h
 obtain ⟨m,hn,hl⟩:=I.loc
 obtain ⟨u,r,l⟩:=hl i x v hN e hv
 have fin:EP X pins σ Q u s:=⟨v,H,I,r,h⟩
 rcases l with ⟨hk,hm⟩ | ⟨hk,c,hc,hcell⟩
 ·exact wpAny_Name (wpAny_loadName_local I.ok.kind hk hn hm fin) hd
 ·rcases hk with hk | hk
  ·exact wpAny_Name (wpAny_loadName_cell I.ok.kind hk hc hcell fin) hd
  ·exact wpAny_Name (wpAny_loadName_free I.ok.kind hk hc hcell fin hcd) hd
theorem jb {i j pos}:PE X (.Constant (.int i) j pos) (tC (.int i)):=fun _ _ _ H _ I h=>wpAny_Constant_int ⟨.int i,H,I.tok _,⟨_,rfl⟩,h⟩
theorem Ev {b j pos}:PE X (.Constant (.bool b) j pos) (tC (.bl b)):=fun _ _ _ H _ I h=>Constant_bool ⟨.bl b,H,I,rfl,h⟩
theorem Iy {j pos}:PE X (.Constant .none j pos) (tC .non):=fun _ _ _ H _ I h=>Constant_none ⟨.non,H,I,rfl,h⟩
theorem ic {x j pos}:PE X (.Constant (.str x) j pos) (tC (.str x)):=fun _ _ _ H _ I h=>Calls.Constant_str ⟨.str x,H,I.tok _,⟨_,rfl⟩,h⟩
noncomputable def Gl (X:Cx) (x:Str):Prop:=X.env.kindOf x=some .globalImplicit
theorem Cn {E:Value→Shared→Prop} {pins:List (Addr × Obj)} {s:Shared} {σ:St} {H:Hp} {x:Str} {u:Value} {pos:Pos} {Q:Value→Shared→Prop} (I:Inv X pins σ H s) (hg:Gl X x) (hm:X.mg x=some u) (h:Q u s)
  (hd:(x == ("__debug__" : Str))=false:=by decide):wpAny (model X.prog X.w) X.A (eval (.Name x pos) X.env) Q E s:=
 Calls.Name_function_global I.ok.kind hg (Calls.loadGlobal_global (by rw [I.ok.glob];exact I.mod.glob.keeps I.bk) hm h) hd
theorem wp {E:Value→Shared→Prop} {pins:List (Addr × Obj)} {s:Shared} {σ:St} {H:Hp} {x:Str} {u:Value} {pos:Pos} {Q:Value→Shared→Prop} (I:Inv X pins σ H s) (hg:Gl X x) (hm:X.mg x=none) (hv:bootBuiltins x=some u) (h:Q u s)
  (hn:x ≠ "__name__" := by decide) (hd:(x == ("__debug__" : Str))=false:=by decide):wpAny (model X.prog X.w) X.A (eval (.Name x pos) X.env) Q E s:=by
 obtain ⟨mb,h1,h2⟩:=I.mod.blt
 exact Calls.Name_function_global I.ok.kind hg (Calls.loadGlobal_builtin (by rw [I.ok.glob];exact I.mod.glob.keeps I.bk) hm (by rw [I.ok.blt];exact h1.keeps I.bk) ((h2 x hn).trans hv) h) hd
theorem Jf {x:Str} {v:V} {u:Value} {pos:Pos} (hg:Gl X x) (hm:X.mg x=some u) (r:Ld v u) (hd:(x == ("__debug__" : Str))=false:=by decide):PE X (.Name x pos) (tC v):=
 fun _ _ _ H _ I h=>Cn I hg hm ⟨v,H,I,r,h⟩ hd
theorem YB {x:Str} {v:V} {u:Value} {pos:Pos} (hg:Gl X x) (hm:X.mg x=none) (hv:bootBuiltins x=some u) (r:Ld v u) (hn:x ≠ "__name__" := by decide) (hd:(x == ("__debug__" : Str))=false:=by decide):PE X (.Name x pos) (tC v):=
 fun _ _ _ H _ I h=>wp I hg hm hv ⟨v,H,I,r,h⟩ hn hd
variable {a b:Expr} {ta tb:TE} {pos:Pos}
noncomputable def PC (X:Cx) (op:CmpOp) (a b:Expr) (t:TE):Prop:=
 ∀ (pins:List (Addr × Obj)) (s:Shared) (σ:St) (H:Hp) (Q:VK),Inv X pins σ H s→t σ H Q →
  wpAny (model X.prog X.w) X.A (eval a X.env) (fun v s₁=>wpAny (model X.prog X.w) X.A (eval b X.env) (fun u s₂=>wpAny (model X.prog X.w) X.A (compareOp op v u) (EP X pins σ Q) X.xe s₂) X.xe s₁) X.xe s
theorem GG (b:Expr) {op:CmpOp} (h:op ≠ .In) (h2:op ≠ .NotIn):behindInMarks op b=false:=by
 have e1:(op == CmpOp.In)=false:=by cases op <;> first | rfl | exact absurd rfl h
 have e2:(op == CmpOp.NotIn)=false:=by cases op <;> first | rfl | exact absurd rfl h2
 cases b <;> simp [behindInMarks,e1,e2]
noncomputable def tB (t:TE):TT:=fun σ H Q=>t σ H fun x H1=>∃ c,x=.bl c∧Q c H1
theorem OH {op:CmpOp} {t:TE} (h:PC X op a b t) (h1:behindInMarks op b=false:=by first | exact GG _ (by decide) (by decide) | rfl):PT X (.Compare a [op] [b] pos) (tB t):=by
 intro pins s σ H Q I hw
 refine wpAny_isTrue_Compare1 (thn (h pins s σ H _ I hw) fun v s1 h1=>thn h1 fun u s2 h2=>thn h2 fun c s3 hZ1=>?_) h1
 obtain ⟨x,H1,I1,r1,q1⟩:=hZ1
 obtain ⟨d,rfl,q⟩:=q1
 cases r1
 exact wpAny_truthy_bool ⟨H1,I1,q⟩
theorem wj {e:Expr} {t:TE} (h:PE X e t) (he:∀ whole,isTrue e X.env whole=(do let v ← whole;standAt e.pos;holding [v] (truthy v)):=by intro _;rfl):PT X e (tB t):=by
 intro pins s σ H Q I hw
 refine isTrue_plain (thn (h pins s σ H _ I hw) fun v s1 hZ1=>?_) (he _)
 obtain ⟨x,H1,I1,r1,q1⟩:=hZ1
 obtain ⟨d,rfl,q⟩:=q1
 cases r1
 exact wpAny_truthy_bool ⟨H1,I1,q⟩
variable {tA tB':TT} {rest:List Expr}
noncomputable def zN (t u:TT):TT:=fun σ H Q=>t σ H fun c H1=>if c=true then u σ H1 Q else Q false H1
noncomputable def tOr (t u:TT):TT:=fun σ H Q=>t σ H fun c H1=>if c=true then Q true H1 else u σ H1 Q
noncomputable def sN (t:TT):TT:=fun σ H Q=>t σ H fun c H1=>Q (!c) H1
theorem mn (ha:PT X a tA):PW X (.BoolOp .And [a] pos) tA:=by
 intro wh pins s σ H Q I h
 refine isTrue_and (thn (ha pins s σ H Q I h) fun c s1 e=>?_)
 cases c with
 | true=>exact isTrue_and_nil e
 | false=>exact e
theorem Pw (ha:PT X a tA):PW X (.BoolOp .Or [a] pos) tA:=by
 intro wh pins s σ H Q I h
 refine isTrue_or (thn (ha pins s σ H Q I h) fun c s1 e=>?_)
 cases c with
 | false=>exact isTrue_or_nil e
 | true=>exact e
theorem Qs (ha:PT X a tA) (hb:PW X (.BoolOp .And (b :: rest) pos) tB'):PW X (.BoolOp .And (a :: b :: rest) pos) (zN tA tB'):=by
 intro wh pins s σ H Q I h
 refine isTrue_and (thn (ha pins s σ H _ I h) fun c s1 hZ1=>?_)
 obtain ⟨H1,I1,q1⟩:=hZ1
 cases c with
 | true=>exact hb wh pins s1 σ H1 Q I1 q1
 | false=>exact ⟨H1,I1,q1⟩
theorem Wz (ha:PT X a tA) (hb:PW X (.BoolOp .Or (b :: rest) pos) tB'):PW X (.BoolOp .Or (a :: b :: rest) pos) (tOr tA tB'):=by
 intro wh pins s σ H Q I h
 refine isTrue_or (thn (ha pins s σ H _ I h) fun c s1 hZ1=>?_)
 obtain ⟨H1,I1,q1⟩:=hZ1
 cases c with
 | true=>exact ⟨H1,I1,q1⟩
 | false=>exact hb wh pins s1 σ H1 Q I1 q1
theorem vt (ha:PT X a tA):PT X (.UnaryOp .Not a pos) (sN tA):=by
 intro pins s σ H Q I h
 exact isTrue_not (ha pins s σ H (fun c H1=>Q (!c) H1) I h)
noncomputable def KL (ta tb:TE):TE:=fun σ H Q=>ta σ H fun x H1=>∃ c,x=.bl c∧if c=true then tb σ H1 Q else Q (.bl false) H1
noncomputable def fN (ta tb:TE):TE:=fun σ H Q=>ta σ H fun x H1=>∃ c,x=.bl c∧if c=true then Q (.bl true) H1 else tb σ H1 Q
noncomputable def NL (ta:TE):TE:=fun σ H Q=>ta σ H fun x H1=>∃ c,x=.bl c∧Q (.bl (!c)) H1
theorem Iv {op} {t:TE} (h:PE X a t):PE X (.BoolOp op [a] pos) t:=fun pins s σ H Q I hw=>BoolOp_one (h pins s σ H Q I hw)
theorem rC (ha:PE X a ta) (hb:PE X (.BoolOp .And (b :: rest) pos) tb):PE X (.BoolOp .And (a :: b :: rest) pos) (KL ta tb):=by
 intro pins s σ H Q I h
 refine BoolOp_and (thn (ha pins s σ H _ I h) fun v s1 hZ1=>?_)
 obtain ⟨x,H1,I1,r1,q1⟩:=hZ1
 obtain ⟨c,rfl,q1⟩:=q1
 cases r1
 refine wpAny_truthy_bool ?_
 cases c with
 | true=>exact hb pins s1 σ H1 Q I1 q1
 | false=>exact ⟨.bl false,H1,I1,rfl,q1⟩
theorem uK (ha:PE X a ta) (hb:PE X (.BoolOp .Or (b :: rest) pos) tb):PE X (.BoolOp .Or (a :: b :: rest) pos) (fN ta tb):=by
 intro pins s σ H Q I h
 refine BoolOp_or (thn (ha pins s σ H _ I h) fun v s1 hZ1=>?_)
 obtain ⟨x,H1,I1,r1,q1⟩:=hZ1
 obtain ⟨c,rfl,q1⟩:=q1
 cases r1
 refine wpAny_truthy_bool ?_
 cases c with
 | false=>exact hb pins s1 σ H1 Q I1 q1
 | true=>exact ⟨.bl true,H1,I1,rfl,q1⟩
theorem HL (ha:PE X a ta):PE X (.UnaryOp .Not a pos) (NL ta):=by
 intro pins s σ H Q I h
 refine UnaryOp_ (thn (ha pins s σ H _ I h) fun v s1 hZ1=>?_)
 obtain ⟨x,H1,I1,r1,q1⟩:=hZ1
 obtain ⟨c,rfl,q1⟩:=q1
 cases r1
 exact not_of (wpAny_truthy_bool ⟨.bl (!c),H1,I1,rfl,q1⟩)
noncomputable def tIf (t:TT) (ta tb:TE):TE:=fun σ H Q=>t σ H fun c H1=>if c=true then ta σ H1 Q else tb σ H1 Q
theorem Ou {c:Expr} (hc:PT X c tA) (ha:PE X a ta) (hb:PE X b tb):PE X (.IfExp c a b pos) (tIf tA ta tb):=by
 intro pins s σ H Q I h
 refine wpAny_IfExp (thn (hc pins s σ H _ I h) fun d s1 hZ1=>?_)
 obtain ⟨H1,I1,q1⟩:=hZ1
 cases d with
 | true=>exact ha pins s1 σ H1 Q I1 q1
 | false=>exact hb pins s1 σ H1 Q I1 q1
end
end L2
namespace L2
open PySem PySem.Spec PyProof.Rows
noncomputable def SqL (K:PySem.W.Frag) (H:Hp) (a:Addr) (xs:List V):Prop:=
 Rd H a (.lst xs) ∨
  ∃ (o:Obj) (its:Array Value) (n:Nat),K.lookup a=some o∧o.cls=.type "list" ∧ o.dict=none∧o.data=.seq its n∧its.size ≤ sizeLine∧Qd xs its.toList
noncomputable def SqT (K:PySem.W.Frag) (H:Hp) (a:Addr) (xs:List V):Prop:=
 Rd H a (.tup xs) ∨
  ∃ (o:Obj) (its:Array Value) (n:Nat),K.lookup a=some o∧o.cls=.type "tuple" ∧ o.data=.seq its n∧its.size ≤ sizeLine∧Qd xs its.toList
noncomputable def QN:Value→Option V
 | .none=>some .non
 | .bool b=>some (.bl b)
 | .int i _=>some (.int i)
 | .str x _=>some (.str x)
 | .bytes b _=>some (.byt b)
 | .float b _=>some (.flt b)
 | .ref a=>some (.ref a)
 | .type n=>some (.ty n)
 | _=>none
theorem Ld.abs {x:V} {u:Value} (r:Ld x u):QN u=some x:=by
 cases x with
 | non=>cases r;rfl
 | bl _=>cases r;rfl
 | int _=>obtain ⟨t,rfl⟩:=r;rfl
 | str _=>obtain ⟨t,rfl⟩:=r;rfl
 | byt _=>obtain ⟨t,rfl⟩:=r;rfl
 | flt _=>obtain ⟨t,rfl⟩:=r;rfl
 | ref _=>cases r;rfl
 | ty _=>cases r;rfl
theorem Ld.inj {x y:V} {u:Value} (r:Ld x u) (q:Ld y u):x=y:=Option.some.inj (r.abs.symm.trans q.abs)
theorem Qd.inj:∀ {xs ys:List V} {us:List Value},Qd xs us→Qd ys us→xs=ys
 | _,_,_,.nil,.nil=>rfl
 | _,_,_,.cons r t,.cons r' t'=>by rw [r.inj r',Qd.inj t t']
section
variable {X:Cx} {pins:List (Addr × Obj)} {σ:St} {H:Hp} {s:Shared} {a:Addr} {xs ys:List V}
theorem SqL.of {K:PySem.W.Frag} (h:H a=some (.lst xs)):SqL K H a xs:=.inl (.inl h)
theorem SqT.of {K:PySem.W.Frag} (h:H a=some (.tup xs)):SqT K H a xs:=.inl (.inl h)
theorem Inv.list (I:Inv X pins σ H s) (h:SqL X.K H a xs):∃ its:List Value,Qd xs its∧PlainL s.heap a its.toArray∧xs.length ≤ sizeLine:=by
 rcases h with h | ⟨o,its,n,hk,hc,hd,hs,hz,r⟩
 ·obtain ⟨z,its,n,r,e⟩:=h.ok I.hok
  exact ⟨its,r,⟨_,n,e,rfl,rfl,rfl⟩,z⟩
 ·refine ⟨its.toList,r,⟨o,n,I.kIn a o hk,hc,hd,by simpa using hs⟩,?_⟩
  have e:=r.length
  simp only [Array.length_toList] at e
  omega
theorem Inv.tuple (I:Inv X pins σ H s) (h:SqT X.K H a xs):∃ its:List Value,Qd xs its∧IsTup s.heap a its.toArray∧xs.length ≤ sizeLine:=by
 rcases h with h | ⟨o,its,n,hk,hc,hs,hz,r⟩
 ·obtain ⟨z,its,r,p⟩:=h.ok I.hok
  exact ⟨its,r,p,z⟩
 ·refine ⟨its.toList,r,⟨o,I.kIn a o hk,hc,n,by simpa using hs⟩,?_⟩
  have e:=r.length
  simp only [Array.length_toList] at e
  omega
theorem Inv.list_inj (I:Inv X pins σ H s) (h:SqL X.K H a xs) (h':SqL X.K H a ys):xs=ys:=by
 obtain ⟨its,r,⟨o,n,e,_,_,d⟩,_⟩:=I.list h
 obtain ⟨its',r',⟨o',n',e',_,_,d'⟩,_⟩:=I.list h'
 rw [e] at e';cases e'
 rw [d] at d'
 injection d' with d1 _
 have:its=its':=by simpa using congrArg Array.toList d1
 subst this
 exact r.inj r'
theorem Inv.tuple_inj (I:Inv X pins σ H s) (h:SqT X.K H a xs) (h':SqT X.K H a ys):xs=ys:=by
 obtain ⟨its,r,⟨o,e,_,n,d⟩,_⟩:=I.tuple h
 obtain ⟨its',r',⟨o',e',_,n',d'⟩,_⟩:=I.tuple h'
 rw [e] at e';cases e'
 rw [d] at d'
 injection d' with d1 _
 have:its=its':=by simpa using congrArg Array.toList d1
 subst this
 exact r.inj r'
end
noncomputable abbrev Cx.wish (X:Cx) (E:Value→Shared→Prop):Cx:={ X with xe:=E }
noncomputable abbrev Cx.nox (X:Cx):Cx:=X.wish fun _ _=>False
theorem Cx.Ok.wish {X:Cx} (ok:X.Ok) (E:Value→Shared→Prop):(X.wish E).Ok:=
 ⟨ok.mod,ok.kind,ok.glob,ok.blt,ok.above,ok.inj,ok.has,ok.cab,ok.hd,ok.frames,ok.stk,ok.exf,ok.bs,ok.bsz,ok.noex,ok.exfs,ok.funs,ok.frf⟩
theorem Cx.Ok.unwish {X:Cx} {E:Value→Shared→Prop} (ok:(X.wish E).Ok):X.Ok:=
 ⟨ok.mod,ok.kind,ok.glob,ok.blt,ok.above,ok.inj,ok.has,ok.cab,ok.hd,ok.frames,ok.stk,ok.exf,ok.bs,ok.bsz,ok.noex,ok.exfs,ok.funs,ok.frf⟩
section
variable {X:Cx} {pins:List (Addr × Obj)} {σ:St} {H:Hp} {s:Shared} {E:Value→Shared→Prop}
theorem Inv.wish (I:Inv X pins σ H s) (E:Value→Shared→Prop):Inv (X.wish E) pins σ H s:=⟨I.ok.wish E,I.os,I.bare,I.base,I.loc,I.cell,I.free,I.freeC,I.pin,I.hok,I.len⟩
theorem Inv.unwish (I:Inv (X.wish E) pins σ H s):Inv X pins σ H s:=⟨I.ok.unwish,I.os,I.bare,I.base,I.loc,I.cell,I.free,I.freeC,I.pin,I.hok,I.len⟩
theorem SP.unwish {D:Mi} {f:Flow} {s':Shared} (h:SP (X.wish E) pins D f s'):SP X pins D f s':=by
 cases f with
 | next=>obtain ⟨σ',H',I,q⟩:=h;exact ⟨σ',H',I.unwish,q⟩
 | brk=>obtain ⟨σ',H',I,q⟩:=h;exact ⟨σ',H',I.unwish,q⟩
 | cont=>obtain ⟨σ',H',I,q⟩:=h;exact ⟨σ',H',I.unwish,q⟩
 | ret u=>obtain ⟨v,σ',H',I,r,q⟩:=h;exact ⟨v,σ',H',I.unwish,r,q⟩
theorem PE.nox {e:Expr} {t:TE} (h:PE X.nox e t):PE X e t:=fun pins s σ H Q I hw=>
 wpAny_mono (h pins s σ H Q (I.wish _) hw) (fun _ _ ⟨v,H',I',r,q⟩=>⟨v,H',I'.unwish,r,q⟩) fun _ _ z=>False.elim z
theorem PT.nox {e:Expr} {t:TT} (h:PT X.nox e t):PT X e t:=fun pins s σ H Q I hw=>
 wpAny_mono (h pins s σ H Q (I.wish _) hw) (fun _ _ ⟨H',I',q⟩=>⟨H',I'.unwish,q⟩) fun _ _ z=>False.elim z
theorem PSs.nox {st:List Stmt} {t:TS} (h:PSs X.nox st t):PSs X st t:=fun pins s σ H D I hw=>
 wpAny_mono (h pins s σ H D (I.wish _) hw) (fun _ _ q=>q.unwish) fun _ _ z=>False.elim z
end
section
variable {X:Cx} {st:Stmt} {rest:List Stmt} {t u:TS} {e:Expr} {te:TE} {pos:Pos}
noncomputable def gL:TS:=fun D σ H=>D.nx σ H
noncomputable def jN (t u:TS):TS:=fun D σ H=>t { D with nx:=u D } σ H
theorem Ec:PSs X [] gL:=fun _ _ σ H _ I h=>wpAny_execs_nil ⟨σ,H,I,h⟩
theorem fb (h1:PS X st t) (h2:PSs X rest u):PSs X (st :: rest) (jN t u):=by
 intro pins s σ H D I h
 refine wpAny_execs_cons (thn (h1 pins s σ H { D with nx:=u D } I h) fun f s1 q=>?_)
 cases f with
 | next=>
  obtain ⟨σ',H',I',q⟩:=q
  exact h2 pins s1 σ' H' D I' q
 | ret v=>exact q
 | brk=>exact q
 | cont=>exact q
theorem ib (h1:PS X st t):PSs X [st] t:=by
 intro pins s σ H D I h
 refine wpAny_execs_cons (thn (h1 pins s σ H D I h) fun f s1 q=>?_)
 cases f with
 | next=>exact wpAny_execs_nil q
 | ret v=>exact q
 | brk=>exact q
 | cont=>exact q
theorem Inv.quiet {pins:List (Addr × Obj)} {σ:St} {H:Hp} {s:Shared} (I:Inv X pins σ H s):interactive X.env=false:=by simp [interactive,I.ok.kind]
noncomputable def JL (te:TE):TS:=fun D σ H=>te σ H fun _ H1=>D.nx σ H1
theorem Qb (he:PE X e te) (hs:swapsWith e none pos.line X.env=pure false:=by rfl):PS X (.Expr e pos) (JL te):=by
 intro pins s σ H D I h
 exact wpAny_Expr_any (thn (he pins s σ H _ I h) fun v s1 ⟨x,H1,I1,r1,q1⟩=>⟨σ,H1,I1,q1⟩) I.quiet hs
noncomputable def xM (te:TE):TS:=fun D σ H=>te σ H D.rt
theorem Kb (he:PE X e te):PS X (.Return (some e) pos) (xM te):=by
 intro pins s σ H D I h
 exact wpAny_Return_some (thn (he pins s σ H _ I h) fun v s1 ⟨x,H1,I1,r1,q1⟩=>⟨x,σ,H1,I1,r1,q1⟩)
noncomputable def AM (c:TT) (t u:TS):TS:=fun D σ H=>c σ H fun b H1=>if b=true then t D σ H1 else u D σ H1
theorem Ge {c:Expr} {a b:List Stmt} {tc:TT} (hc:PT X c tc) (ha:PSs X a t) (hb:PSs X b u):PS X (.If c a b pos) (AM tc t u):=by
 intro pins s σ H D I h
 refine wpAny_If (thn (hc pins s σ H _ I h) fun d s1 hZ1=>?_)
 obtain ⟨H1,I1,q1⟩:=hZ1
 cases d with
 | true=>exact ha pins s1 σ H1 D I1 q1
 | false=>exact hb pins s1 σ H1 D I1 q1
noncomputable def uH:TS:=fun _ _ _=>False
theorem Lk:PS X st uH:=fun _ _ _ _ _ _ h=>h.elim
end
noncomputable abbrev TG:=V→St→Hp→(St→Hp→Prop)→Prop
noncomputable abbrev TGs:=List V→St→Hp→(St→Hp→Prop)→Prop
noncomputable def PG (X:Cx) (target:Expr) (t:TG):Prop:=
 ∀ (pins:List (Addr × Obj)) (s:Shared) (σ:St) (H:Hp) (v:V) (u:Value) (Q:St→Hp→Prop),Inv X pins σ H s→Ld v u→t v σ H Q →
  wpAny (model X.prog X.w) X.A (assign target X.env u) (fun _ s'=>∃ σ' H',Inv X pins σ' H' s'∧Q σ' H') X.xe s
noncomputable def PGs (X:Cx) (ts:List Expr) (t:TGs):Prop:=
 ∀ (pins:List (Addr × Obj)) (s:Shared) (σ:St) (H:Hp) (vs:List V) (us:List Value) (Q:St→Hp→Prop),Inv X pins σ H s→Qd vs us→t vs σ H Q →
  wpAny (model X.prog X.w) X.A (assignInOrder ((assignEach ts X.env).map (·.2)) us) (fun _ s'=>∃ σ' H',Inv X pins σ' H' s'∧Q σ' H') X.xe s
section
variable {X:Cx} {pos:Pos}
noncomputable def Ww (i:Nat):TG:=fun v σ H Q=>Q (σ.set i (some v)) H
theorem zb {i:Nat} {x:Str} (hN:X.N.Nodup) (hi:X.N[i]? = some x) (hx:Loc X.env.scope x) (hf:X.fn x=true∨X.env.scope.names.lookup x=some .local:=by first | exact .inl rfl | exact .inr rfl | assumption):PG X (.Name x pos) (Ww i):=by
 intro pins s σ H v u Q I r h
 exact wpAny_assign_Name (Lz I hN hi hx r (fun s' I'=>⟨_,H,I',h⟩) hf)
noncomputable def rM:TGs:=fun vs σ H Q=>vs=[]∧Q σ H
noncomputable def jA (t:TG) (u:TGs):TGs:=fun vs σ H Q=>∃ v r,vs=v :: r∧t v σ H fun σ' H'=>u r σ' H' Q
theorem Ff:PGs X [] rM:=by
 intro pins s σ H vs us Q I r h
 obtain ⟨e,h⟩:=h
 subst e
 cases r
 exact assignInOrder_nil ⟨σ,H,I,h⟩
theorem Ob {e:Expr} {es:List Expr} {t:TG} {u:TGs} (h1:PG X e t) (h2:PGs X es u)
  (hs:(assignEach (e :: es) X.env).map (·.2)=assign e X.env :: (assignEach es X.env).map (·.2):=by rfl):PGs X (e :: es) (jA t u):=by
 intro pins s σ H vs us Q I r h
 obtain ⟨v,vr,e1,h⟩:=h
 subst e1
 cases r with
 | cons r rr=>
  rw [hs]
  refine assignInOrder_cons (thn (h1 pins s σ H _ _ _ I r h) fun _ s1 hZ1=>?_)
  obtain ⟨σ1,H1,I1,q1⟩:=hZ1
  exact h2 pins s1 σ1 H1 _ _ Q I1 rr q1
noncomputable def TK (K:PySem.W.Frag) (n:Nat) (t:TGs):TG:=fun v σ H Q=>∃ a xs,v=.ref a∧SqT K H a xs∧xs.length=n∧t xs σ H Q
theorem pM {es:List Expr} {k:Nat} {t:TGs} {n:Nat} (hc:X.calm=true) (h:PGs X es t)
  (hn:(assignEach es X.env).length=n:=by rfl) (hst:(assignEach es X.env).findIdx? (·.1)=none:=by rfl):PG X (.Tuple es k pos) (TK X.K n t):=by
 intro pins s σ H v u Q I r hw
 obtain ⟨a,xs,e1,hq,hl,hw⟩:=hw
 subst e1
 cases r
 obtain ⟨its,rv,ht,hz⟩:=I.tuple hq
 refine assign_Tuple_tuple (I.ok.hd hc) ht (by simp [hn,← hl,rv.length]) hst fun h' hx=>?_
 have I1:Inv X pins σ H { s with heap:=h' }:=I.kept (t':=s.toks) fun b o e=>hx b o (Nat.ne_of_lt (Heap.lt_size e)) e
 exact h pins _ σ H xs _ Q I1 (by simpa using rv) hw
noncomputable def sM (te:TE) (g:TG):TS:=fun D σ H=>te σ H fun x H1=>g x σ H1 D.nx
theorem XL {tg e:Expr} {te:TE} {g:TG} (he:PE X e te) (hg:PG X tg g) (hs:swapsWithSole [tg] e pos.line X.env=pure false:=by rfl) (hw:swappedStores [tg] e X.env=pure none:=by rfl)
  (h1:(assignEach [tg] X.env).map (·.2)=[assign tg X.env]:=by rfl):PS X (.Assign [tg] e pos) (sM te g):=by
 intro pins s σ H D I h
 refine wpAny_Assign_stores (thn (he pins s σ H _ I h) fun v s1 hZ1=>?_) hs hw
 obtain ⟨x,H1,I1,r1,q1⟩:=hZ1
 rw [h1]
 exact thn (hg pins s1 σ H1 x v _ I1 r1 q1) fun _ s2 q=>q
theorem Eb {i:Nat} {x:Str} {e:Expr} {te:TE} {pos':Pos} (hN:X.N.Nodup) (hi:X.N[i]? = some x) (hx:Loc X.env.scope x) (he:PE X e te) (hs:swapsWith e (some (.Name x pos')) pos.line X.env=pure false:=by rfl) (hf:X.fn x=true∨X.env.scope.names.lookup x=some .local:=by first | exact .inl rfl | exact .inr rfl | assumption) :
  PS X (.Assign [.Name x pos'] e pos) (sM te (Ww i)):=by
 intro pins s σ H D I h
 refine wpAny_Assign_Name (thn (he pins s σ H _ I h) fun v s1 hZ1=>?_) hs
 obtain ⟨y,H1,I1,r1,q1⟩:=hZ1
 exact Lz I1 hN hi hx r1 (fun s2 I2=>⟨_,H1,I2,q1⟩) hf
end
section
variable {X:Cx} {pos:Pos}
noncomputable def vH (c:TT) (tb:TS):TS:=fun D σ H=>∃ W:Nat→St→Hp→Prop,(∃ m,W m σ H)∧∀ m σ H,W m σ H →
 c σ H fun b H1=>if b=true then ∃ N:St→Hp→Prop,(∀ σ' H',N σ' H'→∃ m',m' < m∧W m' σ' H')∧tb { D with nx:=N,ct:=N,bk:=D.nx } σ H1 else D.nx σ H1
theorem lG {c:Expr} {body:List Stmt} {tc:TT} {tb:TS} (hp:PassesOwn (model X.prog X.w) X.A X.env X.xe) (hc:PT X c tc) (hb:PSs X body tb):PS X (.While c body [] pos) (vH tc tb):=by
 intro pins s σ H D I h
 obtain ⟨W,⟨m0,w0⟩,turn⟩:=h
 refine wpAny_While (codeAny_whileLoop (fun n s'=>∃ σ' H',Inv X pins σ' H' s'∧W n σ' H') ?_ m0 ⟨σ,H,I,w0⟩)
 rintro n s1 ⟨σ1,H1,I1,w1⟩
 refine wpAny_passesOwn hp (thn (hc pins s1 σ1 H1 _ I1 (turn n σ1 H1 w1)) fun b s2 hZ1=>?_)
 obtain ⟨H2,I2,q2⟩:=hZ1
 cases b with
 | true=>
  obtain ⟨N,hN,q2⟩:=q2
  rw [if_pos rfl]
  refine wpAny_passesOwn hp (thn (hb pins s2 σ1 H2 _ I2 q2) fun f s3 q3=>?_)
  cases f with
  | next=>
   obtain ⟨σ3,H3,I3,n3⟩:=q3
   obtain ⟨m',hm,w3⟩:=hN σ3 H3 n3
   exact ⟨m',hm,σ3,H3,I3,w3⟩
  | cont=>
   obtain ⟨σ3,H3,I3,n3⟩:=q3
   obtain ⟨m',hm,w3⟩:=hN σ3 H3 n3
   exact ⟨m',hm,σ3,H3,I3,w3⟩
  | brk=>exact q3
  | ret v=>exact q3
 | false=>
  rw [if_neg Bool.false_ne_true]
  exact wpAny_execs_nil ⟨σ1,H2,I2,q2⟩
end
structure It where
 go:Nat→Hp→Prop
 yld:Nat→Hp→V→Hp→Prop
 stop:Nat→Hp→Prop
noncomputable def sw (X:Cx) (pins:List (Addr × Obj)) (H:Hp) (b:Addr):Prop:=
 H b=none∧b ≠ X.env.locals∧b ∉ X.fs∧(b ∈ X.ex∨X.s₀.heap.objs.size ≤ b)∧(∀ x c,X.env.cells.lookup x=some c→c ≠ b)∧∀ p ∈ X.pn ++ pins,p.1 ≠ b
theorem Inv.fpOk {X:Cx} {pins:List (Addr × Obj)} {σ:St} {H H':Hp} {s:Shared} {b:Addr} (I:Inv X pins σ H s) (hb:s.heap.objs.size ≤ b) (hn:H' b=none):sw X pins H' b:=by
 refine ⟨hn,Nat.ne_of_gt (Nat.lt_of_lt_of_le I.lt hb),I.nofs hb,.inr (Nat.le_trans I.sz hb),fun x c e z=>?_,fun p hp z=>?_⟩
 ·obtain ⟨v,q⟩:=I.cell x c e
  exact absurd (Nat.lt_of_lt_of_le q.lt (by rw [z];exact hb)) (Nat.lt_irrefl _)
 ·exact absurd (Nat.lt_of_lt_of_le (Heap.lt_size (I.pin p hp).1) (by rw [z];exact hb)) (Nat.lt_irrefl _)
structure XJ (P:Program) (w:World) (K:PySem.W.Frag) (tg:Expr) (J:It) (fp:List Addr) (it:Addr) (tn:Nat→Heap→Prop):Prop where
 mem:it ∈ fp
 obj:∀ i h,tn i h→∀ b ∈ fp,∃ o,h.get? b=some o∧∀ v,o.data ≠ .cell v
 keep:∀ i h h',tn i h→(∀ b ∈ fp,∀ o,h.get? b=some o→h'.get? b=some o)→tn i h'
 item:∀ (X:Cx),X.prog=P→X.w=w→X.K=K→X.calm=true→∀ (i:Nat) (pins:List (Addr × Obj)) (s:Shared) (σ:St) (H:Hp) (E:Value→Shared→Prop),Inv X pins σ H s→(∀ b ∈ fp,sw X pins H b)→tn i s.heap→J.go i H →
  wpAny (model P w) X.A (pyNext (.ref it)) (fun r s1=>∃ u,r=some u ∧
   wpAny (model P w) X.A (letOwnedTupleGo tg (.ref it) u) (fun _ s2=>∃ x H',Inv X pins σ H' s2∧Ld x u∧J.yld i H x H'∧tn (i + 1) s2.heap∧∀ b ∈ fp,H' b=none) E s1) E s
 done:∀ (X:Cx),X.prog=P→X.w=w→X.K=K→X.calm=true→∀ (i:Nat) (pins:List (Addr × Obj)) (s:Shared) (σ:St) (H:Hp) (E:Value→Shared→Prop),Inv X pins σ H s→(∀ b ∈ fp,sw X pins H b)→tn i s.heap→J.stop i H →
  wpAny (model P w) X.A (pyNext (.ref it)) (fun r s1=>r=none∧Inv X pins σ H s1) E s
 self:∀ (A:Around) (i:Nat) (s:Shared) (Q:Value→Shared→Prop) (E:Value→Shared→Prop),tn i s.heap→Q (.ref it) s→wpAny (model P w) A (pyIter (.ref it)) Q E s
noncomputable abbrev TI:=St→Hp→(It→Hp→Prop)→Prop
noncomputable def PIE (X:Cx) (pins:List (Addr × Obj)) (σ:St) (tg:Expr) (R:It→Hp→Prop) (itv:Value) (s2:Shared):Prop:=
 ∃ (it:Addr) (fp:List Addr) (tn:Nat→Heap→Prop) (J:It) (H':Hp),itv=.ref it∧Inv X pins σ H' s2∧XJ X.prog X.w X.K tg J fp it tn∧tn 0 s2.heap∧(∀ b ∈ fp,sw X pins H' b)∧R J H'
noncomputable def PI (X:Cx) (tg iter:Expr) (wi:TI):Prop:=
 ∀ (pins:List (Addr × Obj)) (s:Shared) (σ:St) (H:Hp) (R:It→Hp→Prop),Inv X pins σ H s→wi σ H R →
  wpAny (model X.prog X.w) X.A (eval iter X.env) (fun v s1=>wpAny (model X.prog X.w) X.A (pyIter v) (PIE X pins σ tg R) X.xe s1) X.xe s
theorem uG {M:Model} {A:Around} {E:Value→Shared→Prop} {s:Shared} {tg:Expr} {it:Addr} {u:Value} {o:Obj} {n:String} {vs:Array Value} {Q:Unit→Shared→Prop} (ho:s.heap.get? it=some o) (hc:o.cls=.type n) (hd:o.data=.fields vs)
    (hn:["enumerate","zip","dict_itemiterator","dict_reverseitemiterator","odict_iterator","itertools.zip_longest","itertools.pairwise"].contains n=false) (hQ:Q () s):wpAny M A (letOwnedTupleGo tg (.ref it) u) Q E s:=by
  unfold letOwnedTupleGo
  cases tg <;> first
    | exact wpAny_pure hQ
    | (cases u <;> first
        | exact wpAny_pure hQ
        | (refine wpAny_bind (wpAny_load ho ?_)
           rw [hc,hd]
           show wpAny M A (if (["enumerate","zip","dict_itemiterator","dict_reverseitemiterator","odict_iterator","itertools.zip_longest","itertools.pairwise"].contains n && vs[0]? == some (rawInt _))=true then _ else _) Q E s
           rw [if_neg (by intro h;rw [hn,Bool.false_and] at h;cases h)]
           exact wpAny_pure hQ))
noncomputable def Itl (K:PySem.W.Frag) (a:Addr):It:=
 ⟨fun i H=>∃ xs x,SqL K H a xs∧xs[i]? = some x,fun i H x H'=>H'=H∧∀ xs,SqL K H a xs→xs[i]? = some x,fun i H=>∃ xs,SqL K H a xs∧xs.length ≤ i⟩
noncomputable def Itt (K:PySem.W.Frag) (a:Addr):It:=
 ⟨fun i H=>∃ xs x,SqT K H a xs∧xs[i]? = some x,fun i H x H'=>H'=H∧∀ xs,SqT K H a xs→xs[i]? = some x,fun i H=>∃ xs,SqT K H a xs∧xs.length ≤ i⟩
noncomputable def Itr (lo:Int) (n:Nat):It:=⟨fun i _=>i < n,fun i H x H'=>H'=H∧x=.int (lo + i),fun i _=>n ≤ i⟩
theorem AD {P:Program} {w:World} {K:PySem.W.Frag} {tg:Expr} (a it:Addr):XJ P w K tg (Itl K a) [it] it (fun i h=>h.IsListIter it a i) where
 mem:=by simp
 obj:=fun i h st b hb=>by
  have e:b=it:=by simpa using hb
  subst e
  obtain ⟨o,e,c,d⟩:=st
  exact ⟨o,e,fun v z=>by rw [d] at z;cases z⟩
 keep:=fun i h h' st k=>st.at fun o e=>k it (by simp) o e
 item:=by
  intro X hP hw hK hc i pins s σ H E I hf st hg
  subst hP hw hK
  obtain ⟨xs,x,hq,hx⟩:=hg
  obtain ⟨its,rv,p,hz⟩:=I.list hq
  obtain ⟨u,hu,ru⟩:=rv.get hx
  obtain ⟨f0,f1,f2,f3,f4,f5⟩:=hf it (by simp)
  refine wpAny_pyNext_list_item st p.isList (x:=u) (by simpa using hu) fun h' st' sb=>?_
  have I1:Inv X pins σ H { s with heap:=h' }:=I.turned (t':=s.toks) (fun b o hb e=>(sb.2 b hb).trans e) f0 f1 f3 f4 f5
  obtain ⟨o,e,c,d⟩:=id st'
  exact ⟨u,rfl,uG (s:={ s with heap:=h' }) e c d (by decide) ⟨x,H,I1,ru,⟨rfl,fun ys hy=>by rw [I.list_inj hy hq];exact hx⟩,st',fun b hb=>(hf b hb).1⟩⟩
 done:=by
  intro X hP hw hK hc i pins s σ H E I hf st hg
  subst hP hw hK
  obtain ⟨xs,hq,hx⟩:=hg
  obtain ⟨its,rv,p,hz⟩:=I.list hq
  obtain ⟨f0,f1,f2,f3,f4,f5⟩:=hf it (by simp)
  have hl:=rv.length
  exact wpAny_pyNext_list_end (I.ok.hd hc) st p.isList (by simp;omega) fun h' eb=>⟨rfl,I.turned (t':=s.toks) (fun b o hb e=>eb b o hb e) f0 f1 f3 f4 f5⟩
 self:=fun _ _ _ _ _ st h=>wpAny_pyIter_listiter st h
theorem fB {P:Program} {w:World} {K:PySem.W.Frag} {tg:Expr} (a it:Addr):XJ P w K tg (Itt K a) [it] it (fun i h=>h.IsTupleIter it a i) where
 mem:=by simp
 obj:=fun i h st b hb=>by
  have e:b=it:=by simpa using hb
  subst e
  obtain ⟨o,e,c,d⟩:=st
  exact ⟨o,e,fun v z=>by rw [d] at z;cases z⟩
 keep:=fun i h h' st k=>st.at fun o e=>k it (by simp) o e
 item:=by
  intro X hP hw hK hc i pins s σ H E I hf st hg
  subst hP hw hK
  obtain ⟨xs,x,hq,hx⟩:=hg
  obtain ⟨its,rv,p,hz⟩:=I.tuple hq
  obtain ⟨u,hu,ru⟩:=rv.get hx
  obtain ⟨f0,f1,f2,f3,f4,f5⟩:=hf it (by simp)
  refine wpAny_pyNext_tuple_item st (show s.heap.IsTuple a its.toArray from p) (x:=u) (by simpa using hu) fun h' st' sb=>?_
  have I1:Inv X pins σ H { s with heap:=h' }:=I.turned (t':=s.toks) (fun b o hb e=>(sb.2 b hb).trans e) f0 f1 f3 f4 f5
  obtain ⟨o,e,c,d⟩:=id st'
  exact ⟨u,rfl,uG (s:={ s with heap:=h' }) e c d (by decide) ⟨x,H,I1,ru,⟨rfl,fun ys hy=>by rw [I.tuple_inj hy hq];exact hx⟩,st',fun b hb=>(hf b hb).1⟩⟩
 done:=by
  intro X hP hw hK hc i pins s σ H E I hf st hg
  subst hP hw hK
  obtain ⟨xs,hq,hx⟩:=hg
  obtain ⟨its,rv,p,hz⟩:=I.tuple hq
  obtain ⟨f0,f1,f2,f3,f4,f5⟩:=hf it (by simp)
  have hl:=rv.length
  exact wpAny_pyNext_tuple_end (I.ok.hd hc) st (show s.heap.IsTuple a its.toArray from p) (by simp;omega) fun h' eb=>⟨rfl,I.turned (t':=s.toks) (fun b o hb e=>eb b o hb e) f0 f1 f3 f4 f5⟩
 self:=fun _ _ _ _ _ st h=>wpAny_pyIter_tupleiter st h
theorem pA {P:Program} {w:World} {K:PySem.W.Frag} {tg:Expr} (it:Addr) (lo:Int) (n:Nat):XJ P w K tg (Itr lo n) [it] it (fun i h=>IsRangeIter h it (lo + (i:Nat) * 1) ((n:Int) - (i:Nat)) 1) where
 mem:=by simp
 obj:=fun i h st b hb=>by
  have e:b=it:=by simpa using hb
  subst e
  exact ⟨_,st,fun v z=>by
   have z':Data.fields _=Data.cell v:=z
   cases z'⟩
 keep:=fun i h h' st k=>k it (by simp) _ st
 item:=by
  intro X hP hw hK hc i pins s σ H E I hf st hg
  subst hP hw hK
  obtain ⟨f0,f1,f2,f3,f4,f5⟩:=hf it (by simp)
  have W:=Walks.range (prog:=X.prog) (w:=X.w) (I.ok.hd hc) it lo 1 n
  refine W.item i s _ _ hg st fun v h' tk hv st' kk=>?_
  obtain ⟨t,rfl⟩:=hv
  have I1:Inv X pins σ H { s with heap:=h',toks:=tk }:=I.turned (fun b o hb e=>kk b o (by simpa using hb) e) f0 f1 f3 f4 f5
  refine ⟨_,rfl,uG (s:={ s with heap:=h',toks:=tk }) (n := "range_iterator") st' rfl rfl (by decide) ⟨.int (lo + i),H,I1,⟨t,?_⟩,⟨rfl,rfl⟩,st',fun b hb=>(hf b hb).1⟩⟩
  rw [Int.mul_one]
 done:=by
  intro X hP hw hK hc i pins s σ H E I hf st hg
  subst hP hw hK
  obtain ⟨f0,f1,f2,f3,f4,f5⟩:=hf it (by simp)
  exact wpAny_pyNext_range_end (I.ok.hd hc) st (by have:n ≤ i:=hg;omega) fun h' eb=>⟨rfl,I.turned (t':=s.toks) (fun b o hb e=>eb b o hb e) f0 f1 f3 f4 f5⟩
 self:=fun _ _ _ _ _ st h=>wpAny_pyIter_rangeiter st h
end L2
namespace L2
open PySem PySem.Spec PyProof.Rows
section
variable {X:Cx} {tg:Expr}
noncomputable def WK (K:PySem.W.Frag) (tl:TE):TI:=fun σ H R=>tl σ H fun x H1=>∃ a,x=.ref a∧(∃ xs,SqL K H1 a xs)∧R (Itl K a) H1
noncomputable def JN (K:PySem.W.Frag) (tl:TE):TI:=fun σ H R=>tl σ H fun x H1=>∃ a,x=.ref a∧(∃ xs,SqT K H1 a xs)∧R (Itt K a) H1
theorem Kc {l:Expr} {tl:TE} (hl:PE X l tl):PI X tg l (WK X.K tl):=by
 intro pins s σ H R I h
 refine thn (hl pins s σ H _ I h) fun v s1 hZ1=>?_
 obtain ⟨x,H1,I1,r1,q1⟩:=hZ1
 obtain ⟨a,e,⟨xs,hq⟩,q⟩:=q1
 subst e
 cases r1
 obtain ⟨its,rv,p,hz⟩:=I1.list hq
 refine wpAny_pyIter_list p.isList ?_
 refine ⟨s1.heap.objs.size,[s1.heap.objs.size],_,_,H1,rfl,I1.kept (t':=s1.toks) fun b o e=>Heap.get?_push_of_some _ e,AD a _,⟨_,Heap.get?_push_size _ rfl,rfl,rfl⟩,fun b hb=>?_,q⟩
 have e:b=s1.heap.objs.size:=by simpa using hb
 subst e
 exact I1.fpOk (Nat.le_refl _) (I1.hok.fresh (Nat.le_refl _))
theorem jM {l:Expr} {tl:TE} (hl:PE X l tl):PI X tg l (JN X.K tl):=by
 intro pins s σ H R I h
 refine thn (hl pins s σ H _ I h) fun v s1 hZ1=>?_
 obtain ⟨x,H1,I1,r1,q1⟩:=hZ1
 obtain ⟨a,e,⟨xs,hq⟩,q⟩:=q1
 subst e
 cases r1
 obtain ⟨its,rv,p,hz⟩:=I1.tuple hq
 refine wpAny_pyIter_tuple (show s1.heap.IsTuple a its.toArray from p) ?_
 refine ⟨s1.heap.objs.size,[s1.heap.objs.size],_,_,H1,rfl,I1.kept (t':=s1.toks) fun b o e=>Heap.get?_push_of_some _ e,fB a _,⟨_,Heap.get?_push_size _ rfl,rfl,rfl⟩,fun b hb=>?_,q⟩
 have e:b=s1.heap.objs.size:=by simpa using hb
 subst e
 exact I1.fpOk (Nat.le_refl _) (I1.hok.fresh (Nat.le_refl _))
theorem JF {pins:List (Addr × Obj)} {σ:St} {H:Hp} {s:Shared} {R:It→Hp→Prop} {E:Value→Shared→Prop} {lo hi:Int} {t u v:Tok} {tk:Nat} (I:Inv X pins σ H s) (h1:-(2 ^ 62) ≤ lo) (h2:lo < 2 ^ 62) (h3:-(2 ^ 62) ≤ hi) (h4:hi < 2 ^ 62)
  (q:R (Itr lo (hi - lo).toNat) H):wpAny (model X.prog X.w) X.A (pyIter (.ref s.heap.objs.size)) (PIE X pins σ tg R) E { s with heap:=s.heap.push { cls:=.type "range",data:=.fields #[.int lo t,.int hi u,.int 1 v] },toks:=tk }:=by
 refine wpAny_pyIter_range (IsRange.new ..) (small_one h1 h2 h3 h4) ?_
 have I1:Inv X pins σ H { s with heap:=s.heap.push { cls:=.type "range",data:=.fields #[.int lo t,.int hi u,.int 1 v] },toks:=tk }:=I.kept fun b o e=>Heap.get?_push_of_some _ e
 refine ⟨(s.heap.push { cls:=.type "range",data:=.fields #[.int lo t,.int hi u,.int 1 v] }).objs.size,[(s.heap.push { cls:=.type "range",data:=.fields #[.int lo t,.int hi u,.int 1 v] }).objs.size],_,_,H,rfl,
  I1.kept (t':=tk) fun b o e=>Heap.get?_push_of_some _ e,pA _ lo (hi - lo).toNat,?_,fun b hb=>?_,q⟩
 ·have e1:lo + ((0:Nat):Int) * 1=lo:=by simp
  have e2:(((hi - lo).toNat:Nat):Int) - ((0:Nat):Int)=Builtin.Range.rangeSize lo hi 1:=by rw [rangeSize_one];split <;> omega
  show IsRangeIter _ _ (lo + ((0:Nat):Int) * 1) ((((hi - lo).toNat:Nat):Int) - ((0:Nat):Int)) 1
  rw [e1,e2]
  exact Heap.get?_push_size _ rfl
 ·have e:b=(s.heap.push { cls:=.type "range",data:=.fields #[.int lo t,.int hi u,.int 1 v] }).objs.size:=by simpa using hb
  subst e
  exact I1.fpOk (Nat.le_refl _) (I1.hok.fresh (Nat.le_refl _))
noncomputable def WL (ta:TA):TI:=fun σ H R=>ta σ H fun vs H1=>∃ j:Int,vs=[.int j]∧-(2 ^ 62) ≤ j∧j < 2 ^ 62∧R (Itr 0 j.toNat) H1
theorem ze {a:Expr} {ta:TA} {p pos:Pos} (hg:Gl X "range") (hm:X.mg "range"=none) (ha:PA X [a] ta) (hs:starEach [a] X.env=[(false,eval a X.env)]:=by rfl):PI X tg (.Call (.Name "range" p) [a] [] pos) (WL ta):=by
 intro pins s σ H R I h
 refine Call_ (wp I hg hm boot_range (PyProof.Rows.callWith_type1 (thn (ha pos pins s σ H _ I h) fun us s1 hZ1=>?_) hs rfl))
 obtain ⟨vs,H1,I1,r1,q1⟩:=hZ1
 obtain ⟨j,e,q1,q2,q⟩:=q1
 subst e
 cases r1 with
 | cons r rr=>
  cases rr
  obtain ⟨t,rfl⟩:=r
  exact call_range_1 (JF I1 (by omega) (by omega) q1 q2 (by simpa using q))
noncomputable def uN (wi:TI) (g:TG) (tb:TS):TS:=fun D σ H=>wi σ H fun J H1=>∃ W:Nat→Nat→St→Hp→Prop,(∃ m,W 0 m σ H1)∧∀ i m σ H,W i m σ H →
 (J.stop i H∧D.nx σ H)∨(J.go i H∧∃ N:St→Hp→Prop,(∀ σ' H',N σ' H'→∃ m',m' < m∧W (i + 1) m' σ' H')∧∀ x H',J.yld i H x H'→g x σ H' fun σ2 H2=>tb { D with nx:=N,ct:=N,bk:=D.nx } σ2 H2)
noncomputable def yw (fp:List Addr) (h:Heap):List (Addr × Obj):=fp.filterMap fun b=>(h.get? b).map fun o=>(b,o)
theorem Qk {fp:List Addr} {h:Heap} {b:Addr} {o:Obj} (hb:b ∈ fp) (e:h.get? b=some o):(b,o) ∈ yw fp h:=List.mem_filterMap.mpr ⟨b,hb,by rw [e];rfl⟩
theorem dE {fp:List Addr} {h:Heap} {p:Addr × Obj} (hp:p ∈ yw fp h):p.1 ∈ fp∧h.get? p.1=some p.2:=by
 obtain ⟨b,hb,e⟩:=List.mem_filterMap.mp hp
 cases q:h.get? b with
 | none=>rw [q] at e;cases e
 | some o=>
  rw [q] at e
  have e':(b,o)=p:=Option.some.inj e
  subst e'
  exact ⟨hb,q⟩
theorem Inv.pinned {pins:List (Addr × Obj)} {σ:St} {H:Hp} {s:Shared} {fp:List Addr} (I:Inv X pins σ H s) (hf:∀ b ∈ fp,sw X pins H b) (ho:∀ b ∈ fp,∃ o,s.heap.get? b=some o∧∀ v,o.data ≠ .cell v):Inv X (pins ++ yw fp s.heap) σ H s:=
 I.pins_of fun p hp=>(List.mem_append.mp hp).elim (fun z=>I.pin p (List.mem_append_right _ z)) fun z=>by
  obtain ⟨hb,e⟩:=dE z
  obtain ⟨f0,f1,f2,_⟩:=hf p.1 hb
  obtain ⟨o,e',d⟩:=ho p.1 hb
  rw [e] at e';cases e'
  exact ⟨e,f0,f1,f2,d⟩
theorem Inv.unpinned {pins pl:List (Addr × Obj)} {σ:St} {H:Hp} {s:Shared} (I:Inv X (pins ++ pl) σ H s):Inv X pins σ H s:=I.pins_of fun p hp=>I.pin p (List.mem_append_right _ (List.mem_append_left _ hp))
theorem Xd {iter:Expr} {body:List Stmt} {wi:TI} {g:TG} {tb:TS} {pos:Pos} (hp:PassesOwn (model X.prog X.w) X.A X.env X.xe) (hc:X.calm=true) (hi:PI X tg iter wi) (hg:PG X tg g) (hb:PSs X body tb)
  (hs:∀ x,foldedSetIterable iter X.env x=pure x:=by intro _;rfl):PS X (.For tg iter body [] pos) (uN wi g tb):=by
 intro pins s σ H D I h
 refine wpAny_For (thn (hi pins s σ H _ I h) fun v s1 h1=>thn h1 fun itv s2 h2=>?_) hs
 obtain ⟨it,fp,tn,J,H2,e,I2,T,st2,f2,W,⟨m0,w0⟩,turn⟩:=h2
 subst e
 -- what stays true of the iterator's objects through the loop
 have stat:∀ {H':Hp},(∀ b ∈ fp,H' b=none)→∀ b ∈ fp,sw X pins H' b:=fun hn b hb=>⟨hn b hb,(f2 b hb).2⟩
 refine codeAny_forLoop_any (fun n s'=>∃ i σ' H',Inv X pins σ' H' s'∧tn i s'.heap∧(∀ b ∈ fp,H' b=none)∧W i n σ' H') ?_ m0 ⟨0,σ,H2,I2,st2,fun b hb=>(f2 b hb).1,w0⟩
 rintro n s3 ⟨i,σ3,H3,I3,st3,fr3,w3⟩
 rcases turn i n σ3 H3 w3 with ⟨stop,qn⟩ | ⟨go,N,hN,step⟩
 ·refine wpAny_passesOwn hp (thn (T.done X rfl rfl rfl hc i pins s3 σ3 H3 X.xe I3 (stat fr3) st3 stop) fun r s4 hZ1=>?_)
  obtain ⟨hr,I4⟩:=hZ1
  subst hr
  exact wpAny_execs_nil ⟨σ3,H3,I4,qn⟩
 ·refine wpAny_passesOwn hp (thn (T.item X rfl rfl rfl hc i pins s3 σ3 H3 X.xe I3 (stat fr3) st3 go) fun r s4 hZ1=>?_)
  obtain ⟨u,hr,h4⟩:=hZ1
  subst hr
  refine wpAny_passesOwn hp (thn h4 fun _ s5 hZ1=>?_)
  obtain ⟨x,H5,I5,r5,y5,st5,fr5⟩:=hZ1
  have I5':=I5.pinned (stat fr5) (T.obj _ _ st5)
  refine wpAny_passesOwn hp (thn (hg _ s5 σ3 H5 x u _ I5' r5 (step x H5 y5)) fun _ s6 hZ1=>?_)
  obtain ⟨σ6,H6,I6,q6⟩:=hZ1
  refine wpAny_passesOwn hp (thn (hb _ s6 σ6 H6 _ I6 q6) fun f s7 q7=>?_)
  have again:∀ {σ7:St} {H7:Hp},Inv X (pins ++ yw fp s5.heap) σ7 H7 s7→N σ7 H7→∃ m,m < n∧∃ i σ' H',Inv X pins σ' H' s7∧tn i s7.heap∧(∀ b ∈ fp,H' b=none)∧W i m σ' H':=fun {σ7 H7} I7 n7=>by
   obtain ⟨m',hm,w7⟩:=hN σ7 H7 n7
   refine ⟨m',hm,i + 1,σ7,H7,I7.unpinned,T.keep _ _ _ st5 fun b hb o e=>(I7.pin (b,o) (List.mem_append_right _ (List.mem_append_right _ (Qk hb e)))).1,fun b hb=>?_,w7⟩
   obtain ⟨o,e,d⟩:=T.obj _ _ st5 b hb
   exact (I7.pin (b,o) (List.mem_append_right _ (List.mem_append_right _ (Qk hb e)))).2.1
  cases f with
  | next=>obtain ⟨σ7,H7,I7,n7⟩:=q7;exact again I7 n7
  | cont=>obtain ⟨σ7,H7,I7,n7⟩:=q7;exact again I7 n7
  | brk=>obtain ⟨σ7,H7,I7,q7⟩:=q7;exact ⟨σ7,H7,I7.unpinned,q7⟩
  | ret v=>obtain ⟨x7,σ7,H7,I7,r7,q7⟩:=q7;exact ⟨x7,σ7,H7,I7.unpinned,r7,q7⟩
end
theorem uF {K:PySem.W.Frag} {a:Addr} {xs:List V} {g:TG} {tb:TS} {D:Mi} {σ:St} {H:Hp} (Pv:Nat→St→Hp→Prop) (h0:Pv 0 σ H) (hl:∀ i σ H,i ≤ xs.length→Pv i σ H→SqL K H a xs)
  (hs:∀ i x σ H,xs[i]? = some x→Pv i σ H→g x σ H fun σ2 H2=>tb { D with nx:=Pv (i + 1),ct:=Pv (i + 1),bk:=D.nx } σ2 H2) (hd:∀ σ H,Pv xs.length σ H→D.nx σ H) :
  ∃ W:Nat→Nat→St→Hp→Prop,(∃ m,W 0 m σ H)∧∀ i m σ H,W i m σ H →
   ((Itl K a).stop i H∧D.nx σ H)∨((Itl K a).go i H∧∃ N:St→Hp→Prop,(∀ σ' H',N σ' H'→∃ m',m' < m∧W (i + 1) m' σ' H')∧∀ x H',(Itl K a).yld i H x H'→g x σ H' fun σ2 H2=>tb { D with nx:=N,ct:=N,bk:=D.nx } σ2 H2):=by
 refine ⟨fun i m σ H=>m=xs.length - i∧i ≤ xs.length∧Pv i σ H,⟨xs.length,by simp,Nat.zero_le _,h0⟩,?_⟩
 rintro i m σ H ⟨rfl,hi,p⟩
 have q:=hl i σ H hi p
 by_cases hlt:i < xs.length
 ·refine .inr ⟨⟨xs,xs[i],q,by simp [hlt]⟩,Pv (i + 1),fun σ' H' p'=>⟨xs.length - (i + 1),by omega,rfl,hlt,p'⟩,fun x H' y=>?_⟩
  obtain ⟨e,y⟩:=y
  subst e
  exact hs i x σ _ (y xs q) p
 ·have e:i=xs.length:=by omega
  subst e
  exact .inl ⟨⟨xs,q,Nat.le_refl _⟩,hd σ H p⟩
theorem iC {lo:Int} {n:Nat} {g:TG} {tb:TS} {D:Mi} {σ:St} {H:Hp} (Pv:Nat→St→Hp→Prop) (h0:Pv 0 σ H)
  (hs:∀ i σ H,i < n→Pv i σ H→g (.int (lo + i)) σ H fun σ2 H2=>tb { D with nx:=Pv (i + 1),ct:=Pv (i + 1),bk:=D.nx } σ2 H2) (hd:∀ σ H,Pv n σ H→D.nx σ H) :
  ∃ W:Nat→Nat→St→Hp→Prop,(∃ m,W 0 m σ H)∧∀ i m σ H,W i m σ H →
   ((Itr lo n).stop i H∧D.nx σ H)∨((Itr lo n).go i H∧∃ N:St→Hp→Prop,(∀ σ' H',N σ' H'→∃ m',m' < m∧W (i + 1) m' σ' H')∧∀ x H',(Itr lo n).yld i H x H'→g x σ H' fun σ2 H2=>tb { D with nx:=N,ct:=N,bk:=D.nx } σ2 H2):=by
 refine ⟨fun i m σ H=>m=n - i∧i ≤ n∧Pv i σ H,⟨n,by simp,Nat.zero_le _,h0⟩,?_⟩
 rintro i m σ H ⟨rfl,hi,p⟩
 by_cases hlt:i < n
 ·refine .inr ⟨hlt,Pv (i + 1),fun σ' H' p'=>⟨n - (i + 1),by omega,rfl,hlt,p'⟩,fun x H' y=>?_⟩
  obtain ⟨e,y⟩:=y
  subst e y
  exact hs i σ _ hlt p
 ·have e:i=n:=by omega
  subst e
  exact .inl ⟨Nat.le_refl _,hd σ H p⟩
end L2
namespace L2
open PySem PySem.Spec PyProof.Rows
noncomputable abbrev R2:=V→V→Hp→VK→Prop
noncomputable def OpR (X:Cx) (f:Value→Value→Sem Value) (r:R2):Prop:=
 ∀ (pins:List (Addr × Obj)) (s:Shared) (σ:St) (H:Hp) (x y:V) (v u:Value) (Q:VK),Inv X pins σ H s→Ld x v→Ld y u→r x y H Q →
  wpAny (model X.prog X.w) X.A (f v u) (EP X pins σ Q) X.xe s
noncomputable def am (X:Cx) (f:Value) (r:List V→Hp→VK→Prop):Prop:=
 ∀ (pins:List (Addr × Obj)) (s:Shared) (σ:St) (H:Hp) (xs:List V) (us:List Value) (Q:VK),Inv X pins σ H s→Qd xs us→r xs H Q →
  wpAny (model X.prog X.w) X.A (call f us) (EP X pins σ Q) X.xe s
noncomputable def PN (X:Cx) (r:V→Hp→(Bool→Hp→Prop)→Prop):Prop:=
 ∀ (pins:List (Addr × Obj)) (s:Shared) (σ:St) (H:Hp) (x:V) (v:Value) (Q:Bool→Hp→Prop),Inv X pins σ H s→Ld x v→r x H Q →
  wpAny (model X.prog X.w) X.A (truthy v) (TP X pins σ Q) X.xe s
noncomputable def tOp (r:R2) (ta tb:TE):TE:=fun σ H Q=>ta σ H fun x H1=>tb σ H1 fun y H2=>r x y H2 Q
noncomputable def rI (C:Int→Int→Prop) (g:Int→Int→V):R2:=fun x y H Q=>∃ i j,x=.int i∧y=.int j∧C i j∧Q (g i j) H
noncomputable def rI0 (g:Int→Int→V):R2:=fun x y H Q=>∃ i j,x=.int i∧y=.int j∧Q (g i j) H
section
variable {X:Cx} {a b c:Expr} {ta tb tc:TE} {pos:Pos}
theorem KM (ha:PE X a ta) (hb:PE X b tb) {pins:List (Addr × Obj)} {s:Shared} {σ:St} {H:Hp} {R:V→V→Hp→Prop} (I:Inv X pins σ H s)
  (h:ta σ H fun x H1=>tb σ H1 fun y H2=>R x y H2) {Q:Value→Shared→Prop} {f:Value→Value→Sem Value}
  (hf:∀ v u s2 x y H2,Inv X pins σ H2 s2→Ld x v→Ld y u→R x y H2→wpAny (model X.prog X.w) X.A (f v u) Q X.xe s2) :
  wpAny (model X.prog X.w) X.A (eval a X.env) (fun v s₁=>wpAny (model X.prog X.w) X.A (eval b X.env) (fun u s₂=>wpAny (model X.prog X.w) X.A (f v u) Q X.xe s₂) X.xe s₁) X.xe s:=by
 refine thn (ha pins s σ H _ I h) fun v s1 hZ1=>?_
 obtain ⟨x,H1,I1,r1,q1⟩:=hZ1
 refine thn (hb pins s1 σ H1 _ I1 q1) fun u s2 hZ1=>?_
 obtain ⟨y,H2,I2,r2,q2⟩:=hZ1
 exact hf v u s2 x y H2 I2 r1 r2 q2
theorem Nb {op:Operator} {r:R2} (ho:OpR X (binaryOp op) r) (ha:PE X a ta) (hb:PE X b tb):PE X (.BinOp a op b pos) (tOp r ta tb):=by
 intro pins s σ H Q I h
 exact wpAny_BinOp (KM ha hb I h fun v u s2 x y H2 I2 rx ry q=>ho pins s2 σ H2 x y v u Q I2 rx ry q)
theorem opI {f:Value→Value→Sem Value} {C:Int→Int→Prop} {g:Int→Int→Int}
  (rule:∀ (i j:Int) (t u:Tok) (s:Shared) (Q:Value→Shared→Prop) (E:Value→Shared→Prop),C i j→Q (.int (g i j) s.toks) { s with toks:=s.toks + 1 }→wpAny (model X.prog X.w) X.A (f (.int i t) (.int j u)) Q E s) :
  OpR X f (rI C fun i j=>.int (g i j)):=by
 intro pins s σ H x y v u Q I rx ry h
 obtain ⟨i,j,rfl,rfl,hc,q⟩:=h
 obtain ⟨t,rfl⟩:=rx
 obtain ⟨t',rfl⟩:=ry
 exact rule i j t t' s _ _ hc ⟨.int (g i j),H,I.tok _,⟨_,rfl⟩,q⟩
theorem HN {f:Value→Value→Sem Value} {g:Int→Int→Int}
  (rule:∀ (i j:Int) (t u:Tok) (s:Shared) (Q:Value→Shared→Prop) (E:Value→Shared→Prop),Q (.int (g i j) s.toks) { s with toks:=s.toks + 1 }→wpAny (model X.prog X.w) X.A (f (.int i t) (.int j u)) Q E s) :
  OpR X f (rI0 fun i j=>.int (g i j)):=by
 intro pins s σ H x y v u Q I rx ry h
 obtain ⟨i,j,rfl,rfl,q⟩:=h
 obtain ⟨t,rfl⟩:=rx
 obtain ⟨t',rfl⟩:=ry
 exact rule i j t t' s _ _ ⟨.int (g i j),H,I.tok _,⟨_,rfl⟩,q⟩
theorem xN {f:Value→Value→Sem Value} {g:Int→Int→Bool}
  (rule:∀ (i j:Int) (t u:Tok) (s:Shared) (Q:Value→Shared→Prop) (E:Value→Shared→Prop),Q (.bool (g i j)) s→wpAny (model X.prog X.w) X.A (f (.int i t) (.int j u)) Q E s) :
  OpR X f (rI0 fun i j=>.bl (g i j)):=by
 intro pins s σ H x y v u Q I rx ry h
 obtain ⟨i,j,rfl,rfl,q⟩:=h
 obtain ⟨t,rfl⟩:=rx
 obtain ⟨t',rfl⟩:=ry
 exact rule i j t t' s _ _ ⟨.bl (g i j),H,I,rfl,q⟩
noncomputable def TD (i j:Int):Prop:=(-(2 ^ 64) < i∧i < 2 ^ 64)∨(-(2 ^ 64) < j∧j < 2 ^ 64)
theorem TD.ok {i j:Int} (h:TD i j):IntMulOk i j:=by
 rcases h with ⟨h1,h2⟩ | ⟨h1,h2⟩
 ·exact .of_left (intBits_le_64 h1 h2)
 ·exact .of_right (intBits_le_64 h1 h2)
theorem Wc:OpR X (binaryOp .Add) (rI0 fun i j=>.int (i + j)):=HN fun _ _ _ _ _ _ _ q=>add_int q
theorem el:OpR X (binaryOp .Sub) (rI0 fun i j=>.int (i - j)):=HN fun _ _ _ _ _ _ _ q=>sub_int q
theorem mh:OpR X (binaryOp .Mult) (rI TD fun i j=>.int (i * j)):=opI fun _ _ _ _ _ _ _ hc q=>mul_int q hc.ok
theorem jg:OpR X (binaryOp .Mod) (rI (fun _ j=>0 < j) fun i j=>.int (i % j)):=opI fun i j _ _ _ _ _ hc q=>by
 have h1:(0:Int) < j:=hc
 exact mod_int' (by omega) (by rw [Int.fmod_eq_emod_of_nonneg i (by omega)];exact q)
end
noncomputable def nL:V→V→Bool
 | .non,.non=>true | .non,.int _=>true | .int _,.non=>true | .non,.bl _=>true | .bl _,.non=>true | .non,.str _=>true | .str _,.non=>true
 | .int _,.int _=>true | .bl _,.bl _=>true | .str _,.str _=>true | .byt _,.byt _=>true
 | .int _,.str _=>true | .str _,.int _=>true | .bl _,.str _=>true | .str _,.bl _=>true
 | _,_=>false
noncomputable def rEq:R2:=fun x y H Q=>nL x y=true∧Q (.bl (decide (x=y))) H
noncomputable def rNe:R2:=fun x y H Q=>nL x y=true∧Q (.bl (!decide (x=y))) H
theorem QC {i j:Int}:decide (V.int i=V.int j)=(i == j):=by
 rw [Bool.eq_iff_iff]
 simp
theorem cI {i j:Bool}:decide (V.bl i=V.bl j)=(i == j):=by
 rw [Bool.eq_iff_iff]
 simp
theorem SB {i j:Str}:decide (V.str i=V.str j)=(i == j):=by
 rw [Bool.eq_iff_iff]
 simp
theorem MB {i j:Array UInt8}:decide (V.byt i=V.byt j)=(i.toList == j.toList):=by
 rw [Bool.eq_iff_iff]
 cases i
 cases j
 simp
section
variable {X:Cx} {a b c:Expr} {ta tb tc:TE} {pos:Pos}
theorem ld {pins:List (Addr × Obj)} {σ:St} {H:Hp} {s:Shared} {Q:VK} {k k':Bool} (I:Inv X pins σ H s) (q:Q (.bl k) H) (e:k=k'):EP X pins σ Q (.bool k') s:=by
 subst e
 exact ⟨.bl k,H,I,rfl,q⟩
theorem zg:OpR X (compareOp .Eq) rEq:=by
 intro pins s σ H x y v u Q I rx ry h
 obtain ⟨hs,q⟩:=h
 cases x with
 | non=>
  cases rx
  cases y with
  | non=>cases ry;exact PySem.EqNone.eq_none_none (ld I q (by simp))
  | bl j=>cases ry;exact PySem.EqNone.eq_none_bool (ld I q (by simp))
  | int j=>obtain ⟨t',rfl⟩:=ry;exact PySem.EqNone.eq_none_int (ld I q (by simp))
  | str j=>obtain ⟨t',rfl⟩:=ry;exact PySem.EqNone.eq_none_str (ld I q (by simp))
  | _=>exact absurd (show false=true from hs) Bool.false_ne_true
 | bl i=>
  cases rx
  cases y with
  | non=>cases ry;exact PySem.EqNone.eq_bool_none (ld I q (by simp))
  | bl j=>cases ry;exact eq_bool (ld I q cI)
  | str j=>obtain ⟨t',rfl⟩:=ry;exact PySem.EqMixed.eq_bool_str (ld I q (by simp))
  | _=>exact absurd (show false=true from hs) Bool.false_ne_true
 | int i=>
  obtain ⟨t,rfl⟩:=rx
  cases y with
  | non=>cases ry;exact PySem.EqNone.eq_int_none (ld I q (by simp))
  | int j=>obtain ⟨t',rfl⟩:=ry;exact eq_int (ld I q QC)
  | str j=>obtain ⟨t',rfl⟩:=ry;exact PySem.EqMixed.eq_int_str (ld I q (by simp))
  | _=>exact absurd (show false=true from hs) Bool.false_ne_true
 | str i=>
  obtain ⟨t,rfl⟩:=rx
  cases y with
  | non=>cases ry;exact PySem.EqNone.eq_str_none (ld I q (by simp))
  | bl j=>cases ry;exact PySem.EqMixed.eq_str_bool (ld I q (by simp))
  | int j=>obtain ⟨t',rfl⟩:=ry;exact PySem.EqMixed.eq_str_int (ld I q (by simp))
  | str j=>obtain ⟨t',rfl⟩:=ry;exact eq_str (ld I q SB)
  | _=>exact absurd (show false=true from hs) Bool.false_ne_true
 | byt i=>
  obtain ⟨t,rfl⟩:=rx
  cases y with
  | byt j=>obtain ⟨t',rfl⟩:=ry;exact PySem.W.eq_bytes (ld I q MB)
  | _=>exact absurd (show false=true from hs) Bool.false_ne_true
 | _=>cases y <;> exact absurd (show false=true from hs) Bool.false_ne_true
theorem wx:OpR X (compareOp .NotEq) rNe:=by
 intro pins s σ H x y v u Q I rx ry h
 obtain ⟨hs,q⟩:=h
 cases x with
 | non=>
  cases rx
  cases y with
  | non=>cases ry;exact PySem.EqNone.ne_none_none (ld I q (by simp))
  | bl j=>cases ry;exact PySem.EqNone.ne_none_bool (ld I q (by simp))
  | int j=>obtain ⟨t',rfl⟩:=ry;exact PySem.EqNone.ne_none_int (ld I q (by simp))
  | str j=>obtain ⟨t',rfl⟩:=ry;exact PySem.EqNone.ne_none_str (ld I q (by simp))
  | _=>exact absurd (show false=true from hs) Bool.false_ne_true
 | bl i=>
  cases rx
  cases y with
  | non=>cases ry;exact PySem.EqNone.ne_bool_none (ld I q (by simp))
  | bl j=>cases ry;exact ne_bool (ld I q (congrArg not cI))
  | str j=>obtain ⟨t',rfl⟩:=ry;exact PySem.EqMixed.ne_bool_str (ld I q (by simp))
  | _=>exact absurd (show false=true from hs) Bool.false_ne_true
 | int i=>
  obtain ⟨t,rfl⟩:=rx
  cases y with
  | non=>cases ry;exact PySem.EqNone.ne_int_none (ld I q (by simp))
  | int j=>obtain ⟨t',rfl⟩:=ry;exact ne_int (ld I q (congrArg not QC))
  | str j=>obtain ⟨t',rfl⟩:=ry;exact PySem.EqMixed.ne_int_str (ld I q (by simp))
  | _=>exact absurd (show false=true from hs) Bool.false_ne_true
 | str i=>
  obtain ⟨t,rfl⟩:=rx
  cases y with
  | non=>cases ry;exact PySem.EqNone.ne_str_none (ld I q (by simp))
  | bl j=>cases ry;exact PySem.EqMixed.ne_str_bool (ld I q (by simp))
  | int j=>obtain ⟨t',rfl⟩:=ry;exact PySem.EqMixed.ne_str_int (ld I q (by simp))
  | str j=>obtain ⟨t',rfl⟩:=ry;exact ne_str (ld I q (congrArg not SB))
  | _=>exact absurd (show false=true from hs) Bool.false_ne_true
 | byt i=>
  obtain ⟨t,rfl⟩:=rx
  cases y with
  | byt j=>obtain ⟨t',rfl⟩:=ry;exact PySem.W.ne_bytes (ld I q (congrArg not MB))
  | _=>exact absurd (show false=true from hs) Bool.false_ne_true
 | _=>cases y <;> exact absurd (show false=true from hs) Bool.false_ne_true
theorem Bu:OpR X (compareOp .Lt) (rI0 fun i j=>.bl (decide (i < j))):=xN fun _ _ _ _ _ _ _ q=>lt_int q
theorem oy:OpR X (compareOp .Gt) (rI0 fun i j=>.bl (decide (j < i))):=xN fun _ _ _ _ _ _ _ q=>gt_int q
theorem VC:OpR X (compareOp .In) (fun x y H Q=>∃ i j,x=.str i∧y=.str j∧Q (.bl (!(Builtin.Str.occurrences j i 0 j.length 1).isEmpty)) H):=by
 intro pins s σ H x y v u Q I rx ry h
 obtain ⟨i,j,rfl,rfl,q⟩:=h
 obtain ⟨t,rfl⟩:=rx
 obtain ⟨t',rfl⟩:=ry
 exact in_str (ld I q rfl)
theorem wD:OpR X (compareOp .IsNot) (fun x y H Q=>y=.non∧Q (.bl (!decide (x=.non))) H):=by
 intro pins s σ H x y v u Q I rx ry h
 obtain ⟨rfl,q⟩:=h
 cases ry
 refine isnot_none_gen (ld I q ?_)
 cases x <;> first
  | (cases rx;rfl)
  | (obtain ⟨t,rfl⟩:=rx;rfl)
theorem OpR.or {f:Value→Value→Sem Value} {r r':R2} (h:OpR X f r) (h':OpR X f r'):OpR X f (fun x y H Q=>r x y H Q∨r' x y H Q):=by
 intro pins s σ H x y v u Q I rx ry q
 rcases q with q | q
 ·exact h pins s σ H x y v u Q I rx ry q
 ·exact h' pins s σ H x y v u Q I rx ry q
theorem gc (b:Expr) {op:CmpOp} (h:op ≠ .In:=by decide) (h2:op ≠ .NotIn:=by decide):behindInMarks op b=false:=by
 have e1:(op == CmpOp.In)=false:=by cases op <;> first | rfl | exact absurd rfl h
 have e2:(op == CmpOp.NotIn)=false:=by cases op <;> first | rfl | exact absurd rfl h2
 cases b <;> simp [behindInMarks,e1,e2]
theorem Pd {op:CmpOp} {r:R2} (ho:OpR X (compareOp op) r) (ha:PE X a ta) (hb:PE X b tb) (hm:behindInMarks op b=false):PE X (.Compare a [op] [b] pos) (tOp r ta tb):=by
 intro pins s σ H Q I h
 exact wpAny_Compare1 (KM ha hb I h fun v u s2 x y H2 I2 rx ry q=>ho pins s2 σ H2 x y v u Q I2 rx ry q) hm
noncomputable def OL (t:TE):TT:=fun σ H Q=>t σ H fun x H'=>∃ k,x=.bl k∧Q k H'
theorem ac {op:CmpOp} {r:R2} (ho:OpR X (compareOp op) r) (ha:PE X a ta) (hb:PE X b tb) (hm:behindInMarks op b=false):PT X (.Compare a [op] [b] pos) (OL (tOp r ta tb)):=by
 intro pins s σ H Q I h
 refine wpAny_isTrue_Compare1 (thn (ha pins s σ H _ I h) fun v s1 ⟨x,H1,I1,r1,q1⟩=>thn (hb pins s1 σ H1 _ I1 q1) fun u s2 ⟨y,H2,I2,r2,q2⟩=>
  thn (ho pins s2 σ H2 x y v u _ I2 r1 r2 q2) fun c s3 ⟨z,H3,I3,r3,k,e,q3⟩=>?_) hm
 subst e
 cases r3
 exact wpAny_truthy_bool ⟨H3,I3,q3⟩
noncomputable def ON (K:PySem.W.Frag) (x:V) (H:Hp) (k:Bool):Prop:=
 match x with
 | .non=>k=false
 | .bl b=>k=b
 | .int i=>k=(i != 0)
 | .str y=>y.length ≤ sizeLine∧k=((y.length:Int) != 0)
 | .byt y=>y.size ≤ sizeLine∧k=((y.size:Int) != 0)
 | .ref p=>(∃ xs,SqL K H p xs∧k = !xs.isEmpty)∨(∃ xs,SqT K H p xs∧k = !xs.isEmpty)∨∃ kvs,H p=some (.dK kvs)∧k = !kvs.isEmpty
 | _=>False
theorem YA {κ:Type} {kvs:List (κ × V)} {vs:List (κ × Value)} (r:KV kvs vs):(!vs.isEmpty) = !kvs.isEmpty:=by
 cases r <;> rfl
theorem Gs {xs:List V} {its:List Value} (r:Qd xs its):(!its.toArray.isEmpty) = !xs.isEmpty:=by
 cases r <;> simp
theorem Bt:(sizeLine:Nat) < 2 ^ 63:=by rw [sizeLine_eq];decide
theorem MK:PN X (fun x H Q=>∃ k,ON X.K x H k∧Q k H):=by
 intro pins s σ H x v Q I rx h
 obtain ⟨k,e,q⟩:=h
 have hl:=Bt
 have hs:sizeLine=16777216:=sizeLine_eq
 cases x with
 | non=>
  cases rx
  have e':k=false:=e
  subst e'
  exact truthy_none ⟨H,I,q⟩
 | bl b=>
  cases rx
  have e':k=b:=e
  subst e'
  exact wpAny_truthy_bool ⟨H,I,q⟩
 | int i=>
  obtain ⟨t,rfl⟩:=rx
  have e':k=(i != 0):=e
  subst e'
  exact PySem.P.truthy_int ⟨H,I,q⟩
 | str y=>
  obtain ⟨t,rfl⟩:=rx
  obtain ⟨hy,e'⟩:y.length ≤ sizeLine∧k=((y.length:Int) != 0):=e
  subst e'
  exact PySem.P.truthy_str (by omega) ⟨H,I.tok _,q⟩
 | byt y=>
  obtain ⟨t,rfl⟩:=rx
  obtain ⟨hy,e'⟩:y.size ≤ sizeLine∧k=((y.size:Int) != 0):=e
  subst e'
  exact PySem.W.truthy_bytes (by omega) ⟨H,I.tok _,q⟩
 | ref p=>
  cases rx
  have e':(∃ xs,SqL X.K H p xs∧k = !xs.isEmpty)∨(∃ xs,SqT X.K H p xs∧k = !xs.isEmpty)∨∃ kvs,H p=some (.dK kvs)∧k = !kvs.isEmpty:=e
  rcases e' with ⟨xs,hx,e'⟩ | ⟨xs,hx,e'⟩ | ⟨kvs,hx,e'⟩
  ·subst e'
   obtain ⟨its,r,pl,hz⟩:=I.list hx
   have hlen:=r.length
   exact wpAny_truthy_list pl.isList (by simp only [List.size_toArray];omega) ⟨H,I.tok _,by rw [Gs r];exact q⟩
  ·subst e'
   obtain ⟨its,r,pl,hz⟩:=I.tuple hx
   have hlen:=r.length
   exact truthy_tuple pl (by simp only [List.size_toArray];omega) ⟨H,I.tok _,by rw [Gs r];exact q⟩
  ·subst e'
   obtain ⟨hz,hS,vs,r,m⟩:kvs.length ≤ sizeLine∧(p == sysModules)=false∧∃ vs,KV kvs vs∧s.heap.DictOf (Ce X.prog X.w) p vs:=I.hok p _ hx
   have hlen:kvs.length=vs.length:=Paired.length r
   exact wpAny_truthy_dict hS m (by omega) ⟨H,I.tok _,by rw [YA r];exact q⟩
 | _=>exact (show False from e).elim
theorem yz (ha:PE X a ta) (he:∀ whole,isTrue a X.env whole=(do let v ← whole;standAt a.pos;holding [v] (truthy v))) :
  PT X a (fun σ H Q=>ta σ H fun x H'=>∃ k,ON X.K x H' k∧Q k H'):=by
 intro pins s σ H Q I h
 exact isTrue_plain (thn (ha pins s σ H _ I h) fun v s1 ⟨x,H1,I1,r1,q1⟩=>MK pins s1 σ H1 x v Q I1 r1 q1) (he _)
theorem qd:OpR X (binaryOp .Add) (fun x y H Q=>∃ i j,x=.str i∧y=.str j∧i.length + j.length ≤ sizeLine∧Q (.str (i ++ j)) H):=by
 intro pins s σ H x y v u Q I rx ry h
 obtain ⟨i,j,rfl,rfl,hz,q⟩:=h
 obtain ⟨t,rfl⟩:=rx
 obtain ⟨t',rfl⟩:=ry
 exact add_str (fun t' tk=>⟨.str (i ++ j),H,I.tok _,⟨_,rfl⟩,q⟩) hz
theorem Gr {x:V} {us:List Value} (r:Qd [x] us):∃ u,us=[u]∧Ld x u:=by
 cases r with
 | cons r1 r2=>cases r2;exact ⟨_,rfl,r1⟩
theorem jJ {x y:V} {us:List Value} (r:Qd [x,y] us):∃ u w',us=[u,w']∧Ld x u∧Ld y w':=by
 cases r with
 | cons r1 r2=>
  cases r2 with
  | cons r3 r4=>cases r4;exact ⟨_,_,rfl,r1,r3⟩
theorem mE (hc:X.calm=true):am X (.builtin "max") (fun xs H Q=>∃ i j,xs=[.int i,.int j]∧Q (.int (if j > i then j else i)) H):=by
 intro pins s σ H xs us Q I r h
 obtain ⟨i,j,rfl,q⟩:=h
 obtain ⟨u,w',rfl,⟨t,rfl⟩,⟨t',rfl⟩⟩:=jJ r
 refine max_two_ints (I.ok.hd hc) fun h' tk k=>⟨_,H,I.kept k,?_,q⟩
 by_cases hj:j > i
 ·rw [if_pos hj,if_pos hj];exact ⟨_,rfl⟩
 ·rw [if_neg hj,if_neg hj];exact ⟨_,rfl⟩
theorem Ow:am X (.type "int") (fun xs H Q=>(∃ i,xs=[.int i]∧Q (.int i) H)∨∃ k,xs=[.bl k]∧Q (.int (if k then 1 else 0)) H):=by
 intro pins s σ H xs us Q I r h
 rcases h with ⟨i,rfl,q⟩ | ⟨k,rfl,q⟩
 ·obtain ⟨u,rfl,t,rfl⟩:=Gr r
  exact call_int_int ⟨.int i,H,I,⟨_,rfl⟩,q⟩
 ·obtain ⟨u,rfl,r1⟩:=Gr r
  cases r1
  exact call_int_bool ⟨.int (if k then 1 else 0),H,I.tok _,⟨_,rfl⟩,q⟩
theorem dg:am X (.type "str") (fun xs H Q=>∃ i,xs=[.int i]∧i.natAbs.log2 < 1920∧Q (.str (toString i)) H):=by
 intro pins s σ H xs us Q I r h
 obtain ⟨i,rfl,hz,q⟩:=h
 obtain ⟨u,rfl,t,rfl⟩:=Gr r
 exact PySem.P.str_of_int hz ⟨.str _,H,I.tok _,⟨_,rfl⟩,q⟩
end
end L2
namespace L2
open PySem PySem.Spec PyProof.Rows
structure eJ (h:Heap) (x dx C:Addr) (mA:Str→Option Value):Prop where
 obj:h.get? x=some (PySem.W.instObj C dx)
 ns:h.Ns1 dx mA
 ne:dx ≠ x
theorem zv {h:Heap} {dx:Addr} {mA:Str→Option Value} (n:h.Ns1 dx mA):∃ od,h.get? dx=some od∧∀ name,PySem.W.lookIn name od=some (mA name):=by
 obtain ⟨o,es,ep,ho,hd,hk,_,hm⟩:=n
 refine ⟨o,ho,fun name=>?_⟩
 have e:=hm name
 unfold nsFind findBy at e
 rw [← Array.find?_toList] at e
 unfold PySem.W.lookIn
 rw [hd]
 dsimp only
 split
 ·rename_i y q
  rw [q] at e
  exact congrArg some e
 ·rename_i q
  rw [q] at e
  have a:es.toList.any (·.refKey)=false:=by
   rw [List.any_eq_false]
   intro y hy
   obtain ⟨z,t,hkey⟩:=hk y (Array.mem_toList_iff.mp hy)
   simp [DictEntry.refKey,hkey]
  have a':¬ es.toList.any (·.refKey)=true:=by rw [a];exact Bool.false_ne_true
  rw [if_neg a']
  exact congrArg some e
theorem eJ.look {h:Heap} {x dx C:Addr} {mA:Str→Option Value} (I:eJ h x dx C mA):∃ od,PySem.W.InstAt h x (PySem.W.instObj C dx) C (some od)∧∀ name,PySem.W.lookIn name od=some (mA name):=
 let ⟨od,ho,hl⟩:=zv I.ns
 ⟨od,⟨I.obj,rfl,rfl,ho⟩,hl⟩
section
variable {prog:Program} {w:World} {A:Around} {E:Value→Shared→Prop} {s:Shared} {K:PySem.W.Frag} {x dx C f:Addr} {mA:Str→Option Value} {name:Str} {v:Value}
theorem rJ {expr:Bool} {Q:Value→Shared→Prop} (X:K.In s.heap) (I:eJ s.heap x dx C mA) (hg:PySem.W.plainGet K C name=true) (hh:PySem.W.hasDictIn K C=true)
  (ha:PySem.W.findIn K (.ref C) name=some none) (hv:mA name=some v) (hv':PySem.W.handedIn v=true) (h:Q v { s with toks:=s.toks + 1 }) :
  wpAny (model prog w) A (getAttr (.ref x) name expr) Q E s:=by
 obtain ⟨od,J,hl⟩:=I.look
 exact PySem.W.get_value X J (PySem.W.plainGet_of hg).1 (PySem.W.findObj_own hh ha rfl (by rw [hl,hv])) hv' h
theorem CF {pl:Sem Bool} {Q:Value × List Value→Shared→Prop} (X:K.In s.heap) (I:eJ s.heap x dx C mA) (hg:PySem.W.plainGet K C name=true)
  (hf:PySem.W.findIn K (.ref C) name=some (some (.ref f))) (ht:PySem.W.isFn K (.ref f)=true) (hv:mA name=none) (h:Q (.ref f,[.ref x]) s) :
  wpAny (model prog w) A (getMethod (.ref x) name pl) Q E s:=by
 obtain ⟨od,J,hl⟩:=I.look
 exact PySem.W.method_fn X J (PySem.W.plainGet_of hg).1 (PySem.W.plainGet_of hg).2 hf (beq_iff_eq.mp ht) (by show (PySem.W.lookIn name od).map (·.isSome)=some false;rw [hl,hv];rfl) h
theorem DI {ns:List Str} {Q:Unit→Shared→Prop} (X:K.In s.heap) (I:eJ s.heap x dx C mA)
  (hs:PySem.W.findIn K (.ref C) "__setattr__"=some (some (.builtin "object.__setattr__"))) (hp:PySem.W.plainOver K C=true) (ht:PySem.W.takerIn K C name=some none) (hh:PySem.W.hasDictIn K C=true)
  (hw:PySem.Within mA ns) (hsz:ns.length ≤ sizeLine)
  (h:∀ h',eJ h' x dx C (fun y=>if y=name then some v else mA y)→Heap.SameBut dx s.heap h'→Q () { s with heap:=h',toks:=s.toks + 2 }) :
  wpAny (model prog w) A (setAttr (.ref x) name v) Q E s:=by
 obtain ⟨od,J,hl⟩:=I.look
 refine PySem.W.set_plain X J hs (PySem.W.osa_open (s:={ s with toks:=s.toks + 1 }) (r:=none) X J hp ht fun b=>?_)
 obtain ⟨cd,hc,hd'⟩:=PySem.W.any_some hh
 have hx:s.heap.get? x=some ⟨.ref C,some dx,.plain,#[]⟩:=I.obj
 refine wpAny_bind (wpAny_pure (wpAny_bind (wpAny_bind (wpAny_loadPart hx (wpAny_bind (PySem.W.Looks.here (s:={ s with toks:=s.toks + 1 }) (PySem.W.looks_clsIn X hc) ?_))))))
 rw [hd']
 refine wpAny_pure (a:=some dx) (wpAny_bind (wpAny_pure (wpAny_bind ?_)))
 refine wpAny_nsSet1 (s:={ s with toks:=s.toks + 1 }) I.ns fun h' hn2 hs2=>?_
 obtain ⟨oD,esD,epD,hoD,hdD,hcD⟩:=hn2.count (PySem.Within.cons name v hw)
 refine wpAny_bind (wpAny_lookBehind hoD (by rw [hdD];exact pastItsLine_dict (Nat.le_trans hcD (by rw [List.length_cons];omega))) ?_)
 exact wpAny_pure (h _ ⟨(hs2.2 _ (Ne.symm I.ne)).trans I.obj,hn2,I.ne⟩ hs2)
theorem UF {R:Result→Shared→Prop} {vs:List Value} {kw:List (Str × Value)} (X:K.In s.heap) (hm:PySem.W.makesIn K C=true)
  (hi:PySem.W.findIn K (.ref C) "__init__"=some (some (.ref f))) (hf:PySem.W.typeIn K (.ref f)=some (.type "function"))
  (h:codeAny (model prog w) (A.under (.builtin "type.__call__" ⟨.ref C :: vs,kw⟩)) (.call (.ref f) ⟨.ref (s.heap.objs.size + 1) :: vs,kw⟩) (PySem.W.InitBack (s.heap.objs.size + 1) R)
   { s with heap:=(s.heap.push PySem.W.emptyDict).push (PySem.W.instObj C s.heap.objs.size) }) :
  codeAny (model prog w) A (.call (.ref C) ⟨vs,kw⟩) R s:=by
 obtain ⟨hh,g,d,t,os⟩:=s
 exact PySem.W.make_core (PySem.W.makes_of X hm) (PySem.W.looks_findIn X hi) (fun self=>PySem.W.bind_fn X self hf) (.inl rfl) h
end
noncomputable def yg (f:Str) (v:V):List (Str × V)→List (Str × V)
 | []=>[(f,v)]
 | (g,x) :: r=>if g=f then (g,v) :: r else (g,x) :: yg f v r
theorem Nl (f g:Str) (v:V):∀ fs:List (Str × V),(yg f v fs).lookup g=if g=f then some v else fs.lookup g
 | []=>by
  show List.lookup g [(f,v)]=_
  by_cases h:g=f
  ·have hb:(g == f)=true:=beq_iff_eq.mpr h
   simp only [List.lookup,hb,if_pos h]
  ·have hb:(g == f)=false:=beq_eq_false_iff_ne.mpr h
   simp only [List.lookup,hb,if_neg h]
 | (k,x) :: r=>by
  have ih:=Nl f g v r
  rw [show yg f v ((k,x) :: r)=(if k=f then (k,v) :: r else (k,x) :: yg f v r) from rfl]
  by_cases hk:k=f
  ·rw [if_pos hk]
   by_cases h:g=k
   ·have hb:(g == k)=true:=beq_iff_eq.mpr h
    simp only [List.lookup,hb,if_pos (h.trans hk)]
   ·have hb:(g == k)=false:=beq_eq_false_iff_ne.mpr h
    simp only [List.lookup,hb,if_neg (fun e:g=f=>h (e.trans hk.symm))]
  ·rw [if_neg hk]
   by_cases h:g=k
   ·have hb:(g == k)=true:=beq_iff_eq.mpr h
    simp only [List.lookup,hb,if_neg (fun e:g=f=>hk (h.symm.trans e))]
   ·have hb:(g == k)=false:=beq_eq_false_iff_ne.mpr h
    simp only [List.lookup,hb]
    exact ih
theorem Oj (f:Str) (v:V):∀ fs:List (Str × V),f ∈ (yg f v fs).map (·.1)∧∀ g,g ∈ fs.map (·.1)→g ∈ (yg f v fs).map (·.1)
 | []=>⟨by simp [yg],fun g h=>by simp at h⟩
 | (k,x) :: r=>by
  obtain ⟨i1,i2⟩:=Oj f v r
  rw [show yg f v ((k,x) :: r)=(if k=f then (k,v) :: r else (k,x) :: yg f v r) from rfl]
  by_cases hk:k=f
  ·rw [if_pos hk]
   subst hk
   exact ⟨by simp,fun g h=>by simpa using h⟩
  ·rw [if_neg hk]
   refine ⟨?_,fun g h=>?_⟩
   ·rw [List.map_cons]
    exact List.mem_cons_of_mem _ i1
   ·rw [List.map_cons] at h ⊢
    rcases List.mem_cons.mp h with e | e
    ·exact List.mem_cons.mpr (.inl e)
    ·exact List.mem_cons_of_mem _ (i2 g e)
theorem Kl (f:Str) (v:V):∀ fs:List (Str × V),(yg f v fs).length ≤ fs.length + 1
 | []=>by simp [yg]
 | (k,x) :: r=>by
  have ih:=Kl f v r
  rw [show yg f v ((k,x) :: r)=(if k=f then (k,v) :: r else (k,x) :: yg f v r) from rfl]
  by_cases hk:k=f
  ·rw [if_pos hk,List.length_cons,List.length_cons];omega
  ·rw [if_neg hk,List.length_cons,List.length_cons];omega
theorem Wq.some_of {v:V} {o:Option Value} (r:Wq (some v) o):∃ u,o=some u∧Ld v u:=by
 cases o with
 | none=>exact (show False from r).elim
 | some u=>exact ⟨u,rfl,r⟩
theorem Wq.none_of {o:Option Value} (r:Wq none o):o=none:=by
 cases o with
 | none=>rfl
 | some u=>exact (show False from r).elim
theorem lC {v:V} {u:Value} (r:Ld v u):PySem.W.handedIn u=true:=by
 cases v with
 | non=>cases (show u=Value.none from r);rfl
 | bl b=>cases (show u=Value.bool b from r);rfl
 | int i=>obtain ⟨t,e⟩:=(show ∃ t,u=Value.int i t from r);cases e;rfl
 | str x=>obtain ⟨t,e⟩:=(show ∃ t,u=Value.str x t from r);cases e;rfl
 | byt b=>obtain ⟨t,e⟩:=(show ∃ t,u=Value.bytes b t from r);cases e;rfl
 | flt b=>obtain ⟨t,e⟩:=(show ∃ t,u=Value.float b t from r);cases e;rfl
 | ref a=>cases (show u=Value.ref a from r);rfl
 | ty n=>cases (show u=Value.type n from r);rfl
section
variable {P:Program} {w:World} {H H':Hp} {h h':Heap} {a C dx:Addr} {fs fs':List (Str × V)}
theorem Ll (hok:HOk P w H h) (e:H a=some (.ins C dx fs)):∃ mA,eJ h a dx C mA∧(∀ f,Wq (fs.lookup f) (mA f))∧PySem.Within mA (fs.map (·.1))∧fs.length ≤ 1000∧H dx=some (.own a):=by
 obtain ⟨d,z,ne,ob,mA,n,r,q⟩:=(show zd P w H h a (.ins C dx fs) from hok a _ e)
 exact ⟨mA,⟨ob,n,ne⟩,r,q,z,d⟩
end
structure Cls (K:PySem.W.Frag) (C:Addr):Prop where
 pg:PySem.W.plainGet K C Str.empty=true
 hd:PySem.W.hasDictIn K C=true
 po:PySem.W.plainOver K C=true
 sa:PySem.W.findIn K (.ref C) "__setattr__"=some (some (.builtin "object.__setattr__"))
theorem Cls.get {K:PySem.W.Frag} {C:Addr} (c:Cls K C) (f:Str):PySem.W.plainGet K C f=true:=c.pg
noncomputable def Ib (K:PySem.W.Frag) (C:Addr) (f:Str):Prop:=PySem.W.findIn K (.ref C) f=some none
theorem Ib.taker {K:PySem.W.Frag} {C:Addr} {f:Str} (n:Ib K C f):PySem.W.takerIn K C f=some none:=by
 unfold PySem.W.takerIn
 rw [show PySem.W.findIn K (.ref C) f=some none from n]
 rfl
structure Con (K:PySem.W.Frag) (C:Addr) (f:Str) (v:V) (u:Value):Prop where
 at_:PySem.W.findIn K (.ref C) f=some (some u)
 rel:Ld v u
 get:PySem.W.specialIn K u "__get__"=some none
 cp:PySem.W.copiedNames.contains f=false
structure xt (K:PySem.W.Frag) (C:Addr) (m:Str) (f:Addr):Prop where
 at_:PySem.W.findIn K (.ref C) m=some (some (.ref f))
 fn:PySem.W.isFn K (.ref f)=true
 kp:PySem.W.keepIn K (.ref f)=true
section
variable {X:Cx} {pins:List (Addr × Obj)} {σ:St} {H:Hp} {s:Shared} {a C dx:Addr} {fs:List (Str × V)} {f:Str} {v:V} {A:Around} {E:Value→Shared→Prop}
theorem Ds {b:Bool} {Q:Value→Shared→Prop} (I:Inv X pins σ H s) (e:H a=some (.ins C dx fs)) (c:Cls X.K C) (n:Ib X.K C f) (l:fs.lookup f=some v)
  (h:∀ u s',Inv X pins σ H s'→Ld v u→Q u s'):wpAny (model X.prog X.w) A (getAttr (.ref a) f b) Q E s:=by
 obtain ⟨mA,O,r,_,_,_⟩:=Ll I.hok e
 obtain ⟨u,hu,ru⟩:=Wq.some_of (v:=v) (o:=mA f) (by rw [← l];exact r f)
 exact rJ I.kIn O (c.get f) c.hd n hu (lC ru) (h u _ (I.tok _) ru)
theorem Hn {m:Str} {g:Addr} {pl:Sem Bool} {Q:Value × List Value→Shared→Prop} (I:Inv X pins σ H s) (e:H a=some (.ins C dx fs)) (c:Cls X.K C) (k:xt X.K C m g) (l:fs.lookup m=none)
  (h:Q (.ref g,[.ref a]) s):wpAny (model X.prog X.w) A (getMethod (.ref a) m pl) Q E s:=by
 obtain ⟨mA,O,r,_,_,_⟩:=Ll I.hok e
 have hn:mA m=none:=Wq.none_of (by rw [← l];exact r m)
 exact CF I.kIn O (c.get m) k.at_ k.fn hn h
theorem Is {y:V} {u:Value} {Q:Unit→Shared→Prop} (I:Inv X pins σ H s) (e:H a=some (.ins C dx fs)) (c:Cls X.K C) (n:Ib X.K C f) (hl:fs.length < 1000) (ry:Ld y u)
  (h:∀ s',Inv X pins σ (upd H a (.ins C dx (yg f y fs))) s'→Q () s'):wpAny (model X.prog X.w) A (setAttr (.ref a) f u) Q E s:=by
 obtain ⟨mA,O,r,wi,_,ho⟩:=Ll I.hok e
 have hz:(fs.map (·.1)).length ≤ sizeLine:=by rw [List.length_map,sizeLine_eq];omega
 refine DI I.kIn O c.sa c.po n.taker c.hd wi hz fun h' O' sb=>h _ ?_
 have hd:∃ o,h'.get? dx=some o:=let ⟨o,_,_,e',_⟩:=O'.ns;⟨o,e'⟩
 refine I.write (x:=a) (e:=dx) (by rw [e];exact True.intro) (.inr ho) (fun b q hb z=>(sb.2 b hb).trans z) hd ?_
 refine ⟨by rw [lb O.ne];exact ho,?_,O.ne,O'.obj,_,O'.ns,fun g=>?_,fun g hg=>?_⟩
 ·have:=Kl f y fs;omega
 ·show Wq ((yg f y fs).lookup g) (if g=f then some u else mA g)
  rw [Nl]
  by_cases q:g=f
  ·rw [if_pos q,if_pos q];exact ry
  ·rw [if_neg q,if_neg q];exact r g
 ·by_cases q:g=f
  ·rw [q];exact (Oj f y fs).1
  ·refine (Oj f y fs).2 g (wi g fun z=>hg ?_)
   show (if g=f then some u else mA g)=none
   rw [if_neg q];exact z
theorem Inv.made (I:Inv X pins σ H s):Inv X pins σ (upd (upd H s.heap.objs.size (.own (s.heap.objs.size + 1))) (s.heap.objs.size + 1) (.ins C s.heap.objs.size []))
  { s with heap:=(s.heap.push PySem.W.emptyDict).push (PySem.W.instObj C s.heap.objs.size) }:=by
 have e1:(s.heap.push PySem.W.emptyDict).get? s.heap.objs.size=some PySem.W.emptyDict:=Heap.get?_push_size s.heap rfl
 have e2:((s.heap.push PySem.W.emptyDict).push (PySem.W.instObj C s.heap.objs.size)).get? (s.heap.objs.size + 1)=some (PySem.W.instObj C s.heap.objs.size):=by
  have:=Heap.get?_push_size (s.heap.push PySem.W.emptyDict) (o:=PySem.W.instObj C s.heap.objs.size) rfl
  rwa [Heap.size_push] at this
 have e3:(s.heap.push PySem.W.emptyDict).Ns s.heap.objs.size (fun _=>none):=⟨PySem.W.emptyDict,#[],_,e1,rfl,(fun e he=>absurd he (by simp)),fun _=>rfl⟩
 have I1:=I.laid (a:=s.heap.objs.size) (o:=.own (s.heap.objs.size + 1)) (h':=s.heap.push PySem.W.emptyDict) (t':=s.toks) (fun b u q=>Heap.get?_push_of_some _ q) (Nat.le_refl _) ⟨_,e1⟩
 refine I1.laid (a:=s.heap.objs.size + 1) (o:=.ins C s.heap.objs.size []) (t':=s.toks) (fun b u q=>Heap.get?_push_of_some _ q) (Nat.le_of_eq (Heap.size_push _ _)) ?_
 have ne:s.heap.objs.size ≠ s.heap.objs.size + 1:=Nat.ne_of_lt (Nat.lt_succ_self _)
 refine ⟨by rw [lb ne,db],Nat.zero_le _,ne,e2,fun _=>none,(Heap.Ns1.of_empty e3).at fun o q=>Heap.get?_push_of_some _ q,fun _=>True.intro,fun y hy=>absurd rfl hy⟩
theorem AJ {prog:Program} {w:World} {env:Env} {e:Expr} {f:Str} {pos:Pos} {s:Shared} {Q:Value→Shared→Prop} (hb:attributeBase e f env (eval e env)=eval e env)
  (h:wpAny (model prog w) A (eval e env) (fun o s₁=>wpAny (model prog w) A (getAttr o f true) Q E s₁) E s):wpAny (model prog w) A (eval (.Attribute e f pos) env) Q E s:=
 Attribute_any_ h (by rw [arm_eval_Attribute,hb])
end
noncomputable def dN (K:PySem.W.Frag) (ta:TE) (f:Str):TE:=fun σ H Q=>ta σ H fun x H1=>∃ a C dx fs v,x=.ref a∧H1 a=some (.ins C dx fs)∧Cls K C∧Ib K C f∧fs.lookup f=some v∧Q v H1
noncomputable def DN (K:PySem.W.Frag) (ta tv:TE) (f:Str):TS:=fun D σ H=>tv σ H fun y H1=>ta σ H1 fun x H2=>∃ a C dx fs,x=.ref a∧H2 a=some (.ins C dx fs)∧Cls K C∧Ib K C f∧fs.length < 1000 ∧
 D.nx σ (upd H2 a (.ins C dx (yg f y fs)))
noncomputable def gN (X:Cx) (op:Operator) (rd:V→V→Hp→VK→Prop):Prop:=
 ∀ (pins:List (Addr × Obj)) (s:Shared) (σ:St) (H:Hp) (x y:V) (u v:Value) (Q:VK),Inv X pins σ H s→Ld x u→Ld y v→rd x y H Q→wpAny (model X.prog X.w) X.A (inplaceOp op u v) (EP X pins σ Q) X.xe s
noncomputable def vB (K:PySem.W.Frag) (ta tv:TE) (rd:V→V→Hp→VK→Prop) (f:Str):TS:=fun D σ H=>ta σ H fun x H1=>∃ a C dx fs v,x=.ref a∧H1 a=some (.ins C dx fs)∧Cls K C∧Ib K C f∧fs.lookup f=some v ∧
 tv σ H1 fun y H2=>rd v y H2 fun z H3=>∃ dx' fs',H3 a=some (.ins C dx' fs')∧fs'.length < 1000∧D.nx σ (upd H3 a (.ins C dx' (yg f z fs')))
section
variable {X:Cx} {o e value:Expr} {f:Str} {pos pos' tpos:Pos} {ta tv:TE}
theorem Dc (he:PE X e ta) (hb:attributeBase e f X.env (eval e X.env)=eval e X.env):PE X (.Attribute e f pos) (dN X.K ta f):=by
 intro pins s σ H Q I h
 refine AJ hb (thn (he pins s σ H _ I h) fun u s1 hZ1=>?_)
 obtain ⟨x,H1,I1,rx,a,C,dx,fs,v,ex,ea,c,n,l,q⟩:=hZ1
 subst ex
 obtain rfl:u=Value.ref a:=rx
 exact Ds I1 ea c n l fun u' s2 I2 ru=>⟨v,H1,I2,ru,q⟩
theorem Pe (ha:PE X o ta) (hv:PE X value tv) (hs:swapsWith value (some (.Attribute o f pos')) pos.line X.env=pure false):PS X (.Assign [.Attribute o f pos'] value pos) (DN X.K ta tv f):=by
 intro pins s σ H D I h
 refine plainObj_wpAny_Assign_Attribute (thn (hv pins s σ H _ I h) fun u s1 ⟨y,H1,I1,ry,q⟩=>thn (ha pins s1 σ H1 _ I1 q) fun ov s2 hZ1=>?_) hs
 obtain ⟨x,H2,I2,rx,a,C,dx,fs,ex,ea,c,n,l,q2⟩:=hZ1
 subst ex
 obtain rfl:ov=Value.ref a:=rx
 exact Is I2 ea c n l ry fun s3 I3=>⟨σ,_,I3,q2⟩
theorem Jw {op:Operator} {rd:V→V→Hp→VK→Prop} (ha:PE X o ta) (hv:PE X value tv) (hop:gN X op rd):PS X (.AugAssign (.Attribute o f tpos) op value pos) (vB X.K ta tv rd f):=by
 intro pins s σ H D I h
 refine wpAny_AugAssign_AttributeAny (thn (ha pins s σ H _ I h) fun ov s1 hZ1=>?_)
 obtain ⟨x,H1,I1,rx,a,C,dx,fs,v,ex,ea,c,n,l,q⟩:=hZ1
 subst ex
 obtain rfl:ov=Value.ref a:=rx
 refine Ds I1 ea c n l fun u s2 I2 ru=>thn (hv pins s2 σ H1 _ I2 q) fun w3 s3 ⟨y,H2,I3,ry,q3⟩=>thn (hop pins s3 σ H2 v y u w3 _ I3 ru ry q3) fun w4 s4 hZ1=>?_
 obtain ⟨z,H3,I4,rz,dx',fs',ea',l',q4⟩:=hZ1
 exact Is I4 ea' c n l' rz fun s5 I5=>⟨σ,_,I5,q4⟩
noncomputable def GN:V→V→Hp→VK→Prop:=fun x y H Q=>∃ i j,x=.int i∧y=.int j∧Q (.int (i + j)) H
theorem pH:gN X .Add GN:=by
 rintro pins s σ H x y u v Q I rx ry ⟨i,j,rfl,rfl,q⟩
 obtain ⟨t,rfl⟩:=(show ∃ t,u=Value.int i t from rx)
 obtain ⟨t',rfl⟩:=(show ∃ t',v=Value.int j t' from ry)
 exact PyProof.Rows.iadd_int ⟨.int (i + j),H,I.tok _,⟨_,rfl⟩,q⟩
end
section
variable {X:Cx} {pins:List (Addr × Obj)} {σ:St} {H:Hp} {s:Shared} {A:Around} {E:Value→Shared→Prop} {Q:Value→Shared→Prop} {c:Value} {b:Bool}
inductive Jz (K:PySem.W.Frag) (H:Hp):V→Value→Prop where
 | non:Jz K H .non (.type "NoneType")
 | bl (x:Bool):Jz K H (.bl x) (.type "bool")
 | int (i:Int):Jz K H (.int i) (.type "int")
 | str (x:Str):Jz K H (.str x) (.type "str")
 | flt (x:UInt64):Jz K H (.flt x) (.type "float")
 | lst {a:Addr} {xs:List V} (e:H a=some (.lst xs)):Jz K H (.ref a) (.type "list")
 | frz {a:Addr} {o:Obj} {xs:List V} (e:H a=some (.frz o (.lst xs))):Jz K H (.ref a) (.type "list")
 | tup {a:Addr} {xs:List V} (e:H a=some (.tup xs)):Jz K H (.ref a) (.type "tuple")
 | dK {a:Addr} {kvs:List (Key × V)} (e:H a=some (.dK kvs)):Jz K H (.ref a) (.type "dict")
 | dT {a:Addr} {kvs:List (List Key × V)} (e:H a=some (.dT kvs)):Jz K H (.ref a) (.type "dict")
 | ins {a C dx:Addr} {fs:List (Str × V)} (e:H a=some (.ins C dx fs)) (cl:Cls K C) (ha:PySem.W.findIn K (.ref C) "__class__"=some (some (.builtin "object.__class__")))
   (hn:PySem.W.specialIn K (.builtin "object.__class__") "__get__"=some (some (.builtin "getset_descriptor.__get__"))) (htk:PySem.W.takesIn K (.builtin "object.__class__")=some true)
   (hm:PySem.W.mroIn K C (.type "object")=some true):Jz K H (.ref a) (.ref C)
theorem FB {x:V} {u t:Value} (I:Inv X pins σ H s) (rx:Ld x u) (ty:Jz X.K H x t) (e:PySem.W.kitOne X.K t c=some b) (h:∀ tk,Q (.bool b) { s with toks:=tk }) :
  wpAny (model X.prog X.w) A (call (.builtin "isinstance") [u,c]) Q E s:=by
 cases ty with
 | non=>cases (show u=Value.none from rx);exact PySem.W.kia_one PySem.W.kitx_none I.kIn True.intro e (fun z=>nomatch z) h
 | bl y=>cases (show u=Value.bool y from rx);exact PySem.W.kia_one PySem.W.kitx_bool I.kIn True.intro e (fun z=>nomatch z) h
 | int i=>obtain ⟨t,q⟩:=(show ∃ t,u=Value.int i t from rx);cases q;exact PySem.W.kia_one PySem.W.kitx_int I.kIn True.intro e (fun z=>nomatch z) h
 | str y=>obtain ⟨t,q⟩:=(show ∃ t,u=Value.str y t from rx);cases q;exact PySem.W.kia_one PySem.W.kitx_str I.kIn True.intro e (fun z=>nomatch z) h
 | flt y=>obtain ⟨t,q⟩:=(show ∃ t,u=Value.float y t from rx);cases q;exact PySem.W.kia_one PySem.W.kitx_float I.kIn True.intro e (fun z=>nomatch z) h
 | @lst a xs ea=>
  cases (show u=Value.ref a from rx)
  obtain ⟨_,_,n,_,h1⟩:=(show zd X.prog X.w H s.heap a (.lst xs) from I.hok a _ ea)
  exact PySem.W.kia_one PySem.W.kitx_list I.kIn ⟨_,h1,rfl⟩ e (fun z=>nomatch z) h
 | @frz a ob xs ea=>
  cases (show u=Value.ref a from rx)
  obtain ⟨_,_,_,n,_,h1⟩:=(show zd X.prog X.w H s.heap a (.frz ob (.lst xs)) from I.hok a _ ea)
  exact PySem.W.kia_one PySem.W.kitx_list I.kIn ⟨_,h1,rfl⟩ e (fun z=>nomatch z) h
 | @tup a xs ea=>
  cases (show u=Value.ref a from rx)
  obtain ⟨_,_,_,p⟩:=(show zd X.prog X.w H s.heap a (.tup xs) from I.hok a _ ea)
  obtain ⟨o,h1,h2,_⟩:=p
  exact PySem.W.kia_one PySem.W.kitx_tuple I.kIn ⟨o,h1,h2⟩ e (fun z=>nomatch z) h
 | @dK a kvs ea=>
  cases (show u=Value.ref a from rx)
  obtain ⟨_,_,vs,_,p⟩:=(show zd X.prog X.w H s.heap a (.dK kvs) from I.hok a _ ea)
  obtain ⟨o,es,ep,h1,h2,_⟩:=p
  exact PySem.W.kia_one PySem.W.kitx_dict I.kIn ⟨o,h1,h2.1⟩ e (fun z=>nomatch z) h
 | @dT a kvs ea=>
  cases (show u=Value.ref a from rx)
  obtain ⟨_,_,xs,_,o,es,ep,h1,h2,_⟩:=(show zd X.prog X.w H s.heap a (.dT kvs) from I.hok a _ ea)
  exact PySem.W.kia_one PySem.W.kitx_dict I.kIn ⟨o,h1,h2.1⟩ e (fun z=>nomatch z) h
 | @ins a C dx fs ea cl ha hn htk hm=>
  cases (show u=Value.ref a from rx)
  obtain ⟨mA,O,_⟩:=Ll I.hok ea
  obtain ⟨od,J,_⟩:=O.look
  exact PySem.W.kia_one (PySem.W.kitx_own (cl.get _) cl.hd ha hn htk hm) I.kIn J e (fun z=>nomatch z) h
end
end L2
namespace L2
open PySem PySem.Spec PyProof.Rows
structure Aj (k:Nat) (A:Around):Prop where
 hd:A.handled=none
 dp:A.depth + 3 * k + 5 < recursionLimit
 un:A.units + 16 * k + 200 < cLine
theorem Aj.mono {j k:Nat} {A:Around} (r:Aj k A) (h:j ≤ k):Aj j A:=⟨r.hd,by have:=r.dp;omega,by have:=r.un;omega⟩
theorem Aj.deeper {k:Nat} {A:Around} (r:Aj (k + 1) A) (env:Env):Aj k (A.deeper env):=
 ⟨r.hd,by have:=r.dp;show A.depth + 1 + 3 * k + 5 < _;omega,by have:=r.un;show A.units + 3 + 16 * k + 200 < _;omega⟩
theorem Aj.in1 {k:Nat} {A:Around} (r:Aj (k + 1) A):Aj k A.in1:=
 ⟨r.hd,by have:=r.dp;show A.depth + 3 * k + 5 < _;omega,by have:=r.un;show A.units + 1 + 16 * k + 200 < _;omega⟩
theorem EA {A:Around} {C:Addr} {us:List Value} {kw:List (Str × Value)}:(A.under (.builtin "type.__call__" ⟨.ref C :: us,kw⟩)).depth=A.depth + 1:=by
 first | rfl | simp [Around.under,Code.weight,Code.isCreation,Code.isGuard,Code.isCaller,Code.frames,Code.isFrame,guardIds]
theorem AA {A:Around} {C:Addr} {us:List Value} {kw:List (Str × Value)}:(A.under (.builtin "type.__call__" ⟨.ref C :: us,kw⟩)).units=A.units + 1:=by
 first | rfl | simp [Around.under,Code.cUnits,Code.frames,Code.isFrame]
theorem Aj.make {k:Nat} {A:Around} (r:Aj (k + 1) A) (C:Addr) (us:List Value) (kw:List (Str × Value)):Aj k (A.under (.builtin "type.__call__" ⟨.ref C :: us,kw⟩)):=
 ⟨r.hd,by have:=r.dp;rw [EA];omega,by have:=r.un;rw [AA];omega⟩
theorem Aj.depth {k:Nat} {A:Around} (r:Aj k A):A.depth < recursionLimit:=by have:=r.dp;omega
theorem Aj.units {k:Nat} {A:Around} (r:Aj k A):A.units + 64 < cLine:=by have:=r.un;omega
noncomputable def tM:TA:=fun _ H Q=>Q [] H
noncomputable def AK (ta:TE) (tr:TA):TA:=fun σ H Q=>ta σ H fun x H1=>tr σ H1 fun xs H2=>Q (x :: xs) H2
section
variable {X:Cx} {e:Expr} {es:List Expr} {te:TE} {t:TA} {pos:Pos}
theorem gb:PA X [] tM:=fun _ _ _ _ H Q I h=>Calls.spliced_nil ⟨[],H,I,.nil,h⟩
theorem cb (ha:PE X e te) (hr:PA X es t) (hs:starEach (e :: es) X.env=(false,eval e X.env) :: starEach es X.env:=by rfl):PA X (e :: es) (AK te t):=by
 intro pos pins s σ H Q I h
 rw [hs]
 show wpAny _ _ (spliced ((false,eval e X.env) :: backTo pos (starEach es X.env))) _ _ s
 refine Calls.spliced_cons (thn (ha pins s σ H _ I h) fun u s1 hZ1=>?_)
 obtain ⟨x,H1,I1,r1,q1⟩:=hZ1
 exact thn (hr pos pins s1 σ H1 _ I1 q1) fun us s2 ⟨xs,H2,I2,r2,q2⟩=>⟨x :: xs,H2,I2,.cons r1 r2,q2⟩
noncomputable def qN (t:TA):TE:=fun σ H Q=>t σ H fun xs H1=>xs.length ≤ sizeLine∧∀ p,H1 p=none→Q (.ref p) (upd H1 p (.tup xs))
noncomputable def MN (t:TA):TE:=fun σ H Q=>t σ H fun xs H1=>xs.length ≤ sizeLine∧∀ p,H1 p=none→Q (.ref p) (upd H1 p (.lst xs))
theorem zq {x1} (h:PA X es t):PE X (.Tuple es x1 pos) (qN t):=by
 intro pins s σ H Q I hq
 refine wpAny_Tuple_spliced (thn (h pos pins s σ H _ I hq) fun us s1 ⟨xs,H1,I1,r,z,q⟩=>⟨by rw [← r.length];exact z,?_⟩)
 have hf:H1 s1.heap.objs.size=none:=I1.hok.fresh (Nat.le_refl _)
 refine ⟨.ref s1.heap.objs.size,upd H1 s1.heap.objs.size (.tup xs),I1.laid (t':=s1.toks) (fun b u e=>Heap.get?_push_of_some _ e) (Nat.le_refl _) ?_,rfl,q _ hf⟩
 exact ⟨z,us,r,⟨_,Heap.get?_push_size _ rfl,rfl,_,rfl⟩⟩
theorem se (h:PA X es t):PE X (.List es pos) (MN t):=by
 intro pins s σ H Q I hq
 refine wpAny_List_spliced (thn (h pos pins s σ H _ I hq) fun us s1 ⟨xs,H1,I1,r,z,q⟩=>⟨by rw [← r.length];exact z,?_⟩)
 have hf:H1 s1.heap.objs.size=none:=I1.hok.fresh (Nat.le_refl _)
 refine ⟨.ref s1.heap.objs.size,upd H1 s1.heap.objs.size (.lst xs),I1.laid (t':=s1.toks) (fun b u e=>Heap.get?_push_of_some _ e) (Nat.le_refl _) ?_,rfl,q _ hf⟩
 exact ⟨z,us,0,r,Heap.get?_push_size _ rfl⟩
end
noncomputable abbrev Sp:=List V→Hp→VK→XK→Prop
noncomputable abbrev CXT:=List Env→Hp→Shared→XK→Value→Shared→Prop
structure uC (P:Program) (w:World) (K:PySem.W.Frag) (mg:Str→Option Value) (base:Heap) (A:Around) (outer:List Env) (s:Shared) (H:Hp):Prop where
 frames:A.frames=some outer
 mod:Mod K mg base
 bs:∀ b o,base.get? b=some o→s.heap.get? b=some o∧H b=none
 bsz:base.objs.size ≤ s.heap.objs.size
 funs:s.heap.FunFrames base outer
 frf:∀ b ∈ frs outer,H b=none
 hok:HOk P w H s.heap
 bare:AllBare s.gens
noncomputable def CE (outer:List Env) (P:Program) (w:World) (H:Hp) (s:Shared) (Q:VK) (u:Value) (s':Shared):Prop:=
 ∃ v H',s'.os=s.os∧AllBare s'.gens∧Un (frs outer) [] H H' s.heap s'.heap∧HOk P w H' s'.heap∧Ld v u∧Q v H'
noncomputable def CR (CX:CXT) (outer:List Env) (P:Program) (w:World) (H:Hp) (s:Shared) (Q:VK) (E:XK) (r:Result) (s':Shared):Prop:=
 match r with
 | .ok (.ret u)=>CE outer P w H s Q u s'
 | .ok _=>False
 | .error e=>CX outer H s E e s'
structure Jb (P:Program) (w:World) (K:PySem.W.Frag) (mg:Str→Option Value) (base:Heap) (CX:CXT) (k:Nat) (f:Addr) (fd:FuncData) (ps:List Str) (sp:Sp):Prop where
 len:∀ vs H Q E,sp vs H Q E→vs.length=ps.length
 run:∀ (A:Around) (outer:List Env) (s:Shared) (H:Hp) (args:Args) (us:List Value) (vs:List V) (Q:VK) (E:XK),Aj k A→uC P w K mg base A outer s H→BindsTo s fd args (ps.zip us)→Qd vs us→sp vs H Q E →
  codeAny (model P w) A (.call (.ref f) args) (CR CX outer P w H s Q E) s
theorem Jb.mono {P:Program} {w:World} {K:PySem.W.Frag} {mg:Str→Option Value} {base:Heap} {CX:CXT} {j k:Nat} {f:Addr} {fd:FuncData} {ps:List Str} {sp:Sp} (F:Jb P w K mg base CX j f fd ps sp) (h:j ≤ k) :
  Jb P w K mg base CX k f fd ps sp:=⟨F.len,fun A outer s H args us vs Q E hr=>F.run A outer s H args us vs Q E (hr.mono h)⟩
theorem Jb.imp {P:Program} {w:World} {K:PySem.W.Frag} {mg:Str→Option Value} {base:Heap} {CX:CXT} {k:Nat} {f:Addr} {fd:FuncData} {ps:List Str} {sp sp':Sp} (F:Jb P w K mg base CX k f fd ps sp)
  (h:∀ vs H Q E,sp' vs H Q E→sp vs H Q E):Jb P w K mg base CX k f fd ps sp':=
 ⟨fun vs H Q E q=>F.len vs H Q E (h _ _ _ _ q),fun A outer s H args us vs Q E hr he hb hv hs=>F.run A outer s H args us vs Q E hr he hb hv (h _ _ _ _ hs)⟩
theorem uC.make {P:Program} {w:World} {K:PySem.W.Frag} {mg:Str→Option Value} {base:Heap} {A:Around} {outer:List Env} {s:Shared} {H:Hp} (e:uC P w K mg base A outer s H) (C:Addr) (us:List Value) (kw:List (Str × Value)) :
  uC P w K mg base (A.under (.builtin "type.__call__" ⟨.ref C :: us,kw⟩)) outer s H:=⟨by first | exact e.frames | (simpa [Around.under,Code.envs,Code.isFrame,pushEnvs] using e.frames),e.mod,e.bs,e.bsz,e.funs,e.frf,e.hok,e.bare⟩
theorem uC.in1 {P:Program} {w:World} {K:PySem.W.Frag} {mg:Str→Option Value} {base:Heap} {A:Around} {outer:List Env} {s:Shared} {H:Hp} (e:uC P w K mg base A outer s H) :
  uC P w K mg base A.in1 outer s H:=⟨e.frames,e.mod,e.bs,e.bsz,e.funs,e.frf,e.hok,e.bare⟩
section
variable {X:Cx} {pins:List (Addr × Obj)} {σ:St} {H:Hp} {s s':Shared}
theorem Inv.env0 (I:Inv X pins σ H s):uC X.prog X.w X.K X.mg X.base X.A X.stack s H:=
 ⟨I.ok.frames,I.ok.mod,I.bs,Nat.le_trans I.ok.bsz I.sz,I.stack,I.stkFree,I.hok,I.bare⟩
theorem Inv.after {Q:VK} {u:Value} (I:Inv X pins σ H s) (h:CE X.stack X.prog X.w H s Q u s'):EP X pins σ Q u s':=by
 obtain ⟨v,H',os,bare,un,hok,r,q⟩:=h
 obtain ⟨hh,g,d,t,os'⟩:=s'
 obtain rfl:os'=s.os:=os
 exact ⟨v,H',I.call (h':=hh) (g':=g) (d':=d) (t':=t) (ch:=[]) un hok bare (fun b z=>absurd z (by simp)),r,q⟩
end
noncomputable def OJ (sp:Sp) (dvs:List V) (E:XK) (t:TA):TE:=fun σ H Q=>t σ H fun vs H1=>sp (vs ++ dvs) H1 Q E
noncomputable def II (C:Addr) (m:Str) (sp:Sp) (dvs:List V) (E:XK) (ta:TE) (t:TA):TE:=fun σ H Q=>ta σ H fun x H1=>∃ a dx fs,x=.ref a∧H1 a=some (.ins C dx fs)∧fs.lookup m=none ∧
 t σ H1 fun vs H2=>sp (x :: (vs ++ dvs)) H2 Q E
noncomputable def PK (C:Addr) (sp:Sp) (dvs:List V) (E:XK) (t:TA):TE:=fun σ H Q=>t σ H fun vs H1=>∀ x dx,H1 x=none→H1 dx=none→dx ≠ x →
 sp (.ref x :: (vs ++ dvs)) (upd (upd H1 dx (.own x)) x (.ins C dx [])) (fun v H2=>v=.non∧Q (.ref x) H2) E
noncomputable def Yb (K:PySem.W.Frag) (fd:FuncData) (ps:List Str) (ds:List Value):Prop:=
 ∀ (s:Shared) (us:List Value),K.In s.heap→(us ++ ds).length=ps.length→BindsTo s fd ⟨us,[]⟩ (ps.zip (us ++ ds))
theorem Yb.all {K:PySem.W.Frag} {fd:FuncData} {ps:List Str} (h:∀ us:List Value,us.length=ps.length→bindArgs fd ⟨us,[]⟩=pure (ps.zip us)):Yb K fd ps []:=fun s us _ hl=>by
 rw [List.append_nil] at hl ⊢
 exact .of_eq (h us hl)
noncomputable def Hl (CX:CXT) (X:Cx) (E:XK):Prop:=∀ (pins:List (Addr × Obj)) (σ:St) (H:Hp) (s:Shared) (e:Value) (s':Shared),Inv X pins σ H s→CX X.stack H s E e s'→X.xe e s'
section
variable {X:Cx} {CX:CXT} {k:Nat} {f C:Addr} {fd:FuncData} {ps:List Str} {sp:Sp} {dvs:List V} {ds:List Value} {E:XK} {x m:Str} {p pos apos:Pos} {e o:Expr} {es:List Expr} {ta:TE} {t:TA}
theorem Kw {pins:List (Addr × Obj)} {σ:St} {H:Hp} {s:Shared} {Q:VK} {us:List Value} {vs:List V} (F:Jb X.prog X.w X.K X.mg X.base CX k f fd ps sp) (hr:Aj k X.A) (hb:Yb X.K fd ps ds) (hd:Qd dvs ds) (hx:Hl CX X E)
  (I:Inv X pins σ H s) (r:Qd vs us) (h:sp (vs ++ dvs) H Q E):wpAny (model X.prog X.w) X.A (call (.ref f) us) (EP X pins σ Q) X.xe s:=by
 have r2:Qd (vs ++ dvs) (us ++ ds):=r.append hd
 have hl:(us ++ ds).length=ps.length:=by rw [← r2.length];exact F.len _ _ _ _ h
 refine wpAny_call (codeAny_mono (F.run X.A X.stack s H ⟨us,[]⟩ (us ++ ds) (vs ++ dvs) Q E hr I.env0 (hb s us I.kIn hl) r2 h) fun r s' hq=>?_)
 cases r with
 | error e=>exact hx pins σ H s e s' I hq
 | ok fl=>
  cases fl with
  | ret u=>exact I.after hq
  | next=>exact False.elim hq
  | brk=>exact False.elim hq
  | cont=>exact False.elim hq
theorem xb (F:Jb X.prog X.w X.K X.mg X.base CX k f fd ps sp) (hr:Aj k X.A) (hg:Gl X x) (hm:X.mg x=some (.ref f)) (hk:PySem.W.keepIn X.K (.ref f)=true) (hb:Yb X.K fd ps ds) (hd:Qd dvs ds) (hx:Hl CX X E)
  (ha:PA X (e :: es) t) (hdb:(x == ("__debug__" : Str))=false:=by decide) (he:starEach (e :: es) X.env=(false,eval e X.env) :: starEach es X.env:=by rfl) (hpl:(backTo pos (starEach es X.env)).any (·.1)=false:=by rfl) :
  PE X (.Call (.Name x p) (e :: es) [] pos) (OJ sp dvs E t):=by
 intro pins s σ H Q I h
 refine wpAny_Call_Name_kw (Cn I hg hm ?_ hdb)
 refine PySem.W.callWith_K (h₀:=X.base) I.ok.mod.kin hk (thn (ha pos pins s σ H _ I h) fun us s1 ⟨vs,H1,I1,r,q⟩=>⟨I1.kIn,?_⟩) he hpl
 exact Kw F hr hb hd hx I1 r q
theorem Tc {pl:Sem Bool} (he:PE X o ta) (c:Cls X.K C) (hm:xt X.K C m f) (F:Jb X.prog X.w X.K X.mg X.base CX k f fd ps sp) (hr:Aj k X.A) (hb:Yb X.K fd ps ds) (hd:Qd dvs ds) (hx:Hl CX X E) (ha:PA X (e :: es) t)
  (hst:starEach (e :: es) X.env=(false,eval e X.env) :: starEach es X.env:=by rfl) (hpl:(backTo pos (starEach es X.env)).any (·.1)=false:=by rfl)
  (ht:eval (.Call (.Attribute o m apos) (e :: es) [] pos) X.env=(do
   let ov ← eval o X.env
   standAt apos.atName
   let (f,first) ← holding [ov] (getMethod ov m pl)
   callWith pos f first (backTo pos (starEach (e :: es) X.env)) (backToKw pos (keywordEach [] X.env))):=by rfl) :
  PE X (.Call (.Attribute o m apos) (e :: es) [] pos) (II C m sp dvs E ta t):=by
 intro pins s σ H Q I h
 refine PySem.W.methodCall_KW (pl:=pl) (thn (he pins s σ H _ I h) fun u s1 hZ1=>?_) ht
 obtain ⟨x,H1,I1,rx,a,dx,fs,ex,ea,l,q⟩:=hZ1
 subst ex
 obtain rfl:u=Value.ref a:=rx
 refine Hn I1 ea c hm l ?_
 refine PySem.W.callWith_K (first:=[.ref a]) (h₀:=X.base) I.ok.mod.kin hm.kp (thn (ha pos pins s1 σ H1 _ I1 q) fun us s2 ⟨vs,H2,I2,r,q2⟩=>⟨I2.kIn,?_⟩) hst hpl
 exact Kw (us:=.ref a :: us) (vs:=.ref a :: vs) F hr hb hd hx I2 (.cons rfl r) q2
theorem Yd {pl:Sem Bool} (he:PE X o ta) (c:Cls X.K C) (hm:xt X.K C m f) (F:Jb X.prog X.w X.K X.mg X.base CX k f fd ps sp) (hr:Aj k X.A) (hb:Yb X.K fd ps ds) (hd:Qd dvs ds) (hx:Hl CX X E)
  (ht:eval (.Call (.Attribute o m apos) [] [] pos) X.env=(do
   let ov ← eval o X.env
   standAt apos.atName
   let (f,first) ← holding [ov] (getMethod ov m pl)
   callWith pos f first (backTo pos (starEach [] X.env)) (backToKw pos (keywordEach [] X.env))):=by rfl) :
  PE X (.Call (.Attribute o m apos) [] [] pos) (II C m sp dvs E ta tM):=by
 intro pins s σ H Q I h
 refine PySem.W.methodCall_KW (pl:=pl) (thn (he pins s σ H _ I h) fun u s1 hZ1=>?_) ht
 obtain ⟨x,H1,I1,rx,a,dx,fs,ex,ea,l,q⟩:=hZ1
 subst ex
 obtain rfl:u=Value.ref a:=rx
 refine Hn I1 ea c hm l ?_
 exact PySem.W.callWith_K0 (first:=[.ref a]) I1.kIn hm.kp (Kw (us:=[.ref a]) (vs:=[.ref a]) F hr hb hd hx I1 (.cons rfl .nil) q)
structure Mk (K:PySem.W.Frag) (C f:Addr):Prop where
 makes:PySem.W.makesIn K C=true
 init:PySem.W.findIn K (.ref C) "__init__"=some (some (.ref f))
 fn:PySem.W.isFn K (.ref f)=true
 kp:PySem.W.keepIn K (.ref C)=true
theorem nG {pins:List (Addr × Obj)} {σ:St} {H:Hp} {s:Shared} {Q:VK} {us:List Value} {vs:List V} (M:Mk X.K C f) (F:Jb X.prog X.w X.K X.mg X.base CX k f fd ps sp) (hr:Aj (k + 1) X.A) (hb:Yb X.K fd ps ds) (hd:Qd dvs ds)
  (hx:Hl CX X E) (I:Inv X pins σ H s) (r:Qd vs us)
  (h:∀ x dx,H x=none→H dx=none→dx ≠ x→sp (.ref x :: (vs ++ dvs)) (upd (upd H dx (.own x)) x (.ins C dx [])) (fun v H2=>v=.non∧Q (.ref x) H2) E) :
  wpAny (model X.prog X.w) X.A (call (.ref C) us) (EP X pins σ Q) X.xe s:=by
 have hq:=h (s.heap.objs.size + 1) s.heap.objs.size (I.hok.fresh (Nat.le_succ _)) (I.hok.fresh (Nat.le_refl _)) (Nat.ne_of_lt (Nat.lt_succ_self _))
 have I2:=Inv.made (C:=C) I
 have r2:Qd (V.ref (s.heap.objs.size + 1) :: (vs ++ dvs)) (Value.ref (s.heap.objs.size + 1) :: (us ++ ds)):=.cons rfl (r.append hd)
 have hl:(Value.ref (s.heap.objs.size + 1) :: us ++ ds).length=ps.length:=by
  have e:=r2.length
  rw [F.len _ _ _ _ hq] at e
  exact e.symm
 refine wpAny_call (UF (f:=f) I.kIn M.makes M.init (beq_iff_eq.mp M.fn) (codeAny_mono (F.run _ X.stack _ _ ⟨Value.ref (s.heap.objs.size + 1) :: us,[]⟩ (Value.ref (s.heap.objs.size + 1) :: (us ++ ds)) _ _ E (hr.make C us [])
  (I2.env0.make C us []) (hb _ (Value.ref (s.heap.objs.size + 1) :: us) I2.kIn hl) r2 hq) fun r s' hq'=>?_))
 cases r with
 | error e=>exact hx pins σ _ _ e s' I2 hq'
 | ok fl=>
  cases fl with
  | ret u=>
   obtain ⟨v,H',I3,rv,ev,q3⟩:=I2.after hq'
   subst ev
   exact ⟨rv,⟨V.ref (s.heap.objs.size + 1),H',I3,rfl,q3⟩⟩
  | next=>exact False.elim hq'
  | brk=>exact False.elim hq'
  | cont=>exact False.elim hq'
theorem rn (M:Mk X.K C f) (F:Jb X.prog X.w X.K X.mg X.base CX k f fd ps sp) (hr:Aj (k + 1) X.A) (hg:Gl X x) (hm:X.mg x=some (.ref C)) (hb:Yb X.K fd ps ds) (hd:Qd dvs ds) (hx:Hl CX X E)
  (ha:PA X (e :: es) t) (hdb:(x == ("__debug__" : Str))=false:=by decide) (he:starEach (e :: es) X.env=(false,eval e X.env) :: starEach es X.env:=by rfl) (hpl:(backTo pos (starEach es X.env)).any (·.1)=false:=by rfl) :
  PE X (.Call (.Name x p) (e :: es) [] pos) (PK C sp dvs E t):=by
 intro pins s σ H Q I h
 refine wpAny_Call_Name_kw (Cn I hg hm ?_ hdb)
 refine PySem.W.callWith_K (h₀:=X.base) I.ok.mod.kin M.kp (thn (ha pos pins s σ H _ I h) fun us s1 ⟨vs,H1,I1,r,q⟩=>⟨I1.kIn,?_⟩) he hpl
 exact nG M F hr hb hd hx I1 r q
end
section
variable {X:Cx} {CX:CXT} {k:Nat} {f C:Addr} {fd:FuncData} {ps ks:List Str} {sp:Sp} {E:XK} {x m:Str} {p pos apos kpos:Pos} {e o:Expr} {es:List Expr} {kws:List Keyword} {te ta:TE} {t tk:TA} {nm:Option Str}
structure BN (K:PySem.W.Frag) (fd:FuncData) (ps ks:List Str) (g:List Value→List Value→List Value) (gV:List V→List V→List V):Prop where
 to:∀ (s:Shared) (us ws:List Value),K.In s.heap→(g us ws).length=ps.length→BindsTo s fd ⟨us,ks.zip ws⟩ (ps.zip (g us ws))
 rel:∀ {vs:List V} {us:List Value} {zs:List V} {ws:List Value},Qd vs us→Qd zs ws→Qd (gV vs zs) (g us ws)
variable {g:List Value→List Value→List Value} {gV:List V→List V→List V}
end
structure yb (N P:List Str) (sc:Scope):Prop where
 kind:sc.kind=.function
 co:sc.isCoroutine=false
 gen:sc.isGenerator=false
 nd:N.Nodup
 pre:N.take P.length=P
 par:∀ x ∈ P,sc.names.lookup x=some .local∨sc.names.lookup x=some .cell
 nofree:∀ y ∈ sc.names,y.2 ≠ .free
theorem Nv {kindOf:Str→Option NameKind} {x:Str}:∀ {binds:List (Str × Value)} {m:Str→Option Value},(∀ v,(x,v) ∉ binds)→bindL kindOf binds m x=m x
 | [],_,_=>rfl
 | (n,v) :: r,m,h=>by
  unfold bindL
  rw [Nv fun w hw=>h w (List.mem_cons_of_mem _ hw)]
  split
  ·have:x ≠ n:=by rintro rfl;exact h v List.mem_cons_self
   simp [this]
  ·rfl
theorem sv {kindOf:Str→Option NameKind} {x:Str}:∀ {binds:List (Str × Value)} {m:Str→Option Value},(∀ v,(x,v) ∉ binds)→bindC kindOf binds m x=m x
 | [],_,_=>rfl
 | (n,v) :: r,m,h=>by
  unfold bindC
  rw [sv fun w hw=>h w (List.mem_cons_of_mem _ hw)]
  split
  ·rfl
  ·have:x ≠ n:=by rintro rfl;exact h v List.mem_cons_self
   simp [this]
theorem Tv {kindOf:Str→Option NameKind} {x:Str} {v:Value}:∀ {P:List Str} {vs:List Value} {i:Nat} {m:Str→Option Value},P.Nodup→P[i]? = some x→vs[i]? = some v→kindOf x=some .local →
  bindL kindOf (P.zip vs) m x=some v
 | [],_,_,_,_,h,_,_=>by simp at h
 | _ :: _,[],_,_,_,_,h,_=>by simp at h
 | p :: P,w :: vs,0,m,nd,h1,h2,hk=>by
  simp at h1 h2;subst h1;subst h2
  show bindL kindOf ((p,w) :: P.zip vs) m p=_
  unfold bindL
  rw [Nv fun v hv=>(List.nodup_cons.mp nd).1 (List.of_mem_zip hv).1,if_pos hk]
  simp
 | p :: P,w :: vs,i + 1,m,nd,h1,h2,hk=>by
  show bindL kindOf ((p,w) :: P.zip vs) m x=_
  unfold bindL
  exact Tv (i:=i) (List.nodup_cons.mp nd).2 (by simpa using h1) (by simpa using h2) hk
theorem Cw {kindOf:Str→Option NameKind} {x:Str} {v:Value}:∀ {P:List Str} {vs:List Value} {i:Nat} {m:Str→Option Value},P.Nodup→P[i]? = some x→vs[i]? = some v→kindOf x ≠ some .local →
  bindC kindOf (P.zip vs) m x=some v
 | [],_,_,_,_,h,_,_=>by simp at h
 | _ :: _,[],_,_,_,_,h,_=>by simp at h
 | p :: P,w :: vs,0,m,nd,h1,h2,hk=>by
  simp at h1 h2;subst h1;subst h2
  show bindC kindOf ((p,w) :: P.zip vs) m p=_
  unfold bindC
  rw [sv fun v hv=>(List.nodup_cons.mp nd).1 (List.of_mem_zip hv).1,if_neg hk]
  simp
 | p :: P,w :: vs,i + 1,m,nd,h1,h2,hk=>by
  show bindC kindOf ((p,w) :: P.zip vs) m x=_
  unfold bindC
  exact Cw (i:=i) (List.nodup_cons.mp nd).2 (by simpa using h1) (by simpa using h2) hk
noncomputable def start (N:List Str) (vs:List V):St:=vs.map some ++ List.replicate (N.length - vs.length) none
noncomputable def uD (CX:CXT) (P:Program) (w:World) (K:PySem.W.Frag) (mg:Str→Option Value) (base:Heap) (N:List Str) (qual:Str) (scope:Scope) (f:Addr) (cd:Value) (A:Around) (outer:List Env) (s:Shared) (H:Hp) (E:XK):Cx where
 prog:=P
 w:=w
 K:=K
 mg:=mg
 base:=base
 A:=A.deeper (envOfC qual scope s.heap.objs.size f cd)
 N:=N
 s₀:=s
 H₀:=H
 env:=envOfC qual scope s.heap.objs.size f cd
 outer:=outer
 stack:=envOfC qual scope s.heap.objs.size f cd :: outer
 ex:=[]
 calm:=true
 fn:=fun _=>true
 pn:=[]
 xe:=fun e s'=>wpAny (model P w) (A.deeper (envOfC qual scope s.heap.objs.size f cd)) (leaving (envOfC qual scope s.heap.objs.size f cd) e) (fun _ s''=>CX outer H s E e s'') (fun e' s''=>CX outer H s E e' s'') s'
theorem Hz {sc:Scope} {n:Nat} {x:Str} (h:sc.names.lookup x=some .cell):∃ c,(cellsFrom n sc.names []).lookup x=some c:=by
 have q:=PySem.W.cellsFrom_some sc.names n [] (.inl h)
 exact Option.isSome_iff_exists.mp q
theorem LB {CX:CXT} {P:Program} {w:World} {K:PySem.W.Frag} {mg:Str→Option Value} {base:Heap} {N ps:List Str} {qual:Str} {scope:Scope} {f:Addr} {cd:Value} {A:Around} {outer:List Env} {s s1:Shared} {H:Hp} {E:XK} {us:List Value} {vs:List V}
  (S:yb N ps scope) (hd:A.handled=none) (e0:uC P w K mg base A outer s H) (hl:vs.length=ps.length) (r:Qd vs us)
  (x:InCallC s s.heap.objs.size (bindL (envOfC qual scope s.heap.objs.size f cd).kindOf (ps.zip us) fun _=>none) (cellsFrom (s.heap.objs.size + 1) scope.names []) (bindC (envOfC qual scope s.heap.objs.size f cd).kindOf (ps.zip us) fun _=>none) s1) :
  Inv (uD CX P w K mg base N qual scope f cd A outer s H E) [] (start N vs) H s1:=by
 have hpl:ps.length ≤ N.length:=by have:=congrArg List.length S.pre;rw [List.length_take] at this;omega
 obtain ⟨h1,tk,rfl,hk⟩:=x.done
 have noA:∀ b:Addr,b ∉ (uD CX P w K mg base N qual scope f cd A outer s H E).ex:=fun b z=>absurd (show b ∈ ([]:List Addr) from z) (by simp)
 refine ⟨⟨e0.mod,S.kind,rfl,rfl,Nat.le_refl _,fun y z c h1 h2=>?_,fun y hy=>?_,fun y c _ h=>?_,fun _=>hd,Around.frames_deeper e0.frames,.inr ⟨rfl,rfl⟩,fun b z=>absurd z (noA b),e0.bs,e0.bsz,fun b _ _=>noA b,fun b z=>absurd z (noA b),e0.funs,e0.frf⟩,
  rfl,e0.bare,Un.kept hk,⟨_,x.toInCall.ns,fun i y v h1 h2 h3=>?_⟩,fun y c h=>⟨_,x.cell y c h⟩,e0.hok.fresh (Nat.le_refl _),fun y c h=>?_,fun p hp=>absurd (show p ∈ ([]:List (Addr × Obj)) from hp) (by simp),e0.hok.kept hk,?_⟩
 ·exact name_of_addr x.apart (PySem.mem_of_lookup h1) (PySem.mem_of_lookup h2)
 ·have hy:scope.names.lookup y=some .cell∨scope.names.lookup y=some .free:=hy
  rcases hy with hy | hy
  ·exact Hz hy
  ·exact absurd rfl (S.nofree _ (PySem.mem_of_lookup hy))
 ·exact Nat.le_of_lt (x.above y c (PySem.mem_of_lookup h))
 ·have hi:i < vs.length:=by
   unfold start at h2
   by_cases hi:i < vs.length
   ·exact hi
   ·rw [List.getElem?_append_right (by simpa using hi)] at h2
    rw [List.getElem?_replicate] at h2
    split at h2 <;> cases h2
  have ha:vs[i]? = some v:=by
   unfold start at h2
   rw [List.getElem?_append_left (by simpa using hi),List.getElem?_map] at h2
   cases e:vs[i]? with
   | none=>rw [e] at h2;cases h2
   | some a=>rw [e] at h2;cases h2;rfl
  obtain ⟨u,hu,rv⟩:=r.get ha
  have hp:ps[i]? = some y:=by
   rw [← S.pre,List.getElem?_take_of_lt (by omega)];exact h1
  have ndP:ps.Nodup:=by rw [← S.pre];exact S.nd.sublist (List.take_sublist _ _)
  refine ⟨u,rv,?_⟩
  rcases S.par y (List.mem_of_getElem? hp) with k | k
  ·exact .inl ⟨k,Tv ndP hp hu k⟩
  ·obtain ⟨c,e⟩:=Hz (n:=s.heap.objs.size + 1) k
   refine .inr ⟨.inl k,c,e,?_⟩
   have q:=x.cell y c e
   rw [Cw ndP hp hu (by show scope.names.lookup y ≠ _;rw [k];decide)] at q
   exact q
 ·exact e0.hok.fresh (Nat.le_of_lt (x.above y c (PySem.mem_of_lookup h)))
 ·unfold start
  show _=N.length
  rw [List.length_append,List.length_map,List.length_replicate]
  omega
theorem EL {CX:CXT} {P:Program} {w:World} {K:PySem.W.Frag} {mg:Str→Option Value} {base:Heap} {k:Nat} {f:Addr} {name qual:Str} {params:Arguments} {body:List Stmt} {scope:Scope} {dV kV doc pm cdv ct oc:Value} {an od:Option Addr}
  {osl:Array (Option Value)} {N ps:List Str} {sp:Sp} (lk:K.lookup f=some ⟨oc,od,.func (PySem.W.fnOf name qual params body scope dV kV doc pm an cdv ct),osl⟩) (hcd:PySem.W.codeIn K cdv qual=true) (S:yb N ps scope)
  (len:∀ vs H Q E,sp vs H Q E→vs.length=ps.length)
  (hbody:∀ (A:Around) (outer:List Env) (s:Shared) (H:Hp) (vs:List V) (Q:VK) (E:XK),Aj k (A.deeper (envOfC qual scope s.heap.objs.size f cdv))→sp vs H Q E →
   ∃ t,PSs (uD CX P w K mg base N qual scope f cdv A outer s H E) body t∧t { nx:=fun _ H'=>Q .non H',rt:=Q } (start N vs) H) :
  Jb P w K mg base CX (k + 1) f (PySem.W.fnOf name qual params body scope dV kV doc pm an cdv ct) ps sp:=by
 refine ⟨len,fun A outer s H args us vs Q E hr e0 hb r hsp=>?_⟩
 have hl:=len _ _ _ _ hsp
 have KX:K.In s.heap:=e0.mod.kin.keeps fun b o e=>(e0.bs b o e).1
 have lim:s.heap.NoLimit:=e0.mod.nolimit.keeps fun b o e=>(e0.bs b o e).1
 have hkind:∀ y ∈ ps.zip us,scope.names.lookup y.1=some .local∨(scope.names.lookup y.1=some .cell∧((cellsFrom (s.heap.objs.size + 1) scope.names []).lookup y.1).isSome=true):=fun ⟨n,v⟩ hy=>by
  rcases S.par n (List.of_mem_zip hy).1 with q | q
  ·exact .inl q
  ·exact .inr ⟨q,PySem.W.cellsFrom_some _ _ _ (.inl q)⟩
 refine codeAny_call_function hr.depth (KX _ _ lk) rfl S.co S.gen rfl (PySem.W.codeRec_of KX hcd) (hb _ _ _ _ ?_)
 refine wpAny_newFunctionEnv_cells S.kind hkind fun env he s1 x=>?_
 subst he
 refine ⟨lim.keeps x.toInCall.keep,codeAny_func ?_⟩
 obtain ⟨t,ht,hq⟩:=hbody A outer s H vs Q E (hr.deeper _) hsp
 have I:Inv (uD CX P w K mg base N qual scope f cdv A outer s H E) [] (start N vs) H s1:=LB S hr.hd e0 hl r x
 refine wpAny_mono (ht [] s1 (start N vs) H _ I hq) (fun fl s' hs=>?_) fun e s' hs=>hs
 have fin:∀ {σ':St} {H':Hp} {v:V} {u:Value},Inv (uD CX P w K mg base N qual scope f cdv A outer s H E) [] σ' H' s'→Ld v u→Q v H'→CE outer P w H s Q u s':=
  fun {σ' H' v u} J rv q=>⟨v,H',J.os,J.bare,J.base,J.hok,rv,q⟩
 cases fl with
 | ret u=>
  obtain ⟨v,σ',H',J,rv,q⟩:=hs
  exact fin J rv q
 | next=>
  obtain ⟨σ',H',J,q⟩:=hs
  exact fin (v:=V.non) (u:=Value.none) J rfl q
 | brk=>
  obtain ⟨_,_,_,q⟩:=hs
  exact False.elim q
 | cont=>
  obtain ⟨_,_,_,q⟩:=hs
  exact False.elim q
end L2
namespace L2
open PySem PySem.Spec PyProof.Rows
section
variable {X:Cx} {x:Str} {p pos:Pos} {e:Expr} {es:List Expr} {t:TA} {id T:String} {r:List V→Hp→VK→Prop}
noncomputable def tCB (r:List V→Hp→VK→Prop) (t:TA):TE:=fun σ H Q=>t σ H fun vs H1=>r vs H1 Q
theorem nc (hc:am X (.builtin id) r) (hg:Gl X x) (hm:X.mg x=none) (hv:bootBuiltins x=some (.builtin id)) (ha:PA X (e :: es) t) (hn:x ≠ "__name__" := by decide) (hdb:(x == ("__debug__" : Str))=false:=by decide)
  (he:starEach (e :: es) X.env=(false,eval e X.env) :: starEach es X.env:=by rfl) (hpl:(backTo pos (starEach es X.env)).any (·.1)=false:=by rfl):PE X (.Call (.Name x p) (e :: es) [] pos) (tCB r t):=by
 intro pins s σ H Q I h
 refine wpAny_Call_Name_kw (wp I hg hm hv ?_ hn hdb)
 exact PyProof.Rows.callWith_builtin1 (thn (ha pos pins s σ H _ I h) fun us s1 ⟨vs,H1,I1,r1,q1⟩=>hc pins s1 σ H1 vs us Q I1 r1 q1) he hpl
theorem fg (hc:am X (.type T) r) (hg:Gl X x) (hm:X.mg x=none) (hv:bootBuiltins x=some (.type T)) (ha:PA X (e :: es) t) (hn:x ≠ "__name__" := by decide) (hdb:(x == ("__debug__" : Str))=false:=by decide)
  (he:starEach (e :: es) X.env=(false,eval e X.env) :: starEach es X.env:=by rfl) (hpl:(backTo pos (starEach es X.env)).any (·.1)=false:=by rfl):PE X (.Call (.Name x p) (e :: es) [] pos) (tCB r t):=by
 intro pins s σ H Q I h
 refine wpAny_Call_Name_kw (wp I hg hm hv ?_ hn hdb)
 exact PyProof.Rows.callWith_type1 (thn (ha pos pins s σ H _ I h) fun us s1 ⟨vs,H1,I1,r1,q1⟩=>hc pins s1 σ H1 vs us Q I1 r1 q1) he hpl
end
end L2
namespace HT
open PySem PyProof.Rows
section
open PySem.SeqAt
open PySem.AutoSeq1 (wpAny_loadPart')
open PySem.MeetsSeq PySem.MeetsSeq2 PySem.MeetsSeq3
end
section
variable {prog:Program} {w:World} {A:Around} {E:Value→Shared→Prop} {s:Shared}
noncomputable def sIx (n d:Nat):Option Int→Nat
 | none=>d
 | some v=>if v < 0 then (v + (n:Int)).toNat else min v.toNat n
theorem sIx_none (n d:Nat):sIx n d none=d:=rfl
theorem sIx_nat (n d k:Nat):sIx n d (some (k:Int))=min k n:=by
 show (if (k:Int) < 0 then ((k:Int) + (n:Int)).toNat else min (k:Int).toNat n)=min k n
 rw [if_neg (by omega),Int.toNat_natCast]
theorem zK (n d:Nat) (hd:d ≤ n) (o:Option Int):sIx n d o ≤ n:=by
 cases o with
 | none=>exact hd
 | some v=>
  show (if v < 0 then (v + (n:Int)).toNat else min v.toNat n) ≤ n
  by_cases hv:v < 0
  ·rw [if_pos hv];omega
  ·rw [if_neg hv];exact Nat.min_le_right _ _
theorem JB (v:Int) (n d:Nat):(if v < 0 then max (v + (n:Int)) 0 else min v (n:Int))=((sIx n d (some v):Nat):Int):=by
 show (if v < 0 then max (v + (n:Int)) 0 else min v (n:Int))=(((if v < 0 then (v + (n:Int)).toNat else min v.toNat n):Nat):Int)
 by_cases hv:v < 0
 ·simp only [if_pos hv];omega
 ·simp only [if_neg hv];omega
theorem Tz (lo hi:Option Int) (n:Nat):Builtin.Slice.sliceAdjust lo hi 1 (n:Int)=(((sIx n 0 lo:Nat):Int),((sIx n n hi:Nat):Int)):=by
 have h1:¬ ((1:Int) < 0):=by omega
 unfold Builtin.Slice.sliceAdjust
 simp only [h1,if_false]
 refine Prod.ext ?_ ?_
 ·cases lo with
  | none=>rfl
  | some v=>exact JB v n 0
 ·cases hi with
  | none=>rfl
  | some v=>exact JB v n n
theorem KA (i j:Nat):Builtin.Slice.slicePlaces (i:Int) (j:Int) 1=j - i:=by
 unfold Builtin.Slice.slicePlaces
 have h1:(1:Int) > 0:=by omega
 simp only [h1,if_true,Int.ediv_one]
 split <;> omega
theorem Js {v:Value} {o:Option Int} {Q:Option Int→Shared→Prop} (p:IsPart v o) (h:Q o s):wpAny (model prog w) A (Builtin.Slice.slicePartIndex v) Q E s:=by
 cases p with
 | none=>exact slicePart_none h
 | int i t=>exact slicePart_int h
theorem Do {sl:Addr} {vl vu:Value} {lo hi:Option Int} {n:Nat} {Q:Int × Int × Nat→Shared→Prop} (hs:s.heap.IsSliceOf sl vl vu .none) (pl:IsPart vl lo) (pu:IsPart vu hi)
  (h:Q (((sIx n 0 lo:Nat):Int),1,sIx n n hi - sIx n 0 lo) s):wpAny (model prog w) A (Builtin.Slice.sliceApplied (.ref sl) (pure (n:Int))) Q E s:=by
 obtain ⟨os,hos,hcs,hds⟩:=id hs
 unfold Builtin.Slice.sliceApplied Builtin.Slice.sliceFields
 refine wpAny_bind (wpAny_bind (wpAny_field hos hds (x:=vl) rfl (wpAny_bind (wpAny_field hos hds (x:=vu) rfl (wpAny_bind (wpAny_field hos hds (x:=.none) rfl (wpAny_pure ?_)))))))
 refine wpAny_bind (slicePart_none ?_)
 show wpAny _ _ (if ((1:Int) == 0)=true then _ else _) _ _ s
 rw [if_neg (by decide)]
 refine wpAny_bind (Js pl (wpAny_bind (Js pu (wpAny_bind (wpAny_pure ?_)))))
 show wpAny _ _ (match Builtin.Slice.sliceAdjust lo hi 1 (n:Int) with | (lo,hi)=>pure (lo,(1:Int),Builtin.Slice.slicePlaces lo hi 1)) _ _ s
 rw [Tz lo hi n]
 show wpAny _ _ (pure (((sIx n 0 lo:Nat):Int),(1:Int),Builtin.Slice.slicePlaces ((sIx n 0 lo:Nat):Int) ((sIx n n hi:Nat):Int) 1)) _ _ s
 rw [KA]
 exact wpAny_pure h
theorem fG (xs:Array Value) (i k:Nat):((List.range k).filterMap fun (m:Nat)=>xs[((i:Int) + (m:Int) * 1).toNat]?).toArray=((xs.toList.drop i).take k).toArray:=by
 have e:(fun (m:Nat)=>xs[((i:Int) + (m:Int) * 1).toNat]?)=fun m=>xs[i + m]?:=by
  funext m
  have:((i:Int) + (m:Int) * 1).toNat=i + m:=by omega
  rw [this]
 rw [e]
 have:=pick_run xs i k
 rw [List.filterMap_map] at this
 have e2:((fun x=>xs[x]?) ∘ fun x=>i + x)=fun m=>xs[i + m]?:=rfl
 rw [e2] at this
 rw [this]
theorem getItem_tuple_cut {t sl:Addr} {items:Array Value} {vl vu:Value} {lo hi:Option Int} {Q:Value→Shared→Prop} (ht:IsTup s.heap t items) (hs:s.heap.IsSliceOf sl vl vu .none) (pl:IsPart vl lo) (pu:IsPart vu hi)
  (hw:¬ (sIx items.size 0 lo=0∧sIx items.size items.size hi=items.size))
  (h:Q (.ref s.heap.objs.size) { s with heap:=s.heap.push { cls:=.type "tuple",data:=.seq ((items.toList.drop (sIx items.size 0 lo)).take (sIx items.size items.size hi - sIx items.size 0 lo)).toArray } })
  (hsz:items.size ≤ sizeLine):wpAny (model prog w) A (getItem (.ref t) (.ref sl)) Q E s:=by
 have htake:sizeOk (.seq ((items.toList.drop (sIx items.size 0 lo)).take (sIx items.size items.size hi - sIx items.size 0 lo)).toArray):=by
  show ((items.toList.drop (sIx items.size 0 lo)).take (sIx items.size items.size hi - sIx items.size 0 lo)).toArray.size ≤ sizeLine
  rw [List.size_toArray,List.length_take,List.length_drop,Array.length_toList]
  omega
 have hj:sIx items.size items.size hi ≤ items.size:=zK _ _ (Nat.le_refl _) hi
 obtain ⟨os,hos,hcs,hds⟩:=id hs
 have hTs:s.TypeIs (.ref sl) "slice" := ⟨os,hos,hcs⟩
 unfold getItem
 try with_reducible refine wpAny_holding ?_
 first | refine wpAny_bind (wpAny_pure ?_) | skip
 refine wpAny_bind (wpAny_sequenceKey ht.typeIs (by decide) ?_)
 refine wpAny_bind (wpAny_callSpecial?_slot (name:=Str.ofString "__getitem__") ht.typeIs PyProof.Rows.slot_tuple_getitem
  (wpAny_call_entry PyProof.Rows.slot_tuple_getitem ht.typeIs entry_tuple_getitem ?_ (args_tuple_getitem _ _)))
 show wpAny _ _ (Builtin.Tuple.tupleItemsOf (.ref t) >>= _) _ _ s
 refine wpAny_bind (tupleItemsOf_ ht ?_)
 refine wpAny_bind (wpAny_typeOf hTs ?_)
 rw [if_pos (by decide)]
 refine wpAny_bind (Do hs pl pu ?_)
 have hno:¬ ((((sIx items.size 0 lo:Nat):Int) == 0 && (1:Int) == 1 && (sIx items.size items.size hi - sIx items.size 0 lo) == items.size)=true):=by
  intro q
  rw [Bool.and_eq_true,Bool.and_eq_true] at q
  have q1:((sIx items.size 0 lo:Nat):Int)=0:=eq_of_beq q.1.1
  have q2:sIx items.size items.size hi - sIx items.size 0 lo=items.size:=eq_of_beq q.2
  exact hw ⟨by omega,by omega⟩
 show wpAny _ _ (if (((sIx items.size 0 lo:Nat):Int) == 0 && (1:Int) == 1 && (sIx items.size items.size hi - sIx items.size 0 lo) == items.size)=true then _ else _) _ _ s
 rw [if_neg hno,fG]
 first
  | exact wpAny_bind (m:=Builtin.Tuple.tupleExact _) (wpAny_newObj_type (wpAny_pure ⟨_,rfl,wpAny_pure h⟩) htake)
  | exact wpAny_bind (m:=Builtin.Tuple.tupleExact _) (wpAny_newObj_type (wpAny_bind (wpAny_pure (wpAny_pure ⟨_,rfl,wpAny_pure h⟩))) htake)
  | exact wpAny_bind (wpAny_bind (m:=Builtin.Tuple.tupleExact _) (wpAny_newObj_type (wpAny_pure (wpAny_pure ⟨_,rfl,wpAny_pure h⟩)) htake))
  | exact wpAny_bind (wpAny_bind (m:=Builtin.Tuple.tupleExact _) (wpAny_newObj_type (wpAny_pure ⟨_,rfl,wpAny_pure h⟩) htake))
end
end HT
namespace L2
open PySem PySem.Spec PyProof.Rows
noncomputable abbrev TO:=St→Hp→(Option Int→Hp→Prop)→Prop
noncomputable def PO (X:Cx) (e:Option Expr) (t:TO):Prop:=
 ∀ (pins:List (Addr × Obj)) (s:Shared) (σ:St) (H:Hp) (Q:Option Int→Hp→Prop),Inv X pins σ H s→t σ H Q →
  wpAny (model X.prog X.w) X.A (evalPart e X.env) (fun u s'=>∃ o H',Inv X pins σ H' s'∧IsPart u o∧Q o H') X.xe s
noncomputable def AB:TO:=fun _ H Q=>Q none H
noncomputable def mM (t:TE):TO:=fun σ H Q=>t σ H fun x H1=>∃ i,x=.int i∧Q (some i) H1
section
variable {X:Cx} {e:Expr} {te:TE} {lo hi:Option Expr} {tl th:TO} {pos p2:Pos}
theorem Wl:PO X none AB:=by
 intro pins s σ H Q I h
 rw [evalPart_none]
 exact wpAny_pure ⟨none,H,I,.none,h⟩
theorem fm (h:PE X e te):PO X (some e) (mM te):=by
 intro pins s σ H Q I hw
 rw [evalPart_some]
 refine thn (h pins s σ H _ I hw) fun u s1 hZ1=>?_
 obtain ⟨x,H1,I1,r1,q1⟩:=hZ1
 obtain ⟨i,rfl,q⟩:=q1
 obtain ⟨t,rfl⟩:=r1
 exact ⟨some i,H1,I1,.int i t,q⟩
noncomputable def SlR (X:Cx) (r:V→Option Int→Option Int→Hp→VK→Prop):Prop:=
 ∀ (pins:List (Addr × Obj)) (s:Shared) (σ:St) (H:Hp) (x:V) (v vl vu:Value) (lo hi:Option Int) (sl:Addr) (Q:VK),Inv X pins σ H s→Ld x v→s.heap.IsSliceOf sl vl vu .none→IsPart vl lo→IsPart vu hi→r x lo hi H Q →
  ∃ T id,typeLookup (.type T) "__getitem__"=pure (some (.builtin id))∧s.TypeIs v T∧wpAny (model X.prog X.w) X.A (getItem v (.ref sl)) (EP X pins σ Q) X.xe s
theorem SlR.or {r r':V→Option Int→Option Int→Hp→VK→Prop} (h:SlR X r) (h':SlR X r'):SlR X (fun x lo hi H Q=>r x lo hi H Q∨r' x lo hi H Q):=by
 intro pins s σ H x v vl vu lo hi sl Q I rx hs pl pu q
 rcases q with q | q
 ·exact h pins s σ H x v vl vu lo hi sl Q I rx hs pl pu q
 ·exact h' pins s σ H x v vl vu lo hi sl Q I rx hs pl pu q
noncomputable def tSl (r:V→Option Int→Option Int→Hp→VK→Prop) (te:TE) (tl th:TO):TE:=fun σ H Q=>te σ H fun x H1=>tl σ H1 fun l H2=>th σ H2 fun u H3=>r x l u H3 Q
theorem Ni {r:V→Option Int→Option Int→Hp→VK→Prop} (hr:SlR X r) (he:PE X e te) (hl:PO X lo tl) (hu:PO X hi th):PE X (.Subscript e (.Slice lo hi none p2) pos) (tSl r te tl th):=by
 intro pins s σ H Q I h
 refine Subscript_ (thn (he pins s σ H _ I h) fun v s1 hZ1=>?_)
 obtain ⟨x,H1,I1,r1,q1⟩:=hZ1
 refine wpAny_Slice (thn (hl pins s1 σ H1 _ I1 q1) fun vl s2 ⟨l,H2,I2,pl,q2⟩=>thn (hu pins s2 σ H2 _ I2 q2) fun vu s3 hZ1=>?_)
 obtain ⟨u,H3,I3,pu,q3⟩:=hZ1
 rw [evalPart_none]
 refine wpAny_pure ?_
 have I4:Inv X pins σ H3 { s3 with heap:=s3.heap.push { cls:=.type "slice",data:=.fields #[vl,vu,.none] } }:=I3.kept (t':=s3.toks) fun b ob q=>Heap.get?_push_of_some _ q
 obtain ⟨T,id,hT,ht,hg⟩:=hr pins { s3 with heap:=s3.heap.push { cls:=.type "slice",data:=.fields #[vl,vu,.none] } } σ H3 x v vl vu l u s3.heap.objs.size Q I4 r1 (Heap.IsSliceOf.new ..) pl pu q3
 show wpAny (model X.prog X.w) X.A (subscriptTail e (.Slice lo hi none p2) v (.ref s3.heap.objs.size)) (EP X pins σ Q) X.xe { s3 with heap:=s3.heap.push { cls:=.type "slice",data:=.fields #[vl,vu,.none] } }
 exact tail_any (ops:=[.ref s3.heap.objs.size,v]) ht hT hg (by with_unfolding_all rfl)
noncomputable def LA (xs:List V) (lo hi:Option Int):List V:=(xs.drop (HT.sIx xs.length 0 lo)).take (HT.sIx xs.length xs.length hi - HT.sIx xs.length 0 lo)
theorem Oq (xs:List V) (lo hi:Option Int):(LA xs lo hi).length ≤ xs.length:=by
 unfold LA
 rw [List.length_take,List.length_drop]
 omega
noncomputable def wN (K:PySem.W.Frag):V→Option Int→Option Int→Hp→VK→Prop:=fun x lo hi H Q=>∃ a xs,x=.ref a∧SqT K H a xs ∧
 ¬ (HT.sIx xs.length 0 lo=0∧HT.sIx xs.length xs.length hi=xs.length)∧∀ p,H p=none→Q (.ref p) (upd H p (.tup (LA xs lo hi)))
theorem ZK:SlR X (wN X.K):=by
 intro pins s σ H x v vl vu lo hi sl Q I rx hs pl pu h
 obtain ⟨a,xs,rfl,hx,hw,q⟩:=h
 cases rx
 obtain ⟨its,r,ht,hz⟩:=I.tuple hx
 have hlen:its.toArray.size=xs.length:=by rw [List.size_toArray];exact r.length.symm
 refine ⟨"tuple",_,PyProof.Rows.slot_tuple_getitem.lookup,ht.typeIs,?_⟩
 refine HT.getItem_tuple_cut ht hs pl pu (by rw [hlen];exact hw) ?_ (by rw [hlen];exact hz)
 rw [hlen]
 refine ⟨.ref s.heap.objs.size,_,I.laid (t':=s.toks) (o:=.tup (LA xs lo hi)) (fun b ob q=>Heap.get?_push_of_some _ q) (Nat.le_refl _) ?_,rfl,q _ (I.hok.fresh (Nat.le_refl _))⟩
 exact ⟨Nat.le_trans (Oq xs lo hi) hz,_,(r.drop (HT.sIx xs.length 0 lo)).take (HT.sIx xs.length xs.length hi - HT.sIx xs.length 0 lo),IsTup.new _ _⟩
end
end L2
namespace L2
open PySem PySem.Spec PyProof.Rows
noncomputable def ixN (n:Nat) (i:Int):Option Nat:=if 0 ≤ i then (if i < n then some i.toNat else none) else if -(n:Int) ≤ i then some (i + n).toNat else none
noncomputable def atI {α:Type} (xs:List α) (i:Int):Option α:=(ixN xs.length i).bind fun j=>xs[j]?
theorem vI {n:Nat} {i:Int} {j:Nat} (h:ixN n i=some j):seqIndex? i n=some j∧j < n∧-(n:Int) ≤ i∧i < n:=by
 unfold ixN at h
 by_cases h0:0 ≤ i
 ·rw [if_pos h0] at h
  by_cases h1:i < n
  ·rw [if_pos h1] at h
   have e:i.toNat=j:=Option.some.inj h
   exact ⟨by rw [seqIndex_of h0 h1,e],by omega,by omega,h1⟩
  ·rw [if_neg h1] at h;cases h
 ·rw [if_neg h0] at h
  by_cases h1:-(n:Int) ≤ i
  ·rw [if_pos h1] at h
   have e:(i + n).toNat=j:=Option.some.inj h
   exact ⟨by rw [seqIndex_neg (by omega) h1,e],by omega,h1,by omega⟩
  ·rw [if_neg h1] at h;cases h
theorem Lx {α:Type} {xs:List α} {i:Int} {v:α} (h:atI xs i=some v):∃ j,seqIndex? i xs.length=some j∧xs[j]? = some v∧j < xs.length∧-(xs.length:Int) ≤ i∧i < xs.length:=by
 unfold atI at h
 cases e:ixN xs.length i with
 | none=>rw [e] at h;cases h
 | some j=>
  rw [e] at h
  obtain ⟨h1,h2,h3,h4⟩:=vI e
  exact ⟨j,h1,h,h2,h3,h4⟩
theorem Fb {α:Type} {xs:List α} {j:Nat} {v:α} (h:xs[j]? = some v):atI xs (j:Int)=some v:=by
 have hj:j < xs.length:=(List.getElem?_eq_some_iff.mp h).1
 have e:ixN xs.length (j:Int)=some j:=by
  unfold ixN
  rw [if_pos (by omega),if_pos (by omega)];simp
 unfold atI;rw [e];exact h
noncomputable def lJ (b:Expr):Prop:=∀ o i,subscripted b false o i=operate [o,i] (getItem o i)
noncomputable def IxR (X:Cx) (r:R2):Prop:=
 ∀ (value slice:Expr) (pins:List (Addr × Obj)) (s:Shared) (σ:St) (H:Hp) (x y:V) (v u:Value) (Q:VK),Inv X pins σ H s→Ld x v→Ld y u→r x y H Q →
  subscripted slice false v u=operate [v,u] (getItem v u)→wpAny (model X.prog X.w) X.A (subscriptTail value slice v u) (EP X pins σ Q) X.xe s
noncomputable def MtR (X:Cx) (id:String) (r:V→List V→Hp→VK→Prop):Prop:=
 ∀ (pins:List (Addr × Obj)) (s:Shared) (σ:St) (H:Hp) (x:V) (xs:List V) (v:Value) (us:List Value) (Q:VK),Inv X pins σ H s→Ld x v→Qd xs us→r x xs H Q →
  wpAny (model X.prog X.w) X.A (call (.builtin id) (v :: us)) (EP X pins σ Q) X.xe s
section
variable {X:Cx} {a b:Expr} {ta tb:TE} {pos:Pos}
theorem IxR.or {r r':R2} (h:IxR X r) (h':IxR X r'):IxR X (fun x y H Q=>r x y H Q∨r' x y H Q):=by
 intro value slice pins s σ H x y v u Q I rx ry q hs
 rcases q with q | q
 ·exact h value slice pins s σ H x y v u Q I rx ry q hs
 ·exact h' value slice pins s σ H x y v u Q I rx ry q hs
theorem MtR.or {id:String} {r r':V→List V→Hp→VK→Prop} (h:MtR X id r) (h':MtR X id r'):MtR X id (fun x xs H Q=>r x xs H Q∨r' x xs H Q):=by
 intro pins s σ H x xs v us Q I rx rs q
 rcases q with q | q
 ·exact h pins s σ H x xs v us Q I rx rs q
 ·exact h' pins s σ H x xs v us Q I rx rs q
theorem lc {r:R2} (hr:IxR X r) (ha:PE X a ta) (hb:PE X b tb) (hs:lJ b):PE X (.Subscript a b pos) (tOp r ta tb):=by
 intro pins s σ H Q I h
 exact Subscript_ (KM ha hb I h fun v u s2 x y H2 I2 rx ry q=>hr a b pins s2 σ H2 x y v u Q I2 rx ry q (hs _ _))
noncomputable def nN (K:PySem.W.Frag):R2:=fun x y H Q=>∃ p xs i v,x=.ref p∧y=.int i∧SqL K H p xs∧atI xs i=some v∧Q v H
noncomputable def IN (K:PySem.W.Frag):R2:=fun x y H Q=>∃ p xs i v,x=.ref p∧y=.int i∧SqT K H p xs∧atI xs i=some v∧Q v H
noncomputable def oN:R2:=fun x y H Q=>∃ z i c,x=.str z∧y=.int i∧z.length ≤ sizeLine∧atI z.cps.toList i=some c∧Q (.str ⟨#[c]⟩) H
theorem bc:IxR X (nN X.K):=by
 intro value slice pins s σ H x y v u Q I rx ry h hs
 obtain ⟨p,xs,i,z,rfl,rfl,hq,he,q⟩:=h
 cases rx
 obtain ⟨t,rfl⟩:=ry
 obtain ⟨its,r,pl,hz⟩:=I.list hq
 obtain ⟨j,h1,h2,h3,h4,h5⟩:=Lx he
 obtain ⟨w,ew,rw'⟩:=r.get h2
 have hl:=r.length
 have hn:=Bt
 have fin:EP X pins σ Q w s:=⟨z,H,I,rw',q⟩
 by_cases h0:0 ≤ i
 ·have hj:i.toNat=j:=by
   rw [seqIndex_of h0 h5] at h1
   exact Option.some.inj h1
  exact item_listR pl.isList h0 (by omega) (by rw [hj];simpa using ew) fin hs
 ·have hj:(i + (its.toArray.size:Int)).toNat=j:=by
   rw [seqIndex_neg (by omega) h4] at h1
   rw [List.size_toArray,← hl]
   exact Option.some.inj h1
  exact subscriptTail_builtinR (x:=w) pl.isList.typeIs slot_list_getitem.lookup
   (wpAny_getItem_list_neg (Q:=fun r s'=>r=w∧EP X pins σ Q r s') pl.isList (by omega) (by rw [List.size_toArray] <;> omega) (by omega) (by rw [hj];simpa using ew) ⟨rfl,fin⟩) hs
theorem sd:IxR X (IN X.K):=by
 intro value slice pins s σ H x y v u Q I rx ry h hs
 obtain ⟨p,xs,i,z,rfl,rfl,hq,he,q⟩:=h
 cases rx
 obtain ⟨t,rfl⟩:=ry
 obtain ⟨its,r,pl,hz⟩:=I.tuple hq
 obtain ⟨j,h1,h2,h3,h4,h5⟩:=Lx he
 obtain ⟨w,ew,rw'⟩:=r.get h2
 have hl:=r.length
 have hn:=Bt
 have fin:EP X pins σ Q w s:=⟨z,H,I,rw',q⟩
 exact subscriptTail_builtinR (x:=w) pl.typeIs slot_tuple_getitem.lookup
  (getItem_tuple (j:=j) (Q:=fun r s'=>r=w∧EP X pins σ Q r s') pl (by omega) (by omega) (by rw [List.size_toArray,← hl];exact h1) (by simpa using ew) ⟨rfl,fin⟩) hs
theorem iE:IxR X oN:=by
 intro value slice pins s σ H x y v u Q I rx ry h hs
 obtain ⟨z,i,c,rfl,rfl,hz,he,q⟩:=h
 obtain ⟨t,rfl⟩:=rx
 obtain ⟨t',rfl⟩:=ry
 obtain ⟨j,h1,h2,h3,h4,h5⟩:=Lx he
 have hl:z.cps.toList.length=z.length:=by simp [Str.length]
 rw [hl] at h1 h4 h5
 have hn:=Bt
 exact tail_any (typeIs_str s z t) slot_str_getitem.lookup (getItem_str (c:=c) (by
  have e1:decide (i < -(2 ^ 63:Int))=false:=decide_eq_false (by omega)
  have e2:decide (i ≥ 2 ^ 63)=false:=decide_eq_false (by omega)
  rw [e1,e2,Bool.or_false]) (by rw [h1];simpa using h2) ⟨.str ⟨#[c]⟩,H,I.tok _,⟨_,rfl⟩,q⟩) hs
theorem Inv.lst {pins:List (Addr × Obj)} {σ:St} {H:Hp} {s:Shared} {p:Addr} {xs:List V} (I:Inv X pins σ H s) (h:H p=some (.lst xs)) :
  ∃ (its:List Value) (n:Nat),Qd xs its∧s.heap.get? p=some { cls:=.type "list",data:=.seq its.toArray n }∧xs.length ≤ sizeLine:=by
 obtain ⟨z,its,n,r,e⟩:=I.hok p _ h
 exact ⟨its,n,r,e,z⟩
theorem vv (lo hi:Option Int) (n:Nat):(sliceBounds lo hi none n).1=((HT.sIx n 0 lo:Nat):Int)∧(sliceBounds lo hi none n).2.1=((HT.sIx n n hi:Nat):Int)∧(sliceBounds lo hi none n).2.2=1:=by
 refine ⟨?_,?_,rfl⟩
 ·cases lo with
  | none=>simp [sliceBounds,HT.sIx]
  | some i=>
   simp only [sliceBounds,HT.sIx,Option.getD_none,show (1:Int) > 0 by decide,if_true]
   by_cases h:i < 0
   ·simp only [h,if_true] <;> omega
   ·simp only [h,if_false] <;> omega
 ·cases hi with
  | none=>simp [sliceBounds,HT.sIx]
  | some i=>
   simp only [sliceBounds,HT.sIx,Option.getD_none,show (1:Int) > 0 by decide,if_true]
   by_cases h:i < 0
   ·simp only [h,if_true] <;> omega
   ·simp only [h,if_false] <;> omega
theorem su (its:List Value) (lo hi:Option Int):slicePick its.toArray lo hi none=((its.drop (HT.sIx its.length 0 lo)).take (HT.sIx its.length its.length hi - HT.sIx its.length 0 lo)).toArray:=by
 obtain ⟨h1,h2,h3⟩:=vv lo hi its.toArray.size
 unfold slicePick
 rw [h1,h2,h3]
 simp only [sliceRange_one,pick_run,List.size_toArray] <;> rfl
noncomputable def pN (K:PySem.W.Frag):V→Option Int→Option Int→Hp→VK→Prop:=fun x lo hi H Q=>∃ a xs,x=.ref a∧SqL K H a xs∧∀ p,H p=none→Q (.ref p) (upd H p (.lst (LA xs lo hi)))
theorem LC:SlR X (pN X.K):=by
 intro pins s σ H x v vl vu lo hi sl Q I rx hs pl pu h
 obtain ⟨a,xs,rfl,hx,q⟩:=h
 cases rx
 obtain ⟨its,r,ht,hz⟩:=I.list hx
 have hlen:=r.length
 refine ⟨"list",_,slot_list_getitem.lookup,ht.isList.typeIs,?_⟩
 refine wpAny_getItem_list_slice ht.isList hs pl pu .none (by simp) ?_ (by rw [List.size_toArray] <;> omega)
 rw [su,← hlen]
 refine ⟨.ref s.heap.objs.size,_,I.laid (t':=s.toks) (o:=.lst (LA xs lo hi)) (fun b ob q=>Heap.get?_push_of_some _ q) (Nat.le_refl _) ?_,rfl,q _ (I.hok.fresh (Nat.le_refl _))⟩
 exact ⟨Nat.le_trans (Oq xs lo hi) hz,_,0,(r.drop (HT.sIx xs.length 0 lo)).take (HT.sIx xs.length xs.length hi - HT.sIx xs.length 0 lo),Heap.get?_push_size _ rfl⟩
noncomputable def Sk:V→Bool
 | .non=>true
 | .bl _=>true
 | .int _=>true
 | .str _=>true
 | _=>false
noncomputable def eqV:V→V→Bool
 | .non,.non=>true
 | .bl a,.bl b=>a == b
 | .bl a,.int b=>(if a then 1 else 0) == b
 | .int a,.bl b=>a == (if b then 1 else 0)
 | .int a,.int b=>a == b
 | .str a,.str b=>a == b
 | _,_=>false
theorem fL {A:Around} {s:Shared} {y x:V} {u v:Value} (ry:Ld y u) (rx:Ld x v) (fy:Sk y=true) (fx:Sk x=true):SeqAt.EqAt A s u v (eqV y x):=by
 cases y with
 | non=>
  cases ry
  cases x with
  | non=>cases rx;exact SeqAt.EqAt.same _
  | bl b=>cases rx;exact SeqAt.EqAt.none_bool b
  | int b=>obtain ⟨t,rfl⟩:=rx;exact SeqAt.EqAt.none_int b t
  | str b=>obtain ⟨t,rfl⟩:=rx;exact SeqAt.EqAt.none_str b t
  | _=>exact absurd (show false=true from fx) Bool.false_ne_true
 | bl a=>
  cases ry
  cases x with
  | non=>cases rx;exact SeqAt.EqAt.bool_none a
  | bl b=>cases rx;exact SeqAt.EqAt.bool_bool a b
  | int b=>obtain ⟨t,rfl⟩:=rx;exact SeqAt.EqAt.bool_int a b t
  | str b=>obtain ⟨t,rfl⟩:=rx;exact SeqAt.EqAt.bool_str a b t
  | _=>exact absurd (show false=true from fx) Bool.false_ne_true
 | int a=>
  obtain ⟨t',rfl⟩:=ry
  cases x with
  | non=>cases rx;exact SeqAt.EqAt.int_none a t'
  | bl b=>cases rx;exact SeqAt.EqAt.int_bool a t' b
  | int b=>obtain ⟨t,rfl⟩:=rx;exact SeqAt.EqAt.int_int a t' b t
  | str b=>obtain ⟨t,rfl⟩:=rx;exact SeqAt.EqAt.int_str a t' b t
  | _=>exact absurd (show false=true from fx) Bool.false_ne_true
 | str a=>
  obtain ⟨t',rfl⟩:=ry
  cases x with
  | non=>cases rx;exact SeqAt.EqAt.str_none a t'
  | bl b=>cases rx;exact SeqAt.EqAt.str_bool a t' b
  | int b=>obtain ⟨t,rfl⟩:=rx;exact SeqAt.EqAt.str_int a t' b t
  | str b=>obtain ⟨t,rfl⟩:=rx;exact SeqAt.EqAt.str_str a t' b t
  | _=>exact absurd (show false=true from fx) Bool.false_ne_true
 | _=>exact absurd (show false=true from fy) Bool.false_ne_true
noncomputable def eqU (x:V) (u:Value):Bool:=match u with
 | .none=>eqV .non x
 | .bool b=>eqV (.bl b) x
 | .int i _=>eqV (.int i) x
 | .str z _=>eqV (.str z) x
 | _=>false
theorem PH {x y:V} {u:Value} (r:Ld y u) (f:Sk y=true):eqU x u=eqV y x:=by
 cases y with
 | non=>cases r;rfl
 | bl b=>cases r;rfl
 | int i=>obtain ⟨t,rfl⟩:=r;rfl
 | str z=>obtain ⟨t,rfl⟩:=r;rfl
 | _=>exact absurd (show false=true from f) Bool.false_ne_true
theorem zp {x:V}:∀ {xs:List V} {us:List Value},Qd xs us→xs.all Sk=true→us.any (eqU x)=xs.any fun y=>eqV y x
 | _,_,.nil,_=>rfl
 | y :: xs,u :: us,.cons r t,f=>by
  rw [List.all_cons,Bool.and_eq_true] at f
  rw [List.any_cons,List.any_cons,PH r f.1,zp t f.2]
theorem Om {A:Around} {s:Shared} {x:V} {v:Value} (rx:Ld x v) (fx:Sk x=true):∀ {xs:List V} {us:List Value},Qd xs us→xs.all Sk=true→∀ u ∈ us,SeqAt.EqAt A s u v (eqU x u)
 | _,_,.nil,_=>fun u hu=>by cases hu
 | y :: xs,u :: us,.cons r t,f=>fun u' hu=>by
  rw [List.all_cons,Bool.and_eq_true] at f
  rcases List.mem_cons.mp hu with rfl | hu
  ·rw [PH r f.1];exact fL r rx f.1 fx
  ·exact Om rx fx t f.2 u' hu
noncomputable def inV (x:V) (xs:List V):Bool:=xs.any fun y=>eqV y x
noncomputable def rIn (K:PySem.W.Frag) (neg:Bool):R2:=fun x y H Q=>∃ p xs,y=.ref p∧(SqL K H p xs∨SqT K H p xs)∧Sk x=true∧xs.all Sk=true∧Q (.bl (if neg then !inV x xs else inV x xs)) H
theorem Vm:OpR X (compareOp .In) (rIn X.K false):=by
 intro pins s σ H x y v u Q I rx ry h
 obtain ⟨p,xs,rfl,hq,fx,fs,q⟩:=h
 cases ry
 rcases hq with hq | hq
 ·obtain ⟨its,r,pl,hz⟩:=I.list hq
  refine SeqAt.in_listAt (eqU x) pl.isList (fun w hw=>Om rx fx r fs w (by simpa using hw)) ⟨.bl _,H,I,rfl,?_⟩
  rw [show its.toArray.any (eqU x)=its.any (eqU x) by simp,zp r fs]
  exact q
 ·obtain ⟨its,r,pl,hz⟩:=I.tuple hq
  refine SeqAt.in_tupleAt (eqU x) pl (fun w hw=>Om rx fx r fs w (by simpa using hw)) ⟨.bl _,H,I,rfl,?_⟩
  rw [show its.toArray.any (eqU x)=its.any (eqU x) by simp,zp r fs]
  exact q
theorem Nh:OpR X (compareOp .NotIn) (rIn X.K true):=by
 intro pins s σ H x y v u Q I rx ry h
 obtain ⟨p,xs,rfl,hq,fx,fs,q⟩:=h
 cases ry
 rcases hq with hq | hq
 ·obtain ⟨its,r,pl,hz⟩:=I.list hq
  refine SeqAt.notIn_listAt (eqU x) pl.isList (fun w hw=>Om rx fx r fs w (by simpa using hw)) ⟨.bl _,H,I,rfl,?_⟩
  rw [show its.toArray.any (eqU x)=its.any (eqU x) by simp,zp r fs]
  exact q
 ·obtain ⟨its,r,pl,hz⟩:=I.tuple hq
  refine SeqAt.notIn_tupleAt (eqU x) pl (fun w hw=>Om rx fx r fs w (by simpa using hw)) ⟨.bl _,H,I,rfl,?_⟩
  rw [show its.toArray.any (eqU x)=its.any (eqU x) by simp,zp r fs]
  exact q
theorem Lb:am X (.builtin "len") (fun xs H Q=>∃ p ys,xs=[.ref p]∧(SqL X.K H p ys∨SqT X.K H p ys)∧Q (.int ys.length) H):=by
 intro pins s σ H xs us Q I r h
 obtain ⟨p,ys,rfl,hq,q⟩:=h
 obtain ⟨u,rfl,rx⟩:=Gr r
 cases rx
 have hn:=Bt
 rcases hq with hq | hq
 ·obtain ⟨its,r',pl,hz⟩:=I.list hq
  have hlen:=r'.length
  exact Calls.call_len_list pl.isList (by simp only [List.size_toArray] <;> omega) ⟨.int ys.length,H,I.tok _,⟨s.toks + 1,by rw [List.size_toArray,hlen]⟩,q⟩
 ·obtain ⟨its,r',pl,hz⟩:=I.tuple hq
  have hlen:=r'.length
  exact len_tuple pl (by simp only [List.size_toArray] <;> omega) ⟨.int ys.length,H,I.tok _,⟨s.toks + 1,by rw [List.size_toArray,hlen]⟩,q⟩
theorem uw:am X (.builtin "len") (fun xs H Q=>∃ z,xs=[.str z]∧z.length ≤ sizeLine∧Q (.int z.length) H):=by
 intro pins s σ H xs us Q I r h
 obtain ⟨z,rfl,hz,q⟩:=h
 obtain ⟨u,rfl,t,rfl⟩:=Gr r
 have hn:=Bt
 exact len_str (by omega) ⟨.int z.length,H,I.tok _,⟨_,rfl⟩,q⟩
theorem am.or {f:Value} {r r':List V→Hp→VK→Prop} (h:am X f r) (h':am X f r'):am X f (fun xs H Q=>r xs H Q∨r' xs H Q):=by
 intro pins s σ H xs us Q I rs q
 rcases q with q | q
 ·exact h pins s σ H xs us Q I rs q
 ·exact h' pins s σ H xs us Q I rs q
noncomputable def tyV (K:PySem.W.Frag) (T:String) (x:V) (H:Hp):Prop:=match x with
 | .str _=>T = "str"
 | .int _=>T = "int"
 | .ref p=>(T = "list" ∧ ∃ xs,SqL K H p xs)∨(T = "tuple" ∧ ∃ o,K.lookup p=some o∧o.cls=.type "tuple" ∧ o.dict=none) ∨
   (T = "dict" ∧ ((∃ kvs,H p=some (.dK kvs))∨∃ kvs,H p=some (.dT kvs)))∨(T = "set" ∧ ∃ S n,H p=some (.set S n))
 | _=>False
theorem tL {pins:List (Addr × Obj)} {σ:St} {H:Hp} {s:Shared} {T:String} {x:V} {v:Value} (I:Inv X pins σ H s) (r:Ld x v) (ty:tyV X.K T x H) :
  s.TypeIs v T∧∀ a,v=.ref a→∃ ob,s.heap.get? a=some ob∧ob.dict=none:=by
 cases x with
 | str z=>
  obtain ⟨t,rfl⟩:=r
  cases (show T = "str" from ty)
  exact ⟨typeIs_str s z t,fun _ e=>nomatch e⟩
 | int i=>
  obtain ⟨t,rfl⟩:=r
  cases (show T = "int" from ty)
  exact ⟨typeIs_int s i t,fun _ e=>nomatch e⟩
 | ref p=>
  cases r
  rcases ty with ⟨rfl,xs,hq⟩ | ⟨rfl,o,hk,hc,hd⟩ | ⟨rfl,hk⟩ | ⟨rfl,S,n,hk⟩
  ·obtain ⟨its,_,pl,_⟩:=I.list hq
   refine ⟨pl.isList.typeIs,fun a e=>?_⟩
   cases e
   obtain ⟨o,n,e,c,hd,_⟩:=pl
   exact ⟨o,e,hd⟩
  ·refine ⟨⟨o,I.kIn p o hk,hc⟩,fun a e=>?_⟩
   cases e
   exact ⟨o,I.kIn _ o hk,hd⟩
  ·have z:∃ o,s.heap.get? p=some o∧o.ExactDict:=by
    rcases hk with ⟨kvs,hk⟩ | ⟨kvs,hk⟩
    ·obtain ⟨_,_,_,_,o,_,_,e,ex,_⟩:=I.hok p _ hk
     exact ⟨o,e,ex⟩
    ·obtain ⟨_,_,_,_,o,_,_,e,ex,_⟩:=I.hok p _ hk
     exact ⟨o,e,ex⟩
   obtain ⟨o,e,ex⟩:=z
   refine ⟨⟨o,e,ex.1⟩,fun a e2=>?_⟩
   cases e2
   exact ⟨o,e,ex.2.1⟩
  ·obtain ⟨o,_,_,_,e,ex,_⟩:=I.hok p _ hk
   refine ⟨⟨o,e,ex.1⟩,fun a e2=>?_⟩
   cases e2
   exact ⟨o,e,ex.2.1⟩
 | _=>exact False.elim ty
noncomputable def tBM (K:PySem.W.Frag) (T:String) (r:V→List V→Hp→VK→Prop) (to:TE) (t:TA):TE:=fun σ H Q=>to σ H fun x H1=>tyV K T x H1∧t σ H1 fun xs H2=>r x xs H2 Q
variable {o e:Expr} {es:List Expr} {to:TE} {t:TA} {name:Str} {apos cpos:Pos} {T id:String} {r:V→List V→Hp→VK→Prop}
theorem Df (pa:PlainAttrs T) (slot:Slot T name id) (hty:typeOf (.builtin id)=pure (.type "method_descriptor")) (hm:MtR X id r) (ho:PE X o to) (ha:PA X (e :: es) t)
  (hbase:attributeBase o name X.env (eval o X.env)=eval o X.env:=by rfl)
  (hfew:((backTo cpos (starEach (e :: es) X.env)).all (fun x=>!x.1) && (backToKw cpos (keywordEach [] X.env)).all (fun x=>x.1.isSome)
   && decide ((e :: es).length + ([]:List Keyword).length + (if ([]:List Keyword).isEmpty then 0 else 1) < 30))=true:=by rfl)
  (hline:(apos.endLine == cpos.line)=true:=by rfl) (hs:starEach (e :: es) X.env=(false,eval e X.env) :: starEach es X.env:=by rfl) (hplain:(backTo cpos (starEach es X.env)).any (·.1)=false:=by rfl) :
  PE X (.Call (.Attribute o name apos) (e :: es) [] cpos) (tBM X.K T r to t):=by
 intro pins s σ H Q I h
 refine wpAny_Call_method_late hbase hfew hline rfl (thn (ho pins s σ H _ I h) fun v s1 hZ1=>?_)
 obtain ⟨x,H1,I1,r1,ty,q1⟩:=hZ1
 obtain ⟨h1,h2⟩:=tL I1 r1 ty
 refine ⟨T,id,pa,slot,hty,h1,h2,?_⟩
 have hA:=ha cpos pins s1 σ H1 _ I1 q1
 rw [hs] at hA ⊢
 refine Calls.callWith_builtin (by show (false || (backTo cpos (starEach es X.env)).any (·.1))=false;rw [hplain] <;> rfl) (Calls.evalArgs_plain ?_)
 exact thn hA fun us s2 ⟨vs,H2,I2,r2,q2⟩=>hm pins s2 σ H2 x vs v us Q I2 r1 r2 q2
end
end L2
namespace L2
open PySem PySem.Spec PyProof.Rows
noncomputable def MtM (X:Cx) (id:String) (r:V→List V→Hp→VK→Prop):Prop:=
 ∀ (pins:List (Addr × Obj)) (s:Shared) (σ:St) (H:Hp) (x:V) (xs:List V) (v:Value) (us:List Value) (Q:VK),Inv X pins σ H s→Ld x v→Qd xs us→r x xs H Q →
  wpAny (model X.prog X.w) X.A (call (.builtin id) (v :: us)) (EP X pins σ Q) X.xe s
theorem Qd.one:∀ {x:V} {us:List Value},Qd [x] us→∃ u,us=[u]∧Ld x u
 | _,_,.cons r .nil=>⟨_,rfl,r⟩
theorem Qd.two:∀ {x y:V} {us:List Value},Qd [x,y] us→∃ u v,us=[u,v]∧Ld x u∧Ld y v
 | _,_,_,.cons r (.cons q .nil)=>⟨_,_,rfl,r,q⟩
theorem Qd.zero:∀ {us:List Value},Qd [] us→us=[]
 | _,.nil=>rfl
theorem Qd.reverse {xs:List V} {us:List Value} (h:Qd xs us):Qd xs.reverse us.reverse:=by
 induction h with
 | nil=>exact .nil
 | cons r t ih=>rw [List.reverse_cons,List.reverse_cons];exact Qd.append ih (.cons r .nil)
section
variable {X:Cx} {pins:List (Addr × Obj)} {σ:St} {H:Hp} {s:Shared} {l b:Addr} {xs ys zs:List V}
theorem Inv.lset {its its':List Value} {n:Nat} {f:Array Value→Array Value} {t':Nat} (I:Inv X pins σ H s) (hH:H l=some (.lst xs))
  (e:s.heap.get? l=some { cls:=.type "list",data:=.seq its.toArray n }) (hf:f its.toArray=its'.toArray) (hv:Qd ys its') (hz:ys.length ≤ sizeLine) :
  Inv X pins σ (upd H l (.lst ys)) { s with heap:=s.heap.update l (Obj.mapSeq f),toks:=t' }:=by
 have q:=PySem.IsL.update e f
 rw [hf] at q
 refine I.write (x:=l) (e:=l) (by rw [hH];exact trivial) (.inl rfl) (fun b' u hb hu=>(Heap.get?_update_other s.heap (Obj.mapSeq f) (Ne.symm hb)).trans hu) ⟨_,q⟩ ?_
 exact ⟨hz,its',_,hv,q⟩
theorem Inv.lnew {its:List Value} {t':Nat} (I:Inv X pins σ H s) (hv:Qd ys its) (hz:ys.length ≤ sizeLine) :
  Inv X pins σ (upd H s.heap.objs.size (.lst ys)) { s with heap:=s.heap.push { cls:=.type "list",data:=.seq its.toArray },toks:=t' }:=
 I.laid (fun _ _ q=>Heap.get?_push_of_some _ q) (Nat.le_refl _) ⟨hz,its,0,hv,Heap.get?_push_size _ rfl⟩
theorem Inv.fresh (I:Inv X pins σ H s):H s.heap.objs.size=none:=I.hok.fresh (Nat.le_refl _)
theorem Inv.lstM (I:Inv X pins σ H s) (hH:H l=some (.lst xs)):xs.length ≤ sizeLine∧∃ (its:List Value) (n:Nat),Qd xs its∧xs.length=its.length∧s.heap.get? l=some { cls:=.type "list",data:=.seq its.toArray n }:=by
 obtain ⟨z,its,n,r,e⟩:=I.hok l _ hH
 exact ⟨z,its,n,r,r.length,e⟩
theorem rF {n:Nat} (h:n ≤ sizeLine):Builtin.List.listTooLong n=false:=by
 unfold Builtin.List.listTooLong
 exact decide_eq_false (by omega)
end
section
variable {X:Cx}
noncomputable def rB:V→List V→Hp→VK→Prop:=fun x vs H Q=>∃ l xs y,x=.ref l∧vs=[y]∧H l=some (.lst xs)∧xs.length < sizeLine∧Q .non (upd H l (.lst (xs ++ [y])))
theorem yd:MtM X "list.append" rB:=by
 intro pins s σ H x vs v us Q I rx rv h
 obtain ⟨l,xs,y,rfl,rfl,hH,hz,q⟩:=h
 cases rx
 obtain ⟨u,rfl,ru⟩:=rv.one
 obtain ⟨z,its,n,r,hl,e⟩:=I.lstM hH
 refine call_meets F.slot_list_append ⟨_,e,rfl⟩ F.entry_list_append (F.args_list_append_2 _ _) (PySem.list_append l its.toArray n u (by rw [List.size_toArray];omega)) ⟨e,?_⟩
 refine ⟨.non,_,I.lset (its':=its ++ [u]) hH e (by simp) (r.append (.cons ru .nil)) ?_,rfl,q⟩
 rw [List.length_append,List.length_singleton]
 omega
noncomputable def gD:V→List V→Hp→VK→Prop:=fun x vs H Q=>∃ l b xs zs,x=.ref l∧vs=[.ref b]∧H l=some (.lst xs)∧H b=some (.lst zs)∧xs.length + zs.length ≤ sizeLine∧Q .non (upd H l (.lst (xs ++ zs)))
theorem Op:MtM X "list.extend" gD:=by
 intro pins s σ H x vs v us Q I rx rv h
 obtain ⟨l,b,xs,zs,rfl,rfl,hH,hB,hz,q⟩:=h
 cases rx
 obtain ⟨u,rfl,ru⟩:=rv.one
 cases ru
 obtain ⟨z,its,n,r,hl,e⟩:=I.lstM hH
 obtain ⟨z2,its2,n2,r2,hl2,e2⟩:=I.lstM hB
 have hsz:its.toArray.size + its2.toArray.size ≤ sizeLine:=by rw [List.size_toArray,List.size_toArray];omega
 have hlong:¬ (!its.toArray.isEmpty && Builtin.List.listTooLong (its.toArray.size + its2.toArray.size))=true:=by
  rw [rF hsz,Bool.and_false]
  exact Bool.false_ne_true
 refine call_meets F.slot_list_extend ⟨_,e,rfl⟩ F.entry_list_extend (F.args_list_extend_2 _ _)
  (AutoSeq1.list_extend_list_list_0 l its.toArray n b its2.toArray n2 hlong (by rw [List.size_toArray];omega) (by omega)) ⟨e,e2,?_⟩
 refine ⟨.non,_,I.lset (its':=its ++ its2) hH e (by simp) (r.append r2) ?_,rfl,q⟩
 rw [List.length_append]
 omega
noncomputable def yN:R2:=fun x y H Q=>∃ l b xs zs,x=.ref l∧y=.ref b∧H l=some (.lst xs)∧H b=some (.lst zs)∧xs.length + zs.length ≤ sizeLine∧∀ p,H p=none→Q (.ref p) (upd H p (.lst (xs ++ zs)))
theorem wL:OpR X (binaryOp .Add) yN:=by
 intro pins s σ H x y v u Q I rx ry h
 obtain ⟨l,b,xs,zs,rfl,rfl,hH,hB,hz,q⟩:=h
 cases rx
 cases ry
 obtain ⟨z,its,n,r,hl,e⟩:=I.lstM hH
 obtain ⟨z2,its2,n2,r2,hl2,e2⟩:=I.lstM hB
 refine PySem.P.add_list e e2 ?_ (by rw [List.size_toArray,List.size_toArray];omega)
 have ea:its.toArray ++ its2.toArray=(its ++ its2).toArray:=by simp
 rw [ea]
 exact ⟨.ref _,_,I.lnew (t':=s.toks) (r.append r2) (by rw [List.length_append];omega),rfl,q _ I.fresh⟩
end
section
variable {prog:Program} {w:World} {A:Around} {E:Value→Shared→Prop} {s:Shared}
end
section
variable {X:Cx}
end
end L2
namespace L2
open PySem PySem.Spec PyProof.Rows
section
variable {κ:Type} [DecidableEq κ]
noncomputable def wg (kvs:List (κ × V)) (k:κ):Option V:=(kvs.find? fun kv=>decide (kv.1=k)).map (·.2)
noncomputable def Rk (kvs:List (κ × V)) (k:κ) (v:V):List (κ × V):=
 if (kvs.any fun kv=>decide (kv.1=k))=true then kvs.map (fun kv=>if kv.1=k then (kv.1,v) else kv) else kvs ++ [(k,v)]
noncomputable def xL (kvs:List (κ × V)) (k:κ):List (κ × V):=kvs.filter fun kv=>decide (kv.1 ≠ k)
theorem bf {p:κ × V} {r:List (κ × V)} {k:κ} (e:p.1=k):wg (p :: r) k=some p.2:=by simp [wg,List.find?_cons,e]
theorem vf {p:κ × V} {r:List (κ × V)} {k:κ} (e:¬ p.1=k):wg (p :: r) k=wg r k:=by simp [wg,List.find?_cons,e]
theorem Pm (k:κ):∀ kvs:List (κ × V),(kvs.any fun kv=>decide (kv.1=k))=(wg kvs k).isSome
 | []=>rfl
 | p :: r=>by
  rw [List.any_cons]
  by_cases e:p.1=k
  ·simp only [bf e,decide_eq_true e,Bool.true_or,Option.isSome_some]
  ·rw [vf e,decide_eq_false e,Bool.false_or];exact Pm k r
theorem Qy (k j:κ) (y:V):∀ kvs:List (κ × V),wg (kvs.map fun kv=>if kv.1=k then (kv.1,y) else kv) j=(wg kvs j).map fun x=>if j=k then y else x
 | []=>rfl
 | p :: r=>by
  have ih:=Qy k j y r
  rw [List.map_cons]
  by_cases h:p.1=k
  ·rw [if_pos h]
   by_cases e:p.1=j
   ·rw [bf (p:=(p.1,y)) e,bf e,Option.map_some,if_pos (e.symm.trans h)]
   ·rw [vf (p:=(p.1,y)) e,vf e,ih]
  ·rw [if_neg h]
   by_cases e:p.1=j
   ·rw [bf (p:=p) e,bf e,Option.map_some,if_neg (fun z=>h (e.trans z))]
   ·rw [vf (p:=p) e,vf e,ih]
theorem Uv (k j:κ) (y:V):∀ kvs:List (κ × V),wg kvs k=none→wg (kvs ++ [(k,y)]) j=if j=k then some y else wg kvs j
 | [],_=>by
  by_cases e:k=j
  ·rw [if_pos e.symm];exact bf (p:=(k,y)) e
  ·rw [if_neg (fun z=>e z.symm)];exact vf (p:=(k,y)) e
 | p :: r,hn=>by
  rw [List.cons_append]
  have hk:¬ p.1=k:=fun z=>by rw [bf z] at hn;cases hn
  rw [vf hk] at hn
  have ih:=Uv k j y r hn
  by_cases e:p.1=j
  ·rw [bf e,bf e,if_neg (fun z=>hk (e.trans z))]
  ·rw [vf e,vf e,ih]
theorem mz (kvs:List (κ × V)) (k j:κ) (y:V):wg (Rk kvs k y) j=if j=k then some y else wg kvs j:=by
 unfold Rk
 by_cases a:(kvs.any fun kv=>decide (kv.1=k))=true
 ·rw [if_pos a,Qy]
  rw [Pm] at a
  by_cases e:j=k
  ·obtain ⟨x,hx⟩:=Option.isSome_iff_exists.mp a
   rw [if_pos e,e,hx,Option.map_some,if_pos rfl]
  ·rw [if_neg e]
   cases wg kvs j with
   | none=>rfl
   | some x=>rw [Option.map_some,if_neg e]
 ·rw [if_neg a]
  refine Uv k j y kvs ?_
  rw [Pm] at a
  cases q:wg kvs k with
  | none=>rfl
  | some x=>rw [q] at a;exact (a rfl).elim
theorem gm (kvs:List (κ × V)) (k:κ) (v:V):(Rk kvs k v).length ≤ kvs.length + 1:=by
 unfold Rk
 split
 ·rw [List.length_map];omega
 ·rw [List.length_append,List.length_cons,List.length_nil];omega
theorem Du {kvs:List (κ × V)} {k:κ} (v:V) (h:wg kvs k=none):Rk kvs k v=kvs ++ [(k,v)]:=by
 unfold Rk
 rw [Pm,h]
 exact if_neg (by decide)
theorem Wq.isSome_eq {o:Option V} {u:Option Value} (r:Wq o u):o.isSome=u.isSome:=by
 cases o with
 | none=>cases u with
  | none=>rfl
  | some _=>exact (show False from r).elim
 | some _=>cases u with
  | none=>exact (show False from r).elim
  | some _=>rfl
theorem Wq.getD {o:Option V} {u:Option Value} {d:V} {d':Value} (r:Wq o u) (rd:Ld d d'):Ld (o.getD d) (u.getD d'):=by
 cases o with
 | none=>cases u with
  | none=>exact rd
  | some _=>exact (show False from r).elim
 | some _=>cases u with
  | none=>exact (show False from r).elim
  | some _=>exact r
theorem KV.val {kvs:List (κ × V)} {vs:List (κ × Value)} (r:KV kvs vs) (k:κ):Wq (wg kvs k) (valueAt vs k):=by
 unfold KV at r
 induction r with
 | nil=>exact True.intro
 | @cons p q ps qs h t ih=>
  obtain ⟨h1,h2⟩:=h
  by_cases e:p.1=k
  ·have e':q.1=k:=h1.symm.trans e
   have b:valueAt (q :: qs) k=some q.2:=by simp [valueAt,List.find?_cons,e']
   rw [bf e,b];exact h2
  ·have e':¬ q.1=k:=fun z=>e (h1.trans z)
   have b:valueAt (q :: qs) k=valueAt qs k:=by simp [valueAt,List.find?_cons,e']
   rw [vf e,b];exact ih
theorem KV.any {kvs:List (κ × V)} {vs:List (κ × Value)} (r:KV kvs vs) (k:κ):(kvs.any fun kv=>decide (kv.1=k))=vs.any fun kv=>decide (kv.1=k):=by
 unfold KV at r
 induction r with
 | nil=>rfl
 | cons h t ih=>rw [List.any_cons,List.any_cons,ih,h.1]
theorem KV.repl {kvs:List (κ × V)} {vs:List (κ × Value)} (r:KV kvs vs) (k:κ) {y:V} {u:Value} (ry:Ld y u) :
  KV (kvs.map fun kv=>if kv.1=k then (kv.1,y) else kv) (vs.map fun kv=>if kv.1=k then (kv.1,u) else kv):=by
 unfold KV at r ⊢
 induction r with
 | nil=>exact .nil
 | @cons p q ps qs h t ih=>
  rw [List.map_cons,List.map_cons]
  refine .cons ?_ ih
  obtain ⟨h1,h2⟩:=h
  by_cases e:p.1=k
  ·rw [if_pos e,if_pos (h1.symm.trans e)];exact ⟨h1,ry⟩
  ·rw [if_neg e,if_neg (fun z=>e (h1.trans z))];exact ⟨h1,h2⟩
theorem KV.put {kvs:List (κ × V)} {vs:List (κ × Value)} (r:KV kvs vs) (k:κ) {y:V} {u:Value} (ry:Ld y u):KV (Rk kvs k y) (stored vs k u):=by
 unfold Rk stored
 rw [r.any k]
 by_cases e:(vs.any fun kv=>decide (kv.1=k))=true
 ·rw [if_pos e,if_pos e];exact r.repl k ry
 ·rw [if_neg e,if_neg e];exact Paired.snoc r ⟨rfl,ry⟩
theorem KV.drop {kvs:List (κ × V)} {vs:List (κ × Value)} (r:KV kvs vs) (k:κ):KV (xL kvs k) (without vs k):=by
 unfold KV at r ⊢
 unfold xL without
 induction r with
 | nil=>exact .nil
 | @cons p q ps qs h t ih=>
  obtain ⟨h1,h2⟩:=h
  rw [List.filter_cons,List.filter_cons]
  by_cases e:p.1=k
  ·have a:¬ decide (p.1 ≠ k)=true:=by simp [e]
   have b:¬ decide (q.1 ≠ k)=true:=by simp [h1.symm.trans e]
   rw [if_neg a,if_neg b];exact ih
  ·have e':¬ q.1=k:=fun z=>e (h1.trans z)
   have a:decide (p.1 ≠ k)=true:=by simp [e]
   have b:decide (q.1 ≠ k)=true:=by simp [e']
   rw [if_pos a,if_pos b];exact .cons ⟨h1,h2⟩ ih
theorem KV.keys {kvs:List (κ × V)} {vs:List (κ × Value)} (r:KV kvs vs):kvs.map (·.1)=vs.map (·.1):=by
 unfold KV at r
 induction r with
 | nil=>rfl
 | cons h t ih=>rw [List.map_cons,List.map_cons,ih,h.1]
theorem KV.length {kvs:List (κ × V)} {vs:List (κ × Value)} (r:KV kvs vs):kvs.length=vs.length:=Paired.length r
end
theorem bC {P:Program} {w:World} {k:Key} {u:Value} (r:Ld (kV k) u):(Ce P w).is k u=true:=by
 cases k with
 | inl i=>obtain ⟨t,e⟩:=(show ∃ t,u=Value.int i t from r);subst e;exact Jx P w i t
 | inr x=>obtain ⟨t,e⟩:=(show ∃ t,u=Value.str x t from r);subst e;exact Zx P w x t
theorem xw {P:Program} {w:World}:∀ {ks:List Key} {us:List Value},Qd (ks.map kV) us→ItemsAre (Ce P w) ks us
 | [],_,r=>by rw [List.map_nil] at r;cases r;exact .nil
 | k :: ks,_,r=>by
  rw [List.map_cons] at r
  cases r with
  | cons h t=>exact .cons (bC h) (xw t)
noncomputable abbrev KT (H:Hp):List (List Key × V)→List (List Key × Addr × Value)→Prop:=Paired fun p q=>p.1=q.1∧H q.2.1=some (.tup (p.1.map kV))∧Ld p.2 q.2.2
theorem KT.val {H:Hp} {kvs:List (List Key × V)} {xs:List (List Key × Addr × Value)} (r:KT H kvs xs) (k:List Key):Wq (wg kvs k) ((atKey xs k).map (·.2)):=by
 induction r with
 | nil=>exact True.intro
 | @cons p q ps qs h t ih=>
  obtain ⟨h1,_,h2⟩:=h
  by_cases e:p.1=k
  ·have e':q.1=k:=h1.symm.trans e
   have b:atKey (q :: qs) k=some q.2:=by simp [atKey,List.find?_cons,e']
   rw [bf e,b];exact h2
  ·have e':¬ q.1=k:=fun z=>e (h1.trans z)
   have b:atKey (q :: qs) k=atKey qs k:=by simp [atKey,List.find?_cons,e']
   rw [vf e,b];exact ih
theorem KT.repl {H:Hp} {kvs:List (List Key × V)} {xs:List (List Key × Addr × Value)} (r:KT H kvs xs) (k:List Key) {y:V} {u:Value} (ry:Ld y u) :
  KT H (kvs.map fun kv=>if kv.1=k then (kv.1,y) else kv) (xs.map (putAt k u)):=by
 induction r with
 | nil=>exact .nil
 | @cons p q ps qs h t ih=>
  rw [List.map_cons,List.map_cons]
  refine .cons ?_ ih
  obtain ⟨h1,h2,h3⟩:=h
  unfold putAt
  by_cases e:p.1=k
  ·rw [if_pos e,if_pos (h1.symm.trans e)];exact ⟨h1,h2,ry⟩
  ·rw [if_neg e,if_neg (fun z=>e (h1.trans z))];exact ⟨h1,h2,h3⟩
theorem KT.put {H:Hp} {kvs:List (List Key × V)} {xs:List (List Key × Addr × Value)} (r:KT H kvs xs) (k:List Key) {b:Addr} {y:V} {u:Value} (hb:H b=some (.tup (k.map kV))) (ry:Ld y u) :
  KT H (Rk kvs k y) (storedH xs k b u):=by
 have e:(kvs.any fun kv=>decide (kv.1=k))=(atKey xs k).isSome:=by
  rw [Pm,(r.val k).isSome_eq,Option.isSome_map]
 unfold Rk storedH
 rw [e]
 by_cases q:(atKey xs k).isSome=true
 ·rw [if_pos q,if_pos q];exact r.repl k ry
 ·rw [if_neg q,if_neg q];exact Paired.snoc r ⟨rfl,hb,ry⟩
theorem KT.keeps {H H':Hp} {kvs:List (List Key × V)} {xs:List (List Key × Addr × Value)} (r:KT H kvs xs) (ht:∀ b ys,H b=some (.tup ys)→H' b=some (.tup ys)):KT H' kvs xs:=
 Paired.mapP r fun _ _ z=>⟨z.1,ht _ _ z.2.1,z.2.2⟩
section
variable {P:Program} {w:World} {H:Hp} {h:Heap} {a:Addr}
theorem wK {u:HO} (ok:HOk P w H h) (e:Rd H a u):zd P w H h a u:=e.ok ok
theorem JG {kvs:List (Key × V)} (ok:HOk P w H h) (e:Rd H a (.dK kvs)):kvs.length ≤ sizeLine∧(a == sysModules)=false∧∃ vs,KV kvs vs∧h.DictOf (Ce P w) a vs:=
 show zd P w H h a (.dK kvs) from wK ok e
theorem iL {kvs:List (Key × V)} (ok:HOk P w H h) (e:H a=some (.dK kvs)):kvs.length ≤ sizeLine∧(a == sysModules)=false∧∃ vs,KV kvs vs∧h.DictOf (Ce P w) a vs:=JG ok (.inl e)
theorem mv {ks:List Key} (ok:HOk P w H h) (e:H a=some (.tup (ks.map kV))):(tupleKind (Ce P w)).is h ks a:=by
 obtain ⟨_,its,r,o,h1,h2,n,h3⟩:=(show zd P w H h a (.tup (ks.map kV)) from ok a _ e)
 exact ⟨o,its.toArray,n,h1,h2,h3,by simpa using xw r⟩
theorem jH {kvs:List (List Key × V)} (ok:HOk P w H h) (e:Rd H a (.dT kvs)):kvs.length ≤ sizeLine∧(a == sysModules)=false ∧
  ∃ xs,KT H kvs xs∧h.DictOfH (tupleKind (Ce P w)) a xs:=by
 obtain ⟨z,y,xs,r,o,es,ep,h1,h2,h3,h4,h5⟩:=(show zd P w H h a (.dT kvs) from wK ok e)
 refine ⟨z,y,xs,r,o,es,ep,h1,h2,h3,h4,fun x hx=>?_,h5⟩
 have all:∀ {l:List (List Key × V)} {m:List (List Key × Addr × Value)},KT H l m→∀ x ∈ m,(tupleKind (Ce P w)).is h x.1 x.2.1:=by
  intro l m q
  induction q with
  | nil=>intro x hx;exact nomatch hx
  | @cons p q ps qs hq t ih=>
   intro x hx
   rcases List.mem_cons.mp hx with e | hx
   ·subst e
    exact mv ok (by rw [← hq.1];exact hq.2.1)
   ·exact ih x hx
 exact all r x hx
theorem mL {kvs:List (List Key × V)} (ok:HOk P w H h) (e:H a=some (.dT kvs)):kvs.length ≤ sizeLine∧(a == sysModules)=false ∧
  ∃ xs,KT H kvs xs∧h.DictOfH (tupleKind (Ce P w)) a xs:=jH ok (.inl e)
end
noncomputable def Nu (H:Hp) (a:Addr) (y:V) (r:Option V):Prop:=
 (∃ kvs k,Rd H a (.dK kvs)∧y=kV k∧r=wg kvs k)∨∃ kvs k b,Rd H a (.dT kvs)∧y=.ref b∧H b=some (.tup (k.map kV))∧r=wg kvs k
noncomputable def EE (H:Hp) (a:Addr) (y v:V) (H':Hp):Prop:=
 (∃ kvs k,H a=some (.dK kvs)∧y=kV k∧kvs.length < sizeLine∧H'=upd H a (.dK (Rk kvs k v))) ∨
 ∃ kvs k b,H a=some (.dT kvs)∧y=.ref b∧H b=some (.tup (k.map kV))∧kvs.length < sizeLine∧H'=upd H a (.dT (Rk kvs k v))
theorem Nu.k {H:Hp} {a:Addr} {kvs:List (Key × V)} {k:Key} (e:H a=some (.dK kvs)):Nu H a (kV k) (wg kvs k):=.inl ⟨kvs,k,.inl e,rfl,rfl⟩
theorem Nu.t {H:Hp} {a b:Addr} {kvs:List (List Key × V)} {k:List Key} (e:H a=some (.dT kvs)) (eb:H b=some (.tup (k.map kV))):Nu H a (.ref b) (wg kvs k):=.inr ⟨kvs,k,b,.inl e,rfl,eb,rfl⟩
theorem EE.k {H:Hp} {a:Addr} {kvs:List (Key × V)} {k:Key} {v:V} (e:H a=some (.dK kvs)) (hl:kvs.length < sizeLine):EE H a (kV k) v (upd H a (.dK (Rk kvs k v))):=.inl ⟨kvs,k,e,rfl,hl,rfl⟩
theorem EE.t {H:Hp} {a b:Addr} {kvs:List (List Key × V)} {k:List Key} {v:V} (e:H a=some (.dT kvs)) (eb:H b=some (.tup (k.map kV))) (hl:kvs.length < sizeLine) :
  EE H a (.ref b) v (upd H a (.dT (Rk kvs k v))):=.inr ⟨kvs,k,b,e,rfl,eb,hl,rfl⟩
section
variable {X:Cx} {pins:List (Addr × Obj)} {σ:St} {H:Hp} {s:Shared} {a:Addr} {y v:V} {u r:Value} {o:Option V} {A:Around} {E:Value→Shared→Prop}
theorem Inv.big (I:Inv X pins σ H s):sysModules < s.heap.objs.size:=by
 have h:mainGlobals < s.heap.objs.size:=(I.mod.glob.keeps I.bk).lt
 exact Nat.lt_trans (by decide) h
theorem DC {Q:Value→Shared→Prop} (hu:A.units + 1 < cLine) (I:Inv X pins σ H s) (g:Nu H a y (some v)) (ry:Ld y u) (h:∀ w' s',Inv X pins σ H s'→Ld v w'→Q w' s') :
  wpAny (model X.prog X.w) A (getItem (.ref a) u) Q E s:=by
 rcases g with ⟨kvs,k,e,ey,l⟩ | ⟨kvs,k,b,e,ey,eb,l⟩
 ·subst ey
  obtain ⟨z,hd,vs,rel,dd⟩:=JG I.hok e
  obtain ⟨w',hw,rw'⟩:=Wq.some_of (v:=v) (o:=valueAt vs k) (by rw [l];exact rel.val k)
  exact wpAny_getItem_of (bC ry) dd.mapOf hw (h w' _ (I.tok _) rw')
 ·subst ey
  cases (show u=Value.ref b from ry)
  obtain ⟨z,hd,xs,rel,dd⟩:=jH I.hok e
  obtain ⟨w',hw,rw'⟩:=Wq.some_of (v:=v) (o:=(atKey xs k).map (·.2)) (by rw [l];exact rel.val k)
  obtain ⟨p,hp,hp2⟩:=Option.map_eq_some_iff.mp hw
  refine wpAny_getItem_heap (tupleKind_room_in1 hu) (mv I.hok eb) dd hp ?_
  rw [hp2]
  exact h w' _ (I.tok _) rw'
theorem QI {Q:Value→Shared→Prop} (hu:A.units + 1 < cLine) (I:Inv X pins σ H s) (g:Nu H a y o) (ry:Ld y u) (h:∀ s',Inv X pins σ H s'→Q (.bool (!o.isSome)) s') :
  wpAny (model X.prog X.w) A (compareOp .NotIn u (.ref a)) Q E s:=by
 rcases g with ⟨kvs,k,e,ey,l⟩ | ⟨kvs,k,b,e,ey,eb,l⟩
 ·subst ey
  obtain ⟨z,hd,vs,rel,dd⟩:=JG I.hok e
  refine wpAny_notIn_of (bC ry) hd dd.mapOf ?_
  rw [← (rel.val k).isSome_eq,← l]
  exact h _ (I.tok _)
 ·subst ey
  cases (show u=Value.ref b from ry)
  obtain ⟨z,hd,xs,rel,dd⟩:=jH I.hok e
  refine wpAny_notIn_heap (tupleKind_room_in1 hu) (mv I.hok eb) hd dd ?_
  have q:=(rel.val k).isSome_eq
  rw [Option.isSome_map] at q
  rw [← q,← l]
  exact h _ (I.tok _)
theorem gy {h':Heap} {t':Nat} {ob:HO} (I:Inv X pins σ H s) (mu:Mut (H a)) (hs:Heap.SameBut a s.heap h') (he:∃ q,h'.get? a=some q) (new:zd X.prog X.w (upd H a ob) h' a ob) :
  Inv X pins σ (upd H a ob) { s with heap:=h',toks:=t' }:=
 I.write (x:=a) (e:=a) mu (.inl rfl) (fun b q hb z=>(hs.2 b hb).trans z) he new
theorem JH {P:Program} {w:World} {H':Hp} {h':Heap} {kvs:List (Key × V)} {vs:List (Key × Value)} (z:kvs.length ≤ sizeLine) (hd:(a == sysModules)=false) (rel:KV kvs vs) (dd:h'.DictOf (Ce P w) a vs) :
  zd P w H' h' a (.dK kvs):=⟨z,hd,vs,rel,dd⟩
theorem jv {H':Hp} {Q:Unit→Shared→Prop} (hu:A.units + 1 < cLine) (I:Inv X pins σ H s) (g:EE H a y v H') (ry:Ld y u) (rv:Ld v r) (h:∀ s',Inv X pins σ H' s'→Q () s') :
  wpAny (model X.prog X.w) A (setItem (.ref a) u r) Q E s:=by
 rcases g with ⟨kvs,k,e,ey,l,eH⟩ | ⟨kvs,k,b,e,ey,eb,l,eH⟩
 ·subst ey eH
  obtain ⟨z,hd,vs,rel,dd⟩:=iL I.hok e
  have hz:vs.length ≤ sizeLine:=by rw [← rel.length];exact z
  have hl:(Rk kvs k v).length ≤ sizeLine:=by have:=gm kvs k v;omega
  refine wpAny_setItem_pairs (hsz:=hz) (bC ry) dd fun h' dd' hs=>h _ ?_
  have he:∃ q,h'.get? a=some q:=let ⟨q,_,_,hq,_⟩:=dd';⟨q,hq⟩
  exact gy I (by rw [e];exact True.intro) hs he (JH hl hd (rel.put k rv) dd')
 ·subst ey eH
  cases (show u=Value.ref b from ry)
  obtain ⟨z,hd,xs,rel,dd⟩:=mL I.hok e
  have hz:xs.length ≤ sizeLine:=by rw [← Paired.length rel];exact z
  have hl:(Rk kvs k v).length ≤ sizeLine:=by have:=gm kvs k v;omega
  refine wpAny_setItem_heap (hsz:=hz) (tupleKind_room_in1 hu) (mv I.hok eb) dd fun h' dd' hs=>h _ ?_
  obtain ⟨q,es,ep,hq,h2,h3,h4,_,h5⟩:=dd'
  refine gy I (by rw [e];exact True.intro) hs ⟨q,hq⟩ ⟨hl,hd,_,(rel.put k eb rv).keeps fun c ys ec=>?_,q,es,ep,hq,h2,h3,h4,h5⟩
  rw [lb (Vd ec e (fun z=>nomatch z))]
  exact ec
end
section
variable {X:Cx} {pins:List (Addr × Obj)} {σ:St} {H:Hp} {s:Shared} {a:Addr} {kvs:List (Key × V)} {k:Key} {u:Value} {A:Around} {E:Value→Shared→Prop}
end
noncomputable def zM (i:Expr):Prop:=∀ ov iv,subscripted i false ov iv=operate [ov,iv] (getItem ov iv)
theorem tD {prog:Program} {w:World} {A:Around} {E:Value→Shared→Prop} {s:Shared} {env:Env} {value slice:Expr} {pos:Pos} {T id:String} {Q:Value→Shared→Prop}
  (hl:typeLookup (.type T) "__getitem__"=pure (some (.builtin id))) (hs:zM slice)
  (h:wpAny (model prog w) A (eval value env) (fun o s₁=>wpAny (model prog w) A (eval slice env) (fun i s₂=>s₂.TypeIs o T∧wpAny (model prog w) A (getItem o i) Q E s₂) E s₁) E s) :
  wpAny (model prog w) A (eval (.Subscript value slice pos) env) Q E s:=by
 refine Subscript_ (wpAny_mono h (fun o s₁ h₁=>wpAny_mono h₁ (fun i s₂ h₂=>?_) fun _ _ x=>x) fun _ _ x=>x)
 obtain ⟨hT,h₂⟩:=h₂
 unfold subscriptTail
 refine wpAny_bind ?_
 rw [getitemInPython_of_ne hT.not_modules]
 refine wpAny_bind (wpAny_specialOf hT hl ?_)
 have fin:wpAny (model prog w) A (subscripted slice false o i) (fun r s₃=>wpAny (model prog w) A (letTemporaryGo value o r >>= fun _=>pure r) Q E s₃) E s₂:=by
  rw [hs o i]
  exact wpAny_operating (wpAny_mono h₂ (fun r s₃ h₃=>wpAny_bind (wpAny_letTemporaryGo (wpAny_pure h₃))) fun _ _ x=>x)
 first
  | exact wpAny_pure (wpAny_bind fin)
  | exact wpAny_bind (wpAny_pure (wpAny_bind fin))
  | exact wpAny_bind fin
theorem wy {X:Cx} {pins:List (Addr × Obj)} {σ:St} {H:Hp} {s:Shared} {a:Addr} {y:V} {o:Option V} (I:Inv X pins σ H s) (g:Nu H a y o):s.TypeIs (.ref a) "dict" := by
 rcases g with ⟨kvs,k,e,_,_⟩ | ⟨kvs,k,b,e,_,_,_⟩
 ·obtain ⟨_,_,vs,_,dd⟩:=JG I.hok e
  exact dd.typeIs
 ·obtain ⟨_,_,xs,_,dd⟩:=jH I.hok e
  exact dd.typeIs
noncomputable def cM (td ty:TE):TE:=fun σ H Q=>td σ H fun x H1=>ty σ H1 fun y H2=>∃ a v,x=.ref a∧Nu H2 a y (some v)∧Q v H2
noncomputable def NB (ty td:TE):TE:=fun σ H Q=>ty σ H fun y H1=>td σ H1 fun x H2=>∃ a o,x=.ref a∧Nu H2 a y o∧Q (.bl (!o.isSome)) H2
noncomputable def kL (td ty tv:TE):TS:=fun D σ H=>tv σ H fun v H1=>td σ H1 fun x H2=>ty σ H2 fun y H3=>∃ a H4,x=.ref a∧EE H3 a y v H4∧D.nx σ H4
section
variable {X:Cx} {o i e value:Expr} {pos pos' tpos:Pos} {td ty tv:TE}
theorem Mu (hu:X.A.units + 1 < cLine) (ho:PE X o td) (hi:PE X i ty) (hs:zM i):PE X (.Subscript o i pos) (cM td ty):=by
 intro pins s σ H Q I h
 refine tD PySem.F.slot_dict_getitem.lookup hs (thn (ho pins s σ H _ I h) fun u s1 ⟨x,H1,I1,rx,q1⟩=>thn (hi pins s1 σ H1 _ I1 q1) fun iv s2 hZ1=>?_)
 obtain ⟨y,H2,I2,ry,a,v,ex,g,q2⟩:=hZ1
 subst ex
 obtain rfl:u=Value.ref a:=rx
 exact ⟨wy I2 g,DC hu I2 g ry fun w' s3 I3 rw'=>⟨v,H2,I3,rw',q2⟩⟩
theorem mw (hu:X.A.units + 1 < cLine) (hi:PE X i ty) (ho:PE X o td):PC X .NotIn i o (NB ty td):=by
 intro pins s σ H Q I h
 refine thn (hi pins s σ H _ I h) fun iv s1 ⟨y,H1,I1,ry,q1⟩=>thn (ho pins s1 σ H1 _ I1 q1) fun u s2 hZ1=>?_
 obtain ⟨x,H2,I2,rx,a,ov,ex,g,q2⟩:=hZ1
 subst ex
 obtain rfl:u=Value.ref a:=rx
 exact QI hu I2 g ry fun s3 I3=>⟨.bl (!ov.isSome),H2,I3,rfl,q2⟩
theorem IC (hu:X.A.units + 1 < cLine) (ho:PE X o td) (hi:PE X i ty) (hv:PE X value tv) (hs:swapsWith value (some (.Subscript o i pos')) pos.line X.env=pure false) :
  PS X (.Assign [.Subscript o i pos'] value pos) (kL td ty tv):=by
 intro pins s σ H D I h
 refine wpAny_Assign_Subscript (thn (hv pins s σ H _ I h) fun r s1 ⟨v,H1,I1,rv,q1⟩=>thn (ho pins s1 σ H1 _ I1 q1) fun u s2 ⟨x,H2,I2,rx,q2⟩=>thn (hi pins s2 σ H2 _ I2 q2) fun iv s3 hZ1=>?_) hs
 obtain ⟨y,H3,I3,ry,a,H4,ex,g,q3⟩:=hZ1
 subst ex
 obtain rfl:u=Value.ref a:=rx
 exact jv hu I3 g ry rv fun s4 I4=>⟨σ,H4,I4,q3⟩
end
theorem xz {P:Program} {w:World} {H:Hp} (h:Heap) (hb:sysModules < h.objs.size):zd P w H (h.push { cls:=.type "dict",data:=.dict #[] }) h.objs.size (.dK []):=
 ⟨Nat.zero_le _,beq_eq_false_iff_ne.mpr (Ne.symm (Nat.ne_of_lt hb)),[],.nil,Heap.DictOf.new h⟩
theorem sG {P:Program} {w:World} {H:Hp} (h:Heap) (hb:sysModules < h.objs.size):zd P w H (h.push { cls:=.type "dict",data:=.dict #[] }) h.objs.size (.dT []):=
 ⟨Nat.zero_le _,beq_eq_false_iff_ne.mpr (Ne.symm (Nat.ne_of_lt hb)),[],.nil,_,#[],0,Heap.get?_push_size _ rfl,⟨rfl,rfl,rfl⟩,rfl,rfl,List.nodup_nil⟩
noncomputable def YH:TE:=fun _ H Q=>∀ p,H p=none→Q (.ref p) (upd H p (.dK []))
noncomputable def UH:TE:=fun _ H Q=>∀ p,H p=none→Q (.ref p) (upd H p (.dT []))
section
variable {X:Cx} {pos:Pos}
theorem cz:PE X (.Dict [] [] pos) YH:=fun pins s σ H Q I h=>
 wpAny_Dict_empty ⟨.ref s.heap.objs.size,_,I.laid (a:=s.heap.objs.size) (o:=.dK []) (t':=s.toks) (fun _ _ q=>Heap.get?_push_of_some _ q) (Nat.le_refl _) (xz s.heap I.big),rfl,h _ (I.hok.fresh (Nat.le_refl _))⟩
theorem EF:PE X (.Dict [] [] pos) UH:=fun pins s σ H Q I h=>
 wpAny_Dict_empty ⟨.ref s.heap.objs.size,_,I.laid (a:=s.heap.objs.size) (o:=.dT []) (t':=s.toks) (fun _ _ q=>Heap.get?_push_of_some _ q) (Nat.le_refl _) (sG s.heap I.big),rfl,h _ (I.hok.fresh (Nat.le_refl _))⟩
end
noncomputable def As:List (TE × TE)→St→Hp→(List (V × V)→Hp→Prop)→Prop
 | [],_,H,Q=>Q [] H
 | (tk,tv) :: r,σ,H,Q=>tk σ H fun x H1=>tv σ H1 fun y H2=>As r σ H2 fun ps H3=>Q ((x,y) :: ps) H3
noncomputable abbrev VV:List (V × V)→List (Value × Value)→Prop:=Paired fun p q=>Ld p.1 q.1∧Ld p.2 q.2
noncomputable def PPs (X:Cx) (pos:Pos) (keys:List (Option Expr)) (values:List Expr) (trs:List (TE × TE)):Prop:=
 ∀ (pins:List (Addr × Obj)) (s:Shared) (σ:St) (H:Hp) (Q:List (V × V)→Hp→Prop),Inv X pins σ H s→As trs σ H Q →
  wpAny (model X.prog X.w) X.A (evalPairs (pairTrees keys values X.env pos)) (fun vs s'=>∃ ps H',Inv X pins σ H' s'∧VV ps vs∧Q ps H') X.xe s
theorem BE {X:Cx} {pos:Pos}:PPs X pos [] [] []:=fun pins s σ H Q I h=>pairTrees_nil_walk ⟨[],H,I,.nil,h⟩
theorem Jk {X:Cx} {pos:Pos} {k v:Expr} {ks:List (Option Expr)} {vs:List Expr} {tk tv:TE} {trs:List (TE × TE)} (hk:PE X k tk) (hv:PE X v tv) (hr:PPs X pos ks vs trs) :
  PPs X pos (some k :: ks) (v :: vs) ((tk,tv) :: trs):=fun pins s σ H Q I h=>
 pairTrees_cons_walk (thn (hk pins s σ H _ I h) fun u s1 ⟨x,H1,I1,rx,q1⟩=>thn (hv pins s1 σ H1 _ I1 q1) fun w2 s2 ⟨y,H2,I2,ry,q2⟩=>
  thn (hr pins s2 σ H2 _ I2 q2) fun ws s3 ⟨ps,H3,I3,rel,q3⟩=>⟨(x,y) :: ps,H3,I3,.cons ⟨rx,ry⟩ rel,q3⟩)
noncomputable def Lh (kvs more:List (Key × V)):List (Key × V):=more.foldl (fun acc kv=>Rk acc kv.1 kv.2) kvs
theorem KV.merge:∀ {more:List (Key × V)} {rs:List (Key × Value)} {kvs:List (Key × V)} {vs:List (Key × Value)},KV more rs→KV kvs vs→KV (Lh kvs more) (merged vs rs):=by
 intro more rs kvs vs r
 unfold KV at r
 induction r generalizing kvs vs with
 | nil=>intro q;exact q
 | @cons p q ps qs h t ih=>
  intro r0
  have e:KV (Rk kvs p.1 p.2) (stored vs q.1 q.2):=by
   have:=r0.put p.1 h.2
   rw [← h.1];exact this
  exact ih e
theorem Gm:∀ (more kvs:List (Key × V)),(Lh kvs more).length ≤ kvs.length + more.length
 | [],kvs=>by show kvs.length ≤ kvs.length + 0;omega
 | p :: r,kvs=>by
  have h1:=Gm r (Rk kvs p.1 p.2)
  have h2:=gm kvs p.1 p.2
  show (Lh (Rk kvs p.1 p.2) r).length ≤ _
  rw [List.length_cons];omega
theorem Os {P:Program} {w:World}:∀ {kvs:List (Key × V)} {ws:List (Value × Value)},VV (kvs.map fun kv=>(kV kv.1,kv.2)) ws→∃ rs,Carries (Ce P w) ws rs∧KV kvs rs
 | [],_,r=>by rw [List.map_nil] at r;cases r;exact ⟨[],True.intro,.nil⟩
 | p :: kvs,_,r=>by
  rw [List.map_cons] at r
  cases r with
  | @cons a b as bs h t=>
   obtain ⟨rs,c,q⟩:=Os (P:=P) (w:=w) t
   obtain ⟨b1,b2⟩:=b
   exact ⟨(p.1,b2) :: rs,⟨bC h.1,rfl,c⟩,.cons ⟨rfl,h.2⟩ q⟩
noncomputable def bM (trs:List (TE × TE)):TE:=fun σ H Q=>∀ p,H p=none→As trs σ (upd H p (.dK [])) fun ps H2=>H2 p=some (.dK [])∧∃ kvs:List (Key × V),ps=kvs.map (fun kv=>(kV kv.1,kv.2))∧kvs.length ≤ 15∧Q (.ref p) (upd H2 p (.dK (Lh [] kvs)))
theorem CD {X:Cx} {pos:Pos} {keys:List (Option Expr)} {values:List Expr} {trs:List (TE × TE)} (h:PPs X pos keys values trs) (hall:keys.all (·.isSome)=true) (hl:keys.length=values.length) (h0:keys ≠ [])
  (h15:keys.length ≤ 15):PE X (.Dict keys values pos) (bM trs):=by
 intro pins s σ H Q I q
 have hn:=I.hok.fresh (Nat.le_refl s.heap.objs.size)
 have I1:=I.laid (a:=s.heap.objs.size) (o:=.dK []) (h':=s.heap.push { cls:=.type "dict",data:=.dict #[] }) (t':=s.toks) (fun _ _ q=>Heap.get?_push_of_some _ q) (Nat.le_refl _) (xz s.heap I.big)
 refine wpAny_Dict_walk (knd:=Ce X.prog X.w) hall hl h0 h15 (thn (h pins _ σ _ _ I1 (q _ hn)) fun ws s2 hZ1=>?_)
 obtain ⟨ps,H2,I2,rel,e,kvs,ep,lk,q2⟩:=hZ1
 subst ep
 obtain ⟨rs,c,rk⟩:=Os (P:=X.prog) (w:=X.w) rel
 obtain ⟨z,hd,vs0,r0,dd⟩:=iL I2.hok e
 cases r0
 refine ⟨rs,c,dd,fun h' dd' hs=>⟨.ref s.heap.objs.size,_,?_,rfl,q2⟩⟩
 have hz:(Lh [] kvs).length ≤ sizeLine:=by
  have h1:=Gm kvs []
  rw [List.length_nil] at h1
  rw [sizeLine_eq];omega
 have he:∃ q,h'.get? s.heap.objs.size=some q:=let ⟨q,_,_,hq,_⟩:=dd';⟨q,hq⟩
 exact gy I2 (by rw [e];exact True.intro) hs he (JH hz hd (rk.merge .nil) dd')
structure M1 (X:Cx) (o:Expr) (m:Str) (apos:Pos) (e:Expr) (cpos:Pos):Prop where
 base:attributeBase o m X.env (eval o X.env)=eval o X.env
 few:((backTo cpos (starEach [e] X.env)).all (fun x=>!x.1) && (backToKw cpos (keywordEach [] X.env)).all (fun x=>x.1.isSome)
  && decide (([e]:List Expr).length + ([]:List Keyword).length + (if ([]:List Keyword).isEmpty then 0 else 1) < 30))=true
 line:(apos.endLine == cpos.line)=true
 trees:backTo cpos (starEach [e] X.env)=[(false,eval e X.env)]
structure M2 (X:Cx) (o:Expr) (m:Str) (apos:Pos) (e f:Expr) (cpos:Pos):Prop where
 base:attributeBase o m X.env (eval o X.env)=eval o X.env
 few:((backTo cpos (starEach [e,f] X.env)).all (fun x=>!x.1) && (backToKw cpos (keywordEach [] X.env)).all (fun x=>x.1.isSome)
  && decide (([e,f]:List Expr).length + ([]:List Keyword).length + (if ([]:List Keyword).isEmpty then 0 else 1) < 30))=true
 line:(apos.endLine == cpos.line)=true
 trees:backTo cpos (starEach [e,f] X.env)=[(false,eval e X.env),(false,eval f X.env)]
section
variable {X:Cx} {pins:List (Addr × Obj)} {σ:St} {H:Hp} {s:Shared} {a:Addr} {y d:V} {u r:Value} {o:Option V} {A:Around} {E:Value→Shared→Prop}
end
section
variable {X:Cx} {o e f:Expr} {apos cpos:Pos} {td ty tx:TE}
end
section
variable {X:Cx} {pins:List (Addr × Obj)} {σ:St} {H:Hp} {s:Shared} {a:Addr} {kvs:List (Key × V)} {A:Around} {E:Value→Shared→Prop}
end
section
variable {X:Cx} {pins:List (Addr × Obj)} {σ:St} {H:Hp} {s:Shared} {a:Addr} {y:V} {u:Value} {A:Around} {E:Value→Shared→Prop}
end
end L2
namespace Att
open PySem PySem.W PySem.Calls PyProof.Rows
theorem oq {P:Params} {h:Heap}:∀ (ns:List Int) (vs:List Value),WellAll P h vs (ns.map WData.int)→IntsAre vs ns:=by
 intro ns
 induction ns with
 | nil=>
  intro vs w
  rw [List.map_nil] at w
  cases w
  exact .nil
 | cons n ns ih=>
  intro vs w
  rw [List.map_cons] at w
  cases w with
  | cons a b=>
   cases a
   exact .cons _ _ (ih _ b)
theorem WC {l:OpenLaw} {n:Nat} (hn:l.most=some n) {P:Params} {h:Heap} {args:List WData} {vals:List Value}
  (hpre:l.row.toRowW.claim.pre args=true) (hwl:WellAll P h vals args) :
  ∃ a vs ns,vals=[Value.ref a]∧args=[WData.list (ns.map WData.int)]∧h.get? a=some { cls:=.type "list",data:=.seq vs.toArray }∧IntsAre vs ns∧ns.length ≤ n:=by
 have hsh:WShape.hasAll [] args [.list .int]=true:=(pre_splitW hpre).1
 have hc:l.pre.holds [] { args:=args }=true:=(pre_splitW hpre).2
 obtain ⟨d,r,rfl,h1,h2⟩:=hasAllW_cons hsh
 obtain rfl:=hasAllW_nil h2
 obtain ⟨xs,rfl,h3⟩:=hasW_list h1
 obtain ⟨ns,rfl⟩:=items_int h3
 have hlen:ns.length ≤ n:=by
  unfold OpenLaw.pre at hc
  have h4:(WTm.not (.lt (.lit (.int (n:Int))) (.len (.arg 0)))).holds [] { args:=[.list (ns.map .int)] }=true:=by
   have h4:=(holds_andW hc).1
   rw [hn] at h4
   exact h4
  have h5:=condW_of h4 (w_not (w_lt w_lit (w_len_list (w_arg rfl))))
  rw [List.length_map] at h5
  refine Nat.le_of_not_lt fun q=>?_
  have q':(n:Int) < ((ns.length:Nat):Int):=by omega
  first
   | (rw [decide_eq_true q'] at h5;exact absurd h5 (by decide))
   | (simp at h5;omega)
 cases hwl with
 | cons w1 w2=>
  cases w2
  cases w1 with
  | list ho hall=>exact ⟨_,_,ns,rfl,rfl,ho,oq ns _ hall,hlen⟩
theorem UB (l:OpenLaw) (args:List WData):l.row.toRowW.claim.post args (.bool true) args=true:=
 postW_of (r:=l.row.toRowW) (X:=(true == true))
  (show WShape.has [] (.bool true) .bool=true by first | rfl | decide | simp [WShape.has,WShape.arms,WShape.armsAll])
  (show (WTm.eq .res (.lit (.bool true))).value [] { args:=args,res:=some (.bool true),after:=args }=some (.bool (true == true)) from w_eq_bool (w_res rfl) w_lit) rfl
theorem attach_call {l:OpenLaw} {n:Nat} {q:Program} {loose:List Str} {XP:(Str→Option Value)→Heap→Prop} {YP:World→Heap→Prop} {d:DefRec}
  (hn:l.most=some n) (hdf:d.params.defaults=[])
  (call:∀ (w:World) (s₀ s₁:Shared) (mg mb:Str→Option Value) (fa:Addr) (o:Obj) (pm cd doc:Value) (a:Addr) (vs:List Value) (ns:List Int),
   Ground q loose [] XP w s₀ mg mb s₁.heap→YP w s₁.heap →
   s₁.heap.get? fa=some o→o.data=.func (docDef d.name d.params d.body d.scope pm cd doc)→s₁.heap.CodeRec cd d.name→mg d.name=some (.ref fa) →
   s₁.heap.get? a=some { cls:=.type "list",data:=.seq vs.toArray }→IntsAre vs ns→ns.length ≤ n→s₁.gens=#[] →
   codeAny (model l.prog w) callerA (.call (.ref fa) ⟨[.ref a],[]⟩) (fun r s'=>r=.ok (.ret (.bool true))∧OldK s₁.heap s'.heap∧s'.os=s₁.os∧AllBare s'.gens) s₁) :
  WalkO q loose XP YP l.row.toRowW d [] (fun f vs=>PySem.call f vs):=by
 intro w s₀ s₁ mg mb G Y fa o pm cd doc dV kV ho hd hcd hD hmg hg args vals as hpre hlay hrd hwl hlo
 obtain rfl:dV=.none:=Dflts.none hD hdf
 obtain rfl:kV=.none:=Dflts.noKw hD
 obtain ⟨a,vs,ns,rfl,rfl,hobj,hints,hlen⟩:=WC hn hpre hwl
 refine enter_call (codeAny_mono (call w s₀ s₁ mg mb fa o pm cd doc a vs ns G Y ho (fd_plain hd) hcd hmg hobj hints hlen hg) fun r s' hq=>?_)
 obtain ⟨rfl,h2,h3,h4⟩:=hq
 exact ⟨.inl ⟨.bool true,.bool true,[],rfl,fun _=>rfl,.bool true,UB l _,fun _=>⟨List.Pairwise.nil,fun _ hm=>(nomatch hm)⟩⟩,h2,h3,h4⟩
section
variable {prog:Program} {w:World} {A:Around} {E:Value→Shared→Prop} {s:Shared} {K:Frag}
end
end Att
namespace L2
open PySem PySem.Spec PyProof.Rows
theorem fw:∀ {vs:List Value} {ns:List Int},IntsAre vs ns→Qd (ns.map V.int) vs
 | _,_,.nil=>.nil
 | _,_,.cons n t h=>.cons ⟨t,rfl⟩ (fw h)
noncomputable def UK (H:Hp):Prop:=∀ b,H b=none∨∃ o xs,H b=some (.frz o (.lst xs))
theorem jF {P:Program} {w:World} {K:PySem.W.Frag} {mg mb:Str→Option Value} {CX:CXT} {k:Nat} {fa a:Addr} {fd:FuncData} {x:Str} {sp:Sp} {s₁:Shared} {vs:List Value} {ns:List Int}
  (KX:K.In s₁.heap) (hns:s₁.heap.Ns mainGlobals mg) (hb:s₁.heap.Ns builtinsNs mb) (hbb:∀ x:Str,x ≠ "__name__" → mb x=bootBuiltins x) (hlim:s₁.heap.NoLimit) (hg:s₁.gens=#[])
  (ha:s₁.heap.get? a=some { cls:=.type "list",data:=.seq vs.toArray }) (hi:IntsAre vs ns) (hl:ns.length ≤ sizeLine) (hr:Aj k callerA)
  (F:∀ base:Heap,K.In base→base.Ns mainGlobals mg→Jb P w K mg base CX k fa fd [x] sp) (hbind:∀ (s:Shared) (u:Value),BindsTo s fd ⟨[u],[]⟩ [(x,u)])
  (hsp:∀ H:Hp,UK H→SqL K H a (ns.map V.int)→sp [.ref a] H (fun v _=>v=.bl true) fun _ _ _=>False)
  (hCX:∀ H e s',CX [] H s₁ (fun _ _ _=>False) e s'→False) :
  codeAny (model P w) callerA (.call (.ref fa) ⟨[.ref a],[]⟩) (fun r s'=>r=.ok (.ret (.bool true))∧OldK s₁.heap s'.heap∧s'.os=s₁.os∧AllBare s'.gens) s₁:=by
 have rv:=fw hi
 have lenV:=hi.length
 -- from an abstract heap in which nothing but the script may be tracked
 have core:∀ H:Hp,UK H→SqL K H a (ns.map V.int)→HOk P w H s₁.heap→(∀ b,H b ≠ none→b=a)→(H a ≠ none→K.lookup a=none) →
   codeAny (model P w) callerA (.call (.ref fa) ⟨[.ref a],[]⟩) (fun r s'=>r=.ok (.ret (.bool true))∧OldK s₁.heap s'.heap∧s'.os=s₁.os∧AllBare s'.gens) s₁:=by
  intro H hO hS hok hA hK
  have base_of:∀ {b:Addr} {o:Obj},s₁.heap.get? b=some o→H b=none→(xF s₁.heap H).get? b=some o:=fun e n=>pG e n
  have noA:∀ {b:Addr} {o:Obj} {es:Array DictEntry} {ep:Nat},s₁.heap.get? b=some o→o.data=.dict es ep→H b=none:=fun {b o es ep} e d=>by
   cases q:H b with
   | none=>rfl
   | some u=>
    have e':b=a:=hA b (by rw [q];simp)
    subst e'
    rw [ha] at e;cases e
    have d':Data.seq vs.toArray _=Data.dict es ep:=d
    cases d'
  have nsK:∀ {b:Addr} {m:Str→Option Value},s₁.heap.Ns b m→(xF s₁.heap H).Ns b m:=fun {b m} ⟨o,es,ep,e,d,r⟩=>⟨o,es,ep,base_of e (noA e d),d,r⟩
  have hKb:K.In (xF s₁.heap H):=fun b o e=>base_of (KX b o e) (by
   cases q:H b with
   | none=>rfl
   | some u=>
    have e':b=a:=hA b (by rw [q];simp)
    subst e'
    rw [hK (by rw [q];simp)] at e;cases e)
  have hM:Mod K mg (xF s₁.heap H):=⟨hKb,nsK hns,⟨mb,nsK hb,hbb⟩,let ⟨mc,h1,h2⟩:=hlim;⟨mc,nsK h1,h2⟩⟩
  have e0:uC P w K mg (xF s₁.heap H) callerA [] s₁ H:=⟨rfl,hM,fun b o e=>KJ e,Nat.le_of_eq (ID _ _),trivial,fun b hb=>absurd (show b ∈ ([]:List Addr) from hb) (by simp),hok,.of_eq hg⟩
  refine codeAny_mono ((F _ hKb (nsK hns)).run callerA [] s₁ H ⟨[.ref a],[]⟩ [.ref a] [.ref a] _ _ hr e0 (hbind s₁ (.ref a)) (.cons rfl .nil) (hsp H hO hS)) fun r s' h=>?_
  cases r with
  | error e=>exact (hCX H e s' h).elim
  | ok fl=>
   cases fl with
   | next=>exact False.elim h
   | brk=>exact False.elim h
   | cont=>exact False.elim h
   | ret u=>
    obtain ⟨v,H',os,bare,un,hok',r',q⟩:=h
    have q':v=.bl true:=q
    subst q'
    obtain rfl:u=Value.bool true:=r'
    refine ⟨rfl,OldK.of_keep fun b o e=>?_,os,bare⟩
    cases q:H b with
    | none=>exact un.keep b o e q (by intro z;exact absurd (show b ∈ ([]:List Addr) from z) (by simp)) (by simp)
    | some u=>
     rcases hO b with z | ⟨ob,xs,z⟩
     ·rw [q] at z;cases z
     ·have z2:=un.frzs b ob _ z
      obtain ⟨e1,_⟩:=hok b _ z
      obtain ⟨e2,_⟩:=hok' b _ z2
      rw [e] at e1;cases e1
      exact e2
 cases hk:K.lookup a with
 | some o=>
  -- the script is one of the module's own objects
  have e:=KX a o hk
  rw [ha] at e
  cases e
  refine core (fun _=>none) (fun _=>.inl rfl) (.inr ⟨_,vs.toArray,_,hk,rfl,rfl,rfl,by rw [List.size_toArray,lenV];exact hl,by simpa using rv⟩) (fun b u z=>by have z':(none:Option HO)=some u:=z;cases z') (fun b z=>absurd rfl z) fun z=>absurd rfl z
 | none=>
  refine core (fun b=>if b=a then some (.frz { cls:=.type "list",data:=.seq vs.toArray } (.lst (ns.map V.int))) else none) (fun b=>?_) (.inl (.inr ⟨{ cls:=.type "list",data:=.seq vs.toArray },if_pos rfl⟩)) (fun b u z=>?_) (fun b z=>?_) fun _=>hk
  ·by_cases hb:b=a
   ·exact .inr ⟨_,_,if_pos hb⟩
   ·exact .inl (if_neg hb)
  ·by_cases hb:b=a
   ·have z':=(if_pos hb).symm.trans z
    cases z'
    subst hb
    exact ⟨ha,by rw [List.length_map];exact hl,vs,_,rv,ha⟩
   ·have z':=(if_neg hb).symm.trans z
    cases z'
  ·by_cases hb:b=a
   ·exact hb
   ·exact absurd (if_neg hb) z
end L2
namespace L2
open PySem PySem.Spec PyProof.Rows
noncomputable abbrev KOf {K:PySem.W.Frag} {h:Heap} (_:K.In h):PySem.W.Frag:=K
theorem yJ {l:PySem.W.OpenLaw} {n k:Nat} {q:Program} {loose:List Str} {XP:(Str→Option Value)→Heap→Prop} {YP:World→Heap→Prop} {d:DefRec} {K:Params→PySem.W.Frag} {CX:World→CXT} {sp:World→Sp} {x:Str}
  (hn:l.most=some n) (hn2:n ≤ sizeLine) (hdf:d.params.defaults=[]) (hr:Aj k callerA)
  (hY:∀ (w:World) (h:Heap),YP w h→(K w.params).In h)
  (F:∀ (w:World) (mg:Str→Option Value) (fa:Addr) (h:Heap),(K w.params).In h→h.Ns mainGlobals mg→mg d.name=some (.ref fa) →
   ∃ fd:FuncData,(∀ (s:Shared) (u:Value),BindsTo s fd ⟨[u],[]⟩ [(x,u)]) ∧
    ∀ base:Heap,(K w.params).In base→base.Ns mainGlobals mg→Jb l.prog w (K w.params) mg base (CX w) k fa fd [x] (sp w))
  (hsp:∀ (w:World) (H:Hp) (a:Addr) (ns:List Int),ns.length ≤ n→UK H→SqL (K w.params) H a (ns.map V.int)→sp w [.ref a] H (fun v _=>v=.bl true) fun _ _ _=>False)
  (hCX:∀ (w:World) (H:Hp) (s:Shared) (e:Value) (s':Shared),CX w [] H s (fun _ _ _=>False) e s'→False) :
  PySem.W.WalkO q loose XP YP l.row.toRowW d [] (fun f vs=>PySem.call f vs):=by
 refine Att.attach_call hn hdf fun w s₀ s₁ mg mb fa o pm cd doc a vs ns G Y ho hd hcd hmg hobj hints hlen hg=>?_
 have KX:=hY w _ Y
 obtain ⟨fd,hb,hF⟩:=F w mg fa _ KX G.T.g hmg
 exact jF KX G.T.g G.T.b G.T.builtins G.T.nolimit hg hobj hints (Nat.le_trans hlen hn2) hr hF hb (fun H hO hS=>hsp w H a ns hlen hO hS) fun H e s'=>hCX w H s₁ e s'
theorem DF {l:PySem.W.OpenLaw} {n k:Nat} {q:Program} {loose:List Str} {XP:(Str→Option Value)→Heap→Prop} {YP:World→Heap→Prop} {d:DefRec} {K:Params→PySem.W.Frag} {CX:CXT} {sp:PySem.W.Frag→Sp} {x:Str}
  (hn:l.most=some n) (hn2:n ≤ sizeLine) (hdf:d.params.defaults=[]) (hr:Aj k callerA)
  (hY:∀ (w:World) (h:Heap),YP w h→(K w.params).In h)
  (F:∀ (w:World) (mg:Str→Option Value) (fa:Addr) (h:Heap),(K w.params).In h→h.Ns mainGlobals mg→mg d.name=some (.ref fa) →
   ∃ fd:FuncData,(∀ (s:Shared) (u:Value),BindsTo s fd ⟨[u],[]⟩ [(x,u)]) ∧
    ∀ base:Heap,(K w.params).In base→base.Ns mainGlobals mg→Jb l.prog w (K w.params) mg base CX k fa fd [x] (sp (K w.params)))
  (hsp:∀ (K:PySem.W.Frag) (H:Hp) (a:Addr) (ns:List Int),ns.length ≤ n→UK H→SqL K H a (ns.map V.int)→sp K [.ref a] H (fun v _=>v=.bl true) fun _ _ _=>False)
  (hCX:∀ (H:Hp) (s:Shared) (e:Value) (s':Shared),CX [] H s (fun _ _ _=>False) e s'→False) :
  PySem.W.WalkO q loose XP YP l.row.toRowW d [] (fun f vs=>PySem.call f vs):=
 yJ (K:=K) (CX:=fun _=>CX) (sp:=fun w=>sp (K w.params)) hn hn2 hdf hr hY F (fun w H a ns h1 h2 h3=>hsp (K w.params) H a ns h1 h2 h3) fun _ H s e s'=>hCX H s e s'
end L2
namespace L2
open PySem PySem.Spec PyProof.Rows
noncomputable def Rc (s:Stmt) (j:Nat):Stmt:=match s with
 | .ClassDef _ _ _ body _ _ _ _ _ _ _=>body.getD j (.Pass ⟨0,0,0,0⟩)
 | _=>.Pass ⟨0,0,0,0⟩
noncomputable def eu (s:Stmt):Arguments:=match s with
 | .FunctionDef _ a _ _ _ _ _ _ _ _=>a
 | _=>{ posonlyargs:=[],args:=[],vararg:=none,kwonlyargs:=[],kw_defaults:=[],kwarg:=none,defaults:=[] }
noncomputable def Ln (s:Stmt):List Stmt:=match s with
 | .FunctionDef _ _ b _ _ _ _ _ _ _=>b
 | _=>[]
noncomputable def qb (s:Stmt):Scope:=match s with
 | .FunctionDef _ _ _ _ _ _ sc _ _ _=>sc
 | _=>{ kind:=.function,names:=[],isGenerator:=false,isCoroutine:=false }
noncomputable abbrev CX0:CXT:=fun _ _ _ _ _ _=>False
noncomputable abbrev E0:XK:=fun _ _ _=>False
theorem Db {X:Cx}:Hl CX0 X E0:=fun _ _ _ _ _ _ _ h=>h.elim
structure Fun (K:PySem.W.Frag) (x qual:Str) (st:Stmt) (f:Addr) (fd:FuncData):Prop where
 ex:∃ (oc:Value) (od:Option Addr) (kV doc pm:Value) (an:Option Addr) (cdv ct:Value) (osl:Array (Option Value)),
  fd=PySem.W.fnOf x qual (eu st) (Ln st) (qb st) .none kV doc pm an cdv ct∧K.lookup f=some ⟨oc,od,.func fd,osl⟩∧PySem.W.codeIn K cdv qual=true
 kp:PySem.W.keepIn K (.ref f)=true
section
variable {P:Program} {w:World} {K:PySem.W.Frag} {mg:Str→Option Value} {base:Heap}
theorem Fun.ok {x qual:Str} {st:Stmt} {f:Addr} {fd:FuncData} {N ps:List Str} {k:Nat} {sp:Sp} (F:Fun K x qual st f fd) (S:yb N ps (qb st)) (len:∀ vs H Q E,sp vs H Q E→vs.length=ps.length)
  (hbody:∀ (cdv:Value) (A:Around) (outer:List Env) (s:Shared) (H:Hp) (vs:List V) (Q:VK) (E:XK),Aj k (A.deeper (envOfC qual (qb st) s.heap.objs.size f cdv))→sp vs H Q E →
   ∃ t,PSs (uD CX0 P w K mg base N qual (qb st) f cdv A outer s H E).nox (Ln st) t∧t { nx:=fun _ H'=>Q .non H',rt:=Q } (start N vs) H):Jb P w K mg base CX0 (k + 1) f fd ps sp:=by
 obtain ⟨oc,od,kV,doc,pm,an,cdv,ct,osl,rfl,lk,hcd⟩:=F.ex
 refine EL lk hcd S len fun A outer s H vs Q E hr hsp=>?_
 obtain ⟨t,h,q⟩:=hbody cdv A outer s H vs Q E hr hsp
 exact ⟨t,h.nox,q⟩
theorem Fun.binds {x qual:Str} {st:Stmt} {f:Addr} {fd:FuncData} {ps:List Str} (F:Fun K x qual st f fd)
  (h:∀ (kV doc pm:Value) (an:Option Addr) (cdv ct:Value) (us:List Value),us.length=ps.length→bindArgs (PySem.W.fnOf x qual (eu st) (Ln st) (qb st) .none kV doc pm an cdv ct) ⟨us,[]⟩=pure (ps.zip us)):Yb K fd ps []:=by
 obtain ⟨oc,od,kV,doc,pm,an,cdv,ct,osl,rfl,lk,hcd⟩:=F.ex
 exact .all (h kV doc pm an cdv ct)
theorem uL {x qual:Str} {st:Stmt} {f:Addr} {oc:Value} {od an:Option Addr} {osl:Array (Option Value)} {kV doc pm cdv ct:Value} (l:K.lookup f=some ⟨oc,od,.func (PySem.W.fnOf x qual (eu st) (Ln st) (qb st) .none kV doc pm an cdv ct),osl⟩)
  (c:PySem.W.codeIn K cdv qual=true) (k:PySem.W.keepIn K (.ref f)=true):Fun K x qual st f (PySem.W.fnOf x qual (eu st) (Ln st) (qb st) .none kV doc pm an cdv ct):=⟨⟨oc,od,kV,doc,pm,an,cdv,ct,osl,rfl,l,c⟩,k⟩
end
theorem Zp {A:Around} {k:Nat} (hr:Aj k A):A.units + 1 < cLine:=Nat.lt_of_le_of_lt (Nat.add_le_add_left (by decide:1 ≤ 64) _) hr.units
section
variable {X:Cx}
theorem pv (i:Nat) {x:Str} {pos:Pos} (hN:X.N[i]? = some x:=by rfl) (hv:Vis X.env.scope x:=by first | exact Or.inl rfl | exact Or.inr (Or.inl rfl) | exact Or.inr (Or.inr rfl)) (hd:(x == ("__debug__" : Str))=false:=by decide)
  (hcd:(x == ("__classdict__" : Str))=false:=by decide):PE X (.Name x pos) (NM i):=VL hN hv hd hcd
end
noncomputable def Vb (H H':Hp):Prop:=∀ b o,H b=some o→H' b=some o
theorem Vb.refl (H:Hp):Vb H H:=fun _ _ h=>h
theorem Vb.trans {H H1 H2:Hp} (a:Vb H H1) (b:Vb H1 H2):Vb H H2:=fun c o h=>b c o (a c o h)
theorem Vb.free {H H':Hp} (e:Vb H H') {l:Addr} (h:H' l=Option.none):H l=Option.none:=by
 cases q:H l with
 | none=>rfl
 | some o=>
  rw [e l o q] at h
  cases h
theorem Vb.seq {K:PySem.W.Frag} {H H':Hp} {a:Addr} {xs:List V} (e:Vb H H') (h:SqL K H a xs):SqL K H' a xs:=by
 rcases h with (h | ⟨o,h⟩) | h
 ·exact .inl (.inl (e _ _ h))
 ·exact .inl (.inr ⟨o,e _ _ h⟩)
 ·exact .inr h
section
variable {κ:Type} [DecidableEq κ]
end
end L2
set_option maxHeartbeats 4000000
namespace L2
open PySem PySem.Spec PyProof.Rows
noncomputable def Xu (cells:List (Str × Addr)):List (Str × NameKind)→List (Str × Addr)→List (Str × Addr)
 | [],acc=>acc
 | (n,k) :: r,acc=>if k == .free then (match cells.lookup n with | some c=>Xu cells r ((n,c) :: acc) | none=>Xu cells r acc) else Xu cells r acc
theorem ux {env:Env}:∀ (names:List (Str × NameKind)) (acc:List (Str × Addr)),(∀ y ∈ names,y.2=.free→∃ c,env.cells.lookup y.1=some c) →
  (forIn names acc (fun (x:Str × NameKind) (cs:List (Str × Addr))=>(if (x.2 == .free)=true then do let a ← cellOf env x.1;pure (ForInStep.yield ((x.1,a) :: cs)) else pure (ForInStep.yield cs):Sem (ForInStep (List (Str × Addr))))))=pure (Xu env.cells names acc)
 | [],acc,_=>rfl
 | (n,k) :: r,acc,h=>by
  have hr:∀ y ∈ r,y.2=.free→∃ c,env.cells.lookup y.1=some c:=fun y hy=>h y (List.mem_cons_of_mem _ hy)
  rw [List.forIn_cons]
  by_cases hk:(k == NameKind.free)=true
  ·have e:k=.free:=by simpa using hk
   obtain ⟨c,hc⟩:=h (n,k) List.mem_cons_self e
   have hc':env.cells.lookup n=some c:=hc
   simp only [Xu,hk,if_true,hc',cellOf]
   exact ux r _ hr
  ·simp only [Xu,hk]
   exact ux r _ hr
theorem uE {scope:Scope} {env:Env} (h:∀ y ∈ scope.names,y.2=.free→∃ c,env.cells.lookup y.1=some c):closureFor scope env=pure (Xu env.cells scope.names []):=by
 unfold closureFor
 exact congrArg (fun t=>t >>= pure) (ux scope.names [] h)
theorem So {cells:List (Str × Addr)}:∀ (names:List (Str × NameKind)) (acc:List (Str × Addr)) {x:Str} {c:Addr},(Xu cells names acc).lookup x=some c→acc.lookup x=some c∨cells.lookup x=some c
 | [],acc,x,c,h=>.inl h
 | (n,k) :: r,acc,x,c,h=>by
  unfold Xu at h
  split at h
  ·cases q:cells.lookup n with
   | none=>rw [q] at h;exact So r acc h
   | some d=>
    rw [q] at h
    rcases So r _ h with z | z
    ·rw [List.lookup_cons] at z
     by_cases hx:(x == n)=true
     ·rw [hx] at z
      have e:x=n:=by simpa using hx
      subst e
      right;rw [q];exact z
     ·have hx':(x == n)=false:=by simpa using hx
      rw [hx'] at z;exact .inl z
    ·exact .inr z
  ·exact So r acc h
theorem um {cells:List (Str × Addr)}:∀ (names:List (Str × NameKind)) (acc:List (Str × Addr)) {x:Str} {c:Addr},acc.lookup x=some c→cells.lookup x=some c→(Xu cells names acc).lookup x=some c
 | [],acc,x,c,h,_=>h
 | (n,k) :: r,acc,x,c,h,hc=>by
  unfold Xu
  split
  ·cases q:cells.lookup n with
   | none=>exact um r acc h hc
   | some d=>
    refine um r _ ?_ hc
    rw [List.lookup_cons]
    by_cases hx:(x == n)=true
    ·have e:x=n:=by simpa using hx
     subst e
     rw [hx];rw [q] at hc;exact hc
    ·have hx':(x == n)=false:=by simpa using hx
     rw [hx'];exact h
  ·exact um r acc h hc
theorem ym {cells:List (Str × Addr)}:∀ (names:List (Str × NameKind)) (acc:List (Str × Addr)) {x:Str} {c:Addr},(x,NameKind.free) ∈ names→cells.lookup x=some c→(Xu cells names acc).lookup x=some c
 | [],_,_,_,h,_=>nomatch h
 | (n,k) :: r,acc,x,c,h,hc=>by
  rcases List.mem_cons.mp h with e | h
  ·cases e
   unfold Xu
   rw [if_pos (by decide),hc]
   refine um r _ ?_ hc
   rw [List.lookup_cons];simp
  ·unfold Xu
   split
   ·cases q:cells.lookup n with
    | none=>exact ym r acc h hc
    | some d=>exact ym r _ h hc
   ·exact ym r acc h hc
theorem dn {α:Type}:∀ {l:List (Str × α)} {x:Str} {a:α},l.lookup x=some a→(x,a) ∈ l
 | [],_,_,h=>by simp at h
 | (n,b) :: r,x,a,h=>by
  rw [List.lookup_cons] at h
  by_cases hx:(x == n)=true
  ·have e:x=n:=by simpa using hx
   subst e
   rw [hx] at h
   have e2:b=a:=Option.some.inj h
   subst e2
   exact List.mem_cons_self
  ·have hx':(x == n)=false:=by simpa using hx
   rw [hx'] at h
   exact List.mem_cons_of_mem _ (dn h)
theorem iy {env:Env} {scope:Scope} {x:Str} {k:NameKind} (h:(relabel scope env).names.lookup x=some k) (hk:k=.cell∨k=.free) (hc:∀ y ∈ scope.names,y.2 ≠ .cell):(x,NameKind.free) ∈ scope.names:=by
 have h1:=dn h
 obtain ⟨⟨n,j⟩,hm,e⟩:=List.mem_map.mp h1
 have e':(if (j == NameKind.free && env.scope.kind == .function && env.kindOf n == some .cell)=true then (n,NameKind.cell) else (n,j))=(x,k):=e
 split at e'
 ·rename_i hcond
  have e1:n=x:=(Prod.mk.inj e').1
  subst e1
  have hj:j=.free:=by
   simp only [Bool.and_eq_true] at hcond
   simpa using hcond.1.1
  subst hj
  exact hm
 ·have e1:n=x:=(Prod.mk.inj e').1
  have e2:j=k:=(Prod.mk.inj e').2
  subst e1;subst e2
  rcases hk with z | z
  ·exact absurd z (hc _ hm)
  ·subst z;exact hm
theorem Tl {env:Env} {scope:Scope} {x:Str} (h:scope.names.lookup x=some .free):(relabel scope env).names.lookup x=some .cell∨(relabel scope env).names.lookup x=some .free:=by
 have all:∀ (names:List (Str × NameKind)),names.lookup x=some .free →
   (names.map fun (n,k)=>if (k == NameKind.free && env.scope.kind == .function && env.kindOf n == some .cell) then (n,NameKind.cell) else (n,k)).lookup x=some .cell ∨
   (names.map fun (n,k)=>if (k == NameKind.free && env.scope.kind == .function && env.kindOf n == some .cell) then (n,NameKind.cell) else (n,k)).lookup x=some .free:=by
  intro names
  induction names with
  | nil=>intro h;simp at h
  | cons p r ih=>
   obtain ⟨n,k⟩:=p
   intro h
   rw [List.map_cons]
   by_cases hx:(x == n)=true
   ·simp only [List.lookup_cons,hx] at h
    have hk:k=.free:=Option.some.inj h
    subst hk
    by_cases hc:(NameKind.free == NameKind.free && env.scope.kind == .function && env.kindOf n == some .cell)=true
    ·left;simp only [if_pos hc,List.lookup_cons,hx]
    ·right;simp only [if_neg hc,List.lookup_cons,hx]
   ·have hx':(x == n)=false:=by simpa using hx
    simp only [List.lookup_cons,hx'] at h
    by_cases hc:(k == NameKind.free && env.scope.kind == .function && env.kindOf n == some .cell)=true
    ·simp only [if_pos hc,List.lookup_cons,hx'];exact ih h
    ·simp only [if_neg hc,List.lookup_cons,hx'];exact ih h
 exact all scope.names h
noncomputable abbrev Cx.block (X:Cx) (scope:Scope) (C:Addr) (N:List Str) (s:Shared) (H:Hp) (fp:List Addr):Cx where
 prog:=X.prog
 w:=X.w
 K:=X.K
 mg:=X.mg
 base:=X.base
 A:=X.A
 N:=N
 s₀:=s
 H₀:=H
 env:=compEnvC scope (Xu X.env.cells scope.names []) C X.env
 outer:=X.stack
 stack:=X.stack
 ex:=fp
 fn:=fun _=>false
 calm:=X.calm
 pn:=[]
 xe:=fun _ _=>False
structure bo (env:Env) (scope:Scope):Prop where
 kind:scope.kind=.function
 nocell:∀ y ∈ scope.names,y.2 ≠ .cell
 fr:∀ y ∈ scope.names,y.2=.free→env.kindOf y.1=some .cell∨env.kindOf y.1=some .free
 loc:∀ x ∈ scope.names,x.2=.local→scope.names.lookup x.1=some .local
noncomputable def blk (sel:List (Option Nat)) (σ:St):St:=sel.map fun o=>o.bind fun j=>(σ[j]?).join
noncomputable def pC (M:List Str) (scope:Scope) (N:List Str) (sel:List (Option Nat)):Prop:=
 sel.length=N.length∧∀ (i j:Nat) (x:Str),sel[i]? = some (some j)→N[i]? = some x→M[j]? = some x∧scope.names.lookup x=some .free
section
variable {X:Cx} {pins:List (Addr × Obj)} {σ:St} {H:Hp} {s:Shared} {scope:Scope} {fp:List Addr} {C:Addr} {N:List Str}
theorem bo.cells (S:bo X.env scope) (ok:X.Ok):∀ y ∈ scope.names,y.2=.free→∃ c,X.env.cells.lookup y.1=some c:=fun y hy e=>ok.has y.1 (S.fr y hy e)
theorem ot {x:Str} {c:Addr} (h:(Xu X.env.cells scope.names []).lookup x=some c):X.env.cells.lookup x=some c:=by
 rcases So _ _ h with z | z
 ·simp at z
 ·exact z
theorem Ty (I:Inv X pins σ H s) (S:bo X.env scope) (hf:∀ b ∈ fp,sw X pins H b) (hs:∀ b ∈ fp,b < s.heap.objs.size) (hC:s.heap.objs.size ≤ C):(X.block scope C N s H fp).Ok where
 mod:=I.ok.mod
 kind:=S.kind
 glob:=I.ok.glob
 blt:=I.ok.blt
 above:=hC
 inj:=fun x y c h1 h2=>I.ok.inj x y c (ot h1) (ot h2)
 has:=fun x h=>by
  have hk:∃ k,(relabel scope X.env).names.lookup x=some k∧(k=.cell∨k=.free):=by
   rcases h with h | h
   ·exact ⟨_,h,.inl rfl⟩
   ·exact ⟨_,h,.inr rfl⟩
  obtain ⟨k,h1,h2⟩:=hk
  have hm:=iy h1 h2 S.nocell
  obtain ⟨c,hc⟩:=S.cells I.ok _ hm rfl
  exact ⟨c,ym _ _ hm hc⟩
 cab:=fun _ _ h _=>nomatch h
 hd:=I.ok.hd
 frames:=I.ok.frames
 stk:=.inl rfl
 exf:=fun b hb=>⟨Nat.ne_of_lt (Nat.lt_of_lt_of_le (hs b hb) hC),fun x c e=>(hf b hb).2.2.2.2.1 x c (ot e)⟩
 bs:=I.bs
 bsz:=Nat.le_trans I.ok.bsz I.sz
 noex:=fun b o e hb=>by
  rcases (hf b hb).2.2.2.1 with z | z
  ·exact I.ok.noex b o e z
  ·exact absurd (Nat.lt_of_lt_of_le (Nat.lt_of_lt_of_le (Heap.lt_size e) I.ok.bsz) z) (Nat.lt_irrefl _)
 exfs:=fun b hb hz=>by
  rcases List.mem_cons.mp (I.stkSub b hz) with z | z
  ·exact (hf b hb).2.1 z
  ·exact (hf b hb).2.2.1 z
 funs:=I.stack
 frf:=I.stkFree
theorem qC {h':Heap} {t':Nat} {m:Str→Option Value} {sel:List (Option Nat)} (I:Inv X pins σ H s) (S:bo X.env scope) (hf:∀ b ∈ fp,sw X pins H b) (hs:∀ b ∈ fp,b < s.heap.objs.size) (hC:s.heap.objs.size ≤ C)
  (k:∀ b o,s.heap.get? b=some o→h'.get? b=some o) (hn:h'.Ns C m) (hsel:pC X.N scope N sel):Inv (X.block scope C N s H fp) [] (blk sel σ) H { s with heap:=h',toks:=t' } where
 ok:=Ty I S hf hs hC
 os:=rfl
 bare:=I.bare
 base:=Un.kept k
 loc:=by
  refine ⟨m,hn,fun i x v e1 e2 e3=>?_⟩
  obtain ⟨m0,hn0,hl⟩:=I.loc
  obtain ⟨j,ej,eσ⟩:∃ j,sel[i]? = some (some j)∧σ[j]? = some (some v):=by
   unfold blk at e2
   rw [List.getElem?_map] at e2
   cases q:sel[i]? with
   | none=>rw [q] at e2;cases e2
   | some o=>
    rw [q] at e2
    cases o with
    | none=>cases e2
    | some j=>
     refine ⟨j,rfl,?_⟩
     have e2':(σ[j]?).join=some v:=Option.some.inj e2
     cases r:σ[j]? with
     | none=>rw [r] at e2';cases e2'
     | some z=>rw [r] at e2';exact congrArg some e2'
  obtain ⟨eN,hfr⟩:=hsel.2 i j x ej e1
  have hm:=dn hfr
  have hk:=S.fr _ hm rfl
  have hv:Vis X.env.scope x:=hk.elim (fun z=>.inr (.inl z)) fun z=>.inr (.inr z)
  obtain ⟨u,r,l⟩:=hl j x v eN eσ hv
  refine ⟨u,r,?_⟩
  rcases l with ⟨hloc,_⟩ | ⟨_,c,hc,hcell⟩
  ·rcases hk with z | z <;> (have z':X.env.kindOf x=_:=z;rw [hloc] at z';cases z')
  ·refine .inr ⟨?_,c,ym _ _ hm hc,?_⟩
   ·exact Tl hfr
   ·obtain ⟨o,ho,hd⟩:=hcell
    exact ⟨o,k _ _ ho,hd⟩
 cell:=fun x c e=>by
  obtain ⟨v,o,ho,hd⟩:=I.cell x c (ot e)
  exact ⟨v,o,k _ _ ho,hd⟩
 free:=I.hok.fresh hC
 freeC:=fun x c e=>I.freeC x c (ot e)
 pin:=fun p hp=>nomatch hp
 hok:=I.hok.kept k
 len:=by unfold blk;rw [List.length_map];exact hsel.1
theorem Inv.adopt {a:Addr} {o:HO} (I:Inv X pins σ H s) (fo:sw X pins H a) (new:zd X.prog X.w (upd H a o) s.heap a o):Inv X pins σ (upd H a o) s:=by
 obtain ⟨hn,hL,hfs,hex,hcl,hpn⟩:=fo
 refine I.step (g':=s.gens) (d':=s.drawn) (t':=s.toks) (h':=s.heap) (ch:=[a]) (fun b hb=>?_) (fun b o _ _ _ e _=>e) (fun b o _ _ _ e _=>⟨o.slots,e⟩) (fun b o hb e n=>?_) (fun b o _ e=>⟨o,e⟩)
  (fun b xs e=>?_) (fun b o u e=>?_) (fun b ps e=>⟨#[],?_⟩) (fun m hm=>hm) (fun b u e=>?_) I.bare
 ·have e:b=a:=by simpa using hb
  subst e
  exact ⟨hex,hL,hcl,hpn⟩
 ·rw [lb (fun z=>hb (by simp [z]))];exact n
 ·rw [lb (vb e hn)];exact e
 ·rw [lb (vb e hn)];exact e
 ·rw [lb (vb e hn),e];simp
 ·by_cases hb:b=a
  ·subst hb;rw [db] at e;cases e;exact new
  ·rw [lb hb] at e
   exact (I.hok b u e).stay (fun c v _ q=>q) (fun c q=>by rw [lb (vb q hn)];exact q) fun c xs q=>by rw [lb (vb q hn)];exact q
end
theorem Uk {prog:Program} {w:World} {A:Around} {R:Result→Shared→Prop} {s:Shared} {elt target iter:Expr} {ifs:List Expr} {scope:Scope} {pos:Pos} {it acc:Value} {env:Env} (I:Nat→Shared→Prop)
  (turn:∀ n s,I n s→wpAny (model prog w) A (pyNext it) (fun r s₁=>match r with
   | none=>R (.ok .next) s₁
   | some v=>wpAny (model prog w) A (letOwnedTupleGo target it v) (fun _ s₀=>wpAny (model prog w) A (assign target env v) (fun _ s₂=>
     wpAny (model prog w) A (forIn ifs true fun c r=>if r=true then do let ok ← isTrue c env (eval c env);pure (ForInStep.yield ok) else pure (ForInStep.yield r)) (fun ok s₃=>
      if ok=true then wpAny (model prog w) A (eval elt env) (fun x s₄=>
       wpAny (model prog w) A (call (.builtin "list.append") [acc,x]) (fun _ s₅=>∃ m,m < n∧I m s₅) (fun _ _=>False) s₄) (fun _ _=>False) s₃
      else ∃ m,m < n∧I m s₃) (fun _ _=>False) s₂) (fun _ _=>False) s₀) (fun _ _=>False) s₁) (fun _ _=>False) s)
  (n:Nat) (h:I n s) :
  codeAny (model prog w) A (.compLoop (.ListComp elt [⟨target,iter,ifs,0⟩] scope pos) 0 it acc env) R s:=by
 refine codeAny_loop rfl I (fun n s hI=>?_) n h
 show wpAny _ A ((compTurn (.ListComp elt [⟨target,iter,ifs,0⟩] scope pos) 0 it acc env).onRaise (fun x=>do noteFrame x env;theTreesLotGoes x)) _ _ s
 refine wpAny_noted (wpAny_noRaise ?_)
 rw [compTurn_list]
 refine wpAny_bind (wpAny_standAt (wpAny_bind (wpAny_mono (turn n s hI) (fun r s₁ h₁=>?_) fun _ _ h'=>h')))
 cases r with
 | none=>exact wpAny_pure h₁
 | some v=>
  refine wpAny_bind (wpAny_mono h₁ (fun _ s₀ h₀=>?_) fun _ _ h'=>h')
  refine wpAny_bind (wpAny_mono h₀ (fun _ s₂ h₂=>wpAny_bind (wpAny_mono h₂ (fun ok s₃ h₃=>?_) fun _ _ h'=>h')) fun _ _ h'=>h')
  cases ok with
  | false=>exact wpAny_pure ⟨rfl,h₃⟩
  | true=>
   exact wpAny_bind (wpAny_bind (wpAny_mono h₃ (fun x s₄ h₄=>wpAny_bind (wpAny_mono h₄ (fun _ s₅ h₅=>wpAny_pure (wpAny_pure ⟨rfl,h₅⟩)) fun _ _ h'=>h')) fun _ _ h'=>h'))
noncomputable def PTs (X:Cx) (ifs:List Expr) (t:TT):Prop:=
 ∀ (pins:List (Addr × Obj)) (s:Shared) (σ:St) (H:Hp) (Q:Bool→Hp→Prop),Inv X pins σ H s→t σ H Q →
  wpAny (model X.prog X.w) X.A (forIn ifs true fun c r=>if r=true then do let ok ← isTrue c X.env (eval c X.env);pure (ForInStep.yield ok) else pure (ForInStep.yield r)) (TP X pins σ Q) X.xe s
noncomputable def bx:TT:=fun _ H Q=>Q true H
theorem Ee {X:Cx}:PTs X [] bx:=fun _ _ _ H _ I h=>wpAny_tests_nil ⟨H,I,h⟩
theorem Su {X:Cx} {c:Expr} {t:TT} (h:PT X c t):PTs X [c] t:=fun pins s σ H Q I q=>wpAny_tests_one (h pins s σ H Q I q)
noncomputable def Sub (σ σ':St):Prop:=σ'.length=σ.length∧∀ (i:Nat) (v:V),σ[i]? = some (some v)→σ'[i]? = some (some v)
theorem Sub.refl (σ:St):Sub σ σ:=⟨rfl,fun _ _ h=>h⟩
theorem Sub.set {σ σ':St} {i:Nat} {x:Option V} (h:Sub σ σ') (e:σ[i]? = some none):Sub σ (σ'.set i x):=by
 refine ⟨by rw [List.length_set];exact h.1,fun j v q=>?_⟩
 have hj:i ≠ j:=fun z=>by subst z;rw [e] at q;cases q
 rw [List.getElem?_set_ne hj]
 exact h.2 j v q
noncomputable def Nx (J:It) (g:TG) (tc:TT) (te:TE) (σb:St) (Q:VK) (W:Nat→Nat→List V→Hp→Prop):Prop:=∀ i m ys H,W i m ys H →
 (J.stop i H∧∀ p,H p=none→Q (.ref p) (upd H p (.lst ys))) ∨
 (J.go i H∧ys.length < sizeLine∧∀ x H',J.yld i H x H'→g x σb H' fun σ2 H2=>Sub σb σ2∧tc σ2 H2 fun c H3=>if c=true then te σ2 H3 fun y H4=>∃ m',m' < m∧W (i + 1) m' (ys ++ [y]) H4 else ∃ m',m' < m∧W (i + 1) m' ys H3)
noncomputable def bJ (wi:TI) (g:TG) (tc:TT) (te:TE) (sel:List (Option Nat)):TE:=fun σ H Q=>wi σ H fun J H1=>∃ W:Nat→Nat→List V→Hp→Prop,(∃ m,W 0 m [] H1)∧Nx J g tc te (blk sel σ) Q W
section
variable {X:Cx} {elt tg iter:Expr} {ifs:List Expr} {scope:Scope} {pos:Pos} {wi:TI} {g:TG} {tc:TT} {te:TE} {N:List Str} {sel:List (Option Nat)}
structure Blk (X:Cx) (scope:Scope) (N:List Str) (tg elt:Expr) (ifs:List Expr) (g:TG) (tc:TT) (te:TE):Prop where
 tgt:∀ C s H fp,PG (X.block scope C N s H fp) tg g
 tests:∀ C s H fp,PTs (X.block scope C N s H fp) ifs tc
 elem:∀ C s H fp,PE (X.block scope C N s H fp) elt te
theorem Blk.of {X:Cx} {scope:Scope} {N:List Str} {tg elt:Expr} {ifs:List Expr} {g:TG} {tc:TT} {te:TE} (h1:∀ C s H fp,PG (X.block scope C N s H fp) tg g)
  (h2:∀ C s H fp,∃ t,PTs (X.block scope C N s H fp) ifs t∧t=tc) (h3:∀ C s H fp,∃ t,PE (X.block scope C N s H fp) elt t∧t=te):Blk X scope N tg elt ifs g tc te:=
 ⟨h1,fun C s H fp=>by obtain ⟨t,h,rfl⟩:=h2 C s H fp;exact h,fun C s H fp=>by obtain ⟨t,h,rfl⟩:=h3 C s H fp;exact h⟩
theorem wv {pins:List (Addr × Obj)} {s₂:Shared} {σ:St} {H₂:Hp} {Q:VK} {it:Addr} {fp:List Addr} {tn:Nat→Heap→Prop} {J:It} {W:Nat→Nat→List V→Hp→Prop} {E:Value→Shared→Prop} {RR:Value→Addr→Result→Shared→Prop}
  (hc:X.calm=true) (S:bo X.env scope) (hsel:pC X.N scope N sel) (B:Blk X scope N tg elt ifs g tc te) (I2:Inv X pins σ H₂ s₂) (T:XJ X.prog X.w X.K tg J fp it tn) (st2:tn 0 s₂.heap) (f2:∀ b ∈ fp,sw X pins H₂ b)
  (w0:∃ m,W 0 m [] H₂) (hW:Nx J g tc te (blk sel σ) Q W)
  (fin:∀ D C ys H' s',Inv X pins σ (upd H' D (.lst ys)) s'→(∃ m,s'.heap.Ns C m)→sw X pins (upd H' D (.lst ys)) C→Q (.ref D) (upd H' D (.lst ys))→RR (.ref D) C (.ok .next) s') :
  wpAny (model X.prog X.w) X.A (newList []) (fun acc s₃=>wpAny (model X.prog X.w) X.A (newFunctionEnv scope X.env.globals (Xu X.env.cells scope.names []) [] X.env.qual none .none (some X.env)) (fun cenv s₄=>
   codeAny (model X.prog X.w) X.A (.compStart (.ListComp elt [⟨tg,iter,ifs,0⟩] scope pos) 0 (.ref it) acc { cenv with scope:=relabel scope X.env }) (RR acc cenv.locals) s₄) E s₃) E s₂:=by
 refine wpAny_newObj_type (wpAny_newFunctionEnv S.nocell (by intro y hy;simp at hy) (fun h₁ hns₁ hsb₁=>?_) S.kind)
 dsimp only at hns₁ hsb₁ ⊢
 generalize hH2:s₂.heap.push { cls:=.type "list",dict:=none,data:=.seq ([]:List Value).toArray }=H2 at hns₁ hsb₁ ⊢
 have hC:H2.objs.size=s₂.heap.objs.size + 1:=by rw [← hH2,Heap.size_push]
 have hDC:s₂.heap.objs.size ≠ H2.objs.size:=by rw [hC];exact Nat.ne_of_lt (Nat.lt_succ_self _)
 have hCle:s₂.heap.objs.size ≤ H2.objs.size:=by rw [hC];exact Nat.le_succ _
 have below:∀ b,b < s₂.heap.objs.size→b ≠ H2.objs.size∧b ≠ s₂.heap.objs.size:=fun b hb=>⟨by rw [hC];exact Nat.ne_of_lt (Nat.lt_succ_of_lt hb),Nat.ne_of_lt hb⟩
 have old:∀ b o,s₂.heap.get? b=some o→h₁.get? b=some o:=fun b o e=>hsb₁.extBut b o (below b (Heap.lt_size e)).1 (Heap.get?_push_of_some _ (hH2 ▸ Heap.get?_push_of_some _ e))
 have hacc:h₁.get? s₂.heap.objs.size=some { cls:=.type "list",data:=.seq ([]:List Value).toArray }:=hsb₁.extBut _ _ hDC (Heap.get?_push_of_some _ (hH2 ▸ Heap.get?_push_size _ rfl))
 have fps:∀ b ∈ fp,b < s₂.heap.objs.size:=fun b hb=>by
  obtain ⟨o,e,_⟩:=T.obj _ _ st2 b hb
  exact Heap.lt_size e
 generalize hCe:H2.objs.size=C at *
 generalize hDe:s₂.heap.objs.size=D at *
 have st1:tn 0 h₁:=T.keep _ _ _ st2 fun b _ o e=>old b o e
 have IB0:Inv (X.block scope C N s₂ H₂ fp) [] (blk sel σ) H₂ { s₂ with heap:=h₁,toks:=s₂.toks + ([]:List (Str × Value)).length }:=
  qC I2 S f2 (fun b hb=>by rw [hDe];exact fps b hb) (by rw [hDe];exact hCle) old hns₁ hsel
 have hDfs:D ∉ (X.block scope C N s₂ H₂ fp).fs:=fun z=>by
  have z':=I2.stkSub D z
  rcases List.mem_cons.mp z' with e | e
  ·exact absurd I2.lt (by rw [← e,hDe];exact Nat.lt_irrefl _)
  ·exact I2.nofs (by rw [hDe];exact Nat.le_refl _) e
 have loop:∀ s₃:Shared,s₃ = { s₂ with heap:=h₁,toks:=s₂.toks + ([]:List (Str × Value)).length } →
   codeAny (model X.prog X.w) X.A (.compLoop (.ListComp elt [⟨tg,iter,ifs,0⟩] scope pos) 0 (.ref it) (.ref D) (compEnvC scope (Xu X.env.cells scope.names []) C X.env)) (RR (.ref D) C) s₃:=by
  rintro s₃ rfl
  obtain ⟨m0,w0⟩:=w0
  refine Uk (fun k s'=>∃ i ys us n H',Inv (X.block scope C N s₂ H₂ fp) [(D,{ cls:=.type "list",data:=.seq us n })] (blk sel σ) H' s'∧(∃ vs:List Value,us=vs.toArray∧Qd ys vs)∧ys.length ≤ sizeLine∧tn i s'.heap∧(∀ b ∈ fp,H' b=none)∧W i k ys H') ?_ m0
   ⟨0,[],_,0,H₂,IB0.pins_of fun p hp=>?_,⟨[],rfl,.nil⟩,Nat.zero_le _,st1,fun b hb=>(f2 b hb).1,w0⟩
  ·rintro k s' ⟨i,ys,us,n,H',IB,⟨vs,rfl,rv⟩,hyz,st,fr,w⟩
   have fpB:∀ {pl:List (Addr × Obj)} {H'':Hp},(∀ p ∈ pl,p.1=D)→(∀ b ∈ fp,H'' b=none)→∀ b ∈ fp,sw (X.block scope C N s₂ H₂ fp) pl H'' b:=fun {pl H''} hp hn b hb=>
    ⟨hn b hb,(below b (fps b hb)).1,(Ty (N:=N) (C:=C) I2 S f2 (fun b hb=>by rw [hDe];exact fps b hb) (by rw [hDe];exact hCle)).exfs b hb,.inl hb,fun x c e=>(f2 b hb).2.2.2.2.1 x c (ot e),fun p hpp z=>by
     have hpp':p ∈ pl:=by simpa using hpp
     exact (below b (fps b hb)).2 (by rw [← z];exact hp p hpp')⟩
   have hD1:∀ p ∈ [((D,{ cls:=.type "list",data:=.seq vs.toArray n }):Addr × Obj)],p.1=D:=fun p hp=>by
    have e:p=(D,{ cls:=.type "list",data:=.seq vs.toArray n }):=by simpa using hp
    rw [e]
   rcases hW i k ys H' w with ⟨stop,qn⟩ | ⟨go,hlen,step⟩
   ·refine thn (T.done (X.block scope C N s₂ H₂ fp) rfl rfl rfl hc i _ s' _ H' _ IB (fpB hD1 fr) st stop) fun r s4 hZ1=>?_
    obtain ⟨hr,I4⟩:=hZ1
    subst hr
    -- the block is left
    have pD:=I4.pin (D,{ cls:=.type "list",data:=.seq vs.toArray n }) (by simp)
    have hDn:H' D=none:=pD.2.1
    have IX:Inv X pins σ H' s4:=I2.call' (ch:=fp) I4.os I4.base I4.hok I4.bare fun b hb=>⟨(f2 b hb).2.2.2.1,(f2 b hb).2.1,(f2 b hb).2.2.2.2.1,(f2 b hb).2.2.2.2.2⟩
    have foD:sw X pins H' D:=I2.fpOk (by rw [hDe];exact Nat.le_refl _) hDn
    have IA:Inv X pins σ (upd H' D (.lst ys)) s4:=IX.adopt foD ⟨hyz,vs,n,rv,pD.1⟩
    obtain ⟨mC,hnC,_⟩:=I4.loc
    refine fin D C ys H' s4 IA ⟨mC,hnC⟩ (I2.fpOk (by rw [hDe];exact hCle) ?_) (qn D hDn)
    rw [lb (Ne.symm hDC)]
    exact I4.free
   ·refine thn (T.item (X.block scope C N s₂ H₂ fp) rfl rfl rfl hc i _ s' _ H' _ IB (fpB hD1 fr) st go) fun r s4 hZ1=>?_
    obtain ⟨u,hr,h4⟩:=hZ1
    subst hr
    refine thn h4 fun _ s5 hZ1=>?_
    obtain ⟨x,H5,I5,r5,y5,st5,fr5⟩:=hZ1
    have I5':=I5.pinned (fpB hD1 fr5) (T.obj _ _ st5)
    refine thn (B.tgt C s₂ H₂ fp _ s5 _ H5 x u _ I5' r5 (step x H5 y5)) fun _ s6 hZ1=>?_
    obtain ⟨σ6,H6,I6,sb,q6⟩:=hZ1
    refine thn (B.tests C s₂ H₂ fp _ s6 σ6 H6 _ I6 q6) fun c s7 hZ1=>?_
    obtain ⟨H7,I7,q7⟩:=hZ1
    have again:∀ {σ8:St} {H8:Hp} {s8:Shared},Inv (X.block scope C N s₂ H₂ fp) ([(D,{ cls:=.type "list",data:=.seq vs.toArray n })] ++ yw fp s5.heap) σ8 H8 s8→tn (i + 1) s8.heap∧(∀ b ∈ fp,H8 b=none):=fun {σ8 H8 s8} I8=>by
     refine ⟨T.keep _ _ _ st5 fun b hb o e=>(I8.pin (b,o) (List.mem_append_right _ (List.mem_append_right _ (Qk hb e)))).1,fun b hb=>?_⟩
     obtain ⟨o,e,d⟩:=T.obj _ _ st5 b hb
     exact (I8.pin (b,o) (List.mem_append_right _ (List.mem_append_right _ (Qk hb e)))).2.1
    have back:∀ {H8:Hp} {s8:Shared} {pl:List (Addr × Obj)},Inv (X.block scope C N s₂ H₂ fp) pl σ6 H8 s8→Inv (X.block scope C N s₂ H₂ fp) pl (blk sel σ) H8 s8:=fun {H8 s8 pl} I8=>I8.weak sb.1.symm sb.2
    cases c with
    | false=>
     obtain ⟨m',hm,w'⟩:=q7
     obtain ⟨t1,t2⟩:=again I7
     exact ⟨m',hm,i + 1,ys,_,n,H7,back I7.unpinned,⟨vs,rfl,rv⟩,hyz,t1,t2,w'⟩
    | true=>
     refine thn (B.elem C s₂ H₂ fp _ s7 σ6 H7 _ I7 q7) fun v s8 hZ1=>?_
     obtain ⟨y,H8,I8,r8,m',hm,w'⟩:=hZ1
     obtain ⟨t1,t2⟩:=again I8
     have pD:=I8.pin (D,{ cls:=.type "list",data:=.seq vs.toArray n }) (by simp)
     refine append_at (hsz:=by have:=rv.length;rw [List.size_toArray];omega) pD.1 fun h9 hs9 hD9=>?_
     have IB':Inv (X.block scope C N s₂ H₂ fp) [] (blk sel σ) H8 s8:=(back I8).pins_of fun p hp=>nomatch hp
     have foD:sw (X.block scope C N s₂ H₂ fp) [] H8 D:=⟨pD.2.1,hDC,hDfs,.inr (by show s₂.heap.objs.size ≤ D;rw [hDe];exact Nat.le_refl _),(fun x c e z=>by
      obtain ⟨cv,o,ho,hd⟩:=I8.cell x c e
      rw [z,pD.1] at ho
      cases ho
      cases hd),(fun p hp=>nomatch hp)⟩
     have I9:Inv (X.block scope C N s₂ H₂ fp) [] (blk sel σ) H8 { s8 with heap:=h9 }:=IB'.turned (t':=s8.toks) (it:=D) (fun b o hb e=>(hs9.2 b hb).trans e) foD.1 foD.2.1 foD.2.2.2.1 foD.2.2.2.2.1 foD.2.2.2.2.2
     refine ⟨m',hm,i + 1,ys ++ [y],vs.toArray.push v,n + 1,H8,I9.pins_of fun p hp=>?_,⟨vs ++ [v],by simp,Paired.snoc rv r8⟩,by rw [List.length_append,List.length_singleton];omega,T.keep _ _ _ t1 fun b hb o e=>(hs9.2 b (below b (fps b hb)).2).trans e,t2,w'⟩
     have e:p=(D,{ cls:=.type "list",data:=.seq (vs.toArray.push v) (n + 1) }):=by simpa using hp
     subst e
     exact ⟨hD9,pD.2.1,hDC,hDfs,fun v z=>by cases z⟩
  ·have e:p=(D,{ cls:=.type "list",data:=.seq ([]:List Value).toArray }):=by simpa using hp
   subst e
   exact ⟨hacc,I2.hok.fresh (by rw [hDe];exact Nat.le_refl _),hDC,hDfs,fun v z=>by cases z⟩
 exact codeAny_compStart_list (loop _ rfl) (T.self _ 0 _ _ _ st1 (loop _ rfl))
theorem Td (hc:X.calm=true) (hi:PI X tg iter wi) (S:bo X.env scope) (hsel:pC X.N scope N sel) (B:Blk X scope N tg elt ifs g tc te)
  (hs:∀ x,foldedSetIterable iter X.env x=pure x:=by intro _;rfl):PE X (.ListComp elt [⟨tg,iter,ifs,0⟩] scope pos) (bJ wi g tc te sel):=by
 intro pins s σ H Q I h
 rw [eval_ListComp]
 refine wpAny_comprehension_free (use:=none) rfl hs (uE (S.cells I.ok)) S.kind S.loc ?_
 refine thn (hi pins s σ H _ I h) fun v s1 h1=>thn h1 fun itv s2 h2=>?_
 obtain ⟨it,fp,tn,J,H2,e,I2,T,st2,f2,W,w0,hW⟩:=h2
 subst e
 refine wv (RR:=fun acc C=>compPost (model X.prog X.w) X.A X.xe none (EP X pins σ Q) acc C) hc S hsel B I2 T st2 f2 w0 hW fun D C ys H' s' I' ⟨m,hm⟩ fo q=>?_
 exact ⟨m,hm,fun h' hsb=>⟨.ref D,_,I'.turned (t':=s'.toks) (it:=C) (fun b o hb e=>(hsb.2 b hb).trans e) fo.1 fo.2.1 fo.2.2.2.1 fo.2.2.2.2.1 fo.2.2.2.2.2,rfl,q⟩⟩
theorem Vz {i:Nat} {y:Str} {py spos:Pos} (hN:X.N.Nodup) (hi:X.N[i]? = some y) (hx:Loc X.env.scope y) (hc:X.calm=true) (hit:PI X tg iter wi) (S:bo X.env scope) (hsel:pC X.N scope N sel) (B:Blk X scope N tg elt ifs g tc te)
  (hsw:swapsWith (.ListComp elt [⟨tg,iter,ifs,0⟩] scope pos) (some (.Name y py)) spos.line X.env=pure true) (hf:X.fn y=true∨X.env.scope.names.lookup y=some .local:=by first | exact .inl rfl | exact .inr rfl | assumption)
  (hs:∀ x,foldedSetIterable iter X.env x=pure x:=by intro _;rfl):PS X (.Assign [.Name y py] (.ListComp elt [⟨tg,iter,ifs,0⟩] scope pos) spos) (sM (bJ wi g tc te sel) (Ww i)):=by
 intro pins s σ H D I h
 rw [exec_Assign_Name_used _ _ _ _ hsw]
 refine wpAny_bind (wpAny_standAt (wpAny_bind ?_))
 show wpAny _ X.A (do let _ ← comprehension (.ListComp elt [⟨tg,iter,ifs,0⟩] scope pos) scope X.env _ (newList []) false (eval iter X.env) (some (assign (.Name y py) X.env))) _ _ s
 refine wpAny_bind (wpAny_mono (wpAny_comprehension_free (use:=some (assign (.Name y py) X.env)) (Q:=fun _ s'=>SP X pins D .next s') rfl hs (uE (S.cells I.ok)) S.kind S.loc ?_) (fun _ s' hq=>wpAny_pure (wpAny_pure hq)) fun _ _ e=>e)
 refine thn (hit pins s σ H _ I h) fun v s1 h1=>thn h1 fun itv s2 h2=>?_
 obtain ⟨it,fp,tn,J,H2,e,I2,T,st2,f2,W,w0,hW⟩:=h2
 subst e
 refine wv (RR:=fun acc C=>compPost (model X.prog X.w) X.A X.xe (some (assign (.Name y py) X.env)) (fun _ s'=>SP X pins D .next s') acc C) hc S hsel B I2 T st2 f2 w0 hW fun Da C ys H' s' I' ⟨m,hm⟩ fo q=>?_
 show wpAny _ X.A (assign (.Name y py) X.env (.ref Da)) _ _ _
 refine wpAny_assign_Name (nw I' hN hi hx (show Ld (.ref Da) (.ref Da) from rfl) (fun s3 I3 hZ1=>?_) hf)
 obtain ⟨a,hsb,ha⟩:=hZ1
 have hCa:C ≠ a:=by
  rcases ha with z | z
  ·rw [z];exact fo.2.1
  ·exact fun w=>fo.2.2.2.2.1 y a z w.symm
 refine ⟨m,hm.sameBut hsb hCa,fun h' hsb'=>⟨_,_,I3.turned (t':=s3.toks) (it:=C) (fun b o hb e=>(hsb'.2 b hb).trans e) fo.1 fo.2.1 fo.2.2.2.1 fo.2.2.2.2.1 fo.2.2.2.2.2,q⟩⟩
end
noncomputable def Ng (Pv:Nat→List V→Hp→Prop) (g:TG) (tc:TT) (te:TE) (σb:St) (i:Nat) (x:V) (ys:List V) (H:Hp):Prop:=
 ∀ N:List V→Hp→Prop,(∀ ys' H',Pv (i + 1) ys' H'→N ys' H')→g x σb H fun σ2 H2=>Sub σb σ2∧tc σ2 H2 fun c H3=>if c=true then te σ2 H3 fun y H4=>N (ys ++ [y]) H4 else N ys H3
theorem oE {K:PySem.W.Frag} {a:Addr} {xs:List V} {g:TG} {tc:TT} {te:TE} {σb:St} {Q:VK} {H:Hp} (Pv:Nat→List V→Hp→Prop) (hz:xs.length ≤ sizeLine) (h0:Pv 0 [] H) (hl:∀ i ys H,i ≤ xs.length→Pv i ys H→SqL K H a xs∧ys.length ≤ i)
  (hs:∀ i x ys H,xs[i]? = some x→Pv i ys H→Ng Pv g tc te σb i x ys H) (hd:∀ ys H,Pv xs.length ys H→∀ p,H p=none→Q (.ref p) (upd H p (.lst ys))) :
  ∃ W:Nat→Nat→List V→Hp→Prop,(∃ m,W 0 m [] H)∧Nx (Itl K a) g tc te σb Q W:=by
 refine ⟨fun i m ys H=>m=xs.length - i∧i ≤ xs.length∧Pv i ys H,⟨xs.length,by simp,Nat.zero_le _,h0⟩,?_⟩
 rintro i m ys H ⟨rfl,hi,p⟩
 have q:=(hl i ys H hi p).1
 have hyl:=(hl i ys H hi p).2
 by_cases hlt:i < xs.length
 ·refine .inr ⟨⟨xs,xs[i],q,by simp [hlt]⟩,by omega,fun x H' y=>?_⟩
  obtain ⟨e,y⟩:=y
  subst e
  exact hs i x ys _ (y xs q) p (fun ys' H'=>∃ m',m' < xs.length - i∧m'=xs.length - (i + 1)∧i + 1 ≤ xs.length∧Pv (i + 1) ys' H') fun ys' H' r=>⟨xs.length - (i + 1),by omega,rfl,hlt,r⟩
 ·have e:i=xs.length:=by omega
  subst e
  exact .inl ⟨⟨xs,q,Nat.le_refl _⟩,hd ys H p⟩
theorem eF {K:PySem.W.Frag} {a:Addr} {xs:List V} {g:TG} {tc:TT} {te:TE} {σb:St} {Q:VK} {H:Hp} (Pv:Nat→List V→Hp→Prop) (hz:xs.length ≤ sizeLine) (h0:Pv 0 [] H) (hl:∀ i ys H,i ≤ xs.length→Pv i ys H→SqT K H a xs∧ys.length ≤ i)
  (hs:∀ i x ys H,xs[i]? = some x→Pv i ys H→Ng Pv g tc te σb i x ys H) (hd:∀ ys H,Pv xs.length ys H→∀ p,H p=none→Q (.ref p) (upd H p (.lst ys))) :
  ∃ W:Nat→Nat→List V→Hp→Prop,(∃ m,W 0 m [] H)∧Nx (Itt K a) g tc te σb Q W:=by
 refine ⟨fun i m ys H=>m=xs.length - i∧i ≤ xs.length∧Pv i ys H,⟨xs.length,by simp,Nat.zero_le _,h0⟩,?_⟩
 rintro i m ys H ⟨rfl,hi,p⟩
 have q:=(hl i ys H hi p).1
 have hyl:=(hl i ys H hi p).2
 by_cases hlt:i < xs.length
 ·refine .inr ⟨⟨xs,xs[i],q,by simp [hlt]⟩,by omega,fun x H' y=>?_⟩
  obtain ⟨e,y⟩:=y
  subst e
  exact hs i x ys _ (y xs q) p (fun ys' H'=>∃ m',m' < xs.length - i∧m'=xs.length - (i + 1)∧i + 1 ≤ xs.length∧Pv (i + 1) ys' H') fun ys' H' r=>⟨xs.length - (i + 1),by omega,rfl,hlt,r⟩
 ·have e:i=xs.length:=by omega
  subst e
  exact .inl ⟨⟨xs,q,Nat.le_refl _⟩,hd ys H p⟩
theorem CA {lo:Int} {n:Nat} {g:TG} {tc:TT} {te:TE} {σb:St} {Q:VK} {H:Hp} (Pv:Nat→List V→Hp→Prop) (hz:n ≤ sizeLine) (h0:Pv 0 [] H) (hl:∀ i ys H,i ≤ n→Pv i ys H→ys.length ≤ i)
  (hs:∀ i ys H,i < n→Pv i ys H→Ng Pv g tc te σb i (.int (lo + i)) ys H) (hd:∀ ys H,Pv n ys H→∀ p,H p=none→Q (.ref p) (upd H p (.lst ys))) :
  ∃ W:Nat→Nat→List V→Hp→Prop,(∃ m,W 0 m [] H)∧Nx (Itr lo n) g tc te σb Q W:=by
 refine ⟨fun i m ys H=>m=n - i∧i ≤ n∧Pv i ys H,⟨n,by simp,Nat.zero_le _,h0⟩,?_⟩
 rintro i m ys H ⟨rfl,hi,p⟩
 have hyl:=hl i ys H hi p
 by_cases hlt:i < n
 ·refine .inr ⟨hlt,by omega,fun x H' y=>?_⟩
  obtain ⟨e,y⟩:=y
  subst e y
  exact hs i ys _ hlt p (fun ys' H'=>∃ m',m' < n - i∧m'=n - (i + 1)∧i + 1 ≤ n∧Pv (i + 1) ys' H') fun ys' H' r=>⟨n - (i + 1),by omega,rfl,hlt,r⟩
 ·have e:i=n:=by omega
  subst e
  exact .inl ⟨Nat.le_refl _,hd ys H p⟩
end L2
namespace L2
open PySem PySem.Spec PyProof.Rows
noncomputable def Its (xs:List V):It:=⟨fun i _=>i < xs.length,fun i H x H'=>H'=H∧xs[i]? = some x,fun i _=>xs.length ≤ i⟩
theorem ut {P:Program} {w:World} {K:PySem.W.Frag} {tg:Expr} {it:Addr} {xs:List V} {PV:Nat→Value→Prop} {St:Nat→Heap→Prop} (hW:∀ A:Around,A.handled=none→Walks P w A it [it] [it] xs.length PV St)
  (hP:∀ i v,PV i v→∃ x,xs[i]? = some x∧Ld x v)
  (hgo:∀ i h,St i h→∃ o n vs,h.get? it=some o∧o.cls=.type n∧o.data=.fields vs∧["enumerate","zip","dict_itemiterator","dict_reverseitemiterator","odict_iterator","itertools.zip_longest","itertools.pairwise"].contains n=false)
  (hfr:∀ i h h',St i h→(∀ o,h.get? it=some o→h'.get? it=some o)→St i h')
  (hself:∀ (A:Around) (i:Nat) (s:Shared) (Q:Value→Shared→Prop) (E:Value→Shared→Prop),St i s.heap→Q (.ref it) s→wpAny (model P w) A (pyIter (.ref it)) Q E s) :
  XJ P w K tg (Its xs) [it] it (fun i h=>i ≤ xs.length∧St i h) where
 mem:=by simp
 obj:=fun i h st b hb=>by
  have e:b=it:=by simpa using hb
  subst e
  obtain ⟨o,n,vs,e,_,d,_⟩:=hgo i h st.2
  exact ⟨o,e,fun v z=>by rw [d] at z;cases z⟩
 keep:=fun i h h' st k=>⟨st.1,hfr i h h' st.2 fun o e=>k it (by simp) o e⟩
 item:=by
  intro X hP' hw hK hc i pins s σ H E I hf st hg
  subst hP' hw hK
  obtain ⟨f0,f1,f2,f3,f4,f5⟩:=hf it (by simp)
  refine (hW X.A (I.ok.hd hc)).item i s _ _ hg st.2 fun v h' tk hv st' kk=>?_
  obtain ⟨x,hx,rx⟩:=hP i v hv
  have I1:Inv X pins σ H { s with heap:=h',toks:=tk }:=I.turned (fun b o hb e=>kk b o (by simpa using hb) e) f0 f1 f3 f4 f5
  obtain ⟨o,n,vs,e,c,d,nm⟩:=hgo _ _ st'
  exact ⟨v,rfl,uG (s:={ s with heap:=h',toks:=tk }) e c d nm ⟨x,H,I1,rx,⟨rfl,hx⟩,⟨hg,st'⟩,fun b hb=>(hf b hb).1⟩⟩
 done:=by
  intro X hP' hw hK hc i pins s σ H E I hf st hg
  subst hP' hw hK
  obtain ⟨f0,f1,f2,f3,f4,f5⟩:=hf it (by simp)
  have e:i=xs.length:=Nat.le_antisymm st.1 hg
  subst e
  exact (hW X.A (I.ok.hd hc)).done s _ _ st.2 fun h' tk kk=>⟨rfl,I.turned (fun b o hb e=>kk b o (by simpa using hb) e) f0 f1 f3 f4 f5⟩
 self:=fun A i s Q E st h=>hself A i s Q E st.2 h
noncomputable def Yu (c:Nat):Str:=⟨#[c]⟩
noncomputable def zj (x:Str):List V:=x.cps.toList.map fun c=>V.str (Yu c)
theorem Tm (x:Str):(zj x).length=x.cps.size:=by unfold zj;simp
theorem lE {x:Str} {i c:Nat} (h:x.cps[i]? = some c):(zj x)[i]? = some (.str (Yu c)):=by
 unfold zj
 rw [List.getElem?_map,Array.getElem?_toList,h]
 rfl
theorem yt {x:Str} {i:Nat} {v:Value} (h:SignAt x i v):∃ y,(zj x)[i]? = some y∧Ld y v:=by
 obtain ⟨c,u,hc,rfl⟩:=h
 exact ⟨.str (Yu c),lE hc,u,rfl⟩
section
variable {X:Cx} {tg:Expr}
noncomputable def EN (tl:TE):TI:=fun σ H R=>tl σ H fun x H1=>∃ z,x=.str z∧R (Its (zj z)) H1
theorem gM {l:Expr} {tl:TE} (hl:PE X l tl):PI X tg l (EN tl):=by
 intro pins s σ H R I h
 refine thn (hl pins s σ H _ I h) fun v s1 hZ1=>?_
 obtain ⟨x,H1,I1,r1,q1⟩:=hZ1
 obtain ⟨z,e,q⟩:=q1
 subst e
 obtain ⟨t,rfl⟩:=r1
 have fo:∀ b ∈ [s1.heap.objs.size],sw X pins H1 b:=fun b hb=>by
  have e:b=s1.heap.objs.size:=by simpa using hb
  subst e
  exact I1.fpOk (Nat.le_refl _) (I1.hok.fresh (Nat.le_refl _))
 have hz:=Tm z
 cases ha:z.cps.all (· < 128) with
 | false=>
  refine wpAny_pyIter_wide ha ⟨s1.heap.objs.size,[s1.heap.objs.size],fun i h=>i ≤ (zj z).length∧h.IsStrIter s1.heap.objs.size "str_iterator" z t i,_,H1,rfl,I1.kept (t':=s1.toks) fun b o e=>Heap.get?_push_of_some _ e,
   ut (fun A hA=>by rw [hz];exact Walks.strWide hA _ z t) (fun i v=>yt) (fun i h ⟨o,e,c,d⟩=>⟨o,_,_,e,c,d,by decide⟩) (fun i h h' ⟨o,e,r⟩ k=>⟨o,k o e,r⟩) (fun A i s Q E st q=>wpAny_pyIter_striter_wide st q),
   ⟨Nat.zero_le _,_,Heap.get?_push_size _ rfl,rfl,rfl⟩,fo,q⟩
 | true=>
  refine wpAny_pyIter_ascii ha ⟨s1.heap.objs.size,[s1.heap.objs.size],fun i h=>i ≤ (zj z).length∧h.IsStrIter s1.heap.objs.size "str_ascii_iterator" z t i,_,H1,rfl,I1.kept (t':=s1.toks) fun b o e=>Heap.get?_push_of_some _ e,
   ut (fun A hA=>by rw [hz];exact Walks.strAscii hA _ z t) (fun i v=>yt) (fun i h ⟨o,e,c,d⟩=>⟨o,_,_,e,c,d,by decide⟩) (fun i h h' ⟨o,e,r⟩ k=>⟨o,k o e,r⟩) (fun A i s Q E st q=>wpAny_pyIter_striter_ascii st q),
   ⟨Nat.zero_le _,_,Heap.get?_push_size _ rfl,rfl,rfl⟩,fo,q⟩
end
theorem pJ {xs:List V} {g:TG} {tb:TS} {D:Mi} {σ:St} {H:Hp} (Pv:Nat→St→Hp→Prop) (h0:Pv 0 σ H)
  (hs:∀ i x σ H,xs[i]? = some x→Pv i σ H→g x σ H fun σ2 H2=>tb { D with nx:=Pv (i + 1),ct:=Pv (i + 1),bk:=D.nx } σ2 H2) (hd:∀ σ H,Pv xs.length σ H→D.nx σ H) :
  ∃ W:Nat→Nat→St→Hp→Prop,(∃ m,W 0 m σ H)∧∀ i m σ H,W i m σ H →
   ((Its xs).stop i H∧D.nx σ H)∨((Its xs).go i H∧∃ N:St→Hp→Prop,(∀ σ' H',N σ' H'→∃ m',m' < m∧W (i + 1) m' σ' H')∧∀ x H',(Its xs).yld i H x H'→g x σ H' fun σ2 H2=>tb { D with nx:=N,ct:=N,bk:=D.nx } σ2 H2):=by
 refine ⟨fun i m σ H=>m=xs.length - i∧i ≤ xs.length∧Pv i σ H,⟨xs.length,by simp,Nat.zero_le _,h0⟩,?_⟩
 rintro i m σ H ⟨rfl,hi,p⟩
 by_cases hlt:i < xs.length
 ·refine .inr ⟨hlt,Pv (i + 1),fun σ' H' p'=>⟨xs.length - (i + 1),by omega,rfl,hlt,p'⟩,fun x H' y=>?_⟩
  obtain ⟨e,y⟩:=y
  subst e
  exact hs i x σ _ y p
 ·have e:i=xs.length:=by omega
  subst e
  exact .inl ⟨Nat.le_refl _,hd σ H p⟩
theorem LG {xs:List V} {g:TG} {tc:TT} {te:TE} {σb:St} {Q:VK} {H:Hp} (Pv:Nat→List V→Hp→Prop) (hz:xs.length ≤ sizeLine) (h0:Pv 0 [] H) (hl:∀ i ys H,i ≤ xs.length→Pv i ys H→ys.length ≤ i)
  (hs:∀ i x ys H,xs[i]? = some x→Pv i ys H→Ng Pv g tc te σb i x ys H) (hd:∀ ys H,Pv xs.length ys H→∀ p,H p=none→Q (.ref p) (upd H p (.lst ys))) :
  ∃ W:Nat→Nat→List V→Hp→Prop,(∃ m,W 0 m [] H)∧Nx (Its xs) g tc te σb Q W:=by
 refine ⟨fun i m ys H=>m=xs.length - i∧i ≤ xs.length∧Pv i ys H,⟨xs.length,by simp,Nat.zero_le _,h0⟩,?_⟩
 rintro i m ys H ⟨rfl,hi,p⟩
 have hyl:=hl i ys H hi p
 by_cases hlt:i < xs.length
 ·refine .inr ⟨hlt,by omega,fun x H' y=>?_⟩
  obtain ⟨e,y⟩:=y
  subst e
  exact hs i x ys _ y p (fun ys' H'=>∃ m',m' < xs.length - i∧m'=xs.length - (i + 1)∧i + 1 ≤ xs.length∧Pv (i + 1) ys' H') fun ys' H' r=>⟨xs.length - (i + 1),by omega,rfl,hlt,r⟩
 ·have e:i=xs.length:=by omega
  subst e
  exact .inl ⟨Nat.le_refl _,hd ys H p⟩
section
variable {X:Cx}
noncomputable def tN:V→Option Int→Option Int→Hp→VK→Prop:=fun x lo hi H Q=>∃ z,x=.str z∧z.length ≤ sizeLine∧Q (.str (Txt.slice z lo hi)) H
theorem Ly:SlR X tN:=by
 intro pins s σ H x v vl vu lo hi sl Q I rx hs pl pu h
 obtain ⟨z,rfl,hz,q⟩:=h
 obtain ⟨t,rfl⟩:=rx
 refine ⟨"str",_,F.slot_str_getitem.lookup,typeIs_str s z t,?_⟩
 have fin:∀ t' k,EP X pins σ Q (.str (Txt.slice z lo hi) t') { s with toks:=k }:=fun t' k=>⟨.str _,H,I.tok _,⟨_,rfl⟩,q⟩
 cases pl with
 | none=>
  cases pu with
  | none=>exact wpAny_getItem_str_slice (l:=none) (u:=none) (st:=none) hs rfl (post_val_or_str ⟨Nat.le_trans (Txt.slice_le z _ _) hz,fin⟩)
  | int j uj=>exact wpAny_getItem_str_slice (l:=none) (u:=some (j,uj)) (st:=none) hs rfl (post_val_or_str ⟨Nat.le_trans (Txt.slice_le z _ _) hz,fin⟩)
 | int i ui=>
  cases pu with
  | none=>exact wpAny_getItem_str_slice (l:=some (i,ui)) (u:=none) (st:=none) hs rfl (post_val_or_str ⟨Nat.le_trans (Txt.slice_le z _ _) hz,fin⟩)
  | int j uj=>exact wpAny_getItem_str_slice (l:=some (i,ui)) (u:=some (j,uj)) (st:=none) hs rfl (post_val_or_str ⟨Nat.le_trans (Txt.slice_le z _ _) hz,fin⟩)
noncomputable def wb (ys:List Str):List V:=ys.map V.str
theorem Pz:∀ {ys:List Str} {us:List Value},Qd (wb ys) us→StrsAre us ys:=by
 intro ys
 induction ys with
 | nil=>intro us r;cases r;exact .nil
 | cons y ys ih=>
  intro us r
  cases r with
  | cons r1 r2=>
   obtain ⟨t,rfl⟩:=r1
   exact .cons y t (ih r2)
theorem Hv:∀ (l:List (Str × Tok)),Qd (wb (l.map (·.1))) (strValues l)
 | []=>.nil
 | (x,t) :: r=>.cons ⟨t,rfl⟩ (Hv r)
noncomputable def lK (K:PySem.W.Frag):V→List V→Hp→VK→Prop:=fun x vs H Q=>∃ sep p ys,x=.str sep∧vs=[.ref p]∧SqL K H p (wb ys)∧(ys.map (·.length)).sum + ys.length * sep.length ≤ 16777216∧Q (.str (Txt.join sep ys)) H
theorem Lp:MtR X "str.join" (lK X.K):=by
 intro pins s σ H x xs v us Q I rx rv h
 obtain ⟨sep,p,ys,rfl,rfl,hq,hz,q⟩:=h
 obtain ⟨t,rfl⟩:=rx
 obtain ⟨u,rfl,ru⟩:=Gr rv
 cases ru
 obtain ⟨its,r,pl,_⟩:=I.list hq
 exact join_list pl.isList (by simpa using Pz r) hz fun t' k=>⟨.str _,H,I.tok _,⟨_,rfl⟩,q⟩
end
theorem lA {prog:Program} {w:World} {A:Around} {E:Value→Shared→Prop} {s:Shared} {x y:Str} {t u:Tok} {Q:Value→Shared→Prop} (hy:(y.length == 0)=false)
  (h:∀ l k,l.map (·.1)=Txt.split x y→Q (.ref s.heap.objs.size) { s with heap:=s.heap.push { cls:=.type "list",data:=.seq (strValues l).toArray },toks:=k }) (hsz:x.length + 2 ≤ sizeLine) :
  wpAny (model prog w) A (call (.builtin "str.split") [.str x t,.str y u]) Q E s:=by
 have hn:(Builtin.Str.partsBetween x (Builtin.Str.occurrences x y 0 x.length (x.length + 1)) y.length).length ≤ sizeLine:=by
  have e1:=StrLaws.occ_length_le x y 0 x.length (x.length + 1)
  rw [length_partsBetween];omega
 cases h1:(decide (x.length < y.length) || decide (Builtin.Str.strKind x < Builtin.Str.strKind y))
 ·cases hf:(Builtin.Str.occurrences x y 0 x.length (x.length + 1)).isEmpty
  ·refine call_meets F.slot_str_split (typeIs_str _ _ _) F.entry_str_split (F.args_str_split_2 _ _) (meets_str_split_sep x y t u h1 hy hf (by omega) hn) ?_
   show wants Q E _ { s with toks:=_,heap:=s.heap.push { cls:=.type "list",data:=.seq (strsFrom s.toks (Builtin.Str.partsBetween x (Builtin.Str.occurrences x y 0 x.length (x.length + 1)) y.length)).toArray } }
   rw [strsFrom_eq]
   exact h (numbered s.toks _) _ ((numbered_texts _ _).trans ((if_neg (ne_true_of_eq_false h1)).trans (if_neg (ne_true_of_eq_false hf))).symm)
  ·exact call_meets F.slot_str_split (typeIs_str _ _ _) F.entry_str_split (F.args_str_split_2 _ _) (meets_str_split_not_found x y t u h1 hy hf)
    (h [(x,t)] s.toks ((if_neg (ne_true_of_eq_false h1)).trans (if_pos hf)).symm)
 ·exact call_meets F.slot_str_split (typeIs_str _ _ _) F.entry_str_split (F.args_str_split_2 _ _) (meets_str_split_cannot_occur x y t u h1)
   (h [(x,t)] s.toks (if_pos h1).symm)
section
variable {X:Cx}
noncomputable def VH:V→List V→Hp→VK→Prop:=fun x vs H Q=>∃ z y,x=.str z∧vs=[.str y]∧y.length ≠ 0∧z.length + 2 ≤ sizeLine∧(Txt.split z y).length ≤ sizeLine∧∀ p,H p=none→Q (.ref p) (upd H p (.lst (wb (Txt.split z y))))
theorem zz:MtR X "str.split" VH:=by
 intro pins s σ H x xs v us Q I rx rv h
 obtain ⟨z,y,rfl,rfl,hy,hz,hn,q⟩:=h
 obtain ⟨t,rfl⟩:=rx
 obtain ⟨u,rfl,ru⟩:=Gr rv
 obtain ⟨tu,rfl⟩:=ru
 refine lA (by simpa using hy) (fun l k hl=>?_) hz
 refine ⟨.ref s.heap.objs.size,_,I.laid (t':=k) (o:=.lst (wb (Txt.split z y))) (fun b o e=>Heap.get?_push_of_some _ e) (Nat.le_refl _) ⟨by unfold wb;rw [List.length_map];exact hn,strValues l,0,by rw [← hl];exact Hv l,Heap.get?_push_size _ rfl⟩,rfl,q _ (I.hok.fresh (Nat.le_refl _))⟩
theorem uB:am X (.type "int") (fun xs H Q=>∃ z n,xs=[.str z]∧intText? z=some n∧z.length ≤ 640∧Q (.int n) H):=by
 intro pins s σ H xs us Q I r h
 obtain ⟨z,n,rfl,hn,hz,q⟩:=h
 obtain ⟨u,rfl,t,rfl⟩:=Gr r
 exact PySem.W.KIN.call_text hn hz ⟨.int n,H,I.tok _,⟨_,rfl⟩,q⟩
theorem Aw:∀ {bs:List Bool} {us:List Value},Qd (bs.map V.bl) us→us=bs.map Value.bool
 | [],_,.nil=>rfl
 | b :: bs,_,.cons r t=>by
  have e:_=Value.bool b:=r
  rw [e,Aw t];rfl
theorem cx {A:Around} (bs:List Bool):TruthOf X.prog X.w A (fun i v=>(bs.map Value.bool).toArray[i]? = some v) (fun i=>bs.getD i true):=by
 intro i v s Q E hP hQ
 have e:(bs.map Value.bool)[i]? = some v:=by simpa using hP
 rw [List.getElem?_map] at e
 cases q:bs[i]? with
 | none=>rw [q] at e;cases e
 | some b=>
  rw [q] at e
  have e':Value.bool b=v:=Option.some.inj e
  subst e'
  refine wpAny_truthy_bool ?_
  have:bs.getD i true=b:=by simp [List.getD,q]
  have hQ':Q (bs.getD i true) s:=hQ
  rw [this] at hQ'
  exact hQ'
theorem dC (bs:List Bool):(List.range bs.length).all (fun i=>bs.getD i true)=bs.all id:=by
 rw [Bool.eq_iff_iff]
 simp only [List.all_eq_true,List.mem_range,id]
 constructor
 ·intro h b hb
  obtain ⟨i,hi,e⟩:=List.mem_iff_getElem.mp hb
  have:=h i hi
  simp [List.getD,hi,e] at this
  exact this
 ·intro h i hi
  simp [List.getD,hi]
  exact h _ (List.getElem_mem hi)
theorem bH (hc:X.calm=true):am X (.builtin "all") (fun xs H Q=>∃ (p:Addr) (bs:List Bool),xs=[.ref p]∧SqL X.K H p (bs.map V.bl)∧Q (.bl (bs.all id)) H):=by
 intro pins s σ H xs us Q I r h
 obtain ⟨p,bs,rfl,hq,q⟩:=h
 obtain ⟨u,rfl,ru⟩:=Gr r
 cases ru
 obtain ⟨its,rv,pl,_⟩:=I.list hq
 have e:=Aw rv
 subst e
 refine call_all_walk (wpAny_pyIter_list pl.isList ?_)
 have hne:p ≠ s.heap.objs.size:=Nat.ne_of_lt (by obtain ⟨o,_,ho,_⟩:=pl;exact Heap.lt_size ho)
 refine ⟨s.heap.objs.size,_,_,_,_,_,fun i=>bs.getD i true,rfl,Walks.list (show X.A.in1.handled=none from I.ok.hd hc) _ p hne (bs.map Value.bool).toArray,⟨⟨_,Heap.get?_push_size _ rfl,rfl,rfl⟩,pl.isList.at fun o e=>Heap.get?_push_of_some _ e⟩,cx bs,fun h' tk kk=>?_⟩
 refine ⟨.bl (bs.all id),H,I.kept fun b o e=>kk b o (by simpa using Nat.ne_of_lt (Heap.lt_size e)) (Heap.get?_push_of_some _ e),?_,q⟩
 show Value.bool _=Value.bool _
 rw [show (bs.map Value.bool).toArray.size=bs.length by simp,dC]
theorem Gy:am X (.builtin "isinstance") (fun xs H Q=>∃ x T t b,xs=[x,.ty T]∧Jz X.K H x t∧PySem.W.kitOne X.K t (.type T)=some b∧Q (.bl b) H):=by
 intro pins s σ H xs us Q I r h
 obtain ⟨x,T,t,b,rfl,ty,e,q⟩:=h
 obtain ⟨u,u2,rfl,rx,r2⟩:=jJ r
 cases r2
 exact FB I rx ty e fun tk=>⟨.bl b,H,I.tok _,rfl,q⟩
end
end L2
namespace L2
open PySem PySem.Spec PyProof.Rows
theorem Je {X:Cx} {N:List Str} (h:N.Nodup) (e:X.N=N):X.N.Nodup:=e ▸ h
noncomputable def RB (sc scope:Scope):Bool:=
 (scope.kind == .function) && scope.names.all (fun y=>y.2 != .cell) && scope.names.all (fun y=>y.2 != .free || sc.names.lookup y.1 == some .cell || sc.names.lookup y.1 == some .free) &&
  scope.names.all (fun y=>y.2 != .local || scope.names.lookup y.1 == some .local)
theorem Bc {env:Env} {sc scope:Scope} (he:env.scope=sc) (h:RB sc scope=true):bo env scope:=by
 subst he
 unfold RB at h
 simp only [Bool.and_eq_true,List.all_eq_true] at h
 obtain ⟨⟨⟨h1,h2⟩,h3⟩,h4⟩:=h
 refine ⟨by simpa using h1,fun y hy e=>?_,fun y hy e=>?_,fun y hy e=>?_⟩
 ·have:=h2 y hy
  rw [e] at this
  exact absurd this (by decide)
 ·have:=h3 y hy
  rw [e] at this
  simp only [Bool.or_eq_true] at this
  rcases this with (z | z) | z
  ·exact absurd z (by decide)
  ·exact .inl (show env.scope.names.lookup y.1=some .cell by simpa using z)
  ·exact .inr (show env.scope.names.lookup y.1=some .free by simpa using z)
 ·have:=h4 y hy
  rw [e] at this
  simp only [Bool.or_eq_true] at this
  rcases this with z | z
  ·exact absurd z (by decide)
  ·simpa using z
noncomputable def AN (M:List Str) (scope:Scope) (N:List Str) (sel:List (Option Nat)):Bool:=
 sel.length == N.length && (sel.zip N).all fun p=>match p.1 with | none=>true | some j=>M[j]? == some p.2 && scope.names.lookup p.2 == some .free
theorem Uc {M:List Str} {scope:Scope} {N:List Str} {sel:List (Option Nat)} (h:AN M scope N sel=true):pC M scope N sel:=by
 unfold AN at h
 simp only [Bool.and_eq_true,List.all_eq_true] at h
 refine ⟨by simpa using h.1,fun i j x e1 e2=>?_⟩
 have hm:(some j,x) ∈ sel.zip N:=by
  rw [List.mem_iff_getElem?]
  exact ⟨i,by rw [List.getElem?_zip_eq_some];exact ⟨e1,e2⟩⟩
 have:=h.2 _ hm
 simp only [Bool.and_eq_true] at this
 exact ⟨by simpa using this.1,by simpa using this.2⟩
noncomputable def noT:HO→Bool
 | .dT _=>false
 | .frz _ u=>noT u
 | _=>true
noncomputable def NoT (H:Hp):Prop:=∀ b o,H b=some o→noT o=true
theorem zd.back {P:Program} {w:World} {H H':Hp} {h h':Heap} {a:Addr}:∀ (o:HO),noT o=true→zd P w H' h' a o→zd P w H h a o→zd P w H h' a o
 | .lst _,_,x,_=>x
 | .tup _,_,x,_=>x
 | .dK _,_,x,_=>x
 | .dT _,e,_,_=>absurd e (by unfold noT;decide)
 | .set _ _,_,x,_=>x
 | .ins _ _ _,_,x,y=>⟨y.1,x.2⟩
 | .own _,_,x,_=>x
 | .xd _,_,x,_=>x
 | .met _ _,_,x,_=>x
 | .rng _ _,_,x,_=>x
 | .frz ob u,e,x,y=>⟨x.1,zd.back u (by unfold noT at e;exact e) x.2 y.2⟩
 | .tbl _,_,x,_=>x
 | .ext _,_,x,_=>x
section
variable {P:Program} {w:World} {K:PySem.W.Frag} {mg:Str→Option Value} {base:Heap}
theorem Jb.forget {k:Nat} {f:Addr} {fd:FuncData} {ps:List Str} {sp sp':Sp} (F:Jb P w K mg base CX0 k f fd ps sp)
  (h:∀ vs H Q E,sp' vs H Q E→NoT H∧sp vs H (fun v H'=>Vb H H'∧Q v H) E):Jb P w K mg base CX0 k f fd ps sp':=by
 refine ⟨fun vs H Q E q=>F.len vs H _ E (h vs H Q E q).2,fun A outer s H args us vs Q E hr he hb hv hs=>?_⟩
 obtain ⟨nt,q⟩:=h vs H Q E hs
 refine codeAny_mono (F.run A outer s H args us vs _ E hr he hb hv q) fun r s' hq=>?_
 cases r with
 | error e=>exact hq
 | ok fl=>
  cases fl with
  | next=>exact hq
  | brk=>exact hq
  | cont=>exact hq
  | ret u=>
   obtain ⟨v,H',os,bare,un,hok,rv,sm,q'⟩:=hq
   exact ⟨v,H,os,bare,⟨un.keep,un.slot,fun _ _ _ n _=>n,un.there,fun _ _ z=>z,fun _ _ _ z=>z,fun _ ps z=>⟨#[],by rw [z];simp⟩⟩,fun a o e=>(hok a o (sm a o e)).back o (nt a o e) (he.hok a o e),rv,q'⟩
end
theorem pb {H:Hp} {p:Addr} {o:HO} (h:H p=none):Vb H (upd H p o):=fun b u q=>by rw [lb (vb q h)];exact q
theorem Vb.updN {H H1:Hp} {p:Addr} {o:HO} (s:Vb H H1) (h:H p=none):Vb H (upd H1 p o):=fun b u q=>by rw [lb (vb q h)];exact s b u q
structure Sc (K:PySem.W.Frag) (a:Addr) (ns:List Int) (H:Hp):Prop where
 sq:(∃ o,H a=some (.frz o (.lst (ns.map V.int))))∨∃ (o:Obj) (its:Array Value) (n:Nat),K.lookup a=some o∧o.cls=.type "list" ∧ o.dict=none∧o.data=.seq its n∧its.size ≤ sizeLine∧Qd (ns.map V.int) its.toList
 nt:NoT H
section
variable {K:PySem.W.Frag} {a p:Addr} {ns:List Int} {H H':Hp} {o:HO}
theorem Sc.seq (s:Sc K a ns H):SqL K H a (ns.map V.int):=by
 rcases s.sq with ⟨o,h⟩ | h
 ·exact .inl (.inr ⟨o,h⟩)
 ·exact .inr h
theorem Sc.new (s:Sc K a ns H) (hp:H p=none) (ho:noT o=true:=by rfl):Sc K a ns (upd H p o):=by
 refine ⟨?_,fun b u e=>?_⟩
 ·rcases s.sq with ⟨ob,h⟩ | h
  ·exact .inl ⟨ob,by rw [lb (vb h hp)];exact h⟩
  ·exact .inr h
 ·by_cases hb:b=p
  ·subst hb;rw [db] at e;cases e;exact ho
  ·rw [lb hb] at e;exact s.nt b u e
theorem Sc.set {u:HO} (s:Sc K a ns H) (hp:H p=some u) (hu:∀ ob z,u ≠ .frz ob z) (ho:noT o=true:=by rfl):Sc K a ns (upd H p o):=by
 refine ⟨?_,fun b x e=>?_⟩
 ·rcases s.sq with ⟨ob,h⟩ | h
  ·refine .inl ⟨ob,?_⟩
   have hne:a ≠ p:=fun z=>by subst z;rw [hp] at h;exact hu _ _ (Option.some.inj h)
   rw [lb hne];exact h
  ·exact .inr h
 ·by_cases hb:b=p
  ·subst hb;rw [db] at e;cases e;exact ho
  ·rw [lb hb] at e;exact s.nt b x e
theorem Sc.of_only (hO:UK H) (hS:SqL K H a (ns.map V.int)):Sc K a ns H:=by
 refine ⟨?_,fun b u e=>?_⟩
 ·rcases hS with (h | ⟨o,h⟩) | h
  ·rcases hO a with z | ⟨ob,xs,z⟩
   ·rw [h] at z;cases z
   ·rw [h] at z;cases z
  ·exact .inl ⟨o,h⟩
  ·exact .inr h
 ·rcases hO b with z | ⟨ob,xs,z⟩
  ·rw [e] at z;cases z
  ·rw [e] at z;cases z;rfl
end
noncomputable def DK (K:PySem.W.Frag):Sp:=fun vs H Q _=>∃ (a:Addr) (ns:List Int),vs=[.ref a]∧Sc K a ns H∧ns.length ≤ 63∧∀ H',Q (.bl true) H'
theorem fc:bootBuiltins "len"=some (.builtin "len"):=PySem.boot_len
theorem gB:bootBuiltins "all"=some (.builtin "all"):=by decide +kernel
theorem Hk:bootBuiltins "max"=some (.builtin "max"):=by decide +kernel
theorem mi:bootBuiltins "isinstance"=some (.builtin "isinstance"):=by decide +kernel
theorem Kk:bootBuiltins "int"=some (.type "int"):=by decide +kernel
theorem zi:bootBuiltins "str"=some (.type "str"):=by decide +kernel
theorem ay:bootBuiltins "bool"=some (.type "bool"):=by decide +kernel
theorem Ix:bootBuiltins "list"=some (.type "list"):=by decide +kernel
theorem Rd.same {H H':Hp} {a:Addr} {o:HO} (h:Rd H a o) (s:Vb H H'):Rd H' a o:=by
 rcases h with h | ⟨ob,h⟩
 ·exact .inl (s _ _ h)
 ·exact .inr ⟨ob,s _ _ h⟩
theorem SqL.same {K:PySem.W.Frag} {H H':Hp} {a:Addr} {xs:List V} (h:SqL K H a xs) (s:Vb H H'):SqL K H' a xs:=by
 rcases h with h | h
 ·exact .inl (h.same s)
 ·exact .inr h
theorem SqT.same {K:PySem.W.Frag} {H H':Hp} {a:Addr} {xs:List V} (h:SqT K H a xs) (s:Vb H H'):SqT K H' a xs:=by
 rcases h with h | h
 ·exact .inl (h.same s)
 ·exact .inr h
theorem NoT.upd {H:Hp} {p:Addr} {o:HO} (h:NoT H) (ho:noT o=true:=by rfl):NoT (upd H p o):=fun b u e=>by
 by_cases hb:b=p
 ·subst hb;rw [db] at e;cases e;exact ho
 ·rw [lb hb] at e;exact h b u e
theorem Sc.same {K:PySem.W.Frag} {a:Addr} {ns:List Int} {H H':Hp} (s:Sc K a ns H) (sm:Vb H H') (nt:NoT H'):Sc K a ns H':=by
 refine ⟨?_,nt⟩
 rcases s.sq with ⟨o,h⟩ | h
 ·exact .inl ⟨o,sm _ _ h⟩
 ·exact .inr h
end L2
namespace L2
open PySem PySem.Spec PyProof.Rows
structure FN (K:PySem.W.Frag) (C:Addr) (m:Str) (f:Addr):Prop where
 rd:PySem.W.readsIn K C (.type "type")=true
 fd:PySem.W.findCls K (.ref C) (.type "type") m=some (.val (.ref f))
 ga:PySem.W.specialIn K (.ref C) "__getattribute__"=some (some (.builtin "type.__getattribute__"))
 kp:PySem.W.keepIn K (.ref f)=true
structure UI (P:Program) (w:World) (K:PySem.W.Frag) (mg:Str→Option Value) (base:Heap) (CX:CXT) (k:Nat) (OK:Addr→Prop) (m:Str) (ps:List Str) (SPV:Addr→Sp):Prop where
 ok:∀ C,OK C→∃ f fd,Cls K C∧xt K C m f∧Jb P w K mg base CX k f fd ps (SPV C)∧Yb K fd ps []
noncomputable def BH (OK:Addr→Prop) (m:Str) (SPV:Addr→Sp) (E:XK) (ta:TE) (t:TA):TE:=fun σ H Q=>ta σ H fun x H1=>∃ a C dx fs,x=.ref a∧H1 a=some (.ins C dx fs)∧OK C∧fs.lookup m=none ∧
 t σ H1 fun vs H2=>SPV C (x :: vs) H2 Q E
section
variable {X:Cx} {CX:CXT} {k:Nat} {f C:Addr} {fd:FuncData} {ps:List Str} {sp:Sp} {dvs:List V} {ds:List Value} {E:XK} {x m:Str} {p pos apos:Pos} {e o:Expr} {es:List Expr} {ta:TE} {t:TA}
theorem du {pl:Sem Bool} (hg:Gl X x) (hm:X.mg x=some (.ref C)) (c:FN X.K C m f) (F:Jb X.prog X.w X.K X.mg X.base CX k f fd ps sp) (hr:Aj k X.A) (hb:Yb X.K fd ps ds) (hd:Qd dvs ds) (hx:Hl CX X E) (ha:PA X (e :: es) t)
  (hdb:(x == ("__debug__" : Str))=false:=by decide) (hst:starEach (e :: es) X.env=(false,eval e X.env) :: starEach es X.env:=by rfl) (hpl:(backTo pos (starEach es X.env)).any (·.1)=false:=by rfl)
  (ht:eval (.Call (.Attribute (.Name x p) m apos) (e :: es) [] pos) X.env=(do
   let ov ← eval (.Name x p) X.env
   standAt apos.atName
   let (f,first) ← holding [ov] (getMethod ov m pl)
   callWith pos f first (backTo pos (starEach (e :: es) X.env)) (backToKw pos (keywordEach [] X.env))):=by rfl) :
  PE X (.Call (.Attribute (.Name x p) m apos) (e :: es) [] pos) (OJ sp dvs E t):=by
 intro pins s σ H Q I h
 refine PySem.W.methodCall_KW (pl:=pl) (Cn I hg hm ?_ hdb) ht
 refine PySem.W.method_cls I.kIn c.ga (PySem.W.cls_value I.kIn c.rd c.fd rfl ?_)
 have I1:=I.tok (s.toks + 1)
 refine PySem.W.callWith_K (first:=[]) (h₀:=X.base) I.ok.mod.kin c.kp (thn (ha pos pins _ σ H _ I1 h) fun us s2 ⟨vs,H2,I2,r,q2⟩=>⟨I2.kIn,?_⟩) hst hpl
 exact Kw F hr hb hd hx I2 r q2
variable {OK:Addr→Prop} {SPV:Addr→Sp}
theorem Rv {pl:Sem Bool} (he:PE X o ta) (V:UI X.prog X.w X.K X.mg X.base CX k OK m ps SPV) (hr:Aj k X.A) (hx:Hl CX X E)
  (ht:eval (.Call (.Attribute o m apos) [] [] pos) X.env=(do
   let ov ← eval o X.env
   standAt apos.atName
   let (f,first) ← holding [ov] (getMethod ov m pl)
   callWith pos f first (backTo pos (starEach [] X.env)) (backToKw pos (keywordEach [] X.env))):=by rfl) :
  PE X (.Call (.Attribute o m apos) [] [] pos) (BH OK m SPV E ta tM):=by
 intro pins s σ H Q I h
 refine PySem.W.methodCall_KW (pl:=pl) (thn (he pins s σ H _ I h) fun u s1 hZ1=>?_) ht
 obtain ⟨x,H1,I1,rx,a,C,dx,fs,ex,ea,ok,l,q⟩:=hZ1
 subst ex
 obtain rfl:u=Value.ref a:=rx
 obtain ⟨f,fd,c,hm,F,hb⟩:=V.ok C ok
 refine Hn I1 ea c hm l ?_
 exact PySem.W.callWith_K0 (first:=[.ref a]) I1.kIn hm.kp (Kw (us:=[.ref a]) (vs:=[.ref a]) (dvs:=[]) F hr hb .nil hx I1 (.cons rfl .nil) q)
end
section
variable {X:Cx} {x:Str} {p pos:Pos} {i:Expr} {ty:TE} {u:Value} {kvs:List (Str × V)}
end
noncomputable def Li (K:PySem.W.Frag) (H:Hp) (a:Addr) (f:Str) (v:V):Prop:=∃ C dx fs,H a=some (.ins C dx fs)∧Cls K C∧Ib K C f∧fs.lookup f=some v
theorem Jc {f:Str} {v:V}:∀ {fs:List (Str × V)} (ks:List Str),fs.map (·.1)=ks→ks.contains f=false→yg f v fs=fs ++ [(f,v)]
 | [],_,_,_=>rfl
 | (g,y) :: r,ks,e,h=>by
  cases e
  rw [List.map_cons,List.contains_cons] at h
  have h1:=(Bool.or_eq_false_iff.mp h)
  have hne:¬ g=f:=fun z=>by
   have:=h1.1
   rw [z] at this
   simp at this
  show (if g=f then _ else _)=_
  rw [if_neg hne,Jc _ rfl h1.2]
  rfl
theorem Ko {f:Str} {v:V} {fs:List (Str × V)} {n:Nat} (h:fs.length < n):(yg f v fs).length < n + 1:=Nat.lt_of_le_of_lt (Kl f v fs) (by omega)
theorem Kd {f:Str} {v:V}:∀ {fs:List (Str × V)} (ks:List Str) (i:Nat),fs.map (·.1)=ks→ks.findIdx? (· == f)=some i→fs[i]? = some (f,v)→fs.lookup f=some v
 | [],_,_,_,_,h=>by simp at h
 | (g,y) :: r,ks,i,e,h,hv=>by
  cases e
  rw [List.map_cons,List.findIdx?_cons] at h
  rw [List.lookup]
  by_cases e:g=f
  ·subst e
   rw [beq_self_eq_true,if_pos rfl] at h
   cases h
   have:(g,y)=(g,v):=by simpa using hv
   cases this
   rw [beq_self_eq_true]
  ·rw [beq_eq_false_iff_ne.mpr e,if_neg (by decide)] at h
   obtain ⟨j,hj,rfl⟩:=Option.map_eq_some_iff.mp h
   rw [beq_eq_false_iff_ne.mpr (fun z=>e z.symm)]
   exact Kd _ j rfl hj (by simpa using hv)
theorem Lm {f:Str}:∀ {fs:List (Str × V)} (ks:List Str),fs.map (·.1)=ks→ks.contains f=false→fs.lookup f=none
 | [],_,_,_=>rfl
 | (g,y) :: r,ks,e,h=>by
  cases e
  rw [List.map_cons,List.contains_cons] at h
  have h1:=(Bool.or_eq_false_iff.mp h)
  rw [List.lookup,h1.1]
  exact Lm _ rfl h1.2
end L2
namespace L2
open PySem PySem.Spec PyProof.Rows
theorem Inv.turnedL {X:Cx} {pins:List (Addr × Obj)} {σ:St} {H:Hp} {s:Shared} {h':Heap} {t':Nat} {fp:List Addr} (I:Inv X pins σ H s) (k:∀ b o,b ∉ fp→s.heap.get? b=some o→h'.get? b=some o)
  (hf:∀ b ∈ fp,sw X pins H b):Inv X pins σ H { s with heap:=h',toks:=t' }:=by
 have nit:∀ b u,H b=some u→b ∉ fp:=fun b u e z=>by rw [(hf b z).1] at e;cases e
 refine I.step (g':=s.gens) (d':=s.drawn) (ch:=fp) (fun b hb=>?_) (fun b o _ _ hc e _=>k b o hc e) (fun b o _ _ hc e _=>⟨o.slots,k b o hc e⟩) (fun _ _ _ _ n=>n)
  (fun b o hc e=>⟨o,k b o hc e⟩) (fun _ _ e=>e) (fun _ _ _ e=>e) (fun b ps e=>⟨#[],by rw [e];simp⟩) (fun m hm=>?_) (fun b u e=>?_) I.bare
 ·obtain ⟨f0,f1,f2,f3,f4,f5⟩:=hf b hb
  exact ⟨f3,f1,f4,f5⟩
 ·obtain ⟨o,es,ep,ho,r⟩:=hm
  exact ⟨o,es,ep,k _ o (fun z=>(hf _ z).2.1 rfl) ho,r⟩
 ·refine (I.hok b u e).stay (fun c v hc q=>k c v ?_ q) (fun _ q=>q) fun _ _ q=>q
  rcases hc with z | z
  ·rw [z];exact nit b u e
  ·exact nit c _ z
noncomputable def Ite (K:PySem.W.Frag) (a:Addr):It:=
 ⟨fun i H=>∃ xs x,SqL K H a xs∧xs[i]? = some x,fun i H v H'=>∃ p y,H p=none∧v=.ref p∧(∀ xs,SqL K H a xs→xs[i]? = some y)∧H'=upd H p (.tup [.int i,y]),fun i H=>∃ xs,SqL K H a xs∧xs.length ≤ i⟩
theorem fE {P:Program} {w:World} {K:PySem.W.Frag} {es:List Expr} {k} {pos:Pos} (a e it:Addr) (hne:e ≠ it) :
  XJ P w K (.Tuple es k pos) (Ite K a) [e,it] e (fun i h=>∃ old,IsEnum h e it ((i:Nat):Int) old∧h.IsListIter it a i) where
 mem:=by simp
 obj:=fun i h ⟨old,he,hi⟩ b hb=>by
  simp only [List.mem_cons,List.not_mem_nil,or_false] at hb
  rcases hb with rfl | rfl
  ·exact ⟨_,he,fun v z=>by
    have z':Data.fields _=Data.cell v:=z
    cases z'⟩
  ·obtain ⟨o,q,c,d⟩:=hi
   exact ⟨o,q,fun v z=>by rw [d] at z;cases z⟩
 keep:=fun i h h' ⟨old,he,hi⟩ k=>⟨old,k e (by simp) _ he,hi.at fun o q=>k it (by simp) o q⟩
 item:=by
  intro X hP hw hK hc i pins s σ H E I hf ⟨old,he,hi⟩ hg
  subst hP hw hK
  obtain ⟨xs,x,hq,hx⟩:=hg
  obtain ⟨its,rv,p,hz⟩:=I.list hq
  obtain ⟨u,hu,ru⟩:=rv.get hx
  refine wpAny_pyNext_enum_item he hi p.isList (x:=u) (by simpa using hu) hne fun h1 he1 hi1 ht1 hz1 hk1=>⟨_,rfl,?_⟩
  refine wpAny_letOwnedTupleGo_enum he1 fun h2 he2 hs2=>?_
  replace hs2:Heap.SameBut e h1 h2:=hs2
  have hel:e < s.heap.objs.size:=Heap.lt_size he
  have hk:∀ b o,b ∉ [e,it]→s.heap.get? b=some o→h2.get? b=some o:=fun b o hb q=>by
   simp only [List.mem_cons,List.not_mem_nil,or_false,not_or] at hb
   exact hs2.extBut _ _ hb.1 (hk1 b o hb.1 hb.2 q)
  have I1:Inv X pins σ H { s with heap:=h2,toks:=s.toks + 1 }:=I.turnedL hk hf
  have fo:sw X pins H s.heap.objs.size:=I.fpOk (Nat.le_refl _) (I.hok.fresh (Nat.le_refl _))
  have ht2:h2.get? s.heap.objs.size=some { cls:=.type "tuple",data:=.seq #[.int i s.toks,u] }:=(hs2.2 _ (Nat.ne_of_gt hel)).trans ht1
  have I2:=I1.adopt (o:=.tup [.int i,x]) fo ⟨by show 2 ≤ sizeLine;decide,[.int i s.toks,u],.cons ⟨_,rfl⟩ (.cons ru .nil),⟨_,ht2,rfl,_,rfl⟩⟩
  refine ⟨.ref s.heap.objs.size,_,I2,rfl,⟨_,x,fo.1,rfl,fun ys hy=>by rw [I.list_inj hy hq];exact hx,rfl⟩,⟨u,?_,?_⟩,fun b hb=>?_⟩
  ·have e1:((i + 1:Nat):Int)=(i:Int) + 1:=by omega
   rw [e1];exact he2
  ·exact hi1.extBut hs2.extBut (Ne.symm hne)
  ·have hlt:b < s.heap.objs.size:=by
    simp only [List.mem_cons,List.not_mem_nil,or_false] at hb
    rcases hb with rfl | rfl
    ·exact hel
    ·obtain ⟨o,q,_⟩:=hi
     exact Heap.lt_size q
   rw [lb (Nat.ne_of_lt hlt)];exact (hf b hb).1
 done:=by
  intro X hP hw hK hc i pins s σ H E I hf ⟨old,he,hi⟩ hg
  subst hP hw hK
  obtain ⟨xs,hq,hx⟩:=hg
  obtain ⟨its,rv,p,hz⟩:=I.list hq
  have hl:=rv.length
  exact wpAny_pyNext_enum_end (I.ok.hd hc) he hi p.isList (by simp;omega) fun h' eb=>⟨rfl,I.turnedL (t':=s.toks) (fun b o hb q=>eb b o (fun z=>hb (by simp [z])) q) hf⟩
 self:=fun _ _ _ _ _ ⟨_,he,_⟩ h=>wpAny_pyIter_enum he h
theorem Ir:bootBuiltins "enumerate"=some (.type "enumerate"):=by decide +kernel
theorem Ku:bootBuiltins "reversed"=some (.type "reversed"):=by decide +kernel
noncomputable def Itz (K:PySem.W.Frag) (a b:Addr):It:=
  ⟨fun i H=>∃ xs ys x y,SqL K H a xs∧SqL K H b ys∧xs[i]? = some x∧ys[i]? = some y,
   fun i H v H'=>∃ p x y,H p=none∧v=.ref p∧(∀ xs,SqL K H a xs→xs[i]? = some x)∧(∀ ys,SqL K H b ys→ys[i]? = some y)∧H'=upd H p (.tup [x,y]),
   fun i H=>∃ xs ys,SqL K H a xs∧SqL K H b ys∧(xs.length ≤ i∨ys.length ≤ i)⟩
section
variable {X:Cx}
noncomputable def RL (K:PySem.W.Frag) (ta:TA):TI:=fun σ H R=>ta σ H fun vs H1=>∃ a,vs=[.ref a]∧(∃ xs,SqL K H1 a xs)∧R (Ite K a) H1
theorem Pu {es:List Expr} {k} {tpos:Pos} {a:Expr} {ta:TA} {p pos:Pos} (hg:Gl X "enumerate") (hm:X.mg "enumerate"=none) (ha:PA X [a] ta) (hs:starEach [a] X.env=[(false,eval a X.env)]:=by rfl) :
  PI X (.Tuple es k tpos) (.Call (.Name "enumerate" p) [a] [] pos) (RL X.K ta):=by
 intro pins s σ H R I h
 refine Call_ (wp I hg hm Ir (PyProof.Rows.callWith_type1 (thn (ha pos pins s σ H _ I h) fun us s1 hZ1=>?_) hs rfl))
 obtain ⟨vs,H1,I1,r1,q1⟩:=hZ1
 obtain ⟨a,e,⟨xs,hq⟩,q⟩:=q1
 subst e
 cases r1 with
 | cons r rr=>
  cases rr
  cases r
  obtain ⟨its,rv,pl,hz⟩:=I1.list hq
  refine call_enumerate_list pl.isList fun h' hE hI hsz hk=>wpAny_pyIter_enum hE ?_
  refine ⟨s1.heap.objs.size + 1,[s1.heap.objs.size + 1,s1.heap.objs.size],_,_,H1,rfl,I1.kept (t':=s1.toks) hk,fE a _ _ (Nat.succ_ne_self _),⟨_,hE,hI⟩,fun b hb=>?_,q⟩
  have hb':s1.heap.objs.size ≤ b:=by
   simp only [List.mem_cons,List.not_mem_nil,or_false] at hb
   rcases hb with rfl | rfl
   ·exact Nat.le_succ _
   ·exact Nat.le_refl _
  exact I1.fpOk hb' (I1.hok.fresh hb')
end
theorem Hf {X:Cx} {es:List Expr} {k:Nat} {pos:Pos} {t:TGs} {n:Nat} {K:PySem.W.Frag} (hK:X.K=K) (hc:X.calm=true) (h:PGs X es t)
  (hn:(assignEach es X.env).length=n:=by rfl) (hst:(assignEach es X.env).findIdx? (·.1)=none:=by rfl):PG X (.Tuple es k pos) (TK K n t):=by
 subst hK
 exact pM hc h hn hst
section
variable {X:Cx}
noncomputable def kE:V→List V→Hp→VK→Prop:=fun x vs H Q=>∃ l xs i y,x=.ref l∧vs=[.int i,y]∧H l=some (.lst xs)∧0 ≤ i∧i < 2 ^ 62∧i ≤ (xs.length:Int)∧xs.length < sizeLine∧Q .non (upd H l (.lst (xs.take i.toNat ++ y :: xs.drop i.toNat)))
theorem Kv:MtM X "list.insert" kE:=by
 intro pins s σ H x vs v us Q I rx rv h
 obtain ⟨l,xs,i,y,rfl,rfl,hH,h0,h1,h2,hz,q⟩:=h
 cases rx
 cases rv with
 | cons ra rb=>
  cases rb with
  | @cons _ w _ _ rw' rc=>
   cases rc
   obtain ⟨t,rfl⟩:=ra
   obtain ⟨z,its,n,r,hl,e⟩:=I.lstM hH
   refine call_meets F.slot_list_insert ⟨_,e,rfl⟩ F.entry_list_insert (F.args_list_insert_3 _ _ _) (AutoListH.list_insert_list_int_val_1 l its.toArray n i t w (by rw [fitsIndex_both (k:=i) (by omega) (by omega)];decide) (by rw [List.size_toArray];omega)) ⟨e,?_⟩
   refine ⟨.non,_,I.lset (its':=its.take i.toNat ++ w :: its.drop i.toNat) hH e ?_ ((r.take i.toNat).append (.cons rw' (r.drop i.toNat))) ?_,rfl,q⟩
   ·have hk:(if i < 0 then (i + ((its.toArray.size:Nat):Int)).toNat else min i.toNat its.toArray.size)=i.toNat:=by
     rw [if_neg (by omega),List.size_toArray];omega
    show (its.toArray.extract 0 (if i < 0 then (i + ((its.toArray.size:Nat):Int)).toNat else min i.toNat its.toArray.size)).push w ++ its.toArray.extract (if i < 0 then (i + ((its.toArray.size:Nat):Int)).toNat else min i.toNat its.toArray.size)=_
    rw [hk]
    apply Array.toList_inj.mp
    simp
    exact List.take_of_length_le (by rw [List.length_drop];exact Nat.le_refl _)
   ·rw [List.length_append,List.length_cons,List.length_take,List.length_drop];omega
theorem Vv {P:Nat→Value→Prop} {f:Nat→V} (hP:∀ i v,P i v→Ld (f i) v):∀ (l:List Value) (k:Nat),(∀ j v,l[j]? = some v→P (k + j) v)→Qd ((List.range l.length).map fun i=>f (k + i)) l
 | [],_,_=>.nil
 | v :: r,k,h=>by
  rw [List.length_cons,List.range_succ_eq_map,List.map_cons,List.map_map]
  refine .cons (hP _ _ (h 0 v rfl)) ?_
  have:=Vv hP r (k + 1) fun j w hj=>by
   have:=h (j + 1) w (by simpa using hj)
   rwa [show k + 1 + j=k + (j + 1) by omega]
  have e:(fun i=>f (k + 1 + i))=((fun i=>f (k + i)) ∘ Nat.succ):=funext fun i=>by
   show f (k + 1 + i)=f (k + (i + 1))
   rw [show k + 1 + i=k + (i + 1) by omega]
  rwa [e] at this
theorem Oz {P:Nat→Value→Prop} {f:Nat→V} (hP:∀ i v,P i v→Ld (f i) v) {acc:Array Value} {n:Nat} (h:ItemsOf P acc n):Qd ((List.range n).map f) acc.toList:=by
 have:=Vv hP acc.toList 0 fun j v hj=>by
  rw [Nat.zero_add]
  exact h.2 j v (by rw [← Array.getElem?_toList];exact hj)
 rw [show acc.toList.length=n by rw [Array.length_toList];exact h.1] at this
 simpa using this
end
end L2
namespace L2
open PySem PySem.Spec PyProof.Rows
inductive EqH (K:PySem.W.Frag) (H:Hp):Nat→V→V→Bool→Prop
 | flat {k:Nat} {x y:V} (hx:Sk x=true) (hy:Sk y=true):EqH K H k x y (eqV x y)
 | lst {k:Nat} {p q:Addr} {xs ys:List V} {e:Nat→Bool} (hp:SqL K H p xs) (hq:SqL K H q ys) (hl:xs.length=ys.length) (he:∀ (j:Nat) (x y:V),xs[j]? = some x→ys[j]? = some y→EqH K H k x y (e j)):EqH K H (k + 1) (.ref p) (.ref q) ((List.range xs.length).all e)
 | lstN {k:Nat} {p q:Addr} {xs ys:List V} (hp:SqL K H p xs) (hq:SqL K H q ys) (hl:xs.length ≠ ys.length):EqH K H (k + 1) (.ref p) (.ref q) false
 | tup {k:Nat} {p q:Addr} {xs ys:List V} {e:Nat→Bool} (hp:SqT K H p xs) (hq:SqT K H q ys) (he:∀ (j:Nat) (x y:V),xs[j]? = some x→ys[j]? = some y→EqH K H k x y (e j)):EqH K H (k + 1) (.ref p) (.ref q) ((List.range (min xs.length ys.length)).all e && xs.length == ys.length)
theorem HG {x:V} (h:Sk x=true):eqV x x=true:=by
 cases x <;> first | rfl | (simp [eqV];done) | cases h
theorem et {n:Nat} {e:Nat→Bool} (h:∀ j,j < n→e j=true):(List.range n).all e=true:=by
 rw [List.all_eq_true]
 exact fun j hj=>h j (List.mem_range.mp hj)
section
variable {X:Cx} {pins:List (Addr × Obj)} {σ:St} {H:Hp} {s:Shared}
theorem EqH.self (I:Inv X pins σ H s) {k:Nat} {x y:V} {b:Bool} (h:EqH X.K H k x y b) (e:x=y):b=true:=by
 induction h with
 | flat hx hy=>subst e;exact HG hx
 | @lst k p q xs ys f hp hq hl he ih=>
  injection e with e
  subst e
  have:=I.list_inj hp hq
  subst this
  refine et fun j hj=>?_
  exact ih j xs[j] xs[j] (List.getElem?_eq_getElem hj) (List.getElem?_eq_getElem hj) rfl
 | lstN hp hq hl=>
  injection e with e
  subst e
  have:=I.list_inj hp hq
  subst this
  exact absurd rfl hl
 | @tup k p q xs ys f hp hq he ih=>
  injection e with e
  subst e
  have:=I.tuple_inj hp hq
  subst this
  rw [Bool.and_eq_true]
  refine ⟨et fun j hj=>?_,by simp⟩
  have hj':j < xs.length:=by omega
  exact ih j xs[j] xs[j] (List.getElem?_eq_getElem hj') (List.getElem?_eq_getElem hj') rfl
end
section
variable {X:Cx} {pins:List (Addr × Obj)} {σ:St} {H:Hp} {s:Shared}
end
section
variable {X:Cx}
end
theorem EqH.mono {K:PySem.W.Frag} {H:Hp} {j k:Nat} {x y:V} {b:Bool} (h:EqH K H j x y b):j ≤ k→EqH K H k x y b:=by
 induction h generalizing k with
 | flat hx hy=>exact fun _=>.flat hx hy
 | lst hp hq hl he ih=>
  intro hk
  obtain ⟨m,rfl⟩:∃ m,k=m + 1:=⟨k - 1,by omega⟩
  exact .lst hp hq hl fun j x y h1 h2=>ih j x y h1 h2 (by omega)
 | lstN hp hq hl=>
  intro hk
  obtain ⟨m,rfl⟩:∃ m,k=m + 1:=⟨k - 1,by omega⟩
  exact .lstN hp hq hl
 | tup hp hq he ih=>
  intro hk
  obtain ⟨m,rfl⟩:∃ m,k=m + 1:=⟨k - 1,by omega⟩
  exact .tup hp hq fun j x y h1 h2=>ih j x y h1 h2 (by omega)
end L2
namespace L2
open PySem PySem.Spec PyProof.Rows PySem.Builtin PySem.Builtin.ObjectAttr
theorem ZH {H:Hp} {a:Addr} {o:HO} (h:H a=some o):upd H a o=H:=by
 funext b
 unfold upd
 by_cases e:b=a
 ·rw [if_pos e,e,h]
 ·rw [if_neg e]
noncomputable abbrev bmV:List Value:=[.type "ValueError",.type "Exception",.type "BaseException",.type "object"]
noncomputable def Hs (K:PySem.W.Frag) (C fI:Addr):Bool:=
 match K.lookup C with
 | some ⟨.type "type",_,.cls cd,sl⟩=>
  match cd.mro,sl.toList with
  | .ref D :: tl,[_,_,_,_,some (.builtin n),_]=>
   (D == C) && (n == "ValueError.__new__") && (cd.hasDel == false) && (cd.hasDict == true) && PySem.W.tailIn K bmV tl && PySem.W.nsOkIn K cd.ns && (PySem.W.nsIn K cd.ns "__init__" == some (some (.ref fI)))
  | _,_=>false
 | _=>false
theorem xI {K:PySem.W.Frag} {h:Heap} {N:Addr} {mN:Str→Option Value} {x:Str} {v:Value} (KX:K.In h) (G:h.Ns N mN) (e:PySem.W.nsIn K N x=some (some v)):mN x=some v:=by
 obtain ⟨ob,rows,ep,e1,e2,_,look⟩:=G
 unfold PySem.W.nsIn at e
 split at e
 ·rename_i ho
  have z:=KX _ _ ho
  rw [e1] at z
  cases z
  cases e2
  split at e
  ·rename_i en he
   cases e
   rw [← look]
   unfold nsFind findBy
   rw [← Array.find?_toList,he];rfl
  ·split at e <;> cases e
 ·cases e
theorem Ru {K:PySem.W.Frag} {h:Heap} {C fI:Addr} (KX:K.In h) (e:Hs K C fI=true) :
  ∃ tl N nm q bs sn sub ab co dd k0 k1 k2 k3 k5 mN,h.get? C=some (excClassObj nm q C N bs tl true sn sub ab co dd k0 k1 k2 k3 k5 "ValueError.__new__")∧h.Ns N mN∧mN "__init__"=some (.ref fI)∧OwnTail h bmV tl:=by
 unfold Hs at e
 split at e
 ·rename_i dd cd sl ho
  split at e
  ·rename_i D tl k0 k1 k2 k3 n k5 hm hs
   simp only [Bool.and_eq_true,beq_iff_eq] at e
   obtain ⟨⟨⟨⟨⟨⟨e1,e2⟩,e3⟩,e4⟩,e5⟩,e6⟩,e7⟩:=e
   obtain ⟨nm,bs,mro,ns,qn,hd,sn,sub,ab,co,del⟩:=cd
   simp only at hm e3 e4 e6 e7
   subst hm e1 e2 e3 e4
   obtain ⟨l⟩:=sl
   simp only at hs
   subst hs
   have G:h.Ns ns (h.nsMap ns):=.of_isNs (PySem.W.isNs_of_in KX e6)
   exact ⟨tl,ns,nm,qn,bs,sn,sub,ab,co,dd,k0,k1,k2,k3,k5,h.nsMap ns,KX _ _ ho,G,xI KX G e7,PySem.W.tail_of_in KX e5⟩
  ·cases e
 ·cases e
section
variable {P:Program} {w:World} {A:Around} {h:Heap} {g:Array GenState} {d:Drawn} {t:Nat} {os:OsState} {K:PySem.W.Frag} {C fI:Addr} {R:Result→Shared→Prop}
theorem xB {us:List Value} (KX:K.In h) (e:Hs K C fI=true) (hf:PySem.W.typeIn K (.ref fI)=some (.type "function")) (hz:us.length ≤ sizeLine)
  (hq:∀ h' x,h.objs.size ≤ x→Heap.MadeExcOf h h' x (.ref C) us→codeAny (model P w) (A.under (.builtin "type.__call__" ⟨.ref C :: us,[]⟩)) (.call (.ref fI) ⟨.ref x :: us,[]⟩) (PySem.W.InitBack x R) ⟨h',g,d,t,os⟩) :
  codeAny (model P w) A (.call (.ref C) ⟨us,[]⟩) R ⟨h,g,d,t,os⟩:=by
 obtain ⟨tl,N,nm,q,bs,sn,sub,ab,co,dd,k0,k1,k2,k3,k5,mN,hC,hN,hi,T⟩:=Ru KX e
 have F:=PySem.F.excBase_ValueError
 have f1:=tc_lookup
 have f2:=tc_bind (.ref C)
 have ty:(⟨h,g,d,t,os⟩:Shared).TypeIs (.ref C) "type" := ⟨_,hC,rfl⟩
 refine codeAny_of_tree ?_
 show wpAny _ _ (callAny (.ref C) _) _ _ _
 repeat (any_goals (first | assumption | with_reducible refine wpAny_loadPart_at hC ?_ | wp_step))
 refine ⟨rfl,?_⟩
 refine codeAny_call_builtin_at (Code.quiet_builtin _ (by decide +kernel)) entry_typeCall (wpAny_check_type_call_sub hC ?_)
 repeat (first | with_reducible refine wpAny_loadPart_at hC ?_ | with_reducible refine wpAny_madeBy_exc hC ?_ | wp_step)
 refine codeAny_call_builtin_code (Code.quiet_builtin _ F.quiet) (wpAny_check_new_subT F T hC ?_)
 refine codeAny_exc_new_subT (rest:=us) F T hC ?_ hz
 show wpAny _ _ _ _ _ _
 generalize hh:(h.push { cls:=.type "tuple",data:=.seq us.toArray }).push { cls:=.ref C,data:=.fields #[.ref h.objs.size,.none,.none,.none,.bool false,.none] }=h2
 have k:∀ b o,h.get? b=some o→h2.get? b=some o:=fun b o z=>by rw [← hh];exact Heap.get?_push_of_some _ (Heap.get?_push_of_some _ z)
 have hx:h2.get? (h.objs.size + 1)=some { cls:=.ref C,data:=.fields #[.ref h.objs.size,.none,.none,.none,.bool false,.none] }:=by rw [← hh];heap_get
 have ht:h2.get? h.objs.size=some { cls:=.type "tuple",data:=.seq us.toArray }:=by rw [← hh];exact Heap.get?_push_of_some _ (Heap.get?_push_at rfl rfl)
 have M:Heap.MadeExcOf h h2 (h.objs.size + 1) (.ref C) us:=⟨k,Heap.get?_none_of_le (Nat.le_succ _),h.objs.size,hx,Heap.get?_none_of_le (Nat.le_refl _),ht⟩
 have cC:(Value.ref C :: tl).contains (.ref C)=true:=by simp
 unfold isInstance
 repeat (first | with_reducible refine wpAny_loadPart_at hx ?_ | wp_step)
 refine wpAny_isSubtype_exc (k _ _ hC) ?_
 rw [cC]
 repeat wp_step
 show wpAny _ _ (typeLookup (.ref C) _) _ _ _
 refine wpAny_typeLookup_tail (k _ _ hC) (hN.keeps k) (T.keeps k) F.mroIs F.init.lookup ?_
 rw [hi]
 refine wpAny_holding (wpAny_bind ((PySem.W.bind_fn (KX.keeps k) _ hf).here (wpAny_bind (wpAny_call ?_))))
 refine codeAny_mono (hq h2 _ (Nat.le_succ _) M) fun r s' z=>?_
 rcases r with e | (v | _ | _ | _) <;> first | exact z | exact z.elim | skip
 obtain ⟨rfl,z⟩:=z
 exact wpAny_pure (wpAny_pure z)
end
noncomputable def kC:List Value→Bool
 | .ref _ :: r=>kC r
 | l=>l == bmV
theorem gk (self:Value):refuseLoop self "__setattr__" bmV=pure ():=by kernel_rfl
theorem eo (self:Value):∀ {l:List Value},kC l=true→refuseLoop self "__setattr__" l=pure ()
 | .ref c :: r,e=>by rw [refuseLoop_ref];exact eo self (l:=r) e
 | [],e=>by cases e
 | .type n :: r,e=>by rw [show Value.type n :: r=bmV from beq_iff_eq.mp e];exact gk self
 | .none :: r,e=>by rw [show Value.none :: r=bmV from beq_iff_eq.mp e];exact gk self
 | .bool b :: r,e=>by rw [show Value.bool b :: r=bmV from beq_iff_eq.mp e];exact gk self
 | .int b c :: r,e=>by rw [show Value.int b c :: r=bmV from beq_iff_eq.mp e];exact gk self
 | .str b c :: r,e=>by rw [show Value.str b c :: r=bmV from beq_iff_eq.mp e];exact gk self
 | .bytes b c :: r,e=>by rw [show Value.bytes b c :: r=bmV from beq_iff_eq.mp e];exact gk self
 | .float b c :: r,e=>by rw [show Value.float b c :: r=bmV from beq_iff_eq.mp e];exact gk self
 | .builtin b :: r,e=>by rw [show Value.builtin b :: r=bmV from beq_iff_eq.mp e];exact gk self
theorem bw (T:String) (h:bmV.contains (.type T)=true):∀ {l:List Value},kC l=true→l.contains (.type T)=true
 | .ref c :: r,e=>by rw [List.contains_cons,bw T h (l:=r) e,Bool.or_true]
 | [],e=>by cases e
 | .type n :: r,e=>by rw [show Value.type n :: r=bmV from beq_iff_eq.mp e];exact h
 | .none :: r,e=>by rw [show Value.none :: r=bmV from beq_iff_eq.mp e];exact h
 | .bool b :: r,e=>by rw [show Value.bool b :: r=bmV from beq_iff_eq.mp e];exact h
 | .int b c :: r,e=>by rw [show Value.int b c :: r=bmV from beq_iff_eq.mp e];exact h
 | .str b c :: r,e=>by rw [show Value.str b c :: r=bmV from beq_iff_eq.mp e];exact h
 | .bytes b c :: r,e=>by rw [show Value.bytes b c :: r=bmV from beq_iff_eq.mp e];exact h
 | .float b c :: r,e=>by rw [show Value.float b c :: r=bmV from beq_iff_eq.mp e];exact h
 | .builtin b :: r,e=>by rw [show Value.builtin b :: r=bmV from beq_iff_eq.mp e];exact h
structure Zu (K:PySem.W.Frag) (C:Addr):Prop where
 hd:PySem.W.hasDictIn K C=true
 ov:((PySem.W.clsIn K C).any fun cd=>kC cd.mro)=true
 sa:PySem.W.findIn K (.ref C) "__setattr__"=some (some (.builtin "object.__setattr__"))
 ga:PySem.W.findIn K (.ref C) "__getattribute__"=some (some (.builtin "BaseException.__getattribute__"))
 gt:PySem.W.findIn K (.ref C) "__getattr__"=some none
 ex:∃ fI,Hs K C fI=true
noncomputable def XF (x C:Addr) (od:Option Addr):Heap→Prop:=fun h=>∃ vs sl,h.get? x=some ⟨.ref C,od,.fields vs,sl⟩∧1 < vs.size∧vs[1]? = some .none
noncomputable def XD (dx:Addr) (fs:List (Str × V)):Heap→Prop:=fun h=>∃ mA,h.Ns1 dx mA∧(∀ f,Wq (fs.lookup f) (mA f))∧PySem.Within mA (fs.map (·.1))
theorem XF.at {x C:Addr} {od:Option Addr} {h h':Heap} (z:XF x C od h) (k:∀ o,h.get? x=some o→h'.get? x=some o):XF x C od h':=let ⟨vs,sl,e,r⟩:=z;⟨vs,sl,k _ e,r⟩
theorem XD.at {dx:Addr} {fs:List (Str × V)} {h h':Heap} (z:XD dx fs h) (k:∀ o,h.get? dx=some o→h'.get? dx=some o):XD dx fs h':=let ⟨mA,e,r⟩:=z;⟨mA,e.at k,r⟩
theorem XF.ok {P:Program} {w:World} {H:Hp} {h:Heap} {x C:Addr} {od:Option Addr} (z:XF x C od h):zd P w H h x (.ext (XF x C od)):=by
 obtain ⟨vs,sl,e,r⟩:=id z
 exact ⟨z,⟨_,e⟩,fun h1 h2 q k=>q.at k⟩
theorem XD.ok {P:Program} {w:World} {H:Hp} {h:Heap} {dx:Addr} {fs:List (Str × V)} (z:XD dx fs h):zd P w H h dx (.ext (XD dx fs)):=by
 obtain ⟨mA,⟨o,es,ep,e,_⟩,_⟩:=id z
 exact ⟨z,⟨_,e⟩,fun h1 h2 q k=>q.at k⟩
section
variable {prog:Program} {w:World} {A:Around} {E:Value→Shared→Prop} {K:PySem.W.Frag} {C x:Addr} {s:Shared} {R:Result→Shared→Prop}
theorem LN {ox:Obj} {od:Option Obj} {name:Str} {tk:Tok} {v:Value} (KX:K.In s.heap) (J:PySem.W.InstAt s.heap x ox C od) (c:Zu K C) (ht:Ib K C name)
  (h:wpAny (model prog w) A.in1 (storeInOwnDict (.ref x) (.ref C) (.str name tk) name v false)
   (fun fin s'=>match fin with | .done f=>R (.ok f) s' | .again c'=>c'.quiet=true∧codeAny (model prog w) A c' R s') (fun e s'=>R (.error e) s') s) :
  codeAny (model prog w) A (.call (.builtin "object.__setattr__") ⟨[.ref x,.str name tk,v],[]⟩) R s:=by
 have G:=PySem.F.store_object
 obtain ⟨cd,hc,ho⟩:=PySem.W.any_some c.ov
 have ne:cd.mro.isEmpty=false:=by
  cases q:cd.mro with
  | nil=>rw [q] at ho;cases ho
  | cons _ _=>rfl
 have sub:PySem.W.Looks (model prog w) s.heap (isInstance (.ref x) (.type "object")) true:=
  J.type.andThen (PySem.W.looks_mroIn KX (by unfold PySem.W.mroIn;rw [hc,Option.bind_some,if_neg (by rw [ne];decide),bw "object" (by decide) ho]))
 refine codeAny_call_builtin G.slot.plain G.entry (@PySem.W.check_slot (model prog w) _ _ s "object.__setattr__" "object" "__setattr__" (.ref x) [.str name tk,v] [] _ G.kind G.split sub (G.args (.ref x) (.str name tk) v) ?_)
 have hm:PySem.W.Looks (model prog w) s.heap (mroOf (.ref C)) cd.mro:=(PySem.W.looks_clsIn KX hc).andThen .now
 rw [PySem.W.osa_eq,refuse_eq]
 refine wpAny_bind (wpAny_bind (J.type.here (wpAny_bind (hm.here ?_))))
 rw [eo _ ho]
 exact wpAny_pure (wpAny_bind (J.type.here (wpAny_bind ((PySem.W.looks_findIn KX ht).here (wpAny_bind (wpAny_pure h))))))
end
section
variable {X:Cx} {pins:List (Addr × Obj)} {σ:St} {H:Hp} {s:Shared} {x C dx:Addr} {fs:List (Str × V)} {f:Str} {y:V} {u:Value} {A:Around} {E:Value→Shared→Prop} {Q:Unit→Shared→Prop}
theorem sF (I:Inv X pins σ H s) (e:H x=some (.ext (XF x C none))) (c:Zu X.K C) (n:Ib X.K C f) (ry:Ld y u)
  (h:∀ dx s',H dx=none→dx ≠ x→Inv X pins σ (upd (upd H x (.ext (XF x C (some dx)))) dx (.ext (XD dx [(f,y)]))) s'→Q () s'):wpAny (model X.prog X.w) A (setAttr (.ref x) f u) Q E s:=by
 obtain ⟨vs,sl,hx,z1,z2⟩:=(show zd X.prog X.w H s.heap x (.ext (XF x C none)) from I.hok _ _ e).1
 have J:PySem.W.InstAt s.heap x ⟨.ref C,none,.fields vs,sl⟩ C none:=⟨hx,rfl,rfl,True.intro⟩
 refine PySem.W.set_plain I.kIn J c.sa (LN (s:={ s with toks:=s.toks + 1 }) I.kIn J c n ?_)
 obtain ⟨cd,hc,hd'⟩:=PySem.W.any_some c.hd
 refine wpAny_bind (wpAny_pure (wpAny_bind (wpAny_bind (wpAny_loadPart hx (wpAny_bind (PySem.W.Looks.here (s:={ s with toks:=s.toks + 1 }) (PySem.W.looks_clsIn I.kIn hc) ?_))))))
 rw [hd']
 show wpAny _ _ (alloc PySem.W.emptyDict >>= fun d=>(update x fun o=>{ o with dict:=some d }) >>= fun _=>dictMade (.ref C) x d) _ _ _
 refine wpAny_bind (wpAny_alloc (wpAny_bind ?_))
 have hx1:(s.heap.push PySem.W.emptyDict).get? x=some ⟨.ref C,none,.fields vs,sl⟩:=Heap.get?_push_of_some _ hx
 have lx:x < s.heap.objs.size:=Heap.lt_size hx
 refine wpAny_update hx1 (wpAny_pure ?_)
 have e1:(s.heap.push PySem.W.emptyDict).get? s.heap.objs.size=some PySem.W.emptyDict:=Heap.get?_push_size s.heap rfl
 have e3:(s.heap.push PySem.W.emptyDict).Ns s.heap.objs.size (fun _=>none):=⟨PySem.W.emptyDict,#[],_,e1,rfl,(fun e he=>absurd he (by simp)),fun _=>rfl⟩
 generalize hg2:(s.heap.push PySem.W.emptyDict).update x (fun o=>{ o with dict:=some s.heap.objs.size })=h2
 have nx:s.heap.objs.size ≠ x:=Nat.ne_of_gt lx
 have k2:∀ b,b ≠ x→h2.get? b=(s.heap.push PySem.W.emptyDict).get? b:=fun b hb=>by rw [← hg2];exact Heap.get?_update_other _ _ (Ne.symm hb)
 have x2:h2.get? x=some ⟨.ref C,some s.heap.objs.size,.fields vs,sl⟩:=by rw [← hg2];exact Heap.get?_update_self _ hx1 rfl
 have n2:h2.Ns1 s.heap.objs.size (fun _=>none):=(Heap.Ns1.of_empty e3).at fun o q=>(k2 _ nx).trans q
 refine wpAny_bind (wpAny_pure (wpAny_bind ?_))
 refine wpAny_nsSet1 (s:={ s with heap:=h2,toks:=s.toks + 1 }) n2 fun h3 n3 s3=>?_
 have wi:PySem.Within (fun a=>if a=f then some u else none) [f]:=PySem.Within.cons f u (fun a ha=>absurd rfl ha)
 obtain ⟨oD,esD,epD,hoD,hdD,hcD⟩:=n3.count wi
 refine wpAny_bind (wpAny_lookBehind hoD (by rw [hdD];exact pastItsLine_dict (Nat.le_trans hcD (by rw [sizeLine_eq];show 1 ≤ _;decide))) ?_)
 refine wpAny_pure (h s.heap.objs.size _ (I.hok.fresh (Nat.le_refl _)) nx ?_)
 have k3:∀ b o,b ≠ x→s.heap.get? b=some o→h3.get? b=some o:=fun b o hb q=>
  (s3.2 b (fun z=>by rw [z] at q;exact absurd (Heap.lt_size q) (Nat.lt_irrefl _))).trans ((k2 b hb).trans (Heap.get?_push_of_some _ q))
 have x3:h3.get? x=some ⟨.ref C,some s.heap.objs.size,.fields vs,sl⟩:=(s3.2 x (Ne.symm nx)).trans x2
 generalize hgA:s.heap.update x (fun o=>{ o with dict:=some s.heap.objs.size })=hA
 have kA:∀ b,b ≠ x→hA.get? b=s.heap.get? b:=fun b hb=>by rw [← hgA];exact Heap.get?_update_other _ _ (Ne.symm hb)
 have xA:hA.get? x=some ⟨.ref C,some s.heap.objs.size,.fields vs,sl⟩:=by rw [← hgA];exact Heap.get?_update_self _ hx rfl
 have szA:hA.objs.size=s.heap.objs.size:=by rw [← hgA];exact Heap.size_update _ _ _
 have IA:=I.write (x:=x) (e:=x) (o:=.ext (XF x C (some s.heap.objs.size))) (h':=hA) (t':=s.toks) (by rw [e];exact True.intro) (.inl rfl) (fun b o hb q=>(kA b hb).trans q) ⟨_,xA⟩ (XF.ok ⟨vs,sl,xA,z1,z2⟩)
 refine IA.laid (a:=s.heap.objs.size) (h':=h3) (fun b o q=>?_) (Nat.le_of_eq szA) (XD.ok ⟨_,n3,fun g=>?_,wi⟩)
 ·by_cases hb:b=x
  ·subst hb;rw [xA] at q;rw [x3,← q]
  ·rw [kA b hb] at q;exact k3 b o hb q
 ·show Wq (List.lookup g [(f,y)]) (if g=f then some u else none)
  by_cases hq:g=f
  ·rw [if_pos hq,hq,List.lookup_cons_self];exact ry
  ·rw [if_neg hq,List.lookup_cons,beq_false_of_ne hq];exact True.intro
theorem DB (I:Inv X pins σ H s) (e:H x=some (.ext (XF x C (some dx)))) (ed:H dx=some (.ext (XD dx fs))) (c:Zu X.K C) (n:Ib X.K C f) (hl:fs.length < 1000) (ry:Ld y u)
  (h:∀ s',Inv X pins σ (upd H dx (.ext (XD dx (yg f y fs)))) s'→Q () s'):wpAny (model X.prog X.w) A (setAttr (.ref x) f u) Q E s:=by
 obtain ⟨vs,sl,hx,z1,z2⟩:=(show zd X.prog X.w H s.heap x (.ext (XF x C (some dx))) from I.hok _ _ e).1
 obtain ⟨mA,n1,r,wi⟩:=(show zd X.prog X.w H s.heap dx (.ext (XD dx fs)) from I.hok _ _ ed).1
 obtain ⟨od,ho,hlk⟩:=zv n1
 have J:PySem.W.InstAt s.heap x ⟨.ref C,some dx,.fields vs,sl⟩ C (some od):=⟨hx,rfl,rfl,ho⟩
 refine PySem.W.set_plain I.kIn J c.sa (LN (s:={ s with toks:=s.toks + 1 }) I.kIn J c n ?_)
 obtain ⟨cd,hc,hd'⟩:=PySem.W.any_some c.hd
 refine wpAny_bind (wpAny_pure (wpAny_bind (wpAny_bind (wpAny_loadPart hx (wpAny_bind (PySem.W.Looks.here (s:={ s with toks:=s.toks + 1 }) (PySem.W.looks_clsIn I.kIn hc) ?_))))))
 rw [hd']
 refine wpAny_pure (a:=some dx) (wpAny_bind (wpAny_pure (wpAny_bind ?_)))
 refine wpAny_nsSet1 (s:={ s with toks:=s.toks + 1 }) n1 fun h3 n3 s3=>?_
 obtain ⟨oD,esD,epD,hoD,hdD,hcD⟩:=n3.count (PySem.Within.cons f u wi)
 refine wpAny_bind (wpAny_lookBehind hoD (by rw [hdD];exact pastItsLine_dict (Nat.le_trans hcD (by rw [List.length_cons,List.length_map,sizeLine_eq];omega))) ?_)
 refine wpAny_pure (h _ ?_)
 refine I.write (x:=dx) (e:=dx) (by rw [ed];exact True.intro) (.inl rfl) (fun b o hb q=>(s3.2 b hb).trans q) ⟨_,hoD⟩ (XD.ok ⟨_,n3,fun g=>?_,fun g hg=>?_⟩)
 ·show Wq ((yg f y fs).lookup g) (if g=f then some u else mA g)
  rw [Nl]
  by_cases q:g=f
  ·rw [if_pos q,if_pos q];exact ry
  ·rw [if_neg q,if_neg q];exact r g
 ·by_cases q:g=f
  ·rw [q];exact (Oj f y fs).1
  ·refine (Oj f y fs).2 g (wi g fun z=>hg ?_)
   show (if g=f then some u else mA g)=none
   rw [if_neg q];exact z
noncomputable def XA (x C:Addr) (od:Option Addr):Heap→Prop:=fun h=>∃ vs sl,h.get? x=some ⟨.ref C,od,.fields vs,sl⟩
theorem XA.at {x C:Addr} {od:Option Addr} {h h':Heap} (z:XA x C od h) (k:∀ o,h.get? x=some o→h'.get? x=some o):XA x C od h':=let ⟨vs,sl,e⟩:=z;⟨vs,sl,k _ e⟩
theorem XA.ok {P:Program} {w:World} {H:Hp} {h:Heap} {x C:Addr} {od:Option Addr} (z:XA x C od h):zd P w H h x (.ext (XA x C od)):=by
 obtain ⟨vs,sl,e⟩:=id z
 exact ⟨z,⟨_,e⟩,fun h1 h2 q k=>q.at k⟩
end
noncomputable abbrev TJ:=St→Hp→(Hp→Prop)→Prop
noncomputable def PJ (X:Cx) (es:List Expr) (n:Nat) (t:TJ):Prop:=
 ∀ (pins:List (Addr × Obj)) (s:Shared) (σ:St) (H:Hp) (Q:Hp→Prop) (acc:Str) (R:Str→Shared→Prop),Inv X pins σ H s→acc.length + n ≤ sizeLine→t σ H Q →
  (∀ out H' s',Inv X pins σ H' s'→out.length ≤ sizeLine→Q H'→R out s')→Joins (model X.prog X.w) X.A X.xe (evalEach es X.env) acc R s
noncomputable def tJ0:TJ:=fun _ H Q=>Q H
noncomputable def tJI (te:TE) (t:TJ):TJ:=fun σ H Q=>te σ H fun v H1=>∃ i,v=.int i∧i.natAbs.log2 < 1920∧t σ H1 Q
noncomputable def tJR (te:TE) (t:TJ):TJ:=fun σ H Q=>te σ H fun v H1=>∃ x,v=.str x∧x.length ≤ 1000∧(∀ c ∈ x.cps.toList,c < 16 ^ 8)∧t σ H1 Q
noncomputable def QD (t:TJ):TE:=fun σ H Q=>t σ H fun H1=>∀ y:Str,Q (.str y) H1
section
variable {X:Cx} {e:Expr} {es:List Expr} {n:Nat} {t:TJ} {te:TE} {pos:Pos}
theorem Ny:PJ X [] 0 tJ0:=fun pins s σ H Q acc R I hl q h=>h acc H s I hl q
theorem Jg {c:Str} {k:Nat} (h:PJ X es n t):PJ X (.Constant (.str c) k pos :: es) (n + c.length) t:=fun pins s σ H Q acc R I hl q hR=>by
 show wpAny _ _ _ _ _ _
 refine Calls.Constant_str ⟨c,_,rfl,by rw [strLen_append];omega,h pins _ σ H Q _ R (I.tok _) (by rw [strLen_append];omega) q hR⟩
theorem Xy (he:PE X e te) (h:PJ X es n t):PJ X (.FormattedValue e (-1) none pos :: es) (n + 2000) (tJI te t):=fun pins s σ H Q acc R I hl q hR=>by
 show wpAny _ _ _ _ _ _
 refine wpAny_FormattedValue_plain (thn (he pins s σ H _ I q) fun u s1 hZ1=>?_)
 obtain ⟨v,H1,I1,r,i,ev,hi,q1⟩:=hZ1
 subst ev
 obtain ⟨tk,rfl⟩:=(show ∃ tk,u=Value.int i tk from r)
 have hz:=int_text_fits hi
 have hz2:(Str.ofString (toString i)).length ≤ 2000:=by
  have e:=int_text_length_le (k:=1920) (by decide) hi
  rw [PySem.ofString_length];omega
 refine wpAny_formatField_int hi ⟨_,_,rfl,by rw [strLen_append];omega,h pins _ σ H1 Q _ R (I1.tok _) (by rw [strLen_append];omega) q1 hR⟩
theorem iu (he:PE X e te) (h:PJ X es n t):PJ X (.FormattedValue e 114 none pos :: es) (n + 11000) (tJR te t):=fun pins s σ H Q acc R I hl q hR=>by
 show wpAny _ _ _ _ _ _
 refine wpAny_FormattedValue_repr (thn (he pins s σ H _ I q) fun u s1 hZ1=>?_)
 obtain ⟨v,H1,I1,r,x,ev,hx,hc,q1⟩:=hZ1
 subst ev
 obtain ⟨tk,rfl⟩:=(show ∃ tk,u=Value.str x tk from r)
 have hz:=PySem.StrLaws.reprText_len x hc
 refine wpAny_pyReprObj_str ?_ (by rw [sizeLine_eq];omega)
 exact formatField_str (fun t' tk'=>⟨_,_,rfl,by rw [strLen_append];omega,h pins _ σ H1 Q _ R ((I1.tok _).tok _) (by rw [strLen_append];omega) q1 hR⟩) (by rw [sizeLine_eq];omega)
theorem qm {e2:Expr} (h:PJ X (e :: e2 :: es) n t) (hn:n ≤ sizeLine):PE X (.JoinedStr (e :: e2 :: es) pos) (QD t):=by
 intro pins s σ H Q I q
 refine wpAny_JoinedStr (h pins s σ H _ _ _ I (by show 0 + n ≤ _;omega) q fun out H' s' I' hl q'=>⟨hl,?_⟩)
 exact ⟨.str out,H',I'.tok _,⟨_,rfl⟩,q' out⟩
end
structure NN (K:PySem.W.Frag) (L:Addr) (m:Str):Prop where
 rd:PySem.W.readsIn K L (.type "type")=true
 fd:PySem.W.findCls K (.ref L) (.type "type") m=some (.val (.builtin "ValueError.__init__"))
 ga:PySem.W.specialIn K (.ref L) "__getattribute__"=some (some (.builtin "type.__getattribute__"))
noncomputable def dI (K:PySem.W.Frag) (t:TA):TE:=fun σ H Q=>t σ H fun vs H1=>∃ x C od v,vs=[.ref x,v]∧H1 x=some (.ext (XF x C od))∧Zu K C∧Q .non H1
section
variable {X:Cx} {L:Addr} {x:Str} {p pos apos:Pos} {e:Expr} {es:List Expr} {t:TA}
theorem jC {pins:List (Addr × Obj)} {σ:St} {H:Hp} {s:Shared} {a C:Addr} {od:Option Addr} {u:Value} {A:Around} {E:Value→Shared→Prop} {Q:Value→Shared→Prop} (I:Inv X pins σ H s) (ea:H a=some (.ext (XF a C od))) (c:Zu X.K C)
  (h:∀ s',Inv X pins σ H s'→Q .none s'):wpAny (model X.prog X.w) A (call (.builtin "ValueError.__init__") [.ref a,u]) Q E s:=by
 obtain ⟨vs,sl,hx,z1,z2⟩:=(show zd X.prog X.w H s.heap a (.ext (XF a C od)) from I.hok _ _ ea).1
 obtain ⟨fI,hfI⟩:=c.ex
 obtain ⟨tl,N,nm,q,bs,sn,sub,ab,co,dd,k0,k1,k2,k3,k5,mN,hC,hN,hi,T⟩:=Ru I.kIn hfI
 have F:=PySem.F.excBase_ValueError
 obtain ⟨v0,h0⟩:∃ v0,vs[0]? = some v0:=⟨vs[0]'(by omega),Array.getElem?_eq_getElem (by omega)⟩
 obtain ⟨hh,g,d,tt,os⟩:=s
 refine wpAny_call (codeAny_call_builtin F.init.plain F.initEntry (wpAny_check_init_subT F T hC hx rfl ?_))
 show wpAny _ _ (newTuple [u] >>= fun tp=>(do
  let old ← field (.ref a) 0
  setField (.ref a) 0 tp
  if let .ref _:=old then letGo [old] []) >>= fun _=>ret .none) _ _ _
 have hx1:(hh.push { cls:=.type "tuple",data:=.seq [u].toArray }).get? a=some ⟨.ref C,od,.fields vs,sl⟩:=Heap.get?_push_of_some _ hx
 refine wpAny_bind (wpAny_newTuple (wpAny_bind (wpAny_bind (wpAny_field hx1 rfl h0 (wpAny_bind (wpAny_setField hx1 rfl (by omega) ?_))))))
 have x2:=Heap.get?_update_self (h:=hh.push { cls:=.type "tuple",data:=.seq [u].toArray }) (Obj.mapFields (·.setIfInBounds 0 (.ref hh.objs.size))) hx1 rfl
 have fin:∀ s',s'=(⟨(hh.push { cls:=.type "tuple",data:=.seq [u].toArray }).update a (Obj.mapFields (·.setIfInBounds 0 (.ref hh.objs.size))),g,d,tt,os⟩:Shared)→Q .none s':=by
  rintro s' rfl
  refine h _ ?_
  have I1:Inv X pins σ H ⟨hh.push { cls:=.type "tuple",data:=.seq [u].toArray },g,d,tt,os⟩:=I.kept (t':=tt) fun b o q=>Heap.get?_push_of_some _ q
  have:=I1.write (x:=a) (e:=a) (o:=.ext (XF a C od)) (h':=(hh.push { cls:=.type "tuple",data:=.seq [u].toArray }).update a (Obj.mapFields (·.setIfInBounds 0 (.ref hh.objs.size)))) (t':=tt) (by rw [ea];exact True.intro) (.inl rfl)
   (fun b o hb q=>(Heap.get?_update_other _ _ (Ne.symm hb)).trans q) ⟨_,x2⟩ (XF.ok ⟨vs.setIfInBounds 0 (.ref hh.objs.size),sl,x2,by simpa using z1,by rw [Array.getElem?_setIfInBounds_ne (by decide)];exact z2⟩)
  rwa [ZH ea] at this
 cases v0 with
 | ref b=>exact wpAny_bind (wpAny_holding (wpAny_point (wpAny_pure (wpAny_pure (fin _ rfl)))))
 | _=>exact wpAny_pure (wpAny_pure (fin _ rfl))
theorem Po {pl:Sem Bool} {m:Str} (hg:Gl X x) (hm:X.mg x=some (.ref L)) (c:NN X.K L m) (ha:PA X (e :: es) t)
  (hdb:(x == ("__debug__" : Str))=false:=by decide) (hst:starEach (e :: es) X.env=(false,eval e X.env) :: starEach es X.env:=by rfl) (hpl:(backTo pos (starEach es X.env)).any (·.1)=false:=by rfl)
  (ht:eval (.Call (.Attribute (.Name x p) m apos) (e :: es) [] pos) X.env=(do
   let ov ← eval (.Name x p) X.env
   standAt apos.atName
   let (f,first) ← holding [ov] (getMethod ov m pl)
   callWith pos f first (backTo pos (starEach (e :: es) X.env)) (backToKw pos (keywordEach [] X.env))):=by rfl) :
  PE X (.Call (.Attribute (.Name x p) m apos) (e :: es) [] pos) (dI X.K t):=by
 intro pins s σ H Q I h
 refine PySem.W.methodCall_KW (pl:=pl) (Cn I hg hm ?_ hdb) ht
 refine PySem.W.method_cls I.kIn c.ga (PySem.W.cls_value I.kIn c.rd c.fd rfl ?_)
 refine PyProof.Rows.callWith_builtin1 (thn (ha pos pins _ σ H _ (I.tok (s.toks + 1)) h) fun us s2 hZ1=>?_) hst hpl
 obtain ⟨vs,H2,I2,r,a,C,od,v,ev,ea,cc,q⟩:=hZ1
 subst ev
 obtain ⟨u1,u2,rfl,r1,r2⟩:=jJ r
 obtain rfl:u1=Value.ref a:=r1
 exact jC I2 ea cc fun s3 I3=>⟨.non,H2,I3,rfl,q⟩
end
structure MkX (K:PySem.W.Frag) (C fI:Addr):Prop where
 e:Hs K C fI=true
 fn:PySem.W.typeIn K (.ref fI)=some (.type "function")
 kp:PySem.W.keepIn K (.ref C)=true
noncomputable def zH (C:Addr) (sp:Sp) (t:TA):TE:=fun σ H Q=>t σ H fun vs H1=>vs.length ≤ sizeLine∧∀ x,H1 x=none→sp (.ref x :: vs) (upd H1 x (.ext (XF x C none))) (fun v H2=>v=.non∧Q (.ref x) H2) (fun _ _ _=>False)
noncomputable def HH (K:PySem.W.Frag) (ta tv:TE) (f:Str):TS:=fun D σ H=>tv σ H fun y H1=>ta σ H1 fun x H2=>∃ a C,x=.ref a∧H2 a=some (.ext (XF a C none))∧Zu K C∧Ib K C f ∧
 ∀ dx,H2 dx=none→dx ≠ a→D.nx σ (upd (upd H2 a (.ext (XF a C (some dx)))) dx (.ext (XD dx [(f,y)])))
noncomputable def gI (K:PySem.W.Frag) (ta tv:TE) (f:Str):TS:=fun D σ H=>tv σ H fun y H1=>ta σ H1 fun x H2=>∃ a C dx fs,x=.ref a∧H2 a=some (.ext (XF a C (some dx)))∧H2 dx=some (.ext (XD dx fs))∧Zu K C∧Ib K C f∧fs.length < 1000 ∧
 D.nx σ (upd H2 dx (.ext (XD dx (yg f y fs))))
section
variable {X:Cx} {k:Nat} {f C:Addr} {fd:FuncData} {ps:List Str} {sp:Sp} {x g:Str} {p pos pos' apos:Pos} {e o value:Expr} {es:List Expr} {ta tv:TE} {t:TA}
theorem ZD {pins:List (Addr × Obj)} {σ:St} {H:Hp} {s:Shared} {Q:VK} {us:List Value} {vs:List V} (M:MkX X.K C f) (F:Jb X.prog X.w X.K X.mg X.base (fun _ _ _ _ _ _=>False) k f fd ps sp) (hr:Aj (k + 1) X.A) (hb:Yb X.K fd ps [])
  (I:Inv X pins σ H s) (r:Qd vs us) (hz:vs.length ≤ sizeLine) (h:∀ x,H x=none→sp (.ref x :: vs) (upd H x (.ext (XF x C none))) (fun v H2=>v=.non∧Q (.ref x) H2) (fun _ _ _=>False)) :
  wpAny (model X.prog X.w) X.A (call (.ref C) us) (EP X pins σ Q) X.xe s:=by
 obtain ⟨hh,g,d,tt,os⟩:=s
 refine wpAny_call (xB (fI:=f) I.kIn M.e M.fn (by rw [← r.length];exact hz) fun h' x hx Mx=>?_)
 obtain ⟨tp,ox,_,_⟩:=Mx.there
 have I2:=I.laid (a:=x) (o:=.ext (XF x C none)) (h':=h') (t':=tt) Mx.keeps hx (XF.ok ⟨_,_,ox,Nat.lt_of_lt_of_eq (show 1 < 6 by decide) rfl,rfl⟩)
 have hq:=h x (I.hok.fresh hx)
 have r2:Qd (V.ref x :: vs) (Value.ref x :: us):=.cons rfl r
 have hl:((Value.ref x :: us) ++ []).length=ps.length:=by
  rw [List.append_nil,← r2.length]
  exact F.len _ _ _ _ hq
 have hb2:=hb ⟨h',g,d,tt,os⟩ (Value.ref x :: us) I2.kIn hl
 rw [List.append_nil] at hb2
 refine codeAny_mono (F.run _ X.stack _ _ ⟨Value.ref x :: us,[]⟩ (Value.ref x :: us) _ _ _ (hr.make C us []) (I2.env0.make C us []) hb2 r2 hq) fun r s' hq'=>?_
 rcases r with e | (u | _ | _ | _) <;> first | exact False.elim hq' | skip
 obtain ⟨v,H',I3,rv,ev,q3⟩:=I2.after hq'
 subst ev
 exact ⟨rv,⟨V.ref x,H',I3,rfl,q3⟩⟩
theorem bp (M:MkX X.K C f) (F:Jb X.prog X.w X.K X.mg X.base (fun _ _ _ _ _ _=>False) k f fd ps sp) (hr:Aj (k + 1) X.A) (hg:Gl X x) (hm:X.mg x=some (.ref C)) (hb:Yb X.K fd ps [])
  (ha:PA X (e :: es) t) (hdb:(x == ("__debug__" : Str))=false:=by decide) (he:starEach (e :: es) X.env=(false,eval e X.env) :: starEach es X.env:=by rfl) (hpl:(backTo pos (starEach es X.env)).any (·.1)=false:=by rfl) :
  PE X (.Call (.Name x p) (e :: es) [] pos) (zH C sp t):=by
 intro pins s σ H Q I h
 refine wpAny_Call_Name_kw (Cn I hg hm ?_ hdb)
 exact PySem.W.callWith_K (h₀:=X.base) I.ok.mod.kin M.kp (thn (ha pos pins s σ H _ I h) fun us s1 ⟨vs,H1,I1,r,hz,q⟩=>⟨I1.kIn,ZD M F hr hb I1 r hz q⟩) he hpl
theorem Uo (ha:PE X o ta) (hv:PE X value tv) (hs:swapsWith value (some (.Attribute o g pos')) pos.line X.env=pure false):PS X (.Assign [.Attribute o g pos'] value pos) (HH X.K ta tv g):=by
 intro pins s σ H D I h
 refine plainObj_wpAny_Assign_Attribute (thn (hv pins s σ H _ I h) fun u s1 ⟨y,H1,I1,ry,q⟩=>thn (ha pins s1 σ H1 _ I1 q) fun ov s2 hZ1=>?_) hs
 obtain ⟨x,H2,I2,rx,a,C,ex,ea,c,n,q2⟩:=hZ1
 subst ex
 obtain rfl:ov=Value.ref a:=rx
 exact sF I2 ea c n ry fun dx s3 hd hne I3=>⟨σ,_,I3,q2 dx hd hne⟩
theorem Vo (ha:PE X o ta) (hv:PE X value tv) (hs:swapsWith value (some (.Attribute o g pos')) pos.line X.env=pure false):PS X (.Assign [.Attribute o g pos'] value pos) (gI X.K ta tv g):=by
 intro pins s σ H D I h
 refine plainObj_wpAny_Assign_Attribute (thn (hv pins s σ H _ I h) fun u s1 ⟨y,H1,I1,ry,q⟩=>thn (ha pins s1 σ H1 _ I1 q) fun ov s2 hZ1=>?_) hs
 obtain ⟨x,H2,I2,rx,a,C,dx,fs,ex,ea,ed,c,n,hl,q2⟩:=hZ1
 subst ex
 obtain rfl:ov=Value.ref a:=rx
 exact DB I2 ea ed c n hl ry fun s3 I3=>⟨σ,_,I3,q2⟩
end
end L2
namespace L2
open PySem PySem.Spec PyProof.Rows PySem.Builtin PySem.Builtin.ObjectAttr
noncomputable def FlA (x C:Addr) (od:Option Addr) (T:Addr) (fl:Value) (h:Heap):Prop:=
 T ≠ x∧∃ vs sl oT ts,h.get? x=some ⟨.ref C,od,.fields vs,sl⟩∧vs[1]? = some (.ref T)∧h.get? T=some oT∧oT.data=.fields ts∧ts[3]? = some fl
theorem FlA.xa {x C T:Addr} {od:Option Addr} {fl:Value} {h:Heap} (z:FlA x C od T fl h):XA x C od h:=let ⟨_,vs,sl,_,_,e,_⟩:=z;⟨vs,sl,e⟩
structure Kp (fs:List Addr) (x:Addr) (To:Option Addr) (h h':Heap):Prop where
 keep:∀ b o,h.get? b=some o→b ∉ fs→b ≠ x→some b ≠ To→h'.get? b=some o
 slot:∀ b o,h.get? b=some o→b ∈ fs→∃ sl,h'.get? b=some { o with slots:=sl }
 there:∀ b o,h.get? b=some o→∃ o',h'.get? b=some o'
section
variable {M:Model} {A:Around} {E:Value→Shared→Prop} {s:Shared}
theorem nofr {base h:Heap} {l:List Env} {b:Addr} {o:Obj} {vs:Array Value} (hl:h.FunFrames base l) (e:h.get? b=some o) (d:o.data=.fields vs):b ∉ frs l:=fun hm=>by
 obtain ⟨_,o',e',nf⟩:=hl.mem hm
 rw [e] at e'
 cases e'
 exact nf vs d
theorem MG {env env':Env} {L:Addr} (hf:env.frame=some L) (hf':env'.frame=some L):PySem.frameOf env'=PySem.frameOf env:=by
 unfold PySem.frameOf
 rw [hf',hf]
theorem wH {base:Heap} {env env':Env} {outer:List Env} {L x C:Addr} {od:Option Addr} {vs:Array Value} {sl:Array (Option Value)} {head:Value} {hn:Bool} {Q:Unit→Shared→Prop}
  (hfr:A.frames=some (env :: outer)) (hl:s.heap.FunFrames base (env :: outer)) (hf:env.frame=some L) (hf':env'.frame=some L) (he:s.heap.get? x=some ⟨.ref C,od,.fields vs,sl⟩) (hz:1 < vs.size)
  (h:∀ h' T,Kp (frs (env :: outer)) x none s.heap h'→s.heap.objs.size ≤ T→FlA x C od T (rawInt L) h'→Q () { s with heap:=h' }) :
  wpAny M A (do let a ← PySem.frameOf env';let pl ← entryPlaceOf L hn;let b ← EntryCells.newEntry head a .none (rawInt L) .none pl;setField (.ref x) 1 b) Q E s:=by
 have nx:x ∉ frs (env :: outer):=nofr hl he rfl
 rw [MG hf hf']
 refine wpAny_bind (wpAny_frameOf_fun hfr hl hf fun h1 S=>wpAny_bind (wpAny_entryPlaceOf fun pl hp=>?_))
 unfold EntryCells.newEntry newFields
 refine wpAny_bind (wpAny_newObj_type ?_ (hp.sizeOk5 _ _ _ _ _))
 have e1:h1.get? x=some ⟨.ref C,od,.fields vs,sl⟩:=(S.2.1 x nx).trans he
 obtain ⟨ts,hts,h3⟩:∃ ts:Array Value,([head,.ref L,.none,rawInt L,.none] ++ (if pl.isEmpty then List.replicate 6 Value.none else pl)).toArray=ts∧ts[3]? = some (rawInt L):=⟨_,rfl,by simp⟩
 rw [hts]
 have e2:=Heap.get?_push_of_some (h:=h1) { cls:=.type "traceback",dict:=none,data:=.fields ts } e1
 have ne:h1.objs.size ≠ x:=Nat.ne_of_gt (Heap.lt_size e1)
 have sz:h1.objs.size=s.heap.objs.size:=S.1
 refine wpAny_setField e2 rfl hz (h _ h1.objs.size ⟨fun b o q n1 n2 _=>?_,fun b o q n1=>?_,fun b o q=>?_⟩ (Nat.le_of_eq sz.symm) ⟨ne,vs.setIfInBounds 1 (.ref h1.objs.size),sl,{ cls:=.type "traceback",dict:=none,data:=.fields ts },ts,Heap.get?_update_self _ e2 rfl,by simp [hz],?_,rfl,h3⟩)
 ·rw [Heap.get?_update_other _ _ (Ne.symm n2)]
  exact Heap.get?_push_of_some _ ((S.2.1 b n1).trans q)
 ·obtain ⟨sl',e3⟩:=S.2.2 b o q
  have nb:x ≠ b:=fun z=>nx (by rw [z];exact n1)
  exact ⟨sl',(Heap.get?_update_other _ _ nb).trans (Heap.get?_push_of_some _ e3)⟩
 ·by_cases hb:b=x
  ·rw [hb];exact ⟨_,Heap.get?_update_self _ e2 rfl⟩
  ·obtain ⟨sl',e3⟩:=S.2.2 b o q
   exact ⟨_,by rw [Heap.get?_update_other _ _ (Ne.symm hb)];exact Heap.get?_push_of_some _ e3⟩
 ·exact (Heap.get?_update_other _ _ (Ne.symm ne)).trans (Heap.get?_push_size h1 rfl)
theorem gA {base:Heap} {env env':Env} {outer:List Env} {L x C:Addr} {od:Option Addr} {vs:Array Value} {sl:Array (Option Value)} {Q:Unit→Shared→Prop}
  (hfr:A.frames=some (env :: outer)) (hl:s.heap.FunFrames base (env :: outer)) (hf:env.frame=some L) (hf':env'.frame=some L) (he:s.heap.get? x=some ⟨.ref C,od,.fields vs,sl⟩) (h1:vs[1]? = some .none)
  (h:∀ h' T,Kp (frs (env :: outer)) x none s.heap h'→s.heap.objs.size ≤ T→FlA x C od T (rawInt L) h'→Q () { s with heap:=h' }) :
  wpAny M A (noteFrame (.ref x) env') Q E s:=by
 unfold noteFrame
 simp only [hf']
 refine wpAny_bind (wpAny_field he rfl h1 ?_)
 rw [if_neg (by decide)]
 exact wH hfr hl hf hf' he (Array.getElem?_eq_some_iff.mp h1).1 h
theorem OB {base:Heap} {env env':Env} {outer:List Env} {L x C T:Addr} {od:Option Addr} {fl:Value} {Q:Unit→Shared→Prop}
  (hfr:A.frames=some (env :: outer)) (hl:s.heap.FunFrames base (env :: outer)) (hf:env.frame=some L) (hf':env'.frame=some L) (z:FlA x C od T fl s.heap) (hne:¬ (fl == rawInt L)=true)
  (h:∀ h' T',Kp (frs (env :: outer)) x (some T) s.heap h'→s.heap.objs.size ≤ T'→FlA x C od T' (rawInt L) h'→Q () { s with heap:=h' }) :
  wpAny M A (noteFrame (.ref x) env') Q E s:=by
 obtain ⟨ne,vs,sl,oT,ts,he,h1,hT,hd,h3⟩:=z
 unfold noteFrame
 simp only [hf']
 refine wpAny_bind (wpAny_field he rfl h1 ?_)
 rw [if_pos (show (Value.ref T != Value.none)=true from by simp)]
 refine wpAny_bind (wpAny_field hT hd h3 ?_)
 rw [if_neg hne]
 refine wpAny_bind (wpAny_setField hT hd (Array.getElem?_eq_some_iff.mp h3).1 ?_)
 have nT:T ∉ frs (env :: outer):=nofr hl hT hd
 have oth:∀ b,b ≠ T→(s.heap.update T (Obj.mapFields (·.setIfInBounds 3 Value.none))).get? b=s.heap.get? b:=fun b hb=>Heap.get?_update_other _ _ (Ne.symm hb)
 have tT:∃ o',(s.heap.update T (Obj.mapFields (·.setIfInBounds 3 Value.none))).get? T=some o':=⟨_,Heap.get?_update_self _ hT (Obj.isFreed_of_fields (Obj.data_mapFields hd _))⟩
 have hl2:(s.heap.update T (Obj.mapFields (·.setIfInBounds 3 Value.none))).FunFrames base (env :: outer):=hl.of_keeps fun b o e nf=>⟨o,(oth b fun q=>by rw [q,hT] at e;cases e;exact nf ts hd).trans e,rfl⟩
 refine wH (s:={ s with heap:=s.heap.update T (Obj.mapFields (·.setIfInBounds 3 Value.none)) }) hfr hl2 hf hf' ((oth x (Ne.symm ne)).trans he) (Array.getElem?_eq_some_iff.mp h1).1 fun h' T' k w f=>h h' T' ⟨fun b o q n1 n2 n3=>?_,fun b o q n1=>?_,fun b o q=>?_⟩ ?_ f
 ·exact k.keep b o ((oth b fun y=>n3 (by rw [y])).trans q) n1 n2 (fun y=>by cases y)
 ·exact k.slot b o ((oth b fun y=>nT (y ▸ n1)).trans q) n1
 ·by_cases hb:b=T
  ·subst hb
   obtain ⟨o',e'⟩:=tT
   exact k.there _ _ e'
  ·exact k.there b o ((oth b hb).trans q)
 ·exact Nat.le_trans (Nat.le_of_eq (Heap.size_update _ _ _).symm) w
theorem flight {x C T:Addr} {od:Option Addr} {fl:Value} {fs:List Addr} {Q:Unit→Shared→Prop} (o:Option Addr) (z:FlA x C od T fl s.heap) (nT:T ∉ fs)
  (h:∀ h',Kp fs x (some T) s.heap h'→FlA x C od T (o.elim .none fun f=>rawInt f) h'→Q () { s with heap:=h' }):wpAny M A (setFlight (.ref x) o) Q E s:=by
 obtain ⟨ne,vs,sl,oT,ts,he,h1,hT,hd,h3⟩:=z
 have z3:3 < ts.size:=(Array.getElem?_eq_some_iff.mp h3).1
 have oth:∀ b,b ≠ T→(s.heap.update T (Obj.mapFields (·.setIfInBounds 3 (o.elim Value.none fun f=>rawInt f)))).get? b=s.heap.get? b:=fun b hb=>Heap.get?_update_other _ _ (Ne.symm hb)
 have tT:=Heap.get?_update_self (Obj.mapFields (·.setIfInBounds 3 (o.elim Value.none fun f=>rawInt f))) hT (Obj.isFreed_of_fields (Obj.data_mapFields hd _))
 unfold setFlight
 refine wpAny_bind (wpAny_field he rfl h1 ?_)
 rw [if_pos (show (Value.ref T != Value.none)=true from by simp)]
 refine wpAny_setField hT hd z3 (h _ ⟨fun b o q _ _ n3=>(oth b fun y=>n3 (by rw [y])).trans q,fun b o q n1=>⟨o.slots,(oth b fun y=>nT (y ▸ n1)).trans q⟩,fun b o q=>?_⟩
  ⟨ne,vs,sl,_,_,(oth x (Ne.symm ne)).trans he,h1,tT,Obj.data_mapFields hd _,by simp [z3]⟩)
 by_cases hb:b=T
 ·subst hb;exact ⟨_,tT⟩
 ·exact ⟨o,(oth b hb).trans q⟩
end
section
variable {P:Program} {w:World} {H:Hp} {h h':Heap} {fs:List Addr} {x C T:Addr} {od:Option Addr} {fl:Value} {To:Option Addr} {o:HO}
theorem Kp.hok (k:Kp fs x To h h') (ok:HOk P w H h) (hfs:∀ b ∈ fs,H b=none) (hT:∀ t,To=some t→H t=none) (mu:Mut (H x)) (new:XA x C od h'):HOk P w (upd H x (.ext (XA x C od))) h':=fun b u q=>by
 have nown:∀ c y,H c=some (.own y)→c ≠ x:=fun c y r z=>by subst z;rw [r] at mu;exact mu
 have ntup:∀ c xs,H c=some (.tup xs)→c ≠ x:=fun c xs r z=>by subst z;rw [r] at mu;exact mu
 have kk:∀ c v,c ≠ x→H c ≠ none→h.get? c=some v→h'.get? c=some v:=fun c v n1 n2 r=>k.keep c v r (fun z=>n2 (hfs c z)) n1 fun z=>n2 (hT c z.symm)
 by_cases hb:b=x
 ·subst hb;rw [db] at q;cases q;exact new.ok
 ·rw [lb hb] at q
  refine (ok b u q).stay (fun c v hc r=>?_) (fun c r=>by rw [lb (nown c b r)];exact r) fun c xs r=>by rw [lb (ntup c xs r)];exact r
  rcases hc with rfl | hc
  ·exact kk c v hb (by rw [q];exact fun z=>by cases z) r
  ·exact kk c v (nown c b hc) (by rw [hc];exact fun z=>by cases z) r
theorem Kp.un (k:Kp fs x To h h') (hT:∀ t,To=some t→H t=none) (mu:Mut (H x)):Un fs To.toList H (upd H x o) h h':=by
 have hx:∀ b,H b=none→b ≠ x:=fun b n z=>by subst z;rw [n] at mu;exact mu
 have hm:∀ b u,H b=some u→¬ Mut (some u)→b ≠ x:=fun b u q nm z=>by subst z;rw [q] at mu;exact nm mu
 refine ⟨fun b u q n n1 n2=>k.keep b u q n1 (hx b n) fun z=>n2 (by rw [← z];simp),fun b u q n n1 n2=>k.slot b u q n1,fun b u q n _=>by rw [lb (hx b n)];exact n,fun b u q _=>k.there b u q,
  fun b xs q=>by rw [lb (hm b _ q fun z=>z)];exact q,fun b u xs q=>by rw [lb (hm b _ q fun z=>z)];exact q,fun b ps q=>⟨#[],by rw [lb (hm b _ q fun z=>z),q];simp⟩⟩
end
noncomputable def CX1 (P:Program) (w:World):CXT:=fun outer H s E e s'=>
 ∃ x C od H' T,e=.ref x∧s'.os=s.os∧AllBare s'.gens∧Un (frs outer) [] H H' s.heap s'.heap∧HOk P w H' s'.heap∧H' x=some (.ext (XA x C od))∧s.heap.objs.size ≤ T∧H' T=none∧FlA x C od T .none s'.heap∧E (.ref C) od H'
noncomputable def nE (X:Cx) (E:St→XK):Prop:=∀ (pins:List (Addr × Obj)) (σ:St) (H:Hp) (s:Shared) (x C:Addr) (od:Option Addr),Inv X pins σ H s→H x=some (.ext (XF x C od))→E σ (.ref C) od (upd H x (.ext (XA x C od)))→X.xe (.ref x) s
structure Fr1 (X:Cx):Prop where
 st:X.stack=X.env :: X.outer
 fr:X.env.frame=some X.env.locals
noncomputable def YL (X:Cx) (pins:List (Addr × Obj)) (T:Addr):Prop:=(T ∈ X.ex∨X.s₀.heap.objs.size ≤ T)∧T ≠ X.env.locals∧(∀ x c,X.env.cells.lookup x=some c→c ≠ T)∧∀ p ∈ X.pn ++ pins,p.1 ≠ T
noncomputable def qB (X:Cx) (pins:List (Addr × Obj)) (E:St→XK) (fl:Value) (e:Value) (s':Shared):Prop:=
 ∃ σ' H' x C od T,e=.ref x∧Inv X pins σ' H' s'∧H' x=some (.ext (XA x C od))∧H' T=none∧YL X pins T∧FlA x C od T fl s'.heap∧E σ' (.ref C) od H'
noncomputable def xeR (X:Cx) (pins:List (Addr × Obj)) (E:St→XK) (e:Value) (s':Shared):Prop:=
 ∃ σ' H' x C od,e=.ref x∧Inv X pins σ' H' s'∧H' x=some (.ext (XF x C od))∧E σ' (.ref C) od (upd H' x (.ext (XA x C od)))
noncomputable def xeT (X:Cx) (pins:List (Addr × Obj)) (E:St→XK) (e:Value) (s':Shared):Prop:=xeR X pins E e s'∨∃ fl,qB X pins E fl e s'
noncomputable def xeA (X:Cx) (E:St→XK) (e:Value) (s':Shared):Prop:=∃ pins,xeT X pins E e s'
section
variable {X:Cx} {pins:List (Addr × Obj)} {σ:St} {H:Hp} {s:Shared} {T x C:Addr} {od:Option Addr} {E:St→XK} {M:Model} {A:Around} {E':Value→Shared→Prop} {Q:Unit→Shared→Prop} {e fl:Value} {h':Heap}
theorem UM (I:Inv X pins σ H s) (hT:s.heap.objs.size ≤ T):YL X pins T:=by
 have lt:∀ {b:Addr} {o:Obj},s.heap.get? b=some o→b ≠ T:=fun q z=>by
  subst z
  exact absurd (Nat.lt_of_lt_of_le (Heap.lt_size q) hT) (Nat.lt_irrefl _)
 refine ⟨.inr (Nat.le_trans I.sz hT),fun z=>?_,fun x c e=>?_,fun p hp=>lt (I.pin p hp).1⟩
 ·obtain ⟨m,⟨o,es,ep,ho,_⟩,_⟩:=I.loc
  exact lt ho z.symm
 ·obtain ⟨v,o,ho,_⟩:=I.cell x c e
  exact lt ho
theorem GJ (I:Inv X pins σ H s) (k:Kp (frs X.stack) x (some T) s.heap h') (ex:H x=some (.ext (XA x C od))) (eT:H T=none) (nT:YL X pins T) (xa:XA x C od h'):Inv X pins σ H { s with heap:=h' }:=by
 have mu:Mut (H x):=by rw [ex];exact True.intro
 have z:∀ t,some T=some t→H t=none:=fun t z=>by cases z;exact eT
 have u1:=k.un (H:=H) (o:=.ext (XA x C od)) z mu
 have k1:=k.hok I.hok I.stkFree z mu xa
 rw [ZH ex] at u1 k1
 exact I.call' (s':={ s with heap:=h' }) (ch:=[T]) rfl u1 k1 I.bare fun b hb=>by
  obtain rfl:b=T:=by simpa using hb
  exact nT
theorem CH (F:Fr1 X) (I:Inv X pins σ H s) (k:Kp (frs (X.env :: X.outer)) x (some T) s.heap h') (ex:H x=some (.ext (XA x C od))) (eT:H T=none) (nT:YL X pins T) (xa:XA x C od h'):Inv X pins σ H { s with heap:=h' }:=
 GJ I (by rw [F.st];exact k) ex eT nT xa
theorem qB.note (F:Fr1 X) (q:qB X pins E fl e s) (hne:¬ (fl == rawInt X.env.locals)=true) (h:∀ s',qB X pins E (rawInt X.env.locals) e s'→Q () s'):wpAny M X.A (noteFrame e X.env) Q E' s:=by
 obtain ⟨σ,H,x,C,od,T,rfl,I,ex,eT,nT,f,w⟩:=q
 have fs:s.heap.FunFrames X.base (X.env :: X.outer):=by rw [← F.st];exact I.stack
 exact OB (by rw [← F.st];exact I.ok.frames) fs F.fr F.fr f hne fun h' T' k w' f'=>h _ ⟨σ,H,x,C,od,T',rfl,CH F I k ex eT nT f'.xa,ex,I.hok.fresh w',UM I w',f',w⟩
theorem qB.noted (F:Fr1 X) (q:qB X pins E (rawInt X.env.locals) e s) (h:Q () s):wpAny M X.A (noteFrame e X.env) Q E' s:=by
 obtain ⟨σ,H,x,C,od,T,rfl,I,ex,eT,nT,⟨ne,vs,sl,oT,ts,he,h1,hT,hd,h3⟩,w⟩:=q
 unfold noteFrame
 simp only [F.fr]
 refine wpAny_bind (wpAny_field he rfl h1 ?_)
 rw [if_pos (show (Value.ref T != Value.none)=true from by simp)]
 refine wpAny_bind (wpAny_field hT hd h3 ?_)
 rw [if_pos (show (rawInt X.env.locals == rawInt X.env.locals)=true from by simp)]
 exact wpAny_pure h
theorem xeR.note (F:Fr1 X) (q:xeR X pins E e s) (h:∀ s',qB X pins E (rawInt X.env.locals) e s'→Q () s'):wpAny M X.A (noteFrame e X.env) Q E' s:=by
 obtain ⟨σ,H,x,C,od,rfl,I,ex,w⟩:=q
 have fs:s.heap.FunFrames X.base (X.env :: X.outer):=by rw [← F.st];exact I.stack
 obtain ⟨vs,sl,hx,z1,z2⟩:=(show zd X.prog X.w H s.heap x (.ext (XF x C od)) from I.hok _ _ ex).1
 have mu:Mut (H x):=by rw [ex];exact True.intro
 refine gA (by rw [← F.st];exact I.ok.frames) fs F.fr F.fr hx z2 fun h' T k w' f=>h _ ?_
 have z:∀ t,none=some t→H t=none:=fun t z=>by cases z
 have u1:=k.un (H:=H) (o:=.ext (XA x C od)) z mu
 have k1:=k.hok I.hok (by rw [← F.st];exact I.stkFree) z mu f.xa
 rw [← F.st] at u1
 have I2:=I.call' (s':={ s with heap:=h' }) (ch:=[]) rfl u1 k1 I.bare fun b hb=>absurd hb (by simp)
 exact ⟨σ,_,x,C,od,T,rfl,I2,db,by rw [lb f.1];exact I.hok.fresh w',UM I w',f,w⟩
theorem xeT.note (F:Fr1 X) (q:xeT X pins E e s) (h:∀ s',qB X pins E (rawInt X.env.locals) e s'→Q () s'):wpAny M X.A (noteFrame e X.env) Q E' s:=by
 rcases q with q | ⟨fl,q⟩
 ·exact q.note F h
 ·by_cases c:(fl == rawInt X.env.locals)=true
  ·rw [beq_iff_eq] at c
   subst c
   exact q.noted F (h _ q)
  ·exact q.note F c h
theorem qB.flight (F:Fr1 X) (o:Option Addr) (q:qB X pins E fl e s) (h:∀ s',qB X pins E (o.elim .none fun f=>rawInt f) e s'→Q () s'):wpAny M A (setFlight e o) Q E' s:=by
 obtain ⟨σ,H,x,C,od,T,rfl,I,ex,eT,nT,f,w⟩:=q
 have fs:s.heap.FunFrames X.base (X.env :: X.outer):=by rw [← F.st];exact I.stack
 have nf:T ∉ frs (X.env :: X.outer):=by
  obtain ⟨_,_,_,oT,ts,_,_,e,d,_⟩:=id f
  exact nofr fs e d
 exact L2.flight o f nf fun h' k f'=>h _ ⟨σ,H,x,C,od,T,rfl,CH F I k ex eT nT f'.xa,ex,eT,nT,f',w⟩
theorem xeT.leave (F:Fr1 X) (q:xeT X pins E e s) (h:∀ s',qB X pins E .none e s'→Q () s'):wpAny M X.A (leaving X.env e) Q E' s:=by
 unfold leaving
 exact wpAny_bind (q.note F fun s' q'=>q'.flight F none h)
theorem px (F:Fr1 X):PassesOwn M X.A X.env (xeT X pins E):=fun e s' q=>by
 refine q.note F fun s2 q2=>?_
 show wpAny _ _ _ _ _ _
 obtain ⟨σ,H,x,C,od,T,rfl,I,ex,eT,nT,⟨ne,vs,sl,oT,ts,he,h1,hT,hd,h3⟩,w⟩:=id q2
 refine wpAny_bind (wpAny_field he rfl h1 ?_)
 rw [if_neg (show ¬ (Value.ref T == Value.none)=true from by simp)]
 rw [F.fr]
 exact q2.flight F _ fun s3 q3=>.inr ⟨_,q3⟩
theorem Kf (F:Fr1 X):PassesOwn M X.A X.env (xeA X E):=fun e s' ⟨pins,q⟩=>by
 have z:=px (M:=M) F e s' q
 refine wpAny_mono z (fun _ s2 q2=>?_) fun e2 s2 q2=>?_
 all_goals exact wpAny_mono q2 (fun _ s3 q3=>⟨pins,q3⟩) fun e3 s3 q3=>⟨pins,q3⟩
theorem UJ:nE (X.wish (xeA X E)) E:=fun pins σ H s x C od I ex q=>⟨pins,.inl ⟨σ,H,x,C,od,rfl,I.unwish,ex,q⟩⟩
theorem uJ {E0:XK} {s':Shared} (I:Inv X pins σ H s) (hq:CX1 X.prog X.w X.stack H s E0 e s') (h:∀ C od H',E0 C od H'→E σ C od H'):xeT X pins E e s':=by
 obtain ⟨x,C,od,H2,T,rfl,os,bare,un,hok,ex,hT,eT,fl,q⟩:=hq
 exact .inr ⟨_,σ,H2,x,C,od,T,rfl,I.call' os un hok bare (fun b z=>absurd z (by simp)),ex,eT,UM I hT,fl,h _ _ _ q⟩
end
theorem sf {X:Cx} {E:XK}:Hl (CX1 X.prog X.w) (X.wish (xeA X fun _=>E)) E:=fun pins σ H s e s' I hq=>⟨pins,uJ I.unwish hq fun _ _ _ z=>z⟩
theorem Ht {X:Cx} {E:XK}:nE (X.wish (xeA X fun _=>E)) (fun _=>E):=UJ
section
variable {P:Program} {w:World} {K:PySem.W.Frag} {mg:Str→Option Value} {base:Heap} {N:List Str} {qual:Str} {scope:Scope} {f:Addr} {cd:Value} {A:Around} {outer:List Env} {s:Shared} {H:Hp} {E:XK}
theorem VJ {e:Value} {s':Shared} (q:xeA (uD (CX1 P w) P w K mg base N qual scope f cd A outer s H E) (fun _=>E) e s'):(uD (CX1 P w) P w K mg base N qual scope f cd A outer s H E).xe e s':=by
 obtain ⟨pins,q⟩:=q
 refine q.leave ⟨rfl,rfl⟩ fun s2 q2=>?_
 obtain ⟨σ,H2,x,C,od,T,rfl,I,ex,eT,nT,fl,q⟩:=q2
 refine ⟨x,C,od,H2,T,rfl,I.os,I.bare,I.base,I.hok,ex,?_,eT,fl,q⟩
 rcases nT.1 with z | z
 ·exact absurd z (by show T ∉ ([]:List Addr);simp)
 ·exact z
end
section
variable {X:Cx} {CX:CXT} {k:Nat} {f C:Addr} {fd:FuncData} {ps:List Str} {sp:Sp} {dvs:List V} {ds:List Value} {E:St→XK} {x m:Str} {p pos apos:Pos} {e o:Expr} {es:List Expr} {ta:TE} {t:TA}
end
noncomputable abbrev Cx.tr (X:Cx) (pn:List (Addr × Obj)) (E:Value→Shared→Prop):Cx:={ X with pn:=X.pn ++ pn,xe:=E }
noncomputable abbrev Cx.hn (X:Cx) (e:Value):Cx:={ X with A:=X.A.mark (some e),calm:=false,xe:=fun _ _=>False }
section
variable {X:Cx} {pins pins':List (Addr × Obj)} {σ:St} {H:Hp} {s:Shared} {E:Value→Shared→Prop} {e:Value}
theorem Cx.Ok.tr (ok:X.Ok) (pn:List (Addr × Obj)) (E:Value→Shared→Prop):(X.tr pn E).Ok:=
 ⟨ok.mod,ok.kind,ok.glob,ok.blt,ok.above,ok.inj,ok.has,ok.cab,ok.hd,ok.frames,ok.stk,ok.exf,ok.bs,ok.bsz,ok.noex,ok.exfs,ok.funs,ok.frf⟩
theorem Cx.Ok.hn (ok:X.Ok) (e:Value):(X.hn e).Ok:=
 ⟨ok.mod,ok.kind,ok.glob,ok.blt,ok.above,ok.inj,ok.has,ok.cab,(fun z=>Bool.noConfusion z),ok.frames,ok.stk,ok.exf,ok.bs,ok.bsz,ok.noex,ok.exfs,ok.funs,ok.frf⟩
theorem Inv.tr (I:Inv X pins σ H s) (E:Value→Shared→Prop):Inv (X.tr pins E) [] σ H s:=⟨I.ok.tr pins E,I.os,I.bare,I.base,I.loc,I.cell,I.free,I.freeC,fun p hp=>I.pin p (by simpa using hp),I.hok,I.len⟩
theorem Inv.hn (I:Inv X pins σ H s) (e:Value):Inv (X.hn e) pins σ H s:=⟨I.ok.hn e,I.os,I.bare,I.base,I.loc,I.cell,I.free,I.freeC,I.pin,I.hok,I.len⟩
end
noncomputable def Mi.gone (D:Mi) (i:Nat):Mi:={ nx:=fun σ H=>D.nx (σ.set i none) H,rt:=D.rt,bk:=fun σ H=>D.bk (σ.set i none) H,ct:=fun σ H=>D.ct (σ.set i none) H }
section
variable {X:Cx} {body suite:List Stmt} {b0:Stmt} {x n:Str} {c:Addr} {i:Nat} {tb:(St→XK)→TS} {th:TS} {xp hp pos:Pos}
end
theorem kJ (D:Mi) (i:Nat) (σ:St) (H:Hp):(D.gone i).nx σ H=D.nx (σ.set i none) H:=rfl
theorem HI (D:Mi) (i:Nat) (v:V) (H:Hp):(D.gone i).rt v H=D.rt v H:=rfl
theorem OwnTail.has {h:Heap} {bm tl:List Value} {v:Value} (T:OwnTail h bm tl) (e:bm.contains v=true):tl.contains v=true:=by
 induction T with
 | base=>exact e
 | own _ _ _ _ ih=>rw [List.contains_cons,ih,Bool.or_true]
noncomputable def NH (K:PySem.W.Frag) (E:St→XK) (te:TE):TS:=fun D σ H=>te σ H fun v H1=>∃ x C od,v=.ref x∧H1 x=some (.ext (XF x C od))∧Zu K C∧E σ (.ref C) od (upd H1 x (.ext (XA x C od)))
theorem OA {M:Model} {A:Around} {E:Value→Shared→Prop} {s:Shared} {env:Env} {x:Sem Value} {Q:Flow→Shared→Prop} (hh:A.handled=none)
  (h:wpAny M A x (fun v s1=>∃ e C od vs sl nm q N bs bm hdct sn sub ab col dd k0 k1 k2 k3 k5 newId,v=.ref e∧bm.contains (.type "BaseException")=true ∧
   s1.heap.get? C=some (excClassObj nm q C N bs bm hdct sn sub ab col dd k0 k1 k2 k3 k5 newId)∧s1.heap.get? e=some ⟨.ref C,od,.fields vs,sl⟩∧vs[1]? = some .none∧E (.ref e) s1) E s) :
  wpAny M A (raiseStmt env (some x) none) Q E s:=by
 unfold raiseStmt
 refine wpAny_bind (wpAny_mono h (fun v s1 h1=>?_) fun _ _ x=>x)
 obtain ⟨e,C,od,vs,sl,nm,q,N,bs,bm,hdct,sn,sub,ab,col,dd,k0,k1,k2,k3,k5,newId,rfl,hb,hC,he,h1,hE⟩:=h1
 have hcB:(Value.ref C :: bm).contains (.type "BaseException")=true:=by rw [List.contains_cons,hb,Bool.or_true]
 obtain ⟨hp,g,d,tk,os⟩:=s1
 repeat (first | with_reducible refine wpAny_loadPart_at he ?_ | with_reducible refine wpAny_loadPart_at hC ?_ | (with_reducible refine wpAny_isSubtype_exc hC ?_;rw [hcB]) | (with_reducible refine wpAny_field he rfl h1 ?_) | wp_step)
 exact wpAny_raiseNew_none hh hE
section
variable {X:Cx} {e:Expr} {te:TE} {pos:Pos} {E:St→XK}
theorem ip (he:PE X e te) (hT:nE X E) (hc:X.calm=true:=by rfl):PS X (.Raise (some e) none pos) (NH X.K E te):=by
 intro pins s σ H D I h
 rw [arm_exec_Raise]
 refine wpAny_bind (wpAny_standAt (OA (I.ok.hd hc) ?_))
 refine wpAny_bind (thn (he pins s σ H _ I h) fun u s1 ⟨v,H1,I1,r,x,C,od,ev,ex,c,q⟩=>wpAny_bind (wpAny_standAt (wpAny_pure ?_)))
 subst ev
 obtain rfl:u=Value.ref x:=r
 obtain ⟨vs,sl,hx,z1,z2⟩:=(show zd X.prog X.w H1 s1.heap x (.ext (XF x C od)) from I1.hok _ _ ex).1
 obtain ⟨fI,hfI⟩:=c.ex
 obtain ⟨tl,N,nm,q',bs,sn,sub,ab,co,dd,k0,k1,k2,k3,k5,mN,hC,hN,hi,T⟩:=Ru I1.kIn hfI
 exact ⟨x,C,od,vs,sl,nm,q',N,bs,tl,true,sn,sub,ab,co,dd,k0,k1,k2,k3,k5,_,rfl,L2.OwnTail.has T (by decide),hC,hx,z2,hT pins σ H1 s1 x C od I1 ex q⟩
theorem PS.nox {X:Cx} {st:Stmt} {t:TS} (h:PS X.nox st t):PS X st t:=fun pins s σ H D I hw=>
 wpAny_mono (h pins s σ H D (I.wish _) hw) (fun _ _ q=>q.unwish) fun _ _ z=>False.elim z
end
theorem Fun.okX {P:Program} {w:World} {K:PySem.W.Frag} {mg:Str→Option Value} {base:Heap} {x qual:Str} {st:Stmt} {f:Addr} {fd:FuncData} {N ps:List Str} {k:Nat} {sp:Sp} (F:Fun K x qual st f fd) (S:yb N ps (qb st))
  (len:∀ vs H Q E,sp vs H Q E→vs.length=ps.length)
  (hbody:∀ (cdv:Value) (A:Around) (outer:List Env) (s:Shared) (H:Hp) (vs:List V) (Q:VK) (E:XK),Aj k (A.deeper (envOfC qual (qb st) s.heap.objs.size f cdv))→sp vs H Q E →
   ∃ t,PSs ((uD (CX1 P w) P w K mg base N qual (qb st) f cdv A outer s H E).wish (xeA (uD (CX1 P w) P w K mg base N qual (qb st) f cdv A outer s H E) fun _=>E)) (Ln st) t∧t { nx:=fun _ H'=>Q .non H',rt:=Q } (start N vs) H):Jb P w K mg base (CX1 P w) (k + 1) f fd ps sp:=by
 obtain ⟨oc,od,kV,doc,pm,an,cdv,ct,osl,rfl,lk,hcd⟩:=F.ex
 refine EL lk hcd S len fun A outer s H vs Q E hr hsp=>?_
 obtain ⟨t,h,q⟩:=hbody cdv A outer s H vs Q E hr hsp
 exact ⟨t,fun pins s1 σ H1 D I hw=>wpAny_mono (h pins s1 σ H1 D (I.wish _) hw) (fun _ _ q=>q.unwish) fun _ _ z=>VJ z,q⟩
noncomputable def xeB (B:Cx) (E:XK) (e:Value) (s':Shared):Prop:=
 ∃ pins fl σ' H' x C od T,e=.ref x∧Inv B pins σ' H' s'∧H' x=some (.ext (XA x C od))∧H' T=none∧YL B pins T∧B.s₀.heap.objs.size ≤ T∧FlA x C od T fl s'.heap∧E (.ref C) od H'
structure vN (X:Cx) (scope:Scope) (N:List Str) (tg elt:Expr) (ifs:List Expr) (g:TG) (tc:TT) (te:XK→TE):Prop where
 tgt:∀ E C s H fp,PG ((X.block scope C N s H fp).wish (xeB (X.block scope C N s H fp) E)) tg g
 tests:∀ E C s H fp,PTs ((X.block scope C N s H fp).wish (xeB (X.block scope C N s H fp) E)) ifs tc
 elem:∀ E C s H fp,PE ((X.block scope C N s H fp).wish (xeB (X.block scope C N s H fp) E)) elt (te E)
theorem vN.of {X:Cx} {scope:Scope} {N:List Str} {tg elt:Expr} {ifs:List Expr} {g:TG} {tc:TT} {te:XK→TE} (h1:∀ E C s H fp,PG ((X.block scope C N s H fp).wish (xeB (X.block scope C N s H fp) E)) tg g)
  (h2:∀ E C s H fp,∃ t,PTs ((X.block scope C N s H fp).wish (xeB (X.block scope C N s H fp) E)) ifs t∧t=tc) (h3:∀ E C s H fp,∃ t,PE ((X.block scope C N s H fp).wish (xeB (X.block scope C N s H fp) E)) elt t∧t=te E):vN X scope N tg elt ifs g tc te:=
 ⟨h1,fun E C s H fp=>by obtain ⟨t,h,rfl⟩:=h2 E C s H fp;exact h,fun E C s H fp=>by obtain ⟨t,h,e⟩:=h3 E C s H fp;rw [← e];exact h⟩
section
variable {X:Cx} {elt tg iter:Expr} {ifs:List Expr} {scope:Scope} {pos:Pos} {wi:TI} {g:TG} {tc:TT} {te:XK→TE} {N:List Str} {sel:List (Option Nat)}
theorem FlA.but {x C T c:Addr} {od:Option Addr} {fl:Value} {h h':Heap} (z:FlA x C od T fl h) (n1:x ≠ c) (n2:T ≠ c) (k:∀ b,b ≠ c→h'.get? b=h.get? b):FlA x C od T fl h':=by
 obtain ⟨ne,vs,sl,oT,ts,he,h1,hT,hd,h3⟩:=z
 exact ⟨ne,vs,sl,oT,ts,(k _ n1).trans he,h1,(k _ n2).trans hT,hd,h3⟩
end
structure KN (K:PySem.W.Frag) (C:Addr):Prop where
 cl:Cls K C
 ha:PySem.W.findIn K (.ref C) "__class__"=some (some (.builtin "object.__class__"))
 hn:PySem.W.specialIn K (.builtin "object.__class__") "__get__"=some (some (.builtin "getset_descriptor.__get__"))
 htk:PySem.W.takesIn K (.builtin "object.__class__")=some true
 hm:PySem.W.mroIn K C (.type "object")=some true
theorem KN.ty {K:PySem.W.Frag} {H:Hp} {C a dx:Addr} {fs:List (Str × V)} (c:KN K C) (e:H a=some (.ins C dx fs)):Jz K H (.ref a) (.ref C):=.ins e c.cl c.ha c.hn c.htk c.hm
end L2
namespace L2
open PySem PySem.Spec PyProof.Rows
section
variable {X:Cx} {tg:Expr}
end
theorem qA:typeLookup (.type "list_reverseiterator") "__len__"=pure none:=by rw [typeLookup_type,builtinLookup_eq_fast];kernel_rfl
theorem zw:typeLookup (.type "list_reverseiterator") "__length_hint__"=pure (some (.builtin "list_reverseiterator.__length_hint__")):=by rw [typeLookup_type,builtinLookup_eq_fast];kernel_rfl
section
variable {prog:Program} {w:World} {A:Around} {E:Value→Shared→Prop} {s:Shared} {it l:Addr} {items:Array Value}
theorem OF (hT:s.TypeIs (.ref it) "list_reverseiterator") {Q:Bool→Shared→Prop} (h:Q false s):wpAny (model prog w) A (Builtin.List.listLengthHint (.ref it)) Q E s:=by
 unfold Builtin.List.listLengthHint
 refine wpAny_bind (wpAny_specialOf hT qA ?_)
 show wpAny _ A (specialOf (Value.ref it) (Str.ofString "__length_hint__") >>= _) _ _ _
 refine wpAny_bind (wpAny_specialOf hT zw ?_)
 generalize hid:("list_reverseiterator.__length_hint__" : String)=id0
 wp_delta
 rw [show splitId id0=some ("list_reverseiterator","__length_hint__") from by subst hid;decide +kernel]
 subst hid
 refine wpAny_bind (wpAny_isInstance (T := "list_reverseiterator") (b:=true) hT (by rw [isSubtype_type];kernel_rfl) ?_)
 refine wpAny_ite_split (fun hab=>absurd hab (by decide)) (fun _=>?_)
 refine wpAny_ite_split (fun _=>?_) (fun hab=>absurd (by decide +kernel) hab)
 refine wpAny_ite_split (fun hab=>absurd hab (by decide +kernel)) (fun _=>?_)
 exact wpAny_pure h
noncomputable abbrev QK (items:Array Value):Nat→Value→Prop:=fun i v=>items[items.size - 1 - i]? = some v
theorem Zz {R:Result→Shared→Prop} (hh:A.handled=none) (hit:s.heap.IsRevIter it l ((items.size:Int) - 1 - ((0:Nat):Int))) (hl:s.heap.IsList l items) (hne:l ≠ it) (S:Addr) (hSi:S ≠ it) (hSl:S ≠ l) (res:Value) (c₀:Nat)
  (hS:s.heap.get? S=some { cls:=.type "list",data:=.seq #[] c₀ }) (hn:items.size ≤ sizeLine)
  (hR:∀ h' tk acc c,(∀ b o,b ≠ S→b ≠ it→s.heap.get? b=some o→h'.get? b=some o)→h'.get? S=some { cls:=.type "list",dict:=none,data:=.seq acc c,slots:=#[] }→ItemsOf (QK items) acc items.size→R (.ok (.ret res)) { s with heap:=h',toks:=tk }) :
  wpAny (model prog w) A.in1 (Builtin.List.listExtendWith (.ref S) (.ref it) res)
   (fun fin s'=>match fin with | .done f=>R (.ok f) s' | .again c'=>c'.quiet=true∧codeAny (model prog w) A c' R s') (fun e s'=>R (.error e) s') s:=by
 unfold Builtin.List.listExtendWith
 refine wpAny_bind (wpAny_typeOf hit.typeIs ?_)
 have h1:Builtin.List.listSameRef (.ref S) (.ref it)=false:=by simp [Builtin.List.listSameRef,hSi]
 have h2:(Value.type "list_reverseiterator" == Value.type "list")=false:=by decide
 have h3:(Value.type "list_reverseiterator" == Value.type "tuple")=false:=by decide
 simp only [h1,h2,h3,Bool.or_false,Bool.false_eq_true,if_false]
 refine wpAny_bind (wpAny_pyIter_revIter hit ?_)
 refine wpAny_bind (wpAny_holding (OF hit.typeIs ?_))
 refine wpAny_ite_split (fun hab=>absurd hab (by decide +kernel)) (fun _=>?_)
 have W:=Walks.listRev (prog:=prog) (w:=w) (A:=A.in1) hh it l hne items
 have hSf:S ∉ [it,l]:=by simp only [List.mem_cons,List.not_mem_nil,or_false,not_or];exact ⟨hSi,hSl⟩
 refine wpAny_pure ⟨plainId_quiet PySem.F.plain_extend_loop _,codeAny_extend_loopS W.toS hn S hSf res items.size 0 s #[] c₀ rfl (Nat.zero_le _) ⟨Nat.zero_le _,hit,hl⟩ hS (ItemsOf.nil _) fun s' acc c hm hS' hacc=>?_⟩
 rw [Moved.eq_with hm]
 refine hR s'.heap s'.toks acc c (fun b o hb hi e=>hm.heap b o (fun hmem=>?_) e) hS' hacc
 rcases List.mem_cons.mp hmem with e' | hmem
 ·exact hb e'
 ·exact hi (List.mem_singleton.mp hmem)
theorem fu {Q:Value→Shared→Prop} (hh:A.handled=none) (hit:s.heap.IsRevIter it l ((items.size:Int) - 1 - ((0:Nat):Int))) (hl:s.heap.IsList l items) (hne:l ≠ it) (hn:items.size ≤ sizeLine)
  (hQ:∀ h' tk acc c,(∀ b o,b ≠ it→s.heap.get? b=some o→h'.get? b=some o)→h'.get? s.heap.objs.size=some { cls:=.type "list",dict:=none,data:=.seq acc c,slots:=#[] }→ItemsOf (QK items) acc items.size→Q (.ref s.heap.objs.size) { s with heap:=h',toks:=tk }) :
  wpAny (model prog w) A (call (.type "list") [.ref it]) Q E s:=by
 have li:it < s.heap.objs.size:=by obtain ⟨_,e,_⟩:=hit;exact Heap.lt_size e
 have ll:l < s.heap.objs.size:=by obtain ⟨_,e,_⟩:=hl;exact Heap.lt_size e
 refine callType_codes (Q₁:=fun obj s₁=>obj=.ref s.heap.objs.size∧s₁ = { s with heap:=s.heap.push { cls:=.type "list",data:=.seq #[] } }) PySem.F.called_list (PySem.F.typeCall_list_1 _) PySem.F.entry_list_init
  (code_list_new _ ⟨rfl,rfl⟩) fun obj s₁ h₁=>?_
 obtain ⟨rfl,rfl⟩:=h₁
 have hS:(s.heap.push { cls:=.type "list",data:=.seq #[] }).get? s.heap.objs.size=some { cls:=.type "list",data:=.seq #[] }:=Heap.get?_push_size _ rfl
 refine ⟨⟨_,hS,rfl⟩,PySem.F.args_list_init_2 _ _,?_⟩
 show wpAny _ _ (do let old ← Builtin.List.listItems (.ref s.heap.objs.size);Builtin.List.listUpdate (.ref s.heap.objs.size) (fun _=>#[]);letGo old.toList.reverse;Builtin.List.listExtendWith (.ref s.heap.objs.size) (.ref it) .none) _ _ _
 refine wpAny_bind ?_
 unfold Builtin.List.listItems
 refine wpAny_bind (wpAny_seqItems hS rfl (wpAny_pure ?_))
 show wpAny _ _ (updateSeq s.heap.objs.size (fun _=>#[]) >>= fun _=>letGo (#[]:Array Value).toList.reverse >>= fun _=>Builtin.List.listExtendWith (.ref s.heap.objs.size) (.ref it) .none) _ _ _
 refine wpAny_bind (wpAny_updateSeq hS rfl ?_)
 have hS₂:=Heap.get?_update_self (Obj.mapSeq (fun _=>(#[]:Array Value))) hS rfl
 have oth:∀ b o,s.heap.get? b=some o→((s.heap.push { cls:=.type "list",data:=.seq #[] }).update s.heap.objs.size (Obj.mapSeq (fun _=>(#[]:Array Value)))).get? b=some o:=
  fun b o e=>(Heap.get?_update_other _ _ (Ne.symm (Nat.ne_of_lt (Heap.lt_size e)))).trans (Heap.get?_push_of_some _ e)
 refine wpAny_bind (wpAny_letGo ?_)
 refine Zz (A:=A.in1) hh (hit.at fun o e=>oth _ o e) (hl.at fun o e=>oth _ o e) hne _ (Ne.symm (Nat.ne_of_lt li)) (Ne.symm (Nat.ne_of_lt ll)) .none _ hS₂ hn fun h' tk acc c hk hS' hacc=>?_
 exact ⟨rfl,hQ h' tk acc c (fun b o hb e=>hk b o (Nat.ne_of_lt (Heap.lt_size e)) hb (oth b o e)) hS' hacc⟩
end
section
variable {X:Cx}
noncomputable def Vy (K:PySem.W.Frag) (ta:TA):TE:=fun σ H Q=>ta σ H fun vs H1=>∃ a xs,vs=[.ref a]∧SqL K H1 a xs∧∀ l,H1 l=none→Q (.ref l) (upd H1 l (.lst xs.reverse))
theorem uA {a:Expr} {ta:TA} {p q pos pos':Pos} (hc:X.calm=true) (hg:Gl X "list") (hm:X.mg "list"=none) (hg':Gl X "reversed") (hm':X.mg "reversed"=none) (ha:PA X [a] ta) (hs:starEach [a] X.env=[(false,eval a X.env)]:=by rfl)
  (hs2:starEach [Expr.Call (.Name "reversed" q) [a] [] pos'] X.env=(false,eval (Expr.Call (.Name "reversed" q) [a] [] pos') X.env) :: starEach [] X.env:=by rfl) :
  PE X (.Call (.Name "list" p) [.Call (.Name "reversed" q) [a] [] pos'] [] pos) (Vy X.K ta):=by
 intro pins s σ H Q I h
 refine wpAny_Call_Name_kw (wp I hg hm Ix ?_)
 refine PyProof.Rows.callWith_type1 ?_ hs2 rfl
 rw [hs2]
 show wpAny _ _ (spliced ((false,eval (Expr.Call (.Name "reversed" q) [a] [] pos') X.env) :: [])) _ _ s
 refine Calls.spliced_cons ?_
 refine Call_ (wp I hg' hm' Ku (PyProof.Rows.callWith_type1 (thn (ha pos' pins s σ H _ I h) fun us s1 hZ1=>?_) hs rfl))
 obtain ⟨vs,H1,I1,r1,q1⟩:=hZ1
 obtain ⟨a,xs,e,hq,q⟩:=q1
 subst e
 cases r1 with
 | cons r rr=>
  cases rr
  cases r
  obtain ⟨its,rv,pl,hz⟩:=I1.list hq
  have hl:=rv.length
  have hlt:a < s1.heap.objs.size:=by obtain ⟨_,e,_⟩:=pl.isList;exact Heap.lt_size e
  refine call_reversed_list pl.isList ?_
  refine Calls.spliced_nil ?_
  have hit:(s1.heap.push (revObj a ((its.toArray.size:Int) - 1))).IsRevIter s1.heap.objs.size a ((its.toArray.size:Int) - 1 - ((0:Nat):Int)):=by
   refine ⟨_,Heap.get?_push_size _ rfl,rfl,?_⟩
   simp only [revObj]
   simp
  have kp:∀ b o,s1.heap.get? b=some o→(s1.heap.push (revObj a ((its.toArray.size:Int) - 1))).get? b=some o:=fun b o e=>Heap.get?_push_of_some _ e
  refine fu (I1.ok.hd hc) hit (pl.isList.at fun o e=>kp _ o e) (Nat.ne_of_lt hlt) (by rw [List.size_toArray];omega) fun h' tk acc c hk e' hacc=>?_
  refine ⟨.ref _,_,I1.laid (o:=.lst xs.reverse) (t':=tk) (fun b u e=>hk b u (Nat.ne_of_lt (Heap.lt_size e)) (kp b u e)) (by rw [Heap.size_push];exact Nat.le_succ _) ⟨by rw [List.length_reverse];omega,acc.toList,c,?_,e'⟩,rfl,q _ (I1.hok.fresh (by rw [Heap.size_push];exact Nat.le_succ _))⟩
  have hv:=Oz (f:=fun i=>xs.getD (xs.length - 1 - i) .non) (fun i v hv=>by
   have hv':its.toArray[its.toArray.size - 1 - i]? = some v:=hv
   rw [List.size_toArray,← hl,List.getElem?_toArray] at hv'
   have hj:=(List.getElem?_eq_some_iff.mp hv').1
   have hx:xs[xs.length - 1 - i]? = some xs[xs.length - 1 - i]:=List.getElem?_eq_getElem (by omega)
   obtain ⟨w,hw,rw'⟩:=rv.get hx
   rw [hv'] at hw
   cases hw
   rw [List.getD_eq_getElem?_getD,hx]
   exact rw') hacc
  have er:(List.range its.toArray.size).map (fun i=>xs.getD (xs.length - 1 - i) .non)=xs.reverse:=by
   rw [List.size_toArray,← hl]
   refine List.ext_getElem (by simp) fun i h1 h2=>?_
   rw [List.getElem_map,List.getElem_range,List.getElem_reverse,List.getD_eq_getElem?_getD,List.getElem?_eq_getElem (by simp at h2;omega)];rfl
  rw [er] at hv
  exact hv
end
section
variable {prog:Program} {w:World} {A:Around} {R:Result→Shared→Prop} {I:Addr} {fp wr:List Addr} {n:Nat} {P:Nat→Value→Prop} {St:Nat→Heap→Prop}
end
section
variable {prog:Program} {w:World} {A:Around} {E:Value→Shared→Prop} {s:Shared}
end
section
variable {X:Cx}
end
end L2
namespace L2
open PySem PySem.Spec PyProof.Rows
structure XN (K:PySem.W.Frag) (C:Addr):Prop where
 x:Zu K C
 ha:PySem.W.findIn K (.ref C) "__class__"=some (some (.builtin "object.__class__"))
 hn:PySem.W.specialIn K (.builtin "object.__class__") "__get__"=some (some (.builtin "getset_descriptor.__get__"))
 htk:PySem.W.takesIn K (.builtin "object.__class__")=some true
 hm:PySem.W.mroIn K C (.type "object")=some true
section
variable {prog:Program} {w:World} {A:Around} {E:Value→Shared→Prop} {s:Shared} {K:PySem.W.Frag} {x C:Addr} {od:Obj} {dx:Addr} {vs:Array Value} {sl:Array (Option Value)}
end
section
variable {X:Cx}
end
theorem Jb.quiet {P:Program} {w:World} {K:PySem.W.Frag} {mg:Str→Option Value} {base:Heap} {k:Nat} {f:Addr} {fd:FuncData} {ps:List Str} {sp sp':Sp} (F:Jb P w K mg base (CX1 P w) k f fd ps sp)
  (h:∀ vs H Q E,sp' vs H Q E→sp vs H Q (fun _ _ _=>False)):Jb P w K mg base CX0 k f fd ps sp':=by
 refine ⟨fun vs H Q E q=>F.len vs H _ _ (h vs H Q E q),fun A outer s H args us vs Q E hr he hb hv hs=>?_⟩
 refine codeAny_mono (F.run A outer s H args us vs Q _ hr he hb hv (h vs H Q E hs)) fun r s' hq=>?_
 cases r with
 | error e=>
  obtain ⟨x,C,od,H',T,_,_,_,_,_,_,_,_,_,z⟩:=hq
  exact z.elim
 | ok fl=>cases fl <;> exact hq
end L2
namespace L2
open PySem PySem.Spec PyProof.Rows
structure Dn (k:Nat) (A:Around):Prop where
 dp:A.depth + 3 * k + 5 < recursionLimit
 un:A.units + 16 * k + 200 < cLine
theorem Aj.h {k:Nat} {A:Around} (r:Aj k A):Dn k A:=⟨r.dp,r.un⟩
theorem Dn.mono {j k:Nat} {A:Around} (r:Dn k A) (h:j ≤ k):Dn j A:=⟨by have:=r.dp;omega,by have:=r.un;omega⟩
theorem Dn.deeper {k:Nat} {A:Around} (r:Dn (k + 1) A) (env:Env):Dn k (A.deeper env):=
 ⟨by have:=r.dp;show A.depth + 1 + 3 * k + 5 < _;omega,by have:=r.un;show A.units + 3 + 16 * k + 200 < _;omega⟩
theorem Dn.depth {k:Nat} {A:Around} (r:Dn k A):A.depth < recursionLimit:=by have:=r.dp;omega
theorem Dn.units {k:Nat} {A:Around} (r:Dn k A):A.units + 64 < cLine:=by have:=r.un;omega
theorem Aj.hn {k:Nat} {X:Cx} {e:Value} (r:Aj k X.A):Dn k (X.hn e).A:=⟨r.dp,r.un⟩
structure JI (P:Program) (w:World) (K:PySem.W.Frag) (mg:Str→Option Value) (base:Heap) (CX:CXT) (k:Nat) (f:Addr) (fd:FuncData) (ps:List Str) (sp:Sp):Prop where
 len:∀ vs H Q E,sp vs H Q E→vs.length=ps.length
 run:∀ (A:Around) (outer:List Env) (s:Shared) (H:Hp) (args:Args) (us:List Value) (vs:List V) (Q:VK) (E:XK),Dn k A→uC P w K mg base A outer s H→BindsTo s fd args (ps.zip us)→Qd vs us→sp vs H Q E →
  codeAny (model P w) A (.call (.ref f) args) (CR CX outer P w H s Q E) s
theorem JI.mono {P:Program} {w:World} {K:PySem.W.Frag} {mg:Str→Option Value} {base:Heap} {CX:CXT} {j k:Nat} {f:Addr} {fd:FuncData} {ps:List Str} {sp:Sp} (F:JI P w K mg base CX j f fd ps sp) (h:j ≤ k) :
  JI P w K mg base CX k f fd ps sp:=⟨F.len,fun A outer s H args us vs Q E hr=>F.run A outer s H args us vs Q E (hr.mono h)⟩
section
variable {X:Cx} {CX:CXT} {k:Nat} {f C:Addr} {fd:FuncData} {ps:List Str} {sp:Sp} {dvs:List V} {ds:List Value} {E:XK} {x m:Str} {p pos apos:Pos} {e o:Expr} {es:List Expr} {ta:TE} {t:TA}
end
noncomputable def IM (CX:CXT) (P:Program) (w:World) (K:PySem.W.Frag) (mg:Str→Option Value) (base:Heap) (N:List Str) (qual:Str) (scope:Scope) (f:Addr) (cd:Value) (A:Around) (outer:List Env) (s:Shared) (H:Hp) (E:XK):Cx where
 prog:=P
 w:=w
 K:=K
 mg:=mg
 base:=base
 A:=A.deeper (envOfC qual scope s.heap.objs.size f cd)
 N:=N
 s₀:=s
 H₀:=H
 env:=envOfC qual scope s.heap.objs.size f cd
 outer:=outer
 stack:=envOfC qual scope s.heap.objs.size f cd :: outer
 ex:=[]
 calm:=false
 fn:=fun _=>true
 pn:=[]
 xe:=fun e s'=>wpAny (model P w) (A.deeper (envOfC qual scope s.heap.objs.size f cd)) (leaving (envOfC qual scope s.heap.objs.size f cd) e) (fun _ s''=>CX outer H s E e s'') (fun e' s''=>CX outer H s E e' s'') s'
section
variable {P:Program} {w:World} {K:PySem.W.Frag} {mg:Str→Option Value} {base:Heap}
end
end L2
namespace L2
open PySem PySem.Spec PyProof.Rows
section
variable {X:Cx}
end
end L2
namespace L2
open PySem PySem.Spec PyProof.Rows
section
variable {α:Type} {M:List α→Prop}
theorem us1 (h:∀ a,M [a]):∀ us:List α,us.length=1→M us | [a],_=>h a
theorem us2 (h:∀ a b,M [a,b]):∀ us:List α,us.length=2→M us | [a,b],_=>h a b
theorem us3 (h:∀ a b c,M [a,b,c]):∀ us:List α,us.length=3→M us | [a,b,c],_=>h a b c
theorem us4 (h:∀ a b c d,M [a,b,c,d]):∀ us:List α,us.length=4→M us | [a,b,c,d],_=>h a b c d
theorem us5 (h:∀ a b c d e,M [a,b,c,d,e]):∀ us:List α,us.length=5→M us | [a,b,c,d,e],_=>h a b c d e
theorem us7 (h:∀ a b c d e f g,M [a,b,c,d,e,f,g]):∀ us:List α,us.length=7→M us | [a,b,c,d,e,f,g],_=>h a b c d e f g
theorem us8 (h:∀ a b c d e f g i,M [a,b,c,d,e,f,g,i]):∀ us:List α,us.length=8→M us | [a,b,c,d,e,f,g,i],_=>h a b c d e f g i
end
structure XB (K:PySem.W.Frag) (C:Addr):Prop where
 hd:PySem.W.hasDictIn K C=true
 ov:((PySem.W.clsIn K C).any fun cd=>kC cd.mro)=true
 sa:PySem.W.findIn K (.ref C) "__setattr__"=some (some (.builtin "object.__setattr__"))
 ga:PySem.W.findIn K (.ref C) "__getattribute__"=some (some (.builtin "BaseException.__getattribute__"))
 gt:PySem.W.findIn K (.ref C) "__getattr__"=some none
theorem ou {K:PySem.W.Frag} {C f:Addr} (b:XB K C) (m:MkX K C f):Zu K C:=⟨b.hd,b.ov,b.sa,b.ga,b.gt,_,m.e⟩
structure IB (K:PySem.W.Frag) (C:Addr):Prop where
 ha:PySem.W.findIn K (.ref C) "__class__"=some (some (.builtin "object.__class__"))
 hn:PySem.W.specialIn K (.builtin "object.__class__") "__get__"=some (some (.builtin "getset_descriptor.__get__"))
 htk:PySem.W.takesIn K (.builtin "object.__class__")=some true
 hm:PySem.W.mroIn K C (.type "object")=some true
theorem NK {K:PySem.W.Frag} {C f:Addr} (i:PySem.W.isFn K (.ref f)=true) (e:Hs K C f=true) (k:PySem.W.keepIn K (.ref C)=true):MkX K C f:=⟨e,beq_iff_eq.mp i,k⟩
end L2
namespace L2
open PySem PySem.Spec PyProof.Rows
theorem oA {ks:List Int}:∀ {its:List Value},Qd (ks.map V.int) its→∃ xs:List (Int × Tok),its=xs.map (fun p=>Value.int p.1 p.2)∧xs.map (·.1)=ks:=by
 induction ks with
 | nil=>intro its r;cases r;exact ⟨[],rfl,rfl⟩
 | cons k ks ih=>
  intro its r
  cases r with
  | cons h t=>
   obtain ⟨xs,e1,e2⟩:=ih t
   obtain ⟨tk,rfl⟩:=(show ∃ t,_=Value.int k t from h)
   exact ⟨(k,tk) :: xs,by rw [List.map_cons,← e1],by rw [List.map_cons,e2]⟩
section
variable {X:Cx}
theorem jq (hc:X.calm=true):am X (.builtin "max") (fun xs H Q=>∃ l ks m,xs=[.ref l]∧SqL X.K H l (List.map V.int ks)∧(m ∈ ks∧∀ k ∈ ks,k ≤ m)∧Q (.int m) H):=by
 intro pins s σ H xs us Q I r h
 obtain ⟨l,ks,m,rfl,hq,hm,q⟩:=h
 obtain ⟨u,rfl,ru⟩:=Gr r
 cases ru
 obtain ⟨its,rv,pl,hz⟩:=I.list hq
 obtain ⟨xs,e1,e2⟩:=oA rv
 have hil:its.toArray=intItems xs.toArray:=by rw [e1];unfold intItems;simp
 have hls:s.heap.IsList l (intItems xs.toArray):=by rw [← hil];exact pl.isList
 have hxl:xs.length=ks.length:=by rw [← e2,List.length_map]
 have hne:0 < xs.toArray.size:=by
  rw [List.size_toArray,hxl]
  exact List.length_pos_of_mem hm.1
 refine max_intList (I.ok.hd hc) hls hne fun v h' tk hv hk=>⟨.int m,H,I.kept hk,?_,q⟩
 obtain ⟨tv,rfl⟩:=intItems_at hv
 refine ⟨tv,?_⟩
 have hb:=argBest_gt (numAt xs.toArray) (xs.toArray.size - 1)
 generalize argBest (fun i j=>decide (numAt xs.toArray i > numAt xs.toArray j)) (xs.toArray.size - 1)=j at hb ⊢
 have hn:∀ i,i < ks.length→ks[i]? = some (numAt xs.toArray i):=fun i hi=>by
  rw [numAt_eq,List.getD_eq_getElem?_getD]
  show ks[i]? = some (((xs.map (·.1))[i]?).getD 0)
  rw [e2,List.getElem?_eq_getElem hi];rfl
 rw [List.size_toArray] at hb hne
 have h1:=hm.2 _ (List.mem_of_getElem? (hn j (by omega)))
 obtain ⟨i,hi⟩:=List.getElem?_of_mem hm.1
 have hil:i < ks.length:=(List.getElem?_eq_some_iff.mp hi).1
 have h2:=hb.2 i (by omega)
 have h3:m=numAt xs.toArray i:=Option.some.inj (hi.symm.trans (hn i hil))
 rw [show numAt xs.toArray j=m by omega]
end
end L2
namespace L2
open PySem PySem.Spec PyProof.Rows
noncomputable def CK (p d:Addr):Heap→Prop:=fun h=>PySem.W.KdlKeysView h p d
noncomputable def RM (p d:Addr):Heap→Prop:=fun h=>h.IsValuesView p d
theorem CK.ok {P:Program} {w:World} {H:Hp} {h:Heap} {p d:Addr} (z:CK p d h):zd P w H h p (.ext (CK p d)):=
 ⟨z,let ⟨o,ho,_⟩:=z;⟨o,ho⟩,fun _ _ z1 k=>let ⟨o,ho,x⟩:=z1;⟨o,k o ho,x⟩⟩
theorem RM.ok {P:Program} {w:World} {H:Hp} {h:Heap} {p d:Addr} (z:RM p d h):zd P w H h p (.ext (RM p d)):=
 ⟨z,let ⟨o,ho,_⟩:=z;⟨o,ho⟩,fun _ _ z1 k=>let ⟨o,ho,x⟩:=z1;⟨o,k o ho,x⟩⟩
section
variable {X:Cx}
noncomputable def Wr:V→List V→Hp→VK→Prop:=fun x vs H Q=>∃ d kvs,x=.ref d∧vs=[]∧H d=some (.dK kvs)∧∀ p,H p=none→Q (.ref p) (upd H p (.ext (CK p d)))
end
end L2
namespace L2
open PySem PySem.Spec PyProof.Rows
noncomputable abbrev TF:=St→Hp→Str→(Str→Hp→Prop)→Prop
section
variable {X:Cx} {e:Expr} {es:List Expr} {t:TF} {te:TE} {pos:Pos}
end
end L2
namespace L2
open PySem PySem.Spec PyProof.Rows
noncomputable def wM (p:Addr) (a b c:Int):Heap→Prop:=fun h=>∃ t u v,IsRange h p a b c t u v
theorem wM.ok {P:Program} {w:World} {H:Hp} {h:Heap} {p:Addr} {a b c:Int} (z:wM p a b c h):zd P w H h p (.ext (wM p a b c)):=
 ⟨z,let ⟨_,_,_,e⟩:=z;⟨_,e⟩,fun _ _ z1 k=>let ⟨t,u,v,e⟩:=z1;⟨t,u,v,k _ e⟩⟩
section
variable {X:Cx}
end
end L2
namespace L2
open PySem PySem.Spec PyProof.Rows
noncomputable def SN (c:Addr) (qual:Str):Heap→Prop:=fun h=>h.CodeRec (.ref c) qual
noncomputable def Tab (H:Hp) (Pt:Addr) (pos:Pos) (qual:Str):Prop:=
 ∃ ps,H Pt=some (.tbl ps)∧(ps=#[]∨∃ c',ps=#[rawInt pos.line,rawInt pos.col,.ref c']∧H c'=some (.ext (SN c' qual)))
noncomputable def qx (Pt:Addr) (H H':Hp):Prop:=∀ b o,b ≠ Pt→H b=some o→H' b=some o
theorem qx.refl (Pt:Addr) (H:Hp):qx Pt H H:=fun _ _ _ h=>h
theorem qx.trans {Pt:Addr} {H H1 H2:Hp} (a:qx Pt H H1) (b:qx Pt H1 H2):qx Pt H H2:=fun c o n h=>b c o n (a c o n h)
theorem Vb.p {Pt:Addr} {H H':Hp} (s:Vb H H'):qx Pt H H':=fun b o _ h=>s b o h
theorem Tab.ne {H:Hp} {Pt b:Addr} {pos:Pos} {qual:Str} {o:HO} (t:Tab H Pt pos qual) (h:H b=some o) (ho:∀ ps,o ≠ .tbl ps):b ≠ Pt:=fun e=>by
 obtain ⟨ps,e1,_⟩:=t
 subst e
 rw [e1] at h
 exact ho ps (Option.some.inj h).symm
theorem Tab.step {H H':Hp} {Pt:Addr} {pos:Pos} {qual:Str} (t:Tab H Pt pos qual) (s:Vb H H'):Tab H' Pt pos qual:=by
 obtain ⟨ps,e,d⟩:=t
 refine ⟨ps,s _ _ e,?_⟩
 rcases d with d | ⟨c',d,e'⟩
 ·exact .inl d
 ·exact .inr ⟨c',d,s _ _ e'⟩
structure WN (X:Cx) (c Pt:Addr):Prop where
 code:X.env.code=.ref c
 hd:PySem.W.CodeHd X.base c Pt
 bm:X.base.BuiltinsAt X.mg Pt
section
variable {X:Cx} {pins:List (Addr × Obj)} {σ:St} {H:Hp} {s:Shared} {params:Arguments} {body:Expr} {scope:Scope} {pos:Pos} {c Pt:Addr} {clos:List (Str × Addr)} {Q:Value→Shared→Prop}
end
section
variable {P:Program} {w:World} {K:PySem.W.Frag} {mg:Str→Option Value} {base:Heap}
end
structure VN (p y:Str) (sc:Scope):Prop where
 kind:sc.kind=.function
 co:sc.isCoroutine=false
 gen:sc.isGenerator=false
 ne:p ≠ y
 par:sc.names.lookup p=some .local
 yf:sc.names.lookup y=some .free
 nocell:∀ z ∈ sc.names,z.2 ≠ .cell
 one:∀ z ∈ sc.names,z.2=.free→z.1=y
section
variable {X:Cx} {pins:List (Addr × Obj)} {σ:St} {H:Hp} {s:Shared} {k:Nat} {f c' cl:Addr} {q p y:Str} {params:Arguments} {body:Expr} {scope:Scope} {v:V} {t:TE}
end
end L2
namespace L2
open PySem PySem.Spec PyProof.Rows
end L2
namespace L2
open PySem PySem.Spec PyProof.Rows
section
variable {P:Program} {w:World} {A:Around} {E:Value→Shared→Prop} {s:Shared}
structure kN (h:Heap) (d:Addr) (o:Obj) (es:Array DictEntry) (ep:Nat):Prop where
 at_:h.get? d=some o
 ex:o.ExactDict
 dat:o.data=.dict es ep
theorem QJ {d:Addr} {o:Obj} {es:Array DictEntry} {ep:Nat} (r:kN s.heap d o es ep):s.TypeIs (.ref d) "dict" := ⟨o,r.at_,r.ex.1⟩
end
noncomputable def AtO (a:Addr) (o:Obj):Heap→Prop:=fun h=>h.get? a=some o
structure rN (P:Program) (w:World) (H:Hp) (a:Addr) (kvs:List (List Key × V)) (o:Obj) (es:Array DictEntry) (ep:Nat) (xs:List (List Key × Addr × Value)):Prop where
 at_:H a=some (.ext (AtO a o))
 ex:o.ExactDict
 dat:o.data=.dict es ep
 ent:es.toList=xs.map (entryOfKey (tupleKind (Ce P w)))
 nd:(xs.map (·.1)).Nodup
 ks:Paired (fun (p:List Key × V) (q:List Key × Addr × Value)=>p.1=q.1∧H q.2.1=some (.tup (p.1.map kV))∧Ld p.2 q.2.2) kvs xs
 sz:kvs.length ≤ sizeLine
 ns:(a == sysModules)=false
noncomputable def Yo (P:Program) (w:World) (H:Hp) (a:Addr) (kvs:List (List Key × V)):Prop:=∃ o es ep xs,rN P w H a kvs o es ep xs
section
variable {P:Program} {w:World} {H H':Hp} {h:Heap} {a:Addr} {kvs:List (List Key × V)}
theorem Lq (d:Yo P w H a kvs) (s:Vb H H'):Yo P w H' a kvs:=by
 obtain ⟨o,es,ep,xs,r⟩:=d
 exact ⟨o,es,ep,xs,s _ _ r.at_,r.ex,r.dat,r.ent,r.nd,Paired.mapP r.ks fun p q z=>⟨z.1,s _ _ z.2.1,z.2.2⟩,r.sz,r.ns⟩
theorem dH {p:Addr} {u:HO} (d:Yo P w H a kvs) (hp:p ≠ a) (ht:∀ xs,H p ≠ some (.tup xs)):Yo P w (upd H p u) a kvs:=by
 obtain ⟨o,es,ep,xs,r⟩:=d
 exact ⟨o,es,ep,xs,by rw [lb (Ne.symm hp)];exact r.at_,r.ex,r.dat,r.ent,r.nd,Paired.mapP r.ks fun q q' z=>⟨z.1,by rw [lb (fun e=>ht _ (e ▸ z.2.1))];exact z.2.1,z.2.2⟩,r.sz,r.ns⟩
theorem qz {o:Obj} {es:Array DictEntry} {ep:Nat} {xs:List (List Key × Addr × Value)} (ok:HOk P w H h) (r:rN P w H a kvs o es ep xs):kN h a o es ep:=
 ⟨(ok a _ r.at_).1,r.ex,r.dat⟩
theorem DE (ok:HOk P w H h) (d:Yo P w H a kvs):Mut (H a)∧(∃ u,h.get? a=some u)∧zd P w (upd H a (.dT kvs)) h a (.dT kvs):=by
 obtain ⟨o,es,ep,xs,r⟩:=d
 have e:=(qz ok r).at_
 refine ⟨by rw [r.at_];exact True.intro,⟨o,e⟩,r.sz,r.ns,xs,Paired.mapP r.ks fun q q' z=>⟨z.1,?_,z.2.2⟩,o,es,ep,e,r.ex,r.dat,r.ent,r.nd⟩
 rw [lb (fun e=>by have:=z.2.1;rw [e,r.at_] at this;cases this)]
 exact z.2.1
theorem zB (ok:HOk P w H h) (d:Yo P w H a kvs):HOk P w (upd H a (.dT kvs)) h:=
 have z:=DE ok d
 ok.write z.1 (.inl rfl) (fun _ _ _ q=>q) z.2.1 z.2.2
theorem qJ {b:Addr} {xs:List V} (d:Yo P w H a kvs) (e:H b=some (.tup xs)):b ≠ a:=fun z=>by
 obtain ⟨o,es,ep,ys,r⟩:=d
 have:=r.at_
 rw [← z,e] at this
 cases this
end
section
variable {X:Cx} {pins:List (Addr × Obj)} {σ:St} {H:Hp} {s:Shared} {a b:Addr} {kvs:List (List Key × V)} {k:List Key} {v:V} {r:Value} {A:Around} {E:Value→Shared→Prop}
theorem Py {o':HO} (I:Inv X pins σ H s) (mu:Mut (H a)) (ex:∃ u,s.heap.get? a=some u) (new:zd X.prog X.w (upd H a o') s.heap a o'):Inv X pins σ (upd H a o') s:=
 I.un (t':=s.toks) (h':=s.heap) (Un.write mu (.inl rfl) (fun _ _ _ q=>q) ex) (I.hok.write mu (.inl rfl) (fun _ _ _ q=>q) ex new)
theorem nF (I:Inv X pins σ H s) (d:Yo X.prog X.w H a kvs):Inv X pins σ (upd H a (.dT kvs)) s:=
 have z:=DE I.hok d
 Py I z.1 z.2.1 z.2.2
theorem Ez (I:Inv X pins σ H s) (e:H a=some (.dT kvs)):∃ o,Inv X pins σ (upd H a (.ext (AtO a o))) s∧Yo X.prog X.w (upd H a (.ext (AtO a o))) a kvs:=by
 obtain ⟨z,y,xs,r,o,es,ep,h1,h2,h3,h4,h5⟩:=(show zd X.prog X.w H s.heap a (.dT kvs) from I.hok a _ e)
 refine ⟨o,Py I (by rw [e];exact True.intro) ⟨o,h1⟩ ⟨h1,⟨o,h1⟩,fun _ _ q k=>k o q⟩,o,es,ep,xs,db ..,h2,h3,h4,h5,Paired.mapP r fun p q z=>⟨z.1,?_,z.2.2⟩,z,y⟩
 rw [lb (fun q=>by have:=z.2.1;rw [q,e] at this;cases this)]
 exact z.2.1
theorem DL {Q:Value→Shared→Prop} (hu:A.units + 1 < cLine) (I:Inv X pins σ H s) (d:Yo X.prog X.w H a kvs) (eb:H b=some (.tup (k.map kV))) (l:wg kvs k=some v) (h:∀ w' s',Inv X pins σ H s'→Ld v w'→Q w' s') :
  wpAny (model X.prog X.w) A (getItem (.ref a) (.ref b)) Q E s:=by
 obtain ⟨z,hd,xs,rel,dd⟩:=mL (zB I.hok d) (db ..)
 obtain ⟨w',hw,rw'⟩:=Wq.some_of (v:=v) (o:=(atKey xs k).map (·.2)) (by rw [← l];exact rel.val k)
 obtain ⟨p,hp,hp2⟩:=Option.map_eq_some_iff.mp hw
 refine wpAny_getItem_heap (tupleKind_room_in1 hu) (mv I.hok eb) dd hp ?_
 rw [hp2]
 exact h w' _ (I.tok _) rw'
theorem KK {Q:Unit→Shared→Prop} (hu:A.units + 1 < cLine) (I:Inv X pins σ H s) (d:Yo X.prog X.w H a kvs) (eb:H b=some (.tup (k.map kV))) (hl:kvs.length < sizeLine) (rv:Ld v r)
  (h:∀ o s',Inv X pins σ (upd H a (.ext (AtO a o))) s'→Yo X.prog X.w (upd H a (.ext (AtO a o))) a (Rk kvs k v)→Q () s'):wpAny (model X.prog X.w) A (setItem (.ref a) (.ref b) r) Q E s:=by
 refine jv hu (nF I d) (EE.t (db ..) (by rw [lb (qJ d eb)];exact eb) hl) (show Ld (.ref b) (.ref b) from rfl) rv fun s' I'=>?_
 rw [Wg] at I'
 obtain ⟨o,I2,d2⟩:=Ez I' (db ..)
 rw [Wg] at I2 d2
 exact h o s' I2 d2
end
noncomputable def xK (P:Program) (w:World) (td ty:TE):TE:=fun σ H Q=>td σ H fun x H1=>ty σ H1 fun y H2=>∃ a b kvs k v,x=.ref a∧y=.ref b∧Yo P w H2 a kvs∧H2 b=some (.tup (k.map kV))∧wg kvs k=some v∧Q v H2
noncomputable def TL (P:Program) (w:World) (td ty tv:TE):TS:=fun D σ H=>tv σ H fun v H1=>td σ H1 fun x H2=>ty σ H2 fun y H3=>∃ a b kvs k,x=.ref a∧y=.ref b∧Yo P w H3 a kvs∧H3 b=some (.tup (k.map kV))∧kvs.length < sizeLine∧∀ o,Yo P w (upd H3 a (.ext (AtO a o))) a (Rk kvs k v)→D.nx σ (upd H3 a (.ext (AtO a o)))
noncomputable def LK (P:Program) (w:World):TE:=fun _ H Q=>∀ p o,H p=none→Yo P w (upd H p (.ext (AtO p o))) p []→Q (.ref p) (upd H p (.ext (AtO p o)))
section
variable {X:Cx} {o i e value:Expr} {pos pos' tpos:Pos} {td ty tv:TE}
theorem RJ (hu:X.A.units + 1 < cLine) (ho:PE X o td) (hi:PE X i ty) (hs:zM i):PE X (.Subscript o i pos) (xK X.prog X.w td ty):=by
 intro pins s σ H Q I h
 refine tD PySem.F.slot_dict_getitem.lookup hs (thn (ho pins s σ H _ I h) fun u s1 ⟨x,H1,I1,rx,q1⟩=>thn (hi pins s1 σ H1 _ I1 q1) fun iv s2 hZ1=>?_)
 obtain ⟨y,H2,I2,ry,a,b,kvs,k,v,ex,ey,d,eb,l,q2⟩:=hZ1
 subst ex ey
 obtain rfl:u=Value.ref a:=rx
 obtain rfl:iv=Value.ref b:=ry
 refine ⟨?_,DL hu I2 d eb l fun w' s3 I3 rw'=>⟨v,H2,I3,rw',q2⟩⟩
 obtain ⟨ob,es,ep,xs,r⟩:=d
 exact QJ (qz I2.hok r)
theorem LJ (hu:X.A.units + 1 < cLine) (ho:PE X o td) (hi:PE X i ty) (hv:PE X value tv) (hs:swapsWith value (some (.Subscript o i pos')) pos.line X.env=pure false) :
  PS X (.Assign [.Subscript o i pos'] value pos) (TL X.prog X.w td ty tv):=by
 intro pins s σ H D I h
 refine wpAny_Assign_Subscript (thn (hv pins s σ H _ I h) fun r s1 ⟨v,H1,I1,rv,q1⟩=>thn (ho pins s1 σ H1 _ I1 q1) fun u s2 ⟨x,H2,I2,rx,q2⟩=>thn (hi pins s2 σ H2 _ I2 q2) fun iv s3 hZ1=>?_) hs
 obtain ⟨y,H3,I3,ry,a,b,kvs,k,ex,ey,d,eb,hl,q3⟩:=hZ1
 subst ex ey
 obtain rfl:u=Value.ref a:=rx
 obtain rfl:iv=Value.ref b:=ry
 exact KK hu I3 d eb hl rv fun ob s4 I4 d4=>⟨σ,_,I4,q3 ob d4⟩
theorem aK:PE X (.Dict [] [] pos) (LK X.prog X.w):=fun pins s σ H Q I h=>by
 refine thn (EF pins s σ H (fun x H1=>∃ p,x=.ref p∧H p=none∧H1=upd H p (.dT [])) I fun p hp=>⟨p,rfl,hp,rfl⟩) fun v s1 hZ1=>?_
 obtain ⟨x,H1,I1,r1,p,ex,hp,eH⟩:=hZ1
 subst ex eH
 obtain ⟨o,I2,d2⟩:=Ez I1 (db ..)
 rw [Wg] at I2 d2
 exact ⟨.ref p,_,I2,r1,h p o hp d2⟩
end
section
variable {X:Cx} {tg:Expr}
end
end L2
namespace L2
open PySem PySem.Spec PyProof.Rows
theorem FJ (i:Nat) (σ:St) (H:Hp) (Q:VK):NM i σ H Q=(∃ v,σ[i]? = some (some v)∧Q v H):=rfl
theorem JM (v:V) (x_0:St) (H:Hp) (Q:VK):tC v x_0 H Q=(Q v H):=rfl
theorem yM (t:TE) (σ:St) (H:Hp) (Q:(Bool→Hp→Prop)):tB t σ H Q=(t σ H fun x H1=>∃ c,x=.bl c∧Q c H1):=rfl
theorem yI (t u:TT) (σ:St) (H:Hp) (Q:(Bool→Hp→Prop)):zN t u σ H Q=(t σ H fun c H1=>if c=true then u σ H1 Q else Q false H1):=rfl
theorem yL (t u:TT) (σ:St) (H:Hp) (Q:(Bool→Hp→Prop)):tOr t u σ H Q=(t σ H fun c H1=>if c=true then Q true H1 else u σ H1 Q):=rfl
theorem XI (t:TT) (σ:St) (H:Hp) (Q:(Bool→Hp→Prop)):sN t σ H Q=(t σ H fun c H1=>Q (!c) H1):=rfl
theorem qF (ta tb:TE) (σ:St) (H:Hp) (Q:VK):KL ta tb σ H Q=(ta σ H fun x H1=>∃ c,x=.bl c∧if c=true then tb σ H1 Q else Q (.bl false) H1):=rfl
theorem VI (ta tb:TE) (σ:St) (H:Hp) (Q:VK):fN ta tb σ H Q=(ta σ H fun x H1=>∃ c,x=.bl c∧if c=true then Q (.bl true) H1 else tb σ H1 Q):=rfl
theorem ZF (ta:TE) (σ:St) (H:Hp) (Q:VK):NL ta σ H Q=(ta σ H fun x H1=>∃ c,x=.bl c∧Q (.bl (!c)) H1):=rfl
theorem FK (t:TT) (ta tb:TE) (σ:St) (H:Hp) (Q:VK):tIf t ta tb σ H Q=(t σ H fun c H1=>if c=true then ta σ H1 Q else tb σ H1 Q):=rfl
theorem Zd (D:Mi) (σ:St) (H:Hp):gL  D σ H=(D.nx σ H):=rfl
theorem Bb (t u:TS) (D:Mi) (σ:St) (H:Hp):jN t u D σ H=(t { D with nx:=u D } σ H):=rfl
theorem eG (te:TE) (D:Mi) (σ:St) (H:Hp):JL te D σ H=(te σ H fun _ H1=>D.nx σ H1):=rfl
theorem LI (te:TE) (D:Mi) (σ:St) (H:Hp):xM te D σ H=(te σ H D.rt):=rfl
theorem aE (x_0:Mi) (x_1:St) (x_2:Hp):uH  x_0 x_1 x_2=(False):=rfl
theorem qe (i:Nat) (v:V) (σ:St) (H:Hp) (Q:(St→Hp→Prop)):Ww i v σ H Q=(Q (σ.set i (some v)) H):=rfl
theorem ZI (vs:List V) (σ:St) (H:Hp) (Q:(St→Hp→Prop)):rM  vs σ H Q=(vs=[]∧Q σ H):=rfl
theorem QF (t:TG) (u:TGs) (vs:List V) (σ:St) (H:Hp) (Q:(St→Hp→Prop)):jA t u vs σ H Q=(∃ v r,vs=v :: r∧t v σ H fun σ' H'=>u r σ' H' Q):=rfl
theorem AI (K:PySem.W.Frag) (n:Nat) (t:TGs) (v:V) (σ:St) (H:Hp) (Q:(St→Hp→Prop)):TK K n t v σ H Q=(∃ a xs,v=.ref a∧SqT K H a xs∧xs.length=n∧t xs σ H Q):=rfl
theorem EI (te:TE) (g:TG) (D:Mi) (σ:St) (H:Hp):sM te g D σ H=(te σ H fun x H1=>g x σ H1 D.nx):=rfl
theorem mG (K:PySem.W.Frag) (tl:TE) (σ:St) (H:Hp) (R:(It→Hp→Prop)):WK K tl σ H R=(tl σ H fun x H1=>∃ a,x=.ref a∧(∃ xs,SqL K H1 a xs)∧R (Itl K a) H1):=rfl
theorem mJ (K:PySem.W.Frag) (tl:TE) (σ:St) (H:Hp) (R:(It→Hp→Prop)):JN K tl σ H R=(tl σ H fun x H1=>∃ a,x=.ref a∧(∃ xs,SqT K H1 a xs)∧R (Itt K a) H1):=rfl
theorem pL (r:R2) (ta tb:TE) (σ:St) (H:Hp) (Q:VK):tOp r ta tb σ H Q=(ta σ H fun x H1=>tb σ H1 fun y H2=>r x y H2 Q):=rfl
theorem GM (C:Int→Int→Prop) (g:Int→Int→V) (x:V) (y:V) (H:Hp) (Q:VK):rI C g x y H Q=(∃ i j,x=.int i∧y=.int j∧C i j∧Q (g i j) H):=rfl
theorem qK (g:Int→Int→V) (x:V) (y:V) (H:Hp) (Q:VK):rI0 g x y H Q=(∃ i j,x=.int i∧y=.int j∧Q (g i j) H):=rfl
theorem ZL (x:V) (y:V) (H:Hp) (Q:VK):rEq  x y H Q=(nL x y=true∧Q (.bl (decide (x=y))) H):=rfl
theorem CL (x:V) (y:V) (H:Hp) (Q:VK):rNe  x y H Q=(nL x y=true∧Q (.bl (!decide (x=y))) H):=rfl
theorem wG (t:TE) (σ:St) (H:Hp) (Q:(Bool→Hp→Prop)):OL t σ H Q=(t σ H fun x H'=>∃ k,x=.bl k∧Q k H'):=rfl
theorem mI (K:PySem.W.Frag) (ta tv:TE) (f:Str) (D:Mi) (σ:St) (H:Hp):DN K ta tv f D σ H=(tv σ H fun y H1=>ta σ H1 fun x H2=>∃ a C dx fs,x=.ref a∧H2 a=some (.ins C dx fs)∧Cls K C∧Ib K C f∧fs.length < 1000 ∧
 D.nx σ (upd H2 a (.ins C dx (yg f y fs)))):=rfl
theorem QA (K:PySem.W.Frag) (ta tv:TE) (rd:V→V→Hp→VK→Prop) (f:Str) (D:Mi) (σ:St) (H:Hp):vB K ta tv rd f D σ H=(ta σ H fun x H1=>∃ a C dx fs v,x=.ref a∧H1 a=some (.ins C dx fs)∧Cls K C∧Ib K C f∧fs.lookup f=some v ∧
 tv σ H1 fun y H2=>rd v y H2 fun z H3=>∃ dx' fs',H3 a=some (.ins C dx' fs')∧fs'.length < 1000∧D.nx σ (upd H3 a (.ins C dx' (yg f z fs')))):=rfl
theorem ZJ (x:V) (y:V) (H:Hp) (Q:VK):GN  x y H Q=(∃ i j,x=.int i∧y=.int j∧Q (.int (i + j)) H):=rfl
theorem sJ (x_0:St) (H:Hp) (Q:(List V→Hp→Prop)):tM  x_0 H Q=(Q [] H):=rfl
theorem YG (ta:TE) (tr:TA) (σ:St) (H:Hp) (Q:(List V→Hp→Prop)):AK ta tr σ H Q=(ta σ H fun x H1=>tr σ H1 fun xs H2=>Q (x :: xs) H2):=rfl
theorem tJ (t:TA) (σ:St) (H:Hp) (Q:VK):qN t σ H Q=(t σ H fun xs H1=>xs.length ≤ sizeLine∧∀ p,H1 p=none→Q (.ref p) (upd H1 p (.tup xs))):=rfl
theorem FI (t:TA) (σ:St) (H:Hp) (Q:VK):MN t σ H Q=(t σ H fun xs H1=>xs.length ≤ sizeLine∧∀ p,H1 p=none→Q (.ref p) (upd H1 p (.lst xs))):=rfl
theorem FF (sp:Sp) (dvs:List V) (E:XK) (t:TA) (σ:St) (H:Hp) (Q:VK):OJ sp dvs E t σ H Q=(t σ H fun vs H1=>sp (vs ++ dvs) H1 Q E):=rfl
theorem iH (C:Addr) (m:Str) (sp:Sp) (dvs:List V) (E:XK) (ta:TE) (t:TA) (σ:St) (H:Hp) (Q:VK):II C m sp dvs E ta t σ H Q=(ta σ H fun x H1=>∃ a dx fs,x=.ref a∧H1 a=some (.ins C dx fs)∧fs.lookup m=none ∧
 t σ H1 fun vs H2=>sp (x :: (vs ++ dvs)) H2 Q E):=rfl
theorem RG (C:Addr) (sp:Sp) (dvs:List V) (E:XK) (t:TA) (σ:St) (H:Hp) (Q:VK):PK C sp dvs E t σ H Q=(t σ H fun vs H1=>∀ x dx,H1 x=none→H1 dx=none→dx ≠ x →
 sp (.ref x :: (vs ++ dvs)) (upd (upd H1 dx (.own x)) x (.ins C dx [])) (fun v H2=>v=.non∧Q (.ref x) H2) E):=rfl
theorem aM (r:List V→Hp→VK→Prop) (t:TA) (σ:St) (H:Hp) (Q:VK):tCB r t σ H Q=(t σ H fun vs H1=>r vs H1 Q):=rfl
theorem JA (x_0:St) (H:Hp) (Q:(Option Int→Hp→Prop)):AB  x_0 H Q=(Q none H):=rfl
theorem WG (t:TE) (σ:St) (H:Hp) (Q:(Option Int→Hp→Prop)):mM t σ H Q=(t σ H fun x H1=>∃ i,x=.int i∧Q (some i) H1):=rfl
theorem tK (r:V→Option Int→Option Int→Hp→VK→Prop) (te:TE) (tl th:TO) (σ:St) (H:Hp) (Q:VK):tSl r te tl th σ H Q=(te σ H fun x H1=>tl σ H1 fun l H2=>th σ H2 fun u H3=>r x l u H3 Q):=rfl
theorem YI (K:PySem.W.Frag) (x:V) (lo:Option Int) (hi:Option Int) (H:Hp) (Q:VK):wN K x lo hi H Q=(∃ a xs,x=.ref a∧SqT K H a xs ∧
 ¬ (HT.sIx xs.length 0 lo=0∧HT.sIx xs.length xs.length hi=xs.length)∧∀ p,H p=none→Q (.ref p) (upd H p (.tup (LA xs lo hi)))):=rfl
theorem BI (K:PySem.W.Frag) (x:V) (y:V) (H:Hp) (Q:VK):nN K x y H Q=(∃ p xs i v,x=.ref p∧y=.int i∧SqL K H p xs∧atI xs i=some v∧Q v H):=rfl
theorem bK (K:PySem.W.Frag) (x:V) (y:V) (H:Hp) (Q:VK):IN K x y H Q=(∃ p xs i v,x=.ref p∧y=.int i∧SqT K H p xs∧atI xs i=some v∧Q v H):=rfl
theorem WJ (x:V) (y:V) (H:Hp) (Q:VK):oN  x y H Q=(∃ z i c,x=.str z∧y=.int i∧z.length ≤ sizeLine∧atI z.cps.toList i=some c∧Q (.str ⟨#[c]⟩) H):=rfl
theorem dJ (K:PySem.W.Frag) (x:V) (lo:Option Int) (hi:Option Int) (H:Hp) (Q:VK):pN K x lo hi H Q=(∃ a xs,x=.ref a∧SqL K H a xs∧∀ p,H p=none→Q (.ref p) (upd H p (.lst (LA xs lo hi)))):=rfl
theorem qM (K:PySem.W.Frag) (neg:Bool) (x:V) (y:V) (H:Hp) (Q:VK):rIn K neg x y H Q=(∃ p xs,y=.ref p∧(SqL K H p xs∨SqT K H p xs)∧Sk x=true∧xs.all Sk=true∧Q (.bl (if neg then !inV x xs else inV x xs)) H):=rfl
theorem FL (K:PySem.W.Frag) (T:String) (r:V→List V→Hp→VK→Prop) (to:TE) (t:TA) (σ:St) (H:Hp) (Q:VK):tBM K T r to t σ H Q=(to σ H fun x H1=>tyV K T x H1∧t σ H1 fun xs H2=>r x xs H2 Q):=rfl
theorem dB (x:V) (vs:List V) (H:Hp) (Q:VK):rB  x vs H Q=(∃ l xs y,x=.ref l∧vs=[y]∧H l=some (.lst xs)∧xs.length < sizeLine∧Q .non (upd H l (.lst (xs ++ [y])))):=rfl
theorem DA (x:V) (vs:List V) (H:Hp) (Q:VK):gD  x vs H Q=(∃ l b xs zs,x=.ref l∧vs=[.ref b]∧H l=some (.lst xs)∧H b=some (.lst zs)∧xs.length + zs.length ≤ sizeLine∧Q .non (upd H l (.lst (xs ++ zs)))):=rfl
theorem qI (x:V) (y:V) (H:Hp) (Q:VK):yN  x y H Q=(∃ l b xs zs,x=.ref l∧y=.ref b∧H l=some (.lst xs)∧H b=some (.lst zs)∧xs.length + zs.length ≤ sizeLine∧∀ p,H p=none→Q (.ref p) (upd H p (.lst (xs ++ zs)))):=rfl
theorem WF (td ty:TE) (σ:St) (H:Hp) (Q:VK):cM td ty σ H Q=(td σ H fun x H1=>ty σ H1 fun y H2=>∃ a v,x=.ref a∧Nu H2 a y (some v)∧Q v H2):=rfl
theorem vA (ty td:TE) (σ:St) (H:Hp) (Q:VK):NB ty td σ H Q=(ty σ H fun y H1=>td σ H1 fun x H2=>∃ a o,x=.ref a∧Nu H2 a y o∧Q (.bl (!o.isSome)) H2):=rfl
theorem oG (td ty tv:TE) (D:Mi) (σ:St) (H:Hp):kL td ty tv D σ H=(tv σ H fun v H1=>td σ H1 fun x H2=>ty σ H2 fun y H3=>∃ a H4,x=.ref a∧EE H3 a y v H4∧D.nx σ H4):=rfl
theorem EC (x_0:St) (H:Hp) (Q:VK):YH  x_0 H Q=(∀ p,H p=none→Q (.ref p) (upd H p (.dK []))):=rfl
theorem iD (x_0:St) (H:Hp) (Q:VK):UH  x_0 H Q=(∀ p,H p=none→Q (.ref p) (upd H p (.dT []))):=rfl
theorem BG (trs:List (TE × TE)) (σ:St) (H:Hp) (Q:VK):bM trs σ H Q=(∀ p,H p=none→As trs σ (upd H p (.dK [])) fun ps H2=>H2 p=some (.dK [])∧∃ kvs:List (Key × V),ps=kvs.map (fun kv=>(kV kv.1,kv.2))∧kvs.length ≤ 15∧Q (.ref p) (upd H2 p (.dK (Lh [] kvs)))):=rfl
theorem wF (x_0:St) (H:Hp) (Q:(Bool→Hp→Prop)):bx  x_0 H Q=(Q true H):=rfl
theorem EJ (tl:TE) (σ:St) (H:Hp) (R:(It→Hp→Prop)):EN tl σ H R=(tl σ H fun x H1=>∃ z,x=.str z∧R (Its (zj z)) H1):=rfl
theorem NI (x:V) (lo:Option Int) (hi:Option Int) (H:Hp) (Q:VK):tN  x lo hi H Q=(∃ z,x=.str z∧z.length ≤ sizeLine∧Q (.str (Txt.slice z lo hi)) H):=rfl
theorem fF (K:PySem.W.Frag) (x:V) (vs:List V) (H:Hp) (Q:VK):lK K x vs H Q=(∃ sep p ys,x=.str sep∧vs=[.ref p]∧SqL K H p (wb ys)∧(ys.map (·.length)).sum + ys.length * sep.length ≤ 16777216∧Q (.str (Txt.join sep ys)) H):=rfl
theorem KB (x:V) (vs:List V) (H:Hp) (Q:VK):VH  x vs H Q=(∃ z y,x=.str z∧vs=[.str y]∧y.length ≠ 0∧z.length + 2 ≤ sizeLine∧(Txt.split z y).length ≤ sizeLine∧∀ p,H p=none→Q (.ref p) (upd H p (.lst (wb (Txt.split z y))))):=rfl
theorem CC (OK:Addr→Prop) (m:Str) (SPV:Addr→Sp) (E:XK) (ta:TE) (t:TA) (σ:St) (H:Hp) (Q:VK):BH OK m SPV E ta t σ H Q=(ta σ H fun x H1=>∃ a C dx fs,x=.ref a∧H1 a=some (.ins C dx fs)∧OK C∧fs.lookup m=none ∧
 t σ H1 fun vs H2=>SPV C (x :: vs) H2 Q E):=rfl
theorem SF (K:PySem.W.Frag) (ta:TA) (σ:St) (H:Hp) (R:(It→Hp→Prop)):RL K ta σ H R=(ta σ H fun vs H1=>∃ a,vs=[.ref a]∧(∃ xs,SqL K H1 a xs)∧R (Ite K a) H1):=rfl
theorem RA (x:V) (vs:List V) (H:Hp) (Q:VK):kE  x vs H Q=(∃ l xs i y,x=.ref l∧vs=[.int i,y]∧H l=some (.lst xs)∧0 ≤ i∧i < 2 ^ 62∧i ≤ (xs.length:Int)∧xs.length < sizeLine∧Q .non (upd H l (.lst (xs.take i.toNat ++ y :: xs.drop i.toNat)))):=rfl
theorem IL (x_0:St) (H:Hp) (Q:(Hp→Prop)):tJ0  x_0 H Q=(Q H):=rfl
theorem RK (te:TE) (t:TJ) (σ:St) (H:Hp) (Q:(Hp→Prop)):tJI te t σ H Q=(te σ H fun v H1=>∃ i,v=.int i∧i.natAbs.log2 < 1920∧t σ H1 Q):=rfl
theorem QL (te:TE) (t:TJ) (σ:St) (H:Hp) (Q:(Hp→Prop)):tJR te t σ H Q=(te σ H fun v H1=>∃ x,v=.str x∧x.length ≤ 1000∧(∀ c ∈ x.cps.toList,c < 16 ^ 8)∧t σ H1 Q):=rfl
theorem Rz (t:TJ) (σ:St) (H:Hp) (Q:VK):QD t σ H Q=(t σ H fun H1=>∀ y:Str,Q (.str y) H1):=rfl
theorem vC (K:PySem.W.Frag) (t:TA) (σ:St) (H:Hp) (Q:VK):dI K t σ H Q=(t σ H fun vs H1=>∃ x C od v,vs=[.ref x,v]∧H1 x=some (.ext (XF x C od))∧Zu K C∧Q .non H1):=rfl
theorem jE (C:Addr) (sp:Sp) (t:TA) (σ:St) (H:Hp) (Q:VK):zH C sp t σ H Q=(t σ H fun vs H1=>vs.length ≤ sizeLine∧∀ x,H1 x=none→sp (.ref x :: vs) (upd H1 x (.ext (XF x C none))) (fun v H2=>v=.non∧Q (.ref x) H2) (fun _ _ _=>False)):=rfl
theorem PD (K:PySem.W.Frag) (ta tv:TE) (f:Str) (D:Mi) (σ:St) (H:Hp):HH K ta tv f D σ H=(tv σ H fun y H1=>ta σ H1 fun x H2=>∃ a C,x=.ref a∧H2 a=some (.ext (XF a C none))∧Zu K C∧Ib K C f ∧
 ∀ dx,H2 dx=none→dx ≠ a→D.nx σ (upd (upd H2 a (.ext (XF a C (some dx)))) dx (.ext (XD dx [(f,y)])))):=rfl
theorem rE (K:PySem.W.Frag) (ta tv:TE) (f:Str) (D:Mi) (σ:St) (H:Hp):gI K ta tv f D σ H=(tv σ H fun y H1=>ta σ H1 fun x H2=>∃ a C dx fs,x=.ref a∧H2 a=some (.ext (XF a C (some dx)))∧H2 dx=some (.ext (XD dx fs))∧Zu K C∧Ib K C f∧fs.length < 1000 ∧
 D.nx σ (upd H2 dx (.ext (XD dx (yg f y fs))))):=rfl
theorem aC (K:PySem.W.Frag) (E:St→XK) (te:TE) (D:Mi) (σ:St) (H:Hp):NH K E te D σ H=(te σ H fun v H1=>∃ x C od,v=.ref x∧H1 x=some (.ext (XF x C od))∧Zu K C∧E σ (.ref C) od (upd H1 x (.ext (XA x C od)))):=rfl
theorem Dy (K:PySem.W.Frag) (ta:TA) (σ:St) (H:Hp) (Q:VK):Vy K ta σ H Q=(ta σ H fun vs H1=>∃ a xs,vs=[.ref a]∧SqL K H1 a xs∧∀ l,H1 l=none→Q (.ref l) (upd H1 l (.lst xs.reverse))):=rfl
theorem mF (x:V) (vs:List V) (H:Hp) (Q:VK):Wr  x vs H Q=(∃ d kvs,x=.ref d∧vs=[]∧H d=some (.dK kvs)∧∀ p,H p=none→Q (.ref p) (upd H p (.ext (CK p d)))):=rfl
theorem NF (P:Program) (w:World) (td ty:TE) (σ:St) (H:Hp) (Q:VK):xK P w td ty σ H Q=(td σ H fun x H1=>ty σ H1 fun y H2=>∃ a b kvs k v,x=.ref a∧y=.ref b∧Yo P w H2 a kvs∧H2 b=some (.tup (k.map kV))∧wg kvs k=some v∧Q v H2):=rfl
theorem AF (P:Program) (w:World) (td ty tv:TE) (D:Mi) (σ:St) (H:Hp):TL P w td ty tv D σ H=(tv σ H fun v H1=>td σ H1 fun x H2=>ty σ H2 fun y H3=>∃ a b kvs k,x=.ref a∧y=.ref b∧Yo P w H3 a kvs∧H3 b=some (.tup (k.map kV))∧kvs.length < sizeLine∧∀ o,Yo P w (upd H3 a (.ext (AtO a o))) a (Rk kvs k v)→D.nx σ (upd H3 a (.ext (AtO a o)))):=rfl
theorem NG (P:Program) (w:World) (x_0:St) (H:Hp) (Q:VK):LK P w x_0 H Q=(∀ p o,H p=none→Yo P w (upd H p (.ext (AtO p o))) p []→Q (.ref p) (upd H p (.ext (AtO p o)))):=rfl
noncomputable def Fi (J:It) (g:TG) (tb:TS) (D:Mi) (σ:St) (H:Hp):Prop:=∃ W:Nat→Nat→St→Hp→Prop,(∃ m,W 0 m σ H)∧∀ i m σ H,W i m σ H →
 (J.stop i H∧D.nx σ H)∨(J.go i H∧∃ N:St→Hp→Prop,(∀ σ' H',N σ' H'→∃ m',m' < m∧W (i + 1) m' σ' H')∧∀ x H',J.yld i H x H'→g x σ H' fun σ2 H2=>tb { D with nx:=N,ct:=N,bk:=D.nx } σ2 H2)
theorem WI (wi:TI) (g:TG) (tb:TS) (D:Mi) (σ:St) (H:Hp):uN wi g tb D σ H=wi σ H fun J H1=>Fi J g tb D σ H1:=rfl
noncomputable def ad (J:It) (g:TG) (tc:TT) (te:TE) (σb:St) (Q:VK) (H:Hp):Prop:=∃ W:Nat→Nat→List V→Hp→Prop,(∃ m,W 0 m [] H)∧Nx J g tc te σb Q W
theorem SI (K:PySem.W.Frag) (ta:TE) (f:Str) (σ:St) (H:Hp) (Q:VK):dN K ta f σ H Q=(ta σ H fun x H1=>∃ a v,x=.ref a∧Li K H1 a f v∧Q v H1):=by
 unfold dN Li
 congr 1
 funext x H1
 apply propext
 constructor
 ·rintro ⟨a,C,dx,fs,v,h1,h2,h3,h4,h5,h6⟩;exact ⟨a,v,h1,⟨C,dx,fs,h2,h3,h4,h5⟩,h6⟩
 ·rintro ⟨a,v,h1,⟨C,dx,fs,h2,h3,h4,h5⟩,h6⟩;exact ⟨a,C,dx,fs,v,h1,h2,h3,h4,h5,h6⟩
theorem CG (wi:TI) (g:TG) (tc:TT) (te:TE) (sel:List (Option Nat)) (σ:St) (H:Hp) (Q:VK):bJ wi g tc te sel σ H Q=wi σ H fun J H1=>ad J g tc te (blk sel σ) Q H1:=rfl
theorem bF (ta:TA) (σ:St) (H:Hp) (R:It→Hp→Prop):WL ta σ H R=(ta σ H fun vs H1=>∃ j:Int,vs=[.int j]∧-4611686018427387904 ≤ j∧j < 4611686018427387904∧R (Itr 0 j.toNat) H1):=rfl
theorem zJ (sel:List (Option Nat)) (σ:St):blk sel σ=sel.map fun o=>o.bind fun j=>(σ[j]?).join:=rfl
theorem Zb {c:TT} {t u:TS} {D:Mi} {σ:St} {H:Hp} (b:Bool) (hc:∀ Q:Bool→Hp→Prop,Q b H→c σ H Q) (h1:b=true→t D σ H) (h2:b=false→u D σ H):AM c t u D σ H:=by
 refine hc _ ?_
 cases b with
 | true=>exact h1 rfl
 | false=>exact h2 rfl
theorem iF {c:TT} {t u:TS} {D:Mi} {σ:St} {H:Hp} (R:Bool→Hp→Prop) (hc:∀ Q:Bool→Hp→Prop,(∀ b H',R b H'→Q b H')→c σ H Q) (h1:∀ H',R true H'→t D σ H') (h2:∀ H',R false H'→u D σ H'):AM c t u D σ H:=by
 refine hc _ fun b H' r=>?_
 cases b with
 | true=>exact h1 H' r
 | false=>exact h2 H' r
theorem Sb {t:TS} {D:Mi} {σ:St} {H:Hp} (R:St→Hp→Prop) (h:∀ D':Mi,(∀ σ H,R σ H→D'.nx σ H)→D'.rt=D.rt→D'.bk=D.bk→D'.ct=D.ct→t D' σ H) (hR:∀ σ H,R σ H→D.nx σ H):t D σ H:=h D hR rfl rfl rfl
theorem zzC {t:TS} {D:Mi} {σ:St} {H:Hp} (R:St->Hp->Prop) (h:∀ D':Mi,(∀ σ H,R σ H->D'.nx σ H)->t D' σ H) (hR:∀ M,M=D.nx->∀ σ H,R σ H->M σ H):t D σ H:=h D (hR _ rfl)
theorem zzP {p:Prop} (h:∀ q,q=p->q):p:=h p rfl
theorem zzD {t:TS} {D:Mi} {σ:St} {H:Hp} (R:St->Hp->Prop) (h:∀ D':Mi,(∀ σ H,R σ H->D'.nx σ H)->t D' σ H) (hR:∀ σ H,R σ H->D.nx σ H):t D σ H:=h D hR
theorem RI {te:TE} {D:Mi} {σ:St} {H:Hp} (v:V) (hc:∀ Q:VK,Q v H→te σ H Q) (h:D.rt v H):xM te D σ H:=hc _ h
theorem Uh (x y:Str):(x ++ y).length=x.length + y.length:=by
 show (x.cps ++ y.cps).size=_
 rw [Array.size_append];rfl
theorem Fi.range {lo:Int} {n:Nat} {g:TG} {tb:TS} {D:Mi} {σ:St} {H:Hp} (Pv:Nat→St→Hp→Prop) (h0:Pv 0 σ H)
  (hs:∀ i σ H,i < n→Pv i σ H→g (.int (lo + i)) σ H fun σ2 H2=>tb { D with nx:=Pv (i + 1),ct:=Pv (i + 1),bk:=D.nx } σ2 H2) (hd:∀ σ H,Pv n σ H→D.nx σ H):Fi (Itr lo n) g tb D σ H:=iC Pv h0 hs hd
theorem Fi.list {K:PySem.W.Frag} {a:Addr} {xs:List V} {g:TG} {tb:TS} {D:Mi} {σ:St} {H:Hp} (Pv:Nat→St→Hp→Prop) (h0:Pv 0 σ H) (hl:∀ i σ H,i ≤ xs.length→Pv i σ H→SqL K H a xs)
  (hs:∀ i x σ H,xs[i]? = some x→Pv i σ H→g x σ H fun σ2 H2=>tb { D with nx:=Pv (i + 1),ct:=Pv (i + 1),bk:=D.nx } σ2 H2) (hd:∀ σ H,Pv xs.length σ H→D.nx σ H):Fi (Itl K a) g tb D σ H:=uF Pv h0 hl hs hd
theorem Fi.its {xs:List V} {g:TG} {tb:TS} {D:Mi} {σ:St} {H:Hp} (Pv:Nat→St→Hp→Prop) (h0:Pv 0 σ H)
  (hs:∀ i x σ H,xs[i]? = some x→Pv i σ H→g x σ H fun σ2 H2=>tb { D with nx:=Pv (i + 1),ct:=Pv (i + 1),bk:=D.nx } σ2 H2) (hd:∀ σ H,Pv xs.length σ H→D.nx σ H):Fi (Its xs) g tb D σ H:=pJ Pv h0 hs hd
theorem ad.list {K:PySem.W.Frag} {a:Addr} {xs:List V} {g:TG} {tc:TT} {te:TE} {σb:St} {Q:VK} {H:Hp} (Pv:Nat→List V→Hp→Prop) (hz:xs.length ≤ sizeLine) (h0:Pv 0 [] H) (hl:∀ i ys H,i ≤ xs.length→Pv i ys H→SqL K H a xs∧ys.length ≤ i)
  (hs:∀ i x ys H,xs[i]? = some x→Pv i ys H→Ng Pv g tc te σb i x ys H) (hd:∀ ys H,Pv xs.length ys H→∀ p,H p=none→Q (.ref p) (upd H p (.lst ys))):ad (Itl K a) g tc te σb Q H:=oE Pv hz h0 hl hs hd
theorem ad.its {xs:List V} {g:TG} {tc:TT} {te:TE} {σb:St} {Q:VK} {H:Hp} (Pv:Nat→List V→Hp→Prop) (hz:xs.length ≤ sizeLine) (h0:Pv 0 [] H) (hl:∀ i ys H,i ≤ xs.length→Pv i ys H→ys.length ≤ i)
  (hs:∀ i x ys H,xs[i]? = some x→Pv i ys H→Ng Pv g tc te σb i x ys H) (hd:∀ ys H,Pv xs.length ys H→∀ p,H p=none→Q (.ref p) (upd H p (.lst ys))):ad (Its xs) g tc te σb Q H:=LG Pv hz h0 hl hs hd
theorem ad.range {lo:Int} {n:Nat} {g:TG} {tc:TT} {te:TE} {σb:St} {Q:VK} {H:Hp} (Pv:Nat→List V→Hp→Prop) (hz:n ≤ sizeLine) (h0:Pv 0 [] H) (hl:∀ i ys H,i ≤ n→Pv i ys H→ys.length ≤ i)
  (hs:∀ i ys H,i < n→Pv i ys H→Ng Pv g tc te σb i (.int (lo + i)) ys H) (hd:∀ ys H,Pv n ys H→∀ p,H p=none→Q (.ref p) (upd H p (.lst ys))):ad (Itr lo n) g tc te σb Q H:=CA Pv hz h0 hl hs hd
theorem Ct {α β:Type} {xs:List α} {i:Nat} {x:α} (f:α→β) (h:xs[i]? = some x):(xs.take (i + 1)).map f=(xs.take i).map f ++ [f x]:=by
 rw [List.take_add_one,h,List.map_append];rfl
theorem ad.its_map {xs:List V} {g:TG} {te:TE} {σb:St} {Q:VK} {H:Hp} (f:V→V) (hz:xs.length ≤ sizeLine) (hs:∀ (i:Nat) (x:V) (N:V→Hp→Prop),xs[i]? = some x→N (f x) H→g x σb H fun σ2 H2=>Sub σb σ2∧te σ2 H2 N)
  (hd:∀ p,H p=none→Q (.ref p) (upd H p (.lst (xs.map f)))):ad (Its xs) g bx te σb Q H:=by
 refine ad.its (fun i ys H'=>H'=H∧ys=(xs.take i).map f) hz ⟨rfl,rfl⟩ (fun i ys H' hi ⟨_,e⟩=>?_) (fun i x ys H' hx ⟨e1,e2⟩ N hN=>?_) (fun ys H' ⟨e1,e2⟩ p hp=>?_)
 ·rw [e,List.length_map,List.length_take];omega
 ·subst e1
  exact hs i x (fun y H4=>N (ys ++ [y]) H4) hx (hN _ _ ⟨rfl,by rw [e2,Ct f hx]⟩)
 ·subst e1
  rw [e2,List.take_length]
  exact hd p hp
theorem ad.range_map {lo:Int} {n:Nat} {g:TG} {te:TE} {σb:St} {Q:VK} {H:Hp} (f:Nat→V) (hz:n ≤ sizeLine) (hs:∀ (i:Nat) (N:V→Hp→Prop),i < n→N (f i) H→g (.int (lo + i)) σb H fun σ2 H2=>Sub σb σ2∧te σ2 H2 N)
  (hd:∀ p,H p=none→Q (.ref p) (upd H p (.lst ((List.range n).map f)))):ad (Itr lo n) g bx te σb Q H:=by
 refine ad.range (fun i ys H'=>H'=H∧ys=(List.range i).map f) hz ⟨rfl,rfl⟩ (fun i ys H' hi ⟨_,e⟩=>?_) (fun i ys H' hi ⟨e1,e2⟩ N hN=>?_) (fun ys H' ⟨e1,e2⟩ p hp=>?_)
 ·rw [e,List.length_map,List.length_range];exact Nat.le_refl _
 ·subst e1
  exact hs i (fun y H4=>N (ys ++ [y]) H4) hi (hN _ _ ⟨rfl,by rw [e2,List.range_succ,List.map_append];rfl⟩)
 ·subst e1
  rw [e2]
  exact hd p hp
theorem ad.list_mk {K:PySem.W.Frag} {a:Addr} {xs:List V} {g:TG} {te:TE} {σb:St} {Q:VK} {H:Hp} (f:V→HO) (hl:SqL K H a xs) (hz:xs.length ≤ sizeLine) (hn:∀ x,noT (f x)=true)
  (hs:∀ (i:Nat) (x:V) (H1:Hp) (N:V→Hp→Prop),xs[i]? = some x→Vb H H1→(NoT H→NoT H1)→(∀ q,H1 q=none→N (.ref q) (upd H1 q (f x)))→g x σb H1 fun σ2 H2=>Sub σb σ2∧te σ2 H2 N)
  (hd:∀ (qs:List Addr) (H1:Hp),Vb H H1→(NoT H→NoT H1)→qs.length=xs.length→(∀ (j:Nat) (q:Addr) (x:V),qs[j]? = some q→xs[j]? = some x→H1 q=some (f x)∧H q=none)→∀ p,H1 p=none→Q (.ref p) (upd H1 p (.lst (qs.map V.ref)))):ad (Itl K a) g bx te σb Q H:=by
 refine ad.list (fun i ys H'=>∃ qs:List Addr,ys=qs.map V.ref∧qs.length=i∧Vb H H'∧(NoT H→NoT H')∧∀ (j:Nat) (q:Addr) (x:V),qs[j]? = some q→xs[j]? = some x→H' q=some (f x)∧H q=none) hz
  ⟨[],rfl,rfl,Vb.refl H,id,fun j q x h _=>by simp at h⟩ ?_ ?_ ?_
 ·rintro i ys H' hi zzq
  refine zzP fun zzM zzh=>?_
  obtain ⟨qs,e,e2,sm,_,_⟩:=zzq
  subst zzh
  exact ⟨hl.same sm,by rw [e,List.length_map];omega⟩
 ·rintro i x ys H' hx ⟨qs,e1,e2,sm,nt,al⟩ N hN
  refine hs i x H' (fun y H4=>N (ys ++ [y]) H4) hx sm nt fun q hq=>hN _ _ ⟨qs ++ [q],by rw [e1,List.map_append];rfl,by rw [List.length_append,e2];rfl,sm.updN (sm.free hq),fun n=>(nt n).upd (hn x),fun j q' x' h1 h2=>?_⟩
  by_cases hj:j < qs.length
  ·rw [List.getElem?_append_left hj] at h1
   obtain ⟨z1,z2⟩:=al j q' x' h1 h2
   exact ⟨by rw [lb (vb z1 hq)];exact z1,z2⟩
  ·rw [List.getElem?_append_right (by omega)] at h1
   have hj0:j - qs.length=0:=by
    cases hh:j - qs.length with
    | zero=>rfl
    | succ n=>rw [hh] at h1;simp at h1
   rw [hj0] at h1
   have e3:q=q':=by simpa using h1
   subst e3
   have e4:j=i:=by omega
   subst e4
   rw [hx] at h2
   cases h2
   exact ⟨db,sm.free hq⟩
 ·rintro ys H' ⟨qs,e1,e2,sm,nt,al⟩ p hp
  subst e1
  exact hd qs H' sm nt e2 al p hp
theorem Fi.of {J:It} {n:Nat} {g:TG} {tb:TS} {D:Mi} {σ:St} {H:Hp} (Pv:Nat→St→Hp→Prop) (h0:Pv 0 σ H) (hgo:∀ i σ H,i < n→Pv i σ H→J.go i H) (hst:∀ σ H,Pv n σ H→J.stop n H)
  (hs:∀ i σ H x H',i < n→Pv i σ H→J.yld i H x H'→g x σ H' fun σ2 H2=>tb { D with nx:=Pv (i + 1),ct:=Pv (i + 1),bk:=D.nx } σ2 H2) (hd:∀ σ H,Pv n σ H→D.nx σ H):Fi J g tb D σ H:=by
 refine ⟨fun i m σ H=>m=n - i∧i ≤ n∧Pv i σ H,⟨n,by simp,Nat.zero_le _,h0⟩,?_⟩
 rintro i m σ H ⟨rfl,hi,p⟩
 by_cases hlt:i < n
 ·exact .inr ⟨hgo i σ H hlt p,Pv (i + 1),fun σ' H' p'=>⟨n - (i + 1),by omega,rfl,hlt,p'⟩,fun x H' y=>hs i σ H x H' hlt p y⟩
 ·have e:i=n:=by omega
  subst e
  exact .inl ⟨hst σ H p,hd σ H p⟩
theorem ad.of {J:It} {n:Nat} {g:TG} {tc:TT} {te:TE} {σb:St} {Q:VK} {H:Hp} (Pv:Nat→List V→Hp→Prop) (hz:n ≤ sizeLine) (h0:Pv 0 [] H) (hgo:∀ i ys H,i < n→Pv i ys H→J.go i H) (hst:∀ ys H,Pv n ys H→J.stop n H) (hl:∀ i ys H,i < n→Pv i ys H→ys.length ≤ i)
  (hs:∀ i ys H x H',i < n→Pv i ys H→J.yld i H x H'→Ng Pv g tc te σb i x ys H') (hd:∀ ys H,Pv n ys H→∀ p,H p=none→Q (.ref p) (upd H p (.lst ys))):ad J g tc te σb Q H:=by
 refine ⟨fun i m ys H=>m=n - i∧i ≤ n∧Pv i ys H,⟨n,by simp,Nat.zero_le _,h0⟩,?_⟩
 rintro i m ys H ⟨rfl,hi,p⟩
 by_cases hlt:i < n
 ·have hyl:=hl i ys H hlt p
  refine .inr ⟨hgo i ys H hlt p,by omega,fun x H' y=>?_⟩
  exact hs i ys H x H' hlt p y (fun ys' H'=>∃ m',m' < n - i∧m'=n - (i + 1)∧i + 1 ≤ n∧Pv (i + 1) ys' H') fun ys' H' r=>⟨n - (i + 1),by omega,rfl,hlt,r⟩
 ·have e:i=n:=by omega
  subst e
  exact .inl ⟨hst ys H p,hd ys H p⟩
section
variable {K:PySem.W.Frag} {a b:Addr} {xs ys:List V} {g:TG} {tb:TS} {D:Mi} {σ σb:St} {H:Hp} {tc:TT} {te:TE} {Q:VK}
theorem Fi.enum (Pv:Nat→St→Hp→Prop) (h0:Pv 0 σ H) (hl:∀ i σ H,i ≤ xs.length→Pv i σ H→SqL K H a xs)
  (hs:∀ i x σ H p,xs[i]? = some x→Pv i σ H→H p=none→g (.ref p) σ (upd H p (.tup [.int i,x])) fun σ2 H2=>tb { D with nx:=Pv (i + 1),ct:=Pv (i + 1),bk:=D.nx } σ2 H2) (hd:∀ σ H,Pv xs.length σ H→D.nx σ H):Fi (Ite K a) g tb D σ H:=by
 refine Fi.of (n:=xs.length) Pv h0 (fun i σ H hi p=>⟨xs,xs[i],hl i σ H (Nat.le_of_lt hi) p,by simp [hi]⟩) (fun σ H p=>⟨xs,hl _ σ H (Nat.le_refl _) p,Nat.le_refl _⟩) (fun i σ H v H' hi p y=>?_) hd
 obtain ⟨q,x,hq,rfl,hx,rfl⟩:=y
 exact hs i x σ H q (hx xs (hl i σ H (Nat.le_of_lt hi) p)) p hq
theorem Fi.zip (Pv:Nat→St→Hp→Prop) (h0:Pv 0 σ H) (hl:∀ i σ H,i ≤ xs.length→Pv i σ H→SqL K H a xs∧SqL K H b ys) (n:Nat) (hn:n=min xs.length ys.length)
  (hs:∀ i x y σ H p,xs[i]? = some x→ys[i]? = some y→Pv i σ H→H p=none→g (.ref p) σ (upd H p (.tup [x,y])) fun σ2 H2=>tb { D with nx:=Pv (i + 1),ct:=Pv (i + 1),bk:=D.nx } σ2 H2) (hd:∀ σ H,Pv n σ H→D.nx σ H):Fi (Itz K a b) g tb D σ H:=by
 subst hn
 refine Fi.of (n:=min xs.length ys.length) Pv h0 (fun i σ H hi p=>?_) (fun σ H p=>?_) (fun i σ H v H' hi p y=>?_) hd
 ·obtain ⟨z1,z2⟩:=hl i σ H (by omega) p
  exact ⟨xs,ys,xs[i],ys[i],z1,z2,by rw [List.getElem?_eq_getElem (by omega)],by rw [List.getElem?_eq_getElem (by omega)]⟩
 ·obtain ⟨z1,z2⟩:=hl _ σ H (by omega) p
  exact ⟨xs,ys,z1,z2,by omega⟩
 ·obtain ⟨q,x,y,hq,rfl,hx,hy,rfl⟩:=y
  obtain ⟨z1,z2⟩:=hl i σ H (by omega) p
  exact hs i x y σ H q (hx xs z1) (hy ys z2) p hq
theorem ad.enum (Pv:Nat→List V→Hp→Prop) (hz:xs.length ≤ sizeLine) (h0:Pv 0 [] H) (hl:∀ i ys H,i ≤ xs.length→Pv i ys H→SqL K H a xs∧ys.length ≤ i)
  (hs:∀ i x ys H p,xs[i]? = some x→Pv i ys H→H p=none→Ng Pv g tc te σb i (.ref p) ys (upd H p (.tup [.int i,x]))) (hd:∀ ys H,Pv xs.length ys H→∀ p,H p=none→Q (.ref p) (upd H p (.lst ys))):ad (Ite K a) g tc te σb Q H:=by
 refine ad.of (n:=xs.length) Pv hz h0 (fun i ys H hi p=>⟨xs,xs[i],(hl i ys H (Nat.le_of_lt hi) p).1,by simp [hi]⟩) (fun ys H p=>⟨xs,(hl _ ys H (Nat.le_refl _) p).1,Nat.le_refl _⟩) (fun i ys H hi p=>(hl i ys H (Nat.le_of_lt hi) p).2) (fun i zs H v H' hi p y=>?_) hd
 obtain ⟨q,x,hq,rfl,hx,rfl⟩:=y
 exact hs i x zs H q (hx xs (hl i zs H (Nat.le_of_lt hi) p).1) p hq
theorem yF {i j:Nat} {p:Addr} {x y:V} {R:St→Hp→Prop} (h:SqT K H p [x,y]) (q:R ((σ.set i (some x)).set j (some y)) H):TK K 2 (jA (Ww i) (jA (Ww j) rM)) (.ref p) σ H R:=
 ⟨p,_,rfl,h,rfl,x,_,rfl,y,_,rfl,rfl,q⟩
theorem lm {i j:Nat} {p:Addr} {x y:V} {R:St→Hp→Prop} (q:R ((σ.set i (some x)).set j (some y)) (upd H p (.tup [x,y]))):TK K 2 (jA (Ww i) (jA (Ww j) rM)) (.ref p) σ (upd H p (.tup [x,y])) R:=
 yF (.inl (.inl db)) q
end
theorem Sub.name2 {r:St} {v w:Option V}:Sub (none :: none :: r) (v :: w :: r):=by
 refine ⟨rfl,fun i u h=>?_⟩
 match i with
 | 0=>cases h
 | 1=>cases h
 | i + 2=>exact h
theorem Sub.name3 {r:St} {v w z:Option V}:Sub (none :: none :: none :: r) (v :: w :: z :: r):=by
 refine ⟨rfl,fun i u h=>?_⟩
 match i with
 | 0=>cases h
 | 1=>cases h
 | 2=>cases h
 | i + 3=>exact h
theorem ad.list_zs {K:PySem.W.Frag} {a:Addr} {xs zs:List V} {g:TG} {te:TE} {σb:St} {Q:VK} {H:Hp} (hl:SqL K H a xs) (hz:xs.length ≤ sizeLine) (he:zs.length=xs.length)
  (hs:∀ (i:Nat) (x z:V) (N:V→Hp→Prop),xs[i]? = some x→zs[i]? = some z→N z H→g x σb H fun σ2 H2=>Sub σb σ2∧te σ2 H2 N) (hd:∀ p,H p=none→Q (.ref p) (upd H p (.lst zs))):ad (Itl K a) g bx te σb Q H:=by
 refine ad.list (fun i ys H'=>H'=H∧ys=zs.take i) hz ⟨rfl,rfl⟩ (fun i ys H' hi ⟨e0,e⟩=>?_) (fun i x ys H' hx ⟨e1,e2⟩ N hN=>?_) (fun ys H' ⟨e1,e2⟩ p hp=>?_)
 ·subst e0
  exact ⟨hl,by rw [e,List.length_take];omega⟩
 ·subst e1
  have hi:i < zs.length:=by rw [he];exact (List.getElem?_eq_some_iff.mp hx).1
  have hz':zs[i]? = some zs[i]:=List.getElem?_eq_getElem hi
  exact hs i x zs[i] (fun y H4=>N (ys ++ [y]) H4) hx hz' (hN _ _ ⟨rfl,by rw [e2,List.take_add_one,hz'];rfl⟩)
 ·subst e1
  rw [e2,← he,List.take_length]
  exact hd p hp
theorem ad.tup_zs {K:PySem.W.Frag} {a:Addr} {xs zs:List V} {g:TG} {te:TE} {σb:St} {Q:VK} {H:Hp} (hl:SqT K H a xs) (hz:xs.length ≤ sizeLine) (he:zs.length=xs.length)
  (hs:∀ (i:Nat) (x z:V) (N:V→Hp→Prop),xs[i]? = some x→zs[i]? = some z→N z H→g x σb H fun σ2 H2=>Sub σb σ2∧te σ2 H2 N) (hd:∀ p,H p=none→Q (.ref p) (upd H p (.lst zs))):ad (Itt K a) g bx te σb Q H:=by
 refine eF (xs:=xs) (fun i ys H'=>H'=H∧ys=zs.take i) hz ⟨rfl,rfl⟩ (fun i ys H' hi ⟨e0,e⟩=>?_) (fun i x ys H' hx ⟨e1,e2⟩ N hN=>?_) (fun ys H' ⟨e1,e2⟩ p hp=>?_)
 ·subst e0
  exact ⟨hl,by rw [e,List.length_take];omega⟩
 ·subst e1
  have hi:i < zs.length:=by rw [he];exact (List.getElem?_eq_some_iff.mp hx).1
  have hz':zs[i]? = some zs[i]:=List.getElem?_eq_getElem hi
  exact hs i x zs[i] (fun y H4=>N (ys ++ [y]) H4) hx hz' (hN _ _ ⟨rfl,by rw [e2,List.take_add_one,hz'];rfl⟩)
 ·subst e1
  rw [e2,← he,List.take_length]
  exact hd p hp
theorem ad.list_sel {K:PySem.W.Frag} {a:Addr} {xs:List V} {ss:List (Option V)} {g:TG} {tc:TT} {te:TE} {σb:St} {Q:VK} {H:Hp} (hl:SqL K H a xs) (hz:xs.length ≤ sizeLine) (he:ss.length=xs.length)
  (hs:∀ (i:Nat) (x:V) (o:Option V) (ys:List V) (N:List V→Hp→Prop),xs[i]? = some x→ss[i]? = some o→N (ys ++ o.toList) H→g x σb H fun σ2 H2=>Sub σb σ2∧tc σ2 H2 fun c H3=>if c=true then te σ2 H3 fun y H4=>N (ys ++ [y]) H4 else N ys H3)
  (hd:∀ p,H p=none→Q (.ref p) (upd H p (.lst (ss.flatMap Option.toList)))):ad (Itl K a) g tc te σb Q H:=by
 refine ad.list (fun i ys H'=>H'=H∧ys=(ss.take i).flatMap Option.toList∧ys.length ≤ i) hz ⟨rfl,rfl,Nat.le_refl _⟩ (fun i ys H' hi ⟨e0,e,e'⟩=>?_) (fun i x ys H' hx ⟨e1,e2,e3⟩ N hN=>?_) (fun ys H' ⟨e1,e2,_⟩ p hp=>?_)
 ·subst e0
  exact ⟨hl,e'⟩
 ·subst e1
  have hi:i < ss.length:=by rw [he];exact (List.getElem?_eq_some_iff.mp hx).1
  have hz':ss[i]? = some ss[i]:=List.getElem?_eq_getElem hi
  refine hs i x ss[i] ys N hx hz' (hN _ _ ⟨rfl,by rw [e2,List.take_add_one,hz',List.flatMap_append];simp,?_⟩)
  rw [List.length_append]
  cases ss[i] <;> simp <;> omega
 ·subst e1
  rw [e2,← he,List.take_length]
  exact hd p hp
theorem VD {c:TT} {tb:TS} {D:Mi} {σ:St} {H:Hp} (Pv:St→Hp→Prop) (μ:St→Hp→Nat) (h0:Pv σ H)
  (hs:∀ σ H,Pv σ H→∃ b:Bool,(∀ Q:Bool→Hp→Prop,Q b H→c σ H Q)∧(b=true→tb { D with nx:=fun σ' H'=>Pv σ' H'∧μ σ' H' < μ σ H,ct:=fun σ' H'=>Pv σ' H'∧μ σ' H' < μ σ H,bk:=D.nx } σ H)∧(b=false→D.nx σ H)):vH c tb D σ H:=by
 refine ⟨fun m σ H=>m=μ σ H∧Pv σ H,⟨_,rfl,h0⟩,?_⟩
 rintro m σ H ⟨rfl,p⟩
 obtain ⟨b,hc,h1,h2⟩:=hs σ H p
 refine hc _ ?_
 cases b with
 | true=>exact ⟨_,fun σ' H' ⟨p',l⟩=>⟨_,l,rfl,p'⟩,h1 rfl⟩
 | false=>exact h2 rfl
theorem Sub.name {r:St} {v:Option V}:Sub (none :: r) (v :: r):=by
 refine ⟨rfl,fun i w h=>?_⟩
 cases i with
 | zero=>cases h
 | succ i=>exact h
end L2
local macro_rules | `(tactic| walk_at "RD")=>`(tactic| ((try dsimp only [L2.uD,L2.IM,L2.Cx.nox,L2.Cx.wish,L2.Cx.block,L2.Cx.tr,L2.Cx.hn]);(try simp only [L2.FJ,L2.JM,L2.yM,L2.yI,L2.yL,L2.XI,L2.qF,L2.VI,L2.ZF,L2.FK,L2.Zd,L2.Bb,L2.eG,L2.LI,L2.aE,L2.qe,L2.ZI,L2.QF,L2.AI,L2.EI,L2.mG,L2.mJ,L2.pL,L2.GM,L2.qK,L2.ZL,L2.CL,L2.wG,L2.mI,L2.QA,L2.ZJ,L2.sJ,L2.YG,L2.tJ,L2.FI,L2.FF,L2.iH,L2.RG,L2.aM,L2.JA,L2.WG,L2.tK,L2.YI,L2.BI,L2.bK,L2.WJ,L2.dJ,L2.qM,L2.FL,L2.dB,L2.DA,L2.qI,L2.WF,L2.vA,L2.oG,L2.EC,L2.iD,L2.BG,L2.wF,L2.EJ,L2.NI,L2.fF,L2.KB,L2.CC,L2.SF,L2.RA,L2.IL,L2.RK,L2.QL,L2.Rz,L2.vC,L2.jE,L2.PD,L2.rE,L2.aC,L2.Dy,L2.mF,L2.NF,L2.AF,L2.NG,L2.WI,L2.CG,L2.bF,L2.SI,L2.kJ,L2.HI,L2.start,L2.zJ,List.map_cons,List.map_nil,Option.bind_none,Option.bind_some,Option.join_some,Option.join_none,List.length_cons,List.length_nil,Nat.reduceAdd,Nat.reduceSub,Nat.zero_add,List.replicate,List.cons_append,List.nil_append,List.append_nil,List.set_cons_zero,List.set_cons_succ,List.getElem?_cons_zero,List.getElem?_cons_succ,Option.some.injEq,L2.V.int.injEq,L2.V.bl.injEq,L2.V.str.injEq,L2.V.ref.injEq,L2.V.ty.injEq,exists_eq_left',exists_eq_left,exists_and_left,List.cons.injEq,and_true,true_and,and_assoc,Int.zero_add,reduceCtorEq,false_and,exists_false,and_false,ite_true,ite_false,if_true,if_false,Bool.false_eq_true,L2.nL,L2.tyV,false_or,or_false,Bool.not_true,Bool.not_false,decide_true,decide_false])))
local macro_rules | `(tactic| walk_at "F")=>`(tactic| exact ⟨rfl,rfl,rfl,by decide +kernel,rfl,by decide +kernel,by decide +kernel⟩)
namespace My
open PySem L2
noncomputable def top (i:Nat):Stmt:=PySem.Challenge.pw_lampway_k33_changes.main.body.getD i (.Pass ⟨0,0,0,0⟩)
noncomputable abbrev Jy:Stmt:=top 9
theorem av:yb ["places","way","place","steps"] ["places","way","place"] (qb Jy):=(by walk_at "F")
noncomputable abbrev jo:Stmt:=top 10
theorem Yt:yb ["places","way","second"] ["places","way","second"] (qb jo):=(by walk_at "F")
noncomputable abbrev tH:Stmt:=top 11
theorem ax:yb ["crossing","one","other","way","second"] ["crossing","one","other"] (qb tH):=(by walk_at "F")
noncomputable abbrev SL:Stmt:=top 12
theorem BC:yb ["crossing","one","other","way","second"] ["crossing","one","other"] (qb SL):=(by walk_at "F")
noncomputable abbrev Vx:Stmt:=top 18
theorem QG:yb ["text"] ["text"] (qb Vx):=(by walk_at "F")
noncomputable abbrev Zj:Stmt:=top 19
theorem Jt:yb ["word","signs","most"] ["word","signs","most"] (qb Zj):=(by walk_at "F")
noncomputable abbrev Dp:Stmt:=top 20
theorem Av:yb ["word","most_figures"] ["word","most_figures"] (qb Dp):=(by walk_at "F")
noncomputable abbrev Bv:Stmt:=top 21
theorem dt:yb ["word","low","high","number"] ["word","low","high"] (qb Bv):=(by walk_at "F")
noncomputable abbrev tw:Stmt:=top 22
theorem eA:yb ["word"] ["word"] (qb tw):=(by walk_at "F")
noncomputable abbrev Np:Stmt:=top 25
theorem fA:yb ["text"] ["text"] (qb Np):=(by walk_at "F")
noncomputable abbrev ww:Stmt:=top 30
theorem bB:yb ["crossing","name"] ["crossing","name"] (qb ww):=(by walk_at "F")
noncomputable abbrev zt:Stmt:=top 31
theorem Vg:yb ["members","homes","number","names","name"] ["members"] (qb zt):=(by walk_at "F")
noncomputable abbrev Qe:Stmt:=top 32
theorem Yg:yb ["crossing","first","second","turns","one"] ["crossing","first","second"] (qb Qe):=(by walk_at "F")
noncomputable abbrev vh:Stmt:=top 33
theorem tm:yb ["crossing","rows","told"] ["crossing","rows"] (qb vh):=(by walk_at "F")
noncomputable abbrev Mf:Stmt:=top 34
theorem rf:yb ["reader","crossing","left","first","members","alike"] ["reader","crossing","left"] (qb Mf):=(by walk_at "F")
noncomputable abbrev qo:Stmt:=top 35
theorem Vi:yb ["reader","crossing","rows","least","most"] ["reader","crossing","rows"] (qb qo):=(by walk_at "F")
noncomputable abbrev Zk:Stmt:=top 36
theorem Sj:yb ["crossing","rows","left"] ["crossing","rows"] (qb Zk):=(by walk_at "F")
noncomputable abbrev ki:Stmt:=top 37
theorem mf:yb ["crossing","rows","homes","name","number"] ["crossing","rows"] (qb ki):=(by walk_at "F")
noncomputable abbrev Fl:Stmt:=top 38
theorem ye:yb ["crossing","rows","number","row","one","other"] ["crossing","rows"] (qb Fl):=(by walk_at "F")
noncomputable abbrev Hm:Stmt:=top 39
theorem ci:yb ["crossing","text","rows","reader"] ["crossing","text"] (qb Hm):=(by walk_at "F")
noncomputable abbrev Fz:Stmt:=top 40
theorem NC:yb ["stages","one","other"] ["stages","one","other"] (qb Fz):=(by walk_at "F")
noncomputable abbrev pq:Stmt:=top 54
theorem xo:yb ["reader","places"] ["reader"] (qb pq):=(by walk_at "F")
noncomputable abbrev Zg:Stmt:=top 55
theorem vj:yb ["reader","ways","name"] ["reader","ways"] (qb Zg):=(by walk_at "F")
noncomputable abbrev Ks:Stmt:=top 56
theorem Ex:yb ["reader","places","start"] ["reader","places","start"] (qb Ks):=(by walk_at "F")
noncomputable abbrev Ss:Stmt:=top 57
theorem Sx:yb ["sort","name","start","end","off","near","least"] ["sort","name","start","end","off","near","least"] (qb Ss):=(by walk_at "F")
noncomputable abbrev Fs:Stmt:=top 58
theorem Be:yb ["reader","places","ways","sort","name","start","end","off","near","least"] ["reader","places","ways"] (qb Fs):=(by walk_at "F")
noncomputable abbrev ik:Stmt:=top 59
theorem je:yb ["text","rows","places","ways","reader"] ["text"] (qb ik):=(by walk_at "F")
noncomputable abbrev Qp:Stmt:=top 61
theorem Ye:yb ["_law_script","_law_k","_law_many","_law_cell","_law_seed"] ["_law_script","_law_k","_law_many"] (qb Qp):=(by walk_at "F")
noncomputable abbrev Gj:Stmt:=top 62
theorem Fd:yb ["_law_script","_law_many","_law_letters","_law_base","_law_way","_law_at","_law_names_here","_law_k","_law_sign"] ["_law_script","_law_many"] (qb Gj):=(by walk_at "F")
noncomputable abbrev iq:Stmt:=top 63
theorem Pc:yb ["_law_script","_law_most","_law_places","_law_names_here","_law_ways_here","_law_k","_law_start","_law_end","_law_sort","_law_off","_law_near"] ["_law_script","_law_most"] (qb iq):=(by walk_at "F")
noncomputable abbrev Ql:Stmt:=top 64
theorem Mj:yb ["_law_places","_law_ways_here","_law_rows","_law_way"] ["_law_places","_law_ways_here"] (qb Ql):=(by walk_at "F")
noncomputable abbrev bq:Stmt:=top 65
theorem Ch:yb ["_law_one","_law_other","_law_places","_law_length","_law_start","_law_end"] ["_law_one","_law_other","_law_places"] (qb bq):=(by walk_at "F")
noncomputable abbrev ao:Stmt:=top 66
theorem Am:yb ["_law_ways_here","_law_one","_law_other","_law_tram"] ["_law_ways_here","_law_one","_law_other"] (qb ao):=(by walk_at "F")
noncomputable abbrev Qi:Stmt:=top 67
theorem Ub:yb ["_law_script","_law_places","_law_ways_here","_law_some","_law_k","_law_fits","_law_j","_law_good","_law_i","_law_stages_here","_law_low","_law_more"] ["_law_script","_law_places","_law_ways_here"] (qb Qi):=(by walk_at "F")
noncomputable abbrev xf:Stmt:=top 68
theorem vd:yb ["_law_ways_here","_law_stages_here","_law_rows","_law_low","_law_high","_law_some"] ["_law_ways_here","_law_stages_here"] (qb xf):=(by walk_at "F")
noncomputable abbrev Zn:Stmt:=top 69
theorem Ut:yb ["_law_way"] ["_law_way"] (qb Zn):=(by walk_at "F")
noncomputable abbrev Ip:Stmt:=top 70
theorem Lv:yb ["_law_way"] ["_law_way"] (qb Ip):=(by walk_at "F")
noncomputable abbrev im:Stmt:=top 71
theorem Me:yb ["_law_places","_law_ways_here","_law_stages_here","_law_one","_law_other","_law_turns","_law_i","_law_k"] ["_law_places","_law_ways_here","_law_stages_here","_law_one","_law_other"] (qb im):=(by walk_at "F")
noncomputable abbrev kM:Stmt:=top 72
theorem Jj:yb ["_law_script","_law_places","_law_ways_here","_law_stages_here","_law_plan","_law_pairs","_law_one","_law_other","_law_found"] ["_law_script"] (qb kM):=(by walk_at "F")
noncomputable abbrev Im:Stmt:=Rc (top 3) 0
theorem xm:yb ["self","row","word"] ["self","row","word"] (qb Im):=(by walk_at "F")
noncomputable abbrev io:Stmt:=Rc (top 5) 0
theorem vn:yb ["self","way"] ["self","way"] (qb io):=(by walk_at "F")
noncomputable abbrev Wn:Stmt:=Rc (top 6) 0
theorem Bn:yb ["self","way","at"] ["self","way","at"] (qb Wn):=(by walk_at "F")
noncomputable abbrev yo:Stmt:=Rc (top 7) 0
theorem xn:yb ["self","way","other","at"] ["self","way","other","at"] (qb yo):=(by walk_at "F")
noncomputable abbrev Cj:Stmt:=Rc (top 24) 0
theorem Yj:yb ["self","row","told"] ["self","row","told"] (qb Cj):=(by walk_at "F")
noncomputable abbrev vi:Stmt:=Rc (top 24) 1
theorem Um:yb ["self"] ["self"] (qb vi):=(by walk_at "F")
noncomputable abbrev Cg:Stmt:=Rc (top 24) 2
theorem Vj:yb ["self"] ["self"] (qb Cg):=(by walk_at "F")
noncomputable abbrev uh:Stmt:=Rc (top 24) 3
theorem Rl:yb ["self"] ["self"] (qb uh):=(by walk_at "F")
noncomputable abbrev rj:Stmt:=Rc (top 24) 4
theorem oi:yb ["self","good"] ["self","good"] (qb rj):=(by walk_at "F")
noncomputable abbrev ph:Stmt:=Rc (top 24) 5
theorem ae:yb ["self","choices","found"] ["self","choices"] (qb ph):=(by walk_at "F")
noncomputable abbrev Ug:Stmt:=Rc (top 24) 6
theorem Sd:yb ["self","low","high","found"] ["self","low","high"] (qb Ug):=(by walk_at "F")
noncomputable abbrev Th:Stmt:=Rc (top 24) 7
theorem Pl:yb ["self"] ["self"] (qb Th):=(by walk_at "F")
noncomputable abbrev He:Stmt:=Rc (top 29) 0
theorem tf:yb ["self","crossing","rows","one","other"] ["self","crossing","rows"] (qb He):=(by walk_at "F")
noncomputable abbrev Ts:Stmt:=Rc (top 42) 0
theorem Jq:yb ["self","kind","name","start","end","off","near","least"] ["self","kind","name","start","end","off","near","least"] (qb Ts):=(by walk_at "F")
noncomputable abbrev Wm:Stmt:=Rc (top 43) 0
theorem wm:yb ["self","name","start","end","off","near","least"] ["self","name","start","end","off","near","least"] (qb Wm):=(by walk_at "F")
noncomputable abbrev xl:Stmt:=Rc (top 43) 1
theorem nq:yb ["self"] ["self"] (qb xl):=(by walk_at "F")
noncomputable abbrev Em:Stmt:=Rc (top 43) 2
theorem cr:yb ["self"] ["self"] (qb Em):=(by walk_at "F")
noncomputable abbrev Bl:Stmt:=Rc (top 44) 0
theorem Xl:yb ["self","name","start","end","off","near","least"] ["self","name","start","end","off","near","least"] (qb Bl):=(by walk_at "F")
noncomputable abbrev Pj:Stmt:=Rc (top 44) 1
theorem Io:yb ["self"] ["self"] (qb Pj):=(by walk_at "F")
noncomputable abbrev Xk:Stmt:=Rc (top 44) 2
theorem uq:yb ["self"] ["self"] (qb Xk):=(by walk_at "F")
noncomputable abbrev yl:Stmt:=Rc (top 45) 0
theorem Yl:yb ["self","name","start","end","off","near","least"] ["self","name","start","end","off","near","least"] (qb yl):=(by walk_at "F")
noncomputable abbrev yk:Stmt:=Rc (top 45) 1
theorem Mo:yb ["self"] ["self"] (qb yk):=(by walk_at "F")
noncomputable abbrev Dl:Stmt:=Rc (top 45) 2
theorem yq:yb ["self"] ["self"] (qb Dl):=(by walk_at "F")
noncomputable abbrev Hj:Stmt:=Rc (top 53) 0
theorem Ke:yb ["self","places","ways","number","way"] ["self","places","ways"] (qb Hj):=(by walk_at "F")
noncomputable abbrev xg:Stmt:=Rc (top 53) 1
theorem yn:yb ["self"] ["self"] (qb xg):=(by walk_at "F")
noncomputable abbrev Ai:Stmt:=Rc (top 53) 2
theorem Xm:yb ["self","name"] ["self","name"] (qb Ai):=(by walk_at "F")
noncomputable abbrev Ii:Stmt:=Rc (top 53) 3
theorem Rm:yb ["self","name"] ["self","name"] (qb Ii):=(by walk_at "F")
set_option genInjectivity false in
set_option genInjectivity false in
structure Adr where
 {jp Qh Bw xG Et ng Oi Kj Bm fk Ej Sg ag gg bg yh Zf Rf Of lf Ro fj cf Ek Nk Ik zf Te qh cj kj bh nh Hg re Gh Ui Gg MI kf lg cg eg ee dc Nc Yc xc kc Xb Xc af Ef ef Sf Fg Oe ff Qf Le df Wf Ae Zc Ud yc Cb qc Cm jd Lc Mc Pb Gf Vc Nd Bd ud:Addr}
 {pp rh Xv lF uu kg Si xk bn vk qk Rg Nf ig Vf Rh Yf Xf Uf wf ap gj pf Ck Fk Dk gf Ue Mh oj Ri ah Jh Lg pe zh Ki Ig VG Pg Eh Ph Sh Se zc gd Gd Cc Ac vc Ed Kg Tg Mg Yh Wi Tf fh ii Pf dh Vh uf Cd Ie Gc:FuncData}
 {qv Yk Uw Wk oo ul Sq Ls Fm Qm Ao Bq:Value}
structure Txt (w:World) (K:PySem.W.Frag) (mg:Str→Option Value) (t:Adr):Prop where
 Fy:mg "in_bow"=some (.ref t.jp)
 gp:Fun K "in_bow" "in_bow" Jy t.jp t.pp
 Cv:mg "bows_cross"=some (.ref t.Qh)
 sk:Fun K "bows_cross" "bows_cross" jo t.Qh t.rh
 XH:mg "meet"=some (.ref t.Bw)
 Oy:Fun K "meet" "meet" tH t.Bw t.Xv
 YM:mg "gap"=some (.ref t.xG)
 vJ:Fun K "gap" "gap" SL t.xG t.lF
 tI:mg "words"=some (.ref t.Et)
 Hx:Fun K "words" "words" Vx t.Et t.uu
 Yn:mg "is_made_of"=some (.ref t.ng)
 Kh:Fun K "is_made_of" "is_made_of" Zj t.ng t.kg
 xy:mg "is_number"=some (.ref t.Oi)
 Ul:Fun K "is_number" "is_number" Dp t.Oi t.Si
 yv:mg "figured"=some (.ref t.Kj)
 Sm:Fun K "figured" "figured" Bv t.Kj t.xk
 wE:mg "is_name"=some (.ref t.Bm)
 Gp:Fun K "is_name" "is_name" tw t.Bm t.bn
 iw:mg "readers"=some (.ref t.fk)
 Km:Fun K "readers" "readers" Np t.fk t.vk
 Yp:mg "sort_of"=some (.ref t.Ej)
 ck:Fun K "sort_of" "sort_of" ww t.Ej t.qk
 gn:mg "homes_in"=some (.ref t.Sg)
 Ei:Fun K "homes_in" "homes_in" zt t.Sg t.Rg
 yr:mg "change_turns"=some (.ref t.ag)
 ji:Fun K "change_turns" "change_turns" Qe t.ag t.Nf
 ro:mg "names_left"=some (.ref t.gg)
 Ih:Fun K "names_left" "names_left" vh t.gg t.ig
 sr:mg "read_members"=some (.ref t.bg)
 Zh:Fun K "read_members" "read_members" Mf t.bg t.Vf
 Ov:mg "read_stage"=some (.ref t.yh)
 uk:Fun K "read_stage" "read_stage" qo t.yh t.Rh
 Qr:mg "refuse_never"=some (.ref t.Zf)
 bi:Fun K "refuse_never" "refuse_never" Zk t.Zf t.Yf
 Kr:mg "refuse_short"=some (.ref t.Rf)
 Wh:Fun K "refuse_short" "refuse_short" ki t.Rf t.Xf
 Yr:mg "refuse_clash"=some (.ref t.Of)
 di:Fun K "refuse_clash" "refuse_clash" Fl t.Of t.Uf
 Dt:mg "read_stages"=some (.ref t.lf)
 pj:Fun K "read_stages" "read_stages" Hm t.lf t.wf
 GF:mg "change"=some (.ref t.Ro)
 gu:Fun K "change" "change" Fz t.Ro t.ap
 xx:mg "read_ring"=some (.ref t.fj)
 Ml:Fun K "read_ring" "read_ring" pq t.fj t.gj
 Rp:mg "read_new_name"=some (.ref t.cf)
 eh:Fun K "read_new_name" "read_new_name" Zg t.cf t.pf
 aB:mg "read_end"=some (.ref t.Ek)
 En:Fun K "read_end" "read_end" Ks t.Ek t.Ck
 VA:mg "made_way"=some (.ref t.Nk)
 Kn:Fun K "made_way" "made_way" Ss t.Nk t.Fk
 nA:mg "read_way"=some (.ref t.Ik)
 Fn:Fun K "read_way" "read_way" Fs t.Ik t.Dk
 Mq:mg "read_crossing"=some (.ref t.zf)
 gh:Fun K "read_crossing" "read_crossing" ik t.zf t.gf
 Gb:mg "_law_draw"=some (.ref t.Te)
 Ab:Fun K "_law_draw" "_law_draw" Qp t.Te t.Ue
 Dw:mg "_law_names"=some (.ref t.qh)
 jk:Fun K "_law_names" "_law_names" Gj t.qh t.Mh
 Fx:mg "_law_ways"=some (.ref t.cj)
 dm:Fun K "_law_ways" "_law_ways" iq t.cj t.oj
 Ey:mg "_law_text"=some (.ref t.kj)
 Vl:Fun K "_law_text" "_law_text" Ql t.kj t.Ri
 Kq:mg "_law_meet"=some (.ref t.bh)
 ij:Fun K "_law_meet" "_law_meet" bq t.bh t.ah
 Wv:mg "_law_alike"=some (.ref t.nh)
 Xj:Fun K "_law_alike" "_law_alike" ao t.nh t.Jh
 Vu:mg "_law_stages"=some (.ref t.Hg)
 Ti:Fun K "_law_stages" "_law_stages" Qi t.Hg t.Lg
 Ym:mg "_law_stages_text"=some (.ref t.re)
 jf:Fun K "_law_stages_text" "_law_stages_text" xf t.re t.pe
 Tw:mg "_law_ready"=some (.ref t.Gh)
 nk:Fun K "_law_ready" "_law_ready" Zn t.Gh t.zh
 qy:mg "_law_fade"=some (.ref t.Ui)
 Zl:Fun K "_law_fade" "_law_fade" Ip t.Ui t.Ki
 Cu:mg "_law_change"=some (.ref t.Gg)
 bj:Fun K "_law_change" "_law_change" im t.Gg t.Ig
 EM:mg "law"=some (.ref t.MI)
 QM:Fun K "law" "law" kM t.MI t.VG
 ZG:mg "NoText"=some (.ref t.Vc)
 DG:PySem.W.findIn K (.ref t.Vc) "__init__"=some (some (.ref t.kf))
 cn:Fun K "__init__" "NoText.__init__" Im t.kf t.Pg
 oJ:mg "Never"=some (.ref t.Nd)
 rH:PySem.W.findIn K (.ref t.Nd) "__init__"=some (some (.ref t.lg))
 Rn:Fun K "__init__" "Never.__init__" io t.lg t.Eh
 OI:mg "Short"=some (.ref t.Bd)
 oH:PySem.W.findIn K (.ref t.Bd) "__init__"=some (some (.ref t.cg))
 Xn:Fun K "__init__" "Short.__init__" Wn t.cg t.Ph
 sI:mg "Clash"=some (.ref t.ud)
 KH:PySem.W.findIn K (.ref t.ud) "__init__"=some (some (.ref t.eg))
 Tn:Fun K "__init__" "Clash.__init__" yo t.eg t.Sh
 cy:mg "RowReader"=some (.ref t.Cb)
 iB:PySem.W.findIn K (.ref t.Cb) "__init__"=some (some (.ref t.ee))
 xj:Fun K "__init__" "RowReader.__init__" Cj t.ee t.Se
 yA:PySem.W.findIn K (.ref t.Cb) "ahead"=some (some (.ref t.dc))
 ri:Fun K "ahead" "RowReader.ahead" vi t.dc t.zc
 Yw:PySem.W.findIn K (.ref t.Cb) "has_more"=some (some (.ref t.Nc))
 Eg:Fun K "has_more" "RowReader.has_more" Cg t.Nc t.gd
 vz:PySem.W.findIn K (.ref t.Cb) "refuse"=some (some (.ref t.Yc))
 Oh:Fun K "refuse" "RowReader.refuse" uh t.Yc t.Gd
 pB:PySem.W.findIn K (.ref t.Cb) "take"=some (some (.ref t.xc))
 qg:Fun K "take" "RowReader.take" rj t.xc t.Cc
 pz:PySem.W.findIn K (.ref t.Cb) "one_of"=some (some (.ref t.kc))
 Af:Fun K "one_of" "RowReader.one_of" ph t.kc t.Ac
 Qx:PySem.W.findIn K (.ref t.Cb) "figures"=some (some (.ref t.Xb))
 Ve:Fun K "figures" "RowReader.figures" Ug t.Xb t.vc
 Wy:PySem.W.findIn K (.ref t.Cb) "finish"=some (some (.ref t.Xc))
 Ah:Fun K "finish" "RowReader.finish" Th t.Xc t.Ed
 EG:mg "Stages"=some (.ref t.qc)
 AG:PySem.W.findIn K (.ref t.qc) "__init__"=some (some (.ref t.af))
 Mm:Fun K "__init__" "Stages.__init__" He t.af t.Kg
 zI:mg "Way"=some (.ref t.Cm)
 kK:PySem.W.findIn K (.ref t.Cm) "__init__"=some (some (.ref t.Ef))
 Ys:Fun K "__init__" "Way.__init__" Ts t.Ef t.Tg
 RF:mg "CarWay"=some (.ref t.jd)
 oF:PySem.W.findIn K (.ref t.jd) "__init__"=some (some (.ref t.ef))
 km:Fun K "__init__" "CarWay.__init__" Wm t.ef t.Mg
 YE:PySem.W.findIn K (.ref t.jd) "ready"=some (some (.ref t.Sf))
 Il:Fun K "ready" "CarWay.ready" xl t.Sf t.Yh
 vG:PySem.W.findIn K (.ref t.jd) "fade"=some (some (.ref t.Fg))
 jm:Fun K "fade" "CarWay.fade" Em t.Fg t.Wi
 JD:mg "FootWay"=some (.ref t.Lc)
 XE:PySem.W.findIn K (.ref t.Lc) "__init__"=some (some (.ref t.Oe))
 dl:Fun K "__init__" "FootWay.__init__" Bl t.Oe t.Tf
 pE:PySem.W.findIn K (.ref t.Lc) "ready"=some (some (.ref t.ff))
 Uj:Fun K "ready" "FootWay.ready" Pj t.ff t.fh
 ME:PySem.W.findIn K (.ref t.Lc) "fade"=some (some (.ref t.Qf))
 Al:Fun K "fade" "FootWay.fade" Xk t.Qf t.ii
 PB:mg "TramWay"=some (.ref t.Mc)
 QE:PySem.W.findIn K (.ref t.Mc) "__init__"=some (some (.ref t.Le))
 Cl:Fun K "__init__" "TramWay.__init__" yl t.Le t.Pf
 yC:PySem.W.findIn K (.ref t.Mc) "ready"=some (some (.ref t.df))
 zk:Fun K "ready" "TramWay.ready" yk t.df t.dh
 OE:PySem.W.findIn K (.ref t.Mc) "fade"=some (some (.ref t.Wf))
 zl:Fun K "fade" "TramWay.fade" Dl t.Wf t.Vh
 Qz:mg "Crossing"=some (.ref t.Pb)
 SD:PySem.W.findIn K (.ref t.Pb) "__init__"=some (some (.ref t.Ae))
 Lj:Fun K "__init__" "Crossing.__init__" Hj t.Ae t.uf
 kB:PySem.W.findIn K (.ref t.Pb) "names"=some (some (.ref t.Zc))
 yj:Fun K "names" "Crossing.names" xg t.Zc t.Cd
 zA:PySem.W.findIn K (.ref t.Pb) "number"=some (some (.ref t.Ud))
 Hi:Fun K "number" "Crossing.number" Ai t.Ud t.Ie
 wA:PySem.W.findIn K (.ref t.Pb) "called"=some (some (.ref t.yc))
 ni:Fun K "called" "Crossing.called" Ii t.yc t.Gc
 ub:Cls K t.Cb
 my:Mk K t.Cb t.ee
 pd:xt K t.Cb "ahead" t.dc
 Ag:xt K t.Cb "has_more" t.Nc
 sh:xt K t.Cb "refuse" t.Yc
 ge:xt K t.Cb "take" t.xc
 Jd:xt K t.Cb "one_of" t.kc
 uc:xt K t.Cb "figures" t.Xb
 Dh:xt K t.Cb "finish" t.Xc
 Bj:Ib K t.Cb "row"
 Ci:Ib K t.Cb "told"
 ue:Ib K t.Cb "place"
 ie:Cls K t.qc
 iG:Mk K t.qc t.af
 Dm:Ib K t.qc "crossing"
 El:Ib K t.qc "many"
 Fo:Ib K t.qc "leasts"
 Pq:Ib K t.qc "mosts"
 Lf:Ib K t.qc "members"
 qp:Ib K t.qc "sorts"
 Tq:Ib K t.qc "homes"
 yi:Ib K t.qc "changes"
 CN:Cls K t.Cm
 nI:Ib K t.Cm "kind"
 aJ:Ib K t.Cm "name"
 bI:Ib K t.Cm "start"
 iK:Ib K t.Cm "end"
 gK:Ib K t.Cm "off"
 iJ:Ib K t.Cm "near"
 FH:Ib K t.Cm "least"
 Bp:Cls K t.jd
 gH:Mk K t.jd t.ef
 Mr:xt K t.jd "ready" t.Sf
 au:xt K t.jd "fade" t.Fg
 Er:Ib K t.jd "kind"
 ir:Ib K t.jd "name"
 vq:Ib K t.jd "start"
 lu:Ib K t.jd "end"
 wu:Ib K t.jd "off"
 Rr:Ib K t.jd "near"
 gq:Ib K t.jd "least"
 On:Cls K t.Lc
 TB:Mk K t.Lc t.Oe
 Dq:xt K t.Lc "ready" t.ff
 Ur:xt K t.Lc "fade" t.Qf
 vp:Ib K t.Lc "kind"
 rp:Ib K t.Lc "name"
 Jo:Ib K t.Lc "start"
 lr:Ib K t.Lc "end"
 Zr:Ib K t.Lc "off"
 Mp:Ib K t.Lc "near"
 Co:Ib K t.Lc "least"
 Pn:Cls K t.Mc
 vE:Mk K t.Mc t.Le
 Qq:xt K t.Mc "ready" t.df
 ur:xt K t.Mc "fade" t.Wf
 Fp:Ib K t.Mc "kind"
 up:Ib K t.Mc "name"
 Go:Ib K t.Mc "start"
 br:Ib K t.Mc "end"
 ls:Ib K t.Mc "off"
 Hq:Ib K t.Mc "near"
 Ho:Ib K t.Mc "least"
 jc:Cls K t.Pb
 MA:Mk K t.Pb t.Ae
 ug:xt K t.Pb "names" t.Zc
 zn:xt K t.Pb "number" t.Ud
 Ic:xt K t.Pb "called" t.yc
 Hh:Ib K t.Pb "places"
 tj:Ib K t.Pb "ways"
 kh:Ib K t.Pb "numbers"
 Zi:mg "LampError"=some (.ref t.Gf)
 nj:NN K t.Gf "__init__"
 VB:XB K t.Vc
 Ew:MkX K t.Vc t.kf
 Mt:Ib K t.Vc "row"
 dr:Ib K t.Vc "word"
 Zw:PySem.W.exmOne K (.ref t.Vc) (.ref t.Gf)=some true
 jB:PySem.W.exmOne K (.ref t.Vc) (.ref t.Vc)=some true
 YD:PySem.W.exmOne K (.ref t.Vc) (.ref t.Nd)=some false
 KD:PySem.W.exmOne K (.ref t.Vc) (.ref t.Bd)=some false
 gE:PySem.W.exmOne K (.ref t.Vc) (.ref t.ud)=some false
 FG:XB K t.Nd
 Gz:MkX K t.Nd t.lg
 Mw:Ib K t.Nd "way"
 Bz:PySem.W.exmOne K (.ref t.Nd) (.ref t.Gf)=some true
 bE:PySem.W.exmOne K (.ref t.Nd) (.ref t.Vc)=some false
 UE:PySem.W.exmOne K (.ref t.Nd) (.ref t.Nd)=some true
 FE:PySem.W.exmOne K (.ref t.Nd) (.ref t.Bd)=some false
 GE:PySem.W.exmOne K (.ref t.Nd) (.ref t.ud)=some false
 LF:XB K t.Bd
 uz:MkX K t.Bd t.cg
 lv:Ib K t.Bd "way"
 Gx:Ib K t.Bd "at"
 Uy:PySem.W.exmOne K (.ref t.Bd) (.ref t.Gf)=some true
 qD:PySem.W.exmOne K (.ref t.Bd) (.ref t.Vc)=some false
 IE:PySem.W.exmOne K (.ref t.Bd) (.ref t.Nd)=some false
 JE:PySem.W.exmOne K (.ref t.Bd) (.ref t.Bd)=some true
 VE:PySem.W.exmOne K (.ref t.Bd) (.ref t.ud)=some false
 kG:XB K t.ud
 Iz:MkX K t.ud t.eg
 Nw:Ib K t.ud "way"
 Lr:Ib K t.ud "other"
 yx:Ib K t.ud "at"
 Yy:PySem.W.exmOne K (.ref t.ud) (.ref t.Gf)=some true
 UC:PySem.W.exmOne K (.ref t.ud) (.ref t.Vc)=some false
 NE:PySem.W.exmOne K (.ref t.ud) (.ref t.Nd)=some false
 aF:PySem.W.exmOne K (.ref t.ud) (.ref t.Bd)=some false
 WE:PySem.W.exmOne K (.ref t.ud) (.ref t.ud)=some true
 XG:t.Cm ≠ t.jd
 RE:t.Cm ≠ t.Lc
 SE:t.Cm ≠ t.Mc
 Di:t.jd ≠ t.Lc
 ti:t.jd ≠ t.Mc
 Fh:t.Lc ≠ t.Mc
 An:FN K t.Cm "__init__" t.Ef
 sE:mg "FIGURES"=some t.qv
 zD:Ld (.str (Str.ofString "0123456789")) t.qv
 kr:mg "LEAST_PLACES"=some t.Yk
 Xq:Ld (.int 2) t.Yk
 DD:mg "LETTERS"=some t.Uw
 yD:Ld (.str (Str.ofString "abcdefghijklmnopqrstuvwxyz")) t.Uw
 pr:mg "MOST_FIGURES"=some t.Wk
 xr:Ld (.int 3) t.Wk
 nv:mg "MOST_LEAST"=some t.oo
 gv:Ld (.int 60) t.oo
 Vr:mg "MOST_LETTERS"=some t.ul
 js:Ld (.int 8) t.ul
 zx:mg "MOST_NEAR"=some t.Sq
 Kx:Ld (.int 30) t.Sq
 iA:mg "MOST_OFF"=some t.Ls
 Xz:Ld (.int 30) t.Ls
 Uu:mg "MOST_PLACES"=some t.Fm
 Lu:Ld (.int 99) t.Fm
 Ot:mg "MOST_STAGES"=some t.Qm
 xu:Ld (.int 6) t.Qm
 uo:mg "MOST_TURNS"=some t.Ao
 vo:Ld (.int 60) t.Ao
 jy:mg "MOST_WAYS"=some t.Bq
 By:Ld (.int 12) t.Bq
 SM:mg "all"=none
 dL:mg "bool"=none
 Pi:mg "enumerate"=none
 OG:mg "int"=none
 Vn:mg "isinstance"=none
 Xh:mg "len"=none
 cL:mg "list"=none
 zF:mg "max"=none
 jh:mg "range"=none
 WA:mg "reversed"=none
 cE:mg "str"=none
 JK:∀ (s:Shared) (u:Value),BindsTo s t.VG ⟨[u],[]⟩ [("_law_script",u)]
section
variable {w:World} {K:PySem.W.Frag} {mg:Str→Option Value} {t:Adr} (T:Txt w K mg t)
include T
theorem Txt.Sy:Yb K t.pp ["places","way","place"] []:=T.gp.binds fun _ _ _ _ _ _=>us3 fun _ _ _=>rfl
theorem Txt.Xw:Yb K t.rh ["places","way","second"] []:=T.sk.binds fun _ _ _ _ _ _=>us3 fun _ _ _=>rfl
theorem Txt.jI:Yb K t.Xv ["crossing","one","other"] []:=T.Oy.binds fun _ _ _ _ _ _=>us3 fun _ _ _=>rfl
theorem Txt.aN:Yb K t.lF ["crossing","one","other"] []:=T.vJ.binds fun _ _ _ _ _ _=>us3 fun _ _ _=>rfl
theorem Txt.GI:Yb K t.uu ["text"] []:=T.Hx.binds fun _ _ _ _ _ _=>us1 fun _=>rfl
theorem Txt.Qn:Yb K t.kg ["word","signs","most"] []:=T.Kh.binds fun _ _ _ _ _ _=>us3 fun _ _ _=>rfl
theorem Txt.Wx:Yb K t.Si ["word","most_figures"] []:=T.Ul.binds fun _ _ _ _ _ _=>us2 fun _ _=>rfl
theorem Txt.Dv:Yb K t.xk ["word","low","high"] []:=T.Sm.binds fun _ _ _ _ _ _=>us3 fun _ _ _=>rfl
theorem Txt.kD:Yb K t.bn ["word"] []:=T.Gp.binds fun _ _ _ _ _ _=>us1 fun _=>rfl
theorem Txt.xv:Yb K t.vk ["text"] []:=T.Km.binds fun _ _ _ _ _ _=>us1 fun _=>rfl
theorem Txt.xq:Yb K t.qk ["crossing","name"] []:=T.ck.binds fun _ _ _ _ _ _=>us2 fun _ _=>rfl
theorem Txt.jn:Yb K t.Rg ["members"] []:=T.Ei.binds fun _ _ _ _ _ _=>us1 fun _=>rfl
theorem Txt.jr:Yb K t.Nf ["crossing","first","second"] []:=T.ji.binds fun _ _ _ _ _ _=>us3 fun _ _ _=>rfl
theorem Txt.ko:Yb K t.ig ["crossing","rows"] []:=T.Ih.binds fun _ _ _ _ _ _=>us2 fun _ _=>rfl
theorem Txt.Dr:Yb K t.Vf ["reader","crossing","left"] []:=T.Zh.binds fun _ _ _ _ _ _=>us3 fun _ _ _=>rfl
theorem Txt.Zv:Yb K t.Rh ["reader","crossing","rows"] []:=T.uk.binds fun _ _ _ _ _ _=>us3 fun _ _ _=>rfl
theorem Txt.Pr:Yb K t.Yf ["crossing","rows"] []:=T.bi.binds fun _ _ _ _ _ _=>us2 fun _ _=>rfl
theorem Txt.Tr:Yb K t.Xf ["crossing","rows"] []:=T.Wh.binds fun _ _ _ _ _ _=>us2 fun _ _=>rfl
theorem Txt.Sr:Yb K t.Uf ["crossing","rows"] []:=T.di.binds fun _ _ _ _ _ _=>us2 fun _ _=>rfl
theorem Txt.yu:Yb K t.wf ["crossing","text"] []:=T.pj.binds fun _ _ _ _ _ _=>us2 fun _ _=>rfl
theorem Txt.IG:Yb K t.ap ["stages","one","other"] []:=T.gu.binds fun _ _ _ _ _ _=>us3 fun _ _ _=>rfl
theorem Txt.Bx:Yb K t.gj ["reader"] []:=T.Ml.binds fun _ _ _ _ _ _=>us1 fun _=>rfl
theorem Txt.Aq:Yb K t.pf ["reader","ways"] []:=T.eh.binds fun _ _ _ _ _ _=>us2 fun _ _=>rfl
theorem Txt.Yz:Yb K t.Ck ["reader","places","start"] []:=T.En.binds fun _ _ _ _ _ _=>us3 fun _ _ _=>rfl
theorem Txt.bA:Yb K t.Fk ["sort","name","start","end","off","near","least"] []:=T.Kn.binds fun _ _ _ _ _ _=>us7 fun _ _ _ _ _ _ _=>rfl
theorem Txt.Sz:Yb K t.Dk ["reader","places","ways"] []:=T.Fn.binds fun _ _ _ _ _ _=>us3 fun _ _ _=>rfl
theorem Txt.Ap:Yb K t.gf ["text"] []:=T.gh.binds fun _ _ _ _ _ _=>us1 fun _=>rfl
theorem Txt.Hb:Yb K t.Ue ["_law_script","_law_k","_law_many"] []:=T.Ab.binds fun _ _ _ _ _ _=>us3 fun _ _ _=>rfl
theorem Txt.Sw:Yb K t.Mh ["_law_script","_law_many"] []:=T.jk.binds fun _ _ _ _ _ _=>us2 fun _ _=>rfl
theorem Txt.Ux:Yb K t.oj ["_law_script","_law_most"] []:=T.dm.binds fun _ _ _ _ _ _=>us2 fun _ _=>rfl
theorem Txt.Yx:Yb K t.Ri ["_law_places","_law_ways_here"] []:=T.Vl.binds fun _ _ _ _ _ _=>us2 fun _ _=>rfl
theorem Txt.Wp:Yb K t.ah ["_law_one","_law_other","_law_places"] []:=T.ij.binds fun _ _ _ _ _ _=>us3 fun _ _ _=>rfl
theorem Txt.Mv:Yb K t.Jh ["_law_ways_here","_law_one","_law_other"] []:=T.Xj.binds fun _ _ _ _ _ _=>us3 fun _ _ _=>rfl
theorem Txt.Nt:Yb K t.Lg ["_law_script","_law_places","_law_ways_here"] []:=T.Ti.binds fun _ _ _ _ _ _=>us3 fun _ _ _=>rfl
theorem Txt.Nm:Yb K t.pe ["_law_ways_here","_law_stages_here"] []:=T.jf.binds fun _ _ _ _ _ _=>us2 fun _ _=>rfl
theorem Txt.lw:Yb K t.zh ["_law_way"] []:=T.nk.binds fun _ _ _ _ _ _=>us1 fun _=>rfl
theorem Txt.jx:Yb K t.Ki ["_law_way"] []:=T.Zl.binds fun _ _ _ _ _ _=>us1 fun _=>rfl
theorem Txt.Tu:Yb K t.Ig ["_law_places","_law_ways_here","_law_stages_here","_law_one","_law_other"] []:=T.bj.binds fun _ _ _ _ _ _=>us5 fun _ _ _ _ _=>rfl
theorem Txt.Tt:Yb K t.Pg ["self","row","word"] []:=T.cn.binds fun _ _ _ _ _ _=>us3 fun _ _ _=>rfl
theorem Txt.Yv:Yb K t.Eh ["self","way"] []:=T.Rn.binds fun _ _ _ _ _ _=>us2 fun _ _=>rfl
theorem Txt.Fv:Yb K t.Ph ["self","way","at"] []:=T.Xn.binds fun _ _ _ _ _ _=>us3 fun _ _ _=>rfl
theorem Txt.vw:Yb K t.Sh ["self","way","other","at"] []:=T.Tn.binds fun _ _ _ _ _ _=>us4 fun _ _ _ _=>rfl
theorem Txt.Oo:Yb K t.Se ["self","row","told"] []:=T.xj.binds fun _ _ _ _ _ _=>us3 fun _ _ _=>rfl
theorem Txt.md:Yb K t.zc ["self"] []:=T.ri.binds fun _ _ _ _ _ _=>us1 fun _=>rfl
theorem Txt.Bg:Yb K t.gd ["self"] []:=T.Eg.binds fun _ _ _ _ _ _=>us1 fun _=>rfl
theorem Txt.Bh:Yb K t.Gd ["self"] []:=T.Oh.binds fun _ _ _ _ _ _=>us1 fun _=>rfl
theorem Txt.fe:Yb K t.Cc ["self","good"] []:=T.qg.binds fun _ _ _ _ _ _=>us2 fun _ _=>rfl
theorem Txt.Dd:Yb K t.Ac ["self","choices"] []:=T.Af.binds fun _ _ _ _ _ _=>us2 fun _ _=>rfl
theorem Txt.wc:Yb K t.vc ["self","low","high"] []:=T.Ve.binds fun _ _ _ _ _ _=>us3 fun _ _ _=>rfl
theorem Txt.oh:Yb K t.Ed ["self"] []:=T.Ah.binds fun _ _ _ _ _ _=>us1 fun _=>rfl
theorem Txt.bu:Yb K t.Kg ["self","crossing","rows"] []:=T.Mm.binds fun _ _ _ _ _ _=>us3 fun _ _ _=>rfl
theorem Txt.Nn:Yb K t.Tg ["self","kind","name","start","end","off","near","least"] []:=T.Ys.binds fun _ _ _ _ _ _=>us8 fun _ _ _ _ _ _ _ _=>rfl
theorem Txt.Hu:Yb K t.Mg ["self","name","start","end","off","near","least"] []:=T.km.binds fun _ _ _ _ _ _=>us7 fun _ _ _ _ _ _ _=>rfl
theorem Txt.Jr:Yb K t.Yh ["self"] []:=T.Il.binds fun _ _ _ _ _ _=>us1 fun _=>rfl
theorem Txt.Eu:Yb K t.Wi ["self"] []:=T.jm.binds fun _ _ _ _ _ _=>us1 fun _=>rfl
theorem Txt.zr:Yb K t.Tf ["self","name","start","end","off","near","least"] []:=T.dl.binds fun _ _ _ _ _ _=>us7 fun _ _ _ _ _ _ _=>rfl
theorem Txt.Uq:Yb K t.fh ["self"] []:=T.Uj.binds fun _ _ _ _ _ _=>us1 fun _=>rfl
theorem Txt.Xr:Yb K t.ii ["self"] []:=T.Al.binds fun _ _ _ _ _ _=>us1 fun _=>rfl
theorem Txt.Ar:Yb K t.Pf ["self","name","start","end","off","near","least"] []:=T.Cl.binds fun _ _ _ _ _ _=>us7 fun _ _ _ _ _ _ _=>rfl
theorem Txt.Nq:Yb K t.dh ["self"] []:=T.zk.binds fun _ _ _ _ _ _=>us1 fun _=>rfl
theorem Txt.Yq:Yb K t.Vh ["self"] []:=T.zl.binds fun _ _ _ _ _ _=>us1 fun _=>rfl
theorem Txt.Iq:Yb K t.uf ["self","places","ways"] []:=T.Lj.binds fun _ _ _ _ _ _=>us3 fun _ _ _=>rfl
theorem Txt.rg:Yb K t.Cd ["self"] []:=T.yj.binds fun _ _ _ _ _ _=>us1 fun _=>rfl
theorem Txt.Jn:Yb K t.Ie ["self","name"] []:=T.Hi.binds fun _ _ _ _ _ _=>us2 fun _ _=>rfl
theorem Txt.Hc:Yb K t.Gc ["self","name"] []:=T.ni.binds fun _ _ _ _ _ _=>us2 fun _ _=>rfl
theorem Txt.Zo:Zu K t.Vc:=ou T.VB T.Ew
theorem Txt.zy:Zu K t.Nd:=ou T.FG T.Gz
theorem Txt.Au:Zu K t.Bd:=ou T.LF T.uz
theorem Txt.Fq:Zu K t.ud:=ou T.kG T.Iz
end
noncomputable def og (ns:List Int) (k m:Int):Int:=
 ((((if 0 < (ns.length:Int) then ns.getD (k % (ns.length:Int)).toNat 0 else 0) % 1000003 + 31 * k * k + 1) * 48271 % 999983 * 7919) % 524287) % m
theorem Md (ns:List Int) (k:Int) {m:Int} (h:0 < m):0 ≤ og ns k m:=Int.emod_nonneg _ (by omega)
theorem Od (ns:List Int) (k:Int) {m:Int} (h:0 < m):og ns k m < m:=Int.emod_lt_of_pos _ h
noncomputable def De (K:PySem.W.Frag) (a:Addr) (ns:List Int):Sp:=fun vs H Q _=>∃ k m,vs=[.ref a,.int k,.int m]∧Sc K a ns H∧(0 ≤ k∧k < 1000000)∧0 < m∧Q (.int (og ns k m)) H
section
variable {P:Program} {w:World} {K:PySem.W.Frag} {mg:Str→Option Value} {base:Heap} {t:Adr}
theorem JC (T:Txt w K mg t) (a:Addr) (ns:List Int) (h63:ns.length ≤ 63):Jb P w K mg base CX0 1 t.Te t.Ue ["_law_script","_law_k","_law_many"] (De K a ns):=by
 refine T.Ab.ok Ye (fun vs H Q E h=>?_) (fun cdv A outer s H vs Q E hr h=>?_)
 ·obtain ⟨k,m,rfl,_⟩:=h;rfl
 obtain ⟨k,m,rfl,S,⟨h0,h1⟩,hm,q⟩:=h
 refine ⟨_,(fb (Eb (i:=3) Ye.nd rfl (Or.inl rfl) (Ou (ac oy (nc Lb rfl T.Xh fc (cb (pv 0) gb)) jb (gc _)) (lc bc (pv 0) (Nb jg (pv 1) (nc Lb rfl T.Xh fc (cb (pv 0) gb))) (fun _ _=>rfl)) jb))
   (fb (Eb (i:=4) Ye.nd rfl (Or.inl rfl) (Nb Wc (Nb Wc (Nb jg (pv 3) jb) (Nb mh (Nb mh jb (pv 1)) (pv 1))) jb))
   (ib (Kb (Nb jg (Nb jg (Nb mh (Nb jg (Nb mh (pv 4) jb) jb) jb) jb) (pv 2)))))),?_⟩
 (walk_at "RD")
 refine ⟨_,.inl S.seq,?_⟩
 rw [List.length_map]
 have hkk:(0:Int) ≤ k * k∧k * k < 1000000 * 1000000:=⟨Int.mul_nonneg h0 h0,Int.mul_lt_mul' (by omega) h1 h0 (by decide)⟩
 have fin:∀ i:Int,(0:Int) < 1000003∧TD 31 k∧TD (31 * k) k∧TD (i % 1000003 + 31 * k * k + 1) 48271∧(0:Int) < 999983∧TD ((i % 1000003 + 31 * k * k + 1) * 48271 % 999983) 7919∧(0:Int) < 524287∧0 < m:=by
  intro i
  refine ⟨by decide,.inl (by decide),.inr (by omega),.inr (by decide),by decide,.inr (by decide),by decide,hm⟩
 by_cases c:(0:Int) < (ns.length:Int)
 ·rw [if_pos (decide_eq_true c)]
  have hk:0 ≤ k % (ns.length:Int)∧k % (ns.length:Int) < (ns.length:Int):=⟨Int.emod_nonneg _ (by omega),Int.emod_lt_of_pos _ c⟩
  refine ⟨_,.inl S.seq,by rw [List.length_map];exact c,_,S.seq,?_⟩
  rw [List.length_map]
  have hj:(k % (ns.length:Int)).toNat < ns.length:=by omega
  refine ⟨.int ns[(k % (ns.length:Int)).toNat],?_,_,rfl,?_⟩
  ·have e:=Fb (xs:=ns.map V.int) (j:=(k % (ns.length:Int)).toNat) (v:=.int ns[(k % (ns.length:Int)).toNat]) (by rw [List.getElem?_map,List.getElem?_eq_getElem hj] <;> rfl)
   rwa [Int.toNat_of_nonneg hk.1] at e
  ·obtain ⟨f1,f2,f3,f4,f5,f6,f7,f8⟩:=fin ns[(k % (ns.length:Int)).toNat]
   refine ⟨f1,f2,f3,f4,f5,f6,f7,f8,?_⟩
   have e:og ns k m=(((ns[(k % (ns.length:Int)).toNat] % 1000003 + 31 * k * k + 1) * 48271 % 999983 * 7919) % 524287) % m:=by
    unfold og
    rw [if_pos c,List.getD_eq_getElem?_getD,List.getElem?_eq_getElem hj]
    rfl
   rw [← e];exact q
 ·rw [if_neg (by simpa using c)]
  obtain ⟨f1,f2,f3,f4,f5,f6,f7,f8⟩:=fin 0
  refine ⟨f1,f2,f3,f4,f5,f6,f7,f8,?_⟩
  have e:og ns k m=(((0 % 1000003 + 31 * k * k + 1) * 48271 % 999983 * 7919) % 524287) % m:=by
   unfold og
   rw [if_neg c]
  rw [← e];exact q
end
theorem vM {w:Str}:w=Str.ofString "" ↔ w.length=0:=by
 constructor
 ·rintro rfl;decide +kernel
 ·intro h
  have e:w.cps=#[]:=Array.eq_empty_of_size_eq_zero h
  have e2:(Str.ofString "").cps=#[]:=by decide +kernel
  cases w
  cases h2:Str.ofString ""
  rw [h2] at e2
  simp only at e e2
  rw [e,e2]
noncomputable def inL (sg:Str) (c:Nat):Bool:=!(Builtin.Str.occurrences sg (Yu c) 0 sg.length 1).isEmpty
theorem vy (sg:Str) (c:Nat):inL sg c=decide (c ∈ sg.cps.toList):=StrLaws.found_one sg c
noncomputable def made (w sg:Str) (m:Int):Bool:=if w=Str.ofString "" then false else if m < (w.length:Int) then false else w.cps.toList.all (inL sg)
noncomputable def Gq:Sp:=fun vs H Q _=>∃ w sg m,vs=[.str w,.str sg,.int m]∧w.length ≤ 1000∧NoT H∧Q (.bl (made w sg m)) H
noncomputable def KG:Sp:=fun vs H Q _=>∃ w sg m,vs=[.str w,.str sg,.int m]∧w.length ≤ 1000∧∀ H',Vb H H'→Q (.bl (made w sg m)) H'
section
variable {P:Program} {w:World} {K:PySem.W.Frag} {mg:Str→Option Value} {base:Heap} {t:Adr}
theorem XC (T:Txt w K mg t):Jb P w K mg base CX0 1 t.ng t.kg ["word","signs","most"] Gq:=by
 refine Jb.forget (sp:=KG) ?_ fun vs H Q E h=>?_
 ·refine T.Kh.ok Jt (fun vs H Q E h=>?_) (fun cdv A outer s H vs Q E hr h=>?_)
  ·obtain ⟨w,sg,m,rfl,_⟩:=h;rfl
  obtain ⟨w,sg,m,rfl,hz,q⟩:=h
  have hz':w.length ≤ sizeLine:=Nat.le_trans hz (by decide)
  refine ⟨_,(fb (Ge (PW.pt (Wz (ac zg (pv 0) ic (gc _)) (Pw (ac oy (nc uw rfl T.Xh fc (cb (pv 0) gb)) (pv 2) (gc _))))) (ib (Kb Ev)) Ec)
   (ib (Kb (nc (bH rfl) rfl T.SM gB (cb (Td rfl (gM (pv 0)) (Bc (sc:=qb Zj) rfl (by decide +kernel)) (N:=["sign","signs"]) (sel:=[none,some 1]) (Uc (M:=["word","signs","most"]) (by decide +kernel)) (Blk.of (fun _ _ _ _=>(zb (i:=0) (Je (N:=["sign","signs"]) (by decide +kernel) rfl) rfl (Or.inl rfl))) (fun _ _ _ _=>⟨_,Ee,by first | rfl | (dsimp only [Cx.block];done) | (dsimp only [Cx.block];exact rfl)⟩) (fun _ _ _ _=>⟨_,(Pd VC (pv 0) (pv 1) (by with_unfolding_all rfl)),by first | rfl | (dsimp only [Cx.block];done) | (dsimp only [Cx.block];exact rfl)⟩))) gb))))),?_⟩
  (walk_at "RD")
  refine Zb (decide (w=Str.ofString "") || decide (m < (w.length:Int))) (fun Q hQ=>?_) (fun hb=>?_) (fun hb=>?_)
  ·(walk_at "RD")
   by_cases c:w=Str.ofString ""
   ·rw [if_pos (decide_eq_true c)]
    rw [decide_eq_true c,Bool.true_or] at hQ
    exact hQ
   ·rw [if_neg (by simpa using c)]
    rw [decide_eq_false c,Bool.false_or] at hQ
    exact ⟨hz',hQ⟩
  ·(walk_at "RD")
   have e:made w sg m=false:=by
    unfold made
    simp only [Bool.or_eq_true,decide_eq_true_eq] at hb
    by_cases c:w=Str.ofString ""
    ·rw [if_pos c]
    ·rw [if_neg c,if_pos (hb.resolve_left c)]
   have:=q H (Vb.refl H)
   rw [e] at this
   exact this
  ·(walk_at "RD")
   have e:made w sg m=w.cps.toList.all (inL sg):=by
    unfold made
    simp only [Bool.or_eq_false_iff,decide_eq_false_iff_not] at hb
    rw [if_neg hb.1,if_neg hb.2]
   refine ad.its_map (fun x=>match x with | .str y=>.bl (!(Builtin.Str.occurrences sg y 0 sg.length 1).isEmpty) | _=>.non) (by rw [Tm];exact hz') (fun i x N hx hN=>?_) (fun p hp=>?_)
   ·unfold zj at hx
    rw [List.getElem?_map] at hx
    cases hc:w.cps.toList[i]? with
    | none=>rw [hc] at hx;cases hx
    | some c=>
     rw [hc] at hx
     have hx':V.str (Yu c)=x:=Option.some.inj hx
     subst hx'
     (walk_at "RD")
     exact ⟨Sub.name,hN⟩
   ·refine ⟨p,rfl,w.cps.toList.map (inL sg),SqL.of ?_,?_⟩
    ·rw [db]
     unfold zj
     rw [List.map_map,List.map_map]
     rfl
    ·have:=q (upd H p (.lst (List.map (fun x=>match x with | .str y=>.bl (!(Builtin.Str.occurrences sg y 0 sg.length 1).isEmpty) | _=>.non) (zj w)))) (pb hp)
     rw [e] at this
     rw [List.all_map]
     exact this
 ·obtain ⟨w,sg,m,e,hz,nt,q⟩:=h
  exact ⟨nt,w,sg,m,e,hz,fun H' sm=>⟨sm,q⟩⟩
end
noncomputable abbrev wI:Str:=Str.ofString "0123456789"
noncomputable def Lo (c:Nat):Bool:=decide (48 ≤ c∧c ≤ 57)
theorem dD:wI.cps.toList=[48,49,50,51,52,53,54,55,56,57]:=by decide +kernel
theorem VF (c:Nat):inL wI c=Lo c:=by
 rw [vy,dD]
 unfold Lo
 rw [Bool.eq_iff_iff]
 simp only [decide_eq_true_eq,List.mem_cons,List.not_mem_nil,or_false]
 omega
noncomputable abbrev cs (w:Str):List Nat:=w.cps.toList
theorem GD (w:Str):(cs w).length=w.length:=by simp [cs,Str.length]
noncomputable def okB (w:Str):Bool:=decide (1 ≤ (cs w).length) && decide ((cs w).length ≤ 3) && (cs w).all Lo && (decide ((cs w).length ≤ 1) || decide ((cs w).headD 0 ≠ 48))
noncomputable abbrev val (w:Str):Int:=((NumText.digitsVal (cs w):Nat):Int)
noncomputable def Cs (w:Str) (lo hi:Int):V:=if okB w && !(decide (val w < lo) || decide (hi < val w)) then .int (val w) else .non
theorem mD {w:Str} {c:Nat}:w=⟨#[c]⟩↔cs w=[c]:=by
 constructor
 ·rintro rfl;rfl
 ·intro h
  cases w with
  | mk a=>
   have e:a=#[c]:=Array.toList_inj.mp h
   rw [e]
theorem ny:Str.ofString "0"=⟨#[48]⟩:=by decide +kernel
theorem Qv (w:Str):made w wI 3=(decide (1 ≤ (cs w).length) && decide ((cs w).length ≤ 3) && (cs w).all Lo):=by
 unfold made
 have e:(inL wI)=Lo:=funext VF
 rw [e]
 by_cases h1:w=Str.ofString ""
 ·have h2:=vM.mp h1
  rw [if_pos h1,GD,h2];rfl
 ·have h2:¬ w.length=0:=fun z=>h1 (vM.mpr z)
  rw [if_neg h1,GD]
  by_cases h3:(3:Int) < (w.length:Int)
  ·rw [if_pos h3,decide_eq_false (show ¬ w.length ≤ 3 by omega),Bool.and_false,Bool.false_and]
  ·rw [if_neg h3,decide_eq_true (show 1 ≤ w.length by omega),decide_eq_true (show w.length ≤ 3 by omega)];rfl
theorem ku {l:List Nat} (h:l.all Lo=true):NumText.AllDigits l:=fun c hc=>by
 have:=List.all_eq_true.mp h c hc
 simpa [Lo] using this
theorem SK {w:Str} (h:okB w=true):(1 ≤ (cs w).length∧(cs w).length ≤ 3)∧(cs w).all Lo=true:=by
 unfold okB at h
 simp only [Bool.and_eq_true,decide_eq_true_eq] at h
 exact h.1
noncomputable def fD:Sp:=fun vs H Q _=>∃ w,vs=[.str w,.int 3]∧w.length ≤ 1000∧NoT H∧Q (.bl (okB w)) H
noncomputable def YC:Sp:=fun vs H Q _=>∃ w lo hi,vs=[.str w,.int lo,.int hi]∧w.length ≤ 1000∧NoT H∧Q (Cs w lo hi) H
section
variable {P:Program} {w:World} {K:PySem.W.Frag} {mg:Str→Option Value} {base:Heap} {t:Adr}
theorem pK (T:Txt w K mg t):Jb P w K mg base CX0 2 t.Oi t.Si ["word","most_figures"] fD:=by
 have G_is_made_of:Jb P w K mg base CX0 1 t.ng t.kg ["word","signs","most"] Gq:=XC T
 refine T.Ul.ok Av (fun vs H Q E h=>?_) (fun cdv A outer s H vs Q E hr h=>?_)
 ·obtain ⟨w,rfl,_⟩:=h;rfl
 obtain ⟨w,rfl,hz,nt,q⟩:=h
 have hz':w.length ≤ sizeLine:=Nat.le_trans hz (by decide)
 refine ⟨_,(fb (Ge (vt (wj (xb G_is_made_of hr rfl T.Yn T.Kh.kp T.Qn .nil Db (cb (pv 0) (cb (Jf rfl T.sE T.zD) (cb (pv 1) gb)))))) (ib (Kb Ev)) Ec)
   (ib (Kb (uK (Pd zg (pv 0) ic (gc _)) (Iv (Pd wx (lc iE (pv 0) jb (fun _ _=>rfl)) ic (gc _))))))),?_⟩
 refine Zb (!made w wI 3) (fun Q hQ=>?_) (fun hb=>?_) (fun hb=>?_)
 ·(walk_at "RD"; repeat (simp only [Gq];walk_at "RD"))
  exact ⟨hz,nt,hQ⟩
 ·(walk_at "RD")
  have e:okB w=false:=by
   have hb':made w wI 3=false:=by simpa using hb
   rw [Qv] at hb'
   unfold okB
   rw [hb'];rfl
  rw [e] at q
  exact q
 ·have hb':made w wI 3=true:=by simpa using hb
  rw [Qv] at hb'
  rw [Zd]
  dsimp only
  refine RI (.bl (okB w)) (fun Q hQ=>?_) ?_
  case refine_2=>exact q
  (walk_at "RD")
  have hb2:(1 ≤ (cs w).length∧(cs w).length ≤ 3)∧(cs w).all Lo=true:=by
   simpa only [Bool.and_eq_true,decide_eq_true_eq] using hb'
  obtain ⟨c,r,hcr⟩:∃ c r,cs w=c :: r:=by
   cases h:cs w with
   | nil=>rw [h] at hb2;exact absurd hb2.1.1 (by decide)
   | cons c r=>exact ⟨c,r,rfl⟩
  have ok:okB w=(decide ((cs w).length ≤ 1) || decide ((cs w).headD 0 ≠ 48)):=by
   unfold okB
   rw [hb',Bool.true_and]
  by_cases c0:w=Str.ofString "0"
  ·rw [if_pos (decide_eq_true c0)]
   have e:cs w=[48]:=by rw [c0,ny]
   rw [ok,e] at hQ
   exact hQ
  ·rw [if_neg (by simpa using c0)]
   refine ⟨hz',c,?_,?_⟩
   ·have:=Fb (xs:=cs w) (j:=0) (v:=c) (by rw [hcr];rfl)
    exact this
   ·have e2:decide ((⟨#[c]⟩:Str)=Str.ofString "0")=decide (c=48):=by
     rw [ny]
     by_cases h48:c=48
     ·rw [h48];simp
     ·rw [decide_eq_false h48,decide_eq_false]
      intro z
      have z2:=mD.mp z
      exact h48 (List.cons.inj z2).1
    rw [e2]
    have e3:okB w = !decide (c=48):=by
     rw [ok,hcr]
     show (decide ((c :: r).length ≤ 1) || decide (c ≠ 48))=_
     by_cases h48:c=48
     ·have hr:r ≠ []:=fun z=>c0 (by rw [ny];exact mD.mpr (by rw [hcr,z,h48]))
      have:¬ (c :: r).length ≤ 1:=by
       cases r with
       | nil=>exact absurd rfl hr
       | cons d r=>simp
      rw [decide_eq_false this,h48];rfl
     ·rw [decide_eq_true h48,Bool.or_true,decide_eq_false h48];rfl
    rw [← e3]
    exact hQ
theorem IH (T:Txt w K mg t):Jb P w K mg base CX0 3 t.Kj t.xk ["word","low","high"] YC:=by
 have G_is_number:Jb P w K mg base CX0 2 t.Oi t.Si ["word","most_figures"] fD:=pK T
 refine T.Sm.ok dt (fun vs H Q E h=>?_) (fun cdv A outer s H vs Q E hr h=>?_)
 ·obtain ⟨w,lo,hi,rfl,_⟩:=h;rfl
 obtain ⟨w,lo,hi,rfl,hz,nt,q⟩:=h
 refine ⟨_,(fb (Ge (vt (wj (xb G_is_number hr rfl T.xy T.Ul.kp T.Wx .nil Db (cb (pv 0) (cb (Jf rfl T.pr T.xr) gb))))) (ib (Kb Iy)) Ec)
   (fb (Eb (i:=3) dt.nd rfl (Or.inl rfl) (fg uB rfl T.OG Kk (cb (pv 0) gb)))
   (fb (Ge (PW.pt (Wz (ac Bu (pv 3) (pv 1) (gc _)) (Pw (ac oy (pv 3) (pv 2) (gc _))))) (ib (Kb Iy)) Ec)
   (ib (Kb (pv 3)))))),?_⟩
 refine Zb (!okB w) (fun Q hQ=>?_) (fun hb=>?_) (fun hb=>?_)
 ·(walk_at "RD"; repeat (simp only [fD];walk_at "RD"))
  exact ⟨hz,nt,hQ⟩
 ·(walk_at "RD")
  have hb':okB w=false:=by simpa using hb
  have e:Cs w lo hi=.non:=by unfold Cs;rw [hb'];rfl
  rw [e] at q;exact q
 ·have hb':okB w=true:=by simpa using hb
  have h3:(1 ≤ (cs w).length∧(cs w).length ≤ 3)∧(cs w).all Lo=true:=by
   have:=hb'
   unfold okB at this
   simp only [Bool.and_eq_true,decide_eq_true_eq] at this
   exact this.1
  have hl:=GD w
  have hi':intText? w=some (val w):=intText_digits (ku h3.2) (fun z=>by have z':cs w=[]:=z;rw [z'] at h3;exact absurd h3.1.1 (by decide)) (by omega)
  (walk_at "RD")
  refine ⟨val w,hi',by omega,?_⟩
  refine Zb (decide (val w < lo) || decide (hi < val w)) (fun Q hQ=>?_) (fun hc=>?_) (fun hc=>?_)
  ·(walk_at "RD")
   by_cases c:val w < lo
   ·rw [if_pos (decide_eq_true c)]
    rw [decide_eq_true c,Bool.true_or] at hQ
    exact hQ
   ·rw [if_neg (by simpa using c)]
    rw [decide_eq_false c,Bool.false_or] at hQ
    exact hQ
  ·(walk_at "RD")
   have e:Cs w lo hi=.non:=by unfold Cs;rw [hb',hc];rfl
   rw [e] at q;exact q
  ·(walk_at "RD")
   have e:Cs w lo hi=.int (val w):=by unfold Cs;rw [hb',hc];rfl
   rw [e] at q;exact q
end
theorem Tp {n:Nat} (h:n < 1000):n.log2 < 1920:=by
 by_cases h0:n=0
 ·subst h0;decide
 ·rw [Nat.log2_lt h0]
  exact Nat.lt_of_lt_of_le h (Nat.le_trans (show 1000 ≤ 2 ^ 10 by decide) (Nat.pow_le_pow_right (by decide) (by decide)))
theorem tG:∀ n,n < 1000→(Nat.toDigits 10 n).length ≤ 3:=by decide +kernel
theorem cq {n:Int} (h0:0 ≤ n) (h1:n ≤ 999):(Str.ofString (toString n)).length ≤ 3:=by
 have e:=PySem.W.KIN.signs_num n.toNat
 rw [Int.toNat_of_nonneg h0] at e
 have l:(Str.ofString (toString n)).length=(Str.ofString (toString n)).cps.toList.length:=by simp [Str.length]
 rw [l,e,List.length_map]
 exact tG _ (by omega)
noncomputable abbrev lh:Str:=Str.ofString "abcdefghijklmnopqrstuvwxyz"
noncomputable def KC:Sp:=fun vs H Q _=>∃ w,vs=[.str w]∧w.length ≤ 1000∧NoT H∧Q (.bl (made w lh 8)) H
section
variable {P:Program} {w:World} {K:PySem.W.Frag} {mg:Str→Option Value} {base:Heap} {t:Adr}
theorem SJ (T:Txt w K mg t):Jb P w K mg base CX0 2 t.Bm t.bn ["word"] KC:=by
 have G_is_made_of:Jb P w K mg base CX0 1 t.ng t.kg ["word","signs","most"] Gq:=XC T
 refine T.Gp.ok eA (fun vs H Q E h=>?_) (fun cdv A outer s H vs Q E hr h=>?_)
 ·obtain ⟨w,rfl,_⟩:=h;rfl
 obtain ⟨w,rfl,hz,nt,q⟩:=h
 refine ⟨_,(ib (Kb (xb G_is_made_of hr rfl T.Yn T.Kh.kp T.Qn .nil Db (cb (pv 0) (cb (Jf rfl T.DD T.yD) (cb (Jf rfl T.Vr T.js) gb)))))),?_⟩
 (walk_at "RD"; repeat (simp only [Gq];walk_at "RD"))
 exact ⟨hz,nt,q⟩
end
noncomputable abbrev nl:Str:=Str.ofString "\n"
noncomputable abbrev bk:Str:=Str.ofString " "
theorem cN:nl=⟨#[10]⟩:=by decide +kernel
theorem YF:bk=⟨#[32]⟩:=by decide +kernel
noncomputable def ke (x:Str):List (List Str):=(Txt.split x nl).map fun r=>Txt.split r bk
theorem At:∀ {ys:List Str} {y:Str},y ∈ ys→y.length ≤ (ys.map (·.length)).sum
 | [],_,h=>nomatch h
 | a :: r,y,h=>by
  rw [List.map_cons,List.sum_cons]
  rcases List.mem_cons.mp h with rfl | h
  ·omega
  ·have:=At h;omega
theorem IJ {x y r:Str} (hy:1 ≤ y.length) (h:r ∈ Txt.split x y):r.length ≤ x.length + 1:=by
 have h1:=PyProof.Rows.split_weight x y hy
 have h2:=At h
 omega
theorem Ep {x y:Str} (hy:1 ≤ y.length):(Txt.split x y).length ≤ x.length + 1:=by
 have h1:=PyProof.Rows.split_weight x y hy
 omega
theorem vF (x y:Str):Txt.split x y ≠ []:=by
 unfold Txt.split
 split
 ·simp
 ·split
  ·simp
  ·rw [StrLaws.partsBetween_eq]
   obtain ⟨p,r,e⟩:=StrLaws.partsFrom_ne x y.length 0 (Builtin.Str.occurrences x y 0 x.length (x.length + 1))
   rw [e];simp
noncomputable def LL (H0 H:Hp) (p:Addr) (rows:List (List Str)):Prop:=∃ qs:List Addr,H p=some (.lst (qs.map V.ref))∧H0 p=none∧p ∉ qs∧qs.length=rows.length∧∀ (i:Nat) (q:Addr) (r:List Str),qs[i]? = some q→rows[i]? = some r→H q=some (.lst (wb r))∧H0 q=none
noncomputable def Ry:Sp:=fun vs H Q _=>∃ x,vs=[.str x]∧x.length ≤ 20000∧NoT H∧∀ p H',Vb H H'→NoT H'→LL H H' p (ke x)→Q (.ref p) H'
theorem Gv:nl.length=1:=by decide +kernel
theorem Sn:bk.length=1:=by decide +kernel
section
variable {P:Program} {w:World} {K:PySem.W.Frag} {mg:Str→Option Value} {base:Heap} {t:Adr}
theorem gG (T:Txt w K mg t):Jb P w K mg base CX0 1 t.Et t.uu ["text"] Ry:=by
 refine T.Hx.ok QG (fun vs H Q E h=>?_) (fun cdv A outer s H vs Q E hr h=>?_)
 ·obtain ⟨x,rfl,_⟩:=h;rfl
 obtain ⟨x,rfl,hz,nt,q⟩:=h
 have hzz:∀ n:Nat,n ≤ 40000→n ≤ sizeLine:=fun n h=>Nat.le_trans h (by decide)
 refine ⟨_,(ib (Kb (Td rfl (Kc (Df PySem.F.plainAttrs_str PySem.F.slot_str_split PySem.F.type_str_split zz (pv 0) (cb ic gb))) (Bc (sc:=qb Vx) rfl (by decide +kernel)) (N:=["row"]) (sel:=[none]) (Uc (M:=["text"]) (by decide +kernel)) (Blk.of (fun _ _ _ _=>(zb (i:=0) (Je (N:=["row"]) (by decide +kernel) rfl) rfl (Or.inl rfl))) (fun _ _ _ _=>⟨_,Ee,by first | rfl | (dsimp only [Cx.block];done) | (dsimp only [Cx.block];exact rfl)⟩) (fun _ _ _ _=>⟨_,(Df PySem.F.plainAttrs_str PySem.F.slot_str_split PySem.F.type_str_split zz (pv 0) (cb ic gb)),by first | rfl | (dsimp only [Cx.block];done) | (dsimp only [Cx.block];exact rfl)⟩))))),?_⟩
 (walk_at "RD")
 have hy:1 ≤ nl.length:=by rw [Gv];exact Nat.le_refl _
 have hy2:1 ≤ bk.length:=by rw [Sn];exact Nat.le_refl _
 have hs:=Ep (x:=x) hy
 have hs':(wb (Txt.split x nl)).length ≤ sizeLine:=by unfold wb;rw [List.length_map];exact hzz _ (by omega)
 refine ⟨by rw [Gv];decide,hzz _ (by omega),hzz _ (show (Txt.split x nl).length ≤ 40000 by omega),fun p hp=>⟨⟨_,SqL.of db⟩,?_⟩⟩
 refine ad.list_mk (xs:=wb (Txt.split x nl)) (fun v=>match v with | .str r=>.lst (wb (Txt.split r bk)) | _=>.lst []) (SqL.of db) hs' (fun v=>by cases v <;> rfl) (fun i v H1 N hx sm nt1 hN=>?_) (fun qs H1 sm nt1 hl al p2 hp2=>?_)
 ·unfold wb at hx
  rw [List.getElem?_map] at hx
  cases hr:(Txt.split x nl)[i]? with
  | none=>rw [hr] at hx;cases hx
  | some r=>
   rw [hr] at hx
   have e:=Option.some.inj hx
   subst e
   have hm:=IJ hy (List.mem_of_getElem? hr)
   have hs2:=Ep (x:=r) hy2
   (walk_at "RD")
   exact ⟨Sub.name,by rw [Sn];decide,hzz _ (by omega),hzz _ (show (Txt.split r bk).length ≤ 40000 by omega),hN⟩
 ·have sm0:Vb H H1:=(pb hp).trans sm
  refine q _ _ (sm0.updN (sm0.free hp2)) ((nt1 (nt.upd)).upd) ⟨qs,db,sm0.free hp2,fun hm=>?_,?_,fun i q' r h1 h2=>?_⟩
  ·obtain ⟨j,hj,e⟩:=List.getElem_of_mem hm
   have hj2:j < (wb (Txt.split x nl)).length:=by omega
   have:=al j p2 _ (by rw [List.getElem?_eq_getElem hj,e]) (List.getElem?_eq_getElem hj2)
   rw [hp2] at this
   cases this.1
  ·rw [hl];unfold ke wb;rw [List.length_map,List.length_map]
  ·unfold ke at h2
   rw [List.getElem?_map] at h2
   cases hr:(Txt.split x nl)[i]? with
   | none=>rw [hr] at h2;cases h2
   | some r0=>
    rw [hr] at h2
    have e:=Option.some.inj h2
    subst e
    have z:=al i q' (.str r0) h1 (by unfold wb;rw [List.getElem?_map,hr];rfl)
    refine ⟨by rw [lb (vb z.1 hp2)];exact z.1,?_⟩
    have:=z.2
    by_cases hq:q'=p
    ·rw [hq];exact hp
    ·rwa [lb hq] at this
end
end My
namespace My
open PySem L2
structure WD where
 k:Nat
 name:Str
 start:Int
 fin:Int
 off:Int
 near:Int
 least:Int
noncomputable def kd:Nat→Str
 | 0=>Str.ofString "car"
 | 1=>Str.ofString "foot"
 | _=>Str.ofString "tram"
noncomputable def Adr.cw (t:Adr):Nat→Addr
 | 0=>t.jd
 | 1=>t.Lc
 | _=>t.Mc
noncomputable def Hr (d:WD):List (Str × V):=[(Str.ofString "kind",.str (kd d.k)),(Str.ofString "name",.str d.name),(Str.ofString "start",.int d.start),(Str.ofString "end",.int d.fin),(Str.ofString "off",.int d.off),(Str.ofString "near",.int d.near),(Str.ofString "least",.int d.least)]
noncomputable abbrev Cr:List Str:=[Str.ofString "kind",Str.ofString "name",Str.ofString "start",Str.ofString "end",Str.ofString "off",Str.ofString "near",Str.ofString "least"]
theorem bt (d:WD):(Hr d).map (·.1)=Cr:=rfl
noncomputable def ve (t:Adr) (H:Hp) (p:Addr) (d:WD):Prop:=d.k < 3∧∃ dx,H p=some (.ins (t.cw d.k) dx (Hr d))
theorem ve.same {t:Adr} {H H':Hp} {p:Addr} {d:WD} (h:ve t H p d) (s:Vb H H'):ve t H' p d:=⟨h.1,h.2.imp fun dx e=>s _ _ e⟩
noncomputable def isW (t:Adr) (C:Addr):Prop:=∃ k,k < 3∧C=t.cw k
noncomputable def Dg (d:WD):Int:=match d.k with | 0=>1 | 1=>0 | _=>2
noncomputable def Tk (d:WD):Int:=match d.k with | 0=>2 | 1=>d.off | _=>1
section
variable {w:World} {K:PySem.W.Frag} {mg:Str→Option Value} {t:Adr}
theorem Txt.clw (T:Txt w K mg t):∀ k,Cls K (t.cw k)
 | 0=>T.Bp
 | 1=>T.On
 | _ + 2=>T.Pn
theorem Txt.naw (T:Txt w K mg t) {f:Str} (hf:f ∈ Cr):∀ k,Ib K (t.cw k) f:=by
 intro k
 simp only [Cr,List.mem_cons,List.not_mem_nil,or_false] at hf
 rcases hf with rfl | rfl | rfl | rfl | rfl | rfl | rfl
 ·match k with
  | 0=>exact T.Er
  | 1=>exact T.vp
  | _ + 2=>exact T.Fp
 ·match k with
  | 0=>exact T.ir
  | 1=>exact T.rp
  | _ + 2=>exact T.up
 ·match k with
  | 0=>exact T.vq
  | 1=>exact T.Jo
  | _ + 2=>exact T.Go
 ·match k with
  | 0=>exact T.lu
  | 1=>exact T.lr
  | _ + 2=>exact T.br
 ·match k with
  | 0=>exact T.wu
  | 1=>exact T.Zr
  | _ + 2=>exact T.ls
 ·match k with
  | 0=>exact T.Rr
  | 1=>exact T.Mp
  | _ + 2=>exact T.Hq
 ·match k with
  | 0=>exact T.gq
  | 1=>exact T.Co
  | _ + 2=>exact T.Ho
theorem Txt.cw_inj (T:Txt w K mg t) {j k:Nat} (hj:j < 3) (hk:k < 3) (e:t.cw j=t.cw k):j=k:=by
 match j,k,hj,hk with
 | 0,0,_,_=>rfl
 | 0,1,_,_=>exact absurd e T.Di
 | 0,2,_,_=>exact absurd e T.ti
 | 1,0,_,_=>exact absurd e.symm T.Di
 | 1,1,_,_=>rfl
 | 1,2,_,_=>exact absurd e T.Fh
 | 2,0,_,_=>exact absurd e.symm T.ti
 | 2,1,_,_=>exact absurd e.symm T.Fh
 | 2,2,_,_=>rfl
 | j + 3,_,h,_=>omega
 | _,k + 3,_,h=>omega
theorem ve.fld (T:Txt w K mg t) {H:Hp} {p:Addr} {d:WD} (h:ve t H p d) {f:Str} {v:V} (i:Nat) (hi:Cr.findIdx? (· == f)=some i) (hv:(Hr d)[i]? = some (f,v)):Li K H p f v:=by
 obtain ⟨_,dx,e⟩:=h
 have hm:f ∈ Cr:=by
  obtain ⟨hlt,h1,_⟩:=List.findIdx?_eq_some_iff_getElem.mp hi
  have:Cr[i]=f:=by simpa using h1
  rw [← this];exact List.getElem_mem hlt
 exact ⟨_,dx,_,e,T.clw _,T.naw hm _,Kd Cr i (bt d) hi hv⟩
theorem ve.f_kind (T:Txt w K mg t) {H:Hp} {p:Addr} {d:WD} (h:ve t H p d):Li K H p (Str.ofString "kind") (.str (kd d.k)):=h.fld T 0 (by decide +kernel) rfl
theorem ve.f_name (T:Txt w K mg t) {H:Hp} {p:Addr} {d:WD} (h:ve t H p d):Li K H p (Str.ofString "name") (.str d.name):=h.fld T 1 (by decide +kernel) rfl
theorem ve.f_start (T:Txt w K mg t) {H:Hp} {p:Addr} {d:WD} (h:ve t H p d):Li K H p (Str.ofString "start") (.int d.start):=h.fld T 2 (by decide +kernel) rfl
theorem ve.f_end (T:Txt w K mg t) {H:Hp} {p:Addr} {d:WD} (h:ve t H p d):Li K H p (Str.ofString "end") (.int d.fin):=h.fld T 3 (by decide +kernel) rfl
theorem ve.f_off (T:Txt w K mg t) {H:Hp} {p:Addr} {d:WD} (h:ve t H p d):Li K H p (Str.ofString "off") (.int d.off):=h.fld T 4 (by decide +kernel) rfl
theorem ve.f_near (T:Txt w K mg t) {H:Hp} {p:Addr} {d:WD} (h:ve t H p d):Li K H p (Str.ofString "near") (.int d.near):=h.fld T 5 (by decide +kernel) rfl
theorem ve.f_least (T:Txt w K mg t) {H:Hp} {p:Addr} {d:WD} (h:ve t H p d):Li K H p (Str.ofString "least") (.int d.least):=h.fld T 6 (by decide +kernel) rfl
end
noncomputable def qu (t:Adr):Sp:=fun vs H Q _=>∃ (p dx:Addr) (d:WD),vs=[.ref p,.str (kd d.k),.str d.name,.int d.start,.int d.fin,.int d.off,.int d.near,.int d.least]∧d.k < 3∧H p=some (.ins (t.cw d.k) dx [])∧Q .non (upd H p (.ins (t.cw d.k) dx (Hr d)))
noncomputable def Bk (t:Adr) (k:Nat):Sp:=fun vs H Q _=>∃ (p dx:Addr) (d:WD),vs=[.ref p,.str d.name,.int d.start,.int d.fin,.int d.off,.int d.near,.int d.least]∧d.k=k∧H p=some (.ins (t.cw d.k) dx [])∧Q .non (upd H p (.ins (t.cw d.k) dx (Hr d)))
section
variable {P:Program} {w:World} {K:PySem.W.Frag} {mg:Str→Option Value} {base:Heap} {t:Adr}
theorem Ox (T:Txt w K mg t):Jb P w K mg base CX0 1 t.Ef t.Tg ["self","kind","name","start","end","off","near","least"] (qu t):=by
 refine T.Ys.ok Jq (fun vs H Q E h=>?_) (fun cdv A outer s H vs Q E hr h=>?_)
 ·obtain ⟨p,dx,d,rfl,_⟩:=h;rfl
 obtain ⟨p,dx,d,rfl,hk,hp,q⟩:=h
 refine ⟨_,(fb (Pe (pv 0) (pv 1) rfl)
   (fb (Pe (pv 0) (pv 2) rfl)
   (fb (Pe (pv 0) (pv 3) rfl)
   (fb (Pe (pv 0) (pv 4) rfl)
   (fb (Pe (pv 0) (pv 5) rfl)
   (fb (Pe (pv 0) (pv 6) rfl)
   (ib (Pe (pv 0) (pv 7) rfl)))))))),?_⟩
 (walk_at "RD")
 have na:∀ {f:Str},f ∈ Cr→Ib K (t.cw d.k) f:=fun hf=>T.naw hf d.k
 refine ⟨_,_,_,hp,T.clw _,na (by decide +kernel),by decide,?_⟩
 refine ⟨_,_,_,db,T.clw _,na (by decide +kernel),Ko (n:=999) (by decide),?_⟩
 refine ⟨_,_,_,db,T.clw _,na (by decide +kernel),Ko (n:=999) (Ko (n:=998) (by decide)),?_⟩
 refine ⟨_,_,_,db,T.clw _,na (by decide +kernel),Ko (n:=999) (Ko (n:=998) (Ko (n:=997) (by decide))),?_⟩
 refine ⟨_,_,_,db,T.clw _,na (by decide +kernel),Ko (n:=999) (Ko (n:=998) (Ko (n:=997) (Ko (n:=996) (by decide)))),?_⟩
 refine ⟨_,_,_,db,T.clw _,na (by decide +kernel),Ko (n:=999) (Ko (n:=998) (Ko (n:=997) (Ko (n:=996) (Ko (n:=995) (by decide))))),?_⟩
 refine ⟨_,_,_,db,T.clw _,na (by decide +kernel),Ko (n:=999) (Ko (n:=998) (Ko (n:=997) (Ko (n:=996) (Ko (n:=995) (Ko (n:=994) (by decide)))))),?_⟩
 simp only [Wg]
 rw [show yg (Str.ofString "kind") (V.str (kd d.k)) ([]:List (Str × V))=[(Str.ofString "kind",V.str (kd d.k))] from Jc [] rfl (by decide +kernel),
  show yg (Str.ofString "name") (V.str d.name) ([(Str.ofString "kind",V.str (kd d.k))]:List (Str × V))=[(Str.ofString "kind",V.str (kd d.k)),(Str.ofString "name",V.str d.name)] from Jc [Str.ofString "kind"] rfl (by decide +kernel),
  show yg (Str.ofString "start") (V.int d.start) ([(Str.ofString "kind",V.str (kd d.k)),(Str.ofString "name",V.str d.name)]:List (Str × V))=[(Str.ofString "kind",V.str (kd d.k)),(Str.ofString "name",V.str d.name),(Str.ofString "start",V.int d.start)] from Jc [Str.ofString "kind",Str.ofString "name"] rfl (by decide +kernel),
  show yg (Str.ofString "end") (V.int d.fin) ([(Str.ofString "kind",V.str (kd d.k)),(Str.ofString "name",V.str d.name),(Str.ofString "start",V.int d.start)]:List (Str × V))=[(Str.ofString "kind",V.str (kd d.k)),(Str.ofString "name",V.str d.name),(Str.ofString "start",V.int d.start),(Str.ofString "end",V.int d.fin)] from Jc [Str.ofString "kind",Str.ofString "name",Str.ofString "start"] rfl (by decide +kernel),
  show yg (Str.ofString "off") (V.int d.off) ([(Str.ofString "kind",V.str (kd d.k)),(Str.ofString "name",V.str d.name),(Str.ofString "start",V.int d.start),(Str.ofString "end",V.int d.fin)]:List (Str × V))=[(Str.ofString "kind",V.str (kd d.k)),(Str.ofString "name",V.str d.name),(Str.ofString "start",V.int d.start),(Str.ofString "end",V.int d.fin),(Str.ofString "off",V.int d.off)] from Jc [Str.ofString "kind",Str.ofString "name",Str.ofString "start",Str.ofString "end"] rfl (by decide +kernel),
  show yg (Str.ofString "near") (V.int d.near) ([(Str.ofString "kind",V.str (kd d.k)),(Str.ofString "name",V.str d.name),(Str.ofString "start",V.int d.start),(Str.ofString "end",V.int d.fin),(Str.ofString "off",V.int d.off)]:List (Str × V))=[(Str.ofString "kind",V.str (kd d.k)),(Str.ofString "name",V.str d.name),(Str.ofString "start",V.int d.start),(Str.ofString "end",V.int d.fin),(Str.ofString "off",V.int d.off),(Str.ofString "near",V.int d.near)] from Jc [Str.ofString "kind",Str.ofString "name",Str.ofString "start",Str.ofString "end",Str.ofString "off"] rfl (by decide +kernel),
  show yg (Str.ofString "least") (V.int d.least) ([(Str.ofString "kind",V.str (kd d.k)),(Str.ofString "name",V.str d.name),(Str.ofString "start",V.int d.start),(Str.ofString "end",V.int d.fin),(Str.ofString "off",V.int d.off),(Str.ofString "near",V.int d.near)]:List (Str × V))=[(Str.ofString "kind",V.str (kd d.k)),(Str.ofString "name",V.str d.name),(Str.ofString "start",V.int d.start),(Str.ofString "end",V.int d.fin),(Str.ofString "off",V.int d.off),(Str.ofString "near",V.int d.near),(Str.ofString "least",V.int d.least)] from Jc [Str.ofString "kind",Str.ofString "name",Str.ofString "start",Str.ofString "end",Str.ofString "off",Str.ofString "near"] rfl (by decide +kernel)]
 exact q
theorem uI (T:Txt w K mg t):Jb P w K mg base CX0 2 t.ef t.Mg ["self","name","start","end","off","near","least"] (Bk t 0):=by
 have G_Way_init:Jb P w K mg base CX0 1 t.Ef t.Tg ["self","kind","name","start","end","off","near","least"] (qu t):=Ox T
 refine T.km.ok wm (fun vs H Q E h=>?_) (fun cdv A outer s H vs Q E hr h=>?_)
 ·obtain ⟨p,dx,d,rfl,_⟩:=h;rfl
 obtain ⟨p,dx,d,rfl,hk,hp,q⟩:=h
 refine ⟨_,(ib (Qb (du rfl T.zI T.An G_Way_init hr T.Nn .nil Db (cb (pv 0) (cb ic (cb (pv 1) (cb (pv 2) (cb (pv 3) (cb (pv 4) (cb (pv 5) (cb (pv 6) gb))))))))))),?_⟩
 (walk_at "RD")
 exact ⟨p,dx,d,by rw [hk];rfl,by omega,hp,q⟩
theorem UG (T:Txt w K mg t):Jb P w K mg base CX0 2 t.Oe t.Tf ["self","name","start","end","off","near","least"] (Bk t 1):=by
 have G_Way_init:Jb P w K mg base CX0 1 t.Ef t.Tg ["self","kind","name","start","end","off","near","least"] (qu t):=Ox T
 refine T.dl.ok Xl (fun vs H Q E h=>?_) (fun cdv A outer s H vs Q E hr h=>?_)
 ·obtain ⟨p,dx,d,rfl,_⟩:=h;rfl
 obtain ⟨p,dx,d,rfl,hk,hp,q⟩:=h
 refine ⟨_,(ib (Qb (du rfl T.zI T.An G_Way_init hr T.Nn .nil Db (cb (pv 0) (cb ic (cb (pv 1) (cb (pv 2) (cb (pv 3) (cb (pv 4) (cb (pv 5) (cb (pv 6) gb))))))))))),?_⟩
 (walk_at "RD")
 exact ⟨p,dx,d,by rw [hk];rfl,by omega,hp,q⟩
theorem kF (T:Txt w K mg t):Jb P w K mg base CX0 2 t.Le t.Pf ["self","name","start","end","off","near","least"] (Bk t 2):=by
 have G_Way_init:Jb P w K mg base CX0 1 t.Ef t.Tg ["self","kind","name","start","end","off","near","least"] (qu t):=Ox T
 refine T.Cl.ok Yl (fun vs H Q E h=>?_) (fun cdv A outer s H vs Q E hr h=>?_)
 ·obtain ⟨p,dx,d,rfl,_⟩:=h;rfl
 obtain ⟨p,dx,d,rfl,hk,hp,q⟩:=h
 refine ⟨_,(ib (Qb (du rfl T.zI T.An G_Way_init hr T.Nn .nil Db (cb (pv 0) (cb ic (cb (pv 1) (cb (pv 2) (cb (pv 3) (cb (pv 4) (cb (pv 5) (cb (pv 6) gb))))))))))),?_⟩
 (walk_at "RD")
 exact ⟨p,dx,d,by rw [hk];rfl,by omega,hp,q⟩
end
noncomputable def Nj (t:Adr) (C:Addr):Sp:=fun vs H Q _=>∃ p d,vs=[.ref p]∧ve t H p d∧C=t.cw d.k∧Q (.int (Dg d)) H
noncomputable def om (t:Adr) (C:Addr):Sp:=fun vs H Q _=>∃ p d,vs=[.ref p]∧ve t H p d∧C=t.cw d.k∧Q (.int (Tk d)) H
section
variable {P:Program} {w:World} {K:PySem.W.Frag} {mg:Str→Option Value} {base:Heap} {t:Adr}
theorem kq (T:Txt w K mg t):Jb P w K mg base CX0 1 t.Sf t.Yh ["self"] (Nj t (t.cw 0)):=by
 refine T.Il.ok nq (fun vs H Q E h=>?_) (fun cdv A outer s H vs Q E hr h=>?_)
 ·obtain ⟨p,d,rfl,_⟩:=h;rfl
 obtain ⟨p,d,rfl,W,hC,q⟩:=h
 have hk:=(T.cw_inj (by decide) W.1 hC).symm
 refine ⟨_,(ib (Kb jb)),?_⟩
 rw [show Dg d=1 by unfold Dg;simp only [hk]] at q
 (walk_at "RD")
 exact q
theorem No (T:Txt w K mg t):Jb P w K mg base CX0 1 t.ff t.fh ["self"] (Nj t (t.cw 1)):=by
 refine T.Uj.ok Io (fun vs H Q E h=>?_) (fun cdv A outer s H vs Q E hr h=>?_)
 ·obtain ⟨p,d,rfl,_⟩:=h;rfl
 obtain ⟨p,d,rfl,W,hC,q⟩:=h
 have hk:=(T.cw_inj (by decide) W.1 hC).symm
 refine ⟨_,(ib (Kb jb)),?_⟩
 rw [show Dg d=0 by unfold Dg;simp only [hk]] at q
 (walk_at "RD")
 exact q
theorem Bo (T:Txt w K mg t):Jb P w K mg base CX0 1 t.df t.dh ["self"] (Nj t (t.cw 2)):=by
 refine T.zk.ok Mo (fun vs H Q E h=>?_) (fun cdv A outer s H vs Q E hr h=>?_)
 ·obtain ⟨p,d,rfl,_⟩:=h;rfl
 obtain ⟨p,d,rfl,W,hC,q⟩:=h
 have hk:=(T.cw_inj (by decide) W.1 hC).symm
 refine ⟨_,(ib (Kb jb)),?_⟩
 rw [show Dg d=2 by unfold Dg;simp only [hk]] at q
 (walk_at "RD")
 exact q
theorem fJ (T:Txt w K mg t):UI P w K mg base CX0 1 (isW t) "ready" ["self"] (Nj t):=by
 refine ⟨fun C hC=>?_⟩
 obtain ⟨k,hk,rfl⟩:=hC
 match k,hk with
 | 0,_=>exact ⟨_,_,T.Bp,T.Mr,kq T,T.Jr⟩
 | 1,_=>exact ⟨_,_,T.On,T.Dq,No T,T.Uq⟩
 | 2,_=>exact ⟨_,_,T.Pn,T.Qq,Bo T,T.Nq⟩
theorem Br (T:Txt w K mg t):Jb P w K mg base CX0 1 t.Fg t.Wi ["self"] (om t (t.cw 0)):=by
 refine T.jm.ok cr (fun vs H Q E h=>?_) (fun cdv A outer s H vs Q E hr h=>?_)
 ·obtain ⟨p,d,rfl,_⟩:=h;rfl
 obtain ⟨p,d,rfl,W,hC,q⟩:=h
 have hk:=(T.cw_inj (by decide) W.1 hC).symm
 refine ⟨_,(ib (Kb jb)),?_⟩
 rw [show Tk d=2 by unfold Tk;simp only [hk]] at q
 (walk_at "RD")
 exact q
theorem Vp (T:Txt w K mg t):Jb P w K mg base CX0 1 t.Qf t.ii ["self"] (om t (t.cw 1)):=by
 refine T.Al.ok uq (fun vs H Q E h=>?_) (fun cdv A outer s H vs Q E hr h=>?_)
 ·obtain ⟨p,d,rfl,_⟩:=h;rfl
 obtain ⟨p,d,rfl,W,hC,q⟩:=h
 have hk:=(T.cw_inj (by decide) W.1 hC).symm
 refine ⟨_,(ib (Kb (Dc (pv 0) rfl))),?_⟩
 rw [show Tk d=d.off by unfold Tk;simp only [hk]] at q
 (walk_at "RD")
 exact ⟨_,W.f_off T,q⟩
theorem Pp (T:Txt w K mg t):Jb P w K mg base CX0 1 t.Wf t.Vh ["self"] (om t (t.cw 2)):=by
 refine T.zl.ok yq (fun vs H Q E h=>?_) (fun cdv A outer s H vs Q E hr h=>?_)
 ·obtain ⟨p,d,rfl,_⟩:=h;rfl
 obtain ⟨p,d,rfl,W,hC,q⟩:=h
 have hk:=(T.cw_inj (by decide) W.1 hC).symm
 refine ⟨_,(ib (Kb jb)),?_⟩
 rw [show Tk d=1 by unfold Tk;simp only [hk]] at q
 (walk_at "RD")
 exact q
theorem rK (T:Txt w K mg t):UI P w K mg base CX0 1 (isW t) "fade" ["self"] (om t):=by
 refine ⟨fun C hC=>?_⟩
 obtain ⟨k,hk,rfl⟩:=hC
 match k,hk with
 | 0,_=>exact ⟨_,_,T.Bp,T.au,Br T,T.Eu⟩
 | 1,_=>exact ⟨_,_,T.On,T.Ur,Vp T,T.Xr⟩
 | 2,_=>exact ⟨_,_,T.Pn,T.ur,Pp T,T.Yq⟩
end
noncomputable def jl (c:Nat):List (List Nat)→List Nat
 | []=>[]
 | [a]=>a
 | a :: b :: r=>a ++ c :: jl c (b :: r)
theorem FD {c:Nat}:∀ {a b X Y:List Nat},c ∉ a→c ∉ b→a ++ c :: X=b ++ c :: Y→a=b∧X=Y
 | [],[],X,Y,_,_,h=>⟨rfl,(List.cons.inj h).2⟩
 | [],d :: b,X,Y,_,hb,h=>absurd (List.cons.inj h).1 (fun z=>hb (by simp [← z]))
 | d :: a,[],X,Y,ha,_,h=>absurd (List.cons.inj h).1 (fun z=>ha (by simp [z]))
 | d :: a,e :: b,X,Y,ha,hb,h=>by
  obtain ⟨h1,h2⟩:=List.cons.inj h
  obtain ⟨e1,e2⟩:=FD (fun z=>ha (List.mem_cons_of_mem _ z)) (fun z=>hb (List.mem_cons_of_mem _ z)) h2
  exact ⟨by rw [h1,e1],e2⟩
theorem eI {c:Nat}:∀ {ps qs:List (List Nat)},(∀ p ∈ ps,c ∉ p)→(∀ q ∈ qs,c ∉ q)→ps ≠ []→qs ≠ []→jl c ps=jl c qs→ps=qs
 | [a],[b],_,_,_,_,h=>by rw [show a=b from h]
 | [a],b :: b' :: r,ha,_,_,_,h=>absurd (show c ∈ a by rw [show a=b ++ c :: jl c (b' :: r) from h];simp) (ha a (by simp))
 | a :: a' :: r,[b],_,hb,_,_,h=>absurd (show c ∈ b by rw [show b=a ++ c :: jl c (a' :: r) from h.symm];simp) (hb b (by simp))
 | a :: a' :: r,b :: b' :: s,ha,hb,_,_,h=>by
  obtain ⟨e1,e2⟩:=FD (ha a (by simp)) (hb b (by simp)) (show a ++ c :: jl c (a' :: r)=b ++ c :: jl c (b' :: s) from h)
  rw [e1,eI (fun p hp=>ha p (List.mem_cons_of_mem _ hp)) (fun q hq=>hb q (List.mem_cons_of_mem _ hq)) (by simp) (by simp) e2]
 | [],_,_,_,h,_,_=>absurd rfl h
 | _ :: _,[],_,_,_,h,_=>absurd rfl h
theorem mH {c d:Nat}:∀ {ps:List (List Nat)},d ∈ jl c ps→d=c∨∃ p ∈ ps,d ∈ p
 | [],h=>nomatch h
 | [a],h=>.inr ⟨a,by simp,h⟩
 | a :: b :: r,h=>by
  rcases List.mem_append.mp (show d ∈ a ++ c :: jl c (b :: r) from h) with h | h
  ·exact .inr ⟨a,by simp,h⟩
  ·rcases List.mem_cons.mp h with h | h
   ·exact .inl h
   ·rcases mH h with h | ⟨p,hp,h⟩
    ·exact .inl h
    ·exact .inr ⟨p,List.mem_cons_of_mem _ hp,h⟩
theorem Qj (c:Nat):∀ ys:List Str,(Str.join ⟨#[c]⟩ ys).cps.toList=jl c (ys.map (·.cps.toList))
 | []=>rfl
 | [a]=>rfl
 | a :: b :: r=>by
  show (a ++ ⟨#[c]⟩ ++ Str.join ⟨#[c]⟩ (b :: r)).cps.toList=_
  rw [Str.cps_append,Array.toList_append,Str.cps_append,Array.toList_append,Qj c (b :: r)]
  simp [jl]
theorem Fu {x y:Str} (h:x.cps.toList=y.cps.toList):x=y:=by
 cases x;cases y
 exact congrArg Str.mk (Array.toList_inj.mp h)
theorem Ms {c:Nat} {ys:List Str} (hn:ys ≠ []) (hf:∀ y ∈ ys,c ∉ y.cps.toList):Txt.split (Str.join ⟨#[c]⟩ ys) ⟨#[c]⟩=ys:=by
 have e:=congrArg (·.cps.toList) (StrLaws.join_split (Str.join ⟨#[c]⟩ ys) ⟨#[c]⟩)
 simp only [Qj] at e
 have e2:=eI (c:=c) (ps:=(Txt.split (Str.join ⟨#[c]⟩ ys) ⟨#[c]⟩).map (·.cps.toList)) (qs:=ys.map (·.cps.toList)) (fun p hp=>by
  obtain ⟨y,hy,rfl⟩:=List.mem_map.mp hp
  exact StrLaws.split_free _ c y hy) (fun p hp=>by
  obtain ⟨y,hy,rfl⟩:=List.mem_map.mp hp
  exact hf y hy) (by simp [vF]) (by simpa using hn) e
 exact (List.map_inj_right fun x y h=>Fu h).mp e2
noncomputable abbrev num (v:Int):Str:=Str.ofString (toString v)
theorem YJ:∀ n,n < 1000→(decide (1 ≤ ((Nat.toDigits 10 n).map Char.toNat).length) && decide (((Nat.toDigits 10 n).map Char.toNat).length ≤ 3) && ((Nat.toDigits 10 n).map Char.toNat).all Lo && (decide (((Nat.toDigits 10 n).map Char.toNat).length ≤ 1) || decide (((Nat.toDigits 10 n).map Char.toNat).headD 0 ≠ 48)) &&
  decide (NumText.digitsVal ((Nat.toDigits 10 n).map Char.toNat)=n))=true:=by decide +kernel
theorem fz {v:Int} (h0:0 ≤ v) (h1:v < 1000):okB (num v)=true∧val (num v)=v:=by
 have e:=PySem.W.KIN.signs_num v.toNat
 rw [Int.toNat_of_nonneg h0] at e
 have a:=YJ v.toNat (by omega)
 rw [← e,Bool.and_eq_true,decide_eq_true_eq] at a
 exact ⟨a.1,by show ((NumText.digitsVal (cs (num v)):Nat):Int)=v;rw [a.2];omega⟩
theorem Tj {v lo hi:Int} (h0:0 ≤ v) (h1:v < 1000) (hl:lo ≤ v) (hh:v ≤ hi):Cs (num v) lo hi=.int v:=by
 obtain ⟨a,b⟩:=fz h0 h1
 unfold Cs
 rw [a,b,decide_eq_false (by omega:¬ v < lo),decide_eq_false (by omega:¬ hi < v)];rfl
theorem MJ {u v:Int} (h0:0 ≤ u) (h1:u < 1000) (h2:0 ≤ v) (h3:v < 1000) (e:num u=num v):u=v:=by
 rw [← (fz h0 h1).2,e,(fz h2 h3).2]
theorem Mz {v:Int} (h0:0 ≤ v) (h1:v < 1000):∀ c ∈ (num v).cps.toList,48 ≤ c∧c ≤ 57:=fun c hc=>by
 have:=List.all_eq_true.mp (SK (fz h0 h1).1).2 c hc
 simpa [Lo] using this
theorem aL:∀ c ∈ lh.cps.toList,97 ≤ c∧c ≤ 122:=by decide +kernel
theorem sK:∀ k,k < 26→97 + k ∈ lh.cps.toList:=by decide +kernel
theorem Xe {x:Str} (h:made x lh 8=true):(1 ≤ x.length∧x.length ≤ 8)∧∀ c ∈ x.cps.toList,97 ≤ c∧c ≤ 122:=by
 unfold made at h
 split at h
 ·cases h
 ·rename_i h1
  split at h
  ·cases h
  ·rename_i h2
   have h3:¬ x.length=0:=fun z=>h1 (vM.mpr z)
   refine ⟨by omega,fun c hc=>?_⟩
   have:=List.all_eq_true.mp h c hc
   rw [vy] at this
   exact aL c (of_decide_eq_true this)
theorem Jv {x:Str} (h0:1 ≤ x.length) (h1:x.length ≤ 8) (h:∀ c ∈ x.cps.toList,97 ≤ c∧c ≤ 122):made x lh 8=true:=by
 unfold made
 rw [if_neg (fun z=>by have:=vM.mp z;omega),if_neg (by omega)]
 refine List.all_eq_true.mpr fun c hc=>?_
 have:=h c hc
 rw [vy]
 have e:=sK (c - 97) (by omega)
 rw [show 97 + (c - 97)=c by omega] at e
 exact decide_eq_true e
structure WOk (n:Int) (d:WD):Prop where
 k:d.k < 3
 nm:made d.name lh 8=true
 st:0 ≤ d.start∧d.start < n
 fi:0 ≤ d.fin∧d.fin < n
 ne:d.start ≠ d.fin
 of:0 ≤ d.off∧d.off ≤ 30
 nr:0 ≤ d.near∧d.near ≤ 30
 le:1 ≤ d.least∧d.least ≤ 60
structure COk (n:Int) (ds:List WD):Prop where
 nn:2 ≤ n∧n ≤ 99
 ln:1 ≤ ds.length∧ds.length ≤ 12
 al:∀ d ∈ ds,WOk n d
 nd:(ds.map (·.name)).Nodup
noncomputable def pk (d:WD):List Str:=[kd d.k,d.name,num d.start,num d.fin,num d.off,num d.near,num d.least]
noncomputable def gi (n:Int) (ds:List WD):List (List Str):=[Str.ofString "ring",num n] :: ds.map pk
noncomputable def Wt (n:Int) (ds:List WD):Str:=Str.join nl ((gi n ds).map (Str.join bk))
noncomputable def cu (x:Str):Prop:=x.length ≤ 8∧(32:Nat) ∉ x.cps.toList∧(10:Nat) ∉ x.cps.toList
theorem Us (k:Nat):cu (kd k):=by
 match k with
 | 0=>exact ⟨by decide +kernel,by decide +kernel,by decide +kernel⟩
 | 1=>exact ⟨by decide +kernel,by decide +kernel,by decide +kernel⟩
 | _ + 2=>exact ⟨show (Str.ofString "tram").length ≤ 8 by decide +kernel,show (32:Nat) ∉ (Str.ofString "tram").cps.toList by decide +kernel,show (10:Nat) ∉ (Str.ofString "tram").cps.toList by decide +kernel⟩
theorem Hd {v:Int} (h0:0 ≤ v) (h1:v < 1000):cu (num v):=
 ⟨Nat.le_trans (cq h0 (by omega)) (by decide),fun z=>by have:=Mz h0 h1 _ z;omega,fun z=>by have:=Mz h0 h1 _ z;omega⟩
theorem Mn {x:Str} (h:made x lh 8=true):cu x:=
 ⟨(Xe h).1.2,fun z=>by have:=(Xe h).2 _ z;omega,fun z=>by have:=(Xe h).2 _ z;omega⟩
theorem WOk.plain {n:Int} {d:WD} (h:WOk n d) (hn:n ≤ 99):∀ x ∈ pk d,cu x:=fun x hx=>by
 have h1:=h.st;have h2:=h.fi;have h3:=h.of;have h4:=h.nr;have h5:=h.le
 simp only [pk,List.mem_cons,List.not_mem_nil,or_false] at hx
 rcases hx with rfl | rfl | rfl | rfl | rfl | rfl | rfl
 ·exact Us _
 ·exact Mn h.nm
 ·exact Hd (by omega) (by omega)
 ·exact Hd (by omega) (by omega)
 ·exact Hd (by omega) (by omega)
 ·exact Hd (by omega) (by omega)
 ·exact Hd (by omega) (by omega)
theorem COk.plain {n:Int} {ds:List WD} (h:COk n ds):∀ r ∈ gi n ds,∀ x ∈ r,cu x:=fun r hr x hx=>by
 have hn:=h.nn
 rcases List.mem_cons.mp hr with rfl | hr
 ·simp only [List.mem_cons,List.not_mem_nil,or_false] at hx
  rcases hx with rfl | rfl
  ·exact ⟨by decide +kernel,by decide +kernel,by decide +kernel⟩
  ·exact Hd (by omega) (by omega)
 ·obtain ⟨d,hd,rfl⟩:=List.mem_map.mp hr
  exact (h.al d hd).plain hn.2 x hx
theorem uv {rs:List (List Str)} (h0:rs ≠ []) (h1:∀ r ∈ rs,r ≠ []) (h2:∀ r ∈ rs,∀ x ∈ r,cu x):ke (Str.join nl (rs.map (Str.join bk)))=rs:=by
 unfold ke
 rw [cN,YF]
 rw [Ms (by simpa using h0) (fun y hy=>by
  obtain ⟨r,hr,rfl⟩:=List.mem_map.mp hy
  rw [Qj]
  intro z
  rcases mH z with z | ⟨p,hp,z⟩
  ·cases z
  ·obtain ⟨x,hx,rfl⟩:=List.mem_map.mp hp
   exact (h2 r hr x hx).2.2 z)]
 rw [List.map_map]
 have:∀ r ∈ rs,((fun r=>Txt.split r ⟨#[32]⟩) ∘ Str.join ⟨#[32]⟩) r=r:=fun r hr=>Ms (h1 r hr) fun x hx=>(h2 r hr x hx).2.1
 exact (List.map_congr_left this).trans (List.map_id rs)
theorem dA {n:Int} {ds:List WD} (h:COk n ds):ke (Wt n ds)=gi n ds:=uv (by simp [gi]) (fun r hr=>by
 rcases List.mem_cons.mp hr with rfl | hr
 ·simp
 ·obtain ⟨d,hd,rfl⟩:=List.mem_map.mp hr
  simp [pk]) h.plain
theorem Yi (sep:Str) (B:Nat):∀ ys:List Str,(∀ y ∈ ys,y.length ≤ B)→(Str.join sep ys).length ≤ ys.length * (B + sep.length)
 | [],_=>by show (Str.empty).length ≤ _;exact Nat.zero_le _
 | [a],h=>by
  have:=h a (by simp)
  show a.length ≤ _
  simp only [List.length_cons,List.length_nil];omega
 | a :: b :: r,h=>by
  have h1:=h a (by simp)
  have h2:=Yi sep B (b :: r) fun y hy=>h y (List.mem_cons_of_mem _ hy)
  show (a ++ sep ++ Str.join sep (b :: r)).length ≤ _
  rw [Uh,Uh,List.length_cons,Nat.succ_mul]
  omega
theorem wC {n:Int} {ds:List WD} (h:COk n ds):(Wt n ds).length ≤ 1000:=by
 have h1:∀ y ∈ (gi n ds).map (Str.join bk),y.length ≤ 63:=fun y hy=>by
  obtain ⟨r,hr,rfl⟩:=List.mem_map.mp hy
  have:=Yi bk 8 r fun x hx=>(h.plain r hr x hx).1
  rw [Sn] at this
  have hl:r.length ≤ 7:=by
   rcases List.mem_cons.mp hr with rfl | hr
   ·simp
   ·obtain ⟨d,hd,rfl⟩:=List.mem_map.mp hr
    simp [pk]
  omega
 have h2:=Yi nl 63 _ h1
 rw [Gv] at h2
 have h3:((gi n ds).map (Str.join bk)).length ≤ 13:=by
  have:=h.ln
  simp [gi];omega
 unfold Wt
 omega
end My
namespace My
open PySem L2
noncomputable abbrev Wr:List Str:=[Str.ofString "row",Str.ofString "told",Str.ofString "place"]
noncomputable def rdF (row:Int) (ta:Addr) (pl:Int):List (Str × V):=[(Str.ofString "row",.int row),(Str.ofString "told",.ref ta),(Str.ofString "place",.int pl)]
theorem xh (row:Int) (ta:Addr) (pl:Int):(rdF row ta pl).map (·.1)=Wr:=rfl
theorem MD (row:Int) (ta:Addr) (pl v:Int):yg (Str.ofString "place") (.int v) (rdF row ta pl)=rdF row ta v:=by
 unfold rdF
 simp only [yg]
 rw [if_neg (by decide +kernel),if_neg (by decide +kernel)];rfl
noncomputable def Fe (t:Adr) (H:Hp) (p:Addr) (row:Int) (ws:List Str) (pl:Nat):Prop:=
 (ws.length ≤ 1000∧∀ x ∈ ws,x.length ≤ 1000)∧∃ dx ta,H p=some (.ins t.Cb dx (rdF row ta pl))∧H ta=some (.lst (wb ws))
noncomputable def Fc (p:Addr) (H H':Hp):Prop:=∀ b u,b ≠ p→H b=some u→H' b=some u
theorem Fc.trans {p:Addr} {H H1 H2:Hp} (a:Fc p H H1) (b:Fc p H1 H2):Fc p H H2:=fun c u n e=>b c u n (a c u n e)
theorem Fc.of {p:Addr} {H H1:Hp} (a:Vb H H1):Fc p H H1:=fun c u _ e=>a c u e
theorem Fc.put {p:Addr} {H:Hp} {o:HO}:Fc p H (upd H p o):=fun c u n e=>by rw [lb n];exact e
theorem Rb (ws:List Str):(wb ws).length=ws.length:=by unfold wb;rw [List.length_map]
theorem pF {ws:List Str} {i:Nat} {x:Str} (h:ws[i]? = some x):(wb ws)[i]? = some (.str x):=by unfold wb;rw [List.getElem?_map,h];rfl
theorem Bi (ws:List Str):(wb ws).all Sk=true:=by unfold wb;simp [Sk]
theorem Jm (x:Str) (xs:List Str):inV (.str x) (wb xs)=decide (x ∈ xs):=by
 unfold inV wb
 rw [List.any_map,Bool.eq_iff_iff]
 simp only [List.any_eq_true,Function.comp,eqV,beq_iff_eq,decide_eq_true_eq]
 constructor
 ·rintro ⟨y,hy,rfl⟩;exact hy
 ·intro h;exact ⟨x,h,rfl⟩
section
variable {w:World} {K:PySem.W.Frag} {mg:Str→Option Value} {t:Adr} {H H':Hp} {p:Addr} {row:Int} {ws:List Str} {pl:Nat}
theorem Fe.same (h:Fe t H p row ws pl) (s:Vb H H'):Fe t H' p row ws pl:=by
 obtain ⟨hz,dx,ta,e1,e2⟩:=h
 exact ⟨hz,dx,ta,s _ _ e1,s _ _ e2⟩
theorem Fe.sameX {q:Addr} (h:Fe t H p row ws pl) (s:Fc q H H') (n:p ≠ q) (k:∃ C dx fs,H q=some (.ins C dx fs)):Fe t H' p row ws pl:=by
 obtain ⟨hz,dx,ta,e1,e2⟩:=h
 obtain ⟨C,dq,fs,e3⟩:=k
 exact ⟨hz,dx,ta,s _ _ n e1,s _ _ (Vd e2 e3 (by intro z;cases z)) e2⟩
theorem Fe.ins (h:Fe t H p row ws pl):∃ C dx fs,H p=some (.ins C dx fs):=by
 obtain ⟨hz,dx,ta,e1,e2⟩:=h
 exact ⟨_,_,_,e1⟩
theorem Fe.no {m:Str} (row:Int) (ta:Addr) (pl:Int) (h:Wr.contains m=false):(rdF row ta pl).lookup m=none:=Lm Wr (xh ..) h
theorem lp (T:Txt w K mg t) {dx ta:Addr} {pl:Int} (e:H p=some (.ins t.Cb dx (rdF row ta pl))):Li K H p (Str.ofString "place") (.int pl):=
 ⟨_,dx,_,e,T.ub,T.ue,Kd Wr 2 (xh ..) (by decide +kernel) rfl⟩
theorem ky (T:Txt w K mg t) {dx ta:Addr} {pl:Int} (e:H p=some (.ins t.Cb dx (rdF row ta pl))):Li K H p (Str.ofString "told") (.ref ta):=
 ⟨_,dx,_,e,T.ub,T.Ci,Kd Wr 1 (xh ..) (by decide +kernel) rfl⟩
end
noncomputable def lI (t:Adr):Sp:=fun vs H Q _=>∃ (p dx ta:Addr) (row:Int),vs=[.ref p,.int row,.ref ta]∧H p=some (.ins t.Cb dx [])∧Q .non (upd H p (.ins t.Cb dx (rdF row ta 0)))
noncomputable def Xi (t:Adr):Sp:=fun vs H Q _=>∃ p row ws pl,vs=[.ref p]∧Fe t H p row ws pl∧pl ≤ ws.length∧Q (.str (ws.getD pl (Str.ofString ""))) H
noncomputable def Px (t:Adr):Sp:=fun vs H Q _=>∃ p row ws pl,vs=[.ref p]∧Fe t H p row ws pl∧Q (.bl (decide (pl < ws.length))) H
noncomputable def jK (t:Adr) (H:Hp) (p:Addr) (row:Int) (ws:List Str) (pl:Nat) (R:Hp→Prop):Prop:=∀ H',Fc p H H'→(NoT H→NoT H')→Fe t H' p row ws pl→R H'
noncomputable def zu (t:Adr):Sp:=fun vs H Q _=>∃ p row ws pl,vs=[.ref p,.bl true]∧Fe t H p row ws pl∧jK t H p row ws (pl + 1) (Q .non)
noncomputable def Kt (K:PySem.W.Frag) (t:Adr):Sp:=fun vs H Q _=>∃ p row ws pl x c xs,vs=[.ref p,.ref c]∧Fe t H p row ws pl∧ws[pl]? = some x∧SqL K H c (wb xs)∧x ∈ xs∧jK t H p row ws (pl + 1) (Q (.str x))
noncomputable def Iu (t:Adr):Sp:=fun vs H Q _=>∃ p row ws pl x lo hi v,vs=[.ref p,.int lo,.int hi]∧Fe t H p row ws pl∧ws[pl]? = some x∧Cs x lo hi=.int v∧NoT H∧jK t H p row ws (pl + 1) (Q (.int v))
noncomputable def BB (t:Adr):Sp:=fun vs H Q _=>∃ p row ws pl,vs=[.ref p]∧Fe t H p row ws pl∧pl=ws.length∧Q .non H
section
variable {P:Program} {w:World} {K:PySem.W.Frag} {mg:Str→Option Value} {base:Heap} {t:Adr}
theorem lL (T:Txt w K mg t):Jb P w K mg base CX0 1 t.ee t.Se ["self","row","told"] (lI t):=by
 refine T.xj.ok Yj (fun vs H Q E h=>?_) (fun cdv A outer s H vs Q E hr h=>?_)
 ·obtain ⟨p,dx,ta,row,rfl,_⟩:=h;rfl
 obtain ⟨p,dx,ta,row,rfl,hp,q⟩:=h
 refine ⟨_,(fb (Pe (pv 0) (pv 1) rfl)
   (fb (Pe (pv 0) (pv 2) rfl)
   (ib (Pe (pv 0) jb rfl)))),?_⟩
 (walk_at "RD")
 refine ⟨_,_,_,hp,T.ub,T.Bj,by decide,?_⟩
 refine ⟨_,_,_,db,T.ub,T.Ci,Ko (n:=999) (by decide),?_⟩
 refine ⟨_,_,_,db,T.ub,T.ue,Ko (n:=999) (Ko (n:=998) (by decide)),?_⟩
 simp only [Wg]
 rw [show yg (Str.ofString "row") (V.int row) ([]:List (Str × V))=[(Str.ofString "row",V.int row)] from Jc [] rfl (by decide +kernel),
  show yg (Str.ofString "told") (V.ref ta) ([(Str.ofString "row",V.int row)]:List (Str × V))=[(Str.ofString "row",V.int row),(Str.ofString "told",V.ref ta)] from Jc [Str.ofString "row"] rfl (by decide +kernel),
  show yg (Str.ofString "place") (V.int 0) ([(Str.ofString "row",V.int row),(Str.ofString "told",V.ref ta)]:List (Str × V))=[(Str.ofString "row",V.int row),(Str.ofString "told",V.ref ta),(Str.ofString "place",V.int 0)] from Jc [Str.ofString "row",Str.ofString "told"] rfl (by decide +kernel)]
 exact q
theorem Pk (T:Txt w K mg t):Jb P w K mg base CX0 1 t.dc t.zc ["self"] (Xi t):=by
 refine T.ri.ok Um (fun vs H Q E h=>?_) (fun cdv A outer s H vs Q E hr h=>?_)
 ·obtain ⟨p,row,ws,pl,rfl,_⟩:=h;rfl
 obtain ⟨p,row,ws,pl,rfl,⟨hz,dx,ta,e1,e2⟩,hle,q⟩:=h
 refine ⟨_,(fb (Ge (ac zg (Dc (pv 0) rfl) (nc Lb rfl T.Xh fc (cb (Dc (pv 0) rfl) gb)) (gc _)) (ib (Kb ic)) Ec)
   (ib (Kb (lc bc (Dc (pv 0) rfl) (Dc (pv 0) rfl) (fun _ _=>rfl))))),?_⟩
 (walk_at "RD")
 refine Zb (decide ((pl:Int)=(ws.length:Int))) (fun Q hQ=>?_) (fun c=>?_) (fun c=>?_)
 ·(walk_at "RD")
  refine ⟨_,lp T e1,_,ky T e1,_,rfl,_,.inl (SqL.of e2),rfl,?_⟩
  rw [Rb]
  (walk_at "RD")
  exact hQ
 ·(walk_at "RD")
  have c':pl=ws.length:=by have:=of_decide_eq_true c;omega
  rw [show ws.getD pl (Str.ofString "")=Str.ofString "" by rw [List.getD_eq_getElem?_getD,List.getElem?_eq_none (by omega)];rfl] at q
  exact q
 ·(walk_at "RD")
  have c':pl < ws.length:=by have:=of_decide_eq_false c;omega
  have hx:ws[pl]? = some ws[pl]:=List.getElem?_eq_getElem c'
  rw [List.getD_eq_getElem?_getD,hx] at q
  exact ⟨_,ky T e1,_,lp T e1,_,rfl,_,_,rfl,SqL.of e2,_,Fb (pF hx),q⟩
theorem qE (T:Txt w K mg t):Jb P w K mg base CX0 1 t.Nc t.gd ["self"] (Px t):=by
 refine T.Eg.ok Vj (fun vs H Q E h=>?_) (fun cdv A outer s H vs Q E hr h=>?_)
 ·obtain ⟨p,row,ws,pl,rfl,_⟩:=h;rfl
 obtain ⟨p,row,ws,pl,rfl,⟨hz,dx,ta,e1,e2⟩,q⟩:=h
 refine ⟨_,(ib (Kb (Pd Bu (Dc (pv 0) rfl) (nc Lb rfl T.Xh fc (cb (Dc (pv 0) rfl) gb)) (gc _)))),?_⟩
 (walk_at "RD")
 have e:decide (pl < ws.length)=decide ((pl:Int) < (ws.length:Int)):=by rw [Bool.eq_iff_iff];simp
 rw [e] at q
 refine ⟨_,lp T e1,_,ky T e1,_,rfl,_,.inl (SqL.of e2),?_⟩
 rw [Rb]
 exact ⟨_,rfl,q⟩
theorem Rx (T:Txt w K mg t):Jb P w K mg base CX0 1 t.xc t.Cc ["self","good"] (zu t):=by
 refine T.qg.ok oi (fun vs H Q E h=>?_) (fun cdv A outer s H vs Q E hr h=>?_)
 ·obtain ⟨p,row,ws,pl,rfl,_⟩:=h;rfl
 obtain ⟨p,row,ws,pl,rfl,⟨hz,dx,ta,e1,e2⟩,q⟩:=h
 refine ⟨_,(fb (Ge (vt (wj (pv 1))) (ib Lk) Ec)
   (ib (Jw (pv 0) jb pH))),?_⟩
 (walk_at "RD")
 refine Zb false (fun Q hQ=>?_) (fun hc=>nomatch hc) (fun _=>?_)
 ·(walk_at "RD")
  exact hQ
 ·(walk_at "RD")
  refine ⟨_,_,_,e1,T.ub,T.ue,_,Kd Wr 2 (xh ..) (by decide +kernel) rfl,_,rfl,_,_,e1,by rw [← List.length_map (f:=(·.1)),xh];decide,?_⟩
  rw [MD]
  exact q _ Fc.put (fun n=>n.upd) ⟨hz,dx,ta,db,by rw [lb (Vd e2 e1 (by intro z;cases z))];exact e2⟩
theorem az (T:Txt w K mg t):Jb P w K mg base CX0 2 t.kc t.Ac ["self","choices"] (Kt K t):=by
 have G_RowReader_ahead:Jb P w K mg base CX0 1 t.dc t.zc ["self"] (Xi t):=Pk T
 have G_RowReader_take:Jb P w K mg base CX0 1 t.xc t.Cc ["self","good"] (zu t):=Rx T
 refine T.Af.ok ae (fun vs H Q E h=>?_) (fun cdv A outer s H vs Q E hr h=>?_)
 ·obtain ⟨p,row,ws,pl,x,c,xs,rfl,_⟩:=h;rfl
 obtain ⟨p,row,ws,pl,x,c,xs,rfl,R,hx,hc,hm,q⟩:=h
 refine ⟨_,(fb (Eb (i:=2) ae.nd rfl (Or.inl rfl) (Yd (pv 0) T.ub T.pd G_RowReader_ahead hr T.md .nil Db))
   (fb (Qb (Tc (pv 0) T.ub T.ge G_RowReader_take hr T.fe .nil Db (cb (Pd Vm (pv 2) (pv 1) (by with_unfolding_all rfl)) gb)))
   (ib (Kb (pv 2))))),?_⟩
 have hlt:pl < ws.length:=(List.getElem?_eq_some_iff.mp hx).1
 have hg:ws.getD pl (Str.ofString "")=x:=by rw [List.getD_eq_getElem?_getD,hx];rfl
 obtain ⟨_,dx,ta,e1,e2⟩:=id R
 (walk_at "RD")
 refine ⟨_,_,e1,Fe.no _ _ _ (by decide +kernel),⟨p,row,ws,pl,rfl,R,by omega,?_⟩⟩
 rw [hg]
 (walk_at "RD")
 refine ⟨_,_,e1,Fe.no _ _ _ (by decide +kernel),_,.inl hc,rfl,Bi xs,?_⟩
 rw [Jm,decide_eq_true hm]
 refine ⟨p,row,ws,pl,rfl,R,fun H' s1 s2 s3=>?_⟩
 (walk_at "RD")
 exact q H' s1 s2 s3
theorem Ay (T:Txt w K mg t):Jb P w K mg base CX0 4 t.Xb t.vc ["self","low","high"] (Iu t):=by
 have G_RowReader_ahead:Jb P w K mg base CX0 3 t.dc t.zc ["self"] (Xi t):=(Pk T).mono (by decide)
 have G_RowReader_take:Jb P w K mg base CX0 3 t.xc t.Cc ["self","good"] (zu t):=(Rx T).mono (by decide)
 have G_figured:Jb P w K mg base CX0 3 t.Kj t.xk ["word","low","high"] YC:=IH T
 refine T.Ve.ok Sd (fun vs H Q E h=>?_) (fun cdv A outer s H vs Q E hr h=>?_)
 ·obtain ⟨p,row,ws,pl,x,lo,hi,v,rfl,_⟩:=h;rfl
 obtain ⟨p,row,ws,pl,x,lo,hi,v,rfl,R,hx,hv,nt,q⟩:=h
 refine ⟨_,(fb (Eb (i:=3) Sd.nd rfl (Or.inl rfl) (xb G_figured hr rfl T.yv T.Sm.kp T.Dv .nil Db (cb (Yd (pv 0) T.ub T.pd G_RowReader_ahead hr T.md .nil Db) (cb (pv 1) (cb (pv 2) gb)))))
   (fb (Qb (Tc (pv 0) T.ub T.ge G_RowReader_take hr T.fe .nil Db (cb (Pd wD (pv 3) Iy (gc _)) gb)))
   (ib (Kb (pv 3))))),?_⟩
 have hlt:pl < ws.length:=(List.getElem?_eq_some_iff.mp hx).1
 have hg:ws.getD pl (Str.ofString "")=x:=by rw [List.getD_eq_getElem?_getD,hx];rfl
 obtain ⟨hz,dx,ta,e1,e2⟩:=id R
 (walk_at "RD")
 refine ⟨_,_,e1,Fe.no _ _ _ (by decide +kernel),⟨p,row,ws,pl,rfl,R,by omega,?_⟩⟩
 rw [hg]
 (walk_at "RD")
 refine ⟨x,lo,hi,rfl,hz.2 x (List.mem_of_getElem? hx),nt,?_⟩
 rw [hv]
 (walk_at "RD")
 refine ⟨_,_,e1,Fe.no _ _ _ (by decide +kernel),?_⟩
 refine ⟨p,row,ws,pl,rfl,R,fun H' s1 s2 s3=>?_⟩
 (walk_at "RD")
 exact q H' s1 s2 s3
theorem DH (T:Txt w K mg t):Jb P w K mg base CX0 2 t.Xc t.Ed ["self"] (BB t):=by
 have G_RowReader_has_more:Jb P w K mg base CX0 1 t.Nc t.gd ["self"] (Px t):=qE T
 refine T.Ah.ok Pl (fun vs H Q E h=>?_) (fun cdv A outer s H vs Q E hr h=>?_)
 ·obtain ⟨p,row,ws,pl,rfl,_⟩:=h;rfl
 obtain ⟨p,row,ws,pl,rfl,R,hl,q⟩:=h
 obtain ⟨hz,dx,ta,e1,e2⟩:=id R
 refine ⟨_,(ib (Ge (wj (Yd (pv 0) T.ub T.Ag G_RowReader_has_more hr T.Bg .nil Db)) (ib Lk) Ec)),?_⟩
 (walk_at "RD")
 refine Zb false (fun Q hQ=>?_) (fun hc=>nomatch hc) (fun _=>?_)
 ·(walk_at "RD")
  refine ⟨_,_,e1,Fe.no _ _ _ (by decide +kernel),⟨p,row,ws,pl,rfl,R,?_⟩⟩
  rw [decide_eq_false (by omega)]
  exact ⟨_,rfl,hQ⟩
 ·(walk_at "RD")
  exact q
end
end My
namespace My
open PySem L2
noncomputable abbrev wd (ws:List Str) (k:Nat):Str:=ws.getD k (Str.ofString "")
theorem mK {ws:List Str} (h:∀ x ∈ ws,x.length ≤ 1000) (k:Nat):(wd ws k).length ≤ 1000:=by
 unfold wd
 rw [List.getD_eq_getElem?_getD]
 cases e:ws[k]? with
 | none=>exact Nat.le_trans (show (Str.ofString "").length ≤ 0 by decide +kernel) (Nat.zero_le _)
 | some x=>exact h x (List.mem_of_getElem? e)
theorem JJ {ws:List Str} {k:Nat} (h:wd ws k ≠ Str.ofString ""):k < ws.length:=by
 refine Classical.byContradiction fun z=>h ?_
 unfold wd
 rw [List.getD_eq_getElem?_getD,List.getElem?_eq_none (by omega)];rfl
theorem Xs (w:Str) (lo hi:Int):(∃ v,Cs w lo hi=.int v∧lo ≤ v∧v ≤ hi∧w ≠ Str.ofString "")∨Cs w lo hi=.non:=by
 unfold Cs
 split
 ·rename_i h
  rw [Bool.and_eq_true] at h
  refine .inl ⟨val w,rfl,?_,?_,fun z=>?_⟩
  ·have:=h.2;simp at this;omega
  ·have:=h.2;simp at this;omega
  ·have h1:=h.1
   rw [z] at h1
   exact absurd h1 (by decide +kernel)
 ·exact .inr rfl
theorem Gn {i:Int} (h:i.natAbs < 100000):i.natAbs.log2 < 1920:=by
 by_cases h0:i.natAbs=0
 ·rw [h0];decide
 ·exact (Nat.log2_lt h0).mpr (Nat.lt_trans h (by decide))
noncomputable def jw (t:Adr) (i:Int) (k:Nat) (p:Addr) (H:Hp) (E:XK):Prop:=∀ dx H',Fc p H H'→(NoT H→NoT H')→H' dx=some (.ext (XD dx [(Str.ofString "row",.int i),(Str.ofString "word",.int k)]))→E (.ref t.Vc) (some dx) H'
theorem jw.step {t:Adr} {i:Int} {k:Nat} {p:Addr} {H H1:Hp} {E:XK} (h:jw t i k p H E) (s:Fc p H H1) (n:NoT H→NoT H1):jw t i k p H1 E:=fun dx H' s' n' e=>h dx H' (s.trans s') (fun z=>n' (n z)) e
theorem AL {w:World} {K:PySem.W.Frag} {mg:Str→Option Value} {t:Adr} {H:Hp} {p:Addr} {row:Int} (T:Txt w K mg t) {dx ta:Addr} {pl:Int} (e:H p=some (.ins t.Cb dx (rdF row ta pl))):Li K H p (Str.ofString "row") (.int row):=
 ⟨_,dx,_,e,T.ub,T.Bj,Kd Wr 0 (xh ..) (by decide +kernel) rfl⟩
noncomputable def xH (t:Adr):Sp:=fun vs H Q _=>∃ x i j,vs=[.ref x,.int i,.int j]∧i.natAbs.log2 < 1920∧j.natAbs.log2 < 1920∧H x=some (.ext (XF x t.Vc none)) ∧
 ∀ dx,H dx=none→dx ≠ x→Q .non (upd (upd H x (.ext (XF x t.Vc (some dx)))) dx (.ext (XD dx [(Str.ofString "row",.int i),(Str.ofString "word",.int j)])))
noncomputable def Ax (t:Adr):Sp:=fun vs H Q E=>∃ p row ws pl,vs=[.ref p]∧Fe t H p row ws pl∧(0 ≤ row∧row ≤ 10000)∧pl ≤ 10000∧jw t row pl p H E
noncomputable def Ft (t:Adr):Sp:=fun vs H Q E=>∃ p row ws pl g,vs=[.ref p,.bl g]∧Fe t H p row ws pl∧(0 ≤ row∧row ≤ 10000)∧pl ≤ 10000∧(g=true→jK t H p row ws (pl + 1) (Q .non))∧(g=false→jw t row pl p H E)
noncomputable def Xp (K:PySem.W.Frag) (t:Adr):Sp:=fun vs H Q E=>∃ p row ws pl c xs,vs=[.ref p,.ref c]∧Fe t H p row ws pl∧(0 ≤ row∧row ≤ 10000)∧pl ≤ ws.length∧SqL K H c (wb xs) ∧
 (wd ws pl ∈ xs→jK t H p row ws (pl + 1) (Q (.str (wd ws pl))))∧(wd ws pl ∉ xs→jw t row pl p H E)
noncomputable def bz (t:Adr):Sp:=fun vs H Q E=>∃ p row ws pl lo hi,vs=[.ref p,.int lo,.int hi]∧Fe t H p row ws pl∧(0 ≤ row∧row ≤ 10000)∧pl ≤ ws.length∧NoT H ∧
 (∀ v,Cs (wd ws pl) lo hi=.int v→jK t H p row ws (pl + 1) (Q (.int v)))∧(Cs (wd ws pl) lo hi=.non→jw t row pl p H E)
section
variable {P:Program} {w:World} {K:PySem.W.Frag} {mg:Str→Option Value} {base:Heap} {t:Adr}
theorem sL (T:Txt w K mg t):Jb P w K mg base CX0 1 t.kf t.Pg ["self","row","word"] (xH t):=by
 refine T.cn.ok xm (fun vs H Q E h=>?_) (fun cdv A outer s H vs Q E hr h=>?_)
 ·obtain ⟨x,i,j,rfl,_⟩:=h;rfl
 obtain ⟨x,i,j,rfl,hi,hj,hx,q⟩:=h
 refine ⟨_,(fb (Qb (Po rfl T.Zi T.nj (cb (pv 0) (cb (qm (Jg (Xy (pv 1) (Jg (Xy (pv 2) Ny)))) (by rw [sizeLine_eq];decide)) gb))))
   (fb (Uo (pv 0) (pv 1) rfl)
   (ib (Vo (pv 0) (pv 2) rfl)))),?_⟩
 (walk_at "RD")
 refine ⟨hi,hj,fun y=>⟨_,_,hx,T.Zo,?_⟩⟩
 refine ⟨_,hx,T.Zo,T.Mt,fun dx hd hne=>?_⟩
 refine ⟨_,dx,by rw [lb (Ne.symm hne),db],_,db,T.Zo,T.dr,show 1 < 1000 by decide,?_⟩
 rw [Wg,show yg (Str.ofString "word") (V.int j) ([(Str.ofString "row",V.int i)]:List (Str × V))=[(Str.ofString "row",V.int i),(Str.ofString "word",V.int j)] from Jc [Str.ofString "row"] rfl (by decide +kernel)]
 exact q dx hd hne
theorem OD (T:Txt w K mg t):Jb P w K mg base (CX1 P w) 3 t.Yc t.Gd ["self"] (Ax t):=by
 have G_NoText_init:Jb P w K mg base CX0 1 t.kf t.Pg ["self","row","word"] (xH t):=sL T
 refine T.Oh.okX Rl (fun vs H Q E h=>?_) (fun cdv A outer s H vs Q E hr h=>?_)
 ·obtain ⟨p,row,ws,pl,rfl,_⟩:=h;rfl
 obtain ⟨p,row,ws,pl,rfl,⟨hz,dx,ta,e1,e2⟩,hrow,hpl,q⟩:=h
 refine ⟨_,(ib (ip (bp T.Ew G_NoText_init hr rfl T.ZG T.Tt (cb (Dc (pv 0) rfl) (cb (Dc (pv 0) rfl) gb))) Ht)),?_⟩
 (walk_at "RD")
 refine ⟨_,AL T e1,_,lp T e1,by decide,fun a ha=>⟨a,row,pl,rfl,Gn (by omega),Gn (by omega),db,fun d hd hne=>?_⟩⟩
 have hd0:H d=none:=by rw [lb hne] at hd;exact hd
 refine ⟨rfl,t.Vc,some d,by rw [lb (Ne.symm hne),db],T.Zo,q d _ (fun b u _ e=>?_) (fun nt=>(((nt.upd).upd).upd).upd) (by rw [lb hne,db])⟩
 rw [lb (vb e ha),lb (vb e hd0),lb (vb e ha),lb (vb e ha)]
 exact e
theorem oz (T:Txt w K mg t):Jb P w K mg base (CX1 P w) 4 t.xc t.Cc ["self","good"] (Ft t):=by
 have GX_RowReader_refuse:Jb P w K mg base (CX1 P w) 3 t.Yc t.Gd ["self"] (Ax t):=OD T
 refine T.qg.okX oi (fun vs H Q E h=>?_) (fun cdv A outer s H vs Q E hr h=>?_)
 ·obtain ⟨p,row,ws,pl,g,rfl,_⟩:=h;rfl
 obtain ⟨p,row,ws,pl,g,rfl,R,hrow,hpl,q1,q2⟩:=h
 obtain ⟨hz,dx,ta,e1,e2⟩:=id R
 refine ⟨_,(fb (Ge (vt (wj (pv 1))) (ib (Qb (Yd (pv 0) T.ub T.sh GX_RowReader_refuse hr T.Bh .nil sf))) Ec)
   (ib (Jw (pv 0) jb pH))),?_⟩
 (walk_at "RD")
 refine Zb (!g) (fun Q hQ=>?_) (fun c=>?_) (fun c=>?_)
 ·(walk_at "RD")
  exact hQ
 ·(walk_at "RD")
  have hg:g=false:=by simpa using c
  exact ⟨_,_,e1,Fe.no _ _ _ (by decide +kernel),⟨p,row,ws,pl,rfl,R,hrow,hpl,q2 hg⟩⟩
 ·(walk_at "RD")
  have hg:g=true:=by simpa using c
  refine ⟨_,_,_,e1,T.ub,T.ue,_,Kd Wr 2 (xh ..) (by decide +kernel) rfl,_,rfl,_,_,e1,by rw [← List.length_map (f:=(·.1)),xh];decide,?_⟩
  rw [MD]
  exact q1 hg _ Fc.put (fun n=>n.upd) ⟨hz,dx,ta,db,by rw [lb (Vd e2 e1 (by intro z;cases z))];exact e2⟩
theorem bv (T:Txt w K mg t):Jb P w K mg base (CX1 P w) 5 t.kc t.Ac ["self","choices"] (Xp K t):=by
 have G_RowReader_ahead:Jb P w K mg base CX0 4 t.dc t.zc ["self"] (Xi t):=(Pk T).mono (by decide)
 have GX_RowReader_take:Jb P w K mg base (CX1 P w) 4 t.xc t.Cc ["self","good"] (Ft t):=oz T
 refine T.Af.okX ae (fun vs H Q E h=>?_) (fun cdv A outer s H vs Q E hr h=>?_)
 ·obtain ⟨p,row,ws,pl,c,xs,rfl,_⟩:=h;rfl
 obtain ⟨p,row,ws,pl,c,xs,rfl,R,hrow,hpl,hc,q1,q2⟩:=h
 refine ⟨_,(fb (Eb (i:=2) ae.nd rfl (Or.inl rfl) (Yd (pv 0) T.ub T.pd G_RowReader_ahead hr T.md .nil Db))
   (fb (Qb (Tc (pv 0) T.ub T.ge GX_RowReader_take hr T.fe .nil sf (cb (Pd Vm (pv 2) (pv 1) (by with_unfolding_all rfl)) gb)))
   (ib (Kb (pv 2))))),?_⟩
 obtain ⟨hz,dx,ta,e1,e2⟩:=id R
 (walk_at "RD")
 refine ⟨_,_,e1,Fe.no _ _ _ (by decide +kernel),⟨p,row,ws,pl,rfl,R,hpl,?_⟩⟩
 (walk_at "RD")
 refine ⟨_,_,e1,Fe.no _ _ _ (by decide +kernel),_,.inl hc,rfl,Bi xs,?_⟩
 rw [Jm]
 refine ⟨p,row,ws,pl,_,rfl,R,hrow,by omega,fun g H' s1 s2 s3=>?_,fun g=>q2 (of_decide_eq_false g)⟩
 (walk_at "RD")
 exact q1 (of_decide_eq_true g) H' s1 s2 s3
theorem PF (T:Txt w K mg t):Jb P w K mg base (CX1 P w) 5 t.Xb t.vc ["self","low","high"] (bz t):=by
 have G_RowReader_ahead:Jb P w K mg base CX0 4 t.dc t.zc ["self"] (Xi t):=(Pk T).mono (by decide)
 have GX_RowReader_take:Jb P w K mg base (CX1 P w) 4 t.xc t.Cc ["self","good"] (Ft t):=oz T
 have G_figured:Jb P w K mg base CX0 4 t.Kj t.xk ["word","low","high"] YC:=(IH T).mono (by decide)
 refine T.Ve.okX Sd (fun vs H Q E h=>?_) (fun cdv A outer s H vs Q E hr h=>?_)
 ·obtain ⟨p,row,ws,pl,lo,hi,rfl,_⟩:=h;rfl
 obtain ⟨p,row,ws,pl,lo,hi,rfl,R,hrow,hpl,nt,q1,q2⟩:=h
 refine ⟨_,(fb (Eb (i:=3) Sd.nd rfl (Or.inl rfl) (xb G_figured hr rfl T.yv T.Sm.kp T.Dv .nil Db (cb (Yd (pv 0) T.ub T.pd G_RowReader_ahead hr T.md .nil Db) (cb (pv 1) (cb (pv 2) gb)))))
   (fb (Qb (Tc (pv 0) T.ub T.ge GX_RowReader_take hr T.fe .nil sf (cb (Pd wD (pv 3) Iy (gc _)) gb)))
   (ib (Kb (pv 3))))),?_⟩
 obtain ⟨hz,dx,ta,e1,e2⟩:=id R
 (walk_at "RD")
 refine ⟨_,_,e1,Fe.no _ _ _ (by decide +kernel),⟨p,row,ws,pl,rfl,R,hpl,?_⟩⟩
 (walk_at "RD")
 refine ⟨_,lo,hi,rfl,mK hz.2 pl,nt,?_⟩
 rcases Xs (wd ws pl) lo hi with ⟨v,hv,_⟩ | hv
 ·rw [hv]
  (walk_at "RD")
  refine ⟨_,_,e1,Fe.no _ _ _ (by decide +kernel),?_⟩
  refine ⟨p,row,ws,pl,_,rfl,R,hrow,by omega,fun g H' s1 s2 s3=>?_,fun g=>by cases g⟩
  (walk_at "RD")
  exact q1 v hv H' s1 s2 s3
 ·rw [hv]
  (walk_at "RD")
  refine ⟨_,_,e1,Fe.no _ _ _ (by decide +kernel),?_⟩
  exact ⟨p,row,ws,pl,_,rfl,R,hrow,by omega,(fun g=>by cases g),fun g=>q2 hv⟩
end
noncomputable def Oc {α:Type} (m:Except Nat α) (ok:α→Prop) (er:Nat→Prop):Prop:=match m with | .ok a=>ok a | .error k=>er k
noncomputable def uy (x:Str) (lo hi:Int):Option Int:=if okB x && !(decide (val x < lo) || decide (hi < val x)) then some (val x) else none
theorem lH (x:Str) (lo hi:Int):Cs x lo hi=(uy x lo hi).elim .non .int:=by
 unfold Cs uy
 split <;> rfl
theorem Gu {x:Str} {lo hi v:Int} (h:Cs x lo hi=.int v):uy x lo hi=some v:=by
 rw [lH] at h
 cases e:uy x lo hi with
 | none=>rw [e] at h;cases h
 | some u=>rw [e] at h;injection h with h;rw [h]
theorem aw {x:Str} {lo hi:Int} (h:Cs x lo hi=.non):uy x lo hi=none:=by
 rw [lH] at h
 cases e:uy x lo hi with
 | none=>rfl
 | some u=>rw [e] at h;cases h
theorem zC {ws:List Str} {k:Nat} {lo hi v:Int} (h:Cs (wd ws k) lo hi=.int v):k + 1 ≤ ws.length∧lo ≤ v∧v ≤ hi:=by
 rcases Xs (wd ws k) lo hi with ⟨u,hu,h1,h2,h3⟩ | hn
 ·rw [hu] at h
  injection h with h
  subst h
  exact ⟨JJ h3,h1,h2⟩
 ·rw [hn] at h;cases h
noncomputable def Oc2 {α:Type} (m:Except (Nat × Nat) α) (ok:α→Prop) (er:Nat→Nat→Prop):Prop:=match m with | .ok a=>ok a | .error e=>er e.1 e.2
theorem vg {α:Type} {l:List α} {a x:α} {i:Nat} (h:(l ++ [a])[i]? = some x):(i < l.length∧l[i]? = some x)∨(i=l.length∧x=a):=by
 by_cases hi:i < l.length
 ·rw [List.getElem?_append_left hi] at h
  exact .inl ⟨hi,h⟩
 ·rw [List.getElem?_append_right (by omega)] at h
  have h0:i - l.length=0:=by
   cases hh:i - l.length with
   | zero=>rfl
   | succ m=>rw [hh] at h;simp at h
  rw [h0] at h
  exact .inr ⟨by omega,(by simpa using h:a=x).symm⟩
noncomputable def lN (t:Adr) (i k:Nat) (H:Hp) (E:XK):Prop:=∀ dx H',Vb H H'→NoT H'→H' dx=some (.ext (XD dx [(Str.ofString "row",.int i),(Str.ofString "word",.int k)]))→E (.ref t.Vc) (some dx) H'
end My
namespace My
open PySem L2
theorem Mb {α β:Type} {f:α→β} {l:List α} {i:Nat} {y:β} (h:(l.map f)[i]? = some y):∃ x,l[i]? = some x∧y=f x:=by
 rw [List.getElem?_map] at h
 cases e:l[i]? with
 | none=>rw [e] at h;cases h
 | some x=>rw [e] at h;exact ⟨x,rfl,(Option.some.inj h).symm⟩
noncomputable def ZM (t:Adr) (H0 H:Hp) (p:Addr) (rows:List (List Str)):Prop:=∃ qs:List Addr,H p=some (.lst (qs.map V.ref))∧H0 p=none∧qs.length=rows.length∧∀ (i:Nat) (q:Addr) (r:List Str),qs[i]? = some q→rows[i]? = some r→Fe t H q i r 0∧H0 q=none
noncomputable def wn (t:Adr):Sp:=fun vs H Q _=>∃ x,vs=[.str x]∧x.length ≤ 20000∧(∀ r ∈ ke x,r.length ≤ 1000∧∀ y ∈ r,y.length ≤ 1000)∧NoT H∧∀ p H',Vb H H'→NoT H'→ZM t H H' p (ke x)→Q (.ref p) H'
section
variable {P:Program} {w:World} {K:PySem.W.Frag} {mg:Str→Option Value} {base:Heap} {t:Adr}
theorem Ps (T:Txt w K mg t):Jb P w K mg base CX0 3 t.fk t.vk ["text"] (wn t):=by
 have G_words:Jb P w K mg base CX0 2 t.Et t.uu ["text"] Ry:=(gG T).mono (by decide)
 have G_RowReader_init:Jb P w K mg base CX0 1 t.ee t.Se ["self","row","told"] (lI t):=lL T
 refine T.Km.ok fA (fun vs H Q E h=>?_) (fun cdv A outer s H vs Q E hr h=>?_)
 ·obtain ⟨x,rfl,_⟩:=h;rfl
 obtain ⟨x,rfl,hz,hrow,nt,q⟩:=h
 refine ⟨_,(ib (Kb (Td rfl (Pu rfl T.Pi (cb (xb G_words hr rfl T.tI T.Hx.kp T.GI .nil Db (cb (pv 0) gb)) gb)) (Bc (sc:=qb Np) rfl (by decide +kernel)) (N:=["row","told"]) (sel:=[none,none]) (Uc (M:=["text"]) (by decide +kernel)) (Blk.of (fun _ _ _ _=>(Hf (K:=K) (n:=2) rfl rfl (Ob (zb (i:=0) (Je (N:=["row","told"]) (by decide +kernel) rfl) rfl (Or.inl rfl) (.inr rfl)) (Ob (zb (i:=1) (Je (N:=["row","told"]) (by decide +kernel) rfl) rfl (Or.inl rfl) (.inr rfl)) Ff)))) (fun _ _ _ _=>⟨_,Ee,by first | rfl | (dsimp only [Cx.block];done) | (dsimp only [Cx.block];exact rfl)⟩) (fun _ _ _ _=>⟨_,(rn T.my G_RowReader_init hr rfl T.cy T.Oo .nil Db (cb (pv 0) (cb (pv 1) gb))),by first | rfl | (dsimp only [Cx.block];done) | (dsimp only [Cx.block];exact rfl)⟩))))),?_⟩
 (walk_at "RD")
 refine ⟨x,rfl,hz,nt,fun p H1 sm1 nt1 ⟨ps,hp,hp0,hpn,hpl,hpa⟩=>?_⟩
 (walk_at "RD")
 refine ⟨⟨_,SqL.of hp⟩,?_⟩
 have hlen:ps.length ≤ sizeLine:=by
  rw [hpl]
  unfold ke
  rw [List.length_map]
  have:=Ep (x:=x) (y:=nl) (by rw [Gv];exact Nat.le_refl _)
  exact Nat.le_trans (show _ ≤ 40000 by omega) (by decide)
 refine ad.enum (xs:=ps.map V.ref) (fun i ys H2=>Vb H1 H2∧NoT H2∧∃ qs:List Addr,ys=qs.map V.ref∧qs.length=i∧∀ (j:Nat) (q:Addr) (r:List Str),qs[j]? = some q→(ke x)[j]? = some r→Fe t H2 q j r 0∧H1 q=none)
  (by rw [List.length_map];exact hlen) ⟨Vb.refl H1,nt1,[],rfl,rfl,fun j q r h _=>by simp at h⟩ ?_ ?_ ?_
 ·rintro i ys H2 hi zzq
  refine zzP fun zzM zzh=>?_
  obtain ⟨s2,n2,qs,rfl,hq,_⟩:=zzq
  subst zzh
  exact ⟨SqL.of (s2 _ _ hp),by rw [List.length_map];omega⟩
 ·rintro i v ys H2 p2 hv ⟨s2,n2,qs,rfl,hq,al⟩ hp2 N hN
  rw [List.getElem?_map] at hv
  cases hpi:ps[i]? with
  | none=>rw [hpi] at hv;cases hv
  | some pi=>
   rw [hpi] at hv
   have e:=(Option.some.inj hv).symm
   subst e
   refine lm ?_
   (walk_at "RD")
   refine ⟨Sub.name2,fun a dx ha hd hne=>?_⟩
   refine ⟨a,dx,pi,i,rfl,db,rfl,?_⟩
   rw [Wg]
   have s3:Vb H2 (upd (upd (upd H2 p2 (.tup [.int i,.ref pi])) dx (.own a)) a (.ins t.Cb dx (rdF i pi 0))):=by
    have s':Vb H2 (upd H2 p2 (.tup [.int i,.ref pi])):=pb hp2
    exact ((Vb.trans s' (pb hd)).updN (s'.free ha))
   obtain ⟨r,hr⟩:∃ r,(ke x)[i]? = some r:=⟨(ke x)[i]'(by rw [← hpl];exact (List.getElem?_eq_some_iff.mp hpi).1),List.getElem?_eq_getElem _⟩
   have ha2:H2 a=none:=(pb hp2).free ha
   refine hN _ _ ⟨s2.trans s3,((n2.upd).upd).upd,qs ++ [a],by rw [List.map_append];rfl,by rw [List.length_append,hq];rfl,fun j q' r' h1 h2=>?_⟩
   by_cases hj:j < qs.length
   ·rw [List.getElem?_append_left hj] at h1
    obtain ⟨z1,z2⟩:=al j q' r' h1 h2
    exact ⟨z1.same s3,z2⟩
   ·rw [List.getElem?_append_right (by omega)] at h1
    have hj0:j - qs.length=0:=by
     cases hh:j - qs.length with
     | zero=>rfl
     | succ n=>rw [hh] at h1;simp at h1
    rw [hj0] at h1
    have e3:a=q':=by simpa using h1
    subst e3
    have e4:j=i:=by omega
    subst e4
    rw [hr] at h2
    cases h2
    refine ⟨⟨hrow r (List.mem_of_getElem? hr),dx,pi,db,?_⟩,s2.free ha2⟩
    exact s3 _ _ (s2 _ _ (hpa j pi r hpi hr).1)
 ·rintro ys H2 ⟨s2,n2,qs,rfl,hq,al⟩ p2 hp2
  refine q p2 _ ((sm1.trans s2).updN ((sm1.trans s2).free hp2)) (n2.upd) ⟨qs,db,(sm1.trans s2).free hp2,by rw [hq,List.length_map,hpl],fun i q' r h1 h2=>?_⟩
  obtain ⟨z1,z2⟩:=al i q' r h1 h2
  exact ⟨z1.same (pb hp2),sm1.free z2⟩
end
noncomputable def UN (q:Addr) (H:Hp) (R:Hp→Prop):Prop:=∀ H',Fc q H H'→NoT H'→R H'
noncomputable def zE (t:Adr):Sp:=fun vs H Q _=>∃ q row n,vs=[.ref q]∧Fe t H q row [Str.ofString "ring",num n] 0∧(2 ≤ n∧n ≤ 99)∧NoT H∧UN q H (Q (.int n))
noncomputable def Ak (t:Adr) (H:Hp) (wl:Addr) (ds:List WD):Prop:=∃ as:List Addr,H wl=some (.lst (as.map V.ref))∧as.length=ds.length∧∀ (i:Nat) (a:Addr) (d:WD),as[i]? = some a→ds[i]? = some d→ve t H a d
noncomputable def Zs (t:Adr):Sp:=fun vs H Q _=>∃ q row ws pl wl ds x,vs=[.ref q,.ref wl]∧Fe t H q row ws pl∧ws[pl]? = some x∧made x lh 8=true∧Ak t H wl ds∧ds.length ≤ 12∧(∀ d ∈ ds,d.name ≠ x)∧NoT H ∧
 ∀ H',Fc q H H'→NoT H'→Fe t H' q row ws (pl + 1)→Q (.str x) H'
noncomputable def nH (t:Adr):Sp:=fun vs H Q _=>∃ q row ws pl n st fi,vs=[.ref q,.int n,.int st]∧Fe t H q row ws pl∧ws[pl]? = some (num fi)∧(0 ≤ st∧st < n)∧(0 ≤ fi∧fi < n)∧st ≠ fi∧n ≤ 99∧NoT H ∧
 ∀ H',Fc q H H'→NoT H'→Fe t H' q row ws (pl + 1)→Q (.int fi) H'
noncomputable def Hy (t:Adr):Sp:=fun vs H Q _=>∃ d:WD,vs=[.str (kd d.k),.str d.name,.int d.start,.int d.fin,.int d.off,.int d.near,.int d.least]∧d.k < 3∧∀ x H',Vb H H'→(NoT H→NoT H')→ve t H' x d→H x=none→Q (.ref x) H'
noncomputable def kI (t:Adr):Sp:=fun vs H Q _=>∃ q row n wl ds d,vs=[.ref q,.int n,.ref wl]∧Fe t H q row (pk d) 0∧WOk n d∧(2 ≤ n∧n ≤ 99)∧Ak t H wl ds∧ds.length ≤ 12∧(∀ e ∈ ds,e.name ≠ d.name)∧NoT H ∧
 ∀ x H',Fc q H H'→NoT H'→ve t H' x d→H x=none→Q (.ref x) H'
theorem Ak.sameX {t:Adr} {H H':Hp} {q wl:Addr} {ds:List WD} {row:Int} {ws:List Str} {pl:Nat} (h:Ak t H wl ds) (s:Fc q H H') (r:Fe t H q row ws pl):Ak t H' wl ds:=by
 obtain ⟨as,e1,e2,al⟩:=h
 obtain ⟨hz,dx,ta,e3,e4⟩:=r
 refine ⟨as,s _ _ (Vd e1 e3 (by intro z;cases z)) e1,e2,fun i a d h1 h2=>?_⟩
 obtain ⟨hk,dx',e5⟩:=al i a d h1 h2
 refine ⟨hk,dx',s _ _ (fun z=>?_) e5⟩
 subst z
 rw [e5] at e3
 have e6:=Option.some.inj e3
 injection e6 with _ _ e8
 have e9:(7:Nat)=3:=congrArg List.length e8
 omega
theorem Ak.same {t:Adr} {H H':Hp} {wl:Addr} {ds:List WD} (h:Ak t H wl ds) (s:Vb H H'):Ak t H' wl ds:=by
 obtain ⟨as,e1,e2,al⟩:=h
 exact ⟨as,s _ _ e1,e2,fun i a d h1 h2=>(al i a d h1 h2).same s⟩
section
variable {P:Program} {w:World} {K:PySem.W.Frag} {mg:Str→Option Value} {base:Heap} {t:Adr}
theorem oI (T:Txt w K mg t):Jb P w K mg base CX0 5 t.fj t.gj ["reader"] (zE t):=by
 have G_RowReader_one_of:Jb P w K mg base CX0 4 t.kc t.Ac ["self","choices"] (Kt K t):=(az T).mono (by decide)
 have G_RowReader_figures:Jb P w K mg base CX0 4 t.Xb t.vc ["self","low","high"] (Iu t):=Ay T
 have G_RowReader_finish:Jb P w K mg base CX0 4 t.Xc t.Ed ["self"] (BB t):=(DH T).mono (by decide)
 refine T.Ml.ok xo (fun vs H Q E h=>?_) (fun cdv A outer s H vs Q E hr h=>?_)
 ·obtain ⟨q,row,n,rfl,_⟩:=h;rfl
 obtain ⟨q,row,n,rfl,R,hn,nt,qq⟩:=h
 refine ⟨_,(fb (Qb (Tc (pv 0) T.ub T.Jd G_RowReader_one_of hr T.Dd .nil Db (cb (se (cb ic gb)) gb)))
   (fb (Eb (i:=1) xo.nd rfl (Or.inl rfl) (Tc (pv 0) T.ub T.uc G_RowReader_figures hr T.wc .nil Db (cb (Jf rfl T.kr T.Xq) (cb (Jf rfl T.Uu T.Lu) gb))))
   (fb (Qb (Yd (pv 0) T.ub T.Dh G_RowReader_finish hr T.oh .nil Db))
   (ib (Kb (pv 1)))))),?_⟩
 obtain ⟨_,dx,ta,e1,e2⟩:=id R
 (walk_at "RD")
 refine ⟨_,_,e1,Fe.no _ _ _ (by decide +kernel),by decide,fun p hp=>?_⟩
 have s0:Vb H (upd H p (.lst [V.str (Str.ofString "ring")])):=pb hp
 refine ⟨q,row,_,0,Str.ofString "ring",p,[Str.ofString "ring"],rfl,R.same s0,rfl,SqL.of db,by simp,fun H1 s1 n1 R1=>?_⟩
 obtain ⟨_,dx1,ta1,f1,f2⟩:=id R1
 (walk_at "RD")
 refine ⟨_,_,f1,Fe.no _ _ _ (by decide +kernel),?_⟩
 have nt1:=n1 nt.upd
 refine ⟨q,row,_,1,num n,2,99,n,rfl,R1,rfl,Tj (by omega) (by omega) hn.1 hn.2,nt1,fun H2 s2 n2 R2=>?_⟩
 obtain ⟨_,dx2,ta2,g1,g2⟩:=id R2
 (walk_at "RD")
 refine ⟨_,_,g1,Fe.no _ _ _ (by decide +kernel),?_⟩
 refine ⟨q,row,_,2,rfl,R2,rfl,?_⟩
 (walk_at "RD")
 exact qq H2 (((Fc.of s0).trans s1).trans s2) (n2 nt1)
theorem FA (T:Txt w K mg t):Jb P w K mg base CX0 3 t.cf t.pf ["reader","ways"] (Zs t):=by
 have G_RowReader_ahead:Jb P w K mg base CX0 2 t.dc t.zc ["self"] (Xi t):=(Pk T).mono (by decide)
 have G_RowReader_take:Jb P w K mg base CX0 2 t.xc t.Cc ["self","good"] (zu t):=(Rx T).mono (by decide)
 have G_is_name:Jb P w K mg base CX0 2 t.Bm t.bn ["word"] KC:=SJ T
 refine T.eh.ok vj (fun vs H Q E h=>?_) (fun cdv A outer s H vs Q E hr h=>?_)
 ·obtain ⟨q,row,ws,pl,wl,ds,x,rfl,_⟩:=h;rfl
 obtain ⟨q,row,ws,pl,wl,ds,x,rfl,R,hx,hm,hW,hdl,hnew,nt,qq⟩:=h
 refine ⟨_,(fb (Eb (i:=2) vj.nd rfl (Or.inl rfl) (Yd (pv 0) T.ub T.pd G_RowReader_ahead hr T.md .nil Db))
   (fb (Qb (Tc (pv 0) T.ub T.ge G_RowReader_take hr T.fe .nil Db (cb (rC (xb G_is_name hr rfl T.wE T.Gp.kp T.kD .nil Db (cb (pv 2) gb)) (Iv (Pd Nh (pv 2) (Td rfl (Kc (pv 1)) (Bc (sc:=qb Zg) rfl (by decide +kernel)) (N:=["way"]) (sel:=[none]) (Uc (M:=["reader","ways","name"]) (by decide +kernel)) (Blk.of (fun _ _ _ _=>(zb (i:=0) (Je (N:=["way"]) (by decide +kernel) rfl) rfl (Or.inl rfl))) (fun _ _ _ _=>⟨_,Ee,by first | rfl | (dsimp only [Cx.block];done) | (dsimp only [Cx.block];exact rfl)⟩) (fun _ _ _ _=>⟨_,(Dc (pv 0) rfl),by first | rfl | (dsimp only [Cx.block];done) | (dsimp only [Cx.block];exact rfl)⟩))) (by with_unfolding_all rfl)))) gb)))
   (ib (Kb (pv 2))))),?_⟩
 have hlt:pl < ws.length:=(List.getElem?_eq_some_iff.mp hx).1
 have hg:ws.getD pl (Str.ofString "")=x:=by rw [List.getD_eq_getElem?_getD,hx];rfl
 obtain ⟨hz,dx,ta,e1,e2⟩:=id R
 (walk_at "RD")
 refine ⟨_,_,e1,Fe.no _ _ _ (by decide +kernel),⟨q,row,ws,pl,rfl,R,by omega,?_⟩⟩
 rw [hg]
 (walk_at "RD")
 refine ⟨_,_,e1,Fe.no _ _ _ (by decide +kernel),?_⟩
 refine ⟨x,rfl,hz.2 x (List.mem_of_getElem? hx),nt,?_⟩
 rw [hm]
 (walk_at "RD")
 obtain ⟨as,w1,w2,al⟩:=hW
 refine ⟨⟨_,SqL.of w1⟩,?_⟩
 have hle:(as.map V.ref).length ≤ sizeLine:=by rw [List.length_map,w2];exact Nat.le_trans hdl (by decide)
 refine ad.list_zs (xs:=as.map V.ref) (zs:=ds.map fun d=>V.str d.name) (SqL.of w1) hle (by rw [List.length_map,List.length_map,w2]) (fun i v z N hv hz' hN=>?_) (fun p hp=>?_)
 ·obtain ⟨a,ha,rfl⟩:=Mb hv
  obtain ⟨d,hd,rfl⟩:=Mb hz'
  (walk_at "RD")
  exact ⟨Sub.name,_,(al i a d ha hd).f_name T,hN⟩
 ·(walk_at "RD")
  have e0:(ds.map fun d=>V.str d.name)=wb (ds.map (·.name)):=by unfold wb;rw [List.map_map];rfl
  rw [e0]
  refine ⟨_,.inl (SqL.of db),rfl,Bi _,?_⟩
  rw [Jm,decide_eq_false (fun z=>by
   obtain ⟨d,hd,e⟩:=List.mem_map.mp z
   exact hnew d hd e)]
  have s0:Vb H (upd H p (.lst (wb (ds.map (·.name))))):=pb hp
  exact ⟨q,row,ws,pl,rfl,R.same s0,fun H' s1 n1 R1=>qq H' ((Fc.of s0).trans s1) (n1 nt.upd) R1⟩
theorem eM (T:Txt w K mg t):Jb P w K mg base CX0 5 t.Ek t.Ck ["reader","places","start"] (nH t):=by
 have G_RowReader_ahead:Jb P w K mg base CX0 4 t.dc t.zc ["self"] (Xi t):=(Pk T).mono (by decide)
 have G_RowReader_figures:Jb P w K mg base CX0 4 t.Xb t.vc ["self","low","high"] (Iu t):=Ay T
 refine T.En.ok Ex (fun vs H Q E h=>?_) (fun cdv A outer s H vs Q E hr h=>?_)
 ·obtain ⟨q,row,ws,pl,n,st,fi,rfl,_⟩:=h;rfl
 obtain ⟨q,row,ws,pl,n,st,fi,rfl,R,hx,hst,hfi,hne,hn,nt,qq⟩:=h
 refine ⟨_,(fb (Ge (ac zg (Yd (pv 0) T.ub T.pd G_RowReader_ahead hr T.md .nil Db) (fg dg rfl T.cE zi (cb (pv 2) gb)) (gc _)) (ib Lk) Ec)
   (ib (Kb (Tc (pv 0) T.ub T.uc G_RowReader_figures hr T.wc .nil Db (cb jb (cb (Nb el (pv 1) jb) gb)))))),?_⟩
 have hlt:pl < ws.length:=(List.getElem?_eq_some_iff.mp hx).1
 have hg:ws.getD pl (Str.ofString "")=num fi:=by rw [List.getD_eq_getElem?_getD,hx];rfl
 obtain ⟨hz,dx,ta,e1,e2⟩:=id R
 (walk_at "RD")
 refine Zb false (fun Q hQ=>?_) (fun hc=>nomatch hc) (fun _=>?_)
 ·(walk_at "RD")
  refine ⟨_,_,e1,Fe.no _ _ _ (by decide +kernel),⟨q,row,ws,pl,rfl,R,by omega,?_⟩⟩
  rw [hg]
  (walk_at "RD")
  refine ⟨Tp (by omega),?_⟩
  rw [decide_eq_false (fun z=>hne (MJ (by omega) (by omega) (by omega) (by omega) z).symm)]
  exact hQ
 ·(walk_at "RD")
  refine ⟨_,_,e1,Fe.no _ _ _ (by decide +kernel),⟨q,row,ws,pl,num fi,0,n - 1,fi,rfl,R,hx,Tj (by omega) (by omega) (by omega) (by omega),nt,fun H1 s1 n1 R1=>?_⟩⟩
  exact qq H1 s1 (n1 nt) R1
theorem lM {t:Adr} {H:Hp} {x dx:Addr} {d:WD} (hx:H x=none) (hd:H dx=none) (hk:d.k < 3) :
  Vb H (upd (upd (upd H dx (.own x)) x (.ins (t.cw d.k) dx [])) x (.ins (t.cw d.k) dx (Hr d)))∧(NoT H→NoT (upd (upd (upd H dx (.own x)) x (.ins (t.cw d.k) dx [])) x (.ins (t.cw d.k) dx (Hr d)))) ∧
   ve t (upd (upd (upd H dx (.own x)) x (.ins (t.cw d.k) dx [])) x (.ins (t.cw d.k) dx (Hr d))) x d:=
 ⟨(((Vb.refl H).updN hd).updN hx).updN hx,fun n=>((n.upd).upd).upd,hk,dx,db⟩
theorem dG (T:Txt w K mg t):Jb P w K mg base CX0 4 t.Nk t.Fk ["sort","name","start","end","off","near","least"] (Hy t):=by
 have G_CarWay_init:Jb P w K mg base CX0 2 t.ef t.Mg ["self","name","start","end","off","near","least"] (Bk t 0):=uI T
 have G_FootWay_init:Jb P w K mg base CX0 2 t.Oe t.Tf ["self","name","start","end","off","near","least"] (Bk t 1):=UG T
 have G_TramWay_init:Jb P w K mg base CX0 2 t.Le t.Pf ["self","name","start","end","off","near","least"] (Bk t 2):=kF T
 refine T.Kn.ok Sx (fun vs H Q E h=>?_) (fun cdv A outer s H vs Q E hr h=>?_)
 ·obtain ⟨d,rfl,_⟩:=h;rfl
 obtain ⟨d,rfl,hk,q⟩:=h
 refine ⟨_,(fb (Ge (ac zg (pv 0) ic (gc _)) (ib (Kb (rn T.gH G_CarWay_init hr rfl T.RF T.Hu .nil Db (cb (pv 1) (cb (pv 2) (cb (pv 3) (cb (pv 4) (cb (pv 5) (cb (pv 6) gb))))))))) Ec)
   (fb (Ge (ac zg (pv 0) ic (gc _)) (ib (Kb (rn T.TB G_FootWay_init hr rfl T.JD T.zr .nil Db (cb (pv 1) (cb (pv 2) (cb (pv 3) (cb (pv 4) (cb (pv 5) (cb (pv 6) gb))))))))) Ec)
   (ib (Kb (rn T.vE G_TramWay_init hr rfl T.PB T.Ar .nil Db (cb (pv 1) (cb (pv 2) (cb (pv 3) (cb (pv 4) (cb (pv 5) (cb (pv 6) gb))))))))))),?_⟩
 have fin:∀ (x dx:Addr),H x=none→H dx=none→Q (.ref x) (upd (upd (upd H dx (.own x)) x (.ins (t.cw d.k) dx [])) x (.ins (t.cw d.k) dx (Hr d))):=fun x dx hx hd=>by
  obtain ⟨m1,m2,m3⟩:=lM (t:=t) (d:=d) hx hd hk
  exact q x _ m1 m2 m3 hx
 obtain ⟨k,name,start,fi,off,near,least⟩:=d
 match k,hk with
 | 0,_=>
  (walk_at "RD"; repeat (simp only [kd];walk_at "RD"))
  refine Zb true (fun Q hQ=>?_) (fun _=>?_) (fun hc=>nomatch hc)
  ·(walk_at "RD")
   exact hQ
  ·(walk_at "RD")
   exact fun x dx hx hd hne=>⟨x,dx,⟨0,name,start,fi,off,near,least⟩,rfl,rfl,db,rfl,fin x dx hx hd⟩
 | 1,_=>
  (walk_at "RD"; repeat (simp only [kd];walk_at "RD"))
  refine Zb false (fun Q hQ=>?_) (fun hc=>nomatch hc) (fun _=>?_)
  ·(walk_at "RD")
   rw [decide_eq_false (by decide +kernel)]
   exact hQ
  ·(walk_at "RD")
   refine Zb true (fun Q hQ=>?_) (fun _=>?_) (fun hc=>nomatch hc)
   ·(walk_at "RD")
    exact hQ
   ·(walk_at "RD")
    exact fun x dx hx hd hne=>⟨x,dx,⟨1,name,start,fi,off,near,least⟩,rfl,rfl,db,rfl,fin x dx hx hd⟩
 | 2,_=>
  (walk_at "RD"; repeat (simp only [kd];walk_at "RD"))
  refine Zb false (fun Q hQ=>?_) (fun hc=>nomatch hc) (fun _=>?_)
  ·(walk_at "RD")
   rw [decide_eq_false (by decide +kernel)]
   exact hQ
  ·(walk_at "RD")
   refine Zb false (fun Q hQ=>?_) (fun hc=>nomatch hc) (fun _=>?_)
   ·(walk_at "RD")
    rw [decide_eq_false (by decide +kernel)]
    exact hQ
   ·(walk_at "RD")
    exact fun x dx hx hd hne=>⟨x,dx,⟨2,name,start,fi,off,near,least⟩,rfl,rfl,db,rfl,fin x dx hx hd⟩
theorem IK (T:Txt w K mg t):Jb P w K mg base CX0 6 t.Ik t.Dk ["reader","places","ways"] (kI t):=by
 have G_RowReader_one_of:Jb P w K mg base CX0 5 t.kc t.Ac ["self","choices"] (Kt K t):=(az T).mono (by decide)
 have G_RowReader_figures:Jb P w K mg base CX0 5 t.Xb t.vc ["self","low","high"] (Iu t):=(Ay T).mono (by decide)
 have G_RowReader_finish:Jb P w K mg base CX0 5 t.Xc t.Ed ["self"] (BB t):=(DH T).mono (by decide)
 have G_read_new_name:Jb P w K mg base CX0 5 t.cf t.pf ["reader","ways"] (Zs t):=(FA T).mono (by decide)
 have G_read_end:Jb P w K mg base CX0 5 t.Ek t.Ck ["reader","places","start"] (nH t):=eM T
 have G_made_way:Jb P w K mg base CX0 5 t.Nk t.Fk ["sort","name","start","end","off","near","least"] (Hy t):=(dG T).mono (by decide)
 refine T.Fn.ok Be (fun vs H Q E h=>?_) (fun cdv A outer s H vs Q E hr h=>?_)
 ·obtain ⟨q,row,n,wl,ds,d,rfl,_⟩:=h;rfl
 obtain ⟨q,row,n,wl,ds,d,rfl,R,hd,hn,hW,hdl,hnew,nt,qq⟩:=h
 refine ⟨_,(fb (Eb (i:=3) Be.nd rfl (Or.inl rfl) (Tc (pv 0) T.ub T.Jd G_RowReader_one_of hr T.Dd .nil Db (cb (se (cb ic (cb ic (cb ic gb)))) gb)))
   (fb (Eb (i:=4) Be.nd rfl (Or.inl rfl) (xb G_read_new_name hr rfl T.Rp T.eh.kp T.Aq .nil Db (cb (pv 0) (cb (pv 2) gb))))
   (fb (Eb (i:=5) Be.nd rfl (Or.inl rfl) (Tc (pv 0) T.ub T.uc G_RowReader_figures hr T.wc .nil Db (cb jb (cb (Nb el (pv 1) jb) gb))))
   (fb (Eb (i:=6) Be.nd rfl (Or.inl rfl) (xb G_read_end hr rfl T.aB T.En.kp T.Yz .nil Db (cb (pv 0) (cb (pv 1) (cb (pv 5) gb)))))
   (fb (Eb (i:=7) Be.nd rfl (Or.inl rfl) (Tc (pv 0) T.ub T.uc G_RowReader_figures hr T.wc .nil Db (cb jb (cb (Jf rfl T.iA T.Xz) gb))))
   (fb (Eb (i:=8) Be.nd rfl (Or.inl rfl) (Tc (pv 0) T.ub T.uc G_RowReader_figures hr T.wc .nil Db (cb jb (cb (Jf rfl T.zx T.Kx) gb))))
   (fb (Eb (i:=9) Be.nd rfl (Or.inl rfl) (Tc (pv 0) T.ub T.uc G_RowReader_figures hr T.wc .nil Db (cb jb (cb (Jf rfl T.nv T.gv) gb))))
   (fb (Qb (Yd (pv 0) T.ub T.Dh G_RowReader_finish hr T.oh .nil Db))
   (ib (Kb (xb G_made_way hr rfl T.VA T.Kn.kp T.bA .nil Db (cb (pv 3) (cb (pv 4) (cb (pv 5) (cb (pv 6) (cb (pv 7) (cb (pv 8) (cb (pv 9) gb)))))))))))))))))),?_⟩
 have b1:=hd.st;have b2:=hd.fi;have b3:=hd.of;have b4:=hd.nr;have b5:=hd.le
 obtain ⟨_,dx,ta,e1,e2⟩:=id R
 (walk_at "RD")
 refine ⟨_,_,e1,Fe.no _ _ _ (by decide +kernel),by decide,fun p hp=>?_⟩
 have s0:Vb H (upd H p (.lst [V.str (Str.ofString "car"),V.str (Str.ofString "foot"),V.str (Str.ofString "tram")])):=pb hp
 have hin:kd d.k ∈ [Str.ofString "car",Str.ofString "foot",Str.ofString "tram"]:=by
  have:=hd.k
  match d.k,this with
  | 0,_=>simp [kd]
  | 1,_=>simp [kd]
  | 2,_=>simp [kd]
 refine ⟨q,row,_,0,kd d.k,p,[Str.ofString "car",Str.ofString "foot",Str.ofString "tram"],rfl,R.same s0,rfl,SqL.of db,hin,fun H1 s1 n1 R1=>?_⟩
 have x1:Fc q H H1:=(Fc.of s0).trans s1
 have m1:=n1 nt.upd
 (walk_at "RD")
 refine ⟨q,row,_,1,wl,ds,d.name,rfl,R1,rfl,hd.nm,hW.sameX x1 R,hdl,hnew,m1,fun H2 s2 m2 R2=>?_⟩
 obtain ⟨_,dx2,ta2,f2,g2⟩:=id R2
 have x2:=x1.trans s2
 (walk_at "RD")
 refine ⟨_,_,f2,Fe.no _ _ _ (by decide +kernel),⟨q,row,_,2,num d.start,0,n - 1,d.start,rfl,R2,rfl,Tj (by omega) (by omega) (by omega) (by omega),m2,fun H3 s3 n3 R3=>?_⟩⟩
 have x3:=x2.trans s3
 have m3:=n3 m2
 (walk_at "RD")
 refine ⟨q,row,_,3,n,d.start,d.fin,rfl,R3,rfl,b1,b2,hd.ne,hn.2,m3,fun H4 s4 m4 R4=>?_⟩
 obtain ⟨_,dx4,ta4,f4,g4⟩:=id R4
 have x4:=x3.trans s4
 (walk_at "RD")
 refine ⟨_,_,f4,Fe.no _ _ _ (by decide +kernel),⟨q,row,_,4,num d.off,0,30,d.off,rfl,R4,rfl,Tj (by omega) (by omega) (by omega) (by omega),m4,fun H5 s5 n5 R5=>?_⟩⟩
 obtain ⟨_,dx5,ta5,f5,g5⟩:=id R5
 have x5:=x4.trans s5
 have m5:=n5 m4
 (walk_at "RD")
 refine ⟨_,_,f5,Fe.no _ _ _ (by decide +kernel),⟨q,row,_,5,num d.near,0,30,d.near,rfl,R5,rfl,Tj (by omega) (by omega) (by omega) (by omega),m5,fun H6 s6 n6 R6=>?_⟩⟩
 obtain ⟨_,dx6,ta6,f6,g6⟩:=id R6
 have x6:=x5.trans s6
 have m6:=n6 m5
 (walk_at "RD")
 refine ⟨_,_,f6,Fe.no _ _ _ (by decide +kernel),⟨q,row,_,6,num d.least,1,60,d.least,rfl,R6,rfl,Tj (by omega) (by omega) (by omega) (by omega),m6,fun H7 s7 n7 R7=>?_⟩⟩
 obtain ⟨_,dx7,ta7,f7,g7⟩:=id R7
 have x7:=x6.trans s7
 have m7:=n7 m6
 (walk_at "RD")
 refine ⟨_,_,f7,Fe.no _ _ _ (by decide +kernel),⟨q,row,_,7,rfl,R7,rfl,?_⟩⟩
 (walk_at "RD")
 refine ⟨d,rfl,hd.k,fun x H8 s8 n8 w8 hx8=>?_⟩
 refine qq x H8 (x7.trans (Fc.of s8)) (n8 m7) w8 ?_
 cases hH:H x with
 | none=>rfl
 | some u=>
  by_cases hxq:x=q
  ·subst hxq;rw [f7] at hx8;cases hx8
  ·rw [x7 x u hxq hH] at hx8;cases hx8
end
end My
namespace My
open PySem L2
noncomputable abbrev GA:List Str:=[Str.ofString "places",Str.ofString "ways",Str.ofString "numbers"]
noncomputable def cF (n:Int) (wl nd:Addr):List (Str × V):=[(Str.ofString "places",.int n),(Str.ofString "ways",.ref wl),(Str.ofString "numbers",.ref nd)]
theorem nu (n:Int) (wl nd:Addr):(cF n wl nd).map (·.1)=GA:=rfl
noncomputable def nm (ds:List WD) (i:Nat):Str:=((ds[i]?).map (·.name)).getD (Str.ofString "")
noncomputable def oB (ds:List WD) (i:Nat):List (Key × V):=(List.range i).map fun j=>(Sum.inr (nm ds j),V.int j)
theorem Eo {ds:List WD} {i:Nat} {d:WD} (h:ds[i]? = some d):nm ds i=d.name:=by unfold nm;rw [h];rfl
theorem jt {ds:List WD} (h:(ds.map (·.name)).Nodup) {i j:Nat} (hi:i < ds.length) (hj:j < ds.length) (e:nm ds i=nm ds j):i=j:=by
 rw [Eo (List.getElem?_eq_getElem hi),Eo (List.getElem?_eq_getElem hj)] at e
 have:=(List.getElem_inj (xs:=ds.map (·.name)) (i:=i) (j:=j) (h₀:=by rw [List.length_map];exact hi) (h₁:=by rw [List.length_map];exact hj) h).mp (by rw [List.getElem_map,List.getElem_map];exact e)
 exact this
theorem aH {ds:List WD} (h:(ds.map (·.name)).Nodup) {i:Nat}:∀ {n:Nat},i < n→n ≤ ds.length→wg (oB ds n) (Sum.inr (nm ds i))=some (.int i):=by
 intro n
 induction n with
 | zero=>intro hi _;omega
 | succ n ih=>
  intro hi hn
  unfold oB wg
  rw [List.range_succ,List.map_append,List.find?_append]
  by_cases c:i < n
  ·have:=ih c (by omega)
   unfold oB wg at this
   cases e:List.find? (fun kv=>decide (kv.fst=Sum.inr (nm ds i))) (List.map (fun j=>((Sum.inr (nm ds j):Key),V.int j)) (List.range n)) with
   | none=>rw [e] at this;cases this
   | some p=>rw [e] at this;exact this
  ·have e:i=n:=by omega
   subst e
   have no:List.find? (fun kv=>decide (kv.fst=Sum.inr (nm ds i))) (List.map (fun j=>((Sum.inr (nm ds j):Key),V.int j)) (List.range i))=none:=by
    rw [List.find?_eq_none]
    intro p hp
    obtain ⟨j,hj,rfl⟩:=List.mem_map.mp hp
    have hj':=List.mem_range.mp hj
    simp only [decide_eq_true_eq]
    intro z
    have:=jt h (by omega) (by omega) (Sum.inr.inj z)
    omega
   rw [no]
   simp
theorem dF {ds:List WD} (h:(ds.map (·.name)).Nodup) {n:Nat} (hn:n < ds.length):Rk (oB ds n) (Sum.inr (nm ds n)) (.int n)=oB ds (n + 1):=by
 unfold Rk
 have no:((oB ds n).any fun kv=>decide (kv.1=Sum.inr (nm ds n)))=false:=by
  rw [List.any_eq_false]
  intro p hp
  obtain ⟨j,hj,rfl⟩:=List.mem_map.mp hp
  have hj':=List.mem_range.mp hj
  simp only [decide_eq_true_eq]
  intro z
  have:=jt h (by omega) hn (Sum.inr.inj z)
  omega
 rw [no]
 unfold oB
 rw [List.range_succ,List.map_append]
 rfl
theorem Qg {H H1 H2:Hp} {q:Addr} (a:Vb H H1) (b:Fc q H1 H2) (n:H q=none):Vb H H2:=fun c u e=>b c u (vb e n) (a c u e)
theorem xJ {t:Adr} {H:Hp} {p q:Addr} {i j:Int} {ws vs:List Str} {k l:Nat} (a:Fe t H p i ws k) (b:Fe t H q j vs l) (n:i ≠ j):p ≠ q:=fun z=>by
 subst z
 obtain ⟨_,dx,ta,e1,_⟩:=a
 obtain ⟨_,dx',ta',e2,_⟩:=b
 rw [e1] at e2
 have e3:=Option.some.inj e2
 injection e3 with _ _ e4
 unfold rdF at e4
 injection e4 with e5 _
 injection e5 with _ e6
 injection e6 with e7
 exact n e7
theorem pw {t:Adr} {H:Hp} {p q:Addr} {d:WD} {j:Int} {vs:List Str} {l:Nat} (a:ve t H p d) (b:Fe t H q j vs l):p ≠ q:=fun z=>by
 subst z
 obtain ⟨_,dx,e1⟩:=a
 obtain ⟨_,dx',ta',e2,_⟩:=b
 rw [e1] at e2
 have e3:=Option.some.inj e2
 injection e3 with _ _ e4
 exact absurd (congrArg List.length e4) (by show ¬ (7:Nat)=3;decide)
noncomputable def Qc (t:Adr) (H:Hp) (c:Addr) (n:Int) (ds:List WD):Prop:=
 ((ds.map (·.name)).Nodup∧ds.length ≤ 12)∧∃ dx wl nd,H c=some (.ins t.Pb dx (cF n wl nd))∧Ak t H wl ds∧H nd=some (.dK (oB ds ds.length))
theorem Qc.same {t:Adr} {H H':Hp} {c:Addr} {n:Int} {ds:List WD} (h:Qc t H c n ds) (s:Vb H H'):Qc t H' c n ds:=by
 obtain ⟨h0,dx,wl,nd,e1,e2,e3⟩:=h
 exact ⟨h0,dx,wl,nd,s _ _ e1,e2.same s,s _ _ e3⟩
theorem lB {m:Str} (n:Int) (wl nd:Addr) (h:GA.contains m=false):(cF n wl nd).lookup m=none:=Lm GA (nu ..) h
section
variable {w:World} {K:PySem.W.Frag} {mg:Str→Option Value} {t:Adr} {H:Hp} {c dx wl nd:Addr} {n:Int}
theorem tF (T:Txt w K mg t) (e:H c=some (.ins t.Pb dx (cF n wl nd))):Li K H c (Str.ofString "places") (.int n):=⟨_,dx,_,e,T.jc,T.Hh,Kd GA 0 (nu ..) (by decide +kernel) rfl⟩
theorem qH (T:Txt w K mg t) (e:H c=some (.ins t.Pb dx (cF n wl nd))):Li K H c (Str.ofString "ways") (.ref wl):=⟨_,dx,_,e,T.jc,T.tj,Kd GA 1 (nu ..) (by decide +kernel) rfl⟩
theorem Jp (T:Txt w K mg t) (e:H c=some (.ins t.Pb dx (cF n wl nd))):Li K H c (Str.ofString "numbers") (.ref nd):=⟨_,dx,_,e,T.jc,T.kh,Kd GA 2 (nu ..) (by decide +kernel) rfl⟩
end
noncomputable def WH (t:Adr):Sp:=fun vs H Q _=>∃ c dx n wl ds,vs=[.ref c,.int n,.ref wl]∧H c=some (.ins t.Pb dx [])∧Ak t H wl ds∧(ds.map (·.name)).Nodup∧ds.length ≤ 12∧NoT H ∧
 ∀ H',Fc c H H'→NoT H'→Qc t H' c n ds→Q .non H'
noncomputable def YK (t:Adr):Sp:=fun vs H Q _=>∃ n ds,vs=[.str (Wt n ds)]∧COk n ds∧NoT H∧∀ c H',Vb H H'→NoT H'→Qc t H' c n ds→Q (.ref c) H'
noncomputable def Qo (t:Adr):Sp:=fun vs H Q _=>∃ c n ds,vs=[.ref c]∧Qc t H c n ds∧∀ p,H p=none→Q (.ref p) (upd H p (.lst (wb (ds.map (·.name)))))
noncomputable def Gw (t:Adr):Sp:=fun vs H Q _=>∃ c n ds,∃ i:Nat,∃ d,vs=[.ref c,.str d.name]∧Qc t H c n ds∧ds[i]? = some d∧Q (.int (i:Nat)) H
noncomputable def Gi (t:Adr):Sp:=fun vs H Q _=>∃ c n ds,∃ i:Nat,∃ d,vs=[.ref c,.str d.name]∧Qc t H c n ds∧ds[i]? = some d∧∀ a,ve t H a d→Q (.ref a) H
section
variable {P:Program} {w:World} {K:PySem.W.Frag} {mg:Str→Option Value} {base:Heap} {t:Adr}
theorem GL (T:Txt w K mg t):Jb P w K mg base CX0 1 t.Ae t.uf ["self","places","ways"] (WH t):=by
 refine T.Lj.ok Ke (fun vs H Q E h=>?_) (fun cdv A outer s H vs Q E hr h=>?_)
 ·obtain ⟨c,dx,n,wl,ds,rfl,_⟩:=h;rfl
 obtain ⟨c,dx,n,wl,ds,rfl,hc,hW,hnd,hdl,nt,q⟩:=h
 have hu:=Zp hr
 refine ⟨_,(fb (Pe (pv 0) (pv 1) rfl)
   (fb (Pe (pv 0) (pv 2) rfl)
   (fb (Pe (pv 0) cz rfl)
   (ib (Xd PassesOwn.never rfl (Pu rfl T.Pi (cb (pv 2) gb)) (Hf (K:=K) (n:=2) rfl rfl (Ob (zb (i:=3) Ke.nd rfl (Or.inl rfl) (.inl rfl)) (Ob (zb (i:=4) Ke.nd rfl (Or.inl rfl) (.inl rfl)) Ff))) (ib (IC hu (Dc (pv 0) rfl) (Dc (pv 4) rfl) (pv 3) rfl))))))),?_⟩
 (walk_at "RD")
 refine ⟨_,_,_,hc,T.jc,T.Hh,by decide,?_⟩
 refine ⟨_,_,_,db,T.jc,T.tj,Ko (n:=999) (by decide),fun nd hn=>?_⟩
 simp only [Wg] at hn ⊢
 rw [show yg (Str.ofString "places") (V.int n) ([]:List (Str × V))=[(Str.ofString "places",V.int n)] from rfl,show yg (Str.ofString "ways") (V.ref wl) [(Str.ofString "places",V.int n)]=[(Str.ofString "places",V.int n),(Str.ofString "ways",V.ref wl)] from Jc [Str.ofString "places"] rfl (by decide +kernel)] at hn ⊢
 have hnc:c ≠ nd:=fun z=>by subst z;rw [db] at hn;cases hn
 refine ⟨t.Pb,dx,[(Str.ofString "places",V.int n),(Str.ofString "ways",V.ref wl)],by rw [lb hnc];exact db,T.jc,T.kh,show (2:Nat) < 1000 by decide,?_⟩
 rw [show yg (Str.ofString "numbers") (V.ref nd) [(Str.ofString "places",V.int n),(Str.ofString "ways",V.ref wl)]=cF n wl nd from Jc [Str.ofString "places",Str.ofString "ways"] rfl (by decide +kernel)]
 obtain ⟨as,w1,w2,al⟩:=hW
 have hHn:H nd=none:=by rw [lb (Ne.symm hnc)] at hn;exact hn
 have sx:Fc c H (upd (upd (upd H c (.ins t.Pb dx [(Str.ofString "places",V.int n),(Str.ofString "ways",V.ref wl)])) nd (.dK [])) c (.ins t.Pb dx (cF n wl nd))):=fun b u hb e=>by
  rw [lb hb,lb (vb e hHn),lb hb];exact e
 have hwc:wl ≠ c:=Vd w1 hc (by intro z;cases z)
 refine ⟨⟨_,SqL.of (sx _ _ hwc w1)⟩,?_⟩
 refine Fi.enum (xs:=as.map V.ref) (fun i σ H'=>(∃ x y,σ=[some (V.ref c),some (V.int n),some (V.ref wl),x,y])∧H' c=some (.ins t.Pb dx (cF n wl nd))∧H' nd=some (.dK (oB ds i))∧Fc c H H'∧NoT H') ?_ ?_ ?_ ?_
 ·exact ⟨⟨_,_,rfl⟩,db,by rw [lb (Ne.symm hnc),db];rfl,sx,((nt.upd).upd).upd⟩
 ·rintro i σ H' hi zzq
  refine zzP fun zzM zzh=>?_
  obtain ⟨_,_,_,sx',_⟩:=zzq
  subst zzh
  exact SqL.of (sx' _ _ hwc w1)
 ·rintro i v σ H' p hv ⟨⟨x,y,rfl⟩,h1,h2,sx',nt'⟩ hp
  obtain ⟨a,ha,rfl⟩:=Mb hv
  obtain ⟨hi,_⟩:=List.getElem?_eq_some_iff.mp ha
  have hid:i < ds.length:=by omega
  have hd:ds[i]? = some ds[i]:=List.getElem?_eq_getElem hid
  have Wa:ve t H a ds[i]:=al i a _ ha hd
  have hac:a ≠ c:=by
   obtain ⟨_,dx',e⟩:=Wa
   intro z
   subst z
   rw [hc] at e
   have e2:=Option.some.inj e
   injection e2 with _ _ e3
   exact absurd (congrArg List.length e3) (by show ¬ (0:Nat)=7;decide)
  have Wa':ve t H' a ds[i]:=⟨Wa.1,Wa.2.imp fun dx' e=>sx' _ _ hac e⟩
  have sp:Vb H' (upd H' p (.tup [.int i,.ref a])):=pb hp
  refine lm ?_
  (walk_at "RD")
  refine ⟨_,Jp T (sp _ _ h1),_,(Wa'.same sp).f_name T,_,rfl,_,EE.k (k:=Sum.inr ds[i].name) (sp _ _ h2) (Nat.lt_of_le_of_lt (show (oB ds i).length ≤ 12 by unfold oB;rw [List.length_map,List.length_range];omega) (by decide)),?_⟩
  rw [← Eo hd,dF hnd hid]
  refine ⟨⟨_,rfl⟩,?_,db,fun b u hb e=>?_,(nt'.upd).upd⟩
  ·rw [lb hnc];exact sp _ _ h1
  ·rw [lb (vb e hHn)];exact sp _ _ (sx' b u hb e)
 ·rintro σ H' zzq
  refine zzP fun zzM zzh=>?_
  obtain ⟨⟨x,y,rfl⟩,h1,h2,sx',nt'⟩:=zzq
  subst zzh
  (walk_at "RD")
  rw [List.length_map,w2] at h2
  refine q H' sx' nt' ⟨⟨hnd,hdl⟩,dx,wl,nd,h1,⟨as,sx' _ _ hwc w1,w2,fun i a d h3 h4=>?_⟩,h2⟩
  have Wa:=al i a d h3 h4
  have hac:a ≠ c:=by
   obtain ⟨_,dx',e⟩:=Wa
   intro z
   subst z
   rw [hc] at e
   have e2:=Option.some.inj e
   injection e2 with _ _ e3
   exact absurd (congrArg List.length e3) (by show ¬ (0:Nat)=7;decide)
  exact ⟨Wa.1,Wa.2.imp fun dx' e=>sx' _ _ hac e⟩
theorem aD (T:Txt w K mg t):Jb P w K mg base CX0 1 t.Ud t.Ie ["self","name"] (Gw t):=by
 refine T.Hi.ok Xm (fun vs H Q E h=>?_) (fun cdv A outer s H vs Q E hr h=>?_)
 ·obtain ⟨c,n,ds,i,d,rfl,_⟩:=h;rfl
 obtain ⟨c,n,ds,i,d,rfl,⟨⟨hnd,hdl⟩,dx,wl,nd,e1,e2,e3⟩,hd,q⟩:=h
 have hu:=Zp hr
 have hv:wg (oB ds ds.length) (Sum.inr d.name)=some (.int i):=by
  rw [← Eo hd]
  exact aH hnd (List.getElem?_eq_some_iff.mp hd).1 (Nat.le_refl _)
 have hg:Nu H nd (.str d.name) (some (.int i)):=by rw [← hv];exact Nu.k (k:=Sum.inr d.name) e3
 refine ⟨_,(fb (Ge (OH (mw hu (pv 1) (Dc (pv 0) rfl))) (ib Lk) Ec)
   (ib (Kb (Mu hu (Dc (pv 0) rfl) (pv 1) (fun _ _=>rfl))))),?_⟩
 (walk_at "RD")
 refine Zb false (fun Q hQ=>?_) (fun hc=>nomatch hc) (fun _=>?_)
 ·(walk_at "RD")
  refine ⟨_,Jp T e1,_,rfl,_,hg,?_⟩
  exact hQ
 ·(walk_at "RD")
  exact ⟨_,Jp T e1,_,rfl,_,hg,q⟩
theorem Fj (T:Txt w K mg t):Jb P w K mg base CX0 2 t.yc t.Gc ["self","name"] (Gi t):=by
 have G_Crossing_number:Jb P w K mg base CX0 1 t.Ud t.Ie ["self","name"] (Gw t):=aD T
 refine T.ni.ok Rm (fun vs H Q E h=>?_) (fun cdv A outer s H vs Q E hr h=>?_)
 ·obtain ⟨c,n,ds,i,d,rfl,_⟩:=h;rfl
 obtain ⟨c,n,ds,i,d,rfl,C,hd,q⟩:=h
 obtain ⟨⟨hnd,hdl⟩,dx,wl,nd,e1,⟨as,w1,w2,al⟩,e3⟩:=id C
 refine ⟨_,(ib (Kb (lc bc (Dc (pv 0) rfl) (Tc (pv 0) T.jc T.zn G_Crossing_number hr T.Jn .nil Db (cb (pv 1) gb)) (fun _ _=>rfl)))),?_⟩
 (walk_at "RD")
 refine ⟨_,qH T e1,_,_,e1,lB _ _ _ (by decide +kernel),⟨c,n,ds,i,d,rfl,C,hd,?_⟩⟩
 have hi:i < as.length:=by rw [w2];exact (List.getElem?_eq_some_iff.mp hd).1
 have ha:as[i]? = some as[i]:=List.getElem?_eq_getElem hi
 (walk_at "RD")
 refine ⟨_,SqL.of w1,_,Fb (show (as.map V.ref)[i]? = some (V.ref as[i]) by rw [List.getElem?_map,ha];rfl),?_⟩
 exact q as[i] (al i _ d ha hd)
theorem WM (T:Txt w K mg t):Jb P w K mg base CX0 7 t.zf t.gf ["text"] (YK t):=by
 have G_readers:Jb P w K mg base CX0 6 t.fk t.vk ["text"] (wn t):=(Ps T).mono (by decide)
 have G_read_ring:Jb P w K mg base CX0 6 t.fj t.gj ["reader"] (zE t):=(oI T).mono (by decide)
 have G_read_way:Jb P w K mg base CX0 6 t.Ik t.Dk ["reader","places","ways"] (kI t):=IK T
 have G_Crossing_init:Jb P w K mg base CX0 5 t.Ae t.uf ["self","places","ways"] (WH t):=(GL T).mono (by decide)
 refine T.gh.ok je (fun vs H Q E h=>?_) (fun cdv A outer s H vs Q E hr h=>?_)
 ·obtain ⟨n,ds,rfl,_⟩:=h;rfl
 obtain ⟨n,ds,rfl,hC,nt,qq⟩:=h
 refine ⟨_,(fb (Eb (i:=1) je.nd rfl (Or.inl rfl) (xb G_readers hr rfl T.iw T.Km.kp T.xv .nil Db (cb (pv 0) gb)))
   (fb (Eb (i:=2) je.nd rfl (Or.inl rfl) (xb G_read_ring hr rfl T.xx T.Ml.kp T.Bx .nil Db (cb (lc bc (pv 1) jb (fun _ _=>rfl)) gb)))
   (fb (Eb (i:=3) je.nd rfl (Or.inl rfl) (se gb))
   (fb (Xd PassesOwn.never rfl (Kc (Ni LC (pv 1) (fm jb) Wl)) (zb (i:=4) je.nd rfl (Or.inl rfl)) (fb (Ge (ac zg (nc Lb rfl T.Xh fc (cb (pv 3) gb)) (Jf rfl T.jy T.By) (gc _)) (ib Lk) Ec)
   (ib (Qb (Df PySem.F.plainAttrs_list PySem.F.slot_list_append PySem.F.type_list_append yd (pv 3) (cb (xb G_read_way hr rfl T.nA T.Fn.kp T.Sz .nil Db (cb (pv 4) (cb (pv 2) (cb (pv 3) gb)))) gb))))))
   (fb (Ge (vt (yz (pv 3) (fun _=>rfl))) (ib Lk) Ec)
   (ib (Kb (rn T.MA G_Crossing_init hr rfl T.Qz T.Iq .nil Db (cb (pv 2) (cb (pv 3) gb)))))))))),?_⟩
 have hrow:=dA hC
 have hlen:=wC hC
 have hnn:=hC.nn
 have hln:=hC.ln
 (walk_at "RD")
 refine ⟨Wt n ds,rfl,by omega,?_,nt,fun p H1 sm1 nt1 R=>?_⟩
 ·rw [hrow]
  intro r hr
  refine ⟨?_,fun x hx=>Nat.le_trans (hC.plain r hr x hx).1 (by decide)⟩
  rcases List.mem_cons.mp hr with rfl | hr
  ·show (2:Nat) ≤ 1000;decide
  ·obtain ⟨d,hd,rfl⟩:=List.mem_map.mp hr
   show (7:Nat) ≤ 1000;decide
 rw [hrow] at R
 obtain ⟨qs,hp,hp0,hql,hqa⟩:=R
 have hql':qs.length=ds.length + 1:=by rw [hql];simp [gi]
 obtain ⟨q0,qr,rfl⟩:∃ q0 qr,qs=q0 :: qr:=by
  cases qs with
  | nil=>simp at hql'
  | cons a b=>exact ⟨a,b,rfl⟩
 obtain ⟨R0,hq0⟩:=hqa 0 q0 _ rfl rfl
 (walk_at "RD")
 refine ⟨_,SqL.of hp,_,Fb (j:=0) rfl,⟨q0,_,n,rfl,R0,hnn,nt1,fun H2 s2 nt2=>⟨Nat.zero_le _,fun wl hwl=>?_⟩⟩⟩
 obtain ⟨C0,dq0,fq0,hins⟩:=R0.ins
 have hpq:p ≠ q0:=Vd hp hins (by intro z;cases z)
 have hp2:H2 p=some (.lst ((q0 :: qr).map V.ref)):=s2 _ _ hpq hp
 have swl:Vb H2 (upd H2 wl (.lst [])):=pb hwl
 have hcut:LA ((q0 :: qr).map V.ref) (some 1) none=qr.map V.ref:=by
  unfold LA
  simp [HT.sIx]
  exact List.take_of_length_le (by rw [List.length_map];exact Nat.le_refl _)
 refine ⟨_,SqL.of (swl _ _ hp2),fun pc hpc=>?_⟩
 rw [hcut]
 have hpw:pc ≠ wl:=fun z=>by subst z;rw [db] at hpc;cases hpc
 have spc:Vb (upd H2 wl (.lst [])) (upd (upd H2 wl (.lst [])) pc (.lst (qr.map V.ref))):=pb hpc
 refine ⟨⟨_,SqL.of db⟩,?_⟩
 have sH2:Vb H H2:=Qg sm1 s2 hq0
 have hqrl:qr.length=ds.length:=by simpa using hql'
 refine Fi.list (xs:=qr.map V.ref) (fun i σ H'=>(∃ x,σ=[some (V.str (Wt n ds)),some (V.ref p),some (V.int n),some (V.ref wl),x])∧NoT H'∧Vb H H'∧H' pc=some (.lst (qr.map V.ref))∧H wl=none∧Ak t H' wl (ds.take i) ∧
  ∀ (j:Nat) (q:Addr) (d:WD),i ≤ j→qr[j]? = some q→ds[j]? = some d→Fe t H' q ((j + 1:Nat):Int) (pk d) 0∧H q=none) ?_ ?_ ?_ ?_
 ·refine ⟨⟨_,rfl⟩,(nt2.upd).upd,(sH2.trans swl).trans spc,db,sH2.free hwl,⟨[],spc _ _ db,rfl,fun j a d h=>by simp at h⟩,fun j q d _ h1 h2=>?_⟩
  have hr:(gi n ds)[j + 1]? = some (pk d):=by
   unfold gi
   rw [List.getElem?_cons_succ,List.getElem?_map,h2];rfl
  obtain ⟨Rj,hqj⟩:=hqa (j + 1) q _ (by rw [List.getElem?_cons_succ];exact h1) hr
  refine ⟨((Rj.sameX s2 (xJ Rj R0 (by omega)) R0.ins).same swl).same spc,hqj⟩
 ·rintro i σ H' hi zzq
  refine zzP fun zzM zzh=>?_
  obtain ⟨_,_,_,h,_⟩:=zzq
  subst zzh
  exact SqL.of h
 ·rintro i v σ H' hv zzq
  refine zzP fun zzM zzh=>?_
  obtain ⟨⟨x,rfl⟩,nt',sm',hpc',hwl0,W,Rs⟩:=zzq
  obtain ⟨q,hq,rfl⟩:=Mb hv
  obtain ⟨hi,_⟩:=List.getElem?_eq_some_iff.mp hq
  have hid:i < ds.length:=by omega
  have hd:ds[i]? = some ds[i]:=List.getElem?_eq_getElem hid
  obtain ⟨Rq,hqn⟩:=Rs i q _ (Nat.le_refl _) hq hd
  have htl:(ds.take i).length=i:=by rw [List.length_take];omega
  obtain ⟨as,w1,w2,al⟩:=id W
  subst zzh
  (walk_at "RD")
  refine Zb false (fun Q hQ=>?_) (fun hc=>nomatch hc) (fun _=>?_)
  ·(walk_at "RD")
   refine ⟨_,.inl (SqL.of w1),?_⟩
   rw [List.length_map,w2,htl]
   rw [decide_eq_false (by omega)] <;> exact hQ
  ·(walk_at "RD")
   refine ⟨.inl ⟨_,SqL.of w1⟩,?_⟩
   refine ⟨q,_,n,wl,ds.take i,ds[i],rfl,Rq,hC.al _ (List.getElem_mem hid),hnn,W,by omega,fun e he z=>?_,nt',fun y H3 s3 nt3 w3 hy3=>?_⟩
   ·obtain ⟨j,hj,rfl⟩:=List.getElem_of_mem he
    rw [List.getElem_take] at z
    have hj':j < i:=by omega
    have:=jt hC.nd (i:=j) (j:=i) (by omega) hid (by rw [Eo (List.getElem?_eq_getElem (by omega)),Eo hd];exact z)
    omega
   ·(walk_at "RD")
    obtain ⟨Cq,dq,fq,hqi⟩:=Rq.ins
    have hwq:wl ≠ q:=Vd w1 hqi (by intro z;cases z)
    have hw3:H3 wl=some (.lst (as.map V.ref)):=s3 _ _ hwq w1
    have hsm3:Vb H H3:=Qg sm' s3 hqn
    refine ⟨_,hw3,Nat.lt_of_le_of_lt (show (as.map V.ref).length ≤ 12 by rw [List.length_map];omega) (by decide),?_⟩
    have hyw:y ≠ wl:=fun z=>by
     subst z
     rw [w1] at hy3;cases hy3
    refine ⟨⟨_,rfl⟩,nt3.upd,fun b u e=>?_,?_,hwl0,⟨as ++ [y],by rw [db,List.map_append];rfl,?_,fun j a d h1 h2=>?_⟩,fun j q' d hj h1 h2=>?_⟩
    ·rw [lb (vb e hwl0)];exact hsm3 _ _ e
    ·rw [lb hpw]
     exact s3 _ _ (Vd hpc' hqi (by intro z;cases z)) hpc'
    ·rw [List.length_append,w2,htl,List.length_take];show i + 1=_;omega
    ·by_cases hj:j < as.length
     ·rw [List.getElem?_append_left hj] at h1
      have h2':(ds.take i)[j]? = some d:=by
       rw [List.getElem?_take_of_lt (by omega)]
       rw [List.getElem?_take_of_lt (by omega)] at h2
       exact h2
      obtain ⟨hk,dx',e⟩:=al j a d h1 h2'
      have haq:a ≠ q:=pw ⟨hk,dx',e⟩ Rq
      have haw:a ≠ wl:=Vd e w1 (by intro z;cases z)
      exact ⟨hk,dx',by rw [lb haw];exact s3 _ _ haq e⟩
     ·rw [List.getElem?_append_right (by omega)] at h1
      have hj0:j - as.length=0:=by
       cases hh:j - as.length with
       | zero=>rfl
       | succ m=>rw [hh] at h1;simp at h1
      rw [hj0] at h1
      have e3:y=a:=by simpa using h1
      subst e3
      have e4:j=i:=by omega
      subst e4
      rw [List.getElem?_take_of_lt (by omega),hd] at h2
      cases h2
      exact ⟨w3.1,w3.2.imp fun dx' e=>by rw [lb hyw];exact e⟩
    ·obtain ⟨Rj,hqj⟩:=Rs j q' d (by omega) h1 h2
     have R3:=Rj.sameX s3 (xJ Rj Rq (by omega)) Rq.ins
     refine ⟨?_,hqj⟩
     obtain ⟨hz,dx',ta,e1,e2⟩:=R3
     refine ⟨hz,dx',ta,by rw [lb (Vd e1 hw3 (by intro z;cases z))];exact e1,?_⟩
     rw [lb (fun z=>by
      subst z
      rw [hw3] at e2
      have e5:=Option.some.inj e2
      injection e5 with e6
      cases as with
      | nil=>exact absurd (congrArg List.length e6) (by show ¬ (0:Nat)=7;decide)
      | cons a r=>injection e6 with e7 _;cases e7)]
     exact e2
 ·rintro σ H' zzq
  refine zzP fun zzM zzh=>?_
  obtain ⟨⟨x,rfl⟩,nt',sm',hpc',hwl0,W,Rs⟩:=zzq
  subst zzh
  rw [List.length_map,hqrl,List.take_length] at W
  obtain ⟨as,w1,w2,al⟩:=id W
  (walk_at "RD")
  refine Zb false (fun Q hQ=>?_) (fun hc=>nomatch hc) (fun _=>?_)
  ·(walk_at "RD")
   refine ⟨true,.inl ⟨_,SqL.of w1,?_⟩,hQ⟩
   cases as with
   | nil=>simp at w2;omega
   | cons a r=>rfl
  ·(walk_at "RD")
   intro c dx hc hdx hne
   have sc:Vb H' (upd (upd H' dx (.own c)) c (.ins t.Pb dx [])):=((Vb.refl H').updN hdx).updN hc
   refine ⟨c,dx,n,wl,ds,rfl,db,W.same sc,hC.nd,hln.2,(nt'.upd).upd,fun H5 s5 nt5 C5=>⟨rfl,?_⟩⟩
   exact qq c H5 (Qg (sm'.trans sc) s5 (sm'.free hc)) nt5 C5
end
section
variable {P:Program} {w:World} {K:PySem.W.Frag} {mg:Str→Option Value} {base:Heap} {t:Adr}
theorem Qu (T:Txt w K mg t):Jb P w K mg base CX0 1 t.Zc t.Cd ["self"] (Qo t):=by
 refine T.yj.ok yn (fun vs H Q E h=>?_) (fun cdv A outer s H vs Q E hr h=>?_)
 ·obtain ⟨c,n,ds,rfl,_⟩:=h;rfl
 obtain ⟨c,n,ds,rfl,⟨⟨hnd,hdl⟩,dx,wl,nd,e1,⟨as,w1,w2,al⟩,e3⟩,q⟩:=h
 refine ⟨_,(ib (Kb (Td rfl (Kc (Dc (pv 0) rfl)) (Bc (sc:=qb xg) rfl (by decide +kernel)) (N:=["way"]) (sel:=[none]) (Uc (M:=["self"]) (by decide +kernel)) (Blk.of (fun _ _ _ _=>(zb (i:=0) (Je (N:=["way"]) (by decide +kernel) rfl) rfl (Or.inl rfl))) (fun _ _ _ _=>⟨_,Ee,by first | rfl | (dsimp only [Cx.block];done) | (dsimp only [Cx.block];exact rfl)⟩) (fun _ _ _ _=>⟨_,(Dc (pv 0) rfl),by first | rfl | (dsimp only [Cx.block];done) | (dsimp only [Cx.block];exact rfl)⟩))))),?_⟩
 (walk_at "RD")
 refine ⟨_,qH T e1,_,rfl,⟨_,SqL.of w1⟩,?_⟩
 refine ad.list_zs (xs:=as.map V.ref) (zs:=wb (ds.map (·.name))) (SqL.of w1) (by rw [List.length_map,w2];exact Nat.le_trans hdl (by decide)) (by rw [Rb,List.length_map,List.length_map,w2]) (fun i v z N hv hz' hN=>?_) (fun p hp=>q p hp)
 obtain ⟨a,ha,rfl⟩:=Mb hv
 obtain ⟨x,hx,rfl⟩:=Mb hz'
 obtain ⟨d,hd,rfl⟩:=Mb hx
 (walk_at "RD")
 exact ⟨Sub.name,_,(al i a d ha hd).f_name T,hN⟩
end
end My
namespace My
open PySem L2
theorem jz {n s p:Int} (h0:0 ≤ s) (h1:s < n) (h2:0 ≤ p) (h3:p < n):(p - s) % n=if s ≤ p then p - s else p - s + n:=by
 split
 ·rename_i h;exact Int.emod_eq_of_lt (by omega) (by omega)
 ·rename_i h
  have e:(p - s) % n=(p - s + n) % n:=(Int.add_emod_right ..).symm
  rw [e]
  exact Int.emod_eq_of_lt (by omega) (by omega)
noncomputable def Sl (n s f p:Int):Bool:=decide (0 < (p - s) % n) && decide ((p - s) % n < (f - s) % n)
noncomputable def vx (n s f s2 f2:Int):Bool:=decide (f=f2) || (if (s2=s∨s2=f)∨(f2=s∨f2=f) then false else (Sl n s f s2 != Sl n s f f2))
theorem yG {s f p:Int} (h1:p ≠ s) (h2:p ≠ f) (h3:s ≠ f):((decide (s < f) && decide (f < p) && !decide (s < p)) || (!decide (s < f) && !decide (f < p) && decide (s < p)))=false:=by
 by_cases a:s < f <;> by_cases b:f < p
 ·rw [decide_eq_true a,decide_eq_true b,decide_eq_true (show s < p by omega)];rfl
 ·rw [decide_eq_true a,decide_eq_false b];rfl
 ·rw [decide_eq_false a,decide_eq_true b];rfl
 ·rw [decide_eq_false a,decide_eq_false b,decide_eq_false (show ¬ s < p by omega)];rfl
theorem Nz {s p:Int} (h:s ≠ p):decide (p < s) = !decide (s < p):=by
 by_cases a:s < p
 ·rw [decide_eq_true a,decide_eq_false (by omega)];rfl
 ·rw [decide_eq_false a,decide_eq_true (by omega)];rfl
theorem Ju {n s f p:Int} (hs:0 ≤ s∧s < n) (hf:0 ≤ f∧f < n) (hp:0 ≤ p∧p < n) (h1:p ≠ s) (h2:p ≠ f) (h3:s ≠ f):Sl n s f p=((decide (s < p) && decide (p < f)) || (decide (p < f) && decide (f < s)) || (decide (f < s) && decide (s < p))):=by
 unfold Sl
 rw [jz hs.1 hs.2 hp.1 hp.2,jz hs.1 hs.2 hf.1 hf.2,decide_eq_true (show 0 < (if s ≤ p then p - s else p - s + n) by split <;> omega),Bool.true_and,Nz h3]
 by_cases a:s < p <;> by_cases b:s < f
 ·rw [if_pos (by omega),if_pos (by omega),decide_eq_true a,decide_eq_true b,show decide (p - s < f - s)=decide (p < f) from decide_eq_decide.mpr (by omega)]
  cases decide (p < f) <;> rfl
 ·rw [if_pos (by omega),if_neg (by omega),decide_eq_true a,decide_eq_false b,decide_eq_true (show p - s < f - s + n by omega)]
  cases decide (p < f) <;> rfl
 ·rw [if_neg (by omega),if_pos (by omega),decide_eq_false a,decide_eq_true b,decide_eq_false (show ¬ p - s + n < f - s by omega)]
  cases decide (p < f) <;> rfl
 ·rw [if_neg (by omega),if_neg (by omega),decide_eq_false a,decide_eq_false b,show decide (p - s + n < f - s + n)=decide (p < f) from decide_eq_decide.mpr (by omega)]
  cases decide (p < f) <;> rfl
theorem DM:∀ a b c d e g:Bool,((a && d && !b) || (!a && !d && b))=false→((a && e && !c) || (!a && !e && c))=false→((b && g && !c) || (!b && !g && c))=false→((d && g && !e) || (!d && !g && e))=false →
  (((b && !d) || (!d && !a) || (!a && b)) != ((c && !e) || (!e && !a) || (!a && c)))=(((!b && c) || (c && !g) || (!g && !b)) != ((!d && e) || (e && !g) || (!g && !d))):=by decide +kernel
theorem rA {n s f s2 f2:Int} (hs:0 ≤ s∧s < n) (hf:0 ≤ f∧f < n) (hs2:0 ≤ s2∧s2 < n) (hf2:0 ≤ f2∧f2 < n) (hne:s ≠ f) (hne2:s2 ≠ f2):vx n s f s2 f2=vx n s2 f2 s f:=by
 unfold vx
 by_cases e:f=f2
 ·rw [decide_eq_true e,decide_eq_true e.symm];rfl
 ·rw [decide_eq_false e,decide_eq_false (Ne.symm e)]
  by_cases c:(s2=s∨s2=f)∨(f2=s∨f2=f)
  ·have c':(s=s2∨s=f2)∨(f=s2∨f=f2):=by omega
   rw [if_pos c,if_pos c']
  ·have c':¬ ((s=s2∨s=f2)∨(f=s2∨f=f2)):=by omega
   rw [if_neg c,if_neg c']
   have n1:s2 ≠ s:=by omega
   have n2:s2 ≠ f:=by omega
   have n3:f2 ≠ s:=by omega
   have n4:f2 ≠ f:=by omega
   rw [Bool.false_or,Bool.false_or,Ju hs hf hs2 n1 n2 hne,Ju hs hf hf2 n3 n4 hne,Ju hs2 hf2 hs n1.symm n3.symm hne2,Ju hs2 hf2 hf n2.symm n4.symm hne2,Nz n1.symm,Nz n2.symm,Nz n4.symm,Nz hne,Nz hne2]
   exact DM _ _ _ _ _ _ (yG n1 n2 hne) (yG n3 n4 hne) (yG n3 hne2.symm n1.symm) (yG n4 hne2.symm n2.symm)
noncomputable abbrev mt (n:Int) (d e:WD):Bool:=vx n d.start d.fin e.start e.fin
noncomputable def TH (t:Adr):Sp:=fun vs H Q _=>∃ a d n p,vs=[.int n,.ref a,.int p]∧ve t H a d∧0 < n∧Q (.bl (Sl n d.start d.fin p)) H
noncomputable def nK (n:Int) (d e:WD):Bool:=if (e.start=d.start∨e.start=d.fin)∨(e.fin=d.start∨e.fin=d.fin) then false else (Sl n d.start d.fin e.start != Sl n d.start d.fin e.fin)
noncomputable def gC (t:Adr):Sp:=fun vs H Q _=>∃ a b d e n,vs=[.int n,.ref a,.ref b]∧ve t H a d∧ve t H b e∧0 < n∧NoT H∧Q (.bl (nK n d e)) H
noncomputable def cG (t:Adr):Sp:=fun vs H Q _=>∃ a b d e n,vs=[.int n,.ref a,.ref b]∧ve t H a d∧ve t H b e∧0 < n∧∀ H',Vb H H'→Q (.bl (nK n d e)) H'
noncomputable def yy (t:Adr):Sp:=fun vs H Q _=>∃ c n ds,∃ i j:Nat,∃ d e,vs=[.ref c,.str d.name,.str e.name]∧Qc t H c n ds∧0 < n∧ds[i]? = some d∧ds[j]? = some e∧NoT H∧Q (.bl (mt n d e)) H
section
variable {P:Program} {w:World} {K:PySem.W.Frag} {mg:Str→Option Value} {base:Heap} {t:Adr}
theorem BL (T:Txt w K mg t):Jb P w K mg base CX0 1 t.jp t.pp ["places","way","place"] (TH t):=by
 refine T.gp.ok av (fun vs H Q E h=>?_) (fun cdv A outer s H vs Q E hr h=>?_)
 ·obtain ⟨a,d,n,p,rfl,_⟩:=h;rfl
 obtain ⟨a,d,n,p,rfl,W,hn,q⟩:=h
 refine ⟨_,(fb (Eb (i:=3) av.nd rfl (Or.inl rfl) (Nb jg (Nb el (pv 2) (Dc (pv 1) rfl)) (pv 0)))
   (ib (Kb (rC (Pd Bu jb (pv 3) (gc _)) (Iv (Pd Bu (pv 3) (Nb jg (Nb el (Dc (pv 1) rfl) (Dc (pv 1) rfl)) (pv 0)) (gc _))))))),?_⟩
 (walk_at "RD")
 refine ⟨_,W.f_start T,_,rfl,hn,?_⟩
 unfold Sl at q
 by_cases c:0 < (p - d.start) % n
 ·rw [if_pos (decide_eq_true c)]
  rw [decide_eq_true c,Bool.true_and] at q
  exact ⟨_,W.f_end T,_,W.f_start T,_,rfl,_,rfl,hn,q⟩
 ·rw [if_neg (by simpa using c)]
  rw [decide_eq_false c,Bool.false_and] at q
  exact q
theorem iN (x a b:Int):inV (.int x) [.int a,.int b]=decide (x=a∨x=b):=by
 unfold inV
 simp only [List.any_cons,List.any_nil,eqV,Bool.or_false]
 rw [Bool.eq_iff_iff]
 simp only [Bool.or_eq_true,beq_iff_eq,decide_eq_true_eq]
 omega
theorem eK (T:Txt w K mg t):Jb P w K mg base CX0 2 t.Qh t.rh ["places","way","second"] (gC t):=by
 refine Jb.forget (sp:=cG t) ?_ fun vs H Q E h=>?_
 ·have G_in_bow:Jb P w K mg base CX0 1 t.jp t.pp ["places","way","place"] (TH t):=BL T
  refine T.sk.ok Yt (fun vs H Q E h=>?_) (fun cdv A outer s H vs Q E hr h=>?_)
  ·obtain ⟨a,b,d,e,n,rfl,_⟩:=h;rfl
  obtain ⟨a,b,d,e,n,rfl,Wa,Wb,hn,q⟩:=h
  refine ⟨_,(fb (Ge (PW.pt (Wz (ac Vm (Dc (pv 2) rfl) (se (cb (Dc (pv 1) rfl) (cb (Dc (pv 1) rfl) gb))) (by with_unfolding_all rfl)) (Pw (ac Vm (Dc (pv 2) rfl) (se (cb (Dc (pv 1) rfl) (cb (Dc (pv 1) rfl) gb))) (by with_unfolding_all rfl))))) (ib (Kb Ev)) Ec)
   (ib (Kb (Pd wx (xb G_in_bow hr rfl T.Fy T.gp.kp T.Sy .nil Db (cb (pv 0) (cb (pv 1) (cb (Dc (pv 2) rfl) gb)))) (xb G_in_bow hr rfl T.Fy T.gp.kp T.Sy .nil Db (cb (pv 0) (cb (pv 1) (cb (Dc (pv 2) rfl) gb)))) (gc _))))),?_⟩
  (walk_at "RD")
  refine iF (fun b H'=>Vb H H'∧b=decide ((e.start=d.start∨e.start=d.fin)∨(e.fin=d.start∨e.fin=d.fin))) (fun Q hQ=>?_) (fun H' ⟨sm,hb⟩=>?_) (fun H' ⟨sm,hb⟩=>?_)
  ·(walk_at "RD")
   refine ⟨_,Wb.f_start T,_,Wa.f_start T,_,Wa.f_end T,by decide,fun p hp=>⟨_,.inl (SqL.of db),rfl,rfl,?_⟩⟩
   have s1:Vb H (upd H p (.lst [.int d.start,.int d.fin])):=pb hp
   rw [iN]
   by_cases c1:e.start=d.start∨e.start=d.fin
   ·rw [if_pos (decide_eq_true c1)]
    exact hQ _ _ ⟨s1,(decide_eq_true (.inl c1)).symm⟩
   ·rw [if_neg (by simpa using c1)]
    refine ⟨_,(Wb.same s1).f_end T,_,(Wa.same s1).f_start T,_,(Wa.same s1).f_end T,by decide,fun p2 hp2=>⟨_,.inl (SqL.of db),rfl,rfl,?_⟩⟩
    rw [iN]
    refine hQ _ _ ⟨s1.trans (pb hp2),?_⟩
    rw [Bool.eq_iff_iff,decide_eq_true_eq,decide_eq_true_eq]
    exact ⟨.inr,fun z=>z.resolve_left c1⟩
  ·(walk_at "RD")
   have hb':=of_decide_eq_true hb.symm
   have:=q H' sm
   unfold nK at this
   rw [if_pos hb'] at this
   exact this
  ·(walk_at "RD")
   have hb':=of_decide_eq_false hb.symm
   refine ⟨_,(Wb.same sm).f_start T,⟨a,d,n,_,rfl,Wa.same sm,hn,?_⟩⟩
   refine ⟨_,(Wb.same sm).f_end T,⟨a,d,n,_,rfl,Wa.same sm,hn,?_⟩⟩
   refine ⟨rfl,?_⟩
   have:=q H' sm
   unfold nK at this
   rw [if_neg hb'] at this
   rw [show (!decide (V.bl (Sl n d.start d.fin e.start)=V.bl (Sl n d.start d.fin e.fin)))=(Sl n d.start d.fin e.start != Sl n d.start d.fin e.fin) by
    cases Sl n d.start d.fin e.start <;> cases Sl n d.start d.fin e.fin <;> rfl]
   exact this
 ·obtain ⟨a,b,d,e,n,h1,h2,h3,h4,nt,q⟩:=h
  exact ⟨nt,a,b,d,e,n,h1,h2,h3,h4,fun H' sm=>⟨sm,q⟩⟩
theorem VM (n:Int) (d e:WD):mt n d e=(decide (d.fin=e.fin) || nK n d e):=rfl
theorem TC (T:Txt w K mg t):Jb P w K mg base CX0 3 t.Bw t.Xv ["crossing","one","other"] (yy t):=by
 have G_Crossing_called:Jb P w K mg base CX0 2 t.yc t.Gc ["self","name"] (Gi t):=Fj T
 have G_bows_cross:Jb P w K mg base CX0 2 t.Qh t.rh ["places","way","second"] (gC t):=eK T
 refine T.Oy.ok ax (fun vs H Q E h=>?_) (fun cdv A outer s H vs Q E hr h=>?_)
 ·obtain ⟨c,n,ds,i,j,d,e,rfl,_⟩:=h;rfl
 obtain ⟨c,n,ds,i,j,d,e,rfl,C,hn,hd,he,nt,q⟩:=h
 obtain ⟨_,dx,wl,nd,e1,e2,e3⟩:=id C
 refine ⟨_,(fb (Eb (i:=3) ax.nd rfl (Or.inl rfl) (Tc (pv 0) T.jc T.Ic G_Crossing_called hr T.Hc .nil Db (cb (pv 1) gb)))
   (fb (Eb (i:=4) ax.nd rfl (Or.inl rfl) (Tc (pv 0) T.jc T.Ic G_Crossing_called hr T.Hc .nil Db (cb (pv 2) gb)))
   (ib (Kb (uK (Pd zg (Dc (pv 3) rfl) (Dc (pv 4) rfl) (gc _)) (Iv (xb G_bows_cross hr rfl T.Cv T.sk.kp T.Xw .nil Db (cb (Dc (pv 0) rfl) (cb (pv 3) (cb (pv 4) gb)))))))))),?_⟩
 rw [VM] at q
 (walk_at "RD")
 refine ⟨_,_,e1,lB _ _ _ (by decide +kernel),⟨c,n,ds,i,d,rfl,C,hd,fun a Wa=>?_⟩⟩
 (walk_at "RD")
 refine ⟨_,_,e1,lB _ _ _ (by decide +kernel),⟨c,n,ds,j,e,rfl,C,he,fun b Wb=>?_⟩⟩
 (walk_at "RD")
 refine ⟨_,Wa.f_end T,_,Wb.f_end T,rfl,?_⟩
 (walk_at "RD")
 by_cases c1:d.fin=e.fin
 ·rw [if_pos (decide_eq_true c1)]
  rw [decide_eq_true c1,Bool.true_or] at q
  exact q
 ·rw [if_neg (by simpa using c1)]
  rw [decide_eq_false c1,Bool.false_or] at q
  exact ⟨_,tF T e1,⟨a,b,d,e,n,rfl,Wa,Wb,hn,nt,q⟩⟩
end
noncomputable def SH (t:Adr):Sp:=fun vs H Q _=>∃ c n ds,∃ i j:Nat,∃ d e,vs=[.ref c,.str d.name,.str e.name]∧Qc t H c n ds∧ds[i]? = some d∧ds[j]? = some e∧Q (.int (if d.off - e.near > 0 then d.off - e.near else 0)) H
section
variable {P:Program} {w:World} {K:PySem.W.Frag} {mg:Str→Option Value} {base:Heap} {t:Adr}
theorem BK (T:Txt w K mg t):Jb P w K mg base CX0 3 t.xG t.lF ["crossing","one","other"] (SH t):=by
 have G_Crossing_called:Jb P w K mg base CX0 2 t.yc t.Gc ["self","name"] (Gi t):=Fj T
 refine T.vJ.ok BC (fun vs H Q E h=>?_) (fun cdv A outer s H vs Q E hr h=>?_)
 ·obtain ⟨c,n,ds,i,j,d,e,rfl,_⟩:=h;rfl
 obtain ⟨c,n,ds,i,j,d,e,rfl,C,hd,he,q⟩:=h
 obtain ⟨_,dx,wl,nd,e1,e2,e3⟩:=id C
 refine ⟨_,(fb (Eb (i:=3) BC.nd rfl (Or.inl rfl) (Tc (pv 0) T.jc T.Ic G_Crossing_called hr T.Hc .nil Db (cb (pv 1) gb)))
   (fb (Eb (i:=4) BC.nd rfl (Or.inl rfl) (Tc (pv 0) T.jc T.Ic G_Crossing_called hr T.Hc .nil Db (cb (pv 2) gb)))
   (ib (Kb (nc (mE rfl) rfl T.zF Hk (cb jb (cb (Nb el (Dc (pv 3) rfl) (Dc (pv 4) rfl)) gb))))))),?_⟩
 (walk_at "RD")
 refine ⟨_,_,e1,lB _ _ _ (by decide +kernel),⟨c,n,ds,i,d,rfl,C,hd,fun a Wa=>?_⟩⟩
 (walk_at "RD")
 refine ⟨_,_,e1,lB _ _ _ (by decide +kernel),⟨c,n,ds,j,e,rfl,C,he,fun b Wb=>?_⟩⟩
 (walk_at "RD")
 refine ⟨_,Wa.f_off T,_,Wb.f_near T,?_⟩
 (walk_at "RD")
 exact q
end
noncomputable def hJ (x:Str):Prop:=x.length ≤ 1000∧∀ c ∈ x.cps.toList,c < 16 ^ 8
noncomputable def mB (C:Addr) (fs:List (Str × V)) (H:Hp) (E:XK):Prop:=∀ dx H',Vb H H'→(NoT H→NoT H')→H' dx=some (.ext (XD dx fs))→E (.ref C) (some dx) H'
theorem mB.step {C:Addr} {fs:List (Str × V)} {H H1:Hp} {E:XK} (h:mB C fs H E) (s:Vb H H1) (n:NoT H→NoT H1):mB C fs H1 E:=fun dx H' s' n' e=>h dx H' (s.trans s') (fun z=>n' (n z)) e
noncomputable def yH (t:Adr):Sp:=fun vs H Q _=>∃ x n,vs=[.ref x,.str n]∧hJ n∧H x=some (.ext (XF x t.Nd none)) ∧
 ∀ dx,H dx=none→dx ≠ x→Q .non (upd (upd H x (.ext (XF x t.Nd (some dx)))) dx (.ext (XD dx [(Str.ofString "way",.str n)])))
noncomputable def RH (t:Adr):Sp:=fun vs H Q _=>∃ x n i,vs=[.ref x,.str n,.int i]∧hJ n∧i.natAbs.log2 < 1920∧H x=some (.ext (XF x t.Bd none)) ∧
 ∀ dx,H dx=none→dx ≠ x→Q .non (upd (upd H x (.ext (XF x t.Bd (some dx)))) dx (.ext (XD dx [(Str.ofString "way",.str n),(Str.ofString "at",.int i)])))
noncomputable def AH (t:Adr):Sp:=fun vs H Q _=>∃ x n m i,vs=[.ref x,.str n,.str m,.int i]∧hJ n∧hJ m∧i.natAbs.log2 < 1920∧H x=some (.ext (XF x t.ud none)) ∧
 ∀ dx,H dx=none→dx ≠ x→Q .non (upd (upd H x (.ext (XF x t.ud (some dx)))) dx (.ext (XD dx [(Str.ofString "way",.str n),(Str.ofString "other",.str m),(Str.ofString "at",.int i)])))
noncomputable def wOf (ds:List WD) (x:Str):Option WD:=ds.find? fun d=>decide (d.name=x)
theorem gw {P:Program} {w:World} {K:PySem.W.Frag} {mg:Str→Option Value} {base:Heap} {CX:CXT} {j k:Nat} {OK:Addr→Prop} {m:Str} {ps:List Str} {SPV:Addr→Sp} (V:UI P w K mg base CX j OK m ps SPV) (h:j ≤ k):UI P w K mg base CX k OK m ps SPV:=⟨fun C hC=>by
 obtain ⟨f,fd,h1,h2,h3,h4⟩:=V.ok C hC
 exact ⟨f,fd,h1,h2,h3.mono h,h4⟩⟩
section
variable {P:Program} {w:World} {K:PySem.W.Frag} {mg:Str→Option Value} {base:Heap} {t:Adr}
theorem HK (T:Txt w K mg t):Jb P w K mg base CX0 1 t.lg t.Eh ["self","way"] (yH t):=by
 refine T.Rn.ok vn (fun vs H Q E h=>?_) (fun cdv A outer s H vs Q E hr h=>?_)
 ·obtain ⟨x,n,rfl,_⟩:=h;rfl
 obtain ⟨x,n,rfl,hn,hx,q⟩:=h
 refine ⟨_,(fb (Qb (Po rfl T.Zi T.nj (cb (pv 0) (cb (qm (Jg (iu (pv 1) (Jg Ny))) (by rw [sizeLine_eq];decide)) gb))))
   (ib (Uo (pv 0) (pv 1) rfl))),?_⟩
 (walk_at "RD")
 refine ⟨hn.1,hn.2,fun y=>⟨_,_,hx,T.zy,?_⟩⟩
 exact ⟨_,hx,T.zy,T.Mw,q⟩
theorem UL (T:Txt w K mg t):Jb P w K mg base CX0 1 t.cg t.Ph ["self","way","at"] (RH t):=by
 refine T.Xn.ok Bn (fun vs H Q E h=>?_) (fun cdv A outer s H vs Q E hr h=>?_)
 ·obtain ⟨x,n,i,rfl,_⟩:=h;rfl
 obtain ⟨x,n,i,rfl,hn,hi,hx,q⟩:=h
 refine ⟨_,(fb (Qb (Po rfl T.Zi T.nj (cb (pv 0) (cb (qm (Jg (iu (pv 1) (Jg (Xy (pv 2) Ny)))) (by rw [sizeLine_eq];decide)) gb))))
   (fb (Uo (pv 0) (pv 1) rfl)
   (ib (Vo (pv 0) (pv 2) rfl)))),?_⟩
 (walk_at "RD")
 refine ⟨hn.1,hn.2,hi,fun y=>⟨_,_,hx,T.Au,?_⟩⟩
 refine ⟨_,hx,T.Au,T.lv,fun dx hd hne=>?_⟩
 refine ⟨_,dx,by rw [lb (Ne.symm hne),db],_,db,T.Au,T.Gx,show 1 < 1000 by decide,?_⟩
 rw [Wg,show yg (Str.ofString "at") (V.int i) ([(Str.ofString "way",V.str n)]:List (Str × V))=[(Str.ofString "way",V.str n),(Str.ofString "at",V.int i)] from Jc [Str.ofString "way"] rfl (by decide +kernel)]
 exact q dx hd hne
theorem oK (T:Txt w K mg t):Jb P w K mg base CX0 1 t.eg t.Sh ["self","way","other","at"] (AH t):=by
 refine T.Tn.ok xn (fun vs H Q E h=>?_) (fun cdv A outer s H vs Q E hr h=>?_)
 ·obtain ⟨x,n,m,i,rfl,_⟩:=h;rfl
 obtain ⟨x,n,m,i,rfl,hn,hm,hi,hx,q⟩:=h
 refine ⟨_,(fb (Qb (Po rfl T.Zi T.nj (cb (pv 0) (cb (qm (Jg (iu (pv 1) (Jg (iu (pv 2) (Jg (Xy (pv 3) Ny)))))) (by rw [sizeLine_eq];decide)) gb))))
   (fb (Uo (pv 0) (pv 1) rfl)
   (fb (Vo (pv 0) (pv 2) rfl)
   (ib (Vo (pv 0) (pv 3) rfl))))),?_⟩
 (walk_at "RD")
 refine ⟨hn.1,hn.2,hm.1,hm.2,hi,fun y=>⟨_,_,hx,T.Fq,?_⟩⟩
 refine ⟨_,hx,T.Fq,T.Nw,fun dx hd hne=>?_⟩
 refine ⟨_,dx,by rw [lb (Ne.symm hne),db],_,db,T.Fq,T.Lr,show 1 < 1000 by decide,?_⟩
 rw [Wg,show yg (Str.ofString "other") (V.str m) ([(Str.ofString "way",V.str n)]:List (Str × V))=[(Str.ofString "way",V.str n),(Str.ofString "other",V.str m)] from Jc [Str.ofString "way"] rfl (by decide +kernel)]
 refine ⟨_,dx,by rw [lb (Ne.symm hne),db],_,db,T.Fq,T.yx,show 2 < 1000 by decide,?_⟩
 rw [Wg,show yg (Str.ofString "at") (V.int i) ([(Str.ofString "way",V.str n),(Str.ofString "other",V.str m)]:List (Str × V))=[(Str.ofString "way",V.str n),(Str.ofString "other",V.str m),(Str.ofString "at",V.int i)] from Jc [Str.ofString "way",Str.ofString "other"] rfl (by decide +kernel)]
 exact q dx hd hne
end
end My
namespace My
open PySem L2
theorem oe {α:Type} {xs:List α} {i:Nat} {x:α} (h:xs[i]? = some x):xs.take (i + 1)=xs.take i ++ [x]:=by
 rw [List.take_add_one,h];rfl
structure ST where
 lo:Int
 hi:Int
 mem:List Str
noncomputable def stO (r:ST) (m:Addr):HO:=.tup [.int r.lo,.int r.hi,.ref m]
structure xi (H:Hp) (p:Addr) (qs ms:List Addr) (rows:List ST):Prop where
 at_:H p=some (.lst (qs.map V.ref))
 l1:qs.length=rows.length
 l2:ms.length=rows.length
 al:∀ (i:Nat) (q m:Addr) (r:ST),qs[i]? = some q→ms[i]? = some m→rows[i]? = some r→H q=some (stO r m)∧H m=some (.lst (wb r.mem))
theorem xi.same {H H':Hp} {p:Addr} {qs ms:List Addr} {rows:List ST} (h:xi H p qs ms rows) (s:Vb H H'):xi H' p qs ms rows:=
 ⟨s _ _ h.at_,h.l1,h.l2,fun i q m r a b c=>⟨s _ _ (h.al i q m r a b c).1,s _ _ (h.al i q m r a b c).2⟩⟩
structure kn (H:Hp) (p:Addr) (ms:List Addr) (mems:List (List Str)):Prop where
 at_:H p=some (.lst (ms.map V.ref))
 ln:ms.length=mems.length
 al:∀ (i:Nat) (m:Addr) (x:List Str),ms[i]? = some m→mems[i]? = some x→H m=some (.lst (wb x))
theorem kn.same {H H':Hp} {p:Addr} {ms:List Addr} {mems:List (List Str)} (h:kn H p ms mems) (s:Vb H H'):kn H' p ms mems:=
 ⟨s _ _ h.at_,h.ln,fun i m x a b=>s _ _ (h.al i m x a b)⟩
noncomputable def Re (i:Nat) (kvs:List (Key × V)) (ms:List Str):List (Key × V):=ms.foldl (fun kvs x=>Rk kvs (Sum.inr x) (.int i)) kvs
noncomputable def de (mems:List (List Str)):List (Key × V):=mems.zipIdx.foldl (fun kvs e=>Re e.2 kvs e.1) []
theorem gF (kvs:List (Key × V)) (k:Key) (v:V):(Rk kvs k v).length ≤ kvs.length + 1:=by
 unfold Rk
 split
 ·rw [List.length_map];omega
 ·rw [List.length_append];exact Nat.le_refl _
theorem vm (i:Nat) (kvs:List (Key × V)) (ms:List Str) (x:Str):Re i kvs (ms ++ [x])=Rk (Re i kvs ms) (Sum.inr x) (.int i):=by
 unfold Re
 rw [List.foldl_append]
 rfl
theorem Xx (mems:List (List Str)) (ms:List Str):de (mems ++ [ms])=Re mems.length (de mems) ms:=by
 unfold de
 rw [List.zipIdx_append,List.foldl_append]
 simp
theorem Wj (i:Nat) (x:Str):∀ (ms:List Str) (kvs:List (Key × V)),wg (Re i kvs ms) (Sum.inr x)=if x ∈ ms then some (.int i) else wg kvs (Sum.inr x)
 | [],kvs=>by simp [Re]
 | y :: ms,kvs=>by
  show wg (Re i (Rk kvs (Sum.inr y) (.int i)) ms) (Sum.inr x)=_
  rw [Wj i x ms,mz]
  by_cases c:x ∈ ms
  ·rw [if_pos c,if_pos (List.mem_cons_of_mem _ c)]
  ·rw [if_neg c]
   by_cases d:x=y
   ·subst d
    rw [if_pos rfl,if_pos (List.mem_cons_self ..)]
   ·rw [if_neg (fun e=>d (Sum.inr.inj e)),if_neg (fun e=>by
     rcases List.mem_cons.mp e with e | e
     ·exact d e
     ·exact c e)]
theorem Ol {mems:List (List Str)} {i:Nat} {ms:List Str} (h:mems[i]? = some ms):de (mems.take (i + 1))=Re i (de (mems.take i)) ms:=by
 rw [oe h,Xx,List.length_take,Nat.min_eq_left (Nat.le_of_lt (List.getElem?_eq_some_iff.mp h).1)]
theorem mq {x:Str}:∀ (n:Nat) (mems:List (List Str)),n ≤ mems.length→((wg (de (mems.take n)) (Sum.inr x)).isSome=true↔∃ ms ∈ mems.take n,x ∈ ms)
 | 0,mems,_=>by simp [de,wg]
 | n + 1,mems,hn=>by
  have h:mems[n]? = some mems[n]:=List.getElem?_eq_getElem (by omega)
  rw [Ol h,Wj,oe h]
  have ih:=mq (x:=x) n mems (by omega)
  by_cases c:x ∈ mems[n]
  ·rw [if_pos c]
   exact ⟨fun _=>⟨_,List.mem_append_right _ (List.mem_singleton.mpr rfl),c⟩,fun _=>rfl⟩
  ·rw [if_neg c,ih]
   constructor
   ·rintro ⟨ms,h1,h2⟩
    exact ⟨ms,List.mem_append_left _ h1,h2⟩
   ·rintro ⟨ms,h1,h2⟩
    rcases List.mem_append.mp h1 with h1 | h1
    ·exact ⟨ms,h1,h2⟩
    ·rw [List.mem_singleton.mp h1] at h2
     exact absurd h2 c
theorem Wo (p:Str→Bool):∀ xs:List Str,((xs.map fun x=>if p x=true then some (V.str x) else none).flatMap Option.toList)=wb (xs.filter p)
 | []=>rfl
 | x :: xs=>by
  rw [List.map_cons,List.flatMap_cons,Wo p xs]
  by_cases c:p x=true
  ·rw [if_pos c,List.filter_cons_of_pos c];rfl
  ·rw [if_neg c,List.filter_cons_of_neg c];rfl
noncomputable def told (rows:List ST) (x:Str):Bool:=rows.any fun r=>r.mem.contains x
noncomputable def Ze (ds:List WD) (rows:List ST):List Str:=(ds.map (·.name)).filter fun x=>!told rows x
theorem ft (rows:List ST) (x:Str):(wg (de (rows.map (·.mem))) (Sum.inr x)).isSome=told rows x:=by
 rw [Bool.eq_iff_iff]
 have:=mq (x:=x) (rows.map (·.mem)).length (rows.map (·.mem)) (Nat.le_refl _)
 rw [List.take_length] at this
 rw [this]
 unfold told
 rw [List.any_eq_true]
 constructor
 ·rintro ⟨ms,h1,h2⟩
  obtain ⟨r,hr,rfl⟩:=List.mem_map.mp h1
  exact ⟨r,hr,by simpa using h2⟩
 ·rintro ⟨r,hr,h⟩
  exact ⟨_,List.mem_map.mpr ⟨r,hr,rfl⟩,by simpa using h⟩
noncomputable def Dj (d:WD):Str:=if d.k=2 then Str.ofString "trams" else Str.ofString "others"
noncomputable def Dx (t:Adr):Sp:=fun vs H Q _=>∃ c n ds,∃ i:Nat,∃ d,vs=[.ref c,.str d.name]∧Qc t H c n ds∧ds[i]? = some d∧d.k < 3∧Q (.str (Dj d)) H
noncomputable def Xo:Sp:=fun vs H Q _=>∃ p ms mems,vs=[.ref p]∧kn H p ms mems∧mems.length ≤ 6∧(∀ x ∈ mems,x.length ≤ 12)∧∀ h H',Vb H H'→(NoT H→NoT H')→H h=none→H' h=some (.dK (de mems))→Q (.ref h) H'
noncomputable def gx (t:Adr):Sp:=fun vs H Q _=>∃ c n ds p qs ms rows,vs=[.ref c,.ref p]∧Qc t H c n ds∧xi H p qs ms rows∧rows.length ≤ 6∧(∀ r ∈ rows,r.mem.length ≤ 12)∧∀ l H',Vb H H'→(NoT H→NoT H')→H l=none→H' l=some (.lst (wb (Ze ds rows)))→Q (.ref l) H'
section
variable {P:Program} {w:World} {K:PySem.W.Frag} {mg:Str→Option Value} {base:Heap} {t:Adr}
theorem ND (T:Txt w K mg t):Jb P w K mg base CX0 3 t.Ej t.qk ["crossing","name"] (Dx t):=by
 have G_Crossing_called:Jb P w K mg base CX0 2 t.yc t.Gc ["self","name"] (Gi t):=Fj T
 refine T.ck.ok bB (fun vs H Q E h=>?_) (fun cdv A outer s H vs Q E hr h=>?_)
 ·obtain ⟨c,n,ds,i,d,rfl,_⟩:=h;rfl
 obtain ⟨c,n,ds,i,d,rfl,C,hd,hk,q⟩:=h
 obtain ⟨_,dx,wl,nd,e1,_,_⟩:=id C
 refine ⟨_,(ib (Kb (Ou (ac zg (Dc (Tc (pv 0) T.jc T.Ic G_Crossing_called hr T.Hc .nil Db (cb (pv 1) gb)) rfl) ic (gc _)) ic ic))),?_⟩
 (walk_at "RD")
 refine ⟨_,_,e1,lB _ _ _ (by decide +kernel),c,n,ds,i,d,rfl,C,hd,fun a W=>⟨a,rfl,_,W.f_kind T,rfl,?_⟩⟩
 unfold Dj at q
 have hts:∀ k,k < 3→decide (V.str (kd k)=V.str (Str.ofString "tram"))=decide (k=2):=by decide +kernel
 rw [hts d.k hk]
 by_cases c2:d.k=2
 ·rw [if_pos (decide_eq_true c2)]
  rw [if_pos c2] at q
  exact q
 ·rw [if_neg (by simpa using c2)]
  rw [if_neg c2] at q
  exact q
theorem Rt (T:Txt w K mg t):Jb P w K mg base CX0 1 t.Sg t.Rg ["members"] Xo:=by
 refine T.Ei.ok Vg (fun vs H Q E h=>?_) (fun cdv A outer s H vs Q E hr h=>?_)
 ·obtain ⟨p,ms,mems,rfl,_⟩:=h;rfl
 obtain ⟨p,ms,mems,rfl,M,hml,hmx,q⟩:=h
 have hu:=Zp hr
 refine ⟨_,(fb (Eb (i:=1) Vg.nd rfl (Or.inl rfl) cz)
   (fb (Xd PassesOwn.never rfl (Pu rfl T.Pi (cb (pv 0) gb)) (Hf (K:=K) (n:=2) rfl rfl (Ob (zb (i:=2) Vg.nd rfl (Or.inl rfl) (.inl rfl)) (Ob (zb (i:=3) Vg.nd rfl (Or.inl rfl) (.inl rfl)) Ff))) (ib (Xd PassesOwn.never rfl (Kc (pv 3)) (zb (i:=4) Vg.nd rfl (Or.inl rfl)) (ib (IC hu (pv 1) (pv 4) (pv 2) rfl)))))
   (ib (Kb (pv 1))))),?_⟩
 (walk_at "RD")
 intro h hh
 have s0:Vb H (upd H h (.dK [])):=pb hh
 refine ⟨⟨_,SqL.of (s0 _ _ M.at_)⟩,?_⟩
 refine Fi.enum (xs:=ms.map V.ref) (fun i σ H'=>(∃ x y z,σ=[some (.ref p),some (.ref h),x,y,z])∧Vb H H'∧(NoT H→NoT H')∧H' h=some (.dK (de (mems.take i)))∧(de (mems.take i)).length ≤ 12 * i) ?_ ?_ ?_ ?_
 ·exact ⟨⟨_,_,_,rfl⟩,s0,fun n=>n.upd,by rw [List.take_zero];exact db,by rw [List.take_zero];simp [de]⟩
 ·rintro i σ H' hi ⟨_,s1,_⟩
  exact SqL.of (s1 _ _ M.at_)
 ·rintro i v σ H' tp hv ⟨⟨x,y,z,rfl⟩,s1,n1,h1,hl1⟩ htp
  obtain ⟨m,hm,rfl⟩:=Mb hv
  have him:i < mems.length:=by rw [← M.ln];exact (List.getElem?_eq_some_iff.mp hm).1
  have hms:mems[i]? = some mems[i]:=List.getElem?_eq_getElem him
  have em:=M.al i m _ hm hms
  have hxl:=hmx _ (List.mem_of_getElem? hms)
  have s2:Vb H' (upd H' tp (.tup [.int i,.ref m])):=pb htp
  refine lm ?_
  (walk_at "RD")
  have em1:=s2 _ _ (s1 _ _ em)
  have h2:=s2 _ _ h1
  have nb:NoT H→NoT (upd H' tp (.tup [.int i,.ref m])):=fun n=>(n1 n).upd
  have sAll:=s1.trans s2
  generalize upd H' tp (.tup [.int i,.ref m])=HA at em1 h2 nb sAll s2 ⊢
  refine ⟨⟨_,SqL.of em1⟩,?_⟩
  refine Fi.list (xs:=wb mems[i]) (fun j σ H2=>(∃ z,σ=[some (.ref p),some (.ref h),some (.int (i:Nat)),some (.ref m),z])∧Vb H H2∧(NoT H→NoT H2)∧H2 h=some (.dK (Re i (de (mems.take i)) (mems[i].take j)))∧(Re i (de (mems.take i)) (mems[i].take j)).length ≤ 12 * i + j) ?_ ?_ ?_ ?_
  ·exact ⟨⟨_,rfl⟩,sAll,nb,by rw [List.take_zero];exact h2,by rw [List.take_zero];exact hl1⟩
  ·rintro j σ H2 hj ⟨_,s3,_⟩
   exact SqL.of (s3 _ _ em)
  ·rintro j v σ H2 hv zzq
   refine zzP fun zzM zzh=>?_
   obtain ⟨⟨z,rfl⟩,s3,n3,h3,hl3⟩:=zzq
   subst zzh
   unfold wb at hv
   obtain ⟨x,hx,rfl⟩:=Mb hv
   have hj:j < mems[i].length:=(List.getElem?_eq_some_iff.mp hx).1
   have hpl:=gF (Re i (de (mems.take i)) (mems[i].take j)) (Sum.inr x) (.int i)
   (walk_at "RD")
   refine ⟨_,EE.k (k:=Sum.inr x) h3 (Nat.lt_of_le_of_lt (show _ ≤ 1000 by omega) (by decide)),⟨_,rfl⟩,s3.updN hh,fun n=>(n3 n).upd,?_,?_⟩
   ·rw [db,oe hx,vm]
   ·rw [oe hx,vm]
    omega
  ·rintro σ H2 zzq
   refine zzP fun zzM zzh=>?_
   obtain ⟨⟨z,rfl⟩,s3,n3,h3,hl3⟩:=zzq
   subst zzh
   rw [Rb,List.take_length,← Ol hms] at h3 hl3
   exact ⟨⟨_,_,_,rfl⟩,s3,n3,h3,by omega⟩
 ·rintro σ H' zzq
  refine zzP fun zzM zzh=>?_
  obtain ⟨⟨x,y,z,rfl⟩,s1,n1,h1,_⟩:=zzq
  subst zzh
  rw [List.length_map,M.ln,List.take_length] at h1
  (walk_at "RD")
  exact q h H' s1 n1 hh h1
theorem AC (T:Txt w K mg t):Jb P w K mg base CX0 2 t.gg t.ig ["crossing","rows"] (gx t):=by
 have G_homes_in:Jb P w K mg base CX0 1 t.Sg t.Rg ["members"] Xo:=Rt T
 have G_Crossing_names:Jb P w K mg base CX0 1 t.Zc t.Cd ["self"] (Qo t):=Qu T
 refine T.Ih.ok tm (fun vs H Q E h=>?_) (fun cdv A outer s H vs Q E hr h=>?_)
 ·obtain ⟨c,n,ds,p,qs,ms,rows,rfl,_⟩:=h;rfl
 obtain ⟨c,n,ds,p,qs,ms,rows,rfl,C,R,hrl,hrm,q⟩:=h
 have hu:=Zp hr
 obtain ⟨⟨_,hdl⟩,dx,wl,nd,e1,_,_⟩:=id C
 refine ⟨_,(fb (Eb (i:=2) tm.nd rfl (Or.inr rfl) (xb G_homes_in hr rfl T.gn T.Ei.kp T.jn .nil Db (cb (Td rfl (Kc (pv 1)) (Bc (sc:=qb vh) rfl (by decide +kernel)) (N:=["least","most","members"]) (sel:=[none,none,none]) (Uc (M:=["crossing","rows","told"]) (by decide +kernel)) (Blk.of (fun _ _ _ _=>(Hf (K:=K) (n:=3) rfl rfl (Ob (zb (i:=0) (Je (N:=["least","most","members"]) (by decide +kernel) rfl) rfl (Or.inl rfl) (.inr rfl)) (Ob (zb (i:=1) (Je (N:=["least","most","members"]) (by decide +kernel) rfl) rfl (Or.inl rfl) (.inr rfl)) (Ob (zb (i:=2) (Je (N:=["least","most","members"]) (by decide +kernel) rfl) rfl (Or.inl rfl) (.inr rfl)) Ff))))) (fun _ _ _ _=>⟨_,Ee,by first | rfl | (dsimp only [Cx.block];done) | (dsimp only [Cx.block];exact rfl)⟩) (fun _ _ _ _=>⟨_,(pv 2),by first | rfl | (dsimp only [Cx.block];done) | (dsimp only [Cx.block];exact rfl)⟩))) gb)))
   (ib (Kb (Td rfl (Kc (Yd (pv 0) T.jc T.ug G_Crossing_names hr T.rg .nil Db)) (Bc (sc:=qb vh) rfl (by decide +kernel)) (N:=["name","told"]) (sel:=[none,some 2]) (Uc (M:=["crossing","rows","told"]) (by decide +kernel)) (Blk.of (fun _ _ _ _=>(zb (i:=0) (Je (N:=["name","told"]) (by decide +kernel) rfl) rfl (Or.inl rfl))) (fun _ _ _ _=>⟨_,(Su (OH (mw hu (pv 0) (pv 1)))),by first | rfl | (dsimp only [Cx.block];done) | (dsimp only [Cx.block];exact rfl)⟩) (fun _ _ _ _=>⟨_,(pv 0),by first | rfl | (dsimp only [Cx.block];done) | (dsimp only [Cx.block];exact rfl)⟩)))))),?_⟩
 simp only [Bb]
 (walk_at "RD")
 have hqn:(qs.map V.ref).length=rows.length:=by rw [List.length_map,R.l1]
 refine ⟨⟨_,SqL.of R.at_⟩,?_⟩
 refine ad.list_zs (xs:=qs.map V.ref) (zs:=ms.map V.ref) (SqL.of R.at_) (by rw [hqn];exact Nat.le_trans hrl (by decide)) (by rw [hqn,List.length_map,R.l2]) (fun j v z N hv hz hN=>?_) (fun pm hpm=>?_)
 ·obtain ⟨qj,hqj,rfl⟩:=Mb hv
  obtain ⟨mj,hmj,rfl⟩:=Mb hz
  have hj:j < rows.length:=by rw [← R.l1];exact (List.getElem?_eq_some_iff.mp hqj).1
  have e:=(R.al j qj mj _ hqj hmj (List.getElem?_eq_getElem hj)).1
  (walk_at "RD")
  exact ⟨_,SqT.of e,rfl,_,_,rfl,_,_,rfl,_,_,rfl,rfl,Sub.name3,hN⟩
 ·have sp:Vb H (upd H pm (.lst (ms.map V.ref))):=pb hpm
  have np:NoT H→NoT (upd H pm (.lst (ms.map V.ref))):=fun n=>n.upd
  have ep:(upd H pm (.lst (ms.map V.ref))) pm=some (.lst (ms.map V.ref)):=db
  generalize upd H pm (.lst (ms.map V.ref))=HA at sp np ep ⊢
  refine ⟨pm,ms,rows.map (·.mem),rfl,⟨ep,by rw [R.l2,List.length_map],fun i m x hm hx=>?_⟩,by rw [List.length_map];exact hrl,fun x hx=>?_,fun h H1 s1 n1 hh h1=>?_⟩
  ·obtain ⟨r,hr',rfl⟩:=Mb hx
   have hqi:qs[i]? = some (qs[i]'(by rw [R.l1];exact (List.getElem?_eq_some_iff.mp hr').1)):=List.getElem?_eq_getElem _
   exact sp _ _ (R.al i _ m r hqi hm hr').2
  ·obtain ⟨r,hr',rfl⟩:=List.mem_map.mp hx
   exact hrm r hr'
  ·have sA:=sp.trans s1
   have C1:=C.same sA
   refine ⟨_,_,sA _ _ e1,lB _ _ _ (by decide +kernel),c,n,ds,rfl,C1,fun pn hpn=>⟨pn,rfl,⟨_,SqL.of db⟩,?_⟩⟩
   have sB:=sA.trans (pb (o:=.lst (wb (ds.map (·.name)))) hpn)
   have h2:=(pb (o:=.lst (wb (ds.map (·.name)))) hpn) _ _ h1
   have nB:NoT H→NoT (upd H1 pn (.lst (wb (ds.map (·.name))))):=fun n=>(n1 (np n)).upd
   have ePn:(upd H1 pn (.lst (wb (ds.map (·.name))))) pn=some (.lst (wb (ds.map (·.name)))):=db
   generalize upd H1 pn (.lst (wb (ds.map (·.name))))=HB at sB h2 nB ePn ⊢
   refine ad.list_sel (xs:=wb (ds.map (·.name))) (ss:=(ds.map (·.name)).map fun x=>if (!told rows x)=true then some (V.str x) else none) (SqL.of ePn) (by rw [Rb,List.length_map];exact Nat.le_trans hdl (by decide)) (by rw [Rb,List.length_map]) (fun i v o ys N hv ho hN=>?_) (fun l hl=>?_)
   ·unfold wb at hv
    obtain ⟨x,hx,rfl⟩:=Mb hv
    obtain ⟨x',hx',rfl⟩:=Mb ho
    rw [hx] at hx'
    cases hx'
    have hg:Nu HB h (.str x) (wg (de (rows.map (·.mem))) (Sum.inr x)):=Nu.k (k:=Sum.inr x) h2
    have ht:=ft rows x
    (walk_at "RD")
    refine ⟨Sub.name,_,hg,?_⟩
    rw [ht]
    by_cases c0:(!told rows x)=true
    ·rw [if_pos c0]
     rw [if_pos c0] at hN
     exact hN
    ·rw [if_neg c0]
     rw [if_neg c0] at hN
     simpa using hN
   ·rw [Wo]
    exact q l _ (sB.trans (pb hl)) (fun n=>(nB n).upd) (sB.free hl) db
end
end My
namespace My
open PySem L2
noncomputable def ow (ds:List WD) (left:List Str) (f:Str):List Str:=left.filter fun x=>decide ((wOf ds x).map Dj=(wOf ds f).map Dj)
noncomputable def qG (alike:List Str):List Str→Nat→List Str→Except Nat (List Str)
 | [],_,ms=>.ok ms
 | x :: r,j,ms=>if x ∈ alike∧x ∉ ms then qG alike r (j + 1) (ms ++ [x]) else .error j
noncomputable def Uz (ds:List WD) (left ws:List Str):Except Nat (List Str):=if wd ws 3 ∈ left then qG (ow ds left (wd ws 3)) (ws.drop 4) 4 [wd ws 3] else .error 3
noncomputable def zm (ds:List WD) (rows:List ST) (ws:List Str):Except Nat ST:=if wd ws 0 ∈ [Str.ofString "stage"] then
 (uy (wd ws 1) 1 60).elim (.error 1) fun lo=>(uy (wd ws 2) lo 60).elim (.error 2) fun hi=>match Uz ds (Ze ds rows) ws with
  | .error k=>.error k
  | .ok ms=>.ok ⟨lo,hi,ms⟩ else .error 0
theorem OC {alike:List Str}:∀ {r:List Str} {j:Nat} {ms ms':List Str},qG alike r j ms=.ok ms'→ms.Nodup→ms'.Nodup∧(∃ more,ms'=ms ++ more)∧∀ x ∈ ms',x ∈ ms∨x ∈ alike
 | [],j,ms,ms',h,nd=>by
  have h:Except.ok ms=Except.ok (ε:=Nat) ms':=h
  cases h
  exact ⟨nd,⟨[],by simp⟩,fun x hx=>.inl hx⟩
 | y :: r,j,ms,ms',h,nd=>by
  unfold qG at h
  split at h
  ·rename_i c
   obtain ⟨h1,⟨more,h2⟩,h3⟩:=OC h (List.nodup_append.mpr ⟨nd,by simp,fun a ha b hb e=>by
    rw [List.mem_singleton.mp hb] at e
    rw [e] at ha
    exact c.2 ha⟩)
   refine ⟨h1,⟨y :: more,by rw [h2,List.append_assoc];rfl⟩,fun x hx=>?_⟩
   rcases h3 x hx with z | z
   ·rcases List.mem_append.mp z with z | z
    ·exact .inl z
    ·rw [List.mem_singleton.mp z];exact .inr c.1
   ·exact .inr z
  ·cases h
noncomputable def Es (t:Adr):Sp:=fun vs H Q E=>∃ q row ws c n ds l left,vs=[.ref q,.ref c,.ref l]∧Fe t H q row ws 3∧(0 ≤ row∧row ≤ 10000)∧3 ≤ ws.length∧Qc t H c n ds∧(∀ d ∈ ds,d.k < 3∧d.name ≠ Str.ofString "")∧H l=some (.lst (wb left))∧left.length ≤ 12∧(∀ x ∈ left,∃ d ∈ ds,d.name=x)∧NoT H ∧
 Oc (Uz ds left ws) (fun ms=>∀ m H',Fc q H H'→NoT H'→(∃ u,H' q=some u)→H' m=some (.lst (wb ms))→H m=none→Q (.ref m) H') (fun k=>jw t row k q H E)
noncomputable def iz (t:Adr):Sp:=fun vs H Q E=>∃ q row ws c n ds p qs ms rows,vs=[.ref q,.ref c,.ref p]∧Fe t H q row ws 0∧(0 ≤ row∧row ≤ 10000)∧Qc t H c n ds∧(∀ d ∈ ds,d.k < 3∧d.name ≠ Str.ofString "")∧xi H p qs ms rows∧rows.length ≤ 6∧(∀ r ∈ rows,r.mem.length ≤ 12)∧NoT H ∧
 Oc (zm ds rows ws) (fun s=>∀ x m H',Fc q H H'→NoT H'→H' x=some (stO s m)→H' m=some (.lst (wb s.mem))→H x=none→H m=none→Q (.ref x) H') (fun k=>jw t row k q H E)
theorem We {ds:List WD} (nd:(ds.map (·.name)).Nodup) {i:Nat} {d:WD} (h:ds[i]? = some d):wOf ds d.name=some d:=by
 unfold wOf
 cases e:ds.find? fun x=>decide (x.name=d.name) with
 | none=>
  have:=List.find?_eq_none.mp e d (List.mem_of_getElem? h)
  simp at this
 | some x=>
  have h1:x.name=d.name:=by simpa using List.find?_some e
  obtain ⟨j,hj⟩:=List.getElem?_of_mem (List.mem_of_find?_eq_some e)
  have:=jt nd (List.getElem?_eq_some_iff.mp hj).1 (List.getElem?_eq_some_iff.mp h).1 (by rw [Eo hj,Eo h,h1])
  subst this
  rw [hj] at h
  exact h
theorem Qc.sameR {t:Adr} {H H':Hp} {q c:Addr} {n:Int} {ds:List WD} {row:Int} {ws:List Str} {k:Nat} (h:Qc t H c n ds) (s:Fc q H H') (R:Fe t H q row ws k):Qc t H' c n ds:=by
 obtain ⟨h0,dx',wl,nd,e1,⟨as,w1,w2,al⟩,e3⟩:=h
 obtain ⟨_,dq,ta,f1,f2⟩:=id R
 refine ⟨h0,dx',wl,nd,s _ _ (fun z=>?_) e1,⟨as,s _ _ (Vd w1 f1 (by intro z;cases z)) w1,w2,fun i b d hb hd=>?_⟩,s _ _ (Vd e3 f1 (by intro z;cases z)) e3⟩
 ·subst z
  rw [e1] at f1
  have e:=Option.some.inj f1
  injection e with _ _ e4
  unfold cF rdF at e4
  injection e4 with e5 _
  injection e5 with e6 _
  exact absurd e6 (by decide +kernel)
 ·have W:=al i b d hb hd
  have hn:=pw W R
  exact ⟨W.1,W.2.imp fun dx e=>s _ _ hn e⟩
theorem CI {ws:List Str} {j:Nat} (h:j < ws.length):ws.drop j=wd ws j :: ws.drop (j + 1):=by
 rw [List.drop_eq_getElem_cons h]
 unfold wd
 rw [List.getD_eq_getElem?_getD,List.getElem?_eq_getElem h]
 rfl
theorem xi.sameR {t:Adr} {H H':Hp} {q p:Addr} {qs ms:List Addr} {rows:List ST} {row:Int} {ws:List Str} {k:Nat} (h:xi H p qs ms rows) (s:Fc q H H') (R:Fe t H q row ws k):xi H' p qs ms rows:=by
 obtain ⟨_,dq,ta,f1,f2⟩:=id R
 refine ⟨s _ _ (Vd h.at_ f1 (by intro z;cases z)) h.at_,h.l1,h.l2,fun i q m r a b c=>?_⟩
 obtain ⟨e1,e2⟩:=h.al i q m r a b c
 exact ⟨s _ _ (Vd e1 f1 (by intro z;cases z)) e1,s _ _ (Vd e2 f1 (by intro z;cases z)) e2⟩
section
variable {P:Program} {w:World} {K:PySem.W.Frag} {mg:Str→Option Value} {base:Heap} {t:Adr}
theorem ZA (T:Txt w K mg t):Jb P w K mg base (CX1 P w) 6 t.bg t.Vf ["reader","crossing","left"] (Es t):=by
 have GX_RowReader_one_of:Jb P w K mg base (CX1 P w) 5 t.kc t.Ac ["self","choices"] (Xp K t):=bv T
 have G_RowReader_has_more:Jb P w K mg base CX0 5 t.Nc t.gd ["self"] (Px t):=(qE T).mono (by decide)
 have G_sort_of:Jb P w K mg base CX0 5 t.Ej t.qk ["crossing","name"] (Dx t):=(ND T).mono (by decide)
 refine T.Zh.okX rf (fun vs H Q E h=>?_) (fun cdv A outer s H vs Q E hr h=>?_)
 ·obtain ⟨q,row,ws,c,n,ds,l,left,rfl,_⟩:=h;rfl
 obtain ⟨q,row,ws,c,n,ds,l,left,rfl,R,hrow,hw3,C,hk,hl,hll,hlin,nt,qq⟩:=h
 refine ⟨_,(fb (Eb (i:=3) rf.nd rfl (Or.inr rfl) (Tc (pv 0) T.ub T.Jd GX_RowReader_one_of hr T.Dd .nil sf (cb (pv 2) gb)))
   (fb (Eb (i:=4) rf.nd rfl (Or.inr rfl) (se (cb (pv 3) gb)))
   (fb (Vz (i:=5) rf.nd rfl (Or.inl rfl) rfl (Kc (pv 2)) (Bc (sc:=qb Mf) rfl (by decide +kernel)) (N:=["name","crossing","first"]) (sel:=[none,some 1,some 3]) (Uc (M:=["reader","crossing","left","first","members","alike"]) (by decide +kernel)) (Blk.of (fun _ _ _ _=>(zb (i:=0) (Je (N:=["name","crossing","first"]) (by decide +kernel) rfl) rfl (Or.inl rfl))) (fun _ _ _ _=>⟨_,(Su (ac zg (xb G_sort_of hr rfl T.Yp T.ck.kp T.xq .nil Db (cb (pv 1) (cb (pv 0) gb))) (xb G_sort_of hr rfl T.Yp T.ck.kp T.xq .nil Db (cb (pv 1) (cb (pv 2) gb))) (gc _))),by first | rfl | (dsimp only [Cx.block];done) | (dsimp only [Cx.block];exact rfl)⟩) (fun _ _ _ _=>⟨_,(pv 0),by first | rfl | (dsimp only [Cx.block];done) | (dsimp only [Cx.block];exact rfl)⟩)) rfl)
   (fb (lG (Kf ⟨rfl,rfl⟩) (wj (Yd (pv 0) T.ub T.Ag G_RowReader_has_more hr T.Bg .nil Db)) (ib (Qb (Df PySem.F.plainAttrs_list PySem.F.slot_list_append PySem.F.type_list_append yd (pv 4) (cb (Tc (pv 0) T.ub T.Jd GX_RowReader_one_of hr T.Dd .nil sf (cb (Td rfl (Kc (pv 5)) (Bc (sc:=qb Mf) rfl (by decide +kernel)) (N:=["name","members"]) (sel:=[none,some 4]) (Uc (M:=["reader","crossing","left","first","members","alike"]) (by decide +kernel)) (Blk.of (fun _ _ _ _=>(zb (i:=0) (Je (N:=["name","members"]) (by decide +kernel) rfl) rfl (Or.inl rfl))) (fun _ _ _ _=>⟨_,(Su (ac Nh (pv 0) (pv 1) (by with_unfolding_all rfl))),by first | rfl | (dsimp only [Cx.block];done) | (dsimp only [Cx.block];exact rfl)⟩) (fun _ _ _ _=>⟨_,(pv 0),by first | rfl | (dsimp only [Cx.block];done) | (dsimp only [Cx.block];exact rfl)⟩))) gb)) gb)))))
   (ib (Kb (pv 4))))))),?_⟩
 obtain ⟨hz,dx,ta,e1,e2⟩:=id R
 unfold Uz at qq
 (walk_at "RD")
 refine ⟨_,_,e1,Fe.no _ _ _ (by decide +kernel),⟨q,row,ws,3,l,left,rfl,R,hrow,hw3,SqL.of hl,fun hin=>fun H1 s1 n1 R1=>?_,fun hnin=>?_⟩⟩
 case refine_2=>
  rw [if_neg hnin] at qq
  exact qq
 rw [if_pos hin] at qq
 have nt1:=n1 nt
 obtain ⟨d0,hd0,hn0⟩:=hlin _ hin
 have l4:4 ≤ ws.length:=JJ (k:=3) (by rw [← hn0];exact (hk d0 hd0).2)
 have C1:=C.sameR s1 R
 have hl1:H1 l=some (.lst (wb left)):=s1 _ _ (Vd hl e1 (by intro z;cases z)) hl
 generalize hf:wd ws 3=f0 at qq hin hn0 ⊢
 obtain ⟨i0,hi0⟩:=List.getElem?_of_mem hd0
 (walk_at "RD")
 refine ⟨by decide,fun ml hml=>?_⟩
 obtain ⟨hz1,dx1,ta1,f1,f2⟩:=id R1
 have hmlH:H ml=none:=by
  cases e:H ml with
  | none=>rfl
  | some u=>
   by_cases z:ml=q
   ·rw [z,f1] at hml;cases hml
   ·rw [s1 _ _ z e] at hml;cases hml
 have sB:Vb H1 (upd H1 ml (.lst [V.str f0])):=pb hml
 have eB:(upd H1 ml (.lst [V.str f0])) ml=some (.lst [V.str f0]):=db
 have nB:NoT (upd H1 ml (.lst [V.str f0])):=nt1.upd
 generalize upd H1 ml (.lst [V.str f0])=HB at sB eB nB ⊢
 have CB:=C1.same sB
 have hlB:=sB _ _ hl1
 have hnd:=C.1.1
 refine ⟨⟨_,SqL.of hlB⟩,?_⟩
 refine ad.list_sel (xs:=wb left) (ss:=left.map fun x=>if decide ((wOf ds x).map Dj=(wOf ds f0).map Dj)=true then some (V.str x) else none) (SqL.of hlB) (by rw [Rb];exact Nat.le_trans hll (by decide)) (by rw [Rb,List.length_map]) (fun i v o ys N hv ho hN=>?_) (fun al hal=>?_)
 ·unfold wb at hv
  obtain ⟨x,hx,rfl⟩:=Mb hv
  obtain ⟨x',hx',rfl⟩:=Mb ho
  rw [hx] at hx'
  cases hx'
  obtain ⟨d1,hd1,rfl⟩:=hlin x (List.mem_of_getElem? hx)
  obtain ⟨j,hj⟩:=List.getElem?_of_mem hd1
  rw [← hn0,We hnd hj,We hnd hi0] at hN
  (walk_at "RD")
  refine ⟨Sub.name,c,n,ds,j,d1,rfl,CB,hj,(hk d1 hd1).1,c,n,ds,i0,d0,by rw [hn0],CB,hi0,(hk d0 hd0).1,rfl,?_⟩
  by_cases c0:Dj d1=Dj d0
  ·simp [c0] at hN ⊢
   exact hN
  ·simp [c0] at hN ⊢
   exact hN
 rw [Wo]
 rw [show left.filter (fun x=>decide ((wOf ds x).map Dj=(wOf ds f0).map Dj))=ow ds left f0 from rfl]
 have hall:(ow ds left f0).length ≤ 12:=by
  unfold ow
  exact Nat.le_trans (List.length_filter_le ..) hll
 generalize ow ds left f0=alike at qq hall ⊢
 have sC:Vb HB (upd HB al (.lst (wb alike))):=pb hal
 have eC:(upd HB al (.lst (wb alike))) al=some (.lst (wb alike)):=db
 have nC:NoT (upd HB al (.lst (wb alike))):=nB.upd
 have halm:al ≠ ml:=fun z=>by rw [z,eB] at hal;cases hal
 generalize upd HB al (.lst (wb alike))=HC at sC eC nC ⊢
 have xC:Fc q H HC:=s1.trans (Fc.of (sB.trans sC))
 generalize hW0:qG alike (ws.drop 4) 4 [f0]=W0 at qq
 refine VD (fun σ H'=>∃ ms:List Str,σ=[some (.ref q),some (.ref c),some (.ref l),some (.str f0),some (.ref ml),some (.ref al)]∧Fc q H H'∧NoT H'∧Fe t H' q row ws (3 + ms.length)∧H' ml=some (.lst (wb ms))∧H' al=some (.lst (wb alike))∧3 + ms.length ≤ ws.length∧qG alike (ws.drop (3 + ms.length)) (3 + ms.length) ms=W0) (fun σ H'=>match H' ml with | some (.lst xs)=>ws.length - xs.length | _=>0) ?_ ?_
 ·exact ⟨[f0],rfl,xC,nC,R1.same (sB.trans sC),sC _ _ eB,eC,l4,hW0⟩
 rintro σ H' zzq
 refine zzP fun zzM zzh=>?_
 obtain ⟨ms,rfl,x2,n2,R2,m2,a2,hl2,hW⟩:=zzq
 obtain ⟨hz2,dx2,ta2,g1,g2⟩:=id R2
 have hmlq:ml ≠ q:=Vd m2 g1 (by intro z;cases z)
 have halq:al ≠ q:=Vd a2 g1 (by intro z;cases z)
 subst zzh
 refine ⟨decide (3 + ms.length < ws.length),fun Q' hQ=>?_,fun cc=>?_,fun cc=>?_⟩
 ·(walk_at "RD")
  exact ⟨_,_,g1,Fe.no _ _ _ (by decide +kernel),⟨q,row,ws,_,rfl,R2,_,rfl,hQ⟩⟩
 ·have cc:=of_decide_eq_true cc
  rw [CI cc] at hW
  unfold qG at hW
  (walk_at "RD")
  refine ⟨.inl ⟨_,SqL.of m2⟩,?_⟩
  refine ⟨_,_,g1,Fe.no _ _ _ (by decide +kernel),⟨_,SqL.of a2⟩,?_⟩
  refine ad.list_sel (xs:=wb alike) (ss:=alike.map fun x=>if (!decide (x ∈ ms))=true then some (V.str x) else none) (SqL.of a2) (by rw [Rb];exact Nat.le_trans hall (by decide)) (by rw [Rb,List.length_map]) (fun i v o ys N hv ho hN=>?_) (fun cl hcl=>?_)
  ·unfold wb at hv
   obtain ⟨x,hx,rfl⟩:=Mb hv
   obtain ⟨x',hx',rfl⟩:=Mb ho
   rw [hx] at hx'
   cases hx'
   (walk_at "RD")
   refine ⟨Sub.name,_,.inl (SqL.of m2),rfl,Bi ms,?_⟩
   rw [Jm]
   by_cases c0:x ∈ ms
   ·simp [c0] at hN ⊢
    exact hN
   ·simp [c0] at hN ⊢
    exact hN
  rw [Wo]
  have sD:Vb H' (upd H' cl (.lst (wb (alike.filter fun x=>!decide (x ∈ ms))))):=pb hcl
  have eD:(upd H' cl (.lst (wb (alike.filter fun x=>!decide (x ∈ ms))))) cl=some (.lst (wb (alike.filter fun x=>!decide (x ∈ ms)))):=db
  have nD:NoT (upd H' cl (.lst (wb (alike.filter fun x=>!decide (x ∈ ms))))):=n2.upd
  generalize upd H' cl (.lst (wb (alike.filter fun x=>!decide (x ∈ ms))))=HD at sD eD nD ⊢
  refine ⟨q,row,ws,3 + ms.length,cl,_,rfl,R2.same sD,hrow,by omega,SqL.of eD,fun hin=>fun H2 s2 n3 R3=>?_,fun hnin=>?_⟩
  ·have hc:wd ws (3 + ms.length) ∈ alike∧wd ws (3 + ms.length) ∉ ms:=by
    have:=List.mem_filter.mp hin
    exact ⟨this.1,by simpa using this.2⟩
   rw [if_pos hc] at hW
   have m3:H2 ml=some (.lst (wb ms)):=s2 _ _ hmlq (sD _ _ m2)
   have a3:H2 al=some (.lst (wb alike)):=s2 _ _ halq (sD _ _ a2)
   obtain ⟨hz3,dx3,ta3,k1,k2⟩:=id R3
   have hta:ta3 ≠ ml:=fun z=>by
    rw [z,m3] at k2
    have e:=Option.some.inj k2
    injection e with e
    have:=congrArg List.length e
    rw [Rb,Rb] at this
    omega
   refine ⟨_,m3,Nat.lt_of_le_of_lt (show (wb ms).length ≤ 1000 by rw [Rb];have:=hz3.1;omega) (by decide),fun b u hb e=>?_,(n3 nD).upd,⟨ms ++ [wd ws (3 + ms.length)],⟨hz3,dx3,ta3,?_,?_⟩,?_,?_,?_,?_⟩,?_⟩
   ·rw [lb (vb e hmlH)]
    exact s2 _ _ hb (sD _ _ (x2 _ _ hb e))
   ·rw [lb (Ne.symm hmlq),List.length_append]
    exact k1
   ·rw [lb hta];exact k2
   ·rw [db]
    unfold wb
    rw [List.map_append];rfl
   ·rw [lb halm];exact a3
   ·rw [List.length_append];show 3 + (ms.length + 1) ≤ _;omega
   ·rw [List.length_append];exact hW
   ·rw [db,m2]
    show ws.length - (wb ms ++ [V.str (wd ws (3 + ms.length))]).length < ws.length - (wb ms).length
    rw [List.length_append,Rb]
    show ws.length - (ms.length + 1) < _
    omega
  ·rw [if_neg (fun hc=>hnin (List.mem_filter.mpr ⟨hc.1,by simpa using hc.2⟩))] at hW
   subst hW
   exact (show jw t row (3 + ms.length) q H E from qq).step (x2.trans (Fc.of sD)) fun _=>nD
 ·have cc:=of_decide_eq_false cc
  rw [List.drop_of_length_le (by omega)] at hW
  replace hW:Except.ok ms=W0:=hW
  subst hW
  (walk_at "RD")
  exact qq ml H' x2 n2 ⟨_,g1⟩ m2 hmlH
theorem KF (T:Txt w K mg t):Jb P w K mg base (CX1 P w) 7 t.yh t.Rh ["reader","crossing","rows"] (iz t):=by
 have GX_RowReader_one_of:Jb P w K mg base (CX1 P w) 6 t.kc t.Ac ["self","choices"] (Xp K t):=(bv T).mono (by decide)
 have GX_RowReader_figures:Jb P w K mg base (CX1 P w) 6 t.Xb t.vc ["self","low","high"] (bz t):=(PF T).mono (by decide)
 have GX_read_members:Jb P w K mg base (CX1 P w) 6 t.bg t.Vf ["reader","crossing","left"] (Es t):=ZA T
 have G_names_left:Jb P w K mg base CX0 6 t.gg t.ig ["crossing","rows"] (gx t):=(AC T).mono (by decide)
 refine T.uk.okX Vi (fun vs H Q E h=>?_) (fun cdv A outer s H vs Q E hr h=>?_)
 ·obtain ⟨q,row,ws,c,n,ds,p,qs,ms,rows,rfl,_⟩:=h;rfl
 obtain ⟨q,row,ws,c,n,ds,p,qs,ms,rows,rfl,R,hrow,C,hk,RQ,hrl,hrm,nt,qq⟩:=h
 refine ⟨_,(fb (Qb (Tc (pv 0) T.ub T.Jd GX_RowReader_one_of hr T.Dd .nil sf (cb (se (cb ic gb)) gb)))
   (fb (Eb (i:=3) Vi.nd rfl (Or.inl rfl) (Tc (pv 0) T.ub T.uc GX_RowReader_figures hr T.wc .nil sf (cb jb (cb (Jf rfl T.uo T.vo) gb))))
   (fb (Eb (i:=4) Vi.nd rfl (Or.inl rfl) (Tc (pv 0) T.ub T.uc GX_RowReader_figures hr T.wc .nil sf (cb (pv 3) (cb (Jf rfl T.uo T.vo) gb))))
   (ib (Kb (zq (cb (pv 3) (cb (pv 4) (cb (xb GX_read_members hr rfl T.sr T.Zh.kp T.Dr .nil sf (cb (pv 0) (cb (pv 1) (cb (xb G_names_left hr rfl T.ro T.Ih.kp T.ko .nil Db (cb (pv 1) (cb (pv 2) gb))) gb)))) gb))))))))),?_⟩
 obtain ⟨_,dx,ta,e1,e2⟩:=id R
 (walk_at "RD")
 refine ⟨_,_,e1,Fe.no _ _ _ (by decide +kernel),by decide,fun p0 hp0=>?_⟩
 have s0:Vb H (upd H p0 (.lst [V.str (Str.ofString "stage")])):=pb hp0
 unfold zm at qq
 refine ⟨q,row,ws,0,p0,[Str.ofString "stage"],rfl,R.same s0,hrow,Nat.zero_le _,SqL.of db,fun hin=>fun H1 s1 n1 R1=>?_,fun hnin=>?_⟩
 case refine_2=>
  rw [if_neg hnin] at qq
  exact (show jw t row 0 q H E from qq).step (Fc.of s0) fun n=>n.upd
 rw [if_pos hin] at qq
 obtain ⟨_,dx1,ta1,f1,f2⟩:=id R1
 have nt1:=n1 nt.upd
 have x1:Fc q H H1:=(Fc.of s0).trans s1
 have l1:1 ≤ ws.length:=JJ (k:=0) (by rw [List.mem_singleton.mp hin];decide +kernel)
 (walk_at "RD")
 refine ⟨_,_,f1,Fe.no _ _ _ (by decide +kernel),⟨q,row,ws,1,1,60,rfl,R1,hrow,l1,nt1,fun lo hlo=>fun H2 s2 n2 R2=>?_,fun hlo=>?_⟩⟩
 case refine_2=>
  rw [aw hlo] at qq
  exact (show jw t row 1 q H E from qq).step x1 fun _=>nt1
 rw [Gu hlo] at qq
 replace qq:Oc ((uy (wd ws 2) lo 60).elim (.error 2) fun hi=>match Uz ds (Ze ds rows) ws with | .error k=>.error k | .ok ms=>.ok ⟨lo,hi,ms⟩) (fun s=>∀ x m H',Fc q H H'→NoT H'→H' x=some (stO s m)→H' m=some (.lst (wb s.mem))→H x=none→H m=none→Q (.ref x) H') (fun k=>jw t row k q H E):=qq
 have l2:=(zC hlo).1
 have nt2:=n2 nt1
 have x2:Fc q H H2:=x1.trans s2
 obtain ⟨_,dx2,ta2,g1,g2⟩:=id R2
 (walk_at "RD")
 refine ⟨_,_,g1,Fe.no _ _ _ (by decide +kernel),⟨q,row,ws,2,lo,60,rfl,R2,hrow,l2,nt2,fun hi hhi=>fun H3 s3 n3 R3=>?_,fun hhi=>?_⟩⟩
 case refine_2=>
  rw [aw hhi] at qq
  exact (show jw t row 2 q H E from qq).step x2 fun _=>nt2
 rw [Gu hhi] at qq
 replace qq:Oc (match Uz ds (Ze ds rows) ws with | .error k=>.error k | .ok ms=>.ok (⟨lo,hi,ms⟩:ST)) (fun s=>∀ x m H',Fc q H H'→NoT H'→H' x=some (stO s m)→H' m=some (.lst (wb s.mem))→H x=none→H m=none→Q (.ref x) H') (fun k=>jw t row k q H E):=qq
 have l3:=(zC hhi).1
 have nt3:=n3 nt2
 have x3:Fc q H H3:=x2.trans s3
 have C3:=C.sameR x3 R
 have Q3:=RQ.sameR x3 R
 (walk_at "RD")
 refine ⟨c,n,ds,p,qs,ms,rows,rfl,C3,Q3,hrl,hrm,fun l H4 s4 n4 hl hl4=>?_⟩
 have x4:Fc q H H4:=x3.trans (Fc.of s4)
 have nt4:=n4 nt3
 have hlf:(Ze ds rows).length ≤ 12:=by
  unfold Ze
  exact Nat.le_trans (List.length_filter_le ..) (by rw [List.length_map];exact C.1.2)
 refine ⟨q,row,ws,c,n,ds,l,Ze ds rows,rfl,R3.same s4,hrow,l3,C3.same s4,hk,hl4,hlf,fun x hx=>?_,nt4,?_⟩
 ·obtain ⟨d,hd,e⟩:=List.mem_map.mp (List.mem_filter.mp hx).1
  exact ⟨d,hd,e⟩
 cases hm:Uz ds (Ze ds rows) ws with
 | error k=>
  rw [hm] at qq
  exact (show jw t row k q H E from qq).step x4 fun _=>nt4
 | ok mm=>
  rw [hm] at qq
  replace qq:∀ x m H',Fc q H H'→NoT H'→H' x=some (stO ⟨lo,hi,mm⟩ m)→H' m=some (.lst (wb mm))→H x=none→H m=none→Q (.ref x) H':=qq
  intro m H5 s5 nt5 hq5 hm5 hm4
  obtain ⟨_,_,_,hq4,_⟩:=R3.same s4
  (walk_at "RD")
  refine ⟨by decide,fun x hx=>?_⟩
  have back:∀ {y:Addr} {G:Hp},Fc q H G→G y=none→(∃ u,G q=some u)→H y=none:=fun {y G} sx hy ⟨u,hu⟩=>by
   cases e:H y with
   | none=>rfl
   | some v=>
    by_cases c:y=q
    ·subst c;rw [hu] at hy;cases hy
    ·rw [sx _ _ c e] at hy;cases hy
  exact qq x m _ (x4.trans (s5.trans (Fc.of (pb hx)))) nt5.upd db ((pb hx) _ _ hm5) (back (x4.trans s5) hx hq5) (back x4 hm4 ⟨_,hq4⟩)
end
end My
namespace My
open PySem L2
theorem Fw {α:Type} [DecidableEq α]:∀ {l l':List α},l.Nodup→(∀ x ∈ l,x ∈ l')→l.length ≤ l'.length
 | [],_,_,_=>Nat.zero_le _
 | a :: l,l',h,hs=>by
  have ha:=hs a (List.mem_cons_self ..)
  have h2:=List.nodup_cons.mp h
  have:=Fw (l':=l'.erase a) h2.2 (fun x hx=>(List.mem_erase_of_ne (fun e=>h2.1 (by rw [← e];exact hx))).mpr (hs x (List.mem_cons_of_mem _ hx)))
  rw [List.length_erase_of_mem ha] at this
  have hp:=List.length_pos_of_mem ha
  rw [List.length_cons]
  omega
noncomputable def BD (rows:List ST) (x:Str):Option Nat:=match wg (de (rows.map (·.mem))) (Sum.inr x) with
 | some (.int k)=>some k.toNat
 | _=>none
theorem Up {x:Str}:∀ (n:Nat) (mems:List (List Str)),n ≤ mems.length→(∃ ms ∈ mems.take n,x ∈ ms)→∃ (k:Nat) (ms:List Str),wg (de (mems.take n)) (Sum.inr x)=some (.int (k:Int))∧mems[k]? = some ms∧x ∈ ms
 | 0,mems,_,h=>by
  obtain ⟨ms,h1,_⟩:=h
  simp at h1
 | n + 1,mems,hn,h=>by
  have hg:mems[n]? = some mems[n]:=List.getElem?_eq_getElem (by omega)
  rw [Ol hg,Wj]
  by_cases c:x ∈ mems[n]
  ·rw [if_pos c]
   exact ⟨n,_,rfl,hg,c⟩
  ·rw [if_neg c]
   refine Up n mems (by omega) ?_
   obtain ⟨ms,h1,h2⟩:=h
   rw [oe hg] at h1
   rcases List.mem_append.mp h1 with h1 | h1
   ·exact ⟨ms,h1,h2⟩
   ·rw [List.mem_singleton.mp h1] at h2
    exact absurd h2 c
theorem WB {rows:List ST} {x:Str} (h:told rows x=true):∃ (k:Nat) (r:ST),wg (de (rows.map (·.mem))) (Sum.inr x)=some (.int (k:Int))∧BD rows x=some k∧rows[k]? = some r∧x ∈ r.mem:=by
 unfold told at h
 obtain ⟨r,hr,hx⟩:=List.any_eq_true.mp h
 have:=Up (x:=x) (rows.map (·.mem)).length (rows.map (·.mem)) (Nat.le_refl _) ⟨r.mem,by rw [List.take_length];exact List.mem_map.mpr ⟨r,hr,rfl⟩,by simpa using hx⟩
 rw [List.take_length] at this
 obtain ⟨k,ms,h1,h2,h3⟩:=this
 obtain ⟨r',hr',rfl⟩:=Mb h2
 exact ⟨k,r',h1,by unfold BD;rw [h1];rfl,hr',h3⟩
noncomputable def qw (rows:List ST) (d:WD):Option (WD × Nat):=(BD rows d.name).bind fun k=>(rows[k]?).bind fun r=>if r.lo < d.least then some (d,k) else none
noncomputable def Vk (ds:List WD) (rows:List ST):Option (WD × Nat):=ds.findSome? (qw rows)
noncomputable def mtN (n:Int) (ds:List WD) (x y:Str):Bool:=match wOf ds x,wOf ds y with
 | some d,some e=>mt n d e
 | _,_=>false
noncomputable def ol (n:Int) (ds:List WD) (k:Nat) (x y:Str):Option (Str × Str × Nat):=if x ≠ y∧mtN n ds x y=true then some (x,y,k) else none
noncomputable def lq (n:Int) (ds:List WD) (e:ST × Nat):Option (Str × Str × Nat):=e.1.mem.findSome? fun x=>e.1.mem.findSome? fun y=>ol n ds e.2 x y
noncomputable def Zm (n:Int) (ds:List WD) (rows:List ST):Option (Str × Str × Nat):=rows.zipIdx.findSome? (lq n ds)
noncomputable def iI (ds:List WD):Prop:=∀ d ∈ ds,hJ d.name∧d.k < 3∧(0 ≤ d.off∧d.off ≤ 1000)
structure RIn (ds:List WD) (rows:List ST):Prop where
 ln:rows.length ≤ 6
 ml:∀ r ∈ rows,r.mem.length ≤ 12
 inn:∀ r ∈ rows,∀ x ∈ r.mem,∃ d ∈ ds,d.name=x
noncomputable def Vw (t:Adr):Sp:=fun vs H Q E=>∃ c n ds p qs ms rows,vs=[.ref c,.ref p]∧Qc t H c n ds∧iI ds∧xi H p qs ms rows∧RIn ds rows ∧
 match (Ze ds rows).head? with
 | none=>∀ H',Vb H H'→(NoT H→NoT H')→Q .non H'
 | some x=>mB t.Nd [(Str.ofString "way",.str x)] H E
noncomputable def dw (t:Adr):Sp:=fun vs H Q E=>∃ c n ds p qs ms rows,vs=[.ref c,.ref p]∧Qc t H c n ds∧iI ds∧xi H p qs ms rows∧RIn ds rows∧Ze ds rows=[] ∧
 match Vk ds rows with
 | none=>∀ H',Vb H H'→(NoT H→NoT H')→Q .non H'
 | some e=>mB t.Bd [(Str.ofString "way",.str e.1.name),(Str.ofString "at",.int e.2)] H E
noncomputable def fv (t:Adr):Sp:=fun vs H Q E=>∃ c n ds p qs ms rows,vs=[.ref c,.ref p]∧Qc t H c n ds∧0 < n∧iI ds∧xi H p qs ms rows∧RIn ds rows∧NoT H ∧
 match Zm n ds rows with
 | none=>∀ H',Vb H H'→(NoT H→NoT H')→Q .non H'
 | some e=>mB t.ud [(Str.ofString "way",.str e.1),(Str.ofString "other",.str e.2.1),(Str.ofString "at",.int e.2.2)] H E
noncomputable def Zq (l:List Int) (v:Int):Prop:=v ∈ l∧∀ k ∈ l,k ≤ v
noncomputable def ju (ds:List WD) (x:Str):Int:=((wOf ds x).map Tk).getD 0
noncomputable def zo (ds:List WD) (x:Str):Int:=((wOf ds x).map Dg).getD 0
noncomputable def IF (ds:List WD) (x y:Str):Int:=match wOf ds x,wOf ds y with
 | some d,some e=>if d.off - e.near > 0 then d.off - e.near else 0
 | _,_=>0
noncomputable def chX (n:Int) (ds:List WD) (s:List Str) (x:Str):List Int:=if x ∈ s then [] else (s.filter fun y=>mtN n ds x y).map (IF ds x)
noncomputable def chL (n:Int) (ds:List WD) (f s:List Str):List Int:=[0] ++ f.map (ju ds) ++ s.map (zo ds) ++ (ds.map (·.name)).flatMap (chX n ds s)
theorem QH {d:WD} {m:Str} (h:Cr.contains m=false):(Hr d).lookup m=none:=Lm Cr (bt _) h
theorem Cz (p:Str→Bool) (g:Str→Int):∀ xs:List Str,((xs.map fun x=>if p x=true then some (V.int (g x)) else none).flatMap Option.toList)=((xs.filter p).map g).map V.int
 | []=>rfl
 | x :: xs=>by
  rw [List.map_cons,List.flatMap_cons,Cz p g xs]
  by_cases c:p x=true
  ·rw [if_pos c,List.filter_cons_of_pos c];rfl
  ·rw [if_neg c,List.filter_cons_of_neg c];rfl
theorem tz:∀ ks:List Int,ks ≠ []→∃ m,m ∈ ks∧∀ k ∈ ks,k ≤ m
 | [],h=>absurd rfl h
 | [x],_=>⟨x,by simp,fun k hk=>by rw [List.mem_singleton.mp hk];exact Int.le_refl _⟩
 | x :: y :: r,_=>by
  obtain ⟨m,hm,al⟩:=tz (y :: r) (by simp)
  by_cases c:x ≤ m
  ·refine ⟨m,List.mem_cons_of_mem _ hm,fun k hk=>?_⟩
   rcases List.mem_cons.mp hk with rfl | hk
   ·exact c
   ·exact al k hk
  ·refine ⟨x,by simp,fun k hk=>?_⟩
   rcases List.mem_cons.mp hk with rfl | hk
   ·exact Int.le_refl _
   ·exact Int.le_trans (al k hk) (by omega)
noncomputable def Sv (t:Adr):Sp:=fun vs H Q _=>∃ c n ds fa sa f s,vs=[.ref c,.ref fa,.ref sa]∧Qc t H c n ds∧0 < n∧iI ds∧H fa=some (.lst (wb f))∧H sa=some (.lst (wb s))∧(∀ x ∈ f,∃ d ∈ ds,d.name=x)∧(∀ x ∈ s,∃ d ∈ ds,d.name=x)∧f.length ≤ 12∧s.length ≤ 12∧NoT H∧∀ v,Zq (chL n ds f s) v→Q (.int v) H
noncomputable def BA (t:Adr):Sp:=fun vs H Q _=>∃ c n ds fa sa f s,vs=[.ref c,.ref fa,.ref sa]∧Qc t H c n ds∧0 < n∧iI ds∧H fa=some (.lst (wb f))∧H sa=some (.lst (wb s))∧(∀ x ∈ f,∃ d ∈ ds,d.name=x)∧(∀ x ∈ s,∃ d ∈ ds,d.name=x)∧f.length ≤ 12∧s.length ≤ 12∧NoT H∧∀ v H',Vb H H'→Zq (chL n ds f s) v→Q (.int v) H'
section
variable {P:Program} {w:World} {K:PySem.W.Frag} {mg:Str→Option Value} {base:Heap} {t:Adr}
theorem xD (T:Txt w K mg t):Jb P w K mg base (CX1 P w) 3 t.Zf t.Yf ["crossing","rows"] (Vw t):=by
 have G_Never_init:Jb P w K mg base CX0 1 t.lg t.Eh ["self","way"] (yH t):=HK T
 have G_names_left:Jb P w K mg base CX0 2 t.gg t.ig ["crossing","rows"] (gx t):=AC T
 refine T.bi.okX Sj (fun vs H Q E h=>?_) (fun cdv A outer s H vs Q E hr h=>?_)
 ·obtain ⟨c,n,ds,p,qs,ms,rows,rfl,_⟩:=h;rfl
 obtain ⟨c,n,ds,p,qs,ms,rows,rfl,C,hD,R,I,q⟩:=h
 refine ⟨_,(fb (Eb (i:=2) Sj.nd rfl (Or.inl rfl) (xb G_names_left hr rfl T.ro T.Ih.kp T.ko .nil Db (cb (pv 0) (cb (pv 1) gb))))
   (ib (Ge (yz (pv 2) (fun _=>rfl)) (ib (ip (bp T.Gz G_Never_init hr rfl T.oJ T.Yv (cb (lc bc (pv 2) jb (fun _ _=>rfl)) gb)) Ht)) Ec))),?_⟩
 (walk_at "RD")
 refine ⟨c,n,ds,p,qs,ms,rows,rfl,C,R,I.ln,I.ml,fun l H1 s1 n1 hl l1=>?_⟩
 dsimp only
 cases hL:Ze ds rows with
 | nil=>
  rw [hL] at q l1
  refine Zb false (fun Q hQ=>?_) (fun z=>nomatch z) (fun _=>?_)
  ·exact ⟨_,rfl,_,.inl ⟨_,SqL.of l1,rfl⟩,hQ⟩
  ·simp only [Zd]
   exact q H1 s1 n1
 | cons x r=>
  have hx:x ∈ Ze ds rows:=by rw [hL];exact List.mem_cons_self ..
  rw [hL] at q l1
  replace q:mB t.Nd [(Str.ofString "way",.str x)] H E:=q
  have hn:hJ x:=by
   obtain ⟨d,hd,e⟩:=List.mem_map.mp (List.mem_filter.mp hx).1
   rw [← e]
   exact (hD d hd).1
  refine Zb true (fun Q hQ=>?_) (fun _=>?_) (fun z=>nomatch z)
  ·exact ⟨_,rfl,_,.inl ⟨_,SqL.of l1,rfl⟩,hQ⟩
  ·(walk_at "RD")
   refine ⟨_,SqL.of l1,_,Fb (j:=0) rfl,by decide,fun a ha=>⟨a,x,rfl,hn,db,fun d hd hne=>?_⟩⟩
   have hd0:H1 d=none:=by rw [lb hne] at hd;exact hd
   refine ⟨rfl,t.Nd,some d,by rw [lb (Ne.symm hne),db],T.zy,q d _ (fun b u e=>?_) (fun n=>((((n1 n).upd).upd).upd).upd) (by rw [lb hne,db])⟩
   have e':=s1 _ _ e
   rw [lb (vb e' ha),lb (vb e' hd0),lb (vb e' ha),lb (vb e' ha)]
   exact e'
theorem ED (T:Txt w K mg t):Jb P w K mg base (CX1 P w) 3 t.Rf t.Xf ["crossing","rows"] (dw t):=by
 have G_Short_init:Jb P w K mg base CX0 1 t.cg t.Ph ["self","way","at"] (RH t):=UL T
 have G_homes_in:Jb P w K mg base CX0 2 t.Sg t.Rg ["members"] Xo:=(Rt T).mono (by decide)
 have G_Crossing_names:Jb P w K mg base CX0 2 t.Zc t.Cd ["self"] (Qo t):=(Qu T).mono (by decide)
 have G_Crossing_called:Jb P w K mg base CX0 2 t.yc t.Gc ["self","name"] (Gi t):=Fj T
 refine T.Wh.okX mf (fun vs H Q E h=>?_) (fun cdv A outer s H vs Q E hr h=>?_)
 ·obtain ⟨c,n,ds,p,qs,ms,rows,rfl,_⟩:=h;rfl
 obtain ⟨c,n,ds,p,qs,ms,rows,rfl,C,hD,R,I,hleft,q⟩:=h
 have hu:=Zp hr
 obtain ⟨⟨hnd,hdl⟩,dx,wl,nd,e1,_,_⟩:=id C
 refine ⟨_,(fb (Eb (i:=2) mf.nd rfl (Or.inl rfl) (xb G_homes_in hr rfl T.gn T.Ei.kp T.jn .nil Db (cb (Td rfl (Kc (pv 1)) (Bc (sc:=qb ki) rfl (by decide +kernel)) (N:=["least","most","members"]) (sel:=[none,none,none]) (Uc (M:=["crossing","rows","homes","name","number"]) (by decide +kernel)) (Blk.of (fun _ _ _ _=>(Hf (K:=K) (n:=3) rfl rfl (Ob (zb (i:=0) (Je (N:=["least","most","members"]) (by decide +kernel) rfl) rfl (Or.inl rfl) (.inr rfl)) (Ob (zb (i:=1) (Je (N:=["least","most","members"]) (by decide +kernel) rfl) rfl (Or.inl rfl) (.inr rfl)) (Ob (zb (i:=2) (Je (N:=["least","most","members"]) (by decide +kernel) rfl) rfl (Or.inl rfl) (.inr rfl)) Ff))))) (fun _ _ _ _=>⟨_,Ee,by first | rfl | (dsimp only [Cx.block];done) | (dsimp only [Cx.block];exact rfl)⟩) (fun _ _ _ _=>⟨_,(pv 2),by first | rfl | (dsimp only [Cx.block];done) | (dsimp only [Cx.block];exact rfl)⟩))) gb)))
   (ib (Xd (Kf ⟨rfl,rfl⟩) rfl (Kc (Yd (pv 0) T.jc T.ug G_Crossing_names hr T.rg .nil Db)) (zb (i:=3) mf.nd rfl (Or.inl rfl)) (fb (Eb (i:=4) mf.nd rfl (Or.inl rfl) (Mu hu (pv 2) (pv 3) (fun _ _=>rfl)))
   (ib (Ge (ac Bu (lc sd (lc bc (pv 1) (pv 4) (fun _ _=>rfl)) jb (fun _ _=>rfl)) (Dc (Tc (pv 0) T.jc T.Ic G_Crossing_called hr T.Hc .nil Db (cb (pv 3) gb)) rfl) (gc _)) (ib (ip (bp T.uz G_Short_init hr rfl T.OI T.Fv (cb (pv 3) (cb (pv 4) gb))) Ht)) Ec)))))),?_⟩
 (walk_at "RD")
 have hqn:(qs.map V.ref).length=rows.length:=by rw [List.length_map,R.l1]
 refine ⟨⟨_,SqL.of R.at_⟩,?_⟩
 refine ad.list_zs (xs:=qs.map V.ref) (zs:=ms.map V.ref) (SqL.of R.at_) (by rw [hqn];exact Nat.le_trans I.ln (by decide)) (by rw [hqn,List.length_map,R.l2]) (fun j v z N hv hz hN=>?_) (fun pm hpm=>?_)
 ·obtain ⟨qj,hqj,rfl⟩:=Mb hv
  obtain ⟨mj,hmj,rfl⟩:=Mb hz
  have hj:j < rows.length:=by rw [← R.l1];exact (List.getElem?_eq_some_iff.mp hqj).1
  have e:=(R.al j qj mj _ hqj hmj (List.getElem?_eq_getElem hj)).1
  (walk_at "RD")
  exact ⟨_,SqT.of e,rfl,_,_,rfl,_,_,rfl,_,_,rfl,rfl,Sub.name3,hN⟩
 ·have sp:Vb H (upd H pm (.lst (ms.map V.ref))):=pb hpm
  have np:NoT H→NoT (upd H pm (.lst (ms.map V.ref))):=fun n=>n.upd
  have ep:(upd H pm (.lst (ms.map V.ref))) pm=some (.lst (ms.map V.ref)):=db
  generalize upd H pm (.lst (ms.map V.ref))=HA at sp np ep ⊢
  refine ⟨pm,ms,rows.map (·.mem),rfl,⟨ep,by rw [R.l2,List.length_map],fun i m x hm hx=>?_⟩,by rw [List.length_map];exact I.ln,fun x hx=>?_,fun h H1 s1 n1 hh h1=>?_⟩
  ·obtain ⟨r,hr',rfl⟩:=Mb hx
   have hqi:qs[i]? = some (qs[i]'(by rw [R.l1];exact (List.getElem?_eq_some_iff.mp hr').1)):=List.getElem?_eq_getElem _
   exact sp _ _ (R.al i _ m r hqi hm hr').2
  ·obtain ⟨r,hr',rfl⟩:=List.mem_map.mp hx
   exact I.ml r hr'
  ·have sA:=sp.trans s1
   have C1:=C.same sA
   refine ⟨_,_,sA _ _ e1,lB _ _ _ (by decide +kernel),c,n,ds,rfl,C1,fun pn hpn=>⟨pn,rfl,⟨_,SqL.of db⟩,?_⟩⟩
   have sB:=sA.trans (pb (o:=.lst (wb (ds.map (·.name)))) hpn)
   have h2:=(pb (o:=.lst (wb (ds.map (·.name)))) hpn) _ _ h1
   have nB:NoT H→NoT (upd H1 pn (.lst (wb (ds.map (·.name))))):=fun n=>(n1 (np n)).upd
   have ePn:(upd H1 pn (.lst (wb (ds.map (·.name))))) pn=some (.lst (wb (ds.map (·.name)))):=db
   generalize upd H1 pn (.lst (wb (ds.map (·.name))))=HB at sB h2 nB ePn ⊢
   refine Fi.list (xs:=wb (ds.map (·.name))) (fun i σ H'=>(∃ x y,σ=[some (.ref c),some (.ref p),some (.ref h),x,y])∧H'=HB∧Vk ds rows=(ds.drop i).findSome? (qw rows)) ?_ ?_ ?_ ?_
   ·exact ⟨⟨_,_,rfl⟩,rfl,rfl⟩
   ·rintro i σ H' hi ⟨_,rfl,_⟩
    exact SqL.of ePn
   ·rintro i v σ H' hv zzq
    refine zzP fun zzM zzh=>?_
    obtain ⟨⟨x,y,rfl⟩,rfl,hS⟩:=zzq
    subst zzh
    unfold wb at hv
    obtain ⟨nm,hnm,rfl⟩:=Mb hv
    obtain ⟨d,hd,rfl⟩:=Mb hnm
    obtain ⟨hi,hdi⟩:=List.getElem?_eq_some_iff.mp hd
    have hdm:=List.mem_of_getElem? hd
    have ht:told rows d.name=true:=by
     have:=List.filter_eq_nil_iff.mp hleft d.name (List.mem_map.mpr ⟨d,hdm,rfl⟩)
     simpa using this
    obtain ⟨k,r,hv1,hk1,hrk,hxm⟩:=WB ht
    have hkl:k < rows.length:=(List.getElem?_eq_some_iff.mp hrk).1
    have hsd:qw rows d=if r.lo < d.least then some (d,k) else none:=by
     unfold qw
     rw [hk1,Option.bind_some,hrk,Option.bind_some]
    rw [List.drop_eq_getElem_cons hi,List.findSome?_cons,hdi,hsd] at hS
    have hg:Nu H' h (.str d.name) (some (.int (k:Int))):=by rw [← hv1];exact Nu.k (k:=Sum.inr d.name) h2
    have hqk:qs[k]? = some (qs[k]'(by rw [R.l1];exact hkl)):=List.getElem?_eq_getElem _
    have hmk:ms[k]? = some (ms[k]'(by rw [R.l2];exact hkl)):=List.getElem?_eq_getElem _
    have erk:=sB _ _ (R.al k _ _ r hqk hmk hrk).1
    simp only [qe,Bb,List.set_cons_succ,List.set_cons_zero]
    refine zzC (fun σ' H2=>H2=H'∧σ'=[some (.ref c),some (.ref p),some (.ref h),some (.str d.name),some (.int (k:Int))]) (fun D' hD'=>?_) fun zzM zzh=>?_
    ·(walk_at "RD")
     exact ⟨_,hg,hD' _ _ ⟨rfl,rfl⟩⟩
    rintro σ2 H2 ⟨rfl,rfl⟩
    subst zzh
    dsimp only
    refine Zb (decide (r.lo < d.least)) (fun Q hQ=>?_) (fun hb=>?_) (fun hb=>?_)
    ·(walk_at "RD")
     exact ⟨_,SqL.of (sB _ _ R.at_),_,Fb (by rw [List.getElem?_map,hqk];rfl),_,rfl,_,SqT.of erk,_,Fb (j:=0) rfl,_,_,sB _ _ e1,lB _ _ _ (by decide +kernel),c,n,ds,i,d,rfl,C.same sB,hd,fun a W=>⟨a,rfl,_,W.f_least T,_,rfl,_,rfl,hQ⟩⟩
    ·have hb:=of_decide_eq_true hb
     rw [if_pos hb] at hS
     replace hS:Vk ds rows=some (d,k):=hS
     rw [hS] at q
     replace q:mB t.Bd [(Str.ofString "way",.str d.name),(Str.ofString "at",.int (k:Int))] H E:=q
     (walk_at "RD")
     refine ⟨by decide,fun a ha=>⟨a,d.name,k,rfl,(hD d hdm).1,Gn (by have:=I.ln;omega),db,fun dd hd hne=>?_⟩⟩
     have hd0:H2 dd=none:=by rw [lb hne] at hd;exact hd
     refine ⟨rfl,t.Bd,some dd,by rw [lb (Ne.symm hne),db],T.Au,q dd _ (fun b u e=>?_) (fun n=>((((nB n).upd).upd).upd).upd) (by rw [lb hne,db])⟩
     have e':=sB _ _ e
     rw [lb (vb e' ha),lb (vb e' hd0),lb (vb e' ha),lb (vb e' ha)]
     exact e'
    ·have hb:=of_decide_eq_false hb
     rw [if_neg hb] at hS
     simp only [Zd]
     exact ⟨⟨_,_,rfl⟩,trivial,hS⟩
   ·rintro σ H' zzq
    refine zzP fun zzM zzh=>?_
    obtain ⟨⟨x,y,rfl⟩,rfl,hS⟩:=zzq
    subst zzh
    rw [Rb,List.length_map,List.drop_length] at hS
    replace hS:Vk ds rows=none:=hS
    rw [hS] at q
    exact q _ sB nB
theorem ZC (T:Txt w K mg t):Jb P w K mg base (CX1 P w) 4 t.Of t.Uf ["crossing","rows"] (fv t):=by
 have G_Clash_init:Jb P w K mg base CX0 2 t.eg t.Sh ["self","way","other","at"] (AH t):=(oK T).mono (by decide)
 have G_meet:Jb P w K mg base CX0 3 t.Bw t.Xv ["crossing","one","other"] (yy t):=TC T
 refine T.di.okX ye (fun vs H Q E h=>?_) (fun cdv A outer s H vs Q E hr h=>?_)
 ·obtain ⟨c,n,ds,p,qs,ms,rows,rfl,_⟩:=h;rfl
 obtain ⟨c,n,ds,p,qs,ms,rows,rfl,C,hn,hD,R,I,nt,q⟩:=h
 obtain ⟨⟨hnd,hdl⟩,dx,wl,nd,e1,_,_⟩:=id C
 refine ⟨_,(ib (Xd (Kf ⟨rfl,rfl⟩) rfl (Pu rfl T.Pi (cb (pv 1) gb)) (Hf (K:=K) (n:=2) rfl rfl (Ob (zb (i:=2) ye.nd rfl (Or.inl rfl) (.inl rfl)) (Ob (zb (i:=3) ye.nd rfl (Or.inl rfl) (.inl rfl)) Ff))) (ib (Xd (Kf ⟨rfl,rfl⟩) rfl (Kc (lc sd (pv 3) jb (fun _ _=>rfl))) (zb (i:=4) ye.nd rfl (Or.inl rfl)) (ib (Xd (Kf ⟨rfl,rfl⟩) rfl (Kc (lc sd (pv 3) jb (fun _ _=>rfl))) (zb (i:=5) ye.nd rfl (Or.inl rfl)) (ib (Ge (PW.pt (Qs (ac wx (pv 4) (pv 5) (gc _)) (mn (wj (xb G_meet hr rfl T.XH T.Oy.kp T.jI .nil Db (cb (pv 0) (cb (pv 4) (cb (pv 5) gb)))))))) (ib (ip (bp T.Iz G_Clash_init hr rfl T.sI T.vw (cb (pv 4) (cb (pv 5) (cb (pv 2) gb)))) Ht)) Ec)))))))),?_⟩
 (walk_at "RD")
 have nm3:∀ {x:Str},(∃ d ∈ ds,d.name=x)→∃ (i:Nat) (d:WD),ds[i]? = some d∧d.name=x∧wOf ds x=some d∧hJ x:=fun ⟨d,hd,e⟩=>by
  obtain ⟨i,hi⟩:=List.getElem?_of_mem hd
  exact ⟨i,d,hi,e,by rw [← e];exact We hnd hi,by rw [← e];exact (hD d hd).1⟩
 refine ⟨⟨_,SqL.of R.at_⟩,?_⟩
 refine Fi.enum (xs:=qs.map V.ref) (fun i σ H'=>(∃ x y z u,σ=[some (.ref c),some (.ref p),x,y,z,u])∧Vb H H'∧NoT H'∧Zm n ds rows=((rows.drop i).zipIdx i).findSome? (lq n ds)) ?_ ?_ ?_ ?_
 ·exact ⟨⟨_,_,_,_,rfl⟩,Vb.refl _,nt,rfl⟩
 ·rintro i σ H' hi ⟨_,sm,_⟩
  exact SqL.of (sm _ _ R.at_)
 ·rintro i v σ H' tp hv ⟨⟨x,y,z,u,rfl⟩,sm,n1,hS⟩ htp
  obtain ⟨qi,hqi,rfl⟩:=Mb hv
  have hi:i < rows.length:=by rw [← R.l1];exact (List.getElem?_eq_some_iff.mp hqi).1
  have hri:rows[i]? = some rows[i]:=List.getElem?_eq_getElem hi
  have hmi:ms[i]? = some (ms[i]'(by rw [R.l2];exact hi)):=List.getElem?_eq_getElem _
  obtain ⟨er,em⟩:=R.al i qi _ _ hqi hmi hri
  generalize ms[i]'(by rw [R.l2];exact hi)=m at hmi er em
  have hrm:=List.mem_of_getElem? hri
  have hin:=I.inn _ hrm
  have hml:=I.ml _ hrm
  rw [List.drop_eq_getElem_cons hi,List.zipIdx_cons,List.findSome?_cons] at hS
  generalize hrr:rows[i]=r at er em hin hml hS
  have s2:Vb H' (upd H' tp (.tup [.int i,.ref qi])):=pb htp
  have sB:=sm.trans s2
  have nB:NoT (upd H' tp (.tup [.int i,.ref qi])):=n1.upd
  refine lm ?_
  generalize upd H' tp (.tup [.int i,.ref qi])=HB at s2 sB nB ⊢
  have erB:=sB _ _ er
  have emB:=sB _ _ em
  (walk_at "RD")
  refine ⟨_,SqT.of erB,_,Fb (j:=2) rfl,m,rfl,⟨_,SqL.of emB⟩,?_⟩
  generalize hrest:((rows.drop (i + 1)).zipIdx (i + 1)).findSome? (lq n ds)=rest at hS
  refine Fi.list (xs:=wb r.mem) (fun j σ H2=>(∃ z u,σ=[some (.ref c),some (.ref p),some (.int (i:Int)),some (.ref qi),z,u])∧H2=HB∧lq n ds (r,i)=(r.mem.drop j).findSome? (fun x=>r.mem.findSome? fun y=>ol n ds i x y)) ?_ ?_ ?_ ?_
  ·exact ⟨⟨_,_,rfl⟩,rfl,rfl⟩
  ·rintro j σ H2 hj ⟨_,rfl,_⟩
   exact SqL.of emB
  ·rintro j v σ H2 hv zzq
   refine zzP fun zzM zzh=>?_
   obtain ⟨⟨z,u,rfl⟩,rfl,hR⟩:=zzq
   subst zzh
   unfold wb at hv
   obtain ⟨x1,hx1,rfl⟩:=Mb hv
   obtain ⟨hj,hxj⟩:=List.getElem?_eq_some_iff.mp hx1
   rw [List.drop_eq_getElem_cons hj,List.findSome?_cons,hxj] at hR
   obtain ⟨i1,d1,hd1,hn1,hw1,ho1⟩:=nm3 (hin x1 (List.mem_of_getElem? hx1))
   generalize hrest2:(r.mem.drop (j + 1)).findSome? (fun x=>r.mem.findSome? fun y=>ol n ds i x y)=rest2 at hR
   (walk_at "RD")
   refine ⟨_,SqT.of erB,_,Fb (j:=2) rfl,m,rfl,⟨_,SqL.of emB⟩,?_⟩
   refine Fi.list (xs:=wb r.mem) (fun l σ H3=>(∃ u,σ=[some (.ref c),some (.ref p),some (.int (i:Int)),some (.ref qi),some (.str x1),u])∧H3=H2∧(r.mem.findSome? fun y=>ol n ds i x1 y)=(r.mem.drop l).findSome? (fun y=>ol n ds i x1 y)) ?_ ?_ ?_ ?_
   ·exact ⟨⟨_,rfl⟩,rfl,rfl⟩
   ·rintro l σ H3 hl ⟨_,rfl,_⟩
    exact SqL.of emB
   ·rintro l v σ H3 hv zzq
    refine zzP fun zzM zzh=>?_
    obtain ⟨⟨u,rfl⟩,rfl,hL⟩:=zzq
    subst zzh
    unfold wb at hv
    obtain ⟨x2,hx2,rfl⟩:=Mb hv
    obtain ⟨hl,hxl⟩:=List.getElem?_eq_some_iff.mp hx2
    rw [List.drop_eq_getElem_cons hl,List.findSome?_cons,hxl] at hL
    obtain ⟨i2,d2,hd2,hn2,hw2,ho2⟩:=nm3 (hin x2 (List.mem_of_getElem? hx2))
    have hmt:mtN n ds x1 x2=mt n d1 d2:=by unfold mtN;rw [hw1,hw2]
    have hc3:ol n ds i x1 x2=if x1 ≠ x2∧mt n d1 d2=true then some (x1,x2,i) else none:=by unfold ol;rw [hmt]
    rw [hc3] at hL
    simp only [qe,List.set_cons_succ,List.set_cons_zero]
    refine Zb (decide (x1 ≠ x2) && mt n d1 d2) (fun Q hQ=>?_) (fun hb=>?_) (fun hb=>?_)
    ·(walk_at "RD")
     by_cases c0:x1=x2
     ·rw [if_neg (by simp [c0])]
      rw [decide_eq_false (fun z=>z c0),Bool.false_and] at hQ
      exact hQ
     ·rw [if_pos (by simpa using c0)]
      rw [decide_eq_true c0,Bool.true_and] at hQ
      exact ⟨c,n,ds,i1,i2,d1,d2,by rw [hn1,hn2],C.same sB,hn,hd1,hd2,nB,_,rfl,hQ⟩
    ·rw [Bool.and_eq_true,decide_eq_true_eq] at hb
     rw [if_pos hb] at hL
     replace hL:(r.mem.findSome? fun y=>ol n ds i x1 y)=some (x1,x2,i):=hL
     rw [hL] at hR
     replace hR:lq n ds (r,i)=some (x1,x2,i):=hR
     rw [hR] at hS
     replace hS:Zm n ds rows=some (x1,x2,i):=hS
     rw [hS] at q
     replace q:mB t.ud [(Str.ofString "way",.str x1),(Str.ofString "other",.str x2),(Str.ofString "at",.int (i:Int))] H E:=q
     (walk_at "RD")
     refine ⟨by decide,fun a ha=>⟨a,x1,x2,i,rfl,ho1,ho2,Gn (by have:=I.ln;omega),db,fun dd hd hne=>?_⟩⟩
     have hd0:H3 dd=none:=by rw [lb hne] at hd;exact hd
     refine ⟨rfl,t.ud,some dd,by rw [lb (Ne.symm hne),db],T.Fq,q dd _ (fun b u e=>?_) (fun _=>((((nB).upd).upd).upd).upd) (by rw [lb hne,db])⟩
     have e':=sB _ _ e
     rw [lb (vb e' ha),lb (vb e' hd0),lb (vb e' ha),lb (vb e' ha)]
     exact e'
    ·have hb:¬ (x1 ≠ x2∧mt n d1 d2=true):=fun z=>by
      rw [decide_eq_true z.1,z.2] at hb
      exact nomatch hb
     rw [if_neg hb] at hL
     simp only [Zd]
     exact ⟨⟨_,rfl⟩,trivial,hL⟩
   ·rintro σ H3 zzq
    refine zzP fun zzM zzh=>?_
    obtain ⟨⟨u,rfl⟩,rfl,hL⟩:=zzq
    subst zzh
    rw [Rb,List.drop_length] at hL
    replace hL:(r.mem.findSome? fun y=>ol n ds i x1 y)=none:=hL
    rw [hL] at hR
    exact ⟨⟨_,_,rfl⟩,rfl,hR⟩
  ·rintro σ H2 zzq
   refine zzP fun zzM zzh=>?_
   obtain ⟨⟨z,u,rfl⟩,rfl,hR⟩:=zzq
   subst zzh
   rw [Rb,List.drop_length] at hR
   replace hR:lq n ds (r,i)=none:=hR
   rw [hR] at hS
   exact ⟨⟨_,_,_,_,rfl⟩,sB,nB,hS⟩
 ·rintro σ H' zzq
  refine zzP fun zzM zzh=>?_
  obtain ⟨⟨x,y,z,u,rfl⟩,sm,n1,hS⟩:=zzq
  subst zzh
  rw [List.length_map,R.l1,List.drop_length] at hS
  replace hS:Zm n ds rows=none:=hS
  rw [hS] at q
  exact q _ sm (fun _=>n1)
theorem vD (T:Txt w K mg t):Jb P w K mg base CX0 4 t.ag t.Nf ["crossing","first","second"] (Sv t):=by
 refine Jb.forget (sp:=BA t) ?_ fun vs H Q E h=>?_
 ·have G_meet:Jb P w K mg base CX0 3 t.Bw t.Xv ["crossing","one","other"] (yy t):=TC T
  have G_gap:Jb P w K mg base CX0 3 t.xG t.lF ["crossing","one","other"] (SH t):=BK T
  have G_Crossing_names:Jb P w K mg base CX0 3 t.Zc t.Cd ["self"] (Qo t):=(Qu T).mono (by decide)
  have G_Crossing_called:Jb P w K mg base CX0 3 t.yc t.Gc ["self","name"] (Gi t):=(Fj T).mono (by decide)
  have V_Way_ready:UI P w K mg base CX0 3 (isW t) "ready" ["self"] (Nj t):=gw (fJ T) (by decide)
  have V_Way_fade:UI P w K mg base CX0 3 (isW t) "fade" ["self"] (om t):=gw (rK T) (by decide)
  refine T.ji.ok Yg (fun vs H Q E h=>?_) (fun cdv A outer s H vs Q E hr h=>?_)
  ·obtain ⟨c,n,ds,fa,sa,f,s,rfl,_⟩:=h;rfl
  obtain ⟨c,n,ds,fa,sa,f,s,rfl,C,hn,hD,hf,hs,fin,sin,hfl,hsl,nt,q⟩:=h
  obtain ⟨⟨hnd,hdl⟩,dx,wl,nd,e1,_,_⟩:=id C
  refine ⟨_,(fb (Eb (i:=3) Yg.nd rfl (Or.inl rfl) (se (cb jb gb)))
   (fb (Qb (Df PySem.F.plainAttrs_list PySem.F.slot_list_extend PySem.F.type_list_extend Op (pv 3) (cb (Td rfl (Kc (pv 1)) (Bc (sc:=qb Qe) rfl (by decide +kernel)) (N:=["name","crossing"]) (sel:=[none,some 0]) (Uc (M:=["crossing","first","second","turns","one"]) (by decide +kernel)) (Blk.of (fun _ _ _ _=>(zb (i:=0) (Je (N:=["name","crossing"]) (by decide +kernel) rfl) rfl (Or.inl rfl))) (fun _ _ _ _=>⟨_,Ee,by first | rfl | (dsimp only [Cx.block];done) | (dsimp only [Cx.block];exact rfl)⟩) (fun _ _ _ _=>⟨_,(Rv (Tc (pv 1) T.jc T.Ic G_Crossing_called hr T.Hc .nil Db (cb (pv 0) gb)) V_Way_fade hr Db),by first | rfl | (dsimp only [Cx.block];done) | (dsimp only [Cx.block];exact rfl)⟩))) gb)))
   (fb (Qb (Df PySem.F.plainAttrs_list PySem.F.slot_list_extend PySem.F.type_list_extend Op (pv 3) (cb (Td rfl (Kc (pv 2)) (Bc (sc:=qb Qe) rfl (by decide +kernel)) (N:=["name","crossing"]) (sel:=[none,some 0]) (Uc (M:=["crossing","first","second","turns","one"]) (by decide +kernel)) (Blk.of (fun _ _ _ _=>(zb (i:=0) (Je (N:=["name","crossing"]) (by decide +kernel) rfl) rfl (Or.inl rfl))) (fun _ _ _ _=>⟨_,Ee,by first | rfl | (dsimp only [Cx.block];done) | (dsimp only [Cx.block];exact rfl)⟩) (fun _ _ _ _=>⟨_,(Rv (Tc (pv 1) T.jc T.Ic G_Crossing_called hr T.Hc .nil Db (cb (pv 0) gb)) V_Way_ready hr Db),by first | rfl | (dsimp only [Cx.block];done) | (dsimp only [Cx.block];exact rfl)⟩))) gb)))
   (fb (Xd PassesOwn.never rfl (Kc (Yd (pv 0) T.jc T.ug G_Crossing_names hr T.rg .nil Db)) (zb (i:=4) Yg.nd rfl (Or.inr rfl)) (ib (Ge (ac Nh (pv 4) (pv 2) (by with_unfolding_all rfl)) (ib (Qb (Df PySem.F.plainAttrs_list PySem.F.slot_list_extend PySem.F.type_list_extend Op (pv 3) (cb (Td rfl (Kc (pv 2)) (Bc (sc:=qb Qe) rfl (by decide +kernel)) (N:=["other","crossing","one"]) (sel:=[none,some 0,some 4]) (Uc (M:=["crossing","first","second","turns","one"]) (by decide +kernel)) (Blk.of (fun _ _ _ _=>(zb (i:=0) (Je (N:=["other","crossing","one"]) (by decide +kernel) rfl) rfl (Or.inl rfl))) (fun _ _ _ _=>⟨_,(Su (wj (xb G_meet hr rfl T.XH T.Oy.kp T.jI .nil Db (cb (pv 1) (cb (pv 2) (cb (pv 0) gb)))))),by first | rfl | (dsimp only [Cx.block];done) | (dsimp only [Cx.block];exact rfl)⟩) (fun _ _ _ _=>⟨_,(xb G_gap hr rfl T.YM T.vJ.kp T.aN .nil Db (cb (pv 1) (cb (pv 2) (cb (pv 0) gb)))),by first | rfl | (dsimp only [Cx.block];done) | (dsimp only [Cx.block];exact rfl)⟩))) gb)))) Ec)))
   (ib (Kb (nc (jq rfl) rfl T.zF Hk (cb (pv 3) gb)))))))),?_⟩
  simp only [Bb]
  refine zzC (fun σ' H'=>Vb H H'∧NoT H'∧∃ tl,H tl=none∧H' tl=some (.lst ([(0:Int)].map V.int))∧σ'=[some (.ref c),some (.ref fa),some (.ref sa),some (.ref tl),none]) (fun D' hD=>?_) fun zzM zzh=>?_
  ·(walk_at "RD")
   exact ⟨by decide,fun tl htl=>hD _ _ ⟨pb htl,nt.upd,tl,htl,db,rfl⟩⟩
  rintro σ1 H1 ⟨s1,n1,tl,htl,w1,rfl⟩
  subst zzh
  simp only [Bb]
  refine zzC (fun σ' H'=>Vb H H'∧NoT H'∧H' tl=some (.lst (([0] ++ f.map (ju ds)).map V.int))∧σ'=[some (.ref c),some (.ref fa),some (.ref sa),some (.ref tl),none]) (fun D' hD'=>?_) fun zzM zzh=>?_
  ·(walk_at "RD")
   refine ⟨.inl ⟨_,SqL.of w1⟩,⟨_,SqL.of (s1 _ _ hf)⟩,?_⟩
   refine ad.list_zs (xs:=wb f) (zs:=(f.map (ju ds)).map V.int) (SqL.of (s1 _ _ hf)) (by rw [Rb];exact Nat.le_trans hfl (by decide)) (by rw [Rb,List.length_map,List.length_map]) (fun j v z N hv hz hN=>?_) (fun pl hpl=>?_)
   ·unfold wb at hv
    obtain ⟨x,hx,rfl⟩:=Mb hv
    obtain ⟨y,hy,rfl⟩:=Mb hz
    obtain ⟨x',hx',rfl⟩:=Mb hy
    rw [hx] at hx'
    cases hx'
    obtain ⟨d,hd,rfl⟩:=fin x (List.mem_of_getElem? hx)
    obtain ⟨i,hi⟩:=List.getElem?_of_mem hd
    have hfd:ju ds d.name=Tk d:=by unfold ju;rw [We hnd hi];rfl
    rw [hfd] at hN
    (walk_at "RD")
    refine ⟨Sub.name,_,_,s1 _ _ e1,lB _ _ _ (by decide +kernel),c,n,ds,i,d,rfl,C.same s1,hi,fun a W=>?_⟩
    obtain ⟨dk,dxw,hway⟩:=id W
    exact ⟨a,rfl,_,_,_,hway,⟨_,dk,rfl⟩,QH (by decide +kernel),a,d,rfl,W,rfl,hN⟩
   ·refine ⟨pl,rfl,_,(pb hpl) _ _ w1,_,db,?_,hD' _ _ ⟨(s1.trans (pb hpl)).updN htl,(n1.upd).upd,by rw [db,List.map_append],rfl⟩⟩
    rw [List.length_map,List.length_map,List.length_map]
    exact Nat.le_trans (show _ ≤ 13 by show 1 + f.length ≤ 13;omega) (by decide)
  rintro σ2 H2 ⟨s2,n2,w2,rfl⟩
  subst zzh
  simp only [Bb]
  refine zzC (fun σ' H'=>Vb H H'∧NoT H'∧H' tl=some (.lst (([0] ++ f.map (ju ds) ++ s.map (zo ds)).map V.int))∧σ'=[some (.ref c),some (.ref fa),some (.ref sa),some (.ref tl),none]) (fun D' hD'=>?_) fun zzM zzh=>?_
  ·(walk_at "RD")
   refine ⟨.inl ⟨_,SqL.of w2⟩,⟨_,SqL.of (s2 _ _ hs)⟩,?_⟩
   refine ad.list_zs (xs:=wb s) (zs:=(s.map (zo ds)).map V.int) (SqL.of (s2 _ _ hs)) (by rw [Rb];exact Nat.le_trans hsl (by decide)) (by rw [Rb,List.length_map,List.length_map]) (fun j v z N hv hz hN=>?_) (fun pl hpl=>?_)
   ·unfold wb at hv
    obtain ⟨x,hx,rfl⟩:=Mb hv
    obtain ⟨y,hy,rfl⟩:=Mb hz
    obtain ⟨x',hx',rfl⟩:=Mb hy
    rw [hx] at hx'
    cases hx'
    obtain ⟨d,hd,rfl⟩:=sin x (List.mem_of_getElem? hx)
    obtain ⟨i,hi⟩:=List.getElem?_of_mem hd
    have hfd:zo ds d.name=Dg d:=by unfold zo;rw [We hnd hi];rfl
    rw [hfd] at hN
    (walk_at "RD")
    refine ⟨Sub.name,_,_,s2 _ _ e1,lB _ _ _ (by decide +kernel),c,n,ds,i,d,rfl,C.same s2,hi,fun a W=>?_⟩
    obtain ⟨dk,dxw,hway⟩:=id W
    exact ⟨a,rfl,_,_,_,hway,⟨_,dk,rfl⟩,QH (by decide +kernel),a,d,rfl,W,rfl,hN⟩
   ·refine ⟨pl,rfl,_,(pb hpl) _ _ w2,_,db,?_,hD' _ _ ⟨(s2.trans (pb hpl)).updN htl,(n2.upd).upd,by rw [db,← List.map_append],rfl⟩⟩
    rw [List.length_map,List.length_map,List.length_map,List.length_append,List.length_map]
    exact Nat.le_trans (show _ ≤ 25 by show 1 + f.length + s.length ≤ 25;omega) (by decide)
  rintro σ3 H3 ⟨s3,n3,w3,rfl⟩
  subst zzh
  simp only [Bb]
  refine zzC (fun σ' H'=>Vb H H'∧NoT H'∧H' tl=some (.lst ((chL n ds f s).map V.int))∧∃ x4,σ'=[some (.ref c),some (.ref fa),some (.ref sa),some (.ref tl),x4]) (fun D' hD'=>?_) fun zzM zzh=>?_
  ·(walk_at "RD")
   have C3:=C.same s3
   refine ⟨_,_,s3 _ _ e1,lB _ _ _ (by decide +kernel),c,n,ds,rfl,C3,fun pn hpn=>⟨pn,rfl,⟨_,SqL.of db⟩,?_⟩⟩
   have sB:=s3.trans (pb (o:=.lst (wb (ds.map (·.name)))) hpn)
   have nB:NoT (upd H3 pn (.lst (wb (ds.map (·.name))))):=n3.upd
   have ePn:(upd H3 pn (.lst (wb (ds.map (·.name))))) pn=some (.lst (wb (ds.map (·.name)))):=db
   have wB:=(pb (o:=.lst (wb (ds.map (·.name)))) hpn) _ _ w3
   have hptl:pn ≠ tl:=fun z=>by rw [z,w3] at hpn;cases hpn
   generalize upd H3 pn (.lst (wb (ds.map (·.name))))=HB at sB nB ePn wB ⊢
   refine Fi.list (xs:=wb (ds.map (·.name))) (fun i σ H'=>(∃ x,σ=[some (.ref c),some (.ref fa),some (.ref sa),some (.ref tl),x])∧Vb H H'∧NoT H'∧H' pn=some (.lst (wb (ds.map (·.name))))∧H' tl=some (.lst (([(0:Int)] ++ f.map (ju ds) ++ s.map (zo ds) ++ ((ds.map fun d:WD=>d.name).take i).flatMap (chX n ds s)).map V.int))∧(((ds.map fun d:WD=>d.name).take i).flatMap (chX n ds s)).length ≤ 12 * i) ?_ ?_ ?_ ?_
   ·exact ⟨⟨_,rfl⟩,sB,nB,ePn,by rw [List.take_zero,List.flatMap_nil,List.append_nil];exact wB,by simp⟩
   ·rintro i σ H' hi zzq
    refine zzP fun zzM zzh=>?_
    obtain ⟨_,_,_,e,_⟩:=zzq
    subst zzh
    exact SqL.of e
   ·rintro i v σ H' hv zzq
    refine zzP fun zzM zzh=>?_
    obtain ⟨⟨x4,rfl⟩,sm,n4,ePn4,w4,hl4⟩:=zzq
    subst zzh
    unfold wb at hv
    obtain ⟨nm,hnm,rfl⟩:=Mb hv
    have hnm':=hnm
    obtain ⟨d,hd,rfl⟩:=Mb hnm'
    have hi12:i < 12:=by have:=(List.getElem?_eq_some_iff.mp hd).1;omega
    have hwd:=We hnd hd
    simp only [qe,List.set_cons_succ,List.set_cons_zero]
    refine Zb (!decide (d.name ∈ s)) (fun Q hQ=>?_) (fun hb=>?_) (fun hb=>?_)
    ·(walk_at "RD")
     refine ⟨_,.inl (SqL.of (sm _ _ hs)),rfl,Bi s,?_⟩
     rw [Jm]
     exact hQ
    ·have hb:d.name ∉ s:=by simpa using hb
     have hcx:chX n ds s d.name=(s.filter fun y=>mtN n ds d.name y).map (IF ds d.name):=by unfold chX;rw [if_neg hb]
     (walk_at "RD")
     refine ⟨.inl ⟨_,SqL.of w4⟩,⟨_,SqL.of (sm _ _ hs)⟩,?_⟩
     refine ad.list_sel (xs:=wb s) (ss:=s.map fun y=>if mtN n ds d.name y=true then some (V.int (IF ds d.name y)) else none) (SqL.of (sm _ _ hs)) (by rw [Rb];exact Nat.le_trans hsl (by decide)) (by rw [Rb,List.length_map]) (fun l v o ys N hv ho hN=>?_) (fun pl hpl=>?_)
     ·unfold wb at hv
      obtain ⟨x2,hx2,rfl⟩:=Mb hv
      obtain ⟨x',hx',rfl⟩:=Mb ho
      rw [hx2] at hx'
      cases hx'
      obtain ⟨e,he,rfl⟩:=sin x2 (List.mem_of_getElem? hx2)
      obtain ⟨j,hj⟩:=List.getElem?_of_mem he
      have hwe:=We hnd hj
      have hm2:mtN n ds d.name e.name=mt n d e:=by unfold mtN;rw [hwd,hwe]
      have hg2:IF ds d.name e.name=if d.off - e.near > 0 then d.off - e.near else 0:=by unfold IF;rw [hwd,hwe]
      rw [hm2,hg2] at hN
      (walk_at "RD")
      refine ⟨Sub.name,c,n,ds,i,j,d,e,rfl,C.same sm,hn,hd,hj,n4,_,rfl,?_⟩
      cases hmt:mt n d e with
      | true=>
       rw [if_pos rfl]
       rw [hmt,if_pos rfl] at hN
       exact ⟨c,n,ds,i,j,d,e,rfl,C.same sm,hd,hj,hN⟩
      | false=>
       rw [if_neg (by decide)]
       rw [hmt,if_neg (by decide)] at hN
       simpa using hN
     ·rw [Cz (fun y=>mtN n ds d.name y) (IF ds d.name),← hcx]
      have hcl:(chX n ds s d.name).length ≤ 12:=by rw [hcx,List.length_map];exact Nat.le_trans (List.length_filter_le ..) hsl
      refine ⟨pl,rfl,_,(pb hpl) _ _ w4,_,db,?_,⟨_,rfl⟩,(sm.trans (pb hpl)).updN htl,(n4.upd).upd,by rw [lb hptl];exact (pb hpl) _ _ ePn4,?_,?_⟩
      ·rw [List.length_map,List.length_map,List.length_append,List.length_append,List.length_append,List.length_map,List.length_map]
       exact Nat.le_trans (show _ ≤ 500 by show 1 + f.length + s.length + _ + _ ≤ 500;omega) (by decide)
      ·rw [db,oe hnm,List.flatMap_append,← List.map_append]
       simp
      ·rw [oe hnm,List.flatMap_append,List.length_append,List.flatMap_cons,List.flatMap_nil,List.append_nil]
       omega
    ·have hb:d.name ∈ s:=by simpa using hb
     have hcx:chX n ds s d.name=[]:=by unfold chX;rw [if_pos hb]
     simp only [Zd]
     refine ⟨⟨_,rfl⟩,sm,n4,ePn4,?_,?_⟩
     ·rw [oe hnm,List.flatMap_append,List.flatMap_cons,hcx]
      simpa using w4
     ·rw [oe hnm,List.flatMap_append,List.length_append,List.flatMap_cons,hcx]
      show _ + 0 ≤ _
      omega
   ·rintro σ H' zzq
    refine zzP fun zzM zzh=>?_
    obtain ⟨⟨x4,rfl⟩,sm,n4,_,w4,_⟩:=zzq
    subst zzh
    rw [Rb,List.take_length] at w4
    exact hD' _ _ ⟨sm,n4,w4,_,rfl⟩
  rintro σ4 H4 ⟨s4,n4,w4,x4,rfl⟩
  subst zzh
  (walk_at "RD")
  obtain ⟨mx,h1,h2⟩:=tz (chL n ds f s) (by unfold chL;simp)
  exact ⟨_,SqL.of w4,mx,h1,h2,q mx H4 s4 ⟨h1,h2⟩⟩
 ·obtain ⟨c,n,ds,fa,sa,f,s,rfl,C,hn,hD,hf,hs,fin,sin,hfl,hsl,nt,q⟩:=h
  exact ⟨nt,c,n,ds,fa,sa,f,s,rfl,C,hn,hD,hf,hs,fin,sin,hfl,hsl,nt,fun v H' sm hv=>⟨sm,q v hv⟩⟩
end
end My
namespace My
open PySem L2
noncomputable abbrev ez:List Str:=[Str.ofString "crossing",Str.ofString "many",Str.ofString "leasts",Str.ofString "mosts",Str.ofString "members",Str.ofString "sorts",Str.ofString "homes",Str.ofString "changes"]
noncomputable def sgF (c:Addr) (k:Nat) (le mo me so ho ch:Addr):List (Str × V):=[(Str.ofString "crossing",V.ref c),(Str.ofString "many",V.int k),(Str.ofString "leasts",V.ref le),(Str.ofString "mosts",V.ref mo),(Str.ofString "members",V.ref me),(Str.ofString "sorts",V.ref so),(Str.ofString "homes",V.ref ho),(Str.ofString "changes",V.ref ch)]
theorem Xt (c:Addr) (k:Nat) (le mo me so ho ch:Addr):(sgF c k le mo me so ho ch).map (·.1)=ez:=rfl
noncomputable def Zt (ds:List WD) (r:ST):Str:=((r.mem.head?.bind (wOf ds)).map Dj).getD (Str.ofString "")
noncomputable def stK (i j:Nat):List Key:=[Sum.inl (i:Int),Sum.inl (j:Int)]
noncomputable def Jl (n:Int) (ds:List WD) (rows:List ST) (i j:Nat) (kvs:List (List Key × V)):Prop:=kvs.length ≤ 6 * i + j∧∀ (a b:Nat) (r s:ST),rows[a]? = some r→rows[b]? = some s→a ≠ b→a < i∨(a=i∧b < j)→∃ v,wg kvs (stK a b)=some (.int v)∧Zq (chL n ds r.mem s.mem) v
section
variable (P:Program) (w:World)
noncomputable def Og (t:Adr) (H:Hp) (a c:Addr) (n:Int) (ds:List WD) (rows:List ST):Prop:=∃ dx le mo me so ho ch ms kvs,H a=some (.ins t.qc dx (sgF c rows.length le mo me so ho ch))∧Qc t H c n ds∧H le=some (.lst (rows.map fun r=>V.int r.lo))∧H mo=some (.lst (rows.map fun r=>V.int r.hi))∧kn H me ms (rows.map (·.mem))∧H so=some (.lst (wb (rows.map (Zt ds))))∧H ho=some (.dK (de (rows.map (·.mem))))∧Yo P w H ch kvs∧Jl n ds rows rows.length 0 kvs
noncomputable def aI (t:Adr):Sp:=fun vs H Q _=>∃ a dx c n ds p qs ms rows,vs=[.ref a,.ref c,.ref p]∧H a=some (.ins t.qc dx [])∧Qc t H c n ds∧0 < n∧iI ds∧xi H p qs ms rows∧RIn ds rows∧(∀ r ∈ rows,r.mem ≠ [])∧NoT H ∧
 ∀ H',Fc a H H'→NoT H'→Og P w t H' a c n ds rows→Q .non H'
end
theorem pI {a b i j:Nat} (h:stK a b=stK i j):a=i∧b=j:=by
 unfold stK at h
 simp at h
 omega
theorem Jl.nil (n:Int) (ds:List WD) (rows:List ST):Jl n ds rows 0 0 []:=⟨Nat.zero_le _,fun a b r s _ _ _ h=>by omega⟩
theorem Jl.skip {n:Int} {ds:List WD} {rows:List ST} {i:Nat} {kvs:List (List Key × V)} (h:Jl n ds rows i i kvs):Jl n ds rows i (i + 1) kvs:=⟨by have:=h.1;omega,fun a b r s hr hs hab hc=>h.2 a b r s hr hs hab (by omega)⟩
theorem Jl.next {n:Int} {ds:List WD} {rows:List ST} {i:Nat} {kvs:List (List Key × V)} (hl:rows.length ≤ 6) (h:Jl n ds rows i rows.length kvs):Jl n ds rows (i + 1) 0 kvs:=⟨by have:=h.1;omega,fun a b r s hr hs hab hc=>h.2 a b r s hr hs hab (by
 have:=(List.getElem?_eq_some_iff.mp hs).1
 omega)⟩
theorem fC (kvs:List (List Key × V)) (k:List Key) (v:V):(Rk kvs k v).length ≤ kvs.length + 1:=by
 unfold Rk
 split
 ·rw [List.length_map];omega
 ·rw [List.length_append];exact Nat.le_refl _
theorem Jl.put {n:Int} {ds:List WD} {rows:List ST} {i j:Nat} {kvs:List (List Key × V)} {r s:ST} {v:Int} (h:Jl n ds rows i j kvs) (hr:rows[i]? = some r) (hs:rows[j]? = some s) (hv:Zq (chL n ds r.mem s.mem) v):Jl n ds rows i (j + 1) (Rk kvs (stK i j) (.int v)):=by
 refine ⟨by have:=h.1;have:=fC kvs (stK i j) (.int v);omega,fun a b r' s' hr' hs' hab hc=>?_⟩
 rw [mz]
 by_cases c:stK a b=stK i j
 ·rw [if_pos c]
  obtain ⟨rfl,rfl⟩:=pI c
  rw [hr] at hr'
  rw [hs] at hs'
  cases hr'
  cases hs'
  exact ⟨v,rfl,hv⟩
 ·rw [if_neg c]
  exact h.2 a b r' s' hr' hs' hab (by
   rcases hc with z | ⟨z1,z2⟩
   ·exact .inl z
   ·by_cases z:b=j
    ·exact absurd (by rw [z1,z]) c
    ·exact .inr ⟨z1,by omega⟩)
theorem xi.sameA {H H':Hp} {a p C dx:Addr} {qs ms:List Addr} {rows:List ST} (h:xi H p qs ms rows) (s:Fc a H H') (ha:H a=some (.ins C dx [])):xi H' p qs ms rows:=by
 refine ⟨s _ _ (Vd h.at_ ha (by intro z;cases z)) h.at_,h.l1,h.l2,fun i q m r x y z=>?_⟩
 obtain ⟨e1,e2⟩:=h.al i q m r x y z
 exact ⟨s _ _ (Vd e1 ha (by intro z;cases z)) e1,s _ _ (Vd e2 ha (by intro z;cases z)) e2⟩
theorem dv {H:Hp} {p b C D dx dy:Addr} {x:Str × V} {fs:List (Str × V)} (hp:H p=some (.ins C dx [])) (hb:H b=some (.ins D dy (x :: fs))):b ≠ p:=fun z=>by
 subst z
 rw [hp] at hb
 cases hb
theorem LM {t:Adr} {H H':Hp} {p a C dx:Addr} {d:WD} (hp:H p=some (.ins C dx [])) (sx:Fc p H H') (h:ve t H a d):ve t H' a d:=by
 obtain ⟨h1,dy,e⟩:=h
 exact ⟨h1,dy,sx _ _ (dv hp e) e⟩
theorem ly {t:Adr} {H H':Hp} {p c C dx:Addr} {n:Int} {ds:List WD} (hp:H p=some (.ins C dx [])) (sx:Fc p H H') (h:Qc t H c n ds):Qc t H' c n ds:=by
 obtain ⟨h0,dy,wl,nd,e1,⟨as,w1,w2,w3⟩,e3⟩:=h
 exact ⟨h0,dy,wl,nd,sx _ _ (dv hp e1) e1,⟨as,sx _ _ (Vd w1 hp (by intro z;cases z)) w1,w2,fun i a d h1 h2=>LM hp sx (w3 i a d h1 h2)⟩,sx _ _ (Vd e3 hp (by intro z;cases z)) e3⟩
theorem kn.upd {H:Hp} {b p:Addr} {ms:List Addr} {mems:List (List Str)} {u o:HO} (h:kn H p ms mems) (hb:H b=some u) (hu:∀ xs,u ≠ .lst xs):kn (upd H b o) p ms mems:=by
 refine ⟨by rw [lb (Vd h.at_ hb (fun z=>hu _ z.symm))];exact h.at_,h.ln,fun i m x a c=>?_⟩
 have e:=h.al i m x a c
 rw [lb (Vd e hb (fun z=>hu _ z.symm))]
 exact e
section
variable {w:World} {K:PySem.W.Frag} {mg:Str→Option Value} {t:Adr} {H:Hp} {a c dx le mo me so ho ch:Addr} {k:Nat}
theorem FC (T:Txt w K mg t) (e:H a=some (.ins t.qc dx (sgF c k le mo me so ho ch))):Li K H a (Str.ofString "many") (.int k):=⟨_,dx,_,e,T.ie,T.El,Kd ez 1 (Xt ..) (by decide +kernel) rfl⟩
theorem Vs (T:Txt w K mg t) (e:H a=some (.ins t.qc dx (sgF c k le mo me so ho ch))):Li K H a (Str.ofString "members") (.ref me):=⟨_,dx,_,e,T.ie,T.Lf,Kd ez 4 (Xt ..) (by decide +kernel) rfl⟩
theorem Bs (T:Txt w K mg t) (e:H a=some (.ins t.qc dx (sgF c k le mo me so ho ch))):Li K H a (Str.ofString "changes") (.ref ch):=⟨_,dx,_,e,T.ie,T.yi,Kd ez 7 (Xt ..) (by decide +kernel) rfl⟩
end
section
variable {P:Program} {w:World} {K:PySem.W.Frag} {mg:Str→Option Value} {base:Heap} {t:Adr}
theorem zL (T:Txt w K mg t):Jb P w K mg base CX0 5 t.af t.Kg ["self","crossing","rows"] (aI P w t):=by
 have G_sort_of:Jb P w K mg base CX0 4 t.Ej t.qk ["crossing","name"] (Dx t):=(ND T).mono (by decide)
 have G_homes_in:Jb P w K mg base CX0 4 t.Sg t.Rg ["members"] Xo:=(Rt T).mono (by decide)
 have G_change_turns:Jb P w K mg base CX0 4 t.ag t.Nf ["crossing","first","second"] (Sv t):=vD T
 refine T.Mm.ok tf (fun vs H Q E h=>?_) (fun cdv A outer s H vs Q E hr h=>?_)
 ·obtain ⟨a,dx,c,n,ds,p,qs,ms,rows,rfl,_⟩:=h;rfl
 obtain ⟨a,dx,c,n,ds,p,qs,ms,rows,rfl,ha,C,hn,hD,R,I,hne,nt,q⟩:=h
 have hu:=Zp hr
 have hnd:=C.1.1
 have hqn:(qs.map V.ref).length=rows.length:=by rw [List.length_map,R.l1]
 have hql:(qs.map V.ref).length ≤ sizeLine:=by rw [hqn];exact Nat.le_trans I.ln (by decide)
 refine ⟨_,(fb (Pe (pv 0) (pv 1) rfl)
   (fb (Pe (pv 0) (nc Lb rfl T.Xh fc (cb (pv 2) gb)) rfl)
   (fb (Pe (pv 0) (Td rfl (Kc (pv 2)) (Bc (sc:=qb He) rfl (by decide +kernel)) (N:=["least","most","members"]) (sel:=[none,none,none]) (Uc (M:=["self","crossing","rows","one","other"]) (by decide +kernel)) (Blk.of (fun _ _ _ _=>(Hf (K:=K) (n:=3) rfl rfl (Ob (zb (i:=0) (Je (N:=["least","most","members"]) (by decide +kernel) rfl) rfl (Or.inl rfl) (.inr rfl)) (Ob (zb (i:=1) (Je (N:=["least","most","members"]) (by decide +kernel) rfl) rfl (Or.inl rfl) (.inr rfl)) (Ob (zb (i:=2) (Je (N:=["least","most","members"]) (by decide +kernel) rfl) rfl (Or.inl rfl) (.inr rfl)) Ff))))) (fun _ _ _ _=>⟨_,Ee,by first | rfl | (dsimp only [Cx.block];done) | (dsimp only [Cx.block];exact rfl)⟩) (fun _ _ _ _=>⟨_,(pv 0),by first | rfl | (dsimp only [Cx.block];done) | (dsimp only [Cx.block];exact rfl)⟩))) rfl)
   (fb (Pe (pv 0) (Td rfl (Kc (pv 2)) (Bc (sc:=qb He) rfl (by decide +kernel)) (N:=["least","most","members"]) (sel:=[none,none,none]) (Uc (M:=["self","crossing","rows","one","other"]) (by decide +kernel)) (Blk.of (fun _ _ _ _=>(Hf (K:=K) (n:=3) rfl rfl (Ob (zb (i:=0) (Je (N:=["least","most","members"]) (by decide +kernel) rfl) rfl (Or.inl rfl) (.inr rfl)) (Ob (zb (i:=1) (Je (N:=["least","most","members"]) (by decide +kernel) rfl) rfl (Or.inl rfl) (.inr rfl)) (Ob (zb (i:=2) (Je (N:=["least","most","members"]) (by decide +kernel) rfl) rfl (Or.inl rfl) (.inr rfl)) Ff))))) (fun _ _ _ _=>⟨_,Ee,by first | rfl | (dsimp only [Cx.block];done) | (dsimp only [Cx.block];exact rfl)⟩) (fun _ _ _ _=>⟨_,(pv 1),by first | rfl | (dsimp only [Cx.block];done) | (dsimp only [Cx.block];exact rfl)⟩))) rfl)
   (fb (Pe (pv 0) (Td rfl (Kc (pv 2)) (Bc (sc:=qb He) rfl (by decide +kernel)) (N:=["least","most","members"]) (sel:=[none,none,none]) (Uc (M:=["self","crossing","rows","one","other"]) (by decide +kernel)) (Blk.of (fun _ _ _ _=>(Hf (K:=K) (n:=3) rfl rfl (Ob (zb (i:=0) (Je (N:=["least","most","members"]) (by decide +kernel) rfl) rfl (Or.inl rfl) (.inr rfl)) (Ob (zb (i:=1) (Je (N:=["least","most","members"]) (by decide +kernel) rfl) rfl (Or.inl rfl) (.inr rfl)) (Ob (zb (i:=2) (Je (N:=["least","most","members"]) (by decide +kernel) rfl) rfl (Or.inl rfl) (.inr rfl)) Ff))))) (fun _ _ _ _=>⟨_,Ee,by first | rfl | (dsimp only [Cx.block];done) | (dsimp only [Cx.block];exact rfl)⟩) (fun _ _ _ _=>⟨_,(pv 2),by first | rfl | (dsimp only [Cx.block];done) | (dsimp only [Cx.block];exact rfl)⟩))) rfl)
   (fb (Pe (pv 0) (Td rfl (Kc (pv 2)) (Bc (sc:=qb He) rfl (by decide +kernel)) (N:=["least","most","members","crossing"]) (sel:=[none,none,none,some 1]) (Uc (M:=["self","crossing","rows","one","other"]) (by decide +kernel)) (Blk.of (fun _ _ _ _=>(Hf (K:=K) (n:=3) rfl rfl (Ob (zb (i:=0) (Je (N:=["least","most","members","crossing"]) (by decide +kernel) rfl) rfl (Or.inl rfl) (.inr rfl)) (Ob (zb (i:=1) (Je (N:=["least","most","members","crossing"]) (by decide +kernel) rfl) rfl (Or.inl rfl) (.inr rfl)) (Ob (zb (i:=2) (Je (N:=["least","most","members","crossing"]) (by decide +kernel) rfl) rfl (Or.inl rfl) (.inr rfl)) Ff))))) (fun _ _ _ _=>⟨_,Ee,by first | rfl | (dsimp only [Cx.block];done) | (dsimp only [Cx.block];exact rfl)⟩) (fun _ _ _ _=>⟨_,(xb G_sort_of hr rfl T.Yp T.ck.kp T.xq .nil Db (cb (pv 3) (cb (lc bc (pv 2) jb (fun _ _=>rfl)) gb))),by first | rfl | (dsimp only [Cx.block];done) | (dsimp only [Cx.block];exact rfl)⟩))) rfl)
   (fb (Pe (pv 0) (xb G_homes_in hr rfl T.gn T.Ei.kp T.jn .nil Db (cb (Dc (pv 0) rfl) gb)) rfl)
   (fb (Pe (pv 0) aK rfl)
   (ib (Xd PassesOwn.never rfl (ze rfl T.jh (cb (Dc (pv 0) rfl) gb)) (zb (i:=3) tf.nd rfl (Or.inl rfl)) (ib (Xd PassesOwn.never rfl (ze rfl T.jh (cb (Dc (pv 0) rfl) gb)) (zb (i:=4) tf.nd rfl (Or.inl rfl)) (ib (Ge (ac wx (pv 3) (pv 4) (gc _)) (ib (LJ hu (Dc (pv 0) rfl) (zq (cb (pv 3) (cb (pv 4) gb))) (xb G_change_turns hr rfl T.yr T.ji.kp T.jr .nil Db (cb (pv 1) (cb (lc bc (Dc (pv 0) rfl) (pv 3) (fun _ _=>rfl)) (cb (lc bc (Dc (pv 0) rfl) (pv 4) (fun _ _=>rfl)) gb)))) rfl)) Ec)))))))))))))),?_⟩
 simp only [Bb]
 refine zzC (fun σ' H'=>Fc a H H'∧NoT H'∧H' a=some (.ins t.qc dx [(Str.ofString "crossing",V.ref c)])∧σ'=[some (.ref a),some (.ref c),some (.ref p),none,none]) (fun D' hD'=>?_) fun zzM zzh=>?_
 ·(walk_at "RD")
  exact ⟨_,_,_,ha,T.ie,T.Dm,by decide,hD' _ _ ⟨fun b u hb e=>by rw [lb hb];exact e,nt.upd,db,rfl⟩⟩
 rintro σ1 H1 ⟨x1,n1,a1,rfl⟩
 have R1:=R.sameA x1 ha
 subst zzh
 simp only [Bb]
 refine zzC (fun σ' H'=>Fc a H H'∧NoT H'∧H' a=some (.ins t.qc dx [(Str.ofString "crossing",V.ref c),(Str.ofString "many",V.int (rows.length:Int))])∧σ'=[some (.ref a),some (.ref c),some (.ref p),none,none]) (fun D' hD'=>?_) fun zzM zzh=>?_
 ·(walk_at "RD")
  refine ⟨_,.inl (SqL.of R1.at_),_,_,_,a1,T.ie,T.El,(show (1:Nat) < 1000 by decide),?_⟩
  rw [hqn,show yg (Str.ofString "many") (V.int (rows.length:Int)) [(Str.ofString "crossing",V.ref c)]=[(Str.ofString "crossing",V.ref c),(Str.ofString "many",V.int (rows.length:Int))] from Jc [Str.ofString "crossing"] rfl (by decide +kernel)]
  exact hD' _ _ ⟨fun b u hb e=>by rw [lb hb];exact x1 _ _ hb e,n1.upd,db,rfl⟩
 rintro σ2 H2 ⟨x2,n2,a2,rfl⟩
 have R2:=R.sameA x2 ha
 subst zzh
 simp only [Bb]
 refine zzC (fun σ' H'=>Fc a H H'∧NoT H'∧∃ le,H' a=some (.ins t.qc dx [(Str.ofString "crossing",V.ref c),(Str.ofString "many",V.int (rows.length:Int)),(Str.ofString "leasts",V.ref le)])∧H' le=some (.lst (rows.map fun r=>V.int r.lo))∧σ'=[some (.ref a),some (.ref c),some (.ref p),none,none]) (fun D' hD'=>?_) fun zzM zzh=>?_
 ·(walk_at "RD")
  refine ⟨⟨_,SqL.of R2.at_⟩,?_⟩
  refine ad.list_zs (xs:=qs.map V.ref) (zs:=rows.map fun r=>V.int r.lo) (SqL.of R2.at_) hql (by rw [hqn,List.length_map]) (fun j v z N hv hz hN=>?_) (fun pl hpl=>?_)
  ·obtain ⟨qj,hqj,rfl⟩:=Mb hv
   have hj:j < rows.length:=by rw [← R.l1];exact (List.getElem?_eq_some_iff.mp hqj).1
   have hmj:ms[j]? = some (ms[j]'(by rw [R.l2];exact hj)):=List.getElem?_eq_getElem _
   have hrj:rows[j]? = some rows[j]:=List.getElem?_eq_getElem hj
   obtain ⟨e,em⟩:=R2.al j qj _ _ hqj hmj hrj
   obtain ⟨r,hr',rfl⟩:=Mb hz
   rw [hrj] at hr'
   cases hr'
   (walk_at "RD")
   exact ⟨_,SqT.of e,rfl,_,_,rfl,_,_,rfl,_,_,rfl,rfl,Sub.name3,hN⟩
  ·have hpa:pl ≠ a:=fun z=>by rw [z,a2] at hpl;cases hpl
   refine ⟨_,_,_,(pb hpl) _ _ a2,T.ie,T.Fo,(show (2:Nat) < 1000 by decide),?_⟩
   rw [show yg (Str.ofString "leasts") (V.ref pl) [(Str.ofString "crossing",V.ref c),(Str.ofString "many",V.int (rows.length:Int))]=[(Str.ofString "crossing",V.ref c),(Str.ofString "many",V.int (rows.length:Int)),(Str.ofString "leasts",V.ref pl)] from Jc [Str.ofString "crossing",Str.ofString "many"] rfl (by decide +kernel)]
   exact hD' _ _ ⟨fun b u hb e=>by rw [lb hb];exact (pb hpl) _ _ (x2 _ _ hb e),(n2.upd).upd,pl,db,by rw [lb hpa];exact db,rfl⟩
 rintro σ3 H3 ⟨x3,n3,le,a3,f3,rfl⟩
 have hle:le ≠ a:=Vd f3 a3 (by intro z;cases z)
 have R3:=R.sameA x3 ha
 subst zzh
 simp only [Bb]
 refine zzC (fun σ' H'=>Fc a H H'∧NoT H'∧∃ mo,H' a=some (.ins t.qc dx [(Str.ofString "crossing",V.ref c),(Str.ofString "many",V.int (rows.length:Int)),(Str.ofString "leasts",V.ref le),(Str.ofString "mosts",V.ref mo)])∧H' le=some (.lst (rows.map fun r=>V.int r.lo))∧H' mo=some (.lst (rows.map fun r=>V.int r.hi))∧σ'=[some (.ref a),some (.ref c),some (.ref p),none,none]) (fun D' hD'=>?_) fun zzM zzh=>?_
 ·(walk_at "RD")
  refine ⟨⟨_,SqL.of R3.at_⟩,?_⟩
  refine ad.list_zs (xs:=qs.map V.ref) (zs:=rows.map fun r=>V.int r.hi) (SqL.of R3.at_) hql (by rw [hqn,List.length_map]) (fun j v z N hv hz hN=>?_) (fun pl hpl=>?_)
  ·obtain ⟨qj,hqj,rfl⟩:=Mb hv
   have hj:j < rows.length:=by rw [← R.l1];exact (List.getElem?_eq_some_iff.mp hqj).1
   have hmj:ms[j]? = some (ms[j]'(by rw [R.l2];exact hj)):=List.getElem?_eq_getElem _
   have hrj:rows[j]? = some rows[j]:=List.getElem?_eq_getElem hj
   obtain ⟨e,em⟩:=R3.al j qj _ _ hqj hmj hrj
   obtain ⟨r,hr',rfl⟩:=Mb hz
   rw [hrj] at hr'
   cases hr'
   (walk_at "RD")
   exact ⟨_,SqT.of e,rfl,_,_,rfl,_,_,rfl,_,_,rfl,rfl,Sub.name3,hN⟩
  ·have hpa:pl ≠ a:=fun z=>by rw [z,a3] at hpl;cases hpl
   refine ⟨_,_,_,(pb hpl) _ _ a3,T.ie,T.Pq,(show (3:Nat) < 1000 by decide),?_⟩
   rw [show yg (Str.ofString "mosts") (V.ref pl) [(Str.ofString "crossing",V.ref c),(Str.ofString "many",V.int (rows.length:Int)),(Str.ofString "leasts",V.ref le)]=[(Str.ofString "crossing",V.ref c),(Str.ofString "many",V.int (rows.length:Int)),(Str.ofString "leasts",V.ref le),(Str.ofString "mosts",V.ref pl)] from Jc [Str.ofString "crossing",Str.ofString "many",Str.ofString "leasts"] rfl (by decide +kernel)]
   exact hD' _ _ ⟨fun b u hb e=>by rw [lb hb];exact (pb hpl) _ _ (x3 _ _ hb e),(n3.upd).upd,pl,db,by rw [lb hle];exact (pb hpl) _ _ f3,by rw [lb hpa];exact db,rfl⟩
 rintro σ4 H4 ⟨x4,n4,mo,a4,f4,g4,rfl⟩
 have hmo:mo ≠ a:=Vd g4 a4 (by intro z;cases z)
 have R4:=R.sameA x4 ha
 subst zzh
 simp only [Bb]
 refine zzC (fun σ' H'=>Fc a H H'∧NoT H'∧∃ me,H' a=some (.ins t.qc dx [(Str.ofString "crossing",V.ref c),(Str.ofString "many",V.int (rows.length:Int)),(Str.ofString "leasts",V.ref le),(Str.ofString "mosts",V.ref mo),(Str.ofString "members",V.ref me)])∧H' le=some (.lst (rows.map fun r=>V.int r.lo))∧H' mo=some (.lst (rows.map fun r=>V.int r.hi))∧H' me=some (.lst (ms.map V.ref))∧σ'=[some (.ref a),some (.ref c),some (.ref p),none,none]) (fun D' hD'=>?_) fun zzM zzh=>?_
 ·(walk_at "RD")
  refine ⟨⟨_,SqL.of R4.at_⟩,?_⟩
  refine ad.list_zs (xs:=qs.map V.ref) (zs:=ms.map V.ref) (SqL.of R4.at_) hql (by rw [hqn,List.length_map,R.l2]) (fun j v z N hv hz hN=>?_) (fun pl hpl=>?_)
  ·obtain ⟨qj,hqj,rfl⟩:=Mb hv
   have hj:j < rows.length:=by rw [← R.l1];exact (List.getElem?_eq_some_iff.mp hqj).1
   have hmj:ms[j]? = some (ms[j]'(by rw [R.l2];exact hj)):=List.getElem?_eq_getElem _
   have hrj:rows[j]? = some rows[j]:=List.getElem?_eq_getElem hj
   obtain ⟨e,em⟩:=R4.al j qj _ _ hqj hmj hrj
   obtain ⟨m',hm',rfl⟩:=Mb hz
   rw [hmj] at hm'
   cases hm'
   (walk_at "RD")
   exact ⟨_,SqT.of e,rfl,_,_,rfl,_,_,rfl,_,_,rfl,rfl,Sub.name3,hN⟩
  ·have hpa:pl ≠ a:=fun z=>by rw [z,a4] at hpl;cases hpl
   refine ⟨_,_,_,(pb hpl) _ _ a4,T.ie,T.Lf,(show (4:Nat) < 1000 by decide),?_⟩
   rw [show yg (Str.ofString "members") (V.ref pl) [(Str.ofString "crossing",V.ref c),(Str.ofString "many",V.int (rows.length:Int)),(Str.ofString "leasts",V.ref le),(Str.ofString "mosts",V.ref mo)]=[(Str.ofString "crossing",V.ref c),(Str.ofString "many",V.int (rows.length:Int)),(Str.ofString "leasts",V.ref le),(Str.ofString "mosts",V.ref mo),(Str.ofString "members",V.ref pl)] from Jc [Str.ofString "crossing",Str.ofString "many",Str.ofString "leasts",Str.ofString "mosts"] rfl (by decide +kernel)]
   exact hD' _ _ ⟨fun b u hb e=>by rw [lb hb];exact (pb hpl) _ _ (x4 _ _ hb e),(n4.upd).upd,pl,db,by rw [lb hle];exact (pb hpl) _ _ f4,by rw [lb hmo];exact (pb hpl) _ _ g4,by rw [lb hpa];exact db,rfl⟩
 rintro σ5 H5 ⟨x5,n5,me,a5,f5,g5,h5,rfl⟩
 have hme:me ≠ a:=Vd h5 a5 (by intro z;cases z)
 have C5:=ly ha x5 C
 have R5:=R.sameA x5 ha
 subst zzh
 simp only [Bb]
 refine zzC (fun σ' H'=>Fc a H H'∧NoT H'∧∃ so,H' a=some (.ins t.qc dx [(Str.ofString "crossing",V.ref c),(Str.ofString "many",V.int (rows.length:Int)),(Str.ofString "leasts",V.ref le),(Str.ofString "mosts",V.ref mo),(Str.ofString "members",V.ref me),(Str.ofString "sorts",V.ref so)])∧H' le=some (.lst (rows.map fun r=>V.int r.lo))∧H' mo=some (.lst (rows.map fun r=>V.int r.hi))∧H' me=some (.lst (ms.map V.ref))∧H' so=some (.lst (wb (rows.map (Zt ds))))∧σ'=[some (.ref a),some (.ref c),some (.ref p),none,none]) (fun D' hD'=>?_) fun zzM zzh=>?_
 ·(walk_at "RD")
  refine ⟨⟨_,SqL.of R5.at_⟩,?_⟩
  refine ad.list_zs (xs:=qs.map V.ref) (zs:=wb (rows.map (Zt ds))) (SqL.of R5.at_) hql (by rw [hqn,Rb,List.length_map]) (fun j v z N hv hz hN=>?_) (fun pl hpl=>?_)
  ·obtain ⟨qj,hqj,rfl⟩:=Mb hv
   have hj:j < rows.length:=by rw [← R.l1];exact (List.getElem?_eq_some_iff.mp hqj).1
   have hmj:ms[j]? = some (ms[j]'(by rw [R.l2];exact hj)):=List.getElem?_eq_getElem _
   have hrj:rows[j]? = some rows[j]:=List.getElem?_eq_getElem hj
   obtain ⟨e,em⟩:=R5.al j qj _ _ hqj hmj hrj
   unfold wb at hz
   obtain ⟨y,hy,rfl⟩:=Mb hz
   obtain ⟨r,hr',rfl⟩:=Mb hy
   rw [hrj] at hr'
   cases hr'
   obtain ⟨nm,mr,hmem⟩:=List.exists_cons_of_ne_nil (hne _ (List.mem_of_getElem? hrj))
   obtain ⟨d,hd,hdn⟩:=I.inn _ (List.mem_of_getElem? hrj) nm (by rw [hmem];exact List.mem_cons_self ..)
   obtain ⟨i,hi⟩:=List.getElem?_of_mem hd
   have hsr:Zt ds rows[j]=Dj d:=by
    unfold Zt
    rw [hmem]
    show ((wOf ds nm).map Dj).getD _=_
    rw [← hdn,We hnd hi]
    rfl
   rw [hsr] at hN
   rw [hmem] at em
   (walk_at "RD")
   exact ⟨_,SqT.of e,rfl,_,_,rfl,_,_,rfl,_,_,rfl,rfl,Sub.name3,_,rfl,_,SqL.of em,_,Fb (j:=0) rfl,c,n,ds,i,d,by rw [hdn],C5,hi,(hD d hd).2.1,hN⟩
  ·have hpa:pl ≠ a:=fun z=>by rw [z,a5] at hpl;cases hpl
   refine ⟨_,_,_,(pb hpl) _ _ a5,T.ie,T.qp,(show (5:Nat) < 1000 by decide),?_⟩
   rw [show yg (Str.ofString "sorts") (V.ref pl) [(Str.ofString "crossing",V.ref c),(Str.ofString "many",V.int (rows.length:Int)),(Str.ofString "leasts",V.ref le),(Str.ofString "mosts",V.ref mo),(Str.ofString "members",V.ref me)]=[(Str.ofString "crossing",V.ref c),(Str.ofString "many",V.int (rows.length:Int)),(Str.ofString "leasts",V.ref le),(Str.ofString "mosts",V.ref mo),(Str.ofString "members",V.ref me),(Str.ofString "sorts",V.ref pl)] from Jc [Str.ofString "crossing",Str.ofString "many",Str.ofString "leasts",Str.ofString "mosts",Str.ofString "members"] rfl (by decide +kernel)]
   exact hD' _ _ ⟨fun b u hb e=>by rw [lb hb];exact (pb hpl) _ _ (x5 _ _ hb e),(n5.upd).upd,pl,db,by rw [lb hle];exact (pb hpl) _ _ f5,by rw [lb hmo];exact (pb hpl) _ _ g5,by rw [lb hme];exact (pb hpl) _ _ h5,by rw [lb hpa];exact db,rfl⟩
 rintro σ6 H6 ⟨x6,n6,so,a6,f6,g6,h6,k6,rfl⟩
 have hso:so ≠ a:=Vd k6 a6 (by intro z;cases z)
 have R6:=R.sameA x6 ha
 have M6:kn H6 me ms (rows.map (·.mem)):=⟨h6,by rw [R.l2,List.length_map],fun i m x hm hx=>by
  obtain ⟨r,hr',rfl⟩:=Mb hx
  have hqi:qs[i]? = some (qs[i]'(by rw [R.l1];exact (List.getElem?_eq_some_iff.mp hr').1)):=List.getElem?_eq_getElem _
  exact (R6.al i _ m r hqi hm hr').2⟩
 subst zzh
 simp only [Bb]
 refine zzC (fun σ' H'=>Fc a H H'∧NoT H'∧∃ ho,H' a=some (.ins t.qc dx [(Str.ofString "crossing",V.ref c),(Str.ofString "many",V.int (rows.length:Int)),(Str.ofString "leasts",V.ref le),(Str.ofString "mosts",V.ref mo),(Str.ofString "members",V.ref me),(Str.ofString "sorts",V.ref so),(Str.ofString "homes",V.ref ho)])∧H' le=some (.lst (rows.map fun r=>V.int r.lo))∧H' mo=some (.lst (rows.map fun r=>V.int r.hi))∧kn H' me ms (rows.map (·.mem))∧H' so=some (.lst (wb (rows.map (Zt ds))))∧H' ho=some (.dK (de (rows.map (·.mem))))∧σ'=[some (.ref a),some (.ref c),some (.ref p),none,none]) (fun D' hD'=>?_) fun zzM zzh=>?_
 ·(walk_at "RD")
  refine ⟨_,⟨_,dx,_,a6,T.ie,T.Lf,Kd [Str.ofString "crossing",Str.ofString "many",Str.ofString "leasts",Str.ofString "mosts",Str.ofString "members",Str.ofString "sorts"] 4 rfl (by decide +kernel) rfl⟩,me,ms,rows.map (·.mem),rfl,M6,by rw [List.length_map];exact I.ln,fun x hx=>?_,fun h H1 s1 n1' hh h1=>?_⟩
  ·obtain ⟨r,hr',rfl⟩:=List.mem_map.mp hx
   exact I.ml r hr'
  ·have hha:h ≠ a:=Vd h1 (s1 _ _ a6) (by intro z;cases z)
   refine ⟨_,_,_,s1 _ _ a6,T.ie,T.Tq,(show (6:Nat) < 1000 by decide),?_⟩
   rw [show yg (Str.ofString "homes") (V.ref h) [(Str.ofString "crossing",V.ref c),(Str.ofString "many",V.int (rows.length:Int)),(Str.ofString "leasts",V.ref le),(Str.ofString "mosts",V.ref mo),(Str.ofString "members",V.ref me),(Str.ofString "sorts",V.ref so)]=[(Str.ofString "crossing",V.ref c),(Str.ofString "many",V.int (rows.length:Int)),(Str.ofString "leasts",V.ref le),(Str.ofString "mosts",V.ref mo),(Str.ofString "members",V.ref me),(Str.ofString "sorts",V.ref so),(Str.ofString "homes",V.ref h)] from Jc [Str.ofString "crossing",Str.ofString "many",Str.ofString "leasts",Str.ofString "mosts",Str.ofString "members",Str.ofString "sorts"] rfl (by decide +kernel)]
   exact hD' _ _ ⟨fun b u hb e=>by rw [lb hb];exact s1 _ _ (x6 _ _ hb e),(n1' n6).upd,h,db,by rw [lb hle];exact s1 _ _ f6,by rw [lb hmo];exact s1 _ _ g6,(M6.same s1).upd (s1 _ _ a6) (by intro xs z;cases z),by rw [lb hso];exact s1 _ _ k6,by rw [lb hha];exact h1,rfl⟩
 rintro σ7 H7 ⟨x7,n7,ho,a7,f7,g7,h7,k7,l7,rfl⟩
 subst zzh
 simp only [Bb]
 refine zzC (fun σ' H'=>Fc a H H'∧NoT H'∧∃ ch,H ch=none∧H' a=some (.ins t.qc dx (sgF c rows.length le mo me so ho ch))∧H' le=some (.lst (rows.map fun r=>V.int r.lo))∧H' mo=some (.lst (rows.map fun r=>V.int r.hi))∧kn H' me ms (rows.map (·.mem))∧H' so=some (.lst (wb (rows.map (Zt ds))))∧H' ho=some (.dK (de (rows.map (·.mem))))∧Yo P w H' ch []∧(ch ≠ a∧ch ≠ le∧ch ≠ mo∧ch ≠ me∧ch ≠ so∧ch ≠ ho∧ch ∉ ms)∧σ'=[some (.ref a),some (.ref c),some (.ref p),none,none]) (fun D' hD'=>?_) fun zzM zzh=>?_
 ·(walk_at "RD")
  intro ch o hch hD0
  have hca:ch ≠ a:=fun z=>by rw [z,a7] at hch;cases hch
  have hcH:H ch=none:=by
   cases e:H ch with
   | none=>rfl
   | some u=>rw [x7 _ _ hca e] at hch;cases hch
  have nel:∀ {b:Addr} {u:HO},H7 b=some u→ch ≠ b:=fun e z=>by rw [← z,hch] at e;cases e
  have hcm:ch ∉ ms:=fun z=>by
   obtain ⟨i,hi⟩:=List.getElem?_of_mem z
   have hil:i < (rows.map (·.mem)).length:=by rw [← h7.ln];exact (List.getElem?_eq_some_iff.mp hi).1
   exact nel (h7.al i ch _ hi (List.getElem?_eq_getElem hil)) rfl
  have sC:Vb H7 (upd H7 ch (.ext (AtO ch o))):=pb hch
  refine ⟨_,_,_,sC _ _ a7,T.ie,T.yi,(show (7:Nat) < 1000 by decide),?_⟩
  rw [show yg (Str.ofString "changes") (V.ref ch) [(Str.ofString "crossing",V.ref c),(Str.ofString "many",V.int (rows.length:Int)),(Str.ofString "leasts",V.ref le),(Str.ofString "mosts",V.ref mo),(Str.ofString "members",V.ref me),(Str.ofString "sorts",V.ref so),(Str.ofString "homes",V.ref ho)]=sgF c rows.length le mo me so ho ch from Jc [Str.ofString "crossing",Str.ofString "many",Str.ofString "leasts",Str.ofString "mosts",Str.ofString "members",Str.ofString "sorts",Str.ofString "homes"] rfl (by decide +kernel)]
  have hha:ho ≠ a:=Vd l7 a7 (by intro z;cases z)
  exact hD' _ _ ⟨fun b u hb e=>by rw [lb hb];exact sC _ _ (x7 _ _ hb e),(n7.upd).upd,ch,hcH,db,by rw [lb hle];exact sC _ _ f7,by rw [lb hmo];exact sC _ _ g7,(h7.same sC).upd (sC _ _ a7) (by intro xs z;cases z),by rw [lb hso];exact sC _ _ k7,by rw [lb hha];exact sC _ _ l7,dH hD0 (Ne.symm hca) (fun xs z=>by rw [sC _ _ a7] at z;cases z),⟨hca,nel f7,nel g7,nel h7.at_,nel k7,nel l7,hcm⟩,rfl⟩
 rintro σ8 H8 ⟨x8,n8,ch,hch,a8,f8,g8,h8,k8,l8,D8,hcc,rfl⟩
 subst zzh
 (walk_at "RD")
 have hrl:=I.ln
 refine ⟨_,FC T a8,_,rfl,by omega,by omega,?_⟩
 rw [Int.toNat_natCast]
 refine Fi.range (fun i σ H'=>(∃ x y,σ=[some (.ref a),some (.ref c),some (.ref p),x,y])∧Fc a H H'∧NoT H'∧H' a=some (.ins t.qc dx (sgF c rows.length le mo me so ho ch))∧H' le=some (.lst (rows.map fun r=>V.int r.lo))∧H' mo=some (.lst (rows.map fun r=>V.int r.hi))∧kn H' me ms (rows.map (·.mem))∧H' so=some (.lst (wb (rows.map (Zt ds))))∧H' ho=some (.dK (de (rows.map (·.mem))))∧∃ kvs,Yo P w H' ch kvs∧Jl n ds rows i 0 kvs) ⟨⟨_,_,rfl⟩,x8,n8,a8,f8,g8,h8,k8,l8,[],D8,Jl.nil n ds rows⟩ ?_ ?_
 ·rintro i σ H' hi zzq
  refine zzP fun zzM zzh=>?_
  obtain ⟨⟨x,y,rfl⟩,x9,n9,a9,f9,g9,h9,k9,l9,kvs,D9,K9⟩:=zzq
  have hri:rows[i]? = some rows[i]:=List.getElem?_eq_getElem hi
  have hmi:ms[i]? = some (ms[i]'(by rw [R.l2];exact hi)):=List.getElem?_eq_getElem _
  subst zzh
  (walk_at "RD")
  refine ⟨_,FC T a9,_,rfl,by omega,by omega,?_⟩
  rw [Int.toNat_natCast]
  refine Fi.range (fun j σ H2=>(∃ y,σ=[some (.ref a),some (.ref c),some (.ref p),some (.int (i:Int)),y])∧Fc a H H2∧NoT H2∧H2 a=some (.ins t.qc dx (sgF c rows.length le mo me so ho ch))∧H2 le=some (.lst (rows.map fun r=>V.int r.lo))∧H2 mo=some (.lst (rows.map fun r=>V.int r.hi))∧kn H2 me ms (rows.map (·.mem))∧H2 so=some (.lst (wb (rows.map (Zt ds))))∧H2 ho=some (.dK (de (rows.map (·.mem))))∧∃ kvs,Yo P w H2 ch kvs∧Jl n ds rows i j kvs) ⟨⟨_,rfl⟩,x9,n9,a9,f9,g9,h9,k9,l9,kvs,D9,K9⟩ ?_ ?_
  ·rintro j σ H2 hj zzq
   refine zzP fun zzM zzh=>?_
   obtain ⟨⟨y,rfl⟩,x10,n10,a10,f10,g10,h10,k10,l10,kvs,D10,K10⟩:=zzq
   have hrj:rows[j]? = some rows[j]:=List.getElem?_eq_getElem hj
   have hmj:ms[j]? = some (ms[j]'(by rw [R.l2];exact hj)):=List.getElem?_eq_getElem _
   have emi:=h10.al i _ _ hmi (by rw [List.getElem?_map,hri];rfl)
   have emj:=h10.al j _ _ hmj (by rw [List.getElem?_map,hrj];rfl)
   have ai:=Fb (xs:=ms.map V.ref) (j:=i) (by rw [List.getElem?_map,hmi];rfl)
   have aj:=Fb (xs:=ms.map V.ref) (j:=j) (by rw [List.getElem?_map,hmj];rfl)
   subst zzh
   simp only [qe,List.set_cons_succ,List.set_cons_zero,Int.zero_add]
   by_cases hij:i=j
   ·refine Zb false (fun Q hQ=>?_) (fun z=>nomatch z) (fun _=>?_)
    ·(walk_at "RD")
     rw [decide_eq_true (by omega)]
     exact hQ
    ·simp only [Zd]
     subst hij
     exact ⟨⟨_,rfl⟩,x10,n10,a10,f10,g10,h10,k10,l10,kvs,D10,K10.skip⟩
   ·refine Zb true (fun Q hQ=>?_) (fun _=>?_) (fun z=>nomatch z)
    ·(walk_at "RD")
     rw [decide_eq_false (by omega)]
     exact hQ
    ·(walk_at "RD")
     obtain ⟨hca,cle,cmo,cme,cso,cho,cms⟩:=hcc
     refine ⟨_,Vs T a10,_,rfl,_,SqL.of h10.at_,_,ai,_,Vs T a10,_,rfl,_,SqL.of h10.at_,_,aj,c,n,ds,_,_,_,_,rfl,ly ha x10 C,hn,hD,emi,emj,I.inn _ (List.mem_of_getElem? hri),I.inn _ (List.mem_of_getElem? hrj),I.ml _ (List.mem_of_getElem? hri),I.ml _ (List.mem_of_getElem? hrj),n10,fun v hv=>?_⟩
     refine ⟨_,Bs T a10,by decide,fun tp htp=>⟨ch,rfl,kvs,Lq D10 (pb htp),stK i j,(show upd H2 tp (.tup [V.int (i:Int),V.int (j:Int)]) tp=some (HO.tup [V.int (i:Int),V.int (j:Int)]) from db),Nat.lt_of_le_of_lt (show kvs.length ≤ 100 by have:=K10.1;omega) (by decide),fun o hD2=>?_⟩⟩
     have sT:Vb H2 (upd H2 tp (.tup [V.int (i:Int),V.int (j:Int)])):=pb htp
     refine ⟨⟨_,rfl⟩,fun b u hb e=>by rw [lb (vb e hch)];exact sT _ _ (x10 _ _ hb e),(n10.upd).upd,by rw [lb (Ne.symm hca)];exact sT _ _ a10,by rw [lb (Ne.symm cle)];exact sT _ _ f10,by rw [lb (Ne.symm cmo)];exact sT _ _ g10,⟨by rw [lb (Ne.symm cme)];exact sT _ _ h10.at_,h10.ln,fun k m x hm hx=>by rw [lb (fun z=>cms (by rw [← z];exact List.mem_of_getElem? hm))];exact sT _ _ (h10.al k m x hm hx)⟩,by rw [lb (Ne.symm cso)];exact sT _ _ k10,by rw [lb (Ne.symm cho)];exact sT _ _ l10,_,hD2,K10.put hri hrj hv⟩
  ·rintro σ H2 zzq
   refine zzP fun zzM zzh=>?_
   obtain ⟨⟨y,rfl⟩,x10,n10,a10,f10,g10,h10,k10,l10,kvs,D10,K10⟩:=zzq
   subst zzh
   exact ⟨⟨_,_,rfl⟩,x10,n10,a10,f10,g10,h10,k10,l10,kvs,D10,K10.next hrl⟩
 ·rintro σ H' zzq
  refine zzP fun zzM zzh=>?_
  obtain ⟨⟨x,y,rfl⟩,x9,n9,a9,f9,g9,h9,k9,l9,kvs,D9,K9⟩:=zzq
  subst zzh
  exact q _ x9 n9 ⟨dx,le,mo,me,so,ho,ch,ms,kvs,a9,ly ha x9 C,f9,g9,h9,k9,l9,D9,K9⟩
end
end My
namespace My
open PySem L2
noncomputable def Ij (ds:List WD):List (List Str)→Nat→List ST→Except (Nat × Nat) (List ST)
 | [],_,rows=>.ok rows
 | ws :: r,i,rows=>if rows.length=6 then .error (i,0) else match zm ds rows ws with
  | .error k=>.error (i,k)
  | .ok s=>Ij ds r (i + 1) (rows ++ [s])
section
variable (P:Program) (w:World)
noncomputable def GC (t:Adr) (c:Addr) (n:Int) (ds:List WD) (rows:List ST) (H:Hp) (Q:VK) (E:XK):Prop:=
 ((Ze ds rows).head? = none→Vk ds rows=none→Zm n ds rows=none→∀ a H',Vb H H'→NoT H'→Og P w t H' a c n ds rows→Q (.ref a) H') ∧
 (∀ x,(Ze ds rows).head? = some x→mB t.Nd [(Str.ofString "way",.str x)] H E) ∧
 (∀ e,(Ze ds rows).head? = none→Vk ds rows=some e→mB t.Bd [(Str.ofString "way",.str e.1.name),(Str.ofString "at",.int e.2)] H E) ∧
 (∀ e,(Ze ds rows).head? = none→Vk ds rows=none→Zm n ds rows=some e→mB t.ud [(Str.ofString "way",.str e.1),(Str.ofString "other",.str e.2.1),(Str.ofString "at",.int e.2.2)] H E)
noncomputable def HJ (t:Adr):Sp:=fun vs H Q E=>∃ c n ds x,vs=[.ref c,.str x]∧Qc t H c n ds∧0 < n∧iI ds∧(∀ d ∈ ds,d.name ≠ Str.ofString "")∧x.length ≤ 20000∧(ke x).length ≤ 100∧(∀ r ∈ ke x,r ≠ []∧r.length ≤ 1000∧∀ y ∈ r,y.length ≤ 1000)∧NoT H ∧
 Oc2 (Ij ds (ke x) 0 []) (fun rows=>GC P w t c n ds rows H Q E) (fun i k=>lN t i k H E)
end
theorem wJ {ds:List WD} {left ws ms:List Str} (h:Uz ds left ws=.ok ms):ms ≠ []∧ms.Nodup∧∀ x ∈ ms,x ∈ left:=by
 unfold Uz at h
 split at h
 ·rename_i hin
  obtain ⟨h1,⟨more,h2⟩,h3⟩:=OC h (by simp)
  refine ⟨by rw [h2];simp,h1,fun x hx=>?_⟩
  rcases h3 x hx with z | z
  ·rw [List.mem_singleton.mp z];exact hin
  ·exact (List.mem_filter.mp z).1
 ·cases h
theorem Qw {ds:List WD} {rows:List ST} {ws:List Str} {s:ST} (h:zm ds rows ws=.ok s):s.mem ≠ []∧s.mem.Nodup∧∀ x ∈ s.mem,x ∈ Ze ds rows:=by
 unfold zm at h
 split at h
 ·cases e1:uy (wd ws 1) 1 60 with
  | none=>rw [e1] at h;cases h
  | some lo=>
   rw [e1] at h
   replace h:((uy (wd ws 2) lo 60).elim (.error 2) fun hi=>match Uz ds (Ze ds rows) ws with | .error k=>.error k | .ok ms=>.ok (⟨lo,hi,ms⟩:ST))=Except.ok s:=h
   cases e2:uy (wd ws 2) lo 60 with
   | none=>rw [e2] at h;cases h
   | some hi=>
    rw [e2] at h
    replace h:(match Uz ds (Ze ds rows) ws with | .error k=>.error k | .ok ms=>.ok (⟨lo,hi,ms⟩:ST))=Except.ok s:=h
    cases e3:Uz ds (Ze ds rows) ws with
    | error k=>rw [e3] at h;cases h
    | ok ms=>
     rw [e3] at h
     replace h:Except.ok (⟨lo,hi,ms⟩:ST)=Except.ok (ε:=Nat) s:=h
     cases h
     exact wJ e3
 ·cases h
theorem RIn.snoc {ds:List WD} {rows:List ST} (I:RIn ds rows) (hl:ds.length ≤ 12) (h6:rows.length ≠ 6) {ws:List Str} {s:ST} (h:zm ds rows ws=.ok s):RIn ds (rows ++ [s])∧s.mem.length ≤ 12:=by
 obtain ⟨h1,h2,h3⟩:=Qw h
 have h12:s.mem.length ≤ 12:=by
  have:=Fw h2 h3
  have h4:(Ze ds rows).length ≤ ds.length:=by
   unfold Ze
   exact Nat.le_trans (List.length_filter_le ..) (by rw [List.length_map];exact Nat.le_refl _)
  omega
 refine ⟨⟨?_,fun r hr=>?_,fun r hr x hx=>?_⟩,h12⟩
 ·have:=I.ln
  rw [List.length_append]
  show rows.length + 1 ≤ 6
  omega
 ·rcases List.mem_append.mp hr with z | z
  ·exact I.ml r z
  ·rw [List.mem_singleton.mp z];exact h12
 ·rcases List.mem_append.mp hr with z | z
  ·exact I.inn r z x hx
  ·rw [List.mem_singleton.mp z] at hx
   obtain ⟨d,hd,e⟩:=List.mem_map.mp (List.mem_filter.mp (h3 x hx)).1
   exact ⟨d,hd,e⟩
theorem wo {xs:List Str} {qs:List Addr} (h:xs ≠ []):wb xs ≠ qs.map V.ref:=fun e=>by
 obtain ⟨y,r,rfl⟩:=List.exists_cons_of_ne_nil h
 cases qs with
 | nil=>cases e
 | cons a b=>injection e with e1 _;cases e1
theorem xi.snoc {H:Hp} {p x m:Addr} {qs ms:List Addr} {rows:List ST} {s:ST} (R:xi H p qs ms rows) (hx:H x=some (stO s m)) (hm:H m=some (.lst (wb s.mem))) (hne:∀ r ∈ rows,r.mem ≠ []) (hs:s.mem ≠ []):xi (upd H p (.lst (qs.map V.ref ++ [V.ref x]))) p (qs ++ [x]) (ms ++ [m]) (rows ++ [s]):=by
 have kt:∀ {b:Addr} {xs:List V},H b=some (.tup xs)→upd H p (.lst (qs.map V.ref ++ [V.ref x])) b=some (.tup xs):=fun e=>by rw [lb (Vd e R.at_ (by intro z;cases z))];exact e
 have kl:∀ {b:Addr} {xs:List Str},H b=some (.lst (wb xs))→xs ≠ []→upd H p (.lst (qs.map V.ref ++ [V.ref x])) b=some (.lst (wb xs)):=fun e h=>by
  rw [lb (Vd e R.at_ (fun z=>by injection z with z;exact wo h z))]
  exact e
 refine ⟨by rw [db,List.map_append];rfl,by rw [List.length_append,List.length_append,R.l1];rfl,by rw [List.length_append,List.length_append,R.l2];rfl,fun i q m' r a b c=>?_⟩
 have l1:=R.l1
 have l2:=R.l2
 rcases vg c with ⟨c1,c2⟩ | ⟨c1,rfl⟩
 ·rcases vg a with ⟨_,a2⟩ | ⟨a1,_⟩
  ·rcases vg b with ⟨_,b2⟩ | ⟨b1,_⟩
   ·obtain ⟨e1,e2⟩:=R.al i q m' r a2 b2 c2
    exact ⟨kt e1,kl e2 (hne r (List.mem_of_getElem? c2))⟩
   ·omega
  ·omega
 ·rcases vg a with ⟨a1,_⟩ | ⟨_,rfl⟩
  ·omega
  ·rcases vg b with ⟨b1,_⟩ | ⟨_,rfl⟩
   ·omega
   ·exact ⟨kt hx,kl hm hs⟩
section
variable {P:Program} {w:World} {K:PySem.W.Frag} {mg:Str→Option Value} {base:Heap} {t:Adr}
theorem DJ (T:Txt w K mg t):Jb P w K mg base (CX1 P w) 8 t.lf t.wf ["crossing","text"] (HJ P w t):=by
 have G_readers:Jb P w K mg base CX0 7 t.fk t.vk ["text"] (wn t):=(Ps T).mono (by decide)
 have GX_RowReader_refuse:Jb P w K mg base (CX1 P w) 7 t.Yc t.Gd ["self"] (Ax t):=(OD T).mono (by decide)
 have GX_read_stage:Jb P w K mg base (CX1 P w) 7 t.yh t.Rh ["reader","crossing","rows"] (iz t):=KF T
 have GX_refuse_never:Jb P w K mg base (CX1 P w) 7 t.Zf t.Yf ["crossing","rows"] (Vw t):=(xD T).mono (by decide)
 have GX_refuse_short:Jb P w K mg base (CX1 P w) 7 t.Rf t.Xf ["crossing","rows"] (dw t):=(ED T).mono (by decide)
 have GX_refuse_clash:Jb P w K mg base (CX1 P w) 7 t.Of t.Uf ["crossing","rows"] (fv t):=(ZC T).mono (by decide)
 have G_Stages_init:Jb P w K mg base CX0 6 t.af t.Kg ["self","crossing","rows"] (aI P w t):=(zL T).mono (by decide)
 refine T.pj.okX ci (fun vs H Q E h=>?_) (fun cdv A outer s H vs Q E hr h=>?_)
 ·obtain ⟨c,n,ds,x,rfl,_⟩:=h;rfl
 obtain ⟨c,n,ds,x,rfl,C,hn,hD,hne,hxl,hrl,hall,nt,qq⟩:=h
 have hk3:∀ d ∈ ds,d.k < 3∧d.name ≠ Str.ofString "" := fun d hd=>⟨(hD d hd).2.1,hne d hd⟩
 refine ⟨_,(fb (Eb (i:=2) ci.nd rfl (Or.inl rfl) (se gb))
   (fb (Xd (Kf ⟨rfl,rfl⟩) rfl (Kc (xb G_readers hr rfl T.iw T.Km.kp T.xv .nil Db (cb (pv 1) gb))) (zb (i:=3) ci.nd rfl (Or.inl rfl)) (fb (Ge (ac zg (nc Lb rfl T.Xh fc (cb (pv 2) gb)) (Jf rfl T.Ot T.xu) (gc _)) (ib (Qb (Yd (pv 3) T.ub T.sh GX_RowReader_refuse hr T.Bh .nil sf))) Ec)
   (ib (Qb (Df PySem.F.plainAttrs_list PySem.F.slot_list_append PySem.F.type_list_append yd (pv 2) (cb (xb GX_read_stage hr rfl T.Ov T.uk.kp T.Zv .nil sf (cb (pv 3) (cb (pv 0) (cb (pv 2) gb)))) gb))))))
   (fb (Qb (xb GX_refuse_never hr rfl T.Qr T.bi.kp T.Pr .nil sf (cb (pv 0) (cb (pv 2) gb))))
   (fb (Qb (xb GX_refuse_short hr rfl T.Kr T.Wh.kp T.Tr .nil sf (cb (pv 0) (cb (pv 2) gb))))
   (fb (Qb (xb GX_refuse_clash hr rfl T.Yr T.di.kp T.Sr .nil sf (cb (pv 0) (cb (pv 2) gb))))
   (ib (Kb (rn T.iG G_Stages_init hr rfl T.EG T.bu .nil Db (cb (pv 0) (cb (pv 2) gb)))))))))),?_⟩
 have toC:∀ {i k:Nat} {q:Addr} {H1:Hp},lN t i k H E→Vb H H1→H q=none→NoT H1→jw t i k q H1 E:=fun {i k q H1} r s n m dx H' s' n' e=>r dx H' (Qg s s' n) (n' m) e
 simp only [Bb]
 refine zzC (fun σ' H'=>Vb H H'∧NoT H'∧∃ rl,H rl=none∧H' rl=some (.lst [])∧σ'=[some (.ref c),some (.str x),some (.ref rl),none]) (fun D' hD'=>?_) fun zzM zzh=>?_
 ·(walk_at "RD")
  exact ⟨Nat.zero_le _,fun rl hrl=>hD' _ _ ⟨pb hrl,nt.upd,rl,hrl,db,rfl⟩⟩
 rintro σ1 H1 ⟨s1,n1,rl,hrl',w1,rfl⟩
 subst zzh
 generalize hW0:Ij ds (ke x) 0 []=W0 at qq
 simp only [Bb]
 refine Sb (fun σ' H'=>Vb H H'∧NoT H'∧(∃ qs ms rows,xi H' rl qs ms rows∧RIn ds rows∧(∀ r ∈ rows,r.mem ≠ [])∧Except.ok rows=W0)∧∃ x3,σ'=[some (.ref c),some (.str x),some (.ref rl),x3]) (fun D' hD' hrt _ _=>?_) ?_
 ·(walk_at "RD")
  refine ⟨x,rfl,hxl,fun r hr=>(hall r hr).2,n1,fun p H2 sm2 nt2 RR=>?_⟩
  obtain ⟨qr,hp,hp0,hql,hqa⟩:=RR
  refine ⟨p,rfl,⟨_,SqL.of hp⟩,?_⟩
  have hprl:p ≠ rl:=fun z=>by rw [z,w1] at hp0;cases hp0
  refine Fi.list (xs:=qr.map V.ref) (fun i σ H'=>(∃ y,σ=[some (.ref c),some (.str x),some (.ref rl),y])∧NoT H'∧Vb H H'∧H' p=some (.lst (qr.map V.ref)) ∧
   (∃ qs ms rows,xi H' rl qs ms rows∧RIn ds rows∧(∀ r ∈ rows,r.mem ≠ [])∧Ij ds ((ke x).drop i) i rows=W0) ∧
   ∀ (j:Nat) (q:Addr) (r:List Str),i ≤ j→qr[j]? = some q→(ke x)[j]? = some r→Fe t H' q ((j:Nat):Int) r 0∧H q=none) ?_ ?_ ?_ ?_
  ·refine ⟨⟨_,rfl⟩,nt2,s1.trans sm2,hp,⟨[],[],[],⟨sm2 _ _ w1,rfl,rfl,fun i q m r h=>by simp at h⟩,⟨Nat.zero_le _,fun r h=>by simp at h,fun r h=>by simp at h⟩,fun r h=>by simp at h,hW0⟩,fun j q r _ h1 h2=>?_⟩
   obtain ⟨Rj,hqj⟩:=hqa j q r h1 h2
   exact ⟨Rj,s1.free hqj⟩
  ·rintro i σ H' hi zzq
   refine zzP fun zzM zzh=>?_
   obtain ⟨_,_,_,h,_⟩:=zzq
   subst zzh
   exact SqL.of h
  ·rintro i v σ H' hv zzq
   refine zzP fun zzM zzh=>?_
   obtain ⟨⟨y,rfl⟩,nt',sm',hp',⟨qs,ms,rows,R',I',hme,hwp⟩,Rs⟩:=zzq
   obtain ⟨q,hq,rfl⟩:=Mb hv
   obtain ⟨hi,_⟩:=List.getElem?_eq_some_iff.mp hq
   have hid:i < (ke x).length:=by omega
   have hr:(ke x)[i]? = some (ke x)[i]:=List.getElem?_eq_getElem hid
   obtain ⟨Rq,hqn⟩:=Rs i q _ (Nat.le_refl _) hq hr
   obtain ⟨_,dq,tq,hqi,hqt⟩:=id Rq
   subst zzh
   rw [List.drop_eq_getElem_cons hid] at hwp
   unfold Ij at hwp
   simp only [qe,Bb,List.set_cons_succ,List.set_cons_zero]
   refine zzC (fun σ' H3=>H3=H'∧rows.length ≠ 6∧σ'=[some (.ref c),some (.str x),some (.ref rl),some (.ref q)]) (fun D2 hD2=>?_) fun zzM zzh=>?_
   ·refine Zb (decide (rows.length=6)) (fun Q' hQ=>?_) (fun hb=>?_) (fun hb=>?_)
    ·(walk_at "RD")
     refine ⟨_,.inl (SqL.of R'.at_),?_⟩
     rw [List.length_map,R'.l1]
     rw [show decide ((rows.length:Int)=6)=decide (rows.length=6) from decide_eq_decide.mpr (by omega)]
     exact hQ
    ·have hb:=of_decide_eq_true hb
     rw [if_pos hb] at hwp
     subst hwp
     (walk_at "RD")
     exact ⟨_,_,hqi,Fe.no _ _ _ (by decide +kernel),⟨q,_,_,0,rfl,Rq,by omega,by omega,toC qq sm' hqn nt'⟩⟩
    ·simp only [Zd]
     exact hD2 _ _ ⟨rfl,of_decide_eq_false hb,rfl⟩
   rintro σ3 H3 ⟨rfl,h6,rfl⟩
   subst zzh
   rw [if_neg h6] at hwp
   (walk_at "RD")
   refine ⟨.inl ⟨_,SqL.of R'.at_⟩,q,_,(ke x)[i],c,n,ds,rl,qs,ms,rows,rfl,Rq,by omega,C.same sm',hk3,R',I'.ln,I'.ml,nt',?_⟩
   cases ew:zm ds rows (ke x)[i] with
   | error k=>
    rw [ew] at hwp
    replace hwp:Except.error (i,k)=W0:=hwp
    subst hwp
    exact toC qq sm' hqn nt'
   | ok s=>
    rw [ew] at hwp
    replace hwp:Ij ds ((ke x).drop (i + 1)) (i + 1) (rows ++ [s])=W0:=hwp
    intro x' m H4 s4 nt4 hx4 hm4 hx3 hm3
    have hs0:=(Qw ew).1
    have R4:=R'.sameR s4 Rq
    have hsm4:Vb H H4:=Qg sm' s4 hqn
    have hRI:=I'.snoc C.1.2 h6 ew
    have hl4:=I'.ln
    refine ⟨_,R4.at_,Nat.lt_of_le_of_lt (show (qs.map V.ref).length ≤ 6 by rw [List.length_map,R4.l1];exact hl4) (by decide),⟨_,rfl⟩,nt4.upd,hsm4.updN hrl',by rw [lb hprl];exact s4 _ _ (Vd hp' hqi (by intro z;cases z)) hp',⟨qs ++ [x'],ms ++ [m],rows ++ [s],R4.snoc hx4 hm4 hme hs0,hRI.1,fun r hr'=>?_,hwp⟩,fun j q' r hj h1 h2=>?_⟩
    ·rcases List.mem_append.mp hr' with z | z
     ·exact hme r z
     ·rw [List.mem_singleton.mp z];exact hs0
    ·obtain ⟨Rj,hqj⟩:=Rs j q' r (by omega) h1 h2
     have R5:=Rj.sameX s4 (xJ Rj Rq (by omega)) Rq.ins
     refine ⟨?_,hqj⟩
     obtain ⟨hz,dx',ta,e1,e2⟩:=R5
     exact ⟨hz,dx',ta,by rw [lb (Vd e1 R4.at_ (by intro z;cases z))];exact e1,by rw [lb (Vd e2 R4.at_ (fun z=>by injection z with z;exact wo (hall r (List.mem_of_getElem? h2)).1 z))];exact e2⟩
  ·rintro σ H' zzq
   refine zzP fun zzM zzh=>?_
   obtain ⟨⟨y,rfl⟩,nt',sm',hp',⟨qs,ms,rows,R',I',hme,hwp⟩,Rs⟩:=zzq
   subst zzh
   rw [List.length_map,hql,List.drop_length] at hwp
   exact hD' _ _ ⟨sm',nt',⟨qs,ms,rows,R',I',hme,hwp⟩,_,rfl⟩
 rintro σ2 H2 zzq
 refine zzP fun zzM zzh=>?_
 obtain ⟨s2,n2,⟨qs,ms,rows,R2,I2,hme,hW⟩,x3,rfl⟩:=zzq
 subst zzh
 subst hW
 replace qq:GC P w t c n ds rows H Q E:=qq
 have C2:=C.same s2
 (walk_at "RD")
 refine ⟨c,n,ds,rl,qs,ms,rows,rfl,C2,hD,R2,I2,?_⟩
 cases hN:(Ze ds rows).head? with
 | some y=>exact (qq.2.1 y hN).step s2 fun _=>n2
 | none=>
 intro H3 s3 n3'
 have n3:=n3' n2
 have s23:=s2.trans s3
 have hle:Ze ds rows=[]:=List.head?_eq_none_iff.mp hN
 refine ⟨c,n,ds,rl,qs,ms,rows,rfl,C2.same s3,hD,R2.same s3,I2,hle,?_⟩
 cases hS:Vk ds rows with
 | some e=>exact (qq.2.2.1 e hN hS).step s23 fun _=>n3
 | none=>
 intro H4 s4 n4'
 have n4:=n4' n3
 have s24:=s23.trans s4
 refine ⟨c,n,ds,rl,qs,ms,rows,rfl,C.same s24,hn,hD,(R2.same s3).same s4,I2,n4,?_⟩
 cases hC:Zm n ds rows with
 | some e=>exact (qq.2.2.2 e hN hS hC).step s24 fun _=>n4
 | none=>
 intro H5 s5 n5' a dx ha hdx hne'
 have n5:=n5' n4
 have s25:=s24.trans s5
 have sc:Vb H5 (upd (upd H5 dx (.own a)) a (.ins t.qc dx [])):=((Vb.refl H5).updN hdx).updN ha
 refine ⟨a,dx,c,n,ds,rl,qs,ms,rows,rfl,db,(C.same s25).same sc,hn,hD,(((R2.same s3).same s4).same s5).same sc,I2,hme,(n5.upd).upd,fun H6 s6 n6 SA=>⟨rfl,?_⟩⟩
 exact qq.1 hN hS hC a H6 (Qg (s25.trans sc) s6 (s25.free ha)) n6 SA
end
end My
namespace My
open PySem L2
noncomputable def Zy (K:PySem.W.Frag):Sp:=fun vs H Q _=>∃ (a:Addr) (ns:List Int) (k m:Int),vs=[.ref a,.int k,.int m]∧ns.length ≤ 63∧SqL K H a (ns.map V.int)∧(0 ≤ k∧k < 1000000)∧0 < m∧Q (.int (og ns k m)) H
section
variable {P:Program} {w:World} {K:PySem.W.Frag} {mg:Str→Option Value} {base:Heap} {t:Adr}
theorem jG (T:Txt w K mg t):Jb P w K mg base CX0 1 t.Te t.Ue ["_law_script","_law_k","_law_many"] (Zy K):=by
 refine T.Ab.ok Ye (fun vs H Q E h=>?_) (fun cdv A outer s H vs Q E hr h=>?_)
 ·obtain ⟨a,ns,k,m,rfl,_⟩:=h;rfl
 obtain ⟨a,ns,k,m,rfl,h63,S,⟨h0,h1⟩,hm,q⟩:=h
 refine ⟨_,(fb (Eb (i:=3) Ye.nd rfl (Or.inl rfl) (Ou (ac oy (nc Lb rfl T.Xh fc (cb (pv 0) gb)) jb (gc _)) (lc bc (pv 0) (Nb jg (pv 1) (nc Lb rfl T.Xh fc (cb (pv 0) gb))) (fun _ _=>rfl)) jb))
   (fb (Eb (i:=4) Ye.nd rfl (Or.inl rfl) (Nb Wc (Nb Wc (Nb jg (pv 3) jb) (Nb mh (Nb mh jb (pv 1)) (pv 1))) jb))
   (ib (Kb (Nb jg (Nb jg (Nb mh (Nb jg (Nb mh (pv 4) jb) jb) jb) jb) (pv 2)))))),?_⟩
 (walk_at "RD")
 refine ⟨_,.inl S,?_⟩
 rw [List.length_map]
 have hkk:(0:Int) ≤ k * k∧k * k < 1000000 * 1000000:=⟨Int.mul_nonneg h0 h0,Int.mul_lt_mul' (by omega) h1 h0 (by decide)⟩
 have fin:∀ i:Int,(0:Int) < 1000003∧TD 31 k∧TD (31 * k) k∧TD (i % 1000003 + 31 * k * k + 1) 48271∧(0:Int) < 999983∧TD ((i % 1000003 + 31 * k * k + 1) * 48271 % 999983) 7919∧(0:Int) < 524287∧0 < m:=by
  intro i
  refine ⟨by decide,.inl (by decide),.inr (by omega),.inr (by decide),by decide,.inr (by decide),by decide,hm⟩
 by_cases c:(0:Int) < (ns.length:Int)
 ·rw [if_pos (decide_eq_true c)]
  have hk:0 ≤ k % (ns.length:Int)∧k % (ns.length:Int) < (ns.length:Int):=⟨Int.emod_nonneg _ (by omega),Int.emod_lt_of_pos _ c⟩
  refine ⟨_,.inl S,by rw [List.length_map];exact c,_,S,?_⟩
  rw [List.length_map]
  have hj:(k % (ns.length:Int)).toNat < ns.length:=by omega
  refine ⟨.int ns[(k % (ns.length:Int)).toNat],?_,_,rfl,?_⟩
  ·have e:=Fb (xs:=ns.map V.int) (j:=(k % (ns.length:Int)).toNat) (v:=.int ns[(k % (ns.length:Int)).toNat]) (by rw [List.getElem?_map,List.getElem?_eq_getElem hj] <;> rfl)
   rwa [Int.toNat_of_nonneg hk.1] at e
  ·obtain ⟨f1,f2,f3,f4,f5,f6,f7,f8⟩:=fin ns[(k % (ns.length:Int)).toNat]
   refine ⟨f1,f2,f3,f4,f5,f6,f7,f8,?_⟩
   have e:og ns k m=(((ns[(k % (ns.length:Int)).toNat] % 1000003 + 31 * k * k + 1) * 48271 % 999983 * 7919) % 524287) % m:=by
    unfold og
    rw [if_pos c,List.getD_eq_getElem?_getD,List.getElem?_eq_getElem hj]
    rfl
   rw [← e];exact q
 ·rw [if_neg (by simpa using c)]
  obtain ⟨f1,f2,f3,f4,f5,f6,f7,f8⟩:=fin 0
  refine ⟨f1,f2,f3,f4,f5,f6,f7,f8,?_⟩
  have e:og ns k m=(((0 % 1000003 + 31 * k * k + 1) * 48271 % 999983 * 7919) % 524287) % m:=by
   unfold og
   rw [if_neg c]
  rw [← e];exact q
end
noncomputable def ins {α:Type} (l:List α) (i:Nat) (a:α):List α:=l.take i ++ a :: l.drop i
theorem Ll {α:Type} {l:List α} {i:Nat} {a:α} (hi:i ≤ l.length) (j:Nat):(ins l i a)[j]? = if j < i then l[j]? else if j=i then some a else l[j - 1]?:=by
 unfold ins
 have ht:(l.take i).length=i:=by rw [List.length_take];omega
 by_cases h1:j < i
 ·rw [if_pos h1,List.getElem?_append_left (by omega),List.getElem?_take_of_lt h1]
 ·rw [if_neg h1,List.getElem?_append_right (by omega),ht]
  by_cases h2:j=i
  ·subst h2;rw [if_pos rfl];simp
  ·rw [if_neg h2,show j - i=(j - 1 - i) + 1 by omega,List.getElem?_cons_succ,List.getElem?_drop,show i + (j - 1 - i)=j - 1 by omega]
theorem ZB {α:Type} {l:List α} {i:Nat} {a:α} (hi:i ≤ l.length):(ins l i a).length=l.length + 1:=by
 unfold ins
 rw [List.length_append,List.length_cons,List.length_take,List.length_drop];omega
theorem eE {α:Type} {l:List α} {i:Nat} {a:α} (h:l.Nodup) (n:a ∉ l):(ins l i a).Nodup:=by
 unfold ins
 rw [(List.perm_middle).nodup_iff,List.nodup_cons,List.take_append_drop]
 exact ⟨n,h⟩
theorem Xg {α:Type} {l:List α} {i:Nat} {a x:α} (h:x ∈ ins l i a):x=a∨x ∈ l:=by
 unfold ins at h
 rcases List.mem_append.mp h with z | z
 ·exact .inr (List.mem_of_mem_take z)
 ·rcases List.mem_cons.mp z with z | z
  ·exact .inl z
  ·exact .inr (List.mem_of_mem_drop z)
theorem bD {α β:Type} (f:α→β) (l:List α) (i:Nat) (a:α):(ins l i a).map f=ins (l.map f) i (f a):=by
 unfold ins
 rw [List.map_append,List.map_cons,List.map_take,List.map_drop]
theorem Hw (x:Str) {a b:Nat} (hab:a ≤ b) (hb:b ≤ x.cps.toList.length):(Txt.slice x (some (a:Int)) (some (b:Int))).cps.toList=(x.cps.toList.drop a).take (b - a):=by
 have hx:x.length=x.cps.toList.length:=by simp [Str.length]
 have e:=StrLaws.sliceText_nat x hab (by rw [hx];exact hb)
 rw [show Txt.slice x (some (a:Int)) (some (b:Int))=StrLaws.sliceText x (some (a:Int)) (some (b:Int)) from rfl,e]
theorem Vt (x:Str) {b:Nat} (hb:b ≤ x.cps.toList.length):(Txt.slice x none (some (b:Int))).cps.toList=x.cps.toList.take b:=by
 have:Txt.slice x none (some (b:Int))=Txt.slice x (some ((0:Nat):Int)) (some (b:Int)):=by
  show StrLaws.sliceText x none (some (b:Int))=StrLaws.sliceText x (some ((0:Nat):Int)) (some (b:Int))
  unfold StrLaws.sliceText
  rw [StrLaws.sliceIdx_none_lo];rfl
 rw [this,Hw x (Nat.zero_le _) hb,List.drop_zero,Nat.sub_zero]
theorem aA (x:Str) {a:Nat} (ha:a ≤ x.cps.toList.length):(Txt.slice x (some (a:Int)) none).cps.toList=x.cps.toList.drop a:=by
 have hx:x.length=x.cps.toList.length:=by simp [Str.length]
 have:Txt.slice x (some (a:Int)) none=Txt.slice x (some (a:Int)) (some ((x.cps.toList.length:Nat):Int)):=by
  show StrLaws.sliceText x (some (a:Int)) none=StrLaws.sliceText x (some (a:Int)) (some ((x.cps.toList.length:Nat):Int))
  unfold StrLaws.sliceText
  rw [StrLaws.sliceIdx_none_hi,← hx]
 rw [this,Hw x ha (Nat.le_refl _)]
 exact List.take_of_length_le (by rw [List.length_drop];exact Nat.le_refl _)
noncomputable def nmA (l:List Nat) (k:Nat):List Nat:=l.take (k + 1)
noncomputable def nmZ (l:List Nat) (at_ f k:Nat):List Nat:=l.take at_ ++ [97 + (f + k) % 26] ++ l.drop (at_ + 1)
noncomputable def nmC (l:List Nat) (f k j:Nat):List Nat:=[97 + (f + k) % 26] ++ l.take j
theorem xE {l:List Nat} (hl:l.length=8) (al:∀ c ∈ l,97 ≤ c∧c ≤ 122) {k:Nat} (hk:k < 8):(nmA l k).length=k + 1∧∀ c ∈ nmA l k,97 ≤ c∧c ≤ 122:=by
 unfold nmA
 exact ⟨by rw [List.length_take];omega,fun c hc=>al c (List.mem_of_mem_take hc)⟩
theorem yK {l:List Nat} (hl:l.length=8) (al:∀ c ∈ l,97 ≤ c∧c ≤ 122) {a f k:Nat} (ha:a < 8):(nmZ l a f k).length=8∧∀ c ∈ nmZ l a f k,97 ≤ c∧c ≤ 122:=by
 unfold nmZ
 refine ⟨by rw [List.length_append,List.length_append,List.length_take,List.length_drop,List.length_singleton];omega,fun c hc=>?_⟩
 rcases List.mem_append.mp hc with hc | hc
 ·rcases List.mem_append.mp hc with hc | hc
  ·exact al c (List.mem_of_mem_take hc)
  ·rw [List.mem_singleton.mp hc];omega
 ·exact al c (List.mem_of_mem_drop hc)
theorem GK {l:List Nat} (hl:l.length=8) (al:∀ c ∈ l,97 ≤ c∧c ≤ 122) {f k j:Nat} (hj:j < 8):(1 ≤ (nmC l f k j).length∧(nmC l f k j).length ≤ 8)∧∀ c ∈ nmC l f k j,97 ≤ c∧c ≤ 122:=by
 unfold nmC
 refine ⟨by rw [List.length_append,List.length_take,List.length_singleton];omega,fun c hc=>?_⟩
 rcases List.mem_append.mp hc with hc | hc
 ·rw [List.mem_singleton.mp hc];omega
 ·exact al c (List.mem_of_mem_take hc)
theorem nJ {l:List Nat} (hl:l.length=8) {a f i j:Nat} (ha:a < 8) (hi:i < 8) (hj:j < 8) (e:nmZ l a f i=nmZ l a f j):i=j:=by
 have h1:∀ k,(nmZ l a f k)[a]? = some (97 + (f + k) % 26):=fun k=>by
  unfold nmZ
  rw [List.append_assoc,List.getElem?_append_right (by rw [List.length_take];omega),List.length_take,show a - min a l.length=0 by omega]
  rfl
 have h2:=h1 i
 rw [e,h1 j] at h2
 have:=Option.some.inj h2
 omega
theorem gJ {l:List Nat} {f i j u v:Nat} (hi:i < 8) (hj:j < 8) (e:nmC l f i u=nmC l f j v):i=j:=by
 unfold nmC at e
 have:=(List.cons.inj e).1
 omega
theorem ML {xs:List V} {k:Nat} (h:k ≤ xs.length):LA xs none (some ((k:Nat):Int))=xs.take k:=by
 unfold LA
 rw [HT.sIx_nat,Nat.min_eq_left h,HT.sIx_none]
 simp
noncomputable def six:List Str:=[Str.ofString "stage",Str.ofString "tram",Str.ofString "car",Str.ofString "foot",Str.ofString "ring",Str.ofString "free"]
theorem NJ {x:Str} {l:List Nat} (e:x.cps.toList=l) (h0:1 ≤ l.length) (h1:l.length ≤ 8) (al:∀ c ∈ l,97 ≤ c∧c ≤ 122):made x lh 8=true:=by
 have hx:x.length=x.cps.toList.length:=by simp [Str.length]
 exact Jv (by rw [hx,e];exact h0) (by rw [hx,e];exact h1) (by rw [e];exact al)
noncomputable def Nms (m:Nat) (xs:List Str):Prop:=xs.length=m∧xs.Nodup∧∀ x ∈ xs,made x lh 8=true
theorem kH {i:Int} (h0:0 ≤ i) (h1:i < 26):∃ c:Nat,atI (Str.ofString "abcdefghijklmnopqrstuvwxyz").cps.toList i=some c∧c=97 + i.toNat:=by
 have:∀ k,k < 26→atI (Str.ofString "abcdefghijklmnopqrstuvwxyz").cps.toList ((k:Nat):Int)=some (97 + k):=by decide +kernel
 refine ⟨97 + i.toNat,?_,rfl⟩
 have e:=this i.toNat (by omega)
 rwa [Int.toNat_of_nonneg h0] at e
theorem dM:∀ ys:List Str,(Str.join ⟨#[]⟩ ys).cps.toList=(ys.map (·.cps.toList)).flatten
 | []=>rfl
 | [a]=>by
  show a.cps.toList=_
  simp
 | a :: b :: r=>by
  show (a ++ ⟨#[]⟩ ++ Str.join ⟨#[]⟩ (b :: r)).cps.toList=_
  rw [Str.cps_append,Array.toList_append,Str.cps_append,Array.toList_append,dM (b :: r)]
  simp
theorem wt (f:Nat→Nat) (n:Nat):(Txt.join (Str.ofString "") ((List.range n).map fun i=>Yu (f i))).cps.toList=(List.range n).map f:=by
 rw [show Txt.join (Str.ofString "") ((List.range n).map fun i=>Yu (f i))=Str.join ⟨#[]⟩ ((List.range n).map fun i=>Yu (f i)) from StrLaws.glued_eq_join _ _,dM,List.map_map]
 have:((fun x:Str=>x.cps.toList) ∘ fun i=>Yu (f i))=fun i=>[f i]:=rfl
 rw [this]
 induction (List.range n) with
 | nil=>rfl
 | cons a l ih=>rw [List.map_cons,List.flatten_cons,ih];rfl
theorem EK:∀ m,m < 7→(six.take m).length=m∧(six.take m).Nodup∧∀ x ∈ six.take m,made x lh 8=true:=by decide +kernel
noncomputable def Lw (K:PySem.W.Frag) (a:Addr) (ns:List Int):Sp:=fun vs H Q _=>∃ m:Nat,vs=[.ref a,.int m]∧Sc K a ns H∧(1 ≤ m∧m ≤ 8)∧∀ p xs H',Vb H H'→Sc K a ns H'→H p=none→H' p=some (.lst (wb xs))→Nms m xs→Q (.ref p) H'
section
variable {P:Program} {w:World} {K:PySem.W.Frag} {mg:Str→Option Value} {base:Heap} {t:Adr}
theorem yE (T:Txt w K mg t) (a:Addr) (ns:List Int) (h63:ns.length ≤ 63):Jb P w K mg base CX0 2 t.qh t.Mh ["_law_script","_law_many"] (Lw K a ns):=by
 have G__law_draw:Jb P w K mg base CX0 1 t.Te t.Ue ["_law_script","_law_k","_law_many"] (De K a ns):=JC T a ns h63
 refine T.jk.ok Fd (fun vs H Q E h=>?_) (fun cdv A outer s H vs Q E hr h=>?_)
 ·obtain ⟨m,rfl,_⟩:=h;rfl
 obtain ⟨m,rfl,S,hm,q⟩:=h
 have hL:(Str.ofString "abcdefghijklmnopqrstuvwxyz").length=26:=by decide +kernel
 refine ⟨_,(fb (Eb (i:=2) Fd.nd rfl (Or.inr rfl) ic)
   (fb (Eb (i:=3) Fd.nd rfl (Or.inl rfl) (Df PySem.F.plainAttrs_str PySem.F.slot_str_join PySem.F.type_str_join Lp ic (cb (Td rfl (ze rfl T.jh (cb jb gb)) (Bc (sc:=qb Gj) rfl (by decide +kernel)) (N:=["_law_k","_law_letters","_law_script"]) (sel:=[none,some 2,some 0]) (Uc (M:=["_law_script","_law_many","_law_letters","_law_base","_law_way","_law_at","_law_names_here","_law_k","_law_sign"]) (by decide +kernel)) (Blk.of (fun _ _ _ _=>(zb (i:=0) (Je (N:=["_law_k","_law_letters","_law_script"]) (by decide +kernel) rfl) rfl (Or.inl rfl))) (fun _ _ _ _=>⟨_,Ee,by first | rfl | (dsimp only [Cx.block];done) | (dsimp only [Cx.block];exact rfl)⟩) (fun _ _ _ _=>⟨_,(lc iE (pv 1) (xb G__law_draw hr rfl T.Gb T.Ab.kp T.Hb .nil Db (cb (pv 2) (cb (Nb Wc jb (pv 0)) (cb jb gb)))) (fun _ _=>rfl)),by first | rfl | (dsimp only [Cx.block];done) | (dsimp only [Cx.block];exact rfl)⟩))) gb)))
   (fb (Eb (i:=4) Fd.nd rfl (Or.inl rfl) (xb G__law_draw hr rfl T.Gb T.Ab.kp T.Hb .nil Db (cb (pv 0) (cb jb (cb jb gb)))))
   (fb (Eb (i:=5) Fd.nd rfl (Or.inl rfl) (xb G__law_draw hr rfl T.Gb T.Ab.kp T.Hb .nil Db (cb (pv 0) (cb jb (cb jb gb)))))
   (fb (Eb (i:=6) Fd.nd rfl (Or.inl rfl) (se gb))
   (fb (Ge (PW.pt (Qs (ac zg (xb G__law_draw hr rfl T.Gb T.Ab.kp T.Hb .nil Db (cb (pv 0) (cb jb (cb jb gb)))) jb (gc _)) (mn (ac Bu (pv 1) jb (gc _))))) (ib (Kb (Ni LC (se (cb ic (cb ic (cb ic (cb ic (cb ic (cb ic gb))))))) Wl (fm (pv 1))))) Ec)
   (fb (Xd PassesOwn.never rfl (ze rfl T.jh (cb (pv 1) gb)) (zb (i:=7) Fd.nd rfl (Or.inl rfl)) (fb (Eb (i:=8) Fd.nd rfl (Or.inl rfl) (lc iE (pv 2) (Nb jg (Nb Wc (xb G__law_draw hr rfl T.Gb T.Ab.kp T.Hb .nil Db (cb (pv 0) (cb jb (cb jb gb)))) (pv 7)) jb) (fun _ _=>rfl)))
   (ib (Ge (ac zg (pv 4) jb (gc _)) (ib (Qb (Df PySem.F.plainAttrs_list PySem.F.slot_list_append PySem.F.type_list_append yd (pv 6) (cb (Nb qd (Nb qd (Ni Ly (pv 3) Wl (fm (pv 5))) (pv 8)) (Ni Ly (pv 3) (fm (Nb Wc (pv 5) jb)) Wl)) gb)))) (ib (Ge (PW.pt (Qs (ac zg (pv 4) jb (gc _)) (mn (ac Bu (pv 1) jb (gc _))))) (ib (Qb (Df PySem.F.plainAttrs_list PySem.F.slot_list_append PySem.F.type_list_append yd (pv 6) (cb (Ni Ly (pv 3) Wl (fm (Nb Wc (pv 7) jb))) gb)))) (ib (Qb (Df PySem.F.plainAttrs_list PySem.F.slot_list_append PySem.F.type_list_append yd (pv 6) (cb (Nb qd (pv 8) (Ni Ly (pv 3) Wl (fm (xb G__law_draw hr rfl T.Gb T.Ab.kp T.Hb .nil Db (cb (pv 0) (cb (Nb Wc jb (pv 7)) (cb jb gb))))))) gb))))))))))
   (ib (Kb (pv 6)))))))))),?_⟩
 simp only [Bb]
 refine zzC (fun σ' H'=>H'=H∧σ'=[some (.ref a),some (.int m),some (.str (Str.ofString "abcdefghijklmnopqrstuvwxyz")),none,none,none,none,none,none]) (fun D' hD=>?_) fun zzM zzh=>?_
 ·(walk_at "RD")
  exact hD _ _ ⟨rfl,rfl⟩
 rintro σ1 H1 ⟨rfl,rfl⟩
 subst zzh
 simp only [Bb]
 refine zzC (fun σ' H'=>Vb H1 H'∧Sc K a ns H'∧∃ wd:Str,wd.cps.toList.length=8∧(∀ c ∈ wd.cps.toList,97 ≤ c∧c ≤ 122)∧σ'=[some (.ref a),some (.int m),some (.str (Str.ofString "abcdefghijklmnopqrstuvwxyz")),some (.str wd),none,none,none,none,none]) (fun D' hD=>?_) fun zzM zzh=>?_
 ·(walk_at "RD")
  refine ⟨by decide,by decide,?_⟩
  refine ad.range_map (n:=8) (fun i=>V.str (Yu (97 + (og ns (300 + (i:Int)) 26).toNat))) (by decide) (fun i N hi hN=>?_) (fun p hp=>?_)
  ·have d1:=Md ns (300 + (i:Int)) (m:=26) (by decide)
   have d2:=Od ns (300 + (i:Int)) (m:=26) (by decide)
   obtain ⟨c,hc,rfl⟩:=kH d1 d2
   (walk_at "RD"; repeat (simp only [De];walk_at "RD"))
   exact ⟨Sub.name,S,by omega,by omega,by decide,by rw [hL];decide,_,hc,hN⟩
  ·have e:(List.range 8).map (fun i:Nat=>V.str (Yu (97 + (og ns (300 + (i:Int)) 26).toNat)))=wb ((List.range 8).map fun i:Nat=>Yu (97 + (og ns (300 + (i:Int)) 26).toNat)):=by unfold wb;rw [List.map_map];rfl
   refine ⟨p,rfl,(List.range 8).map fun i:Nat=>Yu (97 + (og ns (300 + (i:Int)) 26).toNat),by rw [← e];exact SqL.of db,?_,?_⟩
   ·have h1:(List.map (fun x:Str=>x.length) ((List.range 8).map fun i:Nat=>Yu (97 + (og ns (300 + (i:Int)) 26).toNat))).sum=8:=by
     rw [List.map_map]
     rfl
    rw [h1,List.length_map,List.length_range]
    decide +kernel
   ·refine hD _ _ ⟨pb hp,S.new hp,_,?_,fun c hc=>?_,rfl⟩
    ·rw [wt (fun i:Nat=>97 + (og ns (300 + (i:Int)) 26).toNat) 8,List.length_map,List.length_range]
    ·rw [wt (fun i:Nat=>97 + (og ns (300 + (i:Int)) 26).toNat) 8] at hc
     obtain ⟨i,_,rfl⟩:=List.mem_map.mp hc
     have d1:=Md ns (300 + (i:Int)) (m:=26) (by decide)
     have d2:=Od ns (300 + (i:Int)) (m:=26) (by decide)
     omega
 rintro σ2 H2 ⟨s2,S2,wd,hwl,hwa,rfl⟩
 have hwn:wd.length=8:=by
  have:wd.length=wd.cps.toList.length:=by simp [Str.length]
  omega
 have wy0:=Md ns 310 (m:=3) (by decide)
 have wy1:=Od ns 310 (m:=3) (by decide)
 subst zzh
 generalize hway:og ns 310 3=way at wy0 wy1
 simp only [Bb]
 refine zzC (fun σ' H'=>H'=H2∧σ'=[some (.ref a),some (.int m),some (.str (Str.ofString "abcdefghijklmnopqrstuvwxyz")),some (.str wd),some (.int way),none,none,none,none]) (fun D' hD=>?_) fun zzM zzh=>?_
 ·(walk_at "RD"; repeat (simp only [De];walk_at "RD"))
  rw [hway]
  exact ⟨S2,by omega,by omega,by decide,hD _ _ ⟨rfl,rfl⟩⟩
 rintro σ3 H3 ⟨rfl,rfl⟩
 obtain ⟨at_,hat,hat1⟩:∃ at_:Nat,og ns 311 8=(at_:Nat)∧at_ < 8:=by
  have d1:=Md ns 311 (m:=8) (by decide)
  have d2:=Od ns 311 (m:=8) (by decide)
  exact ⟨(og ns 311 8).toNat,by omega,by omega⟩
 subst zzh
 simp only [Bb]
 refine zzC (fun σ' H'=>H'=H3∧σ'=[some (.ref a),some (.int m),some (.str (Str.ofString "abcdefghijklmnopqrstuvwxyz")),some (.str wd),some (.int way),some (.int (at_:Nat)),none,none,none]) (fun D' hD=>?_) fun zzM zzh=>?_
 ·(walk_at "RD"; repeat (simp only [De];walk_at "RD"))
  rw [hat]
  exact ⟨S2,by omega,by omega,by omega,hD _ _ ⟨rfl,rfl⟩⟩
 rintro σ4 H4 ⟨rfl,rfl⟩
 obtain ⟨f,hf,hf1⟩:∃ f:Nat,og ns 312 26=(f:Nat)∧f < 26:=by
  have d1:=Md ns 312 (m:=26) (by decide)
  have d2:=Od ns 312 (m:=26) (by decide)
  exact ⟨(og ns 312 26).toNat,by omega,by omega⟩
 subst zzh
 simp only [Bb]
 refine zzC (fun σ' H'=>Sc K a ns H'∧Vb H4 H'∧∃ rl,H4 rl=none∧H' rl=some (.lst [])∧σ'=[some (.ref a),some (.int m),some (.str (Str.ofString "abcdefghijklmnopqrstuvwxyz")),some (.str wd),some (.int way),some (.int (at_:Nat)),some (.ref rl),none,none]) (fun D' hD=>?_) fun zzM zzh=>?_
 ·(walk_at "RD")
  exact ⟨Nat.zero_le _,fun rl hrl=>hD _ _ ⟨S2.new hrl,pb hrl,rl,hrl,db,rfl⟩⟩
 rintro σ6 H6 ⟨S6,s6,rl,hrl,w6,rfl⟩
 subst zzh
 simp only [Bb]
 refine Sb (fun σ' H'=>H'=H6∧σ'=[some (.ref a),some (.int m),some (.str (Str.ofString "abcdefghijklmnopqrstuvwxyz")),some (.str wd),some (.int way),some (.int (at_:Nat)),some (.ref rl),none,none]) (fun D' hD hrt _ _=>?_) ?_
 ·refine Zb (decide (og ns 313 8=0) && decide (m < 7)) (fun Q hQ=>?_) (fun hb=>?_) (fun hb=>?_)
  ·(walk_at "RD"; repeat (simp only [De];walk_at "RD"))
   refine ⟨S6,by decide,by decide,by decide,?_⟩
   by_cases c0:og ns 313 8=0
   ·rw [if_pos (decide_eq_true c0),show decide ((m:Int) < 7)=decide (m < 7) from decide_eq_decide.mpr (by omega)]
    rw [decide_eq_true c0,Bool.true_and] at hQ
    exact hQ
   ·rw [if_neg (by simpa using c0)]
    rw [decide_eq_false c0,Bool.false_and] at hQ
    exact hQ
  ·rw [Bool.and_eq_true,decide_eq_true_eq,decide_eq_true_eq] at hb
   obtain ⟨k1,k2,k3⟩:=EK m hb.2
   (walk_at "RD")
   refine ⟨by decide,fun p hp=>⟨_,SqL.of db,fun p1 hp1=>?_⟩⟩
   rw [hrt]
   refine q p1 (six.take m) _ (s2.trans (s6.trans ((pb hp).trans (pb hp1)))) ((S6.new hp).new hp1) ((s2.trans (s6.trans (pb hp))).free hp1) ?_ ⟨k1,k2,k3⟩
   rw [db,ML (show m ≤ 6 by omega)]
   unfold wb six
   rw [List.map_take]
   rfl
  ·simp only [Zd]
   exact hD _ _ ⟨rfl,rfl⟩
 rintro σ7 H7 ⟨rfl,rfl⟩
 -- the k-th name's signs
 obtain ⟨g,hg⟩:∃ g:Nat→List Nat,g=fun k=>if way=0 then nmZ wd.cps.toList at_ f k else if way=1 then nmA wd.cps.toList k else nmC wd.cps.toList f k (og ns (320 + (k:Int)) 8).toNat:=⟨_,rfl⟩
 simp only [Bb]
 refine zzC (fun σ' H'=>Sc K a ns H'∧Vb H4 H'∧(∃ xs:List Str,H' rl=some (.lst (wb xs))∧xs.map (·.cps.toList)=(List.range m).map g)∧∃ x7 x8,σ'=[some (.ref a),some (.int m),some (.str (Str.ofString "abcdefghijklmnopqrstuvwxyz")),some (.str wd),some (.int way),some (.int (at_:Nat)),some (.ref rl),x7,x8]) (fun D' hD=>?_) fun zzM zzh=>?_
 ·(walk_at "RD")
  refine ⟨by omega,by omega,?_⟩
  refine Fi.range (fun i σ H'=>Sc K a ns H'∧Vb H4 H'∧(∃ xs:List Str,H' rl=some (.lst (wb xs))∧xs.map (·.cps.toList)=(List.range i).map g)∧∃ x7 x8,σ=[some (.ref a),some (.int m),some (.str (Str.ofString "abcdefghijklmnopqrstuvwxyz")),some (.str wd),some (.int way),some (.int (at_:Nat)),some (.ref rl),x7,x8]) ⟨S6,s6,⟨[],w6,rfl⟩,_,_,rfl⟩ ?_ ?_
  ·rintro i σ H' hi zzq
   refine zzP fun zzM zzh=>?_
   obtain ⟨S7,s7,⟨xs,w7,hxs⟩,x7,x8,rfl⟩:=zzq
   have hi8:i < 8:=by have:i < (m:Int).toNat:=hi;omega
   have hxl:xs.length=i:=by have:=congrArg List.length hxs;rwa [List.length_map,List.length_map,List.length_range] at this
   obtain ⟨c,hc,rfl⟩:=kH (i:=((f:Int) + (i:Int)) % 26) (Int.emod_nonneg _ (by decide)) (Int.emod_lt_of_pos _ (by decide))
   have ecc:(((f:Int) + (i:Int)) % 26).toNat=(f + i) % 26:=by omega
   subst zzh
   rw [ecc] at hc
   simp only [qe,Bb,List.set_cons_succ,List.set_cons_zero,Int.zero_add]
   refine zzC (fun σ' H''=>H''=H'∧σ'=[some (.ref a),some (.int m),some (.str (Str.ofString "abcdefghijklmnopqrstuvwxyz")),some (.str wd),some (.int way),some (.int (at_:Nat)),some (.ref rl),some (.int (i:Nat)),some (.str (Yu (97 + (f + i) % 26)))]) (fun D' hD=>?_) fun zzM zzh=>?_
   ·(walk_at "RD"; repeat (simp only [De];walk_at "RD"))
    rw [hf]
    exact ⟨S7,by decide,by decide,by decide,by decide,by rw [hL];decide,_,hc,hD _ _ ⟨rfl,rfl⟩⟩
   rintro σA HA ⟨rfl,rfl⟩
   have hbig:∀ k:Nat,k ≤ 1000→k ≤ sizeLine:=fun k h=>Nat.le_trans h (by decide)
   have l3:(Yu (97 + (f + i) % 26)).length=1:=rfl
   have put:∀ nm:Str,nm.cps.toList=g i→Sc K a ns (upd HA rl (.lst (wb xs ++ [.str nm])))∧Vb H4 (upd HA rl (.lst (wb xs ++ [.str nm])))∧(∃ ys:List Str,(upd HA rl (.lst (wb xs ++ [.str nm]))) rl=some (.lst (wb ys))∧ys.map (·.cps.toList)=(List.range (i + 1)).map g):=fun nm hnm=>by
    refine ⟨S7.set w7 (fun _ _ z=>by cases z),s7.updN hrl,xs ++ [nm],?_,?_⟩
    ·rw [db]
     unfold wb
     rw [List.map_append];rfl
    ·rw [List.map_append,hxs,List.range_succ,List.map_append,List.map_cons,List.map_nil,hnm];rfl
   have hxb:(wb xs).length < sizeLine:=Nat.lt_of_le_of_lt (show (wb xs).length ≤ 8 by unfold wb;rw [List.length_map];omega) (by decide)
   subst zzh
   dsimp only
   refine Zb (decide (way=0)) (fun Q hQ=>?_) (fun hbt=>?_) (fun hbf=>?_)
   ·(walk_at "RD")
    exact hQ
   ·have hw:=of_decide_eq_true hbt
    have hgi:g i=nmZ wd.cps.toList at_ f i:=by rw [hg];exact if_pos hw
    have l1:=Txt.slice_le wd none (some (at_:Int))
    have l2:=Txt.slice_le wd (some ((at_:Int) + 1)) none
    (walk_at "RD")
    refine ⟨.inl ⟨_,SqL.of w7⟩,by rw [hwn];decide,hbig _ (by omega),by rw [hwn];decide,hbig _ (by rw [Uh];omega),_,w7,hxb,?_⟩
    obtain ⟨p1,p2,p3⟩:=put (Txt.slice wd none (some (at_:Int)) ++ Yu (97 + (f + i) % 26) ++ Txt.slice wd (some ((at_:Int) + 1)) none) (by
     rw [hgi]
     unfold nmZ
     rw [Str.cps_append,Array.toList_append,Str.cps_append,Array.toList_append,Vt wd (by omega),show ((at_:Int) + 1)=((at_ + 1:Nat):Int) by omega,aA wd (by omega)]
     rfl)
    exact ⟨p1,p2,p3,_,rfl⟩
   ·have hw:=of_decide_eq_false hbf
    refine Zb (decide (way=1)) (fun Q hQ=>?_) (fun hbt=>?_) (fun hbf=>?_)
    ·(walk_at "RD")
     by_cases c1:way=1
     ·rw [if_pos (decide_eq_true c1),decide_eq_true (show (m:Int) < 9 by omega)]
      rw [decide_eq_true c1] at hQ
      exact hQ
     ·rw [if_neg (by simpa using c1)]
      rw [decide_eq_false c1] at hQ
      exact hQ
    ·have hw1:=of_decide_eq_true hbt
     have hgi:g i=nmA wd.cps.toList i:=by rw [hg];exact (if_neg hw).trans (if_pos hw1)
     (walk_at "RD")
     refine ⟨.inl ⟨_,SqL.of w7⟩,by rw [hwn];decide,_,w7,hxb,?_⟩
     obtain ⟨p1,p2,p3⟩:=put (Txt.slice wd none (some ((i:Int) + 1))) (by
      rw [hgi,show ((i:Int) + 1)=((i + 1:Nat):Int) by omega,Vt wd (by omega)]
      rfl)
     exact ⟨p1,p2,p3,_,rfl⟩
    ·have hw1:=of_decide_eq_false hbf
     have hgi:g i=nmC wd.cps.toList f i (og ns (320 + (i:Int)) 8).toNat:=by rw [hg];exact (if_neg hw).trans (if_neg hw1)
     have d1:=Md ns (320 + (i:Int)) (m:=8) (by decide)
     have d2:=Od ns (320 + (i:Int)) (m:=8) (by decide)
     (walk_at "RD"; repeat (simp only [De];walk_at "RD"))
     obtain ⟨jj,hjj⟩:∃ jj:Nat,og ns (320 + (i:Int)) 8=(jj:Int):=⟨_,(Int.toNat_of_nonneg d1).symm⟩
     rw [hjj] at hgi d2
     rw [hjj]
     rw [Int.toNat_natCast] at hgi
     have l1:=Txt.slice_le wd none (some (jj:Int))
     refine ⟨.inl ⟨_,SqL.of w7⟩,S7,by omega,by omega,by decide,by rw [hwn];decide,hbig _ (by omega),_,w7,hxb,?_⟩
     obtain ⟨p1,p2,p3⟩:=put (Yu (97 + (f + i) % 26) ++ Txt.slice wd none (some (jj:Int))) (by
      rw [hgi]
      unfold nmC
      rw [Str.cps_append,Array.toList_append,Vt wd (by omega)]
      rfl)
     exact ⟨p1,p2,p3,_,rfl⟩
  ·rintro σ H' zzq
   refine zzP fun zzM zzh=>?_
   obtain ⟨S7,s7,⟨xs,w7,hxs⟩,x7,x8,rfl⟩:=zzq
   subst zzh
   exact hD _ _ ⟨S7,s7,⟨xs,w7,by rw [hxs,show (m:Int).toNat=m by omega]⟩,x7,x8,rfl⟩
 rintro σ8 H8 ⟨S8,s8,⟨xs,w8,hxs⟩,x7,x8,rfl⟩
 have hxl:xs.length=m:=by have:=congrArg List.length hxs;rwa [List.length_map,List.length_map,List.length_range] at this
 have dj:∀ k:Nat,(og ns (320 + (k:Int)) 8).toNat < 8:=fun k=>by
  have d1:=Md ns (320 + (k:Int)) (m:=8) (by decide)
  have d2:=Od ns (320 + (k:Int)) (m:=8) (by decide)
  omega
 have gok:∀ k,k < m→(1 ≤ (g k).length∧(g k).length ≤ 8)∧∀ c ∈ g k,97 ≤ c∧c ≤ 122:=fun k hk=>by
  rw [hg]
  dsimp only
  split
  ·have:=yK hwl hwa (f:=f) (k:=k) hat1
   exact ⟨by omega,this.2⟩
  ·split
   ·have:=xE hwl hwa (k:=k) (by omega)
    exact ⟨by omega,this.2⟩
   ·exact GK hwl hwa (dj k)
 have ginj:∀ i j,i < m→j < m→g i=g j→i=j:=fun i j hi hj e=>by
  rw [hg] at e
  dsimp only at e
  by_cases c0:way=0
  ·rw [if_pos c0,if_pos c0] at e
   exact nJ hwl hat1 (by omega) (by omega) e
  ·rw [if_neg c0,if_neg c0] at e
   by_cases c1:way=1
   ·rw [if_pos c1,if_pos c1] at e
    have h1:=xE hwl hwa (k:=i) (by omega)
    have h2:=xE hwl hwa (k:=j) (by omega)
    rw [e] at h1
    omega
   ·rw [if_neg c1,if_neg c1] at e
    exact gJ (by omega) (by omega) e
 have hat':∀ (i:Nat) (x:Str),xs[i]? = some x→i < m∧x.cps.toList=g i:=fun i x hx=>by
  have hi:i < m:=by rw [← hxl];exact (List.getElem?_eq_some_iff.mp hx).1
  have e:=congrArg (fun l=>l[i]?) hxs
  try dsimp only at e
  rw [List.getElem?_map,hx,List.getElem?_map,List.getElem?_range hi] at e
  exact ⟨hi,Option.some.inj e⟩
 have N:Nms m xs:=by
  refine ⟨hxl,List.pairwise_iff_getElem.mpr fun i j hi hj hij e=>?_,fun x hx=>?_⟩
  ·obtain ⟨a1,a2⟩:=hat' i _ (List.getElem?_eq_getElem hi)
   obtain ⟨b1,b2⟩:=hat' j _ (List.getElem?_eq_getElem hj)
   rw [e,b2] at a2
   have:=ginj i j a1 b1 a2.symm
   omega
  ·obtain ⟨i,hi⟩:=List.getElem?_of_mem hx
   obtain ⟨a1,a2⟩:=hat' i _ hi
   have:=gok i a1
   exact NJ a2 this.1.1 this.1.2 this.2
 subst zzh
 (walk_at "RD")
 exact q rl xs H8 (s2.trans s8) S8 (s2.free hrl) w8 N
end
end My
namespace My
open PySem L2
noncomputable abbrev yp (d:WD):List V:=[.str (kd d.k),.str d.name,.int d.start,.int d.fin,.int d.off,.int d.near,.int d.least]
noncomputable def LW (H:Hp) (wl:Addr) (ds:List WD):Prop:=∃ qs:List Addr,H wl=some (.lst (qs.map V.ref))∧qs.length=ds.length∧∀ (i:Nat) (q:Addr) (d:WD),qs[i]? = some q→ds[i]? = some d→H q=some (.tup (yp d))
theorem LW.same {H H':Hp} {wl:Addr} {ds:List WD} (h:LW H wl ds) (s:Vb H H'):LW H' wl ds:=by
 obtain ⟨qs,e1,e2,al⟩:=h
 exact ⟨qs,s _ _ e1,e2,fun i q d h1 h2=>s _ _ (al i q d h1 h2)⟩
theorem LW.snoc {H:Hp} {wl p:Addr} {ds:List WD} {d:WD} {qs:List Addr} (l1:H wl=some (.lst (qs.map V.ref))) (l2:qs.length=ds.length)
  (al:∀ (i:Nat) (q:Addr) (d:WD),qs[i]? = some q→ds[i]? = some d→H q=some (.tup (yp d))) (hp:H p=none) :
  LW (upd (upd H p (.tup (yp d))) wl (.lst (qs.map V.ref ++ [.ref p]))) wl (ds ++ [d]):=by
 have hpw:p ≠ wl:=(vb l1 hp).symm
 refine ⟨qs ++ [p],by rw [db,List.map_append];rfl,by rw [List.length_append,List.length_append,l2];rfl,fun i q e h1 h2=>?_⟩
 rcases vg h1 with ⟨z1,z2⟩ | ⟨z1,rfl⟩
 ·rcases vg h2 with ⟨y1,y2⟩ | ⟨y1,_⟩
  ·have:=al i q e z2 y2
   rw [lb (Vd this l1 (by intro z;cases z)),lb (vb this hp)]
   exact this
  ·omega
 ·rcases vg h2 with ⟨y1,y2⟩ | ⟨y1,rfl⟩
  ·omega
  ·rw [lb hpw,db]
theorem jL {n s j:Int} (h0:0 ≤ s) (h1:s < n) (h2:0 ≤ j) (h3:j < n - 1):s ≠ (s + 1 + j) % n:=by
 by_cases c:s + 1 + j < n
 ·rw [Int.emod_eq_of_lt (by omega) c];omega
 ·rw [show s + 1 + j=(s + 1 + j - n) + n * 1 by omega,Int.add_mul_emod_self_left,Int.emod_eq_of_lt (by omega) (by omega)];omega
structure CJ (n:Int) (ds:List WD):Prop where
 al:∀ d ∈ ds,WOk n d∧True
 nd:(ds.map (·.name)).Nodup
theorem CJ.cok {n:Int} {ds:List WD} (h:CJ n ds) (hn:2 ≤ n∧n ≤ 99) (hl:1 ≤ ds.length∧ds.length ≤ 12):COk n ds:=⟨hn,hl,fun d hd=>(h.al d hd).1,h.nd⟩
noncomputable def Kz (K:PySem.W.Frag) (a:Addr) (ns:List Int):Sp:=fun vs H Q _=>∃ most:Int,vs=[.ref a,.int most]∧(1 ≤ most∧most ≤ 8)∧Sc K a ns H ∧
 ∀ tp wl n ds H',Vb H H'→Sc K a ns H'→H' tp=some (.tup [.int n,.ref wl])→LW H' wl ds→CJ n ds→(∀ d ∈ ds,d.least ≤ 4)→(4 ≤ n∧n ≤ 99)→(1 ≤ ds.length∧(ds.length:Int) ≤ most)→Q (.ref tp) H'
theorem bN {i:Int} (h0:0 ≤ i) (h1:i < 4):∃ k:Nat,k < 3∧atI [V.str (Str.ofString "car"),V.str (Str.ofString "car"),V.str (Str.ofString "foot"),V.str (Str.ofString "tram")] i=some (.str (kd k)):=by
 have:i=0∨i=1∨i=2∨i=3:=by omega
 rcases this with rfl | rfl | rfl | rfl
 ·exact ⟨0,by decide,Fb (j:=0) rfl⟩
 ·exact ⟨0,by decide,Fb (j:=1) rfl⟩
 ·exact ⟨1,by decide,Fb (j:=2) rfl⟩
 ·exact ⟨2,by decide,Fb (j:=3) rfl⟩
theorem at2 (x y:V) (c:Bool):atI [x,y] (if c=true then 1 else 0)=some (if c=true then y else x):=by
 cases c with
 | true=>exact Fb (j:=1) rfl
 | false=>exact Fb (j:=0) rfl
section
variable {P:Program} {w:World} {K:PySem.W.Frag} {mg:Str→Option Value} {base:Heap} {t:Adr}
theorem aG (T:Txt w K mg t) (a:Addr) (ns:List Int) (h63:ns.length ≤ 63):Jb P w K mg base CX0 3 t.cj t.oj ["_law_script","_law_most"] (Kz K a ns):=by
 have G__law_draw:Jb P w K mg base CX0 2 t.Te t.Ue ["_law_script","_law_k","_law_many"] (De K a ns):=(JC T a ns h63).mono (by decide)
 have G__law_names:Jb P w K mg base CX0 2 t.qh t.Mh ["_law_script","_law_many"] (Lw K a ns):=yE T a ns h63
 refine T.dm.ok Pc (fun vs H Q E h=>?_) (fun cdv A outer s H vs Q E hr h=>?_)
 ·obtain ⟨most,rfl,_⟩:=h;rfl
 obtain ⟨most,rfl,hmost,S,q⟩:=h
 refine ⟨_,(fb (Eb (i:=2) Pc.nd rfl (Or.inl rfl) (lc bc (se (cb (Nb Wc jb (xb G__law_draw hr rfl T.Gb T.Ab.kp T.Hb .nil Db (cb (pv 0) (cb jb (cb jb gb))))) (cb jb gb))) (fg Ow rfl T.OG Kk (cb (Pd zg (xb G__law_draw hr rfl T.Gb T.Ab.kp T.Hb .nil Db (cb (pv 0) (cb jb (cb jb gb)))) jb (gc _)) gb)) (fun _ _=>rfl)))
   (fb (Eb (i:=3) Pc.nd rfl (Or.inl rfl) (xb G__law_names hr rfl T.Dw T.jk.kp T.Sw .nil Db (cb (pv 0) (cb (Nb Wc jb (xb G__law_draw hr rfl T.Gb T.Ab.kp T.Hb .nil Db (cb (pv 0) (cb jb (cb (pv 1) gb))))) gb))))
   (fb (Eb (i:=4) Pc.nd rfl (Or.inl rfl) (se gb))
   (fb (Xd PassesOwn.never rfl (ze rfl T.jh (cb (nc Lb rfl T.Xh fc (cb (pv 3) gb)) gb)) (zb (i:=5) Pc.nd rfl (Or.inl rfl)) (fb (Eb (i:=6) Pc.nd rfl (Or.inl rfl) (xb G__law_draw hr rfl T.Gb T.Ab.kp T.Hb .nil Db (cb (pv 0) (cb (Nb Wc jb (Nb mh jb (pv 5))) (cb (pv 2) gb)))))
   (fb (Eb (i:=7) Pc.nd rfl (Or.inl rfl) (Nb jg (Nb Wc (Nb Wc (pv 6) jb) (xb G__law_draw hr rfl T.Gb T.Ab.kp T.Hb .nil Db (cb (pv 0) (cb (Nb Wc jb (Nb mh jb (pv 5))) (cb (Nb el (pv 2) jb) gb))))) (pv 2)))
   (fb (Eb (i:=8) Pc.nd rfl (Or.inl rfl) (lc bc (se (cb ic (cb ic (cb ic (cb ic gb))))) (xb G__law_draw hr rfl T.Gb T.Ab.kp T.Hb .nil Db (cb (pv 0) (cb (Nb Wc jb (Nb mh jb (pv 5))) (cb jb gb)))) (fun _ _=>rfl)))
   (fb (Eb (i:=9) Pc.nd rfl (Or.inl rfl) (lc bc (se (cb (xb G__law_draw hr rfl T.Gb T.Ab.kp T.Hb .nil Db (cb (pv 0) (cb (Nb Wc jb (Nb mh jb (pv 5))) (cb jb gb)))) (cb jb gb))) (fg Ow rfl T.OG Kk (cb (Pd zg (xb G__law_draw hr rfl T.Gb T.Ab.kp T.Hb .nil Db (cb (pv 0) (cb (Nb Wc jb (Nb mh jb (pv 5))) (cb jb gb)))) jb (gc _)) gb)) (fun _ _=>rfl)))
   (fb (Eb (i:=10) Pc.nd rfl (Or.inl rfl) (xb G__law_draw hr rfl T.Gb T.Ab.kp T.Hb .nil Db (cb (pv 0) (cb (Nb Wc jb (Nb mh jb (pv 5))) (cb jb gb)))))
   (fb (Ge (PW.pt (Qs (ac zg (xb G__law_draw hr rfl T.Gb T.Ab.kp T.Hb .nil Db (cb (pv 0) (cb jb (cb jb gb)))) jb (gc _)) (mn (ac oy (xb G__law_draw hr rfl T.Gb T.Ab.kp T.Hb .nil Db (cb (pv 0) (cb (Nb Wc jb (pv 5)) (cb jb gb)))) jb (gc _))))) (fb (Eb (i:=8) Pc.nd rfl (Or.inl rfl) ic)
   (ib (Eb (i:=9) Pc.nd rfl (Or.inl rfl) jb))) Ec)
   (ib (Qb (Df PySem.F.plainAttrs_list PySem.F.slot_list_append PySem.F.type_list_append yd (pv 4) (cb (zq (cb (pv 8) (cb (lc bc (pv 3) (pv 5) (fun _ _=>rfl)) (cb (pv 6) (cb (pv 7) (cb (pv 9) (cb (pv 10) (cb (Nb Wc jb (xb G__law_draw hr rfl T.Gb T.Ab.kp T.Hb .nil Db (cb (pv 0) (cb (Nb Wc jb (Nb mh jb (pv 5))) (cb jb gb))))) gb)))))))) gb)))))))))))
   (ib (Kb (zq (cb (pv 2) (cb (pv 4) gb))))))))),?_⟩
 simp only [Bb]
 refine zzC (fun σ' H'=>Vb H H'∧Sc K a ns H'∧∃ n:Int,(4 ≤ n∧n ≤ 99)∧σ'=[some (.ref a),some (.int most),some (.int n),none,none,none,none,none,none,none,none]) (fun D' hD=>?_) fun zzM zzh=>?_
 ·have d1:=Md ns 2 (m:=13) (by decide)
  have d2:=Od ns 2 (m:=13) (by decide)
  (walk_at "RD"; repeat (simp only [De];walk_at "RD"))
  obtain ⟨n,hn,en⟩:∃ n:Int,(4 ≤ n∧n ≤ 99)∧(if decide (og ns 3 6=0)=true then V.int 99 else V.int (4 + og ns 2 13))=V.int n:=by
   split
   ·exact ⟨99,by decide,rfl⟩
   ·exact ⟨_,by omega,rfl⟩
  refine ⟨S,by decide,by decide,by decide,by decide,fun p hp=>⟨S.new hp,by decide,by decide,by decide,_,SqL.of db,_,at2 _ _ _,?_⟩⟩
  rw [en]
  exact hD _ _ ⟨pb hp,S.new hp,n,hn,rfl⟩
 rintro σ0 H0 ⟨s0,S0,n,hn,rfl⟩
 obtain ⟨m,hmm,hm⟩:∃ m:Nat,1 + og ns 1 most=(m:Nat)∧(1 ≤ m∧m ≤ 8∧(m:Int) ≤ most):=by
  have d1:=Md ns 1 (m:=most) (by omega)
  have d2:=Od ns 1 (m:=most) (by omega)
  exact ⟨(1 + og ns 1 most).toNat,by omega,by omega⟩
 subst zzh
 simp only [Bb]
 refine zzC (fun σ' H'=>Vb H0 H'∧Sc K a ns H'∧∃ nl xs,H' nl=some (.lst (wb xs))∧Nms m xs∧σ'=[some (.ref a),some (.int most),some (.int n),some (.ref nl),none,none,none,none,none,none,none]) (fun D' hD=>?_) fun zzM zzh=>?_
 ·(walk_at "RD")
  refine ⟨_,_,rfl,S0,by decide,by omega,_,rfl,?_⟩
  rw [hmm]
  exact ⟨m,rfl,S0,by omega,fun p xs H' s1 S1 _ e N=>hD _ _ ⟨s1,S1,p,xs,e,N,rfl⟩⟩
 rintro σ1 H1 ⟨s1,S1,nl,xs,en,N,rfl⟩
 subst zzh
 simp only [Bb]
 refine zzC (fun σ' H'=>Sc K a ns H'∧Vb H1 H'∧∃ wl,H1 wl=none∧H' wl=some (.lst [])∧σ'=[some (.ref a),some (.int most),some (.int n),some (.ref nl),some (.ref wl),none,none,none,none,none,none]) (fun D' hD=>?_) fun zzM zzh=>?_
 ·(walk_at "RD")
  exact ⟨Nat.zero_le _,fun wl hwl=>hD _ _ ⟨S1.new hwl,pb hwl,wl,hwl,db,rfl⟩⟩
 rintro σ3 H3 ⟨S3,s3,wl,hwl,w3,rfl⟩
 have hnsl:(wb xs).length=m:=by unfold wb;rw [List.length_map,N.1]
 subst zzh
 (walk_at "RD")
 refine ⟨_,.inl (SqL.of (s3 _ _ en)),by omega,by rw [hnsl];omega,?_⟩
 rw [show (((wb xs).length:Nat):Int).toNat=m by rw [hnsl];rfl]
 refine Fi.range (fun i σ H'=>Sc K a ns H'∧Vb H1 H'∧(∃ ds,LW H' wl ds∧ds.length=i∧(∀ d ∈ ds,WOk n d∧d.least ≤ 4)∧∀ (j:Nat) (d:WD),ds[j]? = some d→xs[j]? = some d.name)∧∃ x5 x6 x7 x8 x9 x10,σ=[some (.ref a),some (.int most),some (.int n),some (.ref nl),some (.ref wl),x5,x6,x7,x8,x9,x10]) ⟨S3,s3,⟨[],⟨[],w3,rfl,fun i q d h=>by simp at h⟩,rfl,fun d h=>by simp at h,fun j d h=>by simp at h⟩,_,_,_,_,_,_,rfl⟩ ?_ ?_
 ·rintro i σ H' hi zzq
  refine zzP fun zzM zzh=>?_
  obtain ⟨S4,s4,⟨ds,L4,hdl,hok,hnm⟩,x5,x6,x7,x8,x9,x10,rfl⟩:=zzq
  have him:i < m:=hi
  have hxi:xs[i]? = some (xs[i]'(by rw [N.1];exact him)):=List.getElem?_eq_getElem _
  subst zzh
  generalize xs[i]'(by rw [N.1];exact him)=nm at hxi
  have en4:=s4 _ _ en
  have hnat:atI (wb xs) ((i:Nat):Int)=some (.str nm):=Fb (by unfold wb;rw [List.getElem?_map,hxi];rfl)
  simp only [qe,Bb,List.set_cons_succ,List.set_cons_zero,Int.zero_add]
  refine zzC (fun σ' H''=>H''=H'∧∃ st:Int,(0 ≤ st∧st < n)∧σ'=[some (.ref a),some (.int most),some (.int n),some (.ref nl),some (.ref wl),some (.int (i:Nat)),some (.int st),x7,x8,x9,x10]) (fun D' hD=>?_) fun zzM zzh=>?_
  ·have d1:=Md ns (10 + 7 * (i:Int)) (m:=n) (by omega)
   have d2:=Od ns (10 + 7 * (i:Int)) (m:=n) (by omega)
   (walk_at "RD"; repeat (simp only [De];walk_at "RD"))
   exact ⟨.inl ⟨by decide,by decide⟩,S4,by omega,by omega,by omega,hD _ _ ⟨rfl,_,⟨d1,d2⟩,rfl⟩⟩
  rintro σA HA ⟨rfl,st,hst,rfl⟩
  subst zzh
  simp only [Bb]
  refine zzC (fun σ' H''=>H''=HA∧∃ fi:Int,(0 ≤ fi∧fi < n)∧st ≠ fi∧σ'=[some (.ref a),some (.int most),some (.int n),some (.ref nl),some (.ref wl),some (.int (i:Nat)),some (.int st),some (.int fi),x8,x9,x10]) (fun D' hD=>?_) fun zzM zzh=>?_
  ·have d1:=Md ns (11 + 7 * (i:Int)) (m:=n - 1) (by omega)
   have d2:=Od ns (11 + 7 * (i:Int)) (m:=n - 1) (by omega)
   have m0:=Int.emod_nonneg (st + 1 + og ns (11 + 7 * (i:Int)) (n - 1)) (show n ≠ 0 by omega)
   have m1:=Int.emod_lt_of_pos (st + 1 + og ns (11 + 7 * (i:Int)) (n - 1)) (show 0 < n by omega)
   (walk_at "RD"; repeat (simp only [De];walk_at "RD"))
   exact ⟨.inl ⟨by decide,by decide⟩,S4,by omega,by omega,by omega,by omega,hD _ _ ⟨rfl,_,⟨m0,m1⟩,jL hst.1 hst.2 d1 (by omega),rfl⟩⟩
  rintro σB HB ⟨rfl,fi,hfi,hne,rfl⟩
  subst zzh
  simp only [Bb]
  refine zzC (fun σ' H''=>Vb HB H''∧Sc K a ns H''∧∃ k:Nat,k < 3∧σ'=[some (.ref a),some (.int most),some (.int n),some (.ref nl),some (.ref wl),some (.int (i:Nat)),some (.int st),some (.int fi),some (.str (kd k)),x9,x10]) (fun D' hD=>?_) fun zzM zzh=>?_
  ·have d1:=Md ns (12 + 7 * (i:Int)) (m:=4) (by decide)
   have d2:=Od ns (12 + 7 * (i:Int)) (m:=4) (by decide)
   obtain ⟨k,hk,hat⟩:=bN d1 d2
   (walk_at "RD"; repeat (simp only [De];walk_at "RD"))
   exact ⟨by decide,fun p hp=>⟨.inl ⟨by decide,by decide⟩,S4.new hp,by omega,by omega,by decide,_,SqL.of db,_,hat,hD _ _ ⟨pb hp,S4.new hp,k,hk,rfl⟩⟩⟩
  rintro σC HC ⟨sC,SC,k0,hk0,rfl⟩
  subst zzh
  simp only [Bb]
  refine zzC (fun σ' H''=>Vb HC H''∧Sc K a ns H''∧∃ of_:Int,(0 ≤ of_∧of_ ≤ 30)∧σ'=[some (.ref a),some (.int most),some (.int n),some (.ref nl),some (.ref wl),some (.int (i:Nat)),some (.int st),some (.int fi),some (.str (kd k0)),some (.int of_),x10]) (fun D' hD=>?_) fun zzM zzh=>?_
  ·have d1:=Md ns (13 + 7 * (i:Int)) (m:=9) (by decide)
   have d2:=Od ns (13 + 7 * (i:Int)) (m:=9) (by decide)
   (walk_at "RD"; repeat (simp only [De];walk_at "RD"))
   obtain ⟨v,hv,en⟩:∃ v:Int,(0 ≤ v∧v ≤ 30)∧(if decide (og ns (14 + 7 * (i:Int)) 12=0)=true then V.int 30 else V.int (og ns (13 + 7 * (i:Int)) 9))=V.int v:=by
    split
    ·exact ⟨30,by decide,rfl⟩
    ·exact ⟨_,by omega,rfl⟩
   refine ⟨.inl ⟨by decide,by decide⟩,SC,by omega,by omega,by decide,by decide,fun p hp=>⟨.inl ⟨by decide,by decide⟩,SC.new hp,by omega,by omega,by decide,_,SqL.of db,_,at2 _ _ _,?_⟩⟩
   rw [en]
   exact hD _ _ ⟨pb hp,SC.new hp,v,hv,rfl⟩
  rintro σD HD ⟨sD,SD_,of1,hof1,rfl⟩
  subst zzh
  simp only [Bb]
  refine zzC (fun σ' H''=>H''=HD∧∃ ne_:Int,(0 ≤ ne_∧ne_ ≤ 5)∧σ'=[some (.ref a),some (.int most),some (.int n),some (.ref nl),some (.ref wl),some (.int (i:Nat)),some (.int st),some (.int fi),some (.str (kd k0)),some (.int of1),some (.int ne_)]) (fun D' hD=>?_) fun zzM zzh=>?_
  ·have d1:=Md ns (15 + 7 * (i:Int)) (m:=6) (by decide)
   have d2:=Od ns (15 + 7 * (i:Int)) (m:=6) (by decide)
   (walk_at "RD"; repeat (simp only [De];walk_at "RD"))
   exact ⟨.inl ⟨by decide,by decide⟩,SD_,by omega,by omega,by decide,hD _ _ ⟨rfl,_,by omega,rfl⟩⟩
  rintro σE HE ⟨rfl,ne1,hne1,rfl⟩
  subst zzh
  simp only [Bb]
  refine zzC (fun σ' H''=>H''=HE∧∃ (k:Nat) (of_:Int),k < 3∧(0 ≤ of_∧of_ ≤ 30)∧σ'=[some (.ref a),some (.int most),some (.int n),some (.ref nl),some (.ref wl),some (.int (i:Nat)),some (.int st),some (.int fi),some (.str (kd k)),some (.int of_),some (.int ne1)]) (fun D' hD=>?_) fun zzM zzh=>?_
  ·refine Zb (decide (og ns 9 6=0) && decide (0 < og ns (60 + (i:Int)) 4)) (fun Q hQ=>?_) (fun _=>?_) (fun _=>?_)
   ·(walk_at "RD"; repeat (simp only [De];walk_at "RD"))
    refine ⟨SD_,by omega,by omega,by decide,?_⟩
    by_cases c0:og ns 9 6=0
    ·rw [if_pos (decide_eq_true c0)]
     rw [decide_eq_true c0,Bool.true_and] at hQ
     exact ⟨SD_,by omega,by omega,by decide,hQ⟩
    ·rw [if_neg (by simpa using c0)]
     rw [decide_eq_false c0,Bool.false_and] at hQ
     exact hQ
   ·(walk_at "RD")
    exact hD _ _ ⟨rfl,1,0,by decide,by decide,rfl⟩
   ·(walk_at "RD")
    exact hD _ _ ⟨rfl,k0,of1,hk0,hof1,rfl⟩
  rintro σF HF ⟨rfl,k,of2,hk,hof2,rfl⟩
  have sH:=sC.trans sD
  have enH:=sH _ _ en4
  have LH:=L4.same sH
  have d1:=Md ns (16 + 7 * (i:Int)) (m:=4) (by decide)
  have d2:=Od ns (16 + 7 * (i:Int)) (m:=4) (by decide)
  obtain ⟨le_,ele,hle⟩:∃ le_:Int,1 + og ns (16 + 7 * (i:Int)) 4=le_∧1 ≤ le_∧le_ ≤ 4:=⟨_,rfl,by omega,by omega⟩
  obtain ⟨qs,l1,l2,al⟩:=LH
  subst zzh
  (walk_at "RD"; repeat (simp only [De];walk_at "RD"))
  rw [ele]
  refine ⟨.inl ⟨_,SqL.of l1⟩,_,SqL.of enH,_,hnat,.inl ⟨by decide,by decide⟩,SD_,by omega,by omega,by decide,by decide,fun p hp=>?_⟩
  have hwp:wl ≠ p:=vb l1 hp
  have L':=LW.snoc (d:=⟨k,nm,st,fi,of2,ne1,le_⟩) l1 l2 al hp
  refine ⟨_,by rw [lb hwp];exact l1,Nat.lt_of_le_of_lt (show (qs.map V.ref).length ≤ 8 by rw [List.length_map];omega) (by decide),(SD_.new hp).set (by rw [lb hwp];exact l1) (fun _ _ z=>by cases z),((s4.trans sH).trans (pb hp)).updN hwl,⟨ds ++ [⟨k,nm,st,fi,of2,ne1,le_⟩],L',by rw [List.length_append,hdl];rfl,fun d hd=>?_,fun j d hd=>?_⟩,?_⟩
  ·rcases List.mem_append.mp hd with hd | hd
   ·exact hok d hd
   ·rw [List.mem_singleton.mp hd]
    exact ⟨⟨hk,N.2.2 nm (List.mem_of_getElem? hxi),⟨hst.1,hst.2⟩,⟨hfi.1,hfi.2⟩,hne,hof2,⟨hne1.1,by dsimp only;omega⟩,⟨hle.1,by dsimp only;omega⟩⟩,hle.2⟩
  ·rcases vg hd with ⟨_,z⟩ | ⟨z,rfl⟩
   ·exact hnm j d z
   ·rw [z,hdl];exact hxi
  ·repeat (first | exact ⟨_,rfl⟩ | refine ⟨⟨_,rfl⟩,?_⟩)
 ·rintro σ H' zzq
  refine zzP fun zzM zzh=>?_
  obtain ⟨S4,s4,⟨ds,L4,hdl,hok,hnm⟩,x5,x6,x7,x8,x9,x10,rfl⟩:=zzq
  subst zzh
  (walk_at "RD")
  refine ⟨by decide,fun tp htp=>?_⟩
  refine q tp wl n ds _ (((s0.trans s1).trans s4).trans (pb htp)) (S4.new htp) db (L4.same (pb htp)) ⟨fun d hd=>⟨(hok d hd).1,trivial⟩,?_⟩ (fun d hd=>(hok d hd).2) hn (by omega)
  have e:ds.map (·.name)=xs:=by
   refine List.ext_getElem? fun j=>?_
   rw [List.getElem?_map]
   cases h:ds[j]? with
   | some d=>exact (hnm j d h).symm
   | none=>
    have:ds.length ≤ j:=List.getElem?_eq_none_iff.mp h
    exact (List.getElem?_eq_none_iff.mpr (by rw [N.1];omega)).symm
  rw [e]
  exact N.2.1
end
end My
namespace My
open PySem L2
theorem vK (d:WD):((((kd d.k ++ Str.ofString " ") ++ d.name) ++ Str.ofString " ") ++ Txt.join (Str.ofString " ") [num d.start,num d.fin,num d.off,num d.near,num d.least])=Str.join bk (pk d):=by
 apply Fu
 have e5:(Str.ofString " ").cps.toList=[32]:=by decide +kernel
 rw [show Txt.join (Str.ofString " ") [num d.start,num d.fin,num d.off,num d.near,num d.least]=Str.join bk [num d.start,num d.fin,num d.off,num d.near,num d.least] from StrLaws.glued_eq_join _ _]
 rw [Str.cps_append,Array.toList_append,YF,Qj,Qj]
 unfold pk
 simp only [Str.cps_append,Array.toList_append,List.map_cons,List.map_nil,jl,e5,List.append_assoc,List.cons_append,List.nil_append]
theorem cK (n:Int):Str.ofString "ring " ++ num n=Str.join bk [Str.ofString "ring",num n]:=by
 apply Fu
 have e1:(Str.ofString "ring ").cps.toList=[114,105,110,103,32]:=by decide +kernel
 have e2:(Str.ofString "ring").cps.toList=[114,105,110,103]:=by decide +kernel
 rw [YF,Qj]
 simp only [Str.cps_append,Array.toList_append,List.map_cons,List.map_nil,jl,e1,e2,List.cons_append,List.nil_append]
theorem dz {B:Nat}:∀ {ys:List Str},(∀ y ∈ ys,y.length ≤ B)→(ys.map (·.length)).sum ≤ ys.length * B
 | [],_=>by simp
 | a :: r,h=>by
  have h1:=h a (by simp)
  have h2:=dz (B:=B) (ys:=r) fun y hy=>h y (List.mem_cons_of_mem _ hy)
  rw [List.map_cons,List.sum_cons,List.length_cons,Nat.succ_mul];omega
theorem cJ {n:Int} {ds:List WD} (h:COk n ds):∀ y ∈ (gi n ds).map (Str.join bk),y.length ≤ 63:=fun y hy=>by
 obtain ⟨r,hr,rfl⟩:=List.mem_map.mp hy
 have:=Yi bk 8 r fun x hx=>(h.plain r hr x hx).1
 rw [Sn] at this
 have hl:r.length ≤ 7:=by
  rcases List.mem_cons.mp hr with rfl | hr
  ·simp
  ·obtain ⟨d,hd,rfl⟩:=List.mem_map.mp hr
   simp [pk]
 omega
noncomputable def lz (K:PySem.W.Frag):Sp:=fun vs H Q _=>∃ n wl ds,vs=[.int n,.ref wl]∧LW H wl ds∧CJ n ds∧(2 ≤ n∧n ≤ 99)∧(1 ≤ ds.length∧ds.length ≤ 12)∧NoT H∧Q (.str (Wt n ds)) H
noncomputable def tE (K:PySem.W.Frag):Sp:=fun vs H Q _=>∃ n wl ds,vs=[.int n,.ref wl]∧LW H wl ds∧CJ n ds∧(2 ≤ n∧n ≤ 99)∧(1 ≤ ds.length∧ds.length ≤ 12)∧∀ H',Vb H H'→Q (.str (Wt n ds)) H'
section
variable {P:Program} {w:World} {K:PySem.W.Frag} {mg:Str→Option Value} {base:Heap} {t:Adr}
theorem hG (T:Txt w K mg t):Jb P w K mg base CX0 1 t.kj t.Ri ["_law_places","_law_ways_here"] (lz K):=by
 refine Jb.forget (sp:=tE K) ?_ fun vs H Q E h=>?_
 ·refine T.Vl.ok Mj (fun vs H Q E h=>?_) (fun cdv A outer s H vs Q E hr h=>?_)
  ·obtain ⟨n,wl,ds,rfl,_⟩:=h;rfl
  obtain ⟨n,wl,ds,rfl,L,D,hn,hl,q⟩:=h
  refine ⟨_,(fb (Eb (i:=2) Mj.nd rfl (Or.inl rfl) (se (cb (Nb qd ic (fg dg rfl T.cE zi (cb (pv 0) gb))) gb)))
   (fb (Xd PassesOwn.never rfl (Kc (pv 1)) (zb (i:=3) Mj.nd rfl (Or.inl rfl)) (ib (Qb (Df PySem.F.plainAttrs_list PySem.F.slot_list_append PySem.F.type_list_append yd (pv 2) (cb (Nb qd (Nb qd (Nb qd (Nb qd (lc sd (pv 3) jb (fun _ _=>rfl)) ic) (lc sd (pv 3) jb (fun _ _=>rfl))) ic) (Df PySem.F.plainAttrs_str PySem.F.slot_str_join PySem.F.type_str_join Lp ic (cb (Td rfl (jM (Ni ZK (pv 3) (fm jb) Wl)) (Bc (sc:=qb Ql) rfl (by decide +kernel)) (N:=["_law_number"]) (sel:=[none]) (Uc (M:=["_law_places","_law_ways_here","_law_rows","_law_way"]) (by decide +kernel)) (Blk.of (fun _ _ _ _=>(zb (i:=0) (Je (N:=["_law_number"]) (by decide +kernel) rfl) rfl (Or.inl rfl))) (fun _ _ _ _=>⟨_,Ee,by first | rfl | (dsimp only [Cx.block];done) | (dsimp only [Cx.block];exact rfl)⟩) (fun _ _ _ _=>⟨_,(fg dg rfl T.cE zi (cb (pv 0) gb)),by first | rfl | (dsimp only [Cx.block];done) | (dsimp only [Cx.block];exact rfl)⟩))) gb))) gb)))))
   (ib (Kb (Df PySem.F.plainAttrs_str PySem.F.slot_str_join PySem.F.type_str_join Lp ic (cb (pv 2) gb)))))),?_⟩
  have hC:=D.cok hn hl
  obtain ⟨qs,l1,l2,al⟩:=L
  have hlen:∀ x:Str,cu x→x.length ≤ 8:=fun x h=>h.1
  have hbig:∀ k:Nat,k ≤ 1000→k ≤ sizeLine:=fun k h=>Nat.le_trans h (by decide)
  have hr5:(Str.ofString "ring ").length=5:=by decide +kernel
  have hb1:(Str.ofString " ").length=1:=by decide +kernel
  (walk_at "RD")
  have hn8:(Str.ofString (toString n)).length ≤ 8:=(Hd (v:=n) (by omega) (by omega)).1
  refine ⟨Tp (by omega),hbig _ (by rw [hr5];omega),by decide,fun rl hrl'=>?_⟩
  rw [cK]
  have s0:Vb H (upd H rl (.lst [V.str (Str.join bk [Str.ofString "ring",num n])])):=pb hrl'
  refine ⟨⟨_,SqL.of (s0 _ _ l1)⟩,?_⟩
  refine Fi.list (xs:=qs.map V.ref) (fun i σ H'=>Vb H H'∧H' rl=some (.lst (wb ((gi n (ds.take i)).map (Str.join bk))))∧∃ x,σ=[some (.int n),some (.ref wl),some (.ref rl),x]) ?_ ?_ ?_ ?_
  ·exact ⟨s0,db,none,rfl⟩
  ·rintro i σ H' hi ⟨sm,_,_⟩
   exact SqL.of (sm _ _ l1)
  ·rintro i v σ H' hv zzq
   refine zzP fun zzM zzh=>?_
   obtain ⟨sm,hr,x,rfl⟩:=zzq
   obtain ⟨q',hq,rfl⟩:=Mb hv
   have hid:i < ds.length:=by rw [← l2];exact (List.getElem?_eq_some_iff.mp hq).1
   have hd:ds[i]? = some ds[i]:=List.getElem?_eq_getElem hid
   have hT:SqT K H' q' (yp ds[i]):=SqT.of (sm _ _ (al i q' _ hq hd))
   have hw:=(D.al _ (List.mem_of_getElem? hd)).1
   have b1:=hw.st;have b2:=hw.fi;have b3:=hw.of;have b4:=hw.nr;have b5:=hw.le
   have z1:=hlen _ (Us ds[i].k)
   have z2:=hlen _ (Mn hw.nm)
   have z3:(num ds[i].start).length ≤ 8:=hlen _ (Hd (v:=ds[i].start) (by omega) (by omega))
   have z4:(num ds[i].fin).length ≤ 8:=hlen _ (Hd (v:=ds[i].fin) (by omega) (by omega))
   have z5:(num ds[i].off).length ≤ 8:=hlen _ (Hd (v:=ds[i].off) (by omega) (by omega))
   have z7:(num ds[i].least).length ≤ 8:=hlen _ (Hd (v:=ds[i].least) (by omega) (by omega))
   have z6:(num ds[i].near).length ≤ 8:=hlen _ (Hd (v:=ds[i].near) (by omega) (by omega))
   subst zzh
   (walk_at "RD")
   refine ⟨.inl ⟨_,SqL.of hr⟩,?_⟩
   have at0:atI (yp ds[i]) 0=some (.str (kd ds[i].k)):=Fb (j:=0) rfl
   have at1:atI (yp ds[i]) 1=some (.str ds[i].name):=Fb (j:=1) rfl
   refine ⟨_,hT,_,at0,_,rfl,hbig _ (by omega),_,hT,_,at1,_,rfl,hbig _ (by rw [Uh];omega),hbig _ (by simp only [Uh];omega),?_⟩
   have hcut:LA (yp ds[i]) (some 2) none=[.int ds[i].start,.int ds[i].fin,.int ds[i].off,.int ds[i].near,.int ds[i].least]:=rfl
   refine ⟨_,hT,?_,fun p hp=>⟨⟨_,SqT.of db⟩,?_⟩⟩
   ·show ¬ (HT.sIx 7 0 (some 2)=0∧HT.sIx 7 7 none=7)
    decide
   rw [hcut]
   have hjn:(Txt.join (Str.ofString " ") [num ds[i].start,num ds[i].fin,num ds[i].off,num ds[i].near,num ds[i].least]).length ≤ 50:=by
    rw [show Txt.join (Str.ofString " ") [num ds[i].start,num ds[i].fin,num ds[i].off,num ds[i].near,num ds[i].least]=Str.join bk [num ds[i].start,num ds[i].fin,num ds[i].off,num ds[i].near,num ds[i].least] from StrLaws.glued_eq_join _ _]
    have:=Yi bk 8 [num ds[i].start,num ds[i].fin,num ds[i].off,num ds[i].near,num ds[i].least] (fun y hy=>by
     simp only [List.mem_cons,List.not_mem_nil,or_false] at hy
     rcases hy with rfl | rfl | rfl | rfl | rfl <;> assumption)
    rw [Sn] at this
    simp only [List.length_cons,List.length_nil] at this
    omega
   refine ad.tup_zs (xs:=[.int ds[i].start,.int ds[i].fin,.int ds[i].off,.int ds[i].near,.int ds[i].least]) (zs:=wb [num ds[i].start,num ds[i].fin,num ds[i].off,num ds[i].near,num ds[i].least]) (SqT.of db) (hbig _ (show 5 ≤ 1000 by decide)) rfl (fun j v z N hv hz hN=>?_) (fun p2 hp2=>?_)
   ·have key:∃ a:Int,v=.int a∧z=.str (num a)∧0 ≤ a∧a < 100:=by
     match j,hv,hz with
     | 0,hv,hz=>cases hv;cases hz;exact ⟨_,rfl,rfl,b1.1,by omega⟩
     | 1,hv,hz=>cases hv;cases hz;exact ⟨_,rfl,rfl,b2.1,by omega⟩
     | 2,hv,hz=>cases hv;cases hz;exact ⟨_,rfl,rfl,b3.1,by omega⟩
     | 3,hv,hz=>cases hv;cases hz;exact ⟨_,rfl,rfl,b4.1,by omega⟩
     | 4,hv,hz=>cases hv;cases hz;exact ⟨_,rfl,rfl,by omega,by omega⟩
     | k + 5,hv,hz=>simp at hv
    obtain ⟨a,rfl,rfl,ha0,ha1⟩:=key
    (walk_at "RD")
    exact ⟨Sub.name,Tp (by omega),hN⟩
   ·(walk_at "RD")
    have hrp2:rl ≠ p2:=by
     rintro rfl
     rw [lb (vb hr hp)] at hp2
     rw [hp2] at hr;cases hr
    have hrl:(upd (upd H' p (.tup [.int ds[i].start,.int ds[i].fin,.int ds[i].off,.int ds[i].near,.int ds[i].least])) p2 (.lst (wb [num ds[i].start,num ds[i].fin,num ds[i].off,num ds[i].near,num ds[i].least]))) rl=some (.lst (wb ((gi n (ds.take i)).map (Str.join bk)))):=by
     rw [lb hrp2,lb (vb hr hp)];exact hr
    have sm2:Vb H' (upd (upd H' p (.tup [.int ds[i].start,.int ds[i].fin,.int ds[i].off,.int ds[i].near,.int ds[i].least])) p2 (.lst (wb [num ds[i].start,num ds[i].fin,num ds[i].off,num ds[i].near,num ds[i].least]))):=(pb hp).trans (pb hp2)
    have hsq:=SqL.of (K:=K) (H:=upd (upd H' p (.tup [.int ds[i].start,.int ds[i].fin,.int ds[i].off,.int ds[i].near,.int ds[i].least])) p2 (.lst (wb [num ds[i].start,num ds[i].fin,num ds[i].off,num ds[i].near,num ds[i].least]))) (a:=p2) db
    generalize upd (upd H' p (.tup [.int ds[i].start,.int ds[i].fin,.int ds[i].off,.int ds[i].near,.int ds[i].least])) p2 (.lst (wb [num ds[i].start,num ds[i].fin,num ds[i].off,num ds[i].near,num ds[i].least]))=H2 at hrl sm2 hsq ⊢
    refine ⟨_,hsq,?_,hbig _ (by simp only [Uh];omega),_,hrl,?_,?_,?_,_,rfl⟩
    ·simp only [List.map_cons,List.map_nil,List.sum_cons,List.sum_nil,List.length_cons,List.length_nil]
     omega
    ·rw [Rb,List.length_map]
     exact Nat.lt_of_le_of_lt (show (gi n (ds.take i)).length ≤ 13 by unfold gi;rw [List.length_cons,List.length_map,List.length_take];omega) (by decide)
    ·exact fun b u e=>by rw [lb (vb e hrl')];exact sm2 _ _ (sm _ _ e)
    ·rw [db,vK ds[i]]
     congr 2
     unfold gi wb
     simp
     rw [List.take_add_one,List.getElem?_map,hd];rfl
  ·rintro σ H' zzq
   refine zzP fun zzM zzh=>?_
   obtain ⟨sm,hr,x,rfl⟩:=zzq
   subst zzh
   (walk_at "RD")
   rw [List.length_map,l2,List.take_length] at hr
   refine ⟨_,SqL.of hr,?_,?_⟩
   ·have h63:∀ y ∈ (gi n ds).map (Str.join bk),y.length ≤ 63:=cJ hC
    have h13:((gi n ds).map (Str.join bk)).length ≤ 13:=by
     unfold gi
     rw [List.length_map,List.length_cons,List.length_map];omega
    have:=dz h63
    rw [show (Str.ofString "\n").length=1 by decide +kernel]
    omega
   ·have:=q H' sm
    unfold Wt at this
    rw [show Txt.join (Str.ofString "\n") ((gi n ds).map (Str.join bk))=Str.join nl ((gi n ds).map (Str.join bk)) from StrLaws.glued_eq_join _ _]
    exact this
 ·obtain ⟨n,wl,ds,h1,h2,h3,h4,h5,nt,q⟩:=h
  exact ⟨nt,n,wl,ds,h1,h2,h3,h4,h5,fun H' sm=>⟨sm,q⟩⟩
end
end My
namespace My
open PySem L2
noncomputable def Cy (K:PySem.W.Frag):Sp:=fun vs H Q _=>∃ n a b d e,vs=[.ref a,.ref b,.int n]∧SqT K H a (yp d)∧SqT K H b (yp e)∧WOk n d∧WOk n e∧Q (.bl (mt n d e)) H
noncomputable def we (d e:WD):Bool:=decide (d.k=2) == decide (e.k=2)
noncomputable def Rw (K:PySem.W.Frag):Sp:=fun vs H Q _=>∃ wl ds,∃ i j:Nat,∃ d e,vs=[.ref wl,.int i,.int j]∧LW H wl ds∧ds[i]? = some d∧ds[j]? = some e∧d.k < 3∧e.k < 3∧Q (.bl (we d e)) H
section
variable {P:Program} {w:World} {K:PySem.W.Frag} {mg:Str→Option Value} {base:Heap} {t:Adr}
theorem rD (T:Txt w K mg t):Jb P w K mg base CX0 1 t.bh t.ah ["_law_one","_law_other","_law_places"] (Cy K):=by
 refine T.ij.ok Ch (fun vs H Q E h=>?_) (fun cdv A outer s H vs Q E hr h=>?_)
 ·obtain ⟨n,a,b,d,e,rfl,_⟩:=h;rfl
 obtain ⟨n,a,b,d,e,rfl,Ta,Tb,hd,he,q⟩:=h
 refine ⟨_,(fb (Ge (ac zg (lc sd (pv 0) jb (fun _ _=>rfl)) (lc sd (pv 1) jb (fun _ _=>rfl)) (gc _)) (ib (Kb Ev)) Ec)
   (fb (Ge (PW.pt (Wz (ac zg (lc sd (pv 0) jb (fun _ _=>rfl)) (lc sd (pv 1) jb (fun _ _=>rfl)) (gc _)) (Wz (ac zg (lc sd (pv 0) jb (fun _ _=>rfl)) (lc sd (pv 1) jb (fun _ _=>rfl)) (gc _)) (Pw (ac zg (lc sd (pv 0) jb (fun _ _=>rfl)) (lc sd (pv 1) jb (fun _ _=>rfl)) (gc _)))))) (ib (Kb Ev)) Ec)
   (fb (Eb (i:=3) Ch.nd rfl (Or.inl rfl) (Nb jg (Nb el (lc sd (pv 0) jb (fun _ _=>rfl)) (lc sd (pv 0) jb (fun _ _=>rfl))) (pv 2)))
   (fb (Eb (i:=4) Ch.nd rfl (Or.inl rfl) (Nb jg (Nb el (lc sd (pv 1) jb (fun _ _=>rfl)) (lc sd (pv 0) jb (fun _ _=>rfl))) (pv 2)))
   (fb (Eb (i:=5) Ch.nd rfl (Or.inl rfl) (Nb jg (Nb el (lc sd (pv 1) jb (fun _ _=>rfl)) (lc sd (pv 0) jb (fun _ _=>rfl))) (pv 2)))
   (ib (Kb (Pd wx (Pd Bu (pv 4) (pv 3) (gc _)) (Pd Bu (pv 5) (pv 3) (gc _)) (gc _))))))))),?_⟩
 have a2:atI (yp d) 2=some (.int d.start):=Fb (j:=2) rfl
 have a3:atI (yp d) 3=some (.int d.fin):=Fb (j:=3) rfl
 have b2:atI (yp e) 2=some (.int e.start):=Fb (j:=2) rfl
 have b3:atI (yp e) 3=some (.int e.fin):=Fb (j:=3) rfl
 have f1:=hd.st;have f2:=hd.fi;have f3:=he.st;have f4:=he.fi
 refine Zb (decide (d.fin=e.fin)) (fun Q hQ=>?_) (fun c=>?_) (fun c=>?_)
 ·(walk_at "RD")
  refine ⟨_,Ta,_,a3,_,Tb,_,b3,rfl,?_⟩
  (walk_at "RD")
  exact hQ
 ·(walk_at "RD")
  unfold mt vx at q
  rw [c,Bool.true_or] at q
  exact q
 ·have c':=of_decide_eq_false c
  (walk_at "RD")
  refine Zb (decide (d.start=e.start) || (decide (d.start=e.fin) || decide (d.fin=e.start))) (fun Q hQ=>?_) (fun hb=>?_) (fun hb=>?_)
  ·(walk_at "RD")
   refine ⟨_,Ta,_,a2,_,Tb,_,b2,rfl,?_⟩
   by_cases c1:d.start=e.start
   ·rw [if_pos (by simp [c1])]
    rw [decide_eq_true c1,Bool.true_or] at hQ
    exact hQ
   ·rw [if_neg (by simpa using c1)]
    refine ⟨_,Ta,_,a2,_,Tb,_,b3,rfl,?_⟩
    by_cases c2:d.start=e.fin
    ·rw [if_pos (by simp [c2])]
     rw [decide_eq_false c1,decide_eq_true c2,Bool.false_or,Bool.true_or] at hQ
     exact hQ
    ·rw [if_neg (by simpa using c2)]
     refine ⟨_,Ta,_,a3,_,Tb,_,b2,rfl,?_⟩
     rw [decide_eq_false c1,decide_eq_false c2,Bool.false_or,Bool.false_or] at hQ
     rw [show decide (V.int d.fin=V.int e.start)=decide (d.fin=e.start) from decide_eq_decide.mpr (by simp)]
     exact hQ
  ·(walk_at "RD")
   unfold mt vx at q
   rw [c,Bool.false_or,if_pos (by
    rw [Bool.or_eq_true,Bool.or_eq_true,decide_eq_true_eq,decide_eq_true_eq,decide_eq_true_eq] at hb
    omega)] at q
   exact q
  ·rw [Bool.or_eq_false_iff,Bool.or_eq_false_iff,decide_eq_false_iff_not,decide_eq_false_iff_not,decide_eq_false_iff_not] at hb
   have hn0:0 < n:=by omega
   have p1:0 < (e.start - d.start) % n:=by rw [jz f1.1 f1.2 f3.1 f3.2];split <;> omega
   have p2:0 < (e.fin - d.start) % n:=by rw [jz f1.1 f1.2 f4.1 f4.2];split <;> omega
   unfold mt vx Sl at q
   rw [c,Bool.false_or,if_neg (by omega),decide_eq_true p1,decide_eq_true p2,Bool.true_and,Bool.true_and] at q
   (walk_at "RD")
   refine ⟨_,Ta,_,a3,_,Ta,_,a2,_,rfl,_,rfl,hn0,_,Tb,_,b2,_,Ta,_,a2,_,rfl,_,rfl,hn0,_,Tb,_,b3,_,Ta,_,a2,_,rfl,_,rfl,hn0,?_⟩
   generalize decide ((e.start - d.start) % n < (d.fin - d.start) % n)=X at q ⊢
   generalize decide ((e.fin - d.start) % n < (d.fin - d.start) % n)=Y at q ⊢
   cases X <;> cases Y <;> exact q
theorem LD (T:Txt w K mg t):Jb P w K mg base CX0 1 t.nh t.Jh ["_law_ways_here","_law_one","_law_other"] (Rw K):=by
 refine T.Xj.ok Am (fun vs H Q E h=>?_) (fun cdv A outer s H vs Q E hr h=>?_)
 ·obtain ⟨wl,ds,i,j,d,e,rfl,_⟩:=h;rfl
 obtain ⟨wl,ds,i,j,d,e,rfl,⟨qs,l1,l2,al⟩,hi,hj,hk,hk',q⟩:=h
 have hqi:qs[i]? = some (qs[i]'(by rw [l2];exact (List.getElem?_eq_some_iff.mp hi).1)):=List.getElem?_eq_getElem _
 have hqj:qs[j]? = some (qs[j]'(by rw [l2];exact (List.getElem?_eq_some_iff.mp hj).1)):=List.getElem?_eq_getElem _
 have ei:=al i _ d hqi hi
 have ej:=al j _ e hqj hj
 have ai:=Fb (xs:=qs.map V.ref) (j:=i) (by rw [List.getElem?_map,hqi];rfl)
 have aj:=Fb (xs:=qs.map V.ref) (j:=j) (by rw [List.getElem?_map,hqj];rfl)
 refine ⟨_,(fb (Eb (i:=3) Am.nd rfl (Or.inl rfl) (Pd zg (lc sd (lc bc (pv 0) (pv 1) (fun _ _=>rfl)) jb (fun _ _=>rfl)) ic (gc _)))
   (ib (Kb (Pd zg (pv 3) (Pd zg (lc sd (lc bc (pv 0) (pv 2) (fun _ _=>rfl)) jb (fun _ _=>rfl)) ic (gc _)) (gc _))))),?_⟩
 (walk_at "RD")
 refine ⟨_,SqL.of l1,_,ai,_,rfl,_,SqT.of ei,_,Fb (j:=0) rfl,rfl,_,SqL.of l1,_,aj,_,rfl,_,SqT.of ej,_,Fb (j:=0) rfl,rfl,?_⟩
 have h1:∀ k,k < 3→decide (V.str (kd k)=V.str (Str.ofString "tram"))=decide (k=2):=by decide +kernel
 rw [h1 d.k hk,h1 e.k hk']
 unfold we at q
 rw [show decide (decide (d.k=2)=decide (e.k=2))=(decide (d.k=2) == decide (e.k=2)) from rfl]
 exact q
end
end My
namespace My
open PySem L2
structure LIq (H0 H:Hp) (gl:Addr) (qs:List Addr) (gs:List (List Nat)):Prop where
 h1:H gl=some (.lst (qs.map V.ref))
 h2:qs.length=gs.length
 h3:qs.Nodup
 h4:gl ∉ qs
 h5:∀ (i:Nat) (q:Addr) (g:List Nat),qs[i]? = some q→gs[i]? = some g→H q=some (.lst (g.map fun k:Nat=>V.int k))
 h6:∀ q ∈ qs,H0 q=none
theorem LIq.same {H0 H H':Hp} {gl:Addr} {qs:List Addr} {gs:List (List Nat)} (h:LIq H0 H gl qs gs) (s:Vb H H'):LIq H0 H' gl qs gs:=
 ⟨s _ _ h.h1,h.h2,h.h3,h.h4,fun i q g a b=>s _ _ (h.h5 i q g a b),h.h6⟩
structure Wu (n:Int) (ds:List WD) (m:Nat) (gs:List (List Nat)):Prop where
 ne:∀ g ∈ gs,g ≠ []
 pm:gs.flatten.Perm (List.range m)
 cm:∀ g ∈ gs,∀ i ∈ g,∀ j ∈ g,i ≠ j→∀ d e,ds[i]? = some d→ds[j]? = some e→mt n d e=false
 al:∀ g ∈ gs,∀ i ∈ g,∀ j ∈ g,∀ d e,ds[i]? = some d→ds[j]? = some e→we d e=true
theorem Wu.nil (n:Int) (ds:List WD):Wu n ds 0 []:=⟨by simp,by simp,by simp,by simp⟩
theorem Gk {y z:WD}:we y z=true↔(y.k=2↔z.k=2):=by
 unfold we
 simp
theorem NA {y z:WD} (h:we y z=true):we z y=true:=Gk.mpr (Gk.mp h).symm
theorem kx {x y z:WD} (h:we x y=true) (h':we y z=true):we x z=true:=Gk.mpr ((Gk.mp h).trans (Gk.mp h'))
theorem LIq.off {H0 H:Hp} {gl x:Addr} {qs:List Addr} {gs:List (List Nat)} {o:HO} (h:LIq H0 H gl qs gs) (hx:x ≠ gl) (hq:x ∉ qs):LIq H0 (upd H x o) gl qs gs:=
 ⟨by rw [lb (Ne.symm hx)];exact h.h1,h.h2,h.h3,h.h4,fun i q g a b=>by rw [lb (fun z=>hq (by rw [← z];exact List.mem_of_getElem? a))];exact h.h5 i q g a b,h.h6⟩
theorem nz {α:Type} (l:List α) (i:Nat) (a:α):(ins l i a).Perm (l ++ [a]):=by
 unfold ins
 refine List.perm_middle.trans ?_
 rw [List.take_append_drop]
 exact (List.perm_append_comm (l₁:=[a]) (l₂:=l))
theorem cD {α:Type}:∀ {l l':List (List α)},l.Perm l'→l.flatten.Perm l'.flatten:=fun h=>h.flatten
theorem wz:∀ {gs:List (List Nat)} {j:Nat} {g g':List Nat} {k:Nat},gs[j]? = some g→g'.Perm (g ++ [k])→(gs.set j g').flatten.Perm (gs.flatten ++ [k])
 | [],j,g,g',k,h,_=>by simp at h
 | g0 :: gs,0,g,g',k,h,p=>by
  cases (show g0=g by simpa using h)
  show (g' :: gs).flatten.Perm _
  rw [List.flatten_cons,List.flatten_cons,List.append_assoc]
  refine (p.append_right _).trans ?_
  rw [List.append_assoc]
  exact List.Perm.append_left g0 List.perm_append_comm
 | g0 :: gs,j + 1,g,g',k,h,p=>by
  rw [List.getElem?_cons_succ] at h
  show (g0 :: gs.set j g').flatten.Perm _
  rw [List.flatten_cons,List.flatten_cons,List.append_assoc]
  exact List.Perm.append_left g0 (wz h p)
theorem Wu.put {n:Int} {ds:List WD} {m:Nat} {gs:List (List Nat)} (S:Wu n ds m gs) {j p:Nat} {g:List Nat} {d:WD} (hg:gs[j]? = some g) (hd:ds[m]? = some d)
  (sy:∀ i ∈ g,∀ e,ds[i]? = some e→mt n e d=false∧mt n d e=false∧we e d=true):Wu n ds (m + 1) (gs.set j (ins g p m)):=by
 have hgm:=List.mem_of_getElem? hg
 refine ⟨fun x hx=>?_,?_,fun x hx i hi i' hi' hne e e' he he'=>?_,fun x hx i hi i' hi' e e' he he'=>?_⟩
 ·rcases List.mem_or_eq_of_mem_set hx with z | z
  ·exact S.ne x z
  ·rw [z];unfold ins;simp
 ·rw [List.range_succ]
  exact (wz hg (nz g p m)).trans (S.pm.append_right [m])
 ·rcases List.mem_or_eq_of_mem_set hx with z | z
  ·exact S.cm x z i hi i' hi' hne e e' he he'
  ·rw [z] at hi hi'
   rcases Xg hi with u | u
   ·subst u
    rw [hd] at he
    cases he
    rcases Xg hi' with v | v
    ·exact absurd v.symm hne
    ·exact (sy i' v e' he').2.1
   ·rcases Xg hi' with v | v
    ·subst v
     rw [hd] at he'
     cases he'
     exact (sy i u e he).1
    ·exact S.cm g hgm i u i' v hne e e' he he'
 ·rcases List.mem_or_eq_of_mem_set hx with z | z
  ·exact S.al x z i hi i' hi' e e' he he'
  ·rw [z] at hi hi'
   have self:∀ y:WD,we y y=true:=fun y=>by unfold we;simp
   have sym:∀ y z:WD,we y z=true→we z y=true:=fun y z h=>NA h
   rcases Xg hi with u | u
   ·subst u
    rw [hd] at he
    cases he
    rcases Xg hi' with v | v
    ·subst v
     rw [hd] at he'
     cases he'
     exact self _
    ·exact sym _ _ (sy i' v e' he').2.2
   ·rcases Xg hi' with v | v
    ·subst v
     rw [hd] at he'
     cases he'
     exact (sy i u e he).2.2
    ·exact S.al g hgm i u i' v e e' he he'
theorem Wu.new {n:Int} {ds:List WD} {m:Nat} {gs:List (List Nat)} (S:Wu n ds m gs) (p:Nat):Wu n ds (m + 1) (ins gs p [m]):=by
 have self:∀ y:WD,we y y=true:=fun y=>by unfold we;simp
 refine ⟨fun x hx=>?_,?_,fun x hx i hi i' hi' hne e e' he he'=>?_,fun x hx i hi i' hi' e e' he he'=>?_⟩
 ·rcases Xg hx with z | z
  ·rw [z];simp
  ·exact S.ne x z
 ·rw [List.range_succ]
  refine (cD (nz gs p [m])).trans ?_
  rw [List.flatten_append]
  simpa using S.pm.append_right [m]
 ·rcases Xg hx with z | z
  ·rw [z] at hi hi'
   exact absurd ((List.mem_singleton.mp hi).trans (List.mem_singleton.mp hi').symm) hne
  ·exact S.cm x z i hi i' hi' hne e e' he he'
 ·rcases Xg hx with z | z
  ·rw [z] at hi hi'
   rw [List.mem_singleton.mp hi] at he
   rw [List.mem_singleton.mp hi',he] at he'
   cases he'
   exact self _
  ·exact S.al x z i hi i' hi' e e' he he'
theorem LIq.put {H0 H:Hp} {gl q:Addr} {gs:List (List Nat)} {j:Nat} {g':List Nat} {qs:List Addr} (h:LIq H0 H gl qs gs) (hq:qs[j]? = some q) (hj:j < gs.length) :
  LIq H0 (upd H q (.lst (g'.map fun k:Nat=>V.int k))) gl qs (gs.set j g'):=by
 obtain ⟨h1,h2,h3,h4,h5,h6⟩:=h
 have hqg:gl ≠ q:=fun z=>h4 (by rw [z];exact List.mem_of_getElem? hq)
 refine ⟨by rw [lb hqg];exact h1,by rw [List.length_set];exact h2,h3,h4,fun i r g a b=>?_,h6⟩
 by_cases c:i=j
 ·subst c
  rw [hq] at a
  cases a
  rw [List.getElem?_set_self hj] at b
  cases b
  exact db
 ·rw [List.getElem?_set_ne (fun e=>c e.symm)] at b
  have hne:r ≠ q:=fun e=>by
   subst e
   obtain ⟨a1,b1⟩:=List.getElem?_eq_some_iff.mp a
   obtain ⟨a2,b2⟩:=List.getElem?_eq_some_iff.mp hq
   exact c ((List.getElem_inj h3).mp (b1.trans b2.symm))
  rw [lb hne]
  exact h5 i r g a b
theorem LIq.new {H0 H:Hp} {gl p:Addr} {gs:List (List Nat)} {qs:List Addr} {k:Nat} {g:List Nat} (h:LIq H0 H gl qs gs) (h0:Vb H0 H) (hp:H p=none) (hk:k ≤ gs.length) :
  LIq H0 (upd (upd H p (.lst (g.map fun k:Nat=>V.int k))) gl (.lst ((ins qs k p).map V.ref))) gl (ins qs k p) (ins gs k g):=by
 have hgp:gl ≠ p:=vb h.h1 hp
 have hnp:p ∉ qs:=fun z=>by
  obtain ⟨i,hi⟩:=List.getElem?_of_mem z
  have il:i < gs.length:=by rw [← h.h2];exact (List.getElem?_eq_some_iff.mp hi).1
  have e:=h.h5 i p _ hi (List.getElem?_eq_getElem il)
  rw [hp] at e
  cases e
 have hkq:k ≤ qs.length:=by rw [h.h2];exact hk
 refine ⟨db,by rw [ZB hkq,ZB hk,h.h2],eE h.h3 hnp,fun z=>?_,fun i q g' a b=>?_,fun q hq=>?_⟩
 ·rcases Xg z with z | z
  ·exact hgp z
  ·exact h.h4 z
 ·rw [Ll hkq] at a
  rw [Ll hk] at b
  have keep:∀ {i:Nat} {q:Addr} {g':List Nat},qs[i]? = some q→gs[i]? = some g'→upd (upd H p (.lst (g.map fun k:Nat=>V.int k))) gl (.lst ((ins qs k p).map V.ref)) q=some (.lst (g'.map fun k:Nat=>V.int k)):=fun {i q g'} a b=>by
   have e:=h.h5 i q g' a b
   have hqg:q ≠ gl:=fun z=>h.h4 (by rw [← z];exact List.mem_of_getElem? a)
   rw [lb hqg,lb (vb e hp)]
   exact e
  by_cases c1:i < k
  ·rw [if_pos c1] at a b
   exact keep a b
  ·rw [if_neg c1] at a b
   by_cases c2:i=k
   ·rw [if_pos c2] at a b
    cases a
    cases b
    rw [lb (Ne.symm hgp),db]
   ·rw [if_neg c2] at a b
    exact keep a b
 ·rcases Xg hq with z | z
  ·rw [z];exact h0.free hp
  ·exact h.h6 q z
structure SX where
 lo:Int
 hi:Int
 ix:List Nat
structure ZE (H:Hp) (sl:Addr) (qs ms:List Addr) (sts:List SX):Prop where
 at_:H sl=some (.lst (qs.map V.ref))
 l1:qs.length=sts.length
 l2:ms.length=sts.length
 al:∀ (i:Nat) (q m:Addr) (s:SX),qs[i]? = some q→ms[i]? = some m→sts[i]? = some s→H q=some (.tup [.int s.lo,.int s.hi,.ref m])∧H m=some (.lst (s.ix.map fun k:Nat=>V.int k))
theorem ZE.same {H H':Hp} {sl:Addr} {qs ms:List Addr} {sts:List SX} (h:ZE H sl qs ms sts) (s:Vb H H'):ZE H' sl qs ms sts:=
 ⟨s _ _ h.at_,h.l1,h.l2,fun i q m r a b c=>⟨s _ _ (h.al i q m r a b c).1,s _ _ (h.al i q m r a b c).2⟩⟩
structure uM (n:Int) (ds:List WD) (sts:List SX):Prop where
 sg:Wu n ds ds.length (sts.map (·.ix))
 le:∀ s ∈ sts,∀ i ∈ s.ix,∀ d,ds[i]? = some d→d.least ≤ s.lo
 bd:∀ s ∈ sts,1 ≤ s.lo∧s.lo ≤ 21∧s.lo ≤ s.hi∧s.hi ≤ 40
theorem Wu.len {n:Int} {ds:List WD} {m:Nat} {gs:List (List Nat)} (S:Wu n ds m gs):gs.length ≤ m∧gs.flatten.length=m:=by
 have h1:=S.pm.length_eq
 rw [List.length_range] at h1
 have:∀ {gs:List (List Nat)},(∀ g ∈ gs,g ≠ [])→gs.length ≤ gs.flatten.length:=fun {gs}=>by
  induction gs with
  | nil=>intro _;simp
  | cons g gs ih=>
   intro h
   have a1:=ih fun x hx=>h x (List.mem_cons_of_mem _ hx)
   have a2:=List.length_pos_iff.mpr (h g (by simp))
   rw [List.flatten_cons,List.length_append,List.length_cons]
   omega
 have:=this S.ne
 omega
theorem Wu.lt {n:Int} {ds:List WD} {m:Nat} {gs:List (List Nat)} (S:Wu n ds m gs) {g:List Nat} (hg:g ∈ gs) {i:Nat} (hi:i ∈ g):i < m:=List.mem_range.mp (S.pm.mem_iff.mp (List.mem_flatten.mpr ⟨g,hg,hi⟩))
theorem Wu.glen {n:Int} {ds:List WD} {m:Nat} {gs:List (List Nat)} (S:Wu n ds m gs) {g:List Nat} (hg:g ∈ gs):g.length ≤ m:=by
 have h1:=(List.sublist_flatten_of_mem hg).length_le
 have:=S.len.2
 omega
theorem BM {i:Int} (h0:0 ≤ i) (h1:i < 6):∃ mo:Int,(1 ≤ mo∧mo ≤ 20)∧atI [V.int 4,V.int 4,V.int 4,V.int 4,V.int 4,V.int 20] i=some (.int mo):=by
 have:i=0∨i=1∨i=2∨i=3∨i=4∨i=5:=by omega
 rcases this with rfl | rfl | rfl | rfl | rfl | rfl
 ·exact ⟨4,by decide,Fb (j:=0) rfl⟩
 ·exact ⟨4,by decide,Fb (j:=1) rfl⟩
 ·exact ⟨4,by decide,Fb (j:=2) rfl⟩
 ·exact ⟨4,by decide,Fb (j:=3) rfl⟩
 ·exact ⟨4,by decide,Fb (j:=4) rfl⟩
 ·exact ⟨20,by decide,Fb (j:=5) rfl⟩
noncomputable def Ws (K:PySem.W.Frag):Sp:=fun vs H Q _=>∃ (a:Addr) (ns:List Int) (n:Int) (wl:Addr) (ds:List WD),vs=[.ref a,.int n,.ref wl]∧ns.length ≤ 63∧SqL K H a (ns.map V.int)∧NoT H∧LW H wl ds∧CJ n ds∧(∀ d ∈ ds,d.least ≤ 4)∧(1 ≤ ds.length∧ds.length ≤ 8) ∧
 ∀ sl qs ms sts H',Vb H H'→NoT H'→ZE H' sl qs ms sts→uM n ds sts→Q (.ref sl) H'
section
variable {P:Program} {w:World} {K:PySem.W.Frag} {mg:Str→Option Value} {base:Heap} {t:Adr}
theorem cA (T:Txt w K mg t):Jb P w K mg base CX0 2 t.Hg t.Lg ["_law_script","_law_places","_law_ways_here"] (Ws K):=by
 have G__law_draw:Jb P w K mg base CX0 1 t.Te t.Ue ["_law_script","_law_k","_law_many"] (Zy K):=jG T
 have G__law_meet:Jb P w K mg base CX0 1 t.bh t.ah ["_law_one","_law_other","_law_places"] (Cy K):=rD T
 have G__law_alike:Jb P w K mg base CX0 1 t.nh t.Jh ["_law_ways_here","_law_one","_law_other"] (Rw K):=LD T
 refine T.Ti.ok Ub (fun vs H Q E h=>?_) (fun cdv A outer s H vs Q E hr h=>?_)
 ·obtain ⟨a,ns,n,wl,ds,rfl,_⟩:=h;rfl
 obtain ⟨a,ns,n,wl,ds,rfl,h63,S,nt,L,D,hle,hdl,q⟩:=h
 obtain ⟨ql,l1,l2,lal⟩:=id L
 have hqn:(ql.map V.ref).length=ds.length:=by rw [List.length_map,l2]
 have wAt:∀ (i:Nat) (d:WD),ds[i]? = some d→∃ wq,atI (ql.map V.ref) (i:Int)=some (.ref wq)∧H wq=some (.tup (yp d)):=fun i d hd=>by
  have hqi:ql[i]? = some (ql[i]'(by rw [l2];exact (List.getElem?_eq_some_iff.mp hd).1)):=List.getElem?_eq_getElem _
  exact ⟨_,Fb (by rw [List.getElem?_map,hqi];rfl),lal i _ d hqi hd⟩
 refine ⟨_,(fb (Eb (i:=3) Ub.nd rfl (Or.inl rfl) (se gb))
   (fb (Xd PassesOwn.never rfl (ze rfl T.jh (cb (nc Lb rfl T.Xh fc (cb (pv 2) gb)) gb)) (zb (i:=4) Ub.nd rfl (Or.inl rfl)) (fb (Eb (i:=5) Ub.nd rfl (Or.inl rfl) (se gb))
   (fb (Xd PassesOwn.never rfl (ze rfl T.jh (cb (nc Lb rfl T.Xh fc (cb (pv 3) gb)) gb)) (zb (i:=6) Ub.nd rfl (Or.inl rfl)) (fb (Eb (i:=7) Ub.nd rfl (Or.inl rfl) (xb G__law_alike hr rfl T.Wv T.Xj.kp T.Mv .nil Db (cb (pv 2) (cb (lc bc (lc bc (pv 3) (pv 6) (fun _ _=>rfl)) jb (fun _ _=>rfl)) (cb (pv 4) gb)))))
   (fb (Xd PassesOwn.never rfl (Kc (lc bc (pv 3) (pv 6) (fun _ _=>rfl))) (zb (i:=8) Ub.nd rfl (Or.inl rfl)) (ib (Eb (i:=7) Ub.nd rfl (Or.inl rfl) (rC (pv 7) (Iv (HL (xb G__law_meet hr rfl T.Kq T.ij.kp T.Wp .nil Db (cb (lc bc (pv 2) (pv 8) (fun _ _=>rfl)) (cb (lc bc (pv 2) (pv 4) (fun _ _=>rfl)) (cb (pv 1) gb))))))))))
   (ib (Ge (wj (pv 7)) (ib (Qb (Df PySem.F.plainAttrs_list PySem.F.slot_list_append PySem.F.type_list_append yd (pv 5) (cb (pv 6) gb)))) Ec)))))
   (ib (Ge (PW.pt (Qs (ac oy (nc Lb rfl T.Xh fc (cb (pv 5) gb)) jb (gc _)) (mn (ac oy (xb G__law_draw hr rfl T.Gb T.Ab.kp T.Hb .nil Db (cb (pv 0) (cb (Nb Wc jb (pv 4)) (cb jb gb)))) jb (gc _))))) (fb (Eb (i:=6) Ub.nd rfl (Or.inl rfl) (lc bc (pv 5) (xb G__law_draw hr rfl T.Gb T.Ab.kp T.Hb .nil Db (cb (pv 0) (cb (Nb Wc jb (pv 4)) (cb (nc Lb rfl T.Xh fc (cb (pv 5) gb)) gb)))) (fun _ _=>rfl)))
   (ib (Qb (Df PySem.F.plainAttrs_list PySem.F.slot_list_insert PySem.F.type_list_insert Kv (lc bc (pv 3) (pv 6) (fun _ _=>rfl)) (cb (xb G__law_draw hr rfl T.Gb T.Ab.kp T.Hb .nil Db (cb (pv 0) (cb (Nb Wc jb (pv 4)) (cb (Nb Wc (nc Lb rfl T.Xh fc (cb (lc bc (pv 3) (pv 6) (fun _ _=>rfl)) gb)) jb) gb)))) (cb (pv 4) gb)))))) (ib (Qb (Df PySem.F.plainAttrs_list PySem.F.slot_list_insert PySem.F.type_list_insert Kv (pv 3) (cb (xb G__law_draw hr rfl T.Gb T.Ab.kp T.Hb .nil Db (cb (pv 0) (cb (Nb Wc jb (pv 4)) (cb (Nb Wc (nc Lb rfl T.Xh fc (cb (pv 3) gb)) jb) gb)))) (cb (se (cb (pv 4) gb)) gb))))))))))
   (fb (Eb (i:=9) Ub.nd rfl (Or.inl rfl) (se gb))
   (fb (Xd PassesOwn.never rfl (ze rfl T.jh (cb (nc Lb rfl T.Xh fc (cb (pv 3) gb)) gb)) (zb (i:=6) Ub.nd rfl (Or.inl rfl)) (fb (Eb (i:=10) Ub.nd rfl (Or.inl rfl) (Nb Wc (nc (jq rfl) rfl T.zF Hk (cb (Td rfl (Kc (lc bc (pv 3) (pv 6) (fun _ _=>rfl))) (Bc (sc:=qb Qi) rfl (by decide +kernel)) (N:=["_law_i","_law_ways_here"]) (sel:=[none,some 2]) (Uc (M:=["_law_script","_law_places","_law_ways_here","_law_some","_law_k","_law_fits","_law_j","_law_good","_law_i","_law_stages_here","_law_low","_law_more"]) (by decide +kernel)) (Blk.of (fun _ _ _ _=>(zb (i:=0) (Je (N:=["_law_i","_law_ways_here"]) (by decide +kernel) rfl) rfl (Or.inl rfl))) (fun _ _ _ _=>⟨_,Ee,by first | rfl | (dsimp only [Cx.block];done) | (dsimp only [Cx.block];exact rfl)⟩) (fun _ _ _ _=>⟨_,(lc sd (lc bc (pv 1) (pv 0) (fun _ _=>rfl)) jb (fun _ _=>rfl)),by first | rfl | (dsimp only [Cx.block];done) | (dsimp only [Cx.block];exact rfl)⟩))) gb)) (xb G__law_draw hr rfl T.Gb T.Ab.kp T.Hb .nil Db (cb (pv 0) (cb (Nb Wc jb (pv 6)) (cb jb gb))))))
   (fb (Ge (ac zg (xb G__law_draw hr rfl T.Gb T.Ab.kp T.Hb .nil Db (cb (pv 0) (cb (Nb Wc jb (pv 6)) (cb jb gb)))) jb (gc _)) (ib (Eb (i:=10) Ub.nd rfl (Or.inl rfl) (Nb Wc (pv 10) jb))) Ec)
   (fb (Eb (i:=11) Ub.nd rfl (Or.inl rfl) (lc bc (se (cb jb (cb jb (cb jb (cb jb (cb jb (cb jb gb))))))) (xb G__law_draw hr rfl T.Gb T.Ab.kp T.Hb .nil Db (cb (pv 0) (cb (Nb Wc jb (pv 6)) (cb jb gb)))) (fun _ _=>rfl)))
   (ib (Qb (Df PySem.F.plainAttrs_list PySem.F.slot_list_append PySem.F.type_list_append yd (pv 9) (cb (zq (cb (pv 10) (cb (Nb Wc (pv 10) (xb G__law_draw hr rfl T.Gb T.Ab.kp T.Hb .nil Db (cb (pv 0) (cb (Nb Wc jb (pv 6)) (cb (pv 11) gb))))) (cb (lc bc (pv 3) (pv 6) (fun _ _=>rfl)) gb)))) gb))))))))
   (ib (Kb (pv 9))))))),?_⟩
 simp only [Bb]
 refine zzC (fun σ' H'=>Vb H H'∧NoT H'∧∃ gl,H gl=none∧H' gl=some (.lst [])∧σ'=[some (.ref a),some (.int n),some (.ref wl),some (.ref gl),none,none,none,none,none,none,none,none]) (fun D' hD=>?_) fun zzM zzh=>?_
 ·(walk_at "RD")
  exact ⟨Nat.zero_le _,fun gl hgl=>hD _ _ ⟨pb hgl,nt.upd,gl,hgl,db,rfl⟩⟩
 rintro σ1 H1 ⟨s1,n1,gl,hgl,w1,rfl⟩
 subst zzh
 simp only [Bb]
 refine zzC (fun σ' H'=>Vb H H'∧NoT H'∧(∃ qs gs,LIq H H' gl qs gs∧Wu n ds ds.length gs)∧∃ x4 x5 x6 x7 x8,σ'=[some (.ref a),some (.int n),some (.ref wl),some (.ref gl),x4,x5,x6,x7,x8,none,none,none]) (fun D' hD=>?_) fun zzM zzh=>?_
 ·(walk_at "RD")
  refine ⟨_,.inl (SqL.of (s1 _ _ l1)),by omega,by rw [hqn];omega,?_⟩
  rw [show (((ql.map V.ref).length:Nat):Int).toNat=ds.length by rw [hqn];rfl]
  refine Fi.range (fun k σ H'=>Vb H H'∧NoT H'∧(∃ qs gs,LIq H H' gl qs gs∧Wu n ds k gs)∧∃ x4 x5 x6 x7 x8,σ=[some (.ref a),some (.int n),some (.ref wl),some (.ref gl),x4,x5,x6,x7,x8,none,none,none]) ⟨s1,n1,⟨[],[],⟨w1,rfl,List.nodup_nil,by simp,fun i q g h=>by simp at h,fun q h=>by simp at h⟩,Wu.nil n ds⟩,_,_,_,_,_,rfl⟩ ?_ ?_
  ·rintro k σ H' hk zzq
   refine zzP fun zzM zzh=>?_
   obtain ⟨s2,n2,⟨qs,gs,G,SG⟩,x4,x5,x6,x7,x8,rfl⟩:=zzq
   have hdk:ds[k]? = some ds[k]:=List.getElem?_eq_getElem hk
   subst zzh
   generalize hdd:ds[k]=d at hdk
   have hd:=(D.al d (List.mem_of_getElem? hdk)).1
   have gl8:=SG.len
   simp only [qe,Bb,List.set_cons_succ,List.set_cons_zero,Int.zero_add]
   refine zzC (fun σ' H2=>Vb H' H2∧NoT H2∧∃ fl,H' fl=none∧H2 fl=some (.lst [])∧σ'=[some (.ref a),some (.int n),some (.ref wl),some (.ref gl),some (.int (k:Nat)),some (.ref fl),x6,x7,x8,none,none,none]) (fun D' hD=>?_) fun zzM zzh=>?_
   ·(walk_at "RD")
    exact ⟨Nat.zero_le _,fun fl hfl=>hD _ _ ⟨pb hfl,n2.upd,fl,hfl,db,rfl⟩⟩
   rintro σ2 H2 ⟨s3,n3,fl,hfl,w3,rfl⟩
   have hfg:fl ≠ gl:=fun e=>by rw [e,G.h1] at hfl;cases hfl
   have hfq:fl ∉ qs:=fun z=>by
    obtain ⟨i,hi⟩:=List.getElem?_of_mem z
    have il:i < gs.length:=by rw [← G.h2];exact (List.getElem?_eq_some_iff.mp hi).1
    have e:=G.h5 i fl _ hi (List.getElem?_eq_getElem il)
    rw [hfl] at e
    cases e
   subst zzh
   simp only [Bb]
   refine zzC (fun σ' H3=>Vb H' H3∧NoT H3∧LIq H H3 gl qs gs∧(∃ fs:List Nat,H3 fl=some (.lst (fs.map fun k:Nat=>V.int k))∧fs.length ≤ gs.length∧∀ f ∈ fs,∃ g,gs[f]? = some g∧∀ i ∈ g,∀ e,ds[i]? = some e→mt n e d=false∧mt n d e=false∧we e d=true)∧∃ x6 x7 x8,σ'=[some (.ref a),some (.int n),some (.ref wl),some (.ref gl),some (.int (k:Nat)),some (.ref fl),x6,x7,x8,none,none,none]) (fun D' hD=>?_) fun zzM zzh=>?_
   ·(walk_at "RD")
    have hqg:(qs.map V.ref).length=gs.length:=by rw [List.length_map,G.h2]
    refine ⟨_,.inl (SqL.of (s3 _ _ G.h1)),by omega,by rw [hqg];omega,?_⟩
    rw [show (((qs.map V.ref).length:Nat):Int).toNat=gs.length by rw [hqg];rfl]
    refine Fi.range (fun j σ H3=>Vb H' H3∧NoT H3∧LIq H H3 gl qs gs∧(∃ fs:List Nat,H3 fl=some (.lst (fs.map fun k:Nat=>V.int k))∧fs.length ≤ j∧∀ f ∈ fs,∃ g,gs[f]? = some g∧∀ i ∈ g,∀ e,ds[i]? = some e→mt n e d=false∧mt n d e=false∧we e d=true)∧∃ x6 x7 x8,σ=[some (.ref a),some (.int n),some (.ref wl),some (.ref gl),some (.int (k:Int)),some (.ref fl),x6,x7,x8,none,none,none]) ⟨s3,n3,G.same s3,⟨[],w3,Nat.le_refl _,fun f h=>by simp at h⟩,_,_,_,rfl⟩ ?_ ?_
    ·rintro j σ H3 hj zzq
     refine zzP fun zzM zzh=>?_
     obtain ⟨s4,n4,G4,⟨fs,w4,hfs,hgood⟩,x6,x7,x8,rfl⟩:=zzq
     have hgj:gs[j]? = some gs[j]:=List.getElem?_eq_getElem hj
     have hqj:qs[j]? = some (qs[j]'(by rw [G.h2];exact hj)):=List.getElem?_eq_getElem _
     subst zzh
     generalize qs[j]'(by rw [G.h2];exact hj)=qj at hqj
     generalize hgg:gs[j]=g at hgj
     have hgm:=List.mem_of_getElem? hgj
     obtain ⟨g0,gr,hgc⟩:=List.exists_cons_of_ne_nil (SG.ne g hgm)
     have hin:∀ i ∈ g,∃ e,ds[i]? = some e:=fun i hi=>⟨_,List.getElem?_eq_getElem (Nat.lt_trans (SG.lt hgm hi) hk)⟩
     have hg0:g0 ∈ g:=by rw [hgc];exact List.mem_cons_self ..
     obtain ⟨d0,hd0⟩:=hin g0 hg0
     have eqj:=G4.h5 j qj g hqj hgj
     have aqj:=Fb (xs:=qs.map V.ref) (j:=j) (by rw [List.getElem?_map,hqj];rfl)
     have sH:=s2.trans s4
     have L4:=L.same sH
     have l14:=sH _ _ l1
     simp only [qe,Bb,List.set_cons_succ,List.set_cons_zero,Int.zero_add]
     refine zzC (fun σ' H4=>H4=H3∧σ'=[some (.ref a),some (.int n),some (.ref wl),some (.ref gl),some (.int (k:Int)),some (.ref fl),some (.int (j:Int)),some (.bl (we d0 d)),x8,none,none,none]) (fun D' hD=>?_) fun zzM zzh=>?_
     ·(walk_at "RD")
      exact ⟨_,SqL.of G4.h1,_,aqj,_,rfl,_,SqL.of eqj,_,by rw [hgc];exact Fb (j:=0) rfl,wl,ds,g0,k,d0,d,rfl,L4,hd0,hdk,(D.al d0 (List.mem_of_getElem? hd0)).1.k,hd.k,hD _ _ ⟨rfl,rfl⟩⟩
     rintro σ4 H4 ⟨rfl,rfl⟩
     subst zzh
     simp only [Bb]
     refine zzC (fun σ' H5=>H5=H4∧∃ (bb:Bool) (x8:Option V),(bb=true→we d0 d=true∧∀ i ∈ g,∀ e,ds[i]? = some e→mt n e d=false)∧σ'=[some (.ref a),some (.int n),some (.ref wl),some (.ref gl),some (.int (k:Int)),some (.ref fl),some (.int (j:Int)),some (.bl bb),x8,none,none,none]) (fun D' hD=>?_) fun zzM zzh=>?_
     ·(walk_at "RD")
      refine ⟨_,SqL.of G4.h1,_,aqj,_,rfl,⟨_,SqL.of eqj⟩,?_⟩
      refine Fi.list (xs:=g.map fun k:Nat=>V.int k) (fun l σ H5=>H5=H4∧∃ (bb:Bool) (x8:Option V),(bb=true→we d0 d=true∧∀ i ∈ g.take l,∀ e,ds[i]? = some e→mt n e d=false)∧σ=[some (.ref a),some (.int n),some (.ref wl),some (.ref gl),some (.int (k:Int)),some (.ref fl),some (.int (j:Int)),some (.bl bb),x8,none,none,none]) ?_ ?_ ?_ ?_
      ·exact ⟨rfl,_,_,fun z=>⟨z,fun i h=>by simp at h⟩,rfl⟩
      ·rintro l σ H5 hl ⟨rfl,_⟩
       exact SqL.of eqj
      ·rintro l v σ H5 hv zzq
       refine zzP fun zzM zzh=>?_
       obtain ⟨rfl,bb,x8,hbb,rfl⟩:=zzq
       obtain ⟨i,hi,rfl⟩:=Mb hv
       obtain ⟨e,he⟩:=hin i (List.mem_of_getElem? hi)
       obtain ⟨wi,ai,ewi⟩:=wAt i e he
       obtain ⟨wk,ak,ewk⟩:=wAt k d hdk
       have step:∀ b2:Bool,(b2=true→bb=true∧mt n e d=false)→(b2=true→we d0 d=true∧∀ i ∈ g.take (l + 1),∀ e,ds[i]? = some e→mt n e d=false):=fun b2 h z=>by
        obtain ⟨z1,z2⟩:=h z
        obtain ⟨y1,y2⟩:=hbb z1
        refine ⟨y1,fun i' hi' e' he'=>?_⟩
        rw [List.take_add_one,hi] at hi'
        rcases List.mem_append.mp hi' with u | u
        ·exact y2 i' u e' he'
        ·rw [show i'=i by simpa using u,he] at he'
         cases he'
         exact z2
       subst zzh
       (walk_at "RD")
       cases bb with
       | true=>
        rw [if_pos rfl]
        refine ⟨_,SqL.of l14,_,ai,_,SqL.of l14,_,ak,n,wi,wk,e,d,rfl,SqT.of (sH _ _ ewi),SqT.of (sH _ _ ewk),(D.al e (List.mem_of_getElem? he)).1,hd,_,rfl,?_⟩
        exact ⟨rfl,_,step _ (fun z=>⟨rfl,by simpa using z⟩),rfl,_,rfl⟩
       | false=>
        rw [if_neg (by decide)]
        exact ⟨false,(fun z=>nomatch z),rfl,_,rfl⟩
      ·rintro σ H5 zzq
       refine zzP fun zzM zzh=>?_
       obtain ⟨rfl,bb,x8,hbb,rfl⟩:=zzq
       subst zzh
       rw [List.length_map,List.take_length] at hbb
       exact hD _ _ ⟨rfl,bb,x8,hbb,rfl⟩
     rintro σ5 H5 ⟨rfl,bb,x8,hbb,rfl⟩
     subst zzh
     dsimp only
     refine Zb bb (fun Q hQ=>?_) (fun hb=>?_) (fun hb=>?_)
     ·(walk_at "RD")
      exact hQ
     ·obtain ⟨y1,y2⟩:=hbb hb
      (walk_at "RD")
      refine ⟨.inl ⟨_,SqL.of w4⟩,_,w4,Nat.lt_of_le_of_lt (show (fs.map fun k:Nat=>V.int k).length ≤ 8 by rw [List.length_map];omega) (by decide),s4.updN hfl,n4.upd,G4.off hfg hfq,⟨fs ++ [j],by rw [db,List.map_append];rfl,by rw [List.length_append];show fs.length + 1 ≤ j + 1;omega,fun f hf=>?_⟩,?_⟩
      ·rcases List.mem_append.mp hf with z | z
       ·exact hgood f z
       ·rw [List.mem_singleton.mp z]
        refine ⟨g,hgj,fun i hi e he=>⟨y2 i hi e he,?_,kx (SG.al g hgm i hi g0 hg0 e d0 he hd0) y1⟩⟩
        have o1:=(D.al e (List.mem_of_getElem? he)).1
        have:=rA o1.st o1.fi hd.st hd.fi o1.ne hd.ne
        exact (this.symm.trans (y2 i hi e he):mt n d e=false)
      ·exact ⟨_,rfl⟩
     ·simp only [Zd]
      exact ⟨s4,n4,G4,⟨fs,w4,by omega,hgood⟩,_,_,_,rfl⟩
    ·rintro σ H3 zzq
     refine zzP fun zzM zzh=>?_
     obtain ⟨s4,n4,G4,⟨fs,w4,hfs,hgood⟩,x6,x7,x8,rfl⟩:=zzq
     subst zzh
     exact hD _ _ ⟨s4,n4,G4,⟨fs,w4,hfs,hgood⟩,_,_,_,rfl⟩
   rintro σ3 H3 ⟨s4,n4,G4,⟨fs,w4,hfs,hgood⟩,x6,x7,x8,rfl⟩
   have sH:=s2.trans s4
   have S4:=S.same sH
   have hqg:(qs.map V.ref).length=gs.length:=by rw [List.length_map,G.h2]
   subst zzh
   dsimp only
   refine Zb (decide (0 < fs.length) && decide (0 < og ns (100 + (k:Int)) 3)) (fun Q hQ=>?_) (fun hb=>?_) (fun hb=>?_)
   ·(walk_at "RD")
    refine ⟨_,.inl (SqL.of w4),?_⟩
    rw [List.length_map]
    by_cases c0:0 < fs.length
    ·rw [if_pos (decide_eq_true (by omega))]
     rw [decide_eq_true c0,Bool.true_and] at hQ
     exact ⟨a,ns,_,_,rfl,h63,S4,⟨by omega,by omega⟩,by decide,_,rfl,hQ⟩
    ·rw [if_neg (by rw [decide_eq_true_eq];omega)]
     rw [decide_eq_false c0,Bool.false_and] at hQ
     exact hQ
   ·rw [Bool.and_eq_true,decide_eq_true_eq] at hb
    have e1:=Md ns (110 + (k:Int)) (m:=(fs.length:Int)) (by omega)
    have e2:=Od ns (110 + (k:Int)) (m:=(fs.length:Int)) (by omega)
    obtain ⟨u,hu⟩:∃ u:Nat,og ns (110 + (k:Int)) (fs.length:Int)=(u:Int):=⟨_,(Int.toNat_of_nonneg e1).symm⟩
    have hul:u < fs.length:=by omega
    have hfu:fs[u]? = some fs[u]:=List.getElem?_eq_getElem hul
    generalize hff:fs[u]=f at hfu
    obtain ⟨g,hgf,hgd⟩:=hgood f (List.mem_of_getElem? hfu)
    have hfl':f < gs.length:=(List.getElem?_eq_some_iff.mp hgf).1
    have hqf:qs[f]? = some (qs[f]'(by rw [G.h2];exact hfl')):=List.getElem?_eq_getElem _
    generalize qs[f]'(by rw [G.h2];exact hfl')=qf at hqf
    have eqf:=G4.h5 f qf g hqf hgf
    have aqf:=Fb (xs:=qs.map V.ref) (j:=f) (by rw [List.getElem?_map,hqf];rfl)
    have afu:=Fb (xs:=fs.map fun k:Nat=>V.int k) (j:=u) (v:=.int (f:Int)) (by rw [List.getElem?_map,hfu];rfl)
    have hgl8:=SG.glen (List.mem_of_getElem? hgf)
    have p1:=Md ns (160 + (k:Int)) (m:=(g.length:Int) + 1) (by omega)
    have p2:=Od ns (160 + (k:Int)) (m:=(g.length:Int) + 1) (by omega)
    (walk_at "RD")
    obtain ⟨v,hv⟩:∃ v:Nat,og ns (160 + (k:Int)) ((g.length:Int) + 1)=(v:Int):=⟨_,(Int.toNat_of_nonneg p1).symm⟩
    refine ⟨_,.inl (SqL.of w4),?_⟩
    rw [List.length_map]
    refine ⟨a,ns,_,_,rfl,h63,S4,⟨by omega,by omega⟩,by omega,?_⟩
    rw [hu]
    refine ⟨_,_,rfl,SqL.of w4,_,afu,_,_,rfl,SqL.of G4.h1,_,aqf,.inl ⟨_,SqL.of eqf⟩,_,_,rfl,SqL.of G4.h1,_,aqf,_,rfl,_,.inl (SqL.of eqf),?_⟩
    rw [List.length_map]
    refine ⟨a,ns,_,_,rfl,h63,S4,⟨by omega,by omega⟩,by omega,qf,rfl,_,_,rfl,eqf,?_⟩
    rw [hv,Int.toNat_natCast]
    have hvg:v ≤ g.length:=by omega
    have em:(g.map fun k:Nat=>V.int k).take v ++ V.int (k:Int) :: (g.map fun k:Nat=>V.int k).drop v=(ins g v k).map fun k:Nat=>V.int k:=(bD (fun k:Nat=>V.int k) g v k).symm
    refine ⟨by omega,by omega,by rw [List.length_map];omega,Nat.lt_of_le_of_lt (show (g.map fun k:Nat=>V.int k).length ≤ 8 by rw [List.length_map];omega) (by decide),sH.updN (G4.h6 qf (List.mem_of_getElem? hqf)),n4.upd,?_,_,rfl⟩
    rw [em]
    exact ⟨qs,_,G4.put hqf hfl',SG.put hgf hdk hgd⟩
   ·have p1:=Md ns (120 + (k:Int)) (m:=(gs.length:Int) + 1) (by omega)
    have p2:=Od ns (120 + (k:Int)) (m:=(gs.length:Int) + 1) (by omega)
    (walk_at "RD")
    obtain ⟨v,hv⟩:∃ v:Nat,og ns (120 + (k:Int)) ((gs.length:Int) + 1)=(v:Int):=⟨_,(Int.toNat_of_nonneg p1).symm⟩
    refine ⟨.inl ⟨_,SqL.of G4.h1⟩,_,.inl (SqL.of G4.h1),?_⟩
    rw [hqg]
    refine ⟨a,ns,_,_,rfl,h63,S4,⟨by omega,by omega⟩,by omega,by decide,fun p hp=>⟨_,_,rfl,(pb hp) _ _ G4.h1,?_⟩⟩
    rw [hv,Int.toNat_natCast]
    have hvg:v ≤ gs.length:=by omega
    have em:(qs.map V.ref).take v ++ V.ref p :: (qs.map V.ref).drop v=(ins qs v p).map V.ref:=(bD V.ref qs v p).symm
    refine ⟨by omega,by omega,by rw [hqg];omega,Nat.lt_of_le_of_lt (show (qs.map V.ref).length ≤ 8 by rw [hqg];omega) (by decide),(sH.trans (pb hp)).updN hgl,(n4.upd).upd,?_,_,rfl⟩
    rw [em]
    exact ⟨_,_,G4.new (g:=[k]) sH hp hvg,SG.new v⟩
  ·rintro σ H' zzq
   refine zzP fun zzM zzh=>?_
   obtain ⟨s2,n2,⟨qs,gs,G,SG⟩,x4,x5,x6,x7,x8,rfl⟩:=zzq
   subst zzh
   exact hD _ _ ⟨s2,n2,⟨qs,gs,G,SG⟩,_,_,_,_,_,rfl⟩
 rintro σ2 H2 ⟨s2,n2,⟨qs,gs,G,SG⟩,x4,x5,x6,x7,x8,rfl⟩
 subst zzh
 simp only [Bb]
 refine zzC (fun σ' H'=>Vb H2 H'∧NoT H'∧∃ sl,H2 sl=none∧H' sl=some (.lst [])∧σ'=[some (.ref a),some (.int n),some (.ref wl),some (.ref gl),x4,x5,x6,x7,x8,some (.ref sl),none,none]) (fun D' hD=>?_) fun zzM zzh=>?_
 ·(walk_at "RD")
  exact ⟨Nat.zero_le _,fun sl hsl=>hD _ _ ⟨pb hsl,n2.upd,sl,hsl,db,rfl⟩⟩
 rintro σ3 H3 ⟨s3,n3,sl,hsl,w3,rfl⟩
 have gl8:=SG.len
 have hqg:(qs.map V.ref).length=gs.length:=by rw [List.length_map,G.h2]
 subst zzh
 simp only [Bb]
 refine zzC (fun σ' H'=>Vb H2 H'∧NoT H'∧(∃ qt sts,ZE H' sl qt qs sts∧uM n ds sts)∧∃ x6 x8 x10 x11,σ'=[some (.ref a),some (.int n),some (.ref wl),some (.ref gl),x4,x5,x6,x7,x8,some (.ref sl),x10,x11]) (fun D' hD=>?_) fun zzM zzh=>?_
 ·(walk_at "RD")
  refine ⟨_,.inl (SqL.of (s3 _ _ G.h1)),by omega,by rw [hqg];omega,?_⟩
  rw [show (((qs.map V.ref).length:Nat):Int).toNat=gs.length by rw [hqg];rfl]
  refine Fi.range (fun j σ H'=>Vb H2 H'∧NoT H'∧(∃ (qt:List Addr) (sts:List SX),H' sl=some (.lst (qt.map V.ref))∧qt.length=j∧sts.length=j∧(∀ (i:Nat) (q:Addr) (s:SX),qt[i]? = some q→sts[i]? = some s→∃ m,qs[i]? = some m∧H' q=some (.tup [.int s.lo,.int s.hi,.ref m]))∧sts.map (·.ix)=gs.take j∧∀ s ∈ sts,(∀ i ∈ s.ix,∀ d,ds[i]? = some d→d.least ≤ s.lo)∧1 ≤ s.lo∧s.lo ≤ 21∧s.lo ≤ s.hi∧s.hi ≤ 40)∧∃ x6 x8 x10 x11,σ=[some (.ref a),some (.int n),some (.ref wl),some (.ref gl),x4,x5,x6,x7,x8,some (.ref sl),x10,x11]) ⟨s3,n3,⟨[],[],w3,rfl,rfl,fun i q s h=>by simp at h,by rw [List.take_zero];rfl,fun s h=>by simp at h⟩,_,_,_,_,rfl⟩ ?_ ?_
  ·rintro j σ H' hj zzq
   refine zzP fun zzM zzh=>?_
   obtain ⟨s4,n4,⟨qt,sts,w4,hqt,hst,hal,hix,hbd⟩,x6,x8,x10,x11,rfl⟩:=zzq
   have hgj:gs[j]? = some gs[j]:=List.getElem?_eq_getElem hj
   have hqj:qs[j]? = some (qs[j]'(by rw [G.h2];exact hj)):=List.getElem?_eq_getElem _
   subst zzh
   generalize qs[j]'(by rw [G.h2];exact hj)=qj at hqj
   generalize hgg:gs[j]=g at hgj
   have hgm:=List.mem_of_getElem? hgj
   have hin:∀ i ∈ g,∃ e,ds[i]? = some e:=fun i hi=>⟨_,List.getElem?_eq_getElem (SG.lt hgm hi)⟩
   have G4:=G.same s4
   have eqj:=G4.h5 j qj g hqj hgj
   have aqj:=Fb (xs:=qs.map V.ref) (j:=j) (by rw [List.getElem?_map,hqj];rfl)
   have sH:=s2.trans s4
   have S4:=S.same sH
   have l14:=sH _ _ l1
   have hg8:=SG.glen hgm
   obtain ⟨la,hla⟩:∃ la:Nat→Int,la=fun i=>((ds[i]?).map (·.least)).getD 0:=⟨_,rfl⟩
   have hlaE:∀ i e,ds[i]? = some e→la i=e.least:=fun i e he=>by rw [hla];show ((ds[i]?).map (·.least)).getD 0=_;rw [he];rfl
   obtain ⟨mx,hm1,hm2⟩:=tz (g.map la) (fun z=>SG.ne g hgm (List.map_eq_nil_iff.mp z))
   have hmx:1 ≤ mx∧mx ≤ 4:=by
    obtain ⟨i,hi,rfl⟩:=List.mem_map.mp hm1
    obtain ⟨e,he⟩:=hin i hi
    rw [hlaE i e he]
    exact ⟨(D.al e (List.mem_of_getElem? he)).1.le.1,hle e (List.mem_of_getElem? he)⟩
   have d1:=Md ns (130 + (j:Int)) (m:=3) (by decide)
   have d2:=Od ns (130 + (j:Int)) (m:=3) (by decide)
   simp only [qe,Bb,List.set_cons_succ,List.set_cons_zero,Int.zero_add]
   refine zzC (fun σ' H4=>Vb H' H4∧NoT H4∧∃ lo:Int,(mx ≤ lo∧lo ≤ mx + 2)∧σ'=[some (.ref a),some (.int n),some (.ref wl),some (.ref gl),x4,x5,some (.int (j:Int)),x7,x8,some (.ref sl),some (.int lo),x11]) (fun D' hD=>?_) fun zzM zzh=>?_
   ·(walk_at "RD")
    refine ⟨_,SqL.of G4.h1,_,aqj,_,rfl,⟨_,SqL.of eqj⟩,?_⟩
    refine ad.list_zs (xs:=g.map fun k:Nat=>V.int k) (zs:=(g.map la).map V.int) (SqL.of eqj) (Nat.le_trans (show (g.map fun k:Nat=>V.int k).length ≤ 8 by rw [List.length_map];omega) (by decide)) (by rw [List.length_map,List.length_map,List.length_map]) (fun l v z N hv hz hN=>?_) (fun pl hpl=>?_)
    ·obtain ⟨i,hi,rfl⟩:=Mb hv
     obtain ⟨y,hy,rfl⟩:=Mb hz
     obtain ⟨i',hi',rfl⟩:=Mb hy
     rw [hi] at hi'
     cases hi'
     obtain ⟨e,he⟩:=hin i (List.mem_of_getElem? hi)
     obtain ⟨wi,ai,ewi⟩:=wAt i e he
     rw [hlaE i e he] at hN
     (walk_at "RD")
     exact ⟨Sub.name,_,SqL.of l14,_,ai,_,rfl,_,SqT.of (sH _ _ ewi),_,Fb (j:=6) rfl,hN⟩
    ·have sP:=pb (o:=.lst ((g.map la).map V.int)) hpl
     refine ⟨_,rfl,_,SqL.of db,mx,hm1,hm2,a,ns,_,_,rfl,h63,S4.same sP,⟨by omega,by omega⟩,by decide,_,rfl,hD _ _ ⟨sP,n4.upd,_,⟨by omega,by omega⟩,rfl⟩⟩
   rintro σ4 H4 ⟨s5,n5,lo0,hlo0,rfl⟩
   have S5:=S4.same s5
   subst zzh
   simp only [Bb]
   refine zzC (fun σ' H5=>H5=H4∧∃ lo:Int,(mx ≤ lo∧lo ≤ 21)∧σ'=[some (.ref a),some (.int n),some (.ref wl),some (.ref gl),x4,x5,some (.int (j:Int)),x7,x8,some (.ref sl),some (.int lo),x11]) (fun D' hD=>?_) fun zzM zzh=>?_
   ·refine Zb (decide (og ns (150 + (j:Int)) 12=0)) (fun Q hQ=>?_) (fun _=>?_) (fun _=>?_)
    ·(walk_at "RD")
     refine ⟨a,ns,_,_,rfl,h63,S5,⟨by omega,by omega⟩,by decide,rfl,?_⟩
     rw [show decide (V.int (og ns (150 + (j:Int)) 12)=V.int 0)=decide (og ns (150 + (j:Int)) 12=0) from decide_eq_decide.mpr (by simp)]
     exact hQ
    ·(walk_at "RD")
     exact hD _ _ ⟨rfl,_,by omega,rfl⟩
    ·simp only [Zd]
     exact hD _ _ ⟨rfl,_,by omega,rfl⟩
   rintro σ5 H5 ⟨rfl,lo,hlo,rfl⟩
   have m1:=Md ns (180 + (j:Int)) (m:=6) (by decide)
   have m2:=Od ns (180 + (j:Int)) (m:=6) (by decide)
   subst zzh
   simp only [Bb]
   refine zzC (fun σ' H6=>Vb H5 H6∧NoT H6∧∃ mo:Int,(1 ≤ mo∧mo ≤ 20)∧σ'=[some (.ref a),some (.int n),some (.ref wl),some (.ref gl),x4,x5,some (.int (j:Int)),x7,x8,some (.ref sl),some (.int lo),some (.int mo)]) (fun D' hD=>?_) fun zzM zzh=>?_
   ·obtain ⟨mo,hmo,hat⟩:=BM m1 m2
    (walk_at "RD")
    exact ⟨by decide,fun p hp=>⟨a,ns,_,_,rfl,h63,S5.same (pb hp),⟨by omega,by omega⟩,by decide,_,_,rfl,SqL.of db,_,hat,hD _ _ ⟨pb hp,n5.upd,mo,hmo,rfl⟩⟩⟩
   rintro σ6 H6 ⟨s6,n6,mo,hmo,rfl⟩
   have s46:=s5.trans s6
   have S6:=S5.same s6
   have w6:=s46 _ _ w4
   have y1:=Md ns (140 + (j:Int)) (m:=mo) (by omega)
   have y2:=Od ns (140 + (j:Int)) (m:=mo) (by omega)
   subst zzh
   (walk_at "RD")
   refine ⟨.inl ⟨_,SqL.of w6⟩,a,ns,_,_,rfl,h63,S6,⟨by omega,by omega⟩,by omega,_,rfl,_,SqL.of (s46 _ _ G4.h1),_,aqj,by decide,fun p hp=>⟨_,(pb hp) _ _ w6,Nat.lt_of_le_of_lt (show (qt.map V.ref).length ≤ 8 by rw [List.length_map];omega) (by decide),((s4.trans s46).trans (pb hp)).updN hsl,(n6.upd).upd,⟨qt ++ [p],by rw [db,List.map_append];rfl,by rw [List.length_append,hqt];rfl,sts ++ [⟨lo,lo + og ns (140 + (j:Int)) mo,g⟩],by rw [List.length_append,hst];rfl,fun i q s a1 a2=>?_,?_,fun s hs=>?_⟩,?_⟩⟩
   ·have hps:sl ≠ p:=vb w6 hp
    rcases vg a1 with ⟨b1,b2⟩ | ⟨b1,rfl⟩
    ·rcases vg a2 with ⟨c1,c2⟩ | ⟨c1,_⟩
     ·obtain ⟨m,hm,e⟩:=hal i q s b2 c2
      have e6:=s46 _ _ e
      refine ⟨m,hm,?_⟩
      rw [lb (Vd e6 w6 (by intro z;cases z)),lb (vb e6 hp)]
      exact e6
     ·omega
    ·rcases vg a2 with ⟨c1,_⟩ | ⟨_,rfl⟩
     ·omega
     ·refine ⟨qj,by rw [b1,hqt];exact hqj,?_⟩
      rw [lb (Ne.symm hps),db]
   ·rw [List.map_append,hix,List.take_add_one,hgj]
    rfl
   ·rcases List.mem_append.mp hs with z | z
    ·exact hbd s z
    ·rw [List.mem_singleton.mp z]
     refine ⟨fun i hi e he=>?_,by show 1 ≤ lo;omega,hlo.2,by show lo ≤ lo + og ns (140 + (j:Int)) mo;omega,by show lo + og ns (140 + (j:Int)) mo ≤ 40;omega⟩
     have:=hm2 (la i) (List.mem_map.mpr ⟨i,hi,rfl⟩)
     rw [hlaE i e he] at this
     show e.least ≤ lo
     omega
   ·repeat (first | exact ⟨_,rfl⟩ | refine ⟨⟨_,rfl⟩,?_⟩)
  ·rintro σ H' zzq
   refine zzP fun zzM zzh=>?_
   obtain ⟨s4,n4,⟨qt,sts,w4,hqt,hst,hal,hix,hbd⟩,x6,x8,x10,x11,rfl⟩:=zzq
   subst zzh
   rw [List.take_length] at hix
   have G4:=G.same s4
   refine hD _ _ ⟨s4,n4,⟨qt,sts,⟨w4,by omega,by rw [G.h2];omega,fun i q m s a1 a2 a3=>?_⟩,⟨by rw [hix];exact SG,fun s hs=>(hbd s hs).1,fun s hs=>(hbd s hs).2⟩⟩,_,_,_,_,rfl⟩
   obtain ⟨m',hm',e⟩:=hal i q s a1 a3
   rw [a2] at hm'
   cases hm'
   refine ⟨e,G4.h5 i m s.ix a2 ?_⟩
   rw [← hix,List.getElem?_map,a3]
   rfl
 rintro σ4 H4 ⟨s4,n4,⟨qt,sts,SQ,S30⟩,x6,x8,x10,x11,rfl⟩
 subst zzh
 (walk_at "RD")
 exact q sl qt qs sts H4 (s2.trans s4) n4 SQ S30
end
end My
namespace My
open PySem L2
noncomputable def nmI (ds:List WD) (i:Nat):Str:=((ds[i]?).map (·.name)).getD (Str.ofString "")
noncomputable def Ji (ds:List WD) (s:SX):List Str:=s.ix.map (nmI ds)
noncomputable def Ad (ds:List WD) (s:SX):List Str:=[Str.ofString "stage",num s.lo,num s.hi] ++ Ji ds s
noncomputable def Wd (ds:List WD) (sts:List SX):List (List Str):=sts.map (Ad ds)
noncomputable def Vq (ds:List WD) (sts:List SX):Str:=Str.join nl ((Wd ds sts).map (Str.join bk))
structure MM (ds:List WD) (sts:List SX):Prop where
 ln:sts.length ≤ 8
 bd:∀ s ∈ sts,(0 ≤ s.lo∧s.lo < 1000)∧(0 ≤ s.hi∧s.hi < 1000)∧s.ix ≠ []∧s.ix.length ≤ 8∧∀ i ∈ s.ix,∃ d,ds[i]? = some d
 nm:∀ d ∈ ds,d.name.length ≤ 8
theorem rG (ds:List WD) (s:SX) (h:s.ix ≠ []):Str.ofString "stage " ++ num s.lo ++ Str.ofString " " ++ num s.hi ++ Str.ofString " " ++ Str.join bk (Ji ds s)=Str.join bk (Ad ds s):=by
 apply Fu
 have e1:(Str.ofString "stage ").cps.toList=[115,116,97,103,101,32]:=by decide +kernel
 have e2:(Str.ofString "stage").cps.toList=[115,116,97,103,101]:=by decide +kernel
 have e3:(Str.ofString " ").cps.toList=[32]:=by decide +kernel
 unfold Ad Ji
 obtain ⟨i,r,hc⟩:=List.exists_cons_of_ne_nil h
 rw [hc,YF,Qj]
 simp only [Str.cps_append,Array.toList_append,Qj,List.map_cons,List.map_nil,List.cons_append,List.nil_append,jl,e1,e2,e3,List.append_assoc]
noncomputable def Ky:Sp:=fun vs H Q _=>∃ wl ds sl qs ms sts,vs=[.ref wl,.ref sl]∧LW H wl ds∧ZE H sl qs ms sts∧MM ds sts∧NoT H∧Q (.str (Vq ds sts)) H
noncomputable def AE:Sp:=fun vs H Q _=>∃ wl ds sl qs ms sts,vs=[.ref wl,.ref sl]∧LW H wl ds∧ZE H sl qs ms sts∧MM ds sts∧∀ H',Vb H H'→Q (.str (Vq ds sts)) H'
section
variable {P:Program} {w:World} {K:PySem.W.Frag} {mg:Str→Option Value} {base:Heap} {t:Adr}
theorem zG (T:Txt w K mg t):Jb P w K mg base CX0 1 t.re t.pe ["_law_ways_here","_law_stages_here"] Ky:=by
 refine Jb.forget (sp:=AE) ?_ fun vs H Q E h=>?_
 ·refine T.jf.ok vd (fun vs H Q E h=>?_) (fun cdv A outer s H vs Q E hr h=>?_)
  ·obtain ⟨wl,ds,sl,qs,ms,sts,rfl,_⟩:=h;rfl
  obtain ⟨wl,ds,sl,qs,ms,sts,rfl,⟨ql,l1,l2,lal⟩,SQ,X,q⟩:=h
  have hX:=X.ln
  have wAt:∀ (i:Nat) (d:WD),ds[i]? = some d→∃ wq,atI (ql.map V.ref) (i:Int)=some (.ref wq)∧H wq=some (.tup (yp d)):=fun i d hd=>by
   have hqi:ql[i]? = some (ql[i]'(by rw [l2];exact (List.getElem?_eq_some_iff.mp hd).1)):=List.getElem?_eq_getElem _
   exact ⟨_,Fb (by rw [List.getElem?_map,hqi];rfl),lal i _ d hqi hd⟩
  have bigT:∀ k:Nat,k ≤ 1000→k ≤ sizeLine:=fun k h=>Nat.le_trans h (by decide)
  refine ⟨_,(fb (Eb (i:=2) vd.nd rfl (Or.inl rfl) (se gb))
   (fb (Xd PassesOwn.never rfl (Kc (pv 1)) (Hf (K:=K) (n:=3) rfl rfl (Ob (zb (i:=3) vd.nd rfl (Or.inl rfl) (.inl rfl)) (Ob (zb (i:=4) vd.nd rfl (Or.inl rfl) (.inl rfl)) (Ob (zb (i:=5) vd.nd rfl (Or.inl rfl) (.inl rfl)) Ff)))) (ib (Qb (Df PySem.F.plainAttrs_list PySem.F.slot_list_append PySem.F.type_list_append yd (pv 2) (cb (Nb qd (Nb qd (Nb qd (Nb qd (Nb qd ic (fg dg rfl T.cE zi (cb (pv 3) gb))) ic) (fg dg rfl T.cE zi (cb (pv 4) gb))) ic) (Df PySem.F.plainAttrs_str PySem.F.slot_str_join PySem.F.type_str_join Lp ic (cb (Td rfl (Kc (pv 5)) (Bc (sc:=qb xf) rfl (by decide +kernel)) (N:=["_law_i","_law_ways_here"]) (sel:=[none,some 0]) (Uc (M:=["_law_ways_here","_law_stages_here","_law_rows","_law_low","_law_high","_law_some"]) (by decide +kernel)) (Blk.of (fun _ _ _ _=>(zb (i:=0) (Je (N:=["_law_i","_law_ways_here"]) (by decide +kernel) rfl) rfl (Or.inl rfl))) (fun _ _ _ _=>⟨_,Ee,by first | rfl | (dsimp only [Cx.block];done) | (dsimp only [Cx.block];exact rfl)⟩) (fun _ _ _ _=>⟨_,(lc sd (lc bc (pv 1) (pv 0) (fun _ _=>rfl)) jb (fun _ _=>rfl)),by first | rfl | (dsimp only [Cx.block];done) | (dsimp only [Cx.block];exact rfl)⟩))) gb))) gb)))))
   (ib (Kb (Df PySem.F.plainAttrs_str PySem.F.slot_str_join PySem.F.type_str_join Lp ic (cb (pv 2) gb)))))),?_⟩
  simp only [Bb]
  refine zzC (fun σ' H'=>Vb H H'∧∃ rl,H rl=none∧H' rl=some (.lst (wb []))∧σ'=[some (.ref wl),some (.ref sl),some (.ref rl),none,none,none]) (fun D' hD=>?_) fun zzM zzh=>?_
  ·(walk_at "RD")
   exact ⟨Nat.zero_le _,fun rl hrl=>hD _ _ ⟨pb hrl,rl,hrl,db,rfl⟩⟩
  rintro σ1 H1 ⟨s1,rl,hrl,w1,rfl⟩
  subst zzh
  simp only [Bb]
  refine zzC (fun σ' H'=>Vb H H'∧H' rl=some (.lst (wb ((Wd ds sts).map (Str.join bk))))∧∃ x3 x4 x5,σ'=[some (.ref wl),some (.ref sl),some (.ref rl),x3,x4,x5]) (fun D' hD=>?_) fun zzM zzh=>?_
  ·(walk_at "RD")
   refine ⟨⟨_,SqL.of (s1 _ _ SQ.at_)⟩,?_⟩
   refine Fi.list (xs:=qs.map V.ref) (fun i σ H'=>Vb H H'∧H' rl=some (.lst (wb ((Wd ds (sts.take i)).map (Str.join bk))))∧∃ x3 x4 x5,σ=[some (.ref wl),some (.ref sl),some (.ref rl),x3,x4,x5]) ?_ ?_ ?_ ?_
   ·exact ⟨s1,by rw [List.take_zero];exact w1,_,_,_,rfl⟩
   ·rintro i σ H' hi ⟨sm,_⟩
    exact SqL.of (sm _ _ SQ.at_)
   ·rintro i v σ H' hv zzq
    refine zzP fun zzM zzh=>?_
    obtain ⟨sm,w2,x3,x4,x5,rfl⟩:=zzq
    obtain ⟨qi,hqi,rfl⟩:=Mb hv
    have hi:i < sts.length:=by rw [← SQ.l1];exact (List.getElem?_eq_some_iff.mp hqi).1
    have hsi:sts[i]? = some sts[i]:=List.getElem?_eq_getElem hi
    have hmi:ms[i]? = some (ms[i]'(by rw [SQ.l2];exact hi)):=List.getElem?_eq_getElem _
    obtain ⟨e1,e2⟩:=SQ.al i qi _ _ hqi hmi hsi
    subst zzh
    generalize ms[i]'(by rw [SQ.l2];exact hi)=m at hmi e1 e2
    generalize hss:sts[i]=s at hsi e1 e2
    obtain ⟨blo,bhi,bne,bln,bix⟩:=X.bd s (List.mem_of_getElem? hsi)
    have h1:=cq (n:=s.lo) (by omega) (by omega)
    have h2:=cq (n:=s.hi) (by omega) (by omega)
    have t1:(Str.ofString "stage ").length=6:=by decide +kernel
    have t2:(Str.ofString " ").length=1:=by decide +kernel
    have hmem:∀ y ∈ Ji ds s,y.length ≤ 8:=fun y hy=>by
     obtain ⟨k,hk,rfl⟩:=List.mem_map.mp hy
     obtain ⟨d,hd⟩:=bix k hk
     unfold nmI
     rw [hd]
     exact X.nm d (List.mem_of_getElem? hd)
    have hjl:(Str.join bk (Ji ds s)).length ≤ 100:=by
     have:=Yi bk 8 (Ji ds s) hmem
     rw [Sn] at this
     have hl:(Ji ds s).length=s.ix.length:=by unfold Ji;rw [List.length_map]
     have:(Ji ds s).length * 9 ≤ 72:=by omega
     omega
    (walk_at "RD")
    refine ⟨_,SqT.of (sm _ _ e1),rfl,_,_,rfl,_,_,rfl,_,_,rfl,rfl,.inl ⟨_,SqL.of w2⟩,_,rfl,Gn (by omega),bigT _ (by rw [t1];omega),bigT _ (by simp only [Uh,t1,t2];omega),_,rfl,Gn (by omega),bigT _ (by simp only [Uh,t1,t2];omega),bigT _ (by simp only [Uh,t1,t2];omega),m,rfl,⟨_,SqL.of (sm _ _ e2)⟩,?_⟩
    refine ad.list_zs (xs:=s.ix.map fun k:Nat=>V.int k) (zs:=wb (Ji ds s)) (SqL.of (sm _ _ e2)) (Nat.le_trans (show (s.ix.map fun k:Nat=>V.int k).length ≤ 8 by rw [List.length_map];exact bln) (by decide)) (by rw [Rb,List.length_map];unfold Ji;rw [List.length_map]) (fun l v z N hv hz hN=>?_) (fun pl hpl=>?_)
    ·obtain ⟨k,hk,rfl⟩:=Mb hv
     unfold wb Ji at hz
     obtain ⟨y,hy,rfl⟩:=Mb hz
     obtain ⟨k',hk',rfl⟩:=Mb hy
     rw [hk] at hk'
     cases hk'
     obtain ⟨d,hd⟩:=bix k (List.mem_of_getElem? hk)
     obtain ⟨wq,aq,eq⟩:=wAt k d hd
     have hnk:nmI ds k=d.name:=by unfold nmI;rw [hd];rfl
     rw [hnk] at hN
     (walk_at "RD")
     exact ⟨Sub.name,_,SqL.of (sm _ _ l1),_,aq,_,rfl,_,SqT.of (sm _ _ eq),_,Fb (j:=1) rfl,hN⟩
    ·have hml:(Ji ds s).length ≤ 8:=by unfold Ji;rw [List.length_map];exact bln
     refine ⟨pl,rfl,Ji ds s,SqL.of db,?_,?_⟩
     ·have:=dz hmem
      rw [t2]
      omega
     ·rw [show Txt.join (Str.ofString " ") (Ji ds s)=Str.join bk (Ji ds s) from StrLaws.glued_eq_join _ _]
      have hrow:=rG ds s bne
      have hil:(wb ((Wd ds (sts.take i)).map (Str.join bk))).length ≤ 8:=by
       unfold wb Wd
       rw [List.length_map,List.length_map,List.length_map,List.length_take]
       omega
      refine ⟨bigT _ (by simp only [Uh,t1,t2];omega),_,(pb hpl) _ _ w2,Nat.lt_of_le_of_lt hil (by decide),(sm.trans (pb hpl)).updN hrl,?_,?_⟩
      ·rw [db,hrow,List.take_add_one,hsi]
       unfold Wd wb
       rw [List.map_append,List.map_append,List.map_append]
       rfl
      ·repeat (first | exact ⟨_,rfl⟩ | refine ⟨⟨_,rfl⟩,?_⟩)
   ·rintro σ H' zzq
    refine zzP fun zzM zzh=>?_
    obtain ⟨sm,w2,x3,x4,x5,rfl⟩:=zzq
    subst zzh
    rw [List.length_map,SQ.l1,List.take_length] at w2
    exact hD _ _ ⟨sm,w2,_,_,_,rfl⟩
  rintro σ2 H2 ⟨s2,w2,x3,x4,x5,rfl⟩
  subst zzh
  (walk_at "RD")
  have hB:∀ y ∈ (Wd ds sts).map (Str.join bk),y.length ≤ 200:=fun y hy=>by
   obtain ⟨r,hr',rfl⟩:=List.mem_map.mp hy
   obtain ⟨s,hs,rfl⟩:=List.mem_map.mp hr'
   obtain ⟨blo,bhi,bne,bln,bix⟩:=X.bd s hs
   have h1:=cq (n:=s.lo) (by omega) (by omega)
   have h2:=cq (n:=s.hi) (by omega) (by omega)
   have hmem:∀ y ∈ Ad ds s,y.length ≤ 8:=fun y hy=>by
    unfold Ad at hy
    rcases List.mem_append.mp hy with z | z
    ·have z:y=Str.ofString "stage" ∨ y=num s.lo∨y=num s.hi:=by simpa using z
     rcases z with rfl | rfl | rfl
     ·decide +kernel
     ·exact Nat.le_trans h1 (by decide)
     ·exact Nat.le_trans h2 (by decide)
    ·obtain ⟨k,hk,rfl⟩:=List.mem_map.mp z
     obtain ⟨d,hd⟩:=bix k hk
     unfold nmI
     rw [hd]
     exact X.nm d (List.mem_of_getElem? hd)
   have:=Yi bk 8 (Ad ds s) hmem
   rw [Sn] at this
   have hl:(Ad ds s).length ≤ 11:=by
    unfold Ad Ji
    rw [List.length_append,List.length_map]
    show 3 + s.ix.length ≤ 11
    omega
   omega
  refine ⟨_,SqL.of w2,?_,?_⟩
  ·have:=dz hB
   rw [show (Str.ofString "\n").length=1 by decide +kernel]
   have hl:((Wd ds sts).map (Str.join bk)).length ≤ 8:=by
    unfold Wd
    rw [List.length_map,List.length_map]
    exact hX
   omega
  ·rw [show Txt.join (Str.ofString "\n") ((Wd ds sts).map (Str.join bk))=Str.join nl ((Wd ds sts).map (Str.join bk)) from StrLaws.glued_eq_join _ _]
   exact q _ s2
 ·obtain ⟨wl,ds,sl,qs,ms,sts,rfl,L,SQ,X,nt,q⟩:=h
  exact ⟨nt,wl,ds,sl,qs,ms,sts,rfl,L,SQ,X,fun H' sm=>⟨sm,q⟩⟩
end
end My
namespace My
open PySem L2
noncomputable def fH (ds:List WD) (s:SX):ST:=⟨s.lo,s.hi,Ji ds s⟩
noncomputable def Bf (ds:List WD) (sts:List SX):List ST:=sts.map (fH ds)
theorem Cf {ds:List WD} {i:Nat} {d:WD} (h:ds[i]? = some d):nmI ds i=d.name:=by unfold nmI;rw [h];rfl
theorem Tx {ds:List WD} (nd:(ds.map (·.name)).Nodup) {i j:Nat} (hi:i < ds.length) (hj:j < ds.length) (e:nmI ds i=nmI ds j):i=j:=by
 rw [Cf (List.getElem?_eq_getElem hi),Cf (List.getElem?_eq_getElem hj)] at e
 exact jt nd hi hj (by rw [Eo (List.getElem?_eq_getElem hi),Eo (List.getElem?_eq_getElem hj)];exact e)
structure P30 (n:Int) (ds:List WD) (sts:List SX):Prop where
 nd:(ds.map (·.name)).Nodup
 s30:uM n ds sts
 l6:ds.length ≤ 6
 l1:1 ≤ ds.length
 ok:∀ d ∈ ds,WOk n d
theorem P30.fl {n:Int} {ds:List WD} {sts:List SX} (h:P30 n ds sts):(sts.map (·.ix)).flatten.Nodup:=h.s30.sg.pm.nodup_iff.mpr List.nodup_range
theorem P30.lt {n:Int} {ds:List WD} {sts:List SX} (h:P30 n ds sts) {s:SX} (hs:s ∈ sts) {i:Nat} (hi:i ∈ s.ix):i < ds.length:=h.s30.sg.lt (List.mem_map.mpr ⟨s,hs,rfl⟩) hi
theorem P30.len {n:Int} {ds:List WD} {sts:List SX} (h:P30 n ds sts):sts.length ≤ 6:=by
 have:=h.s30.sg.len.1
 rw [List.length_map] at this
 have:=h.l6
 omega
theorem P30.sx {n:Int} {ds:List WD} {sts:List SX} (h:P30 n ds sts):MM ds sts:=by
 refine ⟨by have:=h.len;omega,fun s hs=>?_,fun d hd=>((Xe (h.ok d hd).nm).1).2⟩
 have b:=h.s30.bd s hs
 have hm:s.ix ∈ sts.map (·.ix):=List.mem_map.mpr ⟨s,hs,rfl⟩
 have hg:=h.s30.sg.glen hm
 have:=h.l6
 exact ⟨⟨by omega,by omega⟩,⟨by omega,by omega⟩,h.s30.sg.ne _ hm,by omega,fun i hi=>⟨_,List.getElem?_eq_getElem (h.lt hs hi)⟩⟩
theorem P30.mnd {n:Int} {ds:List WD} {sts:List SX} (h:P30 n ds sts) {s:SX} (hs:s ∈ sts):(Ji ds s).Nodup:=by
 have hx:s.ix.Nodup:=h.fl.sublist (List.sublist_flatten_of_mem (List.mem_map.mpr ⟨s,hs,rfl⟩))
 unfold Ji
 refine List.pairwise_map.mpr (List.Pairwise.imp_of_mem (fun {a b} ha hb hab e=>?_) hx)
 exact hab (Tx h.nd (h.lt hs ha) (h.lt hs hb) e)
theorem P30.told {n:Int} {ds:List WD} {sts:List SX} (h:P30 n ds sts) {i:Nat} {s:SX} (hs:sts[i]? = some s) {x:Str} (hx:x ∈ Ji ds s):told (Bf ds (sts.take i)) x=false:=by
 cases e:My.told (Bf ds (sts.take i)) x with
 | false=>rfl
 | true=>
  exfalso
  unfold My.told at e
  obtain ⟨r,hr,hc⟩:=List.any_eq_true.mp e
  obtain ⟨s',hs',rfl⟩:=List.mem_map.mp hr
  have hc:x ∈ Ji ds s':=by simpa [fH] using hc
  obtain ⟨k,hk,rfl⟩:=List.mem_map.mp hx
  obtain ⟨k',hk',ek⟩:=List.mem_map.mp hc
  have:=Tx h.nd (h.lt (List.mem_of_mem_take hs') hk') (h.lt (List.mem_of_getElem? hs) hk) ek
  subst this
  obtain ⟨hi,hsi⟩:=List.getElem?_eq_some_iff.mp hs
  have hf:=h.fl
  rw [← List.take_append_drop i sts,List.map_append,List.flatten_append,List.drop_eq_getElem_cons hi,hsi,List.map_cons,List.flatten_cons] at hf
  exact (List.nodup_append.mp hf).2.2 k' (List.mem_flatten.mpr ⟨s'.ix,List.mem_map.mpr ⟨s',hs',rfl⟩,hk'⟩) k' (List.mem_append_left _ hk) rfl
theorem kz {alike:List Str}:∀ {r:List Str} {j:Nat} {ms:List Str},(∀ x ∈ r,x ∈ alike)→(ms ++ r).Nodup→qG alike r j ms=.ok (ms ++ r)
 | [],j,ms,_,_=>by
  show Except.ok ms=_
  rw [List.append_nil]
 | x :: r,j,ms,ha,hn=>by
  unfold qG
  have hx:x ∉ ms:=fun z=>(List.nodup_append.mp hn).2.2 x z x (List.mem_cons_self ..) rfl
  rw [if_pos ⟨ha x (List.mem_cons_self ..),hx⟩,kz (fun y hy=>ha y (List.mem_cons_of_mem _ hy)) (by rw [List.append_assoc];exact hn),List.append_assoc]
  rfl
theorem P30.left {n:Int} {ds:List WD} {sts:List SX} (h:P30 n ds sts) {i:Nat} {s:SX} (hs:sts[i]? = some s) {x:Str} (hx:x ∈ Ji ds s):x ∈ Ze ds (Bf ds (sts.take i)):=by
 unfold Ze
 refine List.mem_filter.mpr ⟨?_,by rw [h.told hs hx];rfl⟩
 obtain ⟨k,hk,rfl⟩:=List.mem_map.mp hx
 have hk':=h.lt (List.mem_of_getElem? hs) hk
 rw [Cf (List.getElem?_eq_getElem hk')]
 exact List.mem_map.mpr ⟨_,List.getElem_mem hk',rfl⟩
theorem P30.stage {n:Int} {ds:List WD} {sts:List SX} (h:P30 n ds sts) {i:Nat} {s:SX} (hs:sts[i]? = some s):zm ds (Bf ds (sts.take i)) (Ad ds s)=.ok (fH ds s):=by
 have hm:=List.mem_of_getElem? hs
 have b:=h.s30.bd s hm
 have hne:=h.s30.sg.ne s.ix (List.mem_map.mpr ⟨s,hm,rfl⟩)
 obtain ⟨k,r,hc⟩:=List.exists_cons_of_ne_nil hne
 have hmem:Ji ds s=nmI ds k :: r.map (nmI ds):=by unfold Ji;rw [hc];rfl
 have hw:Ad ds s=Str.ofString "stage" :: num s.lo :: num s.hi :: nmI ds k :: r.map (nmI ds):=by unfold Ad;rw [hmem];rfl
 have hP:Uz ds (Ze ds (Bf ds (sts.take i))) (Ad ds s)=.ok (Ji ds s):=by
  have hf:nmI ds k ∈ Ji ds s:=by rw [hmem];exact List.mem_cons_self ..
  have h3:wd (Ad ds s) 3=nmI ds k:=by rw [hw];rfl
  have h4:(Ad ds s).drop 4=r.map (nmI ds):=by rw [hw];rfl
  unfold Uz
  rw [h3,h4,if_pos (h.left hs hf),kz (fun x hx=>?_) (by have:=h.mnd hm;rw [hmem] at this;exact this),hmem]
  ·rfl
  ·have hxm:x ∈ Ji ds s:=by rw [hmem];exact List.mem_cons_of_mem _ hx
   refine List.mem_filter.mpr ⟨h.left hs hxm,decide_eq_true ?_⟩
   obtain ⟨k2,hk2,rfl⟩:=List.mem_map.mp hx
   have k2i:k2 ∈ s.ix:=by rw [hc];exact List.mem_cons_of_mem _ hk2
   have k1i:k ∈ s.ix:=by rw [hc];exact List.mem_cons_self ..
   have l1:=List.getElem?_eq_getElem (h.lt hm k1i)
   have l2:=List.getElem?_eq_getElem (h.lt hm k2i)
   have al:=h.s30.sg.al s.ix (List.mem_map.mpr ⟨s,hm,rfl⟩) k2 k2i k k1i _ _ l2 l1
   show (wOf ds (nmI ds k2)).map Dj=(wOf ds (nmI ds k)).map Dj
   rw [Cf l1,Cf l2,We h.nd l1,We h.nd l2]
   have:=Gk.mp al
   show some (Dj _)=some (Dj _)
   unfold Dj
   by_cases c:(ds[k2]'(h.lt hm k2i)).k=2
   ·rw [if_pos c,if_pos (this.mp c)]
   ·rw [if_neg c,if_neg (fun z=>c (this.mpr z))]
 have h0:wd (Ad ds s) 0=Str.ofString "stage" := by rw [hw];rfl
 have h1:wd (Ad ds s) 1=num s.lo:=by rw [hw];rfl
 have h2:wd (Ad ds s) 2=num s.hi:=by rw [hw];rfl
 have e1:uy (num s.lo) 1 60=some s.lo:=Gu (Tj (by omega) (by omega) (by omega) (by omega))
 have e2:uy (num s.hi) s.lo 60=some s.hi:=Gu (Tj (by omega) (by omega) (by omega) (by omega))
 unfold zm
 rw [h0,h1,h2,hP,if_pos (List.mem_singleton.mpr rfl),e1]
 show (uy (num s.hi) s.lo 60).elim _ _=_
 rw [e2]
 rfl
theorem P30.parse {n:Int} {ds:List WD} {sts:List SX} (h:P30 n ds sts):∀ (m i:Nat),sts.length - i=m→i ≤ sts.length→Ij ds ((Wd ds sts).drop i) i (Bf ds (sts.take i))=.ok (Bf ds sts)
 | 0,i,hm,hi=>by
  have:i=sts.length:=by omega
  subst this
  have hl:(Wd ds sts).length=sts.length:=by unfold Wd;rw [List.length_map]
  rw [← hl,List.drop_length,hl,List.take_length]
  rfl
 | m + 1,i,hm,hi=>by
  have hi':i < sts.length:=by omega
  have hs:sts[i]? = some sts[i]:=List.getElem?_eq_getElem hi'
  have hl:i < (Wd ds sts).length:=by unfold Wd;rw [List.length_map];exact hi'
  have hg:(Wd ds sts)[i]=Ad ds sts[i]:=(List.getElem?_eq_some_iff.mp (show (Wd ds sts)[i]? = some (Ad ds sts[i]) by unfold Wd;rw [List.getElem?_map,hs];rfl)).2
  rw [List.drop_eq_getElem_cons hl,hg]
  unfold Ij
  have h6:=h.len
  rw [if_neg (by unfold Bf;rw [List.length_map,List.length_take];omega),h.stage hs]
  have ih:=h.parse m (i + 1) (by omega) hi'
  rw [oe hs] at ih
  unfold Bf at ih ⊢
  rw [List.map_append] at ih
  exact ih
theorem P30.none {n:Int} {ds:List WD} {sts:List SX} (h:P30 n ds sts):(Ze ds (Bf ds sts)).head? = Option.none∧Vk ds (Bf ds sts)=Option.none∧Zm n ds (Bf ds sts)=Option.none:=by
 refine ⟨?_,?_,?_⟩
 ·have:Ze ds (Bf ds sts)=[]:=by
   unfold Ze
   refine List.filter_eq_nil_iff.mpr fun x hx=>?_
   obtain ⟨d,hd,rfl⟩:=List.mem_map.mp hx
   obtain ⟨k,hk⟩:=List.getElem?_of_mem hd
   have hkl:=(List.getElem?_eq_some_iff.mp hk).1
   have hf:=h.s30.sg.pm.mem_iff.mpr (List.mem_range.mpr hkl)
   obtain ⟨g,hg,hkg⟩:=List.mem_flatten.mp hf
   obtain ⟨s,hs,rfl⟩:=List.mem_map.mp hg
   have:My.told (Bf ds sts) d.name=true:=by
    unfold My.told
    refine List.any_eq_true.mpr ⟨fH ds s,List.mem_map.mpr ⟨s,hs,rfl⟩,?_⟩
    have:d.name ∈ Ji ds s:=List.mem_map.mpr ⟨k,hkg,Cf hk⟩
    simpa [fH] using this
   rw [this]
   simp
  rw [this]
  rfl
 ·unfold Vk
  refine List.findSome?_eq_none_iff.mpr fun d hd=>?_
  unfold qw
  cases hk:BD (Bf ds sts) d.name with
  | none=>rfl
  | some k=>
   rw [Option.bind_some]
   cases hr:(Bf ds sts)[k]? with
   | none=>rfl
   | some r=>
    rw [Option.bind_some]
    have hx:My.told (Bf ds sts) d.name=true:=by
     have:=ft (Bf ds sts) d.name
     rw [← this]
     unfold BD at hk
     cases e:wg (de ((Bf ds sts).map (·.mem))) (Sum.inr d.name) with
     | none=>rw [e] at hk;cases hk
     | some v=>rfl
    obtain ⟨k',r',_,hk',hr',hm⟩:=WB hx
    rw [hk] at hk'
    cases hk'
    rw [hr] at hr'
    cases hr'
    obtain ⟨s,hs,rfl⟩:=Mb hr
    obtain ⟨i,hi,ei⟩:=List.mem_map.mp hm
    have hsm:=List.mem_of_getElem? hs
    have hil:=h.lt hsm hi
    rw [Cf (List.getElem?_eq_getElem hil)] at ei
    obtain ⟨j,hj⟩:=List.getElem?_of_mem hd
    have:i=j:=jt h.nd hil (List.getElem?_eq_some_iff.mp hj).1 (by rw [Eo (List.getElem?_eq_getElem hil),Eo hj,ei])
    subst this
    have:=h.s30.le s hsm i hi d hj
    show (if s.lo < d.least then some (d,k) else Option.none)=Option.none
    rw [if_neg (show ¬ s.lo < d.least by omega)]
 ·unfold Zm
  refine List.findSome?_eq_none_iff.mpr fun e he=>?_
  obtain ⟨r,k⟩:=e
  have hr:r ∈ Bf ds sts:=List.fst_mem_of_mem_zipIdx he
  obtain ⟨s,hs,rfl⟩:=List.mem_map.mp hr
  unfold lq
  refine List.findSome?_eq_none_iff.mpr fun x hx=>List.findSome?_eq_none_iff.mpr fun y hy=>?_
  obtain ⟨i,hi,rfl⟩:=List.mem_map.mp hx
  obtain ⟨j,hj,rfl⟩:=List.mem_map.mp hy
  unfold ol
  rw [if_neg]
  rintro ⟨z1,z2⟩
  have li:=List.getElem?_eq_getElem (h.lt hs hi)
  have lj:=List.getElem?_eq_getElem (h.lt hs hj)
  unfold mtN at z2
  rw [Cf li,Cf lj,We h.nd li,We h.nd lj] at z2
  have:=h.s30.sg.cm s.ix (List.mem_map.mpr ⟨s,hs,rfl⟩) i hi j hj (fun z=>z1 (by rw [z])) _ _ li lj
  replace z2:mt n _ _=true:=z2
  rw [this] at z2
  cases z2
end My
namespace My
open PySem L2
noncomputable def GH (P:Program) (w:World) (t:Adr):Sp:=fun vs H Q _=>∃ c n ds sts,vs=[.ref c,.str (Vq ds sts)]∧Qc t H c n ds∧(4 ≤ n∧n ≤ 99)∧P30 n ds sts∧NoT H∧∀ a H',Vb H H'→NoT H'→Og P w t H' a c n ds (Bf ds sts)→Q (.ref a) H'
theorem Og.same {P:Program} {w:World} {t:Adr} {H H':Hp} {a c:Addr} {n:Int} {ds:List WD} {rows:List ST} (h:Og P w t H a c n ds rows) (s:Vb H H'):Og P w t H' a c n ds rows:=by
 obtain ⟨dx,le,mo,me,so,ho,ch,ms,kvs,e1,e2,e3,e4,e5,e6,e7,e8,e9⟩:=h
 exact ⟨dx,le,mo,me,so,ho,ch,ms,kvs,s _ _ e1,e2.same s,s _ _ e3,s _ _ e4,e5.same s,s _ _ e6,s _ _ e7,Lq e8 s,e9⟩
theorem P30.plain {n:Int} {ds:List WD} {sts:List SX} (h:P30 n ds sts):∀ r ∈ Wd ds sts,r ≠ []∧r.length ≤ 11∧∀ x ∈ r,cu x:=fun r hr=>by
 obtain ⟨s,hs,rfl⟩:=List.mem_map.mp hr
 obtain ⟨blo,bhi,bne,bln,bix⟩:=h.sx.bd s hs
 refine ⟨by unfold Ad;simp,?_,fun x hx=>?_⟩
 ·unfold Ad Ji
  rw [List.length_append,List.length_map]
  show 3 + s.ix.length ≤ 11
  omega
 ·unfold Ad at hx
  rcases List.mem_append.mp hx with z | z
  ·have z:x=Str.ofString "stage" ∨ x=num s.lo∨x=num s.hi:=by simpa using z
   rcases z with rfl | rfl | rfl
   ·unfold cu;decide +kernel
   ·exact Hd (by omega) (by omega)
   ·exact Hd (by omega) (by omega)
  ·obtain ⟨k,hk,rfl⟩:=List.mem_map.mp z
   obtain ⟨d,hd⟩:=bix k hk
   rw [Cf hd]
   exact Mn (h.ok d (List.mem_of_getElem? hd)).nm
theorem P30.rows {n:Int} {ds:List WD} {sts:List SX} (h:P30 n ds sts) (hne:sts ≠ []):ke (Vq ds sts)=Wd ds sts:=by
 unfold Vq
 exact uv (by unfold Wd;simpa using hne) (fun r hr=>(h.plain r hr).1) (fun r hr=>(h.plain r hr).2.2)
theorem P30.ne {n:Int} {ds:List WD} {sts:List SX} (h:P30 n ds sts):sts ≠ []:=fun e=>by
 have:=h.s30.sg.len.2
 rw [e] at this
 simp at this
 have:=h.l1
 omega
theorem P30.txt {n:Int} {ds:List WD} {sts:List SX} (h:P30 n ds sts):(Vq ds sts).length ≤ 20000:=by
 have hB:∀ y ∈ (Wd ds sts).map (Str.join bk),y.length ≤ 200:=fun y hy=>by
  obtain ⟨r,hr,rfl⟩:=List.mem_map.mp hy
  obtain ⟨_,h2,h3⟩:=h.plain r hr
  have:=Yi bk 8 r fun x hx=>(h3 x hx).1
  rw [Sn] at this
  omega
 have:=Yi nl 200 _ hB
 rw [Gv,List.length_map] at this
 have hl:(Wd ds sts).length ≤ 6:=by unfold Wd;rw [List.length_map];exact h.len
 unfold Vq
 omega
section
variable {P:Program} {w:World} {K:PySem.W.Frag} {mg:Str→Option Value} {base:Heap} {t:Adr}
theorem nM (T:Txt w K mg t):Jb P w K mg base CX0 8 t.lf t.wf ["crossing","text"] (GH P w t):=by
 refine (DJ T).quiet fun vs H Q E h=>?_
 obtain ⟨c,n,ds,sts,rfl,C,hn,X,nt,q⟩:=h
 obtain ⟨z1,z2,z3⟩:=X.none
 have hne:∀ d ∈ ds,d.name ≠ Str.ofString "" := fun d hd e=>by
  have h:=(Xe (X.ok d hd).nm).1.1
  rw [e] at h
  exact absurd h (by decide +kernel)
 have hD:iI ds:=fun d hd=>by
  obtain ⟨h1,h2⟩:=Xe (X.ok d hd).nm
  exact ⟨⟨Nat.le_trans h1.2 (by decide),fun c hc=>by have:=h2 c hc;omega⟩,(X.ok d hd).k,(X.ok d hd).of.1,by have:=(X.ok d hd).of;omega⟩
 have hp:=X.parse sts.length 0 rfl (Nat.zero_le _)
 rw [List.drop_zero,List.take_zero,show Bf ds []=[] from rfl] at hp
 refine ⟨c,n,ds,_,rfl,C,by omega,hD,hne,X.txt,by rw [X.rows X.ne];unfold Wd;rw [List.length_map];have:=X.len;omega,fun r hr=>?_,nt,?_⟩
 ·rw [X.rows X.ne] at hr
  obtain ⟨h1,h2,h3⟩:=X.plain r hr
  exact ⟨h1,by omega,fun y hy=>Nat.le_trans (h3 y hy).1 (by decide)⟩
 ·rw [X.rows X.ne,hp]
  refine ⟨fun _ _ _ a H' s' n' SA=>q a H' s' n' SA,fun x hx=>?_,fun e _ he=>?_,fun e _ _ he=>?_⟩
  ·rw [z1] at hx;cases hx
  ·rw [z2] at he;cases he
  ·rw [z3] at he;cases he
end
end My
namespace My
open PySem L2
theorem td0 (d:WD):atI (yp d) 0=some (.str (kd d.k)):=Fb (j:=0) rfl
theorem td4 (d:WD):atI (yp d) 4=some (.int d.off):=Fb (j:=4) rfl
theorem td5 (d:WD):atI (yp d) 5=some (.int d.near):=Fb (j:=5) rfl
theorem OM:Str.ofString "car" ≠ Str.ofString "foot" := by decide +kernel
theorem HM:Str.ofString "car" ≠ Str.ofString "tram" := by decide +kernel
theorem CM:Str.ofString "foot" ≠ Str.ofString "tram" := by decide +kernel
theorem PL (x y z:V):Lh [] [(Sum.inr (Str.ofString "car"),x),(Sum.inr (Str.ofString "foot"),y),(Sum.inr (Str.ofString "tram"),z)]=[(Sum.inr (Str.ofString "car"),x),(Sum.inr (Str.ofString "foot"),y),(Sum.inr (Str.ofString "tram"),z)]:=by
 unfold Lh
 simp only [List.foldl_cons,List.foldl_nil]
 rw [Du x (k:=Sum.inr (Str.ofString "car")) (by rfl),Du y (by simp [wg,OM]),Du z (by simp [wg,HM,CM])]
 rfl
theorem iM {d:WD} (hk:d.k < 3):wg (Lh [] [(Sum.inr (Str.ofString "car"),V.int 1),(Sum.inr (Str.ofString "foot"),V.int 0),(Sum.inr (Str.ofString "tram"),V.int 2)]) (Sum.inr (kd d.k))=some (.int (Dg d)):=by
 rw [PL]
 unfold Dg
 match h:d.k,hk with
 | 0,_=>simp [wg,kd]
 | 1,_=>simp [wg,kd,OM]
 | 2,_=>simp [wg,kd,HM,CM]
theorem fM {d:WD} (hk:d.k < 3):wg (Lh [] [(Sum.inr (Str.ofString "car"),V.int 2),(Sum.inr (Str.ofString "foot"),V.int d.off),(Sum.inr (Str.ofString "tram"),V.int 1)]) (Sum.inr (kd d.k))=some (.int (Tk d)):=by
 rw [PL]
 unfold Tk
 match h:d.k,hk with
 | 0,_=>simp [wg,kd]
 | 1,_=>simp [wg,kd,OM]
 | 2,_=>simp [wg,kd,HM,CM]
noncomputable def Iw:Sp:=fun vs H Q _=>∃ a d,vs=[.ref a]∧H a=some (.tup (yp d))∧d.k < 3∧NoT H∧Q (.int (Dg d)) H
noncomputable def UA:Sp:=fun vs H Q _=>∃ a d,vs=[.ref a]∧H a=some (.tup (yp d))∧d.k < 3∧∀ H',Vb H H'→Q (.int (Dg d)) H'
noncomputable def Az:Sp:=fun vs H Q _=>∃ a d,vs=[.ref a]∧H a=some (.tup (yp d))∧d.k < 3∧NoT H∧Q (.int (Tk d)) H
noncomputable def MC:Sp:=fun vs H Q _=>∃ a d,vs=[.ref a]∧H a=some (.tup (yp d))∧d.k < 3∧∀ H',Vb H H'→Q (.int (Tk d)) H'
noncomputable def EH (P:Program) (w:World) (t:Adr):Sp:=fun vs H Q _=>∃ a c n ds rows,∃ i j:Nat,∃ r s,vs=[.ref a,.int i,.int j]∧Og P w t H a c n ds rows∧rows[i]? = some r∧rows[j]? = some s∧i ≠ j∧NoT H∧∀ v,Zq (chL n ds r.mem s.mem) v→Q (.int v) H
noncomputable def KI (P:Program) (w:World) (t:Adr):Sp:=fun vs H Q _=>∃ a c n ds rows,∃ i j:Nat,∃ r s,vs=[.ref a,.int i,.int j]∧Og P w t H a c n ds rows∧rows[i]? = some r∧rows[j]? = some s∧i ≠ j∧∀ v H',Vb H H'→Zq (chL n ds r.mem s.mem) v→Q (.int v) H'
noncomputable def Nr (ds:List WD) (i:Nat):Int:=((ds[i]?).map Tk).getD 0
noncomputable def Dz (ds:List WD) (i:Nat):Int:=((ds[i]?).map Dg).getD 0
noncomputable def mtI (n:Int) (ds:List WD) (k i:Nat):Bool:=match ds[k]?,ds[i]? with
 | some d,some e=>mt n d e
 | _,_=>false
noncomputable def gpI (ds:List WD) (i k:Nat):Int:=match ds[k]?,ds[i]? with
 | some d,some e=>d.off - e.near
 | _,_=>0
noncomputable def lcP (n:Int) (ds:List WD) (sj:List Nat) (i k:Nat):Bool:=!decide (k ∈ sj) && mtI n ds k i
noncomputable def lcX (n:Int) (ds:List WD) (sj:List Nat) (i m:Nat):List Int:=Dz ds i :: ((List.range m).filter (lcP n ds sj i)).map (gpI ds i)
noncomputable def lcL (n:Int) (ds:List WD) (si sj:List Nat):List Int:=(0 :: si.map (Nr ds)) ++ sj.flatMap fun i=>lcX n ds sj i ds.length
theorem Qt {ds:List WD} {i:Nat} {d:WD} (h:ds[i]? = some d):Nr ds i=Tk d:=by unfold Nr;rw [h];rfl
theorem Cp {ds:List WD} {i:Nat} {d:WD} (h:ds[i]? = some d):Dz ds i=Dg d:=by unfold Dz;rw [h];rfl
theorem RC {n:Int} {ds:List WD} {i k:Nat} {d e:WD} (h:ds[k]? = some d) (h':ds[i]? = some e):mtI n ds k i=mt n d e:=by unfold mtI;rw [h,h']
theorem jD {ds:List WD} {i k:Nat} {d e:WD} (h:ds[k]? = some d) (h':ds[i]? = some e):gpI ds i k=d.off - e.near:=by unfold gpI;rw [h,h']
theorem MH {n:Int} {ds:List WD} (nd:(ds.map (·.name)).Nodup) {i k:Nat} {d e:WD} (h:ds[k]? = some d) (h':ds[i]? = some e):mtN n ds d.name e.name=mt n d e:=by unfold mtN;rw [We nd h,We nd h']
theorem lD {ds:List WD} (nd:(ds.map (·.name)).Nodup) {i k:Nat} {d e:WD} (h:ds[k]? = some d) (h':ds[i]? = some e):IF ds d.name e.name=if d.off - e.near > 0 then d.off - e.near else 0:=by unfold IF;rw [We nd h,We nd h']
theorem GB {ds:List WD} (nd:(ds.map (·.name)).Nodup) {s:SX} (hs:∀ i ∈ s.ix,i < ds.length) {k:Nat} {d:WD} (hk:ds[k]? = some d):d.name ∈ Ji ds s↔k ∈ s.ix:=by
 have hkl:=(List.getElem?_eq_some_iff.mp hk).1
 refine ⟨fun h=>?_,fun h=>List.mem_map.mpr ⟨k,h,Cf hk⟩⟩
 obtain ⟨j,hj,e⟩:=List.mem_map.mp h
 rw [← Cf hk] at e
 rw [← Tx nd (hs j hj) hkl e]
 exact hj
theorem FM {n:Int} {ds:List WD} (nd:(ds.map (·.name)).Nodup) {r s:SX} (hr:∀ i ∈ r.ix,i < ds.length) (hs:∀ i ∈ s.ix,i < ds.length) {x:Int} (hx:x ∈ lcL n ds r.ix s.ix):∃ y ∈ chL n ds (Ji ds r) (Ji ds s),x ≤ y:=by
 unfold lcL at hx
 unfold chL
 rcases List.mem_append.mp hx with h | h
 ·rcases List.mem_cons.mp h with rfl | h
  ·exact ⟨0,by simp,Int.le_refl _⟩
  ·obtain ⟨i,hi,rfl⟩:=List.mem_map.mp h
   have hd:=List.getElem?_eq_getElem (hr i hi)
   refine ⟨_,List.mem_append_left _ (List.mem_append_left _ (List.mem_append_right _ (List.mem_map.mpr ⟨nmI ds i,List.mem_map.mpr ⟨i,hi,rfl⟩,rfl⟩))),?_⟩
   rw [Qt hd,Cf hd]
   unfold ju
   rw [We nd hd]
   exact Int.le_refl _
 ·obtain ⟨i,hi,h⟩:=List.mem_flatMap.mp h
  have hd:=List.getElem?_eq_getElem (hs i hi)
  have him:nmI ds i ∈ Ji ds s:=List.mem_map.mpr ⟨i,hi,rfl⟩
  rcases List.mem_cons.mp h with rfl | h
  ·refine ⟨_,List.mem_append_left _ (List.mem_append_right _ (List.mem_map.mpr ⟨nmI ds i,him,rfl⟩)),?_⟩
   rw [Cp hd,Cf hd]
   unfold zo
   rw [We nd hd]
   exact Int.le_refl _
  ·obtain ⟨k,hk,rfl⟩:=List.mem_map.mp h
   obtain ⟨hk1,hk2⟩:=List.mem_filter.mp hk
   have hkl:=List.mem_range.mp hk1
   have hdk:=List.getElem?_eq_getElem hkl
   unfold lcP at hk2
   rw [Bool.and_eq_true,RC hdk hd] at hk2
   have hkn:k ∉ s.ix:=by simpa using hk2.1
   rw [Cf hd] at him
   refine ⟨IF ds ds[k].name (ds[i]'(hs i hi)).name,List.mem_append_right _ (List.mem_flatMap.mpr ⟨ds[k].name,List.mem_map.mpr ⟨_,List.getElem_mem hkl,rfl⟩,?_⟩),?_⟩
   ·unfold chX
    rw [if_neg fun z=>hkn ((GB nd hs hdk).mp z)]
    exact List.mem_map.mpr ⟨_,List.mem_filter.mpr ⟨him,by rw [MH nd hdk hd];exact hk2.2⟩,rfl⟩
   ·rw [lD nd hdk hd,jD hdk hd]
    split <;> omega
theorem TM {n:Int} {ds:List WD} (nd:(ds.map (·.name)).Nodup) {r s:SX} (hr:∀ i ∈ r.ix,i < ds.length) (hs:∀ i ∈ s.ix,i < ds.length) {x:Int} (hx:x ∈ chL n ds (Ji ds r) (Ji ds s)):∃ y ∈ lcL n ds r.ix s.ix,x ≤ y:=by
 unfold chL at hx
 unfold lcL
 have h0:(0:Int) ∈ (0 :: r.ix.map (Nr ds)) ++ s.ix.flatMap fun i=>lcX n ds s.ix i ds.length:=List.mem_append_left _ (List.mem_cons_self ..)
 rcases List.mem_append.mp hx with h | h
 ·rcases List.mem_append.mp h with h | h
  ·rcases List.mem_append.mp h with h | h
   ·rw [List.mem_singleton.mp h]
    exact ⟨0,h0,Int.le_refl _⟩
   ·obtain ⟨y,hy,rfl⟩:=List.mem_map.mp h
    obtain ⟨i,hi,rfl⟩:=List.mem_map.mp hy
    have hd:=List.getElem?_eq_getElem (hr i hi)
    refine ⟨_,List.mem_append_left _ (List.mem_cons_of_mem _ (List.mem_map.mpr ⟨i,hi,rfl⟩)),?_⟩
    rw [Qt hd,Cf hd]
    unfold ju
    rw [We nd hd]
    exact Int.le_refl _
  ·obtain ⟨y,hy,rfl⟩:=List.mem_map.mp h
   obtain ⟨i,hi,rfl⟩:=List.mem_map.mp hy
   have hd:=List.getElem?_eq_getElem (hs i hi)
   refine ⟨_,List.mem_append_right _ (List.mem_flatMap.mpr ⟨i,hi,List.mem_cons_self ..⟩),?_⟩
   rw [Cp hd,Cf hd]
   unfold zo
   rw [We nd hd]
   exact Int.le_refl _
 ·obtain ⟨y,hy,h⟩:=List.mem_flatMap.mp h
  obtain ⟨d,hdm,rfl⟩:=List.mem_map.mp hy
  obtain ⟨k,hdk⟩:=List.getElem?_of_mem hdm
  have hkl:=(List.getElem?_eq_some_iff.mp hdk).1
  unfold chX at h
  by_cases hc:d.name ∈ Ji ds s
  ·rw [if_pos hc] at h
   cases h
  ·rw [if_neg hc] at h
   obtain ⟨z,hz,rfl⟩:=List.mem_map.mp h
   obtain ⟨hz1,hz2⟩:=List.mem_filter.mp hz
   obtain ⟨i,hi,rfl⟩:=List.mem_map.mp hz1
   have hd:=List.getElem?_eq_getElem (hs i hi)
   rw [Cf hd] at hz2 ⊢
   rw [MH nd hdk hd] at hz2
   rw [lD nd hdk hd]
   split
   ·refine ⟨gpI ds i k,List.mem_append_right _ (List.mem_flatMap.mpr ⟨i,hi,List.mem_cons_of_mem _ (List.mem_map.mpr ⟨k,List.mem_filter.mpr ⟨List.mem_range.mpr hkl,?_⟩,rfl⟩)⟩),?_⟩
    ·unfold lcP
     rw [Bool.and_eq_true,RC hdk hd]
     exact ⟨by simpa using fun z=>hc ((GB nd hs hdk).mpr z),hz2⟩
    ·rw [jD hdk hd]
     exact Int.le_refl _
   ·exact ⟨0,h0,Int.le_refl _⟩
theorem bG {n:Int} {ds:List WD} (nd:(ds.map (·.name)).Nodup) {r s:SX} (hr:∀ i ∈ r.ix,i < ds.length) (hs:∀ i ∈ s.ix,i < ds.length) {u v:Int} (hu:Zq (chL n ds (Ji ds r) (Ji ds s)) u) (hv:Zq (lcL n ds r.ix s.ix) v):u=v:=by
 obtain ⟨y,hy,h1⟩:=TM nd hr hs hu.1
 obtain ⟨z,hz,h2⟩:=FM nd hr hs hv.1
 have:=hv.2 y hy
 have:=hu.2 z hz
 omega
theorem PM {n:Int} {ds:List WD} {sj:List Nat} {i m:Nat} (h:lcP n ds sj i m=true):lcX n ds sj i (m + 1)=lcX n ds sj i m ++ [gpI ds i m]:=by
 unfold lcX
 rw [List.range_succ,List.filter_append,List.map_append]
 simp [h]
theorem XM {n:Int} {ds:List WD} {sj:List Nat} {i m:Nat} (h:lcP n ds sj i m=false):lcX n ds sj i (m + 1)=lcX n ds sj i m:=by
 unfold lcX
 rw [List.range_succ,List.filter_append,List.map_append]
 simp [h]
theorem QB (n:Int) (ds:List WD) (sj:List Nat) (i m:Nat):(lcX n ds sj i m).length ≤ m + 1:=by
 unfold lcX
 rw [List.length_cons,List.length_map]
 have:=List.length_filter_le (lcP n ds sj i) (List.range m)
 rw [List.length_range] at this
 omega
theorem RD (n:Int) (ds:List WD) (sj:List Nat) (m:Nat):∀ l:List Nat,(l.flatMap fun i=>lcX n ds sj i m).length ≤ l.length * (m + 1)
 | []=>by simp
 | i :: l=>by
  rw [List.flatMap_cons,List.length_append,List.length_cons,Nat.succ_mul]
  have:=RD n ds sj m l
  have:=QB n ds sj i m
  omega
noncomputable def yB (K:PySem.W.Frag):Sp:=fun vs H Q _=>∃ n wl ds sl qs ms sts,∃ i j:Nat,∃ r s,vs=[.int n,.ref wl,.ref sl,.int i,.int j]∧LW H wl ds∧ZE H sl qs ms sts∧P30 n ds sts∧sts[i]? = some r∧sts[j]? = some s∧NoT H∧∀ v,Zq (lcL n ds r.ix s.ix) v→Q (.int v) H
noncomputable def MF (K:PySem.W.Frag):Sp:=fun vs H Q _=>∃ n wl ds sl qs ms sts,∃ i j:Nat,∃ r s,vs=[.int n,.ref wl,.ref sl,.int i,.int j]∧LW H wl ds∧ZE H sl qs ms sts∧P30 n ds sts∧sts[i]? = some r∧sts[j]? = some s∧NoT H∧∀ v H',Vb H H'→Zq (lcL n ds r.ix s.ix) v→Q (.int v) H'
section
variable {P:Program} {w:World} {K:PySem.W.Frag} {mg:Str→Option Value} {base:Heap} {t:Adr}
theorem UD (T:Txt w K mg t):Jb P w K mg base CX0 1 t.Gh t.zh ["_law_way"] Iw:=by
 refine Jb.forget (sp:=UA) ?_ fun vs H Q E h=>?_
 ·refine T.nk.ok Ut (fun vs H Q E h=>?_) (fun cdv A outer s H vs Q E hr h=>?_)
  ·obtain ⟨a,d,rfl,_⟩:=h;rfl
  obtain ⟨a,d,rfl,hw,k3,q⟩:=h
  have hu:=Zp hr
  refine ⟨_,(ib (Kb (Mu hu (CD (Jk ic jb (Jk ic jb (Jk ic jb BE))) rfl rfl (by simp) (by decide)) (lc sd (pv 0) jb (fun _ _=>rfl)) (fun _ _=>rfl)))),?_⟩
  (walk_at "RD")
  simp only [As]
  (walk_at "RD")
  intro p hp
  have s2:Vb H (upd (upd H p (.dK [])) p (.dK (Lh [] [(Sum.inr (Str.ofString "car"),V.int 1),(Sum.inr (Str.ofString "foot"),V.int 0),(Sum.inr (Str.ofString "tram"),V.int 2)]))):=(pb hp).updN hp
  refine ⟨db,[(Sum.inr (Str.ofString "car"),V.int 1),(Sum.inr (Str.ofString "foot"),V.int 0),(Sum.inr (Str.ofString "tram"),V.int 2)],rfl,by show 3 ≤ 15;decide,_,SqT.of (s2 _ _ hw),_,td0 d,.int (Dg d),?_,q _ s2⟩
  have:=Nu.k (k:=Sum.inr (kd d.k)) (db (H:=upd H p (.dK [])) (a:=p) (o:=.dK (Lh [] [(Sum.inr (Str.ofString "car"),V.int 1),(Sum.inr (Str.ofString "foot"),V.int 0),(Sum.inr (Str.ofString "tram"),V.int 2)])))
  rw [iM k3] at this
  exact this
 ·obtain ⟨a,d,rfl,hw,k3,nt,q⟩:=h
  exact ⟨nt,a,d,rfl,hw,k3,fun H' sm=>⟨sm,q⟩⟩
theorem BF (T:Txt w K mg t):Jb P w K mg base CX0 1 t.Ui t.Ki ["_law_way"] Az:=by
 refine Jb.forget (sp:=MC) ?_ fun vs H Q E h=>?_
 ·refine T.Zl.ok Lv (fun vs H Q E h=>?_) (fun cdv A outer s H vs Q E hr h=>?_)
  ·obtain ⟨a,d,rfl,_⟩:=h;rfl
  obtain ⟨a,d,rfl,hw,k3,q⟩:=h
  have hu:=Zp hr
  refine ⟨_,(ib (Kb (Mu hu (CD (Jk ic jb (Jk ic (lc sd (pv 0) jb (fun _ _=>rfl)) (Jk ic jb BE))) rfl rfl (by simp) (by decide)) (lc sd (pv 0) jb (fun _ _=>rfl)) (fun _ _=>rfl)))),?_⟩
  (walk_at "RD")
  simp only [As]
  (walk_at "RD")
  intro p hp
  have s0:=pb (o:=.dK []) hp
  have s2:Vb H (upd (upd H p (.dK [])) p (.dK (Lh [] [(Sum.inr (Str.ofString "car"),V.int 2),(Sum.inr (Str.ofString "foot"),V.int d.off),(Sum.inr (Str.ofString "tram"),V.int 1)]))):=s0.updN hp
  refine ⟨_,SqT.of (s0 _ _ hw),_,td4 d,db,[(Sum.inr (Str.ofString "car"),V.int 2),(Sum.inr (Str.ofString "foot"),V.int d.off),(Sum.inr (Str.ofString "tram"),V.int 1)],rfl,by show 3 ≤ 15;decide,_,SqT.of (s2 _ _ hw),_,td0 d,.int (Tk d),?_,q _ s2⟩
  have:=Nu.k (k:=Sum.inr (kd d.k)) (db (H:=upd H p (.dK [])) (a:=p) (o:=.dK (Lh [] [(Sum.inr (Str.ofString "car"),V.int 2),(Sum.inr (Str.ofString "foot"),V.int d.off),(Sum.inr (Str.ofString "tram"),V.int 1)])))
  rw [fM k3] at this
  exact this
 ·obtain ⟨a,d,rfl,hw,k3,nt,q⟩:=h
  exact ⟨nt,a,d,rfl,hw,k3,fun H' sm=>⟨sm,q⟩⟩
theorem eL (T:Txt w K mg t):Jb P w K mg base CX0 1 t.Ro t.ap ["stages","one","other"] (EH P w t):=by
 refine Jb.forget (sp:=KI P w t) ?_ fun vs H Q E h=>?_
 ·refine T.gu.ok NC (fun vs H Q E h=>?_) (fun cdv A outer s H vs Q E hr h=>?_)
  ·obtain ⟨a,c,n,ds,rows,i,j,r,s',rfl,_⟩:=h;rfl
  obtain ⟨a,c,n,ds,rows,i,j,r,s',rfl,⟨dx,le,mo,me,so,ho,ch,ms,kvs,e1,_,_,_,_,_,_,Dch,CO⟩,hi,hj,hij,q⟩:=h
  have hu:=Zp hr
  obtain ⟨v,hv,hmx⟩:=CO.2 i j r s' hi hj hij (.inl (List.getElem?_eq_some_iff.mp hi).1)
  refine ⟨_,(ib (Kb (RJ hu (Dc (pv 0) rfl) (zq (cb (pv 1) (cb (pv 2) gb))) (fun _ _=>rfl)))),?_⟩
  (walk_at "RD")
  exact ⟨_,Bs T e1,by decide,fun p hp=>⟨ch,rfl,kvs,Lq Dch (pb hp),stK i j,db,_,hv,q v _ (pb hp) hmx⟩⟩
 ·obtain ⟨a,c,n,ds,rows,i,j,r,s',rfl,SA,hi,hj,hij,nt,q⟩:=h
  exact ⟨nt,a,c,n,ds,rows,i,j,r,s',rfl,SA,hi,hj,hij,fun v H' sm hv=>⟨sm,q v hv⟩⟩
end
end My
namespace My
open PySem L2
structure PR (H:Hp) (pl:Addr) (ps:List Addr) (m k:Nat):Prop where
 at_:H pl=some (.lst (ps.map V.ref))
 len:ps.length ≤ k
 al:∀ p ∈ ps,∃ a b:Nat,H p=some (.tup [.int a,.int b])∧a ≠ b∧a < m∧b < m
theorem PR.mono {H:Hp} {pl:Addr} {ps:List Addr} {m k k':Nat} (h:PR H pl ps m k) (hk:k ≤ k'):PR H pl ps m k':=⟨h.at_,Nat.le_trans h.len hk,h.al⟩
theorem cH (b:Nat) (l:List Nat):inV (.int (b:Int)) (l.map fun k:Nat=>V.int k)=decide (b ∈ l):=by
 unfold inV
 rw [List.any_map,Bool.eq_iff_iff]
 simp only [List.any_eq_true,Function.comp,eqV,beq_iff_eq,decide_eq_true_eq]
 constructor
 ·rintro ⟨y,hy,e⟩
  rw [← Int.ofNat.inj e]
  exact hy
 ·intro h
  exact ⟨b,h,rfl⟩
section
variable {P:Program} {w:World} {K:PySem.W.Frag} {mg:Str→Option Value} {base:Heap} {t:Adr}
theorem BJ (T:Txt w K mg t):Jb P w K mg base CX0 2 t.Gg t.Ig ["_law_places","_law_ways_here","_law_stages_here","_law_one","_law_other"] (yB K):=by
 refine Jb.forget (sp:=MF K) ?_ fun vs H Q E h=>?_
 ·have G__law_ready:Jb P w K mg base CX0 1 t.Gh t.zh ["_law_way"] Iw:=UD T
  have G__law_fade:Jb P w K mg base CX0 1 t.Ui t.Ki ["_law_way"] Az:=BF T
  have G__law_meet:Jb P w K mg base CX0 1 t.bh t.ah ["_law_one","_law_other","_law_places"] (Cy K):=rD T
  refine T.bj.ok Me (fun vs H Q E h=>?_) (fun cdv A outer s H vs Q E hr h=>?_)
  ·obtain ⟨n,wl,ds,sl,qs,ms,sts,i,j,r,s,rfl,_⟩:=h;rfl
  obtain ⟨n,wl,ds,sl,qs,ms,sts,i,j,r,s,rfl,⟨ql,l1,l2,lal⟩,SQ,X,hri,hsj,nt,q⟩:=h
  have hu:=Zp hr
  have hU:=hr.units
  have h6:=X.l6
  have wAt:∀ (i:Nat) (d:WD),ds[i]? = some d→∃ wq,atI (ql.map V.ref) (i:Int)=some (.ref wq)∧H wq=some (.tup (yp d)):=fun i d hd=>by
   have hqi:ql[i]? = some (ql[i]'(by rw [l2];exact (List.getElem?_eq_some_iff.mp hd).1)):=List.getElem?_eq_getElem _
   exact ⟨_,Fb (by rw [List.getElem?_map,hqi];rfl),lal i _ d hqi hd⟩
  have sAt:∀ (i:Nat) (s:SX),sts[i]? = some s→∃ sq m,atI (qs.map V.ref) (i:Int)=some (.ref sq)∧H sq=some (.tup [.int s.lo,.int s.hi,.ref m])∧H m=some (.lst (s.ix.map fun k:Nat=>V.int k)):=fun i s hs=>by
   have hil:=(List.getElem?_eq_some_iff.mp hs).1
   have hqi:qs[i]? = some (qs[i]'(by rw [SQ.l1];exact hil)):=List.getElem?_eq_getElem _
   have hmi:ms[i]? = some (ms[i]'(by rw [SQ.l2];exact hil)):=List.getElem?_eq_getElem _
   obtain ⟨e1,e2⟩:=SQ.al i _ _ _ hqi hmi hs
   exact ⟨_,_,Fb (by rw [List.getElem?_map,hqi];rfl),e1,e2⟩
  obtain ⟨rq,rm,ar,er,erm⟩:=sAt i r hri
  obtain ⟨sq,sm',as,es,esm⟩:=sAt j s hsj
  have hrL:∀ i ∈ r.ix,i < ds.length:=fun i hi=>X.lt (List.mem_of_getElem? hri) hi
  have hsL:∀ i ∈ s.ix,i < ds.length:=fun i hi=>X.lt (List.mem_of_getElem? hsj) hi
  have hr8:=(X.sx.bd r (List.mem_of_getElem? hri)).2.2.2.1
  have hs8:=(X.sx.bd s (List.mem_of_getElem? hsj)).2.2.2.1
  have hqn:(ql.map V.ref).length=ds.length:=by rw [List.length_map,l2]
  refine ⟨_,(fb (Eb (i:=5) Me.nd rfl (Or.inl rfl) (se (cb jb gb)))
   (fb (Xd PassesOwn.never rfl (Kc (lc sd (lc bc (pv 2) (pv 3) (fun _ _=>rfl)) jb (fun _ _=>rfl))) (zb (i:=6) Me.nd rfl (Or.inl rfl)) (ib (Qb (Df PySem.F.plainAttrs_list PySem.F.slot_list_append PySem.F.type_list_append yd (pv 5) (cb (xb G__law_fade hr rfl T.qy T.Zl.kp T.jx .nil Db (cb (lc bc (pv 1) (pv 6) (fun _ _=>rfl)) gb)) gb)))))
   (fb (Xd PassesOwn.never rfl (Kc (lc sd (lc bc (pv 2) (pv 4) (fun _ _=>rfl)) jb (fun _ _=>rfl))) (zb (i:=6) Me.nd rfl (Or.inl rfl)) (fb (Qb (Df PySem.F.plainAttrs_list PySem.F.slot_list_append PySem.F.type_list_append yd (pv 5) (cb (xb G__law_ready hr rfl T.Tw T.nk.kp T.lw .nil Db (cb (lc bc (pv 1) (pv 6) (fun _ _=>rfl)) gb)) gb)))
   (ib (Xd PassesOwn.never rfl (ze rfl T.jh (cb (nc Lb rfl T.Xh fc (cb (pv 1) gb)) gb)) (zb (i:=7) Me.nd rfl (Or.inl rfl)) (ib (Ge (PW.pt (Qs (ac Nh (pv 7) (lc sd (lc bc (pv 2) (pv 4) (fun _ _=>rfl)) jb (fun _ _=>rfl)) (by with_unfolding_all rfl)) (mn (wj (xb G__law_meet hr rfl T.Kq T.ij.kp T.Wp .nil Db (cb (lc bc (pv 1) (pv 7) (fun _ _=>rfl)) (cb (lc bc (pv 1) (pv 6) (fun _ _=>rfl)) (cb (pv 0) gb)))))))) (ib (Qb (Df PySem.F.plainAttrs_list PySem.F.slot_list_append PySem.F.type_list_append yd (pv 5) (cb (Nb el (lc sd (lc bc (pv 1) (pv 7) (fun _ _=>rfl)) jb (fun _ _=>rfl)) (lc sd (lc bc (pv 1) (pv 6) (fun _ _=>rfl)) jb (fun _ _=>rfl))) gb)))) Ec))))))
   (ib (Kb (nc (jq rfl) rfl T.zF Hk (cb (pv 5) gb))))))),?_⟩
  simp only [Bb]
  refine zzC (fun σ' H'=>Vb H H'∧NoT H'∧∃ tl,H tl=none∧H' tl=some (.lst ([(0:Int)].map V.int))∧σ'=[some (.int n),some (.ref wl),some (.ref sl),some (.int i),some (.int j),some (.ref tl),none,none]) (fun D' hD=>?_) fun zzM zzh=>?_
  ·(walk_at "RD")
   exact ⟨by decide,fun tl htl=>hD _ _ ⟨pb htl,nt.upd,tl,htl,db,rfl⟩⟩
  rintro σ1 H1 ⟨s1,n1,tl,htl,w1,rfl⟩
  subst zzh
  simp only [Bb]
  refine zzC (fun σ' H'=>Vb H H'∧NoT H'∧H' tl=some (.lst ((0 :: r.ix.map (Nr ds)).map V.int))∧∃ x6,σ'=[some (.int n),some (.ref wl),some (.ref sl),some (.int i),some (.int j),some (.ref tl),x6,none]) (fun D' hD=>?_) fun zzM zzh=>?_
  ·(walk_at "RD")
   refine ⟨_,SqL.of (s1 _ _ SQ.at_),_,ar,_,rfl,_,SqT.of (s1 _ _ er),_,Fb (j:=2) rfl,rm,rfl,⟨_,SqL.of (s1 _ _ erm)⟩,?_⟩
   refine Fi.list (xs:=r.ix.map fun k:Nat=>V.int k) (fun a σ H'=>Vb H H'∧NoT H'∧H' tl=some (.lst ((0 :: (r.ix.take a).map (Nr ds)).map V.int))∧∃ x6,σ=[some (.int n),some (.ref wl),some (.ref sl),some (.int i),some (.int j),some (.ref tl),x6,none]) ⟨s1,n1,w1,_,rfl⟩ (fun a σ H' ha ⟨s2,_⟩=>SqL.of (s2 _ _ erm)) ?_ ?_
   ·rintro a x σ H' hx zzq
    refine zzP fun zzM zzh=>?_
    obtain ⟨s2,n2,w2,x6,rfl⟩:=zzq
    obtain ⟨k,hk,rfl⟩:=Mb hx
    obtain ⟨d,hd⟩:∃ d,ds[k]? = some d:=⟨_,List.getElem?_eq_getElem (hrL k (List.mem_of_getElem? hk))⟩
    obtain ⟨wq,aq,eq⟩:=wAt k d hd
    have hW:=X.ok d (List.mem_of_getElem? hd)
    have hl9:((0 :: (r.ix.take a).map (Nr ds)).map V.int).length ≤ 9:=by
     rw [List.length_map,List.length_cons,List.length_map,List.length_take]
     omega
    subst zzh
    (walk_at "RD")
    refine ⟨.inl ⟨_,SqL.of w2⟩,_,SqL.of (s2 _ _ l1),_,aq,wq,d,rfl,s2 _ _ eq,hW.k,n2,_,w2,Nat.lt_of_le_of_lt hl9 (by decide),s2.updN htl,n2.upd,?_,_,rfl⟩
    rw [db,oe hk,List.map_append,List.map_append,← Qt hd]
    rfl
   ·rintro σ H' zzq
    refine zzP fun zzM zzh=>?_
    obtain ⟨s2,n2,w2,x6,rfl⟩:=zzq
    subst zzh
    rw [List.length_map,List.take_length] at w2
    exact hD _ _ ⟨s2,n2,w2,_,rfl⟩
  rintro σ2 H2 ⟨s2,n2,w2,x6,rfl⟩
  subst zzh
  simp only [Bb]
  refine zzC (fun σ' H'=>Vb H H'∧NoT H'∧H' tl=some (.lst ((lcL n ds r.ix s.ix).map V.int))∧∃ x6 x7,σ'=[some (.int n),some (.ref wl),some (.ref sl),some (.int i),some (.int j),some (.ref tl),x6,x7]) (fun D' hD=>?_) fun zzM zzh=>?_
  ·(walk_at "RD")
   refine ⟨_,SqL.of (s2 _ _ SQ.at_),_,as,_,rfl,_,SqT.of (s2 _ _ es),_,Fb (j:=2) rfl,sm',rfl,⟨_,SqL.of (s2 _ _ esm)⟩,?_⟩
   refine Fi.list (xs:=s.ix.map fun k:Nat=>V.int k) (fun a σ H'=>Vb H H'∧NoT H'∧H' tl=some (.lst (((0 :: r.ix.map (Nr ds)) ++ (s.ix.take a).flatMap fun i=>lcX n ds s.ix i ds.length).map V.int))∧∃ x6 x7,σ=[some (.int n),some (.ref wl),some (.ref sl),some (.int i),some (.int j),some (.ref tl),x6,x7]) ⟨s2,n2,by rw [w2];simp,_,_,rfl⟩ (fun a σ H' ha ⟨s2,_⟩=>SqL.of (s2 _ _ esm)) ?_ ?_
   ·rintro a x σ H' hx zzq
    refine zzP fun zzM zzh=>?_
    obtain ⟨s3,n3,w3,x6,x7,rfl⟩:=zzq
    obtain ⟨k,hk,rfl⟩:=Mb hx
    obtain ⟨d,hd⟩:∃ d,ds[k]? = some d:=⟨_,List.getElem?_eq_getElem (hsL k (List.mem_of_getElem? hk))⟩
    obtain ⟨wq,aq,eq⟩:=wAt k d hd
    have hW:=X.ok d (List.mem_of_getElem? hd)
    have hal:a < s.ix.length:=(List.getElem?_eq_some_iff.mp hk).1
    have hlen:((0 :: r.ix.map (Nr ds)) ++ (s.ix.take a).flatMap fun i=>lcX n ds s.ix i ds.length).length ≤ 9 + 7 * 7:=by
     rw [List.length_append,List.length_cons,List.length_map]
     have h1:=RD n ds s.ix ds.length (s.ix.take a)
     rw [List.length_take] at h1
     have h2:(min a s.ix.length) * (ds.length + 1) ≤ 7 * 7:=Nat.mul_le_mul (by omega) (by omega)
     omega
    subst zzh
    generalize hLL:((0 :: r.ix.map (Nr ds)) ++ (s.ix.take a).flatMap fun i=>lcX n ds s.ix i ds.length)=LL at w3 hlen
    simp only [qe,Bb,List.set_cons_succ,List.set_cons_zero]
    refine zzC (fun σ' H'=>Vb H H'∧NoT H'∧H' tl=some (.lst ((LL ++ [Dz ds k]).map V.int))∧σ'=[some (.int n),some (.ref wl),some (.ref sl),some (.int i),some (.int j),some (.ref tl),some (.int (k:Int)),x7]) (fun D' hD'=>?_) fun zzM zzh=>?_
    ·(walk_at "RD")
     refine ⟨.inl ⟨_,SqL.of w3⟩,_,SqL.of (s3 _ _ l1),_,aq,wq,d,rfl,s3 _ _ eq,hW.k,n3,_,w3,Nat.lt_of_le_of_lt (show (LL.map V.int).length ≤ 58 by rw [List.length_map];exact hlen) (by decide),hD' _ _ ⟨s3.updN htl,n3.upd,?_,rfl⟩⟩
     rw [db,List.map_append,Cp hd]
     rfl
    rintro σ4 H4 ⟨s4,n4,w4,rfl⟩
    subst zzh
    (walk_at "RD")
    refine ⟨_,.inl (SqL.of (s4 _ _ l1)),by omega,by rw [hqn];omega,?_⟩
    rw [show (((ql.map V.ref).length:Nat):Int).toNat=ds.length by rw [hqn];rfl]
    refine Fi.range (fun b σ H'=>Vb H H'∧NoT H'∧H' tl=some (.lst ((LL ++ lcX n ds s.ix k b).map V.int))∧∃ x7,σ=[some (.int n),some (.ref wl),some (.ref sl),some (.int i),some (.int j),some (.ref tl),some (.int (k:Int)),x7]) ⟨s4,n4,w4,_,rfl⟩ ?_ ?_
    ·rintro b σ H5 hb zzq
     refine zzP fun zzM zzh=>?_
     obtain ⟨s5,n5,w5,x7',rfl⟩:=zzq
     have hdb:ds[b]? = some ds[b]:=List.getElem?_eq_getElem hb
     subst zzh
     generalize ds[b]=e at hdb
     obtain ⟨wb',ab,eb⟩:=wAt b e hdb
     have hWe:=X.ok e (List.mem_of_getElem? hdb)
     have hl5:((LL ++ lcX n ds s.ix k b).map V.int).length ≤ 70:=by
      rw [List.length_map,List.length_append]
      have:=QB n ds s.ix k b
      omega
     simp only [qe,List.set_cons_succ,List.set_cons_zero,Int.zero_add]
     refine Zb (lcP n ds s.ix k b) (fun Q hQ=>?_) (fun z=>?_) (fun z=>?_)
     ·(walk_at "RD")
      refine ⟨_,SqL.of (s5 _ _ SQ.at_),_,as,_,rfl,_,SqT.of (s5 _ _ es),_,Fb (j:=2) rfl,_,rfl,_,.inl (SqL.of (s5 _ _ esm)),rfl,by simp [Sk],?_⟩
      have hQ':=hQ
      unfold lcP at hQ'
      rw [RC hdb hd] at hQ'
      rw [cH]
      by_cases hm:b ∈ s.ix
      ·rw [decide_eq_true hm] at hQ' ⊢
       rw [if_neg (by decide)]
       exact hQ'
      ·rw [decide_eq_false hm] at hQ' ⊢
       rw [if_pos (by decide)]
       exact ⟨_,SqL.of (s5 _ _ l1),_,ab,_,SqL.of (s5 _ _ l1),_,aq,n,wb',wq,e,d,rfl,SqT.of (s5 _ _ eb),SqT.of (s5 _ _ eq),hWe,hW,mt n e d,rfl,hQ'⟩
     ·(walk_at "RD")
      refine ⟨.inl ⟨_,SqL.of w5⟩,_,SqL.of (s5 _ _ l1),_,ab,_,rfl,_,SqT.of (s5 _ _ eb),_,td4 e,_,SqL.of (s5 _ _ l1),_,aq,_,rfl,_,SqT.of (s5 _ _ eq),_,td5 d,_,rfl,_,rfl,_,w5,Nat.lt_of_le_of_lt hl5 (by decide),s5.updN htl,n5.upd,?_,_,rfl⟩
      rw [db,PM z,← List.append_assoc,List.map_append (l₁:=LL ++ lcX n ds s.ix k b),jD hdb hd]
      rfl
     ·simp only [Zd]
      exact ⟨s5,n5,by rw [w5,XM z],_,rfl⟩
    ·rintro σ H5 zzq
     refine zzP fun zzM zzh=>?_
     obtain ⟨s5,n5,w5,x7',rfl⟩:=zzq
     subst zzh
     refine ⟨s5,n5,?_,_,_,rfl⟩
     rw [w5,← hLL,oe hk]
     simp [List.flatMap_append]
   ·rintro σ H' zzq
    refine zzP fun zzM zzh=>?_
    obtain ⟨s2,n2,w2,x6,x7,rfl⟩:=zzq
    subst zzh
    rw [List.length_map,List.take_length] at w2
    exact hD _ _ ⟨s2,n2,w2,_,_,rfl⟩
  rintro σ3 H3 ⟨s3,n3,w3,x6,x7,rfl⟩
  subst zzh
  (walk_at "RD")
  obtain ⟨mx,h1,h2⟩:=tz (lcL n ds r.ix s.ix) (by unfold lcL;simp)
  exact ⟨_,SqL.of w3,mx,h1,h2,q mx H3 s3 ⟨h1,h2⟩⟩
 ·obtain ⟨n,wl,ds,sl,qs,ms,sts,i,j,r,s,rfl,L,SQ,X,hri,hsj,nt,q⟩:=h
  exact ⟨nt,n,wl,ds,sl,qs,ms,sts,i,j,r,s,rfl,L,SQ,X,hri,hsj,nt,fun v H' sm hv=>⟨sm,q v hv⟩⟩
theorem oM (T:Txt w K mg t):Jb P w K mg base CX0 12 t.MI t.VG ["_law_script"] (DK K):=by
 refine T.QM.ok Jj (fun vs H Q E h=>?_) (fun cdv A outer s H vs Q E hr h=>?_)
 ·obtain ⟨a,ns,rfl,_⟩:=h;rfl
 obtain ⟨a,ns,rfl,S0,h63,q⟩:=h
 have hu:=Zp hr
 have G__law_ways:Jb P w K mg base CX0 11 t.cj t.oj ["_law_script","_law_most"] (Kz K a ns):=(aG T a ns h63).mono (by decide)
 have G__law_text:Jb P w K mg base CX0 11 t.kj t.Ri ["_law_places","_law_ways_here"] (lz K):=(hG T).mono (by decide)
 have G_read_crossing:Jb P w K mg base CX0 11 t.zf t.gf ["text"] (YK t):=(WM T).mono (by decide)
 have G__law_stages:Jb P w K mg base CX0 11 t.Hg t.Lg ["_law_script","_law_places","_law_ways_here"] (Ws K):=(cA T).mono (by decide)
 have G__law_stages_text:Jb P w K mg base CX0 11 t.re t.pe ["_law_ways_here","_law_stages_here"] Ky:=(zG T).mono (by decide)
 have G_read_stages:Jb P w K mg base CX0 11 t.lf t.wf ["crossing","text"] (GH P w t):=(nM T).mono (by decide)
 have G_change:Jb P w K mg base CX0 11 t.Ro t.ap ["stages","one","other"] (EH P w t):=(eL T).mono (by decide)
 have G__law_change:Jb P w K mg base CX0 11 t.Gg t.Ig ["_law_places","_law_ways_here","_law_stages_here","_law_one","_law_other"] (yB K):=(BJ T).mono (by decide)
 refine ⟨_,(fb (XL (xb G__law_ways hr rfl T.Fx T.dm.kp T.Ux .nil Db (cb (pv 0) (cb jb gb))) (Hf (K:=K) (n:=2) rfl rfl (Ob (zb (i:=1) Jj.nd rfl (Or.inl rfl) (.inl rfl)) (Ob (zb (i:=2) Jj.nd rfl (Or.inl rfl) (.inl rfl)) Ff))))
   (fb (Eb (i:=3) Jj.nd rfl (Or.inl rfl) (xb G__law_stages hr rfl T.Vu T.Ti.kp T.Nt .nil Db (cb (pv 0) (cb (pv 1) (cb (pv 2) gb)))))
   (fb (Eb (i:=4) Jj.nd rfl (Or.inl rfl) (xb G_read_stages hr rfl T.Dt T.pj.kp T.yu .nil Db (cb (xb G_read_crossing hr rfl T.Mq T.gh.kp T.Ap .nil Db (cb (xb G__law_text hr rfl T.Ey T.Vl.kp T.Yx .nil Db (cb (pv 1) (cb (pv 2) gb))) gb)) (cb (xb G__law_stages_text hr rfl T.Ym T.jf.kp T.Nm .nil Db (cb (pv 2) (cb (pv 3) gb))) gb))))
   (fb (Eb (i:=5) Jj.nd rfl (Or.inl rfl) (se gb))
   (fb (Xd PassesOwn.never rfl (ze rfl T.jh (cb (nc Lb rfl T.Xh fc (cb (pv 3) gb)) gb)) (zb (i:=6) Jj.nd rfl (Or.inl rfl)) (ib (Xd PassesOwn.never rfl (ze rfl T.jh (cb (nc Lb rfl T.Xh fc (cb (pv 3) gb)) gb)) (zb (i:=7) Jj.nd rfl (Or.inl rfl)) (ib (Ge (ac wx (pv 6) (pv 7) (gc _)) (ib (Qb (Df PySem.F.plainAttrs_list PySem.F.slot_list_append PySem.F.type_list_append yd (pv 5) (cb (zq (cb (pv 6) (cb (pv 7) gb))) gb)))) Ec)))))
   (fb (Xd PassesOwn.never rfl (Kc (Nb wL (pv 5) (uA rfl rfl T.cL rfl T.WA (cb (pv 5) gb)))) (Hf (K:=K) (n:=2) rfl rfl (Ob (zb (i:=6) Jj.nd rfl (Or.inl rfl) (.inl rfl)) (Ob (zb (i:=7) Jj.nd rfl (Or.inl rfl) (.inl rfl)) Ff))) (fb (Eb (i:=8) Jj.nd rfl (Or.inl rfl) (xb G_change hr rfl T.GF T.gu.kp T.IG .nil Db (cb (pv 4) (cb (pv 6) (cb (pv 7) gb)))))
   (fb (Ge (PW.pt (Wz (vt (wj (nc Gy rfl T.Vn mi (cb (pv 8) (cb (YB (v:=.ty "int") rfl T.OG Kk rfl) gb))))) (Pw (wj (nc Gy rfl T.Vn mi (cb (pv 8) (cb (YB (v:=.ty "bool") rfl T.dL ay rfl) gb))))))) (ib (Kb Ev)) Ec)
   (ib (Ge (ac wx (pv 8) (xb G__law_change hr rfl T.Cu T.bj.kp T.Tu .nil Db (cb (pv 1) (cb (pv 2) (cb (pv 3) (cb (pv 6) (cb (pv 7) gb)))))) (gc _)) (ib (Kb Ev)) Ec)))))
   (ib (Kb Ev)))))))),?_⟩
 simp only [Bb]
 refine zzC (fun σ' H'=>Vb H H'∧Sc K a ns H'∧∃ wl n ds,LW H' wl ds∧CJ n ds∧(∀ d ∈ ds,d.least ≤ 4)∧(4 ≤ n∧n ≤ 99)∧(1 ≤ ds.length∧ds.length ≤ 6)∧σ'=[some (.ref a),some (.int n),some (.ref wl),none,none,none,none,none,none]) (fun D' hD=>?_) fun zzM zzh=>?_
 ·(walk_at "RD")
  exact ⟨6,rfl,by decide,S0,fun tp wl n ds H' s1 S1 e1 L D hle hn hl=>⟨tp,rfl,_,SqT.of e1,rfl,_,_,rfl,_,_,rfl,rfl,hD _ _ ⟨s1,S1,wl,n,ds,L,D,hle,hn,by omega,rfl⟩⟩⟩
 rintro σ1 H1 ⟨s1,S1,wl,n,ds,L,D,hle,hn,hdl,rfl⟩
 have mk30:∀ {sts:List SX},uM n ds sts→P30 n ds sts:=fun h=>⟨D.nd,h,hdl.2,hdl.1,fun d hd=>(D.al d hd).1⟩
 subst zzh
 simp only [Bb]
 refine zzC (fun σ' H'=>Vb H1 H'∧Sc K a ns H'∧∃ p1 q1 m1 x1,ZE H' p1 q1 m1 x1∧P30 n ds x1∧σ'=[some (.ref a),some (.int n),some (.ref wl),some (.ref p1),none,none,none,none,none]) (fun D' hD=>?_) fun zzM zzh=>?_
 ·(walk_at "RD")
  exact ⟨a,ns,n,wl,ds,rfl,h63,S1.seq,S1.nt,L,D,hle,by omega,fun p1 q1 m1 x1 H' s3 n3 Q1 X1=>hD _ _ ⟨s3,S1.same s3 n3,p1,q1,m1,x1,Q1,mk30 X1,rfl⟩⟩
 rintro σ2 H2 ⟨s2,S2,p1,q1,m1,x1,Q1,X1,rfl⟩
 have L2:=L.same s2
 subst zzh
 simp only [Bb]
 refine zzC (fun σ' H'=>Vb H2 H'∧Sc K a ns H'∧∃ pa c,Og P w t H' pa c n ds (Bf ds x1)∧σ'=[some (.ref a),some (.int n),some (.ref wl),some (.ref p1),some (.ref pa),none,none,none,none]) (fun D' hD=>?_) fun zzM zzh=>?_
 ·(walk_at "RD")
  exact ⟨n,wl,ds,rfl,L2,D,by omega,by omega,S2.nt,n,ds,rfl,D.cok (by omega) (by omega),S2.nt,fun c H' s3 n3 C3=>⟨wl,ds,p1,q1,m1,x1,rfl,L2.same s3,Q1.same s3,X1.sx,n3,c,n,ds,x1,rfl,C3,hn,X1,n3,fun pa H5 s5 n5 A1=>hD _ _ ⟨s3.trans s5,S2.same (s3.trans s5) n5,pa,c,A1,rfl⟩⟩⟩
 rintro σ3 H3 ⟨s3,S3,pa,c,A3,rfl⟩
 have L3:=L2.same s3
 have Q3:=Q1.same s3
 have hx6:=X1.len
 have hqn:(q1.map V.ref).length=x1.length:=by rw [List.length_map,Q1.l1]
 subst zzh
 simp only [Bb]
 refine zzC (fun σ' H'=>Vb H3 H'∧NoT H'∧∃ pl,H3 pl=none∧H' pl=some (.lst [])∧σ'=[some (.ref a),some (.int n),some (.ref wl),some (.ref p1),some (.ref pa),some (.ref pl),none,none,none]) (fun D' hD=>?_) fun zzM zzh=>?_
 ·(walk_at "RD")
  exact ⟨Nat.zero_le _,fun pl hpl=>hD _ _ ⟨pb hpl,S3.nt.upd,pl,hpl,db,rfl⟩⟩
 rintro σ4 H4 ⟨s4,n4,pl,hpl,w4,rfl⟩
 subst zzh
 simp only [Bb]
 refine zzC (fun σ' H'=>Vb H3 H'∧NoT H'∧(∃ ps,PR H' pl ps x1.length 36)∧∃ y6 y7,σ'=[some (.ref a),some (.int n),some (.ref wl),some (.ref p1),some (.ref pa),some (.ref pl),y6,y7,none]) (fun D' hD=>?_) fun zzM zzh=>?_
 ·(walk_at "RD")
  refine ⟨_,.inl (SqL.of (s4 _ _ Q3.at_)),by omega,by rw [hqn];omega,?_⟩
  rw [show (((q1.map V.ref).length:Nat):Int).toNat=x1.length by rw [hqn];rfl]
  refine Fi.range (fun i σ H'=>Vb H3 H'∧NoT H'∧(∃ ps,PR H' pl ps x1.length (6 * i))∧∃ y6 y7,σ=[some (.ref a),some (.int n),some (.ref wl),some (.ref p1),some (.ref pa),some (.ref pl),y6,y7,none]) ⟨s4,n4,⟨[],⟨w4,Nat.zero_le _,fun p h=>by cases h⟩⟩,_,_,rfl⟩ ?_ ?_
  ·rintro i σ H' hi zzq
   refine zzP fun zzM zzh=>?_
   obtain ⟨s5,n5,⟨ps,R5⟩,y6,y7,rfl⟩:=zzq
   subst zzh
   (walk_at "RD")
   refine ⟨_,.inl (SqL.of (s5 _ _ Q3.at_)),by omega,by rw [hqn];omega,?_⟩
   rw [show (((q1.map V.ref).length:Nat):Int).toNat=x1.length by rw [hqn];rfl]
   refine Fi.range (fun j σ H'=>Vb H3 H'∧NoT H'∧(∃ ps,PR H' pl ps x1.length (6 * i + j))∧∃ y7,σ=[some (.ref a),some (.int n),some (.ref wl),some (.ref p1),some (.ref pa),some (.ref pl),some (.int (i:Int)),y7,none]) ⟨s5,n5,⟨ps,R5⟩,_,rfl⟩ ?_ ?_
   ·rintro j σ H6 hj zzq
    refine zzP fun zzM zzh=>?_
    obtain ⟨s6,n6,⟨ps,R6⟩,y7,rfl⟩:=zzq
    subst zzh
    simp only [qe,List.set_cons_succ,List.set_cons_zero,Int.zero_add]
    refine Zb (decide (i ≠ j)) (fun Q hQ=>?_) (fun z=>?_) (fun z=>?_)
    ·(walk_at "RD")
     rw [show (!decide ((i:Int)=(j:Int)))=decide (i ≠ j) by rw [Bool.eq_iff_iff];simp;omega]
     exact hQ
    ·(walk_at "RD")
     have z':i ≠ j:=of_decide_eq_true z
     have hl6:=R6.len
     refine ⟨.inl ⟨_,SqL.of R6.at_⟩,by decide,fun p hp=>⟨_,(pb hp) _ _ R6.at_,Nat.lt_of_le_of_lt (show (ps.map V.ref).length ≤ 100 by rw [List.length_map];omega) (by decide),(s6.trans (pb hp)).updN hpl,n6.upd.upd,⟨ps ++ [p],?_,by rw [List.length_append];simp;omega,fun q hq=>?_⟩,_,rfl⟩⟩
     ·rw [db,List.map_append]
      rfl
     ·have hpp:p ≠ pl:=(vb R6.at_ hp).symm
      rcases List.mem_append.mp hq with h | h
      ·obtain ⟨a',b',e1,e2⟩:=R6.al q h
       have q1:q ≠ pl:=Vd e1 R6.at_ (by intro z;cases z)
       have q2:q ≠ p:=vb e1 hp
       exact ⟨a',b',by rw [lb q1,lb q2];exact e1,e2⟩
      ·rw [List.mem_singleton.mp h]
       exact ⟨i,j,by rw [lb hpp,db],z',hi,hj⟩
    ·simp only [Zd]
     exact ⟨s6,n6,⟨ps,R6.mono (by omega)⟩,_,rfl⟩
   ·rintro σ H6 zzq
    refine zzP fun zzM zzh=>?_
    obtain ⟨s6,n6,⟨ps,R6⟩,y7,rfl⟩:=zzq
    subst zzh
    exact ⟨s6,n6,⟨ps,R6.mono (by omega)⟩,_,_,rfl⟩
  ·rintro σ H6 zzq
   refine zzP fun zzM zzh=>?_
   obtain ⟨s6,n6,⟨ps,R6⟩,y6,y7,rfl⟩:=zzq
   subst zzh
   exact hD _ _ ⟨s6,n6,⟨ps,R6.mono (by omega)⟩,_,_,rfl⟩
 rintro σ5 H5 ⟨s5,n5,⟨ps,R5⟩,y6,y7,rfl⟩
 subst zzh
 (walk_at "RD")
 have hl36:=R5.len
 refine ⟨_,SqL.of R5.at_,fun l hl=>⟨_,(pb hl) _ _ R5.at_,_,db,Nat.le_trans (show (ps.map V.ref).length + (ps.map V.ref).reverse.length ≤ 72 by rw [List.length_reverse,List.length_map];omega) (by decide),fun p hp=>?_⟩⟩
 rw [show ps.map V.ref ++ (ps.map V.ref).reverse=(ps ++ ps.reverse).map V.ref by simp]
 have s6:=s5.trans ((pb (o:=.lst (ps.map V.ref).reverse) hl).trans (pb (o:=.lst ((ps ++ ps.reverse).map V.ref)) hp))
 have n6:NoT (upd (upd H5 l (.lst (ps.map V.ref).reverse)) p (.lst ((ps ++ ps.reverse).map V.ref))):=n5.upd.upd
 have a6:upd (upd H5 l (.lst (ps.map V.ref).reverse)) p (.lst ((ps ++ ps.reverse).map V.ref)) p=some (.lst ((ps ++ ps.reverse).map V.ref)):=db
 have al6:∀ q ∈ ps ++ ps.reverse,∃ a b:Nat,upd (upd H5 l (.lst (ps.map V.ref).reverse)) p (.lst ((ps ++ ps.reverse).map V.ref)) q=some (.tup [.int a,.int b])∧a ≠ b∧a < x1.length∧b < x1.length:=fun q hq=>by
  have hq':q ∈ ps:=by simpa using hq
  obtain ⟨a',b',e1,e2⟩:=R5.al q hq'
  exact ⟨a',b',(pb hp) _ _ ((pb hl) _ _ e1),e2⟩
 generalize upd (upd H5 l (.lst (ps.map V.ref).reverse)) p (.lst ((ps ++ ps.reverse).map V.ref))=H6 at s6 n6 a6 al6 ⊢
 refine ⟨⟨_,SqL.of a6⟩,?_⟩
 refine Fi.list (xs:=(ps ++ ps.reverse).map V.ref) (fun k σ H'=>H'=H6∧∃ y6 y7 y8,σ=[some (.ref a),some (.int n),some (.ref wl),some (.ref p1),some (.ref pa),some (.ref pl),y6,y7,y8]) ⟨rfl,_,_,_,rfl⟩ (fun k σ H' hk ⟨e,_⟩=>by rw [e];exact SqL.of a6) ?_ ?_
 ·rintro k x σ H' hx zzq
  refine zzP fun zzM zzh=>?_
  obtain ⟨rfl,y6,y7,y8,rfl⟩:=zzq
  obtain ⟨q',hq,rfl⟩:=Mb hx
  obtain ⟨i,j,e,hij,hi,hj⟩:=al6 q' (List.mem_of_getElem? hq)
  have hri:x1[i]? = some x1[i]:=List.getElem?_eq_getElem hi
  have hsj:x1[j]? = some x1[j]:=List.getElem?_eq_getElem hj
  subst zzh
  generalize x1[i]=r at hri
  generalize x1[j]=s at hsj
  have A6:=A3.same s6
  have hrL:∀ i ∈ r.ix,i < ds.length:=fun i hi=>X1.lt (List.mem_of_getElem? hri) hi
  have hsL:∀ i ∈ s.ix,i < ds.length:=fun i hi=>X1.lt (List.mem_of_getElem? hsj) hi
  (walk_at "RD")
  have hri':(Bf ds x1)[i]? = some (fH ds r):=by unfold Bf;rw [List.getElem?_map,hri];rfl
  have hsj':(Bf ds x1)[j]? = some (fH ds s):=by unfold Bf;rw [List.getElem?_map,hsj];rfl
  refine ⟨_,SqT.of e,rfl,_,_,rfl,_,_,rfl,rfl,pa,c,n,ds,Bf ds x1,i,j,fH ds r,fH ds s,rfl,A6,hri',hsj',hij,n6,fun v hv=>?_⟩
  refine Zb false (fun Q hQ=>?_) (fun z=>nomatch z) (fun _=>?_)
  ·(walk_at "RD")
   refine ⟨_,.int _,true,rfl,?_⟩
   rw [if_neg (by decide)]
   exact ⟨_,.int _,false,rfl,hQ⟩
  ·simp only [Zd]
   refine Zb false (fun Q hQ=>?_) (fun z=>nomatch z) (fun _=>?_)
   ·(walk_at "RD")
    refine ⟨n,wl,ds,p1,q1,m1,x1,i,j,r,s,rfl,L3.same s6,Q3.same s6,X1,hri,hsj,n6,fun u hu'=>?_⟩
    rw [bG X1.nd hrL hsL hv hu']
    refine ⟨rfl,?_⟩
    rw [decide_eq_true rfl]
    exact hQ
   ·simp only [Zd]
    exact ⟨trivial,_,_,_,rfl⟩
 ·rintro σ H' zzq
  refine zzP fun zzM zzh=>?_
  obtain ⟨rfl,y6,y7,y8,rfl⟩:=zzq
  subst zzh
  (walk_at "RD")
  exact q _
end
end My
structure PySem.W.Fast:Prop where(tw7320901785674515529 tw16728173087969507568 tw9520567834737743956 tw12531408683099574727 tw8492145115611172749 tw3199772775144649242 tw9145543878343296771 tw12820468008418965300 tw1562251828492116879 tw8766749714625434491 tw12754286530159611217 tw13671958910980775231 tw10350297812162880841 tw11026161698548337334 tw4283250557462549012 tw12580882613947568731 tw3954831161786423872 tw6827195853546916228 tw18375101847545792563 tw14355268281091725137 tw5768124521647567578 tw14733510550039393567 tw17893576276976159263 tw9600869832364131003 tw17641631696160059503 tw10739564023060999770 tw12556599178192916363 tw16747833028472963740 tw14107291213175438844 tw16943639692292882002 tw595331773845324033 tw3028164765605985994 tw6706646442266063999 tw635554255987716629 tw13718472884805896857 tw899383817016932089 tw10432775612626850851 tw3381588916426178484 tw9331425292901323168 tw9748139497751834357 tw12402675404614927381 tw9335578285456973312 tw17554716029943936436 tw5836763612583363549 tw7721337333806320845 tw4307954938303706412 tw3833018313134082358 tw567657577039382265 tw15054572354359756500 tw1078312832575048950 tw8242474775899210894 tw2103536918170405761 tw9392072457499869636 tw13278153297933296381 tw11523263297952827228 tw8221436721158712038 tw15782240643777077919 tw14568709786076348075 tw6567936995132939784 tw12173137584857312091 tw11148587052508774457 tw18283655543447183817 tw9062046971313235916 tw16311248722471613279 tw843024263796505005 tw2906279297995989423 tw3305495001104693804 tw11376301820498554067 tw16259165184091196961 tw10201409721623783234 tw12779351217012799862 tw13021344086369111446 tw13612669693471077225 tw8886621907397099465 tw6095287390075541806 tw2498415949526279962 tw17082692532873859594 tw15856370394302132452 tw18140331179871996460 tw1072840665428144821 tw18026300355980595624 tw17457085112957961913 tw15138346790614475559 tw16119254742664386363 tw8150232946672835741 tw10261427764935045492 tw14358737989918808992 tw8819762674898154370 tw11054613052367842356 tw7494977771738558602 tw14463107259118293241 tw16598383160031954351 tw16341418845586894922 tw7632077680944164546 tw16926853774921702317 tw2561703424337843855 tw1091823780514499373 tw14391496737099387822 tw4576657234496014168 tw8658348858631774858 tw12734009890235962662 tw14534660615356408826 tw1868140291582455941 tw4741990292353837324 tw14973608231374667307 tw8698254963797037845 tw10475912455076322671 tw5766994386701284256 tw1266118047813316117 tw10753269504827351037 tw139320906550168453 tw2516548748462500134 tw8477003668185787388 tw3738600220385274299 tw16078034921099582190 tw8292414968213197561 tw18266117844438436309 tw14962817778313744965 tw14947878286748681163 tw11167593945015237823 tw6569699383518874172 tw6208716742339156247 tw16910516367453839332 tw11062928356569357887 tw16314198996237087721 tw9130898508338854338 tw13446442997049307653 tw3916057812225411898 tw10043779865607447205 tw5130994608718881048 tw10815099093751771309 tw16009450212488440970 tw5513909342562683347 tw10349422317508112550 tw17696563662593721398 tw10310222501645468246 tw10580959936084454879 tw6946010523266593203 tw6807379400229265071 tw9006621436389056474 tw13440780912977922616 tw10258913610931338672 tw5229753548137601508 tw13823041180137537440 tw126159384843575645 tw16059653158788869 tw13242240583199042561 tw1913072401163439401 tw11999822134706103912 tw14628410780988874487 tw137944393423065146 tw9459308296924725179 tw7505003718830221968 tw1379341526500970811 tw5215890607074303581 tw8998798391896198495 tw13997701587956595095 tw201419744180106530 tw17372243327871000485 tw8290137786149662963 tw16062038498205229143 tw7331004330691834439 tw14624522907093946614 tw7050249671057027980 tw6571764303286245285 tw6405742567336639421 tw2045607477027420569 tw3664917007001072213 tw5091024940750691729 tw17521058287807032558 tw8865513050463190060 tw303107225213241411 tw17851873928619504918 tw17386859573094364151 tw11158413884943605639 tw14397250560934432766 tw15460296795952741345 tw3963808745865296044 tw14125824276105712041 tw11337630696101772769 tw14271814490825175372 tw2910517786211586040 tw2330246662037766477 tw9989008686093157214 tw17863007492188435608 tw11481735769768456608 tw2460106275346690999 tw16563202229050526446 tw17794433677668515661 tw17922550561534424640 tw6659077620068657739 tw15008515002830747457 tw13565331300890775227 tw9586144810015114766 tw9108568802669034610 tw509941431157926575 tw5196896577502745084 tw17752634676232700060 tw17126072909689644568 tw3486809714845478656 tw14839410149725640995 tw11781656112692013963 tw14321025007913077295 tw1749390992752141616 tw16020701808091240046 tw8062630848317259022 tw9042627224123978452 tw6656588463872583256 tw3013928364751030770 tw9335365568201940716 tw6137459137754116394 tw13990668481661040072 tw14999399093810108582 tw9411818460229147005 tw9875590635472805666 tw1471556711886118484 tw11037682915083477397 tw5812666355160365972 tw14614068791638677652 tw9026331961769120065 tw2232148599188779001 tw7210646864363943041 tw4665563740867913618 tw1741993804476308930 tw16401861321960990499 tw8471341391567675882 tw11301966655481780177 tw12182896804645614028 tw13898462700271090522 tw9588974203709215970 tw13089267723629162805 tw9837464844690211204 tw1668684238262790987 tw15884370818597892663 tw8192634025605923840 tw12340697648325216719 tw7476196558195407879 tw7336713615035706778 tw10582123428008446840 tw216554971181314272 tw17507818340409272446 tw14309035625812785712 tw7388156083280847700 tw5829560990289282580 tw2694845131886150185 tw2017107508173467597 tw15028134220297376910 tw12787098534025216828 tw1754965631252800065 tw8388752748425655841 tw13636300763371219478 tw11883998478150591799 tw12088621365106716956 tw2354235265872066915 tw12614544822622195646 tw10863634001039775051 tw11367977233271756038 tw5567165241890586245 tw16118989286711145823 tw583935460926120480 tw18364095803622237511 tw2826710977145896494 tw7561797908356440679 tw17419566991522008129 tw8869096925606530731 tw18177594515826729051 tw2389431572115162422 tw2668145333278341699 tw18168855041564353578 tw2542758541986367806 tw109527196173670493 tw13196457073989088167 tw2856120265181810527 tw13866346579868298362 tw7804135664431481594 tw15763782472063362373 tw2084478323687558111 tw4181511153877240696 tw3918164859599762911 tw5172298181100069670 tw678076260205538440 tw17448419926815681418 tw8861496585075051213 tw16948673498103429016 tw5081265249432169012 tw14565551986604933909 tw2068798151903269062 tw16618189560593775947 tw17179973017361447485 tw10641022467925033944 tw12868146148497483295 tw10201136408643320989 tw3553626042003259253 tw12728302925623597764 tw3089066702848226651 tw8797712638731678185 tw16177571521958356040 tw6278948476747301847 tw18315613918931703412 tw5172699205808068378 tw16334270809202708914 tw4225479186506238867 tw2871412976268391171 tw2968041394014878043 tw2981508952707214613 tw1298678588207074807 tw10574802949733582181 tw12972619813303558240 tw5914924017620744261 tw11187941412357862699 tw17515888331084630724 tw3277401536837629767 tw12726627253342152066 tw13719807638087287209 tw5780079379422056354 tw4525174698202393752 tw5678397912108326507 tw6390228429941057073 tw6929738108043377798 tw8076159184169269208 tw7208020760596835828 tw18371585481951505834 tw9911954927452235044 tw10070304483977679645 tw10666641237489544850 tw15690670172220371669 tw9727536205537762481 tw14098907198883364709 tw10666371916723689215 tw3507291385065206101 tw12632985114970186128 tw1266885383249900943 tw17339179778435174723 tw17055954005248594074 tw9389270464836357970 tw11767099035169410435 tw534731351171226476 tw2682295055326346597 tw6577828120030649730 tw16969087875688979985 tw10885890796581579820 tw15994494961747546773 tw17202701882942607446 tw9857475369038140361 tw3676543064268933863 tw10778940354649446002 tw17747706163301410633 tw12558751378794600439 tw18341427734364459392 tw631735775847827607 tw60640786861206396 tw8591689500405663565 tw1257300773280684318 tw10968690931695846368 tw17080220628642124206 tw18348010374882392733 tw14929932965513645875 tw1875670158910253424 tw871545663409675321 tw16969299318530845089 tw5127109539365311755 tw9483277032669331695 tw10580733208218216552 tw107735336565418247 tw14665677764234919216 tw16917022720362690418 tw4029241908495746767 tw782301179599067798 tw17784106592367708856 tw15657833653804253535 tw4569709363439369461 tw11383706163970996916 tw11011633157533605054 tw11133818944489767540 tw1844573707201935074 tw18225380891078109905 tw14588058819663483724 tw6837779849054101080 tw746611144663074562 tw1728940425521683643 tw11906191191526490777 tw1309089749368805904 tw11210424352884343627 tw4354212021953712134 tw7861100587411333462 tw4994253541571457251 tw10123141343226509763 tw784780924151217081 tw123769193609578956 tw7966416393730946172 tw8367122019853591092 tw9081892536696310556 tw16158644351725239228 tw6672213912239874143 tw11032336696640520265 tw8418618522167818347 tw7746097446937051568 tw2965712235063766152 tw4611655085741555172 tw5363374647875911469 tw5513278277687710812 tw16656158590988606558 tw15108956280425881908 tw7094829660318625396 tw9467064053476912416 tw12349159964354912840 tw17240310461705784383 tw7028084196153690841 tw5453499548971656232 tw3412979205759458008 tw12477605698221850577 tw17802795803459511369 tw16108410287169886910 tw18257004825850995422 tw10821228951959824381 tw2413885884567873322 tw11482794905371763749 tw1752537657867615769 tw14696732473726729087 tw4223033850511162533 tw17914753795770815478 tw9247230886851140293 tw7219203135695588659 tw77096298249318 tw8969523823360762093 tw9110778634380448741 tw9266063107345217145 tw4259362532738210276 tw5883856557381865760 tw17059299180385343857 tw12899828193491876755 tw9524984914790661438 tw8994739366790470043 tw8481432777521262337 tw5310213259920081881 tw12246653594929964216 tw5742653242092143486 tw12883440188183818753 tw17813719532828519474 tw7505031249123970306 tw9547193264346156839 tw1892069194524591852 tw2898435862685305593 tw15459231422143917356 tw6025596097794051290 tw14433846538916269810 tw18094454987403042863 tw15591933613300173945 tw9698695501327434012 tw12634651892808941079 tw10599277993224119008 tw11832428136209889627 tw5672443988443471310 tw15016066071348526524 tw2157325680101475428 tw14117478415320598739 tw3746525594728295705 tw3667792724798784658 tw15579016760095029594 tw9322047552502918867 tw7283216388732447818:True)
open PySem PySem.W PyProof.Rows
set_option maxRecDepth 100000 in
set_option maxHeartbeats 0 in
theorem PySem.Challenge.cw_lampway_k33_changes_holds : PySem.Challenge.rw_lampway_k33_changes.Holds := by
 w_on;o_law;k_head;(case hw=>w_witness2)
 k_fill
 refine L2.DF (l:=PySem.Challenge.rw_lampway_k33_changes) (n:=63) (k:=12) (x := "_law_script") (CX:=L2.CX0) (sp:=L2.DK) rfl (by decide) rfl ⟨rfl,by decide,by decide⟩ (fun w h Y=>PySem.W.kIn_of Y) ?F ?S ?C
 case F=>
  intro w mg fa h KX G hmg
  have T:∃ t,My.Txt w (L2.KOf KX) mg t:=by
   dsimp only [L2.KOf]
   refine' ⟨My.Adr.mk,⟨?maa,?Fab,?mac,?Fad,?mae,?Faf,?mag,?Fah,?mai,?Faj,?mak,?Fal,?mam,?Fan,?mao,?Fap,?maq,?Far,?mas,?Fat,?mau,?Fav,?maw,?Fax,?may,?Faz,?mba,?Fbb,?mbc,?Fbd,?mbe,?Fbf,?mbg,?Fbh,?mbi,?Fbj,?mbk,?Fbl,?mbm,?Fbn,?mbo,?Fbp,?mbq,?Fbr,?mbs,?Fbt,?mbu,?Fbv,?mbw,?Fbx,?mby,?Fbz,?mca,?Fcb,?mcc,?Fcd,?mce,?Fcf,?mcg,?Fch,?mci,?Fcj,?mck,?Fcl,?mcm,?Fcn,?mco,?Fcp,?mcq,?Fcr,?mcs,?Fct,?mcu,?Fcv,?mcw,?Fcx,?mcy,?Fcz,?mda,?edb,?Fdc,?mdd,?ede,?Fdf,?mdg,?edh,?Fdi,?mdj,?edk,?Fdl,?mdm,?edn,?Fdo,?edp,?Fdq,?edr,?Fds,?edt,?Fdu,?edv,?Fdw,?edx,?Fdy,?edz,?Fea,?eeb,?Fec,?med,?eee,?Fef,?meg,?eeh,?Fei,?mej,?eek,?Fel,?eem,?Fen,?eeo,?Fep,?meq,?eer,?Fes,?eet,?Feu,?eev,?Few,?mex,?eey,?Fez,?efa,?Ffb,?efc,?Ffd,?mfe,?eff,?Ffg,?efh,?Ffi,?efj,?Ffk,?efl,?Ffm,?sfn,?sfo,?sfp,?sfq,?sfr,?sfs,?sft,?sfu,?sfv,?nfw,?nfx,?nfy,?sfz,?sga,?ngb,?ngc,?ngd,?nge,?ngf,?ngg,?ngh,?ngi,?sgj,?ngk,?ngl,?ngm,?ngn,?ngo,?ngp,?ngq,?sgr,?sgs,?sgt,?sgu,?ngv,?ngw,?ngx,?ngy,?ngz,?nha,?nhb,?shc,?shd,?she,?shf,?nhg,?nhh,?nhi,?nhj,?nhk,?nhl,?nhm,?shn,?sho,?shp,?shq,?nhr,?nhs,?nht,?nhu,?nhv,?nhw,?nhx,?shy,?shz,?sia,?sib,?sic,?nid,?nie,?nif,?mig,?sih,?xii,?Xij,?nik,?nil,?rim,?rin,?rio,?rip,?riq,?xir,?Xis,?nit,?riu,?riv,?riw,?rix,?riy,?xiz,?Xja,?njb,?njc,?rjd,?rje,?rjf,?rjg,?rjh,?xji,?Xjj,?njk,?njl,?njm,?rjn,?rjo,?rjp,?rjq,?rjr,?djs,?djt,?dju,?djv,?djw,?djx,?sjy,?mjz,?vka,?mkb,?vkc,?mkd,?vke,?mkf,?vkg,?mkh,?vki,?mkj,?vkk,?mkl,?vkm,?mkn,?vko,?mkp,?vkq,?mkr,?vks,?mkt,?vku,?mkv,?vkw,?bkx,?bky,?bkz,?bla,?blb,?blc,?bld,?ble,?blf,?blg,?blh,?lli⟩⟩
   case maa | mac | mae | mag | mai | mak | mam | mao | maq | mas | mau | maw | may | mba | mbc | mbe | mbg | mbi | mbk | mbm | mbo | mbq | mbs | mbu | mbw | mby | mca | mcc | mce | mcg | mci | mck | mcm | mco | mcq | mcs | mcu | mcw | mcy | mda | mdd | mdg | mdj | mdm | med | meg | mej | meq | mex | mfe | mig | mjz | mkb | mkd | mkf | mkh | mkj | mkl | mkn | mkp | mkr | mkt | mkv=>(try dsimp only);refine' PySem.W.mg_of KX G ?z;case z=>k_is
   case edb | ede | edh | edk | edn | edp | edr | edt | edv | edx | edz | eeb | eee | eeh | eek | eem | eeo | eer | eet | eev | eey | efa | efc | eff | efh | efj | efl=>(try dsimp only);k_is
   case sfn | sfo | sfp | sfq | sfr | sfs | sft | sfu | sfv | sfz | sga | sgj | sgr | sgs | sgt | sgu | shc | shd | she | shf | shn | sho | shp | shq | shy | shz | sia | sib | sic | sih | sjy=>(try dsimp only);constructor <;> k_is
   case Fab | Fad | Faf | Fah | Faj | Fal | Fan | Fap | Far | Fat | Fav | Fax | Faz | Fbb | Fbd | Fbf | Fbh | Fbj | Fbl | Fbn | Fbp | Fbr | Fbt | Fbv | Fbx | Fbz | Fcb | Fcd | Fcf | Fch | Fcj | Fcl | Fcn | Fcp | Fcr | Fct | Fcv | Fcx | Fcz | Fdc | Fdf | Fdi | Fdl | Fdo | Fdq | Fds | Fdu | Fdw | Fdy | Fea | Fec | Fef | Fei | Fel | Fen | Fep | Fes | Feu | Few | Fez | Ffb | Ffd | Ffg | Ffi | Ffk | Ffm=>(try dsimp only);refine' L2.uL ?x ?y ?z;(case x=>k_is);(case y=>k_is);(case z=>k_is)
   case nfw | nfx | nfy | ngb | ngc | ngd | nge | ngf | ngg | ngh | ngi | ngk | ngl | ngm | ngn | ngo | ngp | ngq | ngv | ngw | ngx | ngy | ngz | nha | nhb | nhg | nhh | nhi | nhj | nhk | nhl | nhm | nhr | nhs | nht | nhu | nhv | nhw | nhx | nid | nie | nif | nik | nil | nit | njb | njc | njk | njl | njm=>(try dsimp only);unfold L2.Ib;k_is
   case rim | rin | rio | rip | riq | riu | riv | riw | rix | riy | rjd | rje | rjf | rjg | rjh | rjn | rjo | rjp | rjq | rjr=>(try dsimp only);kernel_rfl
   case xii | xir | xiz | xji=>(try dsimp only);refine' ⟨?_,by kernel_rfl,?_,?_,?_⟩ <;> k_is
   case Xij | Xis | Xja | Xjj=>(try dsimp only);refine' L2.NK ?x (by kernel_rfl) ?y;(case x=>k_is);(case y=>k_is)
   case djs | djt | dju | djv | djw | djx=>(try dsimp only);decide
   case vka | vkc | vke | vkg | vki | vkk | vkm | vko | vkq | vks | vku | vkw=>(try dsimp only);exact ⟨_,rfl⟩
   case bkx | bky | bkz | bla | blb | blc | bld | ble | blf | blg | blh=>(try dsimp only);refine' PySem.W.mg_none_of KX G ?z;case z=>k_is
   case lli=>(try dsimp only);exact fun _ _=>.of_eq rfl
  obtain ⟨t,T⟩:=T
  have e0:=hmg.symm.trans T.EM
  cases e0
  exact ⟨t.VG,T.JK,fun base kb nb=>My.oM T⟩
 case S=>exact fun K H a ns hl hO hS=>⟨a,ns,rfl,L2.Sc.of_only hO hS,hl,fun _=>rfl⟩
 case C=>exact fun _ _ _ _ z=>z
