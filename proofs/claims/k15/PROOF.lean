import PyProof.Rows.All
import Wide.All
import OpenK.AllK
import Wide.FinOn
import Lean
import PyProof.EqAt
import PyProof.EqKinds
import PyProof.TupleCall
import KE.KTryMore
import PyProof.NsDelKeeps
import PySem.Challenge.RW_lampway_k15_a_clash
set_option Elab.async false
set_option linter.all false
set_option maxRecDepth 100000
namespace L2
open PySem PySem.Spec PyProof.Rows
noncomputable abbrev Key:=Sum Int Str
noncomputable def iB:Key→Value→Bool
 | .inl k,v=>Value.isInt k v
 | .inr x,v=>Value.isStrOf x v
noncomputable def aR (w:World):Key→Int
 | .inl k=>hashInt k
 | .inr x=>hashStr w x
theorem ie:∀ {k:Key} {v:Value},iB k v=true→(∃ i t,k=Sum.inl i∧v=Value.int i t)∨(∃ x t,k=Sum.inr x∧v=Value.str x t)
 | .inl i,v,h=>by
  obtain ⟨t,e⟩:=Value.isInt_shape (k:=i) (v:=v) h
  exact .inl ⟨i,t,rfl,e⟩
 | .inr x,v,h=>by
  obtain ⟨t,e⟩:=Value.isStrOf_shape (x:=x) (v:=v) h
  exact .inr ⟨x,t,rfl,e⟩
theorem bF (i:Int) (t:Tok):iB (.inl i) (.int i t)=true:=by simp [iB,Value.isInt]
theorem FC (x:Str) (t:Tok):iB (.inr x) (.str x t)=true:=by simp [iB,Value.isStrOf]
theorem fO (a b:Int):decide ((Sum.inl a:Key)=Sum.inl b)=(a == b):=by
 by_cases e:a=b
 ·subst e;simp
 ·have h:¬ (Sum.inl a:Key)=Sum.inl b:=fun q=>e (Sum.inl.inj q)
  rw [decide_eq_false h]
  exact (beq_eq_false_iff_ne.mpr e).symm
theorem ON (a b:Str):decide ((Sum.inr a:Key)=Sum.inr b)=decide (a=b):=by
 by_cases e:a=b
 ·subst e;simp
 ·have h:¬ (Sum.inr a:Key)=Sum.inr b:=fun q=>e (Sum.inr.inj q)
  rw [decide_eq_false h,decide_eq_false e]
theorem nO (a:Int) (b:Str):decide ((Sum.inl a:Key)=Sum.inr b)=false:=decide_eq_false (fun q=>nomatch q)
theorem MO (a:Str) (b:Int):decide ((Sum.inr a:Key)=Sum.inl b)=false:=decide_eq_false (fun q=>nomatch q)
noncomputable def ff (prog:Program) (w:World):PySem.KeyKind prog w Key where
 is:=iB
 hash:=aR w
 inj:=fun v a b ha hb=>by
  rcases ie ha with ⟨i,t,rfl,rfl⟩ | ⟨x,t,rfl,rfl⟩
  ·rcases ie hb with ⟨j,u,rfl,e⟩ | ⟨y,u,rfl,e⟩
   ·injection e with e1 _;rw [e1]
   ·exact nomatch e
  ·rcases ie hb with ⟨j,u,rfl,e⟩ | ⟨y,u,rfl,e⟩
   ·exact nomatch e
   ·injection e with e1 _;rw [e1]
 byValue:=fun k v h=>by
  rcases ie h with ⟨i,t,rfl,rfl⟩ | ⟨x,t,rfl,rfl⟩ <;> rfl
 pyHash:=fun hv h=>by
  rcases ie hv with ⟨i,t,rfl,rfl⟩ | ⟨x,t,rfl,rfl⟩
  ·exact wpAny_pyHash_int h
  ·exact wpAny_pyHash_str h
 eqBool:=fun hu hv h=>by
  rcases ie hu with ⟨i,t,rfl,rfl⟩ | ⟨x,t,rfl,rfl⟩
  ·rcases ie hv with ⟨j,u,rfl,rfl⟩ | ⟨y,u,rfl,rfl⟩
   ·rw [fO] at h;exact wpAny_eqBool_int h
   ·rw [nO] at h;exact SeqAt.EqAt.int_str i t y u _ _ _ _ h
  ·rcases ie hv with ⟨j,u,rfl,rfl⟩ | ⟨y,u,rfl,rfl⟩
   ·rw [MO] at h;exact SeqAt.EqAt.str_int x t j u _ _ _ _ h
   ·rw [ON] at h;exact wpAny_eqBool_str h
 «strs»:=fun k x t v h=>by
  rcases ie h with ⟨i,u,rfl,e⟩ | ⟨y,u,rfl,e⟩
  ·exact nomatch e
  ·injection e with e1 _
   subst e1
   cases v <;> rfl
theorem ay (prog:Program) (w:World) (i:Int) (t:Tok):(ff prog w).is (.inl i) (.int i t)=true:=bF i t
theorem Ay (prog:Program) (w:World) (x:Str) (t:Tok):(ff prog w).is (.inr x) (.str x t)=true:=FC x t
end L2
namespace L2
open PySem PySem.Spec PyProof.Rows
inductive V where
 | non | bl (b:Bool) | int (i:Int) | str (x:Str) | byt (b:Array UInt8) | flt (b:UInt64) | ref (a:Addr) | ty (n:String)
 deriving DecidableEq
noncomputable def Md:V→Value→Prop
 | .non,u=>u=Value.none
 | .bl b,u=>u=Value.bool b
 | .int i,u=>∃ t,u=Value.int i t
 | .str x,u=>∃ t,u=Value.str x t
 | .byt b,u=>∃ t,u=Value.bytes b t
 | .flt b,u=>∃ t,u=Value.float b t
 | .ref a,u=>u=Value.ref a
 | .ty n,u=>u=Value.type n
noncomputable abbrev kd:List V→List Value→Prop:=Paired Md
theorem kd.length {xs:List V} {us:List Value} (r:kd xs us):xs.length=us.length:=Paired.length r
theorem kd.get:∀ {xs:List V} {us:List Value} {i:Nat} {x:V},kd xs us→xs[i]? = some x→∃ u,us[i]? = some u∧Md x u
 | _,_,_,_,.nil,e=>by simp at e
 | _,_,0,_,.cons r _,e=>by simp at e;subst e;exact ⟨_,rfl,r⟩
 | _,_,i + 1,x,.cons _ t,e=>by
  obtain ⟨u,h1,h2⟩:=kd.get (i:=i) (x:=x) t (by simpa using e)
  exact ⟨u,by simpa using h1,h2⟩
theorem kd.set {x:V} {u:Value} (r:Md x u):∀ {xs:List V} {us:List Value} (i:Nat),kd xs us→kd (xs.set i x) (us.set i u)
 | _,_,_,.nil=>.nil
 | _,_,0,.cons _ t=>.cons r t
 | _,_,i + 1,.cons q t=>.cons q (kd.set r i t)
theorem kd.append:∀ {xs ys:List V} {us ws:List Value},kd xs us→kd ys ws→kd (xs ++ ys) (us ++ ws)
 | _,_,_,_,.nil,s=>s
 | _,_,_,_,.cons r t,s=>.cons r (kd.append t s)
theorem kd.take:∀ {xs:List V} {us:List Value} (n:Nat),kd xs us→kd (xs.take n) (us.take n)
 | _,_,0,_=>.nil
 | _,_,_ + 1,.nil=>.nil
 | _,_,n + 1,.cons r t=>.cons r (kd.take n t)
theorem kd.drop:∀ {xs:List V} {us:List Value} (n:Nat),kd xs us→kd (xs.drop n) (us.drop n)
 | _,_,0,r=>r
 | _,_,_ + 1,.nil=>.nil
 | _,_,n + 1,.cons _ t=>kd.drop n t
theorem kd.none_of:∀ {xs:List V} {us:List Value} {i:Nat},kd xs us→xs[i]? = none→us[i]? = none:=fun {xs us i} r e=>by
 have h1:=r.length
 have h2:xs.length ≤ i:=List.getElem?_eq_none_iff.mp e
 exact List.getElem?_eq_none_iff.mpr (by omega)
noncomputable def Sr:Option V→Option Value→Prop
 | some v,some u=>Md v u
 | none,none=>True
 | _,_=>False
noncomputable def KV {κ:Type}:List (κ × V)→List (κ × Value)→Prop:=Paired fun (p:κ × V) (q:κ × Value)=>p.1=q.1∧Md p.2 q.2
noncomputable def kV:Key→V
 | .inl i=>.int i
 | .inr x=>.str x
inductive HO where
  | lst (xs:List V)
  | tup (xs:List V)
  | dK (kvs:List (Key × V)) | dT (kvs:List (List Key × V))
  | set (S:Int→Bool) (n:Nat)
  | ins (C dx:Addr) (fs:List (Str × V))
  | own (x:Addr)
  | xd (fs:List (Str × V))
  | met (f x:Addr)
  | rng (lo hi:Int)
  | frz (o:Obj) (u:HO)
  | tbl (ps:Array Value)
  | ext (φ:Heap→Prop)
noncomputable abbrev Hp:=Addr→Option HO
noncomputable def upd (H:Hp) (a:Addr) (o:HO):Hp:=fun b=>if b=a then some o else H b
theorem db {H:Hp} {a:Addr} {o:HO}:upd H a o a=some o:=by unfold upd;rw [if_pos rfl]
theorem lb {H:Hp} {a b:Addr} {o:HO} (h:b ≠ a):upd H a o b=H b:=by unfold upd;rw [if_neg h]
theorem Ui {H:Hp} {a:Addr} {o u:HO}:upd (upd H a o) a u=upd H a u:=by
 funext b;unfold upd;split <;> rfl
theorem Fe {H:Hp} {a b:Addr} {o u:HO} (h:H a=some o) (h':H b=some u) (d:o ≠ u):a ≠ b:=by
 intro e;subst e;rw [h] at h';exact d (Option.some.inj h')
theorem ub {H:Hp} {a b:Addr} {o:HO} (h:H a=some o) (h':H b=none):a ≠ b:=by
 intro e;subst e;rw [h] at h';cases h'
section
variable (P:Program) (w:World)
noncomputable def Gd (H:Hp) (h:Heap) (a:Addr):HO→Prop
 | .lst xs=>xs.length ≤ sizeLine∧∃ (its:List Value) (n:Nat),kd xs its∧h.get? a=some { cls:=.type "list",data:=.seq its.toArray n }
 | .tup xs=>xs.length ≤ sizeLine∧∃ its:List Value,kd xs its∧IsTup h a its.toArray
 | .dK kvs=>kvs.length ≤ sizeLine∧(a == sysModules)=false∧∃ vs,KV kvs vs∧h.DictOf (ff P w) a vs
 | .dT kvs=>kvs.length ≤ sizeLine∧(a == sysModules)=false∧∃ xs:List (List Key × Addr × Value),
   Paired (fun (p:List Key × V) (q:List Key × Addr × Value)=>p.1=q.1∧H q.2.1=some (.tup (p.1.map kV))∧Md p.2 q.2.2) kvs xs ∧
   ∃ o es ep,h.get? a=some o∧o.ExactDict∧o.data=.dict es ep∧es.toList=xs.map (entryOfKey (tupleKind (ff P w)))∧(xs.map (·.1)).Nodup
 | .set S n=>h.SetOf (intKind P w) a S n
 | .ins C dx fs=>H dx=some (.own a)∧fs.length ≤ 1000∧dx ≠ a∧h.get? a=some (PySem.W.instObj C dx) ∧
   ∃ mA,h.Ns1 dx mA∧(∀ f,Sr (fs.lookup f) (mA f))∧PySem.Within mA (fs.map (·.1))
 | .own _=>∃ o,h.get? a=some o
 | .xd fs=>∃ mA,h.Ns1 a mA∧∀ f,Sr (fs.lookup f) (mA f)
 | .rng lo hi=>∃ t u v,h.get? a=some { cls:=.type "range",data:=.fields #[.int lo t,.int hi u,.int 1 v] }
 | .frz o u=>h.get? a=some o∧Gd H h a u
 | .tbl ps=>h.get? a=some { cls:=.none,data:=.fields ps }
 | .met f x=>h.get? a=some (PySem.W.methodObj (.ref f) (.ref x))
 | .ext φ=>φ h∧(∃ o,h.get? a=some o)∧∀ h1 h2:Heap,φ h1→(∀ o,h1.get? a=some o→h2.get? a=some o)→φ h2
noncomputable def HOk (H:Hp) (h:Heap):Prop:=∀ a o,H a=some o→Gd P w H h a o
end
section
variable {P:Program} {w:World} {H H':Hp} {h h':Heap} {a:Addr} {o:HO}
theorem Gd.lt (x:Gd P w H h a o):a < h.objs.size:=by
 cases o with
 | lst xs=>obtain ⟨_,_,_,_,e⟩:=x;exact Heap.lt_size e
 | tup xs=>obtain ⟨_,_,_,p⟩:=x;exact p.lt
 | dK kvs=>obtain ⟨_,_,_,_,o,_,_,e,_⟩:=x;exact Heap.lt_size e
 | dT kvs=>obtain ⟨_,_,_,_,o,_,_,e,_⟩:=x;exact Heap.lt_size e
 | set S n=>obtain ⟨o,_,_,_,e,_⟩:=x;exact Heap.lt_size e
 | ins C dx fs=>obtain ⟨_,_,_,e,_⟩:=x;exact Heap.lt_size e
 | own y=>obtain ⟨_,e⟩:=x;exact Heap.lt_size e
 | xd fs=>obtain ⟨_,⟨_,_,_,e,_⟩,_⟩:=x;exact Heap.lt_size e
 | rng lo hi=>obtain ⟨_,_,_,e⟩:=x;exact Heap.lt_size e
 | frz ob u=>obtain ⟨e,_⟩:=x;exact Heap.lt_size e
 | tbl ps=>exact Heap.lt_size (show h.get? a=some _ from x)
 | met f y=>exact Heap.lt_size (show h.get? a=some _ from x)
 | ext φ=>obtain ⟨_,⟨_,e⟩,_⟩:=x;exact Heap.lt_size e
theorem Paired.mapP {α β:Type} {F G:α→β→Prop}:∀ {l₁:List α} {l₂:List β},Paired F l₁ l₂→(∀ a b,F a b→G a b)→Paired G l₁ l₂
 | _,_,.nil,_=>.nil
 | _,_,.cons r t,f=>.cons (f _ _ r) (Paired.mapP t f)
theorem Gd.stay (x:Gd P w H h a o) (k:∀ b u,(b=a∨H b=some (.own a))→h.get? b=some u→h'.get? b=some u)
  (ho:∀ b,H b=some (.own a)→H' b=some (.own a)) (ht:∀ b xs,H b=some (.tup xs)→H' b=some (.tup xs)):Gd P w H' h' a o:=by
 induction o with
 | lst xs=>obtain ⟨z,its,n,r,e⟩:=x;exact ⟨z,its,n,r,k _ _ (.inl rfl) e⟩
 | tup xs=>obtain ⟨z,its,r,ob,e,c⟩:=x;exact ⟨z,its,r,ob,k _ _ (.inl rfl) e,c⟩
 | dK kvs=>obtain ⟨z,y,vs,r,ob,es,ep,e,c⟩:=x;exact ⟨z,y,vs,r,ob,es,ep,k _ _ (.inl rfl) e,c⟩
 | dT kvs=>
  obtain ⟨z,y,xs,r,ob,es,ep,e,c⟩:=x
  exact ⟨z,y,xs,Paired.mapP r fun p q z=>⟨z.1,ht _ _ z.2.1,z.2.2⟩,ob,es,ep,k _ _ (.inl rfl) e,c⟩
 | set S n=>obtain ⟨ob,es,ep,t,e,c⟩:=x;exact ⟨ob,es,ep,t,k _ _ (.inl rfl) e,c⟩
 | ins C dx fs=>
  obtain ⟨d,z,ne,e,mA,⟨od,es,ep,e2,c⟩,r⟩:=x
  exact ⟨ho _ d,z,ne,k _ _ (.inl rfl) e,mA,⟨od,es,ep,k _ _ (.inr d) e2,c⟩,r⟩
 | own y=>obtain ⟨ob,e⟩:=x;exact ⟨ob,k _ _ (.inl rfl) e⟩
 | xd fs=>obtain ⟨mA,⟨od,es,ep,e,c⟩,r⟩:=x;exact ⟨mA,⟨od,es,ep,k _ _ (.inl rfl) e,c⟩,r⟩
 | rng lo hi=>obtain ⟨t,u,v,e⟩:=x;exact ⟨t,u,v,k _ _ (.inl rfl) e⟩
 | frz ob u ih=>obtain ⟨e,q⟩:=x;exact ⟨k _ _ (.inl rfl) e,ih q⟩
 | tbl ps=>
  have e:h.get? a=some { cls:=.none,data:=.fields ps }:=x
  show h'.get? a=some { cls:=.none,data:=.fields ps }
  exact k a _ (.inl rfl) e
 | met f y=>
  have e:h.get? a=some (PySem.W.methodObj (.ref f) (.ref y)):=x
  show h'.get? a=some (PySem.W.methodObj (.ref f) (.ref y))
  exact k a _ (.inl rfl) e
 | ext φ=>obtain ⟨p,⟨o,e⟩,st⟩:=x;exact ⟨st _ _ p fun o q=>k _ _ (.inl rfl) q,⟨o,k _ _ (.inl rfl) e⟩,st⟩
theorem HOk.lt (x:HOk P w H h) (e:H a=some o):a < h.objs.size:=(x a o e).lt
theorem HOk.fresh (x:HOk P w H h) (e:h.objs.size ≤ a):H a=none:=by
 cases q:H a with
 | none=>rfl
 | some u=>exact absurd (Nat.lt_of_lt_of_le (x.lt q) e) (Nat.lt_irrefl _)
theorem HOk.kept (x:HOk P w H h) (k:∀ b u,h.get? b=some u→h'.get? b=some u):HOk P w H h':=fun a o e=>
 (x a o e).stay (fun b u _ q=>k b u q) (fun _ q=>q) fun _ _ q=>q
theorem HOk.laid (x:HOk P w H h) (k:∀ b u,h.get? b=some u→h'.get? b=some u) (hp:h.objs.size ≤ a) (new:Gd P w (upd H a o) h' a o):HOk P w (upd H a o) h':=fun b u e=>by
 have hn:=x.fresh hp
 by_cases hb:b=a
 ·subst hb;rw [db] at e;cases e;exact new
 ·rw [lb hb] at e
  exact (x b u e).stay (fun c v _ q=>k c v q) (fun c q=>by rw [lb (ub q hn)];exact q) fun c xs q=>by rw [lb (ub q hn)];exact q
end
noncomputable def Rd (H:Hp) (a:Addr) (u:HO):Prop:=H a=some u∨∃ o,H a=some (.frz o u)
theorem Rd.of {H:Hp} {a:Addr} {u:HO} (h:H a=some u):Rd H a u:=.inl h
theorem Rd.ok {P:Program} {w:World} {H:Hp} {h:Heap} {a:Addr} {u:HO} (r:Rd H a u) (x:HOk P w H h):Gd P w H h a u:=by
 rcases r with r | ⟨o,r⟩
 ·exact x a u r
 ·obtain ⟨_,q⟩:=x a _ r
  exact q
noncomputable def Mut:Option HO→Prop
 | some (.lst _)=>True
 | some (.dK _)=>True
 | some (.dT _)=>True
 | some (.set _ _)=>True
 | some (.ins _ _ _)=>True
 | some (.ext _)=>True
 | _=>False
section
variable {P:Program} {w:World} {H:Hp} {h h':Heap} {x e:Addr} {o':HO}
theorem HOk.write (ok:HOk P w H h) (mu:Mut (H x)) (he:e=x∨H e=some (.own x)) (k:∀ b u,b ≠ e→h.get? b=some u→h'.get? b=some u) (heo:∃ u,h'.get? e=some u)
  (new:Gd P w (upd H x o') h' x o'):HOk P w (upd H x o') h':=fun b u q=>by
 have nown:∀ c y,H c=some (.own y)→c ≠ x:=fun c y r z=>by subst z;rw [r] at mu;exact mu
 have ntup:∀ c xs,H c=some (.tup xs)→c ≠ x:=fun c xs r z=>by subst z;rw [r] at mu;exact mu
 by_cases hb:b=x
 ·subst hb;rw [db] at q;cases q;exact new
 ·rw [lb hb] at q
  by_cases hbe:b=e
  ·have q':H b=some (.own x):=by
    rcases he with z | z
    ·exact absurd (hbe.trans z) hb
    ·rw [hbe];exact z
   rw [q] at q';cases q'
   obtain ⟨v,hv⟩:=heo
   exact ⟨v,by rw [hbe];exact hv⟩
  ·refine (ok b u q).stay (fun c v hc r=>k c v ?_ r) (fun c r=>by rw [lb (nown c b r)];exact r) fun c xs r=>by rw [lb (ntup c xs r)];exact r
   rcases hc with rfl | hc
   ·exact hbe
   ·rintro rfl
    rcases he with z | z
    ·exact nown c b hc z
    ·rw [hc] at z;cases z;exact hb rfl
end
structure Un (fs ex:List Addr) (H H':Hp) (h h':Heap):Prop where
 keep:∀ b o,h.get? b=some o→H b=none→b ∉ fs→b ∉ ex→h'.get? b=some o
 slot:∀ b o,h.get? b=some o→H b=none→b ∈ fs→b ∉ ex→∃ sl,h'.get? b=some { o with slots:=sl }
 free:∀ b o,h.get? b=some o→H b=none→b ∉ ex→H' b=none
 there:∀ b o,h.get? b=some o→b ∉ ex→∃ o',h'.get? b=some o'
 tups:∀ b xs,H b=some (.tup xs)→H' b=some (.tup xs)
 frzs:∀ b o u,H b=some (.frz o u)→H' b=some (.frz o u)
 tbls:∀ b ps,H b=some (.tbl ps)→∃ more,H' b=some (.tbl (ps ++ more))
section
variable {fs fs' ex ex':List Addr} {H H1 H2:Hp} {h h1 h2 h':Heap} {a x e:Addr} {o:HO}
theorem Un.any (u:Un fs ex H H1 h h1) {b:Addr} {ob:Obj} (q:h.get? b=some ob) (n:H b=none) (hx:b ∉ ex):∃ sl,h1.get? b=some { ob with slots:=sl }:=by
 by_cases hb:b ∈ fs
 ·exact u.slot b ob q n hb hx
 ·exact ⟨ob.slots,u.keep b ob q n hb hx⟩
theorem Un.trans (a:Un fs ex H H1 h h1) (b:Un fs ex H1 H2 h1 h2):Un fs ex H H2 h h2 where
 keep:=fun c ob q n hc hx=>b.keep c ob (a.keep c ob q n hc hx) (a.free c ob q n hx) hc hx
 slot:=fun c ob q n hc hx=>by
  obtain ⟨sl,e1⟩:=a.slot c ob q n hc hx
  obtain ⟨sl',e2⟩:=b.slot c _ e1 (a.free c ob q n hx) hc hx
  exact ⟨sl',e2⟩
 free:=fun c ob q n hx=>by
  obtain ⟨o',e1⟩:=a.there c ob q hx
  exact b.free c o' e1 (a.free c ob q n hx) hx
 there:=fun c ob q hx=>by
  obtain ⟨o',e1⟩:=a.there c ob q hx
  exact b.there c o' e1 hx
 tups:=fun c xs q=>b.tups c xs (a.tups c xs q)
 frzs:=fun c ob xs q=>b.frzs c ob xs (a.frzs c ob xs q)
 tbls:=fun c ps q=>by
  obtain ⟨m1,e1⟩:=a.tbls c ps q
  obtain ⟨m2,e2⟩:=b.tbls c _ e1
  exact ⟨m1 ++ m2,by rw [e2,Array.append_assoc]⟩
theorem Un.kept (k:∀ b u,h.get? b=some u→h'.get? b=some u):Un fs ex H H h h':=
 ⟨fun b ob q _ _ _=>k b ob q,fun b ob q _ _ _=>⟨ob.slots,k b ob q⟩,fun _ _ _ n _=>n,fun b ob q _=>⟨ob,k b ob q⟩,fun _ _ q=>q,fun _ _ _ q=>q,fun _ ps q=>⟨#[],by rw [q];simp⟩⟩
theorem Un.refl:Un fs ex H H h h:=Un.kept fun _ _ q=>q
theorem Un.laid (k:∀ b u,h.get? b=some u→h'.get? b=some u) (hp:h.objs.size ≤ a) (hn:H a=none):Un fs ex H (upd H a o) h h' where
 keep:=fun b u q _ _ _=>k b u q
 slot:=fun b u q _ _ _=>⟨u.slots,k b u q⟩
 free:=fun b u q n _=>by rw [lb (Nat.ne_of_lt (Nat.lt_of_lt_of_le (Heap.lt_size q) hp))];exact n
 there:=fun b u q _=>⟨u,k b u q⟩
 tups:=fun b xs q=>by rw [lb (ub q hn)];exact q
 frzs:=fun b u xs q=>by rw [lb (ub q hn)];exact q
 tbls:=fun b ps q=>⟨#[],by rw [lb (ub q hn),q];simp⟩
theorem Un.write (mu:Mut (H x)) (he:e=x∨H e=some (.own x)) (k:∀ b u,b ≠ e→h.get? b=some u→h'.get? b=some u) (heo:∃ u,h'.get? e=some u):Un fs ex H (upd H x o) h h':=by
 have hx:∀ b,H b=none→b ≠ x:=fun b n z=>by subst z;rw [n] at mu;exact mu
 have hb:∀ b,H b=none→b ≠ e:=fun b n z=>by
  subst z
  rcases he with r | r
  ·exact hx b n r
  ·rw [n] at r;cases r
 have hm:∀ b u,H b=some u→¬ Mut (some u)→b ≠ x:=fun b u q nm z=>by subst z;rw [q] at mu;exact nm mu
 refine ⟨fun b u q n _ _=>k b u (hb b n) q,fun b u q n _ _=>⟨u.slots,k b u (hb b n) q⟩,fun b u q n _=>by rw [lb (hx b n)];exact n,fun b u q _=>?_,
  fun b xs q=>by rw [lb (hm b _ q fun z=>z)];exact q,fun b u xs q=>by rw [lb (hm b _ q fun z=>z)];exact q,fun b ps q=>⟨#[],by rw [lb (hm b _ q fun z=>z),q];simp⟩⟩
 by_cases hbe:b=e
 ·subst hbe;exact heo
 ·exact ⟨u,k b u hbe q⟩
theorem Un.mono (u:Un fs ex H H1 h h1) (hs:∀ b ∈ fs,b ∈ fs') (hx:∀ b ∈ ex,b ∈ ex'):Un fs' ex' H H1 h h1:=
 ⟨fun b ob q n hb he=>u.keep b ob q n (fun z=>hb (hs b z)) fun z=>he (hx b z),fun _ _ q n _ he=>u.any q n fun z=>he (hx _ z),fun b ob q n he=>u.free b ob q n fun z=>he (hx b z),fun b ob q he=>u.there b ob q fun z=>he (hx b z),u.tups,u.frzs,u.tbls⟩
end
noncomputable def trk (h:Heap) (H:Hp):List Addr:=(List.range h.objs.size).filter fun a=>(H a).isSome
noncomputable def dH (h:Heap) (H:Hp):Heap:=PySem.W.hideAll h (trk h H)
theorem rC (h:Heap) (H:Hp):(dH h H).objs.size=h.objs.size:=PySem.W.hideAll_size _ _
theorem XH {h:Heap} {H:Hp} {b:Addr} {o:Obj} (e:h.get? b=some o) (n:H b=none):(dH h H).get? b=some o:=
 PySem.W.hideAll_get _ e fun hm=>by
  have q:(H b).isSome=true:=(List.mem_filter.mp hm).2
  rw [n] at q;simp at q
theorem GL {h:Heap} {H:Hp} {b:Addr} {o:Obj} (e:(dH h H).get? b=some o):h.get? b=some o∧H b=none:=by
 have e':h.get? b=some o:=PySem.W.of_hideAll (trk h H) e
 refine ⟨e',?_⟩
 cases q:H b with
 | none=>rfl
 | some x=>
  have hm:b ∈ trk h H:=List.mem_filter.mpr ⟨List.mem_range.mpr (Heap.lt_size e'),by simp [q]⟩
  have z:(dH h H).get? b=none:=PySem.W.hideAll_none (trk h H) hm
  rw [z] at e;cases e
noncomputable def VL (g h:Heap) (L:Addr):List (Addr × Obj):=(List.range h.objs.size).filterMap fun a=>if a=L∨(g.get? a).isSome=true then none else (h.get? a).map fun o=>(a,o)
noncomputable def rest (g h:Heap) (L d:Addr):List (Addr × Obj):=(VL g h L).filter fun p=>decide (p.1 ≠ d)
end L2
namespace L2
open PySem PySem.Spec PyProof.Rows
structure Mod (K:PySem.W.Frag) (mg:Str→Option Value) (base:Heap):Prop where
 kin:K.In base
 glob:base.Ns mainGlobals mg
 blt:∃ mb,base.Ns builtinsNs mb∧∀ x:Str,x ≠ "__name__" → mb x=bootBuiltins x
 nolimit:base.NoLimit
structure Cx where
 prog:Program
 w:World
 K:PySem.W.Frag
 mg:Str→Option Value
 base:Heap
 A:Around
 N:List Str
 s₀:Shared
 H₀:Hp
 env:Env
 outer:List Env
 stack:List Env
 ex:List Addr
 fn:Str→Bool
 calm:Bool
 pn:List (Addr × Obj)
 xe:Value→Shared→Prop
noncomputable def frs (l:List Env):List Addr:=l.filterMap (·.frame)
noncomputable abbrev Cx.fs (X:Cx):List Addr:=frs X.outer
noncomputable def Vis (sc:Scope) (x:Str):Prop:=sc.names.lookup x=some .local∨sc.names.lookup x=some .cell∨sc.names.lookup x=some .free
noncomputable def Loc (sc:Scope) (x:Str):Prop:=sc.names.lookup x=some .local∨sc.names.lookup x=some .cell
noncomputable def gR (env:Env) (h:Heap) (m:Str→Option Value) (x:Str) (u:Value):Prop:=
 (env.kindOf x=some .local∧m x=some u)∨((env.kindOf x=some .cell∨env.kindOf x=some .free)∧∃ c,env.cells.lookup x=some c∧h.IsCell c (some u))
structure Cx.Ok (X:Cx):Prop where
 mod:Mod X.K X.mg X.base
 kind:X.env.scope.kind=.function
 glob:X.env.globals=mainGlobals
 blt:X.env.builtins=builtinsNs
 above:X.s₀.heap.objs.size ≤ X.env.locals
 inj:∀ x y c,X.env.cells.lookup x=some c→X.env.cells.lookup y=some c→x=y
 has:∀ x,(X.env.kindOf x=some .cell∨X.env.kindOf x=some .free)→∃ c,X.env.cells.lookup x=some c
 cab:∀ x c,X.fn x=true→X.env.cells.lookup x=some c→X.s₀.heap.objs.size ≤ c
 hd:X.calm=true→X.A.handled=none
 frames:X.A.frames=some X.stack
 stk:X.stack=X.outer∨(X.stack=X.env :: X.outer∧X.env.frame=some X.env.locals)
 exf:∀ b ∈ X.ex,b ≠ X.env.locals∧∀ x c,X.env.cells.lookup x=some c→c ≠ b
 bs:∀ b o,X.base.get? b=some o→X.s₀.heap.get? b=some o∧X.H₀ b=none
 bsz:X.base.objs.size ≤ X.s₀.heap.objs.size
 noex:∀ b o,X.base.get? b=some o→b ∉ X.ex
 exfs:∀ b ∈ X.ex,b ∉ X.fs
 funs:X.s₀.heap.FunFrames X.base X.outer
 frf:∀ b ∈ X.fs,X.H₀ b=none
structure Inv (X:Cx) (pins:List (Addr × Obj)) (σ:List (Option V)) (H:Hp) (s:Shared):Prop where
 ok:X.Ok
 os:s.os=X.s₀.os
 bare:AllBare s.gens
 base:Un X.fs X.ex X.H₀ H X.s₀.heap s.heap
 loc:∃ m,s.heap.Ns X.env.locals m∧∀ (i:Nat) (x:Str) (v:V),X.N[i]? = some x→σ[i]? = some (some v)→Vis X.env.scope x→∃ u,Md v u∧gR X.env s.heap m x u
 cell:∀ x c,X.env.cells.lookup x=some c→∃ v,s.heap.IsCell c v
 free:H X.env.locals=none
 freeC:∀ x c,X.env.cells.lookup x=some c→H c=none
 pin:∀ p ∈ X.pn ++ pins,s.heap.get? p.1=some p.2∧H p.1=none∧p.1 ≠ X.env.locals∧p.1 ∉ X.fs∧∀ v,p.2.data ≠ .cell v
 hok:HOk X.prog X.w H s.heap
 len:σ.length=X.N.length
section
variable {X:Cx} {pins:List (Addr × Obj)} {σ:List (Option V)} {H H':Hp} {s:Shared} {h':Heap}
theorem Cx.Ok.nofr (ok:X.Ok) {b:Addr} {o:Obj} (e:X.base.get? b=some o):b ∉ X.fs:=fun hb=>by
 have:=(ok.funs.mem hb).1
 rw [e] at this;cases this
theorem Inv.bs (I:Inv X pins σ H s):∀ b o,X.base.get? b=some o→s.heap.get? b=some o∧H b=none:=fun b o e=>
 ⟨I.base.keep b o (I.ok.bs b o e).1 (I.ok.bs b o e).2 (I.ok.nofr e) (I.ok.noex b o e),I.base.free b o (I.ok.bs b o e).1 (I.ok.bs b o e).2 (I.ok.noex b o e)⟩
theorem Inv.bk (I:Inv X pins σ H s):∀ b o,X.base.get? b=some o→s.heap.get? b=some o:=fun b o e=>(I.bs b o e).1
theorem Inv.mod (I:Inv X pins σ H s):Mod X.K X.mg X.base:=I.ok.mod
theorem Inv.kIn (I:Inv X pins σ H s):X.K.In s.heap:=I.ok.mod.kin.keeps I.bk
theorem Inv.nolimit (I:Inv X pins σ H s):s.heap.NoLimit:=I.ok.mod.nolimit.keeps I.bk
theorem Inv.fr (I:Inv X pins σ H s):∃ m,Fr X.base X.env.locals s.heap m:=
 let ⟨m,hn,_⟩:=I.loc
 ⟨m,hn,I.bk,Nat.le_trans I.ok.bsz I.ok.above⟩
theorem Inv.lt (I:Inv X pins σ H s):X.env.locals < s.heap.objs.size:=let ⟨_,hn,_⟩:=I.loc;hn.lt
theorem Inv.sz (I:Inv X pins σ H s):X.s₀.heap.objs.size ≤ s.heap.objs.size:=Nat.le_trans I.ok.above (Nat.le_of_lt I.lt)
theorem Inv.nofs (I:Inv X pins σ H s) {a:Addr} (h:s.heap.objs.size ≤ a):a ∉ X.fs:=fun hb=>by
 obtain ⟨_,o,ho,_⟩:=I.ok.funs.mem hb
 exact absurd (Nat.lt_of_lt_of_le (Heap.lt_size ho) (Nat.le_trans I.sz h)) (Nat.lt_irrefl _)
theorem Inv.cne (I:Inv X pins σ H s):∀ x c,X.env.cells.lookup x=some c→c ≠ X.env.locals:=fun x c e z=>by
 obtain ⟨v,o,ho,hd⟩:=I.cell x c e
 obtain ⟨m,⟨o',es,ep,ho',hd',_⟩,_⟩:=I.loc
 rw [z,ho'] at ho;cases ho;rw [hd'] at hd;cases hd
theorem Inv.funs (I:Inv X pins σ H s):s.heap.FunFrames X.base X.outer:=by
 have all:∀ (l:List Env),(∀ b ∈ frs l,b ∈ X.fs)→X.s₀.heap.FunFrames X.base l→s.heap.FunFrames X.base l:=by
  intro l
  induction l with
  | nil=>intro _ _;trivial
  | cons env r ih=>
   intro hs hl
   obtain ⟨hk,⟨L,o,hf,hn,ho,hd⟩,hr⟩:=hl
   have hL:L ∈ X.fs:=hs L (by unfold frs;rw [List.filterMap_cons,hf];exact List.mem_cons_self)
   obtain ⟨sl,e⟩:=I.base.slot L o ho (I.ok.frf L hL) hL fun z=>I.ok.exfs L z hL
   exact ⟨hk,⟨L,_,hf,hn,e,hd⟩,ih (fun b hb=>hs b (by unfold frs;rw [List.filterMap_cons,hf];exact List.mem_cons_of_mem _ hb)) hr⟩
 exact all X.outer (fun _ hb=>hb) I.ok.funs
theorem Inv.stack (I:Inv X pins σ H s):s.heap.FunFrames X.base X.stack:=by
 rcases I.ok.stk with e | ⟨e,hf⟩
 ·rw [e];exact I.funs
 ·rw [e]
  obtain ⟨m,hn,_⟩:=I.loc
  refine .cons (by rw [I.ok.kind];decide) hf hn ?_ I.funs
  exact Heap.get?_none_of_le (Nat.le_trans I.ok.bsz I.ok.above)
theorem Inv.stkSub (I:Inv X pins σ H s):∀ b ∈ frs X.stack,b ∈ X.env.locals :: X.fs:=fun b hb=>by
 rcases I.ok.stk with e | ⟨e,hf⟩
 ·rw [e] at hb;exact List.mem_cons_of_mem _ hb
 ·rw [e] at hb
  unfold frs at hb
  rw [List.filterMap_cons,hf] at hb
  exact hb
theorem Inv.stkFree (I:Inv X pins σ H s):∀ b ∈ frs X.stack,H b=none:=fun b hb=>by
 rcases List.mem_cons.mp (I.stkSub b hb) with e | hb
 ·rw [e];exact I.free
 ·obtain ⟨_,o,ho,_⟩:=I.ok.funs.mem hb
  exact I.base.free b o ho (I.ok.frf b hb) fun z=>I.ok.exfs b z hb
theorem Inv.step {g':Array GenState} {t':Nat} {d':Drawn} {ch:List Addr} (I:Inv X pins σ H s)
  (hch:∀ b ∈ ch,(b ∈ X.ex∨X.s₀.heap.objs.size ≤ b)∧b ≠ X.env.locals∧(∀ x c,X.env.cells.lookup x=some c→c ≠ b)∧∀ p ∈ X.pn ++ pins,p.1 ≠ b)
  (keep:∀ b o,b ≠ X.env.locals→b ∉ X.fs→b ∉ ch→s.heap.get? b=some o→H b=none→h'.get? b=some o)
  (slot:∀ b o,b ≠ X.env.locals→b ∈ X.fs→b ∉ ch→s.heap.get? b=some o→H b=none→∃ sl,h'.get? b=some { o with slots:=sl }) (free:∀ b o,b ∉ ch→s.heap.get? b=some o→H b=none→H' b=none)
  (there:∀ b o,b ∉ ch→s.heap.get? b=some o→∃ o',h'.get? b=some o')
  (tups:∀ b xs,H b=some (.tup xs)→H' b=some (.tup xs)) (frzs:∀ b o u,H b=some (.frz o u)→H' b=some (.frz o u)) (tbls:∀ b ps,H b=some (.tbl ps)→∃ more,H' b=some (.tbl (ps ++ more)))
  (ns:∀ m,s.heap.Ns X.env.locals m→h'.Ns X.env.locals m) (hok:HOk X.prog X.w H' h') (hg:AllBare g') :
  Inv X pins σ H' { s with heap:=h',gens:=g',drawn:=d',toks:=t' }:=by
 have neL:∀ b o,X.s₀.heap.get? b=some o→b ≠ X.env.locals:=fun b o e=>Nat.ne_of_lt (Nat.lt_of_lt_of_le (Heap.lt_size e) I.ok.above)
 have neC:∀ b o,X.s₀.heap.get? b=some o→b ∉ X.ex→b ∉ ch:=fun b o e hx hb=>by
  rcases (hch b hb).1 with z | z
  ·exact hx z
  ·exact absurd (Nat.lt_of_lt_of_le (Heap.lt_size e) z) (Nat.lt_irrefl _)
 have cellK:∀ x c,X.env.cells.lookup x=some c→∀ v,s.heap.IsCell c v→h'.IsCell c v:=fun x c e v ⟨o,ho,hd⟩=>by
  have nch:c ∉ ch:=fun z=>(hch c z).2.2.1 x c e rfl
  by_cases hc:c ∈ X.fs
  ·obtain ⟨sl,q⟩:=slot c o (I.cne x c e) hc nch ho (I.freeC x c e)
   exact ⟨_,q,hd⟩
  ·exact ⟨o,keep c o (I.cne x c e) hc nch ho (I.freeC x c e),hd⟩
 refine ⟨I.ok,I.os,hg,⟨fun b o e n hb hx=>?_,fun b o e n hb hx=>?_,fun b o e n hx=>?_,fun b o e hx=>?_,fun b xs e=>tups b xs (I.base.tups b xs e),fun b o xs e=>frzs b o xs (I.base.frzs b o xs e),fun b ps e=>?_⟩,?_,fun x c e=>?_,?_,fun x c e=>?_,fun p hp=>?_,hok,I.len⟩
 ·exact keep b o (neL b o e) hb (neC b o e hx) (I.base.keep b o e n hb hx) (I.base.free b o e n hx)
 ·obtain ⟨sl,e1⟩:=I.base.slot b o e n hb hx
  obtain ⟨sl',e2⟩:=slot b _ (neL b o e) hb (neC b o e hx) e1 (I.base.free b o e n hx)
  exact ⟨sl',e2⟩
 ·obtain ⟨o',e1⟩:=I.base.there b o e hx
  exact free b o' (neC b o e hx) e1 (I.base.free b o e n hx)
 ·obtain ⟨o',e1⟩:=I.base.there b o e hx
  exact there b o' (neC b o e hx) e1
 ·obtain ⟨m1,e1⟩:=I.base.tbls b ps e
  obtain ⟨m2,e2⟩:=tbls b _ e1
  exact ⟨m1 ++ m2,by rw [e2,Array.append_assoc]⟩
 ·obtain ⟨m,hn,hl⟩:=I.loc
  refine ⟨m,ns m hn,fun i x v e1 e2 e3=>?_⟩
  obtain ⟨u,r,l⟩:=hl i x v e1 e2 e3
  refine ⟨u,r,?_⟩
  rcases l with l | ⟨k,c,e,z⟩
  ·exact .inl l
  ·exact .inr ⟨k,c,e,cellK x c e _ z⟩
 ·obtain ⟨v,z⟩:=I.cell x c e
  exact ⟨v,cellK x c e v z⟩
 ·obtain ⟨m,⟨o,_,_,ho,_⟩,_⟩:=I.loc
  exact free _ o (fun z=>(hch _ z).2.1 rfl) ho I.free
 ·obtain ⟨v,o,ho,hd⟩:=I.cell x c e
  exact free c o (fun z=>(hch c z).2.2.1 x c e rfl) ho (I.freeC x c e)
 ·obtain ⟨e,n,ne,nf,d⟩:=I.pin p hp
  have nch:p.1 ∉ ch:=fun z=>(hch p.1 z).2.2.2 p hp rfl
  exact ⟨keep p.1 p.2 ne nf nch e n,free p.1 p.2 nch e n,ne,nf,d⟩
theorem Inv.un {t':Nat} (I:Inv X pins σ H s) (u:Un X.fs [] H H' s.heap h') (hok:HOk X.prog X.w H' h'):Inv X pins σ H' { s with heap:=h',toks:=t' }:=by
 obtain ⟨m,⟨o,es,ep,ho,r⟩,_⟩:=id I.loc
 obtain ⟨sl,hL⟩:=u.any ho I.free (by simp)
 exact I.step (g':=s.gens) (d':=s.drawn) (ch:=[]) (fun _ z=>nomatch z) (fun b o _ hb _ e n=>u.keep b o e n hb (by simp)) (fun b o _ hb _ e n=>u.slot b o e n hb (by simp)) (fun b o _ e n=>u.free b o e n (by simp)) (fun b o _ e=>u.there b o e (by simp)) u.tups u.frzs u.tbls (fun m' hm=>by
  obtain ⟨o',es',ep',ho',r'⟩:=hm
  rw [ho] at ho';cases ho'
  exact ⟨_,es',ep',hL,r'⟩) hok I.bare
theorem Inv.call {g':Array GenState} {t':Nat} {d':Drawn} {ch:List Addr} (I:Inv X pins σ H s) (u:Un (frs X.stack) ch H H' s.heap h') (hok:HOk X.prog X.w H' h') (hg:AllBare g')
  (hch:∀ b ∈ ch,(b ∈ X.ex∨X.s₀.heap.objs.size ≤ b)∧b ≠ X.env.locals∧(∀ x c,X.env.cells.lookup x=some c→c ≠ b)∧∀ p ∈ X.pn ++ pins,p.1 ≠ b) :
  Inv X pins σ H' { s with heap:=h',gens:=g',drawn:=d',toks:=t' }:=by
 obtain ⟨m,⟨o,es,ep,ho,r⟩,_⟩:=id I.loc
 obtain ⟨sl,hL⟩:=u.any ho I.free fun z=>(hch _ z).2.1 rfl
 exact I.step (ch:=ch) hch (fun b o hL hb hc e n=>u.keep b o e n (fun z=>(List.mem_cons.mp (I.stkSub b z)).elim hL hb) hc) (fun b o _ _ hc e n=>u.any e n hc) (fun b o hc e n=>u.free b o e n hc) (fun b o hc e=>u.there b o e hc) u.tups u.frzs u.tbls (fun m' hm=>by
  obtain ⟨o',es',ep',ho',r'⟩:=hm
  rw [ho] at ho';cases ho'
  exact ⟨_,es',ep',hL,r'⟩) hok hg
theorem Inv.turned {t':Nat} {it:Addr} (I:Inv X pins σ H s) (k:∀ b o,b ≠ it→s.heap.get? b=some o→h'.get? b=some o) (hn:H it=none) (hL:it ≠ X.env.locals)
  (h1:it ∈ X.ex∨X.s₀.heap.objs.size ≤ it) (h2:∀ x c,X.env.cells.lookup x=some c→c ≠ it) (h3:∀ p ∈ X.pn ++ pins,p.1 ≠ it):Inv X pins σ H { s with heap:=h',toks:=t' }:=by
 have nit:∀ b u,H b=some u→b ≠ it:=fun b u e z=>by rw [z,hn] at e;cases e
 refine I.step (g':=s.gens) (d':=s.drawn) (ch:=[it]) (fun b hb=>?_) (fun b o _ _ hc e _=>k b o (fun z=>hc (by simp [z])) e) (fun b o _ _ hc e _=>⟨o.slots,k b o (fun z=>hc (by simp [z])) e⟩) (fun _ _ _ _ n=>n)
  (fun b o hc e=>⟨o,k b o (fun z=>hc (by simp [z])) e⟩) (fun _ _ e=>e) (fun _ _ _ e=>e) (fun b ps e=>⟨#[],by rw [e];simp⟩) (fun m hm=>?_) (fun b u e=>?_) I.bare
 ·have e:b=it:=by simpa using hb
  subst e
  exact ⟨h1,hL,h2,h3⟩
 ·obtain ⟨o,es,ep,ho,r⟩:=hm
  exact ⟨o,es,ep,k _ o (Ne.symm hL) ho,r⟩
 ·refine (I.hok b u e).stay (fun c v hc q=>k c v ?_ q) (fun _ q=>q) fun _ _ q=>q
  rcases hc with z | z
  ·rw [z];exact nit b u e
  ·exact nit c _ z
theorem Inv.tok (I:Inv X pins σ H s) (t:Nat):Inv X pins σ H { s with toks:=t }:=I.un (h':=s.heap) (t':=t) Un.refl I.hok
theorem Inv.kept {t':Nat} (I:Inv X pins σ H s) (k:∀ b u,s.heap.get? b=some u→h'.get? b=some u):Inv X pins σ H { s with heap:=h',toks:=t' }:=I.un (Un.kept k) (I.hok.kept k)
theorem Inv.laid {a:Addr} {o:HO} {t':Nat} (I:Inv X pins σ H s) (k:∀ b u,s.heap.get? b=some u→h'.get? b=some u) (hp:s.heap.objs.size ≤ a) (new:Gd X.prog X.w (upd H a o) h' a o) :
  Inv X pins σ (upd H a o) { s with heap:=h',toks:=t' }:=I.un (Un.laid k hp (I.hok.fresh hp)) (I.hok.laid k hp new)
theorem Inv.write {x e:Addr} {o:HO} {t':Nat} (I:Inv X pins σ H s) (mu:Mut (H x)) (he:e=x∨H e=some (.own x)) (k:∀ b u,b ≠ e→s.heap.get? b=some u→h'.get? b=some u) (heo:∃ u,h'.get? e=some u)
  (new:Gd X.prog X.w (upd H x o) h' x o):Inv X pins σ (upd H x o) { s with heap:=h',toks:=t' }:=I.un (Un.write mu he k heo) (I.hok.write mu he k heo new)
theorem Inv.weak {σ':List (Option V)} (I:Inv X pins σ H s) (hl:σ'.length=σ.length) (w:∀ (i:Nat) v,σ'[i]? = some (some v)→σ[i]? = some (some v)):Inv X pins σ' H s:=
 ⟨I.ok,I.os,I.bare,I.base,let ⟨m,hn,hl'⟩:=I.loc;⟨m,hn,fun i x v e1 e2 e3=>hl' i x v e1 (w i v e2) e3⟩,I.cell,I.free,I.freeC,I.pin,I.hok,hl.trans I.len⟩
theorem Inv.pins_of {pins':List (Addr × Obj)} (I:Inv X pins σ H s) (h:∀ p ∈ pins',s.heap.get? p.1=some p.2∧H p.1=none∧p.1 ≠ X.env.locals∧p.1 ∉ X.fs∧∀ v,p.2.data ≠ .cell v):Inv X pins' σ H s:=
 ⟨I.ok,I.os,I.bare,I.base,I.loc,I.cell,I.free,I.freeC,fun p hp=>(List.mem_append.mp hp).elim (fun z=>I.pin p (List.mem_append_left _ z)) (h p),I.hok,I.len⟩
theorem xu {N:List Str} (hN:N.Nodup) {i j:Nat} {x:Str} (a:N[i]? = some x) (b:N[j]? = some x):i=j:=by
 obtain ⟨h1,e1⟩:=List.getElem?_eq_some_iff.mp a
 obtain ⟨h2,e2⟩:=List.getElem?_eq_some_iff.mp b
 exact (List.getElem_inj hN).mp (e1.trans e2.symm)
theorem fw {M:Model} {A:Around} {E:Value→Shared→Prop} {i:Nat} {x:Str} {v:V} {u:Value} {Q:Unit→Shared→Prop} (I:Inv X pins σ H s) (hN:X.N.Nodup) (hi:X.N[i]? = some x) (hx:Loc X.env.scope x) (r:Md v u)
  (h:∀ s',Inv X pins (σ.set i (some v)) H s'→(∃ a,Heap.SameBut a s.heap s'.heap∧(a=X.env.locals∨X.env.cells.lookup x=some a))→Q () s') (hf:X.fn x=true∨X.env.scope.names.lookup x=some .local:=by first | exact .inl rfl | exact .inr rfl | assumption):wpAny M A (storeName X.env x u) Q E s:=by
 obtain ⟨m,hn,hl⟩:=id I.loc
 have hcls:(X.env.scope.kind == .class || (X.env.scope.kind == .module && X.env.locals != X.env.globals))=false:=by rw [I.ok.kind];rfl
 have hiσ:i < σ.length:=by rw [I.len];exact (List.getElem?_eq_some_iff.mp hi).1
 have cne:=I.cne
 have tracked:∀ {a:Addr} {h':Heap},(∃ o,s.heap.get? a=some o∧H a=none)→Heap.SameBut a s.heap h'→HOk X.prog X.w H h':=fun {a h'} ha hs b ob e=>by
  obtain ⟨_,_,hfree⟩:=ha
  refine (I.hok b ob e).stay (fun c w' hc q=>(hs.2 c ?_).trans q) (fun _ q=>q) fun _ _ q=>q
  rintro rfl
  rcases hc with rfl | hc
  ·rw [hfree] at e;cases e
  ·rw [hfree] at hc;cases hc
 rcases hx with hk | hk
 ·refine wpAny_storeName_local hk hn (fun h' hn' hs=>?_) hcls
  obtain ⟨oL,_,_,hoL,_⟩:=id hn
  refine h _ ⟨I.ok,I.os,I.bare,⟨fun b o e n hb hx=>?_,fun b o e n hb hx=>?_,I.base.free,fun b o e hx=>?_,I.base.tups,I.base.frzs,I.base.tbls⟩,⟨_,hn',fun j y v' e1 e2 e3=>?_⟩,fun y c e=>?_,I.free,I.freeC,fun p hp=>?_,tracked ⟨oL,hoL,I.free⟩ hs,by simpa using I.len⟩ ⟨_,hs,.inl rfl⟩
  ·exact (hs.2 b (Nat.ne_of_lt (Nat.lt_of_lt_of_le (Heap.lt_size e) I.ok.above))).trans (I.base.keep b o e n hb hx)
  ·obtain ⟨sl,e1⟩:=I.base.slot b o e n hb hx
   exact ⟨sl,(hs.2 b (Nat.ne_of_lt (Nat.lt_of_lt_of_le (Heap.lt_size e) I.ok.above))).trans e1⟩
  ·obtain ⟨o',e1⟩:=I.base.there b o e hx
   exact ⟨o',(hs.2 b (Nat.ne_of_lt (Nat.lt_of_lt_of_le (Heap.lt_size e) I.ok.above))).trans e1⟩
  ·by_cases hj:j=i
   ·subst hj
    rw [hi] at e1;cases e1
    rw [List.getElem?_set_self hiσ] at e2
    cases e2
    exact ⟨u,r,.inl ⟨hk,by simp⟩⟩
   ·rw [List.getElem?_set_ne (Ne.symm hj)] at e2
    obtain ⟨u',r',q⟩:=hl j y v' e1 e2 e3
    refine ⟨u',r',?_⟩
    rcases q with ⟨k,e⟩ | ⟨k,c,e,z⟩
    ·refine .inl ⟨k,?_⟩
     have:y ≠ x:=fun e=>hj (xu hN e1 (e ▸ hi))
     simp [this,e]
    ·exact .inr ⟨k,c,e,z.sameBut hs (cne y c e)⟩
  ·obtain ⟨w',z⟩:=I.cell y c e
   exact ⟨w',z.sameBut hs (cne y c e)⟩
  ·obtain ⟨e,n,ne,nf,d⟩:=I.pin p hp
   exact ⟨(hs.2 p.1 ne).trans e,n,ne,nf,d⟩
 ·have hfn:X.fn x=true:=by
   rcases hf with z | z
   ·exact z
   ·rw [z] at hk;cases hk
  obtain ⟨c,hc⟩:=I.ok.has x (.inl hk)
  obtain ⟨w',z⟩:=I.cell x c hc
  refine wpAny_storeName_cell I.ok.kind hk hc z (fun h' hc' hs=>?_)
  obtain ⟨oc,hoc,hocd⟩:=id z
  refine h { s with heap:=h' } ⟨I.ok,I.os,I.bare,⟨fun b o e n hb hx=>?_,fun b o e n hb hx=>?_,I.base.free,fun b o e hx=>?_,I.base.tups,I.base.frzs,I.base.tbls⟩,⟨m,hn.sameBut hs (Ne.symm (cne x c hc)),fun j y v' e1 e2 e3=>?_⟩,fun y c' e=>?_,I.free,I.freeC,fun p hp=>?_,tracked ⟨oc,hoc,I.freeC x c hc⟩ hs,by simpa using I.len⟩ ⟨c,hs,.inr hc⟩
  ·exact (hs.2 b (Nat.ne_of_lt (Nat.lt_of_lt_of_le (Heap.lt_size e) (I.ok.cab x c hfn hc)))).trans (I.base.keep b o e n hb hx)
  ·obtain ⟨sl,e1⟩:=I.base.slot b o e n hb hx
   exact ⟨sl,(hs.2 b (Nat.ne_of_lt (Nat.lt_of_lt_of_le (Heap.lt_size e) (I.ok.cab x c hfn hc)))).trans e1⟩
  ·obtain ⟨o',e1⟩:=I.base.there b o e hx
   exact ⟨o',(hs.2 b (Nat.ne_of_lt (Nat.lt_of_lt_of_le (Heap.lt_size e) (I.ok.cab x c hfn hc)))).trans e1⟩
  ·by_cases hj:j=i
   ·subst hj
    rw [hi] at e1;cases e1
    rw [List.getElem?_set_self hiσ] at e2
    cases e2
    exact ⟨u,r,.inr ⟨.inl hk,c,hc,hc'⟩⟩
   ·rw [List.getElem?_set_ne (Ne.symm hj)] at e2
    obtain ⟨u',r',q⟩:=hl j y v' e1 e2 e3
    refine ⟨u',r',?_⟩
    rcases q with q | ⟨k,c',e,z'⟩
    ·exact .inl q
    ·refine .inr ⟨k,c',e,z'.sameBut hs ?_⟩
     rintro rfl
     exact hj (xu hN e1 (I.ok.inj _ _ _ e hc ▸ hi))
  ·by_cases hcc:c'=c
   ·subst hcc;exact ⟨_,hc'⟩
   ·obtain ⟨w2,z2⟩:=I.cell y c' e
    exact ⟨w2,z2.sameBut hs hcc⟩
  ·obtain ⟨e,n,ne,nf,d⟩:=I.pin p hp
   refine ⟨(hs.2 p.1 ?_).trans e,n,ne,nf,d⟩
   intro q
   rw [q,hoc] at e
   have q':oc=p.2:=Option.some.inj e
   exact d w' (by rw [← q'];exact hocd)
theorem Qp {M:Model} {A:Around} {E:Value→Shared→Prop} {i:Nat} {x:Str} {v:V} {u:Value} {Q:Unit→Shared→Prop} (I:Inv X pins σ H s) (hN:X.N.Nodup) (hi:X.N[i]? = some x) (hx:Loc X.env.scope x) (r:Md v u)
  (h:∀ s',Inv X pins (σ.set i (some v)) H s'→Q () s') (hf:X.fn x=true∨X.env.scope.names.lookup x=some .local:=by first | exact .inl rfl | exact .inr rfl | assumption):wpAny M A (storeName X.env x u) Q E s:=
 fw I hN hi hx r (fun s' I' _=>h s' I') hf
theorem Inv.call' {s':Shared} {ch:List Addr} (I:Inv X pins σ H s) (ho:s'.os=s.os) (u:Un (frs X.stack) ch H H' s.heap s'.heap) (hok:HOk X.prog X.w H' s'.heap) (hg:AllBare s'.gens)
  (hch:∀ b ∈ ch,(b ∈ X.ex∨X.s₀.heap.objs.size ≤ b)∧b ≠ X.env.locals∧(∀ x c,X.env.cells.lookup x=some c→c ≠ b)∧∀ p ∈ X.pn ++ pins,p.1 ≠ b):Inv X pins σ H' s':=by
 obtain ⟨h',g',d',t',o'⟩:=s'
 have e:o'=s.os:=ho
 subst e
 exact I.call (g':=g') (t':=t') (d':=d') u hok hg hch
end
noncomputable abbrev XK:=Value→Option Addr→Hp→Prop
noncomputable abbrev St:=List (Option V)
noncomputable abbrev VK:=V→Hp→Prop
noncomputable abbrev TE:=St→Hp→VK→Prop
noncomputable abbrev TT:=St→Hp→(Bool→Hp→Prop)→Prop
noncomputable abbrev TA:=St→Hp→(List V→Hp→Prop)→Prop
structure Kg where
 nx:St→Hp→Prop
 rt:VK
 bk:St→Hp→Prop:=fun _ _=>False
 ct:St→Hp→Prop:=fun _ _=>False
noncomputable abbrev TS:=Kg→St→Hp→Prop
noncomputable def EP (X:Cx) (pins:List (Addr × Obj)) (σ:St) (Q:VK) (u:Value) (s':Shared):Prop:=∃ v H',Inv X pins σ H' s'∧Md v u∧Q v H'
noncomputable def TP (X:Cx) (pins:List (Addr × Obj)) (σ:St) (Q:Bool→Hp→Prop) (b:Bool) (s':Shared):Prop:=∃ H',Inv X pins σ H' s'∧Q b H'
noncomputable def AP (X:Cx) (pins:List (Addr × Obj)) (σ:St) (Q:List V→Hp→Prop) (us:List Value) (s':Shared):Prop:=∃ vs H',Inv X pins σ H' s'∧kd vs us∧Q vs H'
noncomputable def SP (X:Cx) (pins:List (Addr × Obj)) (D:Kg) (f:Flow) (s':Shared):Prop:=
 match f with
 | .next=>∃ σ' H',Inv X pins σ' H' s'∧D.nx σ' H'
 | .brk=>∃ σ' H',Inv X pins σ' H' s'∧D.bk σ' H'
 | .cont=>∃ σ' H',Inv X pins σ' H' s'∧D.ct σ' H'
 | .ret u=>∃ v σ' H',Inv X pins σ' H' s'∧Md v u∧D.rt v H'
noncomputable def PE (X:Cx) (e:Expr) (t:TE):Prop:=
 ∀ (pins:List (Addr × Obj)) (s:Shared) (σ:St) (H:Hp) (Q:VK),Inv X pins σ H s→t σ H Q→wpAny (model X.prog X.w) X.A (eval e X.env) (EP X pins σ Q) X.xe s
noncomputable def PT (X:Cx) (e:Expr) (t:TT):Prop:=
 ∀ (pins:List (Addr × Obj)) (s:Shared) (σ:St) (H:Hp) (Q:Bool→Hp→Prop),Inv X pins σ H s→t σ H Q→wpAny (model X.prog X.w) X.A (isTrue e X.env (eval e X.env)) (TP X pins σ Q) X.xe s
noncomputable def PW (X:Cx) (e:Expr) (t:TT):Prop:=
 ∀ (whole:Sem Value) (pins:List (Addr × Obj)) (s:Shared) (σ:St) (H:Hp) (Q:Bool→Hp→Prop),Inv X pins σ H s→t σ H Q→wpAny (model X.prog X.w) X.A (isTrue e X.env whole) (TP X pins σ Q) X.xe s
theorem PW.pt {X:Cx} {e:Expr} {t:TT} (h:PW X e t):PT X e t:=h _
noncomputable def PA (X:Cx) (es:List Expr) (t:TA):Prop:=
 ∀ (pos:Pos) (pins:List (Addr × Obj)) (s:Shared) (σ:St) (H:Hp) (Q:List V→Hp→Prop),Inv X pins σ H s→t σ H Q→wpAny (model X.prog X.w) X.A (spliced (backTo pos (starEach es X.env))) (AP X pins σ Q) X.xe s
noncomputable def PS (X:Cx) (st:Stmt) (t:TS):Prop:=
 ∀ (pins:List (Addr × Obj)) (s:Shared) (σ:St) (H:Hp) (D:Kg),Inv X pins σ H s→t D σ H→wpAny (model X.prog X.w) X.A (exec st X.env) (SP X pins D) X.xe s
noncomputable def PSs (X:Cx) (st:List Stmt) (t:TS):Prop:=
 ∀ (pins:List (Addr × Obj)) (s:Shared) (σ:St) (H:Hp) (D:Kg),Inv X pins σ H s→t D σ H→wpAny (model X.prog X.w) X.A (execs st X.env) (SP X pins D) X.xe s
theorem thn {α:Type} {t:Sem α} {Q Q':α→Shared→Prop} {M:Model} {A:Around} {E:Value→Shared→Prop} {s:Shared} (h:wpAny M A t Q E s) (hQ:∀ a s,Q a s→Q' a s):wpAny M A t Q' E s:=wpAny_mono h hQ fun _ _ x=>x
end L2
namespace L2
open PySem PySem.Spec PyProof.Rows
section
variable {X:Cx}
noncomputable def FP (i:Nat):TE:=fun σ H Q=>∃ v,σ[i]? = some (some v)∧Q v H
noncomputable def tC (v:V):TE:=fun _ H Q=>Q v H
theorem jO {i:Nat} {x:Str} {pos:Pos} (hN:X.N[i]? = some x) (hv:Vis X.env.scope x) (hd:(x == ("__debug__" : Str))=false:=by decide) (hcd:(x == ("__classdict__" : Str))=false:=by decide):PE X (.Name x pos) (FP i):=by
 intro pins s σ H Q I h
 obtain ⟨v,e,h⟩:=h
 obtain ⟨m,hn,hl⟩:=I.loc
 obtain ⟨u,r,l⟩:=hl i x v hN e hv
 have fin:EP X pins σ Q u s:=⟨v,H,I,r,h⟩
 rcases l with ⟨hk,hm⟩ | ⟨hk,c,hc,hcell⟩
 ·exact wpAny_Name (wpAny_loadName_local I.ok.kind hk hn hm fin) hd
 ·rcases hk with hk | hk
  ·exact wpAny_Name (wpAny_loadName_cell I.ok.kind hk hc hcell fin) hd
  ·exact wpAny_Name (wpAny_loadName_free I.ok.kind hk hc hcell fin hcd) hd
theorem rb {i j pos}:PE X (.Constant (.int i) j pos) (tC (.int i)):=fun _ _ _ H _ I h=>wpAny_Constant_int ⟨.int i,H,I.tok _,⟨_,rfl⟩,h⟩
theorem En {b j pos}:PE X (.Constant (.bool b) j pos) (tC (.bl b)):=fun _ _ _ H _ I h=>Constant_bool ⟨.bl b,H,I,rfl,h⟩
theorem Kz {j pos}:PE X (.Constant .none j pos) (tC .non):=fun _ _ _ H _ I h=>Constant_none ⟨.non,H,I,rfl,h⟩
theorem xc {x j pos}:PE X (.Constant (.str x) j pos) (tC (.str x)):=fun _ _ _ H _ I h=>Calls.Constant_str ⟨.str x,H,I.tok _,⟨_,rfl⟩,h⟩
noncomputable def Gl (X:Cx) (x:Str):Prop:=X.env.kindOf x=some .globalImplicit
theorem Zi {E:Value→Shared→Prop} {pins:List (Addr × Obj)} {s:Shared} {σ:St} {H:Hp} {x:Str} {u:Value} {pos:Pos} {Q:Value→Shared→Prop} (I:Inv X pins σ H s) (hg:Gl X x) (hm:X.mg x=some u) (h:Q u s)
  (hd:(x == ("__debug__" : Str))=false:=by decide):wpAny (model X.prog X.w) X.A (eval (.Name x pos) X.env) Q E s:=
 Calls.Name_function_global I.ok.kind hg (Calls.loadGlobal_global (by rw [I.ok.glob];exact I.mod.glob.keeps I.bk) hm h) hd
theorem Km {E:Value→Shared→Prop} {pins:List (Addr × Obj)} {s:Shared} {σ:St} {H:Hp} {x:Str} {u:Value} {pos:Pos} {Q:Value→Shared→Prop} (I:Inv X pins σ H s) (hg:Gl X x) (hm:X.mg x=none) (hv:bootBuiltins x=some u) (h:Q u s)
  (hn:x ≠ "__name__" := by decide) (hd:(x == ("__debug__" : Str))=false:=by decide):wpAny (model X.prog X.w) X.A (eval (.Name x pos) X.env) Q E s:=by
 obtain ⟨mb,h1,h2⟩:=I.mod.blt
 exact Calls.Name_function_global I.ok.kind hg (Calls.loadGlobal_builtin (by rw [I.ok.glob];exact I.mod.glob.keeps I.bk) hm (by rw [I.ok.blt];exact h1.keeps I.bk) ((h2 x hn).trans hv) h) hd
theorem Id {x:Str} {v:V} {u:Value} {pos:Pos} (hg:Gl X x) (hm:X.mg x=some u) (r:Md v u) (hd:(x == ("__debug__" : Str))=false:=by decide):PE X (.Name x pos) (tC v):=
 fun _ _ _ H _ I h=>Zi I hg hm ⟨v,H,I,r,h⟩ hd
theorem Ky {x:Str} {v:V} {u:Value} {pos:Pos} (hg:Gl X x) (hm:X.mg x=none) (hv:bootBuiltins x=some u) (r:Md v u) (hn:x ≠ "__name__" := by decide) (hd:(x == ("__debug__" : Str))=false:=by decide):PE X (.Name x pos) (tC v):=
 fun _ _ _ H _ I h=>Km I hg hm hv ⟨v,H,I,r,h⟩ hn hd
noncomputable def t2I (ta tb:TE) (k:Int→Int→Hp→Prop):St→Hp→Prop:=fun σ H=>ta σ H fun x H1=>tb σ H1 fun y H2=>∃ i j,x=.int i∧y=.int j∧k i j H2
noncomputable def jR (ta tb:TE):TE:=fun σ H Q=>t2I ta tb (fun i j H2=>Q (.int (i + j)) H2) σ H
noncomputable def oR (ta tb:TE):TE:=fun σ H Q=>t2I ta tb (fun i j H2=>Q (.int (i - j)) H2) σ H
noncomputable def rR (ta tb:TE):TE:=fun σ H Q=>t2I ta tb (fun i j H2=>(-(2 ^ 64) < i∧i < 2 ^ 64)∧Q (.int (i * j)) H2) σ H
variable {a b:Expr} {ta tb:TE} {pos:Pos}
noncomputable def PC (X:Cx) (op:CmpOp) (a b:Expr) (t:TE):Prop:=
 ∀ (pins:List (Addr × Obj)) (s:Shared) (σ:St) (H:Hp) (Q:VK),Inv X pins σ H s→t σ H Q →
  wpAny (model X.prog X.w) X.A (eval a X.env) (fun v s₁=>wpAny (model X.prog X.w) X.A (eval b X.env) (fun u s₂=>wpAny (model X.prog X.w) X.A (compareOp op v u) (EP X pins σ Q) X.xe s₂) X.xe s₁) X.xe s
theorem NG (b:Expr) {op:CmpOp} (h:op ≠ .In) (h2:op ≠ .NotIn):behindInMarks op b=false:=by
 have e1:(op == CmpOp.In)=false:=by cases op <;> first | rfl | exact absurd rfl h
 have e2:(op == CmpOp.NotIn)=false:=by cases op <;> first | rfl | exact absurd rfl h2
 cases b <;> simp [behindInMarks,e1,e2]
noncomputable def qR (p:Int→Int→Bool) (ta tb:TE):TE:=fun σ H Q=>t2I ta tb (fun i j H2=>Q (.bl (p i j)) H2) σ H
noncomputable def WQ (ta:TE):TE:=fun σ H Q=>ta σ H fun x H1=>Q (.bl (decide (x=.non))) H1
noncomputable def HP (ta:TE):TE:=fun σ H Q=>ta σ H fun x H1=>Q (.bl (!decide (x=.non))) H1
noncomputable def tB (t:TE):TT:=fun σ H Q=>t σ H fun x H1=>∃ c,x=.bl c∧Q c H1
theorem LN {op:CmpOp} {t:TE} (h:PC X op a b t) (h1:behindInMarks op b=false:=by first | exact NG _ (by decide) (by decide) | rfl):PT X (.Compare a [op] [b] pos) (tB t):=by
 intro pins s σ H Q I hw
 refine wpAny_isTrue_Compare1 (thn (h pins s σ H _ I hw) fun v s1 h1=>thn h1 fun u s2 h2=>thn h2 fun c s3 hZ1=>?_) h1
 obtain ⟨x,H1,I1,r1,q1⟩:=hZ1
 obtain ⟨d,rfl,q⟩:=q1
 cases r1
 exact wpAny_truthy_bool ⟨H1,I1,q⟩
theorem Ef {e:Expr} {t:TE} (h:PE X e t) (he:∀ whole,isTrue e X.env whole=(do let v ← whole;standAt e.pos;holding [v] (truthy v)):=by intro _;rfl):PT X e (tB t):=by
 intro pins s σ H Q I hw
 refine isTrue_plain (thn (h pins s σ H _ I hw) fun v s1 hZ1=>?_) (he _)
 obtain ⟨x,H1,I1,r1,q1⟩:=hZ1
 obtain ⟨d,rfl,q⟩:=q1
 cases r1
 exact wpAny_truthy_bool ⟨H1,I1,q⟩
variable {tA tB':TT} {rest:List Expr}
noncomputable def zQ (t u:TT):TT:=fun σ H Q=>t σ H fun c H1=>if c=true then u σ H1 Q else Q false H1
noncomputable def tOr (t u:TT):TT:=fun σ H Q=>t σ H fun c H1=>if c=true then Q true H1 else u σ H1 Q
noncomputable def PQ (t:TT):TT:=fun σ H Q=>t σ H fun c H1=>Q (!c) H1
theorem ak (ha:PT X a tA):PW X (.BoolOp .And [a] pos) tA:=by
 intro wh pins s σ H Q I h
 refine isTrue_and (thn (ha pins s σ H Q I h) fun c s1 e=>?_)
 cases c with
 | true=>exact isTrue_and_nil e
 | false=>exact e
theorem gu (ha:PT X a tA):PW X (.BoolOp .Or [a] pos) tA:=by
 intro wh pins s σ H Q I h
 refine isTrue_or (thn (ha pins s σ H Q I h) fun c s1 e=>?_)
 cases c with
 | false=>exact isTrue_or_nil e
 | true=>exact e
theorem Ym (ha:PT X a tA) (hb:PW X (.BoolOp .And (b :: rest) pos) tB'):PW X (.BoolOp .And (a :: b :: rest) pos) (zQ tA tB'):=by
 intro wh pins s σ H Q I h
 refine isTrue_and (thn (ha pins s σ H _ I h) fun c s1 hZ1=>?_)
 obtain ⟨H1,I1,q1⟩:=hZ1
 cases c with
 | true=>exact hb wh pins s1 σ H1 Q I1 q1
 | false=>exact ⟨H1,I1,q1⟩
theorem JB (ha:PT X a tA) (hb:PW X (.BoolOp .Or (b :: rest) pos) tB'):PW X (.BoolOp .Or (a :: b :: rest) pos) (tOr tA tB'):=by
 intro wh pins s σ H Q I h
 refine isTrue_or (thn (ha pins s σ H _ I h) fun c s1 hZ1=>?_)
 obtain ⟨H1,I1,q1⟩:=hZ1
 cases c with
 | true=>exact ⟨H1,I1,q1⟩
 | false=>exact hb wh pins s1 σ H1 Q I1 q1
theorem Zm (ha:PT X a tA):PT X (.UnaryOp .Not a pos) (PQ tA):=by
 intro pins s σ H Q I h
 exact isTrue_not (ha pins s σ H (fun c H1=>Q (!c) H1) I h)
noncomputable def aO (ta tb:TE):TE:=fun σ H Q=>ta σ H fun x H1=>∃ c,x=.bl c∧if c=true then tb σ H1 Q else Q (.bl false) H1
noncomputable def CQ (ta tb:TE):TE:=fun σ H Q=>ta σ H fun x H1=>∃ c,x=.bl c∧if c=true then Q (.bl true) H1 else tb σ H1 Q
noncomputable def QP (ta:TE):TE:=fun σ H Q=>ta σ H fun x H1=>∃ c,x=.bl c∧Q (.bl (!c)) H1
theorem gz {op} {t:TE} (h:PE X a t):PE X (.BoolOp op [a] pos) t:=fun pins s σ H Q I hw=>BoolOp_one (h pins s σ H Q I hw)
theorem JI (ha:PE X a ta) (hb:PE X (.BoolOp .And (b :: rest) pos) tb):PE X (.BoolOp .And (a :: b :: rest) pos) (aO ta tb):=by
 intro pins s σ H Q I h
 refine BoolOp_and (thn (ha pins s σ H _ I h) fun v s1 hZ1=>?_)
 obtain ⟨x,H1,I1,r1,q1⟩:=hZ1
 obtain ⟨c,rfl,q1⟩:=q1
 cases r1
 refine wpAny_truthy_bool ?_
 cases c with
 | true=>exact hb pins s1 σ H1 Q I1 q1
 | false=>exact ⟨.bl false,H1,I1,rfl,q1⟩
theorem KN (ha:PE X a ta) (hb:PE X (.BoolOp .Or (b :: rest) pos) tb):PE X (.BoolOp .Or (a :: b :: rest) pos) (CQ ta tb):=by
 intro pins s σ H Q I h
 refine BoolOp_or (thn (ha pins s σ H _ I h) fun v s1 hZ1=>?_)
 obtain ⟨x,H1,I1,r1,q1⟩:=hZ1
 obtain ⟨c,rfl,q1⟩:=q1
 cases r1
 refine wpAny_truthy_bool ?_
 cases c with
 | false=>exact hb pins s1 σ H1 Q I1 q1
 | true=>exact ⟨.bl true,H1,I1,rfl,q1⟩
noncomputable def tIf (t:TT) (ta tb:TE):TE:=fun σ H Q=>t σ H fun c H1=>if c=true then ta σ H1 Q else tb σ H1 Q
theorem jz {c:Expr} (hc:PT X c tA) (ha:PE X a ta) (hb:PE X b tb):PE X (.IfExp c a b pos) (tIf tA ta tb):=by
 intro pins s σ H Q I h
 refine wpAny_IfExp (thn (hc pins s σ H _ I h) fun d s1 hZ1=>?_)
 obtain ⟨H1,I1,q1⟩:=hZ1
 cases d with
 | true=>exact ha pins s1 σ H1 Q I1 q1
 | false=>exact hb pins s1 σ H1 Q I1 q1
end
end L2
namespace L2
open PySem PySem.Spec PyProof.Rows
noncomputable def SqL (K:PySem.W.Frag) (H:Hp) (a:Addr) (xs:List V):Prop:=
 Rd H a (.lst xs) ∨
  ∃ (o:Obj) (its:Array Value) (n:Nat),K.lookup a=some o∧o.cls=.type "list" ∧ o.dict=none∧o.data=.seq its n∧its.size ≤ sizeLine∧kd xs its.toList
noncomputable def SqT (K:PySem.W.Frag) (H:Hp) (a:Addr) (xs:List V):Prop:=
 Rd H a (.tup xs) ∨
  ∃ (o:Obj) (its:Array Value) (n:Nat),K.lookup a=some o∧o.cls=.type "tuple" ∧ o.data=.seq its n∧its.size ≤ sizeLine∧kd xs its.toList
noncomputable def XQ:Value→Option V
 | .none=>some .non
 | .bool b=>some (.bl b)
 | .int i _=>some (.int i)
 | .str x _=>some (.str x)
 | .bytes b _=>some (.byt b)
 | .float b _=>some (.flt b)
 | .ref a=>some (.ref a)
 | .type n=>some (.ty n)
 | _=>none
theorem Md.abs {x:V} {u:Value} (r:Md x u):XQ u=some x:=by
 cases x with
 | non=>cases r;rfl
 | bl _=>cases r;rfl
 | int _=>obtain ⟨t,rfl⟩:=r;rfl
 | str _=>obtain ⟨t,rfl⟩:=r;rfl
 | byt _=>obtain ⟨t,rfl⟩:=r;rfl
 | flt _=>obtain ⟨t,rfl⟩:=r;rfl
 | ref _=>cases r;rfl
 | ty _=>cases r;rfl
theorem Md.inj {x y:V} {u:Value} (r:Md x u) (q:Md y u):x=y:=Option.some.inj (r.abs.symm.trans q.abs)
theorem kd.inj:∀ {xs ys:List V} {us:List Value},kd xs us→kd ys us→xs=ys
 | _,_,_,.nil,.nil=>rfl
 | _,_,_,.cons r t,.cons r' t'=>by rw [r.inj r',kd.inj t t']
section
variable {X:Cx} {pins:List (Addr × Obj)} {σ:St} {H:Hp} {s:Shared} {a:Addr} {xs ys:List V}
theorem SqL.of {K:PySem.W.Frag} (h:H a=some (.lst xs)):SqL K H a xs:=.inl (.inl h)
theorem SqT.of {K:PySem.W.Frag} (h:H a=some (.tup xs)):SqT K H a xs:=.inl (.inl h)
theorem Inv.list (I:Inv X pins σ H s) (h:SqL X.K H a xs):∃ its:List Value,kd xs its∧PlainL s.heap a its.toArray∧xs.length ≤ sizeLine:=by
 rcases h with h | ⟨o,its,n,hk,hc,hd,hs,hz,r⟩
 ·obtain ⟨z,its,n,r,e⟩:=h.ok I.hok
  exact ⟨its,r,⟨_,n,e,rfl,rfl,rfl⟩,z⟩
 ·refine ⟨its.toList,r,⟨o,n,I.kIn a o hk,hc,hd,by simpa using hs⟩,?_⟩
  have e:=r.length
  simp only [Array.length_toList] at e
  omega
theorem Inv.tuple (I:Inv X pins σ H s) (h:SqT X.K H a xs):∃ its:List Value,kd xs its∧IsTup s.heap a its.toArray∧xs.length ≤ sizeLine:=by
 rcases h with h | ⟨o,its,n,hk,hc,hs,hz,r⟩
 ·obtain ⟨z,its,r,p⟩:=h.ok I.hok
  exact ⟨its,r,p,z⟩
 ·refine ⟨its.toList,r,⟨o,I.kIn a o hk,hc,n,by simpa using hs⟩,?_⟩
  have e:=r.length
  simp only [Array.length_toList] at e
  omega
theorem Inv.list_inj (I:Inv X pins σ H s) (h:SqL X.K H a xs) (h':SqL X.K H a ys):xs=ys:=by
 obtain ⟨its,r,⟨o,n,e,_,_,d⟩,_⟩:=I.list h
 obtain ⟨its',r',⟨o',n',e',_,_,d'⟩,_⟩:=I.list h'
 rw [e] at e';cases e'
 rw [d] at d'
 injection d' with d1 _
 have:its=its':=by simpa using congrArg Array.toList d1
 subst this
 exact r.inj r'
theorem Inv.tuple_inj (I:Inv X pins σ H s) (h:SqT X.K H a xs) (h':SqT X.K H a ys):xs=ys:=by
 obtain ⟨its,r,⟨o,e,_,n,d⟩,_⟩:=I.tuple h
 obtain ⟨its',r',⟨o',e',_,n',d'⟩,_⟩:=I.tuple h'
 rw [e] at e';cases e'
 rw [d] at d'
 injection d' with d1 _
 have:its=its':=by simpa using congrArg Array.toList d1
 subst this
 exact r.inj r'
end
noncomputable abbrev Cx.wish (X:Cx) (E:Value→Shared→Prop):Cx:={ X with xe:=E }
noncomputable abbrev Cx.nox (X:Cx):Cx:=X.wish fun _ _=>False
theorem Cx.Ok.wish {X:Cx} (ok:X.Ok) (E:Value→Shared→Prop):(X.wish E).Ok:=
 ⟨ok.mod,ok.kind,ok.glob,ok.blt,ok.above,ok.inj,ok.has,ok.cab,ok.hd,ok.frames,ok.stk,ok.exf,ok.bs,ok.bsz,ok.noex,ok.exfs,ok.funs,ok.frf⟩
theorem Cx.Ok.unwish {X:Cx} {E:Value→Shared→Prop} (ok:(X.wish E).Ok):X.Ok:=
 ⟨ok.mod,ok.kind,ok.glob,ok.blt,ok.above,ok.inj,ok.has,ok.cab,ok.hd,ok.frames,ok.stk,ok.exf,ok.bs,ok.bsz,ok.noex,ok.exfs,ok.funs,ok.frf⟩
section
variable {X:Cx} {pins:List (Addr × Obj)} {σ:St} {H:Hp} {s:Shared} {E:Value→Shared→Prop}
theorem Inv.wish (I:Inv X pins σ H s) (E:Value→Shared→Prop):Inv (X.wish E) pins σ H s:=⟨I.ok.wish E,I.os,I.bare,I.base,I.loc,I.cell,I.free,I.freeC,I.pin,I.hok,I.len⟩
theorem Inv.unwish (I:Inv (X.wish E) pins σ H s):Inv X pins σ H s:=⟨I.ok.unwish,I.os,I.bare,I.base,I.loc,I.cell,I.free,I.freeC,I.pin,I.hok,I.len⟩
theorem SP.unwish {D:Kg} {f:Flow} {s':Shared} (h:SP (X.wish E) pins D f s'):SP X pins D f s':=by
 cases f with
 | next=>obtain ⟨σ',H',I,q⟩:=h;exact ⟨σ',H',I.unwish,q⟩
 | brk=>obtain ⟨σ',H',I,q⟩:=h;exact ⟨σ',H',I.unwish,q⟩
 | cont=>obtain ⟨σ',H',I,q⟩:=h;exact ⟨σ',H',I.unwish,q⟩
 | ret u=>obtain ⟨v,σ',H',I,r,q⟩:=h;exact ⟨v,σ',H',I.unwish,r,q⟩
theorem PE.nox {e:Expr} {t:TE} (h:PE X.nox e t):PE X e t:=fun pins s σ H Q I hw=>
 wpAny_mono (h pins s σ H Q (I.wish _) hw) (fun _ _ ⟨v,H',I',r,q⟩=>⟨v,H',I'.unwish,r,q⟩) fun _ _ z=>False.elim z
theorem PT.nox {e:Expr} {t:TT} (h:PT X.nox e t):PT X e t:=fun pins s σ H Q I hw=>
 wpAny_mono (h pins s σ H Q (I.wish _) hw) (fun _ _ ⟨H',I',q⟩=>⟨H',I'.unwish,q⟩) fun _ _ z=>False.elim z
theorem PSs.nox {st:List Stmt} {t:TS} (h:PSs X.nox st t):PSs X st t:=fun pins s σ H D I hw=>
 wpAny_mono (h pins s σ H D (I.wish _) hw) (fun _ _ q=>q.unwish) fun _ _ z=>False.elim z
end
section
variable {X:Cx} {st:Stmt} {rest:List Stmt} {t u:TS} {e:Expr} {te:TE} {pos:Pos}
noncomputable def PN:TS:=fun D σ H=>D.nx σ H
noncomputable def GQ (t u:TS):TS:=fun D σ H=>t { D with nx:=u D } σ H
theorem Zb:PSs X [] PN:=fun _ _ σ H _ I h=>wpAny_execs_nil ⟨σ,H,I,h⟩
theorem cb (h1:PS X st t) (h2:PSs X rest u):PSs X (st :: rest) (GQ t u):=by
 intro pins s σ H D I h
 refine wpAny_execs_cons (thn (h1 pins s σ H { D with nx:=u D } I h) fun f s1 q=>?_)
 cases f with
 | next=>
  obtain ⟨σ',H',I',q⟩:=q
  exact h2 pins s1 σ' H' D I' q
 | ret v=>exact q
 | brk=>exact q
 | cont=>exact q
theorem gb (h1:PS X st t):PSs X [st] t:=by
 intro pins s σ H D I h
 refine wpAny_execs_cons (thn (h1 pins s σ H D I h) fun f s1 q=>?_)
 cases f with
 | next=>exact wpAny_execs_nil q
 | ret v=>exact q
 | brk=>exact q
 | cont=>exact q
noncomputable def RO:TS:=fun D σ H=>D.bk σ H
noncomputable def KP:TS:=fun D σ H=>D.ct σ H
theorem Inv.quiet {pins:List (Addr × Obj)} {σ:St} {H:Hp} {s:Shared} (I:Inv X pins σ H s):interactive X.env=false:=by simp [interactive,I.ok.kind]
noncomputable def DO (te:TE):TS:=fun D σ H=>te σ H fun _ H1=>D.nx σ H1
theorem lc (he:PE X e te) (hs:swapsWith e none pos.line X.env=pure false:=by rfl):PS X (.Expr e pos) (DO te):=by
 intro pins s σ H D I h
 exact wpAny_Expr_any (thn (he pins s σ H _ I h) fun v s1 ⟨x,H1,I1,r1,q1⟩=>⟨σ,H1,I1,q1⟩) I.quiet hs
noncomputable def NP (te:TE):TS:=fun D σ H=>te σ H D.rt
theorem Fb (he:PE X e te):PS X (.Return (some e) pos) (NP te):=by
 intro pins s σ H D I h
 exact wpAny_Return_some (thn (he pins s σ H _ I h) fun v s1 ⟨x,H1,I1,r1,q1⟩=>⟨x,σ,H1,I1,r1,q1⟩)
noncomputable def yP:TS:=fun D _ H=>D.rt .non H
noncomputable def xP (c:TT) (t u:TS):TS:=fun D σ H=>c σ H fun b H1=>if b=true then t D σ H1 else u D σ H1
theorem ge {c:Expr} {a b:List Stmt} {tc:TT} (hc:PT X c tc) (ha:PSs X a t) (hb:PSs X b u):PS X (.If c a b pos) (xP tc t u):=by
 intro pins s σ H D I h
 refine wpAny_If (thn (hc pins s σ H _ I h) fun d s1 hZ1=>?_)
 obtain ⟨H1,I1,q1⟩:=hZ1
 cases d with
 | true=>exact ha pins s1 σ H1 D I1 q1
 | false=>exact hb pins s1 σ H1 D I1 q1
noncomputable def HI:TS:=fun _ _ _=>False
theorem Lk:PS X st HI:=fun _ _ _ _ _ _ h=>h.elim
end
noncomputable abbrev TG:=V→St→Hp→(St→Hp→Prop)→Prop
noncomputable abbrev TGs:=List V→St→Hp→(St→Hp→Prop)→Prop
noncomputable def PG (X:Cx) (target:Expr) (t:TG):Prop:=
 ∀ (pins:List (Addr × Obj)) (s:Shared) (σ:St) (H:Hp) (v:V) (u:Value) (Q:St→Hp→Prop),Inv X pins σ H s→Md v u→t v σ H Q →
  wpAny (model X.prog X.w) X.A (assign target X.env u) (fun _ s'=>∃ σ' H',Inv X pins σ' H' s'∧Q σ' H') X.xe s
noncomputable def PGs (X:Cx) (ts:List Expr) (t:TGs):Prop:=
 ∀ (pins:List (Addr × Obj)) (s:Shared) (σ:St) (H:Hp) (vs:List V) (us:List Value) (Q:St→Hp→Prop),Inv X pins σ H s→kd vs us→t vs σ H Q →
  wpAny (model X.prog X.w) X.A (assignInOrder ((assignEach ts X.env).map (·.2)) us) (fun _ s'=>∃ σ' H',Inv X pins σ' H' s'∧Q σ' H') X.xe s
noncomputable abbrev pM:=V→V→V→Hp→(Hp→Prop)→Prop
noncomputable def BQ (X:Cx) (t:pM):Prop:=
 ∀ (pins:List (Addr × Obj)) (s:Shared) (σ:St) (H:Hp) (o i v:V) (ov iv u:Value) (Q:Hp→Prop),Inv X pins σ H s→Md o ov→Md i iv→Md v u→t o i v H Q →
  wpAny (model X.prog X.w) X.A (setItem ov iv u) (fun _ s'=>∃ H',Inv X pins σ H' s'∧Q H') X.xe s
noncomputable abbrev TIp:=V→V→Hp→VK→Prop
section
variable {X:Cx} {pos:Pos}
noncomputable def Cw (i:Nat):TG:=fun v σ H Q=>Q (σ.set i (some v)) H
theorem zb {i:Nat} {x:Str} (hN:X.N.Nodup) (hi:X.N[i]? = some x) (hx:Loc X.env.scope x) (hf:X.fn x=true∨X.env.scope.names.lookup x=some .local:=by first | exact .inl rfl | exact .inr rfl | assumption):PG X (.Name x pos) (Cw i):=by
 intro pins s σ H v u Q I r h
 exact wpAny_assign_Name (Qp I hN hi hx r (fun s' I'=>⟨_,H,I',h⟩) hf)
noncomputable def eP:TGs:=fun vs σ H Q=>vs=[]∧Q σ H
noncomputable def NA (t:TG) (u:TGs):TGs:=fun vs σ H Q=>∃ v r,vs=v :: r∧t v σ H fun σ' H'=>u r σ' H' Q
theorem Lf:PGs X [] eP:=by
 intro pins s σ H vs us Q I r h
 obtain ⟨e,h⟩:=h
 subst e
 cases r
 exact assignInOrder_nil ⟨σ,H,I,h⟩
theorem Vb {e:Expr} {es:List Expr} {t:TG} {u:TGs} (h1:PG X e t) (h2:PGs X es u)
  (hs:(assignEach (e :: es) X.env).map (·.2)=assign e X.env :: (assignEach es X.env).map (·.2):=by rfl):PGs X (e :: es) (NA t u):=by
 intro pins s σ H vs us Q I r h
 obtain ⟨v,vr,e1,h⟩:=h
 subst e1
 cases r with
 | cons r rr=>
  rw [hs]
  refine assignInOrder_cons (thn (h1 pins s σ H _ _ _ I r h) fun _ s1 hZ1=>?_)
  obtain ⟨σ1,H1,I1,q1⟩:=hZ1
  exact h2 pins s1 σ1 H1 _ _ Q I1 rr q1
noncomputable def tN (K:PySem.W.Frag) (n:Nat) (t:TGs):TG:=fun v σ H Q=>∃ a xs,v=.ref a∧SqT K H a xs∧xs.length=n∧t xs σ H Q
theorem qN {es:List Expr} {k:Nat} {t:TGs} {n:Nat} (hc:X.calm=true) (h:PGs X es t)
  (hn:(assignEach es X.env).length=n:=by rfl) (hst:(assignEach es X.env).findIdx? (·.1)=none:=by rfl):PG X (.Tuple es k pos) (tN X.K n t):=by
 intro pins s σ H v u Q I r hw
 obtain ⟨a,xs,e1,hq,hl,hw⟩:=hw
 subst e1
 cases r
 obtain ⟨its,rv,ht,hz⟩:=I.tuple hq
 refine assign_Tuple_tuple (I.ok.hd hc) ht (by simp [hn,← hl,rv.length]) hst fun h' hx=>?_
 have I1:Inv X pins σ H { s with heap:=h' }:=I.kept (t':=s.toks) fun b o e=>hx b o (Nat.ne_of_lt (Heap.lt_size e)) e
 exact h pins _ σ H xs _ Q I1 (by simpa using rv) hw
noncomputable def rQ (to ti:TE) (t:pM):TG:=fun v σ H Q=>to σ H fun o H1=>ti σ H1 fun i H2=>t o i v H2 fun H3=>Q σ H3
theorem Qz {o i:Expr} {to ti:TE} {t:pM} (ho:PE X o to) (hi:PE X i ti) (hs:BQ X t)
  (ha:∀ v,assign (.Subscript o i pos) X.env v=(do
   let ov ← holding [v] (eval o X.env)
   let iv ← holding [v,ov] (eval i X.env)
   standAt pos
   holding [v,ov,iv] (setItem ov iv v)
   release [v,ov,iv] []):=by intro _;rfl):PG X (.Subscript o i pos) (rQ to ti t):=by
 intro pins s σ H v u Q I r h
 rw [ha]
 refine wpAny_bind (wpAny_holding (thn (ho pins s σ H _ I h) fun ov s1 hZ1=>?_))
 obtain ⟨x,H1,I1,r1,q1⟩:=hZ1
 refine wpAny_bind (wpAny_holding (thn (hi pins s1 σ H1 _ I1 q1) fun iv s2 hZ1=>?_))
 obtain ⟨y,H2,I2,r2,q2⟩:=hZ1
 refine wpAny_bind (wpAny_standAt (wpAny_bind (wpAny_holding (thn (hs pins s2 σ H2 x y v ov iv u _ I2 r1 r2 r q2) fun _ s3 hZ1=>?_))))
 obtain ⟨H3,I3,q3⟩:=hZ1
 exact wpAny_release ⟨σ,H3,I3,q3⟩
noncomputable def oP (te:TE) (g:TG):TS:=fun D σ H=>te σ H fun x H1=>g x σ H1 D.nx
theorem ju {tg e:Expr} {te:TE} {g:TG} (he:PE X e te) (hg:PG X tg g) (hs:swapsWithSole [tg] e pos.line X.env=pure false:=by rfl) (hw:swappedStores [tg] e X.env=pure none:=by rfl)
  (h1:(assignEach [tg] X.env).map (·.2)=[assign tg X.env]:=by rfl):PS X (.Assign [tg] e pos) (oP te g):=by
 intro pins s σ H D I h
 refine wpAny_Assign_stores (thn (he pins s σ H _ I h) fun v s1 hZ1=>?_) hs hw
 obtain ⟨x,H1,I1,r1,q1⟩:=hZ1
 rw [h1]
 exact thn (hg pins s1 σ H1 x v _ I1 r1 q1) fun _ s2 q=>q
theorem Ab {i:Nat} {x:Str} {e:Expr} {te:TE} {pos':Pos} (hN:X.N.Nodup) (hi:X.N[i]? = some x) (hx:Loc X.env.scope x) (he:PE X e te) (hs:swapsWith e (some (.Name x pos')) pos.line X.env=pure false:=by rfl) (hf:X.fn x=true∨X.env.scope.names.lookup x=some .local:=by first | exact .inl rfl | exact .inr rfl | assumption) :
  PS X (.Assign [.Name x pos'] e pos) (oP te (Cw i)):=by
 intro pins s σ H D I h
 refine wpAny_Assign_Name (thn (he pins s σ H _ I h) fun v s1 hZ1=>?_) hs
 obtain ⟨y,H1,I1,r1,q1⟩:=hZ1
 exact Qp I1 hN hi hx r1 (fun s2 I2=>⟨_,H1,I2,q1⟩) hf
noncomputable def kR (i j:Nat) (ta:TA):TS:=fun D σ H=>ta σ H fun vs H1=>∃ v w,vs=[v,w]∧D.nx ((σ.set i (some v)).set j (some w)) H1
noncomputable def bR (i:Nat) (te:TE) (ti:TIp):TS:=fun D σ H=>∃ x,σ[i]? = some (some x)∧te σ H fun y H1=>ti x y H1 fun z H2=>D.nx (σ.set i (some z)) H2
noncomputable def UP (to ti te:TE) (tget:V→V→Hp→VK→Prop) (tip:TIp) (tset:pM):TS:=fun D σ H=>to σ H fun o H1=>ti σ H1 fun i H2=>tget o i H2 fun x H3=>te σ H3 fun y H4=>tip x y H4 fun z H5=>tset o i z H5 fun H6=>D.nx σ H6
end
section
variable {X:Cx} {pos:Pos}
noncomputable def iJ (c:TT) (tb:TS):TS:=fun D σ H=>∃ W:Nat→St→Hp→Prop,(∃ m,W m σ H)∧∀ m σ H,W m σ H →
 c σ H fun b H1=>if b=true then ∃ N:St→Hp→Prop,(∀ σ' H',N σ' H'→∃ m',m' < m∧W m' σ' H')∧tb { D with nx:=N,ct:=N,bk:=D.nx } σ H1 else D.nx σ H1
theorem YG {c:Expr} {body:List Stmt} {tc:TT} {tb:TS} (hp:PassesOwn (model X.prog X.w) X.A X.env X.xe) (hc:PT X c tc) (hb:PSs X body tb):PS X (.While c body [] pos) (iJ tc tb):=by
 intro pins s σ H D I h
 obtain ⟨W,⟨m0,w0⟩,turn⟩:=h
 refine wpAny_While (codeAny_whileLoop (fun n s'=>∃ σ' H',Inv X pins σ' H' s'∧W n σ' H') ?_ m0 ⟨σ,H,I,w0⟩)
 rintro n s1 ⟨σ1,H1,I1,w1⟩
 refine wpAny_passesOwn hp (thn (hc pins s1 σ1 H1 _ I1 (turn n σ1 H1 w1)) fun b s2 hZ1=>?_)
 obtain ⟨H2,I2,q2⟩:=hZ1
 cases b with
 | true=>
  obtain ⟨N,hN,q2⟩:=q2
  rw [if_pos rfl]
  refine wpAny_passesOwn hp (thn (hb pins s2 σ1 H2 _ I2 q2) fun f s3 q3=>?_)
  cases f with
  | next=>
   obtain ⟨σ3,H3,I3,n3⟩:=q3
   obtain ⟨m',hm,w3⟩:=hN σ3 H3 n3
   exact ⟨m',hm,σ3,H3,I3,w3⟩
  | cont=>
   obtain ⟨σ3,H3,I3,n3⟩:=q3
   obtain ⟨m',hm,w3⟩:=hN σ3 H3 n3
   exact ⟨m',hm,σ3,H3,I3,w3⟩
  | brk=>exact q3
  | ret v=>exact q3
 | false=>
  rw [if_neg Bool.false_ne_true]
  exact wpAny_execs_nil ⟨σ1,H2,I2,q2⟩
end
structure It where
 go:Nat→Hp→Prop
 yld:Nat→Hp→V→Hp→Prop
 stop:Nat→Hp→Prop
noncomputable def jw (X:Cx) (pins:List (Addr × Obj)) (H:Hp) (b:Addr):Prop:=
 H b=none∧b ≠ X.env.locals∧b ∉ X.fs∧(b ∈ X.ex∨X.s₀.heap.objs.size ≤ b)∧(∀ x c,X.env.cells.lookup x=some c→c ≠ b)∧∀ p ∈ X.pn ++ pins,p.1 ≠ b
theorem Inv.fpOk {X:Cx} {pins:List (Addr × Obj)} {σ:St} {H H':Hp} {s:Shared} {b:Addr} (I:Inv X pins σ H s) (hb:s.heap.objs.size ≤ b) (hn:H' b=none):jw X pins H' b:=by
 refine ⟨hn,Nat.ne_of_gt (Nat.lt_of_lt_of_le I.lt hb),I.nofs hb,.inr (Nat.le_trans I.sz hb),fun x c e z=>?_,fun p hp z=>?_⟩
 ·obtain ⟨v,q⟩:=I.cell x c e
  exact absurd (Nat.lt_of_lt_of_le q.lt (by rw [z];exact hb)) (Nat.lt_irrefl _)
 ·exact absurd (Nat.lt_of_lt_of_le (Heap.lt_size (I.pin p hp).1) (by rw [z];exact hb)) (Nat.lt_irrefl _)
structure zJ (P:Program) (w:World) (K:PySem.W.Frag) (tg:Expr) (J:It) (fp:List Addr) (it:Addr) (tn:Nat→Heap→Prop):Prop where
 mem:it ∈ fp
 obj:∀ i h,tn i h→∀ b ∈ fp,∃ o,h.get? b=some o∧∀ v,o.data ≠ .cell v
 keep:∀ i h h',tn i h→(∀ b ∈ fp,∀ o,h.get? b=some o→h'.get? b=some o)→tn i h'
 item:∀ (X:Cx),X.prog=P→X.w=w→X.K=K→X.calm=true→∀ (i:Nat) (pins:List (Addr × Obj)) (s:Shared) (σ:St) (H:Hp) (E:Value→Shared→Prop),Inv X pins σ H s→(∀ b ∈ fp,jw X pins H b)→tn i s.heap→J.go i H →
  wpAny (model P w) X.A (pyNext (.ref it)) (fun r s1=>∃ u,r=some u ∧
   wpAny (model P w) X.A (letOwnedTupleGo tg (.ref it) u) (fun _ s2=>∃ x H',Inv X pins σ H' s2∧Md x u∧J.yld i H x H'∧tn (i + 1) s2.heap∧∀ b ∈ fp,H' b=none) E s1) E s
 done:∀ (X:Cx),X.prog=P→X.w=w→X.K=K→X.calm=true→∀ (i:Nat) (pins:List (Addr × Obj)) (s:Shared) (σ:St) (H:Hp) (E:Value→Shared→Prop),Inv X pins σ H s→(∀ b ∈ fp,jw X pins H b)→tn i s.heap→J.stop i H →
  wpAny (model P w) X.A (pyNext (.ref it)) (fun r s1=>r=none∧Inv X pins σ H s1) E s
 self:∀ (A:Around) (i:Nat) (s:Shared) (Q:Value→Shared→Prop) (E:Value→Shared→Prop),tn i s.heap→Q (.ref it) s→wpAny (model P w) A (pyIter (.ref it)) Q E s
noncomputable abbrev TI:=St→Hp→(It→Hp→Prop)→Prop
noncomputable def PIE (X:Cx) (pins:List (Addr × Obj)) (σ:St) (tg:Expr) (R:It→Hp→Prop) (itv:Value) (s2:Shared):Prop:=
 ∃ (it:Addr) (fp:List Addr) (tn:Nat→Heap→Prop) (J:It) (H':Hp),itv=.ref it∧Inv X pins σ H' s2∧zJ X.prog X.w X.K tg J fp it tn∧tn 0 s2.heap∧(∀ b ∈ fp,jw X pins H' b)∧R J H'
noncomputable def PI (X:Cx) (tg iter:Expr) (wi:TI):Prop:=
 ∀ (pins:List (Addr × Obj)) (s:Shared) (σ:St) (H:Hp) (R:It→Hp→Prop),Inv X pins σ H s→wi σ H R →
  wpAny (model X.prog X.w) X.A (eval iter X.env) (fun v s1=>wpAny (model X.prog X.w) X.A (pyIter v) (PIE X pins σ tg R) X.xe s1) X.xe s
theorem UD {M:Model} {A:Around} {E:Value→Shared→Prop} {s:Shared} {tg:Expr} {it:Addr} {u:Value} {o:Obj} {n:String} {vs:Array Value} {Q:Unit→Shared→Prop} (ho:s.heap.get? it=some o) (hc:o.cls=.type n) (hd:o.data=.fields vs)
    (hn:["enumerate","zip","dict_itemiterator","dict_reverseitemiterator","odict_iterator","itertools.zip_longest","itertools.pairwise"].contains n=false) (hQ:Q () s):wpAny M A (letOwnedTupleGo tg (.ref it) u) Q E s:=by
  unfold letOwnedTupleGo
  cases tg <;> first
    | exact wpAny_pure hQ
    | (cases u <;> first
        | exact wpAny_pure hQ
        | (refine wpAny_bind (wpAny_load ho ?_)
           rw [hc,hd]
           show wpAny M A (if (["enumerate","zip","dict_itemiterator","dict_reverseitemiterator","odict_iterator","itertools.zip_longest","itertools.pairwise"].contains n && vs[0]? == some (rawInt _))=true then _ else _) Q E s
           rw [if_neg (by intro h;rw [hn,Bool.false_and] at h;cases h)]
           exact wpAny_pure hQ))
noncomputable def Itl (K:PySem.W.Frag) (a:Addr):It:=
 ⟨fun i H=>∃ xs x,SqL K H a xs∧xs[i]? = some x,fun i H x H'=>H'=H∧∀ xs,SqL K H a xs→xs[i]? = some x,fun i H=>∃ xs,SqL K H a xs∧xs.length ≤ i⟩
noncomputable def Itt (K:PySem.W.Frag) (a:Addr):It:=
 ⟨fun i H=>∃ xs x,SqT K H a xs∧xs[i]? = some x,fun i H x H'=>H'=H∧∀ xs,SqT K H a xs→xs[i]? = some x,fun i H=>∃ xs,SqT K H a xs∧xs.length ≤ i⟩
noncomputable def Itr (lo:Int) (n:Nat):It:=⟨fun i _=>i < n,fun i H x H'=>H'=H∧x=.int (lo + i),fun i _=>n ≤ i⟩
theorem uE {P:Program} {w:World} {K:PySem.W.Frag} {tg:Expr} (a it:Addr):zJ P w K tg (Itl K a) [it] it (fun i h=>h.IsListIter it a i) where
 mem:=by simp
 obj:=fun i h st b hb=>by
  have e:b=it:=by simpa using hb
  subst e
  obtain ⟨o,e,c,d⟩:=st
  exact ⟨o,e,fun v z=>by rw [d] at z;cases z⟩
 keep:=fun i h h' st k=>st.at fun o e=>k it (by simp) o e
 item:=by
  intro X hP hw hK hc i pins s σ H E I hf st hg
  subst hP hw hK
  obtain ⟨xs,x,hq,hx⟩:=hg
  obtain ⟨its,rv,p,hz⟩:=I.list hq
  obtain ⟨u,hu,ru⟩:=rv.get hx
  obtain ⟨f0,f1,f2,f3,f4,f5⟩:=hf it (by simp)
  refine wpAny_pyNext_list_item st p.isList (x:=u) (by simpa using hu) fun h' st' sb=>?_
  have I1:Inv X pins σ H { s with heap:=h' }:=I.turned (t':=s.toks) (fun b o hb e=>(sb.2 b hb).trans e) f0 f1 f3 f4 f5
  obtain ⟨o,e,c,d⟩:=id st'
  exact ⟨u,rfl,UD (s:={ s with heap:=h' }) e c d (by decide) ⟨x,H,I1,ru,⟨rfl,fun ys hy=>by rw [I.list_inj hy hq];exact hx⟩,st',fun b hb=>(hf b hb).1⟩⟩
 done:=by
  intro X hP hw hK hc i pins s σ H E I hf st hg
  subst hP hw hK
  obtain ⟨xs,hq,hx⟩:=hg
  obtain ⟨its,rv,p,hz⟩:=I.list hq
  obtain ⟨f0,f1,f2,f3,f4,f5⟩:=hf it (by simp)
  have hl:=rv.length
  exact wpAny_pyNext_list_end (I.ok.hd hc) st p.isList (by simp;omega) fun h' eb=>⟨rfl,I.turned (t':=s.toks) (fun b o hb e=>eb b o hb e) f0 f1 f3 f4 f5⟩
 self:=fun _ _ _ _ _ st h=>wpAny_pyIter_listiter st h
theorem wA {P:Program} {w:World} {K:PySem.W.Frag} {tg:Expr} (a it:Addr):zJ P w K tg (Itt K a) [it] it (fun i h=>h.IsTupleIter it a i) where
 mem:=by simp
 obj:=fun i h st b hb=>by
  have e:b=it:=by simpa using hb
  subst e
  obtain ⟨o,e,c,d⟩:=st
  exact ⟨o,e,fun v z=>by rw [d] at z;cases z⟩
 keep:=fun i h h' st k=>st.at fun o e=>k it (by simp) o e
 item:=by
  intro X hP hw hK hc i pins s σ H E I hf st hg
  subst hP hw hK
  obtain ⟨xs,x,hq,hx⟩:=hg
  obtain ⟨its,rv,p,hz⟩:=I.tuple hq
  obtain ⟨u,hu,ru⟩:=rv.get hx
  obtain ⟨f0,f1,f2,f3,f4,f5⟩:=hf it (by simp)
  refine wpAny_pyNext_tuple_item st (show s.heap.IsTuple a its.toArray from p) (x:=u) (by simpa using hu) fun h' st' sb=>?_
  have I1:Inv X pins σ H { s with heap:=h' }:=I.turned (t':=s.toks) (fun b o hb e=>(sb.2 b hb).trans e) f0 f1 f3 f4 f5
  obtain ⟨o,e,c,d⟩:=id st'
  exact ⟨u,rfl,UD (s:={ s with heap:=h' }) e c d (by decide) ⟨x,H,I1,ru,⟨rfl,fun ys hy=>by rw [I.tuple_inj hy hq];exact hx⟩,st',fun b hb=>(hf b hb).1⟩⟩
 done:=by
  intro X hP hw hK hc i pins s σ H E I hf st hg
  subst hP hw hK
  obtain ⟨xs,hq,hx⟩:=hg
  obtain ⟨its,rv,p,hz⟩:=I.tuple hq
  obtain ⟨f0,f1,f2,f3,f4,f5⟩:=hf it (by simp)
  have hl:=rv.length
  exact wpAny_pyNext_tuple_end (I.ok.hd hc) st (show s.heap.IsTuple a its.toArray from p) (by simp;omega) fun h' eb=>⟨rfl,I.turned (t':=s.toks) (fun b o hb e=>eb b o hb e) f0 f1 f3 f4 f5⟩
 self:=fun _ _ _ _ _ st h=>wpAny_pyIter_tupleiter st h
theorem BB {P:Program} {w:World} {K:PySem.W.Frag} {tg:Expr} (it:Addr) (lo:Int) (n:Nat):zJ P w K tg (Itr lo n) [it] it (fun i h=>IsRangeIter h it (lo + (i:Nat) * 1) ((n:Int) - (i:Nat)) 1) where
 mem:=by simp
 obj:=fun i h st b hb=>by
  have e:b=it:=by simpa using hb
  subst e
  exact ⟨_,st,fun v z=>by
   have z':Data.fields _=Data.cell v:=z
   cases z'⟩
 keep:=fun i h h' st k=>k it (by simp) _ st
 item:=by
  intro X hP hw hK hc i pins s σ H E I hf st hg
  subst hP hw hK
  obtain ⟨f0,f1,f2,f3,f4,f5⟩:=hf it (by simp)
  have W:=Walks.range (prog:=X.prog) (w:=X.w) (I.ok.hd hc) it lo 1 n
  refine W.item i s _ _ hg st fun v h' tk hv st' kk=>?_
  obtain ⟨t,rfl⟩:=hv
  have I1:Inv X pins σ H { s with heap:=h',toks:=tk }:=I.turned (fun b o hb e=>kk b o (by simpa using hb) e) f0 f1 f3 f4 f5
  refine ⟨_,rfl,UD (s:={ s with heap:=h',toks:=tk }) (n := "range_iterator") st' rfl rfl (by decide) ⟨.int (lo + i),H,I1,⟨t,?_⟩,⟨rfl,rfl⟩,st',fun b hb=>(hf b hb).1⟩⟩
  rw [Int.mul_one]
 done:=by
  intro X hP hw hK hc i pins s σ H E I hf st hg
  subst hP hw hK
  obtain ⟨f0,f1,f2,f3,f4,f5⟩:=hf it (by simp)
  exact wpAny_pyNext_range_end (I.ok.hd hc) st (by have:n ≤ i:=hg;omega) fun h' eb=>⟨rfl,I.turned (t':=s.toks) (fun b o hb e=>eb b o hb e) f0 f1 f3 f4 f5⟩
 self:=fun _ _ _ _ _ st h=>wpAny_pyIter_rangeiter st h
end L2
namespace L2
open PySem PySem.Spec PyProof.Rows
section
variable {X:Cx} {tg:Expr}
noncomputable def tM (K:PySem.W.Frag) (tl:TE):TI:=fun σ H R=>tl σ H fun x H1=>∃ a,x=.ref a∧(∃ xs,SqL K H1 a xs)∧R (Itl K a) H1
noncomputable def EQ (K:PySem.W.Frag) (tl:TE):TI:=fun σ H R=>tl σ H fun x H1=>∃ a,x=.ref a∧(∃ xs,SqT K H1 a xs)∧R (Itt K a) H1
theorem ae {l:Expr} {tl:TE} (hl:PE X l tl):PI X tg l (tM X.K tl):=by
 intro pins s σ H R I h
 refine thn (hl pins s σ H _ I h) fun v s1 hZ1=>?_
 obtain ⟨x,H1,I1,r1,q1⟩:=hZ1
 obtain ⟨a,e,⟨xs,hq⟩,q⟩:=q1
 subst e
 cases r1
 obtain ⟨its,rv,p,hz⟩:=I1.list hq
 refine wpAny_pyIter_list p.isList ?_
 refine ⟨s1.heap.objs.size,[s1.heap.objs.size],_,_,H1,rfl,I1.kept (t':=s1.toks) fun b o e=>Heap.get?_push_of_some _ e,uE a _,⟨_,Heap.get?_push_size _ rfl,rfl,rfl⟩,fun b hb=>?_,q⟩
 have e:b=s1.heap.objs.size:=by simpa using hb
 subst e
 exact I1.fpOk (Nat.le_refl _) (I1.hok.fresh (Nat.le_refl _))
theorem WO {l:Expr} {tl:TE} (hl:PE X l tl):PI X tg l (EQ X.K tl):=by
 intro pins s σ H R I h
 refine thn (hl pins s σ H _ I h) fun v s1 hZ1=>?_
 obtain ⟨x,H1,I1,r1,q1⟩:=hZ1
 obtain ⟨a,e,⟨xs,hq⟩,q⟩:=q1
 subst e
 cases r1
 obtain ⟨its,rv,p,hz⟩:=I1.tuple hq
 refine wpAny_pyIter_tuple (show s1.heap.IsTuple a its.toArray from p) ?_
 refine ⟨s1.heap.objs.size,[s1.heap.objs.size],_,_,H1,rfl,I1.kept (t':=s1.toks) fun b o e=>Heap.get?_push_of_some _ e,wA a _,⟨_,Heap.get?_push_size _ rfl,rfl,rfl⟩,fun b hb=>?_,q⟩
 have e:b=s1.heap.objs.size:=by simpa using hb
 subst e
 exact I1.fpOk (Nat.le_refl _) (I1.hok.fresh (Nat.le_refl _))
theorem mH {pins:List (Addr × Obj)} {σ:St} {H:Hp} {s:Shared} {R:It→Hp→Prop} {E:Value→Shared→Prop} {lo hi:Int} {t u v:Tok} {tk:Nat} (I:Inv X pins σ H s) (h1:-(2 ^ 62) ≤ lo) (h2:lo < 2 ^ 62) (h3:-(2 ^ 62) ≤ hi) (h4:hi < 2 ^ 62)
  (q:R (Itr lo (hi - lo).toNat) H):wpAny (model X.prog X.w) X.A (pyIter (.ref s.heap.objs.size)) (PIE X pins σ tg R) E { s with heap:=s.heap.push { cls:=.type "range",data:=.fields #[.int lo t,.int hi u,.int 1 v] },toks:=tk }:=by
 refine wpAny_pyIter_range (IsRange.new ..) (small_one h1 h2 h3 h4) ?_
 have I1:Inv X pins σ H { s with heap:=s.heap.push { cls:=.type "range",data:=.fields #[.int lo t,.int hi u,.int 1 v] },toks:=tk }:=I.kept fun b o e=>Heap.get?_push_of_some _ e
 refine ⟨(s.heap.push { cls:=.type "range",data:=.fields #[.int lo t,.int hi u,.int 1 v] }).objs.size,[(s.heap.push { cls:=.type "range",data:=.fields #[.int lo t,.int hi u,.int 1 v] }).objs.size],_,_,H,rfl,
  I1.kept (t':=tk) fun b o e=>Heap.get?_push_of_some _ e,BB _ lo (hi - lo).toNat,?_,fun b hb=>?_,q⟩
 ·have e1:lo + ((0:Nat):Int) * 1=lo:=by simp
  have e2:(((hi - lo).toNat:Nat):Int) - ((0:Nat):Int)=Builtin.Range.rangeSize lo hi 1:=by rw [rangeSize_one];split <;> omega
  show IsRangeIter _ _ (lo + ((0:Nat):Int) * 1) ((((hi - lo).toNat:Nat):Int) - ((0:Nat):Int)) 1
  rw [e1,e2]
  exact Heap.get?_push_size _ rfl
 ·have e:b=(s.heap.push { cls:=.type "range",data:=.fields #[.int lo t,.int hi u,.int 1 v] }).objs.size:=by simpa using hb
  subst e
  exact I1.fpOk (Nat.le_refl _) (I1.hok.fresh (Nat.le_refl _))
noncomputable def cP (ta:TA):TI:=fun σ H R=>ta σ H fun vs H1=>∃ j:Int,vs=[.int j]∧-(2 ^ 62) ≤ j∧j < 2 ^ 62∧R (Itr 0 j.toNat) H1
noncomputable def eQ (ta:TA):TI:=fun σ H R=>ta σ H fun vs H1=>∃ i j:Int,vs=[.int i,.int j]∧(-(2 ^ 62) ≤ i∧i < 2 ^ 62∧-(2 ^ 62) ≤ j∧j < 2 ^ 62)∧R (Itr i (j - i).toNat) H1
theorem re {a:Expr} {ta:TA} {p pos:Pos} (hg:Gl X "range") (hm:X.mg "range"=none) (ha:PA X [a] ta) (hs:starEach [a] X.env=[(false,eval a X.env)]:=by rfl):PI X tg (.Call (.Name "range" p) [a] [] pos) (cP ta):=by
 intro pins s σ H R I h
 refine Call_ (Km I hg hm boot_range (PyProof.Rows.callWith_type1 (thn (ha pos pins s σ H _ I h) fun us s1 hZ1=>?_) hs rfl))
 obtain ⟨vs,H1,I1,r1,q1⟩:=hZ1
 obtain ⟨j,e,q1,q2,q⟩:=q1
 subst e
 cases r1 with
 | cons r rr=>
  cases rr
  obtain ⟨t,rfl⟩:=r
  exact call_range_1 (mH I1 (by omega) (by omega) q1 q2 (by simpa using q))
noncomputable def xQ (wi:TI) (g:TG) (tb:TS):TS:=fun D σ H=>wi σ H fun J H1=>∃ W:Nat→Nat→St→Hp→Prop,(∃ m,W 0 m σ H1)∧∀ i m σ H,W i m σ H →
 (J.stop i H∧D.nx σ H)∨(J.go i H∧∃ N:St→Hp→Prop,(∀ σ' H',N σ' H'→∃ m',m' < m∧W (i + 1) m' σ' H')∧∀ x H',J.yld i H x H'→g x σ H' fun σ2 H2=>tb { D with nx:=N,ct:=N,bk:=D.nx } σ2 H2)
noncomputable def Bv (fp:List Addr) (h:Heap):List (Addr × Obj):=fp.filterMap fun b=>(h.get? b).map fun o=>(b,o)
theorem dl {fp:List Addr} {h:Heap} {b:Addr} {o:Obj} (hb:b ∈ fp) (e:h.get? b=some o):(b,o) ∈ Bv fp h:=List.mem_filterMap.mpr ⟨b,hb,by rw [e];rfl⟩
theorem iC {fp:List Addr} {h:Heap} {p:Addr × Obj} (hp:p ∈ Bv fp h):p.1 ∈ fp∧h.get? p.1=some p.2:=by
 obtain ⟨b,hb,e⟩:=List.mem_filterMap.mp hp
 cases q:h.get? b with
 | none=>rw [q] at e;cases e
 | some o=>
  rw [q] at e
  have e':(b,o)=p:=Option.some.inj e
  subst e'
  exact ⟨hb,q⟩
theorem Inv.pinned {pins:List (Addr × Obj)} {σ:St} {H:Hp} {s:Shared} {fp:List Addr} (I:Inv X pins σ H s) (hf:∀ b ∈ fp,jw X pins H b) (ho:∀ b ∈ fp,∃ o,s.heap.get? b=some o∧∀ v,o.data ≠ .cell v):Inv X (pins ++ Bv fp s.heap) σ H s:=
 I.pins_of fun p hp=>(List.mem_append.mp hp).elim (fun z=>I.pin p (List.mem_append_right _ z)) fun z=>by
  obtain ⟨hb,e⟩:=iC z
  obtain ⟨f0,f1,f2,_⟩:=hf p.1 hb
  obtain ⟨o,e',d⟩:=ho p.1 hb
  rw [e] at e';cases e'
  exact ⟨e,f0,f1,f2,d⟩
theorem Inv.unpinned {pins pl:List (Addr × Obj)} {σ:St} {H:Hp} {s:Shared} (I:Inv X (pins ++ pl) σ H s):Inv X pins σ H s:=I.pins_of fun p hp=>I.pin p (List.mem_append_right _ (List.mem_append_left _ hp))
theorem Zd {iter:Expr} {body:List Stmt} {wi:TI} {g:TG} {tb:TS} {pos:Pos} (hp:PassesOwn (model X.prog X.w) X.A X.env X.xe) (hc:X.calm=true) (hi:PI X tg iter wi) (hg:PG X tg g) (hb:PSs X body tb)
  (hs:∀ x,foldedSetIterable iter X.env x=pure x:=by intro _;rfl):PS X (.For tg iter body [] pos) (xQ wi g tb):=by
 intro pins s σ H D I h
 refine wpAny_For (thn (hi pins s σ H _ I h) fun v s1 h1=>thn h1 fun itv s2 h2=>?_) hs
 obtain ⟨it,fp,tn,J,H2,e,I2,T,st2,f2,W,⟨m0,w0⟩,turn⟩:=h2
 subst e
 -- what stays true of the iterator's objects through the loop
 have stat:∀ {H':Hp},(∀ b ∈ fp,H' b=none)→∀ b ∈ fp,jw X pins H' b:=fun hn b hb=>⟨hn b hb,(f2 b hb).2⟩
 refine codeAny_forLoop_any (fun n s'=>∃ i σ' H',Inv X pins σ' H' s'∧tn i s'.heap∧(∀ b ∈ fp,H' b=none)∧W i n σ' H') ?_ m0 ⟨0,σ,H2,I2,st2,fun b hb=>(f2 b hb).1,w0⟩
 rintro n s3 ⟨i,σ3,H3,I3,st3,fr3,w3⟩
 rcases turn i n σ3 H3 w3 with ⟨stop,qn⟩ | ⟨go,N,hN,step⟩
 ·refine wpAny_passesOwn hp (thn (T.done X rfl rfl rfl hc i pins s3 σ3 H3 X.xe I3 (stat fr3) st3 stop) fun r s4 hZ1=>?_)
  obtain ⟨hr,I4⟩:=hZ1
  subst hr
  exact wpAny_execs_nil ⟨σ3,H3,I4,qn⟩
 ·refine wpAny_passesOwn hp (thn (T.item X rfl rfl rfl hc i pins s3 σ3 H3 X.xe I3 (stat fr3) st3 go) fun r s4 hZ1=>?_)
  obtain ⟨u,hr,h4⟩:=hZ1
  subst hr
  refine wpAny_passesOwn hp (thn h4 fun _ s5 hZ1=>?_)
  obtain ⟨x,H5,I5,r5,y5,st5,fr5⟩:=hZ1
  have I5':=I5.pinned (stat fr5) (T.obj _ _ st5)
  refine wpAny_passesOwn hp (thn (hg _ s5 σ3 H5 x u _ I5' r5 (step x H5 y5)) fun _ s6 hZ1=>?_)
  obtain ⟨σ6,H6,I6,q6⟩:=hZ1
  refine wpAny_passesOwn hp (thn (hb _ s6 σ6 H6 _ I6 q6) fun f s7 q7=>?_)
  have again:∀ {σ7:St} {H7:Hp},Inv X (pins ++ Bv fp s5.heap) σ7 H7 s7→N σ7 H7→∃ m,m < n∧∃ i σ' H',Inv X pins σ' H' s7∧tn i s7.heap∧(∀ b ∈ fp,H' b=none)∧W i m σ' H':=fun {σ7 H7} I7 n7=>by
   obtain ⟨m',hm,w7⟩:=hN σ7 H7 n7
   refine ⟨m',hm,i + 1,σ7,H7,I7.unpinned,T.keep _ _ _ st5 fun b hb o e=>(I7.pin (b,o) (List.mem_append_right _ (List.mem_append_right _ (dl hb e)))).1,fun b hb=>?_,w7⟩
   obtain ⟨o,e,d⟩:=T.obj _ _ st5 b hb
   exact (I7.pin (b,o) (List.mem_append_right _ (List.mem_append_right _ (dl hb e)))).2.1
  cases f with
  | next=>obtain ⟨σ7,H7,I7,n7⟩:=q7;exact again I7 n7
  | cont=>obtain ⟨σ7,H7,I7,n7⟩:=q7;exact again I7 n7
  | brk=>obtain ⟨σ7,H7,I7,q7⟩:=q7;exact ⟨σ7,H7,I7.unpinned,q7⟩
  | ret v=>obtain ⟨x7,σ7,H7,I7,r7,q7⟩:=q7;exact ⟨x7,σ7,H7,I7.unpinned,r7,q7⟩
end
theorem JG {K:PySem.W.Frag} {a:Addr} {xs:List V} {g:TG} {tb:TS} {D:Kg} {σ:St} {H:Hp} (Pv:Nat→St→Hp→Prop) (h0:Pv 0 σ H) (hl:∀ i σ H,i ≤ xs.length→Pv i σ H→SqL K H a xs)
  (hs:∀ i x σ H,xs[i]? = some x→Pv i σ H→g x σ H fun σ2 H2=>tb { D with nx:=Pv (i + 1),ct:=Pv (i + 1),bk:=D.nx } σ2 H2) (hd:∀ σ H,Pv xs.length σ H→D.nx σ H) :
  ∃ W:Nat→Nat→St→Hp→Prop,(∃ m,W 0 m σ H)∧∀ i m σ H,W i m σ H →
   ((Itl K a).stop i H∧D.nx σ H)∨((Itl K a).go i H∧∃ N:St→Hp→Prop,(∀ σ' H',N σ' H'→∃ m',m' < m∧W (i + 1) m' σ' H')∧∀ x H',(Itl K a).yld i H x H'→g x σ H' fun σ2 H2=>tb { D with nx:=N,ct:=N,bk:=D.nx } σ2 H2):=by
 refine ⟨fun i m σ H=>m=xs.length - i∧i ≤ xs.length∧Pv i σ H,⟨xs.length,by simp,Nat.zero_le _,h0⟩,?_⟩
 rintro i m σ H ⟨rfl,hi,p⟩
 have q:=hl i σ H hi p
 by_cases hlt:i < xs.length
 ·refine .inr ⟨⟨xs,xs[i],q,by simp [hlt]⟩,Pv (i + 1),fun σ' H' p'=>⟨xs.length - (i + 1),by omega,rfl,hlt,p'⟩,fun x H' y=>?_⟩
  obtain ⟨e,y⟩:=y
  subst e
  exact hs i x σ _ (y xs q) p
 ·have e:i=xs.length:=by omega
  subst e
  exact .inl ⟨⟨xs,q,Nat.le_refl _⟩,hd σ H p⟩
theorem zE {lo:Int} {n:Nat} {g:TG} {tb:TS} {D:Kg} {σ:St} {H:Hp} (Pv:Nat→St→Hp→Prop) (h0:Pv 0 σ H)
  (hs:∀ i σ H,i < n→Pv i σ H→g (.int (lo + i)) σ H fun σ2 H2=>tb { D with nx:=Pv (i + 1),ct:=Pv (i + 1),bk:=D.nx } σ2 H2) (hd:∀ σ H,Pv n σ H→D.nx σ H) :
  ∃ W:Nat→Nat→St→Hp→Prop,(∃ m,W 0 m σ H)∧∀ i m σ H,W i m σ H →
   ((Itr lo n).stop i H∧D.nx σ H)∨((Itr lo n).go i H∧∃ N:St→Hp→Prop,(∀ σ' H',N σ' H'→∃ m',m' < m∧W (i + 1) m' σ' H')∧∀ x H',(Itr lo n).yld i H x H'→g x σ H' fun σ2 H2=>tb { D with nx:=N,ct:=N,bk:=D.nx } σ2 H2):=by
 refine ⟨fun i m σ H=>m=n - i∧i ≤ n∧Pv i σ H,⟨n,by simp,Nat.zero_le _,h0⟩,?_⟩
 rintro i m σ H ⟨rfl,hi,p⟩
 by_cases hlt:i < n
 ·refine .inr ⟨hlt,Pv (i + 1),fun σ' H' p'=>⟨n - (i + 1),by omega,rfl,hlt,p'⟩,fun x H' y=>?_⟩
  obtain ⟨e,y⟩:=y
  subst e y
  exact hs i σ _ hlt p
 ·have e:i=n:=by omega
  subst e
  exact .inl ⟨Nat.le_refl _,hd σ H p⟩
end L2
namespace L2
open PySem PySem.Spec PyProof.Rows
noncomputable abbrev R2:=V→V→Hp→VK→Prop
noncomputable def OpR (X:Cx) (f:Value→Value→Sem Value) (r:R2):Prop:=
 ∀ (pins:List (Addr × Obj)) (s:Shared) (σ:St) (H:Hp) (x y:V) (v u:Value) (Q:VK),Inv X pins σ H s→Md x v→Md y u→r x y H Q →
  wpAny (model X.prog X.w) X.A (f v u) (EP X pins σ Q) X.xe s
noncomputable def UnR (X:Cx) (f:Value→Sem Value) (r:V→Hp→VK→Prop):Prop:=
 ∀ (pins:List (Addr × Obj)) (s:Shared) (σ:St) (H:Hp) (x:V) (v:Value) (Q:VK),Inv X pins σ H s→Md x v→r x H Q →
  wpAny (model X.prog X.w) X.A (f v) (EP X pins σ Q) X.xe s
noncomputable def Kj (X:Cx) (f:Value) (r:List V→Hp→VK→Prop):Prop:=
 ∀ (pins:List (Addr × Obj)) (s:Shared) (σ:St) (H:Hp) (xs:List V) (us:List Value) (Q:VK),Inv X pins σ H s→kd xs us→r xs H Q →
  wpAny (model X.prog X.w) X.A (call f us) (EP X pins σ Q) X.xe s
noncomputable def YQ (X:Cx) (r:V→Hp→(Bool→Hp→Prop)→Prop):Prop:=
 ∀ (pins:List (Addr × Obj)) (s:Shared) (σ:St) (H:Hp) (x:V) (v:Value) (Q:Bool→Hp→Prop),Inv X pins σ H s→Md x v→r x H Q →
  wpAny (model X.prog X.w) X.A (truthy v) (TP X pins σ Q) X.xe s
noncomputable def tOp (r:R2) (ta tb:TE):TE:=fun σ H Q=>ta σ H fun x H1=>tb σ H1 fun y H2=>r x y H2 Q
noncomputable def tUn (r:V→Hp→VK→Prop) (ta:TE):TE:=fun σ H Q=>ta σ H fun x H1=>r x H1 Q
noncomputable def rI (C:Int→Int→Prop) (g:Int→Int→V):R2:=fun x y H Q=>∃ i j,x=.int i∧y=.int j∧C i j∧Q (g i j) H
noncomputable def rI0 (g:Int→Int→V):R2:=fun x y H Q=>∃ i j,x=.int i∧y=.int j∧Q (g i j) H
noncomputable def rU (g:Int→V):V→Hp→VK→Prop:=fun x H Q=>∃ i,x=.int i∧Q (g i) H
section
variable {X:Cx} {a b c:Expr} {ta tb tc:TE} {pos:Pos}
theorem RP (ha:PE X a ta) (hb:PE X b tb) {pins:List (Addr × Obj)} {s:Shared} {σ:St} {H:Hp} {R:V→V→Hp→Prop} (I:Inv X pins σ H s)
  (h:ta σ H fun x H1=>tb σ H1 fun y H2=>R x y H2) {Q:Value→Shared→Prop} {f:Value→Value→Sem Value}
  (hf:∀ v u s2 x y H2,Inv X pins σ H2 s2→Md x v→Md y u→R x y H2→wpAny (model X.prog X.w) X.A (f v u) Q X.xe s2) :
  wpAny (model X.prog X.w) X.A (eval a X.env) (fun v s₁=>wpAny (model X.prog X.w) X.A (eval b X.env) (fun u s₂=>wpAny (model X.prog X.w) X.A (f v u) Q X.xe s₂) X.xe s₁) X.xe s:=by
 refine thn (ha pins s σ H _ I h) fun v s1 hZ1=>?_
 obtain ⟨x,H1,I1,r1,q1⟩:=hZ1
 refine thn (hb pins s1 σ H1 _ I1 q1) fun u s2 hZ1=>?_
 obtain ⟨y,H2,I2,r2,q2⟩:=hZ1
 exact hf v u s2 x y H2 I2 r1 r2 q2
theorem Pb {op:Operator} {r:R2} (ho:OpR X (binaryOp op) r) (ha:PE X a ta) (hb:PE X b tb):PE X (.BinOp a op b pos) (tOp r ta tb):=by
 intro pins s σ H Q I h
 exact wpAny_BinOp (RP ha hb I h fun v u s2 x y H2 I2 rx ry q=>ho pins s2 σ H2 x y v u Q I2 rx ry q)
theorem Qx {op:UnaryOp} {r:V→Hp→VK→Prop} (ho:UnR X (unaryOp op) r) (ha:PE X a ta):PE X (.UnaryOp op a pos) (tUn r ta):=by
 intro pins s σ H Q I h
 exact UnaryOp_ (thn (ha pins s σ H _ I h) fun v s1 ⟨x,H1,I1,r1,q1⟩=>ho pins s1 σ H1 x v Q I1 r1 q1)
theorem opI {f:Value→Value→Sem Value} {C:Int→Int→Prop} {g:Int→Int→Int}
  (rule:∀ (i j:Int) (t u:Tok) (s:Shared) (Q:Value→Shared→Prop) (E:Value→Shared→Prop),C i j→Q (.int (g i j) s.toks) { s with toks:=s.toks + 1 }→wpAny (model X.prog X.w) X.A (f (.int i t) (.int j u)) Q E s) :
  OpR X f (rI C fun i j=>.int (g i j)):=by
 intro pins s σ H x y v u Q I rx ry h
 obtain ⟨i,j,rfl,rfl,hc,q⟩:=h
 obtain ⟨t,rfl⟩:=rx
 obtain ⟨t',rfl⟩:=ry
 exact rule i j t t' s _ _ hc ⟨.int (g i j),H,I.tok _,⟨_,rfl⟩,q⟩
theorem QQ {f:Value→Value→Sem Value} {g:Int→Int→Int}
  (rule:∀ (i j:Int) (t u:Tok) (s:Shared) (Q:Value→Shared→Prop) (E:Value→Shared→Prop),Q (.int (g i j) s.toks) { s with toks:=s.toks + 1 }→wpAny (model X.prog X.w) X.A (f (.int i t) (.int j u)) Q E s) :
  OpR X f (rI0 fun i j=>.int (g i j)):=by
 intro pins s σ H x y v u Q I rx ry h
 obtain ⟨i,j,rfl,rfl,q⟩:=h
 obtain ⟨t,rfl⟩:=rx
 obtain ⟨t',rfl⟩:=ry
 exact rule i j t t' s _ _ ⟨.int (g i j),H,I.tok _,⟨_,rfl⟩,q⟩
theorem kP {f:Value→Value→Sem Value} {g:Int→Int→Bool}
  (rule:∀ (i j:Int) (t u:Tok) (s:Shared) (Q:Value→Shared→Prop) (E:Value→Shared→Prop),Q (.bool (g i j)) s→wpAny (model X.prog X.w) X.A (f (.int i t) (.int j u)) Q E s) :
  OpR X f (rI0 fun i j=>.bl (g i j)):=by
 intro pins s σ H x y v u Q I rx ry h
 obtain ⟨i,j,rfl,rfl,q⟩:=h
 obtain ⟨t,rfl⟩:=rx
 obtain ⟨t',rfl⟩:=ry
 exact rule i j t t' s _ _ ⟨.bl (g i j),H,I,rfl,q⟩
noncomputable def RI (i j:Int):Prop:=(-(2 ^ 64) < i∧i < 2 ^ 64)∨(-(2 ^ 64) < j∧j < 2 ^ 64)
theorem RI.ok {i j:Int} (h:RI i j):IntMulOk i j:=by
 rcases h with ⟨h1,h2⟩ | ⟨h1,h2⟩
 ·exact .of_left (intBits_le_64 h1 h2)
 ·exact .of_right (intBits_le_64 h1 h2)
theorem se:OpR X (binaryOp .Add) (rI0 fun i j=>.int (i + j)):=QQ fun _ _ _ _ _ _ _ q=>add_int q
theorem zf:OpR X (binaryOp .Sub) (rI0 fun i j=>.int (i - j)):=QQ fun _ _ _ _ _ _ _ q=>sub_int q
theorem Fw:OpR X (binaryOp .Mult) (rI RI fun i j=>.int (i * j)):=opI fun _ _ _ _ _ _ _ hc q=>mul_int q hc.ok
theorem Af:OpR X (binaryOp .Mod) (rI (fun _ j=>0 < j) fun i j=>.int (i % j)):=opI fun i j _ _ _ _ _ hc q=>by
 have h1:(0:Int) < j:=hc
 exact mod_int' (by omega) (by rw [Int.fmod_eq_emod_of_nonneg i (by omega)];exact q)
theorem unI {f:Value→Sem Value} {g:Int→Int}
  (rule:∀ (i:Int) (t:Tok) (s:Shared) (Q:Value→Shared→Prop) (E:Value→Shared→Prop),Q (.int (g i) s.toks) { s with toks:=s.toks + 1 }→wpAny (model X.prog X.w) X.A (f (.int i t)) Q E s) :
  UnR X f (rU fun i=>.int (g i)):=by
 intro pins s σ H x v Q I rx h
 obtain ⟨i,rfl,q⟩:=h
 obtain ⟨t,rfl⟩:=rx
 exact rule i t s _ _ ⟨.int (g i),H,I.tok _,⟨_,rfl⟩,q⟩
theorem Iq:UnR X (unaryOp .USub) (rU fun i=>.int (-i)):=unI fun _ _ _ _ _ q=>neg_int q
end
noncomputable def HN:V→V→Bool
 | .non,.non=>true | .non,.int _=>true | .int _,.non=>true | .non,.bl _=>true | .bl _,.non=>true | .non,.str _=>true | .str _,.non=>true
 | .int _,.int _=>true | .bl _,.bl _=>true | .str _,.str _=>true | .byt _,.byt _=>true
 | .int _,.str _=>true | .str _,.int _=>true | .bl _,.str _=>true | .str _,.bl _=>true
 | _,_=>false
noncomputable def rEq:R2:=fun x y H Q=>HN x y=true∧Q (.bl (decide (x=y))) H
noncomputable def rNe:R2:=fun x y H Q=>HN x y=true∧Q (.bl (!decide (x=y))) H
theorem MD {i j:Int}:decide (V.int i=V.int j)=(i == j):=by
 rw [Bool.eq_iff_iff]
 simp
theorem jJ {i j:Bool}:decide (V.bl i=V.bl j)=(i == j):=by
 rw [Bool.eq_iff_iff]
 simp
theorem gE {i j:Str}:decide (V.str i=V.str j)=(i == j):=by
 rw [Bool.eq_iff_iff]
 simp
theorem fD {i j:Array UInt8}:decide (V.byt i=V.byt j)=(i.toList == j.toList):=by
 rw [Bool.eq_iff_iff]
 cases i
 cases j
 simp
section
variable {X:Cx} {a b c:Expr} {ta tb tc:TE} {pos:Pos}
theorem Cd {pins:List (Addr × Obj)} {σ:St} {H:Hp} {s:Shared} {Q:VK} {k k':Bool} (I:Inv X pins σ H s) (q:Q (.bl k) H) (e:k=k'):EP X pins σ Q (.bool k') s:=by
 subst e
 exact ⟨.bl k,H,I,rfl,q⟩
theorem bi:OpR X (compareOp .Eq) rEq:=by
 intro pins s σ H x y v u Q I rx ry h
 obtain ⟨hs,q⟩:=h
 cases x with
 | non=>
  cases rx
  cases y with
  | non=>cases ry;exact PySem.EqNone.eq_none_none (Cd I q (by simp))
  | bl j=>cases ry;exact PySem.EqNone.eq_none_bool (Cd I q (by simp))
  | int j=>obtain ⟨t',rfl⟩:=ry;exact PySem.EqNone.eq_none_int (Cd I q (by simp))
  | str j=>obtain ⟨t',rfl⟩:=ry;exact PySem.EqNone.eq_none_str (Cd I q (by simp))
  | _=>exact absurd (show false=true from hs) Bool.false_ne_true
 | bl i=>
  cases rx
  cases y with
  | non=>cases ry;exact PySem.EqNone.eq_bool_none (Cd I q (by simp))
  | bl j=>cases ry;exact eq_bool (Cd I q jJ)
  | str j=>obtain ⟨t',rfl⟩:=ry;exact PySem.EqMixed.eq_bool_str (Cd I q (by simp))
  | _=>exact absurd (show false=true from hs) Bool.false_ne_true
 | int i=>
  obtain ⟨t,rfl⟩:=rx
  cases y with
  | non=>cases ry;exact PySem.EqNone.eq_int_none (Cd I q (by simp))
  | int j=>obtain ⟨t',rfl⟩:=ry;exact eq_int (Cd I q MD)
  | str j=>obtain ⟨t',rfl⟩:=ry;exact PySem.EqMixed.eq_int_str (Cd I q (by simp))
  | _=>exact absurd (show false=true from hs) Bool.false_ne_true
 | str i=>
  obtain ⟨t,rfl⟩:=rx
  cases y with
  | non=>cases ry;exact PySem.EqNone.eq_str_none (Cd I q (by simp))
  | bl j=>cases ry;exact PySem.EqMixed.eq_str_bool (Cd I q (by simp))
  | int j=>obtain ⟨t',rfl⟩:=ry;exact PySem.EqMixed.eq_str_int (Cd I q (by simp))
  | str j=>obtain ⟨t',rfl⟩:=ry;exact eq_str (Cd I q gE)
  | _=>exact absurd (show false=true from hs) Bool.false_ne_true
 | byt i=>
  obtain ⟨t,rfl⟩:=rx
  cases y with
  | byt j=>obtain ⟨t',rfl⟩:=ry;exact PySem.W.eq_bytes (Cd I q fD)
  | _=>exact absurd (show false=true from hs) Bool.false_ne_true
 | _=>cases y <;> exact absurd (show false=true from hs) Bool.false_ne_true
theorem DA:OpR X (compareOp .NotEq) rNe:=by
 intro pins s σ H x y v u Q I rx ry h
 obtain ⟨hs,q⟩:=h
 cases x with
 | non=>
  cases rx
  cases y with
  | non=>cases ry;exact PySem.EqNone.ne_none_none (Cd I q (by simp))
  | bl j=>cases ry;exact PySem.EqNone.ne_none_bool (Cd I q (by simp))
  | int j=>obtain ⟨t',rfl⟩:=ry;exact PySem.EqNone.ne_none_int (Cd I q (by simp))
  | str j=>obtain ⟨t',rfl⟩:=ry;exact PySem.EqNone.ne_none_str (Cd I q (by simp))
  | _=>exact absurd (show false=true from hs) Bool.false_ne_true
 | bl i=>
  cases rx
  cases y with
  | non=>cases ry;exact PySem.EqNone.ne_bool_none (Cd I q (by simp))
  | bl j=>cases ry;exact ne_bool (Cd I q (congrArg not jJ))
  | str j=>obtain ⟨t',rfl⟩:=ry;exact PySem.EqMixed.ne_bool_str (Cd I q (by simp))
  | _=>exact absurd (show false=true from hs) Bool.false_ne_true
 | int i=>
  obtain ⟨t,rfl⟩:=rx
  cases y with
  | non=>cases ry;exact PySem.EqNone.ne_int_none (Cd I q (by simp))
  | int j=>obtain ⟨t',rfl⟩:=ry;exact ne_int (Cd I q (congrArg not MD))
  | str j=>obtain ⟨t',rfl⟩:=ry;exact PySem.EqMixed.ne_int_str (Cd I q (by simp))
  | _=>exact absurd (show false=true from hs) Bool.false_ne_true
 | str i=>
  obtain ⟨t,rfl⟩:=rx
  cases y with
  | non=>cases ry;exact PySem.EqNone.ne_str_none (Cd I q (by simp))
  | bl j=>cases ry;exact PySem.EqMixed.ne_str_bool (Cd I q (by simp))
  | int j=>obtain ⟨t',rfl⟩:=ry;exact PySem.EqMixed.ne_str_int (Cd I q (by simp))
  | str j=>obtain ⟨t',rfl⟩:=ry;exact ne_str (Cd I q (congrArg not gE))
  | _=>exact absurd (show false=true from hs) Bool.false_ne_true
 | byt i=>
  obtain ⟨t,rfl⟩:=rx
  cases y with
  | byt j=>obtain ⟨t',rfl⟩:=ry;exact PySem.W.ne_bytes (Cd I q (congrArg not fD))
  | _=>exact absurd (show false=true from hs) Bool.false_ne_true
 | _=>cases y <;> exact absurd (show false=true from hs) Bool.false_ne_true
theorem xv:OpR X (compareOp .Lt) (rI0 fun i j=>.bl (decide (i < j))):=kP fun _ _ _ _ _ _ _ q=>lt_int q
theorem bQ:OpR X (compareOp .LtE) (rI0 fun i j=>.bl (decide (i ≤ j))):=kP fun _ _ _ _ _ _ _ q=>le_int q
theorem vK:OpR X (compareOp .Gt) (rI0 fun i j=>.bl (decide (j < i))):=kP fun _ _ _ _ _ _ _ q=>gt_int q
theorem iQ:OpR X (compareOp .GtE) (rI0 fun i j=>.bl (decide (j ≤ i))):=kP fun _ _ _ _ _ _ _ q=>ge_int q
theorem uF:OpR X (compareOp .In) (fun x y H Q=>∃ i j,x=.str i∧y=.str j∧Q (.bl (!(Builtin.Str.occurrences j i 0 j.length 1).isEmpty)) H):=by
 intro pins s σ H x y v u Q I rx ry h
 obtain ⟨i,j,rfl,rfl,q⟩:=h
 obtain ⟨t,rfl⟩:=rx
 obtain ⟨t',rfl⟩:=ry
 exact in_str (Cd I q rfl)
theorem jD:OpR X (compareOp .IsNot) (fun x y H Q=>y=.non∧Q (.bl (!decide (x=.non))) H):=by
 intro pins s σ H x y v u Q I rx ry h
 obtain ⟨rfl,q⟩:=h
 cases ry
 refine isnot_none_gen (Cd I q ?_)
 cases x <;> first
  | (cases rx;rfl)
  | (obtain ⟨t,rfl⟩:=rx;rfl)
theorem OpR.or {f:Value→Value→Sem Value} {r r':R2} (h:OpR X f r) (h':OpR X f r'):OpR X f (fun x y H Q=>r x y H Q∨r' x y H Q):=by
 intro pins s σ H x y v u Q I rx ry q
 rcases q with q | q
 ·exact h pins s σ H x y v u Q I rx ry q
 ·exact h' pins s σ H x y v u Q I rx ry q
theorem uc (b:Expr) {op:CmpOp} (h:op ≠ .In:=by decide) (h2:op ≠ .NotIn:=by decide):behindInMarks op b=false:=by
 have e1:(op == CmpOp.In)=false:=by cases op <;> first | rfl | exact absurd rfl h
 have e2:(op == CmpOp.NotIn)=false:=by cases op <;> first | rfl | exact absurd rfl h2
 cases b <;> simp [behindInMarks,e1,e2]
theorem Te {op:CmpOp} {r:R2} (ho:OpR X (compareOp op) r) (ha:PE X a ta) (hb:PE X b tb) (hm:behindInMarks op b=false):PE X (.Compare a [op] [b] pos) (tOp r ta tb):=by
 intro pins s σ H Q I h
 exact wpAny_Compare1 (RP ha hb I h fun v u s2 x y H2 I2 rx ry q=>ho pins s2 σ H2 x y v u Q I2 rx ry q) hm
noncomputable def GM (t:TE):TT:=fun σ H Q=>t σ H fun x H'=>∃ k,x=.bl k∧Q k H'
theorem Sb {op:CmpOp} {r:R2} (ho:OpR X (compareOp op) r) (ha:PE X a ta) (hb:PE X b tb) (hm:behindInMarks op b=false):PT X (.Compare a [op] [b] pos) (GM (tOp r ta tb)):=by
 intro pins s σ H Q I h
 refine wpAny_isTrue_Compare1 (thn (ha pins s σ H _ I h) fun v s1 ⟨x,H1,I1,r1,q1⟩=>thn (hb pins s1 σ H1 _ I1 q1) fun u s2 ⟨y,H2,I2,r2,q2⟩=>
  thn (ho pins s2 σ H2 x y v u _ I2 r1 r2 q2) fun c s3 ⟨z,H3,I3,r3,k,e,q3⟩=>?_) hm
 subst e
 cases r3
 exact wpAny_truthy_bool ⟨H3,I3,q3⟩
noncomputable def XN (r r':R2) (ta tb tc:TE):TE:=fun σ H Q=>ta σ H fun x H1=>tb σ H1 fun y H2=>r x y H2 fun z H3=>∃ k,z=.bl k ∧
 (if k=true then tc σ H3 fun w' H4=>r' y w' H4 Q else Q (.bl false) H3)
noncomputable def oQ (K:PySem.W.Frag) (x:V) (H:Hp) (k:Bool):Prop:=
 match x with
 | .non=>k=false
 | .bl b=>k=b
 | .int i=>k=(i != 0)
 | .str y=>y.length ≤ sizeLine∧k=((y.length:Int) != 0)
 | .byt y=>y.size ≤ sizeLine∧k=((y.size:Int) != 0)
 | .ref p=>(∃ xs,SqL K H p xs∧k = !xs.isEmpty)∨(∃ xs,SqT K H p xs∧k = !xs.isEmpty)∨∃ kvs,H p=some (.dK kvs)∧k = !kvs.isEmpty
 | _=>False
theorem fB {κ:Type} {kvs:List (κ × V)} {vs:List (κ × Value)} (r:KV kvs vs):(!vs.isEmpty) = !kvs.isEmpty:=by
 cases r <;> rfl
theorem Mt {xs:List V} {its:List Value} (r:kd xs its):(!its.toArray.isEmpty) = !xs.isEmpty:=by
 cases r <;> simp
theorem gr:(sizeLine:Nat) < 2 ^ 63:=by rw [sizeLine_eq];decide
theorem zN:YQ X (fun x H Q=>∃ k,oQ X.K x H k∧Q k H):=by
 intro pins s σ H x v Q I rx h
 obtain ⟨k,e,q⟩:=h
 have hl:=gr
 have hs:sizeLine=16777216:=sizeLine_eq
 cases x with
 | non=>
  cases rx
  have e':k=false:=e
  subst e'
  exact truthy_none ⟨H,I,q⟩
 | bl b=>
  cases rx
  have e':k=b:=e
  subst e'
  exact wpAny_truthy_bool ⟨H,I,q⟩
 | int i=>
  obtain ⟨t,rfl⟩:=rx
  have e':k=(i != 0):=e
  subst e'
  exact PySem.P.truthy_int ⟨H,I,q⟩
 | str y=>
  obtain ⟨t,rfl⟩:=rx
  obtain ⟨hy,e'⟩:y.length ≤ sizeLine∧k=((y.length:Int) != 0):=e
  subst e'
  exact PySem.P.truthy_str (by omega) ⟨H,I.tok _,q⟩
 | byt y=>
  obtain ⟨t,rfl⟩:=rx
  obtain ⟨hy,e'⟩:y.size ≤ sizeLine∧k=((y.size:Int) != 0):=e
  subst e'
  exact PySem.W.truthy_bytes (by omega) ⟨H,I.tok _,q⟩
 | ref p=>
  cases rx
  have e':(∃ xs,SqL X.K H p xs∧k = !xs.isEmpty)∨(∃ xs,SqT X.K H p xs∧k = !xs.isEmpty)∨∃ kvs,H p=some (.dK kvs)∧k = !kvs.isEmpty:=e
  rcases e' with ⟨xs,hx,e'⟩ | ⟨xs,hx,e'⟩ | ⟨kvs,hx,e'⟩
  ·subst e'
   obtain ⟨its,r,pl,hz⟩:=I.list hx
   have hlen:=r.length
   exact wpAny_truthy_list pl.isList (by simp only [List.size_toArray];omega) ⟨H,I.tok _,by rw [Mt r];exact q⟩
  ·subst e'
   obtain ⟨its,r,pl,hz⟩:=I.tuple hx
   have hlen:=r.length
   exact truthy_tuple pl (by simp only [List.size_toArray];omega) ⟨H,I.tok _,by rw [Mt r];exact q⟩
  ·subst e'
   obtain ⟨hz,hS,vs,r,m⟩:kvs.length ≤ sizeLine∧(p == sysModules)=false∧∃ vs,KV kvs vs∧s.heap.DictOf (ff X.prog X.w) p vs:=I.hok p _ hx
   have hlen:kvs.length=vs.length:=Paired.length r
   exact wpAny_truthy_dict hS m (by omega) ⟨H,I.tok _,by rw [fB r];exact q⟩
 | _=>exact (show False from e).elim
theorem fA (ha:PE X a ta) (he:∀ whole,isTrue a X.env whole=(do let v ← whole;standAt a.pos;holding [v] (truthy v))) :
  PT X a (fun σ H Q=>ta σ H fun x H'=>∃ k,oQ X.K x H' k∧Q k H'):=by
 intro pins s σ H Q I h
 exact isTrue_plain (thn (ha pins s σ H _ I h) fun v s1 ⟨x,H1,I1,r1,q1⟩=>zN pins s1 σ H1 x v Q I1 r1 q1) (he _)
theorem ud:OpR X (binaryOp .Add) (fun x y H Q=>∃ i j,x=.str i∧y=.str j∧i.length + j.length ≤ sizeLine∧Q (.str (i ++ j)) H):=by
 intro pins s σ H x y v u Q I rx ry h
 obtain ⟨i,j,rfl,rfl,hz,q⟩:=h
 obtain ⟨t,rfl⟩:=rx
 obtain ⟨t',rfl⟩:=ry
 exact add_str (fun t' tk=>⟨.str (i ++ j),H,I.tok _,⟨_,rfl⟩,q⟩) hz
theorem Zv {x:V} {us:List Value} (r:kd [x] us):∃ u,us=[u]∧Md x u:=by
 cases r with
 | cons r1 r2=>cases r2;exact ⟨_,rfl,r1⟩
theorem jy {x y:V} {us:List Value} (r:kd [x,y] us):∃ u w',us=[u,w']∧Md x u∧Md y w':=by
 cases r with
 | cons r1 r2=>
  cases r2 with
  | cons r3 r4=>cases r4;exact ⟨_,_,rfl,r1,r3⟩
theorem ow (hc:X.calm=true):Kj X (.builtin "max") (fun xs H Q=>∃ i j,xs=[.int i,.int j]∧Q (.int (if j > i then j else i)) H):=by
 intro pins s σ H xs us Q I r h
 obtain ⟨i,j,rfl,q⟩:=h
 obtain ⟨u,w',rfl,⟨t,rfl⟩,⟨t',rfl⟩⟩:=jy r
 refine max_two_ints (I.ok.hd hc) fun h' tk k=>⟨_,H,I.kept k,?_,q⟩
 by_cases hj:j > i
 ·rw [if_pos hj,if_pos hj];exact ⟨_,rfl⟩
 ·rw [if_neg hj,if_neg hj];exact ⟨_,rfl⟩
theorem KC (hc:X.calm=true):Kj X (.builtin "min") (fun xs H Q=>∃ i j,xs=[.int i,.int j]∧Q (.int (if j < i then j else i)) H):=by
 intro pins s σ H xs us Q I r h
 obtain ⟨i,j,rfl,q⟩:=h
 obtain ⟨u,w',rfl,⟨t,rfl⟩,⟨t',rfl⟩⟩:=jy r
 refine min_two_ints (I.ok.hd hc) fun h' tk k=>⟨_,H,I.kept k,?_,q⟩
 by_cases hj:j < i
 ·rw [if_pos hj,if_pos hj];exact ⟨_,rfl⟩
 ·rw [if_neg hj,if_neg hj];exact ⟨_,rfl⟩
theorem df:Kj X (.type "str") (fun xs H Q=>∃ i,xs=[.int i]∧i.natAbs.log2 < 1920∧Q (.str (toString i)) H):=by
 intro pins s σ H xs us Q I r h
 obtain ⟨i,rfl,hz,q⟩:=h
 obtain ⟨u,rfl,t,rfl⟩:=Zv r
 exact PySem.P.str_of_int hz ⟨.str _,H,I.tok _,⟨_,rfl⟩,q⟩
end
end L2
namespace L2
open PySem PySem.Spec PyProof.Rows
structure aM (h:Heap) (x dx C:Addr) (mA:Str→Option Value):Prop where
 obj:h.get? x=some (PySem.W.instObj C dx)
 ns:h.Ns1 dx mA
 ne:dx ≠ x
theorem Hn {h:Heap} {dx:Addr} {mA:Str→Option Value} (n:h.Ns1 dx mA):∃ od,h.get? dx=some od∧∀ name,PySem.W.lookIn name od=some (mA name):=by
 obtain ⟨o,es,ep,ho,hd,hk,_,hm⟩:=n
 refine ⟨o,ho,fun name=>?_⟩
 have e:=hm name
 unfold nsFind findBy at e
 rw [← Array.find?_toList] at e
 unfold PySem.W.lookIn
 rw [hd]
 dsimp only
 split
 ·rename_i y q
  rw [q] at e
  exact congrArg some e
 ·rename_i q
  rw [q] at e
  have a:es.toList.any (·.refKey)=false:=by
   rw [List.any_eq_false]
   intro y hy
   obtain ⟨z,t,hkey⟩:=hk y (Array.mem_toList_iff.mp hy)
   simp [DictEntry.refKey,hkey]
  have a':¬ es.toList.any (·.refKey)=true:=by rw [a];exact Bool.false_ne_true
  rw [if_neg a']
  exact congrArg some e
theorem aM.look {h:Heap} {x dx C:Addr} {mA:Str→Option Value} (I:aM h x dx C mA):∃ od,PySem.W.InstAt h x (PySem.W.instObj C dx) C (some od)∧∀ name,PySem.W.lookIn name od=some (mA name):=
 let ⟨od,ho,hl⟩:=Hn I.ns
 ⟨od,⟨I.obj,rfl,rfl,ho⟩,hl⟩
section
variable {prog:Program} {w:World} {A:Around} {E:Value→Shared→Prop} {s:Shared} {K:PySem.W.Frag} {x dx C f:Addr} {mA:Str→Option Value} {name:Str} {v:Value}
theorem SL {expr:Bool} {Q:Value→Shared→Prop} (X:K.In s.heap) (I:aM s.heap x dx C mA) (hg:PySem.W.plainGet K C name=true) (hh:PySem.W.hasDictIn K C=true)
  (ha:PySem.W.findIn K (.ref C) name=some none) (hv:mA name=some v) (hv':PySem.W.handedIn v=true) (h:Q v { s with toks:=s.toks + 1 }) :
  wpAny (model prog w) A (getAttr (.ref x) name expr) Q E s:=by
 obtain ⟨od,J,hl⟩:=I.look
 exact PySem.W.get_value X J (PySem.W.plainGet_of hg).1 (PySem.W.findObj_own hh ha rfl (by rw [hl,hv])) hv' h
theorem MG {pl:Sem Bool} {Q:Value × List Value→Shared→Prop} (X:K.In s.heap) (I:aM s.heap x dx C mA) (hg:PySem.W.plainGet K C name=true)
  (hf:PySem.W.findIn K (.ref C) name=some (some (.ref f))) (ht:PySem.W.isFn K (.ref f)=true) (hv:mA name=none) (h:Q (.ref f,[.ref x]) s) :
  wpAny (model prog w) A (getMethod (.ref x) name pl) Q E s:=by
 obtain ⟨od,J,hl⟩:=I.look
 exact PySem.W.method_fn X J (PySem.W.plainGet_of hg).1 (PySem.W.plainGet_of hg).2 hf (beq_iff_eq.mp ht) (by show (PySem.W.lookIn name od).map (·.isSome)=some false;rw [hl,hv];rfl) h
theorem eK {ns:List Str} {Q:Unit→Shared→Prop} (X:K.In s.heap) (I:aM s.heap x dx C mA)
  (hs:PySem.W.findIn K (.ref C) "__setattr__"=some (some (.builtin "object.__setattr__"))) (hp:PySem.W.plainOver K C=true) (ht:PySem.W.takerIn K C name=some none) (hh:PySem.W.hasDictIn K C=true)
  (hw:PySem.Within mA ns) (hsz:ns.length ≤ sizeLine)
  (h:∀ h',aM h' x dx C (fun y=>if y=name then some v else mA y)→Heap.SameBut dx s.heap h'→Q () { s with heap:=h',toks:=s.toks + 2 }) :
  wpAny (model prog w) A (setAttr (.ref x) name v) Q E s:=by
 obtain ⟨od,J,hl⟩:=I.look
 refine PySem.W.set_plain X J hs (PySem.W.osa_open (s:={ s with toks:=s.toks + 1 }) (r:=none) X J hp ht fun b=>?_)
 obtain ⟨cd,hc,hd'⟩:=PySem.W.any_some hh
 have hx:s.heap.get? x=some ⟨.ref C,some dx,.plain,#[]⟩:=I.obj
 refine wpAny_bind (wpAny_pure (wpAny_bind (wpAny_bind (wpAny_loadPart hx (wpAny_bind (PySem.W.Looks.here (s:={ s with toks:=s.toks + 1 }) (PySem.W.looks_clsIn X hc) ?_))))))
 rw [hd']
 refine wpAny_pure (a:=some dx) (wpAny_bind (wpAny_pure (wpAny_bind ?_)))
 refine wpAny_nsSet1 (s:={ s with toks:=s.toks + 1 }) I.ns fun h' hn2 hs2=>?_
 obtain ⟨oD,esD,epD,hoD,hdD,hcD⟩:=hn2.count (PySem.Within.cons name v hw)
 refine wpAny_bind (wpAny_lookBehind hoD (by rw [hdD];exact pastItsLine_dict (Nat.le_trans hcD (by rw [List.length_cons];omega))) ?_)
 exact wpAny_pure (h _ ⟨(hs2.2 _ (Ne.symm I.ne)).trans I.obj,hn2,I.ne⟩ hs2)
theorem yI {R:Result→Shared→Prop} {vs:List Value} {kw:List (Str × Value)} (X:K.In s.heap) (hm:PySem.W.makesIn K C=true)
  (hi:PySem.W.findIn K (.ref C) "__init__"=some (some (.ref f))) (hf:PySem.W.typeIn K (.ref f)=some (.type "function"))
  (h:codeAny (model prog w) (A.under (.builtin "type.__call__" ⟨.ref C :: vs,kw⟩)) (.call (.ref f) ⟨.ref (s.heap.objs.size + 1) :: vs,kw⟩) (PySem.W.InitBack (s.heap.objs.size + 1) R)
   { s with heap:=(s.heap.push PySem.W.emptyDict).push (PySem.W.instObj C s.heap.objs.size) }) :
  codeAny (model prog w) A (.call (.ref C) ⟨vs,kw⟩) R s:=by
 obtain ⟨hh,g,d,t,os⟩:=s
 exact PySem.W.make_core (PySem.W.makes_of X hm) (PySem.W.looks_findIn X hi) (fun self=>PySem.W.bind_fn X self hf) (.inl rfl) h
end
noncomputable def Qg (f:Str) (v:V):List (Str × V)→List (Str × V)
 | []=>[(f,v)]
 | (g,x) :: r=>if g=f then (g,v) :: r else (g,x) :: Qg f v r
theorem km (f g:Str) (v:V):∀ fs:List (Str × V),(Qg f v fs).lookup g=if g=f then some v else fs.lookup g
 | []=>by
  show List.lookup g [(f,v)]=_
  by_cases h:g=f
  ·have hb:(g == f)=true:=beq_iff_eq.mpr h
   simp only [List.lookup,hb,if_pos h]
  ·have hb:(g == f)=false:=beq_eq_false_iff_ne.mpr h
   simp only [List.lookup,hb,if_neg h]
 | (k,x) :: r=>by
  have ih:=km f g v r
  rw [show Qg f v ((k,x) :: r)=(if k=f then (k,v) :: r else (k,x) :: Qg f v r) from rfl]
  by_cases hk:k=f
  ·rw [if_pos hk]
   by_cases h:g=k
   ·have hb:(g == k)=true:=beq_iff_eq.mpr h
    simp only [List.lookup,hb,if_pos (h.trans hk)]
   ·have hb:(g == k)=false:=beq_eq_false_iff_ne.mpr h
    simp only [List.lookup,hb,if_neg (fun e:g=f=>h (e.trans hk.symm))]
  ·rw [if_neg hk]
   by_cases h:g=k
   ·have hb:(g == k)=true:=beq_iff_eq.mpr h
    simp only [List.lookup,hb,if_neg (fun e:g=f=>hk (h.symm.trans e))]
   ·have hb:(g == k)=false:=beq_eq_false_iff_ne.mpr h
    simp only [List.lookup,hb]
    exact ih
theorem Uj (f:Str) (v:V):∀ fs:List (Str × V),f ∈ (Qg f v fs).map (·.1)∧∀ g,g ∈ fs.map (·.1)→g ∈ (Qg f v fs).map (·.1)
 | []=>⟨by simp [Qg],fun g h=>by simp at h⟩
 | (k,x) :: r=>by
  obtain ⟨i1,i2⟩:=Uj f v r
  rw [show Qg f v ((k,x) :: r)=(if k=f then (k,v) :: r else (k,x) :: Qg f v r) from rfl]
  by_cases hk:k=f
  ·rw [if_pos hk]
   subst hk
   exact ⟨by simp,fun g h=>by simpa using h⟩
  ·rw [if_neg hk]
   refine ⟨?_,fun g h=>?_⟩
   ·rw [List.map_cons]
    exact List.mem_cons_of_mem _ i1
   ·rw [List.map_cons] at h ⊢
    rcases List.mem_cons.mp h with e | e
    ·exact List.mem_cons.mpr (.inl e)
    ·exact List.mem_cons_of_mem _ (i2 g e)
theorem um (f:Str) (v:V):∀ fs:List (Str × V),(Qg f v fs).length ≤ fs.length + 1
 | []=>by simp [Qg]
 | (k,x) :: r=>by
  have ih:=um f v r
  rw [show Qg f v ((k,x) :: r)=(if k=f then (k,v) :: r else (k,x) :: Qg f v r) from rfl]
  by_cases hk:k=f
  ·rw [if_pos hk,List.length_cons,List.length_cons];omega
  ·rw [if_neg hk,List.length_cons,List.length_cons];omega
theorem Sr.some_of {v:V} {o:Option Value} (r:Sr (some v) o):∃ u,o=some u∧Md v u:=by
 cases o with
 | none=>exact (show False from r).elim
 | some u=>exact ⟨u,rfl,r⟩
theorem Sr.none_of {o:Option Value} (r:Sr none o):o=none:=by
 cases o with
 | none=>rfl
 | some u=>exact (show False from r).elim
theorem bw {v:V} {u:Value} (r:Md v u):PySem.W.handedIn u=true:=by
 cases v with
 | non=>cases (show u=Value.none from r);rfl
 | bl b=>cases (show u=Value.bool b from r);rfl
 | int i=>obtain ⟨t,e⟩:=(show ∃ t,u=Value.int i t from r);cases e;rfl
 | str x=>obtain ⟨t,e⟩:=(show ∃ t,u=Value.str x t from r);cases e;rfl
 | byt b=>obtain ⟨t,e⟩:=(show ∃ t,u=Value.bytes b t from r);cases e;rfl
 | flt b=>obtain ⟨t,e⟩:=(show ∃ t,u=Value.float b t from r);cases e;rfl
 | ref a=>cases (show u=Value.ref a from r);rfl
 | ty n=>cases (show u=Value.type n from r);rfl
section
variable {P:Program} {w:World} {H H':Hp} {h h':Heap} {a C dx:Addr} {fs fs':List (Str × V)}
theorem Ku (hok:HOk P w H h) (e:H a=some (.ins C dx fs)):∃ mA,aM h a dx C mA∧(∀ f,Sr (fs.lookup f) (mA f))∧PySem.Within mA (fs.map (·.1))∧fs.length ≤ 1000∧H dx=some (.own a):=by
 obtain ⟨d,z,ne,ob,mA,n,r,q⟩:=(show Gd P w H h a (.ins C dx fs) from hok a _ e)
 exact ⟨mA,⟨ob,n,ne⟩,r,q,z,d⟩
end
structure Cls (K:PySem.W.Frag) (C:Addr):Prop where
 pg:PySem.W.plainGet K C Str.empty=true
 hd:PySem.W.hasDictIn K C=true
 po:PySem.W.plainOver K C=true
 sa:PySem.W.findIn K (.ref C) "__setattr__"=some (some (.builtin "object.__setattr__"))
theorem Cls.get {K:PySem.W.Frag} {C:Addr} (c:Cls K C) (f:Str):PySem.W.plainGet K C f=true:=c.pg
noncomputable def Db (K:PySem.W.Frag) (C:Addr) (f:Str):Prop:=PySem.W.findIn K (.ref C) f=some none
theorem Db.taker {K:PySem.W.Frag} {C:Addr} {f:Str} (n:Db K C f):PySem.W.takerIn K C f=some none:=by
 unfold PySem.W.takerIn
 rw [show PySem.W.findIn K (.ref C) f=some none from n]
 rfl
structure Con (K:PySem.W.Frag) (C:Addr) (f:Str) (v:V) (u:Value):Prop where
 at_:PySem.W.findIn K (.ref C) f=some (some u)
 rel:Md v u
 get:PySem.W.specialIn K u "__get__"=some none
 cp:PySem.W.copiedNames.contains f=false
structure Rt (K:PySem.W.Frag) (C:Addr) (m:Str) (f:Addr):Prop where
 at_:PySem.W.findIn K (.ref C) m=some (some (.ref f))
 fn:PySem.W.isFn K (.ref f)=true
 kp:PySem.W.keepIn K (.ref f)=true
section
variable {X:Cx} {pins:List (Addr × Obj)} {σ:St} {H:Hp} {s:Shared} {a C dx:Addr} {fs:List (Str × V)} {f:Str} {v:V} {A:Around} {E:Value→Shared→Prop}
theorem zt {b:Bool} {Q:Value→Shared→Prop} (I:Inv X pins σ H s) (e:H a=some (.ins C dx fs)) (c:Cls X.K C) (n:Db X.K C f) (l:fs.lookup f=some v)
  (h:∀ u s',Inv X pins σ H s'→Md v u→Q u s'):wpAny (model X.prog X.w) A (getAttr (.ref a) f b) Q E s:=by
 obtain ⟨mA,O,r,_,_,_⟩:=Ku I.hok e
 obtain ⟨u,hu,ru⟩:=Sr.some_of (v:=v) (o:=mA f) (by rw [← l];exact r f)
 exact SL I.kIn O (c.get f) c.hd n hu (bw ru) (h u _ (I.tok _) ru)
theorem uo {m:Str} {g:Addr} {pl:Sem Bool} {Q:Value × List Value→Shared→Prop} (I:Inv X pins σ H s) (e:H a=some (.ins C dx fs)) (c:Cls X.K C) (k:Rt X.K C m g) (l:fs.lookup m=none)
  (h:Q (.ref g,[.ref a]) s):wpAny (model X.prog X.w) A (getMethod (.ref a) m pl) Q E s:=by
 obtain ⟨mA,O,r,_,_,_⟩:=Ku I.hok e
 have hn:mA m=none:=Sr.none_of (by rw [← l];exact r m)
 exact MG I.kIn O (c.get m) k.at_ k.fn hn h
theorem wt {y:V} {u:Value} {Q:Unit→Shared→Prop} (I:Inv X pins σ H s) (e:H a=some (.ins C dx fs)) (c:Cls X.K C) (n:Db X.K C f) (hl:fs.length < 1000) (ry:Md y u)
  (h:∀ s',Inv X pins σ (upd H a (.ins C dx (Qg f y fs))) s'→Q () s'):wpAny (model X.prog X.w) A (setAttr (.ref a) f u) Q E s:=by
 obtain ⟨mA,O,r,wi,_,ho⟩:=Ku I.hok e
 have hz:(fs.map (·.1)).length ≤ sizeLine:=by rw [List.length_map,sizeLine_eq];omega
 refine eK I.kIn O c.sa c.po n.taker c.hd wi hz fun h' O' sb=>h _ ?_
 have hd:∃ o,h'.get? dx=some o:=let ⟨o,_,_,e',_⟩:=O'.ns;⟨o,e'⟩
 refine I.write (x:=a) (e:=dx) (by rw [e];exact True.intro) (.inr ho) (fun b q hb z=>(sb.2 b hb).trans z) hd ?_
 refine ⟨by rw [lb O.ne];exact ho,?_,O.ne,O'.obj,_,O'.ns,fun g=>?_,fun g hg=>?_⟩
 ·have:=um f y fs;omega
 ·show Sr ((Qg f y fs).lookup g) (if g=f then some u else mA g)
  rw [km]
  by_cases q:g=f
  ·rw [if_pos q,if_pos q];exact ry
  ·rw [if_neg q,if_neg q];exact r g
 ·by_cases q:g=f
  ·rw [q];exact (Uj f y fs).1
  ·refine (Uj f y fs).2 g (wi g fun z=>hg ?_)
   show (if g=f then some u else mA g)=none
   rw [if_neg q];exact z
theorem Inv.made (I:Inv X pins σ H s):Inv X pins σ (upd (upd H s.heap.objs.size (.own (s.heap.objs.size + 1))) (s.heap.objs.size + 1) (.ins C s.heap.objs.size []))
  { s with heap:=(s.heap.push PySem.W.emptyDict).push (PySem.W.instObj C s.heap.objs.size) }:=by
 have e1:(s.heap.push PySem.W.emptyDict).get? s.heap.objs.size=some PySem.W.emptyDict:=Heap.get?_push_size s.heap rfl
 have e2:((s.heap.push PySem.W.emptyDict).push (PySem.W.instObj C s.heap.objs.size)).get? (s.heap.objs.size + 1)=some (PySem.W.instObj C s.heap.objs.size):=by
  have:=Heap.get?_push_size (s.heap.push PySem.W.emptyDict) (o:=PySem.W.instObj C s.heap.objs.size) rfl
  rwa [Heap.size_push] at this
 have e3:(s.heap.push PySem.W.emptyDict).Ns s.heap.objs.size (fun _=>none):=⟨PySem.W.emptyDict,#[],_,e1,rfl,(fun e he=>absurd he (by simp)),fun _=>rfl⟩
 have I1:=I.laid (a:=s.heap.objs.size) (o:=.own (s.heap.objs.size + 1)) (h':=s.heap.push PySem.W.emptyDict) (t':=s.toks) (fun b u q=>Heap.get?_push_of_some _ q) (Nat.le_refl _) ⟨_,e1⟩
 refine I1.laid (a:=s.heap.objs.size + 1) (o:=.ins C s.heap.objs.size []) (t':=s.toks) (fun b u q=>Heap.get?_push_of_some _ q) (Nat.le_of_eq (Heap.size_push _ _)) ?_
 have ne:s.heap.objs.size ≠ s.heap.objs.size + 1:=Nat.ne_of_lt (Nat.lt_succ_self _)
 refine ⟨by rw [lb ne,db],Nat.zero_le _,ne,e2,fun _=>none,(Heap.Ns1.of_empty e3).at fun o q=>Heap.get?_push_of_some _ q,fun _=>True.intro,fun y hy=>absurd rfl hy⟩
theorem pF {prog:Program} {w:World} {env:Env} {e:Expr} {f:Str} {pos:Pos} {s:Shared} {Q:Value→Shared→Prop} (hb:attributeBase e f env (eval e env)=eval e env)
  (h:wpAny (model prog w) A (eval e env) (fun o s₁=>wpAny (model prog w) A (getAttr o f true) Q E s₁) E s):wpAny (model prog w) A (eval (.Attribute e f pos) env) Q E s:=
 Attribute_any_ h (by rw [arm_eval_Attribute,hb])
end
noncomputable def PP (K:PySem.W.Frag) (ta:TE) (f:Str):TE:=fun σ H Q=>ta σ H fun x H1=>∃ a C dx fs v,x=.ref a∧H1 a=some (.ins C dx fs)∧Cls K C∧Db K C f∧fs.lookup f=some v∧Q v H1
noncomputable def fR (K:PySem.W.Frag) (ta:TE) (f:Str):TE:=fun σ H Q=>ta σ H fun x H1=>∃ a C dx fs v u,x=.ref a∧H1 a=some (.ins C dx fs)∧Cls K C∧Con K C f v u∧fs.lookup f=none∧Q v H1
noncomputable def RQ (K:PySem.W.Frag) (ta tv:TE) (f:Str):TS:=fun D σ H=>tv σ H fun y H1=>ta σ H1 fun x H2=>∃ a C dx fs,x=.ref a∧H2 a=some (.ins C dx fs)∧Cls K C∧Db K C f∧fs.length < 1000 ∧
 D.nx σ (upd H2 a (.ins C dx (Qg f y fs)))
noncomputable def vQ (X:Cx) (op:Operator) (rd:V→V→Hp→VK→Prop):Prop:=
 ∀ (pins:List (Addr × Obj)) (s:Shared) (σ:St) (H:Hp) (x y:V) (u v:Value) (Q:VK),Inv X pins σ H s→Md x u→Md y v→rd x y H Q→wpAny (model X.prog X.w) X.A (inplaceOp op u v) (EP X pins σ Q) X.xe s
noncomputable def yC (K:PySem.W.Frag) (ta tv:TE) (rd:V→V→Hp→VK→Prop) (f:Str):TS:=fun D σ H=>ta σ H fun x H1=>∃ a C dx fs v,x=.ref a∧H1 a=some (.ins C dx fs)∧Cls K C∧Db K C f∧fs.lookup f=some v ∧
 tv σ H1 fun y H2=>rd v y H2 fun z H3=>∃ dx' fs',H3 a=some (.ins C dx' fs')∧fs'.length < 1000∧D.nx σ (upd H3 a (.ins C dx' (Qg f z fs')))
section
variable {X:Cx} {o e value:Expr} {f:Str} {pos pos' tpos:Pos} {ta tv:TE}
theorem Tc (he:PE X e ta) (hb:attributeBase e f X.env (eval e X.env)=eval e X.env):PE X (.Attribute e f pos) (PP X.K ta f):=by
 intro pins s σ H Q I h
 refine pF hb (thn (he pins s σ H _ I h) fun u s1 hZ1=>?_)
 obtain ⟨x,H1,I1,rx,a,C,dx,fs,v,ex,ea,c,n,l,q⟩:=hZ1
 subst ex
 obtain rfl:u=Value.ref a:=rx
 exact zt I1 ea c n l fun u' s2 I2 ru=>⟨v,H1,I2,ru,q⟩
theorem Bf (ha:PE X o ta) (hv:PE X value tv) (hs:swapsWith value (some (.Attribute o f pos')) pos.line X.env=pure false):PS X (.Assign [.Attribute o f pos'] value pos) (RQ X.K ta tv f):=by
 intro pins s σ H D I h
 refine plainObj_wpAny_Assign_Attribute (thn (hv pins s σ H _ I h) fun u s1 ⟨y,H1,I1,ry,q⟩=>thn (ha pins s1 σ H1 _ I1 q) fun ov s2 hZ1=>?_) hs
 obtain ⟨x,H2,I2,rx,a,C,dx,fs,ex,ea,c,n,l,q2⟩:=hZ1
 subst ex
 obtain rfl:ov=Value.ref a:=rx
 exact wt I2 ea c n l ry fun s3 I3=>⟨σ,_,I3,q2⟩
theorem Cv {op:Operator} {rd:V→V→Hp→VK→Prop} (ha:PE X o ta) (hv:PE X value tv) (hop:vQ X op rd):PS X (.AugAssign (.Attribute o f tpos) op value pos) (yC X.K ta tv rd f):=by
 intro pins s σ H D I h
 refine wpAny_AugAssign_AttributeAny (thn (ha pins s σ H _ I h) fun ov s1 hZ1=>?_)
 obtain ⟨x,H1,I1,rx,a,C,dx,fs,v,ex,ea,c,n,l,q⟩:=hZ1
 subst ex
 obtain rfl:ov=Value.ref a:=rx
 refine zt I1 ea c n l fun u s2 I2 ru=>thn (hv pins s2 σ H1 _ I2 q) fun w3 s3 ⟨y,H2,I3,ry,q3⟩=>thn (hop pins s3 σ H2 v y u w3 _ I3 ru ry q3) fun w4 s4 hZ1=>?_
 obtain ⟨z,H3,I4,rz,dx',fs',ea',l',q4⟩:=hZ1
 exact wt I4 ea' c n l' rz fun s5 I5=>⟨σ,_,I5,q4⟩
noncomputable def DQ:V→V→Hp→VK→Prop:=fun x y H Q=>∃ i j,x=.int i∧y=.int j∧Q (.int (i + j)) H
noncomputable def eR:V→V→Hp→VK→Prop:=fun x y H Q=>∃ i j,x=.int i∧y=.int j∧Q (.int (i - j)) H
theorem yJ:vQ X .Add DQ:=by
 rintro pins s σ H x y u v Q I rx ry ⟨i,j,rfl,rfl,q⟩
 obtain ⟨t,rfl⟩:=(show ∃ t,u=Value.int i t from rx)
 obtain ⟨t',rfl⟩:=(show ∃ t',v=Value.int j t' from ry)
 exact PyProof.Rows.iadd_int ⟨.int (i + j),H,I.tok _,⟨_,rfl⟩,q⟩
end
section
variable {X:Cx} {pins:List (Addr × Obj)} {σ:St} {H:Hp} {s:Shared} {A:Around} {E:Value→Shared→Prop} {Q:Value→Shared→Prop} {c:Value} {b:Bool}
inductive Wz (K:PySem.W.Frag) (H:Hp):V→Value→Prop where
 | non:Wz K H .non (.type "NoneType")
 | bl (x:Bool):Wz K H (.bl x) (.type "bool")
 | int (i:Int):Wz K H (.int i) (.type "int")
 | str (x:Str):Wz K H (.str x) (.type "str")
 | flt (x:UInt64):Wz K H (.flt x) (.type "float")
 | lst {a:Addr} {xs:List V} (e:H a=some (.lst xs)):Wz K H (.ref a) (.type "list")
 | frz {a:Addr} {o:Obj} {xs:List V} (e:H a=some (.frz o (.lst xs))):Wz K H (.ref a) (.type "list")
 | tup {a:Addr} {xs:List V} (e:H a=some (.tup xs)):Wz K H (.ref a) (.type "tuple")
 | dK {a:Addr} {kvs:List (Key × V)} (e:H a=some (.dK kvs)):Wz K H (.ref a) (.type "dict")
 | dT {a:Addr} {kvs:List (List Key × V)} (e:H a=some (.dT kvs)):Wz K H (.ref a) (.type "dict")
 | ins {a C dx:Addr} {fs:List (Str × V)} (e:H a=some (.ins C dx fs)) (cl:Cls K C) (ha:PySem.W.findIn K (.ref C) "__class__"=some (some (.builtin "object.__class__")))
   (hn:PySem.W.specialIn K (.builtin "object.__class__") "__get__"=some (some (.builtin "getset_descriptor.__get__"))) (htk:PySem.W.takesIn K (.builtin "object.__class__")=some true)
   (hm:PySem.W.mroIn K C (.type "object")=some true):Wz K H (.ref a) (.ref C)
theorem QD {x:V} {u t:Value} (I:Inv X pins σ H s) (rx:Md x u) (ty:Wz X.K H x t) (e:PySem.W.kitOne X.K t c=some b) (h:∀ tk,Q (.bool b) { s with toks:=tk }) :
  wpAny (model X.prog X.w) A (call (.builtin "isinstance") [u,c]) Q E s:=by
 cases ty with
 | non=>cases (show u=Value.none from rx);exact PySem.W.kia_one PySem.W.kitx_none I.kIn True.intro e (fun z=>nomatch z) h
 | bl y=>cases (show u=Value.bool y from rx);exact PySem.W.kia_one PySem.W.kitx_bool I.kIn True.intro e (fun z=>nomatch z) h
 | int i=>obtain ⟨t,q⟩:=(show ∃ t,u=Value.int i t from rx);cases q;exact PySem.W.kia_one PySem.W.kitx_int I.kIn True.intro e (fun z=>nomatch z) h
 | str y=>obtain ⟨t,q⟩:=(show ∃ t,u=Value.str y t from rx);cases q;exact PySem.W.kia_one PySem.W.kitx_str I.kIn True.intro e (fun z=>nomatch z) h
 | flt y=>obtain ⟨t,q⟩:=(show ∃ t,u=Value.float y t from rx);cases q;exact PySem.W.kia_one PySem.W.kitx_float I.kIn True.intro e (fun z=>nomatch z) h
 | @lst a xs ea=>
  cases (show u=Value.ref a from rx)
  obtain ⟨_,_,n,_,h1⟩:=(show Gd X.prog X.w H s.heap a (.lst xs) from I.hok a _ ea)
  exact PySem.W.kia_one PySem.W.kitx_list I.kIn ⟨_,h1,rfl⟩ e (fun z=>nomatch z) h
 | @frz a ob xs ea=>
  cases (show u=Value.ref a from rx)
  obtain ⟨_,_,_,n,_,h1⟩:=(show Gd X.prog X.w H s.heap a (.frz ob (.lst xs)) from I.hok a _ ea)
  exact PySem.W.kia_one PySem.W.kitx_list I.kIn ⟨_,h1,rfl⟩ e (fun z=>nomatch z) h
 | @tup a xs ea=>
  cases (show u=Value.ref a from rx)
  obtain ⟨_,_,_,p⟩:=(show Gd X.prog X.w H s.heap a (.tup xs) from I.hok a _ ea)
  obtain ⟨o,h1,h2,_⟩:=p
  exact PySem.W.kia_one PySem.W.kitx_tuple I.kIn ⟨o,h1,h2⟩ e (fun z=>nomatch z) h
 | @dK a kvs ea=>
  cases (show u=Value.ref a from rx)
  obtain ⟨_,_,vs,_,p⟩:=(show Gd X.prog X.w H s.heap a (.dK kvs) from I.hok a _ ea)
  obtain ⟨o,es,ep,h1,h2,_⟩:=p
  exact PySem.W.kia_one PySem.W.kitx_dict I.kIn ⟨o,h1,h2.1⟩ e (fun z=>nomatch z) h
 | @dT a kvs ea=>
  cases (show u=Value.ref a from rx)
  obtain ⟨_,_,xs,_,o,es,ep,h1,h2,_⟩:=(show Gd X.prog X.w H s.heap a (.dT kvs) from I.hok a _ ea)
  exact PySem.W.kia_one PySem.W.kitx_dict I.kIn ⟨o,h1,h2.1⟩ e (fun z=>nomatch z) h
 | @ins a C dx fs ea cl ha hn htk hm=>
  cases (show u=Value.ref a from rx)
  obtain ⟨mA,O,_⟩:=Ku I.hok ea
  obtain ⟨od,J,_⟩:=O.look
  exact PySem.W.kia_one (PySem.W.kitx_own (cl.get _) cl.hd ha hn htk hm) I.kIn J e (fun z=>nomatch z) h
end
end L2
namespace L2
open PySem PySem.Spec PyProof.Rows
structure Bi (k:Nat) (A:Around):Prop where
 hd:A.handled=none
 dp:A.depth + 3 * k + 5 < recursionLimit
 un:A.units + 16 * k + 200 < cLine
theorem Bi.mono {j k:Nat} {A:Around} (r:Bi k A) (h:j ≤ k):Bi j A:=⟨r.hd,by have:=r.dp;omega,by have:=r.un;omega⟩
theorem Bi.deeper {k:Nat} {A:Around} (r:Bi (k + 1) A) (env:Env):Bi k (A.deeper env):=
 ⟨r.hd,by have:=r.dp;show A.depth + 1 + 3 * k + 5 < _;omega,by have:=r.un;show A.units + 3 + 16 * k + 200 < _;omega⟩
theorem Bi.in1 {k:Nat} {A:Around} (r:Bi (k + 1) A):Bi k A.in1:=
 ⟨r.hd,by have:=r.dp;show A.depth + 3 * k + 5 < _;omega,by have:=r.un;show A.units + 1 + 16 * k + 200 < _;omega⟩
theorem zA {A:Around} {C:Addr} {us:List Value} {kw:List (Str × Value)}:(A.under (.builtin "type.__call__" ⟨.ref C :: us,kw⟩)).depth=A.depth + 1:=by
 first | rfl | simp [Around.under,Code.weight,Code.isCreation,Code.isGuard,Code.isCaller,Code.frames,Code.isFrame,guardIds]
theorem qB {A:Around} {C:Addr} {us:List Value} {kw:List (Str × Value)}:(A.under (.builtin "type.__call__" ⟨.ref C :: us,kw⟩)).units=A.units + 1:=by
 first | rfl | simp [Around.under,Code.cUnits,Code.frames,Code.isFrame]
theorem Bi.make {k:Nat} {A:Around} (r:Bi (k + 1) A) (C:Addr) (us:List Value) (kw:List (Str × Value)):Bi k (A.under (.builtin "type.__call__" ⟨.ref C :: us,kw⟩)):=
 ⟨r.hd,by have:=r.dp;rw [zA];omega,by have:=r.un;rw [qB];omega⟩
theorem Bi.depth {k:Nat} {A:Around} (r:Bi k A):A.depth < recursionLimit:=by have:=r.dp;omega
theorem Bi.units {k:Nat} {A:Around} (r:Bi k A):A.units + 64 < cLine:=by have:=r.un;omega
noncomputable def mP:TA:=fun _ H Q=>Q [] H
noncomputable def CO (ta:TE) (tr:TA):TA:=fun σ H Q=>ta σ H fun x H1=>tr σ H1 fun xs H2=>Q (x :: xs) H2
section
variable {X:Cx} {e:Expr} {es:List Expr} {te:TE} {t:TA} {pos:Pos}
theorem fb:PA X [] mP:=fun _ _ _ _ H Q I h=>Calls.spliced_nil ⟨[],H,I,.nil,h⟩
theorem bb (ha:PE X e te) (hr:PA X es t) (hs:starEach (e :: es) X.env=(false,eval e X.env) :: starEach es X.env:=by rfl):PA X (e :: es) (CO te t):=by
 intro pos pins s σ H Q I h
 rw [hs]
 show wpAny _ _ (spliced ((false,eval e X.env) :: backTo pos (starEach es X.env))) _ _ s
 refine Calls.spliced_cons (thn (ha pins s σ H _ I h) fun u s1 hZ1=>?_)
 obtain ⟨x,H1,I1,r1,q1⟩:=hZ1
 exact thn (hr pos pins s1 σ H1 _ I1 q1) fun us s2 ⟨xs,H2,I2,r2,q2⟩=>⟨x :: xs,H2,I2,.cons r1 r2,q2⟩
noncomputable def qQ (t:TA):TE:=fun σ H Q=>t σ H fun xs H1=>xs.length ≤ sizeLine∧∀ p,H1 p=none→Q (.ref p) (upd H1 p (.tup xs))
noncomputable def IQ (t:TA):TE:=fun σ H Q=>t σ H fun xs H1=>xs.length ≤ sizeLine∧∀ p,H1 p=none→Q (.ref p) (upd H1 p (.lst xs))
theorem Hg {x1} (h:PA X es t):PE X (.Tuple es x1 pos) (qQ t):=by
 intro pins s σ H Q I hq
 refine wpAny_Tuple_spliced (thn (h pos pins s σ H _ I hq) fun us s1 ⟨xs,H1,I1,r,z,q⟩=>⟨by rw [← r.length];exact z,?_⟩)
 have hf:H1 s1.heap.objs.size=none:=I1.hok.fresh (Nat.le_refl _)
 refine ⟨.ref s1.heap.objs.size,upd H1 s1.heap.objs.size (.tup xs),I1.laid (t':=s1.toks) (fun b u e=>Heap.get?_push_of_some _ e) (Nat.le_refl _) ?_,rfl,q _ hf⟩
 exact ⟨z,us,r,⟨_,Heap.get?_push_size _ rfl,rfl,_,rfl⟩⟩
theorem Df (h:PA X es t):PE X (.List es pos) (IQ t):=by
 intro pins s σ H Q I hq
 refine wpAny_List_spliced (thn (h pos pins s σ H _ I hq) fun us s1 ⟨xs,H1,I1,r,z,q⟩=>⟨by rw [← r.length];exact z,?_⟩)
 have hf:H1 s1.heap.objs.size=none:=I1.hok.fresh (Nat.le_refl _)
 refine ⟨.ref s1.heap.objs.size,upd H1 s1.heap.objs.size (.lst xs),I1.laid (t':=s1.toks) (fun b u e=>Heap.get?_push_of_some _ e) (Nat.le_refl _) ?_,rfl,q _ hf⟩
 exact ⟨z,us,0,r,Heap.get?_push_size _ rfl⟩
end
noncomputable abbrev Sp:=List V→Hp→VK→XK→Prop
noncomputable abbrev CXT:=List Env→Hp→Shared→XK→Value→Shared→Prop
structure RB (P:Program) (w:World) (K:PySem.W.Frag) (mg:Str→Option Value) (base:Heap) (A:Around) (outer:List Env) (s:Shared) (H:Hp):Prop where
 frames:A.frames=some outer
 mod:Mod K mg base
 bs:∀ b o,base.get? b=some o→s.heap.get? b=some o∧H b=none
 bsz:base.objs.size ≤ s.heap.objs.size
 funs:s.heap.FunFrames base outer
 frf:∀ b ∈ frs outer,H b=none
 hok:HOk P w H s.heap
 bare:AllBare s.gens
noncomputable def CE (outer:List Env) (P:Program) (w:World) (H:Hp) (s:Shared) (Q:VK) (u:Value) (s':Shared):Prop:=
 ∃ v H',s'.os=s.os∧AllBare s'.gens∧Un (frs outer) [] H H' s.heap s'.heap∧HOk P w H' s'.heap∧Md v u∧Q v H'
noncomputable def CR (CX:CXT) (outer:List Env) (P:Program) (w:World) (H:Hp) (s:Shared) (Q:VK) (E:XK) (r:Result) (s':Shared):Prop:=
 match r with
 | .ok (.ret u)=>CE outer P w H s Q u s'
 | .ok _=>False
 | .error e=>CX outer H s E e s'
structure Eb (P:Program) (w:World) (K:PySem.W.Frag) (mg:Str→Option Value) (base:Heap) (CX:CXT) (k:Nat) (f:Addr) (fd:FuncData) (ps:List Str) (sp:Sp):Prop where
 len:∀ vs H Q E,sp vs H Q E→vs.length=ps.length
 run:∀ (A:Around) (outer:List Env) (s:Shared) (H:Hp) (args:Args) (us:List Value) (vs:List V) (Q:VK) (E:XK),Bi k A→RB P w K mg base A outer s H→BindsTo s fd args (ps.zip us)→kd vs us→sp vs H Q E →
  codeAny (model P w) A (.call (.ref f) args) (CR CX outer P w H s Q E) s
theorem Eb.mono {P:Program} {w:World} {K:PySem.W.Frag} {mg:Str→Option Value} {base:Heap} {CX:CXT} {j k:Nat} {f:Addr} {fd:FuncData} {ps:List Str} {sp:Sp} (F:Eb P w K mg base CX j f fd ps sp) (h:j ≤ k) :
  Eb P w K mg base CX k f fd ps sp:=⟨F.len,fun A outer s H args us vs Q E hr=>F.run A outer s H args us vs Q E (hr.mono h)⟩
theorem Eb.imp {P:Program} {w:World} {K:PySem.W.Frag} {mg:Str→Option Value} {base:Heap} {CX:CXT} {k:Nat} {f:Addr} {fd:FuncData} {ps:List Str} {sp sp':Sp} (F:Eb P w K mg base CX k f fd ps sp)
  (h:∀ vs H Q E,sp' vs H Q E→sp vs H Q E):Eb P w K mg base CX k f fd ps sp':=
 ⟨fun vs H Q E q=>F.len vs H Q E (h _ _ _ _ q),fun A outer s H args us vs Q E hr he hb hv hs=>F.run A outer s H args us vs Q E hr he hb hv (h _ _ _ _ hs)⟩
theorem RB.make {P:Program} {w:World} {K:PySem.W.Frag} {mg:Str→Option Value} {base:Heap} {A:Around} {outer:List Env} {s:Shared} {H:Hp} (e:RB P w K mg base A outer s H) (C:Addr) (us:List Value) (kw:List (Str × Value)) :
  RB P w K mg base (A.under (.builtin "type.__call__" ⟨.ref C :: us,kw⟩)) outer s H:=⟨by first | exact e.frames | (simpa [Around.under,Code.envs,Code.isFrame,pushEnvs] using e.frames),e.mod,e.bs,e.bsz,e.funs,e.frf,e.hok,e.bare⟩
theorem RB.in1 {P:Program} {w:World} {K:PySem.W.Frag} {mg:Str→Option Value} {base:Heap} {A:Around} {outer:List Env} {s:Shared} {H:Hp} (e:RB P w K mg base A outer s H) :
  RB P w K mg base A.in1 outer s H:=⟨e.frames,e.mod,e.bs,e.bsz,e.funs,e.frf,e.hok,e.bare⟩
section
variable {X:Cx} {pins:List (Addr × Obj)} {σ:St} {H:Hp} {s s':Shared}
theorem Inv.env0 (I:Inv X pins σ H s):RB X.prog X.w X.K X.mg X.base X.A X.stack s H:=
 ⟨I.ok.frames,I.ok.mod,I.bs,Nat.le_trans I.ok.bsz I.sz,I.stack,I.stkFree,I.hok,I.bare⟩
theorem Inv.after {Q:VK} {u:Value} (I:Inv X pins σ H s) (h:CE X.stack X.prog X.w H s Q u s'):EP X pins σ Q u s':=by
 obtain ⟨v,H',os,bare,un,hok,r,q⟩:=h
 obtain ⟨hh,g,d,t,os'⟩:=s'
 obtain rfl:os'=s.os:=os
 exact ⟨v,H',I.call (h':=hh) (g':=g) (d':=d) (t':=t) (ch:=[]) un hok bare (fun b z=>absurd z (by simp)),r,q⟩
end
noncomputable def eG (sp:Sp) (dvs:List V) (E:XK) (t:TA):TE:=fun σ H Q=>t σ H fun vs H1=>sp (vs ++ dvs) H1 Q E
noncomputable def uK (C:Addr) (m:Str) (sp:Sp) (dvs:List V) (E:XK) (ta:TE) (t:TA):TE:=fun σ H Q=>ta σ H fun x H1=>∃ a dx fs,x=.ref a∧H1 a=some (.ins C dx fs)∧fs.lookup m=none ∧
 t σ H1 fun vs H2=>sp (x :: (vs ++ dvs)) H2 Q E
noncomputable def oN (C:Addr) (sp:Sp) (dvs:List V) (E:XK) (t:TA):TE:=fun σ H Q=>t σ H fun vs H1=>∀ x dx,H1 x=none→H1 dx=none→dx ≠ x →
 sp (.ref x :: (vs ++ dvs)) (upd (upd H1 dx (.own x)) x (.ins C dx [])) (fun v H2=>v=.non∧Q (.ref x) H2) E
noncomputable def Nb (K:PySem.W.Frag) (fd:FuncData) (ps:List Str) (ds:List Value):Prop:=
 ∀ (s:Shared) (us:List Value),K.In s.heap→(us ++ ds).length=ps.length→BindsTo s fd ⟨us,[]⟩ (ps.zip (us ++ ds))
theorem Nb.all {K:PySem.W.Frag} {fd:FuncData} {ps:List Str} (h:∀ us:List Value,us.length=ps.length→bindArgs fd ⟨us,[]⟩=pure (ps.zip us)):Nb K fd ps []:=fun s us _ hl=>by
 rw [List.append_nil] at hl ⊢
 exact .of_eq (h us hl)
noncomputable def Hj (CX:CXT) (X:Cx) (E:XK):Prop:=∀ (pins:List (Addr × Obj)) (σ:St) (H:Hp) (s:Shared) (e:Value) (s':Shared),Inv X pins σ H s→CX X.stack H s E e s'→X.xe e s'
section
variable {X:Cx} {CX:CXT} {k:Nat} {f C:Addr} {fd:FuncData} {ps:List Str} {sp:Sp} {dvs:List V} {ds:List Value} {E:XK} {x m:Str} {p pos apos:Pos} {e o:Expr} {es:List Expr} {ta:TE} {t:TA}
theorem Yv {pins:List (Addr × Obj)} {σ:St} {H:Hp} {s:Shared} {Q:VK} {us:List Value} {vs:List V} (F:Eb X.prog X.w X.K X.mg X.base CX k f fd ps sp) (hr:Bi k X.A) (hb:Nb X.K fd ps ds) (hd:kd dvs ds) (hx:Hj CX X E)
  (I:Inv X pins σ H s) (r:kd vs us) (h:sp (vs ++ dvs) H Q E):wpAny (model X.prog X.w) X.A (call (.ref f) us) (EP X pins σ Q) X.xe s:=by
 have r2:kd (vs ++ dvs) (us ++ ds):=r.append hd
 have hl:(us ++ ds).length=ps.length:=by rw [← r2.length];exact F.len _ _ _ _ h
 refine wpAny_call (codeAny_mono (F.run X.A X.stack s H ⟨us,[]⟩ (us ++ ds) (vs ++ dvs) Q E hr I.env0 (hb s us I.kIn hl) r2 h) fun r s' hq=>?_)
 cases r with
 | error e=>exact hx pins σ H s e s' I hq
 | ok fl=>
  cases fl with
  | ret u=>exact I.after hq
  | next=>exact False.elim hq
  | brk=>exact False.elim hq
  | cont=>exact False.elim hq
theorem yb (F:Eb X.prog X.w X.K X.mg X.base CX k f fd ps sp) (hr:Bi k X.A) (hg:Gl X x) (hm:X.mg x=some (.ref f)) (hk:PySem.W.keepIn X.K (.ref f)=true) (hb:Nb X.K fd ps ds) (hd:kd dvs ds) (hx:Hj CX X E)
  (ha:PA X (e :: es) t) (hdb:(x == ("__debug__" : Str))=false:=by decide) (he:starEach (e :: es) X.env=(false,eval e X.env) :: starEach es X.env:=by rfl) (hpl:(backTo pos (starEach es X.env)).any (·.1)=false:=by rfl) :
  PE X (.Call (.Name x p) (e :: es) [] pos) (eG sp dvs E t):=by
 intro pins s σ H Q I h
 refine wpAny_Call_Name_kw (Zi I hg hm ?_ hdb)
 refine PySem.W.callWith_K (h₀:=X.base) I.ok.mod.kin hk (thn (ha pos pins s σ H _ I h) fun us s1 ⟨vs,H1,I1,r,q⟩=>⟨I1.kIn,?_⟩) he hpl
 exact Yv F hr hb hd hx I1 r q
theorem Vc {pl:Sem Bool} (he:PE X o ta) (c:Cls X.K C) (hm:Rt X.K C m f) (F:Eb X.prog X.w X.K X.mg X.base CX k f fd ps sp) (hr:Bi k X.A) (hb:Nb X.K fd ps ds) (hd:kd dvs ds) (hx:Hj CX X E) (ha:PA X (e :: es) t)
  (hst:starEach (e :: es) X.env=(false,eval e X.env) :: starEach es X.env:=by rfl) (hpl:(backTo pos (starEach es X.env)).any (·.1)=false:=by rfl)
  (ht:eval (.Call (.Attribute o m apos) (e :: es) [] pos) X.env=(do
   let ov ← eval o X.env
   standAt apos.atName
   let (f,first) ← holding [ov] (getMethod ov m pl)
   callWith pos f first (backTo pos (starEach (e :: es) X.env)) (backToKw pos (keywordEach [] X.env))):=by rfl) :
  PE X (.Call (.Attribute o m apos) (e :: es) [] pos) (uK C m sp dvs E ta t):=by
 intro pins s σ H Q I h
 refine PySem.W.methodCall_KW (pl:=pl) (thn (he pins s σ H _ I h) fun u s1 hZ1=>?_) ht
 obtain ⟨x,H1,I1,rx,a,dx,fs,ex,ea,l,q⟩:=hZ1
 subst ex
 obtain rfl:u=Value.ref a:=rx
 refine uo I1 ea c hm l ?_
 refine PySem.W.callWith_K (first:=[.ref a]) (h₀:=X.base) I.ok.mod.kin hm.kp (thn (ha pos pins s1 σ H1 _ I1 q) fun us s2 ⟨vs,H2,I2,r,q2⟩=>⟨I2.kIn,?_⟩) hst hpl
 exact Yv (us:=.ref a :: us) (vs:=.ref a :: vs) F hr hb hd hx I2 (.cons rfl r) q2
theorem jd {pl:Sem Bool} (he:PE X o ta) (c:Cls X.K C) (hm:Rt X.K C m f) (F:Eb X.prog X.w X.K X.mg X.base CX k f fd ps sp) (hr:Bi k X.A) (hb:Nb X.K fd ps ds) (hd:kd dvs ds) (hx:Hj CX X E)
  (ht:eval (.Call (.Attribute o m apos) [] [] pos) X.env=(do
   let ov ← eval o X.env
   standAt apos.atName
   let (f,first) ← holding [ov] (getMethod ov m pl)
   callWith pos f first (backTo pos (starEach [] X.env)) (backToKw pos (keywordEach [] X.env))):=by rfl) :
  PE X (.Call (.Attribute o m apos) [] [] pos) (uK C m sp dvs E ta mP):=by
 intro pins s σ H Q I h
 refine PySem.W.methodCall_KW (pl:=pl) (thn (he pins s σ H _ I h) fun u s1 hZ1=>?_) ht
 obtain ⟨x,H1,I1,rx,a,dx,fs,ex,ea,l,q⟩:=hZ1
 subst ex
 obtain rfl:u=Value.ref a:=rx
 refine uo I1 ea c hm l ?_
 exact PySem.W.callWith_K0 (first:=[.ref a]) I1.kIn hm.kp (Yv (us:=[.ref a]) (vs:=[.ref a]) F hr hb hd hx I1 (.cons rfl .nil) q)
structure Mk (K:PySem.W.Frag) (C f:Addr):Prop where
 makes:PySem.W.makesIn K C=true
 init:PySem.W.findIn K (.ref C) "__init__"=some (some (.ref f))
 fn:PySem.W.isFn K (.ref f)=true
 kp:PySem.W.keepIn K (.ref C)=true
theorem AG {pins:List (Addr × Obj)} {σ:St} {H:Hp} {s:Shared} {Q:VK} {us:List Value} {vs:List V} (M:Mk X.K C f) (F:Eb X.prog X.w X.K X.mg X.base CX k f fd ps sp) (hr:Bi (k + 1) X.A) (hb:Nb X.K fd ps ds) (hd:kd dvs ds)
  (hx:Hj CX X E) (I:Inv X pins σ H s) (r:kd vs us)
  (h:∀ x dx,H x=none→H dx=none→dx ≠ x→sp (.ref x :: (vs ++ dvs)) (upd (upd H dx (.own x)) x (.ins C dx [])) (fun v H2=>v=.non∧Q (.ref x) H2) E) :
  wpAny (model X.prog X.w) X.A (call (.ref C) us) (EP X pins σ Q) X.xe s:=by
 have hq:=h (s.heap.objs.size + 1) s.heap.objs.size (I.hok.fresh (Nat.le_succ _)) (I.hok.fresh (Nat.le_refl _)) (Nat.ne_of_lt (Nat.lt_succ_self _))
 have I2:=Inv.made (C:=C) I
 have r2:kd (V.ref (s.heap.objs.size + 1) :: (vs ++ dvs)) (Value.ref (s.heap.objs.size + 1) :: (us ++ ds)):=.cons rfl (r.append hd)
 have hl:(Value.ref (s.heap.objs.size + 1) :: us ++ ds).length=ps.length:=by
  have e:=r2.length
  rw [F.len _ _ _ _ hq] at e
  exact e.symm
 refine wpAny_call (yI (f:=f) I.kIn M.makes M.init (beq_iff_eq.mp M.fn) (codeAny_mono (F.run _ X.stack _ _ ⟨Value.ref (s.heap.objs.size + 1) :: us,[]⟩ (Value.ref (s.heap.objs.size + 1) :: (us ++ ds)) _ _ E (hr.make C us [])
  (I2.env0.make C us []) (hb _ (Value.ref (s.heap.objs.size + 1) :: us) I2.kIn hl) r2 hq) fun r s' hq'=>?_))
 cases r with
 | error e=>exact hx pins σ _ _ e s' I2 hq'
 | ok fl=>
  cases fl with
  | ret u=>
   obtain ⟨v,H',I3,rv,ev,q3⟩:=I2.after hq'
   subst ev
   exact ⟨rv,⟨V.ref (s.heap.objs.size + 1),H',I3,rfl,q3⟩⟩
  | next=>exact False.elim hq'
  | brk=>exact False.elim hq'
  | cont=>exact False.elim hq'
theorem ao (M:Mk X.K C f) (F:Eb X.prog X.w X.K X.mg X.base CX k f fd ps sp) (hr:Bi (k + 1) X.A) (hg:Gl X x) (hm:X.mg x=some (.ref C)) (hb:Nb X.K fd ps ds) (hd:kd dvs ds) (hx:Hj CX X E)
  (ha:PA X (e :: es) t) (hdb:(x == ("__debug__" : Str))=false:=by decide) (he:starEach (e :: es) X.env=(false,eval e X.env) :: starEach es X.env:=by rfl) (hpl:(backTo pos (starEach es X.env)).any (·.1)=false:=by rfl) :
  PE X (.Call (.Name x p) (e :: es) [] pos) (oN C sp dvs E t):=by
 intro pins s σ H Q I h
 refine wpAny_Call_Name_kw (Zi I hg hm ?_ hdb)
 refine PySem.W.callWith_K (h₀:=X.base) I.ok.mod.kin M.kp (thn (ha pos pins s σ H _ I h) fun us s1 ⟨vs,H1,I1,r,q⟩=>⟨I1.kIn,?_⟩) he hpl
 exact AG M F hr hb hd hx I1 r q
end
section
variable {X:Cx} {CX:CXT} {k:Nat} {f C:Addr} {fd:FuncData} {ps ks:List Str} {sp:Sp} {E:XK} {x m:Str} {p pos apos kpos:Pos} {e o:Expr} {es:List Expr} {kws:List Keyword} {te ta:TE} {t tk:TA} {nm:Option Str}
structure FQ (K:PySem.W.Frag) (fd:FuncData) (ps ks:List Str) (g:List Value→List Value→List Value) (gV:List V→List V→List V):Prop where
 to:∀ (s:Shared) (us ws:List Value),K.In s.heap→(g us ws).length=ps.length→BindsTo s fd ⟨us,ks.zip ws⟩ (ps.zip (g us ws))
 rel:∀ {vs:List V} {us:List Value} {zs:List V} {ws:List Value},kd vs us→kd zs ws→kd (gV vs zs) (g us ws)
noncomputable def PM (sp:Sp) (gV:List V→List V→List V) (E:XK) (t tk:TA):TE:=fun σ H Q=>t σ H fun vs H1=>tk σ H1 fun zs H2=>sp (gV vs zs) H2 Q E
variable {g:List Value→List Value→List Value} {gV:List V→List V→List V}
end
structure xb (N P:List Str) (sc:Scope):Prop where
 kind:sc.kind=.function
 co:sc.isCoroutine=false
 gen:sc.isGenerator=false
 nd:N.Nodup
 pre:N.take P.length=P
 par:∀ x ∈ P,sc.names.lookup x=some .local∨sc.names.lookup x=some .cell
 nofree:∀ y ∈ sc.names,y.2 ≠ .free
theorem Ww {kindOf:Str→Option NameKind} {x:Str}:∀ {binds:List (Str × Value)} {m:Str→Option Value},(∀ v,(x,v) ∉ binds)→bindL kindOf binds m x=m x
 | [],_,_=>rfl
 | (n,v) :: r,m,h=>by
  unfold bindL
  rw [Ww fun w hw=>h w (List.mem_cons_of_mem _ hw)]
  split
  ·have:x ≠ n:=by rintro rfl;exact h v List.mem_cons_self
   simp [this]
  ·rfl
theorem tw {kindOf:Str→Option NameKind} {x:Str}:∀ {binds:List (Str × Value)} {m:Str→Option Value},(∀ v,(x,v) ∉ binds)→bindC kindOf binds m x=m x
 | [],_,_=>rfl
 | (n,v) :: r,m,h=>by
  unfold bindC
  rw [tw fun w hw=>h w (List.mem_cons_of_mem _ hw)]
  split
  ·rfl
  ·have:x ≠ n:=by rintro rfl;exact h v List.mem_cons_self
   simp [this]
theorem Up {kindOf:Str→Option NameKind} {x:Str} {v:Value}:∀ {P:List Str} {vs:List Value} {i:Nat} {m:Str→Option Value},P.Nodup→P[i]? = some x→vs[i]? = some v→kindOf x=some .local →
  bindL kindOf (P.zip vs) m x=some v
 | [],_,_,_,_,h,_,_=>by simp at h
 | _ :: _,[],_,_,_,_,h,_=>by simp at h
 | p :: P,w :: vs,0,m,nd,h1,h2,hk=>by
  simp at h1 h2;subst h1;subst h2
  show bindL kindOf ((p,w) :: P.zip vs) m p=_
  unfold bindL
  rw [Ww fun v hv=>(List.nodup_cons.mp nd).1 (List.of_mem_zip hv).1,if_pos hk]
  simp
 | p :: P,w :: vs,i + 1,m,nd,h1,h2,hk=>by
  show bindL kindOf ((p,w) :: P.zip vs) m x=_
  unfold bindL
  exact Up (i:=i) (List.nodup_cons.mp nd).2 (by simpa using h1) (by simpa using h2) hk
theorem Uq {kindOf:Str→Option NameKind} {x:Str} {v:Value}:∀ {P:List Str} {vs:List Value} {i:Nat} {m:Str→Option Value},P.Nodup→P[i]? = some x→vs[i]? = some v→kindOf x ≠ some .local →
  bindC kindOf (P.zip vs) m x=some v
 | [],_,_,_,_,h,_,_=>by simp at h
 | _ :: _,[],_,_,_,_,h,_=>by simp at h
 | p :: P,w :: vs,0,m,nd,h1,h2,hk=>by
  simp at h1 h2;subst h1;subst h2
  show bindC kindOf ((p,w) :: P.zip vs) m p=_
  unfold bindC
  rw [tw fun v hv=>(List.nodup_cons.mp nd).1 (List.of_mem_zip hv).1,if_neg hk]
  simp
 | p :: P,w :: vs,i + 1,m,nd,h1,h2,hk=>by
  show bindC kindOf ((p,w) :: P.zip vs) m x=_
  unfold bindC
  exact Uq (i:=i) (List.nodup_cons.mp nd).2 (by simpa using h1) (by simpa using h2) hk
noncomputable def start (N:List Str) (vs:List V):St:=vs.map some ++ List.replicate (N.length - vs.length) none
noncomputable def cE (CX:CXT) (P:Program) (w:World) (K:PySem.W.Frag) (mg:Str→Option Value) (base:Heap) (N:List Str) (qual:Str) (scope:Scope) (f:Addr) (cd:Value) (A:Around) (outer:List Env) (s:Shared) (H:Hp) (E:XK):Cx where
 prog:=P
 w:=w
 K:=K
 mg:=mg
 base:=base
 A:=A.deeper (envOfC qual scope s.heap.objs.size f cd)
 N:=N
 s₀:=s
 H₀:=H
 env:=envOfC qual scope s.heap.objs.size f cd
 outer:=outer
 stack:=envOfC qual scope s.heap.objs.size f cd :: outer
 ex:=[]
 calm:=true
 fn:=fun _=>true
 pn:=[]
 xe:=fun e s'=>wpAny (model P w) (A.deeper (envOfC qual scope s.heap.objs.size f cd)) (leaving (envOfC qual scope s.heap.objs.size f cd) e) (fun _ s''=>CX outer H s E e s'') (fun e' s''=>CX outer H s E e' s'') s'
theorem zp {sc:Scope} {n:Nat} {x:Str} (h:sc.names.lookup x=some .cell):∃ c,(cellsFrom n sc.names []).lookup x=some c:=by
 have q:=PySem.W.cellsFrom_some sc.names n [] (.inl h)
 exact Option.isSome_iff_exists.mp q
theorem nC {CX:CXT} {P:Program} {w:World} {K:PySem.W.Frag} {mg:Str→Option Value} {base:Heap} {N ps:List Str} {qual:Str} {scope:Scope} {f:Addr} {cd:Value} {A:Around} {outer:List Env} {s s1:Shared} {H:Hp} {E:XK} {us:List Value} {vs:List V}
  (S:xb N ps scope) (hd:A.handled=none) (e0:RB P w K mg base A outer s H) (hl:vs.length=ps.length) (r:kd vs us)
  (x:InCallC s s.heap.objs.size (bindL (envOfC qual scope s.heap.objs.size f cd).kindOf (ps.zip us) fun _=>none) (cellsFrom (s.heap.objs.size + 1) scope.names []) (bindC (envOfC qual scope s.heap.objs.size f cd).kindOf (ps.zip us) fun _=>none) s1) :
  Inv (cE CX P w K mg base N qual scope f cd A outer s H E) [] (start N vs) H s1:=by
 have hpl:ps.length ≤ N.length:=by have:=congrArg List.length S.pre;rw [List.length_take] at this;omega
 obtain ⟨h1,tk,rfl,hk⟩:=x.done
 have noA:∀ b:Addr,b ∉ (cE CX P w K mg base N qual scope f cd A outer s H E).ex:=fun b z=>absurd (show b ∈ ([]:List Addr) from z) (by simp)
 refine ⟨⟨e0.mod,S.kind,rfl,rfl,Nat.le_refl _,fun y z c h1 h2=>?_,fun y hy=>?_,fun y c _ h=>?_,fun _=>hd,Around.frames_deeper e0.frames,.inr ⟨rfl,rfl⟩,fun b z=>absurd z (noA b),e0.bs,e0.bsz,fun b _ _=>noA b,fun b z=>absurd z (noA b),e0.funs,e0.frf⟩,
  rfl,e0.bare,Un.kept hk,⟨_,x.toInCall.ns,fun i y v h1 h2 h3=>?_⟩,fun y c h=>⟨_,x.cell y c h⟩,e0.hok.fresh (Nat.le_refl _),fun y c h=>?_,fun p hp=>absurd (show p ∈ ([]:List (Addr × Obj)) from hp) (by simp),e0.hok.kept hk,?_⟩
 ·exact name_of_addr x.apart (PySem.mem_of_lookup h1) (PySem.mem_of_lookup h2)
 ·have hy:scope.names.lookup y=some .cell∨scope.names.lookup y=some .free:=hy
  rcases hy with hy | hy
  ·exact zp hy
  ·exact absurd rfl (S.nofree _ (PySem.mem_of_lookup hy))
 ·exact Nat.le_of_lt (x.above y c (PySem.mem_of_lookup h))
 ·have hi:i < vs.length:=by
   unfold start at h2
   by_cases hi:i < vs.length
   ·exact hi
   ·rw [List.getElem?_append_right (by simpa using hi)] at h2
    rw [List.getElem?_replicate] at h2
    split at h2 <;> cases h2
  have ha:vs[i]? = some v:=by
   unfold start at h2
   rw [List.getElem?_append_left (by simpa using hi),List.getElem?_map] at h2
   cases e:vs[i]? with
   | none=>rw [e] at h2;cases h2
   | some a=>rw [e] at h2;cases h2;rfl
  obtain ⟨u,hu,rv⟩:=r.get ha
  have hp:ps[i]? = some y:=by
   rw [← S.pre,List.getElem?_take_of_lt (by omega)];exact h1
  have ndP:ps.Nodup:=by rw [← S.pre];exact S.nd.sublist (List.take_sublist _ _)
  refine ⟨u,rv,?_⟩
  rcases S.par y (List.mem_of_getElem? hp) with k | k
  ·exact .inl ⟨k,Up ndP hp hu k⟩
  ·obtain ⟨c,e⟩:=zp (n:=s.heap.objs.size + 1) k
   refine .inr ⟨.inl k,c,e,?_⟩
   have q:=x.cell y c e
   rw [Uq ndP hp hu (by show scope.names.lookup y ≠ _;rw [k];decide)] at q
   exact q
 ·exact e0.hok.fresh (Nat.le_of_lt (x.above y c (PySem.mem_of_lookup h)))
 ·unfold start
  show _=N.length
  rw [List.length_append,List.length_map,List.length_replicate]
  omega
theorem RN {CX:CXT} {P:Program} {w:World} {K:PySem.W.Frag} {mg:Str→Option Value} {base:Heap} {k:Nat} {f:Addr} {name qual:Str} {params:Arguments} {body:List Stmt} {scope:Scope} {dV kV doc pm cdv ct oc:Value} {an od:Option Addr}
  {osl:Array (Option Value)} {N ps:List Str} {sp:Sp} (lk:K.lookup f=some ⟨oc,od,.func (PySem.W.fnOf name qual params body scope dV kV doc pm an cdv ct),osl⟩) (hcd:PySem.W.codeIn K cdv qual=true) (S:xb N ps scope)
  (len:∀ vs H Q E,sp vs H Q E→vs.length=ps.length)
  (hbody:∀ (A:Around) (outer:List Env) (s:Shared) (H:Hp) (vs:List V) (Q:VK) (E:XK),Bi k (A.deeper (envOfC qual scope s.heap.objs.size f cdv))→sp vs H Q E →
   ∃ t,PSs (cE CX P w K mg base N qual scope f cdv A outer s H E) body t∧t { nx:=fun _ H'=>Q .non H',rt:=Q } (start N vs) H) :
  Eb P w K mg base CX (k + 1) f (PySem.W.fnOf name qual params body scope dV kV doc pm an cdv ct) ps sp:=by
 refine ⟨len,fun A outer s H args us vs Q E hr e0 hb r hsp=>?_⟩
 have hl:=len _ _ _ _ hsp
 have KX:K.In s.heap:=e0.mod.kin.keeps fun b o e=>(e0.bs b o e).1
 have lim:s.heap.NoLimit:=e0.mod.nolimit.keeps fun b o e=>(e0.bs b o e).1
 have hkind:∀ y ∈ ps.zip us,scope.names.lookup y.1=some .local∨(scope.names.lookup y.1=some .cell∧((cellsFrom (s.heap.objs.size + 1) scope.names []).lookup y.1).isSome=true):=fun ⟨n,v⟩ hy=>by
  rcases S.par n (List.of_mem_zip hy).1 with q | q
  ·exact .inl q
  ·exact .inr ⟨q,PySem.W.cellsFrom_some _ _ _ (.inl q)⟩
 refine codeAny_call_function hr.depth (KX _ _ lk) rfl S.co S.gen rfl (PySem.W.codeRec_of KX hcd) (hb _ _ _ _ ?_)
 refine wpAny_newFunctionEnv_cells S.kind hkind fun env he s1 x=>?_
 subst he
 refine ⟨lim.keeps x.toInCall.keep,codeAny_func ?_⟩
 obtain ⟨t,ht,hq⟩:=hbody A outer s H vs Q E (hr.deeper _) hsp
 have I:Inv (cE CX P w K mg base N qual scope f cdv A outer s H E) [] (start N vs) H s1:=nC S hr.hd e0 hl r x
 refine wpAny_mono (ht [] s1 (start N vs) H _ I hq) (fun fl s' hs=>?_) fun e s' hs=>hs
 have fin:∀ {σ':St} {H':Hp} {v:V} {u:Value},Inv (cE CX P w K mg base N qual scope f cdv A outer s H E) [] σ' H' s'→Md v u→Q v H'→CE outer P w H s Q u s':=
  fun {σ' H' v u} J rv q=>⟨v,H',J.os,J.bare,J.base,J.hok,rv,q⟩
 cases fl with
 | ret u=>
  obtain ⟨v,σ',H',J,rv,q⟩:=hs
  exact fin J rv q
 | next=>
  obtain ⟨σ',H',J,q⟩:=hs
  exact fin (v:=V.non) (u:=Value.none) J rfl q
 | brk=>
  obtain ⟨_,_,_,q⟩:=hs
  exact False.elim q
 | cont=>
  obtain ⟨_,_,_,q⟩:=hs
  exact False.elim q
end L2
namespace L2
open PySem PySem.Spec PyProof.Rows
section
variable {X:Cx} {x:Str} {p pos:Pos} {e:Expr} {es:List Expr} {t:TA} {id T:String} {r:List V→Hp→VK→Prop}
noncomputable def tCB (r:List V→Hp→VK→Prop) (t:TA):TE:=fun σ H Q=>t σ H fun vs H1=>r vs H1 Q
theorem Hc (hc:Kj X (.builtin id) r) (hg:Gl X x) (hm:X.mg x=none) (hv:bootBuiltins x=some (.builtin id)) (ha:PA X (e :: es) t) (hn:x ≠ "__name__" := by decide) (hdb:(x == ("__debug__" : Str))=false:=by decide)
  (he:starEach (e :: es) X.env=(false,eval e X.env) :: starEach es X.env:=by rfl) (hpl:(backTo pos (starEach es X.env)).any (·.1)=false:=by rfl):PE X (.Call (.Name x p) (e :: es) [] pos) (tCB r t):=by
 intro pins s σ H Q I h
 refine wpAny_Call_Name_kw (Km I hg hm hv ?_ hn hdb)
 exact PyProof.Rows.callWith_builtin1 (thn (ha pos pins s σ H _ I h) fun us s1 ⟨vs,H1,I1,r1,q1⟩=>hc pins s1 σ H1 vs us Q I1 r1 q1) he hpl
theorem lg (hc:Kj X (.type T) r) (hg:Gl X x) (hm:X.mg x=none) (hv:bootBuiltins x=some (.type T)) (ha:PA X (e :: es) t) (hn:x ≠ "__name__" := by decide) (hdb:(x == ("__debug__" : Str))=false:=by decide)
  (he:starEach (e :: es) X.env=(false,eval e X.env) :: starEach es X.env:=by rfl) (hpl:(backTo pos (starEach es X.env)).any (·.1)=false:=by rfl):PE X (.Call (.Name x p) (e :: es) [] pos) (tCB r t):=by
 intro pins s σ H Q I h
 refine wpAny_Call_Name_kw (Km I hg hm hv ?_ hn hdb)
 exact PyProof.Rows.callWith_type1 (thn (ha pos pins s σ H _ I h) fun us s1 ⟨vs,H1,I1,r1,q1⟩=>hc pins s1 σ H1 vs us Q I1 r1 q1) he hpl
end
end L2
namespace HT
open PySem PyProof.Rows
noncomputable def lexLt:List Int→List Int→Bool
 | [],[]=>false
 | [],_ :: _=>true
 | _ :: _,[]=>false
 | x :: xs,y :: ys=>if x=y then lexLt xs ys else decide (x < y)
section
open PySem.SeqAt
open PySem.AutoSeq1 (wpAny_loadPart')
open PySem.MeetsSeq PySem.MeetsSeq2 PySem.MeetsSeq3
end
section
variable {prog:Program} {w:World} {A:Around} {E:Value→Shared→Prop} {s:Shared}
noncomputable def sIx (n d:Nat):Option Int→Nat
 | none=>d
 | some v=>if v < 0 then (v + (n:Int)).toNat else min v.toNat n
theorem sIx_none (n d:Nat):sIx n d none=d:=rfl
theorem sIx_nat (n d k:Nat):sIx n d (some (k:Int))=min k n:=by
 show (if (k:Int) < 0 then ((k:Int) + (n:Int)).toNat else min (k:Int).toNat n)=min k n
 rw [if_neg (by omega),Int.toNat_natCast]
theorem BM (n d:Nat) (hd:d ≤ n) (o:Option Int):sIx n d o ≤ n:=by
 cases o with
 | none=>exact hd
 | some v=>
  show (if v < 0 then (v + (n:Int)).toNat else min v.toNat n) ≤ n
  by_cases hv:v < 0
  ·rw [if_pos hv];omega
  ·rw [if_neg hv];exact Nat.min_le_right _ _
theorem ZD (v:Int) (n d:Nat):(if v < 0 then max (v + (n:Int)) 0 else min v (n:Int))=((sIx n d (some v):Nat):Int):=by
 show (if v < 0 then max (v + (n:Int)) 0 else min v (n:Int))=(((if v < 0 then (v + (n:Int)).toNat else min v.toNat n):Nat):Int)
 by_cases hv:v < 0
 ·simp only [if_pos hv];omega
 ·simp only [if_neg hv];omega
theorem KA (lo hi:Option Int) (n:Nat):Builtin.Slice.sliceAdjust lo hi 1 (n:Int)=(((sIx n 0 lo:Nat):Int),((sIx n n hi:Nat):Int)):=by
 have h1:¬ ((1:Int) < 0):=by omega
 unfold Builtin.Slice.sliceAdjust
 simp only [h1,if_false]
 refine Prod.ext ?_ ?_
 ·cases lo with
  | none=>rfl
  | some v=>exact ZD v n 0
 ·cases hi with
  | none=>rfl
  | some v=>exact ZD v n n
theorem wB (i j:Nat):Builtin.Slice.slicePlaces (i:Int) (j:Int) 1=j - i:=by
 unfold Builtin.Slice.slicePlaces
 have h1:(1:Int) > 0:=by omega
 simp only [h1,if_true,Int.ediv_one]
 split <;> omega
theorem Ft {v:Value} {o:Option Int} {Q:Option Int→Shared→Prop} (p:IsPart v o) (h:Q o s):wpAny (model prog w) A (Builtin.Slice.slicePartIndex v) Q E s:=by
 cases p with
 | none=>exact slicePart_none h
 | int i t=>exact slicePart_int h
theorem Zo {sl:Addr} {vl vu:Value} {lo hi:Option Int} {n:Nat} {Q:Int × Int × Nat→Shared→Prop} (hs:s.heap.IsSliceOf sl vl vu .none) (pl:IsPart vl lo) (pu:IsPart vu hi)
  (h:Q (((sIx n 0 lo:Nat):Int),1,sIx n n hi - sIx n 0 lo) s):wpAny (model prog w) A (Builtin.Slice.sliceApplied (.ref sl) (pure (n:Int))) Q E s:=by
 obtain ⟨os,hos,hcs,hds⟩:=id hs
 unfold Builtin.Slice.sliceApplied Builtin.Slice.sliceFields
 refine wpAny_bind (wpAny_bind (wpAny_field hos hds (x:=vl) rfl (wpAny_bind (wpAny_field hos hds (x:=vu) rfl (wpAny_bind (wpAny_field hos hds (x:=.none) rfl (wpAny_pure ?_)))))))
 refine wpAny_bind (slicePart_none ?_)
 show wpAny _ _ (if ((1:Int) == 0)=true then _ else _) _ _ s
 rw [if_neg (by decide)]
 refine wpAny_bind (Ft pl (wpAny_bind (Ft pu (wpAny_bind (wpAny_pure ?_)))))
 show wpAny _ _ (match Builtin.Slice.sliceAdjust lo hi 1 (n:Int) with | (lo,hi)=>pure (lo,(1:Int),Builtin.Slice.slicePlaces lo hi 1)) _ _ s
 rw [KA lo hi n]
 show wpAny _ _ (pure (((sIx n 0 lo:Nat):Int),(1:Int),Builtin.Slice.slicePlaces ((sIx n 0 lo:Nat):Int) ((sIx n n hi:Nat):Int) 1)) _ _ s
 rw [wB]
 exact wpAny_pure h
theorem GH (xs:Array Value) (i k:Nat):((List.range k).filterMap fun (m:Nat)=>xs[((i:Int) + (m:Int) * 1).toNat]?).toArray=((xs.toList.drop i).take k).toArray:=by
 have e:(fun (m:Nat)=>xs[((i:Int) + (m:Int) * 1).toNat]?)=fun m=>xs[i + m]?:=by
  funext m
  have:((i:Int) + (m:Int) * 1).toNat=i + m:=by omega
  rw [this]
 rw [e]
 have:=pick_run xs i k
 rw [List.filterMap_map] at this
 have e2:((fun x=>xs[x]?) ∘ fun x=>i + x)=fun m=>xs[i + m]?:=rfl
 rw [e2] at this
 rw [this]
theorem getItem_tuple_cut {t sl:Addr} {items:Array Value} {vl vu:Value} {lo hi:Option Int} {Q:Value→Shared→Prop} (ht:IsTup s.heap t items) (hs:s.heap.IsSliceOf sl vl vu .none) (pl:IsPart vl lo) (pu:IsPart vu hi)
  (hw:¬ (sIx items.size 0 lo=0∧sIx items.size items.size hi=items.size))
  (h:Q (.ref s.heap.objs.size) { s with heap:=s.heap.push { cls:=.type "tuple",data:=.seq ((items.toList.drop (sIx items.size 0 lo)).take (sIx items.size items.size hi - sIx items.size 0 lo)).toArray } })
  (hsz:items.size ≤ sizeLine):wpAny (model prog w) A (getItem (.ref t) (.ref sl)) Q E s:=by
 have htake:sizeOk (.seq ((items.toList.drop (sIx items.size 0 lo)).take (sIx items.size items.size hi - sIx items.size 0 lo)).toArray):=by
  show ((items.toList.drop (sIx items.size 0 lo)).take (sIx items.size items.size hi - sIx items.size 0 lo)).toArray.size ≤ sizeLine
  rw [List.size_toArray,List.length_take,List.length_drop,Array.length_toList]
  omega
 have hj:sIx items.size items.size hi ≤ items.size:=BM _ _ (Nat.le_refl _) hi
 obtain ⟨os,hos,hcs,hds⟩:=id hs
 have hTs:s.TypeIs (.ref sl) "slice" := ⟨os,hos,hcs⟩
 unfold getItem
 try with_reducible refine wpAny_holding ?_
 first | refine wpAny_bind (wpAny_pure ?_) | skip
 refine wpAny_bind (wpAny_sequenceKey ht.typeIs (by decide) ?_)
 refine wpAny_bind (wpAny_callSpecial?_slot (name:=Str.ofString "__getitem__") ht.typeIs PyProof.Rows.slot_tuple_getitem
  (wpAny_call_entry PyProof.Rows.slot_tuple_getitem ht.typeIs entry_tuple_getitem ?_ (args_tuple_getitem _ _)))
 show wpAny _ _ (Builtin.Tuple.tupleItemsOf (.ref t) >>= _) _ _ s
 refine wpAny_bind (tupleItemsOf_ ht ?_)
 refine wpAny_bind (wpAny_typeOf hTs ?_)
 rw [if_pos (by decide)]
 refine wpAny_bind (Zo hs pl pu ?_)
 have hno:¬ ((((sIx items.size 0 lo:Nat):Int) == 0 && (1:Int) == 1 && (sIx items.size items.size hi - sIx items.size 0 lo) == items.size)=true):=by
  intro q
  rw [Bool.and_eq_true,Bool.and_eq_true] at q
  have q1:((sIx items.size 0 lo:Nat):Int)=0:=eq_of_beq q.1.1
  have q2:sIx items.size items.size hi - sIx items.size 0 lo=items.size:=eq_of_beq q.2
  exact hw ⟨by omega,by omega⟩
 show wpAny _ _ (if (((sIx items.size 0 lo:Nat):Int) == 0 && (1:Int) == 1 && (sIx items.size items.size hi - sIx items.size 0 lo) == items.size)=true then _ else _) _ _ s
 rw [if_neg hno,GH]
 first
  | exact wpAny_bind (m:=Builtin.Tuple.tupleExact _) (wpAny_newObj_type (wpAny_pure ⟨_,rfl,wpAny_pure h⟩) htake)
  | exact wpAny_bind (m:=Builtin.Tuple.tupleExact _) (wpAny_newObj_type (wpAny_bind (wpAny_pure (wpAny_pure ⟨_,rfl,wpAny_pure h⟩))) htake)
  | exact wpAny_bind (wpAny_bind (m:=Builtin.Tuple.tupleExact _) (wpAny_newObj_type (wpAny_pure (wpAny_pure ⟨_,rfl,wpAny_pure h⟩)) htake))
  | exact wpAny_bind (wpAny_bind (m:=Builtin.Tuple.tupleExact _) (wpAny_newObj_type (wpAny_pure ⟨_,rfl,wpAny_pure h⟩) htake))
end
end HT
namespace L2
open PySem PySem.Spec PyProof.Rows
noncomputable abbrev TO:=St→Hp→(Option Int→Hp→Prop)→Prop
noncomputable def PO (X:Cx) (e:Option Expr) (t:TO):Prop:=
 ∀ (pins:List (Addr × Obj)) (s:Shared) (σ:St) (H:Hp) (Q:Option Int→Hp→Prop),Inv X pins σ H s→t σ H Q →
  wpAny (model X.prog X.w) X.A (evalPart e X.env) (fun u s'=>∃ o H',Inv X pins σ H' s'∧IsPart u o∧Q o H') X.xe s
noncomputable def sE:TO:=fun _ H Q=>Q none H
noncomputable def KM (t:TE):TO:=fun σ H Q=>t σ H fun x H1=>∃ i,x=.int i∧Q (some i) H1
section
variable {X:Cx} {e:Expr} {te:TE} {lo hi:Option Expr} {tl th:TO} {pos p2:Pos}
theorem Kn:PO X none sE:=by
 intro pins s σ H Q I h
 rw [evalPart_none]
 exact wpAny_pure ⟨none,H,I,.none,h⟩
theorem wo (h:PE X e te):PO X (some e) (KM te):=by
 intro pins s σ H Q I hw
 rw [evalPart_some]
 refine thn (h pins s σ H _ I hw) fun u s1 hZ1=>?_
 obtain ⟨x,H1,I1,r1,q1⟩:=hZ1
 obtain ⟨i,rfl,q⟩:=q1
 obtain ⟨t,rfl⟩:=r1
 exact ⟨some i,H1,I1,.int i t,q⟩
noncomputable def SlR (X:Cx) (r:V→Option Int→Option Int→Hp→VK→Prop):Prop:=
 ∀ (pins:List (Addr × Obj)) (s:Shared) (σ:St) (H:Hp) (x:V) (v vl vu:Value) (lo hi:Option Int) (sl:Addr) (Q:VK),Inv X pins σ H s→Md x v→s.heap.IsSliceOf sl vl vu .none→IsPart vl lo→IsPart vu hi→r x lo hi H Q →
  ∃ T id,typeLookup (.type T) "__getitem__"=pure (some (.builtin id))∧s.TypeIs v T∧wpAny (model X.prog X.w) X.A (getItem v (.ref sl)) (EP X pins σ Q) X.xe s
theorem SlR.or {r r':V→Option Int→Option Int→Hp→VK→Prop} (h:SlR X r) (h':SlR X r'):SlR X (fun x lo hi H Q=>r x lo hi H Q∨r' x lo hi H Q):=by
 intro pins s σ H x v vl vu lo hi sl Q I rx hs pl pu q
 rcases q with q | q
 ·exact h pins s σ H x v vl vu lo hi sl Q I rx hs pl pu q
 ·exact h' pins s σ H x v vl vu lo hi sl Q I rx hs pl pu q
noncomputable def tSl (r:V→Option Int→Option Int→Hp→VK→Prop) (te:TE) (tl th:TO):TE:=fun σ H Q=>te σ H fun x H1=>tl σ H1 fun l H2=>th σ H2 fun u H3=>r x l u H3 Q
theorem Wk {r:V→Option Int→Option Int→Hp→VK→Prop} (hr:SlR X r) (he:PE X e te) (hl:PO X lo tl) (hu:PO X hi th):PE X (.Subscript e (.Slice lo hi none p2) pos) (tSl r te tl th):=by
 intro pins s σ H Q I h
 refine Subscript_ (thn (he pins s σ H _ I h) fun v s1 hZ1=>?_)
 obtain ⟨x,H1,I1,r1,q1⟩:=hZ1
 refine wpAny_Slice (thn (hl pins s1 σ H1 _ I1 q1) fun vl s2 ⟨l,H2,I2,pl,q2⟩=>thn (hu pins s2 σ H2 _ I2 q2) fun vu s3 hZ1=>?_)
 obtain ⟨u,H3,I3,pu,q3⟩:=hZ1
 rw [evalPart_none]
 refine wpAny_pure ?_
 have I4:Inv X pins σ H3 { s3 with heap:=s3.heap.push { cls:=.type "slice",data:=.fields #[vl,vu,.none] } }:=I3.kept (t':=s3.toks) fun b ob q=>Heap.get?_push_of_some _ q
 obtain ⟨T,id,hT,ht,hg⟩:=hr pins { s3 with heap:=s3.heap.push { cls:=.type "slice",data:=.fields #[vl,vu,.none] } } σ H3 x v vl vu l u s3.heap.objs.size Q I4 r1 (Heap.IsSliceOf.new ..) pl pu q3
 show wpAny (model X.prog X.w) X.A (subscriptTail e (.Slice lo hi none p2) v (.ref s3.heap.objs.size)) (EP X pins σ Q) X.xe { s3 with heap:=s3.heap.push { cls:=.type "slice",data:=.fields #[vl,vu,.none] } }
 exact tail_any (ops:=[.ref s3.heap.objs.size,v]) ht hT hg (by with_unfolding_all rfl)
noncomputable def Oy (xs:List V) (lo hi:Option Int):List V:=(xs.drop (HT.sIx xs.length 0 lo)).take (HT.sIx xs.length xs.length hi - HT.sIx xs.length 0 lo)
theorem wq (xs:List V) (lo hi:Option Int):(Oy xs lo hi).length ≤ xs.length:=by
 unfold Oy
 rw [List.length_take,List.length_drop]
 omega
noncomputable def tQ (K:PySem.W.Frag):V→Option Int→Option Int→Hp→VK→Prop:=fun x lo hi H Q=>∃ a xs,x=.ref a∧SqT K H a xs ∧
 ¬ (HT.sIx xs.length 0 lo=0∧HT.sIx xs.length xs.length hi=xs.length)∧∀ p,H p=none→Q (.ref p) (upd H p (.tup (Oy xs lo hi)))
theorem OM:SlR X (tQ X.K):=by
 intro pins s σ H x v vl vu lo hi sl Q I rx hs pl pu h
 obtain ⟨a,xs,rfl,hx,hw,q⟩:=h
 cases rx
 obtain ⟨its,r,ht,hz⟩:=I.tuple hx
 have hlen:its.toArray.size=xs.length:=by rw [List.size_toArray];exact r.length.symm
 refine ⟨"tuple",_,PyProof.Rows.slot_tuple_getitem.lookup,ht.typeIs,?_⟩
 refine HT.getItem_tuple_cut ht hs pl pu (by rw [hlen];exact hw) ?_ (by rw [hlen];exact hz)
 rw [hlen]
 refine ⟨.ref s.heap.objs.size,_,I.laid (t':=s.toks) (o:=.tup (Oy xs lo hi)) (fun b ob q=>Heap.get?_push_of_some _ q) (Nat.le_refl _) ?_,rfl,q _ (I.hok.fresh (Nat.le_refl _))⟩
 exact ⟨Nat.le_trans (wq xs lo hi) hz,_,(r.drop (HT.sIx xs.length 0 lo)).take (HT.sIx xs.length xs.length hi - HT.sIx xs.length 0 lo),IsTup.new _ _⟩
noncomputable def cR (K:PySem.W.Frag):R2:=fun x y H Q=>∃ a b ns ms,x=.ref a∧y=.ref b∧SqT K H a (ns.map V.int)∧SqT K H b (ms.map V.int)∧Q (.bl (HT.lexLt ns ms)) H
noncomputable def mQ (K:PySem.W.Frag):R2:=fun x y H Q=>∃ a b xs ys,x=.ref a∧y=.ref b∧SqT K H a xs∧SqT K H b ys∧xs ≠ []∧xs.length + ys.length ≤ sizeLine ∧
 (ys=[]→Q (.ref a) H)∧(ys ≠ []→∀ p,H p=none→Q (.ref p) (upd H p (.tup (xs ++ ys))))
end
end L2
namespace L2
open PySem PySem.Spec PyProof.Rows
noncomputable def ixN (n:Nat) (i:Int):Option Nat:=if 0 ≤ i then (if i < n then some i.toNat else none) else if -(n:Int) ≤ i then some (i + n).toNat else none
noncomputable def atI {α:Type} (xs:List α) (i:Int):Option α:=(ixN xs.length i).bind fun j=>xs[j]?
theorem jC {n:Nat} {i:Int} {j:Nat} (h:ixN n i=some j):seqIndex? i n=some j∧j < n∧-(n:Int) ≤ i∧i < n:=by
 unfold ixN at h
 by_cases h0:0 ≤ i
 ·rw [if_pos h0] at h
  by_cases h1:i < n
  ·rw [if_pos h1] at h
   have e:i.toNat=j:=Option.some.inj h
   exact ⟨by rw [seqIndex_of h0 h1,e],by omega,by omega,h1⟩
  ·rw [if_neg h1] at h;cases h
 ·rw [if_neg h0] at h
  by_cases h1:-(n:Int) ≤ i
  ·rw [if_pos h1] at h
   have e:(i + n).toNat=j:=Option.some.inj h
   exact ⟨by rw [seqIndex_neg (by omega) h1,e],by omega,h1,by omega⟩
  ·rw [if_neg h1] at h;cases h
theorem Fy {α:Type} {xs:List α} {i:Int} {v:α} (h:atI xs i=some v):∃ j,seqIndex? i xs.length=some j∧xs[j]? = some v∧j < xs.length∧-(xs.length:Int) ≤ i∧i < xs.length:=by
 unfold atI at h
 cases e:ixN xs.length i with
 | none=>rw [e] at h;cases h
 | some j=>
  rw [e] at h
  obtain ⟨h1,h2,h3,h4⟩:=jC e
  exact ⟨j,h1,h,h2,h3,h4⟩
theorem Ic {α:Type} {xs:List α} {j:Nat} {v:α} (h:xs[j]? = some v):atI xs (j:Int)=some v:=by
 have hj:j < xs.length:=(List.getElem?_eq_some_iff.mp h).1
 have e:ixN xs.length (j:Int)=some j:=by
  unfold ixN
  rw [if_pos (by omega),if_pos (by omega)];simp
 unfold atI;rw [e];exact h
noncomputable def kK (b:Expr):Prop:=∀ o i,subscripted b false o i=operate [o,i] (getItem o i)
noncomputable def IxR (X:Cx) (r:R2):Prop:=
 ∀ (value slice:Expr) (pins:List (Addr × Obj)) (s:Shared) (σ:St) (H:Hp) (x y:V) (v u:Value) (Q:VK),Inv X pins σ H s→Md x v→Md y u→r x y H Q →
  subscripted slice false v u=operate [v,u] (getItem v u)→wpAny (model X.prog X.w) X.A (subscriptTail value slice v u) (EP X pins σ Q) X.xe s
noncomputable def MtR (X:Cx) (id:String) (r:V→List V→Hp→VK→Prop):Prop:=
 ∀ (pins:List (Addr × Obj)) (s:Shared) (σ:St) (H:Hp) (x:V) (xs:List V) (v:Value) (us:List Value) (Q:VK),Inv X pins σ H s→Md x v→kd xs us→r x xs H Q →
  wpAny (model X.prog X.w) X.A (call (.builtin id) (v :: us)) (EP X pins σ Q) X.xe s
section
variable {X:Cx} {a b:Expr} {ta tb:TE} {pos:Pos}
theorem IxR.or {r r':R2} (h:IxR X r) (h':IxR X r'):IxR X (fun x y H Q=>r x y H Q∨r' x y H Q):=by
 intro value slice pins s σ H x y v u Q I rx ry q hs
 rcases q with q | q
 ·exact h value slice pins s σ H x y v u Q I rx ry q hs
 ·exact h' value slice pins s σ H x y v u Q I rx ry q hs
theorem MtR.or {id:String} {r r':V→List V→Hp→VK→Prop} (h:MtR X id r) (h':MtR X id r'):MtR X id (fun x xs H Q=>r x xs H Q∨r' x xs H Q):=by
 intro pins s σ H x xs v us Q I rx rs q
 rcases q with q | q
 ·exact h pins s σ H x xs v us Q I rx rs q
 ·exact h' pins s σ H x xs v us Q I rx rs q
theorem Nc {r:R2} (hr:IxR X r) (ha:PE X a ta) (hb:PE X b tb) (hs:kK b):PE X (.Subscript a b pos) (tOp r ta tb):=by
 intro pins s σ H Q I h
 exact Subscript_ (RP ha hb I h fun v u s2 x y H2 I2 rx ry q=>hr a b pins s2 σ H2 x y v u Q I2 rx ry q (hs _ _))
noncomputable def rP (K:PySem.W.Frag):R2:=fun x y H Q=>∃ p xs i v,x=.ref p∧y=.int i∧SqL K H p xs∧atI xs i=some v∧Q v H
noncomputable def qP (K:PySem.W.Frag):R2:=fun x y H Q=>∃ p xs i v,x=.ref p∧y=.int i∧SqT K H p xs∧atI xs i=some v∧Q v H
noncomputable def nP:R2:=fun x y H Q=>∃ z i c,x=.str z∧y=.int i∧z.length ≤ sizeLine∧atI z.cps.toList i=some c∧Q (.str ⟨#[c]⟩) H
theorem Hd:IxR X (rP X.K):=by
 intro value slice pins s σ H x y v u Q I rx ry h hs
 obtain ⟨p,xs,i,z,rfl,rfl,hq,he,q⟩:=h
 cases rx
 obtain ⟨t,rfl⟩:=ry
 obtain ⟨its,r,pl,hz⟩:=I.list hq
 obtain ⟨j,h1,h2,h3,h4,h5⟩:=Fy he
 obtain ⟨w,ew,rw'⟩:=r.get h2
 have hl:=r.length
 have hn:=gr
 have fin:EP X pins σ Q w s:=⟨z,H,I,rw',q⟩
 by_cases h0:0 ≤ i
 ·have hj:i.toNat=j:=by
   rw [seqIndex_of h0 h5] at h1
   exact Option.some.inj h1
  exact item_listR pl.isList h0 (by omega) (by rw [hj];simpa using ew) fin hs
 ·have hj:(i + (its.toArray.size:Int)).toNat=j:=by
   rw [seqIndex_neg (by omega) h4] at h1
   rw [List.size_toArray,← hl]
   exact Option.some.inj h1
  exact subscriptTail_builtinR (x:=w) pl.isList.typeIs slot_list_getitem.lookup
   (wpAny_getItem_list_neg (Q:=fun r s'=>r=w∧EP X pins σ Q r s') pl.isList (by omega) (by rw [List.size_toArray] <;> omega) (by omega) (by rw [hj];simpa using ew) ⟨rfl,fin⟩) hs
theorem zd:IxR X (qP X.K):=by
 intro value slice pins s σ H x y v u Q I rx ry h hs
 obtain ⟨p,xs,i,z,rfl,rfl,hq,he,q⟩:=h
 cases rx
 obtain ⟨t,rfl⟩:=ry
 obtain ⟨its,r,pl,hz⟩:=I.tuple hq
 obtain ⟨j,h1,h2,h3,h4,h5⟩:=Fy he
 obtain ⟨w,ew,rw'⟩:=r.get h2
 have hl:=r.length
 have hn:=gr
 have fin:EP X pins σ Q w s:=⟨z,H,I,rw',q⟩
 exact subscriptTail_builtinR (x:=w) pl.typeIs slot_tuple_getitem.lookup
  (getItem_tuple (j:=j) (Q:=fun r s'=>r=w∧EP X pins σ Q r s') pl (by omega) (by omega) (by rw [List.size_toArray,← hl];exact h1) (by simpa using ew) ⟨rfl,fin⟩) hs
theorem NI:IxR X nP:=by
 intro value slice pins s σ H x y v u Q I rx ry h hs
 obtain ⟨z,i,c,rfl,rfl,hz,he,q⟩:=h
 obtain ⟨t,rfl⟩:=rx
 obtain ⟨t',rfl⟩:=ry
 obtain ⟨j,h1,h2,h3,h4,h5⟩:=Fy he
 have hl:z.cps.toList.length=z.length:=by simp [Str.length]
 rw [hl] at h1 h4 h5
 have hn:=gr
 exact tail_any (typeIs_str s z t) slot_str_getitem.lookup (getItem_str (c:=c) (by
  have e1:decide (i < -(2 ^ 63:Int))=false:=decide_eq_false (by omega)
  have e2:decide (i ≥ 2 ^ 63)=false:=decide_eq_false (by omega)
  rw [e1,e2,Bool.or_false]) (by rw [h1];simpa using h2) ⟨.str ⟨#[c]⟩,H,I.tok _,⟨_,rfl⟩,q⟩) hs
noncomputable def rIx (K:PySem.W.Frag):R2:=fun x y H Q=>rP K x y H Q∨qP K x y H Q∨nP x y H Q
theorem yB (its:List Value) (n j:Nat) (u:Value):Obj.mapSeq (·.setIfInBounds j u) { cls:=.type "list",data:=.seq its.toArray n } = { cls:=.type "list",data:=.seq (its.set j u).toArray n }:=by
 simp [Obj.mapSeq]
theorem Inv.lst {pins:List (Addr × Obj)} {σ:St} {H:Hp} {s:Shared} {p:Addr} {xs:List V} (I:Inv X pins σ H s) (h:H p=some (.lst xs)) :
  ∃ (its:List Value) (n:Nat),kd xs its∧s.heap.get? p=some { cls:=.type "list",data:=.seq its.toArray n }∧xs.length ≤ sizeLine:=by
 obtain ⟨z,its,n,r,e⟩:=I.hok p _ h
 exact ⟨its,n,r,e,z⟩
theorem Inv.lstUpd {pins:List (Addr × Obj)} {σ:St} {H:Hp} {s:Shared} {p:Addr} {xs ys:List V} {its its':List Value} {n n':Nat} {f:Obj→Obj} (I:Inv X pins σ H s) (h:H p=some (.lst xs))
  (ho:s.heap.get? p=some { cls:=.type "list",data:=.seq its.toArray n }) (hf:f { cls:=.type "list",data:=.seq its.toArray n } = { cls:=.type "list",data:=.seq its'.toArray n' }) (r:kd ys its') (hz:ys.length ≤ sizeLine) (t:Nat) :
  Inv X pins σ (upd H p (.lst ys)) { s with heap:=s.heap.update p f,toks:=t }:=by
 have e:(s.heap.update p f).get? p=some { cls:=.type "list",data:=.seq its'.toArray n' }:=by
  rw [Heap.get?_update_self f ho (by rw [hf] <;> rfl),hf]
 refine I.write (x:=p) (e:=p) (by rw [h];trivial) (.inl rfl) (fun b u hb q=>(Heap.get?_update_other _ _ (Ne.symm hb)).trans q) ⟨_,e⟩ ?_
 exact ⟨hz,its',n',r,e⟩
noncomputable def OO:V→V→V→Hp→(Hp→Prop)→Prop:=fun o i v H Q=>∃ p xs k j,o=.ref p∧i=.int k∧H p=some (.lst xs)∧ixN xs.length k=some j∧Q (upd H p (.lst (xs.set j v)))
theorem Op:BQ X OO:=by
 intro pins s σ H o i v ov iv u Q I ro ri rv h
 obtain ⟨p,xs,k,j,rfl,rfl,hp,hj,q⟩:=h
 cases ro
 obtain ⟨t,rfl⟩:=ri
 obtain ⟨its,n,r,ho,hz⟩:=I.lst hp
 obtain ⟨h1,h2,h3,h4⟩:=jC hj
 have hl:=r.length
 have hn:=gr
 have I':Inv X pins σ (upd H p (.lst (xs.set j v))) { s with heap:=s.heap.update p (Obj.mapSeq (·.setIfInBounds j u)) }:=
  I.lstUpd hp ho (yB its n j u) (r.set rv j) (by rw [List.length_set];exact hz) s.toks
 by_cases h0:0 ≤ k
 ·have hk:k.toNat=j:=by
   rw [seqIndex_of h0 h4] at h1
   exact Option.some.inj h1
  exact PySem.W.ki_setAt ho h0 (by omega) (by rw [List.size_toArray,← hl];exact h4) (by rw [hk];exact ⟨_,I',q⟩)
 ·have hk:(k + (its.toArray.size:Int)).toNat=j:=by
   rw [seqIndex_neg (by omega) h3] at h1
   rw [List.size_toArray,← hl]
   exact Option.some.inj h1
  exact PySem.W.ki_setBack ho (by omega) (by rw [List.size_toArray,← hl];exact h3) (by omega) (by rw [hk];exact ⟨_,I',q⟩)
theorem Iv (lo hi:Option Int) (n:Nat):(sliceBounds lo hi none n).1=((HT.sIx n 0 lo:Nat):Int)∧(sliceBounds lo hi none n).2.1=((HT.sIx n n hi:Nat):Int)∧(sliceBounds lo hi none n).2.2=1:=by
 refine ⟨?_,?_,rfl⟩
 ·cases lo with
  | none=>simp [sliceBounds,HT.sIx]
  | some i=>
   simp only [sliceBounds,HT.sIx,Option.getD_none,show (1:Int) > 0 by decide,if_true]
   by_cases h:i < 0
   ·simp only [h,if_true] <;> omega
   ·simp only [h,if_false] <;> omega
 ·cases hi with
  | none=>simp [sliceBounds,HT.sIx]
  | some i=>
   simp only [sliceBounds,HT.sIx,Option.getD_none,show (1:Int) > 0 by decide,if_true]
   by_cases h:i < 0
   ·simp only [h,if_true] <;> omega
   ·simp only [h,if_false] <;> omega
theorem jv (its:List Value) (lo hi:Option Int):slicePick its.toArray lo hi none=((its.drop (HT.sIx its.length 0 lo)).take (HT.sIx its.length its.length hi - HT.sIx its.length 0 lo)).toArray:=by
 obtain ⟨h1,h2,h3⟩:=Iv lo hi its.toArray.size
 unfold slicePick
 rw [h1,h2,h3]
 simp only [sliceRange_one,pick_run,List.size_toArray] <;> rfl
noncomputable def NQ (K:PySem.W.Frag):V→Option Int→Option Int→Hp→VK→Prop:=fun x lo hi H Q=>∃ a xs,x=.ref a∧SqL K H a xs∧∀ p,H p=none→Q (.ref p) (upd H p (.lst (Oy xs lo hi)))
theorem ux:SlR X (NQ X.K):=by
 intro pins s σ H x v vl vu lo hi sl Q I rx hs pl pu h
 obtain ⟨a,xs,rfl,hx,q⟩:=h
 cases rx
 obtain ⟨its,r,ht,hz⟩:=I.list hx
 have hlen:=r.length
 refine ⟨"list",_,slot_list_getitem.lookup,ht.isList.typeIs,?_⟩
 refine wpAny_getItem_list_slice ht.isList hs pl pu .none (by simp) ?_ (by rw [List.size_toArray] <;> omega)
 rw [jv,← hlen]
 refine ⟨.ref s.heap.objs.size,_,I.laid (t':=s.toks) (o:=.lst (Oy xs lo hi)) (fun b ob q=>Heap.get?_push_of_some _ q) (Nat.le_refl _) ?_,rfl,q _ (I.hok.fresh (Nat.le_refl _))⟩
 exact ⟨Nat.le_trans (wq xs lo hi) hz,_,0,(r.drop (HT.sIx xs.length 0 lo)).take (HT.sIx xs.length xs.length hi - HT.sIx xs.length 0 lo),Heap.get?_push_size _ rfl⟩
noncomputable def tm:V→Bool
 | .non=>true
 | .bl _=>true
 | .int _=>true
 | .str _=>true
 | _=>false
noncomputable def eqV:V→V→Bool
 | .non,.non=>true
 | .bl a,.bl b=>a == b
 | .bl a,.int b=>(if a then 1 else 0) == b
 | .int a,.bl b=>a == (if b then 1 else 0)
 | .int a,.int b=>a == b
 | .str a,.str b=>a == b
 | _,_=>false
theorem gJ {A:Around} {s:Shared} {y x:V} {u v:Value} (ry:Md y u) (rx:Md x v) (fy:tm y=true) (fx:tm x=true):SeqAt.EqAt A s u v (eqV y x):=by
 cases y with
 | non=>
  cases ry
  cases x with
  | non=>cases rx;exact SeqAt.EqAt.same _
  | bl b=>cases rx;exact SeqAt.EqAt.none_bool b
  | int b=>obtain ⟨t,rfl⟩:=rx;exact SeqAt.EqAt.none_int b t
  | str b=>obtain ⟨t,rfl⟩:=rx;exact SeqAt.EqAt.none_str b t
  | _=>exact absurd (show false=true from fx) Bool.false_ne_true
 | bl a=>
  cases ry
  cases x with
  | non=>cases rx;exact SeqAt.EqAt.bool_none a
  | bl b=>cases rx;exact SeqAt.EqAt.bool_bool a b
  | int b=>obtain ⟨t,rfl⟩:=rx;exact SeqAt.EqAt.bool_int a b t
  | str b=>obtain ⟨t,rfl⟩:=rx;exact SeqAt.EqAt.bool_str a b t
  | _=>exact absurd (show false=true from fx) Bool.false_ne_true
 | int a=>
  obtain ⟨t',rfl⟩:=ry
  cases x with
  | non=>cases rx;exact SeqAt.EqAt.int_none a t'
  | bl b=>cases rx;exact SeqAt.EqAt.int_bool a t' b
  | int b=>obtain ⟨t,rfl⟩:=rx;exact SeqAt.EqAt.int_int a t' b t
  | str b=>obtain ⟨t,rfl⟩:=rx;exact SeqAt.EqAt.int_str a t' b t
  | _=>exact absurd (show false=true from fx) Bool.false_ne_true
 | str a=>
  obtain ⟨t',rfl⟩:=ry
  cases x with
  | non=>cases rx;exact SeqAt.EqAt.str_none a t'
  | bl b=>cases rx;exact SeqAt.EqAt.str_bool a t' b
  | int b=>obtain ⟨t,rfl⟩:=rx;exact SeqAt.EqAt.str_int a t' b t
  | str b=>obtain ⟨t,rfl⟩:=rx;exact SeqAt.EqAt.str_str a t' b t
  | _=>exact absurd (show false=true from fx) Bool.false_ne_true
 | _=>exact absurd (show false=true from fy) Bool.false_ne_true
noncomputable def eqU (x:V) (u:Value):Bool:=match u with
 | .none=>eqV .non x
 | .bool b=>eqV (.bl b) x
 | .int i _=>eqV (.int i) x
 | .str z _=>eqV (.str z) x
 | _=>false
theorem VI {x y:V} {u:Value} (r:Md y u) (f:tm y=true):eqU x u=eqV y x:=by
 cases y with
 | non=>cases r;rfl
 | bl b=>cases r;rfl
 | int i=>obtain ⟨t,rfl⟩:=r;rfl
 | str z=>obtain ⟨t,rfl⟩:=r;rfl
 | _=>exact absurd (show false=true from f) Bool.false_ne_true
theorem Ir {x:V}:∀ {xs:List V} {us:List Value},kd xs us→xs.all tm=true→us.any (eqU x)=xs.any fun y=>eqV y x
 | _,_,.nil,_=>rfl
 | y :: xs,u :: us,.cons r t,f=>by
  rw [List.all_cons,Bool.and_eq_true] at f
  rw [List.any_cons,List.any_cons,VI r f.1,Ir t f.2]
theorem Tm {A:Around} {s:Shared} {x:V} {v:Value} (rx:Md x v) (fx:tm x=true):∀ {xs:List V} {us:List Value},kd xs us→xs.all tm=true→∀ u ∈ us,SeqAt.EqAt A s u v (eqU x u)
 | _,_,.nil,_=>fun u hu=>by cases hu
 | y :: xs,u :: us,.cons r t,f=>fun u' hu=>by
  rw [List.all_cons,Bool.and_eq_true] at f
  rcases List.mem_cons.mp hu with rfl | hu
  ·rw [VI r f.1];exact gJ r rx f.1 fx
  ·exact Tm rx fx t f.2 u' hu
noncomputable def inV (x:V) (xs:List V):Bool:=xs.any fun y=>eqV y x
noncomputable def rIn (K:PySem.W.Frag) (neg:Bool):R2:=fun x y H Q=>∃ p xs,y=.ref p∧(SqL K H p xs∨SqT K H p xs)∧tm x=true∧xs.all tm=true∧Q (.bl (if neg then !inV x xs else inV x xs)) H
theorem Li:OpR X (compareOp .In) (rIn X.K false):=by
 intro pins s σ H x y v u Q I rx ry h
 obtain ⟨p,xs,rfl,hq,fx,fs,q⟩:=h
 cases ry
 rcases hq with hq | hq
 ·obtain ⟨its,r,pl,hz⟩:=I.list hq
  refine SeqAt.in_listAt (eqU x) pl.isList (fun w hw=>Tm rx fx r fs w (by simpa using hw)) ⟨.bl _,H,I,rfl,?_⟩
  rw [show its.toArray.any (eqU x)=its.any (eqU x) by simp,Ir r fs]
  exact q
 ·obtain ⟨its,r,pl,hz⟩:=I.tuple hq
  refine SeqAt.in_tupleAt (eqU x) pl (fun w hw=>Tm rx fx r fs w (by simpa using hw)) ⟨.bl _,H,I,rfl,?_⟩
  rw [show its.toArray.any (eqU x)=its.any (eqU x) by simp,Ir r fs]
  exact q
theorem Hv:OpR X (compareOp .NotIn) (rIn X.K true):=by
 intro pins s σ H x y v u Q I rx ry h
 obtain ⟨p,xs,rfl,hq,fx,fs,q⟩:=h
 cases ry
 rcases hq with hq | hq
 ·obtain ⟨its,r,pl,hz⟩:=I.list hq
  refine SeqAt.notIn_listAt (eqU x) pl.isList (fun w hw=>Tm rx fx r fs w (by simpa using hw)) ⟨.bl _,H,I,rfl,?_⟩
  rw [show its.toArray.any (eqU x)=its.any (eqU x) by simp,Ir r fs]
  exact q
 ·obtain ⟨its,r,pl,hz⟩:=I.tuple hq
  refine SeqAt.notIn_tupleAt (eqU x) pl (fun w hw=>Tm rx fx r fs w (by simpa using hw)) ⟨.bl _,H,I,rfl,?_⟩
  rw [show its.toArray.any (eqU x)=its.any (eqU x) by simp,Ir r fs]
  exact q
theorem Pc:Kj X (.builtin "len") (fun xs H Q=>∃ p ys,xs=[.ref p]∧(SqL X.K H p ys∨SqT X.K H p ys)∧Q (.int ys.length) H):=by
 intro pins s σ H xs us Q I r h
 obtain ⟨p,ys,rfl,hq,q⟩:=h
 obtain ⟨u,rfl,rx⟩:=Zv r
 cases rx
 have hn:=gr
 rcases hq with hq | hq
 ·obtain ⟨its,r',pl,hz⟩:=I.list hq
  have hlen:=r'.length
  exact Calls.call_len_list pl.isList (by simp only [List.size_toArray] <;> omega) ⟨.int ys.length,H,I.tok _,⟨s.toks + 1,by rw [List.size_toArray,hlen]⟩,q⟩
 ·obtain ⟨its,r',pl,hz⟩:=I.tuple hq
  have hlen:=r'.length
  exact len_tuple pl (by simp only [List.size_toArray] <;> omega) ⟨.int ys.length,H,I.tok _,⟨s.toks + 1,by rw [List.size_toArray,hlen]⟩,q⟩
theorem lw:Kj X (.builtin "len") (fun xs H Q=>∃ z,xs=[.str z]∧z.length ≤ sizeLine∧Q (.int z.length) H):=by
 intro pins s σ H xs us Q I r h
 obtain ⟨z,rfl,hz,q⟩:=h
 obtain ⟨u,rfl,t,rfl⟩:=Zv r
 have hn:=gr
 exact len_str (by omega) ⟨.int z.length,H,I.tok _,⟨_,rfl⟩,q⟩
theorem Kj.or {f:Value} {r r':List V→Hp→VK→Prop} (h:Kj X f r) (h':Kj X f r'):Kj X f (fun xs H Q=>r xs H Q∨r' xs H Q):=by
 intro pins s σ H xs us Q I rs q
 rcases q with q | q
 ·exact h pins s σ H xs us Q I rs q
 ·exact h' pins s σ H xs us Q I rs q
theorem Xw:Kj X (.type "list") (fun xs H Q=>∃ p ys,xs=[.ref p]∧(SqL X.K H p ys∨SqT X.K H p ys)∧∀ l,H l=none→Q (.ref l) (upd H l (.lst ys))):=by
 intro pins s σ H xs us Q I r h
 obtain ⟨p,ys,rfl,hq,q⟩:=h
 obtain ⟨u,rfl,rx⟩:=Zv r
 cases rx
 have fin:∀ (its:List Value),kd ys its→ys.length ≤ sizeLine→∀ (h':Heap) (c':Nat),(∀ b o',s.heap.get? b=some o'→h'.get? b=some o') →
   h'.get? s.heap.objs.size=some { cls:=.type "list",dict:=none,data:=.seq its.toArray c',slots:=#[] }→EP X pins σ Q (.ref s.heap.objs.size) { s with heap:=h' }:=fun its r' hz h' c' kp e=>
  ⟨.ref s.heap.objs.size,_,I.laid (t':=s.toks) kp (Nat.le_refl _) (show Gd X.prog X.w _ h' _ (.lst ys) from ⟨hz,its,c',r',e⟩),rfl,q _ (I.hok.fresh (Nat.le_refl _))⟩
 rcases hq with hq | hq
 ·obtain ⟨its,r',pl,hz⟩:=I.list hq
  have hlen:=r'.length
  obtain ⟨o,ho,hc,n,hd⟩:=pl.isList
  exact call_list_seq p (.inl rfl) ho hc hd (fun h' c' kp e=>fin its r' hz h' c' kp e) (by simp only [List.size_toArray] <;> omega)
 ·obtain ⟨its,r',pl,hz⟩:=I.tuple hq
  have hlen:=r'.length
  obtain ⟨o,ho,hc,n,hd⟩:=pl
  exact call_list_seq p (.inr rfl) ho hc hd (fun h' c' kp e=>fin its r' hz h' c' kp e) (by simp only [List.size_toArray] <;> omega)
noncomputable def tyV (K:PySem.W.Frag) (T:String) (x:V) (H:Hp):Prop:=match x with
 | .str _=>T = "str"
 | .int _=>T = "int"
 | .ref p=>(T = "list" ∧ ∃ xs,SqL K H p xs)∨(T = "tuple" ∧ ∃ o,K.lookup p=some o∧o.cls=.type "tuple" ∧ o.dict=none) ∨
   (T = "dict" ∧ ((∃ kvs,H p=some (.dK kvs))∨∃ kvs,H p=some (.dT kvs)))∨(T = "set" ∧ ∃ S n,H p=some (.set S n))
 | _=>False
theorem rO {pins:List (Addr × Obj)} {σ:St} {H:Hp} {s:Shared} {T:String} {x:V} {v:Value} (I:Inv X pins σ H s) (r:Md x v) (ty:tyV X.K T x H) :
  s.TypeIs v T∧∀ a,v=.ref a→∃ ob,s.heap.get? a=some ob∧ob.dict=none:=by
 cases x with
 | str z=>
  obtain ⟨t,rfl⟩:=r
  cases (show T = "str" from ty)
  exact ⟨typeIs_str s z t,fun _ e=>nomatch e⟩
 | int i=>
  obtain ⟨t,rfl⟩:=r
  cases (show T = "int" from ty)
  exact ⟨typeIs_int s i t,fun _ e=>nomatch e⟩
 | ref p=>
  cases r
  rcases ty with ⟨rfl,xs,hq⟩ | ⟨rfl,o,hk,hc,hd⟩ | ⟨rfl,hk⟩ | ⟨rfl,S,n,hk⟩
  ·obtain ⟨its,_,pl,_⟩:=I.list hq
   refine ⟨pl.isList.typeIs,fun a e=>?_⟩
   cases e
   obtain ⟨o,n,e,c,hd,_⟩:=pl
   exact ⟨o,e,hd⟩
  ·refine ⟨⟨o,I.kIn p o hk,hc⟩,fun a e=>?_⟩
   cases e
   exact ⟨o,I.kIn _ o hk,hd⟩
  ·have z:∃ o,s.heap.get? p=some o∧o.ExactDict:=by
    rcases hk with ⟨kvs,hk⟩ | ⟨kvs,hk⟩
    ·obtain ⟨_,_,_,_,o,_,_,e,ex,_⟩:=I.hok p _ hk
     exact ⟨o,e,ex⟩
    ·obtain ⟨_,_,_,_,o,_,_,e,ex,_⟩:=I.hok p _ hk
     exact ⟨o,e,ex⟩
   obtain ⟨o,e,ex⟩:=z
   refine ⟨⟨o,e,ex.1⟩,fun a e2=>?_⟩
   cases e2
   exact ⟨o,e,ex.2.1⟩
  ·obtain ⟨o,_,_,_,e,ex,_⟩:=I.hok p _ hk
   refine ⟨⟨o,e,ex.1⟩,fun a e2=>?_⟩
   cases e2
   exact ⟨o,e,ex.2.1⟩
 | _=>exact False.elim ty
noncomputable def nR (K:PySem.W.Frag) (T:String) (r:V→List V→Hp→VK→Prop) (to:TE):TE:=fun σ H Q=>to σ H fun x H1=>tyV K T x H1∧r x [] H1 Q
noncomputable def tBM (K:PySem.W.Frag) (T:String) (r:V→List V→Hp→VK→Prop) (to:TE) (t:TA):TE:=fun σ H Q=>to σ H fun x H1=>tyV K T x H1∧t σ H1 fun xs H2=>r x xs H2 Q
variable {o e:Expr} {es:List Expr} {to:TE} {t:TA} {name:Str} {apos cpos:Pos} {T id:String} {r:V→List V→Hp→VK→Prop}
theorem Cr (pa:PlainAttrs T) (slot:Slot T name id) (hty:typeOf (.builtin id)=pure (.type "method_descriptor")) (hm:MtR X id r) (ho:PE X o to) (ha:PA X (e :: es) t)
  (hbase:attributeBase o name X.env (eval o X.env)=eval o X.env:=by rfl)
  (hfew:((backTo cpos (starEach (e :: es) X.env)).all (fun x=>!x.1) && (backToKw cpos (keywordEach [] X.env)).all (fun x=>x.1.isSome)
   && decide ((e :: es).length + ([]:List Keyword).length + (if ([]:List Keyword).isEmpty then 0 else 1) < 30))=true:=by rfl)
  (hline:(apos.endLine == cpos.line)=true:=by rfl) (hs:starEach (e :: es) X.env=(false,eval e X.env) :: starEach es X.env:=by rfl) (hplain:(backTo cpos (starEach es X.env)).any (·.1)=false:=by rfl) :
  PE X (.Call (.Attribute o name apos) (e :: es) [] cpos) (tBM X.K T r to t):=by
 intro pins s σ H Q I h
 refine wpAny_Call_method_late hbase hfew hline rfl (thn (ho pins s σ H _ I h) fun v s1 hZ1=>?_)
 obtain ⟨x,H1,I1,r1,ty,q1⟩:=hZ1
 obtain ⟨h1,h2⟩:=rO I1 r1 ty
 refine ⟨T,id,pa,slot,hty,h1,h2,?_⟩
 have hA:=ha cpos pins s1 σ H1 _ I1 q1
 rw [hs] at hA ⊢
 refine Calls.callWith_builtin (by show (false || (backTo cpos (starEach es X.env)).any (·.1))=false;rw [hplain] <;> rfl) (Calls.evalArgs_plain ?_)
 exact thn hA fun us s2 ⟨vs,H2,I2,r2,q2⟩=>hm pins s2 σ H2 x vs v us Q I2 r1 r2 q2
end
end L2
namespace L2
open PySem PySem.Spec PyProof.Rows
noncomputable def MtM (X:Cx) (id:String) (r:V→List V→Hp→VK→Prop):Prop:=
 ∀ (pins:List (Addr × Obj)) (s:Shared) (σ:St) (H:Hp) (x:V) (xs:List V) (v:Value) (us:List Value) (Q:VK),Inv X pins σ H s→Md x v→kd xs us→r x xs H Q →
  wpAny (model X.prog X.w) X.A (call (.builtin id) (v :: us)) (EP X pins σ Q) X.xe s
theorem kd.one:∀ {x:V} {us:List Value},kd [x] us→∃ u,us=[u]∧Md x u
 | _,_,.cons r .nil=>⟨_,rfl,r⟩
theorem kd.zero:∀ {us:List Value},kd [] us→us=[]
 | _,.nil=>rfl
theorem kd.dropLast {xs:List V} {us:List Value} (h:kd xs us):kd xs.dropLast us.dropLast:=by
 induction h with
 | nil=>exact .nil
 | cons r t ih=>
  cases t with
  | nil=>exact .nil
  | cons q t'=>exact .cons r ih
theorem kd.eraseIdx:∀ {xs:List V} {us:List Value} (i:Nat),kd xs us→kd (xs.eraseIdx i) (us.eraseIdx i)
 | _,_,_,.nil=>.nil
 | _,_,0,.cons _ t=>t
 | _,_,i + 1,.cons r t=>.cons r (kd.eraseIdx i t)
theorem kd.reverse {xs:List V} {us:List Value} (h:kd xs us):kd xs.reverse us.reverse:=by
 induction h with
 | nil=>exact .nil
 | cons r t ih=>rw [List.reverse_cons,List.reverse_cons];exact kd.append ih (.cons r .nil)
section
variable {X:Cx} {pins:List (Addr × Obj)} {σ:St} {H:Hp} {s:Shared} {l b:Addr} {xs ys zs:List V}
theorem Inv.lset {its its':List Value} {n:Nat} {f:Array Value→Array Value} {t':Nat} (I:Inv X pins σ H s) (hH:H l=some (.lst xs))
  (e:s.heap.get? l=some { cls:=.type "list",data:=.seq its.toArray n }) (hf:f its.toArray=its'.toArray) (hv:kd ys its') (hz:ys.length ≤ sizeLine) :
  Inv X pins σ (upd H l (.lst ys)) { s with heap:=s.heap.update l (Obj.mapSeq f),toks:=t' }:=by
 have q:=PySem.IsL.update e f
 rw [hf] at q
 refine I.write (x:=l) (e:=l) (by rw [hH];exact trivial) (.inl rfl) (fun b' u hb hu=>(Heap.get?_update_other s.heap (Obj.mapSeq f) (Ne.symm hb)).trans hu) ⟨_,q⟩ ?_
 exact ⟨hz,its',_,hv,q⟩
theorem Inv.fresh (I:Inv X pins σ H s):H s.heap.objs.size=none:=I.hok.fresh (Nat.le_refl _)
theorem Inv.lstM (I:Inv X pins σ H s) (hH:H l=some (.lst xs)):xs.length ≤ sizeLine∧∃ (its:List Value) (n:Nat),kd xs its∧xs.length=its.length∧s.heap.get? l=some { cls:=.type "list",data:=.seq its.toArray n }:=by
 obtain ⟨z,its,n,r,e⟩:=I.hok l _ hH
 exact ⟨z,its,n,r,r.length,e⟩
end
section
variable {X:Cx}
noncomputable def sC:V→List V→Hp→VK→Prop:=fun x vs H Q=>∃ l xs y,x=.ref l∧vs=[y]∧H l=some (.lst xs)∧xs.length < sizeLine∧Q .non (upd H l (.lst (xs ++ [y])))
theorem ah:MtM X "list.append" sC:=by
 intro pins s σ H x vs v us Q I rx rv h
 obtain ⟨l,xs,y,rfl,rfl,hH,hz,q⟩:=h
 cases rx
 obtain ⟨u,rfl,ru⟩:=rv.one
 obtain ⟨z,its,n,r,hl,e⟩:=I.lstM hH
 refine call_meets F.slot_list_append ⟨_,e,rfl⟩ F.entry_list_append (F.args_list_append_2 _ _) (PySem.list_append l its.toArray n u (by rw [List.size_toArray];omega)) ⟨e,?_⟩
 refine ⟨.non,_,I.lset (its':=its ++ [u]) hH e (by simp) (r.append (.cons ru .nil)) ?_,rfl,q⟩
 rw [List.length_append,List.length_singleton]
 omega
noncomputable def rL:V→List V→Hp→VK→Prop:=fun x vs H Q=>∃ l b xs zs,x=.ref l∧vs=[.ref b]∧H l=some (.lst xs)∧H b=some (.lst zs)∧xs.length + zs.length ≤ sizeLine∧Q .non (upd H l (.lst (xs ++ zs)))
noncomputable def iR:V→List V→Hp→VK→Prop:=fun x vs H Q=>∃ l xs y,x=.ref l∧vs=[]∧H l=some (.lst xs)∧xs[xs.length - 1]? = some y∧Q y (upd H l (.lst xs.dropLast))
noncomputable def FO:V→List V→Hp→VK→Prop:=fun x vs H Q=>∃ l xs i k y,x=.ref l∧vs=[.int i]∧H l=some (.lst xs)∧-(2 ^ 63) ≤ i∧i < 2 ^ 63∧seqIndex? i xs.length=some k∧xs[k]? = some y∧Q y (upd H l (.lst (xs.eraseIdx k)))
noncomputable def LG:V→List V→Hp→VK→Prop:=fun x vs H Q=>∃ l xs,x=.ref l∧vs=[]∧H l=some (.lst xs)∧Q .non (upd H l (.lst xs.reverse))
noncomputable def kN:V→List V→Hp→VK→Prop:=fun x vs H Q=>∃ l xs,x=.ref l∧vs=[]∧H l=some (.lst xs)∧Q .non (upd H l (.lst []))
noncomputable def pR:R2:=fun x y H Q=>∃ l b xs zs,x=.ref l∧y=.ref b∧H l=some (.lst xs)∧H b=some (.lst zs)∧xs.length + zs.length ≤ sizeLine∧∀ p,H p=none→Q (.ref p) (upd H p (.lst (xs ++ zs)))
noncomputable def dR:R2:=fun x y H Q=>∃ l k xs,x=.ref l∧y=.int k∧H l=some (.lst xs)∧-(2 ^ 63) ≤ k∧k < 2 ^ 63∧xs.length * k.toNat ≤ sizeLine ∧
 ∀ p,H p=none→Q (.ref p) (upd H p (.lst (List.replicate k.toNat xs).flatten))
end
section
variable {prog:Program} {w:World} {A:Around} {E:Value→Shared→Prop} {s:Shared}
end
section
variable {X:Cx}
end
end L2
namespace L2
open PySem PySem.Spec PyProof.Rows
section
variable {κ:Type} [DecidableEq κ]
noncomputable def Uo (kvs:List (κ × V)) (k:κ):Option V:=(kvs.find? fun kv=>decide (kv.1=k)).map (·.2)
noncomputable def Fv (kvs:List (κ × V)) (k:κ) (v:V):List (κ × V):=
 if (kvs.any fun kv=>decide (kv.1=k))=true then kvs.map (fun kv=>if kv.1=k then (kv.1,v) else kv) else kvs ++ [(k,v)]
noncomputable def Ew (kvs:List (κ × V)) (k:κ):List (κ × V):=kvs.filter fun kv=>decide (kv.1 ≠ k)
theorem uv {p:κ × V} {r:List (κ × V)} {k:κ} (e:p.1=k):Uo (p :: r) k=some p.2:=by simp [Uo,List.find?_cons,e]
theorem Pu {p:κ × V} {r:List (κ × V)} {k:κ} (e:¬ p.1=k):Uo (p :: r) k=Uo r k:=by simp [Uo,List.find?_cons,e]
theorem Yy (k:κ):∀ kvs:List (κ × V),(kvs.any fun kv=>decide (kv.1=k))=(Uo kvs k).isSome
 | []=>rfl
 | p :: r=>by
  rw [List.any_cons]
  by_cases e:p.1=k
  ·simp only [uv e,decide_eq_true e,Bool.true_or,Option.isSome_some]
  ·rw [Pu e,decide_eq_false e,Bool.false_or];exact Yy k r
theorem Yq (kvs:List (κ × V)) (k:κ) (v:V):(Fv kvs k v).length ≤ kvs.length + 1:=by
 unfold Fv
 split
 ·rw [List.length_map];omega
 ·rw [List.length_append,List.length_cons,List.length_nil];omega
theorem Sr.isSome_eq {o:Option V} {u:Option Value} (r:Sr o u):o.isSome=u.isSome:=by
 cases o with
 | none=>cases u with
  | none=>rfl
  | some _=>exact (show False from r).elim
 | some _=>cases u with
  | none=>exact (show False from r).elim
  | some _=>rfl
theorem Sr.getD {o:Option V} {u:Option Value} {d:V} {d':Value} (r:Sr o u) (rd:Md d d'):Md (o.getD d) (u.getD d'):=by
 cases o with
 | none=>cases u with
  | none=>exact rd
  | some _=>exact (show False from r).elim
 | some _=>cases u with
  | none=>exact (show False from r).elim
  | some _=>exact r
theorem KV.val {kvs:List (κ × V)} {vs:List (κ × Value)} (r:KV kvs vs) (k:κ):Sr (Uo kvs k) (valueAt vs k):=by
 unfold KV at r
 induction r with
 | nil=>exact True.intro
 | @cons p q ps qs h t ih=>
  obtain ⟨h1,h2⟩:=h
  by_cases e:p.1=k
  ·have e':q.1=k:=h1.symm.trans e
   have b:valueAt (q :: qs) k=some q.2:=by simp [valueAt,List.find?_cons,e']
   rw [uv e,b];exact h2
  ·have e':¬ q.1=k:=fun z=>e (h1.trans z)
   have b:valueAt (q :: qs) k=valueAt qs k:=by simp [valueAt,List.find?_cons,e']
   rw [Pu e,b];exact ih
theorem KV.any {kvs:List (κ × V)} {vs:List (κ × Value)} (r:KV kvs vs) (k:κ):(kvs.any fun kv=>decide (kv.1=k))=vs.any fun kv=>decide (kv.1=k):=by
 unfold KV at r
 induction r with
 | nil=>rfl
 | cons h t ih=>rw [List.any_cons,List.any_cons,ih,h.1]
theorem KV.repl {kvs:List (κ × V)} {vs:List (κ × Value)} (r:KV kvs vs) (k:κ) {y:V} {u:Value} (ry:Md y u) :
  KV (kvs.map fun kv=>if kv.1=k then (kv.1,y) else kv) (vs.map fun kv=>if kv.1=k then (kv.1,u) else kv):=by
 unfold KV at r ⊢
 induction r with
 | nil=>exact .nil
 | @cons p q ps qs h t ih=>
  rw [List.map_cons,List.map_cons]
  refine .cons ?_ ih
  obtain ⟨h1,h2⟩:=h
  by_cases e:p.1=k
  ·rw [if_pos e,if_pos (h1.symm.trans e)];exact ⟨h1,ry⟩
  ·rw [if_neg e,if_neg (fun z=>e (h1.trans z))];exact ⟨h1,h2⟩
theorem KV.put {kvs:List (κ × V)} {vs:List (κ × Value)} (r:KV kvs vs) (k:κ) {y:V} {u:Value} (ry:Md y u):KV (Fv kvs k y) (stored vs k u):=by
 unfold Fv stored
 rw [r.any k]
 by_cases e:(vs.any fun kv=>decide (kv.1=k))=true
 ·rw [if_pos e,if_pos e];exact r.repl k ry
 ·rw [if_neg e,if_neg e];exact Paired.snoc r ⟨rfl,ry⟩
theorem KV.drop {kvs:List (κ × V)} {vs:List (κ × Value)} (r:KV kvs vs) (k:κ):KV (Ew kvs k) (without vs k):=by
 unfold KV at r ⊢
 unfold Ew without
 induction r with
 | nil=>exact .nil
 | @cons p q ps qs h t ih=>
  obtain ⟨h1,h2⟩:=h
  rw [List.filter_cons,List.filter_cons]
  by_cases e:p.1=k
  ·have a:¬ decide (p.1 ≠ k)=true:=by simp [e]
   have b:¬ decide (q.1 ≠ k)=true:=by simp [h1.symm.trans e]
   rw [if_neg a,if_neg b];exact ih
  ·have e':¬ q.1=k:=fun z=>e (h1.trans z)
   have a:decide (p.1 ≠ k)=true:=by simp [e]
   have b:decide (q.1 ≠ k)=true:=by simp [e']
   rw [if_pos a,if_pos b];exact .cons ⟨h1,h2⟩ ih
theorem KV.length {kvs:List (κ × V)} {vs:List (κ × Value)} (r:KV kvs vs):kvs.length=vs.length:=Paired.length r
end
theorem lG {P:Program} {w:World} {k:Key} {u:Value} (r:Md (kV k) u):(ff P w).is k u=true:=by
 cases k with
 | inl i=>obtain ⟨t,e⟩:=(show ∃ t,u=Value.int i t from r);subst e;exact ay P w i t
 | inr x=>obtain ⟨t,e⟩:=(show ∃ t,u=Value.str x t from r);subst e;exact Ay P w x t
theorem Qv {P:Program} {w:World}:∀ {ks:List Key} {us:List Value},kd (ks.map kV) us→ItemsAre (ff P w) ks us
 | [],_,r=>by rw [List.map_nil] at r;cases r;exact .nil
 | k :: ks,_,r=>by
  rw [List.map_cons] at r
  cases r with
  | cons h t=>exact .cons (lG h) (Qv t)
noncomputable abbrev KT (H:Hp):List (List Key × V)→List (List Key × Addr × Value)→Prop:=Paired fun p q=>p.1=q.1∧H q.2.1=some (.tup (p.1.map kV))∧Md p.2 q.2.2
theorem KT.val {H:Hp} {kvs:List (List Key × V)} {xs:List (List Key × Addr × Value)} (r:KT H kvs xs) (k:List Key):Sr (Uo kvs k) ((atKey xs k).map (·.2)):=by
 induction r with
 | nil=>exact True.intro
 | @cons p q ps qs h t ih=>
  obtain ⟨h1,_,h2⟩:=h
  by_cases e:p.1=k
  ·have e':q.1=k:=h1.symm.trans e
   have b:atKey (q :: qs) k=some q.2:=by simp [atKey,List.find?_cons,e']
   rw [uv e,b];exact h2
  ·have e':¬ q.1=k:=fun z=>e (h1.trans z)
   have b:atKey (q :: qs) k=atKey qs k:=by simp [atKey,List.find?_cons,e']
   rw [Pu e,b];exact ih
theorem KT.repl {H:Hp} {kvs:List (List Key × V)} {xs:List (List Key × Addr × Value)} (r:KT H kvs xs) (k:List Key) {y:V} {u:Value} (ry:Md y u) :
  KT H (kvs.map fun kv=>if kv.1=k then (kv.1,y) else kv) (xs.map (putAt k u)):=by
 induction r with
 | nil=>exact .nil
 | @cons p q ps qs h t ih=>
  rw [List.map_cons,List.map_cons]
  refine .cons ?_ ih
  obtain ⟨h1,h2,h3⟩:=h
  unfold putAt
  by_cases e:p.1=k
  ·rw [if_pos e,if_pos (h1.symm.trans e)];exact ⟨h1,h2,ry⟩
  ·rw [if_neg e,if_neg (fun z=>e (h1.trans z))];exact ⟨h1,h2,h3⟩
theorem KT.put {H:Hp} {kvs:List (List Key × V)} {xs:List (List Key × Addr × Value)} (r:KT H kvs xs) (k:List Key) {b:Addr} {y:V} {u:Value} (hb:H b=some (.tup (k.map kV))) (ry:Md y u) :
  KT H (Fv kvs k y) (storedH xs k b u):=by
 have e:(kvs.any fun kv=>decide (kv.1=k))=(atKey xs k).isSome:=by
  rw [Yy,(r.val k).isSome_eq,Option.isSome_map]
 unfold Fv storedH
 rw [e]
 by_cases q:(atKey xs k).isSome=true
 ·rw [if_pos q,if_pos q];exact r.repl k ry
 ·rw [if_neg q,if_neg q];exact Paired.snoc r ⟨rfl,hb,ry⟩
theorem KT.keeps {H H':Hp} {kvs:List (List Key × V)} {xs:List (List Key × Addr × Value)} (r:KT H kvs xs) (ht:∀ b ys,H b=some (.tup ys)→H' b=some (.tup ys)):KT H' kvs xs:=
 Paired.mapP r fun _ _ z=>⟨z.1,ht _ _ z.2.1,z.2.2⟩
section
variable {P:Program} {w:World} {H:Hp} {h:Heap} {a:Addr}
theorem SO {u:HO} (ok:HOk P w H h) (e:Rd H a u):Gd P w H h a u:=e.ok ok
theorem OH {kvs:List (Key × V)} (ok:HOk P w H h) (e:Rd H a (.dK kvs)):kvs.length ≤ sizeLine∧(a == sysModules)=false∧∃ vs,KV kvs vs∧h.DictOf (ff P w) a vs:=
 show Gd P w H h a (.dK kvs) from SO ok e
theorem sP {kvs:List (Key × V)} (ok:HOk P w H h) (e:H a=some (.dK kvs)):kvs.length ≤ sizeLine∧(a == sysModules)=false∧∃ vs,KV kvs vs∧h.DictOf (ff P w) a vs:=OH ok (.inl e)
theorem Zy {ks:List Key} (ok:HOk P w H h) (e:H a=some (.tup (ks.map kV))):(tupleKind (ff P w)).is h ks a:=by
 obtain ⟨_,its,r,o,h1,h2,n,h3⟩:=(show Gd P w H h a (.tup (ks.map kV)) from ok a _ e)
 exact ⟨o,its.toArray,n,h1,h2,h3,by simpa using Qv r⟩
theorem dG {kvs:List (List Key × V)} (ok:HOk P w H h) (e:Rd H a (.dT kvs)):kvs.length ≤ sizeLine∧(a == sysModules)=false ∧
  ∃ xs,KT H kvs xs∧h.DictOfH (tupleKind (ff P w)) a xs:=by
 obtain ⟨z,y,xs,r,o,es,ep,h1,h2,h3,h4,h5⟩:=(show Gd P w H h a (.dT kvs) from SO ok e)
 refine ⟨z,y,xs,r,o,es,ep,h1,h2,h3,h4,fun x hx=>?_,h5⟩
 have all:∀ {l:List (List Key × V)} {m:List (List Key × Addr × Value)},KT H l m→∀ x ∈ m,(tupleKind (ff P w)).is h x.1 x.2.1:=by
  intro l m q
  induction q with
  | nil=>intro x hx;exact nomatch hx
  | @cons p q ps qs hq t ih=>
   intro x hx
   rcases List.mem_cons.mp hx with e | hx
   ·subst e
    exact Zy ok (by rw [← hq.1];exact hq.2.1)
   ·exact ih x hx
 exact all r x hx
theorem tP {kvs:List (List Key × V)} (ok:HOk P w H h) (e:H a=some (.dT kvs)):kvs.length ≤ sizeLine∧(a == sysModules)=false ∧
  ∃ xs,KT H kvs xs∧h.DictOfH (tupleKind (ff P w)) a xs:=dG ok (.inl e)
end
noncomputable def pp (H:Hp) (a:Addr) (y:V) (r:Option V):Prop:=
 (∃ kvs k,Rd H a (.dK kvs)∧y=kV k∧r=Uo kvs k)∨∃ kvs k b,Rd H a (.dT kvs)∧y=.ref b∧H b=some (.tup (k.map kV))∧r=Uo kvs k
noncomputable def OA (H:Hp) (a:Addr) (y v:V) (H':Hp):Prop:=
 (∃ kvs k,H a=some (.dK kvs)∧y=kV k∧kvs.length < sizeLine∧H'=upd H a (.dK (Fv kvs k v))) ∨
 ∃ kvs k b,H a=some (.dT kvs)∧y=.ref b∧H b=some (.tup (k.map kV))∧kvs.length < sizeLine∧H'=upd H a (.dT (Fv kvs k v))
theorem pp.k {H:Hp} {a:Addr} {kvs:List (Key × V)} {k:Key} (e:H a=some (.dK kvs)):pp H a (kV k) (Uo kvs k):=.inl ⟨kvs,k,.inl e,rfl,rfl⟩
theorem pp.t {H:Hp} {a b:Addr} {kvs:List (List Key × V)} {k:List Key} (e:H a=some (.dT kvs)) (eb:H b=some (.tup (k.map kV))):pp H a (.ref b) (Uo kvs k):=.inr ⟨kvs,k,b,.inl e,rfl,eb,rfl⟩
theorem OA.k {H:Hp} {a:Addr} {kvs:List (Key × V)} {k:Key} {v:V} (e:H a=some (.dK kvs)) (hl:kvs.length < sizeLine):OA H a (kV k) v (upd H a (.dK (Fv kvs k v))):=.inl ⟨kvs,k,e,rfl,hl,rfl⟩
theorem OA.t {H:Hp} {a b:Addr} {kvs:List (List Key × V)} {k:List Key} {v:V} (e:H a=some (.dT kvs)) (eb:H b=some (.tup (k.map kV))) (hl:kvs.length < sizeLine) :
  OA H a (.ref b) v (upd H a (.dT (Fv kvs k v))):=.inr ⟨kvs,k,b,e,rfl,eb,hl,rfl⟩
section
variable {X:Cx} {pins:List (Addr × Obj)} {σ:St} {H:Hp} {s:Shared} {a:Addr} {y v:V} {u r:Value} {o:Option V} {A:Around} {E:Value→Shared→Prop}
theorem Inv.big (I:Inv X pins σ H s):sysModules < s.heap.objs.size:=by
 have h:mainGlobals < s.heap.objs.size:=(I.mod.glob.keeps I.bk).lt
 exact Nat.lt_trans (by decide) h
theorem lD {Q:Value→Shared→Prop} (hu:A.units + 1 < cLine) (I:Inv X pins σ H s) (g:pp H a y (some v)) (ry:Md y u) (h:∀ w' s',Inv X pins σ H s'→Md v w'→Q w' s') :
  wpAny (model X.prog X.w) A (getItem (.ref a) u) Q E s:=by
 rcases g with ⟨kvs,k,e,ey,l⟩ | ⟨kvs,k,b,e,ey,eb,l⟩
 ·subst ey
  obtain ⟨z,hd,vs,rel,dd⟩:=OH I.hok e
  obtain ⟨w',hw,rw'⟩:=Sr.some_of (v:=v) (o:=valueAt vs k) (by rw [l];exact rel.val k)
  exact wpAny_getItem_of (lG ry) dd.mapOf hw (h w' _ (I.tok _) rw')
 ·subst ey
  cases (show u=Value.ref b from ry)
  obtain ⟨z,hd,xs,rel,dd⟩:=dG I.hok e
  obtain ⟨w',hw,rw'⟩:=Sr.some_of (v:=v) (o:=(atKey xs k).map (·.2)) (by rw [l];exact rel.val k)
  obtain ⟨p,hp,hp2⟩:=Option.map_eq_some_iff.mp hw
  refine wpAny_getItem_heap (tupleKind_room_in1 hu) (Zy I.hok eb) dd hp ?_
  rw [hp2]
  exact h w' _ (I.tok _) rw'
theorem bL {Q:Value→Shared→Prop} (hu:A.units + 1 < cLine) (I:Inv X pins σ H s) (g:pp H a y o) (ry:Md y u) (h:∀ s',Inv X pins σ H s'→Q (.bool (!o.isSome)) s') :
  wpAny (model X.prog X.w) A (compareOp .NotIn u (.ref a)) Q E s:=by
 rcases g with ⟨kvs,k,e,ey,l⟩ | ⟨kvs,k,b,e,ey,eb,l⟩
 ·subst ey
  obtain ⟨z,hd,vs,rel,dd⟩:=OH I.hok e
  refine wpAny_notIn_of (lG ry) hd dd.mapOf ?_
  rw [← (rel.val k).isSome_eq,← l]
  exact h _ (I.tok _)
 ·subst ey
  cases (show u=Value.ref b from ry)
  obtain ⟨z,hd,xs,rel,dd⟩:=dG I.hok e
  refine wpAny_notIn_heap (tupleKind_room_in1 hu) (Zy I.hok eb) hd dd ?_
  have q:=(rel.val k).isSome_eq
  rw [Option.isSome_map] at q
  rw [← q,← l]
  exact h _ (I.tok _)
theorem lE {h':Heap} {t':Nat} {ob:HO} (I:Inv X pins σ H s) (mu:Mut (H a)) (hs:Heap.SameBut a s.heap h') (he:∃ q,h'.get? a=some q) (new:Gd X.prog X.w (upd H a ob) h' a ob) :
  Inv X pins σ (upd H a ob) { s with heap:=h',toks:=t' }:=
 I.write (x:=a) (e:=a) mu (.inl rfl) (fun b q hb z=>(hs.2 b hb).trans z) he new
theorem sM {P:Program} {w:World} {H':Hp} {h':Heap} {kvs:List (Key × V)} {vs:List (Key × Value)} (z:kvs.length ≤ sizeLine) (hd:(a == sysModules)=false) (rel:KV kvs vs) (dd:h'.DictOf (ff P w) a vs) :
  Gd P w H' h' a (.dK kvs):=⟨z,hd,vs,rel,dd⟩
theorem QC {H':Hp} {Q:Unit→Shared→Prop} (hu:A.units + 1 < cLine) (I:Inv X pins σ H s) (g:OA H a y v H') (ry:Md y u) (rv:Md v r) (h:∀ s',Inv X pins σ H' s'→Q () s') :
  wpAny (model X.prog X.w) A (setItem (.ref a) u r) Q E s:=by
 rcases g with ⟨kvs,k,e,ey,l,eH⟩ | ⟨kvs,k,b,e,ey,eb,l,eH⟩
 ·subst ey eH
  obtain ⟨z,hd,vs,rel,dd⟩:=sP I.hok e
  have hz:vs.length ≤ sizeLine:=by rw [← rel.length];exact z
  have hl:(Fv kvs k v).length ≤ sizeLine:=by have:=Yq kvs k v;omega
  refine wpAny_setItem_pairs (hsz:=hz) (lG ry) dd fun h' dd' hs=>h _ ?_
  have he:∃ q,h'.get? a=some q:=let ⟨q,_,_,hq,_⟩:=dd';⟨q,hq⟩
  exact lE I (by rw [e];exact True.intro) hs he (sM hl hd (rel.put k rv) dd')
 ·subst ey eH
  cases (show u=Value.ref b from ry)
  obtain ⟨z,hd,xs,rel,dd⟩:=tP I.hok e
  have hz:xs.length ≤ sizeLine:=by rw [← Paired.length rel];exact z
  have hl:(Fv kvs k v).length ≤ sizeLine:=by have:=Yq kvs k v;omega
  refine wpAny_setItem_heap (hsz:=hz) (tupleKind_room_in1 hu) (Zy I.hok eb) dd fun h' dd' hs=>h _ ?_
  obtain ⟨q,es,ep,hq,h2,h3,h4,_,h5⟩:=dd'
  refine lE I (by rw [e];exact True.intro) hs ⟨q,hq⟩ ⟨hl,hd,_,(rel.put k eb rv).keeps fun c ys ec=>?_,q,es,ep,hq,h2,h3,h4,h5⟩
  rw [lb (Fe ec e (fun z=>nomatch z))]
  exact ec
end
section
variable {X:Cx} {pins:List (Addr × Obj)} {σ:St} {H:Hp} {s:Shared} {a:Addr} {kvs:List (Key × V)} {k:Key} {u:Value} {A:Around} {E:Value→Shared→Prop}
end
noncomputable def yQ (i:Expr):Prop:=∀ ov iv,subscripted i false ov iv=operate [ov,iv] (getItem ov iv)
theorem wK {prog:Program} {w:World} {A:Around} {E:Value→Shared→Prop} {s:Shared} {env:Env} {value slice:Expr} {pos:Pos} {T id:String} {Q:Value→Shared→Prop}
  (hl:typeLookup (.type T) "__getitem__"=pure (some (.builtin id))) (hs:yQ slice)
  (h:wpAny (model prog w) A (eval value env) (fun o s₁=>wpAny (model prog w) A (eval slice env) (fun i s₂=>s₂.TypeIs o T∧wpAny (model prog w) A (getItem o i) Q E s₂) E s₁) E s) :
  wpAny (model prog w) A (eval (.Subscript value slice pos) env) Q E s:=by
 refine Subscript_ (wpAny_mono h (fun o s₁ h₁=>wpAny_mono h₁ (fun i s₂ h₂=>?_) fun _ _ x=>x) fun _ _ x=>x)
 obtain ⟨hT,h₂⟩:=h₂
 unfold subscriptTail
 refine wpAny_bind ?_
 rw [getitemInPython_of_ne hT.not_modules]
 refine wpAny_bind (wpAny_specialOf hT hl ?_)
 have fin:wpAny (model prog w) A (subscripted slice false o i) (fun r s₃=>wpAny (model prog w) A (letTemporaryGo value o r >>= fun _=>pure r) Q E s₃) E s₂:=by
  rw [hs o i]
  exact wpAny_operating (wpAny_mono h₂ (fun r s₃ h₃=>wpAny_bind (wpAny_letTemporaryGo (wpAny_pure h₃))) fun _ _ x=>x)
 first
  | exact wpAny_pure (wpAny_bind fin)
  | exact wpAny_bind (wpAny_pure (wpAny_bind fin))
  | exact wpAny_bind fin
theorem Ry {X:Cx} {pins:List (Addr × Obj)} {σ:St} {H:Hp} {s:Shared} {a:Addr} {y:V} {o:Option V} (I:Inv X pins σ H s) (g:pp H a y o):s.TypeIs (.ref a) "dict" := by
 rcases g with ⟨kvs,k,e,_,_⟩ | ⟨kvs,k,b,e,_,_,_⟩
 ·obtain ⟨_,_,vs,_,dd⟩:=OH I.hok e
  exact dd.typeIs
 ·obtain ⟨_,_,xs,_,dd⟩:=dG I.hok e
  exact dd.typeIs
noncomputable def cN (td ty:TE):TE:=fun σ H Q=>td σ H fun x H1=>ty σ H1 fun y H2=>∃ a v,x=.ref a∧pp H2 a y (some v)∧Q v H2
noncomputable def UQ (ty td:TE):TE:=fun σ H Q=>ty σ H fun y H1=>td σ H1 fun x H2=>∃ a o,x=.ref a∧pp H2 a y o∧Q (.bl o.isSome) H2
noncomputable def IE (ty td:TE):TE:=fun σ H Q=>ty σ H fun y H1=>td σ H1 fun x H2=>∃ a o,x=.ref a∧pp H2 a y o∧Q (.bl (!o.isSome)) H2
noncomputable def LM (td ty tv:TE):TS:=fun D σ H=>tv σ H fun v H1=>td σ H1 fun x H2=>ty σ H2 fun y H3=>∃ a H4,x=.ref a∧OA H3 a y v H4∧D.nx σ H4
noncomputable def cQ (td ty tv:TE) (rd:V→V→Hp→VK→Prop):TS:=fun D σ H=>td σ H fun x H1=>ty σ H1 fun y H2=>∃ a v,x=.ref a∧pp H2 a y (some v) ∧
 tv σ H2 fun y2 H3=>rd v y2 H3 fun z H4=>∃ H5,OA H4 a y z H5∧D.nx σ H5
noncomputable def fQ (td ty:TE):TS:=fun D σ H=>td σ H fun x H1=>ty σ H1 fun y H2=>∃ a kvs k,x=.ref a∧H2 a=some (.dK kvs)∧y=kV k∧(Uo kvs k).isSome=true∧D.nx σ (upd H2 a (.dK (Ew kvs k)))
section
variable {X:Cx} {o i e value:Expr} {pos pos' tpos:Pos} {td ty tv:TE}
theorem Ny (hu:X.A.units + 1 < cLine) (ho:PE X o td) (hi:PE X i ty) (hs:yQ i):PE X (.Subscript o i pos) (cN td ty):=by
 intro pins s σ H Q I h
 refine wK PySem.F.slot_dict_getitem.lookup hs (thn (ho pins s σ H _ I h) fun u s1 ⟨x,H1,I1,rx,q1⟩=>thn (hi pins s1 σ H1 _ I1 q1) fun iv s2 hZ1=>?_)
 obtain ⟨y,H2,I2,ry,a,v,ex,g,q2⟩:=hZ1
 subst ex
 obtain rfl:u=Value.ref a:=rx
 exact ⟨Ry I2 g,lD hu I2 g ry fun w' s3 I3 rw'=>⟨v,H2,I3,rw',q2⟩⟩
theorem vF (hu:X.A.units + 1 < cLine) (hi:PE X i ty) (ho:PE X o td):PC X .NotIn i o (IE ty td):=by
 intro pins s σ H Q I h
 refine thn (hi pins s σ H _ I h) fun iv s1 ⟨y,H1,I1,ry,q1⟩=>thn (ho pins s1 σ H1 _ I1 q1) fun u s2 hZ1=>?_
 obtain ⟨x,H2,I2,rx,a,ov,ex,g,q2⟩:=hZ1
 subst ex
 obtain rfl:u=Value.ref a:=rx
 exact bL hu I2 g ry fun s3 I3=>⟨.bl (!ov.isSome),H2,I3,rfl,q2⟩
theorem lu (hu:X.A.units + 1 < cLine) (ho:PE X o td) (hi:PE X i ty) (hv:PE X value tv) (hs:swapsWith value (some (.Subscript o i pos')) pos.line X.env=pure false) :
  PS X (.Assign [.Subscript o i pos'] value pos) (LM td ty tv):=by
 intro pins s σ H D I h
 refine wpAny_Assign_Subscript (thn (hv pins s σ H _ I h) fun r s1 ⟨v,H1,I1,rv,q1⟩=>thn (ho pins s1 σ H1 _ I1 q1) fun u s2 ⟨x,H2,I2,rx,q2⟩=>thn (hi pins s2 σ H2 _ I2 q2) fun iv s3 hZ1=>?_) hs
 obtain ⟨y,H3,I3,ry,a,H4,ex,g,q3⟩:=hZ1
 subst ex
 obtain rfl:u=Value.ref a:=rx
 exact QC hu I3 g ry rv fun s4 I4=>⟨σ,H4,I4,q3⟩
end
theorem rH {P:Program} {w:World} {H:Hp} (h:Heap) (hb:sysModules < h.objs.size):Gd P w H (h.push { cls:=.type "dict",data:=.dict #[] }) h.objs.size (.dK []):=
 ⟨Nat.zero_le _,beq_eq_false_iff_ne.mpr (Ne.symm (Nat.ne_of_lt hb)),[],.nil,Heap.DictOf.new h⟩
noncomputable def bJ:TE:=fun _ H Q=>∀ p,H p=none→Q (.ref p) (upd H p (.dK []))
noncomputable def zM:TE:=fun _ H Q=>∀ p,H p=none→Q (.ref p) (upd H p (.dT []))
section
variable {X:Cx} {pos:Pos}
theorem Fp:PE X (.Dict [] [] pos) bJ:=fun pins s σ H Q I h=>
 wpAny_Dict_empty ⟨.ref s.heap.objs.size,_,I.laid (a:=s.heap.objs.size) (o:=.dK []) (t':=s.toks) (fun _ _ q=>Heap.get?_push_of_some _ q) (Nat.le_refl _) (rH s.heap I.big),rfl,h _ (I.hok.fresh (Nat.le_refl _))⟩
end
noncomputable def FD:List (TE × TE)→St→Hp→(List (V × V)→Hp→Prop)→Prop
 | [],_,H,Q=>Q [] H
 | (tk,tv) :: r,σ,H,Q=>tk σ H fun x H1=>tv σ H1 fun y H2=>FD r σ H2 fun ps H3=>Q ((x,y) :: ps) H3
noncomputable def xJ (kvs more:List (Key × V)):List (Key × V):=more.foldl (fun acc kv=>Fv acc kv.1 kv.2) kvs
noncomputable def zP (trs:List (TE × TE)):TE:=fun σ H Q=>∀ p,H p=none→FD trs σ (upd H p (.dK [])) fun ps H2=>H2 p=some (.dK [])∧∃ kvs:List (Key × V),ps=kvs.map (fun kv=>(kV kv.1,kv.2))∧kvs.length ≤ 15∧Q (.ref p) (upd H2 p (.dK (xJ [] kvs)))
structure M1 (X:Cx) (o:Expr) (m:Str) (apos:Pos) (e:Expr) (cpos:Pos):Prop where
 base:attributeBase o m X.env (eval o X.env)=eval o X.env
 few:((backTo cpos (starEach [e] X.env)).all (fun x=>!x.1) && (backToKw cpos (keywordEach [] X.env)).all (fun x=>x.1.isSome)
  && decide (([e]:List Expr).length + ([]:List Keyword).length + (if ([]:List Keyword).isEmpty then 0 else 1) < 30))=true
 line:(apos.endLine == cpos.line)=true
 trees:backTo cpos (starEach [e] X.env)=[(false,eval e X.env)]
structure M2 (X:Cx) (o:Expr) (m:Str) (apos:Pos) (e f:Expr) (cpos:Pos):Prop where
 base:attributeBase o m X.env (eval o X.env)=eval o X.env
 few:((backTo cpos (starEach [e,f] X.env)).all (fun x=>!x.1) && (backToKw cpos (keywordEach [] X.env)).all (fun x=>x.1.isSome)
  && decide (([e,f]:List Expr).length + ([]:List Keyword).length + (if ([]:List Keyword).isEmpty then 0 else 1) < 30))=true
 line:(apos.endLine == cpos.line)=true
 trees:backTo cpos (starEach [e,f] X.env)=[(false,eval e X.env),(false,eval f X.env)]
noncomputable def IsD (H:Hp) (a:Addr):Prop:=(∃ kvs,Rd H a (.dK kvs))∨∃ kvs,Rd H a (.dT kvs)
section
variable {X:Cx} {pins:List (Addr × Obj)} {σ:St} {H:Hp} {s:Shared} {a:Addr} {y d:V} {u r:Value} {o:Option V} {A:Around} {E:Value→Shared→Prop}
end
noncomputable def UO (td ty:TE):TE:=fun σ H Q=>td σ H fun x H1=>∃ a,x=.ref a∧IsD H1 a∧ty σ H1 fun y H2=>∃ o,pp H2 a y o∧Q (o.getD .non) H2
noncomputable def bN (td ty tx:TE):TE:=fun σ H Q=>td σ H fun x H1=>∃ a,x=.ref a∧IsD H1 a∧ty σ H1 fun y H2=>tx σ H2 fun z H3=>∃ o,pp H3 a y o∧Q (o.getD z) H3
noncomputable def iO (td ty:TE):TE:=fun σ H Q=>td σ H fun x H1=>∃ a,x=.ref a∧IsD H1 a∧ty σ H1 fun y H2=>∃ kvs k v,H2 a=some (.dK kvs)∧y=kV k∧Uo kvs k=some v∧Q v (upd H2 a (.dK (Ew kvs k)))
noncomputable def pO (td ty tx:TE):TE:=fun σ H Q=>td σ H fun x H1=>∃ a,x=.ref a∧IsD H1 a∧ty σ H1 fun y H2=>tx σ H2 fun z H3=>∃ kvs k,H3 a=some (.dK kvs)∧y=kV k ∧
 (∀ v,Uo kvs k=some v→Q v (upd H3 a (.dK (Ew kvs k))))∧(Uo kvs k=none→Q z H3)
section
variable {X:Cx} {o e f:Expr} {apos cpos:Pos} {td ty tx:TE}
end
section
variable {X:Cx} {pins:List (Addr × Obj)} {σ:St} {H:Hp} {s:Shared} {a:Addr} {kvs:List (Key × V)} {A:Around} {E:Value→Shared→Prop}
end
section
variable {X:Cx} {pins:List (Addr × Obj)} {σ:St} {H:Hp} {s:Shared} {a:Addr} {y:V} {u:Value} {A:Around} {E:Value→Shared→Prop}
end
end L2
namespace Att
open PySem PySem.W PySem.Calls PyProof.Rows
theorem Hr {P:Params} {h:Heap}:∀ (ns:List Int) (vs:List Value),WellAll P h vs (ns.map WData.int)→IntsAre vs ns:=by
 intro ns
 induction ns with
 | nil=>
  intro vs w
  rw [List.map_nil] at w
  cases w
  exact .nil
 | cons n ns ih=>
  intro vs w
  rw [List.map_cons] at w
  cases w with
  | cons a b=>
   cases a
   exact .cons _ _ (ih _ b)
theorem yF {l:OpenLaw} {n:Nat} (hn:l.most=some n) {P:Params} {h:Heap} {args:List WData} {vals:List Value}
  (hpre:l.row.toRowW.claim.pre args=true) (hwl:WellAll P h vals args) :
  ∃ a vs ns,vals=[Value.ref a]∧args=[WData.list (ns.map WData.int)]∧h.get? a=some { cls:=.type "list",data:=.seq vs.toArray }∧IntsAre vs ns∧ns.length ≤ n:=by
 have hsh:WShape.hasAll [] args [.list .int]=true:=(pre_splitW hpre).1
 have hc:l.pre.holds [] { args:=args }=true:=(pre_splitW hpre).2
 obtain ⟨d,r,rfl,h1,h2⟩:=hasAllW_cons hsh
 obtain rfl:=hasAllW_nil h2
 obtain ⟨xs,rfl,h3⟩:=hasW_list h1
 obtain ⟨ns,rfl⟩:=items_int h3
 have hlen:ns.length ≤ n:=by
  unfold OpenLaw.pre at hc
  have h4:(WTm.not (.lt (.lit (.int (n:Int))) (.len (.arg 0)))).holds [] { args:=[.list (ns.map .int)] }=true:=by
   have h4:=(holds_andW hc).1
   rw [hn] at h4
   exact h4
  have h5:=condW_of h4 (w_not (w_lt w_lit (w_len_list (w_arg rfl))))
  rw [List.length_map] at h5
  refine Nat.le_of_not_lt fun q=>?_
  have q':(n:Int) < ((ns.length:Nat):Int):=by omega
  first
   | (rw [decide_eq_true q'] at h5;exact absurd h5 (by decide))
   | (simp at h5;omega)
 cases hwl with
 | cons w1 w2=>
  cases w2
  cases w1 with
  | list ho hall=>exact ⟨_,_,ns,rfl,rfl,ho,Hr ns _ hall,hlen⟩
theorem HD (l:OpenLaw) (args:List WData):l.row.toRowW.claim.post args (.bool true) args=true:=
 postW_of (r:=l.row.toRowW) (X:=(true == true))
  (show WShape.has [] (.bool true) .bool=true by first | rfl | decide | simp [WShape.has,WShape.arms,WShape.armsAll])
  (show (WTm.eq .res (.lit (.bool true))).value [] { args:=args,res:=some (.bool true),after:=args }=some (.bool (true == true)) from w_eq_bool (w_res rfl) w_lit) rfl
theorem attach_call {l:OpenLaw} {n:Nat} {q:Program} {loose:List Str} {XP:(Str→Option Value)→Heap→Prop} {YP:World→Heap→Prop} {d:DefRec}
  (hn:l.most=some n) (hdf:d.params.defaults=[])
  (call:∀ (w:World) (s₀ s₁:Shared) (mg mb:Str→Option Value) (fa:Addr) (o:Obj) (pm cd doc:Value) (a:Addr) (vs:List Value) (ns:List Int),
   Ground q loose [] XP w s₀ mg mb s₁.heap→YP w s₁.heap →
   s₁.heap.get? fa=some o→o.data=.func (docDef d.name d.params d.body d.scope pm cd doc)→s₁.heap.CodeRec cd d.name→mg d.name=some (.ref fa) →
   s₁.heap.get? a=some { cls:=.type "list",data:=.seq vs.toArray }→IntsAre vs ns→ns.length ≤ n→s₁.gens=#[] →
   codeAny (model l.prog w) callerA (.call (.ref fa) ⟨[.ref a],[]⟩) (fun r s'=>r=.ok (.ret (.bool true))∧OldK s₁.heap s'.heap∧s'.os=s₁.os∧AllBare s'.gens) s₁) :
  WalkO q loose XP YP l.row.toRowW d [] (fun f vs=>PySem.call f vs):=by
 intro w s₀ s₁ mg mb G Y fa o pm cd doc dV kV ho hd hcd hD hmg hg args vals as hpre hlay hrd hwl hlo
 obtain rfl:dV=.none:=Dflts.none hD hdf
 obtain rfl:kV=.none:=Dflts.noKw hD
 obtain ⟨a,vs,ns,rfl,rfl,hobj,hints,hlen⟩:=yF hn hpre hwl
 refine enter_call (codeAny_mono (call w s₀ s₁ mg mb fa o pm cd doc a vs ns G Y ho (fd_plain hd) hcd hmg hobj hints hlen hg) fun r s' hq=>?_)
 obtain ⟨rfl,h2,h3,h4⟩:=hq
 exact ⟨.inl ⟨.bool true,.bool true,[],rfl,fun _=>rfl,.bool true,HD l _,fun _=>⟨List.Pairwise.nil,fun _ hm=>(nomatch hm)⟩⟩,h2,h3,h4⟩
section
variable {prog:Program} {w:World} {A:Around} {E:Value→Shared→Prop} {s:Shared} {K:Frag}
end
end Att
namespace L2
open PySem PySem.Spec PyProof.Rows
theorem Bw:∀ {vs:List Value} {ns:List Int},IntsAre vs ns→kd (ns.map V.int) vs
 | _,_,.nil=>.nil
 | _,_,.cons n t h=>.cons ⟨t,rfl⟩ (Bw h)
noncomputable def dO (H:Hp):Prop:=∀ b,H b=none∨∃ o xs,H b=some (.frz o (.lst xs))
theorem yH {P:Program} {w:World} {K:PySem.W.Frag} {mg mb:Str→Option Value} {CX:CXT} {k:Nat} {fa a:Addr} {fd:FuncData} {x:Str} {sp:Sp} {s₁:Shared} {vs:List Value} {ns:List Int}
  (KX:K.In s₁.heap) (hns:s₁.heap.Ns mainGlobals mg) (hb:s₁.heap.Ns builtinsNs mb) (hbb:∀ x:Str,x ≠ "__name__" → mb x=bootBuiltins x) (hlim:s₁.heap.NoLimit) (hg:s₁.gens=#[])
  (ha:s₁.heap.get? a=some { cls:=.type "list",data:=.seq vs.toArray }) (hi:IntsAre vs ns) (hl:ns.length ≤ sizeLine) (hr:Bi k callerA)
  (F:∀ base:Heap,K.In base→base.Ns mainGlobals mg→Eb P w K mg base CX k fa fd [x] sp) (hbind:∀ (s:Shared) (u:Value),BindsTo s fd ⟨[u],[]⟩ [(x,u)])
  (hsp:∀ H:Hp,dO H→SqL K H a (ns.map V.int)→sp [.ref a] H (fun v _=>v=.bl true) fun _ _ _=>False)
  (hCX:∀ H e s',CX [] H s₁ (fun _ _ _=>False) e s'→False) :
  codeAny (model P w) callerA (.call (.ref fa) ⟨[.ref a],[]⟩) (fun r s'=>r=.ok (.ret (.bool true))∧OldK s₁.heap s'.heap∧s'.os=s₁.os∧AllBare s'.gens) s₁:=by
 have rv:=Bw hi
 have lenV:=hi.length
 -- from an abstract heap in which nothing but the script may be tracked
 have core:∀ H:Hp,dO H→SqL K H a (ns.map V.int)→HOk P w H s₁.heap→(∀ b,H b ≠ none→b=a)→(H a ≠ none→K.lookup a=none) →
   codeAny (model P w) callerA (.call (.ref fa) ⟨[.ref a],[]⟩) (fun r s'=>r=.ok (.ret (.bool true))∧OldK s₁.heap s'.heap∧s'.os=s₁.os∧AllBare s'.gens) s₁:=by
  intro H hO hS hok hA hK
  have base_of:∀ {b:Addr} {o:Obj},s₁.heap.get? b=some o→H b=none→(dH s₁.heap H).get? b=some o:=fun e n=>XH e n
  have noA:∀ {b:Addr} {o:Obj} {es:Array DictEntry} {ep:Nat},s₁.heap.get? b=some o→o.data=.dict es ep→H b=none:=fun {b o es ep} e d=>by
   cases q:H b with
   | none=>rfl
   | some u=>
    have e':b=a:=hA b (by rw [q];simp)
    subst e'
    rw [ha] at e;cases e
    have d':Data.seq vs.toArray _=Data.dict es ep:=d
    cases d'
  have nsK:∀ {b:Addr} {m:Str→Option Value},s₁.heap.Ns b m→(dH s₁.heap H).Ns b m:=fun {b m} ⟨o,es,ep,e,d,r⟩=>⟨o,es,ep,base_of e (noA e d),d,r⟩
  have hKb:K.In (dH s₁.heap H):=fun b o e=>base_of (KX b o e) (by
   cases q:H b with
   | none=>rfl
   | some u=>
    have e':b=a:=hA b (by rw [q];simp)
    subst e'
    rw [hK (by rw [q];simp)] at e;cases e)
  have hM:Mod K mg (dH s₁.heap H):=⟨hKb,nsK hns,⟨mb,nsK hb,hbb⟩,let ⟨mc,h1,h2⟩:=hlim;⟨mc,nsK h1,h2⟩⟩
  have e0:RB P w K mg (dH s₁.heap H) callerA [] s₁ H:=⟨rfl,hM,fun b o e=>GL e,Nat.le_of_eq (rC _ _),trivial,fun b hb=>absurd (show b ∈ ([]:List Addr) from hb) (by simp),hok,.of_eq hg⟩
  refine codeAny_mono ((F _ hKb (nsK hns)).run callerA [] s₁ H ⟨[.ref a],[]⟩ [.ref a] [.ref a] _ _ hr e0 (hbind s₁ (.ref a)) (.cons rfl .nil) (hsp H hO hS)) fun r s' h=>?_
  cases r with
  | error e=>exact (hCX H e s' h).elim
  | ok fl=>
   cases fl with
   | next=>exact False.elim h
   | brk=>exact False.elim h
   | cont=>exact False.elim h
   | ret u=>
    obtain ⟨v,H',os,bare,un,hok',r',q⟩:=h
    have q':v=.bl true:=q
    subst q'
    obtain rfl:u=Value.bool true:=r'
    refine ⟨rfl,OldK.of_keep fun b o e=>?_,os,bare⟩
    cases q:H b with
    | none=>exact un.keep b o e q (by intro z;exact absurd (show b ∈ ([]:List Addr) from z) (by simp)) (by simp)
    | some u=>
     rcases hO b with z | ⟨ob,xs,z⟩
     ·rw [q] at z;cases z
     ·have z2:=un.frzs b ob _ z
      obtain ⟨e1,_⟩:=hok b _ z
      obtain ⟨e2,_⟩:=hok' b _ z2
      rw [e] at e1;cases e1
      exact e2
 cases hk:K.lookup a with
 | some o=>
  -- the script is one of the module's own objects
  have e:=KX a o hk
  rw [ha] at e
  cases e
  refine core (fun _=>none) (fun _=>.inl rfl) (.inr ⟨_,vs.toArray,_,hk,rfl,rfl,rfl,by rw [List.size_toArray,lenV];exact hl,by simpa using rv⟩) (fun b u z=>by have z':(none:Option HO)=some u:=z;cases z') (fun b z=>absurd rfl z) fun z=>absurd rfl z
 | none=>
  refine core (fun b=>if b=a then some (.frz { cls:=.type "list",data:=.seq vs.toArray } (.lst (ns.map V.int))) else none) (fun b=>?_) (.inl (.inr ⟨{ cls:=.type "list",data:=.seq vs.toArray },if_pos rfl⟩)) (fun b u z=>?_) (fun b z=>?_) fun _=>hk
  ·by_cases hb:b=a
   ·exact .inr ⟨_,_,if_pos hb⟩
   ·exact .inl (if_neg hb)
  ·by_cases hb:b=a
   ·have z':=(if_pos hb).symm.trans z
    cases z'
    subst hb
    exact ⟨ha,by rw [List.length_map];exact hl,vs,_,rv,ha⟩
   ·have z':=(if_neg hb).symm.trans z
    cases z'
  ·by_cases hb:b=a
   ·exact hb
   ·exact absurd (if_neg hb) z
end L2
namespace L2
open PySem PySem.Spec PyProof.Rows
noncomputable abbrev KOf {K:PySem.W.Frag} {h:Heap} (_:K.In h):PySem.W.Frag:=K
theorem SK {l:PySem.W.OpenLaw} {n k:Nat} {q:Program} {loose:List Str} {XP:(Str→Option Value)→Heap→Prop} {YP:World→Heap→Prop} {d:DefRec} {K:Params→PySem.W.Frag} {CX:World→CXT} {sp:World→Sp} {x:Str}
  (hn:l.most=some n) (hn2:n ≤ sizeLine) (hdf:d.params.defaults=[]) (hr:Bi k callerA)
  (hY:∀ (w:World) (h:Heap),YP w h→(K w.params).In h)
  (F:∀ (w:World) (mg:Str→Option Value) (fa:Addr) (h:Heap),(K w.params).In h→h.Ns mainGlobals mg→mg d.name=some (.ref fa) →
   ∃ fd:FuncData,(∀ (s:Shared) (u:Value),BindsTo s fd ⟨[u],[]⟩ [(x,u)]) ∧
    ∀ base:Heap,(K w.params).In base→base.Ns mainGlobals mg→Eb l.prog w (K w.params) mg base (CX w) k fa fd [x] (sp w))
  (hsp:∀ (w:World) (H:Hp) (a:Addr) (ns:List Int),ns.length ≤ n→dO H→SqL (K w.params) H a (ns.map V.int)→sp w [.ref a] H (fun v _=>v=.bl true) fun _ _ _=>False)
  (hCX:∀ (w:World) (H:Hp) (s:Shared) (e:Value) (s':Shared),CX w [] H s (fun _ _ _=>False) e s'→False) :
  PySem.W.WalkO q loose XP YP l.row.toRowW d [] (fun f vs=>PySem.call f vs):=by
 refine Att.attach_call hn hdf fun w s₀ s₁ mg mb fa o pm cd doc a vs ns G Y ho hd hcd hmg hobj hints hlen hg=>?_
 have KX:=hY w _ Y
 obtain ⟨fd,hb,hF⟩:=F w mg fa _ KX G.T.g hmg
 exact yH KX G.T.g G.T.b G.T.builtins G.T.nolimit hg hobj hints (Nat.le_trans hlen hn2) hr hF hb (fun H hO hS=>hsp w H a ns hlen hO hS) fun H e s'=>hCX w H s₁ e s'
theorem UG {l:PySem.W.OpenLaw} {n k:Nat} {q:Program} {loose:List Str} {XP:(Str→Option Value)→Heap→Prop} {YP:World→Heap→Prop} {d:DefRec} {K:Params→PySem.W.Frag} {CX:CXT} {sp:PySem.W.Frag→Sp} {x:Str}
  (hn:l.most=some n) (hn2:n ≤ sizeLine) (hdf:d.params.defaults=[]) (hr:Bi k callerA)
  (hY:∀ (w:World) (h:Heap),YP w h→(K w.params).In h)
  (F:∀ (w:World) (mg:Str→Option Value) (fa:Addr) (h:Heap),(K w.params).In h→h.Ns mainGlobals mg→mg d.name=some (.ref fa) →
   ∃ fd:FuncData,(∀ (s:Shared) (u:Value),BindsTo s fd ⟨[u],[]⟩ [(x,u)]) ∧
    ∀ base:Heap,(K w.params).In base→base.Ns mainGlobals mg→Eb l.prog w (K w.params) mg base CX k fa fd [x] (sp (K w.params)))
  (hsp:∀ (K:PySem.W.Frag) (H:Hp) (a:Addr) (ns:List Int),ns.length ≤ n→dO H→SqL K H a (ns.map V.int)→sp K [.ref a] H (fun v _=>v=.bl true) fun _ _ _=>False)
  (hCX:∀ (H:Hp) (s:Shared) (e:Value) (s':Shared),CX [] H s (fun _ _ _=>False) e s'→False) :
  PySem.W.WalkO q loose XP YP l.row.toRowW d [] (fun f vs=>PySem.call f vs):=
 SK (K:=K) (CX:=fun _=>CX) (sp:=fun w=>sp (K w.params)) hn hn2 hdf hr hY F (fun w H a ns h1 h2 h3=>hsp (K w.params) H a ns h1 h2 h3) fun _ H s e s'=>hCX H s e s'
end L2
namespace L2
open PySem PySem.Spec PyProof.Rows
noncomputable def Xc (s:Stmt) (j:Nat):Stmt:=match s with
 | .ClassDef _ _ _ body _ _ _ _ _ _ _=>body.getD j (.Pass ⟨0,0,0,0⟩)
 | _=>.Pass ⟨0,0,0,0⟩
noncomputable def Vu (s:Stmt):Arguments:=match s with
 | .FunctionDef _ a _ _ _ _ _ _ _ _=>a
 | _=>{ posonlyargs:=[],args:=[],vararg:=none,kwonlyargs:=[],kw_defaults:=[],kwarg:=none,defaults:=[] }
noncomputable def qm (s:Stmt):List Stmt:=match s with
 | .FunctionDef _ _ b _ _ _ _ _ _ _=>b
 | _=>[]
noncomputable def ib (s:Stmt):Scope:=match s with
 | .FunctionDef _ _ _ _ _ _ sc _ _ _=>sc
 | _=>{ kind:=.function,names:=[],isGenerator:=false,isCoroutine:=false }
noncomputable abbrev CX0:CXT:=fun _ _ _ _ _ _=>False
noncomputable abbrev E0:XK:=fun _ _ _=>False
theorem Cb {X:Cx}:Hj CX0 X E0:=fun _ _ _ _ _ _ _ h=>h.elim
structure Fun (K:PySem.W.Frag) (x qual:Str) (st:Stmt) (f:Addr) (fd:FuncData):Prop where
 ex:∃ (oc:Value) (od:Option Addr) (kV doc pm:Value) (an:Option Addr) (cdv ct:Value) (osl:Array (Option Value)),
  fd=PySem.W.fnOf x qual (Vu st) (qm st) (ib st) .none kV doc pm an cdv ct∧K.lookup f=some ⟨oc,od,.func fd,osl⟩∧PySem.W.codeIn K cdv qual=true
 kp:PySem.W.keepIn K (.ref f)=true
section
variable {P:Program} {w:World} {K:PySem.W.Frag} {mg:Str→Option Value} {base:Heap}
theorem Fun.ok {x qual:Str} {st:Stmt} {f:Addr} {fd:FuncData} {N ps:List Str} {k:Nat} {sp:Sp} (F:Fun K x qual st f fd) (S:xb N ps (ib st)) (len:∀ vs H Q E,sp vs H Q E→vs.length=ps.length)
  (hbody:∀ (cdv:Value) (A:Around) (outer:List Env) (s:Shared) (H:Hp) (vs:List V) (Q:VK) (E:XK),Bi k (A.deeper (envOfC qual (ib st) s.heap.objs.size f cdv))→sp vs H Q E →
   ∃ t,PSs (cE CX0 P w K mg base N qual (ib st) f cdv A outer s H E).nox (qm st) t∧t { nx:=fun _ H'=>Q .non H',rt:=Q } (start N vs) H):Eb P w K mg base CX0 (k + 1) f fd ps sp:=by
 obtain ⟨oc,od,kV,doc,pm,an,cdv,ct,osl,rfl,lk,hcd⟩:=F.ex
 refine RN lk hcd S len fun A outer s H vs Q E hr hsp=>?_
 obtain ⟨t,h,q⟩:=hbody cdv A outer s H vs Q E hr hsp
 exact ⟨t,h.nox,q⟩
theorem Fun.binds {x qual:Str} {st:Stmt} {f:Addr} {fd:FuncData} {ps:List Str} (F:Fun K x qual st f fd)
  (h:∀ (kV doc pm:Value) (an:Option Addr) (cdv ct:Value) (us:List Value),us.length=ps.length→bindArgs (PySem.W.fnOf x qual (Vu st) (qm st) (ib st) .none kV doc pm an cdv ct) ⟨us,[]⟩=pure (ps.zip us)):Nb K fd ps []:=by
 obtain ⟨oc,od,kV,doc,pm,an,cdv,ct,osl,rfl,lk,hcd⟩:=F.ex
 exact .all (h kV doc pm an cdv ct)
theorem wM {x qual:Str} {st:Stmt} {f:Addr} {oc:Value} {od an:Option Addr} {osl:Array (Option Value)} {kV doc pm cdv ct:Value} (l:K.lookup f=some ⟨oc,od,.func (PySem.W.fnOf x qual (Vu st) (qm st) (ib st) .none kV doc pm an cdv ct),osl⟩)
  (c:PySem.W.codeIn K cdv qual=true) (k:PySem.W.keepIn K (.ref f)=true):Fun K x qual st f (PySem.W.fnOf x qual (Vu st) (qm st) (ib st) .none kV doc pm an cdv ct):=⟨⟨oc,od,kV,doc,pm,an,cdv,ct,osl,rfl,l,c⟩,k⟩
end
theorem CH {A:Around} {k:Nat} (hr:Bi k A):A.units + 1 < cLine:=Nat.lt_of_le_of_lt (Nat.add_le_add_left (by decide:1 ≤ 64) _) hr.units
section
variable {X:Cx}
theorem pv (i:Nat) {x:Str} {pos:Pos} (hN:X.N[i]? = some x:=by rfl) (hv:Vis X.env.scope x:=by first | exact Or.inl rfl | exact Or.inr (Or.inl rfl) | exact Or.inr (Or.inr rfl)) (hd:(x == ("__debug__" : Str))=false:=by decide)
  (hcd:(x == ("__classdict__" : Str))=false:=by decide):PE X (.Name x pos) (FP i):=jO hN hv hd hcd
end
noncomputable def Xb (H H':Hp):Prop:=∀ b o,H b=some o→H' b=some o
theorem Xb.refl (H:Hp):Xb H H:=fun _ _ h=>h
theorem Xb.trans {H H1 H2:Hp} (a:Xb H H1) (b:Xb H1 H2):Xb H H2:=fun c o h=>b c o (a c o h)
theorem Xb.free {H H':Hp} (e:Xb H H') {l:Addr} (h:H' l=Option.none):H l=Option.none:=by
 cases q:H l with
 | none=>rfl
 | some o=>
  rw [e l o q] at h
  cases h
theorem Xb.seq {K:PySem.W.Frag} {H H':Hp} {a:Addr} {xs:List V} (e:Xb H H') (h:SqL K H a xs):SqL K H' a xs:=by
 rcases h with (h | ⟨o,h⟩) | h
 ·exact .inl (.inl (e _ _ h))
 ·exact .inl (.inr ⟨o,e _ _ h⟩)
 ·exact .inr h
section
variable {κ:Type} [DecidableEq κ]
end
end L2
set_option maxHeartbeats 4000000
namespace L2
open PySem PySem.Spec PyProof.Rows
noncomputable def zv (cells:List (Str × Addr)):List (Str × NameKind)→List (Str × Addr)→List (Str × Addr)
 | [],acc=>acc
 | (n,k) :: r,acc=>if k == .free then (match cells.lookup n with | some c=>zv cells r ((n,c) :: acc) | none=>zv cells r acc) else zv cells r acc
theorem Xx {env:Env}:∀ (names:List (Str × NameKind)) (acc:List (Str × Addr)),(∀ y ∈ names,y.2=.free→∃ c,env.cells.lookup y.1=some c) →
  (forIn names acc (fun (x:Str × NameKind) (cs:List (Str × Addr))=>(if (x.2 == .free)=true then do let a ← cellOf env x.1;pure (ForInStep.yield ((x.1,a) :: cs)) else pure (ForInStep.yield cs):Sem (ForInStep (List (Str × Addr))))))=pure (zv env.cells names acc)
 | [],acc,_=>rfl
 | (n,k) :: r,acc,h=>by
  have hr:∀ y ∈ r,y.2=.free→∃ c,env.cells.lookup y.1=some c:=fun y hy=>h y (List.mem_cons_of_mem _ hy)
  rw [List.forIn_cons]
  by_cases hk:(k == NameKind.free)=true
  ·have e:k=.free:=by simpa using hk
   obtain ⟨c,hc⟩:=h (n,k) List.mem_cons_self e
   have hc':env.cells.lookup n=some c:=hc
   simp only [zv,hk,if_true,hc',cellOf]
   exact Xx r _ hr
  ·simp only [zv,hk]
   exact Xx r _ hr
theorem pE {scope:Scope} {env:Env} (h:∀ y ∈ scope.names,y.2=.free→∃ c,env.cells.lookup y.1=some c):closureFor scope env=pure (zv env.cells scope.names []):=by
 unfold closureFor
 exact congrArg (fun t=>t >>= pure) (Xx scope.names [] h)
theorem Tp {cells:List (Str × Addr)}:∀ (names:List (Str × NameKind)) (acc:List (Str × Addr)) {x:Str} {c:Addr},(zv cells names acc).lookup x=some c→acc.lookup x=some c∨cells.lookup x=some c
 | [],acc,x,c,h=>.inl h
 | (n,k) :: r,acc,x,c,h=>by
  unfold zv at h
  split at h
  ·cases q:cells.lookup n with
   | none=>rw [q] at h;exact Tp r acc h
   | some d=>
    rw [q] at h
    rcases Tp r _ h with z | z
    ·rw [List.lookup_cons] at z
     by_cases hx:(x == n)=true
     ·rw [hx] at z
      have e:x=n:=by simpa using hx
      subst e
      right;rw [q];exact z
     ·have hx':(x == n)=false:=by simpa using hx
      rw [hx'] at z;exact .inl z
    ·exact .inr z
  ·exact Tp r acc h
theorem Dm {cells:List (Str × Addr)}:∀ (names:List (Str × NameKind)) (acc:List (Str × Addr)) {x:Str} {c:Addr},acc.lookup x=some c→cells.lookup x=some c→(zv cells names acc).lookup x=some c
 | [],acc,x,c,h,_=>h
 | (n,k) :: r,acc,x,c,h,hc=>by
  unfold zv
  split
  ·cases q:cells.lookup n with
   | none=>exact Dm r acc h hc
   | some d=>
    refine Dm r _ ?_ hc
    rw [List.lookup_cons]
    by_cases hx:(x == n)=true
    ·have e:x=n:=by simpa using hx
     subst e
     rw [hx];rw [q] at hc;exact hc
    ·have hx':(x == n)=false:=by simpa using hx
     rw [hx'];exact h
  ·exact Dm r acc h hc
theorem cn {cells:List (Str × Addr)}:∀ (names:List (Str × NameKind)) (acc:List (Str × Addr)) {x:Str} {c:Addr},(x,NameKind.free) ∈ names→cells.lookup x=some c→(zv cells names acc).lookup x=some c
 | [],_,_,_,h,_=>nomatch h
 | (n,k) :: r,acc,x,c,h,hc=>by
  rcases List.mem_cons.mp h with e | h
  ·cases e
   unfold zv
   rw [if_pos (by decide),hc]
   refine Dm r _ ?_ hc
   rw [List.lookup_cons];simp
  ·unfold zv
   split
   ·cases q:cells.lookup n with
    | none=>exact cn r acc h hc
    | some d=>exact cn r _ h hc
   ·exact cn r acc h hc
theorem oo {α:Type}:∀ {l:List (Str × α)} {x:Str} {a:α},l.lookup x=some a→(x,a) ∈ l
 | [],_,_,h=>by simp at h
 | (n,b) :: r,x,a,h=>by
  rw [List.lookup_cons] at h
  by_cases hx:(x == n)=true
  ·have e:x=n:=by simpa using hx
   subst e
   rw [hx] at h
   have e2:b=a:=Option.some.inj h
   subst e2
   exact List.mem_cons_self
  ·have hx':(x == n)=false:=by simpa using hx
   rw [hx'] at h
   exact List.mem_cons_of_mem _ (oo h)
theorem By {env:Env} {scope:Scope} {x:Str} {k:NameKind} (h:(relabel scope env).names.lookup x=some k) (hk:k=.cell∨k=.free) (hc:∀ y ∈ scope.names,y.2 ≠ .cell):(x,NameKind.free) ∈ scope.names:=by
 have h1:=oo h
 obtain ⟨⟨n,j⟩,hm,e⟩:=List.mem_map.mp h1
 have e':(if (j == NameKind.free && env.scope.kind == .function && env.kindOf n == some .cell)=true then (n,NameKind.cell) else (n,j))=(x,k):=e
 split at e'
 ·rename_i hcond
  have e1:n=x:=(Prod.mk.inj e').1
  subst e1
  have hj:j=.free:=by
   simp only [Bool.and_eq_true] at hcond
   simpa using hcond.1.1
  subst hj
  exact hm
 ·have e1:n=x:=(Prod.mk.inj e').1
  have e2:j=k:=(Prod.mk.inj e').2
  subst e1;subst e2
  rcases hk with z | z
  ·exact absurd z (hc _ hm)
  ·subst z;exact hm
theorem Xl {env:Env} {scope:Scope} {x:Str} (h:scope.names.lookup x=some .free):(relabel scope env).names.lookup x=some .cell∨(relabel scope env).names.lookup x=some .free:=by
 have all:∀ (names:List (Str × NameKind)),names.lookup x=some .free →
   (names.map fun (n,k)=>if (k == NameKind.free && env.scope.kind == .function && env.kindOf n == some .cell) then (n,NameKind.cell) else (n,k)).lookup x=some .cell ∨
   (names.map fun (n,k)=>if (k == NameKind.free && env.scope.kind == .function && env.kindOf n == some .cell) then (n,NameKind.cell) else (n,k)).lookup x=some .free:=by
  intro names
  induction names with
  | nil=>intro h;simp at h
  | cons p r ih=>
   obtain ⟨n,k⟩:=p
   intro h
   rw [List.map_cons]
   by_cases hx:(x == n)=true
   ·simp only [List.lookup_cons,hx] at h
    have hk:k=.free:=Option.some.inj h
    subst hk
    by_cases hc:(NameKind.free == NameKind.free && env.scope.kind == .function && env.kindOf n == some .cell)=true
    ·left;simp only [if_pos hc,List.lookup_cons,hx]
    ·right;simp only [if_neg hc,List.lookup_cons,hx]
   ·have hx':(x == n)=false:=by simpa using hx
    simp only [List.lookup_cons,hx'] at h
    by_cases hc:(k == NameKind.free && env.scope.kind == .function && env.kindOf n == some .cell)=true
    ·simp only [if_pos hc,List.lookup_cons,hx'];exact ih h
    ·simp only [if_neg hc,List.lookup_cons,hx'];exact ih h
 exact all scope.names h
noncomputable abbrev Cx.block (X:Cx) (scope:Scope) (C:Addr) (N:List Str) (s:Shared) (H:Hp) (fp:List Addr):Cx where
 prog:=X.prog
 w:=X.w
 K:=X.K
 mg:=X.mg
 base:=X.base
 A:=X.A
 N:=N
 s₀:=s
 H₀:=H
 env:=compEnvC scope (zv X.env.cells scope.names []) C X.env
 outer:=X.stack
 stack:=X.stack
 ex:=fp
 fn:=fun _=>false
 calm:=X.calm
 pn:=[]
 xe:=fun _ _=>False
structure Po (env:Env) (scope:Scope):Prop where
 kind:scope.kind=.function
 nocell:∀ y ∈ scope.names,y.2 ≠ .cell
 fr:∀ y ∈ scope.names,y.2=.free→env.kindOf y.1=some .cell∨env.kindOf y.1=some .free
 loc:∀ x ∈ scope.names,x.2=.local→scope.names.lookup x.1=some .local
noncomputable def blk (sel:List (Option Nat)) (σ:St):St:=sel.map fun o=>o.bind fun j=>(σ[j]?).join
noncomputable def RC (M:List Str) (scope:Scope) (N:List Str) (sel:List (Option Nat)):Prop:=
 sel.length=N.length∧∀ (i j:Nat) (x:Str),sel[i]? = some (some j)→N[i]? = some x→M[j]? = some x∧scope.names.lookup x=some .free
section
variable {X:Cx} {pins:List (Addr × Obj)} {σ:St} {H:Hp} {s:Shared} {scope:Scope} {fp:List Addr} {C:Addr} {N:List Str}
theorem Po.cells (S:Po X.env scope) (ok:X.Ok):∀ y ∈ scope.names,y.2=.free→∃ c,X.env.cells.lookup y.1=some c:=fun y hy e=>ok.has y.1 (S.fr y hy e)
theorem yt {x:Str} {c:Addr} (h:(zv X.env.cells scope.names []).lookup x=some c):X.env.cells.lookup x=some c:=by
 rcases Tp _ _ h with z | z
 ·simp at z
 ·exact z
theorem Sz (I:Inv X pins σ H s) (S:Po X.env scope) (hf:∀ b ∈ fp,jw X pins H b) (hs:∀ b ∈ fp,b < s.heap.objs.size) (hC:s.heap.objs.size ≤ C):(X.block scope C N s H fp).Ok where
 mod:=I.ok.mod
 kind:=S.kind
 glob:=I.ok.glob
 blt:=I.ok.blt
 above:=hC
 inj:=fun x y c h1 h2=>I.ok.inj x y c (yt h1) (yt h2)
 has:=fun x h=>by
  have hk:∃ k,(relabel scope X.env).names.lookup x=some k∧(k=.cell∨k=.free):=by
   rcases h with h | h
   ·exact ⟨_,h,.inl rfl⟩
   ·exact ⟨_,h,.inr rfl⟩
  obtain ⟨k,h1,h2⟩:=hk
  have hm:=By h1 h2 S.nocell
  obtain ⟨c,hc⟩:=S.cells I.ok _ hm rfl
  exact ⟨c,cn _ _ hm hc⟩
 cab:=fun _ _ h _=>nomatch h
 hd:=I.ok.hd
 frames:=I.ok.frames
 stk:=.inl rfl
 exf:=fun b hb=>⟨Nat.ne_of_lt (Nat.lt_of_lt_of_le (hs b hb) hC),fun x c e=>(hf b hb).2.2.2.2.1 x c (yt e)⟩
 bs:=I.bs
 bsz:=Nat.le_trans I.ok.bsz I.sz
 noex:=fun b o e hb=>by
  rcases (hf b hb).2.2.2.1 with z | z
  ·exact I.ok.noex b o e z
  ·exact absurd (Nat.lt_of_lt_of_le (Nat.lt_of_lt_of_le (Heap.lt_size e) I.ok.bsz) z) (Nat.lt_irrefl _)
 exfs:=fun b hb hz=>by
  rcases List.mem_cons.mp (I.stkSub b hz) with z | z
  ·exact (hf b hb).2.1 z
  ·exact (hf b hb).2.2.1 z
 funs:=I.stack
 frf:=I.stkFree
theorem oC {h':Heap} {t':Nat} {m:Str→Option Value} {sel:List (Option Nat)} (I:Inv X pins σ H s) (S:Po X.env scope) (hf:∀ b ∈ fp,jw X pins H b) (hs:∀ b ∈ fp,b < s.heap.objs.size) (hC:s.heap.objs.size ≤ C)
  (k:∀ b o,s.heap.get? b=some o→h'.get? b=some o) (hn:h'.Ns C m) (hsel:RC X.N scope N sel):Inv (X.block scope C N s H fp) [] (blk sel σ) H { s with heap:=h',toks:=t' } where
 ok:=Sz I S hf hs hC
 os:=rfl
 bare:=I.bare
 base:=Un.kept k
 loc:=by
  refine ⟨m,hn,fun i x v e1 e2 e3=>?_⟩
  obtain ⟨m0,hn0,hl⟩:=I.loc
  obtain ⟨j,ej,eσ⟩:∃ j,sel[i]? = some (some j)∧σ[j]? = some (some v):=by
   unfold blk at e2
   rw [List.getElem?_map] at e2
   cases q:sel[i]? with
   | none=>rw [q] at e2;cases e2
   | some o=>
    rw [q] at e2
    cases o with
    | none=>cases e2
    | some j=>
     refine ⟨j,rfl,?_⟩
     have e2':(σ[j]?).join=some v:=Option.some.inj e2
     cases r:σ[j]? with
     | none=>rw [r] at e2';cases e2'
     | some z=>rw [r] at e2';exact congrArg some e2'
  obtain ⟨eN,hfr⟩:=hsel.2 i j x ej e1
  have hm:=oo hfr
  have hk:=S.fr _ hm rfl
  have hv:Vis X.env.scope x:=hk.elim (fun z=>.inr (.inl z)) fun z=>.inr (.inr z)
  obtain ⟨u,r,l⟩:=hl j x v eN eσ hv
  refine ⟨u,r,?_⟩
  rcases l with ⟨hloc,_⟩ | ⟨_,c,hc,hcell⟩
  ·rcases hk with z | z <;> (have z':X.env.kindOf x=_:=z;rw [hloc] at z';cases z')
  ·refine .inr ⟨?_,c,cn _ _ hm hc,?_⟩
   ·exact Xl hfr
   ·obtain ⟨o,ho,hd⟩:=hcell
    exact ⟨o,k _ _ ho,hd⟩
 cell:=fun x c e=>by
  obtain ⟨v,o,ho,hd⟩:=I.cell x c (yt e)
  exact ⟨v,o,k _ _ ho,hd⟩
 free:=I.hok.fresh hC
 freeC:=fun x c e=>I.freeC x c (yt e)
 pin:=fun p hp=>nomatch hp
 hok:=I.hok.kept k
 len:=by unfold blk;rw [List.length_map];exact hsel.1
theorem Inv.adopt {a:Addr} {o:HO} (I:Inv X pins σ H s) (fo:jw X pins H a) (new:Gd X.prog X.w (upd H a o) s.heap a o):Inv X pins σ (upd H a o) s:=by
 obtain ⟨hn,hL,hfs,hex,hcl,hpn⟩:=fo
 refine I.step (g':=s.gens) (d':=s.drawn) (t':=s.toks) (h':=s.heap) (ch:=[a]) (fun b hb=>?_) (fun b o _ _ _ e _=>e) (fun b o _ _ _ e _=>⟨o.slots,e⟩) (fun b o hb e n=>?_) (fun b o _ e=>⟨o,e⟩)
  (fun b xs e=>?_) (fun b o u e=>?_) (fun b ps e=>⟨#[],?_⟩) (fun m hm=>hm) (fun b u e=>?_) I.bare
 ·have e:b=a:=by simpa using hb
  subst e
  exact ⟨hex,hL,hcl,hpn⟩
 ·rw [lb (fun z=>hb (by simp [z]))];exact n
 ·rw [lb (ub e hn)];exact e
 ·rw [lb (ub e hn)];exact e
 ·rw [lb (ub e hn),e];simp
 ·by_cases hb:b=a
  ·subst hb;rw [db] at e;cases e;exact new
  ·rw [lb hb] at e
   exact (I.hok b u e).stay (fun c v _ q=>q) (fun c q=>by rw [lb (ub q hn)];exact q) fun c xs q=>by rw [lb (ub q hn)];exact q
end
theorem el {prog:Program} {w:World} {A:Around} {R:Result→Shared→Prop} {s:Shared} {elt target iter:Expr} {ifs:List Expr} {scope:Scope} {pos:Pos} {it acc:Value} {env:Env} (I:Nat→Shared→Prop)
  (turn:∀ n s,I n s→wpAny (model prog w) A (pyNext it) (fun r s₁=>match r with
   | none=>R (.ok .next) s₁
   | some v=>wpAny (model prog w) A (letOwnedTupleGo target it v) (fun _ s₀=>wpAny (model prog w) A (assign target env v) (fun _ s₂=>
     wpAny (model prog w) A (forIn ifs true fun c r=>if r=true then do let ok ← isTrue c env (eval c env);pure (ForInStep.yield ok) else pure (ForInStep.yield r)) (fun ok s₃=>
      if ok=true then wpAny (model prog w) A (eval elt env) (fun x s₄=>
       wpAny (model prog w) A (call (.builtin "list.append") [acc,x]) (fun _ s₅=>∃ m,m < n∧I m s₅) (fun _ _=>False) s₄) (fun _ _=>False) s₃
      else ∃ m,m < n∧I m s₃) (fun _ _=>False) s₂) (fun _ _=>False) s₀) (fun _ _=>False) s₁) (fun _ _=>False) s)
  (n:Nat) (h:I n s) :
  codeAny (model prog w) A (.compLoop (.ListComp elt [⟨target,iter,ifs,0⟩] scope pos) 0 it acc env) R s:=by
 refine codeAny_loop rfl I (fun n s hI=>?_) n h
 show wpAny _ A ((compTurn (.ListComp elt [⟨target,iter,ifs,0⟩] scope pos) 0 it acc env).onRaise (fun x=>do noteFrame x env;theTreesLotGoes x)) _ _ s
 refine wpAny_noted (wpAny_noRaise ?_)
 rw [compTurn_list]
 refine wpAny_bind (wpAny_standAt (wpAny_bind (wpAny_mono (turn n s hI) (fun r s₁ h₁=>?_) fun _ _ h'=>h')))
 cases r with
 | none=>exact wpAny_pure h₁
 | some v=>
  refine wpAny_bind (wpAny_mono h₁ (fun _ s₀ h₀=>?_) fun _ _ h'=>h')
  refine wpAny_bind (wpAny_mono h₀ (fun _ s₂ h₂=>wpAny_bind (wpAny_mono h₂ (fun ok s₃ h₃=>?_) fun _ _ h'=>h')) fun _ _ h'=>h')
  cases ok with
  | false=>exact wpAny_pure ⟨rfl,h₃⟩
  | true=>
   exact wpAny_bind (wpAny_bind (wpAny_mono h₃ (fun x s₄ h₄=>wpAny_bind (wpAny_mono h₄ (fun _ s₅ h₅=>wpAny_pure (wpAny_pure ⟨rfl,h₅⟩)) fun _ _ h'=>h')) fun _ _ h'=>h'))
noncomputable def PTs (X:Cx) (ifs:List Expr) (t:TT):Prop:=
 ∀ (pins:List (Addr × Obj)) (s:Shared) (σ:St) (H:Hp) (Q:Bool→Hp→Prop),Inv X pins σ H s→t σ H Q →
  wpAny (model X.prog X.w) X.A (forIn ifs true fun c r=>if r=true then do let ok ← isTrue c X.env (eval c X.env);pure (ForInStep.yield ok) else pure (ForInStep.yield r)) (TP X pins σ Q) X.xe s
noncomputable def Bx:TT:=fun _ H Q=>Q true H
theorem Xh {X:Cx}:PTs X [] Bx:=fun _ _ _ H _ I h=>wpAny_tests_nil ⟨H,I,h⟩
theorem kx {X:Cx} {c:Expr} {t:TT} (h:PT X c t):PTs X [c] t:=fun pins s σ H Q I q=>wpAny_tests_one (h pins s σ H Q I q)
noncomputable def Sub (σ σ':St):Prop:=σ'.length=σ.length∧∀ (i:Nat) (v:V),σ[i]? = some (some v)→σ'[i]? = some (some v)
theorem Sub.refl (σ:St):Sub σ σ:=⟨rfl,fun _ _ h=>h⟩
theorem Sub.set {σ σ':St} {i:Nat} {x:Option V} (h:Sub σ σ') (e:σ[i]? = some none):Sub σ (σ'.set i x):=by
 refine ⟨by rw [List.length_set];exact h.1,fun j v q=>?_⟩
 have hj:i ≠ j:=fun z=>by subst z;rw [e] at q;cases q
 rw [List.getElem?_set_ne hj]
 exact h.2 j v q
noncomputable def Dv (J:It) (g:TG) (tc:TT) (te:TE) (σb:St) (Q:VK) (W:Nat→Nat→List V→Hp→Prop):Prop:=∀ i m ys H,W i m ys H →
 (J.stop i H∧∀ p,H p=none→Q (.ref p) (upd H p (.lst ys))) ∨
 (J.go i H∧ys.length < sizeLine∧∀ x H',J.yld i H x H'→g x σb H' fun σ2 H2=>Sub σb σ2∧tc σ2 H2 fun c H3=>if c=true then te σ2 H3 fun y H4=>∃ m',m' < m∧W (i + 1) m' (ys ++ [y]) H4 else ∃ m',m' < m∧W (i + 1) m' ys H3)
noncomputable def ML (wi:TI) (g:TG) (tc:TT) (te:TE) (sel:List (Option Nat)):TE:=fun σ H Q=>wi σ H fun J H1=>∃ W:Nat→Nat→List V→Hp→Prop,(∃ m,W 0 m [] H1)∧Dv J g tc te (blk sel σ) Q W
section
variable {X:Cx} {elt tg iter:Expr} {ifs:List Expr} {scope:Scope} {pos:Pos} {wi:TI} {g:TG} {tc:TT} {te:TE} {N:List Str} {sel:List (Option Nat)}
structure Blk (X:Cx) (scope:Scope) (N:List Str) (tg elt:Expr) (ifs:List Expr) (g:TG) (tc:TT) (te:TE):Prop where
 tgt:∀ C s H fp,PG (X.block scope C N s H fp) tg g
 tests:∀ C s H fp,PTs (X.block scope C N s H fp) ifs tc
 elem:∀ C s H fp,PE (X.block scope C N s H fp) elt te
theorem Blk.of {X:Cx} {scope:Scope} {N:List Str} {tg elt:Expr} {ifs:List Expr} {g:TG} {tc:TT} {te:TE} (h1:∀ C s H fp,PG (X.block scope C N s H fp) tg g)
  (h2:∀ C s H fp,∃ t,PTs (X.block scope C N s H fp) ifs t∧t=tc) (h3:∀ C s H fp,∃ t,PE (X.block scope C N s H fp) elt t∧t=te):Blk X scope N tg elt ifs g tc te:=
 ⟨h1,fun C s H fp=>by obtain ⟨t,h,rfl⟩:=h2 C s H fp;exact h,fun C s H fp=>by obtain ⟨t,h,rfl⟩:=h3 C s H fp;exact h⟩
theorem vw {pins:List (Addr × Obj)} {s₂:Shared} {σ:St} {H₂:Hp} {Q:VK} {it:Addr} {fp:List Addr} {tn:Nat→Heap→Prop} {J:It} {W:Nat→Nat→List V→Hp→Prop} {E:Value→Shared→Prop} {RR:Value→Addr→Result→Shared→Prop}
  (hc:X.calm=true) (S:Po X.env scope) (hsel:RC X.N scope N sel) (B:Blk X scope N tg elt ifs g tc te) (I2:Inv X pins σ H₂ s₂) (T:zJ X.prog X.w X.K tg J fp it tn) (st2:tn 0 s₂.heap) (f2:∀ b ∈ fp,jw X pins H₂ b)
  (w0:∃ m,W 0 m [] H₂) (hW:Dv J g tc te (blk sel σ) Q W)
  (fin:∀ D C ys H' s',Inv X pins σ (upd H' D (.lst ys)) s'→(∃ m,s'.heap.Ns C m)→jw X pins (upd H' D (.lst ys)) C→Q (.ref D) (upd H' D (.lst ys))→RR (.ref D) C (.ok .next) s') :
  wpAny (model X.prog X.w) X.A (newList []) (fun acc s₃=>wpAny (model X.prog X.w) X.A (newFunctionEnv scope X.env.globals (zv X.env.cells scope.names []) [] X.env.qual none .none (some X.env)) (fun cenv s₄=>
   codeAny (model X.prog X.w) X.A (.compStart (.ListComp elt [⟨tg,iter,ifs,0⟩] scope pos) 0 (.ref it) acc { cenv with scope:=relabel scope X.env }) (RR acc cenv.locals) s₄) E s₃) E s₂:=by
 refine wpAny_newObj_type (wpAny_newFunctionEnv S.nocell (by intro y hy;simp at hy) (fun h₁ hns₁ hsb₁=>?_) S.kind)
 dsimp only at hns₁ hsb₁ ⊢
 generalize hH2:s₂.heap.push { cls:=.type "list",dict:=none,data:=.seq ([]:List Value).toArray }=H2 at hns₁ hsb₁ ⊢
 have hC:H2.objs.size=s₂.heap.objs.size + 1:=by rw [← hH2,Heap.size_push]
 have hDC:s₂.heap.objs.size ≠ H2.objs.size:=by rw [hC];exact Nat.ne_of_lt (Nat.lt_succ_self _)
 have hCle:s₂.heap.objs.size ≤ H2.objs.size:=by rw [hC];exact Nat.le_succ _
 have below:∀ b,b < s₂.heap.objs.size→b ≠ H2.objs.size∧b ≠ s₂.heap.objs.size:=fun b hb=>⟨by rw [hC];exact Nat.ne_of_lt (Nat.lt_succ_of_lt hb),Nat.ne_of_lt hb⟩
 have old:∀ b o,s₂.heap.get? b=some o→h₁.get? b=some o:=fun b o e=>hsb₁.extBut b o (below b (Heap.lt_size e)).1 (Heap.get?_push_of_some _ (hH2 ▸ Heap.get?_push_of_some _ e))
 have hacc:h₁.get? s₂.heap.objs.size=some { cls:=.type "list",data:=.seq ([]:List Value).toArray }:=hsb₁.extBut _ _ hDC (Heap.get?_push_of_some _ (hH2 ▸ Heap.get?_push_size _ rfl))
 have fps:∀ b ∈ fp,b < s₂.heap.objs.size:=fun b hb=>by
  obtain ⟨o,e,_⟩:=T.obj _ _ st2 b hb
  exact Heap.lt_size e
 generalize hCe:H2.objs.size=C at *
 generalize hDe:s₂.heap.objs.size=D at *
 have st1:tn 0 h₁:=T.keep _ _ _ st2 fun b _ o e=>old b o e
 have IB0:Inv (X.block scope C N s₂ H₂ fp) [] (blk sel σ) H₂ { s₂ with heap:=h₁,toks:=s₂.toks + ([]:List (Str × Value)).length }:=
  oC I2 S f2 (fun b hb=>by rw [hDe];exact fps b hb) (by rw [hDe];exact hCle) old hns₁ hsel
 have hDfs:D ∉ (X.block scope C N s₂ H₂ fp).fs:=fun z=>by
  have z':=I2.stkSub D z
  rcases List.mem_cons.mp z' with e | e
  ·exact absurd I2.lt (by rw [← e,hDe];exact Nat.lt_irrefl _)
  ·exact I2.nofs (by rw [hDe];exact Nat.le_refl _) e
 have loop:∀ s₃:Shared,s₃ = { s₂ with heap:=h₁,toks:=s₂.toks + ([]:List (Str × Value)).length } →
   codeAny (model X.prog X.w) X.A (.compLoop (.ListComp elt [⟨tg,iter,ifs,0⟩] scope pos) 0 (.ref it) (.ref D) (compEnvC scope (zv X.env.cells scope.names []) C X.env)) (RR (.ref D) C) s₃:=by
  rintro s₃ rfl
  obtain ⟨m0,w0⟩:=w0
  refine el (fun k s'=>∃ i ys us n H',Inv (X.block scope C N s₂ H₂ fp) [(D,{ cls:=.type "list",data:=.seq us n })] (blk sel σ) H' s'∧(∃ vs:List Value,us=vs.toArray∧kd ys vs)∧ys.length ≤ sizeLine∧tn i s'.heap∧(∀ b ∈ fp,H' b=none)∧W i k ys H') ?_ m0
   ⟨0,[],_,0,H₂,IB0.pins_of fun p hp=>?_,⟨[],rfl,.nil⟩,Nat.zero_le _,st1,fun b hb=>(f2 b hb).1,w0⟩
  ·rintro k s' ⟨i,ys,us,n,H',IB,⟨vs,rfl,rv⟩,hyz,st,fr,w⟩
   have fpB:∀ {pl:List (Addr × Obj)} {H'':Hp},(∀ p ∈ pl,p.1=D)→(∀ b ∈ fp,H'' b=none)→∀ b ∈ fp,jw (X.block scope C N s₂ H₂ fp) pl H'' b:=fun {pl H''} hp hn b hb=>
    ⟨hn b hb,(below b (fps b hb)).1,(Sz (N:=N) (C:=C) I2 S f2 (fun b hb=>by rw [hDe];exact fps b hb) (by rw [hDe];exact hCle)).exfs b hb,.inl hb,fun x c e=>(f2 b hb).2.2.2.2.1 x c (yt e),fun p hpp z=>by
     have hpp':p ∈ pl:=by simpa using hpp
     exact (below b (fps b hb)).2 (by rw [← z];exact hp p hpp')⟩
   have hD1:∀ p ∈ [((D,{ cls:=.type "list",data:=.seq vs.toArray n }):Addr × Obj)],p.1=D:=fun p hp=>by
    have e:p=(D,{ cls:=.type "list",data:=.seq vs.toArray n }):=by simpa using hp
    rw [e]
   rcases hW i k ys H' w with ⟨stop,qn⟩ | ⟨go,hlen,step⟩
   ·refine thn (T.done (X.block scope C N s₂ H₂ fp) rfl rfl rfl hc i _ s' _ H' _ IB (fpB hD1 fr) st stop) fun r s4 hZ1=>?_
    obtain ⟨hr,I4⟩:=hZ1
    subst hr
    -- the block is left
    have pD:=I4.pin (D,{ cls:=.type "list",data:=.seq vs.toArray n }) (by simp)
    have hDn:H' D=none:=pD.2.1
    have IX:Inv X pins σ H' s4:=I2.call' (ch:=fp) I4.os I4.base I4.hok I4.bare fun b hb=>⟨(f2 b hb).2.2.2.1,(f2 b hb).2.1,(f2 b hb).2.2.2.2.1,(f2 b hb).2.2.2.2.2⟩
    have foD:jw X pins H' D:=I2.fpOk (by rw [hDe];exact Nat.le_refl _) hDn
    have IA:Inv X pins σ (upd H' D (.lst ys)) s4:=IX.adopt foD ⟨hyz,vs,n,rv,pD.1⟩
    obtain ⟨mC,hnC,_⟩:=I4.loc
    refine fin D C ys H' s4 IA ⟨mC,hnC⟩ (I2.fpOk (by rw [hDe];exact hCle) ?_) (qn D hDn)
    rw [lb (Ne.symm hDC)]
    exact I4.free
   ·refine thn (T.item (X.block scope C N s₂ H₂ fp) rfl rfl rfl hc i _ s' _ H' _ IB (fpB hD1 fr) st go) fun r s4 hZ1=>?_
    obtain ⟨u,hr,h4⟩:=hZ1
    subst hr
    refine thn h4 fun _ s5 hZ1=>?_
    obtain ⟨x,H5,I5,r5,y5,st5,fr5⟩:=hZ1
    have I5':=I5.pinned (fpB hD1 fr5) (T.obj _ _ st5)
    refine thn (B.tgt C s₂ H₂ fp _ s5 _ H5 x u _ I5' r5 (step x H5 y5)) fun _ s6 hZ1=>?_
    obtain ⟨σ6,H6,I6,sb,q6⟩:=hZ1
    refine thn (B.tests C s₂ H₂ fp _ s6 σ6 H6 _ I6 q6) fun c s7 hZ1=>?_
    obtain ⟨H7,I7,q7⟩:=hZ1
    have again:∀ {σ8:St} {H8:Hp} {s8:Shared},Inv (X.block scope C N s₂ H₂ fp) ([(D,{ cls:=.type "list",data:=.seq vs.toArray n })] ++ Bv fp s5.heap) σ8 H8 s8→tn (i + 1) s8.heap∧(∀ b ∈ fp,H8 b=none):=fun {σ8 H8 s8} I8=>by
     refine ⟨T.keep _ _ _ st5 fun b hb o e=>(I8.pin (b,o) (List.mem_append_right _ (List.mem_append_right _ (dl hb e)))).1,fun b hb=>?_⟩
     obtain ⟨o,e,d⟩:=T.obj _ _ st5 b hb
     exact (I8.pin (b,o) (List.mem_append_right _ (List.mem_append_right _ (dl hb e)))).2.1
    have back:∀ {H8:Hp} {s8:Shared} {pl:List (Addr × Obj)},Inv (X.block scope C N s₂ H₂ fp) pl σ6 H8 s8→Inv (X.block scope C N s₂ H₂ fp) pl (blk sel σ) H8 s8:=fun {H8 s8 pl} I8=>I8.weak sb.1.symm sb.2
    cases c with
    | false=>
     obtain ⟨m',hm,w'⟩:=q7
     obtain ⟨t1,t2⟩:=again I7
     exact ⟨m',hm,i + 1,ys,_,n,H7,back I7.unpinned,⟨vs,rfl,rv⟩,hyz,t1,t2,w'⟩
    | true=>
     refine thn (B.elem C s₂ H₂ fp _ s7 σ6 H7 _ I7 q7) fun v s8 hZ1=>?_
     obtain ⟨y,H8,I8,r8,m',hm,w'⟩:=hZ1
     obtain ⟨t1,t2⟩:=again I8
     have pD:=I8.pin (D,{ cls:=.type "list",data:=.seq vs.toArray n }) (by simp)
     refine append_at (hsz:=by have:=rv.length;rw [List.size_toArray];omega) pD.1 fun h9 hs9 hD9=>?_
     have IB':Inv (X.block scope C N s₂ H₂ fp) [] (blk sel σ) H8 s8:=(back I8).pins_of fun p hp=>nomatch hp
     have foD:jw (X.block scope C N s₂ H₂ fp) [] H8 D:=⟨pD.2.1,hDC,hDfs,.inr (by show s₂.heap.objs.size ≤ D;rw [hDe];exact Nat.le_refl _),(fun x c e z=>by
      obtain ⟨cv,o,ho,hd⟩:=I8.cell x c e
      rw [z,pD.1] at ho
      cases ho
      cases hd),(fun p hp=>nomatch hp)⟩
     have I9:Inv (X.block scope C N s₂ H₂ fp) [] (blk sel σ) H8 { s8 with heap:=h9 }:=IB'.turned (t':=s8.toks) (it:=D) (fun b o hb e=>(hs9.2 b hb).trans e) foD.1 foD.2.1 foD.2.2.2.1 foD.2.2.2.2.1 foD.2.2.2.2.2
     refine ⟨m',hm,i + 1,ys ++ [y],vs.toArray.push v,n + 1,H8,I9.pins_of fun p hp=>?_,⟨vs ++ [v],by simp,Paired.snoc rv r8⟩,by rw [List.length_append,List.length_singleton];omega,T.keep _ _ _ t1 fun b hb o e=>(hs9.2 b (below b (fps b hb)).2).trans e,t2,w'⟩
     have e:p=(D,{ cls:=.type "list",data:=.seq (vs.toArray.push v) (n + 1) }):=by simpa using hp
     subst e
     exact ⟨hD9,pD.2.1,hDC,hDfs,fun v z=>by cases z⟩
  ·have e:p=(D,{ cls:=.type "list",data:=.seq ([]:List Value).toArray }):=by simpa using hp
   subst e
   exact ⟨hacc,I2.hok.fresh (by rw [hDe];exact Nat.le_refl _),hDC,hDfs,fun v z=>by cases z⟩
 exact codeAny_compStart_list (loop _ rfl) (T.self _ 0 _ _ _ st1 (loop _ rfl))
theorem Qi (hc:X.calm=true) (hi:PI X tg iter wi) (S:Po X.env scope) (hsel:RC X.N scope N sel) (B:Blk X scope N tg elt ifs g tc te)
  (hs:∀ x,foldedSetIterable iter X.env x=pure x:=by intro _;rfl):PE X (.ListComp elt [⟨tg,iter,ifs,0⟩] scope pos) (ML wi g tc te sel):=by
 intro pins s σ H Q I h
 rw [eval_ListComp]
 refine wpAny_comprehension_free (use:=none) rfl hs (pE (S.cells I.ok)) S.kind S.loc ?_
 refine thn (hi pins s σ H _ I h) fun v s1 h1=>thn h1 fun itv s2 h2=>?_
 obtain ⟨it,fp,tn,J,H2,e,I2,T,st2,f2,W,w0,hW⟩:=h2
 subst e
 refine vw (RR:=fun acc C=>compPost (model X.prog X.w) X.A X.xe none (EP X pins σ Q) acc C) hc S hsel B I2 T st2 f2 w0 hW fun D C ys H' s' I' ⟨m,hm⟩ fo q=>?_
 exact ⟨m,hm,fun h' hsb=>⟨.ref D,_,I'.turned (t':=s'.toks) (it:=C) (fun b o hb e=>(hsb.2 b hb).trans e) fo.1 fo.2.1 fo.2.2.2.1 fo.2.2.2.2.1 fo.2.2.2.2.2,rfl,q⟩⟩
theorem Rk {i:Nat} {y:Str} {py spos:Pos} (hN:X.N.Nodup) (hi:X.N[i]? = some y) (hx:Loc X.env.scope y) (hc:X.calm=true) (hit:PI X tg iter wi) (S:Po X.env scope) (hsel:RC X.N scope N sel) (B:Blk X scope N tg elt ifs g tc te)
  (hsw:swapsWith (.ListComp elt [⟨tg,iter,ifs,0⟩] scope pos) (some (.Name y py)) spos.line X.env=pure true) (hf:X.fn y=true∨X.env.scope.names.lookup y=some .local:=by first | exact .inl rfl | exact .inr rfl | assumption)
  (hs:∀ x,foldedSetIterable iter X.env x=pure x:=by intro _;rfl):PS X (.Assign [.Name y py] (.ListComp elt [⟨tg,iter,ifs,0⟩] scope pos) spos) (oP (ML wi g tc te sel) (Cw i)):=by
 intro pins s σ H D I h
 rw [exec_Assign_Name_used _ _ _ _ hsw]
 refine wpAny_bind (wpAny_standAt (wpAny_bind ?_))
 show wpAny _ X.A (do let _ ← comprehension (.ListComp elt [⟨tg,iter,ifs,0⟩] scope pos) scope X.env _ (newList []) false (eval iter X.env) (some (assign (.Name y py) X.env))) _ _ s
 refine wpAny_bind (wpAny_mono (wpAny_comprehension_free (use:=some (assign (.Name y py) X.env)) (Q:=fun _ s'=>SP X pins D .next s') rfl hs (pE (S.cells I.ok)) S.kind S.loc ?_) (fun _ s' hq=>wpAny_pure (wpAny_pure hq)) fun _ _ e=>e)
 refine thn (hit pins s σ H _ I h) fun v s1 h1=>thn h1 fun itv s2 h2=>?_
 obtain ⟨it,fp,tn,J,H2,e,I2,T,st2,f2,W,w0,hW⟩:=h2
 subst e
 refine vw (RR:=fun acc C=>compPost (model X.prog X.w) X.A X.xe (some (assign (.Name y py) X.env)) (fun _ s'=>SP X pins D .next s') acc C) hc S hsel B I2 T st2 f2 w0 hW fun Da C ys H' s' I' ⟨m,hm⟩ fo q=>?_
 show wpAny _ X.A (assign (.Name y py) X.env (.ref Da)) _ _ _
 refine wpAny_assign_Name (fw I' hN hi hx (show Md (.ref Da) (.ref Da) from rfl) (fun s3 I3 hZ1=>?_) hf)
 obtain ⟨a,hsb,ha⟩:=hZ1
 have hCa:C ≠ a:=by
  rcases ha with z | z
  ·rw [z];exact fo.2.1
  ·exact fun w=>fo.2.2.2.2.1 y a z w.symm
 refine ⟨m,hm.sameBut hsb hCa,fun h' hsb'=>⟨_,_,I3.turned (t':=s3.toks) (it:=C) (fun b o hb e=>(hsb'.2 b hb).trans e) fo.1 fo.2.1 fo.2.2.2.1 fo.2.2.2.2.1 fo.2.2.2.2.2,q⟩⟩
end
noncomputable def Tg (Pv:Nat→List V→Hp→Prop) (g:TG) (tc:TT) (te:TE) (σb:St) (i:Nat) (x:V) (ys:List V) (H:Hp):Prop:=
 ∀ N:List V→Hp→Prop,(∀ ys' H',Pv (i + 1) ys' H'→N ys' H')→g x σb H fun σ2 H2=>Sub σb σ2∧tc σ2 H2 fun c H3=>if c=true then te σ2 H3 fun y H4=>N (ys ++ [y]) H4 else N ys H3
theorem YD {K:PySem.W.Frag} {a:Addr} {xs:List V} {g:TG} {tc:TT} {te:TE} {σb:St} {Q:VK} {H:Hp} (Pv:Nat→List V→Hp→Prop) (hz:xs.length ≤ sizeLine) (h0:Pv 0 [] H) (hl:∀ i ys H,i ≤ xs.length→Pv i ys H→SqL K H a xs∧ys.length ≤ i)
  (hs:∀ i x ys H,xs[i]? = some x→Pv i ys H→Tg Pv g tc te σb i x ys H) (hd:∀ ys H,Pv xs.length ys H→∀ p,H p=none→Q (.ref p) (upd H p (.lst ys))) :
  ∃ W:Nat→Nat→List V→Hp→Prop,(∃ m,W 0 m [] H)∧Dv (Itl K a) g tc te σb Q W:=by
 refine ⟨fun i m ys H=>m=xs.length - i∧i ≤ xs.length∧Pv i ys H,⟨xs.length,by simp,Nat.zero_le _,h0⟩,?_⟩
 rintro i m ys H ⟨rfl,hi,p⟩
 have q:=(hl i ys H hi p).1
 have hyl:=(hl i ys H hi p).2
 by_cases hlt:i < xs.length
 ·refine .inr ⟨⟨xs,xs[i],q,by simp [hlt]⟩,by omega,fun x H' y=>?_⟩
  obtain ⟨e,y⟩:=y
  subst e
  exact hs i x ys _ (y xs q) p (fun ys' H'=>∃ m',m' < xs.length - i∧m'=xs.length - (i + 1)∧i + 1 ≤ xs.length∧Pv (i + 1) ys' H') fun ys' H' r=>⟨xs.length - (i + 1),by omega,rfl,hlt,r⟩
 ·have e:i=xs.length:=by omega
  subst e
  exact .inl ⟨⟨xs,q,Nat.le_refl _⟩,hd ys H p⟩
theorem pI {K:PySem.W.Frag} {a:Addr} {xs:List V} {g:TG} {tc:TT} {te:TE} {σb:St} {Q:VK} {H:Hp} (Pv:Nat→List V→Hp→Prop) (hz:xs.length ≤ sizeLine) (h0:Pv 0 [] H) (hl:∀ i ys H,i ≤ xs.length→Pv i ys H→SqT K H a xs∧ys.length ≤ i)
  (hs:∀ i x ys H,xs[i]? = some x→Pv i ys H→Tg Pv g tc te σb i x ys H) (hd:∀ ys H,Pv xs.length ys H→∀ p,H p=none→Q (.ref p) (upd H p (.lst ys))) :
  ∃ W:Nat→Nat→List V→Hp→Prop,(∃ m,W 0 m [] H)∧Dv (Itt K a) g tc te σb Q W:=by
 refine ⟨fun i m ys H=>m=xs.length - i∧i ≤ xs.length∧Pv i ys H,⟨xs.length,by simp,Nat.zero_le _,h0⟩,?_⟩
 rintro i m ys H ⟨rfl,hi,p⟩
 have q:=(hl i ys H hi p).1
 have hyl:=(hl i ys H hi p).2
 by_cases hlt:i < xs.length
 ·refine .inr ⟨⟨xs,xs[i],q,by simp [hlt]⟩,by omega,fun x H' y=>?_⟩
  obtain ⟨e,y⟩:=y
  subst e
  exact hs i x ys _ (y xs q) p (fun ys' H'=>∃ m',m' < xs.length - i∧m'=xs.length - (i + 1)∧i + 1 ≤ xs.length∧Pv (i + 1) ys' H') fun ys' H' r=>⟨xs.length - (i + 1),by omega,rfl,hlt,r⟩
 ·have e:i=xs.length:=by omega
  subst e
  exact .inl ⟨⟨xs,q,Nat.le_refl _⟩,hd ys H p⟩
theorem jB {lo:Int} {n:Nat} {g:TG} {tc:TT} {te:TE} {σb:St} {Q:VK} {H:Hp} (Pv:Nat→List V→Hp→Prop) (hz:n ≤ sizeLine) (h0:Pv 0 [] H) (hl:∀ i ys H,i ≤ n→Pv i ys H→ys.length ≤ i)
  (hs:∀ i ys H,i < n→Pv i ys H→Tg Pv g tc te σb i (.int (lo + i)) ys H) (hd:∀ ys H,Pv n ys H→∀ p,H p=none→Q (.ref p) (upd H p (.lst ys))) :
  ∃ W:Nat→Nat→List V→Hp→Prop,(∃ m,W 0 m [] H)∧Dv (Itr lo n) g tc te σb Q W:=by
 refine ⟨fun i m ys H=>m=n - i∧i ≤ n∧Pv i ys H,⟨n,by simp,Nat.zero_le _,h0⟩,?_⟩
 rintro i m ys H ⟨rfl,hi,p⟩
 have hyl:=hl i ys H hi p
 by_cases hlt:i < n
 ·refine .inr ⟨hlt,by omega,fun x H' y=>?_⟩
  obtain ⟨e,y⟩:=y
  subst e y
  exact hs i ys _ hlt p (fun ys' H'=>∃ m',m' < n - i∧m'=n - (i + 1)∧i + 1 ≤ n∧Pv (i + 1) ys' H') fun ys' H' r=>⟨n - (i + 1),by omega,rfl,hlt,r⟩
 ·have e:i=n:=by omega
  subst e
  exact .inl ⟨Nat.le_refl _,hd ys H p⟩
end L2
namespace L2
open PySem PySem.Spec PyProof.Rows
noncomputable def Its (xs:List V):It:=⟨fun i _=>i < xs.length,fun i H x H'=>H'=H∧xs[i]? = some x,fun i _=>xs.length ≤ i⟩
theorem At {P:Program} {w:World} {K:PySem.W.Frag} {tg:Expr} {it:Addr} {xs:List V} {PV:Nat→Value→Prop} {St:Nat→Heap→Prop} (hW:∀ A:Around,A.handled=none→Walks P w A it [it] [it] xs.length PV St)
  (hP:∀ i v,PV i v→∃ x,xs[i]? = some x∧Md x v)
  (hgo:∀ i h,St i h→∃ o n vs,h.get? it=some o∧o.cls=.type n∧o.data=.fields vs∧["enumerate","zip","dict_itemiterator","dict_reverseitemiterator","odict_iterator","itertools.zip_longest","itertools.pairwise"].contains n=false)
  (hfr:∀ i h h',St i h→(∀ o,h.get? it=some o→h'.get? it=some o)→St i h')
  (hself:∀ (A:Around) (i:Nat) (s:Shared) (Q:Value→Shared→Prop) (E:Value→Shared→Prop),St i s.heap→Q (.ref it) s→wpAny (model P w) A (pyIter (.ref it)) Q E s) :
  zJ P w K tg (Its xs) [it] it (fun i h=>i ≤ xs.length∧St i h) where
 mem:=by simp
 obj:=fun i h st b hb=>by
  have e:b=it:=by simpa using hb
  subst e
  obtain ⟨o,n,vs,e,_,d,_⟩:=hgo i h st.2
  exact ⟨o,e,fun v z=>by rw [d] at z;cases z⟩
 keep:=fun i h h' st k=>⟨st.1,hfr i h h' st.2 fun o e=>k it (by simp) o e⟩
 item:=by
  intro X hP' hw hK hc i pins s σ H E I hf st hg
  subst hP' hw hK
  obtain ⟨f0,f1,f2,f3,f4,f5⟩:=hf it (by simp)
  refine (hW X.A (I.ok.hd hc)).item i s _ _ hg st.2 fun v h' tk hv st' kk=>?_
  obtain ⟨x,hx,rx⟩:=hP i v hv
  have I1:Inv X pins σ H { s with heap:=h',toks:=tk }:=I.turned (fun b o hb e=>kk b o (by simpa using hb) e) f0 f1 f3 f4 f5
  obtain ⟨o,n,vs,e,c,d,nm⟩:=hgo _ _ st'
  exact ⟨v,rfl,UD (s:={ s with heap:=h',toks:=tk }) e c d nm ⟨x,H,I1,rx,⟨rfl,hx⟩,⟨hg,st'⟩,fun b hb=>(hf b hb).1⟩⟩
 done:=by
  intro X hP' hw hK hc i pins s σ H E I hf st hg
  subst hP' hw hK
  obtain ⟨f0,f1,f2,f3,f4,f5⟩:=hf it (by simp)
  have e:i=xs.length:=Nat.le_antisymm st.1 hg
  subst e
  exact (hW X.A (I.ok.hd hc)).done s _ _ st.2 fun h' tk kk=>⟨rfl,I.turned (fun b o hb e=>kk b o (by simpa using hb) e) f0 f1 f3 f4 f5⟩
 self:=fun A i s Q E st h=>hself A i s Q E st.2 h
noncomputable def wN (c:Nat):Str:=⟨#[c]⟩
noncomputable def Aj (x:Str):List V:=x.cps.toList.map fun c=>V.str (wN c)
theorem Fn (x:Str):(Aj x).length=x.cps.size:=by unfold Aj;simp
theorem MC {x:Str} {i c:Nat} (h:x.cps[i]? = some c):(Aj x)[i]? = some (.str (wN c)):=by
 unfold Aj
 rw [List.getElem?_map,Array.getElem?_toList,h]
 rfl
theorem Ct {x:Str} {i:Nat} {v:Value} (h:SignAt x i v):∃ y,(Aj x)[i]? = some y∧Md y v:=by
 obtain ⟨c,u,hc,rfl⟩:=h
 exact ⟨.str (wN c),MC hc,u,rfl⟩
section
variable {X:Cx} {tg:Expr}
noncomputable def JQ (tl:TE):TI:=fun σ H R=>tl σ H fun x H1=>∃ z,x=.str z∧R (Its (Aj z)) H1
theorem bP {l:Expr} {tl:TE} (hl:PE X l tl):PI X tg l (JQ tl):=by
 intro pins s σ H R I h
 refine thn (hl pins s σ H _ I h) fun v s1 hZ1=>?_
 obtain ⟨x,H1,I1,r1,q1⟩:=hZ1
 obtain ⟨z,e,q⟩:=q1
 subst e
 obtain ⟨t,rfl⟩:=r1
 have fo:∀ b ∈ [s1.heap.objs.size],jw X pins H1 b:=fun b hb=>by
  have e:b=s1.heap.objs.size:=by simpa using hb
  subst e
  exact I1.fpOk (Nat.le_refl _) (I1.hok.fresh (Nat.le_refl _))
 have hz:=Fn z
 cases ha:z.cps.all (· < 128) with
 | false=>
  refine wpAny_pyIter_wide ha ⟨s1.heap.objs.size,[s1.heap.objs.size],fun i h=>i ≤ (Aj z).length∧h.IsStrIter s1.heap.objs.size "str_iterator" z t i,_,H1,rfl,I1.kept (t':=s1.toks) fun b o e=>Heap.get?_push_of_some _ e,
   At (fun A hA=>by rw [hz];exact Walks.strWide hA _ z t) (fun i v=>Ct) (fun i h ⟨o,e,c,d⟩=>⟨o,_,_,e,c,d,by decide⟩) (fun i h h' ⟨o,e,r⟩ k=>⟨o,k o e,r⟩) (fun A i s Q E st q=>wpAny_pyIter_striter_wide st q),
   ⟨Nat.zero_le _,_,Heap.get?_push_size _ rfl,rfl,rfl⟩,fo,q⟩
 | true=>
  refine wpAny_pyIter_ascii ha ⟨s1.heap.objs.size,[s1.heap.objs.size],fun i h=>i ≤ (Aj z).length∧h.IsStrIter s1.heap.objs.size "str_ascii_iterator" z t i,_,H1,rfl,I1.kept (t':=s1.toks) fun b o e=>Heap.get?_push_of_some _ e,
   At (fun A hA=>by rw [hz];exact Walks.strAscii hA _ z t) (fun i v=>Ct) (fun i h ⟨o,e,c,d⟩=>⟨o,_,_,e,c,d,by decide⟩) (fun i h h' ⟨o,e,r⟩ k=>⟨o,k o e,r⟩) (fun A i s Q E st q=>wpAny_pyIter_striter_ascii st q),
   ⟨Nat.zero_le _,_,Heap.get?_push_size _ rfl,rfl,rfl⟩,fo,q⟩
end
theorem VJ {xs:List V} {g:TG} {tb:TS} {D:Kg} {σ:St} {H:Hp} (Pv:Nat→St→Hp→Prop) (h0:Pv 0 σ H)
  (hs:∀ i x σ H,xs[i]? = some x→Pv i σ H→g x σ H fun σ2 H2=>tb { D with nx:=Pv (i + 1),ct:=Pv (i + 1),bk:=D.nx } σ2 H2) (hd:∀ σ H,Pv xs.length σ H→D.nx σ H) :
  ∃ W:Nat→Nat→St→Hp→Prop,(∃ m,W 0 m σ H)∧∀ i m σ H,W i m σ H →
   ((Its xs).stop i H∧D.nx σ H)∨((Its xs).go i H∧∃ N:St→Hp→Prop,(∀ σ' H',N σ' H'→∃ m',m' < m∧W (i + 1) m' σ' H')∧∀ x H',(Its xs).yld i H x H'→g x σ H' fun σ2 H2=>tb { D with nx:=N,ct:=N,bk:=D.nx } σ2 H2):=by
 refine ⟨fun i m σ H=>m=xs.length - i∧i ≤ xs.length∧Pv i σ H,⟨xs.length,by simp,Nat.zero_le _,h0⟩,?_⟩
 rintro i m σ H ⟨rfl,hi,p⟩
 by_cases hlt:i < xs.length
 ·refine .inr ⟨hlt,Pv (i + 1),fun σ' H' p'=>⟨xs.length - (i + 1),by omega,rfl,hlt,p'⟩,fun x H' y=>?_⟩
  obtain ⟨e,y⟩:=y
  subst e
  exact hs i x σ _ y p
 ·have e:i=xs.length:=by omega
  subst e
  exact .inl ⟨Nat.le_refl _,hd σ H p⟩
theorem gI {xs:List V} {g:TG} {tc:TT} {te:TE} {σb:St} {Q:VK} {H:Hp} (Pv:Nat→List V→Hp→Prop) (hz:xs.length ≤ sizeLine) (h0:Pv 0 [] H) (hl:∀ i ys H,i ≤ xs.length→Pv i ys H→ys.length ≤ i)
  (hs:∀ i x ys H,xs[i]? = some x→Pv i ys H→Tg Pv g tc te σb i x ys H) (hd:∀ ys H,Pv xs.length ys H→∀ p,H p=none→Q (.ref p) (upd H p (.lst ys))) :
  ∃ W:Nat→Nat→List V→Hp→Prop,(∃ m,W 0 m [] H)∧Dv (Its xs) g tc te σb Q W:=by
 refine ⟨fun i m ys H=>m=xs.length - i∧i ≤ xs.length∧Pv i ys H,⟨xs.length,by simp,Nat.zero_le _,h0⟩,?_⟩
 rintro i m ys H ⟨rfl,hi,p⟩
 have hyl:=hl i ys H hi p
 by_cases hlt:i < xs.length
 ·refine .inr ⟨hlt,by omega,fun x H' y=>?_⟩
  obtain ⟨e,y⟩:=y
  subst e
  exact hs i x ys _ y p (fun ys' H'=>∃ m',m' < xs.length - i∧m'=xs.length - (i + 1)∧i + 1 ≤ xs.length∧Pv (i + 1) ys' H') fun ys' H' r=>⟨xs.length - (i + 1),by omega,rfl,hlt,r⟩
 ·have e:i=xs.length:=by omega
  subst e
  exact .inl ⟨Nat.le_refl _,hd ys H p⟩
section
variable {X:Cx}
noncomputable def sQ:V→Option Int→Option Int→Hp→VK→Prop:=fun x lo hi H Q=>∃ z,x=.str z∧z.length ≤ sizeLine∧Q (.str (Txt.slice z lo hi)) H
theorem eJ:SlR X sQ:=by
 intro pins s σ H x v vl vu lo hi sl Q I rx hs pl pu h
 obtain ⟨z,rfl,hz,q⟩:=h
 obtain ⟨t,rfl⟩:=rx
 refine ⟨"str",_,F.slot_str_getitem.lookup,typeIs_str s z t,?_⟩
 have fin:∀ t' k,EP X pins σ Q (.str (Txt.slice z lo hi) t') { s with toks:=k }:=fun t' k=>⟨.str _,H,I.tok _,⟨_,rfl⟩,q⟩
 cases pl with
 | none=>
  cases pu with
  | none=>exact wpAny_getItem_str_slice (l:=none) (u:=none) (st:=none) hs rfl (post_val_or_str ⟨Nat.le_trans (Txt.slice_le z _ _) hz,fin⟩)
  | int j uj=>exact wpAny_getItem_str_slice (l:=none) (u:=some (j,uj)) (st:=none) hs rfl (post_val_or_str ⟨Nat.le_trans (Txt.slice_le z _ _) hz,fin⟩)
 | int i ui=>
  cases pu with
  | none=>exact wpAny_getItem_str_slice (l:=some (i,ui)) (u:=none) (st:=none) hs rfl (post_val_or_str ⟨Nat.le_trans (Txt.slice_le z _ _) hz,fin⟩)
  | int j uj=>exact wpAny_getItem_str_slice (l:=some (i,ui)) (u:=some (j,uj)) (st:=none) hs rfl (post_val_or_str ⟨Nat.le_trans (Txt.slice_le z _ _) hz,fin⟩)
noncomputable def Ib (ys:List Str):List V:=ys.map V.str
theorem oA:∀ {ys:List Str} {us:List Value},kd (Ib ys) us→StrsAre us ys:=by
 intro ys
 induction ys with
 | nil=>intro us r;cases r;exact .nil
 | cons y ys ih=>
  intro us r
  cases r with
  | cons r1 r2=>
   obtain ⟨t,rfl⟩:=r1
   exact .cons y t (ih r2)
theorem Dw:∀ (l:List (Str × Tok)),kd (Ib (l.map (·.1))) (strValues l)
 | []=>.nil
 | (x,t) :: r=>.cons ⟨t,rfl⟩ (Dw r)
noncomputable def QO (K:PySem.W.Frag):V→List V→Hp→VK→Prop:=fun x vs H Q=>∃ sep p ys,x=.str sep∧vs=[.ref p]∧SqL K H p (Ib ys)∧(ys.map (·.length)).sum + ys.length * sep.length ≤ 16777216∧Q (.str (Txt.join sep ys)) H
theorem eE:MtR X "str.join" (QO X.K):=by
 intro pins s σ H x xs v us Q I rx rv h
 obtain ⟨sep,p,ys,rfl,rfl,hq,hz,q⟩:=h
 obtain ⟨t,rfl⟩:=rx
 obtain ⟨u,rfl,ru⟩:=Zv rv
 cases ru
 obtain ⟨its,r,pl,_⟩:=I.list hq
 exact join_list pl.isList (by simpa using oA r) hz fun t' k=>⟨.str _,H,I.tok _,⟨_,rfl⟩,q⟩
end
theorem ZA {prog:Program} {w:World} {A:Around} {E:Value→Shared→Prop} {s:Shared} {x y:Str} {t u:Tok} {Q:Value→Shared→Prop} (hy:(y.length == 0)=false)
  (h:∀ l k,l.map (·.1)=Txt.split x y→Q (.ref s.heap.objs.size) { s with heap:=s.heap.push { cls:=.type "list",data:=.seq (strValues l).toArray },toks:=k }) (hsz:x.length + 2 ≤ sizeLine) :
  wpAny (model prog w) A (call (.builtin "str.split") [.str x t,.str y u]) Q E s:=by
 have hn:(Builtin.Str.partsBetween x (Builtin.Str.occurrences x y 0 x.length (x.length + 1)) y.length).length ≤ sizeLine:=by
  have e1:=StrLaws.occ_length_le x y 0 x.length (x.length + 1)
  rw [length_partsBetween];omega
 cases h1:(decide (x.length < y.length) || decide (Builtin.Str.strKind x < Builtin.Str.strKind y))
 ·cases hf:(Builtin.Str.occurrences x y 0 x.length (x.length + 1)).isEmpty
  ·refine call_meets F.slot_str_split (typeIs_str _ _ _) F.entry_str_split (F.args_str_split_2 _ _) (meets_str_split_sep x y t u h1 hy hf (by omega) hn) ?_
   show wants Q E _ { s with toks:=_,heap:=s.heap.push { cls:=.type "list",data:=.seq (strsFrom s.toks (Builtin.Str.partsBetween x (Builtin.Str.occurrences x y 0 x.length (x.length + 1)) y.length)).toArray } }
   rw [strsFrom_eq]
   exact h (numbered s.toks _) _ ((numbered_texts _ _).trans ((if_neg (ne_true_of_eq_false h1)).trans (if_neg (ne_true_of_eq_false hf))).symm)
  ·exact call_meets F.slot_str_split (typeIs_str _ _ _) F.entry_str_split (F.args_str_split_2 _ _) (meets_str_split_not_found x y t u h1 hy hf)
    (h [(x,t)] s.toks ((if_neg (ne_true_of_eq_false h1)).trans (if_pos hf)).symm)
 ·exact call_meets F.slot_str_split (typeIs_str _ _ _) F.entry_str_split (F.args_str_split_2 _ _) (meets_str_split_cannot_occur x y t u h1)
   (h [(x,t)] s.toks (if_pos h1).symm)
section
variable {X:Cx}
noncomputable def mJ:V→List V→Hp→VK→Prop:=fun x vs H Q=>∃ z y,x=.str z∧vs=[.str y]∧y.length ≠ 0∧z.length + 2 ≤ sizeLine∧(Txt.split z y).length ≤ sizeLine∧∀ p,H p=none→Q (.ref p) (upd H p (.lst (Ib (Txt.split z y))))
theorem Vz:MtR X "str.split" mJ:=by
 intro pins s σ H x xs v us Q I rx rv h
 obtain ⟨z,y,rfl,rfl,hy,hz,hn,q⟩:=h
 obtain ⟨t,rfl⟩:=rx
 obtain ⟨u,rfl,ru⟩:=Zv rv
 obtain ⟨tu,rfl⟩:=ru
 refine ZA (by simpa using hy) (fun l k hl=>?_) hz
 refine ⟨.ref s.heap.objs.size,_,I.laid (t':=k) (o:=.lst (Ib (Txt.split z y))) (fun b o e=>Heap.get?_push_of_some _ e) (Nat.le_refl _) ⟨by unfold Ib;rw [List.length_map];exact hn,strValues l,0,by rw [← hl];exact Dw l,Heap.get?_push_size _ rfl⟩,rfl,q _ (I.hok.fresh (Nat.le_refl _))⟩
noncomputable def iK:V→List V→Hp→VK→Prop:=fun x vs H Q=>∃ z y i rest,x=.str z∧vs=[.str y]∧Builtin.Str.occurrences z y 0 z.length 1=i :: rest∧Q (.int (i:Nat)) H
theorem qE:Kj X (.type "int") (fun xs H Q=>∃ z n,xs=[.str z]∧intText? z=some n∧z.length ≤ 640∧Q (.int n) H):=by
 intro pins s σ H xs us Q I r h
 obtain ⟨z,n,rfl,hn,hz,q⟩:=h
 obtain ⟨u,rfl,t,rfl⟩:=Zv r
 exact PySem.W.KIN.call_text hn hz ⟨.int n,H,I.tok _,⟨_,rfl⟩,q⟩
theorem Tv:∀ {bs:List Bool} {us:List Value},kd (bs.map V.bl) us→us=bs.map Value.bool
 | [],_,.nil=>rfl
 | b :: bs,_,.cons r t=>by
  have e:_=Value.bool b:=r
  rw [e,Tv t];rfl
theorem Xy {A:Around} (bs:List Bool):TruthOf X.prog X.w A (fun i v=>(bs.map Value.bool).toArray[i]? = some v) (fun i=>bs.getD i true):=by
 intro i v s Q E hP hQ
 have e:(bs.map Value.bool)[i]? = some v:=by simpa using hP
 rw [List.getElem?_map] at e
 cases q:bs[i]? with
 | none=>rw [q] at e;cases e
 | some b=>
  rw [q] at e
  have e':Value.bool b=v:=Option.some.inj e
  subst e'
  refine wpAny_truthy_bool ?_
  have:bs.getD i true=b:=by simp [List.getD,q]
  have hQ':Q (bs.getD i true) s:=hQ
  rw [this] at hQ'
  exact hQ'
theorem RD (bs:List Bool):(List.range bs.length).all (fun i=>bs.getD i true)=bs.all id:=by
 rw [Bool.eq_iff_iff]
 simp only [List.all_eq_true,List.mem_range,id]
 constructor
 ·intro h b hb
  obtain ⟨i,hi,e⟩:=List.mem_iff_getElem.mp hb
  have:=h i hi
  simp [List.getD,hi,e] at this
  exact this
 ·intro h i hi
  simp [List.getD,hi]
  exact h _ (List.getElem_mem hi)
theorem eI (hc:X.calm=true):Kj X (.builtin "all") (fun xs H Q=>∃ (p:Addr) (bs:List Bool),xs=[.ref p]∧SqL X.K H p (bs.map V.bl)∧Q (.bl (bs.all id)) H):=by
 intro pins s σ H xs us Q I r h
 obtain ⟨p,bs,rfl,hq,q⟩:=h
 obtain ⟨u,rfl,ru⟩:=Zv r
 cases ru
 obtain ⟨its,rv,pl,_⟩:=I.list hq
 have e:=Tv rv
 subst e
 refine call_all_walk (wpAny_pyIter_list pl.isList ?_)
 have hne:p ≠ s.heap.objs.size:=Nat.ne_of_lt (by obtain ⟨o,_,ho,_⟩:=pl;exact Heap.lt_size ho)
 refine ⟨s.heap.objs.size,_,_,_,_,_,fun i=>bs.getD i true,rfl,Walks.list (show X.A.in1.handled=none from I.ok.hd hc) _ p hne (bs.map Value.bool).toArray,⟨⟨_,Heap.get?_push_size _ rfl,rfl,rfl⟩,pl.isList.at fun o e=>Heap.get?_push_of_some _ e⟩,Xy bs,fun h' tk kk=>?_⟩
 refine ⟨.bl (bs.all id),H,I.kept fun b o e=>kk b o (by simpa using Nat.ne_of_lt (Heap.lt_size e)) (Heap.get?_push_of_some _ e),?_,q⟩
 show Value.bool _=Value.bool _
 rw [show (bs.map Value.bool).toArray.size=bs.length by simp,RD]
theorem ez:Kj X (.builtin "isinstance") (fun xs H Q=>∃ x T t b,xs=[x,.ty T]∧Wz X.K H x t∧PySem.W.kitOne X.K t (.type T)=some b∧Q (.bl b) H):=by
 intro pins s σ H xs us Q I r h
 obtain ⟨x,T,t,b,rfl,ty,e,q⟩:=h
 obtain ⟨u,u2,rfl,rx,r2⟩:=jy r
 cases r2
 exact QD I rx ty e fun tk=>⟨.bl b,H,I.tok _,rfl,q⟩
end
end L2
namespace L2
open PySem PySem.Spec PyProof.Rows
theorem Ii {X:Cx} {N:List Str} (h:N.Nodup) (e:X.N=N):X.N.Nodup:=e ▸ h
noncomputable def qC (sc scope:Scope):Bool:=
 (scope.kind == .function) && scope.names.all (fun y=>y.2 != .cell) && scope.names.all (fun y=>y.2 != .free || sc.names.lookup y.1 == some .cell || sc.names.lookup y.1 == some .free) &&
  scope.names.all (fun y=>y.2 != .local || scope.names.lookup y.1 == some .local)
theorem Vd {env:Env} {sc scope:Scope} (he:env.scope=sc) (h:qC sc scope=true):Po env scope:=by
 subst he
 unfold qC at h
 simp only [Bool.and_eq_true,List.all_eq_true] at h
 obtain ⟨⟨⟨h1,h2⟩,h3⟩,h4⟩:=h
 refine ⟨by simpa using h1,fun y hy e=>?_,fun y hy e=>?_,fun y hy e=>?_⟩
 ·have:=h2 y hy
  rw [e] at this
  exact absurd this (by decide)
 ·have:=h3 y hy
  rw [e] at this
  simp only [Bool.or_eq_true] at this
  rcases this with (z | z) | z
  ·exact absurd z (by decide)
  ·exact .inl (show env.scope.names.lookup y.1=some .cell by simpa using z)
  ·exact .inr (show env.scope.names.lookup y.1=some .free by simpa using z)
 ·have:=h4 y hy
  rw [e] at this
  simp only [Bool.or_eq_true] at this
  rcases this with z | z
  ·exact absurd z (by decide)
  ·simpa using z
noncomputable def SQ (M:List Str) (scope:Scope) (N:List Str) (sel:List (Option Nat)):Bool:=
 sel.length == N.length && (sel.zip N).all fun p=>match p.1 with | none=>true | some j=>M[j]? == some p.2 && scope.names.lookup p.2 == some .free
theorem Le {M:List Str} {scope:Scope} {N:List Str} {sel:List (Option Nat)} (h:SQ M scope N sel=true):RC M scope N sel:=by
 unfold SQ at h
 simp only [Bool.and_eq_true,List.all_eq_true] at h
 refine ⟨by simpa using h.1,fun i j x e1 e2=>?_⟩
 have hm:(some j,x) ∈ sel.zip N:=by
  rw [List.mem_iff_getElem?]
  exact ⟨i,by rw [List.getElem?_zip_eq_some];exact ⟨e1,e2⟩⟩
 have:=h.2 _ hm
 simp only [Bool.and_eq_true] at this
 exact ⟨by simpa using this.1,by simpa using this.2⟩
noncomputable def noT:HO→Bool
 | .dT _=>false
 | .frz _ u=>noT u
 | _=>true
noncomputable def NoT (H:Hp):Prop:=∀ b o,H b=some o→noT o=true
theorem Gd.back {P:Program} {w:World} {H H':Hp} {h h':Heap} {a:Addr}:∀ (o:HO),noT o=true→Gd P w H' h' a o→Gd P w H h a o→Gd P w H h' a o
 | .lst _,_,x,_=>x
 | .tup _,_,x,_=>x
 | .dK _,_,x,_=>x
 | .dT _,e,_,_=>absurd e (by unfold noT;decide)
 | .set _ _,_,x,_=>x
 | .ins _ _ _,_,x,y=>⟨y.1,x.2⟩
 | .own _,_,x,_=>x
 | .xd _,_,x,_=>x
 | .met _ _,_,x,_=>x
 | .rng _ _,_,x,_=>x
 | .frz ob u,e,x,y=>⟨x.1,Gd.back u (by unfold noT at e;exact e) x.2 y.2⟩
 | .tbl _,_,x,_=>x
 | .ext _,_,x,_=>x
section
variable {P:Program} {w:World} {K:PySem.W.Frag} {mg:Str→Option Value} {base:Heap}
theorem Eb.forget {k:Nat} {f:Addr} {fd:FuncData} {ps:List Str} {sp sp':Sp} (F:Eb P w K mg base CX0 k f fd ps sp)
  (h:∀ vs H Q E,sp' vs H Q E→NoT H∧sp vs H (fun v H'=>Xb H H'∧Q v H) E):Eb P w K mg base CX0 k f fd ps sp':=by
 refine ⟨fun vs H Q E q=>F.len vs H _ E (h vs H Q E q).2,fun A outer s H args us vs Q E hr he hb hv hs=>?_⟩
 obtain ⟨nt,q⟩:=h vs H Q E hs
 refine codeAny_mono (F.run A outer s H args us vs _ E hr he hb hv q) fun r s' hq=>?_
 cases r with
 | error e=>exact hq
 | ok fl=>
  cases fl with
  | next=>exact hq
  | brk=>exact hq
  | cont=>exact hq
  | ret u=>
   obtain ⟨v,H',os,bare,un,hok,rv,sm,q'⟩:=hq
   exact ⟨v,H,os,bare,⟨un.keep,un.slot,fun _ _ _ n _=>n,un.there,fun _ _ z=>z,fun _ _ _ z=>z,fun _ ps z=>⟨#[],by rw [z];simp⟩⟩,fun a o e=>(hok a o (sm a o e)).back o (nt a o e) (he.hok a o e),rv,q'⟩
end
theorem jb {H:Hp} {p:Addr} {o:HO} (h:H p=none):Xb H (upd H p o):=fun b u q=>by rw [lb (ub q h)];exact q
theorem Xb.updN {H H1:Hp} {p:Addr} {o:HO} (s:Xb H H1) (h:H p=none):Xb H (upd H1 p o):=fun b u q=>by rw [lb (ub q h)];exact s b u q
structure Sc (K:PySem.W.Frag) (a:Addr) (ns:List Int) (H:Hp):Prop where
 sq:(∃ o,H a=some (.frz o (.lst (ns.map V.int))))∨∃ (o:Obj) (its:Array Value) (n:Nat),K.lookup a=some o∧o.cls=.type "list" ∧ o.dict=none∧o.data=.seq its n∧its.size ≤ sizeLine∧kd (ns.map V.int) its.toList
 nt:NoT H
section
variable {K:PySem.W.Frag} {a p:Addr} {ns:List Int} {H H':Hp} {o:HO}
theorem Sc.seq (s:Sc K a ns H):SqL K H a (ns.map V.int):=by
 rcases s.sq with ⟨o,h⟩ | h
 ·exact .inl (.inr ⟨o,h⟩)
 ·exact .inr h
theorem Sc.new (s:Sc K a ns H) (hp:H p=none) (ho:noT o=true:=by rfl):Sc K a ns (upd H p o):=by
 refine ⟨?_,fun b u e=>?_⟩
 ·rcases s.sq with ⟨ob,h⟩ | h
  ·exact .inl ⟨ob,by rw [lb (ub h hp)];exact h⟩
  ·exact .inr h
 ·by_cases hb:b=p
  ·subst hb;rw [db] at e;cases e;exact ho
  ·rw [lb hb] at e;exact s.nt b u e
theorem Sc.set {u:HO} (s:Sc K a ns H) (hp:H p=some u) (hu:∀ ob z,u ≠ .frz ob z) (ho:noT o=true:=by rfl):Sc K a ns (upd H p o):=by
 refine ⟨?_,fun b x e=>?_⟩
 ·rcases s.sq with ⟨ob,h⟩ | h
  ·refine .inl ⟨ob,?_⟩
   have hne:a ≠ p:=fun z=>by subst z;rw [hp] at h;exact hu _ _ (Option.some.inj h)
   rw [lb hne];exact h
  ·exact .inr h
 ·by_cases hb:b=p
  ·subst hb;rw [db] at e;cases e;exact ho
  ·rw [lb hb] at e;exact s.nt b x e
theorem Sc.of_only (hO:dO H) (hS:SqL K H a (ns.map V.int)):Sc K a ns H:=by
 refine ⟨?_,fun b u e=>?_⟩
 ·rcases hS with (h | ⟨o,h⟩) | h
  ·rcases hO a with z | ⟨ob,xs,z⟩
   ·rw [h] at z;cases z
   ·rw [h] at z;cases z
  ·exact .inl ⟨o,h⟩
  ·exact .inr h
 ·rcases hO b with z | ⟨ob,xs,z⟩
  ·rw [e] at z;cases z
  ·rw [e] at z;cases z;rfl
end
noncomputable def JN (K:PySem.W.Frag):Sp:=fun vs H Q _=>∃ (a:Addr) (ns:List Int),vs=[.ref a]∧Sc K a ns H∧ns.length ≤ 63∧∀ H',Q (.bl true) H'
theorem Dd:bootBuiltins "len"=some (.builtin "len"):=PySem.boot_len
theorem NB:bootBuiltins "all"=some (.builtin "all"):=by decide +kernel
theorem lA:bootBuiltins "min"=some (.builtin "min"):=by decide +kernel
theorem Ot:bootBuiltins "max"=some (.builtin "max"):=by decide +kernel
theorem Wc:bootBuiltins "isinstance"=some (.builtin "isinstance"):=by decide +kernel
theorem Ht:bootBuiltins "int"=some (.type "int"):=by decide +kernel
theorem Vg:bootBuiltins "str"=some (.type "str"):=by decide +kernel
theorem vx:bootBuiltins "bool"=some (.type "bool"):=by decide +kernel
theorem oq:bootBuiltins "list"=some (.type "list"):=by decide +kernel
theorem Rd.same {H H':Hp} {a:Addr} {o:HO} (h:Rd H a o) (s:Xb H H'):Rd H' a o:=by
 rcases h with h | ⟨ob,h⟩
 ·exact .inl (s _ _ h)
 ·exact .inr ⟨ob,s _ _ h⟩
theorem SqL.same {K:PySem.W.Frag} {H H':Hp} {a:Addr} {xs:List V} (h:SqL K H a xs) (s:Xb H H'):SqL K H' a xs:=by
 rcases h with h | h
 ·exact .inl (h.same s)
 ·exact .inr h
theorem SqT.same {K:PySem.W.Frag} {H H':Hp} {a:Addr} {xs:List V} (h:SqT K H a xs) (s:Xb H H'):SqT K H' a xs:=by
 rcases h with h | h
 ·exact .inl (h.same s)
 ·exact .inr h
theorem NoT.upd {H:Hp} {p:Addr} {o:HO} (h:NoT H) (ho:noT o=true:=by rfl):NoT (upd H p o):=fun b u e=>by
 by_cases hb:b=p
 ·subst hb;rw [db] at e;cases e;exact ho
 ·rw [lb hb] at e;exact h b u e
theorem Sc.same {K:PySem.W.Frag} {a:Addr} {ns:List Int} {H H':Hp} (s:Sc K a ns H) (sm:Xb H H') (nt:NoT H'):Sc K a ns H':=by
 refine ⟨?_,nt⟩
 rcases s.sq with ⟨o,h⟩ | h
 ·exact .inl ⟨o,sm _ _ h⟩
 ·exact .inr h
end L2
namespace L2
open PySem PySem.Spec PyProof.Rows
structure AQ (K:PySem.W.Frag) (C:Addr) (m:Str) (f:Addr):Prop where
 rd:PySem.W.readsIn K C (.type "type")=true
 fd:PySem.W.findCls K (.ref C) (.type "type") m=some (.val (.ref f))
 ga:PySem.W.specialIn K (.ref C) "__getattribute__"=some (some (.builtin "type.__getattribute__"))
 kp:PySem.W.keepIn K (.ref f)=true
structure tH (P:Program) (w:World) (K:PySem.W.Frag) (mg:Str→Option Value) (base:Heap) (CX:CXT) (k:Nat) (OK:Addr→Prop) (m:Str) (ps:List Str) (SPV:Addr→Sp):Prop where
 ok:∀ C,OK C→∃ f fd,Cls K C∧Rt K C m f∧Eb P w K mg base CX k f fd ps (SPV C)∧Nb K fd ps []
noncomputable def IJ (OK:Addr→Prop) (m:Str) (SPV:Addr→Sp) (E:XK) (ta:TE) (t:TA):TE:=fun σ H Q=>ta σ H fun x H1=>∃ a C dx fs,x=.ref a∧H1 a=some (.ins C dx fs)∧OK C∧fs.lookup m=none ∧
 t σ H1 fun vs H2=>SPV C (x :: vs) H2 Q E
section
variable {X:Cx} {CX:CXT} {k:Nat} {f C:Addr} {fd:FuncData} {ps:List Str} {sp:Sp} {dvs:List V} {ds:List Value} {E:XK} {x m:Str} {p pos apos:Pos} {e o:Expr} {es:List Expr} {ta:TE} {t:TA}
theorem Ru {pl:Sem Bool} (hg:Gl X x) (hm:X.mg x=some (.ref C)) (c:AQ X.K C m f) (F:Eb X.prog X.w X.K X.mg X.base CX k f fd ps sp) (hr:Bi k X.A) (hb:Nb X.K fd ps ds) (hd:kd dvs ds) (hx:Hj CX X E) (ha:PA X (e :: es) t)
  (hdb:(x == ("__debug__" : Str))=false:=by decide) (hst:starEach (e :: es) X.env=(false,eval e X.env) :: starEach es X.env:=by rfl) (hpl:(backTo pos (starEach es X.env)).any (·.1)=false:=by rfl)
  (ht:eval (.Call (.Attribute (.Name x p) m apos) (e :: es) [] pos) X.env=(do
   let ov ← eval (.Name x p) X.env
   standAt apos.atName
   let (f,first) ← holding [ov] (getMethod ov m pl)
   callWith pos f first (backTo pos (starEach (e :: es) X.env)) (backToKw pos (keywordEach [] X.env))):=by rfl) :
  PE X (.Call (.Attribute (.Name x p) m apos) (e :: es) [] pos) (eG sp dvs E t):=by
 intro pins s σ H Q I h
 refine PySem.W.methodCall_KW (pl:=pl) (Zi I hg hm ?_ hdb) ht
 refine PySem.W.method_cls I.kIn c.ga (PySem.W.cls_value I.kIn c.rd c.fd rfl ?_)
 have I1:=I.tok (s.toks + 1)
 refine PySem.W.callWith_K (first:=[]) (h₀:=X.base) I.ok.mod.kin c.kp (thn (ha pos pins _ σ H _ I1 h) fun us s2 ⟨vs,H2,I2,r,q2⟩=>⟨I2.kIn,?_⟩) hst hpl
 exact Yv F hr hb hd hx I2 r q2
variable {OK:Addr→Prop} {SPV:Addr→Sp}
theorem Hm {pl:Sem Bool} (he:PE X o ta) (V:tH X.prog X.w X.K X.mg X.base CX k OK m ps SPV) (hr:Bi k X.A) (hx:Hj CX X E)
  (ht:eval (.Call (.Attribute o m apos) [] [] pos) X.env=(do
   let ov ← eval o X.env
   standAt apos.atName
   let (f,first) ← holding [ov] (getMethod ov m pl)
   callWith pos f first (backTo pos (starEach [] X.env)) (backToKw pos (keywordEach [] X.env))):=by rfl) :
  PE X (.Call (.Attribute o m apos) [] [] pos) (IJ OK m SPV E ta mP):=by
 intro pins s σ H Q I h
 refine PySem.W.methodCall_KW (pl:=pl) (thn (he pins s σ H _ I h) fun u s1 hZ1=>?_) ht
 obtain ⟨x,H1,I1,rx,a,C,dx,fs,ex,ea,ok,l,q⟩:=hZ1
 subst ex
 obtain rfl:u=Value.ref a:=rx
 obtain ⟨f,fd,c,hm,F,hb⟩:=V.ok C ok
 refine uo I1 ea c hm l ?_
 exact PySem.W.callWith_K0 (first:=[.ref a]) I1.kIn hm.kp (Yv (us:=[.ref a]) (vs:=[.ref a]) (dvs:=[]) F hr hb .nil hx I1 (.cons rfl .nil) q)
end
noncomputable abbrev SVs:=List (Str × V)
noncomputable def uO (kvs:SVs) (ty:TE):TE:=fun σ H Q=>ty σ H fun y H1=>∃ x v,y=.str x∧kvs.lookup x=some v∧Q v H1
section
variable {X:Cx} {x:Str} {p pos:Pos} {i:Expr} {ty:TE} {u:Value} {kvs:List (Str × V)}
end
noncomputable def xk (K:PySem.W.Frag) (H:Hp) (a:Addr) (f:Str) (v:V):Prop:=∃ C dx fs,H a=some (.ins C dx fs)∧Cls K C∧Db K C f∧fs.lookup f=some v
theorem ad {f:Str} {v:V}:∀ {fs:List (Str × V)} (ks:List Str),fs.map (·.1)=ks→ks.contains f=false→Qg f v fs=fs ++ [(f,v)]
 | [],_,_,_=>rfl
 | (g,y) :: r,ks,e,h=>by
  cases e
  rw [List.map_cons,List.contains_cons] at h
  have h1:=(Bool.or_eq_false_iff.mp h)
  have hne:¬ g=f:=fun z=>by
   have:=h1.1
   rw [z] at this
   simp at this
  show (if g=f then _ else _)=_
  rw [if_neg hne,ad _ rfl h1.2]
  rfl
theorem Jn {f:Str} {v:V} {fs:List (Str × V)} {n:Nat} (h:fs.length < n):(Qg f v fs).length < n + 1:=Nat.lt_of_le_of_lt (um f v fs) (by omega)
theorem Gc {f:Str} {v:V}:∀ {fs:List (Str × V)} (ks:List Str) (i:Nat),fs.map (·.1)=ks→ks.findIdx? (· == f)=some i→fs[i]? = some (f,v)→fs.lookup f=some v
 | [],_,_,_,_,h=>by simp at h
 | (g,y) :: r,ks,i,e,h,hv=>by
  cases e
  rw [List.map_cons,List.findIdx?_cons] at h
  rw [List.lookup]
  by_cases e:g=f
  ·subst e
   rw [beq_self_eq_true,if_pos rfl] at h
   cases h
   have:(g,y)=(g,v):=by simpa using hv
   cases this
   rw [beq_self_eq_true]
  ·rw [beq_eq_false_iff_ne.mpr e,if_neg (by decide)] at h
   obtain ⟨j,hj,rfl⟩:=Option.map_eq_some_iff.mp h
   rw [beq_eq_false_iff_ne.mpr (fun z=>e z.symm)]
   exact Gc _ j rfl hj (by simpa using hv)
theorem Fm {f:Str}:∀ {fs:List (Str × V)} (ks:List Str),fs.map (·.1)=ks→ks.contains f=false→fs.lookup f=none
 | [],_,_,_=>rfl
 | (g,y) :: r,ks,e,h=>by
  cases e
  rw [List.map_cons,List.contains_cons] at h
  have h1:=(Bool.or_eq_false_iff.mp h)
  rw [List.lookup,h1.1]
  exact Fm _ rfl h1.2
end L2
namespace L2
open PySem PySem.Spec PyProof.Rows
theorem Inv.turnedL {X:Cx} {pins:List (Addr × Obj)} {σ:St} {H:Hp} {s:Shared} {h':Heap} {t':Nat} {fp:List Addr} (I:Inv X pins σ H s) (k:∀ b o,b ∉ fp→s.heap.get? b=some o→h'.get? b=some o)
  (hf:∀ b ∈ fp,jw X pins H b):Inv X pins σ H { s with heap:=h',toks:=t' }:=by
 have nit:∀ b u,H b=some u→b ∉ fp:=fun b u e z=>by rw [(hf b z).1] at e;cases e
 refine I.step (g':=s.gens) (d':=s.drawn) (ch:=fp) (fun b hb=>?_) (fun b o _ _ hc e _=>k b o hc e) (fun b o _ _ hc e _=>⟨o.slots,k b o hc e⟩) (fun _ _ _ _ n=>n)
  (fun b o hc e=>⟨o,k b o hc e⟩) (fun _ _ e=>e) (fun _ _ _ e=>e) (fun b ps e=>⟨#[],by rw [e];simp⟩) (fun m hm=>?_) (fun b u e=>?_) I.bare
 ·obtain ⟨f0,f1,f2,f3,f4,f5⟩:=hf b hb
  exact ⟨f3,f1,f4,f5⟩
 ·obtain ⟨o,es,ep,ho,r⟩:=hm
  exact ⟨o,es,ep,k _ o (fun z=>(hf _ z).2.1 rfl) ho,r⟩
 ·refine (I.hok b u e).stay (fun c v hc q=>k c v ?_ q) (fun _ q=>q) fun _ _ q=>q
  rcases hc with z | z
  ·rw [z];exact nit b u e
  ·exact nit c _ z
noncomputable def Ite (K:PySem.W.Frag) (a:Addr):It:=
 ⟨fun i H=>∃ xs x,SqL K H a xs∧xs[i]? = some x,fun i H v H'=>∃ p y,H p=none∧v=.ref p∧(∀ xs,SqL K H a xs→xs[i]? = some y)∧H'=upd H p (.tup [.int i,y]),fun i H=>∃ xs,SqL K H a xs∧xs.length ≤ i⟩
theorem vE {P:Program} {w:World} {K:PySem.W.Frag} {es:List Expr} {k} {pos:Pos} (a e it:Addr) (hne:e ≠ it) :
  zJ P w K (.Tuple es k pos) (Ite K a) [e,it] e (fun i h=>∃ old,IsEnum h e it ((i:Nat):Int) old∧h.IsListIter it a i) where
 mem:=by simp
 obj:=fun i h ⟨old,he,hi⟩ b hb=>by
  simp only [List.mem_cons,List.not_mem_nil,or_false] at hb
  rcases hb with rfl | rfl
  ·exact ⟨_,he,fun v z=>by
    have z':Data.fields _=Data.cell v:=z
    cases z'⟩
  ·obtain ⟨o,q,c,d⟩:=hi
   exact ⟨o,q,fun v z=>by rw [d] at z;cases z⟩
 keep:=fun i h h' ⟨old,he,hi⟩ k=>⟨old,k e (by simp) _ he,hi.at fun o q=>k it (by simp) o q⟩
 item:=by
  intro X hP hw hK hc i pins s σ H E I hf ⟨old,he,hi⟩ hg
  subst hP hw hK
  obtain ⟨xs,x,hq,hx⟩:=hg
  obtain ⟨its,rv,p,hz⟩:=I.list hq
  obtain ⟨u,hu,ru⟩:=rv.get hx
  refine wpAny_pyNext_enum_item he hi p.isList (x:=u) (by simpa using hu) hne fun h1 he1 hi1 ht1 hz1 hk1=>⟨_,rfl,?_⟩
  refine wpAny_letOwnedTupleGo_enum he1 fun h2 he2 hs2=>?_
  replace hs2:Heap.SameBut e h1 h2:=hs2
  have hel:e < s.heap.objs.size:=Heap.lt_size he
  have hk:∀ b o,b ∉ [e,it]→s.heap.get? b=some o→h2.get? b=some o:=fun b o hb q=>by
   simp only [List.mem_cons,List.not_mem_nil,or_false,not_or] at hb
   exact hs2.extBut _ _ hb.1 (hk1 b o hb.1 hb.2 q)
  have I1:Inv X pins σ H { s with heap:=h2,toks:=s.toks + 1 }:=I.turnedL hk hf
  have fo:jw X pins H s.heap.objs.size:=I.fpOk (Nat.le_refl _) (I.hok.fresh (Nat.le_refl _))
  have ht2:h2.get? s.heap.objs.size=some { cls:=.type "tuple",data:=.seq #[.int i s.toks,u] }:=(hs2.2 _ (Nat.ne_of_gt hel)).trans ht1
  have I2:=I1.adopt (o:=.tup [.int i,x]) fo ⟨by show 2 ≤ sizeLine;decide,[.int i s.toks,u],.cons ⟨_,rfl⟩ (.cons ru .nil),⟨_,ht2,rfl,_,rfl⟩⟩
  refine ⟨.ref s.heap.objs.size,_,I2,rfl,⟨_,x,fo.1,rfl,fun ys hy=>by rw [I.list_inj hy hq];exact hx,rfl⟩,⟨u,?_,?_⟩,fun b hb=>?_⟩
  ·have e1:((i + 1:Nat):Int)=(i:Int) + 1:=by omega
   rw [e1];exact he2
  ·exact hi1.extBut hs2.extBut (Ne.symm hne)
  ·have hlt:b < s.heap.objs.size:=by
    simp only [List.mem_cons,List.not_mem_nil,or_false] at hb
    rcases hb with rfl | rfl
    ·exact hel
    ·obtain ⟨o,q,_⟩:=hi
     exact Heap.lt_size q
   rw [lb (Nat.ne_of_lt hlt)];exact (hf b hb).1
 done:=by
  intro X hP hw hK hc i pins s σ H E I hf ⟨old,he,hi⟩ hg
  subst hP hw hK
  obtain ⟨xs,hq,hx⟩:=hg
  obtain ⟨its,rv,p,hz⟩:=I.list hq
  have hl:=rv.length
  exact wpAny_pyNext_enum_end (I.ok.hd hc) he hi p.isList (by simp;omega) fun h' eb=>⟨rfl,I.turnedL (t':=s.toks) (fun b o hb q=>eb b o (fun z=>hb (by simp [z])) q) hf⟩
 self:=fun _ _ _ _ _ ⟨_,he,_⟩ h=>wpAny_pyIter_enum he h
theorem Hs:bootBuiltins "enumerate"=some (.type "enumerate"):=by decide +kernel
theorem qu:bootBuiltins "reversed"=some (.type "reversed"):=by decide +kernel
noncomputable def Itz (K:PySem.W.Frag) (a b:Addr):It:=
  ⟨fun i H=>∃ xs ys x y,SqL K H a xs∧SqL K H b ys∧xs[i]? = some x∧ys[i]? = some y,
   fun i H v H'=>∃ p x y,H p=none∧v=.ref p∧(∀ xs,SqL K H a xs→xs[i]? = some x)∧(∀ ys,SqL K H b ys→ys[i]? = some y)∧H'=upd H p (.tup [x,y]),
   fun i H=>∃ xs ys,SqL K H a xs∧SqL K H b ys∧(xs.length ≤ i∨ys.length ≤ i)⟩
noncomputable def Itv (K:PySem.W.Frag) (a:Addr) (n:Nat):It:=
 ⟨fun i H=>i < n∧∃ xs,SqL K H a xs∧xs.length=n,fun i H x H'=>H'=H∧∀ xs,SqL K H a xs→xs[n - 1 - i]? = some x,fun i _=>n ≤ i⟩
section
variable {X:Cx}
noncomputable def dN (K:PySem.W.Frag) (ta:TA):TI:=fun σ H R=>ta σ H fun vs H1=>∃ a,vs=[.ref a]∧(∃ xs,SqL K H1 a xs)∧R (Ite K a) H1
theorem jq {es:List Expr} {k} {tpos:Pos} {a:Expr} {ta:TA} {p pos:Pos} (hg:Gl X "enumerate") (hm:X.mg "enumerate"=none) (ha:PA X [a] ta) (hs:starEach [a] X.env=[(false,eval a X.env)]:=by rfl) :
  PI X (.Tuple es k tpos) (.Call (.Name "enumerate" p) [a] [] pos) (dN X.K ta):=by
 intro pins s σ H R I h
 refine Call_ (Km I hg hm Hs (PyProof.Rows.callWith_type1 (thn (ha pos pins s σ H _ I h) fun us s1 hZ1=>?_) hs rfl))
 obtain ⟨vs,H1,I1,r1,q1⟩:=hZ1
 obtain ⟨a,e,⟨xs,hq⟩,q⟩:=q1
 subst e
 cases r1 with
 | cons r rr=>
  cases rr
  cases r
  obtain ⟨its,rv,pl,hz⟩:=I1.list hq
  refine call_enumerate_list pl.isList fun h' hE hI hsz hk=>wpAny_pyIter_enum hE ?_
  refine ⟨s1.heap.objs.size + 1,[s1.heap.objs.size + 1,s1.heap.objs.size],_,_,H1,rfl,I1.kept (t':=s1.toks) hk,vE a _ _ (Nat.succ_ne_self _),⟨_,hE,hI⟩,fun b hb=>?_,q⟩
  have hb':s1.heap.objs.size ≤ b:=by
   simp only [List.mem_cons,List.not_mem_nil,or_false] at hb
   rcases hb with rfl | rfl
   ·exact Nat.le_succ _
   ·exact Nat.le_refl _
  exact I1.fpOk hb' (I1.hok.fresh hb')
noncomputable def ZQ (K:PySem.W.Frag) (ta:TA):TI:=fun σ H R=>ta σ H fun vs H1=>∃ a b,vs=[.ref a,.ref b]∧(∃ xs,SqL K H1 a xs)∧(∃ ys,SqL K H1 b ys)∧R (Itz K a b) H1
noncomputable def VQ (K:PySem.W.Frag) (ta:TA):TI:=fun σ H R=>ta σ H fun vs H1=>∃ a xs,vs=[.ref a]∧SqL K H1 a xs∧R (Itv K a xs.length) H1
end
theorem Hf {X:Cx} {es:List Expr} {k:Nat} {pos:Pos} {t:TGs} {n:Nat} {K:PySem.W.Frag} (hK:X.K=K) (hc:X.calm=true) (h:PGs X es t)
  (hn:(assignEach es X.env).length=n:=by rfl) (hst:(assignEach es X.env).findIdx? (·.1)=none:=by rfl):PG X (.Tuple es k pos) (tN K n t):=by
 subst hK
 exact qN hc h hn hst
section
variable {X:Cx}
noncomputable def IK:V→List V→Hp→VK→Prop:=fun x vs H Q=>∃ l xs i y,x=.ref l∧vs=[.int i,y]∧H l=some (.lst xs)∧0 ≤ i∧i < 2 ^ 62∧i ≤ (xs.length:Int)∧xs.length < sizeLine∧Q .non (upd H l (.lst (xs.take i.toNat ++ y :: xs.drop i.toNat)))
theorem Mv {P:Nat→Value→Prop} {f:Nat→V} (hP:∀ i v,P i v→Md (f i) v):∀ (l:List Value) (k:Nat),(∀ j v,l[j]? = some v→P (k + j) v)→kd ((List.range l.length).map fun i=>f (k + i)) l
 | [],_,_=>.nil
 | v :: r,k,h=>by
  rw [List.length_cons,List.range_succ_eq_map,List.map_cons,List.map_map]
  refine .cons (hP _ _ (h 0 v rfl)) ?_
  have:=Mv hP r (k + 1) fun j w hj=>by
   have:=h (j + 1) w (by simpa using hj)
   rwa [show k + 1 + j=k + (j + 1) by omega]
  have e:(fun i=>f (k + 1 + i))=((fun i=>f (k + i)) ∘ Nat.succ):=funext fun i=>by
   show f (k + 1 + i)=f (k + (i + 1))
   rw [show k + 1 + i=k + (i + 1) by omega]
  rwa [e] at this
theorem dB {P:Nat→Value→Prop} {f:Nat→V} (hP:∀ i v,P i v→Md (f i) v) {acc:Array Value} {n:Nat} (h:ItemsOf P acc n):kd ((List.range n).map f) acc.toList:=by
 have:=Mv hP acc.toList 0 fun j v hj=>by
  rw [Nat.zero_add]
  exact h.2 j v (by rw [← Array.getElem?_toList];exact hj)
 rw [show acc.toList.length=n by rw [Array.length_toList];exact h.1] at this
 simpa using this
end
end L2
namespace L2
open PySem PySem.Spec PyProof.Rows
inductive EqH (K:PySem.W.Frag) (H:Hp):Nat→V→V→Bool→Prop
 | flat {k:Nat} {x y:V} (hx:tm x=true) (hy:tm y=true):EqH K H k x y (eqV x y)
 | lst {k:Nat} {p q:Addr} {xs ys:List V} {e:Nat→Bool} (hp:SqL K H p xs) (hq:SqL K H q ys) (hl:xs.length=ys.length) (he:∀ (j:Nat) (x y:V),xs[j]? = some x→ys[j]? = some y→EqH K H k x y (e j)):EqH K H (k + 1) (.ref p) (.ref q) ((List.range xs.length).all e)
 | lstN {k:Nat} {p q:Addr} {xs ys:List V} (hp:SqL K H p xs) (hq:SqL K H q ys) (hl:xs.length ≠ ys.length):EqH K H (k + 1) (.ref p) (.ref q) false
 | tup {k:Nat} {p q:Addr} {xs ys:List V} {e:Nat→Bool} (hp:SqT K H p xs) (hq:SqT K H q ys) (he:∀ (j:Nat) (x y:V),xs[j]? = some x→ys[j]? = some y→EqH K H k x y (e j)):EqH K H (k + 1) (.ref p) (.ref q) ((List.range (min xs.length ys.length)).all e && xs.length == ys.length)
theorem xH {x:V} (h:tm x=true):eqV x x=true:=by
 cases x <;> first | rfl | (simp [eqV];done) | cases h
theorem fu {n:Nat} {e:Nat→Bool} (h:∀ j,j < n→e j=true):(List.range n).all e=true:=by
 rw [List.all_eq_true]
 exact fun j hj=>h j (List.mem_range.mp hj)
section
variable {X:Cx} {pins:List (Addr × Obj)} {σ:St} {H:Hp} {s:Shared}
theorem EqH.self (I:Inv X pins σ H s) {k:Nat} {x y:V} {b:Bool} (h:EqH X.K H k x y b) (e:x=y):b=true:=by
 induction h with
 | flat hx hy=>subst e;exact xH hx
 | @lst k p q xs ys f hp hq hl he ih=>
  injection e with e
  subst e
  have:=I.list_inj hp hq
  subst this
  refine fu fun j hj=>?_
  exact ih j xs[j] xs[j] (List.getElem?_eq_getElem hj) (List.getElem?_eq_getElem hj) rfl
 | lstN hp hq hl=>
  injection e with e
  subst e
  have:=I.list_inj hp hq
  subst this
  exact absurd rfl hl
 | @tup k p q xs ys f hp hq he ih=>
  injection e with e
  subst e
  have:=I.tuple_inj hp hq
  subst this
  rw [Bool.and_eq_true]
  refine ⟨fu fun j hj=>?_,by simp⟩
  have hj':j < xs.length:=by omega
  exact ih j xs[j] xs[j] (List.getElem?_eq_getElem hj') (List.getElem?_eq_getElem hj') rfl
theorem Zj (A:Around):A.in1.units=A.units + 1:=rfl
theorem Au (I:Inv X pins σ H s) {k:Nat} {x y:V} {b:Bool} (h:EqH X.K H k x y b):∀ (A:Around) (v u:Value),A.units + k < cLine→Md x v→Md y u →
  SeqAt.EqAt A s v u b∧(∀ p q,x=.ref p→y=.ref q→SeqAt.RcAt A s v u b):=by
 induction h with
 | flat hx hy=>
  intro A v u hu rx ry
  refine ⟨gJ rx ry hx hy,fun p q e _=>?_⟩
  subst e
  cases hx
 | @lst k p q xs ys f hp hq hl he ih=>
  intro A v u hu rx ry
  cases rx
  cases ry
  obtain ⟨its,r,pl,hz⟩:=I.list hp
  obtain ⟨jts,r',pl',hz'⟩:=I.list hq
  have l1:=r.length
  have l2:=r'.length
  have rc:SeqAt.RcAt A s (.ref p) (.ref q) ((List.range xs.length).all f):=by
   have:=SeqAt.RcAt.lists (A:=A) (e:=f) pl.isList pl'.isList (by simp only [List.size_toArray];omega) (by omega) fun j h1 h2=>by
    simp only [List.size_toArray] at h1 h2
    have hj:j < xs.length:=by omega
    have hj':j < ys.length:=by omega
    obtain ⟨a,ha,ra⟩:=r.get (List.getElem?_eq_getElem hj)
    obtain ⟨c,hc,rc⟩:=r'.get (List.getElem?_eq_getElem hj')
    have ea:its.toArray[j]=a:=by
     have:=List.getElem?_eq_getElem h1
     rw [ha] at this
     simpa using (Option.some.inj this).symm
    have ec:jts.toArray[j]=c:=by
     have:=List.getElem?_eq_getElem h2
     rw [hc] at this
     simpa using (Option.some.inj this).symm
    rw [ea,ec]
    exact (ih j _ _ (List.getElem?_eq_getElem hj) (List.getElem?_eq_getElem hj') A.in1 a c (by rw [Zj];omega) ra rc).1
   rwa [List.size_toArray,← l1] at this
  refine ⟨?_,fun _ _ _ _=>rc⟩
  by_cases hne:p=q
  ·have hb:=(EqH.lst hp hq hl he).self I (congrArg V.ref hne)
   rw [hb,hne]
   exact SeqAt.EqAt.same _
  ·exact SeqAt.EqAt.of_refs hne rc
 | @lstN k p q xs ys hp hq hl=>
  intro A v u hu rx ry
  cases rx
  cases ry
  obtain ⟨its,r,pl,hz⟩:=I.list hp
  obtain ⟨jts,r',pl',hz'⟩:=I.list hq
  have l1:=r.length
  have l2:=r'.length
  have rc:SeqAt.RcAt A s (.ref p) (.ref q) false:=SeqAt.RcAt.lists_lengths pl.isList pl'.isList (by simp only [List.size_toArray,bne_iff_ne,ne_eq];omega) (by omega)
  refine ⟨SeqAt.EqAt.of_refs (fun e=>hl ?_) rc,fun _ _ _ _=>rc⟩
  subst e
  rw [I.list_inj hp hq]
 | @tup k p q xs ys f hp hq he ih=>
  intro A v u hu rx ry
  cases rx
  cases ry
  obtain ⟨its,r,pl,hz⟩:=I.tuple hp
  obtain ⟨jts,r',pl',hz'⟩:=I.tuple hq
  have l1:=r.length
  have l2:=r'.length
  have rc:SeqAt.RcAt A s (.ref p) (.ref q) ((List.range (min xs.length ys.length)).all f && xs.length == ys.length):=by
   have:=SeqAt.RcAt.tuples (A:=A) (e:=f) pl pl' (by omega) fun j h1 h2=>by
    simp only [List.size_toArray] at h1 h2
    have hj:j < xs.length:=by omega
    have hj':j < ys.length:=by omega
    obtain ⟨a,ha,ra⟩:=r.get (List.getElem?_eq_getElem hj)
    obtain ⟨c,hc,rc⟩:=r'.get (List.getElem?_eq_getElem hj')
    have ea:its.toArray[j]=a:=by
     have:=List.getElem?_eq_getElem h1
     rw [ha] at this
     simpa using (Option.some.inj this).symm
    have ec:jts.toArray[j]=c:=by
     have:=List.getElem?_eq_getElem h2
     rw [hc] at this
     simpa using (Option.some.inj this).symm
    rw [ea,ec]
    exact (ih j _ _ (List.getElem?_eq_getElem hj) (List.getElem?_eq_getElem hj') A.in1 a c (by rw [Zj];omega) ra rc).1
   rwa [List.size_toArray,List.size_toArray,← l1,← l2] at this
  refine ⟨?_,fun _ _ _ _=>rc⟩
  by_cases hne:p=q
  ·have hb:=(EqH.tup hp hq he).self I (congrArg V.ref hne)
   rw [hb,hne]
   exact SeqAt.EqAt.same _
  ·exact SeqAt.EqAt.of_refs hne rc
end
section
variable {X:Cx} {pins:List (Addr × Obj)} {σ:St} {H:Hp} {s:Shared}
theorem Nv (I:Inv X pins σ H s) {k:Nat} {A:Around} {xs ys:List V} {its jts:List Value} {f:Nat→Bool} (hu:A.units + k < cLine) (r:kd xs its) (r':kd ys jts)
  (he:∀ (j:Nat) (x y:V),xs[j]? = some x→ys[j]? = some y→EqH X.K H k x y (f j)):∀ j (h1:j < its.toArray.size) (h2:j < jts.toArray.size),SeqAt.EqAt A s its.toArray[j] jts.toArray[j] (f j):=fun j h1 h2=>by
 simp only [List.size_toArray] at h1 h2
 have l1:=r.length
 have l2:=r'.length
 have hj:j < xs.length:=by omega
 have hj':j < ys.length:=by omega
 obtain ⟨a,ha,ra⟩:=r.get (List.getElem?_eq_getElem hj)
 obtain ⟨c,hc,rc⟩:=r'.get (List.getElem?_eq_getElem hj')
 have ea:its.toArray[j]=a:=by
  have:=List.getElem?_eq_getElem h1
  rw [ha] at this
  simpa using (Option.some.inj this).symm
 have ec:jts.toArray[j]=c:=by
  have:=List.getElem?_eq_getElem h2
  rw [hc] at this
  simpa using (Option.some.inj this).symm
 rw [ea,ec]
 exact (Au I (he j _ _ (List.getElem?_eq_getElem hj) (List.getElem?_eq_getElem hj')) A a c hu ra rc).1
theorem xN (I:Inv X pins σ H s) {k:Nat} {p q:Addr} {b:Bool} (h:EqH X.K H k (.ref p) (.ref q) b) (A:Around) (hu:A.units + k < cLine):SeqAt.RcNeAt A s (.ref p) (.ref q) (!b):=by
 cases h with
 | flat hx hy=>cases hx
 | @lst k _ _ xs ys f hp hq hl he=>
  obtain ⟨its,r,pl,hz⟩:=I.list hp
  obtain ⟨jts,r',pl',hz'⟩:=I.list hq
  have l1:=r.length
  have l2:=r'.length
  have:=SeqAt.RcNeAt.lists (A:=A) (e:=f) pl.isList pl'.isList (by simp only [List.size_toArray];omega) (by omega) (Nv I (A:=A.in1) (k:=k) (by rw [Zj];omega) r r' he)
  rwa [List.size_toArray,← l1] at this
 | @lstN k _ _ xs ys hp hq hl=>
  obtain ⟨its,r,pl,hz⟩:=I.list hp
  obtain ⟨jts,r',pl',hz'⟩:=I.list hq
  have l1:=r.length
  have l2:=r'.length
  exact SeqAt.RcNeAt.lists_lengths pl.isList pl'.isList (by simp only [List.size_toArray,bne_iff_ne,ne_eq];omega) (by omega)
 | @tup k _ _ xs ys f hp hq he=>
  obtain ⟨its,r,pl,hz⟩:=I.tuple hp
  obtain ⟨jts,r',pl',hz'⟩:=I.tuple hq
  have l1:=r.length
  have l2:=r'.length
  have:=SeqAt.RcNeAt.tuples (A:=A) (e:=f) pl pl' (by omega) (Nv I (A:=A.in1) (k:=k) (by rw [Zj];omega) r r' he)
  rwa [List.size_toArray,List.size_toArray,← l1,← l2] at this
end
section
variable {X:Cx}
noncomputable def uQ (K:PySem.W.Frag):R2:=fun x y H Q=>∃ p q b,x=.ref p∧y=.ref q∧EqH K H 8 (.ref p) (.ref q) b∧Q (.bl (!b)) H
theorem ZI (hU:X.A.units + 64 < cLine):OpR X (compareOp .NotEq) (uQ X.K):=by
 intro pins s σ H x y v u Q I rx ry h
 obtain ⟨p,q,b,rfl,rfl,hE,q'⟩:=h
 cases rx
 cases ry
 exact xN I hE X.A (by omega) _ _ _ _ ⟨.bl (!b),H,I,rfl,q'⟩
noncomputable def KQ (K:PySem.W.Frag):R2:=fun x y H Q=>∃ p q b,x=.ref p∧y=.ref q∧EqH K H 8 (.ref p) (.ref q) b∧Q (.bl b) H
theorem yN (hU:X.A.units + 64 < cLine):OpR X (compareOp .Eq) (KQ X.K):=by
 intro pins s σ H x y v u Q I rx ry h
 obtain ⟨p,q,b,rfl,rfl,hE,q'⟩:=h
 exact (Au I hE X.A v u (by omega) rx ry).2 p q rfl rfl _ _ _ _ ⟨.bl b,H,I,rfl,q'⟩
end
theorem EqH.mono {K:PySem.W.Frag} {H:Hp} {j k:Nat} {x y:V} {b:Bool} (h:EqH K H j x y b):j ≤ k→EqH K H k x y b:=by
 induction h generalizing k with
 | flat hx hy=>exact fun _=>.flat hx hy
 | lst hp hq hl he ih=>
  intro hk
  obtain ⟨m,rfl⟩:∃ m,k=m + 1:=⟨k - 1,by omega⟩
  exact .lst hp hq hl fun j x y h1 h2=>ih j x y h1 h2 (by omega)
 | lstN hp hq hl=>
  intro hk
  obtain ⟨m,rfl⟩:∃ m,k=m + 1:=⟨k - 1,by omega⟩
  exact .lstN hp hq hl
 | tup hp hq he ih=>
  intro hk
  obtain ⟨m,rfl⟩:∃ m,k=m + 1:=⟨k - 1,by omega⟩
  exact .tup hp hq fun j x y h1 h2=>ih j x y h1 h2 (by omega)
end L2
namespace L2
open PySem PySem.Spec PyProof.Rows PySem.Builtin PySem.Builtin.ObjectAttr
theorem tJ {H:Hp} {a:Addr} {o:HO} (h:H a=some o):upd H a o=H:=by
 funext b
 unfold upd
 by_cases e:b=a
 ·rw [if_pos e,e,h]
 ·rw [if_neg e]
noncomputable abbrev bmV:List Value:=[.type "ValueError",.type "Exception",.type "BaseException",.type "object"]
noncomputable def iu (K:PySem.W.Frag) (C fI:Addr):Bool:=
 match K.lookup C with
 | some ⟨.type "type",_,.cls cd,sl⟩=>
  match cd.mro,sl.toList with
  | .ref D :: tl,[_,_,_,_,some (.builtin n),_]=>
   (D == C) && (n == "ValueError.__new__") && (cd.hasDel == false) && (cd.hasDict == true) && PySem.W.tailIn K bmV tl && PySem.W.nsOkIn K cd.ns && (PySem.W.nsIn K cd.ns "__init__" == some (some (.ref fI)))
  | _,_=>false
 | _=>false
theorem iM {K:PySem.W.Frag} {h:Heap} {N:Addr} {mN:Str→Option Value} {x:Str} {v:Value} (KX:K.In h) (G:h.Ns N mN) (e:PySem.W.nsIn K N x=some (some v)):mN x=some v:=by
 obtain ⟨ob,rows,ep,e1,e2,_,look⟩:=G
 unfold PySem.W.nsIn at e
 split at e
 ·rename_i ho
  have z:=KX _ _ ho
  rw [e1] at z
  cases z
  cases e2
  split at e
  ·rename_i en he
   cases e
   rw [← look]
   unfold nsFind findBy
   rw [← Array.find?_toList,he];rfl
  ·split at e <;> cases e
 ·cases e
theorem ou {K:PySem.W.Frag} {h:Heap} {C fI:Addr} (KX:K.In h) (e:iu K C fI=true) :
  ∃ tl N nm q bs sn sub ab co dd k0 k1 k2 k3 k5 mN,h.get? C=some (excClassObj nm q C N bs tl true sn sub ab co dd k0 k1 k2 k3 k5 "ValueError.__new__")∧h.Ns N mN∧mN "__init__"=some (.ref fI)∧OwnTail h bmV tl:=by
 unfold iu at e
 split at e
 ·rename_i dd cd sl ho
  split at e
  ·rename_i D tl k0 k1 k2 k3 n k5 hm hs
   simp only [Bool.and_eq_true,beq_iff_eq] at e
   obtain ⟨⟨⟨⟨⟨⟨e1,e2⟩,e3⟩,e4⟩,e5⟩,e6⟩,e7⟩:=e
   obtain ⟨nm,bs,mro,ns,qn,hd,sn,sub,ab,co,del⟩:=cd
   simp only at hm e3 e4 e6 e7
   subst hm e1 e2 e3 e4
   obtain ⟨l⟩:=sl
   simp only at hs
   subst hs
   have G:h.Ns ns (h.nsMap ns):=.of_isNs (PySem.W.isNs_of_in KX e6)
   exact ⟨tl,ns,nm,qn,bs,sn,sub,ab,co,dd,k0,k1,k2,k3,k5,h.nsMap ns,KX _ _ ho,G,iM KX G e7,PySem.W.tail_of_in KX e5⟩
  ·cases e
 ·cases e
section
variable {P:Program} {w:World} {A:Around} {h:Heap} {g:Array GenState} {d:Drawn} {t:Nat} {os:OsState} {K:PySem.W.Frag} {C fI:Addr} {R:Result→Shared→Prop}
theorem tF {us:List Value} (KX:K.In h) (e:iu K C fI=true) (hf:PySem.W.typeIn K (.ref fI)=some (.type "function")) (hz:us.length ≤ sizeLine)
  (hq:∀ h' x,h.objs.size ≤ x→Heap.MadeExcOf h h' x (.ref C) us→codeAny (model P w) (A.under (.builtin "type.__call__" ⟨.ref C :: us,[]⟩)) (.call (.ref fI) ⟨.ref x :: us,[]⟩) (PySem.W.InitBack x R) ⟨h',g,d,t,os⟩) :
  codeAny (model P w) A (.call (.ref C) ⟨us,[]⟩) R ⟨h,g,d,t,os⟩:=by
 obtain ⟨tl,N,nm,q,bs,sn,sub,ab,co,dd,k0,k1,k2,k3,k5,mN,hC,hN,hi,T⟩:=ou KX e
 have F:=PySem.F.excBase_ValueError
 have f1:=tc_lookup
 have f2:=tc_bind (.ref C)
 have ty:(⟨h,g,d,t,os⟩:Shared).TypeIs (.ref C) "type" := ⟨_,hC,rfl⟩
 refine codeAny_of_tree ?_
 show wpAny _ _ (callAny (.ref C) _) _ _ _
 repeat (any_goals (first | assumption | with_reducible refine wpAny_loadPart_at hC ?_ | wp_step))
 refine ⟨rfl,?_⟩
 refine codeAny_call_builtin_at (Code.quiet_builtin _ (by decide +kernel)) entry_typeCall (wpAny_check_type_call_sub hC ?_)
 repeat (first | with_reducible refine wpAny_loadPart_at hC ?_ | with_reducible refine wpAny_madeBy_exc hC ?_ | wp_step)
 refine codeAny_call_builtin_code (Code.quiet_builtin _ F.quiet) (wpAny_check_new_subT F T hC ?_)
 refine codeAny_exc_new_subT (rest:=us) F T hC ?_ hz
 show wpAny _ _ _ _ _ _
 generalize hh:(h.push { cls:=.type "tuple",data:=.seq us.toArray }).push { cls:=.ref C,data:=.fields #[.ref h.objs.size,.none,.none,.none,.bool false,.none] }=h2
 have k:∀ b o,h.get? b=some o→h2.get? b=some o:=fun b o z=>by rw [← hh];exact Heap.get?_push_of_some _ (Heap.get?_push_of_some _ z)
 have hx:h2.get? (h.objs.size + 1)=some { cls:=.ref C,data:=.fields #[.ref h.objs.size,.none,.none,.none,.bool false,.none] }:=by rw [← hh];heap_get
 have ht:h2.get? h.objs.size=some { cls:=.type "tuple",data:=.seq us.toArray }:=by rw [← hh];exact Heap.get?_push_of_some _ (Heap.get?_push_at rfl rfl)
 have M:Heap.MadeExcOf h h2 (h.objs.size + 1) (.ref C) us:=⟨k,Heap.get?_none_of_le (Nat.le_succ _),h.objs.size,hx,Heap.get?_none_of_le (Nat.le_refl _),ht⟩
 have cC:(Value.ref C :: tl).contains (.ref C)=true:=by simp
 unfold isInstance
 repeat (first | with_reducible refine wpAny_loadPart_at hx ?_ | wp_step)
 refine wpAny_isSubtype_exc (k _ _ hC) ?_
 rw [cC]
 repeat wp_step
 show wpAny _ _ (typeLookup (.ref C) _) _ _ _
 refine wpAny_typeLookup_tail (k _ _ hC) (hN.keeps k) (T.keeps k) F.mroIs F.init.lookup ?_
 rw [hi]
 refine wpAny_holding (wpAny_bind ((PySem.W.bind_fn (KX.keeps k) _ hf).here (wpAny_bind (wpAny_call ?_))))
 refine codeAny_mono (hq h2 _ (Nat.le_succ _) M) fun r s' z=>?_
 rcases r with e | (v | _ | _ | _) <;> first | exact z | exact z.elim | skip
 obtain ⟨rfl,z⟩:=z
 exact wpAny_pure (wpAny_pure z)
end
noncomputable def yD:List Value→Bool
 | .ref _ :: r=>yD r
 | l=>l == bmV
theorem Vj (self:Value):refuseLoop self "__setattr__" bmV=pure ():=by kernel_rfl
theorem No (self:Value):∀ {l:List Value},yD l=true→refuseLoop self "__setattr__" l=pure ()
 | .ref c :: r,e=>by rw [refuseLoop_ref];exact No self (l:=r) e
 | [],e=>by cases e
 | .type n :: r,e=>by rw [show Value.type n :: r=bmV from beq_iff_eq.mp e];exact Vj self
 | .none :: r,e=>by rw [show Value.none :: r=bmV from beq_iff_eq.mp e];exact Vj self
 | .bool b :: r,e=>by rw [show Value.bool b :: r=bmV from beq_iff_eq.mp e];exact Vj self
 | .int b c :: r,e=>by rw [show Value.int b c :: r=bmV from beq_iff_eq.mp e];exact Vj self
 | .str b c :: r,e=>by rw [show Value.str b c :: r=bmV from beq_iff_eq.mp e];exact Vj self
 | .bytes b c :: r,e=>by rw [show Value.bytes b c :: r=bmV from beq_iff_eq.mp e];exact Vj self
 | .float b c :: r,e=>by rw [show Value.float b c :: r=bmV from beq_iff_eq.mp e];exact Vj self
 | .builtin b :: r,e=>by rw [show Value.builtin b :: r=bmV from beq_iff_eq.mp e];exact Vj self
theorem gn (T:String) (h:bmV.contains (.type T)=true):∀ {l:List Value},yD l=true→l.contains (.type T)=true
 | .ref c :: r,e=>by rw [List.contains_cons,gn T h (l:=r) e,Bool.or_true]
 | [],e=>by cases e
 | .type n :: r,e=>by rw [show Value.type n :: r=bmV from beq_iff_eq.mp e];exact h
 | .none :: r,e=>by rw [show Value.none :: r=bmV from beq_iff_eq.mp e];exact h
 | .bool b :: r,e=>by rw [show Value.bool b :: r=bmV from beq_iff_eq.mp e];exact h
 | .int b c :: r,e=>by rw [show Value.int b c :: r=bmV from beq_iff_eq.mp e];exact h
 | .str b c :: r,e=>by rw [show Value.str b c :: r=bmV from beq_iff_eq.mp e];exact h
 | .bytes b c :: r,e=>by rw [show Value.bytes b c :: r=bmV from beq_iff_eq.mp e];exact h
 | .float b c :: r,e=>by rw [show Value.float b c :: r=bmV from beq_iff_eq.mp e];exact h
 | .builtin b :: r,e=>by rw [show Value.builtin b :: r=bmV from beq_iff_eq.mp e];exact h
structure Qr (K:PySem.W.Frag) (C:Addr):Prop where
 hd:PySem.W.hasDictIn K C=true
 ov:((PySem.W.clsIn K C).any fun cd=>yD cd.mro)=true
 sa:PySem.W.findIn K (.ref C) "__setattr__"=some (some (.builtin "object.__setattr__"))
 ga:PySem.W.findIn K (.ref C) "__getattribute__"=some (some (.builtin "BaseException.__getattribute__"))
 gt:PySem.W.findIn K (.ref C) "__getattr__"=some none
 ex:∃ fI,iu K C fI=true
noncomputable def XF (x C:Addr) (od:Option Addr):Heap→Prop:=fun h=>∃ vs sl,h.get? x=some ⟨.ref C,od,.fields vs,sl⟩∧1 < vs.size∧vs[1]? = some .none
noncomputable def XD (dx:Addr) (fs:List (Str × V)):Heap→Prop:=fun h=>∃ mA,h.Ns1 dx mA∧(∀ f,Sr (fs.lookup f) (mA f))∧PySem.Within mA (fs.map (·.1))
theorem XF.at {x C:Addr} {od:Option Addr} {h h':Heap} (z:XF x C od h) (k:∀ o,h.get? x=some o→h'.get? x=some o):XF x C od h':=let ⟨vs,sl,e,r⟩:=z;⟨vs,sl,k _ e,r⟩
theorem XD.at {dx:Addr} {fs:List (Str × V)} {h h':Heap} (z:XD dx fs h) (k:∀ o,h.get? dx=some o→h'.get? dx=some o):XD dx fs h':=let ⟨mA,e,r⟩:=z;⟨mA,e.at k,r⟩
theorem XF.ok {P:Program} {w:World} {H:Hp} {h:Heap} {x C:Addr} {od:Option Addr} (z:XF x C od h):Gd P w H h x (.ext (XF x C od)):=by
 obtain ⟨vs,sl,e,r⟩:=id z
 exact ⟨z,⟨_,e⟩,fun h1 h2 q k=>q.at k⟩
theorem XD.ok {P:Program} {w:World} {H:Hp} {h:Heap} {dx:Addr} {fs:List (Str × V)} (z:XD dx fs h):Gd P w H h dx (.ext (XD dx fs)):=by
 obtain ⟨mA,⟨o,es,ep,e,_⟩,_⟩:=id z
 exact ⟨z,⟨_,e⟩,fun h1 h2 q k=>q.at k⟩
section
variable {prog:Program} {w:World} {A:Around} {E:Value→Shared→Prop} {K:PySem.W.Frag} {C x:Addr} {s:Shared} {R:Result→Shared→Prop}
theorem wQ {ox:Obj} {od:Option Obj} {name:Str} {tk:Tok} {v:Value} (KX:K.In s.heap) (J:PySem.W.InstAt s.heap x ox C od) (c:Qr K C) (ht:Db K C name)
  (h:wpAny (model prog w) A.in1 (storeInOwnDict (.ref x) (.ref C) (.str name tk) name v false)
   (fun fin s'=>match fin with | .done f=>R (.ok f) s' | .again c'=>c'.quiet=true∧codeAny (model prog w) A c' R s') (fun e s'=>R (.error e) s') s) :
  codeAny (model prog w) A (.call (.builtin "object.__setattr__") ⟨[.ref x,.str name tk,v],[]⟩) R s:=by
 have G:=PySem.F.store_object
 obtain ⟨cd,hc,ho⟩:=PySem.W.any_some c.ov
 have ne:cd.mro.isEmpty=false:=by
  cases q:cd.mro with
  | nil=>rw [q] at ho;cases ho
  | cons _ _=>rfl
 have sub:PySem.W.Looks (model prog w) s.heap (isInstance (.ref x) (.type "object")) true:=
  J.type.andThen (PySem.W.looks_mroIn KX (by unfold PySem.W.mroIn;rw [hc,Option.bind_some,if_neg (by rw [ne];decide),gn "object" (by decide) ho]))
 refine codeAny_call_builtin G.slot.plain G.entry (@PySem.W.check_slot (model prog w) _ _ s "object.__setattr__" "object" "__setattr__" (.ref x) [.str name tk,v] [] _ G.kind G.split sub (G.args (.ref x) (.str name tk) v) ?_)
 have hm:PySem.W.Looks (model prog w) s.heap (mroOf (.ref C)) cd.mro:=(PySem.W.looks_clsIn KX hc).andThen .now
 rw [PySem.W.osa_eq,refuse_eq]
 refine wpAny_bind (wpAny_bind (J.type.here (wpAny_bind (hm.here ?_))))
 rw [No _ ho]
 exact wpAny_pure (wpAny_bind (J.type.here (wpAny_bind ((PySem.W.looks_findIn KX ht).here (wpAny_bind (wpAny_pure h))))))
end
section
variable {X:Cx} {pins:List (Addr × Obj)} {σ:St} {H:Hp} {s:Shared} {x C dx:Addr} {fs:List (Str × V)} {f:Str} {y:V} {u:Value} {A:Around} {E:Value→Shared→Prop} {Q:Unit→Shared→Prop}
theorem kH (I:Inv X pins σ H s) (e:H x=some (.ext (XF x C none))) (c:Qr X.K C) (n:Db X.K C f) (ry:Md y u)
  (h:∀ dx s',H dx=none→dx ≠ x→Inv X pins σ (upd (upd H x (.ext (XF x C (some dx)))) dx (.ext (XD dx [(f,y)]))) s'→Q () s'):wpAny (model X.prog X.w) A (setAttr (.ref x) f u) Q E s:=by
 obtain ⟨vs,sl,hx,z1,z2⟩:=(show Gd X.prog X.w H s.heap x (.ext (XF x C none)) from I.hok _ _ e).1
 have J:PySem.W.InstAt s.heap x ⟨.ref C,none,.fields vs,sl⟩ C none:=⟨hx,rfl,rfl,True.intro⟩
 refine PySem.W.set_plain I.kIn J c.sa (wQ (s:={ s with toks:=s.toks + 1 }) I.kIn J c n ?_)
 obtain ⟨cd,hc,hd'⟩:=PySem.W.any_some c.hd
 refine wpAny_bind (wpAny_pure (wpAny_bind (wpAny_bind (wpAny_loadPart hx (wpAny_bind (PySem.W.Looks.here (s:={ s with toks:=s.toks + 1 }) (PySem.W.looks_clsIn I.kIn hc) ?_))))))
 rw [hd']
 show wpAny _ _ (alloc PySem.W.emptyDict >>= fun d=>(update x fun o=>{ o with dict:=some d }) >>= fun _=>dictMade (.ref C) x d) _ _ _
 refine wpAny_bind (wpAny_alloc (wpAny_bind ?_))
 have hx1:(s.heap.push PySem.W.emptyDict).get? x=some ⟨.ref C,none,.fields vs,sl⟩:=Heap.get?_push_of_some _ hx
 have lx:x < s.heap.objs.size:=Heap.lt_size hx
 refine wpAny_update hx1 (wpAny_pure ?_)
 have e1:(s.heap.push PySem.W.emptyDict).get? s.heap.objs.size=some PySem.W.emptyDict:=Heap.get?_push_size s.heap rfl
 have e3:(s.heap.push PySem.W.emptyDict).Ns s.heap.objs.size (fun _=>none):=⟨PySem.W.emptyDict,#[],_,e1,rfl,(fun e he=>absurd he (by simp)),fun _=>rfl⟩
 generalize hg2:(s.heap.push PySem.W.emptyDict).update x (fun o=>{ o with dict:=some s.heap.objs.size })=h2
 have nx:s.heap.objs.size ≠ x:=Nat.ne_of_gt lx
 have k2:∀ b,b ≠ x→h2.get? b=(s.heap.push PySem.W.emptyDict).get? b:=fun b hb=>by rw [← hg2];exact Heap.get?_update_other _ _ (Ne.symm hb)
 have x2:h2.get? x=some ⟨.ref C,some s.heap.objs.size,.fields vs,sl⟩:=by rw [← hg2];exact Heap.get?_update_self _ hx1 rfl
 have n2:h2.Ns1 s.heap.objs.size (fun _=>none):=(Heap.Ns1.of_empty e3).at fun o q=>(k2 _ nx).trans q
 refine wpAny_bind (wpAny_pure (wpAny_bind ?_))
 refine wpAny_nsSet1 (s:={ s with heap:=h2,toks:=s.toks + 1 }) n2 fun h3 n3 s3=>?_
 have wi:PySem.Within (fun a=>if a=f then some u else none) [f]:=PySem.Within.cons f u (fun a ha=>absurd rfl ha)
 obtain ⟨oD,esD,epD,hoD,hdD,hcD⟩:=n3.count wi
 refine wpAny_bind (wpAny_lookBehind hoD (by rw [hdD];exact pastItsLine_dict (Nat.le_trans hcD (by rw [sizeLine_eq];show 1 ≤ _;decide))) ?_)
 refine wpAny_pure (h s.heap.objs.size _ (I.hok.fresh (Nat.le_refl _)) nx ?_)
 have k3:∀ b o,b ≠ x→s.heap.get? b=some o→h3.get? b=some o:=fun b o hb q=>
  (s3.2 b (fun z=>by rw [z] at q;exact absurd (Heap.lt_size q) (Nat.lt_irrefl _))).trans ((k2 b hb).trans (Heap.get?_push_of_some _ q))
 have x3:h3.get? x=some ⟨.ref C,some s.heap.objs.size,.fields vs,sl⟩:=(s3.2 x (Ne.symm nx)).trans x2
 generalize hgA:s.heap.update x (fun o=>{ o with dict:=some s.heap.objs.size })=hA
 have kA:∀ b,b ≠ x→hA.get? b=s.heap.get? b:=fun b hb=>by rw [← hgA];exact Heap.get?_update_other _ _ (Ne.symm hb)
 have xA:hA.get? x=some ⟨.ref C,some s.heap.objs.size,.fields vs,sl⟩:=by rw [← hgA];exact Heap.get?_update_self _ hx rfl
 have szA:hA.objs.size=s.heap.objs.size:=by rw [← hgA];exact Heap.size_update _ _ _
 have IA:=I.write (x:=x) (e:=x) (o:=.ext (XF x C (some s.heap.objs.size))) (h':=hA) (t':=s.toks) (by rw [e];exact True.intro) (.inl rfl) (fun b o hb q=>(kA b hb).trans q) ⟨_,xA⟩ (XF.ok ⟨vs,sl,xA,z1,z2⟩)
 refine IA.laid (a:=s.heap.objs.size) (h':=h3) (fun b o q=>?_) (Nat.le_of_eq szA) (XD.ok ⟨_,n3,fun g=>?_,wi⟩)
 ·by_cases hb:b=x
  ·subst hb;rw [xA] at q;rw [x3,← q]
  ·rw [kA b hb] at q;exact k3 b o hb q
 ·show Sr (List.lookup g [(f,y)]) (if g=f then some u else none)
  by_cases hq:g=f
  ·rw [if_pos hq,hq,List.lookup_cons_self];exact ry
  ·rw [if_neg hq,List.lookup_cons,beq_false_of_ne hq];exact True.intro
theorem YE (I:Inv X pins σ H s) (e:H x=some (.ext (XF x C (some dx)))) (ed:H dx=some (.ext (XD dx fs))) (c:Qr X.K C) (n:Db X.K C f) (hl:fs.length < 1000) (ry:Md y u)
  (h:∀ s',Inv X pins σ (upd H dx (.ext (XD dx (Qg f y fs)))) s'→Q () s'):wpAny (model X.prog X.w) A (setAttr (.ref x) f u) Q E s:=by
 obtain ⟨vs,sl,hx,z1,z2⟩:=(show Gd X.prog X.w H s.heap x (.ext (XF x C (some dx))) from I.hok _ _ e).1
 obtain ⟨mA,n1,r,wi⟩:=(show Gd X.prog X.w H s.heap dx (.ext (XD dx fs)) from I.hok _ _ ed).1
 obtain ⟨od,ho,hlk⟩:=Hn n1
 have J:PySem.W.InstAt s.heap x ⟨.ref C,some dx,.fields vs,sl⟩ C (some od):=⟨hx,rfl,rfl,ho⟩
 refine PySem.W.set_plain I.kIn J c.sa (wQ (s:={ s with toks:=s.toks + 1 }) I.kIn J c n ?_)
 obtain ⟨cd,hc,hd'⟩:=PySem.W.any_some c.hd
 refine wpAny_bind (wpAny_pure (wpAny_bind (wpAny_bind (wpAny_loadPart hx (wpAny_bind (PySem.W.Looks.here (s:={ s with toks:=s.toks + 1 }) (PySem.W.looks_clsIn I.kIn hc) ?_))))))
 rw [hd']
 refine wpAny_pure (a:=some dx) (wpAny_bind (wpAny_pure (wpAny_bind ?_)))
 refine wpAny_nsSet1 (s:={ s with toks:=s.toks + 1 }) n1 fun h3 n3 s3=>?_
 obtain ⟨oD,esD,epD,hoD,hdD,hcD⟩:=n3.count (PySem.Within.cons f u wi)
 refine wpAny_bind (wpAny_lookBehind hoD (by rw [hdD];exact pastItsLine_dict (Nat.le_trans hcD (by rw [List.length_cons,List.length_map,sizeLine_eq];omega))) ?_)
 refine wpAny_pure (h _ ?_)
 refine I.write (x:=dx) (e:=dx) (by rw [ed];exact True.intro) (.inl rfl) (fun b o hb q=>(s3.2 b hb).trans q) ⟨_,hoD⟩ (XD.ok ⟨_,n3,fun g=>?_,fun g hg=>?_⟩)
 ·show Sr ((Qg f y fs).lookup g) (if g=f then some u else mA g)
  rw [km]
  by_cases q:g=f
  ·rw [if_pos q,if_pos q];exact ry
  ·rw [if_neg q,if_neg q];exact r g
 ·by_cases q:g=f
  ·rw [q];exact (Uj f y fs).1
  ·refine (Uj f y fs).2 g (wi g fun z=>hg ?_)
   show (if g=f then some u else mA g)=none
   rw [if_neg q];exact z
noncomputable def XA (x C:Addr) (od:Option Addr):Heap→Prop:=fun h=>∃ vs sl,h.get? x=some ⟨.ref C,od,.fields vs,sl⟩
theorem XA.at {x C:Addr} {od:Option Addr} {h h':Heap} (z:XA x C od h) (k:∀ o,h.get? x=some o→h'.get? x=some o):XA x C od h':=let ⟨vs,sl,e⟩:=z;⟨vs,sl,k _ e⟩
theorem XA.ok {P:Program} {w:World} {H:Hp} {h:Heap} {x C:Addr} {od:Option Addr} (z:XA x C od h):Gd P w H h x (.ext (XA x C od)):=by
 obtain ⟨vs,sl,e⟩:=id z
 exact ⟨z,⟨_,e⟩,fun h1 h2 q k=>q.at k⟩
theorem lR {b:Bool} {Q:Value→Shared→Prop} (I:Inv X pins σ H s) (e:H x=some (.ext (XA x C (some dx)))) (ed:H dx=some (.ext (XD dx fs))) (c:Qr X.K C) (n:Db X.K C f) (l:fs.lookup f=some y)
  (h:∀ u s',Inv X pins σ H s'→Md y u→Q u s'):wpAny (model X.prog X.w) A (getAttr (.ref x) f b) Q E s:=by
 obtain ⟨vs,sl,hx⟩:=(show Gd X.prog X.w H s.heap x (.ext (XA x C (some dx))) from I.hok _ _ e).1
 obtain ⟨mA,n1,r,wi⟩:=(show Gd X.prog X.w H s.heap dx (.ext (XD dx fs)) from I.hok _ _ ed).1
 obtain ⟨od,ho,hlk⟩:=Hn n1
 obtain ⟨u,hu,ru⟩:=Sr.some_of (v:=y) (o:=mA f) (by rw [← l];exact r f)
 have J:PySem.W.InstAt s.heap x ⟨.ref C,some dx,.fields vs,sl⟩ C (some od):=⟨hx,rfl,rfl,ho⟩
 have fin:=h u _ (I.tok (s.toks + 1)) ru
 have KX:=I.kIn
 clear h
 obtain ⟨cd,hc,hd'⟩:=PySem.W.any_some c.hd
 obtain ⟨cd',hc',hov⟩:=PySem.W.any_some c.ov
 rw [hc] at hc'
 cases hc'
 have hh:=bw ru
 obtain ⟨hp,g,d,t,os⟩:=s
 have L0:=J.type (M:=model X.prog X.w)
 have L1:=PySem.W.looks_findIn (M:=model X.prog X.w) KX c.ga
 have L2:=PySem.W.looks_findIn (M:=model X.prog X.w) KX c.gt
 have L3:=PySem.W.looks_findIn (M:=model X.prog X.w) KX n
 have L4:=PySem.W.looks_own (M:=model X.prog X.w) (name:=f) (r:=some u) KX J hc (by unfold PySem.W.ownOf;rw [if_pos hd'];show PySem.W.lookIn f od=_;rw [hlk,hu])
 have FB:=PySem.F.excAttr_ValueError
 have f3:=FB.ga.bind (.ref x)
 have hx0:(b && onTheHeap (Value.builtin "BaseException.__getattribute__"))=false:=by cases b <;> rfl
 have hx2:(Value.builtin "BaseException.__getattribute__" == Value.builtin "object.__getattribute__")=false:=by decide +kernel
 have hx1:(onTheHeap (Value.ref C) && Value.builtin "BaseException.__getattribute__" == Value.builtin "object.__getattribute__")=false:=by rw [hx2];rfl
 unfold getAttr getAttrBy
 refine wpAny_bind (wpAny_mkText (wpAny_holding (wpAny_bind (L0.at (wpAny_bind (L1.at ?_))))))
 dsimp only
 rw [if_neg (by rw [hx1];decide)]
 unfold getAttrByItsOwn
 repeat (any_goals (first | assumption | with_reducible refine PySem.W.Looks.at (by assumption) ?_ | wp_step))
 have ne:cd.mro.isEmpty=false:=by
  cases q:cd.mro with
  | nil=>rw [q] at hov;cases hov
  | cons _ _=>rfl
 have sub:PySem.W.Looks (model X.prog X.w) hp (isInstance (.ref x) (.type "BaseException")) true:=
  L0.andThen (PySem.W.looks_mroIn KX (by unfold PySem.W.mroIn;rw [hc,Option.bind_some,if_neg (by rw [ne];decide),gn "BaseException" (by decide) hov]))
 refine codeAny_call_builtin FB.ga.plain PySem.F.entry_bexc_ga (@PySem.W.check_slot (model X.prog X.w) _ _ ⟨hp,g,d,t + 1,os⟩ "BaseException.__getattribute__" "BaseException" "__getattribute__" (.ref x) [.str f t] [] _ (by decide +kernel) (by decide +kernel) sub (PySem.F.args_bexc_ga (.ref x) (.str f t)) ?_)
 unfold Builtin.«object.__getattribute__»
 repeat (any_goals (first | assumption | with_reducible refine PySem.W.Looks.at (by assumption) ?_ | wp_step))
 show wpAny _ _ (handedOut u) _ _ _
 rw [PySem.W.handedOut_of hh]
 exact wpAny_pure fin
end
noncomputable abbrev TJ:=St→Hp→(Hp→Prop)→Prop
noncomputable def PJ (X:Cx) (es:List Expr) (n:Nat) (t:TJ):Prop:=
 ∀ (pins:List (Addr × Obj)) (s:Shared) (σ:St) (H:Hp) (Q:Hp→Prop) (acc:Str) (R:Str→Shared→Prop),Inv X pins σ H s→acc.length + n ≤ sizeLine→t σ H Q →
  (∀ out H' s',Inv X pins σ H' s'→out.length ≤ sizeLine→Q H'→R out s')→Joins (model X.prog X.w) X.A X.xe (evalEach es X.env) acc R s
noncomputable def tJ0:TJ:=fun _ H Q=>Q H
noncomputable def tJI (te:TE) (t:TJ):TJ:=fun σ H Q=>te σ H fun v H1=>∃ i,v=.int i∧i.natAbs.log2 < 1920∧t σ H1 Q
noncomputable def tJS (te:TE) (t:TJ):TJ:=fun σ H Q=>te σ H fun v H1=>∃ x,v=.str x∧x.length ≤ 1000∧t σ H1 Q
noncomputable def tJR (te:TE) (t:TJ):TJ:=fun σ H Q=>te σ H fun v H1=>∃ x,v=.str x∧x.length ≤ 1000∧(∀ c ∈ x.cps.toList,c < 16 ^ 8)∧t σ H1 Q
noncomputable def fF (t:TJ):TE:=fun σ H Q=>t σ H fun H1=>∀ y:Str,Q (.str y) H1
section
variable {X:Cx} {e:Expr} {es:List Expr} {n:Nat} {t:TJ} {te:TE} {pos:Pos}
theorem iz:PJ X [] 0 tJ0:=fun pins s σ H Q acc R I hl q h=>h acc H s I hl q
theorem Ng {c:Str} {k:Nat} (h:PJ X es n t):PJ X (.Constant (.str c) k pos :: es) (n + c.length) t:=fun pins s σ H Q acc R I hl q hR=>by
 show wpAny _ _ _ _ _ _
 refine Calls.Constant_str ⟨c,_,rfl,by rw [strLen_append];omega,h pins _ σ H Q _ R (I.tok _) (by rw [strLen_append];omega) q hR⟩
theorem Jz (he:PE X e te) (h:PJ X es n t):PJ X (.FormattedValue e (-1) none pos :: es) (n + 2000) (tJI te t):=fun pins s σ H Q acc R I hl q hR=>by
 show wpAny _ _ _ _ _ _
 refine wpAny_FormattedValue_plain (thn (he pins s σ H _ I q) fun u s1 hZ1=>?_)
 obtain ⟨v,H1,I1,r,i,ev,hi,q1⟩:=hZ1
 subst ev
 obtain ⟨tk,rfl⟩:=(show ∃ tk,u=Value.int i tk from r)
 have hz:=int_text_fits hi
 have hz2:(Str.ofString (toString i)).length ≤ 2000:=by
  have e:=int_text_length_le (k:=1920) (by decide) hi
  rw [PySem.ofString_length];omega
 refine wpAny_formatField_int hi ⟨_,_,rfl,by rw [strLen_append];omega,h pins _ σ H1 Q _ R (I1.tok _) (by rw [strLen_append];omega) q1 hR⟩
theorem bv (he:PE X e te) (h:PJ X es n t):PJ X (.FormattedValue e 114 none pos :: es) (n + 11000) (tJR te t):=fun pins s σ H Q acc R I hl q hR=>by
 show wpAny _ _ _ _ _ _
 refine wpAny_FormattedValue_repr (thn (he pins s σ H _ I q) fun u s1 hZ1=>?_)
 obtain ⟨v,H1,I1,r,x,ev,hx,hc,q1⟩:=hZ1
 subst ev
 obtain ⟨tk,rfl⟩:=(show ∃ tk,u=Value.str x tk from r)
 have hz:=PySem.StrLaws.reprText_len x hc
 refine wpAny_pyReprObj_str ?_ (by rw [sizeLine_eq];omega)
 exact formatField_str (fun t' tk'=>⟨_,_,rfl,by rw [strLen_append];omega,h pins _ σ H1 Q _ R ((I1.tok _).tok _) (by rw [strLen_append];omega) q1 hR⟩) (by rw [sizeLine_eq];omega)
theorem Jm {e2:Expr} (h:PJ X (e :: e2 :: es) n t) (hn:n ≤ sizeLine):PE X (.JoinedStr (e :: e2 :: es) pos) (fF t):=by
 intro pins s σ H Q I q
 refine wpAny_JoinedStr (h pins s σ H _ _ _ I (by show 0 + n ≤ _;omega) q fun out H' s' I' hl q'=>⟨hl,?_⟩)
 exact ⟨.str out,H',I'.tok _,⟨_,rfl⟩,q' out⟩
end
structure TQ (K:PySem.W.Frag) (L:Addr) (m:Str):Prop where
 rd:PySem.W.readsIn K L (.type "type")=true
 fd:PySem.W.findCls K (.ref L) (.type "type") m=some (.val (.builtin "ValueError.__init__"))
 ga:PySem.W.specialIn K (.ref L) "__getattribute__"=some (some (.builtin "type.__getattribute__"))
noncomputable def UI (K:PySem.W.Frag) (t:TA):TE:=fun σ H Q=>t σ H fun vs H1=>∃ x C od v,vs=[.ref x,v]∧H1 x=some (.ext (XF x C od))∧Qr K C∧Q .non H1
section
variable {X:Cx} {L:Addr} {x:Str} {p pos apos:Pos} {e:Expr} {es:List Expr} {t:TA}
theorem mD {pins:List (Addr × Obj)} {σ:St} {H:Hp} {s:Shared} {a C:Addr} {od:Option Addr} {u:Value} {A:Around} {E:Value→Shared→Prop} {Q:Value→Shared→Prop} (I:Inv X pins σ H s) (ea:H a=some (.ext (XF a C od))) (c:Qr X.K C)
  (h:∀ s',Inv X pins σ H s'→Q .none s'):wpAny (model X.prog X.w) A (call (.builtin "ValueError.__init__") [.ref a,u]) Q E s:=by
 obtain ⟨vs,sl,hx,z1,z2⟩:=(show Gd X.prog X.w H s.heap a (.ext (XF a C od)) from I.hok _ _ ea).1
 obtain ⟨fI,hfI⟩:=c.ex
 obtain ⟨tl,N,nm,q,bs,sn,sub,ab,co,dd,k0,k1,k2,k3,k5,mN,hC,hN,hi,T⟩:=ou I.kIn hfI
 have F:=PySem.F.excBase_ValueError
 obtain ⟨v0,h0⟩:∃ v0,vs[0]? = some v0:=⟨vs[0]'(by omega),Array.getElem?_eq_getElem (by omega)⟩
 obtain ⟨hh,g,d,tt,os⟩:=s
 refine wpAny_call (codeAny_call_builtin F.init.plain F.initEntry (wpAny_check_init_subT F T hC hx rfl ?_))
 show wpAny _ _ (newTuple [u] >>= fun tp=>(do
  let old ← field (.ref a) 0
  setField (.ref a) 0 tp
  if let .ref _:=old then letGo [old] []) >>= fun _=>ret .none) _ _ _
 have hx1:(hh.push { cls:=.type "tuple",data:=.seq [u].toArray }).get? a=some ⟨.ref C,od,.fields vs,sl⟩:=Heap.get?_push_of_some _ hx
 refine wpAny_bind (wpAny_newTuple (wpAny_bind (wpAny_bind (wpAny_field hx1 rfl h0 (wpAny_bind (wpAny_setField hx1 rfl (by omega) ?_))))))
 have x2:=Heap.get?_update_self (h:=hh.push { cls:=.type "tuple",data:=.seq [u].toArray }) (Obj.mapFields (·.setIfInBounds 0 (.ref hh.objs.size))) hx1 rfl
 have fin:∀ s',s'=(⟨(hh.push { cls:=.type "tuple",data:=.seq [u].toArray }).update a (Obj.mapFields (·.setIfInBounds 0 (.ref hh.objs.size))),g,d,tt,os⟩:Shared)→Q .none s':=by
  rintro s' rfl
  refine h _ ?_
  have I1:Inv X pins σ H ⟨hh.push { cls:=.type "tuple",data:=.seq [u].toArray },g,d,tt,os⟩:=I.kept (t':=tt) fun b o q=>Heap.get?_push_of_some _ q
  have:=I1.write (x:=a) (e:=a) (o:=.ext (XF a C od)) (h':=(hh.push { cls:=.type "tuple",data:=.seq [u].toArray }).update a (Obj.mapFields (·.setIfInBounds 0 (.ref hh.objs.size)))) (t':=tt) (by rw [ea];exact True.intro) (.inl rfl)
   (fun b o hb q=>(Heap.get?_update_other _ _ (Ne.symm hb)).trans q) ⟨_,x2⟩ (XF.ok ⟨vs.setIfInBounds 0 (.ref hh.objs.size),sl,x2,by simpa using z1,by rw [Array.getElem?_setIfInBounds_ne (by decide)];exact z2⟩)
  rwa [tJ ea] at this
 cases v0 with
 | ref b=>exact wpAny_bind (wpAny_holding (wpAny_point (wpAny_pure (wpAny_pure (fin _ rfl)))))
 | _=>exact wpAny_pure (wpAny_pure (fin _ rfl))
theorem Bp {pl:Sem Bool} {m:Str} (hg:Gl X x) (hm:X.mg x=some (.ref L)) (c:TQ X.K L m) (ha:PA X (e :: es) t)
  (hdb:(x == ("__debug__" : Str))=false:=by decide) (hst:starEach (e :: es) X.env=(false,eval e X.env) :: starEach es X.env:=by rfl) (hpl:(backTo pos (starEach es X.env)).any (·.1)=false:=by rfl)
  (ht:eval (.Call (.Attribute (.Name x p) m apos) (e :: es) [] pos) X.env=(do
   let ov ← eval (.Name x p) X.env
   standAt apos.atName
   let (f,first) ← holding [ov] (getMethod ov m pl)
   callWith pos f first (backTo pos (starEach (e :: es) X.env)) (backToKw pos (keywordEach [] X.env))):=by rfl) :
  PE X (.Call (.Attribute (.Name x p) m apos) (e :: es) [] pos) (UI X.K t):=by
 intro pins s σ H Q I h
 refine PySem.W.methodCall_KW (pl:=pl) (Zi I hg hm ?_ hdb) ht
 refine PySem.W.method_cls I.kIn c.ga (PySem.W.cls_value I.kIn c.rd c.fd rfl ?_)
 refine PyProof.Rows.callWith_builtin1 (thn (ha pos pins _ σ H _ (I.tok (s.toks + 1)) h) fun us s2 hZ1=>?_) hst hpl
 obtain ⟨vs,H2,I2,r,a,C,od,v,ev,ea,cc,q⟩:=hZ1
 subst ev
 obtain ⟨u1,u2,rfl,r1,r2⟩:=jy r
 obtain rfl:u1=Value.ref a:=r1
 exact mD I2 ea cc fun s3 I3=>⟨.non,H2,I3,rfl,q⟩
end
structure MkX (K:PySem.W.Frag) (C fI:Addr):Prop where
 e:iu K C fI=true
 fn:PySem.W.typeIn K (.ref fI)=some (.type "function")
 kp:PySem.W.keepIn K (.ref C)=true
noncomputable def wJ (C:Addr) (sp:Sp) (t:TA):TE:=fun σ H Q=>t σ H fun vs H1=>vs.length ≤ sizeLine∧∀ x,H1 x=none→sp (.ref x :: vs) (upd H1 x (.ext (XF x C none))) (fun v H2=>v=.non∧Q (.ref x) H2) (fun _ _ _=>False)
noncomputable def JJ (K:PySem.W.Frag) (ta tv:TE) (f:Str):TS:=fun D σ H=>tv σ H fun y H1=>ta σ H1 fun x H2=>∃ a C,x=.ref a∧H2 a=some (.ext (XF a C none))∧Qr K C∧Db K C f ∧
 ∀ dx,H2 dx=none→dx ≠ a→D.nx σ (upd (upd H2 a (.ext (XF a C (some dx)))) dx (.ext (XD dx [(f,y)])))
noncomputable def HJ (K:PySem.W.Frag) (ta tv:TE) (f:Str):TS:=fun D σ H=>tv σ H fun y H1=>ta σ H1 fun x H2=>∃ a C dx fs,x=.ref a∧H2 a=some (.ext (XF a C (some dx)))∧H2 dx=some (.ext (XD dx fs))∧Qr K C∧Db K C f∧fs.length < 1000 ∧
 D.nx σ (upd H2 dx (.ext (XD dx (Qg f y fs))))
noncomputable def GN (K:PySem.W.Frag) (ta:TE) (f:Str):TE:=fun σ H Q=>ta σ H fun x H1=>∃ a C dx fs v,x=.ref a∧H1 a=some (.ext (XA a C (some dx)))∧H1 dx=some (.ext (XD dx fs))∧Qr K C∧Db K C f∧fs.lookup f=some v∧Q v H1
section
variable {X:Cx} {k:Nat} {f C:Addr} {fd:FuncData} {ps:List Str} {sp:Sp} {x g:Str} {p pos pos' apos:Pos} {e o value:Expr} {es:List Expr} {ta tv:TE} {t:TA}
theorem qD {pins:List (Addr × Obj)} {σ:St} {H:Hp} {s:Shared} {Q:VK} {us:List Value} {vs:List V} (M:MkX X.K C f) (F:Eb X.prog X.w X.K X.mg X.base (fun _ _ _ _ _ _=>False) k f fd ps sp) (hr:Bi (k + 1) X.A) (hb:Nb X.K fd ps [])
  (I:Inv X pins σ H s) (r:kd vs us) (hz:vs.length ≤ sizeLine) (h:∀ x,H x=none→sp (.ref x :: vs) (upd H x (.ext (XF x C none))) (fun v H2=>v=.non∧Q (.ref x) H2) (fun _ _ _=>False)) :
  wpAny (model X.prog X.w) X.A (call (.ref C) us) (EP X pins σ Q) X.xe s:=by
 obtain ⟨hh,g,d,tt,os⟩:=s
 refine wpAny_call (tF (fI:=f) I.kIn M.e M.fn (by rw [← r.length];exact hz) fun h' x hx Mx=>?_)
 obtain ⟨tp,ox,_,_⟩:=Mx.there
 have I2:=I.laid (a:=x) (o:=.ext (XF x C none)) (h':=h') (t':=tt) Mx.keeps hx (XF.ok ⟨_,_,ox,Nat.lt_of_lt_of_eq (show 1 < 6 by decide) rfl,rfl⟩)
 have hq:=h x (I.hok.fresh hx)
 have r2:kd (V.ref x :: vs) (Value.ref x :: us):=.cons rfl r
 have hl:((Value.ref x :: us) ++ []).length=ps.length:=by
  rw [List.append_nil,← r2.length]
  exact F.len _ _ _ _ hq
 have hb2:=hb ⟨h',g,d,tt,os⟩ (Value.ref x :: us) I2.kIn hl
 rw [List.append_nil] at hb2
 refine codeAny_mono (F.run _ X.stack _ _ ⟨Value.ref x :: us,[]⟩ (Value.ref x :: us) _ _ _ (hr.make C us []) (I2.env0.make C us []) hb2 r2 hq) fun r s' hq'=>?_
 rcases r with e | (u | _ | _ | _) <;> first | exact False.elim hq' | skip
 obtain ⟨v,H',I3,rv,ev,q3⟩:=I2.after hq'
 subst ev
 exact ⟨rv,⟨V.ref x,H',I3,rfl,q3⟩⟩
theorem Mp (M:MkX X.K C f) (F:Eb X.prog X.w X.K X.mg X.base (fun _ _ _ _ _ _=>False) k f fd ps sp) (hr:Bi (k + 1) X.A) (hg:Gl X x) (hm:X.mg x=some (.ref C)) (hb:Nb X.K fd ps [])
  (ha:PA X (e :: es) t) (hdb:(x == ("__debug__" : Str))=false:=by decide) (he:starEach (e :: es) X.env=(false,eval e X.env) :: starEach es X.env:=by rfl) (hpl:(backTo pos (starEach es X.env)).any (·.1)=false:=by rfl) :
  PE X (.Call (.Name x p) (e :: es) [] pos) (wJ C sp t):=by
 intro pins s σ H Q I h
 refine wpAny_Call_Name_kw (Zi I hg hm ?_ hdb)
 exact PySem.W.callWith_K (h₀:=X.base) I.ok.mod.kin M.kp (thn (ha pos pins s σ H _ I h) fun us s1 ⟨vs,H1,I1,r,hz,q⟩=>⟨I1.kIn,qD M F hr hb I1 r hz q⟩) he hpl
theorem Gp (ha:PE X o ta) (hv:PE X value tv) (hs:swapsWith value (some (.Attribute o g pos')) pos.line X.env=pure false):PS X (.Assign [.Attribute o g pos'] value pos) (JJ X.K ta tv g):=by
 intro pins s σ H D I h
 refine plainObj_wpAny_Assign_Attribute (thn (hv pins s σ H _ I h) fun u s1 ⟨y,H1,I1,ry,q⟩=>thn (ha pins s1 σ H1 _ I1 q) fun ov s2 hZ1=>?_) hs
 obtain ⟨x,H2,I2,rx,a,C,ex,ea,c,n,q2⟩:=hZ1
 subst ex
 obtain rfl:ov=Value.ref a:=rx
 exact kH I2 ea c n ry fun dx s3 hd hne I3=>⟨σ,_,I3,q2 dx hd hne⟩
theorem Dp (ha:PE X o ta) (hv:PE X value tv) (hs:swapsWith value (some (.Attribute o g pos')) pos.line X.env=pure false):PS X (.Assign [.Attribute o g pos'] value pos) (HJ X.K ta tv g):=by
 intro pins s σ H D I h
 refine plainObj_wpAny_Assign_Attribute (thn (hv pins s σ H _ I h) fun u s1 ⟨y,H1,I1,ry,q⟩=>thn (ha pins s1 σ H1 _ I1 q) fun ov s2 hZ1=>?_) hs
 obtain ⟨x,H2,I2,rx,a,C,dx,fs,ex,ea,ed,c,n,hl,q2⟩:=hZ1
 subst ex
 obtain rfl:ov=Value.ref a:=rx
 exact YE I2 ea ed c n hl ry fun s3 I3=>⟨σ,_,I3,q2⟩
theorem Qu (he:PE X e ta) (hb:attributeBase e g X.env (eval e X.env)=eval e X.env):PE X (.Attribute e g pos) (GN X.K ta g):=by
 intro pins s σ H Q I h
 refine pF hb (thn (he pins s σ H _ I h) fun u s1 hZ1=>?_)
 obtain ⟨x,H1,I1,rx,a,C,dx,fs,v,ex,ea,ed,c,n,l,q⟩:=hZ1
 subst ex
 obtain rfl:u=Value.ref a:=rx
 exact lR I1 ea ed c n l fun u s2 I2 ru=>⟨v,H1,I2,ru,q⟩
end
end L2
namespace L2
open PySem PySem.Spec PyProof.Rows PySem.Builtin PySem.Builtin.ObjectAttr
noncomputable def FlA (x C:Addr) (od:Option Addr) (T:Addr) (fl:Value) (h:Heap):Prop:=
 T ≠ x∧∃ vs sl oT ts,h.get? x=some ⟨.ref C,od,.fields vs,sl⟩∧vs[1]? = some (.ref T)∧h.get? T=some oT∧oT.data=.fields ts∧ts[3]? = some fl
theorem FlA.xa {x C T:Addr} {od:Option Addr} {fl:Value} {h:Heap} (z:FlA x C od T fl h):XA x C od h:=let ⟨_,vs,sl,_,_,e,_⟩:=z;⟨vs,sl,e⟩
structure Kp (fs:List Addr) (x:Addr) (To:Option Addr) (h h':Heap):Prop where
 keep:∀ b o,h.get? b=some o→b ∉ fs→b ≠ x→some b ≠ To→h'.get? b=some o
 slot:∀ b o,h.get? b=some o→b ∈ fs→∃ sl,h'.get? b=some { o with slots:=sl }
 there:∀ b o,h.get? b=some o→∃ o',h'.get? b=some o'
section
variable {M:Model} {A:Around} {E:Value→Shared→Prop} {s:Shared}
theorem nofr {base h:Heap} {l:List Env} {b:Addr} {o:Obj} {vs:Array Value} (hl:h.FunFrames base l) (e:h.get? b=some o) (d:o.data=.fields vs):b ∉ frs l:=fun hm=>by
 obtain ⟨_,o',e',nf⟩:=hl.mem hm
 rw [e] at e'
 cases e'
 exact nf vs d
theorem bH {env env':Env} {L:Addr} (hf:env.frame=some L) (hf':env'.frame=some L):PySem.frameOf env'=PySem.frameOf env:=by
 unfold PySem.frameOf
 rw [hf',hf]
theorem OI {base:Heap} {env env':Env} {outer:List Env} {L x C:Addr} {od:Option Addr} {vs:Array Value} {sl:Array (Option Value)} {head:Value} {hn:Bool} {Q:Unit→Shared→Prop}
  (hfr:A.frames=some (env :: outer)) (hl:s.heap.FunFrames base (env :: outer)) (hf:env.frame=some L) (hf':env'.frame=some L) (he:s.heap.get? x=some ⟨.ref C,od,.fields vs,sl⟩) (hz:1 < vs.size)
  (h:∀ h' T,Kp (frs (env :: outer)) x none s.heap h'→s.heap.objs.size ≤ T→FlA x C od T (rawInt L) h'→Q () { s with heap:=h' }) :
  wpAny M A (do let a ← PySem.frameOf env';let pl ← entryPlaceOf L hn;let b ← EntryCells.newEntry head a .none (rawInt L) .none pl;setField (.ref x) 1 b) Q E s:=by
 have nx:x ∉ frs (env :: outer):=nofr hl he rfl
 rw [bH hf hf']
 refine wpAny_bind (wpAny_frameOf_fun hfr hl hf fun h1 S=>wpAny_bind (wpAny_entryPlaceOf fun pl hp=>?_))
 unfold EntryCells.newEntry newFields
 refine wpAny_bind (wpAny_newObj_type ?_ (hp.sizeOk5 _ _ _ _ _))
 have e1:h1.get? x=some ⟨.ref C,od,.fields vs,sl⟩:=(S.2.1 x nx).trans he
 obtain ⟨ts,hts,h3⟩:∃ ts:Array Value,([head,.ref L,.none,rawInt L,.none] ++ (if pl.isEmpty then List.replicate 6 Value.none else pl)).toArray=ts∧ts[3]? = some (rawInt L):=⟨_,rfl,by simp⟩
 rw [hts]
 have e2:=Heap.get?_push_of_some (h:=h1) { cls:=.type "traceback",dict:=none,data:=.fields ts } e1
 have ne:h1.objs.size ≠ x:=Nat.ne_of_gt (Heap.lt_size e1)
 have sz:h1.objs.size=s.heap.objs.size:=S.1
 refine wpAny_setField e2 rfl hz (h _ h1.objs.size ⟨fun b o q n1 n2 _=>?_,fun b o q n1=>?_,fun b o q=>?_⟩ (Nat.le_of_eq sz.symm) ⟨ne,vs.setIfInBounds 1 (.ref h1.objs.size),sl,{ cls:=.type "traceback",dict:=none,data:=.fields ts },ts,Heap.get?_update_self _ e2 rfl,by simp [hz],?_,rfl,h3⟩)
 ·rw [Heap.get?_update_other _ _ (Ne.symm n2)]
  exact Heap.get?_push_of_some _ ((S.2.1 b n1).trans q)
 ·obtain ⟨sl',e3⟩:=S.2.2 b o q
  have nb:x ≠ b:=fun z=>nx (by rw [z];exact n1)
  exact ⟨sl',(Heap.get?_update_other _ _ nb).trans (Heap.get?_push_of_some _ e3)⟩
 ·by_cases hb:b=x
  ·rw [hb];exact ⟨_,Heap.get?_update_self _ e2 rfl⟩
  ·obtain ⟨sl',e3⟩:=S.2.2 b o q
   exact ⟨_,by rw [Heap.get?_update_other _ _ (Ne.symm hb)];exact Heap.get?_push_of_some _ e3⟩
 ·exact (Heap.get?_update_other _ _ (Ne.symm ne)).trans (Heap.get?_push_size h1 rfl)
theorem AB {base:Heap} {env env':Env} {outer:List Env} {L x C:Addr} {od:Option Addr} {vs:Array Value} {sl:Array (Option Value)} {Q:Unit→Shared→Prop}
  (hfr:A.frames=some (env :: outer)) (hl:s.heap.FunFrames base (env :: outer)) (hf:env.frame=some L) (hf':env'.frame=some L) (he:s.heap.get? x=some ⟨.ref C,od,.fields vs,sl⟩) (h1:vs[1]? = some .none)
  (h:∀ h' T,Kp (frs (env :: outer)) x none s.heap h'→s.heap.objs.size ≤ T→FlA x C od T (rawInt L) h'→Q () { s with heap:=h' }) :
  wpAny M A (noteFrame (.ref x) env') Q E s:=by
 unfold noteFrame
 simp only [hf']
 refine wpAny_bind (wpAny_field he rfl h1 ?_)
 rw [if_neg (by decide)]
 exact OI hfr hl hf hf' he (Array.getElem?_eq_some_iff.mp h1).1 h
theorem wF {base:Heap} {env env':Env} {outer:List Env} {L x C T:Addr} {od:Option Addr} {fl:Value} {Q:Unit→Shared→Prop}
  (hfr:A.frames=some (env :: outer)) (hl:s.heap.FunFrames base (env :: outer)) (hf:env.frame=some L) (hf':env'.frame=some L) (z:FlA x C od T fl s.heap) (hne:¬ (fl == rawInt L)=true)
  (h:∀ h' T',Kp (frs (env :: outer)) x (some T) s.heap h'→s.heap.objs.size ≤ T'→FlA x C od T' (rawInt L) h'→Q () { s with heap:=h' }) :
  wpAny M A (noteFrame (.ref x) env') Q E s:=by
 obtain ⟨ne,vs,sl,oT,ts,he,h1,hT,hd,h3⟩:=z
 unfold noteFrame
 simp only [hf']
 refine wpAny_bind (wpAny_field he rfl h1 ?_)
 rw [if_pos (show (Value.ref T != Value.none)=true from by simp)]
 refine wpAny_bind (wpAny_field hT hd h3 ?_)
 rw [if_neg hne]
 refine wpAny_bind (wpAny_setField hT hd (Array.getElem?_eq_some_iff.mp h3).1 ?_)
 have nT:T ∉ frs (env :: outer):=nofr hl hT hd
 have oth:∀ b,b ≠ T→(s.heap.update T (Obj.mapFields (·.setIfInBounds 3 Value.none))).get? b=s.heap.get? b:=fun b hb=>Heap.get?_update_other _ _ (Ne.symm hb)
 have tT:∃ o',(s.heap.update T (Obj.mapFields (·.setIfInBounds 3 Value.none))).get? T=some o':=⟨_,Heap.get?_update_self _ hT (Obj.isFreed_of_fields (Obj.data_mapFields hd _))⟩
 have hl2:(s.heap.update T (Obj.mapFields (·.setIfInBounds 3 Value.none))).FunFrames base (env :: outer):=hl.of_keeps fun b o e nf=>⟨o,(oth b fun q=>by rw [q,hT] at e;cases e;exact nf ts hd).trans e,rfl⟩
 refine OI (s:={ s with heap:=s.heap.update T (Obj.mapFields (·.setIfInBounds 3 Value.none)) }) hfr hl2 hf hf' ((oth x (Ne.symm ne)).trans he) (Array.getElem?_eq_some_iff.mp h1).1 fun h' T' k w f=>h h' T' ⟨fun b o q n1 n2 n3=>?_,fun b o q n1=>?_,fun b o q=>?_⟩ ?_ f
 ·exact k.keep b o ((oth b fun y=>n3 (by rw [y])).trans q) n1 n2 (fun y=>by cases y)
 ·exact k.slot b o ((oth b fun y=>nT (y ▸ n1)).trans q) n1
 ·by_cases hb:b=T
  ·subst hb
   obtain ⟨o',e'⟩:=tT
   exact k.there _ _ e'
  ·exact k.there b o ((oth b hb).trans q)
 ·exact Nat.le_trans (Nat.le_of_eq (Heap.size_update _ _ _).symm) w
theorem flight {x C T:Addr} {od:Option Addr} {fl:Value} {fs:List Addr} {Q:Unit→Shared→Prop} (o:Option Addr) (z:FlA x C od T fl s.heap) (nT:T ∉ fs)
  (h:∀ h',Kp fs x (some T) s.heap h'→FlA x C od T (o.elim .none fun f=>rawInt f) h'→Q () { s with heap:=h' }):wpAny M A (setFlight (.ref x) o) Q E s:=by
 obtain ⟨ne,vs,sl,oT,ts,he,h1,hT,hd,h3⟩:=z
 have z3:3 < ts.size:=(Array.getElem?_eq_some_iff.mp h3).1
 have oth:∀ b,b ≠ T→(s.heap.update T (Obj.mapFields (·.setIfInBounds 3 (o.elim Value.none fun f=>rawInt f)))).get? b=s.heap.get? b:=fun b hb=>Heap.get?_update_other _ _ (Ne.symm hb)
 have tT:=Heap.get?_update_self (Obj.mapFields (·.setIfInBounds 3 (o.elim Value.none fun f=>rawInt f))) hT (Obj.isFreed_of_fields (Obj.data_mapFields hd _))
 unfold setFlight
 refine wpAny_bind (wpAny_field he rfl h1 ?_)
 rw [if_pos (show (Value.ref T != Value.none)=true from by simp)]
 refine wpAny_setField hT hd z3 (h _ ⟨fun b o q _ _ n3=>(oth b fun y=>n3 (by rw [y])).trans q,fun b o q n1=>⟨o.slots,(oth b fun y=>nT (y ▸ n1)).trans q⟩,fun b o q=>?_⟩
  ⟨ne,vs,sl,_,_,(oth x (Ne.symm ne)).trans he,h1,tT,Obj.data_mapFields hd _,by simp [z3]⟩)
 by_cases hb:b=T
 ·subst hb;exact ⟨_,tT⟩
 ·exact ⟨o,(oth b hb).trans q⟩
end
section
variable {P:Program} {w:World} {H:Hp} {h h':Heap} {fs:List Addr} {x C T:Addr} {od:Option Addr} {fl:Value} {To:Option Addr} {o:HO}
theorem Kp.hok (k:Kp fs x To h h') (ok:HOk P w H h) (hfs:∀ b ∈ fs,H b=none) (hT:∀ t,To=some t→H t=none) (mu:Mut (H x)) (new:XA x C od h'):HOk P w (upd H x (.ext (XA x C od))) h':=fun b u q=>by
 have nown:∀ c y,H c=some (.own y)→c ≠ x:=fun c y r z=>by subst z;rw [r] at mu;exact mu
 have ntup:∀ c xs,H c=some (.tup xs)→c ≠ x:=fun c xs r z=>by subst z;rw [r] at mu;exact mu
 have kk:∀ c v,c ≠ x→H c ≠ none→h.get? c=some v→h'.get? c=some v:=fun c v n1 n2 r=>k.keep c v r (fun z=>n2 (hfs c z)) n1 fun z=>n2 (hT c z.symm)
 by_cases hb:b=x
 ·subst hb;rw [db] at q;cases q;exact new.ok
 ·rw [lb hb] at q
  refine (ok b u q).stay (fun c v hc r=>?_) (fun c r=>by rw [lb (nown c b r)];exact r) fun c xs r=>by rw [lb (ntup c xs r)];exact r
  rcases hc with rfl | hc
  ·exact kk c v hb (by rw [q];exact fun z=>by cases z) r
  ·exact kk c v (nown c b hc) (by rw [hc];exact fun z=>by cases z) r
theorem Kp.un (k:Kp fs x To h h') (hT:∀ t,To=some t→H t=none) (mu:Mut (H x)):Un fs To.toList H (upd H x o) h h':=by
 have hx:∀ b,H b=none→b ≠ x:=fun b n z=>by subst z;rw [n] at mu;exact mu
 have hm:∀ b u,H b=some u→¬ Mut (some u)→b ≠ x:=fun b u q nm z=>by subst z;rw [q] at mu;exact nm mu
 refine ⟨fun b u q n n1 n2=>k.keep b u q n1 (hx b n) fun z=>n2 (by rw [← z];simp),fun b u q n n1 n2=>k.slot b u q n1,fun b u q n _=>by rw [lb (hx b n)];exact n,fun b u q _=>k.there b u q,
  fun b xs q=>by rw [lb (hm b _ q fun z=>z)];exact q,fun b u xs q=>by rw [lb (hm b _ q fun z=>z)];exact q,fun b ps q=>⟨#[],by rw [lb (hm b _ q fun z=>z),q];simp⟩⟩
end
noncomputable def CX1 (P:Program) (w:World):CXT:=fun outer H s E e s'=>
 ∃ x C od H' T,e=.ref x∧s'.os=s.os∧AllBare s'.gens∧Un (frs outer) [] H H' s.heap s'.heap∧HOk P w H' s'.heap∧H' x=some (.ext (XA x C od))∧s.heap.objs.size ≤ T∧H' T=none∧FlA x C od T .none s'.heap∧E (.ref C) od H'
noncomputable def PD (X:Cx) (E:St→XK):Prop:=∀ (pins:List (Addr × Obj)) (σ:St) (H:Hp) (s:Shared) (x C:Addr) (od:Option Addr),Inv X pins σ H s→H x=some (.ext (XF x C od))→E σ (.ref C) od (upd H x (.ext (XA x C od)))→X.xe (.ref x) s
noncomputable def vy (CX:CXT) (X:Cx) (E:St→XK):Prop:=∀ (pins:List (Addr × Obj)) (σ:St) (H:Hp) (s:Shared) (e:Value) (s':Shared),Inv X pins σ H s→CX X.stack H s (E σ) e s'→X.xe e s'
structure Fr1 (X:Cx):Prop where
 st:X.stack=X.env :: X.outer
 fr:X.env.frame=some X.env.locals
noncomputable def nN (X:Cx) (pins:List (Addr × Obj)) (T:Addr):Prop:=(T ∈ X.ex∨X.s₀.heap.objs.size ≤ T)∧T ≠ X.env.locals∧(∀ x c,X.env.cells.lookup x=some c→c ≠ T)∧∀ p ∈ X.pn ++ pins,p.1 ≠ T
noncomputable def WB (X:Cx) (pins:List (Addr × Obj)) (E:St→XK) (fl:Value) (e:Value) (s':Shared):Prop:=
 ∃ σ' H' x C od T,e=.ref x∧Inv X pins σ' H' s'∧H' x=some (.ext (XA x C od))∧H' T=none∧nN X pins T∧FlA x C od T fl s'.heap∧E σ' (.ref C) od H'
noncomputable def xeR (X:Cx) (pins:List (Addr × Obj)) (E:St→XK) (e:Value) (s':Shared):Prop:=
 ∃ σ' H' x C od,e=.ref x∧Inv X pins σ' H' s'∧H' x=some (.ext (XF x C od))∧E σ' (.ref C) od (upd H' x (.ext (XA x C od)))
noncomputable def xeT (X:Cx) (pins:List (Addr × Obj)) (E:St→XK) (e:Value) (s':Shared):Prop:=xeR X pins E e s'∨∃ fl,WB X pins E fl e s'
noncomputable def xeA (X:Cx) (E:St→XK) (e:Value) (s':Shared):Prop:=∃ pins,xeT X pins E e s'
section
variable {X:Cx} {pins:List (Addr × Obj)} {σ:St} {H:Hp} {s:Shared} {T x C:Addr} {od:Option Addr} {E:St→XK} {M:Model} {A:Around} {E':Value→Shared→Prop} {Q:Unit→Shared→Prop} {e fl:Value} {h':Heap}
theorem pP (I:Inv X pins σ H s) (hT:s.heap.objs.size ≤ T):nN X pins T:=by
 have lt:∀ {b:Addr} {o:Obj},s.heap.get? b=some o→b ≠ T:=fun q z=>by
  subst z
  exact absurd (Nat.lt_of_lt_of_le (Heap.lt_size q) hT) (Nat.lt_irrefl _)
 refine ⟨.inr (Nat.le_trans I.sz hT),fun z=>?_,fun x c e=>?_,fun p hp=>lt (I.pin p hp).1⟩
 ·obtain ⟨m,⟨o,es,ep,ho,_⟩,_⟩:=I.loc
  exact lt ho z.symm
 ·obtain ⟨v,o,ho,_⟩:=I.cell x c e
  exact lt ho
theorem GK (I:Inv X pins σ H s) (k:Kp (frs X.stack) x (some T) s.heap h') (ex:H x=some (.ext (XA x C od))) (eT:H T=none) (nT:nN X pins T) (xa:XA x C od h'):Inv X pins σ H { s with heap:=h' }:=by
 have mu:Mut (H x):=by rw [ex];exact True.intro
 have z:∀ t,some T=some t→H t=none:=fun t z=>by cases z;exact eT
 have u1:=k.un (H:=H) (o:=.ext (XA x C od)) z mu
 have k1:=k.hok I.hok I.stkFree z mu xa
 rw [tJ ex] at u1 k1
 exact I.call' (s':={ s with heap:=h' }) (ch:=[T]) rfl u1 k1 I.bare fun b hb=>by
  obtain rfl:b=T:=by simpa using hb
  exact nT
theorem BJ (F:Fr1 X) (I:Inv X pins σ H s) (k:Kp (frs (X.env :: X.outer)) x (some T) s.heap h') (ex:H x=some (.ext (XA x C od))) (eT:H T=none) (nT:nN X pins T) (xa:XA x C od h'):Inv X pins σ H { s with heap:=h' }:=
 GK I (by rw [F.st];exact k) ex eT nT xa
theorem WB.note (F:Fr1 X) (q:WB X pins E fl e s) (hne:¬ (fl == rawInt X.env.locals)=true) (h:∀ s',WB X pins E (rawInt X.env.locals) e s'→Q () s'):wpAny M X.A (noteFrame e X.env) Q E' s:=by
 obtain ⟨σ,H,x,C,od,T,rfl,I,ex,eT,nT,f,w⟩:=q
 have fs:s.heap.FunFrames X.base (X.env :: X.outer):=by rw [← F.st];exact I.stack
 exact wF (by rw [← F.st];exact I.ok.frames) fs F.fr F.fr f hne fun h' T' k w' f'=>h _ ⟨σ,H,x,C,od,T',rfl,BJ F I k ex eT nT f'.xa,ex,I.hok.fresh w',pP I w',f',w⟩
theorem WB.noted (F:Fr1 X) (q:WB X pins E (rawInt X.env.locals) e s) (h:Q () s):wpAny M X.A (noteFrame e X.env) Q E' s:=by
 obtain ⟨σ,H,x,C,od,T,rfl,I,ex,eT,nT,⟨ne,vs,sl,oT,ts,he,h1,hT,hd,h3⟩,w⟩:=q
 unfold noteFrame
 simp only [F.fr]
 refine wpAny_bind (wpAny_field he rfl h1 ?_)
 rw [if_pos (show (Value.ref T != Value.none)=true from by simp)]
 refine wpAny_bind (wpAny_field hT hd h3 ?_)
 rw [if_pos (show (rawInt X.env.locals == rawInt X.env.locals)=true from by simp)]
 exact wpAny_pure h
theorem xeR.note (F:Fr1 X) (q:xeR X pins E e s) (h:∀ s',WB X pins E (rawInt X.env.locals) e s'→Q () s'):wpAny M X.A (noteFrame e X.env) Q E' s:=by
 obtain ⟨σ,H,x,C,od,rfl,I,ex,w⟩:=q
 have fs:s.heap.FunFrames X.base (X.env :: X.outer):=by rw [← F.st];exact I.stack
 obtain ⟨vs,sl,hx,z1,z2⟩:=(show Gd X.prog X.w H s.heap x (.ext (XF x C od)) from I.hok _ _ ex).1
 have mu:Mut (H x):=by rw [ex];exact True.intro
 refine AB (by rw [← F.st];exact I.ok.frames) fs F.fr F.fr hx z2 fun h' T k w' f=>h _ ?_
 have z:∀ t,none=some t→H t=none:=fun t z=>by cases z
 have u1:=k.un (H:=H) (o:=.ext (XA x C od)) z mu
 have k1:=k.hok I.hok (by rw [← F.st];exact I.stkFree) z mu f.xa
 rw [← F.st] at u1
 have I2:=I.call' (s':={ s with heap:=h' }) (ch:=[]) rfl u1 k1 I.bare fun b hb=>absurd hb (by simp)
 exact ⟨σ,_,x,C,od,T,rfl,I2,db,by rw [lb f.1];exact I.hok.fresh w',pP I w',f,w⟩
theorem xeT.note (F:Fr1 X) (q:xeT X pins E e s) (h:∀ s',WB X pins E (rawInt X.env.locals) e s'→Q () s'):wpAny M X.A (noteFrame e X.env) Q E' s:=by
 rcases q with q | ⟨fl,q⟩
 ·exact q.note F h
 ·by_cases c:(fl == rawInt X.env.locals)=true
  ·rw [beq_iff_eq] at c
   subst c
   exact q.noted F (h _ q)
  ·exact q.note F c h
theorem WB.flight (F:Fr1 X) (o:Option Addr) (q:WB X pins E fl e s) (h:∀ s',WB X pins E (o.elim .none fun f=>rawInt f) e s'→Q () s'):wpAny M A (setFlight e o) Q E' s:=by
 obtain ⟨σ,H,x,C,od,T,rfl,I,ex,eT,nT,f,w⟩:=q
 have fs:s.heap.FunFrames X.base (X.env :: X.outer):=by rw [← F.st];exact I.stack
 have nf:T ∉ frs (X.env :: X.outer):=by
  obtain ⟨_,_,_,oT,ts,_,_,e,d,_⟩:=id f
  exact nofr fs e d
 exact L2.flight o f nf fun h' k f'=>h _ ⟨σ,H,x,C,od,T,rfl,BJ F I k ex eT nT f'.xa,ex,eT,nT,f',w⟩
theorem xeT.leave (F:Fr1 X) (q:xeT X pins E e s) (h:∀ s',WB X pins E .none e s'→Q () s'):wpAny M X.A (leaving X.env e) Q E' s:=by
 unfold leaving
 exact wpAny_bind (q.note F fun s' q'=>q'.flight F none h)
theorem Cy (F:Fr1 X):PassesOwn M X.A X.env (xeT X pins E):=fun e s' q=>by
 refine q.note F fun s2 q2=>?_
 show wpAny _ _ _ _ _ _
 obtain ⟨σ,H,x,C,od,T,rfl,I,ex,eT,nT,⟨ne,vs,sl,oT,ts,he,h1,hT,hd,h3⟩,w⟩:=id q2
 refine wpAny_bind (wpAny_field he rfl h1 ?_)
 rw [if_neg (show ¬ (Value.ref T == Value.none)=true from by simp)]
 rw [F.fr]
 exact q2.flight F _ fun s3 q3=>.inr ⟨_,q3⟩
theorem De (F:Fr1 X):PassesOwn M X.A X.env (xeA X E):=fun e s' ⟨pins,q⟩=>by
 have z:=Cy (M:=M) F e s' q
 refine wpAny_mono z (fun _ s2 q2=>?_) fun e2 s2 q2=>?_
 all_goals exact wpAny_mono q2 (fun _ s3 q3=>⟨pins,q3⟩) fun e3 s3 q3=>⟨pins,q3⟩
theorem jL:PD (X.wish (xeA X E)) E:=fun pins σ H s x C od I ex q=>⟨pins,.inl ⟨σ,H,x,C,od,rfl,I.unwish,ex,q⟩⟩
theorem dM {E0:XK} {s':Shared} (I:Inv X pins σ H s) (hq:CX1 X.prog X.w X.stack H s E0 e s') (h:∀ C od H',E0 C od H'→E σ C od H'):xeT X pins E e s':=by
 obtain ⟨x,C,od,H2,T,rfl,os,bare,un,hok,ex,hT,eT,fl,q⟩:=hq
 exact .inr ⟨_,σ,H2,x,C,od,T,rfl,I.call' os un hok bare (fun b z=>absurd z (by simp)),ex,eT,pP I hT,fl,h _ _ _ q⟩
end
theorem je {X:Cx} {E:XK}:Hj (CX1 X.prog X.w) (X.wish (xeA X fun _=>E)) E:=fun pins σ H s e s' I hq=>⟨pins,dM I.unwish hq fun _ _ _ z=>z⟩
theorem gv {X:Cx} {E:XK}:PD (X.wish (xeA X fun _=>E)) (fun _=>E):=jL
section
variable {P:Program} {w:World} {K:PySem.W.Frag} {mg:Str→Option Value} {base:Heap} {N:List Str} {qual:Str} {scope:Scope} {f:Addr} {cd:Value} {A:Around} {outer:List Env} {s:Shared} {H:Hp} {E:XK}
theorem KJ {e:Value} {s':Shared} (q:xeA (cE (CX1 P w) P w K mg base N qual scope f cd A outer s H E) (fun _=>E) e s'):(cE (CX1 P w) P w K mg base N qual scope f cd A outer s H E).xe e s':=by
 obtain ⟨pins,q⟩:=q
 refine q.leave ⟨rfl,rfl⟩ fun s2 q2=>?_
 obtain ⟨σ,H2,x,C,od,T,rfl,I,ex,eT,nT,fl,q⟩:=q2
 refine ⟨x,C,od,H2,T,rfl,I.os,I.bare,I.base,I.hok,ex,?_,eT,fl,q⟩
 rcases nT.1 with z | z
 ·exact absurd z (by show T ∉ ([]:List Addr);simp)
 ·exact z
end
noncomputable def rJ (sp:Sp) (dvs:List V) (E:St→XK) (t:TA):TE:=fun σ H Q=>t σ H fun vs H1=>sp (vs ++ dvs) H1 Q (E σ)
noncomputable def SN (C:Addr) (m:Str) (sp:Sp) (dvs:List V) (E:St→XK) (ta:TE) (t:TA):TE:=fun σ H Q=>ta σ H fun x H1=>∃ a dx fs,x=.ref a∧H1 a=some (.ins C dx fs)∧fs.lookup m=none ∧
 t σ H1 fun vs H2=>sp (x :: (vs ++ dvs)) H2 Q (E σ)
section
variable {X:Cx} {CX:CXT} {k:Nat} {f C:Addr} {fd:FuncData} {ps:List Str} {sp:Sp} {dvs:List V} {ds:List Value} {E:St→XK} {x m:Str} {p pos apos:Pos} {e o:Expr} {es:List Expr} {ta:TE} {t:TA}
theorem HK {pins:List (Addr × Obj)} {σ:St} {H:Hp} {s:Shared} {Q:VK} {us:List Value} {vs:List V} (F:Eb X.prog X.w X.K X.mg X.base CX k f fd ps sp) (hr:Bi k X.A) (hb:Nb X.K fd ps ds) (hd:kd dvs ds) (hx:vy CX X E)
  (I:Inv X pins σ H s) (r:kd vs us) (h:sp (vs ++ dvs) H Q (E σ)):wpAny (model X.prog X.w) X.A (call (.ref f) us) (EP X pins σ Q) X.xe s:=by
 have r2:kd (vs ++ dvs) (us ++ ds):=r.append hd
 have hl:(us ++ ds).length=ps.length:=by rw [← r2.length];exact F.len _ _ _ _ h
 refine wpAny_call (codeAny_mono (F.run X.A X.stack s H ⟨us,[]⟩ (us ++ ds) (vs ++ dvs) Q (E σ) hr I.env0 (hb s us I.kIn hl) r2 h) fun r s' hq=>?_)
 rcases r with e | (u | _ | _ | _)
 ·exact hx pins σ H s e s' I hq
 all_goals first | exact I.after hq | exact False.elim hq
theorem lz (F:Eb X.prog X.w X.K X.mg X.base CX k f fd ps sp) (hr:Bi k X.A) (hg:Gl X x) (hm:X.mg x=some (.ref f)) (hk:PySem.W.keepIn X.K (.ref f)=true) (hb:Nb X.K fd ps ds) (hd:kd dvs ds) (hx:vy CX X E)
  (ha:PA X (e :: es) t) (hdb:(x == ("__debug__" : Str))=false:=by decide) (he:starEach (e :: es) X.env=(false,eval e X.env) :: starEach es X.env:=by rfl) (hpl:(backTo pos (starEach es X.env)).any (·.1)=false:=by rfl) :
  PE X (.Call (.Name x p) (e :: es) [] pos) (rJ sp dvs E t):=by
 intro pins s σ H Q I h
 refine wpAny_Call_Name_kw (Zi I hg hm ?_ hdb)
 exact PySem.W.callWith_K (h₀:=X.base) I.ok.mod.kin hk (thn (ha pos pins s σ H _ I h) fun us s1 ⟨vs,H1,I1,r,q⟩=>⟨I1.kIn,HK F hr hb hd hx I1 r q⟩) he hpl
end
noncomputable abbrev Cx.tr (X:Cx) (pn:List (Addr × Obj)) (E:Value→Shared→Prop):Cx:={ X with pn:=X.pn ++ pn,xe:=E }
noncomputable abbrev Cx.hn (X:Cx) (e:Value):Cx:={ X with A:=X.A.mark (some e),calm:=false,xe:=fun _ _=>False }
section
variable {X:Cx} {pins pins':List (Addr × Obj)} {σ:St} {H:Hp} {s:Shared} {E:Value→Shared→Prop} {e:Value}
theorem Cx.Ok.tr (ok:X.Ok) (pn:List (Addr × Obj)) (E:Value→Shared→Prop):(X.tr pn E).Ok:=
 ⟨ok.mod,ok.kind,ok.glob,ok.blt,ok.above,ok.inj,ok.has,ok.cab,ok.hd,ok.frames,ok.stk,ok.exf,ok.bs,ok.bsz,ok.noex,ok.exfs,ok.funs,ok.frf⟩
theorem Cx.Ok.untr {pn:List (Addr × Obj)} (ok:(X.tr pn E).Ok):X.Ok:=
 ⟨ok.mod,ok.kind,ok.glob,ok.blt,ok.above,ok.inj,ok.has,ok.cab,ok.hd,ok.frames,ok.stk,ok.exf,ok.bs,ok.bsz,ok.noex,ok.exfs,ok.funs,ok.frf⟩
theorem Cx.Ok.hn (ok:X.Ok) (e:Value):(X.hn e).Ok:=
 ⟨ok.mod,ok.kind,ok.glob,ok.blt,ok.above,ok.inj,ok.has,ok.cab,(fun z=>Bool.noConfusion z),ok.frames,ok.stk,ok.exf,ok.bs,ok.bsz,ok.noex,ok.exfs,ok.funs,ok.frf⟩
theorem Inv.tr (I:Inv X pins σ H s) (E:Value→Shared→Prop):Inv (X.tr pins E) [] σ H s:=⟨I.ok.tr pins E,I.os,I.bare,I.base,I.loc,I.cell,I.free,I.freeC,fun p hp=>I.pin p (by simpa using hp),I.hok,I.len⟩
theorem Inv.untr (I:Inv (X.tr pins E) pins' σ H s):Inv X pins σ H s:=⟨I.ok.untr,I.os,I.bare,I.base,I.loc,I.cell,I.free,I.freeC,fun p hp=>I.pin p (List.mem_append_left _ hp),I.hok,I.len⟩
theorem Inv.hn (I:Inv X pins σ H s) (e:Value):Inv (X.hn e) pins σ H s:=⟨I.ok.hn e,I.os,I.bare,I.base,I.loc,I.cell,I.free,I.freeC,I.pin,I.hok,I.len⟩
theorem Inv.unhn (ok:X.Ok) (I:Inv (X.hn e) pins σ H s):Inv X pins σ H s:=⟨ok,I.os,I.bare,I.base,I.loc,I.cell,I.free,I.freeC,I.pin,I.hok,I.len⟩
theorem SP.untr {D:Kg} {f:Flow} {s':Shared} (h:SP (X.tr pins E) pins' D f s'):SP X pins D f s':=by
 cases f with
 | next=>obtain ⟨σ',H',I,q⟩:=h;exact ⟨σ',H',I.untr,q⟩
 | brk=>obtain ⟨σ',H',I,q⟩:=h;exact ⟨σ',H',I.untr,q⟩
 | cont=>obtain ⟨σ',H',I,q⟩:=h;exact ⟨σ',H',I.untr,q⟩
 | ret u=>obtain ⟨v,σ',H',I,r,q⟩:=h;exact ⟨v,σ',H',I.untr,r,q⟩
end
theorem xD {X:Cx} {pins:List (Addr × Obj)} {E:St→XK}:vy (CX1 X.prog X.w) (X.tr pins (xeT X pins E)) E:=by
 intro pins' σ H s e s' I hq
 obtain ⟨x,C,od,H2,T,rfl,os,bare,un,hok,ex,hT,eT,fl,q⟩:=hq
 have I2:=I.call' os un hok bare (fun b z=>absurd z (by simp))
 exact .inr ⟨_,σ,H2,x,C,od,T,rfl,I2.untr,ex,eT,pP I.untr hT,fl,q⟩
theorem Lm {X:Cx} {pins:List (Addr × Obj)} {σ:St} {H:Hp} {s:Shared} {i:Nat} {n:Str} {pos:Pos} {A:Around} {E:Value→Shared→Prop} {Q:Unit→Shared→Prop} (I:Inv X pins σ H s) (hN:X.N.Nodup) (hi:X.N[i]? = some n)
  (hl:X.env.scope.names.lookup n=some .local) (h:∀ s',Inv X pins (σ.set i none) H s'→Q () s'):wpAny (model X.prog X.w) A (do bindName X.env n .none;unbindBehindTheSuite X.env n pos) Q E s:=by
 have hiσ:i < σ.length:=by rw [I.len];exact (List.getElem?_eq_some_iff.mp hi).1
 refine wpAny_bind (wpAny_bindName (Qp I hN hi (.inl hl) (v:=.non) (u:=.none) rfl (fun s1 I1=>?_) (.inr hl)))
 obtain ⟨m,hn,hlk⟩:=I1.loc
 have hk:X.env.kindOf n=some .local:=hl
 obtain ⟨u,ru,lk⟩:=hlk i n .non hi (List.getElem?_set_self hiσ) (.inl hl)
 have hmn:(m n).isSome=true:=by
  rcases lk with ⟨_,e⟩ | ⟨k,_⟩
  ·rw [e];rfl
  ·rcases k with k | k <;> (rw [hk] at k;cases k)
 have hp:(X.env.scope.kind == .class || (X.env.scope.kind == .module && X.env.locals != X.env.globals))=false:=by rw [I.ok.kind];rfl
 unfold unbindBehindTheSuite
 refine wpAny_onRaise ?_
 unfold unbindName
 refine wpAny_bind (wpAny_point (wpAny_bind ?_))
 unfold deleteName
 simp only [hk,hp]
 rw [if_neg (by decide)]
 refine wpAny_bind (wpAny_nsDel_keeps hn fun h2 v2 hn2 hs=>?_)
 rw [hmn]
 refine wpAny_pure (wpAny_point (h _ ?_))
 have neL:∀ b o,X.s₀.heap.get? b=some o→b ≠ X.env.locals:=fun b o e=>Nat.ne_of_lt (Nat.lt_of_lt_of_le (Heap.lt_size e) I1.ok.above)
 refine ⟨I1.ok,I1.os,I1.bare,⟨fun b o e n' hb hx=>(hs.2 b (neL b o e)).trans (I1.base.keep b o e n' hb hx),fun b o e n' hb hx=>?_,I1.base.free,fun b o e hx=>?_,I1.base.tups,I1.base.frzs,I1.base.tbls⟩,⟨_,hn2,fun j y v e1 e2 e3=>?_⟩,fun y c e=>?_,I1.free,I1.freeC,fun p hp=>?_,fun b u' e=>?_,by simpa using I.len⟩
 ·obtain ⟨sl,e1⟩:=I1.base.slot b o e n' hb hx
  exact ⟨sl,(hs.2 b (neL b o e)).trans e1⟩
 ·obtain ⟨o',e1⟩:=I1.base.there b o e hx
  exact ⟨o',(hs.2 b (neL b o e)).trans e1⟩
 ·by_cases hj:j=i
  ·subst hj
   rw [List.getElem?_set_self hiσ] at e2
   cases e2
  ·rw [List.getElem?_set_ne (Ne.symm hj)] at e2
   obtain ⟨u',r',q⟩:=hlk j y v e1 (by rw [List.getElem?_set_ne (Ne.symm hj)];exact e2) e3
   refine ⟨u',r',?_⟩
   rcases q with ⟨k,e⟩ | ⟨k,c,e,z⟩
   ·refine .inl ⟨k,?_⟩
    have:y ≠ n:=fun e=>hj (xu hN e1 (e ▸ hi))
    simp [this,e]
   ·exact .inr ⟨k,c,e,z.sameBut hs (I1.cne y c e)⟩
 ·obtain ⟨w',z⟩:=I1.cell y c e
  exact ⟨w',z.sameBut hs (I1.cne y c e)⟩
 ·obtain ⟨e,n',ne,nf,d⟩:=I1.pin p hp
  exact ⟨(hs.2 p.1 ne).trans e,n',ne,nf,d⟩
 ·have nL:∀ c,H c ≠ none→c ≠ X.env.locals:=fun c q z=>q (by rw [z];exact I1.free)
  refine (I1.hok b u' e).stay (fun c v hc q=>(hs.2 c (nL c ?_)).trans q) (fun _ q=>q) fun _ _ q=>q
  rcases hc with rfl | hc
  ·rw [e];exact fun z=>by cases z
  ·rw [hc];exact fun z=>by cases z
noncomputable def Kg.gone (D:Kg) (i:Nat):Kg:={ nx:=fun σ H=>D.nx (σ.set i none) H,rt:=D.rt,bk:=fun σ H=>D.bk (σ.set i none) H,ct:=fun σ H=>D.ct (σ.set i none) H }
noncomputable def jQ (K:PySem.W.Frag) (c:Addr) (i:Nat) (th:TS) (D:Kg):St→XK:=fun σ C od H=>∃ C',C=.ref C'∧PySem.W.exmOne K C (.ref c)=some true∧∀ x,H x=some (.ext (XA x C' od))→th (D.gone i) (σ.set i (some (.ref x))) H
noncomputable def IP (K:PySem.W.Frag) (c:Addr) (i:Nat) (tb:(St→XK)→TS) (th:TS):TS:=fun D σ H=>tb (jQ K c i th D) D σ H
section
variable {X:Cx} {body suite:List Stmt} {b0:Stmt} {x n:Str} {c:Addr} {i:Nat} {tb:(St→XK)→TS} {th:TS} {xp hp pos:Pos}
theorem CN (hb:∀ pins E,PSs (X.tr pins (xeT X pins E)) body (tb E)) (hg:Gl X x) (hm:X.mg x=some (.ref c)) (hh:∀ e,PSs (X.hn e) (b0 :: suite) th) (hN:X.N.Nodup) (hi:X.N[i]? = some n)
  (hl:X.env.scope.names.lookup n=some .local) (F:Fr1 X:=by exact ⟨rfl,rfl⟩) (hdb:(x == ("__debug__" : Str))=false:=by decide) :
  PS X (.Try body [.ExceptHandler (some (.Name x xp)) (some n) (b0 :: suite) hp] [] [] pos) (IP X.K c i tb th):=by
 intro pins s σ H D I h
 refine wpAny_Try_except (wpAny_mono (hb pins _ [] s σ H D (I.tr _) h) (fun f s1 q=>?_) fun e s1 q=>?_)
 ·have q':=q.untr
  cases f with
  | next=>exact wpAny_execs_nil q'
  | brk=>exact q'
  | cont=>exact q'
  | ret u=>exact q'
 ·refine q.note F fun s2 q2=>q2.flight F none fun s3 q3=>?_
  obtain ⟨σ1,H1,a,C,od,T,rfl,I2,ea,eT,nT,fl,C',eC,em,w⟩:=id q3
  cases eC
  refine wpAny_handleBy_cons (codeAny_handlers_test (Zi (I2.hn (.ref a)) hg hm ?_ hdb)) (fun z=>by cases z)
  have LT:PySem.W.Looks (model X.prog X.w) s3.heap (typeOf (.ref a)) (.ref C):=by
   obtain ⟨vs,sl,e⟩:=fl.xa
   exact (PySem.W.Looks.ld e).andThen .now
  refine (PySem.W.exm_one I2.kIn LT em).here ?_
  rw [if_pos rfl]
  refine codeAny_handlers_suite_as (q3.flight F none fun s4 q4=>?_)
  ·obtain ⟨σ1,H1,a',C,od,T,ea',I3,ea,eT,nT,fl,C',eC,em,w⟩:=q4
   cases eC
   cases ea'
   refine Qp (X:=X.hn (.ref a)) (I3.hn (.ref a)) hN hi (.inl hl) (v:=.ref a) (u:=.ref a) rfl (fun s5 I4=>?_) (.inr hl)
   refine wpAny_mono (hh (.ref a) pins s5 _ H1 (D.gone i) I4 (w a ea)) (fun f s5 q5=>?_) fun _ _ z=>False.elim z
   cases f with
   | next=>obtain ⟨σ',H',J,q⟩:=q5;exact Lm (J.unhn I.ok) hN hi hl fun s6 I6=>⟨_,_,I6,q⟩
   | brk=>obtain ⟨σ',H',J,q⟩:=q5;exact Lm (J.unhn I.ok) hN hi hl fun s6 I6=>⟨_,_,I6,q⟩
   | cont=>obtain ⟨σ',H',J,q⟩:=q5;exact Lm (J.unhn I.ok) hN hi hl fun s6 I6=>⟨_,_,I6,q⟩
   | ret u=>obtain ⟨v,σ',H',J,r,q⟩:=q5;exact Lm (J.unhn I.ok) hN hi hl fun s6 I6=>⟨v,_,_,I6,r,q⟩
end
theorem EL {X:Cx} {body suite:List Stmt} {b0:Stmt} {x n:Str} {c:Addr} {i:Nat} {tb:(St→XK)→TS} {th:TS} {xp hp pos:Pos} (hb:∀ pins E,∃ t,PSs (X.tr pins (xeT X pins E)) body t∧t=tb E) (hg:Gl X x) (hm:X.mg x=some (.ref c))
  (hh:∀ e,∃ t,PSs (X.hn e) (b0 :: suite) t∧t=th) (hN:X.N.Nodup) (hi:X.N[i]? = some n) (hl:X.env.scope.names.lookup n=some .local) (F:Fr1 X:=by exact ⟨rfl,rfl⟩)
  (hdb:(x == ("__debug__" : Str))=false:=by decide):PS X (.Try body [.ExceptHandler (some (.Name x xp)) (some n) (b0 :: suite) hp] [] [] pos) (IP X.K c i tb th):=
 CN (fun pins E=>by obtain ⟨t,h,rfl⟩:=hb pins E;exact h) hg hm (fun e=>by obtain ⟨t,h,rfl⟩:=hh e;exact h) hN hi hl F hdb
theorem iL (K:PySem.W.Frag) (c:Addr) (i:Nat) (tb:(St→XK)→TS) (th:TS) (D:Kg) (σ:St) (H:Hp):IP K c i tb th D σ H=tb (jQ K c i th D) D σ H:=rfl
theorem NL (K:PySem.W.Frag) (c:Addr) (i:Nat) (th:TS) (D:Kg) (σ:St) (C:Value) (od:Option Addr) (H:Hp) :
  jQ K c i th D σ C od H = ∃ C',C=.ref C'∧PySem.W.exmOne K C (.ref c)=some true∧∀ x,H x=some (.ext (XA x C' od))→th (D.gone i) (σ.set i (some (.ref x))) H:=rfl
theorem lM (D:Kg) (i:Nat) (σ:St) (H:Hp):(D.gone i).nx σ H=D.nx (σ.set i none) H:=rfl
theorem QL (D:Kg) (i:Nat) (v:V) (H:Hp):(D.gone i).rt v H=D.rt v H:=rfl
theorem OwnTail.has {h:Heap} {bm tl:List Value} {v:Value} (T:OwnTail h bm tl) (e:bm.contains v=true):tl.contains v=true:=by
 induction T with
 | base=>exact e
 | own _ _ _ _ ih=>rw [List.contains_cons,ih,Bool.or_true]
noncomputable def FJ (K:PySem.W.Frag) (E:St→XK) (te:TE):TS:=fun D σ H=>te σ H fun v H1=>∃ x C od,v=.ref x∧H1 x=some (.ext (XF x C od))∧Qr K C∧E σ (.ref C) od (upd H1 x (.ext (XA x C od)))
theorem RA {M:Model} {A:Around} {E:Value→Shared→Prop} {s:Shared} {env:Env} {x:Sem Value} {Q:Flow→Shared→Prop} (hh:A.handled=none)
  (h:wpAny M A x (fun v s1=>∃ e C od vs sl nm q N bs bm hdct sn sub ab col dd k0 k1 k2 k3 k5 newId,v=.ref e∧bm.contains (.type "BaseException")=true ∧
   s1.heap.get? C=some (excClassObj nm q C N bs bm hdct sn sub ab col dd k0 k1 k2 k3 k5 newId)∧s1.heap.get? e=some ⟨.ref C,od,.fields vs,sl⟩∧vs[1]? = some .none∧E (.ref e) s1) E s) :
  wpAny M A (raiseStmt env (some x) none) Q E s:=by
 unfold raiseStmt
 refine wpAny_bind (wpAny_mono h (fun v s1 h1=>?_) fun _ _ x=>x)
 obtain ⟨e,C,od,vs,sl,nm,q,N,bs,bm,hdct,sn,sub,ab,col,dd,k0,k1,k2,k3,k5,newId,rfl,hb,hC,he,h1,hE⟩:=h1
 have hcB:(Value.ref C :: bm).contains (.type "BaseException")=true:=by rw [List.contains_cons,hb,Bool.or_true]
 obtain ⟨hp,g,d,tk,os⟩:=s1
 repeat (first | with_reducible refine wpAny_loadPart_at he ?_ | with_reducible refine wpAny_loadPart_at hC ?_ | (with_reducible refine wpAny_isSubtype_exc hC ?_;rw [hcB]) | (with_reducible refine wpAny_field he rfl h1 ?_) | wp_step)
 exact wpAny_raiseNew_none hh hE
section
variable {X:Cx} {e:Expr} {te:TE} {pos:Pos} {E:St→XK}
theorem Np (he:PE X e te) (hT:PD X E) (hc:X.calm=true:=by rfl):PS X (.Raise (some e) none pos) (FJ X.K E te):=by
 intro pins s σ H D I h
 rw [arm_exec_Raise]
 refine wpAny_bind (wpAny_standAt (RA (I.ok.hd hc) ?_))
 refine wpAny_bind (thn (he pins s σ H _ I h) fun u s1 ⟨v,H1,I1,r,x,C,od,ev,ex,c,q⟩=>wpAny_bind (wpAny_standAt (wpAny_pure ?_)))
 subst ev
 obtain rfl:u=Value.ref x:=r
 obtain ⟨vs,sl,hx,z1,z2⟩:=(show Gd X.prog X.w H1 s1.heap x (.ext (XF x C od)) from I1.hok _ _ ex).1
 obtain ⟨fI,hfI⟩:=c.ex
 obtain ⟨tl,N,nm,q',bs,sn,sub,ab,co,dd,k0,k1,k2,k3,k5,mN,hC,hN,hi,T⟩:=ou I1.kIn hfI
 exact ⟨x,C,od,vs,sl,nm,q',N,bs,tl,true,sn,sub,ab,co,dd,k0,k1,k2,k3,k5,_,rfl,L2.OwnTail.has T (by decide),hC,hx,z2,hT pins σ H1 s1 x C od I1 ex q⟩
theorem PS.nox {X:Cx} {st:Stmt} {t:TS} (h:PS X.nox st t):PS X st t:=fun pins s σ H D I hw=>
 wpAny_mono (h pins s σ H D (I.wish _) hw) (fun _ _ q=>q.unwish) fun _ _ z=>False.elim z
end
theorem Fun.okX {P:Program} {w:World} {K:PySem.W.Frag} {mg:Str→Option Value} {base:Heap} {x qual:Str} {st:Stmt} {f:Addr} {fd:FuncData} {N ps:List Str} {k:Nat} {sp:Sp} (F:Fun K x qual st f fd) (S:xb N ps (ib st))
  (len:∀ vs H Q E,sp vs H Q E→vs.length=ps.length)
  (hbody:∀ (cdv:Value) (A:Around) (outer:List Env) (s:Shared) (H:Hp) (vs:List V) (Q:VK) (E:XK),Bi k (A.deeper (envOfC qual (ib st) s.heap.objs.size f cdv))→sp vs H Q E →
   ∃ t,PSs ((cE (CX1 P w) P w K mg base N qual (ib st) f cdv A outer s H E).wish (xeA (cE (CX1 P w) P w K mg base N qual (ib st) f cdv A outer s H E) fun _=>E)) (qm st) t∧t { nx:=fun _ H'=>Q .non H',rt:=Q } (start N vs) H):Eb P w K mg base (CX1 P w) (k + 1) f fd ps sp:=by
 obtain ⟨oc,od,kV,doc,pm,an,cdv,ct,osl,rfl,lk,hcd⟩:=F.ex
 refine RN lk hcd S len fun A outer s H vs Q E hr hsp=>?_
 obtain ⟨t,h,q⟩:=hbody cdv A outer s H vs Q E hr hsp
 exact ⟨t,fun pins s1 σ H1 D I hw=>wpAny_mono (h pins s1 σ H1 D (I.wish _) hw) (fun _ _ q=>q.unwish) fun _ _ z=>KJ z,q⟩
noncomputable def xeB (B:Cx) (E:XK) (e:Value) (s':Shared):Prop:=
 ∃ pins fl σ' H' x C od T,e=.ref x∧Inv B pins σ' H' s'∧H' x=some (.ext (XA x C od))∧H' T=none∧nN B pins T∧B.s₀.heap.objs.size ≤ T∧FlA x C od T fl s'.heap∧E (.ref C) od H'
structure OQ (X:Cx) (scope:Scope) (N:List Str) (tg elt:Expr) (ifs:List Expr) (g:TG) (tc:TT) (te:XK→TE):Prop where
 tgt:∀ E C s H fp,PG ((X.block scope C N s H fp).wish (xeB (X.block scope C N s H fp) E)) tg g
 tests:∀ E C s H fp,PTs ((X.block scope C N s H fp).wish (xeB (X.block scope C N s H fp) E)) ifs tc
 elem:∀ E C s H fp,PE ((X.block scope C N s H fp).wish (xeB (X.block scope C N s H fp) E)) elt (te E)
theorem OQ.of {X:Cx} {scope:Scope} {N:List Str} {tg elt:Expr} {ifs:List Expr} {g:TG} {tc:TT} {te:XK→TE} (h1:∀ E C s H fp,PG ((X.block scope C N s H fp).wish (xeB (X.block scope C N s H fp) E)) tg g)
  (h2:∀ E C s H fp,∃ t,PTs ((X.block scope C N s H fp).wish (xeB (X.block scope C N s H fp) E)) ifs t∧t=tc) (h3:∀ E C s H fp,∃ t,PE ((X.block scope C N s H fp).wish (xeB (X.block scope C N s H fp) E)) elt t∧t=te E):OQ X scope N tg elt ifs g tc te:=
 ⟨h1,fun E C s H fp=>by obtain ⟨t,h,rfl⟩:=h2 E C s H fp;exact h,fun E C s H fp=>by obtain ⟨t,h,e⟩:=h3 E C s H fp;rw [← e];exact h⟩
noncomputable def JO (J:It) (g:TG) (tc:TT) (te:TE) (σb:St) (Q:VK) (H:Hp):Prop:=∃ W:Nat→Nat→List V→Hp→Prop,(∃ m,W 0 m [] H)∧Dv J g tc te σb Q W
noncomputable def pN (wi:TI) (g:TG) (tc:TT) (te:XK→TE) (sel:List (Option Nat)) (E:St→XK):TE:=fun σ H Q=>wi σ H fun J H1=>JO J g tc (te (E σ)) (blk sel σ) Q H1
section
variable {X:Cx} {elt tg iter:Expr} {ifs:List Expr} {scope:Scope} {pos:Pos} {wi:TI} {g:TG} {tc:TT} {te:XK→TE} {N:List Str} {sel:List (Option Nat)}
theorem FlA.but {x C T c:Addr} {od:Option Addr} {fl:Value} {h h':Heap} (z:FlA x C od T fl h) (n1:x ≠ c) (n2:T ≠ c) (k:∀ b,b ≠ c→h'.get? b=h.get? b):FlA x C od T fl h':=by
 obtain ⟨ne,vs,sl,oT,ts,he,h1,hT,hd,h3⟩:=z
 exact ⟨ne,vs,sl,oT,ts,(k _ n1).trans he,h1,(k _ n2).trans hT,hd,h3⟩
end
structure MQ (K:PySem.W.Frag) (C:Addr):Prop where
 cl:Cls K C
 ha:PySem.W.findIn K (.ref C) "__class__"=some (some (.builtin "object.__class__"))
 hn:PySem.W.specialIn K (.builtin "object.__class__") "__get__"=some (some (.builtin "getset_descriptor.__get__"))
 htk:PySem.W.takesIn K (.builtin "object.__class__")=some true
 hm:PySem.W.mroIn K C (.type "object")=some true
theorem MQ.ty {K:PySem.W.Frag} {H:Hp} {C a dx:Addr} {fs:List (Str × V)} (c:MQ K C) (e:H a=some (.ins C dx fs)):Wz K H (.ref a) (.ref C):=.ins e c.cl c.ha c.hn c.htk c.hm
end L2
namespace L2
open PySem PySem.Spec PyProof.Rows
noncomputable def Itd (hi:Int) (n:Nat):It:=⟨fun i _=>i < n,fun i H x H'=>H'=H∧x=.int (hi - i),fun i _=>n ≤ i⟩
theorem NC {P:Program} {w:World} {K:PySem.W.Frag} {tg:Expr} (it:Addr) (hi:Int) (n:Nat):zJ P w K tg (Itd hi n) [it] it (fun i h=>IsRangeIter h it (hi + (i:Nat) * (-1)) ((n:Int) - (i:Nat)) (-1)) where
 mem:=by simp
 obj:=fun i h st b hb=>by
  have e:b=it:=by simpa using hb
  subst e
  exact ⟨_,st,fun v z=>by
   have z':Data.fields _=Data.cell v:=z
   cases z'⟩
 keep:=fun i h h' st k=>k it (by simp) _ st
 item:=by
  intro X hP hw hK hc i pins s σ H E I hf st hg
  subst hP hw hK
  obtain ⟨f0,f1,f2,f3,f4,f5⟩:=hf it (by simp)
  have W:=Walks.range (prog:=X.prog) (w:=X.w) (I.ok.hd hc) it hi (-1) n
  refine W.item i s _ _ hg st fun v h' tk hv st' kk=>?_
  obtain ⟨t,rfl⟩:=hv
  have I1:Inv X pins σ H { s with heap:=h',toks:=tk }:=I.turned (fun b o hb e=>kk b o (by simpa using hb) e) f0 f1 f3 f4 f5
  refine ⟨_,rfl,UD (s:={ s with heap:=h',toks:=tk }) (n := "range_iterator") st' rfl rfl (by decide) ⟨.int (hi - i),H,I1,⟨t,?_⟩,⟨rfl,rfl⟩,st',fun b hb=>(hf b hb).1⟩⟩
  congr 1
  omega
 done:=by
  intro X hP hw hK hc i pins s σ H E I hf st hg
  subst hP hw hK
  obtain ⟨f0,f1,f2,f3,f4,f5⟩:=hf it (by simp)
  exact wpAny_pyNext_range_end (I.ok.hd hc) st (by have:n ≤ i:=hg;omega) fun h' eb=>⟨rfl,I.turned (t':=s.toks) (fun b o hb e=>eb b o hb e) f0 f1 f3 f4 f5⟩
 self:=fun _ _ _ _ _ st h=>wpAny_pyIter_rangeiter st h
theorem zl (a b:Int):Builtin.Range.rangeSize a b (-1)=if b < a then a - b else 0:=by
 unfold Builtin.Range.rangeSize
 rw [if_neg (show ¬ (-1:Int) > 0 by decide),show (- -1:Int)=1 by decide,Int.ediv_one]
 show (if b < a then a - b - 1 + 1 else 0)=_
 split <;> omega
theorem UA {a b:Int} (ha:-(2 ^ 62) ≤ a) (ha':a < 2 ^ 62) (hb:-(2 ^ 62) ≤ b) (hb':b < 2 ^ 62):Builtin.Range.small a b (-1)=true:=by
 unfold Builtin.Range.small
 rw [zl]
 simp only [Builtin.Range.rangeFitsLong,Bool.and_eq_true,Bool.or_eq_true,decide_eq_true_eq,beq_iff_eq,show ¬ (-1:Int) > 0 by decide,if_false]
 split <;> omega
section
variable {X:Cx} {tg:Expr}
noncomputable def IN (ta:TA):TI:=fun σ H R=>ta σ H fun vs H1=>∃ i j:Int,vs=[.int i,.int j,.int (-1)]∧(-1073741824 ≤ i∧i < 1073741824∧-1073741824 ≤ j∧j < 1073741824)∧R (Itd i (i - j).toNat) H1
theorem CC {a b c:Expr} {ta:TA} {p pos:Pos} (hg:Gl X "range") (hm:X.mg "range"=none) (ha:PA X [a,b,c] ta) (hs:starEach [a,b,c] X.env=[(false,eval a X.env),(false,eval b X.env),(false,eval c X.env)]:=by rfl) (hs2:starEach [b,c] X.env=[(false,eval b X.env),(false,eval c X.env)]:=by rfl) :
  PI X tg (.Call (.Name "range" p) [a,b,c] [] pos) (IN ta):=by
 intro pins s σ H R I h
 refine Call_ (Km I hg hm boot_range (PyProof.Rows.callWith_type1 (thn (ha pos pins s σ H _ I h) fun us s1 hZ1=>?_) (by rw [hs,hs2]) (by rw [hs2];rfl)))
 obtain ⟨vs,H1,I1,r1,q1⟩:=hZ1
 obtain ⟨i,j,e,⟨q1,q2,q3,q4⟩,q⟩:=q1
 subst e
 cases r1 with
 | cons r rr=>
  cases rr with
  | cons r' rr=>
   cases rr with
   | cons r'' rr=>
    cases rr
    obtain ⟨t,rfl⟩:=r
    obtain ⟨t',rfl⟩:=r'
    obtain ⟨t'',rfl⟩:=r''
    refine call_range_3 (by decide) ?_ (Or.inl (PyProof.noPylong_small (by omega)))
    refine wpAny_pyIter_range (IsRange.new ..) (UA (by omega) (by omega) (by omega) (by omega)) ?_
    have I2:Inv X pins σ H1 { s1 with heap:=s1.heap.push { cls:=.type "range",data:=.fields #[.int i t,.int j t',.int (-1) t''] },toks:=s1.toks }:=I1.kept fun b o e=>Heap.get?_push_of_some _ e
    refine ⟨(s1.heap.push { cls:=.type "range",data:=.fields #[.int i t,.int j t',.int (-1) t''] }).objs.size,[(s1.heap.push { cls:=.type "range",data:=.fields #[.int i t,.int j t',.int (-1) t''] }).objs.size],_,_,H1,rfl,
     I2.kept (t':=s1.toks) fun b o e=>Heap.get?_push_of_some _ e,NC _ i (i - j).toNat,?_,fun b hb=>?_,q⟩
    ·have e1:i + ((0:Nat):Int) * (-1)=i:=by simp
     have e2:(((i - j).toNat:Nat):Int) - ((0:Nat):Int)=Builtin.Range.rangeSize i j (-1):=by rw [zl];split <;> omega
     show IsRangeIter _ _ (i + ((0:Nat):Int) * (-1)) ((((i - j).toNat:Nat):Int) - ((0:Nat):Int)) (-1)
     rw [e1,e2]
     exact Heap.get?_push_size _ rfl
    ·have e:b=(s1.heap.push { cls:=.type "range",data:=.fields #[.int i t,.int j t',.int (-1) t''] }).objs.size:=by simpa using hb
     subst e
     exact I2.fpOk (Nat.le_refl _) (I2.hok.fresh (Nat.le_refl _))
end
theorem SA:typeLookup (.type "list_reverseiterator") "__len__"=pure none:=by rw [typeLookup_type,builtinLookup_eq_fast];kernel_rfl
theorem Sw:typeLookup (.type "list_reverseiterator") "__length_hint__"=pure (some (.builtin "list_reverseiterator.__length_hint__")):=by rw [typeLookup_type,builtinLookup_eq_fast];kernel_rfl
section
variable {prog:Program} {w:World} {A:Around} {E:Value→Shared→Prop} {s:Shared} {it l:Addr} {items:Array Value}
theorem wG (hT:s.TypeIs (.ref it) "list_reverseiterator") {Q:Bool→Shared→Prop} (h:Q false s):wpAny (model prog w) A (Builtin.List.listLengthHint (.ref it)) Q E s:=by
 unfold Builtin.List.listLengthHint
 refine wpAny_bind (wpAny_specialOf hT SA ?_)
 show wpAny _ A (specialOf (Value.ref it) (Str.ofString "__length_hint__") >>= _) _ _ _
 refine wpAny_bind (wpAny_specialOf hT Sw ?_)
 generalize hid:("list_reverseiterator.__length_hint__" : String)=id0
 wp_delta
 rw [show splitId id0=some ("list_reverseiterator","__length_hint__") from by subst hid;decide +kernel]
 subst hid
 refine wpAny_bind (wpAny_isInstance (T := "list_reverseiterator") (b:=true) hT (by rw [isSubtype_type];kernel_rfl) ?_)
 refine wpAny_ite_split (fun hab=>absurd hab (by decide)) (fun _=>?_)
 refine wpAny_ite_split (fun _=>?_) (fun hab=>absurd (by decide +kernel) hab)
 refine wpAny_ite_split (fun hab=>absurd hab (by decide +kernel)) (fun _=>?_)
 exact wpAny_pure h
noncomputable abbrev ZM (items:Array Value):Nat→Value→Prop:=fun i v=>items[items.size - 1 - i]? = some v
theorem qA {R:Result→Shared→Prop} (hh:A.handled=none) (hit:s.heap.IsRevIter it l ((items.size:Int) - 1 - ((0:Nat):Int))) (hl:s.heap.IsList l items) (hne:l ≠ it) (S:Addr) (hSi:S ≠ it) (hSl:S ≠ l) (res:Value) (c₀:Nat)
  (hS:s.heap.get? S=some { cls:=.type "list",data:=.seq #[] c₀ }) (hn:items.size ≤ sizeLine)
  (hR:∀ h' tk acc c,(∀ b o,b ≠ S→b ≠ it→s.heap.get? b=some o→h'.get? b=some o)→h'.get? S=some { cls:=.type "list",dict:=none,data:=.seq acc c,slots:=#[] }→ItemsOf (ZM items) acc items.size→R (.ok (.ret res)) { s with heap:=h',toks:=tk }) :
  wpAny (model prog w) A.in1 (Builtin.List.listExtendWith (.ref S) (.ref it) res)
   (fun fin s'=>match fin with | .done f=>R (.ok f) s' | .again c'=>c'.quiet=true∧codeAny (model prog w) A c' R s') (fun e s'=>R (.error e) s') s:=by
 unfold Builtin.List.listExtendWith
 refine wpAny_bind (wpAny_typeOf hit.typeIs ?_)
 have h1:Builtin.List.listSameRef (.ref S) (.ref it)=false:=by simp [Builtin.List.listSameRef,hSi]
 have h2:(Value.type "list_reverseiterator" == Value.type "list")=false:=by decide
 have h3:(Value.type "list_reverseiterator" == Value.type "tuple")=false:=by decide
 simp only [h1,h2,h3,Bool.or_false,Bool.false_eq_true,if_false]
 refine wpAny_bind (wpAny_pyIter_revIter hit ?_)
 refine wpAny_bind (wpAny_holding (wG hit.typeIs ?_))
 refine wpAny_ite_split (fun hab=>absurd hab (by decide +kernel)) (fun _=>?_)
 have W:=Walks.listRev (prog:=prog) (w:=w) (A:=A.in1) hh it l hne items
 have hSf:S ∉ [it,l]:=by simp only [List.mem_cons,List.not_mem_nil,or_false,not_or];exact ⟨hSi,hSl⟩
 refine wpAny_pure ⟨plainId_quiet PySem.F.plain_extend_loop _,codeAny_extend_loopS W.toS hn S hSf res items.size 0 s #[] c₀ rfl (Nat.zero_le _) ⟨Nat.zero_le _,hit,hl⟩ hS (ItemsOf.nil _) fun s' acc c hm hS' hacc=>?_⟩
 rw [Moved.eq_with hm]
 refine hR s'.heap s'.toks acc c (fun b o hb hi e=>hm.heap b o (fun hmem=>?_) e) hS' hacc
 rcases List.mem_cons.mp hmem with e' | hmem
 ·exact hb e'
 ·exact hi (List.mem_singleton.mp hmem)
theorem Uu {Q:Value→Shared→Prop} (hh:A.handled=none) (hit:s.heap.IsRevIter it l ((items.size:Int) - 1 - ((0:Nat):Int))) (hl:s.heap.IsList l items) (hne:l ≠ it) (hn:items.size ≤ sizeLine)
  (hQ:∀ h' tk acc c,(∀ b o,b ≠ it→s.heap.get? b=some o→h'.get? b=some o)→h'.get? s.heap.objs.size=some { cls:=.type "list",dict:=none,data:=.seq acc c,slots:=#[] }→ItemsOf (ZM items) acc items.size→Q (.ref s.heap.objs.size) { s with heap:=h',toks:=tk }) :
  wpAny (model prog w) A (call (.type "list") [.ref it]) Q E s:=by
 have li:it < s.heap.objs.size:=by obtain ⟨_,e,_⟩:=hit;exact Heap.lt_size e
 have ll:l < s.heap.objs.size:=by obtain ⟨_,e,_⟩:=hl;exact Heap.lt_size e
 refine callType_codes (Q₁:=fun obj s₁=>obj=.ref s.heap.objs.size∧s₁ = { s with heap:=s.heap.push { cls:=.type "list",data:=.seq #[] } }) PySem.F.called_list (PySem.F.typeCall_list_1 _) PySem.F.entry_list_init
  (code_list_new _ ⟨rfl,rfl⟩) fun obj s₁ h₁=>?_
 obtain ⟨rfl,rfl⟩:=h₁
 have hS:(s.heap.push { cls:=.type "list",data:=.seq #[] }).get? s.heap.objs.size=some { cls:=.type "list",data:=.seq #[] }:=Heap.get?_push_size _ rfl
 refine ⟨⟨_,hS,rfl⟩,PySem.F.args_list_init_2 _ _,?_⟩
 show wpAny _ _ (do let old ← Builtin.List.listItems (.ref s.heap.objs.size);Builtin.List.listUpdate (.ref s.heap.objs.size) (fun _=>#[]);letGo old.toList.reverse;Builtin.List.listExtendWith (.ref s.heap.objs.size) (.ref it) .none) _ _ _
 refine wpAny_bind ?_
 unfold Builtin.List.listItems
 refine wpAny_bind (wpAny_seqItems hS rfl (wpAny_pure ?_))
 show wpAny _ _ (updateSeq s.heap.objs.size (fun _=>#[]) >>= fun _=>letGo (#[]:Array Value).toList.reverse >>= fun _=>Builtin.List.listExtendWith (.ref s.heap.objs.size) (.ref it) .none) _ _ _
 refine wpAny_bind (wpAny_updateSeq hS rfl ?_)
 have hS₂:=Heap.get?_update_self (Obj.mapSeq (fun _=>(#[]:Array Value))) hS rfl
 have oth:∀ b o,s.heap.get? b=some o→((s.heap.push { cls:=.type "list",data:=.seq #[] }).update s.heap.objs.size (Obj.mapSeq (fun _=>(#[]:Array Value)))).get? b=some o:=
  fun b o e=>(Heap.get?_update_other _ _ (Ne.symm (Nat.ne_of_lt (Heap.lt_size e)))).trans (Heap.get?_push_of_some _ e)
 refine wpAny_bind (wpAny_letGo ?_)
 refine qA (A:=A.in1) hh (hit.at fun o e=>oth _ o e) (hl.at fun o e=>oth _ o e) hne _ (Ne.symm (Nat.ne_of_lt li)) (Ne.symm (Nat.ne_of_lt ll)) .none _ hS₂ hn fun h' tk acc c hk hS' hacc=>?_
 exact ⟨rfl,hQ h' tk acc c (fun b o hb e=>hk b o (Nat.ne_of_lt (Heap.lt_size e)) hb (oth b o e)) hS' hacc⟩
end
section
variable {X:Cx}
noncomputable def Gz (K:PySem.W.Frag) (ta:TA):TE:=fun σ H Q=>ta σ H fun vs H1=>∃ a xs,vs=[.ref a]∧SqL K H1 a xs∧∀ l,H1 l=none→Q (.ref l) (upd H1 l (.lst xs.reverse))
theorem yo {a:Expr} {ta:TA} {p q pos pos':Pos} (hc:X.calm=true) (hg:Gl X "list") (hm:X.mg "list"=none) (hg':Gl X "reversed") (hm':X.mg "reversed"=none) (ha:PA X [a] ta) (hs:starEach [a] X.env=[(false,eval a X.env)]:=by rfl)
  (hs2:starEach [Expr.Call (.Name "reversed" q) [a] [] pos'] X.env=(false,eval (Expr.Call (.Name "reversed" q) [a] [] pos') X.env) :: starEach [] X.env:=by rfl) :
  PE X (.Call (.Name "list" p) [.Call (.Name "reversed" q) [a] [] pos'] [] pos) (Gz X.K ta):=by
 intro pins s σ H Q I h
 refine wpAny_Call_Name_kw (Km I hg hm oq ?_)
 refine PyProof.Rows.callWith_type1 ?_ hs2 rfl
 rw [hs2]
 show wpAny _ _ (spliced ((false,eval (Expr.Call (.Name "reversed" q) [a] [] pos') X.env) :: [])) _ _ s
 refine Calls.spliced_cons ?_
 refine Call_ (Km I hg' hm' qu (PyProof.Rows.callWith_type1 (thn (ha pos' pins s σ H _ I h) fun us s1 hZ1=>?_) hs rfl))
 obtain ⟨vs,H1,I1,r1,q1⟩:=hZ1
 obtain ⟨a,xs,e,hq,q⟩:=q1
 subst e
 cases r1 with
 | cons r rr=>
  cases rr
  cases r
  obtain ⟨its,rv,pl,hz⟩:=I1.list hq
  have hl:=rv.length
  have hlt:a < s1.heap.objs.size:=by obtain ⟨_,e,_⟩:=pl.isList;exact Heap.lt_size e
  refine call_reversed_list pl.isList ?_
  refine Calls.spliced_nil ?_
  have hit:(s1.heap.push (revObj a ((its.toArray.size:Int) - 1))).IsRevIter s1.heap.objs.size a ((its.toArray.size:Int) - 1 - ((0:Nat):Int)):=by
   refine ⟨_,Heap.get?_push_size _ rfl,rfl,?_⟩
   simp only [revObj]
   simp
  have kp:∀ b o,s1.heap.get? b=some o→(s1.heap.push (revObj a ((its.toArray.size:Int) - 1))).get? b=some o:=fun b o e=>Heap.get?_push_of_some _ e
  refine Uu (I1.ok.hd hc) hit (pl.isList.at fun o e=>kp _ o e) (Nat.ne_of_lt hlt) (by rw [List.size_toArray];omega) fun h' tk acc c hk e' hacc=>?_
  refine ⟨.ref _,_,I1.laid (o:=.lst xs.reverse) (t':=tk) (fun b u e=>hk b u (Nat.ne_of_lt (Heap.lt_size e)) (kp b u e)) (by rw [Heap.size_push];exact Nat.le_succ _) ⟨by rw [List.length_reverse];omega,acc.toList,c,?_,e'⟩,rfl,q _ (I1.hok.fresh (by rw [Heap.size_push];exact Nat.le_succ _))⟩
  have hv:=dB (f:=fun i=>xs.getD (xs.length - 1 - i) .non) (fun i v hv=>by
   have hv':its.toArray[its.toArray.size - 1 - i]? = some v:=hv
   rw [List.size_toArray,← hl,List.getElem?_toArray] at hv'
   have hj:=(List.getElem?_eq_some_iff.mp hv').1
   have hx:xs[xs.length - 1 - i]? = some xs[xs.length - 1 - i]:=List.getElem?_eq_getElem (by omega)
   obtain ⟨w,hw,rw'⟩:=rv.get hx
   rw [hv'] at hw
   cases hw
   rw [List.getD_eq_getElem?_getD,hx]
   exact rw') hacc
  have er:(List.range its.toArray.size).map (fun i=>xs.getD (xs.length - 1 - i) .non)=xs.reverse:=by
   rw [List.size_toArray,← hl]
   refine List.ext_getElem (by simp) fun i h1 h2=>?_
   rw [List.getElem_map,List.getElem_range,List.getElem_reverse,List.getD_eq_getElem?_getD,List.getElem?_eq_getElem (by simp at h2;omega)];rfl
  rw [er] at hv
  exact hv
end
section
variable {prog:Program} {w:World} {A:Around} {R:Result→Shared→Prop} {I:Addr} {fp wr:List Addr} {n:Nat} {P:Nat→Value→Prop} {St:Nat→Heap→Prop}
noncomputable def eO (P:Nat→Value→Prop) (bt:Nat→Nat→Bool) (j:Nat) (acc:Array Value):Prop:=(j=0∧acc=#[])∨∃ vb i,j=i + 1∧acc=#[vb,vb]∧P (argBest bt i) vb
theorem eF (W:Walks prog w A.in1 I fp wr n P St) (bt:Nat→Nat→Bool) (hcmp:CmpOf prog w A.in1 .Lt P bt) (S:Addr) (hSf:S ∉ fp) (dv:Value) (kn:Str) :
  ∀ (k j:Nat) (s:Shared) (acc:Array Value) (c:Nat),n - j=k→j ≤ n→St j s.heap→eO P bt j acc →
  s.heap.get? S=some { cls:=.type "list",dict:=none,data:=.seq acc c,slots:=#[] } →
  (∀ v h' tk,(n=0∧v=dv)∨(0 < n∧P (argBest bt (n - 1)) v)→(∀ b o,b ∉ wr→b ≠ S→s.heap.get? b=some o→h'.get? b=some o)→R (.ok (.ret v)) { s with heap:=h',toks:=tk }) →
  codeAny (model prog w) A (.builtin "min.loop" ⟨[.ref I,.none,.ref S],[(kn,dv)]⟩) R s:=by
 have hSw:S ∉ wr:=fun h=>hSf (W.sub _ h)
 have hname:(toString "min" ++ toString ".loop" : String) = "min.loop" := by decide
 intro k
 induction k with
 | zero=>
  intro j s acc c hk hj hst hB hS hR
  have hin:j=n:=by omega
  refine codeAny_builtin PySem.F.entry_min_loop ?_
  rw [Around.under_plainId PySem.F.plain_min_loop _]
  show wpAny _ A.in1 (seqItems? (.ref S) >>= _) _ _ s
  refine wpAny_bind (wpAny_seqItems hS rfl ?_)
  show wpAny _ A.in1 (tryCatch (pyNext (.ref I)) _ >>= _) _ _ s
  refine wpAny_bind (wpAny_tryCatch (W.done s _ _ (hin ▸ hst) fun h' tk hk'=>?_))
  have hS':=hk' S _ hSw hS
  rcases hB with ⟨h0,rfl⟩ | ⟨vb,i,hi,rfl,hP⟩
  ·show wpAny _ A.in1 (rule _ >>= _) _ _ _
   refine wpAny_bind (wpAny_rule (wpAny_pure ?_))
   exact hR dv h' tk (.inl ⟨by omega,rfl⟩) fun b o hbw hbS e=>hk' b o hbw e
  ·show wpAny _ A.in1 (updateSeq S (fun _=>#[]) >>= _) _ _ _
   refine wpAny_bind ?_
   refine wpAny_updateSeq hS' rfl (wpAny_bind (wpAny_letGo (wpAny_pure ?_)))
   refine hR vb _ tk (.inr ⟨by omega,by rw [show n - 1=i by omega];exact hP⟩) fun b o hbw hbS e=>(Heap.get?_update_other _ _ (Ne.symm hbS)).trans (hk' b o hbw e)
 | succ k ih=>
  intro j s acc c hk hj hst hB hS hR
  have hlt:j < n:=by omega
  refine codeAny_builtin PySem.F.entry_min_loop ?_
  rw [Around.under_plainId PySem.F.plain_min_loop _]
  show wpAny _ A.in1 (seqItems? (.ref S) >>= _) _ _ s
  refine wpAny_bind (wpAny_seqItems hS rfl ?_)
  show wpAny _ A.in1 (tryCatch (pyNext (.ref I)) _ >>= _) _ _ s
  refine wpAny_bind (wpAny_tryCatch (W.item j s _ _ hlt hst fun v h' tk hP hst' hk'=>?_))
  have hS':=hk' S _ hSw hS
  have put:∀ h'':Heap,h''=h'.update S (Obj.mapSeq (fun _=>#[v,v]))→St (j + 1) h'':=fun h'' e=>by
   subst e
   exact W.frame _ _ _ hst' fun b hbf o e=>(Heap.get?_update_other _ _ (fun h:S=b=>hSf (by rw [h];exact hbf))).trans e
  rcases hB with ⟨h0,rfl⟩ | ⟨vb,i,hi,rfl,hPb⟩
  ·show wpAny _ A.in1 (updateSeq S (fun _=>#[v,v]) >>= _) _ _ _
   refine wpAny_bind ?_
   refine wpAny_updateSeq hS' rfl ?_
   rw [hname]
   refine wpAny_pure ⟨plainId_quiet PySem.F.plain_min_loop _,ih (j + 1) _ #[v,v] _ (by omega) hlt (put _ rfl) (.inr ⟨v,j,rfl,rfl,by subst h0;exact hP⟩) (Heap.get?_update_self _ hS' rfl) fun v' h'' tk'' hP' hk''=>?_⟩
   exact hR v' h'' tk'' hP' fun b o hbw hbS e=>hk'' b o hbw hbS ((Heap.get?_update_other _ _ (Ne.symm hbS)).trans (hk' b o hbw e))
  ·subst hi
   show wpAny _ A.in1 (tryCatch (holding [v,v] (richCompare .Lt v vb >>= _)) _ >>= _) _ _ _
   refine wpAny_bind (wpAny_tryCatch (wpAny_holding (wpAny_bind (hcmp (i + 1) (argBest bt i) v vb _ _ _ hP hPb ?_))))
   refine wpAny_bind (wpAny_holding (wpAny_truthy_bool ?_))
   refine wpAny_bind (wpAny_letGo (wpAny_pure ?_))
   cases hb:bt (i + 1) (argBest bt i) with
   | true=>
    simp only [if_true]
    refine wpAny_bind ?_
    refine wpAny_updateSeq hS' rfl (wpAny_bind (wpAny_letGo ?_))
    rw [hname]
    refine wpAny_pure ⟨plainId_quiet PySem.F.plain_min_loop _,ih (i + 1 + 1) _ #[v,v] _ (by omega) hlt (put _ rfl) (.inr ⟨v,i + 1,rfl,rfl,by simp only [argBest,hb,if_true];exact hP⟩) (Heap.get?_update_self _ hS' rfl) fun v' h'' tk'' hP' hk''=>?_⟩
    exact hR v' h'' tk'' hP' fun b o hbw hbS e=>hk'' b o hbw hbS ((Heap.get?_update_other _ _ (Ne.symm hbS)).trans (hk' b o hbw e))
   | false=>
    simp only [Bool.false_eq_true,if_false]
    refine wpAny_bind (wpAny_letGo ?_)
    rw [hname]
    refine wpAny_pure ⟨plainId_quiet PySem.F.plain_min_loop _,ih (i + 1 + 1) _ #[vb,vb] c (by omega) hlt hst' (.inr ⟨vb,i + 1,rfl,rfl,by simp only [argBest,hb,Bool.false_eq_true,if_false];exact hPb⟩) hS' fun v' h'' tk'' hP' hk''=>?_⟩
    exact hR v' h'' tk'' hP' fun b o hbw hbS e=>hk'' b o hbw hbS (hk' b o hbw e)
end
section
variable {prog:Program} {w:World} {A:Around} {E:Value→Shared→Prop} {s:Shared}
theorem EE (a d:Value):argsOk "min" ⟨[a],[(Str.ofString "default",d)]⟩:=by unfold argsOk;kernel_rfl
theorem DE {l:Addr} {its:Array Value} {dv:Value} {Q:Value→Shared→Prop} (hh:A.handled=none) (hl:s.heap.IsList l its) (ks:List Int) (hk:its.size=ks.length) (hv:∀ (i:Nat) (v:Value),its[i]? = some v→∃ t,v=Value.int (ks.getD i 0) t)
  (hQ:∀ v h' tk,(ks=[]∧v=dv)∨(∃ m t,ks.min? = some m∧v=.int m t)→(∀ b o,s.heap.get? b=some o→h'.get? b=some o)→Q v { s with heap:=h',toks:=tk }) :
  wpAny (model prog w) A (call (.builtin "min") [.ref l] [(Str.ofString "default",dv)]) Q E s:=by
 have hname:(toString "min" ++ toString ".loop" : String) = "min.loop" := by decide
 have hlt:l < s.heap.objs.size:=by obtain ⟨_,e,_⟩:=hl;exact Heap.lt_size e
 refine wpAny_call (codeAny_call_builtin PySem.F.plain_min PySem.F.entry_min ?_)
 simp only [checkBuiltinCall,PySem.F.kind_min]
 have key:wpAny (model prog w) A.in1 (Builtin.«min» ⟨[.ref l],[(Str.ofString "default",dv)]⟩) (fun fin s'=>match fin with
   | .done f=>(match (Except.ok f:Result) with | .ok (.ret v)=>Q v s' | .ok _=>False | .error e=>E e s')
   | .again c'=>c'.quiet=true∧codeAny (model prog w) A c' (fun r s'=>match r with | .ok (.ret v)=>Q v s' | .ok _=>False | .error e=>E e s') s') E s:=by
  show wpAny _ A.in1 (Builtin.Builtins.bindParams "min" ["key","default"] 0 ⟨[],[(Str.ofString "default",dv)]⟩ >>= _) _ _ s
  refine wpAny_bind (wpAny_of_eq (show Builtin.Builtins.bindParams "min" ["key","default"] 0 ⟨[],[(Str.ofString "default",dv)]⟩=pure [none,some dv] from rfl) ?_)
  refine wpAny_bind (wpAny_pure ?_)
  refine wpAny_bind (wpAny_pyIter_list hl ?_)
  refine wpAny_bind (wpAny_newObj_type ?_)
  rw [hname]
  have W:=Walks.list (prog:=prog) (w:=w) (A:=A.in1) hh s.heap.objs.size l (Nat.ne_of_lt hlt) its
  have hz1:(s.heap.push { cls:=.type "list_iterator",data:=.fields #[.ref l,.int 0 0] }).objs.size=s.heap.objs.size + 1:=Heap.size_push ..
  refine wpAny_pure ⟨plainId_quiet PySem.F.plain_min_loop _,eF W _ (CmpOf.ints_lt (fun i=>ks.getD i 0) fun i v h=>hv i v h) _ ?_ dv _ its.size 0 _ #[] _ rfl (Nat.zero_le _) ?_ (.inl ⟨rfl,rfl⟩) (Heap.get?_push_size _ rfl) fun v h' tk hP hk'=>?_⟩
  ·show (s.heap.push _).objs.size ∉ _
   rw [hz1]
   simp only [List.mem_cons,List.not_mem_nil,or_false,not_or]
   exact ⟨Nat.succ_ne_self _,Ne.symm (Nat.ne_of_lt (Nat.lt_succ_of_lt hlt))⟩
  ·exact W.frame 0 (s.heap.push { cls:=.type "list_iterator",data:=.fields #[.ref l,.int 0 0] }) _ ⟨⟨_,Heap.get?_push_size _ rfl,rfl,rfl⟩,hl.push _⟩ fun b _ o e=>Heap.get?_push_of_some _ e
  ·refine hQ v h' tk ?_ fun b o e=>hk' b o (fun hm=>?_) ?_ (Heap.get?_push_of_some _ (Heap.get?_push_of_some _ e))
   ·rcases hP with ⟨h0,h1⟩ | ⟨h0,h1⟩
    ·exact .inl ⟨List.length_eq_zero_iff.mp (by omega),h1⟩
    ·obtain ⟨t,e⟩:=hv _ v h1
     have hb:=argBest_lt (fun i=>ks.getD i 0) (its.size - 1)
     refine .inr ⟨_,t,?_,e⟩
     rw [List.min?_eq_some_iff]
     have hi:argBest (fun i j=>decide (ks.getD i 0 < ks.getD j 0)) (its.size - 1) < ks.length:=by omega
     refine ⟨?_,fun b hb'=>?_⟩
     ·rw [List.getD_eq_getElem?_getD,List.getElem?_eq_getElem hi]
      exact List.getElem_mem hi
     ·obtain ⟨j,hj,rfl⟩:=List.getElem_of_mem hb'
      have:=hb.2 j (by omega)
      rw [List.getD_eq_getElem?_getD (i:=j),List.getElem?_eq_getElem hj] at this
      exact this
   ·rw [List.mem_singleton.mp hm] at e
    exact absurd (Heap.lt_size e) (Nat.lt_irrefl _)
   ·rw [hz1]
    exact Nat.ne_of_lt (Nat.lt_succ_of_lt (Heap.lt_size e))
 cases hsig:Manifest.signature? "min" with
 | none=>exact wpAny_pure key
 | some sig=>
  have ha:=EE (.ref l) dv
  have ha':Bind.checkArgs "min" sig ⟨[.ref l],[(Str.ofString "default",dv)]⟩=pure ():=by simpa only [argsOk,hsig] using ha
  simp only [ha']
  exact wpAny_pure key
end
section
variable {X:Cx}
noncomputable def MN (K:PySem.W.Frag) (ta:TA) (td:TE):TE:=fun σ H Q=>ta σ H fun vs H1=>td σ H1 fun y H2=>∃ l ks,vs=[.ref l]∧SqL K H2 l (List.map V.int ks)∧Q (match ks.min? with | some m=>.int m | none=>y) H2
theorem RL {a d:Expr} {ta:TA} {td:TE} {p kp pos:Pos} (hc:X.calm=true) (hg:Gl X "min") (hm:X.mg "min"=none) (ha:PA X [a] ta) (hd:PE X d td)
  (he:∀ pos,backTo pos (starEach [a] X.env)=(false,eval a X.env) :: backTo pos (starEach [] X.env):=by intro _;rfl) (hpl:∀ pos,(backTo pos (starEach [a] X.env)).any (·.1)=false:=by intro _;rfl) :
  PE X (.Call (.Name "min" p) [a] [⟨some "default",d,kp⟩] pos) (MN X.K ta td):=by
 intro pins s σ H Q I h
 refine wpAny_Call_Name_kw (Km I hg hm (show bootBuiltins "min"=some (.builtin "min") by decide +kernel) ?_)
 refine callWith_kw (id := "min") (thn (ha pos pins s σ H _ I h) fun us s1 hZ1=>?_) (he:=he pos) (hplain:=hpl pos)
 obtain ⟨vs,H1,I1,r1,q1⟩:=hZ1
 refine kws_cons (thn (hd pins s1 σ H1 _ I1 q1) fun v s2 ⟨y,H2,I2,r2,q2⟩=>kws_nil ?_)
 obtain ⟨l,ks,rfl,hq,q⟩:=q2
 cases r1 with
 | cons r rr=>
  cases rr
  cases r
  obtain ⟨its,rv,pl,hz⟩:=I2.list hq
  have hl:=rv.length
  rw [List.length_map] at hl
  refine DE (I2.ok.hd hc) pl.isList ks (by rw [List.size_toArray];omega) (fun i v hv=>?_) fun v' h' tk hv' hk=>⟨_,H2,I2.kept hk,?_,q⟩
  ·rw [List.getElem?_toArray] at hv
   have hi:i < ks.length:=by have:=(List.getElem?_eq_some_iff.mp hv).1;omega
   obtain ⟨w,hw,rw'⟩:=rv.get (show (ks.map V.int)[i]? = some (.int ks[i]) by rw [List.getElem?_map,List.getElem?_eq_getElem hi];rfl)
   rw [hv] at hw
   cases hw
   rw [List.getD_eq_getElem?_getD,List.getElem?_eq_getElem hi]
   exact rw'
  ·rcases hv' with ⟨rfl,rfl⟩ | ⟨m,t,hm,rfl⟩
   ·exact r2
   ·rw [hm];exact ⟨t,rfl⟩
end
end L2
namespace L2
open PySem PySem.Spec PyProof.Rows
structure iI (K:PySem.W.Frag) (C:Addr):Prop where
 x:Qr K C
 ha:PySem.W.findIn K (.ref C) "__class__"=some (some (.builtin "object.__class__"))
 hn:PySem.W.specialIn K (.builtin "object.__class__") "__get__"=some (some (.builtin "getset_descriptor.__get__"))
 htk:PySem.W.takesIn K (.builtin "object.__class__")=some true
 hm:PySem.W.mroIn K C (.type "object")=some true
section
variable {prog:Program} {w:World} {A:Around} {E:Value→Shared→Prop} {s:Shared} {K:PySem.W.Frag} {x C:Addr} {od:Obj} {dx:Addr} {vs:Array Value} {sl:Array (Option Value)}
theorem YJ {Q:Option Value→Shared→Prop} (c:iI K C) (KX:K.In s.heap) (J:PySem.W.InstAt s.heap x ⟨.ref C,some dx,.fields vs,sl⟩ C (some od)) (h:Q (some (.ref C)) { s with toks:=s.toks + 1 }) :
  wpAny (model prog w) A (getAttr? (.ref x) "__class__") Q E s:=by
 obtain ⟨cd,hc,hd'⟩:=PySem.W.any_some c.x.hd
 obtain ⟨cd',hc',hov⟩:=PySem.W.any_some c.x.ov
 rw [hc] at hc'
 cases hc'
 have hf:PySem.W.findObj K C (some od) "__class__"=some (.bind (.builtin "getset_descriptor.__get__") (.builtin "object.__class__")):=PySem.W.findObj_data (by rw [hc];rfl) c.ha c.hn c.htk
 have hm:=c.hm
 have ga:=c.x.ga
 have gt:=c.x.gt
 obtain ⟨hp,g,d,t,os⟩:=s
 have L0:=J.type (M:=model prog w)
 have L1:=PySem.W.looks_findIn (M:=model prog w) KX ga
 have L2:=PySem.W.looks_findIn (M:=model prog w) KX gt
 have L3:=PySem.W.looks_find (M:=model prog w) KX J hf
 have FB:=PySem.F.excAttr_ValueError
 have f3:=FB.ga.bind (.ref x)
 have hx2:(Value.builtin "BaseException.__getattribute__" == Value.builtin "object.__getattribute__")=false:=by decide +kernel
 have hx1:(onTheHeap (Value.ref C) && Value.builtin "BaseException.__getattribute__" == Value.builtin "object.__getattribute__")=false:=by rw [hx2];rfl
 unfold getAttr? getAttrBy? getAttrBy
 refine wpAny_bind (wpAny_mkText (wpAny_bind (wpAny_attempt (wpAny_holding (wpAny_bind (L0.at (wpAny_bind (L1.at ?_))))))))
 dsimp only
 rw [if_neg (by rw [hx1];decide)]
 unfold getAttrByItsOwn
 repeat (any_goals (first | assumption | with_reducible refine PySem.W.Looks.at (by assumption) ?_ | wp_step))
 have ne:cd.mro.isEmpty=false:=by
  cases q:cd.mro with
  | nil=>rw [q] at hov;cases hov
  | cons _ _=>rfl
 have sub:PySem.W.Looks (model prog w) hp (isInstance (.ref x) (.type "BaseException")) true:=
  L0.andThen (PySem.W.looks_mroIn KX (by unfold PySem.W.mroIn;rw [hc,Option.bind_some,if_neg (by rw [ne];decide),gn "BaseException" (by decide) hov]))
 refine codeAny_call_builtin FB.ga.plain PySem.F.entry_bexc_ga (@PySem.W.check_slot (model prog w) _ _ ⟨hp,g,d,t + 1,os⟩ "BaseException.__getattribute__" "BaseException" "__getattribute__" (.ref x) [.str "__class__" t] [] _ (by decide +kernel) (by decide +kernel) sub (PySem.F.args_bexc_ga (.ref x) (.str "__class__" t)) ?_)
 unfold Builtin.«object.__getattribute__»
 repeat (any_goals (first | assumption | with_reducible refine PySem.W.Looks.at (by assumption) ?_ | wp_step))
 refine PySem.W.class_get (s:=⟨hp,g,d,t + 1,os⟩) (ox:=⟨.ref C,some dx,.fields vs,sl⟩) (od:=some od) KX J hm ?_
 refine wpAny_pure ?_
 show wpAny _ _ (handedOut (.ref C)) _ _ _
 exact PySem.W.handed_on rfl (wpAny_pure h)
theorem Iu (c:iI K C):PySem.W.KitX K (.ref x) (.ref C) (fun h=>∃ dx vs sl od,PySem.W.InstAt h x ⟨.ref C,some dx,.fields vs,sl⟩ C (some od)) where
 ty:=fun _ _ _ ⟨_,_,_,_,I⟩=>I.type
 it:=fun _ _ X _=>by
  obtain ⟨cdD,hcD,_⟩:=PySem.W.any_some c.x.hd
  unfold PySem.W.clsIn at hcD
  split at hcD
  ·rename_i c' d' cd' sl' ho
   intro A' Q' E' s' k q
   unfold isType loadHead
   exact wpAny_bind (wpAny_loadPart (k _ _ (X _ _ ho)) (wpAny_pure q))
  ·cases hcD
 ne:=fun h tp dd its n sl X htp=>by
  obtain ⟨cdD,hcD,_⟩:=PySem.W.any_some c.x.hd
  refine Bool.eq_false_iff.mpr fun q=>?_
  have e:C=tp:=Value.ref.inj (beq_iff_eq.mp q)
  subst e
  unfold PySem.W.clsIn at hcD
  split at hcD
  ·rename_i c' d' cd' sl' ho
   have z:=(X _ _ ho).symm.trans htp
   cases z
  ·cases hcD
 ca:=fun X ⟨_,_,_,_,I⟩ k=>YJ c X I k
end
theorem OD {X:Cx} {pins:List (Addr × Obj)} {σ:St} {H:Hp} {s:Shared} {x C dx:Addr} {fs:List (Str × V)} (I:Inv X pins σ H s) (e:H x=some (.ext (XA x C (some dx)))) (ed:H dx=some (.ext (XD dx fs))) :
  ∃ dx vs sl od,PySem.W.InstAt s.heap x ⟨.ref C,some dx,.fields vs,sl⟩ C (some od):=by
 obtain ⟨vs,sl,hx⟩:=(show Gd X.prog X.w H s.heap x (.ext (XA x C (some dx))) from I.hok _ _ e).1
 obtain ⟨mA,n1,r,wi⟩:=(show Gd X.prog X.w H s.heap dx (.ext (XD dx fs)) from I.hok _ _ ed).1
 obtain ⟨od,ho,hlk⟩:=Hn n1
 exact ⟨dx,vs,sl,od,hx,rfl,rfl,ho⟩
theorem Br {X:Cx}:Kj X (.builtin "isinstance") (fun xs H Q=>∃ x C dx fs D b,xs=[.ref x,.ref D]∧H x=some (.ext (XA x C (some dx)))∧H dx=some (.ext (XD dx fs))∧iI X.K C∧PySem.W.kitOne X.K (.ref C) (.ref D)=some b∧Q (.bl b) H):=by
 intro pins s σ H xs us Q I r h
 obtain ⟨x,C,dx,fs,D,b,rfl,e,ed,c,hk,q⟩:=h
 obtain ⟨u,u2,rfl,rx,r2⟩:=jy r
 cases (show u=Value.ref x from rx)
 cases (show u2=Value.ref D from r2)
 exact PySem.W.kia_one (Iu c) I.kIn (OD I e ed) hk (fun z=>nomatch z) fun tk=>⟨.bl b,H,I.tok _,rfl,q⟩
theorem sA {X:Cx}:Kj X (.builtin "isinstance") (fun xs H Q=>∃ x C dx fs T b,xs=[.ref x,.ty T]∧H x=some (.ext (XA x C (some dx)))∧H dx=some (.ext (XD dx fs))∧iI X.K C∧PySem.W.kitOne X.K (.ref C) (.type T)=some b∧Q (.bl b) H):=by
 intro pins s σ H xs us Q I r h
 obtain ⟨x,C,dx,fs,T,b,rfl,e,ed,c,hk,q⟩:=h
 obtain ⟨u,u2,rfl,rx,r2⟩:=jy r
 cases (show u=Value.ref x from rx)
 cases r2
 exact PySem.W.kia_one (Iu c) I.kIn (OD I e ed) hk (fun z=>nomatch z) fun tk=>⟨.bl b,H,I.tok _,rfl,q⟩
theorem rq:∀ {cs:List Addr} {us:List Value},kd (cs.map V.ref) us→us=cs.map Value.ref
 | [],_,.nil=>rfl
 | c :: cs,_,.cons r t=>by
  rw [rq t]
  cases (show _=Value.ref c from r)
  rfl
theorem MB {X:Cx}:Kj X (.builtin "isinstance") (fun xs H Q=>∃ (x C dx:Addr) (fs:List (Str × V)) (tp:Addr) (cs:List Addr) (b:Bool),xs=[.ref x,.ref tp]∧H x=some (.ext (XA x C (some dx)))∧H dx=some (.ext (XD dx fs))∧iI X.K C∧H tp=some (.tup (cs.map V.ref))∧PySem.W.kitAny X.K (.ref C) (cs.map Value.ref)=some b∧Q (.bl b) H):=by
 intro pins s σ H xs us Q I r h
 obtain ⟨x,C,dx,fs,tp,cs,b,rfl,e,ed,c,et,hk,q⟩:=h
 obtain ⟨u,u2,rfl,rx,r2⟩:=jy r
 cases (show u=Value.ref x from rx)
 cases (show u2=Value.ref tp from r2)
 obtain ⟨_,its,rv,ot,h1,h2,n,h3⟩:=(show Gd X.prog X.w H s.heap tp (.tup (cs.map V.ref)) from I.hok _ _ et)
 have e1:=rq rv
 subst e1
 obtain ⟨cl,dd,dt,sl⟩:=ot
 cases (show cl=Value.type "tuple" from h2)
 cases (show dt=Data.seq _ n from h3)
 exact PySem.W.kia_tup (Iu c) I.kIn (OD I e ed) h1 hk (fun z=>nomatch z) fun tk=>⟨.bl b,H,I.tok _,rfl,q⟩
theorem jo:bootBuiltins "ValueError"=some (.type "ValueError"):=by decide +kernel
noncomputable def HQ (K:PySem.W.Frag) (neg:Bool):R2:=fun x y H Q=>∃ p qs f,y=.ref p∧SqL K H p (List.map V.ref qs)∧(∀ q ∈ qs,EqH K H 8 (.ref q) x (f q))∧Q (.bl (if neg then !(qs.any f) else qs.any f)) H
noncomputable def eU (f:Addr→Bool):Value→Bool
 | .ref q=>f q
 | _=>false
theorem vN (f:Addr→Bool) (qs:List Addr):(qs.map Value.ref).toArray.any (eU f)=qs.any f:=by
 rw [List.any_toArray,List.any_map];rfl
section
variable {X:Cx}
theorem dE (hU:X.A.units + 64 < cLine):OpR X (compareOp .NotIn) (HQ X.K true):=by
 intro pins s σ H x y v u Q I rx ry h
 obtain ⟨p,qs,f,rfl,hp,he,q⟩:=h
 cases ry
 obtain ⟨its,r,pl,hz⟩:=I.list hp
 have e1:=rq r
 subst e1
 refine SeqAt.notIn_listAt (eU f) pl.isList (fun w hw=>?_) ⟨.bl _,H,I,rfl,?_⟩
 ·obtain ⟨q',hq',rfl⟩:=List.mem_map.mp (by simpa using hw:w ∈ qs.map Value.ref)
  exact (Au I (he q' hq') X.A.in1 (.ref q') v (by rw [Zj];omega) rfl rx).1
 ·rw [vN];exact q
end
theorem Eb.quiet {P:Program} {w:World} {K:PySem.W.Frag} {mg:Str→Option Value} {base:Heap} {k:Nat} {f:Addr} {fd:FuncData} {ps:List Str} {sp sp':Sp} (F:Eb P w K mg base (CX1 P w) k f fd ps sp)
  (h:∀ vs H Q E,sp' vs H Q E→sp vs H Q (fun _ _ _=>False)):Eb P w K mg base CX0 k f fd ps sp':=by
 refine ⟨fun vs H Q E q=>F.len vs H _ _ (h vs H Q E q),fun A outer s H args us vs Q E hr he hb hv hs=>?_⟩
 refine codeAny_mono (F.run A outer s H args us vs Q _ hr he hb hv (h vs H Q E hs)) fun r s' hq=>?_
 cases r with
 | error e=>
  obtain ⟨x,C,od,H',T,_,_,_,_,_,_,_,_,_,z⟩:=hq
  exact z.elim
 | ok fl=>cases fl <;> exact hq
end L2
namespace L2
open PySem PySem.Spec PyProof.Rows
structure Nj (k:Nat) (A:Around):Prop where
 dp:A.depth + 3 * k + 5 < recursionLimit
 un:A.units + 16 * k + 200 < cLine
theorem Bi.h {k:Nat} {A:Around} (r:Bi k A):Nj k A:=⟨r.dp,r.un⟩
theorem Nj.mono {j k:Nat} {A:Around} (r:Nj k A) (h:j ≤ k):Nj j A:=⟨by have:=r.dp;omega,by have:=r.un;omega⟩
theorem Nj.deeper {k:Nat} {A:Around} (r:Nj (k + 1) A) (env:Env):Nj k (A.deeper env):=
 ⟨by have:=r.dp;show A.depth + 1 + 3 * k + 5 < _;omega,by have:=r.un;show A.units + 3 + 16 * k + 200 < _;omega⟩
theorem Nj.depth {k:Nat} {A:Around} (r:Nj k A):A.depth < recursionLimit:=by have:=r.dp;omega
theorem Nj.units {k:Nat} {A:Around} (r:Nj k A):A.units + 64 < cLine:=by have:=r.un;omega
theorem Bi.hn {k:Nat} {X:Cx} {e:Value} (r:Bi k X.A):Nj k (X.hn e).A:=⟨r.dp,r.un⟩
structure Fu (P:Program) (w:World) (K:PySem.W.Frag) (mg:Str→Option Value) (base:Heap) (CX:CXT) (k:Nat) (f:Addr) (fd:FuncData) (ps:List Str) (sp:Sp):Prop where
 len:∀ vs H Q E,sp vs H Q E→vs.length=ps.length
 run:∀ (A:Around) (outer:List Env) (s:Shared) (H:Hp) (args:Args) (us:List Value) (vs:List V) (Q:VK) (E:XK),Nj k A→RB P w K mg base A outer s H→BindsTo s fd args (ps.zip us)→kd vs us→sp vs H Q E →
  codeAny (model P w) A (.call (.ref f) args) (CR CX outer P w H s Q E) s
theorem Fu.mono {P:Program} {w:World} {K:PySem.W.Frag} {mg:Str→Option Value} {base:Heap} {CX:CXT} {j k:Nat} {f:Addr} {fd:FuncData} {ps:List Str} {sp:Sp} (F:Fu P w K mg base CX j f fd ps sp) (h:j ≤ k) :
  Fu P w K mg base CX k f fd ps sp:=⟨F.len,fun A outer s H args us vs Q E hr=>F.run A outer s H args us vs Q E (hr.mono h)⟩
section
variable {X:Cx} {CX:CXT} {k:Nat} {f C:Addr} {fd:FuncData} {ps:List Str} {sp:Sp} {dvs:List V} {ds:List Value} {E:XK} {x m:Str} {p pos apos:Pos} {e o:Expr} {es:List Expr} {ta:TE} {t:TA}
theorem mL {pins:List (Addr × Obj)} {σ:St} {H:Hp} {s:Shared} {Q:VK} {us:List Value} {vs:List V} (F:Fu X.prog X.w X.K X.mg X.base CX k f fd ps sp) (hr:Nj k X.A) (hb:Nb X.K fd ps ds) (hd:kd dvs ds) (hx:Hj CX X E)
  (I:Inv X pins σ H s) (r:kd vs us) (h:sp (vs ++ dvs) H Q E):wpAny (model X.prog X.w) X.A (call (.ref f) us) (EP X pins σ Q) X.xe s:=by
 have r2:kd (vs ++ dvs) (us ++ ds):=r.append hd
 have hl:(us ++ ds).length=ps.length:=by rw [← r2.length];exact F.len _ _ _ _ h
 refine wpAny_call (codeAny_mono (F.run X.A X.stack s H ⟨us,[]⟩ (us ++ ds) (vs ++ dvs) Q E hr I.env0 (hb s us I.kIn hl) r2 h) fun r s' hq=>?_)
 cases r with
 | error e=>exact hx pins σ H s e s' I hq
 | ok fl=>
  cases fl with
  | ret u=>exact I.after hq
  | next=>exact False.elim hq
  | brk=>exact False.elim hq
  | cont=>exact False.elim hq
theorem fG (F:Fu X.prog X.w X.K X.mg X.base CX k f fd ps sp) (hr:Nj k X.A) (hg:Gl X x) (hm:X.mg x=some (.ref f)) (hk:PySem.W.keepIn X.K (.ref f)=true) (hb:Nb X.K fd ps ds) (hd:kd dvs ds) (hx:Hj CX X E)
  (ha:PA X (e :: es) t) (hdb:(x == ("__debug__" : Str))=false:=by decide) (he:starEach (e :: es) X.env=(false,eval e X.env) :: starEach es X.env:=by rfl) (hpl:(backTo pos (starEach es X.env)).any (·.1)=false:=by rfl) :
  PE X (.Call (.Name x p) (e :: es) [] pos) (eG sp dvs E t):=by
 intro pins s σ H Q I h
 refine wpAny_Call_Name_kw (Zi I hg hm ?_ hdb)
 refine PySem.W.callWith_K (h₀:=X.base) I.ok.mod.kin hk (thn (ha pos pins s σ H _ I h) fun us s1 ⟨vs,H1,I1,r,q⟩=>⟨I1.kIn,?_⟩) he hpl
 exact mL F hr hb hd hx I1 r q
end
noncomputable def Ax (CX:CXT) (P:Program) (w:World) (K:PySem.W.Frag) (mg:Str→Option Value) (base:Heap) (N:List Str) (qual:Str) (scope:Scope) (f:Addr) (cd:Value) (A:Around) (outer:List Env) (s:Shared) (H:Hp) (E:XK):Cx where
 prog:=P
 w:=w
 K:=K
 mg:=mg
 base:=base
 A:=A.deeper (envOfC qual scope s.heap.objs.size f cd)
 N:=N
 s₀:=s
 H₀:=H
 env:=envOfC qual scope s.heap.objs.size f cd
 outer:=outer
 stack:=envOfC qual scope s.heap.objs.size f cd :: outer
 ex:=[]
 calm:=false
 fn:=fun _=>true
 pn:=[]
 xe:=fun e s'=>wpAny (model P w) (A.deeper (envOfC qual scope s.heap.objs.size f cd)) (leaving (envOfC qual scope s.heap.objs.size f cd) e) (fun _ s''=>CX outer H s E e s'') (fun e' s''=>CX outer H s E e' s'') s'
theorem YA {CX:CXT} {P:Program} {w:World} {K:PySem.W.Frag} {mg:Str→Option Value} {base:Heap} {N ps:List Str} {qual:Str} {scope:Scope} {f:Addr} {cd:Value} {A:Around} {outer:List Env} {s s1:Shared} {H:Hp} {E:XK} {us:List Value} {vs:List V}
  (S:xb N ps scope) (e0:RB P w K mg base A outer s H) (hl:vs.length=ps.length) (r:kd vs us)
  (x:InCallC s s.heap.objs.size (bindL (envOfC qual scope s.heap.objs.size f cd).kindOf (ps.zip us) fun _=>none) (cellsFrom (s.heap.objs.size + 1) scope.names []) (bindC (envOfC qual scope s.heap.objs.size f cd).kindOf (ps.zip us) fun _=>none) s1) :
  Inv (Ax CX P w K mg base N qual scope f cd A outer s H E) [] (start N vs) H s1:=by
 have hpl:ps.length ≤ N.length:=by have:=congrArg List.length S.pre;rw [List.length_take] at this;omega
 obtain ⟨h1,tk,rfl,hk⟩:=x.done
 have noA:∀ b:Addr,b ∉ (Ax CX P w K mg base N qual scope f cd A outer s H E).ex:=fun b z=>absurd (show b ∈ ([]:List Addr) from z) (by simp)
 refine ⟨⟨e0.mod,S.kind,rfl,rfl,Nat.le_refl _,fun y z c h1 h2=>?_,fun y hy=>?_,fun y c _ h=>?_,fun z=>absurd (show false=true from z) (by decide),Around.frames_deeper e0.frames,.inr ⟨rfl,rfl⟩,fun b z=>absurd z (noA b),e0.bs,e0.bsz,fun b _ _=>noA b,fun b z=>absurd z (noA b),e0.funs,e0.frf⟩,
  rfl,e0.bare,Un.kept hk,⟨_,x.toInCall.ns,fun i y v h1 h2 h3=>?_⟩,fun y c h=>⟨_,x.cell y c h⟩,e0.hok.fresh (Nat.le_refl _),fun y c h=>?_,fun p hp=>absurd (show p ∈ ([]:List (Addr × Obj)) from hp) (by simp),e0.hok.kept hk,?_⟩
 ·exact name_of_addr x.apart (PySem.mem_of_lookup h1) (PySem.mem_of_lookup h2)
 ·have hy:scope.names.lookup y=some .cell∨scope.names.lookup y=some .free:=hy
  rcases hy with hy | hy
  ·exact zp hy
  ·exact absurd rfl (S.nofree _ (PySem.mem_of_lookup hy))
 ·exact Nat.le_of_lt (x.above y c (PySem.mem_of_lookup h))
 ·have hi:i < vs.length:=by
   unfold start at h2
   by_cases hi:i < vs.length
   ·exact hi
   ·rw [List.getElem?_append_right (by simpa using hi)] at h2
    rw [List.getElem?_replicate] at h2
    split at h2 <;> cases h2
  have ha:vs[i]? = some v:=by
   unfold start at h2
   rw [List.getElem?_append_left (by simpa using hi),List.getElem?_map] at h2
   cases e:vs[i]? with
   | none=>rw [e] at h2;cases h2
   | some a=>rw [e] at h2;cases h2;rfl
  obtain ⟨u,hu,rv⟩:=r.get ha
  have hp:ps[i]? = some y:=by
   rw [← S.pre,List.getElem?_take_of_lt (by omega)];exact h1
  have ndP:ps.Nodup:=by rw [← S.pre];exact S.nd.sublist (List.take_sublist _ _)
  refine ⟨u,rv,?_⟩
  rcases S.par y (List.mem_of_getElem? hp) with k | k
  ·exact .inl ⟨k,Up ndP hp hu k⟩
  ·obtain ⟨c,e⟩:=zp (n:=s.heap.objs.size + 1) k
   refine .inr ⟨.inl k,c,e,?_⟩
   have q:=x.cell y c e
   rw [Uq ndP hp hu (by show scope.names.lookup y ≠ _;rw [k];decide)] at q
   exact q
 ·exact e0.hok.fresh (Nat.le_of_lt (x.above y c (PySem.mem_of_lookup h)))
 ·unfold start
  show _=N.length
  rw [List.length_append,List.length_map,List.length_replicate]
  omega
theorem QN {CX:CXT} {P:Program} {w:World} {K:PySem.W.Frag} {mg:Str→Option Value} {base:Heap} {k:Nat} {f:Addr} {name qual:Str} {params:Arguments} {body:List Stmt} {scope:Scope} {dV kV doc pm cdv ct oc:Value} {an od:Option Addr}
  {osl:Array (Option Value)} {N ps:List Str} {sp:Sp} (lk:K.lookup f=some ⟨oc,od,.func (PySem.W.fnOf name qual params body scope dV kV doc pm an cdv ct),osl⟩) (hcd:PySem.W.codeIn K cdv qual=true) (S:xb N ps scope)
  (len:∀ vs H Q E,sp vs H Q E→vs.length=ps.length)
  (hbody:∀ (A:Around) (outer:List Env) (s:Shared) (H:Hp) (vs:List V) (Q:VK) (E:XK),Nj k (A.deeper (envOfC qual scope s.heap.objs.size f cdv))→sp vs H Q E →
   ∃ t,PSs (Ax CX P w K mg base N qual scope f cdv A outer s H E) body t∧t { nx:=fun _ H'=>Q .non H',rt:=Q } (start N vs) H) :
  Fu P w K mg base CX (k + 1) f (PySem.W.fnOf name qual params body scope dV kV doc pm an cdv ct) ps sp:=by
 refine ⟨len,fun A outer s H args us vs Q E hr e0 hb r hsp=>?_⟩
 have hl:=len _ _ _ _ hsp
 have KX:K.In s.heap:=e0.mod.kin.keeps fun b o e=>(e0.bs b o e).1
 have lim:s.heap.NoLimit:=e0.mod.nolimit.keeps fun b o e=>(e0.bs b o e).1
 have hkind:∀ y ∈ ps.zip us,scope.names.lookup y.1=some .local∨(scope.names.lookup y.1=some .cell∧((cellsFrom (s.heap.objs.size + 1) scope.names []).lookup y.1).isSome=true):=fun ⟨n,v⟩ hy=>by
  rcases S.par n (List.of_mem_zip hy).1 with q | q
  ·exact .inl q
  ·exact .inr ⟨q,PySem.W.cellsFrom_some _ _ _ (.inl q)⟩
 refine codeAny_call_function hr.depth (KX _ _ lk) rfl S.co S.gen rfl (PySem.W.codeRec_of KX hcd) (hb _ _ _ _ ?_)
 refine wpAny_newFunctionEnv_cells S.kind hkind fun env he s1 x=>?_
 subst he
 refine ⟨lim.keeps x.toInCall.keep,codeAny_func ?_⟩
 obtain ⟨t,ht,hq⟩:=hbody A outer s H vs Q E (hr.deeper _) hsp
 have I:Inv (Ax CX P w K mg base N qual scope f cdv A outer s H E) [] (start N vs) H s1:=YA S e0 hl r x
 refine wpAny_mono (ht [] s1 (start N vs) H _ I hq) (fun fl s' hs=>?_) fun e s' hs=>hs
 have fin:∀ {σ':St} {H':Hp} {v:V} {u:Value},Inv (Ax CX P w K mg base N qual scope f cdv A outer s H E) [] σ' H' s'→Md v u→Q v H'→CE outer P w H s Q u s':=
  fun {σ' H' v u} J rv q=>⟨v,H',J.os,J.bare,J.base,J.hok,rv,q⟩
 cases fl with
 | ret u=>
  obtain ⟨v,σ',H',J,rv,q⟩:=hs
  exact fin J rv q
 | next=>
  obtain ⟨σ',H',J,q⟩:=hs
  exact fin (v:=V.non) (u:=Value.none) J rfl q
 | brk=>
  obtain ⟨_,_,_,q⟩:=hs
  exact False.elim q
 | cont=>
  obtain ⟨_,_,_,q⟩:=hs
  exact False.elim q
section
variable {P:Program} {w:World} {K:PySem.W.Frag} {mg:Str→Option Value} {base:Heap}
theorem Fun.okH {x qual:Str} {st:Stmt} {f:Addr} {fd:FuncData} {N ps:List Str} {k:Nat} {sp:Sp} (F:Fun K x qual st f fd) (S:xb N ps (ib st)) (len:∀ vs H Q E,sp vs H Q E→vs.length=ps.length)
  (hbody:∀ (cdv:Value) (A:Around) (outer:List Env) (s:Shared) (H:Hp) (vs:List V) (Q:VK) (E:XK),Nj k (A.deeper (envOfC qual (ib st) s.heap.objs.size f cdv))→sp vs H Q E →
   ∃ t,PSs (Ax CX0 P w K mg base N qual (ib st) f cdv A outer s H E).nox (qm st) t∧t { nx:=fun _ H'=>Q .non H',rt:=Q } (start N vs) H):Fu P w K mg base CX0 (k + 1) f fd ps sp:=by
 obtain ⟨oc,od,kV,doc,pm,an,cdv,ct,osl,rfl,lk,hcd⟩:=F.ex
 refine QN lk hcd S len fun A outer s H vs Q E hr hsp=>?_
 obtain ⟨t,h,q⟩:=hbody cdv A outer s H vs Q E hr hsp
 exact ⟨t,h.nox,q⟩
end
end L2
namespace L2
open PySem PySem.Spec PyProof.Rows
section
variable {X:Cx}
end
end L2
namespace L2
open PySem PySem.Spec PyProof.Rows
section
variable {α:Type} {M:List α→Prop}
theorem us1 (h:∀ a,M [a]):∀ us:List α,us.length=1→M us | [a],_=>h a
theorem us2 (h:∀ a b,M [a,b]):∀ us:List α,us.length=2→M us | [a,b],_=>h a b
theorem us3 (h:∀ a b c,M [a,b,c]):∀ us:List α,us.length=3→M us | [a,b,c],_=>h a b c
theorem us4 (h:∀ a b c d,M [a,b,c,d]):∀ us:List α,us.length=4→M us | [a,b,c,d],_=>h a b c d
theorem us5 (h:∀ a b c d e,M [a,b,c,d,e]):∀ us:List α,us.length=5→M us | [a,b,c,d,e],_=>h a b c d e
theorem us6 (h:∀ a b c d e f,M [a,b,c,d,e,f]):∀ us:List α,us.length=6→M us | [a,b,c,d,e,f],_=>h a b c d e f
theorem us7 (h:∀ a b c d e f g,M [a,b,c,d,e,f,g]):∀ us:List α,us.length=7→M us | [a,b,c,d,e,f,g],_=>h a b c d e f g
theorem us8 (h:∀ a b c d e f g i,M [a,b,c,d,e,f,g,i]):∀ us:List α,us.length=8→M us | [a,b,c,d,e,f,g,i],_=>h a b c d e f g i
end
structure XB (K:PySem.W.Frag) (C:Addr):Prop where
 hd:PySem.W.hasDictIn K C=true
 ov:((PySem.W.clsIn K C).any fun cd=>yD cd.mro)=true
 sa:PySem.W.findIn K (.ref C) "__setattr__"=some (some (.builtin "object.__setattr__"))
 ga:PySem.W.findIn K (.ref C) "__getattribute__"=some (some (.builtin "BaseException.__getattribute__"))
 gt:PySem.W.findIn K (.ref C) "__getattr__"=some none
theorem Bu {K:PySem.W.Frag} {C f:Addr} (b:XB K C) (m:MkX K C f):Qr K C:=⟨b.hd,b.ov,b.sa,b.ga,b.gt,_,m.e⟩
structure IB (K:PySem.W.Frag) (C:Addr):Prop where
 ha:PySem.W.findIn K (.ref C) "__class__"=some (some (.builtin "object.__class__"))
 hn:PySem.W.specialIn K (.builtin "object.__class__") "__get__"=some (some (.builtin "getset_descriptor.__get__"))
 htk:PySem.W.takesIn K (.builtin "object.__class__")=some true
 hm:PySem.W.mroIn K C (.type "object")=some true
theorem wD {K:PySem.W.Frag} {C:Addr} (x:Qr K C) (b:IB K C):iI K C:=⟨x,b.ha,b.hn,b.htk,b.hm⟩
theorem FM {K:PySem.W.Frag} {C f:Addr} (i:PySem.W.isFn K (.ref f)=true) (e:iu K C f=true) (k:PySem.W.keepIn K (.ref C)=true):MkX K C f:=⟨e,beq_iff_eq.mp i,k⟩
end L2
namespace L2
open PySem PySem.Spec PyProof.Rows
section
variable {X:Cx}
noncomputable def sK (K:PySem.W.Frag):V→List V→Hp→VK→Prop:=fun x vs H Q=>∃ l ks k,x=.ref l∧vs=[.int k]∧SqL K H l (List.map V.int ks)∧k ∈ ks∧ks.length ≤ 1000∧Q (.int (ks.idxOf k:Nat)) H
end
end L2
namespace L2
open PySem PySem.Spec PyProof.Rows
noncomputable def XO (p d:Addr):Heap→Prop:=fun h=>PySem.W.KdlKeysView h p d
noncomputable def sO (p d:Addr):Heap→Prop:=fun h=>h.IsValuesView p d
theorem XO.ok {P:Program} {w:World} {H:Hp} {h:Heap} {p d:Addr} (z:XO p d h):Gd P w H h p (.ext (XO p d)):=
 ⟨z,let ⟨o,ho,_⟩:=z;⟨o,ho⟩,fun _ _ z1 k=>let ⟨o,ho,x⟩:=z1;⟨o,k o ho,x⟩⟩
theorem sO.ok {P:Program} {w:World} {H:Hp} {h:Heap} {p d:Addr} (z:sO p d h):Gd P w H h p (.ext (sO p d)):=
 ⟨z,let ⟨o,ho,_⟩:=z;⟨o,ho⟩,fun _ _ z1 k=>let ⟨o,ho,x⟩:=z1;⟨o,k o ho,x⟩⟩
section
variable {X:Cx}
noncomputable def Ur:V→List V→Hp→VK→Prop:=fun x vs H Q=>∃ d kvs,x=.ref d∧vs=[]∧H d=some (.dK kvs)∧∀ p,H p=none→Q (.ref p) (upd H p (.ext (XO p d)))
noncomputable def LP:V→List V→Hp→VK→Prop:=fun x vs H Q=>∃ d kvs,x=.ref d∧vs=[]∧H d=some (.dK kvs)∧∀ p,H p=none→Q (.ref p) (upd H p (.ext (sO p d)))
noncomputable def LJ (K:PySem.W.Frag):V→List V→Hp→VK→Prop:=fun x vs H Q=>∃ l ys k j,x=.ref l∧vs=[.str k]∧SqL K H l (Ib ys)∧ys[j]? = some k∧(∀ m,m < j→ys[m]? ≠ some k)∧ys.length ≤ 1000∧Q (.int (j:Nat)) H
end
end L2
namespace L2
open PySem PySem.Spec PyProof.Rows
theorem cM (i:Nat) (σ:St) (H:Hp) (Q:VK):FP i σ H Q=(∃ v,σ[i]? = some (some v)∧Q v H):=rfl
theorem ZP (v:V) (x_0:St) (H:Hp) (Q:VK):tC v x_0 H Q=(Q v H):=rfl
theorem jM (ta tb:TE) (σ:St) (H:Hp) (Q:VK):jR ta tb σ H Q=(t2I ta tb (fun i j H2=>Q (.int (i + j)) H2) σ H):=rfl
theorem XL (ta tb:TE) (σ:St) (H:Hp) (Q:VK):oR ta tb σ H Q=(t2I ta tb (fun i j H2=>Q (.int (i - j)) H2) σ H):=rfl
theorem WK (ta tb:TE) (σ:St) (H:Hp) (Q:VK):rR ta tb σ H Q=(t2I ta tb (fun i j H2=>(-(2 ^ 64) < i∧i < 2 ^ 64)∧Q (.int (i * j)) H2) σ H):=rfl
theorem DK (p:Int→Int→Bool) (ta tb:TE) (σ:St) (H:Hp) (Q:VK):qR p ta tb σ H Q=(t2I ta tb (fun i j H2=>Q (.bl (p i j)) H2) σ H):=rfl
theorem qK (ta:TE) (σ:St) (H:Hp) (Q:VK):WQ ta σ H Q=(ta σ H fun x H1=>Q (.bl (decide (x=.non))) H1):=rfl
theorem vI (ta:TE) (σ:St) (H:Hp) (Q:VK):HP ta σ H Q=(ta σ H fun x H1=>Q (.bl (!decide (x=.non))) H1):=rfl
theorem BP (t:TE) (σ:St) (H:Hp) (Q:(Bool→Hp→Prop)):tB t σ H Q=(t σ H fun x H1=>∃ c,x=.bl c∧Q c H1):=rfl
theorem FK (t u:TT) (σ:St) (H:Hp) (Q:(Bool→Hp→Prop)):zQ t u σ H Q=(t σ H fun c H1=>if c=true then u σ H1 Q else Q false H1):=rfl
theorem DM (t u:TT) (σ:St) (H:Hp) (Q:(Bool→Hp→Prop)):tOr t u σ H Q=(t σ H fun c H1=>if c=true then Q true H1 else u σ H1 Q):=rfl
theorem WJ (t:TT) (σ:St) (H:Hp) (Q:(Bool→Hp→Prop)):PQ t σ H Q=(t σ H fun c H1=>Q (!c) H1):=rfl
theorem nI (ta tb:TE) (σ:St) (H:Hp) (Q:VK):aO ta tb σ H Q=(ta σ H fun x H1=>∃ c,x=.bl c∧if c=true then tb σ H1 Q else Q (.bl false) H1):=rfl
theorem JL (ta tb:TE) (σ:St) (H:Hp) (Q:VK):CQ ta tb σ H Q=(ta σ H fun x H1=>∃ c,x=.bl c∧if c=true then Q (.bl true) H1 else tb σ H1 Q):=rfl
theorem sI (ta:TE) (σ:St) (H:Hp) (Q:VK):QP ta σ H Q=(ta σ H fun x H1=>∃ c,x=.bl c∧Q (.bl (!c)) H1):=rfl
theorem XM (t:TT) (ta tb:TE) (σ:St) (H:Hp) (Q:VK):tIf t ta tb σ H Q=(t σ H fun c H1=>if c=true then ta σ H1 Q else tb σ H1 Q):=rfl
theorem Jp (D:Kg) (σ:St) (H:Hp):PN  D σ H=(D.nx σ H):=rfl
theorem Bc (t u:TS) (D:Kg) (σ:St) (H:Hp):GQ t u D σ H=(t { D with nx:=u D } σ H):=rfl
theorem lC (D:Kg) (σ:St) (H:Hp):RO  D σ H=(D.bk σ H):=rfl
theorem xG (D:Kg) (σ:St) (H:Hp):KP  D σ H=(D.ct σ H):=rfl
theorem nG (te:TE) (D:Kg) (σ:St) (H:Hp):DO te D σ H=(te σ H fun _ H1=>D.nx σ H1):=rfl
theorem nK (te:TE) (D:Kg) (σ:St) (H:Hp):NP te D σ H=(te σ H D.rt):=rfl
theorem vG (D:Kg) (x_1:St) (H:Hp):yP  D x_1 H=(D.rt .non H):=rfl
theorem AF (x_0:Kg) (x_1:St) (x_2:Hp):HI  x_0 x_1 x_2=(False):=rfl
theorem Pm (i:Nat) (v:V) (σ:St) (H:Hp) (Q:(St→Hp→Prop)):Cw i v σ H Q=(Q (σ.set i (some v)) H):=rfl
theorem kL (vs:List V) (σ:St) (H:Hp) (Q:(St→Hp→Prop)):eP  vs σ H Q=(vs=[]∧Q σ H):=rfl
theorem jI (t:TG) (u:TGs) (vs:List V) (σ:St) (H:Hp) (Q:(St→Hp→Prop)):NA t u vs σ H Q=(∃ v r,vs=v :: r∧t v σ H fun σ' H'=>u r σ' H' Q):=rfl
theorem mK (K:PySem.W.Frag) (n:Nat) (t:TGs) (v:V) (σ:St) (H:Hp) (Q:(St→Hp→Prop)):tN K n t v σ H Q=(∃ a xs,v=.ref a∧SqT K H a xs∧xs.length=n∧t xs σ H Q):=rfl
theorem CL (to ti:TE) (t:pM) (v:V) (σ:St) (H:Hp) (Q:(St→Hp→Prop)):rQ to ti t v σ H Q=(to σ H fun o H1=>ti σ H1 fun i H2=>t o i v H2 fun H3=>Q σ H3):=rfl
theorem IL (te:TE) (g:TG) (D:Kg) (σ:St) (H:Hp):oP te g D σ H=(te σ H fun x H1=>g x σ H1 D.nx):=rfl
theorem qL (i j:Nat) (ta:TA) (D:Kg) (σ:St) (H:Hp):kR i j ta D σ H=(ta σ H fun vs H1=>∃ v w,vs=[v,w]∧D.nx ((σ.set i (some v)).set j (some w)) H1):=rfl
theorem QJ (i:Nat) (te:TE) (ti:TIp) (D:Kg) (σ:St) (H:Hp):bR i te ti D σ H=(∃ x,σ[i]? = some (some x)∧te σ H fun y H1=>ti x y H1 fun z H2=>D.nx (σ.set i (some z)) H2):=rfl
theorem CG (to ti te:TE) (tget:V→V→Hp→VK→Prop) (tip:TIp) (tset:pM) (D:Kg) (σ:St) (H:Hp):UP to ti te tget tip tset D σ H=(to σ H fun o H1=>ti σ H1 fun i H2=>tget o i H2 fun x H3=>te σ H3 fun y H4=>tip x y H4 fun z H5=>tset o i z H5 fun H6=>D.nx σ H6):=rfl
theorem DH (K:PySem.W.Frag) (tl:TE) (σ:St) (H:Hp) (R:(It→Hp→Prop)):tM K tl σ H R=(tl σ H fun x H1=>∃ a,x=.ref a∧(∃ xs,SqL K H1 a xs)∧R (Itl K a) H1):=rfl
theorem PK (K:PySem.W.Frag) (tl:TE) (σ:St) (H:Hp) (R:(It→Hp→Prop)):EQ K tl σ H R=(tl σ H fun x H1=>∃ a,x=.ref a∧(∃ xs,SqT K H1 a xs)∧R (Itt K a) H1):=rfl
theorem TN (r:R2) (ta tb:TE) (σ:St) (H:Hp) (Q:VK):tOp r ta tb σ H Q=(ta σ H fun x H1=>tb σ H1 fun y H2=>r x y H2 Q):=rfl
theorem KO (r:V→Hp→VK→Prop) (ta:TE) (σ:St) (H:Hp) (Q:VK):tUn r ta σ H Q=(ta σ H fun x H1=>r x H1 Q):=rfl
theorem kQ (C:Int→Int→Prop) (g:Int→Int→V) (x:V) (y:V) (H:Hp) (Q:VK):rI C g x y H Q=(∃ i j,x=.int i∧y=.int j∧C i j∧Q (g i j) H):=rfl
theorem VN (g:Int→Int→V) (x:V) (y:V) (H:Hp) (Q:VK):rI0 g x y H Q=(∃ i j,x=.int i∧y=.int j∧Q (g i j) H):=rfl
theorem OP (g:Int→V) (x:V) (H:Hp) (Q:VK):rU g x H Q=(∃ i,x=.int i∧Q (g i) H):=rfl
theorem NO (x:V) (y:V) (H:Hp) (Q:VK):rEq  x y H Q=(HN x y=true∧Q (.bl (decide (x=y))) H):=rfl
theorem SM (x:V) (y:V) (H:Hp) (Q:VK):rNe  x y H Q=(HN x y=true∧Q (.bl (!decide (x=y))) H):=rfl
theorem dI (t:TE) (σ:St) (H:Hp) (Q:(Bool→Hp→Prop)):GM t σ H Q=(t σ H fun x H'=>∃ k,x=.bl k∧Q k H'):=rfl
theorem wE (r r':R2) (ta tb tc:TE) (σ:St) (H:Hp) (Q:VK):XN r r' ta tb tc σ H Q=(ta σ H fun x H1=>tb σ H1 fun y H2=>r x y H2 fun z H3=>∃ k,z=.bl k ∧
 (if k=true then tc σ H3 fun w' H4=>r' y w' H4 Q else Q (.bl false) H3)):=rfl
theorem aL (K:PySem.W.Frag) (ta:TE) (f:Str) (σ:St) (H:Hp) (Q:VK):fR K ta f σ H Q=(ta σ H fun x H1=>∃ a C dx fs v u,x=.ref a∧H1 a=some (.ins C dx fs)∧Cls K C∧Con K C f v u∧fs.lookup f=none∧Q v H1):=rfl
theorem RJ (K:PySem.W.Frag) (ta tv:TE) (f:Str) (D:Kg) (σ:St) (H:Hp):RQ K ta tv f D σ H=(tv σ H fun y H1=>ta σ H1 fun x H2=>∃ a C dx fs,x=.ref a∧H2 a=some (.ins C dx fs)∧Cls K C∧Db K C f∧fs.length < 1000 ∧
 D.nx σ (upd H2 a (.ins C dx (Qg f y fs)))):=rfl
theorem cB (K:PySem.W.Frag) (ta tv:TE) (rd:V→V→Hp→VK→Prop) (f:Str) (D:Kg) (σ:St) (H:Hp):yC K ta tv rd f D σ H=(ta σ H fun x H1=>∃ a C dx fs v,x=.ref a∧H1 a=some (.ins C dx fs)∧Cls K C∧Db K C f∧fs.lookup f=some v ∧
 tv σ H1 fun y H2=>rd v y H2 fun z H3=>∃ dx' fs',H3 a=some (.ins C dx' fs')∧fs'.length < 1000∧D.nx σ (upd H3 a (.ins C dx' (Qg f z fs')))):=rfl
theorem tL (x:V) (y:V) (H:Hp) (Q:VK):DQ  x y H Q=(∃ i j,x=.int i∧y=.int j∧Q (.int (i + j)) H):=rfl
theorem UJ (x:V) (y:V) (H:Hp) (Q:VK):eR  x y H Q=(∃ i j,x=.int i∧y=.int j∧Q (.int (i - j)) H):=rfl
theorem yL (x_0:St) (H:Hp) (Q:(List V→Hp→Prop)):mP  x_0 H Q=(Q [] H):=rfl
theorem IH (ta:TE) (tr:TA) (σ:St) (H:Hp) (Q:(List V→Hp→Prop)):CO ta tr σ H Q=(ta σ H fun x H1=>tr σ H1 fun xs H2=>Q (x :: xs) H2):=rfl
theorem gL (t:TA) (σ:St) (H:Hp) (Q:VK):qQ t σ H Q=(t σ H fun xs H1=>xs.length ≤ sizeLine∧∀ p,H1 p=none→Q (.ref p) (upd H1 p (.tup xs))):=rfl
theorem yK (t:TA) (σ:St) (H:Hp) (Q:VK):IQ t σ H Q=(t σ H fun xs H1=>xs.length ≤ sizeLine∧∀ p,H1 p=none→Q (.ref p) (upd H1 p (.lst xs))):=rfl
theorem nH (sp:Sp) (dvs:List V) (E:XK) (t:TA) (σ:St) (H:Hp) (Q:VK):eG sp dvs E t σ H Q=(t σ H fun vs H1=>sp (vs ++ dvs) H1 Q E):=rfl
theorem yG (C:Addr) (m:Str) (sp:Sp) (dvs:List V) (E:XK) (ta:TE) (t:TA) (σ:St) (H:Hp) (Q:VK):uK C m sp dvs E ta t σ H Q=(ta σ H fun x H1=>∃ a dx fs,x=.ref a∧H1 a=some (.ins C dx fs)∧fs.lookup m=none ∧
 t σ H1 fun vs H2=>sp (x :: (vs ++ dvs)) H2 Q E):=rfl
theorem KH (C:Addr) (sp:Sp) (dvs:List V) (E:XK) (t:TA) (σ:St) (H:Hp) (Q:VK):oN C sp dvs E t σ H Q=(t σ H fun vs H1=>∀ x dx,H1 x=none→H1 dx=none→dx ≠ x →
 sp (.ref x :: (vs ++ dvs)) (upd (upd H1 dx (.own x)) x (.ins C dx [])) (fun v H2=>v=.non∧Q (.ref x) H2) E):=rfl
theorem ED (sp:Sp) (gV:List V→List V→List V) (E:XK) (t tk:TA) (σ:St) (H:Hp) (Q:VK):PM sp gV E t tk σ H Q=(t σ H fun vs H1=>tk σ H1 fun zs H2=>sp (gV vs zs) H2 Q E):=rfl
theorem uN (r:List V→Hp→VK→Prop) (t:TA) (σ:St) (H:Hp) (Q:VK):tCB r t σ H Q=(t σ H fun vs H1=>r vs H1 Q):=rfl
theorem uA (x_0:St) (H:Hp) (Q:(Option Int→Hp→Prop)):sE  x_0 H Q=(Q none H):=rfl
theorem pG (t:TE) (σ:St) (H:Hp) (Q:(Option Int→Hp→Prop)):KM t σ H Q=(t σ H fun x H1=>∃ i,x=.int i∧Q (some i) H1):=rfl
theorem JM (r:V→Option Int→Option Int→Hp→VK→Prop) (te:TE) (tl th:TO) (σ:St) (H:Hp) (Q:VK):tSl r te tl th σ H Q=(te σ H fun x H1=>tl σ H1 fun l H2=>th σ H2 fun u H3=>r x l u H3 Q):=rfl
theorem KL (K:PySem.W.Frag) (x:V) (lo:Option Int) (hi:Option Int) (H:Hp) (Q:VK):tQ K x lo hi H Q=(∃ a xs,x=.ref a∧SqT K H a xs ∧
 ¬ (HT.sIx xs.length 0 lo=0∧HT.sIx xs.length xs.length hi=xs.length)∧∀ p,H p=none→Q (.ref p) (upd H p (.tup (Oy xs lo hi)))):=rfl
theorem ZK (K:PySem.W.Frag) (x:V) (y:V) (H:Hp) (Q:VK):cR K x y H Q=(∃ a b ns ms,x=.ref a∧y=.ref b∧SqT K H a (ns.map V.int)∧SqT K H b (ms.map V.int)∧Q (.bl (HT.lexLt ns ms)) H):=rfl
theorem iG (K:PySem.W.Frag) (x:V) (y:V) (H:Hp) (Q:VK):mQ K x y H Q=(∃ a b xs ys,x=.ref a∧y=.ref b∧SqT K H a xs∧SqT K H b ys∧xs ≠ []∧xs.length + ys.length ≤ sizeLine ∧
 (ys=[]→Q (.ref a) H)∧(ys ≠ []→∀ p,H p=none→Q (.ref p) (upd H p (.tup (xs ++ ys))))):=rfl
theorem eM (K:PySem.W.Frag) (x:V) (y:V) (H:Hp) (Q:VK):rP K x y H Q=(∃ p xs i v,x=.ref p∧y=.int i∧SqL K H p xs∧atI xs i=some v∧Q v H):=rfl
theorem RK (K:PySem.W.Frag) (x:V) (y:V) (H:Hp) (Q:VK):qP K x y H Q=(∃ p xs i v,x=.ref p∧y=.int i∧SqT K H p xs∧atI xs i=some v∧Q v H):=rfl
theorem NJ (x:V) (y:V) (H:Hp) (Q:VK):nP  x y H Q=(∃ z i c,x=.str z∧y=.int i∧z.length ≤ sizeLine∧atI z.cps.toList i=some c∧Q (.str ⟨#[c]⟩) H):=rfl
theorem lN (K:PySem.W.Frag) (x:V) (y:V) (H:Hp) (Q:VK):rIx K x y H Q=(rP K x y H Q∨qP K x y H Q∨nP x y H Q):=rfl
theorem aH (o:V) (i:V) (v:V) (H:Hp) (Q:(Hp→Prop)):OO  o i v H Q=(∃ p xs k j,o=.ref p∧i=.int k∧H p=some (.lst xs)∧ixN xs.length k=some j∧Q (upd H p (.lst (xs.set j v)))):=rfl
theorem rK (K:PySem.W.Frag) (x:V) (lo:Option Int) (hi:Option Int) (H:Hp) (Q:VK):NQ K x lo hi H Q=(∃ a xs,x=.ref a∧SqL K H a xs∧∀ p,H p=none→Q (.ref p) (upd H p (.lst (Oy xs lo hi)))):=rfl
theorem TM (K:PySem.W.Frag) (neg:Bool) (x:V) (y:V) (H:Hp) (Q:VK):rIn K neg x y H Q=(∃ p xs,y=.ref p∧(SqL K H p xs∨SqT K H p xs)∧tm x=true∧xs.all tm=true∧Q (.bl (if neg then !inV x xs else inV x xs)) H):=rfl
theorem MJ (K:PySem.W.Frag) (T:String) (r:V→List V→Hp→VK→Prop) (to:TE) (σ:St) (H:Hp) (Q:VK):nR K T r to σ H Q=(to σ H fun x H1=>tyV K T x H1∧r x [] H1 Q):=rfl
theorem YM (K:PySem.W.Frag) (T:String) (r:V→List V→Hp→VK→Prop) (to:TE) (t:TA) (σ:St) (H:Hp) (Q:VK):tBM K T r to t σ H Q=(to σ H fun x H1=>tyV K T x H1∧t σ H1 fun xs H2=>r x xs H2 Q):=rfl
theorem AA (x:V) (vs:List V) (H:Hp) (Q:VK):sC  x vs H Q=(∃ l xs y,x=.ref l∧vs=[y]∧H l=some (.lst xs)∧xs.length < sizeLine∧Q .non (upd H l (.lst (xs ++ [y])))):=rfl
theorem CB (x:V) (vs:List V) (H:Hp) (Q:VK):rL  x vs H Q=(∃ l b xs zs,x=.ref l∧vs=[.ref b]∧H l=some (.lst xs)∧H b=some (.lst zs)∧xs.length + zs.length ≤ sizeLine∧Q .non (upd H l (.lst (xs ++ zs)))):=rfl
theorem SJ (x:V) (vs:List V) (H:Hp) (Q:VK):iR  x vs H Q=(∃ l xs y,x=.ref l∧vs=[]∧H l=some (.lst xs)∧xs[xs.length - 1]? = some y∧Q y (upd H l (.lst xs.dropLast))):=rfl
theorem sD (x:V) (vs:List V) (H:Hp) (Q:VK):FO  x vs H Q=(∃ l xs i k y,x=.ref l∧vs=[.int i]∧H l=some (.lst xs)∧-(2 ^ 63) ≤ i∧i < 2 ^ 63∧seqIndex? i xs.length=some k∧xs[k]? = some y∧Q y (upd H l (.lst (xs.eraseIdx k)))):=rfl
theorem Py (x:V) (vs:List V) (H:Hp) (Q:VK):LG  x vs H Q=(∃ l xs,x=.ref l∧vs=[]∧H l=some (.lst xs)∧Q .non (upd H l (.lst xs.reverse))):=rfl
theorem iE (x:V) (vs:List V) (H:Hp) (Q:VK):kN  x vs H Q=(∃ l xs,x=.ref l∧vs=[]∧H l=some (.lst xs)∧Q .non (upd H l (.lst []))):=rfl
theorem uL (x:V) (y:V) (H:Hp) (Q:VK):pR  x y H Q=(∃ l b xs zs,x=.ref l∧y=.ref b∧H l=some (.lst xs)∧H b=some (.lst zs)∧xs.length + zs.length ≤ sizeLine∧∀ p,H p=none→Q (.ref p) (upd H p (.lst (xs ++ zs)))):=rfl
theorem PL (x:V) (y:V) (H:Hp) (Q:VK):dR  x y H Q=(∃ l k xs,x=.ref l∧y=.int k∧H l=some (.lst xs)∧-(2 ^ 63) ≤ k∧k < 2 ^ 63∧xs.length * k.toNat ≤ sizeLine ∧
 ∀ p,H p=none→Q (.ref p) (upd H p (.lst (List.replicate k.toNat xs).flatten))):=rfl
theorem lH (td ty:TE) (σ:St) (H:Hp) (Q:VK):cN td ty σ H Q=(td σ H fun x H1=>ty σ H1 fun y H2=>∃ a v,x=.ref a∧pp H2 a y (some v)∧Q v H2):=rfl
theorem UK (ty td:TE) (σ:St) (H:Hp) (Q:VK):UQ ty td σ H Q=(ty σ H fun y H1=>td σ H1 fun x H2=>∃ a o,x=.ref a∧pp H2 a y o∧Q (.bl o.isSome) H2):=rfl
theorem JA (ty td:TE) (σ:St) (H:Hp) (Q:VK):IE ty td σ H Q=(ty σ H fun y H1=>td σ H1 fun x H2=>∃ a o,x=.ref a∧pp H2 a y o∧Q (.bl (!o.isSome)) H2):=rfl
theorem LH (td ty tv:TE) (D:Kg) (σ:St) (H:Hp):LM td ty tv D σ H=(tv σ H fun v H1=>td σ H1 fun x H2=>ty σ H2 fun y H3=>∃ a H4,x=.ref a∧OA H3 a y v H4∧D.nx σ H4):=rfl
theorem uG (td ty tv:TE) (rd:V→V→Hp→VK→Prop) (D:Kg) (σ:St) (H:Hp):cQ td ty tv rd D σ H=(td σ H fun x H1=>ty σ H1 fun y H2=>∃ a v,x=.ref a∧pp H2 a y (some v) ∧
 tv σ H2 fun y2 H3=>rd v y2 H3 fun z H4=>∃ H5,OA H4 a y z H5∧D.nx σ H5):=rfl
theorem RH (td ty:TE) (D:Kg) (σ:St) (H:Hp):fQ td ty D σ H=(td σ H fun x H1=>ty σ H1 fun y H2=>∃ a kvs k,x=.ref a∧H2 a=some (.dK kvs)∧y=kV k∧(Uo kvs k).isSome=true∧D.nx σ (upd H2 a (.dK (Ew kvs k)))):=rfl
theorem jE (x_0:St) (H:Hp) (Q:VK):bJ  x_0 H Q=(∀ p,H p=none→Q (.ref p) (upd H p (.dK []))):=rfl
theorem uC (x_0:St) (H:Hp) (Q:VK):zM  x_0 H Q=(∀ p,H p=none→Q (.ref p) (upd H p (.dT []))):=rfl
theorem zI (trs:List (TE × TE)) (σ:St) (H:Hp) (Q:VK):zP trs σ H Q=(∀ p,H p=none→FD trs σ (upd H p (.dK [])) fun ps H2=>H2 p=some (.dK [])∧∃ kvs:List (Key × V),ps=kvs.map (fun kv=>(kV kv.1,kv.2))∧kvs.length ≤ 15∧Q (.ref p) (upd H2 p (.dK (xJ [] kvs)))):=rfl
theorem xC (td ty:TE) (σ:St) (H:Hp) (Q:VK):UO td ty σ H Q=(td σ H fun x H1=>∃ a,x=.ref a∧IsD H1 a∧ty σ H1 fun y H2=>∃ o,pp H2 a y o∧Q (o.getD .non) H2):=rfl
theorem JD (td ty tx:TE) (σ:St) (H:Hp) (Q:VK):bN td ty tx σ H Q=(td σ H fun x H1=>∃ a,x=.ref a∧IsD H1 a∧ty σ H1 fun y H2=>tx σ H2 fun z H3=>∃ o,pp H3 a y o∧Q (o.getD z) H3):=rfl
theorem SE (td ty:TE) (σ:St) (H:Hp) (Q:VK):iO td ty σ H Q=(td σ H fun x H1=>∃ a,x=.ref a∧IsD H1 a∧ty σ H1 fun y H2=>∃ kvs k v,H2 a=some (.dK kvs)∧y=kV k∧Uo kvs k=some v∧Q v (upd H2 a (.dK (Ew kvs k)))):=rfl
theorem bE (td ty tx:TE) (σ:St) (H:Hp) (Q:VK):pO td ty tx σ H Q=(td σ H fun x H1=>∃ a,x=.ref a∧IsD H1 a∧ty σ H1 fun y H2=>tx σ H2 fun z H3=>∃ kvs k,H3 a=some (.dK kvs)∧y=kV k ∧
 (∀ v,Uo kvs k=some v→Q v (upd H3 a (.dK (Ew kvs k))))∧(Uo kvs k=none→Q z H3)):=rfl
theorem NH (x_0:St) (H:Hp) (Q:(Bool→Hp→Prop)):Bx  x_0 H Q=(Q true H):=rfl
theorem kM (tl:TE) (σ:St) (H:Hp) (R:(It→Hp→Prop)):JQ tl σ H R=(tl σ H fun x H1=>∃ z,x=.str z∧R (Its (Aj z)) H1):=rfl
theorem dL (x:V) (lo:Option Int) (hi:Option Int) (H:Hp) (Q:VK):sQ  x lo hi H Q=(∃ z,x=.str z∧z.length ≤ sizeLine∧Q (.str (Txt.slice z lo hi)) H):=rfl
theorem tI (K:PySem.W.Frag) (x:V) (vs:List V) (H:Hp) (Q:VK):QO K x vs H Q=(∃ sep p ys,x=.str sep∧vs=[.ref p]∧SqL K H p (Ib ys)∧(ys.map (·.length)).sum + ys.length * sep.length ≤ 16777216∧Q (.str (Txt.join sep ys)) H):=rfl
theorem kF (x:V) (vs:List V) (H:Hp) (Q:VK):mJ  x vs H Q=(∃ z y,x=.str z∧vs=[.str y]∧y.length ≠ 0∧z.length + 2 ≤ sizeLine∧(Txt.split z y).length ≤ sizeLine∧∀ p,H p=none→Q (.ref p) (upd H p (.lst (Ib (Txt.split z y))))):=rfl
theorem yA (x:V) (vs:List V) (H:Hp) (Q:VK):iK  x vs H Q=(∃ z y i rest,x=.str z∧vs=[.str y]∧Builtin.Str.occurrences z y 0 z.length 1=i :: rest∧Q (.int (i:Nat)) H):=rfl
theorem nD (OK:Addr→Prop) (m:Str) (SPV:Addr→Sp) (E:XK) (ta:TE) (t:TA) (σ:St) (H:Hp) (Q:VK):IJ OK m SPV E ta t σ H Q=(ta σ H fun x H1=>∃ a C dx fs,x=.ref a∧H1 a=some (.ins C dx fs)∧OK C∧fs.lookup m=none ∧
 t σ H1 fun vs H2=>SPV C (x :: vs) H2 Q E):=rfl
theorem WC (kvs:SVs) (ty:TE) (σ:St) (H:Hp) (Q:VK):uO kvs ty σ H Q=(ty σ H fun y H1=>∃ x v,y=.str x∧kvs.lookup x=some v∧Q v H1):=rfl
theorem AH (K:PySem.W.Frag) (ta:TA) (σ:St) (H:Hp) (R:(It→Hp→Prop)):dN K ta σ H R=(ta σ H fun vs H1=>∃ a,vs=[.ref a]∧(∃ xs,SqL K H1 a xs)∧R (Ite K a) H1):=rfl
theorem YL (K:PySem.W.Frag) (ta:TA) (σ:St) (H:Hp) (R:(It→Hp→Prop)):ZQ K ta σ H R=(ta σ H fun vs H1=>∃ a b,vs=[.ref a,.ref b]∧(∃ xs,SqL K H1 a xs)∧(∃ ys,SqL K H1 b ys)∧R (Itz K a b) H1):=rfl
theorem XJ (K:PySem.W.Frag) (ta:TA) (σ:St) (H:Hp) (R:(It→Hp→Prop)):VQ K ta σ H R=(ta σ H fun vs H1=>∃ a xs,vs=[.ref a]∧SqL K H1 a xs∧R (Itv K a xs.length) H1):=rfl
theorem GB (x:V) (vs:List V) (H:Hp) (Q:VK):IK  x vs H Q=(∃ l xs i y,x=.ref l∧vs=[.int i,y]∧H l=some (.lst xs)∧0 ≤ i∧i < 2 ^ 62∧i ≤ (xs.length:Int)∧xs.length < sizeLine∧Q .non (upd H l (.lst (xs.take i.toNat ++ y :: xs.drop i.toNat)))):=rfl
theorem xK (K:PySem.W.Frag) (x:V) (y:V) (H:Hp) (Q:VK):uQ K x y H Q=(∃ p q b,x=.ref p∧y=.ref q∧EqH K H 8 (.ref p) (.ref q) b∧Q (.bl (!b)) H):=rfl
theorem YK (K:PySem.W.Frag) (x:V) (y:V) (H:Hp) (Q:VK):KQ K x y H Q=(∃ p q b,x=.ref p∧y=.ref q∧EqH K H 8 (.ref p) (.ref q) b∧Q (.bl b) H):=rfl
theorem YN (x_0:St) (H:Hp) (Q:(Hp→Prop)):tJ0  x_0 H Q=(Q H):=rfl
theorem ZO (te:TE) (t:TJ) (σ:St) (H:Hp) (Q:(Hp→Prop)):tJI te t σ H Q=(te σ H fun v H1=>∃ i,v=.int i∧i.natAbs.log2 < 1920∧t σ H1 Q):=rfl
theorem QM (te:TE) (t:TJ) (σ:St) (H:Hp) (Q:(Hp→Prop)):tJS te t σ H Q=(te σ H fun v H1=>∃ x,v=.str x∧x.length ≤ 1000∧t σ H1 Q):=rfl
theorem sN (te:TE) (t:TJ) (σ:St) (H:Hp) (Q:(Hp→Prop)):tJR te t σ H Q=(te σ H fun v H1=>∃ x,v=.str x∧x.length ≤ 1000∧(∀ c ∈ x.cps.toList,c < 16 ^ 8)∧t σ H1 Q):=rfl
theorem KB (t:TJ) (σ:St) (H:Hp) (Q:VK):fF t σ H Q=(t σ H fun H1=>∀ y:Str,Q (.str y) H1):=rfl
theorem FE (K:PySem.W.Frag) (t:TA) (σ:St) (H:Hp) (Q:VK):UI K t σ H Q=(t σ H fun vs H1=>∃ x C od v,vs=[.ref x,v]∧H1 x=some (.ext (XF x C od))∧Qr K C∧Q .non H1):=rfl
theorem GD (C:Addr) (sp:Sp) (t:TA) (σ:St) (H:Hp) (Q:VK):wJ C sp t σ H Q=(t σ H fun vs H1=>vs.length ≤ sizeLine∧∀ x,H1 x=none→sp (.ref x :: vs) (upd H1 x (.ext (XF x C none))) (fun v H2=>v=.non∧Q (.ref x) H2) (fun _ _ _=>False)):=rfl
theorem GE (K:PySem.W.Frag) (ta tv:TE) (f:Str) (D:Kg) (σ:St) (H:Hp):JJ K ta tv f D σ H=(tv σ H fun y H1=>ta σ H1 fun x H2=>∃ a C,x=.ref a∧H2 a=some (.ext (XF a C none))∧Qr K C∧Db K C f ∧
 ∀ dx,H2 dx=none→dx ≠ a→D.nx σ (upd (upd H2 a (.ext (XF a C (some dx)))) dx (.ext (XD dx [(f,y)])))):=rfl
theorem EC (K:PySem.W.Frag) (ta tv:TE) (f:Str) (D:Kg) (σ:St) (H:Hp):HJ K ta tv f D σ H=(tv σ H fun y H1=>ta σ H1 fun x H2=>∃ a C dx fs,x=.ref a∧H2 a=some (.ext (XF a C (some dx)))∧H2 dx=some (.ext (XD dx fs))∧Qr K C∧Db K C f∧fs.length < 1000 ∧
 D.nx σ (upd H2 dx (.ext (XD dx (Qg f y fs))))):=rfl
theorem lI (K:PySem.W.Frag) (ta:TE) (f:Str) (σ:St) (H:Hp) (Q:VK):GN K ta f σ H Q=(ta σ H fun x H1=>∃ a C dx fs v,x=.ref a∧H1 a=some (.ext (XA a C (some dx)))∧H1 dx=some (.ext (XD dx fs))∧Qr K C∧Db K C f∧fs.lookup f=some v∧Q v H1):=rfl
theorem VD (sp:Sp) (dvs:List V) (E:St→XK) (t:TA) (σ:St) (H:Hp) (Q:VK):rJ sp dvs E t σ H Q=(t σ H fun vs H1=>sp (vs ++ dvs) H1 Q (E σ)):=rfl
theorem vD (C:Addr) (m:Str) (sp:Sp) (dvs:List V) (E:St→XK) (ta:TE) (t:TA) (σ:St) (H:Hp) (Q:VK):SN C m sp dvs E ta t σ H Q=(ta σ H fun x H1=>∃ a dx fs,x=.ref a∧H1 a=some (.ins C dx fs)∧fs.lookup m=none ∧
 t σ H1 fun vs H2=>sp (x :: (vs ++ dvs)) H2 Q (E σ)):=rfl
theorem UE (K:PySem.W.Frag) (E:St→XK) (te:TE) (D:Kg) (σ:St) (H:Hp):FJ K E te D σ H=(te σ H fun v H1=>∃ x C od,v=.ref x∧H1 x=some (.ext (XF x C od))∧Qr K C∧E σ (.ref C) od (upd H1 x (.ext (XA x C od)))):=rfl
theorem DG (ta:TA) (σ:St) (H:Hp) (R:(It→Hp→Prop)):IN ta σ H R=(ta σ H fun vs H1=>∃ i j:Int,vs=[.int i,.int j,.int (-1)]∧(-1073741824 ≤ i∧i < 1073741824∧-1073741824 ≤ j∧j < 1073741824)∧R (Itd i (i - j).toNat) H1):=rfl
theorem gx (K:PySem.W.Frag) (ta:TA) (σ:St) (H:Hp) (Q:VK):Gz K ta σ H Q=(ta σ H fun vs H1=>∃ a xs,vs=[.ref a]∧SqL K H1 a xs∧∀ l,H1 l=none→Q (.ref l) (upd H1 l (.lst xs.reverse))):=rfl
theorem mI (K:PySem.W.Frag) (ta:TA) (td:TE) (σ:St) (H:Hp) (Q:VK):MN K ta td σ H Q=(ta σ H fun vs H1=>td σ H1 fun y H2=>∃ l ks,vs=[.ref l]∧SqL K H2 l (List.map V.int ks)∧Q (match ks.min? with | some m=>.int m | none=>y) H2):=rfl
theorem KK (K:PySem.W.Frag) (neg:Bool) (x:V) (y:V) (H:Hp) (Q:VK):HQ K neg x y H Q=(∃ p qs f,y=.ref p∧SqL K H p (List.map V.ref qs)∧(∀ q ∈ qs,EqH K H 8 (.ref q) x (f q))∧Q (.bl (if neg then !(qs.any f) else qs.any f)) H):=rfl
theorem WA (K:PySem.W.Frag) (x:V) (vs:List V) (H:Hp) (Q:VK):sK K x vs H Q=(∃ l ks k,x=.ref l∧vs=[.int k]∧SqL K H l (List.map V.int ks)∧k ∈ ks∧ks.length ≤ 1000∧Q (.int (ks.idxOf k:Nat)) H):=rfl
theorem ZH (x:V) (vs:List V) (H:Hp) (Q:VK):Ur  x vs H Q=(∃ d kvs,x=.ref d∧vs=[]∧H d=some (.dK kvs)∧∀ p,H p=none→Q (.ref p) (upd H p (.ext (XO p d)))):=rfl
theorem xI (x:V) (vs:List V) (H:Hp) (Q:VK):LP  x vs H Q=(∃ d kvs,x=.ref d∧vs=[]∧H d=some (.dK kvs)∧∀ p,H p=none→Q (.ref p) (upd H p (.ext (sO p d)))):=rfl
theorem zB (K:PySem.W.Frag) (x:V) (vs:List V) (H:Hp) (Q:VK):LJ K x vs H Q=(∃ l ys k j,x=.ref l∧vs=[.str k]∧SqL K H l (Ib ys)∧ys[j]? = some k∧(∀ m,m < j→ys[m]? ≠ some k)∧ys.length ≤ 1000∧Q (.int (j:Nat)) H):=rfl
noncomputable def ni (J:It) (g:TG) (tb:TS) (D:Kg) (σ:St) (H:Hp):Prop:=∃ W:Nat→Nat→St→Hp→Prop,(∃ m,W 0 m σ H)∧∀ i m σ H,W i m σ H →
 (J.stop i H∧D.nx σ H)∨(J.go i H∧∃ N:St→Hp→Prop,(∀ σ' H',N σ' H'→∃ m',m' < m∧W (i + 1) m' σ' H')∧∀ x H',J.yld i H x H'→g x σ H' fun σ2 H2=>tb { D with nx:=N,ct:=N,bk:=D.nx } σ2 H2)
theorem CK (wi:TI) (g:TG) (tb:TS) (D:Kg) (σ:St) (H:Hp):xQ wi g tb D σ H=wi σ H fun J H1=>ni J g tb D σ H1:=rfl
noncomputable def de (J:It) (g:TG) (tc:TT) (te:TE) (σb:St) (Q:VK) (H:Hp):Prop:=∃ W:Nat→Nat→List V→Hp→Prop,(∃ m,W 0 m [] H)∧Dv J g tc te σb Q W
theorem eL (K:PySem.W.Frag) (ta:TE) (f:Str) (σ:St) (H:Hp) (Q:VK):PP K ta f σ H Q=(ta σ H fun x H1=>∃ a v,x=.ref a∧xk K H1 a f v∧Q v H1):=by
 unfold PP xk
 congr 1
 funext x H1
 apply propext
 constructor
 ·rintro ⟨a,C,dx,fs,v,h1,h2,h3,h4,h5,h6⟩;exact ⟨a,v,h1,⟨C,dx,fs,h2,h3,h4,h5⟩,h6⟩
 ·rintro ⟨a,v,h1,⟨C,dx,fs,h2,h3,h4,h5⟩,h6⟩;exact ⟨a,C,dx,fs,v,h1,h2,h3,h4,h5,h6⟩
theorem nE (wi:TI) (g:TG) (tc:TT) (te:XK→TE) (sel:List (Option Nat)) (E:St→XK) (σ:St) (H:Hp) (Q:VK):pN wi g tc te sel E σ H Q=wi σ H fun J H1=>de J g tc (te (E σ)) (blk sel σ) Q H1:=rfl
theorem ZG (wi:TI) (g:TG) (tc:TT) (te:TE) (sel:List (Option Nat)) (σ:St) (H:Hp) (Q:VK):ML wi g tc te sel σ H Q=wi σ H fun J H1=>de J g tc te (blk sel σ) Q H1:=rfl
theorem bI (ta:TA) (σ:St) (H:Hp) (R:It→Hp→Prop):cP ta σ H R=(ta σ H fun vs H1=>∃ j:Int,vs=[.int j]∧-4611686018427387904 ≤ j∧j < 4611686018427387904∧R (Itr 0 j.toNat) H1):=rfl
theorem aI (ta:TA) (σ:St) (H:Hp) (R:It→Hp→Prop):eQ ta σ H R=(ta σ H fun vs H1=>∃ i j:Int,vs=[.int i,.int j]∧(-4611686018427387904 ≤ i∧i < 4611686018427387904∧-4611686018427387904 ≤ j∧j < 4611686018427387904)∧R (Itr i (j - i).toNat) H1):=rfl
theorem zL (sel:List (Option Nat)) (σ:St):blk sel σ=sel.map fun o=>o.bind fun j=>(σ[j]?).join:=rfl
theorem Rb {c:TT} {t u:TS} {D:Kg} {σ:St} {H:Hp} (b:Bool) (hc:∀ Q:Bool→Hp→Prop,Q b H→c σ H Q) (h1:b=true→t D σ H) (h2:b=false→u D σ H):xP c t u D σ H:=by
 refine hc _ ?_
 cases b with
 | true=>exact h1 rfl
 | false=>exact h2 rfl
theorem Rg {c:TT} {t u:TS} {D:Kg} {σ:St} {H:Hp} (R:Bool→Hp→Prop) (hc:∀ Q:Bool→Hp→Prop,(∀ b H',R b H'→Q b H')→c σ H Q) (h1:∀ H',R true H'→t D σ H') (h2:∀ H',R false H'→u D σ H'):xP c t u D σ H:=by
 refine hc _ fun b H' r=>?_
 cases b with
 | true=>exact h1 H' r
 | false=>exact h2 H' r
theorem Td {t:TS} {D:Kg} {σ:St} {H:Hp} (R:St→Hp→Prop) (h:∀ D':Kg,(∀ σ H,R σ H→D'.nx σ H)→D'.rt=D.rt→D'.bk=D.bk→D'.ct=D.ct→t D' σ H) (hR:∀ σ H,R σ H→D.nx σ H):t D σ H:=h D hR rfl rfl rfl
theorem tK {te:TE} {D:Kg} {σ:St} {H:Hp} (v:V) (hc:∀ Q:VK,Q v H→te σ H Q) (h:D.rt v H):NP te D σ H:=hc _ h
theorem Ff (x y:Str):(x ++ y).length=x.length + y.length:=by
 show (x.cps ++ y.cps).size=_
 rw [Array.size_append];rfl
theorem ni.range {lo:Int} {n:Nat} {g:TG} {tb:TS} {D:Kg} {σ:St} {H:Hp} (Pv:Nat→St→Hp→Prop) (h0:Pv 0 σ H)
  (hs:∀ i σ H,i < n→Pv i σ H→g (.int (lo + i)) σ H fun σ2 H2=>tb { D with nx:=Pv (i + 1),ct:=Pv (i + 1),bk:=D.nx } σ2 H2) (hd:∀ σ H,Pv n σ H→D.nx σ H):ni (Itr lo n) g tb D σ H:=zE Pv h0 hs hd
theorem ni.list {K:PySem.W.Frag} {a:Addr} {xs:List V} {g:TG} {tb:TS} {D:Kg} {σ:St} {H:Hp} (Pv:Nat→St→Hp→Prop) (h0:Pv 0 σ H) (hl:∀ i σ H,i ≤ xs.length→Pv i σ H→SqL K H a xs)
  (hs:∀ i x σ H,xs[i]? = some x→Pv i σ H→g x σ H fun σ2 H2=>tb { D with nx:=Pv (i + 1),ct:=Pv (i + 1),bk:=D.nx } σ2 H2) (hd:∀ σ H,Pv xs.length σ H→D.nx σ H):ni (Itl K a) g tb D σ H:=JG Pv h0 hl hs hd
theorem ni.its {xs:List V} {g:TG} {tb:TS} {D:Kg} {σ:St} {H:Hp} (Pv:Nat→St→Hp→Prop) (h0:Pv 0 σ H)
  (hs:∀ i x σ H,xs[i]? = some x→Pv i σ H→g x σ H fun σ2 H2=>tb { D with nx:=Pv (i + 1),ct:=Pv (i + 1),bk:=D.nx } σ2 H2) (hd:∀ σ H,Pv xs.length σ H→D.nx σ H):ni (Its xs) g tb D σ H:=VJ Pv h0 hs hd
theorem de.list {K:PySem.W.Frag} {a:Addr} {xs:List V} {g:TG} {tc:TT} {te:TE} {σb:St} {Q:VK} {H:Hp} (Pv:Nat→List V→Hp→Prop) (hz:xs.length ≤ sizeLine) (h0:Pv 0 [] H) (hl:∀ i ys H,i ≤ xs.length→Pv i ys H→SqL K H a xs∧ys.length ≤ i)
  (hs:∀ i x ys H,xs[i]? = some x→Pv i ys H→Tg Pv g tc te σb i x ys H) (hd:∀ ys H,Pv xs.length ys H→∀ p,H p=none→Q (.ref p) (upd H p (.lst ys))):de (Itl K a) g tc te σb Q H:=YD Pv hz h0 hl hs hd
theorem de.its {xs:List V} {g:TG} {tc:TT} {te:TE} {σb:St} {Q:VK} {H:Hp} (Pv:Nat→List V→Hp→Prop) (hz:xs.length ≤ sizeLine) (h0:Pv 0 [] H) (hl:∀ i ys H,i ≤ xs.length→Pv i ys H→ys.length ≤ i)
  (hs:∀ i x ys H,xs[i]? = some x→Pv i ys H→Tg Pv g tc te σb i x ys H) (hd:∀ ys H,Pv xs.length ys H→∀ p,H p=none→Q (.ref p) (upd H p (.lst ys))):de (Its xs) g tc te σb Q H:=gI Pv hz h0 hl hs hd
theorem de.range {lo:Int} {n:Nat} {g:TG} {tc:TT} {te:TE} {σb:St} {Q:VK} {H:Hp} (Pv:Nat→List V→Hp→Prop) (hz:n ≤ sizeLine) (h0:Pv 0 [] H) (hl:∀ i ys H,i ≤ n→Pv i ys H→ys.length ≤ i)
  (hs:∀ i ys H,i < n→Pv i ys H→Tg Pv g tc te σb i (.int (lo + i)) ys H) (hd:∀ ys H,Pv n ys H→∀ p,H p=none→Q (.ref p) (upd H p (.lst ys))):de (Itr lo n) g tc te σb Q H:=jB Pv hz h0 hl hs hd
theorem Tu {α β:Type} {xs:List α} {i:Nat} {x:α} (f:α→β) (h:xs[i]? = some x):(xs.take (i + 1)).map f=(xs.take i).map f ++ [f x]:=by
 rw [List.take_add_one,h,List.map_append];rfl
theorem de.its_map {xs:List V} {g:TG} {te:TE} {σb:St} {Q:VK} {H:Hp} (f:V→V) (hz:xs.length ≤ sizeLine) (hs:∀ (i:Nat) (x:V) (N:V→Hp→Prop),xs[i]? = some x→N (f x) H→g x σb H fun σ2 H2=>Sub σb σ2∧te σ2 H2 N)
  (hd:∀ p,H p=none→Q (.ref p) (upd H p (.lst (xs.map f)))):de (Its xs) g Bx te σb Q H:=by
 refine de.its (fun i ys H'=>H'=H∧ys=(xs.take i).map f) hz ⟨rfl,rfl⟩ (fun i ys H' hi ⟨_,e⟩=>?_) (fun i x ys H' hx ⟨e1,e2⟩ N hN=>?_) (fun ys H' ⟨e1,e2⟩ p hp=>?_)
 ·rw [e,List.length_map,List.length_take];omega
 ·subst e1
  exact hs i x (fun y H4=>N (ys ++ [y]) H4) hx (hN _ _ ⟨rfl,by rw [e2,Tu f hx]⟩)
 ·subst e1
  rw [e2,List.take_length]
  exact hd p hp
theorem de.range_map {lo:Int} {n:Nat} {g:TG} {te:TE} {σb:St} {Q:VK} {H:Hp} (f:Nat→V) (hz:n ≤ sizeLine) (hs:∀ (i:Nat) (N:V→Hp→Prop),i < n→N (f i) H→g (.int (lo + i)) σb H fun σ2 H2=>Sub σb σ2∧te σ2 H2 N)
  (hd:∀ p,H p=none→Q (.ref p) (upd H p (.lst ((List.range n).map f)))):de (Itr lo n) g Bx te σb Q H:=by
 refine de.range (fun i ys H'=>H'=H∧ys=(List.range i).map f) hz ⟨rfl,rfl⟩ (fun i ys H' hi ⟨_,e⟩=>?_) (fun i ys H' hi ⟨e1,e2⟩ N hN=>?_) (fun ys H' ⟨e1,e2⟩ p hp=>?_)
 ·rw [e,List.length_map,List.length_range];exact Nat.le_refl _
 ·subst e1
  exact hs i (fun y H4=>N (ys ++ [y]) H4) hi (hN _ _ ⟨rfl,by rw [e2,List.range_succ,List.map_append];rfl⟩)
 ·subst e1
  rw [e2]
  exact hd p hp
theorem de.list_mk {K:PySem.W.Frag} {a:Addr} {xs:List V} {g:TG} {te:TE} {σb:St} {Q:VK} {H:Hp} (f:V→HO) (hl:SqL K H a xs) (hz:xs.length ≤ sizeLine) (hn:∀ x,noT (f x)=true)
  (hs:∀ (i:Nat) (x:V) (H1:Hp) (N:V→Hp→Prop),xs[i]? = some x→Xb H H1→(NoT H→NoT H1)→(∀ q,H1 q=none→N (.ref q) (upd H1 q (f x)))→g x σb H1 fun σ2 H2=>Sub σb σ2∧te σ2 H2 N)
  (hd:∀ (qs:List Addr) (H1:Hp),Xb H H1→(NoT H→NoT H1)→qs.length=xs.length→(∀ (j:Nat) (q:Addr) (x:V),qs[j]? = some q→xs[j]? = some x→H1 q=some (f x)∧H q=none)→∀ p,H1 p=none→Q (.ref p) (upd H1 p (.lst (qs.map V.ref)))):de (Itl K a) g Bx te σb Q H:=by
 refine de.list (fun i ys H'=>∃ qs:List Addr,ys=qs.map V.ref∧qs.length=i∧Xb H H'∧(NoT H→NoT H')∧∀ (j:Nat) (q:Addr) (x:V),qs[j]? = some q→xs[j]? = some x→H' q=some (f x)∧H q=none) hz
  ⟨[],rfl,rfl,Xb.refl H,id,fun j q x h _=>by simp at h⟩ ?_ ?_ ?_
 ·rintro i ys H' hi ⟨qs,e,e2,sm,_,_⟩
  exact ⟨hl.same sm,by rw [e,List.length_map];omega⟩
 ·rintro i x ys H' hx ⟨qs,e1,e2,sm,nt,al⟩ N hN
  refine hs i x H' (fun y H4=>N (ys ++ [y]) H4) hx sm nt fun q hq=>hN _ _ ⟨qs ++ [q],by rw [e1,List.map_append];rfl,by rw [List.length_append,e2];rfl,sm.updN (sm.free hq),fun n=>(nt n).upd (hn x),fun j q' x' h1 h2=>?_⟩
  by_cases hj:j < qs.length
  ·rw [List.getElem?_append_left hj] at h1
   obtain ⟨z1,z2⟩:=al j q' x' h1 h2
   exact ⟨by rw [lb (ub z1 hq)];exact z1,z2⟩
  ·rw [List.getElem?_append_right (by omega)] at h1
   have hj0:j - qs.length=0:=by
    cases hh:j - qs.length with
    | zero=>rfl
    | succ n=>rw [hh] at h1;simp at h1
   rw [hj0] at h1
   have e3:q=q':=by simpa using h1
   subst e3
   have e4:j=i:=by omega
   subst e4
   rw [hx] at h2
   cases h2
   exact ⟨db,sm.free hq⟩
 ·rintro ys H' ⟨qs,e1,e2,sm,nt,al⟩ p hp
  subst e1
  exact hd qs H' sm nt e2 al p hp
theorem ni.of {J:It} {n:Nat} {g:TG} {tb:TS} {D:Kg} {σ:St} {H:Hp} (Pv:Nat→St→Hp→Prop) (h0:Pv 0 σ H) (hgo:∀ i σ H,i < n→Pv i σ H→J.go i H) (hst:∀ σ H,Pv n σ H→J.stop n H)
  (hs:∀ i σ H x H',i < n→Pv i σ H→J.yld i H x H'→g x σ H' fun σ2 H2=>tb { D with nx:=Pv (i + 1),ct:=Pv (i + 1),bk:=D.nx } σ2 H2) (hd:∀ σ H,Pv n σ H→D.nx σ H):ni J g tb D σ H:=by
 refine ⟨fun i m σ H=>m=n - i∧i ≤ n∧Pv i σ H,⟨n,by simp,Nat.zero_le _,h0⟩,?_⟩
 rintro i m σ H ⟨rfl,hi,p⟩
 by_cases hlt:i < n
 ·exact .inr ⟨hgo i σ H hlt p,Pv (i + 1),fun σ' H' p'=>⟨n - (i + 1),by omega,rfl,hlt,p'⟩,fun x H' y=>hs i σ H x H' hlt p y⟩
 ·have e:i=n:=by omega
  subst e
  exact .inl ⟨hst σ H p,hd σ H p⟩
theorem de.of {J:It} {n:Nat} {g:TG} {tc:TT} {te:TE} {σb:St} {Q:VK} {H:Hp} (Pv:Nat→List V→Hp→Prop) (hz:n ≤ sizeLine) (h0:Pv 0 [] H) (hgo:∀ i ys H,i < n→Pv i ys H→J.go i H) (hst:∀ ys H,Pv n ys H→J.stop n H) (hl:∀ i ys H,i < n→Pv i ys H→ys.length ≤ i)
  (hs:∀ i ys H x H',i < n→Pv i ys H→J.yld i H x H'→Tg Pv g tc te σb i x ys H') (hd:∀ ys H,Pv n ys H→∀ p,H p=none→Q (.ref p) (upd H p (.lst ys))):de J g tc te σb Q H:=by
 refine ⟨fun i m ys H=>m=n - i∧i ≤ n∧Pv i ys H,⟨n,by simp,Nat.zero_le _,h0⟩,?_⟩
 rintro i m ys H ⟨rfl,hi,p⟩
 by_cases hlt:i < n
 ·have hyl:=hl i ys H hlt p
  refine .inr ⟨hgo i ys H hlt p,by omega,fun x H' y=>?_⟩
  exact hs i ys H x H' hlt p y (fun ys' H'=>∃ m',m' < n - i∧m'=n - (i + 1)∧i + 1 ≤ n∧Pv (i + 1) ys' H') fun ys' H' r=>⟨n - (i + 1),by omega,rfl,hlt,r⟩
 ·have e:i=n:=by omega
  subst e
  exact .inl ⟨hst ys H p,hd ys H p⟩
section
variable {K:PySem.W.Frag} {a b:Addr} {xs ys:List V} {g:TG} {tb:TS} {D:Kg} {σ σb:St} {H:Hp} {tc:TT} {te:TE} {Q:VK}
theorem ni.enum (Pv:Nat→St→Hp→Prop) (h0:Pv 0 σ H) (hl:∀ i σ H,i ≤ xs.length→Pv i σ H→SqL K H a xs)
  (hs:∀ i x σ H p,xs[i]? = some x→Pv i σ H→H p=none→g (.ref p) σ (upd H p (.tup [.int i,x])) fun σ2 H2=>tb { D with nx:=Pv (i + 1),ct:=Pv (i + 1),bk:=D.nx } σ2 H2) (hd:∀ σ H,Pv xs.length σ H→D.nx σ H):ni (Ite K a) g tb D σ H:=by
 refine ni.of (n:=xs.length) Pv h0 (fun i σ H hi p=>⟨xs,xs[i],hl i σ H (Nat.le_of_lt hi) p,by simp [hi]⟩) (fun σ H p=>⟨xs,hl _ σ H (Nat.le_refl _) p,Nat.le_refl _⟩) (fun i σ H v H' hi p y=>?_) hd
 obtain ⟨q,x,hq,rfl,hx,rfl⟩:=y
 exact hs i x σ H q (hx xs (hl i σ H (Nat.le_of_lt hi) p)) p hq
theorem ni.zip (Pv:Nat→St→Hp→Prop) (h0:Pv 0 σ H) (hl:∀ i σ H,i ≤ xs.length→Pv i σ H→SqL K H a xs∧SqL K H b ys) (n:Nat) (hn:n=min xs.length ys.length)
  (hs:∀ i x y σ H p,xs[i]? = some x→ys[i]? = some y→Pv i σ H→H p=none→g (.ref p) σ (upd H p (.tup [x,y])) fun σ2 H2=>tb { D with nx:=Pv (i + 1),ct:=Pv (i + 1),bk:=D.nx } σ2 H2) (hd:∀ σ H,Pv n σ H→D.nx σ H):ni (Itz K a b) g tb D σ H:=by
 subst hn
 refine ni.of (n:=min xs.length ys.length) Pv h0 (fun i σ H hi p=>?_) (fun σ H p=>?_) (fun i σ H v H' hi p y=>?_) hd
 ·obtain ⟨z1,z2⟩:=hl i σ H (by omega) p
  exact ⟨xs,ys,xs[i],ys[i],z1,z2,by rw [List.getElem?_eq_getElem (by omega)],by rw [List.getElem?_eq_getElem (by omega)]⟩
 ·obtain ⟨z1,z2⟩:=hl _ σ H (by omega) p
  exact ⟨xs,ys,z1,z2,by omega⟩
 ·obtain ⟨q,x,y,hq,rfl,hx,hy,rfl⟩:=y
  obtain ⟨z1,z2⟩:=hl i σ H (by omega) p
  exact hs i x y σ H q (hx xs z1) (hy ys z2) p hq
theorem de.enum (Pv:Nat→List V→Hp→Prop) (hz:xs.length ≤ sizeLine) (h0:Pv 0 [] H) (hl:∀ i ys H,i ≤ xs.length→Pv i ys H→SqL K H a xs∧ys.length ≤ i)
  (hs:∀ i x ys H p,xs[i]? = some x→Pv i ys H→H p=none→Tg Pv g tc te σb i (.ref p) ys (upd H p (.tup [.int i,x]))) (hd:∀ ys H,Pv xs.length ys H→∀ p,H p=none→Q (.ref p) (upd H p (.lst ys))):de (Ite K a) g tc te σb Q H:=by
 refine de.of (n:=xs.length) Pv hz h0 (fun i ys H hi p=>⟨xs,xs[i],(hl i ys H (Nat.le_of_lt hi) p).1,by simp [hi]⟩) (fun ys H p=>⟨xs,(hl _ ys H (Nat.le_refl _) p).1,Nat.le_refl _⟩) (fun i ys H hi p=>(hl i ys H (Nat.le_of_lt hi) p).2) (fun i zs H v H' hi p y=>?_) hd
 obtain ⟨q,x,hq,rfl,hx,rfl⟩:=y
 exact hs i x zs H q (hx xs (hl i zs H (Nat.le_of_lt hi) p).1) p hq
theorem uI {i j:Nat} {p:Addr} {x y:V} {R:St→Hp→Prop} (h:SqT K H p [x,y]) (q:R ((σ.set i (some x)).set j (some y)) H):tN K 2 (NA (Cw i) (NA (Cw j) eP)) (.ref p) σ H R:=
 ⟨p,_,rfl,h,rfl,x,_,rfl,y,_,rfl,rfl,q⟩
theorem ik {i j:Nat} {p:Addr} {x y:V} {R:St→Hp→Prop} (q:R ((σ.set i (some x)).set j (some y)) (upd H p (.tup [x,y]))):tN K 2 (NA (Cw i) (NA (Cw j) eP)) (.ref p) σ (upd H p (.tup [x,y])) R:=
 uI (.inl (.inl db)) q
end
theorem Sub.name2 {r:St} {v w:Option V}:Sub (none :: none :: r) (v :: w :: r):=by
 refine ⟨rfl,fun i u h=>?_⟩
 match i with
 | 0=>cases h
 | 1=>cases h
 | i + 2=>exact h
theorem Sub.name3 {r:St} {v w z:Option V}:Sub (none :: none :: none :: r) (v :: w :: z :: r):=by
 refine ⟨rfl,fun i u h=>?_⟩
 match i with
 | 0=>cases h
 | 1=>cases h
 | 2=>cases h
 | i + 3=>exact h
theorem de.list_zs {K:PySem.W.Frag} {a:Addr} {xs zs:List V} {g:TG} {te:TE} {σb:St} {Q:VK} {H:Hp} (hl:SqL K H a xs) (hz:xs.length ≤ sizeLine) (he:zs.length=xs.length)
  (hs:∀ (i:Nat) (x z:V) (N:V→Hp→Prop),xs[i]? = some x→zs[i]? = some z→N z H→g x σb H fun σ2 H2=>Sub σb σ2∧te σ2 H2 N) (hd:∀ p,H p=none→Q (.ref p) (upd H p (.lst zs))):de (Itl K a) g Bx te σb Q H:=by
 refine de.list (fun i ys H'=>H'=H∧ys=zs.take i) hz ⟨rfl,rfl⟩ (fun i ys H' hi ⟨e0,e⟩=>?_) (fun i x ys H' hx ⟨e1,e2⟩ N hN=>?_) (fun ys H' ⟨e1,e2⟩ p hp=>?_)
 ·subst e0
  exact ⟨hl,by rw [e,List.length_take];omega⟩
 ·subst e1
  have hi:i < zs.length:=by rw [he];exact (List.getElem?_eq_some_iff.mp hx).1
  have hz':zs[i]? = some zs[i]:=List.getElem?_eq_getElem hi
  exact hs i x zs[i] (fun y H4=>N (ys ++ [y]) H4) hx hz' (hN _ _ ⟨rfl,by rw [e2,List.take_add_one,hz'];rfl⟩)
 ·subst e1
  rw [e2,← he,List.take_length]
  exact hd p hp
theorem de.tup_zs {K:PySem.W.Frag} {a:Addr} {xs zs:List V} {g:TG} {te:TE} {σb:St} {Q:VK} {H:Hp} (hl:SqT K H a xs) (hz:xs.length ≤ sizeLine) (he:zs.length=xs.length)
  (hs:∀ (i:Nat) (x z:V) (N:V→Hp→Prop),xs[i]? = some x→zs[i]? = some z→N z H→g x σb H fun σ2 H2=>Sub σb σ2∧te σ2 H2 N) (hd:∀ p,H p=none→Q (.ref p) (upd H p (.lst zs))):de (Itt K a) g Bx te σb Q H:=by
 refine pI (xs:=xs) (fun i ys H'=>H'=H∧ys=zs.take i) hz ⟨rfl,rfl⟩ (fun i ys H' hi ⟨e0,e⟩=>?_) (fun i x ys H' hx ⟨e1,e2⟩ N hN=>?_) (fun ys H' ⟨e1,e2⟩ p hp=>?_)
 ·subst e0
  exact ⟨hl,by rw [e,List.length_take];omega⟩
 ·subst e1
  have hi:i < zs.length:=by rw [he];exact (List.getElem?_eq_some_iff.mp hx).1
  have hz':zs[i]? = some zs[i]:=List.getElem?_eq_getElem hi
  exact hs i x zs[i] (fun y H4=>N (ys ++ [y]) H4) hx hz' (hN _ _ ⟨rfl,by rw [e2,List.take_add_one,hz'];rfl⟩)
 ·subst e1
  rw [e2,← he,List.take_length]
  exact hd p hp
theorem gD {c:TT} {tb:TS} {D:Kg} {σ:St} {H:Hp} (Pv:St→Hp→Prop) (μ:St→Hp→Nat) (h0:Pv σ H)
  (hs:∀ σ H,Pv σ H→∃ b:Bool,(∀ Q:Bool→Hp→Prop,Q b H→c σ H Q)∧(b=true→tb { D with nx:=fun σ' H'=>Pv σ' H'∧μ σ' H' < μ σ H,ct:=fun σ' H'=>Pv σ' H'∧μ σ' H' < μ σ H,bk:=D.nx } σ H)∧(b=false→D.nx σ H)):iJ c tb D σ H:=by
 refine ⟨fun m σ H=>m=μ σ H∧Pv σ H,⟨_,rfl,h0⟩,?_⟩
 rintro m σ H ⟨rfl,p⟩
 obtain ⟨b,hc,h1,h2⟩:=hs σ H p
 refine hc _ ?_
 cases b with
 | true=>exact ⟨_,fun σ' H' ⟨p',l⟩=>⟨_,l,rfl,p'⟩,h1 rfl⟩
 | false=>exact h2 rfl
theorem Sub.name {r:St} {v:Option V}:Sub (none :: r) (v :: r):=by
 refine ⟨rfl,fun i w h=>?_⟩
 cases i with
 | zero=>cases h
 | succ i=>exact h
end L2
local macro_rules | `(tactic| walk_at "RD")=>`(tactic| ((try dsimp only [L2.cE,L2.Ax,L2.Cx.nox,L2.Cx.wish,L2.Cx.block,L2.Cx.tr,L2.Cx.hn]);(try simp only [L2.cM,L2.ZP,L2.jM,L2.XL,L2.WK,L2.DK,L2.qK,L2.vI,L2.BP,L2.FK,L2.DM,L2.WJ,L2.nI,L2.JL,L2.sI,L2.XM,L2.Jp,L2.Bc,L2.lC,L2.xG,L2.nG,L2.nK,L2.vG,L2.AF,L2.Pm,L2.kL,L2.jI,L2.mK,L2.CL,L2.IL,L2.qL,L2.QJ,L2.CG,L2.DH,L2.PK,L2.TN,L2.KO,L2.kQ,L2.VN,L2.OP,L2.NO,L2.SM,L2.dI,L2.wE,L2.aL,L2.RJ,L2.cB,L2.tL,L2.UJ,L2.yL,L2.IH,L2.gL,L2.yK,L2.nH,L2.yG,L2.KH,L2.ED,L2.uN,L2.uA,L2.pG,L2.JM,L2.KL,L2.ZK,L2.iG,L2.eM,L2.RK,L2.NJ,L2.lN,L2.aH,L2.rK,L2.TM,L2.MJ,L2.YM,L2.AA,L2.CB,L2.SJ,L2.sD,L2.Py,L2.iE,L2.uL,L2.PL,L2.lH,L2.UK,L2.JA,L2.LH,L2.uG,L2.RH,L2.jE,L2.uC,L2.zI,L2.xC,L2.JD,L2.SE,L2.bE,L2.NH,L2.kM,L2.dL,L2.tI,L2.kF,L2.yA,L2.nD,L2.WC,L2.AH,L2.YL,L2.XJ,L2.GB,L2.xK,L2.YK,L2.YN,L2.ZO,L2.QM,L2.sN,L2.KB,L2.FE,L2.GD,L2.GE,L2.EC,L2.lI,L2.VD,L2.vD,L2.UE,L2.DG,L2.gx,L2.mI,L2.KK,L2.WA,L2.ZH,L2.xI,L2.zB,L2.CK,L2.ZG,L2.bI,L2.aI,L2.eL,L2.iL,L2.NL,L2.nE,L2.lM,L2.QL,L2.start,L2.zL,List.map_cons,List.map_nil,Option.bind_none,Option.bind_some,Option.join_some,Option.join_none,List.length_cons,List.length_nil,Nat.reduceAdd,Nat.reduceSub,Nat.zero_add,List.replicate,List.cons_append,List.nil_append,List.append_nil,List.set_cons_zero,List.set_cons_succ,List.getElem?_cons_zero,List.getElem?_cons_succ,Option.some.injEq,L2.V.int.injEq,L2.V.bl.injEq,L2.V.str.injEq,L2.V.ref.injEq,L2.V.ty.injEq,exists_eq_left',exists_eq_left,exists_and_left,List.cons.injEq,and_true,true_and,and_assoc,Int.zero_add,reduceCtorEq,false_and,exists_false,and_false,ite_true,ite_false,if_true,if_false,Bool.false_eq_true,L2.HN,L2.tyV,false_or,or_false,Bool.not_true,Bool.not_false,decide_true,decide_false])))
local macro_rules | `(tactic| walk_at "F")=>`(tactic| exact ⟨rfl,rfl,rfl,by decide +kernel,rfl,by decide +kernel,by decide +kernel⟩)
namespace My
open PySem L2
noncomputable def top (i:Nat):Stmt:=PySem.Challenge.pw_lampway_k15_a_clash.main.body.getD i (.Pass ⟨0,0,0,0⟩)
noncomputable abbrev Tz:Stmt:=top 12
theorem Uv:xb ["places","way","place","steps"] ["places","way","place"] (ib Tz):=(by walk_at "F")
noncomputable abbrev Io:Stmt:=top 13
theorem Zu:xb ["places","way","second"] ["places","way","second"] (ib Io):=(by walk_at "F")
noncomputable abbrev KI:Stmt:=top 14
theorem jx:xb ["crossing","one","other","way","second"] ["crossing","one","other"] (ib KI):=(by walk_at "F")
noncomputable abbrev kO:Stmt:=top 15
theorem aE:xb ["crossing","one","other","way","second"] ["crossing","one","other"] (ib kO):=(by walk_at "F")
noncomputable abbrev Wy:Stmt:=top 21
theorem VG:xb ["text"] ["text"] (ib Wy):=(by walk_at "F")
noncomputable abbrev Bk:Stmt:=top 22
theorem mv:xb ["word","signs","most"] ["word","signs","most"] (ib Bk):=(by walk_at "F")
noncomputable abbrev Nr:Stmt:=top 23
theorem Kw:xb ["word","most_figures"] ["word","most_figures"] (ib Nr):=(by walk_at "F")
noncomputable abbrev Sv:Stmt:=top 24
theorem Jt:xb ["word","low","high","number"] ["word","low","high"] (ib Sv):=(by walk_at "F")
noncomputable abbrev Vw:Stmt:=top 25
theorem lB:xb ["word"] ["word"] (ib Vw):=(by walk_at "F")
noncomputable abbrev Pq:Stmt:=top 28
theorem DB:xb ["text"] ["text"] (ib Pq):=(by walk_at "F")
noncomputable abbrev Fl:Stmt:=top 30
theorem Yd:xb ["marks","size","steps","untils","place"] ["marks"] (ib Fl):=(by walk_at "F")
noncomputable abbrev Ml:Stmt:=top 31
theorem xq:xb ["marks"] ["marks"] (ib Ml):=(by walk_at "F")
noncomputable abbrev zo:Stmt:=top 36
theorem zx:xb ["spans","name"] ["spans","name"] (ib zo):=(by walk_at "F")
noncomputable abbrev Yj:Stmt:=top 37
theorem yf:xb ["size","spans","name","marks","begin","turns","step"] ["size","spans","name"] (ib Yj):=(by walk_at "F")
noncomputable abbrev qF:Stmt:=top 38
theorem jm:xb ["way","size","spans","shown","begin","turns","step"] ["way","size","spans"] (ib qF):=(by walk_at "F")
noncomputable abbrev Ar:Stmt:=top 39
theorem Vo:xb ["reader","size"] ["reader"] (ib Ar):=(by walk_at "F")
noncomputable abbrev Ul:Stmt:=top 40
theorem Uh:xb ["reader","crossing","size","spans","name","begin","turns"] ["reader","crossing","size","spans"] (ib Ul):=(by walk_at "F")
noncomputable abbrev Nq:Stmt:=top 41
theorem wg:xb ["crossing","text","rows","size","spans","reader"] ["crossing","text"] (ib Nq):=(by walk_at "F")
noncomputable abbrev gl:Stmt:=top 42
theorem Hk:xb ["crossing","spans","name"] ["crossing","spans"] (ib gl):=(by walk_at "F")
noncomputable abbrev Nd:Stmt:=top 43
theorem Uc:xb ["size","spans","place","name","begin","turns","others"] ["size","spans","place"] (ib Nd):=(by walk_at "F")
noncomputable abbrev xl:Stmt:=top 44
theorem bd:xb ["crossing","size","spans","place","span","name","begin","turns","way","needed"] ["crossing","size","spans"] (ib xl):=(by walk_at "F")
noncomputable abbrev xi:Stmt:=top 45
theorem ve:xb ["crossing","one","other","since_one","since_other","between","turn","steps"] ["crossing","one","other","since_one","since_other"] (ib xi):=(by walk_at "F")
noncomputable abbrev Hl:Stmt:=top 46
theorem Be:xb ["crossing","size","spans","since","name","one","other"] ["crossing","size","spans"] (ib Hl):=(by walk_at "F")
noncomputable abbrev gm:Stmt:=top 47
theorem kg:xb ["crossing","size","rows","spans","name","begin","turns"] ["crossing","size","rows"] (ib gm):=(by walk_at "F")
noncomputable abbrev xr:Stmt:=top 61
theorem So:xb ["reader","places"] ["reader"] (ib xr):=(by walk_at "F")
noncomputable abbrev qh:Stmt:=top 62
theorem Fj:xb ["reader","ways","name"] ["reader","ways"] (ib qh):=(by walk_at "F")
noncomputable abbrev Zt:Stmt:=top 63
theorem ny:xb ["reader","places","start"] ["reader","places","start"] (ib Zt):=(by walk_at "F")
noncomputable abbrev xt:Stmt:=top 64
theorem sy:xb ["sort","name","start","end","off","near","least"] ["sort","name","start","end","off","near","least"] (ib xt):=(by walk_at "F")
noncomputable abbrev Bt:Stmt:=top 65
theorem Ee:xb ["reader","places","ways","sort","name","start","end","off","near","least"] ["reader","places","ways"] (ib Bt):=(by walk_at "F")
noncomputable abbrev zk:Stmt:=top 66
theorem pe:xb ["text","rows","places","ways","reader"] ["text"] (ib zk):=(by walk_at "F")
noncomputable abbrev kr:Stmt:=top 68
theorem jk:xb ["_law_script","_law_k","_law_many","_law_cell","_law_seed"] ["_law_script","_law_k","_law_many"] (ib kr):=(by walk_at "F")
noncomputable abbrev Hq:Stmt:=top 69
theorem Fc:xb ["_law_script","_law_places","_law_far","_law_ways_here","_law_k","_law_sort","_law_off","_law_start","_law_end","_law_name"] ["_law_script"] (ib Hq):=(by walk_at "F")
noncomputable abbrev Am:Stmt:=top 70
theorem yk:xb ["_law_places","_law_ways_here","_law_rows_here","_law_way"] ["_law_places","_law_ways_here"] (ib Am):=(by walk_at "F")
noncomputable abbrev yq:Stmt:=top 71
theorem vg:xb ["_law_places","_law_one","_law_other","_law_inside","_law_place"] ["_law_places","_law_one","_law_other"] (ib yq):=(by walk_at "F")
noncomputable abbrev Kq:Stmt:=top 72
theorem fe:xb ["_law_script","_law_ways_here","_law_size","_law_rows_here","_law_most","_law_k","_law_space","_law_turns"] ["_law_script","_law_ways_here","_law_size"] (ib Kq):=(by walk_at "F")
noncomputable abbrev ur:Stmt:=top 73
theorem Gk:xb ["_law_ways_here","_law_rows_here","_law_size","_law_k","_law_i","_law_turn","_law_behind","_law_back"] ["_law_ways_here","_law_rows_here","_law_size","_law_k","_law_i","_law_turn"] (ib ur):=(by walk_at "F")
noncomputable abbrev Pl:Stmt:=top 74
theorem He:xb ["_law_places","_law_ways_here","_law_rows_here","_law_size","_law_found","_law_k","_law_i","_law_turn"] ["_law_places","_law_ways_here","_law_rows_here","_law_size"] (ib Pl):=(by walk_at "F")
noncomputable abbrev Ek:Stmt:=top 75
theorem bp:xb ["_law_e"] ["_law_e"] (ib Ek):=(by walk_at "F")
noncomputable abbrev Oo:Stmt:=top 76
theorem Pe:xb ["_law_crossing","_law_size","_law_rows_here","_law_text_here","_law_by_text","_law_told","_law_e"] ["_law_crossing","_law_size","_law_rows_here","_law_text_here","_law_by_text"] (ib Oo):=(by walk_at "F")
noncomputable abbrev yM:Stmt:=top 77
theorem Rh:xb ["_law_script","_law_made","_law_ways_here","_law_crossing","_law_size","_law_rows_here","_law_clashes_here","_law_text_here","_law_row","_law_by_text","_law_told"] ["_law_script"] (ib yM):=(by walk_at "F")
noncomputable abbrev Sm:Stmt:=Xc (top 3) 0
theorem Qm:xb ["self","row","word"] ["self","row","word"] (ib Sm):=(by walk_at "F")
noncomputable abbrev Jo:Stmt:=Xc (top 5) 0
theorem Co:xb ["self","way"] ["self","way"] (ib Jo):=(by walk_at "F")
noncomputable abbrev Ko:Stmt:=Xc (top 6) 0
theorem qo:xb ["self","way","at"] ["self","way","at"] (ib Ko):=(by walk_at "F")
noncomputable abbrev Ro:Stmt:=Xc (top 7) 0
theorem On:xb ["self","way","other","at"] ["self","way","other","at"] (ib Ro):=(by walk_at "F")
noncomputable abbrev yj:Stmt:=Xc (top 27) 0
theorem Lj:xb ["self","row","told"] ["self","row","told"] (ib yj):=(by walk_at "F")
noncomputable abbrev Fi:Stmt:=Xc (top 27) 1
theorem Im:xb ["self"] ["self"] (ib Fi):=(by walk_at "F")
noncomputable abbrev Ig:Stmt:=Xc (top 27) 2
theorem fk:xb ["self"] ["self"] (ib Ig):=(by walk_at "F")
noncomputable abbrev yh:Stmt:=Xc (top 27) 3
theorem om:xb ["self"] ["self"] (ib yh):=(by walk_at "F")
noncomputable abbrev Jj:Stmt:=Xc (top 27) 4
theorem Ki:xb ["self","good"] ["self","good"] (ib Jj):=(by walk_at "F")
noncomputable abbrev Oh:Stmt:=Xc (top 27) 5
theorem ke:xb ["self","choices","found"] ["self","choices"] (ib Oh):=(by walk_at "F")
noncomputable abbrev dh:Stmt:=Xc (top 27) 6
theorem Ud:xb ["self","low","high","found"] ["self","low","high"] (ib dh):=(by walk_at "F")
noncomputable abbrev Eh:Stmt:=Xc (top 27) 7
theorem nh:xb ["self"] ["self"] (ib Eh):=(by walk_at "F")
noncomputable abbrev ir:Stmt:=Xc (top 35) 0
theorem Bj:xb ["self","crossing","size","spans","name"] ["self","crossing","size","spans"] (ib ir):=(by walk_at "F")
noncomputable abbrev Nt:Stmt:=Xc (top 49) 0
theorem aq:xb ["self","kind","name","start","end","off","near","least"] ["self","kind","name","start","end","off","near","least"] (ib Nt):=(by walk_at "F")
noncomputable abbrev xn:Stmt:=Xc (top 50) 0
theorem An:xb ["self","name","start","end","off","near","least"] ["self","name","start","end","off","near","least"] (ib xn):=(by walk_at "F")
noncomputable abbrev ol:Stmt:=Xc (top 50) 1
theorem pq:xb ["self"] ["self"] (ib ol):=(by walk_at "F")
noncomputable abbrev jn:Stmt:=Xc (top 50) 2
theorem Cs:xb ["self"] ["self"] (ib jn):=(by walk_at "F")
noncomputable abbrev yl:Stmt:=Xc (top 51) 0
theorem mm:xb ["self","name","start","end","off","near","least"] ["self","name","start","end","off","near","least"] (ib yl):=(by walk_at "F")
noncomputable abbrev ck:Stmt:=Xc (top 51) 1
theorem jp:xb ["self"] ["self"] (ib ck):=(by walk_at "F")
noncomputable abbrev Al:Stmt:=Xc (top 51) 2
theorem ar:xb ["self"] ["self"] (ib Al):=(by walk_at "F")
noncomputable abbrev Cl:Stmt:=Xc (top 52) 0
theorem dm:xb ["self","name","start","end","off","near","least"] ["self","name","start","end","off","near","least"] (ib Cl):=(by walk_at "F")
noncomputable abbrev Tj:Stmt:=Xc (top 52) 1
theorem up:xb ["self"] ["self"] (ib Tj):=(by walk_at "F")
noncomputable abbrev Dl:Stmt:=Xc (top 52) 2
theorem Zp:xb ["self"] ["self"] (ib Dl):=(by walk_at "F")
noncomputable abbrev gk:Stmt:=Xc (top 60) 0
theorem Se:xb ["self","places","ways","number","way"] ["self","places","ways"] (ib gk):=(by walk_at "F")
noncomputable abbrev Ag:Stmt:=Xc (top 60) 1
theorem ko:xb ["self"] ["self"] (ib Ag):=(by walk_at "F")
noncomputable abbrev Gi:Stmt:=Xc (top 60) 2
theorem Om:xb ["self","name"] ["self","name"] (ib Gi):=(by walk_at "F")
noncomputable abbrev Ai:Stmt:=Xc (top 60) 3
theorem yn:xb ["self","name"] ["self","name"] (ib Ai):=(by walk_at "F")
set_option genInjectivity false in
set_option genInjectivity false in
structure Adr where
 {Ip Kh Iz iH Nu jg jj rk Vm Pj Ve Vf bf rg Fz Ti Xi pj bg Sd Yf Oe fg lh Ri kf Pk Tk Yk rf Gf tj oj Oi wj dj Zf qf Fh AL jf zg ig ug ue bc Mc md nc kc Kb jc ph Kf lf eg Pg Ue uf Qf Xe xf Sf Ie Qc ce vc Bb Re Nm Bd Kc Lc Mb Nf Gb ym ac fc Jb uh Yl ij:Addr}
 {Ep Hh Oz RG Cu qg sj Dk Cn qk We dg cf yg cz Yi kj Pi Xf Ld cg Qe gg jh mj vf Jk Zk Vk tf Of nj rj fj lj bj Wf wf zh HH Og Bh xh Nh Ye wc Ad Pd Dc zc Yb Ac Vi Wg Sg Wh qj Uf mh ki Tf Xg mi sf vd Me Ec:FuncData}
 {Xv Ql Hw ml Mo il Bq Ut Em Jr Wo Wq:Value}
structure Txt (w:World) (K:PySem.W.Frag) (mg:Str→Option Value) (t:Adr):Prop where
 az:mg "in_bow"=some (.ref t.Ip)
 yp:Fun K "in_bow" "in_bow" Tz t.Ip t.Ep
 Av:mg "bows_cross"=some (.ref t.Kh)
 Qj:Fun K "bows_cross" "bows_cross" Io t.Kh t.Hh
 vM:mg "meet"=some (.ref t.Iz)
 aF:Fun K "meet" "meet" KI t.Iz t.Oz
 wP:mg "gap"=some (.ref t.iH)
 FL:Fun K "gap" "gap" kO t.iH t.RG
 MK:mg "words"=some (.ref t.Nu)
 Iy:Fun K "words" "words" Wy t.Nu t.Cu
 Fo:mg "is_made_of"=some (.ref t.jg)
 Gh:Fun K "is_made_of" "is_made_of" Bk t.jg t.qg
 Vx:mg "is_number"=some (.ref t.jj)
 fm:Fun K "is_number" "is_number" Nr t.jj t.sj
 Gv:mg "figured"=some (.ref t.rk)
 Wm:Fun K "figured" "figured" Sv t.rk t.Dk
 AE:mg "is_name"=some (.ref t.Vm)
 gq:Fun K "is_name" "is_name" Vw t.Vm t.Cn
 uw:mg "readers"=some (.ref t.Pj)
 Mm:Fun K "readers" "readers" Pq t.Pj t.qk
 Kl:mg "until_marked"=some (.ref t.Ve)
 ag:Fun K "until_marked" "until_marked" Fl t.Ve t.We
 Es:mg "since_marked"=some (.ref t.Vf)
 di:Fun K "since_marked" "since_marked" Ml t.Vf t.dg
 Di:mg "spans_of"=some (.ref t.bf)
 Mf:Fun K "spans_of" "spans_of" zo t.bf t.cf
 Eo:mg "free_marks"=some (.ref t.rg)
 Vh:Fun K "free_marks" "free_marks" Yj t.rg t.yg
 DN:mg "lamp"=some (.ref t.Fz)
 ZC:Fun K "lamp" "lamp" qF t.Fz t.cz
 ky:mg "read_size"=some (.ref t.Ti)
 Vl:Fun K "read_size" "read_size" Ar t.Ti t.Yi
 Sx:mg "read_span"=some (.ref t.Xi)
 am:Fun K "read_span" "read_span" Ul t.Xi t.kj
 Wx:mg "read_plan"=some (.ref t.pj)
 Wl:Fun K "read_plan" "read_plan" Nq t.pj t.Pi
 Ws:mg "refuse_never"=some (.ref t.bg)
 gi:Fun K "refuse_never" "refuse_never" gl t.bg t.Xf
 vk:mg "turns_to_next_begin"=some (.ref t.Sd)
 Ce:Fun K "turns_to_next_begin" "turns_to_next_begin" Nd t.Sd t.Ld
 Ss:mg "refuse_short"=some (.ref t.Yf)
 ci:Fun K "refuse_short" "refuse_short" xl t.Yf t.cg
 Nn:mg "refuse_clash_of"=some (.ref t.Oe)
 Jf:Fun K "refuse_clash_of" "refuse_clash_of" xi t.Oe t.Qe
 kt:mg "refuse_clash"=some (.ref t.fg)
 ai:Fun K "refuse_clash" "refuse_clash" Hl t.fg t.gg
 nq:mg "made_plan"=some (.ref t.lh)
 xj:Fun K "made_plan" "made_plan" gm t.lh t.jh
 qy:mg "read_ring"=some (.ref t.Ri)
 rm:Fun K "read_ring" "read_ring" xr t.Ri t.mj
 br:mg "read_new_name"=some (.ref t.kf)
 oh:Fun K "read_new_name" "read_new_name" qh t.kf t.vf
 BA:mg "read_end"=some (.ref t.Pk)
 bo:Fun K "read_end" "read_end" Zt t.Pk t.Jk
 mB:mg "made_way"=some (.ref t.Tk)
 Ln:Fun K "made_way" "made_way" xt t.Tk t.Zk
 nA:mg "read_way"=some (.ref t.Yk)
 Ao:Fun K "read_way" "read_way" Bt t.Yk t.Vk
 zq:mg "read_crossing"=some (.ref t.rf)
 rh:Fun K "read_crossing" "read_crossing" zk t.rf t.tf
 gc:mg "_law_draw"=some (.ref t.Gf)
 Ob:Fun K "_law_draw" "_law_draw" kr t.Gf t.Of
 Ex:mg "_law_ways"=some (.ref t.tj)
 Bm:Fun K "_law_ways" "_law_ways" Hq t.tj t.nj
 Fx:mg "_law_text"=some (.ref t.oj)
 cm:Fun K "_law_text" "_law_text" Am t.oj t.rj
 Yx:mg "_law_meet"=some (.ref t.Oi)
 vm:Fun K "_law_meet" "_law_meet" yq t.Oi t.fj
 Jy:mg "_law_rows"=some (.ref t.wj)
 Tl:Fun K "_law_rows" "_law_rows" Kq t.wj t.lj
 yy:mg "_law_near"=some (.ref t.dj)
 wm:Fun K "_law_near" "_law_near" ur t.dj t.bj
 Bs:mg "_law_clashes"=some (.ref t.Zf)
 Zh:Fun K "_law_clashes" "_law_clashes" Pl t.Zf t.Wf
 zr:mg "_law_is_other"=some (.ref t.qf)
 eh:Fun K "_law_is_other" "_law_is_other" Ek t.qf t.wf
 Qw:mg "_law_asked"=some (.ref t.Fh)
 Ik:Fun K "_law_asked" "_law_asked" Oo t.Fh t.zh
 vP:mg "law"=some (.ref t.AL)
 dQ:Fun K "law" "law" yM t.AL t.HH
 Ez:mg "NoText"=some (.ref t.Gb)
 VH:PySem.W.findIn K (.ref t.Gb) "__init__"=some (some (.ref t.jf))
 bn:Fun K "__init__" "NoText.__init__" Sm t.jf t.Og
 gy:mg "Never"=some (.ref t.ac)
 uJ:PySem.W.findIn K (.ref t.ac) "__init__"=some (some (.ref t.zg))
 Do:Fun K "__init__" "Never.__init__" Jo t.zg t.Bh
 XC:mg "Short"=some (.ref t.fc)
 kJ:PySem.W.findIn K (.ref t.fc) "__init__"=some (some (.ref t.ig))
 Lo:Fun K "__init__" "Short.__init__" Ko t.ig t.xh
 zy:mg "Clash"=some (.ref t.Jb)
 CI:PySem.W.findIn K (.ref t.Jb) "__init__"=some (some (.ref t.ug))
 Qo:Fun K "__init__" "Clash.__init__" Ro t.ug t.Nh
 Ty:mg "RowReader"=some (.ref t.Bb)
 UB:PySem.W.findIn K (.ref t.Bb) "__init__"=some (some (.ref t.ue))
 Ej:Fun K "__init__" "RowReader.__init__" yj t.ue t.Ye
 HA:PySem.W.findIn K (.ref t.Bb) "ahead"=some (some (.ref t.bc))
 Ji:Fun K "ahead" "RowReader.ahead" Fi t.bc t.wc
 Zw:PySem.W.findIn K (.ref t.Bb) "has_more"=some (some (.ref t.Mc))
 Jg:Fun K "has_more" "RowReader.has_more" Ig t.Mc t.Ad
 Xz:PySem.W.findIn K (.ref t.Bb) "refuse"=some (some (.ref t.md))
 Jh:Fun K "refuse" "RowReader.refuse" yh t.md t.Pd
 OB:PySem.W.findIn K (.ref t.Bb) "take"=some (some (.ref t.nc))
 Bg:Fun K "take" "RowReader.take" Jj t.nc t.Dc
 Dz:PySem.W.findIn K (.ref t.Bb) "one_of"=some (some (.ref t.kc))
 gf:Fun K "one_of" "RowReader.one_of" Oh t.kc t.zc
 Tx:PySem.W.findIn K (.ref t.Bb) "figures"=some (some (.ref t.Kb))
 Ze:Fun K "figures" "RowReader.figures" dh t.Kb t.Yb
 bA:PySem.W.findIn K (.ref t.Bb) "finish"=some (some (.ref t.jc))
 mf:Fun K "finish" "RowReader.finish" Eh t.jc t.Ac
 bO:mg "Plan"=some (.ref t.Re)
 wL:PySem.W.findIn K (.ref t.Re) "__init__"=some (some (.ref t.ph))
 Lq:Fun K "__init__" "Plan.__init__" ir t.ph t.Vi
 OL:mg "Way"=some (.ref t.Nm)
 nM:PySem.W.findIn K (.ref t.Nm) "__init__"=some (some (.ref t.Kf))
 Xt:Fun K "__init__" "Way.__init__" Nt t.Kf t.Wg
 tG:mg "CarWay"=some (.ref t.Bd)
 OG:PySem.W.findIn K (.ref t.Bd) "__init__"=some (some (.ref t.lf))
 Gm:Fun K "__init__" "CarWay.__init__" xn t.lf t.Sg
 OF:PySem.W.findIn K (.ref t.Bd) "ready"=some (some (.ref t.eg))
 Bl:Fun K "ready" "CarWay.ready" ol t.eg t.Wh
 BH:PySem.W.findIn K (.ref t.Bd) "fade"=some (some (.ref t.Pg))
 rn:Fun K "fade" "CarWay.fade" jn t.Pg t.qj
 BE:mg "FootWay"=some (.ref t.Kc)
 PF:PySem.W.findIn K (.ref t.Kc) "__init__"=some (some (.ref t.Ue))
 Nl:Fun K "__init__" "FootWay.__init__" yl t.Ue t.Uf
 SC:PySem.W.findIn K (.ref t.Kc) "ready"=some (some (.ref t.uf))
 Xj:Fun K "ready" "FootWay.ready" ck t.uf t.mh
 CF:PySem.W.findIn K (.ref t.Kc) "fade"=some (some (.ref t.Qf))
 Rl:Fun K "fade" "FootWay.fade" Al t.Qf t.ki
 HE:mg "TramWay"=some (.ref t.Lc)
 YF:PySem.W.findIn K (.ref t.Lc) "__init__"=some (some (.ref t.Xe))
 Ol:Fun K "__init__" "TramWay.__init__" Cl t.Xe t.Tf
 fC:PySem.W.findIn K (.ref t.Lc) "ready"=some (some (.ref t.xf))
 uk:Fun K "ready" "TramWay.ready" Tj t.xf t.Xg
 ZF:PySem.W.findIn K (.ref t.Lc) "fade"=some (some (.ref t.Sf))
 Il:Fun K "fade" "TramWay.fade" Dl t.Sf t.mi
 vA:mg "Crossing"=some (.ref t.Mb)
 bD:PySem.W.findIn K (.ref t.Mb) "__init__"=some (some (.ref t.Ie))
 Ak:Fun K "__init__" "Crossing.__init__" gk t.Ie t.sf
 QB:PySem.W.findIn K (.ref t.Mb) "names"=some (some (.ref t.Qc))
 Cj:Fun K "names" "Crossing.names" Ag t.Qc t.vd
 aB:PySem.W.findIn K (.ref t.Mb) "number"=some (some (.ref t.ce))
 Mi:Fun K "number" "Crossing.number" Gi t.ce t.Me
 gB:PySem.W.findIn K (.ref t.Mb) "called"=some (some (.ref t.vc))
 yi:Fun K "called" "Crossing.called" Ai t.vc t.Ec
 wb:Cls K t.Bb
 Dy:Mk K t.Bb t.ue
 Fd:Rt K t.Bb "ahead" t.bc
 Lg:Rt K t.Bb "has_more" t.Mc
 Lh:Rt K t.Bb "refuse" t.md
 oe:Rt K t.Bb "take" t.nc
 Od:Rt K t.Bb "one_of" t.kc
 Qb:Rt K t.Bb "figures" t.Kb
 ye:Rt K t.Bb "finish" t.jc
 Ij:Db K t.Bb "row"
 si:Db K t.Bb "told"
 ze:Db K t.Bb "place"
 xm:Cls K t.Re
 UM:Mk K t.Re t.ph
 lp:Db K t.Re "crossing"
 Rw:Db K t.Re "size"
 Du:Db K t.Re "spans"
 Gn:Db K t.Re "lamps"
 ul:Db K t.Re "untils"
 pQ:Cls K t.Nm
 aK:Db K t.Nm "kind"
 HL:Db K t.Nm "name"
 FI:Db K t.Nm "start"
 qM:Db K t.Nm "end"
 mM:Db K t.Nm "off"
 gK:Db K t.Nm "near"
 AJ:Db K t.Nm "least"
 Vq:Cls K t.Bd
 kI:Mk K t.Bd t.lf
 Zs:Rt K t.Bd "ready" t.eg
 av:Rt K t.Bd "fade" t.Pg
 Is:Db K t.Bd "kind"
 Ms:Db K t.Bd "name"
 dr:Db K t.Bd "start"
 wv:Db K t.Bd "end"
 Gu:Db K t.Bd "off"
 Wr:Db K t.Bd "near"
 uq:Db K t.Bd "least"
 Bo:Cls K t.Kc
 jF:Mk K t.Kc t.Ue
 Gr:Rt K t.Kc "ready" t.uf
 Os:Rt K t.Kc "fade" t.Qf
 jr:Db K t.Kc "kind"
 Mr:Db K t.Kc "name"
 ip:Db K t.Kc "start"
 Xs:Db K t.Kc "end"
 Xr:Db K t.Kc "off"
 Jq:Db K t.Kc "near"
 vp:Db K t.Kc "least"
 Zn:Cls K t.Lc
 NE:Mk K t.Lc t.Xe
 Oq:Rt K t.Lc "ready" t.xf
 Tr:Rt K t.Lc "fade" t.Sf
 mr:Db K t.Lc "kind"
 lr:Db K t.Lc "name"
 np:Db K t.Lc "start"
 ls:Db K t.Lc "end"
 Ps:Db K t.Lc "off"
 Zq:Db K t.Lc "near"
 rp:Db K t.Lc "least"
 Lb:Cls K t.Mb
 xB:Mk K t.Mb t.Ie
 Jd:Rt K t.Mb "names" t.Qc
 Pn:Rt K t.Mb "number" t.ce
 Zc:Rt K t.Mb "called" t.vc
 Dh:Db K t.Mb "places"
 zj:Db K t.Mb "ways"
 bh:Db K t.Mb "numbers"
 Zg:mg "LampError"=some (.ref t.Nf)
 vj:TQ K t.Nf "__init__"
 kD:XB K t.Gb
 Kv:MkX K t.Gb t.jf
 Xu:Db K t.Gb "row"
 Ts:Db K t.Gb "word"
 UN:IB K t.Gb
 LD:PySem.W.kitOne K (.ref t.Gb) (.ref t.Jb)=some false
 Yw:PySem.W.kitOne K (.ref t.Gb) (.type "ValueError")=some true
 GC:PySem.W.kitOne K (.ref t.Gb) (.ref t.ac)=some false
 LE:PySem.W.kitOne K (.ref t.Gb) (.ref t.fc)=some false
 VB:PySem.W.kitOne K (.ref t.Gb) (.ref t.Gb)=some true
 CD:PySem.W.kitOne K (.ref t.Gb) (.ref t.ym)=some false
 jA:PySem.W.kitOne K (.ref t.Gb) (.ref t.uh)=some false
 XE:PySem.W.kitOne K (.ref t.Gb) (.ref t.Yl)=some false
 TB:PySem.W.kitOne K (.ref t.Gb) (.ref t.ij)=some false
 qx:PySem.W.exmOne K (.ref t.Gb) (.ref t.Nf)=some true
 SB:PySem.W.exmOne K (.ref t.Gb) (.ref t.Gb)=some true
 kC:PySem.W.exmOne K (.ref t.Gb) (.ref t.ac)=some false
 IC:PySem.W.exmOne K (.ref t.Gb) (.ref t.fc)=some false
 HC:PySem.W.exmOne K (.ref t.Gb) (.ref t.Jb)=some false
 JK:mg "NoWay"=some (.ref t.ym)
 XG:XB K t.ac
 xz:MkX K t.ac t.zg
 Fk:Db K t.ac "way"
 zH:IB K t.ac
 Rf:PySem.W.kitOne K (.ref t.ac) (.ref t.Jb)=some false
 Vy:PySem.W.kitOne K (.ref t.ac) (.type "ValueError")=some true
 El:PySem.W.kitOne K (.ref t.ac) (.ref t.ac)=some true
 WF:PySem.W.kitOne K (.ref t.ac) (.ref t.fc)=some false
 dD:PySem.W.kitOne K (.ref t.ac) (.ref t.Gb)=some false
 bG:PySem.W.kitOne K (.ref t.ac) (.ref t.ym)=some false
 ZB:PySem.W.kitOne K (.ref t.ac) (.ref t.uh)=some false
 KF:PySem.W.kitOne K (.ref t.ac) (.ref t.Yl)=some false
 vC:PySem.W.kitOne K (.ref t.ac) (.ref t.ij)=some false
 Mh:PySem.W.exmOne K (.ref t.ac) (.ref t.Nf)=some true
 kE:PySem.W.exmOne K (.ref t.ac) (.ref t.Gb)=some false
 RF:PySem.W.exmOne K (.ref t.ac) (.ref t.ac)=some true
 SF:PySem.W.exmOne K (.ref t.ac) (.ref t.fc)=some false
 aG:PySem.W.exmOne K (.ref t.ac) (.ref t.Jb)=some false
 wI:XB K t.fc
 pz:MkX K t.fc t.ig
 xw:Db K t.fc "way"
 Zx:Db K t.fc "at"
 iP:IB K t.fc
 MF:PySem.W.kitOne K (.ref t.fc) (.ref t.Jb)=some false
 Nx:PySem.W.kitOne K (.ref t.fc) (.type "ValueError")=some true
 HF:PySem.W.kitOne K (.ref t.fc) (.ref t.ac)=some false
 LF:PySem.W.kitOne K (.ref t.fc) (.ref t.fc)=some true
 eD:PySem.W.kitOne K (.ref t.fc) (.ref t.Gb)=some false
 UF:PySem.W.kitOne K (.ref t.fc) (.ref t.ym)=some false
 YB:PySem.W.kitOne K (.ref t.fc) (.ref t.uh)=some false
 TF:PySem.W.kitOne K (.ref t.fc) (.ref t.Yl)=some false
 xE:PySem.W.kitOne K (.ref t.fc) (.ref t.ij)=some false
 fz:PySem.W.exmOne K (.ref t.fc) (.ref t.Nf)=some true
 uD:PySem.W.exmOne K (.ref t.fc) (.ref t.Gb)=some false
 VF:PySem.W.exmOne K (.ref t.fc) (.ref t.ac)=some false
 FF:PySem.W.exmOne K (.ref t.fc) (.ref t.fc)=some true
 NF:PySem.W.exmOne K (.ref t.fc) (.ref t.Jb)=some false
 SG:XB K t.Jb
 Bz:MkX K t.Jb t.ug
 Sj:Db K t.Jb "way"
 ji:Db K t.Jb "other"
 Sl:Db K t.Jb "at"
 FH:IB K t.Jb
 Ll:PySem.W.kitOne K (.ref t.Jb) (.ref t.Jb)=some true
 kh:PySem.W.kitOne K (.ref t.Jb) (.type "ValueError")=some true
 Yh:PySem.W.kitOne K (.ref t.Jb) (.ref t.ac)=some false
 Ds:PySem.W.kitOne K (.ref t.Jb) (.ref t.fc)=some false
 kq:PySem.W.kitOne K (.ref t.Jb) (.ref t.Gb)=some false
 Ks:PySem.W.kitOne K (.ref t.Jb) (.ref t.ym)=some false
 ap:PySem.W.kitOne K (.ref t.Jb) (.ref t.uh)=some false
 js:PySem.W.kitOne K (.ref t.Jb) (.ref t.Yl)=some false
 Tq:PySem.W.kitOne K (.ref t.Jb) (.ref t.ij)=some false
 Th:PySem.W.exmOne K (.ref t.Jb) (.ref t.Nf)=some true
 TC:PySem.W.exmOne K (.ref t.Jb) (.ref t.Gb)=some false
 GF:PySem.W.exmOne K (.ref t.Jb) (.ref t.ac)=some false
 IF:PySem.W.exmOne K (.ref t.Jb) (.ref t.fc)=some false
 JF:PySem.W.exmOne K (.ref t.Jb) (.ref t.Jb)=some true
 dF:mg "TooMany"=some (.ref t.uh)
 BL:mg "NoRow"=some (.ref t.Yl)
 pH:mg "NoName"=some (.ref t.ij)
 WG:t.Nm ≠ t.Bd
 DF:t.Nm ≠ t.Kc
 QF:t.Nm ≠ t.Lc
 vi:t.Bd ≠ t.Kc
 Hi:t.Bd ≠ t.Lc
 Ih:t.Kc ≠ t.Lc
 xo:AQ K t.Nm "__init__" t.Kf
 BC:mg "FIGURES"=some t.Xv
 rE:Md (.str (Str.ofString "0123456789")) t.Xv
 qt:mg "LEAST_PLACES"=some t.Ql
 Zr:Md (.int 2) t.Ql
 UC:mg "LETTERS"=some t.Hw
 BD:Md (.str (Str.ofString "abcdefghijklmnopqrstuvwxyz")) t.Hw
 Gs:mg "MOST_FIGURES"=some t.ml
 Ls:Md (.int 3) t.ml
 pw:mg "MOST_LEAST"=some t.Mo
 ww:Md (.int 60) t.Mo
 gs:mg "MOST_LETTERS"=some t.il
 Qs:Md (.int 8) t.il
 Sy:mg "MOST_NEAR"=some t.Bq
 Hy:Md (.int 30) t.Bq
 pA:mg "MOST_OFF"=some t.Ut
 EA:Md (.int 30) t.Ut
 zu:mg "MOST_PLACES"=some t.Em
 Su:Md (.int 99) t.Em
 oy:mg "MOST_SIZE"=some t.Jr
 ix:Md (.int 240) t.Jr
 Iw:mg "MOST_SPANS"=some t.Wo
 iw:Md (.int 3) t.Wo
 cx:mg "MOST_WAYS"=some t.Wq
 yx:Md (.int 12) t.Wq
 Wv:mg "ValueError"=none
 MP:mg "all"=none
 wO:mg "bool"=none
 vh:mg "enumerate"=none
 NN:mg "int"=none
 Ge:mg "isinstance"=none
 Mn:mg "len"=none
 uz:mg "list"=none
 FN:mg "max"=none
 GO:mg "min"=none
 Pf:mg "range"=none
 io:mg "reversed"=none
 rA:mg "str"=none
 VM:∀ (s:Shared) (u:Value),BindsTo s t.HH ⟨[u],[]⟩ [("_law_script",u)]
section
variable {w:World} {K:PySem.W.Frag} {mg:Str→Option Value} {t:Adr} (T:Txt w K mg t)
include T
theorem Txt.nz:Nb K t.Ep ["places","way","place"] []:=T.yp.binds fun _ _ _ _ _ _=>us3 fun _ _ _=>rfl
theorem Txt.Vv:Nb K t.Hh ["places","way","second"] []:=T.Qj.binds fun _ _ _ _ _ _=>us3 fun _ _ _=>rfl
theorem Txt.lO:Nb K t.Oz ["crossing","one","other"] []:=T.aF.binds fun _ _ _ _ _ _=>us3 fun _ _ _=>rfl
theorem Txt.DP:Nb K t.RG ["crossing","one","other"] []:=T.FL.binds fun _ _ _ _ _ _=>us3 fun _ _ _=>rfl
theorem Txt.BK:Nb K t.Cu ["text"] []:=T.Iy.binds fun _ _ _ _ _ _=>us1 fun _=>rfl
theorem Txt.Go:Nb K t.qg ["word","signs","most"] []:=T.Gh.binds fun _ _ _ _ _ _=>us3 fun _ _ _=>rfl
theorem Txt.Ox:Nb K t.sj ["word","most_figures"] []:=T.fm.binds fun _ _ _ _ _ _=>us2 fun _ _=>rfl
theorem Txt.Gw:Nb K t.Dk ["word","low","high"] []:=T.Wm.binds fun _ _ _ _ _ _=>us3 fun _ _ _=>rfl
theorem Txt.ID:Nb K t.Cn ["word"] []:=T.gq.binds fun _ _ _ _ _ _=>us1 fun _=>rfl
theorem Txt.Uw:Nb K t.qk ["text"] []:=T.Mm.binds fun _ _ _ _ _ _=>us1 fun _=>rfl
theorem Txt.Jl:Nb K t.We ["marks"] []:=T.ag.binds fun _ _ _ _ _ _=>us1 fun _=>rfl
theorem Txt.jt:Nb K t.dg ["marks"] []:=T.di.binds fun _ _ _ _ _ _=>us1 fun _=>rfl
theorem Txt.Ni:Nb K t.cf ["spans","name"] []:=T.Mf.binds fun _ _ _ _ _ _=>us2 fun _ _=>rfl
theorem Txt.Ho:Nb K t.yg ["size","spans","name"] []:=T.Vh.binds fun _ _ _ _ _ _=>us3 fun _ _ _=>rfl
theorem Txt.AO:Nb K t.cz ["way","size","spans"] []:=T.ZC.binds fun _ _ _ _ _ _=>us3 fun _ _ _=>rfl
theorem Txt.Dx:Nb K t.Yi ["reader"] []:=T.Vl.binds fun _ _ _ _ _ _=>us1 fun _=>rfl
theorem Txt.bx:Nb K t.kj ["reader","crossing","size","spans"] []:=T.am.binds fun _ _ _ _ _ _=>us4 fun _ _ _ _=>rfl
theorem Txt.iy:Nb K t.Pi ["crossing","text"] []:=T.Wl.binds fun _ _ _ _ _ _=>us2 fun _ _=>rfl
theorem Txt.Vs:Nb K t.Xf ["crossing","spans"] []:=T.gi.binds fun _ _ _ _ _ _=>us2 fun _ _=>rfl
theorem Txt.Ck:Nb K t.Ld ["size","spans","place"] []:=T.Ce.binds fun _ _ _ _ _ _=>us3 fun _ _ _=>rfl
theorem Txt.Us:Nb K t.cg ["crossing","size","spans"] []:=T.ci.binds fun _ _ _ _ _ _=>us3 fun _ _ _=>rfl
theorem Txt.Xn:Nb K t.Qe ["crossing","one","other","since_one","since_other"] []:=T.Jf.binds fun _ _ _ _ _ _=>us5 fun _ _ _ _ _=>rfl
theorem Txt.vt:Nb K t.gg ["crossing","size","spans"] []:=T.ai.binds fun _ _ _ _ _ _=>us3 fun _ _ _=>rfl
theorem Txt.Dq:Nb K t.jh ["crossing","size","rows"] []:=T.xj.binds fun _ _ _ _ _ _=>us3 fun _ _ _=>rfl
theorem Txt.my:Nb K t.mj ["reader"] []:=T.rm.binds fun _ _ _ _ _ _=>us1 fun _=>rfl
theorem Txt.cq:Nb K t.vf ["reader","ways"] []:=T.oh.binds fun _ _ _ _ _ _=>us2 fun _ _=>rfl
theorem Txt.pB:Nb K t.Jk ["reader","places","start"] []:=T.bo.binds fun _ _ _ _ _ _=>us3 fun _ _ _=>rfl
theorem Txt.vB:Nb K t.Zk ["sort","name","start","end","off","near","least"] []:=T.Ln.binds fun _ _ _ _ _ _=>us7 fun _ _ _ _ _ _ _=>rfl
theorem Txt.LA:Nb K t.Vk ["reader","places","ways"] []:=T.Ao.binds fun _ _ _ _ _ _=>us3 fun _ _ _=>rfl
theorem Txt.Gq:Nb K t.tf ["text"] []:=T.rh.binds fun _ _ _ _ _ _=>us1 fun _=>rfl
theorem Txt.dc:Nb K t.Of ["_law_script","_law_k","_law_many"] []:=T.Ob.binds fun _ _ _ _ _ _=>us3 fun _ _ _=>rfl
theorem Txt.Px:Nb K t.nj ["_law_script"] []:=T.Bm.binds fun _ _ _ _ _ _=>us1 fun _=>rfl
theorem Txt.cy:Nb K t.rj ["_law_places","_law_ways_here"] []:=T.cm.binds fun _ _ _ _ _ _=>us2 fun _ _=>rfl
theorem Txt.uy:Nb K t.fj ["_law_places","_law_one","_law_other"] []:=T.vm.binds fun _ _ _ _ _ _=>us3 fun _ _ _=>rfl
theorem Txt.dy:Nb K t.lj ["_law_script","_law_ways_here","_law_size"] []:=T.Tl.binds fun _ _ _ _ _ _=>us3 fun _ _ _=>rfl
theorem Txt.ax:Nb K t.bj ["_law_ways_here","_law_rows_here","_law_size","_law_k","_law_i","_law_turn"] []:=T.wm.binds fun _ _ _ _ _ _=>us6 fun _ _ _ _ _ _=>rfl
theorem Txt.Vr:Nb K t.Wf ["_law_places","_law_ways_here","_law_rows_here","_law_size"] []:=T.Zh.binds fun _ _ _ _ _ _=>us4 fun _ _ _ _=>rfl
theorem Txt.bq:Nb K t.wf ["_law_e"] []:=T.eh.binds fun _ _ _ _ _ _=>us1 fun _=>rfl
theorem Txt.zw:Nb K t.zh ["_law_crossing","_law_size","_law_rows_here","_law_text_here","_law_by_text"] []:=T.Ik.binds fun _ _ _ _ _ _=>us5 fun _ _ _ _ _=>rfl
theorem Txt.qv:Nb K t.Og ["self","row","word"] []:=T.bn.binds fun _ _ _ _ _ _=>us3 fun _ _ _=>rfl
theorem Txt.Tw:Nb K t.Bh ["self","way"] []:=T.Do.binds fun _ _ _ _ _ _=>us2 fun _ _=>rfl
theorem Txt.Jw:Nb K t.xh ["self","way","at"] []:=T.Lo.binds fun _ _ _ _ _ _=>us3 fun _ _ _=>rfl
theorem Txt.sw:Nb K t.Nh ["self","way","other","at"] []:=T.Qo.binds fun _ _ _ _ _ _=>us4 fun _ _ _ _=>rfl
theorem Txt.Yo:Nb K t.Ye ["self","row","told"] []:=T.Ej.binds fun _ _ _ _ _ _=>us3 fun _ _ _=>rfl
theorem Txt.Ed:Nb K t.wc ["self"] []:=T.Ji.binds fun _ _ _ _ _ _=>us1 fun _=>rfl
theorem Txt.Mg:Nb K t.Ad ["self"] []:=T.Jg.binds fun _ _ _ _ _ _=>us1 fun _=>rfl
theorem Txt.Ah:Nb K t.Pd ["self"] []:=T.Jh.binds fun _ _ _ _ _ _=>us1 fun _=>rfl
theorem Txt.qe:Nb K t.Dc ["self","good"] []:=T.Bg.binds fun _ _ _ _ _ _=>us2 fun _ _=>rfl
theorem Txt.Qd:Nb K t.zc ["self","choices"] []:=T.gf.binds fun _ _ _ _ _ _=>us2 fun _ _=>rfl
theorem Txt.Ub:Nb K t.Yb ["self","low","high"] []:=T.Ze.binds fun _ _ _ _ _ _=>us3 fun _ _ _=>rfl
theorem Txt.we:Nb K t.Ac ["self"] []:=T.mf.binds fun _ _ _ _ _ _=>us1 fun _=>rfl
theorem Txt.Ix:Nb K t.Vi ["self","crossing","size","spans"] []:=T.Lq.binds fun _ _ _ _ _ _=>us4 fun _ _ _ _=>rfl
theorem Txt.Vn:Nb K t.Wg ["self","kind","name","start","end","off","near","least"] []:=T.Xt.binds fun _ _ _ _ _ _=>us8 fun _ _ _ _ _ _ _ _=>rfl
theorem Txt.su:Nb K t.Sg ["self","name","start","end","off","near","least"] []:=T.Gm.binds fun _ _ _ _ _ _=>us7 fun _ _ _ _ _ _ _=>rfl
theorem Txt.Fs:Nb K t.Wh ["self"] []:=T.Bl.binds fun _ _ _ _ _ _=>us1 fun _=>rfl
theorem Txt.wu:Nb K t.qj ["self"] []:=T.rn.binds fun _ _ _ _ _ _=>us1 fun _=>rfl
theorem Txt.Yr:Nb K t.Uf ["self","name","start","end","off","near","least"] []:=T.Nl.binds fun _ _ _ _ _ _=>us7 fun _ _ _ _ _ _ _=>rfl
theorem Txt.Xq:Nb K t.mh ["self"] []:=T.Xj.binds fun _ _ _ _ _ _=>us1 fun _=>rfl
theorem Txt.ss:Nb K t.ki ["self"] []:=T.Rl.binds fun _ _ _ _ _ _=>us1 fun _=>rfl
theorem Txt.As:Nb K t.Tf ["self","name","start","end","off","near","least"] []:=T.Ol.binds fun _ _ _ _ _ _=>us7 fun _ _ _ _ _ _ _=>rfl
theorem Txt.Lr:Nb K t.Xg ["self"] []:=T.uk.binds fun _ _ _ _ _ _=>us1 fun _=>rfl
theorem Txt.ft:Nb K t.mi ["self"] []:=T.Il.binds fun _ _ _ _ _ _=>us1 fun _=>rfl
theorem Txt.Qq:Nb K t.sf ["self","places","ways"] []:=T.Ak.binds fun _ _ _ _ _ _=>us3 fun _ _ _=>rfl
theorem Txt.Kd:Nb K t.vd ["self"] []:=T.Cj.binds fun _ _ _ _ _ _=>us1 fun _=>rfl
theorem Txt.eo:Nb K t.Me ["self","name"] []:=T.Mi.binds fun _ _ _ _ _ _=>us2 fun _ _=>rfl
theorem Txt.Yc:Nb K t.Ec ["self","name"] []:=T.yi.binds fun _ _ _ _ _ _=>us2 fun _ _=>rfl
theorem Txt.Ap:Qr K t.Gb:=Bu T.kD T.Kv
theorem Txt.Yn:Qr K t.ac:=Bu T.XG T.xz
theorem Txt.Xk:iI K t.ac:=wD T.Yn T.zH
theorem Txt.nv:Qr K t.fc:=Bu T.wI T.pz
theorem Txt.Eg:Qr K t.Jb:=Bu T.SG T.Bz
theorem Txt.Sh:iI K t.Jb:=wD T.Eg T.FH
end
noncomputable def Ug (ns:List Int) (k m:Int):Int:=
 ((((if 0 < (ns.length:Int) then ns.getD (k % (ns.length:Int)).toNat 0 else 0) % 1000003 + 31 * k * k + 1) * 48271 % 999983 * 7919) % 524287) % m
theorem Dg (ns:List Int) (k:Int) {m:Int} (h:0 < m):0 ≤ Ug ns k m:=Int.emod_nonneg _ (by omega)
theorem Cg (ns:List Int) (k:Int) {m:Int} (h:0 < m):Ug ns k m < m:=Int.emod_lt_of_pos _ h
noncomputable def Wd (K:PySem.W.Frag) (a:Addr) (ns:List Int):Sp:=fun vs H Q _=>∃ k m,vs=[.ref a,.int k,.int m]∧Sc K a ns H∧(0 ≤ k∧k < 1000000)∧0 < m∧Q (.int (Ug ns k m)) H
section
variable {P:Program} {w:World} {K:PySem.W.Frag} {mg:Str→Option Value} {base:Heap} {t:Adr}
theorem px (T:Txt w K mg t) (a:Addr) (ns:List Int) (h63:ns.length ≤ 63):Eb P w K mg base CX0 1 t.Gf t.Of ["_law_script","_law_k","_law_many"] (Wd K a ns):=by
 refine T.Ob.ok jk (fun vs H Q E h=>?_) (fun cdv A outer s H vs Q E hr h=>?_)
 ·obtain ⟨k,m,rfl,_⟩:=h;rfl
 obtain ⟨k,m,rfl,S,⟨h0,h1⟩,hm,q⟩:=h
 refine ⟨_,(cb (Ab (i:=3) jk.nd rfl (Or.inl rfl) (jz (Sb vK (Hc Pc rfl T.Mn Dd (bb (pv 0) fb)) rb (uc _)) (Nc Hd (pv 0) (Pb Af (pv 1) (Hc Pc rfl T.Mn Dd (bb (pv 0) fb))) (fun _ _=>rfl)) rb))
   (cb (Ab (i:=4) jk.nd rfl (Or.inl rfl) (Pb se (Pb se (Pb Af (pv 3) rb) (Pb Fw (Pb Fw rb (pv 1)) (pv 1))) rb))
   (gb (Fb (Pb Af (Pb Af (Pb Fw (Pb Af (Pb Fw (pv 4) rb) rb) rb) rb) (pv 2)))))),?_⟩
 (walk_at "RD")
 refine ⟨_,.inl S.seq,?_⟩
 rw [List.length_map]
 have hkk:(0:Int) ≤ k * k∧k * k < 1000000 * 1000000:=⟨Int.mul_nonneg h0 h0,Int.mul_lt_mul' (by omega) h1 h0 (by decide)⟩
 have fin:∀ i:Int,(0:Int) < 1000003∧RI 31 k∧RI (31 * k) k∧RI (i % 1000003 + 31 * k * k + 1) 48271∧(0:Int) < 999983∧RI ((i % 1000003 + 31 * k * k + 1) * 48271 % 999983) 7919∧(0:Int) < 524287∧0 < m:=by
  intro i
  refine ⟨by decide,.inl (by decide),.inr (by omega),.inr (by decide),by decide,.inr (by decide),by decide,hm⟩
 by_cases c:(0:Int) < (ns.length:Int)
 ·rw [if_pos (decide_eq_true c)]
  have hk:0 ≤ k % (ns.length:Int)∧k % (ns.length:Int) < (ns.length:Int):=⟨Int.emod_nonneg _ (by omega),Int.emod_lt_of_pos _ c⟩
  refine ⟨_,.inl S.seq,by rw [List.length_map];exact c,_,S.seq,?_⟩
  rw [List.length_map]
  have hj:(k % (ns.length:Int)).toNat < ns.length:=by omega
  refine ⟨.int ns[(k % (ns.length:Int)).toNat],?_,_,rfl,?_⟩
  ·have e:=Ic (xs:=ns.map V.int) (j:=(k % (ns.length:Int)).toNat) (v:=.int ns[(k % (ns.length:Int)).toNat]) (by rw [List.getElem?_map,List.getElem?_eq_getElem hj] <;> rfl)
   rwa [Int.toNat_of_nonneg hk.1] at e
  ·obtain ⟨f1,f2,f3,f4,f5,f6,f7,f8⟩:=fin ns[(k % (ns.length:Int)).toNat]
   refine ⟨f1,f2,f3,f4,f5,f6,f7,f8,?_⟩
   have e:Ug ns k m=(((ns[(k % (ns.length:Int)).toNat] % 1000003 + 31 * k * k + 1) * 48271 % 999983 * 7919) % 524287) % m:=by
    unfold Ug
    rw [if_pos c,List.getD_eq_getElem?_getD,List.getElem?_eq_getElem hj]
    rfl
   rw [← e];exact q
 ·rw [if_neg (by simpa using c)]
  obtain ⟨f1,f2,f3,f4,f5,f6,f7,f8⟩:=fin 0
  refine ⟨f1,f2,f3,f4,f5,f6,f7,f8,?_⟩
  have e:Ug ns k m=(((0 % 1000003 + 31 * k * k + 1) * 48271 % 999983 * 7919) % 524287) % m:=by
   unfold Ug
   rw [if_neg c]
  rw [← e];exact q
end
theorem lP {w:Str}:w=Str.ofString "" ↔ w.length=0:=by
 constructor
 ·rintro rfl;decide +kernel
 ·intro h
  have e:w.cps=#[]:=Array.eq_empty_of_size_eq_zero h
  have e2:(Str.ofString "").cps=#[]:=by decide +kernel
  cases w
  cases h2:Str.ofString ""
  rw [h2] at e2
  simp only at e e2
  rw [e,e2]
noncomputable def inL (sg:Str) (c:Nat):Bool:=!(Builtin.Str.occurrences sg (wN c) 0 sg.length 1).isEmpty
theorem wy (sg:Str) (c:Nat):inL sg c=decide (c ∈ sg.cps.toList):=StrLaws.found_one sg c
noncomputable def made (w sg:Str) (m:Int):Bool:=if w=Str.ofString "" then false else if m < (w.length:Int) then false else w.cps.toList.all (inL sg)
noncomputable def yr:Sp:=fun vs H Q _=>∃ w sg m,vs=[.str w,.str sg,.int m]∧w.length ≤ 1000∧NoT H∧Q (.bl (made w sg m)) H
noncomputable def jG:Sp:=fun vs H Q _=>∃ w sg m,vs=[.str w,.str sg,.int m]∧w.length ≤ 1000∧∀ H',Xb H H'→Q (.bl (made w sg m)) H'
section
variable {P:Program} {w:World} {K:PySem.W.Frag} {mg:Str→Option Value} {base:Heap} {t:Adr}
theorem ZE (T:Txt w K mg t):Eb P w K mg base CX0 1 t.jg t.qg ["word","signs","most"] yr:=by
 refine Eb.forget (sp:=jG) ?_ fun vs H Q E h=>?_
 ·refine T.Gh.ok mv (fun vs H Q E h=>?_) (fun cdv A outer s H vs Q E hr h=>?_)
  ·obtain ⟨w,sg,m,rfl,_⟩:=h;rfl
  obtain ⟨w,sg,m,rfl,hz,q⟩:=h
  have hz':w.length ≤ sizeLine:=Nat.le_trans hz (by decide)
  refine ⟨_,(cb (ge (PW.pt (JB (Sb bi (pv 0) xc (uc _)) (gu (Sb vK (Hc lw rfl T.Mn Dd (bb (pv 0) fb)) (pv 2) (uc _))))) (gb (Fb En)) Zb)
   (gb (Fb (Hc (eI rfl) rfl T.MP NB (bb (Qi rfl (bP (pv 0)) (Vd (sc:=ib Bk) rfl (by decide +kernel)) (N:=["sign","signs"]) (sel:=[none,some 1]) (Le (M:=["word","signs","most"]) (by decide +kernel)) (Blk.of (fun _ _ _ _=>(zb (i:=0) (Ii (N:=["sign","signs"]) (by decide +kernel) rfl) rfl (Or.inl rfl))) (fun _ _ _ _=>⟨_,Xh,by first | rfl | (dsimp only [Cx.block];done) | (dsimp only [Cx.block];exact rfl)⟩) (fun _ _ _ _=>⟨_,(Te uF (pv 0) (pv 1) (by with_unfolding_all rfl)),by first | rfl | (dsimp only [Cx.block];done) | (dsimp only [Cx.block];exact rfl)⟩))) fb))))),?_⟩
  (walk_at "RD")
  refine Rb (decide (w=Str.ofString "") || decide (m < (w.length:Int))) (fun Q hQ=>?_) (fun hb=>?_) (fun hb=>?_)
  ·(walk_at "RD")
   by_cases c:w=Str.ofString ""
   ·rw [if_pos (decide_eq_true c)]
    rw [decide_eq_true c,Bool.true_or] at hQ
    exact hQ
   ·rw [if_neg (by simpa using c)]
    rw [decide_eq_false c,Bool.false_or] at hQ
    exact ⟨hz',hQ⟩
  ·(walk_at "RD")
   have e:made w sg m=false:=by
    unfold made
    simp only [Bool.or_eq_true,decide_eq_true_eq] at hb
    by_cases c:w=Str.ofString ""
    ·rw [if_pos c]
    ·rw [if_neg c,if_pos (hb.resolve_left c)]
   have:=q H (Xb.refl H)
   rw [e] at this
   exact this
  ·(walk_at "RD")
   have e:made w sg m=w.cps.toList.all (inL sg):=by
    unfold made
    simp only [Bool.or_eq_false_iff,decide_eq_false_iff_not] at hb
    rw [if_neg hb.1,if_neg hb.2]
   refine de.its_map (fun x=>match x with | .str y=>.bl (!(Builtin.Str.occurrences sg y 0 sg.length 1).isEmpty) | _=>.non) (by rw [Fn];exact hz') (fun i x N hx hN=>?_) (fun p hp=>?_)
   ·unfold Aj at hx
    rw [List.getElem?_map] at hx
    cases hc:w.cps.toList[i]? with
    | none=>rw [hc] at hx;cases hx
    | some c=>
     rw [hc] at hx
     have hx':V.str (wN c)=x:=Option.some.inj hx
     subst hx'
     (walk_at "RD")
     exact ⟨Sub.name,hN⟩
   ·refine ⟨p,rfl,w.cps.toList.map (inL sg),SqL.of ?_,?_⟩
    ·rw [db]
     unfold Aj
     rw [List.map_map,List.map_map]
     rfl
    ·have:=q (upd H p (.lst (List.map (fun x=>match x with | .str y=>.bl (!(Builtin.Str.occurrences sg y 0 sg.length 1).isEmpty) | _=>.non) (Aj w)))) (jb hp)
     rw [e] at this
     rw [List.all_map]
     exact this
 ·obtain ⟨w,sg,m,e,hz,nt,q⟩:=h
  exact ⟨nt,w,sg,m,e,hz,fun H' sm=>⟨sm,q⟩⟩
end
noncomputable abbrev fL:Str:=Str.ofString "0123456789"
noncomputable def qp (c:Nat):Bool:=decide (48 ≤ c∧c ≤ 57)
theorem rD:fL.cps.toList=[48,49,50,51,52,53,54,55,56,57]:=by decide +kernel
theorem mG (c:Nat):inL fL c=qp c:=by
 rw [wy,rD]
 unfold qp
 rw [Bool.eq_iff_iff]
 simp only [decide_eq_true_eq,List.mem_cons,List.not_mem_nil,or_false]
 omega
noncomputable abbrev cs (w:Str):List Nat:=w.cps.toList
theorem mE (w:Str):(cs w).length=w.length:=by simp [cs,Str.length]
noncomputable def okB (w:Str):Bool:=decide (1 ≤ (cs w).length) && decide ((cs w).length ≤ 3) && (cs w).all qp && (decide ((cs w).length ≤ 1) || decide ((cs w).headD 0 ≠ 48))
noncomputable abbrev val (w:Str):Int:=((NumText.digitsVal (cs w):Nat):Int)
noncomputable def Aq (w:Str) (lo hi:Int):V:=if okB w && !(decide (val w < lo) || decide (hi < val w)) then .int (val w) else .non
theorem aD {w:Str} {c:Nat}:w=⟨#[c]⟩↔cs w=[c]:=by
 constructor
 ·rintro rfl;rfl
 ·intro h
  cases w with
  | mk a=>
   have e:a=#[c]:=Array.toList_inj.mp h
   rw [e]
theorem Gy:Str.ofString "0"=⟨#[48]⟩:=by decide +kernel
theorem Lv (w:Str):made w fL 3=(decide (1 ≤ (cs w).length) && decide ((cs w).length ≤ 3) && (cs w).all qp):=by
 unfold made
 have e:(inL fL)=qp:=funext mG
 rw [e]
 by_cases h1:w=Str.ofString ""
 ·have h2:=lP.mp h1
  rw [if_pos h1,mE,h2];rfl
 ·have h2:¬ w.length=0:=fun z=>h1 (lP.mpr z)
  rw [if_neg h1,mE]
  by_cases h3:(3:Int) < (w.length:Int)
  ·rw [if_pos h3,decide_eq_false (show ¬ w.length ≤ 3 by omega),Bool.and_false,Bool.false_and]
  ·rw [if_neg h3,decide_eq_true (show 1 ≤ w.length by omega),decide_eq_true (show w.length ≤ 3 by omega)];rfl
theorem Lu {l:List Nat} (h:l.all qp=true):NumText.AllDigits l:=fun c hc=>by
 have:=List.all_eq_true.mp h c hc
 simpa [qp] using this
theorem BO {w:Str} (h:okB w=true):(1 ≤ (cs w).length∧(cs w).length ≤ 3)∧(cs w).all qp=true:=by
 unfold okB at h
 simp only [Bool.and_eq_true,decide_eq_true_eq] at h
 exact h.1
noncomputable def nF:Sp:=fun vs H Q _=>∃ w,vs=[.str w,.int 3]∧w.length ≤ 1000∧NoT H∧Q (.bl (okB w)) H
noncomputable def ME:Sp:=fun vs H Q _=>∃ w lo hi,vs=[.str w,.int lo,.int hi]∧w.length ≤ 1000∧NoT H∧Q (Aq w lo hi) H
section
variable {P:Program} {w:World} {K:PySem.W.Frag} {mg:Str→Option Value} {base:Heap} {t:Adr}
theorem AM (T:Txt w K mg t):Eb P w K mg base CX0 2 t.jj t.sj ["word","most_figures"] nF:=by
 have G_is_made_of:Eb P w K mg base CX0 1 t.jg t.qg ["word","signs","most"] yr:=ZE T
 refine T.fm.ok Kw (fun vs H Q E h=>?_) (fun cdv A outer s H vs Q E hr h=>?_)
 ·obtain ⟨w,rfl,_⟩:=h;rfl
 obtain ⟨w,rfl,hz,nt,q⟩:=h
 have hz':w.length ≤ sizeLine:=Nat.le_trans hz (by decide)
 refine ⟨_,(cb (ge (Zm (Ef (yb G_is_made_of hr rfl T.Fo T.Gh.kp T.Go .nil Cb (bb (pv 0) (bb (Id rfl T.BC T.rE) (bb (pv 1) fb)))))) (gb (Fb En)) Zb)
   (gb (Fb (KN (Te bi (pv 0) xc (uc _)) (gz (Te DA (Nc NI (pv 0) rb (fun _ _=>rfl)) xc (uc _))))))),?_⟩
 refine Rb (!made w fL 3) (fun Q hQ=>?_) (fun hb=>?_) (fun hb=>?_)
 ·(walk_at "RD"; repeat (simp only [yr];walk_at "RD"))
  exact ⟨hz,nt,hQ⟩
 ·(walk_at "RD")
  have e:okB w=false:=by
   have hb':made w fL 3=false:=by simpa using hb
   rw [Lv] at hb'
   unfold okB
   rw [hb'];rfl
  rw [e] at q
  exact q
 ·have hb':made w fL 3=true:=by simpa using hb
  rw [Lv] at hb'
  rw [Jp]
  dsimp only
  refine tK (.bl (okB w)) (fun Q hQ=>?_) ?_
  case refine_2=>exact q
  (walk_at "RD")
  have hb2:(1 ≤ (cs w).length∧(cs w).length ≤ 3)∧(cs w).all qp=true:=by
   simpa only [Bool.and_eq_true,decide_eq_true_eq] using hb'
  obtain ⟨c,r,hcr⟩:∃ c r,cs w=c :: r:=by
   cases h:cs w with
   | nil=>rw [h] at hb2;exact absurd hb2.1.1 (by decide)
   | cons c r=>exact ⟨c,r,rfl⟩
  have ok:okB w=(decide ((cs w).length ≤ 1) || decide ((cs w).headD 0 ≠ 48)):=by
   unfold okB
   rw [hb',Bool.true_and]
  by_cases c0:w=Str.ofString "0"
  ·rw [if_pos (decide_eq_true c0)]
   have e:cs w=[48]:=by rw [c0,Gy]
   rw [ok,e] at hQ
   exact hQ
  ·rw [if_neg (by simpa using c0)]
   refine ⟨hz',c,?_,?_⟩
   ·have:=Ic (xs:=cs w) (j:=0) (v:=c) (by rw [hcr];rfl)
    exact this
   ·have e2:decide ((⟨#[c]⟩:Str)=Str.ofString "0")=decide (c=48):=by
     rw [Gy]
     by_cases h48:c=48
     ·rw [h48];simp
     ·rw [decide_eq_false h48,decide_eq_false]
      intro z
      have z2:=aD.mp z
      exact h48 (List.cons.inj z2).1
    rw [e2]
    have e3:okB w = !decide (c=48):=by
     rw [ok,hcr]
     show (decide ((c :: r).length ≤ 1) || decide (c ≠ 48))=_
     by_cases h48:c=48
     ·have hr:r ≠ []:=fun z=>c0 (by rw [Gy];exact aD.mpr (by rw [hcr,z,h48]))
      have:¬ (c :: r).length ≤ 1:=by
       cases r with
       | nil=>exact absurd rfl hr
       | cons d r=>simp
      rw [decide_eq_false this,h48];rfl
     ·rw [decide_eq_true h48,Bool.or_true,decide_eq_false h48];rfl
    rw [← e3]
    exact hQ
theorem II (T:Txt w K mg t):Eb P w K mg base CX0 3 t.rk t.Dk ["word","low","high"] ME:=by
 have G_is_number:Eb P w K mg base CX0 2 t.jj t.sj ["word","most_figures"] nF:=AM T
 refine T.Wm.ok Jt (fun vs H Q E h=>?_) (fun cdv A outer s H vs Q E hr h=>?_)
 ·obtain ⟨w,lo,hi,rfl,_⟩:=h;rfl
 obtain ⟨w,lo,hi,rfl,hz,nt,q⟩:=h
 refine ⟨_,(cb (ge (Zm (Ef (yb G_is_number hr rfl T.Vx T.fm.kp T.Ox .nil Cb (bb (pv 0) (bb (Id rfl T.Gs T.Ls) fb))))) (gb (Fb Kz)) Zb)
   (cb (Ab (i:=3) Jt.nd rfl (Or.inl rfl) (lg qE rfl T.NN Ht (bb (pv 0) fb)))
   (cb (ge (PW.pt (JB (Sb xv (pv 3) (pv 1) (uc _)) (gu (Sb vK (pv 3) (pv 2) (uc _))))) (gb (Fb Kz)) Zb)
   (gb (Fb (pv 3)))))),?_⟩
 refine Rb (!okB w) (fun Q hQ=>?_) (fun hb=>?_) (fun hb=>?_)
 ·(walk_at "RD"; repeat (simp only [nF];walk_at "RD"))
  exact ⟨hz,nt,hQ⟩
 ·(walk_at "RD")
  have hb':okB w=false:=by simpa using hb
  have e:Aq w lo hi=.non:=by unfold Aq;rw [hb'];rfl
  rw [e] at q;exact q
 ·have hb':okB w=true:=by simpa using hb
  have h3:(1 ≤ (cs w).length∧(cs w).length ≤ 3)∧(cs w).all qp=true:=by
   have:=hb'
   unfold okB at this
   simp only [Bool.and_eq_true,decide_eq_true_eq] at this
   exact this.1
  have hl:=mE w
  have hi':intText? w=some (val w):=intText_digits (Lu h3.2) (fun z=>by have z':cs w=[]:=z;rw [z'] at h3;exact absurd h3.1.1 (by decide)) (by omega)
  (walk_at "RD")
  refine ⟨val w,hi',by omega,?_⟩
  refine Rb (decide (val w < lo) || decide (hi < val w)) (fun Q hQ=>?_) (fun hc=>?_) (fun hc=>?_)
  ·(walk_at "RD")
   by_cases c:val w < lo
   ·rw [if_pos (decide_eq_true c)]
    rw [decide_eq_true c,Bool.true_or] at hQ
    exact hQ
   ·rw [if_neg (by simpa using c)]
    rw [decide_eq_false c,Bool.false_or] at hQ
    exact hQ
  ·(walk_at "RD")
   have e:Aq w lo hi=.non:=by unfold Aq;rw [hb',hc];rfl
   rw [e] at q;exact q
  ·(walk_at "RD")
   have e:Aq w lo hi=.int (val w):=by unfold Aq;rw [hb',hc];rfl
   rw [e] at q;exact q
end
theorem Dr {n:Nat} (h:n < 1000):n.log2 < 1920:=by
 by_cases h0:n=0
 ·subst h0;decide
 ·rw [Nat.log2_lt h0]
  exact Nat.lt_of_lt_of_le h (Nat.le_trans (show 1000 ≤ 2 ^ 10 by decide) (Nat.pow_le_pow_right (by decide) (by decide)))
theorem GG:∀ n,n < 1000→(Nat.toDigits 10 n).length ≤ 3:=by decide +kernel
theorem vL {n:Int} (h0:0 ≤ n) (h1:n ≤ 999):(Str.ofString (toString n)).length ≤ 3:=by
 have e:=PySem.W.KIN.signs_num n.toNat
 rw [Int.toNat_of_nonneg h0] at e
 have l:(Str.ofString (toString n)).length=(Str.ofString (toString n)).cps.toList.length:=by simp [Str.length]
 rw [l,e,List.length_map]
 exact GG _ (by omega)
noncomputable abbrev gh:Str:=Str.ofString "abcdefghijklmnopqrstuvwxyz"
noncomputable def DD:Sp:=fun vs H Q _=>∃ w,vs=[.str w]∧w.length ≤ 1000∧NoT H∧Q (.bl (made w gh 8)) H
section
variable {P:Program} {w:World} {K:PySem.W.Frag} {mg:Str→Option Value} {base:Heap} {t:Adr}
theorem xL (T:Txt w K mg t):Eb P w K mg base CX0 2 t.Vm t.Cn ["word"] DD:=by
 have G_is_made_of:Eb P w K mg base CX0 1 t.jg t.qg ["word","signs","most"] yr:=ZE T
 refine T.gq.ok lB (fun vs H Q E h=>?_) (fun cdv A outer s H vs Q E hr h=>?_)
 ·obtain ⟨w,rfl,_⟩:=h;rfl
 obtain ⟨w,rfl,hz,nt,q⟩:=h
 refine ⟨_,(gb (Fb (yb G_is_made_of hr rfl T.Fo T.Gh.kp T.Go .nil Cb (bb (pv 0) (bb (Id rfl T.UC T.BD) (bb (Id rfl T.gs T.Qs) fb)))))),?_⟩
 (walk_at "RD"; repeat (simp only [yr];walk_at "RD"))
 exact ⟨hz,nt,q⟩
end
noncomputable abbrev nl:Str:=Str.ofString "\n"
noncomputable abbrev bk:Str:=Str.ofString " "
theorem SH:nl=⟨#[10]⟩:=by decide +kernel
theorem EB:bk=⟨#[32]⟩:=by decide +kernel
noncomputable def Fg (x:Str):List (List Str):=(Txt.split x nl).map fun r=>Txt.split r bk
theorem Qt:∀ {ys:List Str} {y:Str},y ∈ ys→y.length ≤ (ys.map (·.length)).sum
 | [],_,h=>nomatch h
 | a :: r,y,h=>by
  rw [List.map_cons,List.sum_cons]
  rcases List.mem_cons.mp h with rfl | h
  ·omega
  ·have:=Qt h;omega
theorem ZL {x y r:Str} (hy:1 ≤ y.length) (h:r ∈ Txt.split x y):r.length ≤ x.length + 1:=by
 have h1:=PyProof.Rows.split_weight x y hy
 have h2:=Qt h
 omega
theorem Sq {x y:Str} (hy:1 ≤ y.length):(Txt.split x y).length ≤ x.length + 1:=by
 have h1:=PyProof.Rows.split_weight x y hy
 omega
theorem KG (x y:Str):Txt.split x y ≠ []:=by
 unfold Txt.split
 split
 ·simp
 ·split
  ·simp
  ·rw [StrLaws.partsBetween_eq]
   obtain ⟨p,r,e⟩:=StrLaws.partsFrom_ne x y.length 0 (Builtin.Str.occurrences x y 0 x.length (x.length + 1))
   rw [e];simp
noncomputable def LL (H0 H:Hp) (p:Addr) (rows:List (List Str)):Prop:=∃ qs:List Addr,H p=some (.lst (qs.map V.ref))∧H0 p=none∧p ∉ qs∧qs.length=rows.length∧∀ (i:Nat) (q:Addr) (r:List Str),qs[i]? = some q→rows[i]? = some r→H q=some (.lst (Ib r))∧H0 q=none
noncomputable def Rz:Sp:=fun vs H Q _=>∃ x,vs=[.str x]∧x.length ≤ 20000∧NoT H∧∀ p H',Xb H H'→NoT H'→LL H H' p (Fg x)→Q (.ref p) H'
theorem Wt:nl.length=1:=by decide +kernel
theorem sr:bk.length=1:=by decide +kernel
section
variable {P:Program} {w:World} {K:PySem.W.Frag} {mg:Str→Option Value} {base:Heap} {t:Adr}
theorem PH (T:Txt w K mg t):Eb P w K mg base CX0 1 t.Nu t.Cu ["text"] Rz:=by
 refine T.Iy.ok VG (fun vs H Q E h=>?_) (fun cdv A outer s H vs Q E hr h=>?_)
 ·obtain ⟨x,rfl,_⟩:=h;rfl
 obtain ⟨x,rfl,hz,nt,q⟩:=h
 have hzz:∀ n:Nat,n ≤ 40000→n ≤ sizeLine:=fun n h=>Nat.le_trans h (by decide)
 refine ⟨_,(gb (Fb (Qi rfl (ae (Cr PySem.F.plainAttrs_str PySem.F.slot_str_split PySem.F.type_str_split Vz (pv 0) (bb xc fb))) (Vd (sc:=ib Wy) rfl (by decide +kernel)) (N:=["row"]) (sel:=[none]) (Le (M:=["text"]) (by decide +kernel)) (Blk.of (fun _ _ _ _=>(zb (i:=0) (Ii (N:=["row"]) (by decide +kernel) rfl) rfl (Or.inl rfl))) (fun _ _ _ _=>⟨_,Xh,by first | rfl | (dsimp only [Cx.block];done) | (dsimp only [Cx.block];exact rfl)⟩) (fun _ _ _ _=>⟨_,(Cr PySem.F.plainAttrs_str PySem.F.slot_str_split PySem.F.type_str_split Vz (pv 0) (bb xc fb)),by first | rfl | (dsimp only [Cx.block];done) | (dsimp only [Cx.block];exact rfl)⟩))))),?_⟩
 (walk_at "RD")
 have hy:1 ≤ nl.length:=by rw [Wt];exact Nat.le_refl _
 have hy2:1 ≤ bk.length:=by rw [sr];exact Nat.le_refl _
 have hs:=Sq (x:=x) hy
 have hs':(Ib (Txt.split x nl)).length ≤ sizeLine:=by unfold Ib;rw [List.length_map];exact hzz _ (by omega)
 refine ⟨by rw [Wt];decide,hzz _ (by omega),hzz _ (show (Txt.split x nl).length ≤ 40000 by omega),fun p hp=>⟨⟨_,SqL.of db⟩,?_⟩⟩
 refine de.list_mk (xs:=Ib (Txt.split x nl)) (fun v=>match v with | .str r=>.lst (Ib (Txt.split r bk)) | _=>.lst []) (SqL.of db) hs' (fun v=>by cases v <;> rfl) (fun i v H1 N hx sm nt1 hN=>?_) (fun qs H1 sm nt1 hl al p2 hp2=>?_)
 ·unfold Ib at hx
  rw [List.getElem?_map] at hx
  cases hr:(Txt.split x nl)[i]? with
  | none=>rw [hr] at hx;cases hx
  | some r=>
   rw [hr] at hx
   have e:=Option.some.inj hx
   subst e
   have hm:=ZL hy (List.mem_of_getElem? hr)
   have hs2:=Sq (x:=r) hy2
   (walk_at "RD")
   exact ⟨Sub.name,by rw [sr];decide,hzz _ (by omega),hzz _ (show (Txt.split r bk).length ≤ 40000 by omega),hN⟩
 ·have sm0:Xb H H1:=(jb hp).trans sm
  refine q _ _ (sm0.updN (sm0.free hp2)) ((nt1 (nt.upd)).upd) ⟨qs,db,sm0.free hp2,fun hm=>?_,?_,fun i q' r h1 h2=>?_⟩
  ·obtain ⟨j,hj,e⟩:=List.getElem_of_mem hm
   have hj2:j < (Ib (Txt.split x nl)).length:=by omega
   have:=al j p2 _ (by rw [List.getElem?_eq_getElem hj,e]) (List.getElem?_eq_getElem hj2)
   rw [hp2] at this
   cases this.1
  ·rw [hl];unfold Fg Ib;rw [List.length_map,List.length_map]
  ·unfold Fg at h2
   rw [List.getElem?_map] at h2
   cases hr:(Txt.split x nl)[i]? with
   | none=>rw [hr] at h2;cases h2
   | some r0=>
    rw [hr] at h2
    have e:=Option.some.inj h2
    subst e
    have z:=al i q' (.str r0) h1 (by unfold Ib;rw [List.getElem?_map,hr];rfl)
    refine ⟨by rw [lb (ub z.1 hp2)];exact z.1,?_⟩
    have:=z.2
    by_cases hq:q'=p
    ·rw [hq];exact hp
    ·rwa [lb hq] at this
end
end My
namespace My
open PySem L2
structure WD where
 k:Nat
 name:Str
 start:Int
 fin:Int
 off:Int
 near:Int
 least:Int
noncomputable def me:Nat→Str
 | 0=>Str.ofString "car"
 | 1=>Str.ofString "foot"
 | _=>Str.ofString "tram"
noncomputable def Adr.cw (t:Adr):Nat→Addr
 | 0=>t.Bd
 | 1=>t.Kc
 | _=>t.Lc
noncomputable def gp (d:WD):List (Str × V):=[(Str.ofString "kind",.str (me d.k)),(Str.ofString "name",.str d.name),(Str.ofString "start",.int d.start),(Str.ofString "end",.int d.fin),(Str.ofString "off",.int d.off),(Str.ofString "near",.int d.near),(Str.ofString "least",.int d.least)]
noncomputable abbrev Js:List Str:=[Str.ofString "kind",Str.ofString "name",Str.ofString "start",Str.ofString "end",Str.ofString "off",Str.ofString "near",Str.ofString "least"]
theorem Kt (d:WD):(gp d).map (·.1)=Js:=rfl
noncomputable def Ke (t:Adr) (H:Hp) (p:Addr) (d:WD):Prop:=d.k < 3∧∃ dx,H p=some (.ins (t.cw d.k) dx (gp d))
theorem Ke.same {t:Adr} {H H':Hp} {p:Addr} {d:WD} (h:Ke t H p d) (s:Xb H H'):Ke t H' p d:=⟨h.1,h.2.imp fun dx e=>s _ _ e⟩
noncomputable def isW (t:Adr) (C:Addr):Prop:=∃ k,k < 3∧C=t.cw k
noncomputable def yd (d:WD):Int:=match d.k with | 0=>1 | 1=>0 | _=>2
noncomputable def af (d:WD):Int:=match d.k with | 0=>2 | 1=>d.off | _=>1
section
variable {w:World} {K:PySem.W.Frag} {mg:Str→Option Value} {t:Adr}
theorem Txt.clw (T:Txt w K mg t):∀ k,Cls K (t.cw k)
 | 0=>T.Vq
 | 1=>T.Bo
 | _ + 2=>T.Zn
theorem Txt.naw (T:Txt w K mg t) {f:Str} (hf:f ∈ Js):∀ k,Db K (t.cw k) f:=by
 intro k
 simp only [Js,List.mem_cons,List.not_mem_nil,or_false] at hf
 rcases hf with rfl | rfl | rfl | rfl | rfl | rfl | rfl
 ·match k with
  | 0=>exact T.Is
  | 1=>exact T.jr
  | _ + 2=>exact T.mr
 ·match k with
  | 0=>exact T.Ms
  | 1=>exact T.Mr
  | _ + 2=>exact T.lr
 ·match k with
  | 0=>exact T.dr
  | 1=>exact T.ip
  | _ + 2=>exact T.np
 ·match k with
  | 0=>exact T.wv
  | 1=>exact T.Xs
  | _ + 2=>exact T.ls
 ·match k with
  | 0=>exact T.Gu
  | 1=>exact T.Xr
  | _ + 2=>exact T.Ps
 ·match k with
  | 0=>exact T.Wr
  | 1=>exact T.Jq
  | _ + 2=>exact T.Zq
 ·match k with
  | 0=>exact T.uq
  | 1=>exact T.vp
  | _ + 2=>exact T.rp
theorem Txt.cw_inj (T:Txt w K mg t) {j k:Nat} (hj:j < 3) (hk:k < 3) (e:t.cw j=t.cw k):j=k:=by
 match j,k,hj,hk with
 | 0,0,_,_=>rfl
 | 0,1,_,_=>exact absurd e T.vi
 | 0,2,_,_=>exact absurd e T.Hi
 | 1,0,_,_=>exact absurd e.symm T.vi
 | 1,1,_,_=>rfl
 | 1,2,_,_=>exact absurd e T.Ih
 | 2,0,_,_=>exact absurd e.symm T.Hi
 | 2,1,_,_=>exact absurd e.symm T.Ih
 | 2,2,_,_=>rfl
 | j + 3,_,h,_=>omega
 | _,k + 3,_,h=>omega
theorem Ke.fld (T:Txt w K mg t) {H:Hp} {p:Addr} {d:WD} (h:Ke t H p d) {f:Str} {v:V} (i:Nat) (hi:Js.findIdx? (· == f)=some i) (hv:(gp d)[i]? = some (f,v)):xk K H p f v:=by
 obtain ⟨_,dx,e⟩:=h
 have hm:f ∈ Js:=by
  obtain ⟨hlt,h1,_⟩:=List.findIdx?_eq_some_iff_getElem.mp hi
  have:Js[i]=f:=by simpa using h1
  rw [← this];exact List.getElem_mem hlt
 exact ⟨_,dx,_,e,T.clw _,T.naw hm _,Gc Js i (Kt d) hi hv⟩
theorem Ke.f_name (T:Txt w K mg t) {H:Hp} {p:Addr} {d:WD} (h:Ke t H p d):xk K H p (Str.ofString "name") (.str d.name):=h.fld T 1 (by decide +kernel) rfl
theorem Ke.f_start (T:Txt w K mg t) {H:Hp} {p:Addr} {d:WD} (h:Ke t H p d):xk K H p (Str.ofString "start") (.int d.start):=h.fld T 2 (by decide +kernel) rfl
theorem Ke.f_end (T:Txt w K mg t) {H:Hp} {p:Addr} {d:WD} (h:Ke t H p d):xk K H p (Str.ofString "end") (.int d.fin):=h.fld T 3 (by decide +kernel) rfl
theorem Ke.f_off (T:Txt w K mg t) {H:Hp} {p:Addr} {d:WD} (h:Ke t H p d):xk K H p (Str.ofString "off") (.int d.off):=h.fld T 4 (by decide +kernel) rfl
theorem Ke.f_near (T:Txt w K mg t) {H:Hp} {p:Addr} {d:WD} (h:Ke t H p d):xk K H p (Str.ofString "near") (.int d.near):=h.fld T 5 (by decide +kernel) rfl
theorem Ke.f_least (T:Txt w K mg t) {H:Hp} {p:Addr} {d:WD} (h:Ke t H p d):xk K H p (Str.ofString "least") (.int d.least):=h.fld T 6 (by decide +kernel) rfl
end
noncomputable def Yu (t:Adr):Sp:=fun vs H Q _=>∃ (p dx:Addr) (d:WD),vs=[.ref p,.str (me d.k),.str d.name,.int d.start,.int d.fin,.int d.off,.int d.near,.int d.least]∧d.k < 3∧H p=some (.ins (t.cw d.k) dx [])∧Q .non (upd H p (.ins (t.cw d.k) dx (gp d)))
noncomputable def Kk (t:Adr) (k:Nat):Sp:=fun vs H Q _=>∃ (p dx:Addr) (d:WD),vs=[.ref p,.str d.name,.int d.start,.int d.fin,.int d.off,.int d.near,.int d.least]∧d.k=k∧H p=some (.ins (t.cw d.k) dx [])∧Q .non (upd H p (.ins (t.cw d.k) dx (gp d)))
section
variable {P:Program} {w:World} {K:PySem.W.Frag} {mg:Str→Option Value} {base:Heap} {t:Adr}
theorem Uy (T:Txt w K mg t):Eb P w K mg base CX0 1 t.Kf t.Wg ["self","kind","name","start","end","off","near","least"] (Yu t):=by
 refine T.Xt.ok aq (fun vs H Q E h=>?_) (fun cdv A outer s H vs Q E hr h=>?_)
 ·obtain ⟨p,dx,d,rfl,_⟩:=h;rfl
 obtain ⟨p,dx,d,rfl,hk,hp,q⟩:=h
 refine ⟨_,(cb (Bf (pv 0) (pv 1) rfl)
   (cb (Bf (pv 0) (pv 2) rfl)
   (cb (Bf (pv 0) (pv 3) rfl)
   (cb (Bf (pv 0) (pv 4) rfl)
   (cb (Bf (pv 0) (pv 5) rfl)
   (cb (Bf (pv 0) (pv 6) rfl)
   (gb (Bf (pv 0) (pv 7) rfl)))))))),?_⟩
 (walk_at "RD")
 have na:∀ {f:Str},f ∈ Js→Db K (t.cw d.k) f:=fun hf=>T.naw hf d.k
 refine ⟨_,_,_,hp,T.clw _,na (by decide +kernel),by decide,?_⟩
 refine ⟨_,_,_,db,T.clw _,na (by decide +kernel),Jn (n:=999) (by decide),?_⟩
 refine ⟨_,_,_,db,T.clw _,na (by decide +kernel),Jn (n:=999) (Jn (n:=998) (by decide)),?_⟩
 refine ⟨_,_,_,db,T.clw _,na (by decide +kernel),Jn (n:=999) (Jn (n:=998) (Jn (n:=997) (by decide))),?_⟩
 refine ⟨_,_,_,db,T.clw _,na (by decide +kernel),Jn (n:=999) (Jn (n:=998) (Jn (n:=997) (Jn (n:=996) (by decide)))),?_⟩
 refine ⟨_,_,_,db,T.clw _,na (by decide +kernel),Jn (n:=999) (Jn (n:=998) (Jn (n:=997) (Jn (n:=996) (Jn (n:=995) (by decide))))),?_⟩
 refine ⟨_,_,_,db,T.clw _,na (by decide +kernel),Jn (n:=999) (Jn (n:=998) (Jn (n:=997) (Jn (n:=996) (Jn (n:=995) (Jn (n:=994) (by decide)))))),?_⟩
 simp only [Ui]
 rw [show Qg (Str.ofString "kind") (V.str (me d.k)) ([]:List (Str × V))=[(Str.ofString "kind",V.str (me d.k))] from ad [] rfl (by decide +kernel),
  show Qg (Str.ofString "name") (V.str d.name) ([(Str.ofString "kind",V.str (me d.k))]:List (Str × V))=[(Str.ofString "kind",V.str (me d.k)),(Str.ofString "name",V.str d.name)] from ad [Str.ofString "kind"] rfl (by decide +kernel),
  show Qg (Str.ofString "start") (V.int d.start) ([(Str.ofString "kind",V.str (me d.k)),(Str.ofString "name",V.str d.name)]:List (Str × V))=[(Str.ofString "kind",V.str (me d.k)),(Str.ofString "name",V.str d.name),(Str.ofString "start",V.int d.start)] from ad [Str.ofString "kind",Str.ofString "name"] rfl (by decide +kernel),
  show Qg (Str.ofString "end") (V.int d.fin) ([(Str.ofString "kind",V.str (me d.k)),(Str.ofString "name",V.str d.name),(Str.ofString "start",V.int d.start)]:List (Str × V))=[(Str.ofString "kind",V.str (me d.k)),(Str.ofString "name",V.str d.name),(Str.ofString "start",V.int d.start),(Str.ofString "end",V.int d.fin)] from ad [Str.ofString "kind",Str.ofString "name",Str.ofString "start"] rfl (by decide +kernel),
  show Qg (Str.ofString "off") (V.int d.off) ([(Str.ofString "kind",V.str (me d.k)),(Str.ofString "name",V.str d.name),(Str.ofString "start",V.int d.start),(Str.ofString "end",V.int d.fin)]:List (Str × V))=[(Str.ofString "kind",V.str (me d.k)),(Str.ofString "name",V.str d.name),(Str.ofString "start",V.int d.start),(Str.ofString "end",V.int d.fin),(Str.ofString "off",V.int d.off)] from ad [Str.ofString "kind",Str.ofString "name",Str.ofString "start",Str.ofString "end"] rfl (by decide +kernel),
  show Qg (Str.ofString "near") (V.int d.near) ([(Str.ofString "kind",V.str (me d.k)),(Str.ofString "name",V.str d.name),(Str.ofString "start",V.int d.start),(Str.ofString "end",V.int d.fin),(Str.ofString "off",V.int d.off)]:List (Str × V))=[(Str.ofString "kind",V.str (me d.k)),(Str.ofString "name",V.str d.name),(Str.ofString "start",V.int d.start),(Str.ofString "end",V.int d.fin),(Str.ofString "off",V.int d.off),(Str.ofString "near",V.int d.near)] from ad [Str.ofString "kind",Str.ofString "name",Str.ofString "start",Str.ofString "end",Str.ofString "off"] rfl (by decide +kernel),
  show Qg (Str.ofString "least") (V.int d.least) ([(Str.ofString "kind",V.str (me d.k)),(Str.ofString "name",V.str d.name),(Str.ofString "start",V.int d.start),(Str.ofString "end",V.int d.fin),(Str.ofString "off",V.int d.off),(Str.ofString "near",V.int d.near)]:List (Str × V))=[(Str.ofString "kind",V.str (me d.k)),(Str.ofString "name",V.str d.name),(Str.ofString "start",V.int d.start),(Str.ofString "end",V.int d.fin),(Str.ofString "off",V.int d.off),(Str.ofString "near",V.int d.near),(Str.ofString "least",V.int d.least)] from ad [Str.ofString "kind",Str.ofString "name",Str.ofString "start",Str.ofString "end",Str.ofString "off",Str.ofString "near"] rfl (by decide +kernel)]
 exact q
theorem jK (T:Txt w K mg t):Eb P w K mg base CX0 2 t.lf t.Sg ["self","name","start","end","off","near","least"] (Kk t 0):=by
 have G_Way_init:Eb P w K mg base CX0 1 t.Kf t.Wg ["self","kind","name","start","end","off","near","least"] (Yu t):=Uy T
 refine T.Gm.ok An (fun vs H Q E h=>?_) (fun cdv A outer s H vs Q E hr h=>?_)
 ·obtain ⟨p,dx,d,rfl,_⟩:=h;rfl
 obtain ⟨p,dx,d,rfl,hk,hp,q⟩:=h
 refine ⟨_,(gb (lc (Ru rfl T.OL T.xo G_Way_init hr T.Vn .nil Cb (bb (pv 0) (bb xc (bb (pv 1) (bb (pv 2) (bb (pv 3) (bb (pv 4) (bb (pv 5) (bb (pv 6) fb))))))))))),?_⟩
 (walk_at "RD")
 exact ⟨p,dx,d,by rw [hk];rfl,by omega,hp,q⟩
theorem EG (T:Txt w K mg t):Eb P w K mg base CX0 2 t.Ue t.Uf ["self","name","start","end","off","near","least"] (Kk t 1):=by
 have G_Way_init:Eb P w K mg base CX0 1 t.Kf t.Wg ["self","kind","name","start","end","off","near","least"] (Yu t):=Uy T
 refine T.Nl.ok mm (fun vs H Q E h=>?_) (fun cdv A outer s H vs Q E hr h=>?_)
 ·obtain ⟨p,dx,d,rfl,_⟩:=h;rfl
 obtain ⟨p,dx,d,rfl,hk,hp,q⟩:=h
 refine ⟨_,(gb (lc (Ru rfl T.OL T.xo G_Way_init hr T.Vn .nil Cb (bb (pv 0) (bb xc (bb (pv 1) (bb (pv 2) (bb (pv 3) (bb (pv 4) (bb (pv 5) (bb (pv 6) fb))))))))))),?_⟩
 (walk_at "RD")
 exact ⟨p,dx,d,by rw [hk];rfl,by omega,hp,q⟩
theorem oG (T:Txt w K mg t):Eb P w K mg base CX0 2 t.Xe t.Tf ["self","name","start","end","off","near","least"] (Kk t 2):=by
 have G_Way_init:Eb P w K mg base CX0 1 t.Kf t.Wg ["self","kind","name","start","end","off","near","least"] (Yu t):=Uy T
 refine T.Ol.ok dm (fun vs H Q E h=>?_) (fun cdv A outer s H vs Q E hr h=>?_)
 ·obtain ⟨p,dx,d,rfl,_⟩:=h;rfl
 obtain ⟨p,dx,d,rfl,hk,hp,q⟩:=h
 refine ⟨_,(gb (lc (Ru rfl T.OL T.xo G_Way_init hr T.Vn .nil Cb (bb (pv 0) (bb xc (bb (pv 1) (bb (pv 2) (bb (pv 3) (bb (pv 4) (bb (pv 5) (bb (pv 6) fb))))))))))),?_⟩
 (walk_at "RD")
 exact ⟨p,dx,d,by rw [hk];rfl,by omega,hp,q⟩
end
noncomputable def zi (t:Adr) (C:Addr):Sp:=fun vs H Q _=>∃ p d,vs=[.ref p]∧Ke t H p d∧C=t.cw d.k∧Q (.int (yd d)) H
noncomputable def Sk (t:Adr) (C:Addr):Sp:=fun vs H Q _=>∃ p d,vs=[.ref p]∧Ke t H p d∧C=t.cw d.k∧Q (.int (af d)) H
section
variable {P:Program} {w:World} {K:PySem.W.Frag} {mg:Str→Option Value} {base:Heap} {t:Adr}
theorem Vp (T:Txt w K mg t):Eb P w K mg base CX0 1 t.eg t.Wh ["self"] (zi t (t.cw 0)):=by
 refine T.Bl.ok pq (fun vs H Q E h=>?_) (fun cdv A outer s H vs Q E hr h=>?_)
 ·obtain ⟨p,d,rfl,_⟩:=h;rfl
 obtain ⟨p,d,rfl,W,hC,q⟩:=h
 have hk:=(T.cw_inj (by decide) W.1 hC).symm
 refine ⟨_,(gb (Fb rb)),?_⟩
 rw [show yd d=1 by unfold yd;simp only [hk]] at q
 (walk_at "RD")
 exact q
theorem Xo (T:Txt w K mg t):Eb P w K mg base CX0 1 t.uf t.mh ["self"] (zi t (t.cw 1)):=by
 refine T.Xj.ok jp (fun vs H Q E h=>?_) (fun cdv A outer s H vs Q E hr h=>?_)
 ·obtain ⟨p,d,rfl,_⟩:=h;rfl
 obtain ⟨p,d,rfl,W,hC,q⟩:=h
 have hk:=(T.cw_inj (by decide) W.1 hC).symm
 refine ⟨_,(gb (Fb rb)),?_⟩
 rw [show yd d=0 by unfold yd;simp only [hk]] at q
 (walk_at "RD")
 exact q
theorem wp (T:Txt w K mg t):Eb P w K mg base CX0 1 t.xf t.Xg ["self"] (zi t (t.cw 2)):=by
 refine T.uk.ok up (fun vs H Q E h=>?_) (fun cdv A outer s H vs Q E hr h=>?_)
 ·obtain ⟨p,d,rfl,_⟩:=h;rfl
 obtain ⟨p,d,rfl,W,hC,q⟩:=h
 have hk:=(T.cw_inj (by decide) W.1 hC).symm
 refine ⟨_,(gb (Fb rb)),?_⟩
 rw [show yd d=2 by unfold yd;simp only [hk]] at q
 (walk_at "RD")
 exact q
theorem zC (T:Txt w K mg t):tH P w K mg base CX0 1 (isW t) "ready" ["self"] (zi t):=by
 refine ⟨fun C hC=>?_⟩
 obtain ⟨k,hk,rfl⟩:=hC
 match k,hk with
 | 0,_=>exact ⟨_,_,T.Vq,T.Zs,Vp T,T.Fs⟩
 | 1,_=>exact ⟨_,_,T.Bo,T.Gr,Xo T,T.Xq⟩
 | 2,_=>exact ⟨_,_,T.Zn,T.Oq,wp T,T.Lr⟩
theorem Ys (T:Txt w K mg t):Eb P w K mg base CX0 1 t.Pg t.qj ["self"] (Sk t (t.cw 0)):=by
 refine T.rn.ok Cs (fun vs H Q E h=>?_) (fun cdv A outer s H vs Q E hr h=>?_)
 ·obtain ⟨p,d,rfl,_⟩:=h;rfl
 obtain ⟨p,d,rfl,W,hC,q⟩:=h
 have hk:=(T.cw_inj (by decide) W.1 hC).symm
 refine ⟨_,(gb (Fb rb)),?_⟩
 rw [show af d=2 by unfold af;simp only [hk]] at q
 (walk_at "RD")
 exact q
theorem Mq (T:Txt w K mg t):Eb P w K mg base CX0 1 t.Qf t.ki ["self"] (Sk t (t.cw 1)):=by
 refine T.Rl.ok ar (fun vs H Q E h=>?_) (fun cdv A outer s H vs Q E hr h=>?_)
 ·obtain ⟨p,d,rfl,_⟩:=h;rfl
 obtain ⟨p,d,rfl,W,hC,q⟩:=h
 have hk:=(T.cw_inj (by decide) W.1 hC).symm
 refine ⟨_,(gb (Fb (Tc (pv 0) rfl))),?_⟩
 rw [show af d=d.off by unfold af;simp only [hk]] at q
 (walk_at "RD")
 exact ⟨_,W.f_off T,q⟩
theorem Pr (T:Txt w K mg t):Eb P w K mg base CX0 1 t.Sf t.mi ["self"] (Sk t (t.cw 2)):=by
 refine T.Il.ok Zp (fun vs H Q E h=>?_) (fun cdv A outer s H vs Q E hr h=>?_)
 ·obtain ⟨p,d,rfl,_⟩:=h;rfl
 obtain ⟨p,d,rfl,W,hC,q⟩:=h
 have hk:=(T.cw_inj (by decide) W.1 hC).symm
 refine ⟨_,(gb (Fb rb)),?_⟩
 rw [show af d=1 by unfold af;simp only [hk]] at q
 (walk_at "RD")
 exact q
theorem aJ (T:Txt w K mg t):tH P w K mg base CX0 1 (isW t) "fade" ["self"] (Sk t):=by
 refine ⟨fun C hC=>?_⟩
 obtain ⟨k,hk,rfl⟩:=hC
 match k,hk with
 | 0,_=>exact ⟨_,_,T.Vq,T.av,Ys T,T.wu⟩
 | 1,_=>exact ⟨_,_,T.Bo,T.Os,Mq T,T.ss⟩
 | 2,_=>exact ⟨_,_,T.Zn,T.Tr,Pr T,T.ft⟩
end
noncomputable def jl (c:Nat):List (List Nat)→List Nat
 | []=>[]
 | [a]=>a
 | a :: b :: r=>a ++ c :: jl c (b :: r)
theorem iD {c:Nat}:∀ {a b X Y:List Nat},c ∉ a→c ∉ b→a ++ c :: X=b ++ c :: Y→a=b∧X=Y
 | [],[],X,Y,_,_,h=>⟨rfl,(List.cons.inj h).2⟩
 | [],d :: b,X,Y,_,hb,h=>absurd (List.cons.inj h).1 (fun z=>hb (by simp [← z]))
 | d :: a,[],X,Y,ha,_,h=>absurd (List.cons.inj h).1 (fun z=>ha (by simp [z]))
 | d :: a,e :: b,X,Y,ha,hb,h=>by
  obtain ⟨h1,h2⟩:=List.cons.inj h
  obtain ⟨e1,e2⟩:=iD (fun z=>ha (List.mem_cons_of_mem _ z)) (fun z=>hb (List.mem_cons_of_mem _ z)) h2
  exact ⟨by rw [h1,e1],e2⟩
theorem fJ {c:Nat}:∀ {ps qs:List (List Nat)},(∀ p ∈ ps,c ∉ p)→(∀ q ∈ qs,c ∉ q)→ps ≠ []→qs ≠ []→jl c ps=jl c qs→ps=qs
 | [a],[b],_,_,_,_,h=>by rw [show a=b from h]
 | [a],b :: b' :: r,ha,_,_,_,h=>absurd (show c ∈ a by rw [show a=b ++ c :: jl c (b' :: r) from h];simp) (ha a (by simp))
 | a :: a' :: r,[b],_,hb,_,_,h=>absurd (show c ∈ b by rw [show b=a ++ c :: jl c (a' :: r) from h.symm];simp) (hb b (by simp))
 | a :: a' :: r,b :: b' :: s,ha,hb,_,_,h=>by
  obtain ⟨e1,e2⟩:=iD (ha a (by simp)) (hb b (by simp)) (show a ++ c :: jl c (a' :: r)=b ++ c :: jl c (b' :: s) from h)
  rw [e1,fJ (fun p hp=>ha p (List.mem_cons_of_mem _ hp)) (fun q hq=>hb q (List.mem_cons_of_mem _ hq)) (by simp) (by simp) e2]
 | [],_,_,_,h,_,_=>absurd rfl h
 | _ :: _,[],_,_,_,h,_=>absurd rfl h
theorem pC {c d:Nat}:∀ {ps:List (List Nat)},d ∈ jl c ps→d=c∨∃ p ∈ ps,d ∈ p
 | [],h=>nomatch h
 | [a],h=>.inr ⟨a,by simp,h⟩
 | a :: b :: r,h=>by
  rcases List.mem_append.mp (show d ∈ a ++ c :: jl c (b :: r) from h) with h | h
  ·exact .inr ⟨a,by simp,h⟩
  ·rcases List.mem_cons.mp h with h | h
   ·exact .inl h
   ·rcases pC h with h | ⟨p,hp,h⟩
    ·exact .inl h
    ·exact .inr ⟨p,List.mem_cons_of_mem _ hp,h⟩
theorem Yg (c:Nat):∀ ys:List Str,(Str.join ⟨#[c]⟩ ys).cps.toList=jl c (ys.map (·.cps.toList))
 | []=>rfl
 | [a]=>rfl
 | a :: b :: r=>by
  show (a ++ ⟨#[c]⟩ ++ Str.join ⟨#[c]⟩ (b :: r)).cps.toList=_
  rw [Str.cps_append,Array.toList_append,Str.cps_append,Array.toList_append,Yg c (b :: r)]
  simp [jl]
theorem Er {x y:Str} (h:x.cps.toList=y.cps.toList):x=y:=by
 cases x;cases y
 exact congrArg Str.mk (Array.toList_inj.mp h)
theorem Nk {c:Nat} {ys:List Str} (hn:ys ≠ []) (hf:∀ y ∈ ys,c ∉ y.cps.toList):Txt.split (Str.join ⟨#[c]⟩ ys) ⟨#[c]⟩=ys:=by
 have e:=congrArg (·.cps.toList) (StrLaws.join_split (Str.join ⟨#[c]⟩ ys) ⟨#[c]⟩)
 simp only [Yg] at e
 have e2:=fJ (c:=c) (ps:=(Txt.split (Str.join ⟨#[c]⟩ ys) ⟨#[c]⟩).map (·.cps.toList)) (qs:=ys.map (·.cps.toList)) (fun p hp=>by
  obtain ⟨y,hy,rfl⟩:=List.mem_map.mp hp
  exact StrLaws.split_free _ c y hy) (fun p hp=>by
  obtain ⟨y,hy,rfl⟩:=List.mem_map.mp hp
  exact hf y hy) (by simp [KG]) (by simpa using hn) e
 exact (List.map_inj_right fun x y h=>Er h).mp e2
noncomputable abbrev num (v:Int):Str:=Str.ofString (toString v)
theorem lK:∀ n,n < 1000→(decide (1 ≤ ((Nat.toDigits 10 n).map Char.toNat).length) && decide (((Nat.toDigits 10 n).map Char.toNat).length ≤ 3) && ((Nat.toDigits 10 n).map Char.toNat).all qp && (decide (((Nat.toDigits 10 n).map Char.toNat).length ≤ 1) || decide (((Nat.toDigits 10 n).map Char.toNat).headD 0 ≠ 48)) &&
  decide (NumText.digitsVal ((Nat.toDigits 10 n).map Char.toNat)=n))=true:=by decide +kernel
theorem dz {v:Int} (h0:0 ≤ v) (h1:v < 1000):okB (num v)=true∧val (num v)=v:=by
 have e:=PySem.W.KIN.signs_num v.toNat
 rw [Int.toNat_of_nonneg h0] at e
 have a:=lK v.toNat (by omega)
 rw [← e,Bool.and_eq_true,decide_eq_true_eq] at a
 exact ⟨a.1,by show ((NumText.digitsVal (cs (num v)):Nat):Int)=v;rw [a.2];omega⟩
theorem zm {v lo hi:Int} (h0:0 ≤ v) (h1:v < 1000) (hl:lo ≤ v) (hh:v ≤ hi):Aq (num v) lo hi=.int v:=by
 obtain ⟨a,b⟩:=dz h0 h1
 unfold Aq
 rw [a,b,decide_eq_false (by omega:¬ v < lo),decide_eq_false (by omega:¬ hi < v)];rfl
theorem TL {u v:Int} (h0:0 ≤ u) (h1:u < 1000) (h2:0 ≤ v) (h3:v < 1000) (e:num u=num v):u=v:=by
 rw [← (dz h0 h1).2,e,(dz h2 h3).2]
theorem wz {v:Int} (h0:0 ≤ v) (h1:v < 1000):∀ c ∈ (num v).cps.toList,48 ≤ c∧c ≤ 57:=fun c hc=>by
 have:=List.all_eq_true.mp (BO (dz h0 h1).1).2 c hc
 simpa [qp] using this
theorem qJ:gh.cps.toList=[97,98,99,100,101,102,103,104,105,106,107,108,109,110,111,112,113,114,115,116,117,118,119,120,121,122]:=by decide +kernel
theorem yO:∀ c ∈ gh.cps.toList,97 ≤ c∧c ≤ 122:=by decide +kernel
theorem WM:∀ k,k < 26→97 + k ∈ gh.cps.toList:=by decide +kernel
theorem og {x:Str} (h:made x gh 8=true):(1 ≤ x.length∧x.length ≤ 8)∧∀ c ∈ x.cps.toList,97 ≤ c∧c ≤ 122:=by
 unfold made at h
 split at h
 ·cases h
 ·rename_i h1
  split at h
  ·cases h
  ·rename_i h2
   have h3:¬ x.length=0:=fun z=>h1 (lP.mpr z)
   refine ⟨by omega,fun c hc=>?_⟩
   have:=List.all_eq_true.mp h c hc
   rw [wy] at this
   exact yO c (of_decide_eq_true this)
theorem yw {x:Str} (h0:1 ≤ x.length) (h1:x.length ≤ 8) (h:∀ c ∈ x.cps.toList,97 ≤ c∧c ≤ 122):made x gh 8=true:=by
 unfold made
 rw [if_neg (fun z=>by have:=lP.mp z;omega),if_neg (by omega)]
 refine List.all_eq_true.mpr fun c hc=>?_
 have:=h c hc
 rw [wy]
 have e:=WM (c - 97) (by omega)
 rw [show 97 + (c - 97)=c by omega] at e
 exact decide_eq_true e
structure WOk (n:Int) (d:WD):Prop where
 k:d.k < 3
 nm:made d.name gh 8=true
 st:0 ≤ d.start∧d.start < n
 fi:0 ≤ d.fin∧d.fin < n
 ne:d.start ≠ d.fin
 of:0 ≤ d.off∧d.off ≤ 30
 nr:0 ≤ d.near∧d.near ≤ 30
 le:1 ≤ d.least∧d.least ≤ 60
structure COk (n:Int) (ds:List WD):Prop where
 nn:2 ≤ n∧n ≤ 99
 ln:1 ≤ ds.length∧ds.length ≤ 12
 al:∀ d ∈ ds,WOk n d
 nd:(ds.map (·.name)).Nodup
noncomputable def Oj (d:WD):List Str:=[me d.k,d.name,num d.start,num d.fin,num d.off,num d.near,num d.least]
noncomputable def ii (n:Int) (ds:List WD):List (List Str):=[Str.ofString "ring",num n] :: ds.map Oj
noncomputable def lv (n:Int) (ds:List WD):Str:=Str.join nl ((ii n ds).map (Str.join bk))
noncomputable def mn (x:Str):Prop:=x.length ≤ 8∧(32:Nat) ∉ x.cps.toList∧(10:Nat) ∉ x.cps.toList
theorem Dt (k:Nat):mn (me k):=by
 match k with
 | 0=>exact ⟨by decide +kernel,by decide +kernel,by decide +kernel⟩
 | 1=>exact ⟨by decide +kernel,by decide +kernel,by decide +kernel⟩
 | _ + 2=>exact ⟨show (Str.ofString "tram").length ≤ 8 by decide +kernel,show (32:Nat) ∉ (Str.ofString "tram").cps.toList by decide +kernel,show (10:Nat) ∉ (Str.ofString "tram").cps.toList by decide +kernel⟩
theorem Cc {v:Int} (h0:0 ≤ v) (h1:v < 1000):mn (num v):=
 ⟨Nat.le_trans (vL h0 (by omega)) (by decide),fun z=>by have:=wz h0 h1 _ z;omega,fun z=>by have:=wz h0 h1 _ z;omega⟩
theorem Sn {x:Str} (h:made x gh 8=true):mn x:=
 ⟨(og h).1.2,fun z=>by have:=(og h).2 _ z;omega,fun z=>by have:=(og h).2 _ z;omega⟩
theorem WOk.plain {n:Int} {d:WD} (h:WOk n d) (hn:n ≤ 99):∀ x ∈ Oj d,mn x:=fun x hx=>by
 have h1:=h.st;have h2:=h.fi;have h3:=h.of;have h4:=h.nr;have h5:=h.le
 simp only [Oj,List.mem_cons,List.not_mem_nil,or_false] at hx
 rcases hx with rfl | rfl | rfl | rfl | rfl | rfl | rfl
 ·exact Dt _
 ·exact Sn h.nm
 ·exact Cc (by omega) (by omega)
 ·exact Cc (by omega) (by omega)
 ·exact Cc (by omega) (by omega)
 ·exact Cc (by omega) (by omega)
 ·exact Cc (by omega) (by omega)
theorem COk.plain {n:Int} {ds:List WD} (h:COk n ds):∀ r ∈ ii n ds,∀ x ∈ r,mn x:=fun r hr x hx=>by
 have hn:=h.nn
 rcases List.mem_cons.mp hr with rfl | hr
 ·simp only [List.mem_cons,List.not_mem_nil,or_false] at hx
  rcases hx with rfl | rfl
  ·exact ⟨by decide +kernel,by decide +kernel,by decide +kernel⟩
  ·exact Cc (by omega) (by omega)
 ·obtain ⟨d,hd,rfl⟩:=List.mem_map.mp hr
  exact (h.al d hd).plain hn.2 x hx
theorem dC {rs:List (List Str)} (h0:rs ≠ []) (h1:∀ r ∈ rs,r ≠ []) (h2:∀ r ∈ rs,∀ x ∈ r,mn x):Fg (Str.join nl (rs.map (Str.join bk)))=rs:=by
 unfold Fg
 rw [SH,EB]
 rw [Nk (by simpa using h0) (fun y hy=>by
  obtain ⟨r,hr,rfl⟩:=List.mem_map.mp hy
  rw [Yg]
  intro z
  rcases pC z with z | ⟨p,hp,z⟩
  ·cases z
  ·obtain ⟨x,hx,rfl⟩:=List.mem_map.mp hp
   exact (h2 r hr x hx).2.2 z)]
 rw [List.map_map]
 have:∀ r ∈ rs,((fun r=>Txt.split r ⟨#[32]⟩) ∘ Str.join ⟨#[32]⟩) r=r:=fun r hr=>Nk (h1 r hr) fun x hx=>(h2 r hr x hx).2.1
 exact (List.map_congr_left this).trans (List.map_id rs)
theorem CA {n:Int} {ds:List WD} (h:COk n ds):Fg (lv n ds)=ii n ds:=dC (by simp [ii]) (fun r hr=>by
 rcases List.mem_cons.mp hr with rfl | hr
 ·simp
 ·obtain ⟨d,hd,rfl⟩:=List.mem_map.mp hr
  simp [Oj]) h.plain
theorem gj (sep:Str) (B:Nat):∀ ys:List Str,(∀ y ∈ ys,y.length ≤ B)→(Str.join sep ys).length ≤ ys.length * (B + sep.length)
 | [],_=>by show (Str.empty).length ≤ _;exact Nat.zero_le _
 | [a],h=>by
  have:=h a (by simp)
  show a.length ≤ _
  simp only [List.length_cons,List.length_nil];omega
 | a :: b :: r,h=>by
  have h1:=h a (by simp)
  have h2:=gj sep B (b :: r) fun y hy=>h y (List.mem_cons_of_mem _ hy)
  show (a ++ sep ++ Str.join sep (b :: r)).length ≤ _
  rw [Ff,Ff,List.length_cons,Nat.succ_mul]
  omega
theorem tE {n:Int} {ds:List WD} (h:COk n ds):(lv n ds).length ≤ 1000:=by
 have h1:∀ y ∈ (ii n ds).map (Str.join bk),y.length ≤ 63:=fun y hy=>by
  obtain ⟨r,hr,rfl⟩:=List.mem_map.mp hy
  have:=gj bk 8 r fun x hx=>(h.plain r hr x hx).1
  rw [sr] at this
  have hl:r.length ≤ 7:=by
   rcases List.mem_cons.mp hr with rfl | hr
   ·simp
   ·obtain ⟨d,hd,rfl⟩:=List.mem_map.mp hr
    simp [Oj]
  omega
 have h2:=gj nl 63 _ h1
 rw [Wt] at h2
 have h3:((ii n ds).map (Str.join bk)).length ≤ 13:=by
  have:=h.ln
  simp [ii];omega
 unfold lv
 omega
end My
namespace My
open PySem L2
noncomputable abbrev Ur:List Str:=[Str.ofString "row",Str.ofString "told",Str.ofString "place"]
noncomputable def rdF (row:Int) (ta:Addr) (pl:Int):List (Str × V):=[(Str.ofString "row",.int row),(Str.ofString "told",.ref ta),(Str.ofString "place",.int pl)]
theorem Ch (row:Int) (ta:Addr) (pl:Int):(rdF row ta pl).map (·.1)=Ur:=rfl
theorem TD (row:Int) (ta:Addr) (pl v:Int):Qg (Str.ofString "place") (.int v) (rdF row ta pl)=rdF row ta v:=by
 unfold rdF
 simp only [Qg]
 rw [if_neg (by decide +kernel),if_neg (by decide +kernel)];rfl
noncomputable def Ae (t:Adr) (H:Hp) (p:Addr) (row:Int) (ws:List Str) (pl:Nat):Prop:=
 (ws.length ≤ 1000∧∀ x ∈ ws,x.length ≤ 1000)∧∃ dx ta,H p=some (.ins t.Bb dx (rdF row ta pl))∧H ta=some (.lst (Ib ws))
noncomputable def Jc (p:Addr) (H H':Hp):Prop:=∀ b u,b ≠ p→H b=some u→H' b=some u
theorem Jc.trans {p:Addr} {H H1 H2:Hp} (a:Jc p H H1) (b:Jc p H1 H2):Jc p H H2:=fun c u n e=>b c u n (a c u n e)
theorem Jc.of {p:Addr} {H H1:Hp} (a:Xb H H1):Jc p H H1:=fun c u _ e=>a c u e
theorem Jc.put {p:Addr} {H:Hp} {o:HO}:Jc p H (upd H p o):=fun c u n e=>by rw [lb n];exact e
theorem Xm (ws:List Str):(Ib ws).length=ws.length:=by unfold Ib;rw [List.length_map]
theorem gH {ws:List Str} {i:Nat} {x:Str} (h:ws[i]? = some x):(Ib ws)[i]? = some (.str x):=by unfold Ib;rw [List.getElem?_map,h];rfl
theorem Rn (ws:List Str):(Ib ws).all tm=true:=by unfold Ib;simp [tm]
theorem Mu (x:Str) (xs:List Str):inV (.str x) (Ib xs)=decide (x ∈ xs):=by
 unfold inV Ib
 rw [List.any_map,Bool.eq_iff_iff]
 simp only [List.any_eq_true,Function.comp,eqV,beq_iff_eq,decide_eq_true_eq]
 constructor
 ·rintro ⟨y,hy,rfl⟩;exact hy
 ·intro h;exact ⟨x,h,rfl⟩
section
variable {w:World} {K:PySem.W.Frag} {mg:Str→Option Value} {t:Adr} {H H':Hp} {p:Addr} {row:Int} {ws:List Str} {pl:Nat}
theorem Ae.same (h:Ae t H p row ws pl) (s:Xb H H'):Ae t H' p row ws pl:=by
 obtain ⟨hz,dx,ta,e1,e2⟩:=h
 exact ⟨hz,dx,ta,s _ _ e1,s _ _ e2⟩
theorem Ae.sameX {q:Addr} (h:Ae t H p row ws pl) (s:Jc q H H') (n:p ≠ q) (k:∃ C dx fs,H q=some (.ins C dx fs)):Ae t H' p row ws pl:=by
 obtain ⟨hz,dx,ta,e1,e2⟩:=h
 obtain ⟨C,dq,fs,e3⟩:=k
 exact ⟨hz,dx,ta,s _ _ n e1,s _ _ (Fe e2 e3 (by intro z;cases z)) e2⟩
theorem Ae.ins (h:Ae t H p row ws pl):∃ C dx fs,H p=some (.ins C dx fs):=by
 obtain ⟨hz,dx,ta,e1,e2⟩:=h
 exact ⟨_,_,_,e1⟩
theorem Ae.no {m:Str} (row:Int) (ta:Addr) (pl:Int) (h:Ur.contains m=false):(rdF row ta pl).lookup m=none:=Fm Ur (Ch ..) h
theorem Lp (T:Txt w K mg t) {dx ta:Addr} {pl:Int} (e:H p=some (.ins t.Bb dx (rdF row ta pl))):xk K H p (Str.ofString "place") (.int pl):=
 ⟨_,dx,_,e,T.wb,T.ze,Gc Ur 2 (Ch ..) (by decide +kernel) rfl⟩
theorem ly (T:Txt w K mg t) {dx ta:Addr} {pl:Int} (e:H p=some (.ins t.Bb dx (rdF row ta pl))):xk K H p (Str.ofString "told") (.ref ta):=
 ⟨_,dx,_,e,T.wb,T.si,Gc Ur 1 (Ch ..) (by decide +kernel) rfl⟩
end
noncomputable def SI (t:Adr):Sp:=fun vs H Q _=>∃ (p dx ta:Addr) (row:Int),vs=[.ref p,.int row,.ref ta]∧H p=some (.ins t.Bb dx [])∧Q .non (upd H p (.ins t.Bb dx (rdF row ta 0)))
noncomputable def aj (t:Adr):Sp:=fun vs H Q _=>∃ p row ws pl,vs=[.ref p]∧Ae t H p row ws pl∧pl ≤ ws.length∧Q (.str (ws.getD pl (Str.ofString ""))) H
noncomputable def xx (t:Adr):Sp:=fun vs H Q _=>∃ p row ws pl,vs=[.ref p]∧Ae t H p row ws pl∧Q (.bl (decide (pl < ws.length))) H
noncomputable def oM (t:Adr) (H:Hp) (p:Addr) (row:Int) (ws:List Str) (pl:Nat) (R:Hp→Prop):Prop:=∀ H',Jc p H H'→(NoT H→NoT H')→Ae t H' p row ws pl→R H'
noncomputable def vv (t:Adr):Sp:=fun vs H Q _=>∃ p row ws pl,vs=[.ref p,.bl true]∧Ae t H p row ws pl∧oM t H p row ws (pl + 1) (Q .non)
noncomputable def Eu (K:PySem.W.Frag) (t:Adr):Sp:=fun vs H Q _=>∃ p row ws pl x c xs,vs=[.ref p,.ref c]∧Ae t H p row ws pl∧ws[pl]? = some x∧SqL K H c (Ib xs)∧x ∈ xs∧oM t H p row ws (pl + 1) (Q (.str x))
noncomputable def uu (t:Adr):Sp:=fun vs H Q _=>∃ p row ws pl x lo hi v,vs=[.ref p,.int lo,.int hi]∧Ae t H p row ws pl∧ws[pl]? = some x∧Aq x lo hi=.int v∧NoT H∧oM t H p row ws (pl + 1) (Q (.int v))
noncomputable def AD (t:Adr):Sp:=fun vs H Q _=>∃ p row ws pl,vs=[.ref p]∧Ae t H p row ws pl∧pl=ws.length∧Q .non H
section
variable {P:Program} {w:World} {K:PySem.W.Frag} {mg:Str→Option Value} {base:Heap} {t:Adr}
theorem aN (T:Txt w K mg t):Eb P w K mg base CX0 1 t.ue t.Ye ["self","row","told"] (SI t):=by
 refine T.Ej.ok Lj (fun vs H Q E h=>?_) (fun cdv A outer s H vs Q E hr h=>?_)
 ·obtain ⟨p,dx,ta,row,rfl,_⟩:=h;rfl
 obtain ⟨p,dx,ta,row,rfl,hp,q⟩:=h
 refine ⟨_,(cb (Bf (pv 0) (pv 1) rfl)
   (cb (Bf (pv 0) (pv 2) rfl)
   (gb (Bf (pv 0) rb rfl)))),?_⟩
 (walk_at "RD")
 refine ⟨_,_,_,hp,T.wb,T.Ij,by decide,?_⟩
 refine ⟨_,_,_,db,T.wb,T.si,Jn (n:=999) (by decide),?_⟩
 refine ⟨_,_,_,db,T.wb,T.ze,Jn (n:=999) (Jn (n:=998) (by decide)),?_⟩
 simp only [Ui]
 rw [show Qg (Str.ofString "row") (V.int row) ([]:List (Str × V))=[(Str.ofString "row",V.int row)] from ad [] rfl (by decide +kernel),
  show Qg (Str.ofString "told") (V.ref ta) ([(Str.ofString "row",V.int row)]:List (Str × V))=[(Str.ofString "row",V.int row),(Str.ofString "told",V.ref ta)] from ad [Str.ofString "row"] rfl (by decide +kernel),
  show Qg (Str.ofString "place") (V.int 0) ([(Str.ofString "row",V.int row),(Str.ofString "told",V.ref ta)]:List (Str × V))=[(Str.ofString "row",V.int row),(Str.ofString "told",V.ref ta),(Str.ofString "place",V.int 0)] from ad [Str.ofString "row",Str.ofString "told"] rfl (by decide +kernel)]
 exact q
theorem Qk (T:Txt w K mg t):Eb P w K mg base CX0 1 t.bc t.wc ["self"] (aj t):=by
 refine T.Ji.ok Im (fun vs H Q E h=>?_) (fun cdv A outer s H vs Q E hr h=>?_)
 ·obtain ⟨p,row,ws,pl,rfl,_⟩:=h;rfl
 obtain ⟨p,row,ws,pl,rfl,⟨hz,dx,ta,e1,e2⟩,hle,q⟩:=h
 refine ⟨_,(cb (ge (Sb bi (Tc (pv 0) rfl) (Hc Pc rfl T.Mn Dd (bb (Tc (pv 0) rfl) fb)) (uc _)) (gb (Fb xc)) Zb)
   (gb (Fb (Nc Hd (Tc (pv 0) rfl) (Tc (pv 0) rfl) (fun _ _=>rfl))))),?_⟩
 (walk_at "RD")
 refine Rb (decide ((pl:Int)=(ws.length:Int))) (fun Q hQ=>?_) (fun c=>?_) (fun c=>?_)
 ·(walk_at "RD")
  refine ⟨_,Lp T e1,_,ly T e1,_,rfl,_,.inl (SqL.of e2),rfl,?_⟩
  rw [Xm]
  (walk_at "RD")
  exact hQ
 ·(walk_at "RD")
  have c':pl=ws.length:=by have:=of_decide_eq_true c;omega
  rw [show ws.getD pl (Str.ofString "")=Str.ofString "" by rw [List.getD_eq_getElem?_getD,List.getElem?_eq_none (by omega)];rfl] at q
  exact q
 ·(walk_at "RD")
  have c':pl < ws.length:=by have:=of_decide_eq_false c;omega
  have hx:ws[pl]? = some ws[pl]:=List.getElem?_eq_getElem c'
  rw [List.getD_eq_getElem?_getD,hx] at q
  exact ⟨_,ly T e1,_,Lp T e1,_,rfl,_,_,rfl,SqL.of e2,_,Ic (gH hx),q⟩
theorem aC (T:Txt w K mg t):Eb P w K mg base CX0 1 t.Mc t.Ad ["self"] (xx t):=by
 refine T.Jg.ok fk (fun vs H Q E h=>?_) (fun cdv A outer s H vs Q E hr h=>?_)
 ·obtain ⟨p,row,ws,pl,rfl,_⟩:=h;rfl
 obtain ⟨p,row,ws,pl,rfl,⟨hz,dx,ta,e1,e2⟩,q⟩:=h
 refine ⟨_,(gb (Fb (Te xv (Tc (pv 0) rfl) (Hc Pc rfl T.Mn Dd (bb (Tc (pv 0) rfl) fb)) (uc _)))),?_⟩
 (walk_at "RD")
 have e:decide (pl < ws.length)=decide ((pl:Int) < (ws.length:Int)):=by rw [Bool.eq_iff_iff];simp
 rw [e] at q
 refine ⟨_,Lp T e1,_,ly T e1,_,rfl,_,.inl (SqL.of e2),?_⟩
 rw [Xm]
 exact ⟨_,rfl,q⟩
theorem xy (T:Txt w K mg t):Eb P w K mg base CX0 1 t.nc t.Dc ["self","good"] (vv t):=by
 refine T.Bg.ok Ki (fun vs H Q E h=>?_) (fun cdv A outer s H vs Q E hr h=>?_)
 ·obtain ⟨p,row,ws,pl,rfl,_⟩:=h;rfl
 obtain ⟨p,row,ws,pl,rfl,⟨hz,dx,ta,e1,e2⟩,q⟩:=h
 refine ⟨_,(cb (ge (Zm (Ef (pv 1))) (gb Lk) Zb)
   (gb (Cv (pv 0) rb yJ))),?_⟩
 (walk_at "RD")
 refine Rb false (fun Q hQ=>?_) (fun hc=>nomatch hc) (fun _=>?_)
 ·(walk_at "RD")
  exact hQ
 ·(walk_at "RD")
  refine ⟨_,_,_,e1,T.wb,T.ze,_,Gc Ur 2 (Ch ..) (by decide +kernel) rfl,_,rfl,_,_,e1,by rw [← List.length_map (f:=(·.1)),Ch];decide,?_⟩
  rw [TD]
  exact q _ Jc.put (fun n=>n.upd) ⟨hz,dx,ta,db,by rw [lb (Fe e2 e1 (by intro z;cases z))];exact e2⟩
theorem oz (T:Txt w K mg t):Eb P w K mg base CX0 2 t.kc t.zc ["self","choices"] (Eu K t):=by
 have G_RowReader_ahead:Eb P w K mg base CX0 1 t.bc t.wc ["self"] (aj t):=Qk T
 have G_RowReader_take:Eb P w K mg base CX0 1 t.nc t.Dc ["self","good"] (vv t):=xy T
 refine T.gf.ok ke (fun vs H Q E h=>?_) (fun cdv A outer s H vs Q E hr h=>?_)
 ·obtain ⟨p,row,ws,pl,x,c,xs,rfl,_⟩:=h;rfl
 obtain ⟨p,row,ws,pl,x,c,xs,rfl,R,hx,hc,hm,q⟩:=h
 refine ⟨_,(cb (Ab (i:=2) ke.nd rfl (Or.inl rfl) (jd (pv 0) T.wb T.Fd G_RowReader_ahead hr T.Ed .nil Cb))
   (cb (lc (Vc (pv 0) T.wb T.oe G_RowReader_take hr T.qe .nil Cb (bb (Te Li (pv 2) (pv 1) (by with_unfolding_all rfl)) fb)))
   (gb (Fb (pv 2))))),?_⟩
 have hlt:pl < ws.length:=(List.getElem?_eq_some_iff.mp hx).1
 have hg:ws.getD pl (Str.ofString "")=x:=by rw [List.getD_eq_getElem?_getD,hx];rfl
 obtain ⟨_,dx,ta,e1,e2⟩:=id R
 (walk_at "RD")
 refine ⟨_,_,e1,Ae.no _ _ _ (by decide +kernel),⟨p,row,ws,pl,rfl,R,by omega,?_⟩⟩
 rw [hg]
 (walk_at "RD")
 refine ⟨_,_,e1,Ae.no _ _ _ (by decide +kernel),_,.inl hc,rfl,Rn xs,?_⟩
 rw [Mu,decide_eq_true hm]
 refine ⟨p,row,ws,pl,rfl,R,fun H' s1 s2 s3=>?_⟩
 (walk_at "RD")
 exact q H' s1 s2 s3
theorem Ux (T:Txt w K mg t):Eb P w K mg base CX0 4 t.Kb t.Yb ["self","low","high"] (uu t):=by
 have G_RowReader_ahead:Eb P w K mg base CX0 3 t.bc t.wc ["self"] (aj t):=(Qk T).mono (by decide)
 have G_RowReader_take:Eb P w K mg base CX0 3 t.nc t.Dc ["self","good"] (vv t):=(xy T).mono (by decide)
 have G_figured:Eb P w K mg base CX0 3 t.rk t.Dk ["word","low","high"] ME:=II T
 refine T.Ze.ok Ud (fun vs H Q E h=>?_) (fun cdv A outer s H vs Q E hr h=>?_)
 ·obtain ⟨p,row,ws,pl,x,lo,hi,v,rfl,_⟩:=h;rfl
 obtain ⟨p,row,ws,pl,x,lo,hi,v,rfl,R,hx,hv,nt,q⟩:=h
 refine ⟨_,(cb (Ab (i:=3) Ud.nd rfl (Or.inl rfl) (yb G_figured hr rfl T.Gv T.Wm.kp T.Gw .nil Cb (bb (jd (pv 0) T.wb T.Fd G_RowReader_ahead hr T.Ed .nil Cb) (bb (pv 1) (bb (pv 2) fb)))))
   (cb (lc (Vc (pv 0) T.wb T.oe G_RowReader_take hr T.qe .nil Cb (bb (Te jD (pv 3) Kz (uc _)) fb)))
   (gb (Fb (pv 3))))),?_⟩
 have hlt:pl < ws.length:=(List.getElem?_eq_some_iff.mp hx).1
 have hg:ws.getD pl (Str.ofString "")=x:=by rw [List.getD_eq_getElem?_getD,hx];rfl
 obtain ⟨hz,dx,ta,e1,e2⟩:=id R
 (walk_at "RD")
 refine ⟨_,_,e1,Ae.no _ _ _ (by decide +kernel),⟨p,row,ws,pl,rfl,R,by omega,?_⟩⟩
 rw [hg]
 (walk_at "RD")
 refine ⟨x,lo,hi,rfl,hz.2 x (List.mem_of_getElem? hx),nt,?_⟩
 rw [hv]
 (walk_at "RD")
 refine ⟨_,_,e1,Ae.no _ _ _ (by decide +kernel),?_⟩
 refine ⟨p,row,ws,pl,rfl,R,fun H' s1 s2 s3=>?_⟩
 (walk_at "RD")
 exact q H' s1 s2 s3
theorem WI (T:Txt w K mg t):Eb P w K mg base CX0 2 t.jc t.Ac ["self"] (AD t):=by
 have G_RowReader_has_more:Eb P w K mg base CX0 1 t.Mc t.Ad ["self"] (xx t):=aC T
 refine T.mf.ok nh (fun vs H Q E h=>?_) (fun cdv A outer s H vs Q E hr h=>?_)
 ·obtain ⟨p,row,ws,pl,rfl,_⟩:=h;rfl
 obtain ⟨p,row,ws,pl,rfl,R,hl,q⟩:=h
 obtain ⟨hz,dx,ta,e1,e2⟩:=id R
 refine ⟨_,(gb (ge (Ef (jd (pv 0) T.wb T.Lg G_RowReader_has_more hr T.Mg .nil Cb)) (gb Lk) Zb)),?_⟩
 (walk_at "RD")
 refine Rb false (fun Q hQ=>?_) (fun hc=>nomatch hc) (fun _=>?_)
 ·(walk_at "RD")
  refine ⟨_,_,e1,Ae.no _ _ _ (by decide +kernel),⟨p,row,ws,pl,rfl,R,?_⟩⟩
  rw [decide_eq_false (by omega)]
  exact ⟨_,rfl,hQ⟩
 ·(walk_at "RD")
  exact q
end
end My
namespace My
open PySem L2
noncomputable abbrev wd (ws:List Str) (k:Nat):Str:=ws.getD k (Str.ofString "")
theorem VO {ws:List Str} (h:∀ x ∈ ws,x.length ≤ 1000) (k:Nat):(wd ws k).length ≤ 1000:=by
 unfold wd
 rw [List.getD_eq_getElem?_getD]
 cases e:ws[k]? with
 | none=>exact Nat.le_trans (show (Str.ofString "").length ≤ 0 by decide +kernel) (Nat.zero_le _)
 | some x=>exact h x (List.mem_of_getElem? e)
theorem MH {ws:List Str} {k:Nat} (h:wd ws k ≠ Str.ofString ""):k < ws.length:=by
 refine Classical.byContradiction fun z=>h ?_
 unfold wd
 rw [List.getD_eq_getElem?_getD,List.getElem?_eq_none (by omega)];rfl
theorem Et (w:Str) (lo hi:Int):(∃ v,Aq w lo hi=.int v∧lo ≤ v∧v ≤ hi∧w ≠ Str.ofString "")∨Aq w lo hi=.non:=by
 unfold Aq
 split
 ·rename_i h
  rw [Bool.and_eq_true] at h
  refine .inl ⟨val w,rfl,?_,?_,fun z=>?_⟩
  ·have:=h.2;simp at this;omega
  ·have:=h.2;simp at this;omega
  ·have h1:=h.1
   rw [z] at h1
   exact absurd h1 (by decide +kernel)
 ·exact .inr rfl
theorem Zl {i:Int} (h:i.natAbs < 100000):i.natAbs.log2 < 1920:=by
 by_cases h0:i.natAbs=0
 ·rw [h0];decide
 ·exact (Nat.log2_lt h0).mpr (Nat.lt_trans h (by decide))
noncomputable def Rr (t:Adr) (i:Int) (k:Nat) (p:Addr) (H:Hp) (E:XK):Prop:=∀ dx H',Jc p H H'→(NoT H→NoT H')→H' dx=some (.ext (XD dx [(Str.ofString "row",.int i),(Str.ofString "word",.int k)]))→E (.ref t.Gb) (some dx) H'
theorem Rr.step {t:Adr} {i:Int} {k:Nat} {p:Addr} {H H1:Hp} {E:XK} (h:Rr t i k p H E) (s:Jc p H H1) (n:NoT H→NoT H1):Rr t i k p H1 E:=fun dx H' s' n' e=>h dx H' (s.trans s') (fun z=>n' (n z)) e
theorem xO {w:World} {K:PySem.W.Frag} {mg:Str→Option Value} {t:Adr} {H:Hp} {p:Addr} {row:Int} (T:Txt w K mg t) {dx ta:Addr} {pl:Int} (e:H p=some (.ins t.Bb dx (rdF row ta pl))):xk K H p (Str.ofString "row") (.int row):=
 ⟨_,dx,_,e,T.wb,T.Ij,Gc Ur 0 (Ch ..) (by decide +kernel) rfl⟩
noncomputable def dJ (t:Adr):Sp:=fun vs H Q _=>∃ x i j,vs=[.ref x,.int i,.int j]∧i.natAbs.log2 < 1920∧j.natAbs.log2 < 1920∧H x=some (.ext (XF x t.Gb none)) ∧
 ∀ dx,H dx=none→dx ≠ x→Q .non (upd (upd H x (.ext (XF x t.Gb (some dx)))) dx (.ext (XD dx [(Str.ofString "row",.int i),(Str.ofString "word",.int j)])))
noncomputable def Hx (t:Adr):Sp:=fun vs H Q E=>∃ p row ws pl,vs=[.ref p]∧Ae t H p row ws pl∧(0 ≤ row∧row ≤ 10000)∧pl ≤ 10000∧Rr t row pl p H E
noncomputable def Ju (t:Adr):Sp:=fun vs H Q E=>∃ p row ws pl g,vs=[.ref p,.bl g]∧Ae t H p row ws pl∧(0 ≤ row∧row ≤ 10000)∧pl ≤ 10000∧(g=true→oM t H p row ws (pl + 1) (Q .non))∧(g=false→Rr t row pl p H E)
noncomputable def cr (K:PySem.W.Frag) (t:Adr):Sp:=fun vs H Q E=>∃ p row ws pl c xs,vs=[.ref p,.ref c]∧Ae t H p row ws pl∧(0 ≤ row∧row ≤ 10000)∧pl ≤ ws.length∧SqL K H c (Ib xs) ∧
 (wd ws pl ∈ xs→oM t H p row ws (pl + 1) (Q (.str (wd ws pl))))∧(wd ws pl ∉ xs→Rr t row pl p H E)
noncomputable def yu (t:Adr):Sp:=fun vs H Q E=>∃ p row ws pl lo hi,vs=[.ref p,.int lo,.int hi]∧Ae t H p row ws pl∧(0 ≤ row∧row ≤ 10000)∧pl ≤ ws.length∧NoT H ∧
 (∀ v,Aq (wd ws pl) lo hi=.int v→oM t H p row ws (pl + 1) (Q (.int v)))∧(Aq (wd ws pl) lo hi=.non→Rr t row pl p H E)
noncomputable def Rx (t:Adr):Sp:=fun vs H Q E=>∃ p row ws pl,vs=[.ref p]∧Ae t H p row ws pl∧(0 ≤ row∧row ≤ 10000)∧(¬ pl < ws.length→Q .non H)∧(pl < ws.length→Rr t row pl p H E)
section
variable {P:Program} {w:World} {K:PySem.W.Frag} {mg:Str→Option Value} {base:Heap} {t:Adr}
theorem oO (T:Txt w K mg t):Eb P w K mg base CX0 1 t.jf t.Og ["self","row","word"] (dJ t):=by
 refine T.bn.ok Qm (fun vs H Q E h=>?_) (fun cdv A outer s H vs Q E hr h=>?_)
 ·obtain ⟨x,i,j,rfl,_⟩:=h;rfl
 obtain ⟨x,i,j,rfl,hi,hj,hx,q⟩:=h
 refine ⟨_,(cb (lc (Bp rfl T.Zg T.vj (bb (pv 0) (bb (Jm (Ng (Jz (pv 1) (Ng (Jz (pv 2) iz)))) (by rw [sizeLine_eq];decide)) fb))))
   (cb (Gp (pv 0) (pv 1) rfl)
   (gb (Dp (pv 0) (pv 2) rfl)))),?_⟩
 (walk_at "RD")
 refine ⟨hi,hj,fun y=>⟨_,_,hx,T.Ap,?_⟩⟩
 refine ⟨_,hx,T.Ap,T.Xu,fun dx hd hne=>?_⟩
 refine ⟨_,dx,by rw [lb (Ne.symm hne),db],_,db,T.Ap,T.Ts,show 1 < 1000 by decide,?_⟩
 rw [Ui,show Qg (Str.ofString "word") (V.int j) ([(Str.ofString "row",V.int i)]:List (Str × V))=[(Str.ofString "row",V.int i),(Str.ofString "word",V.int j)] from ad [Str.ofString "row"] rfl (by decide +kernel)]
 exact q dx hd hne
theorem tD (T:Txt w K mg t):Eb P w K mg base (CX1 P w) 3 t.md t.Pd ["self"] (Hx t):=by
 have G_NoText_init:Eb P w K mg base CX0 1 t.jf t.Og ["self","row","word"] (dJ t):=oO T
 refine T.Jh.okX om (fun vs H Q E h=>?_) (fun cdv A outer s H vs Q E hr h=>?_)
 ·obtain ⟨p,row,ws,pl,rfl,_⟩:=h;rfl
 obtain ⟨p,row,ws,pl,rfl,⟨hz,dx,ta,e1,e2⟩,hrow,hpl,q⟩:=h
 refine ⟨_,(gb (Np (Mp T.Kv G_NoText_init hr rfl T.Ez T.qv (bb (Tc (pv 0) rfl) (bb (Tc (pv 0) rfl) fb))) gv)),?_⟩
 (walk_at "RD")
 refine ⟨_,xO T e1,_,Lp T e1,by decide,fun a ha=>⟨a,row,pl,rfl,Zl (by omega),Zl (by omega),db,fun d hd hne=>?_⟩⟩
 have hd0:H d=none:=by rw [lb hne] at hd;exact hd
 refine ⟨rfl,t.Gb,some d,by rw [lb (Ne.symm hne),db],T.Ap,q d _ (fun b u _ e=>?_) (fun nt=>(((nt.upd).upd).upd).upd) (by rw [lb hne,db])⟩
 rw [lb (ub e ha),lb (ub e hd0),lb (ub e ha),lb (ub e ha)]
 exact e
theorem gA (T:Txt w K mg t):Eb P w K mg base (CX1 P w) 4 t.nc t.Dc ["self","good"] (Ju t):=by
 have GX_RowReader_refuse:Eb P w K mg base (CX1 P w) 3 t.md t.Pd ["self"] (Hx t):=tD T
 refine T.Bg.okX Ki (fun vs H Q E h=>?_) (fun cdv A outer s H vs Q E hr h=>?_)
 ·obtain ⟨p,row,ws,pl,g,rfl,_⟩:=h;rfl
 obtain ⟨p,row,ws,pl,g,rfl,R,hrow,hpl,q1,q2⟩:=h
 obtain ⟨hz,dx,ta,e1,e2⟩:=id R
 refine ⟨_,(cb (ge (Zm (Ef (pv 1))) (gb (lc (jd (pv 0) T.wb T.Lh GX_RowReader_refuse hr T.Ah .nil je))) Zb)
   (gb (Cv (pv 0) rb yJ))),?_⟩
 (walk_at "RD")
 refine Rb (!g) (fun Q hQ=>?_) (fun c=>?_) (fun c=>?_)
 ·(walk_at "RD")
  exact hQ
 ·(walk_at "RD")
  have hg:g=false:=by simpa using c
  exact ⟨_,_,e1,Ae.no _ _ _ (by decide +kernel),⟨p,row,ws,pl,rfl,R,hrow,hpl,q2 hg⟩⟩
 ·(walk_at "RD")
  have hg:g=true:=by simpa using c
  refine ⟨_,_,_,e1,T.wb,T.ze,_,Gc Ur 2 (Ch ..) (by decide +kernel) rfl,_,rfl,_,_,e1,by rw [← List.length_map (f:=(·.1)),Ch];decide,?_⟩
  rw [TD]
  exact q1 hg _ Jc.put (fun n=>n.upd) ⟨hz,dx,ta,db,by rw [lb (Fe e2 e1 (by intro z;cases z))];exact e2⟩
theorem Ow (T:Txt w K mg t):Eb P w K mg base (CX1 P w) 5 t.kc t.zc ["self","choices"] (cr K t):=by
 have G_RowReader_ahead:Eb P w K mg base CX0 4 t.bc t.wc ["self"] (aj t):=(Qk T).mono (by decide)
 have GX_RowReader_take:Eb P w K mg base (CX1 P w) 4 t.nc t.Dc ["self","good"] (Ju t):=gA T
 refine T.gf.okX ke (fun vs H Q E h=>?_) (fun cdv A outer s H vs Q E hr h=>?_)
 ·obtain ⟨p,row,ws,pl,c,xs,rfl,_⟩:=h;rfl
 obtain ⟨p,row,ws,pl,c,xs,rfl,R,hrow,hpl,hc,q1,q2⟩:=h
 refine ⟨_,(cb (Ab (i:=2) ke.nd rfl (Or.inl rfl) (jd (pv 0) T.wb T.Fd G_RowReader_ahead hr T.Ed .nil Cb))
   (cb (lc (Vc (pv 0) T.wb T.oe GX_RowReader_take hr T.qe .nil je (bb (Te Li (pv 2) (pv 1) (by with_unfolding_all rfl)) fb)))
   (gb (Fb (pv 2))))),?_⟩
 obtain ⟨hz,dx,ta,e1,e2⟩:=id R
 (walk_at "RD")
 refine ⟨_,_,e1,Ae.no _ _ _ (by decide +kernel),⟨p,row,ws,pl,rfl,R,hpl,?_⟩⟩
 (walk_at "RD")
 refine ⟨_,_,e1,Ae.no _ _ _ (by decide +kernel),_,.inl hc,rfl,Rn xs,?_⟩
 rw [Mu]
 refine ⟨p,row,ws,pl,_,rfl,R,hrow,by omega,fun g H' s1 s2 s3=>?_,fun g=>q2 (of_decide_eq_false g)⟩
 (walk_at "RD")
 exact q1 (of_decide_eq_true g) H' s1 s2 s3
theorem zz (T:Txt w K mg t):Eb P w K mg base (CX1 P w) 5 t.Kb t.Yb ["self","low","high"] (yu t):=by
 have G_RowReader_ahead:Eb P w K mg base CX0 4 t.bc t.wc ["self"] (aj t):=(Qk T).mono (by decide)
 have GX_RowReader_take:Eb P w K mg base (CX1 P w) 4 t.nc t.Dc ["self","good"] (Ju t):=gA T
 have G_figured:Eb P w K mg base CX0 4 t.rk t.Dk ["word","low","high"] ME:=(II T).mono (by decide)
 refine T.Ze.okX Ud (fun vs H Q E h=>?_) (fun cdv A outer s H vs Q E hr h=>?_)
 ·obtain ⟨p,row,ws,pl,lo,hi,rfl,_⟩:=h;rfl
 obtain ⟨p,row,ws,pl,lo,hi,rfl,R,hrow,hpl,nt,q1,q2⟩:=h
 refine ⟨_,(cb (Ab (i:=3) Ud.nd rfl (Or.inl rfl) (yb G_figured hr rfl T.Gv T.Wm.kp T.Gw .nil Cb (bb (jd (pv 0) T.wb T.Fd G_RowReader_ahead hr T.Ed .nil Cb) (bb (pv 1) (bb (pv 2) fb)))))
   (cb (lc (Vc (pv 0) T.wb T.oe GX_RowReader_take hr T.qe .nil je (bb (Te jD (pv 3) Kz (uc _)) fb)))
   (gb (Fb (pv 3))))),?_⟩
 obtain ⟨hz,dx,ta,e1,e2⟩:=id R
 (walk_at "RD")
 refine ⟨_,_,e1,Ae.no _ _ _ (by decide +kernel),⟨p,row,ws,pl,rfl,R,hpl,?_⟩⟩
 (walk_at "RD")
 refine ⟨_,lo,hi,rfl,VO hz.2 pl,nt,?_⟩
 rcases Et (wd ws pl) lo hi with ⟨v,hv,_⟩ | hv
 ·rw [hv]
  (walk_at "RD")
  refine ⟨_,_,e1,Ae.no _ _ _ (by decide +kernel),?_⟩
  refine ⟨p,row,ws,pl,_,rfl,R,hrow,by omega,fun g H' s1 s2 s3=>?_,fun g=>by cases g⟩
  (walk_at "RD")
  exact q1 v hv H' s1 s2 s3
 ·rw [hv]
  (walk_at "RD")
  refine ⟨_,_,e1,Ae.no _ _ _ (by decide +kernel),?_⟩
  exact ⟨p,row,ws,pl,_,rfl,R,hrow,by omega,(fun g=>by cases g),fun g=>q2 hv⟩
theorem DC (T:Txt w K mg t):Eb P w K mg base (CX1 P w) 4 t.jc t.Ac ["self"] (Rx t):=by
 have G_RowReader_has_more:Eb P w K mg base CX0 3 t.Mc t.Ad ["self"] (xx t):=(aC T).mono (by decide)
 have GX_RowReader_refuse:Eb P w K mg base (CX1 P w) 3 t.md t.Pd ["self"] (Hx t):=tD T
 refine T.mf.okX nh (fun vs H Q E h=>?_) (fun cdv A outer s H vs Q E hr h=>?_)
 ·obtain ⟨p,row,ws,pl,rfl,_⟩:=h;rfl
 obtain ⟨p,row,ws,pl,rfl,R,hrow,q1,q2⟩:=h
 obtain ⟨hz,dx,ta,e1,e2⟩:=id R
 refine ⟨_,(gb (ge (Ef (jd (pv 0) T.wb T.Lg G_RowReader_has_more hr T.Mg .nil Cb)) (gb (lc (jd (pv 0) T.wb T.Lh GX_RowReader_refuse hr T.Ah .nil je))) Zb)),?_⟩
 (walk_at "RD")
 refine Rb (decide (pl < ws.length)) (fun Q hQ=>?_) (fun c=>?_) (fun c=>?_)
 ·(walk_at "RD")
  refine ⟨_,_,e1,Ae.no _ _ _ (by decide +kernel),⟨p,row,ws,pl,rfl,R,?_⟩⟩
  exact ⟨_,rfl,hQ⟩
 ·(walk_at "RD")
  have hl:=of_decide_eq_true c
  exact ⟨_,_,e1,Ae.no _ _ _ (by decide +kernel),⟨p,row,ws,pl,rfl,R,hrow,by omega,q2 hl⟩⟩
 ·(walk_at "RD")
  exact q1 (of_decide_eq_false c)
end
noncomputable def Oc {α:Type} (m:Except Nat α) (ok:α→Prop) (er:Nat→Prop):Prop:=match m with | .ok a=>ok a | .error k=>er k
noncomputable def Jx (x:Str) (lo hi:Int):Option Int:=if okB x && !(decide (val x < lo) || decide (hi < val x)) then some (val x) else none
theorem aw (x:Str) (lo hi:Int):Aq x lo hi=(Jx x lo hi).elim .non .int:=by
 unfold Aq Jx
 split <;> rfl
theorem Hu {x:Str} {lo hi v:Int} (h:Aq x lo hi=.int v):Jx x lo hi=some v:=by
 rw [aw] at h
 cases e:Jx x lo hi with
 | none=>rw [e] at h;cases h
 | some u=>rw [e] at h;injection h with h;rw [h]
theorem Kr {x:Str} {lo hi:Int} (h:Aq x lo hi=.non):Jx x lo hi=none:=by
 rw [aw] at h
 cases e:Jx x lo hi with
 | none=>rfl
 | some u=>rw [e] at h;cases h
theorem fv {ws:List Str} {k:Nat} {lo hi v:Int} (h:Aq (wd ws k) lo hi=.int v):k + 1 ≤ ws.length∧lo ≤ v∧v ≤ hi:=by
 rcases Et (wd ws k) lo hi with ⟨u,hu,h1,h2,h3⟩ | hn
 ·rw [hu] at h
  injection h with h
  subst h
  exact ⟨MH h3,h1,h2⟩
 ·rw [hn] at h;cases h
noncomputable def Oc2 {α:Type} (m:Except (Nat × Nat) α) (ok:α→Prop) (er:Nat→Nat→Prop):Prop:=match m with | .ok a=>ok a | .error e=>er e.1 e.2
theorem Wj {α:Type} {l:List α} {a x:α} {i:Nat} (h:(l ++ [a])[i]? = some x):(i < l.length∧l[i]? = some x)∨(i=l.length∧x=a):=by
 by_cases hi:i < l.length
 ·rw [List.getElem?_append_left hi] at h
  exact .inl ⟨hi,h⟩
 ·rw [List.getElem?_append_right (by omega)] at h
  have h0:i - l.length=0:=by
   cases hh:i - l.length with
   | zero=>rfl
   | succ m=>rw [hh] at h;simp at h
  rw [h0] at h
  exact .inr ⟨by omega,(by simpa using h:a=x).symm⟩
noncomputable def JP (t:Adr) (i k:Nat) (H:Hp) (E:XK):Prop:=∀ dx H',Xb H H'→NoT H'→H' dx=some (.ext (XD dx [(Str.ofString "row",.int i),(Str.ofString "word",.int k)]))→E (.ref t.Gb) (some dx) H'
end My
namespace My
open PySem L2
theorem yc {α β:Type} {f:α→β} {l:List α} {i:Nat} {y:β} (h:(l.map f)[i]? = some y):∃ x,l[i]? = some x∧y=f x:=by
 rw [List.getElem?_map] at h
 cases e:l[i]? with
 | none=>rw [e] at h;cases h
 | some x=>rw [e] at h;exact ⟨x,rfl,(Option.some.inj h).symm⟩
noncomputable def uP (t:Adr) (H0 H:Hp) (p:Addr) (rows:List (List Str)):Prop:=∃ qs:List Addr,H p=some (.lst (qs.map V.ref))∧H0 p=none∧qs.length=rows.length∧∀ (i:Nat) (q:Addr) (r:List Str),qs[i]? = some q→rows[i]? = some r→Ae t H q i r 0∧H0 q=none
noncomputable def so (t:Adr):Sp:=fun vs H Q _=>∃ x,vs=[.str x]∧x.length ≤ 20000∧(∀ r ∈ Fg x,r.length ≤ 1000∧∀ y ∈ r,y.length ≤ 1000)∧NoT H∧∀ p H',Xb H H'→NoT H'→uP t H H' p (Fg x)→Q (.ref p) H'
section
variable {P:Program} {w:World} {K:PySem.W.Frag} {mg:Str→Option Value} {base:Heap} {t:Adr}
theorem bu (T:Txt w K mg t):Eb P w K mg base CX0 3 t.Pj t.qk ["text"] (so t):=by
 have G_words:Eb P w K mg base CX0 2 t.Nu t.Cu ["text"] Rz:=(PH T).mono (by decide)
 have G_RowReader_init:Eb P w K mg base CX0 1 t.ue t.Ye ["self","row","told"] (SI t):=aN T
 refine T.Mm.ok DB (fun vs H Q E h=>?_) (fun cdv A outer s H vs Q E hr h=>?_)
 ·obtain ⟨x,rfl,_⟩:=h;rfl
 obtain ⟨x,rfl,hz,hrow,nt,q⟩:=h
 refine ⟨_,(gb (Fb (Qi rfl (jq rfl T.vh (bb (yb G_words hr rfl T.MK T.Iy.kp T.BK .nil Cb (bb (pv 0) fb)) fb)) (Vd (sc:=ib Pq) rfl (by decide +kernel)) (N:=["row","told"]) (sel:=[none,none]) (Le (M:=["text"]) (by decide +kernel)) (Blk.of (fun _ _ _ _=>(Hf (K:=K) (n:=2) rfl rfl (Vb (zb (i:=0) (Ii (N:=["row","told"]) (by decide +kernel) rfl) rfl (Or.inl rfl) (.inr rfl)) (Vb (zb (i:=1) (Ii (N:=["row","told"]) (by decide +kernel) rfl) rfl (Or.inl rfl) (.inr rfl)) Lf)))) (fun _ _ _ _=>⟨_,Xh,by first | rfl | (dsimp only [Cx.block];done) | (dsimp only [Cx.block];exact rfl)⟩) (fun _ _ _ _=>⟨_,(ao T.Dy G_RowReader_init hr rfl T.Ty T.Yo .nil Cb (bb (pv 0) (bb (pv 1) fb))),by first | rfl | (dsimp only [Cx.block];done) | (dsimp only [Cx.block];exact rfl)⟩))))),?_⟩
 (walk_at "RD")
 refine ⟨x,rfl,hz,nt,fun p H1 sm1 nt1 ⟨ps,hp,hp0,hpn,hpl,hpa⟩=>?_⟩
 (walk_at "RD")
 refine ⟨⟨_,SqL.of hp⟩,?_⟩
 have hlen:ps.length ≤ sizeLine:=by
  rw [hpl]
  unfold Fg
  rw [List.length_map]
  have:=Sq (x:=x) (y:=nl) (by rw [Wt];exact Nat.le_refl _)
  exact Nat.le_trans (show _ ≤ 40000 by omega) (by decide)
 refine de.enum (xs:=ps.map V.ref) (fun i ys H2=>Xb H1 H2∧NoT H2∧∃ qs:List Addr,ys=qs.map V.ref∧qs.length=i∧∀ (j:Nat) (q:Addr) (r:List Str),qs[j]? = some q→(Fg x)[j]? = some r→Ae t H2 q j r 0∧H1 q=none)
  (by rw [List.length_map];exact hlen) ⟨Xb.refl H1,nt1,[],rfl,rfl,fun j q r h _=>by simp at h⟩ ?_ ?_ ?_
 ·rintro i ys H2 hi ⟨s2,n2,qs,rfl,hq,_⟩
  exact ⟨SqL.of (s2 _ _ hp),by rw [List.length_map];omega⟩
 ·rintro i v ys H2 p2 hv ⟨s2,n2,qs,rfl,hq,al⟩ hp2 N hN
  rw [List.getElem?_map] at hv
  cases hpi:ps[i]? with
  | none=>rw [hpi] at hv;cases hv
  | some pi=>
   rw [hpi] at hv
   have e:=(Option.some.inj hv).symm
   subst e
   refine ik ?_
   (walk_at "RD")
   refine ⟨Sub.name2,fun a dx ha hd hne=>?_⟩
   refine ⟨a,dx,pi,i,rfl,db,rfl,?_⟩
   rw [Ui]
   have s3:Xb H2 (upd (upd (upd H2 p2 (.tup [.int i,.ref pi])) dx (.own a)) a (.ins t.Bb dx (rdF i pi 0))):=by
    have s':Xb H2 (upd H2 p2 (.tup [.int i,.ref pi])):=jb hp2
    exact ((Xb.trans s' (jb hd)).updN (s'.free ha))
   obtain ⟨r,hr⟩:∃ r,(Fg x)[i]? = some r:=⟨(Fg x)[i]'(by rw [← hpl];exact (List.getElem?_eq_some_iff.mp hpi).1),List.getElem?_eq_getElem _⟩
   have ha2:H2 a=none:=(jb hp2).free ha
   refine hN _ _ ⟨s2.trans s3,((n2.upd).upd).upd,qs ++ [a],by rw [List.map_append];rfl,by rw [List.length_append,hq];rfl,fun j q' r' h1 h2=>?_⟩
   by_cases hj:j < qs.length
   ·rw [List.getElem?_append_left hj] at h1
    obtain ⟨z1,z2⟩:=al j q' r' h1 h2
    exact ⟨z1.same s3,z2⟩
   ·rw [List.getElem?_append_right (by omega)] at h1
    have hj0:j - qs.length=0:=by
     cases hh:j - qs.length with
     | zero=>rfl
     | succ n=>rw [hh] at h1;simp at h1
    rw [hj0] at h1
    have e3:a=q':=by simpa using h1
    subst e3
    have e4:j=i:=by omega
    subst e4
    rw [hr] at h2
    cases h2
    refine ⟨⟨hrow r (List.mem_of_getElem? hr),dx,pi,db,?_⟩,s2.free ha2⟩
    exact s3 _ _ (s2 _ _ (hpa j pi r hpi hr).1)
 ·rintro ys H2 ⟨s2,n2,qs,rfl,hq,al⟩ p2 hp2
  refine q p2 _ ((sm1.trans s2).updN ((sm1.trans s2).free hp2)) (n2.upd) ⟨qs,db,(sm1.trans s2).free hp2,by rw [hq,List.length_map,hpl],fun i q' r h1 h2=>?_⟩
  obtain ⟨z1,z2⟩:=al i q' r h1 h2
  exact ⟨z1.same (jb hp2),sm1.free z2⟩
end
noncomputable def CP (q:Addr) (H:Hp) (R:Hp→Prop):Prop:=∀ H',Jc q H H'→NoT H'→R H'
noncomputable def AC (t:Adr):Sp:=fun vs H Q _=>∃ q row n,vs=[.ref q]∧Ae t H q row [Str.ofString "ring",num n] 0∧(2 ≤ n∧n ≤ 99)∧NoT H∧CP q H (Q (.int n))
noncomputable def wk (t:Adr) (H:Hp) (wl:Addr) (ds:List WD):Prop:=∃ as:List Addr,H wl=some (.lst (as.map V.ref))∧as.length=ds.length∧∀ (i:Nat) (a:Addr) (d:WD),as[i]? = some a→ds[i]? = some d→Ke t H a d
noncomputable def Tt (t:Adr):Sp:=fun vs H Q _=>∃ q row ws pl wl ds x,vs=[.ref q,.ref wl]∧Ae t H q row ws pl∧ws[pl]? = some x∧made x gh 8=true∧wk t H wl ds∧ds.length ≤ 12∧(∀ d ∈ ds,d.name ≠ x)∧NoT H ∧
 ∀ H',Jc q H H'→NoT H'→Ae t H' q row ws (pl + 1)→Q (.str x) H'
noncomputable def sJ (t:Adr):Sp:=fun vs H Q _=>∃ q row ws pl n st fi,vs=[.ref q,.int n,.int st]∧Ae t H q row ws pl∧ws[pl]? = some (num fi)∧(0 ≤ st∧st < n)∧(0 ≤ fi∧fi < n)∧st ≠ fi∧n ≤ 99∧NoT H ∧
 ∀ H',Jc q H H'→NoT H'→Ae t H' q row ws (pl + 1)→Q (.int fi) H'
noncomputable def Hz (t:Adr):Sp:=fun vs H Q _=>∃ d:WD,vs=[.str (me d.k),.str d.name,.int d.start,.int d.fin,.int d.off,.int d.near,.int d.least]∧d.k < 3∧∀ x H',Xb H H'→(NoT H→NoT H')→Ke t H' x d→H x=none→Q (.ref x) H'
noncomputable def EI (t:Adr):Sp:=fun vs H Q _=>∃ q row n wl ds d,vs=[.ref q,.int n,.ref wl]∧Ae t H q row (Oj d) 0∧WOk n d∧(2 ≤ n∧n ≤ 99)∧wk t H wl ds∧ds.length ≤ 12∧(∀ e ∈ ds,e.name ≠ d.name)∧NoT H ∧
 ∀ x H',Jc q H H'→NoT H'→Ke t H' x d→H x=none→Q (.ref x) H'
theorem wk.sameX {t:Adr} {H H':Hp} {q wl:Addr} {ds:List WD} {row:Int} {ws:List Str} {pl:Nat} (h:wk t H wl ds) (s:Jc q H H') (r:Ae t H q row ws pl):wk t H' wl ds:=by
 obtain ⟨as,e1,e2,al⟩:=h
 obtain ⟨hz,dx,ta,e3,e4⟩:=r
 refine ⟨as,s _ _ (Fe e1 e3 (by intro z;cases z)) e1,e2,fun i a d h1 h2=>?_⟩
 obtain ⟨hk,dx',e5⟩:=al i a d h1 h2
 refine ⟨hk,dx',s _ _ (fun z=>?_) e5⟩
 subst z
 rw [e5] at e3
 have e6:=Option.some.inj e3
 injection e6 with _ _ e8
 have e9:(7:Nat)=3:=congrArg List.length e8
 omega
theorem wk.same {t:Adr} {H H':Hp} {wl:Addr} {ds:List WD} (h:wk t H wl ds) (s:Xb H H'):wk t H' wl ds:=by
 obtain ⟨as,e1,e2,al⟩:=h
 exact ⟨as,s _ _ e1,e2,fun i a d h1 h2=>(al i a d h1 h2).same s⟩
section
variable {P:Program} {w:World} {K:PySem.W.Frag} {mg:Str→Option Value} {base:Heap} {t:Adr}
theorem WL (T:Txt w K mg t):Eb P w K mg base CX0 5 t.Ri t.mj ["reader"] (AC t):=by
 have G_RowReader_one_of:Eb P w K mg base CX0 4 t.kc t.zc ["self","choices"] (Eu K t):=(oz T).mono (by decide)
 have G_RowReader_figures:Eb P w K mg base CX0 4 t.Kb t.Yb ["self","low","high"] (uu t):=Ux T
 have G_RowReader_finish:Eb P w K mg base CX0 4 t.jc t.Ac ["self"] (AD t):=(WI T).mono (by decide)
 refine T.rm.ok So (fun vs H Q E h=>?_) (fun cdv A outer s H vs Q E hr h=>?_)
 ·obtain ⟨q,row,n,rfl,_⟩:=h;rfl
 obtain ⟨q,row,n,rfl,R,hn,nt,qq⟩:=h
 refine ⟨_,(cb (lc (Vc (pv 0) T.wb T.Od G_RowReader_one_of hr T.Qd .nil Cb (bb (Df (bb xc fb)) fb)))
   (cb (Ab (i:=1) So.nd rfl (Or.inl rfl) (Vc (pv 0) T.wb T.Qb G_RowReader_figures hr T.Ub .nil Cb (bb (Id rfl T.qt T.Zr) (bb (Id rfl T.zu T.Su) fb))))
   (cb (lc (jd (pv 0) T.wb T.ye G_RowReader_finish hr T.we .nil Cb))
   (gb (Fb (pv 1)))))),?_⟩
 obtain ⟨_,dx,ta,e1,e2⟩:=id R
 (walk_at "RD")
 refine ⟨_,_,e1,Ae.no _ _ _ (by decide +kernel),by decide,fun p hp=>?_⟩
 have s0:Xb H (upd H p (.lst [V.str (Str.ofString "ring")])):=jb hp
 refine ⟨q,row,_,0,Str.ofString "ring",p,[Str.ofString "ring"],rfl,R.same s0,rfl,SqL.of db,by simp,fun H1 s1 n1 R1=>?_⟩
 obtain ⟨_,dx1,ta1,f1,f2⟩:=id R1
 (walk_at "RD")
 refine ⟨_,_,f1,Ae.no _ _ _ (by decide +kernel),?_⟩
 have nt1:=n1 nt.upd
 refine ⟨q,row,_,1,num n,2,99,n,rfl,R1,rfl,zm (by omega) (by omega) hn.1 hn.2,nt1,fun H2 s2 n2 R2=>?_⟩
 obtain ⟨_,dx2,ta2,g1,g2⟩:=id R2
 (walk_at "RD")
 refine ⟨_,_,g1,Ae.no _ _ _ (by decide +kernel),?_⟩
 refine ⟨q,row,_,2,rfl,R2,rfl,?_⟩
 (walk_at "RD")
 exact qq H2 (((Jc.of s0).trans s1).trans s2) (n2 nt1)
theorem GA (T:Txt w K mg t):Eb P w K mg base CX0 3 t.kf t.vf ["reader","ways"] (Tt t):=by
 have G_RowReader_ahead:Eb P w K mg base CX0 2 t.bc t.wc ["self"] (aj t):=(Qk T).mono (by decide)
 have G_RowReader_take:Eb P w K mg base CX0 2 t.nc t.Dc ["self","good"] (vv t):=(xy T).mono (by decide)
 have G_is_name:Eb P w K mg base CX0 2 t.Vm t.Cn ["word"] DD:=xL T
 refine T.oh.ok Fj (fun vs H Q E h=>?_) (fun cdv A outer s H vs Q E hr h=>?_)
 ·obtain ⟨q,row,ws,pl,wl,ds,x,rfl,_⟩:=h;rfl
 obtain ⟨q,row,ws,pl,wl,ds,x,rfl,R,hx,hm,hW,hdl,hnew,nt,qq⟩:=h
 refine ⟨_,(cb (Ab (i:=2) Fj.nd rfl (Or.inl rfl) (jd (pv 0) T.wb T.Fd G_RowReader_ahead hr T.Ed .nil Cb))
   (cb (lc (Vc (pv 0) T.wb T.oe G_RowReader_take hr T.qe .nil Cb (bb (JI (yb G_is_name hr rfl T.AE T.gq.kp T.ID .nil Cb (bb (pv 2) fb)) (gz (Te Hv (pv 2) (Qi rfl (ae (pv 1)) (Vd (sc:=ib qh) rfl (by decide +kernel)) (N:=["way"]) (sel:=[none]) (Le (M:=["reader","ways","name"]) (by decide +kernel)) (Blk.of (fun _ _ _ _=>(zb (i:=0) (Ii (N:=["way"]) (by decide +kernel) rfl) rfl (Or.inl rfl))) (fun _ _ _ _=>⟨_,Xh,by first | rfl | (dsimp only [Cx.block];done) | (dsimp only [Cx.block];exact rfl)⟩) (fun _ _ _ _=>⟨_,(Tc (pv 0) rfl),by first | rfl | (dsimp only [Cx.block];done) | (dsimp only [Cx.block];exact rfl)⟩))) (by with_unfolding_all rfl)))) fb)))
   (gb (Fb (pv 2))))),?_⟩
 have hlt:pl < ws.length:=(List.getElem?_eq_some_iff.mp hx).1
 have hg:ws.getD pl (Str.ofString "")=x:=by rw [List.getD_eq_getElem?_getD,hx];rfl
 obtain ⟨hz,dx,ta,e1,e2⟩:=id R
 (walk_at "RD")
 refine ⟨_,_,e1,Ae.no _ _ _ (by decide +kernel),⟨q,row,ws,pl,rfl,R,by omega,?_⟩⟩
 rw [hg]
 (walk_at "RD")
 refine ⟨_,_,e1,Ae.no _ _ _ (by decide +kernel),?_⟩
 refine ⟨x,rfl,hz.2 x (List.mem_of_getElem? hx),nt,?_⟩
 rw [hm]
 (walk_at "RD")
 obtain ⟨as,w1,w2,al⟩:=hW
 refine ⟨⟨_,SqL.of w1⟩,?_⟩
 have hle:(as.map V.ref).length ≤ sizeLine:=by rw [List.length_map,w2];exact Nat.le_trans hdl (by decide)
 refine de.list_zs (xs:=as.map V.ref) (zs:=ds.map fun d=>V.str d.name) (SqL.of w1) hle (by rw [List.length_map,List.length_map,w2]) (fun i v z N hv hz' hN=>?_) (fun p hp=>?_)
 ·obtain ⟨a,ha,rfl⟩:=yc hv
  obtain ⟨d,hd,rfl⟩:=yc hz'
  (walk_at "RD")
  exact ⟨Sub.name,_,(al i a d ha hd).f_name T,hN⟩
 ·(walk_at "RD")
  have e0:(ds.map fun d=>V.str d.name)=Ib (ds.map (·.name)):=by unfold Ib;rw [List.map_map];rfl
  rw [e0]
  refine ⟨_,.inl (SqL.of db),rfl,Rn _,?_⟩
  rw [Mu,decide_eq_false (fun z=>by
   obtain ⟨d,hd,e⟩:=List.mem_map.mp z
   exact hnew d hd e)]
  have s0:Xb H (upd H p (.lst (Ib (ds.map (·.name))))):=jb hp
  exact ⟨q,row,ws,pl,rfl,R.same s0,fun H' s1 n1 R1=>qq H' ((Jc.of s0).trans s1) (n1 nt.upd) R1⟩
theorem HM (T:Txt w K mg t):Eb P w K mg base CX0 5 t.Pk t.Jk ["reader","places","start"] (sJ t):=by
 have G_RowReader_ahead:Eb P w K mg base CX0 4 t.bc t.wc ["self"] (aj t):=(Qk T).mono (by decide)
 have G_RowReader_figures:Eb P w K mg base CX0 4 t.Kb t.Yb ["self","low","high"] (uu t):=Ux T
 refine T.bo.ok ny (fun vs H Q E h=>?_) (fun cdv A outer s H vs Q E hr h=>?_)
 ·obtain ⟨q,row,ws,pl,n,st,fi,rfl,_⟩:=h;rfl
 obtain ⟨q,row,ws,pl,n,st,fi,rfl,R,hx,hst,hfi,hne,hn,nt,qq⟩:=h
 refine ⟨_,(cb (ge (Sb bi (jd (pv 0) T.wb T.Fd G_RowReader_ahead hr T.Ed .nil Cb) (lg df rfl T.rA Vg (bb (pv 2) fb)) (uc _)) (gb Lk) Zb)
   (gb (Fb (Vc (pv 0) T.wb T.Qb G_RowReader_figures hr T.Ub .nil Cb (bb rb (bb (Pb zf (pv 1) rb) fb)))))),?_⟩
 have hlt:pl < ws.length:=(List.getElem?_eq_some_iff.mp hx).1
 have hg:ws.getD pl (Str.ofString "")=num fi:=by rw [List.getD_eq_getElem?_getD,hx];rfl
 obtain ⟨hz,dx,ta,e1,e2⟩:=id R
 (walk_at "RD")
 refine Rb false (fun Q hQ=>?_) (fun hc=>nomatch hc) (fun _=>?_)
 ·(walk_at "RD")
  refine ⟨_,_,e1,Ae.no _ _ _ (by decide +kernel),⟨q,row,ws,pl,rfl,R,by omega,?_⟩⟩
  rw [hg]
  (walk_at "RD")
  refine ⟨Dr (by omega),?_⟩
  rw [decide_eq_false (fun z=>hne (TL (by omega) (by omega) (by omega) (by omega) z).symm)]
  exact hQ
 ·(walk_at "RD")
  refine ⟨_,_,e1,Ae.no _ _ _ (by decide +kernel),⟨q,row,ws,pl,num fi,0,n - 1,fi,rfl,R,hx,zm (by omega) (by omega) (by omega) (by omega),nt,fun H1 s1 n1 R1=>?_⟩⟩
  exact qq H1 s1 (n1 nt) R1
theorem xM {t:Adr} {H:Hp} {x dx:Addr} {d:WD} (hx:H x=none) (hd:H dx=none) (hk:d.k < 3) :
  Xb H (upd (upd (upd H dx (.own x)) x (.ins (t.cw d.k) dx [])) x (.ins (t.cw d.k) dx (gp d)))∧(NoT H→NoT (upd (upd (upd H dx (.own x)) x (.ins (t.cw d.k) dx [])) x (.ins (t.cw d.k) dx (gp d)))) ∧
   Ke t (upd (upd (upd H dx (.own x)) x (.ins (t.cw d.k) dx [])) x (.ins (t.cw d.k) dx (gp d))) x d:=
 ⟨(((Xb.refl H).updN hd).updN hx).updN hx,fun n=>((n.upd).upd).upd,hk,dx,db⟩
theorem HG (T:Txt w K mg t):Eb P w K mg base CX0 4 t.Tk t.Zk ["sort","name","start","end","off","near","least"] (Hz t):=by
 have G_CarWay_init:Eb P w K mg base CX0 2 t.lf t.Sg ["self","name","start","end","off","near","least"] (Kk t 0):=jK T
 have G_FootWay_init:Eb P w K mg base CX0 2 t.Ue t.Uf ["self","name","start","end","off","near","least"] (Kk t 1):=EG T
 have G_TramWay_init:Eb P w K mg base CX0 2 t.Xe t.Tf ["self","name","start","end","off","near","least"] (Kk t 2):=oG T
 refine T.Ln.ok sy (fun vs H Q E h=>?_) (fun cdv A outer s H vs Q E hr h=>?_)
 ·obtain ⟨d,rfl,_⟩:=h;rfl
 obtain ⟨d,rfl,hk,q⟩:=h
 refine ⟨_,(cb (ge (Sb bi (pv 0) xc (uc _)) (gb (Fb (ao T.kI G_CarWay_init hr rfl T.tG T.su .nil Cb (bb (pv 1) (bb (pv 2) (bb (pv 3) (bb (pv 4) (bb (pv 5) (bb (pv 6) fb))))))))) Zb)
   (cb (ge (Sb bi (pv 0) xc (uc _)) (gb (Fb (ao T.jF G_FootWay_init hr rfl T.BE T.Yr .nil Cb (bb (pv 1) (bb (pv 2) (bb (pv 3) (bb (pv 4) (bb (pv 5) (bb (pv 6) fb))))))))) Zb)
   (gb (Fb (ao T.NE G_TramWay_init hr rfl T.HE T.As .nil Cb (bb (pv 1) (bb (pv 2) (bb (pv 3) (bb (pv 4) (bb (pv 5) (bb (pv 6) fb))))))))))),?_⟩
 have fin:∀ (x dx:Addr),H x=none→H dx=none→Q (.ref x) (upd (upd (upd H dx (.own x)) x (.ins (t.cw d.k) dx [])) x (.ins (t.cw d.k) dx (gp d))):=fun x dx hx hd=>by
  obtain ⟨m1,m2,m3⟩:=xM (t:=t) (d:=d) hx hd hk
  exact q x _ m1 m2 m3 hx
 obtain ⟨k,name,start,fi,off,near,least⟩:=d
 match k,hk with
 | 0,_=>
  (walk_at "RD"; repeat (simp only [me];walk_at "RD"))
  refine Rb true (fun Q hQ=>?_) (fun _=>?_) (fun hc=>nomatch hc)
  ·(walk_at "RD")
   exact hQ
  ·(walk_at "RD")
   exact fun x dx hx hd hne=>⟨x,dx,⟨0,name,start,fi,off,near,least⟩,rfl,rfl,db,rfl,fin x dx hx hd⟩
 | 1,_=>
  (walk_at "RD"; repeat (simp only [me];walk_at "RD"))
  refine Rb false (fun Q hQ=>?_) (fun hc=>nomatch hc) (fun _=>?_)
  ·(walk_at "RD")
   rw [decide_eq_false (by decide +kernel)]
   exact hQ
  ·(walk_at "RD")
   refine Rb true (fun Q hQ=>?_) (fun _=>?_) (fun hc=>nomatch hc)
   ·(walk_at "RD")
    exact hQ
   ·(walk_at "RD")
    exact fun x dx hx hd hne=>⟨x,dx,⟨1,name,start,fi,off,near,least⟩,rfl,rfl,db,rfl,fin x dx hx hd⟩
 | 2,_=>
  (walk_at "RD"; repeat (simp only [me];walk_at "RD"))
  refine Rb false (fun Q hQ=>?_) (fun hc=>nomatch hc) (fun _=>?_)
  ·(walk_at "RD")
   rw [decide_eq_false (by decide +kernel)]
   exact hQ
  ·(walk_at "RD")
   refine Rb false (fun Q hQ=>?_) (fun hc=>nomatch hc) (fun _=>?_)
   ·(walk_at "RD")
    rw [decide_eq_false (by decide +kernel)]
    exact hQ
   ·(walk_at "RD")
    exact fun x dx hx hd hne=>⟨x,dx,⟨2,name,start,fi,off,near,least⟩,rfl,rfl,db,rfl,fin x dx hx hd⟩
theorem IO (T:Txt w K mg t):Eb P w K mg base CX0 6 t.Yk t.Vk ["reader","places","ways"] (EI t):=by
 have G_RowReader_one_of:Eb P w K mg base CX0 5 t.kc t.zc ["self","choices"] (Eu K t):=(oz T).mono (by decide)
 have G_RowReader_figures:Eb P w K mg base CX0 5 t.Kb t.Yb ["self","low","high"] (uu t):=(Ux T).mono (by decide)
 have G_RowReader_finish:Eb P w K mg base CX0 5 t.jc t.Ac ["self"] (AD t):=(WI T).mono (by decide)
 have G_read_new_name:Eb P w K mg base CX0 5 t.kf t.vf ["reader","ways"] (Tt t):=(GA T).mono (by decide)
 have G_read_end:Eb P w K mg base CX0 5 t.Pk t.Jk ["reader","places","start"] (sJ t):=HM T
 have G_made_way:Eb P w K mg base CX0 5 t.Tk t.Zk ["sort","name","start","end","off","near","least"] (Hz t):=(HG T).mono (by decide)
 refine T.Ao.ok Ee (fun vs H Q E h=>?_) (fun cdv A outer s H vs Q E hr h=>?_)
 ·obtain ⟨q,row,n,wl,ds,d,rfl,_⟩:=h;rfl
 obtain ⟨q,row,n,wl,ds,d,rfl,R,hd,hn,hW,hdl,hnew,nt,qq⟩:=h
 refine ⟨_,(cb (Ab (i:=3) Ee.nd rfl (Or.inl rfl) (Vc (pv 0) T.wb T.Od G_RowReader_one_of hr T.Qd .nil Cb (bb (Df (bb xc (bb xc (bb xc fb)))) fb)))
   (cb (Ab (i:=4) Ee.nd rfl (Or.inl rfl) (yb G_read_new_name hr rfl T.br T.oh.kp T.cq .nil Cb (bb (pv 0) (bb (pv 2) fb))))
   (cb (Ab (i:=5) Ee.nd rfl (Or.inl rfl) (Vc (pv 0) T.wb T.Qb G_RowReader_figures hr T.Ub .nil Cb (bb rb (bb (Pb zf (pv 1) rb) fb))))
   (cb (Ab (i:=6) Ee.nd rfl (Or.inl rfl) (yb G_read_end hr rfl T.BA T.bo.kp T.pB .nil Cb (bb (pv 0) (bb (pv 1) (bb (pv 5) fb)))))
   (cb (Ab (i:=7) Ee.nd rfl (Or.inl rfl) (Vc (pv 0) T.wb T.Qb G_RowReader_figures hr T.Ub .nil Cb (bb rb (bb (Id rfl T.pA T.EA) fb))))
   (cb (Ab (i:=8) Ee.nd rfl (Or.inl rfl) (Vc (pv 0) T.wb T.Qb G_RowReader_figures hr T.Ub .nil Cb (bb rb (bb (Id rfl T.Sy T.Hy) fb))))
   (cb (Ab (i:=9) Ee.nd rfl (Or.inl rfl) (Vc (pv 0) T.wb T.Qb G_RowReader_figures hr T.Ub .nil Cb (bb rb (bb (Id rfl T.pw T.ww) fb))))
   (cb (lc (jd (pv 0) T.wb T.ye G_RowReader_finish hr T.we .nil Cb))
   (gb (Fb (yb G_made_way hr rfl T.mB T.Ln.kp T.vB .nil Cb (bb (pv 3) (bb (pv 4) (bb (pv 5) (bb (pv 6) (bb (pv 7) (bb (pv 8) (bb (pv 9) fb)))))))))))))))))),?_⟩
 have b1:=hd.st;have b2:=hd.fi;have b3:=hd.of;have b4:=hd.nr;have b5:=hd.le
 obtain ⟨_,dx,ta,e1,e2⟩:=id R
 (walk_at "RD")
 refine ⟨_,_,e1,Ae.no _ _ _ (by decide +kernel),by decide,fun p hp=>?_⟩
 have s0:Xb H (upd H p (.lst [V.str (Str.ofString "car"),V.str (Str.ofString "foot"),V.str (Str.ofString "tram")])):=jb hp
 have hin:me d.k ∈ [Str.ofString "car",Str.ofString "foot",Str.ofString "tram"]:=by
  have:=hd.k
  match d.k,this with
  | 0,_=>simp [me]
  | 1,_=>simp [me]
  | 2,_=>simp [me]
 refine ⟨q,row,_,0,me d.k,p,[Str.ofString "car",Str.ofString "foot",Str.ofString "tram"],rfl,R.same s0,rfl,SqL.of db,hin,fun H1 s1 n1 R1=>?_⟩
 have x1:Jc q H H1:=(Jc.of s0).trans s1
 have m1:=n1 nt.upd
 (walk_at "RD")
 refine ⟨q,row,_,1,wl,ds,d.name,rfl,R1,rfl,hd.nm,hW.sameX x1 R,hdl,hnew,m1,fun H2 s2 m2 R2=>?_⟩
 obtain ⟨_,dx2,ta2,f2,g2⟩:=id R2
 have x2:=x1.trans s2
 (walk_at "RD")
 refine ⟨_,_,f2,Ae.no _ _ _ (by decide +kernel),⟨q,row,_,2,num d.start,0,n - 1,d.start,rfl,R2,rfl,zm (by omega) (by omega) (by omega) (by omega),m2,fun H3 s3 n3 R3=>?_⟩⟩
 have x3:=x2.trans s3
 have m3:=n3 m2
 (walk_at "RD")
 refine ⟨q,row,_,3,n,d.start,d.fin,rfl,R3,rfl,b1,b2,hd.ne,hn.2,m3,fun H4 s4 m4 R4=>?_⟩
 obtain ⟨_,dx4,ta4,f4,g4⟩:=id R4
 have x4:=x3.trans s4
 (walk_at "RD")
 refine ⟨_,_,f4,Ae.no _ _ _ (by decide +kernel),⟨q,row,_,4,num d.off,0,30,d.off,rfl,R4,rfl,zm (by omega) (by omega) (by omega) (by omega),m4,fun H5 s5 n5 R5=>?_⟩⟩
 obtain ⟨_,dx5,ta5,f5,g5⟩:=id R5
 have x5:=x4.trans s5
 have m5:=n5 m4
 (walk_at "RD")
 refine ⟨_,_,f5,Ae.no _ _ _ (by decide +kernel),⟨q,row,_,5,num d.near,0,30,d.near,rfl,R5,rfl,zm (by omega) (by omega) (by omega) (by omega),m5,fun H6 s6 n6 R6=>?_⟩⟩
 obtain ⟨_,dx6,ta6,f6,g6⟩:=id R6
 have x6:=x5.trans s6
 have m6:=n6 m5
 (walk_at "RD")
 refine ⟨_,_,f6,Ae.no _ _ _ (by decide +kernel),⟨q,row,_,6,num d.least,1,60,d.least,rfl,R6,rfl,zm (by omega) (by omega) (by omega) (by omega),m6,fun H7 s7 n7 R7=>?_⟩⟩
 obtain ⟨_,dx7,ta7,f7,g7⟩:=id R7
 have x7:=x6.trans s7
 have m7:=n7 m6
 (walk_at "RD")
 refine ⟨_,_,f7,Ae.no _ _ _ (by decide +kernel),⟨q,row,_,7,rfl,R7,rfl,?_⟩⟩
 (walk_at "RD")
 refine ⟨d,rfl,hd.k,fun x H8 s8 n8 w8 hx8=>?_⟩
 refine qq x H8 (x7.trans (Jc.of s8)) (n8 m7) w8 ?_
 cases hH:H x with
 | none=>rfl
 | some u=>
  by_cases hxq:x=q
  ·subst hxq;rw [f7] at hx8;cases hx8
  ·rw [x7 x u hxq hH] at hx8;cases hx8
end
end My
namespace My
open PySem L2
noncomputable abbrev rB:List Str:=[Str.ofString "places",Str.ofString "ways",Str.ofString "numbers"]
noncomputable def cF (n:Int) (wl nd:Addr):List (Str × V):=[(Str.ofString "places",.int n),(Str.ofString "ways",.ref wl),(Str.ofString "numbers",.ref nd)]
theorem nu (n:Int) (wl nd:Addr):(cF n wl nd).map (·.1)=rB:=rfl
noncomputable def nm (ds:List WD) (i:Nat):Str:=((ds[i]?).map (·.name)).getD (Str.ofString "")
noncomputable def PB (ds:List WD) (i:Nat):List (Key × V):=(List.range i).map fun j=>(Sum.inr (nm ds j),V.int j)
theorem nw {ds:List WD} {i:Nat} {d:WD} (h:ds[i]? = some d):nm ds i=d.name:=by unfold nm;rw [h];rfl
theorem Lz {ds:List WD} (h:(ds.map (·.name)).Nodup) {i j:Nat} (hi:i < ds.length) (hj:j < ds.length) (e:nm ds i=nm ds j):i=j:=by
 rw [nw (List.getElem?_eq_getElem hi),nw (List.getElem?_eq_getElem hj)] at e
 have:=(List.getElem_inj (xs:=ds.map (·.name)) (i:=i) (j:=j) (h₀:=by rw [List.length_map];exact hi) (h₁:=by rw [List.length_map];exact hj) h).mp (by rw [List.getElem_map,List.getElem_map];exact e)
 exact this
theorem cH {ds:List WD} (h:(ds.map (·.name)).Nodup) {i:Nat}:∀ {n:Nat},i < n→n ≤ ds.length→Uo (PB ds n) (Sum.inr (nm ds i))=some (.int i):=by
 intro n
 induction n with
 | zero=>intro hi _;omega
 | succ n ih=>
  intro hi hn
  unfold PB Uo
  rw [List.range_succ,List.map_append,List.find?_append]
  by_cases c:i < n
  ·have:=ih c (by omega)
   unfold PB Uo at this
   cases e:List.find? (fun kv=>decide (kv.fst=Sum.inr (nm ds i))) (List.map (fun j=>((Sum.inr (nm ds j):Key),V.int j)) (List.range n)) with
   | none=>rw [e] at this;cases this
   | some p=>rw [e] at this;exact this
  ·have e:i=n:=by omega
   subst e
   have no:List.find? (fun kv=>decide (kv.fst=Sum.inr (nm ds i))) (List.map (fun j=>((Sum.inr (nm ds j):Key),V.int j)) (List.range i))=none:=by
    rw [List.find?_eq_none]
    intro p hp
    obtain ⟨j,hj,rfl⟩:=List.mem_map.mp hp
    have hj':=List.mem_range.mp hj
    simp only [decide_eq_true_eq]
    intro z
    have:=Lz h (by omega) (by omega) (Sum.inr.inj z)
    omega
   rw [no]
   simp
theorem vH {ds:List WD} (h:(ds.map (·.name)).Nodup) {n:Nat} (hn:n < ds.length):Fv (PB ds n) (Sum.inr (nm ds n)) (.int n)=PB ds (n + 1):=by
 unfold Fv
 have no:((PB ds n).any fun kv=>decide (kv.1=Sum.inr (nm ds n)))=false:=by
  rw [List.any_eq_false]
  intro p hp
  obtain ⟨j,hj,rfl⟩:=List.mem_map.mp hp
  have hj':=List.mem_range.mp hj
  simp only [decide_eq_true_eq]
  intro z
  have:=Lz h (by omega) hn (Sum.inr.inj z)
  omega
 rw [no]
 unfold PB
 rw [List.range_succ,List.map_append]
 rfl
theorem Xd {H H1 H2:Hp} {q:Addr} (a:Xb H H1) (b:Jc q H1 H2) (n:H q=none):Xb H H2:=fun c u e=>b c u (ub e n) (a c u e)
theorem WH {t:Adr} {H:Hp} {p q:Addr} {i j:Int} {ws vs:List Str} {k l:Nat} (a:Ae t H p i ws k) (b:Ae t H q j vs l) (n:i ≠ j):p ≠ q:=fun z=>by
 subst z
 obtain ⟨_,dx,ta,e1,_⟩:=a
 obtain ⟨_,dx',ta',e2,_⟩:=b
 rw [e1] at e2
 have e3:=Option.some.inj e2
 injection e3 with _ _ e4
 unfold rdF at e4
 injection e4 with e5 _
 injection e5 with _ e6
 injection e6 with e7
 exact n e7
theorem Jv {t:Adr} {H:Hp} {p q:Addr} {d:WD} {j:Int} {vs:List Str} {l:Nat} (a:Ke t H p d) (b:Ae t H q j vs l):p ≠ q:=fun z=>by
 subst z
 obtain ⟨_,dx,e1⟩:=a
 obtain ⟨_,dx',ta',e2,_⟩:=b
 rw [e1] at e2
 have e3:=Option.some.inj e2
 injection e3 with _ _ e4
 exact absurd (congrArg List.length e4) (by show ¬ (7:Nat)=3;decide)
noncomputable def Rc (t:Adr) (H:Hp) (c:Addr) (n:Int) (ds:List WD):Prop:=
 ((ds.map (·.name)).Nodup∧ds.length ≤ 12)∧∃ dx wl nd,H c=some (.ins t.Mb dx (cF n wl nd))∧wk t H wl ds∧H nd=some (.dK (PB ds ds.length))
theorem Rc.same {t:Adr} {H H':Hp} {c:Addr} {n:Int} {ds:List WD} (h:Rc t H c n ds) (s:Xb H H'):Rc t H' c n ds:=by
 obtain ⟨h0,dx,wl,nd,e1,e2,e3⟩:=h
 exact ⟨h0,dx,wl,nd,s _ _ e1,e2.same s,s _ _ e3⟩
theorem yz {m:Str} (n:Int) (wl nd:Addr) (h:rB.contains m=false):(cF n wl nd).lookup m=none:=Fm rB (nu ..) h
section
variable {w:World} {K:PySem.W.Frag} {mg:Str→Option Value} {t:Adr} {H:Hp} {c dx wl nd:Addr} {n:Int}
theorem cG (T:Txt w K mg t) (e:H c=some (.ins t.Mb dx (cF n wl nd))):xk K H c (Str.ofString "places") (.int n):=⟨_,dx,_,e,T.Lb,T.Dh,Gc rB 0 (nu ..) (by decide +kernel) rfl⟩
theorem XI (T:Txt w K mg t) (e:H c=some (.ins t.Mb dx (cF n wl nd))):xk K H c (Str.ofString "ways") (.ref wl):=⟨_,dx,_,e,T.Lb,T.zj,Gc rB 1 (nu ..) (by decide +kernel) rfl⟩
theorem Wp (T:Txt w K mg t) (e:H c=some (.ins t.Mb dx (cF n wl nd))):xk K H c (Str.ofString "numbers") (.ref nd):=⟨_,dx,_,e,T.Lb,T.bh,Gc rB 2 (nu ..) (by decide +kernel) rfl⟩
end
noncomputable def LI (t:Adr):Sp:=fun vs H Q _=>∃ c dx n wl ds,vs=[.ref c,.int n,.ref wl]∧H c=some (.ins t.Mb dx [])∧wk t H wl ds∧(ds.map (·.name)).Nodup∧ds.length ≤ 12∧NoT H ∧
 ∀ H',Jc c H H'→NoT H'→Rc t H' c n ds→Q .non H'
noncomputable def gN (t:Adr):Sp:=fun vs H Q _=>∃ n ds,vs=[.str (lv n ds)]∧COk n ds∧NoT H∧∀ c H',Xb H H'→NoT H'→Rc t H' c n ds→Q (.ref c) H'
noncomputable def vn (t:Adr):Sp:=fun vs H Q _=>∃ c n ds,vs=[.ref c]∧Rc t H c n ds∧∀ p,H p=none→Q (.ref p) (upd H p (.lst (Ib (ds.map (·.name)))))
noncomputable def Lw (t:Adr):Sp:=fun vs H Q _=>∃ c n ds,∃ i:Nat,∃ d,vs=[.ref c,.str d.name]∧Rc t H c n ds∧ds[i]? = some d∧Q (.int (i:Nat)) H
noncomputable def Ci (t:Adr):Sp:=fun vs H Q _=>∃ c n ds,∃ i:Nat,∃ d,vs=[.ref c,.str d.name]∧Rc t H c n ds∧ds[i]? = some d∧∀ a,Ke t H a d→Q (.ref a) H
section
variable {P:Program} {w:World} {K:PySem.W.Frag} {mg:Str→Option Value} {base:Heap} {t:Adr}
theorem EM (T:Txt w K mg t):Eb P w K mg base CX0 1 t.Ie t.sf ["self","places","ways"] (LI t):=by
 refine T.Ak.ok Se (fun vs H Q E h=>?_) (fun cdv A outer s H vs Q E hr h=>?_)
 ·obtain ⟨c,dx,n,wl,ds,rfl,_⟩:=h;rfl
 obtain ⟨c,dx,n,wl,ds,rfl,hc,hW,hnd,hdl,nt,q⟩:=h
 have hu:=CH hr
 refine ⟨_,(cb (Bf (pv 0) (pv 1) rfl)
   (cb (Bf (pv 0) (pv 2) rfl)
   (cb (Bf (pv 0) Fp rfl)
   (gb (Zd PassesOwn.never rfl (jq rfl T.vh (bb (pv 2) fb)) (Hf (K:=K) (n:=2) rfl rfl (Vb (zb (i:=3) Se.nd rfl (Or.inl rfl) (.inl rfl)) (Vb (zb (i:=4) Se.nd rfl (Or.inl rfl) (.inl rfl)) Lf))) (gb (lu hu (Tc (pv 0) rfl) (Tc (pv 4) rfl) (pv 3) rfl))))))),?_⟩
 (walk_at "RD")
 refine ⟨_,_,_,hc,T.Lb,T.Dh,by decide,?_⟩
 refine ⟨_,_,_,db,T.Lb,T.zj,Jn (n:=999) (by decide),fun nd hn=>?_⟩
 simp only [Ui] at hn ⊢
 rw [show Qg (Str.ofString "places") (V.int n) ([]:List (Str × V))=[(Str.ofString "places",V.int n)] from rfl,show Qg (Str.ofString "ways") (V.ref wl) [(Str.ofString "places",V.int n)]=[(Str.ofString "places",V.int n),(Str.ofString "ways",V.ref wl)] from ad [Str.ofString "places"] rfl (by decide +kernel)] at hn ⊢
 have hnc:c ≠ nd:=fun z=>by subst z;rw [db] at hn;cases hn
 refine ⟨t.Mb,dx,[(Str.ofString "places",V.int n),(Str.ofString "ways",V.ref wl)],by rw [lb hnc];exact db,T.Lb,T.bh,show (2:Nat) < 1000 by decide,?_⟩
 rw [show Qg (Str.ofString "numbers") (V.ref nd) [(Str.ofString "places",V.int n),(Str.ofString "ways",V.ref wl)]=cF n wl nd from ad [Str.ofString "places",Str.ofString "ways"] rfl (by decide +kernel)]
 obtain ⟨as,w1,w2,al⟩:=hW
 have hHn:H nd=none:=by rw [lb (Ne.symm hnc)] at hn;exact hn
 have sx:Jc c H (upd (upd (upd H c (.ins t.Mb dx [(Str.ofString "places",V.int n),(Str.ofString "ways",V.ref wl)])) nd (.dK [])) c (.ins t.Mb dx (cF n wl nd))):=fun b u hb e=>by
  rw [lb hb,lb (ub e hHn),lb hb];exact e
 have hwc:wl ≠ c:=Fe w1 hc (by intro z;cases z)
 refine ⟨⟨_,SqL.of (sx _ _ hwc w1)⟩,?_⟩
 refine ni.enum (xs:=as.map V.ref) (fun i σ H'=>(∃ x y,σ=[some (V.ref c),some (V.int n),some (V.ref wl),x,y])∧H' c=some (.ins t.Mb dx (cF n wl nd))∧H' nd=some (.dK (PB ds i))∧Jc c H H'∧NoT H') ?_ ?_ ?_ ?_
 ·exact ⟨⟨_,_,rfl⟩,db,by rw [lb (Ne.symm hnc),db];rfl,sx,((nt.upd).upd).upd⟩
 ·rintro i σ H' hi ⟨_,_,_,sx',_⟩
  exact SqL.of (sx' _ _ hwc w1)
 ·rintro i v σ H' p hv ⟨⟨x,y,rfl⟩,h1,h2,sx',nt'⟩ hp
  obtain ⟨a,ha,rfl⟩:=yc hv
  obtain ⟨hi,_⟩:=List.getElem?_eq_some_iff.mp ha
  have hid:i < ds.length:=by omega
  have hd:ds[i]? = some ds[i]:=List.getElem?_eq_getElem hid
  have Wa:Ke t H a ds[i]:=al i a _ ha hd
  have hac:a ≠ c:=by
   obtain ⟨_,dx',e⟩:=Wa
   intro z
   subst z
   rw [hc] at e
   have e2:=Option.some.inj e
   injection e2 with _ _ e3
   exact absurd (congrArg List.length e3) (by show ¬ (0:Nat)=7;decide)
  have Wa':Ke t H' a ds[i]:=⟨Wa.1,Wa.2.imp fun dx' e=>sx' _ _ hac e⟩
  have sp:Xb H' (upd H' p (.tup [.int i,.ref a])):=jb hp
  refine ik ?_
  (walk_at "RD")
  refine ⟨_,Wp T (sp _ _ h1),_,(Wa'.same sp).f_name T,_,rfl,_,OA.k (k:=Sum.inr ds[i].name) (sp _ _ h2) (Nat.lt_of_le_of_lt (show (PB ds i).length ≤ 12 by unfold PB;rw [List.length_map,List.length_range];omega) (by decide)),?_⟩
  rw [← nw hd,vH hnd hid]
  refine ⟨⟨_,rfl⟩,?_,db,fun b u hb e=>?_,(nt'.upd).upd⟩
  ·rw [lb hnc];exact sp _ _ h1
  ·rw [lb (ub e hHn)];exact sp _ _ (sx' b u hb e)
 ·rintro σ H' ⟨⟨x,y,rfl⟩,h1,h2,sx',nt'⟩
  (walk_at "RD")
  rw [List.length_map,w2] at h2
  refine q H' sx' nt' ⟨⟨hnd,hdl⟩,dx,wl,nd,h1,⟨as,sx' _ _ hwc w1,w2,fun i a d h3 h4=>?_⟩,h2⟩
  have Wa:=al i a d h3 h4
  have hac:a ≠ c:=by
   obtain ⟨_,dx',e⟩:=Wa
   intro z
   subst z
   rw [hc] at e
   have e2:=Option.some.inj e
   injection e2 with _ _ e3
   exact absurd (congrArg List.length e3) (by show ¬ (0:Nat)=7;decide)
  exact ⟨Wa.1,Wa.2.imp fun dx' e=>sx' _ _ hac e⟩
theorem xF (T:Txt w K mg t):Eb P w K mg base CX0 1 t.ce t.Me ["self","name"] (Lw t):=by
 refine T.Mi.ok Om (fun vs H Q E h=>?_) (fun cdv A outer s H vs Q E hr h=>?_)
 ·obtain ⟨c,n,ds,i,d,rfl,_⟩:=h;rfl
 obtain ⟨c,n,ds,i,d,rfl,⟨⟨hnd,hdl⟩,dx,wl,nd,e1,e2,e3⟩,hd,q⟩:=h
 have hu:=CH hr
 have hv:Uo (PB ds ds.length) (Sum.inr d.name)=some (.int i):=by
  rw [← nw hd]
  exact cH hnd (List.getElem?_eq_some_iff.mp hd).1 (Nat.le_refl _)
 have hg:pp H nd (.str d.name) (some (.int i)):=by rw [← hv];exact pp.k (k:=Sum.inr d.name) e3
 refine ⟨_,(cb (ge (LN (vF hu (pv 1) (Tc (pv 0) rfl))) (gb Lk) Zb)
   (gb (Fb (Ny hu (Tc (pv 0) rfl) (pv 1) (fun _ _=>rfl))))),?_⟩
 (walk_at "RD")
 refine Rb false (fun Q hQ=>?_) (fun hc=>nomatch hc) (fun _=>?_)
 ·(walk_at "RD")
  refine ⟨_,Wp T e1,_,rfl,_,hg,?_⟩
  exact hQ
 ·(walk_at "RD")
  exact ⟨_,Wp T e1,_,rfl,_,hg,q⟩
theorem Mj (T:Txt w K mg t):Eb P w K mg base CX0 2 t.vc t.Ec ["self","name"] (Ci t):=by
 have G_Crossing_number:Eb P w K mg base CX0 1 t.ce t.Me ["self","name"] (Lw t):=xF T
 refine T.yi.ok yn (fun vs H Q E h=>?_) (fun cdv A outer s H vs Q E hr h=>?_)
 ·obtain ⟨c,n,ds,i,d,rfl,_⟩:=h;rfl
 obtain ⟨c,n,ds,i,d,rfl,C,hd,q⟩:=h
 obtain ⟨⟨hnd,hdl⟩,dx,wl,nd,e1,⟨as,w1,w2,al⟩,e3⟩:=id C
 refine ⟨_,(gb (Fb (Nc Hd (Tc (pv 0) rfl) (Vc (pv 0) T.Lb T.Pn G_Crossing_number hr T.eo .nil Cb (bb (pv 1) fb)) (fun _ _=>rfl)))),?_⟩
 (walk_at "RD")
 refine ⟨_,XI T e1,_,_,e1,yz _ _ _ (by decide +kernel),⟨c,n,ds,i,d,rfl,C,hd,?_⟩⟩
 have hi:i < as.length:=by rw [w2];exact (List.getElem?_eq_some_iff.mp hd).1
 have ha:as[i]? = some as[i]:=List.getElem?_eq_getElem hi
 (walk_at "RD")
 refine ⟨_,SqL.of w1,_,Ic (show (as.map V.ref)[i]? = some (V.ref as[i]) by rw [List.getElem?_map,ha];rfl),?_⟩
 exact q as[i] (al i _ d ha hd)
theorem lQ (T:Txt w K mg t):Eb P w K mg base CX0 7 t.rf t.tf ["text"] (gN t):=by
 have G_readers:Eb P w K mg base CX0 6 t.Pj t.qk ["text"] (so t):=(bu T).mono (by decide)
 have G_read_ring:Eb P w K mg base CX0 6 t.Ri t.mj ["reader"] (AC t):=(WL T).mono (by decide)
 have G_read_way:Eb P w K mg base CX0 6 t.Yk t.Vk ["reader","places","ways"] (EI t):=IO T
 have G_Crossing_init:Eb P w K mg base CX0 5 t.Ie t.sf ["self","places","ways"] (LI t):=(EM T).mono (by decide)
 refine T.rh.ok pe (fun vs H Q E h=>?_) (fun cdv A outer s H vs Q E hr h=>?_)
 ·obtain ⟨n,ds,rfl,_⟩:=h;rfl
 obtain ⟨n,ds,rfl,hC,nt,qq⟩:=h
 refine ⟨_,(cb (Ab (i:=1) pe.nd rfl (Or.inl rfl) (yb G_readers hr rfl T.uw T.Mm.kp T.Uw .nil Cb (bb (pv 0) fb)))
   (cb (Ab (i:=2) pe.nd rfl (Or.inl rfl) (yb G_read_ring hr rfl T.qy T.rm.kp T.my .nil Cb (bb (Nc Hd (pv 1) rb (fun _ _=>rfl)) fb)))
   (cb (Ab (i:=3) pe.nd rfl (Or.inl rfl) (Df fb))
   (cb (Zd PassesOwn.never rfl (ae (Wk ux (pv 1) (wo rb) Kn)) (zb (i:=4) pe.nd rfl (Or.inl rfl)) (cb (ge (Sb bi (Hc Pc rfl T.Mn Dd (bb (pv 3) fb)) (Id rfl T.cx T.yx) (uc _)) (gb Lk) Zb)
   (gb (lc (Cr PySem.F.plainAttrs_list PySem.F.slot_list_append PySem.F.type_list_append ah (pv 3) (bb (yb G_read_way hr rfl T.nA T.Ao.kp T.LA .nil Cb (bb (pv 4) (bb (pv 2) (bb (pv 3) fb)))) fb))))))
   (cb (ge (Zm (fA (pv 3) (fun _=>rfl))) (gb Lk) Zb)
   (gb (Fb (ao T.xB G_Crossing_init hr rfl T.vA T.Qq .nil Cb (bb (pv 2) (bb (pv 3) fb)))))))))),?_⟩
 have hrow:=CA hC
 have hlen:=tE hC
 have hnn:=hC.nn
 have hln:=hC.ln
 (walk_at "RD")
 refine ⟨lv n ds,rfl,by omega,?_,nt,fun p H1 sm1 nt1 R=>?_⟩
 ·rw [hrow]
  intro r hr
  refine ⟨?_,fun x hx=>Nat.le_trans (hC.plain r hr x hx).1 (by decide)⟩
  rcases List.mem_cons.mp hr with rfl | hr
  ·show (2:Nat) ≤ 1000;decide
  ·obtain ⟨d,hd,rfl⟩:=List.mem_map.mp hr
   show (7:Nat) ≤ 1000;decide
 rw [hrow] at R
 obtain ⟨qs,hp,hp0,hql,hqa⟩:=R
 have hql':qs.length=ds.length + 1:=by rw [hql];simp [ii]
 obtain ⟨q0,qr,rfl⟩:∃ q0 qr,qs=q0 :: qr:=by
  cases qs with
  | nil=>simp at hql'
  | cons a b=>exact ⟨a,b,rfl⟩
 obtain ⟨R0,hq0⟩:=hqa 0 q0 _ rfl rfl
 (walk_at "RD")
 refine ⟨_,SqL.of hp,_,Ic (j:=0) rfl,⟨q0,_,n,rfl,R0,hnn,nt1,fun H2 s2 nt2=>⟨Nat.zero_le _,fun wl hwl=>?_⟩⟩⟩
 obtain ⟨C0,dq0,fq0,hins⟩:=R0.ins
 have hpq:p ≠ q0:=Fe hp hins (by intro z;cases z)
 have hp2:H2 p=some (.lst ((q0 :: qr).map V.ref)):=s2 _ _ hpq hp
 have swl:Xb H2 (upd H2 wl (.lst [])):=jb hwl
 have hcut:Oy ((q0 :: qr).map V.ref) (some 1) none=qr.map V.ref:=by
  unfold Oy
  simp [HT.sIx]
  exact List.take_of_length_le (by rw [List.length_map];exact Nat.le_refl _)
 refine ⟨_,SqL.of (swl _ _ hp2),fun pc hpc=>?_⟩
 rw [hcut]
 have hpw:pc ≠ wl:=fun z=>by subst z;rw [db] at hpc;cases hpc
 have spc:Xb (upd H2 wl (.lst [])) (upd (upd H2 wl (.lst [])) pc (.lst (qr.map V.ref))):=jb hpc
 refine ⟨⟨_,SqL.of db⟩,?_⟩
 have sH2:Xb H H2:=Xd sm1 s2 hq0
 have hqrl:qr.length=ds.length:=by simpa using hql'
 refine ni.list (xs:=qr.map V.ref) (fun i σ H'=>(∃ x,σ=[some (V.str (lv n ds)),some (V.ref p),some (V.int n),some (V.ref wl),x])∧NoT H'∧Xb H H'∧H' pc=some (.lst (qr.map V.ref))∧H wl=none∧wk t H' wl (ds.take i) ∧
  ∀ (j:Nat) (q:Addr) (d:WD),i ≤ j→qr[j]? = some q→ds[j]? = some d→Ae t H' q ((j + 1:Nat):Int) (Oj d) 0∧H q=none) ?_ ?_ ?_ ?_
 ·refine ⟨⟨_,rfl⟩,(nt2.upd).upd,(sH2.trans swl).trans spc,db,sH2.free hwl,⟨[],spc _ _ db,rfl,fun j a d h=>by simp at h⟩,fun j q d _ h1 h2=>?_⟩
  have hr:(ii n ds)[j + 1]? = some (Oj d):=by
   unfold ii
   rw [List.getElem?_cons_succ,List.getElem?_map,h2];rfl
  obtain ⟨Rj,hqj⟩:=hqa (j + 1) q _ (by rw [List.getElem?_cons_succ];exact h1) hr
  refine ⟨((Rj.sameX s2 (WH Rj R0 (by omega)) R0.ins).same swl).same spc,hqj⟩
 ·rintro i σ H' hi ⟨_,_,_,h,_⟩
  exact SqL.of h
 ·rintro i v σ H' hv ⟨⟨x,rfl⟩,nt',sm',hpc',hwl0,W,Rs⟩
  obtain ⟨q,hq,rfl⟩:=yc hv
  obtain ⟨hi,_⟩:=List.getElem?_eq_some_iff.mp hq
  have hid:i < ds.length:=by omega
  have hd:ds[i]? = some ds[i]:=List.getElem?_eq_getElem hid
  obtain ⟨Rq,hqn⟩:=Rs i q _ (Nat.le_refl _) hq hd
  have htl:(ds.take i).length=i:=by rw [List.length_take];omega
  obtain ⟨as,w1,w2,al⟩:=id W
  (walk_at "RD")
  refine Rb false (fun Q hQ=>?_) (fun hc=>nomatch hc) (fun _=>?_)
  ·(walk_at "RD")
   refine ⟨_,.inl (SqL.of w1),?_⟩
   rw [List.length_map,w2,htl]
   rw [decide_eq_false (by omega)] <;> exact hQ
  ·(walk_at "RD")
   refine ⟨.inl ⟨_,SqL.of w1⟩,?_⟩
   refine ⟨q,_,n,wl,ds.take i,ds[i],rfl,Rq,hC.al _ (List.getElem_mem hid),hnn,W,by omega,fun e he z=>?_,nt',fun y H3 s3 nt3 w3 hy3=>?_⟩
   ·obtain ⟨j,hj,rfl⟩:=List.getElem_of_mem he
    rw [List.getElem_take] at z
    have hj':j < i:=by omega
    have:=Lz hC.nd (i:=j) (j:=i) (by omega) hid (by rw [nw (List.getElem?_eq_getElem (by omega)),nw hd];exact z)
    omega
   ·(walk_at "RD")
    obtain ⟨Cq,dq,fq,hqi⟩:=Rq.ins
    have hwq:wl ≠ q:=Fe w1 hqi (by intro z;cases z)
    have hw3:H3 wl=some (.lst (as.map V.ref)):=s3 _ _ hwq w1
    have hsm3:Xb H H3:=Xd sm' s3 hqn
    refine ⟨_,hw3,Nat.lt_of_le_of_lt (show (as.map V.ref).length ≤ 12 by rw [List.length_map];omega) (by decide),?_⟩
    have hyw:y ≠ wl:=fun z=>by
     subst z
     rw [w1] at hy3;cases hy3
    refine ⟨⟨_,rfl⟩,nt3.upd,fun b u e=>?_,?_,hwl0,⟨as ++ [y],by rw [db,List.map_append];rfl,?_,fun j a d h1 h2=>?_⟩,fun j q' d hj h1 h2=>?_⟩
    ·rw [lb (ub e hwl0)];exact hsm3 _ _ e
    ·rw [lb hpw]
     exact s3 _ _ (Fe hpc' hqi (by intro z;cases z)) hpc'
    ·rw [List.length_append,w2,htl,List.length_take];show i + 1=_;omega
    ·by_cases hj:j < as.length
     ·rw [List.getElem?_append_left hj] at h1
      have h2':(ds.take i)[j]? = some d:=by
       rw [List.getElem?_take_of_lt (by omega)]
       rw [List.getElem?_take_of_lt (by omega)] at h2
       exact h2
      obtain ⟨hk,dx',e⟩:=al j a d h1 h2'
      have haq:a ≠ q:=Jv ⟨hk,dx',e⟩ Rq
      have haw:a ≠ wl:=Fe e w1 (by intro z;cases z)
      exact ⟨hk,dx',by rw [lb haw];exact s3 _ _ haq e⟩
     ·rw [List.getElem?_append_right (by omega)] at h1
      have hj0:j - as.length=0:=by
       cases hh:j - as.length with
       | zero=>rfl
       | succ m=>rw [hh] at h1;simp at h1
      rw [hj0] at h1
      have e3:y=a:=by simpa using h1
      subst e3
      have e4:j=i:=by omega
      subst e4
      rw [List.getElem?_take_of_lt (by omega),hd] at h2
      cases h2
      exact ⟨w3.1,w3.2.imp fun dx' e=>by rw [lb hyw];exact e⟩
    ·obtain ⟨Rj,hqj⟩:=Rs j q' d (by omega) h1 h2
     have R3:=Rj.sameX s3 (WH Rj Rq (by omega)) Rq.ins
     refine ⟨?_,hqj⟩
     obtain ⟨hz,dx',ta,e1,e2⟩:=R3
     refine ⟨hz,dx',ta,by rw [lb (Fe e1 hw3 (by intro z;cases z))];exact e1,?_⟩
     rw [lb (fun z=>by
      subst z
      rw [hw3] at e2
      have e5:=Option.some.inj e2
      injection e5 with e6
      cases as with
      | nil=>exact absurd (congrArg List.length e6) (by show ¬ (0:Nat)=7;decide)
      | cons a r=>injection e6 with e7 _;cases e7)]
     exact e2
 ·rintro σ H' ⟨⟨x,rfl⟩,nt',sm',hpc',hwl0,W,Rs⟩
  rw [List.length_map,hqrl,List.take_length] at W
  obtain ⟨as,w1,w2,al⟩:=id W
  (walk_at "RD")
  refine Rb false (fun Q hQ=>?_) (fun hc=>nomatch hc) (fun _=>?_)
  ·(walk_at "RD")
   refine ⟨true,.inl ⟨_,SqL.of w1,?_⟩,hQ⟩
   cases as with
   | nil=>simp at w2;omega
   | cons a r=>rfl
  ·(walk_at "RD")
   intro c dx hc hdx hne
   have sc:Xb H' (upd (upd H' dx (.own c)) c (.ins t.Mb dx [])):=((Xb.refl H').updN hdx).updN hc
   refine ⟨c,dx,n,wl,ds,rfl,db,W.same sc,hC.nd,hln.2,(nt'.upd).upd,fun H5 s5 nt5 C5=>⟨rfl,?_⟩⟩
   exact qq c H5 (Xd (sm'.trans sc) s5 (sm'.free hc)) nt5 C5
end
section
variable {P:Program} {w:World} {K:PySem.W.Frag} {mg:Str→Option Value} {base:Heap} {t:Adr}
theorem Cp (T:Txt w K mg t):Eb P w K mg base CX0 1 t.Qc t.vd ["self"] (vn t):=by
 refine T.Cj.ok ko (fun vs H Q E h=>?_) (fun cdv A outer s H vs Q E hr h=>?_)
 ·obtain ⟨c,n,ds,rfl,_⟩:=h;rfl
 obtain ⟨c,n,ds,rfl,⟨⟨hnd,hdl⟩,dx,wl,nd,e1,⟨as,w1,w2,al⟩,e3⟩,q⟩:=h
 refine ⟨_,(gb (Fb (Qi rfl (ae (Tc (pv 0) rfl)) (Vd (sc:=ib Ag) rfl (by decide +kernel)) (N:=["way"]) (sel:=[none]) (Le (M:=["self"]) (by decide +kernel)) (Blk.of (fun _ _ _ _=>(zb (i:=0) (Ii (N:=["way"]) (by decide +kernel) rfl) rfl (Or.inl rfl))) (fun _ _ _ _=>⟨_,Xh,by first | rfl | (dsimp only [Cx.block];done) | (dsimp only [Cx.block];exact rfl)⟩) (fun _ _ _ _=>⟨_,(Tc (pv 0) rfl),by first | rfl | (dsimp only [Cx.block];done) | (dsimp only [Cx.block];exact rfl)⟩))))),?_⟩
 (walk_at "RD")
 refine ⟨_,XI T e1,_,rfl,⟨_,SqL.of w1⟩,?_⟩
 refine de.list_zs (xs:=as.map V.ref) (zs:=Ib (ds.map (·.name))) (SqL.of w1) (by rw [List.length_map,w2];exact Nat.le_trans hdl (by decide)) (by rw [Xm,List.length_map,List.length_map,w2]) (fun i v z N hv hz' hN=>?_) (fun p hp=>q p hp)
 obtain ⟨a,ha,rfl⟩:=yc hv
 obtain ⟨x,hx,rfl⟩:=yc hz'
 obtain ⟨d,hd,rfl⟩:=yc hx
 (walk_at "RD")
 exact ⟨Sub.name,_,(al i a d ha hd).f_name T,hN⟩
end
end My
namespace My
open PySem L2
theorem nJ {n s j:Int} (h0:0 ≤ s) (h1:s < n) (h2:0 ≤ j) (h3:j < n):(s + j) % n=if s + j < n then s + j else s + j - n:=by
 split
 ·rename_i h;exact Int.emod_eq_of_lt (by omega) h
 ·rename_i h
  have e:s + j=(s + j - n) + n:=by omega
  rw [e,Int.add_emod_right]
  have:s + j - n + n - n=s + j - n:=by omega
  rw [this]
  exact Int.emod_eq_of_lt (by omega) (by omega)
theorem IM {n s p:Int} (h0:0 ≤ s) (h1:s < n) (h2:0 ≤ p) (h3:p < n):(p - s) % n=if s ≤ p then p - s else p - s + n:=by
 split
 ·rename_i h;exact Int.emod_eq_of_lt (by omega) (by omega)
 ·rename_i h
  have e:(p - s) % n=(p - s + n) % n:=(Int.add_emod_right ..).symm
  rw [e]
  exact Int.emod_eq_of_lt (by omega) (by omega)
theorem Aw {n s p j:Int} (h0:0 ≤ s) (h1:s < n) (h2:0 ≤ p) (h3:p < n) (h4:0 ≤ j) (h5:j < n):(s + j) % n=p↔(p - s) % n=j:=by
 rw [nJ h0 h1 h4 h5,IM h0 h1 h2 h3]
 constructor <;> intro h <;> split at h <;> split <;> omega
noncomputable def ind (n s p i:Int):Int:=if 0 < (p - s) % n∧(p - s) % n ≤ i then 1 else 0
theorem Zz {n s p i:Int} (h0:0 ≤ s) (h1:s < n) (h2:0 ≤ p) (h3:p < n) (h4:0 ≤ i) (h5:i + 1 < n):ind n s p (i + 1)=ind n s p i + (if (s + (i + 1)) % n=p then 1 else 0):=by
 have k:=Aw (j:=i + 1) h0 h1 h2 h3 (by omega) h5
 unfold ind
 by_cases c:(s + (i + 1)) % n=p
 ·have e:=k.mp c
  rw [if_pos c,e,if_pos (by omega),if_neg (by omega)];rfl
 ·have e:¬ (p - s) % n=i + 1:=fun z=>c (k.mpr z)
  rw [if_neg c]
  by_cases d:0 < (p - s) % n∧(p - s) % n ≤ i
  ·rw [if_pos d,if_pos (by omega)];rfl
  ·rw [if_neg d,if_neg (by omega)];rfl
noncomputable def Wn (n s f p:Int):Bool:=decide (0 < (p - s) % n) && decide ((p - s) % n < (f - s) % n)
noncomputable def RE (n s f s2 f2:Int):Bool:=decide (f=f2) || (if (s2=s∨s2=f)∨(f2=s∨f2=f) then false else (Wn n s f s2 != Wn n s f f2))
theorem zG {n s f s2 f2:Int} (hs:0 ≤ s∧s < n) (hf:0 ≤ f∧f < n) (hs2:0 ≤ s2∧s2 < n) (hf2:0 ≤ f2∧f2 < n) (h1:f ≠ f2) (h2:¬ ((s=s2∨s=f2)∨f=s2)) :
  decide (ind n s s2 ((f - s) % n) + ind n s f2 ((f - s) % n)=1)=RE n s f s2 f2:=by
 have k1:=(Aw (n:=n) (s:=s) (p:=f) (j:=(s2 - s) % n) hs.1 hs.2 hf.1 hf.2 (Int.emod_nonneg _ (by omega)) (Int.emod_lt_of_pos _ (by omega)))
 have e1:=(Aw (n:=n) (s:=s) (p:=s2) (j:=(s2 - s) % n) hs.1 hs.2 hs2.1 hs2.2 (Int.emod_nonneg _ (by omega)) (Int.emod_lt_of_pos _ (by omega))).mpr rfl
 have k2:=(Aw (n:=n) (s:=s) (p:=f) (j:=(f2 - s) % n) hs.1 hs.2 hf.1 hf.2 (Int.emod_nonneg _ (by omega)) (Int.emod_lt_of_pos _ (by omega)))
 have e2:=(Aw (n:=n) (s:=s) (p:=f2) (j:=(f2 - s) % n) hs.1 hs.2 hf2.1 hf2.2 (Int.emod_nonneg _ (by omega)) (Int.emod_lt_of_pos _ (by omega))).mpr rfl
 rw [e1] at k1
 rw [e2] at k2
 have n1:(f - s) % n ≠ (s2 - s) % n:=fun z=>h2 (.inr ((k1.mpr z).symm))
 have n2:(f - s) % n ≠ (f2 - s) % n:=fun z=>h1 ((k2.mpr z).symm)
 unfold RE Wn ind
 have hno:¬ ((s2=s∨s2=f)∨(f2=s∨f2=f)):=by omega
 rw [decide_eq_false h1,Bool.false_or,if_neg hno]
 generalize (f - s) % n=L at *
 generalize (s2 - s) % n=A at *
 generalize (f2 - s) % n=B at *
 by_cases a:0 < A∧A ≤ L
 ·by_cases b:0 < B∧B ≤ L
  ·rw [if_pos a,if_pos b,decide_eq_true a.1,decide_eq_true b.1,decide_eq_true (show A < L by omega),decide_eq_true (show B < L by omega)];decide
  ·rw [if_pos a,if_neg b,decide_eq_true a.1,decide_eq_true (show A < L by omega)]
   by_cases b':0 < B
   ·rw [decide_eq_true b',decide_eq_false (show ¬ B < L by omega)];decide
   ·rw [decide_eq_false b',Bool.false_and];decide
 ·by_cases b:0 < B∧B ≤ L
  ·rw [if_neg a,if_pos b,decide_eq_true b.1,decide_eq_true (show B < L by omega)]
   by_cases a':0 < A
   ·rw [decide_eq_true a',decide_eq_false (show ¬ A < L by omega)];decide
   ·rw [decide_eq_false a',Bool.false_and];decide
  ·rw [if_neg a,if_neg b]
   have x:(decide (0 < A) && decide (A < L))=false:=by
    rw [Bool.and_eq_false_iff];simp only [decide_eq_false_iff_not];omega
   have y:(decide (0 < B) && decide (B < L))=false:=by
    rw [Bool.and_eq_false_iff];simp only [decide_eq_false_iff_not];omega
   rw [x,y];decide
noncomputable abbrev mt (n:Int) (d e:WD):Bool:=RE n d.start d.fin e.start e.fin
noncomputable def QI (t:Adr):Sp:=fun vs H Q _=>∃ a d n p,vs=[.int n,.ref a,.int p]∧Ke t H a d∧0 < n∧Q (.bl (Wn n d.start d.fin p)) H
noncomputable def iN (n:Int) (d e:WD):Bool:=if (e.start=d.start∨e.start=d.fin)∨(e.fin=d.start∨e.fin=d.fin) then false else (Wn n d.start d.fin e.start != Wn n d.start d.fin e.fin)
noncomputable def LC (t:Adr):Sp:=fun vs H Q _=>∃ a b d e n,vs=[.int n,.ref a,.ref b]∧Ke t H a d∧Ke t H b e∧0 < n∧NoT H∧Q (.bl (iN n d e)) H
noncomputable def cI (t:Adr):Sp:=fun vs H Q _=>∃ a b d e n,vs=[.int n,.ref a,.ref b]∧Ke t H a d∧Ke t H b e∧0 < n∧∀ H',Xb H H'→Q (.bl (iN n d e)) H'
noncomputable def VE (t:Adr):Sp:=fun vs H Q _=>∃ c n ds,∃ i j:Nat,∃ d e,vs=[.ref c,.str d.name,.str e.name]∧Rc t H c n ds∧0 < n∧ds[i]? = some d∧ds[j]? = some e∧NoT H∧Q (.bl (mt n d e)) H
section
variable {P:Program} {w:World} {K:PySem.W.Frag} {mg:Str→Option Value} {base:Heap} {t:Adr}
theorem RM (T:Txt w K mg t):Eb P w K mg base CX0 1 t.Ip t.Ep ["places","way","place"] (QI t):=by
 refine T.yp.ok Uv (fun vs H Q E h=>?_) (fun cdv A outer s H vs Q E hr h=>?_)
 ·obtain ⟨a,d,n,p,rfl,_⟩:=h;rfl
 obtain ⟨a,d,n,p,rfl,W,hn,q⟩:=h
 refine ⟨_,(cb (Ab (i:=3) Uv.nd rfl (Or.inl rfl) (Pb Af (Pb zf (pv 2) (Tc (pv 1) rfl)) (pv 0)))
   (gb (Fb (JI (Te xv rb (pv 3) (uc _)) (gz (Te xv (pv 3) (Pb Af (Pb zf (Tc (pv 1) rfl) (Tc (pv 1) rfl)) (pv 0)) (uc _))))))),?_⟩
 (walk_at "RD")
 refine ⟨_,W.f_start T,_,rfl,hn,?_⟩
 unfold Wn at q
 by_cases c:0 < (p - d.start) % n
 ·rw [if_pos (decide_eq_true c)]
  rw [decide_eq_true c,Bool.true_and] at q
  exact ⟨_,W.f_end T,_,W.f_start T,_,rfl,_,rfl,hn,q⟩
 ·rw [if_neg (by simpa using c)]
  rw [decide_eq_false c,Bool.false_and] at q
  exact q
theorem jP (x a b:Int):inV (.int x) [.int a,.int b]=decide (x=a∨x=b):=by
 unfold inV
 simp only [List.any_cons,List.any_nil,eqV,Bool.or_false]
 rw [Bool.eq_iff_iff]
 simp only [Bool.or_eq_true,beq_iff_eq,decide_eq_true_eq]
 omega
theorem cK (T:Txt w K mg t):Eb P w K mg base CX0 2 t.Kh t.Hh ["places","way","second"] (LC t):=by
 refine Eb.forget (sp:=cI t) ?_ fun vs H Q E h=>?_
 ·have G_in_bow:Eb P w K mg base CX0 1 t.Ip t.Ep ["places","way","place"] (QI t):=RM T
  refine T.Qj.ok Zu (fun vs H Q E h=>?_) (fun cdv A outer s H vs Q E hr h=>?_)
  ·obtain ⟨a,b,d,e,n,rfl,_⟩:=h;rfl
  obtain ⟨a,b,d,e,n,rfl,Wa,Wb,hn,q⟩:=h
  refine ⟨_,(cb (ge (PW.pt (JB (Sb Li (Tc (pv 2) rfl) (Df (bb (Tc (pv 1) rfl) (bb (Tc (pv 1) rfl) fb))) (by with_unfolding_all rfl)) (gu (Sb Li (Tc (pv 2) rfl) (Df (bb (Tc (pv 1) rfl) (bb (Tc (pv 1) rfl) fb))) (by with_unfolding_all rfl))))) (gb (Fb En)) Zb)
   (gb (Fb (Te DA (yb G_in_bow hr rfl T.az T.yp.kp T.nz .nil Cb (bb (pv 0) (bb (pv 1) (bb (Tc (pv 2) rfl) fb)))) (yb G_in_bow hr rfl T.az T.yp.kp T.nz .nil Cb (bb (pv 0) (bb (pv 1) (bb (Tc (pv 2) rfl) fb)))) (uc _))))),?_⟩
  (walk_at "RD")
  refine Rg (fun b H'=>Xb H H'∧b=decide ((e.start=d.start∨e.start=d.fin)∨(e.fin=d.start∨e.fin=d.fin))) (fun Q hQ=>?_) (fun H' ⟨sm,hb⟩=>?_) (fun H' ⟨sm,hb⟩=>?_)
  ·(walk_at "RD")
   refine ⟨_,Wb.f_start T,_,Wa.f_start T,_,Wa.f_end T,by decide,fun p hp=>⟨_,.inl (SqL.of db),rfl,rfl,?_⟩⟩
   have s1:Xb H (upd H p (.lst [.int d.start,.int d.fin])):=jb hp
   rw [jP]
   by_cases c1:e.start=d.start∨e.start=d.fin
   ·rw [if_pos (decide_eq_true c1)]
    exact hQ _ _ ⟨s1,(decide_eq_true (.inl c1)).symm⟩
   ·rw [if_neg (by simpa using c1)]
    refine ⟨_,(Wb.same s1).f_end T,_,(Wa.same s1).f_start T,_,(Wa.same s1).f_end T,by decide,fun p2 hp2=>⟨_,.inl (SqL.of db),rfl,rfl,?_⟩⟩
    rw [jP]
    refine hQ _ _ ⟨s1.trans (jb hp2),?_⟩
    rw [Bool.eq_iff_iff,decide_eq_true_eq,decide_eq_true_eq]
    exact ⟨.inr,fun z=>z.resolve_left c1⟩
  ·(walk_at "RD")
   have hb':=of_decide_eq_true hb.symm
   have:=q H' sm
   unfold iN at this
   rw [if_pos hb'] at this
   exact this
  ·(walk_at "RD")
   have hb':=of_decide_eq_false hb.symm
   refine ⟨_,(Wb.same sm).f_start T,⟨a,d,n,_,rfl,Wa.same sm,hn,?_⟩⟩
   refine ⟨_,(Wb.same sm).f_end T,⟨a,d,n,_,rfl,Wa.same sm,hn,?_⟩⟩
   refine ⟨rfl,?_⟩
   have:=q H' sm
   unfold iN at this
   rw [if_neg hb'] at this
   rw [show (!decide (V.bl (Wn n d.start d.fin e.start)=V.bl (Wn n d.start d.fin e.fin)))=(Wn n d.start d.fin e.start != Wn n d.start d.fin e.fin) by
    cases Wn n d.start d.fin e.start <;> cases Wn n d.start d.fin e.fin <;> rfl]
   exact this
 ·obtain ⟨a,b,d,e,n,h1,h2,h3,h4,nt,q⟩:=h
  exact ⟨nt,a,b,d,e,n,h1,h2,h3,h4,fun H' sm=>⟨sm,q⟩⟩
theorem nQ (n:Int) (d e:WD):mt n d e=(decide (d.fin=e.fin) || iN n d e):=rfl
theorem zK (T:Txt w K mg t):Eb P w K mg base CX0 3 t.Iz t.Oz ["crossing","one","other"] (VE t):=by
 have G_Crossing_called:Eb P w K mg base CX0 2 t.vc t.Ec ["self","name"] (Ci t):=Mj T
 have G_bows_cross:Eb P w K mg base CX0 2 t.Kh t.Hh ["places","way","second"] (LC t):=cK T
 refine T.aF.ok jx (fun vs H Q E h=>?_) (fun cdv A outer s H vs Q E hr h=>?_)
 ·obtain ⟨c,n,ds,i,j,d,e,rfl,_⟩:=h;rfl
 obtain ⟨c,n,ds,i,j,d,e,rfl,C,hn,hd,he,nt,q⟩:=h
 obtain ⟨_,dx,wl,nd,e1,e2,e3⟩:=id C
 refine ⟨_,(cb (Ab (i:=3) jx.nd rfl (Or.inl rfl) (Vc (pv 0) T.Lb T.Zc G_Crossing_called hr T.Yc .nil Cb (bb (pv 1) fb)))
   (cb (Ab (i:=4) jx.nd rfl (Or.inl rfl) (Vc (pv 0) T.Lb T.Zc G_Crossing_called hr T.Yc .nil Cb (bb (pv 2) fb)))
   (gb (Fb (KN (Te bi (Tc (pv 3) rfl) (Tc (pv 4) rfl) (uc _)) (gz (yb G_bows_cross hr rfl T.Av T.Qj.kp T.Vv .nil Cb (bb (Tc (pv 0) rfl) (bb (pv 3) (bb (pv 4) fb)))))))))),?_⟩
 rw [nQ] at q
 (walk_at "RD")
 refine ⟨_,_,e1,yz _ _ _ (by decide +kernel),⟨c,n,ds,i,d,rfl,C,hd,fun a Wa=>?_⟩⟩
 (walk_at "RD")
 refine ⟨_,_,e1,yz _ _ _ (by decide +kernel),⟨c,n,ds,j,e,rfl,C,he,fun b Wb=>?_⟩⟩
 (walk_at "RD")
 refine ⟨_,Wa.f_end T,_,Wb.f_end T,rfl,?_⟩
 (walk_at "RD")
 by_cases c1:d.fin=e.fin
 ·rw [if_pos (decide_eq_true c1)]
  rw [decide_eq_true c1,Bool.true_or] at q
  exact q
 ·rw [if_neg (by simpa using c1)]
  rw [decide_eq_false c1,Bool.false_or] at q
  exact ⟨_,cG T e1,⟨a,b,d,e,n,rfl,Wa,Wb,hn,nt,q⟩⟩
end
noncomputable def CJ (t:Adr):Sp:=fun vs H Q _=>∃ c n ds,∃ i j:Nat,∃ d e,vs=[.ref c,.str d.name,.str e.name]∧Rc t H c n ds∧ds[i]? = some d∧ds[j]? = some e∧Q (.int (if d.off - e.near > 0 then d.off - e.near else 0)) H
section
variable {P:Program} {w:World} {K:PySem.W.Frag} {mg:Str→Option Value} {base:Heap} {t:Adr}
theorem rN (T:Txt w K mg t):Eb P w K mg base CX0 3 t.iH t.RG ["crossing","one","other"] (CJ t):=by
 have G_Crossing_called:Eb P w K mg base CX0 2 t.vc t.Ec ["self","name"] (Ci t):=Mj T
 refine T.FL.ok aE (fun vs H Q E h=>?_) (fun cdv A outer s H vs Q E hr h=>?_)
 ·obtain ⟨c,n,ds,i,j,d,e,rfl,_⟩:=h;rfl
 obtain ⟨c,n,ds,i,j,d,e,rfl,C,hd,he,q⟩:=h
 obtain ⟨_,dx,wl,nd,e1,e2,e3⟩:=id C
 refine ⟨_,(cb (Ab (i:=3) aE.nd rfl (Or.inl rfl) (Vc (pv 0) T.Lb T.Zc G_Crossing_called hr T.Yc .nil Cb (bb (pv 1) fb)))
   (cb (Ab (i:=4) aE.nd rfl (Or.inl rfl) (Vc (pv 0) T.Lb T.Zc G_Crossing_called hr T.Yc .nil Cb (bb (pv 2) fb)))
   (gb (Fb (Hc (ow rfl) rfl T.FN Ot (bb rb (bb (Pb zf (Tc (pv 3) rfl) (Tc (pv 4) rfl)) fb))))))),?_⟩
 (walk_at "RD")
 refine ⟨_,_,e1,yz _ _ _ (by decide +kernel),⟨c,n,ds,i,d,rfl,C,hd,fun a Wa=>?_⟩⟩
 (walk_at "RD")
 refine ⟨_,_,e1,yz _ _ _ (by decide +kernel),⟨c,n,ds,j,e,rfl,C,he,fun b Wb=>?_⟩⟩
 (walk_at "RD")
 refine ⟨_,Wa.f_off T,_,Wb.f_near T,?_⟩
 (walk_at "RD")
 exact q
end
end My
namespace My
open PySem L2
structure SD where
 name:Str
 b:Int
 n:Int
noncomputable def sdO (d:SD):HO:=.tup [.str d.name,.int d.b,.int d.n]
noncomputable def prO (p:Int × Int):HO:=.tup [.int p.1,.int p.2]
noncomputable def ofN (x:Str) (sp:List SD):List (Int × Int):=(sp.filter fun d=>decide (d.name=x)).map fun d=>(d.b,d.n)
noncomputable def LQ (H:Hp) (qs:List Addr) (os:List HO):Prop:=qs.length=os.length∧∀ (i:Nat) (q:Addr) (o:HO),qs[i]? = some q→os[i]? = some o→H q=some o
noncomputable def LO (H:Hp) (p:Addr) (os:List HO):Prop:=∃ qs:List Addr,H p=some (.lst (qs.map V.ref))∧LQ H qs os
theorem LQ.same {H H':Hp} {qs:List Addr} {os:List HO} (h:LQ H qs os) (s:Xb H H'):LQ H' qs os:=⟨h.1,fun i q o h1 h2=>s _ _ (h.2 i q o h1 h2)⟩
theorem LO.same {H H':Hp} {p:Addr} {os:List HO} (h:LO H p os) (s:Xb H H'):LO H' p os:=by
 obtain ⟨qs,e,q⟩:=h
 exact ⟨qs,s _ _ e,q.same s⟩
theorem LQ.nil (H:Hp):LQ H [] []:=⟨rfl,fun i q o h _=>by simp at h⟩
theorem LQ.app {H:Hp} {qs qs':List Addr} {os os':List HO} (h:LQ H qs os) (h':LQ H qs' os'):LQ H (qs ++ qs') (os ++ os'):=by
 refine ⟨by rw [List.length_append,List.length_append,h.1,h'.1],fun i q r h1 h2=>?_⟩
 rw [List.getElem?_append] at h1 h2
 rw [h.1] at h1
 by_cases c:i < os.length
 ·rw [if_pos c] at h1 h2;exact h.2 i q r h1 h2
 ·rw [if_neg c] at h1 h2;exact h'.2 _ q r h1 h2
theorem LQ.one {H:Hp} {p:Addr} {o:HO} (e:H p=some o):LQ H [p] [o]:=⟨rfl,fun i q r' h1 h2=>by
 match i,h1,h2 with
 | 0,h1,h2=>cases h1;cases h2;exact e
 | i + 1,h1,_=>simp at h1⟩
theorem LQ.at {H:Hp} {qs:List Addr} {os:List HO} (h:LQ H qs os) {i:Nat} {q:Addr} (hq:qs[i]? = some q):∃ o,os[i]? = some o∧H q=some o:=by
 have hi:i < os.length:=by rw [← h.1];exact (List.getElem?_eq_some_iff.mp hq).1
 exact ⟨_,List.getElem?_eq_getElem hi,h.2 i q _ hq (List.getElem?_eq_getElem hi)⟩
theorem BG (x:Str) (sp:List SD) (d:SD):ofN x (sp ++ [d])=ofN x sp ++ if d.name=x then [(d.b,d.n)] else []:=by
 unfold ofN
 rw [List.filter_append,List.map_append]
 congr 1
 by_cases c:d.name=x
 ·rw [if_pos c,List.filter_cons_of_pos (by simpa using c)];rfl
 ·rw [if_neg c,List.filter_cons_of_neg (by simpa using c)];rfl
theorem OE (x:Str) (sp:List SD):(ofN x sp).length ≤ sp.length:=by
 unfold ofN
 rw [List.length_map]
 exact List.length_filter_le _ _
theorem ng {α:Type} {xs:List α} {i:Nat} {x:α} (h:xs[i]? = some x):xs.take (i + 1)=xs.take i ++ [x]:=by
 rw [List.take_add_one,h];rfl
noncomputable def pL {α:Type} (z:Int) (v:α) (l:List α) (i:Int):List α:=l.set (i % z).toNat v
noncomputable def kz {α:Type} (z:Int) (v:α) (b:Int):Nat→List α→List α
 | 0,l=>l
 | k + 1,l=>pL z v (kz z v b k l) (b + k)
noncomputable def Kx {α:Type} (z:Int) (v:α) (b:Int):Nat→List α→List α
 | 0,l=>l
 | k + 1,l=>pL z v (Kx z v b k l) (b - 1 - k)
theorem mz {α:Type} (z:Int) (v:α) (l:List α) (i:Int):(pL z v l i).length=l.length:=by unfold pL;rw [List.length_set]
theorem Ph {α:Type} (z:Int) (v:α) (b:Int) (k:Nat) (l:List α):(kz z v b k l).length=l.length:=by
 induction k with
 | zero=>rfl
 | succ k ih=>unfold kz;rw [mz,ih]
theorem wn {α:Type} (z:Int) (v:α) (b:Int) (k:Nat) (l:List α):(Kx z v b k l).length=l.length:=by
 induction k with
 | zero=>rfl
 | succ k ih=>unfold Kx;rw [mz,ih]
noncomputable def fmF (z:Nat) (ps:List (Int × Int)):List Bool:=ps.foldl (fun l p=>kz z true p.1 p.2.toNat l) (List.replicate z false)
noncomputable def oI (z rd fd:Nat) (l:List Str) (p:Int × Int):List Str:=kz z (Str.ofString "fade") (p.1 + p.2) fd (kz z (Str.ofString "free") p.1 p.2.toNat (Kx z (Str.ofString "ready") p.1 rd l))
noncomputable def nk (z rd fd:Nat) (ps:List (Int × Int)):List Str:=ps.foldl (oI z rd fd) (List.replicate z (Str.ofString "stop"))
theorem DL {z:Nat} {ps:List (Int × Int)} {i:Nat} {p:Int × Int} (h:ps[i]? = some p):fmF z (ps.take (i + 1))=kz z true p.1 p.2.toNat (fmF z (ps.take i)):=by
 unfold fmF;rw [ng h,List.foldl_append];rfl
theorem oE {z rd fd:Nat} {ps:List (Int × Int)} {i:Nat} {p:Int × Int} (h:ps[i]? = some p):nk z rd fd (ps.take (i + 1))=oI z rd fd (nk z rd fd (ps.take i)) p:=by
 unfold nk;rw [ng h,List.foldl_append];rfl
theorem Tn (z:Nat) (ps:List (Int × Int)):(fmF z ps).length=z:=by
 unfold fmF
 suffices h:∀ l:List Bool,l.length=z→(ps.foldl (fun l p=>kz z true p.1 p.2.toNat l) l).length=z from h _ (List.length_replicate ..)
 induction ps with
 | nil=>exact fun l h=>h
 | cons p ps ih=>exact fun l h=>ih _ (by rw [Ph];exact h)
theorem Um (z rd fd:Nat) (ps:List (Int × Int)):(nk z rd fd ps).length=z:=by
 unfold nk
 suffices h:∀ l:List Str,l.length=z→(ps.foldl (oI z rd fd) l).length=z from h _ (List.length_replicate ..)
 induction ps with
 | nil=>exact fun l h=>h
 | cons p ps ih=>exact fun l h=>ih _ (by unfold oI;rw [Ph,Ph,wn];exact h)
noncomputable def DJ (z:Int) (sp:List SD):Prop:=sp.length ≤ 100∧∀ d ∈ sp,0 ≤ d.b∧d.b < 1000∧0 ≤ d.n∧d.n < 1000
theorem rF {x:Str} {sp:List SD} {p:Int × Int} (h:p ∈ ofN x sp):∃ d ∈ sp,d.name=x∧p=(d.b,d.n):=by
 unfold ofN at h
 obtain ⟨d,hd,rfl⟩:=List.mem_map.mp h
 have:=List.mem_filter.mp hd
 exact ⟨d,this.1,by simpa using this.2,rfl⟩
theorem rM {m:Nat} (h:0 < m) (i:Int):ixN m (i % (m:Int))=some (i % (m:Int)).toNat:=by
 have h1:=Int.emod_nonneg i (show (m:Int) ≠ 0 by omega)
 have h2:=Int.emod_lt_of_pos i (show 0 < (m:Int) by omega)
 unfold ixN
 rw [if_pos h1,if_pos h2]
theorem eA {α β:Type} (f:α→β) {l:List α} {z:Nat} (h:l.length=z) (hz:0 < z) (i:Int):ixN (l.map f).length (i % (z:Int))=some (i % (z:Int)).toNat:=by
 rw [List.length_map,h];exact rM hz i
theorem Rm (d:WD):0 ≤ yd d∧yd d ≤ 2:=by
 unfold yd;split <;> omega
theorem Rp {d:WD} (h:0 ≤ d.off∧d.off ≤ 1000):0 ≤ af d∧af d ≤ 1000:=by
 unfold af;split <;> omega
theorem fP {d:WD} {m:Str} (h:Js.contains m=false):(gp d).lookup m=none:=Fm Js (Kt _) h
noncomputable def Cf (l:List Bool):List V:=l.map V.bl
theorem Pp {α β:Type} (f:α→β) (z:Int) (v:α) (l:List α) (i:Int):(l.map f).set (i % z).toNat (f v)=(pL z v l i).map f:=by
 unfold pL;rw [List.map_set]
noncomputable def Qn:Sp:=fun vs H Q _=>∃ p x sp,vs=[.ref p,.str x]∧LO H p (List.map sdO sp)∧sp.length ≤ 100∧∀ r H',Xb H H'→(NoT H→NoT H')→LO H' r ((ofN x sp).map prO)→Q (.ref r) H'
noncomputable def fM:Sp:=fun vs H Q _=>∃ (z:Nat) (p:Addr) (x:Str) (sp:List SD),vs=[.int z,.ref p,.str x]∧(0 < z∧z ≤ 1000)∧LO H p (List.map sdO sp)∧DJ z sp∧∀ r H',Xb H H'→(NoT H→NoT H')→H r=none→H' r=some (.lst (Cf (fmF z (ofN x sp))))→Q (.ref r) H'
noncomputable def bC (t:Adr):Sp:=fun vs H Q _=>∃ (a:Addr) (d:WD) (z:Nat) (p:Addr) (sp:List SD),vs=[.ref a,.int z,.ref p]∧(0 < z∧z ≤ 1000)∧Ke t H a d∧LO H p (List.map sdO sp)∧DJ z sp∧(0 ≤ d.off∧d.off ≤ 1000)∧∀ r H',Xb H H'→(NoT H→NoT H')→H r=none→H' r=some (.lst (Ib (nk z (yd d).toNat (af d).toNat (ofN d.name sp))))→Q (.ref r) H'
noncomputable def pf (m:List Bool):Nat→Int
 | 0=>0
 | k + 1=>if m[(2 * m.length - 1 - k) % m.length]? = some true then 0 else pf m k + 1
noncomputable def Bn (m:List Bool):List Int:=(List.range m.length).map fun t=>pf m (2 * m.length - t)
noncomputable def Yt (m:List Bool) (k:Nat):List Int:=(List.range k).map fun j=>pf m (m.length + j + 1)
theorem QA (m:List Bool):(Yt m m.length).reverse=Bn m:=by
 unfold Yt Bn
 refine List.ext_getElem (by simp) (fun i h1 h2=>?_)
 simp at h1
 simp
 congr 1
 omega
noncomputable def eu (m:List Bool):List Int:=(Bn m.reverse).reverse
noncomputable def Ou:Sp:=fun vs H Q _=>∃ (p:Addr) (m:List Bool),vs=[.ref p]∧H p=some (.lst (Cf m))∧(0 < m.length∧m.length ≤ 1000)∧∀ r H',Xb H H'→(NoT H→NoT H')→H r=none→H' r=some (.lst ((Bn m).map V.int))→Q (.ref r) H'
noncomputable def dA:Sp:=fun vs H Q _=>∃ (p:Addr) (m:List Bool),vs=[.ref p]∧H p=some (.lst (Cf m))∧(0 < m.length∧m.length ≤ 1000)∧∀ r H',Xb H H'→(NoT H→NoT H')→H r=none→H' r=some (.lst ((eu m).map V.int))→Q (.ref r) H'
section
variable {P:Program} {w:World} {K:PySem.W.Frag} {mg:Str→Option Value} {base:Heap} {t:Adr}
theorem iq (T:Txt w K mg t):Eb P w K mg base CX0 1 t.bf t.cf ["spans","name"] Qn:=by
 refine T.Mf.ok zx (fun vs H Q E h=>?_) (fun cdv A outer s H vs Q E hr h=>?_)
 ·obtain ⟨p,x,sp,rfl,_⟩:=h;rfl
 obtain ⟨p,x,sp,rfl,⟨qs,l1,lq⟩,hl,q⟩:=h
 refine ⟨_,(gb (Fb (Qi rfl (ae (pv 0)) (Vd (sc:=ib zo) rfl (by decide +kernel)) (N:=["called","begin","turns","name"]) (sel:=[none,none,none,some 1]) (Le (M:=["spans","name"]) (by decide +kernel)) (Blk.of (fun _ _ _ _=>(Hf (K:=K) (n:=3) rfl rfl (Vb (zb (i:=0) (Ii (N:=["called","begin","turns","name"]) (by decide +kernel) rfl) rfl (Or.inl rfl) (.inr rfl)) (Vb (zb (i:=1) (Ii (N:=["called","begin","turns","name"]) (by decide +kernel) rfl) rfl (Or.inl rfl) (.inr rfl)) (Vb (zb (i:=2) (Ii (N:=["called","begin","turns","name"]) (by decide +kernel) rfl) rfl (Or.inl rfl) (.inr rfl)) Lf))))) (fun _ _ _ _=>⟨_,(kx (Sb bi (pv 0) (pv 3) (uc _))),by first | rfl | (dsimp only [Cx.block];done) | (dsimp only [Cx.block];exact rfl)⟩) (fun _ _ _ _=>⟨_,(Hg (bb (pv 1) (bb (pv 2) fb))),by first | rfl | (dsimp only [Cx.block];done) | (dsimp only [Cx.block];exact rfl)⟩))))),?_⟩
 (walk_at "RD")
 have hql:qs.length=sp.length:=by rw [lq.1,List.length_map]
 refine ⟨⟨_,SqL.of l1⟩,?_⟩
 refine de.list (xs:=qs.map V.ref) (fun i ys H'=>∃ os:List Addr,ys=os.map V.ref∧LQ H' os ((ofN x (sp.take i)).map prO)∧Xb H H'∧(NoT H→NoT H')) (Nat.le_trans (show (qs.map V.ref).length ≤ 100 by rw [List.length_map];omega) (by decide)) ⟨[],rfl,LQ.nil _,Xb.refl _,id⟩ ?_ ?_ ?_
 ·rintro i ys H' hi ⟨os,rfl,r,sm,_⟩
  refine ⟨(SqL.of l1).same sm,?_⟩
  rw [List.length_map,r.1,List.length_map]
  exact Nat.le_trans (OE _ _) (by rw [List.length_take];omega)
 ·rintro i v ys H' hv ⟨os,rfl,r,sm,nt⟩ N hN
  obtain ⟨qi,hqi,rfl⟩:=yc hv
  obtain ⟨o,ho,e⟩:=lq.at hqi
  obtain ⟨d,hd,rfl⟩:=yc ho
  have e':=sm _ _ e
  (walk_at "RD")
  refine ⟨_,SqT.of e',rfl,_,_,rfl,_,_,rfl,_,_,rfl,rfl,Sub.name3,rfl,?_⟩
  dsimp only at hN
  rw [ng hd,BG,List.map_append] at hN
  by_cases c:d.name=x
  ·rw [if_pos c] at hN
   rw [if_pos (by rw [c];exact decide_eq_true rfl)]
   refine ⟨by decide,fun p1 hp1=>hN _ _ ⟨os ++ [p1],by rw [List.map_append];rfl,(r.same (jb hp1)).app (LQ.one db),sm.trans (jb hp1),fun n=>(nt n).upd⟩⟩
  ·rw [if_neg c] at hN
   rw [if_neg (by rw [decide_eq_true_eq];intro z;exact c (V.str.inj z))]
   exact hN _ _ ⟨os,rfl,by rw [List.map_nil,List.append_nil];exact r,sm,nt⟩
 ·rintro ys H' ⟨os,rfl,r,sm,nt⟩ p1 hp1
  rw [List.take_of_length_le (by rw [List.length_map];omega)] at r
  exact q _ _ (sm.trans (jb hp1)) (fun n=>(nt n).upd) ⟨os,db,r.same (jb hp1)⟩
theorem fN (T:Txt w K mg t):Eb P w K mg base CX0 2 t.rg t.yg ["size","spans","name"] fM:=by
 have G_spans_of:Eb P w K mg base CX0 1 t.bf t.cf ["spans","name"] Qn:=iq T
 refine T.Vh.ok yf (fun vs H Q E h=>?_) (fun cdv A outer s H vs Q E hr h=>?_)
 ·obtain ⟨z,p,x,sp,rfl,_⟩:=h;rfl
 obtain ⟨z,p,x,sp,rfl,hz,L,hs,q⟩:=h
 refine ⟨_,(cb (Rk (i:=3) yf.nd rfl (Or.inl rfl) rfl (re rfl T.Pf (bb (pv 0) fb)) (Vd (sc:=ib Yj) rfl (by decide +kernel)) (N:=["turn"]) (sel:=[none]) (Le (M:=["size","spans","name","marks","begin","turns","step"]) (by decide +kernel)) (Blk.of (fun _ _ _ _=>(zb (i:=0) (Ii (N:=["turn"]) (by decide +kernel) rfl) rfl (Or.inl rfl))) (fun _ _ _ _=>⟨_,Xh,by first | rfl | (dsimp only [Cx.block];done) | (dsimp only [Cx.block];exact rfl)⟩) (fun _ _ _ _=>⟨_,En,by first | rfl | (dsimp only [Cx.block];done) | (dsimp only [Cx.block];exact rfl)⟩)) rfl)
   (cb (Zd PassesOwn.never rfl (ae (yb G_spans_of hr rfl T.Di T.Mf.kp T.Ni .nil Cb (bb (pv 1) (bb (pv 2) fb)))) (Hf (K:=K) (n:=2) rfl rfl (Vb (zb (i:=4) yf.nd rfl (Or.inl rfl) (.inl rfl)) (Vb (zb (i:=5) yf.nd rfl (Or.inl rfl) (.inl rfl)) Lf))) (gb (Zd PassesOwn.never rfl (re rfl T.Pf (bb (pv 5) fb)) (zb (i:=6) yf.nd rfl (Or.inl rfl)) (gb (ju En (Qz (pv 3) (Pb Af (Pb se (pv 4) (pv 6)) (pv 0)) Op))))))
   (gb (Fb (pv 3))))),?_⟩
 (walk_at "RD")
 obtain ⟨hz0,hz1⟩:=hz
 obtain ⟨hs1,hs2⟩:=hs
 refine ⟨by omega,by omega,?_⟩
 refine de.range_map (fun _=>V.bl false) (Nat.le_trans (show (z:Int).toNat ≤ 1000 by omega) (by decide)) (fun i N hi hN=>?_) (fun mk hmk=>?_)
 ·(walk_at "RD")
  exact ⟨Sub.name,hN⟩
 rw [show (List.range (z:Int).toNat).map (fun _=>V.bl false)=Cf (fmF z []) by
  unfold Cf fmF;rw [List.foldl_nil,List.map_replicate];exact List.ext_getElem (by simp) (by simp)]
 refine ⟨p,x,sp,rfl,L.same (jb hmk),hs1,fun r H1 s1 nt1 L1=>⟨r,rfl,?_⟩⟩
 obtain ⟨qs,l1,lq⟩:=L1
 refine ⟨⟨_,SqL.of l1⟩,?_⟩
 have hmk1:H1 mk=some (.lst (Cf (fmF z []))):=s1 _ _ db
 have hrm:r ≠ mk:=fun e=>by
  subst e
  rw [l1] at hmk1
  injection hmk1 with e1
  injection e1 with e2
  have e3:=congrArg List.length e2
  cases qs with
  | nil=>simp [Cf,Tn] at e3;omega
  | cons a qs=>
   have:(Cf (fmF z []))[0]? = some (V.ref a):=by rw [← e2];rfl
   unfold Cf at this
   rw [List.getElem?_map] at this
   cases hh:(fmF z [])[0]? with
   | none=>rw [hh] at this;cases this
   | some b=>rw [hh] at this;cases this
 refine ni.list (xs:=qs.map V.ref) (fun i σ H'=>(∃ a b c,σ=[some (V.int z),some (V.ref p),some (V.str x),some (V.ref mk),a,b,c])∧Jc mk H1 H'∧(NoT H→NoT H')∧H' mk=some (.lst (Cf (fmF z ((ofN x sp).take i))))) ?_ ?_ ?_ ?_
 ·exact ⟨⟨_,_,_,rfl⟩,fun b u _ e=>e,fun n=>nt1 n.upd,hmk1⟩
 ·rintro i σ H' hi ⟨_,sx,_,_⟩
  exact SqL.of (sx _ _ hrm l1)
 ·rintro i v σ H' hv ⟨⟨a,b,c,rfl⟩,sx,nt',hm⟩
  obtain ⟨qi,hqi,rfl⟩:=yc hv
  obtain ⟨o,ho,e⟩:=lq.at hqi
  obtain ⟨d,hd,rfl⟩:=yc ho
  obtain ⟨sd,hsd,hsn,rfl⟩:=rF (List.mem_of_getElem? hd)
  have hb:=hs2 sd hsd
  have e':=sx _ _ (Fe e hmk1 (by intro z;cases z)) e
  (walk_at "RD")
  refine ⟨_,SqT.of e',rfl,_,_,rfl,_,_,rfl,rfl,_,rfl,(by dsimp only;omega),(by dsimp only;omega),?_⟩
  rw [DL hd]
  refine ni.range (fun k σ H'=>(∃ c,σ=[some (V.int z),some (V.ref p),some (V.str x),some (V.ref mk),some (V.int sd.b),some (V.int sd.n),c])∧Jc mk H1 H'∧(NoT H→NoT H')∧H' mk=some (.lst (Cf (kz z true sd.b k (fmF z ((ofN x sp).take i)))))) ?_ ?_ ?_
  ·exact ⟨⟨_,rfl⟩,sx,nt',hm⟩
  ·rintro k σ H2 hk ⟨⟨c,rfl⟩,sx2,nt2,hm2⟩
   (walk_at "RD")
   refine ⟨by omega,_,hm2,_,eA V.bl (by rw [Ph,Tn]) hz0 _,⟨_,rfl⟩,fun b u hb e=>by rw [lb hb];exact sx2 _ _ hb e,fun n=>(nt2 n).upd,?_⟩
   rw [db]
   unfold Cf
   rw [Pp V.bl]
   rfl
  ·rintro σ H2 ⟨⟨c,rfl⟩,sx2,nt2,hm2⟩
   exact ⟨⟨_,_,_,rfl⟩,sx2,nt2,hm2⟩
 ·rintro σ H' ⟨⟨a,b,c,rfl⟩,sx,nt',hm⟩
  (walk_at "RD")
  rw [List.take_of_length_le (by rw [List.length_map,lq.1,List.length_map];exact Nat.le_refl _)] at hm
  exact q _ _ (Xd ((jb hmk).trans s1) sx hmk) nt' hmk hm
theorem OJ (T:Txt w K mg t):Eb P w K mg base CX0 2 t.Fz t.cz ["way","size","spans"] (bC t):=by
 have G_spans_of:Eb P w K mg base CX0 1 t.bf t.cf ["spans","name"] Qn:=iq T
 have V_Way_ready:tH P w K mg base CX0 1 (isW t) "ready" ["self"] (zi t):=zC T
 have V_Way_fade:tH P w K mg base CX0 1 (isW t) "fade" ["self"] (Sk t):=aJ T
 refine T.ZC.ok jm (fun vs H Q E h=>?_) (fun cdv A outer s H vs Q E hr h=>?_)
 ·obtain ⟨a,d,z,p,sp,rfl,_⟩:=h;rfl
 obtain ⟨a,d,z,p,sp,rfl,⟨hz0,hz1⟩,W,L,⟨hs1,hs2⟩,hoff,q⟩:=h
 refine ⟨_,(cb (Rk (i:=3) jm.nd rfl (Or.inl rfl) rfl (re rfl T.Pf (bb (pv 1) fb)) (Vd (sc:=ib qF) rfl (by decide +kernel)) (N:=["turn"]) (sel:=[none]) (Le (M:=["way","size","spans","shown","begin","turns","step"]) (by decide +kernel)) (Blk.of (fun _ _ _ _=>(zb (i:=0) (Ii (N:=["turn"]) (by decide +kernel) rfl) rfl (Or.inl rfl))) (fun _ _ _ _=>⟨_,Xh,by first | rfl | (dsimp only [Cx.block];done) | (dsimp only [Cx.block];exact rfl)⟩) (fun _ _ _ _=>⟨_,xc,by first | rfl | (dsimp only [Cx.block];done) | (dsimp only [Cx.block];exact rfl)⟩)) rfl)
   (cb (Zd PassesOwn.never rfl (ae (yb G_spans_of hr rfl T.Di T.Mf.kp T.Ni .nil Cb (bb (pv 2) (bb (Tc (pv 0) rfl) fb)))) (Hf (K:=K) (n:=2) rfl rfl (Vb (zb (i:=4) jm.nd rfl (Or.inl rfl) (.inl rfl)) (Vb (zb (i:=5) jm.nd rfl (Or.inl rfl) (.inl rfl)) Lf))) (cb (Zd PassesOwn.never rfl (re rfl T.Pf (bb (Hm (pv 0) V_Way_ready hr Cb) fb)) (zb (i:=6) jm.nd rfl (Or.inl rfl)) (gb (ju xc (Qz (pv 3) (Pb Af (Pb zf (Pb zf (pv 4) rb) (pv 6)) (pv 1)) Op))))
   (cb (Zd PassesOwn.never rfl (re rfl T.Pf (bb (pv 5) fb)) (zb (i:=6) jm.nd rfl (Or.inl rfl)) (gb (ju xc (Qz (pv 3) (Pb Af (Pb se (pv 4) (pv 6)) (pv 1)) Op))))
   (gb (Zd PassesOwn.never rfl (re rfl T.Pf (bb (Hm (pv 0) V_Way_fade hr Cb) fb)) (zb (i:=6) jm.nd rfl (Or.inl rfl)) (gb (ju xc (Qz (pv 3) (Pb Af (Pb se (Pb se (pv 4) (pv 5)) (pv 6)) (pv 1)) Op))))))))
   (gb (Fb (pv 3))))),?_⟩
 (walk_at "RD")
 refine ⟨by omega,by omega,?_⟩
 refine de.range_map (fun _=>V.str (Str.ofString "stop")) (Nat.le_trans (show (z:Int).toNat ≤ 1000 by omega) (by decide)) (fun i N hi hN=>?_) (fun mk hmk=>?_)
 ·(walk_at "RD")
  exact ⟨Sub.name,hN⟩
 rw [show (List.range (z:Int).toNat).map (fun _=>V.str (Str.ofString "stop"))=Ib (nk z (yd d).toNat (af d).toNat []) by
  unfold Ib nk;rw [List.foldl_nil,List.map_replicate];exact List.ext_getElem (by simp) (by simp)]
 have hrd:=Rm d
 have hfd:=Rp hoff
 obtain ⟨dk,dx,hway⟩:=id W
 have w0:∀ {H':Hp},Jc mk (upd H mk (.lst (Ib (nk z (yd d).toNat (af d).toNat [])))) H'→H' a=some (.ins (t.cw d.k) dx (gp d)):=fun sx=>sx _ _ (ub hway hmk) ((jb hmk) _ _ hway)
 refine ⟨_,(W.same (jb hmk)).f_name T,p,d.name,sp,rfl,L.same (jb hmk),hs1,fun r H1 s1 nt1 L1=>⟨r,rfl,?_⟩⟩
 obtain ⟨qs,l1,lq⟩:=L1
 refine ⟨⟨_,SqL.of l1⟩,?_⟩
 have hmk1:H1 mk=some (.lst (Ib (nk z (yd d).toNat (af d).toNat []))):=s1 _ _ db
 have hrm:r ≠ mk:=fun e=>by
  subst e
  rw [l1] at hmk1
  injection hmk1 with e1
  injection e1 with e2
  have e3:=congrArg List.length e2
  cases qs with
  | nil=>simp [Ib,Um] at e3;omega
  | cons a qs=>
   have:(Ib (nk z (yd d).toNat (af d).toNat []))[0]? = some (V.ref a):=by rw [← e2];rfl
   unfold Ib at this
   rw [List.getElem?_map] at this
   cases hh:(nk z (yd d).toNat (af d).toNat [])[0]? with
   | none=>rw [hh] at this;cases this
   | some b=>rw [hh] at this;cases this
 have wx:∀ {H':Hp},Jc mk H1 H'→Ke t H' a d:=fun sx=>⟨dk,dx,sx _ _ (ub hway hmk) (s1 _ _ ((jb hmk) _ _ hway))⟩
 refine ni.list (xs:=qs.map V.ref) (fun i σ H'=>(∃ a1 b c,σ=[some (V.ref a),some (V.int z),some (V.ref p),some (V.ref mk),a1,b,c])∧Jc mk H1 H'∧(NoT H→NoT H')∧H' mk=some (.lst (Ib (nk z (yd d).toNat (af d).toNat ((ofN d.name sp).take i))))) ?_ ?_ ?_ ?_
 ·exact ⟨⟨_,_,_,rfl⟩,fun b u _ e=>e,fun n=>nt1 n.upd,hmk1⟩
 ·rintro i σ H' hi ⟨_,sx,_,_⟩
  exact SqL.of (sx _ _ hrm l1)
 ·rintro i v σ H' hv ⟨⟨a1,b,c,rfl⟩,sx,nt',hm⟩
  obtain ⟨qi,hqi,rfl⟩:=yc hv
  obtain ⟨o,ho,e⟩:=lq.at hqi
  obtain ⟨dd,hd,rfl⟩:=yc ho
  obtain ⟨sd,hsd,hsn,rfl⟩:=rF (List.mem_of_getElem? hd)
  have hb:=hs2 sd hsd
  have e':=sx _ _ (Fe e hmk1 (by intro z;cases z)) e
  have W1:=wx sx
  obtain ⟨_,dx1,hw1⟩:=id W1
  (walk_at "RD")
  refine ⟨_,SqT.of e',rfl,_,_,rfl,_,_,rfl,rfl,_,_,_,hw1,⟨_,dk,rfl⟩,fP (by decide +kernel),_,d,rfl,W1,rfl,_,rfl,by omega,by omega,?_⟩
  rw [oE hd]
  refine ni.range (fun k σ H'=>(∃ c,σ=[some (V.ref a),some (V.int z),some (V.ref p),some (V.ref mk),some (V.int sd.b),some (V.int sd.n),c])∧Jc mk H1 H'∧(NoT H→NoT H')∧H' mk=some (.lst (Ib (Kx z (Str.ofString "ready") sd.b k (nk z (yd d).toNat (af d).toNat ((ofN d.name sp).take i)))))) ?_ ?_ ?_
  ·exact ⟨⟨_,rfl⟩,sx,nt',hm⟩
  ·rintro k σ H2 hk ⟨⟨c,rfl⟩,sx2,nt2,hm2⟩
   (walk_at "RD")
   refine ⟨by omega,_,hm2,_,eA V.str (by rw [wn,Um]) hz0 _,⟨_,rfl⟩,fun b u hb e=>by rw [lb hb];exact sx2 _ _ hb e,fun n=>(nt2 n).upd,?_⟩
   rw [db]
   unfold Ib
   rw [Pp V.str]
   rfl
  rintro σ H2 ⟨⟨c,rfl⟩,sx2,nt2,hm2⟩
  (walk_at "RD")
  refine ⟨by omega,by omega,?_⟩
  refine ni.range (fun k σ H'=>(∃ c,σ=[some (V.ref a),some (V.int z),some (V.ref p),some (V.ref mk),some (V.int sd.b),some (V.int sd.n),c])∧Jc mk H1 H'∧(NoT H→NoT H')∧H' mk=some (.lst (Ib (kz z (Str.ofString "free") sd.b k (Kx z (Str.ofString "ready") sd.b (yd d).toNat (nk z (yd d).toNat (af d).toNat ((ofN d.name sp).take i))))))) ?_ ?_ ?_
  ·exact ⟨⟨_,rfl⟩,sx2,nt2,hm2⟩
  ·rintro k σ H2 hk ⟨⟨c,rfl⟩,sx2,nt2,hm2⟩
   (walk_at "RD")
   refine ⟨by omega,_,hm2,_,eA V.str (by rw [Ph,wn,Um]) hz0 _,⟨_,rfl⟩,fun b u hb e=>by rw [lb hb];exact sx2 _ _ hb e,fun n=>(nt2 n).upd,?_⟩
   rw [db]
   unfold Ib
   rw [Pp V.str]
   rfl
  rintro σ H3 ⟨⟨c,rfl⟩,sx3,nt3,hm3⟩
  have W3:=wx sx3
  obtain ⟨_,dx3,hw3⟩:=id W3
  (walk_at "RD")
  refine ⟨_,_,_,hw3,⟨_,dk,rfl⟩,fP (by decide +kernel),_,d,rfl,W3,rfl,_,rfl,by omega,by omega,?_⟩
  refine ni.range (fun k σ H'=>(∃ c,σ=[some (V.ref a),some (V.int z),some (V.ref p),some (V.ref mk),some (V.int sd.b),some (V.int sd.n),c])∧Jc mk H1 H'∧(NoT H→NoT H')∧H' mk=some (.lst (Ib (kz z (Str.ofString "fade") (sd.b + sd.n) k (kz z (Str.ofString "free") sd.b sd.n.toNat (Kx z (Str.ofString "ready") sd.b (yd d).toNat (nk z (yd d).toNat (af d).toNat ((ofN d.name sp).take i)))))))) ?_ ?_ ?_
  ·exact ⟨⟨_,rfl⟩,sx3,nt3,hm3⟩
  ·rintro k σ H2 hk ⟨⟨c,rfl⟩,sx2,nt2,hm2⟩
   (walk_at "RD")
   refine ⟨by omega,_,hm2,_,eA V.str (by rw [Ph,Ph,wn,Um]) hz0 _,⟨_,rfl⟩,fun b u hb e=>by rw [lb hb];exact sx2 _ _ hb e,fun n=>(nt2 n).upd,?_⟩
   rw [db]
   unfold Ib
   rw [Pp V.str]
   rfl
  ·rintro σ H2 ⟨⟨c,rfl⟩,sx2,nt2,hm2⟩
   exact ⟨⟨_,_,_,rfl⟩,sx2,nt2,hm2⟩
 ·rintro σ H' ⟨⟨a1,b,c,rfl⟩,sx,nt',hm⟩
  (walk_at "RD")
  rw [List.take_of_length_le (by rw [List.length_map,lq.1,List.length_map];exact Nat.le_refl _)] at hm
  exact q _ _ (Xd ((jb hmk).trans s1) sx hmk) nt' hmk hm
theorem Pz (T:Txt w K mg t):Eb P w K mg base CX0 1 t.Ve t.We ["marks"] Ou:=by
 refine T.ag.ok Yd (fun vs H Q E h=>?_) (fun cdv A outer s H vs Q E hr h=>?_)
 ·obtain ⟨p,m,rfl,_⟩:=h;rfl
 obtain ⟨p,m,rfl,hm,hl,q⟩:=h
 refine ⟨_,(cb (Ab (i:=1) Yd.nd rfl (Or.inl rfl) (Hc Pc rfl T.Mn Dd (bb (pv 0) fb)))
   (cb (Ab (i:=2) Yd.nd rfl (Or.inl rfl) rb)
   (cb (Ab (i:=3) Yd.nd rfl (Or.inl rfl) (Df fb))
   (cb (Zd PassesOwn.never rfl (CC rfl T.Pf (bb (Pb zf (Pb Fw rb (pv 1)) rb) (bb (Qx Iq rb) (bb (Qx Iq rb) fb)))) (zb (i:=4) Yd.nd rfl (Or.inl rfl)) (cb (Ab (i:=2) Yd.nd rfl (Or.inl rfl) (jz (Ef (Nc Hd (pv 0) (Pb Af (pv 4) (pv 1)) (fun _ _=>rfl))) rb (Pb se (pv 2) rb)))
   (gb (ge (Sb xv (pv 4) (pv 1) (uc _)) (gb (lc (Cr PySem.F.plainAttrs_list PySem.F.slot_list_append PySem.F.type_list_append ah (pv 3) (bb (pv 2) fb)))) Zb))))
   (gb (Fb (yo rfl rfl T.uz rfl T.io (bb (pv 3) fb)))))))),?_⟩
 (walk_at "RD")
 refine ⟨_,.inl (SqL.of hm),Nat.zero_le _,fun u hu=>?_⟩
 have hbl:(Cf m).length=m.length:=by unfold Cf;rw [List.length_map]
 rw [hbl]
 refine ⟨by unfold RI;omega,by omega,by omega,by omega,by omega,?_⟩
 have hun:p ≠ u:=ub hm hu
 refine ni.of (n:=2 * m.length) (fun k σ H'=>(∃ x,σ=[some (V.ref p),some (V.int m.length),some (V.int (pf m k)),some (V.ref u),x])∧Jc u H H'∧(NoT H→NoT H')∧H' u=some (.lst ((Yt m (k - m.length)).map V.int))) ?_ (fun i σ H' hi _=>?_) (fun σ H' _=>?_) ?_ ?_
 ·exact ⟨⟨_,rfl⟩,fun b o hb e=>by rw [lb hb];exact e,fun n=>n.upd,by rw [db,Nat.zero_sub];rfl⟩
 ·show i < _;omega
 ·show _ ≤ 2 * m.length;omega
 ·rintro k σ H'' v H' hk ⟨⟨x,rfl⟩,sx,nt',hu'⟩ ⟨rfl,rfl⟩
  have hjn:(2 * m.length - 1 - k) % m.length < m.length:=Nat.mod_lt _ hl.1
  have hmj:m[(2 * m.length - 1 - k) % m.length]? = some m[(2 * m.length - 1 - k) % m.length]:=List.getElem?_eq_getElem hjn
  have hj:((2 * m.length - 1 - k:Int)) % (m.length:Int)=(((2 * m.length - 1 - k) % m.length:Nat):Int):=by
   rw [Int.natCast_emod];congr 1;omega
  have hat:atI (Cf m) ((2 * m.length - 1 - k:Int) % (m.length:Int))=some (V.bl m[(2 * m.length - 1 - k) % m.length]):=by
   rw [hj];exact Ic (by unfold Cf;rw [List.getElem?_map,hmj];rfl)
  have hst:pf m (k + 1)=if m[(2 * m.length - 1 - k) % m.length]=true then 0 else pf m k + 1:=by
   show (if m[(2 * m.length - 1 - k) % m.length]? = some true then 0 else pf m k + 1)=_
   rw [hmj]
   simp
  simp only [Pm,Bc,List.set_cons_succ,List.set_cons_zero]
  refine Td (fun σ H4=>H4=H'∧σ=[some (V.ref p),some (V.int m.length),some (V.int (pf m (k + 1))),some (V.ref u),some (V.int (2 * m.length - 1 - k))]) (fun D' hD _ _ _=>?_) ?_
  ·(walk_at "RD")
   refine ⟨by omega,_,SqL.of (sx _ _ hun hm),_,hat,_,rfl,?_⟩
   rw [hst] at hD
   by_cases c:m[(2 * m.length - 1 - k) % m.length]=true
   ·rw [if_pos c] at hD ⊢
    exact hD _ _ ⟨rfl,rfl⟩
   ·rw [if_neg c] at hD ⊢
    exact hD _ _ ⟨rfl,rfl⟩
  rintro σ H4 ⟨rfl,rfl⟩
  dsimp only
  refine Rb (decide ((2 * m.length - 1 - k:Int) < m.length)) (fun Q hQ=>?_) (fun hc=>?_) (fun hc=>?_)
  ·(walk_at "RD")
   exact hQ
  ·(walk_at "RD")
   have hc':=of_decide_eq_true hc
   refine ⟨.inl ⟨_,SqL.of hu'⟩,_,hu',Nat.lt_of_le_of_lt (show ((Yt m (k - m.length)).map V.int).length ≤ 1000 by unfold Yt;simp;omega) (by decide),⟨_,rfl⟩,fun b o hb e=>by rw [lb hb];exact sx _ _ hb e,fun n=>(nt' n).upd,?_⟩
   rw [db,show k + 1 - m.length=k - m.length + 1 by omega]
   unfold Yt
   rw [List.range_succ,List.map_append,List.map_append]
   simp only [List.map_cons,List.map_nil]
   rw [show m.length + (k - m.length) + 1=k + 1 by omega]
  ·(walk_at "RD")
   have hc':=of_decide_eq_false hc
   refine ⟨⟨_,rfl⟩,sx,nt',?_⟩
   rw [hu',show k - m.length=0 by omega,show k + 1 - m.length=0 by omega]
 ·rintro σ H' ⟨⟨x,rfl⟩,sx,nt',hu'⟩
  (walk_at "RD")
  refine ⟨_,SqL.of hu',fun l hl'=>?_⟩
  have hlu:l ≠ u:=fun z=>by subst z;rw [hu'] at hl';cases hl'
  refine q _ _ ((Xd (Xb.refl H) sx hu).trans (jb hl')) (fun n=>(nt' n).upd) ((Xd (Xb.refl H) sx hu).free hl') ?_
  rw [db,show 2 * m.length - m.length=m.length by omega,← List.map_reverse,QA]
theorem uH (T:Txt w K mg t):Eb P w K mg base CX0 2 t.Vf t.dg ["marks"] dA:=by
 have G_until_marked:Eb P w K mg base CX0 1 t.Ve t.We ["marks"] Ou:=Pz T
 refine T.di.ok xq (fun vs H Q E h=>?_) (fun cdv A outer s H vs Q E hr h=>?_)
 ·obtain ⟨p,m,rfl,_⟩:=h;rfl
 obtain ⟨p,m,rfl,hm,hl,q⟩:=h
 refine ⟨_,(gb (Fb (yo rfl rfl T.uz rfl T.io (bb (yb G_until_marked hr rfl T.Kl T.ag.kp T.Jl .nil Cb (bb (yo rfl rfl T.uz rfl T.io (bb (pv 0) fb)) fb)) fb)))),?_⟩
 (walk_at "RD")
 refine ⟨_,SqL.of hm,fun l1 h1=>?_⟩
 refine ⟨l1,m.reverse,rfl,by rw [db,Cf,Cf,List.map_reverse],by rw [List.length_reverse];exact hl,fun r H1 s1 nt1 hr1 hu=>⟨r,rfl,_,SqL.of hu,fun l2 h2=>?_⟩⟩
 refine q _ _ (((jb h1).trans s1).trans (jb h2)) (fun n=>(nt1 n.upd).upd) (((jb h1).trans s1).free h2) ?_
 rw [db,← List.map_reverse]
 rfl
end
end My
namespace My
open PySem L2
noncomputable def hJ (x:Str):Prop:=x.length ≤ 1000∧∀ c ∈ x.cps.toList,c < 16 ^ 8
noncomputable def EF (C:Addr) (fs:List (Str × V)) (H:Hp) (E:XK):Prop:=∀ dx H',Xb H H'→(NoT H→NoT H')→H' dx=some (.ext (XD dx fs))→E (.ref C) (some dx) H'
theorem EF.step {C:Addr} {fs:List (Str × V)} {H H1:Hp} {E:XK} (h:EF C fs H E) (s:Xb H H1) (n:NoT H→NoT H1):EF C fs H1 E:=fun dx H' s' n' e=>h dx H' (s.trans s') (fun z=>n' (n z)) e
noncomputable def DOk (ds:List WD):Prop:=∀ d ∈ ds,hJ d.name∧0 ≤ d.off∧d.off ≤ 1000
noncomputable def Gg (ds:List WD) (sp:List SD):Option Str:=(ds.map (·.name)).find? fun x=>(ofN x sp).isEmpty
noncomputable def oJ (t:Adr):Sp:=fun vs H Q _=>∃ x n,vs=[.ref x,.str n]∧hJ n∧H x=some (.ext (XF x t.ac none)) ∧
 ∀ dx,H dx=none→dx ≠ x→Q .non (upd (upd H x (.ext (XF x t.ac (some dx)))) dx (.ext (XD dx [(Str.ofString "way",.str n)])))
noncomputable def pJ (t:Adr):Sp:=fun vs H Q _=>∃ x n i,vs=[.ref x,.str n,.int i]∧hJ n∧i.natAbs.log2 < 1920∧H x=some (.ext (XF x t.fc none)) ∧
 ∀ dx,H dx=none→dx ≠ x→Q .non (upd (upd H x (.ext (XF x t.fc (some dx)))) dx (.ext (XD dx [(Str.ofString "way",.str n),(Str.ofString "at",.int i)])))
noncomputable def cJ (t:Adr):Sp:=fun vs H Q _=>∃ x n m i,vs=[.ref x,.str n,.str m,.int i]∧hJ n∧hJ m∧i.natAbs.log2 < 1920∧H x=some (.ext (XF x t.Jb none)) ∧
 ∀ dx,H dx=none→dx ≠ x→Q .non (upd (upd H x (.ext (XF x t.Jb (some dx)))) dx (.ext (XD dx [(Str.ofString "way",.str n),(Str.ofString "other",.str m),(Str.ofString "at",.int i)])))
noncomputable def Rv (t:Adr):Sp:=fun vs H Q E=>∃ c n ds p sp,vs=[.ref c,.ref p]∧Rc t H c n ds∧DOk ds∧LO H p (List.map sdO sp)∧sp.length ≤ 100 ∧
 match Gg ds sp with
 | none=>∀ H',Xb H H'→(NoT H→NoT H')→Q .non H'
 | some x=>EF t.ac [(Str.ofString "way",.str x)] H E
noncomputable def Ey (z:Int) (sp:List SD) (k:Nat) (d:SD):Int:=(((ofN d.name (sp.eraseIdx k)).map fun p=>(p.1 - d.b) % z).min?).getD z
noncomputable def wC:Sp:=fun vs H Q E=>∃ (z:Int) (p:Addr) (sp:List SD) (k:Nat) (d:SD),vs=[.int z,.ref p,.int k]∧0 < z∧LO H p (List.map sdO sp)∧sp.length ≤ 100∧sp[k]? = some d∧∀ H',Xb H H'→(NoT H→NoT H')→Q (.int (Ey z sp k d)) H'
theorem FA {α:Type} (l:List α) (x:α) (k:Nat):(l ++ [x]).eraseIdx k=if k=l.length then l.eraseIdx k else l.eraseIdx k ++ [x]:=by
 by_cases h:k < l.length
 ·rw [if_neg (by omega),List.eraseIdx_append_of_lt_length h]
 ·rw [List.eraseIdx_append_of_length_le (by omega),List.eraseIdx_of_length_le (l:=l) (by omega)]
  by_cases h2:k=l.length
  ·rw [if_pos h2,h2,Nat.sub_self];simp
  ·rw [if_neg h2,List.eraseIdx_of_length_le (by simp;omega)]
noncomputable def wOf (ds:List WD) (x:Str):Option WD:=ds.find? fun d=>decide (d.name=x)
noncomputable def Xp (ds:List WD) (z:Int) (sp:List SD) (k:Nat) (s:SD):Bool:=(wOf ds s.name).any fun d=>decide (s.n < d.least) || decide (Ey z sp k s < s.n + af d + yd d)
noncomputable def Dj (ds:List WD) (z:Int) (sp:List SD):Option (SD × Nat):=sp.zipIdx.find? fun e=>Xp ds z sp e.2 e.1
noncomputable def Ov (t:Adr):Sp:=fun vs H Q E=>∃ (c:Addr) (n:Int) (ds:List WD) (z:Int) (p:Addr) (sp:List SD),vs=[.ref c,.int z,.ref p]∧Rc t H c n ds∧DOk ds∧(0 < z∧z ≤ 1000)∧LO H p (List.map sdO sp)∧DJ z sp∧(∀ s ∈ sp,∃ d,wOf ds s.name=some d) ∧
 match Dj ds z sp with
 | none=>∀ H',Xb H H'→(NoT H→NoT H')→Q .non H'
 | some e=>EF t.fc [(Str.ofString "way",.str e.1.name),(Str.ofString "at",.int e.1.b)] H E
theorem mw {P:Program} {w:World} {K:PySem.W.Frag} {mg:Str→Option Value} {base:Heap} {CX:CXT} {j k:Nat} {OK:Addr→Prop} {m:Str} {ps:List Str} {SPV:Addr→Sp} (V:tH P w K mg base CX j OK m ps SPV) (h:j ≤ k):tH P w K mg base CX k OK m ps SPV:=⟨fun C hC=>by
 obtain ⟨f,fd,h1,h2,h3,h4⟩:=V.ok C hC
 exact ⟨f,fd,h1,h2,h3.mono h,h4⟩⟩
theorem DI {ds:List WD} {x:Str} {d:WD} (h:wOf ds x=some d):d.name=x∧∃ i:Nat,ds[i]? = some d:=by
 unfold wOf at h
 refine ⟨by simpa using List.find?_some h,?_⟩
 obtain ⟨i,hi,e⟩:=List.getElem_of_mem (List.mem_of_find?_eq_some h)
 exact ⟨i,by rw [List.getElem?_eq_getElem hi,e]⟩
noncomputable def Cm (d1 d2:WD):Int:=if d1.off - d2.near > 0 then d1.off - d2.near else 0
noncomputable def Ei (g:Int) (m1 m2:List Int):Option ((Int × Int) × Nat):=(m1.zip m2).zipIdx.find? fun e=>decide (e.1.2=0) && decide (e.1.1 ≤ g)
noncomputable def vJ (t:Adr):Sp:=fun vs H Q E=>∃ (c:Addr) (n:Int) (ds:List WD) (d1 d2:WD) (p1 p2:Addr) (m1 m2:List Int),vs=[.ref c,.str d1.name,.str d2.name,.ref p1,.ref p2]∧Rc t H c n ds∧DOk ds∧d1 ∈ ds∧d2 ∈ ds∧H p1=some (.lst (m1.map V.int))∧H p2=some (.lst (m2.map V.int))∧m1.length=m2.length∧m1.length ≤ 1000 ∧
 match Ei (Cm d1 d2) m1 m2 with
 | none=>∀ H',Xb H H'→(NoT H→NoT H')→Q .non H'
 | some e=>EF t.Jb [(Str.ofString "way",.str d1.name),(Str.ofString "other",.str d2.name),(Str.ofString "at",.int e.2)] H E
noncomputable def xg (z:Nat) (sp:List SD) (x:Str):List Int:=eu (fmF z (ofN x sp))
noncomputable def Dn (n:Int) (z:Nat) (sp:List SD) (d1 d2:WD):Option Nat:=if d1.name ≠ d2.name∧mt n d1 d2=true then (Ei (Cm d1 d2) (xg z sp d1.name) (xg z sp d2.name)).map (·.2) else none
noncomputable def vq (n:Int) (z:Nat) (sp:List SD) (d1:WD) (ds:List WD):Option (WD × WD × Nat):=ds.findSome? fun d2=>(Dn n z sp d1 d2).map fun i=>(d1,d2,i)
noncomputable def oi (n:Int) (z:Nat) (sp:List SD) (ds:List WD):Option (WD × WD × Nat):=ds.findSome? fun d1=>vq n z sp d1 ds
noncomputable def gw (t:Adr):Sp:=fun vs H Q E=>∃ (c:Addr) (n:Int) (ds:List WD) (z:Nat) (p:Addr) (sp:List SD),vs=[.ref c,.int z,.ref p]∧Rc t H c n ds∧0 < n∧DOk ds∧(0 < z∧z ≤ 1000)∧LO H p (List.map sdO sp)∧DJ z sp∧NoT H ∧
 match oi n z sp ds with
 | none=>∀ H',Xb H H'→NoT H'→Q .non H'
 | some e=>EF t.Jb [(Str.ofString "way",.str e.1.name),(Str.ofString "other",.str e.2.1.name),(Str.ofString "at",.int e.2.2)] H E
theorem vo (m:List Bool):(Bn m).length=m.length:=by unfold Bn;simp
theorem Uk (z:Nat) (sp:List SD) (x:Str):(xg z sp x).length=z:=by
 unfold xg eu
 rw [List.length_reverse,vo,List.length_reverse,Tn]
noncomputable def nkv (ds:List WD) (rs:List Addr):List (Key × V):=(ds.zip rs).map fun e=>(Sum.inr e.1.name,V.ref e.2)
noncomputable def NK (H:Hp) (p:Addr) (ds:List WD) (f:WD→HO) (n:Nat):Prop:=∃ rs:List Addr,rs.length=n∧H p=some (.dK (nkv ds rs))∧∀ (i:Nat) (r:Addr) (d:WD),rs[i]? = some r→ds[i]? = some d→H r=some (f d)
theorem Qy {ds:List WD} (h:(ds.map (·.name)).Nodup) {i j:Nat} {d e:WD} (hi:ds[i]? = some d) (hj:ds[j]? = some e) (z:d.name=e.name):i=j:=
 Lz h (List.getElem?_eq_some_iff.mp hi).1 (List.getElem?_eq_some_iff.mp hj).1 (by rw [nw hi,nw hj];exact z)
theorem fE {ds:List WD} {rs:List Addr} (h:(ds.map (·.name)).Nodup) {i:Nat} {d:WD} {r:Addr} (hd:ds[i]? = some d) (hr:rs[i]? = some r):Uo (nkv ds rs) (Sum.inr d.name)=some (.ref r):=by
 obtain ⟨h1,e1⟩:=List.getElem?_eq_some_iff.mp hd
 obtain ⟨h2,e2⟩:=List.getElem?_eq_some_iff.mp hr
 unfold Uo
 have hf:List.find? (fun kv=>decide (kv.1=(Sum.inr d.name:Key))) (nkv ds rs)=some (Sum.inr d.name,.ref r):=by
  rw [List.find?_eq_some_iff_getElem]
  refine ⟨by simp,i,by unfold nkv;simp;omega,by unfold nkv;simp [e1,e2],fun j hj=>?_⟩
  unfold nkv
  simp
  intro z
  have:=Qy h (List.getElem?_eq_getElem (show j < ds.length by omega)) hd z
  omega
 rw [hf];rfl
theorem Gx {ds:List WD} {rs:List Addr} (h:(ds.map (·.name)).Nodup) {d:WD} {r:Addr} (hd:ds[rs.length]? = some d):Fv (nkv ds rs) (Sum.inr d.name) (.ref r)=nkv ds (rs ++ [r]):=by
 obtain ⟨h1,e1⟩:=List.getElem?_eq_some_iff.mp hd
 unfold Fv
 have no:((nkv ds rs).any fun kv=>decide (kv.1=Sum.inr d.name))=false:=by
  rw [List.any_eq_false]
  intro p hp
  unfold nkv at hp
  obtain ⟨e,he,rfl⟩:=List.mem_map.mp hp
  obtain ⟨j,hj,hje⟩:=List.getElem_of_mem he
  simp only [decide_eq_true_eq]
  intro z
  have z:=Sum.inr.inj z
  rw [← hje] at z
  simp at hj z
  have:=Qy h (List.getElem?_eq_getElem (show j < ds.length by omega)) hd z
  omega
 rw [no,if_neg (by decide)]
 unfold nkv
 refine List.ext_getElem (by simp;omega) (fun i h3 h4=>?_)
 simp at h3 h4
 by_cases c:i < rs.length
 ·simp [List.getElem_append,c,show i < ds.length by omega]
  rw [dif_pos (by omega)]
 ·have:i=rs.length:=by omega
  subst this
  simp [List.getElem_append,Nat.le_of_lt h1,e1]
section
variable {P:Program} {w:World} {K:PySem.W.Frag} {mg:Str→Option Value} {base:Heap} {t:Adr}
theorem EO (T:Txt w K mg t):Eb P w K mg base CX0 1 t.zg t.Bh ["self","way"] (oJ t):=by
 refine T.Do.ok Co (fun vs H Q E h=>?_) (fun cdv A outer s H vs Q E hr h=>?_)
 ·obtain ⟨x,n,rfl,_⟩:=h;rfl
 obtain ⟨x,n,rfl,hn,hx,q⟩:=h
 refine ⟨_,(cb (lc (Bp rfl T.Zg T.vj (bb (pv 0) (bb (Jm (Ng (bv (pv 1) (Ng iz))) (by rw [sizeLine_eq];decide)) fb))))
   (gb (Gp (pv 0) (pv 1) rfl))),?_⟩
 (walk_at "RD")
 refine ⟨hn.1,hn.2,fun y=>⟨_,_,hx,T.Yn,?_⟩⟩
 exact ⟨_,hx,T.Yn,T.Fk,q⟩
theorem aP (T:Txt w K mg t):Eb P w K mg base CX0 1 t.ig t.xh ["self","way","at"] (pJ t):=by
 refine T.Lo.ok qo (fun vs H Q E h=>?_) (fun cdv A outer s H vs Q E hr h=>?_)
 ·obtain ⟨x,n,i,rfl,_⟩:=h;rfl
 obtain ⟨x,n,i,rfl,hn,hi,hx,q⟩:=h
 refine ⟨_,(cb (lc (Bp rfl T.Zg T.vj (bb (pv 0) (bb (Jm (Ng (bv (pv 1) (Ng (Jz (pv 2) iz)))) (by rw [sizeLine_eq];decide)) fb))))
   (cb (Gp (pv 0) (pv 1) rfl)
   (gb (Dp (pv 0) (pv 2) rfl)))),?_⟩
 (walk_at "RD")
 refine ⟨hn.1,hn.2,hi,fun y=>⟨_,_,hx,T.nv,?_⟩⟩
 refine ⟨_,hx,T.nv,T.xw,fun dx hd hne=>?_⟩
 refine ⟨_,dx,by rw [lb (Ne.symm hne),db],_,db,T.nv,T.Zx,show 1 < 1000 by decide,?_⟩
 rw [Ui,show Qg (Str.ofString "at") (V.int i) ([(Str.ofString "way",V.str n)]:List (Str × V))=[(Str.ofString "way",V.str n),(Str.ofString "at",V.int i)] from ad [Str.ofString "way"] rfl (by decide +kernel)]
 exact q dx hd hne
theorem vO (T:Txt w K mg t):Eb P w K mg base CX0 1 t.ug t.Nh ["self","way","other","at"] (cJ t):=by
 refine T.Qo.ok On (fun vs H Q E h=>?_) (fun cdv A outer s H vs Q E hr h=>?_)
 ·obtain ⟨x,n,m,i,rfl,_⟩:=h;rfl
 obtain ⟨x,n,m,i,rfl,hn,hm,hi,hx,q⟩:=h
 refine ⟨_,(cb (lc (Bp rfl T.Zg T.vj (bb (pv 0) (bb (Jm (Ng (bv (pv 1) (Ng (bv (pv 2) (Ng (Jz (pv 3) iz)))))) (by rw [sizeLine_eq];decide)) fb))))
   (cb (Gp (pv 0) (pv 1) rfl)
   (cb (Dp (pv 0) (pv 2) rfl)
   (gb (Dp (pv 0) (pv 3) rfl))))),?_⟩
 (walk_at "RD")
 refine ⟨hn.1,hn.2,hm.1,hm.2,hi,fun y=>⟨_,_,hx,T.Eg,?_⟩⟩
 refine ⟨_,hx,T.Eg,T.Sj,fun dx hd hne=>?_⟩
 refine ⟨_,dx,by rw [lb (Ne.symm hne),db],_,db,T.Eg,T.ji,show 1 < 1000 by decide,?_⟩
 rw [Ui,show Qg (Str.ofString "other") (V.str m) ([(Str.ofString "way",V.str n)]:List (Str × V))=[(Str.ofString "way",V.str n),(Str.ofString "other",V.str m)] from ad [Str.ofString "way"] rfl (by decide +kernel)]
 refine ⟨_,dx,by rw [lb (Ne.symm hne),db],_,db,T.Eg,T.Sl,show 2 < 1000 by decide,?_⟩
 rw [Ui,show Qg (Str.ofString "at") (V.int i) ([(Str.ofString "way",V.str n),(Str.ofString "other",V.str m)]:List (Str × V))=[(Str.ofString "way",V.str n),(Str.ofString "other",V.str m),(Str.ofString "at",V.int i)] from ad [Str.ofString "way",Str.ofString "other"] rfl (by decide +kernel)]
 exact q dx hd hne
theorem zF (T:Txt w K mg t):Eb P w K mg base (CX1 P w) 3 t.bg t.Xf ["crossing","spans"] (Rv t):=by
 have G_Never_init:Eb P w K mg base CX0 1 t.zg t.Bh ["self","way"] (oJ t):=EO T
 have G_spans_of:Eb P w K mg base CX0 2 t.bf t.cf ["spans","name"] Qn:=(iq T).mono (by decide)
 have G_Crossing_names:Eb P w K mg base CX0 2 t.Qc t.vd ["self"] (vn t):=(Cp T).mono (by decide)
 refine T.gi.okX Hk (fun vs H Q E h=>?_) (fun cdv A outer s H vs Q E hr h=>?_)
 ·obtain ⟨c,n,ds,p,sp,rfl,_⟩:=h;rfl
 obtain ⟨c,n,ds,p,sp,rfl,C,hD,L,hs,q⟩:=h
 refine ⟨_,(gb (Zd (De ⟨rfl,rfl⟩) rfl (ae (jd (pv 0) T.Lb T.Jd G_Crossing_names hr T.Kd .nil Cb)) (zb (i:=2) Hk.nd rfl (Or.inl rfl)) (gb (ge (Zm (fA (yb G_spans_of hr rfl T.Di T.Mf.kp T.Ni .nil Cb (bb (pv 1) (bb (pv 2) fb))) (fun _=>rfl))) (gb (Np (Mp T.xz G_Never_init hr rfl T.gy T.Tw (bb (pv 2) fb)) gv)) Zb)))),?_⟩
 (walk_at "RD")
 obtain ⟨_,dx,wl,nd,e1,_,_⟩:=id C
 refine ⟨_,_,e1,yz _ _ _ (by decide +kernel),c,n,ds,rfl,C,fun pn hpn=>⟨pn,rfl,⟨_,SqL.of db⟩,?_⟩⟩
 refine ni.list (xs:=Ib (ds.map (·.name))) (fun i σ H'=>(∃ y,σ=[some (V.ref c),some (V.ref p),y])∧Xb (upd H pn (.lst (Ib (ds.map (·.name))))) H'∧(NoT H→NoT H')∧Gg ds sp=((ds.map (·.name)).drop i).find? fun x=>(ofN x sp).isEmpty) ?_ ?_ ?_ ?_
 ·exact ⟨⟨_,rfl⟩,Xb.refl _,fun n=>n.upd,rfl⟩
 ·rintro i σ H' hi ⟨_,sm,_,_⟩
  exact SqL.of (sm _ _ db)
 ·rintro i v σ H' hv ⟨⟨y,rfl⟩,sm,nt,hf⟩
  obtain ⟨x,hx,rfl⟩:=yc hv
  have smH:Xb H H':=(jb hpn).trans sm
  obtain ⟨hi,hxi⟩:=List.getElem?_eq_some_iff.mp hx
  rw [List.drop_eq_getElem_cons hi,hxi,List.find?_cons] at hf
  (walk_at "RD")
  refine Rg (fun b H2=>b=(ofN x sp).isEmpty∧Xb H' H2∧(NoT H'→NoT H2)) (fun Q hQ=>?_) (fun H2 r=>?_) (fun H2 r=>?_)
  ·(walk_at "RD")
   refine ⟨p,x,sp,rfl,L.same smH,hs,fun r H2 s2 n2 ⟨qs,l1,l2⟩=>⟨!(ofN x sp).isEmpty,.inl ⟨_,SqL.of l1,?_⟩,?_⟩⟩
   ·have hl:=l2.1
    cases qs with
    | nil=>cases h:ofN x sp with
     | nil=>rfl
     | cons a r=>rw [h] at hl;simp at hl
    | cons a r=>cases h:ofN x sp with
     | nil=>rw [h] at hl;simp at hl
     | cons a r=>rfl
   ·rw [Bool.not_not]
    exact hQ _ _ ⟨rfl,s2,n2⟩
  ·obtain ⟨r1,r2,r3⟩:=r
   rw [← r1] at hf
   have hf:Gg ds sp=some x:=hf
   rw [hf] at q
   (walk_at "RD")
   have hn:hJ x:=by
    obtain ⟨d,hd,rfl⟩:=yc hx
    exact (hD d (List.mem_of_getElem? hd)).1
   refine ⟨by decide,fun a ha=>⟨a,x,rfl,hn,db,fun d hd hne=>?_⟩⟩
   have hd0:H2 d=none:=by rw [lb hne] at hd;exact hd
   refine ⟨rfl,t.ac,some d,by rw [lb (Ne.symm hne),db],T.Yn,q d _ (fun b u e=>?_) (fun n=>((((r3 (nt n)).upd).upd).upd).upd) (by rw [lb hne,db])⟩
   have e':=r2 _ _ (smH _ _ e)
   rw [lb (ub e' ha),lb (ub e' hd0),lb (ub e' ha),lb (ub e' ha)]
   exact e'
  ·obtain ⟨r1,r2,r3⟩:=r
   rw [← r1] at hf
   (walk_at "RD")
   exact ⟨⟨_,rfl⟩,sm.trans r2,fun n=>r3 (nt n),hf⟩
 ·rintro σ H' ⟨⟨y,rfl⟩,sm,nt,hf⟩
  rw [List.drop_of_length_le (by unfold Ib;simp)] at hf
  have hf:Gg ds sp=none:=hf
  rw [hf] at q
  exact q _ ((jb hpn).trans sm) nt
theorem EK (T:Txt w K mg t):Eb P w K mg base CX0 2 t.Sd t.Ld ["size","spans","place"] wC:=by
 have G_spans_of:Eb P w K mg base CX0 1 t.bf t.cf ["spans","name"] Qn:=iq T
 refine T.Ce.ok Uc (fun vs H Q E h=>?_) (fun cdv A outer s H vs Q E hr h=>?_)
 ·obtain ⟨z,p,sp,k,d,rfl,_⟩:=h;rfl
 obtain ⟨z,p,sp,k,d,rfl,hz,⟨qs,l1,lq⟩,hs,hk,q⟩:=h
 refine ⟨_,(cb (ju (Nc Hd (pv 1) (pv 2) (fun _ _=>rfl)) (Hf (K:=K) (n:=3) rfl rfl (Vb (zb (i:=3) Uc.nd rfl (Or.inl rfl) (.inl rfl)) (Vb (zb (i:=4) Uc.nd rfl (Or.inr rfl) (.inl rfl)) (Vb (zb (i:=5) Uc.nd rfl (Or.inl rfl) (.inl rfl)) Lf)))))
   (cb (Rk (i:=6) Uc.nd rfl (Or.inl rfl) rfl (jq rfl T.vh (bb (pv 1) fb)) (Vd (sc:=ib Nd) rfl (by decide +kernel)) (N:=["at","span","place"]) (sel:=[none,none,some 2]) (Le (M:=["size","spans","place","name","begin","turns","others"]) (by decide +kernel)) (Blk.of (fun _ _ _ _=>(Hf (K:=K) (n:=2) rfl rfl (Vb (zb (i:=0) (Ii (N:=["at","span","place"]) (by decide +kernel) rfl) rfl (Or.inl rfl) (.inr rfl)) (Vb (zb (i:=1) (Ii (N:=["at","span","place"]) (by decide +kernel) rfl) rfl (Or.inl rfl) (.inr rfl)) Lf)))) (fun _ _ _ _=>⟨_,(kx (Sb DA (pv 0) (pv 2) (uc _))),by first | rfl | (dsimp only [Cx.block];done) | (dsimp only [Cx.block];exact rfl)⟩) (fun _ _ _ _=>⟨_,(pv 1),by first | rfl | (dsimp only [Cx.block];done) | (dsimp only [Cx.block];exact rfl)⟩)) rfl)
   (gb (Fb (RL rfl rfl T.GO (bb (Qi rfl (ae (yb G_spans_of hr rfl T.Di T.Mf.kp T.Ni .nil Cb (bb (pv 6) (bb (pv 3) fb)))) (Vd (sc:=ib Nd) rfl (by decide +kernel)) (N:=["later","many","begin","size"]) (sel:=[none,none,some 4,some 0]) (Le (M:=["size","spans","place","name","begin","turns","others"]) (by decide +kernel)) (Blk.of (fun _ _ _ _=>(Hf (K:=K) (n:=2) rfl rfl (Vb (zb (i:=0) (Ii (N:=["later","many","begin","size"]) (by decide +kernel) rfl) rfl (Or.inl rfl) (.inr rfl)) (Vb (zb (i:=1) (Ii (N:=["later","many","begin","size"]) (by decide +kernel) rfl) rfl (Or.inl rfl) (.inr rfl)) Lf)))) (fun _ _ _ _=>⟨_,Xh,by first | rfl | (dsimp only [Cx.block];done) | (dsimp only [Cx.block];exact rfl)⟩) (fun _ _ _ _=>⟨_,(Pb Af (Pb zf (pv 0) (pv 2)) (pv 3)),by first | rfl | (dsimp only [Cx.block];done) | (dsimp only [Cx.block];exact rfl)⟩))) fb) (pv 0)))))),?_⟩
 (walk_at "RD")
 have hql:qs.length=sp.length:=by rw [lq.1,List.length_map]
 obtain ⟨hkl,hkd⟩:=List.getElem?_eq_some_iff.mp hk
 have hqk:qs[k]? = some qs[k]:=List.getElem?_eq_getElem (by omega)
 have ek:H qs[k]=some (sdO d):=lq.2 k _ _ hqk (by rw [List.getElem?_map,hk];rfl)
 refine ⟨_,SqL.of l1,_,Ic (by rw [List.getElem?_map,hqk];rfl),_,rfl,_,SqT.of ek,rfl,_,_,rfl,_,_,rfl,_,_,rfl,rfl,⟨_,SqL.of l1⟩,?_⟩
 refine de.enum (xs:=qs.map V.ref) (fun i ys H'=>∃ os:List Addr,ys=os.map V.ref∧LQ H' os (((sp.take i).eraseIdx k).map sdO)∧Xb H H'∧(NoT H→NoT H')) (Nat.le_trans (show (qs.map V.ref).length ≤ 100 by rw [List.length_map];omega) (by decide)) ⟨[],rfl,by rw [List.take_zero];exact LQ.nil _,Xb.refl _,id⟩ ?_ ?_ ?_
 ·rintro i ys H' hi ⟨os,rfl,r,sm,_⟩
  refine ⟨(SqL.of l1).same sm,?_⟩
  rw [List.length_map,r.1,List.length_map]
  exact Nat.le_trans (List.length_eraseIdx_le ..) (by rw [List.length_take];omega)
 ·rintro i v ys H' p1 hv ⟨os,rfl,r,sm,nt⟩ hp1 N hN
  obtain ⟨qi,hqi,rfl⟩:=yc hv
  obtain ⟨o,ho,e⟩:=lq.at hqi
  obtain ⟨d',hd',rfl⟩:=yc ho
  have e':=sm _ _ e
  have s1:Xb H' (upd H' p1 (.tup [.int i,.ref qi])):=jb hp1
  refine ik ?_
  dsimp only at hN
  have hil:(sp.take i).length=i:=by
   have:=(List.getElem?_eq_some_iff.mp hd').1
   rw [List.length_take];omega
  rw [ng hd',FA,hil] at hN
  (walk_at "RD")
  refine ⟨Sub.name2,?_⟩
  by_cases c:k=i
  ·rw [if_pos c] at hN
   rw [if_neg (by subst c;simp)]
   exact hN _ _ ⟨os,rfl,r.same s1,sm.trans s1,fun n=>(nt n).upd⟩
  ·rw [if_neg c] at hN
   rw [if_pos (by simp;omega)]
   refine hN _ _ ⟨os ++ [qi],by rw [List.map_append];rfl,?_,sm.trans s1,fun n=>(nt n).upd⟩
   rw [List.map_append]
   exact (r.same s1).app (LQ.one (s1 _ _ e'))
 ·rintro ys H' ⟨os,rfl,r,sm,nt⟩ p1 hp1
  rw [List.take_of_length_le (by rw [List.length_map];omega)] at r
  (walk_at "RD")
  have s1:Xb H' (upd H' p1 (.lst (os.map V.ref))):=jb hp1
  refine ⟨p1,d.name,sp.eraseIdx k,rfl,⟨os,db,r.same s1⟩,Nat.le_trans (List.length_eraseIdx_le ..) hs,fun r2 H2 s2 n2 ⟨qs2,m1,m2⟩=>⟨r2,rfl,⟨_,SqL.of m1⟩,?_⟩⟩
  have hln:(ofN d.name (sp.eraseIdx k)).length ≤ 100:=Nat.le_trans (OE _ _) (Nat.le_trans (List.length_eraseIdx_le ..) hs)
  have hml:qs2.length=(ofN d.name (sp.eraseIdx k)).length:=by rw [m2.1,List.length_map]
  refine de.list_zs (zs:=((ofN d.name (sp.eraseIdx k)).map fun p=>(p.1 - d.b) % z).map V.int) (SqL.of m1) (Nat.le_trans (show (qs2.map V.ref).length ≤ 100 by rw [List.length_map];omega) (by decide)) (by simp [hml]) (fun i v z' N hv hz' hN=>?_) (fun l hl=>?_)
  ·obtain ⟨qi,hqi,rfl⟩:=yc hv
   obtain ⟨o,ho,e⟩:=m2.at hqi
   obtain ⟨pr,hpr,rfl⟩:=yc ho
   obtain ⟨y,hy,rfl⟩:=yc hz'
   obtain ⟨pr',hpr',rfl⟩:=yc hy
   rw [hpr] at hpr'
   cases hpr'
   (walk_at "RD")
   exact ⟨_,SqT.of e,rfl,_,_,rfl,_,_,rfl,rfl,Sub.name2,_,rfl,hz,hN⟩
  ·(walk_at "RD")
   refine ⟨_,SqL.of db,?_⟩
   have:=q (upd H2 l (.lst (((ofN d.name (sp.eraseIdx k)).map fun p=>(p.1 - d.b) % z).map V.int))) (((sm.trans s1).trans s2).trans (jb hl)) (fun n=>(n2 (nt n).upd).upd)
   unfold Ey at this
   cases hm:((ofN d.name (sp.eraseIdx k)).map fun p=>(p.1 - d.b) % z).min? with
   | none=>rw [hm] at this;exact this
   | some m=>rw [hm] at this;exact this
theorem BF (T:Txt w K mg t):Eb P w K mg base (CX1 P w) 4 t.Yf t.cg ["crossing","size","spans"] (Ov t):=by
 have G_Short_init:Eb P w K mg base CX0 2 t.ig t.xh ["self","way","at"] (pJ t):=(aP T).mono (by decide)
 have G_turns_to_next_begin:Eb P w K mg base CX0 3 t.Sd t.Ld ["size","spans","place"] wC:=(EK T).mono (by decide)
 have G_Crossing_called:Eb P w K mg base CX0 3 t.vc t.Ec ["self","name"] (Ci t):=(Mj T).mono (by decide)
 have V_Way_ready:tH P w K mg base CX0 3 (isW t) "ready" ["self"] (zi t):=mw (zC T) (by decide)
 have V_Way_fade:tH P w K mg base CX0 3 (isW t) "fade" ["self"] (Sk t):=mw (aJ T) (by decide)
 refine T.ci.okX bd (fun vs H Q E h=>?_) (fun cdv A outer s H vs Q E hr h=>?_)
 ·obtain ⟨c,n,ds,z,p,sp,rfl,_⟩:=h;rfl
 obtain ⟨c,n,ds,z,p,sp,rfl,C,hD,hz,⟨qs,l1,lq⟩,hs,hk,q⟩:=h
 refine ⟨_,(gb (Zd (De ⟨rfl,rfl⟩) rfl (jq rfl T.vh (bb (pv 2) fb)) (Hf (K:=K) (n:=2) rfl rfl (Vb (zb (i:=3) bd.nd rfl (Or.inl rfl) (.inl rfl)) (Vb (zb (i:=4) bd.nd rfl (Or.inl rfl) (.inl rfl)) Lf))) (cb (ju (pv 4) (Hf (K:=K) (n:=3) rfl rfl (Vb (zb (i:=5) bd.nd rfl (Or.inl rfl) (.inl rfl)) (Vb (zb (i:=6) bd.nd rfl (Or.inl rfl) (.inl rfl)) (Vb (zb (i:=7) bd.nd rfl (Or.inl rfl) (.inl rfl)) Lf)))))
   (cb (Ab (i:=8) bd.nd rfl (Or.inl rfl) (Vc (pv 0) T.Lb T.Zc G_Crossing_called hr T.Yc .nil Cb (bb (pv 5) fb)))
   (cb (Ab (i:=9) bd.nd rfl (Or.inl rfl) (Pb se (Pb se (pv 7) (Hm (pv 8) V_Way_fade hr Cb)) (Hm (pv 8) V_Way_ready hr Cb)))
   (gb (ge (PW.pt (JB (Sb xv (pv 7) (Tc (pv 8) rfl) (uc _)) (gu (Sb xv (yb G_turns_to_next_begin hr rfl T.vk T.Ce.kp T.Ck .nil Cb (bb (pv 1) (bb (pv 2) (bb (pv 3) fb)))) (pv 9) (uc _))))) (gb (Np (Mp T.pz G_Short_init hr rfl T.XC T.Jw (bb (pv 5) (bb (pv 6) fb))) gv)) Zb))))))),?_⟩
 (walk_at "RD")
 have hql:qs.length=sp.length:=by rw [lq.1,List.length_map]
 refine ⟨⟨_,SqL.of l1⟩,?_⟩
 refine ni.enum (xs:=qs.map V.ref) (fun i σ H'=>(∃ a b c1 d e f g,σ=[some (V.ref c),some (V.int z),some (V.ref p),a,b,c1,d,e,f,g])∧Xb H H'∧(NoT H→NoT H')∧Dj ds z sp=(sp.zipIdx.drop i).find? fun e=>Xp ds z sp e.2 e.1) ?_ ?_ ?_ ?_
 ·exact ⟨⟨_,_,_,_,_,_,_,rfl⟩,Xb.refl _,id,rfl⟩
 ·rintro i σ H' hi ⟨_,sm,_,_⟩
  exact SqL.of (sm _ _ l1)
 ·rintro i v σ H0 p1 hv ⟨⟨a1,a2,a3,a4,a5,a6,a7,rfl⟩,sm,nt,hf⟩ hp1
  obtain ⟨qi,hqi,rfl⟩:=yc hv
  obtain ⟨o,ho,e⟩:=lq.at hqi
  obtain ⟨sd,hsd,rfl⟩:=yc ho
  obtain ⟨hi,hxi⟩:=List.getElem?_eq_some_iff.mp hsd
  rw [List.drop_eq_getElem_cons (by simpa using hi),List.find?_cons] at hf
  simp only [List.getElem_zipIdx,Nat.zero_add,hxi] at hf
  have s1:Xb H0 (upd H0 p1 (.tup [.int i,.ref qi])):=jb hp1
  refine ik ?_
  have nt1:NoT H→NoT (upd H0 p1 (.tup [.int i,.ref qi])):=fun n=>(nt n).upd
  generalize upd H0 p1 (.tup [.int i,.ref qi])=H' at s1 nt1 ⊢
  have smH:Xb H H':=sm.trans s1
  obtain ⟨d,hd⟩:=hk sd (List.mem_of_getElem? hsd)
  obtain ⟨hdn,j,hj⟩:=DI hd
  have C':=C.same smH
  obtain ⟨_,dx,wl,nd,e1,_,_⟩:=id C'
  have hDd:=hD d (List.mem_of_getElem? hj)
  have hB:Xp ds z sp i sd=(decide (sd.n < d.least) || decide (Ey z sp i sd < sd.n + af d + yd d)):=by
   unfold Xp;rw [hd];rfl
  (walk_at "RD")
  refine ⟨_,SqT.of (smH _ _ e),rfl,_,_,rfl,_,_,rfl,_,_,rfl,rfl,_,_,e1,yz _ _ _ (by decide +kernel),c,n,ds,j,d,by rw [hdn],C',hj,fun a W=>?_⟩
  obtain ⟨dk,dxa,ha⟩:=id W
  refine ⟨a,rfl,_,_,_,ha,⟨_,dk,rfl⟩,fP (by decide +kernel),a,d,rfl,W,rfl,_,rfl,_,rfl,a,rfl,_,_,_,ha,⟨_,dk,rfl⟩,fP (by decide +kernel),a,d,rfl,W,rfl,_,rfl,?_⟩
  refine Rg (fun b H2=>b=Xp ds z sp i sd∧Xb H' H2∧(NoT H'→NoT H2)) (fun Q hQ=>?_) (fun H2 r=>?_) (fun H2 r=>?_)
  ·rw [hB] at hQ
   (walk_at "RD")
   refine ⟨_,W.f_least T,_,rfl,?_⟩
   by_cases c1:sd.n < d.least
   ·rw [decide_eq_true c1] at hQ
    rw [if_pos (decide_eq_true c1)]
    exact hQ _ _ ⟨rfl,Xb.refl _,id⟩
   ·rw [decide_eq_false c1,Bool.false_or] at hQ
    rw [if_neg (by simpa using c1)]
    exact ⟨z,p,sp,i,sd,rfl,hz.1,⟨qs,smH _ _ l1,lq.same smH⟩,hs.1,hsd,fun H2 s2 n2=>⟨_,rfl,hQ _ _ ⟨rfl,s2,n2⟩⟩⟩
  ·obtain ⟨r1,r2,r3⟩:=r
   rw [← r1] at hf
   have hf:Dj ds z sp=some (sd,i):=hf
   rw [hf] at q
   (walk_at "RD")
   have hn:hJ sd.name:=by rw [← hdn];exact hDd.1
   have hsb:=hs.2 sd (List.mem_of_getElem? hsd)
   refine ⟨by decide,fun a ha=>⟨a,sd.name,sd.b,rfl,hn,Zl (by omega),db,fun d hd hne=>?_⟩⟩
   have hd0:H2 d=none:=by rw [lb hne] at hd;exact hd
   refine ⟨rfl,t.fc,some d,by rw [lb (Ne.symm hne),db],T.nv,q d _ (fun b u e=>?_) (fun n=>((((r3 (nt1 n)).upd).upd).upd).upd) (by rw [lb hne,db])⟩
   have e':=r2 _ _ (smH _ _ e)
   rw [lb (ub e' ha),lb (ub e' hd0),lb (ub e' ha),lb (ub e' ha)]
   exact e'
  ·obtain ⟨r1,r2,r3⟩:=r
   rw [← r1] at hf
   exact ⟨⟨_,_,_,_,_,_,_,rfl⟩,smH.trans r2,fun n=>r3 (nt1 n),hf⟩
 ·rintro σ H' ⟨_,sm,nt,hf⟩
  rw [List.drop_of_length_le (by simp [hql])] at hf
  have hf:Dj ds z sp=none:=hf
  rw [hf] at q
  exact q _ sm nt
theorem jN (T:Txt w K mg t):Eb P w K mg base (CX1 P w) 4 t.Oe t.Qe ["crossing","one","other","since_one","since_other"] (vJ t):=by
 have G_Clash_init:Eb P w K mg base CX0 2 t.ug t.Nh ["self","way","other","at"] (cJ t):=(vO T).mono (by decide)
 have G_gap:Eb P w K mg base CX0 3 t.iH t.RG ["crossing","one","other"] (CJ t):=rN T
 refine T.Jf.okX ve (fun vs H Q E h=>?_) (fun cdv A outer s H vs Q E hr h=>?_)
 ·obtain ⟨c,n,ds,d1,d2,p1,p2,m1,m2,rfl,_⟩:=h;rfl
 obtain ⟨c,n,ds,d1,d2,p1,p2,m1,m2,rfl,C,hD,h1,h2,L1,L2,hl,hm,q⟩:=h
 refine ⟨_,(cb (Ab (i:=5) ve.nd rfl (Or.inl rfl) (yb G_gap hr rfl T.wP T.FL.kp T.DP .nil Cb (bb (pv 0) (bb (pv 1) (bb (pv 2) fb)))))
   (gb (Zd (De ⟨rfl,rfl⟩) rfl (jq rfl T.vh (bb (pv 3) fb)) (Hf (K:=K) (n:=2) rfl rfl (Vb (zb (i:=6) ve.nd rfl (Or.inl rfl) (.inl rfl)) (Vb (zb (i:=7) ve.nd rfl (Or.inl rfl) (.inl rfl)) Lf))) (gb (ge (PW.pt (Ym (Sb bi (Nc Hd (pv 4) (pv 6) (fun _ _=>rfl)) rb (uc _)) (ak (Sb bQ (pv 7) (pv 5) (uc _))))) (gb (Np (Mp T.Bz G_Clash_init hr rfl T.zy T.sw (bb (pv 1) (bb (pv 2) (bb (pv 6) fb)))) gv)) Zb))))),?_⟩
 (walk_at "RD")
 obtain ⟨j1,hj1,ej1⟩:=List.getElem_of_mem h1
 obtain ⟨j2,hj2,ej2⟩:=List.getElem_of_mem h2
 refine ⟨c,n,ds,j1,j2,d1,d2,rfl,C,by rw [List.getElem?_eq_getElem hj1,ej1],by rw [List.getElem?_eq_getElem hj2,ej2],⟨_,SqL.of L1⟩,?_⟩
 rw [show (if d1.off - d2.near > 0 then d1.off - d2.near else 0)=Cm d1 d2 from rfl]
 refine ni.enum (xs:=m1.map V.int) (fun i σ H'=>(∃ a b,σ=[some (V.ref c),some (V.str d1.name),some (V.str d2.name),some (V.ref p1),some (V.ref p2),some (V.int (Cm d1 d2)),a,b])∧Xb H H'∧(NoT H→NoT H')∧Ei (Cm d1 d2) m1 m2=((m1.zip m2).zipIdx.drop i).find? fun e=>decide (e.1.2=0) && decide (e.1.1 ≤ Cm d1 d2)) ?_ ?_ ?_ ?_
 ·exact ⟨⟨_,_,rfl⟩,Xb.refl _,id,rfl⟩
 ·rintro i σ H' hi ⟨_,sm,_,_⟩
  exact SqL.of (sm _ _ L1)
 ·rintro i v σ H0 p3 hv ⟨⟨a1,a2,rfl⟩,sm,nt,hf⟩ hp3
  obtain ⟨x1,hx1,rfl⟩:=yc hv
  obtain ⟨hi,ex1⟩:=List.getElem?_eq_some_iff.mp hx1
  have hi2:i < m2.length:=by omega
  have hx2:m2[i]? = some m2[i]:=List.getElem?_eq_getElem hi2
  rw [List.drop_eq_getElem_cons (by simp;omega),List.find?_cons] at hf
  simp only [List.getElem_zipIdx,List.getElem_zip,Nat.zero_add,ex1] at hf
  have s1:Xb H0 (upd H0 p3 (.tup [.int i,.int x1])):=jb hp3
  refine ik ?_
  have nt1:NoT H→NoT (upd H0 p3 (.tup [.int i,.int x1])):=fun n=>(nt n).upd
  generalize upd H0 p3 (.tup [.int i,.int x1])=H' at s1 nt1 ⊢
  have smH:Xb H H':=sm.trans s1
  (walk_at "RD")
  refine Rb (decide (m2[i]=0) && decide (x1 ≤ Cm d1 d2)) (fun Q hQ=>?_) (fun c1=>?_) (fun c1=>?_)
  ·(walk_at "RD")
   refine ⟨_,SqL.of (smH _ _ L2),_,Ic (by rw [List.getElem?_map,hx2];rfl),rfl,?_⟩
   by_cases c0:m2[i]=0
   ·rw [decide_eq_true c0,Bool.true_and] at hQ
    rw [if_pos (by rw [c0];exact decide_eq_true rfl)]
    exact hQ
   ·rw [decide_eq_false c0,Bool.false_and] at hQ
    rw [if_neg (by rw [decide_eq_true_eq];exact fun e=>c0 (V.int.inj e))]
    exact hQ
  ·rw [c1] at hf
   have hf:Ei (Cm d1 d2) m1 m2=some ((x1,m2[i]),i):=hf
   rw [hf] at q
   (walk_at "RD")
   refine ⟨by decide,fun a ha=>⟨a,d1.name,d2.name,i,rfl,(hD _ h1).1,(hD _ h2).1,Zl (by omega),db,fun d hd hne=>?_⟩⟩
   have hd0:H' d=none:=by rw [lb hne] at hd;exact hd
   refine ⟨rfl,t.Jb,some d,by rw [lb (Ne.symm hne),db],T.Eg,q d _ (fun b u e=>?_) (fun n=>((((nt1 n).upd).upd).upd).upd) (by rw [lb hne,db])⟩
   have e':=smH _ _ e
   rw [lb (ub e' ha),lb (ub e' hd0),lb (ub e' ha),lb (ub e' ha)]
   exact e'
  ·rw [c1] at hf
   exact ⟨⟨_,_,rfl⟩,smH,nt1,hf⟩
 ·rintro σ H' ⟨_,sm,nt,hf⟩
  rw [List.drop_of_length_le (by simp;omega)] at hf
  have hf:Ei (Cm d1 d2) m1 m2=none:=hf
  rw [hf] at q
  exact q _ sm nt
theorem WE (T:Txt w K mg t):Eb P w K mg base (CX1 P w) 5 t.fg t.gg ["crossing","size","spans"] (gw t):=by
 have G_since_marked:Eb P w K mg base CX0 4 t.Vf t.dg ["marks"] dA:=(uH T).mono (by decide)
 have G_free_marks:Eb P w K mg base CX0 4 t.rg t.yg ["size","spans","name"] fM:=(fN T).mono (by decide)
 have G_Crossing_names:Eb P w K mg base CX0 4 t.Qc t.vd ["self"] (vn t):=(Cp T).mono (by decide)
 have G_meet:Eb P w K mg base CX0 4 t.Iz t.Oz ["crossing","one","other"] (VE t):=(zK T).mono (by decide)
 have GX_refuse_clash_of:Eb P w K mg base (CX1 P w) 4 t.Oe t.Qe ["crossing","one","other","since_one","since_other"] (vJ t):=jN T
 refine T.ai.okX Be (fun vs H Q E h=>?_) (fun cdv A outer s H vs Q E hr h=>?_)
 ·obtain ⟨c,n,ds,z,p,sp,rfl,_⟩:=h;rfl
 obtain ⟨c,n,ds,z,p,sp,rfl,C,hn,hD,hz,L,hs,nt0,q⟩:=h
 have hu:=CH hr
 refine ⟨_,(cb (Ab (i:=3) Be.nd rfl (Or.inl rfl) Fp)
   (cb (Zd (De ⟨rfl,rfl⟩) rfl (ae (jd (pv 0) T.Lb T.Jd G_Crossing_names hr T.Kd .nil Cb)) (zb (i:=4) Be.nd rfl (Or.inl rfl)) (gb (lu hu (pv 3) (pv 4) (yb G_since_marked hr rfl T.Es T.di.kp T.jt .nil Cb (bb (yb G_free_marks hr rfl T.Eo T.Vh.kp T.Ho .nil Cb (bb (pv 1) (bb (pv 2) (bb (pv 4) fb)))) fb)) rfl)))
   (gb (Zd (De ⟨rfl,rfl⟩) rfl (ae (jd (pv 0) T.Lb T.Jd G_Crossing_names hr T.Kd .nil Cb)) (zb (i:=5) Be.nd rfl (Or.inl rfl)) (gb (Zd (De ⟨rfl,rfl⟩) rfl (ae (jd (pv 0) T.Lb T.Jd G_Crossing_names hr T.Kd .nil Cb)) (zb (i:=6) Be.nd rfl (Or.inl rfl)) (gb (ge (PW.pt (Ym (Sb DA (pv 5) (pv 6) (uc _)) (ak (Ef (yb G_meet hr rfl T.vM T.aF.kp T.lO .nil Cb (bb (pv 0) (bb (pv 5) (bb (pv 6) fb)))))))) (gb (lc (yb GX_refuse_clash_of hr rfl T.Nn T.Jf.kp T.Xn .nil je (bb (pv 0) (bb (pv 5) (bb (pv 6) (bb (Ny hu (pv 3) (pv 5) (fun _ _=>rfl)) (bb (Ny hu (pv 3) (pv 6) (fun _ _=>rfl)) fb)))))))) Zb)))))))),?_⟩
 (walk_at "RD")
 intro pd hpd
 obtain ⟨⟨hnd,hdl⟩,dx,wl,nd,e1,_,_⟩:=id C
 have s0:Xb H (upd H pd (.dK [])):=jb hpd
 refine ⟨_,_,s0 _ _ e1,yz _ _ _ (by decide +kernel),c,n,ds,rfl,C.same s0,fun pn hpn=>⟨pn,rfl,⟨_,SqL.of db⟩,?_⟩⟩
 have hpp:pn ≠ pd:=fun e=>by subst e;rw [db] at hpn;cases hpn
 refine ni.list (xs:=Ib (ds.map (·.name))) (fun i σ H'=>(∃ y,σ=[some (V.ref c),some (V.int z),some (V.ref p),some (V.ref pd),y,none,none])∧Xb H H'∧NoT H'∧H' pn=some (.lst (Ib (ds.map (·.name))))∧NK H' pd ds (fun d=>.lst ((xg z sp d.name).map V.int)) i) ?_ ?_ ?_ ?_
 ·exact ⟨⟨_,rfl⟩,s0.trans (jb hpn),(nt0.upd).upd,db,[],rfl,by rw [lb (Ne.symm hpp),db];simp [nkv],fun i r d h=>by simp at h⟩
 ·rintro i σ H' hi ⟨_,_,_,h,_⟩
  exact SqL.of h
 ·rintro i v σ H' hv ⟨⟨y,rfl⟩,sm,nt,hpn',rs,hrl,hpd',hrs⟩
  obtain ⟨x,hx,rfl⟩:=yc hv
  obtain ⟨d,hd,rfl⟩:=yc hx
  (walk_at "RD")
  refine ⟨z,p,d.name,sp,rfl,hz,L.same sm,hs,fun r1 H1 s1 n1 hr1 h1=>⟨r1,_,rfl,h1,by rw [Tn];exact hz,fun r2 H2 s2 n2 hr2 h2=>?_⟩⟩
  have s12:=s1.trans s2
  have hp2:=s12 _ _ hpd'
  refine ⟨_,OA.k (k:=Sum.inr d.name) hp2 (Nat.lt_of_le_of_lt (show (nkv ds rs).length ≤ 12 by unfold nkv;rw [List.length_map,List.length_zip];omega) (by decide)),?_⟩
  have hdi:ds[rs.length]? = some d:=by rw [hrl];exact hd
  rw [Gx hnd hdi]
  have hne:∀ {b:Addr} {ys:List V},H2 b=some (.lst ys)→b ≠ pd:=fun e=>Fe e hp2 (by intro z;cases z)
  refine ⟨⟨_,rfl⟩,fun b u e=>?_,(n2 (n1 nt)).upd,?_,rs ++ [r2],by rw [List.length_append,hrl];rfl,db,fun j r e hj he=>?_⟩
  ·rw [lb (ub e hpd)];exact s12 _ _ (sm _ _ e)
  ·rw [lb hpp];exact s12 _ _ hpn'
  ·rcases Wj hj with ⟨_,z2⟩ | ⟨z1,rfl⟩
   ·have:=s12 _ _ (hrs j r e z2 he)
    rw [lb (hne this)];exact this
   ·rw [z1] at he
    rw [hdi] at he
    cases he
    rw [lb (hne h2)];exact h2
 rintro σ H1 ⟨⟨y,rfl⟩,sm1,nt1,hpn1,N1⟩
 have hsl:(Ib (ds.map (·.name))).length=ds.length:=by unfold Ib;simp
 rw [hsl] at N1
 obtain ⟨rs,hrl,hpd1,hrs⟩:=N1
 have C1:=C.same sm1
 (walk_at "RD")
 refine ⟨_,_,sm1 _ _ e1,yz _ _ _ (by decide +kernel),c,n,ds,rfl,C1,fun p2 hp2=>⟨p2,rfl,⟨_,SqL.of db⟩,?_⟩⟩
 refine ni.list (xs:=Ib (ds.map (·.name))) (fun i σ H'=>(∃ y u v,σ=[some (V.ref c),some (V.int z),some (V.ref p),some (V.ref pd),y,u,v])∧Xb H1 H'∧NoT H'∧H' p2=some (.lst (Ib (ds.map (·.name))))∧oi n z sp ds=(ds.drop i).findSome? fun d1=>vq n z sp d1 ds) ?_ ?_ ?_ ?_
 ·exact ⟨⟨_,_,_,rfl⟩,jb hp2,nt1.upd,db,rfl⟩
 ·rintro i σ H' hi ⟨_,_,_,h,_⟩
  exact SqL.of h
 ·rintro i v σ H2 hv ⟨⟨y,u,v',rfl⟩,sm2,nt2,hpn2,hA⟩
  obtain ⟨x,hx,rfl⟩:=yc hv
  obtain ⟨d1,hd1,rfl⟩:=yc hx
  obtain ⟨hi,hxi⟩:=List.getElem?_eq_some_iff.mp hd1
  rw [List.drop_eq_getElem_cons hi,hxi,List.findSome?_cons] at hA
  have C2:=C1.same sm2
  (walk_at "RD")
  refine ⟨_,_,sm2 _ _ (sm1 _ _ e1),yz _ _ _ (by decide +kernel),c,n,ds,rfl,C2,fun p3 hp3=>⟨p3,rfl,⟨_,SqL.of db⟩,?_⟩⟩
  refine ni.list (xs:=Ib (ds.map (·.name))) (fun j σ H'=>(∃ y v,σ=[some (V.ref c),some (V.int z),some (V.ref p),some (V.ref pd),y,some (V.str d1.name),v])∧Xb H2 H'∧NoT H'∧H' p3=some (.lst (Ib (ds.map (·.name))))∧vq n z sp d1 ds=(ds.drop j).findSome? fun d2=>(Dn n z sp d1 d2).map fun i=>(d1,d2,i)) ?_ ?_ ?_ ?_
  ·exact ⟨⟨_,_,rfl⟩,jb hp3,nt2.upd,db,rfl⟩
  ·rintro i σ H' hi ⟨_,_,_,h,_⟩
   exact SqL.of h
  ·rintro j v σ H3 hv ⟨⟨y,v',rfl⟩,sm3,nt3,hpn3,hB⟩
   obtain ⟨x,hx,rfl⟩:=yc hv
   obtain ⟨d2,hd2,rfl⟩:=yc hx
   obtain ⟨hj,hxj⟩:=List.getElem?_eq_some_iff.mp hd2
   rw [List.drop_eq_getElem_cons hj,hxj,List.findSome?_cons] at hB
   have C3:=C2.same sm3
   have sm13:=sm2.trans sm3
   (walk_at "RD")
   refine Rb (decide (d1.name ≠ d2.name) && mt n d1 d2) (fun Q hQ=>?_) (fun c1=>?_) (fun c1=>?_)
   ·(walk_at "RD")
    by_cases c0:d1.name=d2.name
    ·rw [decide_eq_false (fun z=>z c0),Bool.false_and] at hQ
     rw [if_neg (by simp [c0])]
     exact hQ
    ·rw [decide_eq_true c0,Bool.true_and] at hQ
     rw [if_pos (by simp [c0])]
     exact ⟨c,n,ds,i,j,d1,d2,rfl,C3,hn,hd1,hd2,nt3,_,rfl,hQ⟩
   ·rw [Bool.and_eq_true] at c1
    have c2:Dn n z sp d1 d2=(Ei (Cm d1 d2) (xg z sp d1.name) (xg z sp d2.name)).map (·.2):=by
     unfold Dn;rw [if_pos ⟨of_decide_eq_true c1.1,c1.2⟩]
    rw [c2] at hB
    have hr1:rs[i]? = some rs[i]:=List.getElem?_eq_getElem (by omega)
    have hr2:rs[j]? = some rs[j]:=List.getElem?_eq_getElem (by omega)
    have g1:pp H3 pd (.str d1.name) (some (.ref rs[i])):=by rw [← fE hnd hd1 hr1];exact pp.k (k:=Sum.inr d1.name) (sm13 _ _ hpd1)
    have g2:pp H3 pd (.str d2.name) (some (.ref rs[j])):=by rw [← fE hnd hd2 hr2];exact pp.k (k:=Sum.inr d2.name) (sm13 _ _ hpd1)
    (walk_at "RD")
    refine ⟨_,g1,_,g2,c,n,ds,d1,d2,_,_,_,_,rfl,C3,hD,List.mem_of_getElem? hd1,List.mem_of_getElem? hd2,sm13 _ _ (hrs i _ _ hr1 hd1),sm13 _ _ (hrs j _ _ hr2 hd2),by rw [Uk,Uk],by rw [Uk];exact hz.2,?_⟩
    cases hc:Ei (Cm d1 d2) (xg z sp d1.name) (xg z sp d2.name) with
    | none=>
     rw [hc] at hB
     exact fun H4 s4 n4=>⟨(by first | exact ⟨_,_,rfl⟩ | exact ⟨_,rfl⟩ | simp),sm3.trans s4,n4 nt3,s4 _ _ hpn3,hB⟩
    | some e=>
     rw [hc] at hB
     have hB:vq n z sp d1 ds=some (d1,d2,e.2):=hB
     rw [hB] at hA
     have hA:oi n z sp ds=some (d1,d2,e.2):=hA
     rw [hA] at q
     exact q.step (sm1.trans sm13) fun _=>nt3
   ·have c2:Dn n z sp d1 d2=none:=by
     unfold Dn
     rw [if_neg]
     rintro ⟨z1,z2⟩
     rw [decide_eq_true z1,z2] at c1
     cases c1
    rw [c2] at hB
    exact ⟨⟨_,_,rfl⟩,sm3,nt3,hpn3,hB⟩
  ·rintro σ H' ⟨⟨y,v',rfl⟩,sm3,nt3,_,hB⟩
   rw [hsl,List.drop_of_length_le (Nat.le_refl _)] at hB
   have hB:vq n z sp d1 ds=none:=hB
   rw [hB] at hA
   exact ⟨⟨_,_,_,rfl⟩,sm2.trans sm3,nt3,sm3 _ _ hpn2,hA⟩
 ·rintro σ H' ⟨_,sm,nt,_,hA⟩
  rw [hsl,List.drop_of_length_le (Nat.le_refl _)] at hA
  have hA:oi n z sp ds=none:=hA
  rw [hA] at q
  exact q _ (sm1.trans sm) nt
end
end My
namespace My
open PySem L2
noncomputable abbrev sL:List Str:=[Str.ofString "crossing",Str.ofString "size",Str.ofString "spans",Str.ofString "lamps",Str.ofString "untils"]
noncomputable def plF (c:Addr) (z:Int) (p lm un:Addr):List (Str × V):=[(Str.ofString "crossing",.ref c),(Str.ofString "size",.int z),(Str.ofString "spans",.ref p),(Str.ofString "lamps",.ref lm),(Str.ofString "untils",.ref un)]
theorem Az (c:Addr) (z:Int) (p lm un:Addr):(plF c z p lm un).map (·.1)=sL:=rfl
noncomputable def qO (z:Nat) (sp:List SD) (d:WD):List Str:=nk z (yd d).toNat (af d).toNat (ofN d.name sp)
noncomputable def lJ (z:Nat) (sp:List SD) (x:Str):List Int:=Bn (fmF z (ofN x sp))
structure EJ (t:Adr) (H:Hp) (a c:Addr) (n:Int) (ds:List WD) (z:Nat) (sp:List SD):Prop where
 at_:∃ dx p lm un,H a=some (.ins t.Re dx (plF c z p lm un))∧Rc t H c n ds∧LO H p (List.map sdO sp)∧NK H lm ds (fun d=>.lst (Ib (qO z sp d))) ds.length∧NK H un ds (fun d=>.lst ((lJ z sp d.name).map V.int)) ds.length
noncomputable def YI (t:Adr):Sp:=fun vs H Q _=>∃ (a dx c:Addr) (n:Int) (ds:List WD) (z:Nat) (p:Addr) (sp:List SD),vs=[.ref a,.ref c,.int z,.ref p]∧H a=some (.ins t.Re dx [])∧Rc t H c n ds∧DOk ds∧(0 < z∧z ≤ 1000)∧LO H p (List.map sdO sp)∧DJ z sp∧NoT H ∧
 ∀ H',Jc a H H'→NoT H'→EJ t H' a c n ds z sp→Q .non H'
noncomputable def Lx (t:Adr) (c:Addr) (n:Int) (ds:List WD) (z:Nat) (sp:List SD) (H:Hp) (Q:VK) (E:XK):Prop:=
 (Gg ds sp=none→Dj ds z sp=none→oi n z sp ds=none→∀ a H',Xb H H'→NoT H'→EJ t H' a c n ds z sp→Q (.ref a) H') ∧
 (∀ x,Gg ds sp=some x→EF t.ac [(Str.ofString "way",.str x)] H E) ∧
 (∀ e,Gg ds sp=none→Dj ds z sp=some e→EF t.fc [(Str.ofString "way",.str e.1.name),(Str.ofString "at",.int e.1.b)] H E) ∧
 (∀ e,Gg ds sp=none→Dj ds z sp=none→oi n z sp ds=some e→EF t.Jb [(Str.ofString "way",.str e.1.name),(Str.ofString "other",.str e.2.1.name),(Str.ofString "at",.int e.2.2)] H E)
theorem Lx.step {t:Adr} {c:Addr} {n:Int} {ds:List WD} {z:Nat} {sp:List SD} {H H1:Hp} {Q:VK} {E:XK} (h:Lx t c n ds z sp H Q E) (s:Xb H H1) (nt:NoT H1):Lx t c n ds z sp H1 Q E:=
 ⟨fun h1 h2 h3 a H' s' n' p=>h.1 h1 h2 h3 a H' (s.trans s') n' p,fun x hx=>(h.2.1 x hx).step s fun _=>nt,fun e h1 h2=>(h.2.2.1 e h1 h2).step s fun _=>nt,fun e h1 h2 h3=>(h.2.2.2 e h1 h2 h3).step s fun _=>nt⟩
noncomputable def yv (t:Adr):Sp:=fun vs H Q E=>∃ (c:Addr) (n:Int) (ds:List WD) (z:Nat) (p:Addr) (sp:List SD),vs=[.ref c,.int z,.ref p]∧Rc t H c n ds∧0 < n∧DOk ds∧(0 < z∧z ≤ 1000)∧LO H p (List.map sdO sp)∧DJ z sp∧(∀ s ∈ sp,∃ d,wOf ds s.name=some d)∧NoT H ∧
 Lx t c n ds z sp H Q E
section
variable {w:World} {K:PySem.W.Frag} {mg:Str→Option Value} {t:Adr} {H:Hp} {a c dx p lm un:Addr} {z:Int}
theorem IG (T:Txt w K mg t) (e:H a=some (.ins t.Re dx (plF c z p lm un))):xk K H a (Str.ofString "lamps") (.ref lm):=⟨_,dx,_,e,T.xm,T.Gn,Gc sL 3 (Az ..) (by decide +kernel) rfl⟩
theorem sF (T:Txt w K mg t) (e:H a=some (.ins t.Re dx (plF c z p lm un))):xk K H a (Str.ofString "untils") (.ref un):=⟨_,dx,_,e,T.xm,T.ul,Gc sL 4 (Az ..) (by decide +kernel) rfl⟩
end
theorem lF {H:Hp} {a b C C' dx dx':Addr} {fs:List (Str × V)} (ha:H a=some (.ins C dx [])) (hb:H b=some (.ins C' dx' fs)) (hf:fs ≠ []):b ≠ a:=fun z=>by
 subst z
 rw [hb] at ha
 have e:=Option.some.inj ha
 injection e with _ _ e3
 exact hf e3
theorem Rc.sameX {t:Adr} {H H':Hp} {a c C dx:Addr} {n:Int} {ds:List WD} (h:Rc t H c n ds) (s:Jc a H H') (ha:H a=some (.ins C dx [])):Rc t H' c n ds:=by
 obtain ⟨h0,dx',wl,nd,e1,⟨as,w1,w2,al⟩,e3⟩:=h
 refine ⟨h0,dx',wl,nd,s _ _ (lF ha e1 (by unfold cF;simp)) e1,⟨as,s _ _ (Fe w1 ha (by intro z;cases z)) w1,w2,fun i b d hb hd=>?_⟩,s _ _ (Fe e3 ha (by intro z;cases z)) e3⟩
 obtain ⟨k,dxb,eb⟩:=al i b d hb hd
 exact ⟨k,dxb,s _ _ (lF ha eb (by unfold gp;simp)) eb⟩
theorem LO.sameX {H H':Hp} {a p C dx:Addr} {sp:List SD} (h:LO H p (List.map sdO sp)) (s:Jc a H H') (ha:H a=some (.ins C dx [])):LO H' p (List.map sdO sp):=by
 obtain ⟨qs,l1,l2⟩:=h
 refine ⟨qs,s _ _ (Fe l1 ha (by intro z;cases z)) l1,l2.1,fun i q o hq ho=>?_⟩
 have e:=l2.2 i q o hq ho
 refine s _ _ (Fe e ha ?_) e
 obtain ⟨d,_,rfl⟩:=yc ho
 intro z;cases z
section
variable {P:Program} {w:World} {K:PySem.W.Frag} {mg:Str→Option Value} {base:Heap} {t:Adr}
theorem EN (T:Txt w K mg t):Eb P w K mg base CX0 4 t.ph t.Vi ["self","crossing","size","spans"] (YI t):=by
 have G_lamp:Eb P w K mg base CX0 3 t.Fz t.cz ["way","size","spans"] (bC t):=(OJ T).mono (by decide)
 have G_until_marked:Eb P w K mg base CX0 3 t.Ve t.We ["marks"] Ou:=(Pz T).mono (by decide)
 have G_free_marks:Eb P w K mg base CX0 3 t.rg t.yg ["size","spans","name"] fM:=(fN T).mono (by decide)
 have G_Crossing_names:Eb P w K mg base CX0 3 t.Qc t.vd ["self"] (vn t):=(Cp T).mono (by decide)
 have G_Crossing_called:Eb P w K mg base CX0 3 t.vc t.Ec ["self","name"] (Ci t):=(Mj T).mono (by decide)
 refine T.Lq.ok Bj (fun vs H Q E h=>?_) (fun cdv A outer s H vs Q E hr h=>?_)
 ·obtain ⟨a,dx,c,n,ds,z,p,sp,rfl,_⟩:=h;rfl
 obtain ⟨a,dx,c,n,ds,z,p,sp,rfl,ha,C,hD,hz,L,hs,nt0,q⟩:=h
 have hu:=CH hr
 refine ⟨_,(cb (Bf (pv 0) (pv 1) rfl)
   (cb (Bf (pv 0) (pv 2) rfl)
   (cb (Bf (pv 0) (pv 3) rfl)
   (cb (Bf (pv 0) Fp rfl)
   (cb (Bf (pv 0) Fp rfl)
   (gb (Zd PassesOwn.never rfl (ae (jd (pv 1) T.Lb T.Jd G_Crossing_names hr T.Kd .nil Cb)) (zb (i:=4) Bj.nd rfl (Or.inl rfl)) (cb (lu hu (Tc (pv 0) rfl) (pv 4) (yb G_lamp hr rfl T.DN T.ZC.kp T.AO .nil Cb (bb (Vc (pv 1) T.Lb T.Zc G_Crossing_called hr T.Yc .nil Cb (bb (pv 4) fb)) (bb (pv 2) (bb (pv 3) fb)))) rfl)
   (gb (lu hu (Tc (pv 0) rfl) (pv 4) (yb G_until_marked hr rfl T.Kl T.ag.kp T.Jl .nil Cb (bb (yb G_free_marks hr rfl T.Eo T.Vh.kp T.Ho .nil Cb (bb (pv 2) (bb (pv 3) (bb (pv 4) fb)))) fb)) rfl)))))))))),?_⟩
 (walk_at "RD")
 refine ⟨_,_,_,ha,T.xm,T.lp,by decide,?_⟩
 refine ⟨_,_,_,db,T.xm,T.Rw,Jn (n:=999) (by decide),?_⟩
 refine ⟨_,_,_,db,T.xm,T.Du,Jn (n:=999) (Jn (n:=998) (by decide)),fun lm hlm=>?_⟩
 simp only [Ui] at hlm ⊢
 rw [show Qg (Str.ofString "crossing") (V.ref c) ([]:List (Str × V))=[(Str.ofString "crossing",V.ref c)] from rfl,show Qg (Str.ofString "size") (V.int z) [(Str.ofString "crossing",V.ref c)]=[(Str.ofString "crossing",V.ref c),(Str.ofString "size",V.int z)] from ad [Str.ofString "crossing"] rfl (by decide +kernel),show Qg (Str.ofString "spans") (V.ref p) [(Str.ofString "crossing",V.ref c),(Str.ofString "size",V.int z)]=[(Str.ofString "crossing",V.ref c),(Str.ofString "size",V.int z),(Str.ofString "spans",V.ref p)] from ad [Str.ofString "crossing",Str.ofString "size"] rfl (by decide +kernel)] at hlm ⊢
 have hla:a ≠ lm:=fun z=>by subst z;rw [db] at hlm;cases hlm
 have hHl:H lm=none:=by rw [lb (Ne.symm hla)] at hlm;exact hlm
 refine ⟨t.Re,dx,[(Str.ofString "crossing",V.ref c),(Str.ofString "size",V.int z),(Str.ofString "spans",V.ref p)],by rw [lb hla];exact db,T.xm,T.Gn,show (3:Nat) < 1000 by decide,fun un hun=>?_⟩
 rw [show Qg (Str.ofString "lamps") (V.ref lm) [(Str.ofString "crossing",V.ref c),(Str.ofString "size",V.int z),(Str.ofString "spans",V.ref p)]=[(Str.ofString "crossing",V.ref c),(Str.ofString "size",V.int z),(Str.ofString "spans",V.ref p),(Str.ofString "lamps",V.ref lm)] from ad [Str.ofString "crossing",Str.ofString "size",Str.ofString "spans"] rfl (by decide +kernel)] at hun ⊢
 have hua:a ≠ un:=fun z=>by subst z;rw [db] at hun;cases hun
 have hul:un ≠ lm:=fun z=>by subst z;rw [lb (Ne.symm hua),db] at hun;cases hun
 have hHu:H un=none:=by rw [lb (Ne.symm hua),lb hul,lb (Ne.symm hua)] at hun;exact hun
 refine ⟨t.Re,dx,[(Str.ofString "crossing",V.ref c),(Str.ofString "size",V.int z),(Str.ofString "spans",V.ref p),(Str.ofString "lamps",V.ref lm)],by rw [lb hua];exact db,T.xm,T.ul,show (4:Nat) < 1000 by decide,?_⟩
 rw [show Qg (Str.ofString "untils") (V.ref un) [(Str.ofString "crossing",V.ref c),(Str.ofString "size",V.int z),(Str.ofString "spans",V.ref p),(Str.ofString "lamps",V.ref lm)]=plF c z p lm un from ad [Str.ofString "crossing",Str.ofString "size",Str.ofString "spans",Str.ofString "lamps"] rfl (by decide +kernel)]
 have hf:∃ H5:Hp,H5=upd (upd (upd (upd (upd H a (.ins t.Re dx [(Str.ofString "crossing",V.ref c),(Str.ofString "size",V.int z),(Str.ofString "spans",V.ref p)])) lm (.dK [])) a (.ins t.Re dx [(Str.ofString "crossing",V.ref c),(Str.ofString "size",V.int z),(Str.ofString "spans",V.ref p),(Str.ofString "lamps",V.ref lm)])) un (.dK [])) a (.ins t.Re dx (plF c z p lm un)):=⟨_,rfl⟩
 obtain ⟨H5,h5⟩:=hf
 rw [← h5]
 have g1:H5 a=some (.ins t.Re dx (plF c z p lm un)):=by rw [h5,db]
 have g2:H5 lm=some (.dK []):=by rw [h5,lb (Ne.symm hla),lb (Ne.symm hul),lb (Ne.symm hla),db]
 have g3:H5 un=some (.dK []):=by rw [h5,lb (Ne.symm hua),db]
 have g4:Jc a H H5:=fun b u hb e=>by rw [h5,lb hb,lb (ub e hHu),lb hb,lb (ub e hHl),lb hb];exact e
 have g5:NoT H5:=by rw [h5];exact ((((nt0.upd).upd).upd).upd).upd
 clear h5
 have C5:=C.sameX g4 ha
 obtain ⟨⟨hnd,hdl⟩,dxc,wl,nd,e1,_,_⟩:=id C5
 refine ⟨_,_,e1,yz _ _ _ (by decide +kernel),c,n,ds,rfl,C5,fun pn hpn=>⟨pn,rfl,⟨_,SqL.of db⟩,?_⟩⟩
 refine ni.list (xs:=Ib (ds.map (·.name))) (fun i σ H'=>(∃ y,σ=[some (V.ref a),some (V.ref c),some (V.int z),some (V.ref p),y])∧Jc a H H'∧NoT H'∧H' a=some (.ins t.Re dx (plF c z p lm un))∧H' pn=some (.lst (Ib (ds.map (·.name))))∧NK H' lm ds (fun d=>.lst (Ib (qO z sp d))) i∧NK H' un ds (fun d=>.lst ((lJ z sp d.name).map V.int)) i) ?_ ?_ ?_ ?_
 ·have sn:=jb (o:=.lst (Ib (ds.map (·.name)))) hpn
  exact ⟨⟨_,rfl⟩,g4.trans (Jc.of sn),g5.upd,sn _ _ g1,db,⟨[],rfl,by rw [sn _ _ g2];simp [nkv],fun i r d h=>by simp at h⟩,⟨[],rfl,by rw [sn _ _ g3];simp [nkv],fun i r d h=>by simp at h⟩⟩
 ·rintro i σ H' hi ⟨_,_,_,_,h,_⟩
  exact SqL.of h
 ·rintro i v σ H' hv ⟨⟨y,rfl⟩,sx,nt,ha',hpn',⟨rl,hrl,hlm',hrs⟩,⟨ru,hru,hun',hus⟩⟩
  obtain ⟨x,hx,rfl⟩:=yc hv
  obtain ⟨d,hd,rfl⟩:=yc hx
  have C':=C.sameX sx ha
  have L':=L.sameX sx ha
  obtain ⟨_,dxc',wl',nd',e1',_,_⟩:=id C'
  (walk_at "RD")
  refine ⟨_,_,e1',yz _ _ _ (by decide +kernel),c,n,ds,i,d,rfl,C',hd,fun wa W=>?_⟩
  have hdi:ds[rl.length]? = some d:=by rw [hrl];exact hd
  have hdj:ds[ru.length]? = some d:=by rw [hru];exact hd
  refine ⟨wa,d,z,p,sp,rfl,hz,W,L',hs,(hD d (List.mem_of_getElem? hd)).2,fun r1 H1 s1 n1 hr1 h1=>⟨_,IG T (s1 _ _ ha'),lm,rfl,_,OA.k (k:=Sum.inr d.name) (s1 _ _ hlm') (Nat.lt_of_le_of_lt (show (nkv ds rl).length ≤ 12 by unfold nkv;rw [List.length_map,List.length_zip];omega) (by decide)),?_⟩⟩
  rw [Gx hnd hdi]
  have kl:∀ {b:Addr} {u:HO},H' b=some u→b ≠ lm→upd H1 lm (.dK (nkv ds (rl ++ [r1]))) b=some u:=fun e h=>by rw [lb h];exact s1 _ _ e
  have k1:Jc a H (upd H1 lm (.dK (nkv ds (rl ++ [r1])))):=fun b u hb e=>kl (sx b u hb e) (ub e hHl)
  refine ⟨z,p,d.name,sp,rfl,hz,L.sameX k1 ha,hs,fun r3 H3 s3 n3 hr3 h3=>⟨r3,_,rfl,h3,by rw [Tn];exact hz,fun r4 H4 s4 n4 hr4 h4=>?_⟩⟩
  have s34:=s3.trans s4
  have un2:H4 un=some (.dK (nkv ds ru)):=s34 _ _ (kl hun' hul)
  have a2:H4 a=some (.ins t.Re dx (plF c z p lm un)):=s34 _ _ (kl ha' hla)
  refine ⟨_,sF T a2,un,rfl,_,OA.k (k:=Sum.inr d.name) un2 (Nat.lt_of_le_of_lt (show (nkv ds ru).length ≤ 12 by unfold nkv;rw [List.length_map,List.length_zip];omega) (by decide)),?_⟩
  rw [Gx hnd hdj]
  have ku:∀ {b:Addr} {u:HO},upd H1 lm (.dK (nkv ds (rl ++ [r1]))) b=some u→b ≠ un→upd H4 un (.dK (nkv ds (ru ++ [r4]))) b=some u:=fun e h=>by rw [lb h];exact s34 _ _ e
  have nel:∀ {b:Addr} {ys:List V},H' b=some (.lst ys)→b ≠ lm:=fun e=>Fe e hlm' (by intro z;cases z)
  have neu:∀ {b:Addr} {ys:List V},H' b=some (.lst ys)→b ≠ un:=fun e=>Fe e hun' (by intro z;cases z)
  have r1l:r1 ≠ lm:=Fe h1 (s1 _ _ hlm') (by intro z;cases z)
  have r1u:r1 ≠ un:=Fe h1 (s1 _ _ hun') (by intro z;cases z)
  have r4u:r4 ≠ un:=Fe h4 un2 (by intro z;cases z)
  refine ⟨⟨_,rfl⟩,fun b u hb e=>ku (k1 b u hb e) (ub e hHu),(n4 (n3 (n1 nt).upd)).upd,ku (kl ha' hla) hua,ku (kl hpn' (nel hpn')) (neu hpn'),⟨rl ++ [r1],by rw [List.length_append,hrl];rfl,ku db (Ne.symm hul),fun j r e hj he=>?_⟩,⟨ru ++ [r4],by rw [List.length_append,hru];rfl,db,fun j r e hj he=>?_⟩⟩
  ·rcases Wj hj with ⟨_,z2⟩ | ⟨z1,rfl⟩
   ·have:=hrs j r e z2 he
    exact ku (kl this (nel this)) (neu this)
   ·rw [z1,hdi] at he
    cases he
    exact ku (by rw [lb r1l];exact h1) r1u
  ·rcases Wj hj with ⟨_,z2⟩ | ⟨z1,rfl⟩
   ·have:=hus j r e z2 he
    exact ku (kl this (nel this)) (neu this)
   ·rw [z1,hdj] at he
    cases he
    rw [lb r4u];exact h4
 ·rintro σ H' ⟨_,sx,nt,ha',_,N1,N2⟩
  have hsl:(Ib (ds.map (·.name))).length=ds.length:=by unfold Ib;simp
  rw [hsl] at N1 N2
  exact q _ sx nt ⟨dx,p,lm,un,ha',C.sameX sx ha,L.sameX sx ha,N1,N2⟩
theorem tz (T:Txt w K mg t):Eb P w K mg base (CX1 P w) 6 t.lh t.jh ["crossing","size","rows"] (yv t):=by
 have G_Crossing_called:Eb P w K mg base CX0 5 t.vc t.Ec ["self","name"] (Ci t):=(Mj T).mono (by decide)
 have G_Plan_init:Eb P w K mg base CX0 4 t.ph t.Vi ["self","crossing","size","spans"] (YI t):=EN T
 have GX_refuse_never:Eb P w K mg base (CX1 P w) 5 t.bg t.Xf ["crossing","spans"] (Rv t):=(zF T).mono (by decide)
 have GX_refuse_short:Eb P w K mg base (CX1 P w) 5 t.Yf t.cg ["crossing","size","spans"] (Ov t):=(BF T).mono (by decide)
 have GX_refuse_clash:Eb P w K mg base (CX1 P w) 5 t.fg t.gg ["crossing","size","spans"] (gw t):=WE T
 refine T.xj.okX kg (fun vs H Q E h=>?_) (fun cdv A outer s H vs Q E hr h=>?_)
 ·obtain ⟨c,n,ds,z,p,sp,rfl,_⟩:=h;rfl
 obtain ⟨c,n,ds,z,p,sp,rfl,C,hn,hD,hz,L,hs,hw,nt0,q1,q2,q3,q4⟩:=h
 refine ⟨_,(cb (Rk (i:=3) kg.nd rfl (Or.inl rfl) rfl (ae (pv 2)) (Vd (sc:=ib gm) rfl (by decide +kernel)) (N:=["name","begin","turns"]) (sel:=[none,none,none]) (Le (M:=["crossing","size","rows","spans","name","begin","turns"]) (by decide +kernel)) (Blk.of (fun _ _ _ _=>(Hf (K:=K) (n:=3) rfl rfl (Vb (zb (i:=0) (Ii (N:=["name","begin","turns"]) (by decide +kernel) rfl) rfl (Or.inl rfl) (.inr rfl)) (Vb (zb (i:=1) (Ii (N:=["name","begin","turns"]) (by decide +kernel) rfl) rfl (Or.inl rfl) (.inr rfl)) (Vb (zb (i:=2) (Ii (N:=["name","begin","turns"]) (by decide +kernel) rfl) rfl (Or.inl rfl) (.inr rfl)) Lf))))) (fun _ _ _ _=>⟨_,Xh,by first | rfl | (dsimp only [Cx.block];done) | (dsimp only [Cx.block];exact rfl)⟩) (fun _ _ _ _=>⟨_,(Hg (bb (pv 0) (bb (pv 1) (bb (pv 2) fb)))),by first | rfl | (dsimp only [Cx.block];done) | (dsimp only [Cx.block];exact rfl)⟩)) rfl)
   (cb (Zd (De ⟨rfl,rfl⟩) rfl (ae (pv 3)) (Hf (K:=K) (n:=3) rfl rfl (Vb (zb (i:=4) kg.nd rfl (Or.inl rfl) (.inl rfl)) (Vb (zb (i:=5) kg.nd rfl (Or.inl rfl) (.inl rfl)) (Vb (zb (i:=6) kg.nd rfl (Or.inl rfl) (.inl rfl)) Lf)))) (gb (lc (Vc (pv 0) T.Lb T.Zc G_Crossing_called hr T.Yc .nil Cb (bb (pv 4) fb)))))
   (cb (lc (yb GX_refuse_never hr rfl T.Ws T.gi.kp T.Vs .nil je (bb (pv 0) (bb (pv 3) fb))))
   (cb (lc (yb GX_refuse_short hr rfl T.Ss T.ci.kp T.Us .nil je (bb (pv 0) (bb (pv 1) (bb (pv 3) fb)))))
   (cb (lc (yb GX_refuse_clash hr rfl T.kt T.ai.kp T.vt .nil je (bb (pv 0) (bb (pv 1) (bb (pv 3) fb)))))
   (gb (Fb (ao T.UM G_Plan_init hr rfl T.bO T.Ix .nil Cb (bb (pv 0) (bb (pv 1) (bb (pv 3) fb))))))))))),?_⟩
 (walk_at "RD")
 obtain ⟨qs,l1,lq⟩:=L
 have hql:qs.length=sp.length:=by rw [lq.1,List.length_map]
 have hs1:=hs.1
 refine ⟨⟨_,SqL.of l1⟩,?_⟩
 refine de.list (xs:=qs.map V.ref) (fun i ys H'=>∃ os:List Addr,ys=os.map V.ref∧LQ H' os ((sp.take i).map sdO)∧Xb H H'∧NoT H') (Nat.le_trans (show (qs.map V.ref).length ≤ 100 by rw [List.length_map];omega) (by decide)) ⟨[],rfl,by rw [List.take_zero];exact LQ.nil _,Xb.refl _,nt0⟩ ?_ ?_ ?_
 ·rintro i ys H' hi ⟨os,rfl,r,sm,_⟩
  refine ⟨(SqL.of l1).same sm,?_⟩
  rw [List.length_map,r.1,List.length_map,List.length_take];omega
 ·rintro i v ys H' hv ⟨os,rfl,r,sm,nt⟩ N hN
  obtain ⟨qi,hqi,rfl⟩:=yc hv
  obtain ⟨o,ho,e⟩:=lq.at hqi
  obtain ⟨d,hd,rfl⟩:=yc ho
  have e':=sm _ _ e
  dsimp only at hN
  rw [ng hd,List.map_append] at hN
  (walk_at "RD")
  refine ⟨_,SqT.of e',rfl,_,_,rfl,_,_,rfl,_,_,rfl,rfl,Sub.name3,by decide,fun p1 hp1=>?_⟩
  exact hN _ _ ⟨os ++ [p1],by rw [List.map_append];rfl,(r.same (jb hp1)).app (LQ.one db),sm.trans (jb hp1),nt.upd⟩
 rintro ys H1 ⟨os,rfl,r,sm1,nt1⟩ p1 hp1
 rw [List.take_of_length_le (by rw [List.length_map];omega)] at r
 have s2:Xb H1 (upd H1 p1 (.lst (os.map V.ref))):=jb hp1
 have nt2:NoT (upd H1 p1 (.lst (os.map V.ref))):=nt1.upd
 have L2:LO (upd H1 p1 (.lst (os.map V.ref))) p1 (List.map sdO sp):=⟨os,db,r.same s2⟩
 have sm2:=sm1.trans s2
 generalize upd H1 p1 (.lst (os.map V.ref))=H2 at s2 nt2 L2 sm2 ⊢
 have C2:=C.same sm2
 obtain ⟨_,dxc,wl,nd,e1,_,_⟩:=id C2
 obtain ⟨qs2,m1,mq⟩:=id L2
 have hql2:qs2.length=sp.length:=by rw [mq.1,List.length_map]
 (walk_at "RD")
 refine ⟨⟨_,SqL.of m1⟩,?_⟩
 refine ni.list (xs:=qs2.map V.ref) (fun i σ H'=>(∃ x y z',σ=[some (V.ref c),some (V.int z),some (V.ref p),some (V.ref p1),x,y,z'])∧H'=H2) ?_ ?_ ?_ ?_
 ·exact ⟨⟨_,_,_,rfl⟩,rfl⟩
 ·rintro i σ H' hi ⟨_,rfl⟩
  exact SqL.of m1
 ·rintro i v σ H' hv ⟨⟨x,y,z',rfl⟩,rfl⟩
  obtain ⟨qi,hqi,rfl⟩:=yc hv
  obtain ⟨o,ho,e⟩:=mq.at hqi
  obtain ⟨sd,hsd,rfl⟩:=yc ho
  obtain ⟨d,hd⟩:=hw sd (List.mem_of_getElem? hsd)
  obtain ⟨hdn,j,hj⟩:=DI hd
  (walk_at "RD")
  exact ⟨_,SqT.of e,rfl,_,_,rfl,_,_,rfl,_,_,rfl,rfl,_,_,e1,yz _ _ _ (by decide +kernel),c,n,ds,j,d,by rw [hdn],C2,hj,fun a W=>⟨(by first | exact ⟨_,_,_,rfl⟩ | exact ⟨_,_,rfl⟩ | exact ⟨_,rfl⟩ | simp),rfl⟩⟩
 rintro σ H' ⟨⟨x,y,z',rfl⟩,rfl⟩
 (walk_at "RD")
 refine ⟨c,n,ds,p1,sp,rfl,C2,hD,L2,hs1,?_⟩
 cases hN:Gg ds sp with
 | some x=>exact (q2 x hN).step sm2 fun _=>nt2
 | none=>
 intro H3 s3 n3
 have nt3:=n3 nt2
 have C3:=C2.same s3
 have L3:=L2.same s3
 (walk_at "RD")
 refine ⟨c,n,ds,z,p1,sp,rfl,C3,hD,⟨by omega,by omega⟩,L3,hs,hw,?_⟩
 cases hS:Dj ds z sp with
 | some e=>exact (q3 e hN hS).step (sm2.trans s3) fun _=>nt3
 | none=>
 intro H4 s4 n4
 have nt4:=n4 nt3
 have C4:=C3.same s4
 have L4:=L3.same s4
 (walk_at "RD")
 refine ⟨c,n,ds,z,p1,sp,rfl,C4,hn,hD,hz,L4,hs,nt4,?_⟩
 cases hC:oi n z sp ds with
 | some e=>exact (q4 e hN hS hC).step ((sm2.trans s3).trans s4) fun _=>nt4
 | none=>
 intro H5 s5 nt5
 have C5:=C4.same s5
 have L5:=L4.same s5
 (walk_at "RD")
 intro a dx ha hdx hne
 have sc:Xb H5 (upd (upd H5 dx (.own a)) a (.ins t.Re dx [])):=((Xb.refl H5).updN hdx).updN ha
 refine ⟨a,dx,c,n,ds,z,p1,sp,rfl,db,C5.same sc,hD,hz,L5.same sc,hs,(nt5.upd).upd,fun H6 s6 nt6 PA=>⟨rfl,?_⟩⟩
 have sm5:=((sm2.trans s3).trans s4).trans s5
 exact q1 hN hS hC a H6 (Xd (sm5.trans sc) s6 (sm5.free ha)) nt6 PA
end
end My
namespace My
open PySem L2
noncomputable def sv (ws:List Str):Except Nat Int:=if wd ws 0 ∈ [Str.ofString "round"] then (Jx (wd ws 1) 1 240).elim (.error 1) fun v=>if 2 < ws.length then .error 2 else .ok v else .error 0
noncomputable def Qh (ds:List WD) (sp:List SD):List Str:=(ds.map (·.name)).filter fun x=>decide ((ofN x sp).length < 3)
noncomputable def ut (z:Int) (known:List Str) (ws:List Str):Except Nat SD:=if wd ws 0 ∈ [Str.ofString "free"] then
 (if wd ws 1 ∈ known then (Jx (wd ws 2) 0 (z - 1)).elim (.error 2) fun b=>(Jx (wd ws 3) 1 z).elim (.error 3) fun n=>if 4 < ws.length then .error 4 else .ok ⟨wd ws 1,b,n⟩ else .error 1) else .error 0
noncomputable def Gj (z:Int) (ds:List WD):List (List Str)→Nat→List SD→Except (Nat × Nat) (List SD)
 | [],_,sp=>.ok sp
 | ws :: r,i,sp=>match ut z (Qh ds sp) ws with
  | .error k=>.error (i,k)
  | .ok d=>Gj z ds r (i + 1) (sp ++ [d])
noncomputable def QG (ds:List WD) (r0:List Str) (rest:List (List Str)):Except (Nat × Nat) (Int × List SD):=match sv r0 with
 | .error k=>.error (0,k)
 | .ok z=>match Gj z ds rest 1 [] with
  | .error e=>.error e
  | .ok sp=>.ok (z,sp)
theorem FG {ws:List Str} {n:Int} (h:sv ws=.ok n):1 ≤ n∧n ≤ 240:=by
 unfold sv at h
 split at h
 ·cases e:Jx (wd ws 1) 1 240 with
  | none=>rw [e] at h;cases h
  | some v=>
   rw [e] at h
   have hv:Aq (wd ws 1) 1 240=.int v:=by rw [aw,e];rfl
   have:=fv hv
   replace h:(if 2 < ws.length then Except.error 2 else Except.ok v)=Except.ok n:=h
   split at h
   ·cases h
   ·cases h;exact ⟨this.2.1,this.2.2⟩
 ·cases h
theorem AI {z:Int} {known ws:List Str} {d:SD} (h:ut z known ws=.ok d):d.name ∈ known∧0 ≤ d.b∧d.b < z∧1 ≤ d.n∧d.n ≤ z:=by
 unfold ut at h
 split at h
 ·split at h
  ·rename_i h1
   cases e:Jx (wd ws 2) 0 (z - 1) with
   | none=>rw [e] at h;cases h
   | some b=>
    rw [e] at h
    have hb:Aq (wd ws 2) 0 (z - 1)=.int b:=by rw [aw,e];rfl
    have g1:=fv hb
    replace h:((Jx (wd ws 3) 1 z).elim (.error 3) fun n=>if 4 < ws.length then .error 4 else .ok ⟨wd ws 1,b,n⟩)=Except.ok d:=h
    cases e2:Jx (wd ws 3) 1 z with
    | none=>rw [e2] at h;cases h
    | some n=>
     rw [e2] at h
     have hn:Aq (wd ws 3) 1 z=.int n:=by rw [aw,e2];rfl
     have g2:=fv hn
     replace h:(if 4 < ws.length then Except.error 4 else Except.ok (⟨wd ws 1,b,n⟩:SD))=Except.ok d:=h
     split at h
     ·cases h
     ·cases h;exact ⟨h1,g1.2.1,by show b < z;omega,g2.2.1,g2.2.2⟩
  ·cases h
 ·cases h
noncomputable def QE (t:Adr):Sp:=fun vs H Q E=>∃ q row ws,vs=[.ref q]∧Ae t H q row ws 0∧(0 ≤ row∧row ≤ 10000)∧NoT H∧Oc (sv ws) (fun n=>CP q H (Q (.int n))) (fun k=>Rr t row k q H E)
noncomputable def ND (t:Adr):Sp:=fun vs H Q E=>∃ q row ws c n ds z p sp,vs=[.ref q,.ref c,.int z,.ref p]∧Ae t H q row ws 0∧(0 ≤ row∧row ≤ 10000)∧Rc t H c n ds∧(∀ d ∈ ds,d.name ≠ Str.ofString "")∧(1 ≤ z∧z ≤ 240)∧LO H p (List.map sdO sp)∧sp.length ≤ 100∧NoT H ∧
 Oc (ut z (Qh ds sp) ws) (fun d=>∀ x H',Jc q H H'→NoT H'→H' x=some (sdO d)→H x=none→Q (.ref x) H') (fun k=>Rr t row k q H E)
noncomputable def aA (t:Adr):Sp:=fun vs H Q E=>∃ c n ds x r0 rest,vs=[.ref c,.str x]∧Rc t H c n ds∧0 < n∧DOk ds∧(∀ d ∈ ds,d.name ≠ Str.ofString "")∧Fg x=r0 :: rest∧x.length ≤ 20000∧rest.length ≤ 100∧(∀ r ∈ r0 :: rest,r ≠ []∧r.length ≤ 1000∧∀ y ∈ r,y.length ≤ 1000)∧NoT H ∧
 Oc2 (QG ds r0 rest) (fun m=>Lx t c n ds m.1.toNat m.2 H Q E) (fun i k=>JP t i k H E)
noncomputable def SpG (z:Int) (ds:List WD) (sp:List SD):Prop:=∀ s ∈ sp,s.name ∈ ds.map (·.name)∧0 ≤ s.b∧s.b < z∧1 ≤ s.n∧s.n ≤ z
theorem SpG.ok {z:Int} {ds:List WD} {sp:List SD} (h:SpG z ds sp) (hl:sp.length ≤ 100) (hz:z ≤ 240):DJ z sp:=⟨hl,fun d hd=>by have:=h d hd;omega⟩
theorem SpG.wOf {z:Int} {ds:List WD} {sp:List SD} (h:SpG z ds sp):∀ s ∈ sp,∃ d,wOf ds s.name=some d:=fun s hs=>by
 obtain ⟨d,hd,e⟩:=List.mem_map.mp (h s hs).1
 unfold My.wOf
 cases hf:ds.find? fun d=>decide (d.name=s.name) with
 | some d'=>exact ⟨d',rfl⟩
 | none=>exact absurd (List.find?_eq_none.mp hf d hd) (by simp [e])
theorem Rc.sameR {t:Adr} {H H':Hp} {q c:Addr} {n:Int} {ds:List WD} {row:Int} {ws:List Str} {k:Nat} (h:Rc t H c n ds) (s:Jc q H H') (R:Ae t H q row ws k):Rc t H' c n ds:=by
 obtain ⟨h0,dx',wl,nd,e1,⟨as,w1,w2,al⟩,e3⟩:=h
 obtain ⟨_,dq,ta,f1,f2⟩:=id R
 refine ⟨h0,dx',wl,nd,s _ _ (fun z=>?_) e1,⟨as,s _ _ (Fe w1 f1 (by intro z;cases z)) w1,w2,fun i b d hb hd=>?_⟩,s _ _ (Fe e3 f1 (by intro z;cases z)) e3⟩
 ·subst z
  rw [e1] at f1
  have e:=Option.some.inj f1
  injection e with _ _ e4
  unfold cF rdF at e4
  injection e4 with e5 _
  injection e5 with e6 _
  exact absurd e6 (by decide +kernel)
 ·have W:=al i b d hb hd
  have hn:=Jv W R
  exact ⟨W.1,W.2.imp fun dx e=>s _ _ hn e⟩
theorem LO.sameR {t:Adr} {H H':Hp} {q p:Addr} {sp:List SD} {row:Int} {ws:List Str} {k:Nat} (h:LO H p (List.map sdO sp)) (s:Jc q H H') (R:Ae t H q row ws k):LO H' p (List.map sdO sp):=by
 obtain ⟨_,dq,ta,f1,f2⟩:=id R
 obtain ⟨qs,l1,l2⟩:=h
 refine ⟨qs,s _ _ (Fe l1 f1 (by intro z;cases z)) l1,l2.1,fun i q o hq ho=>?_⟩
 have e:=l2.2 i q o hq ho
 refine s _ _ (Fe e f1 ?_) e
 obtain ⟨d,_,rfl⟩:=yc ho
 intro z;cases z
section
variable {P:Program} {w:World} {K:PySem.W.Frag} {mg:Str→Option Value} {base:Heap} {t:Adr}
theorem gM (T:Txt w K mg t):Eb P w K mg base (CX1 P w) 6 t.Ti t.Yi ["reader"] (QE t):=by
 have GX_RowReader_one_of:Eb P w K mg base (CX1 P w) 5 t.kc t.zc ["self","choices"] (cr K t):=Ow T
 have GX_RowReader_figures:Eb P w K mg base (CX1 P w) 5 t.Kb t.Yb ["self","low","high"] (yu t):=zz T
 have GX_RowReader_finish:Eb P w K mg base (CX1 P w) 5 t.jc t.Ac ["self"] (Rx t):=(DC T).mono (by decide)
 refine T.Vl.okX Vo (fun vs H Q E h=>?_) (fun cdv A outer s H vs Q E hr h=>?_)
 ·obtain ⟨q,row,ws,rfl,_⟩:=h;rfl
 obtain ⟨q,row,ws,rfl,R,hrow,nt,qq⟩:=h
 refine ⟨_,(cb (lc (Vc (pv 0) T.wb T.Od GX_RowReader_one_of hr T.Qd .nil je (bb (Df (bb xc fb)) fb)))
   (cb (Ab (i:=1) Vo.nd rfl (Or.inl rfl) (Vc (pv 0) T.wb T.Qb GX_RowReader_figures hr T.Ub .nil je (bb rb (bb (Id rfl T.oy T.ix) fb))))
   (cb (lc (jd (pv 0) T.wb T.ye GX_RowReader_finish hr T.we .nil je))
   (gb (Fb (pv 1)))))),?_⟩
 obtain ⟨_,dx,ta,e1,e2⟩:=id R
 (walk_at "RD")
 refine ⟨_,_,e1,Ae.no _ _ _ (by decide +kernel),by decide,fun p hp=>?_⟩
 have s0:Xb H (upd H p (.lst [V.str (Str.ofString "round")])):=jb hp
 refine ⟨q,row,ws,0,p,[Str.ofString "round"],rfl,R.same s0,hrow,Nat.zero_le _,SqL.of db,fun hin=>fun H1 s1 n1 R1=>?_,fun hnin=>?_⟩
 ·obtain ⟨_,dx1,ta1,f1,f2⟩:=id R1
  have nt1:=n1 nt.upd
  have x1:Jc q H H1:=(Jc.of s0).trans s1
  have l1:1 ≤ ws.length:=MH (k:=0) (by rw [List.mem_singleton.mp hin];decide +kernel)
  unfold sv at qq
  rw [if_pos hin] at qq
  (walk_at "RD")
  refine ⟨_,_,f1,Ae.no _ _ _ (by decide +kernel),⟨q,row,ws,1,1,240,rfl,R1,hrow,l1,nt1,fun v hv=>fun H2 s2 n2 R2=>?_,fun hv=>?_⟩⟩
  ·obtain ⟨_,dx2,ta2,g1,g2⟩:=id R2
   rw [Hu hv] at qq
   have qq:Oc (if 2 < ws.length then Except.error 2 else Except.ok v) (fun n=>CP q H (Q (.int n))) (fun k=>Rr t row k q H E):=qq
   (walk_at "RD")
   refine ⟨_,_,g1,Ae.no _ _ _ (by decide +kernel),⟨q,row,ws,2,rfl,R2,hrow,fun hl=>?_,fun hl=>?_⟩⟩
   ·rw [if_neg hl] at qq
    (walk_at "RD")
    exact qq H2 (x1.trans s2) (n2 nt1)
   ·rw [if_pos hl] at qq
    exact (show Rr t row 2 q H E from qq).step (x1.trans s2) fun _=>n2 nt1
  ·rw [Kr hv] at qq
   exact (show Rr t row 1 q H E from qq).step x1 fun _=>nt1
 ·unfold sv at qq
  rw [if_neg hnin] at qq
  exact (show Rr t row 0 q H E from qq).step (Jc.of s0) fun n=>n.upd
theorem lL (T:Txt w K mg t):Eb P w K mg base (CX1 P w) 6 t.Xi t.kj ["reader","crossing","size","spans"] (ND t):=by
 have GX_RowReader_one_of:Eb P w K mg base (CX1 P w) 5 t.kc t.zc ["self","choices"] (cr K t):=Ow T
 have GX_RowReader_figures:Eb P w K mg base (CX1 P w) 5 t.Kb t.Yb ["self","low","high"] (yu t):=zz T
 have GX_RowReader_finish:Eb P w K mg base (CX1 P w) 5 t.jc t.Ac ["self"] (Rx t):=(DC T).mono (by decide)
 have G_spans_of:Eb P w K mg base CX0 5 t.bf t.cf ["spans","name"] Qn:=(iq T).mono (by decide)
 have G_Crossing_names:Eb P w K mg base CX0 5 t.Qc t.vd ["self"] (vn t):=(Cp T).mono (by decide)
 refine T.am.okX Uh (fun vs H Q E h=>?_) (fun cdv A outer s H vs Q E hr h=>?_)
 ·obtain ⟨q,row,ws,c,n,ds,z,p,sp,rfl,_⟩:=h;rfl
 obtain ⟨q,row,ws,c,n,ds,z,p,sp,rfl,R,hrow,C,hD,hz,L,hsl,nt,qq⟩:=h
 refine ⟨_,(cb (lc (Vc (pv 0) T.wb T.Od GX_RowReader_one_of hr T.Qd .nil je (bb (Df (bb xc fb)) fb)))
   (cb (Ab (i:=4) Uh.nd rfl (Or.inl rfl) (Vc (pv 0) T.wb T.Od GX_RowReader_one_of hr T.Qd .nil je (bb (Qi rfl (ae (jd (pv 1) T.Lb T.Jd G_Crossing_names hr T.Kd .nil Cb)) (Vd (sc:=ib Ul) rfl (by decide +kernel)) (N:=["known","spans"]) (sel:=[none,some 3]) (Le (M:=["reader","crossing","size","spans","name","begin","turns"]) (by decide +kernel)) (Blk.of (fun _ _ _ _=>(zb (i:=0) (Ii (N:=["known","spans"]) (by decide +kernel) rfl) rfl (Or.inl rfl))) (fun _ _ _ _=>⟨_,(kx (Sb xv (Hc Pc rfl T.Mn Dd (bb (yb G_spans_of hr rfl T.Di T.Mf.kp T.Ni .nil Cb (bb (pv 1) (bb (pv 0) fb))) fb)) (Id rfl T.Iw T.iw) (uc _))),by first | rfl | (dsimp only [Cx.block];done) | (dsimp only [Cx.block];exact rfl)⟩) (fun _ _ _ _=>⟨_,(pv 0),by first | rfl | (dsimp only [Cx.block];done) | (dsimp only [Cx.block];exact rfl)⟩))) fb)))
   (cb (Ab (i:=5) Uh.nd rfl (Or.inl rfl) (Vc (pv 0) T.wb T.Qb GX_RowReader_figures hr T.Ub .nil je (bb rb (bb (Pb zf (pv 2) rb) fb))))
   (cb (Ab (i:=6) Uh.nd rfl (Or.inl rfl) (Vc (pv 0) T.wb T.Qb GX_RowReader_figures hr T.Ub .nil je (bb rb (bb (pv 2) fb))))
   (cb (lc (jd (pv 0) T.wb T.ye GX_RowReader_finish hr T.we .nil je))
   (gb (Fb (Hg (bb (pv 4) (bb (pv 5) (bb (pv 6) fb))))))))))),?_⟩
 obtain ⟨_,dx,ta,e1,e2⟩:=id R
 (walk_at "RD")
 refine ⟨_,_,e1,Ae.no _ _ _ (by decide +kernel),by decide,fun p0 hp0=>?_⟩
 have s0:Xb H (upd H p0 (.lst [V.str (Str.ofString "free")])):=jb hp0
 unfold ut at qq
 refine ⟨q,row,ws,0,p0,[Str.ofString "free"],rfl,R.same s0,hrow,Nat.zero_le _,SqL.of db,fun hin=>fun H1 s1 n1 R1=>?_,fun hnin=>?_⟩
 case refine_2=>
  rw [if_neg hnin] at qq
  exact (show Rr t row 0 q H E from qq).step (Jc.of s0) fun n=>n.upd
 rw [if_pos hin] at qq
 obtain ⟨_,dx1,ta1,f1,f2⟩:=id R1
 have nt1:=n1 nt.upd
 have x1:Jc q H H1:=(Jc.of s0).trans s1
 have l1:1 ≤ ws.length:=MH (k:=0) (by rw [List.mem_singleton.mp hin];decide +kernel)
 have C1:=C.sameR x1 R
 have L1:=L.sameR x1 R
 obtain ⟨⟨_,hdl⟩,dxc,wl,nd,g1,_,_⟩:=id C1
 (walk_at "RD")
 refine ⟨_,_,f1,Ae.no _ _ _ (by decide +kernel),_,_,g1,yz _ _ _ (by decide +kernel),c,n,ds,rfl,C1,fun pn hpn=>⟨pn,rfl,⟨_,SqL.of db⟩,?_⟩⟩
 have sn:Xb H1 (upd H1 pn (.lst (Ib (ds.map (·.name))))):=jb hpn
 have hsl':(Ib (ds.map (·.name))).length=ds.length:=by unfold Ib;simp
 refine de.list (xs:=Ib (ds.map (·.name))) (fun i ys H'=>ys=Ib (((ds.map (·.name)).take i).filter fun x=>decide ((ofN x sp).length < 3))∧Xb (upd H1 pn (.lst (Ib (ds.map (·.name))))) H'∧NoT H') (Nat.le_trans (show _ ≤ 12 by rw [hsl'];omega) (by decide)) ⟨by rw [List.take_zero];rfl,Xb.refl _,nt1.upd⟩ ?_ ?_ ?_
 ·rintro i ys H' hi ⟨rfl,sm,_⟩
  refine ⟨SqL.of (sm _ _ db),?_⟩
  unfold Ib
  rw [List.length_map]
  exact Nat.le_trans (List.length_filter_le ..) (by rw [List.length_take];omega)
 ·rintro i v ys H' hv ⟨rfl,sm,nt'⟩ N hN
  obtain ⟨x,hx,rfl⟩:=yc hv
  dsimp only at hN
  rw [ng hx,List.filter_append] at hN
  (walk_at "RD")
  refine ⟨Sub.name,p,x,sp,rfl,(L1.same sn).same sm,hsl,fun r H2 s2 n2 ⟨qs,m1,m2⟩=>⟨r,rfl,_,.inl (SqL.of m1),?_⟩⟩
  have hml:qs.length=(ofN x sp).length:=by rw [m2.1,List.length_map]
  rw [List.length_map,hml]
  by_cases c0:(ofN x sp).length < 3
  ·rw [if_pos (decide_eq_true (by omega))]
   refine hN _ _ ⟨?_,sm.trans s2,n2 nt'⟩
   rw [List.filter_cons_of_pos (by simpa using c0)]
   unfold Ib
   rw [List.map_append];rfl
  ·rw [if_neg (by rw [decide_eq_true_eq];omega)]
   refine hN _ _ ⟨?_,sm.trans s2,n2 nt'⟩
   rw [List.filter_cons_of_neg (by simpa using c0),List.filter_nil,List.append_nil]
 rintro ys H2 ⟨rfl,sm2,nt2⟩ pk hpk
 rw [hsl',List.take_of_length_le (by rw [List.length_map];exact Nat.le_refl _)]
 rw [show (ds.map (·.name)).filter (fun x=>decide ((ofN x sp).length < 3))=Qh ds sp from rfl]
 have sk:Xb H1 (upd H2 pk (.lst (Ib (Qh ds sp)))):=(sn.trans sm2).trans (jb hpk)
 have ntk:NoT (upd H2 pk (.lst (Ib (Qh ds sp)))):=nt2.upd
 have hk:upd H2 pk (.lst (Ib (Qh ds sp))) pk=some (.lst (Ib (Qh ds sp))):=db
 generalize upd H2 pk (.lst (Ib (Qh ds sp)))=H3 at sk ntk hk ⊢
 have R3:=R1.same sk
 have x3:Jc q H H3:=x1.trans (Jc.of sk)
 (walk_at "RD")
 refine ⟨q,row,ws,1,pk,Qh ds sp,rfl,R3,hrow,l1,SqL.of hk,fun hin1=>fun H4 s4 n4 R4=>?_,fun hnin=>?_⟩
 case refine_2=>
  rw [if_neg hnin] at qq
  exact (show Rr t row 1 q H E from qq).step x3 fun _=>ntk
 rw [if_pos hin1] at qq
 have nt4:=n4 ntk
 have x4:Jc q H H4:=x3.trans s4
 obtain ⟨_,dx4,ta4,i1,i2⟩:=id R4
 have l2:2 ≤ ws.length:=MH (k:=1) (by
  obtain ⟨d,hd,e⟩:=List.mem_map.mp (List.mem_filter.mp hin1).1
  rw [← e];exact hD d hd)
 (walk_at "RD")
 refine ⟨_,_,i1,Ae.no _ _ _ (by decide +kernel),⟨q,row,ws,2,0,z - 1,rfl,R4,hrow,l2,nt4,fun b hb=>fun H5 s5 n5 R5=>?_,fun hb=>?_⟩⟩
 case refine_2=>
  rw [Kr hb] at qq
  exact (show Rr t row 2 q H E from qq).step x4 fun _=>nt4
 rw [Hu hb] at qq
 replace qq:Oc ((Jx (wd ws 3) 1 z).elim (.error 3) fun n=>if 4 < ws.length then .error 4 else .ok ⟨wd ws 1,b,n⟩) (fun d:SD=>∀ x H',Jc q H H'→NoT H'→H' x=some (sdO d)→H x=none→Q (.ref x) H') (fun k=>Rr t row k q H E):=qq
 have l3:=(fv hb).1
 have nt5:=n5 nt4
 have x5:Jc q H H5:=x4.trans s5
 obtain ⟨_,dx5,ta5,j1,j2⟩:=id R5
 (walk_at "RD")
 refine ⟨_,_,j1,Ae.no _ _ _ (by decide +kernel),⟨q,row,ws,3,1,z,rfl,R5,hrow,l3,nt5,fun m hm=>fun H6 s6 n6 R6=>?_,fun hm=>?_⟩⟩
 case refine_2=>
  rw [Kr hm] at qq
  exact (show Rr t row 3 q H E from qq).step x5 fun _=>nt5
 rw [Hu hm] at qq
 replace qq:Oc (if 4 < ws.length then .error 4 else .ok (⟨wd ws 1,b,m⟩:SD)) (fun d:SD=>∀ x H',Jc q H H'→NoT H'→H' x=some (sdO d)→H x=none→Q (.ref x) H') (fun k=>Rr t row k q H E):=qq
 have nt6:=n6 nt5
 have x6:Jc q H H6:=x5.trans s6
 obtain ⟨_,dx6,ta6,k1,k2⟩:=id R6
 (walk_at "RD")
 refine ⟨_,_,k1,Ae.no _ _ _ (by decide +kernel),⟨q,row,ws,4,rfl,R6,hrow,fun hl=>?_,fun hl=>?_⟩⟩
 ·rw [if_neg hl] at qq
  (walk_at "RD")
  refine ⟨by decide,fun x hx=>?_⟩
  have hHx:H x=none:=by
   cases e:H x with
   | none=>rfl
   | some u=>
    by_cases hxq:x=q
    ·subst hxq;rw [k1] at hx;cases hx
    ·rw [x6 _ _ hxq e] at hx;cases hx
  exact qq x _ (x6.trans (Jc.of (jb hx))) nt6.upd db hHx
 ·rw [if_pos hl] at qq
  exact (show Rr t row 4 q H E from qq).step x6 fun _=>nt6
theorem EH (T:Txt w K mg t):Eb P w K mg base (CX1 P w) 8 t.pj t.Pi ["crossing","text"] (aA t):=by
 have G_readers:Eb P w K mg base CX0 7 t.Pj t.qk ["text"] (so t):=(bu T).mono (by decide)
 have GX_read_size:Eb P w K mg base (CX1 P w) 7 t.Ti t.Yi ["reader"] (QE t):=(gM T).mono (by decide)
 have GX_read_span:Eb P w K mg base (CX1 P w) 7 t.Xi t.kj ["reader","crossing","size","spans"] (ND t):=(lL T).mono (by decide)
 have GX_made_plan:Eb P w K mg base (CX1 P w) 7 t.lh t.jh ["crossing","size","rows"] (yv t):=(tz T).mono (by decide)
 refine T.Wl.okX wg (fun vs H Q E h=>?_) (fun cdv A outer s H vs Q E hr h=>?_)
 ·obtain ⟨c,n,ds,x,r0,rest,rfl,_⟩:=h;rfl
 obtain ⟨c,n,ds,x,r0,rest,rfl,C,hn,hD,hne,hrow,hxl,hrl,hall,nt,qq⟩:=h
 refine ⟨_,(cb (Ab (i:=2) wg.nd rfl (Or.inl rfl) (yb G_readers hr rfl T.uw T.Mm.kp T.Uw .nil Cb (bb (pv 1) fb)))
   (cb (Ab (i:=3) wg.nd rfl (Or.inl rfl) (yb GX_read_size hr rfl T.ky T.Vl.kp T.Dx .nil je (bb (Nc Hd (pv 2) rb (fun _ _=>rfl)) fb)))
   (cb (Ab (i:=4) wg.nd rfl (Or.inl rfl) (Df fb))
   (cb (Zd (De ⟨rfl,rfl⟩) rfl (ae (Wk ux (pv 2) (wo rb) Kn)) (zb (i:=5) wg.nd rfl (Or.inl rfl)) (gb (lc (Cr PySem.F.plainAttrs_list PySem.F.slot_list_append PySem.F.type_list_append ah (pv 4) (bb (yb GX_read_span hr rfl T.Sx T.am.kp T.bx .nil je (bb (pv 5) (bb (pv 0) (bb (pv 3) (bb (pv 4) fb))))) fb)))))
   (gb (Fb (yb GX_made_plan hr rfl T.nq T.xj.kp T.Dq .nil je (bb (pv 0) (bb (pv 3) (bb (pv 4) fb)))))))))),?_⟩
 have toC:∀ {i k:Nat} {q:Addr} {H1:Hp},JP t i k H E→Xb H H1→H q=none→NoT H1→Rr t i k q H1 E:=fun {i k q H1} r s n m dx H' s' n' e=>r dx H' (Xd s s' n) (n' m) e
 (walk_at "RD")
 refine ⟨x,rfl,hxl,?_,nt,fun p H1 sm1 nt1 R=>?_⟩
 ·rw [hrow]
  exact fun r hr=>(hall r hr).2
 rw [hrow] at R
 obtain ⟨qs,hp,hp0,hql,hqa⟩:=R
 obtain ⟨q0,qr,rfl⟩:∃ q0 qr,qs=q0 :: qr:=by
  cases qs with
  | nil=>simp at hql
  | cons a b=>exact ⟨a,b,rfl⟩
 have hqrl:qr.length=rest.length:=by simpa using hql
 obtain ⟨R0,hq0⟩:=hqa 0 q0 _ rfl rfl
 (walk_at "RD")
 refine ⟨_,SqL.of hp,_,Ic (j:=0) rfl,⟨q0,_,r0,rfl,R0,by omega,nt1,?_⟩⟩
 unfold QG at qq
 cases er:sv r0 with
 | error k=>
  rw [er] at qq
  exact toC qq sm1 hq0 nt1
 | ok z=>
 rw [er] at qq
 have hzz:=FG er
 obtain ⟨zn,rfl⟩:∃ zn:Nat,z=(zn:Int):=⟨z.toNat,by omega⟩
 intro H2 s2 nt2
 (walk_at "RD")
 refine ⟨Nat.zero_le _,fun wl hwl=>?_⟩
 obtain ⟨C0,dq0,fq0,hins⟩:=R0.ins
 have hpq:p ≠ q0:=Fe hp hins (by intro z;cases z)
 have hp2:H2 p=some (.lst ((q0 :: qr).map V.ref)):=s2 _ _ hpq hp
 have swl:Xb H2 (upd H2 wl (.lst [])):=jb hwl
 have hcut:Oy ((q0 :: qr).map V.ref) (some 1) none=qr.map V.ref:=by
  unfold Oy
  simp [HT.sIx]
  exact List.take_of_length_le (by rw [List.length_map];exact Nat.le_refl _)
 refine ⟨_,SqL.of (swl _ _ hp2),fun pc hpc=>?_⟩
 rw [hcut]
 have hpw:pc ≠ wl:=fun z=>by subst z;rw [db] at hpc;cases hpc
 have spc:Xb (upd H2 wl (.lst [])) (upd (upd H2 wl (.lst [])) pc (.lst (qr.map V.ref))):=jb hpc
 refine ⟨⟨_,SqL.of db⟩,?_⟩
 have sH2:Xb H H2:=Xd sm1 s2 hq0
 replace qq:Oc2 (match Gj zn ds rest 1 [] with | .error e=>.error e | .ok sp=>.ok ((zn:Int),sp)) (fun m:Int × List SD=>Lx t c n ds m.1.toNat m.2 H Q E) (fun i k=>JP t i k H E):=qq
 generalize hW0:Gj zn ds rest 1 []=W0 at qq
 refine ni.list (xs:=qr.map V.ref) (fun i σ H'=>(∃ y,σ=[some (V.ref c),some (V.str x),some (V.ref p),some (V.int zn),some (V.ref wl),y])∧NoT H'∧Xb H H'∧H' pc=some (.lst (qr.map V.ref))∧H wl=none ∧
  (∃ sp,LO H' wl (List.map sdO sp)∧sp.length ≤ i∧SpG zn ds sp∧Gj zn ds (rest.drop i) (i + 1) sp=W0) ∧
  ∀ (j:Nat) (q:Addr) (r:List Str),i ≤ j→qr[j]? = some q→rest[j]? = some r→Ae t H' q ((j + 1:Nat):Int) r 0∧H q=none) ?_ ?_ ?_ ?_
 ·refine ⟨⟨_,rfl⟩,(nt2.upd).upd,(sH2.trans swl).trans spc,db,sH2.free hwl,⟨[],⟨[],spc _ _ db,LQ.nil _⟩,Nat.le_refl _,(fun s hs=>by simp at hs),hW0⟩,fun j q r _ h1 h2=>?_⟩
  obtain ⟨Rj,hqj⟩:=hqa (j + 1) q r (by rw [List.getElem?_cons_succ];exact h1) (by rw [List.getElem?_cons_succ];exact h2)
  exact ⟨((Rj.sameX s2 (WH Rj R0 (by omega)) R0.ins).same swl).same spc,hqj⟩
 ·rintro i σ H' hi ⟨_,_,_,h,_⟩
  exact SqL.of h
 ·rintro i v σ H' hv ⟨⟨y,rfl⟩,nt',sm',hpc',hwl0,⟨sp,L,hsl,hG,hwp⟩,Rs⟩
  obtain ⟨q,hq,rfl⟩:=yc hv
  obtain ⟨hi,_⟩:=List.getElem?_eq_some_iff.mp hq
  have hid:i < rest.length:=by omega
  have hr:rest[i]? = some rest[i]:=List.getElem?_eq_getElem hid
  obtain ⟨Rq,hqn⟩:=Rs i q _ (Nat.le_refl _) hq hr
  obtain ⟨os,w1,w2⟩:=id L
  obtain ⟨_,dq,tq,hqi,hqt⟩:=id Rq
  have hosl:os.length=sp.length:=by rw [w2.1,List.length_map]
  rw [List.drop_eq_getElem_cons hid] at hwp
  unfold Gj at hwp
  (walk_at "RD")
  refine ⟨.inl ⟨_,SqL.of w1⟩,?_⟩
  refine ⟨q,_,rest[i],c,n,ds,zn,wl,sp,rfl,Rq,by omega,C.same sm',hne,hzz,L,by omega,nt',?_⟩
  cases ew:ut zn (Qh ds sp) rest[i] with
  | error k=>
   rw [ew] at hwp
   replace hwp:Except.error (i + 1,k)=W0:=hwp
   subst hwp
   exact toC qq sm' hqn nt'
  | ok d=>
   rw [ew] at hwp
   replace hwp:Gj zn ds (rest.drop (i + 1)) (i + 1 + 1) (sp ++ [d])=W0:=hwp
   intro y' H3 s3 nt3 w3 hy3
   (walk_at "RD")
   have hwq:wl ≠ q:=Fe w1 hqi (by intro z;cases z)
   have hw3:H3 wl=some (.lst (os.map V.ref)):=s3 _ _ hwq w1
   have hsm3:Xb H H3:=Xd sm' s3 hqn
   refine ⟨_,hw3,Nat.lt_of_le_of_lt (show (os.map V.ref).length ≤ 100 by rw [List.length_map];omega) (by decide),?_⟩
   have hyw:y' ≠ wl:=fun z=>by
    subst z
    rw [w1] at hy3;cases hy3
   have L3:=L.sameR s3 Rq
   refine ⟨⟨_,rfl⟩,nt3.upd,fun b u e=>?_,?_,hwl0,⟨sp ++ [d],⟨os ++ [y'],by rw [db,List.map_append];rfl,?_⟩,by rw [List.length_append];show _ + 1 ≤ _;omega,fun s hs=>?_,hwp⟩,fun j q' r hj h1 h2=>?_⟩
   ·rw [lb (ub e hwl0)];exact hsm3 _ _ e
   ·rw [lb hpw]
    exact s3 _ _ (Fe hpc' hqi (by intro z;cases z)) hpc'
   ·rw [List.map_append]
    refine LQ.app ⟨w2.1,fun j b o hb ho=>?_⟩ (LQ.one (by rw [lb hyw];exact w3))
    have e:=w2.2 j b o hb ho
    obtain ⟨s,_,rfl⟩:=yc ho
    rw [lb (Fe e w1 (by intro z;cases z))]
    exact s3 _ _ (Fe e hqi (by intro z;cases z)) e
   ·rcases List.mem_append.mp hs with hs | hs
    ·exact hG s hs
    ·rw [List.mem_singleton.mp hs]
     have:=AI ew
     exact ⟨(List.mem_filter.mp this.1).1,this.2⟩
   ·obtain ⟨Rj,hqj⟩:=Rs j q' r (by omega) h1 h2
    have R3:=Rj.sameX s3 (WH Rj Rq (by omega)) Rq.ins
    refine ⟨?_,hqj⟩
    obtain ⟨hz,dx',ta,e1,e2⟩:=R3
    refine ⟨hz,dx',ta,by rw [lb (Fe e1 hw3 (by intro z;cases z))];exact e1,?_⟩
    rw [lb (fun z=>by
     subst z
     rw [hw3] at e2
     have e5:=Option.some.inj e2
     injection e5 with e6
     have hr0:=(hall r (List.mem_cons_of_mem _ (List.mem_of_getElem? h2))).1
     cases os with
     | nil=>
      cases r with
      | nil=>exact hr0 rfl
      | cons u v=>cases e6
     | cons a r'=>
      cases r with
      | nil=>cases e6
      | cons u v=>injection e6 with e7 _;cases e7)]
    exact e2
 ·rintro σ H' ⟨⟨y,rfl⟩,nt',sm',hpc',hwl0,⟨sp,L,hsl,hG,hwp⟩,Rs⟩
  rw [List.length_map,hqrl,List.drop_length] at hwp
  replace hwp:Except.ok sp=W0:=hwp
  subst hwp
  replace qq:Lx t c n ds (zn:Int).toNat sp H Q E:=qq
  rw [Int.toNat_natCast] at qq
  (walk_at "RD")
  exact ⟨c,n,ds,zn,wl,sp,rfl,C.same sm',hn,hD,by omega,L,hG.ok (by rw [List.length_map] at hsl;omega) (by omega),hG.wOf,nt',qq.step sm' nt'⟩
end
end My
namespace My
open PySem L2
noncomputable abbrev S (x:String):Str:=Str.ofString x
noncomputable def cD (x:Str):Prop:=x.length ≤ 20∧(32:Nat) ∉ x.cps.toList∧(10:Nat) ∉ x.cps.toList
theorem mn.b {x:Str} (h:mn x):cD x:=⟨Nat.le_trans h.1 (by decide),h.2⟩
theorem kB {rs:List (List Str)} (h0:rs ≠ []) (h1:∀ r ∈ rs,r ≠ []) (h2:∀ r ∈ rs,∀ x ∈ r,cD x):Fg (Str.join nl (rs.map (Str.join bk)))=rs:=by
 unfold Fg
 rw [SH,EB,Nk (by simpa using h0) (fun y hy=>by
  obtain ⟨r,hr,rfl⟩:=List.mem_map.mp hy
  rw [Yg]
  intro z
  rcases pC z with z | ⟨p,hp,z⟩
  ·cases z
  ·obtain ⟨x,hx,rfl⟩:=List.mem_map.mp hp
   exact (h2 r hr x hx).2.2 z),List.map_map]
 have:∀ r ∈ rs,((fun r=>Txt.split r ⟨#[32]⟩) ∘ Str.join ⟨#[32]⟩) r=r:=fun r hr=>Nk (h1 r hr) fun x hx=>(h2 r hr x hx).2.1
 rw [List.map_congr_left this,List.map_id']
theorem Wu {v lo hi:Int} (h0:0 ≤ v) (h1:v < 1000) (hl:lo ≤ v) (hh:v ≤ hi):Jx (num v) lo hi=some v:=Hu (zm h0 h1 hl hh)
noncomputable def fh (s:SD):List Str:=[S "free",s.name,num s.b,num s.n]
noncomputable def im (z:Int) (sp:List SD):List (List Str):=[S "round",num z] :: sp.map fh
theorem gC {z:Int} (hz:z ≤ 240) {known:List Str} {d:SD} (hn:d.name ∈ known) (h:0 ≤ d.b∧d.b < z∧1 ≤ d.n∧d.n ≤ z):ut z known (fh d)=.ok d:=by
 unfold ut
 rw [if_pos (show wd (fh d) 0 ∈ [Str.ofString "free"] from by show S "free" ∈ [S "free"];simp),if_pos (show wd (fh d) 1 ∈ known from hn)]
 rw [show wd (fh d) 2=num d.b from rfl,Wu (by omega) (by omega) (by omega) (by omega),show wd (fh d) 3=num d.n from rfl,Wu (by omega) (by omega) (by omega) (by omega)]
 rfl
theorem JE {z:Int} {ds:List WD} {ws:List Str} {r:List (List Str)} {i:Nat} {sp:List SD} {d:SD} (h:ut z (Qh ds sp) ws=.ok d):Gj z ds (ws :: r) i sp=Gj z ds r (i + 1) (sp ++ [d]):=by
 show (match ut z (Qh ds sp) ws with | .error k=>Except.error (i,k) | .ok d=>Gj z ds r (i + 1) (sp ++ [d]))=_
 rw [h]
theorem mF {z:Int} (hz:1 ≤ z∧z ≤ 240):sv [S "round",num z]=.ok z:=by
 unfold sv
 rw [if_pos (show wd [S "round",num z] 0 ∈ [Str.ofString "round"] from by show S "round" ∈ [S "round"];simp),show wd [S "round",num z] 1=num z from rfl,Wu (by omega) (by omega) (by omega) (by omega)]
 rfl
noncomputable def UH (z:Int) (ds:List WD) (sp:List SD):Prop:=∀ (i:Nat) (d:SD),sp[i]? = some d→d.name ∈ Qh ds (sp.take i)∧0 ≤ d.b∧d.b < z∧1 ≤ d.n∧d.n ≤ z
theorem Vt {z:Int} (hz:z ≤ 240) {ds:List WD} {sp:List SD} (h:UH z ds sp):∀ (n i:Nat),sp.length - i=n→i ≤ sp.length→Gj z ds ((sp.drop i).map fh) (i + 1) (sp.take i)=.ok sp
 | 0,i,hn,hi=>by
  have:i=sp.length:=by omega
  subst this
  rw [List.drop_length,List.take_length];rfl
 | n + 1,i,hn,hi=>by
  have hi':i < sp.length:=by omega
  have hd:sp[i]? = some sp[i]:=List.getElem?_eq_getElem hi'
  have g:=h i _ hd
  rw [List.drop_eq_getElem_cons hi',List.map_cons]
  rw [JE (gC hz g.1 g.2)]
  have:=Vt hz h n (i + 1) (by omega) hi'
  rw [ng hd] at this
  exact this
theorem VA {z:Int} (hz:1 ≤ z∧z ≤ 240) {ds:List WD} {sp:List SD} (h:UH z ds sp):QG ds [S "round",num z] (sp.map fh)=.ok (z,sp):=by
 unfold QG
 rw [mF hz]
 have:=Vt hz.2 h sp.length 0 rfl (Nat.zero_le _)
 rw [List.drop_zero,List.take_zero] at this
 show (match Gj z ds (sp.map fh) 1 [] with | .error e=>Except.error e | .ok sp=>Except.ok (z,sp))=_
 rw [this]
noncomputable def Wi (z:Int) (sp:List SD):Str:=Str.join nl ((im z sp).map (Str.join bk))
theorem iF (c:Nat):∀ (l:List (List Nat)) (x:List Nat),l ≠ []→jl c (l ++ [x])=jl c l ++ c :: x
 | [],_,h=>absurd rfl h
 | [a],x,_=>rfl
 | a :: b :: r,x,_=>by
  have:=iF c (b :: r) x (by simp)
  show a ++ c :: jl c ((b :: r) ++ [x])=(a ++ c :: jl c (b :: r)) ++ c :: x
  rw [this,List.append_assoc,List.cons_append]
theorem yE (z:Int):Wi z []=Str.ofString "round " ++ num z:=by
 apply Er
 have e1:(Str.ofString "round ").cps.toList=[114,111,117,110,100,32]:=by decide +kernel
 have e2:(Str.ofString "round").cps.toList=[114,111,117,110,100]:=by decide +kernel
 unfold Wi im
 rw [SH,Yg,EB]
 simp only [List.map_cons,List.map_nil,jl,Yg,Str.cps_append,Array.toList_append,e1,e2,List.cons_append,List.nil_append]
theorem eB (z:Int) (sp:List SD) (s:SD):Wi z (sp ++ [s])=(((((Wi z sp ++ Str.ofString "\nfree ") ++ s.name) ++ Str.ofString " ") ++ num s.b) ++ Str.ofString " ") ++ num s.n:=by
 apply Er
 have e1:(Str.ofString "\nfree ").cps.toList=[10,102,114,101,101,32]:=by decide +kernel
 have e2:(Str.ofString "free").cps.toList=[102,114,101,101]:=by decide +kernel
 have e3:(Str.ofString " ").cps.toList=[32]:=by decide +kernel
 unfold Wi
 rw [show im z (sp ++ [s])=im z sp ++ [fh s] by unfold im;rw [List.map_append,List.cons_append];rfl]
 rw [SH,Yg,List.map_append,List.map_append,List.map_cons,List.map_nil,List.map_cons,List.map_nil,iF _ _ _ (by unfold im;simp),EB]
 simp only [Str.cps_append,Array.toList_append,Yg,fh,List.map_cons,List.map_nil,jl,e1,e2,e3,List.append_assoc,List.cons_append,List.nil_append]
theorem Cz {α:Type} (z:Nat) (v:α) (b:Int) (hz:0 < z) (l:List α) (hl:l.length=z):∀ (k:Nat) (i:Nat),i < z→(kz z v b k l)[i]? = if ∃ j,j < k∧(b + (j:Int)) % (z:Int)=(i:Int) then some v else l[i]?
 | 0,i,hi=>by rw [if_neg (fun ⟨j,hj,_⟩=>by omega)];rfl
 | k + 1,i,hi=>by
  have ih:=Cz z v b hz l hl k i hi
  have h0:=Int.emod_nonneg (b + (k:Int)) (show (z:Int) ≠ 0 by omega)
  have h1:=Int.emod_lt_of_pos (b + (k:Int)) (show 0 < (z:Int) by omega)
  unfold kz pL
  by_cases c:(b + (k:Int)) % (z:Int)=(i:Int)
  ·rw [show ((b + (k:Int)) % (z:Int)).toNat=i by omega,List.getElem?_set_self (by rw [Ph,hl];exact hi),if_pos ⟨k,by omega,c⟩]
  ·rw [List.getElem?_set_ne (by omega),ih]
   by_cases e:∃ j,j < k∧(b + (j:Int)) % (z:Int)=(i:Int)
   ·obtain ⟨j,hj,ej⟩:=e
    rw [if_pos ⟨j,hj,ej⟩,if_pos ⟨j,by omega,ej⟩]
   ·rw [if_neg e,if_neg]
    rintro ⟨j,hj,ej⟩
    by_cases hjk:j=k
    ·subst hjk;exact c ej
    ·exact e ⟨j,by omega,ej⟩
theorem jH {z b i:Int} {n:Int} (hz:0 < z) (hi:0 ≤ i∧i < z) (hn:0 ≤ n∧n ≤ z):(∃ j:Nat,j < n.toNat∧(b + (j:Int)) % z=i)↔(i - b) % z < n:=by
 have h0:=Int.emod_nonneg (i - b) (show z ≠ 0 by omega)
 have h1:=Int.emod_lt_of_pos (i - b) hz
 constructor
 ·rintro ⟨j,hj,e⟩
  have:(i - b) % z=j:=by
   rw [← e,Int.emod_sub_emod,show b + (j:Int) - b=j by omega]
   exact Int.emod_eq_of_lt (by omega) (by omega)
  omega
 ·intro h
  refine ⟨((i - b) % z).toNat,by omega,?_⟩
  rw [Int.toNat_of_nonneg h0,Int.add_emod_emod,show b + (i - b)=i by omega]
  exact Int.emod_eq_of_lt hi.1 hi.2
theorem BI {z:Nat} (hz:0 < z) {b n:Int} (hn:0 ≤ n∧n ≤ z) {i:Nat} (hi:i < z):(fmF z [(b,n)])[i]? = some (decide (((i:Int) - b) % (z:Int) < n)):=by
 unfold fmF
 rw [List.foldl_cons,List.foldl_nil,Cz z true b hz _ (List.length_replicate ..) _ _ hi]
 have:=jH (z:=z) (b:=b) (i:=i) (n:=n) (by omega) ⟨by omega,by omega⟩ hn
 by_cases c:((i:Int) - b) % (z:Int) < n
 ·rw [if_pos (this.mpr c),decide_eq_true c]
 ·rw [if_neg (fun e=>c (this.mp e)),decide_eq_false c,List.getElem?_replicate,if_pos hi]
theorem Si (m:List Bool):∀ k,0 ≤ pf m k
 | 0=>by show (0:Int) ≤ 0;decide
 | k + 1=>by
  have:=Si m k
  unfold pf
  split <;> omega
theorem Nw (m:List Bool) (g:Int) (hg:0 ≤ g):∀ k:Nat,pf m k ≤ g↔(∃ j:Nat,(j:Int) ≤ g∧j < k∧m[(2 * m.length - 1 - (k - 1 - j)) % m.length]? = some true)∨(k:Int) ≤ g
 | 0=>by
  constructor
  ·intro _;exact .inr (by omega)
  ·intro _;exact hg
 | k + 1=>by
  by_cases c:m[(2 * m.length - 1 - k) % m.length]? = some true
  ·have e:pf m (k + 1)=0:=by unfold pf;rw [if_pos c]
   rw [e]
   exact ⟨fun _=>.inl ⟨0,by omega,by omega,by rw [show k + 1 - 1 - 0=k by omega];exact c⟩,fun _=>hg⟩
  ·have e:pf m (k + 1)=pf m k + 1:=by
    show (if m[(2 * m.length - 1 - k) % m.length]? = some true then 0 else pf m k + 1)=_
    rw [if_neg c]
   rw [e]
   by_cases hg1:1 ≤ g
   ·have ih:=Nw m (g - 1) (by omega) k
    constructor
    ·intro h
     rcases ih.mp (by omega) with ⟨j,h1,h2,h3⟩ | h
     ·exact .inl ⟨j + 1,by omega,by omega,by rw [show k + 1 - 1 - (j + 1)=k - 1 - j by omega];exact h3⟩
     ·exact .inr (by omega)
    ·rintro (⟨j,h1,h2,h3⟩ | h)
     ·by_cases hj:j=0
      ·subst hj
       rw [show k + 1 - 1 - 0=k by omega] at h3
       exact absurd h3 c
      ·have:=ih.mpr (.inl ⟨j - 1,by omega,by omega,by rw [show k - 1 - (j - 1)=k + 1 - 1 - j by omega];exact h3⟩)
       omega
     ·have:=ih.mpr (.inr (by omega))
      omega
   ·have:=Si m k
    constructor
    ·intro h;omega
    ·rintro (⟨j,h1,h2,h3⟩ | h)
     ·have hj:j=0:=by omega
      subst hj
      rw [show k + 1 - 1 - 0=k by omega] at h3
      exact absurd h3 c
     ·omega
theorem rG {m:List Bool} {t:Nat} (ht:t < m.length):(Bn m)[t]? = some (pf m (2 * m.length - t)):=by
 unfold Bn
 rw [List.getElem?_map,List.getElem?_range ht];rfl
theorem qH {m:List Bool} (hm:∃ i,i < m.length∧m[i]? = some true) {t:Nat} (ht:t < m.length) (g:Int) (hg:0 ≤ g):pf m (2 * m.length - t) ≤ g↔∃ j:Nat,(j:Int) ≤ g∧m[(t + j) % m.length]? = some true:=by
 have pos:∀ j,j < 2 * m.length - t→(2 * m.length - 1 - (2 * m.length - t - 1 - j))=t + j:=fun j hj=>by omega
 rw [Nw m g hg]
 constructor
 ·rintro (⟨j,h1,h2,h3⟩ | h)
  ·rw [pos j h2] at h3
   exact ⟨j,h1,h3⟩
  ·obtain ⟨i,hi,e⟩:=hm
   refine ⟨(i + m.length - t) % m.length,?_,?_⟩
   ·have:=Nat.mod_lt (i + m.length - t) (show 0 < m.length by omega)
    omega
   ·rw [Nat.add_mod_mod,show t + (i + m.length - t)=i + m.length by omega,Nat.add_mod_right,Nat.mod_eq_of_lt hi]
    exact e
 ·rintro ⟨j,h1,h2⟩
  have hj:=Nat.mod_lt j (show 0 < m.length by omega)
  have hle:=Nat.mod_le j m.length
  refine .inl ⟨j % m.length,by omega,by omega,?_⟩
  rw [pos _ (by omega),Nat.add_mod_mod]
  exact h2
theorem cL {m:List Bool} (hm:∃ i,i < m.length∧m[i]? = some true):∃ i,i < m.reverse.length∧m.reverse[i]? = some true:=by
 obtain ⟨i,hi,e⟩:=hm
 refine ⟨m.length - 1 - i,by rw [List.length_reverse];omega,?_⟩
 rw [List.getElem?_reverse (by omega),show m.length - 1 - (m.length - 1 - i)=i by omega]
 exact e
theorem qG {m:List Bool} {t:Nat} (ht:t < m.length):∃ v,(eu m)[t]? = some v∧0 ≤ v∧((∃ i,i < m.length∧m[i]? = some true)→∀ g:Int,0 ≤ g→(v ≤ g↔∃ j:Nat,(j:Int) ≤ g∧m[(((t:Int) - (j:Int)) % (m.length:Int)).toNat]? = some true)):=by
 have hr:m.reverse.length=m.length:=List.length_reverse
 have h1:m.length - 1 - t < m.reverse.length:=by omega
 refine ⟨pf m.reverse (2 * m.reverse.length - (m.length - 1 - t)),?_,Si _ _,fun hm g hg=>?_⟩
 ·unfold eu
  rw [List.getElem?_reverse (by rw [vo];omega),vo,hr]
  have:=rG h1
  rw [hr] at this
  exact this
 ·rw [qH (cL hm) h1 g hg]
  have key:∀ j:Nat,m.reverse[(m.length - 1 - t + j) % m.reverse.length]? = m[(((t:Int) - (j:Int)) % (m.length:Int)).toNat]?:=fun j=>by
   rw [hr]
   have hlt:=Nat.mod_lt (m.length - 1 - t + j) (show 0 < m.length by omega)
   rw [List.getElem?_reverse (by omega)]
   congr 1
   have h0:=Int.emod_nonneg ((t:Int) - (j:Int)) (show (m.length:Int) ≠ 0 by omega)
   have e:((t:Int) - (j:Int)) % (m.length:Int)=((m.length - 1 - (m.length - 1 - t + j) % m.length:Nat):Int):=by
    have d:=Nat.div_add_mod (m.length - 1 - t + j) m.length
    generalize (m.length - 1 - t + j) / m.length=q at d
    generalize (m.length - 1 - t + j) % m.length=r at d hlt ⊢
    have e2:(t:Int) - (j:Int)=((m.length - 1 - r:Nat):Int) + (m.length:Int) * (-(q:Int)):=by
     have d':(m.length:Int) * (q:Int) + (r:Int)=((m.length - 1 - t + j:Nat):Int):=by rw [← d];push_cast;rfl
     rw [Int.mul_neg]
     omega
    rw [e2,Int.add_mul_emod_self_left]
    exact Int.emod_eq_of_lt (by omega) (by omega)
   omega
  constructor
  ·rintro ⟨j,h2,h3⟩
   exact ⟨j,h2,by rw [← key j];exact h3⟩
  ·rintro ⟨j,h2,h3⟩
   exact ⟨j,h2,by rw [key j];exact h3⟩
theorem Pw {z:Nat} (hz:0 < z) {b n:Int} (hn:1 ≤ n∧n ≤ z) {t:Nat} (ht:t < z):∃ v,(eu (fmF z [(b,n)]))[t]? = some v∧0 ≤ v∧∀ g:Int,0 ≤ g→(v ≤ g↔∃ j:Nat,(j:Int) ≤ g∧((t:Int) - (j:Int) - b) % (z:Int) < n):=by
 have hl:(fmF z [(b,n)]).length=z:=Tn _ _
 obtain ⟨v,h1,h2,h3⟩:=qG (m:=fmF z [(b,n)]) (t:=t) (by rw [hl];exact ht)
 refine ⟨v,h1,h2,fun g hg=>?_⟩
 have hb0:=Int.emod_nonneg b (show (z:Int) ≠ 0 by omega)
 have hb1:=Int.emod_lt_of_pos b (show 0 < (z:Int) by omega)
 have hm:∃ i,i < (fmF z [(b,n)]).length∧(fmF z [(b,n)])[i]? = some true:=by
  refine ⟨(b % (z:Int)).toNat,by rw [hl];omega,?_⟩
  rw [BI hz ⟨by omega,hn.2⟩ (by omega),Int.toNat_of_nonneg hb0,decide_eq_true]
  rw [Int.emod_sub_emod,Int.sub_self,Int.zero_emod]
  omega
 rw [h3 hm g hg,hl]
 have key:∀ j:Nat,(fmF z [(b,n)])[(((t:Int) - (j:Int)) % (z:Int)).toNat]? = some (decide (((t:Int) - (j:Int) - b) % (z:Int) < n)):=fun j=>by
  have c0:=Int.emod_nonneg ((t:Int) - (j:Int)) (show (z:Int) ≠ 0 by omega)
  have c1:=Int.emod_lt_of_pos ((t:Int) - (j:Int)) (show 0 < (z:Int) by omega)
  rw [BI hz ⟨by omega,hn.2⟩ (by omega),Int.toNat_of_nonneg c0,Int.emod_sub_emod]
 constructor
 ·rintro ⟨j,g1,g2⟩
  rw [key j] at g2
  exact ⟨j,g1,of_decide_eq_true (Option.some.inj g2)⟩
 ·rintro ⟨j,g1,g2⟩
  exact ⟨j,g1,by rw [key j,decide_eq_true g2]⟩
end My
namespace My
open PySem L2
noncomputable abbrev au (d:WD):List V:=[.str (me d.k),.str d.name,.int d.start,.int d.fin,.int d.off,.int d.near,.int d.least]
noncomputable def LW (H:Hp) (wl:Addr) (ds:List WD):Prop:=∃ qs:List Addr,H wl=some (.lst (qs.map V.ref))∧qs.length=ds.length∧∀ (i:Nat) (q:Addr) (d:WD),qs[i]? = some q→ds[i]? = some d→H q=some (.tup (au d))
theorem LW.same {H H':Hp} {wl:Addr} {ds:List WD} (h:LW H wl ds) (s:Xb H H'):LW H' wl ds:=by
 obtain ⟨qs,e1,e2,al⟩:=h
 exact ⟨qs,s _ _ e1,e2,fun i q d h1 h2=>s _ _ (al i q d h1 h2)⟩
theorem LW.snoc {H:Hp} {wl p:Addr} {ds:List WD} {d:WD} {qs:List Addr} (l1:H wl=some (.lst (qs.map V.ref))) (l2:qs.length=ds.length)
  (al:∀ (i:Nat) (q:Addr) (d:WD),qs[i]? = some q→ds[i]? = some d→H q=some (.tup (au d))) (hp:H p=none) :
  LW (upd (upd H p (.tup (au d))) wl (.lst (qs.map V.ref ++ [.ref p]))) wl (ds ++ [d]):=by
 have hpw:p ≠ wl:=(ub l1 hp).symm
 refine ⟨qs ++ [p],by rw [db,List.map_append];rfl,by rw [List.length_append,List.length_append,l2];rfl,fun i q e h1 h2=>?_⟩
 rcases Wj h1 with ⟨z1,z2⟩ | ⟨z1,rfl⟩
 ·rcases Wj h2 with ⟨y1,y2⟩ | ⟨y1,_⟩
  ·have:=al i q e z2 y2
   rw [lb (Fe this l1 (by intro z;cases z)),lb (ub this hp)]
   exact this
  ·omega
 ·rcases Wj h2 with ⟨y1,y2⟩ | ⟨y1,rfl⟩
  ·omega
  ·rw [lb hpw,db]
theorem sG:∀ j,j < 5→(Txt.slice (Str.ofString "lane") none (some (j:Nat))).cps.toList=[108,97,110,101].take j:=by decide +kernel
theorem bM:∀ j,j < 4→(Txt.slice (Str.ofString "way") none (some (j:Nat))).cps.toList=[119,97,121].take j:=by decide +kernel
noncomputable def nm6 (u v k:Nat):Str:=Txt.slice (Str.ofString "lane") none (some (u:Nat)) ++ ⟨#[97 + k]⟩ ++ Txt.slice (Str.ofString "way") none (some (v:Nat))
theorem JC {u v k:Nat} (hu:u < 5) (hv:v < 4):(nm6 u v k).cps.toList=[108,97,110,101].take u ++ [97 + k] ++ [119,97,121].take v:=by
 unfold nm6
 rw [Str.cps_append,Array.toList_append,Str.cps_append,Array.toList_append,sG u hu,bM v hv]
theorem Mz {u v k:Nat} (hk:k < 12) (hu:u < 5) (hv:v < 4):made (nm6 u v k) gh 8=true:=by
 have e:=JC (k:=k) hu hv
 have hl:(nm6 u v k).length=(nm6 u v k).cps.toList.length:=by simp [Str.length]
 refine yw ?_ ?_ ?_
 ·rw [hl,e,List.length_append,List.length_append,List.length_singleton];omega
 ·rw [hl,e,List.length_append,List.length_append,List.length_take,List.length_take];simp only [List.length_cons,List.length_nil];omega
 ·intro c hc
  rw [e] at hc
  rcases List.mem_append.mp hc with hc | hc
  ·rcases List.mem_append.mp hc with hc | hc
   ·have:=List.mem_of_mem_take hc
    simp only [List.mem_cons,List.not_mem_nil,or_false] at this
    omega
   ·simp only [List.mem_cons,List.not_mem_nil,or_false] at hc
    omega
  ·have:=List.mem_of_mem_take hc
   simp only [List.mem_cons,List.not_mem_nil,or_false] at this
   omega
theorem fK {u v k k':Nat} (hu:u < 5) (hv:v < 4) (e:nm6 u v k=nm6 u v k'):k=k':=by
 have:=congrArg (fun x:Str=>x.cps.toList) e
 simp only [JC hu hv] at this
 rw [List.append_left_inj,List.append_right_inj] at this
 have:=List.cons.inj this
 omega
theorem ZN {n s j:Int} (h0:0 ≤ s) (h1:s < n) (h2:0 ≤ j) (h3:j < n - 1):s ≠ (s + 1 + j) % n:=by
 rw [Int.add_assoc,nJ h0 h1 (by omega) (by omega)]
 split <;> omega
theorem LK:∀ k,k < 4→atI (Str.ofString "abcd").cps.toList ((k:Nat):Int)=some (97 + k):=by decide +kernel
structure Yp (n:Int) (ds:List WD):Prop where
 al:∀ d ∈ ds,WOk n d∧d.least=1∧(d.k=1→d.off ≤ 6)
 nm:∃ u v,u < 5∧v < 4∧∀ (i:Nat) (d:WD),ds[i]? = some d→d.name=nm6 u v i
theorem Yp.nd {n:Int} {ds:List WD} (h:Yp n ds):(ds.map (·.name)).Nodup:=by
 obtain ⟨u,v,hu,hv,al⟩:=h.nm
 refine List.pairwise_iff_getElem.mpr fun i j hi hj hij e=>?_
 rw [List.length_map] at hi hj
 rw [List.getElem_map,List.getElem_map,al i _ (List.getElem?_eq_getElem hi),al j _ (List.getElem?_eq_getElem hj)] at e
 have:=fK hu hv e
 omega
theorem Yp.cok {n:Int} {ds:List WD} (h:Yp n ds) (hn:2 ≤ n∧n ≤ 99) (hl:1 ≤ ds.length∧ds.length ≤ 12):COk n ds:=⟨hn,hl,fun d hd=>(h.al d hd).1,h.nd⟩
noncomputable def AN (K:PySem.W.Frag) (a:Addr) (ns:List Int):Sp:=fun vs H Q _=>vs=[.ref a]∧Sc K a ns H ∧
 ∀ tp wl n ds H',Xb H H'→Sc K a ns H'→H' tp=some (.tup [.int n,.ref wl])→LW H' wl ds→Yp n ds→(4 ≤ n∧n ≤ 12)→(2 ≤ ds.length∧ds.length ≤ 4)→Q (.ref tp) H'
section
variable {P:Program} {w:World} {K:PySem.W.Frag} {mg:Str→Option Value} {base:Heap} {t:Adr}
theorem GP (T:Txt w K mg t) (a:Addr) (ns:List Int) (h63:ns.length ≤ 63):Eb P w K mg base CX0 2 t.tj t.nj ["_law_script"] (AN K a ns):=by
 have G__law_draw:Eb P w K mg base CX0 1 t.Gf t.Of ["_law_script","_law_k","_law_many"] (Wd K a ns):=px T a ns h63
 refine T.Bm.ok Fc (fun vs H Q E h=>?_) (fun cdv A outer s H vs Q E hr h=>?_)
 ·obtain ⟨rfl,_⟩:=h;rfl
 obtain ⟨rfl,S,q⟩:=h
 refine ⟨_,(cb (Ab (i:=1) Fc.nd rfl (Or.inl rfl) (Pb se rb (yb G__law_draw hr rfl T.gc T.Ob.kp T.dc .nil Cb (bb (pv 0) (bb rb (bb rb fb))))))
   (cb (Ab (i:=2) Fc.nd rfl (Or.inl rfl) rb)
   (cb (ge (Sb bi (yb G__law_draw hr rfl T.gc T.Ob.kp T.dc .nil Cb (bb (pv 0) (bb rb (bb rb fb)))) rb (uc _)) (gb (Ab (i:=2) Fc.nd rfl (Or.inl rfl) rb)) Zb)
   (cb (Ab (i:=3) Fc.nd rfl (Or.inl rfl) (Df fb))
   (cb (Zd PassesOwn.never rfl (re rfl T.Pf (bb (Pb se rb (yb G__law_draw hr rfl T.gc T.Ob.kp T.dc .nil Cb (bb (pv 0) (bb rb (bb rb fb))))) fb)) (zb (i:=4) Fc.nd rfl (Or.inl rfl)) (cb (Ab (i:=5) Fc.nd rfl (Or.inl rfl) (Nc Hd (Df (bb xc (bb xc fb))) (yb G__law_draw hr rfl T.gc T.Ob.kp T.dc .nil Cb (bb (pv 0) (bb (Pb se rb (pv 4)) (bb rb fb)))) (fun _ _=>rfl)))
   (cb (Ab (i:=6) Fc.nd rfl (Or.inl rfl) (yb G__law_draw hr rfl T.gc T.Ob.kp T.dc .nil Cb (bb (pv 0) (bb (Pb se rb (pv 4)) (bb (pv 2) fb)))))
   (cb (ge (PW.pt (Ym (Sb bi (pv 4) rb (uc _)) (ak (Sb bi (yb G__law_draw hr rfl T.gc T.Ob.kp T.dc .nil Cb (bb (pv 0) (bb rb (bb rb fb)))) rb (uc _))))) (cb (Ab (i:=5) Fc.nd rfl (Or.inl rfl) xc)
   (gb (Ab (i:=6) Fc.nd rfl (Or.inl rfl) (Pb Af (pv 6) rb)))) Zb)
   (cb (Ab (i:=7) Fc.nd rfl (Or.inl rfl) (yb G__law_draw hr rfl T.gc T.Ob.kp T.dc .nil Cb (bb (pv 0) (bb (Pb se rb (pv 4)) (bb (pv 1) fb)))))
   (cb (Ab (i:=8) Fc.nd rfl (Or.inl rfl) (Pb Af (Pb se (Pb se (pv 7) rb) (yb G__law_draw hr rfl T.gc T.Ob.kp T.dc .nil Cb (bb (pv 0) (bb (Pb se rb (pv 4)) (bb (Pb zf (pv 1) rb) fb))))) (pv 1)))
   (cb (Ab (i:=9) Fc.nd rfl (Or.inl rfl) (Pb ud (Pb ud (Wk eJ xc Kn (wo (yb G__law_draw hr rfl T.gc T.Ob.kp T.dc .nil Cb (bb (pv 0) (bb rb (bb rb fb)))))) (Nc NI xc (pv 4) (fun _ _=>rfl))) (Wk eJ xc Kn (wo (yb G__law_draw hr rfl T.gc T.Ob.kp T.dc .nil Cb (bb (pv 0) (bb rb (bb rb fb))))))))
   (gb (lc (Cr PySem.F.plainAttrs_list PySem.F.slot_list_append PySem.F.type_list_append ah (pv 3) (bb (Hg (bb (pv 5) (bb (pv 9) (bb (pv 7) (bb (pv 8) (bb (pv 6) (bb (yb G__law_draw hr rfl T.gc T.Ob.kp T.dc .nil Cb (bb (pv 0) (bb (Pb se rb (pv 4)) (bb rb fb)))) (bb rb fb)))))))) fb)))))))))))
   (gb (Fb (Hg (bb (pv 1) (bb (pv 3) fb)))))))))),?_⟩
 have hbig:∀ k:Nat,k ≤ 1000→k ≤ sizeLine:=fun k h=>Nat.le_trans h (by decide)
 have d1:=Dg ns 1 (m:=9) (by decide)
 have d2:=Cg ns 1 (m:=9) (by decide)
 have d3:=Dg ns 4 (m:=3) (by decide)
 have d4:=Cg ns 4 (m:=3) (by decide)
 have u1:=Dg ns 80 (m:=5) (by decide)
 have u2:=Cg ns 80 (m:=5) (by decide)
 have v1:=Dg ns 81 (m:=4) (by decide)
 have v2:=Cg ns 81 (m:=4) (by decide)
 obtain ⟨u,hu⟩:∃ u:Nat,Ug ns 80 5=(u:Nat):=⟨(Ug ns 80 5).toNat,by omega⟩
 obtain ⟨v,hv⟩:∃ v:Nat,Ug ns 81 4=(v:Nat):=⟨(Ug ns 81 4).toNat,by omega⟩
 simp only [Bc]
 refine Td (fun σ' H'=>H'=H∧σ'=[some (.ref a),some (.int (4 + Ug ns 1 9)),none,none,none,none,none,none,none,none]) (fun D hD _ _ _=>?_) ?_
 ·(walk_at "RD"; repeat (simp only [Wd];walk_at "RD"))
  exact ⟨S,by omega,by omega,by decide,hD _ _ ⟨rfl,rfl⟩⟩
 rintro σ1 H1 ⟨rfl,rfl⟩
 generalize hnn:4 + Ug ns 1 9=n
 have hn:4 ≤ n∧n ≤ 12:=by omega
 simp only [Bc]
 refine Td (fun σ' H'=>H'=H1∧σ'=[some (.ref a),some (.int n),some (.int 9),none,none,none,none,none,none,none]) (fun D hD _ _ _=>?_) ?_
 ·(walk_at "RD")
  exact hD _ _ ⟨rfl,rfl⟩
 rintro σ1 H2 ⟨rfl,rfl⟩
 simp only [Bc]
 refine Td (fun σ' H'=>H'=H2∧∃ far:Int,(far=9∨far=31)∧σ'=[some (.ref a),some (.int n),some (.int far),none,none,none,none,none,none,none]) (fun D hD _ _ _=>?_) ?_
 ·refine Rb (decide (Ug ns 2 8=1)) (fun Q hQ=>?_) (fun c=>?_) (fun c=>?_)
  ·(walk_at "RD"; repeat (simp only [Wd];walk_at "RD"))
   exact ⟨S,by omega,by omega,by decide,hQ⟩
  ·(walk_at "RD")
   exact hD _ _ ⟨rfl,31,.inr rfl,rfl⟩
  ·(walk_at "RD")
   exact hD _ _ ⟨rfl,9,.inl rfl,rfl⟩
 rintro σ1 H3 ⟨rfl,far,hfar,rfl⟩
 simp only [Bc]
 refine Td (fun σ' H'=>∃ wl,H3 wl=none∧H'=upd H3 wl (.lst [])∧σ'=[some (.ref a),some (.int n),some (.int far),some (.ref wl),none,none,none,none,none,none]) (fun D hD _ _ _=>?_) ?_
 ·(walk_at "RD")
  exact ⟨Nat.zero_le _,fun wl hwl=>hD _ _ ⟨wl,hwl,rfl,rfl⟩⟩
 rintro σ1 H4 ⟨wl,hwl,rfl,rfl⟩
 have S1:=S.new (o:=.lst []) hwl
 have s1:Xb H3 (upd H3 wl (.lst [])):=jb hwl
 have w1:(upd H3 wl (.lst [])) wl=some (.lst []):=db
 generalize upd H3 wl (.lst [])=H4 at S1 s1 w1 ⊢
 (walk_at "RD"; repeat (simp only [Wd];walk_at "RD"))
 refine ⟨S1,by omega,by omega,by decide,by omega,by omega,?_⟩
 generalize hmm:(2 + Ug ns 4 3).toNat=m
 refine ni.range (fun i σ H'=>Sc K a ns H'∧Xb H3 H'∧(∃ ds,LW H' wl ds∧(∀ d ∈ ds,WOk n d∧d.least=1∧(d.k=1→d.off ≤ 6))∧(∀ (j:Nat) (d:WD),ds[j]? = some d→d.name=nm6 u v j)∧ds.length=i)∧∃ x1 x2 x3 x4 x5 x6,σ=[some (.ref a),some (.int n),some (.int far),some (.ref wl),x1,x2,x3,x4,x5,x6]) ?_ ?_ ?_
 ·exact ⟨S1,s1,⟨[],⟨[],w1,rfl,fun i q d h=>by simp at h⟩,fun d h=>by simp at h,fun j d h=>by simp at h,rfl⟩,none,none,none,none,none,none,rfl⟩
 ·rintro i σ H' hi ⟨S2,s2,⟨ds,L,dw,dn,hdl⟩,x1,x2,x3,x4,x5,x6,rfl⟩
  have hi4:i < 4:=by omega
  have g1:=Dg ns (40 + (i:Int)) (m:=n) (by omega)
  have g2:=Cg ns (40 + (i:Int)) (m:=n) (by omega)
  have g3:=Dg ns (60 + (i:Int)) (m:=n - 1) (by omega)
  have g4:=Cg ns (60 + (i:Int)) (m:=n - 1) (by omega)
  have g5:=Dg ns (20 + (i:Int)) (m:=2) (by decide)
  have g6:=Cg ns (20 + (i:Int)) (m:=2) (by decide)
  have g7:=Dg ns (100 + (i:Int)) (m:=far) (by omega)
  have g8:=Cg ns (100 + (i:Int)) (m:=far) (by omega)
  have g9:=Dg ns (120 + (i:Int)) (m:=9) (by decide)
  have g10:=Cg ns (120 + (i:Int)) (m:=9) (by decide)
  generalize hst:Ug ns (40 + (i:Int)) n=st at g1 g2
  generalize hfi:(st + 1 + Ug ns (60 + (i:Int)) (n - 1)) % n=fi
  have hfb:(0 ≤ fi∧fi < n)∧st ≠ fi:=by
   subst hfi
   exact ⟨⟨Int.emod_nonneg _ (by omega),Int.emod_lt_of_pos _ (by omega)⟩,ZN g1 g2 g3 g4⟩
  simp only [Pm,Bc,List.set_cons_succ,List.set_cons_zero,Int.zero_add]
  refine Td (fun σ' H2=>Xb H' H2∧Sc K a ns H2∧∃ k:Nat,(k < 3∧k ≠ 1)∧σ'=[some (.ref a),some (.int n),some (.int far),some (.ref wl),some (.int (i:Nat)),some (.str (me k)),x3,x4,x5,x6]) (fun D hD _ _ _=>?_) ?_
  ·(walk_at "RD"; repeat (simp only [Wd];walk_at "RD"))
   refine ⟨by decide,fun p1 hp1=>⟨S2.new hp1,by omega,by omega,by decide,?_⟩⟩
   have hat:∃ k:Nat,(k < 3∧k ≠ 1)∧atI [V.str (Str.ofString "car"),V.str (Str.ofString "tram")] (Ug ns (20 + (i:Int)) 2)=some (.str (me k)):=by
    have:Ug ns (20 + (i:Int)) 2=0∨Ug ns (20 + (i:Int)) 2=1:=by omega
    rcases this with e | e <;> rw [e]
    ·exact ⟨0,by decide,Ic (j:=0) rfl⟩
    ·exact ⟨2,by decide,Ic (j:=1) rfl⟩
   obtain ⟨k,hk,hat⟩:=hat
   exact ⟨_,SqL.of db,_,hat,hD _ _ ⟨jb hp1,S2.new hp1,k,hk,rfl⟩⟩
  rintro σ2 H5 ⟨s5,S5,k,hk,rfl⟩
  simp only [Bc]
  refine Td (fun σ' H2=>H2=H5∧σ'=[some (.ref a),some (.int n),some (.int far),some (.ref wl),some (.int (i:Nat)),some (.str (me k)),some (.int (Ug ns (100 + (i:Int)) far)),x4,x5,x6]) (fun D hD _ _ _=>?_) ?_
  ·(walk_at "RD"; repeat (simp only [Wd];walk_at "RD"))
   exact ⟨S5,by omega,by omega,by omega,hD _ _ ⟨rfl,rfl⟩⟩
  rintro σ2 H6 ⟨rfl,rfl⟩
  simp only [Bc]
  refine Td (fun σ' H2=>H2=H6∧∃ k:Nat,∃ off:Int,k < 3∧((0 ≤ off∧off ≤ 30)∧(k=1→off ≤ 6))∧σ'=[some (.ref a),some (.int n),some (.int far),some (.ref wl),some (.int (i:Nat)),some (.str (me k)),some (.int off),x4,x5,x6]) (fun D hD _ _ _=>?_) ?_
  ·refine Rb (decide (i=1) && decide (Ug ns 5 6=1)) (fun Q hQ=>?_) (fun c=>?_) (fun c=>?_)
   ·(walk_at "RD"; repeat (simp only [Wd];walk_at "RD"))
    rw [show decide (((i:Nat):Int)=1)=decide (i=1) by rw [Bool.eq_iff_iff,decide_eq_true_eq,decide_eq_true_eq];omega]
    cases hc:decide (i=1) with
    | false=>rw [hc] at hQ;exact hQ
    | true=>
     rw [hc] at hQ
     exact ⟨S5,by omega,by omega,by decide,hQ⟩
   ·(walk_at "RD")
    refine ⟨by decide,hD _ _ ⟨rfl,1,Ug ns (100 + (i:Int)) far % 7,by decide,?_,rfl⟩⟩
    have h0:=Int.emod_nonneg (Ug ns (100 + (i:Int)) far) (show (7:Int) ≠ 0 by decide)
    have h1:=Int.emod_lt_of_pos (Ug ns (100 + (i:Int)) far) (show (0:Int) < 7 by decide)
    exact ⟨by omega,fun _=>by omega⟩
   ·(walk_at "RD")
    exact hD _ _ ⟨rfl,k,_,hk.1,⟨by omega,fun z=>absurd z hk.2⟩,rfl⟩
  rintro σ2 H7 ⟨rfl,k',off,hk',⟨hoff,hfoot⟩,rfl⟩
  simp only [Bc]
  refine Td (fun σ' H2=>H2=H7∧σ'=[some (.ref a),some (.int n),some (.int far),some (.ref wl),some (.int (i:Nat)),some (.str (me k')),some (.int off),some (.int st),x5,x6]) (fun D hD _ _ _=>?_) ?_
  ·(walk_at "RD"; repeat (simp only [Wd];walk_at "RD"))
   rw [hst]
   exact ⟨S5,by omega,by omega,by omega,hD _ _ ⟨rfl,rfl⟩⟩
  rintro σ2 H8 ⟨rfl,rfl⟩
  simp only [Bc]
  refine Td (fun σ' H2=>H2=H8∧σ'=[some (.ref a),some (.int n),some (.int far),some (.ref wl),some (.int (i:Nat)),some (.str (me k')),some (.int off),some (.int st),some (.int fi),x6]) (fun D hD _ _ _=>?_) ?_
  ·(walk_at "RD"; repeat (simp only [Wd];walk_at "RD"))
   rw [hfi]
   exact ⟨S5,by omega,by omega,by omega,by omega,hD _ _ ⟨rfl,rfl⟩⟩
  rintro σ2 H9 ⟨rfl,rfl⟩
  simp only [Bc]
  refine Td (fun σ' H2=>H2=H9∧σ'=[some (.ref a),some (.int n),some (.int far),some (.ref wl),some (.int (i:Nat)),some (.str (me k')),some (.int off),some (.int st),some (.int fi),some (.str (nm6 u v i))]) (fun D hD _ _ _=>?_) ?_
  ·(walk_at "RD"; repeat (simp only [Wd];walk_at "RD"))
   rw [hu,hv]
   have hnl:(nm6 u v i).length ≤ 8:=((og (Mz (k:=i) (by omega) (by omega) (by omega))).1).2
   unfold nm6 at hnl
   rw [Ff,Ff] at hnl
   refine ⟨S5,by omega,by omega,by decide,by decide +kernel,by decide +kernel,_,LK i hi4,hbig _ (by omega),S5,by omega,by omega,by decide,by decide +kernel,hbig _ (by rw [Ff];omega),hD _ _ ⟨rfl,rfl⟩⟩
  rintro σ2 H10 ⟨rfl,rfl⟩
  obtain ⟨qs,l1,l2,al⟩:=L.same s5
  have hwok:WOk n ⟨k',nm6 u v i,st,fi,off,Ug ns (120 + (i:Int)) 9,1⟩:=
   ⟨hk',Mz (by omega) (by omega) (by omega),⟨g1,g2⟩,hfb.1,hfb.2,hoff,⟨g9,by show Ug ns (120 + (i:Int)) 9 ≤ 30;omega⟩,show (1:Int) ≤ 1∧(1:Int) ≤ 60 by decide⟩
  (walk_at "RD"; repeat (simp only [Wd];walk_at "RD"))
  refine ⟨.inl ⟨_,SqL.of l1⟩,S5,by omega,by omega,by decide,by decide,fun p2 hp2=>?_⟩
  have hwp:wl ≠ p2:=ub l1 hp2
  have L':=LW.snoc (d:=⟨k',nm6 u v i,st,fi,off,Ug ns (120 + (i:Int)) 9,1⟩) l1 l2 al hp2
  refine ⟨_,by rw [lb hwp];exact l1,Nat.lt_of_le_of_lt (show (qs.map V.ref).length ≤ 12 by rw [List.length_map];omega) (by decide),?_,?_,⟨_,L',fun d hd=>?_,fun j d hd=>?_,by rw [List.length_append,hdl];rfl⟩,by repeat (first | exact ⟨_,rfl⟩ | refine ⟨⟨_,rfl⟩,?_⟩)⟩
  ·exact (S5.new hp2).set (by rw [lb hwp];exact l1) (fun ob z e=>by cases e)
  ·exact (((s2.trans s5).trans (jb hp2)).updN hwl)
  ·rcases List.mem_append.mp hd with z | z
   ·exact dw d z
   ·rw [List.mem_singleton.mp z]
    exact ⟨hwok,rfl,hfoot⟩
  ·rcases Wj hd with ⟨_,z⟩ | ⟨z1,rfl⟩
   ·exact dn j d z
   ·rw [z1,hdl]
 ·rintro σ H' ⟨S2,s2,⟨ds,L,dw,dn,hdl⟩,x1,x2,x3,x4,x5,x6,rfl⟩
  (walk_at "RD")
  refine ⟨by decide,fun tp htp=>?_⟩
  exact q tp wl n ds _ (s2.trans (jb htp)) (S2.new htp) db (L.same (jb htp)) ⟨dw,u,v,by omega,by omega,dn⟩ hn (by omega)
end
end My
namespace My
open PySem L2
theorem gO (d:WD):((((me d.k ++ Str.ofString " ") ++ d.name) ++ Str.ofString " ") ++ Txt.join (Str.ofString " ") [num d.start,num d.fin,num d.off,num d.near,num d.least])=Str.join bk (Oj d):=by
 apply Er
 have e5:(Str.ofString " ").cps.toList=[32]:=by decide +kernel
 rw [show Txt.join (Str.ofString " ") [num d.start,num d.fin,num d.off,num d.near,num d.least]=Str.join bk [num d.start,num d.fin,num d.off,num d.near,num d.least] from StrLaws.glued_eq_join _ _]
 rw [Str.cps_append,Array.toList_append,EB,Yg,Yg]
 unfold Oj
 simp only [Str.cps_append,Array.toList_append,List.map_cons,List.map_nil,jl,e5,List.append_assoc,List.cons_append,List.nil_append]
theorem AK (n:Int):Str.ofString "ring " ++ num n=Str.join bk [Str.ofString "ring",num n]:=by
 apply Er
 have e1:(Str.ofString "ring ").cps.toList=[114,105,110,103,32]:=by decide +kernel
 have e2:(Str.ofString "ring").cps.toList=[114,105,110,103]:=by decide +kernel
 rw [EB,Yg]
 simp only [Str.cps_append,Array.toList_append,List.map_cons,List.map_nil,jl,e1,e2,List.cons_append,List.nil_append]
theorem GI {B:Nat}:∀ {ys:List Str},(∀ y ∈ ys,y.length ≤ B)→(ys.map (·.length)).sum ≤ ys.length * B
 | [],_=>by simp
 | a :: r,h=>by
  have h1:=h a (by simp)
  have h2:=GI (B:=B) (ys:=r) fun y hy=>h y (List.mem_cons_of_mem _ hy)
  rw [List.map_cons,List.sum_cons,List.length_cons,Nat.succ_mul];omega
theorem oK {n:Int} {ds:List WD} (h:COk n ds):∀ y ∈ (ii n ds).map (Str.join bk),y.length ≤ 63:=fun y hy=>by
 obtain ⟨r,hr,rfl⟩:=List.mem_map.mp hy
 have:=gj bk 8 r fun x hx=>(h.plain r hr x hx).1
 rw [sr] at this
 have hl:r.length ≤ 7:=by
  rcases List.mem_cons.mp hr with rfl | hr
  ·simp
  ·obtain ⟨d,hd,rfl⟩:=List.mem_map.mp hr
   simp [Oj]
 omega
noncomputable def qz (K:PySem.W.Frag):Sp:=fun vs H Q _=>∃ n wl ds,vs=[.int n,.ref wl]∧LW H wl ds∧Yp n ds∧(2 ≤ n∧n ≤ 99)∧(1 ≤ ds.length∧ds.length ≤ 12)∧NoT H∧Q (.str (lv n ds)) H
noncomputable def gF (K:PySem.W.Frag):Sp:=fun vs H Q _=>∃ n wl ds,vs=[.int n,.ref wl]∧LW H wl ds∧Yp n ds∧(2 ≤ n∧n ≤ 99)∧(1 ≤ ds.length∧ds.length ≤ 12)∧∀ H',Xb H H'→Q (.str (lv n ds)) H'
section
variable {P:Program} {w:World} {K:PySem.W.Frag} {mg:Str→Option Value} {base:Heap} {t:Adr}
theorem YH (T:Txt w K mg t):Eb P w K mg base CX0 1 t.oj t.rj ["_law_places","_law_ways_here"] (qz K):=by
 refine Eb.forget (sp:=gF K) ?_ fun vs H Q E h=>?_
 ·refine T.cm.ok yk (fun vs H Q E h=>?_) (fun cdv A outer s H vs Q E hr h=>?_)
  ·obtain ⟨n,wl,ds,rfl,_⟩:=h;rfl
  obtain ⟨n,wl,ds,rfl,L,D,hn,hl,q⟩:=h
  refine ⟨_,(cb (Ab (i:=2) yk.nd rfl (Or.inl rfl) (Df (bb (Pb ud xc (lg df rfl T.rA Vg (bb (pv 0) fb))) fb)))
   (cb (Zd PassesOwn.never rfl (ae (pv 1)) (zb (i:=3) yk.nd rfl (Or.inl rfl)) (gb (lc (Cr PySem.F.plainAttrs_list PySem.F.slot_list_append PySem.F.type_list_append ah (pv 2) (bb (Pb ud (Pb ud (Pb ud (Pb ud (Nc zd (pv 3) rb (fun _ _=>rfl)) xc) (Nc zd (pv 3) rb (fun _ _=>rfl))) xc) (Cr PySem.F.plainAttrs_str PySem.F.slot_str_join PySem.F.type_str_join eE xc (bb (Qi rfl (WO (Wk OM (pv 3) (wo rb) Kn)) (Vd (sc:=ib Am) rfl (by decide +kernel)) (N:=["_law_number"]) (sel:=[none]) (Le (M:=["_law_places","_law_ways_here","_law_rows_here","_law_way"]) (by decide +kernel)) (Blk.of (fun _ _ _ _=>(zb (i:=0) (Ii (N:=["_law_number"]) (by decide +kernel) rfl) rfl (Or.inl rfl))) (fun _ _ _ _=>⟨_,Xh,by first | rfl | (dsimp only [Cx.block];done) | (dsimp only [Cx.block];exact rfl)⟩) (fun _ _ _ _=>⟨_,(lg df rfl T.rA Vg (bb (pv 0) fb)),by first | rfl | (dsimp only [Cx.block];done) | (dsimp only [Cx.block];exact rfl)⟩))) fb))) fb)))))
   (gb (Fb (Cr PySem.F.plainAttrs_str PySem.F.slot_str_join PySem.F.type_str_join eE xc (bb (pv 2) fb)))))),?_⟩
  have hC:=D.cok hn hl
  obtain ⟨qs,l1,l2,al⟩:=L
  have hlen:∀ x:Str,mn x→x.length ≤ 8:=fun x h=>h.1
  have hbig:∀ k:Nat,k ≤ 1000→k ≤ sizeLine:=fun k h=>Nat.le_trans h (by decide)
  have hr5:(Str.ofString "ring ").length=5:=by decide +kernel
  have hb1:(Str.ofString " ").length=1:=by decide +kernel
  (walk_at "RD")
  have hn8:(Str.ofString (toString n)).length ≤ 8:=(Cc (v:=n) (by omega) (by omega)).1
  refine ⟨Dr (by omega),hbig _ (by rw [hr5];omega),by decide,fun rl hrl'=>?_⟩
  rw [AK]
  have s0:Xb H (upd H rl (.lst [V.str (Str.join bk [Str.ofString "ring",num n])])):=jb hrl'
  refine ⟨⟨_,SqL.of (s0 _ _ l1)⟩,?_⟩
  refine ni.list (xs:=qs.map V.ref) (fun i σ H'=>Xb H H'∧H' rl=some (.lst (Ib ((ii n (ds.take i)).map (Str.join bk))))∧∃ x,σ=[some (.int n),some (.ref wl),some (.ref rl),x]) ?_ ?_ ?_ ?_
  ·exact ⟨s0,db,none,rfl⟩
  ·rintro i σ H' hi ⟨sm,_,_⟩
   exact SqL.of (sm _ _ l1)
  ·rintro i v σ H' hv ⟨sm,hr,x,rfl⟩
   obtain ⟨q',hq,rfl⟩:=yc hv
   have hid:i < ds.length:=by rw [← l2];exact (List.getElem?_eq_some_iff.mp hq).1
   have hd:ds[i]? = some ds[i]:=List.getElem?_eq_getElem hid
   have hT:SqT K H' q' (au ds[i]):=SqT.of (sm _ _ (al i q' _ hq hd))
   have hw:=(D.al _ (List.mem_of_getElem? hd)).1
   have b1:=hw.st;have b2:=hw.fi;have b3:=hw.of;have b4:=hw.nr;have b5:=hw.le
   have z1:=hlen _ (Dt ds[i].k)
   have z2:=hlen _ (Sn hw.nm)
   have z3:(num ds[i].start).length ≤ 8:=hlen _ (Cc (v:=ds[i].start) (by omega) (by omega))
   have z4:(num ds[i].fin).length ≤ 8:=hlen _ (Cc (v:=ds[i].fin) (by omega) (by omega))
   have z5:(num ds[i].off).length ≤ 8:=hlen _ (Cc (v:=ds[i].off) (by omega) (by omega))
   have z7:(num ds[i].least).length ≤ 8:=hlen _ (Cc (v:=ds[i].least) (by omega) (by omega))
   have z6:(num ds[i].near).length ≤ 8:=hlen _ (Cc (v:=ds[i].near) (by omega) (by omega))
   (walk_at "RD")
   refine ⟨.inl ⟨_,SqL.of hr⟩,?_⟩
   have at0:atI (au ds[i]) 0=some (.str (me ds[i].k)):=Ic (j:=0) rfl
   have at1:atI (au ds[i]) 1=some (.str ds[i].name):=Ic (j:=1) rfl
   refine ⟨_,hT,_,at0,_,rfl,hbig _ (by omega),_,hT,_,at1,_,rfl,hbig _ (by rw [Ff];omega),hbig _ (by simp only [Ff];omega),?_⟩
   have hcut:Oy (au ds[i]) (some 2) none=[.int ds[i].start,.int ds[i].fin,.int ds[i].off,.int ds[i].near,.int ds[i].least]:=rfl
   refine ⟨_,hT,?_,fun p hp=>⟨⟨_,SqT.of db⟩,?_⟩⟩
   ·show ¬ (HT.sIx 7 0 (some 2)=0∧HT.sIx 7 7 none=7)
    decide
   rw [hcut]
   have hjn:(Txt.join (Str.ofString " ") [num ds[i].start,num ds[i].fin,num ds[i].off,num ds[i].near,num ds[i].least]).length ≤ 50:=by
    rw [show Txt.join (Str.ofString " ") [num ds[i].start,num ds[i].fin,num ds[i].off,num ds[i].near,num ds[i].least]=Str.join bk [num ds[i].start,num ds[i].fin,num ds[i].off,num ds[i].near,num ds[i].least] from StrLaws.glued_eq_join _ _]
    have:=gj bk 8 [num ds[i].start,num ds[i].fin,num ds[i].off,num ds[i].near,num ds[i].least] (fun y hy=>by
     simp only [List.mem_cons,List.not_mem_nil,or_false] at hy
     rcases hy with rfl | rfl | rfl | rfl | rfl <;> assumption)
    rw [sr] at this
    simp only [List.length_cons,List.length_nil] at this
    omega
   refine de.tup_zs (xs:=[.int ds[i].start,.int ds[i].fin,.int ds[i].off,.int ds[i].near,.int ds[i].least]) (zs:=Ib [num ds[i].start,num ds[i].fin,num ds[i].off,num ds[i].near,num ds[i].least]) (SqT.of db) (hbig _ (show 5 ≤ 1000 by decide)) rfl (fun j v z N hv hz hN=>?_) (fun p2 hp2=>?_)
   ·have key:∃ a:Int,v=.int a∧z=.str (num a)∧0 ≤ a∧a < 100:=by
     match j,hv,hz with
     | 0,hv,hz=>cases hv;cases hz;exact ⟨_,rfl,rfl,b1.1,by omega⟩
     | 1,hv,hz=>cases hv;cases hz;exact ⟨_,rfl,rfl,b2.1,by omega⟩
     | 2,hv,hz=>cases hv;cases hz;exact ⟨_,rfl,rfl,b3.1,by omega⟩
     | 3,hv,hz=>cases hv;cases hz;exact ⟨_,rfl,rfl,b4.1,by omega⟩
     | 4,hv,hz=>cases hv;cases hz;exact ⟨_,rfl,rfl,by omega,by omega⟩
     | k + 5,hv,hz=>simp at hv
    obtain ⟨a,rfl,rfl,ha0,ha1⟩:=key
    (walk_at "RD")
    exact ⟨Sub.name,Dr (by omega),hN⟩
   ·(walk_at "RD")
    have hrp2:rl ≠ p2:=by
     rintro rfl
     rw [lb (ub hr hp)] at hp2
     rw [hp2] at hr;cases hr
    have hrl:(upd (upd H' p (.tup [.int ds[i].start,.int ds[i].fin,.int ds[i].off,.int ds[i].near,.int ds[i].least])) p2 (.lst (Ib [num ds[i].start,num ds[i].fin,num ds[i].off,num ds[i].near,num ds[i].least]))) rl=some (.lst (Ib ((ii n (ds.take i)).map (Str.join bk)))):=by
     rw [lb hrp2,lb (ub hr hp)];exact hr
    have sm2:Xb H' (upd (upd H' p (.tup [.int ds[i].start,.int ds[i].fin,.int ds[i].off,.int ds[i].near,.int ds[i].least])) p2 (.lst (Ib [num ds[i].start,num ds[i].fin,num ds[i].off,num ds[i].near,num ds[i].least]))):=(jb hp).trans (jb hp2)
    have hsq:=SqL.of (K:=K) (H:=upd (upd H' p (.tup [.int ds[i].start,.int ds[i].fin,.int ds[i].off,.int ds[i].near,.int ds[i].least])) p2 (.lst (Ib [num ds[i].start,num ds[i].fin,num ds[i].off,num ds[i].near,num ds[i].least]))) (a:=p2) db
    generalize upd (upd H' p (.tup [.int ds[i].start,.int ds[i].fin,.int ds[i].off,.int ds[i].near,.int ds[i].least])) p2 (.lst (Ib [num ds[i].start,num ds[i].fin,num ds[i].off,num ds[i].near,num ds[i].least]))=H2 at hrl sm2 hsq ⊢
    refine ⟨_,hsq,?_,hbig _ (by simp only [Ff];omega),_,hrl,?_,?_,?_,_,rfl⟩
    ·simp only [List.map_cons,List.map_nil,List.sum_cons,List.sum_nil,List.length_cons,List.length_nil]
     omega
    ·rw [Xm,List.length_map]
     exact Nat.lt_of_le_of_lt (show (ii n (ds.take i)).length ≤ 13 by unfold ii;rw [List.length_cons,List.length_map,List.length_take];omega) (by decide)
    ·exact fun b u e=>by rw [lb (ub e hrl')];exact sm2 _ _ (sm _ _ e)
    ·rw [db,gO ds[i]]
     congr 2
     unfold ii Ib
     simp
     rw [List.take_add_one,List.getElem?_map,hd];rfl
  ·rintro σ H' ⟨sm,hr,x,rfl⟩
   (walk_at "RD")
   rw [List.length_map,l2,List.take_length] at hr
   refine ⟨_,SqL.of hr,?_,?_⟩
   ·have h63:∀ y ∈ (ii n ds).map (Str.join bk),y.length ≤ 63:=oK hC
    have h13:((ii n ds).map (Str.join bk)).length ≤ 13:=by
     unfold ii
     rw [List.length_map,List.length_cons,List.length_map];omega
    have:=GI h63
    rw [show (Str.ofString "\n").length=1 by decide +kernel]
    omega
   ·have:=q H' sm
    unfold lv at this
    rw [show Txt.join (Str.ofString "\n") ((ii n ds).map (Str.join bk))=Str.join nl ((ii n ds).map (Str.join bk)) from StrLaws.glued_eq_join _ _]
    exact this
 ·obtain ⟨n,wl,ds,h1,h2,h3,h4,h5,nt,q⟩:=h
  exact ⟨nt,n,wl,ds,h1,h2,h3,h4,h5,fun H' sm=>⟨sm,q⟩⟩
end
section
variable {P:Program} {w:World} {K:PySem.W.Frag} {mg:Str→Option Value} {base:Heap} {t:Adr}
noncomputable def bz (K:PySem.W.Frag):Sp:=fun vs H Q _=>∃ n a b d e,vs=[.int n,.ref a,.ref b]∧SqT K H a (au d)∧SqT K H b (au e)∧WOk n d∧WOk n e∧NoT H∧Q (.bl (mt n d e)) H
noncomputable def zD (K:PySem.W.Frag):Sp:=fun vs H Q _=>∃ n a b d e,vs=[.int n,.ref a,.ref b]∧SqT K H a (au d)∧SqT K H b (au e)∧WOk n d∧WOk n e∧∀ H',Xb H H'→Q (.bl (mt n d e)) H'
theorem fH (T:Txt w K mg t):Eb P w K mg base CX0 1 t.Oi t.fj ["_law_places","_law_one","_law_other"] (bz K):=by
 refine Eb.forget (sp:=zD K) ?_ fun vs H Q E h=>?_
 ·refine T.vm.ok vg (fun vs H Q E h=>?_) (fun cdv A outer s H vs Q E hr h=>?_)
  ·obtain ⟨n,a,b,d,e,rfl,_⟩:=h;rfl
  obtain ⟨n,a,b,d,e,rfl,Ta,Tb,hd,he,q⟩:=h
  refine ⟨_,(cb (ge (Sb bi (Nc zd (pv 1) rb (fun _ _=>rfl)) (Nc zd (pv 2) rb (fun _ _=>rfl)) (uc _)) (gb (Fb En)) Zb)
   (cb (ge (PW.pt (JB (Sb Li (Nc zd (pv 1) rb (fun _ _=>rfl)) (Hg (bb (Nc zd (pv 2) rb (fun _ _=>rfl)) (bb (Nc zd (pv 2) rb (fun _ _=>rfl)) fb))) (by with_unfolding_all rfl)) (gu (Sb bi (Nc zd (pv 1) rb (fun _ _=>rfl)) (Nc zd (pv 2) rb (fun _ _=>rfl)) (uc _))))) (gb (Fb En)) Zb)
   (cb (Ab (i:=3) vg.nd rfl (Or.inl rfl) rb)
   (cb (Ab (i:=4) vg.nd rfl (Or.inl rfl) (Nc zd (pv 1) rb (fun _ _=>rfl)))
   (cb (YG PassesOwn.never (Sb DA (pv 4) (Nc zd (pv 1) rb (fun _ _=>rfl)) (uc _)) (cb (Ab (i:=4) vg.nd rfl (Or.inl rfl) (Pb Af (Pb se (pv 4) rb) (pv 0)))
   (gb (ge (Sb Li (pv 4) (Hg (bb (Nc zd (pv 2) rb (fun _ _=>rfl)) (bb (Nc zd (pv 2) rb (fun _ _=>rfl)) fb))) (by with_unfolding_all rfl)) (gb (Ab (i:=3) vg.nd rfl (Or.inl rfl) (Pb se (pv 3) rb))) Zb))))
   (gb (Fb (Te bi (pv 3) rb (uc _))))))))),?_⟩
  have a2:atI (au d) 2=some (.int d.start):=Ic (j:=2) rfl
  have a3:atI (au d) 3=some (.int d.fin):=Ic (j:=3) rfl
  have b2:atI (au e) 2=some (.int e.start):=Ic (j:=2) rfl
  have b3:atI (au e) 3=some (.int e.fin):=Ic (j:=3) rfl
  have f1:=hd.st;have f2:=hd.fi;have f3:=he.st;have f4:=he.fi
  refine Rb (decide (d.fin=e.fin)) (fun Q hQ=>?_) (fun c=>?_) (fun c=>?_)
  ·(walk_at "RD")
   refine ⟨_,Ta,_,a3,_,Tb,_,b3,rfl,?_⟩
   (walk_at "RD")
   exact hQ
  ·(walk_at "RD")
   have:=q H (Xb.refl H)
   unfold mt RE at this
   rw [c,Bool.true_or] at this
   exact this
  ·have c':=of_decide_eq_false c
   (walk_at "RD")
   refine Rg (fun b H'=>Xb H H'∧b=decide ((d.start=e.start∨d.start=e.fin)∨d.fin=e.start)) (fun Q hQ=>?_) (fun H' ⟨sm,hb⟩=>?_) (fun H' ⟨sm,hb⟩=>?_)
   ·(walk_at "RD")
    refine ⟨_,Ta,_,a2,_,Tb,_,b2,_,Tb,_,b3,by decide,fun p hp=>⟨_,.inr (SqT.of db),rfl,rfl,?_⟩⟩
    have s1:Xb H (upd H p (.tup [.int e.start,.int e.fin])):=jb hp
    rw [jP]
    by_cases c1:d.start=e.start∨d.start=e.fin
    ·rw [if_pos (decide_eq_true c1)]
     exact hQ _ _ ⟨s1,(decide_eq_true (.inl c1)).symm⟩
    ·rw [if_neg (by simpa using c1)]
     refine ⟨_,Ta.same s1,_,a3,_,Tb.same s1,_,b2,rfl,?_⟩
     refine hQ _ _ ⟨s1,?_⟩
     (walk_at "RD")
     rw [Bool.eq_iff_iff,decide_eq_true_eq,decide_eq_true_eq]
     exact ⟨.inr,fun z=>z.resolve_left c1⟩
   ·(walk_at "RD")
    have hb':=of_decide_eq_true hb.symm
    have:=q H' sm
    unfold mt RE at this
    rw [c,Bool.false_or,if_pos (by omega)] at this
    exact this
   ·(walk_at "RD")
    have hb':=of_decide_eq_false hb.symm
    refine ⟨_,Ta.same sm,_,a2,?_⟩
    have hL0:0 ≤ (d.fin - d.start) % n:=Int.emod_nonneg _ (by omega)
    have hL1:(d.fin - d.start) % n < n:=Int.emod_lt_of_pos _ (by omega)
    refine gD (fun σ H2=>Xb H H2∧∃ i:Nat,(i:Int) ≤ (d.fin - d.start) % n∧σ=[some (.int n),some (.ref a),some (.ref b),some (.int (ind n d.start e.start i + ind n d.start e.fin i)),some (.int ((d.start + i) % n))])
     (fun σ _=>match σ with | [_,_,_,_,some (.int p)]=>((d.fin - d.start) % n - (p - d.start) % n).toNat | _=>0) ?_ ?_
    ·refine ⟨sm,0,hL0,?_⟩
     have i0:∀ p,ind n d.start p ((0:Nat):Int)=0:=fun p=>by unfold ind;rw [if_neg (by omega)]
     rw [i0,i0,show (d.start + ((0:Nat):Int)) % n=d.start by rw [show d.start + ((0:Nat):Int)=d.start by omega];exact Int.emod_eq_of_lt f1.1 f1.2];rfl
    ·rintro σ H2 ⟨sm2,i,hi,rfl⟩
     have hdn:((d.start + i) % n - d.start) % n=i:=(Aw (n:=n) (s:=d.start) (p:=(d.start + i) % n) (j:=i) f1.1 f1.2 (Int.emod_nonneg _ (by omega)) (Int.emod_lt_of_pos _ (by omega)) (by omega) (by omega)).mp rfl
     refine ⟨!decide ((d.start + i) % n=d.fin),fun Q hQ=>?_,fun c2=>?_,fun c2=>?_⟩
     ·(walk_at "RD")
      refine ⟨_,Ta.same sm2,_,a3,rfl,?_⟩
      (walk_at "RD")
      exact hQ
     ·have c3:¬ (d.start + i) % n=d.fin:=by simpa using c2
      have hlt:(i:Int) < (d.fin - d.start) % n:=by
       have:(i:Int) ≠ (d.fin - d.start) % n:=fun z=>c3 ((Aw f1.1 f1.2 f2.1 f2.2 (by omega) (by omega)).mpr z.symm)
       omega
      have e1:((d.start + i) % n + 1) % n=(d.start + ((i + 1:Nat):Int)) % n:=by
       rw [Int.add_emod,Int.emod_emod_of_dvd _ (Int.dvd_refl n),← Int.add_emod]
       congr 1;omega
      have hdn':((d.start + ((i + 1:Nat):Int)) % n - d.start) % n=((i + 1:Nat):Int):=(Aw (n:=n) (s:=d.start) (p:=(d.start + ((i + 1:Nat):Int)) % n) (j:=((i + 1:Nat):Int)) f1.1 f1.2 (Int.emod_nonneg _ (by omega)) (Int.emod_lt_of_pos _ (by omega)) (by omega) (by omega)).mp rfl
      have k1:=Zz (n:=n) (s:=d.start) (p:=e.start) (i:=i) f1.1 f1.2 f3.1 f3.2 (by omega) (by omega)
      have k2:=Zz (n:=n) (s:=d.start) (p:=e.fin) (i:=i) f1.1 f1.2 f4.1 f4.2 (by omega) (by omega)
      have hne:e.start ≠ e.fin:=he.ne
      have ei:((i + 1:Nat):Int)=(i:Int) + 1:=by omega
      (walk_at "RD")
      refine ⟨by omega,?_⟩
      rw [e1]
      refine Rg (fun b H3=>Xb H H3∧b=decide ((d.start + ((i + 1:Nat):Int)) % n=e.start∨(d.start + ((i + 1:Nat):Int)) % n=e.fin)) (fun Q hQ=>?_) (fun H3 ⟨sm3,h3⟩=>?_) (fun H3 ⟨sm3,h3⟩=>?_)
      ·(walk_at "RD")
       refine ⟨_,Tb.same sm2,_,b2,_,Tb.same sm2,_,b3,by decide,fun p hp=>⟨_,.inr (SqT.of db),rfl,rfl,?_⟩⟩
       rw [jP]
       exact hQ _ _ ⟨sm2.trans (jb hp),rfl⟩
      ·have h3':=of_decide_eq_true h3.symm
       rw [ei] at h3'
       (walk_at "RD")
       refine ⟨sm3,⟨i + 1,by omega,?_,rfl⟩,?_⟩
       ·rw [ei,k1,k2]
        rcases h3' with z | z
        ·rw [if_pos z,if_neg (fun y=>hne (by rw [← z,← y]))];omega
        ·rw [if_pos z,if_neg (fun y=>hne (by rw [← z,← y]))];omega
       ·rw [hdn,hdn'];omega
      ·have h3':=of_decide_eq_false h3.symm
       rw [ei] at h3'
       (walk_at "RD")
       refine ⟨sm3,⟨i + 1,by omega,?_,rfl⟩,?_⟩
       ·rw [ei,k1,k2,if_neg (fun z=>h3' (.inl z)),if_neg (fun z=>h3' (.inr z))];omega
       ·rw [hdn,hdn'];omega
     ·have c3:(d.start + i) % n=d.fin:=by simpa using c2
      have hL:(d.fin - d.start) % n=i:=by rw [← c3];exact hdn
      have:=zG f1 f2 f3 f4 c' hb'
      rw [hL] at this
      (walk_at "RD")
      rw [this]
      exact q H2 sm2
 ·obtain ⟨n,a,b,d,e,h1,h2,h3,h4,h5,nt,q⟩:=h
  exact ⟨nt,n,a,b,d,e,h1,h2,h3,h4,h5,fun H' sm=>⟨sm,q⟩⟩
end
end My
namespace My
open PySem L2
structure cA (z:Int) (ds:List WD) (sp:List SD):Prop where
 ln:sp.length=ds.length
 al:∀ (i:Nat) (d:WD) (s:SD),ds[i]? = some d→sp[i]? = some s→s.name=d.name∧(0 ≤ s.b∧s.b < z)∧1 ≤ s.n∧s.n + af d + yd d ≤ z
theorem LW.at {H:Hp} {wl:Addr} {ds:List WD} (L:LW H wl ds) {i:Nat} {d:WD} (h:ds[i]? = some d):∃ (qs:List Addr) (q:Addr),H wl=some (.lst (qs.map V.ref))∧atI (qs.map V.ref) ((i:Nat):Int)=some (V.ref q)∧H q=some (.tup (au d))∧qs.length=ds.length:=by
 obtain ⟨qs,l1,l2,al⟩:=L
 have hi:i < qs.length:=by rw [l2];exact (List.getElem?_eq_some_iff.mp h).1
 have hq:qs[i]? = some qs[i]:=List.getElem?_eq_getElem hi
 exact ⟨qs,qs[i],l1,Ic (by rw [List.getElem?_map,hq];rfl),al i _ d hq h,l2⟩
theorem LO.at {H:Hp} {p:Addr} {sp:List SD} (L:LO H p (List.map sdO sp)) {i:Nat} {s:SD} (h:sp[i]? = some s):∃ (qs:List Addr) (q:Addr),H p=some (.lst (qs.map V.ref))∧atI (qs.map V.ref) ((i:Nat):Int)=some (V.ref q)∧H q=some (.tup [.str s.name,.int s.b,.int s.n])∧qs.length=sp.length:=by
 obtain ⟨qs,l1,l2,al⟩:=L
 rw [List.length_map] at l2
 have hi:i < qs.length:=by rw [l2];exact (List.getElem?_eq_some_iff.mp h).1
 have hq:qs[i]? = some qs[i]:=List.getElem?_eq_getElem hi
 exact ⟨qs,qs[i],l1,Ic (by rw [List.getElem?_map,hq];rfl),al i _ (sdO s) hq (by rw [List.getElem?_map,h];rfl),l2⟩
theorem LO.snoc {H:Hp} {wl p:Addr} {os:List HO} {o:HO} {qs:List Addr} (l1:H wl=some (.lst (qs.map V.ref))) (lq:LQ H qs os) (hp:H p=none) (ho:∀ xs,o ≠ .lst xs) (hos:∀ u ∈ os,∀ xs,u ≠ .lst xs) :
  LO (upd (upd H p o) wl (.lst (qs.map V.ref ++ [.ref p]))) wl (os ++ [o]):=by
 have hpw:p ≠ wl:=(ub l1 hp).symm
 refine ⟨qs ++ [p],by rw [db,List.map_append];rfl,LQ.app ⟨lq.1,fun i q u hq hu=>?_⟩ (LQ.one (by rw [lb hpw,db]))⟩
 have e:=lq.2 i q u hq hu
 rw [lb (Fe e l1 (hos u (List.mem_of_getElem? hu) _)),lb (ub e hp)]
 exact e
theorem WP (d:WD):atI (au d) 0=some (.str (me d.k)):=Ic (j:=0) rfl
theorem oH (d:WD):atI (au d) 1=some (.str d.name):=Ic (j:=1) rfl
theorem YO (d:WD):atI (au d) 4=some (.int d.off):=Ic (j:=4) rfl
theorem VP (d:WD):atI (au d) 5=some (.int d.near):=Ic (j:=5) rfl
theorem mR (s:SD):atI [V.str s.name,.int s.b,.int s.n] 0=some (.str s.name):=Ic (j:=0) rfl
theorem aQ (s:SD):atI [V.str s.name,.int s.b,.int s.n] 1=some (.int s.b):=Ic (j:=1) rfl
theorem gQ (s:SD):atI [V.str s.name,.int s.b,.int s.n] 2=some (.int s.n):=Ic (j:=2) rfl
theorem qI {k:Nat} (h:k < 3):decide (V.str (me k)=V.str (Str.ofString "foot"))=decide (k=1):=by
 match k,h with
 | 0,_=>decide +kernel
 | 1,_=>decide +kernel
 | 2,_=>decide +kernel
noncomputable def Fq (z g:Int) (s1 s2:SD) (tn:Int):Bool:=decide ((tn - s2.b) % z < s2.n) && (List.range (g.toNat + 1)).any fun (b:Nat)=>decide ((tn - (b:Int) - s1.b) % z < s1.n)
noncomputable def VC:Sp:=fun vs H Q _=>∃ (wl:Addr) (ds:List WD) (rl:Addr) (sp:List SD) (z:Int) (k i:Nat) (tn:Int) (d1 d2:WD) (s1 s2:SD),vs=[.ref wl,.ref rl,.int z,.int (k:Nat),.int (i:Nat),.int tn]∧LW H wl ds∧LO H rl (List.map sdO sp)∧0 < z ∧
 ds[k]? = some d1∧ds[i]? = some d2∧sp[k]? = some s1∧sp[i]? = some s2∧(d1.off ≤ 100∧0 ≤ d2.near)∧Q (.bl (Fq z (Cm d1 d2) s1 s2 tn)) H
noncomputable def cO (c:Str × Str × Nat):HO:=.tup [.str c.1,.str c.2.1,.int c.2.2]
noncomputable def c3 (z:Int) (d1 d2:WD) (s1 s2:SD) (T:Nat):List (Str × Str × Nat):=((List.range T).filter fun (t:Nat)=>Fq z (Cm d1 d2) s1 s2 t).map fun t=>(d1.name,d2.name,t)
noncomputable def c2 (n z:Int) (ds:List WD) (sp:List SD) (k:Nat) (d1:WD) (s1:SD) (I:Nat):List (Str × Str × Nat):=(List.range I).flatMap fun i=>match ds[i]?,sp[i]? with | some d2,some s2=>(if i ≠ k∧mt n d1 d2=true then c3 z d1 d2 s1 s2 z.toNat else []) | _,_=>[]
noncomputable def c1 (n z:Int) (ds:List WD) (sp:List SD) (M:Nat):List (Str × Str × Nat):=(List.range M).flatMap fun k=>match ds[k]?,sp[k]? with | some d1,some s1=>c2 n z ds sp k d1 s1 ds.length | _,_=>[]
theorem bK (z:Int) (d1 d2:WD) (s1 s2:SD) (T:Nat):c3 z d1 d2 s1 s2 (T + 1)=c3 z d1 d2 s1 s2 T ++ if Fq z (Cm d1 d2) s1 s2 T=true then [(d1.name,d2.name,T)] else []:=by
 unfold c3
 rw [List.range_succ,List.filter_append,List.map_append]
 congr 1
 by_cases c:Fq z (Cm d1 d2) s1 s2 T=true
 ·rw [if_pos c,List.filter_cons,if_pos c];rfl
 ·rw [if_neg c,List.filter_cons,if_neg c];rfl
theorem TK (n z:Int) (ds:List WD) (sp:List SD) (k:Nat) (d1:WD) (s1:SD) {i:Nat} {d2:WD} {s2:SD} (h1:ds[i]? = some d2) (h2:sp[i]? = some s2):c2 n z ds sp k d1 s1 (i + 1)=c2 n z ds sp k d1 s1 i ++ if i ≠ k∧mt n d1 d2=true then c3 z d1 d2 s1 s2 z.toNat else []:=by
 unfold c2
 rw [List.range_succ,List.flatMap_append,List.flatMap_cons,List.flatMap_nil,List.append_nil,h1,h2]
theorem OC (n z:Int) (ds:List WD) (sp:List SD) {k:Nat} {d1:WD} {s1:SD} (h1:ds[k]? = some d1) (h2:sp[k]? = some s1):c1 n z ds sp (k + 1)=c1 n z ds sp k ++ c2 n z ds sp k d1 s1 ds.length:=by
 unfold c1
 rw [List.range_succ,List.flatMap_append,List.flatMap_cons,List.flatMap_nil,List.append_nil,h1,h2]
theorem MI (z:Int) (d1 d2:WD) (s1 s2:SD) (T:Nat):(c3 z d1 d2 s1 s2 T).length ≤ T:=by
 unfold c3
 rw [List.length_map]
 exact Nat.le_trans (List.length_filter_le ..) (by rw [List.length_range];exact Nat.le_refl _)
noncomputable def Ev (K:PySem.W.Frag):Sp:=fun vs H Q _=>∃ (n:Int) (wl:Addr) (ds:List WD) (rl:Addr) (sp:List SD) (z:Int),vs=[.int n,.ref wl,.ref rl,.int z]∧LW H wl ds∧LO H rl (List.map sdO sp)∧Yp n ds∧(8 ≤ z∧z ≤ 24)∧ds.length ≤ 4∧sp.length=ds.length∧NoT H ∧
 ∀ p H',Xb H H'→NoT H'→LO H' p ((c1 n z ds sp ds.length).map cO)→Q (.ref p) H'
noncomputable def Yz (K:PySem.W.Frag) (a:Addr) (ns:List Int):Sp:=fun vs H Q _=>∃ wl n ds,∃ z:Int,vs=[.ref a,.ref wl,.int z]∧Sc K a ns H∧LW H wl ds∧Yp n ds∧ds.length ≤ 4∧(8 ≤ z∧z ≤ 24) ∧
 ∀ p sp H',Xb H H'→Sc K a ns H'→LO H' p (List.map sdO sp)→cA z ds sp→Q (.ref p) H'
section
variable {P:Program} {w:World} {K:PySem.W.Frag} {mg:Str→Option Value} {base:Heap} {t:Adr}
theorem gG (T:Txt w K mg t) (a:Addr) (ns:List Int) (h63:ns.length ≤ 63):Eb P w K mg base CX0 2 t.wj t.lj ["_law_script","_law_ways_here","_law_size"] (Yz K a ns):=by
 have G__law_draw:Eb P w K mg base CX0 1 t.Gf t.Of ["_law_script","_law_k","_law_many"] (Wd K a ns):=px T a ns h63
 refine T.Tl.ok fe (fun vs H Q E h=>?_) (fun cdv A outer s H vs Q E hr h=>?_)
 ·obtain ⟨wl,n,ds,z,rfl,_⟩:=h;rfl
 obtain ⟨wl,n,ds,z,rfl,S,L,D,hdl,hz,q⟩:=h
 refine ⟨_,(cb (Ab (i:=3) fe.nd rfl (Or.inl rfl) (Df fb))
   (cb (Ab (i:=4) fe.nd rfl (Or.inl rfl) (pv 2))
   (cb (ge (Sb bi (yb G__law_draw hr rfl T.gc T.Ob.kp T.dc .nil Cb (bb (pv 0) (bb rb (bb rb fb)))) rb (uc _)) (gb (Ab (i:=4) fe.nd rfl (Or.inl rfl) rb)) Zb)
   (cb (Zd PassesOwn.never rfl (re rfl T.Pf (bb (Hc Pc rfl T.Mn Dd (bb (pv 1) fb)) fb)) (zb (i:=5) fe.nd rfl (Or.inl rfl)) (cb (Ab (i:=6) fe.nd rfl (Or.inl rfl) (Pb zf (pv 2) rb))
   (cb (ge (Sb bi (Nc zd (Nc Hd (pv 1) (pv 5) (fun _ _=>rfl)) rb (fun _ _=>rfl)) xc (uc _)) (gb (Ab (i:=6) fe.nd rfl (Or.inl rfl) (Pb zf (pv 2) (Nc zd (Nc Hd (pv 1) (pv 5) (fun _ _=>rfl)) rb (fun _ _=>rfl))))) Zb)
   (cb (Ab (i:=7) fe.nd rfl (Or.inl rfl) (Pb se rb (yb G__law_draw hr rfl T.gc T.Ob.kp T.dc .nil Cb (bb (pv 0) (bb (Pb se rb (pv 5)) (bb (Hc (KC rfl) rfl T.GO lA (bb (pv 4) (bb (pv 6) fb))) fb))))))
   (gb (lc (Cr PySem.F.plainAttrs_list PySem.F.slot_list_append PySem.F.type_list_append ah (pv 3) (bb (Hg (bb (Nc zd (Nc Hd (pv 1) (pv 5) (fun _ _=>rfl)) rb (fun _ _=>rfl)) (bb (yb G__law_draw hr rfl T.gc T.Ob.kp T.dc .nil Cb (bb (pv 0) (bb (Pb se rb (pv 5)) (bb (pv 2) fb)))) (bb (pv 7) fb)))) fb))))))))
   (gb (Fb (pv 3))))))),?_⟩
 obtain ⟨ql,l1,l2,_⟩:=id L
 simp only [Bc]
 refine Td (fun σ' H'=>∃ rl,H rl=none∧H'=upd H rl (.lst [])∧σ'=[some (.ref a),some (.ref wl),some (.int z),some (.ref rl),none,none,none,none]) (fun D hD _ _ _=>?_) ?_
 ·(walk_at "RD")
  exact ⟨Nat.zero_le _,fun rl hrl=>hD _ _ ⟨rl,hrl,rfl,rfl⟩⟩
 rintro σ1 H4 ⟨rl,hrl,rfl,rfl⟩
 have S1:=S.new (o:=.lst []) hrl
 have s1:Xb H (upd H rl (.lst [])):=jb hrl
 have w1:(upd H rl (.lst [])) rl=some (.lst []):=db
 generalize upd H rl (.lst [])=H1 at S1 s1 w1 ⊢
 simp only [Bc]
 refine Td (fun σ' H'=>H'=H1∧σ'=[some (.ref a),some (.ref wl),some (.int z),some (.ref rl),some (.int z),none,none,none]) (fun D hD _ _ _=>?_) ?_
 ·(walk_at "RD")
  exact hD _ _ ⟨rfl,rfl⟩
 rintro σ1 H2 ⟨rfl,rfl⟩
 simp only [Bc]
 refine Td (fun σ' H'=>H'=H2∧∃ mo:Int,4 ≤ mo∧σ'=[some (.ref a),some (.ref wl),some (.int z),some (.ref rl),some (.int mo),none,none,none]) (fun D hD _ _ _=>?_) ?_
 ·refine Rb (decide (Ug ns 3 2=1)) (fun Q hQ=>?_) (fun c=>?_) (fun c=>?_)
  ·(walk_at "RD"; repeat (simp only [Wd];walk_at "RD"))
   exact ⟨S1,by omega,by omega,by decide,hQ⟩
  ·(walk_at "RD")
   exact hD _ _ ⟨rfl,4,by omega,rfl⟩
  ·(walk_at "RD")
   exact hD _ _ ⟨rfl,z,by omega,rfl⟩
 rintro σ1 H3 ⟨rfl,mo,hmo,rfl⟩
 (walk_at "RD")
 refine ⟨_,.inl (SqL.of (s1 _ _ l1)),?_⟩
 rw [List.length_map,l2]
 refine ⟨by omega,by omega,?_⟩
 refine ni.range (fun i σ H'=>Sc K a ns H'∧Xb H H'∧(∃ sp,LO H' rl (List.map sdO sp)∧sp.length=i∧∀ (j:Nat) (d:WD) (s:SD),ds[j]? = some d→sp[j]? = some s→s.name=d.name∧(0 ≤ s.b∧s.b < z)∧1 ≤ s.n∧s.n + af d + yd d ≤ z)∧∃ x1 x2 x3,σ=[some (.ref a),some (.ref wl),some (.int z),some (.ref rl),some (.int mo),x1,x2,x3]) ?_ ?_ ?_
 ·exact ⟨S1,s1,⟨[],⟨[],w1,LQ.nil _⟩,rfl,fun j d s _ h=>by simp at h⟩,_,_,_,rfl⟩
 ·rintro i σ H' hi ⟨S2,s2,⟨sp,L2,hsl,al⟩,x1,x2,x3,rfl⟩
  have hid:i < ds.length:=by simpa using hi
  have hd:ds[i]? = some ds[i]:=List.getElem?_eq_getElem hid
  obtain ⟨qs,q0,e1,e2,e3,_⟩:=(L.same s2).at hd
  obtain ⟨hw,hl1,hft⟩:=D.al _ (List.getElem_mem hid)
  have hk3:=hw.k
  have hof:=hw.of
  have g1:=Dg ns (160 + (i:Int)) (m:=z) (by omega)
  have g2:=Cg ns (160 + (i:Int)) (m:=z) (by omega)
  simp only [Pm,Bc,List.set_cons_succ,List.set_cons_zero,Int.zero_add]
  refine Td (fun σ' H2=>H2=H'∧σ'=[some (.ref a),some (.ref wl),some (.int z),some (.ref rl),some (.int mo),some (.int (i:Nat)),some (.int (z - 3)),x3]) (fun D hD _ _ _=>?_) ?_
  ·(walk_at "RD")
   exact hD _ _ ⟨rfl,rfl⟩
  rintro σ2 H5 ⟨rfl,rfl⟩
  simp only [Bc]
  refine Td (fun σ' H2=>H2=H5∧∃ spc:Int,(1 ≤ spc∧spc + af ds[i] + yd ds[i] ≤ z)∧σ'=[some (.ref a),some (.ref wl),some (.int z),some (.ref rl),some (.int mo),some (.int (i:Nat)),some (.int spc),x3]) (fun D hD _ _ _=>?_) ?_
  ·refine Rb (decide (ds[i].k=1)) (fun Q hQ=>?_) (fun c=>?_) (fun c=>?_)
   ·(walk_at "RD")
    refine ⟨_,SqL.of e1,_,e2,_,rfl,_,SqT.of e3,_,WP _,rfl,?_⟩
    rw [qI hk3]
    exact hQ
   ·have c:=of_decide_eq_true c
    (walk_at "RD")
    refine ⟨_,SqL.of e1,_,e2,_,rfl,_,SqT.of e3,_,YO _,_,rfl,?_⟩
    have:=hft c
    have ef:af ds[i]=ds[i].off∧yd ds[i]=0:=by unfold af yd;rw [c];exact ⟨rfl,rfl⟩
    exact hD _ _ ⟨rfl,z - ds[i].off,⟨by omega,by omega⟩,rfl⟩
   ·have c:=of_decide_eq_false c
    (walk_at "RD")
    have ef:af ds[i] + yd ds[i]=3:=by
     unfold af yd
     generalize ds[i].k=kk at hk3 c
     match kk,hk3,c with
     | 0,_,_=>rfl
     | 1,_,c=>exact absurd rfl c
     | 2,_,_=>rfl
    exact hD _ _ ⟨rfl,z - 3,⟨by omega,by omega⟩,rfl⟩
  rintro σ2 H6 ⟨rfl,spc,hspc,rfl⟩
  have hmin:1 ≤ (if spc < mo then spc else mo)∧(if spc < mo then spc else mo) ≤ spc:=by split <;> omega
  have g3:=Dg ns (140 + (i:Int)) (m:=if spc < mo then spc else mo) (by omega)
  have g4:=Cg ns (140 + (i:Int)) (m:=if spc < mo then spc else mo) (by omega)
  simp only [Bc]
  refine Td (fun σ' H2=>H2=H6∧σ'=[some (.ref a),some (.ref wl),some (.int z),some (.ref rl),some (.int mo),some (.int (i:Nat)),some (.int spc),some (.int (1 + Ug ns (140 + (i:Int)) (if spc < mo then spc else mo)))]) (fun D hD _ _ _=>?_) ?_
  ·(walk_at "RD"; repeat (simp only [Wd];walk_at "RD"))
   exact ⟨S2,by omega,by omega,by omega,hD _ _ ⟨rfl,rfl⟩⟩
  rintro σ2 H7 ⟨rfl,rfl⟩
  generalize Ug ns (140 + (i:Int)) (if spc < mo then spc else mo)=tu at g3 g4 ⊢
  obtain ⟨os,w3,w4⟩:=L2
  have hosl:os.length=i:=by rw [w4.1,List.length_map,hsl]
  (walk_at "RD"; repeat (simp only [Wd];walk_at "RD"))
  refine ⟨.inl ⟨_,SqL.of w3⟩,_,SqL.of e1,_,e2,_,rfl,_,SqT.of e3,_,oH _,S2,by omega,by omega,by omega,by decide,fun p2 hp2=>?_⟩
  have hwp:rl ≠ p2:=ub w3 hp2
  have L':=LO.snoc (o:=sdO ⟨ds[i].name,Ug ns (160 + (i:Int)) z,1 + tu⟩) w3 w4 hp2 (fun xs z=>by cases z) (fun u hu xs z=>by
   obtain ⟨s,_,rfl⟩:=List.mem_map.mp hu
   cases z)
  refine ⟨_,by rw [lb hwp];exact w3,Nat.lt_of_le_of_lt (show (os.map V.ref).length ≤ 12 by rw [List.length_map];omega) (by decide),?_,?_,⟨sp ++ [⟨ds[i].name,Ug ns (160 + (i:Int)) z,1 + tu⟩],by rw [List.map_append];exact L',by rw [List.length_append,hsl];rfl,fun j d s hj hs=>?_⟩,by repeat (first | exact ⟨_,rfl⟩ | refine ⟨⟨_,rfl⟩,?_⟩)⟩
  ·exact (S2.new hp2).set (by rw [lb hwp];exact w3) (fun ob z e=>by cases e)
  ·exact (s2.trans (jb hp2)).updN hrl
  ·rcases Wj hs with ⟨_,z'⟩ | ⟨z1,rfl⟩
   ·have:=al j d s hj z'
    exact ⟨this.1,this.2.1.1,this.2.1.2,this.2.2⟩
   ·rw [z1,hsl,hd] at hj
    cases hj
    exact ⟨rfl,g1,g2,by show 1 ≤ 1 + tu;omega,by show 1 + tu + _ + _ ≤ z;omega⟩
 ·rintro σ H' ⟨S2,s2,⟨sp,L2,hsl,al⟩,x1,x2,x3,rfl⟩
  (walk_at "RD")
  exact q rl sp H' s2 S2 L2 ⟨by rw [hsl];simp,al⟩
theorem UL (T:Txt w K mg t):Eb P w K mg base CX0 1 t.dj t.bj ["_law_ways_here","_law_rows_here","_law_size","_law_k","_law_i","_law_turn"] VC:=by
 refine T.wm.ok Gk (fun vs H Q E h=>?_) (fun cdv A outer s H vs Q E hr h=>?_)
 ·obtain ⟨wl,ds,rl,sp,z,k,i,tn,d1,d2,s1,s2,rfl,_⟩:=h;rfl
 obtain ⟨wl,ds,rl,sp,z,k,i,tn,d1,d2,s1,s2,rfl,L,L2,hz,k1,k2,k3,k4,hof,q⟩:=h
 refine ⟨_,(cb (Ab (i:=6) Gk.nd rfl (Or.inl rfl) (Hc (ow rfl) rfl T.FN Ot (bb rb (bb (Pb zf (Nc zd (Nc Hd (pv 0) (pv 3) (fun _ _=>rfl)) rb (fun _ _=>rfl)) (Nc zd (Nc Hd (pv 0) (pv 4) (fun _ _=>rfl)) rb (fun _ _=>rfl))) fb))))
   (cb (ge (Sb iQ (Pb Af (Pb zf (pv 5) (Nc zd (Nc Hd (pv 1) (pv 4) (fun _ _=>rfl)) rb (fun _ _=>rfl))) (pv 2)) (Nc zd (Nc Hd (pv 1) (pv 4) (fun _ _=>rfl)) rb (fun _ _=>rfl)) (uc _)) (gb (Fb En)) Zb)
   (cb (Zd PassesOwn.never rfl (re rfl T.Pf (bb (Pb se (pv 6) rb) fb)) (zb (i:=7) Gk.nd rfl (Or.inl rfl)) (gb (ge (Sb xv (Pb Af (Pb zf (Pb zf (pv 5) (pv 7)) (Nc zd (Nc Hd (pv 1) (pv 3) (fun _ _=>rfl)) rb (fun _ _=>rfl))) (pv 2)) (Nc zd (Nc Hd (pv 1) (pv 3) (fun _ _=>rfl)) rb (fun _ _=>rfl)) (uc _)) (gb (Fb En)) Zb)))
   (gb (Fb En))))),?_⟩
 obtain ⟨qa,a0,a1,a2,a3,_⟩:=L.at k1
 obtain ⟨qb,b0,b1,b2,b3,_⟩:=L.at k2
 obtain ⟨qc,c0,c1,c2,c3,_⟩:=L2.at k3
 obtain ⟨qd,d0,e1,e2,e3,_⟩:=L2.at k4
 have hg:0 ≤ Cm d1 d2∧Cm d1 d2 ≤ 1000:=by unfold Cm;split <;> omega
 simp only [Bc]
 refine Td (fun σ' H'=>H'=H∧σ'=[some (.ref wl),some (.ref rl),some (.int z),some (.int (k:Nat)),some (.int (i:Nat)),some (.int tn),some (.int (Cm d1 d2)),none]) (fun D hD _ _ _=>?_) ?_
 ·(walk_at "RD")
  refine ⟨_,SqL.of a1,_,a2,_,rfl,_,SqT.of a3,_,YO _,_,SqL.of b1,_,b2,_,rfl,_,SqT.of b3,_,VP _,_,rfl,_,rfl,?_⟩
  exact hD _ _ ⟨rfl,rfl⟩
 rintro σ1 H1 ⟨rfl,rfl⟩
 simp only [Bc]
 refine Rb (decide (s2.n ≤ (tn - s2.b) % z)) (fun Q hQ=>?_) (fun c=>?_) (fun c=>?_)
 ·(walk_at "RD")
  refine ⟨_,SqL.of e1,_,e2,_,rfl,_,SqT.of e3,_,aQ _,_,rfl,hz,_,SqL.of e1,_,e2,_,rfl,_,SqT.of e3,_,gQ _,_,rfl,hQ⟩
 ·have c:=of_decide_eq_true c
  (walk_at "RD")
  unfold Fq at q
  rw [decide_eq_false (by omega),Bool.false_and] at q
  exact q
 have c:=of_decide_eq_false c
 unfold Fq at q
 rw [decide_eq_true (by omega),Bool.true_and] at q
 (walk_at "RD")
 refine ⟨by omega,by omega,?_⟩
 rw [show (Cm d1 d2 + 1).toNat=(Cm d1 d2).toNat + 1 by omega]
 refine ni.range (fun j σ H'=>H'=H1∧(∃ x,σ=[some (.ref wl),some (.ref rl),some (.int z),some (.int (k:Nat)),some (.int (i:Nat)),some (.int tn),some (.int (Cm d1 d2)),x])∧∀ b,b < j→¬ (tn - ((b:Nat):Int) - s1.b) % z < s1.n) ?_ ?_ ?_
 ·exact ⟨rfl,⟨_,rfl⟩,fun b hb=>absurd hb (by omega)⟩
 ·rintro j σ H' hj ⟨rfl,⟨x,rfl⟩,al⟩
  (walk_at "RD")
  refine Rb (decide ((tn - ((j:Nat):Int) - s1.b) % z < s1.n)) (fun Q hQ=>?_) (fun c1'=>?_) (fun c1'=>?_)
  ·(walk_at "RD")
   refine ⟨_,SqL.of c1,_,c2,_,rfl,_,SqT.of c3,_,aQ _,_,rfl,hz,_,SqL.of c1,_,c2,_,rfl,_,SqT.of c3,_,gQ _,_,rfl,hQ⟩
  ·(walk_at "RD")
   rw [List.any_eq_true.mpr ⟨j,List.mem_range.mpr hj,c1'⟩] at q
   exact q
  ·have c1':=of_decide_eq_false c1'
   exact ⟨rfl,⟨_,rfl⟩,fun b hb=>by
    by_cases e:b=j
    ·subst e;exact c1'
    ·exact al b (by omega)⟩
 ·rintro σ H' ⟨rfl,⟨x,rfl⟩,al⟩
  (walk_at "RD")
  rw [List.any_eq_false.mpr (fun b hb=>by simpa using al b (List.mem_range.mp hb))] at q
  exact q
theorem oF (T:Txt w K mg t):Eb P w K mg base CX0 2 t.Zf t.Wf ["_law_places","_law_ways_here","_law_rows_here","_law_size"] (Ev K):=by
 have G__law_meet:Eb P w K mg base CX0 1 t.Oi t.fj ["_law_places","_law_one","_law_other"] (bz K):=fH T
 have G__law_near:Eb P w K mg base CX0 1 t.dj t.bj ["_law_ways_here","_law_rows_here","_law_size","_law_k","_law_i","_law_turn"] VC:=UL T
 refine T.Zh.ok He (fun vs H Q E h=>?_) (fun cdv A outer s H vs Q E hr h=>?_)
 ·obtain ⟨n,wl,ds,rl,sp,z,rfl,_⟩:=h;rfl
 obtain ⟨n,wl,ds,rl,sp,z,rfl,L,L2,D,hz,hdl,hsl,nt,q⟩:=h
 refine ⟨_,(cb (Ab (i:=4) He.nd rfl (Or.inl rfl) (Df fb))
   (cb (Zd PassesOwn.never rfl (re rfl T.Pf (bb (Hc Pc rfl T.Mn Dd (bb (pv 1) fb)) fb)) (zb (i:=5) He.nd rfl (Or.inl rfl)) (gb (Zd PassesOwn.never rfl (re rfl T.Pf (bb (Hc Pc rfl T.Mn Dd (bb (pv 1) fb)) fb)) (zb (i:=6) He.nd rfl (Or.inl rfl)) (gb (ge (PW.pt (Ym (Sb DA (pv 6) (pv 5) (uc _)) (ak (Ef (yb G__law_meet hr rfl T.Yx T.vm.kp T.uy .nil Cb (bb (pv 0) (bb (Nc Hd (pv 1) (pv 5) (fun _ _=>rfl)) (bb (Nc Hd (pv 1) (pv 6) (fun _ _=>rfl)) fb)))))))) (gb (Zd PassesOwn.never rfl (re rfl T.Pf (bb (pv 3) fb)) (zb (i:=7) He.nd rfl (Or.inl rfl)) (gb (ge (Ef (yb G__law_near hr rfl T.yy T.wm.kp T.ax .nil Cb (bb (pv 1) (bb (pv 2) (bb (pv 3) (bb (pv 5) (bb (pv 6) (bb (pv 7) fb)))))))) (gb (lc (Cr PySem.F.plainAttrs_list PySem.F.slot_list_append PySem.F.type_list_append ah (pv 4) (bb (Hg (bb (Nc zd (Nc Hd (pv 1) (pv 5) (fun _ _=>rfl)) rb (fun _ _=>rfl)) (bb (Nc zd (Nc Hd (pv 1) (pv 6) (fun _ _=>rfl)) rb (fun _ _=>rfl)) (bb (pv 7) fb)))) fb)))) Zb)))) Zb)))))
   (gb (Fb (pv 4))))),?_⟩
 obtain ⟨ql,l1,l2,_⟩:=id L
 (walk_at "RD")
 refine ⟨Nat.zero_le _,fun fl hfl=>?_⟩
 have s1:Xb H (upd H fl (.lst [])):=jb hfl
 have n1:NoT (upd H fl (.lst [])):=nt.upd
 have w1:(upd H fl (.lst [])) fl=some (.lst []):=db
 generalize upd H fl (.lst [])=H1 at s1 n1 w1 ⊢
 refine ⟨_,.inl (SqL.of (s1 _ _ l1)),?_⟩
 rw [List.length_map,l2]
 refine ⟨by omega,by omega,?_⟩
 have tk:∀ (l:List (Str × Str × Nat)),∀ u ∈ l.map cO,∀ xs,u ≠ HO.lst xs:=fun l u hu xs e=>by
  obtain ⟨c,_,rfl⟩:=List.mem_map.mp hu
  cases e
 refine ni.range (fun k σ H'=>NoT H'∧Xb H H'∧LO H' fl ((c1 n z ds sp k).map cO)∧(c1 n z ds sp k).length ≤ 1000 * k∧∃ x1 x2 x3,σ=[some (.int n),some (.ref wl),some (.ref rl),some (.int z),some (.ref fl),x1,x2,x3]) ?_ ?_ ?_
 ·exact ⟨n1,s1,⟨[],w1,LQ.nil _⟩,Nat.le_refl _,_,_,_,rfl⟩
 ·rintro k σ H' hk ⟨n2,s2,F2,hb2,x1,x2,x3,rfl⟩
  have hkd:k < ds.length:=by simpa using hk
  have hd1:ds[k]? = some ds[k]:=List.getElem?_eq_getElem hkd
  have hs1:sp[k]? = some sp[k]:=List.getElem?_eq_getElem (by omega)
  (walk_at "RD")
  refine ⟨_,.inl (SqL.of (s2 _ _ l1)),?_⟩
  rw [List.length_map,l2]
  refine ⟨by omega,by omega,?_⟩
  refine ni.range (fun i σ H'=>NoT H'∧Xb H H'∧LO H' fl ((c1 n z ds sp k ++ c2 n z ds sp k ds[k] sp[k] i).map cO)∧(c2 n z ds sp k ds[k] sp[k] i).length ≤ 100 * i∧∃ x2 x3,σ=[some (.int n),some (.ref wl),some (.ref rl),some (.int z),some (.ref fl),some (.int (k:Nat)),x2,x3]) ?_ ?_ ?_
  ·exact ⟨n2,s2,by rw [show c2 n z ds sp k ds[k] sp[k] 0=[] from rfl,List.append_nil];exact F2,Nat.le_refl _,_,_,rfl⟩
  ·rintro i σ H3 hi ⟨n3,s3,F3,hb3,x2,x3,rfl⟩
   have hid:i < ds.length:=by simpa using hi
   have hd2:ds[i]? = some ds[i]:=List.getElem?_eq_getElem hid
   have hs2:sp[i]? = some sp[i]:=List.getElem?_eq_getElem (by omega)
   obtain ⟨qa,a0,a1,a2,a3,_⟩:=(L.same s3).at hd1
   obtain ⟨qb,b0,b1,b2,b3,_⟩:=(L.same s3).at hd2
   have hw1:=(D.al _ (List.getElem_mem hkd)).1
   have hw2:=(D.al _ (List.getElem_mem hid)).1
   have e2:=TK n z ds sp k ds[k] sp[k] hd2 hs2
   (walk_at "RD")
   refine Rb (decide (i ≠ k) && mt n ds[k] ds[i]) (fun Q hQ=>?_) (fun c=>?_) (fun c=>?_)
   ·(walk_at "RD")
    rw [show (!decide (((i:Nat):Int)=((k:Nat):Int)))=decide (i ≠ k) by rw [Bool.eq_iff_iff,Bool.not_eq_true',decide_eq_false_iff_not,decide_eq_true_eq];omega]
    cases hc:decide (i ≠ k) with
    | false=>rw [hc] at hQ;exact hQ
    | true=>
     rw [hc] at hQ
     exact ⟨_,SqL.of a1,_,a2,_,SqL.of b1,_,b2,n,a0,b0,ds[k],ds[i],rfl,SqT.of a3,SqT.of b3,hw1,hw2,n3,_,rfl,hQ⟩
   ·rw [Bool.and_eq_true,decide_eq_true_eq] at c
    rw [if_pos c] at e2
    (walk_at "RD")
    refine ⟨by omega,by omega,?_⟩
    refine ni.range (fun tt σ H'=>NoT H'∧Xb H H'∧LO H' fl ((c1 n z ds sp k ++ c2 n z ds sp k ds[k] sp[k] i ++ c3 z ds[k] ds[i] sp[k] sp[i] tt).map cO)∧∃ x3,σ=[some (.int n),some (.ref wl),some (.ref rl),some (.int z),some (.ref fl),some (.int (k:Nat)),some (.int (i:Nat)),x3]) ?_ ?_ ?_
    ·exact ⟨n3,s3,by rw [show c3 z ds[k] ds[i] sp[k] sp[i] 0=[] from rfl,List.append_nil];exact F3,_,rfl⟩
    ·rintro tt σ H4 htt ⟨n4,s4,F4,x3,rfl⟩
     obtain ⟨qa,a0,a1,a2,a3,_⟩:=(L.same s4).at hd1
     obtain ⟨qb,b0,b1,b2,b3,_⟩:=(L.same s4).at hd2
     have h3:=bK z ds[k] ds[i] sp[k] sp[i] tt
     have hl3:=MI z ds[k] ds[i] sp[k] sp[i] tt
     have hof:=hw1.of
     have hnr:=hw2.nr
     obtain ⟨os,w3,w4⟩:=F4
     (walk_at "RD")
     refine Rb (Fq z (Cm ds[k] ds[i]) sp[k] sp[i] tt) (fun Q hQ=>?_) (fun c5=>?_) (fun c5=>?_)
     ·(walk_at "RD")
      exact ⟨wl,ds,rl,sp,z,k,i,tt,ds[k],ds[i],sp[k],sp[i],rfl,L.same s4,L2.same s4,by omega,hd1,hd2,hs1,hs2,⟨by omega,hnr.1⟩,_,rfl,hQ⟩
     ·rw [if_pos c5] at h3
      (walk_at "RD")
      refine ⟨.inl ⟨_,SqL.of w3⟩,_,SqL.of a1,_,a2,_,rfl,_,SqT.of a3,_,oH _,_,SqL.of b1,_,b2,_,rfl,_,SqT.of b3,_,oH _,by decide,fun p2 hp2=>?_⟩
      have hwp:fl ≠ p2:=ub w3 hp2
      have L':=LO.snoc (o:=cO (ds[k].name,ds[i].name,tt)) w3 w4 hp2 (fun xs z=>by cases z) (tk _)
      refine ⟨_,by rw [lb hwp];exact w3,Nat.lt_of_le_of_lt (show (os.map V.ref).length ≤ 10000 by rw [List.length_map,w4.1,List.length_map,List.length_append,List.length_append];omega) (by decide),(n4.upd).upd,(s4.trans (jb hp2)).updN hfl,?_,by first | exact ⟨_,rfl⟩ | simp⟩
      rw [h3,← List.append_assoc,List.map_append]
      exact L'
     ·rw [if_neg (by rw [c5];decide),List.append_nil] at h3
      exact ⟨n4,s4,by rw [h3];exact ⟨os,w3,w4⟩,_,rfl⟩
    ·rintro σ H4 ⟨n4,s4,F4,x3,rfl⟩
     have hl3:=MI z ds[k] ds[i] sp[k] sp[i] z.toNat
     refine ⟨n4,s4,?_,?_,_,_,rfl⟩
     ·rw [e2,← List.append_assoc];exact F4
     ·rw [e2,List.length_append];omega
   ·rw [if_neg (fun e=>by rw [decide_eq_true e.1,e.2] at c;cases c),List.append_nil] at e2
    refine ⟨n3,s3,by rw [e2];exact F3,by rw [e2];omega,_,_,rfl⟩
  ·rintro σ H3 ⟨n3,s3,F3,hb3,x2,x3,rfl⟩
   rw [show (((ds.length:Nat):Int)).toNat=ds.length by simp] at F3 hb3
   refine ⟨n3,s3,?_,?_,_,_,_,rfl⟩
   ·rw [OC n z ds sp hd1 hs1];exact F3
   ·rw [OC n z ds sp hd1 hs1,List.length_append];omega
 ·rintro σ H' ⟨n2,s2,F2,hb2,x1,x2,x3,rfl⟩
  (walk_at "RD")
  rw [show (((ds.length:Nat):Int)).toNat=ds.length by simp] at F2
  exact q fl H' s2 n2 F2
end
end My
namespace My
open PySem L2
theorem Pt {α:Type} (p:α→Bool):∀ (l:List α) (i:Nat) (s:α),l[i]? = some s→p s=true→(∀ (j:Nat) (e:α),l[j]? = some e→p e=true→j=i)→l.filter p=[s]
 | [],i,s,h,_,_=>by simp at h
 | a :: l,0,s,h,hp,al=>by
  cases (show a=s by simpa using h)
  rw [List.filter_cons_of_pos hp,List.filter_eq_nil_iff.mpr]
  intro e he hpe
  obtain ⟨j,hj⟩:=List.getElem?_of_mem he
  have:=al (j + 1) e (by rw [List.getElem?_cons_succ];exact hj) hpe
  omega
 | a :: l,i + 1,s,h,hp,al=>by
  rw [List.getElem?_cons_succ] at h
  have ha:¬ p a=true:=fun z=>by
   have:=al 0 a rfl z
   omega
  rw [List.filter_cons_of_neg ha]
  refine Pt p l i s h hp fun j e hj he=>?_
  have:=al (j + 1) e (by rw [List.getElem?_cons_succ];exact hj) he
  omega
theorem gP {n z:Int} {ds:List WD} {sp:List SD} (D:Yp n ds) (S:cA z ds sp) {i:Nat} {d:WD} {s:SD} (hd:ds[i]? = some d) (hs:sp[i]? = some s):ofN d.name sp=[(s.b,s.n)]:=by
 unfold ofN
 rw [Pt _ sp i s hs (by simpa using (S.al i d s hd hs).1) fun j e hj he=>?_]
 ·rfl
 have hjl:j < ds.length:=by rw [← S.ln];exact (List.getElem?_eq_some_iff.mp hj).1
 have hdj:ds[j]? = some ds[j]:=List.getElem?_eq_getElem hjl
 have e1:=(S.al j _ e hdj hj).1
 have e2:e.name=d.name:=by simpa using he
 exact Qy D.nd hdj hd (e1.symm.trans e2)
theorem Nz {n:Int} {z:Nat} (hz:0 < z) {ds:List WD} {sp:List SD} (D:Yp n ds) (S:cA z ds sp) {k i:Nat} {d1 d2:WD} {s1 s2:SD} (k1:ds[k]? = some d1) (k2:ds[i]? = some d2) (k3:sp[k]? = some s1) (k4:sp[i]? = some s2) {g:Int} (hg:0 ≤ g) {t:Nat} (ht:t < z) :
  ∃ v1 v2,(xg z sp d1.name)[t]? = some v1∧(xg z sp d2.name)[t]? = some v2∧((v2=0∧v1 ≤ g)↔Fq z g s1 s2 t=true):=by
 have a1:=S.al k d1 s1 k1 k3
 have a2:=S.al i d2 s2 k2 k4
 have r1:=Rm d1;have r2:=Rm d2
 have hm1:d1 ∈ ds:=List.mem_of_getElem? k1
 have hm2:d2 ∈ ds:=List.mem_of_getElem? k2
 have o1:=(D.al d1 hm1).1.of;have o2:=(D.al d2 hm2).1.of
 have f1:=Rp (d:=d1) (by omega);have f2:=Rp (d:=d2) (by omega)
 obtain ⟨v1,e1,_,q1⟩:=Pw (z:=z) hz (b:=s1.b) (n:=s1.n) ⟨a1.2.2.1,by omega⟩ ht
 obtain ⟨v2,e2,p2,q2⟩:=Pw (z:=z) hz (b:=s2.b) (n:=s2.n) ⟨a2.2.2.1,by omega⟩ ht
 refine ⟨v1,v2,by unfold xg;rw [gP D S k1 k3];exact e1,by unfold xg;rw [gP D S k2 k4];exact e2,?_⟩
 unfold Fq
 rw [Bool.and_eq_true,decide_eq_true_eq,List.any_eq_true]
 constructor
 ·rintro ⟨h2,h1⟩
  obtain ⟨j,hj,hb⟩:=(q2 0 (by omega)).mp (by omega)
  have:j=0:=by omega
  subst this
  obtain ⟨j',hj',hb'⟩:=(q1 g hg).mp h1
  exact ⟨by simpa using hb,j',List.mem_range.mpr (by omega),decide_eq_true hb'⟩
 ·rintro ⟨h2,j,hj,hb⟩
  have hj:=List.mem_range.mp hj
  refine ⟨?_,(q1 g hg).mpr ⟨j,by omega,of_decide_eq_true hb⟩⟩
  have:=(q2 0 (by omega)).mpr ⟨0,by omega,by simpa using h2⟩
  omega
theorem Ly {g:Int} {m1 m2:List Int} {e:(Int × Int) × Nat} (h:Ei g m1 m2=some e):m1[e.2]? = some e.1.1∧m2[e.2]? = some e.1.2∧e.1.2=0∧e.1.1 ≤ g:=by
 unfold Ei at h
 have h1:=List.find?_some h
 have h2:=List.mem_of_find?_eq_some h
 rw [Bool.and_eq_true,decide_eq_true_eq,decide_eq_true_eq] at h1
 have h3:=List.mem_zipIdx_iff_getElem?.mp h2
 rw [List.getElem?_zip_eq_some] at h3
 exact ⟨h3.1,h3.2,h1.1,h1.2⟩
theorem mx {g:Int} {m1 m2:List Int} (h:Ei g m1 m2=none) {t:Nat} {x1 x2:Int} (h1:m1[t]? = some x1) (h2:m2[t]? = some x2):¬ (x2=0∧x1 ≤ g):=fun z=>by
 unfold Ei at h
 have:=List.find?_eq_none.mp h ((x1,x2),t) (List.mem_zipIdx_iff_getElem?.mpr (List.getElem?_zip_eq_some.mpr ⟨h1,h2⟩))
 rw [Bool.and_eq_true,decide_eq_true_eq,decide_eq_true_eq] at this
 exact this z
theorem MM {n:Int} {z:Nat} {ds:List WD} {sp:List SD} {k i t:Nat} {d1 d2:WD} {s1 s2:SD} (k1:ds[k]? = some d1) (k2:ds[i]? = some d2) (k3:sp[k]? = some s1) (k4:sp[i]? = some s2) (hik:i ≠ k) (hm:mt n d1 d2=true) (ht:t < z) (hn:Fq z (Cm d1 d2) s1 s2 t=true):(d1.name,d2.name,t) ∈ c1 n z ds sp ds.length:=by
 unfold c1
 refine List.mem_flatMap.mpr ⟨k,List.mem_range.mpr (List.getElem?_eq_some_iff.mp k1).1,?_⟩
 rw [k1,k3]
 show _ ∈ c2 n z ds sp k d1 s1 ds.length
 unfold c2
 refine List.mem_flatMap.mpr ⟨i,List.mem_range.mpr (List.getElem?_eq_some_iff.mp k2).1,?_⟩
 rw [k2,k4]
 show _ ∈ (if i ≠ k∧mt n d1 d2=true then c3 z d1 d2 s1 s2 (z:Int).toNat else [])
 rw [if_pos ⟨hik,hm⟩,Int.toNat_natCast]
 unfold c3
 exact List.mem_map.mpr ⟨t,List.mem_filter.mpr ⟨List.mem_range.mpr ht,hn⟩,rfl⟩
theorem mO {n:Int} {z:Nat} {ds:List WD} {sp:List SD} (h:∀ (k i t:Nat) (d1 d2:WD) (s1 s2:SD),ds[k]? = some d1→ds[i]? = some d2→sp[k]? = some s1→sp[i]? = some s2→i ≠ k→mt n d1 d2=true→t < z→¬ Fq z (Cm d1 d2) s1 s2 t=true):c1 n z ds sp ds.length=[]:=by
 unfold c1
 rw [List.flatMap_eq_nil_iff]
 intro k _
 cases k1:ds[k]? with
 | none=>rfl
 | some d1=>
  cases k3:sp[k]? with
  | none=>rfl
  | some s1=>
   show c2 n z ds sp k d1 s1 ds.length=[]
   unfold c2
   rw [List.flatMap_eq_nil_iff]
   intro i _
   cases k2:ds[i]? with
   | none=>rfl
   | some d2=>
    cases k4:sp[i]? with
    | none=>rfl
    | some s2=>
     show (if i ≠ k∧mt n d1 d2=true then c3 z d1 d2 s1 s2 (z:Int).toNat else [])=[]
     split
     ·rename_i hc
      unfold c3
      rw [List.filter_eq_nil_iff.mpr]
      ·rfl
      intro t ht
      rw [Int.toNat_natCast] at ht
      exact h k i t d1 d2 s1 s2 k1 k2 k3 k4 hc.1 hc.2 (List.mem_range.mp ht)
     ·rfl
theorem KD (d1 d2:WD):0 ≤ Cm d1 d2:=by unfold Cm;split <;> omega
theorem uB {n:Int} {z:Nat} (hz:0 < z) {ds:List WD} {sp:List SD} (D:Yp n ds) (S:cA z ds sp) {e:WD × WD × Nat} (h:oi n z sp ds=some e):(e.1.name,e.2.1.name,e.2.2) ∈ c1 n z ds sp ds.length:=by
 unfold oi at h
 obtain ⟨d1,h1,h⟩:=List.exists_of_findSome?_eq_some h
 unfold vq at h
 obtain ⟨d2,h2,h⟩:=List.exists_of_findSome?_eq_some h
 cases hc:Dn n z sp d1 d2 with
 | none=>rw [hc] at h;cases h
 | some t=>
  rw [hc] at h
  cases h
  unfold Dn at hc
  split at hc
  ·rename_i hcond
   cases hM:Ei (Cm d1 d2) (xg z sp d1.name) (xg z sp d2.name) with
   | none=>rw [hM] at hc;cases hc
   | some e=>
    rw [hM] at hc
    have ht:e.2=t:=Option.some.inj hc
    obtain ⟨g1,g2,g3,g4⟩:=Ly hM
    obtain ⟨k,hk⟩:=List.getElem?_of_mem h1
    obtain ⟨i,hi⟩:=List.getElem?_of_mem h2
    have hkl:k < sp.length:=by rw [S.ln];exact (List.getElem?_eq_some_iff.mp hk).1
    have hil:i < sp.length:=by rw [S.ln];exact (List.getElem?_eq_some_iff.mp hi).1
    have ks:sp[k]? = some sp[k]:=List.getElem?_eq_getElem hkl
    have is:sp[i]? = some sp[i]:=List.getElem?_eq_getElem hil
    have hlt:e.2 < z:=by
     have:=(List.getElem?_eq_some_iff.mp g1).1
     rwa [Uk] at this
    obtain ⟨v1,v2,w1,w2,w3⟩:=Nz hz D S hk hi ks is (KD d1 d2) hlt
    rw [g1] at w1
    rw [g2] at w2
    cases w1
    cases w2
    rw [← ht]
    exact MM hk hi ks is (fun z=>hcond.1 (by subst z;rw [hk] at hi;cases hi;rfl)) hcond.2 hlt (w3.mp ⟨g3,g4⟩)
  ·cases hc
theorem bB {n:Int} {z:Nat} (hz:0 < z) {ds:List WD} {sp:List SD} (D:Yp n ds) (S:cA z ds sp) (h:oi n z sp ds=none):c1 n z ds sp ds.length=[]:=by
 refine mO fun k i t d1 d2 s1 s2 k1 k2 k3 k4 hik hm ht hn=>?_
 unfold oi at h
 have h1:=List.findSome?_eq_none_iff.mp h d1 (List.mem_of_getElem? k1)
 unfold vq at h1
 have h2:=List.findSome?_eq_none_iff.mp h1 d2 (List.mem_of_getElem? k2)
 have hne:d1.name ≠ d2.name:=fun z=>hik (Qy D.nd k1 k2 z).symm
 unfold Dn at h2
 rw [if_pos ⟨hne,hm⟩] at h2
 cases hM:Ei (Cm d1 d2) (xg z sp d1.name) (xg z sp d2.name) with
 | some e=>rw [hM] at h2;cases h2
 | none=>
  obtain ⟨v1,v2,w1,w2,w3⟩:=Nz hz D S k1 k2 k3 k4 (KD d1 d2) ht
  exact mx hM w1 w2 (w3.mpr hn)
theorem ZJ {n z:Int} {ds:List WD} {sp:List SD} (D:Yp n ds) (S:cA z ds sp) {d:WD} (hd:d ∈ ds):(ofN d.name sp).isEmpty=false:=by
 obtain ⟨i,hi⟩:=List.getElem?_of_mem hd
 rw [gP D S hi (List.getElem?_eq_getElem (show i < sp.length by rw [S.ln];exact (List.getElem?_eq_some_iff.mp hi).1))];rfl
theorem pK {n z:Int} {ds:List WD} {sp:List SD} (D:Yp n ds) (S:cA z ds sp):Gg ds sp=none:=by
 unfold Gg
 rw [List.find?_eq_none]
 intro x hx
 obtain ⟨d,hd,rfl⟩:=List.mem_map.mp hx
 rw [ZJ D S hd];decide
theorem BN {n:Int} {ds:List WD} (D:Yp n ds) {i:Nat} {d:WD} (hd:ds[i]? = some d):wOf ds d.name=some d:=by
 unfold wOf
 rw [List.find?_eq_some_iff_getElem]
 obtain ⟨hi,e⟩:=List.getElem?_eq_some_iff.mp hd
 refine ⟨by simp,i,hi,e,fun j hj=>?_⟩
 rw [Bool.not_eq_true',decide_eq_false_iff_not]
 intro z
 have:=Qy D.nd (List.getElem?_eq_getElem (show j < ds.length by omega)) hd z
 omega
theorem QK {n:Int} {z:Int} {ds:List WD} {sp:List SD} (D:Yp n ds) (S:cA z ds sp):Dj ds z sp=none:=by
 unfold Dj
 rw [List.find?_eq_none]
 rintro ⟨s,k⟩ hk
 have hk:sp[k]? = some s:=List.mem_zipIdx_iff_getElem?.mp hk
 have hkl:k < ds.length:=by rw [← S.ln];exact (List.getElem?_eq_some_iff.mp hk).1
 have hd:ds[k]? = some ds[k]:=List.getElem?_eq_getElem hkl
 have a:=S.al k _ s hd hk
 have hl1:=(D.al _ (List.getElem_mem hkl)).2.1
 have hnx:Ey z sp k s=z:=by
  unfold Ey
  have:ofN s.name (sp.eraseIdx k)=[]:=by
   unfold ofN
   rw [List.filter_eq_nil_iff.mpr]
   ·rfl
   intro e he hpe
   obtain ⟨j,hjk,hj⟩:=List.mem_eraseIdx_iff_getElem?.mp he
   have hjl:j < ds.length:=by rw [← S.ln];exact (List.getElem?_eq_some_iff.mp hj).1
   have hdj:ds[j]? = some ds[j]:=List.getElem?_eq_getElem hjl
   have e1:=(S.al j _ e hdj hj).1
   have e2:e.name=s.name:=by simpa using hpe
   exact hjk (Qy D.nd hdj hd (e1.symm.trans (e2.trans a.1)))
  rw [this];rfl
 show ¬ Xp ds z sp k s=true
 unfold Xp
 rw [a.1,BN D hd]
 show ¬ (decide (s.n < ds[k].least) || decide (Ey z sp k s < s.n + af ds[k] + yd ds[k]))=true
 rw [hnx,decide_eq_false (by omega),decide_eq_false (by omega)]
 decide
theorem cu {n z:Int} {ds:List WD} {sp:List SD} (D:Yp n ds) (S:cA z ds sp) {d:WD} (hl:ds[ds.length - 1]? = some d):Gg ds (sp.take (ds.length - 1))=some d.name:=by
 have key:∀ (i:Nat) (e:WD),ds[i]? = some e→(ofN e.name (sp.take (ds.length - 1))).isEmpty=decide (i=ds.length - 1):=fun i e he=>by
  have hil:=(List.getElem?_eq_some_iff.mp he).1
  have hisp:i < sp.length:=by rw [S.ln];exact hil
  have hs:sp[i]? = some sp[i]:=List.getElem?_eq_getElem hisp
  have h1:=gP D S he hs
  have h0:ofN e.name (sp.take (ds.length - 1) ++ sp.drop (ds.length - 1))=ofN e.name (sp.take (ds.length - 1)) ++ ofN e.name (sp.drop (ds.length - 1)):=by
   unfold ofN;rw [List.filter_append,List.map_append]
  rw [List.take_append_drop,h1] at h0
  have hofa:=h0.symm
  by_cases c:i=ds.length - 1
  ·rw [decide_eq_true c]
   have:(sp[i].b,sp[i].n) ∈ ofN e.name (sp.drop (ds.length - 1)):=by
    unfold ofN
    refine List.mem_map.mpr ⟨sp[i],List.mem_filter.mpr ⟨?_,by simpa using (S.al i e _ he hs).1⟩,rfl⟩
    refine List.mem_of_getElem? (i:=0) ?_
    rw [List.getElem?_drop,Nat.add_zero,← c]
    exact hs
   cases h:ofN e.name (sp.take (ds.length - 1)) with
   | nil=>rfl
   | cons x y=>
    rw [h] at hofa
    have hlen:=congrArg List.length hofa
    cases h2:ofN e.name (sp.drop (ds.length - 1)) with
    | nil=>rw [h2] at this;cases this
    | cons u v=>rw [h2] at hlen;simp at hlen
  ·rw [decide_eq_false c]
   have:(sp[i].b,sp[i].n) ∈ ofN e.name (sp.take (ds.length - 1)):=by
    unfold ofN
    refine List.mem_map.mpr ⟨sp[i],List.mem_filter.mpr ⟨?_,by simpa using (S.al i e _ he hs).1⟩,rfl⟩
    refine List.mem_of_getElem? (i:=i) ?_
    rw [List.getElem?_take_of_lt (by omega)]
    exact hs
   cases h:ofN e.name (sp.take (ds.length - 1)) with
   | nil=>rw [h] at this;cases this
   | cons x y=>rfl
 unfold Gg
 rw [List.find?_eq_some_iff_getElem]
 obtain ⟨hi,e⟩:=List.getElem?_eq_some_iff.mp hl
 refine ⟨by rw [key _ d hl];simp,ds.length - 1,by rw [List.length_map];exact hi,by rw [List.getElem_map,e],fun j hj=>?_⟩
 rw [List.getElem_map,key j _ (List.getElem?_eq_getElem (by omega)),decide_eq_false (by omega)]
 rfl
end My
namespace My
open PySem L2
noncomputable def dP (t:Adr):List Addr:=[t.ac,t.fc,t.Gb,t.ym,t.uh,t.Yl,t.ij]
noncomputable def Uz (t:Adr) (K:PySem.W.Frag):Sp:=fun vs H Q _=>∃ (x C dx:Addr) (fs:List (Str × V)) (b:Bool),vs=[.ref x]∧H x=some (.ext (XA x C (some dx)))∧H dx=some (.ext (XD dx fs))∧iI K C∧PySem.W.kitAny K (.ref C) ((dP t).map Value.ref)=some b∧∀ H',Xb H H'→(NoT H→NoT H')→Q (.bl b) H'
section
variable {P:Program} {w:World} {K:PySem.W.Frag} {mg:Str→Option Value} {base:Heap} {t:Adr}
theorem Mw (T:Txt w K mg t):PySem.W.kitAny K (.ref t.Jb) ((dP t).map Value.ref)=some false:=by
 unfold dP
 simp only [List.map_cons,List.map_nil,PySem.W.kitAny,T.Yh,T.Ds,T.kq,T.Ks,T.ap,T.js,T.Tq]
theorem QH (T:Txt w K mg t):Fu P w K mg base CX0 1 t.qf t.wf ["_law_e"] (Uz t K):=by
 refine T.eh.okH bp (fun vs H Q E h=>?_) (fun cdv A outer s H vs Q E hr h=>?_)
 ·obtain ⟨x,C,dx,fs,b,rfl,_⟩:=h;rfl
 obtain ⟨x,C,dx,fs,b,rfl,hx,hd,ic,hk,q⟩:=h
 refine ⟨_,(gb (Fb (Hc MB rfl T.Ge Wc (bb (pv 0) (bb (Hg (bb (Id (v:=.ref t.ac) rfl T.gy rfl) (bb (Id (v:=.ref t.fc) rfl T.XC rfl) (bb (Id (v:=.ref t.Gb) rfl T.Ez rfl) (bb (Id (v:=.ref t.ym) rfl T.JK rfl) (bb (Id (v:=.ref t.uh) rfl T.dF rfl) (bb (Id (v:=.ref t.Yl) rfl T.BL rfl) (bb (Id (v:=.ref t.ij) rfl T.pH rfl) fb)))))))) fb))))),?_⟩
 (walk_at "RD")
 exact ⟨by decide,fun p hp=>⟨C,dx,(jb hp) _ _ hx,fs,(jb hp) _ _ hd,ic,dP t,db,b,hk,q _ (jb hp) (fun n=>n.upd)⟩⟩
end
end My
namespace My
open PySem L2
noncomputable def ee (n:Int) (z:Nat) (ds:List WD) (sp:List SD):Str × Str × Int:=match Gg ds sp with
 | some x=>(x,S "never",-2)
 | none=>match oi n z sp ds with
  | some e=>(e.1.name,e.2.1.name,e.2.2)
  | none=>(S "good",S "",-1)
noncomputable def tO (c:Str × Str × Int):HO:=.tup [.str c.1,.str c.2.1,.int c.2.2]
structure MA (n:Int) (z:Nat) (ds:List WD) (sp:List SD):Prop where
 n0:0 < n
 dok:DOk ds
 dne:∀ d ∈ ds,d.name ≠ Str.ofString ""
 z1:1 ≤ z∧z ≤ 240
 sok:DJ z sp
 kn:∀ s ∈ sp,∃ d,wOf ds s.name=some d
 gd:UH z ds sp
 sh:Gg ds sp=none→Dj ds z sp=none
 sl:sp.length ≤ 10
 nl8:∀ s ∈ sp,mn s.name
noncomputable def vz (t:Adr) (K:PySem.W.Frag):Sp:=fun vs H Q _=>∃ (c:Addr) (n:Int) (ds:List WD) (z:Nat) (rl:Addr) (sp:List SD) (by_:Bool),vs=[.ref c,.int z,.ref rl,.str (Wi z sp),.bl by_]∧Rc t H c n ds∧MA n z ds sp∧LO H rl (List.map sdO sp)∧NoT H ∧
 ∀ tp H',Xb H H'→NoT H'→H' tp=some (tO (ee n z ds sp))→Q (.ref tp) H'
theorem Je {n:Int} {z:Nat} {ds:List WD} {sp:List SD} (A:MA n z ds sp):∀ r ∈ im z sp,r ≠ []∧r.length ≤ 9∧∀ x ∈ r,cD x:=fun r hr=>by
 have c:∀ y ∈ [S "round",S "free"],mn y:=by unfold mn;decide +kernel
 have hz:=A.z1
 rcases List.mem_cons.mp hr with e | e
 ·subst e
  refine ⟨by simp,by show 2 ≤ 9;decide,fun x hx=>?_⟩
  have:x=S "round" ∨ x=num z:=by simpa using hx
  rcases this with rfl | rfl
  ·exact (c _ (by simp)).b
  ·exact (Cc (by omega) (by omega)).b
 ·obtain ⟨d,hd,rfl⟩:=List.mem_map.mp e
  refine ⟨by unfold fh;simp,by show 4 ≤ 9;decide,fun x hx=>?_⟩
  obtain ⟨i,hi⟩:=List.getElem?_of_mem hd
  have g:=A.gd i d hi
  have:x=S "free" ∨ x=d.name∨x=num d.b∨x=num d.n:=by simpa [fh] using hx
  rcases this with rfl | rfl | rfl | rfl
  ·exact (c _ (by simp)).b
  ·exact (A.nl8 d hd).b
  ·exact (Cc (by omega) (by omega)).b
  ·exact (Cc (by omega) (by omega)).b
theorem iA {n:Int} {z:Nat} {ds:List WD} {sp:List SD} (A:MA n z ds sp):Fg (Wi z sp)=[S "round",num z] :: sp.map fh:=by
 unfold Wi
 exact kB (by unfold im;simp) (fun r hr=>(Je A r hr).1) (fun r hr=>(Je A r hr).2.2)
theorem YC {n:Int} {z:Nat} {ds:List WD} {sp:List SD} (A:MA n z ds sp):(Wi z sp).length ≤ 20000:=by
 have hys:∀ y ∈ (im z sp).map (Str.join bk),y.length ≤ 200:=fun y hy=>by
  obtain ⟨r,hr,rfl⟩:=List.mem_map.mp hy
  have h1:=gj bk 20 r fun x hx=>((Je A r hr).2.2 x hx).1
  rw [sr] at h1
  have:=(Je A r hr).2.1
  omega
 have:=gj nl 200 _ hys
 rw [Wt,List.length_map] at this
 have hl:(im z sp).length ≤ 11:=by
  unfold im
  rw [List.length_cons,List.length_map]
  have:=A.sl
  omega
 unfold Wi
 omega
section
variable {P:Program} {w:World} {K:PySem.W.Frag} {mg:Str→Option Value} {base:Heap} {t:Adr}
theorem JH (T:Txt w K mg t):Eb P w K mg base CX0 9 t.Fh t.zh ["_law_crossing","_law_size","_law_rows_here","_law_text_here","_law_by_text"] (vz t K):=by
 have GX_read_plan:Eb P w K mg base (CX1 P w) 8 t.pj t.Pi ["crossing","text"] (aA t):=EH T
 have GX_made_plan:Eb P w K mg base (CX1 P w) 8 t.lh t.jh ["crossing","size","rows"] (yv t):=(tz T).mono (by decide)
 have GH__law_is_other:Fu P w K mg base CX0 8 t.qf t.wf ["_law_e"] (Uz t K):=(QH T).mono (by decide)
 refine T.Ik.ok Pe (fun vs H Q E h=>?_) (fun cdv A outer s H vs Q E hr h=>?_)
 ·obtain ⟨c,n,ds,z,rl,sp,by_,rfl,_⟩:=h;rfl
 obtain ⟨c,n,ds,z,rl,sp,by_,rfl,C,A0,L,nt,q⟩:=h
 refine ⟨_,(cb (Ab (i:=5) Pe.nd rfl (Or.inl rfl) (Hg (bb xc (bb xc (bb (Qx Iq rb) fb)))))
   (cb (EL (i:=6) (fun _ _=>⟨_,(cb (ge (Ef (pv 4)) (gb (lc (lz GX_read_plan hr rfl T.Wx T.Wl.kp T.iy .nil xD (bb (pv 0) (bb (pv 3) fb))))) (gb (lc (lz GX_made_plan hr rfl T.nq T.xj.kp T.Dq .nil xD (bb (pv 0) (bb (pv 1) (bb (lg Xw rfl T.uz oq (bb (pv 2) fb)) fb)))))))
   (gb (Ab (i:=5) Pe.nd rfl (Or.inl rfl) (Hg (bb xc (bb xc (bb (Qx Iq rb) fb))))))),by first | rfl | (dsimp only [Cx.tr,Cx.hn];done) | (dsimp only [Cx.tr,Cx.hn];exact rfl)⟩) rfl T.Zg (fun _=>⟨_,(cb (ge (PW.pt (Ym (Ef (Hc Br rfl T.Ge Wc (bb (pv 6) (bb (Id (v:=.ref t.Jb) rfl T.zy rfl) fb)))) (Ym (Ef (Hc sA rfl T.Ge Wc (bb (pv 6) (bb (Ky (v:=.ty "ValueError") rfl T.Wv jo rfl) fb)))) (ak (Zm (Ef (fG GH__law_is_other (Bi.hn hr) rfl T.zr T.eh.kp T.bq .nil Cb (bb (pv 6) fb)))))))) (gb (Ab (i:=5) Pe.nd rfl (Or.inl rfl) (Hg (bb (Qu (pv 6) rfl) (bb (Qu (pv 6) rfl) (bb (Qu (pv 6) rfl) fb)))))) Zb)
   (gb (ge (PW.pt (Ym (Ef (Hc Br rfl T.Ge Wc (bb (pv 6) (bb (Id (v:=.ref t.ac) rfl T.gy rfl) fb)))) (ak (Zm (Ef (Hc Br rfl T.Ge Wc (bb (pv 6) (bb (Id (v:=.ref t.Jb) rfl T.zy rfl) fb)))))))) (gb (Ab (i:=5) Pe.nd rfl (Or.inl rfl) (Hg (bb (Qu (pv 6) rfl) (bb xc (bb (Qx Iq rb) fb)))))) Zb))),by first | rfl | (dsimp only [Cx.tr,Cx.hn];done) | (dsimp only [Cx.tr,Cx.hn];exact rfl)⟩) Pe.nd rfl rfl)
   (gb (Fb (pv 5))))),?_⟩
 (walk_at "RD")
 refine ⟨by decide,fun p0 hp0=>?_⟩
 have s0:Xb H (upd H p0 (.tup [.str (Str.ofString ""),.str (Str.ofString ""),.int (-1)])):=jb hp0
 have n0:NoT (upd H p0 (.tup [.str (Str.ofString ""),.str (Str.ofString ""),.int (-1)])):=nt.upd
 generalize upd H p0 (.tup [.str (Str.ofString ""),.str (Str.ofString ""),.int (-1)])=H1 at s0 n0 ⊢
 have hpg:=VA (z:=(z:Int)) (by have:=A0.z1;omega) A0.gd
 refine Rb by_ (fun Q hQ=>?_) (fun hb=>?_) (fun hb=>?_)
 ·(walk_at "RD")
  exact hQ
 ·(walk_at "RD")
  refine ⟨c,n,ds,_,_,_,rfl,C.same s0,A0.n0,A0.dok,A0.dne,iA A0,YC A0,by rw [List.length_map];have:=A0.sl;omega,fun r hr=>⟨(Je A0 r hr).1,Nat.le_trans (Je A0 r hr).2.1 (by decide),fun y hy=>Nat.le_trans ((Je A0 r hr).2.2 y hy).1 (by decide)⟩,n0,?_⟩
  rw [hpg]
  unfold Oc2
  dsimp only
  rw [Int.toNat_natCast]
  refine ⟨fun hN hS hc a H3 s3 n3 PA=>?_,fun x hx=>?_,fun e hN hS=>?_,fun e hN hS hC=>?_⟩
  ·refine ⟨by decide,fun tp htp=>?_⟩
   have et:ee n z ds sp=(S "good",S "",-1):=by unfold ee;rw [hN];dsimp only;rw [hc]
   refine q tp _ ((s0.trans s3).trans (jb htp)) n3.upd ?_
   rw [db,et];rfl
  ·intro dx H3 s3 n3 hd
   have et:ee n z ds sp=(x,S "never",-2):=by unfold ee;rw [hx]
   have n3':=n3 n0
   (walk_at "RD")
   refine ⟨_,rfl,T.Mh,fun ex hex=>?_⟩
   (walk_at "RD")
   refine Rb false (fun Q hQ=>?_) (fun hc=>nomatch hc) (fun _=>?_)
   ·(walk_at "RD")
    refine ⟨_,_,hex,_,hd,T.Xk,_,T.Rf,?_⟩
    exact hQ
   ·(walk_at "RD")
    refine Rb true (fun Q hQ=>?_) (fun _=>?_) (fun hc=>nomatch hc)
    ·(walk_at "RD")
     refine ⟨_,_,hex,_,hd,T.Xk,_,T.El,?_⟩
     refine ⟨_,_,hex,_,hd,T.Xk,_,T.Rf,?_⟩
     exact hQ
    ·(walk_at "RD")
     refine ⟨_,_,hex,_,hd,T.Yn,T.Fk,_,Gc [Str.ofString "way"] 0 rfl (by decide +kernel) rfl,by decide,fun tp htp=>?_⟩
     refine q tp _ ((s0.trans s3).trans (jb htp)) n3'.upd ?_
     rw [db,et];rfl
  ·rw [A0.sh hN] at hS;cases hS
  ·intro dx H3 s3 n3 hd
   have et:ee n z ds sp=(e.1.name,e.2.1.name,(e.2.2:Int)):=by unfold ee;rw [hN];dsimp only;rw [hC]
   have n3':=n3 n0
   (walk_at "RD")
   refine ⟨_,rfl,T.Th,fun ex hex=>?_⟩
   (walk_at "RD")
   refine Rg (fun b H4=>b=true∧Xb H3 H4∧NoT H4) (fun Q hQ=>?_) (fun H4 r=>?_) (fun H4 r=>?_)
   ·(walk_at "RD")
    refine ⟨_,_,hex,_,hd,T.Sh,_,T.Ll,?_⟩
    refine ⟨_,_,hex,_,hd,T.Sh,_,T.kh,?_⟩
    exact ⟨ex,t.Jb,dx,_,false,rfl,hex,hd,T.Sh,Mw T,fun H4 s4 n4=>⟨_,rfl,hQ _ _ ⟨rfl,s4,n4 n3'⟩⟩⟩
   ·obtain ⟨_,s4,n4⟩:=r
    have hex4:=s4 _ _ hex
    have hd4:=s4 _ _ hd
    (walk_at "RD")
    refine ⟨_,_,hex4,_,hd4,T.Eg,T.Sj,_,Gc [Str.ofString "way",Str.ofString "other",Str.ofString "at"] 0 rfl (by decide +kernel) rfl,_,_,hex4,_,hd4,T.Eg,T.ji,_,Gc [Str.ofString "way",Str.ofString "other",Str.ofString "at"] 1 rfl (by decide +kernel) rfl,_,_,hex4,_,hd4,T.Eg,T.Sl,_,Gc [Str.ofString "way",Str.ofString "other",Str.ofString "at"] 2 rfl (by decide +kernel) rfl,by decide,fun tp htp=>?_⟩
    have hex5:=(jb (o:=.tup [.str e.1.name,.str e.2.1.name,.int (e.2.2:Int)]) htp) _ _ hex4
    have hd5:=(jb (o:=.tup [.str e.1.name,.str e.2.1.name,.int (e.2.2:Int)]) htp) _ _ hd4
    refine Rb false (fun Q hQ=>?_) (fun hc=>nomatch hc) (fun _=>?_)
    ·(walk_at "RD")
     refine ⟨_,_,hex5,_,hd5,T.Sh,_,T.Yh,?_⟩
     exact hQ
    ·(walk_at "RD")
     refine q tp _ (((s0.trans s3).trans s4).trans (jb htp)) n4.upd ?_
     rw [db,et];rfl
   ·cases r.1
 ·obtain ⟨qs,l1,l2⟩:=id (L.same s0)
  (walk_at "RD")
  refine ⟨_,.inl (SqL.of l1),fun l hl=>?_⟩
  have sB:Xb H (upd H1 l (.lst (qs.map V.ref))):=s0.trans (jb hl)
  have nB:NoT (upd H1 l (.lst (qs.map V.ref))):=n0.upd
  have LB:LO (upd H1 l (.lst (qs.map V.ref))) l (List.map sdO sp):=⟨qs,db,l2.same (jb hl)⟩
  generalize upd H1 l (.lst (qs.map V.ref))=HB at sB nB LB ⊢
  refine ⟨c,n,ds,z,l,sp,rfl,C.same sB,A0.n0,A0.dok,by have:=A0.z1;omega,LB,A0.sok,A0.kn,nB,?_⟩
  refine ⟨fun hN hS hc a H3 s3 n3 PA=>?_,fun x hx=>?_,fun e hN hS=>?_,fun e hN hS hC=>?_⟩
  ·refine ⟨by decide,fun tp htp=>?_⟩
   have et:ee n z ds sp=(S "good",S "",-1):=by unfold ee;rw [hN];dsimp only;rw [hc]
   refine q tp _ ((sB.trans s3).trans (jb htp)) n3.upd ?_
   rw [db,et];rfl
  ·intro dx H3 s3 n3 hd
   have et:ee n z ds sp=(x,S "never",-2):=by unfold ee;rw [hx]
   have n3':=n3 nB
   (walk_at "RD")
   refine ⟨_,rfl,T.Mh,fun ex hex=>?_⟩
   (walk_at "RD")
   refine Rb false (fun Q hQ=>?_) (fun hc=>nomatch hc) (fun _=>?_)
   ·(walk_at "RD")
    refine ⟨_,_,hex,_,hd,T.Xk,_,T.Rf,?_⟩
    exact hQ
   ·(walk_at "RD")
    refine Rb true (fun Q hQ=>?_) (fun _=>?_) (fun hc=>nomatch hc)
    ·(walk_at "RD")
     refine ⟨_,_,hex,_,hd,T.Xk,_,T.El,?_⟩
     refine ⟨_,_,hex,_,hd,T.Xk,_,T.Rf,?_⟩
     exact hQ
    ·(walk_at "RD")
     refine ⟨_,_,hex,_,hd,T.Yn,T.Fk,_,Gc [Str.ofString "way"] 0 rfl (by decide +kernel) rfl,by decide,fun tp htp=>?_⟩
     refine q tp _ ((sB.trans s3).trans (jb htp)) n3'.upd ?_
     rw [db,et];rfl
  ·rw [A0.sh hN] at hS;cases hS
  ·intro dx H3 s3 n3 hd
   have et:ee n z ds sp=(e.1.name,e.2.1.name,(e.2.2:Int)):=by unfold ee;rw [hN];dsimp only;rw [hC]
   have n3':=n3 nB
   (walk_at "RD")
   refine ⟨_,rfl,T.Th,fun ex hex=>?_⟩
   (walk_at "RD")
   refine Rg (fun b H4=>b=true∧Xb H3 H4∧NoT H4) (fun Q hQ=>?_) (fun H4 r=>?_) (fun H4 r=>?_)
   ·(walk_at "RD")
    refine ⟨_,_,hex,_,hd,T.Sh,_,T.Ll,?_⟩
    refine ⟨_,_,hex,_,hd,T.Sh,_,T.kh,?_⟩
    exact ⟨ex,t.Jb,dx,_,false,rfl,hex,hd,T.Sh,Mw T,fun H4 s4 n4=>⟨_,rfl,hQ _ _ ⟨rfl,s4,n4 n3'⟩⟩⟩
   ·obtain ⟨_,s4,n4⟩:=r
    have hex4:=s4 _ _ hex
    have hd4:=s4 _ _ hd
    (walk_at "RD")
    refine ⟨_,_,hex4,_,hd4,T.Eg,T.Sj,_,Gc [Str.ofString "way",Str.ofString "other",Str.ofString "at"] 0 rfl (by decide +kernel) rfl,_,_,hex4,_,hd4,T.Eg,T.ji,_,Gc [Str.ofString "way",Str.ofString "other",Str.ofString "at"] 1 rfl (by decide +kernel) rfl,_,_,hex4,_,hd4,T.Eg,T.Sl,_,Gc [Str.ofString "way",Str.ofString "other",Str.ofString "at"] 2 rfl (by decide +kernel) rfl,by decide,fun tp htp=>?_⟩
    have hex5:=(jb (o:=.tup [.str e.1.name,.str e.2.1.name,.int (e.2.2:Int)]) htp) _ _ hex4
    have hd5:=(jb (o:=.tup [.str e.1.name,.str e.2.1.name,.int (e.2.2:Int)]) htp) _ _ hd4
    refine Rb false (fun Q hQ=>?_) (fun hc=>nomatch hc) (fun _=>?_)
    ·(walk_at "RD")
     refine ⟨_,_,hex5,_,hd5,T.Sh,_,T.Yh,?_⟩
     exact hQ
    ·(walk_at "RD")
     refine q tp _ (((sB.trans s3).trans s4).trans (jb htp)) n4.upd ?_
     rw [db,et];rfl
   ·cases r.1
end
end My
namespace My
open PySem L2
theorem CM {K:PySem.W.Frag} {H:Hp} {p q:Addr} {a b:Str × Str × Int} (hp:SqT K H p [.str a.1,.str a.2.1,.int a.2.2]) (hq:SqT K H q [.str b.1,.str b.2.1,.int b.2.2]):EqH K H 8 (.ref p) (.ref q) (decide (a=b)):=by
 obtain ⟨a1,a2,a3⟩:=a
 obtain ⟨b1,b2,b3⟩:=b
 have:=EqH.tup (k:=7) (e:=fun j=>eqV ([V.str a1,.str a2,.int a3].getD j .non) ([V.str b1,.str b2,.int b3].getD j .non)) hp hq (fun j x y h1 h2=>by
  match j,h1,h2 with
  | 0,h1,h2=>cases h1;cases h2;exact EqH.flat rfl rfl
  | 1,h1,h2=>cases h1;cases h2;exact EqH.flat rfl rfl
  | 2,h1,h2=>cases h1;cases h2;exact EqH.flat rfl rfl
  | j + 3,h1,_=>simp at h1)
 have e:((List.range (min [V.str a1,.str a2,.int a3].length [V.str b1,.str b2,.int b3].length)).all (fun j=>eqV ([V.str a1,.str a2,.int a3].getD j .non) ([V.str b1,.str b2,.int b3].getD j .non)) && [V.str a1,.str a2,.int a3].length == [V.str b1,.str b2,.int b3].length)=decide ((a1,a2,a3)=(b1,b2,b3)):=by
  rw [Bool.eq_iff_iff,decide_eq_true_eq]
  simp [List.range_succ,eqV]
 rw [e] at this
 exact this
theorem NM {x:Str} (h:made x gh 8=true):hJ x∧x ≠ Str.ofString "" := by
 obtain ⟨⟨h1,h2⟩,h3⟩:=og h
 refine ⟨⟨by omega,fun c hc=>?_⟩,fun z=>?_⟩
 ·have:=h3 c hc
  omega
 ·rw [z] at h1
  exact absurd h1 (by decide +kernel)
theorem kG {n z:Int} {ds:List WD} {sp:List SD} (D:Yp n ds) (S:cA z ds sp) (m:Nat):UH z ds (sp.take m):=fun i s hs=>by
 rw [List.getElem?_take] at hs
 by_cases c:i < m
 ·rw [if_pos c] at hs
  have hil:i < ds.length:=by rw [← S.ln];exact (List.getElem?_eq_some_iff.mp hs).1
  have hd:ds[i]? = some ds[i]:=List.getElem?_eq_getElem hil
  have a:=S.al i _ s hd hs
  have r1:=Rm ds[i]
  have o1:=(D.al ds[i] (List.getElem_mem hil)).1.of
  have f1:=Rp (d:=ds[i]) (by omega)
  refine ⟨?_,a.2.1.1,a.2.1.2,a.2.2.1,by omega⟩
  rw [List.take_take,Nat.min_eq_left (by omega)]
  unfold Qh
  refine List.mem_filter.mpr ⟨?_,?_⟩
  ·rw [a.1]
   exact List.mem_map.mpr ⟨ds[i],List.getElem_mem hil,rfl⟩
  ·have:ofN s.name (sp.take i)=[]:=by
    unfold ofN
    rw [List.filter_eq_nil_iff.mpr]
    ·rfl
    intro e he hpe
    obtain ⟨j,hj⟩:=List.getElem?_of_mem he
    rw [List.getElem?_take] at hj
    by_cases cj:j < i
    ·rw [if_pos cj] at hj
     have hjl:j < ds.length:=by omega
     have hdj:ds[j]? = some ds[j]:=List.getElem?_eq_getElem hjl
     have e1:=(S.al j _ e hdj hj).1
     have e2:e.name=s.name:=by simpa using hpe
     have:=Qy D.nd hdj hd (e1.symm.trans (e2.trans a.1))
     omega
    ·rw [if_neg cj] at hj;cases hj
   rw [this];rfl
 ·rw [if_neg c] at hs;cases hs
theorem WN {n:Int} {z:Nat} {ds:List WD} {sp:List SD} (hn:4 ≤ n∧n ≤ 12) (hz:8 ≤ z∧z ≤ 24) (hdl:ds.length ≤ 4) (D:Yp n ds) (S:cA z ds sp) (m:Nat) (sh:Gg ds (sp.take m)=none→Dj ds z (sp.take m)=none):MA n z ds (sp.take m):=by
 have hsl:(sp.take m).length ≤ 4:=by
  rw [List.length_take,S.ln];omega
 have g:=kG D S m
 have nm:∀ s ∈ sp.take m,∃ d ∈ ds,s.name=d.name:=fun s hs=>by
  obtain ⟨i,hi⟩:=List.getElem?_of_mem (List.mem_of_mem_take hs)
  have hil:i < ds.length:=by rw [← S.ln];exact (List.getElem?_eq_some_iff.mp hi).1
  exact ⟨ds[i],List.getElem_mem hil,(S.al i _ s (List.getElem?_eq_getElem hil) hi).1⟩
 refine ⟨by omega,fun d hd=>?_,fun d hd=>(NM (D.al d hd).1.nm).2,by omega,⟨by omega,fun s hs=>?_⟩,fun s hs=>?_,g,sh,by omega,fun s hs=>?_⟩
 ·have o:=(D.al d hd).1.of
  exact ⟨(NM (D.al d hd).1.nm).1,by omega,by omega⟩
 ·obtain ⟨i,hi⟩:=List.getElem?_of_mem hs
  have:=g i s hi
  omega
 ·obtain ⟨d,hd,e⟩:=nm s hs
  obtain ⟨i,hi⟩:=List.getElem?_of_mem hd
  exact ⟨d,by rw [e];exact BN D hi⟩
 ·obtain ⟨d,hd,e⟩:=nm s hs
  rw [e]
  exact Sn (D.al d hd).1.nm
theorem oB {z:Nat} (hz:z ≤ 240) {sp:List SD} (h:∀ s ∈ sp,mn s.name∧(0 ≤ s.b∧s.b < 1000)∧0 ≤ s.n∧s.n < 1000) (hl:sp.length ≤ 10):(Wi z sp).length ≤ 5000:=by
 have hpl:∀ r ∈ im z sp,r.length ≤ 4∧∀ x ∈ r,x.length ≤ 8:=fun r hr=>by
  rcases List.mem_cons.mp hr with e | e
  ·subst e
   refine ⟨by show 2 ≤ 4;decide,fun x hx=>?_⟩
   have:x=S "round" ∨ x=num z:=by simpa using hx
   rcases this with rfl | rfl
   ·decide +kernel
   ·exact (Cc (v:=(z:Int)) (by omega) (by omega)).1
  ·obtain ⟨d,hd,rfl⟩:=List.mem_map.mp e
   refine ⟨by show 4 ≤ 4;decide,fun x hx=>?_⟩
   have g:=h d hd
   have:x=S "free" ∨ x=d.name∨x=num d.b∨x=num d.n:=by simpa [fh] using hx
   rcases this with rfl | rfl | rfl | rfl
   ·decide +kernel
   ·exact g.1.1
   ·exact (Cc (by omega) (by omega)).1
   ·exact (Cc (by omega) (by omega)).1
 have hys:∀ y ∈ (im z sp).map (Str.join bk),y.length ≤ 40:=fun y hy=>by
  obtain ⟨r,hr,rfl⟩:=List.mem_map.mp hy
  have h1:=gj bk 8 r (hpl r hr).2
  rw [sr] at h1
  have:=(hpl r hr).1
  omega
 have:=gj nl 40 _ hys
 rw [Wt,List.length_map] at this
 have hl':(im z sp).length ≤ 11:=by
  unfold im
  rw [List.length_cons,List.length_map]
  omega
 unfold Wi
 omega
noncomputable def inC (H:Hp) (c:Str × Str × Int) (q:Addr):Bool:=match H q with
 | some (.tup [.str a,.str b,.int i])=>decide ((a,b,i)=c)
 | _=>false
theorem GJ {H:Hp} {c d:Str × Str × Int} {q:Addr} (h:H q=some (tO d)):inC H c q=decide (d=c):=by
 unfold inC
 rw [h];rfl
noncomputable def Due (n:Int) (z:Nat) (ds:List WD) (sp:List SD) (cs:List (Str × Str × Int)):Prop:=(cs=[]∧ee n z ds sp=(S "good",S "",-1))∨(cs ≠ []∧ee n z ds sp ∈ cs)
theorem wH {n:Int} {z:Nat} (hz:0 < z) {ds:List WD} {sp:List SD} (D:Yp n ds) (S:cA z ds sp):Due n z ds sp ((c1 n z ds sp ds.length).map fun c=>(c.1,c.2.1,(c.2.2:Int))):=by
 have hN:=pK D S
 unfold Due ee
 rw [hN]
 dsimp only
 cases hC:oi n z sp ds with
 | none=>
  rw [bB hz D S hC]
  exact .inl ⟨rfl,rfl⟩
 | some e=>
  have:=uB hz D S hC
  refine .inr ⟨fun z=>?_,List.mem_map.mpr ⟨_,this,rfl⟩⟩
  rw [List.map_eq_nil_iff] at z
  rw [z] at this
  cases this
theorem TH {n:Int} {z:Nat} {ds:List WD} {sp:List SD} (D:Yp n ds) (S':cA z ds sp) {d:WD} (hl:ds[ds.length - 1]? = some d):Due n z ds (sp.take (ds.length - 1)) [(d.name,S "never",-2)]:=by
 unfold Due ee
 rw [cu D S' hl]
 exact .inr ⟨by simp,by simp⟩
theorem uM {xs:List V} {k:Nat} (h:k ≤ xs.length):Oy xs none (some ((k:Nat):Int))=xs.take k:=by
 unfold Oy
 rw [HT.sIx_nat,Nat.min_eq_left h,HT.sIx_none]
 simp
theorem LQ.take {H:Hp} {qs:List Addr} {os:List HO} (h:LQ H qs os) (k:Nat):LQ H (qs.take k) (os.take k):=by
 refine ⟨by rw [List.length_take,List.length_take,h.1],fun i q r h1 h2=>?_⟩
 rw [List.getElem?_take] at h1 h2
 by_cases c:i < k
 ·rw [if_pos c] at h1 h2;exact h.2 i q r h1 h2
 ·rw [if_neg c] at h1;cases h1
section
variable {P:Program} {w:World} {K:PySem.W.Frag} {mg:Str→Option Value} {base:Heap} {t:Adr}
theorem zO (T:Txt w K mg t):Eb P w K mg base CX0 10 t.AL t.HH ["_law_script"] (JN K):=by
 refine T.dQ.ok Rh (fun vs H Q E h=>?_) (fun cdv A outer s H vs Q E hr h=>?_)
 ·obtain ⟨a,ns,rfl,_⟩:=h;rfl
 obtain ⟨a,ns,rfl,S00,h63,q⟩:=h
 have hU:=hr.units
 have G__law_draw:Eb P w K mg base CX0 9 t.Gf t.Of ["_law_script","_law_k","_law_many"] (Wd K a ns):=(px T a ns h63).mono (by decide)
 have G__law_ways:Eb P w K mg base CX0 9 t.tj t.nj ["_law_script"] (AN K a ns):=(GP T a ns h63).mono (by decide)
 have G__law_text:Eb P w K mg base CX0 9 t.oj t.rj ["_law_places","_law_ways_here"] (qz K):=(YH T).mono (by decide)
 have G_read_crossing:Eb P w K mg base CX0 9 t.rf t.tf ["text"] (gN t):=(lQ T).mono (by decide)
 have G__law_rows:Eb P w K mg base CX0 9 t.wj t.lj ["_law_script","_law_ways_here","_law_size"] (Yz K a ns):=(gG T a ns h63).mono (by decide)
 have G__law_clashes:Eb P w K mg base CX0 9 t.Zf t.Wf ["_law_places","_law_ways_here","_law_rows_here","_law_size"] (Ev K):=(oF T).mono (by decide)
 have G__law_asked:Eb P w K mg base CX0 9 t.Fh t.zh ["_law_crossing","_law_size","_law_rows_here","_law_text_here","_law_by_text"] (vz t K):=JH T
 refine ⟨_,(cb (Ab (i:=1) Rh.nd rfl (Or.inl rfl) (yb G__law_ways hr rfl T.Ex T.Bm.kp T.Px .nil Cb (bb (pv 0) fb)))
   (cb (Ab (i:=2) Rh.nd rfl (Or.inl rfl) (Nc zd (pv 1) rb (fun _ _=>rfl)))
   (cb (Ab (i:=3) Rh.nd rfl (Or.inl rfl) (yb G_read_crossing hr rfl T.zq T.rh.kp T.Gq .nil Cb (bb (yb G__law_text hr rfl T.Fx T.cm.kp T.cy .nil Cb (bb (Nc zd (pv 1) rb (fun _ _=>rfl)) (bb (pv 2) fb))) fb)))
   (cb (Ab (i:=4) Rh.nd rfl (Or.inl rfl) (Pb se rb (yb G__law_draw hr rfl T.gc T.Ob.kp T.dc .nil Cb (bb (pv 0) (bb rb (bb rb fb))))))
   (cb (Ab (i:=5) Rh.nd rfl (Or.inl rfl) (yb G__law_rows hr rfl T.Jy T.Tl.kp T.dy .nil Cb (bb (pv 0) (bb (pv 2) (bb (pv 4) fb)))))
   (cb (Ab (i:=6) Rh.nd rfl (Or.inl rfl) (yb G__law_clashes hr rfl T.Bs T.Zh.kp T.Vr .nil Cb (bb (Nc zd (pv 1) rb (fun _ _=>rfl)) (bb (pv 2) (bb (pv 5) (bb (pv 4) fb))))))
   (cb (ge (Sb bi (yb G__law_draw hr rfl T.gc T.Ob.kp T.dc .nil Cb (bb (pv 0) (bb rb (bb rb fb)))) rb (uc _)) (cb (Ab (i:=6) Rh.nd rfl (Or.inl rfl) (Df (bb (Hg (bb (Nc zd (Nc Hd (pv 2) (Pb zf (Hc Pc rfl T.Mn Dd (bb (pv 2) fb)) rb) (fun _ _=>rfl)) rb (fun _ _=>rfl)) (bb xc (bb (Qx Iq rb) fb)))) fb)))
   (gb (Ab (i:=5) Rh.nd rfl (Or.inl rfl) (Wk ux (pv 5) Kn (wo (Pb zf (Hc Pc rfl T.Mn Dd (bb (pv 2) fb)) rb)))))) Zb)
   (cb (Ab (i:=7) Rh.nd rfl (Or.inl rfl) (Pb ud xc (lg df rfl T.rA Vg (bb (pv 4) fb))))
   (cb (Zd PassesOwn.never rfl (ae (pv 5)) (zb (i:=8) Rh.nd rfl (Or.inl rfl)) (gb (Ab (i:=7) Rh.nd rfl (Or.inl rfl) (Pb ud (Pb ud (Pb ud (Pb ud (Pb ud (Pb ud (pv 7) xc) (Nc zd (pv 8) rb (fun _ _=>rfl))) xc) (lg df rfl T.rA Vg (bb (Nc zd (pv 8) rb (fun _ _=>rfl)) fb))) xc) (lg df rfl T.rA Vg (bb (Nc zd (pv 8) rb (fun _ _=>rfl)) fb))))))
   (cb (Zd PassesOwn.never rfl (ae (Df (bb (Te bi (yb G__law_draw hr rfl T.gc T.Ob.kp T.dc .nil Cb (bb (pv 0) (bb rb (bb rb fb)))) rb (uc _)) (bb (Te bi (yb G__law_draw hr rfl T.gc T.Ob.kp T.dc .nil Cb (bb (pv 0) (bb rb (bb rb fb)))) rb (uc _)) fb)))) (zb (i:=9) Rh.nd rfl (Or.inl rfl)) (cb (Ab (i:=10) Rh.nd rfl (Or.inl rfl) (yb G__law_asked hr rfl T.Qw T.Ik.kp T.zw .nil Cb (bb (pv 3) (bb (pv 4) (bb (pv 5) (bb (pv 7) (bb (pv 9) fb)))))))
   (cb (ge (PW.pt (Ym (Sb (yN hU) (pv 6) (Df fb) (uc _)) (ak (Sb (ZI hU) (pv 10) (Hg (bb xc (bb xc (bb (Qx Iq rb) fb)))) (uc _))))) (gb (Fb En)) Zb)
   (cb (ge (PW.pt (Ym (Sb (ZI hU) (pv 6) (Df fb) (uc _)) (ak (Sb (dE hU) (pv 10) (pv 6) (by with_unfolding_all rfl))))) (gb (Fb En)) Zb)
   (gb (ge (PW.pt (JB (Zm (Ef (Hc ez rfl T.Ge Wc (bb (Nc zd (pv 10) rb (fun _ _=>rfl)) (bb (Ky (v:=.ty "int") rfl T.NN Ht rfl) fb))))) (gu (Ef (Hc ez rfl T.Ge Wc (bb (Nc zd (pv 10) rb (fun _ _=>rfl)) (bb (Ky (v:=.ty "bool") rfl T.wO vx rfl) fb))))))) (gb (Fb En)) Zb))))))
   (gb (Fb En)))))))))))),?_⟩
 simp only [Bc]
 refine Td (fun σ' H'=>Sc K a ns H'∧∃ tp wl n ds,H' tp=some (.tup [.int n,.ref wl])∧LW H' wl ds∧Yp n ds∧(4 ≤ n∧n ≤ 12)∧(2 ≤ ds.length∧ds.length ≤ 4)∧σ'=[some (.ref a),some (.ref tp),none,none,none,none,none,none,none,none,none]) (fun D' hD _ _ _=>?_) ?_
 ·(walk_at "RD")
  exact ⟨rfl,S00,fun tp wl n ds H' s1 S1 e1 L D hn hl=>hD _ _ ⟨S1,tp,wl,n,ds,e1,L,D,hn,hl,rfl⟩⟩
 rintro σ1 H1 ⟨S1,tp,wl,n,ds,e1,L1,D,hn,hl,rfl⟩
 have hC:=D.cok (by omega) (by omega)
 simp only [Bc]
 refine Td (fun σ' H'=>H'=H1∧σ'=[some (.ref a),some (.ref tp),some (.ref wl),none,none,none,none,none,none,none,none]) (fun D' hD _ _ _=>?_) ?_
 ·(walk_at "RD")
  exact ⟨_,SqT.of e1,_,Ic (j:=1) rfl,hD _ _ ⟨rfl,rfl⟩⟩
 rintro σ1 H2 ⟨rfl,rfl⟩
 simp only [Bc]
 refine Td (fun σ' H'=>Xb H2 H'∧Sc K a ns H'∧∃ c,Rc t H' c n ds∧σ'=[some (.ref a),some (.ref tp),some (.ref wl),some (.ref c),none,none,none,none,none,none,none]) (fun D' hD _ _ _=>?_) ?_
 ·(walk_at "RD")
  refine ⟨_,SqT.of e1,_,Ic (j:=0) rfl,n,wl,ds,rfl,L1,D,by omega,by omega,S1.nt,?_⟩
  exact ⟨n,ds,rfl,hC,S1.nt,fun c H' s2 n2 C=>hD _ _ ⟨s2,S1.same s2 n2,c,C,rfl⟩⟩
 rintro σ1 H3 ⟨s3,S3,c,C3,rfl⟩
 have L3:=L1.same s3
 have e3:=s3 _ _ e1
 have d1:=Dg ns 6 (m:=17) (by decide)
 have d2:=Cg ns 6 (m:=17) (by decide)
 obtain ⟨z,hz⟩:∃ z:Nat,8 + Ug ns 6 17=(z:Nat):=⟨(8 + Ug ns 6 17).toNat,by omega⟩
 have hz8:8 ≤ z∧z ≤ 24:=by omega
 simp only [Bc]
 refine Td (fun σ' H'=>H'=H3∧σ'=[some (.ref a),some (.ref tp),some (.ref wl),some (.ref c),some (.int (z:Nat)),none,none,none,none,none,none]) (fun D' hD _ _ _=>?_) ?_
 ·(walk_at "RD"; repeat (simp only [Wd];walk_at "RD"))
  rw [hz]
  exact ⟨S3,by omega,by omega,by decide,hD _ _ ⟨rfl,rfl⟩⟩
 rintro σ1 H4 ⟨rfl,rfl⟩
 simp only [Bc]
 refine Td (fun σ' H'=>Xb H4 H'∧Sc K a ns H'∧∃ rl sp,LO H' rl (List.map sdO sp)∧cA z ds sp∧σ'=[some (.ref a),some (.ref tp),some (.ref wl),some (.ref c),some (.int (z:Nat)),some (.ref rl),none,none,none,none,none]) (fun D' hD _ _ _=>?_) ?_
 ·(walk_at "RD")
  exact ⟨wl,n,ds,z,rfl,S3,L3,D,hl.2,by omega,fun rl sp H' s5 S5 L5 SP=>hD _ _ ⟨s5,S5,rl,sp,L5,SP,rfl⟩⟩
 rintro σ1 H5 ⟨s5,S5,rl,sp,L5,SP,rfl⟩
 have W5:=L3.same s5
 simp only [Bc]
 refine Td (fun σ' H'=>Xb H5 H'∧Sc K a ns H'∧∃ cl,LO H' cl ((c1 n z ds sp ds.length).map cO)∧σ'=[some (.ref a),some (.ref tp),some (.ref wl),some (.ref c),some (.int (z:Nat)),some (.ref rl),some (.ref cl),none,none,none,none]) (fun D' hD _ _ _=>?_) ?_
 ·(walk_at "RD")
  refine ⟨_,SqT.of (s5 _ _ e3),_,Ic (j:=0) rfl,n,wl,ds,rl,sp,z,rfl,W5,L5,D,by omega,hl.2,SP.ln,S5.nt,fun cl H' s6 n6 L6=>hD _ _ ⟨s6,S5.same s6 n6,cl,L6,rfl⟩⟩
 rintro σ1 H6 ⟨s6,S6,cl,L6,rfl⟩
 have C6:=(C3.same s5).same s6
 have W6:=W5.same s6
 have R6:=L5.same s6
 simp only [Bc]
 refine Td (fun σ' H'=>Sc K a ns H'∧Rc t H' c n ds∧∃ rl cl sp' cs,LO H' rl (List.map sdO sp')∧LO H' cl (List.map tO cs)∧MA n z ds sp'∧Due n z ds sp' cs∧σ'=[some (.ref a),some (.ref tp),some (.ref wl),some (.ref c),some (.int (z:Nat)),some (.ref rl),some (.ref cl),none,none,none,none]) (fun D' hD _ _ _=>?_) ?_
 ·refine Rb (decide (Ug ns 8 6=1)) (fun Q hQ=>?_) (fun hc=>?_) (fun hc=>?_)
  ·(walk_at "RD"; repeat (simp only [Wd];walk_at "RD"))
   exact ⟨S6,by omega,by omega,by decide,hQ⟩
  ·have hd:ds[ds.length - 1]? = some ds[ds.length - 1]:=List.getElem?_eq_getElem (by omega)
   obtain ⟨qw,q0,w1,w2,w3,w4⟩:=W6.at hd
   obtain ⟨qr,r1,r2⟩:=id R6
   have hqr:qr.length=ds.length:=by rw [r2.1,List.length_map,SP.ln]
   have hci:((qw.map V.ref).length:Int) - 1=((ds.length - 1:Nat):Int):=by rw [List.length_map,w4];omega
   (walk_at "RD")
   refine ⟨_,.inl (SqL.of w1),?_⟩
   rw [hci]
   refine ⟨_,SqL.of w1,_,w2,_,rfl,_,SqT.of w3,_,oH _,by decide,fun p1 hp1=>⟨by decide,fun p2 hp2=>?_⟩⟩
   have sa:Xb H6 (upd (upd H6 p1 (.tup [.str ds[ds.length - 1].name,.str (Str.ofString "never"),.int (-2)])) p2 (.lst [.ref p1])):=(jb hp1).trans (jb hp2)
   have Sa:Sc K a ns (upd (upd H6 p1 (.tup [.str ds[ds.length - 1].name,.str (Str.ofString "never"),.int (-2)])) p2 (.lst [.ref p1])):=(S6.new hp1).new hp2
   have hp12:p1 ≠ p2:=fun e=>by subst e;rw [db] at hp2;cases hp2
   have La:LO (upd (upd H6 p1 (.tup [.str ds[ds.length - 1].name,.str (Str.ofString "never"),.int (-2)])) p2 (.lst [.ref p1])) p2 (List.map tO [(ds[ds.length - 1].name,S "never",-2)]):=⟨[p1],db,LQ.one (by rw [lb hp12,db];rfl)⟩
   generalize upd (upd H6 p1 (.tup [.str ds[ds.length - 1].name,.str (Str.ofString "never"),.int (-2)])) p2 (.lst [.ref p1])=Ha at sa Sa La ⊢
   refine ⟨_,.inl (SqL.of (sa _ _ w1)),?_⟩
   rw [hci]
   refine ⟨_,SqL.of (sa _ _ r1),fun p3 hp3=>?_⟩
   rw [uM (xs:=qr.map V.ref) (k:=ds.length - 1) (by rw [List.length_map];omega),← List.map_take]
   have sb:=jb (o:=.lst ((qr.take (ds.length - 1)).map V.ref)) hp3
   refine hD _ _ ⟨Sa.new hp3,(C6.same sa).same sb,p3,p2,sp.take (ds.length - 1),_,⟨_,db,?_⟩,La.same sb,WN hn hz8 hl.2 D SP _ (fun z=>by rw [cu D SP hd] at z;cases z),TH D SP hd,rfl⟩
   have hh:=((r2.same sa).same sb).take (ds.length - 1)
   rw [show (List.map sdO sp).take (ds.length - 1)=List.map sdO (sp.take (ds.length - 1)) by rw [List.map_take]] at hh
   exact hh
  ·(walk_at "RD")
   refine hD _ _ ⟨S6,C6,rl,cl,sp,(c1 n z ds sp ds.length).map fun c=>(c.1,c.2.1,(c.2.2:Int)),R6,?_,?_,wH (by omega) D SP,rfl⟩
   ·rw [List.map_map]
    exact L6
   ·have:=WN hn hz8 hl.2 D SP sp.length (fun _=>by rw [List.take_length];exact QK D SP)
    rw [List.take_length] at this
    exact this
 rintro σ1 H7 ⟨S7,C7,rl,cl,sp',cs,R7,L7,A7,du,rfl⟩
 clear R6 L6 L5
 have hbig:∀ k:Nat,k ≤ 10000→k ≤ sizeLine:=fun k h=>Nat.le_trans h (by decide)
 have hspl:∀ s ∈ sp',mn s.name∧(0 ≤ s.b∧s.b < 1000)∧0 ≤ s.n∧s.n < 1000:=fun s hs=>by
  obtain ⟨i,hi⟩:=List.getElem?_of_mem hs
  have:=A7.gd i s hi
  exact ⟨A7.nl8 s hs,by omega,by omega,by omega⟩
 have htl:∀ i,(Wi z (sp'.take i)).length ≤ 5000:=fun i=>oB (by omega) (fun s hs=>hspl s (List.mem_of_mem_take hs)) (by rw [List.length_take];have:=A7.sl;omega)
 simp only [Bc]
 refine Td (fun σ' H'=>H'=H7∧σ'=[some (.ref a),some (.ref tp),some (.ref wl),some (.ref c),some (.int (z:Nat)),some (.ref rl),some (.ref cl),some (.str (Wi z [])),none,none,none]) (fun D' hD _ _ _=>?_) ?_
 ·(walk_at "RD")
  have h8:(Str.ofString (toString (z:Int))).length ≤ 8:=(Cc (v:=(z:Int)) (by omega) (by omega)).1
  refine ⟨Zl (by omega),hbig _ (by rw [show (Str.ofString "round ").length=6 by decide +kernel];omega),?_⟩
  rw [show Str.ofString "round " ++ Str.ofString (toString (z:Int))=Wi z [] from (yE z).symm]
  exact hD _ _ ⟨rfl,rfl⟩
 rintro σ1 H8 ⟨rfl,rfl⟩
 obtain ⟨qr,r1,r2⟩:=id R7
 simp only [Bc]
 refine Td (fun σ' H'=>H'=H8∧∃ x,σ'=[some (.ref a),some (.ref tp),some (.ref wl),some (.ref c),some (.int (z:Nat)),some (.ref rl),some (.ref cl),some (.str (Wi z sp')),x,none,none]) (fun D' hD _ _ _=>?_) ?_
 ·(walk_at "RD")
  refine ⟨⟨_,SqL.of r1⟩,?_⟩
  refine ni.list (xs:=qr.map V.ref) (fun i σ H'=>H'=H8∧∃ x,σ=[some (.ref a),some (.ref tp),some (.ref wl),some (.ref c),some (.int (z:Nat)),some (.ref rl),some (.ref cl),some (.str (Wi z (sp'.take i))),x,none,none]) ?_ ?_ ?_ ?_
  ·exact ⟨rfl,_,rfl⟩
  ·rintro i σ H' hi ⟨rfl,_⟩
   exact SqL.of r1
  ·rintro i v σ H' hv ⟨rfl,x,rfl⟩
   obtain ⟨qi,hqi,rfl⟩:=yc hv
   obtain ⟨o,ho,e⟩:=r2.at hqi
   obtain ⟨sd,hsd,rfl⟩:=yc ho
   have hT:SqT K H' qi [.str sd.name,.int sd.b,.int sd.n]:=SqT.of e
   have g:=hspl sd (List.mem_of_getElem? hsd)
   have t1:=htl i
   have n1:=g.1.1
   have n2:(Str.ofString (toString sd.b)).length ≤ 8:=(Cc (v:=sd.b) (by omega) (by omega)).1
   have n3:(Str.ofString (toString sd.n)).length ≤ 8:=(Cc (v:=sd.n) (by omega) (by omega)).1
   have hf:(Str.ofString "\nfree ").length=6:=by decide +kernel
   have hb1:(Str.ofString " ").length=1:=by decide +kernel
   (walk_at "RD")
   refine ⟨hbig _ (by omega),_,hT,_,mR sd,_,rfl,hbig _ (by rw [Ff];omega),hbig _ (by simp only [Ff];omega),_,hT,_,aQ sd,_,rfl,Zl (by omega),hbig _ (by simp only [Ff];omega),hbig _ (by simp only [Ff];omega),_,hT,_,gQ sd,_,rfl,Zl (by omega),hbig _ (by simp only [Ff];omega),?_,_,rfl⟩
   rw [ng hsd,eB]
  ·rintro σ H' ⟨rfl,x,rfl⟩
   rw [List.take_of_length_le (by rw [List.length_map,r2.1,List.length_map];exact Nat.le_refl _)]
   exact hD _ _ ⟨rfl,_,rfl⟩
 rintro σ1 H9 ⟨rfl,x8,rfl⟩
 (walk_at "RD"; repeat (simp only [Wd];walk_at "RD"))
 refine ⟨S7,by omega,by omega,by decide,S7,by omega,by omega,by decide,by decide,fun pb hpb=>⟨⟨_,SqL.of db⟩,?_⟩⟩
 have sb:Xb H9 (upd H9 pb (.lst [V.bl (decide (Ug ns 7 2=1)),V.bl (decide (Ug ns 7 2=0))])):=jb hpb
 have nb:NoT (upd H9 pb (.lst [V.bl (decide (Ug ns 7 2=1)),V.bl (decide (Ug ns 7 2=0))])):=(S7.nt).upd
 have eb:(upd H9 pb (.lst [V.bl (decide (Ug ns 7 2=1)),V.bl (decide (Ug ns 7 2=0))])) pb=some (.lst [V.bl (decide (Ug ns 7 2=1)),V.bl (decide (Ug ns 7 2=0))]):=db
 generalize upd H9 pb (.lst [V.bl (decide (Ug ns 7 2=1)),V.bl (decide (Ug ns 7 2=0))])=Hb at sb nb eb ⊢
 generalize decide (Ug ns 7 2=1)=b1 at eb ⊢
 generalize decide (Ug ns 7 2=0)=b2 at eb ⊢
 refine ni.list (xs:=[V.bl b1,V.bl b2]) (fun i σ H'=>Xb Hb H'∧NoT H'∧∃ x9 x10,σ=[some (.ref a),some (.ref tp),some (.ref wl),some (.ref c),some (.int (z:Nat)),some (.ref rl),some (.ref cl),some (.str (Wi z sp')),x8,x9,x10]) ?_ ?_ ?_ ?_
 ·exact ⟨Xb.refl _,nb,_,_,rfl⟩
 ·rintro i σ H' hi ⟨sm,_⟩
  exact SqL.of (sm _ _ eb)
 ·rintro i v σ H' hv ⟨sm,nt,x9,x10,rfl⟩
  have hvb:∃ b,v=.bl b:=by
   match i,hv with
   | 0,hv=>cases hv;exact ⟨_,rfl⟩
   | 1,hv=>cases hv;exact ⟨_,rfl⟩
   | i + 2,hv=>simp at hv
  obtain ⟨by_,rfl⟩:=hvb
  have s9:=sb.trans sm
  simp only [Pm,Bc,List.set_cons_succ,List.set_cons_zero]
  refine Td (fun σ' H''=>Xb Hb H''∧NoT H''∧∃ tq,H'' tq=some (tO (ee n z ds sp'))∧σ'=[some (.ref a),some (.ref tp),some (.ref wl),some (.ref c),some (.int (z:Nat)),some (.ref rl),some (.ref cl),some (.str (Wi z sp')),x8,some (.bl by_),some (.ref tq)]) (fun D' hD _ _ _=>?_) ?_
  ·(walk_at "RD")
   exact ⟨c,n,ds,z,rl,sp',by_,rfl,C7.same s9,A7,R7.same s9,nt,fun tq H'' s10 n10 e10=>hD _ _ ⟨sm.trans s10,n10,tq,e10,rfl⟩⟩
  rintro σ2 H10 ⟨s10,n10,tq,e10,rfl⟩
  have sH:=sb.trans s10
  obtain ⟨qc,k1,k2⟩:=L7.same sH
  have hqc:qc.length=cs.length:=by rw [k2.1,List.length_map]
  simp only [Bc]
  refine Rg (fun b H''=>b=false∧Xb H10 H''∧NoT H'') (fun Q hQ=>?_) (fun H'' r=>?_) (fun H11 r=>?_)
  ·(walk_at "RD")
   refine ⟨by decide,fun p1 hp1=>?_⟩
   have sp1:Xb H10 (upd H10 p1 (.lst [])):=jb hp1
   have np1:NoT (upd H10 p1 (.lst [])):=n10.upd
   have ep1:(upd H10 p1 (.lst [])) p1=some (.lst []):=db
   generalize upd H10 p1 (.lst [])=H11 at sp1 np1 ep1 ⊢
   rcases du with ⟨rfl,et⟩ | ⟨hne,_⟩
   ·have hq0:qc=[]:=List.length_eq_zero_iff.mp hqc
    subst hq0
    refine ⟨_,EqH.lst (k:=7) (e:=fun _=>true) (SqL.of (sp1 _ _ k1)) (SqL.of ep1) rfl (fun j x y h=>by simp at h),?_⟩
    rw [if_pos (by rfl)]
    refine ⟨by decide,fun p2 hp2=>⟨_,CM (a:=ee n z ds sp') (b:=(S "good",S "",-1)) (SqT.of ((jb hp2) _ _ (sp1 _ _ e10))) (SqT.of db),?_⟩⟩
    rw [et]
    exact hQ _ _ ⟨by simp,sp1.trans (jb hp2),np1.upd⟩
   ·refine ⟨_,EqH.lstN (k:=7) (SqL.of (sp1 _ _ k1)) (SqL.of ep1) (fun e=>hne ?_),?_⟩
    ·rw [List.length_map,hqc] at e
     exact List.length_eq_zero_iff.mp e
    ·rw [if_neg (by decide)]
     exact hQ _ _ ⟨rfl,sp1,np1⟩
  ·cases r.1
  obtain ⟨_,s11,n11⟩:=r
  have k1':=s11 _ _ k1
  have k2':=k2.same s11
  have e11:=s11 _ _ e10
  simp only [Jp,Bc]
  refine Rg (fun b H''=>b=false∧Xb H11 H''∧NoT H'') (fun Q hQ=>?_) (fun H'' r=>?_) (fun H12 r=>?_)
  ·(walk_at "RD")
   refine ⟨by decide,fun p1 hp1=>?_⟩
   have sp1:Xb H11 (upd H11 p1 (.lst [])):=jb hp1
   have np1:NoT (upd H11 p1 (.lst [])):=n11.upd
   have ep1:(upd H11 p1 (.lst [])) p1=some (.lst []):=db
   generalize upd H11 p1 (.lst [])=H12 at sp1 np1 ep1 ⊢
   rcases du with ⟨rfl,et⟩ | ⟨hne,hmem⟩
   ·have hq0:qc=[]:=List.length_eq_zero_iff.mp hqc
    subst hq0
    refine ⟨_,EqH.lst (k:=7) (e:=fun _=>true) (SqL.of (sp1 _ _ k1')) (SqL.of ep1) rfl (fun j x y h=>by simp at h),?_⟩
    rw [if_neg (by decide)]
    exact hQ _ _ ⟨rfl,sp1,np1⟩
   ·refine ⟨_,EqH.lstN (k:=7) (SqL.of (sp1 _ _ k1')) (SqL.of ep1) (fun e=>hne ?_),?_⟩
    ·rw [List.length_map,hqc] at e
     exact List.length_eq_zero_iff.mp e
    ·rw [if_pos (by decide)]
     have k3:=k2'.same sp1
     refine ⟨qc,SqL.of (sp1 _ _ k1'),inC H12 (ee n z ds sp'),fun q hq=>?_,?_⟩
     ·obtain ⟨j,hj⟩:=List.getElem?_of_mem hq
      obtain ⟨o,ho,e⟩:=k3.at hj
      obtain ⟨d,hd,rfl⟩:=yc ho
      rw [GJ e]
      exact CM (SqT.of e) (SqT.of (sp1 _ _ e11))
     ·have hany:qc.any (inC H12 (ee n z ds sp'))=true:=by
       obtain ⟨j,hj⟩:=List.getElem?_of_mem hmem
       have hjq:j < qc.length:=by rw [hqc];exact (List.getElem?_eq_some_iff.mp hj).1
       have hqj:qc[j]? = some qc[j]:=List.getElem?_eq_getElem hjq
       have e:=k3.2 j _ _ hqj (show (List.map tO cs)[j]? = some (tO (ee n z ds sp')) by rw [List.getElem?_map,hj];rfl)
       exact List.any_eq_true.mpr ⟨qc[j],List.getElem_mem hjq,by rw [GJ e];simp⟩
      rw [hany]
      exact hQ _ _ ⟨rfl,sp1,np1⟩
  ·cases r.1
  obtain ⟨_,s12,n12⟩:=r
  have e12:=s12 _ _ e11
  simp only [Jp]
  refine Rb false (fun Q hQ=>?_) (fun hc=>?_) (fun _=>?_)
  ·(walk_at "RD")
   have h2:atI [V.str (ee n z ds sp').1,.str (ee n z ds sp').2.1,.int (ee n z ds sp').2.2] 2=some (.int (ee n z ds sp').2.2):=Ic (j:=2) rfl
   refine ⟨_,SqT.of e12,_,h2,_,.int _,_,rfl,?_⟩
   rw [if_neg (by decide)]
   exact ⟨_,SqT.of e12,_,h2,_,.int _,_,rfl,hQ⟩
  ·cases hc
  ·exact ⟨(s10.trans s11).trans s12,n12,_,_,rfl⟩
 ·rintro σ H' ⟨sm,nt,x9,x10,rfl⟩
  (walk_at "RD")
  exact q _
end
end My
structure PySem.W.Fast:Prop where(tw10926508130775986652 tw5574758953030578104 tw11350465928668398024 tw10111225927085834245 tw358066638831697987 tw3415792950858359281 tw16212349499391204960 tw6636949291975580026 tw13904492040604080030 tw8428736338495340026 tw7178856820554201305 tw10804137972097406565 tw3718179212615243982 tw13338489192241061542 tw4725966868337690666 tw3954726711585426641 tw838963851385559317 tw15409379182118929600 tw4059822516663476530 tw12556461036253863316 tw598767522188417941 tw9473124997049921800 tw14740684765802331701 tw10443255502258912892 tw115888812724853283 tw6981386010727454239 tw10620982103104086118 tw13596345897337681940 tw4807230388152392155 tw10435723554482432752 tw14467630674901521953 tw15041649272398834172 tw3183398530986388470 tw9057814180581377126 tw7439794989497001928 tw11038750810400073774 tw17531139746382521296 tw16615501471914512050 tw12152852070534348723 tw4654276705466084992 tw765813180438549606 tw9121124993016420610 tw11748428344941443175 tw17428647253157027894 tw14844893969049386657 tw9084202795258965895 tw4137012849140810627 tw7672912694672207326 tw15532838294186175108 tw5867058087209067457 tw16712670874516260001 tw14314838540849082225 tw7379936898144678765 tw6560084445518631631 tw12126105135523774363 tw4575270454908891956 tw9318370565471953011 tw17512836602822066283 tw9285284363685641957 tw208107413390842783 tw8604847620578070948 tw5710140429697745153 tw9448726670888459759 tw17969699813386538888 tw17863173829189544578 tw9390209465384904154 tw6275453770664166280 tw264685550419505155 tw291929913171431479 tw14441118376543445656 tw17503302949147919222 tw15299614953931932383 tw2684896764568745814 tw6533257606638101274 tw8560404115014694473 tw6192496025999488105 tw13955148506015383466 tw7561862523500683034 tw11894559845825620462 tw10735456562446086880 tw7658787147428070153 tw7367025181191195078 tw14143658268906487775 tw5137381811771434147 tw1610717672654112336 tw13565449828251389757 tw12586966587031873821 tw3318113727754828983 tw13087313799832651586 tw11606451271579589461 tw12139993136291067196 tw4337501840165173011 tw10820662856584457216 tw11939950269448327516 tw15730554370604370647 tw10055055138028808957 tw9488386417090971347 tw9826094697371107948 tw11492257405457956833 tw3504296050974668317 tw2061605005351309556 tw15522968290038561380 tw5841617413452027690 tw687097022257580761 tw6586310141529998807 tw9286307650844540382 tw5521088978784176261 tw2248921021295550331 tw10794649491293244578 tw15943350313011212976 tw17504288387729041183 tw4809731254894107613 tw18293503872761965249 tw1480073174391968790 tw14458016328583847079 tw11802130504730339051 tw11917680030439590897 tw8728205076224849325 tw6090344528760622614 tw16379127935974371714 tw13966007097497786675 tw6960016373272930658 tw9823918006587708325 tw9397741441184671199 tw2713720922024222795 tw14090830805287391199 tw4042001160663494219 tw18283833789668654174 tw15157989119299474506 tw8591439662886954094 tw6126677747742435350 tw1331431309892842219 tw7270677553341407285 tw9961039387153278525 tw8591168455870255367 tw9275611533108498961 tw16812937797167863087 tw4070516637345061940 tw17070111465031290287 tw15815194675610571483 tw11581776797196938064 tw5089253125824538034 tw387328135339361614 tw12787419481911543921 tw13036114486870657112 tw5874720691351001682 tw2059908306793605518 tw14277782685401183304 tw9653475667759691433 tw2218302784701049681 tw7048858789856856477 tw10282604868601810162 tw7101931407055121767 tw14044111988098884021 tw15768612570859760377 tw11362304472327909283 tw6935585183158950151 tw420275966385406898 tw15684195359885137984 tw9422355178371689719 tw15812355750055977206 tw15673838743353135681 tw5430550673440593917 tw8750913878255135785 tw10571023836071952045 tw2857865590162959092 tw15362443816013723720 tw5480850314145663189 tw9853910931739320371 tw10541115245218017371 tw5366016402615275532 tw12771502481190886755 tw5688614216152237583 tw2677017984284043461 tw8609199204317473729 tw5871570975803621367 tw6817552846957341905 tw14513185878760767486 tw14389704650982374697 tw13253560192005905061 tw12957231696731521579 tw4942850009498989597 tw506354840955621052 tw8802214992298066365 tw12596237803995067192 tw10664294427069448947 tw6180669942922315340 tw15274810911896266512 tw1771838124705390691 tw3770504902130346244 tw11804766636748530689 tw10116545976328398635 tw13453224588263576286 tw13804070174166366702 tw8479609747530104496 tw9338420218686693302 tw190394866780321916 tw10684492189712431309 tw7383937231216536277 tw14344030869522643212 tw4087599444634471280 tw3286366931777749651 tw7871182346075820912 tw18325700085267034816 tw13353853524971753965 tw5300712698639541794 tw2853478801166731902 tw1903699203896275520 tw15210558901937327963 tw8215602961198419586 tw10805596552102626052 tw16146188139517208605 tw11675736232776947463 tw12583164893988776452 tw2890630270691982061 tw11483276499550504412 tw10109137520595951651 tw3904450870367902076 tw11199150697090184034 tw208396064093999573 tw15933372207401448555 tw13224369130169868500 tw10172606224415232857 tw13728880203427677532 tw6166912819663498235 tw13406398253801266193 tw7055034779436362583 tw1043514972039351255 tw2599015239625379598 tw3408961138282847718 tw13667843375845068941 tw5387292110806724901 tw688854076885394156 tw7204925160911734413 tw13626513028959341529 tw14129008522972445564 tw9347297870701306780 tw12803338965168772247 tw14492651956118924085 tw12978163468342713017 tw11456655464547824235 tw17009544503483165316 tw10472283737617330679 tw523142752415052226 tw11989506348910197209 tw658898258395086588 tw4391834341562963180 tw1493554393405482280 tw15045009100973372072 tw2578756187093173144 tw9332178098587429769 tw16830376141333390347 tw7006440883132484754 tw7459780891116267788 tw11816075974311322519 tw2442046998812759898 tw8013959506007781076 tw448461608991510986 tw2172499929771516429 tw16102132614717751200 tw4451714294253503777 tw6293303769882101089 tw4350690165198934143 tw2425479384094058333 tw16116610457268351147 tw2495218505134583538 tw15738801446824306588 tw13303406321680679967 tw17066916975905956029 tw3342181909119679747 tw6956056732743420495 tw4538525536663920884 tw8285792621516387668 tw12680474425508567970 tw9417480354545677036 tw6164043201448604771 tw690214540585304376 tw4264368265705981896 tw1573674959092691646 tw3238303111074107052 tw5056545594049651866 tw6707860921639554831 tw7885850870866742596 tw11732047167443444540 tw2854821393036261779 tw17502363681513682250 tw4464902985938004883 tw3887187392742133082 tw9124075206115632628 tw3888483656818424941 tw15944691217423324880 tw11754527172682504008 tw4152246078686360431 tw12806023341554623377 tw9537011100383327850 tw17684762592991669393 tw2416614835441772827 tw4334088859662491467 tw8461132881186577106 tw3360297160970429540 tw660188475000623944 tw17560214663759746023 tw856735740692007449 tw5283409939095834900 tw8947102797849784986 tw4596428670180968161 tw15607332769041505285 tw793276943372242736 tw9916185648282106785 tw4367021796101290277 tw782323586330112238 tw3159033847515739012 tw9825565506239166781 tw4790414546716127742 tw3332539245650505496 tw16966313133799223577 tw1648276873774760775 tw354127327687810257 tw9682203377232274310 tw3333650993208876916 tw13212205284596357219 tw16118102435845527223 tw4063878507633435320 tw8684639102191654425 tw3676737308434574353 tw9182398987982819185 tw1163862242450781658 tw1578351652841272515 tw12059748825719388599 tw8411937578714324244 tw17472309953179103826 tw13424152412653916854 tw9583546244718462767 tw5498318171238729937 tw7512417736097584862 tw18152302118558557664 tw6963369244130345146 tw6523692672414708484 tw13904268595009135911 tw15296487659768848058 tw8513217658080392057 tw8899800077229957548 tw7208418766036715570 tw5732474187612869921 tw4662271866577899378 tw3411242262559177486 tw12400447528087999965 tw518730762260525335 tw11902372392610550414 tw2374227717796205286 tw14335013632522082773 tw13874249916505649189 tw10703247725807898907 tw16328185686601680666 tw15730794520663047179 tw9228022725124619223 tw11714792272927938099 tw14854444208810483104 tw17684705322412014095 tw6875207748871282003 tw15431335537692304049 tw8575693691231773788 tw14223507616985703820 tw573445120294301371 tw15630723945459524669 tw6164852089555466421 tw18039094168882968361 tw18362586115822082593 tw11385992792704060428 tw7339303076872429400 tw1312024603787599785 tw6672686443296767639 tw2017839751251441749 tw12925459217756827876 tw11593290372472337473 tw8918141068708135754 tw17915993566169958541 tw14695895374505254587 tw13914891825038712025 tw2172996944409767029 tw17201285245509670850 tw5973128717578703042 tw13267194478692629629 tw7816004421373321157 tw12950643250426393213 tw17391167532904142986 tw11226520973826367183 tw5198051320649139806 tw4572824483580835731 tw287644736872067219 tw6555870383479891477 tw3293773146524598273 tw5463219806202402250 tw17433192152286197080 tw8995658172405626800 tw12030232766281491070 tw14356901401044188200 tw8311726007396666153 tw8221514055932696647 tw2556297807162368016 tw13617554284622558030 tw17391774863976936288 tw8934727207966637622 tw3735848361832394788 tw711342733339717997 tw4018647368140015121 tw13084993425029852366 tw10280606201263552990 tw3997312673611814538 tw17866280637979314467 tw6328273792180973349 tw17461763580356367964 tw12962726172733806131 tw6927475926396639549 tw7561530310987976518 tw5989218725072976666 tw12300186746668080472 tw3213319766878323794 tw14388351791078085254 tw9418270974840291825 tw9909129316463191677 tw15960691904826070246 tw17620155758100965491 tw8138590203735742801 tw17050756619529811778 tw2548790095929114690 tw3317639958280633836 tw2716803696861087693 tw12768727133974486073 tw6443429820017979228 tw5324243163966429429 tw12230456705073060444 tw11092952508790115603 tw2986353935500405896 tw811032180454763538 tw17772732105246006897 tw1069864074590513108 tw6522352322360121498 tw14169794051706070232 tw4658236983794335655 tw1404975584233123419 tw11534981228930513815 tw8757669721514177908 tw17332613473899663676 tw1874779734192500103 tw11316396438869490989 tw8253643335285369478 tw4212421607672990798 tw3605157174683373556 tw14762316787415134210 tw14387990037548046691 tw4020190623141676322 tw6289660529876472511 tw16844439317203310954 tw3330312289917961518 tw8398655758656021168 tw8344897175754771562 tw8332087677927394477 tw8704540880779570700 tw2029383071803155799 tw11827160093510788147 tw9860606157591620261 tw17288697413138426331 tw11348271886076401321 tw5780438339418779966 tw14736541674693542231 tw10815184439822850667 tw15595268691762388722 tw18283893329379193917 tw1114100400151338061 tw1808864088937651233 tw15064009547992802332 tw7007343378157168068 tw1350327782716367855 tw4206960911106924201 tw7471566549969883772 tw3588690596416544625 tw14599965741991081660 tw9261010740649348786 tw15572391120292024154 tw752405525612384763 tw741786153491186650 tw14834459856461831690 tw10154564459637580167 tw737394461632446509 tw12038043846797231352 tw1179432317860453607 tw10445399477658395094 tw13973082945045430350 tw7298363088581169539 tw1501391995088939617 tw4164100869985155380 tw17770588332614176292 tw9441765235540670254 tw11558344982774685916 tw6735365100549949255 tw3393707395309201013 tw5562095058875180197 tw10091073311117217804 tw16807613222521144796 tw16536467811393776161 tw7599496195469017997 tw8762919281102996631 tw5466374281759173244 tw15198262204717252360:True)
open PySem PySem.W PyProof.Rows
set_option maxRecDepth 100000 in
set_option maxHeartbeats 0 in
theorem PySem.Challenge.cw_lampway_k15_a_clash_holds : PySem.Challenge.rw_lampway_k15_a_clash.Holds := by
 w_on;o_law;k_head;(case hw=>w_witness2)
 k_fill
 refine L2.UG (l:=PySem.Challenge.rw_lampway_k15_a_clash) (n:=63) (k:=10) (x := "_law_script") (CX:=L2.CX0) (sp:=L2.JN) rfl (by decide) rfl ⟨rfl,by decide,by decide⟩ (fun w h Y=>PySem.W.kIn_of Y) ?F ?S ?C
 case F=>
  intro w mg fa h KX G hmg
  have T:∃ t,My.Txt w (L2.KOf KX) mg t:=by
   dsimp only [L2.KOf]
   refine' ⟨My.Adr.mk,⟨?maa,?Fab,?mac,?Fad,?mae,?Faf,?mag,?Fah,?mai,?Faj,?mak,?Fal,?mam,?Fan,?mao,?Fap,?maq,?Far,?mas,?Fat,?mau,?Fav,?maw,?Fax,?may,?Faz,?mba,?Fbb,?mbc,?Fbd,?mbe,?Fbf,?mbg,?Fbh,?mbi,?Fbj,?mbk,?Fbl,?mbm,?Fbn,?mbo,?Fbp,?mbq,?Fbr,?mbs,?Fbt,?mbu,?Fbv,?mbw,?Fbx,?mby,?Fbz,?mca,?Fcb,?mcc,?Fcd,?mce,?Fcf,?mcg,?Fch,?mci,?Fcj,?mck,?Fcl,?mcm,?Fcn,?mco,?Fcp,?mcq,?Fcr,?mcs,?Fct,?mcu,?Fcv,?mcw,?Fcx,?mcy,?Fcz,?mda,?Fdb,?mdc,?edd,?Fde,?mdf,?edg,?Fdh,?mdi,?edj,?Fdk,?mdl,?edm,?Fdn,?mdo,?edp,?Fdq,?edr,?Fds,?edt,?Fdu,?edv,?Fdw,?edx,?Fdy,?edz,?Fea,?eeb,?Fec,?eed,?Fee,?mef,?eeg,?Feh,?mei,?eej,?Fek,?mel,?eem,?Fen,?eeo,?Fep,?eeq,?Fer,?mes,?eet,?Feu,?eev,?Few,?eex,?Fey,?mez,?efa,?Ffb,?efc,?Ffd,?efe,?Fff,?mfg,?efh,?Ffi,?efj,?Ffk,?efl,?Ffm,?efn,?Ffo,?sfp,?sfq,?sfr,?sfs,?sft,?sfu,?sfv,?sfw,?sfx,?nfy,?nfz,?nga,?sgb,?sgc,?ngd,?nge,?ngf,?ngg,?ngh,?sgi,?ngj,?ngk,?ngl,?ngm,?ngn,?ngo,?ngp,?sgq,?sgr,?sgs,?sgt,?ngu,?ngv,?ngw,?ngx,?ngy,?ngz,?nha,?shb,?shc,?shd,?she,?nhf,?nhg,?nhh,?nhi,?nhj,?nhk,?nhl,?shm,?shn,?sho,?shp,?nhq,?nhr,?nhs,?nht,?nhu,?nhv,?nhw,?shx,?shy,?shz,?sia,?sib,?nic,?nid,?nie,?mif,?sig,?xih,?Xii,?nij,?nik,?sil,?rim,?rin,?rio,?rip,?riq,?rir,?ris,?rit,?riu,?riv,?riw,?rix,?riy,?riz,?mja,?xjb,?Xjc,?njd,?sje,?rjf,?rjg,?rjh,?rji,?rjj,?rjk,?rjl,?rjm,?rjn,?rjo,?rjp,?rjq,?rjr,?rjs,?xjt,?Xju,?njv,?njw,?sjx,?rjy,?rjz,?rka,?rkb,?rkc,?rkd,?rke,?rkf,?rkg,?rkh,?rki,?rkj,?rkk,?rkl,?xkm,?Xkn,?nko,?nkp,?nkq,?skr,?rks,?rkt,?rku,?rkv,?rkw,?rkx,?rky,?rkz,?rla,?rlb,?rlc,?rld,?rle,?rlf,?mlg,?mlh,?mli,?dlj,?dlk,?dll,?dlm,?dln,?dlo,?slp,?mlq,?vlr,?mls,?vlt,?mlu,?vlv,?mlw,?vlx,?mly,?vlz,?mma,?vmb,?mmc,?vmd,?mme,?vmf,?mmg,?vmh,?mmi,?vmj,?mmk,?vml,?mmm,?vmn,?bmo,?bmp,?bmq,?bmr,?bms,?bmt,?bmu,?bmv,?bmw,?bmx,?bmy,?bmz,?bna,?lnb⟩⟩
   case maa | mac | mae | mag | mai | mak | mam | mao | maq | mas | mau | maw | may | mba | mbc | mbe | mbg | mbi | mbk | mbm | mbo | mbq | mbs | mbu | mbw | mby | mca | mcc | mce | mcg | mci | mck | mcm | mco | mcq | mcs | mcu | mcw | mcy | mda | mdc | mdf | mdi | mdl | mdo | mef | mei | mel | mes | mez | mfg | mif | mja | mlg | mlh | mli | mlq | mls | mlu | mlw | mly | mma | mmc | mme | mmg | mmi | mmk | mmm=>(try dsimp only);refine' PySem.W.mg_of KX G ?z;case z=>k_is
   case edd | edg | edj | edm | edp | edr | edt | edv | edx | edz | eeb | eed | eeg | eej | eem | eeo | eeq | eet | eev | eex | efa | efc | efe | efh | efj | efl | efn=>(try dsimp only);k_is
   case sfp | sfq | sfr | sfs | sft | sfu | sfv | sfw | sfx | sgb | sgc | sgi | sgq | sgr | sgs | sgt | shb | shc | shd | she | shm | shn | sho | shp | shx | shy | shz | sia | sib | sig | sil | sje | sjx | skr | slp=>(try dsimp only);constructor <;> k_is
   case Fab | Fad | Faf | Fah | Faj | Fal | Fan | Fap | Far | Fat | Fav | Fax | Faz | Fbb | Fbd | Fbf | Fbh | Fbj | Fbl | Fbn | Fbp | Fbr | Fbt | Fbv | Fbx | Fbz | Fcb | Fcd | Fcf | Fch | Fcj | Fcl | Fcn | Fcp | Fcr | Fct | Fcv | Fcx | Fcz | Fdb | Fde | Fdh | Fdk | Fdn | Fdq | Fds | Fdu | Fdw | Fdy | Fea | Fec | Fee | Feh | Fek | Fen | Fep | Fer | Feu | Few | Fey | Ffb | Ffd | Fff | Ffi | Ffk | Ffm | Ffo=>(try dsimp only);refine' L2.wM ?x ?y ?z;(case x=>k_is);(case y=>k_is);(case z=>k_is)
   case nfy | nfz | nga | ngd | nge | ngf | ngg | ngh | ngj | ngk | ngl | ngm | ngn | ngo | ngp | ngu | ngv | ngw | ngx | ngy | ngz | nha | nhf | nhg | nhh | nhi | nhj | nhk | nhl | nhq | nhr | nhs | nht | nhu | nhv | nhw | nic | nid | nie | nij | nik | njd | njv | njw | nko | nkp | nkq=>(try dsimp only);unfold L2.Db;k_is
   case rim | rin | rio | rip | riq | rir | ris | rit | riu | riv | riw | rix | riy | riz | rjf | rjg | rjh | rji | rjj | rjk | rjl | rjm | rjn | rjo | rjp | rjq | rjr | rjs | rjy | rjz | rka | rkb | rkc | rkd | rke | rkf | rkg | rkh | rki | rkj | rkk | rkl | rks | rkt | rku | rkv | rkw | rkx | rky | rkz | rla | rlb | rlc | rld | rle | rlf=>(try dsimp only);kernel_rfl
   case xih | xjb | xjt | xkm=>(try dsimp only);refine' ⟨?_,by kernel_rfl,?_,?_,?_⟩ <;> k_is
   case Xii | Xjc | Xju | Xkn=>(try dsimp only);refine' L2.FM ?x (by kernel_rfl) ?y;(case x=>k_is);(case y=>k_is)
   case dlj | dlk | dll | dlm | dln | dlo=>(try dsimp only);decide
   case vlr | vlt | vlv | vlx | vlz | vmb | vmd | vmf | vmh | vmj | vml | vmn=>(try dsimp only);exact ⟨_,rfl⟩
   case bmo | bmp | bmq | bmr | bms | bmt | bmu | bmv | bmw | bmx | bmy | bmz | bna=>(try dsimp only);refine' PySem.W.mg_none_of KX G ?z;case z=>k_is
   case lnb=>(try dsimp only);exact fun _ _=>.of_eq rfl
  obtain ⟨t,T⟩:=T
  have e0:=hmg.symm.trans T.vP
  cases e0
  exact ⟨t.HH,T.VM,fun base kb nb=>My.zO T⟩
 case S=>exact fun K H a ns hl hO hS=>⟨a,ns,rfl,L2.Sc.of_only hO hS,hl,fun _=>rfl⟩
 case C=>exact fun _ _ _ _ z=>z
