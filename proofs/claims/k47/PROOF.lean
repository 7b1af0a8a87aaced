import PyProof.Rows.All
import Wide.All
import OpenK.AllK
import Wide.FinOn
import Lean
import PyProof.EqAt
import PyProof.EqKinds
import PyProof.TupleCall
import KE.KTryMore
import PyProof.NsDelKeeps
import PySem.Challenge.RW_lampway_k47_whole_queues_by_rounds
set_option Elab.async false
set_option linter.all false
set_option maxRecDepth 100000
namespace L2
open PySem PySem.Spec PyProof.Rows
noncomputable abbrev Key:=Sum Int Str
noncomputable def QB:Key→Value→Bool
 | .inl k,v=>Value.isInt k v
 | .inr x,v=>Value.isStrOf x v
noncomputable def wS (w:World):Key→Int
 | .inl k=>hashInt k
 | .inr x=>hashStr w x
theorem Qd:∀ {k:Key} {v:Value},QB k v=true→(∃ i t,k=Sum.inl i∧v=Value.int i t)∨(∃ x t,k=Sum.inr x∧v=Value.str x t)
 | .inl i,v,h=>by
  obtain ⟨t,e⟩:=Value.isInt_shape (k:=i) (v:=v) h
  exact .inl ⟨i,t,rfl,e⟩
 | .inr x,v,h=>by
  obtain ⟨t,e⟩:=Value.isStrOf_shape (x:=x) (v:=v) h
  exact .inr ⟨x,t,rfl,e⟩
theorem lD (i:Int) (t:Tok):QB (.inl i) (.int i t)=true:=by simp [QB,Value.isInt]
theorem VC (x:Str) (t:Tok):QB (.inr x) (.str x t)=true:=by simp [QB,Value.isStrOf]
theorem rN (a b:Int):decide ((Sum.inl a:Key)=Sum.inl b)=(a == b):=by
 by_cases e:a=b
 ·subst e;simp
 ·have h:¬ (Sum.inl a:Key)=Sum.inl b:=fun q=>e (Sum.inl.inj q)
  rw [decide_eq_false h]
  exact (beq_eq_false_iff_ne.mpr e).symm
theorem vP (a b:Str):decide ((Sum.inr a:Key)=Sum.inr b)=decide (a=b):=by
 by_cases e:a=b
 ·subst e;simp
 ·have h:¬ (Sum.inr a:Key)=Sum.inr b:=fun q=>e (Sum.inr.inj q)
  rw [decide_eq_false h,decide_eq_false e]
theorem UO (a:Int) (b:Str):decide ((Sum.inl a:Key)=Sum.inr b)=false:=decide_eq_false (fun q=>nomatch q)
theorem gP (a:Str) (b:Int):decide ((Sum.inr a:Key)=Sum.inl b)=false:=decide_eq_false (fun q=>nomatch q)
noncomputable def Fe (prog:Program) (w:World):PySem.KeyKind prog w Key where
 is:=QB
 hash:=wS w
 inj:=fun v a b ha hb=>by
  rcases Qd ha with ⟨i,t,rfl,rfl⟩ | ⟨x,t,rfl,rfl⟩
  ·rcases Qd hb with ⟨j,u,rfl,e⟩ | ⟨y,u,rfl,e⟩
   ·injection e with e1 _;rw [e1]
   ·exact nomatch e
  ·rcases Qd hb with ⟨j,u,rfl,e⟩ | ⟨y,u,rfl,e⟩
   ·exact nomatch e
   ·injection e with e1 _;rw [e1]
 byValue:=fun k v h=>by
  rcases Qd h with ⟨i,t,rfl,rfl⟩ | ⟨x,t,rfl,rfl⟩ <;> rfl
 pyHash:=fun hv h=>by
  rcases Qd hv with ⟨i,t,rfl,rfl⟩ | ⟨x,t,rfl,rfl⟩
  ·exact wpAny_pyHash_int h
  ·exact wpAny_pyHash_str h
 eqBool:=fun hu hv h=>by
  rcases Qd hu with ⟨i,t,rfl,rfl⟩ | ⟨x,t,rfl,rfl⟩
  ·rcases Qd hv with ⟨j,u,rfl,rfl⟩ | ⟨y,u,rfl,rfl⟩
   ·rw [rN] at h;exact wpAny_eqBool_int h
   ·rw [UO] at h;exact SeqAt.EqAt.int_str i t y u _ _ _ _ h
  ·rcases Qd hv with ⟨j,u,rfl,rfl⟩ | ⟨y,u,rfl,rfl⟩
   ·rw [gP] at h;exact SeqAt.EqAt.str_int x t j u _ _ _ _ h
   ·rw [vP] at h;exact wpAny_eqBool_str h
 «strs»:=fun k x t v h=>by
  rcases Qd h with ⟨i,u,rfl,e⟩ | ⟨y,u,rfl,e⟩
  ·exact nomatch e
  ·injection e with e1 _
   subst e1
   cases v <;> rfl
theorem gy (prog:Program) (w:World) (i:Int) (t:Tok):(Fe prog w).is (.inl i) (.int i t)=true:=lD i t
theorem zy (prog:Program) (w:World) (x:Str) (t:Tok):(Fe prog w).is (.inr x) (.str x t)=true:=VC x t
end L2
namespace L2
open PySem PySem.Spec PyProof.Rows
inductive V where
 | non | bl (b:Bool) | int (i:Int) | str (x:Str) | byt (b:Array UInt8) | flt (b:UInt64) | ref (a:Addr) | ty (n:String)
 deriving DecidableEq
noncomputable def ud:V→Value→Prop
 | .non,u=>u=Value.none
 | .bl b,u=>u=Value.bool b
 | .int i,u=>∃ t,u=Value.int i t
 | .str x,u=>∃ t,u=Value.str x t
 | .byt b,u=>∃ t,u=Value.bytes b t
 | .flt b,u=>∃ t,u=Value.float b t
 | .ref a,u=>u=Value.ref a
 | .ty n,u=>u=Value.type n
noncomputable abbrev jd:List V→List Value→Prop:=Paired ud
theorem jd.length {xs:List V} {us:List Value} (r:jd xs us):xs.length=us.length:=Paired.length r
theorem jd.get:∀ {xs:List V} {us:List Value} {i:Nat} {x:V},jd xs us→xs[i]? = some x→∃ u,us[i]? = some u∧ud x u
 | _,_,_,_,.nil,e=>by simp at e
 | _,_,0,_,.cons r _,e=>by simp at e;subst e;exact ⟨_,rfl,r⟩
 | _,_,i + 1,x,.cons _ t,e=>by
  obtain ⟨u,h1,h2⟩:=jd.get (i:=i) (x:=x) t (by simpa using e)
  exact ⟨u,by simpa using h1,h2⟩
theorem jd.set {x:V} {u:Value} (r:ud x u):∀ {xs:List V} {us:List Value} (i:Nat),jd xs us→jd (xs.set i x) (us.set i u)
 | _,_,_,.nil=>.nil
 | _,_,0,.cons _ t=>.cons r t
 | _,_,i + 1,.cons q t=>.cons q (jd.set r i t)
theorem jd.append:∀ {xs ys:List V} {us ws:List Value},jd xs us→jd ys ws→jd (xs ++ ys) (us ++ ws)
 | _,_,_,_,.nil,s=>s
 | _,_,_,_,.cons r t,s=>.cons r (jd.append t s)
theorem jd.take:∀ {xs:List V} {us:List Value} (n:Nat),jd xs us→jd (xs.take n) (us.take n)
 | _,_,0,_=>.nil
 | _,_,_ + 1,.nil=>.nil
 | _,_,n + 1,.cons r t=>.cons r (jd.take n t)
theorem jd.drop:∀ {xs:List V} {us:List Value} (n:Nat),jd xs us→jd (xs.drop n) (us.drop n)
 | _,_,0,r=>r
 | _,_,_ + 1,.nil=>.nil
 | _,_,n + 1,.cons _ t=>jd.drop n t
theorem jd.none_of:∀ {xs:List V} {us:List Value} {i:Nat},jd xs us→xs[i]? = none→us[i]? = none:=fun {xs us i} r e=>by
 have h1:=r.length
 have h2:xs.length ≤ i:=List.getElem?_eq_none_iff.mp e
 exact List.getElem?_eq_none_iff.mpr (by omega)
noncomputable def Bs:Option V→Option Value→Prop
 | some v,some u=>ud v u
 | none,none=>True
 | _,_=>False
noncomputable def KV {κ:Type}:List (κ × V)→List (κ × Value)→Prop:=Paired fun (p:κ × V) (q:κ × Value)=>p.1=q.1∧ud p.2 q.2
noncomputable def kV:Key→V
 | .inl i=>.int i
 | .inr x=>.str x
inductive HO where
  | lst (xs:List V)
  | tup (xs:List V)
  | dK (kvs:List (Key × V)) | dT (kvs:List (List Key × V))
  | set (S:Int→Bool) (n:Nat)
  | ins (C dx:Addr) (fs:List (Str × V))
  | own (x:Addr)
  | xd (fs:List (Str × V))
  | met (f x:Addr)
  | rng (lo hi:Int)
  | frz (o:Obj) (u:HO)
  | tbl (ps:Array Value)
  | ext (φ:Heap→Prop)
noncomputable abbrev Hp:=Addr→Option HO
noncomputable def upd (H:Hp) (a:Addr) (o:HO):Hp:=fun b=>if b=a then some o else H b
theorem fb {H:Hp} {a:Addr} {o:HO}:upd H a o a=some o:=by unfold upd;rw [if_pos rfl]
theorem pb {H:Hp} {a b:Addr} {o:HO} (h:b ≠ a):upd H a o b=H b:=by unfold upd;rw [if_neg h]
theorem Bj {H:Hp} {a:Addr} {o u:HO}:upd (upd H a o) a u=upd H a u:=by
 funext b;unfold upd;split <;> rfl
theorem Ag {H:Hp} {a b:Addr} {o u:HO} (h:H a=some o) (h':H b=some u) (d:o ≠ u):a ≠ b:=by
 intro e;subst e;rw [h] at h';exact d (Option.some.inj h')
theorem ub {H:Hp} {a b:Addr} {o:HO} (h:H a=some o) (h':H b=none):a ≠ b:=by
 intro e;subst e;rw [h] at h';cases h'
section
variable (P:Program) (w:World)
noncomputable def gd (H:Hp) (h:Heap) (a:Addr):HO→Prop
 | .lst xs=>xs.length ≤ sizeLine∧∃ (its:List Value) (n:Nat),jd xs its∧h.get? a=some { cls:=.type "list",data:=.seq its.toArray n }
 | .tup xs=>xs.length ≤ sizeLine∧∃ its:List Value,jd xs its∧IsTup h a its.toArray
 | .dK kvs=>kvs.length ≤ sizeLine∧(a == sysModules)=false∧∃ vs,KV kvs vs∧h.DictOf (Fe P w) a vs
 | .dT kvs=>kvs.length ≤ sizeLine∧(a == sysModules)=false∧∃ xs:List (List Key × Addr × Value),
   Paired (fun (p:List Key × V) (q:List Key × Addr × Value)=>p.1=q.1∧H q.2.1=some (.tup (p.1.map kV))∧ud p.2 q.2.2) kvs xs ∧
   ∃ o es ep,h.get? a=some o∧o.ExactDict∧o.data=.dict es ep∧es.toList=xs.map (entryOfKey (tupleKind (Fe P w)))∧(xs.map (·.1)).Nodup
 | .set S n=>h.SetOf (intKind P w) a S n
 | .ins C dx fs=>H dx=some (.own a)∧fs.length ≤ 1000∧dx ≠ a∧h.get? a=some (PySem.W.instObj C dx) ∧
   ∃ mA,h.Ns1 dx mA∧(∀ f,Bs (fs.lookup f) (mA f))∧PySem.Within mA (fs.map (·.1))
 | .own _=>∃ o,h.get? a=some o
 | .xd fs=>∃ mA,h.Ns1 a mA∧∀ f,Bs (fs.lookup f) (mA f)
 | .rng lo hi=>∃ t u v,h.get? a=some { cls:=.type "range",data:=.fields #[.int lo t,.int hi u,.int 1 v] }
 | .frz o u=>h.get? a=some o∧gd H h a u
 | .tbl ps=>h.get? a=some { cls:=.none,data:=.fields ps }
 | .met f x=>h.get? a=some (PySem.W.methodObj (.ref f) (.ref x))
 | .ext φ=>φ h∧(∃ o,h.get? a=some o)∧∀ h1 h2:Heap,φ h1→(∀ o,h1.get? a=some o→h2.get? a=some o)→φ h2
noncomputable def HOk (H:Hp) (h:Heap):Prop:=∀ a o,H a=some o→gd P w H h a o
end
section
variable {P:Program} {w:World} {H H':Hp} {h h':Heap} {a:Addr} {o:HO}
theorem gd.lt (x:gd P w H h a o):a < h.objs.size:=by
 cases o with
 | lst xs=>obtain ⟨_,_,_,_,e⟩:=x;exact Heap.lt_size e
 | tup xs=>obtain ⟨_,_,_,p⟩:=x;exact p.lt
 | dK kvs=>obtain ⟨_,_,_,_,o,_,_,e,_⟩:=x;exact Heap.lt_size e
 | dT kvs=>obtain ⟨_,_,_,_,o,_,_,e,_⟩:=x;exact Heap.lt_size e
 | set S n=>obtain ⟨o,_,_,_,e,_⟩:=x;exact Heap.lt_size e
 | ins C dx fs=>obtain ⟨_,_,_,e,_⟩:=x;exact Heap.lt_size e
 | own y=>obtain ⟨_,e⟩:=x;exact Heap.lt_size e
 | xd fs=>obtain ⟨_,⟨_,_,_,e,_⟩,_⟩:=x;exact Heap.lt_size e
 | rng lo hi=>obtain ⟨_,_,_,e⟩:=x;exact Heap.lt_size e
 | frz ob u=>obtain ⟨e,_⟩:=x;exact Heap.lt_size e
 | tbl ps=>exact Heap.lt_size (show h.get? a=some _ from x)
 | met f y=>exact Heap.lt_size (show h.get? a=some _ from x)
 | ext φ=>obtain ⟨_,⟨_,e⟩,_⟩:=x;exact Heap.lt_size e
theorem Paired.mapP {α β:Type} {F G:α→β→Prop}:∀ {l₁:List α} {l₂:List β},Paired F l₁ l₂→(∀ a b,F a b→G a b)→Paired G l₁ l₂
 | _,_,.nil,_=>.nil
 | _,_,.cons r t,f=>.cons (f _ _ r) (Paired.mapP t f)
theorem gd.stay (x:gd P w H h a o) (k:∀ b u,(b=a∨H b=some (.own a))→h.get? b=some u→h'.get? b=some u)
  (ho:∀ b,H b=some (.own a)→H' b=some (.own a)) (ht:∀ b xs,H b=some (.tup xs)→H' b=some (.tup xs)):gd P w H' h' a o:=by
 induction o with
 | lst xs=>obtain ⟨z,its,n,r,e⟩:=x;exact ⟨z,its,n,r,k _ _ (.inl rfl) e⟩
 | tup xs=>obtain ⟨z,its,r,ob,e,c⟩:=x;exact ⟨z,its,r,ob,k _ _ (.inl rfl) e,c⟩
 | dK kvs=>obtain ⟨z,y,vs,r,ob,es,ep,e,c⟩:=x;exact ⟨z,y,vs,r,ob,es,ep,k _ _ (.inl rfl) e,c⟩
 | dT kvs=>
  obtain ⟨z,y,xs,r,ob,es,ep,e,c⟩:=x
  exact ⟨z,y,xs,Paired.mapP r fun p q z=>⟨z.1,ht _ _ z.2.1,z.2.2⟩,ob,es,ep,k _ _ (.inl rfl) e,c⟩
 | set S n=>obtain ⟨ob,es,ep,t,e,c⟩:=x;exact ⟨ob,es,ep,t,k _ _ (.inl rfl) e,c⟩
 | ins C dx fs=>
  obtain ⟨d,z,ne,e,mA,⟨od,es,ep,e2,c⟩,r⟩:=x
  exact ⟨ho _ d,z,ne,k _ _ (.inl rfl) e,mA,⟨od,es,ep,k _ _ (.inr d) e2,c⟩,r⟩
 | own y=>obtain ⟨ob,e⟩:=x;exact ⟨ob,k _ _ (.inl rfl) e⟩
 | xd fs=>obtain ⟨mA,⟨od,es,ep,e,c⟩,r⟩:=x;exact ⟨mA,⟨od,es,ep,k _ _ (.inl rfl) e,c⟩,r⟩
 | rng lo hi=>obtain ⟨t,u,v,e⟩:=x;exact ⟨t,u,v,k _ _ (.inl rfl) e⟩
 | frz ob u ih=>obtain ⟨e,q⟩:=x;exact ⟨k _ _ (.inl rfl) e,ih q⟩
 | tbl ps=>
  have e:h.get? a=some { cls:=.none,data:=.fields ps }:=x
  show h'.get? a=some { cls:=.none,data:=.fields ps }
  exact k a _ (.inl rfl) e
 | met f y=>
  have e:h.get? a=some (PySem.W.methodObj (.ref f) (.ref y)):=x
  show h'.get? a=some (PySem.W.methodObj (.ref f) (.ref y))
  exact k a _ (.inl rfl) e
 | ext φ=>obtain ⟨p,⟨o,e⟩,st⟩:=x;exact ⟨st _ _ p fun o q=>k _ _ (.inl rfl) q,⟨o,k _ _ (.inl rfl) e⟩,st⟩
theorem HOk.lt (x:HOk P w H h) (e:H a=some o):a < h.objs.size:=(x a o e).lt
theorem HOk.fresh (x:HOk P w H h) (e:h.objs.size ≤ a):H a=none:=by
 cases q:H a with
 | none=>rfl
 | some u=>exact absurd (Nat.lt_of_lt_of_le (x.lt q) e) (Nat.lt_irrefl _)
theorem HOk.kept (x:HOk P w H h) (k:∀ b u,h.get? b=some u→h'.get? b=some u):HOk P w H h':=fun a o e=>
 (x a o e).stay (fun b u _ q=>k b u q) (fun _ q=>q) fun _ _ q=>q
theorem HOk.laid (x:HOk P w H h) (k:∀ b u,h.get? b=some u→h'.get? b=some u) (hp:h.objs.size ≤ a) (new:gd P w (upd H a o) h' a o):HOk P w (upd H a o) h':=fun b u e=>by
 have hn:=x.fresh hp
 by_cases hb:b=a
 ·subst hb;rw [fb] at e;cases e;exact new
 ·rw [pb hb] at e
  exact (x b u e).stay (fun c v _ q=>k c v q) (fun c q=>by rw [pb (ub q hn)];exact q) fun c xs q=>by rw [pb (ub q hn)];exact q
end
noncomputable def Rd (H:Hp) (a:Addr) (u:HO):Prop:=H a=some u∨∃ o,H a=some (.frz o u)
theorem Rd.of {H:Hp} {a:Addr} {u:HO} (h:H a=some u):Rd H a u:=.inl h
theorem Rd.ok {P:Program} {w:World} {H:Hp} {h:Heap} {a:Addr} {u:HO} (r:Rd H a u) (x:HOk P w H h):gd P w H h a u:=by
 rcases r with r | ⟨o,r⟩
 ·exact x a u r
 ·obtain ⟨_,q⟩:=x a _ r
  exact q
noncomputable def Mut:Option HO→Prop
 | some (.lst _)=>True
 | some (.dK _)=>True
 | some (.dT _)=>True
 | some (.set _ _)=>True
 | some (.ins _ _ _)=>True
 | some (.ext _)=>True
 | _=>False
section
variable {P:Program} {w:World} {H:Hp} {h h':Heap} {x e:Addr} {o':HO}
theorem HOk.write (ok:HOk P w H h) (mu:Mut (H x)) (he:e=x∨H e=some (.own x)) (k:∀ b u,b ≠ e→h.get? b=some u→h'.get? b=some u) (heo:∃ u,h'.get? e=some u)
  (new:gd P w (upd H x o') h' x o'):HOk P w (upd H x o') h':=fun b u q=>by
 have nown:∀ c y,H c=some (.own y)→c ≠ x:=fun c y r z=>by subst z;rw [r] at mu;exact mu
 have ntup:∀ c xs,H c=some (.tup xs)→c ≠ x:=fun c xs r z=>by subst z;rw [r] at mu;exact mu
 by_cases hb:b=x
 ·subst hb;rw [fb] at q;cases q;exact new
 ·rw [pb hb] at q
  by_cases hbe:b=e
  ·have q':H b=some (.own x):=by
    rcases he with z | z
    ·exact absurd (hbe.trans z) hb
    ·rw [hbe];exact z
   rw [q] at q';cases q'
   obtain ⟨v,hv⟩:=heo
   exact ⟨v,by rw [hbe];exact hv⟩
  ·refine (ok b u q).stay (fun c v hc r=>k c v ?_ r) (fun c r=>by rw [pb (nown c b r)];exact r) fun c xs r=>by rw [pb (ntup c xs r)];exact r
   rcases hc with rfl | hc
   ·exact hbe
   ·rintro rfl
    rcases he with z | z
    ·exact nown c b hc z
    ·rw [hc] at z;cases z;exact hb rfl
end
structure Un (fs ex:List Addr) (H H':Hp) (h h':Heap):Prop where
 keep:∀ b o,h.get? b=some o→H b=none→b ∉ fs→b ∉ ex→h'.get? b=some o
 slot:∀ b o,h.get? b=some o→H b=none→b ∈ fs→b ∉ ex→∃ sl,h'.get? b=some { o with slots:=sl }
 free:∀ b o,h.get? b=some o→H b=none→b ∉ ex→H' b=none
 there:∀ b o,h.get? b=some o→b ∉ ex→∃ o',h'.get? b=some o'
 tups:∀ b xs,H b=some (.tup xs)→H' b=some (.tup xs)
 frzs:∀ b o u,H b=some (.frz o u)→H' b=some (.frz o u)
 tbls:∀ b ps,H b=some (.tbl ps)→∃ more,H' b=some (.tbl (ps ++ more))
section
variable {fs fs' ex ex':List Addr} {H H1 H2:Hp} {h h1 h2 h':Heap} {a x e:Addr} {o:HO}
theorem Un.any (u:Un fs ex H H1 h h1) {b:Addr} {ob:Obj} (q:h.get? b=some ob) (n:H b=none) (hx:b ∉ ex):∃ sl,h1.get? b=some { ob with slots:=sl }:=by
 by_cases hb:b ∈ fs
 ·exact u.slot b ob q n hb hx
 ·exact ⟨ob.slots,u.keep b ob q n hb hx⟩
theorem Un.trans (a:Un fs ex H H1 h h1) (b:Un fs ex H1 H2 h1 h2):Un fs ex H H2 h h2 where
 keep:=fun c ob q n hc hx=>b.keep c ob (a.keep c ob q n hc hx) (a.free c ob q n hx) hc hx
 slot:=fun c ob q n hc hx=>by
  obtain ⟨sl,e1⟩:=a.slot c ob q n hc hx
  obtain ⟨sl',e2⟩:=b.slot c _ e1 (a.free c ob q n hx) hc hx
  exact ⟨sl',e2⟩
 free:=fun c ob q n hx=>by
  obtain ⟨o',e1⟩:=a.there c ob q hx
  exact b.free c o' e1 (a.free c ob q n hx) hx
 there:=fun c ob q hx=>by
  obtain ⟨o',e1⟩:=a.there c ob q hx
  exact b.there c o' e1 hx
 tups:=fun c xs q=>b.tups c xs (a.tups c xs q)
 frzs:=fun c ob xs q=>b.frzs c ob xs (a.frzs c ob xs q)
 tbls:=fun c ps q=>by
  obtain ⟨m1,e1⟩:=a.tbls c ps q
  obtain ⟨m2,e2⟩:=b.tbls c _ e1
  exact ⟨m1 ++ m2,by rw [e2,Array.append_assoc]⟩
theorem Un.kept (k:∀ b u,h.get? b=some u→h'.get? b=some u):Un fs ex H H h h':=
 ⟨fun b ob q _ _ _=>k b ob q,fun b ob q _ _ _=>⟨ob.slots,k b ob q⟩,fun _ _ _ n _=>n,fun b ob q _=>⟨ob,k b ob q⟩,fun _ _ q=>q,fun _ _ _ q=>q,fun _ ps q=>⟨#[],by rw [q];simp⟩⟩
theorem Un.refl:Un fs ex H H h h:=Un.kept fun _ _ q=>q
theorem Un.laid (k:∀ b u,h.get? b=some u→h'.get? b=some u) (hp:h.objs.size ≤ a) (hn:H a=none):Un fs ex H (upd H a o) h h' where
 keep:=fun b u q _ _ _=>k b u q
 slot:=fun b u q _ _ _=>⟨u.slots,k b u q⟩
 free:=fun b u q n _=>by rw [pb (Nat.ne_of_lt (Nat.lt_of_lt_of_le (Heap.lt_size q) hp))];exact n
 there:=fun b u q _=>⟨u,k b u q⟩
 tups:=fun b xs q=>by rw [pb (ub q hn)];exact q
 frzs:=fun b u xs q=>by rw [pb (ub q hn)];exact q
 tbls:=fun b ps q=>⟨#[],by rw [pb (ub q hn),q];simp⟩
theorem Un.write (mu:Mut (H x)) (he:e=x∨H e=some (.own x)) (k:∀ b u,b ≠ e→h.get? b=some u→h'.get? b=some u) (heo:∃ u,h'.get? e=some u):Un fs ex H (upd H x o) h h':=by
 have hx:∀ b,H b=none→b ≠ x:=fun b n z=>by subst z;rw [n] at mu;exact mu
 have hb:∀ b,H b=none→b ≠ e:=fun b n z=>by
  subst z
  rcases he with r | r
  ·exact hx b n r
  ·rw [n] at r;cases r
 have hm:∀ b u,H b=some u→¬ Mut (some u)→b ≠ x:=fun b u q nm z=>by subst z;rw [q] at mu;exact nm mu
 refine ⟨fun b u q n _ _=>k b u (hb b n) q,fun b u q n _ _=>⟨u.slots,k b u (hb b n) q⟩,fun b u q n _=>by rw [pb (hx b n)];exact n,fun b u q _=>?_,
  fun b xs q=>by rw [pb (hm b _ q fun z=>z)];exact q,fun b u xs q=>by rw [pb (hm b _ q fun z=>z)];exact q,fun b ps q=>⟨#[],by rw [pb (hm b _ q fun z=>z),q];simp⟩⟩
 by_cases hbe:b=e
 ·subst hbe;exact heo
 ·exact ⟨u,k b u hbe q⟩
theorem Un.mono (u:Un fs ex H H1 h h1) (hs:∀ b ∈ fs,b ∈ fs') (hx:∀ b ∈ ex,b ∈ ex'):Un fs' ex' H H1 h h1:=
 ⟨fun b ob q n hb he=>u.keep b ob q n (fun z=>hb (hs b z)) fun z=>he (hx b z),fun _ _ q n _ he=>u.any q n fun z=>he (hx _ z),fun b ob q n he=>u.free b ob q n fun z=>he (hx b z),fun b ob q he=>u.there b ob q fun z=>he (hx b z),u.tups,u.frzs,u.tbls⟩
end
noncomputable def trk (h:Heap) (H:Hp):List Addr:=(List.range h.objs.size).filter fun a=>(H a).isSome
noncomputable def GE (h:Heap) (H:Hp):Heap:=PySem.W.hideAll h (trk h H)
theorem QC (h:Heap) (H:Hp):(GE h H).objs.size=h.objs.size:=PySem.W.hideAll_size _ _
theorem qv {h:Heap} {H:Hp} {b:Addr} {o:Obj} (e:h.get? b=some o) (n:H b=none):(GE h H).get? b=some o:=
 PySem.W.hideAll_get _ e fun hm=>by
  have q:(H b).isSome=true:=(List.mem_filter.mp hm).2
  rw [n] at q;simp at q
theorem QL {h:Heap} {H:Hp} {b:Addr} {o:Obj} (e:(GE h H).get? b=some o):h.get? b=some o∧H b=none:=by
 have e':h.get? b=some o:=PySem.W.of_hideAll (trk h H) e
 refine ⟨e',?_⟩
 cases q:H b with
 | none=>rfl
 | some x=>
  have hm:b ∈ trk h H:=List.mem_filter.mpr ⟨List.mem_range.mpr (Heap.lt_size e'),by simp [q]⟩
  have z:(GE h H).get? b=none:=PySem.W.hideAll_none (trk h H) hm
  rw [z] at e;cases e
noncomputable def bN (g h:Heap) (L:Addr):List (Addr × Obj):=(List.range h.objs.size).filterMap fun a=>if a=L∨(g.get? a).isSome=true then none else (h.get? a).map fun o=>(a,o)
noncomputable def rest (g h:Heap) (L d:Addr):List (Addr × Obj):=(bN g h L).filter fun p=>decide (p.1 ≠ d)
end L2
namespace L2
open PySem PySem.Spec PyProof.Rows
structure Mod (K:PySem.W.Frag) (mg:Str→Option Value) (base:Heap):Prop where
 kin:K.In base
 glob:base.Ns mainGlobals mg
 blt:∃ mb,base.Ns builtinsNs mb∧∀ x:Str,x ≠ "__name__" → mb x=bootBuiltins x
 nolimit:base.NoLimit
structure Cx where
 prog:Program
 w:World
 K:PySem.W.Frag
 mg:Str→Option Value
 base:Heap
 A:Around
 N:List Str
 s₀:Shared
 H₀:Hp
 env:Env
 outer:List Env
 stack:List Env
 ex:List Addr
 fn:Str→Bool
 calm:Bool
 pn:List (Addr × Obj)
 xe:Value→Shared→Prop
noncomputable def frs (l:List Env):List Addr:=l.filterMap (·.frame)
noncomputable abbrev Cx.fs (X:Cx):List Addr:=frs X.outer
noncomputable def Vis (sc:Scope) (x:Str):Prop:=sc.names.lookup x=some .local∨sc.names.lookup x=some .cell∨sc.names.lookup x=some .free
noncomputable def Loc (sc:Scope) (x:Str):Prop:=sc.names.lookup x=some .local∨sc.names.lookup x=some .cell
noncomputable def vS (env:Env) (h:Heap) (m:Str→Option Value) (x:Str) (u:Value):Prop:=
 (env.kindOf x=some .local∧m x=some u)∨((env.kindOf x=some .cell∨env.kindOf x=some .free)∧∃ c,env.cells.lookup x=some c∧h.IsCell c (some u))
structure Cx.Ok (X:Cx):Prop where
 mod:Mod X.K X.mg X.base
 kind:X.env.scope.kind=.function
 glob:X.env.globals=mainGlobals
 blt:X.env.builtins=builtinsNs
 above:X.s₀.heap.objs.size ≤ X.env.locals
 inj:∀ x y c,X.env.cells.lookup x=some c→X.env.cells.lookup y=some c→x=y
 has:∀ x,(X.env.kindOf x=some .cell∨X.env.kindOf x=some .free)→∃ c,X.env.cells.lookup x=some c
 cab:∀ x c,X.fn x=true→X.env.cells.lookup x=some c→X.s₀.heap.objs.size ≤ c
 hd:X.calm=true→X.A.handled=none
 frames:X.A.frames=some X.stack
 stk:X.stack=X.outer∨(X.stack=X.env :: X.outer∧X.env.frame=some X.env.locals)
 exf:∀ b ∈ X.ex,b ≠ X.env.locals∧∀ x c,X.env.cells.lookup x=some c→c ≠ b
 bs:∀ b o,X.base.get? b=some o→X.s₀.heap.get? b=some o∧X.H₀ b=none
 bsz:X.base.objs.size ≤ X.s₀.heap.objs.size
 noex:∀ b o,X.base.get? b=some o→b ∉ X.ex
 exfs:∀ b ∈ X.ex,b ∉ X.fs
 funs:X.s₀.heap.FunFrames X.base X.outer
 frf:∀ b ∈ X.fs,X.H₀ b=none
structure Inv (X:Cx) (pins:List (Addr × Obj)) (σ:List (Option V)) (H:Hp) (s:Shared):Prop where
 ok:X.Ok
 os:s.os=X.s₀.os
 bare:AllBare s.gens
 base:Un X.fs X.ex X.H₀ H X.s₀.heap s.heap
 loc:∃ m,s.heap.Ns X.env.locals m∧∀ (i:Nat) (x:Str) (v:V),X.N[i]? = some x→σ[i]? = some (some v)→Vis X.env.scope x→∃ u,ud v u∧vS X.env s.heap m x u
 cell:∀ x c,X.env.cells.lookup x=some c→∃ v,s.heap.IsCell c v
 free:H X.env.locals=none
 freeC:∀ x c,X.env.cells.lookup x=some c→H c=none
 pin:∀ p ∈ X.pn ++ pins,s.heap.get? p.1=some p.2∧H p.1=none∧p.1 ≠ X.env.locals∧p.1 ∉ X.fs∧∀ v,p.2.data ≠ .cell v
 hok:HOk X.prog X.w H s.heap
 len:σ.length=X.N.length
section
variable {X:Cx} {pins:List (Addr × Obj)} {σ:List (Option V)} {H H':Hp} {s:Shared} {h':Heap}
theorem Cx.Ok.nofr (ok:X.Ok) {b:Addr} {o:Obj} (e:X.base.get? b=some o):b ∉ X.fs:=fun hb=>by
 have:=(ok.funs.mem hb).1
 rw [e] at this;cases this
theorem Inv.bs (I:Inv X pins σ H s):∀ b o,X.base.get? b=some o→s.heap.get? b=some o∧H b=none:=fun b o e=>
 ⟨I.base.keep b o (I.ok.bs b o e).1 (I.ok.bs b o e).2 (I.ok.nofr e) (I.ok.noex b o e),I.base.free b o (I.ok.bs b o e).1 (I.ok.bs b o e).2 (I.ok.noex b o e)⟩
theorem Inv.bk (I:Inv X pins σ H s):∀ b o,X.base.get? b=some o→s.heap.get? b=some o:=fun b o e=>(I.bs b o e).1
theorem Inv.mod (I:Inv X pins σ H s):Mod X.K X.mg X.base:=I.ok.mod
theorem Inv.kIn (I:Inv X pins σ H s):X.K.In s.heap:=I.ok.mod.kin.keeps I.bk
theorem Inv.nolimit (I:Inv X pins σ H s):s.heap.NoLimit:=I.ok.mod.nolimit.keeps I.bk
theorem Inv.fr (I:Inv X pins σ H s):∃ m,Fr X.base X.env.locals s.heap m:=
 let ⟨m,hn,_⟩:=I.loc
 ⟨m,hn,I.bk,Nat.le_trans I.ok.bsz I.ok.above⟩
theorem Inv.lt (I:Inv X pins σ H s):X.env.locals < s.heap.objs.size:=let ⟨_,hn,_⟩:=I.loc;hn.lt
theorem Inv.sz (I:Inv X pins σ H s):X.s₀.heap.objs.size ≤ s.heap.objs.size:=Nat.le_trans I.ok.above (Nat.le_of_lt I.lt)
theorem Inv.nofs (I:Inv X pins σ H s) {a:Addr} (h:s.heap.objs.size ≤ a):a ∉ X.fs:=fun hb=>by
 obtain ⟨_,o,ho,_⟩:=I.ok.funs.mem hb
 exact absurd (Nat.lt_of_lt_of_le (Heap.lt_size ho) (Nat.le_trans I.sz h)) (Nat.lt_irrefl _)
theorem Inv.cne (I:Inv X pins σ H s):∀ x c,X.env.cells.lookup x=some c→c ≠ X.env.locals:=fun x c e z=>by
 obtain ⟨v,o,ho,hd⟩:=I.cell x c e
 obtain ⟨m,⟨o',es,ep,ho',hd',_⟩,_⟩:=I.loc
 rw [z,ho'] at ho;cases ho;rw [hd'] at hd;cases hd
theorem Inv.funs (I:Inv X pins σ H s):s.heap.FunFrames X.base X.outer:=by
 have all:∀ (l:List Env),(∀ b ∈ frs l,b ∈ X.fs)→X.s₀.heap.FunFrames X.base l→s.heap.FunFrames X.base l:=by
  intro l
  induction l with
  | nil=>intro _ _;trivial
  | cons env r ih=>
   intro hs hl
   obtain ⟨hk,⟨L,o,hf,hn,ho,hd⟩,hr⟩:=hl
   have hL:L ∈ X.fs:=hs L (by unfold frs;rw [List.filterMap_cons,hf];exact List.mem_cons_self)
   obtain ⟨sl,e⟩:=I.base.slot L o ho (I.ok.frf L hL) hL fun z=>I.ok.exfs L z hL
   exact ⟨hk,⟨L,_,hf,hn,e,hd⟩,ih (fun b hb=>hs b (by unfold frs;rw [List.filterMap_cons,hf];exact List.mem_cons_of_mem _ hb)) hr⟩
 exact all X.outer (fun _ hb=>hb) I.ok.funs
theorem Inv.stack (I:Inv X pins σ H s):s.heap.FunFrames X.base X.stack:=by
 rcases I.ok.stk with e | ⟨e,hf⟩
 ·rw [e];exact I.funs
 ·rw [e]
  obtain ⟨m,hn,_⟩:=I.loc
  refine .cons (by rw [I.ok.kind];decide) hf hn ?_ I.funs
  exact Heap.get?_none_of_le (Nat.le_trans I.ok.bsz I.ok.above)
theorem Inv.stkSub (I:Inv X pins σ H s):∀ b ∈ frs X.stack,b ∈ X.env.locals :: X.fs:=fun b hb=>by
 rcases I.ok.stk with e | ⟨e,hf⟩
 ·rw [e] at hb;exact List.mem_cons_of_mem _ hb
 ·rw [e] at hb
  unfold frs at hb
  rw [List.filterMap_cons,hf] at hb
  exact hb
theorem Inv.stkFree (I:Inv X pins σ H s):∀ b ∈ frs X.stack,H b=none:=fun b hb=>by
 rcases List.mem_cons.mp (I.stkSub b hb) with e | hb
 ·rw [e];exact I.free
 ·obtain ⟨_,o,ho,_⟩:=I.ok.funs.mem hb
  exact I.base.free b o ho (I.ok.frf b hb) fun z=>I.ok.exfs b z hb
theorem Inv.step {g':Array GenState} {t':Nat} {d':Drawn} {ch:List Addr} (I:Inv X pins σ H s)
  (hch:∀ b ∈ ch,(b ∈ X.ex∨X.s₀.heap.objs.size ≤ b)∧b ≠ X.env.locals∧(∀ x c,X.env.cells.lookup x=some c→c ≠ b)∧∀ p ∈ X.pn ++ pins,p.1 ≠ b)
  (keep:∀ b o,b ≠ X.env.locals→b ∉ X.fs→b ∉ ch→s.heap.get? b=some o→H b=none→h'.get? b=some o)
  (slot:∀ b o,b ≠ X.env.locals→b ∈ X.fs→b ∉ ch→s.heap.get? b=some o→H b=none→∃ sl,h'.get? b=some { o with slots:=sl }) (free:∀ b o,b ∉ ch→s.heap.get? b=some o→H b=none→H' b=none)
  (there:∀ b o,b ∉ ch→s.heap.get? b=some o→∃ o',h'.get? b=some o')
  (tups:∀ b xs,H b=some (.tup xs)→H' b=some (.tup xs)) (frzs:∀ b o u,H b=some (.frz o u)→H' b=some (.frz o u)) (tbls:∀ b ps,H b=some (.tbl ps)→∃ more,H' b=some (.tbl (ps ++ more)))
  (ns:∀ m,s.heap.Ns X.env.locals m→h'.Ns X.env.locals m) (hok:HOk X.prog X.w H' h') (hg:AllBare g') :
  Inv X pins σ H' { s with heap:=h',gens:=g',drawn:=d',toks:=t' }:=by
 have neL:∀ b o,X.s₀.heap.get? b=some o→b ≠ X.env.locals:=fun b o e=>Nat.ne_of_lt (Nat.lt_of_lt_of_le (Heap.lt_size e) I.ok.above)
 have neC:∀ b o,X.s₀.heap.get? b=some o→b ∉ X.ex→b ∉ ch:=fun b o e hx hb=>by
  rcases (hch b hb).1 with z | z
  ·exact hx z
  ·exact absurd (Nat.lt_of_lt_of_le (Heap.lt_size e) z) (Nat.lt_irrefl _)
 have cellK:∀ x c,X.env.cells.lookup x=some c→∀ v,s.heap.IsCell c v→h'.IsCell c v:=fun x c e v ⟨o,ho,hd⟩=>by
  have nch:c ∉ ch:=fun z=>(hch c z).2.2.1 x c e rfl
  by_cases hc:c ∈ X.fs
  ·obtain ⟨sl,q⟩:=slot c o (I.cne x c e) hc nch ho (I.freeC x c e)
   exact ⟨_,q,hd⟩
  ·exact ⟨o,keep c o (I.cne x c e) hc nch ho (I.freeC x c e),hd⟩
 refine ⟨I.ok,I.os,hg,⟨fun b o e n hb hx=>?_,fun b o e n hb hx=>?_,fun b o e n hx=>?_,fun b o e hx=>?_,fun b xs e=>tups b xs (I.base.tups b xs e),fun b o xs e=>frzs b o xs (I.base.frzs b o xs e),fun b ps e=>?_⟩,?_,fun x c e=>?_,?_,fun x c e=>?_,fun p hp=>?_,hok,I.len⟩
 ·exact keep b o (neL b o e) hb (neC b o e hx) (I.base.keep b o e n hb hx) (I.base.free b o e n hx)
 ·obtain ⟨sl,e1⟩:=I.base.slot b o e n hb hx
  obtain ⟨sl',e2⟩:=slot b _ (neL b o e) hb (neC b o e hx) e1 (I.base.free b o e n hx)
  exact ⟨sl',e2⟩
 ·obtain ⟨o',e1⟩:=I.base.there b o e hx
  exact free b o' (neC b o e hx) e1 (I.base.free b o e n hx)
 ·obtain ⟨o',e1⟩:=I.base.there b o e hx
  exact there b o' (neC b o e hx) e1
 ·obtain ⟨m1,e1⟩:=I.base.tbls b ps e
  obtain ⟨m2,e2⟩:=tbls b _ e1
  exact ⟨m1 ++ m2,by rw [e2,Array.append_assoc]⟩
 ·obtain ⟨m,hn,hl⟩:=I.loc
  refine ⟨m,ns m hn,fun i x v e1 e2 e3=>?_⟩
  obtain ⟨u,r,l⟩:=hl i x v e1 e2 e3
  refine ⟨u,r,?_⟩
  rcases l with l | ⟨k,c,e,z⟩
  ·exact .inl l
  ·exact .inr ⟨k,c,e,cellK x c e _ z⟩
 ·obtain ⟨v,z⟩:=I.cell x c e
  exact ⟨v,cellK x c e v z⟩
 ·obtain ⟨m,⟨o,_,_,ho,_⟩,_⟩:=I.loc
  exact free _ o (fun z=>(hch _ z).2.1 rfl) ho I.free
 ·obtain ⟨v,o,ho,hd⟩:=I.cell x c e
  exact free c o (fun z=>(hch c z).2.2.1 x c e rfl) ho (I.freeC x c e)
 ·obtain ⟨e,n,ne,nf,d⟩:=I.pin p hp
  have nch:p.1 ∉ ch:=fun z=>(hch p.1 z).2.2.2 p hp rfl
  exact ⟨keep p.1 p.2 ne nf nch e n,free p.1 p.2 nch e n,ne,nf,d⟩
theorem Inv.un {t':Nat} (I:Inv X pins σ H s) (u:Un X.fs [] H H' s.heap h') (hok:HOk X.prog X.w H' h'):Inv X pins σ H' { s with heap:=h',toks:=t' }:=by
 obtain ⟨m,⟨o,es,ep,ho,r⟩,_⟩:=id I.loc
 obtain ⟨sl,hL⟩:=u.any ho I.free (by simp)
 exact I.step (g':=s.gens) (d':=s.drawn) (ch:=[]) (fun _ z=>nomatch z) (fun b o _ hb _ e n=>u.keep b o e n hb (by simp)) (fun b o _ hb _ e n=>u.slot b o e n hb (by simp)) (fun b o _ e n=>u.free b o e n (by simp)) (fun b o _ e=>u.there b o e (by simp)) u.tups u.frzs u.tbls (fun m' hm=>by
  obtain ⟨o',es',ep',ho',r'⟩:=hm
  rw [ho] at ho';cases ho'
  exact ⟨_,es',ep',hL,r'⟩) hok I.bare
theorem Inv.call {g':Array GenState} {t':Nat} {d':Drawn} {ch:List Addr} (I:Inv X pins σ H s) (u:Un (frs X.stack) ch H H' s.heap h') (hok:HOk X.prog X.w H' h') (hg:AllBare g')
  (hch:∀ b ∈ ch,(b ∈ X.ex∨X.s₀.heap.objs.size ≤ b)∧b ≠ X.env.locals∧(∀ x c,X.env.cells.lookup x=some c→c ≠ b)∧∀ p ∈ X.pn ++ pins,p.1 ≠ b) :
  Inv X pins σ H' { s with heap:=h',gens:=g',drawn:=d',toks:=t' }:=by
 obtain ⟨m,⟨o,es,ep,ho,r⟩,_⟩:=id I.loc
 obtain ⟨sl,hL⟩:=u.any ho I.free fun z=>(hch _ z).2.1 rfl
 exact I.step (ch:=ch) hch (fun b o hL hb hc e n=>u.keep b o e n (fun z=>(List.mem_cons.mp (I.stkSub b z)).elim hL hb) hc) (fun b o _ _ hc e n=>u.any e n hc) (fun b o hc e n=>u.free b o e n hc) (fun b o hc e=>u.there b o e hc) u.tups u.frzs u.tbls (fun m' hm=>by
  obtain ⟨o',es',ep',ho',r'⟩:=hm
  rw [ho] at ho';cases ho'
  exact ⟨_,es',ep',hL,r'⟩) hok hg
theorem Inv.turned {t':Nat} {it:Addr} (I:Inv X pins σ H s) (k:∀ b o,b ≠ it→s.heap.get? b=some o→h'.get? b=some o) (hn:H it=none) (hL:it ≠ X.env.locals)
  (h1:it ∈ X.ex∨X.s₀.heap.objs.size ≤ it) (h2:∀ x c,X.env.cells.lookup x=some c→c ≠ it) (h3:∀ p ∈ X.pn ++ pins,p.1 ≠ it):Inv X pins σ H { s with heap:=h',toks:=t' }:=by
 have nit:∀ b u,H b=some u→b ≠ it:=fun b u e z=>by rw [z,hn] at e;cases e
 refine I.step (g':=s.gens) (d':=s.drawn) (ch:=[it]) (fun b hb=>?_) (fun b o _ _ hc e _=>k b o (fun z=>hc (by simp [z])) e) (fun b o _ _ hc e _=>⟨o.slots,k b o (fun z=>hc (by simp [z])) e⟩) (fun _ _ _ _ n=>n)
  (fun b o hc e=>⟨o,k b o (fun z=>hc (by simp [z])) e⟩) (fun _ _ e=>e) (fun _ _ _ e=>e) (fun b ps e=>⟨#[],by rw [e];simp⟩) (fun m hm=>?_) (fun b u e=>?_) I.bare
 ·have e:b=it:=by simpa using hb
  subst e
  exact ⟨h1,hL,h2,h3⟩
 ·obtain ⟨o,es,ep,ho,r⟩:=hm
  exact ⟨o,es,ep,k _ o (Ne.symm hL) ho,r⟩
 ·refine (I.hok b u e).stay (fun c v hc q=>k c v ?_ q) (fun _ q=>q) fun _ _ q=>q
  rcases hc with z | z
  ·rw [z];exact nit b u e
  ·exact nit c _ z
theorem Inv.tok (I:Inv X pins σ H s) (t:Nat):Inv X pins σ H { s with toks:=t }:=I.un (h':=s.heap) (t':=t) Un.refl I.hok
theorem Inv.kept {t':Nat} (I:Inv X pins σ H s) (k:∀ b u,s.heap.get? b=some u→h'.get? b=some u):Inv X pins σ H { s with heap:=h',toks:=t' }:=I.un (Un.kept k) (I.hok.kept k)
theorem Inv.laid {a:Addr} {o:HO} {t':Nat} (I:Inv X pins σ H s) (k:∀ b u,s.heap.get? b=some u→h'.get? b=some u) (hp:s.heap.objs.size ≤ a) (new:gd X.prog X.w (upd H a o) h' a o) :
  Inv X pins σ (upd H a o) { s with heap:=h',toks:=t' }:=I.un (Un.laid k hp (I.hok.fresh hp)) (I.hok.laid k hp new)
theorem Inv.write {x e:Addr} {o:HO} {t':Nat} (I:Inv X pins σ H s) (mu:Mut (H x)) (he:e=x∨H e=some (.own x)) (k:∀ b u,b ≠ e→s.heap.get? b=some u→h'.get? b=some u) (heo:∃ u,h'.get? e=some u)
  (new:gd X.prog X.w (upd H x o) h' x o):Inv X pins σ (upd H x o) { s with heap:=h',toks:=t' }:=I.un (Un.write mu he k heo) (I.hok.write mu he k heo new)
theorem Inv.weak {σ':List (Option V)} (I:Inv X pins σ H s) (hl:σ'.length=σ.length) (w:∀ (i:Nat) v,σ'[i]? = some (some v)→σ[i]? = some (some v)):Inv X pins σ' H s:=
 ⟨I.ok,I.os,I.bare,I.base,let ⟨m,hn,hl'⟩:=I.loc;⟨m,hn,fun i x v e1 e2 e3=>hl' i x v e1 (w i v e2) e3⟩,I.cell,I.free,I.freeC,I.pin,I.hok,hl.trans I.len⟩
theorem Inv.pins_of {pins':List (Addr × Obj)} (I:Inv X pins σ H s) (h:∀ p ∈ pins',s.heap.get? p.1=some p.2∧H p.1=none∧p.1 ≠ X.env.locals∧p.1 ∉ X.fs∧∀ v,p.2.data ≠ .cell v):Inv X pins' σ H s:=
 ⟨I.ok,I.os,I.bare,I.base,I.loc,I.cell,I.free,I.freeC,fun p hp=>(List.mem_append.mp hp).elim (fun z=>I.pin p (List.mem_append_left _ z)) (h p),I.hok,I.len⟩
theorem Ku {N:List Str} (hN:N.Nodup) {i j:Nat} {x:Str} (a:N[i]? = some x) (b:N[j]? = some x):i=j:=by
 obtain ⟨h1,e1⟩:=List.getElem?_eq_some_iff.mp a
 obtain ⟨h2,e2⟩:=List.getElem?_eq_some_iff.mp b
 exact (List.getElem_inj hN).mp (e1.trans e2.symm)
theorem Nw {M:Model} {A:Around} {E:Value→Shared→Prop} {i:Nat} {x:Str} {v:V} {u:Value} {Q:Unit→Shared→Prop} (I:Inv X pins σ H s) (hN:X.N.Nodup) (hi:X.N[i]? = some x) (hx:Loc X.env.scope x) (r:ud v u)
  (h:∀ s',Inv X pins (σ.set i (some v)) H s'→(∃ a,Heap.SameBut a s.heap s'.heap∧(a=X.env.locals∨X.env.cells.lookup x=some a))→Q () s') (hf:X.fn x=true∨X.env.scope.names.lookup x=some .local:=by first | exact .inl rfl | exact .inr rfl | assumption):wpAny M A (storeName X.env x u) Q E s:=by
 obtain ⟨m,hn,hl⟩:=id I.loc
 have hcls:(X.env.scope.kind == .class || (X.env.scope.kind == .module && X.env.locals != X.env.globals))=false:=by rw [I.ok.kind];rfl
 have hiσ:i < σ.length:=by rw [I.len];exact (List.getElem?_eq_some_iff.mp hi).1
 have cne:=I.cne
 have tracked:∀ {a:Addr} {h':Heap},(∃ o,s.heap.get? a=some o∧H a=none)→Heap.SameBut a s.heap h'→HOk X.prog X.w H h':=fun {a h'} ha hs b ob e=>by
  obtain ⟨_,_,hfree⟩:=ha
  refine (I.hok b ob e).stay (fun c w' hc q=>(hs.2 c ?_).trans q) (fun _ q=>q) fun _ _ q=>q
  rintro rfl
  rcases hc with rfl | hc
  ·rw [hfree] at e;cases e
  ·rw [hfree] at hc;cases hc
 rcases hx with hk | hk
 ·refine wpAny_storeName_local hk hn (fun h' hn' hs=>?_) hcls
  obtain ⟨oL,_,_,hoL,_⟩:=id hn
  refine h _ ⟨I.ok,I.os,I.bare,⟨fun b o e n hb hx=>?_,fun b o e n hb hx=>?_,I.base.free,fun b o e hx=>?_,I.base.tups,I.base.frzs,I.base.tbls⟩,⟨_,hn',fun j y v' e1 e2 e3=>?_⟩,fun y c e=>?_,I.free,I.freeC,fun p hp=>?_,tracked ⟨oL,hoL,I.free⟩ hs,by simpa using I.len⟩ ⟨_,hs,.inl rfl⟩
  ·exact (hs.2 b (Nat.ne_of_lt (Nat.lt_of_lt_of_le (Heap.lt_size e) I.ok.above))).trans (I.base.keep b o e n hb hx)
  ·obtain ⟨sl,e1⟩:=I.base.slot b o e n hb hx
   exact ⟨sl,(hs.2 b (Nat.ne_of_lt (Nat.lt_of_lt_of_le (Heap.lt_size e) I.ok.above))).trans e1⟩
  ·obtain ⟨o',e1⟩:=I.base.there b o e hx
   exact ⟨o',(hs.2 b (Nat.ne_of_lt (Nat.lt_of_lt_of_le (Heap.lt_size e) I.ok.above))).trans e1⟩
  ·by_cases hj:j=i
   ·subst hj
    rw [hi] at e1;cases e1
    rw [List.getElem?_set_self hiσ] at e2
    cases e2
    exact ⟨u,r,.inl ⟨hk,by simp⟩⟩
   ·rw [List.getElem?_set_ne (Ne.symm hj)] at e2
    obtain ⟨u',r',q⟩:=hl j y v' e1 e2 e3
    refine ⟨u',r',?_⟩
    rcases q with ⟨k,e⟩ | ⟨k,c,e,z⟩
    ·refine .inl ⟨k,?_⟩
     have:y ≠ x:=fun e=>hj (Ku hN e1 (e ▸ hi))
     simp [this,e]
    ·exact .inr ⟨k,c,e,z.sameBut hs (cne y c e)⟩
  ·obtain ⟨w',z⟩:=I.cell y c e
   exact ⟨w',z.sameBut hs (cne y c e)⟩
  ·obtain ⟨e,n,ne,nf,d⟩:=I.pin p hp
   exact ⟨(hs.2 p.1 ne).trans e,n,ne,nf,d⟩
 ·have hfn:X.fn x=true:=by
   rcases hf with z | z
   ·exact z
   ·rw [z] at hk;cases hk
  obtain ⟨c,hc⟩:=I.ok.has x (.inl hk)
  obtain ⟨w',z⟩:=I.cell x c hc
  refine wpAny_storeName_cell I.ok.kind hk hc z (fun h' hc' hs=>?_)
  obtain ⟨oc,hoc,hocd⟩:=id z
  refine h { s with heap:=h' } ⟨I.ok,I.os,I.bare,⟨fun b o e n hb hx=>?_,fun b o e n hb hx=>?_,I.base.free,fun b o e hx=>?_,I.base.tups,I.base.frzs,I.base.tbls⟩,⟨m,hn.sameBut hs (Ne.symm (cne x c hc)),fun j y v' e1 e2 e3=>?_⟩,fun y c' e=>?_,I.free,I.freeC,fun p hp=>?_,tracked ⟨oc,hoc,I.freeC x c hc⟩ hs,by simpa using I.len⟩ ⟨c,hs,.inr hc⟩
  ·exact (hs.2 b (Nat.ne_of_lt (Nat.lt_of_lt_of_le (Heap.lt_size e) (I.ok.cab x c hfn hc)))).trans (I.base.keep b o e n hb hx)
  ·obtain ⟨sl,e1⟩:=I.base.slot b o e n hb hx
   exact ⟨sl,(hs.2 b (Nat.ne_of_lt (Nat.lt_of_lt_of_le (Heap.lt_size e) (I.ok.cab x c hfn hc)))).trans e1⟩
  ·obtain ⟨o',e1⟩:=I.base.there b o e hx
   exact ⟨o',(hs.2 b (Nat.ne_of_lt (Nat.lt_of_lt_of_le (Heap.lt_size e) (I.ok.cab x c hfn hc)))).trans e1⟩
  ·by_cases hj:j=i
   ·subst hj
    rw [hi] at e1;cases e1
    rw [List.getElem?_set_self hiσ] at e2
    cases e2
    exact ⟨u,r,.inr ⟨.inl hk,c,hc,hc'⟩⟩
   ·rw [List.getElem?_set_ne (Ne.symm hj)] at e2
    obtain ⟨u',r',q⟩:=hl j y v' e1 e2 e3
    refine ⟨u',r',?_⟩
    rcases q with q | ⟨k,c',e,z'⟩
    ·exact .inl q
    ·refine .inr ⟨k,c',e,z'.sameBut hs ?_⟩
     rintro rfl
     exact hj (Ku hN e1 (I.ok.inj _ _ _ e hc ▸ hi))
  ·by_cases hcc:c'=c
   ·subst hcc;exact ⟨_,hc'⟩
   ·obtain ⟨w2,z2⟩:=I.cell y c' e
    exact ⟨w2,z2.sameBut hs hcc⟩
  ·obtain ⟨e,n,ne,nf,d⟩:=I.pin p hp
   refine ⟨(hs.2 p.1 ?_).trans e,n,ne,nf,d⟩
   intro q
   rw [q,hoc] at e
   have q':oc=p.2:=Option.some.inj e
   exact d w' (by rw [← q'];exact hocd)
theorem wn {M:Model} {A:Around} {E:Value→Shared→Prop} {i:Nat} {x:Str} {v:V} {u:Value} {Q:Unit→Shared→Prop} (I:Inv X pins σ H s) (hN:X.N.Nodup) (hi:X.N[i]? = some x) (hx:Loc X.env.scope x) (r:ud v u)
  (h:∀ s',Inv X pins (σ.set i (some v)) H s'→Q () s') (hf:X.fn x=true∨X.env.scope.names.lookup x=some .local:=by first | exact .inl rfl | exact .inr rfl | assumption):wpAny M A (storeName X.env x u) Q E s:=
 Nw I hN hi hx r (fun s' I' _=>h s' I') hf
theorem Inv.call' {s':Shared} {ch:List Addr} (I:Inv X pins σ H s) (ho:s'.os=s.os) (u:Un (frs X.stack) ch H H' s.heap s'.heap) (hok:HOk X.prog X.w H' s'.heap) (hg:AllBare s'.gens)
  (hch:∀ b ∈ ch,(b ∈ X.ex∨X.s₀.heap.objs.size ≤ b)∧b ≠ X.env.locals∧(∀ x c,X.env.cells.lookup x=some c→c ≠ b)∧∀ p ∈ X.pn ++ pins,p.1 ≠ b):Inv X pins σ H' s':=by
 obtain ⟨h',g',d',t',o'⟩:=s'
 have e:o'=s.os:=ho
 subst e
 exact I.call (g':=g') (t':=t') (d':=d') u hok hg hch
end
noncomputable abbrev XK:=Value→Option Addr→Hp→Prop
noncomputable abbrev St:=List (Option V)
noncomputable abbrev VK:=V→Hp→Prop
noncomputable abbrev TE:=St→Hp→VK→Prop
noncomputable abbrev TT:=St→Hp→(Bool→Hp→Prop)→Prop
noncomputable abbrev TA:=St→Hp→(List V→Hp→Prop)→Prop
structure Gg where
 nx:St→Hp→Prop
 rt:VK
 bk:St→Hp→Prop:=fun _ _=>False
 ct:St→Hp→Prop:=fun _ _=>False
noncomputable abbrev TS:=Gg→St→Hp→Prop
noncomputable def EP (X:Cx) (pins:List (Addr × Obj)) (σ:St) (Q:VK) (u:Value) (s':Shared):Prop:=∃ v H',Inv X pins σ H' s'∧ud v u∧Q v H'
noncomputable def TP (X:Cx) (pins:List (Addr × Obj)) (σ:St) (Q:Bool→Hp→Prop) (b:Bool) (s':Shared):Prop:=∃ H',Inv X pins σ H' s'∧Q b H'
noncomputable def AP (X:Cx) (pins:List (Addr × Obj)) (σ:St) (Q:List V→Hp→Prop) (us:List Value) (s':Shared):Prop:=∃ vs H',Inv X pins σ H' s'∧jd vs us∧Q vs H'
noncomputable def SP (X:Cx) (pins:List (Addr × Obj)) (D:Gg) (f:Flow) (s':Shared):Prop:=
 match f with
 | .next=>∃ σ' H',Inv X pins σ' H' s'∧D.nx σ' H'
 | .brk=>∃ σ' H',Inv X pins σ' H' s'∧D.bk σ' H'
 | .cont=>∃ σ' H',Inv X pins σ' H' s'∧D.ct σ' H'
 | .ret u=>∃ v σ' H',Inv X pins σ' H' s'∧ud v u∧D.rt v H'
noncomputable def PE (X:Cx) (e:Expr) (t:TE):Prop:=
 ∀ (pins:List (Addr × Obj)) (s:Shared) (σ:St) (H:Hp) (Q:VK),Inv X pins σ H s→t σ H Q→wpAny (model X.prog X.w) X.A (eval e X.env) (EP X pins σ Q) X.xe s
noncomputable def PT (X:Cx) (e:Expr) (t:TT):Prop:=
 ∀ (pins:List (Addr × Obj)) (s:Shared) (σ:St) (H:Hp) (Q:Bool→Hp→Prop),Inv X pins σ H s→t σ H Q→wpAny (model X.prog X.w) X.A (isTrue e X.env (eval e X.env)) (TP X pins σ Q) X.xe s
noncomputable def PW (X:Cx) (e:Expr) (t:TT):Prop:=
 ∀ (whole:Sem Value) (pins:List (Addr × Obj)) (s:Shared) (σ:St) (H:Hp) (Q:Bool→Hp→Prop),Inv X pins σ H s→t σ H Q→wpAny (model X.prog X.w) X.A (isTrue e X.env whole) (TP X pins σ Q) X.xe s
theorem PW.pt {X:Cx} {e:Expr} {t:TT} (h:PW X e t):PT X e t:=h _
noncomputable def PA (X:Cx) (es:List Expr) (t:TA):Prop:=
 ∀ (pos:Pos) (pins:List (Addr × Obj)) (s:Shared) (σ:St) (H:Hp) (Q:List V→Hp→Prop),Inv X pins σ H s→t σ H Q→wpAny (model X.prog X.w) X.A (spliced (backTo pos (starEach es X.env))) (AP X pins σ Q) X.xe s
noncomputable def PS (X:Cx) (st:Stmt) (t:TS):Prop:=
 ∀ (pins:List (Addr × Obj)) (s:Shared) (σ:St) (H:Hp) (D:Gg),Inv X pins σ H s→t D σ H→wpAny (model X.prog X.w) X.A (exec st X.env) (SP X pins D) X.xe s
noncomputable def PSs (X:Cx) (st:List Stmt) (t:TS):Prop:=
 ∀ (pins:List (Addr × Obj)) (s:Shared) (σ:St) (H:Hp) (D:Gg),Inv X pins σ H s→t D σ H→wpAny (model X.prog X.w) X.A (execs st X.env) (SP X pins D) X.xe s
theorem thn {α:Type} {t:Sem α} {Q Q':α→Shared→Prop} {M:Model} {A:Around} {E:Value→Shared→Prop} {s:Shared} (h:wpAny M A t Q E s) (hQ:∀ a s,Q a s→Q' a s):wpAny M A t Q' E s:=wpAny_mono h hQ fun _ _ x=>x
end L2
namespace L2
open PySem PySem.Spec PyProof.Rows
section
variable {X:Cx}
noncomputable def eR (i:Nat):TE:=fun σ H Q=>∃ v,σ[i]? = some (some v)∧Q v H
noncomputable def tC (v:V):TE:=fun _ H Q=>Q v H
theorem nP {i:Nat} {x:Str} {pos:Pos} (hN:X.N[i]? = some x) (hv:Vis X.env.scope x) (hd:(x == ("__debug__" : Str))=false:=by decide) (hcd:(x == ("__classdict__" : Str))=false:=by decide):PE X (.Name x pos) (eR i):=by
 intro pins s σ H Q I h
 obtain ⟨v,e,h⟩:=h
 obtain ⟨m,hn,hl⟩:=I.loc
 obtain ⟨u,r,l⟩:=hl i x v hN e hv
 have fin:EP X pins σ Q u s:=⟨v,H,I,r,h⟩
 rcases l with ⟨hk,hm⟩ | ⟨hk,c,hc,hcell⟩
 ·exact wpAny_Name (wpAny_loadName_local I.ok.kind hk hn hm fin) hd
 ·rcases hk with hk | hk
  ·exact wpAny_Name (wpAny_loadName_cell I.ok.kind hk hc hcell fin) hd
  ·exact wpAny_Name (wpAny_loadName_free I.ok.kind hk hc hcell fin hcd) hd
theorem lb {i j pos}:PE X (.Constant (.int i) j pos) (tC (.int i)):=fun _ _ _ H _ I h=>wpAny_Constant_int ⟨.int i,H,I.tok _,⟨_,rfl⟩,h⟩
theorem Ws {b j pos}:PE X (.Constant (.bool b) j pos) (tC (.bl b)):=fun _ _ _ H _ I h=>Constant_bool ⟨.bl b,H,I,rfl,h⟩
theorem pA {j pos}:PE X (.Constant .none j pos) (tC .non):=fun _ _ _ H _ I h=>Constant_none ⟨.non,H,I,rfl,h⟩
theorem yc {x j pos}:PE X (.Constant (.str x) j pos) (tC (.str x)):=fun _ _ _ H _ I h=>Calls.Constant_str ⟨.str x,H,I.tok _,⟨_,rfl⟩,h⟩
noncomputable def Gl (X:Cx) (x:Str):Prop:=X.env.kindOf x=some .globalImplicit
theorem gk {E:Value→Shared→Prop} {pins:List (Addr × Obj)} {s:Shared} {σ:St} {H:Hp} {x:Str} {u:Value} {pos:Pos} {Q:Value→Shared→Prop} (I:Inv X pins σ H s) (hg:Gl X x) (hm:X.mg x=some u) (h:Q u s)
  (hd:(x == ("__debug__" : Str))=false:=by decide):wpAny (model X.prog X.w) X.A (eval (.Name x pos) X.env) Q E s:=
 Calls.Name_function_global I.ok.kind hg (Calls.loadGlobal_global (by rw [I.ok.glob];exact I.mod.glob.keeps I.bk) hm h) hd
theorem Bn {E:Value→Shared→Prop} {pins:List (Addr × Obj)} {s:Shared} {σ:St} {H:Hp} {x:Str} {u:Value} {pos:Pos} {Q:Value→Shared→Prop} (I:Inv X pins σ H s) (hg:Gl X x) (hm:X.mg x=none) (hv:bootBuiltins x=some u) (h:Q u s)
  (hn:x ≠ "__name__" := by decide) (hd:(x == ("__debug__" : Str))=false:=by decide):wpAny (model X.prog X.w) X.A (eval (.Name x pos) X.env) Q E s:=by
 obtain ⟨mb,h1,h2⟩:=I.mod.blt
 exact Calls.Name_function_global I.ok.kind hg (Calls.loadGlobal_builtin (by rw [I.ok.glob];exact I.mod.glob.keeps I.bk) hm (by rw [I.ok.blt];exact h1.keeps I.bk) ((h2 x hn).trans hv) h) hd
theorem ai {x:Str} {v:V} {u:Value} {pos:Pos} (hg:Gl X x) (hm:X.mg x=some u) (r:ud v u) (hd:(x == ("__debug__" : Str))=false:=by decide):PE X (.Name x pos) (tC v):=
 fun _ _ _ H _ I h=>gk I hg hm ⟨v,H,I,r,h⟩ hd
theorem AF {x:Str} {v:V} {u:Value} {pos:Pos} (hg:Gl X x) (hm:X.mg x=none) (hv:bootBuiltins x=some u) (r:ud v u) (hn:x ≠ "__name__" := by decide) (hd:(x == ("__debug__" : Str))=false:=by decide):PE X (.Name x pos) (tC v):=
 fun _ _ _ H _ I h=>Bn I hg hm hv ⟨v,H,I,r,h⟩ hn hd
noncomputable def t2I (ta tb:TE) (k:Int→Int→Hp→Prop):St→Hp→Prop:=fun σ H=>ta σ H fun x H1=>tb σ H1 fun y H2=>∃ i j,x=.int i∧y=.int j∧k i j H2
noncomputable def XR (ta tb:TE):TE:=fun σ H Q=>t2I ta tb (fun i j H2=>Q (.int (i + j)) H2) σ H
noncomputable def oS (ta tb:TE):TE:=fun σ H Q=>t2I ta tb (fun i j H2=>Q (.int (i - j)) H2) σ H
noncomputable def ZR (ta tb:TE):TE:=fun σ H Q=>t2I ta tb (fun i j H2=>(-(2 ^ 64) < i∧i < 2 ^ 64)∧Q (.int (i * j)) H2) σ H
variable {a b:Expr} {ta tb:TE} {pos:Pos}
noncomputable def PC (X:Cx) (op:CmpOp) (a b:Expr) (t:TE):Prop:=
 ∀ (pins:List (Addr × Obj)) (s:Shared) (σ:St) (H:Hp) (Q:VK),Inv X pins σ H s→t σ H Q →
  wpAny (model X.prog X.w) X.A (eval a X.env) (fun v s₁=>wpAny (model X.prog X.w) X.A (eval b X.env) (fun u s₂=>wpAny (model X.prog X.w) X.A (compareOp op v u) (EP X pins σ Q) X.xe s₂) X.xe s₁) X.xe s
theorem EH (b:Expr) {op:CmpOp} (h:op ≠ .In) (h2:op ≠ .NotIn):behindInMarks op b=false:=by
 have e1:(op == CmpOp.In)=false:=by cases op <;> first | rfl | exact absurd rfl h
 have e2:(op == CmpOp.NotIn)=false:=by cases op <;> first | rfl | exact absurd rfl h2
 cases b <;> simp [behindInMarks,e1,e2]
noncomputable def zS (p:Int→Int→Bool) (ta tb:TE):TE:=fun σ H Q=>t2I ta tb (fun i j H2=>Q (.bl (p i j)) H2) σ H
noncomputable def xS (ta:TE):TE:=fun σ H Q=>ta σ H fun x H1=>Q (.bl (decide (x=.non))) H1
noncomputable def YQ (ta:TE):TE:=fun σ H Q=>ta σ H fun x H1=>Q (.bl (!decide (x=.non))) H1
noncomputable def tB (t:TE):TT:=fun σ H Q=>t σ H fun x H1=>∃ c,x=.bl c∧Q c H1
theorem rK {op:CmpOp} {t:TE} (h:PC X op a b t) (h1:behindInMarks op b=false:=by first | exact EH _ (by decide) (by decide) | rfl):PT X (.Compare a [op] [b] pos) (tB t):=by
 intro pins s σ H Q I hw
 refine wpAny_isTrue_Compare1 (thn (h pins s σ H _ I hw) fun v s1 h1=>thn h1 fun u s2 h2=>thn h2 fun c s3 hZ1=>?_) h1
 obtain ⟨x,H1,I1,r1,q1⟩:=hZ1
 obtain ⟨d,rfl,q⟩:=q1
 cases r1
 exact wpAny_truthy_bool ⟨H1,I1,q⟩
theorem dj {e:Expr} {t:TE} (h:PE X e t) (he:∀ whole,isTrue e X.env whole=(do let v ← whole;standAt e.pos;holding [v] (truthy v)):=by intro _;rfl):PT X e (tB t):=by
 intro pins s σ H Q I hw
 refine isTrue_plain (thn (h pins s σ H _ I hw) fun v s1 hZ1=>?_) (he _)
 obtain ⟨x,H1,I1,r1,q1⟩:=hZ1
 obtain ⟨d,rfl,q⟩:=q1
 cases r1
 exact wpAny_truthy_bool ⟨H1,I1,q⟩
variable {tA tB':TT} {rest:List Expr}
noncomputable def pR (t u:TT):TT:=fun σ H Q=>t σ H fun c H1=>if c=true then u σ H1 Q else Q false H1
noncomputable def tOr (t u:TT):TT:=fun σ H Q=>t σ H fun c H1=>if c=true then Q true H1 else u σ H1 Q
noncomputable def JR (t:TT):TT:=fun σ H Q=>t σ H fun c H1=>Q (!c) H1
theorem Vy (ha:PT X a tA):PW X (.BoolOp .And [a] pos) tA:=by
 intro wh pins s σ H Q I h
 refine isTrue_and (thn (ha pins s σ H Q I h) fun c s1 e=>?_)
 cases c with
 | true=>exact isTrue_and_nil e
 | false=>exact e
theorem su (ha:PT X a tA):PW X (.BoolOp .Or [a] pos) tA:=by
 intro wh pins s σ H Q I h
 refine isTrue_or (thn (ha pins s σ H Q I h) fun c s1 e=>?_)
 cases c with
 | false=>exact isTrue_or_nil e
 | true=>exact e
theorem BD (ha:PT X a tA) (hb:PW X (.BoolOp .And (b :: rest) pos) tB'):PW X (.BoolOp .And (a :: b :: rest) pos) (pR tA tB'):=by
 intro wh pins s σ H Q I h
 refine isTrue_and (thn (ha pins s σ H _ I h) fun c s1 hZ1=>?_)
 obtain ⟨H1,I1,q1⟩:=hZ1
 cases c with
 | true=>exact hb wh pins s1 σ H1 Q I1 q1
 | false=>exact ⟨H1,I1,q1⟩
theorem vz (ha:PT X a tA) (hb:PW X (.BoolOp .Or (b :: rest) pos) tB'):PW X (.BoolOp .Or (a :: b :: rest) pos) (tOr tA tB'):=by
 intro wh pins s σ H Q I h
 refine isTrue_or (thn (ha pins s σ H _ I h) fun c s1 hZ1=>?_)
 obtain ⟨H1,I1,q1⟩:=hZ1
 cases c with
 | true=>exact ⟨H1,I1,q1⟩
 | false=>exact hb wh pins s1 σ H1 Q I1 q1
theorem uq (ha:PT X a tA):PT X (.UnaryOp .Not a pos) (JR tA):=by
 intro pins s σ H Q I h
 exact isTrue_not (ha pins s σ H (fun c H1=>Q (!c) H1) I h)
noncomputable def ON (ta tb:TE):TE:=fun σ H Q=>ta σ H fun x H1=>∃ c,x=.bl c∧if c=true then tb σ H1 Q else Q (.bl false) H1
noncomputable def lR (ta tb:TE):TE:=fun σ H Q=>ta σ H fun x H1=>∃ c,x=.bl c∧if c=true then Q (.bl true) H1 else tb σ H1 Q
noncomputable def EQ (ta:TE):TE:=fun σ H Q=>ta σ H fun x H1=>∃ c,x=.bl c∧Q (.bl (!c)) H1
theorem sA {op} {t:TE} (h:PE X a t):PE X (.BoolOp op [a] pos) t:=fun pins s σ H Q I hw=>BoolOp_one (h pins s σ H Q I hw)
theorem yJ (ha:PE X a ta) (hb:PE X (.BoolOp .And (b :: rest) pos) tb):PE X (.BoolOp .And (a :: b :: rest) pos) (ON ta tb):=by
 intro pins s σ H Q I h
 refine BoolOp_and (thn (ha pins s σ H _ I h) fun v s1 hZ1=>?_)
 obtain ⟨x,H1,I1,r1,q1⟩:=hZ1
 obtain ⟨c,rfl,q1⟩:=q1
 cases r1
 refine wpAny_truthy_bool ?_
 cases c with
 | true=>exact hb pins s1 σ H1 Q I1 q1
 | false=>exact ⟨.bl false,H1,I1,rfl,q1⟩
theorem SN (ha:PE X a ta) (hb:PE X (.BoolOp .Or (b :: rest) pos) tb):PE X (.BoolOp .Or (a :: b :: rest) pos) (lR ta tb):=by
 intro pins s σ H Q I h
 refine BoolOp_or (thn (ha pins s σ H _ I h) fun v s1 hZ1=>?_)
 obtain ⟨x,H1,I1,r1,q1⟩:=hZ1
 obtain ⟨c,rfl,q1⟩:=q1
 cases r1
 refine wpAny_truthy_bool ?_
 cases c with
 | false=>exact hb pins s1 σ H1 Q I1 q1
 | true=>exact ⟨.bl true,H1,I1,rfl,q1⟩
noncomputable def tIf (t:TT) (ta tb:TE):TE:=fun σ H Q=>t σ H fun c H1=>if c=true then ta σ H1 Q else tb σ H1 Q
theorem uv {c:Expr} (hc:PT X c tA) (ha:PE X a ta) (hb:PE X b tb):PE X (.IfExp c a b pos) (tIf tA ta tb):=by
 intro pins s σ H Q I h
 refine wpAny_IfExp (thn (hc pins s σ H _ I h) fun d s1 hZ1=>?_)
 obtain ⟨H1,I1,q1⟩:=hZ1
 cases d with
 | true=>exact ha pins s1 σ H1 Q I1 q1
 | false=>exact hb pins s1 σ H1 Q I1 q1
end
end L2
namespace L2
open PySem PySem.Spec PyProof.Rows
noncomputable def SqL (K:PySem.W.Frag) (H:Hp) (a:Addr) (xs:List V):Prop:=
 Rd H a (.lst xs) ∨
  ∃ (o:Obj) (its:Array Value) (n:Nat),K.lookup a=some o∧o.cls=.type "list" ∧ o.dict=none∧o.data=.seq its n∧its.size ≤ sizeLine∧jd xs its.toList
noncomputable def SqT (K:PySem.W.Frag) (H:Hp) (a:Addr) (xs:List V):Prop:=
 Rd H a (.tup xs) ∨
  ∃ (o:Obj) (its:Array Value) (n:Nat),K.lookup a=some o∧o.cls=.type "tuple" ∧ o.data=.seq its n∧its.size ≤ sizeLine∧jd xs its.toList
noncomputable def nS:Value→Option V
 | .none=>some .non
 | .bool b=>some (.bl b)
 | .int i _=>some (.int i)
 | .str x _=>some (.str x)
 | .bytes b _=>some (.byt b)
 | .float b _=>some (.flt b)
 | .ref a=>some (.ref a)
 | .type n=>some (.ty n)
 | _=>none
theorem ud.abs {x:V} {u:Value} (r:ud x u):nS u=some x:=by
 cases x with
 | non=>cases r;rfl
 | bl _=>cases r;rfl
 | int _=>obtain ⟨t,rfl⟩:=r;rfl
 | str _=>obtain ⟨t,rfl⟩:=r;rfl
 | byt _=>obtain ⟨t,rfl⟩:=r;rfl
 | flt _=>obtain ⟨t,rfl⟩:=r;rfl
 | ref _=>cases r;rfl
 | ty _=>cases r;rfl
theorem ud.inj {x y:V} {u:Value} (r:ud x u) (q:ud y u):x=y:=Option.some.inj (r.abs.symm.trans q.abs)
theorem jd.inj:∀ {xs ys:List V} {us:List Value},jd xs us→jd ys us→xs=ys
 | _,_,_,.nil,.nil=>rfl
 | _,_,_,.cons r t,.cons r' t'=>by rw [r.inj r',jd.inj t t']
section
variable {X:Cx} {pins:List (Addr × Obj)} {σ:St} {H:Hp} {s:Shared} {a:Addr} {xs ys:List V}
theorem SqL.of {K:PySem.W.Frag} (h:H a=some (.lst xs)):SqL K H a xs:=.inl (.inl h)
theorem SqT.of {K:PySem.W.Frag} (h:H a=some (.tup xs)):SqT K H a xs:=.inl (.inl h)
theorem Inv.list (I:Inv X pins σ H s) (h:SqL X.K H a xs):∃ its:List Value,jd xs its∧PlainL s.heap a its.toArray∧xs.length ≤ sizeLine:=by
 rcases h with h | ⟨o,its,n,hk,hc,hd,hs,hz,r⟩
 ·obtain ⟨z,its,n,r,e⟩:=h.ok I.hok
  exact ⟨its,r,⟨_,n,e,rfl,rfl,rfl⟩,z⟩
 ·refine ⟨its.toList,r,⟨o,n,I.kIn a o hk,hc,hd,by simpa using hs⟩,?_⟩
  have e:=r.length
  simp only [Array.length_toList] at e
  omega
theorem Inv.tuple (I:Inv X pins σ H s) (h:SqT X.K H a xs):∃ its:List Value,jd xs its∧IsTup s.heap a its.toArray∧xs.length ≤ sizeLine:=by
 rcases h with h | ⟨o,its,n,hk,hc,hs,hz,r⟩
 ·obtain ⟨z,its,r,p⟩:=h.ok I.hok
  exact ⟨its,r,p,z⟩
 ·refine ⟨its.toList,r,⟨o,I.kIn a o hk,hc,n,by simpa using hs⟩,?_⟩
  have e:=r.length
  simp only [Array.length_toList] at e
  omega
theorem Inv.list_inj (I:Inv X pins σ H s) (h:SqL X.K H a xs) (h':SqL X.K H a ys):xs=ys:=by
 obtain ⟨its,r,⟨o,n,e,_,_,d⟩,_⟩:=I.list h
 obtain ⟨its',r',⟨o',n',e',_,_,d'⟩,_⟩:=I.list h'
 rw [e] at e';cases e'
 rw [d] at d'
 injection d' with d1 _
 have:its=its':=by simpa using congrArg Array.toList d1
 subst this
 exact r.inj r'
theorem Inv.tuple_inj (I:Inv X pins σ H s) (h:SqT X.K H a xs) (h':SqT X.K H a ys):xs=ys:=by
 obtain ⟨its,r,⟨o,e,_,n,d⟩,_⟩:=I.tuple h
 obtain ⟨its',r',⟨o',e',_,n',d'⟩,_⟩:=I.tuple h'
 rw [e] at e';cases e'
 rw [d] at d'
 injection d' with d1 _
 have:its=its':=by simpa using congrArg Array.toList d1
 subst this
 exact r.inj r'
end
noncomputable abbrev Cx.wish (X:Cx) (E:Value→Shared→Prop):Cx:={ X with xe:=E }
noncomputable abbrev Cx.nox (X:Cx):Cx:=X.wish fun _ _=>False
theorem Cx.Ok.wish {X:Cx} (ok:X.Ok) (E:Value→Shared→Prop):(X.wish E).Ok:=
 ⟨ok.mod,ok.kind,ok.glob,ok.blt,ok.above,ok.inj,ok.has,ok.cab,ok.hd,ok.frames,ok.stk,ok.exf,ok.bs,ok.bsz,ok.noex,ok.exfs,ok.funs,ok.frf⟩
theorem Cx.Ok.unwish {X:Cx} {E:Value→Shared→Prop} (ok:(X.wish E).Ok):X.Ok:=
 ⟨ok.mod,ok.kind,ok.glob,ok.blt,ok.above,ok.inj,ok.has,ok.cab,ok.hd,ok.frames,ok.stk,ok.exf,ok.bs,ok.bsz,ok.noex,ok.exfs,ok.funs,ok.frf⟩
section
variable {X:Cx} {pins:List (Addr × Obj)} {σ:St} {H:Hp} {s:Shared} {E:Value→Shared→Prop}
theorem Inv.wish (I:Inv X pins σ H s) (E:Value→Shared→Prop):Inv (X.wish E) pins σ H s:=⟨I.ok.wish E,I.os,I.bare,I.base,I.loc,I.cell,I.free,I.freeC,I.pin,I.hok,I.len⟩
theorem Inv.unwish (I:Inv (X.wish E) pins σ H s):Inv X pins σ H s:=⟨I.ok.unwish,I.os,I.bare,I.base,I.loc,I.cell,I.free,I.freeC,I.pin,I.hok,I.len⟩
theorem SP.unwish {D:Gg} {f:Flow} {s':Shared} (h:SP (X.wish E) pins D f s'):SP X pins D f s':=by
 cases f with
 | next=>obtain ⟨σ',H',I,q⟩:=h;exact ⟨σ',H',I.unwish,q⟩
 | brk=>obtain ⟨σ',H',I,q⟩:=h;exact ⟨σ',H',I.unwish,q⟩
 | cont=>obtain ⟨σ',H',I,q⟩:=h;exact ⟨σ',H',I.unwish,q⟩
 | ret u=>obtain ⟨v,σ',H',I,r,q⟩:=h;exact ⟨v,σ',H',I.unwish,r,q⟩
theorem PE.nox {e:Expr} {t:TE} (h:PE X.nox e t):PE X e t:=fun pins s σ H Q I hw=>
 wpAny_mono (h pins s σ H Q (I.wish _) hw) (fun _ _ ⟨v,H',I',r,q⟩=>⟨v,H',I'.unwish,r,q⟩) fun _ _ z=>False.elim z
theorem PT.nox {e:Expr} {t:TT} (h:PT X.nox e t):PT X e t:=fun pins s σ H Q I hw=>
 wpAny_mono (h pins s σ H Q (I.wish _) hw) (fun _ _ ⟨H',I',q⟩=>⟨H',I'.unwish,q⟩) fun _ _ z=>False.elim z
theorem PSs.nox {st:List Stmt} {t:TS} (h:PSs X.nox st t):PSs X st t:=fun pins s σ H D I hw=>
 wpAny_mono (h pins s σ H D (I.wish _) hw) (fun _ _ q=>q.unwish) fun _ _ z=>False.elim z
end
section
variable {X:Cx} {st:Stmt} {rest:List Stmt} {t u:TS} {e:Expr} {te:TE} {pos:Pos}
noncomputable def LP:TS:=fun D σ H=>D.nx σ H
noncomputable def jR (t u:TS):TS:=fun D σ H=>t { D with nx:=u D } σ H
theorem ic:PSs X [] LP:=fun _ _ σ H _ I h=>wpAny_execs_nil ⟨σ,H,I,h⟩
theorem db (h1:PS X st t) (h2:PSs X rest u):PSs X (st :: rest) (jR t u):=by
 intro pins s σ H D I h
 refine wpAny_execs_cons (thn (h1 pins s σ H { D with nx:=u D } I h) fun f s1 q=>?_)
 cases f with
 | next=>
  obtain ⟨σ',H',I',q⟩:=q
  exact h2 pins s1 σ' H' D I' q
 | ret v=>exact q
 | brk=>exact q
 | cont=>exact q
theorem ib (h1:PS X st t):PSs X [st] t:=by
 intro pins s σ H D I h
 refine wpAny_execs_cons (thn (h1 pins s σ H D I h) fun f s1 q=>?_)
 cases f with
 | next=>exact wpAny_execs_nil q
 | ret v=>exact q
 | brk=>exact q
 | cont=>exact q
noncomputable def YN:TS:=fun D σ H=>D.bk σ H
noncomputable def OQ:TS:=fun D σ H=>D.ct σ H
theorem Inv.quiet {pins:List (Addr × Obj)} {σ:St} {H:Hp} {s:Shared} (I:Inv X pins σ H s):interactive X.env=false:=by simp [interactive,I.ok.kind]
noncomputable def aO (te:TE):TS:=fun D σ H=>te σ H fun _ H1=>D.nx σ H1
theorem Cc (he:PE X e te) (hs:swapsWith e none pos.line X.env=pure false:=by rfl):PS X (.Expr e pos) (aO te):=by
 intro pins s σ H D I h
 exact wpAny_Expr_any (thn (he pins s σ H _ I h) fun v s1 ⟨x,H1,I1,r1,q1⟩=>⟨σ,H1,I1,q1⟩) I.quiet hs
noncomputable def XQ (te:TE):TS:=fun D σ H=>te σ H D.rt
theorem Db (he:PE X e te):PS X (.Return (some e) pos) (XQ te):=by
 intro pins s σ H D I h
 exact wpAny_Return_some (thn (he pins s σ H _ I h) fun v s1 ⟨x,H1,I1,r1,q1⟩=>⟨x,σ,H1,I1,r1,q1⟩)
noncomputable def WQ:TS:=fun D _ H=>D.rt .non H
noncomputable def BQ (c:TT) (t u:TS):TS:=fun D σ H=>c σ H fun b H1=>if b=true then t D σ H1 else u D σ H1
theorem ye {c:Expr} {a b:List Stmt} {tc:TT} (hc:PT X c tc) (ha:PSs X a t) (hb:PSs X b u):PS X (.If c a b pos) (BQ tc t u):=by
 intro pins s σ H D I h
 refine wpAny_If (thn (hc pins s σ H _ I h) fun d s1 hZ1=>?_)
 obtain ⟨H1,I1,q1⟩:=hZ1
 cases d with
 | true=>exact ha pins s1 σ H1 D I1 q1
 | false=>exact hb pins s1 σ H1 D I1 q1
noncomputable def aE:TS:=fun _ _ _=>False
theorem Jk:PS X st aE:=fun _ _ _ _ _ _ h=>h.elim
theorem DD {sts:List Stmt}:PSs X sts aE:=fun _ _ _ _ _ _ h=>h.elim
end
noncomputable abbrev TG:=V→St→Hp→(St→Hp→Prop)→Prop
noncomputable abbrev TGs:=List V→St→Hp→(St→Hp→Prop)→Prop
noncomputable def PG (X:Cx) (target:Expr) (t:TG):Prop:=
 ∀ (pins:List (Addr × Obj)) (s:Shared) (σ:St) (H:Hp) (v:V) (u:Value) (Q:St→Hp→Prop),Inv X pins σ H s→ud v u→t v σ H Q →
  wpAny (model X.prog X.w) X.A (assign target X.env u) (fun _ s'=>∃ σ' H',Inv X pins σ' H' s'∧Q σ' H') X.xe s
noncomputable def PGs (X:Cx) (ts:List Expr) (t:TGs):Prop:=
 ∀ (pins:List (Addr × Obj)) (s:Shared) (σ:St) (H:Hp) (vs:List V) (us:List Value) (Q:St→Hp→Prop),Inv X pins σ H s→jd vs us→t vs σ H Q →
  wpAny (model X.prog X.w) X.A (assignInOrder ((assignEach ts X.env).map (·.2)) us) (fun _ s'=>∃ σ' H',Inv X pins σ' H' s'∧Q σ' H') X.xe s
noncomputable abbrev jN:=V→V→V→Hp→(Hp→Prop)→Prop
noncomputable def iR (X:Cx) (t:jN):Prop:=
 ∀ (pins:List (Addr × Obj)) (s:Shared) (σ:St) (H:Hp) (o i v:V) (ov iv u:Value) (Q:Hp→Prop),Inv X pins σ H s→ud o ov→ud i iv→ud v u→t o i v H Q →
  wpAny (model X.prog X.w) X.A (setItem ov iv u) (fun _ s'=>∃ H',Inv X pins σ H' s'∧Q H') X.xe s
noncomputable abbrev TIp:=V→V→Hp→VK→Prop
noncomputable def PIp (X:Cx) (op:Operator) (t:TIp):Prop:=
 ∀ (pins:List (Addr × Obj)) (s:Shared) (σ:St) (H:Hp) (x y:V) (v u:Value) (Q:VK),Inv X pins σ H s→ud x v→ud y u→t x y H Q →
  wpAny (model X.prog X.w) X.A (inplaceOp op v u) (EP X pins σ Q) X.xe s
section
variable {X:Cx} {pos:Pos}
noncomputable def Lx (i:Nat):TG:=fun v σ H Q=>Q (σ.set i (some v)) H
theorem yb {i:Nat} {x:Str} (hN:X.N.Nodup) (hi:X.N[i]? = some x) (hx:Loc X.env.scope x) (hf:X.fn x=true∨X.env.scope.names.lookup x=some .local:=by first | exact .inl rfl | exact .inr rfl | assumption):PG X (.Name x pos) (Lx i):=by
 intro pins s σ H v u Q I r h
 exact wpAny_assign_Name (wn I hN hi hx r (fun s' I'=>⟨_,H,I',h⟩) hf)
noncomputable def gQ:TGs:=fun vs σ H Q=>vs=[]∧Q σ H
noncomputable def bC (t:TG) (u:TGs):TGs:=fun vs σ H Q=>∃ v r,vs=v :: r∧t v σ H fun σ' H'=>u r σ' H' Q
theorem De:PGs X [] gQ:=by
 intro pins s σ H vs us Q I r h
 obtain ⟨e,h⟩:=h
 subst e
 cases r
 exact assignInOrder_nil ⟨σ,H,I,h⟩
theorem Kb {e:Expr} {es:List Expr} {t:TG} {u:TGs} (h1:PG X e t) (h2:PGs X es u)
  (hs:(assignEach (e :: es) X.env).map (·.2)=assign e X.env :: (assignEach es X.env).map (·.2):=by rfl):PGs X (e :: es) (bC t u):=by
 intro pins s σ H vs us Q I r h
 obtain ⟨v,vr,e1,h⟩:=h
 subst e1
 cases r with
 | cons r rr=>
  rw [hs]
  refine assignInOrder_cons (thn (h1 pins s σ H _ _ _ I r h) fun _ s1 hZ1=>?_)
  obtain ⟨σ1,H1,I1,q1⟩:=hZ1
  exact h2 pins s1 σ1 H1 _ _ Q I1 rr q1
noncomputable def OP (K:PySem.W.Frag) (n:Nat) (t:TGs):TG:=fun v σ H Q=>∃ a xs,v=.ref a∧SqT K H a xs∧xs.length=n∧t xs σ H Q
theorem kO {es:List Expr} {k:Nat} {t:TGs} {n:Nat} (hc:X.calm=true) (h:PGs X es t)
  (hn:(assignEach es X.env).length=n:=by rfl) (hst:(assignEach es X.env).findIdx? (·.1)=none:=by rfl):PG X (.Tuple es k pos) (OP X.K n t):=by
 intro pins s σ H v u Q I r hw
 obtain ⟨a,xs,e1,hq,hl,hw⟩:=hw
 subst e1
 cases r
 obtain ⟨its,rv,ht,hz⟩:=I.tuple hq
 refine assign_Tuple_tuple (I.ok.hd hc) ht (by simp [hn,← hl,rv.length]) hst fun h' hx=>?_
 have I1:Inv X pins σ H { s with heap:=h' }:=I.kept (t':=s.toks) fun b o e=>hx b o (Nat.ne_of_lt (Heap.lt_size e)) e
 exact h pins _ σ H xs _ Q I1 (by simpa using rv) hw
noncomputable def QR (to ti:TE) (t:jN):TG:=fun v σ H Q=>to σ H fun o H1=>ti σ H1 fun i H2=>t o i v H2 fun H3=>Q σ H3
theorem Qz {o i:Expr} {to ti:TE} {t:jN} (ho:PE X o to) (hi:PE X i ti) (hs:iR X t)
  (ha:∀ v,assign (.Subscript o i pos) X.env v=(do
   let ov ← holding [v] (eval o X.env)
   let iv ← holding [v,ov] (eval i X.env)
   standAt pos
   holding [v,ov,iv] (setItem ov iv v)
   release [v,ov,iv] []):=by intro _;rfl):PG X (.Subscript o i pos) (QR to ti t):=by
 intro pins s σ H v u Q I r h
 rw [ha]
 refine wpAny_bind (wpAny_holding (thn (ho pins s σ H _ I h) fun ov s1 hZ1=>?_))
 obtain ⟨x,H1,I1,r1,q1⟩:=hZ1
 refine wpAny_bind (wpAny_holding (thn (hi pins s1 σ H1 _ I1 q1) fun iv s2 hZ1=>?_))
 obtain ⟨y,H2,I2,r2,q2⟩:=hZ1
 refine wpAny_bind (wpAny_standAt (wpAny_bind (wpAny_holding (thn (hs pins s2 σ H2 x y v ov iv u _ I2 r1 r2 r q2) fun _ s3 hZ1=>?_))))
 obtain ⟨H3,I3,q3⟩:=hZ1
 exact wpAny_release ⟨σ,H3,I3,q3⟩
noncomputable def dQ (te:TE) (g:TG):TS:=fun D σ H=>te σ H fun x H1=>g x σ H1 D.nx
theorem Fo {tg e:Expr} {te:TE} {g:TG} (he:PE X e te) (hg:PG X tg g) (hs:swapsWithSole [tg] e pos.line X.env=pure false:=by rfl) (hw:swappedStores [tg] e X.env=pure none:=by rfl)
  (h1:(assignEach [tg] X.env).map (·.2)=[assign tg X.env]:=by rfl):PS X (.Assign [tg] e pos) (dQ te g):=by
 intro pins s σ H D I h
 refine wpAny_Assign_stores (thn (he pins s σ H _ I h) fun v s1 hZ1=>?_) hs hw
 obtain ⟨x,H1,I1,r1,q1⟩:=hZ1
 rw [h1]
 exact thn (hg pins s1 σ H1 x v _ I1 r1 q1) fun _ s2 q=>q
theorem Ab {i:Nat} {x:Str} {e:Expr} {te:TE} {pos':Pos} (hN:X.N.Nodup) (hi:X.N[i]? = some x) (hx:Loc X.env.scope x) (he:PE X e te) (hs:swapsWith e (some (.Name x pos')) pos.line X.env=pure false:=by rfl) (hf:X.fn x=true∨X.env.scope.names.lookup x=some .local:=by first | exact .inl rfl | exact .inr rfl | assumption) :
  PS X (.Assign [.Name x pos'] e pos) (dQ te (Lx i)):=by
 intro pins s σ H D I h
 refine wpAny_Assign_Name (thn (he pins s σ H _ I h) fun v s1 hZ1=>?_) hs
 obtain ⟨y,H1,I1,r1,q1⟩:=hZ1
 exact wn I1 hN hi hx r1 (fun s2 I2=>⟨_,H1,I2,q1⟩) hf
noncomputable def uS (i j:Nat) (ta:TA):TS:=fun D σ H=>ta σ H fun vs H1=>∃ v w,vs=[v,w]∧D.nx ((σ.set i (some v)).set j (some w)) H1
noncomputable def PR (i:Nat) (te:TE) (ti:TIp):TS:=fun D σ H=>∃ x,σ[i]? = some (some x)∧te σ H fun y H1=>ti x y H1 fun z H2=>D.nx (σ.set i (some z)) H2
theorem Pz {i:Nat} {x:Str} {e:Expr} {te:TE} {op:Operator} {ti:TIp} {pos':Pos} (hN:X.N.Nodup) (hi:X.N[i]? = some x) (hx:Loc X.env.scope x) (he:PE X e te) (ho:PIp X op ti) (hf:X.fn x=true∨X.env.scope.names.lookup x=some .local:=by first | exact .inl rfl | exact .inr rfl | assumption) :
  PS X (.AugAssign (.Name x pos') op e pos) (PR i te ti):=by
 intro pins s σ H D I h
 obtain ⟨v,e1,h⟩:=h
 obtain ⟨m,hn,hl⟩:=I.loc
 have vis:Vis X.env.scope x:=by rcases hx with k | k;exact .inl k;exact .inr (.inl k)
 obtain ⟨u,r,l⟩:=hl i x v hi e1 vis
 refine wpAny_AugAssign_Name ?_
 have go:wpAny (model X.prog X.w) X.A (eval e X.env) (fun w s₂=>wpAny (model X.prog X.w) X.A (inplaceOp op u w) (fun r s₃=>wpAny (model X.prog X.w) X.A (storeName X.env x r) (fun _=>SP X pins D .next) X.xe s₃) X.xe s₂) X.xe s:=by
  refine thn (he pins s σ H _ I h) fun w s1 hZ1=>?_
  obtain ⟨y,H1,I1,r1,q1⟩:=hZ1
  refine thn (ho pins s1 σ H1 v y u w _ I1 r r1 q1) fun z s2 hZ1=>?_
  obtain ⟨zv,H2,I2,r2,q2⟩:=hZ1
  exact wn I2 hN hi hx r2 (fun s3 I3=>⟨_,H2,I3,q2⟩) hf
 rcases l with ⟨hk,hm⟩ | ⟨hk,c,hc,hcell⟩
 ·exact wpAny_loadName_local I.ok.kind hk hn hm go
 ·rcases hk with hk | hk
  ·exact wpAny_loadName_cell I.ok.kind hk hc hcell go
  ·rcases hx with k | k
   ·have:X.env.scope.names.lookup x=some .free:=hk
    rw [k] at this;cases this
   ·have:X.env.scope.names.lookup x=some .free:=hk
    rw [k] at this;cases this
noncomputable def wQ (to ti te:TE) (tget:V→V→Hp→VK→Prop) (tip:TIp) (tset:jN):TS:=fun D σ H=>to σ H fun o H1=>ti σ H1 fun i H2=>tget o i H2 fun x H3=>te σ H3 fun y H4=>tip x y H4 fun z H5=>tset o i z H5 fun H6=>D.nx σ H6
noncomputable def ipI (f:Int→Int→Int):TIp:=fun x y H Q=>∃ i j,x=.int i∧y=.int j∧Q (.int (f i j)) H
theorem RJ:PIp X .Add (ipI fun i j=>i + j):=by
 intro pins s σ H x y v u Q I r1 r2 h
 obtain ⟨i,j,e1,e2,q⟩:=h
 subst e1;subst e2
 obtain ⟨t,rfl⟩:=r1
 obtain ⟨t',rfl⟩:=r2
 exact iadd_int ⟨.int _,H,I.tok _,⟨_,rfl⟩,q⟩
theorem eK:PIp X .Sub (ipI fun i j=>i - j):=by
 intro pins s σ H x y v u Q I r1 r2 h
 obtain ⟨i,j,e1,e2,q⟩:=h
 subst e1;subst e2
 obtain ⟨t,rfl⟩:=r1
 obtain ⟨t',rfl⟩:=r2
 exact isub_int ⟨.int _,H,I.tok _,⟨_,rfl⟩,q⟩
end
section
variable {X:Cx} {pos:Pos}
end
structure It where
 go:Nat→Hp→Prop
 yld:Nat→Hp→V→Hp→Prop
 stop:Nat→Hp→Prop
noncomputable def Ox (X:Cx) (pins:List (Addr × Obj)) (H:Hp) (b:Addr):Prop:=
 H b=none∧b ≠ X.env.locals∧b ∉ X.fs∧(b ∈ X.ex∨X.s₀.heap.objs.size ≤ b)∧(∀ x c,X.env.cells.lookup x=some c→c ≠ b)∧∀ p ∈ X.pn ++ pins,p.1 ≠ b
theorem Inv.fpOk {X:Cx} {pins:List (Addr × Obj)} {σ:St} {H H':Hp} {s:Shared} {b:Addr} (I:Inv X pins σ H s) (hb:s.heap.objs.size ≤ b) (hn:H' b=none):Ox X pins H' b:=by
 refine ⟨hn,Nat.ne_of_gt (Nat.lt_of_lt_of_le I.lt hb),I.nofs hb,.inr (Nat.le_trans I.sz hb),fun x c e z=>?_,fun p hp z=>?_⟩
 ·obtain ⟨v,q⟩:=I.cell x c e
  exact absurd (Nat.lt_of_lt_of_le q.lt (by rw [z];exact hb)) (Nat.lt_irrefl _)
 ·exact absurd (Nat.lt_of_lt_of_le (Heap.lt_size (I.pin p hp).1) (by rw [z];exact hb)) (Nat.lt_irrefl _)
structure iJ (P:Program) (w:World) (K:PySem.W.Frag) (tg:Expr) (J:It) (fp:List Addr) (it:Addr) (tn:Nat→Heap→Prop):Prop where
 mem:it ∈ fp
 obj:∀ i h,tn i h→∀ b ∈ fp,∃ o,h.get? b=some o∧∀ v,o.data ≠ .cell v
 keep:∀ i h h',tn i h→(∀ b ∈ fp,∀ o,h.get? b=some o→h'.get? b=some o)→tn i h'
 item:∀ (X:Cx),X.prog=P→X.w=w→X.K=K→X.calm=true→∀ (i:Nat) (pins:List (Addr × Obj)) (s:Shared) (σ:St) (H:Hp) (E:Value→Shared→Prop),Inv X pins σ H s→(∀ b ∈ fp,Ox X pins H b)→tn i s.heap→J.go i H →
  wpAny (model P w) X.A (pyNext (.ref it)) (fun r s1=>∃ u,r=some u ∧
   wpAny (model P w) X.A (letOwnedTupleGo tg (.ref it) u) (fun _ s2=>∃ x H',Inv X pins σ H' s2∧ud x u∧J.yld i H x H'∧tn (i + 1) s2.heap∧∀ b ∈ fp,H' b=none) E s1) E s
 done:∀ (X:Cx),X.prog=P→X.w=w→X.K=K→X.calm=true→∀ (i:Nat) (pins:List (Addr × Obj)) (s:Shared) (σ:St) (H:Hp) (E:Value→Shared→Prop),Inv X pins σ H s→(∀ b ∈ fp,Ox X pins H b)→tn i s.heap→J.stop i H →
  wpAny (model P w) X.A (pyNext (.ref it)) (fun r s1=>r=none∧Inv X pins σ H s1) E s
 self:∀ (A:Around) (i:Nat) (s:Shared) (Q:Value→Shared→Prop) (E:Value→Shared→Prop),tn i s.heap→Q (.ref it) s→wpAny (model P w) A (pyIter (.ref it)) Q E s
noncomputable abbrev TI:=St→Hp→(It→Hp→Prop)→Prop
noncomputable def PIE (X:Cx) (pins:List (Addr × Obj)) (σ:St) (tg:Expr) (R:It→Hp→Prop) (itv:Value) (s2:Shared):Prop:=
 ∃ (it:Addr) (fp:List Addr) (tn:Nat→Heap→Prop) (J:It) (H':Hp),itv=.ref it∧Inv X pins σ H' s2∧iJ X.prog X.w X.K tg J fp it tn∧tn 0 s2.heap∧(∀ b ∈ fp,Ox X pins H' b)∧R J H'
noncomputable def PI (X:Cx) (tg iter:Expr) (wi:TI):Prop:=
 ∀ (pins:List (Addr × Obj)) (s:Shared) (σ:St) (H:Hp) (R:It→Hp→Prop),Inv X pins σ H s→wi σ H R →
  wpAny (model X.prog X.w) X.A (eval iter X.env) (fun v s1=>wpAny (model X.prog X.w) X.A (pyIter v) (PIE X pins σ tg R) X.xe s1) X.xe s
theorem kD {M:Model} {A:Around} {E:Value→Shared→Prop} {s:Shared} {tg:Expr} {it:Addr} {u:Value} {o:Obj} {n:String} {vs:Array Value} {Q:Unit→Shared→Prop} (ho:s.heap.get? it=some o) (hc:o.cls=.type n) (hd:o.data=.fields vs)
    (hn:["enumerate","zip","dict_itemiterator","dict_reverseitemiterator","odict_iterator","itertools.zip_longest","itertools.pairwise"].contains n=false) (hQ:Q () s):wpAny M A (letOwnedTupleGo tg (.ref it) u) Q E s:=by
  unfold letOwnedTupleGo
  cases tg <;> first
    | exact wpAny_pure hQ
    | (cases u <;> first
        | exact wpAny_pure hQ
        | (refine wpAny_bind (wpAny_load ho ?_)
           rw [hc,hd]
           show wpAny M A (if (["enumerate","zip","dict_itemiterator","dict_reverseitemiterator","odict_iterator","itertools.zip_longest","itertools.pairwise"].contains n && vs[0]? == some (rawInt _))=true then _ else _) Q E s
           rw [if_neg (by intro h;rw [hn,Bool.false_and] at h;cases h)]
           exact wpAny_pure hQ))
noncomputable def Itl (K:PySem.W.Frag) (a:Addr):It:=
 ⟨fun i H=>∃ xs x,SqL K H a xs∧xs[i]? = some x,fun i H x H'=>H'=H∧∀ xs,SqL K H a xs→xs[i]? = some x,fun i H=>∃ xs,SqL K H a xs∧xs.length ≤ i⟩
noncomputable def Itt (K:PySem.W.Frag) (a:Addr):It:=
 ⟨fun i H=>∃ xs x,SqT K H a xs∧xs[i]? = some x,fun i H x H'=>H'=H∧∀ xs,SqT K H a xs→xs[i]? = some x,fun i H=>∃ xs,SqT K H a xs∧xs.length ≤ i⟩
noncomputable def Itr (lo:Int) (n:Nat):It:=⟨fun i _=>i < n,fun i H x H'=>H'=H∧x=.int (lo + i),fun i _=>n ≤ i⟩
theorem PF {P:Program} {w:World} {K:PySem.W.Frag} {tg:Expr} (a it:Addr):iJ P w K tg (Itl K a) [it] it (fun i h=>h.IsListIter it a i) where
 mem:=by simp
 obj:=fun i h st b hb=>by
  have e:b=it:=by simpa using hb
  subst e
  obtain ⟨o,e,c,d⟩:=st
  exact ⟨o,e,fun v z=>by rw [d] at z;cases z⟩
 keep:=fun i h h' st k=>st.at fun o e=>k it (by simp) o e
 item:=by
  intro X hP hw hK hc i pins s σ H E I hf st hg
  subst hP hw hK
  obtain ⟨xs,x,hq,hx⟩:=hg
  obtain ⟨its,rv,p,hz⟩:=I.list hq
  obtain ⟨u,hu,ru⟩:=rv.get hx
  obtain ⟨f0,f1,f2,f3,f4,f5⟩:=hf it (by simp)
  refine wpAny_pyNext_list_item st p.isList (x:=u) (by simpa using hu) fun h' st' sb=>?_
  have I1:Inv X pins σ H { s with heap:=h' }:=I.turned (t':=s.toks) (fun b o hb e=>(sb.2 b hb).trans e) f0 f1 f3 f4 f5
  obtain ⟨o,e,c,d⟩:=id st'
  exact ⟨u,rfl,kD (s:={ s with heap:=h' }) e c d (by decide) ⟨x,H,I1,ru,⟨rfl,fun ys hy=>by rw [I.list_inj hy hq];exact hx⟩,st',fun b hb=>(hf b hb).1⟩⟩
 done:=by
  intro X hP hw hK hc i pins s σ H E I hf st hg
  subst hP hw hK
  obtain ⟨xs,hq,hx⟩:=hg
  obtain ⟨its,rv,p,hz⟩:=I.list hq
  obtain ⟨f0,f1,f2,f3,f4,f5⟩:=hf it (by simp)
  have hl:=rv.length
  exact wpAny_pyNext_list_end (I.ok.hd hc) st p.isList (by simp;omega) fun h' eb=>⟨rfl,I.turned (t':=s.toks) (fun b o hb e=>eb b o hb e) f0 f1 f3 f4 f5⟩
 self:=fun _ _ _ _ _ st h=>wpAny_pyIter_listiter st h
theorem mB {P:Program} {w:World} {K:PySem.W.Frag} {tg:Expr} (a it:Addr):iJ P w K tg (Itt K a) [it] it (fun i h=>h.IsTupleIter it a i) where
 mem:=by simp
 obj:=fun i h st b hb=>by
  have e:b=it:=by simpa using hb
  subst e
  obtain ⟨o,e,c,d⟩:=st
  exact ⟨o,e,fun v z=>by rw [d] at z;cases z⟩
 keep:=fun i h h' st k=>st.at fun o e=>k it (by simp) o e
 item:=by
  intro X hP hw hK hc i pins s σ H E I hf st hg
  subst hP hw hK
  obtain ⟨xs,x,hq,hx⟩:=hg
  obtain ⟨its,rv,p,hz⟩:=I.tuple hq
  obtain ⟨u,hu,ru⟩:=rv.get hx
  obtain ⟨f0,f1,f2,f3,f4,f5⟩:=hf it (by simp)
  refine wpAny_pyNext_tuple_item st (show s.heap.IsTuple a its.toArray from p) (x:=u) (by simpa using hu) fun h' st' sb=>?_
  have I1:Inv X pins σ H { s with heap:=h' }:=I.turned (t':=s.toks) (fun b o hb e=>(sb.2 b hb).trans e) f0 f1 f3 f4 f5
  obtain ⟨o,e,c,d⟩:=id st'
  exact ⟨u,rfl,kD (s:={ s with heap:=h' }) e c d (by decide) ⟨x,H,I1,ru,⟨rfl,fun ys hy=>by rw [I.tuple_inj hy hq];exact hx⟩,st',fun b hb=>(hf b hb).1⟩⟩
 done:=by
  intro X hP hw hK hc i pins s σ H E I hf st hg
  subst hP hw hK
  obtain ⟨xs,hq,hx⟩:=hg
  obtain ⟨its,rv,p,hz⟩:=I.tuple hq
  obtain ⟨f0,f1,f2,f3,f4,f5⟩:=hf it (by simp)
  have hl:=rv.length
  exact wpAny_pyNext_tuple_end (I.ok.hd hc) st (show s.heap.IsTuple a its.toArray from p) (by simp;omega) fun h' eb=>⟨rfl,I.turned (t':=s.toks) (fun b o hb e=>eb b o hb e) f0 f1 f3 f4 f5⟩
 self:=fun _ _ _ _ _ st h=>wpAny_pyIter_tupleiter st h
theorem UA {P:Program} {w:World} {K:PySem.W.Frag} {tg:Expr} (it:Addr) (lo:Int) (n:Nat):iJ P w K tg (Itr lo n) [it] it (fun i h=>IsRangeIter h it (lo + (i:Nat) * 1) ((n:Int) - (i:Nat)) 1) where
 mem:=by simp
 obj:=fun i h st b hb=>by
  have e:b=it:=by simpa using hb
  subst e
  exact ⟨_,st,fun v z=>by
   have z':Data.fields _=Data.cell v:=z
   cases z'⟩
 keep:=fun i h h' st k=>k it (by simp) _ st
 item:=by
  intro X hP hw hK hc i pins s σ H E I hf st hg
  subst hP hw hK
  obtain ⟨f0,f1,f2,f3,f4,f5⟩:=hf it (by simp)
  have W:=Walks.range (prog:=X.prog) (w:=X.w) (I.ok.hd hc) it lo 1 n
  refine W.item i s _ _ hg st fun v h' tk hv st' kk=>?_
  obtain ⟨t,rfl⟩:=hv
  have I1:Inv X pins σ H { s with heap:=h',toks:=tk }:=I.turned (fun b o hb e=>kk b o (by simpa using hb) e) f0 f1 f3 f4 f5
  refine ⟨_,rfl,kD (s:={ s with heap:=h',toks:=tk }) (n := "range_iterator") st' rfl rfl (by decide) ⟨.int (lo + i),H,I1,⟨t,?_⟩,⟨rfl,rfl⟩,st',fun b hb=>(hf b hb).1⟩⟩
  rw [Int.mul_one]
 done:=by
  intro X hP hw hK hc i pins s σ H E I hf st hg
  subst hP hw hK
  obtain ⟨f0,f1,f2,f3,f4,f5⟩:=hf it (by simp)
  exact wpAny_pyNext_range_end (I.ok.hd hc) st (by have:n ≤ i:=hg;omega) fun h' eb=>⟨rfl,I.turned (t':=s.toks) (fun b o hb e=>eb b o hb e) f0 f1 f3 f4 f5⟩
 self:=fun _ _ _ _ _ st h=>wpAny_pyIter_rangeiter st h
end L2
namespace L2
open PySem PySem.Spec PyProof.Rows
section
variable {X:Cx} {tg:Expr}
noncomputable def wP (K:PySem.W.Frag) (tl:TE):TI:=fun σ H R=>tl σ H fun x H1=>∃ a,x=.ref a∧(∃ xs,SqL K H1 a xs)∧R (Itl K a) H1
noncomputable def DR (K:PySem.W.Frag) (tl:TE):TI:=fun σ H R=>tl σ H fun x H1=>∃ a,x=.ref a∧(∃ xs,SqT K H1 a xs)∧R (Itt K a) H1
theorem ce {l:Expr} {tl:TE} (hl:PE X l tl):PI X tg l (wP X.K tl):=by
 intro pins s σ H R I h
 refine thn (hl pins s σ H _ I h) fun v s1 hZ1=>?_
 obtain ⟨x,H1,I1,r1,q1⟩:=hZ1
 obtain ⟨a,e,⟨xs,hq⟩,q⟩:=q1
 subst e
 cases r1
 obtain ⟨its,rv,p,hz⟩:=I1.list hq
 refine wpAny_pyIter_list p.isList ?_
 refine ⟨s1.heap.objs.size,[s1.heap.objs.size],_,_,H1,rfl,I1.kept (t':=s1.toks) fun b o e=>Heap.get?_push_of_some _ e,PF a _,⟨_,Heap.get?_push_size _ rfl,rfl,rfl⟩,fun b hb=>?_,q⟩
 have e:b=s1.heap.objs.size:=by simpa using hb
 subst e
 exact I1.fpOk (Nat.le_refl _) (I1.hok.fresh (Nat.le_refl _))
theorem fP {l:Expr} {tl:TE} (hl:PE X l tl):PI X tg l (DR X.K tl):=by
 intro pins s σ H R I h
 refine thn (hl pins s σ H _ I h) fun v s1 hZ1=>?_
 obtain ⟨x,H1,I1,r1,q1⟩:=hZ1
 obtain ⟨a,e,⟨xs,hq⟩,q⟩:=q1
 subst e
 cases r1
 obtain ⟨its,rv,p,hz⟩:=I1.tuple hq
 refine wpAny_pyIter_tuple (show s1.heap.IsTuple a its.toArray from p) ?_
 refine ⟨s1.heap.objs.size,[s1.heap.objs.size],_,_,H1,rfl,I1.kept (t':=s1.toks) fun b o e=>Heap.get?_push_of_some _ e,mB a _,⟨_,Heap.get?_push_size _ rfl,rfl,rfl⟩,fun b hb=>?_,q⟩
 have e:b=s1.heap.objs.size:=by simpa using hb
 subst e
 exact I1.fpOk (Nat.le_refl _) (I1.hok.fresh (Nat.le_refl _))
theorem mH {pins:List (Addr × Obj)} {σ:St} {H:Hp} {s:Shared} {R:It→Hp→Prop} {E:Value→Shared→Prop} {lo hi:Int} {t u v:Tok} {tk:Nat} (I:Inv X pins σ H s) (h1:-(2 ^ 62) ≤ lo) (h2:lo < 2 ^ 62) (h3:-(2 ^ 62) ≤ hi) (h4:hi < 2 ^ 62)
  (q:R (Itr lo (hi - lo).toNat) H):wpAny (model X.prog X.w) X.A (pyIter (.ref s.heap.objs.size)) (PIE X pins σ tg R) E { s with heap:=s.heap.push { cls:=.type "range",data:=.fields #[.int lo t,.int hi u,.int 1 v] },toks:=tk }:=by
 refine wpAny_pyIter_range (IsRange.new ..) (small_one h1 h2 h3 h4) ?_
 have I1:Inv X pins σ H { s with heap:=s.heap.push { cls:=.type "range",data:=.fields #[.int lo t,.int hi u,.int 1 v] },toks:=tk }:=I.kept fun b o e=>Heap.get?_push_of_some _ e
 refine ⟨(s.heap.push { cls:=.type "range",data:=.fields #[.int lo t,.int hi u,.int 1 v] }).objs.size,[(s.heap.push { cls:=.type "range",data:=.fields #[.int lo t,.int hi u,.int 1 v] }).objs.size],_,_,H,rfl,
  I1.kept (t':=tk) fun b o e=>Heap.get?_push_of_some _ e,UA _ lo (hi - lo).toNat,?_,fun b hb=>?_,q⟩
 ·have e1:lo + ((0:Nat):Int) * 1=lo:=by simp
  have e2:(((hi - lo).toNat:Nat):Int) - ((0:Nat):Int)=Builtin.Range.rangeSize lo hi 1:=by rw [rangeSize_one];split <;> omega
  show IsRangeIter _ _ (lo + ((0:Nat):Int) * 1) ((((hi - lo).toNat:Nat):Int) - ((0:Nat):Int)) 1
  rw [e1,e2]
  exact Heap.get?_push_size _ rfl
 ·have e:b=(s.heap.push { cls:=.type "range",data:=.fields #[.int lo t,.int hi u,.int 1 v] }).objs.size:=by simpa using hb
  subst e
  exact I1.fpOk (Nat.le_refl _) (I1.hok.fresh (Nat.le_refl _))
noncomputable def BO (ta:TA):TI:=fun σ H R=>ta σ H fun vs H1=>∃ j:Int,vs=[.int j]∧-(2 ^ 62) ≤ j∧j < 2 ^ 62∧R (Itr 0 j.toNat) H1
noncomputable def NQ (ta:TA):TI:=fun σ H R=>ta σ H fun vs H1=>∃ i j:Int,vs=[.int i,.int j]∧(-(2 ^ 62) ≤ i∧i < 2 ^ 62∧-(2 ^ 62) ≤ j∧j < 2 ^ 62)∧R (Itr i (j - i).toNat) H1
theorem qe {a:Expr} {ta:TA} {p pos:Pos} (hg:Gl X "range") (hm:X.mg "range"=none) (ha:PA X [a] ta) (hs:starEach [a] X.env=[(false,eval a X.env)]:=by rfl):PI X tg (.Call (.Name "range" p) [a] [] pos) (BO ta):=by
 intro pins s σ H R I h
 refine Call_ (Bn I hg hm boot_range (PyProof.Rows.callWith_type1 (thn (ha pos pins s σ H _ I h) fun us s1 hZ1=>?_) hs rfl))
 obtain ⟨vs,H1,I1,r1,q1⟩:=hZ1
 obtain ⟨j,e,q1,q2,q⟩:=q1
 subst e
 cases r1 with
 | cons r rr=>
  cases rr
  obtain ⟨t,rfl⟩:=r
  exact call_range_1 (mH I1 (by omega) (by omega) q1 q2 (by simpa using q))
noncomputable def gR (wi:TI) (g:TG) (tb:TS):TS:=fun D σ H=>wi σ H fun J H1=>∃ W:Nat→Nat→St→Hp→Prop,(∃ m,W 0 m σ H1)∧∀ i m σ H,W i m σ H →
 (J.stop i H∧D.nx σ H)∨(J.go i H∧∃ N:St→Hp→Prop,(∀ σ' H',N σ' H'→∃ m',m' < m∧W (i + 1) m' σ' H')∧∀ x H',J.yld i H x H'→g x σ H' fun σ2 H2=>tb { D with nx:=N,ct:=N,bk:=D.nx } σ2 H2)
noncomputable def Px (fp:List Addr) (h:Heap):List (Addr × Obj):=fp.filterMap fun b=>(h.get? b).map fun o=>(b,o)
theorem Sk {fp:List Addr} {h:Heap} {b:Addr} {o:Obj} (hb:b ∈ fp) (e:h.get? b=some o):(b,o) ∈ Px fp h:=List.mem_filterMap.mpr ⟨b,hb,by rw [e];rfl⟩
theorem sF {fp:List Addr} {h:Heap} {p:Addr × Obj} (hp:p ∈ Px fp h):p.1 ∈ fp∧h.get? p.1=some p.2:=by
 obtain ⟨b,hb,e⟩:=List.mem_filterMap.mp hp
 cases q:h.get? b with
 | none=>rw [q] at e;cases e
 | some o=>
  rw [q] at e
  have e':(b,o)=p:=Option.some.inj e
  subst e'
  exact ⟨hb,q⟩
theorem Inv.pinned {pins:List (Addr × Obj)} {σ:St} {H:Hp} {s:Shared} {fp:List Addr} (I:Inv X pins σ H s) (hf:∀ b ∈ fp,Ox X pins H b) (ho:∀ b ∈ fp,∃ o,s.heap.get? b=some o∧∀ v,o.data ≠ .cell v):Inv X (pins ++ Px fp s.heap) σ H s:=
 I.pins_of fun p hp=>(List.mem_append.mp hp).elim (fun z=>I.pin p (List.mem_append_right _ z)) fun z=>by
  obtain ⟨hb,e⟩:=sF z
  obtain ⟨f0,f1,f2,_⟩:=hf p.1 hb
  obtain ⟨o,e',d⟩:=ho p.1 hb
  rw [e] at e';cases e'
  exact ⟨e,f0,f1,f2,d⟩
theorem Inv.unpinned {pins pl:List (Addr × Obj)} {σ:St} {H:Hp} {s:Shared} (I:Inv X (pins ++ pl) σ H s):Inv X pins σ H s:=I.pins_of fun p hp=>I.pin p (List.mem_append_right _ (List.mem_append_left _ hp))
theorem ee {iter:Expr} {body:List Stmt} {wi:TI} {g:TG} {tb:TS} {pos:Pos} (hp:PassesOwn (model X.prog X.w) X.A X.env X.xe) (hc:X.calm=true) (hi:PI X tg iter wi) (hg:PG X tg g) (hb:PSs X body tb)
  (hs:∀ x,foldedSetIterable iter X.env x=pure x:=by intro _;rfl):PS X (.For tg iter body [] pos) (gR wi g tb):=by
 intro pins s σ H D I h
 refine wpAny_For (thn (hi pins s σ H _ I h) fun v s1 h1=>thn h1 fun itv s2 h2=>?_) hs
 obtain ⟨it,fp,tn,J,H2,e,I2,T,st2,f2,W,⟨m0,w0⟩,turn⟩:=h2
 subst e
 -- what stays true of the iterator's objects through the loop
 have stat:∀ {H':Hp},(∀ b ∈ fp,H' b=none)→∀ b ∈ fp,Ox X pins H' b:=fun hn b hb=>⟨hn b hb,(f2 b hb).2⟩
 refine codeAny_forLoop_any (fun n s'=>∃ i σ' H',Inv X pins σ' H' s'∧tn i s'.heap∧(∀ b ∈ fp,H' b=none)∧W i n σ' H') ?_ m0 ⟨0,σ,H2,I2,st2,fun b hb=>(f2 b hb).1,w0⟩
 rintro n s3 ⟨i,σ3,H3,I3,st3,fr3,w3⟩
 rcases turn i n σ3 H3 w3 with ⟨stop,qn⟩ | ⟨go,N,hN,step⟩
 ·refine wpAny_passesOwn hp (thn (T.done X rfl rfl rfl hc i pins s3 σ3 H3 X.xe I3 (stat fr3) st3 stop) fun r s4 hZ1=>?_)
  obtain ⟨hr,I4⟩:=hZ1
  subst hr
  exact wpAny_execs_nil ⟨σ3,H3,I4,qn⟩
 ·refine wpAny_passesOwn hp (thn (T.item X rfl rfl rfl hc i pins s3 σ3 H3 X.xe I3 (stat fr3) st3 go) fun r s4 hZ1=>?_)
  obtain ⟨u,hr,h4⟩:=hZ1
  subst hr
  refine wpAny_passesOwn hp (thn h4 fun _ s5 hZ1=>?_)
  obtain ⟨x,H5,I5,r5,y5,st5,fr5⟩:=hZ1
  have I5':=I5.pinned (stat fr5) (T.obj _ _ st5)
  refine wpAny_passesOwn hp (thn (hg _ s5 σ3 H5 x u _ I5' r5 (step x H5 y5)) fun _ s6 hZ1=>?_)
  obtain ⟨σ6,H6,I6,q6⟩:=hZ1
  refine wpAny_passesOwn hp (thn (hb _ s6 σ6 H6 _ I6 q6) fun f s7 q7=>?_)
  have again:∀ {σ7:St} {H7:Hp},Inv X (pins ++ Px fp s5.heap) σ7 H7 s7→N σ7 H7→∃ m,m < n∧∃ i σ' H',Inv X pins σ' H' s7∧tn i s7.heap∧(∀ b ∈ fp,H' b=none)∧W i m σ' H':=fun {σ7 H7} I7 n7=>by
   obtain ⟨m',hm,w7⟩:=hN σ7 H7 n7
   refine ⟨m',hm,i + 1,σ7,H7,I7.unpinned,T.keep _ _ _ st5 fun b hb o e=>(I7.pin (b,o) (List.mem_append_right _ (List.mem_append_right _ (Sk hb e)))).1,fun b hb=>?_,w7⟩
   obtain ⟨o,e,d⟩:=T.obj _ _ st5 b hb
   exact (I7.pin (b,o) (List.mem_append_right _ (List.mem_append_right _ (Sk hb e)))).2.1
  cases f with
  | next=>obtain ⟨σ7,H7,I7,n7⟩:=q7;exact again I7 n7
  | cont=>obtain ⟨σ7,H7,I7,n7⟩:=q7;exact again I7 n7
  | brk=>obtain ⟨σ7,H7,I7,q7⟩:=q7;exact ⟨σ7,H7,I7.unpinned,q7⟩
  | ret v=>obtain ⟨x7,σ7,H7,I7,r7,q7⟩:=q7;exact ⟨x7,σ7,H7,I7.unpinned,r7,q7⟩
end
theorem bI {K:PySem.W.Frag} {a:Addr} {xs:List V} {g:TG} {tb:TS} {D:Gg} {σ:St} {H:Hp} (Pv:Nat→St→Hp→Prop) (h0:Pv 0 σ H) (hl:∀ i σ H,i ≤ xs.length→Pv i σ H→SqL K H a xs)
  (hs:∀ i x σ H,xs[i]? = some x→Pv i σ H→g x σ H fun σ2 H2=>tb { D with nx:=Pv (i + 1),ct:=Pv (i + 1),bk:=D.nx } σ2 H2) (hd:∀ σ H,Pv xs.length σ H→D.nx σ H) :
  ∃ W:Nat→Nat→St→Hp→Prop,(∃ m,W 0 m σ H)∧∀ i m σ H,W i m σ H →
   ((Itl K a).stop i H∧D.nx σ H)∨((Itl K a).go i H∧∃ N:St→Hp→Prop,(∀ σ' H',N σ' H'→∃ m',m' < m∧W (i + 1) m' σ' H')∧∀ x H',(Itl K a).yld i H x H'→g x σ H' fun σ2 H2=>tb { D with nx:=N,ct:=N,bk:=D.nx } σ2 H2):=by
 refine ⟨fun i m σ H=>m=xs.length - i∧i ≤ xs.length∧Pv i σ H,⟨xs.length,by simp,Nat.zero_le _,h0⟩,?_⟩
 rintro i m σ H ⟨rfl,hi,p⟩
 have q:=hl i σ H hi p
 by_cases hlt:i < xs.length
 ·refine .inr ⟨⟨xs,xs[i],q,by simp [hlt]⟩,Pv (i + 1),fun σ' H' p'=>⟨xs.length - (i + 1),by omega,rfl,hlt,p'⟩,fun x H' y=>?_⟩
  obtain ⟨e,y⟩:=y
  subst e
  exact hs i x σ _ (y xs q) p
 ·have e:i=xs.length:=by omega
  subst e
  exact .inl ⟨⟨xs,q,Nat.le_refl _⟩,hd σ H p⟩
theorem XC {lo:Int} {n:Nat} {g:TG} {tb:TS} {D:Gg} {σ:St} {H:Hp} (Pv:Nat→St→Hp→Prop) (h0:Pv 0 σ H)
  (hs:∀ i σ H,i < n→Pv i σ H→g (.int (lo + i)) σ H fun σ2 H2=>tb { D with nx:=Pv (i + 1),ct:=Pv (i + 1),bk:=D.nx } σ2 H2) (hd:∀ σ H,Pv n σ H→D.nx σ H) :
  ∃ W:Nat→Nat→St→Hp→Prop,(∃ m,W 0 m σ H)∧∀ i m σ H,W i m σ H →
   ((Itr lo n).stop i H∧D.nx σ H)∨((Itr lo n).go i H∧∃ N:St→Hp→Prop,(∀ σ' H',N σ' H'→∃ m',m' < m∧W (i + 1) m' σ' H')∧∀ x H',(Itr lo n).yld i H x H'→g x σ H' fun σ2 H2=>tb { D with nx:=N,ct:=N,bk:=D.nx } σ2 H2):=by
 refine ⟨fun i m σ H=>m=n - i∧i ≤ n∧Pv i σ H,⟨n,by simp,Nat.zero_le _,h0⟩,?_⟩
 rintro i m σ H ⟨rfl,hi,p⟩
 by_cases hlt:i < n
 ·refine .inr ⟨hlt,Pv (i + 1),fun σ' H' p'=>⟨n - (i + 1),by omega,rfl,hlt,p'⟩,fun x H' y=>?_⟩
  obtain ⟨e,y⟩:=y
  subst e y
  exact hs i σ _ hlt p
 ·have e:i=n:=by omega
  subst e
  exact .inl ⟨Nat.le_refl _,hd σ H p⟩
end L2
namespace L2
open PySem PySem.Spec PyProof.Rows
noncomputable abbrev R2:=V→V→Hp→VK→Prop
noncomputable def OpR (X:Cx) (f:Value→Value→Sem Value) (r:R2):Prop:=
 ∀ (pins:List (Addr × Obj)) (s:Shared) (σ:St) (H:Hp) (x y:V) (v u:Value) (Q:VK),Inv X pins σ H s→ud x v→ud y u→r x y H Q →
  wpAny (model X.prog X.w) X.A (f v u) (EP X pins σ Q) X.xe s
noncomputable def UnR (X:Cx) (f:Value→Sem Value) (r:V→Hp→VK→Prop):Prop:=
 ∀ (pins:List (Addr × Obj)) (s:Shared) (σ:St) (H:Hp) (x:V) (v:Value) (Q:VK),Inv X pins σ H s→ud x v→r x H Q →
  wpAny (model X.prog X.w) X.A (f v) (EP X pins σ Q) X.xe s
noncomputable def Rm (X:Cx) (f:Value) (r:List V→Hp→VK→Prop):Prop:=
 ∀ (pins:List (Addr × Obj)) (s:Shared) (σ:St) (H:Hp) (xs:List V) (us:List Value) (Q:VK),Inv X pins σ H s→jd xs us→r xs H Q →
  wpAny (model X.prog X.w) X.A (call f us) (EP X pins σ Q) X.xe s
noncomputable def dS (X:Cx) (r:V→Hp→(Bool→Hp→Prop)→Prop):Prop:=
 ∀ (pins:List (Addr × Obj)) (s:Shared) (σ:St) (H:Hp) (x:V) (v:Value) (Q:Bool→Hp→Prop),Inv X pins σ H s→ud x v→r x H Q →
  wpAny (model X.prog X.w) X.A (truthy v) (TP X pins σ Q) X.xe s
noncomputable def tOp (r:R2) (ta tb:TE):TE:=fun σ H Q=>ta σ H fun x H1=>tb σ H1 fun y H2=>r x y H2 Q
noncomputable def tUn (r:V→Hp→VK→Prop) (ta:TE):TE:=fun σ H Q=>ta σ H fun x H1=>r x H1 Q
noncomputable def rI (C:Int→Int→Prop) (g:Int→Int→V):R2:=fun x y H Q=>∃ i j,x=.int i∧y=.int j∧C i j∧Q (g i j) H
noncomputable def rI0 (g:Int→Int→V):R2:=fun x y H Q=>∃ i j,x=.int i∧y=.int j∧Q (g i j) H
noncomputable def rU (g:Int→V):V→Hp→VK→Prop:=fun x H Q=>∃ i,x=.int i∧Q (g i) H
section
variable {X:Cx} {a b c:Expr} {ta tb tc:TE} {pos:Pos}
theorem KQ (ha:PE X a ta) (hb:PE X b tb) {pins:List (Addr × Obj)} {s:Shared} {σ:St} {H:Hp} {R:V→V→Hp→Prop} (I:Inv X pins σ H s)
  (h:ta σ H fun x H1=>tb σ H1 fun y H2=>R x y H2) {Q:Value→Shared→Prop} {f:Value→Value→Sem Value}
  (hf:∀ v u s2 x y H2,Inv X pins σ H2 s2→ud x v→ud y u→R x y H2→wpAny (model X.prog X.w) X.A (f v u) Q X.xe s2) :
  wpAny (model X.prog X.w) X.A (eval a X.env) (fun v s₁=>wpAny (model X.prog X.w) X.A (eval b X.env) (fun u s₂=>wpAny (model X.prog X.w) X.A (f v u) Q X.xe s₂) X.xe s₁) X.xe s:=by
 refine thn (ha pins s σ H _ I h) fun v s1 hZ1=>?_
 obtain ⟨x,H1,I1,r1,q1⟩:=hZ1
 refine thn (hb pins s1 σ H1 _ I1 q1) fun u s2 hZ1=>?_
 obtain ⟨y,H2,I2,r2,q2⟩:=hZ1
 exact hf v u s2 x y H2 I2 r1 r2 q2
theorem Gb {op:Operator} {r:R2} (ho:OpR X (binaryOp op) r) (ha:PE X a ta) (hb:PE X b tb):PE X (.BinOp a op b pos) (tOp r ta tb):=by
 intro pins s σ H Q I h
 exact wpAny_BinOp (KQ ha hb I h fun v u s2 x y H2 I2 rx ry q=>ho pins s2 σ H2 x y v u Q I2 rx ry q)
theorem PP {op:UnaryOp} {r:V→Hp→VK→Prop} (ho:UnR X (unaryOp op) r) (ha:PE X a ta):PE X (.UnaryOp op a pos) (tUn r ta):=by
 intro pins s σ H Q I h
 exact UnaryOp_ (thn (ha pins s σ H _ I h) fun v s1 ⟨x,H1,I1,r1,q1⟩=>ho pins s1 σ H1 x v Q I1 r1 q1)
theorem opI {f:Value→Value→Sem Value} {C:Int→Int→Prop} {g:Int→Int→Int}
  (rule:∀ (i j:Int) (t u:Tok) (s:Shared) (Q:Value→Shared→Prop) (E:Value→Shared→Prop),C i j→Q (.int (g i j) s.toks) { s with toks:=s.toks + 1 }→wpAny (model X.prog X.w) X.A (f (.int i t) (.int j u)) Q E s) :
  OpR X f (rI C fun i j=>.int (g i j)):=by
 intro pins s σ H x y v u Q I rx ry h
 obtain ⟨i,j,rfl,rfl,hc,q⟩:=h
 obtain ⟨t,rfl⟩:=rx
 obtain ⟨t',rfl⟩:=ry
 exact rule i j t t' s _ _ hc ⟨.int (g i j),H,I.tok _,⟨_,rfl⟩,q⟩
theorem OR {f:Value→Value→Sem Value} {g:Int→Int→Int}
  (rule:∀ (i j:Int) (t u:Tok) (s:Shared) (Q:Value→Shared→Prop) (E:Value→Shared→Prop),Q (.int (g i j) s.toks) { s with toks:=s.toks + 1 }→wpAny (model X.prog X.w) X.A (f (.int i t) (.int j u)) Q E s) :
  OpR X f (rI0 fun i j=>.int (g i j)):=by
 intro pins s σ H x y v u Q I rx ry h
 obtain ⟨i,j,rfl,rfl,q⟩:=h
 obtain ⟨t,rfl⟩:=rx
 obtain ⟨t',rfl⟩:=ry
 exact rule i j t t' s _ _ ⟨.int (g i j),H,I.tok _,⟨_,rfl⟩,q⟩
theorem ZQ {f:Value→Value→Sem Value} {g:Int→Int→Bool}
  (rule:∀ (i j:Int) (t u:Tok) (s:Shared) (Q:Value→Shared→Prop) (E:Value→Shared→Prop),Q (.bool (g i j)) s→wpAny (model X.prog X.w) X.A (f (.int i t) (.int j u)) Q E s) :
  OpR X f (rI0 fun i j=>.bl (g i j)):=by
 intro pins s σ H x y v u Q I rx ry h
 obtain ⟨i,j,rfl,rfl,q⟩:=h
 obtain ⟨t,rfl⟩:=rx
 obtain ⟨t',rfl⟩:=ry
 exact rule i j t t' s _ _ ⟨.bl (g i j),H,I,rfl,q⟩
noncomputable def yR (i j:Int):Prop:=0 < j∧j < 1073741824
noncomputable def aS (i j:Int):Prop:=0 ≤ j∧j ≤ 1000000∧i.natAbs < 2 ^ 64
noncomputable def nK (i j:Int):Prop:=(-(2 ^ 64) < i∧i < 2 ^ 64)∨(-(2 ^ 64) < j∧j < 2 ^ 64)
theorem nK.ok {i j:Int} (h:nK i j):IntMulOk i j:=by
 rcases h with ⟨h1,h2⟩ | ⟨h1,h2⟩
 ·exact .of_left (intBits_le_64 h1 h2)
 ·exact .of_right (intBits_le_64 h1 h2)
theorem Jc:OpR X (binaryOp .Add) (rI0 fun i j=>.int (i + j)):=OR fun _ _ _ _ _ _ _ q=>add_int q
theorem Oe:OpR X (binaryOp .Sub) (rI0 fun i j=>.int (i - j)):=OR fun _ _ _ _ _ _ _ q=>sub_int q
theorem Rg:OpR X (binaryOp .Mult) (rI nK fun i j=>.int (i * j)):=opI fun _ _ _ _ _ _ _ hc q=>mul_int q hc.ok
theorem iE:OpR X (binaryOp .FloorDiv) (rI yR fun i j=>.int (i / j)):=opI fun i j _ _ _ _ _ hc q=>by
 have h1:(0:Int) < j:=hc.1
 have h2:j < 1073741824:=hc.2
 exact floordiv_int (by omega) (by rw [Int.fdiv_eq_ediv_of_nonneg i (by omega)];exact q) (.inl (PyProof.noPylong_small (by omega)))
theorem Ce:OpR X (binaryOp .Mod) (rI (fun _ j=>0 < j) fun i j=>.int (i % j)):=opI fun i j _ _ _ _ _ hc q=>by
 have h1:(0:Int) < j:=hc
 exact mod_int' (by omega) (by rw [Int.fmod_eq_emod_of_nonneg i (by omega)];exact q)
theorem mK:OpR X (binaryOp .Pow) (rI aS fun i j=>.int (i ^ j.toNat)):=opI fun _ _ _ _ _ _ _ hc q=>pow_int_small hc.1 hc.2.1 hc.2.2 q
theorem unI {f:Value→Sem Value} {g:Int→Int}
  (rule:∀ (i:Int) (t:Tok) (s:Shared) (Q:Value→Shared→Prop) (E:Value→Shared→Prop),Q (.int (g i) s.toks) { s with toks:=s.toks + 1 }→wpAny (model X.prog X.w) X.A (f (.int i t)) Q E s) :
  UnR X f (rU fun i=>.int (g i)):=by
 intro pins s σ H x v Q I rx h
 obtain ⟨i,rfl,q⟩:=h
 obtain ⟨t,rfl⟩:=rx
 exact rule i t s _ _ ⟨.int (g i),H,I.tok _,⟨_,rfl⟩,q⟩
theorem gJ:UnR X (unaryOp .USub) (rU fun i=>.int (-i)):=unI fun _ _ _ _ _ q=>neg_int q
end
noncomputable def bQ:V→V→Bool
 | .non,.non=>true | .non,.int _=>true | .int _,.non=>true | .non,.bl _=>true | .bl _,.non=>true | .non,.str _=>true | .str _,.non=>true
 | .int _,.int _=>true | .bl _,.bl _=>true | .str _,.str _=>true | .byt _,.byt _=>true
 | .int _,.str _=>true | .str _,.int _=>true | .bl _,.str _=>true | .str _,.bl _=>true
 | _,_=>false
noncomputable def rEq:R2:=fun x y H Q=>bQ x y=true∧Q (.bl (decide (x=y))) H
noncomputable def rNe:R2:=fun x y H Q=>bQ x y=true∧Q (.bl (!decide (x=y))) H
theorem gG {i j:Int}:decide (V.int i=V.int j)=(i == j):=by
 rw [Bool.eq_iff_iff]
 simp
theorem pJ {i j:Bool}:decide (V.bl i=V.bl j)=(i == j):=by
 rw [Bool.eq_iff_iff]
 simp
theorem UE {i j:Str}:decide (V.str i=V.str j)=(i == j):=by
 rw [Bool.eq_iff_iff]
 simp
theorem iF {i j:Array UInt8}:decide (V.byt i=V.byt j)=(i.toList == j.toList):=by
 rw [Bool.eq_iff_iff]
 cases i
 cases j
 simp
section
variable {X:Cx} {a b c:Expr} {ta tb tc:TE} {pos:Pos}
theorem md {pins:List (Addr × Obj)} {σ:St} {H:Hp} {s:Shared} {Q:VK} {k k':Bool} (I:Inv X pins σ H s) (q:Q (.bl k) H) (e:k=k'):EP X pins σ Q (.bool k') s:=by
 subst e
 exact ⟨.bl k,H,I,rfl,q⟩
theorem uj:OpR X (compareOp .Eq) rEq:=by
 intro pins s σ H x y v u Q I rx ry h
 obtain ⟨hs,q⟩:=h
 cases x with
 | non=>
  cases rx
  cases y with
  | non=>cases ry;exact PySem.EqNone.eq_none_none (md I q (by simp))
  | bl j=>cases ry;exact PySem.EqNone.eq_none_bool (md I q (by simp))
  | int j=>obtain ⟨t',rfl⟩:=ry;exact PySem.EqNone.eq_none_int (md I q (by simp))
  | str j=>obtain ⟨t',rfl⟩:=ry;exact PySem.EqNone.eq_none_str (md I q (by simp))
  | _=>exact absurd (show false=true from hs) Bool.false_ne_true
 | bl i=>
  cases rx
  cases y with
  | non=>cases ry;exact PySem.EqNone.eq_bool_none (md I q (by simp))
  | bl j=>cases ry;exact eq_bool (md I q pJ)
  | str j=>obtain ⟨t',rfl⟩:=ry;exact PySem.EqMixed.eq_bool_str (md I q (by simp))
  | _=>exact absurd (show false=true from hs) Bool.false_ne_true
 | int i=>
  obtain ⟨t,rfl⟩:=rx
  cases y with
  | non=>cases ry;exact PySem.EqNone.eq_int_none (md I q (by simp))
  | int j=>obtain ⟨t',rfl⟩:=ry;exact eq_int (md I q gG)
  | str j=>obtain ⟨t',rfl⟩:=ry;exact PySem.EqMixed.eq_int_str (md I q (by simp))
  | _=>exact absurd (show false=true from hs) Bool.false_ne_true
 | str i=>
  obtain ⟨t,rfl⟩:=rx
  cases y with
  | non=>cases ry;exact PySem.EqNone.eq_str_none (md I q (by simp))
  | bl j=>cases ry;exact PySem.EqMixed.eq_str_bool (md I q (by simp))
  | int j=>obtain ⟨t',rfl⟩:=ry;exact PySem.EqMixed.eq_str_int (md I q (by simp))
  | str j=>obtain ⟨t',rfl⟩:=ry;exact eq_str (md I q UE)
  | _=>exact absurd (show false=true from hs) Bool.false_ne_true
 | byt i=>
  obtain ⟨t,rfl⟩:=rx
  cases y with
  | byt j=>obtain ⟨t',rfl⟩:=ry;exact PySem.W.eq_bytes (md I q iF)
  | _=>exact absurd (show false=true from hs) Bool.false_ne_true
 | _=>cases y <;> exact absurd (show false=true from hs) Bool.false_ne_true
theorem gz:OpR X (compareOp .NotEq) rNe:=by
 intro pins s σ H x y v u Q I rx ry h
 obtain ⟨hs,q⟩:=h
 cases x with
 | non=>
  cases rx
  cases y with
  | non=>cases ry;exact PySem.EqNone.ne_none_none (md I q (by simp))
  | bl j=>cases ry;exact PySem.EqNone.ne_none_bool (md I q (by simp))
  | int j=>obtain ⟨t',rfl⟩:=ry;exact PySem.EqNone.ne_none_int (md I q (by simp))
  | str j=>obtain ⟨t',rfl⟩:=ry;exact PySem.EqNone.ne_none_str (md I q (by simp))
  | _=>exact absurd (show false=true from hs) Bool.false_ne_true
 | bl i=>
  cases rx
  cases y with
  | non=>cases ry;exact PySem.EqNone.ne_bool_none (md I q (by simp))
  | bl j=>cases ry;exact ne_bool (md I q (congrArg not pJ))
  | str j=>obtain ⟨t',rfl⟩:=ry;exact PySem.EqMixed.ne_bool_str (md I q (by simp))
  | _=>exact absurd (show false=true from hs) Bool.false_ne_true
 | int i=>
  obtain ⟨t,rfl⟩:=rx
  cases y with
  | non=>cases ry;exact PySem.EqNone.ne_int_none (md I q (by simp))
  | int j=>obtain ⟨t',rfl⟩:=ry;exact ne_int (md I q (congrArg not gG))
  | str j=>obtain ⟨t',rfl⟩:=ry;exact PySem.EqMixed.ne_int_str (md I q (by simp))
  | _=>exact absurd (show false=true from hs) Bool.false_ne_true
 | str i=>
  obtain ⟨t,rfl⟩:=rx
  cases y with
  | non=>cases ry;exact PySem.EqNone.ne_str_none (md I q (by simp))
  | bl j=>cases ry;exact PySem.EqMixed.ne_str_bool (md I q (by simp))
  | int j=>obtain ⟨t',rfl⟩:=ry;exact PySem.EqMixed.ne_str_int (md I q (by simp))
  | str j=>obtain ⟨t',rfl⟩:=ry;exact ne_str (md I q (congrArg not UE))
  | _=>exact absurd (show false=true from hs) Bool.false_ne_true
 | byt i=>
  obtain ⟨t,rfl⟩:=rx
  cases y with
  | byt j=>obtain ⟨t',rfl⟩:=ry;exact PySem.W.ne_bytes (md I q (congrArg not iF))
  | _=>exact absurd (show false=true from hs) Bool.false_ne_true
 | _=>cases y <;> exact absurd (show false=true from hs) Bool.false_ne_true
theorem Zw:OpR X (compareOp .Lt) (rI0 fun i j=>.bl (decide (i < j))):=ZQ fun _ _ _ _ _ _ _ q=>lt_int q
theorem cR:OpR X (compareOp .LtE) (rI0 fun i j=>.bl (decide (i ≤ j))):=ZQ fun _ _ _ _ _ _ _ q=>le_int q
theorem oz:OpR X (compareOp .Gt) (rI0 fun i j=>.bl (decide (j < i))):=ZQ fun _ _ _ _ _ _ _ q=>gt_int q
theorem BC:OpR X (compareOp .In) (fun x y H Q=>∃ i j,x=.str i∧y=.str j∧Q (.bl (!(Builtin.Str.occurrences j i 0 j.length 1).isEmpty)) H):=by
 intro pins s σ H x y v u Q I rx ry h
 obtain ⟨i,j,rfl,rfl,q⟩:=h
 obtain ⟨t,rfl⟩:=rx
 obtain ⟨t',rfl⟩:=ry
 exact in_str (md I q rfl)
theorem YM:OpR X (compareOp .IsNot) (fun x y H Q=>y=.non∧Q (.bl (!decide (x=.non))) H):=by
 intro pins s σ H x y v u Q I rx ry h
 obtain ⟨rfl,q⟩:=h
 cases ry
 refine isnot_none_gen (md I q ?_)
 cases x <;> first
  | (cases rx;rfl)
  | (obtain ⟨t,rfl⟩:=rx;rfl)
theorem wc (b:Expr) {op:CmpOp} (h:op ≠ .In:=by decide) (h2:op ≠ .NotIn:=by decide):behindInMarks op b=false:=by
 have e1:(op == CmpOp.In)=false:=by cases op <;> first | rfl | exact absurd rfl h
 have e2:(op == CmpOp.NotIn)=false:=by cases op <;> first | rfl | exact absurd rfl h2
 cases b <;> simp [behindInMarks,e1,e2]
theorem Se {op:CmpOp} {r:R2} (ho:OpR X (compareOp op) r) (ha:PE X a ta) (hb:PE X b tb) (hm:behindInMarks op b=false):PE X (.Compare a [op] [b] pos) (tOp r ta tb):=by
 intro pins s σ H Q I h
 exact wpAny_Compare1 (KQ ha hb I h fun v u s2 x y H2 I2 rx ry q=>ho pins s2 σ H2 x y v u Q I2 rx ry q) hm
noncomputable def xO (t:TE):TT:=fun σ H Q=>t σ H fun x H'=>∃ k,x=.bl k∧Q k H'
theorem kc {op:CmpOp} {r:R2} (ho:OpR X (compareOp op) r) (ha:PE X a ta) (hb:PE X b tb) (hm:behindInMarks op b=false):PT X (.Compare a [op] [b] pos) (xO (tOp r ta tb)):=by
 intro pins s σ H Q I h
 refine wpAny_isTrue_Compare1 (thn (ha pins s σ H _ I h) fun v s1 ⟨x,H1,I1,r1,q1⟩=>thn (hb pins s1 σ H1 _ I1 q1) fun u s2 ⟨y,H2,I2,r2,q2⟩=>
  thn (ho pins s2 σ H2 x y v u _ I2 r1 r2 q2) fun c s3 ⟨z,H3,I3,r3,k,e,q3⟩=>?_) hm
 subst e
 cases r3
 exact wpAny_truthy_bool ⟨H3,I3,q3⟩
noncomputable def wO (r r':R2) (ta tb tc:TE):TE:=fun σ H Q=>ta σ H fun x H1=>tb σ H1 fun y H2=>r x y H2 fun z H3=>∃ k,z=.bl k ∧
 (if k=true then tc σ H3 fun w' H4=>r' y w' H4 Q else Q (.bl false) H3)
noncomputable def SR (K:PySem.W.Frag) (x:V) (H:Hp) (k:Bool):Prop:=
 match x with
 | .non=>k=false
 | .bl b=>k=b
 | .int i=>k=(i != 0)
 | .str y=>y.length ≤ sizeLine∧k=((y.length:Int) != 0)
 | .byt y=>y.size ≤ sizeLine∧k=((y.size:Int) != 0)
 | .ref p=>(∃ xs,SqL K H p xs∧k = !xs.isEmpty)∨(∃ xs,SqT K H p xs∧k = !xs.isEmpty)∨∃ kvs,H p=some (.dK kvs)∧k = !kvs.isEmpty
 | _=>False
theorem VB {κ:Type} {kvs:List (κ × V)} {vs:List (κ × Value)} (r:KV kvs vs):(!vs.isEmpty) = !kvs.isEmpty:=by
 cases r <;> rfl
theorem lu {xs:List V} {its:List Value} (r:jd xs its):(!its.toArray.isEmpty) = !xs.isEmpty:=by
 cases r <;> simp
theorem ls:(sizeLine:Nat) < 2 ^ 63:=by rw [sizeLine_eq];decide
theorem OO:dS X (fun x H Q=>∃ k,SR X.K x H k∧Q k H):=by
 intro pins s σ H x v Q I rx h
 obtain ⟨k,e,q⟩:=h
 have hl:=ls
 have hs:sizeLine=16777216:=sizeLine_eq
 cases x with
 | non=>
  cases rx
  have e':k=false:=e
  subst e'
  exact truthy_none ⟨H,I,q⟩
 | bl b=>
  cases rx
  have e':k=b:=e
  subst e'
  exact wpAny_truthy_bool ⟨H,I,q⟩
 | int i=>
  obtain ⟨t,rfl⟩:=rx
  have e':k=(i != 0):=e
  subst e'
  exact PySem.P.truthy_int ⟨H,I,q⟩
 | str y=>
  obtain ⟨t,rfl⟩:=rx
  obtain ⟨hy,e'⟩:y.length ≤ sizeLine∧k=((y.length:Int) != 0):=e
  subst e'
  exact PySem.P.truthy_str (by omega) ⟨H,I.tok _,q⟩
 | byt y=>
  obtain ⟨t,rfl⟩:=rx
  obtain ⟨hy,e'⟩:y.size ≤ sizeLine∧k=((y.size:Int) != 0):=e
  subst e'
  exact PySem.W.truthy_bytes (by omega) ⟨H,I.tok _,q⟩
 | ref p=>
  cases rx
  have e':(∃ xs,SqL X.K H p xs∧k = !xs.isEmpty)∨(∃ xs,SqT X.K H p xs∧k = !xs.isEmpty)∨∃ kvs,H p=some (.dK kvs)∧k = !kvs.isEmpty:=e
  rcases e' with ⟨xs,hx,e'⟩ | ⟨xs,hx,e'⟩ | ⟨kvs,hx,e'⟩
  ·subst e'
   obtain ⟨its,r,pl,hz⟩:=I.list hx
   have hlen:=r.length
   exact wpAny_truthy_list pl.isList (by simp only [List.size_toArray];omega) ⟨H,I.tok _,by rw [lu r];exact q⟩
  ·subst e'
   obtain ⟨its,r,pl,hz⟩:=I.tuple hx
   have hlen:=r.length
   exact truthy_tuple pl (by simp only [List.size_toArray];omega) ⟨H,I.tok _,by rw [lu r];exact q⟩
  ·subst e'
   obtain ⟨hz,hS,vs,r,m⟩:kvs.length ≤ sizeLine∧(p == sysModules)=false∧∃ vs,KV kvs vs∧s.heap.DictOf (Fe X.prog X.w) p vs:=I.hok p _ hx
   have hlen:kvs.length=vs.length:=Paired.length r
   exact wpAny_truthy_dict hS m (by omega) ⟨H,I.tok _,by rw [VB r];exact q⟩
 | _=>exact (show False from e).elim
theorem bA (ha:PE X a ta) (he:∀ whole,isTrue a X.env whole=(do let v ← whole;standAt a.pos;holding [v] (truthy v))) :
  PT X a (fun σ H Q=>ta σ H fun x H'=>∃ k,SR X.K x H' k∧Q k H'):=by
 intro pins s σ H Q I h
 exact isTrue_plain (thn (ha pins s σ H _ I h) fun v s1 ⟨x,H1,I1,r1,q1⟩=>OO pins s1 σ H1 x v Q I1 r1 q1) (he _)
theorem ui:OpR X (binaryOp .Add) (fun x y H Q=>∃ i j,x=.str i∧y=.str j∧i.length + j.length ≤ sizeLine∧Q (.str (i ++ j)) H):=by
 intro pins s σ H x y v u Q I rx ry h
 obtain ⟨i,j,rfl,rfl,hz,q⟩:=h
 obtain ⟨t,rfl⟩:=rx
 obtain ⟨t',rfl⟩:=ry
 exact add_str (fun t' tk=>⟨.str (i ++ j),H,I.tok _,⟨_,rfl⟩,q⟩) hz
theorem Fp {x:V} {us:List Value} (r:jd [x] us):∃ u,us=[u]∧ud x u:=by
 cases r with
 | cons r1 r2=>cases r2;exact ⟨_,rfl,r1⟩
theorem bD {x y:V} {us:List Value} (r:jd [x,y] us):∃ u w',us=[u,w']∧ud x u∧ud y w':=by
 cases r with
 | cons r1 r2=>
  cases r2 with
  | cons r3 r4=>cases r4;exact ⟨_,_,rfl,r1,r3⟩
theorem wm (hc:X.calm=true):Rm X (.builtin "max") (fun xs H Q=>∃ i j,xs=[.int i,.int j]∧Q (.int (if j > i then j else i)) H):=by
 intro pins s σ H xs us Q I r h
 obtain ⟨i,j,rfl,q⟩:=h
 obtain ⟨u,w',rfl,⟨t,rfl⟩,⟨t',rfl⟩⟩:=bD r
 refine max_two_ints (I.ok.hd hc) fun h' tk k=>⟨_,H,I.kept k,?_,q⟩
 by_cases hj:j > i
 ·rw [if_pos hj,if_pos hj];exact ⟨_,rfl⟩
 ·rw [if_neg hj,if_neg hj];exact ⟨_,rfl⟩
theorem Yr (hc:X.calm=true):Rm X (.builtin "min") (fun xs H Q=>∃ i j,xs=[.int i,.int j]∧Q (.int (if j < i then j else i)) H):=by
 intro pins s σ H xs us Q I r h
 obtain ⟨i,j,rfl,q⟩:=h
 obtain ⟨u,w',rfl,⟨t,rfl⟩,⟨t',rfl⟩⟩:=bD r
 refine min_two_ints (I.ok.hd hc) fun h' tk k=>⟨_,H,I.kept k,?_,q⟩
 by_cases hj:j < i
 ·rw [if_pos hj,if_pos hj];exact ⟨_,rfl⟩
 ·rw [if_neg hj,if_neg hj];exact ⟨_,rfl⟩
theorem KD:Rm X (.type "int") (fun xs H Q=>(∃ i,xs=[.int i]∧Q (.int i) H)∨∃ k,xs=[.bl k]∧Q (.int (if k then 1 else 0)) H):=by
 intro pins s σ H xs us Q I r h
 rcases h with ⟨i,rfl,q⟩ | ⟨k,rfl,q⟩
 ·obtain ⟨u,rfl,t,rfl⟩:=Fp r
  exact call_int_int ⟨.int i,H,I,⟨_,rfl⟩,q⟩
 ·obtain ⟨u,rfl,r1⟩:=Fp r
  cases r1
  exact call_int_bool ⟨.int (if k then 1 else 0),H,I.tok _,⟨_,rfl⟩,q⟩
theorem sk:Rm X (.type "str") (fun xs H Q=>∃ i,xs=[.int i]∧i.natAbs.log2 < 1920∧Q (.str (toString i)) H):=by
 intro pins s σ H xs us Q I r h
 obtain ⟨i,rfl,hz,q⟩:=h
 obtain ⟨u,rfl,t,rfl⟩:=Fp r
 exact PySem.P.str_of_int hz ⟨.str _,H,I.tok _,⟨_,rfl⟩,q⟩
theorem Gq:Rm X (.builtin "divmod") (fun xs H Q=>∃ i j,xs=[.int i,.int j]∧yR i j∧∀ p,H p=none→Q (.ref p) (upd H p (.tup [.int (i / j),.int (i % j)]))):=by
 intro pins s σ H xs us Q I r h
 obtain ⟨i,j,rfl,⟨h1,h2⟩,q⟩:=h
 obtain ⟨u,w',rfl,⟨t,rfl⟩,⟨t',rfl⟩⟩:=bD r
 refine divmod_int (by omega) ?_ (.inl (PyProof.noPylong_small (by omega)))
 rw [Int.fdiv_eq_ediv_of_nonneg i (by omega),Int.fmod_eq_emod_of_nonneg i (by omega)]
 have hn:H s.heap.objs.size=none:=I.hok.fresh (Nat.le_refl _)
 refine ⟨.ref s.heap.objs.size,_,?_,rfl,q _ hn⟩
 refine I.laid (fun b o e=>Heap.get?_push_of_some _ e) (Nat.le_refl _) ⟨by simp only [List.length_cons,List.length_nil];rw [sizeLine_eq];decide,[.int (i / j) s.toks,.int (i % j) (s.toks + 1)],.cons ⟨_,rfl⟩ (.cons ⟨_,rfl⟩ .nil),?_⟩
 exact ⟨_,Heap.get?_push_size s.heap rfl,rfl,0,rfl⟩
end
end L2
namespace L2
open PySem PySem.Spec PyProof.Rows
structure gM (h:Heap) (x dx C:Addr) (mA:Str→Option Value):Prop where
 obj:h.get? x=some (PySem.W.instObj C dx)
 ns:h.Ns1 dx mA
 ne:dx ≠ x
theorem zr {h:Heap} {dx:Addr} {mA:Str→Option Value} (n:h.Ns1 dx mA):∃ od,h.get? dx=some od∧∀ name,PySem.W.lookIn name od=some (mA name):=by
 obtain ⟨o,es,ep,ho,hd,hk,_,hm⟩:=n
 refine ⟨o,ho,fun name=>?_⟩
 have e:=hm name
 unfold nsFind findBy at e
 rw [← Array.find?_toList] at e
 unfold PySem.W.lookIn
 rw [hd]
 dsimp only
 split
 ·rename_i y q
  rw [q] at e
  exact congrArg some e
 ·rename_i q
  rw [q] at e
  have a:es.toList.any (·.refKey)=false:=by
   rw [List.any_eq_false]
   intro y hy
   obtain ⟨z,t,hkey⟩:=hk y (Array.mem_toList_iff.mp hy)
   simp [DictEntry.refKey,hkey]
  have a':¬ es.toList.any (·.refKey)=true:=by rw [a];exact Bool.false_ne_true
  rw [if_neg a']
  exact congrArg some e
theorem gM.look {h:Heap} {x dx C:Addr} {mA:Str→Option Value} (I:gM h x dx C mA):∃ od,PySem.W.InstAt h x (PySem.W.instObj C dx) C (some od)∧∀ name,PySem.W.lookIn name od=some (mA name):=
 let ⟨od,ho,hl⟩:=zr I.ns
 ⟨od,⟨I.obj,rfl,rfl,ho⟩,hl⟩
section
variable {prog:Program} {w:World} {A:Around} {E:Value→Shared→Prop} {s:Shared} {K:PySem.W.Frag} {x dx C f:Addr} {mA:Str→Option Value} {name:Str} {v:Value}
theorem aL {expr:Bool} {Q:Value→Shared→Prop} (X:K.In s.heap) (I:gM s.heap x dx C mA) (hg:PySem.W.plainGet K C name=true) (hh:PySem.W.hasDictIn K C=true)
  (ha:PySem.W.findIn K (.ref C) name=some none) (hv:mA name=some v) (hv':PySem.W.handedIn v=true) (h:Q v { s with toks:=s.toks + 1 }) :
  wpAny (model prog w) A (getAttr (.ref x) name expr) Q E s:=by
 obtain ⟨od,J,hl⟩:=I.look
 exact PySem.W.get_value X J (PySem.W.plainGet_of hg).1 (PySem.W.findObj_own hh ha rfl (by rw [hl,hv])) hv' h
theorem VI {pl:Sem Bool} {Q:Value × List Value→Shared→Prop} (X:K.In s.heap) (I:gM s.heap x dx C mA) (hg:PySem.W.plainGet K C name=true)
  (hf:PySem.W.findIn K (.ref C) name=some (some (.ref f))) (ht:PySem.W.isFn K (.ref f)=true) (hv:mA name=none) (h:Q (.ref f,[.ref x]) s) :
  wpAny (model prog w) A (getMethod (.ref x) name pl) Q E s:=by
 obtain ⟨od,J,hl⟩:=I.look
 exact PySem.W.method_fn X J (PySem.W.plainGet_of hg).1 (PySem.W.plainGet_of hg).2 hf (beq_iff_eq.mp ht) (by show (PySem.W.lookIn name od).map (·.isSome)=some false;rw [hl,hv];rfl) h
theorem iM {ns:List Str} {Q:Unit→Shared→Prop} (X:K.In s.heap) (I:gM s.heap x dx C mA)
  (hs:PySem.W.findIn K (.ref C) "__setattr__"=some (some (.builtin "object.__setattr__"))) (hp:PySem.W.plainOver K C=true) (ht:PySem.W.takerIn K C name=some none) (hh:PySem.W.hasDictIn K C=true)
  (hw:PySem.Within mA ns) (hsz:ns.length ≤ sizeLine)
  (h:∀ h',gM h' x dx C (fun y=>if y=name then some v else mA y)→Heap.SameBut dx s.heap h'→Q () { s with heap:=h',toks:=s.toks + 2 }) :
  wpAny (model prog w) A (setAttr (.ref x) name v) Q E s:=by
 obtain ⟨od,J,hl⟩:=I.look
 refine PySem.W.set_plain X J hs (PySem.W.osa_open (s:={ s with toks:=s.toks + 1 }) (r:=none) X J hp ht fun b=>?_)
 obtain ⟨cd,hc,hd'⟩:=PySem.W.any_some hh
 have hx:s.heap.get? x=some ⟨.ref C,some dx,.plain,#[]⟩:=I.obj
 refine wpAny_bind (wpAny_pure (wpAny_bind (wpAny_bind (wpAny_loadPart hx (wpAny_bind (PySem.W.Looks.here (s:={ s with toks:=s.toks + 1 }) (PySem.W.looks_clsIn X hc) ?_))))))
 rw [hd']
 refine wpAny_pure (a:=some dx) (wpAny_bind (wpAny_pure (wpAny_bind ?_)))
 refine wpAny_nsSet1 (s:={ s with toks:=s.toks + 1 }) I.ns fun h' hn2 hs2=>?_
 obtain ⟨oD,esD,epD,hoD,hdD,hcD⟩:=hn2.count (PySem.Within.cons name v hw)
 refine wpAny_bind (wpAny_lookBehind hoD (by rw [hdD];exact pastItsLine_dict (Nat.le_trans hcD (by rw [List.length_cons];omega))) ?_)
 exact wpAny_pure (h _ ⟨(hs2.2 _ (Ne.symm I.ne)).trans I.obj,hn2,I.ne⟩ hs2)
theorem JH {R:Result→Shared→Prop} {vs:List Value} {kw:List (Str × Value)} (X:K.In s.heap) (hm:PySem.W.makesIn K C=true)
  (hi:PySem.W.findIn K (.ref C) "__init__"=some (some (.ref f))) (hf:PySem.W.typeIn K (.ref f)=some (.type "function"))
  (h:codeAny (model prog w) (A.under (.builtin "type.__call__" ⟨.ref C :: vs,kw⟩)) (.call (.ref f) ⟨.ref (s.heap.objs.size + 1) :: vs,kw⟩) (PySem.W.InitBack (s.heap.objs.size + 1) R)
   { s with heap:=(s.heap.push PySem.W.emptyDict).push (PySem.W.instObj C s.heap.objs.size) }) :
  codeAny (model prog w) A (.call (.ref C) ⟨vs,kw⟩) R s:=by
 obtain ⟨hh,g,d,t,os⟩:=s
 exact PySem.W.make_core (PySem.W.makes_of X hm) (PySem.W.looks_findIn X hi) (fun self=>PySem.W.bind_fn X self hf) (.inl rfl) h
end
noncomputable def Qg (f:Str) (v:V):List (Str × V)→List (Str × V)
 | []=>[(f,v)]
 | (g,x) :: r=>if g=f then (g,v) :: r else (g,x) :: Qg f v r
theorem Rl (f g:Str) (v:V):∀ fs:List (Str × V),(Qg f v fs).lookup g=if g=f then some v else fs.lookup g
 | []=>by
  show List.lookup g [(f,v)]=_
  by_cases h:g=f
  ·have hb:(g == f)=true:=beq_iff_eq.mpr h
   simp only [List.lookup,hb,if_pos h]
  ·have hb:(g == f)=false:=beq_eq_false_iff_ne.mpr h
   simp only [List.lookup,hb,if_neg h]
 | (k,x) :: r=>by
  have ih:=Rl f g v r
  rw [show Qg f v ((k,x) :: r)=(if k=f then (k,v) :: r else (k,x) :: Qg f v r) from rfl]
  by_cases hk:k=f
  ·rw [if_pos hk]
   by_cases h:g=k
   ·have hb:(g == k)=true:=beq_iff_eq.mpr h
    simp only [List.lookup,hb,if_pos (h.trans hk)]
   ·have hb:(g == k)=false:=beq_eq_false_iff_ne.mpr h
    simp only [List.lookup,hb,if_neg (fun e:g=f=>h (e.trans hk.symm))]
  ·rw [if_neg hk]
   by_cases h:g=k
   ·have hb:(g == k)=true:=beq_iff_eq.mpr h
    simp only [List.lookup,hb,if_neg (fun e:g=f=>hk (h.symm.trans e))]
   ·have hb:(g == k)=false:=beq_eq_false_iff_ne.mpr h
    simp only [List.lookup,hb]
    exact ih
theorem Hj (f:Str) (v:V):∀ fs:List (Str × V),f ∈ (Qg f v fs).map (·.1)∧∀ g,g ∈ fs.map (·.1)→g ∈ (Qg f v fs).map (·.1)
 | []=>⟨by simp [Qg],fun g h=>by simp at h⟩
 | (k,x) :: r=>by
  obtain ⟨i1,i2⟩:=Hj f v r
  rw [show Qg f v ((k,x) :: r)=(if k=f then (k,v) :: r else (k,x) :: Qg f v r) from rfl]
  by_cases hk:k=f
  ·rw [if_pos hk]
   subst hk
   exact ⟨by simp,fun g h=>by simpa using h⟩
  ·rw [if_neg hk]
   refine ⟨?_,fun g h=>?_⟩
   ·rw [List.map_cons]
    exact List.mem_cons_of_mem _ i1
   ·rw [List.map_cons] at h ⊢
    rcases List.mem_cons.mp h with e | e
    ·exact List.mem_cons.mpr (.inl e)
    ·exact List.mem_cons_of_mem _ (i2 g e)
theorem om (f:Str) (v:V):∀ fs:List (Str × V),(Qg f v fs).length ≤ fs.length + 1
 | []=>by simp [Qg]
 | (k,x) :: r=>by
  have ih:=om f v r
  rw [show Qg f v ((k,x) :: r)=(if k=f then (k,v) :: r else (k,x) :: Qg f v r) from rfl]
  by_cases hk:k=f
  ·rw [if_pos hk,List.length_cons,List.length_cons];omega
  ·rw [if_neg hk,List.length_cons,List.length_cons];omega
theorem Bs.some_of {v:V} {o:Option Value} (r:Bs (some v) o):∃ u,o=some u∧ud v u:=by
 cases o with
 | none=>exact (show False from r).elim
 | some u=>exact ⟨u,rfl,r⟩
theorem Bs.none_of {o:Option Value} (r:Bs none o):o=none:=by
 cases o with
 | none=>rfl
 | some u=>exact (show False from r).elim
theorem Ix {v:V} {u:Value} (r:ud v u):PySem.W.handedIn u=true:=by
 cases v with
 | non=>cases (show u=Value.none from r);rfl
 | bl b=>cases (show u=Value.bool b from r);rfl
 | int i=>obtain ⟨t,e⟩:=(show ∃ t,u=Value.int i t from r);cases e;rfl
 | str x=>obtain ⟨t,e⟩:=(show ∃ t,u=Value.str x t from r);cases e;rfl
 | byt b=>obtain ⟨t,e⟩:=(show ∃ t,u=Value.bytes b t from r);cases e;rfl
 | flt b=>obtain ⟨t,e⟩:=(show ∃ t,u=Value.float b t from r);cases e;rfl
 | ref a=>cases (show u=Value.ref a from r);rfl
 | ty n=>cases (show u=Value.type n from r);rfl
section
variable {P:Program} {w:World} {H H':Hp} {h h':Heap} {a C dx:Addr} {fs fs':List (Str × V)}
theorem Ru (hok:HOk P w H h) (e:H a=some (.ins C dx fs)):∃ mA,gM h a dx C mA∧(∀ f,Bs (fs.lookup f) (mA f))∧PySem.Within mA (fs.map (·.1))∧fs.length ≤ 1000∧H dx=some (.own a):=by
 obtain ⟨d,z,ne,ob,mA,n,r,q⟩:=(show gd P w H h a (.ins C dx fs) from hok a _ e)
 exact ⟨mA,⟨ob,n,ne⟩,r,q,z,d⟩
end
structure Cls (K:PySem.W.Frag) (C:Addr):Prop where
 pg:PySem.W.plainGet K C Str.empty=true
 hd:PySem.W.hasDictIn K C=true
 po:PySem.W.plainOver K C=true
 sa:PySem.W.findIn K (.ref C) "__setattr__"=some (some (.builtin "object.__setattr__"))
theorem Cls.get {K:PySem.W.Frag} {C:Addr} (c:Cls K C) (f:Str):PySem.W.plainGet K C f=true:=c.pg
noncomputable def Fb (K:PySem.W.Frag) (C:Addr) (f:Str):Prop:=PySem.W.findIn K (.ref C) f=some none
theorem Fb.taker {K:PySem.W.Frag} {C:Addr} {f:Str} (n:Fb K C f):PySem.W.takerIn K C f=some none:=by
 unfold PySem.W.takerIn
 rw [show PySem.W.findIn K (.ref C) f=some none from n]
 rfl
structure Con (K:PySem.W.Frag) (C:Addr) (f:Str) (v:V) (u:Value):Prop where
 at_:PySem.W.findIn K (.ref C) f=some (some u)
 rel:ud v u
 get:PySem.W.specialIn K u "__get__"=some none
 cp:PySem.W.copiedNames.contains f=false
structure Fq (K:PySem.W.Frag) (C:Addr) (m:Str) (f:Addr):Prop where
 at_:PySem.W.findIn K (.ref C) m=some (some (.ref f))
 fn:PySem.W.isFn K (.ref f)=true
 kp:PySem.W.keepIn K (.ref f)=true
section
variable {X:Cx} {pins:List (Addr × Obj)} {σ:St} {H:Hp} {s:Shared} {a C dx:Addr} {fs:List (Str × V)} {f:Str} {v:V} {A:Around} {E:Value→Shared→Prop}
theorem ou {b:Bool} {Q:Value→Shared→Prop} (I:Inv X pins σ H s) (e:H a=some (.ins C dx fs)) (c:Cls X.K C) (n:Fb X.K C f) (l:fs.lookup f=some v)
  (h:∀ u s',Inv X pins σ H s'→ud v u→Q u s'):wpAny (model X.prog X.w) A (getAttr (.ref a) f b) Q E s:=by
 obtain ⟨mA,O,r,_,_,_⟩:=Ru I.hok e
 obtain ⟨u,hu,ru⟩:=Bs.some_of (v:=v) (o:=mA f) (by rw [← l];exact r f)
 exact aL I.kIn O (c.get f) c.hd n hu (Ix ru) (h u _ (I.tok _) ru)
theorem Ek {m:Str} {g:Addr} {pl:Sem Bool} {Q:Value × List Value→Shared→Prop} (I:Inv X pins σ H s) (e:H a=some (.ins C dx fs)) (c:Cls X.K C) (k:Fq X.K C m g) (l:fs.lookup m=none)
  (h:Q (.ref g,[.ref a]) s):wpAny (model X.prog X.w) A (getMethod (.ref a) m pl) Q E s:=by
 obtain ⟨mA,O,r,_,_,_⟩:=Ru I.hok e
 have hn:mA m=none:=Bs.none_of (by rw [← l];exact r m)
 exact VI I.kIn O (c.get m) k.at_ k.fn hn h
theorem Hu {y:V} {u:Value} {Q:Unit→Shared→Prop} (I:Inv X pins σ H s) (e:H a=some (.ins C dx fs)) (c:Cls X.K C) (n:Fb X.K C f) (hl:fs.length < 1000) (ry:ud y u)
  (h:∀ s',Inv X pins σ (upd H a (.ins C dx (Qg f y fs))) s'→Q () s'):wpAny (model X.prog X.w) A (setAttr (.ref a) f u) Q E s:=by
 obtain ⟨mA,O,r,wi,_,ho⟩:=Ru I.hok e
 have hz:(fs.map (·.1)).length ≤ sizeLine:=by rw [List.length_map,sizeLine_eq];omega
 refine iM I.kIn O c.sa c.po n.taker c.hd wi hz fun h' O' sb=>h _ ?_
 have hd:∃ o,h'.get? dx=some o:=let ⟨o,_,_,e',_⟩:=O'.ns;⟨o,e'⟩
 refine I.write (x:=a) (e:=dx) (by rw [e];exact True.intro) (.inr ho) (fun b q hb z=>(sb.2 b hb).trans z) hd ?_
 refine ⟨by rw [pb O.ne];exact ho,?_,O.ne,O'.obj,_,O'.ns,fun g=>?_,fun g hg=>?_⟩
 ·have:=om f y fs;omega
 ·show Bs ((Qg f y fs).lookup g) (if g=f then some u else mA g)
  rw [Rl]
  by_cases q:g=f
  ·rw [if_pos q,if_pos q];exact ry
  ·rw [if_neg q,if_neg q];exact r g
 ·by_cases q:g=f
  ·rw [q];exact (Hj f y fs).1
  ·refine (Hj f y fs).2 g (wi g fun z=>hg ?_)
   show (if g=f then some u else mA g)=none
   rw [if_neg q];exact z
theorem Inv.made (I:Inv X pins σ H s):Inv X pins σ (upd (upd H s.heap.objs.size (.own (s.heap.objs.size + 1))) (s.heap.objs.size + 1) (.ins C s.heap.objs.size []))
  { s with heap:=(s.heap.push PySem.W.emptyDict).push (PySem.W.instObj C s.heap.objs.size) }:=by
 have e1:(s.heap.push PySem.W.emptyDict).get? s.heap.objs.size=some PySem.W.emptyDict:=Heap.get?_push_size s.heap rfl
 have e2:((s.heap.push PySem.W.emptyDict).push (PySem.W.instObj C s.heap.objs.size)).get? (s.heap.objs.size + 1)=some (PySem.W.instObj C s.heap.objs.size):=by
  have:=Heap.get?_push_size (s.heap.push PySem.W.emptyDict) (o:=PySem.W.instObj C s.heap.objs.size) rfl
  rwa [Heap.size_push] at this
 have e3:(s.heap.push PySem.W.emptyDict).Ns s.heap.objs.size (fun _=>none):=⟨PySem.W.emptyDict,#[],_,e1,rfl,(fun e he=>absurd he (by simp)),fun _=>rfl⟩
 have I1:=I.laid (a:=s.heap.objs.size) (o:=.own (s.heap.objs.size + 1)) (h':=s.heap.push PySem.W.emptyDict) (t':=s.toks) (fun b u q=>Heap.get?_push_of_some _ q) (Nat.le_refl _) ⟨_,e1⟩
 refine I1.laid (a:=s.heap.objs.size + 1) (o:=.ins C s.heap.objs.size []) (t':=s.toks) (fun b u q=>Heap.get?_push_of_some _ q) (Nat.le_of_eq (Heap.size_push _ _)) ?_
 have ne:s.heap.objs.size ≠ s.heap.objs.size + 1:=Nat.ne_of_lt (Nat.lt_succ_self _)
 refine ⟨by rw [pb ne,fb],Nat.zero_le _,ne,e2,fun _=>none,(Heap.Ns1.of_empty e3).at fun o q=>Heap.get?_push_of_some _ q,fun _=>True.intro,fun y hy=>absurd rfl hy⟩
theorem FF {prog:Program} {w:World} {env:Env} {e:Expr} {f:Str} {pos:Pos} {s:Shared} {Q:Value→Shared→Prop} (hb:attributeBase e f env (eval e env)=eval e env)
  (h:wpAny (model prog w) A (eval e env) (fun o s₁=>wpAny (model prog w) A (getAttr o f true) Q E s₁) E s):wpAny (model prog w) A (eval (.Attribute e f pos) env) Q E s:=
 Attribute_any_ h (by rw [arm_eval_Attribute,hb])
end
noncomputable def dR (K:PySem.W.Frag) (ta:TE) (f:Str):TE:=fun σ H Q=>ta σ H fun x H1=>∃ a C dx fs v,x=.ref a∧H1 a=some (.ins C dx fs)∧Cls K C∧Fb K C f∧fs.lookup f=some v∧Q v H1
noncomputable def eS (K:PySem.W.Frag) (ta:TE) (f:Str):TE:=fun σ H Q=>ta σ H fun x H1=>∃ a C dx fs v u,x=.ref a∧H1 a=some (.ins C dx fs)∧Cls K C∧Con K C f v u∧fs.lookup f=none∧Q v H1
noncomputable def rR (K:PySem.W.Frag) (ta tv:TE) (f:Str):TS:=fun D σ H=>tv σ H fun y H1=>ta σ H1 fun x H2=>∃ a C dx fs,x=.ref a∧H2 a=some (.ins C dx fs)∧Cls K C∧Fb K C f∧fs.length < 1000 ∧
 D.nx σ (upd H2 a (.ins C dx (Qg f y fs)))
noncomputable def MR (X:Cx) (op:Operator) (rd:V→V→Hp→VK→Prop):Prop:=
 ∀ (pins:List (Addr × Obj)) (s:Shared) (σ:St) (H:Hp) (x y:V) (u v:Value) (Q:VK),Inv X pins σ H s→ud x u→ud y v→rd x y H Q→wpAny (model X.prog X.w) X.A (inplaceOp op u v) (EP X pins σ Q) X.xe s
noncomputable def oF (K:PySem.W.Frag) (ta tv:TE) (rd:V→V→Hp→VK→Prop) (f:Str):TS:=fun D σ H=>ta σ H fun x H1=>∃ a C dx fs v,x=.ref a∧H1 a=some (.ins C dx fs)∧Cls K C∧Fb K C f∧fs.lookup f=some v ∧
 tv σ H1 fun y H2=>rd v y H2 fun z H3=>∃ dx' fs',H3 a=some (.ins C dx' fs')∧fs'.length < 1000∧D.nx σ (upd H3 a (.ins C dx' (Qg f z fs')))
section
variable {X:Cx} {o e value:Expr} {f:Str} {pos pos' tpos:Pos} {ta tv:TE}
theorem Vb (he:PE X e ta) (hb:attributeBase e f X.env (eval e X.env)=eval e X.env):PE X (.Attribute e f pos) (dR X.K ta f):=by
 intro pins s σ H Q I h
 refine FF hb (thn (he pins s σ H _ I h) fun u s1 hZ1=>?_)
 obtain ⟨x,H1,I1,rx,a,C,dx,fs,v,ex,ea,c,n,l,q⟩:=hZ1
 subst ex
 obtain rfl:u=Value.ref a:=rx
 exact ou I1 ea c n l fun u' s2 I2 ru=>⟨v,H1,I2,ru,q⟩
theorem qf (ha:PE X o ta) (hv:PE X value tv) (hs:swapsWith value (some (.Attribute o f pos')) pos.line X.env=pure false):PS X (.Assign [.Attribute o f pos'] value pos) (rR X.K ta tv f):=by
 intro pins s σ H D I h
 refine plainObj_wpAny_Assign_Attribute (thn (hv pins s σ H _ I h) fun u s1 ⟨y,H1,I1,ry,q⟩=>thn (ha pins s1 σ H1 _ I1 q) fun ov s2 hZ1=>?_) hs
 obtain ⟨x,H2,I2,rx,a,C,dx,fs,ex,ea,c,n,l,q2⟩:=hZ1
 subst ex
 obtain rfl:ov=Value.ref a:=rx
 exact Hu I2 ea c n l ry fun s3 I3=>⟨σ,_,I3,q2⟩
theorem fF {op:Operator} {rd:V→V→Hp→VK→Prop} (ha:PE X o ta) (hv:PE X value tv) (hop:MR X op rd):PS X (.AugAssign (.Attribute o f tpos) op value pos) (oF X.K ta tv rd f):=by
 intro pins s σ H D I h
 refine wpAny_AugAssign_AttributeAny (thn (ha pins s σ H _ I h) fun ov s1 hZ1=>?_)
 obtain ⟨x,H1,I1,rx,a,C,dx,fs,v,ex,ea,c,n,l,q⟩:=hZ1
 subst ex
 obtain rfl:ov=Value.ref a:=rx
 refine ou I1 ea c n l fun u s2 I2 ru=>thn (hv pins s2 σ H1 _ I2 q) fun w3 s3 ⟨y,H2,I3,ry,q3⟩=>thn (hop pins s3 σ H2 v y u w3 _ I3 ru ry q3) fun w4 s4 hZ1=>?_
 obtain ⟨z,H3,I4,rz,dx',fs',ea',l',q4⟩:=hZ1
 exact Hu I4 ea' c n l' rz fun s5 I5=>⟨σ,_,I5,q4⟩
noncomputable def ER:V→V→Hp→VK→Prop:=fun x y H Q=>∃ i j,x=.int i∧y=.int j∧Q (.int (i + j)) H
noncomputable def WR:V→V→Hp→VK→Prop:=fun x y H Q=>∃ i j,x=.int i∧y=.int j∧Q (.int (i - j)) H
theorem xN:MR X .Add ER:=by
 rintro pins s σ H x y u v Q I rx ry ⟨i,j,rfl,rfl,q⟩
 obtain ⟨t,rfl⟩:=(show ∃ t,u=Value.int i t from rx)
 obtain ⟨t',rfl⟩:=(show ∃ t',v=Value.int j t' from ry)
 exact PyProof.Rows.iadd_int ⟨.int (i + j),H,I.tok _,⟨_,rfl⟩,q⟩
end
section
variable {X:Cx} {pins:List (Addr × Obj)} {σ:St} {H:Hp} {s:Shared} {A:Around} {E:Value→Shared→Prop} {Q:Value→Shared→Prop} {c:Value} {b:Bool}
inductive Cz (K:PySem.W.Frag) (H:Hp):V→Value→Prop where
 | non:Cz K H .non (.type "NoneType")
 | bl (x:Bool):Cz K H (.bl x) (.type "bool")
 | int (i:Int):Cz K H (.int i) (.type "int")
 | str (x:Str):Cz K H (.str x) (.type "str")
 | flt (x:UInt64):Cz K H (.flt x) (.type "float")
 | lst {a:Addr} {xs:List V} (e:H a=some (.lst xs)):Cz K H (.ref a) (.type "list")
 | frz {a:Addr} {o:Obj} {xs:List V} (e:H a=some (.frz o (.lst xs))):Cz K H (.ref a) (.type "list")
 | tup {a:Addr} {xs:List V} (e:H a=some (.tup xs)):Cz K H (.ref a) (.type "tuple")
 | dK {a:Addr} {kvs:List (Key × V)} (e:H a=some (.dK kvs)):Cz K H (.ref a) (.type "dict")
 | dT {a:Addr} {kvs:List (List Key × V)} (e:H a=some (.dT kvs)):Cz K H (.ref a) (.type "dict")
 | ins {a C dx:Addr} {fs:List (Str × V)} (e:H a=some (.ins C dx fs)) (cl:Cls K C) (ha:PySem.W.findIn K (.ref C) "__class__"=some (some (.builtin "object.__class__")))
   (hn:PySem.W.specialIn K (.builtin "object.__class__") "__get__"=some (some (.builtin "getset_descriptor.__get__"))) (htk:PySem.W.takesIn K (.builtin "object.__class__")=some true)
   (hm:PySem.W.mroIn K C (.type "object")=some true):Cz K H (.ref a) (.ref C)
theorem CC {x:V} {u t:Value} (I:Inv X pins σ H s) (rx:ud x u) (ty:Cz X.K H x t) (e:PySem.W.kitOne X.K t c=some b) (h:∀ tk,Q (.bool b) { s with toks:=tk }) :
  wpAny (model X.prog X.w) A (call (.builtin "isinstance") [u,c]) Q E s:=by
 cases ty with
 | non=>cases (show u=Value.none from rx);exact PySem.W.kia_one PySem.W.kitx_none I.kIn True.intro e (fun z=>nomatch z) h
 | bl y=>cases (show u=Value.bool y from rx);exact PySem.W.kia_one PySem.W.kitx_bool I.kIn True.intro e (fun z=>nomatch z) h
 | int i=>obtain ⟨t,q⟩:=(show ∃ t,u=Value.int i t from rx);cases q;exact PySem.W.kia_one PySem.W.kitx_int I.kIn True.intro e (fun z=>nomatch z) h
 | str y=>obtain ⟨t,q⟩:=(show ∃ t,u=Value.str y t from rx);cases q;exact PySem.W.kia_one PySem.W.kitx_str I.kIn True.intro e (fun z=>nomatch z) h
 | flt y=>obtain ⟨t,q⟩:=(show ∃ t,u=Value.float y t from rx);cases q;exact PySem.W.kia_one PySem.W.kitx_float I.kIn True.intro e (fun z=>nomatch z) h
 | @lst a xs ea=>
  cases (show u=Value.ref a from rx)
  obtain ⟨_,_,n,_,h1⟩:=(show gd X.prog X.w H s.heap a (.lst xs) from I.hok a _ ea)
  exact PySem.W.kia_one PySem.W.kitx_list I.kIn ⟨_,h1,rfl⟩ e (fun z=>nomatch z) h
 | @frz a ob xs ea=>
  cases (show u=Value.ref a from rx)
  obtain ⟨_,_,_,n,_,h1⟩:=(show gd X.prog X.w H s.heap a (.frz ob (.lst xs)) from I.hok a _ ea)
  exact PySem.W.kia_one PySem.W.kitx_list I.kIn ⟨_,h1,rfl⟩ e (fun z=>nomatch z) h
 | @tup a xs ea=>
  cases (show u=Value.ref a from rx)
  obtain ⟨_,_,_,p⟩:=(show gd X.prog X.w H s.heap a (.tup xs) from I.hok a _ ea)
  obtain ⟨o,h1,h2,_⟩:=p
  exact PySem.W.kia_one PySem.W.kitx_tuple I.kIn ⟨o,h1,h2⟩ e (fun z=>nomatch z) h
 | @dK a kvs ea=>
  cases (show u=Value.ref a from rx)
  obtain ⟨_,_,vs,_,p⟩:=(show gd X.prog X.w H s.heap a (.dK kvs) from I.hok a _ ea)
  obtain ⟨o,es,ep,h1,h2,_⟩:=p
  exact PySem.W.kia_one PySem.W.kitx_dict I.kIn ⟨o,h1,h2.1⟩ e (fun z=>nomatch z) h
 | @dT a kvs ea=>
  cases (show u=Value.ref a from rx)
  obtain ⟨_,_,xs,_,o,es,ep,h1,h2,_⟩:=(show gd X.prog X.w H s.heap a (.dT kvs) from I.hok a _ ea)
  exact PySem.W.kia_one PySem.W.kitx_dict I.kIn ⟨o,h1,h2.1⟩ e (fun z=>nomatch z) h
 | @ins a C dx fs ea cl ha hn htk hm=>
  cases (show u=Value.ref a from rx)
  obtain ⟨mA,O,_⟩:=Ru I.hok ea
  obtain ⟨od,J,_⟩:=O.look
  exact PySem.W.kia_one (PySem.W.kitx_own (cl.get _) cl.hd ha hn htk hm) I.kIn J e (fun z=>nomatch z) h
end
end L2
namespace L2
open PySem PySem.Spec PyProof.Rows
structure oh (k:Nat) (A:Around):Prop where
 hd:A.handled=none
 dp:A.depth + 3 * k + 5 < recursionLimit
 un:A.units + 16 * k + 200 < cLine
theorem oh.mono {j k:Nat} {A:Around} (r:oh k A) (h:j ≤ k):oh j A:=⟨r.hd,by have:=r.dp;omega,by have:=r.un;omega⟩
theorem oh.deeper {k:Nat} {A:Around} (r:oh (k + 1) A) (env:Env):oh k (A.deeper env):=
 ⟨r.hd,by have:=r.dp;show A.depth + 1 + 3 * k + 5 < _;omega,by have:=r.un;show A.units + 3 + 16 * k + 200 < _;omega⟩
theorem oh.in1 {k:Nat} {A:Around} (r:oh (k + 1) A):oh k A.in1:=
 ⟨r.hd,by have:=r.dp;show A.depth + 3 * k + 5 < _;omega,by have:=r.un;show A.units + 1 + 16 * k + 200 < _;omega⟩
theorem RB {A:Around} {C:Addr} {us:List Value} {kw:List (Str × Value)}:(A.under (.builtin "type.__call__" ⟨.ref C :: us,kw⟩)).depth=A.depth + 1:=by
 first | rfl | simp [Around.under,Code.weight,Code.isCreation,Code.isGuard,Code.isCaller,Code.frames,Code.isFrame,guardIds]
theorem kB {A:Around} {C:Addr} {us:List Value} {kw:List (Str × Value)}:(A.under (.builtin "type.__call__" ⟨.ref C :: us,kw⟩)).units=A.units + 1:=by
 first | rfl | simp [Around.under,Code.cUnits,Code.frames,Code.isFrame]
theorem oh.make {k:Nat} {A:Around} (r:oh (k + 1) A) (C:Addr) (us:List Value) (kw:List (Str × Value)):oh k (A.under (.builtin "type.__call__" ⟨.ref C :: us,kw⟩)):=
 ⟨r.hd,by have:=r.dp;rw [RB];omega,by have:=r.un;rw [kB];omega⟩
theorem oh.depth {k:Nat} {A:Around} (r:oh k A):A.depth < recursionLimit:=by have:=r.dp;omega
theorem oh.units {k:Nat} {A:Around} (r:oh k A):A.units + 64 < cLine:=by have:=r.un;omega
noncomputable def lQ:TA:=fun _ H Q=>Q [] H
noncomputable def IP (ta:TE) (tr:TA):TA:=fun σ H Q=>ta σ H fun x H1=>tr σ H1 fun xs H2=>Q (x :: xs) H2
section
variable {X:Cx} {e:Expr} {es:List Expr} {te:TE} {t:TA} {pos:Pos}
theorem gb:PA X [] lQ:=fun _ _ _ _ H Q I h=>Calls.spliced_nil ⟨[],H,I,.nil,h⟩
theorem bb (ha:PE X e te) (hr:PA X es t) (hs:starEach (e :: es) X.env=(false,eval e X.env) :: starEach es X.env:=by rfl):PA X (e :: es) (IP te t):=by
 intro pos pins s σ H Q I h
 rw [hs]
 show wpAny _ _ (spliced ((false,eval e X.env) :: backTo pos (starEach es X.env))) _ _ s
 refine Calls.spliced_cons (thn (ha pins s σ H _ I h) fun u s1 hZ1=>?_)
 obtain ⟨x,H1,I1,r1,q1⟩:=hZ1
 exact thn (hr pos pins s1 σ H1 _ I1 q1) fun us s2 ⟨xs,H2,I2,r2,q2⟩=>⟨x :: xs,H2,I2,.cons r1 r2,q2⟩
noncomputable def nR (t:TA):TE:=fun σ H Q=>t σ H fun xs H1=>xs.length ≤ sizeLine∧∀ p,H1 p=none→Q (.ref p) (upd H1 p (.tup xs))
noncomputable def sR (t:TA):TE:=fun σ H Q=>t σ H fun xs H1=>xs.length ≤ sizeLine∧∀ p,H1 p=none→Q (.ref p) (upd H1 p (.lst xs))
theorem Hq {x1} (h:PA X es t):PE X (.Tuple es x1 pos) (nR t):=by
 intro pins s σ H Q I hq
 refine wpAny_Tuple_spliced (thn (h pos pins s σ H _ I hq) fun us s1 ⟨xs,H1,I1,r,z,q⟩=>⟨by rw [← r.length];exact z,?_⟩)
 have hf:H1 s1.heap.objs.size=none:=I1.hok.fresh (Nat.le_refl _)
 refine ⟨.ref s1.heap.objs.size,upd H1 s1.heap.objs.size (.tup xs),I1.laid (t':=s1.toks) (fun b u e=>Heap.get?_push_of_some _ e) (Nat.le_refl _) ?_,rfl,q _ hf⟩
 exact ⟨z,us,r,⟨_,Heap.get?_push_size _ rfl,rfl,_,rfl⟩⟩
theorem bg (h:PA X es t):PE X (.List es pos) (sR t):=by
 intro pins s σ H Q I hq
 refine wpAny_List_spliced (thn (h pos pins s σ H _ I hq) fun us s1 ⟨xs,H1,I1,r,z,q⟩=>⟨by rw [← r.length];exact z,?_⟩)
 have hf:H1 s1.heap.objs.size=none:=I1.hok.fresh (Nat.le_refl _)
 refine ⟨.ref s1.heap.objs.size,upd H1 s1.heap.objs.size (.lst xs),I1.laid (t':=s1.toks) (fun b u e=>Heap.get?_push_of_some _ e) (Nat.le_refl _) ?_,rfl,q _ hf⟩
 exact ⟨z,us,0,r,Heap.get?_push_size _ rfl⟩
end
noncomputable abbrev Sp:=List V→Hp→VK→XK→Prop
noncomputable abbrev CXT:=List Env→Hp→Shared→XK→Value→Shared→Prop
structure xC (P:Program) (w:World) (K:PySem.W.Frag) (mg:Str→Option Value) (base:Heap) (A:Around) (outer:List Env) (s:Shared) (H:Hp):Prop where
 frames:A.frames=some outer
 mod:Mod K mg base
 bs:∀ b o,base.get? b=some o→s.heap.get? b=some o∧H b=none
 bsz:base.objs.size ≤ s.heap.objs.size
 funs:s.heap.FunFrames base outer
 frf:∀ b ∈ frs outer,H b=none
 hok:HOk P w H s.heap
 bare:AllBare s.gens
noncomputable def CE (outer:List Env) (P:Program) (w:World) (H:Hp) (s:Shared) (Q:VK) (u:Value) (s':Shared):Prop:=
 ∃ v H',s'.os=s.os∧AllBare s'.gens∧Un (frs outer) [] H H' s.heap s'.heap∧HOk P w H' s'.heap∧ud v u∧Q v H'
noncomputable def CR (CX:CXT) (outer:List Env) (P:Program) (w:World) (H:Hp) (s:Shared) (Q:VK) (E:XK) (r:Result) (s':Shared):Prop:=
 match r with
 | .ok (.ret u)=>CE outer P w H s Q u s'
 | .ok _=>False
 | .error e=>CX outer H s E e s'
structure Eb (P:Program) (w:World) (K:PySem.W.Frag) (mg:Str→Option Value) (base:Heap) (CX:CXT) (k:Nat) (f:Addr) (fd:FuncData) (ps:List Str) (sp:Sp):Prop where
 len:∀ vs H Q E,sp vs H Q E→vs.length=ps.length
 run:∀ (A:Around) (outer:List Env) (s:Shared) (H:Hp) (args:Args) (us:List Value) (vs:List V) (Q:VK) (E:XK),oh k A→xC P w K mg base A outer s H→BindsTo s fd args (ps.zip us)→jd vs us→sp vs H Q E →
  codeAny (model P w) A (.call (.ref f) args) (CR CX outer P w H s Q E) s
theorem Eb.mono {P:Program} {w:World} {K:PySem.W.Frag} {mg:Str→Option Value} {base:Heap} {CX:CXT} {j k:Nat} {f:Addr} {fd:FuncData} {ps:List Str} {sp:Sp} (F:Eb P w K mg base CX j f fd ps sp) (h:j ≤ k) :
  Eb P w K mg base CX k f fd ps sp:=⟨F.len,fun A outer s H args us vs Q E hr=>F.run A outer s H args us vs Q E (hr.mono h)⟩
theorem Eb.imp {P:Program} {w:World} {K:PySem.W.Frag} {mg:Str→Option Value} {base:Heap} {CX:CXT} {k:Nat} {f:Addr} {fd:FuncData} {ps:List Str} {sp sp':Sp} (F:Eb P w K mg base CX k f fd ps sp)
  (h:∀ vs H Q E,sp' vs H Q E→sp vs H Q E):Eb P w K mg base CX k f fd ps sp':=
 ⟨fun vs H Q E q=>F.len vs H Q E (h _ _ _ _ q),fun A outer s H args us vs Q E hr he hb hv hs=>F.run A outer s H args us vs Q E hr he hb hv (h _ _ _ _ hs)⟩
theorem xC.make {P:Program} {w:World} {K:PySem.W.Frag} {mg:Str→Option Value} {base:Heap} {A:Around} {outer:List Env} {s:Shared} {H:Hp} (e:xC P w K mg base A outer s H) (C:Addr) (us:List Value) (kw:List (Str × Value)) :
  xC P w K mg base (A.under (.builtin "type.__call__" ⟨.ref C :: us,kw⟩)) outer s H:=⟨by first | exact e.frames | (simpa [Around.under,Code.envs,Code.isFrame,pushEnvs] using e.frames),e.mod,e.bs,e.bsz,e.funs,e.frf,e.hok,e.bare⟩
theorem xC.in1 {P:Program} {w:World} {K:PySem.W.Frag} {mg:Str→Option Value} {base:Heap} {A:Around} {outer:List Env} {s:Shared} {H:Hp} (e:xC P w K mg base A outer s H) :
  xC P w K mg base A.in1 outer s H:=⟨e.frames,e.mod,e.bs,e.bsz,e.funs,e.frf,e.hok,e.bare⟩
section
variable {X:Cx} {pins:List (Addr × Obj)} {σ:St} {H:Hp} {s s':Shared}
theorem Inv.env0 (I:Inv X pins σ H s):xC X.prog X.w X.K X.mg X.base X.A X.stack s H:=
 ⟨I.ok.frames,I.ok.mod,I.bs,Nat.le_trans I.ok.bsz I.sz,I.stack,I.stkFree,I.hok,I.bare⟩
theorem Inv.after {Q:VK} {u:Value} (I:Inv X pins σ H s) (h:CE X.stack X.prog X.w H s Q u s'):EP X pins σ Q u s':=by
 obtain ⟨v,H',os,bare,un,hok,r,q⟩:=h
 obtain ⟨hh,g,d,t,os'⟩:=s'
 obtain rfl:os'=s.os:=os
 exact ⟨v,H',I.call (h':=hh) (g':=g) (d':=d) (t':=t) (ch:=[]) un hok bare (fun b z=>absurd z (by simp)),r,q⟩
end
noncomputable def FL (sp:Sp) (dvs:List V) (E:XK) (t:TA):TE:=fun σ H Q=>t σ H fun vs H1=>sp (vs ++ dvs) H1 Q E
noncomputable def sK (C:Addr) (m:Str) (sp:Sp) (dvs:List V) (E:XK) (ta:TE) (t:TA):TE:=fun σ H Q=>ta σ H fun x H1=>∃ a dx fs,x=.ref a∧H1 a=some (.ins C dx fs)∧fs.lookup m=none ∧
 t σ H1 fun vs H2=>sp (x :: (vs ++ dvs)) H2 Q E
noncomputable def tN (C:Addr) (sp:Sp) (dvs:List V) (E:XK) (t:TA):TE:=fun σ H Q=>t σ H fun vs H1=>∀ x dx,H1 x=none→H1 dx=none→dx ≠ x →
 sp (.ref x :: (vs ++ dvs)) (upd (upd H1 dx (.own x)) x (.ins C dx [])) (fun v H2=>v=.non∧Q (.ref x) H2) E
noncomputable def Qb (K:PySem.W.Frag) (fd:FuncData) (ps:List Str) (ds:List Value):Prop:=
 ∀ (s:Shared) (us:List Value),K.In s.heap→(us ++ ds).length=ps.length→BindsTo s fd ⟨us,[]⟩ (ps.zip (us ++ ds))
theorem Qb.all {K:PySem.W.Frag} {fd:FuncData} {ps:List Str} (h:∀ us:List Value,us.length=ps.length→bindArgs fd ⟨us,[]⟩=pure (ps.zip us)):Qb K fd ps []:=fun s us _ hl=>by
 rw [List.append_nil] at hl ⊢
 exact .of_eq (h us hl)
noncomputable def Aj (CX:CXT) (X:Cx) (E:XK):Prop:=∀ (pins:List (Addr × Obj)) (σ:St) (H:Hp) (s:Shared) (e:Value) (s':Shared),Inv X pins σ H s→CX X.stack H s E e s'→X.xe e s'
section
variable {X:Cx} {CX:CXT} {k:Nat} {f C:Addr} {fd:FuncData} {ps:List Str} {sp:Sp} {dvs:List V} {ds:List Value} {E:XK} {x m:Str} {p pos apos:Pos} {e o:Expr} {es:List Expr} {ta:TE} {t:TA}
theorem eu {pins:List (Addr × Obj)} {σ:St} {H:Hp} {s:Shared} {Q:VK} {us:List Value} {vs:List V} (F:Eb X.prog X.w X.K X.mg X.base CX k f fd ps sp) (hr:oh k X.A) (hb:Qb X.K fd ps ds) (hd:jd dvs ds) (hx:Aj CX X E)
  (I:Inv X pins σ H s) (r:jd vs us) (h:sp (vs ++ dvs) H Q E):wpAny (model X.prog X.w) X.A (call (.ref f) us) (EP X pins σ Q) X.xe s:=by
 have r2:jd (vs ++ dvs) (us ++ ds):=r.append hd
 have hl:(us ++ ds).length=ps.length:=by rw [← r2.length];exact F.len _ _ _ _ h
 refine wpAny_call (codeAny_mono (F.run X.A X.stack s H ⟨us,[]⟩ (us ++ ds) (vs ++ dvs) Q E hr I.env0 (hb s us I.kIn hl) r2 h) fun r s' hq=>?_)
 cases r with
 | error e=>exact hx pins σ H s e s' I hq
 | ok fl=>
  cases fl with
  | ret u=>exact I.after hq
  | next=>exact False.elim hq
  | brk=>exact False.elim hq
  | cont=>exact False.elim hq
theorem wb (F:Eb X.prog X.w X.K X.mg X.base CX k f fd ps sp) (hr:oh k X.A) (hg:Gl X x) (hm:X.mg x=some (.ref f)) (hk:PySem.W.keepIn X.K (.ref f)=true) (hb:Qb X.K fd ps ds) (hd:jd dvs ds) (hx:Aj CX X E)
  (ha:PA X (e :: es) t) (hdb:(x == ("__debug__" : Str))=false:=by decide) (he:starEach (e :: es) X.env=(false,eval e X.env) :: starEach es X.env:=by rfl) (hpl:(backTo pos (starEach es X.env)).any (·.1)=false:=by rfl) :
  PE X (.Call (.Name x p) (e :: es) [] pos) (FL sp dvs E t):=by
 intro pins s σ H Q I h
 refine wpAny_Call_Name_kw (gk I hg hm ?_ hdb)
 refine PySem.W.callWith_K (h₀:=X.base) I.ok.mod.kin hk (thn (ha pos pins s σ H _ I h) fun us s1 ⟨vs,H1,I1,r,q⟩=>⟨I1.kIn,?_⟩) he hpl
 exact eu F hr hb hd hx I1 r q
theorem wd {pl:Sem Bool} (he:PE X o ta) (c:Cls X.K C) (hm:Fq X.K C m f) (F:Eb X.prog X.w X.K X.mg X.base CX k f fd ps sp) (hr:oh k X.A) (hb:Qb X.K fd ps ds) (hd:jd dvs ds) (hx:Aj CX X E) (ha:PA X (e :: es) t)
  (hst:starEach (e :: es) X.env=(false,eval e X.env) :: starEach es X.env:=by rfl) (hpl:(backTo pos (starEach es X.env)).any (·.1)=false:=by rfl)
  (ht:eval (.Call (.Attribute o m apos) (e :: es) [] pos) X.env=(do
   let ov ← eval o X.env
   standAt apos.atName
   let (f,first) ← holding [ov] (getMethod ov m pl)
   callWith pos f first (backTo pos (starEach (e :: es) X.env)) (backToKw pos (keywordEach [] X.env))):=by rfl) :
  PE X (.Call (.Attribute o m apos) (e :: es) [] pos) (sK C m sp dvs E ta t):=by
 intro pins s σ H Q I h
 refine PySem.W.methodCall_KW (pl:=pl) (thn (he pins s σ H _ I h) fun u s1 hZ1=>?_) ht
 obtain ⟨x,H1,I1,rx,a,dx,fs,ex,ea,l,q⟩:=hZ1
 subst ex
 obtain rfl:u=Value.ref a:=rx
 refine Ek I1 ea c hm l ?_
 refine PySem.W.callWith_K (first:=[.ref a]) (h₀:=X.base) I.ok.mod.kin hm.kp (thn (ha pos pins s1 σ H1 _ I1 q) fun us s2 ⟨vs,H2,I2,r,q2⟩=>⟨I2.kIn,?_⟩) hst hpl
 exact eu (us:=.ref a :: us) (vs:=.ref a :: vs) F hr hb hd hx I2 (.cons rfl r) q2
theorem Qe {pl:Sem Bool} (he:PE X o ta) (c:Cls X.K C) (hm:Fq X.K C m f) (F:Eb X.prog X.w X.K X.mg X.base CX k f fd ps sp) (hr:oh k X.A) (hb:Qb X.K fd ps ds) (hd:jd dvs ds) (hx:Aj CX X E)
  (ht:eval (.Call (.Attribute o m apos) [] [] pos) X.env=(do
   let ov ← eval o X.env
   standAt apos.atName
   let (f,first) ← holding [ov] (getMethod ov m pl)
   callWith pos f first (backTo pos (starEach [] X.env)) (backToKw pos (keywordEach [] X.env))):=by rfl) :
  PE X (.Call (.Attribute o m apos) [] [] pos) (sK C m sp dvs E ta lQ):=by
 intro pins s σ H Q I h
 refine PySem.W.methodCall_KW (pl:=pl) (thn (he pins s σ H _ I h) fun u s1 hZ1=>?_) ht
 obtain ⟨x,H1,I1,rx,a,dx,fs,ex,ea,l,q⟩:=hZ1
 subst ex
 obtain rfl:u=Value.ref a:=rx
 refine Ek I1 ea c hm l ?_
 exact PySem.W.callWith_K0 (first:=[.ref a]) I1.kIn hm.kp (eu (us:=[.ref a]) (vs:=[.ref a]) F hr hb hd hx I1 (.cons rfl .nil) q)
structure Mk (K:PySem.W.Frag) (C f:Addr):Prop where
 makes:PySem.W.makesIn K C=true
 init:PySem.W.findIn K (.ref C) "__init__"=some (some (.ref f))
 fn:PySem.W.isFn K (.ref f)=true
 kp:PySem.W.keepIn K (.ref C)=true
theorem jH {pins:List (Addr × Obj)} {σ:St} {H:Hp} {s:Shared} {Q:VK} {us:List Value} {vs:List V} (M:Mk X.K C f) (F:Eb X.prog X.w X.K X.mg X.base CX k f fd ps sp) (hr:oh (k + 1) X.A) (hb:Qb X.K fd ps ds) (hd:jd dvs ds)
  (hx:Aj CX X E) (I:Inv X pins σ H s) (r:jd vs us)
  (h:∀ x dx,H x=none→H dx=none→dx ≠ x→sp (.ref x :: (vs ++ dvs)) (upd (upd H dx (.own x)) x (.ins C dx [])) (fun v H2=>v=.non∧Q (.ref x) H2) E) :
  wpAny (model X.prog X.w) X.A (call (.ref C) us) (EP X pins σ Q) X.xe s:=by
 have hq:=h (s.heap.objs.size + 1) s.heap.objs.size (I.hok.fresh (Nat.le_succ _)) (I.hok.fresh (Nat.le_refl _)) (Nat.ne_of_lt (Nat.lt_succ_self _))
 have I2:=Inv.made (C:=C) I
 have r2:jd (V.ref (s.heap.objs.size + 1) :: (vs ++ dvs)) (Value.ref (s.heap.objs.size + 1) :: (us ++ ds)):=.cons rfl (r.append hd)
 have hl:(Value.ref (s.heap.objs.size + 1) :: us ++ ds).length=ps.length:=by
  have e:=r2.length
  rw [F.len _ _ _ _ hq] at e
  exact e.symm
 refine wpAny_call (JH (f:=f) I.kIn M.makes M.init (beq_iff_eq.mp M.fn) (codeAny_mono (F.run _ X.stack _ _ ⟨Value.ref (s.heap.objs.size + 1) :: us,[]⟩ (Value.ref (s.heap.objs.size + 1) :: (us ++ ds)) _ _ E (hr.make C us [])
  (I2.env0.make C us []) (hb _ (Value.ref (s.heap.objs.size + 1) :: us) I2.kIn hl) r2 hq) fun r s' hq'=>?_))
 cases r with
 | error e=>exact hx pins σ _ _ e s' I2 hq'
 | ok fl=>
  cases fl with
  | ret u=>
   obtain ⟨v,H',I3,rv,ev,q3⟩:=I2.after hq'
   subst ev
   exact ⟨rv,⟨V.ref (s.heap.objs.size + 1),H',I3,rfl,q3⟩⟩
  | next=>exact False.elim hq'
  | brk=>exact False.elim hq'
  | cont=>exact False.elim hq'
theorem uo (M:Mk X.K C f) (F:Eb X.prog X.w X.K X.mg X.base CX k f fd ps sp) (hr:oh (k + 1) X.A) (hg:Gl X x) (hm:X.mg x=some (.ref C)) (hb:Qb X.K fd ps ds) (hd:jd dvs ds) (hx:Aj CX X E)
  (ha:PA X (e :: es) t) (hdb:(x == ("__debug__" : Str))=false:=by decide) (he:starEach (e :: es) X.env=(false,eval e X.env) :: starEach es X.env:=by rfl) (hpl:(backTo pos (starEach es X.env)).any (·.1)=false:=by rfl) :
  PE X (.Call (.Name x p) (e :: es) [] pos) (tN C sp dvs E t):=by
 intro pins s σ H Q I h
 refine wpAny_Call_Name_kw (gk I hg hm ?_ hdb)
 refine PySem.W.callWith_K (h₀:=X.base) I.ok.mod.kin M.kp (thn (ha pos pins s σ H _ I h) fun us s1 ⟨vs,H1,I1,r,q⟩=>⟨I1.kIn,?_⟩) he hpl
 exact jH M F hr hb hd hx I1 r q
end
section
variable {X:Cx} {CX:CXT} {k:Nat} {f C:Addr} {fd:FuncData} {ps ks:List Str} {sp:Sp} {E:XK} {x m:Str} {p pos apos kpos:Pos} {e o:Expr} {es:List Expr} {kws:List Keyword} {te ta:TE} {t tk:TA} {nm:Option Str}
structure GR (K:PySem.W.Frag) (fd:FuncData) (ps ks:List Str) (g:List Value→List Value→List Value) (gV:List V→List V→List V):Prop where
 to:∀ (s:Shared) (us ws:List Value),K.In s.heap→(g us ws).length=ps.length→BindsTo s fd ⟨us,ks.zip ws⟩ (ps.zip (g us ws))
 rel:∀ {vs:List V} {us:List Value} {zs:List V} {ws:List Value},jd vs us→jd zs ws→jd (gV vs zs) (g us ws)
noncomputable def WO (sp:Sp) (gV:List V→List V→List V) (E:XK) (t tk:TA):TE:=fun σ H Q=>t σ H fun vs H1=>tk σ H1 fun zs H2=>sp (gV vs zs) H2 Q E
variable {g:List Value→List Value→List Value} {gV:List V→List V→List V}
end
structure xb (N P:List Str) (sc:Scope):Prop where
 kind:sc.kind=.function
 co:sc.isCoroutine=false
 gen:sc.isGenerator=false
 nd:N.Nodup
 pre:N.take P.length=P
 par:∀ x ∈ P,sc.names.lookup x=some .local∨sc.names.lookup x=some .cell
 nofree:∀ y ∈ sc.names,y.2 ≠ .free
theorem zx {kindOf:Str→Option NameKind} {x:Str}:∀ {binds:List (Str × Value)} {m:Str→Option Value},(∀ v,(x,v) ∉ binds)→bindL kindOf binds m x=m x
 | [],_,_=>rfl
 | (n,v) :: r,m,h=>by
  unfold bindL
  rw [zx fun w hw=>h w (List.mem_cons_of_mem _ hw)]
  split
  ·have:x ≠ n:=by rintro rfl;exact h v List.mem_cons_self
   simp [this]
  ·rfl
theorem vw {kindOf:Str→Option NameKind} {x:Str}:∀ {binds:List (Str × Value)} {m:Str→Option Value},(∀ v,(x,v) ∉ binds)→bindC kindOf binds m x=m x
 | [],_,_=>rfl
 | (n,v) :: r,m,h=>by
  unfold bindC
  rw [vw fun w hw=>h w (List.mem_cons_of_mem _ hw)]
  split
  ·rfl
  ·have:x ≠ n:=by rintro rfl;exact h v List.mem_cons_self
   simp [this]
theorem cx {kindOf:Str→Option NameKind} {x:Str} {v:Value}:∀ {P:List Str} {vs:List Value} {i:Nat} {m:Str→Option Value},P.Nodup→P[i]? = some x→vs[i]? = some v→kindOf x=some .local →
  bindL kindOf (P.zip vs) m x=some v
 | [],_,_,_,_,h,_,_=>by simp at h
 | _ :: _,[],_,_,_,_,h,_=>by simp at h
 | p :: P,w :: vs,0,m,nd,h1,h2,hk=>by
  simp at h1 h2;subst h1;subst h2
  show bindL kindOf ((p,w) :: P.zip vs) m p=_
  unfold bindL
  rw [zx fun v hv=>(List.nodup_cons.mp nd).1 (List.of_mem_zip hv).1,if_pos hk]
  simp
 | p :: P,w :: vs,i + 1,m,nd,h1,h2,hk=>by
  show bindL kindOf ((p,w) :: P.zip vs) m x=_
  unfold bindL
  exact cx (i:=i) (List.nodup_cons.mp nd).2 (by simpa using h1) (by simpa using h2) hk
theorem zw {kindOf:Str→Option NameKind} {x:Str} {v:Value}:∀ {P:List Str} {vs:List Value} {i:Nat} {m:Str→Option Value},P.Nodup→P[i]? = some x→vs[i]? = some v→kindOf x ≠ some .local →
  bindC kindOf (P.zip vs) m x=some v
 | [],_,_,_,_,h,_,_=>by simp at h
 | _ :: _,[],_,_,_,_,h,_=>by simp at h
 | p :: P,w :: vs,0,m,nd,h1,h2,hk=>by
  simp at h1 h2;subst h1;subst h2
  show bindC kindOf ((p,w) :: P.zip vs) m p=_
  unfold bindC
  rw [vw fun v hv=>(List.nodup_cons.mp nd).1 (List.of_mem_zip hv).1,if_neg hk]
  simp
 | p :: P,w :: vs,i + 1,m,nd,h1,h2,hk=>by
  show bindC kindOf ((p,w) :: P.zip vs) m x=_
  unfold bindC
  exact zw (i:=i) (List.nodup_cons.mp nd).2 (by simpa using h1) (by simpa using h2) hk
noncomputable def start (N:List Str) (vs:List V):St:=vs.map some ++ List.replicate (N.length - vs.length) none
noncomputable def vy (CX:CXT) (P:Program) (w:World) (K:PySem.W.Frag) (mg:Str→Option Value) (base:Heap) (N:List Str) (qual:Str) (scope:Scope) (f:Addr) (cd:Value) (A:Around) (outer:List Env) (s:Shared) (H:Hp) (E:XK):Cx where
 prog:=P
 w:=w
 K:=K
 mg:=mg
 base:=base
 A:=A.deeper (envOfC qual scope s.heap.objs.size f cd)
 N:=N
 s₀:=s
 H₀:=H
 env:=envOfC qual scope s.heap.objs.size f cd
 outer:=outer
 stack:=envOfC qual scope s.heap.objs.size f cd :: outer
 ex:=[]
 calm:=true
 fn:=fun _=>true
 pn:=[]
 xe:=fun e s'=>wpAny (model P w) (A.deeper (envOfC qual scope s.heap.objs.size f cd)) (leaving (envOfC qual scope s.heap.objs.size f cd) e) (fun _ s''=>CX outer H s E e s'') (fun e' s''=>CX outer H s E e' s'') s'
theorem FA {sc:Scope} {n:Nat} {x:Str} (h:sc.names.lookup x=some .cell):∃ c,(cellsFrom n sc.names []).lookup x=some c:=by
 have q:=PySem.W.cellsFrom_some sc.names n [] (.inl h)
 exact Option.isSome_iff_exists.mp q
theorem gx {CX:CXT} {P:Program} {w:World} {K:PySem.W.Frag} {mg:Str→Option Value} {base:Heap} {N ps:List Str} {qual:Str} {scope:Scope} {f:Addr} {cd:Value} {A:Around} {outer:List Env} {s s1:Shared} {H:Hp} {E:XK} {us:List Value} {vs:List V}
  (S:xb N ps scope) (hd:A.handled=none) (e0:xC P w K mg base A outer s H) (hl:vs.length=ps.length) (r:jd vs us)
  (x:InCallC s s.heap.objs.size (bindL (envOfC qual scope s.heap.objs.size f cd).kindOf (ps.zip us) fun _=>none) (cellsFrom (s.heap.objs.size + 1) scope.names []) (bindC (envOfC qual scope s.heap.objs.size f cd).kindOf (ps.zip us) fun _=>none) s1) :
  Inv (vy CX P w K mg base N qual scope f cd A outer s H E) [] (start N vs) H s1:=by
 have hpl:ps.length ≤ N.length:=by have:=congrArg List.length S.pre;rw [List.length_take] at this;omega
 obtain ⟨h1,tk,rfl,hk⟩:=x.done
 have noA:∀ b:Addr,b ∉ (vy CX P w K mg base N qual scope f cd A outer s H E).ex:=fun b z=>absurd (show b ∈ ([]:List Addr) from z) (by simp)
 refine ⟨⟨e0.mod,S.kind,rfl,rfl,Nat.le_refl _,fun y z c h1 h2=>?_,fun y hy=>?_,fun y c _ h=>?_,fun _=>hd,Around.frames_deeper e0.frames,.inr ⟨rfl,rfl⟩,fun b z=>absurd z (noA b),e0.bs,e0.bsz,fun b _ _=>noA b,fun b z=>absurd z (noA b),e0.funs,e0.frf⟩,
  rfl,e0.bare,Un.kept hk,⟨_,x.toInCall.ns,fun i y v h1 h2 h3=>?_⟩,fun y c h=>⟨_,x.cell y c h⟩,e0.hok.fresh (Nat.le_refl _),fun y c h=>?_,fun p hp=>absurd (show p ∈ ([]:List (Addr × Obj)) from hp) (by simp),e0.hok.kept hk,?_⟩
 ·exact name_of_addr x.apart (PySem.mem_of_lookup h1) (PySem.mem_of_lookup h2)
 ·have hy:scope.names.lookup y=some .cell∨scope.names.lookup y=some .free:=hy
  rcases hy with hy | hy
  ·exact FA hy
  ·exact absurd rfl (S.nofree _ (PySem.mem_of_lookup hy))
 ·exact Nat.le_of_lt (x.above y c (PySem.mem_of_lookup h))
 ·have hi:i < vs.length:=by
   unfold start at h2
   by_cases hi:i < vs.length
   ·exact hi
   ·rw [List.getElem?_append_right (by simpa using hi)] at h2
    rw [List.getElem?_replicate] at h2
    split at h2 <;> cases h2
  have ha:vs[i]? = some v:=by
   unfold start at h2
   rw [List.getElem?_append_left (by simpa using hi),List.getElem?_map] at h2
   cases e:vs[i]? with
   | none=>rw [e] at h2;cases h2
   | some a=>rw [e] at h2;cases h2;rfl
  obtain ⟨u,hu,rv⟩:=r.get ha
  have hp:ps[i]? = some y:=by
   rw [← S.pre,List.getElem?_take_of_lt (by omega)];exact h1
  have ndP:ps.Nodup:=by rw [← S.pre];exact S.nd.sublist (List.take_sublist _ _)
  refine ⟨u,rv,?_⟩
  rcases S.par y (List.mem_of_getElem? hp) with k | k
  ·exact .inl ⟨k,cx ndP hp hu k⟩
  ·obtain ⟨c,e⟩:=FA (n:=s.heap.objs.size + 1) k
   refine .inr ⟨.inl k,c,e,?_⟩
   have q:=x.cell y c e
   rw [zw ndP hp hu (by show scope.names.lookup y ≠ _;rw [k];decide)] at q
   exact q
 ·exact e0.hok.fresh (Nat.le_of_lt (x.above y c (PySem.mem_of_lookup h)))
 ·unfold start
  show _=N.length
  rw [List.length_append,List.length_map,List.length_replicate]
  omega
theorem yN {CX:CXT} {P:Program} {w:World} {K:PySem.W.Frag} {mg:Str→Option Value} {base:Heap} {k:Nat} {f:Addr} {name qual:Str} {params:Arguments} {body:List Stmt} {scope:Scope} {dV kV doc pm cdv ct oc:Value} {an od:Option Addr}
  {osl:Array (Option Value)} {N ps:List Str} {sp:Sp} (lk:K.lookup f=some ⟨oc,od,.func (PySem.W.fnOf name qual params body scope dV kV doc pm an cdv ct),osl⟩) (hcd:PySem.W.codeIn K cdv qual=true) (S:xb N ps scope)
  (len:∀ vs H Q E,sp vs H Q E→vs.length=ps.length)
  (hbody:∀ (A:Around) (outer:List Env) (s:Shared) (H:Hp) (vs:List V) (Q:VK) (E:XK),oh k (A.deeper (envOfC qual scope s.heap.objs.size f cdv))→sp vs H Q E →
   ∃ t,PSs (vy CX P w K mg base N qual scope f cdv A outer s H E) body t∧t { nx:=fun _ H'=>Q .non H',rt:=Q } (start N vs) H) :
  Eb P w K mg base CX (k + 1) f (PySem.W.fnOf name qual params body scope dV kV doc pm an cdv ct) ps sp:=by
 refine ⟨len,fun A outer s H args us vs Q E hr e0 hb r hsp=>?_⟩
 have hl:=len _ _ _ _ hsp
 have KX:K.In s.heap:=e0.mod.kin.keeps fun b o e=>(e0.bs b o e).1
 have lim:s.heap.NoLimit:=e0.mod.nolimit.keeps fun b o e=>(e0.bs b o e).1
 have hkind:∀ y ∈ ps.zip us,scope.names.lookup y.1=some .local∨(scope.names.lookup y.1=some .cell∧((cellsFrom (s.heap.objs.size + 1) scope.names []).lookup y.1).isSome=true):=fun ⟨n,v⟩ hy=>by
  rcases S.par n (List.of_mem_zip hy).1 with q | q
  ·exact .inl q
  ·exact .inr ⟨q,PySem.W.cellsFrom_some _ _ _ (.inl q)⟩
 refine codeAny_call_function hr.depth (KX _ _ lk) rfl S.co S.gen rfl (PySem.W.codeRec_of KX hcd) (hb _ _ _ _ ?_)
 refine wpAny_newFunctionEnv_cells S.kind hkind fun env he s1 x=>?_
 subst he
 refine ⟨lim.keeps x.toInCall.keep,codeAny_func ?_⟩
 obtain ⟨t,ht,hq⟩:=hbody A outer s H vs Q E (hr.deeper _) hsp
 have I:Inv (vy CX P w K mg base N qual scope f cdv A outer s H E) [] (start N vs) H s1:=gx S hr.hd e0 hl r x
 refine wpAny_mono (ht [] s1 (start N vs) H _ I hq) (fun fl s' hs=>?_) fun e s' hs=>hs
 have fin:∀ {σ':St} {H':Hp} {v:V} {u:Value},Inv (vy CX P w K mg base N qual scope f cdv A outer s H E) [] σ' H' s'→ud v u→Q v H'→CE outer P w H s Q u s':=
  fun {σ' H' v u} J rv q=>⟨v,H',J.os,J.bare,J.base,J.hok,rv,q⟩
 cases fl with
 | ret u=>
  obtain ⟨v,σ',H',J,rv,q⟩:=hs
  exact fin J rv q
 | next=>
  obtain ⟨σ',H',J,q⟩:=hs
  exact fin (v:=V.non) (u:=Value.none) J rfl q
 | brk=>
  obtain ⟨_,_,_,q⟩:=hs
  exact False.elim q
 | cont=>
  obtain ⟨_,_,_,q⟩:=hs
  exact False.elim q
end L2
namespace L2
open PySem PySem.Spec PyProof.Rows
section
variable {X:Cx} {x:Str} {p pos:Pos} {e:Expr} {es:List Expr} {t:TA} {id T:String} {r:List V→Hp→VK→Prop}
noncomputable def tCB (r:List V→Hp→VK→Prop) (t:TA):TE:=fun σ H Q=>t σ H fun vs H1=>r vs H1 Q
theorem gc (hc:Rm X (.builtin id) r) (hg:Gl X x) (hm:X.mg x=none) (hv:bootBuiltins x=some (.builtin id)) (ha:PA X (e :: es) t) (hn:x ≠ "__name__" := by decide) (hdb:(x == ("__debug__" : Str))=false:=by decide)
  (he:starEach (e :: es) X.env=(false,eval e X.env) :: starEach es X.env:=by rfl) (hpl:(backTo pos (starEach es X.env)).any (·.1)=false:=by rfl):PE X (.Call (.Name x p) (e :: es) [] pos) (tCB r t):=by
 intro pins s σ H Q I h
 refine wpAny_Call_Name_kw (Bn I hg hm hv ?_ hn hdb)
 exact PyProof.Rows.callWith_builtin1 (thn (ha pos pins s σ H _ I h) fun us s1 ⟨vs,H1,I1,r1,q1⟩=>hc pins s1 σ H1 vs us Q I1 r1 q1) he hpl
theorem Ai (hc:Rm X (.type T) r) (hg:Gl X x) (hm:X.mg x=none) (hv:bootBuiltins x=some (.type T)) (ha:PA X (e :: es) t) (hn:x ≠ "__name__" := by decide) (hdb:(x == ("__debug__" : Str))=false:=by decide)
  (he:starEach (e :: es) X.env=(false,eval e X.env) :: starEach es X.env:=by rfl) (hpl:(backTo pos (starEach es X.env)).any (·.1)=false:=by rfl):PE X (.Call (.Name x p) (e :: es) [] pos) (tCB r t):=by
 intro pins s σ H Q I h
 refine wpAny_Call_Name_kw (Bn I hg hm hv ?_ hn hdb)
 exact PyProof.Rows.callWith_type1 (thn (ha pos pins s σ H _ I h) fun us s1 ⟨vs,H1,I1,r1,q1⟩=>hc pins s1 σ H1 vs us Q I1 r1 q1) he hpl
end
end L2
namespace HT
open PySem PyProof.Rows
noncomputable def lexLt:List Int→List Int→Bool
 | [],[]=>false
 | [],_ :: _=>true
 | _ :: _,[]=>false
 | x :: xs,y :: ys=>if x=y then lexLt xs ys else decide (x < y)
section
open PySem.SeqAt
open PySem.AutoSeq1 (wpAny_loadPart')
open PySem.MeetsSeq PySem.MeetsSeq2 PySem.MeetsSeq3
end
section
variable {prog:Program} {w:World} {A:Around} {E:Value→Shared→Prop} {s:Shared}
noncomputable def sIx (n d:Nat):Option Int→Nat
 | none=>d
 | some v=>if v < 0 then (v + (n:Int)).toNat else min v.toNat n
theorem UN (n d:Nat) (hd:d ≤ n) (o:Option Int):sIx n d o ≤ n:=by
 cases o with
 | none=>exact hd
 | some v=>
  show (if v < 0 then (v + (n:Int)).toNat else min v.toNat n) ≤ n
  by_cases hv:v < 0
  ·rw [if_pos hv];omega
  ·rw [if_neg hv];exact Nat.min_le_right _ _
theorem TC (v:Int) (n d:Nat):(if v < 0 then max (v + (n:Int)) 0 else min v (n:Int))=((sIx n d (some v):Nat):Int):=by
 show (if v < 0 then max (v + (n:Int)) 0 else min v (n:Int))=(((if v < 0 then (v + (n:Int)).toNat else min v.toNat n):Nat):Int)
 by_cases hv:v < 0
 ·simp only [if_pos hv];omega
 ·simp only [if_neg hv];omega
theorem VA (lo hi:Option Int) (n:Nat):Builtin.Slice.sliceAdjust lo hi 1 (n:Int)=(((sIx n 0 lo:Nat):Int),((sIx n n hi:Nat):Int)):=by
 have h1:¬ ((1:Int) < 0):=by omega
 unfold Builtin.Slice.sliceAdjust
 simp only [h1,if_false]
 refine Prod.ext ?_ ?_
 ·cases lo with
  | none=>rfl
  | some v=>exact TC v n 0
 ·cases hi with
  | none=>rfl
  | some v=>exact TC v n n
theorem lB (i j:Nat):Builtin.Slice.slicePlaces (i:Int) (j:Int) 1=j - i:=by
 unfold Builtin.Slice.slicePlaces
 have h1:(1:Int) > 0:=by omega
 simp only [h1,if_true,Int.ediv_one]
 split <;> omega
theorem au {v:Value} {o:Option Int} {Q:Option Int→Shared→Prop} (p:IsPart v o) (h:Q o s):wpAny (model prog w) A (Builtin.Slice.slicePartIndex v) Q E s:=by
 cases p with
 | none=>exact slicePart_none h
 | int i t=>exact slicePart_int h
theorem lp {sl:Addr} {vl vu:Value} {lo hi:Option Int} {n:Nat} {Q:Int × Int × Nat→Shared→Prop} (hs:s.heap.IsSliceOf sl vl vu .none) (pl:IsPart vl lo) (pu:IsPart vu hi)
  (h:Q (((sIx n 0 lo:Nat):Int),1,sIx n n hi - sIx n 0 lo) s):wpAny (model prog w) A (Builtin.Slice.sliceApplied (.ref sl) (pure (n:Int))) Q E s:=by
 obtain ⟨os,hos,hcs,hds⟩:=id hs
 unfold Builtin.Slice.sliceApplied Builtin.Slice.sliceFields
 refine wpAny_bind (wpAny_bind (wpAny_field hos hds (x:=vl) rfl (wpAny_bind (wpAny_field hos hds (x:=vu) rfl (wpAny_bind (wpAny_field hos hds (x:=.none) rfl (wpAny_pure ?_)))))))
 refine wpAny_bind (slicePart_none ?_)
 show wpAny _ _ (if ((1:Int) == 0)=true then _ else _) _ _ s
 rw [if_neg (by decide)]
 refine wpAny_bind (au pl (wpAny_bind (au pu (wpAny_bind (wpAny_pure ?_)))))
 show wpAny _ _ (match Builtin.Slice.sliceAdjust lo hi 1 (n:Int) with | (lo,hi)=>pure (lo,(1:Int),Builtin.Slice.slicePlaces lo hi 1)) _ _ s
 rw [VA lo hi n]
 show wpAny _ _ (pure (((sIx n 0 lo:Nat):Int),(1:Int),Builtin.Slice.slicePlaces ((sIx n 0 lo:Nat):Int) ((sIx n n hi:Nat):Int) 1)) _ _ s
 rw [lB]
 exact wpAny_pure h
theorem aH (xs:Array Value) (i k:Nat):((List.range k).filterMap fun (m:Nat)=>xs[((i:Int) + (m:Int) * 1).toNat]?).toArray=((xs.toList.drop i).take k).toArray:=by
 have e:(fun (m:Nat)=>xs[((i:Int) + (m:Int) * 1).toNat]?)=fun m=>xs[i + m]?:=by
  funext m
  have:((i:Int) + (m:Int) * 1).toNat=i + m:=by omega
  rw [this]
 rw [e]
 have:=pick_run xs i k
 rw [List.filterMap_map] at this
 have e2:((fun x=>xs[x]?) ∘ fun x=>i + x)=fun m=>xs[i + m]?:=rfl
 rw [e2] at this
 rw [this]
theorem getItem_tuple_cut {t sl:Addr} {items:Array Value} {vl vu:Value} {lo hi:Option Int} {Q:Value→Shared→Prop} (ht:IsTup s.heap t items) (hs:s.heap.IsSliceOf sl vl vu .none) (pl:IsPart vl lo) (pu:IsPart vu hi)
  (hw:¬ (sIx items.size 0 lo=0∧sIx items.size items.size hi=items.size))
  (h:Q (.ref s.heap.objs.size) { s with heap:=s.heap.push { cls:=.type "tuple",data:=.seq ((items.toList.drop (sIx items.size 0 lo)).take (sIx items.size items.size hi - sIx items.size 0 lo)).toArray } })
  (hsz:items.size ≤ sizeLine):wpAny (model prog w) A (getItem (.ref t) (.ref sl)) Q E s:=by
 have htake:sizeOk (.seq ((items.toList.drop (sIx items.size 0 lo)).take (sIx items.size items.size hi - sIx items.size 0 lo)).toArray):=by
  show ((items.toList.drop (sIx items.size 0 lo)).take (sIx items.size items.size hi - sIx items.size 0 lo)).toArray.size ≤ sizeLine
  rw [List.size_toArray,List.length_take,List.length_drop,Array.length_toList]
  omega
 have hj:sIx items.size items.size hi ≤ items.size:=UN _ _ (Nat.le_refl _) hi
 obtain ⟨os,hos,hcs,hds⟩:=id hs
 have hTs:s.TypeIs (.ref sl) "slice" := ⟨os,hos,hcs⟩
 unfold getItem
 try with_reducible refine wpAny_holding ?_
 first | refine wpAny_bind (wpAny_pure ?_) | skip
 refine wpAny_bind (wpAny_sequenceKey ht.typeIs (by decide) ?_)
 refine wpAny_bind (wpAny_callSpecial?_slot (name:=Str.ofString "__getitem__") ht.typeIs PyProof.Rows.slot_tuple_getitem
  (wpAny_call_entry PyProof.Rows.slot_tuple_getitem ht.typeIs entry_tuple_getitem ?_ (args_tuple_getitem _ _)))
 show wpAny _ _ (Builtin.Tuple.tupleItemsOf (.ref t) >>= _) _ _ s
 refine wpAny_bind (tupleItemsOf_ ht ?_)
 refine wpAny_bind (wpAny_typeOf hTs ?_)
 rw [if_pos (by decide)]
 refine wpAny_bind (lp hs pl pu ?_)
 have hno:¬ ((((sIx items.size 0 lo:Nat):Int) == 0 && (1:Int) == 1 && (sIx items.size items.size hi - sIx items.size 0 lo) == items.size)=true):=by
  intro q
  rw [Bool.and_eq_true,Bool.and_eq_true] at q
  have q1:((sIx items.size 0 lo:Nat):Int)=0:=eq_of_beq q.1.1
  have q2:sIx items.size items.size hi - sIx items.size 0 lo=items.size:=eq_of_beq q.2
  exact hw ⟨by omega,by omega⟩
 show wpAny _ _ (if (((sIx items.size 0 lo:Nat):Int) == 0 && (1:Int) == 1 && (sIx items.size items.size hi - sIx items.size 0 lo) == items.size)=true then _ else _) _ _ s
 rw [if_neg hno,aH]
 first
  | exact wpAny_bind (m:=Builtin.Tuple.tupleExact _) (wpAny_newObj_type (wpAny_pure ⟨_,rfl,wpAny_pure h⟩) htake)
  | exact wpAny_bind (m:=Builtin.Tuple.tupleExact _) (wpAny_newObj_type (wpAny_bind (wpAny_pure (wpAny_pure ⟨_,rfl,wpAny_pure h⟩))) htake)
  | exact wpAny_bind (wpAny_bind (m:=Builtin.Tuple.tupleExact _) (wpAny_newObj_type (wpAny_pure (wpAny_pure ⟨_,rfl,wpAny_pure h⟩)) htake))
  | exact wpAny_bind (wpAny_bind (m:=Builtin.Tuple.tupleExact _) (wpAny_newObj_type (wpAny_pure ⟨_,rfl,wpAny_pure h⟩) htake))
end
end HT
namespace L2
open PySem PySem.Spec PyProof.Rows
noncomputable abbrev TO:=St→Hp→(Option Int→Hp→Prop)→Prop
noncomputable def PO (X:Cx) (e:Option Expr) (t:TO):Prop:=
 ∀ (pins:List (Addr × Obj)) (s:Shared) (σ:St) (H:Hp) (Q:Option Int→Hp→Prop),Inv X pins σ H s→t σ H Q →
  wpAny (model X.prog X.w) X.A (evalPart e X.env) (fun u s'=>∃ o H',Inv X pins σ H' s'∧IsPart u o∧Q o H') X.xe s
noncomputable def RE:TO:=fun _ H Q=>Q none H
noncomputable def HN (t:TE):TO:=fun σ H Q=>t σ H fun x H1=>∃ i,x=.int i∧Q (some i) H1
section
variable {X:Cx} {e:Expr} {te:TE} {lo hi:Option Expr} {tl th:TO} {pos p2:Pos}
theorem jF:PO X none RE:=by
 intro pins s σ H Q I h
 rw [evalPart_none]
 exact wpAny_pure ⟨none,H,I,.none,h⟩
theorem lE (h:PE X e te):PO X (some e) (HN te):=by
 intro pins s σ H Q I hw
 rw [evalPart_some]
 refine thn (h pins s σ H _ I hw) fun u s1 hZ1=>?_
 obtain ⟨x,H1,I1,r1,q1⟩:=hZ1
 obtain ⟨i,rfl,q⟩:=q1
 obtain ⟨t,rfl⟩:=r1
 exact ⟨some i,H1,I1,.int i t,q⟩
noncomputable def SlR (X:Cx) (r:V→Option Int→Option Int→Hp→VK→Prop):Prop:=
 ∀ (pins:List (Addr × Obj)) (s:Shared) (σ:St) (H:Hp) (x:V) (v vl vu:Value) (lo hi:Option Int) (sl:Addr) (Q:VK),Inv X pins σ H s→ud x v→s.heap.IsSliceOf sl vl vu .none→IsPart vl lo→IsPart vu hi→r x lo hi H Q →
  ∃ T id,typeLookup (.type T) "__getitem__"=pure (some (.builtin id))∧s.TypeIs v T∧wpAny (model X.prog X.w) X.A (getItem v (.ref sl)) (EP X pins σ Q) X.xe s
noncomputable def tSl (r:V→Option Int→Option Int→Hp→VK→Prop) (te:TE) (tl th:TO):TE:=fun σ H Q=>te σ H fun x H1=>tl σ H1 fun l H2=>th σ H2 fun u H3=>r x l u H3 Q
theorem Oz {r:V→Option Int→Option Int→Hp→VK→Prop} (hr:SlR X r) (he:PE X e te) (hl:PO X lo tl) (hu:PO X hi th):PE X (.Subscript e (.Slice lo hi none p2) pos) (tSl r te tl th):=by
 intro pins s σ H Q I h
 refine Subscript_ (thn (he pins s σ H _ I h) fun v s1 hZ1=>?_)
 obtain ⟨x,H1,I1,r1,q1⟩:=hZ1
 refine wpAny_Slice (thn (hl pins s1 σ H1 _ I1 q1) fun vl s2 ⟨l,H2,I2,pl,q2⟩=>thn (hu pins s2 σ H2 _ I2 q2) fun vu s3 hZ1=>?_)
 obtain ⟨u,H3,I3,pu,q3⟩:=hZ1
 rw [evalPart_none]
 refine wpAny_pure ?_
 have I4:Inv X pins σ H3 { s3 with heap:=s3.heap.push { cls:=.type "slice",data:=.fields #[vl,vu,.none] } }:=I3.kept (t':=s3.toks) fun b ob q=>Heap.get?_push_of_some _ q
 obtain ⟨T,id,hT,ht,hg⟩:=hr pins { s3 with heap:=s3.heap.push { cls:=.type "slice",data:=.fields #[vl,vu,.none] } } σ H3 x v vl vu l u s3.heap.objs.size Q I4 r1 (Heap.IsSliceOf.new ..) pl pu q3
 show wpAny (model X.prog X.w) X.A (subscriptTail e (.Slice lo hi none p2) v (.ref s3.heap.objs.size)) (EP X pins σ Q) X.xe { s3 with heap:=s3.heap.push { cls:=.type "slice",data:=.fields #[vl,vu,.none] } }
 exact tail_any (ops:=[.ref s3.heap.objs.size,v]) ht hT hg (by with_unfolding_all rfl)
noncomputable def mF (xs:List V) (lo hi:Option Int):List V:=(xs.drop (HT.sIx xs.length 0 lo)).take (HT.sIx xs.length xs.length hi - HT.sIx xs.length 0 lo)
theorem Ar (xs:List V) (lo hi:Option Int):(mF xs lo hi).length ≤ xs.length:=by
 unfold mF
 rw [List.length_take,List.length_drop]
 omega
noncomputable def IR (K:PySem.W.Frag):V→Option Int→Option Int→Hp→VK→Prop:=fun x lo hi H Q=>∃ a xs,x=.ref a∧SqT K H a xs ∧
 ¬ (HT.sIx xs.length 0 lo=0∧HT.sIx xs.length xs.length hi=xs.length)∧∀ p,H p=none→Q (.ref p) (upd H p (.tup (mF xs lo hi)))
theorem bO:SlR X (IR X.K):=by
 intro pins s σ H x v vl vu lo hi sl Q I rx hs pl pu h
 obtain ⟨a,xs,rfl,hx,hw,q⟩:=h
 cases rx
 obtain ⟨its,r,ht,hz⟩:=I.tuple hx
 have hlen:its.toArray.size=xs.length:=by rw [List.size_toArray];exact r.length.symm
 refine ⟨"tuple",_,PyProof.Rows.slot_tuple_getitem.lookup,ht.typeIs,?_⟩
 refine HT.getItem_tuple_cut ht hs pl pu (by rw [hlen];exact hw) ?_ (by rw [hlen];exact hz)
 rw [hlen]
 refine ⟨.ref s.heap.objs.size,_,I.laid (t':=s.toks) (o:=.tup (mF xs lo hi)) (fun b ob q=>Heap.get?_push_of_some _ q) (Nat.le_refl _) ?_,rfl,q _ (I.hok.fresh (Nat.le_refl _))⟩
 exact ⟨Nat.le_trans (Ar xs lo hi) hz,_,(r.drop (HT.sIx xs.length 0 lo)).take (HT.sIx xs.length xs.length hi - HT.sIx xs.length 0 lo),IsTup.new _ _⟩
noncomputable def rS (K:PySem.W.Frag):R2:=fun x y H Q=>∃ a b ns ms,x=.ref a∧y=.ref b∧SqT K H a (ns.map V.int)∧SqT K H b (ms.map V.int)∧Q (.bl (HT.lexLt ns ms)) H
noncomputable def JQ (K:PySem.W.Frag):R2:=fun x y H Q=>∃ a b xs ys,x=.ref a∧y=.ref b∧SqT K H a xs∧SqT K H b ys∧xs ≠ []∧xs.length + ys.length ≤ sizeLine ∧
 (ys=[]→Q (.ref a) H)∧(ys ≠ []→∀ p,H p=none→Q (.ref p) (upd H p (.tup (xs ++ ys))))
end
end L2
namespace L2
open PySem PySem.Spec PyProof.Rows
noncomputable def ixN (n:Nat) (i:Int):Option Nat:=if 0 ≤ i then (if i < n then some i.toNat else none) else if -(n:Int) ≤ i then some (i + n).toNat else none
noncomputable def atI {α:Type} (xs:List α) (i:Int):Option α:=(ixN xs.length i).bind fun j=>xs[j]?
theorem ZD {n:Nat} {i:Int} {j:Nat} (h:ixN n i=some j):seqIndex? i n=some j∧j < n∧-(n:Int) ≤ i∧i < n:=by
 unfold ixN at h
 by_cases h0:0 ≤ i
 ·rw [if_pos h0] at h
  by_cases h1:i < n
  ·rw [if_pos h1] at h
   have e:i.toNat=j:=Option.some.inj h
   exact ⟨by rw [seqIndex_of h0 h1,e],by omega,by omega,h1⟩
  ·rw [if_neg h1] at h;cases h
 ·rw [if_neg h0] at h
  by_cases h1:-(n:Int) ≤ i
  ·rw [if_pos h1] at h
   have e:(i + n).toNat=j:=Option.some.inj h
   exact ⟨by rw [seqIndex_neg (by omega) h1,e],by omega,h1,by omega⟩
  ·rw [if_neg h1] at h;cases h
theorem wy {α:Type} {xs:List α} {i:Int} {v:α} (h:atI xs i=some v):∃ j,seqIndex? i xs.length=some j∧xs[j]? = some v∧j < xs.length∧-(xs.length:Int) ≤ i∧i < xs.length:=by
 unfold atI at h
 cases e:ixN xs.length i with
 | none=>rw [e] at h;cases h
 | some j=>
  rw [e] at h
  obtain ⟨h1,h2,h3,h4⟩:=ZD e
  exact ⟨j,h1,h,h2,h3,h4⟩
theorem jc {α:Type} {xs:List α} {j:Nat} {v:α} (h:xs[j]? = some v):atI xs (j:Int)=some v:=by
 have hj:j < xs.length:=(List.getElem?_eq_some_iff.mp h).1
 have e:ixN xs.length (j:Int)=some j:=by
  unfold ixN
  rw [if_pos (by omega),if_pos (by omega)];simp
 unfold atI;rw [e];exact h
noncomputable def DK (b:Expr):Prop:=∀ o i,subscripted b false o i=operate [o,i] (getItem o i)
noncomputable def IxR (X:Cx) (r:R2):Prop:=
 ∀ (value slice:Expr) (pins:List (Addr × Obj)) (s:Shared) (σ:St) (H:Hp) (x y:V) (v u:Value) (Q:VK),Inv X pins σ H s→ud x v→ud y u→r x y H Q →
  subscripted slice false v u=operate [v,u] (getItem v u)→wpAny (model X.prog X.w) X.A (subscriptTail value slice v u) (EP X pins σ Q) X.xe s
noncomputable def MtR (X:Cx) (id:String) (r:V→List V→Hp→VK→Prop):Prop:=
 ∀ (pins:List (Addr × Obj)) (s:Shared) (σ:St) (H:Hp) (x:V) (xs:List V) (v:Value) (us:List Value) (Q:VK),Inv X pins σ H s→ud x v→jd xs us→r x xs H Q →
  wpAny (model X.prog X.w) X.A (call (.builtin id) (v :: us)) (EP X pins σ Q) X.xe s
section
variable {X:Cx} {a b:Expr} {ta tb:TE} {pos:Pos}
theorem ae {r:R2} (hr:IxR X r) (ha:PE X a ta) (hb:PE X b tb) (hs:DK b):PE X (.Subscript a b pos) (tOp r ta tb):=by
 intro pins s σ H Q I h
 exact Subscript_ (KQ ha hb I h fun v u s2 x y H2 I2 rx ry q=>hr a b pins s2 σ H2 x y v u Q I2 rx ry q (hs _ _))
noncomputable def iQ (K:PySem.W.Frag):R2:=fun x y H Q=>∃ p xs i v,x=.ref p∧y=.int i∧SqL K H p xs∧atI xs i=some v∧Q v H
noncomputable def cQ (K:PySem.W.Frag):R2:=fun x y H Q=>∃ p xs i v,x=.ref p∧y=.int i∧SqT K H p xs∧atI xs i=some v∧Q v H
noncomputable def kQ:R2:=fun x y H Q=>∃ z i c,x=.str z∧y=.int i∧z.length ≤ sizeLine∧atI z.cps.toList i=some c∧Q (.str ⟨#[c]⟩) H
theorem Zd:IxR X (iQ X.K):=by
 intro value slice pins s σ H x y v u Q I rx ry h hs
 obtain ⟨p,xs,i,z,rfl,rfl,hq,he,q⟩:=h
 cases rx
 obtain ⟨t,rfl⟩:=ry
 obtain ⟨its,r,pl,hz⟩:=I.list hq
 obtain ⟨j,h1,h2,h3,h4,h5⟩:=wy he
 obtain ⟨w,ew,rw'⟩:=r.get h2
 have hl:=r.length
 have hn:=ls
 have fin:EP X pins σ Q w s:=⟨z,H,I,rw',q⟩
 by_cases h0:0 ≤ i
 ·have hj:i.toNat=j:=by
   rw [seqIndex_of h0 h5] at h1
   exact Option.some.inj h1
  exact item_listR pl.isList h0 (by omega) (by rw [hj];simpa using ew) fin hs
 ·have hj:(i + (its.toArray.size:Int)).toNat=j:=by
   rw [seqIndex_neg (by omega) h4] at h1
   rw [List.size_toArray,← hl]
   exact Option.some.inj h1
  exact subscriptTail_builtinR (x:=w) pl.isList.typeIs slot_list_getitem.lookup
   (wpAny_getItem_list_neg (Q:=fun r s'=>r=w∧EP X pins σ Q r s') pl.isList (by omega) (by rw [List.size_toArray] <;> omega) (by omega) (by rw [hj];simpa using ew) ⟨rfl,fin⟩) hs
theorem wg:IxR X (cQ X.K):=by
 intro value slice pins s σ H x y v u Q I rx ry h hs
 obtain ⟨p,xs,i,z,rfl,rfl,hq,he,q⟩:=h
 cases rx
 obtain ⟨t,rfl⟩:=ry
 obtain ⟨its,r,pl,hz⟩:=I.tuple hq
 obtain ⟨j,h1,h2,h3,h4,h5⟩:=wy he
 obtain ⟨w,ew,rw'⟩:=r.get h2
 have hl:=r.length
 have hn:=ls
 have fin:EP X pins σ Q w s:=⟨z,H,I,rw',q⟩
 exact subscriptTail_builtinR (x:=w) pl.typeIs slot_tuple_getitem.lookup
  (getItem_tuple (j:=j) (Q:=fun r s'=>r=w∧EP X pins σ Q r s') pl (by omega) (by omega) (by rw [List.size_toArray,← hl];exact h1) (by simpa using ew) ⟨rfl,fin⟩) hs
theorem HJ:IxR X kQ:=by
 intro value slice pins s σ H x y v u Q I rx ry h hs
 obtain ⟨z,i,c,rfl,rfl,hz,he,q⟩:=h
 obtain ⟨t,rfl⟩:=rx
 obtain ⟨t',rfl⟩:=ry
 obtain ⟨j,h1,h2,h3,h4,h5⟩:=wy he
 have hl:z.cps.toList.length=z.length:=by simp [Str.length]
 rw [hl] at h1 h4 h5
 have hn:=ls
 exact tail_any (typeIs_str s z t) slot_str_getitem.lookup (getItem_str (c:=c) (by
  have e1:decide (i < -(2 ^ 63:Int))=false:=decide_eq_false (by omega)
  have e2:decide (i ≥ 2 ^ 63)=false:=decide_eq_false (by omega)
  rw [e1,e2,Bool.or_false]) (by rw [h1];simpa using h2) ⟨.str ⟨#[c]⟩,H,I.tok _,⟨_,rfl⟩,q⟩) hs
noncomputable def rIx (K:PySem.W.Frag):R2:=fun x y H Q=>iQ K x y H Q∨cQ K x y H Q∨kQ x y H Q
theorem jC (its:List Value) (n j:Nat) (u:Value):Obj.mapSeq (·.setIfInBounds j u) { cls:=.type "list",data:=.seq its.toArray n } = { cls:=.type "list",data:=.seq (its.set j u).toArray n }:=by
 simp [Obj.mapSeq]
theorem Inv.lst {pins:List (Addr × Obj)} {σ:St} {H:Hp} {s:Shared} {p:Addr} {xs:List V} (I:Inv X pins σ H s) (h:H p=some (.lst xs)) :
  ∃ (its:List Value) (n:Nat),jd xs its∧s.heap.get? p=some { cls:=.type "list",data:=.seq its.toArray n }∧xs.length ≤ sizeLine:=by
 obtain ⟨z,its,n,r,e⟩:=I.hok p _ h
 exact ⟨its,n,r,e,z⟩
theorem Inv.lstUpd {pins:List (Addr × Obj)} {σ:St} {H:Hp} {s:Shared} {p:Addr} {xs ys:List V} {its its':List Value} {n n':Nat} {f:Obj→Obj} (I:Inv X pins σ H s) (h:H p=some (.lst xs))
  (ho:s.heap.get? p=some { cls:=.type "list",data:=.seq its.toArray n }) (hf:f { cls:=.type "list",data:=.seq its.toArray n } = { cls:=.type "list",data:=.seq its'.toArray n' }) (r:jd ys its') (hz:ys.length ≤ sizeLine) (t:Nat) :
  Inv X pins σ (upd H p (.lst ys)) { s with heap:=s.heap.update p f,toks:=t }:=by
 have e:(s.heap.update p f).get? p=some { cls:=.type "list",data:=.seq its'.toArray n' }:=by
  rw [Heap.get?_update_self f ho (by rw [hf] <;> rfl),hf]
 refine I.write (x:=p) (e:=p) (by rw [h];trivial) (.inl rfl) (fun b u hb q=>(Heap.get?_update_other _ _ (Ne.symm hb)).trans q) ⟨_,e⟩ ?_
 exact ⟨hz,its',n',r,e⟩
noncomputable def fO:V→V→V→Hp→(Hp→Prop)→Prop:=fun o i v H Q=>∃ p xs k j,o=.ref p∧i=.int k∧H p=some (.lst xs)∧ixN xs.length k=some j∧Q (upd H p (.lst (xs.set j v)))
theorem Gp:iR X fO:=by
 intro pins s σ H o i v ov iv u Q I ro ri rv h
 obtain ⟨p,xs,k,j,rfl,rfl,hp,hj,q⟩:=h
 cases ro
 obtain ⟨t,rfl⟩:=ri
 obtain ⟨its,n,r,ho,hz⟩:=I.lst hp
 obtain ⟨h1,h2,h3,h4⟩:=ZD hj
 have hl:=r.length
 have hn:=ls
 have I':Inv X pins σ (upd H p (.lst (xs.set j v))) { s with heap:=s.heap.update p (Obj.mapSeq (·.setIfInBounds j u)) }:=
  I.lstUpd hp ho (jC its n j u) (r.set rv j) (by rw [List.length_set];exact hz) s.toks
 by_cases h0:0 ≤ k
 ·have hk:k.toNat=j:=by
   rw [seqIndex_of h0 h4] at h1
   exact Option.some.inj h1
  exact PySem.W.ki_setAt ho h0 (by omega) (by rw [List.size_toArray,← hl];exact h4) (by rw [hk];exact ⟨_,I',q⟩)
 ·have hk:(k + (its.toArray.size:Int)).toNat=j:=by
   rw [seqIndex_neg (by omega) h3] at h1
   rw [List.size_toArray,← hl]
   exact Option.some.inj h1
  exact PySem.W.ki_setBack ho (by omega) (by rw [List.size_toArray,← hl];exact h3) (by omega) (by rw [hk];exact ⟨_,I',q⟩)
theorem Kx (lo hi:Option Int) (n:Nat):(sliceBounds lo hi none n).1=((HT.sIx n 0 lo:Nat):Int)∧(sliceBounds lo hi none n).2.1=((HT.sIx n n hi:Nat):Int)∧(sliceBounds lo hi none n).2.2=1:=by
 refine ⟨?_,?_,rfl⟩
 ·cases lo with
  | none=>simp [sliceBounds,HT.sIx]
  | some i=>
   simp only [sliceBounds,HT.sIx,Option.getD_none,show (1:Int) > 0 by decide,if_true]
   by_cases h:i < 0
   ·simp only [h,if_true] <;> omega
   ·simp only [h,if_false] <;> omega
 ·cases hi with
  | none=>simp [sliceBounds,HT.sIx]
  | some i=>
   simp only [sliceBounds,HT.sIx,Option.getD_none,show (1:Int) > 0 by decide,if_true]
   by_cases h:i < 0
   ·simp only [h,if_true] <;> omega
   ·simp only [h,if_false] <;> omega
theorem Mv (its:List Value) (lo hi:Option Int):slicePick its.toArray lo hi none=((its.drop (HT.sIx its.length 0 lo)).take (HT.sIx its.length its.length hi - HT.sIx its.length 0 lo)).toArray:=by
 obtain ⟨h1,h2,h3⟩:=Kx lo hi its.toArray.size
 unfold slicePick
 rw [h1,h2,h3]
 simp only [sliceRange_one,pick_run,List.size_toArray] <;> rfl
noncomputable def KR (K:PySem.W.Frag):V→Option Int→Option Int→Hp→VK→Prop:=fun x lo hi H Q=>∃ a xs,x=.ref a∧SqL K H a xs∧∀ p,H p=none→Q (.ref p) (upd H p (.lst (mF xs lo hi)))
theorem mL:SlR X (KR X.K):=by
 intro pins s σ H x v vl vu lo hi sl Q I rx hs pl pu h
 obtain ⟨a,xs,rfl,hx,q⟩:=h
 cases rx
 obtain ⟨its,r,ht,hz⟩:=I.list hx
 have hlen:=r.length
 refine ⟨"list",_,slot_list_getitem.lookup,ht.isList.typeIs,?_⟩
 refine wpAny_getItem_list_slice ht.isList hs pl pu .none (by simp) ?_ (by rw [List.size_toArray] <;> omega)
 rw [Mv,← hlen]
 refine ⟨.ref s.heap.objs.size,_,I.laid (t':=s.toks) (o:=.lst (mF xs lo hi)) (fun b ob q=>Heap.get?_push_of_some _ q) (Nat.le_refl _) ?_,rfl,q _ (I.hok.fresh (Nat.le_refl _))⟩
 exact ⟨Nat.le_trans (Ar xs lo hi) hz,_,0,(r.drop (HT.sIx xs.length 0 lo)).take (HT.sIx xs.length xs.length hi - HT.sIx xs.length 0 lo),Heap.get?_push_size _ rfl⟩
noncomputable def Qj:V→Bool
 | .non=>true
 | .bl _=>true
 | .int _=>true
 | .str _=>true
 | _=>false
noncomputable def eqV:V→V→Bool
 | .non,.non=>true
 | .bl a,.bl b=>a == b
 | .bl a,.int b=>(if a then 1 else 0) == b
 | .int a,.bl b=>a == (if b then 1 else 0)
 | .int a,.int b=>a == b
 | .str a,.str b=>a == b
 | _,_=>false
theorem SJ {A:Around} {s:Shared} {y x:V} {u v:Value} (ry:ud y u) (rx:ud x v) (fy:Qj y=true) (fx:Qj x=true):SeqAt.EqAt A s u v (eqV y x):=by
 cases y with
 | non=>
  cases ry
  cases x with
  | non=>cases rx;exact SeqAt.EqAt.same _
  | bl b=>cases rx;exact SeqAt.EqAt.none_bool b
  | int b=>obtain ⟨t,rfl⟩:=rx;exact SeqAt.EqAt.none_int b t
  | str b=>obtain ⟨t,rfl⟩:=rx;exact SeqAt.EqAt.none_str b t
  | _=>exact absurd (show false=true from fx) Bool.false_ne_true
 | bl a=>
  cases ry
  cases x with
  | non=>cases rx;exact SeqAt.EqAt.bool_none a
  | bl b=>cases rx;exact SeqAt.EqAt.bool_bool a b
  | int b=>obtain ⟨t,rfl⟩:=rx;exact SeqAt.EqAt.bool_int a b t
  | str b=>obtain ⟨t,rfl⟩:=rx;exact SeqAt.EqAt.bool_str a b t
  | _=>exact absurd (show false=true from fx) Bool.false_ne_true
 | int a=>
  obtain ⟨t',rfl⟩:=ry
  cases x with
  | non=>cases rx;exact SeqAt.EqAt.int_none a t'
  | bl b=>cases rx;exact SeqAt.EqAt.int_bool a t' b
  | int b=>obtain ⟨t,rfl⟩:=rx;exact SeqAt.EqAt.int_int a t' b t
  | str b=>obtain ⟨t,rfl⟩:=rx;exact SeqAt.EqAt.int_str a t' b t
  | _=>exact absurd (show false=true from fx) Bool.false_ne_true
 | str a=>
  obtain ⟨t',rfl⟩:=ry
  cases x with
  | non=>cases rx;exact SeqAt.EqAt.str_none a t'
  | bl b=>cases rx;exact SeqAt.EqAt.str_bool a t' b
  | int b=>obtain ⟨t,rfl⟩:=rx;exact SeqAt.EqAt.str_int a t' b t
  | str b=>obtain ⟨t,rfl⟩:=rx;exact SeqAt.EqAt.str_str a t' b t
  | _=>exact absurd (show false=true from fx) Bool.false_ne_true
 | _=>exact absurd (show false=true from fy) Bool.false_ne_true
noncomputable def eqU (x:V) (u:Value):Bool:=match u with
 | .none=>eqV .non x
 | .bool b=>eqV (.bl b) x
 | .int i _=>eqV (.int i) x
 | .str z _=>eqV (.str z) x
 | _=>false
theorem iK {x y:V} {u:Value} (r:ud y u) (f:Qj y=true):eqU x u=eqV y x:=by
 cases y with
 | non=>cases r;rfl
 | bl b=>cases r;rfl
 | int i=>obtain ⟨t,rfl⟩:=r;rfl
 | str z=>obtain ⟨t,rfl⟩:=r;rfl
 | _=>exact absurd (show false=true from f) Bool.false_ne_true
theorem kr {x:V}:∀ {xs:List V} {us:List Value},jd xs us→xs.all Qj=true→us.any (eqU x)=xs.any fun y=>eqV y x
 | _,_,.nil,_=>rfl
 | y :: xs,u :: us,.cons r t,f=>by
  rw [List.all_cons,Bool.and_eq_true] at f
  rw [List.any_cons,List.any_cons,iK r f.1,kr t f.2]
theorem Am {A:Around} {s:Shared} {x:V} {v:Value} (rx:ud x v) (fx:Qj x=true):∀ {xs:List V} {us:List Value},jd xs us→xs.all Qj=true→∀ u ∈ us,SeqAt.EqAt A s u v (eqU x u)
 | _,_,.nil,_=>fun u hu=>by cases hu
 | y :: xs,u :: us,.cons r t,f=>fun u' hu=>by
  rw [List.all_cons,Bool.and_eq_true] at f
  rcases List.mem_cons.mp hu with rfl | hu
  ·rw [iK r f.1];exact SJ r rx f.1 fx
  ·exact Am rx fx t f.2 u' hu
noncomputable def inV (x:V) (xs:List V):Bool:=xs.any fun y=>eqV y x
noncomputable def rIn (K:PySem.W.Frag) (neg:Bool):R2:=fun x y H Q=>∃ p xs,y=.ref p∧(SqL K H p xs∨SqT K H p xs)∧Qj x=true∧xs.all Qj=true∧Q (.bl (if neg then !inV x xs else inV x xs)) H
theorem Zr:OpR X (compareOp .In) (rIn X.K false):=by
 intro pins s σ H x y v u Q I rx ry h
 obtain ⟨p,xs,rfl,hq,fx,fs,q⟩:=h
 cases ry
 rcases hq with hq | hq
 ·obtain ⟨its,r,pl,hz⟩:=I.list hq
  refine SeqAt.in_listAt (eqU x) pl.isList (fun w hw=>Am rx fx r fs w (by simpa using hw)) ⟨.bl _,H,I,rfl,?_⟩
  rw [show its.toArray.any (eqU x)=its.any (eqU x) by simp,kr r fs]
  exact q
 ·obtain ⟨its,r,pl,hz⟩:=I.tuple hq
  refine SeqAt.in_tupleAt (eqU x) pl (fun w hw=>Am rx fx r fs w (by simpa using hw)) ⟨.bl _,H,I,rfl,?_⟩
  rw [show its.toArray.any (eqU x)=its.any (eqU x) by simp,kr r fs]
  exact q
theorem Aw:OpR X (compareOp .NotIn) (rIn X.K true):=by
 intro pins s σ H x y v u Q I rx ry h
 obtain ⟨p,xs,rfl,hq,fx,fs,q⟩:=h
 cases ry
 rcases hq with hq | hq
 ·obtain ⟨its,r,pl,hz⟩:=I.list hq
  refine SeqAt.notIn_listAt (eqU x) pl.isList (fun w hw=>Am rx fx r fs w (by simpa using hw)) ⟨.bl _,H,I,rfl,?_⟩
  rw [show its.toArray.any (eqU x)=its.any (eqU x) by simp,kr r fs]
  exact q
 ·obtain ⟨its,r,pl,hz⟩:=I.tuple hq
  refine SeqAt.notIn_tupleAt (eqU x) pl (fun w hw=>Am rx fx r fs w (by simpa using hw)) ⟨.bl _,H,I,rfl,?_⟩
  rw [show its.toArray.any (eqU x)=its.any (eqU x) by simp,kr r fs]
  exact q
theorem Dc:Rm X (.builtin "len") (fun xs H Q=>∃ p ys,xs=[.ref p]∧(SqL X.K H p ys∨SqT X.K H p ys)∧Q (.int ys.length) H):=by
 intro pins s σ H xs us Q I r h
 obtain ⟨p,ys,rfl,hq,q⟩:=h
 obtain ⟨u,rfl,rx⟩:=Fp r
 cases rx
 have hn:=ls
 rcases hq with hq | hq
 ·obtain ⟨its,r',pl,hz⟩:=I.list hq
  have hlen:=r'.length
  exact Calls.call_len_list pl.isList (by simp only [List.size_toArray] <;> omega) ⟨.int ys.length,H,I.tok _,⟨s.toks + 1,by rw [List.size_toArray,hlen]⟩,q⟩
 ·obtain ⟨its,r',pl,hz⟩:=I.tuple hq
  have hlen:=r'.length
  exact len_tuple pl (by simp only [List.size_toArray] <;> omega) ⟨.int ys.length,H,I.tok _,⟨s.toks + 1,by rw [List.size_toArray,hlen]⟩,q⟩
theorem yx:Rm X (.builtin "len") (fun xs H Q=>∃ z,xs=[.str z]∧z.length ≤ sizeLine∧Q (.int z.length) H):=by
 intro pins s σ H xs us Q I r h
 obtain ⟨z,rfl,hz,q⟩:=h
 obtain ⟨u,rfl,t,rfl⟩:=Fp r
 have hn:=ls
 exact len_str (by omega) ⟨.int z.length,H,I.tok _,⟨_,rfl⟩,q⟩
theorem Jx:Rm X (.type "list") (fun xs H Q=>∃ p ys,xs=[.ref p]∧(SqL X.K H p ys∨SqT X.K H p ys)∧∀ l,H l=none→Q (.ref l) (upd H l (.lst ys))):=by
 intro pins s σ H xs us Q I r h
 obtain ⟨p,ys,rfl,hq,q⟩:=h
 obtain ⟨u,rfl,rx⟩:=Fp r
 cases rx
 have fin:∀ (its:List Value),jd ys its→ys.length ≤ sizeLine→∀ (h':Heap) (c':Nat),(∀ b o',s.heap.get? b=some o'→h'.get? b=some o') →
   h'.get? s.heap.objs.size=some { cls:=.type "list",dict:=none,data:=.seq its.toArray c',slots:=#[] }→EP X pins σ Q (.ref s.heap.objs.size) { s with heap:=h' }:=fun its r' hz h' c' kp e=>
  ⟨.ref s.heap.objs.size,_,I.laid (t':=s.toks) kp (Nat.le_refl _) (show gd X.prog X.w _ h' _ (.lst ys) from ⟨hz,its,c',r',e⟩),rfl,q _ (I.hok.fresh (Nat.le_refl _))⟩
 rcases hq with hq | hq
 ·obtain ⟨its,r',pl,hz⟩:=I.list hq
  have hlen:=r'.length
  obtain ⟨o,ho,hc,n,hd⟩:=pl.isList
  exact call_list_seq p (.inl rfl) ho hc hd (fun h' c' kp e=>fin its r' hz h' c' kp e) (by simp only [List.size_toArray] <;> omega)
 ·obtain ⟨its,r',pl,hz⟩:=I.tuple hq
  have hlen:=r'.length
  obtain ⟨o,ho,hc,n,hd⟩:=pl
  exact call_list_seq p (.inr rfl) ho hc hd (fun h' c' kp e=>fin its r' hz h' c' kp e) (by simp only [List.size_toArray] <;> omega)
noncomputable def tyV (K:PySem.W.Frag) (T:String) (x:V) (H:Hp):Prop:=match x with
 | .str _=>T = "str"
 | .int _=>T = "int"
 | .ref p=>(T = "list" ∧ ∃ xs,SqL K H p xs)∨(T = "tuple" ∧ ∃ o,K.lookup p=some o∧o.cls=.type "tuple" ∧ o.dict=none) ∨
   (T = "dict" ∧ ((∃ kvs,H p=some (.dK kvs))∨∃ kvs,H p=some (.dT kvs)))∨(T = "set" ∧ ∃ S n,H p=some (.set S n))
 | _=>False
theorem lO {pins:List (Addr × Obj)} {σ:St} {H:Hp} {s:Shared} {T:String} {x:V} {v:Value} (I:Inv X pins σ H s) (r:ud x v) (ty:tyV X.K T x H) :
  s.TypeIs v T∧∀ a,v=.ref a→∃ ob,s.heap.get? a=some ob∧ob.dict=none:=by
 cases x with
 | str z=>
  obtain ⟨t,rfl⟩:=r
  cases (show T = "str" from ty)
  exact ⟨typeIs_str s z t,fun _ e=>nomatch e⟩
 | int i=>
  obtain ⟨t,rfl⟩:=r
  cases (show T = "int" from ty)
  exact ⟨typeIs_int s i t,fun _ e=>nomatch e⟩
 | ref p=>
  cases r
  rcases ty with ⟨rfl,xs,hq⟩ | ⟨rfl,o,hk,hc,hd⟩ | ⟨rfl,hk⟩ | ⟨rfl,S,n,hk⟩
  ·obtain ⟨its,_,pl,_⟩:=I.list hq
   refine ⟨pl.isList.typeIs,fun a e=>?_⟩
   cases e
   obtain ⟨o,n,e,c,hd,_⟩:=pl
   exact ⟨o,e,hd⟩
  ·refine ⟨⟨o,I.kIn p o hk,hc⟩,fun a e=>?_⟩
   cases e
   exact ⟨o,I.kIn _ o hk,hd⟩
  ·have z:∃ o,s.heap.get? p=some o∧o.ExactDict:=by
    rcases hk with ⟨kvs,hk⟩ | ⟨kvs,hk⟩
    ·obtain ⟨_,_,_,_,o,_,_,e,ex,_⟩:=I.hok p _ hk
     exact ⟨o,e,ex⟩
    ·obtain ⟨_,_,_,_,o,_,_,e,ex,_⟩:=I.hok p _ hk
     exact ⟨o,e,ex⟩
   obtain ⟨o,e,ex⟩:=z
   refine ⟨⟨o,e,ex.1⟩,fun a e2=>?_⟩
   cases e2
   exact ⟨o,e,ex.2.1⟩
  ·obtain ⟨o,_,_,_,e,ex,_⟩:=I.hok p _ hk
   refine ⟨⟨o,e,ex.1⟩,fun a e2=>?_⟩
   cases e2
   exact ⟨o,e,ex.2.1⟩
 | _=>exact False.elim ty
noncomputable def kS (K:PySem.W.Frag) (T:String) (r:V→List V→Hp→VK→Prop) (to:TE):TE:=fun σ H Q=>to σ H fun x H1=>tyV K T x H1∧r x [] H1 Q
noncomputable def tBM (K:PySem.W.Frag) (T:String) (r:V→List V→Hp→VK→Prop) (to:TE) (t:TA):TE:=fun σ H Q=>to σ H fun x H1=>tyV K T x H1∧t σ H1 fun xs H2=>r x xs H2 Q
variable {o e:Expr} {es:List Expr} {to:TE} {t:TA} {name:Str} {apos cpos:Pos} {T id:String} {r:V→List V→Hp→VK→Prop}
theorem jo (pa:PlainAttrs T) (slot:Slot T name id) (hty:typeOf (.builtin id)=pure (.type "method_descriptor")) (hm:MtR X id r) (ho:PE X o to) (ha:PA X (e :: es) t)
  (hbase:attributeBase o name X.env (eval o X.env)=eval o X.env:=by rfl)
  (hfew:((backTo cpos (starEach (e :: es) X.env)).all (fun x=>!x.1) && (backToKw cpos (keywordEach [] X.env)).all (fun x=>x.1.isSome)
   && decide ((e :: es).length + ([]:List Keyword).length + (if ([]:List Keyword).isEmpty then 0 else 1) < 30))=true:=by rfl)
  (hline:(apos.endLine == cpos.line)=true:=by rfl) (hs:starEach (e :: es) X.env=(false,eval e X.env) :: starEach es X.env:=by rfl) (hplain:(backTo cpos (starEach es X.env)).any (·.1)=false:=by rfl) :
  PE X (.Call (.Attribute o name apos) (e :: es) [] cpos) (tBM X.K T r to t):=by
 intro pins s σ H Q I h
 refine wpAny_Call_method_late hbase hfew hline rfl (thn (ho pins s σ H _ I h) fun v s1 hZ1=>?_)
 obtain ⟨x,H1,I1,r1,ty,q1⟩:=hZ1
 obtain ⟨h1,h2⟩:=lO I1 r1 ty
 refine ⟨T,id,pa,slot,hty,h1,h2,?_⟩
 have hA:=ha cpos pins s1 σ H1 _ I1 q1
 rw [hs] at hA ⊢
 refine Calls.callWith_builtin (by show (false || (backTo cpos (starEach es X.env)).any (·.1))=false;rw [hplain] <;> rfl) (Calls.evalArgs_plain ?_)
 exact thn hA fun us s2 ⟨vs,H2,I2,r2,q2⟩=>hm pins s2 σ H2 x vs v us Q I2 r1 r2 q2
end
end L2
namespace L2
open PySem PySem.Spec PyProof.Rows
noncomputable def MtM (X:Cx) (id:String) (r:V→List V→Hp→VK→Prop):Prop:=
 ∀ (pins:List (Addr × Obj)) (s:Shared) (σ:St) (H:Hp) (x:V) (xs:List V) (v:Value) (us:List Value) (Q:VK),Inv X pins σ H s→ud x v→jd xs us→r x xs H Q →
  wpAny (model X.prog X.w) X.A (call (.builtin id) (v :: us)) (EP X pins σ Q) X.xe s
theorem jd.one:∀ {x:V} {us:List Value},jd [x] us→∃ u,us=[u]∧ud x u
 | _,_,.cons r .nil=>⟨_,rfl,r⟩
theorem jd.two:∀ {x y:V} {us:List Value},jd [x,y] us→∃ u v,us=[u,v]∧ud x u∧ud y v
 | _,_,_,.cons r (.cons q .nil)=>⟨_,_,rfl,r,q⟩
theorem jd.zero:∀ {us:List Value},jd [] us→us=[]
 | _,.nil=>rfl
theorem jd.dropLast {xs:List V} {us:List Value} (h:jd xs us):jd xs.dropLast us.dropLast:=by
 induction h with
 | nil=>exact .nil
 | cons r t ih=>
  cases t with
  | nil=>exact .nil
  | cons q t'=>exact .cons r ih
theorem jd.eraseIdx:∀ {xs:List V} {us:List Value} (i:Nat),jd xs us→jd (xs.eraseIdx i) (us.eraseIdx i)
 | _,_,_,.nil=>.nil
 | _,_,0,.cons _ t=>t
 | _,_,i + 1,.cons r t=>.cons r (jd.eraseIdx i t)
theorem jd.reverse {xs:List V} {us:List Value} (h:jd xs us):jd xs.reverse us.reverse:=by
 induction h with
 | nil=>exact .nil
 | cons r t ih=>rw [List.reverse_cons,List.reverse_cons];exact jd.append ih (.cons r .nil)
section
variable {X:Cx} {pins:List (Addr × Obj)} {σ:St} {H:Hp} {s:Shared} {l b:Addr} {xs ys zs:List V}
theorem Inv.lset {its its':List Value} {n:Nat} {f:Array Value→Array Value} {t':Nat} (I:Inv X pins σ H s) (hH:H l=some (.lst xs))
  (e:s.heap.get? l=some { cls:=.type "list",data:=.seq its.toArray n }) (hf:f its.toArray=its'.toArray) (hv:jd ys its') (hz:ys.length ≤ sizeLine) :
  Inv X pins σ (upd H l (.lst ys)) { s with heap:=s.heap.update l (Obj.mapSeq f),toks:=t' }:=by
 have q:=PySem.IsL.update e f
 rw [hf] at q
 refine I.write (x:=l) (e:=l) (by rw [hH];exact trivial) (.inl rfl) (fun b' u hb hu=>(Heap.get?_update_other s.heap (Obj.mapSeq f) (Ne.symm hb)).trans hu) ⟨_,q⟩ ?_
 exact ⟨hz,its',_,hv,q⟩
theorem Inv.fresh (I:Inv X pins σ H s):H s.heap.objs.size=none:=I.hok.fresh (Nat.le_refl _)
theorem Inv.lstM (I:Inv X pins σ H s) (hH:H l=some (.lst xs)):xs.length ≤ sizeLine∧∃ (its:List Value) (n:Nat),jd xs its∧xs.length=its.length∧s.heap.get? l=some { cls:=.type "list",data:=.seq its.toArray n }:=by
 obtain ⟨z,its,n,r,e⟩:=I.hok l _ hH
 exact ⟨z,its,n,r,r.length,e⟩
end
section
variable {X:Cx}
noncomputable def UF:V→List V→Hp→VK→Prop:=fun x vs H Q=>∃ l xs y,x=.ref l∧vs=[y]∧H l=some (.lst xs)∧xs.length < sizeLine∧Q .non (upd H l (.lst (xs ++ [y])))
theorem jg:MtM X "list.append" UF:=by
 intro pins s σ H x vs v us Q I rx rv h
 obtain ⟨l,xs,y,rfl,rfl,hH,hz,q⟩:=h
 cases rx
 obtain ⟨u,rfl,ru⟩:=rv.one
 obtain ⟨z,its,n,r,hl,e⟩:=I.lstM hH
 refine call_meets F.slot_list_append ⟨_,e,rfl⟩ F.entry_list_append (F.args_list_append_2 _ _) (PySem.list_append l its.toArray n u (by rw [List.size_toArray];omega)) ⟨e,?_⟩
 refine ⟨.non,_,I.lset (its':=its ++ [u]) hH e (by simp) (r.append (.cons ru .nil)) ?_,rfl,q⟩
 rw [List.length_append,List.length_singleton]
 omega
noncomputable def TM:V→List V→Hp→VK→Prop:=fun x vs H Q=>∃ l b xs zs,x=.ref l∧vs=[.ref b]∧H l=some (.lst xs)∧H b=some (.lst zs)∧xs.length + zs.length ≤ sizeLine∧Q .non (upd H l (.lst (xs ++ zs)))
noncomputable def sS:V→List V→Hp→VK→Prop:=fun x vs H Q=>∃ l xs y,x=.ref l∧vs=[]∧H l=some (.lst xs)∧xs[xs.length - 1]? = some y∧Q y (upd H l (.lst xs.dropLast))
noncomputable def vO:V→List V→Hp→VK→Prop:=fun x vs H Q=>∃ l xs i k y,x=.ref l∧vs=[.int i]∧H l=some (.lst xs)∧-(2 ^ 63) ≤ i∧i < 2 ^ 63∧seqIndex? i xs.length=some k∧xs[k]? = some y∧Q y (upd H l (.lst (xs.eraseIdx k)))
noncomputable def ZI:V→List V→Hp→VK→Prop:=fun x vs H Q=>∃ l xs,x=.ref l∧vs=[]∧H l=some (.lst xs)∧Q .non (upd H l (.lst xs.reverse))
noncomputable def qO:V→List V→Hp→VK→Prop:=fun x vs H Q=>∃ l xs,x=.ref l∧vs=[]∧H l=some (.lst xs)∧Q .non (upd H l (.lst []))
noncomputable def bS:R2:=fun x y H Q=>∃ l b xs zs,x=.ref l∧y=.ref b∧H l=some (.lst xs)∧H b=some (.lst zs)∧xs.length + zs.length ≤ sizeLine∧∀ p,H p=none→Q (.ref p) (upd H p (.lst (xs ++ zs)))
noncomputable def fS:R2:=fun x y H Q=>∃ l k xs,x=.ref l∧y=.int k∧H l=some (.lst xs)∧-(2 ^ 63) ≤ k∧k < 2 ^ 63∧xs.length * k.toNat ≤ sizeLine ∧
 ∀ p,H p=none→Q (.ref p) (upd H p (.lst (List.replicate k.toNat xs).flatten))
end
section
variable {prog:Program} {w:World} {A:Around} {E:Value→Shared→Prop} {s:Shared}
end
section
variable {X:Cx}
end
end L2
namespace L2
open PySem PySem.Spec PyProof.Rows
section
variable {κ:Type} [DecidableEq κ]
noncomputable def vj (kvs:List (κ × V)) (k:κ):Option V:=(kvs.find? fun kv=>decide (kv.1=k)).map (·.2)
noncomputable def Cs (kvs:List (κ × V)) (k:κ) (v:V):List (κ × V):=
 if (kvs.any fun kv=>decide (kv.1=k))=true then kvs.map (fun kv=>if kv.1=k then (kv.1,v) else kv) else kvs ++ [(k,v)]
noncomputable def Ax (kvs:List (κ × V)) (k:κ):List (κ × V):=kvs.filter fun kv=>decide (kv.1 ≠ k)
theorem Xu {p:κ × V} {r:List (κ × V)} {k:κ} (e:p.1=k):vj (p :: r) k=some p.2:=by simp [vj,List.find?_cons,e]
theorem Bv {p:κ × V} {r:List (κ × V)} {k:κ} (e:¬ p.1=k):vj (p :: r) k=vj r k:=by simp [vj,List.find?_cons,e]
theorem Ov (k:κ):∀ kvs:List (κ × V),(kvs.any fun kv=>decide (kv.1=k))=(vj kvs k).isSome
 | []=>rfl
 | p :: r=>by
  rw [List.any_cons]
  by_cases e:p.1=k
  ·simp only [Xu e,decide_eq_true e,Bool.true_or,Option.isSome_some]
  ·rw [Bv e,decide_eq_false e,Bool.false_or];exact Ov k r
theorem Wl (kvs:List (κ × V)) (k:κ) (v:V):(Cs kvs k v).length ≤ kvs.length + 1:=by
 unfold Cs
 split
 ·rw [List.length_map];omega
 ·rw [List.length_append,List.length_cons,List.length_nil];omega
theorem Fv {kvs:List (κ × V)} {k:κ} (v:V) (h:vj kvs k=none):Cs kvs k v=kvs ++ [(k,v)]:=by
 unfold Cs
 rw [Ov,h]
 exact if_neg (by decide)
theorem Bs.isSome_eq {o:Option V} {u:Option Value} (r:Bs o u):o.isSome=u.isSome:=by
 cases o with
 | none=>cases u with
  | none=>rfl
  | some _=>exact (show False from r).elim
 | some _=>cases u with
  | none=>exact (show False from r).elim
  | some _=>rfl
theorem Bs.getD {o:Option V} {u:Option Value} {d:V} {d':Value} (r:Bs o u) (rd:ud d d'):ud (o.getD d) (u.getD d'):=by
 cases o with
 | none=>cases u with
  | none=>exact rd
  | some _=>exact (show False from r).elim
 | some _=>cases u with
  | none=>exact (show False from r).elim
  | some _=>exact r
theorem KV.val {kvs:List (κ × V)} {vs:List (κ × Value)} (r:KV kvs vs) (k:κ):Bs (vj kvs k) (valueAt vs k):=by
 unfold KV at r
 induction r with
 | nil=>exact True.intro
 | @cons p q ps qs h t ih=>
  obtain ⟨h1,h2⟩:=h
  by_cases e:p.1=k
  ·have e':q.1=k:=h1.symm.trans e
   have b:valueAt (q :: qs) k=some q.2:=by simp [valueAt,List.find?_cons,e']
   rw [Xu e,b];exact h2
  ·have e':¬ q.1=k:=fun z=>e (h1.trans z)
   have b:valueAt (q :: qs) k=valueAt qs k:=by simp [valueAt,List.find?_cons,e']
   rw [Bv e,b];exact ih
theorem KV.any {kvs:List (κ × V)} {vs:List (κ × Value)} (r:KV kvs vs) (k:κ):(kvs.any fun kv=>decide (kv.1=k))=vs.any fun kv=>decide (kv.1=k):=by
 unfold KV at r
 induction r with
 | nil=>rfl
 | cons h t ih=>rw [List.any_cons,List.any_cons,ih,h.1]
theorem KV.repl {kvs:List (κ × V)} {vs:List (κ × Value)} (r:KV kvs vs) (k:κ) {y:V} {u:Value} (ry:ud y u) :
  KV (kvs.map fun kv=>if kv.1=k then (kv.1,y) else kv) (vs.map fun kv=>if kv.1=k then (kv.1,u) else kv):=by
 unfold KV at r ⊢
 induction r with
 | nil=>exact .nil
 | @cons p q ps qs h t ih=>
  rw [List.map_cons,List.map_cons]
  refine .cons ?_ ih
  obtain ⟨h1,h2⟩:=h
  by_cases e:p.1=k
  ·rw [if_pos e,if_pos (h1.symm.trans e)];exact ⟨h1,ry⟩
  ·rw [if_neg e,if_neg (fun z=>e (h1.trans z))];exact ⟨h1,h2⟩
theorem KV.put {kvs:List (κ × V)} {vs:List (κ × Value)} (r:KV kvs vs) (k:κ) {y:V} {u:Value} (ry:ud y u):KV (Cs kvs k y) (stored vs k u):=by
 unfold Cs stored
 rw [r.any k]
 by_cases e:(vs.any fun kv=>decide (kv.1=k))=true
 ·rw [if_pos e,if_pos e];exact r.repl k ry
 ·rw [if_neg e,if_neg e];exact Paired.snoc r ⟨rfl,ry⟩
theorem KV.drop {kvs:List (κ × V)} {vs:List (κ × Value)} (r:KV kvs vs) (k:κ):KV (Ax kvs k) (without vs k):=by
 unfold KV at r ⊢
 unfold Ax without
 induction r with
 | nil=>exact .nil
 | @cons p q ps qs h t ih=>
  obtain ⟨h1,h2⟩:=h
  rw [List.filter_cons,List.filter_cons]
  by_cases e:p.1=k
  ·have a:¬ decide (p.1 ≠ k)=true:=by simp [e]
   have b:¬ decide (q.1 ≠ k)=true:=by simp [h1.symm.trans e]
   rw [if_neg a,if_neg b];exact ih
  ·have e':¬ q.1=k:=fun z=>e (h1.trans z)
   have a:decide (p.1 ≠ k)=true:=by simp [e]
   have b:decide (q.1 ≠ k)=true:=by simp [e']
   rw [if_pos a,if_pos b];exact .cons ⟨h1,h2⟩ ih
theorem KV.keys {kvs:List (κ × V)} {vs:List (κ × Value)} (r:KV kvs vs):kvs.map (·.1)=vs.map (·.1):=by
 unfold KV at r
 induction r with
 | nil=>rfl
 | cons h t ih=>rw [List.map_cons,List.map_cons,ih,h.1]
theorem KV.length {kvs:List (κ × V)} {vs:List (κ × Value)} (r:KV kvs vs):kvs.length=vs.length:=Paired.length r
end
theorem SF {P:Program} {w:World} {k:Key} {u:Value} (r:ud (kV k) u):(Fe P w).is k u=true:=by
 cases k with
 | inl i=>obtain ⟨t,e⟩:=(show ∃ t,u=Value.int i t from r);subst e;exact gy P w i t
 | inr x=>obtain ⟨t,e⟩:=(show ∃ t,u=Value.str x t from r);subst e;exact zy P w x t
theorem Sw {P:Program} {w:World}:∀ {ks:List Key} {us:List Value},jd (ks.map kV) us→ItemsAre (Fe P w) ks us
 | [],_,r=>by rw [List.map_nil] at r;cases r;exact .nil
 | k :: ks,_,r=>by
  rw [List.map_cons] at r
  cases r with
  | cons h t=>exact .cons (SF h) (Sw t)
noncomputable abbrev KT (H:Hp):List (List Key × V)→List (List Key × Addr × Value)→Prop:=Paired fun p q=>p.1=q.1∧H q.2.1=some (.tup (p.1.map kV))∧ud p.2 q.2.2
theorem KT.val {H:Hp} {kvs:List (List Key × V)} {xs:List (List Key × Addr × Value)} (r:KT H kvs xs) (k:List Key):Bs (vj kvs k) ((atKey xs k).map (·.2)):=by
 induction r with
 | nil=>exact True.intro
 | @cons p q ps qs h t ih=>
  obtain ⟨h1,_,h2⟩:=h
  by_cases e:p.1=k
  ·have e':q.1=k:=h1.symm.trans e
   have b:atKey (q :: qs) k=some q.2:=by simp [atKey,List.find?_cons,e']
   rw [Xu e,b];exact h2
  ·have e':¬ q.1=k:=fun z=>e (h1.trans z)
   have b:atKey (q :: qs) k=atKey qs k:=by simp [atKey,List.find?_cons,e']
   rw [Bv e,b];exact ih
theorem KT.repl {H:Hp} {kvs:List (List Key × V)} {xs:List (List Key × Addr × Value)} (r:KT H kvs xs) (k:List Key) {y:V} {u:Value} (ry:ud y u) :
  KT H (kvs.map fun kv=>if kv.1=k then (kv.1,y) else kv) (xs.map (putAt k u)):=by
 induction r with
 | nil=>exact .nil
 | @cons p q ps qs h t ih=>
  rw [List.map_cons,List.map_cons]
  refine .cons ?_ ih
  obtain ⟨h1,h2,h3⟩:=h
  unfold putAt
  by_cases e:p.1=k
  ·rw [if_pos e,if_pos (h1.symm.trans e)];exact ⟨h1,h2,ry⟩
  ·rw [if_neg e,if_neg (fun z=>e (h1.trans z))];exact ⟨h1,h2,h3⟩
theorem KT.put {H:Hp} {kvs:List (List Key × V)} {xs:List (List Key × Addr × Value)} (r:KT H kvs xs) (k:List Key) {b:Addr} {y:V} {u:Value} (hb:H b=some (.tup (k.map kV))) (ry:ud y u) :
  KT H (Cs kvs k y) (storedH xs k b u):=by
 have e:(kvs.any fun kv=>decide (kv.1=k))=(atKey xs k).isSome:=by
  rw [Ov,(r.val k).isSome_eq,Option.isSome_map]
 unfold Cs storedH
 rw [e]
 by_cases q:(atKey xs k).isSome=true
 ·rw [if_pos q,if_pos q];exact r.repl k ry
 ·rw [if_neg q,if_neg q];exact Paired.snoc r ⟨rfl,hb,ry⟩
theorem KT.keeps {H H':Hp} {kvs:List (List Key × V)} {xs:List (List Key × Addr × Value)} (r:KT H kvs xs) (ht:∀ b ys,H b=some (.tup ys)→H' b=some (.tup ys)):KT H' kvs xs:=
 Paired.mapP r fun _ _ z=>⟨z.1,ht _ _ z.2.1,z.2.2⟩
section
variable {P:Program} {w:World} {H:Hp} {h:Heap} {a:Addr}
theorem RN {u:HO} (ok:HOk P w H h) (e:Rd H a u):gd P w H h a u:=e.ok ok
theorem nI {kvs:List (Key × V)} (ok:HOk P w H h) (e:Rd H a (.dK kvs)):kvs.length ≤ sizeLine∧(a == sysModules)=false∧∃ vs,KV kvs vs∧h.DictOf (Fe P w) a vs:=
 show gd P w H h a (.dK kvs) from RN ok e
theorem WN {kvs:List (Key × V)} (ok:HOk P w H h) (e:H a=some (.dK kvs)):kvs.length ≤ sizeLine∧(a == sysModules)=false∧∃ vs,KV kvs vs∧h.DictOf (Fe P w) a vs:=nI ok (.inl e)
theorem rA {ks:List Key} (ok:HOk P w H h) (e:H a=some (.tup (ks.map kV))):(tupleKind (Fe P w)).is h ks a:=by
 obtain ⟨_,its,r,o,h1,h2,n,h3⟩:=(show gd P w H h a (.tup (ks.map kV)) from ok a _ e)
 exact ⟨o,its.toArray,n,h1,h2,h3,by simpa using Sw r⟩
theorem UG {kvs:List (List Key × V)} (ok:HOk P w H h) (e:Rd H a (.dT kvs)):kvs.length ≤ sizeLine∧(a == sysModules)=false ∧
  ∃ xs,KT H kvs xs∧h.DictOfH (tupleKind (Fe P w)) a xs:=by
 obtain ⟨z,y,xs,r,o,es,ep,h1,h2,h3,h4,h5⟩:=(show gd P w H h a (.dT kvs) from RN ok e)
 refine ⟨z,y,xs,r,o,es,ep,h1,h2,h3,h4,fun x hx=>?_,h5⟩
 have all:∀ {l:List (List Key × V)} {m:List (List Key × Addr × Value)},KT H l m→∀ x ∈ m,(tupleKind (Fe P w)).is h x.1 x.2.1:=by
  intro l m q
  induction q with
  | nil=>intro x hx;exact nomatch hx
  | @cons p q ps qs hq t ih=>
   intro x hx
   rcases List.mem_cons.mp hx with e | hx
   ·subst e
    exact rA ok (by rw [← hq.1];exact hq.2.1)
   ·exact ih x hx
 exact all r x hx
theorem bR {kvs:List (List Key × V)} (ok:HOk P w H h) (e:H a=some (.dT kvs)):kvs.length ≤ sizeLine∧(a == sysModules)=false ∧
  ∃ xs,KT H kvs xs∧h.DictOfH (tupleKind (Fe P w)) a xs:=UG ok (.inl e)
end
noncomputable def zl (H:Hp) (a:Addr) (y:V) (r:Option V):Prop:=
 (∃ kvs k,Rd H a (.dK kvs)∧y=kV k∧r=vj kvs k)∨∃ kvs k b,Rd H a (.dT kvs)∧y=.ref b∧H b=some (.tup (k.map kV))∧r=vj kvs k
noncomputable def aC (H:Hp) (a:Addr) (y v:V) (H':Hp):Prop:=
 (∃ kvs k,H a=some (.dK kvs)∧y=kV k∧kvs.length < sizeLine∧H'=upd H a (.dK (Cs kvs k v))) ∨
 ∃ kvs k b,H a=some (.dT kvs)∧y=.ref b∧H b=some (.tup (k.map kV))∧kvs.length < sizeLine∧H'=upd H a (.dT (Cs kvs k v))
theorem zl.k {H:Hp} {a:Addr} {kvs:List (Key × V)} {k:Key} (e:H a=some (.dK kvs)):zl H a (kV k) (vj kvs k):=.inl ⟨kvs,k,.inl e,rfl,rfl⟩
theorem zl.t {H:Hp} {a b:Addr} {kvs:List (List Key × V)} {k:List Key} (e:H a=some (.dT kvs)) (eb:H b=some (.tup (k.map kV))):zl H a (.ref b) (vj kvs k):=.inr ⟨kvs,k,b,.inl e,rfl,eb,rfl⟩
theorem aC.k {H:Hp} {a:Addr} {kvs:List (Key × V)} {k:Key} {v:V} (e:H a=some (.dK kvs)) (hl:kvs.length < sizeLine):aC H a (kV k) v (upd H a (.dK (Cs kvs k v))):=.inl ⟨kvs,k,e,rfl,hl,rfl⟩
theorem aC.t {H:Hp} {a b:Addr} {kvs:List (List Key × V)} {k:List Key} {v:V} (e:H a=some (.dT kvs)) (eb:H b=some (.tup (k.map kV))) (hl:kvs.length < sizeLine) :
  aC H a (.ref b) v (upd H a (.dT (Cs kvs k v))):=.inr ⟨kvs,k,b,e,rfl,eb,hl,rfl⟩
section
variable {X:Cx} {pins:List (Addr × Obj)} {σ:St} {H:Hp} {s:Shared} {a:Addr} {y v:V} {u r:Value} {o:Option V} {A:Around} {E:Value→Shared→Prop}
theorem Inv.big (I:Inv X pins σ H s):sysModules < s.heap.objs.size:=by
 have h:mainGlobals < s.heap.objs.size:=(I.mod.glob.keeps I.bk).lt
 exact Nat.lt_trans (by decide) h
theorem zD {Q:Value→Shared→Prop} (hu:A.units + 1 < cLine) (I:Inv X pins σ H s) (g:zl H a y (some v)) (ry:ud y u) (h:∀ w' s',Inv X pins σ H s'→ud v w'→Q w' s') :
  wpAny (model X.prog X.w) A (getItem (.ref a) u) Q E s:=by
 rcases g with ⟨kvs,k,e,ey,l⟩ | ⟨kvs,k,b,e,ey,eb,l⟩
 ·subst ey
  obtain ⟨z,hd,vs,rel,dd⟩:=nI I.hok e
  obtain ⟨w',hw,rw'⟩:=Bs.some_of (v:=v) (o:=valueAt vs k) (by rw [l];exact rel.val k)
  exact wpAny_getItem_of (SF ry) dd.mapOf hw (h w' _ (I.tok _) rw')
 ·subst ey
  cases (show u=Value.ref b from ry)
  obtain ⟨z,hd,xs,rel,dd⟩:=UG I.hok e
  obtain ⟨w',hw,rw'⟩:=Bs.some_of (v:=v) (o:=(atKey xs k).map (·.2)) (by rw [l];exact rel.val k)
  obtain ⟨p,hp,hp2⟩:=Option.map_eq_some_iff.mp hw
  refine wpAny_getItem_heap (tupleKind_room_in1 hu) (rA I.hok eb) dd hp ?_
  rw [hp2]
  exact h w' _ (I.tok _) rw'
theorem JL {Q:Value→Shared→Prop} (hu:A.units + 1 < cLine) (I:Inv X pins σ H s) (g:zl H a y o) (ry:ud y u) (h:∀ s',Inv X pins σ H s'→Q (.bool (!o.isSome)) s') :
  wpAny (model X.prog X.w) A (compareOp .NotIn u (.ref a)) Q E s:=by
 rcases g with ⟨kvs,k,e,ey,l⟩ | ⟨kvs,k,b,e,ey,eb,l⟩
 ·subst ey
  obtain ⟨z,hd,vs,rel,dd⟩:=nI I.hok e
  refine wpAny_notIn_of (SF ry) hd dd.mapOf ?_
  rw [← (rel.val k).isSome_eq,← l]
  exact h _ (I.tok _)
 ·subst ey
  cases (show u=Value.ref b from ry)
  obtain ⟨z,hd,xs,rel,dd⟩:=UG I.hok e
  refine wpAny_notIn_heap (tupleKind_room_in1 hu) (rA I.hok eb) hd dd ?_
  have q:=(rel.val k).isSome_eq
  rw [Option.isSome_map] at q
  rw [← q,← l]
  exact h _ (I.tok _)
theorem Xy {h':Heap} {t':Nat} {ob:HO} (I:Inv X pins σ H s) (mu:Mut (H a)) (hs:Heap.SameBut a s.heap h') (he:∃ q,h'.get? a=some q) (new:gd X.prog X.w (upd H a ob) h' a ob) :
  Inv X pins σ (upd H a ob) { s with heap:=h',toks:=t' }:=
 I.write (x:=a) (e:=a) mu (.inl rfl) (fun b q hb z=>(hs.2 b hb).trans z) he new
theorem qK {P:Program} {w:World} {H':Hp} {h':Heap} {kvs:List (Key × V)} {vs:List (Key × Value)} (z:kvs.length ≤ sizeLine) (hd:(a == sysModules)=false) (rel:KV kvs vs) (dd:h'.DictOf (Fe P w) a vs) :
  gd P w H' h' a (.dK kvs):=⟨z,hd,vs,rel,dd⟩
theorem mE {H':Hp} {Q:Unit→Shared→Prop} (hu:A.units + 1 < cLine) (I:Inv X pins σ H s) (g:aC H a y v H') (ry:ud y u) (rv:ud v r) (h:∀ s',Inv X pins σ H' s'→Q () s') :
  wpAny (model X.prog X.w) A (setItem (.ref a) u r) Q E s:=by
 rcases g with ⟨kvs,k,e,ey,l,eH⟩ | ⟨kvs,k,b,e,ey,eb,l,eH⟩
 ·subst ey eH
  obtain ⟨z,hd,vs,rel,dd⟩:=WN I.hok e
  have hz:vs.length ≤ sizeLine:=by rw [← rel.length];exact z
  have hl:(Cs kvs k v).length ≤ sizeLine:=by have:=Wl kvs k v;omega
  refine wpAny_setItem_pairs (hsz:=hz) (SF ry) dd fun h' dd' hs=>h _ ?_
  have he:∃ q,h'.get? a=some q:=let ⟨q,_,_,hq,_⟩:=dd';⟨q,hq⟩
  exact Xy I (by rw [e];exact True.intro) hs he (qK hl hd (rel.put k rv) dd')
 ·subst ey eH
  cases (show u=Value.ref b from ry)
  obtain ⟨z,hd,xs,rel,dd⟩:=bR I.hok e
  have hz:xs.length ≤ sizeLine:=by rw [← Paired.length rel];exact z
  have hl:(Cs kvs k v).length ≤ sizeLine:=by have:=Wl kvs k v;omega
  refine wpAny_setItem_heap (hsz:=hz) (tupleKind_room_in1 hu) (rA I.hok eb) dd fun h' dd' hs=>h _ ?_
  obtain ⟨q,es,ep,hq,h2,h3,h4,_,h5⟩:=dd'
  refine Xy I (by rw [e];exact True.intro) hs ⟨q,hq⟩ ⟨hl,hd,_,(rel.put k eb rv).keeps fun c ys ec=>?_,q,es,ep,hq,h2,h3,h4,h5⟩
  rw [pb (Ag ec e (fun z=>nomatch z))]
  exact ec
end
section
variable {X:Cx} {pins:List (Addr × Obj)} {σ:St} {H:Hp} {s:Shared} {a:Addr} {kvs:List (Key × V)} {k:Key} {u:Value} {A:Around} {E:Value→Shared→Prop}
end
noncomputable def wR (i:Expr):Prop:=∀ ov iv,subscripted i false ov iv=operate [ov,iv] (getItem ov iv)
theorem BL {prog:Program} {w:World} {A:Around} {E:Value→Shared→Prop} {s:Shared} {env:Env} {value slice:Expr} {pos:Pos} {T id:String} {Q:Value→Shared→Prop}
  (hl:typeLookup (.type T) "__getitem__"=pure (some (.builtin id))) (hs:wR slice)
  (h:wpAny (model prog w) A (eval value env) (fun o s₁=>wpAny (model prog w) A (eval slice env) (fun i s₂=>s₂.TypeIs o T∧wpAny (model prog w) A (getItem o i) Q E s₂) E s₁) E s) :
  wpAny (model prog w) A (eval (.Subscript value slice pos) env) Q E s:=by
 refine Subscript_ (wpAny_mono h (fun o s₁ h₁=>wpAny_mono h₁ (fun i s₂ h₂=>?_) fun _ _ x=>x) fun _ _ x=>x)
 obtain ⟨hT,h₂⟩:=h₂
 unfold subscriptTail
 refine wpAny_bind ?_
 rw [getitemInPython_of_ne hT.not_modules]
 refine wpAny_bind (wpAny_specialOf hT hl ?_)
 have fin:wpAny (model prog w) A (subscripted slice false o i) (fun r s₃=>wpAny (model prog w) A (letTemporaryGo value o r >>= fun _=>pure r) Q E s₃) E s₂:=by
  rw [hs o i]
  exact wpAny_operating (wpAny_mono h₂ (fun r s₃ h₃=>wpAny_bind (wpAny_letTemporaryGo (wpAny_pure h₃))) fun _ _ x=>x)
 first
  | exact wpAny_pure (wpAny_bind fin)
  | exact wpAny_bind (wpAny_pure (wpAny_bind fin))
  | exact wpAny_bind fin
theorem Ey {X:Cx} {pins:List (Addr × Obj)} {σ:St} {H:Hp} {s:Shared} {a:Addr} {y:V} {o:Option V} (I:Inv X pins σ H s) (g:zl H a y o):s.TypeIs (.ref a) "dict" := by
 rcases g with ⟨kvs,k,e,_,_⟩ | ⟨kvs,k,b,e,_,_,_⟩
 ·obtain ⟨_,_,vs,_,dd⟩:=nI I.hok e
  exact dd.typeIs
 ·obtain ⟨_,_,xs,_,dd⟩:=UG I.hok e
  exact dd.typeIs
noncomputable def pO (td ty:TE):TE:=fun σ H Q=>td σ H fun x H1=>ty σ H1 fun y H2=>∃ a v,x=.ref a∧zl H2 a y (some v)∧Q v H2
noncomputable def jS (ty td:TE):TE:=fun σ H Q=>ty σ H fun y H1=>td σ H1 fun x H2=>∃ a o,x=.ref a∧zl H2 a y o∧Q (.bl o.isSome) H2
noncomputable def xF (ty td:TE):TE:=fun σ H Q=>ty σ H fun y H1=>td σ H1 fun x H2=>∃ a o,x=.ref a∧zl H2 a y o∧Q (.bl (!o.isSome)) H2
noncomputable def JO (td ty tv:TE):TS:=fun D σ H=>tv σ H fun v H1=>td σ H1 fun x H2=>ty σ H2 fun y H3=>∃ a H4,x=.ref a∧aC H3 a y v H4∧D.nx σ H4
noncomputable def sQ (td ty tv:TE) (rd:V→V→Hp→VK→Prop):TS:=fun D σ H=>td σ H fun x H1=>ty σ H1 fun y H2=>∃ a v,x=.ref a∧zl H2 a y (some v) ∧
 tv σ H2 fun y2 H3=>rd v y2 H3 fun z H4=>∃ H5,aC H4 a y z H5∧D.nx σ H5
noncomputable def AQ (td ty:TE):TS:=fun D σ H=>td σ H fun x H1=>ty σ H1 fun y H2=>∃ a kvs k,x=.ref a∧H2 a=some (.dK kvs)∧y=kV k∧(vj kvs k).isSome=true∧D.nx σ (upd H2 a (.dK (Ax kvs k)))
section
variable {X:Cx} {o i e value:Expr} {pos pos' tpos:Pos} {td ty tv:TE}
theorem wo (hu:X.A.units + 1 < cLine) (ho:PE X o td) (hi:PE X i ty) (hs:wR i):PE X (.Subscript o i pos) (pO td ty):=by
 intro pins s σ H Q I h
 refine BL PySem.F.slot_dict_getitem.lookup hs (thn (ho pins s σ H _ I h) fun u s1 ⟨x,H1,I1,rx,q1⟩=>thn (hi pins s1 σ H1 _ I1 q1) fun iv s2 hZ1=>?_)
 obtain ⟨y,H2,I2,ry,a,v,ex,g,q2⟩:=hZ1
 subst ex
 obtain rfl:u=Value.ref a:=rx
 exact ⟨Ey I2 g,zD hu I2 g ry fun w' s3 I3 rw'=>⟨v,H2,I3,rw',q2⟩⟩
theorem Ex (hu:X.A.units + 1 < cLine) (hi:PE X i ty) (ho:PE X o td):PC X .NotIn i o (xF ty td):=by
 intro pins s σ H Q I h
 refine thn (hi pins s σ H _ I h) fun iv s1 ⟨y,H1,I1,ry,q1⟩=>thn (ho pins s1 σ H1 _ I1 q1) fun u s2 hZ1=>?_
 obtain ⟨x,H2,I2,rx,a,ov,ex,g,q2⟩:=hZ1
 subst ex
 obtain rfl:u=Value.ref a:=rx
 exact JL hu I2 g ry fun s3 I3=>⟨.bl (!ov.isSome),H2,I3,rfl,q2⟩
theorem Vv (hu:X.A.units + 1 < cLine) (ho:PE X o td) (hi:PE X i ty) (hv:PE X value tv) (hs:swapsWith value (some (.Subscript o i pos')) pos.line X.env=pure false) :
  PS X (.Assign [.Subscript o i pos'] value pos) (JO td ty tv):=by
 intro pins s σ H D I h
 refine wpAny_Assign_Subscript (thn (hv pins s σ H _ I h) fun r s1 ⟨v,H1,I1,rv,q1⟩=>thn (ho pins s1 σ H1 _ I1 q1) fun u s2 ⟨x,H2,I2,rx,q2⟩=>thn (hi pins s2 σ H2 _ I2 q2) fun iv s3 hZ1=>?_) hs
 obtain ⟨y,H3,I3,ry,a,H4,ex,g,q3⟩:=hZ1
 subst ex
 obtain rfl:u=Value.ref a:=rx
 exact mE hu I3 g ry rv fun s4 I4=>⟨σ,H4,I4,q3⟩
end
theorem fA {P:Program} {w:World} {H:Hp} (h:Heap) (hb:sysModules < h.objs.size):gd P w H (h.push { cls:=.type "dict",data:=.dict #[] }) h.objs.size (.dK []):=
 ⟨Nat.zero_le _,beq_eq_false_iff_ne.mpr (Ne.symm (Nat.ne_of_lt hb)),[],.nil,Heap.DictOf.new h⟩
noncomputable def qJ:TE:=fun _ H Q=>∀ p,H p=none→Q (.ref p) (upd H p (.dK []))
noncomputable def IO:TE:=fun _ H Q=>∀ p,H p=none→Q (.ref p) (upd H p (.dT []))
section
variable {X:Cx} {pos:Pos}
theorem Up:PE X (.Dict [] [] pos) qJ:=fun pins s σ H Q I h=>
 wpAny_Dict_empty ⟨.ref s.heap.objs.size,_,I.laid (a:=s.heap.objs.size) (o:=.dK []) (t':=s.toks) (fun _ _ q=>Heap.get?_push_of_some _ q) (Nat.le_refl _) (fA s.heap I.big),rfl,h _ (I.hok.fresh (Nat.le_refl _))⟩
end
noncomputable def Tw:List (TE × TE)→St→Hp→(List (V × V)→Hp→Prop)→Prop
 | [],_,H,Q=>Q [] H
 | (tk,tv) :: r,σ,H,Q=>tk σ H fun x H1=>tv σ H1 fun y H2=>Tw r σ H2 fun ps H3=>Q ((x,y) :: ps) H3
noncomputable abbrev VV:List (V × V)→List (Value × Value)→Prop:=Paired fun p q=>ud p.1 q.1∧ud p.2 q.2
noncomputable def PPs (X:Cx) (pos:Pos) (keys:List (Option Expr)) (values:List Expr) (trs:List (TE × TE)):Prop:=
 ∀ (pins:List (Addr × Obj)) (s:Shared) (σ:St) (H:Hp) (Q:List (V × V)→Hp→Prop),Inv X pins σ H s→Tw trs σ H Q →
  wpAny (model X.prog X.w) X.A (evalPairs (pairTrees keys values X.env pos)) (fun vs s'=>∃ ps H',Inv X pins σ H' s'∧VV ps vs∧Q ps H') X.xe s
theorem AL {X:Cx} {pos:Pos}:PPs X pos [] [] []:=fun pins s σ H Q I h=>pairTrees_nil_walk ⟨[],H,I,.nil,h⟩
theorem Su {X:Cx} {pos:Pos} {k v:Expr} {ks:List (Option Expr)} {vs:List Expr} {tk tv:TE} {trs:List (TE × TE)} (hk:PE X k tk) (hv:PE X v tv) (hr:PPs X pos ks vs trs) :
  PPs X pos (some k :: ks) (v :: vs) ((tk,tv) :: trs):=fun pins s σ H Q I h=>
 pairTrees_cons_walk (thn (hk pins s σ H _ I h) fun u s1 ⟨x,H1,I1,rx,q1⟩=>thn (hv pins s1 σ H1 _ I1 q1) fun w2 s2 ⟨y,H2,I2,ry,q2⟩=>
  thn (hr pins s2 σ H2 _ I2 q2) fun ws s3 ⟨ps,H3,I3,rel,q3⟩=>⟨(x,y) :: ps,H3,I3,.cons ⟨rx,ry⟩ rel,q3⟩)
noncomputable def Uj (kvs more:List (Key × V)):List (Key × V):=more.foldl (fun acc kv=>Cs acc kv.1 kv.2) kvs
theorem KV.merge:∀ {more:List (Key × V)} {rs:List (Key × Value)} {kvs:List (Key × V)} {vs:List (Key × Value)},KV more rs→KV kvs vs→KV (Uj kvs more) (merged vs rs):=by
 intro more rs kvs vs r
 unfold KV at r
 induction r generalizing kvs vs with
 | nil=>intro q;exact q
 | @cons p q ps qs h t ih=>
  intro r0
  have e:KV (Cs kvs p.1 p.2) (stored vs q.1 q.2):=by
   have:=r0.put p.1 h.2
   rw [← h.1];exact this
  exact ih e
theorem Mm:∀ (more kvs:List (Key × V)),(Uj kvs more).length ≤ kvs.length + more.length
 | [],kvs=>by show kvs.length ≤ kvs.length + 0;omega
 | p :: r,kvs=>by
  have h1:=Mm r (Cs kvs p.1 p.2)
  have h2:=Wl kvs p.1 p.2
  show (Uj (Cs kvs p.1 p.2) r).length ≤ _
  rw [List.length_cons];omega
theorem Iu {P:Program} {w:World}:∀ {kvs:List (Key × V)} {ws:List (Value × Value)},VV (kvs.map fun kv=>(kV kv.1,kv.2)) ws→∃ rs,Carries (Fe P w) ws rs∧KV kvs rs
 | [],_,r=>by rw [List.map_nil] at r;cases r;exact ⟨[],True.intro,.nil⟩
 | p :: kvs,_,r=>by
  rw [List.map_cons] at r
  cases r with
  | @cons a b as bs h t=>
   obtain ⟨rs,c,q⟩:=Iu (P:=P) (w:=w) t
   obtain ⟨b1,b2⟩:=b
   exact ⟨(p.1,b2) :: rs,⟨SF h.1,rfl,c⟩,.cons ⟨rfl,h.2⟩ q⟩
noncomputable def KO (trs:List (TE × TE)):TE:=fun σ H Q=>∀ p,H p=none→Tw trs σ (upd H p (.dK [])) fun ps H2=>H2 p=some (.dK [])∧∃ kvs:List (Key × V),ps=kvs.map (fun kv=>(kV kv.1,kv.2))∧kvs.length ≤ 15∧Q (.ref p) (upd H2 p (.dK (Uj [] kvs)))
theorem wK {X:Cx} {pos:Pos} {keys:List (Option Expr)} {values:List Expr} {trs:List (TE × TE)} (h:PPs X pos keys values trs) (hall:keys.all (·.isSome)=true) (hl:keys.length=values.length) (h0:keys ≠ [])
  (h15:keys.length ≤ 15):PE X (.Dict keys values pos) (KO trs):=by
 intro pins s σ H Q I q
 have hn:=I.hok.fresh (Nat.le_refl s.heap.objs.size)
 have I1:=I.laid (a:=s.heap.objs.size) (o:=.dK []) (h':=s.heap.push { cls:=.type "dict",data:=.dict #[] }) (t':=s.toks) (fun _ _ q=>Heap.get?_push_of_some _ q) (Nat.le_refl _) (fA s.heap I.big)
 refine wpAny_Dict_walk (knd:=Fe X.prog X.w) hall hl h0 h15 (thn (h pins _ σ _ _ I1 (q _ hn)) fun ws s2 hZ1=>?_)
 obtain ⟨ps,H2,I2,rel,e,kvs,ep,lk,q2⟩:=hZ1
 subst ep
 obtain ⟨rs,c,rk⟩:=Iu (P:=X.prog) (w:=X.w) rel
 obtain ⟨z,hd,vs0,r0,dd⟩:=WN I2.hok e
 cases r0
 refine ⟨rs,c,dd,fun h' dd' hs=>⟨.ref s.heap.objs.size,_,?_,rfl,q2⟩⟩
 have hz:(Uj [] kvs).length ≤ sizeLine:=by
  have h1:=Mm kvs []
  rw [List.length_nil] at h1
  rw [sizeLine_eq];omega
 have he:∃ q,h'.get? s.heap.objs.size=some q:=let ⟨q,_,_,hq,_⟩:=dd';⟨q,hq⟩
 exact Xy I2 (by rw [e];exact True.intro) hs he (qK hz hd (rk.merge .nil) dd')
structure M1 (X:Cx) (o:Expr) (m:Str) (apos:Pos) (e:Expr) (cpos:Pos):Prop where
 base:attributeBase o m X.env (eval o X.env)=eval o X.env
 few:((backTo cpos (starEach [e] X.env)).all (fun x=>!x.1) && (backToKw cpos (keywordEach [] X.env)).all (fun x=>x.1.isSome)
  && decide (([e]:List Expr).length + ([]:List Keyword).length + (if ([]:List Keyword).isEmpty then 0 else 1) < 30))=true
 line:(apos.endLine == cpos.line)=true
 trees:backTo cpos (starEach [e] X.env)=[(false,eval e X.env)]
structure M2 (X:Cx) (o:Expr) (m:Str) (apos:Pos) (e f:Expr) (cpos:Pos):Prop where
 base:attributeBase o m X.env (eval o X.env)=eval o X.env
 few:((backTo cpos (starEach [e,f] X.env)).all (fun x=>!x.1) && (backToKw cpos (keywordEach [] X.env)).all (fun x=>x.1.isSome)
  && decide (([e,f]:List Expr).length + ([]:List Keyword).length + (if ([]:List Keyword).isEmpty then 0 else 1) < 30))=true
 line:(apos.endLine == cpos.line)=true
 trees:backTo cpos (starEach [e,f] X.env)=[(false,eval e X.env),(false,eval f X.env)]
noncomputable def IsD (H:Hp) (a:Addr):Prop:=(∃ kvs,Rd H a (.dK kvs))∨∃ kvs,Rd H a (.dT kvs)
section
variable {X:Cx} {pins:List (Addr × Obj)} {σ:St} {H:Hp} {s:Shared} {a:Addr} {y d:V} {u r:Value} {o:Option V} {A:Around} {E:Value→Shared→Prop}
end
noncomputable def cP (td ty:TE):TE:=fun σ H Q=>td σ H fun x H1=>∃ a,x=.ref a∧IsD H1 a∧ty σ H1 fun y H2=>∃ o,zl H2 a y o∧Q (o.getD .non) H2
noncomputable def jO (td ty tx:TE):TE:=fun σ H Q=>td σ H fun x H1=>∃ a,x=.ref a∧IsD H1 a∧ty σ H1 fun y H2=>tx σ H2 fun z H3=>∃ o,zl H3 a y o∧Q (o.getD z) H3
noncomputable def zN (td ty:TE):TE:=fun σ H Q=>td σ H fun x H1=>∃ a,x=.ref a∧IsD H1 a∧ty σ H1 fun y H2=>∃ kvs k v,H2 a=some (.dK kvs)∧y=kV k∧vj kvs k=some v∧Q v (upd H2 a (.dK (Ax kvs k)))
noncomputable def JN (td ty tx:TE):TE:=fun σ H Q=>td σ H fun x H1=>∃ a,x=.ref a∧IsD H1 a∧ty σ H1 fun y H2=>tx σ H2 fun z H3=>∃ kvs k,H3 a=some (.dK kvs)∧y=kV k ∧
 (∀ v,vj kvs k=some v→Q v (upd H3 a (.dK (Ax kvs k))))∧(vj kvs k=none→Q z H3)
section
variable {X:Cx} {o e f:Expr} {apos cpos:Pos} {td ty tx:TE}
end
section
variable {X:Cx} {pins:List (Addr × Obj)} {σ:St} {H:Hp} {s:Shared} {a:Addr} {kvs:List (Key × V)} {A:Around} {E:Value→Shared→Prop}
end
section
variable {X:Cx} {pins:List (Addr × Obj)} {σ:St} {H:Hp} {s:Shared} {a:Addr} {y:V} {u:Value} {A:Around} {E:Value→Shared→Prop}
end
end L2
namespace Att
open PySem PySem.W PySem.Calls PyProof.Rows
theorem Rr {P:Params} {h:Heap}:∀ (ns:List Int) (vs:List Value),WellAll P h vs (ns.map WData.int)→IntsAre vs ns:=by
 intro ns
 induction ns with
 | nil=>
  intro vs w
  rw [List.map_nil] at w
  cases w
  exact .nil
 | cons n ns ih=>
  intro vs w
  rw [List.map_cons] at w
  cases w with
  | cons a b=>
   cases a
   exact .cons _ _ (ih _ b)
theorem RC {l:OpenLaw} {n:Nat} (hn:l.most=some n) {P:Params} {h:Heap} {args:List WData} {vals:List Value}
  (hpre:l.row.toRowW.claim.pre args=true) (hwl:WellAll P h vals args) :
  ∃ a vs ns,vals=[Value.ref a]∧args=[WData.list (ns.map WData.int)]∧h.get? a=some { cls:=.type "list",data:=.seq vs.toArray }∧IntsAre vs ns∧ns.length ≤ n:=by
 have hsh:WShape.hasAll [] args [.list .int]=true:=(pre_splitW hpre).1
 have hc:l.pre.holds [] { args:=args }=true:=(pre_splitW hpre).2
 obtain ⟨d,r,rfl,h1,h2⟩:=hasAllW_cons hsh
 obtain rfl:=hasAllW_nil h2
 obtain ⟨xs,rfl,h3⟩:=hasW_list h1
 obtain ⟨ns,rfl⟩:=items_int h3
 have hlen:ns.length ≤ n:=by
  unfold OpenLaw.pre at hc
  have h4:(WTm.not (.lt (.lit (.int (n:Int))) (.len (.arg 0)))).holds [] { args:=[.list (ns.map .int)] }=true:=by
   have h4:=(holds_andW hc).1
   rw [hn] at h4
   exact h4
  have h5:=condW_of h4 (w_not (w_lt w_lit (w_len_list (w_arg rfl))))
  rw [List.length_map] at h5
  refine Nat.le_of_not_lt fun q=>?_
  have q':(n:Int) < ((ns.length:Nat):Int):=by omega
  first
   | (rw [decide_eq_true q'] at h5;exact absurd h5 (by decide))
   | (simp at h5;omega)
 cases hwl with
 | cons w1 w2=>
  cases w2
  cases w1 with
  | list ho hall=>exact ⟨_,_,ns,rfl,rfl,ho,Rr ns _ hall,hlen⟩
theorem yE (l:OpenLaw) (args:List WData):l.row.toRowW.claim.post args (.bool true) args=true:=
 postW_of (r:=l.row.toRowW) (X:=(true == true))
  (show WShape.has [] (.bool true) .bool=true by first | rfl | decide | simp [WShape.has,WShape.arms,WShape.armsAll])
  (show (WTm.eq .res (.lit (.bool true))).value [] { args:=args,res:=some (.bool true),after:=args }=some (.bool (true == true)) from w_eq_bool (w_res rfl) w_lit) rfl
theorem attach_call {l:OpenLaw} {n:Nat} {q:Program} {loose:List Str} {XP:(Str→Option Value)→Heap→Prop} {YP:World→Heap→Prop} {d:DefRec}
  (hn:l.most=some n) (hdf:d.params.defaults=[])
  (call:∀ (w:World) (s₀ s₁:Shared) (mg mb:Str→Option Value) (fa:Addr) (o:Obj) (pm cd doc:Value) (a:Addr) (vs:List Value) (ns:List Int),
   Ground q loose [] XP w s₀ mg mb s₁.heap→YP w s₁.heap →
   s₁.heap.get? fa=some o→o.data=.func (docDef d.name d.params d.body d.scope pm cd doc)→s₁.heap.CodeRec cd d.name→mg d.name=some (.ref fa) →
   s₁.heap.get? a=some { cls:=.type "list",data:=.seq vs.toArray }→IntsAre vs ns→ns.length ≤ n→s₁.gens=#[] →
   codeAny (model l.prog w) callerA (.call (.ref fa) ⟨[.ref a],[]⟩) (fun r s'=>r=.ok (.ret (.bool true))∧OldK s₁.heap s'.heap∧s'.os=s₁.os∧AllBare s'.gens) s₁) :
  WalkO q loose XP YP l.row.toRowW d [] (fun f vs=>PySem.call f vs):=by
 intro w s₀ s₁ mg mb G Y fa o pm cd doc dV kV ho hd hcd hD hmg hg args vals as hpre hlay hrd hwl hlo
 obtain rfl:dV=.none:=Dflts.none hD hdf
 obtain rfl:kV=.none:=Dflts.noKw hD
 obtain ⟨a,vs,ns,rfl,rfl,hobj,hints,hlen⟩:=RC hn hpre hwl
 refine enter_call (codeAny_mono (call w s₀ s₁ mg mb fa o pm cd doc a vs ns G Y ho (fd_plain hd) hcd hmg hobj hints hlen hg) fun r s' hq=>?_)
 obtain ⟨rfl,h2,h3,h4⟩:=hq
 exact ⟨.inl ⟨.bool true,.bool true,[],rfl,fun _=>rfl,.bool true,yE l _,fun _=>⟨List.Pairwise.nil,fun _ hm=>(nomatch hm)⟩⟩,h2,h3,h4⟩
section
variable {prog:Program} {w:World} {A:Around} {E:Value→Shared→Prop} {s:Shared} {K:Frag}
end
end Att
namespace L2
open PySem PySem.Spec PyProof.Rows
theorem uw:∀ {vs:List Value} {ns:List Int},IntsAre vs ns→jd (ns.map V.int) vs
 | _,_,.nil=>.nil
 | _,_,.cons n t h=>.cons ⟨t,rfl⟩ (uw h)
end L2
namespace L2
open PySem PySem.Spec PyProof.Rows
noncomputable abbrev KOf {K:PySem.W.Frag} {h:Heap} (_:K.In h):PySem.W.Frag:=K
end L2
namespace L2
open PySem PySem.Spec PyProof.Rows
noncomputable def Fc (s:Stmt) (j:Nat):Stmt:=match s with
 | .ClassDef _ _ _ body _ _ _ _ _ _ _=>body.getD j (.Pass ⟨0,0,0,0⟩)
 | _=>.Pass ⟨0,0,0,0⟩
noncomputable def Yu (s:Stmt):Arguments:=match s with
 | .FunctionDef _ a _ _ _ _ _ _ _ _=>a
 | _=>{ posonlyargs:=[],args:=[],vararg:=none,kwonlyargs:=[],kw_defaults:=[],kwarg:=none,defaults:=[] }
noncomputable def Ij (s:Stmt):List Stmt:=match s with
 | .FunctionDef _ _ b _ _ _ _ _ _ _=>b
 | _=>[]
noncomputable def jb (s:Stmt):Scope:=match s with
 | .FunctionDef _ _ _ _ _ _ sc _ _ _=>sc
 | _=>{ kind:=.function,names:=[],isGenerator:=false,isCoroutine:=false }
noncomputable abbrev CX0:CXT:=fun _ _ _ _ _ _=>False
noncomputable abbrev E0:XK:=fun _ _ _=>False
theorem zb {X:Cx}:Aj CX0 X E0:=fun _ _ _ _ _ _ _ h=>h.elim
structure Fun (K:PySem.W.Frag) (x qual:Str) (st:Stmt) (f:Addr) (fd:FuncData):Prop where
 ex:∃ (oc:Value) (od:Option Addr) (kV doc pm:Value) (an:Option Addr) (cdv ct:Value) (osl:Array (Option Value)),
  fd=PySem.W.fnOf x qual (Yu st) (Ij st) (jb st) .none kV doc pm an cdv ct∧K.lookup f=some ⟨oc,od,.func fd,osl⟩∧PySem.W.codeIn K cdv qual=true
 kp:PySem.W.keepIn K (.ref f)=true
section
variable {P:Program} {w:World} {K:PySem.W.Frag} {mg:Str→Option Value} {base:Heap}
theorem Fun.ok {x qual:Str} {st:Stmt} {f:Addr} {fd:FuncData} {N ps:List Str} {k:Nat} {sp:Sp} (F:Fun K x qual st f fd) (S:xb N ps (jb st)) (len:∀ vs H Q E,sp vs H Q E→vs.length=ps.length)
  (hbody:∀ (cdv:Value) (A:Around) (outer:List Env) (s:Shared) (H:Hp) (vs:List V) (Q:VK) (E:XK),oh k (A.deeper (envOfC qual (jb st) s.heap.objs.size f cdv))→sp vs H Q E →
   ∃ t,PSs (vy CX0 P w K mg base N qual (jb st) f cdv A outer s H E).nox (Ij st) t∧t { nx:=fun _ H'=>Q .non H',rt:=Q } (start N vs) H):Eb P w K mg base CX0 (k + 1) f fd ps sp:=by
 obtain ⟨oc,od,kV,doc,pm,an,cdv,ct,osl,rfl,lk,hcd⟩:=F.ex
 refine yN lk hcd S len fun A outer s H vs Q E hr hsp=>?_
 obtain ⟨t,h,q⟩:=hbody cdv A outer s H vs Q E hr hsp
 exact ⟨t,h.nox,q⟩
theorem Fun.binds {x qual:Str} {st:Stmt} {f:Addr} {fd:FuncData} {ps:List Str} (F:Fun K x qual st f fd)
  (h:∀ (kV doc pm:Value) (an:Option Addr) (cdv ct:Value) (us:List Value),us.length=ps.length→bindArgs (PySem.W.fnOf x qual (Yu st) (Ij st) (jb st) .none kV doc pm an cdv ct) ⟨us,[]⟩=pure (ps.zip us)):Qb K fd ps []:=by
 obtain ⟨oc,od,kV,doc,pm,an,cdv,ct,osl,rfl,lk,hcd⟩:=F.ex
 exact .all (h kV doc pm an cdv ct)
theorem yO {x qual:Str} {st:Stmt} {f:Addr} {oc:Value} {od an:Option Addr} {osl:Array (Option Value)} {kV doc pm cdv ct:Value} (l:K.lookup f=some ⟨oc,od,.func (PySem.W.fnOf x qual (Yu st) (Ij st) (jb st) .none kV doc pm an cdv ct),osl⟩)
  (c:PySem.W.codeIn K cdv qual=true) (k:PySem.W.keepIn K (.ref f)=true):Fun K x qual st f (PySem.W.fnOf x qual (Yu st) (Ij st) (jb st) .none kV doc pm an cdv ct):=⟨⟨oc,od,kV,doc,pm,an,cdv,ct,osl,rfl,l,c⟩,k⟩
end
theorem uz {A:Around} {k:Nat} (hr:oh k A):A.units + 1 < cLine:=Nat.lt_of_le_of_lt (Nat.add_le_add_left (by decide:1 ≤ 64) _) hr.units
section
variable {X:Cx}
theorem pv (i:Nat) {x:Str} {pos:Pos} (hN:X.N[i]? = some x:=by rfl) (hv:Vis X.env.scope x:=by first | exact Or.inl rfl | exact Or.inr (Or.inl rfl) | exact Or.inr (Or.inr rfl)) (hd:(x == ("__debug__" : Str))=false:=by decide)
  (hcd:(x == ("__classdict__" : Str))=false:=by decide):PE X (.Name x pos) (eR i):=nP hN hv hd hcd
end
noncomputable def Zb (H H':Hp):Prop:=∀ b o,H b=some o→H' b=some o
theorem Zb.refl (H:Hp):Zb H H:=fun _ _ h=>h
theorem Zb.trans {H H1 H2:Hp} (a:Zb H H1) (b:Zb H1 H2):Zb H H2:=fun c o h=>b c o (a c o h)
theorem Zb.free {H H':Hp} (e:Zb H H') {l:Addr} (h:H' l=Option.none):H l=Option.none:=by
 cases q:H l with
 | none=>rfl
 | some o=>
  rw [e l o q] at h
  cases h
theorem Zb.seq {K:PySem.W.Frag} {H H':Hp} {a:Addr} {xs:List V} (e:Zb H H') (h:SqL K H a xs):SqL K H' a xs:=by
 rcases h with (h | ⟨o,h⟩) | h
 ·exact .inl (.inl (e _ _ h))
 ·exact .inl (.inr ⟨o,e _ _ h⟩)
 ·exact .inr h
section
variable {κ:Type} [DecidableEq κ]
end
end L2
set_option maxHeartbeats 4000000
namespace L2
open PySem PySem.Spec PyProof.Rows
noncomputable def jw (cells:List (Str × Addr)):List (Str × NameKind)→List (Str × Addr)→List (Str × Addr)
 | [],acc=>acc
 | (n,k) :: r,acc=>if k == .free then (match cells.lookup n with | some c=>jw cells r ((n,c) :: acc) | none=>jw cells r acc) else jw cells r acc
theorem bz {env:Env}:∀ (names:List (Str × NameKind)) (acc:List (Str × Addr)),(∀ y ∈ names,y.2=.free→∃ c,env.cells.lookup y.1=some c) →
  (forIn names acc (fun (x:Str × NameKind) (cs:List (Str × Addr))=>(if (x.2 == .free)=true then do let a ← cellOf env x.1;pure (ForInStep.yield ((x.1,a) :: cs)) else pure (ForInStep.yield cs):Sem (ForInStep (List (Str × Addr))))))=pure (jw env.cells names acc)
 | [],acc,_=>rfl
 | (n,k) :: r,acc,h=>by
  have hr:∀ y ∈ r,y.2=.free→∃ c,env.cells.lookup y.1=some c:=fun y hy=>h y (List.mem_cons_of_mem _ hy)
  rw [List.forIn_cons]
  by_cases hk:(k == NameKind.free)=true
  ·have e:k=.free:=by simpa using hk
   obtain ⟨c,hc⟩:=h (n,k) List.mem_cons_self e
   have hc':env.cells.lookup n=some c:=hc
   simp only [jw,hk,if_true,hc',cellOf]
   exact bz r _ hr
  ·simp only [jw,hk]
   exact bz r _ hr
theorem oE {scope:Scope} {env:Env} (h:∀ y ∈ scope.names,y.2=.free→∃ c,env.cells.lookup y.1=some c):closureFor scope env=pure (jw env.cells scope.names []):=by
 unfold closureFor
 exact congrArg (fun t=>t >>= pure) (bz scope.names [] h)
theorem Ip {cells:List (Str × Addr)}:∀ (names:List (Str × NameKind)) (acc:List (Str × Addr)) {x:Str} {c:Addr},(jw cells names acc).lookup x=some c→acc.lookup x=some c∨cells.lookup x=some c
 | [],acc,x,c,h=>.inl h
 | (n,k) :: r,acc,x,c,h=>by
  unfold jw at h
  split at h
  ·cases q:cells.lookup n with
   | none=>rw [q] at h;exact Ip r acc h
   | some d=>
    rw [q] at h
    rcases Ip r _ h with z | z
    ·rw [List.lookup_cons] at z
     by_cases hx:(x == n)=true
     ·rw [hx] at z
      have e:x=n:=by simpa using hx
      subst e
      right;rw [q];exact z
     ·have hx':(x == n)=false:=by simpa using hx
      rw [hx'] at z;exact .inl z
    ·exact .inr z
  ·exact Ip r acc h
theorem Cn {cells:List (Str × Addr)}:∀ (names:List (Str × NameKind)) (acc:List (Str × Addr)) {x:Str} {c:Addr},acc.lookup x=some c→cells.lookup x=some c→(jw cells names acc).lookup x=some c
 | [],acc,x,c,h,_=>h
 | (n,k) :: r,acc,x,c,h,hc=>by
  unfold jw
  split
  ·cases q:cells.lookup n with
   | none=>exact Cn r acc h hc
   | some d=>
    refine Cn r _ ?_ hc
    rw [List.lookup_cons]
    by_cases hx:(x == n)=true
    ·have e:x=n:=by simpa using hx
     subst e
     rw [hx];rw [q] at hc;exact hc
    ·have hx':(x == n)=false:=by simpa using hx
     rw [hx'];exact h
  ·exact Cn r acc h hc
theorem Km {cells:List (Str × Addr)}:∀ (names:List (Str × NameKind)) (acc:List (Str × Addr)) {x:Str} {c:Addr},(x,NameKind.free) ∈ names→cells.lookup x=some c→(jw cells names acc).lookup x=some c
 | [],_,_,_,h,_=>nomatch h
 | (n,k) :: r,acc,x,c,h,hc=>by
  rcases List.mem_cons.mp h with e | h
  ·cases e
   unfold jw
   rw [if_pos (by decide),hc]
   refine Cn r _ ?_ hc
   rw [List.lookup_cons];simp
  ·unfold jw
   split
   ·cases q:cells.lookup n with
    | none=>exact Km r acc h hc
    | some d=>exact Km r _ h hc
   ·exact Km r acc h hc
theorem Pn {α:Type}:∀ {l:List (Str × α)} {x:Str} {a:α},l.lookup x=some a→(x,a) ∈ l
 | [],_,_,h=>by simp at h
 | (n,b) :: r,x,a,h=>by
  rw [List.lookup_cons] at h
  by_cases hx:(x == n)=true
  ·have e:x=n:=by simpa using hx
   subst e
   rw [hx] at h
   have e2:b=a:=Option.some.inj h
   subst e2
   exact List.mem_cons_self
  ·have hx':(x == n)=false:=by simpa using hx
   rw [hx'] at h
   exact List.mem_cons_of_mem _ (Pn h)
theorem iz {env:Env} {scope:Scope} {x:Str} {k:NameKind} (h:(relabel scope env).names.lookup x=some k) (hk:k=.cell∨k=.free) (hc:∀ y ∈ scope.names,y.2 ≠ .cell):(x,NameKind.free) ∈ scope.names:=by
 have h1:=Pn h
 obtain ⟨⟨n,j⟩,hm,e⟩:=List.mem_map.mp h1
 have e':(if (j == NameKind.free && env.scope.kind == .function && env.kindOf n == some .cell)=true then (n,NameKind.cell) else (n,j))=(x,k):=e
 split at e'
 ·rename_i hcond
  have e1:n=x:=(Prod.mk.inj e').1
  subst e1
  have hj:j=.free:=by
   simp only [Bool.and_eq_true] at hcond
   simpa using hcond.1.1
  subst hj
  exact hm
 ·have e1:n=x:=(Prod.mk.inj e').1
  have e2:j=k:=(Prod.mk.inj e').2
  subst e1;subst e2
  rcases hk with z | z
  ·exact absurd z (hc _ hm)
  ·subst z;exact hm
theorem Xl {env:Env} {scope:Scope} {x:Str} (h:scope.names.lookup x=some .free):(relabel scope env).names.lookup x=some .cell∨(relabel scope env).names.lookup x=some .free:=by
 have all:∀ (names:List (Str × NameKind)),names.lookup x=some .free →
   (names.map fun (n,k)=>if (k == NameKind.free && env.scope.kind == .function && env.kindOf n == some .cell) then (n,NameKind.cell) else (n,k)).lookup x=some .cell ∨
   (names.map fun (n,k)=>if (k == NameKind.free && env.scope.kind == .function && env.kindOf n == some .cell) then (n,NameKind.cell) else (n,k)).lookup x=some .free:=by
  intro names
  induction names with
  | nil=>intro h;simp at h
  | cons p r ih=>
   obtain ⟨n,k⟩:=p
   intro h
   rw [List.map_cons]
   by_cases hx:(x == n)=true
   ·simp only [List.lookup_cons,hx] at h
    have hk:k=.free:=Option.some.inj h
    subst hk
    by_cases hc:(NameKind.free == NameKind.free && env.scope.kind == .function && env.kindOf n == some .cell)=true
    ·left;simp only [if_pos hc,List.lookup_cons,hx]
    ·right;simp only [if_neg hc,List.lookup_cons,hx]
   ·have hx':(x == n)=false:=by simpa using hx
    simp only [List.lookup_cons,hx'] at h
    by_cases hc:(k == NameKind.free && env.scope.kind == .function && env.kindOf n == some .cell)=true
    ·simp only [if_pos hc,List.lookup_cons,hx'];exact ih h
    ·simp only [if_neg hc,List.lookup_cons,hx'];exact ih h
 exact all scope.names h
noncomputable abbrev Cx.block (X:Cx) (scope:Scope) (C:Addr) (N:List Str) (s:Shared) (H:Hp) (fp:List Addr):Cx where
 prog:=X.prog
 w:=X.w
 K:=X.K
 mg:=X.mg
 base:=X.base
 A:=X.A
 N:=N
 s₀:=s
 H₀:=H
 env:=compEnvC scope (jw X.env.cells scope.names []) C X.env
 outer:=X.stack
 stack:=X.stack
 ex:=fp
 fn:=fun _=>false
 calm:=X.calm
 pn:=[]
 xe:=fun _ _=>False
structure No (env:Env) (scope:Scope):Prop where
 kind:scope.kind=.function
 nocell:∀ y ∈ scope.names,y.2 ≠ .cell
 fr:∀ y ∈ scope.names,y.2=.free→env.kindOf y.1=some .cell∨env.kindOf y.1=some .free
 loc:∀ x ∈ scope.names,x.2=.local→scope.names.lookup x.1=some .local
noncomputable def blk (sel:List (Option Nat)) (σ:St):St:=sel.map fun o=>o.bind fun j=>(σ[j]?).join
noncomputable def kE (M:List Str) (scope:Scope) (N:List Str) (sel:List (Option Nat)):Prop:=
 sel.length=N.length∧∀ (i j:Nat) (x:Str),sel[i]? = some (some j)→N[i]? = some x→M[j]? = some x∧scope.names.lookup x=some .free
section
variable {X:Cx} {pins:List (Addr × Obj)} {σ:St} {H:Hp} {s:Shared} {scope:Scope} {fp:List Addr} {C:Addr} {N:List Str}
theorem No.cells (S:No X.env scope) (ok:X.Ok):∀ y ∈ scope.names,y.2=.free→∃ c,X.env.cells.lookup y.1=some c:=fun y hy e=>ok.has y.1 (S.fr y hy e)
theorem Ut {x:Str} {c:Addr} (h:(jw X.env.cells scope.names []).lookup x=some c):X.env.cells.lookup x=some c:=by
 rcases Ip _ _ h with z | z
 ·simp at z
 ·exact z
theorem Uz (I:Inv X pins σ H s) (S:No X.env scope) (hf:∀ b ∈ fp,Ox X pins H b) (hs:∀ b ∈ fp,b < s.heap.objs.size) (hC:s.heap.objs.size ≤ C):(X.block scope C N s H fp).Ok where
 mod:=I.ok.mod
 kind:=S.kind
 glob:=I.ok.glob
 blt:=I.ok.blt
 above:=hC
 inj:=fun x y c h1 h2=>I.ok.inj x y c (Ut h1) (Ut h2)
 has:=fun x h=>by
  have hk:∃ k,(relabel scope X.env).names.lookup x=some k∧(k=.cell∨k=.free):=by
   rcases h with h | h
   ·exact ⟨_,h,.inl rfl⟩
   ·exact ⟨_,h,.inr rfl⟩
  obtain ⟨k,h1,h2⟩:=hk
  have hm:=iz h1 h2 S.nocell
  obtain ⟨c,hc⟩:=S.cells I.ok _ hm rfl
  exact ⟨c,Km _ _ hm hc⟩
 cab:=fun _ _ h _=>nomatch h
 hd:=I.ok.hd
 frames:=I.ok.frames
 stk:=.inl rfl
 exf:=fun b hb=>⟨Nat.ne_of_lt (Nat.lt_of_lt_of_le (hs b hb) hC),fun x c e=>(hf b hb).2.2.2.2.1 x c (Ut e)⟩
 bs:=I.bs
 bsz:=Nat.le_trans I.ok.bsz I.sz
 noex:=fun b o e hb=>by
  rcases (hf b hb).2.2.2.1 with z | z
  ·exact I.ok.noex b o e z
  ·exact absurd (Nat.lt_of_lt_of_le (Nat.lt_of_lt_of_le (Heap.lt_size e) I.ok.bsz) z) (Nat.lt_irrefl _)
 exfs:=fun b hb hz=>by
  rcases List.mem_cons.mp (I.stkSub b hz) with z | z
  ·exact (hf b hb).2.1 z
  ·exact (hf b hb).2.2.1 z
 funs:=I.stack
 frf:=I.stkFree
theorem OC {h':Heap} {t':Nat} {m:Str→Option Value} {sel:List (Option Nat)} (I:Inv X pins σ H s) (S:No X.env scope) (hf:∀ b ∈ fp,Ox X pins H b) (hs:∀ b ∈ fp,b < s.heap.objs.size) (hC:s.heap.objs.size ≤ C)
  (k:∀ b o,s.heap.get? b=some o→h'.get? b=some o) (hn:h'.Ns C m) (hsel:kE X.N scope N sel):Inv (X.block scope C N s H fp) [] (blk sel σ) H { s with heap:=h',toks:=t' } where
 ok:=Uz I S hf hs hC
 os:=rfl
 bare:=I.bare
 base:=Un.kept k
 loc:=by
  refine ⟨m,hn,fun i x v e1 e2 e3=>?_⟩
  obtain ⟨m0,hn0,hl⟩:=I.loc
  obtain ⟨j,ej,eσ⟩:∃ j,sel[i]? = some (some j)∧σ[j]? = some (some v):=by
   unfold blk at e2
   rw [List.getElem?_map] at e2
   cases q:sel[i]? with
   | none=>rw [q] at e2;cases e2
   | some o=>
    rw [q] at e2
    cases o with
    | none=>cases e2
    | some j=>
     refine ⟨j,rfl,?_⟩
     have e2':(σ[j]?).join=some v:=Option.some.inj e2
     cases r:σ[j]? with
     | none=>rw [r] at e2';cases e2'
     | some z=>rw [r] at e2';exact congrArg some e2'
  obtain ⟨eN,hfr⟩:=hsel.2 i j x ej e1
  have hm:=Pn hfr
  have hk:=S.fr _ hm rfl
  have hv:Vis X.env.scope x:=hk.elim (fun z=>.inr (.inl z)) fun z=>.inr (.inr z)
  obtain ⟨u,r,l⟩:=hl j x v eN eσ hv
  refine ⟨u,r,?_⟩
  rcases l with ⟨hloc,_⟩ | ⟨_,c,hc,hcell⟩
  ·rcases hk with z | z <;> (have z':X.env.kindOf x=_:=z;rw [hloc] at z';cases z')
  ·refine .inr ⟨?_,c,Km _ _ hm hc,?_⟩
   ·exact Xl hfr
   ·obtain ⟨o,ho,hd⟩:=hcell
    exact ⟨o,k _ _ ho,hd⟩
 cell:=fun x c e=>by
  obtain ⟨v,o,ho,hd⟩:=I.cell x c (Ut e)
  exact ⟨v,o,k _ _ ho,hd⟩
 free:=I.hok.fresh hC
 freeC:=fun x c e=>I.freeC x c (Ut e)
 pin:=fun p hp=>nomatch hp
 hok:=I.hok.kept k
 len:=by unfold blk;rw [List.length_map];exact hsel.1
theorem Inv.adopt {a:Addr} {o:HO} (I:Inv X pins σ H s) (fo:Ox X pins H a) (new:gd X.prog X.w (upd H a o) s.heap a o):Inv X pins σ (upd H a o) s:=by
 obtain ⟨hn,hL,hfs,hex,hcl,hpn⟩:=fo
 refine I.step (g':=s.gens) (d':=s.drawn) (t':=s.toks) (h':=s.heap) (ch:=[a]) (fun b hb=>?_) (fun b o _ _ _ e _=>e) (fun b o _ _ _ e _=>⟨o.slots,e⟩) (fun b o hb e n=>?_) (fun b o _ e=>⟨o,e⟩)
  (fun b xs e=>?_) (fun b o u e=>?_) (fun b ps e=>⟨#[],?_⟩) (fun m hm=>hm) (fun b u e=>?_) I.bare
 ·have e:b=a:=by simpa using hb
  subst e
  exact ⟨hex,hL,hcl,hpn⟩
 ·rw [pb (fun z=>hb (by simp [z]))];exact n
 ·rw [pb (ub e hn)];exact e
 ·rw [pb (ub e hn)];exact e
 ·rw [pb (ub e hn),e];simp
 ·by_cases hb:b=a
  ·subst hb;rw [fb] at e;cases e;exact new
  ·rw [pb hb] at e
   exact (I.hok b u e).stay (fun c v _ q=>q) (fun c q=>by rw [pb (ub q hn)];exact q) fun c xs q=>by rw [pb (ub q hn)];exact q
end
theorem Vk {prog:Program} {w:World} {A:Around} {R:Result→Shared→Prop} {s:Shared} {elt target iter:Expr} {ifs:List Expr} {scope:Scope} {pos:Pos} {it acc:Value} {env:Env} (I:Nat→Shared→Prop)
  (turn:∀ n s,I n s→wpAny (model prog w) A (pyNext it) (fun r s₁=>match r with
   | none=>R (.ok .next) s₁
   | some v=>wpAny (model prog w) A (letOwnedTupleGo target it v) (fun _ s₀=>wpAny (model prog w) A (assign target env v) (fun _ s₂=>
     wpAny (model prog w) A (forIn ifs true fun c r=>if r=true then do let ok ← isTrue c env (eval c env);pure (ForInStep.yield ok) else pure (ForInStep.yield r)) (fun ok s₃=>
      if ok=true then wpAny (model prog w) A (eval elt env) (fun x s₄=>
       wpAny (model prog w) A (call (.builtin "list.append") [acc,x]) (fun _ s₅=>∃ m,m < n∧I m s₅) (fun _ _=>False) s₄) (fun _ _=>False) s₃
      else ∃ m,m < n∧I m s₃) (fun _ _=>False) s₂) (fun _ _=>False) s₀) (fun _ _=>False) s₁) (fun _ _=>False) s)
  (n:Nat) (h:I n s) :
  codeAny (model prog w) A (.compLoop (.ListComp elt [⟨target,iter,ifs,0⟩] scope pos) 0 it acc env) R s:=by
 refine codeAny_loop rfl I (fun n s hI=>?_) n h
 show wpAny _ A ((compTurn (.ListComp elt [⟨target,iter,ifs,0⟩] scope pos) 0 it acc env).onRaise (fun x=>do noteFrame x env;theTreesLotGoes x)) _ _ s
 refine wpAny_noted (wpAny_noRaise ?_)
 rw [compTurn_list]
 refine wpAny_bind (wpAny_standAt (wpAny_bind (wpAny_mono (turn n s hI) (fun r s₁ h₁=>?_) fun _ _ h'=>h')))
 cases r with
 | none=>exact wpAny_pure h₁
 | some v=>
  refine wpAny_bind (wpAny_mono h₁ (fun _ s₀ h₀=>?_) fun _ _ h'=>h')
  refine wpAny_bind (wpAny_mono h₀ (fun _ s₂ h₂=>wpAny_bind (wpAny_mono h₂ (fun ok s₃ h₃=>?_) fun _ _ h'=>h')) fun _ _ h'=>h')
  cases ok with
  | false=>exact wpAny_pure ⟨rfl,h₃⟩
  | true=>
   exact wpAny_bind (wpAny_bind (wpAny_mono h₃ (fun x s₄ h₄=>wpAny_bind (wpAny_mono h₄ (fun _ s₅ h₅=>wpAny_pure (wpAny_pure ⟨rfl,h₅⟩)) fun _ _ h'=>h')) fun _ _ h'=>h'))
noncomputable def PTs (X:Cx) (ifs:List Expr) (t:TT):Prop:=
 ∀ (pins:List (Addr × Obj)) (s:Shared) (σ:St) (H:Hp) (Q:Bool→Hp→Prop),Inv X pins σ H s→t σ H Q →
  wpAny (model X.prog X.w) X.A (forIn ifs true fun c r=>if r=true then do let ok ← isTrue c X.env (eval c X.env);pure (ForInStep.yield ok) else pure (ForInStep.yield r)) (TP X pins σ Q) X.xe s
noncomputable def Qy:TT:=fun _ H Q=>Q true H
theorem Tg {X:Cx}:PTs X [] Qy:=fun _ _ _ H _ I h=>wpAny_tests_nil ⟨H,I,h⟩
theorem OF {X:Cx} {c:Expr} {t:TT} (h:PT X c t):PTs X [c] t:=fun pins s σ H Q I q=>wpAny_tests_one (h pins s σ H Q I q)
noncomputable def Sub (σ σ':St):Prop:=σ'.length=σ.length∧∀ (i:Nat) (v:V),σ[i]? = some (some v)→σ'[i]? = some (some v)
theorem Sub.refl (σ:St):Sub σ σ:=⟨rfl,fun _ _ h=>h⟩
theorem Sub.set {σ σ':St} {i:Nat} {x:Option V} (h:Sub σ σ') (e:σ[i]? = some none):Sub σ (σ'.set i x):=by
 refine ⟨by rw [List.length_set];exact h.1,fun j v q=>?_⟩
 have hj:i ≠ j:=fun z=>by subst z;rw [e] at q;cases q
 rw [List.getElem?_set_ne hj]
 exact h.2 j v q
noncomputable def Xw (J:It) (g:TG) (tc:TT) (te:TE) (σb:St) (Q:VK) (W:Nat→Nat→List V→Hp→Prop):Prop:=∀ i m ys H,W i m ys H →
 (J.stop i H∧∀ p,H p=none→Q (.ref p) (upd H p (.lst ys))) ∨
 (J.go i H∧ys.length < sizeLine∧∀ x H',J.yld i H x H'→g x σb H' fun σ2 H2=>Sub σb σ2∧tc σ2 H2 fun c H3=>if c=true then te σ2 H3 fun y H4=>∃ m',m' < m∧W (i + 1) m' (ys ++ [y]) H4 else ∃ m',m' < m∧W (i + 1) m' ys H3)
noncomputable def JM (wi:TI) (g:TG) (tc:TT) (te:TE) (sel:List (Option Nat)):TE:=fun σ H Q=>wi σ H fun J H1=>∃ W:Nat→Nat→List V→Hp→Prop,(∃ m,W 0 m [] H1)∧Xw J g tc te (blk sel σ) Q W
section
variable {X:Cx} {elt tg iter:Expr} {ifs:List Expr} {scope:Scope} {pos:Pos} {wi:TI} {g:TG} {tc:TT} {te:TE} {N:List Str} {sel:List (Option Nat)}
structure Blk (X:Cx) (scope:Scope) (N:List Str) (tg elt:Expr) (ifs:List Expr) (g:TG) (tc:TT) (te:TE):Prop where
 tgt:∀ C s H fp,PG (X.block scope C N s H fp) tg g
 tests:∀ C s H fp,PTs (X.block scope C N s H fp) ifs tc
 elem:∀ C s H fp,PE (X.block scope C N s H fp) elt te
theorem Blk.of {X:Cx} {scope:Scope} {N:List Str} {tg elt:Expr} {ifs:List Expr} {g:TG} {tc:TT} {te:TE} (h1:∀ C s H fp,PG (X.block scope C N s H fp) tg g)
  (h2:∀ C s H fp,∃ t,PTs (X.block scope C N s H fp) ifs t∧t=tc) (h3:∀ C s H fp,∃ t,PE (X.block scope C N s H fp) elt t∧t=te):Blk X scope N tg elt ifs g tc te:=
 ⟨h1,fun C s H fp=>by obtain ⟨t,h,rfl⟩:=h2 C s H fp;exact h,fun C s H fp=>by obtain ⟨t,h,rfl⟩:=h3 C s H fp;exact h⟩
theorem Ow {pins:List (Addr × Obj)} {s₂:Shared} {σ:St} {H₂:Hp} {Q:VK} {it:Addr} {fp:List Addr} {tn:Nat→Heap→Prop} {J:It} {W:Nat→Nat→List V→Hp→Prop} {E:Value→Shared→Prop} {RR:Value→Addr→Result→Shared→Prop}
  (hc:X.calm=true) (S:No X.env scope) (hsel:kE X.N scope N sel) (B:Blk X scope N tg elt ifs g tc te) (I2:Inv X pins σ H₂ s₂) (T:iJ X.prog X.w X.K tg J fp it tn) (st2:tn 0 s₂.heap) (f2:∀ b ∈ fp,Ox X pins H₂ b)
  (w0:∃ m,W 0 m [] H₂) (hW:Xw J g tc te (blk sel σ) Q W)
  (fin:∀ D C ys H' s',Inv X pins σ (upd H' D (.lst ys)) s'→(∃ m,s'.heap.Ns C m)→Ox X pins (upd H' D (.lst ys)) C→Q (.ref D) (upd H' D (.lst ys))→RR (.ref D) C (.ok .next) s') :
  wpAny (model X.prog X.w) X.A (newList []) (fun acc s₃=>wpAny (model X.prog X.w) X.A (newFunctionEnv scope X.env.globals (jw X.env.cells scope.names []) [] X.env.qual none .none (some X.env)) (fun cenv s₄=>
   codeAny (model X.prog X.w) X.A (.compStart (.ListComp elt [⟨tg,iter,ifs,0⟩] scope pos) 0 (.ref it) acc { cenv with scope:=relabel scope X.env }) (RR acc cenv.locals) s₄) E s₃) E s₂:=by
 refine wpAny_newObj_type (wpAny_newFunctionEnv S.nocell (by intro y hy;simp at hy) (fun h₁ hns₁ hsb₁=>?_) S.kind)
 dsimp only at hns₁ hsb₁ ⊢
 generalize hH2:s₂.heap.push { cls:=.type "list",dict:=none,data:=.seq ([]:List Value).toArray }=H2 at hns₁ hsb₁ ⊢
 have hC:H2.objs.size=s₂.heap.objs.size + 1:=by rw [← hH2,Heap.size_push]
 have hDC:s₂.heap.objs.size ≠ H2.objs.size:=by rw [hC];exact Nat.ne_of_lt (Nat.lt_succ_self _)
 have hCle:s₂.heap.objs.size ≤ H2.objs.size:=by rw [hC];exact Nat.le_succ _
 have below:∀ b,b < s₂.heap.objs.size→b ≠ H2.objs.size∧b ≠ s₂.heap.objs.size:=fun b hb=>⟨by rw [hC];exact Nat.ne_of_lt (Nat.lt_succ_of_lt hb),Nat.ne_of_lt hb⟩
 have old:∀ b o,s₂.heap.get? b=some o→h₁.get? b=some o:=fun b o e=>hsb₁.extBut b o (below b (Heap.lt_size e)).1 (Heap.get?_push_of_some _ (hH2 ▸ Heap.get?_push_of_some _ e))
 have hacc:h₁.get? s₂.heap.objs.size=some { cls:=.type "list",data:=.seq ([]:List Value).toArray }:=hsb₁.extBut _ _ hDC (Heap.get?_push_of_some _ (hH2 ▸ Heap.get?_push_size _ rfl))
 have fps:∀ b ∈ fp,b < s₂.heap.objs.size:=fun b hb=>by
  obtain ⟨o,e,_⟩:=T.obj _ _ st2 b hb
  exact Heap.lt_size e
 generalize hCe:H2.objs.size=C at *
 generalize hDe:s₂.heap.objs.size=D at *
 have st1:tn 0 h₁:=T.keep _ _ _ st2 fun b _ o e=>old b o e
 have IB0:Inv (X.block scope C N s₂ H₂ fp) [] (blk sel σ) H₂ { s₂ with heap:=h₁,toks:=s₂.toks + ([]:List (Str × Value)).length }:=
  OC I2 S f2 (fun b hb=>by rw [hDe];exact fps b hb) (by rw [hDe];exact hCle) old hns₁ hsel
 have hDfs:D ∉ (X.block scope C N s₂ H₂ fp).fs:=fun z=>by
  have z':=I2.stkSub D z
  rcases List.mem_cons.mp z' with e | e
  ·exact absurd I2.lt (by rw [← e,hDe];exact Nat.lt_irrefl _)
  ·exact I2.nofs (by rw [hDe];exact Nat.le_refl _) e
 have loop:∀ s₃:Shared,s₃ = { s₂ with heap:=h₁,toks:=s₂.toks + ([]:List (Str × Value)).length } →
   codeAny (model X.prog X.w) X.A (.compLoop (.ListComp elt [⟨tg,iter,ifs,0⟩] scope pos) 0 (.ref it) (.ref D) (compEnvC scope (jw X.env.cells scope.names []) C X.env)) (RR (.ref D) C) s₃:=by
  rintro s₃ rfl
  obtain ⟨m0,w0⟩:=w0
  refine Vk (fun k s'=>∃ i ys us n H',Inv (X.block scope C N s₂ H₂ fp) [(D,{ cls:=.type "list",data:=.seq us n })] (blk sel σ) H' s'∧(∃ vs:List Value,us=vs.toArray∧jd ys vs)∧ys.length ≤ sizeLine∧tn i s'.heap∧(∀ b ∈ fp,H' b=none)∧W i k ys H') ?_ m0
   ⟨0,[],_,0,H₂,IB0.pins_of fun p hp=>?_,⟨[],rfl,.nil⟩,Nat.zero_le _,st1,fun b hb=>(f2 b hb).1,w0⟩
  ·rintro k s' ⟨i,ys,us,n,H',IB,⟨vs,rfl,rv⟩,hyz,st,fr,w⟩
   have fpB:∀ {pl:List (Addr × Obj)} {H'':Hp},(∀ p ∈ pl,p.1=D)→(∀ b ∈ fp,H'' b=none)→∀ b ∈ fp,Ox (X.block scope C N s₂ H₂ fp) pl H'' b:=fun {pl H''} hp hn b hb=>
    ⟨hn b hb,(below b (fps b hb)).1,(Uz (N:=N) (C:=C) I2 S f2 (fun b hb=>by rw [hDe];exact fps b hb) (by rw [hDe];exact hCle)).exfs b hb,.inl hb,fun x c e=>(f2 b hb).2.2.2.2.1 x c (Ut e),fun p hpp z=>by
     have hpp':p ∈ pl:=by simpa using hpp
     exact (below b (fps b hb)).2 (by rw [← z];exact hp p hpp')⟩
   have hD1:∀ p ∈ [((D,{ cls:=.type "list",data:=.seq vs.toArray n }):Addr × Obj)],p.1=D:=fun p hp=>by
    have e:p=(D,{ cls:=.type "list",data:=.seq vs.toArray n }):=by simpa using hp
    rw [e]
   rcases hW i k ys H' w with ⟨stop,qn⟩ | ⟨go,hlen,step⟩
   ·refine thn (T.done (X.block scope C N s₂ H₂ fp) rfl rfl rfl hc i _ s' _ H' _ IB (fpB hD1 fr) st stop) fun r s4 hZ1=>?_
    obtain ⟨hr,I4⟩:=hZ1
    subst hr
    -- the block is left
    have pD:=I4.pin (D,{ cls:=.type "list",data:=.seq vs.toArray n }) (by simp)
    have hDn:H' D=none:=pD.2.1
    have IX:Inv X pins σ H' s4:=I2.call' (ch:=fp) I4.os I4.base I4.hok I4.bare fun b hb=>⟨(f2 b hb).2.2.2.1,(f2 b hb).2.1,(f2 b hb).2.2.2.2.1,(f2 b hb).2.2.2.2.2⟩
    have foD:Ox X pins H' D:=I2.fpOk (by rw [hDe];exact Nat.le_refl _) hDn
    have IA:Inv X pins σ (upd H' D (.lst ys)) s4:=IX.adopt foD ⟨hyz,vs,n,rv,pD.1⟩
    obtain ⟨mC,hnC,_⟩:=I4.loc
    refine fin D C ys H' s4 IA ⟨mC,hnC⟩ (I2.fpOk (by rw [hDe];exact hCle) ?_) (qn D hDn)
    rw [pb (Ne.symm hDC)]
    exact I4.free
   ·refine thn (T.item (X.block scope C N s₂ H₂ fp) rfl rfl rfl hc i _ s' _ H' _ IB (fpB hD1 fr) st go) fun r s4 hZ1=>?_
    obtain ⟨u,hr,h4⟩:=hZ1
    subst hr
    refine thn h4 fun _ s5 hZ1=>?_
    obtain ⟨x,H5,I5,r5,y5,st5,fr5⟩:=hZ1
    have I5':=I5.pinned (fpB hD1 fr5) (T.obj _ _ st5)
    refine thn (B.tgt C s₂ H₂ fp _ s5 _ H5 x u _ I5' r5 (step x H5 y5)) fun _ s6 hZ1=>?_
    obtain ⟨σ6,H6,I6,sb,q6⟩:=hZ1
    refine thn (B.tests C s₂ H₂ fp _ s6 σ6 H6 _ I6 q6) fun c s7 hZ1=>?_
    obtain ⟨H7,I7,q7⟩:=hZ1
    have again:∀ {σ8:St} {H8:Hp} {s8:Shared},Inv (X.block scope C N s₂ H₂ fp) ([(D,{ cls:=.type "list",data:=.seq vs.toArray n })] ++ Px fp s5.heap) σ8 H8 s8→tn (i + 1) s8.heap∧(∀ b ∈ fp,H8 b=none):=fun {σ8 H8 s8} I8=>by
     refine ⟨T.keep _ _ _ st5 fun b hb o e=>(I8.pin (b,o) (List.mem_append_right _ (List.mem_append_right _ (Sk hb e)))).1,fun b hb=>?_⟩
     obtain ⟨o,e,d⟩:=T.obj _ _ st5 b hb
     exact (I8.pin (b,o) (List.mem_append_right _ (List.mem_append_right _ (Sk hb e)))).2.1
    have back:∀ {H8:Hp} {s8:Shared} {pl:List (Addr × Obj)},Inv (X.block scope C N s₂ H₂ fp) pl σ6 H8 s8→Inv (X.block scope C N s₂ H₂ fp) pl (blk sel σ) H8 s8:=fun {H8 s8 pl} I8=>I8.weak sb.1.symm sb.2
    cases c with
    | false=>
     obtain ⟨m',hm,w'⟩:=q7
     obtain ⟨t1,t2⟩:=again I7
     exact ⟨m',hm,i + 1,ys,_,n,H7,back I7.unpinned,⟨vs,rfl,rv⟩,hyz,t1,t2,w'⟩
    | true=>
     refine thn (B.elem C s₂ H₂ fp _ s7 σ6 H7 _ I7 q7) fun v s8 hZ1=>?_
     obtain ⟨y,H8,I8,r8,m',hm,w'⟩:=hZ1
     obtain ⟨t1,t2⟩:=again I8
     have pD:=I8.pin (D,{ cls:=.type "list",data:=.seq vs.toArray n }) (by simp)
     refine append_at (hsz:=by have:=rv.length;rw [List.size_toArray];omega) pD.1 fun h9 hs9 hD9=>?_
     have IB':Inv (X.block scope C N s₂ H₂ fp) [] (blk sel σ) H8 s8:=(back I8).pins_of fun p hp=>nomatch hp
     have foD:Ox (X.block scope C N s₂ H₂ fp) [] H8 D:=⟨pD.2.1,hDC,hDfs,.inr (by show s₂.heap.objs.size ≤ D;rw [hDe];exact Nat.le_refl _),(fun x c e z=>by
      obtain ⟨cv,o,ho,hd⟩:=I8.cell x c e
      rw [z,pD.1] at ho
      cases ho
      cases hd),(fun p hp=>nomatch hp)⟩
     have I9:Inv (X.block scope C N s₂ H₂ fp) [] (blk sel σ) H8 { s8 with heap:=h9 }:=IB'.turned (t':=s8.toks) (it:=D) (fun b o hb e=>(hs9.2 b hb).trans e) foD.1 foD.2.1 foD.2.2.2.1 foD.2.2.2.2.1 foD.2.2.2.2.2
     refine ⟨m',hm,i + 1,ys ++ [y],vs.toArray.push v,n + 1,H8,I9.pins_of fun p hp=>?_,⟨vs ++ [v],by simp,Paired.snoc rv r8⟩,by rw [List.length_append,List.length_singleton];omega,T.keep _ _ _ t1 fun b hb o e=>(hs9.2 b (below b (fps b hb)).2).trans e,t2,w'⟩
     have e:p=(D,{ cls:=.type "list",data:=.seq (vs.toArray.push v) (n + 1) }):=by simpa using hp
     subst e
     exact ⟨hD9,pD.2.1,hDC,hDfs,fun v z=>by cases z⟩
  ·have e:p=(D,{ cls:=.type "list",data:=.seq ([]:List Value).toArray }):=by simpa using hp
   subst e
   exact ⟨hacc,I2.hok.fresh (by rw [hDe];exact Nat.le_refl _),hDC,hDfs,fun v z=>by cases z⟩
 exact codeAny_compStart_list (loop _ rfl) (T.self _ 0 _ _ _ st1 (loop _ rfl))
theorem jk (hc:X.calm=true) (hi:PI X tg iter wi) (S:No X.env scope) (hsel:kE X.N scope N sel) (B:Blk X scope N tg elt ifs g tc te)
  (hs:∀ x,foldedSetIterable iter X.env x=pure x:=by intro _;rfl):PE X (.ListComp elt [⟨tg,iter,ifs,0⟩] scope pos) (JM wi g tc te sel):=by
 intro pins s σ H Q I h
 rw [eval_ListComp]
 refine wpAny_comprehension_free (use:=none) rfl hs (oE (S.cells I.ok)) S.kind S.loc ?_
 refine thn (hi pins s σ H _ I h) fun v s1 h1=>thn h1 fun itv s2 h2=>?_
 obtain ⟨it,fp,tn,J,H2,e,I2,T,st2,f2,W,w0,hW⟩:=h2
 subst e
 refine Ow (RR:=fun acc C=>compPost (model X.prog X.w) X.A X.xe none (EP X pins σ Q) acc C) hc S hsel B I2 T st2 f2 w0 hW fun D C ys H' s' I' ⟨m,hm⟩ fo q=>?_
 exact ⟨m,hm,fun h' hsb=>⟨.ref D,_,I'.turned (t':=s'.toks) (it:=C) (fun b o hb e=>(hsb.2 b hb).trans e) fo.1 fo.2.1 fo.2.2.2.1 fo.2.2.2.2.1 fo.2.2.2.2.2,rfl,q⟩⟩
theorem Hi {i:Nat} {y:Str} {py spos:Pos} (hN:X.N.Nodup) (hi:X.N[i]? = some y) (hx:Loc X.env.scope y) (hc:X.calm=true) (hit:PI X tg iter wi) (S:No X.env scope) (hsel:kE X.N scope N sel) (B:Blk X scope N tg elt ifs g tc te)
  (hsw:swapsWith (.ListComp elt [⟨tg,iter,ifs,0⟩] scope pos) (some (.Name y py)) spos.line X.env=pure true) (hf:X.fn y=true∨X.env.scope.names.lookup y=some .local:=by first | exact .inl rfl | exact .inr rfl | assumption)
  (hs:∀ x,foldedSetIterable iter X.env x=pure x:=by intro _;rfl):PS X (.Assign [.Name y py] (.ListComp elt [⟨tg,iter,ifs,0⟩] scope pos) spos) (dQ (JM wi g tc te sel) (Lx i)):=by
 intro pins s σ H D I h
 rw [exec_Assign_Name_used _ _ _ _ hsw]
 refine wpAny_bind (wpAny_standAt (wpAny_bind ?_))
 show wpAny _ X.A (do let _ ← comprehension (.ListComp elt [⟨tg,iter,ifs,0⟩] scope pos) scope X.env _ (newList []) false (eval iter X.env) (some (assign (.Name y py) X.env))) _ _ s
 refine wpAny_bind (wpAny_mono (wpAny_comprehension_free (use:=some (assign (.Name y py) X.env)) (Q:=fun _ s'=>SP X pins D .next s') rfl hs (oE (S.cells I.ok)) S.kind S.loc ?_) (fun _ s' hq=>wpAny_pure (wpAny_pure hq)) fun _ _ e=>e)
 refine thn (hit pins s σ H _ I h) fun v s1 h1=>thn h1 fun itv s2 h2=>?_
 obtain ⟨it,fp,tn,J,H2,e,I2,T,st2,f2,W,w0,hW⟩:=h2
 subst e
 refine Ow (RR:=fun acc C=>compPost (model X.prog X.w) X.A X.xe (some (assign (.Name y py) X.env)) (fun _ s'=>SP X pins D .next s') acc C) hc S hsel B I2 T st2 f2 w0 hW fun Da C ys H' s' I' ⟨m,hm⟩ fo q=>?_
 show wpAny _ X.A (assign (.Name y py) X.env (.ref Da)) _ _ _
 refine wpAny_assign_Name (Nw I' hN hi hx (show ud (.ref Da) (.ref Da) from rfl) (fun s3 I3 hZ1=>?_) hf)
 obtain ⟨a,hsb,ha⟩:=hZ1
 have hCa:C ≠ a:=by
  rcases ha with z | z
  ·rw [z];exact fo.2.1
  ·exact fun w=>fo.2.2.2.2.1 y a z w.symm
 refine ⟨m,hm.sameBut hsb hCa,fun h' hsb'=>⟨_,_,I3.turned (t':=s3.toks) (it:=C) (fun b o hb e=>(hsb'.2 b hb).trans e) fo.1 fo.2.1 fo.2.2.2.1 fo.2.2.2.2.1 fo.2.2.2.2.2,q⟩⟩
end
noncomputable def Lg (Pv:Nat→List V→Hp→Prop) (g:TG) (tc:TT) (te:TE) (σb:St) (i:Nat) (x:V) (ys:List V) (H:Hp):Prop:=
 ∀ N:List V→Hp→Prop,(∀ ys' H',Pv (i + 1) ys' H'→N ys' H')→g x σb H fun σ2 H2=>Sub σb σ2∧tc σ2 H2 fun c H3=>if c=true then te σ2 H3 fun y H4=>N (ys ++ [y]) H4 else N ys H3
theorem LF {K:PySem.W.Frag} {a:Addr} {xs:List V} {g:TG} {tc:TT} {te:TE} {σb:St} {Q:VK} {H:Hp} (Pv:Nat→List V→Hp→Prop) (hz:xs.length ≤ sizeLine) (h0:Pv 0 [] H) (hl:∀ i ys H,i ≤ xs.length→Pv i ys H→SqL K H a xs∧ys.length ≤ i)
  (hs:∀ i x ys H,xs[i]? = some x→Pv i ys H→Lg Pv g tc te σb i x ys H) (hd:∀ ys H,Pv xs.length ys H→∀ p,H p=none→Q (.ref p) (upd H p (.lst ys))) :
  ∃ W:Nat→Nat→List V→Hp→Prop,(∃ m,W 0 m [] H)∧Xw (Itl K a) g tc te σb Q W:=by
 refine ⟨fun i m ys H=>m=xs.length - i∧i ≤ xs.length∧Pv i ys H,⟨xs.length,by simp,Nat.zero_le _,h0⟩,?_⟩
 rintro i m ys H ⟨rfl,hi,p⟩
 have q:=(hl i ys H hi p).1
 have hyl:=(hl i ys H hi p).2
 by_cases hlt:i < xs.length
 ·refine .inr ⟨⟨xs,xs[i],q,by simp [hlt]⟩,by omega,fun x H' y=>?_⟩
  obtain ⟨e,y⟩:=y
  subst e
  exact hs i x ys _ (y xs q) p (fun ys' H'=>∃ m',m' < xs.length - i∧m'=xs.length - (i + 1)∧i + 1 ≤ xs.length∧Pv (i + 1) ys' H') fun ys' H' r=>⟨xs.length - (i + 1),by omega,rfl,hlt,r⟩
 ·have e:i=xs.length:=by omega
  subst e
  exact .inl ⟨⟨xs,q,Nat.le_refl _⟩,hd ys H p⟩
theorem VG {K:PySem.W.Frag} {a:Addr} {xs:List V} {g:TG} {tc:TT} {te:TE} {σb:St} {Q:VK} {H:Hp} (Pv:Nat→List V→Hp→Prop) (hz:xs.length ≤ sizeLine) (h0:Pv 0 [] H) (hl:∀ i ys H,i ≤ xs.length→Pv i ys H→SqT K H a xs∧ys.length ≤ i)
  (hs:∀ i x ys H,xs[i]? = some x→Pv i ys H→Lg Pv g tc te σb i x ys H) (hd:∀ ys H,Pv xs.length ys H→∀ p,H p=none→Q (.ref p) (upd H p (.lst ys))) :
  ∃ W:Nat→Nat→List V→Hp→Prop,(∃ m,W 0 m [] H)∧Xw (Itt K a) g tc te σb Q W:=by
 refine ⟨fun i m ys H=>m=xs.length - i∧i ≤ xs.length∧Pv i ys H,⟨xs.length,by simp,Nat.zero_le _,h0⟩,?_⟩
 rintro i m ys H ⟨rfl,hi,p⟩
 have q:=(hl i ys H hi p).1
 have hyl:=(hl i ys H hi p).2
 by_cases hlt:i < xs.length
 ·refine .inr ⟨⟨xs,xs[i],q,by simp [hlt]⟩,by omega,fun x H' y=>?_⟩
  obtain ⟨e,y⟩:=y
  subst e
  exact hs i x ys _ (y xs q) p (fun ys' H'=>∃ m',m' < xs.length - i∧m'=xs.length - (i + 1)∧i + 1 ≤ xs.length∧Pv (i + 1) ys' H') fun ys' H' r=>⟨xs.length - (i + 1),by omega,rfl,hlt,r⟩
 ·have e:i=xs.length:=by omega
  subst e
  exact .inl ⟨⟨xs,q,Nat.le_refl _⟩,hd ys H p⟩
theorem cB {lo:Int} {n:Nat} {g:TG} {tc:TT} {te:TE} {σb:St} {Q:VK} {H:Hp} (Pv:Nat→List V→Hp→Prop) (hz:n ≤ sizeLine) (h0:Pv 0 [] H) (hl:∀ i ys H,i ≤ n→Pv i ys H→ys.length ≤ i)
  (hs:∀ i ys H,i < n→Pv i ys H→Lg Pv g tc te σb i (.int (lo + i)) ys H) (hd:∀ ys H,Pv n ys H→∀ p,H p=none→Q (.ref p) (upd H p (.lst ys))) :
  ∃ W:Nat→Nat→List V→Hp→Prop,(∃ m,W 0 m [] H)∧Xw (Itr lo n) g tc te σb Q W:=by
 refine ⟨fun i m ys H=>m=n - i∧i ≤ n∧Pv i ys H,⟨n,by simp,Nat.zero_le _,h0⟩,?_⟩
 rintro i m ys H ⟨rfl,hi,p⟩
 have hyl:=hl i ys H hi p
 by_cases hlt:i < n
 ·refine .inr ⟨hlt,by omega,fun x H' y=>?_⟩
  obtain ⟨e,y⟩:=y
  subst e y
  exact hs i ys _ hlt p (fun ys' H'=>∃ m',m' < n - i∧m'=n - (i + 1)∧i + 1 ≤ n∧Pv (i + 1) ys' H') fun ys' H' r=>⟨n - (i + 1),by omega,rfl,hlt,r⟩
 ·have e:i=n:=by omega
  subst e
  exact .inl ⟨Nat.le_refl _,hd ys H p⟩
end L2
namespace L2
open PySem PySem.Spec PyProof.Rows
noncomputable def Its (xs:List V):It:=⟨fun i _=>i < xs.length,fun i H x H'=>H'=H∧xs[i]? = some x,fun i _=>xs.length ≤ i⟩
theorem iu {P:Program} {w:World} {K:PySem.W.Frag} {tg:Expr} {it:Addr} {xs:List V} {PV:Nat→Value→Prop} {St:Nat→Heap→Prop} (hW:∀ A:Around,A.handled=none→Walks P w A it [it] [it] xs.length PV St)
  (hP:∀ i v,PV i v→∃ x,xs[i]? = some x∧ud x v)
  (hgo:∀ i h,St i h→∃ o n vs,h.get? it=some o∧o.cls=.type n∧o.data=.fields vs∧["enumerate","zip","dict_itemiterator","dict_reverseitemiterator","odict_iterator","itertools.zip_longest","itertools.pairwise"].contains n=false)
  (hfr:∀ i h h',St i h→(∀ o,h.get? it=some o→h'.get? it=some o)→St i h')
  (hself:∀ (A:Around) (i:Nat) (s:Shared) (Q:Value→Shared→Prop) (E:Value→Shared→Prop),St i s.heap→Q (.ref it) s→wpAny (model P w) A (pyIter (.ref it)) Q E s) :
  iJ P w K tg (Its xs) [it] it (fun i h=>i ≤ xs.length∧St i h) where
 mem:=by simp
 obj:=fun i h st b hb=>by
  have e:b=it:=by simpa using hb
  subst e
  obtain ⟨o,n,vs,e,_,d,_⟩:=hgo i h st.2
  exact ⟨o,e,fun v z=>by rw [d] at z;cases z⟩
 keep:=fun i h h' st k=>⟨st.1,hfr i h h' st.2 fun o e=>k it (by simp) o e⟩
 item:=by
  intro X hP' hw hK hc i pins s σ H E I hf st hg
  subst hP' hw hK
  obtain ⟨f0,f1,f2,f3,f4,f5⟩:=hf it (by simp)
  refine (hW X.A (I.ok.hd hc)).item i s _ _ hg st.2 fun v h' tk hv st' kk=>?_
  obtain ⟨x,hx,rx⟩:=hP i v hv
  have I1:Inv X pins σ H { s with heap:=h',toks:=tk }:=I.turned (fun b o hb e=>kk b o (by simpa using hb) e) f0 f1 f3 f4 f5
  obtain ⟨o,n,vs,e,c,d,nm⟩:=hgo _ _ st'
  exact ⟨v,rfl,kD (s:={ s with heap:=h',toks:=tk }) e c d nm ⟨x,H,I1,rx,⟨rfl,hx⟩,⟨hg,st'⟩,fun b hb=>(hf b hb).1⟩⟩
 done:=by
  intro X hP' hw hK hc i pins s σ H E I hf st hg
  subst hP' hw hK
  obtain ⟨f0,f1,f2,f3,f4,f5⟩:=hf it (by simp)
  have e:i=xs.length:=Nat.le_antisymm st.1 hg
  subst e
  exact (hW X.A (I.ok.hd hc)).done s _ _ st.2 fun h' tk kk=>⟨rfl,I.turned (fun b o hb e=>kk b o (by simpa using hb) e) f0 f1 f3 f4 f5⟩
 self:=fun A i s Q E st h=>hself A i s Q E st.2 h
noncomputable def oC (c:Nat):Str:=⟨#[c]⟩
noncomputable def tj (x:Str):List V:=x.cps.toList.map fun c=>V.str (oC c)
theorem xm (x:Str):(tj x).length=x.cps.size:=by unfold tj;simp
theorem MD {x:Str} {i c:Nat} (h:x.cps[i]? = some c):(tj x)[i]? = some (.str (oC c)):=by
 unfold tj
 rw [List.getElem?_map,Array.getElem?_toList,h]
 rfl
theorem Tt {x:Str} {i:Nat} {v:Value} (h:SignAt x i v):∃ y,(tj x)[i]? = some y∧ud y v:=by
 obtain ⟨c,u,hc,rfl⟩:=h
 exact ⟨.str (oC c),MD hc,u,rfl⟩
section
variable {X:Cx} {tg:Expr}
noncomputable def tR (tl:TE):TI:=fun σ H R=>tl σ H fun x H1=>∃ z,x=.str z∧R (Its (tj z)) H1
theorem mP {l:Expr} {tl:TE} (hl:PE X l tl):PI X tg l (tR tl):=by
 intro pins s σ H R I h
 refine thn (hl pins s σ H _ I h) fun v s1 hZ1=>?_
 obtain ⟨x,H1,I1,r1,q1⟩:=hZ1
 obtain ⟨z,e,q⟩:=q1
 subst e
 obtain ⟨t,rfl⟩:=r1
 have fo:∀ b ∈ [s1.heap.objs.size],Ox X pins H1 b:=fun b hb=>by
  have e:b=s1.heap.objs.size:=by simpa using hb
  subst e
  exact I1.fpOk (Nat.le_refl _) (I1.hok.fresh (Nat.le_refl _))
 have hz:=xm z
 cases ha:z.cps.all (· < 128) with
 | false=>
  refine wpAny_pyIter_wide ha ⟨s1.heap.objs.size,[s1.heap.objs.size],fun i h=>i ≤ (tj z).length∧h.IsStrIter s1.heap.objs.size "str_iterator" z t i,_,H1,rfl,I1.kept (t':=s1.toks) fun b o e=>Heap.get?_push_of_some _ e,
   iu (fun A hA=>by rw [hz];exact Walks.strWide hA _ z t) (fun i v=>Tt) (fun i h ⟨o,e,c,d⟩=>⟨o,_,_,e,c,d,by decide⟩) (fun i h h' ⟨o,e,r⟩ k=>⟨o,k o e,r⟩) (fun A i s Q E st q=>wpAny_pyIter_striter_wide st q),
   ⟨Nat.zero_le _,_,Heap.get?_push_size _ rfl,rfl,rfl⟩,fo,q⟩
 | true=>
  refine wpAny_pyIter_ascii ha ⟨s1.heap.objs.size,[s1.heap.objs.size],fun i h=>i ≤ (tj z).length∧h.IsStrIter s1.heap.objs.size "str_ascii_iterator" z t i,_,H1,rfl,I1.kept (t':=s1.toks) fun b o e=>Heap.get?_push_of_some _ e,
   iu (fun A hA=>by rw [hz];exact Walks.strAscii hA _ z t) (fun i v=>Tt) (fun i h ⟨o,e,c,d⟩=>⟨o,_,_,e,c,d,by decide⟩) (fun i h h' ⟨o,e,r⟩ k=>⟨o,k o e,r⟩) (fun A i s Q E st q=>wpAny_pyIter_striter_ascii st q),
   ⟨Nat.zero_le _,_,Heap.get?_push_size _ rfl,rfl,rfl⟩,fo,q⟩
end
theorem BK {xs:List V} {g:TG} {tb:TS} {D:Gg} {σ:St} {H:Hp} (Pv:Nat→St→Hp→Prop) (h0:Pv 0 σ H)
  (hs:∀ i x σ H,xs[i]? = some x→Pv i σ H→g x σ H fun σ2 H2=>tb { D with nx:=Pv (i + 1),ct:=Pv (i + 1),bk:=D.nx } σ2 H2) (hd:∀ σ H,Pv xs.length σ H→D.nx σ H) :
  ∃ W:Nat→Nat→St→Hp→Prop,(∃ m,W 0 m σ H)∧∀ i m σ H,W i m σ H →
   ((Its xs).stop i H∧D.nx σ H)∨((Its xs).go i H∧∃ N:St→Hp→Prop,(∀ σ' H',N σ' H'→∃ m',m' < m∧W (i + 1) m' σ' H')∧∀ x H',(Its xs).yld i H x H'→g x σ H' fun σ2 H2=>tb { D with nx:=N,ct:=N,bk:=D.nx } σ2 H2):=by
 refine ⟨fun i m σ H=>m=xs.length - i∧i ≤ xs.length∧Pv i σ H,⟨xs.length,by simp,Nat.zero_le _,h0⟩,?_⟩
 rintro i m σ H ⟨rfl,hi,p⟩
 by_cases hlt:i < xs.length
 ·refine .inr ⟨hlt,Pv (i + 1),fun σ' H' p'=>⟨xs.length - (i + 1),by omega,rfl,hlt,p'⟩,fun x H' y=>?_⟩
  obtain ⟨e,y⟩:=y
  subst e
  exact hs i x σ _ y p
 ·have e:i=xs.length:=by omega
  subst e
  exact .inl ⟨Nat.le_refl _,hd σ H p⟩
theorem bJ {xs:List V} {g:TG} {tc:TT} {te:TE} {σb:St} {Q:VK} {H:Hp} (Pv:Nat→List V→Hp→Prop) (hz:xs.length ≤ sizeLine) (h0:Pv 0 [] H) (hl:∀ i ys H,i ≤ xs.length→Pv i ys H→ys.length ≤ i)
  (hs:∀ i x ys H,xs[i]? = some x→Pv i ys H→Lg Pv g tc te σb i x ys H) (hd:∀ ys H,Pv xs.length ys H→∀ p,H p=none→Q (.ref p) (upd H p (.lst ys))) :
  ∃ W:Nat→Nat→List V→Hp→Prop,(∃ m,W 0 m [] H)∧Xw (Its xs) g tc te σb Q W:=by
 refine ⟨fun i m ys H=>m=xs.length - i∧i ≤ xs.length∧Pv i ys H,⟨xs.length,by simp,Nat.zero_le _,h0⟩,?_⟩
 rintro i m ys H ⟨rfl,hi,p⟩
 have hyl:=hl i ys H hi p
 by_cases hlt:i < xs.length
 ·refine .inr ⟨hlt,by omega,fun x H' y=>?_⟩
  obtain ⟨e,y⟩:=y
  subst e
  exact hs i x ys _ y p (fun ys' H'=>∃ m',m' < xs.length - i∧m'=xs.length - (i + 1)∧i + 1 ≤ xs.length∧Pv (i + 1) ys' H') fun ys' H' r=>⟨xs.length - (i + 1),by omega,rfl,hlt,r⟩
 ·have e:i=xs.length:=by omega
  subst e
  exact .inl ⟨Nat.le_refl _,hd ys H p⟩
section
variable {X:Cx}
noncomputable def cS:V→Option Int→Option Int→Hp→VK→Prop:=fun x lo hi H Q=>∃ z,x=.str z∧z.length ≤ sizeLine∧Q (.str (Txt.slice z lo hi)) H
noncomputable def Rb (ys:List Str):List V:=ys.map V.str
theorem vB:∀ {ys:List Str} {us:List Value},jd (Rb ys) us→StrsAre us ys:=by
 intro ys
 induction ys with
 | nil=>intro us r;cases r;exact .nil
 | cons y ys ih=>
  intro us r
  cases r with
  | cons r1 r2=>
   obtain ⟨t,rfl⟩:=r1
   exact .cons y t (ih r2)
theorem ww:∀ (l:List (Str × Tok)),jd (Rb (l.map (·.1))) (strValues l)
 | []=>.nil
 | (x,t) :: r=>.cons ⟨t,rfl⟩ (ww r)
noncomputable def HP (K:PySem.W.Frag):V→List V→Hp→VK→Prop:=fun x vs H Q=>∃ sep p ys,x=.str sep∧vs=[.ref p]∧SqL K H p (Rb ys)∧(ys.map (·.length)).sum + ys.length * sep.length ≤ 16777216∧Q (.str (Txt.join sep ys)) H
theorem AE:MtR X "str.join" (HP X.K):=by
 intro pins s σ H x xs v us Q I rx rv h
 obtain ⟨sep,p,ys,rfl,rfl,hq,hz,q⟩:=h
 obtain ⟨t,rfl⟩:=rx
 obtain ⟨u,rfl,ru⟩:=Fp rv
 cases ru
 obtain ⟨its,r,pl,_⟩:=I.list hq
 exact join_list pl.isList (by simpa using vB r) hz fun t' k=>⟨.str _,H,I.tok _,⟨_,rfl⟩,q⟩
end
theorem YB {prog:Program} {w:World} {A:Around} {E:Value→Shared→Prop} {s:Shared} {x y:Str} {t u:Tok} {Q:Value→Shared→Prop} (hy:(y.length == 0)=false)
  (h:∀ l k,l.map (·.1)=Txt.split x y→Q (.ref s.heap.objs.size) { s with heap:=s.heap.push { cls:=.type "list",data:=.seq (strValues l).toArray },toks:=k }) (hsz:x.length + 2 ≤ sizeLine) :
  wpAny (model prog w) A (call (.builtin "str.split") [.str x t,.str y u]) Q E s:=by
 have hn:(Builtin.Str.partsBetween x (Builtin.Str.occurrences x y 0 x.length (x.length + 1)) y.length).length ≤ sizeLine:=by
  have e1:=StrLaws.occ_length_le x y 0 x.length (x.length + 1)
  rw [length_partsBetween];omega
 cases h1:(decide (x.length < y.length) || decide (Builtin.Str.strKind x < Builtin.Str.strKind y))
 ·cases hf:(Builtin.Str.occurrences x y 0 x.length (x.length + 1)).isEmpty
  ·refine call_meets F.slot_str_split (typeIs_str _ _ _) F.entry_str_split (F.args_str_split_2 _ _) (meets_str_split_sep x y t u h1 hy hf (by omega) hn) ?_
   show wants Q E _ { s with toks:=_,heap:=s.heap.push { cls:=.type "list",data:=.seq (strsFrom s.toks (Builtin.Str.partsBetween x (Builtin.Str.occurrences x y 0 x.length (x.length + 1)) y.length)).toArray } }
   rw [strsFrom_eq]
   exact h (numbered s.toks _) _ ((numbered_texts _ _).trans ((if_neg (ne_true_of_eq_false h1)).trans (if_neg (ne_true_of_eq_false hf))).symm)
  ·exact call_meets F.slot_str_split (typeIs_str _ _ _) F.entry_str_split (F.args_str_split_2 _ _) (meets_str_split_not_found x y t u h1 hy hf)
    (h [(x,t)] s.toks ((if_neg (ne_true_of_eq_false h1)).trans (if_pos hf)).symm)
 ·exact call_meets F.slot_str_split (typeIs_str _ _ _) F.entry_str_split (F.args_str_split_2 _ _) (meets_str_split_cannot_occur x y t u h1)
   (h [(x,t)] s.toks (if_pos h1).symm)
section
variable {X:Cx}
noncomputable def bK:V→List V→Hp→VK→Prop:=fun x vs H Q=>∃ z y,x=.str z∧vs=[.str y]∧y.length ≠ 0∧z.length + 2 ≤ sizeLine∧(Txt.split z y).length ≤ sizeLine∧∀ p,H p=none→Q (.ref p) (upd H p (.lst (Rb (Txt.split z y))))
theorem Bz:MtR X "str.split" bK:=by
 intro pins s σ H x xs v us Q I rx rv h
 obtain ⟨z,y,rfl,rfl,hy,hz,hn,q⟩:=h
 obtain ⟨t,rfl⟩:=rx
 obtain ⟨u,rfl,ru⟩:=Fp rv
 obtain ⟨tu,rfl⟩:=ru
 refine YB (by simpa using hy) (fun l k hl=>?_) hz
 refine ⟨.ref s.heap.objs.size,_,I.laid (t':=k) (o:=.lst (Rb (Txt.split z y))) (fun b o e=>Heap.get?_push_of_some _ e) (Nat.le_refl _) ⟨by unfold Rb;rw [List.length_map];exact hn,strValues l,0,by rw [← hl];exact ww l,Heap.get?_push_size _ rfl⟩,rfl,q _ (I.hok.fresh (Nat.le_refl _))⟩
noncomputable def kL:V→List V→Hp→VK→Prop:=fun x vs H Q=>∃ z y i rest,x=.str z∧vs=[.str y]∧Builtin.Str.occurrences z y 0 z.length 1=i :: rest∧Q (.int (i:Nat)) H
theorem MF:Rm X (.type "int") (fun xs H Q=>∃ z n,xs=[.str z]∧intText? z=some n∧z.length ≤ 640∧Q (.int n) H):=by
 intro pins s σ H xs us Q I r h
 obtain ⟨z,n,rfl,hn,hz,q⟩:=h
 obtain ⟨u,rfl,t,rfl⟩:=Fp r
 exact PySem.W.KIN.call_text hn hz ⟨.int n,H,I.tok _,⟨_,rfl⟩,q⟩
theorem Bw:∀ {bs:List Bool} {us:List Value},jd (bs.map V.bl) us→us=bs.map Value.bool
 | [],_,.nil=>rfl
 | b :: bs,_,.cons r t=>by
  have e:_=Value.bool b:=r
  rw [e,Bw t];rfl
theorem Ny {A:Around} (bs:List Bool):TruthOf X.prog X.w A (fun i v=>(bs.map Value.bool).toArray[i]? = some v) (fun i=>bs.getD i true):=by
 intro i v s Q E hP hQ
 have e:(bs.map Value.bool)[i]? = some v:=by simpa using hP
 rw [List.getElem?_map] at e
 cases q:bs[i]? with
 | none=>rw [q] at e;cases e
 | some b=>
  rw [q] at e
  have e':Value.bool b=v:=Option.some.inj e
  subst e'
  refine wpAny_truthy_bool ?_
  have:bs.getD i true=b:=by simp [List.getD,q]
  have hQ':Q (bs.getD i true) s:=hQ
  rw [this] at hQ'
  exact hQ'
theorem uF (bs:List Bool):(List.range bs.length).all (fun i=>bs.getD i true)=bs.all id:=by
 rw [Bool.eq_iff_iff]
 simp only [List.all_eq_true,List.mem_range,id]
 constructor
 ·intro h b hb
  obtain ⟨i,hi,e⟩:=List.mem_iff_getElem.mp hb
  have:=h i hi
  simp [List.getD,hi,e] at this
  exact this
 ·intro h i hi
  simp [List.getD,hi]
  exact h _ (List.getElem_mem hi)
theorem ZH (hc:X.calm=true):Rm X (.builtin "all") (fun xs H Q=>∃ (p:Addr) (bs:List Bool),xs=[.ref p]∧SqL X.K H p (bs.map V.bl)∧Q (.bl (bs.all id)) H):=by
 intro pins s σ H xs us Q I r h
 obtain ⟨p,bs,rfl,hq,q⟩:=h
 obtain ⟨u,rfl,ru⟩:=Fp r
 cases ru
 obtain ⟨its,rv,pl,_⟩:=I.list hq
 have e:=Bw rv
 subst e
 refine call_all_walk (wpAny_pyIter_list pl.isList ?_)
 have hne:p ≠ s.heap.objs.size:=Nat.ne_of_lt (by obtain ⟨o,_,ho,_⟩:=pl;exact Heap.lt_size ho)
 refine ⟨s.heap.objs.size,_,_,_,_,_,fun i=>bs.getD i true,rfl,Walks.list (show X.A.in1.handled=none from I.ok.hd hc) _ p hne (bs.map Value.bool).toArray,⟨⟨_,Heap.get?_push_size _ rfl,rfl,rfl⟩,pl.isList.at fun o e=>Heap.get?_push_of_some _ e⟩,Ny bs,fun h' tk kk=>?_⟩
 refine ⟨.bl (bs.all id),H,I.kept fun b o e=>kk b o (by simpa using Nat.ne_of_lt (Heap.lt_size e)) (Heap.get?_push_of_some _ e),?_,q⟩
 show Value.bool _=Value.bool _
 rw [show (bs.map Value.bool).toArray.size=bs.length by simp,uF]
theorem Jz:Rm X (.builtin "isinstance") (fun xs H Q=>∃ x T t b,xs=[x,.ty T]∧Cz X.K H x t∧PySem.W.kitOne X.K t (.type T)=some b∧Q (.bl b) H):=by
 intro pins s σ H xs us Q I r h
 obtain ⟨x,T,t,b,rfl,ty,e,q⟩:=h
 obtain ⟨u,u2,rfl,rx,r2⟩:=bD r
 cases r2
 exact CC I rx ty e fun tk=>⟨.bl b,H,I.tok _,rfl,q⟩
end
end L2
namespace L2
open PySem PySem.Spec PyProof.Rows
theorem yi {X:Cx} {N:List Str} (h:N.Nodup) (e:X.N=N):X.N.Nodup:=e ▸ h
noncomputable def QD (sc scope:Scope):Bool:=
 (scope.kind == .function) && scope.names.all (fun y=>y.2 != .cell) && scope.names.all (fun y=>y.2 != .free || sc.names.lookup y.1 == some .cell || sc.names.lookup y.1 == some .free) &&
  scope.names.all (fun y=>y.2 != .local || scope.names.lookup y.1 == some .local)
theorem Nd {env:Env} {sc scope:Scope} (he:env.scope=sc) (h:QD sc scope=true):No env scope:=by
 subst he
 unfold QD at h
 simp only [Bool.and_eq_true,List.all_eq_true] at h
 obtain ⟨⟨⟨h1,h2⟩,h3⟩,h4⟩:=h
 refine ⟨by simpa using h1,fun y hy e=>?_,fun y hy e=>?_,fun y hy e=>?_⟩
 ·have:=h2 y hy
  rw [e] at this
  exact absurd this (by decide)
 ·have:=h3 y hy
  rw [e] at this
  simp only [Bool.or_eq_true] at this
  rcases this with (z | z) | z
  ·exact absurd z (by decide)
  ·exact .inl (show env.scope.names.lookup y.1=some .cell by simpa using z)
  ·exact .inr (show env.scope.names.lookup y.1=some .free by simpa using z)
 ·have:=h4 y hy
  rw [e] at this
  simp only [Bool.or_eq_true] at this
  rcases this with z | z
  ·exact absurd z (by decide)
  ·simpa using z
noncomputable def kR (M:List Str) (scope:Scope) (N:List Str) (sel:List (Option Nat)):Bool:=
 sel.length == N.length && (sel.zip N).all fun p=>match p.1 with | none=>true | some j=>M[j]? == some p.2 && scope.names.lookup p.2 == some .free
theorem ve {M:List Str} {scope:Scope} {N:List Str} {sel:List (Option Nat)} (h:kR M scope N sel=true):kE M scope N sel:=by
 unfold kR at h
 simp only [Bool.and_eq_true,List.all_eq_true] at h
 refine ⟨by simpa using h.1,fun i j x e1 e2=>?_⟩
 have hm:(some j,x) ∈ sel.zip N:=by
  rw [List.mem_iff_getElem?]
  exact ⟨i,by rw [List.getElem?_zip_eq_some];exact ⟨e1,e2⟩⟩
 have:=h.2 _ hm
 simp only [Bool.and_eq_true] at this
 exact ⟨by simpa using this.1,by simpa using this.2⟩
noncomputable def noT:HO→Bool
 | .dT _=>false
 | .frz _ u=>noT u
 | _=>true
noncomputable def NoT (H:Hp):Prop:=∀ b o,H b=some o→noT o=true
theorem gd.back {P:Program} {w:World} {H H':Hp} {h h':Heap} {a:Addr}:∀ (o:HO),noT o=true→gd P w H' h' a o→gd P w H h a o→gd P w H h' a o
 | .lst _,_,x,_=>x
 | .tup _,_,x,_=>x
 | .dK _,_,x,_=>x
 | .dT _,e,_,_=>absurd e (by unfold noT;decide)
 | .set _ _,_,x,_=>x
 | .ins _ _ _,_,x,y=>⟨y.1,x.2⟩
 | .own _,_,x,_=>x
 | .xd _,_,x,_=>x
 | .met _ _,_,x,_=>x
 | .rng _ _,_,x,_=>x
 | .frz ob u,e,x,y=>⟨x.1,gd.back u (by unfold noT at e;exact e) x.2 y.2⟩
 | .tbl _,_,x,_=>x
 | .ext _,_,x,_=>x
section
variable {P:Program} {w:World} {K:PySem.W.Frag} {mg:Str→Option Value} {base:Heap}
theorem Eb.forget {k:Nat} {f:Addr} {fd:FuncData} {ps:List Str} {sp sp':Sp} (F:Eb P w K mg base CX0 k f fd ps sp)
  (h:∀ vs H Q E,sp' vs H Q E→NoT H∧sp vs H (fun v H'=>Zb H H'∧Q v H) E):Eb P w K mg base CX0 k f fd ps sp':=by
 refine ⟨fun vs H Q E q=>F.len vs H _ E (h vs H Q E q).2,fun A outer s H args us vs Q E hr he hb hv hs=>?_⟩
 obtain ⟨nt,q⟩:=h vs H Q E hs
 refine codeAny_mono (F.run A outer s H args us vs _ E hr he hb hv q) fun r s' hq=>?_
 cases r with
 | error e=>exact hq
 | ok fl=>
  cases fl with
  | next=>exact hq
  | brk=>exact hq
  | cont=>exact hq
  | ret u=>
   obtain ⟨v,H',os,bare,un,hok,rv,sm,q'⟩:=hq
   exact ⟨v,H,os,bare,⟨un.keep,un.slot,fun _ _ _ n _=>n,un.there,fun _ _ z=>z,fun _ _ _ z=>z,fun _ ps z=>⟨#[],by rw [z];simp⟩⟩,fun a o e=>(hok a o (sm a o e)).back o (nt a o e) (he.hok a o e),rv,q'⟩
end
theorem qb {H:Hp} {p:Addr} {o:HO} (h:H p=none):Zb H (upd H p o):=fun b u q=>by rw [pb (ub q h)];exact q
theorem Zb.updN {H H1:Hp} {p:Addr} {o:HO} (s:Zb H H1) (h:H p=none):Zb H (upd H1 p o):=fun b u q=>by rw [pb (ub q h)];exact s b u q
structure Sc (K:PySem.W.Frag) (a:Addr) (ns:List Int) (H:Hp):Prop where
 sq:(∃ o,H a=some (.frz o (.lst (ns.map V.int))))∨∃ (o:Obj) (its:Array Value) (n:Nat),K.lookup a=some o∧o.cls=.type "list" ∧ o.dict=none∧o.data=.seq its n∧its.size ≤ sizeLine∧jd (ns.map V.int) its.toList
 nt:NoT H
section
variable {K:PySem.W.Frag} {a p:Addr} {ns:List Int} {H H':Hp} {o:HO}
theorem Sc.seq (s:Sc K a ns H):SqL K H a (ns.map V.int):=by
 rcases s.sq with ⟨o,h⟩ | h
 ·exact .inl (.inr ⟨o,h⟩)
 ·exact .inr h
theorem Sc.new (s:Sc K a ns H) (hp:H p=none) (ho:noT o=true:=by rfl):Sc K a ns (upd H p o):=by
 refine ⟨?_,fun b u e=>?_⟩
 ·rcases s.sq with ⟨ob,h⟩ | h
  ·exact .inl ⟨ob,by rw [pb (ub h hp)];exact h⟩
  ·exact .inr h
 ·by_cases hb:b=p
  ·subst hb;rw [fb] at e;cases e;exact ho
  ·rw [pb hb] at e;exact s.nt b u e
theorem Sc.set {u:HO} (s:Sc K a ns H) (hp:H p=some u) (hu:∀ ob z,u ≠ .frz ob z) (ho:noT o=true:=by rfl):Sc K a ns (upd H p o):=by
 refine ⟨?_,fun b x e=>?_⟩
 ·rcases s.sq with ⟨ob,h⟩ | h
  ·refine .inl ⟨ob,?_⟩
   have hne:a ≠ p:=fun z=>by subst z;rw [hp] at h;exact hu _ _ (Option.some.inj h)
   rw [pb hne];exact h
  ·exact .inr h
 ·by_cases hb:b=p
  ·subst hb;rw [fb] at e;cases e;exact ho
  ·rw [pb hb] at e;exact s.nt b x e
end
theorem Xc:bootBuiltins "len"=some (.builtin "len"):=PySem.boot_len
theorem UB:bootBuiltins "all"=some (.builtin "all"):=by decide +kernel
theorem xo:bootBuiltins "min"=some (.builtin "min"):=by decide +kernel
theorem Ck:bootBuiltins "max"=some (.builtin "max"):=by decide +kernel
theorem uB:bootBuiltins "sum"=some (.builtin "sum"):=by decide +kernel
theorem zi:bootBuiltins "isinstance"=some (.builtin "isinstance"):=by decide +kernel
theorem Nn:bootBuiltins "int"=some (.type "int"):=by decide +kernel
theorem Rn:bootBuiltins "str"=some (.type "str"):=by decide +kernel
theorem oy:bootBuiltins "bool"=some (.type "bool"):=by decide +kernel
theorem sr:bootBuiltins "list"=some (.type "list"):=by decide +kernel
theorem Rd.same {H H':Hp} {a:Addr} {o:HO} (h:Rd H a o) (s:Zb H H'):Rd H' a o:=by
 rcases h with h | ⟨ob,h⟩
 ·exact .inl (s _ _ h)
 ·exact .inr ⟨ob,s _ _ h⟩
theorem SqL.same {K:PySem.W.Frag} {H H':Hp} {a:Addr} {xs:List V} (h:SqL K H a xs) (s:Zb H H'):SqL K H' a xs:=by
 rcases h with h | h
 ·exact .inl (h.same s)
 ·exact .inr h
theorem SqT.same {K:PySem.W.Frag} {H H':Hp} {a:Addr} {xs:List V} (h:SqT K H a xs) (s:Zb H H'):SqT K H' a xs:=by
 rcases h with h | h
 ·exact .inl (h.same s)
 ·exact .inr h
theorem NoT.upd {H:Hp} {p:Addr} {o:HO} (h:NoT H) (ho:noT o=true:=by rfl):NoT (upd H p o):=fun b u e=>by
 by_cases hb:b=p
 ·subst hb;rw [fb] at e;cases e;exact ho
 ·rw [pb hb] at e;exact h b u e
theorem Sc.same {K:PySem.W.Frag} {a:Addr} {ns:List Int} {H H':Hp} (s:Sc K a ns H) (sm:Zb H H') (nt:NoT H'):Sc K a ns H':=by
 refine ⟨?_,nt⟩
 rcases s.sq with ⟨o,h⟩ | h
 ·exact .inl ⟨o,sm _ _ h⟩
 ·exact .inr h
end L2
namespace L2
open PySem PySem.Spec PyProof.Rows
structure zR (K:PySem.W.Frag) (C:Addr) (m:Str) (f:Addr):Prop where
 rd:PySem.W.readsIn K C (.type "type")=true
 fd:PySem.W.findCls K (.ref C) (.type "type") m=some (.val (.ref f))
 ga:PySem.W.specialIn K (.ref C) "__getattribute__"=some (some (.builtin "type.__getattribute__"))
 kp:PySem.W.keepIn K (.ref f)=true
structure wB (P:Program) (w:World) (K:PySem.W.Frag) (mg:Str→Option Value) (base:Heap) (CX:CXT) (k:Nat) (OK:Addr→Prop) (m:Str) (ps:List Str) (SPV:Addr→Sp):Prop where
 ok:∀ C,OK C→∃ f fd,Cls K C∧Fq K C m f∧Eb P w K mg base CX k f fd ps (SPV C)∧Qb K fd ps []
noncomputable def YE (OK:Addr→Prop) (m:Str) (SPV:Addr→Sp) (E:XK) (ta:TE) (t:TA):TE:=fun σ H Q=>ta σ H fun x H1=>∃ a C dx fs,x=.ref a∧H1 a=some (.ins C dx fs)∧OK C∧fs.lookup m=none ∧
 t σ H1 fun vs H2=>SPV C (x :: vs) H2 Q E
section
variable {X:Cx} {CX:CXT} {k:Nat} {f C:Addr} {fd:FuncData} {ps:List Str} {sp:Sp} {dvs:List V} {ds:List Value} {E:XK} {x m:Str} {p pos apos:Pos} {e o:Expr} {es:List Expr} {ta:TE} {t:TA}
theorem fv {pl:Sem Bool} (hg:Gl X x) (hm:X.mg x=some (.ref C)) (c:zR X.K C m f) (F:Eb X.prog X.w X.K X.mg X.base CX k f fd ps sp) (hr:oh k X.A) (hb:Qb X.K fd ps ds) (hd:jd dvs ds) (hx:Aj CX X E) (ha:PA X (e :: es) t)
  (hdb:(x == ("__debug__" : Str))=false:=by decide) (hst:starEach (e :: es) X.env=(false,eval e X.env) :: starEach es X.env:=by rfl) (hpl:(backTo pos (starEach es X.env)).any (·.1)=false:=by rfl)
  (ht:eval (.Call (.Attribute (.Name x p) m apos) (e :: es) [] pos) X.env=(do
   let ov ← eval (.Name x p) X.env
   standAt apos.atName
   let (f,first) ← holding [ov] (getMethod ov m pl)
   callWith pos f first (backTo pos (starEach (e :: es) X.env)) (backToKw pos (keywordEach [] X.env))):=by rfl) :
  PE X (.Call (.Attribute (.Name x p) m apos) (e :: es) [] pos) (FL sp dvs E t):=by
 intro pins s σ H Q I h
 refine PySem.W.methodCall_KW (pl:=pl) (gk I hg hm ?_ hdb) ht
 refine PySem.W.method_cls I.kIn c.ga (PySem.W.cls_value I.kIn c.rd c.fd rfl ?_)
 have I1:=I.tok (s.toks + 1)
 refine PySem.W.callWith_K (first:=[]) (h₀:=X.base) I.ok.mod.kin c.kp (thn (ha pos pins _ σ H _ I1 h) fun us s2 ⟨vs,H2,I2,r,q2⟩=>⟨I2.kIn,?_⟩) hst hpl
 exact eu F hr hb hd hx I2 r q2
variable {OK:Addr→Prop} {SPV:Addr→Sp}
theorem JA {pl:Sem Bool} (he:PE X o ta) (V:wB X.prog X.w X.K X.mg X.base CX k OK m ps SPV) (hr:oh k X.A) (hx:Aj CX X E) (ha:PA X (e :: es) t)
  (hst:starEach (e :: es) X.env=(false,eval e X.env) :: starEach es X.env:=by rfl) (hpl:(backTo pos (starEach es X.env)).any (·.1)=false:=by rfl)
  (ht:eval (.Call (.Attribute o m apos) (e :: es) [] pos) X.env=(do
   let ov ← eval o X.env
   standAt apos.atName
   let (f,first) ← holding [ov] (getMethod ov m pl)
   callWith pos f first (backTo pos (starEach (e :: es) X.env)) (backToKw pos (keywordEach [] X.env))):=by rfl) :
  PE X (.Call (.Attribute o m apos) (e :: es) [] pos) (YE OK m SPV E ta t):=by
 intro pins s σ H Q I h
 refine PySem.W.methodCall_KW (pl:=pl) (thn (he pins s σ H _ I h) fun u s1 hZ1=>?_) ht
 obtain ⟨x,H1,I1,rx,a,C,dx,fs,ex,ea,ok,l,q⟩:=hZ1
 subst ex
 obtain rfl:u=Value.ref a:=rx
 obtain ⟨f,fd,c,hm,F,hb⟩:=V.ok C ok
 refine Ek I1 ea c hm l ?_
 refine PySem.W.callWith_K (first:=[.ref a]) (h₀:=X.base) I.ok.mod.kin hm.kp (thn (ha pos pins s1 σ H1 _ I1 q) fun us s2 ⟨vs,H2,I2,r,q2⟩=>⟨I2.kIn,?_⟩) hst hpl
 exact eu (us:=.ref a :: us) (vs:=.ref a :: vs) (dvs:=[]) F hr hb .nil hx I2 (.cons rfl r) (by rw [List.append_nil];exact q2)
theorem mn {pl:Sem Bool} (he:PE X o ta) (V:wB X.prog X.w X.K X.mg X.base CX k OK m ps SPV) (hr:oh k X.A) (hx:Aj CX X E)
  (ht:eval (.Call (.Attribute o m apos) [] [] pos) X.env=(do
   let ov ← eval o X.env
   standAt apos.atName
   let (f,first) ← holding [ov] (getMethod ov m pl)
   callWith pos f first (backTo pos (starEach [] X.env)) (backToKw pos (keywordEach [] X.env))):=by rfl) :
  PE X (.Call (.Attribute o m apos) [] [] pos) (YE OK m SPV E ta lQ):=by
 intro pins s σ H Q I h
 refine PySem.W.methodCall_KW (pl:=pl) (thn (he pins s σ H _ I h) fun u s1 hZ1=>?_) ht
 obtain ⟨x,H1,I1,rx,a,C,dx,fs,ex,ea,ok,l,q⟩:=hZ1
 subst ex
 obtain rfl:u=Value.ref a:=rx
 obtain ⟨f,fd,c,hm,F,hb⟩:=V.ok C ok
 refine Ek I1 ea c hm l ?_
 exact PySem.W.callWith_K0 (first:=[.ref a]) I1.kIn hm.kp (eu (us:=[.ref a]) (vs:=[.ref a]) (dvs:=[]) F hr hb .nil hx I1 (.cons rfl .nil) q)
end
noncomputable abbrev SVs:=List (Str × V)
noncomputable def YO (kvs:SVs) (ty:TE):TE:=fun σ H Q=>ty σ H fun y H1=>∃ x v,y=.str x∧kvs.lookup x=some v∧Q v H1
section
variable {X:Cx} {x:Str} {p pos:Pos} {i:Expr} {ty:TE} {u:Value} {kvs:List (Str × V)}
end
noncomputable def wj (K:PySem.W.Frag) (H:Hp) (a:Addr) (f:Str) (v:V):Prop:=∃ C dx fs,H a=some (.ins C dx fs)∧Cls K C∧Fb K C f∧fs.lookup f=some v
theorem Vc {f:Str} {v:V}:∀ {fs:List (Str × V)} (ks:List Str),fs.map (·.1)=ks→ks.contains f=false→Qg f v fs=fs ++ [(f,v)]
 | [],_,_,_=>rfl
 | (g,y) :: r,ks,e,h=>by
  cases e
  rw [List.map_cons,List.contains_cons] at h
  have h1:=(Bool.or_eq_false_iff.mp h)
  have hne:¬ g=f:=fun z=>by
   have:=h1.1
   rw [z] at this
   simp at this
  show (if g=f then _ else _)=_
  rw [if_neg hne,Vc _ rfl h1.2]
  rfl
theorem Fn {f:Str} {v:V} {fs:List (Str × V)} {n:Nat} (h:fs.length < n):(Qg f v fs).length < n + 1:=Nat.lt_of_le_of_lt (om f v fs) (by omega)
theorem yd {f:Str} {v:V}:∀ {fs:List (Str × V)} (ks:List Str) (i:Nat),fs.map (·.1)=ks→ks.findIdx? (· == f)=some i→fs[i]? = some (f,v)→fs.lookup f=some v
 | [],_,_,_,_,h=>by simp at h
 | (g,y) :: r,ks,i,e,h,hv=>by
  cases e
  rw [List.map_cons,List.findIdx?_cons] at h
  rw [List.lookup]
  by_cases e:g=f
  ·subst e
   rw [beq_self_eq_true,if_pos rfl] at h
   cases h
   have:(g,y)=(g,v):=by simpa using hv
   cases this
   rw [beq_self_eq_true]
  ·rw [beq_eq_false_iff_ne.mpr e,if_neg (by decide)] at h
   obtain ⟨j,hj,rfl⟩:=Option.map_eq_some_iff.mp h
   rw [beq_eq_false_iff_ne.mpr (fun z=>e z.symm)]
   exact yd _ j rfl hj (by simpa using hv)
theorem vm {f:Str}:∀ {fs:List (Str × V)} (ks:List Str),fs.map (·.1)=ks→ks.contains f=false→fs.lookup f=none
 | [],_,_,_=>rfl
 | (g,y) :: r,ks,e,h=>by
  cases e
  rw [List.map_cons,List.contains_cons] at h
  have h1:=(Bool.or_eq_false_iff.mp h)
  rw [List.lookup,h1.1]
  exact vm _ rfl h1.2
end L2
namespace L2
open PySem PySem.Spec PyProof.Rows
theorem Inv.turnedL {X:Cx} {pins:List (Addr × Obj)} {σ:St} {H:Hp} {s:Shared} {h':Heap} {t':Nat} {fp:List Addr} (I:Inv X pins σ H s) (k:∀ b o,b ∉ fp→s.heap.get? b=some o→h'.get? b=some o)
  (hf:∀ b ∈ fp,Ox X pins H b):Inv X pins σ H { s with heap:=h',toks:=t' }:=by
 have nit:∀ b u,H b=some u→b ∉ fp:=fun b u e z=>by rw [(hf b z).1] at e;cases e
 refine I.step (g':=s.gens) (d':=s.drawn) (ch:=fp) (fun b hb=>?_) (fun b o _ _ hc e _=>k b o hc e) (fun b o _ _ hc e _=>⟨o.slots,k b o hc e⟩) (fun _ _ _ _ n=>n)
  (fun b o hc e=>⟨o,k b o hc e⟩) (fun _ _ e=>e) (fun _ _ _ e=>e) (fun b ps e=>⟨#[],by rw [e];simp⟩) (fun m hm=>?_) (fun b u e=>?_) I.bare
 ·obtain ⟨f0,f1,f2,f3,f4,f5⟩:=hf b hb
  exact ⟨f3,f1,f4,f5⟩
 ·obtain ⟨o,es,ep,ho,r⟩:=hm
  exact ⟨o,es,ep,k _ o (fun z=>(hf _ z).2.1 rfl) ho,r⟩
 ·refine (I.hok b u e).stay (fun c v hc q=>k c v ?_ q) (fun _ q=>q) fun _ _ q=>q
  rcases hc with z | z
  ·rw [z];exact nit b u e
  ·exact nit c _ z
noncomputable def Ite (K:PySem.W.Frag) (a:Addr):It:=
 ⟨fun i H=>∃ xs x,SqL K H a xs∧xs[i]? = some x,fun i H v H'=>∃ p y,H p=none∧v=.ref p∧(∀ xs,SqL K H a xs→xs[i]? = some y)∧H'=upd H p (.tup [.int i,y]),fun i H=>∃ xs,SqL K H a xs∧xs.length ≤ i⟩
theorem uC {P:Program} {w:World} {K:PySem.W.Frag} {es:List Expr} {k} {pos:Pos} (a e it:Addr) (hne:e ≠ it) :
  iJ P w K (.Tuple es k pos) (Ite K a) [e,it] e (fun i h=>∃ old,IsEnum h e it ((i:Nat):Int) old∧h.IsListIter it a i) where
 mem:=by simp
 obj:=fun i h ⟨old,he,hi⟩ b hb=>by
  simp only [List.mem_cons,List.not_mem_nil,or_false] at hb
  rcases hb with rfl | rfl
  ·exact ⟨_,he,fun v z=>by
    have z':Data.fields _=Data.cell v:=z
    cases z'⟩
  ·obtain ⟨o,q,c,d⟩:=hi
   exact ⟨o,q,fun v z=>by rw [d] at z;cases z⟩
 keep:=fun i h h' ⟨old,he,hi⟩ k=>⟨old,k e (by simp) _ he,hi.at fun o q=>k it (by simp) o q⟩
 item:=by
  intro X hP hw hK hc i pins s σ H E I hf ⟨old,he,hi⟩ hg
  subst hP hw hK
  obtain ⟨xs,x,hq,hx⟩:=hg
  obtain ⟨its,rv,p,hz⟩:=I.list hq
  obtain ⟨u,hu,ru⟩:=rv.get hx
  refine wpAny_pyNext_enum_item he hi p.isList (x:=u) (by simpa using hu) hne fun h1 he1 hi1 ht1 hz1 hk1=>⟨_,rfl,?_⟩
  refine wpAny_letOwnedTupleGo_enum he1 fun h2 he2 hs2=>?_
  replace hs2:Heap.SameBut e h1 h2:=hs2
  have hel:e < s.heap.objs.size:=Heap.lt_size he
  have hk:∀ b o,b ∉ [e,it]→s.heap.get? b=some o→h2.get? b=some o:=fun b o hb q=>by
   simp only [List.mem_cons,List.not_mem_nil,or_false,not_or] at hb
   exact hs2.extBut _ _ hb.1 (hk1 b o hb.1 hb.2 q)
  have I1:Inv X pins σ H { s with heap:=h2,toks:=s.toks + 1 }:=I.turnedL hk hf
  have fo:Ox X pins H s.heap.objs.size:=I.fpOk (Nat.le_refl _) (I.hok.fresh (Nat.le_refl _))
  have ht2:h2.get? s.heap.objs.size=some { cls:=.type "tuple",data:=.seq #[.int i s.toks,u] }:=(hs2.2 _ (Nat.ne_of_gt hel)).trans ht1
  have I2:=I1.adopt (o:=.tup [.int i,x]) fo ⟨by show 2 ≤ sizeLine;decide,[.int i s.toks,u],.cons ⟨_,rfl⟩ (.cons ru .nil),⟨_,ht2,rfl,_,rfl⟩⟩
  refine ⟨.ref s.heap.objs.size,_,I2,rfl,⟨_,x,fo.1,rfl,fun ys hy=>by rw [I.list_inj hy hq];exact hx,rfl⟩,⟨u,?_,?_⟩,fun b hb=>?_⟩
  ·have e1:((i + 1:Nat):Int)=(i:Int) + 1:=by omega
   rw [e1];exact he2
  ·exact hi1.extBut hs2.extBut (Ne.symm hne)
  ·have hlt:b < s.heap.objs.size:=by
    simp only [List.mem_cons,List.not_mem_nil,or_false] at hb
    rcases hb with rfl | rfl
    ·exact hel
    ·obtain ⟨o,q,_⟩:=hi
     exact Heap.lt_size q
   rw [pb (Nat.ne_of_lt hlt)];exact (hf b hb).1
 done:=by
  intro X hP hw hK hc i pins s σ H E I hf ⟨old,he,hi⟩ hg
  subst hP hw hK
  obtain ⟨xs,hq,hx⟩:=hg
  obtain ⟨its,rv,p,hz⟩:=I.list hq
  have hl:=rv.length
  exact wpAny_pyNext_enum_end (I.ok.hd hc) he hi p.isList (by simp;omega) fun h' eb=>⟨rfl,I.turnedL (t':=s.toks) (fun b o hb q=>eb b o (fun z=>hb (by simp [z])) q) hf⟩
 self:=fun _ _ _ _ _ ⟨_,he,_⟩ h=>wpAny_pyIter_enum he h
theorem et:bootBuiltins "enumerate"=some (.type "enumerate"):=by decide +kernel
theorem Yv:bootBuiltins "reversed"=some (.type "reversed"):=by decide +kernel
noncomputable def Itz (K:PySem.W.Frag) (a b:Addr):It:=
  ⟨fun i H=>∃ xs ys x y,SqL K H a xs∧SqL K H b ys∧xs[i]? = some x∧ys[i]? = some y,
   fun i H v H'=>∃ p x y,H p=none∧v=.ref p∧(∀ xs,SqL K H a xs→xs[i]? = some x)∧(∀ ys,SqL K H b ys→ys[i]? = some y)∧H'=upd H p (.tup [x,y]),
   fun i H=>∃ xs ys,SqL K H a xs∧SqL K H b ys∧(xs.length ≤ i∨ys.length ≤ i)⟩
noncomputable def Itv (K:PySem.W.Frag) (a:Addr) (n:Nat):It:=
 ⟨fun i H=>i < n∧∃ xs,SqL K H a xs∧xs.length=n,fun i H x H'=>H'=H∧∀ xs,SqL K H a xs→xs[n - 1 - i]? = some x,fun i _=>n ≤ i⟩
section
variable {X:Cx}
noncomputable def DP (K:PySem.W.Frag) (ta:TA):TI:=fun σ H R=>ta σ H fun vs H1=>∃ a,vs=[.ref a]∧(∃ xs,SqL K H1 a xs)∧R (Ite K a) H1
theorem gs {es:List Expr} {k} {tpos:Pos} {a:Expr} {ta:TA} {p pos:Pos} (hg:Gl X "enumerate") (hm:X.mg "enumerate"=none) (ha:PA X [a] ta) (hs:starEach [a] X.env=[(false,eval a X.env)]:=by rfl) :
  PI X (.Tuple es k tpos) (.Call (.Name "enumerate" p) [a] [] pos) (DP X.K ta):=by
 intro pins s σ H R I h
 refine Call_ (Bn I hg hm et (PyProof.Rows.callWith_type1 (thn (ha pos pins s σ H _ I h) fun us s1 hZ1=>?_) hs rfl))
 obtain ⟨vs,H1,I1,r1,q1⟩:=hZ1
 obtain ⟨a,e,⟨xs,hq⟩,q⟩:=q1
 subst e
 cases r1 with
 | cons r rr=>
  cases rr
  cases r
  obtain ⟨its,rv,pl,hz⟩:=I1.list hq
  refine call_enumerate_list pl.isList fun h' hE hI hsz hk=>wpAny_pyIter_enum hE ?_
  refine ⟨s1.heap.objs.size + 1,[s1.heap.objs.size + 1,s1.heap.objs.size],_,_,H1,rfl,I1.kept (t':=s1.toks) hk,uC a _ _ (Nat.succ_ne_self _),⟨_,hE,hI⟩,fun b hb=>?_,q⟩
  have hb':s1.heap.objs.size ≤ b:=by
   simp only [List.mem_cons,List.not_mem_nil,or_false] at hb
   rcases hb with rfl | rfl
   ·exact Nat.le_succ _
   ·exact Nat.le_refl _
  exact I1.fpOk hb' (I1.hok.fresh hb')
noncomputable def UR (K:PySem.W.Frag) (ta:TA):TI:=fun σ H R=>ta σ H fun vs H1=>∃ a b,vs=[.ref a,.ref b]∧(∃ xs,SqL K H1 a xs)∧(∃ ys,SqL K H1 b ys)∧R (Itz K a b) H1
noncomputable def tS (K:PySem.W.Frag) (ta:TA):TI:=fun σ H R=>ta σ H fun vs H1=>∃ a xs,vs=[.ref a]∧SqL K H1 a xs∧R (Itv K a xs.length) H1
end
theorem Ge {X:Cx} {es:List Expr} {k:Nat} {pos:Pos} {t:TGs} {n:Nat} {K:PySem.W.Frag} (hK:X.K=K) (hc:X.calm=true) (h:PGs X es t)
  (hn:(assignEach es X.env).length=n:=by rfl) (hst:(assignEach es X.env).findIdx? (·.1)=none:=by rfl):PG X (.Tuple es k pos) (OP K n t):=by
 subst hK
 exact kO hc h hn hst
section
variable {X:Cx}
noncomputable def YD:V→List V→Hp→VK→Prop:=fun x vs H Q=>∃ l xs i y,x=.ref l∧vs=[.int i,y]∧H l=some (.lst xs)∧0 ≤ i∧i < 2 ^ 62∧i ≤ (xs.length:Int)∧xs.length < sizeLine∧Q .non (upd H l (.lst (xs.take i.toNat ++ y :: xs.drop i.toNat)))
theorem fD:MtM X "list.insert" YD:=by
 intro pins s σ H x vs v us Q I rx rv h
 obtain ⟨l,xs,i,y,rfl,rfl,hH,h0,h1,h2,hz,q⟩:=h
 cases rx
 cases rv with
 | cons ra rb=>
  cases rb with
  | @cons _ w _ _ rw' rc=>
   cases rc
   obtain ⟨t,rfl⟩:=ra
   obtain ⟨z,its,n,r,hl,e⟩:=I.lstM hH
   refine call_meets F.slot_list_insert ⟨_,e,rfl⟩ F.entry_list_insert (F.args_list_insert_3 _ _ _) (AutoListH.list_insert_list_int_val_1 l its.toArray n i t w (by rw [fitsIndex_both (k:=i) (by omega) (by omega)];decide) (by rw [List.size_toArray];omega)) ⟨e,?_⟩
   refine ⟨.non,_,I.lset (its':=its.take i.toNat ++ w :: its.drop i.toNat) hH e ?_ ((r.take i.toNat).append (.cons rw' (r.drop i.toNat))) ?_,rfl,q⟩
   ·have hk:(if i < 0 then (i + ((its.toArray.size:Nat):Int)).toNat else min i.toNat its.toArray.size)=i.toNat:=by
     rw [if_neg (by omega),List.size_toArray];omega
    show (its.toArray.extract 0 (if i < 0 then (i + ((its.toArray.size:Nat):Int)).toNat else min i.toNat its.toArray.size)).push w ++ its.toArray.extract (if i < 0 then (i + ((its.toArray.size:Nat):Int)).toNat else min i.toNat its.toArray.size)=_
    rw [hk]
    apply Array.toList_inj.mp
    simp
    exact List.take_of_length_le (by rw [List.length_drop];exact Nat.le_refl _)
   ·rw [List.length_append,List.length_cons,List.length_take,List.length_drop];omega
theorem Uw {P:Nat→Value→Prop} {f:Nat→V} (hP:∀ i v,P i v→ud (f i) v):∀ (l:List Value) (k:Nat),(∀ j v,l[j]? = some v→P (k + j) v)→jd ((List.range l.length).map fun i=>f (k + i)) l
 | [],_,_=>.nil
 | v :: r,k,h=>by
  rw [List.length_cons,List.range_succ_eq_map,List.map_cons,List.map_map]
  refine .cons (hP _ _ (h 0 v rfl)) ?_
  have:=Uw hP r (k + 1) fun j w hj=>by
   have:=h (j + 1) w (by simpa using hj)
   rwa [show k + 1 + j=k + (j + 1) by omega]
  have e:(fun i=>f (k + 1 + i))=((fun i=>f (k + i)) ∘ Nat.succ):=funext fun i=>by
   show f (k + 1 + i)=f (k + (i + 1))
   rw [show k + 1 + i=k + (i + 1) by omega]
  rwa [e] at this
theorem aB {P:Nat→Value→Prop} {f:Nat→V} (hP:∀ i v,P i v→ud (f i) v) {acc:Array Value} {n:Nat} (h:ItemsOf P acc n):jd ((List.range n).map f) acc.toList:=by
 have:=Uw hP acc.toList 0 fun j v hj=>by
  rw [Nat.zero_add]
  exact h.2 j v (by rw [← Array.getElem?_toList];exact hj)
 rw [show acc.toList.length=n by rw [Array.length_toList];exact h.1] at this
 simpa using this
end
end L2
namespace L2
open PySem PySem.Spec PyProof.Rows
inductive EqH (K:PySem.W.Frag) (H:Hp):Nat→V→V→Bool→Prop
 | flat {k:Nat} {x y:V} (hx:Qj x=true) (hy:Qj y=true):EqH K H k x y (eqV x y)
 | lst {k:Nat} {p q:Addr} {xs ys:List V} {e:Nat→Bool} (hp:SqL K H p xs) (hq:SqL K H q ys) (hl:xs.length=ys.length) (he:∀ (j:Nat) (x y:V),xs[j]? = some x→ys[j]? = some y→EqH K H k x y (e j)):EqH K H (k + 1) (.ref p) (.ref q) ((List.range xs.length).all e)
 | lstN {k:Nat} {p q:Addr} {xs ys:List V} (hp:SqL K H p xs) (hq:SqL K H q ys) (hl:xs.length ≠ ys.length):EqH K H (k + 1) (.ref p) (.ref q) false
 | tup {k:Nat} {p q:Addr} {xs ys:List V} {e:Nat→Bool} (hp:SqT K H p xs) (hq:SqT K H q ys) (he:∀ (j:Nat) (x y:V),xs[j]? = some x→ys[j]? = some y→EqH K H k x y (e j)):EqH K H (k + 1) (.ref p) (.ref q) ((List.range (min xs.length ys.length)).all e && xs.length == ys.length)
theorem WI {x:V} (h:Qj x=true):eqV x x=true:=by
 cases x <;> first | rfl | (simp [eqV];done) | cases h
theorem Gu {n:Nat} {e:Nat→Bool} (h:∀ j,j < n→e j=true):(List.range n).all e=true:=by
 rw [List.all_eq_true]
 exact fun j hj=>h j (List.mem_range.mp hj)
section
variable {X:Cx} {pins:List (Addr × Obj)} {σ:St} {H:Hp} {s:Shared}
theorem EqH.self (I:Inv X pins σ H s) {k:Nat} {x y:V} {b:Bool} (h:EqH X.K H k x y b) (e:x=y):b=true:=by
 induction h with
 | flat hx hy=>subst e;exact WI hx
 | @lst k p q xs ys f hp hq hl he ih=>
  injection e with e
  subst e
  have:=I.list_inj hp hq
  subst this
  refine Gu fun j hj=>?_
  exact ih j xs[j] xs[j] (List.getElem?_eq_getElem hj) (List.getElem?_eq_getElem hj) rfl
 | lstN hp hq hl=>
  injection e with e
  subst e
  have:=I.list_inj hp hq
  subst this
  exact absurd rfl hl
 | @tup k p q xs ys f hp hq he ih=>
  injection e with e
  subst e
  have:=I.tuple_inj hp hq
  subst this
  rw [Bool.and_eq_true]
  refine ⟨Gu fun j hj=>?_,by simp⟩
  have hj':j < xs.length:=by omega
  exact ih j xs[j] xs[j] (List.getElem?_eq_getElem hj') (List.getElem?_eq_getElem hj') rfl
theorem Pw (A:Around):A.in1.units=A.units + 1:=rfl
theorem cI (I:Inv X pins σ H s) {k:Nat} {x y:V} {b:Bool} (h:EqH X.K H k x y b):∀ (A:Around) (v u:Value),A.units + k < cLine→ud x v→ud y u →
  SeqAt.EqAt A s v u b∧(∀ p q,x=.ref p→y=.ref q→SeqAt.RcAt A s v u b):=by
 induction h with
 | flat hx hy=>
  intro A v u hu rx ry
  refine ⟨SJ rx ry hx hy,fun p q e _=>?_⟩
  subst e
  cases hx
 | @lst k p q xs ys f hp hq hl he ih=>
  intro A v u hu rx ry
  cases rx
  cases ry
  obtain ⟨its,r,pl,hz⟩:=I.list hp
  obtain ⟨jts,r',pl',hz'⟩:=I.list hq
  have l1:=r.length
  have l2:=r'.length
  have rc:SeqAt.RcAt A s (.ref p) (.ref q) ((List.range xs.length).all f):=by
   have:=SeqAt.RcAt.lists (A:=A) (e:=f) pl.isList pl'.isList (by simp only [List.size_toArray];omega) (by omega) fun j h1 h2=>by
    simp only [List.size_toArray] at h1 h2
    have hj:j < xs.length:=by omega
    have hj':j < ys.length:=by omega
    obtain ⟨a,ha,ra⟩:=r.get (List.getElem?_eq_getElem hj)
    obtain ⟨c,hc,rc⟩:=r'.get (List.getElem?_eq_getElem hj')
    have ea:its.toArray[j]=a:=by
     have:=List.getElem?_eq_getElem h1
     rw [ha] at this
     simpa using (Option.some.inj this).symm
    have ec:jts.toArray[j]=c:=by
     have:=List.getElem?_eq_getElem h2
     rw [hc] at this
     simpa using (Option.some.inj this).symm
    rw [ea,ec]
    exact (ih j _ _ (List.getElem?_eq_getElem hj) (List.getElem?_eq_getElem hj') A.in1 a c (by rw [Pw];omega) ra rc).1
   rwa [List.size_toArray,← l1] at this
  refine ⟨?_,fun _ _ _ _=>rc⟩
  by_cases hne:p=q
  ·have hb:=(EqH.lst hp hq hl he).self I (congrArg V.ref hne)
   rw [hb,hne]
   exact SeqAt.EqAt.same _
  ·exact SeqAt.EqAt.of_refs hne rc
 | @lstN k p q xs ys hp hq hl=>
  intro A v u hu rx ry
  cases rx
  cases ry
  obtain ⟨its,r,pl,hz⟩:=I.list hp
  obtain ⟨jts,r',pl',hz'⟩:=I.list hq
  have l1:=r.length
  have l2:=r'.length
  have rc:SeqAt.RcAt A s (.ref p) (.ref q) false:=SeqAt.RcAt.lists_lengths pl.isList pl'.isList (by simp only [List.size_toArray,bne_iff_ne,ne_eq];omega) (by omega)
  refine ⟨SeqAt.EqAt.of_refs (fun e=>hl ?_) rc,fun _ _ _ _=>rc⟩
  subst e
  rw [I.list_inj hp hq]
 | @tup k p q xs ys f hp hq he ih=>
  intro A v u hu rx ry
  cases rx
  cases ry
  obtain ⟨its,r,pl,hz⟩:=I.tuple hp
  obtain ⟨jts,r',pl',hz'⟩:=I.tuple hq
  have l1:=r.length
  have l2:=r'.length
  have rc:SeqAt.RcAt A s (.ref p) (.ref q) ((List.range (min xs.length ys.length)).all f && xs.length == ys.length):=by
   have:=SeqAt.RcAt.tuples (A:=A) (e:=f) pl pl' (by omega) fun j h1 h2=>by
    simp only [List.size_toArray] at h1 h2
    have hj:j < xs.length:=by omega
    have hj':j < ys.length:=by omega
    obtain ⟨a,ha,ra⟩:=r.get (List.getElem?_eq_getElem hj)
    obtain ⟨c,hc,rc⟩:=r'.get (List.getElem?_eq_getElem hj')
    have ea:its.toArray[j]=a:=by
     have:=List.getElem?_eq_getElem h1
     rw [ha] at this
     simpa using (Option.some.inj this).symm
    have ec:jts.toArray[j]=c:=by
     have:=List.getElem?_eq_getElem h2
     rw [hc] at this
     simpa using (Option.some.inj this).symm
    rw [ea,ec]
    exact (ih j _ _ (List.getElem?_eq_getElem hj) (List.getElem?_eq_getElem hj') A.in1 a c (by rw [Pw];omega) ra rc).1
   rwa [List.size_toArray,List.size_toArray,← l1,← l2] at this
  refine ⟨?_,fun _ _ _ _=>rc⟩
  by_cases hne:p=q
  ·have hb:=(EqH.tup hp hq he).self I (congrArg V.ref hne)
   rw [hb,hne]
   exact SeqAt.EqAt.same _
  ·exact SeqAt.EqAt.of_refs hne rc
end
section
variable {X:Cx} {pins:List (Addr × Obj)} {σ:St} {H:Hp} {s:Shared}
end
section
variable {X:Cx}
noncomputable def VR (K:PySem.W.Frag):R2:=fun x y H Q=>∃ p q b,x=.ref p∧y=.ref q∧EqH K H 8 (.ref p) (.ref q) b∧Q (.bl (!b)) H
noncomputable def xR (K:PySem.W.Frag):R2:=fun x y H Q=>∃ p q b,x=.ref p∧y=.ref q∧EqH K H 8 (.ref p) (.ref q) b∧Q (.bl b) H
theorem QP (hU:X.A.units + 64 < cLine):OpR X (compareOp .Eq) (xR X.K):=by
 intro pins s σ H x y v u Q I rx ry h
 obtain ⟨p,q,b,rfl,rfl,hE,q'⟩:=h
 exact (cI I hE X.A v u (by omega) rx ry).2 p q rfl rfl _ _ _ _ ⟨.bl b,H,I,rfl,q'⟩
end
theorem EqH.mono {K:PySem.W.Frag} {H:Hp} {j k:Nat} {x y:V} {b:Bool} (h:EqH K H j x y b):j ≤ k→EqH K H k x y b:=by
 induction h generalizing k with
 | flat hx hy=>exact fun _=>.flat hx hy
 | lst hp hq hl he ih=>
  intro hk
  obtain ⟨m,rfl⟩:∃ m,k=m + 1:=⟨k - 1,by omega⟩
  exact .lst hp hq hl fun j x y h1 h2=>ih j x y h1 h2 (by omega)
 | lstN hp hq hl=>
  intro hk
  obtain ⟨m,rfl⟩:∃ m,k=m + 1:=⟨k - 1,by omega⟩
  exact .lstN hp hq hl
 | tup hp hq he ih=>
  intro hk
  obtain ⟨m,rfl⟩:∃ m,k=m + 1:=⟨k - 1,by omega⟩
  exact .tup hp hq fun j x y h1 h2=>ih j x y h1 h2 (by omega)
noncomputable def jQ:V→V→Bool
 | .int _,.int _=>true
 | .str _,.str _=>true
 | .bl _,.bl _=>true
 | .non,.non=>true
 | _,_=>false
theorem cy {x y:V} (h:jQ x y=true):Qj x=true∧Qj y=true∧eqV x y=decide (x=y):=by
 cases x <;> cases y <;> first | (exfalso;simp [jQ] at h;done) | (refine ⟨rfl,rfl,?_⟩;rfl) | (refine ⟨rfl,rfl,?_⟩;rw [Bool.eq_iff_iff];simp [eqV];done)
theorem EqH.flats {K:PySem.W.Frag} {H:Hp} {k:Nat} {p q:Addr} {xs ys:List V} (hp:SqL K H p xs) (hq:SqL K H q ys) (h:∀ x ∈ xs,∀ y ∈ ys,jQ x y=true):EqH K H (k + 1) (.ref p) (.ref q) (decide (xs=ys)):=by
 by_cases hl:xs.length=ys.length
 ·have hd:decide (xs=ys)=(List.range xs.length).all fun j=>eqV (xs.getD j .non) (ys.getD j .non):=by
   rw [Bool.eq_iff_iff,decide_eq_true_eq,List.all_eq_true]
   constructor
   ·rintro rfl j hj
    have hj':=List.mem_range.mp hj
    have hm:xs.getD j .non ∈ xs:=by rw [List.getD_eq_getElem?_getD,List.getElem?_eq_getElem hj'];exact List.getElem_mem hj'
    rw [(cy (h _ hm _ hm)).2.2,decide_eq_true rfl]
   ·intro z
    refine List.ext_getElem hl fun j h1 h2=>?_
    have:=z j (List.mem_range.mpr h1)
    rw [List.getD_eq_getElem?_getD,List.getD_eq_getElem?_getD,List.getElem?_eq_getElem h1,List.getElem?_eq_getElem h2] at this
    have w:eqV xs[j] ys[j]=true:=this
    rw [(cy (h _ (List.getElem_mem h1) _ (List.getElem_mem h2))).2.2,decide_eq_true_eq] at w
    exact w
  rw [hd]
  refine .lst hp hq hl fun j x y h1 h2=>?_
  have e:=cy (h x (List.mem_of_getElem? h1) y (List.mem_of_getElem? h2))
  rw [List.getD_eq_getElem?_getD,List.getD_eq_getElem?_getD,h1,h2]
  exact .flat e.1 e.2.1
 ·rw [decide_eq_false (fun z=>hl (by rw [z]))]
  exact .lstN hp hq hl
end L2
namespace L2
open PySem PySem.Spec PyProof.Rows PySem.Builtin PySem.Builtin.ObjectAttr
theorem lJ {H:Hp} {a:Addr} {o:HO} (h:H a=some o):upd H a o=H:=by
 funext b
 unfold upd
 by_cases e:b=a
 ·rw [if_pos e,e,h]
 ·rw [if_neg e]
noncomputable abbrev bmV:List Value:=[.type "ValueError",.type "Exception",.type "BaseException",.type "object"]
noncomputable def Fu (K:PySem.W.Frag) (C fI:Addr):Bool:=
 match K.lookup C with
 | some ⟨.type "type",_,.cls cd,sl⟩=>
  match cd.mro,sl.toList with
  | .ref D :: tl,[_,_,_,_,some (.builtin n),_]=>
   (D == C) && (n == "ValueError.__new__") && (cd.hasDel == false) && (cd.hasDict == true) && PySem.W.tailIn K bmV tl && PySem.W.nsOkIn K cd.ns && (PySem.W.nsIn K cd.ns "__init__" == some (some (.ref fI)))
  | _,_=>false
 | _=>false
theorem sM {K:PySem.W.Frag} {h:Heap} {N:Addr} {mN:Str→Option Value} {x:Str} {v:Value} (KX:K.In h) (G:h.Ns N mN) (e:PySem.W.nsIn K N x=some (some v)):mN x=some v:=by
 obtain ⟨ob,rows,ep,e1,e2,_,look⟩:=G
 unfold PySem.W.nsIn at e
 split at e
 ·rename_i ho
  have z:=KX _ _ ho
  rw [e1] at z
  cases z
  cases e2
  split at e
  ·rename_i en he
   cases e
   rw [← look]
   unfold nsFind findBy
   rw [← Array.find?_toList,he];rfl
  ·split at e <;> cases e
 ·cases e
theorem jv {K:PySem.W.Frag} {h:Heap} {C fI:Addr} (KX:K.In h) (e:Fu K C fI=true) :
  ∃ tl N nm q bs sn sub ab co dd k0 k1 k2 k3 k5 mN,h.get? C=some (excClassObj nm q C N bs tl true sn sub ab co dd k0 k1 k2 k3 k5 "ValueError.__new__")∧h.Ns N mN∧mN "__init__"=some (.ref fI)∧OwnTail h bmV tl:=by
 unfold Fu at e
 split at e
 ·rename_i dd cd sl ho
  split at e
  ·rename_i D tl k0 k1 k2 k3 n k5 hm hs
   simp only [Bool.and_eq_true,beq_iff_eq] at e
   obtain ⟨⟨⟨⟨⟨⟨e1,e2⟩,e3⟩,e4⟩,e5⟩,e6⟩,e7⟩:=e
   obtain ⟨nm,bs,mro,ns,qn,hd,sn,sub,ab,co,del⟩:=cd
   simp only at hm e3 e4 e6 e7
   subst hm e1 e2 e3 e4
   obtain ⟨l⟩:=sl
   simp only at hs
   subst hs
   have G:h.Ns ns (h.nsMap ns):=.of_isNs (PySem.W.isNs_of_in KX e6)
   exact ⟨tl,ns,nm,qn,bs,sn,sub,ab,co,dd,k0,k1,k2,k3,k5,h.nsMap ns,KX _ _ ho,G,sM KX G e7,PySem.W.tail_of_in KX e5⟩
  ·cases e
 ·cases e
section
variable {P:Program} {w:World} {A:Around} {h:Heap} {g:Array GenState} {d:Drawn} {t:Nat} {os:OsState} {K:PySem.W.Frag} {C fI:Addr} {R:Result→Shared→Prop}
theorem mD {us:List Value} (KX:K.In h) (e:Fu K C fI=true) (hf:PySem.W.typeIn K (.ref fI)=some (.type "function")) (hz:us.length ≤ sizeLine)
  (hq:∀ h' x,h.objs.size ≤ x→Heap.MadeExcOf h h' x (.ref C) us→codeAny (model P w) (A.under (.builtin "type.__call__" ⟨.ref C :: us,[]⟩)) (.call (.ref fI) ⟨.ref x :: us,[]⟩) (PySem.W.InitBack x R) ⟨h',g,d,t,os⟩) :
  codeAny (model P w) A (.call (.ref C) ⟨us,[]⟩) R ⟨h,g,d,t,os⟩:=by
 obtain ⟨tl,N,nm,q,bs,sn,sub,ab,co,dd,k0,k1,k2,k3,k5,mN,hC,hN,hi,T⟩:=jv KX e
 have F:=PySem.F.excBase_ValueError
 have f1:=tc_lookup
 have f2:=tc_bind (.ref C)
 have ty:(⟨h,g,d,t,os⟩:Shared).TypeIs (.ref C) "type" := ⟨_,hC,rfl⟩
 refine codeAny_of_tree ?_
 show wpAny _ _ (callAny (.ref C) _) _ _ _
 repeat (any_goals (first | assumption | with_reducible refine wpAny_loadPart_at hC ?_ | wp_step))
 refine ⟨rfl,?_⟩
 refine codeAny_call_builtin_at (Code.quiet_builtin _ (by decide +kernel)) entry_typeCall (wpAny_check_type_call_sub hC ?_)
 repeat (first | with_reducible refine wpAny_loadPart_at hC ?_ | with_reducible refine wpAny_madeBy_exc hC ?_ | wp_step)
 refine codeAny_call_builtin_code (Code.quiet_builtin _ F.quiet) (wpAny_check_new_subT F T hC ?_)
 refine codeAny_exc_new_subT (rest:=us) F T hC ?_ hz
 show wpAny _ _ _ _ _ _
 generalize hh:(h.push { cls:=.type "tuple",data:=.seq us.toArray }).push { cls:=.ref C,data:=.fields #[.ref h.objs.size,.none,.none,.none,.bool false,.none] }=h2
 have k:∀ b o,h.get? b=some o→h2.get? b=some o:=fun b o z=>by rw [← hh];exact Heap.get?_push_of_some _ (Heap.get?_push_of_some _ z)
 have hx:h2.get? (h.objs.size + 1)=some { cls:=.ref C,data:=.fields #[.ref h.objs.size,.none,.none,.none,.bool false,.none] }:=by rw [← hh];heap_get
 have ht:h2.get? h.objs.size=some { cls:=.type "tuple",data:=.seq us.toArray }:=by rw [← hh];exact Heap.get?_push_of_some _ (Heap.get?_push_at rfl rfl)
 have M:Heap.MadeExcOf h h2 (h.objs.size + 1) (.ref C) us:=⟨k,Heap.get?_none_of_le (Nat.le_succ _),h.objs.size,hx,Heap.get?_none_of_le (Nat.le_refl _),ht⟩
 have cC:(Value.ref C :: tl).contains (.ref C)=true:=by simp
 unfold isInstance
 repeat (first | with_reducible refine wpAny_loadPart_at hx ?_ | wp_step)
 refine wpAny_isSubtype_exc (k _ _ hC) ?_
 rw [cC]
 repeat wp_step
 show wpAny _ _ (typeLookup (.ref C) _) _ _ _
 refine wpAny_typeLookup_tail (k _ _ hC) (hN.keeps k) (T.keeps k) F.mroIs F.init.lookup ?_
 rw [hi]
 refine wpAny_holding (wpAny_bind ((PySem.W.bind_fn (KX.keeps k) _ hf).here (wpAny_bind (wpAny_call ?_))))
 refine codeAny_mono (hq h2 _ (Nat.le_succ _) M) fun r s' z=>?_
 rcases r with e | (v | _ | _ | _) <;> first | exact z | exact z.elim | skip
 obtain ⟨rfl,z⟩:=z
 exact wpAny_pure (wpAny_pure z)
end
noncomputable def LE:List Value→Bool
 | .ref _ :: r=>LE r
 | l=>l == bmV
theorem zj (self:Value):refuseLoop self "__setattr__" bmV=pure ():=by kernel_rfl
theorem Yo (self:Value):∀ {l:List Value},LE l=true→refuseLoop self "__setattr__" l=pure ()
 | .ref c :: r,e=>by rw [refuseLoop_ref];exact Yo self (l:=r) e
 | [],e=>by cases e
 | .type n :: r,e=>by rw [show Value.type n :: r=bmV from beq_iff_eq.mp e];exact zj self
 | .none :: r,e=>by rw [show Value.none :: r=bmV from beq_iff_eq.mp e];exact zj self
 | .bool b :: r,e=>by rw [show Value.bool b :: r=bmV from beq_iff_eq.mp e];exact zj self
 | .int b c :: r,e=>by rw [show Value.int b c :: r=bmV from beq_iff_eq.mp e];exact zj self
 | .str b c :: r,e=>by rw [show Value.str b c :: r=bmV from beq_iff_eq.mp e];exact zj self
 | .bytes b c :: r,e=>by rw [show Value.bytes b c :: r=bmV from beq_iff_eq.mp e];exact zj self
 | .float b c :: r,e=>by rw [show Value.float b c :: r=bmV from beq_iff_eq.mp e];exact zj self
 | .builtin b :: r,e=>by rw [show Value.builtin b :: r=bmV from beq_iff_eq.mp e];exact zj self
theorem vq (T:String) (h:bmV.contains (.type T)=true):∀ {l:List Value},LE l=true→l.contains (.type T)=true
 | .ref c :: r,e=>by rw [List.contains_cons,vq T h (l:=r) e,Bool.or_true]
 | [],e=>by cases e
 | .type n :: r,e=>by rw [show Value.type n :: r=bmV from beq_iff_eq.mp e];exact h
 | .none :: r,e=>by rw [show Value.none :: r=bmV from beq_iff_eq.mp e];exact h
 | .bool b :: r,e=>by rw [show Value.bool b :: r=bmV from beq_iff_eq.mp e];exact h
 | .int b c :: r,e=>by rw [show Value.int b c :: r=bmV from beq_iff_eq.mp e];exact h
 | .str b c :: r,e=>by rw [show Value.str b c :: r=bmV from beq_iff_eq.mp e];exact h
 | .bytes b c :: r,e=>by rw [show Value.bytes b c :: r=bmV from beq_iff_eq.mp e];exact h
 | .float b c :: r,e=>by rw [show Value.float b c :: r=bmV from beq_iff_eq.mp e];exact h
 | .builtin b :: r,e=>by rw [show Value.builtin b :: r=bmV from beq_iff_eq.mp e];exact h
structure ut (K:PySem.W.Frag) (C:Addr):Prop where
 hd:PySem.W.hasDictIn K C=true
 ov:((PySem.W.clsIn K C).any fun cd=>LE cd.mro)=true
 sa:PySem.W.findIn K (.ref C) "__setattr__"=some (some (.builtin "object.__setattr__"))
 ga:PySem.W.findIn K (.ref C) "__getattribute__"=some (some (.builtin "BaseException.__getattribute__"))
 gt:PySem.W.findIn K (.ref C) "__getattr__"=some none
 ex:∃ fI,Fu K C fI=true
noncomputable def XF (x C:Addr) (od:Option Addr):Heap→Prop:=fun h=>∃ vs sl,h.get? x=some ⟨.ref C,od,.fields vs,sl⟩∧1 < vs.size∧vs[1]? = some .none
noncomputable def XD (dx:Addr) (fs:List (Str × V)):Heap→Prop:=fun h=>∃ mA,h.Ns1 dx mA∧(∀ f,Bs (fs.lookup f) (mA f))∧PySem.Within mA (fs.map (·.1))
theorem XF.at {x C:Addr} {od:Option Addr} {h h':Heap} (z:XF x C od h) (k:∀ o,h.get? x=some o→h'.get? x=some o):XF x C od h':=let ⟨vs,sl,e,r⟩:=z;⟨vs,sl,k _ e,r⟩
theorem XD.at {dx:Addr} {fs:List (Str × V)} {h h':Heap} (z:XD dx fs h) (k:∀ o,h.get? dx=some o→h'.get? dx=some o):XD dx fs h':=let ⟨mA,e,r⟩:=z;⟨mA,e.at k,r⟩
theorem XF.ok {P:Program} {w:World} {H:Hp} {h:Heap} {x C:Addr} {od:Option Addr} (z:XF x C od h):gd P w H h x (.ext (XF x C od)):=by
 obtain ⟨vs,sl,e,r⟩:=id z
 exact ⟨z,⟨_,e⟩,fun h1 h2 q k=>q.at k⟩
theorem XD.ok {P:Program} {w:World} {H:Hp} {h:Heap} {dx:Addr} {fs:List (Str × V)} (z:XD dx fs h):gd P w H h dx (.ext (XD dx fs)):=by
 obtain ⟨mA,⟨o,es,ep,e,_⟩,_⟩:=id z
 exact ⟨z,⟨_,e⟩,fun h1 h2 q k=>q.at k⟩
section
variable {prog:Program} {w:World} {A:Around} {E:Value→Shared→Prop} {K:PySem.W.Frag} {C x:Addr} {s:Shared} {R:Result→Shared→Prop}
theorem FR {ox:Obj} {od:Option Obj} {name:Str} {tk:Tok} {v:Value} (KX:K.In s.heap) (J:PySem.W.InstAt s.heap x ox C od) (c:ut K C) (ht:Fb K C name)
  (h:wpAny (model prog w) A.in1 (storeInOwnDict (.ref x) (.ref C) (.str name tk) name v false)
   (fun fin s'=>match fin with | .done f=>R (.ok f) s' | .again c'=>c'.quiet=true∧codeAny (model prog w) A c' R s') (fun e s'=>R (.error e) s') s) :
  codeAny (model prog w) A (.call (.builtin "object.__setattr__") ⟨[.ref x,.str name tk,v],[]⟩) R s:=by
 have G:=PySem.F.store_object
 obtain ⟨cd,hc,ho⟩:=PySem.W.any_some c.ov
 have ne:cd.mro.isEmpty=false:=by
  cases q:cd.mro with
  | nil=>rw [q] at ho;cases ho
  | cons _ _=>rfl
 have sub:PySem.W.Looks (model prog w) s.heap (isInstance (.ref x) (.type "object")) true:=
  J.type.andThen (PySem.W.looks_mroIn KX (by unfold PySem.W.mroIn;rw [hc,Option.bind_some,if_neg (by rw [ne];decide),vq "object" (by decide) ho]))
 refine codeAny_call_builtin G.slot.plain G.entry (@PySem.W.check_slot (model prog w) _ _ s "object.__setattr__" "object" "__setattr__" (.ref x) [.str name tk,v] [] _ G.kind G.split sub (G.args (.ref x) (.str name tk) v) ?_)
 have hm:PySem.W.Looks (model prog w) s.heap (mroOf (.ref C)) cd.mro:=(PySem.W.looks_clsIn KX hc).andThen .now
 rw [PySem.W.osa_eq,refuse_eq]
 refine wpAny_bind (wpAny_bind (J.type.here (wpAny_bind (hm.here ?_))))
 rw [Yo _ ho]
 exact wpAny_pure (wpAny_bind (J.type.here (wpAny_bind ((PySem.W.looks_findIn KX ht).here (wpAny_bind (wpAny_pure h))))))
end
section
variable {X:Cx} {pins:List (Addr × Obj)} {σ:St} {H:Hp} {s:Shared} {x C dx:Addr} {fs:List (Str × V)} {f:Str} {y:V} {u:Value} {A:Around} {E:Value→Shared→Prop} {Q:Unit→Shared→Prop}
theorem SI (I:Inv X pins σ H s) (e:H x=some (.ext (XF x C none))) (c:ut X.K C) (n:Fb X.K C f) (ry:ud y u)
  (h:∀ dx s',H dx=none→dx ≠ x→Inv X pins σ (upd (upd H x (.ext (XF x C (some dx)))) dx (.ext (XD dx [(f,y)]))) s'→Q () s'):wpAny (model X.prog X.w) A (setAttr (.ref x) f u) Q E s:=by
 obtain ⟨vs,sl,hx,z1,z2⟩:=(show gd X.prog X.w H s.heap x (.ext (XF x C none)) from I.hok _ _ e).1
 have J:PySem.W.InstAt s.heap x ⟨.ref C,none,.fields vs,sl⟩ C none:=⟨hx,rfl,rfl,True.intro⟩
 refine PySem.W.set_plain I.kIn J c.sa (FR (s:={ s with toks:=s.toks + 1 }) I.kIn J c n ?_)
 obtain ⟨cd,hc,hd'⟩:=PySem.W.any_some c.hd
 refine wpAny_bind (wpAny_pure (wpAny_bind (wpAny_bind (wpAny_loadPart hx (wpAny_bind (PySem.W.Looks.here (s:={ s with toks:=s.toks + 1 }) (PySem.W.looks_clsIn I.kIn hc) ?_))))))
 rw [hd']
 show wpAny _ _ (alloc PySem.W.emptyDict >>= fun d=>(update x fun o=>{ o with dict:=some d }) >>= fun _=>dictMade (.ref C) x d) _ _ _
 refine wpAny_bind (wpAny_alloc (wpAny_bind ?_))
 have hx1:(s.heap.push PySem.W.emptyDict).get? x=some ⟨.ref C,none,.fields vs,sl⟩:=Heap.get?_push_of_some _ hx
 have lx:x < s.heap.objs.size:=Heap.lt_size hx
 refine wpAny_update hx1 (wpAny_pure ?_)
 have e1:(s.heap.push PySem.W.emptyDict).get? s.heap.objs.size=some PySem.W.emptyDict:=Heap.get?_push_size s.heap rfl
 have e3:(s.heap.push PySem.W.emptyDict).Ns s.heap.objs.size (fun _=>none):=⟨PySem.W.emptyDict,#[],_,e1,rfl,(fun e he=>absurd he (by simp)),fun _=>rfl⟩
 generalize hg2:(s.heap.push PySem.W.emptyDict).update x (fun o=>{ o with dict:=some s.heap.objs.size })=h2
 have nx:s.heap.objs.size ≠ x:=Nat.ne_of_gt lx
 have k2:∀ b,b ≠ x→h2.get? b=(s.heap.push PySem.W.emptyDict).get? b:=fun b hb=>by rw [← hg2];exact Heap.get?_update_other _ _ (Ne.symm hb)
 have x2:h2.get? x=some ⟨.ref C,some s.heap.objs.size,.fields vs,sl⟩:=by rw [← hg2];exact Heap.get?_update_self _ hx1 rfl
 have n2:h2.Ns1 s.heap.objs.size (fun _=>none):=(Heap.Ns1.of_empty e3).at fun o q=>(k2 _ nx).trans q
 refine wpAny_bind (wpAny_pure (wpAny_bind ?_))
 refine wpAny_nsSet1 (s:={ s with heap:=h2,toks:=s.toks + 1 }) n2 fun h3 n3 s3=>?_
 have wi:PySem.Within (fun a=>if a=f then some u else none) [f]:=PySem.Within.cons f u (fun a ha=>absurd rfl ha)
 obtain ⟨oD,esD,epD,hoD,hdD,hcD⟩:=n3.count wi
 refine wpAny_bind (wpAny_lookBehind hoD (by rw [hdD];exact pastItsLine_dict (Nat.le_trans hcD (by rw [sizeLine_eq];show 1 ≤ _;decide))) ?_)
 refine wpAny_pure (h s.heap.objs.size _ (I.hok.fresh (Nat.le_refl _)) nx ?_)
 have k3:∀ b o,b ≠ x→s.heap.get? b=some o→h3.get? b=some o:=fun b o hb q=>
  (s3.2 b (fun z=>by rw [z] at q;exact absurd (Heap.lt_size q) (Nat.lt_irrefl _))).trans ((k2 b hb).trans (Heap.get?_push_of_some _ q))
 have x3:h3.get? x=some ⟨.ref C,some s.heap.objs.size,.fields vs,sl⟩:=(s3.2 x (Ne.symm nx)).trans x2
 generalize hgA:s.heap.update x (fun o=>{ o with dict:=some s.heap.objs.size })=hA
 have kA:∀ b,b ≠ x→hA.get? b=s.heap.get? b:=fun b hb=>by rw [← hgA];exact Heap.get?_update_other _ _ (Ne.symm hb)
 have xA:hA.get? x=some ⟨.ref C,some s.heap.objs.size,.fields vs,sl⟩:=by rw [← hgA];exact Heap.get?_update_self _ hx rfl
 have szA:hA.objs.size=s.heap.objs.size:=by rw [← hgA];exact Heap.size_update _ _ _
 have IA:=I.write (x:=x) (e:=x) (o:=.ext (XF x C (some s.heap.objs.size))) (h':=hA) (t':=s.toks) (by rw [e];exact True.intro) (.inl rfl) (fun b o hb q=>(kA b hb).trans q) ⟨_,xA⟩ (XF.ok ⟨vs,sl,xA,z1,z2⟩)
 refine IA.laid (a:=s.heap.objs.size) (h':=h3) (fun b o q=>?_) (Nat.le_of_eq szA) (XD.ok ⟨_,n3,fun g=>?_,wi⟩)
 ·by_cases hb:b=x
  ·subst hb;rw [xA] at q;rw [x3,← q]
  ·rw [kA b hb] at q;exact k3 b o hb q
 ·show Bs (List.lookup g [(f,y)]) (if g=f then some u else none)
  by_cases hq:g=f
  ·rw [if_pos hq,hq,List.lookup_cons_self];exact ry
  ·rw [if_neg hq,List.lookup_cons,beq_false_of_ne hq];exact True.intro
theorem AD (I:Inv X pins σ H s) (e:H x=some (.ext (XF x C (some dx)))) (ed:H dx=some (.ext (XD dx fs))) (c:ut X.K C) (n:Fb X.K C f) (hl:fs.length < 1000) (ry:ud y u)
  (h:∀ s',Inv X pins σ (upd H dx (.ext (XD dx (Qg f y fs)))) s'→Q () s'):wpAny (model X.prog X.w) A (setAttr (.ref x) f u) Q E s:=by
 obtain ⟨vs,sl,hx,z1,z2⟩:=(show gd X.prog X.w H s.heap x (.ext (XF x C (some dx))) from I.hok _ _ e).1
 obtain ⟨mA,n1,r,wi⟩:=(show gd X.prog X.w H s.heap dx (.ext (XD dx fs)) from I.hok _ _ ed).1
 obtain ⟨od,ho,hlk⟩:=zr n1
 have J:PySem.W.InstAt s.heap x ⟨.ref C,some dx,.fields vs,sl⟩ C (some od):=⟨hx,rfl,rfl,ho⟩
 refine PySem.W.set_plain I.kIn J c.sa (FR (s:={ s with toks:=s.toks + 1 }) I.kIn J c n ?_)
 obtain ⟨cd,hc,hd'⟩:=PySem.W.any_some c.hd
 refine wpAny_bind (wpAny_pure (wpAny_bind (wpAny_bind (wpAny_loadPart hx (wpAny_bind (PySem.W.Looks.here (s:={ s with toks:=s.toks + 1 }) (PySem.W.looks_clsIn I.kIn hc) ?_))))))
 rw [hd']
 refine wpAny_pure (a:=some dx) (wpAny_bind (wpAny_pure (wpAny_bind ?_)))
 refine wpAny_nsSet1 (s:={ s with toks:=s.toks + 1 }) n1 fun h3 n3 s3=>?_
 obtain ⟨oD,esD,epD,hoD,hdD,hcD⟩:=n3.count (PySem.Within.cons f u wi)
 refine wpAny_bind (wpAny_lookBehind hoD (by rw [hdD];exact pastItsLine_dict (Nat.le_trans hcD (by rw [List.length_cons,List.length_map,sizeLine_eq];omega))) ?_)
 refine wpAny_pure (h _ ?_)
 refine I.write (x:=dx) (e:=dx) (by rw [ed];exact True.intro) (.inl rfl) (fun b o hb q=>(s3.2 b hb).trans q) ⟨_,hoD⟩ (XD.ok ⟨_,n3,fun g=>?_,fun g hg=>?_⟩)
 ·show Bs ((Qg f y fs).lookup g) (if g=f then some u else mA g)
  rw [Rl]
  by_cases q:g=f
  ·rw [if_pos q,if_pos q];exact ry
  ·rw [if_neg q,if_neg q];exact r g
 ·by_cases q:g=f
  ·rw [q];exact (Hj f y fs).1
  ·refine (Hj f y fs).2 g (wi g fun z=>hg ?_)
   show (if g=f then some u else mA g)=none
   rw [if_neg q];exact z
noncomputable def XA (x C:Addr) (od:Option Addr):Heap→Prop:=fun h=>∃ vs sl,h.get? x=some ⟨.ref C,od,.fields vs,sl⟩
theorem XA.at {x C:Addr} {od:Option Addr} {h h':Heap} (z:XA x C od h) (k:∀ o,h.get? x=some o→h'.get? x=some o):XA x C od h':=let ⟨vs,sl,e⟩:=z;⟨vs,sl,k _ e⟩
theorem XA.ok {P:Program} {w:World} {H:Hp} {h:Heap} {x C:Addr} {od:Option Addr} (z:XA x C od h):gd P w H h x (.ext (XA x C od)):=by
 obtain ⟨vs,sl,e⟩:=id z
 exact ⟨z,⟨_,e⟩,fun h1 h2 q k=>q.at k⟩
theorem yS {b:Bool} {Q:Value→Shared→Prop} (I:Inv X pins σ H s) (e:H x=some (.ext (XA x C (some dx)))) (ed:H dx=some (.ext (XD dx fs))) (c:ut X.K C) (n:Fb X.K C f) (l:fs.lookup f=some y)
  (h:∀ u s',Inv X pins σ H s'→ud y u→Q u s'):wpAny (model X.prog X.w) A (getAttr (.ref x) f b) Q E s:=by
 obtain ⟨vs,sl,hx⟩:=(show gd X.prog X.w H s.heap x (.ext (XA x C (some dx))) from I.hok _ _ e).1
 obtain ⟨mA,n1,r,wi⟩:=(show gd X.prog X.w H s.heap dx (.ext (XD dx fs)) from I.hok _ _ ed).1
 obtain ⟨od,ho,hlk⟩:=zr n1
 obtain ⟨u,hu,ru⟩:=Bs.some_of (v:=y) (o:=mA f) (by rw [← l];exact r f)
 have J:PySem.W.InstAt s.heap x ⟨.ref C,some dx,.fields vs,sl⟩ C (some od):=⟨hx,rfl,rfl,ho⟩
 have fin:=h u _ (I.tok (s.toks + 1)) ru
 have KX:=I.kIn
 clear h
 obtain ⟨cd,hc,hd'⟩:=PySem.W.any_some c.hd
 obtain ⟨cd',hc',hov⟩:=PySem.W.any_some c.ov
 rw [hc] at hc'
 cases hc'
 have hh:=Ix ru
 obtain ⟨hp,g,d,t,os⟩:=s
 have L0:=J.type (M:=model X.prog X.w)
 have L1:=PySem.W.looks_findIn (M:=model X.prog X.w) KX c.ga
 have L2:=PySem.W.looks_findIn (M:=model X.prog X.w) KX c.gt
 have L3:=PySem.W.looks_findIn (M:=model X.prog X.w) KX n
 have L4:=PySem.W.looks_own (M:=model X.prog X.w) (name:=f) (r:=some u) KX J hc (by unfold PySem.W.ownOf;rw [if_pos hd'];show PySem.W.lookIn f od=_;rw [hlk,hu])
 have FB:=PySem.F.excAttr_ValueError
 have f3:=FB.ga.bind (.ref x)
 have hx0:(b && onTheHeap (Value.builtin "BaseException.__getattribute__"))=false:=by cases b <;> rfl
 have hx2:(Value.builtin "BaseException.__getattribute__" == Value.builtin "object.__getattribute__")=false:=by decide +kernel
 have hx1:(onTheHeap (Value.ref C) && Value.builtin "BaseException.__getattribute__" == Value.builtin "object.__getattribute__")=false:=by rw [hx2];rfl
 unfold getAttr getAttrBy
 refine wpAny_bind (wpAny_mkText (wpAny_holding (wpAny_bind (L0.at (wpAny_bind (L1.at ?_))))))
 dsimp only
 rw [if_neg (by rw [hx1];decide)]
 unfold getAttrByItsOwn
 repeat (any_goals (first | assumption | with_reducible refine PySem.W.Looks.at (by assumption) ?_ | wp_step))
 have ne:cd.mro.isEmpty=false:=by
  cases q:cd.mro with
  | nil=>rw [q] at hov;cases hov
  | cons _ _=>rfl
 have sub:PySem.W.Looks (model X.prog X.w) hp (isInstance (.ref x) (.type "BaseException")) true:=
  L0.andThen (PySem.W.looks_mroIn KX (by unfold PySem.W.mroIn;rw [hc,Option.bind_some,if_neg (by rw [ne];decide),vq "BaseException" (by decide) hov]))
 refine codeAny_call_builtin FB.ga.plain PySem.F.entry_bexc_ga (@PySem.W.check_slot (model X.prog X.w) _ _ ⟨hp,g,d,t + 1,os⟩ "BaseException.__getattribute__" "BaseException" "__getattribute__" (.ref x) [.str f t] [] _ (by decide +kernel) (by decide +kernel) sub (PySem.F.args_bexc_ga (.ref x) (.str f t)) ?_)
 unfold Builtin.«object.__getattribute__»
 repeat (any_goals (first | assumption | with_reducible refine PySem.W.Looks.at (by assumption) ?_ | wp_step))
 show wpAny _ _ (handedOut u) _ _ _
 rw [PySem.W.handedOut_of hh]
 exact wpAny_pure fin
end
noncomputable abbrev TJ:=St→Hp→(Hp→Prop)→Prop
noncomputable def PJ (X:Cx) (es:List Expr) (n:Nat) (t:TJ):Prop:=
 ∀ (pins:List (Addr × Obj)) (s:Shared) (σ:St) (H:Hp) (Q:Hp→Prop) (acc:Str) (R:Str→Shared→Prop),Inv X pins σ H s→acc.length + n ≤ sizeLine→t σ H Q →
  (∀ out H' s',Inv X pins σ H' s'→out.length ≤ sizeLine→Q H'→R out s')→Joins (model X.prog X.w) X.A X.xe (evalEach es X.env) acc R s
noncomputable def tJ0:TJ:=fun _ H Q=>Q H
noncomputable def tJI (te:TE) (t:TJ):TJ:=fun σ H Q=>te σ H fun v H1=>∃ i,v=.int i∧i.natAbs.log2 < 1920∧t σ H1 Q
noncomputable def tJS (te:TE) (t:TJ):TJ:=fun σ H Q=>te σ H fun v H1=>∃ x,v=.str x∧x.length ≤ 1000∧t σ H1 Q
noncomputable def tJR (te:TE) (t:TJ):TJ:=fun σ H Q=>te σ H fun v H1=>∃ x,v=.str x∧x.length ≤ 1000∧(∀ c ∈ x.cps.toList,c < 16 ^ 8)∧t σ H1 Q
noncomputable def yC (t:TJ):TE:=fun σ H Q=>t σ H fun H1=>∀ y:Str,Q (.str y) H1
section
variable {X:Cx} {e:Expr} {es:List Expr} {n:Nat} {t:TJ} {te:TE} {pos:Pos}
theorem vA:PJ X [] 0 tJ0:=fun pins s σ H Q acc R I hl q h=>h acc H s I hl q
theorem Dh {c:Str} {k:Nat} (h:PJ X es n t):PJ X (.Constant (.str c) k pos :: es) (n + c.length) t:=fun pins s σ H Q acc R I hl q hR=>by
 show wpAny _ _ _ _ _ _
 refine Calls.Constant_str ⟨c,_,rfl,by rw [strLen_append];omega,h pins _ σ H Q _ R (I.tok _) (by rw [strLen_append];omega) q hR⟩
theorem hJ (he:PE X e te) (h:PJ X es n t):PJ X (.FormattedValue e (-1) none pos :: es) (n + 2000) (tJI te t):=fun pins s σ H Q acc R I hl q hR=>by
 show wpAny _ _ _ _ _ _
 refine wpAny_FormattedValue_plain (thn (he pins s σ H _ I q) fun u s1 hZ1=>?_)
 obtain ⟨v,H1,I1,r,i,ev,hi,q1⟩:=hZ1
 subst ev
 obtain ⟨tk,rfl⟩:=(show ∃ tk,u=Value.int i tk from r)
 have hz:=int_text_fits hi
 have hz2:(Str.ofString (toString i)).length ≤ 2000:=by
  have e:=int_text_length_le (k:=1920) (by decide) hi
  rw [PySem.ofString_length];omega
 refine wpAny_formatField_int hi ⟨_,_,rfl,by rw [strLen_append];omega,h pins _ σ H1 Q _ R (I1.tok _) (by rw [strLen_append];omega) q1 hR⟩
theorem Mr (he:PE X e te) (h:PJ X es n t):PJ X (.FormattedValue e 114 none pos :: es) (n + 11000) (tJR te t):=fun pins s σ H Q acc R I hl q hR=>by
 show wpAny _ _ _ _ _ _
 refine wpAny_FormattedValue_repr (thn (he pins s σ H _ I q) fun u s1 hZ1=>?_)
 obtain ⟨v,H1,I1,r,x,ev,hx,hc,q1⟩:=hZ1
 subst ev
 obtain ⟨tk,rfl⟩:=(show ∃ tk,u=Value.str x tk from r)
 have hz:=PySem.StrLaws.reprText_len x hc
 refine wpAny_pyReprObj_str ?_ (by rw [sizeLine_eq];omega)
 exact formatField_str (fun t' tk'=>⟨_,_,rfl,by rw [strLen_append];omega,h pins _ σ H1 Q _ R ((I1.tok _).tok _) (by rw [strLen_append];omega) q1 hR⟩) (by rw [sizeLine_eq];omega)
theorem rn {e2:Expr} (h:PJ X (e :: e2 :: es) n t) (hn:n ≤ sizeLine):PE X (.JoinedStr (e :: e2 :: es) pos) (yC t):=by
 intro pins s σ H Q I q
 refine wpAny_JoinedStr (h pins s σ H _ _ _ I (by show 0 + n ≤ _;omega) q fun out H' s' I' hl q'=>⟨hl,?_⟩)
 exact ⟨.str out,H',I'.tok _,⟨_,rfl⟩,q' out⟩
end
structure BR (K:PySem.W.Frag) (L:Addr) (m:Str):Prop where
 rd:PySem.W.readsIn K L (.type "type")=true
 fd:PySem.W.findCls K (.ref L) (.type "type") m=some (.val (.builtin "ValueError.__init__"))
 ga:PySem.W.specialIn K (.ref L) "__getattribute__"=some (some (.builtin "type.__getattribute__"))
noncomputable def ZJ (K:PySem.W.Frag) (t:TA):TE:=fun σ H Q=>t σ H fun vs H1=>∃ x C od v,vs=[.ref x,v]∧H1 x=some (.ext (XF x C od))∧ut K C∧Q .non H1
section
variable {X:Cx} {L:Addr} {x:Str} {p pos apos:Pos} {e:Expr} {es:List Expr} {t:TA}
theorem nF {pins:List (Addr × Obj)} {σ:St} {H:Hp} {s:Shared} {a C:Addr} {od:Option Addr} {u:Value} {A:Around} {E:Value→Shared→Prop} {Q:Value→Shared→Prop} (I:Inv X pins σ H s) (ea:H a=some (.ext (XF a C od))) (c:ut X.K C)
  (h:∀ s',Inv X pins σ H s'→Q .none s'):wpAny (model X.prog X.w) A (call (.builtin "ValueError.__init__") [.ref a,u]) Q E s:=by
 obtain ⟨vs,sl,hx,z1,z2⟩:=(show gd X.prog X.w H s.heap a (.ext (XF a C od)) from I.hok _ _ ea).1
 obtain ⟨fI,hfI⟩:=c.ex
 obtain ⟨tl,N,nm,q,bs,sn,sub,ab,co,dd,k0,k1,k2,k3,k5,mN,hC,hN,hi,T⟩:=jv I.kIn hfI
 have F:=PySem.F.excBase_ValueError
 obtain ⟨v0,h0⟩:∃ v0,vs[0]? = some v0:=⟨vs[0]'(by omega),Array.getElem?_eq_getElem (by omega)⟩
 obtain ⟨hh,g,d,tt,os⟩:=s
 refine wpAny_call (codeAny_call_builtin F.init.plain F.initEntry (wpAny_check_init_subT F T hC hx rfl ?_))
 show wpAny _ _ (newTuple [u] >>= fun tp=>(do
  let old ← field (.ref a) 0
  setField (.ref a) 0 tp
  if let .ref _:=old then letGo [old] []) >>= fun _=>ret .none) _ _ _
 have hx1:(hh.push { cls:=.type "tuple",data:=.seq [u].toArray }).get? a=some ⟨.ref C,od,.fields vs,sl⟩:=Heap.get?_push_of_some _ hx
 refine wpAny_bind (wpAny_newTuple (wpAny_bind (wpAny_bind (wpAny_field hx1 rfl h0 (wpAny_bind (wpAny_setField hx1 rfl (by omega) ?_))))))
 have x2:=Heap.get?_update_self (h:=hh.push { cls:=.type "tuple",data:=.seq [u].toArray }) (Obj.mapFields (·.setIfInBounds 0 (.ref hh.objs.size))) hx1 rfl
 have fin:∀ s',s'=(⟨(hh.push { cls:=.type "tuple",data:=.seq [u].toArray }).update a (Obj.mapFields (·.setIfInBounds 0 (.ref hh.objs.size))),g,d,tt,os⟩:Shared)→Q .none s':=by
  rintro s' rfl
  refine h _ ?_
  have I1:Inv X pins σ H ⟨hh.push { cls:=.type "tuple",data:=.seq [u].toArray },g,d,tt,os⟩:=I.kept (t':=tt) fun b o q=>Heap.get?_push_of_some _ q
  have:=I1.write (x:=a) (e:=a) (o:=.ext (XF a C od)) (h':=(hh.push { cls:=.type "tuple",data:=.seq [u].toArray }).update a (Obj.mapFields (·.setIfInBounds 0 (.ref hh.objs.size)))) (t':=tt) (by rw [ea];exact True.intro) (.inl rfl)
   (fun b o hb q=>(Heap.get?_update_other _ _ (Ne.symm hb)).trans q) ⟨_,x2⟩ (XF.ok ⟨vs.setIfInBounds 0 (.ref hh.objs.size),sl,x2,by simpa using z1,by rw [Array.getElem?_setIfInBounds_ne (by decide)];exact z2⟩)
  rwa [lJ ea] at this
 cases v0 with
 | ref b=>exact wpAny_bind (wpAny_holding (wpAny_point (wpAny_pure (wpAny_pure (fin _ rfl)))))
 | _=>exact wpAny_pure (wpAny_pure (fin _ rfl))
theorem Yp {pl:Sem Bool} {m:Str} (hg:Gl X x) (hm:X.mg x=some (.ref L)) (c:BR X.K L m) (ha:PA X (e :: es) t)
  (hdb:(x == ("__debug__" : Str))=false:=by decide) (hst:starEach (e :: es) X.env=(false,eval e X.env) :: starEach es X.env:=by rfl) (hpl:(backTo pos (starEach es X.env)).any (·.1)=false:=by rfl)
  (ht:eval (.Call (.Attribute (.Name x p) m apos) (e :: es) [] pos) X.env=(do
   let ov ← eval (.Name x p) X.env
   standAt apos.atName
   let (f,first) ← holding [ov] (getMethod ov m pl)
   callWith pos f first (backTo pos (starEach (e :: es) X.env)) (backToKw pos (keywordEach [] X.env))):=by rfl) :
  PE X (.Call (.Attribute (.Name x p) m apos) (e :: es) [] pos) (ZJ X.K t):=by
 intro pins s σ H Q I h
 refine PySem.W.methodCall_KW (pl:=pl) (gk I hg hm ?_ hdb) ht
 refine PySem.W.method_cls I.kIn c.ga (PySem.W.cls_value I.kIn c.rd c.fd rfl ?_)
 refine PyProof.Rows.callWith_builtin1 (thn (ha pos pins _ σ H _ (I.tok (s.toks + 1)) h) fun us s2 hZ1=>?_) hst hpl
 obtain ⟨vs,H2,I2,r,a,C,od,v,ev,ea,cc,q⟩:=hZ1
 subst ev
 obtain ⟨u1,u2,rfl,r1,r2⟩:=bD r
 obtain rfl:u1=Value.ref a:=r1
 exact nF I2 ea cc fun s3 I3=>⟨.non,H2,I3,rfl,q⟩
end
structure MkX (K:PySem.W.Frag) (C fI:Addr):Prop where
 e:Fu K C fI=true
 fn:PySem.W.typeIn K (.ref fI)=some (.type "function")
 kp:PySem.W.keepIn K (.ref C)=true
noncomputable def QJ (C:Addr) (sp:Sp) (t:TA):TE:=fun σ H Q=>t σ H fun vs H1=>vs.length ≤ sizeLine∧∀ x,H1 x=none→sp (.ref x :: vs) (upd H1 x (.ext (XF x C none))) (fun v H2=>v=.non∧Q (.ref x) H2) (fun _ _ _=>False)
noncomputable def JJ (K:PySem.W.Frag) (ta tv:TE) (f:Str):TS:=fun D σ H=>tv σ H fun y H1=>ta σ H1 fun x H2=>∃ a C,x=.ref a∧H2 a=some (.ext (XF a C none))∧ut K C∧Fb K C f ∧
 ∀ dx,H2 dx=none→dx ≠ a→D.nx σ (upd (upd H2 a (.ext (XF a C (some dx)))) dx (.ext (XD dx [(f,y)])))
noncomputable def YJ (K:PySem.W.Frag) (ta tv:TE) (f:Str):TS:=fun D σ H=>tv σ H fun y H1=>ta σ H1 fun x H2=>∃ a C dx fs,x=.ref a∧H2 a=some (.ext (XF a C (some dx)))∧H2 dx=some (.ext (XD dx fs))∧ut K C∧Fb K C f∧fs.length < 1000 ∧
 D.nx σ (upd H2 dx (.ext (XD dx (Qg f y fs))))
noncomputable def tO (K:PySem.W.Frag) (ta:TE) (f:Str):TE:=fun σ H Q=>ta σ H fun x H1=>∃ a C dx fs v,x=.ref a∧H1 a=some (.ext (XA a C (some dx)))∧H1 dx=some (.ext (XD dx fs))∧ut K C∧Fb K C f∧fs.lookup f=some v∧Q v H1
section
variable {X:Cx} {k:Nat} {f C:Addr} {fd:FuncData} {ps:List Str} {sp:Sp} {x g:Str} {p pos pos' apos:Pos} {e o value:Expr} {es:List Expr} {ta tv:TE} {t:TA}
theorem gE {pins:List (Addr × Obj)} {σ:St} {H:Hp} {s:Shared} {Q:VK} {us:List Value} {vs:List V} (M:MkX X.K C f) (F:Eb X.prog X.w X.K X.mg X.base (fun _ _ _ _ _ _=>False) k f fd ps sp) (hr:oh (k + 1) X.A) (hb:Qb X.K fd ps [])
  (I:Inv X pins σ H s) (r:jd vs us) (hz:vs.length ≤ sizeLine) (h:∀ x,H x=none→sp (.ref x :: vs) (upd H x (.ext (XF x C none))) (fun v H2=>v=.non∧Q (.ref x) H2) (fun _ _ _=>False)) :
  wpAny (model X.prog X.w) X.A (call (.ref C) us) (EP X pins σ Q) X.xe s:=by
 obtain ⟨hh,g,d,tt,os⟩:=s
 refine wpAny_call (mD (fI:=f) I.kIn M.e M.fn (by rw [← r.length];exact hz) fun h' x hx Mx=>?_)
 obtain ⟨tp,ox,_,_⟩:=Mx.there
 have I2:=I.laid (a:=x) (o:=.ext (XF x C none)) (h':=h') (t':=tt) Mx.keeps hx (XF.ok ⟨_,_,ox,Nat.lt_of_lt_of_eq (show 1 < 6 by decide) rfl,rfl⟩)
 have hq:=h x (I.hok.fresh hx)
 have r2:jd (V.ref x :: vs) (Value.ref x :: us):=.cons rfl r
 have hl:((Value.ref x :: us) ++ []).length=ps.length:=by
  rw [List.append_nil,← r2.length]
  exact F.len _ _ _ _ hq
 have hb2:=hb ⟨h',g,d,tt,os⟩ (Value.ref x :: us) I2.kIn hl
 rw [List.append_nil] at hb2
 refine codeAny_mono (F.run _ X.stack _ _ ⟨Value.ref x :: us,[]⟩ (Value.ref x :: us) _ _ _ (hr.make C us []) (I2.env0.make C us []) hb2 r2 hq) fun r s' hq'=>?_
 rcases r with e | (u | _ | _ | _) <;> first | exact False.elim hq' | skip
 obtain ⟨v,H',I3,rv,ev,q3⟩:=I2.after hq'
 subst ev
 exact ⟨rv,⟨V.ref x,H',I3,rfl,q3⟩⟩
theorem Rp (M:MkX X.K C f) (F:Eb X.prog X.w X.K X.mg X.base (fun _ _ _ _ _ _=>False) k f fd ps sp) (hr:oh (k + 1) X.A) (hg:Gl X x) (hm:X.mg x=some (.ref C)) (hb:Qb X.K fd ps [])
  (ha:PA X (e :: es) t) (hdb:(x == ("__debug__" : Str))=false:=by decide) (he:starEach (e :: es) X.env=(false,eval e X.env) :: starEach es X.env:=by rfl) (hpl:(backTo pos (starEach es X.env)).any (·.1)=false:=by rfl) :
  PE X (.Call (.Name x p) (e :: es) [] pos) (QJ C sp t):=by
 intro pins s σ H Q I h
 refine wpAny_Call_Name_kw (gk I hg hm ?_ hdb)
 exact PySem.W.callWith_K (h₀:=X.base) I.ok.mod.kin M.kp (thn (ha pos pins s σ H _ I h) fun us s1 ⟨vs,H1,I1,r,hz,q⟩=>⟨I1.kIn,gE M F hr hb I1 r hz q⟩) he hpl
theorem Zp (ha:PE X o ta) (hv:PE X value tv) (hs:swapsWith value (some (.Attribute o g pos')) pos.line X.env=pure false):PS X (.Assign [.Attribute o g pos'] value pos) (JJ X.K ta tv g):=by
 intro pins s σ H D I h
 refine plainObj_wpAny_Assign_Attribute (thn (hv pins s σ H _ I h) fun u s1 ⟨y,H1,I1,ry,q⟩=>thn (ha pins s1 σ H1 _ I1 q) fun ov s2 hZ1=>?_) hs
 obtain ⟨x,H2,I2,rx,a,C,ex,ea,c,n,q2⟩:=hZ1
 subst ex
 obtain rfl:ov=Value.ref a:=rx
 exact SI I2 ea c n ry fun dx s3 hd hne I3=>⟨σ,_,I3,q2 dx hd hne⟩
theorem Wu (ha:PE X o ta) (hv:PE X value tv) (hs:swapsWith value (some (.Attribute o g pos')) pos.line X.env=pure false):PS X (.Assign [.Attribute o g pos'] value pos) (YJ X.K ta tv g):=by
 intro pins s σ H D I h
 refine plainObj_wpAny_Assign_Attribute (thn (hv pins s σ H _ I h) fun u s1 ⟨y,H1,I1,ry,q⟩=>thn (ha pins s1 σ H1 _ I1 q) fun ov s2 hZ1=>?_) hs
 obtain ⟨x,H2,I2,rx,a,C,dx,fs,ex,ea,ed,c,n,hl,q2⟩:=hZ1
 subst ex
 obtain rfl:ov=Value.ref a:=rx
 exact AD I2 ea ed c n hl ry fun s3 I3=>⟨σ,_,I3,q2⟩
theorem Tx (he:PE X e ta) (hb:attributeBase e g X.env (eval e X.env)=eval e X.env):PE X (.Attribute e g pos) (tO X.K ta g):=by
 intro pins s σ H Q I h
 refine FF hb (thn (he pins s σ H _ I h) fun u s1 hZ1=>?_)
 obtain ⟨x,H1,I1,rx,a,C,dx,fs,v,ex,ea,ed,c,n,l,q⟩:=hZ1
 subst ex
 obtain rfl:u=Value.ref a:=rx
 exact yS I1 ea ed c n l fun u s2 I2 ru=>⟨v,H1,I2,ru,q⟩
end
end L2
namespace L2
open PySem PySem.Spec PyProof.Rows PySem.Builtin PySem.Builtin.ObjectAttr
noncomputable def FlA (x C:Addr) (od:Option Addr) (T:Addr) (fl:Value) (h:Heap):Prop:=
 T ≠ x∧∃ vs sl oT ts,h.get? x=some ⟨.ref C,od,.fields vs,sl⟩∧vs[1]? = some (.ref T)∧h.get? T=some oT∧oT.data=.fields ts∧ts[3]? = some fl
theorem FlA.xa {x C T:Addr} {od:Option Addr} {fl:Value} {h:Heap} (z:FlA x C od T fl h):XA x C od h:=let ⟨_,vs,sl,_,_,e,_⟩:=z;⟨vs,sl,e⟩
structure Kp (fs:List Addr) (x:Addr) (To:Option Addr) (h h':Heap):Prop where
 keep:∀ b o,h.get? b=some o→b ∉ fs→b ≠ x→some b ≠ To→h'.get? b=some o
 slot:∀ b o,h.get? b=some o→b ∈ fs→∃ sl,h'.get? b=some { o with slots:=sl }
 there:∀ b o,h.get? b=some o→∃ o',h'.get? b=some o'
section
variable {M:Model} {A:Around} {E:Value→Shared→Prop} {s:Shared}
theorem nofr {base h:Heap} {l:List Env} {b:Addr} {o:Obj} {vs:Array Value} (hl:h.FunFrames base l) (e:h.get? b=some o) (d:o.data=.fields vs):b ∉ frs l:=fun hm=>by
 obtain ⟨_,o',e',nf⟩:=hl.mem hm
 rw [e] at e'
 cases e'
 exact nf vs d
theorem KI {env env':Env} {L:Addr} (hf:env.frame=some L) (hf':env'.frame=some L):PySem.frameOf env'=PySem.frameOf env:=by
 unfold PySem.frameOf
 rw [hf',hf]
theorem CJ {base:Heap} {env env':Env} {outer:List Env} {L x C:Addr} {od:Option Addr} {vs:Array Value} {sl:Array (Option Value)} {head:Value} {hn:Bool} {Q:Unit→Shared→Prop}
  (hfr:A.frames=some (env :: outer)) (hl:s.heap.FunFrames base (env :: outer)) (hf:env.frame=some L) (hf':env'.frame=some L) (he:s.heap.get? x=some ⟨.ref C,od,.fields vs,sl⟩) (hz:1 < vs.size)
  (h:∀ h' T,Kp (frs (env :: outer)) x none s.heap h'→s.heap.objs.size ≤ T→FlA x C od T (rawInt L) h'→Q () { s with heap:=h' }) :
  wpAny M A (do let a ← PySem.frameOf env';let pl ← entryPlaceOf L hn;let b ← EntryCells.newEntry head a .none (rawInt L) .none pl;setField (.ref x) 1 b) Q E s:=by
 have nx:x ∉ frs (env :: outer):=nofr hl he rfl
 rw [KI hf hf']
 refine wpAny_bind (wpAny_frameOf_fun hfr hl hf fun h1 S=>wpAny_bind (wpAny_entryPlaceOf fun pl hp=>?_))
 unfold EntryCells.newEntry newFields
 refine wpAny_bind (wpAny_newObj_type ?_ (hp.sizeOk5 _ _ _ _ _))
 have e1:h1.get? x=some ⟨.ref C,od,.fields vs,sl⟩:=(S.2.1 x nx).trans he
 obtain ⟨ts,hts,h3⟩:∃ ts:Array Value,([head,.ref L,.none,rawInt L,.none] ++ (if pl.isEmpty then List.replicate 6 Value.none else pl)).toArray=ts∧ts[3]? = some (rawInt L):=⟨_,rfl,by simp⟩
 rw [hts]
 have e2:=Heap.get?_push_of_some (h:=h1) { cls:=.type "traceback",dict:=none,data:=.fields ts } e1
 have ne:h1.objs.size ≠ x:=Nat.ne_of_gt (Heap.lt_size e1)
 have sz:h1.objs.size=s.heap.objs.size:=S.1
 refine wpAny_setField e2 rfl hz (h _ h1.objs.size ⟨fun b o q n1 n2 _=>?_,fun b o q n1=>?_,fun b o q=>?_⟩ (Nat.le_of_eq sz.symm) ⟨ne,vs.setIfInBounds 1 (.ref h1.objs.size),sl,{ cls:=.type "traceback",dict:=none,data:=.fields ts },ts,Heap.get?_update_self _ e2 rfl,by simp [hz],?_,rfl,h3⟩)
 ·rw [Heap.get?_update_other _ _ (Ne.symm n2)]
  exact Heap.get?_push_of_some _ ((S.2.1 b n1).trans q)
 ·obtain ⟨sl',e3⟩:=S.2.2 b o q
  have nb:x ≠ b:=fun z=>nx (by rw [z];exact n1)
  exact ⟨sl',(Heap.get?_update_other _ _ nb).trans (Heap.get?_push_of_some _ e3)⟩
 ·by_cases hb:b=x
  ·rw [hb];exact ⟨_,Heap.get?_update_self _ e2 rfl⟩
  ·obtain ⟨sl',e3⟩:=S.2.2 b o q
   exact ⟨_,by rw [Heap.get?_update_other _ _ (Ne.symm hb)];exact Heap.get?_push_of_some _ e3⟩
 ·exact (Heap.get?_update_other _ _ (Ne.symm ne)).trans (Heap.get?_push_size h1 rfl)
theorem nB {base:Heap} {env env':Env} {outer:List Env} {L x C:Addr} {od:Option Addr} {vs:Array Value} {sl:Array (Option Value)} {Q:Unit→Shared→Prop}
  (hfr:A.frames=some (env :: outer)) (hl:s.heap.FunFrames base (env :: outer)) (hf:env.frame=some L) (hf':env'.frame=some L) (he:s.heap.get? x=some ⟨.ref C,od,.fields vs,sl⟩) (h1:vs[1]? = some .none)
  (h:∀ h' T,Kp (frs (env :: outer)) x none s.heap h'→s.heap.objs.size ≤ T→FlA x C od T (rawInt L) h'→Q () { s with heap:=h' }) :
  wpAny M A (noteFrame (.ref x) env') Q E s:=by
 unfold noteFrame
 simp only [hf']
 refine wpAny_bind (wpAny_field he rfl h1 ?_)
 rw [if_neg (by decide)]
 exact CJ hfr hl hf hf' he (Array.getElem?_eq_some_iff.mp h1).1 h
theorem JD {base:Heap} {env env':Env} {outer:List Env} {L x C T:Addr} {od:Option Addr} {fl:Value} {Q:Unit→Shared→Prop}
  (hfr:A.frames=some (env :: outer)) (hl:s.heap.FunFrames base (env :: outer)) (hf:env.frame=some L) (hf':env'.frame=some L) (z:FlA x C od T fl s.heap) (hne:¬ (fl == rawInt L)=true)
  (h:∀ h' T',Kp (frs (env :: outer)) x (some T) s.heap h'→s.heap.objs.size ≤ T'→FlA x C od T' (rawInt L) h'→Q () { s with heap:=h' }) :
  wpAny M A (noteFrame (.ref x) env') Q E s:=by
 obtain ⟨ne,vs,sl,oT,ts,he,h1,hT,hd,h3⟩:=z
 unfold noteFrame
 simp only [hf']
 refine wpAny_bind (wpAny_field he rfl h1 ?_)
 rw [if_pos (show (Value.ref T != Value.none)=true from by simp)]
 refine wpAny_bind (wpAny_field hT hd h3 ?_)
 rw [if_neg hne]
 refine wpAny_bind (wpAny_setField hT hd (Array.getElem?_eq_some_iff.mp h3).1 ?_)
 have nT:T ∉ frs (env :: outer):=nofr hl hT hd
 have oth:∀ b,b ≠ T→(s.heap.update T (Obj.mapFields (·.setIfInBounds 3 Value.none))).get? b=s.heap.get? b:=fun b hb=>Heap.get?_update_other _ _ (Ne.symm hb)
 have tT:∃ o',(s.heap.update T (Obj.mapFields (·.setIfInBounds 3 Value.none))).get? T=some o':=⟨_,Heap.get?_update_self _ hT (Obj.isFreed_of_fields (Obj.data_mapFields hd _))⟩
 have hl2:(s.heap.update T (Obj.mapFields (·.setIfInBounds 3 Value.none))).FunFrames base (env :: outer):=hl.of_keeps fun b o e nf=>⟨o,(oth b fun q=>by rw [q,hT] at e;cases e;exact nf ts hd).trans e,rfl⟩
 refine CJ (s:={ s with heap:=s.heap.update T (Obj.mapFields (·.setIfInBounds 3 Value.none)) }) hfr hl2 hf hf' ((oth x (Ne.symm ne)).trans he) (Array.getElem?_eq_some_iff.mp h1).1 fun h' T' k w f=>h h' T' ⟨fun b o q n1 n2 n3=>?_,fun b o q n1=>?_,fun b o q=>?_⟩ ?_ f
 ·exact k.keep b o ((oth b fun y=>n3 (by rw [y])).trans q) n1 n2 (fun y=>by cases y)
 ·exact k.slot b o ((oth b fun y=>nT (y ▸ n1)).trans q) n1
 ·by_cases hb:b=T
  ·subst hb
   obtain ⟨o',e'⟩:=tT
   exact k.there _ _ e'
  ·exact k.there b o ((oth b hb).trans q)
 ·exact Nat.le_trans (Nat.le_of_eq (Heap.size_update _ _ _).symm) w
theorem flight {x C T:Addr} {od:Option Addr} {fl:Value} {fs:List Addr} {Q:Unit→Shared→Prop} (o:Option Addr) (z:FlA x C od T fl s.heap) (nT:T ∉ fs)
  (h:∀ h',Kp fs x (some T) s.heap h'→FlA x C od T (o.elim .none fun f=>rawInt f) h'→Q () { s with heap:=h' }):wpAny M A (setFlight (.ref x) o) Q E s:=by
 obtain ⟨ne,vs,sl,oT,ts,he,h1,hT,hd,h3⟩:=z
 have z3:3 < ts.size:=(Array.getElem?_eq_some_iff.mp h3).1
 have oth:∀ b,b ≠ T→(s.heap.update T (Obj.mapFields (·.setIfInBounds 3 (o.elim Value.none fun f=>rawInt f)))).get? b=s.heap.get? b:=fun b hb=>Heap.get?_update_other _ _ (Ne.symm hb)
 have tT:=Heap.get?_update_self (Obj.mapFields (·.setIfInBounds 3 (o.elim Value.none fun f=>rawInt f))) hT (Obj.isFreed_of_fields (Obj.data_mapFields hd _))
 unfold setFlight
 refine wpAny_bind (wpAny_field he rfl h1 ?_)
 rw [if_pos (show (Value.ref T != Value.none)=true from by simp)]
 refine wpAny_setField hT hd z3 (h _ ⟨fun b o q _ _ n3=>(oth b fun y=>n3 (by rw [y])).trans q,fun b o q n1=>⟨o.slots,(oth b fun y=>nT (y ▸ n1)).trans q⟩,fun b o q=>?_⟩
  ⟨ne,vs,sl,_,_,(oth x (Ne.symm ne)).trans he,h1,tT,Obj.data_mapFields hd _,by simp [z3]⟩)
 by_cases hb:b=T
 ·subst hb;exact ⟨_,tT⟩
 ·exact ⟨o,(oth b hb).trans q⟩
end
section
variable {P:Program} {w:World} {H:Hp} {h h':Heap} {fs:List Addr} {x C T:Addr} {od:Option Addr} {fl:Value} {To:Option Addr} {o:HO}
theorem Kp.hok (k:Kp fs x To h h') (ok:HOk P w H h) (hfs:∀ b ∈ fs,H b=none) (hT:∀ t,To=some t→H t=none) (mu:Mut (H x)) (new:XA x C od h'):HOk P w (upd H x (.ext (XA x C od))) h':=fun b u q=>by
 have nown:∀ c y,H c=some (.own y)→c ≠ x:=fun c y r z=>by subst z;rw [r] at mu;exact mu
 have ntup:∀ c xs,H c=some (.tup xs)→c ≠ x:=fun c xs r z=>by subst z;rw [r] at mu;exact mu
 have kk:∀ c v,c ≠ x→H c ≠ none→h.get? c=some v→h'.get? c=some v:=fun c v n1 n2 r=>k.keep c v r (fun z=>n2 (hfs c z)) n1 fun z=>n2 (hT c z.symm)
 by_cases hb:b=x
 ·subst hb;rw [fb] at q;cases q;exact new.ok
 ·rw [pb hb] at q
  refine (ok b u q).stay (fun c v hc r=>?_) (fun c r=>by rw [pb (nown c b r)];exact r) fun c xs r=>by rw [pb (ntup c xs r)];exact r
  rcases hc with rfl | hc
  ·exact kk c v hb (by rw [q];exact fun z=>by cases z) r
  ·exact kk c v (nown c b hc) (by rw [hc];exact fun z=>by cases z) r
theorem Kp.un (k:Kp fs x To h h') (hT:∀ t,To=some t→H t=none) (mu:Mut (H x)):Un fs To.toList H (upd H x o) h h':=by
 have hx:∀ b,H b=none→b ≠ x:=fun b n z=>by subst z;rw [n] at mu;exact mu
 have hm:∀ b u,H b=some u→¬ Mut (some u)→b ≠ x:=fun b u q nm z=>by subst z;rw [q] at mu;exact nm mu
 refine ⟨fun b u q n n1 n2=>k.keep b u q n1 (hx b n) fun z=>n2 (by rw [← z];simp),fun b u q n n1 n2=>k.slot b u q n1,fun b u q n _=>by rw [pb (hx b n)];exact n,fun b u q _=>k.there b u q,
  fun b xs q=>by rw [pb (hm b _ q fun z=>z)];exact q,fun b u xs q=>by rw [pb (hm b _ q fun z=>z)];exact q,fun b ps q=>⟨#[],by rw [pb (hm b _ q fun z=>z),q];simp⟩⟩
end
noncomputable def CX1 (P:Program) (w:World):CXT:=fun outer H s E e s'=>
 ∃ x C od H' T,e=.ref x∧s'.os=s.os∧AllBare s'.gens∧Un (frs outer) [] H H' s.heap s'.heap∧HOk P w H' s'.heap∧H' x=some (.ext (XA x C od))∧s.heap.objs.size ≤ T∧H' T=none∧FlA x C od T .none s'.heap∧E (.ref C) od H'
noncomputable def GC (X:Cx) (E:St→XK):Prop:=∀ (pins:List (Addr × Obj)) (σ:St) (H:Hp) (s:Shared) (x C:Addr) (od:Option Addr),Inv X pins σ H s→H x=some (.ext (XF x C od))→E σ (.ref C) od (upd H x (.ext (XA x C od)))→X.xe (.ref x) s
noncomputable def Uy (CX:CXT) (X:Cx) (E:St→XK):Prop:=∀ (pins:List (Addr × Obj)) (σ:St) (H:Hp) (s:Shared) (e:Value) (s':Shared),Inv X pins σ H s→CX X.stack H s (E σ) e s'→X.xe e s'
structure Fr1 (X:Cx):Prop where
 st:X.stack=X.env :: X.outer
 fr:X.env.frame=some X.env.locals
noncomputable def MO (X:Cx) (pins:List (Addr × Obj)) (T:Addr):Prop:=(T ∈ X.ex∨X.s₀.heap.objs.size ≤ T)∧T ≠ X.env.locals∧(∀ x c,X.env.cells.lookup x=some c→c ≠ T)∧∀ p ∈ X.pn ++ pins,p.1 ≠ T
noncomputable def lC (X:Cx) (pins:List (Addr × Obj)) (E:St→XK) (fl:Value) (e:Value) (s':Shared):Prop:=
 ∃ σ' H' x C od T,e=.ref x∧Inv X pins σ' H' s'∧H' x=some (.ext (XA x C od))∧H' T=none∧MO X pins T∧FlA x C od T fl s'.heap∧E σ' (.ref C) od H'
noncomputable def xeR (X:Cx) (pins:List (Addr × Obj)) (E:St→XK) (e:Value) (s':Shared):Prop:=
 ∃ σ' H' x C od,e=.ref x∧Inv X pins σ' H' s'∧H' x=some (.ext (XF x C od))∧E σ' (.ref C) od (upd H' x (.ext (XA x C od)))
noncomputable def xeT (X:Cx) (pins:List (Addr × Obj)) (E:St→XK) (e:Value) (s':Shared):Prop:=xeR X pins E e s'∨∃ fl,lC X pins E fl e s'
noncomputable def xeA (X:Cx) (E:St→XK) (e:Value) (s':Shared):Prop:=∃ pins,xeT X pins E e s'
section
variable {X:Cx} {pins:List (Addr × Obj)} {σ:St} {H:Hp} {s:Shared} {T x C:Addr} {od:Option Addr} {E:St→XK} {M:Model} {A:Around} {E':Value→Shared→Prop} {Q:Unit→Shared→Prop} {e fl:Value} {h':Heap}
theorem mQ (I:Inv X pins σ H s) (hT:s.heap.objs.size ≤ T):MO X pins T:=by
 have lt:∀ {b:Addr} {o:Obj},s.heap.get? b=some o→b ≠ T:=fun q z=>by
  subst z
  exact absurd (Nat.lt_of_lt_of_le (Heap.lt_size q) hT) (Nat.lt_irrefl _)
 refine ⟨.inr (Nat.le_trans I.sz hT),fun z=>?_,fun x c e=>?_,fun p hp=>lt (I.pin p hp).1⟩
 ·obtain ⟨m,⟨o,es,ep,ho,_⟩,_⟩:=I.loc
  exact lt ho z.symm
 ·obtain ⟨v,o,ho,_⟩:=I.cell x c e
  exact lt ho
theorem qL (I:Inv X pins σ H s) (k:Kp (frs X.stack) x (some T) s.heap h') (ex:H x=some (.ext (XA x C od))) (eT:H T=none) (nT:MO X pins T) (xa:XA x C od h'):Inv X pins σ H { s with heap:=h' }:=by
 have mu:Mut (H x):=by rw [ex];exact True.intro
 have z:∀ t,some T=some t→H t=none:=fun t z=>by cases z;exact eT
 have u1:=k.un (H:=H) (o:=.ext (XA x C od)) z mu
 have k1:=k.hok I.hok I.stkFree z mu xa
 rw [lJ ex] at u1 k1
 exact I.call' (s':={ s with heap:=h' }) (ch:=[T]) rfl u1 k1 I.bare fun b hb=>by
  obtain rfl:b=T:=by simpa using hb
  exact nT
theorem pK (F:Fr1 X) (I:Inv X pins σ H s) (k:Kp (frs (X.env :: X.outer)) x (some T) s.heap h') (ex:H x=some (.ext (XA x C od))) (eT:H T=none) (nT:MO X pins T) (xa:XA x C od h'):Inv X pins σ H { s with heap:=h' }:=
 qL I (by rw [F.st];exact k) ex eT nT xa
theorem lC.note (F:Fr1 X) (q:lC X pins E fl e s) (hne:¬ (fl == rawInt X.env.locals)=true) (h:∀ s',lC X pins E (rawInt X.env.locals) e s'→Q () s'):wpAny M X.A (noteFrame e X.env) Q E' s:=by
 obtain ⟨σ,H,x,C,od,T,rfl,I,ex,eT,nT,f,w⟩:=q
 have fs:s.heap.FunFrames X.base (X.env :: X.outer):=by rw [← F.st];exact I.stack
 exact JD (by rw [← F.st];exact I.ok.frames) fs F.fr F.fr f hne fun h' T' k w' f'=>h _ ⟨σ,H,x,C,od,T',rfl,pK F I k ex eT nT f'.xa,ex,I.hok.fresh w',mQ I w',f',w⟩
theorem lC.noted (F:Fr1 X) (q:lC X pins E (rawInt X.env.locals) e s) (h:Q () s):wpAny M X.A (noteFrame e X.env) Q E' s:=by
 obtain ⟨σ,H,x,C,od,T,rfl,I,ex,eT,nT,⟨ne,vs,sl,oT,ts,he,h1,hT,hd,h3⟩,w⟩:=q
 unfold noteFrame
 simp only [F.fr]
 refine wpAny_bind (wpAny_field he rfl h1 ?_)
 rw [if_pos (show (Value.ref T != Value.none)=true from by simp)]
 refine wpAny_bind (wpAny_field hT hd h3 ?_)
 rw [if_pos (show (rawInt X.env.locals == rawInt X.env.locals)=true from by simp)]
 exact wpAny_pure h
theorem xeR.note (F:Fr1 X) (q:xeR X pins E e s) (h:∀ s',lC X pins E (rawInt X.env.locals) e s'→Q () s'):wpAny M X.A (noteFrame e X.env) Q E' s:=by
 obtain ⟨σ,H,x,C,od,rfl,I,ex,w⟩:=q
 have fs:s.heap.FunFrames X.base (X.env :: X.outer):=by rw [← F.st];exact I.stack
 obtain ⟨vs,sl,hx,z1,z2⟩:=(show gd X.prog X.w H s.heap x (.ext (XF x C od)) from I.hok _ _ ex).1
 have mu:Mut (H x):=by rw [ex];exact True.intro
 refine nB (by rw [← F.st];exact I.ok.frames) fs F.fr F.fr hx z2 fun h' T k w' f=>h _ ?_
 have z:∀ t,none=some t→H t=none:=fun t z=>by cases z
 have u1:=k.un (H:=H) (o:=.ext (XA x C od)) z mu
 have k1:=k.hok I.hok (by rw [← F.st];exact I.stkFree) z mu f.xa
 rw [← F.st] at u1
 have I2:=I.call' (s':={ s with heap:=h' }) (ch:=[]) rfl u1 k1 I.bare fun b hb=>absurd hb (by simp)
 exact ⟨σ,_,x,C,od,T,rfl,I2,fb,by rw [pb f.1];exact I.hok.fresh w',mQ I w',f,w⟩
theorem xeT.note (F:Fr1 X) (q:xeT X pins E e s) (h:∀ s',lC X pins E (rawInt X.env.locals) e s'→Q () s'):wpAny M X.A (noteFrame e X.env) Q E' s:=by
 rcases q with q | ⟨fl,q⟩
 ·exact q.note F h
 ·by_cases c:(fl == rawInt X.env.locals)=true
  ·rw [beq_iff_eq] at c
   subst c
   exact q.noted F (h _ q)
  ·exact q.note F c h
theorem lC.flight (F:Fr1 X) (o:Option Addr) (q:lC X pins E fl e s) (h:∀ s',lC X pins E (o.elim .none fun f=>rawInt f) e s'→Q () s'):wpAny M A (setFlight e o) Q E' s:=by
 obtain ⟨σ,H,x,C,od,T,rfl,I,ex,eT,nT,f,w⟩:=q
 have fs:s.heap.FunFrames X.base (X.env :: X.outer):=by rw [← F.st];exact I.stack
 have nf:T ∉ frs (X.env :: X.outer):=by
  obtain ⟨_,_,_,oT,ts,_,_,e,d,_⟩:=id f
  exact nofr fs e d
 exact L2.flight o f nf fun h' k f'=>h _ ⟨σ,H,x,C,od,T,rfl,pK F I k ex eT nT f'.xa,ex,eT,nT,f',w⟩
theorem xeT.leave (F:Fr1 X) (q:xeT X pins E e s) (h:∀ s',lC X pins E .none e s'→Q () s'):wpAny M X.A (leaving X.env e) Q E' s:=by
 unfold leaving
 exact wpAny_bind (q.note F fun s' q'=>q'.flight F none h)
theorem qy (F:Fr1 X):PassesOwn M X.A X.env (xeT X pins E):=fun e s' q=>by
 refine q.note F fun s2 q2=>?_
 show wpAny _ _ _ _ _ _
 obtain ⟨σ,H,x,C,od,T,rfl,I,ex,eT,nT,⟨ne,vs,sl,oT,ts,he,h1,hT,hd,h3⟩,w⟩:=id q2
 refine wpAny_bind (wpAny_field he rfl h1 ?_)
 rw [if_neg (show ¬ (Value.ref T == Value.none)=true from by simp)]
 rw [F.fr]
 exact q2.flight F _ fun s3 q3=>.inr ⟨_,q3⟩
theorem oe (F:Fr1 X):PassesOwn M X.A X.env (xeA X E):=fun e s' ⟨pins,q⟩=>by
 have z:=qy (M:=M) F e s' q
 refine wpAny_mono z (fun _ s2 q2=>?_) fun e2 s2 q2=>?_
 all_goals exact wpAny_mono q2 (fun _ s3 q3=>⟨pins,q3⟩) fun e3 s3 q3=>⟨pins,q3⟩
theorem vL:GC (X.wish (xeA X E)) E:=fun pins σ H s x C od I ex q=>⟨pins,.inl ⟨σ,H,x,C,od,rfl,I.unwish,ex,q⟩⟩
theorem TK {E0:XK} {s':Shared} (I:Inv X pins σ H s) (hq:CX1 X.prog X.w X.stack H s E0 e s') (h:∀ C od H',E0 C od H'→E σ C od H'):xeT X pins E e s':=by
 obtain ⟨x,C,od,H2,T,rfl,os,bare,un,hok,ex,hT,eT,fl,q⟩:=hq
 exact .inr ⟨_,σ,H2,x,C,od,T,rfl,I.call' os un hok bare (fun b z=>absurd z (by simp)),ex,eT,mQ I hT,fl,h _ _ _ q⟩
end
theorem uf {X:Cx} {E:XK}:Aj (CX1 X.prog X.w) (X.wish (xeA X fun _=>E)) E:=fun pins σ H s e s' I hq=>⟨pins,TK I.unwish hq fun _ _ _ z=>z⟩
theorem Pu {X:Cx} {E:XK}:GC (X.wish (xeA X fun _=>E)) (fun _=>E):=vL
section
variable {P:Program} {w:World} {K:PySem.W.Frag} {mg:Str→Option Value} {base:Heap} {N:List Str} {qual:Str} {scope:Scope} {f:Addr} {cd:Value} {A:Around} {outer:List Env} {s:Shared} {H:Hp} {E:XK}
theorem cM {e:Value} {s':Shared} (q:xeA (vy (CX1 P w) P w K mg base N qual scope f cd A outer s H E) (fun _=>E) e s'):(vy (CX1 P w) P w K mg base N qual scope f cd A outer s H E).xe e s':=by
 obtain ⟨pins,q⟩:=q
 refine q.leave ⟨rfl,rfl⟩ fun s2 q2=>?_
 obtain ⟨σ,H2,x,C,od,T,rfl,I,ex,eT,nT,fl,q⟩:=q2
 refine ⟨x,C,od,H2,T,rfl,I.os,I.bare,I.base,I.hok,ex,?_,eT,fl,q⟩
 rcases nT.1 with z | z
 ·exact absurd z (by show T ∉ ([]:List Addr);simp)
 ·exact z
end
noncomputable def fJ (sp:Sp) (dvs:List V) (E:St→XK) (t:TA):TE:=fun σ H Q=>t σ H fun vs H1=>sp (vs ++ dvs) H1 Q (E σ)
noncomputable def EN (C:Addr) (m:Str) (sp:Sp) (dvs:List V) (E:St→XK) (ta:TE) (t:TA):TE:=fun σ H Q=>ta σ H fun x H1=>∃ a dx fs,x=.ref a∧H1 a=some (.ins C dx fs)∧fs.lookup m=none ∧
 t σ H1 fun vs H2=>sp (x :: (vs ++ dvs)) H2 Q (E σ)
section
variable {X:Cx} {CX:CXT} {k:Nat} {f C:Addr} {fd:FuncData} {ps:List Str} {sp:Sp} {dvs:List V} {ds:List Value} {E:St→XK} {x m:Str} {p pos apos:Pos} {e o:Expr} {es:List Expr} {ta:TE} {t:TA}
theorem eM {pins:List (Addr × Obj)} {σ:St} {H:Hp} {s:Shared} {Q:VK} {us:List Value} {vs:List V} (F:Eb X.prog X.w X.K X.mg X.base CX k f fd ps sp) (hr:oh k X.A) (hb:Qb X.K fd ps ds) (hd:jd dvs ds) (hx:Uy CX X E)
  (I:Inv X pins σ H s) (r:jd vs us) (h:sp (vs ++ dvs) H Q (E σ)):wpAny (model X.prog X.w) X.A (call (.ref f) us) (EP X pins σ Q) X.xe s:=by
 have r2:jd (vs ++ dvs) (us ++ ds):=r.append hd
 have hl:(us ++ ds).length=ps.length:=by rw [← r2.length];exact F.len _ _ _ _ h
 refine wpAny_call (codeAny_mono (F.run X.A X.stack s H ⟨us,[]⟩ (us ++ ds) (vs ++ dvs) Q (E σ) hr I.env0 (hb s us I.kIn hl) r2 h) fun r s' hq=>?_)
 rcases r with e | (u | _ | _ | _)
 ·exact hx pins σ H s e s' I hq
 all_goals first | exact I.after hq | exact False.elim hq
theorem sv (F:Eb X.prog X.w X.K X.mg X.base CX k f fd ps sp) (hr:oh k X.A) (hg:Gl X x) (hm:X.mg x=some (.ref f)) (hk:PySem.W.keepIn X.K (.ref f)=true) (hb:Qb X.K fd ps ds) (hd:jd dvs ds) (hx:Uy CX X E)
  (ha:PA X (e :: es) t) (hdb:(x == ("__debug__" : Str))=false:=by decide) (he:starEach (e :: es) X.env=(false,eval e X.env) :: starEach es X.env:=by rfl) (hpl:(backTo pos (starEach es X.env)).any (·.1)=false:=by rfl) :
  PE X (.Call (.Name x p) (e :: es) [] pos) (fJ sp dvs E t):=by
 intro pins s σ H Q I h
 refine wpAny_Call_Name_kw (gk I hg hm ?_ hdb)
 exact PySem.W.callWith_K (h₀:=X.base) I.ok.mod.kin hk (thn (ha pos pins s σ H _ I h) fun us s1 ⟨vs,H1,I1,r,q⟩=>⟨I1.kIn,eM F hr hb hd hx I1 r q⟩) he hpl
end
noncomputable abbrev Cx.tr (X:Cx) (pn:List (Addr × Obj)) (E:Value→Shared→Prop):Cx:={ X with pn:=X.pn ++ pn,xe:=E }
noncomputable abbrev Cx.hn (X:Cx) (e:Value):Cx:={ X with A:=X.A.mark (some e),calm:=false,xe:=fun _ _=>False }
section
variable {X:Cx} {pins pins':List (Addr × Obj)} {σ:St} {H:Hp} {s:Shared} {E:Value→Shared→Prop} {e:Value}
theorem Cx.Ok.tr (ok:X.Ok) (pn:List (Addr × Obj)) (E:Value→Shared→Prop):(X.tr pn E).Ok:=
 ⟨ok.mod,ok.kind,ok.glob,ok.blt,ok.above,ok.inj,ok.has,ok.cab,ok.hd,ok.frames,ok.stk,ok.exf,ok.bs,ok.bsz,ok.noex,ok.exfs,ok.funs,ok.frf⟩
theorem Cx.Ok.untr {pn:List (Addr × Obj)} (ok:(X.tr pn E).Ok):X.Ok:=
 ⟨ok.mod,ok.kind,ok.glob,ok.blt,ok.above,ok.inj,ok.has,ok.cab,ok.hd,ok.frames,ok.stk,ok.exf,ok.bs,ok.bsz,ok.noex,ok.exfs,ok.funs,ok.frf⟩
theorem Cx.Ok.hn (ok:X.Ok) (e:Value):(X.hn e).Ok:=
 ⟨ok.mod,ok.kind,ok.glob,ok.blt,ok.above,ok.inj,ok.has,ok.cab,(fun z=>Bool.noConfusion z),ok.frames,ok.stk,ok.exf,ok.bs,ok.bsz,ok.noex,ok.exfs,ok.funs,ok.frf⟩
theorem Inv.tr (I:Inv X pins σ H s) (E:Value→Shared→Prop):Inv (X.tr pins E) [] σ H s:=⟨I.ok.tr pins E,I.os,I.bare,I.base,I.loc,I.cell,I.free,I.freeC,fun p hp=>I.pin p (by simpa using hp),I.hok,I.len⟩
theorem Inv.untr (I:Inv (X.tr pins E) pins' σ H s):Inv X pins σ H s:=⟨I.ok.untr,I.os,I.bare,I.base,I.loc,I.cell,I.free,I.freeC,fun p hp=>I.pin p (List.mem_append_left _ hp),I.hok,I.len⟩
theorem Inv.hn (I:Inv X pins σ H s) (e:Value):Inv (X.hn e) pins σ H s:=⟨I.ok.hn e,I.os,I.bare,I.base,I.loc,I.cell,I.free,I.freeC,I.pin,I.hok,I.len⟩
theorem Inv.unhn (ok:X.Ok) (I:Inv (X.hn e) pins σ H s):Inv X pins σ H s:=⟨ok,I.os,I.bare,I.base,I.loc,I.cell,I.free,I.freeC,I.pin,I.hok,I.len⟩
theorem SP.untr {D:Gg} {f:Flow} {s':Shared} (h:SP (X.tr pins E) pins' D f s'):SP X pins D f s':=by
 cases f with
 | next=>obtain ⟨σ',H',I,q⟩:=h;exact ⟨σ',H',I.untr,q⟩
 | brk=>obtain ⟨σ',H',I,q⟩:=h;exact ⟨σ',H',I.untr,q⟩
 | cont=>obtain ⟨σ',H',I,q⟩:=h;exact ⟨σ',H',I.untr,q⟩
 | ret u=>obtain ⟨v,σ',H',I,r,q⟩:=h;exact ⟨v,σ',H',I.untr,r,q⟩
end
theorem Zx {X:Cx} {pins:List (Addr × Obj)} {E:St→XK}:Uy (CX1 X.prog X.w) (X.tr pins (xeT X pins E)) E:=by
 intro pins' σ H s e s' I hq
 obtain ⟨x,C,od,H2,T,rfl,os,bare,un,hok,ex,hT,eT,fl,q⟩:=hq
 have I2:=I.call' os un hok bare (fun b z=>absurd z (by simp))
 exact .inr ⟨_,σ,H2,x,C,od,T,rfl,I2.untr,ex,eT,mQ I.untr hT,fl,q⟩
theorem Tm {X:Cx} {pins:List (Addr × Obj)} {σ:St} {H:Hp} {s:Shared} {i:Nat} {n:Str} {pos:Pos} {A:Around} {E:Value→Shared→Prop} {Q:Unit→Shared→Prop} (I:Inv X pins σ H s) (hN:X.N.Nodup) (hi:X.N[i]? = some n)
  (hl:X.env.scope.names.lookup n=some .local) (h:∀ s',Inv X pins (σ.set i none) H s'→Q () s'):wpAny (model X.prog X.w) A (do bindName X.env n .none;unbindBehindTheSuite X.env n pos) Q E s:=by
 have hiσ:i < σ.length:=by rw [I.len];exact (List.getElem?_eq_some_iff.mp hi).1
 refine wpAny_bind (wpAny_bindName (wn I hN hi (.inl hl) (v:=.non) (u:=.none) rfl (fun s1 I1=>?_) (.inr hl)))
 obtain ⟨m,hn,hlk⟩:=I1.loc
 have hk:X.env.kindOf n=some .local:=hl
 obtain ⟨u,ru,lk⟩:=hlk i n .non hi (List.getElem?_set_self hiσ) (.inl hl)
 have hmn:(m n).isSome=true:=by
  rcases lk with ⟨_,e⟩ | ⟨k,_⟩
  ·rw [e];rfl
  ·rcases k with k | k <;> (rw [hk] at k;cases k)
 have hp:(X.env.scope.kind == .class || (X.env.scope.kind == .module && X.env.locals != X.env.globals))=false:=by rw [I.ok.kind];rfl
 unfold unbindBehindTheSuite
 refine wpAny_onRaise ?_
 unfold unbindName
 refine wpAny_bind (wpAny_point (wpAny_bind ?_))
 unfold deleteName
 simp only [hk,hp]
 rw [if_neg (by decide)]
 refine wpAny_bind (wpAny_nsDel_keeps hn fun h2 v2 hn2 hs=>?_)
 rw [hmn]
 refine wpAny_pure (wpAny_point (h _ ?_))
 have neL:∀ b o,X.s₀.heap.get? b=some o→b ≠ X.env.locals:=fun b o e=>Nat.ne_of_lt (Nat.lt_of_lt_of_le (Heap.lt_size e) I1.ok.above)
 refine ⟨I1.ok,I1.os,I1.bare,⟨fun b o e n' hb hx=>(hs.2 b (neL b o e)).trans (I1.base.keep b o e n' hb hx),fun b o e n' hb hx=>?_,I1.base.free,fun b o e hx=>?_,I1.base.tups,I1.base.frzs,I1.base.tbls⟩,⟨_,hn2,fun j y v e1 e2 e3=>?_⟩,fun y c e=>?_,I1.free,I1.freeC,fun p hp=>?_,fun b u' e=>?_,by simpa using I.len⟩
 ·obtain ⟨sl,e1⟩:=I1.base.slot b o e n' hb hx
  exact ⟨sl,(hs.2 b (neL b o e)).trans e1⟩
 ·obtain ⟨o',e1⟩:=I1.base.there b o e hx
  exact ⟨o',(hs.2 b (neL b o e)).trans e1⟩
 ·by_cases hj:j=i
  ·subst hj
   rw [List.getElem?_set_self hiσ] at e2
   cases e2
  ·rw [List.getElem?_set_ne (Ne.symm hj)] at e2
   obtain ⟨u',r',q⟩:=hlk j y v e1 (by rw [List.getElem?_set_ne (Ne.symm hj)];exact e2) e3
   refine ⟨u',r',?_⟩
   rcases q with ⟨k,e⟩ | ⟨k,c,e,z⟩
   ·refine .inl ⟨k,?_⟩
    have:y ≠ n:=fun e=>hj (Ku hN e1 (e ▸ hi))
    simp [this,e]
   ·exact .inr ⟨k,c,e,z.sameBut hs (I1.cne y c e)⟩
 ·obtain ⟨w',z⟩:=I1.cell y c e
  exact ⟨w',z.sameBut hs (I1.cne y c e)⟩
 ·obtain ⟨e,n',ne,nf,d⟩:=I1.pin p hp
  exact ⟨(hs.2 p.1 ne).trans e,n',ne,nf,d⟩
 ·have nL:∀ c,H c ≠ none→c ≠ X.env.locals:=fun c q z=>q (by rw [z];exact I1.free)
  refine (I1.hok b u' e).stay (fun c v hc q=>(hs.2 c (nL c ?_)).trans q) (fun _ q=>q) fun _ _ q=>q
  rcases hc with rfl | hc
  ·rw [e];exact fun z=>by cases z
  ·rw [hc];exact fun z=>by cases z
noncomputable def Gg.gone (D:Gg) (i:Nat):Gg:={ nx:=fun σ H=>D.nx (σ.set i none) H,rt:=D.rt,bk:=fun σ H=>D.bk (σ.set i none) H,ct:=fun σ H=>D.ct (σ.set i none) H }
noncomputable def PQ (K:PySem.W.Frag) (c:Addr) (i:Nat) (th:TS) (D:Gg):St→XK:=fun σ C od H=>∃ C',C=.ref C'∧PySem.W.exmOne K C (.ref c)=some true∧∀ x,H x=some (.ext (XA x C' od))→th (D.gone i) (σ.set i (some (.ref x))) H
noncomputable def VQ (K:PySem.W.Frag) (c:Addr) (i:Nat) (tb:(St→XK)→TS) (th:TS):TS:=fun D σ H=>tb (PQ K c i th D) D σ H
section
variable {X:Cx} {body suite:List Stmt} {b0:Stmt} {x n:Str} {c:Addr} {i:Nat} {tb:(St→XK)→TS} {th:TS} {xp hp pos:Pos}
theorem BN (hb:∀ pins E,PSs (X.tr pins (xeT X pins E)) body (tb E)) (hg:Gl X x) (hm:X.mg x=some (.ref c)) (hh:∀ e,PSs (X.hn e) (b0 :: suite) th) (hN:X.N.Nodup) (hi:X.N[i]? = some n)
  (hl:X.env.scope.names.lookup n=some .local) (F:Fr1 X:=by exact ⟨rfl,rfl⟩) (hdb:(x == ("__debug__" : Str))=false:=by decide) :
  PS X (.Try body [.ExceptHandler (some (.Name x xp)) (some n) (b0 :: suite) hp] [] [] pos) (VQ X.K c i tb th):=by
 intro pins s σ H D I h
 refine wpAny_Try_except (wpAny_mono (hb pins _ [] s σ H D (I.tr _) h) (fun f s1 q=>?_) fun e s1 q=>?_)
 ·have q':=q.untr
  cases f with
  | next=>exact wpAny_execs_nil q'
  | brk=>exact q'
  | cont=>exact q'
  | ret u=>exact q'
 ·refine q.note F fun s2 q2=>q2.flight F none fun s3 q3=>?_
  obtain ⟨σ1,H1,a,C,od,T,rfl,I2,ea,eT,nT,fl,C',eC,em,w⟩:=id q3
  cases eC
  refine wpAny_handleBy_cons (codeAny_handlers_test (gk (I2.hn (.ref a)) hg hm ?_ hdb)) (fun z=>by cases z)
  have LT:PySem.W.Looks (model X.prog X.w) s3.heap (typeOf (.ref a)) (.ref C):=by
   obtain ⟨vs,sl,e⟩:=fl.xa
   exact (PySem.W.Looks.ld e).andThen .now
  refine (PySem.W.exm_one I2.kIn LT em).here ?_
  rw [if_pos rfl]
  refine codeAny_handlers_suite_as (q3.flight F none fun s4 q4=>?_)
  ·obtain ⟨σ1,H1,a',C,od,T,ea',I3,ea,eT,nT,fl,C',eC,em,w⟩:=q4
   cases eC
   cases ea'
   refine wn (X:=X.hn (.ref a)) (I3.hn (.ref a)) hN hi (.inl hl) (v:=.ref a) (u:=.ref a) rfl (fun s5 I4=>?_) (.inr hl)
   refine wpAny_mono (hh (.ref a) pins s5 _ H1 (D.gone i) I4 (w a ea)) (fun f s5 q5=>?_) fun _ _ z=>False.elim z
   cases f with
   | next=>obtain ⟨σ',H',J,q⟩:=q5;exact Tm (J.unhn I.ok) hN hi hl fun s6 I6=>⟨_,_,I6,q⟩
   | brk=>obtain ⟨σ',H',J,q⟩:=q5;exact Tm (J.unhn I.ok) hN hi hl fun s6 I6=>⟨_,_,I6,q⟩
   | cont=>obtain ⟨σ',H',J,q⟩:=q5;exact Tm (J.unhn I.ok) hN hi hl fun s6 I6=>⟨_,_,I6,q⟩
   | ret u=>obtain ⟨v,σ',H',J,r,q⟩:=q5;exact Tm (J.unhn I.ok) hN hi hl fun s6 I6=>⟨v,_,_,I6,r,q⟩
end
theorem By {X:Cx} {body suite:List Stmt} {b0:Stmt} {x n:Str} {c:Addr} {i:Nat} {tb:(St→XK)→TS} {th:TS} {xp hp pos:Pos} (hb:∀ pins E,∃ t,PSs (X.tr pins (xeT X pins E)) body t∧t=tb E) (hg:Gl X x) (hm:X.mg x=some (.ref c))
  (hh:∀ e,∃ t,PSs (X.hn e) (b0 :: suite) t∧t=th) (hN:X.N.Nodup) (hi:X.N[i]? = some n) (hl:X.env.scope.names.lookup n=some .local) (F:Fr1 X:=by exact ⟨rfl,rfl⟩)
  (hdb:(x == ("__debug__" : Str))=false:=by decide):PS X (.Try body [.ExceptHandler (some (.Name x xp)) (some n) (b0 :: suite) hp] [] [] pos) (VQ X.K c i tb th):=
 BN (fun pins E=>by obtain ⟨t,h,rfl⟩:=hb pins E;exact h) hg hm (fun e=>by obtain ⟨t,h,rfl⟩:=hh e;exact h) hN hi hl F hdb
theorem tM (K:PySem.W.Frag) (c:Addr) (i:Nat) (tb:(St→XK)→TS) (th:TS) (D:Gg) (σ:St) (H:Hp):VQ K c i tb th D σ H=tb (PQ K c i th D) D σ H:=rfl
theorem pL (K:PySem.W.Frag) (c:Addr) (i:Nat) (th:TS) (D:Gg) (σ:St) (C:Value) (od:Option Addr) (H:Hp) :
  PQ K c i th D σ C od H = ∃ C',C=.ref C'∧PySem.W.exmOne K C (.ref c)=some true∧∀ x,H x=some (.ext (XA x C' od))→th (D.gone i) (σ.set i (some (.ref x))) H:=rfl
theorem yL (D:Gg) (i:Nat) (σ:St) (H:Hp):(D.gone i).nx σ H=D.nx (σ.set i none) H:=rfl
theorem MK (D:Gg) (i:Nat) (v:V) (H:Hp):(D.gone i).rt v H=D.rt v H:=rfl
theorem OwnTail.has {h:Heap} {bm tl:List Value} {v:Value} (T:OwnTail h bm tl) (e:bm.contains v=true):tl.contains v=true:=by
 induction T with
 | base=>exact e
 | own _ _ _ _ ih=>rw [List.contains_cons,ih,Bool.or_true]
noncomputable def LJ (K:PySem.W.Frag) (E:St→XK) (te:TE):TS:=fun D σ H=>te σ H fun v H1=>∃ x C od,v=.ref x∧H1 x=some (.ext (XF x C od))∧ut K C∧E σ (.ref C) od (upd H1 x (.ext (XA x C od)))
theorem yB {M:Model} {A:Around} {E:Value→Shared→Prop} {s:Shared} {env:Env} {x:Sem Value} {Q:Flow→Shared→Prop} (hh:A.handled=none)
  (h:wpAny M A x (fun v s1=>∃ e C od vs sl nm q N bs bm hdct sn sub ab col dd k0 k1 k2 k3 k5 newId,v=.ref e∧bm.contains (.type "BaseException")=true ∧
   s1.heap.get? C=some (excClassObj nm q C N bs bm hdct sn sub ab col dd k0 k1 k2 k3 k5 newId)∧s1.heap.get? e=some ⟨.ref C,od,.fields vs,sl⟩∧vs[1]? = some .none∧E (.ref e) s1) E s) :
  wpAny M A (raiseStmt env (some x) none) Q E s:=by
 unfold raiseStmt
 refine wpAny_bind (wpAny_mono h (fun v s1 h1=>?_) fun _ _ x=>x)
 obtain ⟨e,C,od,vs,sl,nm,q,N,bs,bm,hdct,sn,sub,ab,col,dd,k0,k1,k2,k3,k5,newId,rfl,hb,hC,he,h1,hE⟩:=h1
 have hcB:(Value.ref C :: bm).contains (.type "BaseException")=true:=by rw [List.contains_cons,hb,Bool.or_true]
 obtain ⟨hp,g,d,tk,os⟩:=s1
 repeat (first | with_reducible refine wpAny_loadPart_at he ?_ | with_reducible refine wpAny_loadPart_at hC ?_ | (with_reducible refine wpAny_isSubtype_exc hC ?_;rw [hcB]) | (with_reducible refine wpAny_field he rfl h1 ?_) | wp_step)
 exact wpAny_raiseNew_none hh hE
section
variable {X:Cx} {e:Expr} {te:TE} {pos:Pos} {E:St→XK}
theorem Vp (he:PE X e te) (hT:GC X E) (hc:X.calm=true:=by rfl):PS X (.Raise (some e) none pos) (LJ X.K E te):=by
 intro pins s σ H D I h
 rw [arm_exec_Raise]
 refine wpAny_bind (wpAny_standAt (yB (I.ok.hd hc) ?_))
 refine wpAny_bind (thn (he pins s σ H _ I h) fun u s1 ⟨v,H1,I1,r,x,C,od,ev,ex,c,q⟩=>wpAny_bind (wpAny_standAt (wpAny_pure ?_)))
 subst ev
 obtain rfl:u=Value.ref x:=r
 obtain ⟨vs,sl,hx,z1,z2⟩:=(show gd X.prog X.w H1 s1.heap x (.ext (XF x C od)) from I1.hok _ _ ex).1
 obtain ⟨fI,hfI⟩:=c.ex
 obtain ⟨tl,N,nm,q',bs,sn,sub,ab,co,dd,k0,k1,k2,k3,k5,mN,hC,hN,hi,T⟩:=jv I1.kIn hfI
 exact ⟨x,C,od,vs,sl,nm,q',N,bs,tl,true,sn,sub,ab,co,dd,k0,k1,k2,k3,k5,_,rfl,L2.OwnTail.has T (by decide),hC,hx,z2,hT pins σ H1 s1 x C od I1 ex q⟩
theorem PS.nox {X:Cx} {st:Stmt} {t:TS} (h:PS X.nox st t):PS X st t:=fun pins s σ H D I hw=>
 wpAny_mono (h pins s σ H D (I.wish _) hw) (fun _ _ q=>q.unwish) fun _ _ z=>False.elim z
end
theorem Fun.okX {P:Program} {w:World} {K:PySem.W.Frag} {mg:Str→Option Value} {base:Heap} {x qual:Str} {st:Stmt} {f:Addr} {fd:FuncData} {N ps:List Str} {k:Nat} {sp:Sp} (F:Fun K x qual st f fd) (S:xb N ps (jb st))
  (len:∀ vs H Q E,sp vs H Q E→vs.length=ps.length)
  (hbody:∀ (cdv:Value) (A:Around) (outer:List Env) (s:Shared) (H:Hp) (vs:List V) (Q:VK) (E:XK),oh k (A.deeper (envOfC qual (jb st) s.heap.objs.size f cdv))→sp vs H Q E →
   ∃ t,PSs ((vy (CX1 P w) P w K mg base N qual (jb st) f cdv A outer s H E).wish (xeA (vy (CX1 P w) P w K mg base N qual (jb st) f cdv A outer s H E) fun _=>E)) (Ij st) t∧t { nx:=fun _ H'=>Q .non H',rt:=Q } (start N vs) H):Eb P w K mg base (CX1 P w) (k + 1) f fd ps sp:=by
 obtain ⟨oc,od,kV,doc,pm,an,cdv,ct,osl,rfl,lk,hcd⟩:=F.ex
 refine yN lk hcd S len fun A outer s H vs Q E hr hsp=>?_
 obtain ⟨t,h,q⟩:=hbody cdv A outer s H vs Q E hr hsp
 exact ⟨t,fun pins s1 σ H1 D I hw=>wpAny_mono (h pins s1 σ H1 D (I.wish _) hw) (fun _ _ q=>q.unwish) fun _ _ z=>cM z,q⟩
noncomputable def xeB (B:Cx) (E:XK) (e:Value) (s':Shared):Prop:=
 ∃ pins fl σ' H' x C od T,e=.ref x∧Inv B pins σ' H' s'∧H' x=some (.ext (XA x C od))∧H' T=none∧MO B pins T∧B.s₀.heap.objs.size ≤ T∧FlA x C od T fl s'.heap∧E (.ref C) od H'
structure oR (X:Cx) (scope:Scope) (N:List Str) (tg elt:Expr) (ifs:List Expr) (g:TG) (tc:TT) (te:XK→TE):Prop where
 tgt:∀ E C s H fp,PG ((X.block scope C N s H fp).wish (xeB (X.block scope C N s H fp) E)) tg g
 tests:∀ E C s H fp,PTs ((X.block scope C N s H fp).wish (xeB (X.block scope C N s H fp) E)) ifs tc
 elem:∀ E C s H fp,PE ((X.block scope C N s H fp).wish (xeB (X.block scope C N s H fp) E)) elt (te E)
theorem oR.of {X:Cx} {scope:Scope} {N:List Str} {tg elt:Expr} {ifs:List Expr} {g:TG} {tc:TT} {te:XK→TE} (h1:∀ E C s H fp,PG ((X.block scope C N s H fp).wish (xeB (X.block scope C N s H fp) E)) tg g)
  (h2:∀ E C s H fp,∃ t,PTs ((X.block scope C N s H fp).wish (xeB (X.block scope C N s H fp) E)) ifs t∧t=tc) (h3:∀ E C s H fp,∃ t,PE ((X.block scope C N s H fp).wish (xeB (X.block scope C N s H fp) E)) elt t∧t=te E):oR X scope N tg elt ifs g tc te:=
 ⟨h1,fun E C s H fp=>by obtain ⟨t,h,rfl⟩:=h2 E C s H fp;exact h,fun E C s H fp=>by obtain ⟨t,h,e⟩:=h3 E C s H fp;rw [← e];exact h⟩
noncomputable def QN (J:It) (g:TG) (tc:TT) (te:TE) (σb:St) (Q:VK) (H:Hp):Prop:=∃ W:Nat→Nat→List V→Hp→Prop,(∃ m,W 0 m [] H)∧Xw J g tc te σb Q W
noncomputable def DN (wi:TI) (g:TG) (tc:TT) (te:XK→TE) (sel:List (Option Nat)) (E:St→XK):TE:=fun σ H Q=>wi σ H fun J H1=>QN J g tc (te (E σ)) (blk sel σ) Q H1
section
variable {X:Cx} {elt tg iter:Expr} {ifs:List Expr} {scope:Scope} {pos:Pos} {wi:TI} {g:TG} {tc:TT} {te:XK→TE} {N:List Str} {sel:List (Option Nat)}
theorem FlA.but {x C T c:Addr} {od:Option Addr} {fl:Value} {h h':Heap} (z:FlA x C od T fl h) (n1:x ≠ c) (n2:T ≠ c) (k:∀ b,b ≠ c→h'.get? b=h.get? b):FlA x C od T fl h':=by
 obtain ⟨ne,vs,sl,oT,ts,he,h1,hT,hd,h3⟩:=z
 exact ⟨ne,vs,sl,oT,ts,(k _ n1).trans he,h1,(k _ n2).trans hT,hd,h3⟩
end
structure NR (K:PySem.W.Frag) (C:Addr):Prop where
 cl:Cls K C
 ha:PySem.W.findIn K (.ref C) "__class__"=some (some (.builtin "object.__class__"))
 hn:PySem.W.specialIn K (.builtin "object.__class__") "__get__"=some (some (.builtin "getset_descriptor.__get__"))
 htk:PySem.W.takesIn K (.builtin "object.__class__")=some true
 hm:PySem.W.mroIn K C (.type "object")=some true
theorem NR.ty {K:PySem.W.Frag} {H:Hp} {C a dx:Addr} {fs:List (Str × V)} (c:NR K C) (e:H a=some (.ins C dx fs)):Cz K H (.ref a) (.ref C):=.ins e c.cl c.ha c.hn c.htk c.hm
end L2
namespace L2
open PySem PySem.Spec PyProof.Rows
noncomputable def Itd (hi:Int) (n:Nat):It:=⟨fun i _=>i < n,fun i H x H'=>H'=H∧x=.int (hi - i),fun i _=>n ≤ i⟩
theorem jG {P:Program} {w:World} {K:PySem.W.Frag} {tg:Expr} (it:Addr) (hi:Int) (n:Nat):iJ P w K tg (Itd hi n) [it] it (fun i h=>IsRangeIter h it (hi + (i:Nat) * (-1)) ((n:Int) - (i:Nat)) (-1)) where
 mem:=by simp
 obj:=fun i h st b hb=>by
  have e:b=it:=by simpa using hb
  subst e
  exact ⟨_,st,fun v z=>by
   have z':Data.fields _=Data.cell v:=z
   cases z'⟩
 keep:=fun i h h' st k=>k it (by simp) _ st
 item:=by
  intro X hP hw hK hc i pins s σ H E I hf st hg
  subst hP hw hK
  obtain ⟨f0,f1,f2,f3,f4,f5⟩:=hf it (by simp)
  have W:=Walks.range (prog:=X.prog) (w:=X.w) (I.ok.hd hc) it hi (-1) n
  refine W.item i s _ _ hg st fun v h' tk hv st' kk=>?_
  obtain ⟨t,rfl⟩:=hv
  have I1:Inv X pins σ H { s with heap:=h',toks:=tk }:=I.turned (fun b o hb e=>kk b o (by simpa using hb) e) f0 f1 f3 f4 f5
  refine ⟨_,rfl,kD (s:={ s with heap:=h',toks:=tk }) (n := "range_iterator") st' rfl rfl (by decide) ⟨.int (hi - i),H,I1,⟨t,?_⟩,⟨rfl,rfl⟩,st',fun b hb=>(hf b hb).1⟩⟩
  congr 1
  omega
 done:=by
  intro X hP hw hK hc i pins s σ H E I hf st hg
  subst hP hw hK
  obtain ⟨f0,f1,f2,f3,f4,f5⟩:=hf it (by simp)
  exact wpAny_pyNext_range_end (I.ok.hd hc) st (by have:n ≤ i:=hg;omega) fun h' eb=>⟨rfl,I.turned (t':=s.toks) (fun b o hb e=>eb b o hb e) f0 f1 f3 f4 f5⟩
 self:=fun _ _ _ _ _ st h=>wpAny_pyIter_rangeiter st h
theorem Xk (a b:Int):Builtin.Range.rangeSize a b (-1)=if b < a then a - b else 0:=by
 unfold Builtin.Range.rangeSize
 rw [if_neg (show ¬ (-1:Int) > 0 by decide),show (- -1:Int)=1 by decide,Int.ediv_one]
 show (if b < a then a - b - 1 + 1 else 0)=_
 split <;> omega
theorem kC {a b:Int} (ha:-(2 ^ 62) ≤ a) (ha':a < 2 ^ 62) (hb:-(2 ^ 62) ≤ b) (hb':b < 2 ^ 62):Builtin.Range.small a b (-1)=true:=by
 unfold Builtin.Range.small
 rw [Xk]
 simp only [Builtin.Range.rangeFitsLong,Bool.and_eq_true,Bool.or_eq_true,decide_eq_true_eq,beq_iff_eq,show ¬ (-1:Int) > 0 by decide,if_false]
 split <;> omega
section
variable {X:Cx} {tg:Expr}
noncomputable def dO (ta:TA):TI:=fun σ H R=>ta σ H fun vs H1=>∃ i j:Int,vs=[.int i,.int j,.int (-1)]∧(-1073741824 ≤ i∧i < 1073741824∧-1073741824 ≤ j∧j < 1073741824)∧R (Itd i (i - j).toNat) H1
theorem FD {a b c:Expr} {ta:TA} {p pos:Pos} (hg:Gl X "range") (hm:X.mg "range"=none) (ha:PA X [a,b,c] ta) (hs:starEach [a,b,c] X.env=[(false,eval a X.env),(false,eval b X.env),(false,eval c X.env)]:=by rfl) (hs2:starEach [b,c] X.env=[(false,eval b X.env),(false,eval c X.env)]:=by rfl) :
  PI X tg (.Call (.Name "range" p) [a,b,c] [] pos) (dO ta):=by
 intro pins s σ H R I h
 refine Call_ (Bn I hg hm boot_range (PyProof.Rows.callWith_type1 (thn (ha pos pins s σ H _ I h) fun us s1 hZ1=>?_) (by rw [hs,hs2]) (by rw [hs2];rfl)))
 obtain ⟨vs,H1,I1,r1,q1⟩:=hZ1
 obtain ⟨i,j,e,⟨q1,q2,q3,q4⟩,q⟩:=q1
 subst e
 cases r1 with
 | cons r rr=>
  cases rr with
  | cons r' rr=>
   cases rr with
   | cons r'' rr=>
    cases rr
    obtain ⟨t,rfl⟩:=r
    obtain ⟨t',rfl⟩:=r'
    obtain ⟨t'',rfl⟩:=r''
    refine call_range_3 (by decide) ?_ (Or.inl (PyProof.noPylong_small (by omega)))
    refine wpAny_pyIter_range (IsRange.new ..) (kC (by omega) (by omega) (by omega) (by omega)) ?_
    have I2:Inv X pins σ H1 { s1 with heap:=s1.heap.push { cls:=.type "range",data:=.fields #[.int i t,.int j t',.int (-1) t''] },toks:=s1.toks }:=I1.kept fun b o e=>Heap.get?_push_of_some _ e
    refine ⟨(s1.heap.push { cls:=.type "range",data:=.fields #[.int i t,.int j t',.int (-1) t''] }).objs.size,[(s1.heap.push { cls:=.type "range",data:=.fields #[.int i t,.int j t',.int (-1) t''] }).objs.size],_,_,H1,rfl,
     I2.kept (t':=s1.toks) fun b o e=>Heap.get?_push_of_some _ e,jG _ i (i - j).toNat,?_,fun b hb=>?_,q⟩
    ·have e1:i + ((0:Nat):Int) * (-1)=i:=by simp
     have e2:(((i - j).toNat:Nat):Int) - ((0:Nat):Int)=Builtin.Range.rangeSize i j (-1):=by rw [Xk];split <;> omega
     show IsRangeIter _ _ (i + ((0:Nat):Int) * (-1)) ((((i - j).toNat:Nat):Int) - ((0:Nat):Int)) (-1)
     rw [e1,e2]
     exact Heap.get?_push_size _ rfl
    ·have e:b=(s1.heap.push { cls:=.type "range",data:=.fields #[.int i t,.int j t',.int (-1) t''] }).objs.size:=by simpa using hb
     subst e
     exact I2.fpOk (Nat.le_refl _) (I2.hok.fresh (Nat.le_refl _))
end
theorem MB:typeLookup (.type "list_reverseiterator") "__len__"=pure none:=by rw [typeLookup_type,builtinLookup_eq_fast];kernel_rfl
theorem sw:typeLookup (.type "list_reverseiterator") "__length_hint__"=pure (some (.builtin "list_reverseiterator.__length_hint__")):=by rw [typeLookup_type,builtinLookup_eq_fast];kernel_rfl
section
variable {prog:Program} {w:World} {A:Around} {E:Value→Shared→Prop} {s:Shared} {it l:Addr} {items:Array Value}
theorem OI (hT:s.TypeIs (.ref it) "list_reverseiterator") {Q:Bool→Shared→Prop} (h:Q false s):wpAny (model prog w) A (Builtin.List.listLengthHint (.ref it)) Q E s:=by
 unfold Builtin.List.listLengthHint
 refine wpAny_bind (wpAny_specialOf hT MB ?_)
 show wpAny _ A (specialOf (Value.ref it) (Str.ofString "__length_hint__") >>= _) _ _ _
 refine wpAny_bind (wpAny_specialOf hT sw ?_)
 generalize hid:("list_reverseiterator.__length_hint__" : String)=id0
 wp_delta
 rw [show splitId id0=some ("list_reverseiterator","__length_hint__") from by subst hid;decide +kernel]
 subst hid
 refine wpAny_bind (wpAny_isInstance (T := "list_reverseiterator") (b:=true) hT (by rw [isSubtype_type];kernel_rfl) ?_)
 refine wpAny_ite_split (fun hab=>absurd hab (by decide)) (fun _=>?_)
 refine wpAny_ite_split (fun _=>?_) (fun hab=>absurd (by decide +kernel) hab)
 refine wpAny_ite_split (fun hab=>absurd hab (by decide +kernel)) (fun _=>?_)
 exact wpAny_pure h
noncomputable abbrev ZN (items:Array Value):Nat→Value→Prop:=fun i v=>items[items.size - 1 - i]? = some v
theorem SA {R:Result→Shared→Prop} (hh:A.handled=none) (hit:s.heap.IsRevIter it l ((items.size:Int) - 1 - ((0:Nat):Int))) (hl:s.heap.IsList l items) (hne:l ≠ it) (S:Addr) (hSi:S ≠ it) (hSl:S ≠ l) (res:Value) (c₀:Nat)
  (hS:s.heap.get? S=some { cls:=.type "list",data:=.seq #[] c₀ }) (hn:items.size ≤ sizeLine)
  (hR:∀ h' tk acc c,(∀ b o,b ≠ S→b ≠ it→s.heap.get? b=some o→h'.get? b=some o)→h'.get? S=some { cls:=.type "list",dict:=none,data:=.seq acc c,slots:=#[] }→ItemsOf (ZN items) acc items.size→R (.ok (.ret res)) { s with heap:=h',toks:=tk }) :
  wpAny (model prog w) A.in1 (Builtin.List.listExtendWith (.ref S) (.ref it) res)
   (fun fin s'=>match fin with | .done f=>R (.ok f) s' | .again c'=>c'.quiet=true∧codeAny (model prog w) A c' R s') (fun e s'=>R (.error e) s') s:=by
 unfold Builtin.List.listExtendWith
 refine wpAny_bind (wpAny_typeOf hit.typeIs ?_)
 have h1:Builtin.List.listSameRef (.ref S) (.ref it)=false:=by simp [Builtin.List.listSameRef,hSi]
 have h2:(Value.type "list_reverseiterator" == Value.type "list")=false:=by decide
 have h3:(Value.type "list_reverseiterator" == Value.type "tuple")=false:=by decide
 simp only [h1,h2,h3,Bool.or_false,Bool.false_eq_true,if_false]
 refine wpAny_bind (wpAny_pyIter_revIter hit ?_)
 refine wpAny_bind (wpAny_holding (OI hit.typeIs ?_))
 refine wpAny_ite_split (fun hab=>absurd hab (by decide +kernel)) (fun _=>?_)
 have W:=Walks.listRev (prog:=prog) (w:=w) (A:=A.in1) hh it l hne items
 have hSf:S ∉ [it,l]:=by simp only [List.mem_cons,List.not_mem_nil,or_false,not_or];exact ⟨hSi,hSl⟩
 refine wpAny_pure ⟨plainId_quiet PySem.F.plain_extend_loop _,codeAny_extend_loopS W.toS hn S hSf res items.size 0 s #[] c₀ rfl (Nat.zero_le _) ⟨Nat.zero_le _,hit,hl⟩ hS (ItemsOf.nil _) fun s' acc c hm hS' hacc=>?_⟩
 rw [Moved.eq_with hm]
 refine hR s'.heap s'.toks acc c (fun b o hb hi e=>hm.heap b o (fun hmem=>?_) e) hS' hacc
 rcases List.mem_cons.mp hmem with e' | hmem
 ·exact hb e'
 ·exact hi (List.mem_singleton.mp hmem)
theorem bw {Q:Value→Shared→Prop} (hh:A.handled=none) (hit:s.heap.IsRevIter it l ((items.size:Int) - 1 - ((0:Nat):Int))) (hl:s.heap.IsList l items) (hne:l ≠ it) (hn:items.size ≤ sizeLine)
  (hQ:∀ h' tk acc c,(∀ b o,b ≠ it→s.heap.get? b=some o→h'.get? b=some o)→h'.get? s.heap.objs.size=some { cls:=.type "list",dict:=none,data:=.seq acc c,slots:=#[] }→ItemsOf (ZN items) acc items.size→Q (.ref s.heap.objs.size) { s with heap:=h',toks:=tk }) :
  wpAny (model prog w) A (call (.type "list") [.ref it]) Q E s:=by
 have li:it < s.heap.objs.size:=by obtain ⟨_,e,_⟩:=hit;exact Heap.lt_size e
 have ll:l < s.heap.objs.size:=by obtain ⟨_,e,_⟩:=hl;exact Heap.lt_size e
 refine callType_codes (Q₁:=fun obj s₁=>obj=.ref s.heap.objs.size∧s₁ = { s with heap:=s.heap.push { cls:=.type "list",data:=.seq #[] } }) PySem.F.called_list (PySem.F.typeCall_list_1 _) PySem.F.entry_list_init
  (code_list_new _ ⟨rfl,rfl⟩) fun obj s₁ h₁=>?_
 obtain ⟨rfl,rfl⟩:=h₁
 have hS:(s.heap.push { cls:=.type "list",data:=.seq #[] }).get? s.heap.objs.size=some { cls:=.type "list",data:=.seq #[] }:=Heap.get?_push_size _ rfl
 refine ⟨⟨_,hS,rfl⟩,PySem.F.args_list_init_2 _ _,?_⟩
 show wpAny _ _ (do let old ← Builtin.List.listItems (.ref s.heap.objs.size);Builtin.List.listUpdate (.ref s.heap.objs.size) (fun _=>#[]);letGo old.toList.reverse;Builtin.List.listExtendWith (.ref s.heap.objs.size) (.ref it) .none) _ _ _
 refine wpAny_bind ?_
 unfold Builtin.List.listItems
 refine wpAny_bind (wpAny_seqItems hS rfl (wpAny_pure ?_))
 show wpAny _ _ (updateSeq s.heap.objs.size (fun _=>#[]) >>= fun _=>letGo (#[]:Array Value).toList.reverse >>= fun _=>Builtin.List.listExtendWith (.ref s.heap.objs.size) (.ref it) .none) _ _ _
 refine wpAny_bind (wpAny_updateSeq hS rfl ?_)
 have hS₂:=Heap.get?_update_self (Obj.mapSeq (fun _=>(#[]:Array Value))) hS rfl
 have oth:∀ b o,s.heap.get? b=some o→((s.heap.push { cls:=.type "list",data:=.seq #[] }).update s.heap.objs.size (Obj.mapSeq (fun _=>(#[]:Array Value)))).get? b=some o:=
  fun b o e=>(Heap.get?_update_other _ _ (Ne.symm (Nat.ne_of_lt (Heap.lt_size e)))).trans (Heap.get?_push_of_some _ e)
 refine wpAny_bind (wpAny_letGo ?_)
 refine SA (A:=A.in1) hh (hit.at fun o e=>oth _ o e) (hl.at fun o e=>oth _ o e) hne _ (Ne.symm (Nat.ne_of_lt li)) (Ne.symm (Nat.ne_of_lt ll)) .none _ hS₂ hn fun h' tk acc c hk hS' hacc=>?_
 exact ⟨rfl,hQ h' tk acc c (fun b o hb e=>hk b o (Nat.ne_of_lt (Heap.lt_size e)) hb (oth b o e)) hS' hacc⟩
end
section
variable {X:Cx}
noncomputable def CA (K:PySem.W.Frag) (ta:TA):TE:=fun σ H Q=>ta σ H fun vs H1=>∃ a xs,vs=[.ref a]∧SqL K H1 a xs∧∀ l,H1 l=none→Q (.ref l) (upd H1 l (.lst xs.reverse))
theorem Wn {a:Expr} {ta:TA} {p q pos pos':Pos} (hc:X.calm=true) (hg:Gl X "list") (hm:X.mg "list"=none) (hg':Gl X "reversed") (hm':X.mg "reversed"=none) (ha:PA X [a] ta) (hs:starEach [a] X.env=[(false,eval a X.env)]:=by rfl)
  (hs2:starEach [Expr.Call (.Name "reversed" q) [a] [] pos'] X.env=(false,eval (Expr.Call (.Name "reversed" q) [a] [] pos') X.env) :: starEach [] X.env:=by rfl) :
  PE X (.Call (.Name "list" p) [.Call (.Name "reversed" q) [a] [] pos'] [] pos) (CA X.K ta):=by
 intro pins s σ H Q I h
 refine wpAny_Call_Name_kw (Bn I hg hm sr ?_)
 refine PyProof.Rows.callWith_type1 ?_ hs2 rfl
 rw [hs2]
 show wpAny _ _ (spliced ((false,eval (Expr.Call (.Name "reversed" q) [a] [] pos') X.env) :: [])) _ _ s
 refine Calls.spliced_cons ?_
 refine Call_ (Bn I hg' hm' Yv (PyProof.Rows.callWith_type1 (thn (ha pos' pins s σ H _ I h) fun us s1 hZ1=>?_) hs rfl))
 obtain ⟨vs,H1,I1,r1,q1⟩:=hZ1
 obtain ⟨a,xs,e,hq,q⟩:=q1
 subst e
 cases r1 with
 | cons r rr=>
  cases rr
  cases r
  obtain ⟨its,rv,pl,hz⟩:=I1.list hq
  have hl:=rv.length
  have hlt:a < s1.heap.objs.size:=by obtain ⟨_,e,_⟩:=pl.isList;exact Heap.lt_size e
  refine call_reversed_list pl.isList ?_
  refine Calls.spliced_nil ?_
  have hit:(s1.heap.push (revObj a ((its.toArray.size:Int) - 1))).IsRevIter s1.heap.objs.size a ((its.toArray.size:Int) - 1 - ((0:Nat):Int)):=by
   refine ⟨_,Heap.get?_push_size _ rfl,rfl,?_⟩
   simp only [revObj]
   simp
  have kp:∀ b o,s1.heap.get? b=some o→(s1.heap.push (revObj a ((its.toArray.size:Int) - 1))).get? b=some o:=fun b o e=>Heap.get?_push_of_some _ e
  refine bw (I1.ok.hd hc) hit (pl.isList.at fun o e=>kp _ o e) (Nat.ne_of_lt hlt) (by rw [List.size_toArray];omega) fun h' tk acc c hk e' hacc=>?_
  refine ⟨.ref _,_,I1.laid (o:=.lst xs.reverse) (t':=tk) (fun b u e=>hk b u (Nat.ne_of_lt (Heap.lt_size e)) (kp b u e)) (by rw [Heap.size_push];exact Nat.le_succ _) ⟨by rw [List.length_reverse];omega,acc.toList,c,?_,e'⟩,rfl,q _ (I1.hok.fresh (by rw [Heap.size_push];exact Nat.le_succ _))⟩
  have hv:=aB (f:=fun i=>xs.getD (xs.length - 1 - i) .non) (fun i v hv=>by
   have hv':its.toArray[its.toArray.size - 1 - i]? = some v:=hv
   rw [List.size_toArray,← hl,List.getElem?_toArray] at hv'
   have hj:=(List.getElem?_eq_some_iff.mp hv').1
   have hx:xs[xs.length - 1 - i]? = some xs[xs.length - 1 - i]:=List.getElem?_eq_getElem (by omega)
   obtain ⟨w,hw,rw'⟩:=rv.get hx
   rw [hv'] at hw
   cases hw
   rw [List.getD_eq_getElem?_getD,hx]
   exact rw') hacc
  have er:(List.range its.toArray.size).map (fun i=>xs.getD (xs.length - 1 - i) .non)=xs.reverse:=by
   rw [List.size_toArray,← hl]
   refine List.ext_getElem (by simp) fun i h1 h2=>?_
   rw [List.getElem_map,List.getElem_range,List.getElem_reverse,List.getD_eq_getElem?_getD,List.getElem?_eq_getElem (by simp at h2;omega)];rfl
  rw [er] at hv
  exact hv
end
section
variable {prog:Program} {w:World} {A:Around} {R:Result→Shared→Prop} {I:Addr} {fp wr:List Addr} {n:Nat} {P:Nat→Value→Prop} {St:Nat→Heap→Prop}
noncomputable def KN (P:Nat→Value→Prop) (bt:Nat→Nat→Bool) (j:Nat) (acc:Array Value):Prop:=(j=0∧acc=#[])∨∃ vb i,j=i + 1∧acc=#[vb,vb]∧P (argBest bt i) vb
theorem qE (W:Walks prog w A.in1 I fp wr n P St) (bt:Nat→Nat→Bool) (hcmp:CmpOf prog w A.in1 .Lt P bt) (S:Addr) (hSf:S ∉ fp) (dv:Value) (kn:Str) :
  ∀ (k j:Nat) (s:Shared) (acc:Array Value) (c:Nat),n - j=k→j ≤ n→St j s.heap→KN P bt j acc →
  s.heap.get? S=some { cls:=.type "list",dict:=none,data:=.seq acc c,slots:=#[] } →
  (∀ v h' tk,(n=0∧v=dv)∨(0 < n∧P (argBest bt (n - 1)) v)→(∀ b o,b ∉ wr→b ≠ S→s.heap.get? b=some o→h'.get? b=some o)→R (.ok (.ret v)) { s with heap:=h',toks:=tk }) →
  codeAny (model prog w) A (.builtin "min.loop" ⟨[.ref I,.none,.ref S],[(kn,dv)]⟩) R s:=by
 have hSw:S ∉ wr:=fun h=>hSf (W.sub _ h)
 have hname:(toString "min" ++ toString ".loop" : String) = "min.loop" := by decide
 intro k
 induction k with
 | zero=>
  intro j s acc c hk hj hst hB hS hR
  have hin:j=n:=by omega
  refine codeAny_builtin PySem.F.entry_min_loop ?_
  rw [Around.under_plainId PySem.F.plain_min_loop _]
  show wpAny _ A.in1 (seqItems? (.ref S) >>= _) _ _ s
  refine wpAny_bind (wpAny_seqItems hS rfl ?_)
  show wpAny _ A.in1 (tryCatch (pyNext (.ref I)) _ >>= _) _ _ s
  refine wpAny_bind (wpAny_tryCatch (W.done s _ _ (hin ▸ hst) fun h' tk hk'=>?_))
  have hS':=hk' S _ hSw hS
  rcases hB with ⟨h0,rfl⟩ | ⟨vb,i,hi,rfl,hP⟩
  ·show wpAny _ A.in1 (rule _ >>= _) _ _ _
   refine wpAny_bind (wpAny_rule (wpAny_pure ?_))
   exact hR dv h' tk (.inl ⟨by omega,rfl⟩) fun b o hbw hbS e=>hk' b o hbw e
  ·show wpAny _ A.in1 (updateSeq S (fun _=>#[]) >>= _) _ _ _
   refine wpAny_bind ?_
   refine wpAny_updateSeq hS' rfl (wpAny_bind (wpAny_letGo (wpAny_pure ?_)))
   refine hR vb _ tk (.inr ⟨by omega,by rw [show n - 1=i by omega];exact hP⟩) fun b o hbw hbS e=>(Heap.get?_update_other _ _ (Ne.symm hbS)).trans (hk' b o hbw e)
 | succ k ih=>
  intro j s acc c hk hj hst hB hS hR
  have hlt:j < n:=by omega
  refine codeAny_builtin PySem.F.entry_min_loop ?_
  rw [Around.under_plainId PySem.F.plain_min_loop _]
  show wpAny _ A.in1 (seqItems? (.ref S) >>= _) _ _ s
  refine wpAny_bind (wpAny_seqItems hS rfl ?_)
  show wpAny _ A.in1 (tryCatch (pyNext (.ref I)) _ >>= _) _ _ s
  refine wpAny_bind (wpAny_tryCatch (W.item j s _ _ hlt hst fun v h' tk hP hst' hk'=>?_))
  have hS':=hk' S _ hSw hS
  have put:∀ h'':Heap,h''=h'.update S (Obj.mapSeq (fun _=>#[v,v]))→St (j + 1) h'':=fun h'' e=>by
   subst e
   exact W.frame _ _ _ hst' fun b hbf o e=>(Heap.get?_update_other _ _ (fun h:S=b=>hSf (by rw [h];exact hbf))).trans e
  rcases hB with ⟨h0,rfl⟩ | ⟨vb,i,hi,rfl,hPb⟩
  ·show wpAny _ A.in1 (updateSeq S (fun _=>#[v,v]) >>= _) _ _ _
   refine wpAny_bind ?_
   refine wpAny_updateSeq hS' rfl ?_
   rw [hname]
   refine wpAny_pure ⟨plainId_quiet PySem.F.plain_min_loop _,ih (j + 1) _ #[v,v] _ (by omega) hlt (put _ rfl) (.inr ⟨v,j,rfl,rfl,by subst h0;exact hP⟩) (Heap.get?_update_self _ hS' rfl) fun v' h'' tk'' hP' hk''=>?_⟩
   exact hR v' h'' tk'' hP' fun b o hbw hbS e=>hk'' b o hbw hbS ((Heap.get?_update_other _ _ (Ne.symm hbS)).trans (hk' b o hbw e))
  ·subst hi
   show wpAny _ A.in1 (tryCatch (holding [v,v] (richCompare .Lt v vb >>= _)) _ >>= _) _ _ _
   refine wpAny_bind (wpAny_tryCatch (wpAny_holding (wpAny_bind (hcmp (i + 1) (argBest bt i) v vb _ _ _ hP hPb ?_))))
   refine wpAny_bind (wpAny_holding (wpAny_truthy_bool ?_))
   refine wpAny_bind (wpAny_letGo (wpAny_pure ?_))
   cases hb:bt (i + 1) (argBest bt i) with
   | true=>
    simp only [if_true]
    refine wpAny_bind ?_
    refine wpAny_updateSeq hS' rfl (wpAny_bind (wpAny_letGo ?_))
    rw [hname]
    refine wpAny_pure ⟨plainId_quiet PySem.F.plain_min_loop _,ih (i + 1 + 1) _ #[v,v] _ (by omega) hlt (put _ rfl) (.inr ⟨v,i + 1,rfl,rfl,by simp only [argBest,hb,if_true];exact hP⟩) (Heap.get?_update_self _ hS' rfl) fun v' h'' tk'' hP' hk''=>?_⟩
    exact hR v' h'' tk'' hP' fun b o hbw hbS e=>hk'' b o hbw hbS ((Heap.get?_update_other _ _ (Ne.symm hbS)).trans (hk' b o hbw e))
   | false=>
    simp only [Bool.false_eq_true,if_false]
    refine wpAny_bind (wpAny_letGo ?_)
    rw [hname]
    refine wpAny_pure ⟨plainId_quiet PySem.F.plain_min_loop _,ih (i + 1 + 1) _ #[vb,vb] c (by omega) hlt hst' (.inr ⟨vb,i + 1,rfl,rfl,by simp only [argBest,hb,Bool.false_eq_true,if_false];exact hPb⟩) hS' fun v' h'' tk'' hP' hk''=>?_⟩
    exact hR v' h'' tk'' hP' fun b o hbw hbS e=>hk'' b o hbw hbS (hk' b o hbw e)
end
section
variable {prog:Program} {w:World} {A:Around} {E:Value→Shared→Prop} {s:Shared}
theorem aF (a d:Value):argsOk "min" ⟨[a],[(Str.ofString "default",d)]⟩:=by unfold argsOk;kernel_rfl
theorem iD {l:Addr} {its:Array Value} {dv:Value} {Q:Value→Shared→Prop} (hh:A.handled=none) (hl:s.heap.IsList l its) (ks:List Int) (hk:its.size=ks.length) (hv:∀ (i:Nat) (v:Value),its[i]? = some v→∃ t,v=Value.int (ks.getD i 0) t)
  (hQ:∀ v h' tk,(ks=[]∧v=dv)∨(∃ m t,ks.min? = some m∧v=.int m t)→(∀ b o,s.heap.get? b=some o→h'.get? b=some o)→Q v { s with heap:=h',toks:=tk }) :
  wpAny (model prog w) A (call (.builtin "min") [.ref l] [(Str.ofString "default",dv)]) Q E s:=by
 have hname:(toString "min" ++ toString ".loop" : String) = "min.loop" := by decide
 have hlt:l < s.heap.objs.size:=by obtain ⟨_,e,_⟩:=hl;exact Heap.lt_size e
 refine wpAny_call (codeAny_call_builtin PySem.F.plain_min PySem.F.entry_min ?_)
 simp only [checkBuiltinCall,PySem.F.kind_min]
 have key:wpAny (model prog w) A.in1 (Builtin.«min» ⟨[.ref l],[(Str.ofString "default",dv)]⟩) (fun fin s'=>match fin with
   | .done f=>(match (Except.ok f:Result) with | .ok (.ret v)=>Q v s' | .ok _=>False | .error e=>E e s')
   | .again c'=>c'.quiet=true∧codeAny (model prog w) A c' (fun r s'=>match r with | .ok (.ret v)=>Q v s' | .ok _=>False | .error e=>E e s') s') E s:=by
  show wpAny _ A.in1 (Builtin.Builtins.bindParams "min" ["key","default"] 0 ⟨[],[(Str.ofString "default",dv)]⟩ >>= _) _ _ s
  refine wpAny_bind (wpAny_of_eq (show Builtin.Builtins.bindParams "min" ["key","default"] 0 ⟨[],[(Str.ofString "default",dv)]⟩=pure [none,some dv] from rfl) ?_)
  refine wpAny_bind (wpAny_pure ?_)
  refine wpAny_bind (wpAny_pyIter_list hl ?_)
  refine wpAny_bind (wpAny_newObj_type ?_)
  rw [hname]
  have W:=Walks.list (prog:=prog) (w:=w) (A:=A.in1) hh s.heap.objs.size l (Nat.ne_of_lt hlt) its
  have hz1:(s.heap.push { cls:=.type "list_iterator",data:=.fields #[.ref l,.int 0 0] }).objs.size=s.heap.objs.size + 1:=Heap.size_push ..
  refine wpAny_pure ⟨plainId_quiet PySem.F.plain_min_loop _,qE W _ (CmpOf.ints_lt (fun i=>ks.getD i 0) fun i v h=>hv i v h) _ ?_ dv _ its.size 0 _ #[] _ rfl (Nat.zero_le _) ?_ (.inl ⟨rfl,rfl⟩) (Heap.get?_push_size _ rfl) fun v h' tk hP hk'=>?_⟩
  ·show (s.heap.push _).objs.size ∉ _
   rw [hz1]
   simp only [List.mem_cons,List.not_mem_nil,or_false,not_or]
   exact ⟨Nat.succ_ne_self _,Ne.symm (Nat.ne_of_lt (Nat.lt_succ_of_lt hlt))⟩
  ·exact W.frame 0 (s.heap.push { cls:=.type "list_iterator",data:=.fields #[.ref l,.int 0 0] }) _ ⟨⟨_,Heap.get?_push_size _ rfl,rfl,rfl⟩,hl.push _⟩ fun b _ o e=>Heap.get?_push_of_some _ e
  ·refine hQ v h' tk ?_ fun b o e=>hk' b o (fun hm=>?_) ?_ (Heap.get?_push_of_some _ (Heap.get?_push_of_some _ e))
   ·rcases hP with ⟨h0,h1⟩ | ⟨h0,h1⟩
    ·exact .inl ⟨List.length_eq_zero_iff.mp (by omega),h1⟩
    ·obtain ⟨t,e⟩:=hv _ v h1
     have hb:=argBest_lt (fun i=>ks.getD i 0) (its.size - 1)
     refine .inr ⟨_,t,?_,e⟩
     rw [List.min?_eq_some_iff]
     have hi:argBest (fun i j=>decide (ks.getD i 0 < ks.getD j 0)) (its.size - 1) < ks.length:=by omega
     refine ⟨?_,fun b hb'=>?_⟩
     ·rw [List.getD_eq_getElem?_getD,List.getElem?_eq_getElem hi]
      exact List.getElem_mem hi
     ·obtain ⟨j,hj,rfl⟩:=List.getElem_of_mem hb'
      have:=hb.2 j (by omega)
      rw [List.getD_eq_getElem?_getD (i:=j),List.getElem?_eq_getElem hj] at this
      exact this
   ·rw [List.mem_singleton.mp hm] at e
    exact absurd (Heap.lt_size e) (Nat.lt_irrefl _)
   ·rw [hz1]
    exact Nat.ne_of_lt (Nat.lt_succ_of_lt (Heap.lt_size e))
 cases hsig:Manifest.signature? "min" with
 | none=>exact wpAny_pure key
 | some sig=>
  have ha:=aF (.ref l) dv
  have ha':Bind.checkArgs "min" sig ⟨[.ref l],[(Str.ofString "default",dv)]⟩=pure ():=by simpa only [argsOk,hsig] using ha
  simp only [ha']
  exact wpAny_pure key
end
section
variable {X:Cx}
noncomputable def xP (K:PySem.W.Frag) (ta:TA) (td:TE):TE:=fun σ H Q=>ta σ H fun vs H1=>td σ H1 fun y H2=>∃ l ks,vs=[.ref l]∧SqL K H2 l (List.map V.int ks)∧Q (match ks.min? with | some m=>.int m | none=>y) H2
theorem IM {a d:Expr} {ta:TA} {td:TE} {p kp pos:Pos} (hc:X.calm=true) (hg:Gl X "min") (hm:X.mg "min"=none) (ha:PA X [a] ta) (hd:PE X d td)
  (he:∀ pos,backTo pos (starEach [a] X.env)=(false,eval a X.env) :: backTo pos (starEach [] X.env):=by intro _;rfl) (hpl:∀ pos,(backTo pos (starEach [a] X.env)).any (·.1)=false:=by intro _;rfl) :
  PE X (.Call (.Name "min" p) [a] [⟨some "default",d,kp⟩] pos) (xP X.K ta td):=by
 intro pins s σ H Q I h
 refine wpAny_Call_Name_kw (Bn I hg hm (show bootBuiltins "min"=some (.builtin "min") by decide +kernel) ?_)
 refine callWith_kw (id := "min") (thn (ha pos pins s σ H _ I h) fun us s1 hZ1=>?_) (he:=he pos) (hplain:=hpl pos)
 obtain ⟨vs,H1,I1,r1,q1⟩:=hZ1
 refine kws_cons (thn (hd pins s1 σ H1 _ I1 q1) fun v s2 ⟨y,H2,I2,r2,q2⟩=>kws_nil ?_)
 obtain ⟨l,ks,rfl,hq,q⟩:=q2
 cases r1 with
 | cons r rr=>
  cases rr
  cases r
  obtain ⟨its,rv,pl,hz⟩:=I2.list hq
  have hl:=rv.length
  rw [List.length_map] at hl
  refine iD (I2.ok.hd hc) pl.isList ks (by rw [List.size_toArray];omega) (fun i v hv=>?_) fun v' h' tk hv' hk=>⟨_,H2,I2.kept hk,?_,q⟩
  ·rw [List.getElem?_toArray] at hv
   have hi:i < ks.length:=by have:=(List.getElem?_eq_some_iff.mp hv).1;omega
   obtain ⟨w,hw,rw'⟩:=rv.get (show (ks.map V.int)[i]? = some (.int ks[i]) by rw [List.getElem?_map,List.getElem?_eq_getElem hi];rfl)
   rw [hv] at hw
   cases hw
   rw [List.getD_eq_getElem?_getD,List.getElem?_eq_getElem hi]
   exact rw'
  ·rcases hv' with ⟨rfl,rfl⟩ | ⟨m,t,hm,rfl⟩
   ·exact r2
   ·rw [hm];exact ⟨t,rfl⟩
end
end L2
namespace L2
open PySem PySem.Spec PyProof.Rows
structure BS (K:PySem.W.Frag) (C:Addr):Prop where
 x:ut K C
 ha:PySem.W.findIn K (.ref C) "__class__"=some (some (.builtin "object.__class__"))
 hn:PySem.W.specialIn K (.builtin "object.__class__") "__get__"=some (some (.builtin "getset_descriptor.__get__"))
 htk:PySem.W.takesIn K (.builtin "object.__class__")=some true
 hm:PySem.W.mroIn K C (.type "object")=some true
section
variable {prog:Program} {w:World} {A:Around} {E:Value→Shared→Prop} {s:Shared} {K:PySem.W.Frag} {x C:Addr} {od:Obj} {dx:Addr} {vs:Array Value} {sl:Array (Option Value)}
end
noncomputable def pS (K:PySem.W.Frag) (neg:Bool):R2:=fun x y H Q=>∃ p qs f,y=.ref p∧SqL K H p (List.map V.ref qs)∧(∀ q ∈ qs,EqH K H 8 (.ref q) x (f q))∧Q (.bl (if neg then !(qs.any f) else qs.any f)) H
section
variable {X:Cx}
end
theorem Eb.quiet {P:Program} {w:World} {K:PySem.W.Frag} {mg:Str→Option Value} {base:Heap} {k:Nat} {f:Addr} {fd:FuncData} {ps:List Str} {sp sp':Sp} (F:Eb P w K mg base (CX1 P w) k f fd ps sp)
  (h:∀ vs H Q E,sp' vs H Q E→sp vs H Q (fun _ _ _=>False)):Eb P w K mg base CX0 k f fd ps sp':=by
 refine ⟨fun vs H Q E q=>F.len vs H _ _ (h vs H Q E q),fun A outer s H args us vs Q E hr he hb hv hs=>?_⟩
 refine codeAny_mono (F.run A outer s H args us vs Q _ hr he hb hv (h vs H Q E hs)) fun r s' hq=>?_
 cases r with
 | error e=>
  obtain ⟨x,C,od,H',T,_,_,_,_,_,_,_,_,_,z⟩:=hq
  exact z.elim
 | ok fl=>cases fl <;> exact hq
end L2
namespace L2
open PySem PySem.Spec PyProof.Rows
structure ko (k:Nat) (A:Around):Prop where
 dp:A.depth + 3 * k + 5 < recursionLimit
 un:A.units + 16 * k + 200 < cLine
theorem oh.h {k:Nat} {A:Around} (r:oh k A):ko k A:=⟨r.dp,r.un⟩
theorem ko.mono {j k:Nat} {A:Around} (r:ko k A) (h:j ≤ k):ko j A:=⟨by have:=r.dp;omega,by have:=r.un;omega⟩
theorem ko.deeper {k:Nat} {A:Around} (r:ko (k + 1) A) (env:Env):ko k (A.deeper env):=
 ⟨by have:=r.dp;show A.depth + 1 + 3 * k + 5 < _;omega,by have:=r.un;show A.units + 3 + 16 * k + 200 < _;omega⟩
theorem ko.depth {k:Nat} {A:Around} (r:ko k A):A.depth < recursionLimit:=by have:=r.dp;omega
theorem ko.units {k:Nat} {A:Around} (r:ko k A):A.units + 64 < cLine:=by have:=r.un;omega
theorem oh.hn {k:Nat} {X:Cx} {e:Value} (r:oh k X.A):ko k (X.hn e).A:=⟨r.dp,r.un⟩
structure BM (P:Program) (w:World) (K:PySem.W.Frag) (mg:Str→Option Value) (base:Heap) (CX:CXT) (k:Nat) (f:Addr) (fd:FuncData) (ps:List Str) (sp:Sp):Prop where
 len:∀ vs H Q E,sp vs H Q E→vs.length=ps.length
 run:∀ (A:Around) (outer:List Env) (s:Shared) (H:Hp) (args:Args) (us:List Value) (vs:List V) (Q:VK) (E:XK),ko k A→xC P w K mg base A outer s H→BindsTo s fd args (ps.zip us)→jd vs us→sp vs H Q E →
  codeAny (model P w) A (.call (.ref f) args) (CR CX outer P w H s Q E) s
theorem BM.mono {P:Program} {w:World} {K:PySem.W.Frag} {mg:Str→Option Value} {base:Heap} {CX:CXT} {j k:Nat} {f:Addr} {fd:FuncData} {ps:List Str} {sp:Sp} (F:BM P w K mg base CX j f fd ps sp) (h:j ≤ k) :
  BM P w K mg base CX k f fd ps sp:=⟨F.len,fun A outer s H args us vs Q E hr=>F.run A outer s H args us vs Q E (hr.mono h)⟩
section
variable {X:Cx} {CX:CXT} {k:Nat} {f C:Addr} {fd:FuncData} {ps:List Str} {sp:Sp} {dvs:List V} {ds:List Value} {E:XK} {x m:Str} {p pos apos:Pos} {e o:Expr} {es:List Expr} {ta:TE} {t:TA}
end
noncomputable def QQ (CX:CXT) (P:Program) (w:World) (K:PySem.W.Frag) (mg:Str→Option Value) (base:Heap) (N:List Str) (qual:Str) (scope:Scope) (f:Addr) (cd:Value) (A:Around) (outer:List Env) (s:Shared) (H:Hp) (E:XK):Cx where
 prog:=P
 w:=w
 K:=K
 mg:=mg
 base:=base
 A:=A.deeper (envOfC qual scope s.heap.objs.size f cd)
 N:=N
 s₀:=s
 H₀:=H
 env:=envOfC qual scope s.heap.objs.size f cd
 outer:=outer
 stack:=envOfC qual scope s.heap.objs.size f cd :: outer
 ex:=[]
 calm:=false
 fn:=fun _=>true
 pn:=[]
 xe:=fun e s'=>wpAny (model P w) (A.deeper (envOfC qual scope s.heap.objs.size f cd)) (leaving (envOfC qual scope s.heap.objs.size f cd) e) (fun _ s''=>CX outer H s E e s'') (fun e' s''=>CX outer H s E e' s'') s'
section
variable {P:Program} {w:World} {K:PySem.W.Frag} {mg:Str→Option Value} {base:Heap}
end
end L2
namespace L2
open PySem PySem.Spec PyProof.Rows
section
variable {X:Cx}
end
end L2
namespace L2
open PySem PySem.Spec PyProof.Rows
section
variable {α:Type} {M:List α→Prop}
theorem us1 (h:∀ a,M [a]):∀ us:List α,us.length=1→M us | [a],_=>h a
theorem us2 (h:∀ a b,M [a,b]):∀ us:List α,us.length=2→M us | [a,b],_=>h a b
theorem us3 (h:∀ a b c,M [a,b,c]):∀ us:List α,us.length=3→M us | [a,b,c],_=>h a b c
theorem us4 (h:∀ a b c d,M [a,b,c,d]):∀ us:List α,us.length=4→M us | [a,b,c,d],_=>h a b c d
theorem us5 (h:∀ a b c d e,M [a,b,c,d,e]):∀ us:List α,us.length=5→M us | [a,b,c,d,e],_=>h a b c d e
theorem us7 (h:∀ a b c d e f g,M [a,b,c,d,e,f,g]):∀ us:List α,us.length=7→M us | [a,b,c,d,e,f,g],_=>h a b c d e f g
theorem us8 (h:∀ a b c d e f g i,M [a,b,c,d,e,f,g,i]):∀ us:List α,us.length=8→M us | [a,b,c,d,e,f,g,i],_=>h a b c d e f g i
end
structure XB (K:PySem.W.Frag) (C:Addr):Prop where
 hd:PySem.W.hasDictIn K C=true
 ov:((PySem.W.clsIn K C).any fun cd=>LE cd.mro)=true
 sa:PySem.W.findIn K (.ref C) "__setattr__"=some (some (.builtin "object.__setattr__"))
 ga:PySem.W.findIn K (.ref C) "__getattribute__"=some (some (.builtin "BaseException.__getattribute__"))
 gt:PySem.W.findIn K (.ref C) "__getattr__"=some none
theorem Ou {K:PySem.W.Frag} {C f:Addr} (b:XB K C) (m:MkX K C f):ut K C:=⟨b.hd,b.ov,b.sa,b.ga,b.gt,_,m.e⟩
structure IB (K:PySem.W.Frag) (C:Addr):Prop where
 ha:PySem.W.findIn K (.ref C) "__class__"=some (some (.builtin "object.__class__"))
 hn:PySem.W.specialIn K (.builtin "object.__class__") "__get__"=some (some (.builtin "getset_descriptor.__get__"))
 htk:PySem.W.takesIn K (.builtin "object.__class__")=some true
 hm:PySem.W.mroIn K C (.type "object")=some true
theorem AN {K:PySem.W.Frag} {C f:Addr} (i:PySem.W.isFn K (.ref f)=true) (e:Fu K C f=true) (k:PySem.W.keepIn K (.ref C)=true):MkX K C f:=⟨e,beq_iff_eq.mp i,k⟩
end L2
namespace L2
open PySem PySem.Spec PyProof.Rows
theorem fB {ks:List Int}:∀ {its:List Value},jd (ks.map V.int) its→∃ xs:List (Int × Tok),its=xs.map (fun p=>Value.int p.1 p.2)∧xs.map (·.1)=ks:=by
 induction ks with
 | nil=>intro its r;cases r;exact ⟨[],rfl,rfl⟩
 | cons k ks ih=>
  intro its r
  cases r with
  | cons h t=>
   obtain ⟨xs,e1,e2⟩:=ih t
   obtain ⟨tk,rfl⟩:=(show ∃ t,_=Value.int k t from h)
   exact ⟨(k,tk) :: xs,by rw [List.map_cons,← e1],by rw [List.map_cons,e2]⟩
section
variable {X:Cx}
noncomputable def CM (K:PySem.W.Frag):V→List V→Hp→VK→Prop:=fun x vs H Q=>∃ l ks k,x=.ref l∧vs=[.int k]∧SqL K H l (List.map V.int ks)∧k ∈ ks∧ks.length ≤ 1000∧Q (.int (ks.idxOf k:Nat)) H
end
end L2
namespace L2
open PySem PySem.Spec PyProof.Rows
noncomputable def dP (p d:Addr):Heap→Prop:=fun h=>PySem.W.KdlKeysView h p d
noncomputable def NO (p d:Addr):Heap→Prop:=fun h=>h.IsValuesView p d
theorem dP.ok {P:Program} {w:World} {H:Hp} {h:Heap} {p d:Addr} (z:dP p d h):gd P w H h p (.ext (dP p d)):=
 ⟨z,let ⟨o,ho,_⟩:=z;⟨o,ho⟩,fun _ _ z1 k=>let ⟨o,ho,x⟩:=z1;⟨o,k o ho,x⟩⟩
theorem NO.ok {P:Program} {w:World} {H:Hp} {h:Heap} {p d:Addr} (z:NO p d h):gd P w H h p (.ext (NO p d)):=
 ⟨z,let ⟨o,ho,_⟩:=z;⟨o,ho⟩,fun _ _ z1 k=>let ⟨o,ho,x⟩:=z1;⟨o,k o ho,x⟩⟩
section
variable {X:Cx}
noncomputable def qx:V→List V→Hp→VK→Prop:=fun x vs H Q=>∃ d kvs,x=.ref d∧vs=[]∧H d=some (.dK kvs)∧∀ p,H p=none→Q (.ref p) (upd H p (.ext (dP p d)))
noncomputable def MQ:V→List V→Hp→VK→Prop:=fun x vs H Q=>∃ d kvs,x=.ref d∧vs=[]∧H d=some (.dK kvs)∧∀ p,H p=none→Q (.ref p) (upd H p (.ext (NO p d)))
noncomputable def IL (K:PySem.W.Frag):V→List V→Hp→VK→Prop:=fun x vs H Q=>∃ l ys k j,x=.ref l∧vs=[.str k]∧SqL K H l (Rb ys)∧ys[j]? = some k∧(∀ m,m < j→ys[m]? ≠ some k)∧ys.length ≤ 1000∧Q (.int (j:Nat)) H
end
end L2
namespace L2
open PySem PySem.Spec PyProof.Rows
noncomputable abbrev TF:=St→Hp→Str→(Str→Hp→Prop)→Prop
noncomputable def tF0:TF:=fun _ H acc Q=>acc.length ≤ sizeLine∧Q acc H
noncomputable def tFC (c:Str) (t:TF):TF:=fun σ H acc Q=>acc.length + c.length ≤ sizeLine∧t σ H (acc ++ c) Q
noncomputable def tFI (te:TE) (t:TF):TF:=fun σ H acc Q=>te σ H fun v H1=>∃ i,v=.int i∧i.natAbs.log2 < 1920∧acc.length + (Str.ofString (toString i)).length ≤ sizeLine∧t σ H1 (acc ++ Str.ofString (toString i)) Q
noncomputable def tFS (te:TE) (t:TF):TF:=fun σ H acc Q=>te σ H fun v H1=>∃ x,v=.str x∧x.length ≤ 1000∧acc.length + x.length ≤ sizeLine∧t σ H1 (acc ++ x) Q
noncomputable def ZP (t:TF):TE:=fun σ H Q=>t σ H Str.empty fun y H1=>Q (.str y) H1
section
variable {X:Cx} {e:Expr} {es:List Expr} {t:TF} {te:TE} {pos:Pos}
end
end L2
namespace L2
open PySem PySem.Spec PyProof.Rows
noncomputable def yQ (p:Addr) (a b c:Int):Heap→Prop:=fun h=>∃ t u v,IsRange h p a b c t u v
theorem yQ.ok {P:Program} {w:World} {H:Hp} {h:Heap} {p:Addr} {a b c:Int} (z:yQ p a b c h):gd P w H h p (.ext (yQ p a b c)):=
 ⟨z,let ⟨_,_,_,e⟩:=z;⟨_,e⟩,fun _ _ z1 k=>let ⟨t,u,v,e⟩:=z1;⟨t,u,v,k _ e⟩⟩
section
variable {X:Cx}
end
end L2
namespace L2
open PySem PySem.Spec PyProof.Rows
noncomputable def cu (f:Addr) (qual:Str) (params:Arguments) (body:Expr) (scope:Scope) (clos:List (Str × Addr)) (c':Addr):Heap→Prop:=
 fun h=>∃ pm ctv,h.get? f=some (PySem.W.kla_obj "<lambda>" qual params body scope clos pm c' ctv)
noncomputable def Sx (c:Addr) (qual:Str):Heap→Prop:=fun h=>h.CodeRec (.ref c) qual
noncomputable def EA (c:Addr) (v:V):Heap→Prop:=fun h=>∃ u,ud v u∧h.IsCell c (some u)
noncomputable def Tab (H:Hp) (Pt:Addr) (pos:Pos) (qual:Str):Prop:=
 ∃ ps,H Pt=some (.tbl ps)∧(ps=#[]∨∃ c',ps=#[rawInt pos.line,rawInt pos.col,.ref c']∧H c'=some (.ext (Sx c' qual)))
noncomputable def Ng (Pt:Addr) (H H':Hp):Prop:=∀ b o,b ≠ Pt→H b=some o→H' b=some o
theorem Ng.refl (Pt:Addr) (H:Hp):Ng Pt H H:=fun _ _ _ h=>h
theorem Ng.trans {Pt:Addr} {H H1 H2:Hp} (a:Ng Pt H H1) (b:Ng Pt H1 H2):Ng Pt H H2:=fun c o n h=>b c o n (a c o n h)
theorem Zb.p {Pt:Addr} {H H':Hp} (s:Zb H H'):Ng Pt H H':=fun b o _ h=>s b o h
theorem Tab.ne {H:Hp} {Pt b:Addr} {pos:Pos} {qual:Str} {o:HO} (t:Tab H Pt pos qual) (h:H b=some o) (ho:∀ ps,o ≠ .tbl ps):b ≠ Pt:=fun e=>by
 obtain ⟨ps,e1,_⟩:=t
 subst e
 rw [e1] at h
 exact ho ps (Option.some.inj h).symm
theorem Tab.step {H H':Hp} {Pt:Addr} {pos:Pos} {qual:Str} (t:Tab H Pt pos qual) (s:Zb H H'):Tab H' Pt pos qual:=by
 obtain ⟨ps,e,d⟩:=t
 refine ⟨ps,s _ _ e,?_⟩
 rcases d with d | ⟨c',d,e'⟩
 ·exact .inl d
 ·exact .inr ⟨c',d,s _ _ e'⟩
theorem wF {P:Program} {w:World} {H:Hp} {h:Heap} {f c':Addr} {qual:Str} {params:Arguments} {body:Expr} {scope:Scope} {clos:List (Str × Addr)} {pm ctv:Value}
  (e:h.get? f=some (PySem.W.kla_obj "<lambda>" qual params body scope clos pm c' ctv)):gd P w H h f (.ext (cu f qual params body scope clos c')):=
 ⟨⟨pm,ctv,e⟩,⟨_,e⟩,fun _ _ ⟨p,c,e1⟩ k=>⟨p,c,k _ e1⟩⟩
theorem WM {P:Program} {w:World} {H:Hp} {h:Heap} {c:Addr} {qual:Str} (e:h.CodeRec (.ref c) qual):gd P w H h c (.ext (Sx c qual)):=by
 refine ⟨e,?_,fun h1 h2 x k=>?_⟩
 ·obtain ⟨c2,o,vs,t,e1,e2,_⟩:=e
  cases e1
  exact ⟨o,e2⟩
 ·obtain ⟨c2,o,vs,t,e1,e2,e3,e4⟩:=x
  cases e1
  exact ⟨_,o,vs,t,rfl,k o e2,e3,e4⟩
theorem ZE {P:Program} {w:World} {H:Hp} {h:Heap} {c:Addr} {v:V} {u:Value} (r:ud v u) (e:h.IsCell c (some u)):gd P w H h c (.ext (EA c v)):=by
 refine ⟨⟨u,r,e⟩,?_,fun h1 h2 x k=>?_⟩
 ·obtain ⟨o,e1,_⟩:=e
  exact ⟨o,e1⟩
 ·obtain ⟨u',r',o,e1,e2⟩:=x
  exact ⟨u',r',o,k o e1,e2⟩
structure gS (X:Cx) (c Pt:Addr):Prop where
 code:X.env.code=.ref c
 hd:PySem.W.CodeHd X.base c Pt
 bm:X.base.BuiltinsAt X.mg Pt
theorem xK {a b:Int} {v:Value}:TriplesOk [rawInt a,rawInt b,v]:=True.intro
theorem RO {pos:Pos} {v:Value}:codeAmong pos [rawInt pos.line,rawInt pos.col,v]=some v:=by
 have:=codeAmong_snoc (pos:=pos) (c:=v) [] True.intro rfl
 simpa using this
section
variable {X:Cx} {pins:List (Addr × Obj)} {σ:St} {H:Hp} {s:Shared} {params:Arguments} {body:Expr} {scope:Scope} {pos:Pos} {c Pt:Addr} {clos:List (Str × Addr)} {Q:Value→Shared→Prop}
theorem pP (I:Inv X pins σ H s) (T:gS X c Pt) (tb:Tab H Pt pos (X.env.qual ++ "<lambda>")) (hcl:closureFor scope X.env=pure clos) (hdef:defaultsOf params X.env=([],[]))
  (h:∀ f c' H1 s1,Inv X pins σ H1 s1→Ng Pt H H1→(NoT H→NoT H1)→Tab H1 Pt pos (X.env.qual ++ "<lambda>")→H1 f=some (.ext (cu f (X.env.qual ++ "<lambda>") params body scope clos c'))→H1 c'=some (.ext (Sx c' (X.env.qual ++ "<lambda>")))→H f=none→Q (.ref f) s1) :
  wpAny (model X.prog X.w) X.A (eval (.Lambda params body scope pos) X.env) Q X.xe s:=by
 refine PySem.W.kla_eval hdef ?_
 obtain ⟨ps,eP,d⟩:=tb
 have hP:s.heap.get? Pt=some (PySem.W.tabObj ps):=I.hok _ _ eP
 have hns:s.heap.Ns mainGlobals X.mg:=I.mod.glob.keeps I.bk
 have hC:=T.hd.keeps I.bk
 have hgP:mainGlobals ≠ Pt:=fun q=>by
  obtain ⟨o,es,ep,e,hd,_⟩:=hns
  rw [q,hP] at e;cases e;cases hd
 have hB:s.heap.BuiltinsAt X.mg Pt:=by
  obtain ⟨bm,o,h1,h2,h3,h4,h5,h6⟩:=T.bm
  exact ⟨bm,o,h1,h2,h3,h4,I.bk _ _ h5,h6⟩
 rcases d with rfl | ⟨c',rfl,ec⟩
 ·refine PySem.W.kla_makeFunction (mg:=X.mg) hcl I.ok.glob hns T.code hC hP True.intro rfl hgP hB fun c' ctv h' tk hx hge hlt hrec htb=>?_
  have nc:H c'=none:=I.hok.fresh hge
  have nf:H h'.objs.size=none:=I.hok.fresh (Nat.le_trans hge (Nat.le_of_lt hlt))
  have hcf:c' ≠ h'.objs.size:=Nat.ne_of_lt hlt
  have hPc:Pt ≠ c':=fun z=>by rw [z,nc] at eP;cases eP
  have hPf:Pt ≠ h'.objs.size:=fun z=>by rw [z,nf] at eP;cases eP
  have put:∀ b o,b ≠ Pt→H b=some o→upd (upd (upd H Pt (.tbl (#[] ++ #[rawInt pos.line,rawInt pos.col,.ref c']))) c' (.ext (Sx c' (X.env.qual ++ "<lambda>")))) h'.objs.size (.ext (cu h'.objs.size (X.env.qual ++ "<lambda>") params body scope clos c')) b=some o:=fun b o n e=>by
   rw [pb (fun z=>by rw [z,nf] at e;cases e),pb (fun z=>by rw [z,nc] at e;cases e),pb n];exact e
  have eP1:upd (upd (upd H Pt (.tbl (#[] ++ #[rawInt pos.line,rawInt pos.col,.ref c']))) c' (.ext (Sx c' (X.env.qual ++ "<lambda>")))) h'.objs.size (.ext (cu h'.objs.size (X.env.qual ++ "<lambda>") params body scope clos c')) Pt=some (.tbl (#[] ++ #[rawInt pos.line,rawInt pos.col,.ref c'])):=by
   rw [pb hPf,pb hPc,fb]
  have ec1:upd (upd (upd H Pt (.tbl (#[] ++ #[rawInt pos.line,rawInt pos.col,.ref c']))) c' (.ext (Sx c' (X.env.qual ++ "<lambda>")))) h'.objs.size (.ext (cu h'.objs.size (X.env.qual ++ "<lambda>") params body scope clos c')) c'=some (.ext (Sx c' (X.env.qual ++ "<lambda>"))):=by
   rw [pb hcf,fb]
  have ef1:upd (upd (upd H Pt (.tbl (#[] ++ #[rawInt pos.line,rawInt pos.col,.ref c']))) c' (.ext (Sx c' (X.env.qual ++ "<lambda>")))) h'.objs.size (.ext (cu h'.objs.size (X.env.qual ++ "<lambda>") params body scope clos c')) h'.objs.size=some (.ext (cu h'.objs.size (X.env.qual ++ "<lambda>") params body scope clos c')):=fb
  have non:∀ b,b ≠ Pt→b ≠ c'→b ≠ h'.objs.size→upd (upd (upd H Pt (.tbl (#[] ++ #[rawInt pos.line,rawInt pos.col,.ref c']))) c' (.ext (Sx c' (X.env.qual ++ "<lambda>")))) h'.objs.size (.ext (cu h'.objs.size (X.env.qual ++ "<lambda>") params body scope clos c')) b=H b:=fun b n1 n2 n3=>by
   rw [pb n3,pb n2,pb n1]
  have nt1:NoT H→NoT (upd (upd (upd H Pt (.tbl (#[] ++ #[rawInt pos.line,rawInt pos.col,.ref c']))) c' (.ext (Sx c' (X.env.qual ++ "<lambda>")))) h'.objs.size (.ext (cu h'.objs.size (X.env.qual ++ "<lambda>") params body scope clos c'))):=fun n=>n.upd.upd.upd
  generalize upd (upd (upd H Pt (.tbl (#[] ++ #[rawInt pos.line,rawInt pos.col,.ref c']))) c' (.ext (Sx c' (X.env.qual ++ "<lambda>")))) h'.objs.size (.ext (cu h'.objs.size (X.env.qual ++ "<lambda>") params body scope clos c'))=H1 at put eP1 ec1 ef1 non nt1
  have kp:∀ b o,b ≠ Pt→s.heap.get? b=some o→(h'.push (PySem.W.kla_obj "<lambda>" (X.env.qual ++ "<lambda>") params body scope clos ((X.mg "__name__").getD .none) c' ctv)).get? b=some o:=fun b o n e=>Heap.get?_push_of_some _ (hx b o n e)
  have nPt:∀ b,H b=none→b ≠ Pt:=fun b n z=>by rw [z,eP] at n;cases n
  have u:Un X.fs [] H H1 s.heap (h'.push (PySem.W.kla_obj "<lambda>" (X.env.qual ++ "<lambda>") params body scope clos ((X.mg "__name__").getD .none) c' ctv)):=by
   refine ⟨fun b o e n _ _=>kp b o (nPt b n) e,fun b o e n _ _=>⟨o.slots,kp b o (nPt b n) e⟩,fun b o e n _=>?_,fun b o e _=>?_,fun b xs e=>put b _ (fun z=>by rw [z,eP] at e;cases e) e,fun b o x e=>put b _ (fun z=>by rw [z,eP] at e;cases e) e,fun b ps e=>?_⟩
   ·have hb:=Heap.lt_size e
    rw [non b (nPt b n) (Nat.ne_of_lt (Nat.lt_of_lt_of_le hb hge)) (Nat.ne_of_lt (Nat.lt_of_lt_of_le hb (Nat.le_trans hge (Nat.le_of_lt hlt))))]
    exact n
   ·by_cases hb:b=Pt
    ·subst hb;exact ⟨_,Heap.get?_push_of_some _ htb⟩
    ·exact ⟨o,kp b o hb e⟩
   ·by_cases hb:b=Pt
    ·subst hb
     rw [eP] at e;cases e
     exact ⟨_,eP1⟩
    ·exact ⟨#[],by rw [put b _ hb e];simp⟩
  have hok:HOk X.prog X.w H1 (h'.push (PySem.W.kla_obj "<lambda>" (X.env.qual ++ "<lambda>") params body scope clos ((X.mg "__name__").getD .none) c' ctv)):=fun b o e=>by
   by_cases h1:b=Pt
   ·subst h1
    rw [eP1] at e;cases e
    exact Heap.get?_push_of_some _ htb
   by_cases h2:b=c'
   ·subst h2
    rw [ec1] at e;cases e
    refine WM ?_
    obtain ⟨c2,o,vs,t,e1,e2,e3⟩:=hrec
    exact ⟨c2,o,vs,t,e1,Heap.get?_push_of_some _ e2,e3⟩
   by_cases h3:b=h'.objs.size
   ·subst h3
    rw [ef1] at e;cases e
    exact wF (Heap.get?_push_size _ rfl)
   rw [non b h1 h2 h3] at e
   refine (I.hok b o e).stay (fun d v hd q=>kp d v ?_ q) (fun d q=>put d _ (fun z=>by rw [z,eP] at q;cases q) q) fun d xs q=>put d _ (fun z=>by rw [z,eP] at q;cases q) q
   rcases hd with z | z
   ·rw [z];exact h1
   ·intro z2
    rw [z2,eP] at z;cases z
  exact h _ c' H1 _ (I.un (t':=tk) u hok) (fun b o n e=>put b o n e) nt1 ⟨_,eP1,.inr ⟨c',by simp,ec1⟩⟩ ef1 ec1 nf
 ·refine PySem.W.kla_makeFunctionHit (mg:=X.mg) hcl I.ok.glob hns T.code hC hP xK RO hB fun ctv h' tk hk hsz=>?_
  have nf:H h'.objs.size=none:=I.hok.fresh hsz
  have I1:Inv X pins σ (upd H h'.objs.size (.ext (cu h'.objs.size (X.env.qual ++ "<lambda>") params body scope clos c'))) { s with heap:=h'.push (PySem.W.kla_obj "<lambda>" (X.env.qual ++ "<lambda>") params body scope clos ((X.mg "__name__").getD .none) c' ctv),toks:=tk }:=
   I.laid (t':=tk) (fun b o e=>Heap.get?_push_of_some _ (hk b o e)) hsz (wF (Heap.get?_push_size _ rfl))
  have sm:=qb (o:=.ext (cu h'.objs.size (X.env.qual ++ "<lambda>") params body scope clos c')) nf
  exact h _ c' _ _ I1 sm.p (fun n=>n.upd) ⟨_,sm _ _ eP,.inr ⟨c',rfl,sm _ _ ec⟩⟩ fb (sm _ _ ec) nf
end
section
variable {P:Program} {w:World} {K:PySem.W.Frag} {mg:Str→Option Value} {base:Heap}
theorem Fun.okLam {x qual:Str} {st:Stmt} {f:Addr} {fd:FuncData} {N ps:List Str} {k:Nat} {sp:Sp} {c Pt:Addr} {i:Nat} {y:Str} {st1:Stmt} {params:Arguments} {lbody:Expr} {lscope:Scope} {lpos rpos:Pos} {cc:Nat→Addr}
  (F:Fun K x qual st f fd) (S:xb N ps (jb st)) (len:∀ vs H Q E,sp vs H Q E→vs.length=ps.length) (hb:Ij st=[st1,.Return (some (.Lambda params lbody lscope lpos)) rpos])
  (hcode:fd.code=.ref c) (hC:PySem.W.CodeHd base c Pt) (hB:base.BuiltinsAt mg Pt) (hN:N[i]? = some y) (hy:(jb st).names.lookup y=some .cell) (hdef:∀ env,defaultsOf params env=([],[]))
  (hcl:∀ L cdv,closureFor lscope (envOfC qual (jb st) L f cdv)=pure [(y,cc L)]) (hcc:∀ L cdv,(envOfC qual (jb st) L f cdv).cells.lookup y=some (cc L))
  (hbody:∀ (cdv:Value) (A:Around) (outer:List Env) (s:Shared) (H:Hp) (vs:List V) (Q:VK) (E:XK),oh k (A.deeper (envOfC qual (jb st) s.heap.objs.size f cdv))→sp vs H Q E →
   ∃ t,PS (vy CX0 P w K mg base N qual (jb st) f cdv A outer s H E).nox st1 t ∧
    t { nx:=fun σ1 H1=>∃ v,σ1[i]? = some (some v)∧Tab H1 Pt lpos (qual ++ ".<locals>." ++ "<lambda>") ∧
     ∀ g cl c' H2,Ng Pt H1 H2→(NoT H1→NoT H2)→Tab H2 Pt lpos (qual ++ ".<locals>." ++ "<lambda>")→H2 g=some (.ext (cu g (qual ++ ".<locals>." ++ "<lambda>") params lbody lscope [(y,cl)] c'))→H2 c'=some (.ext (Sx c' (qual ++ ".<locals>." ++ "<lambda>")))→H2 cl=some (.ext (EA cl v))→Q (.ref g) H2,rt:=fun _ _=>False } (start N vs) H):Eb P w K mg base CX0 (k + 1) f fd ps sp:=by
 obtain ⟨oc,od,kV,doc,pm,an,cdv,ct,osl,rfl,lk,hcd⟩:=F.ex
 refine ⟨len,fun A outer s H args us vs Q E hr e0 hbd r hsp=>?_⟩
 have hl:=len _ _ _ _ hsp
 have KX:K.In s.heap:=e0.mod.kin.keeps fun b o e=>(e0.bs b o e).1
 have lim:s.heap.NoLimit:=e0.mod.nolimit.keeps fun b o e=>(e0.bs b o e).1
 have hkind:∀ z ∈ ps.zip us,(jb st).names.lookup z.1=some .local∨((jb st).names.lookup z.1=some .cell∧((cellsFrom (s.heap.objs.size + 1) (jb st).names []).lookup z.1).isSome=true):=fun ⟨n,v⟩ hz=>by
  rcases S.par n (List.of_mem_zip hz).1 with q | q
  ·exact .inl q
  ·exact .inr ⟨q,PySem.W.cellsFrom_some _ _ _ (.inl q)⟩
 refine codeAny_call_function hr.depth (KX _ _ lk) rfl S.co S.gen rfl (PySem.W.codeRec_of KX hcd) (hbd _ _ _ _ ?_)
 refine wpAny_newFunctionEnv_cells S.kind hkind fun env he s1 xx=>?_
 subst he
 refine ⟨lim.keeps xx.toInCall.keep,codeAny_func ?_⟩
 obtain ⟨t,ht,hq⟩:=hbody cdv A outer s H vs Q E (hr.deeper _) hsp
 have I:Inv (vy CX0 P w K mg base N qual (jb st) f cdv A outer s H E) [] (start N vs) H s1:=gx S hr.hd e0 hl r xx
 rw [hb]
 refine wpAny_execs_cons (wpAny_mono (ht [] s1 (start N vs) H _ (I.wish _) hq) (fun fl s2 q2=>?_) fun _ _ z=>False.elim z)
 cases fl with
 | ret u=>obtain ⟨_,_,_,_,_,z⟩:=q2;exact z.elim
 | brk=>obtain ⟨_,_,_,z⟩:=q2;exact z.elim
 | cont=>obtain ⟨_,_,_,z⟩:=q2;exact z.elim
 | next=>
  obtain ⟨σ1,H1,I1,v,ev,tb,q⟩:=q2
  have I2:=I1.unwish
  refine wpAny_execs_cons (wpAny_Return_some ?_)
  refine pP (c:=c) (Pt:=Pt) (X:=vy CX0 P w K mg base N qual (jb st) f cdv A outer s H E) I2 ⟨hcode,hC,hB⟩ tb (hcl _ _) (hdef _) fun g c' H2 s3 J sm nt2 tb2 eg ec nf=>?_
  obtain ⟨m,hn,hlk⟩:=J.loc
  obtain ⟨u,ru,lo⟩:=hlk i y v hN ev (.inr (.inl hy))
  have hk:(vy CX0 P w K mg base N qual (jb st) f cdv A outer s H E).env.kindOf y=some .cell:=hy
  rcases lo with ⟨k1,_⟩ | ⟨_,cl,e1,e2⟩
  ·rw [hk] at k1;cases k1
  have ecl:cl=cc s.heap.objs.size:=Option.some.inj (e1.symm.trans (hcc _ _))
  subst ecl
  have n2:H2 (cc s.heap.objs.size)=none:=J.freeC y _ e1
  have hge:s.heap.objs.size ≤ cc s.heap.objs.size:=J.ok.cab y _ rfl e1
  have ncP:cc s.heap.objs.size ≠ Pt:=fun z=>by
   obtain ⟨ps',e',_⟩:=tb2
   rw [← z,n2] at e';cases e'
  have sc:=qb (o:=.ext (EA (cc s.heap.objs.size) v)) n2
  refine ⟨.ref g,upd H2 (cc s.heap.objs.size) (.ext (EA (cc s.heap.objs.size) v)),J.os,J.bare,⟨J.base.keep,J.base.slot,fun b o e n hx=>?_,J.base.there,fun b xs e=>sc _ _ (J.base.tups b xs e),fun b o z e=>sc _ _ (J.base.frzs b o z e),fun b pz e=>?_⟩,fun b o e=>?_,rfl,?_⟩
  ·rw [pb (Nat.ne_of_lt (Nat.lt_of_lt_of_le (Heap.lt_size e) hge))]
   exact J.base.free b o e n hx
  ·obtain ⟨mo,e'⟩:=J.base.tbls b pz e
   exact ⟨mo,sc _ _ e'⟩
  ·by_cases hbc:b=cc s.heap.objs.size
   ·subst hbc
    rw [fb] at e;cases e
    exact ZE ru e2
   ·rw [pb hbc] at e
    exact (J.hok b o e).stay (fun _ _ _ z=>z) (fun d z=>sc _ _ z) fun d xs z=>sc _ _ z
  ·refine q g (cc s.heap.objs.size) c' _ (sm.trans sc.p) (fun n=>(nt2 n).upd) (tb2.step sc) (sc _ _ eg) (sc _ _ ec) fb
end
noncomputable def ju (H:Hp) (c:Addr):Hp:=fun b=>if b=c then none else H b
theorem yk {H:Hp} {c:Addr}:ju H c c=none:=if_pos rfl
theorem Ci {H:Hp} {b c:Addr} (h:b ≠ c):ju H c b=H b:=if_neg h
theorem NM {H:Hp} {c:Addr} {o:HO} (h:H c=some o):upd (ju H c) c o=H:=by
 funext b
 by_cases e:b=c
 ·subst e;rw [fb,h]
 ·rw [pb e,Ci e]
theorem xH {H:Hp} {b c:Addr} {o:HO} (h:ju H c b=some o):b ≠ c∧H b=some o:=by
 by_cases e:b=c
 ·subst e;rw [yk] at h;cases h
 ·rw [Ci e] at h;exact ⟨e,h⟩
structure uP (p y:Str) (sc:Scope):Prop where
 kind:sc.kind=.function
 co:sc.isCoroutine=false
 gen:sc.isGenerator=false
 ne:p ≠ y
 par:sc.names.lookup p=some .local
 yf:sc.names.lookup y=some .free
 nocell:∀ z ∈ sc.names,z.2 ≠ .cell
 one:∀ z ∈ sc.names,z.2=.free→z.1=y
noncomputable def vt (X:Cx) (N:List Str) (q:Str) (scope:Scope) (f c':Addr) (y:Str) (cl:Addr) (s:Shared) (H:Hp):Cx where
 prog:=X.prog
 w:=X.w
 K:=X.K
 mg:=X.mg
 base:=X.base
 A:=X.A.deeper (PySem.W.envX q scope s.heap.objs.size f (.ref c') [(y,cl)])
 N:=N
 s₀:=s
 H₀:=H
 env:=PySem.W.envX q scope s.heap.objs.size f (.ref c') [(y,cl)]
 outer:=X.stack
 stack:=PySem.W.envX q scope s.heap.objs.size f (.ref c') [(y,cl)] :: X.stack
 ex:=[]
 fn:=fun x=>x != y
 calm:=true
 pn:=[]
 xe:=fun _ _=>False
section
variable {X:Cx} {pins:List (Addr × Obj)} {σ:St} {H:Hp} {s:Shared} {k:Nat} {f c' cl:Addr} {q p y:Str} {params:Arguments} {body:Expr} {scope:Scope} {v:V} {t:TE}
theorem WK {u:Value} {a:V} {h1:Heap} {tk:Nat} (S:uP p y scope) (hr:oh k X.A) (I:Inv X pins σ H s) (el:H cl=some (.ext (EA cl v))) (ra:ud a u)
  (hns:h1.Ns s.heap.objs.size (fun x=>[(p,u)].reverse.lookup x)) (hk:∀ b o,s.heap.get? b=some o→h1.get? b=some o) :
  Inv (vt X [p,y] q scope f c' y cl s (ju H cl)) [] [some a,some v] (ju H cl) { s with heap:=h1,toks:=tk }:=by
 obtain ⟨⟨uc,rc,oc,ec1,ec2⟩,_,_⟩:=I.hok _ _ el
 have lk:∀ x c,([(y,cl)]:List (Str × Addr)).lookup x=some c→x=y∧c=cl:=fun x c e=>by
  rw [List.lookup_cons] at e
  cases hb:x == y with
  | true=>rw [hb] at e;cases e;exact ⟨eq_of_beq hb,rfl⟩
  | false=>rw [hb] at e;cases e
 have lky:([(y,cl)]:List (Str × Addr)).lookup y=some cl:=by rw [List.lookup_cons,beq_self_eq_true]
 have noA:∀ b:Addr,b ∉ (vt X [p,y] q scope f c' y cl s (ju H cl)).ex:=fun b z=>absurd (show b ∈ ([]:List Addr) from z) (by simp)
 have hokD:HOk X.prog X.w (ju H cl) s.heap:=fun b o e=>by
  obtain ⟨n,e'⟩:=xH e
  exact (I.hok b o e').stay (fun _ _ _ z=>z) (fun d z=>by rw [Ci (fun w=>by rw [w,el] at z;cases z)];exact z) fun d xs z=>by rw [Ci (fun w=>by rw [w,el] at z;cases z)];exact z
 refine ⟨⟨I.ok.mod,S.kind,rfl,rfl,Nat.le_refl _,fun x z c e1 e2=>((lk x c e1).1).trans (lk z c e2).1.symm,fun x hx=>?_,fun x c hf e=>?_,fun _=>hr.hd,Around.frames_deeper I.ok.frames,.inr ⟨rfl,rfl⟩,fun b z=>absurd z (noA b),fun b o e=>?_,Nat.le_trans I.ok.bsz I.sz,fun b _ _=>noA b,fun b z=>absurd z (noA b),I.stack,fun b hb=>?_⟩,
  rfl,I.bare,Un.kept hk,⟨_,hns,fun i x vv e1 e2 e3=>?_⟩,fun x c e=>?_,hokD.fresh (Nat.le_refl _),fun x c e=>?_,fun z hz=>absurd (show z ∈ ([]:List (Addr × Obj)) from hz) (by simp),hokD.kept hk,rfl⟩
 ·have hx:scope.names.lookup x=some .cell∨scope.names.lookup x=some .free:=hx
  rcases hx with hx | hx
  ·exact absurd rfl (S.nocell _ (PySem.mem_of_lookup hx))
  ·have:x=y:=S.one _ (PySem.mem_of_lookup hx) rfl
   exact ⟨cl,by rw [this];exact lky⟩
 ·have:x=y:=(lk x c e).1
  subst this
  have:(x != x)=true:=hf
  simp at this
 ·obtain ⟨b1,b2⟩:=I.bs b o e
  exact ⟨b1,by
   by_cases z:b=cl
   ·rw [z];exact yk
   ·exact (Ci z).trans b2⟩
 ·by_cases z:b=cl
  ·rw [z];exact yk
  ·exact (Ci z).trans (I.stkFree b hb)
 ·match i,e1,e2 with
  | 0,e1,e2=>
   cases e1;cases e2
   exact ⟨u,ra,.inl ⟨S.par,by show List.lookup p [(p,u)]=some u;rw [List.lookup_cons,beq_self_eq_true]⟩⟩
  | 1,e1,e2=>
   cases e1;cases e2
   exact ⟨uc,rc,.inr ⟨.inr S.yf,cl,lky,⟨oc,hk _ _ ec1,ec2⟩⟩⟩
  | i + 2,e1,_=>simp [vt] at e1
 ·obtain ⟨_,rfl⟩:=lk x c e
  exact ⟨_,oc,hk _ _ ec1,ec2⟩
 ·obtain ⟨_,rfl⟩:=lk x c e
  exact yk
theorem dN {Q:VK} {u:Value} {a:V} (S:uP p y scope) (hr:oh k X.A) (I:Inv X pins σ H s) (ef:H f=some (.ext (cu f q params body scope [(y,cl)] c'))) (ec:H c'=some (.ext (Sx c' q))) (el:H cl=some (.ext (EA cl v)))
  (hb:∀ pm ctv,bindArgs (PySem.W.kla_fn "<lambda>" q params body scope [(y,cl)] pm (.ref c') ctv) ⟨[u],[]⟩=pure [(p,u)]) (ra:ud a u)
  (hbody:PE (vt X [p,y] q scope f c' y cl s (ju H cl)) body t) (h:t [some a,some v] (ju H cl) fun x H'=>Q x (upd H' cl (.ext (EA cl v)))) :
  wpAny (model X.prog X.w) X.A (call (.ref f) [u]) (EP X pins σ Q) X.xe s:=by
 have inner:codeAny (model X.prog X.w) X.A (.call (.ref f) ⟨[u],[]⟩) (CR CX0 X.stack X.prog X.w H s Q E0) s:=by
  obtain ⟨⟨pm,ctv,ho⟩,_⟩:=I.hok _ _ ef
  refine PySem.W.kla_callFunE hr.depth ho rfl S.co S.gen rfl (I.hok _ _ ec).1 ?_
  rw [hb]
  refine wpAny_pure (wpAny_newFunctionEnv S.nocell (fun z hz=>by rw [List.mem_singleton.mp hz];exact S.par) (fun h1 hns hsb=>⟨I.nolimit.fresh _ hsb,?_⟩) S.kind)
  have hk:∀ b o,s.heap.get? b=some o→h1.get? b=some o:=fun b o e=>hsb.extBut b o (Nat.ne_of_lt (Heap.lt_size e)) (Heap.get?_push_of_some _ e)
  show codeAny _ _ (.expr body (PySem.W.envX q scope s.heap.objs.size f (.ref c') [(y,cl)])) _ _
  have J:=WK (f:=f) (c':=c') (q:=q) (tk:=s.toks + [(p,u)].length) S hr I el ra hns hk
  refine PySem.W.kla_codeExpr (wpAny_mono (hbody [] _ _ _ _ J h) (fun ux s' hq=>?_) fun _ _ z=>False.elim z)
  obtain ⟨x,H',J',rx,q'⟩:=hq
  have ncl:cl ∉ frs X.stack:=fun z=>by have:=I.stkFree cl z;rw [el] at this;cases this
  obtain ⟨⟨uc,rc,oc,ec1,ec2⟩,_,_⟩:=I.hok _ _ el
  have kcl:s'.heap.get? cl=some oc:=J'.base.keep cl oc ec1 yk ncl (by intro z;exact absurd (show cl ∈ ([]:List Addr) from z) (by simp))
  have n':H' cl=none:=J'.base.free cl oc ec1 yk (by intro z;exact absurd (show cl ∈ ([]:List Addr) from z) (by simp))
  have sc:=qb (o:=.ext (EA cl v)) n'
  refine ⟨x,upd H' cl (.ext (EA cl v)),J'.os,J'.bare,⟨fun b o e n hf hx=>?_,fun b o e n hf hx=>?_,fun b o e n hx=>?_,J'.base.there,fun b xs e=>?_,fun b o z e=>?_,fun b ps e=>?_⟩,fun b o e=>?_,rx,q'⟩
  ·have nb:b ≠ cl:=fun z=>by rw [z,el] at n;cases n
   exact J'.base.keep b o e (by show ju H cl b=none;rw [Ci nb];exact n) hf hx
  ·have nb:b ≠ cl:=fun z=>by rw [z,el] at n;cases n
   exact J'.base.slot b o e (by show ju H cl b=none;rw [Ci nb];exact n) hf hx
  ·have nb:b ≠ cl:=fun z=>by rw [z,el] at n;cases n
   rw [pb nb]
   exact J'.base.free b o e (by show ju H cl b=none;rw [Ci nb];exact n) hx
  ·have nb:b ≠ cl:=fun z=>by rw [z,el] at e;cases e
   exact sc _ _ (J'.base.tups b xs (by show ju H cl b=_;rw [Ci nb];exact e))
  ·have nb:b ≠ cl:=fun z=>by rw [z,el] at e;cases e
   exact sc _ _ (J'.base.frzs b _ _ (by show ju H cl b=_;rw [Ci nb];exact e))
  ·have nb:b ≠ cl:=fun z=>by rw [z,el] at e;cases e
   obtain ⟨m,e'⟩:=J'.base.tbls b ps (by show ju H cl b=_;rw [Ci nb];exact e)
   exact ⟨m,sc _ _ e'⟩
  ·by_cases hbc:b=cl
   ·subst hbc
    rw [fb] at e;cases e
    exact ZE rc ⟨oc,kcl,ec2⟩
   ·rw [pb hbc] at e
    exact (J'.hok b o e).stay (fun _ _ _ z=>z) (fun d z=>sc _ _ z) fun d xs z=>sc _ _ z
 refine wpAny_call (codeAny_mono inner fun r s' hq=>?_)
 cases r with
 | error e=>exact hq.elim
 | ok fl=>
  cases fl with
  | ret u=>exact I.after hq
  | next=>exact False.elim hq
  | brk=>exact False.elim hq
  | cont=>exact False.elim hq
noncomputable def dG (q:Str) (params:Arguments) (body:Expr) (scope:Scope) (y:Str) (t:TE) (tf:TE) (ta:TA):TE:=fun σ H Q=>tf σ H fun x H1=>∃ f,x=.ref f∧(∃ cl c',H1 f=some (.ext (cu f q params body scope [(y,cl)] c')))∧ta σ H1 fun vs H2=>∃ a cl c' v,vs=[a] ∧
 H2 f=some (.ext (cu f q params body scope [(y,cl)] c'))∧H2 c'=some (.ext (Sx c' q))∧H2 cl=some (.ext (EA cl v))∧t [some a,some v] (ju H2 cl) fun x H'=>Q x (upd H' cl (.ext (EA cl v)))
theorem eI {fe e:Expr} {pos:Pos} {tf:TE} {ta:TA} (hf:PE X fe tf) (S:uP p y scope) (hr:oh k X.A) (ha:PA X [e] ta)
  (hb:∀ cl c' pm ctv u,bindArgs (PySem.W.kla_fn "<lambda>" q params body scope [(y,cl)] pm (.ref c') ctv) ⟨[u],[]⟩=pure [(p,u)])
  (hbody:∀ f c' cl s H,PE (vt X [p,y] q scope f c' y cl s H) body t)
  (he:starEach [e] X.env=(false,eval e X.env) :: starEach [] X.env:=by rfl)
  (ht:eval (.Call fe [e] [] pos) X.env=(do callWith pos (← eval fe X.env) [] (backTo pos (starEach [e] X.env)) (backToKw pos (keywordEach [] X.env))):=by rfl) :
  PE X (.Call fe [e] [] pos) (dG q params body scope y t tf ta):=by
 intro pins s σ H Q I h
 rw [ht]
 refine wpAny_bind (thn (hf pins s σ H _ I h) fun u s1 hZ1=>?_)
 obtain ⟨x,H1,I1,rx,f,ex,⟨cl,c',ef⟩,q1⟩:=hZ1
 subst ex
 obtain rfl:u=Value.ref f:=rx
 have fnAt:∀ {σ':St} {H':Hp} {s':Shared} {cl c':Addr},Inv X pins σ' H' s'→H' f=some (.ext (cu f q params body scope [(y,cl)] c'))→PySem.W.FnAt f s'.heap:=fun J e=>by
  obtain ⟨⟨pm,ctv,ho⟩,_⟩:=J.hok _ _ e
  exact ⟨_,_,_,_,ho⟩
 refine PySem.W.callWith_F (fnAt I1 ef) (thn (ha pos pins s1 σ H1 _ I1 q1) fun us s2 ⟨vs,H2,I2,r,a,cl,c',v,ev,ef2,ec2,el2,q2⟩=>⟨fnAt I2 ef2,?_⟩) he rfl
 subst ev
 obtain ⟨u,rfl,ru⟩:=Fp r
 exact dN S hr I2 ef2 ec2 el2 (fun pm ctv=>hb cl c' pm ctv u) ru (hbody f c' cl s2 (ju H2 cl)) q2
end
theorem Fz {X:Cx} {k:Nat} {q p y:Str} {params:Arguments} {body:Expr} {scope:Scope} {t:TE} {fe e:Expr} {pos:Pos} {tf:TE} {ta:TA} (hf:PE X fe tf) (S:uP p y scope) (hr:oh k X.A) (ha:PA X [e] ta)
  (hb:∀ cl c' pm ctv u,bindArgs (PySem.W.kla_fn "<lambda>" q params body scope [(y,cl)] pm (.ref c') ctv) ⟨[u],[]⟩=pure [(p,u)])
  (hbody:∀ f c' cl s H,∃ t',PE (vt X [p,y] q scope f c' y cl s H) body t'∧t'=t)
  (he:starEach [e] X.env=(false,eval e X.env) :: starEach [] X.env:=by rfl)
  (ht:eval (.Call fe [e] [] pos) X.env=(do callWith pos (← eval fe X.env) [] (backTo pos (starEach [e] X.env)) (backToKw pos (keywordEach [] X.env))):=by rfl) :
  PE X (.Call fe [e] [] pos) (dG q params body scope y t tf ta):=
 eI hf S hr ha hb (fun f c' cl s H=>by obtain ⟨t',h,rfl⟩:=hbody f c' cl s H;exact h) he ht
noncomputable def dy (st:Stmt):Expr:=match (Ij st).getD 1 (.Pass ⟨0,0,0,0⟩) with
 | .Return (some e) _=>e
 | _=>.Constant .none 0 ⟨0,0,0,0⟩
noncomputable def nQ:Expr→Arguments
 | .Lambda a _ _ _=>a
 | _=>{ posonlyargs:=[],args:=[],vararg:=none,kwonlyargs:=[],kw_defaults:=[],kwarg:=none,defaults:=[] }
noncomputable def eQ:Expr→Expr
 | .Lambda _ b _ _=>b
 | e=>e
noncomputable def zO:Expr→Scope
 | .Lambda _ _ s _=>s
 | _=>{ kind:=.function,names:=[],isGenerator:=false,isCoroutine:=false }
noncomputable def HR:Expr→Pos
 | .Lambda _ _ _ p=>p
 | _=>⟨0,0,0,0⟩
noncomputable def bH (Pt:Addr) (H:Hp):Prop:=H Pt=some (.tbl #[])∧∀ b,H b=none∨b=Pt∨∃ o xs,H b=some (.frz o (.lst xs))
theorem Sc.of_onlyT {K:PySem.W.Frag} {H:Hp} {a Pt:Addr} {ns:List Int} (hO:bH Pt H) (hS:SqL K H a (ns.map V.int)):Sc K a ns H:=by
 refine ⟨?_,fun b u e=>?_⟩
 ·rcases hS with (h | ⟨o,h⟩) | h
  ·rcases hO.2 a with z | z | ⟨ob,xs,z⟩
   ·rw [h] at z;cases z
   ·rw [z,hO.1] at h;cases h
   ·rw [h] at z;cases z
  ·exact .inl ⟨o,h⟩
  ·exact .inr h
 ·rcases hO.2 b with z | z | ⟨o,xs,z⟩
  ·rw [e] at z;cases z
  ·rw [z,hO.1] at e;cases e;rfl
  ·rw [e] at z;cases z;rfl
theorem QF {P:Program} {w:World} {K:PySem.W.Frag} {mg mb:Str→Option Value} {CX:CXT} {k:Nat} {fa a c Pt:Addr} {fd:FuncData} {x:Str} {sp:Sp} {s₁:Shared} {vs:List Value} {ns:List Int}
  (KX:K.In s₁.heap) (hK:PySem.W.noTabs K=true) (hns:s₁.heap.Ns mainGlobals mg) (hb:s₁.heap.Ns builtinsNs mb) (hbb:∀ x:Str,x ≠ "__name__" → mb x=bootBuiltins x) (hlim:s₁.heap.NoLimit) (hg:s₁.gens=#[])
  (hbm:∃ bm ob,mg "__builtins__"=some (.ref bm)∧bm ≠ builtinsNs∧s₁.heap.get? bm=some ob∧ob.cls=.type "module" ∧ ob.dict=some builtinsNs∧ob.data=.plain)
  (hC:PySem.W.CodeHd s₁.heap c Pt) (hP:s₁.heap.get? Pt=some (PySem.W.tabObj #[]))
  (ha:s₁.heap.get? a=some { cls:=.type "list",data:=.seq vs.toArray }) (hi:IntsAre vs ns) (hl:ns.length ≤ sizeLine) (hr:oh k callerA)
  (F:∀ base:Heap,K.In base→base.Ns mainGlobals mg→PySem.W.CodeHd base c Pt→base.BuiltinsAt mg Pt→Eb P w K mg base CX k fa fd [x] sp) (hbind:∀ (s:Shared) (u:Value),BindsTo s fd ⟨[u],[]⟩ [(x,u)])
  (hsp:∀ H:Hp,bH Pt H→SqL K H a (ns.map V.int)→sp [.ref a] H (fun v _=>v=.bl true) fun _ _ _=>False)
  (hCX:∀ H e s',CX [] H s₁ (fun _ _ _=>False) e s'→False) :
  codeAny (model P w) callerA (.call (.ref fa) ⟨[.ref a],[]⟩) (fun r s'=>r=.ok (.ret (.bool true))∧OldK s₁.heap s'.heap∧s'.os=s₁.os∧AllBare s'.gens) s₁:=by
 have rv:=uw hi
 have lenV:=hi.length
 have hPa:Pt ≠ a:=fun z=>by rw [z,ha] at hP;cases hP
 have kPt:∀ o,K.lookup Pt=some o→False:=fun o e=>by
  have e1:=KX _ _ e
  rw [hP] at e1
  cases e1
  have:=List.all_eq_true.mp hK _ (PySem.W.mem_of_lookupK e)
  exact absurd (show false=true from this) Bool.false_ne_true
 have core:∀ H:Hp,bH Pt H→SqL K H a (ns.map V.int)→HOk P w H s₁.heap→(∀ b,H b ≠ none→b=Pt∨b=a)→(H a ≠ none→K.lookup a=none) →
   codeAny (model P w) callerA (.call (.ref fa) ⟨[.ref a],[]⟩) (fun r s'=>r=.ok (.ret (.bool true))∧OldK s₁.heap s'.heap∧s'.os=s₁.os∧AllBare s'.gens) s₁:=by
  intro H hO hS hok hA hKa
  have inB:∀ {b:Addr} {o:Obj},s₁.heap.get? b=some o→o.cls ≠ .none→(∀ its n,o.data ≠ .seq its n)→(GE s₁.heap H).get? b=some o:=fun {b o} e h1 h2=>by
   refine qv e ?_
   cases q:H b with
   | none=>rfl
   | some u=>
    rcases hA b (by rw [q];simp) with z | z
    ·subst z;rw [hP] at e;cases e;exact absurd rfl h1
    ·subst z;rw [ha] at e;cases e;exact absurd rfl (h2 _ _)
  have nsK:∀ {b:Addr} {m:Str→Option Value},s₁.heap.Ns b m→(GE s₁.heap H).Ns b m:=fun {b m} ⟨o,es,ep,e,d,r⟩=>⟨o,es,ep,(by
   refine qv e ?_
   cases q:H b with
   | none=>rfl
   | some u=>
    rcases hA b (by rw [q];simp) with z | z
    ·subst z;rw [hP] at e;cases e;cases d
    ·subst z;rw [ha] at e;cases e;cases d),d,r⟩
  have hKb:K.In (GE s₁.heap H):=fun b o e=>qv (KX b o e) (by
   cases q:H b with
   | none=>rfl
   | some u=>
    rcases hA b (by rw [q];simp) with z | z
    ·subst z;exact (kPt o e).elim
    ·subst z
     rw [hKa (by rw [q];simp)] at e;cases e)
  have hM:Mod K mg (GE s₁.heap H):=⟨hKb,nsK hns,⟨mb,nsK hb,hbb⟩,let ⟨mc,h1,h2⟩:=hlim;⟨mc,nsK h1,h2⟩⟩
  have hCb:PySem.W.CodeHd (GE s₁.heap H) c Pt:=by
   obtain ⟨o,vs',file,tf,flags,tg,inF,text,tt,e1,e2,e3,r⟩:=hC
   exact ⟨o,vs',file,tf,flags,tg,inF,text,tt,inB e1 (by rw [e2];intro z;cases z) (fun _ _ z=>by rw [e3] at z;cases z),e2,e3,r⟩
  have hBb:(GE s₁.heap H).BuiltinsAt mg Pt:=by
   obtain ⟨bm,ob,h1,h2,h3,h4,h5,h6⟩:=hbm
   refine ⟨bm,ob,h1,h2,fun z=>?_,fun z=>?_,inB h3 (by rw [h4];intro z;cases z) (fun _ _ z=>by rw [h6] at z;cases z),h4,h5,h6⟩
   ·obtain ⟨o,es,ep,e,d,_⟩:=hns
    rw [z,e] at h3;cases h3;rw [d] at h6;cases h6
   ·rw [z,hP] at h3;cases h3;cases h4
  have e0:xC P w K mg (GE s₁.heap H) callerA [] s₁ H:=⟨rfl,hM,fun b o e=>QL e,Nat.le_of_eq (QC _ _),trivial,fun b hb=>absurd (show b ∈ ([]:List Addr) from hb) (by simp),hok,.of_eq hg⟩
  refine codeAny_mono ((F _ hKb (nsK hns) hCb hBb).run callerA [] s₁ H ⟨[.ref a],[]⟩ [.ref a] [.ref a] _ _ hr e0 (hbind s₁ (.ref a)) (.cons rfl .nil) (hsp H hO hS)) fun r s' h=>?_
  cases r with
  | error e=>exact (hCX H e s' h).elim
  | ok fl=>
   cases fl with
   | next=>exact False.elim h
   | brk=>exact False.elim h
   | cont=>exact False.elim h
   | ret u=>
    obtain ⟨v,H',os,bare,un,hok',r',q⟩:=h
    have q':v=.bl true:=q
    subst q'
    obtain rfl:u=Value.bool true:=r'
    obtain ⟨more,eP⟩:=un.tbls Pt _ hO.1
    have eP2:s'.heap.get? Pt=some { cls:=.none,data:=.fields (#[] ++ more) }:=hok' _ _ eP
    have kp:∀ b o,b ≠ Pt→s₁.heap.get? b=some o→s'.heap.get? b=some o:=fun b o nb e=>by
     rcases hO.2 b with z | z | ⟨ob,xs,z⟩
     ·exact un.keep b o e z (by intro z;exact absurd (show b ∈ ([]:List Addr) from z) (by simp)) (by simp)
     ·exact absurd z nb
     ·have z2:=un.frzs b ob _ z
      obtain ⟨e1,_⟩:=hok b _ z
      obtain ⟨e2,_⟩:=hok' b _ z2
      rw [e] at e1;cases e1
      exact e2
    refine ⟨rfl,⟨fun b o e=>?_,fun b o e=>?_⟩,os,bare⟩
    ·by_cases hbP:b=Pt
     ·subst hbP
      rw [hP] at e;cases e
      exact .inr (.inl ⟨(hC.tab hP).isCodeTable,rfl,#[],more,rfl,eP2⟩)
     ·exact .inl (kp b o hbP e)
    ·by_cases hbP:b=Pt
     ·subst hbP;exact ⟨_,eP2⟩
     ·exact ⟨o,kp b o hbP e⟩
 have okT:∀ H:Hp,gd P w H s₁.heap Pt (.tbl #[]):=fun _=>hP
 cases hk:K.lookup a with
 | some o=>
  have e:=KX a o hk
  rw [ha] at e
  cases e
  refine core (fun b=>if b=Pt then some (.tbl #[]) else none) ⟨if_pos rfl,fun b=>?_⟩ (.inr ⟨_,vs.toArray,_,hk,rfl,rfl,rfl,by rw [List.size_toArray,lenV];exact hl,by simpa using rv⟩) (fun b u z=>?_) (fun b z=>?_) fun z=>absurd (if_neg (Ne.symm hPa)) z
  ·by_cases hb:b=Pt
   ·exact .inr (.inl hb)
   ·exact .inl (if_neg hb)
  ·by_cases hb:b=Pt
   ·have z':=(if_pos hb).symm.trans z
    cases z'
    subst hb
    exact okT _
   ·have z':=(if_neg hb).symm.trans z
    cases z'
  ·by_cases hb:b=Pt
   ·exact .inl hb
   ·exact absurd (if_neg hb) z
 | none=>
  have ea:(fun b=>if b=Pt then some (HO.tbl #[]) else if b=a then some (.frz { cls:=.type "list",data:=.seq vs.toArray } (.lst (ns.map V.int))) else none) a=some (.frz { cls:=.type "list",data:=.seq vs.toArray } (.lst (ns.map V.int))):=by
   show (if a=Pt then _ else if a=a then _ else _)=_
   rw [if_neg (Ne.symm hPa),if_pos rfl]
  refine core (fun b=>if b=Pt then some (.tbl #[]) else if b=a then some (.frz { cls:=.type "list",data:=.seq vs.toArray } (.lst (ns.map V.int))) else none) ⟨if_pos rfl,fun b=>?_⟩ (.inl (.inr ⟨_,ea⟩)) (fun b u z=>?_) (fun b z=>?_) fun _=>hk
  ·by_cases hb:b=Pt
   ·exact .inr (.inl hb)
   ·by_cases hb2:b=a
    ·exact .inr (.inr ⟨_,_,by rw [hb2];exact ea⟩)
    ·exact .inl ((if_neg hb).trans (if_neg hb2))
  ·by_cases hb:b=Pt
   ·have z':=(if_pos hb).symm.trans z
    cases z'
    subst hb
    exact okT _
   ·by_cases hb2:b=a
    ·subst hb2
     rw [ea] at z;cases z
     exact ⟨ha,by rw [List.length_map];exact hl,vs,_,rv,ha⟩
    ·have z':=((if_neg hb).trans (if_neg hb2)).symm.trans z
     cases z'
  ·by_cases hb:b=Pt
   ·exact .inl hb
   ·by_cases hb2:b=a
    ·exact .inr hb2
    ·exact absurd ((if_neg hb).trans (if_neg hb2)) z
theorem aJ {l:PySem.W.OpenLaw} {n k:Nat} {q:Program} {loose:List Str} {XP:(Str→Option Value)→Heap→Prop} {YP:World→Heap→Prop} {d:DefRec} {K:Params→PySem.W.Frag} {CX:CXT} {sp:PySem.W.Frag→Addr→Sp} {x fx:Str}
  (hn:l.most=some n) (hn2:n ≤ sizeLine) (hdf:d.params.defaults=[]) (hr:oh k callerA)
  (hY:∀ (w:World) (h:Heap),YP w h→(K w.params).In h) (hK:∀ p,PySem.W.noTabs (K p)=true) (hfx:((recsOf q).any fun e=>e.name == fx)=true)
  (F:∀ (w:World) (mg:Str→Option Value) (fa:Addr) (h:Heap),(K w.params).In h→h.Ns mainGlobals mg→mg d.name=some (.ref fa) →
   ∃ fd:FuncData,(∀ (s:Shared) (u:Value),BindsTo s fd ⟨[u],[]⟩ [(x,u)]) ∧
    ∀ (base:Heap) (c Pt:Addr),(K w.params).In base→base.Ns mainGlobals mg→PySem.W.CodeHd base c Pt→base.BuiltinsAt mg Pt→(∀ a o fd',mg fx=some (.ref a)→(K w.params).lookup a=some o→o.data=.func fd'→fd'.code=.ref c) →
     Eb l.prog w (K w.params) mg base CX k fa fd [x] (sp (K w.params) Pt))
  (hsp:∀ (K:PySem.W.Frag) (H:Hp) (a Pt:Addr) (ns:List Int),ns.length ≤ n→bH Pt H→SqL K H a (ns.map V.int)→sp K Pt [.ref a] H (fun v _=>v=.bl true) fun _ _ _=>False)
  (hCX:∀ (H:Hp) (s:Shared) (e:Value) (s':Shared),CX [] H s (fun _ _ _=>False) e s'→False) :
  PySem.W.WalkO q loose XP YP l.row.toRowW d [] (fun f vs=>PySem.call f vs):=by
 refine Att.attach_call hn hdf fun w s₀ s₁ mg mb fa o pm cd doc a vs ns G Y ho hd hcd hmg hobj hints hlen hg=>?_
 have KX:=hY w _ Y
 obtain ⟨fd,hb,hF⟩:=F w mg fa _ KX G.T.g hmg
 obtain ⟨dr,hdr,hdn⟩:=List.any_eq_true.mp hfx
 have hdn:dr.name=fx:=beq_iff_eq.mp hdn
 obtain ⟨fa',fo,fd',c,Pt,h1,h2,h3,h4,h5,h6⟩:=G.T.tab dr hdr
 rw [hdn] at h1
 exact QF (c:=c) (Pt:=Pt) KX (hK w.params) G.T.g G.T.b G.T.builtins G.T.nolimit hg G.T.bmain (PySem.W.CodeHd.of h5 h6) h6.2 hobj hints (Nat.le_trans hlen hn2) hr
  (fun base b1 b2 b3 b4=>hF base c Pt b1 b2 b3 b4 fun a' o' fd2 e1 e2 e3=>by
   rw [h1] at e1;cases e1
   have e4:=KX _ _ e2
   rw [h2] at e4;cases e4
   rw [h3] at e3;cases e3
   exact h4) hb (fun H hO hS=>hsp (K w.params) H a Pt ns hlen hO hS) fun H e s'=>hCX H s₁ e s'
theorem JK {K:PySem.W.Frag} {mg:Str→Option Value} {x qual:Str} {st:Stmt} {f c:Addr} {fd:FuncData} {y:Str} (F:Fun K x qual st f fd) (m:mg y=some (.ref f))
  (h:∀ a o fd',mg y=some (.ref a)→K.lookup a=some o→o.data=.func fd'→fd'.code=.ref c):fd.code=.ref c:=by
 obtain ⟨oc,od,kV,doc,pm,an,cdv,ct,osl,e,lk,_⟩:=F.ex
 exact h f _ fd m lk rfl
end L2
namespace L2
open PySem PySem.Spec PyProof.Rows
theorem Hm:bootBuiltins "divmod"=some (.builtin "divmod"):=by decide +kernel
end L2
namespace L2
open PySem PySem.Spec PyProof.Rows
theorem zM (i:Nat) (σ:St) (H:Hp) (Q:VK):eR i σ H Q=(∃ v,σ[i]? = some (some v)∧Q v H):=rfl
theorem fR (v:V) (x_0:St) (H:Hp) (Q:VK):tC v x_0 H Q=(Q v H):=rfl
theorem PL (ta tb:TE) (σ:St) (H:Hp) (Q:VK):XR ta tb σ H Q=(t2I ta tb (fun i j H2=>Q (.int (i + j)) H2) σ H):=rfl
theorem WL (ta tb:TE) (σ:St) (H:Hp) (Q:VK):oS ta tb σ H Q=(t2I ta tb (fun i j H2=>Q (.int (i - j)) H2) σ H):=rfl
theorem tK (ta tb:TE) (σ:St) (H:Hp) (Q:VK):ZR ta tb σ H Q=(t2I ta tb (fun i j H2=>(-(2 ^ 64) < i∧i < 2 ^ 64)∧Q (.int (i * j)) H2) σ H):=rfl
theorem DL (p:Int→Int→Bool) (ta tb:TE) (σ:St) (H:Hp) (Q:VK):zS p ta tb σ H Q=(t2I ta tb (fun i j H2=>Q (.bl (p i j)) H2) σ H):=rfl
theorem lM (ta:TE) (σ:St) (H:Hp) (Q:VK):xS ta σ H Q=(ta σ H fun x H1=>Q (.bl (decide (x=.non))) H1):=rfl
theorem kH (ta:TE) (σ:St) (H:Hp) (Q:VK):YQ ta σ H Q=(ta σ H fun x H1=>Q (.bl (!decide (x=.non))) H1):=rfl
theorem aR (t:TE) (σ:St) (H:Hp) (Q:(Bool→Hp→Prop)):tB t σ H Q=(t σ H fun x H1=>∃ c,x=.bl c∧Q c H1):=rfl
theorem EK (t u:TT) (σ:St) (H:Hp) (Q:(Bool→Hp→Prop)):pR t u σ H Q=(t σ H fun c H1=>if c=true then u σ H1 Q else Q false H1):=rfl
theorem tP (t u:TT) (σ:St) (H:Hp) (Q:(Bool→Hp→Prop)):tOr t u σ H Q=(t σ H fun c H1=>if c=true then Q true H1 else u σ H1 Q):=rfl
theorem EM (t:TT) (σ:St) (H:Hp) (Q:(Bool→Hp→Prop)):JR t σ H Q=(t σ H fun c H1=>Q (!c) H1):=rfl
theorem NI (ta tb:TE) (σ:St) (H:Hp) (Q:VK):ON ta tb σ H Q=(ta σ H fun x H1=>∃ c,x=.bl c∧if c=true then tb σ H1 Q else Q (.bl false) H1):=rfl
theorem dL (ta tb:TE) (σ:St) (H:Hp) (Q:VK):lR ta tb σ H Q=(ta σ H fun x H1=>∃ c,x=.bl c∧if c=true then Q (.bl true) H1 else tb σ H1 Q):=rfl
theorem pH (ta:TE) (σ:St) (H:Hp) (Q:VK):EQ ta σ H Q=(ta σ H fun x H1=>∃ c,x=.bl c∧Q (.bl (!c)) H1):=rfl
theorem MN (t:TT) (ta tb:TE) (σ:St) (H:Hp) (Q:VK):tIf t ta tb σ H Q=(t σ H fun c H1=>if c=true then ta σ H1 Q else tb σ H1 Q):=rfl
theorem Rk (D:Gg) (σ:St) (H:Hp):LP  D σ H=(D.nx σ H):=rfl
theorem Hb (t u:TS) (D:Gg) (σ:St) (H:Hp):jR t u D σ H=(t { D with nx:=u D } σ H):=rfl
theorem WE (D:Gg) (σ:St) (H:Hp):YN  D σ H=(D.bk σ H):=rfl
theorem XH (D:Gg) (σ:St) (H:Hp):OQ  D σ H=(D.ct σ H):=rfl
theorem xI (te:TE) (D:Gg) (σ:St) (H:Hp):aO te D σ H=(te σ H fun _ H1=>D.nx σ H1):=rfl
theorem GM (te:TE) (D:Gg) (σ:St) (H:Hp):XQ te D σ H=(te σ H D.rt):=rfl
theorem QH (D:Gg) (x_1:St) (H:Hp):WQ  D x_1 H=(D.rt .non H):=rfl
theorem jD (x_0:Gg) (x_1:St) (x_2:Hp):aE  x_0 x_1 x_2=(False):=rfl
theorem Ak (i:Nat) (v:V) (σ:St) (H:Hp) (Q:(St→Hp→Prop)):Lx i v σ H Q=(Q (σ.set i (some v)) H):=rfl
theorem fM (vs:List V) (σ:St) (H:Hp) (Q:(St→Hp→Prop)):gQ  vs σ H Q=(vs=[]∧Q σ H):=rfl
theorem SG (t:TG) (u:TGs) (vs:List V) (σ:St) (H:Hp) (Q:(St→Hp→Prop)):bC t u vs σ H Q=(∃ v r,vs=v :: r∧t v σ H fun σ' H'=>u r σ' H' Q):=rfl
theorem kM (K:PySem.W.Frag) (n:Nat) (t:TGs) (v:V) (σ:St) (H:Hp) (Q:(St→Hp→Prop)):OP K n t v σ H Q=(∃ a xs,v=.ref a∧SqT K H a xs∧xs.length=n∧t xs σ H Q):=rfl
theorem jL (to ti:TE) (t:jN) (v:V) (σ:St) (H:Hp) (Q:(St→Hp→Prop)):QR to ti t v σ H Q=(to σ H fun o H1=>ti σ H1 fun i H2=>t o i v H2 fun H3=>Q σ H3):=rfl
theorem UK (te:TE) (g:TG) (D:Gg) (σ:St) (H:Hp):dQ te g D σ H=(te σ H fun x H1=>g x σ H1 D.nx):=rfl
theorem zL (i j:Nat) (ta:TA) (D:Gg) (σ:St) (H:Hp):uS i j ta D σ H=(ta σ H fun vs H1=>∃ v w,vs=[v,w]∧D.nx ((σ.set i (some v)).set j (some w)) H1):=rfl
theorem VM (i:Nat) (te:TE) (ti:TIp) (D:Gg) (σ:St) (H:Hp):PR i te ti D σ H=(∃ x,σ[i]? = some (some x)∧te σ H fun y H1=>ti x y H1 fun z H2=>D.nx (σ.set i (some z)) H2):=rfl
theorem CH (to ti te:TE) (tget:V→V→Hp→VK→Prop) (tip:TIp) (tset:jN) (D:Gg) (σ:St) (H:Hp):wQ to ti te tget tip tset D σ H=(to σ H fun o H1=>ti σ H1 fun i H2=>tget o i H2 fun x H3=>te σ H3 fun y H4=>tip x y H4 fun z H5=>tset o i z H5 fun H6=>D.nx σ H6):=rfl
theorem TH (K:PySem.W.Frag) (tl:TE) (σ:St) (H:Hp) (R:(It→Hp→Prop)):wP K tl σ H R=(tl σ H fun x H1=>∃ a,x=.ref a∧(∃ xs,SqL K H1 a xs)∧R (Itl K a) H1):=rfl
theorem wL (K:PySem.W.Frag) (tl:TE) (σ:St) (H:Hp) (R:(It→Hp→Prop)):DR K tl σ H R=(tl σ H fun x H1=>∃ a,x=.ref a∧(∃ xs,SqT K H1 a xs)∧R (Itt K a) H1):=rfl
theorem uN (r:R2) (ta tb:TE) (σ:St) (H:Hp) (Q:VK):tOp r ta tb σ H Q=(ta σ H fun x H1=>tb σ H1 fun y H2=>r x y H2 Q):=rfl
theorem oO (r:V→Hp→VK→Prop) (ta:TE) (σ:St) (H:Hp) (Q:VK):tUn r ta σ H Q=(ta σ H fun x H1=>r x H1 Q):=rfl
theorem CQ (C:Int→Int→Prop) (g:Int→Int→V) (x:V) (y:V) (H:Hp) (Q:VK):rI C g x y H Q=(∃ i j,x=.int i∧y=.int j∧C i j∧Q (g i j) H):=rfl
theorem vN (g:Int→Int→V) (x:V) (y:V) (H:Hp) (Q:VK):rI0 g x y H Q=(∃ i j,x=.int i∧y=.int j∧Q (g i j) H):=rfl
theorem xQ (g:Int→V) (x:V) (H:Hp) (Q:VK):rU g x H Q=(∃ i,x=.int i∧Q (g i) H):=rfl
theorem AO (x:V) (y:V) (H:Hp) (Q:VK):rEq  x y H Q=(bQ x y=true∧Q (.bl (decide (x=y))) H):=rfl
theorem VN (x:V) (y:V) (H:Hp) (Q:VK):rNe  x y H Q=(bQ x y=true∧Q (.bl (!decide (x=y))) H):=rfl
theorem AH (t:TE) (σ:St) (H:Hp) (Q:(Bool→Hp→Prop)):xO t σ H Q=(t σ H fun x H'=>∃ k,x=.bl k∧Q k H'):=rfl
theorem ED (r r':R2) (ta tb tc:TE) (σ:St) (H:Hp) (Q:VK):wO r r' ta tb tc σ H Q=(ta σ H fun x H1=>tb σ H1 fun y H2=>r x y H2 fun z H3=>∃ k,z=.bl k ∧
 (if k=true then tc σ H3 fun w' H4=>r' y w' H4 Q else Q (.bl false) H3)):=rfl
theorem uM (K:PySem.W.Frag) (ta:TE) (f:Str) (σ:St) (H:Hp) (Q:VK):eS K ta f σ H Q=(ta σ H fun x H1=>∃ a C dx fs v u,x=.ref a∧H1 a=some (.ins C dx fs)∧Cls K C∧Con K C f v u∧fs.lookup f=none∧Q v H1):=rfl
theorem HL (K:PySem.W.Frag) (ta tv:TE) (f:Str) (D:Gg) (σ:St) (H:Hp):rR K ta tv f D σ H=(tv σ H fun y H1=>ta σ H1 fun x H2=>∃ a C dx fs,x=.ref a∧H2 a=some (.ins C dx fs)∧Cls K C∧Fb K C f∧fs.length < 1000 ∧
 D.nx σ (upd H2 a (.ins C dx (Qg f y fs)))):=rfl
theorem ZB (K:PySem.W.Frag) (ta tv:TE) (rd:V→V→Hp→VK→Prop) (f:Str) (D:Gg) (σ:St) (H:Hp):oF K ta tv rd f D σ H=(ta σ H fun x H1=>∃ a C dx fs v,x=.ref a∧H1 a=some (.ins C dx fs)∧Cls K C∧Fb K C f∧fs.lookup f=some v ∧
 tv σ H1 fun y H2=>rd v y H2 fun z H3=>∃ dx' fs',H3 a=some (.ins C dx' fs')∧fs'.length < 1000∧D.nx σ (upd H3 a (.ins C dx' (Qg f z fs')))):=rfl
theorem QM (x:V) (y:V) (H:Hp) (Q:VK):ER  x y H Q=(∃ i j,x=.int i∧y=.int j∧Q (.int (i + j)) H):=rfl
theorem UL (x:V) (y:V) (H:Hp) (Q:VK):WR  x y H Q=(∃ i j,x=.int i∧y=.int j∧Q (.int (i - j)) H):=rfl
theorem xL (x_0:St) (H:Hp) (Q:(List V→Hp→Prop)):lQ  x_0 H Q=(Q [] H):=rfl
theorem nH (ta:TE) (tr:TA) (σ:St) (H:Hp) (Q:(List V→Hp→Prop)):IP ta tr σ H Q=(ta σ H fun x H1=>tr σ H1 fun xs H2=>Q (x :: xs) H2):=rfl
theorem CK (t:TA) (σ:St) (H:Hp) (Q:VK):nR t σ H Q=(t σ H fun xs H1=>xs.length ≤ sizeLine∧∀ p,H1 p=none→Q (.ref p) (upd H1 p (.tup xs))):=rfl
theorem cL (t:TA) (σ:St) (H:Hp) (Q:VK):sR t σ H Q=(t σ H fun xs H1=>xs.length ≤ sizeLine∧∀ p,H1 p=none→Q (.ref p) (upd H1 p (.lst xs))):=rfl
theorem qH (sp:Sp) (dvs:List V) (E:XK) (t:TA) (σ:St) (H:Hp) (Q:VK):FL sp dvs E t σ H Q=(t σ H fun vs H1=>sp (vs ++ dvs) H1 Q E):=rfl
theorem gH (C:Addr) (m:Str) (sp:Sp) (dvs:List V) (E:XK) (ta:TE) (t:TA) (σ:St) (H:Hp) (Q:VK):sK C m sp dvs E ta t σ H Q=(ta σ H fun x H1=>∃ a dx fs,x=.ref a∧H1 a=some (.ins C dx fs)∧fs.lookup m=none ∧
 t σ H1 fun vs H2=>sp (x :: (vs ++ dvs)) H2 Q E):=rfl
theorem lI (C:Addr) (sp:Sp) (dvs:List V) (E:XK) (t:TA) (σ:St) (H:Hp) (Q:VK):tN C sp dvs E t σ H Q=(t σ H fun vs H1=>∀ x dx,H1 x=none→H1 dx=none→dx ≠ x →
 sp (.ref x :: (vs ++ dvs)) (upd (upd H1 dx (.own x)) x (.ins C dx [])) (fun v H2=>v=.non∧Q (.ref x) H2) E):=rfl
theorem CF (sp:Sp) (gV:List V→List V→List V) (E:XK) (t tk:TA) (σ:St) (H:Hp) (Q:VK):WO sp gV E t tk σ H Q=(t σ H fun vs H1=>tk σ H1 fun zs H2=>sp (gV vs zs) H2 Q E):=rfl
theorem zP (r:List V→Hp→VK→Prop) (t:TA) (σ:St) (H:Hp) (Q:VK):tCB r t σ H Q=(t σ H fun vs H1=>r vs H1 Q):=rfl
theorem KB (x_0:St) (H:Hp) (Q:(Option Int→Hp→Prop)):RE  x_0 H Q=(Q none H):=rfl
theorem zH (t:TE) (σ:St) (H:Hp) (Q:(Option Int→Hp→Prop)):HN t σ H Q=(t σ H fun x H1=>∃ i,x=.int i∧Q (some i) H1):=rfl
theorem aQ (r:V→Option Int→Option Int→Hp→VK→Prop) (te:TE) (tl th:TO) (σ:St) (H:Hp) (Q:VK):tSl r te tl th σ H Q=(te σ H fun x H1=>tl σ H1 fun l H2=>th σ H2 fun u H3=>r x l u H3 Q):=rfl
theorem eL (K:PySem.W.Frag) (x:V) (lo:Option Int) (hi:Option Int) (H:Hp) (Q:VK):IR K x lo hi H Q=(∃ a xs,x=.ref a∧SqT K H a xs ∧
 ¬ (HT.sIx xs.length 0 lo=0∧HT.sIx xs.length xs.length hi=xs.length)∧∀ p,H p=none→Q (.ref p) (upd H p (.tup (mF xs lo hi)))):=rfl
theorem FK (K:PySem.W.Frag) (x:V) (y:V) (H:Hp) (Q:VK):rS K x y H Q=(∃ a b ns ms,x=.ref a∧y=.ref b∧SqT K H a (ns.map V.int)∧SqT K H b (ms.map V.int)∧Q (.bl (HT.lexLt ns ms)) H):=rfl
theorem SH (K:PySem.W.Frag) (x:V) (y:V) (H:Hp) (Q:VK):JQ K x y H Q=(∃ a b xs ys,x=.ref a∧y=.ref b∧SqT K H a xs∧SqT K H b ys∧xs ≠ []∧xs.length + ys.length ≤ sizeLine ∧
 (ys=[]→Q (.ref a) H)∧(ys ≠ []→∀ p,H p=none→Q (.ref p) (upd H p (.tup (xs ++ ys))))):=rfl
theorem RK (K:PySem.W.Frag) (x:V) (y:V) (H:Hp) (Q:VK):iQ K x y H Q=(∃ p xs i v,x=.ref p∧y=.int i∧SqL K H p xs∧atI xs i=some v∧Q v H):=rfl
theorem SL (K:PySem.W.Frag) (x:V) (y:V) (H:Hp) (Q:VK):cQ K x y H Q=(∃ p xs i v,x=.ref p∧y=.int i∧SqT K H p xs∧atI xs i=some v∧Q v H):=rfl
theorem fL (x:V) (y:V) (H:Hp) (Q:VK):kQ  x y H Q=(∃ z i c,x=.str z∧y=.int i∧z.length ≤ sizeLine∧atI z.cps.toList i=some c∧Q (.str ⟨#[c]⟩) H):=rfl
theorem RP (K:PySem.W.Frag) (x:V) (y:V) (H:Hp) (Q:VK):rIx K x y H Q=(iQ K x y H Q∨cQ K x y H Q∨kQ x y H Q):=rfl
theorem mI (o:V) (i:V) (v:V) (H:Hp) (Q:(Hp→Prop)):fO  o i v H Q=(∃ p xs k j,o=.ref p∧i=.int k∧H p=some (.lst xs)∧ixN xs.length k=some j∧Q (upd H p (.lst (xs.set j v)))):=rfl
theorem TL (K:PySem.W.Frag) (x:V) (lo:Option Int) (hi:Option Int) (H:Hp) (Q:VK):KR K x lo hi H Q=(∃ a xs,x=.ref a∧SqL K H a xs∧∀ p,H p=none→Q (.ref p) (upd H p (.lst (mF xs lo hi)))):=rfl
theorem CN (K:PySem.W.Frag) (neg:Bool) (x:V) (y:V) (H:Hp) (Q:VK):rIn K neg x y H Q=(∃ p xs,y=.ref p∧(SqL K H p xs∨SqT K H p xs)∧Qj x=true∧xs.all Qj=true∧Q (.bl (if neg then !inV x xs else inV x xs)) H):=rfl
theorem XL (K:PySem.W.Frag) (T:String) (r:V→List V→Hp→VK→Prop) (to:TE) (σ:St) (H:Hp) (Q:VK):kS K T r to σ H Q=(to σ H fun x H1=>tyV K T x H1∧r x [] H1 Q):=rfl
theorem pN (K:PySem.W.Frag) (T:String) (r:V→List V→Hp→VK→Prop) (to:TE) (t:TA) (σ:St) (H:Hp) (Q:VK):tBM K T r to t σ H Q=(to σ H fun x H1=>tyV K T x H1∧t σ H1 fun xs H2=>r x xs H2 Q):=rfl
theorem oB (x:V) (vs:List V) (H:Hp) (Q:VK):UF  x vs H Q=(∃ l xs y,x=.ref l∧vs=[y]∧H l=some (.lst xs)∧xs.length < sizeLine∧Q .non (upd H l (.lst (xs ++ [y])))):=rfl
theorem JB (x:V) (vs:List V) (H:Hp) (Q:VK):TM  x vs H Q=(∃ l b xs zs,x=.ref l∧vs=[.ref b]∧H l=some (.lst xs)∧H b=some (.lst zs)∧xs.length + zs.length ≤ sizeLine∧Q .non (upd H l (.lst (xs ++ zs)))):=rfl
theorem OL (x:V) (vs:List V) (H:Hp) (Q:VK):sS  x vs H Q=(∃ l xs y,x=.ref l∧vs=[]∧H l=some (.lst xs)∧xs[xs.length - 1]? = some y∧Q y (upd H l (.lst xs.dropLast))):=rfl
theorem CD (x:V) (vs:List V) (H:Hp) (Q:VK):vO  x vs H Q=(∃ l xs i k y,x=.ref l∧vs=[.int i]∧H l=some (.lst xs)∧-(2 ^ 63) ≤ i∧i < 2 ^ 63∧seqIndex? i xs.length=some k∧xs[k]? = some y∧Q y (upd H l (.lst (xs.eraseIdx k)))):=rfl
theorem kz (x:V) (vs:List V) (H:Hp) (Q:VK):ZI  x vs H Q=(∃ l xs,x=.ref l∧vs=[]∧H l=some (.lst xs)∧Q .non (upd H l (.lst xs.reverse))):=rfl
theorem cE (x:V) (vs:List V) (H:Hp) (Q:VK):qO  x vs H Q=(∃ l xs,x=.ref l∧vs=[]∧H l=some (.lst xs)∧Q .non (upd H l (.lst []))):=rfl
theorem GK (x:V) (y:V) (H:Hp) (Q:VK):bS  x y H Q=(∃ l b xs zs,x=.ref l∧y=.ref b∧H l=some (.lst xs)∧H b=some (.lst zs)∧xs.length + zs.length ≤ sizeLine∧∀ p,H p=none→Q (.ref p) (upd H p (.lst (xs ++ zs)))):=rfl
theorem HK (x:V) (y:V) (H:Hp) (Q:VK):fS  x y H Q=(∃ l k xs,x=.ref l∧y=.int k∧H l=some (.lst xs)∧-(2 ^ 63) ≤ k∧k < 2 ^ 63∧xs.length * k.toNat ≤ sizeLine ∧
 ∀ p,H p=none→Q (.ref p) (upd H p (.lst (List.replicate k.toNat xs).flatten))):=rfl
theorem vH (td ty:TE) (σ:St) (H:Hp) (Q:VK):pO td ty σ H Q=(td σ H fun x H1=>ty σ H1 fun y H2=>∃ a v,x=.ref a∧zl H2 a y (some v)∧Q v H2):=rfl
theorem bL (ty td:TE) (σ:St) (H:Hp) (Q:VK):jS ty td σ H Q=(ty σ H fun y H1=>td σ H1 fun x H2=>∃ a o,x=.ref a∧zl H2 a y o∧Q (.bl o.isSome) H2):=rfl
theorem RA (ty td:TE) (σ:St) (H:Hp) (Q:VK):xF ty td σ H Q=(ty σ H fun y H1=>td σ H1 fun x H2=>∃ a o,x=.ref a∧zl H2 a y o∧Q (.bl (!o.isSome)) H2):=rfl
theorem yH (td ty tv:TE) (D:Gg) (σ:St) (H:Hp):JO td ty tv D σ H=(tv σ H fun v H1=>td σ H1 fun x H2=>ty σ H2 fun y H3=>∃ a H4,x=.ref a∧aC H3 a y v H4∧D.nx σ H4):=rfl
theorem jI (td ty tv:TE) (rd:V→V→Hp→VK→Prop) (D:Gg) (σ:St) (H:Hp):sQ td ty tv rd D σ H=(td σ H fun x H1=>ty σ H1 fun y H2=>∃ a v,x=.ref a∧zl H2 a y (some v) ∧
 tv σ H2 fun y2 H3=>rd v y2 H3 fun z H4=>∃ H5,aC H4 a y z H5∧D.nx σ H5):=rfl
theorem zI (td ty:TE) (D:Gg) (σ:St) (H:Hp):AQ td ty D σ H=(td σ H fun x H1=>ty σ H1 fun y H2=>∃ a kvs k,x=.ref a∧H2 a=some (.dK kvs)∧y=kV k∧(vj kvs k).isSome=true∧D.nx σ (upd H2 a (.dK (Ax kvs k)))):=rfl
theorem KF (x_0:St) (H:Hp) (Q:VK):qJ  x_0 H Q=(∀ p,H p=none→Q (.ref p) (upd H p (.dK []))):=rfl
theorem QE (x_0:St) (H:Hp) (Q:VK):IO  x_0 H Q=(∀ p,H p=none→Q (.ref p) (upd H p (.dT []))):=rfl
theorem RI (trs:List (TE × TE)) (σ:St) (H:Hp) (Q:VK):KO trs σ H Q=(∀ p,H p=none→Tw trs σ (upd H p (.dK [])) fun ps H2=>H2 p=some (.dK [])∧∃ kvs:List (Key × V),ps=kvs.map (fun kv=>(kV kv.1,kv.2))∧kvs.length ≤ 15∧Q (.ref p) (upd H2 p (.dK (Uj [] kvs)))):=rfl
theorem ME (td ty:TE) (σ:St) (H:Hp) (Q:VK):cP td ty σ H Q=(td σ H fun x H1=>∃ a,x=.ref a∧IsD H1 a∧ty σ H1 fun y H2=>∃ o,zl H2 a y o∧Q (o.getD .non) H2):=rfl
theorem DF (td ty tx:TE) (σ:St) (H:Hp) (Q:VK):jO td ty tx σ H Q=(td σ H fun x H1=>∃ a,x=.ref a∧IsD H1 a∧ty σ H1 fun y H2=>tx σ H2 fun z H3=>∃ o,zl H3 a y o∧Q (o.getD z) H3):=rfl
theorem UD (td ty:TE) (σ:St) (H:Hp) (Q:VK):zN td ty σ H Q=(td σ H fun x H1=>∃ a,x=.ref a∧IsD H1 a∧ty σ H1 fun y H2=>∃ kvs k v,H2 a=some (.dK kvs)∧y=kV k∧vj kvs k=some v∧Q v (upd H2 a (.dK (Ax kvs k)))):=rfl
theorem JC (td ty tx:TE) (σ:St) (H:Hp) (Q:VK):JN td ty tx σ H Q=(td σ H fun x H1=>∃ a,x=.ref a∧IsD H1 a∧ty σ H1 fun y H2=>tx σ H2 fun z H3=>∃ kvs k,H3 a=some (.dK kvs)∧y=kV k ∧
 (∀ v,vj kvs k=some v→Q v (upd H3 a (.dK (Ax kvs k))))∧(vj kvs k=none→Q z H3)):=rfl
theorem XI (x_0:St) (H:Hp) (Q:(Bool→Hp→Prop)):Qy  x_0 H Q=(Q true H):=rfl
theorem PK (tl:TE) (σ:St) (H:Hp) (R:(It→Hp→Prop)):tR tl σ H R=(tl σ H fun x H1=>∃ z,x=.str z∧R (Its (tj z)) H1):=rfl
theorem nM (x:V) (lo:Option Int) (hi:Option Int) (H:Hp) (Q:VK):cS  x lo hi H Q=(∃ z,x=.str z∧z.length ≤ sizeLine∧Q (.str (Txt.slice z lo hi)) H):=rfl
theorem uH (K:PySem.W.Frag) (x:V) (vs:List V) (H:Hp) (Q:VK):HP K x vs H Q=(∃ sep p ys,x=.str sep∧vs=[.ref p]∧SqL K H p (Rb ys)∧(ys.map (·.length)).sum + ys.length * sep.length ≤ 16777216∧Q (.str (Txt.join sep ys)) H):=rfl
theorem ND (x:V) (vs:List V) (H:Hp) (Q:VK):bK  x vs H Q=(∃ z y,x=.str z∧vs=[.str y]∧y.length ≠ 0∧z.length + 2 ≤ sizeLine∧(Txt.split z y).length ≤ sizeLine∧∀ p,H p=none→Q (.ref p) (upd H p (.lst (Rb (Txt.split z y))))):=rfl
theorem WB (x:V) (vs:List V) (H:Hp) (Q:VK):kL  x vs H Q=(∃ z y i rest,x=.str z∧vs=[.str y]∧Builtin.Str.occurrences z y 0 z.length 1=i :: rest∧Q (.int (i:Nat)) H):=rfl
theorem cD (OK:Addr→Prop) (m:Str) (SPV:Addr→Sp) (E:XK) (ta:TE) (t:TA) (σ:St) (H:Hp) (Q:VK):YE OK m SPV E ta t σ H Q=(ta σ H fun x H1=>∃ a C dx fs,x=.ref a∧H1 a=some (.ins C dx fs)∧OK C∧fs.lookup m=none ∧
 t σ H1 fun vs H2=>SPV C (x :: vs) H2 Q E):=rfl
theorem fE (kvs:SVs) (ty:TE) (σ:St) (H:Hp) (Q:VK):YO kvs ty σ H Q=(ty σ H fun y H1=>∃ x v,y=.str x∧kvs.lookup x=some v∧Q v H1):=rfl
theorem GI (K:PySem.W.Frag) (ta:TA) (σ:St) (H:Hp) (R:(It→Hp→Prop)):DP K ta σ H R=(ta σ H fun vs H1=>∃ a,vs=[.ref a]∧(∃ xs,SqL K H1 a xs)∧R (Ite K a) H1):=rfl
theorem yK (K:PySem.W.Frag) (ta:TA) (σ:St) (H:Hp) (R:(It→Hp→Prop)):UR K ta σ H R=(ta σ H fun vs H1=>∃ a b,vs=[.ref a,.ref b]∧(∃ xs,SqL K H1 a xs)∧(∃ ys,SqL K H1 b ys)∧R (Itz K a b) H1):=rfl
theorem xM (K:PySem.W.Frag) (ta:TA) (σ:St) (H:Hp) (R:(It→Hp→Prop)):tS K ta σ H R=(ta σ H fun vs H1=>∃ a xs,vs=[.ref a]∧SqL K H1 a xs∧R (Itv K a xs.length) H1):=rfl
theorem OB (x:V) (vs:List V) (H:Hp) (Q:VK):YD  x vs H Q=(∃ l xs i y,x=.ref l∧vs=[.int i,y]∧H l=some (.lst xs)∧0 ≤ i∧i < 2 ^ 62∧i ≤ (xs.length:Int)∧xs.length < sizeLine∧Q .non (upd H l (.lst (xs.take i.toNat ++ y :: xs.drop i.toNat)))):=rfl
theorem YK (K:PySem.W.Frag) (x:V) (y:V) (H:Hp) (Q:VK):VR K x y H Q=(∃ p q b,x=.ref p∧y=.ref q∧EqH K H 8 (.ref p) (.ref q) b∧Q (.bl (!b)) H):=rfl
theorem dM (K:PySem.W.Frag) (x:V) (y:V) (H:Hp) (Q:VK):xR K x y H Q=(∃ p q b,x=.ref p∧y=.ref q∧EqH K H 8 (.ref p) (.ref q) b∧Q (.bl b) H):=rfl
theorem FP (x_0:St) (H:Hp) (Q:(Hp→Prop)):tJ0  x_0 H Q=(Q H):=rfl
theorem CP (te:TE) (t:TJ) (σ:St) (H:Hp) (Q:(Hp→Prop)):tJI te t σ H Q=(te σ H fun v H1=>∃ i,v=.int i∧i.natAbs.log2 < 1920∧t σ H1 Q):=rfl
theorem mO (te:TE) (t:TJ) (σ:St) (H:Hp) (Q:(Hp→Prop)):tJS te t σ H Q=(te σ H fun v H1=>∃ x,v=.str x∧x.length ≤ 1000∧t σ H1 Q):=rfl
theorem bP (te:TE) (t:TJ) (σ:St) (H:Hp) (Q:(Hp→Prop)):tJR te t σ H Q=(te σ H fun v H1=>∃ x,v=.str x∧x.length ≤ 1000∧(∀ c ∈ x.cps.toList,c < 16 ^ 8)∧t σ H1 Q):=rfl
theorem iB (t:TJ) (σ:St) (H:Hp) (Q:VK):yC t σ H Q=(t σ H fun H1=>∀ y:Str,Q (.str y) H1):=rfl
theorem OD (K:PySem.W.Frag) (t:TA) (σ:St) (H:Hp) (Q:VK):ZJ K t σ H Q=(t σ H fun vs H1=>∃ x C od v,vs=[.ref x,v]∧H1 x=some (.ext (XF x C od))∧ut K C∧Q .non H1):=rfl
theorem BE (C:Addr) (sp:Sp) (t:TA) (σ:St) (H:Hp) (Q:VK):QJ C sp t σ H Q=(t σ H fun vs H1=>vs.length ≤ sizeLine∧∀ x,H1 x=none→sp (.ref x :: vs) (upd H1 x (.ext (XF x C none))) (fun v H2=>v=.non∧Q (.ref x) H2) (fun _ _ _=>False)):=rfl
theorem RF (K:PySem.W.Frag) (ta tv:TE) (f:Str) (D:Gg) (σ:St) (H:Hp):JJ K ta tv f D σ H=(tv σ H fun y H1=>ta σ H1 fun x H2=>∃ a C,x=.ref a∧H2 a=some (.ext (XF a C none))∧ut K C∧Fb K C f ∧
 ∀ dx,H2 dx=none→dx ≠ a→D.nx σ (upd (upd H2 a (.ext (XF a C (some dx)))) dx (.ext (XD dx [(f,y)])))):=rfl
theorem AC (K:PySem.W.Frag) (ta tv:TE) (f:Str) (D:Gg) (σ:St) (H:Hp):YJ K ta tv f D σ H=(tv σ H fun y H1=>ta σ H1 fun x H2=>∃ a C dx fs,x=.ref a∧H2 a=some (.ext (XF a C (some dx)))∧H2 dx=some (.ext (XD dx fs))∧ut K C∧Fb K C f∧fs.length < 1000 ∧
 D.nx σ (upd H2 dx (.ext (XD dx (Qg f y fs))))):=rfl
theorem XG (K:PySem.W.Frag) (ta:TE) (f:Str) (σ:St) (H:Hp) (Q:VK):tO K ta f σ H Q=(ta σ H fun x H1=>∃ a C dx fs v,x=.ref a∧H1 a=some (.ext (XA a C (some dx)))∧H1 dx=some (.ext (XD dx fs))∧ut K C∧Fb K C f∧fs.lookup f=some v∧Q v H1):=rfl
theorem pE (sp:Sp) (dvs:List V) (E:St→XK) (t:TA) (σ:St) (H:Hp) (Q:VK):fJ sp dvs E t σ H Q=(t σ H fun vs H1=>sp (vs ++ dvs) H1 Q (E σ)):=rfl
theorem MC (C:Addr) (m:Str) (sp:Sp) (dvs:List V) (E:St→XK) (ta:TE) (t:TA) (σ:St) (H:Hp) (Q:VK):EN C m sp dvs E ta t σ H Q=(ta σ H fun x H1=>∃ a dx fs,x=.ref a∧H1 a=some (.ins C dx fs)∧fs.lookup m=none ∧
 t σ H1 fun vs H2=>sp (x :: (vs ++ dvs)) H2 Q (E σ)):=rfl
theorem EF (K:PySem.W.Frag) (E:St→XK) (te:TE) (D:Gg) (σ:St) (H:Hp):LJ K E te D σ H=(te σ H fun v H1=>∃ x C od,v=.ref x∧H1 x=some (.ext (XF x C od))∧ut K C∧E σ (.ref C) od (upd H1 x (.ext (XA x C od)))):=rfl
theorem YG (ta:TA) (σ:St) (H:Hp) (R:(It→Hp→Prop)):dO ta σ H R=(ta σ H fun vs H1=>∃ i j:Int,vs=[.int i,.int j,.int (-1)]∧(-1073741824 ≤ i∧i < 1073741824∧-1073741824 ≤ j∧j < 1073741824)∧R (Itd i (i - j).toNat) H1):=rfl
theorem Gy (K:PySem.W.Frag) (ta:TA) (σ:St) (H:Hp) (Q:VK):CA K ta σ H Q=(ta σ H fun vs H1=>∃ a xs,vs=[.ref a]∧SqL K H1 a xs∧∀ l,H1 l=none→Q (.ref l) (upd H1 l (.lst xs.reverse))):=rfl
theorem PH (K:PySem.W.Frag) (ta:TA) (td:TE) (σ:St) (H:Hp) (Q:VK):xP K ta td σ H Q=(ta σ H fun vs H1=>td σ H1 fun y H2=>∃ l ks,vs=[.ref l]∧SqL K H2 l (List.map V.int ks)∧Q (match ks.min? with | some m=>.int m | none=>y) H2):=rfl
theorem EL (K:PySem.W.Frag) (neg:Bool) (x:V) (y:V) (H:Hp) (Q:VK):pS K neg x y H Q=(∃ p qs f,y=.ref p∧SqL K H p (List.map V.ref qs)∧(∀ q ∈ qs,EqH K H 8 (.ref q) x (f q))∧Q (.bl (if neg then !(qs.any f) else qs.any f)) H):=rfl
theorem TB (K:PySem.W.Frag) (x:V) (vs:List V) (H:Hp) (Q:VK):CM K x vs H Q=(∃ l ks k,x=.ref l∧vs=[.int k]∧SqL K H l (List.map V.int ks)∧k ∈ ks∧ks.length ≤ 1000∧Q (.int (ks.idxOf k:Nat)) H):=rfl
theorem CI (x:V) (vs:List V) (H:Hp) (Q:VK):qx  x vs H Q=(∃ d kvs,x=.ref d∧vs=[]∧H d=some (.dK kvs)∧∀ p,H p=none→Q (.ref p) (upd H p (.ext (dP p d)))):=rfl
theorem FH (x:V) (vs:List V) (H:Hp) (Q:VK):MQ  x vs H Q=(∃ d kvs,x=.ref d∧vs=[]∧H d=some (.dK kvs)∧∀ p,H p=none→Q (.ref p) (upd H p (.ext (NO p d)))):=rfl
theorem CB (K:PySem.W.Frag) (x:V) (vs:List V) (H:Hp) (Q:VK):IL K x vs H Q=(∃ l ys k j,x=.ref l∧vs=[.str k]∧SqL K H l (Rb ys)∧ys[j]? = some k∧(∀ m,m < j→ys[m]? ≠ some k)∧ys.length ≤ 1000∧Q (.int (j:Nat)) H):=rfl
theorem GN (x_0:St) (H:Hp) (acc:Str) (Q:(Str→Hp→Prop)):tF0  x_0 H acc Q=(acc.length ≤ sizeLine∧Q acc H):=rfl
theorem qN (c:Str) (t:TF) (σ:St) (H:Hp) (acc:Str) (Q:(Str→Hp→Prop)):tFC c t σ H acc Q=(acc.length + c.length ≤ sizeLine∧t σ H (acc ++ c) Q):=rfl
theorem ZO (te:TE) (t:TF) (σ:St) (H:Hp) (acc:Str) (Q:(Str→Hp→Prop)):tFI te t σ H acc Q=(te σ H fun v H1=>∃ i,v=.int i∧i.natAbs.log2 < 1920∧acc.length + (Str.ofString (toString i)).length ≤ sizeLine∧t σ H1 (acc ++ Str.ofString (toString i)) Q):=rfl
theorem NP (te:TE) (t:TF) (σ:St) (H:Hp) (acc:Str) (Q:(Str→Hp→Prop)):tFS te t σ H acc Q=(te σ H fun v H1=>∃ x,v=.str x∧x.length ≤ 1000∧acc.length + x.length ≤ sizeLine∧t σ H1 (acc ++ x) Q):=rfl
theorem DC (t:TF) (σ:St) (H:Hp) (Q:VK):ZP t σ H Q=(t σ H Str.empty fun y H1=>Q (.str y) H1):=rfl
theorem eD (q:Str) (params:Arguments) (body:Expr) (scope:Scope) (y:Str) (t:TE) (tf:TE) (ta:TA) (σ:St) (H:Hp) (Q:VK):dG q params body scope y t tf ta σ H Q=(tf σ H fun x H1=>∃ f,x=.ref f∧(∃ cl c',H1 f=some (.ext (cu f q params body scope [(y,cl)] c')))∧ta σ H1 fun vs H2=>∃ a cl c' v,vs=[a] ∧
 H2 f=some (.ext (cu f q params body scope [(y,cl)] c'))∧H2 c'=some (.ext (Sx c' q))∧H2 cl=some (.ext (EA cl v))∧t [some a,some v] (ju H2 cl) fun x H'=>Q x (upd H' cl (.ext (EA cl v)))):=rfl
noncomputable def jj (J:It) (g:TG) (tb:TS) (D:Gg) (σ:St) (H:Hp):Prop:=∃ W:Nat→Nat→St→Hp→Prop,(∃ m,W 0 m σ H)∧∀ i m σ H,W i m σ H →
 (J.stop i H∧D.nx σ H)∨(J.go i H∧∃ N:St→Hp→Prop,(∀ σ' H',N σ' H'→∃ m',m' < m∧W (i + 1) m' σ' H')∧∀ x H',J.yld i H x H'→g x σ H' fun σ2 H2=>tb { D with nx:=N,ct:=N,bk:=D.nx } σ2 H2)
theorem QK (wi:TI) (g:TG) (tb:TS) (D:Gg) (σ:St) (H:Hp):gR wi g tb D σ H=wi σ H fun J H1=>jj J g tb D σ H1:=rfl
noncomputable def Pd (J:It) (g:TG) (tc:TT) (te:TE) (σb:St) (Q:VK) (H:Hp):Prop:=∃ W:Nat→Nat→List V→Hp→Prop,(∃ m,W 0 m [] H)∧Xw J g tc te σb Q W
theorem vM (K:PySem.W.Frag) (ta:TE) (f:Str) (σ:St) (H:Hp) (Q:VK):dR K ta f σ H Q=(ta σ H fun x H1=>∃ a v,x=.ref a∧wj K H1 a f v∧Q v H1):=by
 unfold dR wj
 congr 1
 funext x H1
 apply propext
 constructor
 ·rintro ⟨a,C,dx,fs,v,h1,h2,h3,h4,h5,h6⟩;exact ⟨a,v,h1,⟨C,dx,fs,h2,h3,h4,h5⟩,h6⟩
 ·rintro ⟨a,v,h1,⟨C,dx,fs,h2,h3,h4,h5⟩,h6⟩;exact ⟨a,C,dx,fs,v,h1,h2,h3,h4,h5,h6⟩
theorem XE (wi:TI) (g:TG) (tc:TT) (te:XK→TE) (sel:List (Option Nat)) (E:St→XK) (σ:St) (H:Hp) (Q:VK):DN wi g tc te sel E σ H Q=wi σ H fun J H1=>Pd J g tc (te (E σ)) (blk sel σ) Q H1:=rfl
theorem lH (wi:TI) (g:TG) (tc:TT) (te:TE) (sel:List (Option Nat)) (σ:St) (H:Hp) (Q:VK):JM wi g tc te sel σ H Q=wi σ H fun J H1=>Pd J g tc te (blk sel σ) Q H1:=rfl
theorem iH (ta:TA) (σ:St) (H:Hp) (R:It→Hp→Prop):BO ta σ H R=(ta σ H fun vs H1=>∃ j:Int,vs=[.int j]∧-4611686018427387904 ≤ j∧j < 4611686018427387904∧R (Itr 0 j.toNat) H1):=rfl
theorem MH (ta:TA) (σ:St) (H:Hp) (R:It→Hp→Prop):NQ ta σ H R=(ta σ H fun vs H1=>∃ i j:Int,vs=[.int i,.int j]∧(-4611686018427387904 ≤ i∧i < 4611686018427387904∧-4611686018427387904 ≤ j∧j < 4611686018427387904)∧R (Itr i (j - i).toNat) H1):=rfl
theorem aN (sel:List (Option Nat)) (σ:St):blk sel σ=sel.map fun o=>o.bind fun j=>(σ[j]?).join:=rfl
theorem Ac {c:TT} {t u:TS} {D:Gg} {σ:St} {H:Hp} (b:Bool) (hc:∀ Q:Bool→Hp→Prop,Q b H→c σ H Q) (h1:b=true→t D σ H) (h2:b=false→u D σ H):BQ c t u D σ H:=by
 refine hc _ ?_
 cases b with
 | true=>exact h1 rfl
 | false=>exact h2 rfl
theorem Em {c:TT} {t u:TS} {D:Gg} {σ:St} {H:Hp} (R:Bool→Hp→Prop) (hc:∀ Q:Bool→Hp→Prop,(∀ b H',R b H'→Q b H')→c σ H Q) (h1:∀ H',R true H'→t D σ H') (h2:∀ H',R false H'→u D σ H'):BQ c t u D σ H:=by
 refine hc _ fun b H' r=>?_
 cases b with
 | true=>exact h1 H' r
 | false=>exact h2 H' r
theorem fc {t:TS} {D:Gg} {σ:St} {H:Hp} (R:St→Hp→Prop) (h:∀ D':Gg,(∀ σ H,R σ H→D'.nx σ H)→D'.rt=D.rt→D'.bk=D.bk→D'.ct=D.ct→t D' σ H) (hR:∀ σ H,R σ H→D.nx σ H):t D σ H:=h D hR rfl rfl rfl
theorem iN {te:TE} {D:Gg} {σ:St} {H:Hp} (v:V) (hc:∀ Q:VK,Q v H→te σ H Q) (h:D.rt v H):XQ te D σ H:=hc _ h
theorem xr (x y:Str):(x ++ y).length=x.length + y.length:=by
 show (x.cps ++ y.cps).size=_
 rw [Array.size_append];rfl
theorem jj.range {lo:Int} {n:Nat} {g:TG} {tb:TS} {D:Gg} {σ:St} {H:Hp} (Pv:Nat→St→Hp→Prop) (h0:Pv 0 σ H)
  (hs:∀ i σ H,i < n→Pv i σ H→g (.int (lo + i)) σ H fun σ2 H2=>tb { D with nx:=Pv (i + 1),ct:=Pv (i + 1),bk:=D.nx } σ2 H2) (hd:∀ σ H,Pv n σ H→D.nx σ H):jj (Itr lo n) g tb D σ H:=XC Pv h0 hs hd
theorem jj.list {K:PySem.W.Frag} {a:Addr} {xs:List V} {g:TG} {tb:TS} {D:Gg} {σ:St} {H:Hp} (Pv:Nat→St→Hp→Prop) (h0:Pv 0 σ H) (hl:∀ i σ H,i ≤ xs.length→Pv i σ H→SqL K H a xs)
  (hs:∀ i x σ H,xs[i]? = some x→Pv i σ H→g x σ H fun σ2 H2=>tb { D with nx:=Pv (i + 1),ct:=Pv (i + 1),bk:=D.nx } σ2 H2) (hd:∀ σ H,Pv xs.length σ H→D.nx σ H):jj (Itl K a) g tb D σ H:=bI Pv h0 hl hs hd
theorem jj.its {xs:List V} {g:TG} {tb:TS} {D:Gg} {σ:St} {H:Hp} (Pv:Nat→St→Hp→Prop) (h0:Pv 0 σ H)
  (hs:∀ i x σ H,xs[i]? = some x→Pv i σ H→g x σ H fun σ2 H2=>tb { D with nx:=Pv (i + 1),ct:=Pv (i + 1),bk:=D.nx } σ2 H2) (hd:∀ σ H,Pv xs.length σ H→D.nx σ H):jj (Its xs) g tb D σ H:=BK Pv h0 hs hd
theorem Pd.list {K:PySem.W.Frag} {a:Addr} {xs:List V} {g:TG} {tc:TT} {te:TE} {σb:St} {Q:VK} {H:Hp} (Pv:Nat→List V→Hp→Prop) (hz:xs.length ≤ sizeLine) (h0:Pv 0 [] H) (hl:∀ i ys H,i ≤ xs.length→Pv i ys H→SqL K H a xs∧ys.length ≤ i)
  (hs:∀ i x ys H,xs[i]? = some x→Pv i ys H→Lg Pv g tc te σb i x ys H) (hd:∀ ys H,Pv xs.length ys H→∀ p,H p=none→Q (.ref p) (upd H p (.lst ys))):Pd (Itl K a) g tc te σb Q H:=LF Pv hz h0 hl hs hd
theorem Pd.its {xs:List V} {g:TG} {tc:TT} {te:TE} {σb:St} {Q:VK} {H:Hp} (Pv:Nat→List V→Hp→Prop) (hz:xs.length ≤ sizeLine) (h0:Pv 0 [] H) (hl:∀ i ys H,i ≤ xs.length→Pv i ys H→ys.length ≤ i)
  (hs:∀ i x ys H,xs[i]? = some x→Pv i ys H→Lg Pv g tc te σb i x ys H) (hd:∀ ys H,Pv xs.length ys H→∀ p,H p=none→Q (.ref p) (upd H p (.lst ys))):Pd (Its xs) g tc te σb Q H:=bJ Pv hz h0 hl hs hd
theorem Pd.range {lo:Int} {n:Nat} {g:TG} {tc:TT} {te:TE} {σb:St} {Q:VK} {H:Hp} (Pv:Nat→List V→Hp→Prop) (hz:n ≤ sizeLine) (h0:Pv 0 [] H) (hl:∀ i ys H,i ≤ n→Pv i ys H→ys.length ≤ i)
  (hs:∀ i ys H,i < n→Pv i ys H→Lg Pv g tc te σb i (.int (lo + i)) ys H) (hd:∀ ys H,Pv n ys H→∀ p,H p=none→Q (.ref p) (upd H p (.lst ys))):Pd (Itr lo n) g tc te σb Q H:=cB Pv hz h0 hl hs hd
theorem Uu {α β:Type} {xs:List α} {i:Nat} {x:α} (f:α→β) (h:xs[i]? = some x):(xs.take (i + 1)).map f=(xs.take i).map f ++ [f x]:=by
 rw [List.take_add_one,h,List.map_append];rfl
theorem Pd.its_map {xs:List V} {g:TG} {te:TE} {σb:St} {Q:VK} {H:Hp} (f:V→V) (hz:xs.length ≤ sizeLine) (hs:∀ (i:Nat) (x:V) (N:V→Hp→Prop),xs[i]? = some x→N (f x) H→g x σb H fun σ2 H2=>Sub σb σ2∧te σ2 H2 N)
  (hd:∀ p,H p=none→Q (.ref p) (upd H p (.lst (xs.map f)))):Pd (Its xs) g Qy te σb Q H:=by
 refine Pd.its (fun i ys H'=>H'=H∧ys=(xs.take i).map f) hz ⟨rfl,rfl⟩ (fun i ys H' hi ⟨_,e⟩=>?_) (fun i x ys H' hx ⟨e1,e2⟩ N hN=>?_) (fun ys H' ⟨e1,e2⟩ p hp=>?_)
 ·rw [e,List.length_map,List.length_take];omega
 ·subst e1
  exact hs i x (fun y H4=>N (ys ++ [y]) H4) hx (hN _ _ ⟨rfl,by rw [e2,Uu f hx]⟩)
 ·subst e1
  rw [e2,List.take_length]
  exact hd p hp
theorem Pd.range_map {lo:Int} {n:Nat} {g:TG} {te:TE} {σb:St} {Q:VK} {H:Hp} (f:Nat→V) (hz:n ≤ sizeLine) (hs:∀ (i:Nat) (N:V→Hp→Prop),i < n→N (f i) H→g (.int (lo + i)) σb H fun σ2 H2=>Sub σb σ2∧te σ2 H2 N)
  (hd:∀ p,H p=none→Q (.ref p) (upd H p (.lst ((List.range n).map f)))):Pd (Itr lo n) g Qy te σb Q H:=by
 refine Pd.range (fun i ys H'=>H'=H∧ys=(List.range i).map f) hz ⟨rfl,rfl⟩ (fun i ys H' hi ⟨_,e⟩=>?_) (fun i ys H' hi ⟨e1,e2⟩ N hN=>?_) (fun ys H' ⟨e1,e2⟩ p hp=>?_)
 ·rw [e,List.length_map,List.length_range];exact Nat.le_refl _
 ·subst e1
  exact hs i (fun y H4=>N (ys ++ [y]) H4) hi (hN _ _ ⟨rfl,by rw [e2,List.range_succ,List.map_append];rfl⟩)
 ·subst e1
  rw [e2]
  exact hd p hp
theorem Pd.list_mk {K:PySem.W.Frag} {a:Addr} {xs:List V} {g:TG} {te:TE} {σb:St} {Q:VK} {H:Hp} (f:V→HO) (hl:SqL K H a xs) (hz:xs.length ≤ sizeLine) (hn:∀ x,noT (f x)=true)
  (hs:∀ (i:Nat) (x:V) (H1:Hp) (N:V→Hp→Prop),xs[i]? = some x→Zb H H1→(NoT H→NoT H1)→(∀ q,H1 q=none→N (.ref q) (upd H1 q (f x)))→g x σb H1 fun σ2 H2=>Sub σb σ2∧te σ2 H2 N)
  (hd:∀ (qs:List Addr) (H1:Hp),Zb H H1→(NoT H→NoT H1)→qs.length=xs.length→(∀ (j:Nat) (q:Addr) (x:V),qs[j]? = some q→xs[j]? = some x→H1 q=some (f x)∧H q=none)→∀ p,H1 p=none→Q (.ref p) (upd H1 p (.lst (qs.map V.ref)))):Pd (Itl K a) g Qy te σb Q H:=by
 refine Pd.list (fun i ys H'=>∃ qs:List Addr,ys=qs.map V.ref∧qs.length=i∧Zb H H'∧(NoT H→NoT H')∧∀ (j:Nat) (q:Addr) (x:V),qs[j]? = some q→xs[j]? = some x→H' q=some (f x)∧H q=none) hz
  ⟨[],rfl,rfl,Zb.refl H,id,fun j q x h _=>by simp at h⟩ ?_ ?_ ?_
 ·rintro i ys H' hi ⟨qs,e,e2,sm,_,_⟩
  exact ⟨hl.same sm,by rw [e,List.length_map];omega⟩
 ·rintro i x ys H' hx ⟨qs,e1,e2,sm,nt,al⟩ N hN
  refine hs i x H' (fun y H4=>N (ys ++ [y]) H4) hx sm nt fun q hq=>hN _ _ ⟨qs ++ [q],by rw [e1,List.map_append];rfl,by rw [List.length_append,e2];rfl,sm.updN (sm.free hq),fun n=>(nt n).upd (hn x),fun j q' x' h1 h2=>?_⟩
  by_cases hj:j < qs.length
  ·rw [List.getElem?_append_left hj] at h1
   obtain ⟨z1,z2⟩:=al j q' x' h1 h2
   exact ⟨by rw [pb (ub z1 hq)];exact z1,z2⟩
  ·rw [List.getElem?_append_right (by omega)] at h1
   have hj0:j - qs.length=0:=by
    cases hh:j - qs.length with
    | zero=>rfl
    | succ n=>rw [hh] at h1;simp at h1
   rw [hj0] at h1
   have e3:q=q':=by simpa using h1
   subst e3
   have e4:j=i:=by omega
   subst e4
   rw [hx] at h2
   cases h2
   exact ⟨fb,sm.free hq⟩
 ·rintro ys H' ⟨qs,e1,e2,sm,nt,al⟩ p hp
  subst e1
  exact hd qs H' sm nt e2 al p hp
theorem jj.of {J:It} {n:Nat} {g:TG} {tb:TS} {D:Gg} {σ:St} {H:Hp} (Pv:Nat→St→Hp→Prop) (h0:Pv 0 σ H) (hgo:∀ i σ H,i < n→Pv i σ H→J.go i H) (hst:∀ σ H,Pv n σ H→J.stop n H)
  (hs:∀ i σ H x H',i < n→Pv i σ H→J.yld i H x H'→g x σ H' fun σ2 H2=>tb { D with nx:=Pv (i + 1),ct:=Pv (i + 1),bk:=D.nx } σ2 H2) (hd:∀ σ H,Pv n σ H→D.nx σ H):jj J g tb D σ H:=by
 refine ⟨fun i m σ H=>m=n - i∧i ≤ n∧Pv i σ H,⟨n,by simp,Nat.zero_le _,h0⟩,?_⟩
 rintro i m σ H ⟨rfl,hi,p⟩
 by_cases hlt:i < n
 ·exact .inr ⟨hgo i σ H hlt p,Pv (i + 1),fun σ' H' p'=>⟨n - (i + 1),by omega,rfl,hlt,p'⟩,fun x H' y=>hs i σ H x H' hlt p y⟩
 ·have e:i=n:=by omega
  subst e
  exact .inl ⟨hst σ H p,hd σ H p⟩
theorem Pd.of {J:It} {n:Nat} {g:TG} {tc:TT} {te:TE} {σb:St} {Q:VK} {H:Hp} (Pv:Nat→List V→Hp→Prop) (hz:n ≤ sizeLine) (h0:Pv 0 [] H) (hgo:∀ i ys H,i < n→Pv i ys H→J.go i H) (hst:∀ ys H,Pv n ys H→J.stop n H) (hl:∀ i ys H,i < n→Pv i ys H→ys.length ≤ i)
  (hs:∀ i ys H x H',i < n→Pv i ys H→J.yld i H x H'→Lg Pv g tc te σb i x ys H') (hd:∀ ys H,Pv n ys H→∀ p,H p=none→Q (.ref p) (upd H p (.lst ys))):Pd J g tc te σb Q H:=by
 refine ⟨fun i m ys H=>m=n - i∧i ≤ n∧Pv i ys H,⟨n,by simp,Nat.zero_le _,h0⟩,?_⟩
 rintro i m ys H ⟨rfl,hi,p⟩
 by_cases hlt:i < n
 ·have hyl:=hl i ys H hlt p
  refine .inr ⟨hgo i ys H hlt p,by omega,fun x H' y=>?_⟩
  exact hs i ys H x H' hlt p y (fun ys' H'=>∃ m',m' < n - i∧m'=n - (i + 1)∧i + 1 ≤ n∧Pv (i + 1) ys' H') fun ys' H' r=>⟨n - (i + 1),by omega,rfl,hlt,r⟩
 ·have e:i=n:=by omega
  subst e
  exact .inl ⟨hst ys H p,hd ys H p⟩
section
variable {K:PySem.W.Frag} {a b:Addr} {xs ys:List V} {g:TG} {tb:TS} {D:Gg} {σ σb:St} {H:Hp} {tc:TT} {te:TE} {Q:VK}
theorem jj.enum (Pv:Nat→St→Hp→Prop) (h0:Pv 0 σ H) (hl:∀ i σ H,i ≤ xs.length→Pv i σ H→SqL K H a xs)
  (hs:∀ i x σ H p,xs[i]? = some x→Pv i σ H→H p=none→g (.ref p) σ (upd H p (.tup [.int i,x])) fun σ2 H2=>tb { D with nx:=Pv (i + 1),ct:=Pv (i + 1),bk:=D.nx } σ2 H2) (hd:∀ σ H,Pv xs.length σ H→D.nx σ H):jj (Ite K a) g tb D σ H:=by
 refine jj.of (n:=xs.length) Pv h0 (fun i σ H hi p=>⟨xs,xs[i],hl i σ H (Nat.le_of_lt hi) p,by simp [hi]⟩) (fun σ H p=>⟨xs,hl _ σ H (Nat.le_refl _) p,Nat.le_refl _⟩) (fun i σ H v H' hi p y=>?_) hd
 obtain ⟨q,x,hq,rfl,hx,rfl⟩:=y
 exact hs i x σ H q (hx xs (hl i σ H (Nat.le_of_lt hi) p)) p hq
theorem jj.zip (Pv:Nat→St→Hp→Prop) (h0:Pv 0 σ H) (hl:∀ i σ H,i ≤ xs.length→Pv i σ H→SqL K H a xs∧SqL K H b ys) (n:Nat) (hn:n=min xs.length ys.length)
  (hs:∀ i x y σ H p,xs[i]? = some x→ys[i]? = some y→Pv i σ H→H p=none→g (.ref p) σ (upd H p (.tup [x,y])) fun σ2 H2=>tb { D with nx:=Pv (i + 1),ct:=Pv (i + 1),bk:=D.nx } σ2 H2) (hd:∀ σ H,Pv n σ H→D.nx σ H):jj (Itz K a b) g tb D σ H:=by
 subst hn
 refine jj.of (n:=min xs.length ys.length) Pv h0 (fun i σ H hi p=>?_) (fun σ H p=>?_) (fun i σ H v H' hi p y=>?_) hd
 ·obtain ⟨z1,z2⟩:=hl i σ H (by omega) p
  exact ⟨xs,ys,xs[i],ys[i],z1,z2,by rw [List.getElem?_eq_getElem (by omega)],by rw [List.getElem?_eq_getElem (by omega)]⟩
 ·obtain ⟨z1,z2⟩:=hl _ σ H (by omega) p
  exact ⟨xs,ys,z1,z2,by omega⟩
 ·obtain ⟨q,x,y,hq,rfl,hx,hy,rfl⟩:=y
  obtain ⟨z1,z2⟩:=hl i σ H (by omega) p
  exact hs i x y σ H q (hx xs z1) (hy ys z2) p hq
theorem Pd.enum (Pv:Nat→List V→Hp→Prop) (hz:xs.length ≤ sizeLine) (h0:Pv 0 [] H) (hl:∀ i ys H,i ≤ xs.length→Pv i ys H→SqL K H a xs∧ys.length ≤ i)
  (hs:∀ i x ys H p,xs[i]? = some x→Pv i ys H→H p=none→Lg Pv g tc te σb i (.ref p) ys (upd H p (.tup [.int i,x]))) (hd:∀ ys H,Pv xs.length ys H→∀ p,H p=none→Q (.ref p) (upd H p (.lst ys))):Pd (Ite K a) g tc te σb Q H:=by
 refine Pd.of (n:=xs.length) Pv hz h0 (fun i ys H hi p=>⟨xs,xs[i],(hl i ys H (Nat.le_of_lt hi) p).1,by simp [hi]⟩) (fun ys H p=>⟨xs,(hl _ ys H (Nat.le_refl _) p).1,Nat.le_refl _⟩) (fun i ys H hi p=>(hl i ys H (Nat.le_of_lt hi) p).2) (fun i zs H v H' hi p y=>?_) hd
 obtain ⟨q,x,hq,rfl,hx,rfl⟩:=y
 exact hs i x zs H q (hx xs (hl i zs H (Nat.le_of_lt hi) p).1) p hq
theorem vI {i j:Nat} {p:Addr} {x y:V} {R:St→Hp→Prop} (h:SqT K H p [x,y]) (q:R ((σ.set i (some x)).set j (some y)) H):OP K 2 (bC (Lx i) (bC (Lx j) gQ)) (.ref p) σ H R:=
 ⟨p,_,rfl,h,rfl,x,_,rfl,y,_,rfl,rfl,q⟩
theorem xj {i j:Nat} {p:Addr} {x y:V} {R:St→Hp→Prop} (q:R ((σ.set i (some x)).set j (some y)) (upd H p (.tup [x,y]))):OP K 2 (bC (Lx i) (bC (Lx j) gQ)) (.ref p) σ (upd H p (.tup [x,y])) R:=
 vI (.inl (.inl fb)) q
end
theorem Sub.name2 {r:St} {v w:Option V}:Sub (none :: none :: r) (v :: w :: r):=by
 refine ⟨rfl,fun i u h=>?_⟩
 match i with
 | 0=>cases h
 | 1=>cases h
 | i + 2=>exact h
theorem Sub.name3 {r:St} {v w z:Option V}:Sub (none :: none :: none :: r) (v :: w :: z :: r):=by
 refine ⟨rfl,fun i u h=>?_⟩
 match i with
 | 0=>cases h
 | 1=>cases h
 | 2=>cases h
 | i + 3=>exact h
theorem Pd.list_zs {K:PySem.W.Frag} {a:Addr} {xs zs:List V} {g:TG} {te:TE} {σb:St} {Q:VK} {H:Hp} (hl:SqL K H a xs) (hz:xs.length ≤ sizeLine) (he:zs.length=xs.length)
  (hs:∀ (i:Nat) (x z:V) (N:V→Hp→Prop),xs[i]? = some x→zs[i]? = some z→N z H→g x σb H fun σ2 H2=>Sub σb σ2∧te σ2 H2 N) (hd:∀ p,H p=none→Q (.ref p) (upd H p (.lst zs))):Pd (Itl K a) g Qy te σb Q H:=by
 refine Pd.list (fun i ys H'=>H'=H∧ys=zs.take i) hz ⟨rfl,rfl⟩ (fun i ys H' hi ⟨e0,e⟩=>?_) (fun i x ys H' hx ⟨e1,e2⟩ N hN=>?_) (fun ys H' ⟨e1,e2⟩ p hp=>?_)
 ·subst e0
  exact ⟨hl,by rw [e,List.length_take];omega⟩
 ·subst e1
  have hi:i < zs.length:=by rw [he];exact (List.getElem?_eq_some_iff.mp hx).1
  have hz':zs[i]? = some zs[i]:=List.getElem?_eq_getElem hi
  exact hs i x zs[i] (fun y H4=>N (ys ++ [y]) H4) hx hz' (hN _ _ ⟨rfl,by rw [e2,List.take_add_one,hz'];rfl⟩)
 ·subst e1
  rw [e2,← he,List.take_length]
  exact hd p hp
theorem Pd.tup_zs {K:PySem.W.Frag} {a:Addr} {xs zs:List V} {g:TG} {te:TE} {σb:St} {Q:VK} {H:Hp} (hl:SqT K H a xs) (hz:xs.length ≤ sizeLine) (he:zs.length=xs.length)
  (hs:∀ (i:Nat) (x z:V) (N:V→Hp→Prop),xs[i]? = some x→zs[i]? = some z→N z H→g x σb H fun σ2 H2=>Sub σb σ2∧te σ2 H2 N) (hd:∀ p,H p=none→Q (.ref p) (upd H p (.lst zs))):Pd (Itt K a) g Qy te σb Q H:=by
 refine VG (xs:=xs) (fun i ys H'=>H'=H∧ys=zs.take i) hz ⟨rfl,rfl⟩ (fun i ys H' hi ⟨e0,e⟩=>?_) (fun i x ys H' hx ⟨e1,e2⟩ N hN=>?_) (fun ys H' ⟨e1,e2⟩ p hp=>?_)
 ·subst e0
  exact ⟨hl,by rw [e,List.length_take];omega⟩
 ·subst e1
  have hi:i < zs.length:=by rw [he];exact (List.getElem?_eq_some_iff.mp hx).1
  have hz':zs[i]? = some zs[i]:=List.getElem?_eq_getElem hi
  exact hs i x zs[i] (fun y H4=>N (ys ++ [y]) H4) hx hz' (hN _ _ ⟨rfl,by rw [e2,List.take_add_one,hz'];rfl⟩)
 ·subst e1
  rw [e2,← he,List.take_length]
  exact hd p hp
theorem Sub.name {r:St} {v:Option V}:Sub (none :: r) (v :: r):=by
 refine ⟨rfl,fun i w h=>?_⟩
 cases i with
 | zero=>cases h
 | succ i=>exact h
end L2
local macro_rules | `(tactic| walk_at "RD")=>`(tactic| ((try dsimp only [L2.vy,L2.QQ,L2.Cx.nox,L2.Cx.wish,L2.Cx.block,L2.Cx.tr,L2.Cx.hn]);(try simp only [L2.zM,L2.fR,L2.PL,L2.WL,L2.tK,L2.DL,L2.lM,L2.kH,L2.aR,L2.EK,L2.tP,L2.EM,L2.NI,L2.dL,L2.pH,L2.MN,L2.Rk,L2.Hb,L2.WE,L2.XH,L2.xI,L2.GM,L2.QH,L2.jD,L2.Ak,L2.fM,L2.SG,L2.kM,L2.jL,L2.UK,L2.zL,L2.VM,L2.CH,L2.TH,L2.wL,L2.uN,L2.oO,L2.CQ,L2.vN,L2.xQ,L2.AO,L2.VN,L2.AH,L2.ED,L2.uM,L2.HL,L2.ZB,L2.QM,L2.UL,L2.xL,L2.nH,L2.CK,L2.cL,L2.qH,L2.gH,L2.lI,L2.CF,L2.zP,L2.KB,L2.zH,L2.aQ,L2.eL,L2.FK,L2.SH,L2.RK,L2.SL,L2.fL,L2.RP,L2.mI,L2.TL,L2.CN,L2.XL,L2.pN,L2.oB,L2.JB,L2.OL,L2.CD,L2.kz,L2.cE,L2.GK,L2.HK,L2.vH,L2.bL,L2.RA,L2.yH,L2.jI,L2.zI,L2.KF,L2.QE,L2.RI,L2.ME,L2.DF,L2.UD,L2.JC,L2.XI,L2.PK,L2.nM,L2.uH,L2.ND,L2.WB,L2.cD,L2.fE,L2.GI,L2.yK,L2.xM,L2.OB,L2.YK,L2.dM,L2.FP,L2.CP,L2.mO,L2.bP,L2.iB,L2.OD,L2.BE,L2.RF,L2.AC,L2.XG,L2.pE,L2.MC,L2.EF,L2.YG,L2.Gy,L2.PH,L2.EL,L2.TB,L2.CI,L2.FH,L2.CB,L2.GN,L2.qN,L2.ZO,L2.NP,L2.DC,L2.eD,L2.QK,L2.lH,L2.iH,L2.MH,L2.vM,L2.tM,L2.pL,L2.XE,L2.yL,L2.MK,L2.start,L2.aN,List.map_cons,List.map_nil,Option.bind_none,Option.bind_some,Option.join_some,Option.join_none,List.length_cons,List.length_nil,Nat.reduceAdd,Nat.reduceSub,Nat.zero_add,List.replicate,List.cons_append,List.nil_append,List.append_nil,List.set_cons_zero,List.set_cons_succ,List.getElem?_cons_zero,List.getElem?_cons_succ,Option.some.injEq,L2.V.int.injEq,L2.V.bl.injEq,L2.V.str.injEq,L2.V.ref.injEq,L2.V.ty.injEq,exists_eq_left',exists_eq_left,exists_and_left,List.cons.injEq,and_true,true_and,and_assoc,Int.zero_add,reduceCtorEq,false_and,exists_false,and_false,ite_true,ite_false,if_true,if_false,Bool.false_eq_true,L2.bQ,L2.tyV,false_or,or_false,Bool.not_true,Bool.not_false,decide_true,decide_false])))
local macro_rules | `(tactic| walk_at "F")=>`(tactic| exact ⟨rfl,rfl,rfl,by decide +kernel,rfl,by decide +kernel,by decide +kernel⟩)
namespace My
open PySem L2
noncomputable def top (i:Nat):Stmt:=PySem.Challenge.pw_lampway_k47_whole_queues_by_rounds.main.body.getD i (.Pass ⟨0,0,0,0⟩)
noncomputable abbrev qA:Stmt:=top 2
theorem xD:xb ["plan","name","turn"] ["plan","name","turn"] (jb qA):=(by walk_at "F")
noncomputable abbrev kK:Stmt:=top 3
theorem KL:xb ["plan","name","turn"] ["plan","name","turn"] (jb kK):=(by walk_at "F")
noncomputable abbrev ac:Stmt:=top 5
theorem Xo:xb ["comings","kept"] ["comings"] (jb ac):=(by walk_at "F")
noncomputable abbrev sj:Stmt:=top 6
theorem Mb:xb ["plan","name","comings","standing","turns","way","coming","turn"] ["plan","name","comings","standing","turns"] (jb sj):=(by walk_at "F")
noncomputable abbrev ZC:Stmt:=top 7
theorem Pp:xb ["plan","name","comings","first"] ["plan","name","comings"] (jb ZC):=(by walk_at "F")
noncomputable abbrev lF:Stmt:=top 8
theorem Of:xb ["plan","name","comings","turn","rounds","rest","first","standing"] ["plan","name","comings","turn"] (jb lF):=(by walk_at "F")
noncomputable abbrev Ew:Stmt:=top 10
theorem YA:xb ["plan","name","comings","coming","waits","standing","turn"] ["plan","name","comings"] (jb Ew):=(by walk_at "F")
noncomputable abbrev Dy:Stmt:=top 23
theorem pI:xb ["text"] ["text"] (jb Dy):=(by walk_at "F")
noncomputable abbrev Oj:Stmt:=top 24
theorem Lv:xb ["word","signs","most"] ["word","signs","most"] (jb Oj):=(by walk_at "F")
noncomputable abbrev Pq:Stmt:=top 25
theorem Fw:xb ["word","most_figures"] ["word","most_figures"] (jb Pq):=(by walk_at "F")
noncomputable abbrev tw:Stmt:=top 26
theorem Du:xb ["word","low","high","number"] ["word","low","high"] (jb tw):=(by walk_at "F")
noncomputable abbrev ix:Stmt:=top 27
theorem gB:xb ["word"] ["word"] (jb ix):=(by walk_at "F")
noncomputable abbrev wq:Stmt:=top 30
theorem AB:xb ["text"] ["text"] (jb wq):=(by walk_at "F")
noncomputable abbrev Zq:Stmt:=top 44
theorem Mo:xb ["reader","places"] ["reader"] (jb Zq):=(by walk_at "F")
noncomputable abbrev Ug:Stmt:=top 45
theorem oj:xb ["reader","ways","name"] ["reader","ways"] (jb Ug):=(by walk_at "F")
noncomputable abbrev Ju:Stmt:=top 46
theorem Ly:xb ["reader","places","start"] ["reader","places","start"] (jb Ju):=(by walk_at "F")
noncomputable abbrev Cu:Stmt:=top 47
theorem cz:xb ["sort","name","start","end","off","near","least"] ["sort","name","start","end","off","near","least"] (jb Cu):=(by walk_at "F")
noncomputable abbrev yu:Stmt:=top 48
theorem se:xb ["reader","places","ways","sort","name","start","end","off","near","least"] ["reader","places","ways"] (jb yu):=(by walk_at "F")
noncomputable abbrev Kj:Stmt:=top 49
theorem Ud:xb ["text","rows","places","ways","reader"] ["text"] (jb Kj):=(by walk_at "F")
noncomputable abbrev DA:Stmt:=top 51
theorem Bx:xb ["places","way","place","steps"] ["places","way","place"] (jb DA):=(by walk_at "F")
noncomputable abbrev So:Stmt:=top 52
theorem Av:xb ["places","way","second"] ["places","way","second"] (jb So):=(by walk_at "F")
noncomputable abbrev cK:Stmt:=top 53
theorem jz:xb ["crossing","one","other","way","second"] ["crossing","one","other"] (jb cK):=(by walk_at "F")
noncomputable abbrev rP:Stmt:=top 54
theorem TD:xb ["crossing","one","other","way","second"] ["crossing","one","other"] (jb rP):=(by walk_at "F")
noncomputable abbrev Il:Stmt:=top 56
theorem Md:xb ["marks","size","steps","untils","place"] ["marks"] (jb Il):=(by walk_at "F")
noncomputable abbrev Cl:Stmt:=top 57
theorem yr:xb ["marks"] ["marks"] (jb Cl):=(by walk_at "F")
noncomputable abbrev Tn:Stmt:=top 60
theorem Fy:xb ["spans","name"] ["spans","name"] (jb Tn):=(by walk_at "F")
noncomputable abbrev yj:Stmt:=top 61
theorem ff:xb ["size","spans","name","marks","begin","turns","step"] ["size","spans","name"] (jb yj):=(by walk_at "F")
noncomputable abbrev uD:Stmt:=top 62
theorem gm:xb ["way","size","spans","shown","begin","turns","step"] ["way","size","spans"] (jb uD):=(by walk_at "F")
noncomputable abbrev Ml:Stmt:=top 63
theorem ak:xb ["crossing","spans","name"] ["crossing","spans"] (jb Ml):=(by walk_at "F")
noncomputable abbrev Dd:Stmt:=top 64
theorem Kc:xb ["size","spans","place","name","begin","turns","others"] ["size","spans","place"] (jb Dd):=(by walk_at "F")
noncomputable abbrev Yk:Stmt:=top 65
theorem Tc:xb ["crossing","size","spans","place","span","name","begin","turns","way","needed"] ["crossing","size","spans"] (jb Yk):=(by walk_at "F")
noncomputable abbrev gi:Stmt:=top 66
theorem de:xb ["crossing","one","other","since_one","since_other","between","turn","steps"] ["crossing","one","other","since_one","since_other"] (jb gi):=(by walk_at "F")
noncomputable abbrev Nl:Stmt:=top 67
theorem pe:xb ["crossing","size","spans","since","name","one","other"] ["crossing","size","spans"] (jb Nl):=(by walk_at "F")
noncomputable abbrev am:Stmt:=top 68
theorem kg:xb ["crossing","size","rows","spans","name","begin","turns"] ["crossing","size","rows"] (jb am):=(by walk_at "F")
noncomputable abbrev pq:Stmt:=top 70
theorem Cj:xb ["_law_script","_law_k","_law_many","_law_cell","_law_seed"] ["_law_script","_law_k","_law_many"] (jb pq):=(by walk_at "F")
noncomputable abbrev Sl:Stmt:=top 71
theorem Yj:xb ["_law_places","_law_ways","_law_rows","_law_way_here"] ["_law_places","_law_ways"] (jb Sl):=(by walk_at "F")
noncomputable abbrev Io:Stmt:=top 72
theorem kd:xb ["_law_script","_law_way_here","_law_size","_law_idle","_law_many","_law_begin","_law_part","_law_spans_here","_law_k","_law_most","_law_turns"] ["_law_script","_law_way_here","_law_size"] (jb Io):=(by walk_at "F")
noncomputable abbrev nu:Stmt:=top 73
theorem Nq:xb ["_law_script","_law_sort"] ["_law_script"] (jb nu):=(by walk_at "F")
noncomputable abbrev tm:Stmt:=top 74
theorem qg:xb ["_law_script","_law_way_here","_law_size","_law_other","_law_rows","_law_names"] ["_law_script","_law_way_here","_law_size"] (jb tm):=(by walk_at "F")
noncomputable abbrev js:Stmt:=top 75
theorem qk:xb ["_law_script","_law_way_here","_law_size","_law_turn","_law_begin","_law_turns"] ["_law_script","_law_way_here","_law_size","_law_turn"] (jb js):=(by walk_at "F")
noncomputable abbrev Zk:Stmt:=top 76
theorem Rc:xb ["_law_script","_law_size","_law_most","_law_rare","_law_row","_law_k","_law_many"] ["_law_script","_law_size"] (jb Zk):=(by walk_at "F")
noncomputable abbrev Dn:Stmt:=top 77
theorem Le:xb ["_law_plan_here","_law_comings_here","_law_found","e"] ["_law_plan_here","_law_comings_here"] (jb Dn):=(by walk_at "F")
noncomputable abbrev rO:Stmt:=top 78
theorem rf:xb ["_law_script","_law_size","_law_way_here","_law_plan_here","_law_comings_here","_law_rounds","_law_stood","_law_gone","_law_turn","_law_due","_law_found","_law_later"] ["_law_script"] (jb rO):=(by walk_at "F")
noncomputable abbrev Oo:Stmt:=Fc (top 14) 0
theorem Ao:xb ["self","name"] ["self","name"] (jb Oo):=(by walk_at "F")
noncomputable abbrev gp:Stmt:=Fc (top 15) 0
theorem yo:xb ["self","way"] ["self","way"] (jb gp):=(by walk_at "F")
noncomputable abbrev Wo:Stmt:=Fc (top 16) 0
theorem Hn:xb ["self","way","at"] ["self","way","at"] (jb Wo):=(by walk_at "F")
noncomputable abbrev ip:Stmt:=Fc (top 17) 0
theorem Ln:xb ["self","way","other","at"] ["self","way","other","at"] (jb ip):=(by walk_at "F")
noncomputable abbrev nj:Stmt:=Fc (top 29) 0
theorem Xj:xb ["self","row","told"] ["self","row","told"] (jb nj):=(by walk_at "F")
noncomputable abbrev Gi:Stmt:=Fc (top 29) 1
theorem zm:xb ["self"] ["self"] (jb Gi):=(by walk_at "F")
noncomputable abbrev Dg:Stmt:=Fc (top 29) 2
theorem Vj:xb ["self"] ["self"] (jb Dg):=(by walk_at "F")
noncomputable abbrev Zm:Stmt:=Fc (top 29) 3
noncomputable abbrev ij:Stmt:=Fc (top 29) 4
theorem io:xb ["self","good"] ["self","good"] (jb ij):=(by walk_at "F")
noncomputable abbrev Eh:Stmt:=Fc (top 29) 5
theorem lh:xb ["self","choices","found"] ["self","choices"] (jb Eh):=(by walk_at "F")
noncomputable abbrev eh:Stmt:=Fc (top 29) 6
theorem Eg:xb ["self","low","high","found"] ["self","low","high"] (jb eh):=(by walk_at "F")
noncomputable abbrev Gh:Stmt:=Fc (top 29) 7
theorem fm:xb ["self"] ["self"] (jb Gh):=(by walk_at "F")
noncomputable abbrev gu:Stmt:=Fc (top 32) 0
theorem Hr:xb ["self","kind","name","start","end","off","near","least"] ["self","kind","name","start","end","off","near","least"] (jb gu):=(by walk_at "F")
noncomputable abbrev En:Stmt:=Fc (top 33) 0
theorem Ym:xb ["self","name","start","end","off","near","least"] ["self","name","start","end","off","near","least"] (jb En):=(by walk_at "F")
noncomputable abbrev gl:Stmt:=Fc (top 33) 1
theorem ss:xb ["self"] ["self"] (jb gl):=(by walk_at "F")
noncomputable abbrev Dm:Stmt:=Fc (top 33) 2
theorem yt:xb ["self"] ["self"] (jb Dm):=(by walk_at "F")
noncomputable abbrev Gm:Stmt:=Fc (top 33) 3
theorem Bt:xb ["self","many"] ["self","many"] (jb Gm):=(by walk_at "F")
noncomputable abbrev yl:Stmt:=Fc (top 34) 0
theorem mm:xb ["self","name","start","end","off","near","least"] ["self","name","start","end","off","near","least"] (jb yl):=(by walk_at "F")
noncomputable abbrev Gj:Stmt:=Fc (top 34) 1
theorem zp:xb ["self"] ["self"] (jb Gj):=(by walk_at "F")
noncomputable abbrev Jl:Stmt:=Fc (top 34) 2
theorem tq:xb ["self"] ["self"] (jb Jl):=(by walk_at "F")
noncomputable abbrev Kl:Stmt:=Fc (top 34) 3
theorem kq:xb ["self","many"] ["self","many"] (jb Kl):=(by walk_at "F")
noncomputable abbrev Wk:Stmt:=Fc (top 35) 0
theorem Tl:xb ["self","name","start","end","off","near","least"] ["self","name","start","end","off","near","least"] (jb Wk):=(by walk_at "F")
noncomputable abbrev Nj:Stmt:=Fc (top 35) 1
theorem np:xb ["self"] ["self"] (jb Nj):=(by walk_at "F")
noncomputable abbrev ml:Stmt:=Fc (top 35) 2
theorem Er:xb ["self"] ["self"] (jb ml):=(by walk_at "F")
noncomputable abbrev El:Stmt:=Fc (top 35) 3
theorem Tr:xb ["self","many"] ["self","many"] (jb El):=(by walk_at "F")
noncomputable abbrev Lj:Stmt:=Fc (top 43) 0
theorem He:xb ["self","places","ways","number","way"] ["self","places","ways"] (jb Lj):=(by walk_at "F")
noncomputable abbrev xg:Stmt:=Fc (top 43) 1
theorem Gn:xb ["self"] ["self"] (jb xg):=(by walk_at "F")
noncomputable abbrev oi:Stmt:=Fc (top 43) 2
theorem Mh:xb ["self","name"] ["self","name"] (jb oi):=(by walk_at "F")
noncomputable abbrev Fi:Stmt:=Fc (top 43) 3
theorem vh:xb ["self","name"] ["self","name"] (jb Fi):=(by walk_at "F")
noncomputable abbrev jq:Stmt:=Fc (top 59) 0
theorem rj:xb ["self","crossing","size","spans","name"] ["self","crossing","size","spans"] (jb jq):=(by walk_at "F")
set_option genInjectivity false in
set_option genInjectivity false in
structure Adr where
 {Xp yw fh Hc Yi Bo Qm Lu cg cj Om Vm Fm Vi pf Gk vk zk lf Tp Kh LA dJ Ke Xf wf fg Xz Ff Bd Tf ze Wf jh ue bj ag Qk Wi Ri Gf Hg KM lg ug ng ig Vd Ec bd df Zc Wc Bc Yc vf gf Pf Kg Mg Je bf Mf Ef Ie mf Vf Lf ie ad Pc Ib Yg Cb vn Qc vc xc Tb ge Cf Sd Od Id vd:Addr}
 {Np Rw zc Ic aj bo Lm Iv gg Zi Wm cn Bm Ti af Bk Ik Fk Ve Wp xh wA kI Me Kf zf dg oA Jf Cd Rf we Sf mh me Oi rg Nk Ui Pi Uf Ig UI Ch yh qh Oh Pe Oc Jd yn zd Ed Nc Gd Pg Fg Xh Qi Ji Qf dh Sh Vh Hf bh Rh Th Xe Ad qd Nb Si:FuncData}
 {mw il qw Ll Go Al Ur fu zn Gr:Value}
structure Txt (w:World) (K:PySem.W.Frag) (mg:Str→Option Value) (t:Adr):Prop where
 WG:mg "colour"=some (.ref t.Xp)
 Uv:Fun K "colour" "colour" qA t.Xp t.Np
 FJ:mg "free"=some (.ref t.yw)
 iA:Fun K "free" "free" kK t.yw t.Rw
 jm:mg "coming_by"=some (.ref t.fh)
 gh:Fun K "coming_by" "coming_by" ac t.fh t.zc
 bc:mg "standing_after"=some (.ref t.Hc)
 Ob:Fun K "standing_after" "standing_after" sj t.Hc t.Ic
 ur:mg "grows"=some (.ref t.Yi)
 Wj:Fun K "grows" "grows" ZC t.Yi t.aj
 Vr:mg "queue"=some (.ref t.Bo)
 Sj:Fun K "queue" "queue" lF t.Bo t.bo
 iG:mg "slowest"=some (.ref t.Qm)
 gr:Fun K "slowest" "slowest" Ew t.Qm t.Lm
 yM:mg "words"=some (.ref t.Lu)
 Yy:Fun K "words" "words" Dy t.Lu t.Iv
 Qo:mg "is_made_of"=some (.ref t.cg)
 uh:Fun K "is_made_of" "is_made_of" Oj t.cg t.gg
 Wy:mg "is_number"=some (.ref t.cj)
 km:Fun K "is_number" "is_number" Pq t.cj t.Zi
 FE:mg "figured"=some (.ref t.Om)
 Jr:Fun K "figured" "figured" tw t.Om t.Wm
 KC:mg "is_name"=some (.ref t.Vm)
 rq:Fun K "is_name" "is_name" ix t.Vm t.cn
 wE:mg "readers"=some (.ref t.Fm)
 Jq:Fun K "readers" "readers" wq t.Fm t.Bm
 Py:mg "read_ring"=some (.ref t.Vi)
 Yl:Fun K "read_ring" "read_ring" Zq t.Vi t.Ti
 Kq:mg "read_new_name"=some (.ref t.pf)
 ah:Fun K "read_new_name" "read_new_name" Ug t.pf t.af
 rB:mg "read_end"=some (.ref t.Gk)
 qo:Fun K "read_end" "read_end" Ju t.Gk t.Bk
 DB:mg "made_way"=some (.ref t.vk)
 On:Fun K "made_way" "made_way" Cu t.vk t.Ik
 EB:mg "read_way"=some (.ref t.zk)
 Jn:Fun K "read_way" "read_way" yu t.zk t.Fk
 Bq:mg "read_crossing"=some (.ref t.lf)
 Sg:Fun K "read_crossing" "read_crossing" Kj t.lf t.Ve
 Hz:mg "in_bow"=some (.ref t.Tp)
 Lp:Fun K "in_bow" "in_bow" DA t.Tp t.Wp
 px:mg "bows_cross"=some (.ref t.Kh)
 ck:Fun K "bows_cross" "bows_cross" So t.Kh t.xh
 XO:mg "meet"=some (.ref t.LA)
 tF:Fun K "meet" "meet" cK t.LA t.wA
 SQ:mg "gap"=some (.ref t.dJ)
 mM:Fun K "gap" "gap" rP t.dJ t.kI
 Bl:mg "until_marked"=some (.ref t.Ke)
 Nf:Fun K "until_marked" "until_marked" Il t.Ke t.Me
 At:mg "since_marked"=some (.ref t.Xf)
 ei:Fun K "since_marked" "since_marked" Cl t.Xf t.Kf
 Lk:mg "spans_of"=some (.ref t.wf)
 Og:Fun K "spans_of" "spans_of" Tn t.wf t.zf
 Lo:mg "free_marks"=some (.ref t.fg)
 Nh:Fun K "free_marks" "free_marks" yj t.fg t.dg
 LN:mg "lamp"=some (.ref t.Xz)
 bG:Fun K "lamp" "lamp" uD t.Xz t.oA
 Mt:mg "refuse_never"=some (.ref t.Ff)
 Zh:Fun K "refuse_never" "refuse_never" Ml t.Ff t.Jf
 Mj:mg "turns_to_next_begin"=some (.ref t.Bd)
 re:Fun K "turns_to_next_begin" "turns_to_next_begin" Dd t.Bd t.Cd
 Et:mg "refuse_short"=some (.ref t.Tf)
 bi:Fun K "refuse_short" "refuse_short" Yk t.Tf t.Rf
 oo:mg "refuse_clash_of"=some (.ref t.ze)
 Bf:Fun K "refuse_clash_of" "refuse_clash_of" gi t.ze t.we
 qt:mg "refuse_clash"=some (.ref t.Wf)
 Qh:Fun K "refuse_clash" "refuse_clash" Nl t.Wf t.Sf
 ky:mg "made_plan"=some (.ref t.jh)
 Ul:Fun K "made_plan" "made_plan" am t.jh t.mh
 Sb:mg "_law_draw"=some (.ref t.ue)
 Lb:Fun K "_law_draw" "_law_draw" pq t.ue t.me
 Yx:mg "_law_text"=some (.ref t.bj)
 um:Fun K "_law_text" "_law_text" Sl t.bj t.Oi
 Eo:mg "_law_spans"=some (.ref t.ag)
 Ph:Fun K "_law_spans" "_law_spans" Io t.ag t.rg
 gC:mg "_law_way"=some (.ref t.Qk)
 so:Fun K "_law_way" "_law_way" nu t.Qk t.Nk
 Oy:mg "_law_plan"=some (.ref t.Wi)
 Vl:Fun K "_law_plan" "_law_plan" tm t.Wi t.Ui
 Iy:mg "_law_free"=some (.ref t.Ri)
 im:Fun K "_law_free" "_law_free" js t.Ri t.Pi
 Js:mg "_law_comings"=some (.ref t.Gf)
 Uh:Fun K "_law_comings" "_law_comings" Zk t.Gf t.Uf
 xv:mg "_law_no_way"=some (.ref t.Hg)
 Ii:Fun K "_law_no_way" "_law_no_way" Dn t.Hg t.Ig
 UQ:mg "law"=some (.ref t.KM)
 RQ:Fun K "law" "law" rO t.KM t.UI
 bv:mg "NoWay"=some (.ref t.Sd)
 wJ:PySem.W.findIn K (.ref t.Sd) "__init__"=some (some (.ref t.lg))
 Jo:Fun K "__init__" "NoWay.__init__" Oo t.lg t.Ch
 OM:mg "Never"=some (.ref t.Od)
 kJ:PySem.W.findIn K (.ref t.Od) "__init__"=some (some (.ref t.ug))
 Ho:Fun K "__init__" "Never.__init__" gp t.ug t.yh
 gL:mg "Short"=some (.ref t.Id)
 lK:PySem.W.findIn K (.ref t.Id) "__init__"=some (some (.ref t.ng))
 Ro:Fun K "__init__" "Short.__init__" Wo t.ng t.qh
 pM:mg "Clash"=some (.ref t.vd)
 oK:PySem.W.findIn K (.ref t.vd) "__init__"=some (some (.ref t.ig))
 bp:Fun K "__init__" "Clash.__init__" ip t.ig t.Oh
 Wx:mg "RowReader"=some (.ref t.Cb)
 pC:PySem.W.findIn K (.ref t.Cb) "__init__"=some (some (.ref t.Vd))
 fj:Fun K "__init__" "RowReader.__init__" nj t.Vd t.Pe
 ZA:PySem.W.findIn K (.ref t.Cb) "ahead"=some (some (.ref t.Ec))
 ki:Fun K "ahead" "RowReader.ahead" Gi t.Ec t.Oc
 Rx:PySem.W.findIn K (.ref t.Cb) "has_more"=some (some (.ref t.bd))
 Cg:Fun K "has_more" "RowReader.has_more" Dg t.bd t.Jd
 KA:PySem.W.findIn K (.ref t.Cb) "refuse"=some (some (.ref t.df))
 Az:Fun K "refuse" "RowReader.refuse" Zm t.df t.yn
 rC:PySem.W.findIn K (.ref t.Cb) "take"=some (some (.ref t.Zc))
 pj:Fun K "take" "RowReader.take" ij t.Zc t.zd
 Lz:PySem.W.findIn K (.ref t.Cb) "one_of"=some (some (.ref t.Wc))
 Lh:Fun K "one_of" "RowReader.one_of" Eh t.Wc t.Ed
 ay:PySem.W.findIn K (.ref t.Cb) "figures"=some (some (.ref t.Bc))
 kh:Fun K "figures" "RowReader.figures" eh t.Bc t.Nc
 zz:PySem.W.findIn K (.ref t.Cb) "finish"=some (some (.ref t.Yc))
 zh:Fun K "finish" "RowReader.finish" Gh t.Yc t.Gd
 aM:mg "Way"=some (.ref t.vn)
 oN:PySem.W.findIn K (.ref t.vn) "__init__"=some (some (.ref t.vf))
 bu:Fun K "__init__" "Way.__init__" gu t.vf t.Pg
 RH:mg "CarWay"=some (.ref t.Qc)
 tH:PySem.W.findIn K (.ref t.Qc) "__init__"=some (some (.ref t.gf))
 jn:Fun K "__init__" "CarWay.__init__" En t.gf t.Fg
 rG:PySem.W.findIn K (.ref t.Qc) "ready"=some (some (.ref t.Pf))
 Fl:Fun K "ready" "CarWay.ready" gl t.Pf t.Xh
 VH:PySem.W.findIn K (.ref t.Qc) "fade"=some (some (.ref t.Kg))
 Jm:Fun K "fade" "CarWay.fade" Dm t.Kg t.Qi
 ZG:PySem.W.findIn K (.ref t.Qc) "goes"=some (some (.ref t.Mg))
 Im:Fun K "goes" "CarWay.goes" Gm t.Mg t.Ji
 aD:mg "FootWay"=some (.ref t.vc)
 JG:PySem.W.findIn K (.ref t.vc) "__init__"=some (some (.ref t.Je))
 ol:Fun K "__init__" "FootWay.__init__" yl t.Je t.Qf
 kG:PySem.W.findIn K (.ref t.vc) "ready"=some (some (.ref t.bf))
 ik:Fun K "ready" "FootWay.ready" Gj t.bf t.dh
 pG:PySem.W.findIn K (.ref t.vc) "fade"=some (some (.ref t.Mf))
 ql:Fun K "fade" "FootWay.fade" Jl t.Mf t.Sh
 yG:PySem.W.findIn K (.ref t.vc) "goes"=some (some (.ref t.Ef))
 ul:Fun K "goes" "FootWay.goes" Kl t.Ef t.Vh
 EC:mg "TramWay"=some (.ref t.xc)
 AG:PySem.W.findIn K (.ref t.xc) "__init__"=some (some (.ref t.Ie))
 Ol:Fun K "__init__" "TramWay.__init__" Wk t.Ie t.Hf
 GF:PySem.W.findIn K (.ref t.xc) "ready"=some (some (.ref t.mf))
 nk:Fun K "ready" "TramWay.ready" Nj t.mf t.bh
 DG:PySem.W.findIn K (.ref t.xc) "fade"=some (some (.ref t.Vf))
 xl:Fun K "fade" "TramWay.fade" ml t.Vf t.Rh
 CG:PySem.W.findIn K (.ref t.xc) "goes"=some (some (.ref t.Lf))
 Hl:Fun K "goes" "TramWay.goes" El t.Lf t.Th
 iC:mg "Crossing"=some (.ref t.Tb)
 VE:PySem.W.findIn K (.ref t.Tb) "__init__"=some (some (.ref t.ie))
 Tj:Fun K "__init__" "Crossing.__init__" Lj t.ie t.Xe
 qC:PySem.W.findIn K (.ref t.Tb) "names"=some (some (.ref t.ad))
 gj:Fun K "names" "Crossing.names" xg t.ad t.Ad
 WA:PySem.W.findIn K (.ref t.Tb) "number"=some (some (.ref t.Pc))
 xf:Fun K "number" "Crossing.number" oi t.Pc t.qd
 SB:PySem.W.findIn K (.ref t.Tb) "called"=some (some (.ref t.Ib))
 Df:Fun K "called" "Crossing.called" Fi t.Ib t.Nb
 SO:mg "Plan"=some (.ref t.ge)
 bM:PySem.W.findIn K (.ref t.ge) "__init__"=some (some (.ref t.Yg))
 Xr:Fun K "__init__" "Plan.__init__" jq t.Yg t.Si
 Bb:Cls K t.Cb
 Cy:Mk K t.Cb t.Vd
 Ae:Fq K t.Cb "ahead" t.Ec
 Uk:Fq K t.Cb "has_more" t.bd
 Tz:Fq K t.Cb "refuse" t.df
 yg:Fq K t.Cb "take" t.Zc
 Hh:Fq K t.Cb "one_of" t.Wc
 Mc:Fq K t.Cb "figures" t.Bc
 Jh:Fq K t.Cb "finish" t.Yc
 Dp:Fb K t.Cb "row"
 vi:Fb K t.Cb "told"
 We:Fb K t.Cb "place"
 AR:Cls K t.vn
 MM:Fb K t.vn "kind"
 IK:Fb K t.vn "name"
 EJ:Fb K t.vn "start"
 nN:Fb K t.vn "end"
 kN:Fb K t.vn "off"
 tL:Fb K t.vn "near"
 vJ:Fb K t.vn "least"
 dn:Cls K t.Qc
 DH:Mk K t.Qc t.gf
 Rt:Fq K t.Qc "ready" t.Pf
 Ev:Fq K t.Qc "fade" t.Kg
 aw:Fq K t.Qc "goes" t.Mg
 wt:Fb K t.Qc "kind"
 Nt:Fb K t.Qc "name"
 iq:Fb K t.Qc "start"
 Jv:Fb K t.Qc "end"
 gv:Fb K t.Qc "off"
 Ft:Fb K t.Qc "near"
 cq:Fb K t.Qc "least"
 Kk:Cls K t.vc
 cG:Mk K t.vc t.Je
 Cr:Fq K t.vc "ready" t.bf
 Ss:Fq K t.vc "fade" t.Mf
 ft:Fq K t.vc "goes" t.Ef
 nq:Fb K t.vc "kind"
 ar:Fb K t.vc "name"
 rp:Fb K t.vc "start"
 Ms:Fb K t.vc "end"
 Gs:Fb K t.vc "off"
 Sq:Fb K t.vc "near"
 Ap:Fb K t.vc "least"
 xk:Cls K t.xc
 YF:Mk K t.xc t.Ie
 xq:Fq K t.xc "ready" t.mf
 jt:Fq K t.xc "fade" t.Vf
 Ts:Fq K t.xc "goes" t.Lf
 Sr:Fb K t.xc "kind"
 gq:Fb K t.xc "name"
 vp:Fb K t.xc "start"
 Zs:Fb K t.xc "end"
 Dt:Fb K t.xc "off"
 Dq:Fb K t.xc "near"
 up:Fb K t.xc "least"
 Jb:Cls K t.Tb
 bB:Mk K t.Tb t.ie
 Yd:Fq K t.Tb "names" t.ad
 Ei:Fq K t.Tb "number" t.Pc
 Yb:Fq K t.Tb "called" t.Ib
 Ah:Fb K t.Tb "places"
 lj:Fb K t.Tb "ways"
 Zg:Fb K t.Tb "numbers"
 Li:Cls K t.ge
 GP:Mk K t.ge t.Yg
 mj:Fb K t.ge "crossing"
 ap:Fb K t.ge "size"
 Zv:Fb K t.ge "spans"
 Pm:Fb K t.ge "lamps"
 Pl:Fb K t.ge "untils"
 Mi:mg "LampError"=some (.ref t.Cf)
 Ki:BR K t.Cf "__init__"
 cH:XB K t.Sd
 jA:MkX K t.Sd t.lg
 Jg:Fb K t.Sd "name"
 Vz:PySem.W.exmOne K (.ref t.Sd) (.ref t.Cf)=some true
 ci:PySem.W.exmOne K (.ref t.Sd) (.ref t.Sd)=some true
 BG:PySem.W.exmOne K (.ref t.Sd) (.ref t.Od)=some false
 oG:PySem.W.exmOne K (.ref t.Sd) (.ref t.Id)=some false
 FG:PySem.W.exmOne K (.ref t.Sd) (.ref t.vd)=some false
 wH:XB K t.Od
 Gz:MkX K t.Od t.ug
 Iw:Fb K t.Od "way"
 Kz:PySem.W.exmOne K (.ref t.Od) (.ref t.Cf)=some true
 NG:PySem.W.exmOne K (.ref t.Od) (.ref t.Sd)=some false
 qG:PySem.W.exmOne K (.ref t.Od) (.ref t.Od)=some true
 wG:PySem.W.exmOne K (.ref t.Od) (.ref t.Id)=some false
 mG:PySem.W.exmOne K (.ref t.Od) (.ref t.vd)=some false
 aI:XB K t.Id
 GA:MkX K t.Id t.ng
 Fx:Fb K t.Id "way"
 fz:Fb K t.Id "at"
 Wz:PySem.W.exmOne K (.ref t.Id) (.ref t.Cf)=some true
 RG:PySem.W.exmOne K (.ref t.Id) (.ref t.Sd)=some false
 LG:PySem.W.exmOne K (.ref t.Id) (.ref t.Od)=some false
 QG:PySem.W.exmOne K (.ref t.Id) (.ref t.Id)=some true
 uG:PySem.W.exmOne K (.ref t.Id) (.ref t.vd)=some false
 QI:XB K t.vd
 yz:MkX K t.vd t.ig
 vx:Fb K t.vd "way"
 Ks:Fb K t.vd "other"
 iy:Fb K t.vd "at"
 uA:PySem.W.exmOne K (.ref t.vd) (.ref t.Cf)=some true
 vG:PySem.W.exmOne K (.ref t.vd) (.ref t.Sd)=some false
 OG:PySem.W.exmOne K (.ref t.vd) (.ref t.Od)=some false
 xG:PySem.W.exmOne K (.ref t.vd) (.ref t.Id)=some false
 GG:PySem.W.exmOne K (.ref t.vd) (.ref t.vd)=some true
 dH:t.vn ≠ t.Qc
 zG:t.vn ≠ t.vc
 KG:t.vn ≠ t.xc
 ni:t.Qc ≠ t.vc
 si:t.Qc ≠ t.xc
 Fh:t.vc ≠ t.xc
 Vn:zR K t.vn "__init__" t.vf
 yF:mg "FIGURES"=some t.mw
 NC:ud (.str (Str.ofString "0123456789")) t.mw
 Ls:mg "LEAST_PLACES"=some t.il
 Ps:ud (.int 2) t.il
 dE:mg "LETTERS"=some t.qw
 qD:ud (.str (Str.ofString "abcdefghijklmnopqrstuvwxyz")) t.qw
 Ht:mg "MOST_FIGURES"=some t.Ll
 Us:ud (.int 3) t.Ll
 Dx:mg "MOST_LEAST"=some t.Go
 Ww:ud (.int 60) t.Go
 zt:mg "MOST_LETTERS"=some t.Al
 Es:ud (.int 8) t.Al
 Sy:mg "MOST_NEAR"=some t.Ur
 wz:ud (.int 30) t.Ur
 LB:mg "MOST_OFF"=some t.fu
 GB:ud (.int 30) t.fu
 Cv:mg "MOST_PLACES"=some t.zn
 Dv:ud (.int 99) t.zn
 Ry:mg "MOST_WAYS"=some t.Gr
 ly:ud (.int 12) t.Gr
 FQ:mg "all"=none
 XN:mg "bool"=none
 aA:mg "divmod"=none
 Wg:mg "enumerate"=none
 cN:mg "int"=none
 Vo:mg "isinstance"=none
 Nm:mg "len"=none
 Sz:mg "list"=none
 YH:mg "max"=none
 EI:mg "min"=none
 Bg:mg "range"=none
 Yn:mg "reversed"=none
 jM:mg "str"=none
 TQ:mg "sum"=none
 nO:∀ (s:Shared) (u:Value),BindsTo s t.UI ⟨[u],[]⟩ [("_law_script",u)]
section
variable {w:World} {K:PySem.W.Frag} {mg:Str→Option Value} {t:Adr} (T:Txt w K mg t)
include T
theorem Txt.sI:Qb K t.Np ["plan","name","turn"] []:=T.Uv.binds fun _ _ _ _ _ _=>us3 fun _ _ _=>rfl
theorem Txt.OJ:Qb K t.Rw ["plan","name","turn"] []:=T.iA.binds fun _ _ _ _ _ _=>us3 fun _ _ _=>rfl
theorem Txt.br:Qb K t.zc ["comings"] []:=T.gh.binds fun _ _ _ _ _ _=>us1 fun _=>rfl
theorem Txt.dc:Qb K t.Ic ["plan","name","comings","standing","turns"] []:=T.Ob.binds fun _ _ _ _ _ _=>us5 fun _ _ _ _ _=>rfl
theorem Txt.jr:Qb K t.aj ["plan","name","comings"] []:=T.Wj.binds fun _ _ _ _ _ _=>us3 fun _ _ _=>rfl
theorem Txt.Br:Qb K t.bo ["plan","name","comings","turn"] []:=T.Sj.binds fun _ _ _ _ _ _=>us4 fun _ _ _ _=>rfl
theorem Txt.zC:Qb K t.Lm ["plan","name","comings"] []:=T.gr.binds fun _ _ _ _ _ _=>us3 fun _ _ _=>rfl
theorem Txt.DM:Qb K t.Iv ["text"] []:=T.Yy.binds fun _ _ _ _ _ _=>us1 fun _=>rfl
theorem Txt.Ko:Qb K t.gg ["word","signs","most"] []:=T.uh.binds fun _ _ _ _ _ _=>us3 fun _ _ _=>rfl
theorem Txt.Ky:Qb K t.Zi ["word","most_figures"] []:=T.km.binds fun _ _ _ _ _ _=>us2 fun _ _=>rfl
theorem Txt.JE:Qb K t.Wm ["word","low","high"] []:=T.Jr.binds fun _ _ _ _ _ _=>us3 fun _ _ _=>rfl
theorem Txt.lG:Qb K t.cn ["word"] []:=T.rq.binds fun _ _ _ _ _ _=>us1 fun _=>rfl
theorem Txt.gF:Qb K t.Bm ["text"] []:=T.Jq.binds fun _ _ _ _ _ _=>us1 fun _=>rfl
theorem Txt.mz:Qb K t.Ti ["reader"] []:=T.Yl.binds fun _ _ _ _ _ _=>us1 fun _=>rfl
theorem Txt.Mq:Qb K t.af ["reader","ways"] []:=T.ah.binds fun _ _ _ _ _ _=>us2 fun _ _=>rfl
theorem Txt.jB:Qb K t.Bk ["reader","places","start"] []:=T.qo.binds fun _ _ _ _ _ _=>us3 fun _ _ _=>rfl
theorem Txt.BB:Qb K t.Ik ["sort","name","start","end","off","near","least"] []:=T.On.binds fun _ _ _ _ _ _=>us7 fun _ _ _ _ _ _ _=>rfl
theorem Txt.NB:Qb K t.Fk ["reader","places","ways"] []:=T.Jn.binds fun _ _ _ _ _ _=>us3 fun _ _ _=>rfl
theorem Txt.Lq:Qb K t.Ve ["text"] []:=T.Sg.binds fun _ _ _ _ _ _=>us1 fun _=>rfl
theorem Txt.QA:Qb K t.Wp ["places","way","place"] []:=T.Lp.binds fun _ _ _ _ _ _=>us3 fun _ _ _=>rfl
theorem Txt.Cw:Qb K t.xh ["places","way","second"] []:=T.ck.binds fun _ _ _ _ _ _=>us3 fun _ _ _=>rfl
theorem Txt.eO:Qb K t.wA ["crossing","one","other"] []:=T.tF.binds fun _ _ _ _ _ _=>us3 fun _ _ _=>rfl
theorem Txt.vQ:Qb K t.kI ["crossing","one","other"] []:=T.mM.binds fun _ _ _ _ _ _=>us3 fun _ _ _=>rfl
theorem Txt.Dl:Qb K t.Me ["marks"] []:=T.Nf.binds fun _ _ _ _ _ _=>us1 fun _=>rfl
theorem Txt.Vs:Qb K t.Kf ["marks"] []:=T.ei.binds fun _ _ _ _ _ _=>us1 fun _=>rfl
theorem Txt.uk:Qb K t.zf ["spans","name"] []:=T.Og.binds fun _ _ _ _ _ _=>us2 fun _ _=>rfl
theorem Txt.Zo:Qb K t.dg ["size","spans","name"] []:=T.Nh.binds fun _ _ _ _ _ _=>us3 fun _ _ _=>rfl
theorem Txt.qP:Qb K t.oA ["way","size","spans"] []:=T.bG.binds fun _ _ _ _ _ _=>us3 fun _ _ _=>rfl
theorem Txt.Ot:Qb K t.Jf ["crossing","spans"] []:=T.Zh.binds fun _ _ _ _ _ _=>us2 fun _ _=>rfl
theorem Txt.Fj:Qb K t.Cd ["size","spans","place"] []:=T.re.binds fun _ _ _ _ _ _=>us3 fun _ _ _=>rfl
theorem Txt.Hs:Qb K t.Rf ["crossing","size","spans"] []:=T.bi.binds fun _ _ _ _ _ _=>us3 fun _ _ _=>rfl
theorem Txt.Co:Qb K t.we ["crossing","one","other","since_one","since_other"] []:=T.Bf.binds fun _ _ _ _ _ _=>us5 fun _ _ _ _ _=>rfl
theorem Txt.Qs:Qb K t.Sf ["crossing","size","spans"] []:=T.Qh.binds fun _ _ _ _ _ _=>us3 fun _ _ _=>rfl
theorem Txt.jy:Qb K t.mh ["crossing","size","rows"] []:=T.Ul.binds fun _ _ _ _ _ _=>us3 fun _ _ _=>rfl
theorem Txt.Ub:Qb K t.me ["_law_script","_law_k","_law_many"] []:=T.Lb.binds fun _ _ _ _ _ _=>us3 fun _ _ _=>rfl
theorem Txt.ny:Qb K t.Oi ["_law_places","_law_ways"] []:=T.um.binds fun _ _ _ _ _ _=>us2 fun _ _=>rfl
theorem Txt.jp:Qb K t.rg ["_law_script","_law_way_here","_law_size"] []:=T.Ph.binds fun _ _ _ _ _ _=>us3 fun _ _ _=>rfl
theorem Txt.qB:Qb K t.Nk ["_law_script"] []:=T.so.binds fun _ _ _ _ _ _=>us1 fun _=>rfl
theorem Txt.Ay:Qb K t.Ui ["_law_script","_law_way_here","_law_size"] []:=T.Vl.binds fun _ _ _ _ _ _=>us3 fun _ _ _=>rfl
theorem Txt.Zy:Qb K t.Pi ["_law_script","_law_way_here","_law_size","_law_turn"] []:=T.im.binds fun _ _ _ _ _ _=>us4 fun _ _ _ _=>rfl
theorem Txt.xt:Qb K t.Uf ["_law_script","_law_size"] []:=T.Uh.binds fun _ _ _ _ _ _=>us2 fun _ _=>rfl
theorem Txt.yv:Qb K t.Ig ["_law_plan_here","_law_comings_here"] []:=T.Ii.binds fun _ _ _ _ _ _=>us2 fun _ _=>rfl
theorem Txt.jx:Qb K t.Ch ["self","name"] []:=T.Jo.binds fun _ _ _ _ _ _=>us2 fun _ _=>rfl
theorem Txt.Yw:Qb K t.yh ["self","way"] []:=T.Ho.binds fun _ _ _ _ _ _=>us2 fun _ _=>rfl
theorem Txt.bx:Qb K t.qh ["self","way","at"] []:=T.Ro.binds fun _ _ _ _ _ _=>us3 fun _ _ _=>rfl
theorem Txt.Mw:Qb K t.Oh ["self","way","other","at"] []:=T.bp.binds fun _ _ _ _ _ _=>us4 fun _ _ _ _=>rfl
theorem Txt.wp:Qb K t.Pe ["self","row","told"] []:=T.fj.binds fun _ _ _ _ _ _=>us3 fun _ _ _=>rfl
theorem Txt.Be:Qb K t.Oc ["self"] []:=T.ki.binds fun _ _ _ _ _ _=>us1 fun _=>rfl
theorem Txt.Tk:Qb K t.Jd ["self"] []:=T.Cg.binds fun _ _ _ _ _ _=>us1 fun _=>rfl
theorem Txt.zg:Qb K t.zd ["self","good"] []:=T.pj.binds fun _ _ _ _ _ _=>us2 fun _ _=>rfl
theorem Txt.Ih:Qb K t.Ed ["self","choices"] []:=T.Lh.binds fun _ _ _ _ _ _=>us2 fun _ _=>rfl
theorem Txt.Lc:Qb K t.Nc ["self","low","high"] []:=T.kh.binds fun _ _ _ _ _ _=>us3 fun _ _ _=>rfl
theorem Txt.Bh:Qb K t.Gd ["self"] []:=T.zh.binds fun _ _ _ _ _ _=>us1 fun _=>rfl
theorem Txt.Mn:Qb K t.Pg ["self","kind","name","start","end","off","near","least"] []:=T.bu.binds fun _ _ _ _ _ _=>us8 fun _ _ _ _ _ _ _ _=>rfl
theorem Txt.Tu:Qb K t.Fg ["self","name","start","end","off","near","least"] []:=T.jn.binds fun _ _ _ _ _ _=>us7 fun _ _ _ _ _ _ _=>rfl
theorem Txt.Ys:Qb K t.Xh ["self"] []:=T.Fl.binds fun _ _ _ _ _ _=>us1 fun _=>rfl
theorem Txt.Qv:Qb K t.Qi ["self"] []:=T.Jm.binds fun _ _ _ _ _ _=>us1 fun _=>rfl
theorem Txt.Qu:Qb K t.Ji ["self","many"] []:=T.Im.binds fun _ _ _ _ _ _=>us2 fun _ _=>rfl
theorem Txt.Qt:Qb K t.Qf ["self","name","start","end","off","near","least"] []:=T.ol.binds fun _ _ _ _ _ _=>us7 fun _ _ _ _ _ _ _=>rfl
theorem Txt.zq:Qb K t.dh ["self"] []:=T.ik.binds fun _ _ _ _ _ _=>us1 fun _=>rfl
theorem Txt.Kt:Qb K t.Sh ["self"] []:=T.ql.binds fun _ _ _ _ _ _=>us1 fun _=>rfl
theorem Txt.Fs:Qb K t.Vh ["self","many"] []:=T.ul.binds fun _ _ _ _ _ _=>us2 fun _ _=>rfl
theorem Txt.ot:Qb K t.Hf ["self","name","start","end","off","near","least"] []:=T.Ol.binds fun _ _ _ _ _ _=>us7 fun _ _ _ _ _ _ _=>rfl
theorem Txt.Oq:Qb K t.bh ["self"] []:=T.nk.binds fun _ _ _ _ _ _=>us1 fun _=>rfl
theorem Txt.dt:Qb K t.Rh ["self"] []:=T.xl.binds fun _ _ _ _ _ _=>us1 fun _=>rfl
theorem Txt.Ct:Qb K t.Th ["self","many"] []:=T.Hl.binds fun _ _ _ _ _ _=>us2 fun _ _=>rfl
theorem Txt.oq:Qb K t.Xe ["self","places","ways"] []:=T.Tj.binds fun _ _ _ _ _ _=>us3 fun _ _ _=>rfl
theorem Txt.Xd:Qb K t.Ad ["self"] []:=T.gj.binds fun _ _ _ _ _ _=>us1 fun _=>rfl
theorem Txt.mi:Qb K t.qd ["self","name"] []:=T.xf.binds fun _ _ _ _ _ _=>us2 fun _ _=>rfl
theorem Txt.Xb:Qb K t.Nb ["self","name"] []:=T.Df.binds fun _ _ _ _ _ _=>us2 fun _ _=>rfl
theorem Txt.lz:Qb K t.Si ["self","crossing","size","spans"] []:=T.Xr.binds fun _ _ _ _ _ _=>us4 fun _ _ _ _=>rfl
theorem Txt.Xn:ut K t.Sd:=Ou T.cH T.jA
theorem Txt.Vx:ut K t.Od:=Ou T.wH T.Gz
theorem Txt.Zu:ut K t.Id:=Ou T.aI T.GA
theorem Txt.Kr:ut K t.vd:=Ou T.QI T.yz
end
noncomputable abbrev og:Str:=Str.ofString "coming_by" ++ Str.ofString ".<locals>." ++ Str.ofString "<lambda>"
theorem Uo:uP "turn" "kept" (zO (dy ac)):=⟨rfl,rfl,rfl,by decide +kernel,rfl,rfl,by decide +kernel,by decide +kernel⟩
noncomputable def Ue (ns:List Int) (k m:Int):Int:=
 ((((if 0 < (ns.length:Int) then ns.getD (k % (ns.length:Int)).toNat 0 else 0) % 1000003 + 31 * k * k + 1) * 48271 % 999983 * 7919) % 524287) % m
theorem Ee (ns:List Int) (k:Int) {m:Int} (h:0 < m):0 ≤ Ue ns k m:=Int.emod_nonneg _ (by omega)
theorem Ze (ns:List Int) (k:Int) {m:Int} (h:0 < m):Ue ns k m < m:=Int.emod_lt_of_pos _ h
noncomputable def Hd (K:PySem.W.Frag) (a:Addr) (ns:List Int):Sp:=fun vs H Q _=>∃ k m,vs=[.ref a,.int k,.int m]∧Sc K a ns H∧(0 ≤ k∧k < 1000000)∧0 < m∧Q (.int (Ue ns k m)) H
section
variable {P:Program} {w:World} {K:PySem.W.Frag} {mg:Str→Option Value} {base:Heap} {t:Adr}
theorem Vq (T:Txt w K mg t) (a:Addr) (ns:List Int) (h63:ns.length ≤ 63):Eb P w K mg base CX0 1 t.ue t.me ["_law_script","_law_k","_law_many"] (Hd K a ns):=by
 refine T.Lb.ok Cj (fun vs H Q E h=>?_) (fun cdv A outer s H vs Q E hr h=>?_)
 ·obtain ⟨k,m,rfl,_⟩:=h;rfl
 obtain ⟨k,m,rfl,S,⟨h0,h1⟩,hm,q⟩:=h
 refine ⟨_,(db (Ab (i:=3) Cj.nd rfl (Or.inl rfl) (uv (kc oz (gc Dc rfl T.Nm Xc (bb (pv 0) gb)) lb (wc _)) (ae Zd (pv 0) (Gb Ce (pv 1) (gc Dc rfl T.Nm Xc (bb (pv 0) gb))) (fun _ _=>rfl)) lb))
   (db (Ab (i:=4) Cj.nd rfl (Or.inl rfl) (Gb Jc (Gb Jc (Gb Ce (pv 3) lb) (Gb Rg (Gb Rg lb (pv 1)) (pv 1))) lb))
   (ib (Db (Gb Ce (Gb Ce (Gb Rg (Gb Ce (Gb Rg (pv 4) lb) lb) lb) lb) (pv 2)))))),?_⟩
 (walk_at "RD")
 refine ⟨_,.inl S.seq,?_⟩
 rw [List.length_map]
 have hkk:(0:Int) ≤ k * k∧k * k < 1000000 * 1000000:=⟨Int.mul_nonneg h0 h0,Int.mul_lt_mul' (by omega) h1 h0 (by decide)⟩
 have fin:∀ i:Int,(0:Int) < 1000003∧nK 31 k∧nK (31 * k) k∧nK (i % 1000003 + 31 * k * k + 1) 48271∧(0:Int) < 999983∧nK ((i % 1000003 + 31 * k * k + 1) * 48271 % 999983) 7919∧(0:Int) < 524287∧0 < m:=by
  intro i
  refine ⟨by decide,.inl (by decide),.inr (by omega),.inr (by decide),by decide,.inr (by decide),by decide,hm⟩
 by_cases c:(0:Int) < (ns.length:Int)
 ·rw [if_pos (decide_eq_true c)]
  have hk:0 ≤ k % (ns.length:Int)∧k % (ns.length:Int) < (ns.length:Int):=⟨Int.emod_nonneg _ (by omega),Int.emod_lt_of_pos _ c⟩
  refine ⟨_,.inl S.seq,by rw [List.length_map];exact c,_,S.seq,?_⟩
  rw [List.length_map]
  have hj:(k % (ns.length:Int)).toNat < ns.length:=by omega
  refine ⟨.int ns[(k % (ns.length:Int)).toNat],?_,_,rfl,?_⟩
  ·have e:=jc (xs:=ns.map V.int) (j:=(k % (ns.length:Int)).toNat) (v:=.int ns[(k % (ns.length:Int)).toNat]) (by rw [List.getElem?_map,List.getElem?_eq_getElem hj] <;> rfl)
   rwa [Int.toNat_of_nonneg hk.1] at e
  ·obtain ⟨f1,f2,f3,f4,f5,f6,f7,f8⟩:=fin ns[(k % (ns.length:Int)).toNat]
   refine ⟨f1,f2,f3,f4,f5,f6,f7,f8,?_⟩
   have e:Ue ns k m=(((ns[(k % (ns.length:Int)).toNat] % 1000003 + 31 * k * k + 1) * 48271 % 999983 * 7919) % 524287) % m:=by
    unfold Ue
    rw [if_pos c,List.getD_eq_getElem?_getD,List.getElem?_eq_getElem hj]
    rfl
   rw [← e];exact q
 ·rw [if_neg (by simpa using c)]
  obtain ⟨f1,f2,f3,f4,f5,f6,f7,f8⟩:=fin 0
  refine ⟨f1,f2,f3,f4,f5,f6,f7,f8,?_⟩
  have e:Ue ns k m=(((0 % 1000003 + 31 * k * k + 1) * 48271 % 999983 * 7919) % 524287) % m:=by
   unfold Ue
   rw [if_neg c]
  rw [← e];exact q
end
theorem zQ {w:Str}:w=Str.ofString "" ↔ w.length=0:=by
 constructor
 ·rintro rfl;decide +kernel
 ·intro h
  have e:w.cps=#[]:=Array.eq_empty_of_size_eq_zero h
  have e2:(Str.ofString "").cps=#[]:=by decide +kernel
  cases w
  cases h2:Str.ofString ""
  rw [h2] at e2
  simp only at e e2
  rw [e,e2]
noncomputable def inL (sg:Str) (c:Nat):Bool:=!(Builtin.Str.occurrences sg (oC c) 0 sg.length 1).isEmpty
theorem fG (sg:Str) (c:Nat):inL sg c=decide (c ∈ sg.cps.toList):=StrLaws.found_one sg c
noncomputable def made (w sg:Str) (m:Int):Bool:=if w=Str.ofString "" then false else if m < (w.length:Int) then false else w.cps.toList.all (inL sg)
noncomputable def Wq:Sp:=fun vs H Q _=>∃ w sg m,vs=[.str w,.str sg,.int m]∧w.length ≤ 1000∧NoT H∧Q (.bl (made w sg m)) H
noncomputable def cJ:Sp:=fun vs H Q _=>∃ w sg m,vs=[.str w,.str sg,.int m]∧w.length ≤ 1000∧∀ H',Zb H H'→Q (.bl (made w sg m)) H'
section
variable {P:Program} {w:World} {K:PySem.W.Frag} {mg:Str→Option Value} {base:Heap} {t:Adr}
theorem GD (T:Txt w K mg t):Eb P w K mg base CX0 1 t.cg t.gg ["word","signs","most"] Wq:=by
 refine Eb.forget (sp:=cJ) ?_ fun vs H Q E h=>?_
 ·refine T.uh.ok Lv (fun vs H Q E h=>?_) (fun cdv A outer s H vs Q E hr h=>?_)
  ·obtain ⟨w,sg,m,rfl,_⟩:=h;rfl
  obtain ⟨w,sg,m,rfl,hz,q⟩:=h
  have hz':w.length ≤ sizeLine:=Nat.le_trans hz (by decide)
  refine ⟨_,(db (ye (PW.pt (vz (kc uj (pv 0) yc (wc _)) (su (kc oz (gc yx rfl T.Nm Xc (bb (pv 0) gb)) (pv 2) (wc _))))) (ib (Db Ws)) ic)
   (ib (Db (gc (ZH rfl) rfl T.FQ UB (bb (jk rfl (mP (pv 0)) (Nd (sc:=jb Oj) rfl (by decide +kernel)) (N:=["sign","signs"]) (sel:=[none,some 1]) (ve (M:=["word","signs","most"]) (by decide +kernel)) (Blk.of (fun _ _ _ _=>(yb (i:=0) (yi (N:=["sign","signs"]) (by decide +kernel) rfl) rfl (Or.inl rfl))) (fun _ _ _ _=>⟨_,Tg,by first | rfl | (dsimp only [Cx.block];done) | (dsimp only [Cx.block];exact rfl)⟩) (fun _ _ _ _=>⟨_,(Se BC (pv 0) (pv 1) (by with_unfolding_all rfl)),by first | rfl | (dsimp only [Cx.block];done) | (dsimp only [Cx.block];exact rfl)⟩))) gb))))),?_⟩
  (walk_at "RD")
  refine Ac (decide (w=Str.ofString "") || decide (m < (w.length:Int))) (fun Q hQ=>?_) (fun hb=>?_) (fun hb=>?_)
  ·(walk_at "RD")
   by_cases c:w=Str.ofString ""
   ·rw [if_pos (decide_eq_true c)]
    rw [decide_eq_true c,Bool.true_or] at hQ
    exact hQ
   ·rw [if_neg (by simpa using c)]
    rw [decide_eq_false c,Bool.false_or] at hQ
    exact ⟨hz',hQ⟩
  ·(walk_at "RD")
   have e:made w sg m=false:=by
    unfold made
    simp only [Bool.or_eq_true,decide_eq_true_eq] at hb
    by_cases c:w=Str.ofString ""
    ·rw [if_pos c]
    ·rw [if_neg c,if_pos (hb.resolve_left c)]
   have:=q H (Zb.refl H)
   rw [e] at this
   exact this
  ·(walk_at "RD")
   have e:made w sg m=w.cps.toList.all (inL sg):=by
    unfold made
    simp only [Bool.or_eq_false_iff,decide_eq_false_iff_not] at hb
    rw [if_neg hb.1,if_neg hb.2]
   refine Pd.its_map (fun x=>match x with | .str y=>.bl (!(Builtin.Str.occurrences sg y 0 sg.length 1).isEmpty) | _=>.non) (by rw [xm];exact hz') (fun i x N hx hN=>?_) (fun p hp=>?_)
   ·unfold tj at hx
    rw [List.getElem?_map] at hx
    cases hc:w.cps.toList[i]? with
    | none=>rw [hc] at hx;cases hx
    | some c=>
     rw [hc] at hx
     have hx':V.str (oC c)=x:=Option.some.inj hx
     subst hx'
     (walk_at "RD")
     exact ⟨Sub.name,hN⟩
   ·refine ⟨p,rfl,w.cps.toList.map (inL sg),SqL.of ?_,?_⟩
    ·rw [fb]
     unfold tj
     rw [List.map_map,List.map_map]
     rfl
    ·have:=q (upd H p (.lst (List.map (fun x=>match x with | .str y=>.bl (!(Builtin.Str.occurrences sg y 0 sg.length 1).isEmpty) | _=>.non) (tj w)))) (qb hp)
     rw [e] at this
     rw [List.all_map]
     exact this
 ·obtain ⟨w,sg,m,e,hz,nt,q⟩:=h
  exact ⟨nt,w,sg,m,e,hz,fun H' sm=>⟨sm,q⟩⟩
end
noncomputable abbrev FM:Str:=Str.ofString "0123456789"
noncomputable def yp (c:Nat):Bool:=decide (48 ≤ c∧c ≤ 57)
theorem NF:FM.cps.toList=[48,49,50,51,52,53,54,55,56,57]:=by decide +kernel
theorem LH (c:Nat):inL FM c=yp c:=by
 rw [fG,NF]
 unfold yp
 rw [Bool.eq_iff_iff]
 simp only [decide_eq_true_eq,List.mem_cons,List.not_mem_nil,or_false]
 omega
noncomputable abbrev cs (w:Str):List Nat:=w.cps.toList
theorem aG (w:Str):(cs w).length=w.length:=by simp [cs,Str.length]
noncomputable def okB (w:Str):Bool:=decide (1 ≤ (cs w).length) && decide ((cs w).length ≤ 3) && (cs w).all yp && (decide ((cs w).length ≤ 1) || decide ((cs w).headD 0 ≠ 48))
noncomputable abbrev val (w:Str):Int:=((NumText.digitsVal (cs w):Nat):Int)
noncomputable def MG (w:Str) (lo hi:Int):V:=if okB w && !(decide (val w < lo) || decide (hi < val w)) then .int (val w) else .non
theorem LC {w:Str} {c:Nat}:w=⟨#[c]⟩↔cs w=[c]:=by
 constructor
 ·rintro rfl;rfl
 ·intro h
  cases w with
  | mk a=>
   have e:a=#[c]:=Array.toList_inj.mp h
   rw [e]
theorem my:Str.ofString "0"=⟨#[48]⟩:=by decide +kernel
theorem ow (w:Str):made w FM 3=(decide (1 ≤ (cs w).length) && decide ((cs w).length ≤ 3) && (cs w).all yp):=by
 unfold made
 have e:(inL FM)=yp:=funext LH
 rw [e]
 by_cases h1:w=Str.ofString ""
 ·have h2:=zQ.mp h1
  rw [if_pos h1,aG,h2];rfl
 ·have h2:¬ w.length=0:=fun z=>h1 (zQ.mpr z)
  rw [if_neg h1,aG]
  by_cases h3:(3:Int) < (w.length:Int)
  ·rw [if_pos h3,decide_eq_false (show ¬ w.length ≤ 3 by omega),Bool.and_false,Bool.false_and]
  ·rw [if_neg h3,decide_eq_true (show 1 ≤ w.length by omega),decide_eq_true (show w.length ≤ 3 by omega)];rfl
theorem Rv {l:List Nat} (h:l.all yp=true):NumText.AllDigits l:=fun c hc=>by
 have:=List.all_eq_true.mp h c hc
 simpa [yp] using this
theorem uO {w:Str} (h:okB w=true):(1 ≤ (cs w).length∧(cs w).length ≤ 3)∧(cs w).all yp=true:=by
 unfold okB at h
 simp only [Bool.and_eq_true,decide_eq_true_eq] at h
 exact h.1
noncomputable def gD:Sp:=fun vs H Q _=>∃ w,vs=[.str w,.int 3]∧w.length ≤ 1000∧NoT H∧Q (.bl (okB w)) H
noncomputable def BJ:Sp:=fun vs H Q _=>∃ w lo hi,vs=[.str w,.int lo,.int hi]∧w.length ≤ 1000∧NoT H∧Q (MG w lo hi) H
section
variable {P:Program} {w:World} {K:PySem.W.Frag} {mg:Str→Option Value} {base:Heap} {t:Adr}
theorem FN (T:Txt w K mg t):Eb P w K mg base CX0 2 t.cj t.Zi ["word","most_figures"] gD:=by
 have G_is_made_of:Eb P w K mg base CX0 1 t.cg t.gg ["word","signs","most"] Wq:=GD T
 refine T.km.ok Fw (fun vs H Q E h=>?_) (fun cdv A outer s H vs Q E hr h=>?_)
 ·obtain ⟨w,rfl,_⟩:=h;rfl
 obtain ⟨w,rfl,hz,nt,q⟩:=h
 have hz':w.length ≤ sizeLine:=Nat.le_trans hz (by decide)
 refine ⟨_,(db (ye (uq (dj (wb G_is_made_of hr rfl T.Qo T.uh.kp T.Ko .nil zb (bb (pv 0) (bb (ai rfl T.yF T.NC) (bb (pv 1) gb)))))) (ib (Db Ws)) ic)
   (ib (Db (SN (Se uj (pv 0) yc (wc _)) (sA (Se gz (ae HJ (pv 0) lb (fun _ _=>rfl)) yc (wc _))))))),?_⟩
 refine Ac (!made w FM 3) (fun Q hQ=>?_) (fun hb=>?_) (fun hb=>?_)
 ·(walk_at "RD"; repeat (simp only [Wq];walk_at "RD"))
  exact ⟨hz,nt,hQ⟩
 ·(walk_at "RD")
  have e:okB w=false:=by
   have hb':made w FM 3=false:=by simpa using hb
   rw [ow] at hb'
   unfold okB
   rw [hb'];rfl
  rw [e] at q
  exact q
 ·have hb':made w FM 3=true:=by simpa using hb
  rw [ow] at hb'
  rw [Rk]
  dsimp only
  refine iN (.bl (okB w)) (fun Q hQ=>?_) ?_
  case refine_2=>exact q
  (walk_at "RD")
  have hb2:(1 ≤ (cs w).length∧(cs w).length ≤ 3)∧(cs w).all yp=true:=by
   simpa only [Bool.and_eq_true,decide_eq_true_eq] using hb'
  obtain ⟨c,r,hcr⟩:∃ c r,cs w=c :: r:=by
   cases h:cs w with
   | nil=>rw [h] at hb2;exact absurd hb2.1.1 (by decide)
   | cons c r=>exact ⟨c,r,rfl⟩
  have ok:okB w=(decide ((cs w).length ≤ 1) || decide ((cs w).headD 0 ≠ 48)):=by
   unfold okB
   rw [hb',Bool.true_and]
  by_cases c0:w=Str.ofString "0"
  ·rw [if_pos (decide_eq_true c0)]
   have e:cs w=[48]:=by rw [c0,my]
   rw [ok,e] at hQ
   exact hQ
  ·rw [if_neg (by simpa using c0)]
   refine ⟨hz',c,?_,?_⟩
   ·have:=jc (xs:=cs w) (j:=0) (v:=c) (by rw [hcr];rfl)
    exact this
   ·have e2:decide ((⟨#[c]⟩:Str)=Str.ofString "0")=decide (c=48):=by
     rw [my]
     by_cases h48:c=48
     ·rw [h48];simp
     ·rw [decide_eq_false h48,decide_eq_false]
      intro z
      have z2:=LC.mp z
      exact h48 (List.cons.inj z2).1
    rw [e2]
    have e3:okB w = !decide (c=48):=by
     rw [ok,hcr]
     show (decide ((c :: r).length ≤ 1) || decide (c ≠ 48))=_
     by_cases h48:c=48
     ·have hr:r ≠ []:=fun z=>c0 (by rw [my];exact LC.mpr (by rw [hcr,z,h48]))
      have:¬ (c :: r).length ≤ 1:=by
       cases r with
       | nil=>exact absurd rfl hr
       | cons d r=>simp
      rw [decide_eq_false this,h48];rfl
     ·rw [decide_eq_true h48,Bool.or_true,decide_eq_false h48];rfl
    rw [← e3]
    exact hQ
theorem BP (T:Txt w K mg t):Eb P w K mg base CX0 3 t.Om t.Wm ["word","low","high"] BJ:=by
 have G_is_number:Eb P w K mg base CX0 2 t.cj t.Zi ["word","most_figures"] gD:=FN T
 refine T.Jr.ok Du (fun vs H Q E h=>?_) (fun cdv A outer s H vs Q E hr h=>?_)
 ·obtain ⟨w,lo,hi,rfl,_⟩:=h;rfl
 obtain ⟨w,lo,hi,rfl,hz,nt,q⟩:=h
 refine ⟨_,(db (ye (uq (dj (wb G_is_number hr rfl T.Wy T.km.kp T.Ky .nil zb (bb (pv 0) (bb (ai rfl T.Ht T.Us) gb))))) (ib (Db pA)) ic)
   (db (Ab (i:=3) Du.nd rfl (Or.inl rfl) (Ai MF rfl T.cN Nn (bb (pv 0) gb)))
   (db (ye (PW.pt (vz (kc Zw (pv 3) (pv 1) (wc _)) (su (kc oz (pv 3) (pv 2) (wc _))))) (ib (Db pA)) ic)
   (ib (Db (pv 3)))))),?_⟩
 refine Ac (!okB w) (fun Q hQ=>?_) (fun hb=>?_) (fun hb=>?_)
 ·(walk_at "RD"; repeat (simp only [gD];walk_at "RD"))
  exact ⟨hz,nt,hQ⟩
 ·(walk_at "RD")
  have hb':okB w=false:=by simpa using hb
  have e:MG w lo hi=.non:=by unfold MG;rw [hb'];rfl
  rw [e] at q;exact q
 ·have hb':okB w=true:=by simpa using hb
  have h3:(1 ≤ (cs w).length∧(cs w).length ≤ 3)∧(cs w).all yp=true:=by
   have:=hb'
   unfold okB at this
   simp only [Bool.and_eq_true,decide_eq_true_eq] at this
   exact this.1
  have hl:=aG w
  have hi':intText? w=some (val w):=intText_digits (Rv h3.2) (fun z=>by have z':cs w=[]:=z;rw [z'] at h3;exact absurd h3.1.1 (by decide)) (by omega)
  (walk_at "RD")
  refine ⟨val w,hi',by omega,?_⟩
  refine Ac (decide (val w < lo) || decide (hi < val w)) (fun Q hQ=>?_) (fun hc=>?_) (fun hc=>?_)
  ·(walk_at "RD")
   by_cases c:val w < lo
   ·rw [if_pos (decide_eq_true c)]
    rw [decide_eq_true c,Bool.true_or] at hQ
    exact hQ
   ·rw [if_neg (by simpa using c)]
    rw [decide_eq_false c,Bool.false_or] at hQ
    exact hQ
  ·(walk_at "RD")
   have e:MG w lo hi=.non:=by unfold MG;rw [hb',hc];rfl
   rw [e] at q;exact q
  ·(walk_at "RD")
   have e:MG w lo hi=.int (val w):=by unfold MG;rw [hb',hc];rfl
   rw [e] at q;exact q
end
theorem Yq {n:Nat} (h:n < 1000):n.log2 < 1920:=by
 by_cases h0:n=0
 ·subst h0;decide
 ·rw [Nat.log2_lt h0]
  exact Nat.lt_of_lt_of_le h (Nat.le_trans (show 1000 ≤ 2 ^ 10 by decide) (Nat.pow_le_pow_right (by decide) (by decide)))
theorem II:∀ n,n < 1000→(Nat.toDigits 10 n).length ≤ 3:=by decide +kernel
theorem YL {n:Int} (h0:0 ≤ n) (h1:n ≤ 999):(Str.ofString (toString n)).length ≤ 3:=by
 have e:=PySem.W.KIN.signs_num n.toNat
 rw [Int.toNat_of_nonneg h0] at e
 have l:(Str.ofString (toString n)).length=(Str.ofString (toString n)).cps.toList.length:=by simp [Str.length]
 rw [l,e,List.length_map]
 exact II _ (by omega)
noncomputable abbrev Jj:Str:=Str.ofString "abcdefghijklmnopqrstuvwxyz"
noncomputable def WF:Sp:=fun vs H Q _=>∃ w,vs=[.str w]∧w.length ≤ 1000∧NoT H∧Q (.bl (made w Jj 8)) H
section
variable {P:Program} {w:World} {K:PySem.W.Frag} {mg:Str→Option Value} {base:Heap} {t:Adr}
theorem oM (T:Txt w K mg t):Eb P w K mg base CX0 2 t.Vm t.cn ["word"] WF:=by
 have G_is_made_of:Eb P w K mg base CX0 1 t.cg t.gg ["word","signs","most"] Wq:=GD T
 refine T.rq.ok gB (fun vs H Q E h=>?_) (fun cdv A outer s H vs Q E hr h=>?_)
 ·obtain ⟨w,rfl,_⟩:=h;rfl
 obtain ⟨w,rfl,hz,nt,q⟩:=h
 refine ⟨_,(ib (Db (wb G_is_made_of hr rfl T.Qo T.uh.kp T.Ko .nil zb (bb (pv 0) (bb (ai rfl T.dE T.qD) (bb (ai rfl T.zt T.Es) gb)))))),?_⟩
 (walk_at "RD"; repeat (simp only [Wq];walk_at "RD"))
 exact ⟨hz,nt,q⟩
end
noncomputable abbrev nl:Str:=Str.ofString "\n"
noncomputable abbrev bk:Str:=Str.ofString " "
theorem qQ:nl=⟨#[10]⟩:=by decide +kernel
theorem AK:bk=⟨#[32]⟩:=by decide +kernel
noncomputable def qj (x:Str):List (List Str):=(Txt.split x nl).map fun r=>Txt.split r bk
theorem du:∀ {ys:List Str} {y:Str},y ∈ ys→y.length ≤ (ys.map (·.length)).sum
 | [],_,h=>nomatch h
 | a :: r,y,h=>by
  rw [List.map_cons,List.sum_cons]
  rcases List.mem_cons.mp h with rfl | h
  ·omega
  ·have:=du h;omega
theorem XM {x y r:Str} (hy:1 ≤ y.length) (h:r ∈ Txt.split x y):r.length ≤ x.length + 1:=by
 have h1:=PyProof.Rows.split_weight x y hy
 have h2:=du h
 omega
theorem Lr {x y:Str} (hy:1 ≤ y.length):(Txt.split x y).length ≤ x.length + 1:=by
 have h1:=PyProof.Rows.split_weight x y hy
 omega
theorem rH (x y:Str):Txt.split x y ≠ []:=by
 unfold Txt.split
 split
 ·simp
 ·split
  ·simp
  ·rw [StrLaws.partsBetween_eq]
   obtain ⟨p,r,e⟩:=StrLaws.partsFrom_ne x y.length 0 (Builtin.Str.occurrences x y 0 x.length (x.length + 1))
   rw [e];simp
noncomputable def LL (H0 H:Hp) (p:Addr) (rows:List (List Str)):Prop:=∃ qs:List Addr,H p=some (.lst (qs.map V.ref))∧H0 p=none∧p ∉ qs∧qs.length=rows.length∧∀ (i:Nat) (q:Addr) (r:List Str),qs[i]? = some q→rows[i]? = some r→H q=some (.lst (Rb r))∧H0 q=none
noncomputable def Nz:Sp:=fun vs H Q _=>∃ x,vs=[.str x]∧x.length ≤ 20000∧NoT H∧∀ p H',Zb H H'→NoT H'→LL H H' p (qj x)→Q (.ref p) H'
theorem lA:nl.length=1:=by decide +kernel
theorem Gw:bk.length=1:=by decide +kernel
section
variable {P:Program} {w:World} {K:PySem.W.Frag} {mg:Str→Option Value} {base:Heap} {t:Adr}
theorem HI (T:Txt w K mg t):Eb P w K mg base CX0 1 t.Lu t.Iv ["text"] Nz:=by
 refine T.Yy.ok pI (fun vs H Q E h=>?_) (fun cdv A outer s H vs Q E hr h=>?_)
 ·obtain ⟨x,rfl,_⟩:=h;rfl
 obtain ⟨x,rfl,hz,nt,q⟩:=h
 have hzz:∀ n:Nat,n ≤ 40000→n ≤ sizeLine:=fun n h=>Nat.le_trans h (by decide)
 refine ⟨_,(ib (Db (jk rfl (ce (jo PySem.F.plainAttrs_str PySem.F.slot_str_split PySem.F.type_str_split Bz (pv 0) (bb yc gb))) (Nd (sc:=jb Dy) rfl (by decide +kernel)) (N:=["row"]) (sel:=[none]) (ve (M:=["text"]) (by decide +kernel)) (Blk.of (fun _ _ _ _=>(yb (i:=0) (yi (N:=["row"]) (by decide +kernel) rfl) rfl (Or.inl rfl))) (fun _ _ _ _=>⟨_,Tg,by first | rfl | (dsimp only [Cx.block];done) | (dsimp only [Cx.block];exact rfl)⟩) (fun _ _ _ _=>⟨_,(jo PySem.F.plainAttrs_str PySem.F.slot_str_split PySem.F.type_str_split Bz (pv 0) (bb yc gb)),by first | rfl | (dsimp only [Cx.block];done) | (dsimp only [Cx.block];exact rfl)⟩))))),?_⟩
 (walk_at "RD")
 have hy:1 ≤ nl.length:=by rw [lA];exact Nat.le_refl _
 have hy2:1 ≤ bk.length:=by rw [Gw];exact Nat.le_refl _
 have hs:=Lr (x:=x) hy
 have hs':(Rb (Txt.split x nl)).length ≤ sizeLine:=by unfold Rb;rw [List.length_map];exact hzz _ (by omega)
 refine ⟨by rw [lA];decide,hzz _ (by omega),hzz _ (show (Txt.split x nl).length ≤ 40000 by omega),fun p hp=>⟨⟨_,SqL.of fb⟩,?_⟩⟩
 refine Pd.list_mk (xs:=Rb (Txt.split x nl)) (fun v=>match v with | .str r=>.lst (Rb (Txt.split r bk)) | _=>.lst []) (SqL.of fb) hs' (fun v=>by cases v <;> rfl) (fun i v H1 N hx sm nt1 hN=>?_) (fun qs H1 sm nt1 hl al p2 hp2=>?_)
 ·unfold Rb at hx
  rw [List.getElem?_map] at hx
  cases hr:(Txt.split x nl)[i]? with
  | none=>rw [hr] at hx;cases hx
  | some r=>
   rw [hr] at hx
   have e:=Option.some.inj hx
   subst e
   have hm:=XM hy (List.mem_of_getElem? hr)
   have hs2:=Lr (x:=r) hy2
   (walk_at "RD")
   exact ⟨Sub.name,by rw [Gw];decide,hzz _ (by omega),hzz _ (show (Txt.split r bk).length ≤ 40000 by omega),hN⟩
 ·have sm0:Zb H H1:=(qb hp).trans sm
  refine q _ _ (sm0.updN (sm0.free hp2)) ((nt1 (nt.upd)).upd) ⟨qs,fb,sm0.free hp2,fun hm=>?_,?_,fun i q' r h1 h2=>?_⟩
  ·obtain ⟨j,hj,e⟩:=List.getElem_of_mem hm
   have hj2:j < (Rb (Txt.split x nl)).length:=by omega
   have:=al j p2 _ (by rw [List.getElem?_eq_getElem hj,e]) (List.getElem?_eq_getElem hj2)
   rw [hp2] at this
   cases this.1
  ·rw [hl];unfold qj Rb;rw [List.length_map,List.length_map]
  ·unfold qj at h2
   rw [List.getElem?_map] at h2
   cases hr:(Txt.split x nl)[i]? with
   | none=>rw [hr] at h2;cases h2
   | some r0=>
    rw [hr] at h2
    have e:=Option.some.inj h2
    subst e
    have z:=al i q' (.str r0) h1 (by unfold Rb;rw [List.getElem?_map,hr];rfl)
    refine ⟨by rw [pb (ub z.1 hp2)];exact z.1,?_⟩
    have:=z.2
    by_cases hq:q'=p
    ·rw [hq];exact hp
    ·rwa [pb hq] at this
end
end My
namespace My
open PySem L2
structure WD where
 k:Nat
 name:Str
 start:Int
 fin:Int
 off:Int
 near:Int
 least:Int
noncomputable def Kd:Nat→Str
 | 0=>Str.ofString "car"
 | 1=>Str.ofString "foot"
 | _=>Str.ofString "tram"
noncomputable def Adr.cw (t:Adr):Nat→Addr
 | 0=>t.Qc
 | 1=>t.vc
 | _=>t.xc
noncomputable def Bp (d:WD):List (Str × V):=[(Str.ofString "kind",.str (Kd d.k)),(Str.ofString "name",.str d.name),(Str.ofString "start",.int d.start),(Str.ofString "end",.int d.fin),(Str.ofString "off",.int d.off),(Str.ofString "near",.int d.near),(Str.ofString "least",.int d.least)]
noncomputable abbrev kt:List Str:=[Str.ofString "kind",Str.ofString "name",Str.ofString "start",Str.ofString "end",Str.ofString "off",Str.ofString "near",Str.ofString "least"]
theorem Yt (d:WD):(Bp d).map (·.1)=kt:=rfl
noncomputable def Wd (t:Adr) (H:Hp) (p:Addr) (d:WD):Prop:=d.k < 3∧∃ dx,H p=some (.ins (t.cw d.k) dx (Bp d))
theorem Wd.same {t:Adr} {H H':Hp} {p:Addr} {d:WD} (h:Wd t H p d) (s:Zb H H'):Wd t H' p d:=⟨h.1,h.2.imp fun dx e=>s _ _ e⟩
noncomputable def isW (t:Adr) (C:Addr):Prop:=∃ k,k < 3∧C=t.cw k
noncomputable def Gc (d:WD):Int:=match d.k with | 0=>1 | 1=>0 | _=>2
noncomputable def be (d:WD):Int:=match d.k with | 0=>2 | 1=>d.off | _=>1
noncomputable def Qn (d:WD) (n:Int):Int:=match d.k with | 1=>n | _=>if 1 < n then 1 else n
section
variable {w:World} {K:PySem.W.Frag} {mg:Str→Option Value} {t:Adr}
theorem Txt.clw (T:Txt w K mg t):∀ k,Cls K (t.cw k)
 | 0=>T.dn
 | 1=>T.Kk
 | _ + 2=>T.xk
theorem Txt.naw (T:Txt w K mg t) {f:Str} (hf:f ∈ kt):∀ k,Fb K (t.cw k) f:=by
 intro k
 simp only [kt,List.mem_cons,List.not_mem_nil,or_false] at hf
 rcases hf with rfl | rfl | rfl | rfl | rfl | rfl | rfl
 ·match k with
  | 0=>exact T.wt
  | 1=>exact T.nq
  | _ + 2=>exact T.Sr
 ·match k with
  | 0=>exact T.Nt
  | 1=>exact T.ar
  | _ + 2=>exact T.gq
 ·match k with
  | 0=>exact T.iq
  | 1=>exact T.rp
  | _ + 2=>exact T.vp
 ·match k with
  | 0=>exact T.Jv
  | 1=>exact T.Ms
  | _ + 2=>exact T.Zs
 ·match k with
  | 0=>exact T.gv
  | 1=>exact T.Gs
  | _ + 2=>exact T.Dt
 ·match k with
  | 0=>exact T.Ft
  | 1=>exact T.Sq
  | _ + 2=>exact T.Dq
 ·match k with
  | 0=>exact T.cq
  | 1=>exact T.Ap
  | _ + 2=>exact T.up
theorem Txt.cw_inj (T:Txt w K mg t) {j k:Nat} (hj:j < 3) (hk:k < 3) (e:t.cw j=t.cw k):j=k:=by
 match j,k,hj,hk with
 | 0,0,_,_=>rfl
 | 0,1,_,_=>exact absurd e T.ni
 | 0,2,_,_=>exact absurd e T.si
 | 1,0,_,_=>exact absurd e.symm T.ni
 | 1,1,_,_=>rfl
 | 1,2,_,_=>exact absurd e T.Fh
 | 2,0,_,_=>exact absurd e.symm T.si
 | 2,1,_,_=>exact absurd e.symm T.Fh
 | 2,2,_,_=>rfl
 | j + 3,_,h,_=>omega
 | _,k + 3,_,h=>omega
theorem Wd.fld (T:Txt w K mg t) {H:Hp} {p:Addr} {d:WD} (h:Wd t H p d) {f:Str} {v:V} (i:Nat) (hi:kt.findIdx? (· == f)=some i) (hv:(Bp d)[i]? = some (f,v)):wj K H p f v:=by
 obtain ⟨_,dx,e⟩:=h
 have hm:f ∈ kt:=by
  obtain ⟨hlt,h1,_⟩:=List.findIdx?_eq_some_iff_getElem.mp hi
  have:kt[i]=f:=by simpa using h1
  rw [← this];exact List.getElem_mem hlt
 exact ⟨_,dx,_,e,T.clw _,T.naw hm _,yd kt i (Yt d) hi hv⟩
theorem Wd.f_name (T:Txt w K mg t) {H:Hp} {p:Addr} {d:WD} (h:Wd t H p d):wj K H p (Str.ofString "name") (.str d.name):=h.fld T 1 (by decide +kernel) rfl
theorem Wd.f_start (T:Txt w K mg t) {H:Hp} {p:Addr} {d:WD} (h:Wd t H p d):wj K H p (Str.ofString "start") (.int d.start):=h.fld T 2 (by decide +kernel) rfl
theorem Wd.f_end (T:Txt w K mg t) {H:Hp} {p:Addr} {d:WD} (h:Wd t H p d):wj K H p (Str.ofString "end") (.int d.fin):=h.fld T 3 (by decide +kernel) rfl
theorem Wd.f_off (T:Txt w K mg t) {H:Hp} {p:Addr} {d:WD} (h:Wd t H p d):wj K H p (Str.ofString "off") (.int d.off):=h.fld T 4 (by decide +kernel) rfl
theorem Wd.f_near (T:Txt w K mg t) {H:Hp} {p:Addr} {d:WD} (h:Wd t H p d):wj K H p (Str.ofString "near") (.int d.near):=h.fld T 5 (by decide +kernel) rfl
theorem Wd.f_least (T:Txt w K mg t) {H:Hp} {p:Addr} {d:WD} (h:Wd t H p d):wj K H p (Str.ofString "least") (.int d.least):=h.fld T 6 (by decide +kernel) rfl
end
noncomputable def dw (t:Adr):Sp:=fun vs H Q _=>∃ (p dx:Addr) (d:WD),vs=[.ref p,.str (Kd d.k),.str d.name,.int d.start,.int d.fin,.int d.off,.int d.near,.int d.least]∧d.k < 3∧H p=some (.ins (t.cw d.k) dx [])∧Q .non (upd H p (.ins (t.cw d.k) dx (Bp d)))
noncomputable def Hk (t:Adr) (k:Nat):Sp:=fun vs H Q _=>∃ (p dx:Addr) (d:WD),vs=[.ref p,.str d.name,.int d.start,.int d.fin,.int d.off,.int d.near,.int d.least]∧d.k=k∧H p=some (.ins (t.cw d.k) dx [])∧Q .non (upd H p (.ins (t.cw d.k) dx (Bp d)))
section
variable {P:Program} {w:World} {K:PySem.W.Frag} {mg:Str→Option Value} {base:Heap} {t:Adr}
theorem Ux (T:Txt w K mg t):Eb P w K mg base CX0 1 t.vf t.Pg ["self","kind","name","start","end","off","near","least"] (dw t):=by
 refine T.bu.ok Hr (fun vs H Q E h=>?_) (fun cdv A outer s H vs Q E hr h=>?_)
 ·obtain ⟨p,dx,d,rfl,_⟩:=h;rfl
 obtain ⟨p,dx,d,rfl,hk,hp,q⟩:=h
 refine ⟨_,(db (qf (pv 0) (pv 1) rfl)
   (db (qf (pv 0) (pv 2) rfl)
   (db (qf (pv 0) (pv 3) rfl)
   (db (qf (pv 0) (pv 4) rfl)
   (db (qf (pv 0) (pv 5) rfl)
   (db (qf (pv 0) (pv 6) rfl)
   (ib (qf (pv 0) (pv 7) rfl)))))))),?_⟩
 (walk_at "RD")
 have na:∀ {f:Str},f ∈ kt→Fb K (t.cw d.k) f:=fun hf=>T.naw hf d.k
 refine ⟨_,_,_,hp,T.clw _,na (by decide +kernel),by decide,?_⟩
 refine ⟨_,_,_,fb,T.clw _,na (by decide +kernel),Fn (n:=999) (by decide),?_⟩
 refine ⟨_,_,_,fb,T.clw _,na (by decide +kernel),Fn (n:=999) (Fn (n:=998) (by decide)),?_⟩
 refine ⟨_,_,_,fb,T.clw _,na (by decide +kernel),Fn (n:=999) (Fn (n:=998) (Fn (n:=997) (by decide))),?_⟩
 refine ⟨_,_,_,fb,T.clw _,na (by decide +kernel),Fn (n:=999) (Fn (n:=998) (Fn (n:=997) (Fn (n:=996) (by decide)))),?_⟩
 refine ⟨_,_,_,fb,T.clw _,na (by decide +kernel),Fn (n:=999) (Fn (n:=998) (Fn (n:=997) (Fn (n:=996) (Fn (n:=995) (by decide))))),?_⟩
 refine ⟨_,_,_,fb,T.clw _,na (by decide +kernel),Fn (n:=999) (Fn (n:=998) (Fn (n:=997) (Fn (n:=996) (Fn (n:=995) (Fn (n:=994) (by decide)))))),?_⟩
 simp only [Bj]
 rw [show Qg (Str.ofString "kind") (V.str (Kd d.k)) ([]:List (Str × V))=[(Str.ofString "kind",V.str (Kd d.k))] from Vc [] rfl (by decide +kernel),
  show Qg (Str.ofString "name") (V.str d.name) ([(Str.ofString "kind",V.str (Kd d.k))]:List (Str × V))=[(Str.ofString "kind",V.str (Kd d.k)),(Str.ofString "name",V.str d.name)] from Vc [Str.ofString "kind"] rfl (by decide +kernel),
  show Qg (Str.ofString "start") (V.int d.start) ([(Str.ofString "kind",V.str (Kd d.k)),(Str.ofString "name",V.str d.name)]:List (Str × V))=[(Str.ofString "kind",V.str (Kd d.k)),(Str.ofString "name",V.str d.name),(Str.ofString "start",V.int d.start)] from Vc [Str.ofString "kind",Str.ofString "name"] rfl (by decide +kernel),
  show Qg (Str.ofString "end") (V.int d.fin) ([(Str.ofString "kind",V.str (Kd d.k)),(Str.ofString "name",V.str d.name),(Str.ofString "start",V.int d.start)]:List (Str × V))=[(Str.ofString "kind",V.str (Kd d.k)),(Str.ofString "name",V.str d.name),(Str.ofString "start",V.int d.start),(Str.ofString "end",V.int d.fin)] from Vc [Str.ofString "kind",Str.ofString "name",Str.ofString "start"] rfl (by decide +kernel),
  show Qg (Str.ofString "off") (V.int d.off) ([(Str.ofString "kind",V.str (Kd d.k)),(Str.ofString "name",V.str d.name),(Str.ofString "start",V.int d.start),(Str.ofString "end",V.int d.fin)]:List (Str × V))=[(Str.ofString "kind",V.str (Kd d.k)),(Str.ofString "name",V.str d.name),(Str.ofString "start",V.int d.start),(Str.ofString "end",V.int d.fin),(Str.ofString "off",V.int d.off)] from Vc [Str.ofString "kind",Str.ofString "name",Str.ofString "start",Str.ofString "end"] rfl (by decide +kernel),
  show Qg (Str.ofString "near") (V.int d.near) ([(Str.ofString "kind",V.str (Kd d.k)),(Str.ofString "name",V.str d.name),(Str.ofString "start",V.int d.start),(Str.ofString "end",V.int d.fin),(Str.ofString "off",V.int d.off)]:List (Str × V))=[(Str.ofString "kind",V.str (Kd d.k)),(Str.ofString "name",V.str d.name),(Str.ofString "start",V.int d.start),(Str.ofString "end",V.int d.fin),(Str.ofString "off",V.int d.off),(Str.ofString "near",V.int d.near)] from Vc [Str.ofString "kind",Str.ofString "name",Str.ofString "start",Str.ofString "end",Str.ofString "off"] rfl (by decide +kernel),
  show Qg (Str.ofString "least") (V.int d.least) ([(Str.ofString "kind",V.str (Kd d.k)),(Str.ofString "name",V.str d.name),(Str.ofString "start",V.int d.start),(Str.ofString "end",V.int d.fin),(Str.ofString "off",V.int d.off),(Str.ofString "near",V.int d.near)]:List (Str × V))=[(Str.ofString "kind",V.str (Kd d.k)),(Str.ofString "name",V.str d.name),(Str.ofString "start",V.int d.start),(Str.ofString "end",V.int d.fin),(Str.ofString "off",V.int d.off),(Str.ofString "near",V.int d.near),(Str.ofString "least",V.int d.least)] from Vc [Str.ofString "kind",Str.ofString "name",Str.ofString "start",Str.ofString "end",Str.ofString "off",Str.ofString "near"] rfl (by decide +kernel)]
 exact q
theorem LM (T:Txt w K mg t):Eb P w K mg base CX0 2 t.gf t.Fg ["self","name","start","end","off","near","least"] (Hk t 0):=by
 have G_Way_init:Eb P w K mg base CX0 1 t.vf t.Pg ["self","kind","name","start","end","off","near","least"] (dw t):=Ux T
 refine T.jn.ok Ym (fun vs H Q E h=>?_) (fun cdv A outer s H vs Q E hr h=>?_)
 ·obtain ⟨p,dx,d,rfl,_⟩:=h;rfl
 obtain ⟨p,dx,d,rfl,hk,hp,q⟩:=h
 refine ⟨_,(ib (Cc (fv rfl T.aM T.Vn G_Way_init hr T.Mn .nil zb (bb (pv 0) (bb yc (bb (pv 1) (bb (pv 2) (bb (pv 3) (bb (pv 4) (bb (pv 5) (bb (pv 6) gb))))))))))),?_⟩
 (walk_at "RD")
 exact ⟨p,dx,d,by rw [hk];rfl,by omega,hp,q⟩
theorem YI (T:Txt w K mg t):Eb P w K mg base CX0 2 t.Je t.Qf ["self","name","start","end","off","near","least"] (Hk t 1):=by
 have G_Way_init:Eb P w K mg base CX0 1 t.vf t.Pg ["self","kind","name","start","end","off","near","least"] (dw t):=Ux T
 refine T.ol.ok mm (fun vs H Q E h=>?_) (fun cdv A outer s H vs Q E hr h=>?_)
 ·obtain ⟨p,dx,d,rfl,_⟩:=h;rfl
 obtain ⟨p,dx,d,rfl,hk,hp,q⟩:=h
 refine ⟨_,(ib (Cc (fv rfl T.aM T.Vn G_Way_init hr T.Mn .nil zb (bb (pv 0) (bb yc (bb (pv 1) (bb (pv 2) (bb (pv 3) (bb (pv 4) (bb (pv 5) (bb (pv 6) gb))))))))))),?_⟩
 (walk_at "RD")
 exact ⟨p,dx,d,by rw [hk];rfl,by omega,hp,q⟩
theorem BI (T:Txt w K mg t):Eb P w K mg base CX0 2 t.Ie t.Hf ["self","name","start","end","off","near","least"] (Hk t 2):=by
 have G_Way_init:Eb P w K mg base CX0 1 t.vf t.Pg ["self","kind","name","start","end","off","near","least"] (dw t):=Ux T
 refine T.Ol.ok Tl (fun vs H Q E h=>?_) (fun cdv A outer s H vs Q E hr h=>?_)
 ·obtain ⟨p,dx,d,rfl,_⟩:=h;rfl
 obtain ⟨p,dx,d,rfl,hk,hp,q⟩:=h
 refine ⟨_,(ib (Cc (fv rfl T.aM T.Vn G_Way_init hr T.Mn .nil zb (bb (pv 0) (bb yc (bb (pv 1) (bb (pv 2) (bb (pv 3) (bb (pv 4) (bb (pv 5) (bb (pv 6) gb))))))))))),?_⟩
 (walk_at "RD")
 exact ⟨p,dx,d,by rw [hk];rfl,by omega,hp,q⟩
end
noncomputable def Di (t:Adr) (C:Addr):Sp:=fun vs H Q _=>∃ p d,vs=[.ref p]∧Wd t H p d∧C=t.cw d.k∧Q (.int (Gc d)) H
noncomputable def wk (t:Adr) (C:Addr):Sp:=fun vs H Q _=>∃ p d,vs=[.ref p]∧Wd t H p d∧C=t.cw d.k∧Q (.int (be d)) H
section
variable {P:Program} {w:World} {K:PySem.W.Frag} {mg:Str→Option Value} {base:Heap} {t:Adr}
theorem Iq (T:Txt w K mg t):Eb P w K mg base CX0 1 t.Pf t.Xh ["self"] (Di t (t.cw 0)):=by
 refine T.Fl.ok ss (fun vs H Q E h=>?_) (fun cdv A outer s H vs Q E hr h=>?_)
 ·obtain ⟨p,d,rfl,_⟩:=h;rfl
 obtain ⟨p,d,rfl,W,hC,q⟩:=h
 have hk:=(T.cw_inj (by decide) W.1 hC).symm
 refine ⟨_,(ib (Db lb)),?_⟩
 rw [show Gc d=1 by unfold Gc;simp only [hk]] at q
 (walk_at "RD")
 exact q
theorem Cp (T:Txt w K mg t):Eb P w K mg base CX0 1 t.bf t.dh ["self"] (Di t (t.cw 1)):=by
 refine T.ik.ok zp (fun vs H Q E h=>?_) (fun cdv A outer s H vs Q E hr h=>?_)
 ·obtain ⟨p,d,rfl,_⟩:=h;rfl
 obtain ⟨p,d,rfl,W,hC,q⟩:=h
 have hk:=(T.cw_inj (by decide) W.1 hC).symm
 refine ⟨_,(ib (Db lb)),?_⟩
 rw [show Gc d=0 by unfold Gc;simp only [hk]] at q
 (walk_at "RD")
 exact q
theorem pp (T:Txt w K mg t):Eb P w K mg base CX0 1 t.mf t.bh ["self"] (Di t (t.cw 2)):=by
 refine T.nk.ok np (fun vs H Q E h=>?_) (fun cdv A outer s H vs Q E hr h=>?_)
 ·obtain ⟨p,d,rfl,_⟩:=h;rfl
 obtain ⟨p,d,rfl,W,hC,q⟩:=h
 have hk:=(T.cw_inj (by decide) W.1 hC).symm
 refine ⟨_,(ib (Db lb)),?_⟩
 rw [show Gc d=2 by unfold Gc;simp only [hk]] at q
 (walk_at "RD")
 exact q
theorem vC (T:Txt w K mg t):wB P w K mg base CX0 1 (isW t) "ready" ["self"] (Di t):=by
 refine ⟨fun C hC=>?_⟩
 obtain ⟨k,hk,rfl⟩:=hC
 match k,hk with
 | 0,_=>exact ⟨_,_,T.dn,T.Rt,Iq T,T.Ys⟩
 | 1,_=>exact ⟨_,_,T.Kk,T.Cr,Cp T,T.zq⟩
 | 2,_=>exact ⟨_,_,T.xk,T.xq,pp T,T.Oq⟩
theorem Jt (T:Txt w K mg t):Eb P w K mg base CX0 1 t.Kg t.Qi ["self"] (wk t (t.cw 0)):=by
 refine T.Jm.ok yt (fun vs H Q E h=>?_) (fun cdv A outer s H vs Q E hr h=>?_)
 ·obtain ⟨p,d,rfl,_⟩:=h;rfl
 obtain ⟨p,d,rfl,W,hC,q⟩:=h
 have hk:=(T.cw_inj (by decide) W.1 hC).symm
 refine ⟨_,(ib (Db lb)),?_⟩
 rw [show be d=2 by unfold be;simp only [hk]] at q
 (walk_at "RD")
 exact q
theorem cr (T:Txt w K mg t):Eb P w K mg base CX0 1 t.Mf t.Sh ["self"] (wk t (t.cw 1)):=by
 refine T.ql.ok tq (fun vs H Q E h=>?_) (fun cdv A outer s H vs Q E hr h=>?_)
 ·obtain ⟨p,d,rfl,_⟩:=h;rfl
 obtain ⟨p,d,rfl,W,hC,q⟩:=h
 have hk:=(T.cw_inj (by decide) W.1 hC).symm
 refine ⟨_,(ib (Db (Vb (pv 0) rfl))),?_⟩
 rw [show be d=d.off by unfold be;simp only [hk]] at q
 (walk_at "RD")
 exact ⟨_,W.f_off T,q⟩
theorem yq (T:Txt w K mg t):Eb P w K mg base CX0 1 t.Vf t.Rh ["self"] (wk t (t.cw 2)):=by
 refine T.xl.ok Er (fun vs H Q E h=>?_) (fun cdv A outer s H vs Q E hr h=>?_)
 ·obtain ⟨p,d,rfl,_⟩:=h;rfl
 obtain ⟨p,d,rfl,W,hC,q⟩:=h
 have hk:=(T.cw_inj (by decide) W.1 hC).symm
 refine ⟨_,(ib (Db lb)),?_⟩
 rw [show be d=1 by unfold be;simp only [hk]] at q
 (walk_at "RD")
 exact q
theorem GJ (T:Txt w K mg t):wB P w K mg base CX0 1 (isW t) "fade" ["self"] (wk t):=by
 refine ⟨fun C hC=>?_⟩
 obtain ⟨k,hk,rfl⟩:=hC
 match k,hk with
 | 0,_=>exact ⟨_,_,T.dn,T.Ev,Jt T,T.Qv⟩
 | 1,_=>exact ⟨_,_,T.Kk,T.Ss,cr T,T.Kt⟩
 | 2,_=>exact ⟨_,_,T.xk,T.jt,yq T,T.dt⟩
end
noncomputable def Pk (t:Adr) (C:Addr):Sp:=fun vs H Q _=>∃ p d n,vs=[.ref p,.int n]∧Wd t H p d∧C=t.cw d.k∧Q (.int (Qn d n)) H
section
variable {P:Program} {w:World} {K:PySem.W.Frag} {mg:Str→Option Value} {base:Heap} {t:Adr}
theorem Os (T:Txt w K mg t):Eb P w K mg base CX0 1 t.Mg t.Ji ["self","many"] (Pk t (t.cw 0)):=by
 refine T.Im.ok Bt (fun vs H Q E h=>?_) (fun cdv A outer s H vs Q E hr h=>?_)
 ·obtain ⟨p,d,n,rfl,_⟩:=h;rfl
 obtain ⟨p,d,n,rfl,W,hC,q⟩:=h
 have hk:=(T.cw_inj (by decide) W.1 hC).symm
 refine ⟨_,(ib (Db (gc (Yr rfl) rfl T.EI xo (bb (pv 1) (bb lb gb))))),?_⟩
 rw [show Qn d n=(if 1 < n then 1 else n) by unfold Qn;simp only [hk]] at q
 (walk_at "RD")
 exact q
theorem Dr (T:Txt w K mg t):Eb P w K mg base CX0 1 t.Ef t.Vh ["self","many"] (Pk t (t.cw 1)):=by
 refine T.ul.ok kq (fun vs H Q E h=>?_) (fun cdv A outer s H vs Q E hr h=>?_)
 ·obtain ⟨p,d,n,rfl,_⟩:=h;rfl
 obtain ⟨p,d,n,rfl,W,hC,q⟩:=h
 have hk:=(T.cw_inj (by decide) W.1 hC).symm
 refine ⟨_,(ib (Db (pv 1))),?_⟩
 rw [show Qn d n=n by unfold Qn;simp only [hk]] at q
 (walk_at "RD")
 exact q
theorem Xq (T:Txt w K mg t):Eb P w K mg base CX0 1 t.Lf t.Th ["self","many"] (Pk t (t.cw 2)):=by
 refine T.Hl.ok Tr (fun vs H Q E h=>?_) (fun cdv A outer s H vs Q E hr h=>?_)
 ·obtain ⟨p,d,n,rfl,_⟩:=h;rfl
 obtain ⟨p,d,n,rfl,W,hC,q⟩:=h
 have hk:=(T.cw_inj (by decide) W.1 hC).symm
 refine ⟨_,(ib (Db (gc (Yr rfl) rfl T.EI xo (bb (pv 1) (bb lb gb))))),?_⟩
 rw [show Qn d n=(if 1 < n then 1 else n) by unfold Qn;simp only [hk]] at q
 (walk_at "RD")
 exact q
theorem oJ (T:Txt w K mg t):wB P w K mg base CX0 1 (isW t) "goes" ["self","many"] (Pk t):=by
 refine ⟨fun C hC=>?_⟩
 obtain ⟨k,hk,rfl⟩:=hC
 match k,hk with
 | 0,_=>exact ⟨_,_,T.dn,T.aw,Os T,T.Qu⟩
 | 1,_=>exact ⟨_,_,T.Kk,T.ft,Dr T,T.Fs⟩
 | 2,_=>exact ⟨_,_,T.xk,T.Ts,Xq T,T.Ct⟩
end
noncomputable def jl (c:Nat):List (List Nat)→List Nat
 | []=>[]
 | [a]=>a
 | a :: b :: r=>a ++ c :: jl c (b :: r)
theorem kF {c:Nat}:∀ {a b X Y:List Nat},c ∉ a→c ∉ b→a ++ c :: X=b ++ c :: Y→a=b∧X=Y
 | [],[],X,Y,_,_,h=>⟨rfl,(List.cons.inj h).2⟩
 | [],d :: b,X,Y,_,hb,h=>absurd (List.cons.inj h).1 (fun z=>hb (by simp [← z]))
 | d :: a,[],X,Y,ha,_,h=>absurd (List.cons.inj h).1 (fun z=>ha (by simp [z]))
 | d :: a,e :: b,X,Y,ha,hb,h=>by
  obtain ⟨h1,h2⟩:=List.cons.inj h
  obtain ⟨e1,e2⟩:=kF (fun z=>ha (List.mem_cons_of_mem _ z)) (fun z=>hb (List.mem_cons_of_mem _ z)) h2
  exact ⟨by rw [h1,e1],e2⟩
theorem xJ {c:Nat}:∀ {ps qs:List (List Nat)},(∀ p ∈ ps,c ∉ p)→(∀ q ∈ qs,c ∉ q)→ps ≠ []→qs ≠ []→jl c ps=jl c qs→ps=qs
 | [a],[b],_,_,_,_,h=>by rw [show a=b from h]
 | [a],b :: b' :: r,ha,_,_,_,h=>absurd (show c ∈ a by rw [show a=b ++ c :: jl c (b' :: r) from h];simp) (ha a (by simp))
 | a :: a' :: r,[b],_,hb,_,_,h=>absurd (show c ∈ b by rw [show b=a ++ c :: jl c (a' :: r) from h.symm];simp) (hb b (by simp))
 | a :: a' :: r,b :: b' :: s,ha,hb,_,_,h=>by
  obtain ⟨e1,e2⟩:=kF (ha a (by simp)) (hb b (by simp)) (show a ++ c :: jl c (a' :: r)=b ++ c :: jl c (b' :: s) from h)
  rw [e1,xJ (fun p hp=>ha p (List.mem_cons_of_mem _ hp)) (fun q hq=>hb q (List.mem_cons_of_mem _ hq)) (by simp) (by simp) e2]
 | [],_,_,_,h,_,_=>absurd rfl h
 | _ :: _,[],_,_,_,h,_=>absurd rfl h
theorem nJ {c d:Nat}:∀ {ps:List (List Nat)},d ∈ jl c ps→d=c∨∃ p ∈ ps,d ∈ p
 | [],h=>nomatch h
 | [a],h=>.inr ⟨a,by simp,h⟩
 | a :: b :: r,h=>by
  rcases List.mem_append.mp (show d ∈ a ++ c :: jl c (b :: r) from h) with h | h
  ·exact .inr ⟨a,by simp,h⟩
  ·rcases List.mem_cons.mp h with h | h
   ·exact .inl h
   ·rcases nJ h with h | ⟨p,hp,h⟩
    ·exact .inl h
    ·exact .inr ⟨p,List.mem_cons_of_mem _ hp,h⟩
theorem Do (c:Nat):∀ ys:List Str,(Str.join ⟨#[c]⟩ ys).cps.toList=jl c (ys.map (·.cps.toList))
 | []=>rfl
 | [a]=>rfl
 | a :: b :: r=>by
  show (a ++ ⟨#[c]⟩ ++ Str.join ⟨#[c]⟩ (b :: r)).cps.toList=_
  rw [Str.cps_append,Array.toList_append,Str.cps_append,Array.toList_append,Do c (b :: r)]
  simp [jl]
theorem tz {x y:Str} (h:x.cps.toList=y.cps.toList):x=y:=by
 cases x;cases y
 exact congrArg Str.mk (Array.toList_inj.mp h)
theorem uu {c:Nat} {ys:List Str} (hn:ys ≠ []) (hf:∀ y ∈ ys,c ∉ y.cps.toList):Txt.split (Str.join ⟨#[c]⟩ ys) ⟨#[c]⟩=ys:=by
 have e:=congrArg (·.cps.toList) (StrLaws.join_split (Str.join ⟨#[c]⟩ ys) ⟨#[c]⟩)
 simp only [Do] at e
 have e2:=xJ (c:=c) (ps:=(Txt.split (Str.join ⟨#[c]⟩ ys) ⟨#[c]⟩).map (·.cps.toList)) (qs:=ys.map (·.cps.toList)) (fun p hp=>by
  obtain ⟨y,hy,rfl⟩:=List.mem_map.mp hp
  exact StrLaws.split_free _ c y hy) (fun p hp=>by
  obtain ⟨y,hy,rfl⟩:=List.mem_map.mp hp
  exact hf y hy) (by simp [rH]) (by simpa using hn) e
 exact (List.map_inj_right fun x y h=>tz h).mp e2
noncomputable abbrev num (v:Int):Str:=Str.ofString (toString v)
theorem SM:∀ n,n < 1000→(decide (1 ≤ ((Nat.toDigits 10 n).map Char.toNat).length) && decide (((Nat.toDigits 10 n).map Char.toNat).length ≤ 3) && ((Nat.toDigits 10 n).map Char.toNat).all yp && (decide (((Nat.toDigits 10 n).map Char.toNat).length ≤ 1) || decide (((Nat.toDigits 10 n).map Char.toNat).headD 0 ≠ 48)) &&
  decide (NumText.digitsVal ((Nat.toDigits 10 n).map Char.toNat)=n))=true:=by decide +kernel
theorem xz {v:Int} (h0:0 ≤ v) (h1:v < 1000):okB (num v)=true∧val (num v)=v:=by
 have e:=PySem.W.KIN.signs_num v.toNat
 rw [Int.toNat_of_nonneg h0] at e
 have a:=SM v.toNat (by omega)
 rw [← e,Bool.and_eq_true,decide_eq_true_eq] at a
 exact ⟨a.1,by show ((NumText.digitsVal (cs (num v)):Nat):Int)=v;rw [a.2];omega⟩
theorem Kn {v lo hi:Int} (h0:0 ≤ v) (h1:v < 1000) (hl:lo ≤ v) (hh:v ≤ hi):MG (num v) lo hi=.int v:=by
 obtain ⟨a,b⟩:=xz h0 h1
 unfold MG
 rw [a,b,decide_eq_false (by omega:¬ v < lo),decide_eq_false (by omega:¬ hi < v)];rfl
theorem LK {u v:Int} (h0:0 ≤ u) (h1:u < 1000) (h2:0 ≤ v) (h3:v < 1000) (e:num u=num v):u=v:=by
 rw [← (xz h0 h1).2,e,(xz h2 h3).2]
theorem NA {v:Int} (h0:0 ≤ v) (h1:v < 1000):∀ c ∈ (num v).cps.toList,48 ≤ c∧c ≤ 57:=fun c hc=>by
 have:=List.all_eq_true.mp (uO (xz h0 h1).1).2 c hc
 simpa [yp] using this
theorem TN:∀ c ∈ Jj.cps.toList,97 ≤ c∧c ≤ 122:=by decide +kernel
theorem rh {x:Str} (h:made x Jj 8=true):(1 ≤ x.length∧x.length ≤ 8)∧∀ c ∈ x.cps.toList,97 ≤ c∧c ≤ 122:=by
 unfold made at h
 split at h
 ·cases h
 ·rename_i h1
  split at h
  ·cases h
  ·rename_i h2
   have h3:¬ x.length=0:=fun z=>h1 (zQ.mpr z)
   refine ⟨by omega,fun c hc=>?_⟩
   have:=List.all_eq_true.mp h c hc
   rw [fG] at this
   exact TN c (of_decide_eq_true this)
structure WOk (n:Int) (d:WD):Prop where
 k:d.k < 3
 nm:made d.name Jj 8=true
 st:0 ≤ d.start∧d.start < n
 fi:0 ≤ d.fin∧d.fin < n
 ne:d.start ≠ d.fin
 of:0 ≤ d.off∧d.off ≤ 30
 nr:0 ≤ d.near∧d.near ≤ 30
 le:1 ≤ d.least∧d.least ≤ 60
structure COk (n:Int) (ds:List WD):Prop where
 nn:2 ≤ n∧n ≤ 99
 ln:1 ≤ ds.length∧ds.length ≤ 12
 al:∀ d ∈ ds,WOk n d
 nd:(ds.map (·.name)).Nodup
noncomputable def Zj (d:WD):List Str:=[Kd d.k,d.name,num d.start,num d.fin,num d.off,num d.near,num d.least]
noncomputable def Wh (n:Int) (ds:List WD):List (List Str):=[Str.ofString "ring",num n] :: ds.map Zj
noncomputable def Kv (n:Int) (ds:List WD):Str:=Str.join nl ((Wh n ds).map (Str.join bk))
noncomputable def nz (x:Str):Prop:=x.length ≤ 8∧(32:Nat) ∉ x.cps.toList∧(10:Nat) ∉ x.cps.toList
theorem Wt (k:Nat):nz (Kd k):=by
 match k with
 | 0=>exact ⟨by decide +kernel,by decide +kernel,by decide +kernel⟩
 | 1=>exact ⟨by decide +kernel,by decide +kernel,by decide +kernel⟩
 | _ + 2=>exact ⟨show (Str.ofString "tram").length ≤ 8 by decide +kernel,show (32:Nat) ∉ (Str.ofString "tram").cps.toList by decide +kernel,show (10:Nat) ∉ (Str.ofString "tram").cps.toList by decide +kernel⟩
theorem Td {v:Int} (h0:0 ≤ v) (h1:v < 1000):nz (num v):=
 ⟨Nat.le_trans (YL h0 (by omega)) (by decide),fun z=>by have:=NA h0 h1 _ z;omega,fun z=>by have:=NA h0 h1 _ z;omega⟩
theorem Vt {x:Str} (h:made x Jj 8=true):nz x:=
 ⟨(rh h).1.2,fun z=>by have:=(rh h).2 _ z;omega,fun z=>by have:=(rh h).2 _ z;omega⟩
theorem WOk.plain {n:Int} {d:WD} (h:WOk n d) (hn:n ≤ 99):∀ x ∈ Zj d,nz x:=fun x hx=>by
 have h1:=h.st;have h2:=h.fi;have h3:=h.of;have h4:=h.nr;have h5:=h.le
 simp only [Zj,List.mem_cons,List.not_mem_nil,or_false] at hx
 rcases hx with rfl | rfl | rfl | rfl | rfl | rfl | rfl
 ·exact Wt _
 ·exact Vt h.nm
 ·exact Td (by omega) (by omega)
 ·exact Td (by omega) (by omega)
 ·exact Td (by omega) (by omega)
 ·exact Td (by omega) (by omega)
 ·exact Td (by omega) (by omega)
theorem COk.plain {n:Int} {ds:List WD} (h:COk n ds):∀ r ∈ Wh n ds,∀ x ∈ r,nz x:=fun r hr x hx=>by
 have hn:=h.nn
 rcases List.mem_cons.mp hr with rfl | hr
 ·simp only [List.mem_cons,List.not_mem_nil,or_false] at hx
  rcases hx with rfl | rfl
  ·exact ⟨by decide +kernel,by decide +kernel,by decide +kernel⟩
  ·exact Td (by omega) (by omega)
 ·obtain ⟨d,hd,rfl⟩:=List.mem_map.mp hr
  exact (h.al d hd).plain hn.2 x hx
theorem jE {rs:List (List Str)} (h0:rs ≠ []) (h1:∀ r ∈ rs,r ≠ []) (h2:∀ r ∈ rs,∀ x ∈ r,nz x):qj (Str.join nl (rs.map (Str.join bk)))=rs:=by
 unfold qj
 rw [qQ,AK]
 rw [uu (by simpa using h0) (fun y hy=>by
  obtain ⟨r,hr,rfl⟩:=List.mem_map.mp hy
  rw [Do]
  intro z
  rcases nJ z with z | ⟨p,hp,z⟩
  ·cases z
  ·obtain ⟨x,hx,rfl⟩:=List.mem_map.mp hp
   exact (h2 r hr x hx).2.2 z)]
 rw [List.map_map]
 have:∀ r ∈ rs,((fun r=>Txt.split r ⟨#[32]⟩) ∘ Str.join ⟨#[32]⟩) r=r:=fun r hr=>uu (h1 r hr) fun x hx=>(h2 r hr x hx).2.1
 exact (List.map_congr_left this).trans (List.map_id rs)
theorem pB {n:Int} {ds:List WD} (h:COk n ds):qj (Kv n ds)=Wh n ds:=jE (by simp [Wh]) (fun r hr=>by
 rcases List.mem_cons.mp hr with rfl | hr
 ·simp
 ·obtain ⟨d,hd,rfl⟩:=List.mem_map.mp hr
  simp [Zj]) h.plain
theorem As (sep:Str) (B:Nat):∀ ys:List Str,(∀ y ∈ ys,y.length ≤ B)→(Str.join sep ys).length ≤ ys.length * (B + sep.length)
 | [],_=>by show (Str.empty).length ≤ _;exact Nat.zero_le _
 | [a],h=>by
  have:=h a (by simp)
  show a.length ≤ _
  simp only [List.length_cons,List.length_nil];omega
 | a :: b :: r,h=>by
  have h1:=h a (by simp)
  have h2:=As sep B (b :: r) fun y hy=>h y (List.mem_cons_of_mem _ hy)
  show (a ++ sep ++ Str.join sep (b :: r)).length ≤ _
  rw [xr,xr,List.length_cons,Nat.succ_mul]
  omega
theorem JF {n:Int} {ds:List WD} (h:COk n ds):(Kv n ds).length ≤ 1000:=by
 have h1:∀ y ∈ (Wh n ds).map (Str.join bk),y.length ≤ 63:=fun y hy=>by
  obtain ⟨r,hr,rfl⟩:=List.mem_map.mp hy
  have:=As bk 8 r fun x hx=>(h.plain r hr x hx).1
  rw [Gw] at this
  have hl:r.length ≤ 7:=by
   rcases List.mem_cons.mp hr with rfl | hr
   ·simp
   ·obtain ⟨d,hd,rfl⟩:=List.mem_map.mp hr
    simp [Zj]
  omega
 have h2:=As nl 63 _ h1
 rw [lA] at h2
 have h3:((Wh n ds).map (Str.join bk)).length ≤ 13:=by
  have:=h.ln
  simp [Wh];omega
 unfold Kv
 omega
end My
namespace My
open PySem L2
noncomputable abbrev qx:List Str:=[Str.ofString "row",Str.ofString "told",Str.ofString "place"]
noncomputable def rdF (row:Int) (ta:Addr) (pl:Int):List (Str × V):=[(Str.ofString "row",.int row),(Str.ofString "told",.ref ta),(Str.ofString "place",.int pl)]
theorem Um (row:Int) (ta:Addr) (pl:Int):(rdF row ta pl).map (·.1)=qx:=rfl
theorem ZL (row:Int) (ta:Addr) (pl v:Int):Qg (Str.ofString "place") (.int v) (rdF row ta pl)=rdF row ta v:=by
 unfold rdF
 simp only [Qg]
 rw [if_neg (by decide +kernel),if_neg (by decide +kernel)];rfl
noncomputable def Vg (t:Adr) (H:Hp) (p:Addr) (row:Int) (ws:List Str) (pl:Nat):Prop:=
 (ws.length ≤ 1000∧∀ x ∈ ws,x.length ≤ 1000)∧∃ dx ta,H p=some (.ins t.Cb dx (rdF row ta pl))∧H ta=some (.lst (Rb ws))
noncomputable def Ld (p:Addr) (H H':Hp):Prop:=∀ b u,b ≠ p→H b=some u→H' b=some u
theorem Ld.trans {p:Addr} {H H1 H2:Hp} (a:Ld p H H1) (b:Ld p H1 H2):Ld p H H2:=fun c u n e=>b c u n (a c u n e)
theorem Ld.of {p:Addr} {H H1:Hp} (a:Zb H H1):Ld p H H1:=fun c u _ e=>a c u e
theorem Ld.put {p:Addr} {H:Hp} {o:HO}:Ld p H (upd H p o):=fun c u n e=>by rw [pb n];exact e
theorem Cm (ws:List Str):(Rb ws).length=ws.length:=by unfold Rb;rw [List.length_map]
theorem fH {ws:List Str} {i:Nat} {x:Str} (h:ws[i]? = some x):(Rb ws)[i]? = some (.str x):=by unfold Rb;rw [List.getElem?_map,h];rfl
theorem Bu (ws:List Str):(Rb ws).all Qj=true:=by unfold Rb;simp [Qj]
theorem Ez (x:Str) (xs:List Str):inV (.str x) (Rb xs)=decide (x ∈ xs):=by
 unfold inV Rb
 rw [List.any_map,Bool.eq_iff_iff]
 simp only [List.any_eq_true,Function.comp,eqV,beq_iff_eq,decide_eq_true_eq]
 constructor
 ·rintro ⟨y,hy,rfl⟩;exact hy
 ·intro h;exact ⟨x,h,rfl⟩
section
variable {w:World} {K:PySem.W.Frag} {mg:Str→Option Value} {t:Adr} {H H':Hp} {p:Addr} {row:Int} {ws:List Str} {pl:Nat}
theorem Vg.same (h:Vg t H p row ws pl) (s:Zb H H'):Vg t H' p row ws pl:=by
 obtain ⟨hz,dx,ta,e1,e2⟩:=h
 exact ⟨hz,dx,ta,s _ _ e1,s _ _ e2⟩
theorem Vg.sameX {q:Addr} (h:Vg t H p row ws pl) (s:Ld q H H') (n:p ≠ q) (k:∃ C dx fs,H q=some (.ins C dx fs)):Vg t H' p row ws pl:=by
 obtain ⟨hz,dx,ta,e1,e2⟩:=h
 obtain ⟨C,dq,fs,e3⟩:=k
 exact ⟨hz,dx,ta,s _ _ n e1,s _ _ (Ag e2 e3 (by intro z;cases z)) e2⟩
theorem Vg.ins (h:Vg t H p row ws pl):∃ C dx fs,H p=some (.ins C dx fs):=by
 obtain ⟨hz,dx,ta,e1,e2⟩:=h
 exact ⟨_,_,_,e1⟩
theorem Vg.no {m:Str} (row:Int) (ta:Addr) (pl:Int) (h:qx.contains m=false):(rdF row ta pl).lookup m=none:=vm qx (Um ..) h
theorem Xv (T:Txt w K mg t) {dx ta:Addr} {pl:Int} (e:H p=some (.ins t.Cb dx (rdF row ta pl))):wj K H p (Str.ofString "place") (.int pl):=
 ⟨_,dx,_,e,T.Bb,T.We,yd qx 2 (Um ..) (by decide +kernel) rfl⟩
theorem qz (T:Txt w K mg t) {dx ta:Addr} {pl:Int} (e:H p=some (.ins t.Cb dx (rdF row ta pl))):wj K H p (Str.ofString "told") (.ref ta):=
 ⟨_,dx,_,e,T.Bb,T.vi,yd qx 1 (Um ..) (by decide +kernel) rfl⟩
end
noncomputable def DJ (t:Adr):Sp:=fun vs H Q _=>∃ (p dx ta:Addr) (row:Int),vs=[.ref p,.int row,.ref ta]∧H p=some (.ins t.Cb dx [])∧Q .non (upd H p (.ins t.Cb dx (rdF row ta 0)))
noncomputable def xn (t:Adr):Sp:=fun vs H Q _=>∃ p row ws pl,vs=[.ref p]∧Vg t H p row ws pl∧pl ≤ ws.length∧Q (.str (ws.getD pl (Str.ofString ""))) H
noncomputable def dD (t:Adr):Sp:=fun vs H Q _=>∃ p row ws pl,vs=[.ref p]∧Vg t H p row ws pl∧Q (.bl (decide (pl < ws.length))) H
noncomputable def IQ (t:Adr) (H:Hp) (p:Addr) (row:Int) (ws:List Str) (pl:Nat) (R:Hp→Prop):Prop:=∀ H',Ld p H H'→(NoT H→NoT H')→Vg t H' p row ws pl→R H'
noncomputable def Tv (t:Adr):Sp:=fun vs H Q _=>∃ p row ws pl,vs=[.ref p,.bl true]∧Vg t H p row ws pl∧IQ t H p row ws (pl + 1) (Q .non)
noncomputable def av (K:PySem.W.Frag) (t:Adr):Sp:=fun vs H Q _=>∃ p row ws pl x c xs,vs=[.ref p,.ref c]∧Vg t H p row ws pl∧ws[pl]? = some x∧SqL K H c (Rb xs)∧x ∈ xs∧IQ t H p row ws (pl + 1) (Q (.str x))
noncomputable def Hv (t:Adr):Sp:=fun vs H Q _=>∃ p row ws pl x lo hi v,vs=[.ref p,.int lo,.int hi]∧Vg t H p row ws pl∧ws[pl]? = some x∧MG x lo hi=.int v∧NoT H∧IQ t H p row ws (pl + 1) (Q (.int v))
noncomputable def rD (t:Adr):Sp:=fun vs H Q _=>∃ p row ws pl,vs=[.ref p]∧Vg t H p row ws pl∧pl=ws.length∧Q .non H
section
variable {P:Program} {w:World} {K:PySem.W.Frag} {mg:Str→Option Value} {base:Heap} {t:Adr}
theorem PN (T:Txt w K mg t):Eb P w K mg base CX0 1 t.Vd t.Pe ["self","row","told"] (DJ t):=by
 refine T.fj.ok Xj (fun vs H Q E h=>?_) (fun cdv A outer s H vs Q E hr h=>?_)
 ·obtain ⟨p,dx,ta,row,rfl,_⟩:=h;rfl
 obtain ⟨p,dx,ta,row,rfl,hp,q⟩:=h
 refine ⟨_,(db (qf (pv 0) (pv 1) rfl)
   (db (qf (pv 0) (pv 2) rfl)
   (ib (qf (pv 0) lb rfl)))),?_⟩
 (walk_at "RD")
 refine ⟨_,_,_,hp,T.Bb,T.Dp,by decide,?_⟩
 refine ⟨_,_,_,fb,T.Bb,T.vi,Fn (n:=999) (by decide),?_⟩
 refine ⟨_,_,_,fb,T.Bb,T.We,Fn (n:=999) (Fn (n:=998) (by decide)),?_⟩
 simp only [Bj]
 rw [show Qg (Str.ofString "row") (V.int row) ([]:List (Str × V))=[(Str.ofString "row",V.int row)] from Vc [] rfl (by decide +kernel),
  show Qg (Str.ofString "told") (V.ref ta) ([(Str.ofString "row",V.int row)]:List (Str × V))=[(Str.ofString "row",V.int row),(Str.ofString "told",V.ref ta)] from Vc [Str.ofString "row"] rfl (by decide +kernel),
  show Qg (Str.ofString "place") (V.int 0) ([(Str.ofString "row",V.int row),(Str.ofString "told",V.ref ta)]:List (Str × V))=[(Str.ofString "row",V.int row),(Str.ofString "told",V.ref ta),(Str.ofString "place",V.int 0)] from Vc [Str.ofString "row",Str.ofString "told"] rfl (by decide +kernel)]
 exact q
theorem bq (T:Txt w K mg t):Eb P w K mg base CX0 1 t.Ec t.Oc ["self"] (xn t):=by
 refine T.ki.ok zm (fun vs H Q E h=>?_) (fun cdv A outer s H vs Q E hr h=>?_)
 ·obtain ⟨p,row,ws,pl,rfl,_⟩:=h;rfl
 obtain ⟨p,row,ws,pl,rfl,⟨hz,dx,ta,e1,e2⟩,hle,q⟩:=h
 refine ⟨_,(db (ye (kc uj (Vb (pv 0) rfl) (gc Dc rfl T.Nm Xc (bb (Vb (pv 0) rfl) gb)) (wc _)) (ib (Db yc)) ic)
   (ib (Db (ae Zd (Vb (pv 0) rfl) (Vb (pv 0) rfl) (fun _ _=>rfl))))),?_⟩
 (walk_at "RD")
 refine Ac (decide ((pl:Int)=(ws.length:Int))) (fun Q hQ=>?_) (fun c=>?_) (fun c=>?_)
 ·(walk_at "RD")
  refine ⟨_,Xv T e1,_,qz T e1,_,rfl,_,.inl (SqL.of e2),rfl,?_⟩
  rw [Cm]
  (walk_at "RD")
  exact hQ
 ·(walk_at "RD")
  have c':pl=ws.length:=by have:=of_decide_eq_true c;omega
  rw [show ws.getD pl (Str.ofString "")=Str.ofString "" by rw [List.getD_eq_getElem?_getD,List.getElem?_eq_none (by omega)];rfl] at q
  exact q
 ·(walk_at "RD")
  have c':pl < ws.length:=by have:=of_decide_eq_false c;omega
  have hx:ws[pl]? = some ws[pl]:=List.getElem?_eq_getElem c'
  rw [List.getD_eq_getElem?_getD,hx] at q
  exact ⟨_,qz T e1,_,Xv T e1,_,rfl,_,_,rfl,SqL.of e2,_,jc (fH hx),q⟩
theorem uK (T:Txt w K mg t):Eb P w K mg base CX0 1 t.bd t.Jd ["self"] (dD t):=by
 refine T.Cg.ok Vj (fun vs H Q E h=>?_) (fun cdv A outer s H vs Q E hr h=>?_)
 ·obtain ⟨p,row,ws,pl,rfl,_⟩:=h;rfl
 obtain ⟨p,row,ws,pl,rfl,⟨hz,dx,ta,e1,e2⟩,q⟩:=h
 refine ⟨_,(ib (Db (Se Zw (Vb (pv 0) rfl) (gc Dc rfl T.Nm Xc (bb (Vb (pv 0) rfl) gb)) (wc _)))),?_⟩
 (walk_at "RD")
 have e:decide (pl < ws.length)=decide ((pl:Int) < (ws.length:Int)):=by rw [Bool.eq_iff_iff];simp
 rw [e] at q
 refine ⟨_,Xv T e1,_,qz T e1,_,rfl,_,.inl (SqL.of e2),?_⟩
 rw [Cm]
 exact ⟨_,rfl,q⟩
theorem az (T:Txt w K mg t):Eb P w K mg base CX0 1 t.Zc t.zd ["self","good"] (Tv t):=by
 refine T.pj.ok io (fun vs H Q E h=>?_) (fun cdv A outer s H vs Q E hr h=>?_)
 ·obtain ⟨p,row,ws,pl,rfl,_⟩:=h;rfl
 obtain ⟨p,row,ws,pl,rfl,⟨hz,dx,ta,e1,e2⟩,q⟩:=h
 refine ⟨_,(db (ye (uq (dj (pv 1))) (ib Jk) ic)
   (ib (fF (pv 0) lb xN))),?_⟩
 (walk_at "RD")
 refine Ac false (fun Q hQ=>?_) (fun hc=>nomatch hc) (fun _=>?_)
 ·(walk_at "RD")
  exact hQ
 ·(walk_at "RD")
  refine ⟨_,_,_,e1,T.Bb,T.We,_,yd qx 2 (Um ..) (by decide +kernel) rfl,_,rfl,_,_,e1,by rw [← List.length_map (f:=(·.1)),Um];decide,?_⟩
  rw [ZL]
  exact q _ Ld.put (fun n=>n.upd) ⟨hz,dx,ta,fb,by rw [pb (Ag e2 e1 (by intro z;cases z))];exact e2⟩
theorem Dz (T:Txt w K mg t):Eb P w K mg base CX0 2 t.Wc t.Ed ["self","choices"] (av K t):=by
 have G_RowReader_ahead:Eb P w K mg base CX0 1 t.Ec t.Oc ["self"] (xn t):=bq T
 have G_RowReader_take:Eb P w K mg base CX0 1 t.Zc t.zd ["self","good"] (Tv t):=az T
 refine T.Lh.ok lh (fun vs H Q E h=>?_) (fun cdv A outer s H vs Q E hr h=>?_)
 ·obtain ⟨p,row,ws,pl,x,c,xs,rfl,_⟩:=h;rfl
 obtain ⟨p,row,ws,pl,x,c,xs,rfl,R,hx,hc,hm,q⟩:=h
 refine ⟨_,(db (Ab (i:=2) lh.nd rfl (Or.inl rfl) (Qe (pv 0) T.Bb T.Ae G_RowReader_ahead hr T.Be .nil zb))
   (db (Cc (wd (pv 0) T.Bb T.yg G_RowReader_take hr T.zg .nil zb (bb (Se Zr (pv 2) (pv 1) (by with_unfolding_all rfl)) gb)))
   (ib (Db (pv 2))))),?_⟩
 have hlt:pl < ws.length:=(List.getElem?_eq_some_iff.mp hx).1
 have hg:ws.getD pl (Str.ofString "")=x:=by rw [List.getD_eq_getElem?_getD,hx];rfl
 obtain ⟨_,dx,ta,e1,e2⟩:=id R
 (walk_at "RD")
 refine ⟨_,_,e1,Vg.no _ _ _ (by decide +kernel),⟨p,row,ws,pl,rfl,R,by omega,?_⟩⟩
 rw [hg]
 (walk_at "RD")
 refine ⟨_,_,e1,Vg.no _ _ _ (by decide +kernel),_,.inl hc,rfl,Bu xs,?_⟩
 rw [Ez,decide_eq_true hm]
 refine ⟨p,row,ws,pl,rfl,R,fun H' s1 s2 s3=>?_⟩
 (walk_at "RD")
 exact q H' s1 s2 s3
theorem Xx (T:Txt w K mg t):Eb P w K mg base CX0 4 t.Bc t.Nc ["self","low","high"] (Hv t):=by
 have G_RowReader_ahead:Eb P w K mg base CX0 3 t.Ec t.Oc ["self"] (xn t):=(bq T).mono (by decide)
 have G_RowReader_take:Eb P w K mg base CX0 3 t.Zc t.zd ["self","good"] (Tv t):=(az T).mono (by decide)
 have G_figured:Eb P w K mg base CX0 3 t.Om t.Wm ["word","low","high"] BJ:=BP T
 refine T.kh.ok Eg (fun vs H Q E h=>?_) (fun cdv A outer s H vs Q E hr h=>?_)
 ·obtain ⟨p,row,ws,pl,x,lo,hi,v,rfl,_⟩:=h;rfl
 obtain ⟨p,row,ws,pl,x,lo,hi,v,rfl,R,hx,hv,nt,q⟩:=h
 refine ⟨_,(db (Ab (i:=3) Eg.nd rfl (Or.inl rfl) (wb G_figured hr rfl T.FE T.Jr.kp T.JE .nil zb (bb (Qe (pv 0) T.Bb T.Ae G_RowReader_ahead hr T.Be .nil zb) (bb (pv 1) (bb (pv 2) gb)))))
   (db (Cc (wd (pv 0) T.Bb T.yg G_RowReader_take hr T.zg .nil zb (bb (Se YM (pv 3) pA (wc _)) gb)))
   (ib (Db (pv 3))))),?_⟩
 have hlt:pl < ws.length:=(List.getElem?_eq_some_iff.mp hx).1
 have hg:ws.getD pl (Str.ofString "")=x:=by rw [List.getD_eq_getElem?_getD,hx];rfl
 obtain ⟨hz,dx,ta,e1,e2⟩:=id R
 (walk_at "RD")
 refine ⟨_,_,e1,Vg.no _ _ _ (by decide +kernel),⟨p,row,ws,pl,rfl,R,by omega,?_⟩⟩
 rw [hg]
 (walk_at "RD")
 refine ⟨x,lo,hi,rfl,hz.2 x (List.mem_of_getElem? hx),nt,?_⟩
 rw [hv]
 (walk_at "RD")
 refine ⟨_,_,e1,Vg.no _ _ _ (by decide +kernel),?_⟩
 refine ⟨p,row,ws,pl,rfl,R,fun H' s1 s2 s3=>?_⟩
 (walk_at "RD")
 exact q H' s1 s2 s3
theorem tJ (T:Txt w K mg t):Eb P w K mg base CX0 2 t.Yc t.Gd ["self"] (rD t):=by
 have G_RowReader_has_more:Eb P w K mg base CX0 1 t.bd t.Jd ["self"] (dD t):=uK T
 refine T.zh.ok fm (fun vs H Q E h=>?_) (fun cdv A outer s H vs Q E hr h=>?_)
 ·obtain ⟨p,row,ws,pl,rfl,_⟩:=h;rfl
 obtain ⟨p,row,ws,pl,rfl,R,hl,q⟩:=h
 obtain ⟨hz,dx,ta,e1,e2⟩:=id R
 refine ⟨_,(ib (ye (dj (Qe (pv 0) T.Bb T.Uk G_RowReader_has_more hr T.Tk .nil zb)) (ib Jk) ic)),?_⟩
 (walk_at "RD")
 refine Ac false (fun Q hQ=>?_) (fun hc=>nomatch hc) (fun _=>?_)
 ·(walk_at "RD")
  refine ⟨_,_,e1,Vg.no _ _ _ (by decide +kernel),⟨p,row,ws,pl,rfl,R,?_⟩⟩
  rw [decide_eq_false (by omega)]
  exact ⟨_,rfl,hQ⟩
 ·(walk_at "RD")
  exact q
end
end My
namespace My
open PySem L2
theorem qc {α β:Type} {f:α→β} {l:List α} {i:Nat} {y:β} (h:(l.map f)[i]? = some y):∃ x,l[i]? = some x∧y=f x:=by
 rw [List.getElem?_map] at h
 cases e:l[i]? with
 | none=>rw [e] at h;cases h
 | some x=>rw [e] at h;exact ⟨x,rfl,(Option.some.inj h).symm⟩
noncomputable def HQ (t:Adr) (H0 H:Hp) (p:Addr) (rows:List (List Str)):Prop:=∃ qs:List Addr,H p=some (.lst (qs.map V.ref))∧H0 p=none∧qs.length=rows.length∧∀ (i:Nat) (q:Addr) (r:List Str),qs[i]? = some q→rows[i]? = some r→Vg t H q i r 0∧H0 q=none
noncomputable def Zt (t:Adr):Sp:=fun vs H Q _=>∃ x,vs=[.str x]∧x.length ≤ 20000∧(∀ r ∈ qj x,r.length ≤ 1000∧∀ y ∈ r,y.length ≤ 1000)∧NoT H∧∀ p H',Zb H H'→NoT H'→HQ t H H' p (qj x)→Q (.ref p) H'
section
variable {P:Program} {w:World} {K:PySem.W.Frag} {mg:Str→Option Value} {base:Heap} {t:Adr}
theorem xB (T:Txt w K mg t):Eb P w K mg base CX0 3 t.Fm t.Bm ["text"] (Zt t):=by
 have G_words:Eb P w K mg base CX0 2 t.Lu t.Iv ["text"] Nz:=(HI T).mono (by decide)
 have G_RowReader_init:Eb P w K mg base CX0 1 t.Vd t.Pe ["self","row","told"] (DJ t):=PN T
 refine T.Jq.ok AB (fun vs H Q E h=>?_) (fun cdv A outer s H vs Q E hr h=>?_)
 ·obtain ⟨x,rfl,_⟩:=h;rfl
 obtain ⟨x,rfl,hz,hrow,nt,q⟩:=h
 refine ⟨_,(ib (Db (jk rfl (gs rfl T.Wg (bb (wb G_words hr rfl T.yM T.Yy.kp T.DM .nil zb (bb (pv 0) gb)) gb)) (Nd (sc:=jb wq) rfl (by decide +kernel)) (N:=["row","told"]) (sel:=[none,none]) (ve (M:=["text"]) (by decide +kernel)) (Blk.of (fun _ _ _ _=>(Ge (K:=K) (n:=2) rfl rfl (Kb (yb (i:=0) (yi (N:=["row","told"]) (by decide +kernel) rfl) rfl (Or.inl rfl) (.inr rfl)) (Kb (yb (i:=1) (yi (N:=["row","told"]) (by decide +kernel) rfl) rfl (Or.inl rfl) (.inr rfl)) De)))) (fun _ _ _ _=>⟨_,Tg,by first | rfl | (dsimp only [Cx.block];done) | (dsimp only [Cx.block];exact rfl)⟩) (fun _ _ _ _=>⟨_,(uo T.Cy G_RowReader_init hr rfl T.Wx T.wp .nil zb (bb (pv 0) (bb (pv 1) gb))),by first | rfl | (dsimp only [Cx.block];done) | (dsimp only [Cx.block];exact rfl)⟩))))),?_⟩
 (walk_at "RD")
 refine ⟨x,rfl,hz,nt,fun p H1 sm1 nt1 ⟨ps,hp,hp0,hpn,hpl,hpa⟩=>?_⟩
 (walk_at "RD")
 refine ⟨⟨_,SqL.of hp⟩,?_⟩
 have hlen:ps.length ≤ sizeLine:=by
  rw [hpl]
  unfold qj
  rw [List.length_map]
  have:=Lr (x:=x) (y:=nl) (by rw [lA];exact Nat.le_refl _)
  exact Nat.le_trans (show _ ≤ 40000 by omega) (by decide)
 refine Pd.enum (xs:=ps.map V.ref) (fun i ys H2=>Zb H1 H2∧NoT H2∧∃ qs:List Addr,ys=qs.map V.ref∧qs.length=i∧∀ (j:Nat) (q:Addr) (r:List Str),qs[j]? = some q→(qj x)[j]? = some r→Vg t H2 q j r 0∧H1 q=none)
  (by rw [List.length_map];exact hlen) ⟨Zb.refl H1,nt1,[],rfl,rfl,fun j q r h _=>by simp at h⟩ ?_ ?_ ?_
 ·rintro i ys H2 hi ⟨s2,n2,qs,rfl,hq,_⟩
  exact ⟨SqL.of (s2 _ _ hp),by rw [List.length_map];omega⟩
 ·rintro i v ys H2 p2 hv ⟨s2,n2,qs,rfl,hq,al⟩ hp2 N hN
  rw [List.getElem?_map] at hv
  cases hpi:ps[i]? with
  | none=>rw [hpi] at hv;cases hv
  | some pi=>
   rw [hpi] at hv
   have e:=(Option.some.inj hv).symm
   subst e
   refine xj ?_
   (walk_at "RD")
   refine ⟨Sub.name2,fun a dx ha hd hne=>?_⟩
   refine ⟨a,dx,pi,i,rfl,fb,rfl,?_⟩
   rw [Bj]
   have s3:Zb H2 (upd (upd (upd H2 p2 (.tup [.int i,.ref pi])) dx (.own a)) a (.ins t.Cb dx (rdF i pi 0))):=by
    have s':Zb H2 (upd H2 p2 (.tup [.int i,.ref pi])):=qb hp2
    exact ((Zb.trans s' (qb hd)).updN (s'.free ha))
   obtain ⟨r,hr⟩:∃ r,(qj x)[i]? = some r:=⟨(qj x)[i]'(by rw [← hpl];exact (List.getElem?_eq_some_iff.mp hpi).1),List.getElem?_eq_getElem _⟩
   have ha2:H2 a=none:=(qb hp2).free ha
   refine hN _ _ ⟨s2.trans s3,((n2.upd).upd).upd,qs ++ [a],by rw [List.map_append];rfl,by rw [List.length_append,hq];rfl,fun j q' r' h1 h2=>?_⟩
   by_cases hj:j < qs.length
   ·rw [List.getElem?_append_left hj] at h1
    obtain ⟨z1,z2⟩:=al j q' r' h1 h2
    exact ⟨z1.same s3,z2⟩
   ·rw [List.getElem?_append_right (by omega)] at h1
    have hj0:j - qs.length=0:=by
     cases hh:j - qs.length with
     | zero=>rfl
     | succ n=>rw [hh] at h1;simp at h1
    rw [hj0] at h1
    have e3:a=q':=by simpa using h1
    subst e3
    have e4:j=i:=by omega
    subst e4
    rw [hr] at h2
    cases h2
    refine ⟨⟨hrow r (List.mem_of_getElem? hr),dx,pi,fb,?_⟩,s2.free ha2⟩
    exact s3 _ _ (s2 _ _ (hpa j pi r hpi hr).1)
 ·rintro ys H2 ⟨s2,n2,qs,rfl,hq,al⟩ p2 hp2
  refine q p2 _ ((sm1.trans s2).updN ((sm1.trans s2).free hp2)) (n2.upd) ⟨qs,fb,(sm1.trans s2).free hp2,by rw [hq,List.length_map,hpl],fun i q' r h1 h2=>?_⟩
  obtain ⟨z1,z2⟩:=al i q' r h1 h2
  exact ⟨z1.same (qb hp2),sm1.free z2⟩
end
noncomputable def TR (q:Addr) (H:Hp) (R:Hp→Prop):Prop:=∀ H',Ld q H H'→NoT H'→R H'
noncomputable def IF (t:Adr):Sp:=fun vs H Q _=>∃ q row n,vs=[.ref q]∧Vg t H q row [Str.ofString "ring",num n] 0∧(2 ≤ n∧n ≤ 99)∧NoT H∧TR q H (Q (.int n))
noncomputable def Pj (t:Adr) (H:Hp) (wl:Addr) (ds:List WD):Prop:=∃ as:List Addr,H wl=some (.lst (as.map V.ref))∧as.length=ds.length∧∀ (i:Nat) (a:Addr) (d:WD),as[i]? = some a→ds[i]? = some d→Wd t H a d
noncomputable def xu (t:Adr):Sp:=fun vs H Q _=>∃ q row ws pl wl ds x,vs=[.ref q,.ref wl]∧Vg t H q row ws pl∧ws[pl]? = some x∧made x Jj 8=true∧Pj t H wl ds∧ds.length ≤ 12∧(∀ d ∈ ds,d.name ≠ x)∧NoT H ∧
 ∀ H',Ld q H H'→NoT H'→Vg t H' q row ws (pl + 1)→Q (.str x) H'
noncomputable def rJ (t:Adr):Sp:=fun vs H Q _=>∃ q row ws pl n st fi,vs=[.ref q,.int n,.int st]∧Vg t H q row ws pl∧ws[pl]? = some (num fi)∧(0 ≤ st∧st < n)∧(0 ≤ fi∧fi < n)∧st ≠ fi∧n ≤ 99∧NoT H ∧
 ∀ H',Ld q H H'→NoT H'→Vg t H' q row ws (pl + 1)→Q (.int fi) H'
noncomputable def Mz (t:Adr):Sp:=fun vs H Q _=>∃ d:WD,vs=[.str (Kd d.k),.str d.name,.int d.start,.int d.fin,.int d.off,.int d.near,.int d.least]∧d.k < 3∧∀ x H',Zb H H'→(NoT H→NoT H')→Wd t H' x d→H x=none→Q (.ref x) H'
noncomputable def eJ (t:Adr):Sp:=fun vs H Q _=>∃ q row n wl ds d,vs=[.ref q,.int n,.ref wl]∧Vg t H q row (Zj d) 0∧WOk n d∧(2 ≤ n∧n ≤ 99)∧Pj t H wl ds∧ds.length ≤ 12∧(∀ e ∈ ds,e.name ≠ d.name)∧NoT H ∧
 ∀ x H',Ld q H H'→NoT H'→Wd t H' x d→H x=none→Q (.ref x) H'
theorem Pj.sameX {t:Adr} {H H':Hp} {q wl:Addr} {ds:List WD} {row:Int} {ws:List Str} {pl:Nat} (h:Pj t H wl ds) (s:Ld q H H') (r:Vg t H q row ws pl):Pj t H' wl ds:=by
 obtain ⟨as,e1,e2,al⟩:=h
 obtain ⟨hz,dx,ta,e3,e4⟩:=r
 refine ⟨as,s _ _ (Ag e1 e3 (by intro z;cases z)) e1,e2,fun i a d h1 h2=>?_⟩
 obtain ⟨hk,dx',e5⟩:=al i a d h1 h2
 refine ⟨hk,dx',s _ _ (fun z=>?_) e5⟩
 subst z
 rw [e5] at e3
 have e6:=Option.some.inj e3
 injection e6 with _ _ e8
 have e9:(7:Nat)=3:=congrArg List.length e8
 omega
theorem Pj.same {t:Adr} {H H':Hp} {wl:Addr} {ds:List WD} (h:Pj t H wl ds) (s:Zb H H'):Pj t H' wl ds:=by
 obtain ⟨as,e1,e2,al⟩:=h
 exact ⟨as,s _ _ e1,e2,fun i a d h1 h2=>(al i a d h1 h2).same s⟩
section
variable {P:Program} {w:World} {K:PySem.W.Frag} {mg:Str→Option Value} {base:Heap} {t:Adr}
theorem iL (T:Txt w K mg t):Eb P w K mg base CX0 5 t.Vi t.Ti ["reader"] (IF t):=by
 have G_RowReader_one_of:Eb P w K mg base CX0 4 t.Wc t.Ed ["self","choices"] (av K t):=(Dz T).mono (by decide)
 have G_RowReader_figures:Eb P w K mg base CX0 4 t.Bc t.Nc ["self","low","high"] (Hv t):=Xx T
 have G_RowReader_finish:Eb P w K mg base CX0 4 t.Yc t.Gd ["self"] (rD t):=(tJ T).mono (by decide)
 refine T.Yl.ok Mo (fun vs H Q E h=>?_) (fun cdv A outer s H vs Q E hr h=>?_)
 ·obtain ⟨q,row,n,rfl,_⟩:=h;rfl
 obtain ⟨q,row,n,rfl,R,hn,nt,qq⟩:=h
 refine ⟨_,(db (Cc (wd (pv 0) T.Bb T.Hh G_RowReader_one_of hr T.Ih .nil zb (bb (bg (bb yc gb)) gb)))
   (db (Ab (i:=1) Mo.nd rfl (Or.inl rfl) (wd (pv 0) T.Bb T.Mc G_RowReader_figures hr T.Lc .nil zb (bb (ai rfl T.Ls T.Ps) (bb (ai rfl T.Cv T.Dv) gb))))
   (db (Cc (Qe (pv 0) T.Bb T.Jh G_RowReader_finish hr T.Bh .nil zb))
   (ib (Db (pv 1)))))),?_⟩
 obtain ⟨_,dx,ta,e1,e2⟩:=id R
 (walk_at "RD")
 refine ⟨_,_,e1,Vg.no _ _ _ (by decide +kernel),by decide,fun p hp=>?_⟩
 have s0:Zb H (upd H p (.lst [V.str (Str.ofString "ring")])):=qb hp
 refine ⟨q,row,_,0,Str.ofString "ring",p,[Str.ofString "ring"],rfl,R.same s0,rfl,SqL.of fb,by simp,fun H1 s1 n1 R1=>?_⟩
 obtain ⟨_,dx1,ta1,f1,f2⟩:=id R1
 (walk_at "RD")
 refine ⟨_,_,f1,Vg.no _ _ _ (by decide +kernel),?_⟩
 have nt1:=n1 nt.upd
 refine ⟨q,row,_,1,num n,2,99,n,rfl,R1,rfl,Kn (by omega) (by omega) hn.1 hn.2,nt1,fun H2 s2 n2 R2=>?_⟩
 obtain ⟨_,dx2,ta2,g1,g2⟩:=id R2
 (walk_at "RD")
 refine ⟨_,_,g1,Vg.no _ _ _ (by decide +kernel),?_⟩
 refine ⟨q,row,_,2,rfl,R2,rfl,?_⟩
 (walk_at "RD")
 exact qq H2 (((Ld.of s0).trans s1).trans s2) (n2 nt1)
theorem zB (T:Txt w K mg t):Eb P w K mg base CX0 3 t.pf t.af ["reader","ways"] (xu t):=by
 have G_RowReader_ahead:Eb P w K mg base CX0 2 t.Ec t.Oc ["self"] (xn t):=(bq T).mono (by decide)
 have G_RowReader_take:Eb P w K mg base CX0 2 t.Zc t.zd ["self","good"] (Tv t):=(az T).mono (by decide)
 have G_is_name:Eb P w K mg base CX0 2 t.Vm t.cn ["word"] WF:=oM T
 refine T.ah.ok oj (fun vs H Q E h=>?_) (fun cdv A outer s H vs Q E hr h=>?_)
 ·obtain ⟨q,row,ws,pl,wl,ds,x,rfl,_⟩:=h;rfl
 obtain ⟨q,row,ws,pl,wl,ds,x,rfl,R,hx,hm,hW,hdl,hnew,nt,qq⟩:=h
 refine ⟨_,(db (Ab (i:=2) oj.nd rfl (Or.inl rfl) (Qe (pv 0) T.Bb T.Ae G_RowReader_ahead hr T.Be .nil zb))
   (db (Cc (wd (pv 0) T.Bb T.yg G_RowReader_take hr T.zg .nil zb (bb (yJ (wb G_is_name hr rfl T.KC T.rq.kp T.lG .nil zb (bb (pv 2) gb)) (sA (Se Aw (pv 2) (jk rfl (ce (pv 1)) (Nd (sc:=jb Ug) rfl (by decide +kernel)) (N:=["way"]) (sel:=[none]) (ve (M:=["reader","ways","name"]) (by decide +kernel)) (Blk.of (fun _ _ _ _=>(yb (i:=0) (yi (N:=["way"]) (by decide +kernel) rfl) rfl (Or.inl rfl))) (fun _ _ _ _=>⟨_,Tg,by first | rfl | (dsimp only [Cx.block];done) | (dsimp only [Cx.block];exact rfl)⟩) (fun _ _ _ _=>⟨_,(Vb (pv 0) rfl),by first | rfl | (dsimp only [Cx.block];done) | (dsimp only [Cx.block];exact rfl)⟩))) (by with_unfolding_all rfl)))) gb)))
   (ib (Db (pv 2))))),?_⟩
 have hlt:pl < ws.length:=(List.getElem?_eq_some_iff.mp hx).1
 have hg:ws.getD pl (Str.ofString "")=x:=by rw [List.getD_eq_getElem?_getD,hx];rfl
 obtain ⟨hz,dx,ta,e1,e2⟩:=id R
 (walk_at "RD")
 refine ⟨_,_,e1,Vg.no _ _ _ (by decide +kernel),⟨q,row,ws,pl,rfl,R,by omega,?_⟩⟩
 rw [hg]
 (walk_at "RD")
 refine ⟨_,_,e1,Vg.no _ _ _ (by decide +kernel),?_⟩
 refine ⟨x,rfl,hz.2 x (List.mem_of_getElem? hx),nt,?_⟩
 rw [hm]
 (walk_at "RD")
 obtain ⟨as,w1,w2,al⟩:=hW
 refine ⟨⟨_,SqL.of w1⟩,?_⟩
 have hle:(as.map V.ref).length ≤ sizeLine:=by rw [List.length_map,w2];exact Nat.le_trans hdl (by decide)
 refine Pd.list_zs (xs:=as.map V.ref) (zs:=ds.map fun d=>V.str d.name) (SqL.of w1) hle (by rw [List.length_map,List.length_map,w2]) (fun i v z N hv hz' hN=>?_) (fun p hp=>?_)
 ·obtain ⟨a,ha,rfl⟩:=qc hv
  obtain ⟨d,hd,rfl⟩:=qc hz'
  (walk_at "RD")
  exact ⟨Sub.name,_,(al i a d ha hd).f_name T,hN⟩
 ·(walk_at "RD")
  have e0:(ds.map fun d=>V.str d.name)=Rb (ds.map (·.name)):=by unfold Rb;rw [List.map_map];rfl
  rw [e0]
  refine ⟨_,.inl (SqL.of fb),rfl,Bu _,?_⟩
  rw [Ez,decide_eq_false (fun z=>by
   obtain ⟨d,hd,e⟩:=List.mem_map.mp z
   exact hnew d hd e)]
  have s0:Zb H (upd H p (.lst (Rb (ds.map (·.name))))):=qb hp
  exact ⟨q,row,ws,pl,rfl,R.same s0,fun H' s1 n1 R1=>qq H' ((Ld.of s0).trans s1) (n1 nt.upd) R1⟩
theorem DO (T:Txt w K mg t):Eb P w K mg base CX0 5 t.Gk t.Bk ["reader","places","start"] (rJ t):=by
 have G_RowReader_ahead:Eb P w K mg base CX0 4 t.Ec t.Oc ["self"] (xn t):=(bq T).mono (by decide)
 have G_RowReader_figures:Eb P w K mg base CX0 4 t.Bc t.Nc ["self","low","high"] (Hv t):=Xx T
 refine T.qo.ok Ly (fun vs H Q E h=>?_) (fun cdv A outer s H vs Q E hr h=>?_)
 ·obtain ⟨q,row,ws,pl,n,st,fi,rfl,_⟩:=h;rfl
 obtain ⟨q,row,ws,pl,n,st,fi,rfl,R,hx,hst,hfi,hne,hn,nt,qq⟩:=h
 refine ⟨_,(db (ye (kc uj (Qe (pv 0) T.Bb T.Ae G_RowReader_ahead hr T.Be .nil zb) (Ai sk rfl T.jM Rn (bb (pv 2) gb)) (wc _)) (ib Jk) ic)
   (ib (Db (wd (pv 0) T.Bb T.Mc G_RowReader_figures hr T.Lc .nil zb (bb lb (bb (Gb Oe (pv 1) lb) gb)))))),?_⟩
 have hlt:pl < ws.length:=(List.getElem?_eq_some_iff.mp hx).1
 have hg:ws.getD pl (Str.ofString "")=num fi:=by rw [List.getD_eq_getElem?_getD,hx];rfl
 obtain ⟨hz,dx,ta,e1,e2⟩:=id R
 (walk_at "RD")
 refine Ac false (fun Q hQ=>?_) (fun hc=>nomatch hc) (fun _=>?_)
 ·(walk_at "RD")
  refine ⟨_,_,e1,Vg.no _ _ _ (by decide +kernel),⟨q,row,ws,pl,rfl,R,by omega,?_⟩⟩
  rw [hg]
  (walk_at "RD")
  refine ⟨Yq (by omega),?_⟩
  rw [decide_eq_false (fun z=>hne (LK (by omega) (by omega) (by omega) (by omega) z).symm)]
  exact hQ
 ·(walk_at "RD")
  refine ⟨_,_,e1,Vg.no _ _ _ (by decide +kernel),⟨q,row,ws,pl,num fi,0,n - 1,fi,rfl,R,hx,Kn (by omega) (by omega) (by omega) (by omega),nt,fun H1 s1 n1 R1=>?_⟩⟩
  exact qq H1 s1 (n1 nt) R1
theorem wN {t:Adr} {H:Hp} {x dx:Addr} {d:WD} (hx:H x=none) (hd:H dx=none) (hk:d.k < 3) :
  Zb H (upd (upd (upd H dx (.own x)) x (.ins (t.cw d.k) dx [])) x (.ins (t.cw d.k) dx (Bp d)))∧(NoT H→NoT (upd (upd (upd H dx (.own x)) x (.ins (t.cw d.k) dx [])) x (.ins (t.cw d.k) dx (Bp d)))) ∧
   Wd t (upd (upd (upd H dx (.own x)) x (.ins (t.cw d.k) dx [])) x (.ins (t.cw d.k) dx (Bp d))) x d:=
 ⟨(((Zb.refl H).updN hd).updN hx).updN hx,fun n=>((n.upd).upd).upd,hk,dx,fb⟩
theorem sH (T:Txt w K mg t):Eb P w K mg base CX0 4 t.vk t.Ik ["sort","name","start","end","off","near","least"] (Mz t):=by
 have G_CarWay_init:Eb P w K mg base CX0 2 t.gf t.Fg ["self","name","start","end","off","near","least"] (Hk t 0):=LM T
 have G_FootWay_init:Eb P w K mg base CX0 2 t.Je t.Qf ["self","name","start","end","off","near","least"] (Hk t 1):=YI T
 have G_TramWay_init:Eb P w K mg base CX0 2 t.Ie t.Hf ["self","name","start","end","off","near","least"] (Hk t 2):=BI T
 refine T.On.ok cz (fun vs H Q E h=>?_) (fun cdv A outer s H vs Q E hr h=>?_)
 ·obtain ⟨d,rfl,_⟩:=h;rfl
 obtain ⟨d,rfl,hk,q⟩:=h
 refine ⟨_,(db (ye (kc uj (pv 0) yc (wc _)) (ib (Db (uo T.DH G_CarWay_init hr rfl T.RH T.Tu .nil zb (bb (pv 1) (bb (pv 2) (bb (pv 3) (bb (pv 4) (bb (pv 5) (bb (pv 6) gb))))))))) ic)
   (db (ye (kc uj (pv 0) yc (wc _)) (ib (Db (uo T.cG G_FootWay_init hr rfl T.aD T.Qt .nil zb (bb (pv 1) (bb (pv 2) (bb (pv 3) (bb (pv 4) (bb (pv 5) (bb (pv 6) gb))))))))) ic)
   (ib (Db (uo T.YF G_TramWay_init hr rfl T.EC T.ot .nil zb (bb (pv 1) (bb (pv 2) (bb (pv 3) (bb (pv 4) (bb (pv 5) (bb (pv 6) gb))))))))))),?_⟩
 have fin:∀ (x dx:Addr),H x=none→H dx=none→Q (.ref x) (upd (upd (upd H dx (.own x)) x (.ins (t.cw d.k) dx [])) x (.ins (t.cw d.k) dx (Bp d))):=fun x dx hx hd=>by
  obtain ⟨m1,m2,m3⟩:=wN (t:=t) (d:=d) hx hd hk
  exact q x _ m1 m2 m3 hx
 obtain ⟨k,name,start,fi,off,near,least⟩:=d
 match k,hk with
 | 0,_=>
  (walk_at "RD"; repeat (simp only [Kd];walk_at "RD"))
  refine Ac true (fun Q hQ=>?_) (fun _=>?_) (fun hc=>nomatch hc)
  ·(walk_at "RD")
   exact hQ
  ·(walk_at "RD")
   exact fun x dx hx hd hne=>⟨x,dx,⟨0,name,start,fi,off,near,least⟩,rfl,rfl,fb,rfl,fin x dx hx hd⟩
 | 1,_=>
  (walk_at "RD"; repeat (simp only [Kd];walk_at "RD"))
  refine Ac false (fun Q hQ=>?_) (fun hc=>nomatch hc) (fun _=>?_)
  ·(walk_at "RD")
   rw [decide_eq_false (by decide +kernel)]
   exact hQ
  ·(walk_at "RD")
   refine Ac true (fun Q hQ=>?_) (fun _=>?_) (fun hc=>nomatch hc)
   ·(walk_at "RD")
    exact hQ
   ·(walk_at "RD")
    exact fun x dx hx hd hne=>⟨x,dx,⟨1,name,start,fi,off,near,least⟩,rfl,rfl,fb,rfl,fin x dx hx hd⟩
 | 2,_=>
  (walk_at "RD"; repeat (simp only [Kd];walk_at "RD"))
  refine Ac false (fun Q hQ=>?_) (fun hc=>nomatch hc) (fun _=>?_)
  ·(walk_at "RD")
   rw [decide_eq_false (by decide +kernel)]
   exact hQ
  ·(walk_at "RD")
   refine Ac false (fun Q hQ=>?_) (fun hc=>nomatch hc) (fun _=>?_)
   ·(walk_at "RD")
    rw [decide_eq_false (by decide +kernel)]
    exact hQ
   ·(walk_at "RD")
    exact fun x dx hx hd hne=>⟨x,dx,⟨2,name,start,fi,off,near,least⟩,rfl,rfl,fb,rfl,fin x dx hx hd⟩
theorem UP (T:Txt w K mg t):Eb P w K mg base CX0 6 t.zk t.Fk ["reader","places","ways"] (eJ t):=by
 have G_RowReader_one_of:Eb P w K mg base CX0 5 t.Wc t.Ed ["self","choices"] (av K t):=(Dz T).mono (by decide)
 have G_RowReader_figures:Eb P w K mg base CX0 5 t.Bc t.Nc ["self","low","high"] (Hv t):=(Xx T).mono (by decide)
 have G_RowReader_finish:Eb P w K mg base CX0 5 t.Yc t.Gd ["self"] (rD t):=(tJ T).mono (by decide)
 have G_read_new_name:Eb P w K mg base CX0 5 t.pf t.af ["reader","ways"] (xu t):=(zB T).mono (by decide)
 have G_read_end:Eb P w K mg base CX0 5 t.Gk t.Bk ["reader","places","start"] (rJ t):=DO T
 have G_made_way:Eb P w K mg base CX0 5 t.vk t.Ik ["sort","name","start","end","off","near","least"] (Mz t):=(sH T).mono (by decide)
 refine T.Jn.ok se (fun vs H Q E h=>?_) (fun cdv A outer s H vs Q E hr h=>?_)
 ·obtain ⟨q,row,n,wl,ds,d,rfl,_⟩:=h;rfl
 obtain ⟨q,row,n,wl,ds,d,rfl,R,hd,hn,hW,hdl,hnew,nt,qq⟩:=h
 refine ⟨_,(db (Ab (i:=3) se.nd rfl (Or.inl rfl) (wd (pv 0) T.Bb T.Hh G_RowReader_one_of hr T.Ih .nil zb (bb (bg (bb yc (bb yc (bb yc gb)))) gb)))
   (db (Ab (i:=4) se.nd rfl (Or.inl rfl) (wb G_read_new_name hr rfl T.Kq T.ah.kp T.Mq .nil zb (bb (pv 0) (bb (pv 2) gb))))
   (db (Ab (i:=5) se.nd rfl (Or.inl rfl) (wd (pv 0) T.Bb T.Mc G_RowReader_figures hr T.Lc .nil zb (bb lb (bb (Gb Oe (pv 1) lb) gb))))
   (db (Ab (i:=6) se.nd rfl (Or.inl rfl) (wb G_read_end hr rfl T.rB T.qo.kp T.jB .nil zb (bb (pv 0) (bb (pv 1) (bb (pv 5) gb)))))
   (db (Ab (i:=7) se.nd rfl (Or.inl rfl) (wd (pv 0) T.Bb T.Mc G_RowReader_figures hr T.Lc .nil zb (bb lb (bb (ai rfl T.LB T.GB) gb))))
   (db (Ab (i:=8) se.nd rfl (Or.inl rfl) (wd (pv 0) T.Bb T.Mc G_RowReader_figures hr T.Lc .nil zb (bb lb (bb (ai rfl T.Sy T.wz) gb))))
   (db (Ab (i:=9) se.nd rfl (Or.inl rfl) (wd (pv 0) T.Bb T.Mc G_RowReader_figures hr T.Lc .nil zb (bb lb (bb (ai rfl T.Dx T.Ww) gb))))
   (db (Cc (Qe (pv 0) T.Bb T.Jh G_RowReader_finish hr T.Bh .nil zb))
   (ib (Db (wb G_made_way hr rfl T.DB T.On.kp T.BB .nil zb (bb (pv 3) (bb (pv 4) (bb (pv 5) (bb (pv 6) (bb (pv 7) (bb (pv 8) (bb (pv 9) gb)))))))))))))))))),?_⟩
 have b1:=hd.st;have b2:=hd.fi;have b3:=hd.of;have b4:=hd.nr;have b5:=hd.le
 obtain ⟨_,dx,ta,e1,e2⟩:=id R
 (walk_at "RD")
 refine ⟨_,_,e1,Vg.no _ _ _ (by decide +kernel),by decide,fun p hp=>?_⟩
 have s0:Zb H (upd H p (.lst [V.str (Str.ofString "car"),V.str (Str.ofString "foot"),V.str (Str.ofString "tram")])):=qb hp
 have hin:Kd d.k ∈ [Str.ofString "car",Str.ofString "foot",Str.ofString "tram"]:=by
  have:=hd.k
  match d.k,this with
  | 0,_=>simp [Kd]
  | 1,_=>simp [Kd]
  | 2,_=>simp [Kd]
 refine ⟨q,row,_,0,Kd d.k,p,[Str.ofString "car",Str.ofString "foot",Str.ofString "tram"],rfl,R.same s0,rfl,SqL.of fb,hin,fun H1 s1 n1 R1=>?_⟩
 have x1:Ld q H H1:=(Ld.of s0).trans s1
 have m1:=n1 nt.upd
 (walk_at "RD")
 refine ⟨q,row,_,1,wl,ds,d.name,rfl,R1,rfl,hd.nm,hW.sameX x1 R,hdl,hnew,m1,fun H2 s2 m2 R2=>?_⟩
 obtain ⟨_,dx2,ta2,f2,g2⟩:=id R2
 have x2:=x1.trans s2
 (walk_at "RD")
 refine ⟨_,_,f2,Vg.no _ _ _ (by decide +kernel),⟨q,row,_,2,num d.start,0,n - 1,d.start,rfl,R2,rfl,Kn (by omega) (by omega) (by omega) (by omega),m2,fun H3 s3 n3 R3=>?_⟩⟩
 have x3:=x2.trans s3
 have m3:=n3 m2
 (walk_at "RD")
 refine ⟨q,row,_,3,n,d.start,d.fin,rfl,R3,rfl,b1,b2,hd.ne,hn.2,m3,fun H4 s4 m4 R4=>?_⟩
 obtain ⟨_,dx4,ta4,f4,g4⟩:=id R4
 have x4:=x3.trans s4
 (walk_at "RD")
 refine ⟨_,_,f4,Vg.no _ _ _ (by decide +kernel),⟨q,row,_,4,num d.off,0,30,d.off,rfl,R4,rfl,Kn (by omega) (by omega) (by omega) (by omega),m4,fun H5 s5 n5 R5=>?_⟩⟩
 obtain ⟨_,dx5,ta5,f5,g5⟩:=id R5
 have x5:=x4.trans s5
 have m5:=n5 m4
 (walk_at "RD")
 refine ⟨_,_,f5,Vg.no _ _ _ (by decide +kernel),⟨q,row,_,5,num d.near,0,30,d.near,rfl,R5,rfl,Kn (by omega) (by omega) (by omega) (by omega),m5,fun H6 s6 n6 R6=>?_⟩⟩
 obtain ⟨_,dx6,ta6,f6,g6⟩:=id R6
 have x6:=x5.trans s6
 have m6:=n6 m5
 (walk_at "RD")
 refine ⟨_,_,f6,Vg.no _ _ _ (by decide +kernel),⟨q,row,_,6,num d.least,1,60,d.least,rfl,R6,rfl,Kn (by omega) (by omega) (by omega) (by omega),m6,fun H7 s7 n7 R7=>?_⟩⟩
 obtain ⟨_,dx7,ta7,f7,g7⟩:=id R7
 have x7:=x6.trans s7
 have m7:=n7 m6
 (walk_at "RD")
 refine ⟨_,_,f7,Vg.no _ _ _ (by decide +kernel),⟨q,row,_,7,rfl,R7,rfl,?_⟩⟩
 (walk_at "RD")
 refine ⟨d,rfl,hd.k,fun x H8 s8 n8 w8 hx8=>?_⟩
 refine qq x H8 (x7.trans (Ld.of s8)) (n8 m7) w8 ?_
 cases hH:H x with
 | none=>rfl
 | some u=>
  by_cases hxq:x=q
  ·subst hxq;rw [f7] at hx8;cases hx8
  ·rw [x7 x u hxq hH] at hx8;cases hx8
end
end My
namespace My
open PySem L2
noncomputable abbrev dC:List Str:=[Str.ofString "places",Str.ofString "ways",Str.ofString "numbers"]
noncomputable def cF (n:Int) (wl nd:Addr):List (Str × V):=[(Str.ofString "places",.int n),(Str.ofString "ways",.ref wl),(Str.ofString "numbers",.ref nd)]
theorem Vu (n:Int) (wl nd:Addr):(cF n wl nd).map (·.1)=dC:=rfl
noncomputable def nm (ds:List WD) (i:Nat):Str:=((ds[i]?).map (·.name)).getD (Str.ofString "")
noncomputable def Qx (ds:List WD) (i:Nat):List (Key × V):=(List.range i).map fun j=>(Sum.inr (nm ds j),V.int j)
theorem Xs {ds:List WD} {i:Nat} {d:WD} (h:ds[i]? = some d):nm ds i=d.name:=by unfold nm;rw [h];rfl
theorem MA {ds:List WD} (h:(ds.map (·.name)).Nodup) {i j:Nat} (hi:i < ds.length) (hj:j < ds.length) (e:nm ds i=nm ds j):i=j:=by
 rw [Xs (List.getElem?_eq_getElem hi),Xs (List.getElem?_eq_getElem hj)] at e
 have:=(List.getElem_inj (xs:=ds.map (·.name)) (i:=i) (j:=j) (h₀:=by rw [List.length_map];exact hi) (h₁:=by rw [List.length_map];exact hj) h).mp (by rw [List.getElem_map,List.getElem_map];exact e)
 exact this
theorem yA {ds:List WD} (h:(ds.map (·.name)).Nodup) {i:Nat}:∀ {n:Nat},i < n→n ≤ ds.length→vj (Qx ds n) (Sum.inr (nm ds i))=some (.int i):=by
 intro n
 induction n with
 | zero=>intro hi _;omega
 | succ n ih=>
  intro hi hn
  unfold Qx vj
  rw [List.range_succ,List.map_append,List.find?_append]
  by_cases c:i < n
  ·have:=ih c (by omega)
   unfold Qx vj at this
   cases e:List.find? (fun kv=>decide (kv.fst=Sum.inr (nm ds i))) (List.map (fun j=>((Sum.inr (nm ds j):Key),V.int j)) (List.range n)) with
   | none=>rw [e] at this;cases this
   | some p=>rw [e] at this;exact this
  ·have e:i=n:=by omega
   subst e
   have no:List.find? (fun kv=>decide (kv.fst=Sum.inr (nm ds i))) (List.map (fun j=>((Sum.inr (nm ds j):Key),V.int j)) (List.range i))=none:=by
    rw [List.find?_eq_none]
    intro p hp
    obtain ⟨j,hj,rfl⟩:=List.mem_map.mp hp
    have hj':=List.mem_range.mp hj
    simp only [decide_eq_true_eq]
    intro z
    have:=MA h (by omega) (by omega) (Sum.inr.inj z)
    omega
   rw [no]
   simp
theorem uL {ds:List WD} {x:Str} (h:∀ d ∈ ds,d.name ≠ x):∀ {n:Nat},n ≤ ds.length→vj (Qx ds n) (Sum.inr x)=none:=by
 intro n hn
 unfold vj Qx
 rw [List.find?_eq_none.mpr]
 ·rfl
 intro p hp
 obtain ⟨j,hj,rfl⟩:=List.mem_map.mp hp
 have hj':=List.mem_range.mp hj
 simp only [decide_eq_true_eq]
 intro z
 have hjl:j < ds.length:=by omega
 have e:=Sum.inr.inj z
 rw [Xs (List.getElem?_eq_getElem hjl)] at e
 exact h _ (List.getElem_mem hjl) e
theorem WH {ds:List WD} (h:(ds.map (·.name)).Nodup) {n:Nat} (hn:n < ds.length):Cs (Qx ds n) (Sum.inr (nm ds n)) (.int n)=Qx ds (n + 1):=by
 unfold Cs
 have no:((Qx ds n).any fun kv=>decide (kv.1=Sum.inr (nm ds n)))=false:=by
  rw [List.any_eq_false]
  intro p hp
  obtain ⟨j,hj,rfl⟩:=List.mem_map.mp hp
  have hj':=List.mem_range.mp hj
  simp only [decide_eq_true_eq]
  intro z
  have:=MA h (by omega) hn (Sum.inr.inj z)
  omega
 rw [no]
 unfold Qx
 rw [List.range_succ,List.map_append]
 rfl
theorem Te {H H1 H2:Hp} {q:Addr} (a:Zb H H1) (b:Ld q H1 H2) (n:H q=none):Zb H H2:=fun c u e=>b c u (ub e n) (a c u e)
theorem GO {t:Adr} {H:Hp} {p q:Addr} {i j:Int} {ws vs:List Str} {k l:Nat} (a:Vg t H p i ws k) (b:Vg t H q j vs l) (n:i ≠ j):p ≠ q:=fun z=>by
 subst z
 obtain ⟨_,dx,ta,e1,_⟩:=a
 obtain ⟨_,dx',ta',e2,_⟩:=b
 rw [e1] at e2
 have e3:=Option.some.inj e2
 injection e3 with _ _ e4
 unfold rdF at e4
 injection e4 with e5 _
 injection e5 with _ e6
 injection e6 with e7
 exact n e7
theorem LD {t:Adr} {H:Hp} {p q:Addr} {d:WD} {j:Int} {vs:List Str} {l:Nat} (a:Wd t H p d) (b:Vg t H q j vs l):p ≠ q:=fun z=>by
 subst z
 obtain ⟨_,dx,e1⟩:=a
 obtain ⟨_,dx',ta',e2,_⟩:=b
 rw [e1] at e2
 have e3:=Option.some.inj e2
 injection e3 with _ _ e4
 exact absurd (congrArg List.length e4) (by show ¬ (7:Nat)=3;decide)
noncomputable def Uc (t:Adr) (H:Hp) (c:Addr) (n:Int) (ds:List WD):Prop:=
 ((ds.map (·.name)).Nodup∧ds.length ≤ 12)∧∃ dx wl nd,H c=some (.ins t.Tb dx (cF n wl nd))∧Pj t H wl ds∧H nd=some (.dK (Qx ds ds.length))
theorem Uc.same {t:Adr} {H H':Hp} {c:Addr} {n:Int} {ds:List WD} (h:Uc t H c n ds) (s:Zb H H'):Uc t H' c n ds:=by
 obtain ⟨h0,dx,wl,nd,e1,e2,e3⟩:=h
 exact ⟨h0,dx,wl,nd,s _ _ e1,e2.same s,s _ _ e3⟩
theorem Dw {m:Str} (n:Int) (wl nd:Addr) (h:dC.contains m=false):(cF n wl nd).lookup m=none:=vm dC (Vu ..) h
section
variable {w:World} {K:PySem.W.Frag} {mg:Str→Option Value} {t:Adr} {H:Hp} {c dx wl nd:Addr} {n:Int}
theorem FI (T:Txt w K mg t) (e:H c=some (.ins t.Tb dx (cF n wl nd))):wj K H c (Str.ofString "places") (.int n):=⟨_,dx,_,e,T.Jb,T.Ah,yd dC 0 (Vu ..) (by decide +kernel) rfl⟩
theorem YC (T:Txt w K mg t) (e:H c=some (.ins t.Tb dx (cF n wl nd))):wj K H c (Str.ofString "ways") (.ref wl):=⟨_,dx,_,e,T.Jb,T.lj,yd dC 1 (Vu ..) (by decide +kernel) rfl⟩
theorem ii (T:Txt w K mg t) (e:H c=some (.ins t.Tb dx (cF n wl nd))):wj K H c (Str.ofString "numbers") (.ref nd):=⟨_,dx,_,e,T.Jb,T.Zg,yd dC 2 (Vu ..) (by decide +kernel) rfl⟩
end
noncomputable def jJ (t:Adr):Sp:=fun vs H Q _=>∃ c dx n wl ds,vs=[.ref c,.int n,.ref wl]∧H c=some (.ins t.Tb dx [])∧Pj t H wl ds∧(ds.map (·.name)).Nodup∧ds.length ≤ 12∧NoT H ∧
 ∀ H',Ld c H H'→NoT H'→Uc t H' c n ds→Q .non H'
noncomputable def sP (t:Adr):Sp:=fun vs H Q _=>∃ n ds,vs=[.str (Kv n ds)]∧COk n ds∧NoT H∧∀ c H',Zb H H'→NoT H'→Uc t H' c n ds→Q (.ref c) H'
noncomputable def Op (t:Adr):Sp:=fun vs H Q _=>∃ c n ds,vs=[.ref c]∧Uc t H c n ds∧∀ p,H p=none→Q (.ref p) (upd H p (.lst (Rb (ds.map (·.name)))))
noncomputable def Nx (t:Adr):Sp:=fun vs H Q _=>∃ c n ds,∃ i:Nat,∃ d,vs=[.ref c,.str d.name]∧Uc t H c n ds∧ds[i]? = some d∧Q (.int (i:Nat)) H
noncomputable def Yf (t:Adr):Sp:=fun vs H Q _=>∃ c n ds,∃ i:Nat,∃ d,vs=[.ref c,.str d.name]∧Uc t H c n ds∧ds[i]? = some d∧∀ a,Wd t H a d→Q (.ref a) H
section
variable {P:Program} {w:World} {K:PySem.W.Frag} {mg:Str→Option Value} {base:Heap} {t:Adr}
theorem JP (T:Txt w K mg t):Eb P w K mg base CX0 1 t.ie t.Xe ["self","places","ways"] (jJ t):=by
 refine T.Tj.ok He (fun vs H Q E h=>?_) (fun cdv A outer s H vs Q E hr h=>?_)
 ·obtain ⟨c,dx,n,wl,ds,rfl,_⟩:=h;rfl
 obtain ⟨c,dx,n,wl,ds,rfl,hc,hW,hnd,hdl,nt,q⟩:=h
 have hu:=uz hr
 refine ⟨_,(db (qf (pv 0) (pv 1) rfl)
   (db (qf (pv 0) (pv 2) rfl)
   (db (qf (pv 0) Up rfl)
   (ib (ee PassesOwn.never rfl (gs rfl T.Wg (bb (pv 2) gb)) (Ge (K:=K) (n:=2) rfl rfl (Kb (yb (i:=3) He.nd rfl (Or.inl rfl) (.inl rfl)) (Kb (yb (i:=4) He.nd rfl (Or.inl rfl) (.inl rfl)) De))) (ib (Vv hu (Vb (pv 0) rfl) (Vb (pv 4) rfl) (pv 3) rfl))))))),?_⟩
 (walk_at "RD")
 refine ⟨_,_,_,hc,T.Jb,T.Ah,by decide,?_⟩
 refine ⟨_,_,_,fb,T.Jb,T.lj,Fn (n:=999) (by decide),fun nd hn=>?_⟩
 simp only [Bj] at hn ⊢
 rw [show Qg (Str.ofString "places") (V.int n) ([]:List (Str × V))=[(Str.ofString "places",V.int n)] from rfl,show Qg (Str.ofString "ways") (V.ref wl) [(Str.ofString "places",V.int n)]=[(Str.ofString "places",V.int n),(Str.ofString "ways",V.ref wl)] from Vc [Str.ofString "places"] rfl (by decide +kernel)] at hn ⊢
 have hnc:c ≠ nd:=fun z=>by subst z;rw [fb] at hn;cases hn
 refine ⟨t.Tb,dx,[(Str.ofString "places",V.int n),(Str.ofString "ways",V.ref wl)],by rw [pb hnc];exact fb,T.Jb,T.Zg,show (2:Nat) < 1000 by decide,?_⟩
 rw [show Qg (Str.ofString "numbers") (V.ref nd) [(Str.ofString "places",V.int n),(Str.ofString "ways",V.ref wl)]=cF n wl nd from Vc [Str.ofString "places",Str.ofString "ways"] rfl (by decide +kernel)]
 obtain ⟨as,w1,w2,al⟩:=hW
 have hHn:H nd=none:=by rw [pb (Ne.symm hnc)] at hn;exact hn
 have sx:Ld c H (upd (upd (upd H c (.ins t.Tb dx [(Str.ofString "places",V.int n),(Str.ofString "ways",V.ref wl)])) nd (.dK [])) c (.ins t.Tb dx (cF n wl nd))):=fun b u hb e=>by
  rw [pb hb,pb (ub e hHn),pb hb];exact e
 have hwc:wl ≠ c:=Ag w1 hc (by intro z;cases z)
 refine ⟨⟨_,SqL.of (sx _ _ hwc w1)⟩,?_⟩
 refine jj.enum (xs:=as.map V.ref) (fun i σ H'=>(∃ x y,σ=[some (V.ref c),some (V.int n),some (V.ref wl),x,y])∧H' c=some (.ins t.Tb dx (cF n wl nd))∧H' nd=some (.dK (Qx ds i))∧Ld c H H'∧NoT H') ?_ ?_ ?_ ?_
 ·exact ⟨⟨_,_,rfl⟩,fb,by rw [pb (Ne.symm hnc),fb];rfl,sx,((nt.upd).upd).upd⟩
 ·rintro i σ H' hi ⟨_,_,_,sx',_⟩
  exact SqL.of (sx' _ _ hwc w1)
 ·rintro i v σ H' p hv ⟨⟨x,y,rfl⟩,h1,h2,sx',nt'⟩ hp
  obtain ⟨a,ha,rfl⟩:=qc hv
  obtain ⟨hi,_⟩:=List.getElem?_eq_some_iff.mp ha
  have hid:i < ds.length:=by omega
  have hd:ds[i]? = some ds[i]:=List.getElem?_eq_getElem hid
  have Wa:Wd t H a ds[i]:=al i a _ ha hd
  have hac:a ≠ c:=by
   obtain ⟨_,dx',e⟩:=Wa
   intro z
   subst z
   rw [hc] at e
   have e2:=Option.some.inj e
   injection e2 with _ _ e3
   exact absurd (congrArg List.length e3) (by show ¬ (0:Nat)=7;decide)
  have Wa':Wd t H' a ds[i]:=⟨Wa.1,Wa.2.imp fun dx' e=>sx' _ _ hac e⟩
  have sp:Zb H' (upd H' p (.tup [.int i,.ref a])):=qb hp
  refine xj ?_
  (walk_at "RD")
  refine ⟨_,ii T (sp _ _ h1),_,(Wa'.same sp).f_name T,_,rfl,_,aC.k (k:=Sum.inr ds[i].name) (sp _ _ h2) (Nat.lt_of_le_of_lt (show (Qx ds i).length ≤ 12 by unfold Qx;rw [List.length_map,List.length_range];omega) (by decide)),?_⟩
  rw [← Xs hd,WH hnd hid]
  refine ⟨⟨_,rfl⟩,?_,fb,fun b u hb e=>?_,(nt'.upd).upd⟩
  ·rw [pb hnc];exact sp _ _ h1
  ·rw [pb (ub e hHn)];exact sp _ _ (sx' b u hb e)
 ·rintro σ H' ⟨⟨x,y,rfl⟩,h1,h2,sx',nt'⟩
  (walk_at "RD")
  rw [List.length_map,w2] at h2
  refine q H' sx' nt' ⟨⟨hnd,hdl⟩,dx,wl,nd,h1,⟨as,sx' _ _ hwc w1,w2,fun i a d h3 h4=>?_⟩,h2⟩
  have Wa:=al i a d h3 h4
  have hac:a ≠ c:=by
   obtain ⟨_,dx',e⟩:=Wa
   intro z
   subst z
   rw [hc] at e
   have e2:=Option.some.inj e
   injection e2 with _ _ e3
   exact absurd (congrArg List.length e3) (by show ¬ (0:Nat)=7;decide)
  exact ⟨Wa.1,Wa.2.imp fun dx' e=>sx' _ _ hac e⟩
theorem VF (T:Txt w K mg t):Eb P w K mg base CX0 1 t.Pc t.qd ["self","name"] (Nx t):=by
 refine T.xf.ok Mh (fun vs H Q E h=>?_) (fun cdv A outer s H vs Q E hr h=>?_)
 ·obtain ⟨c,n,ds,i,d,rfl,_⟩:=h;rfl
 obtain ⟨c,n,ds,i,d,rfl,⟨⟨hnd,hdl⟩,dx,wl,nd,e1,e2,e3⟩,hd,q⟩:=h
 have hu:=uz hr
 have hv:vj (Qx ds ds.length) (Sum.inr d.name)=some (.int i):=by
  rw [← Xs hd]
  exact yA hnd (List.getElem?_eq_some_iff.mp hd).1 (Nat.le_refl _)
 have hg:zl H nd (.str d.name) (some (.int i)):=by rw [← hv];exact zl.k (k:=Sum.inr d.name) e3
 refine ⟨_,(db (ye (rK (Ex hu (pv 1) (Vb (pv 0) rfl))) (ib Jk) ic)
   (ib (Db (wo hu (Vb (pv 0) rfl) (pv 1) (fun _ _=>rfl))))),?_⟩
 (walk_at "RD")
 refine Ac false (fun Q hQ=>?_) (fun hc=>nomatch hc) (fun _=>?_)
 ·(walk_at "RD")
  refine ⟨_,ii T e1,_,rfl,_,hg,?_⟩
  exact hQ
 ·(walk_at "RD")
  exact ⟨_,ii T e1,_,rfl,_,hg,q⟩
theorem nh (T:Txt w K mg t):Eb P w K mg base CX0 2 t.Ib t.Nb ["self","name"] (Yf t):=by
 have G_Crossing_number:Eb P w K mg base CX0 1 t.Pc t.qd ["self","name"] (Nx t):=VF T
 refine T.Df.ok vh (fun vs H Q E h=>?_) (fun cdv A outer s H vs Q E hr h=>?_)
 ·obtain ⟨c,n,ds,i,d,rfl,_⟩:=h;rfl
 obtain ⟨c,n,ds,i,d,rfl,C,hd,q⟩:=h
 obtain ⟨⟨hnd,hdl⟩,dx,wl,nd,e1,⟨as,w1,w2,al⟩,e3⟩:=id C
 refine ⟨_,(ib (Db (ae Zd (Vb (pv 0) rfl) (wd (pv 0) T.Jb T.Ei G_Crossing_number hr T.mi .nil zb (bb (pv 1) gb)) (fun _ _=>rfl)))),?_⟩
 (walk_at "RD")
 refine ⟨_,YC T e1,_,_,e1,Dw _ _ _ (by decide +kernel),⟨c,n,ds,i,d,rfl,C,hd,?_⟩⟩
 have hi:i < as.length:=by rw [w2];exact (List.getElem?_eq_some_iff.mp hd).1
 have ha:as[i]? = some as[i]:=List.getElem?_eq_getElem hi
 (walk_at "RD")
 refine ⟨_,SqL.of w1,_,jc (show (as.map V.ref)[i]? = some (V.ref as[i]) by rw [List.getElem?_map,ha];rfl),?_⟩
 exact q as[i] (al i _ d ha hd)
theorem uQ (T:Txt w K mg t):Eb P w K mg base CX0 7 t.lf t.Ve ["text"] (sP t):=by
 have G_readers:Eb P w K mg base CX0 6 t.Fm t.Bm ["text"] (Zt t):=(xB T).mono (by decide)
 have G_read_ring:Eb P w K mg base CX0 6 t.Vi t.Ti ["reader"] (IF t):=(iL T).mono (by decide)
 have G_read_way:Eb P w K mg base CX0 6 t.zk t.Fk ["reader","places","ways"] (eJ t):=UP T
 have G_Crossing_init:Eb P w K mg base CX0 5 t.ie t.Xe ["self","places","ways"] (jJ t):=(JP T).mono (by decide)
 refine T.Sg.ok Ud (fun vs H Q E h=>?_) (fun cdv A outer s H vs Q E hr h=>?_)
 ·obtain ⟨n,ds,rfl,_⟩:=h;rfl
 obtain ⟨n,ds,rfl,hC,nt,qq⟩:=h
 refine ⟨_,(db (Ab (i:=1) Ud.nd rfl (Or.inl rfl) (wb G_readers hr rfl T.wE T.Jq.kp T.gF .nil zb (bb (pv 0) gb)))
   (db (Ab (i:=2) Ud.nd rfl (Or.inl rfl) (wb G_read_ring hr rfl T.Py T.Yl.kp T.mz .nil zb (bb (ae Zd (pv 1) lb (fun _ _=>rfl)) gb)))
   (db (Ab (i:=3) Ud.nd rfl (Or.inl rfl) (bg gb))
   (db (ee PassesOwn.never rfl (ce (Oz mL (pv 1) (lE lb) jF)) (yb (i:=4) Ud.nd rfl (Or.inl rfl)) (db (ye (kc uj (gc Dc rfl T.Nm Xc (bb (pv 3) gb)) (ai rfl T.Ry T.ly) (wc _)) (ib Jk) ic)
   (ib (Cc (jo PySem.F.plainAttrs_list PySem.F.slot_list_append PySem.F.type_list_append jg (pv 3) (bb (wb G_read_way hr rfl T.EB T.Jn.kp T.NB .nil zb (bb (pv 4) (bb (pv 2) (bb (pv 3) gb)))) gb))))))
   (db (ye (uq (bA (pv 3) (fun _=>rfl))) (ib Jk) ic)
   (ib (Db (uo T.bB G_Crossing_init hr rfl T.iC T.oq .nil zb (bb (pv 2) (bb (pv 3) gb)))))))))),?_⟩
 have hrow:=pB hC
 have hlen:=JF hC
 have hnn:=hC.nn
 have hln:=hC.ln
 (walk_at "RD")
 refine ⟨Kv n ds,rfl,by omega,?_,nt,fun p H1 sm1 nt1 R=>?_⟩
 ·rw [hrow]
  intro r hr
  refine ⟨?_,fun x hx=>Nat.le_trans (hC.plain r hr x hx).1 (by decide)⟩
  rcases List.mem_cons.mp hr with rfl | hr
  ·show (2:Nat) ≤ 1000;decide
  ·obtain ⟨d,hd,rfl⟩:=List.mem_map.mp hr
   show (7:Nat) ≤ 1000;decide
 rw [hrow] at R
 obtain ⟨qs,hp,hp0,hql,hqa⟩:=R
 have hql':qs.length=ds.length + 1:=by rw [hql];simp [Wh]
 obtain ⟨q0,qr,rfl⟩:∃ q0 qr,qs=q0 :: qr:=by
  cases qs with
  | nil=>simp at hql'
  | cons a b=>exact ⟨a,b,rfl⟩
 obtain ⟨R0,hq0⟩:=hqa 0 q0 _ rfl rfl
 (walk_at "RD")
 refine ⟨_,SqL.of hp,_,jc (j:=0) rfl,⟨q0,_,n,rfl,R0,hnn,nt1,fun H2 s2 nt2=>⟨Nat.zero_le _,fun wl hwl=>?_⟩⟩⟩
 obtain ⟨C0,dq0,fq0,hins⟩:=R0.ins
 have hpq:p ≠ q0:=Ag hp hins (by intro z;cases z)
 have hp2:H2 p=some (.lst ((q0 :: qr).map V.ref)):=s2 _ _ hpq hp
 have swl:Zb H2 (upd H2 wl (.lst [])):=qb hwl
 have hcut:mF ((q0 :: qr).map V.ref) (some 1) none=qr.map V.ref:=by
  unfold mF
  simp [HT.sIx]
  exact List.take_of_length_le (by rw [List.length_map];exact Nat.le_refl _)
 refine ⟨_,SqL.of (swl _ _ hp2),fun pc hpc=>?_⟩
 rw [hcut]
 have hpw:pc ≠ wl:=fun z=>by subst z;rw [fb] at hpc;cases hpc
 have spc:Zb (upd H2 wl (.lst [])) (upd (upd H2 wl (.lst [])) pc (.lst (qr.map V.ref))):=qb hpc
 refine ⟨⟨_,SqL.of fb⟩,?_⟩
 have sH2:Zb H H2:=Te sm1 s2 hq0
 have hqrl:qr.length=ds.length:=by simpa using hql'
 refine jj.list (xs:=qr.map V.ref) (fun i σ H'=>(∃ x,σ=[some (V.str (Kv n ds)),some (V.ref p),some (V.int n),some (V.ref wl),x])∧NoT H'∧Zb H H'∧H' pc=some (.lst (qr.map V.ref))∧H wl=none∧Pj t H' wl (ds.take i) ∧
  ∀ (j:Nat) (q:Addr) (d:WD),i ≤ j→qr[j]? = some q→ds[j]? = some d→Vg t H' q ((j + 1:Nat):Int) (Zj d) 0∧H q=none) ?_ ?_ ?_ ?_
 ·refine ⟨⟨_,rfl⟩,(nt2.upd).upd,(sH2.trans swl).trans spc,fb,sH2.free hwl,⟨[],spc _ _ fb,rfl,fun j a d h=>by simp at h⟩,fun j q d _ h1 h2=>?_⟩
  have hr:(Wh n ds)[j + 1]? = some (Zj d):=by
   unfold Wh
   rw [List.getElem?_cons_succ,List.getElem?_map,h2];rfl
  obtain ⟨Rj,hqj⟩:=hqa (j + 1) q _ (by rw [List.getElem?_cons_succ];exact h1) hr
  refine ⟨((Rj.sameX s2 (GO Rj R0 (by omega)) R0.ins).same swl).same spc,hqj⟩
 ·rintro i σ H' hi ⟨_,_,_,h,_⟩
  exact SqL.of h
 ·rintro i v σ H' hv ⟨⟨x,rfl⟩,nt',sm',hpc',hwl0,W,Rs⟩
  obtain ⟨q,hq,rfl⟩:=qc hv
  obtain ⟨hi,_⟩:=List.getElem?_eq_some_iff.mp hq
  have hid:i < ds.length:=by omega
  have hd:ds[i]? = some ds[i]:=List.getElem?_eq_getElem hid
  obtain ⟨Rq,hqn⟩:=Rs i q _ (Nat.le_refl _) hq hd
  have htl:(ds.take i).length=i:=by rw [List.length_take];omega
  obtain ⟨as,w1,w2,al⟩:=id W
  (walk_at "RD")
  refine Ac false (fun Q hQ=>?_) (fun hc=>nomatch hc) (fun _=>?_)
  ·(walk_at "RD")
   refine ⟨_,.inl (SqL.of w1),?_⟩
   rw [List.length_map,w2,htl]
   rw [decide_eq_false (by omega)] <;> exact hQ
  ·(walk_at "RD")
   refine ⟨.inl ⟨_,SqL.of w1⟩,?_⟩
   refine ⟨q,_,n,wl,ds.take i,ds[i],rfl,Rq,hC.al _ (List.getElem_mem hid),hnn,W,by omega,fun e he z=>?_,nt',fun y H3 s3 nt3 w3 hy3=>?_⟩
   ·obtain ⟨j,hj,rfl⟩:=List.getElem_of_mem he
    rw [List.getElem_take] at z
    have hj':j < i:=by omega
    have:=MA hC.nd (i:=j) (j:=i) (by omega) hid (by rw [Xs (List.getElem?_eq_getElem (by omega)),Xs hd];exact z)
    omega
   ·(walk_at "RD")
    obtain ⟨Cq,dq,fq,hqi⟩:=Rq.ins
    have hwq:wl ≠ q:=Ag w1 hqi (by intro z;cases z)
    have hw3:H3 wl=some (.lst (as.map V.ref)):=s3 _ _ hwq w1
    have hsm3:Zb H H3:=Te sm' s3 hqn
    refine ⟨_,hw3,Nat.lt_of_le_of_lt (show (as.map V.ref).length ≤ 12 by rw [List.length_map];omega) (by decide),?_⟩
    have hyw:y ≠ wl:=fun z=>by
     subst z
     rw [w1] at hy3;cases hy3
    refine ⟨⟨_,rfl⟩,nt3.upd,fun b u e=>?_,?_,hwl0,⟨as ++ [y],by rw [fb,List.map_append];rfl,?_,fun j a d h1 h2=>?_⟩,fun j q' d hj h1 h2=>?_⟩
    ·rw [pb (ub e hwl0)];exact hsm3 _ _ e
    ·rw [pb hpw]
     exact s3 _ _ (Ag hpc' hqi (by intro z;cases z)) hpc'
    ·rw [List.length_append,w2,htl,List.length_take];show i + 1=_;omega
    ·by_cases hj:j < as.length
     ·rw [List.getElem?_append_left hj] at h1
      have h2':(ds.take i)[j]? = some d:=by
       rw [List.getElem?_take_of_lt (by omega)]
       rw [List.getElem?_take_of_lt (by omega)] at h2
       exact h2
      obtain ⟨hk,dx',e⟩:=al j a d h1 h2'
      have haq:a ≠ q:=LD ⟨hk,dx',e⟩ Rq
      have haw:a ≠ wl:=Ag e w1 (by intro z;cases z)
      exact ⟨hk,dx',by rw [pb haw];exact s3 _ _ haq e⟩
     ·rw [List.getElem?_append_right (by omega)] at h1
      have hj0:j - as.length=0:=by
       cases hh:j - as.length with
       | zero=>rfl
       | succ m=>rw [hh] at h1;simp at h1
      rw [hj0] at h1
      have e3:y=a:=by simpa using h1
      subst e3
      have e4:j=i:=by omega
      subst e4
      rw [List.getElem?_take_of_lt (by omega),hd] at h2
      cases h2
      exact ⟨w3.1,w3.2.imp fun dx' e=>by rw [pb hyw];exact e⟩
    ·obtain ⟨Rj,hqj⟩:=Rs j q' d (by omega) h1 h2
     have R3:=Rj.sameX s3 (GO Rj Rq (by omega)) Rq.ins
     refine ⟨?_,hqj⟩
     obtain ⟨hz,dx',ta,e1,e2⟩:=R3
     refine ⟨hz,dx',ta,by rw [pb (Ag e1 hw3 (by intro z;cases z))];exact e1,?_⟩
     rw [pb (fun z=>by
      subst z
      rw [hw3] at e2
      have e5:=Option.some.inj e2
      injection e5 with e6
      cases as with
      | nil=>exact absurd (congrArg List.length e6) (by show ¬ (0:Nat)=7;decide)
      | cons a r=>injection e6 with e7 _;cases e7)]
     exact e2
 ·rintro σ H' ⟨⟨x,rfl⟩,nt',sm',hpc',hwl0,W,Rs⟩
  rw [List.length_map,hqrl,List.take_length] at W
  obtain ⟨as,w1,w2,al⟩:=id W
  (walk_at "RD")
  refine Ac false (fun Q hQ=>?_) (fun hc=>nomatch hc) (fun _=>?_)
  ·(walk_at "RD")
   refine ⟨true,.inl ⟨_,SqL.of w1,?_⟩,hQ⟩
   cases as with
   | nil=>simp at w2;omega
   | cons a r=>rfl
  ·(walk_at "RD")
   intro c dx hc hdx hne
   have sc:Zb H' (upd (upd H' dx (.own c)) c (.ins t.Tb dx [])):=((Zb.refl H').updN hdx).updN hc
   refine ⟨c,dx,n,wl,ds,rfl,fb,W.same sc,hC.nd,hln.2,(nt'.upd).upd,fun H5 s5 nt5 C5=>⟨rfl,?_⟩⟩
   exact qq c H5 (Te (sm'.trans sc) s5 (sm'.free hc)) nt5 C5
end
section
variable {P:Program} {w:World} {K:PySem.W.Frag} {mg:Str→Option Value} {base:Heap} {t:Adr}
theorem Sv (T:Txt w K mg t):Eb P w K mg base CX0 1 t.ad t.Ad ["self"] (Op t):=by
 refine T.gj.ok Gn (fun vs H Q E h=>?_) (fun cdv A outer s H vs Q E hr h=>?_)
 ·obtain ⟨c,n,ds,rfl,_⟩:=h;rfl
 obtain ⟨c,n,ds,rfl,⟨⟨hnd,hdl⟩,dx,wl,nd,e1,⟨as,w1,w2,al⟩,e3⟩,q⟩:=h
 refine ⟨_,(ib (Db (jk rfl (ce (Vb (pv 0) rfl)) (Nd (sc:=jb xg) rfl (by decide +kernel)) (N:=["way"]) (sel:=[none]) (ve (M:=["self"]) (by decide +kernel)) (Blk.of (fun _ _ _ _=>(yb (i:=0) (yi (N:=["way"]) (by decide +kernel) rfl) rfl (Or.inl rfl))) (fun _ _ _ _=>⟨_,Tg,by first | rfl | (dsimp only [Cx.block];done) | (dsimp only [Cx.block];exact rfl)⟩) (fun _ _ _ _=>⟨_,(Vb (pv 0) rfl),by first | rfl | (dsimp only [Cx.block];done) | (dsimp only [Cx.block];exact rfl)⟩))))),?_⟩
 (walk_at "RD")
 refine ⟨_,YC T e1,_,rfl,⟨_,SqL.of w1⟩,?_⟩
 refine Pd.list_zs (xs:=as.map V.ref) (zs:=Rb (ds.map (·.name))) (SqL.of w1) (by rw [List.length_map,w2];exact Nat.le_trans hdl (by decide)) (by rw [Cm,List.length_map,List.length_map,w2]) (fun i v z N hv hz' hN=>?_) (fun p hp=>q p hp)
 obtain ⟨a,ha,rfl⟩:=qc hv
 obtain ⟨x,hx,rfl⟩:=qc hz'
 obtain ⟨d,hd,rfl⟩:=qc hx
 (walk_at "RD")
 exact ⟨Sub.name,_,(al i a d ha hd).f_name T,hN⟩
end
end My
namespace My
open PySem L2
noncomputable def uy (x:Str):Prop:=x.length ≤ 1000∧∀ c ∈ x.cps.toList,c < 16 ^ 8
noncomputable def dm (ds:List WD) (x:Str):Prop:=∀ d ∈ ds,d.name ≠ x
noncomputable def Dj (t:Adr) (x:Str) (H:Hp) (E:XK):Prop:=∀ dx H',Zb H H'→(NoT H→NoT H')→H' dx=some (.ext (XD dx [(Str.ofString "name",.str x)]))→E (.ref t.Sd) (some dx) H'
noncomputable def mJ (t:Adr):Sp:=fun vs H Q _=>∃ x n,vs=[.ref x,.str n]∧uy n∧H x=some (.ext (XF x t.Sd none)) ∧
 ∀ dx,H dx=none→dx ≠ x→Q .non (upd (upd H x (.ext (XF x t.Sd (some dx)))) dx (.ext (XD dx [(Str.ofString "name",.str n)])))
noncomputable def Eu (t:Adr):Sp:=fun vs H Q E=>∃ c n ds x,vs=[.ref c,.str x]∧Uc t H c n ds∧uy x∧((∃ i:Nat,∃ d,ds[i]? = some d∧x=d.name∧Q (.int (i:Nat)) H)∨(dm ds x∧Dj t x H E))
noncomputable def qu (t:Adr):Sp:=fun vs H Q E=>∃ c n ds x,vs=[.ref c,.str x]∧Uc t H c n ds∧uy x∧((∃ i:Nat,∃ d,ds[i]? = some d∧x=d.name∧∀ a,Wd t H a d→Q (.ref a) H)∨(dm ds x∧Dj t x H E))
section
variable {P:Program} {w:World} {K:PySem.W.Frag} {mg:Str→Option Value} {base:Heap} {t:Adr}
theorem QO (T:Txt w K mg t):Eb P w K mg base CX0 1 t.lg t.Ch ["self","name"] (mJ t):=by
 refine T.Jo.ok Ao (fun vs H Q E h=>?_) (fun cdv A outer s H vs Q E hr h=>?_)
 ·obtain ⟨x,n,rfl,_⟩:=h;rfl
 obtain ⟨x,n,rfl,hn,hx,q⟩:=h
 refine ⟨_,(db (Cc (Yp rfl T.Mi T.Ki (bb (pv 0) (bb (rn (Dh (Mr (pv 1) vA)) (by rw [sizeLine_eq];decide)) gb))))
   (ib (Zp (pv 0) (pv 1) rfl))),?_⟩
 (walk_at "RD")
 refine ⟨hn.1,hn.2,fun y=>⟨_,_,hx,T.Xn,?_⟩⟩
 exact ⟨_,hx,T.Xn,T.Jg,q⟩
theorem eB (T:Txt w K mg t):Eb P w K mg base (CX1 P w) 3 t.Pc t.qd ["self","name"] (Eu t):=by
 have G_NoWay_init:Eb P w K mg base CX0 1 t.lg t.Ch ["self","name"] (mJ t):=QO T
 refine T.xf.okX Mh (fun vs H Q E h=>?_) (fun cdv A outer s H vs Q E hr h=>?_)
 ·obtain ⟨c,n,ds,x,rfl,_⟩:=h;rfl
 obtain ⟨c,n,ds,x,rfl,⟨⟨hnd,hdl⟩,dx,wl,nd,e1,e2,e3⟩,hsm,hq⟩:=h
 have hu:=uz hr
 refine ⟨_,(db (ye (rK (Ex hu (pv 1) (Vb (pv 0) rfl))) (ib (Vp (Rp T.jA G_NoWay_init hr rfl T.bv T.jx (bb (pv 1) gb)) Pu)) ic)
   (ib (Db (wo hu (Vb (pv 0) rfl) (pv 1) (fun _ _=>rfl))))),?_⟩
 rcases hq with ⟨i,d,hd,rfl,q⟩ | ⟨hs,q⟩
 ·have hv:vj (Qx ds ds.length) (Sum.inr d.name)=some (.int i):=by
   rw [← Xs hd]
   exact yA hnd (List.getElem?_eq_some_iff.mp hd).1 (Nat.le_refl _)
  have hg:zl H nd (.str d.name) (some (.int i)):=by rw [← hv];exact zl.k (k:=Sum.inr d.name) e3
  (walk_at "RD")
  refine Ac false (fun Q hQ=>?_) (fun hc=>nomatch hc) (fun _=>?_)
  ·(walk_at "RD")
   refine ⟨_,ii T e1,_,rfl,_,hg,?_⟩
   exact hQ
  ·(walk_at "RD")
   exact ⟨_,ii T e1,_,rfl,_,hg,q⟩
 ·have hv:vj (Qx ds ds.length) (Sum.inr x)=none:=uL hs (Nat.le_refl _)
  have hg:zl H nd (.str x) none:=by rw [← hv];exact zl.k (k:=Sum.inr x) e3
  (walk_at "RD")
  refine Ac true (fun Q hQ=>?_) (fun _=>?_) (fun hc=>nomatch hc)
  ·(walk_at "RD")
   refine ⟨_,ii T e1,_,rfl,_,hg,?_⟩
   exact hQ
  ·(walk_at "RD")
   refine ⟨Nat.le_trans (show 1 ≤ 1000 by decide) (by decide),fun a ha=>⟨a,x,rfl,hsm,fb,fun d hd hne=>?_⟩⟩
   have hd0:H d=none:=by rw [pb hne] at hd;exact hd
   refine ⟨rfl,t.Sd,some d,by rw [pb (Ne.symm hne),fb],T.Xn,q d _ (fun b u e=>?_) (fun nt=>(((nt.upd).upd).upd).upd) (by rw [pb hne,fb])⟩
   rw [pb (ub e ha),pb (ub e hd0),pb (ub e ha),pb (ub e ha)]
   exact e
theorem fC (T:Txt w K mg t):Eb P w K mg base (CX1 P w) 4 t.Ib t.Nb ["self","name"] (qu t):=by
 have GX_Crossing_number:Eb P w K mg base (CX1 P w) 3 t.Pc t.qd ["self","name"] (Eu t):=eB T
 refine T.Df.okX vh (fun vs H Q E h=>?_) (fun cdv A outer s H vs Q E hr h=>?_)
 ·obtain ⟨c,n,ds,x,rfl,_⟩:=h;rfl
 obtain ⟨c,n,ds,x,rfl,C,hsm,hq⟩:=h
 obtain ⟨⟨hnd,hdl⟩,dx,wl,nd,e1,⟨as,w1,w2,al⟩,e3⟩:=id C
 refine ⟨_,(ib (Db (ae Zd (Vb (pv 0) rfl) (wd (pv 0) T.Jb T.Ei GX_Crossing_number hr T.mi .nil uf (bb (pv 1) gb)) (fun _ _=>rfl)))),?_⟩
 (walk_at "RD")
 refine ⟨_,YC T e1,_,_,e1,Dw _ _ _ (by decide +kernel),⟨c,n,ds,x,rfl,C,hsm,?_⟩⟩
 rcases hq with ⟨i,d,hd,ex,q⟩ | ⟨hs,q⟩
 ·refine .inl ⟨i,d,hd,ex,?_⟩
  have hi:i < as.length:=by rw [w2];exact (List.getElem?_eq_some_iff.mp hd).1
  have ha:as[i]? = some as[i]:=List.getElem?_eq_getElem hi
  (walk_at "RD")
  refine ⟨_,SqL.of w1,_,jc (show (as.map V.ref)[i]? = some (V.ref as[i]) by rw [List.getElem?_map,ha];rfl),?_⟩
  exact q as[i] (al i _ d ha hd)
 ·exact .inr ⟨hs,q⟩
end
noncomputable def qp (n s f p:Int):Bool:=decide (0 < (p - s) % n) && decide ((p - s) % n < (f - s) % n)
noncomputable def wM (n s f s2 f2:Int):Bool:=decide (f=f2) || (if (s2=s∨s2=f)∨(f2=s∨f2=f) then false else (qp n s f s2 != qp n s f f2))
noncomputable abbrev mt (n:Int) (d e:WD):Bool:=wM n d.start d.fin e.start e.fin
noncomputable def jK (t:Adr):Sp:=fun vs H Q _=>∃ a d n p,vs=[.int n,.ref a,.int p]∧Wd t H a d∧0 < n∧Q (.bl (qp n d.start d.fin p)) H
noncomputable def jP (n:Int) (d e:WD):Bool:=if (e.start=d.start∨e.start=d.fin)∨(e.fin=d.start∨e.fin=d.fin) then false else (qp n d.start d.fin e.start != qp n d.start d.fin e.fin)
noncomputable def pF (t:Adr):Sp:=fun vs H Q _=>∃ a b d e n,vs=[.int n,.ref a,.ref b]∧Wd t H a d∧Wd t H b e∧0 < n∧NoT H∧Q (.bl (jP n d e)) H
noncomputable def iI (t:Adr):Sp:=fun vs H Q _=>∃ a b d e n,vs=[.int n,.ref a,.ref b]∧Wd t H a d∧Wd t H b e∧0 < n∧∀ H',Zb H H'→Q (.bl (jP n d e)) H'
noncomputable def dF (t:Adr):Sp:=fun vs H Q _=>∃ c n ds,∃ i j:Nat,∃ d e,vs=[.ref c,.str d.name,.str e.name]∧Uc t H c n ds∧0 < n∧ds[i]? = some d∧ds[j]? = some e∧NoT H∧Q (.bl (mt n d e)) H
section
variable {P:Program} {w:World} {K:PySem.W.Frag} {mg:Str→Option Value} {base:Heap} {t:Adr}
theorem CO (T:Txt w K mg t):Eb P w K mg base CX0 1 t.Tp t.Wp ["places","way","place"] (jK t):=by
 refine T.Lp.ok Bx (fun vs H Q E h=>?_) (fun cdv A outer s H vs Q E hr h=>?_)
 ·obtain ⟨a,d,n,p,rfl,_⟩:=h;rfl
 obtain ⟨a,d,n,p,rfl,W,hn,q⟩:=h
 refine ⟨_,(db (Ab (i:=3) Bx.nd rfl (Or.inl rfl) (Gb Ce (Gb Oe (pv 2) (Vb (pv 1) rfl)) (pv 0)))
   (ib (Db (yJ (Se Zw lb (pv 3) (wc _)) (sA (Se Zw (pv 3) (Gb Ce (Gb Oe (Vb (pv 1) rfl) (Vb (pv 1) rfl)) (pv 0)) (wc _))))))),?_⟩
 (walk_at "RD")
 refine ⟨_,W.f_start T,_,rfl,hn,?_⟩
 unfold qp at q
 by_cases c:0 < (p - d.start) % n
 ·rw [if_pos (decide_eq_true c)]
  rw [decide_eq_true c,Bool.true_and] at q
  exact ⟨_,W.f_end T,_,W.f_start T,_,rfl,_,rfl,hn,q⟩
 ·rw [if_neg (by simpa using c)]
  rw [decide_eq_false c,Bool.false_and] at q
  exact q
theorem LR (x a b:Int):inV (.int x) [.int a,.int b]=decide (x=a∨x=b):=by
 unfold inV
 simp only [List.any_cons,List.any_nil,eqV,Bool.or_false]
 rw [Bool.eq_iff_iff]
 simp only [Bool.or_eq_true,beq_iff_eq,decide_eq_true_eq]
 omega
theorem gN (T:Txt w K mg t):Eb P w K mg base CX0 2 t.Kh t.xh ["places","way","second"] (pF t):=by
 refine Eb.forget (sp:=iI t) ?_ fun vs H Q E h=>?_
 ·have G_in_bow:Eb P w K mg base CX0 1 t.Tp t.Wp ["places","way","place"] (jK t):=CO T
  refine T.ck.ok Av (fun vs H Q E h=>?_) (fun cdv A outer s H vs Q E hr h=>?_)
  ·obtain ⟨a,b,d,e,n,rfl,_⟩:=h;rfl
  obtain ⟨a,b,d,e,n,rfl,Wa,Wb,hn,q⟩:=h
  refine ⟨_,(db (ye (PW.pt (vz (kc Zr (Vb (pv 2) rfl) (bg (bb (Vb (pv 1) rfl) (bb (Vb (pv 1) rfl) gb))) (by with_unfolding_all rfl)) (su (kc Zr (Vb (pv 2) rfl) (bg (bb (Vb (pv 1) rfl) (bb (Vb (pv 1) rfl) gb))) (by with_unfolding_all rfl))))) (ib (Db Ws)) ic)
   (ib (Db (Se gz (wb G_in_bow hr rfl T.Hz T.Lp.kp T.QA .nil zb (bb (pv 0) (bb (pv 1) (bb (Vb (pv 2) rfl) gb)))) (wb G_in_bow hr rfl T.Hz T.Lp.kp T.QA .nil zb (bb (pv 0) (bb (pv 1) (bb (Vb (pv 2) rfl) gb)))) (wc _))))),?_⟩
  (walk_at "RD")
  refine Em (fun b H'=>Zb H H'∧b=decide ((e.start=d.start∨e.start=d.fin)∨(e.fin=d.start∨e.fin=d.fin))) (fun Q hQ=>?_) (fun H' ⟨sm,hb⟩=>?_) (fun H' ⟨sm,hb⟩=>?_)
  ·(walk_at "RD")
   refine ⟨_,Wb.f_start T,_,Wa.f_start T,_,Wa.f_end T,by decide,fun p hp=>⟨_,.inl (SqL.of fb),rfl,rfl,?_⟩⟩
   have s1:Zb H (upd H p (.lst [.int d.start,.int d.fin])):=qb hp
   rw [LR]
   by_cases c1:e.start=d.start∨e.start=d.fin
   ·rw [if_pos (decide_eq_true c1)]
    exact hQ _ _ ⟨s1,(decide_eq_true (.inl c1)).symm⟩
   ·rw [if_neg (by simpa using c1)]
    refine ⟨_,(Wb.same s1).f_end T,_,(Wa.same s1).f_start T,_,(Wa.same s1).f_end T,by decide,fun p2 hp2=>⟨_,.inl (SqL.of fb),rfl,rfl,?_⟩⟩
    rw [LR]
    refine hQ _ _ ⟨s1.trans (qb hp2),?_⟩
    rw [Bool.eq_iff_iff,decide_eq_true_eq,decide_eq_true_eq]
    exact ⟨.inr,fun z=>z.resolve_left c1⟩
  ·(walk_at "RD")
   have hb':=of_decide_eq_true hb.symm
   have:=q H' sm
   unfold jP at this
   rw [if_pos hb'] at this
   exact this
  ·(walk_at "RD")
   have hb':=of_decide_eq_false hb.symm
   refine ⟨_,(Wb.same sm).f_start T,⟨a,d,n,_,rfl,Wa.same sm,hn,?_⟩⟩
   refine ⟨_,(Wb.same sm).f_end T,⟨a,d,n,_,rfl,Wa.same sm,hn,?_⟩⟩
   refine ⟨rfl,?_⟩
   have:=q H' sm
   unfold jP at this
   rw [if_neg hb'] at this
   rw [show (!decide (V.bl (qp n d.start d.fin e.start)=V.bl (qp n d.start d.fin e.fin)))=(qp n d.start d.fin e.start != qp n d.start d.fin e.fin) by
    cases qp n d.start d.fin e.start <;> cases qp n d.start d.fin e.fin <;> rfl]
   exact this
 ·obtain ⟨a,b,d,e,n,h1,h2,h3,h4,nt,q⟩:=h
  exact ⟨nt,a,b,d,e,n,h1,h2,h3,h4,fun H' sm=>⟨sm,q⟩⟩
theorem pQ (n:Int) (d e:WD):mt n d e=(decide (d.fin=e.fin) || jP n d e):=rfl
theorem ZK (T:Txt w K mg t):Eb P w K mg base CX0 3 t.LA t.wA ["crossing","one","other"] (dF t):=by
 have G_Crossing_called:Eb P w K mg base CX0 2 t.Ib t.Nb ["self","name"] (Yf t):=nh T
 have G_bows_cross:Eb P w K mg base CX0 2 t.Kh t.xh ["places","way","second"] (pF t):=gN T
 refine T.tF.ok jz (fun vs H Q E h=>?_) (fun cdv A outer s H vs Q E hr h=>?_)
 ·obtain ⟨c,n,ds,i,j,d,e,rfl,_⟩:=h;rfl
 obtain ⟨c,n,ds,i,j,d,e,rfl,C,hn,hd,he,nt,q⟩:=h
 obtain ⟨_,dx,wl,nd,e1,e2,e3⟩:=id C
 refine ⟨_,(db (Ab (i:=3) jz.nd rfl (Or.inl rfl) (wd (pv 0) T.Jb T.Yb G_Crossing_called hr T.Xb .nil zb (bb (pv 1) gb)))
   (db (Ab (i:=4) jz.nd rfl (Or.inl rfl) (wd (pv 0) T.Jb T.Yb G_Crossing_called hr T.Xb .nil zb (bb (pv 2) gb)))
   (ib (Db (SN (Se uj (Vb (pv 3) rfl) (Vb (pv 4) rfl) (wc _)) (sA (wb G_bows_cross hr rfl T.px T.ck.kp T.Cw .nil zb (bb (Vb (pv 0) rfl) (bb (pv 3) (bb (pv 4) gb)))))))))),?_⟩
 rw [pQ] at q
 (walk_at "RD")
 refine ⟨_,_,e1,Dw _ _ _ (by decide +kernel),⟨c,n,ds,i,d,rfl,C,hd,fun a Wa=>?_⟩⟩
 (walk_at "RD")
 refine ⟨_,_,e1,Dw _ _ _ (by decide +kernel),⟨c,n,ds,j,e,rfl,C,he,fun b Wb=>?_⟩⟩
 (walk_at "RD")
 refine ⟨_,Wa.f_end T,_,Wb.f_end T,rfl,?_⟩
 (walk_at "RD")
 by_cases c1:d.fin=e.fin
 ·rw [if_pos (decide_eq_true c1)]
  rw [decide_eq_true c1,Bool.true_or] at q
  exact q
 ·rw [if_neg (by simpa using c1)]
  rw [decide_eq_false c1,Bool.false_or] at q
  exact ⟨_,FI T e1,⟨a,b,d,e,n,rfl,Wa,Wb,hn,nt,q⟩⟩
end
noncomputable def MJ (t:Adr):Sp:=fun vs H Q _=>∃ c n ds,∃ i j:Nat,∃ d e,vs=[.ref c,.str d.name,.str e.name]∧Uc t H c n ds∧ds[i]? = some d∧ds[j]? = some e∧Q (.int (if d.off - e.near > 0 then d.off - e.near else 0)) H
section
variable {P:Program} {w:World} {K:PySem.W.Frag} {mg:Str→Option Value} {base:Heap} {t:Adr}
theorem EO (T:Txt w K mg t):Eb P w K mg base CX0 3 t.dJ t.kI ["crossing","one","other"] (MJ t):=by
 have G_Crossing_called:Eb P w K mg base CX0 2 t.Ib t.Nb ["self","name"] (Yf t):=nh T
 refine T.mM.ok TD (fun vs H Q E h=>?_) (fun cdv A outer s H vs Q E hr h=>?_)
 ·obtain ⟨c,n,ds,i,j,d,e,rfl,_⟩:=h;rfl
 obtain ⟨c,n,ds,i,j,d,e,rfl,C,hd,he,q⟩:=h
 obtain ⟨_,dx,wl,nd,e1,e2,e3⟩:=id C
 refine ⟨_,(db (Ab (i:=3) TD.nd rfl (Or.inl rfl) (wd (pv 0) T.Jb T.Yb G_Crossing_called hr T.Xb .nil zb (bb (pv 1) gb)))
   (db (Ab (i:=4) TD.nd rfl (Or.inl rfl) (wd (pv 0) T.Jb T.Yb G_Crossing_called hr T.Xb .nil zb (bb (pv 2) gb)))
   (ib (Db (gc (wm rfl) rfl T.YH Ck (bb lb (bb (Gb Oe (Vb (pv 3) rfl) (Vb (pv 4) rfl)) gb))))))),?_⟩
 (walk_at "RD")
 refine ⟨_,_,e1,Dw _ _ _ (by decide +kernel),⟨c,n,ds,i,d,rfl,C,hd,fun a Wa=>?_⟩⟩
 (walk_at "RD")
 refine ⟨_,_,e1,Dw _ _ _ (by decide +kernel),⟨c,n,ds,j,e,rfl,C,he,fun b Wb=>?_⟩⟩
 (walk_at "RD")
 refine ⟨_,Wa.f_off T,_,Wb.f_near T,?_⟩
 (walk_at "RD")
 exact q
end
end My
namespace My
open PySem L2
structure SD where
 name:Str
 b:Int
 n:Int
noncomputable def sdO (d:SD):HO:=.tup [.str d.name,.int d.b,.int d.n]
noncomputable def prO (p:Int × Int):HO:=.tup [.int p.1,.int p.2]
noncomputable def ofN (x:Str) (sp:List SD):List (Int × Int):=(sp.filter fun d=>decide (d.name=x)).map fun d=>(d.b,d.n)
noncomputable def LQ (H:Hp) (qs:List Addr) (os:List HO):Prop:=qs.length=os.length∧∀ (i:Nat) (q:Addr) (o:HO),qs[i]? = some q→os[i]? = some o→H q=some o
noncomputable def LO (H:Hp) (p:Addr) (os:List HO):Prop:=∃ qs:List Addr,H p=some (.lst (qs.map V.ref))∧LQ H qs os
theorem LQ.same {H H':Hp} {qs:List Addr} {os:List HO} (h:LQ H qs os) (s:Zb H H'):LQ H' qs os:=⟨h.1,fun i q o h1 h2=>s _ _ (h.2 i q o h1 h2)⟩
theorem LO.same {H H':Hp} {p:Addr} {os:List HO} (h:LO H p os) (s:Zb H H'):LO H' p os:=by
 obtain ⟨qs,e,q⟩:=h
 exact ⟨qs,s _ _ e,q.same s⟩
theorem LQ.nil (H:Hp):LQ H [] []:=⟨rfl,fun i q o h _=>by simp at h⟩
theorem LQ.app {H:Hp} {qs qs':List Addr} {os os':List HO} (h:LQ H qs os) (h':LQ H qs' os'):LQ H (qs ++ qs') (os ++ os'):=by
 refine ⟨by rw [List.length_append,List.length_append,h.1,h'.1],fun i q r h1 h2=>?_⟩
 rw [List.getElem?_append] at h1 h2
 rw [h.1] at h1
 by_cases c:i < os.length
 ·rw [if_pos c] at h1 h2;exact h.2 i q r h1 h2
 ·rw [if_neg c] at h1 h2;exact h'.2 _ q r h1 h2
theorem LQ.one {H:Hp} {p:Addr} {o:HO} (e:H p=some o):LQ H [p] [o]:=⟨rfl,fun i q r' h1 h2=>by
 match i,h1,h2 with
 | 0,h1,h2=>cases h1;cases h2;exact e
 | i + 1,h1,_=>simp at h1⟩
theorem LQ.at {H:Hp} {qs:List Addr} {os:List HO} (h:LQ H qs os) {i:Nat} {q:Addr} (hq:qs[i]? = some q):∃ o,os[i]? = some o∧H q=some o:=by
 have hi:i < os.length:=by rw [← h.1];exact (List.getElem?_eq_some_iff.mp hq).1
 exact ⟨_,List.getElem?_eq_getElem hi,h.2 i q _ hq (List.getElem?_eq_getElem hi)⟩
theorem oH (x:Str) (sp:List SD) (d:SD):ofN x (sp ++ [d])=ofN x sp ++ if d.name=x then [(d.b,d.n)] else []:=by
 unfold ofN
 rw [List.filter_append,List.map_append]
 congr 1
 by_cases c:d.name=x
 ·rw [if_pos c,List.filter_cons_of_pos (by simpa using c)];rfl
 ·rw [if_neg c,List.filter_cons_of_neg (by simpa using c)];rfl
theorem NE (x:Str) (sp:List SD):(ofN x sp).length ≤ sp.length:=by
 unfold ofN
 rw [List.length_map]
 exact List.length_filter_le _ _
theorem Xg {α:Type} {xs:List α} {i:Nat} {x:α} (h:xs[i]? = some x):xs.take (i + 1)=xs.take i ++ [x]:=by
 rw [List.take_add_one,h];rfl
noncomputable def zJ {α:Type} (z:Int) (v:α) (l:List α) (i:Int):List α:=l.set (i % z).toNat v
noncomputable def Yz {α:Type} (z:Int) (v:α) (b:Int):Nat→List α→List α
 | 0,l=>l
 | k + 1,l=>zJ z v (Yz z v b k l) (b + k)
noncomputable def Nu {α:Type} (z:Int) (v:α) (b:Int):Nat→List α→List α
 | 0,l=>l
 | k + 1,l=>zJ z v (Nu z v b k l) (b - 1 - k)
theorem zA {α:Type} (z:Int) (v:α) (l:List α) (i:Int):(zJ z v l i).length=l.length:=by unfold zJ;rw [List.length_set]
theorem Ye {α:Type} (z:Int) (v:α) (b:Int) (k:Nat) (l:List α):(Yz z v b k l).length=l.length:=by
 induction k with
 | zero=>rfl
 | succ k ih=>unfold Yz;rw [zA,ih]
theorem Zf {α:Type} (z:Int) (v:α) (b:Int) (k:Nat) (l:List α):(Nu z v b k l).length=l.length:=by
 induction k with
 | zero=>rfl
 | succ k ih=>unfold Nu;rw [zA,ih]
noncomputable def fmF (z:Nat) (ps:List (Int × Int)):List Bool:=ps.foldl (fun l p=>Yz z true p.1 p.2.toNat l) (List.replicate z false)
noncomputable def Is (z rd fd:Nat) (l:List Str) (p:Int × Int):List Str:=Yz z (Str.ofString "fade") (p.1 + p.2) fd (Yz z (Str.ofString "free") p.1 p.2.toNat (Nu z (Str.ofString "ready") p.1 rd l))
noncomputable def Yh (z rd fd:Nat) (ps:List (Int × Int)):List Str:=ps.foldl (Is z rd fd) (List.replicate z (Str.ofString "stop"))
theorem VL {z:Nat} {ps:List (Int × Int)} {i:Nat} {p:Int × Int} (h:ps[i]? = some p):fmF z (ps.take (i + 1))=Yz z true p.1 p.2.toNat (fmF z (ps.take i)):=by
 unfold fmF;rw [Xg h,List.foldl_append];rfl
theorem EE {z rd fd:Nat} {ps:List (Int × Int)} {i:Nat} {p:Int × Int} (h:ps[i]? = some p):Yh z rd fd (ps.take (i + 1))=Is z rd fd (Yh z rd fd (ps.take i)) p:=by
 unfold Yh;rw [Xg h,List.foldl_append];rfl
theorem vo (z:Nat) (ps:List (Int × Int)):(fmF z ps).length=z:=by
 unfold fmF
 suffices h:∀ l:List Bool,l.length=z→(ps.foldl (fun l p=>Yz z true p.1 p.2.toNat l) l).length=z from h _ (List.length_replicate ..)
 induction ps with
 | nil=>exact fun l h=>h
 | cons p ps ih=>exact fun l h=>ih _ (by rw [Ye];exact h)
theorem ji (z rd fd:Nat) (ps:List (Int × Int)):(Yh z rd fd ps).length=z:=by
 unfold Yh
 suffices h:∀ l:List Str,l.length=z→(ps.foldl (Is z rd fd) l).length=z from h _ (List.length_replicate ..)
 induction ps with
 | nil=>exact fun l h=>h
 | cons p ps ih=>exact fun l h=>ih _ (by unfold Is;rw [Ye,Ye,Zf];exact h)
noncomputable def vK (z:Int) (sp:List SD):Prop:=sp.length ≤ 100∧∀ d ∈ sp,0 ≤ d.b∧d.b < 1000∧0 ≤ d.n∧d.n < 1000
theorem Ty {x:Str} {sp:List SD} {p:Int × Int} (h:p ∈ ofN x sp):∃ d ∈ sp,d.name=x∧p=(d.b,d.n):=by
 unfold ofN at h
 obtain ⟨d,hd,rfl⟩:=List.mem_map.mp h
 have:=List.mem_filter.mp hd
 exact ⟨d,this.1,by simpa using this.2,rfl⟩
theorem cO {m:Nat} (h:0 < m) (i:Int):ixN m (i % (m:Int))=some (i % (m:Int)).toNat:=by
 have h1:=Int.emod_nonneg i (show (m:Int) ≠ 0 by omega)
 have h2:=Int.emod_lt_of_pos i (show 0 < (m:Int) by omega)
 unfold ixN
 rw [if_pos h1,if_pos h2]
theorem nA {α β:Type} (f:α→β) {l:List α} {z:Nat} (h:l.length=z) (hz:0 < z) (i:Int):ixN (l.map f).length (i % (z:Int))=some (i % (z:Int)).toNat:=by
 rw [List.length_map,h];exact cO hz i
theorem ax (d:WD):0 ≤ Gc d∧Gc d ≤ 2:=by
 unfold Gc;split <;> omega
theorem eA {d:WD} (h:0 ≤ d.off∧d.off ≤ 1000):0 ≤ be d∧be d ≤ 1000:=by
 unfold be;split <;> omega
theorem oP {d:WD} {m:Str} (h:kt.contains m=false):(Bp d).lookup m=none:=vm kt (Yt _) h
noncomputable def sf (l:List Bool):List V:=l.map V.bl
theorem Mp {α β:Type} (f:α→β) (z:Int) (v:α) (l:List α) (i:Int):(l.map f).set (i % z).toNat (f v)=(zJ z v l i).map f:=by
 unfold zJ;rw [List.map_set]
noncomputable def Aq:Sp:=fun vs H Q _=>∃ p x sp,vs=[.ref p,.str x]∧LO H p (List.map sdO sp)∧sp.length ≤ 100∧∀ r H',Zb H H'→(NoT H→NoT H')→LO H' r ((ofN x sp).map prO)→Q (.ref r) H'
noncomputable def KK:Sp:=fun vs H Q _=>∃ (z:Nat) (p:Addr) (x:Str) (sp:List SD),vs=[.int z,.ref p,.str x]∧(0 < z∧z ≤ 1000)∧LO H p (List.map sdO sp)∧vK z sp∧∀ r H',Zb H H'→(NoT H→NoT H')→H r=none→H' r=some (.lst (sf (fmF z (ofN x sp))))→Q (.ref r) H'
noncomputable def bE (t:Adr):Sp:=fun vs H Q _=>∃ (a:Addr) (d:WD) (z:Nat) (p:Addr) (sp:List SD),vs=[.ref a,.int z,.ref p]∧(0 < z∧z ≤ 1000)∧Wd t H a d∧LO H p (List.map sdO sp)∧vK z sp∧(0 ≤ d.off∧d.off ≤ 1000)∧∀ r H',Zb H H'→(NoT H→NoT H')→H r=none→H' r=some (.lst (Rb (Yh z (Gc d).toNat (be d).toNat (ofN d.name sp))))→Q (.ref r) H'
noncomputable def jf (m:List Bool):Nat→Int
 | 0=>0
 | k + 1=>if m[(2 * m.length - 1 - k) % m.length]? = some true then 0 else jf m k + 1
noncomputable def bn (m:List Bool):List Int:=(List.range m.length).map fun t=>jf m (2 * m.length - t)
noncomputable def Xt (m:List Bool) (k:Nat):List Int:=(List.range k).map fun j=>jf m (m.length + j + 1)
theorem dB (m:List Bool):(Xt m m.length).reverse=bn m:=by
 unfold Xt bn
 refine List.ext_getElem (by simp) (fun i h1 h2=>?_)
 simp at h1
 simp
 congr 1
 omega
noncomputable def wu (m:List Bool):List Int:=(bn m.reverse).reverse
noncomputable def Wv:Sp:=fun vs H Q _=>∃ (p:Addr) (m:List Bool),vs=[.ref p]∧H p=some (.lst (sf m))∧(0 < m.length∧m.length ≤ 1000)∧∀ r H',Zb H H'→(NoT H→NoT H')→H r=none→H' r=some (.lst ((bn m).map V.int))→Q (.ref r) H'
noncomputable def Zz:Sp:=fun vs H Q _=>∃ (p:Addr) (m:List Bool),vs=[.ref p]∧H p=some (.lst (sf m))∧(0 < m.length∧m.length ≤ 1000)∧∀ r H',Zb H H'→(NoT H→NoT H')→H r=none→H' r=some (.lst ((wu m).map V.int))→Q (.ref r) H'
section
variable {P:Program} {w:World} {K:PySem.W.Frag} {mg:Str→Option Value} {base:Heap} {t:Adr}
theorem gw (T:Txt w K mg t):Eb P w K mg base CX0 1 t.wf t.zf ["spans","name"] Aq:=by
 refine T.Og.ok Fy (fun vs H Q E h=>?_) (fun cdv A outer s H vs Q E hr h=>?_)
 ·obtain ⟨p,x,sp,rfl,_⟩:=h;rfl
 obtain ⟨p,x,sp,rfl,⟨qs,l1,lq⟩,hl,q⟩:=h
 refine ⟨_,(ib (Db (jk rfl (ce (pv 0)) (Nd (sc:=jb Tn) rfl (by decide +kernel)) (N:=["called","begin","turns","name"]) (sel:=[none,none,none,some 1]) (ve (M:=["spans","name"]) (by decide +kernel)) (Blk.of (fun _ _ _ _=>(Ge (K:=K) (n:=3) rfl rfl (Kb (yb (i:=0) (yi (N:=["called","begin","turns","name"]) (by decide +kernel) rfl) rfl (Or.inl rfl) (.inr rfl)) (Kb (yb (i:=1) (yi (N:=["called","begin","turns","name"]) (by decide +kernel) rfl) rfl (Or.inl rfl) (.inr rfl)) (Kb (yb (i:=2) (yi (N:=["called","begin","turns","name"]) (by decide +kernel) rfl) rfl (Or.inl rfl) (.inr rfl)) De))))) (fun _ _ _ _=>⟨_,(OF (kc uj (pv 0) (pv 3) (wc _))),by first | rfl | (dsimp only [Cx.block];done) | (dsimp only [Cx.block];exact rfl)⟩) (fun _ _ _ _=>⟨_,(Hq (bb (pv 1) (bb (pv 2) gb))),by first | rfl | (dsimp only [Cx.block];done) | (dsimp only [Cx.block];exact rfl)⟩))))),?_⟩
 (walk_at "RD")
 have hql:qs.length=sp.length:=by rw [lq.1,List.length_map]
 refine ⟨⟨_,SqL.of l1⟩,?_⟩
 refine Pd.list (xs:=qs.map V.ref) (fun i ys H'=>∃ os:List Addr,ys=os.map V.ref∧LQ H' os ((ofN x (sp.take i)).map prO)∧Zb H H'∧(NoT H→NoT H')) (Nat.le_trans (show (qs.map V.ref).length ≤ 100 by rw [List.length_map];omega) (by decide)) ⟨[],rfl,LQ.nil _,Zb.refl _,id⟩ ?_ ?_ ?_
 ·rintro i ys H' hi ⟨os,rfl,r,sm,_⟩
  refine ⟨(SqL.of l1).same sm,?_⟩
  rw [List.length_map,r.1,List.length_map]
  exact Nat.le_trans (NE _ _) (by rw [List.length_take];omega)
 ·rintro i v ys H' hv ⟨os,rfl,r,sm,nt⟩ N hN
  obtain ⟨qi,hqi,rfl⟩:=qc hv
  obtain ⟨o,ho,e⟩:=lq.at hqi
  obtain ⟨d,hd,rfl⟩:=qc ho
  have e':=sm _ _ e
  (walk_at "RD")
  refine ⟨_,SqT.of e',rfl,_,_,rfl,_,_,rfl,_,_,rfl,rfl,Sub.name3,rfl,?_⟩
  dsimp only at hN
  rw [Xg hd,oH,List.map_append] at hN
  by_cases c:d.name=x
  ·rw [if_pos c] at hN
   rw [if_pos (by rw [c];exact decide_eq_true rfl)]
   refine ⟨by decide,fun p1 hp1=>hN _ _ ⟨os ++ [p1],by rw [List.map_append];rfl,(r.same (qb hp1)).app (LQ.one fb),sm.trans (qb hp1),fun n=>(nt n).upd⟩⟩
  ·rw [if_neg c] at hN
   rw [if_neg (by rw [decide_eq_true_eq];intro z;exact c (V.str.inj z))]
   exact hN _ _ ⟨os,rfl,by rw [List.map_nil,List.append_nil];exact r,sm,nt⟩
 ·rintro ys H' ⟨os,rfl,r,sm,nt⟩ p1 hp1
  rw [List.take_of_length_le (by rw [List.length_map];omega)] at r
  exact q _ _ (sm.trans (qb hp1)) (fun n=>(nt n).upd) ⟨os,fb,r.same (qb hp1)⟩
theorem gO (T:Txt w K mg t):Eb P w K mg base CX0 2 t.fg t.dg ["size","spans","name"] KK:=by
 have G_spans_of:Eb P w K mg base CX0 1 t.wf t.zf ["spans","name"] Aq:=gw T
 refine T.Nh.ok ff (fun vs H Q E h=>?_) (fun cdv A outer s H vs Q E hr h=>?_)
 ·obtain ⟨z,p,x,sp,rfl,_⟩:=h;rfl
 obtain ⟨z,p,x,sp,rfl,hz,L,hs,q⟩:=h
 refine ⟨_,(db (Hi (i:=3) ff.nd rfl (Or.inl rfl) rfl (qe rfl T.Bg (bb (pv 0) gb)) (Nd (sc:=jb yj) rfl (by decide +kernel)) (N:=["turn"]) (sel:=[none]) (ve (M:=["size","spans","name","marks","begin","turns","step"]) (by decide +kernel)) (Blk.of (fun _ _ _ _=>(yb (i:=0) (yi (N:=["turn"]) (by decide +kernel) rfl) rfl (Or.inl rfl))) (fun _ _ _ _=>⟨_,Tg,by first | rfl | (dsimp only [Cx.block];done) | (dsimp only [Cx.block];exact rfl)⟩) (fun _ _ _ _=>⟨_,Ws,by first | rfl | (dsimp only [Cx.block];done) | (dsimp only [Cx.block];exact rfl)⟩)) rfl)
   (db (ee PassesOwn.never rfl (ce (wb G_spans_of hr rfl T.Lk T.Og.kp T.uk .nil zb (bb (pv 1) (bb (pv 2) gb)))) (Ge (K:=K) (n:=2) rfl rfl (Kb (yb (i:=4) ff.nd rfl (Or.inl rfl) (.inl rfl)) (Kb (yb (i:=5) ff.nd rfl (Or.inl rfl) (.inl rfl)) De))) (ib (ee PassesOwn.never rfl (qe rfl T.Bg (bb (pv 5) gb)) (yb (i:=6) ff.nd rfl (Or.inl rfl)) (ib (Fo Ws (Qz (pv 3) (Gb Ce (Gb Jc (pv 4) (pv 6)) (pv 0)) Gp))))))
   (ib (Db (pv 3))))),?_⟩
 (walk_at "RD")
 obtain ⟨hz0,hz1⟩:=hz
 obtain ⟨hs1,hs2⟩:=hs
 refine ⟨by omega,by omega,?_⟩
 refine Pd.range_map (fun _=>V.bl false) (Nat.le_trans (show (z:Int).toNat ≤ 1000 by omega) (by decide)) (fun i N hi hN=>?_) (fun mk hmk=>?_)
 ·(walk_at "RD")
  exact ⟨Sub.name,hN⟩
 rw [show (List.range (z:Int).toNat).map (fun _=>V.bl false)=sf (fmF z []) by
  unfold sf fmF;rw [List.foldl_nil,List.map_replicate];exact List.ext_getElem (by simp) (by simp)]
 refine ⟨p,x,sp,rfl,L.same (qb hmk),hs1,fun r H1 s1 nt1 L1=>⟨r,rfl,?_⟩⟩
 obtain ⟨qs,l1,lq⟩:=L1
 refine ⟨⟨_,SqL.of l1⟩,?_⟩
 have hmk1:H1 mk=some (.lst (sf (fmF z []))):=s1 _ _ fb
 have hrm:r ≠ mk:=fun e=>by
  subst e
  rw [l1] at hmk1
  injection hmk1 with e1
  injection e1 with e2
  have e3:=congrArg List.length e2
  cases qs with
  | nil=>simp [sf,vo] at e3;omega
  | cons a qs=>
   have:(sf (fmF z []))[0]? = some (V.ref a):=by rw [← e2];rfl
   unfold sf at this
   rw [List.getElem?_map] at this
   cases hh:(fmF z [])[0]? with
   | none=>rw [hh] at this;cases this
   | some b=>rw [hh] at this;cases this
 refine jj.list (xs:=qs.map V.ref) (fun i σ H'=>(∃ a b c,σ=[some (V.int z),some (V.ref p),some (V.str x),some (V.ref mk),a,b,c])∧Ld mk H1 H'∧(NoT H→NoT H')∧H' mk=some (.lst (sf (fmF z ((ofN x sp).take i))))) ?_ ?_ ?_ ?_
 ·exact ⟨⟨_,_,_,rfl⟩,fun b u _ e=>e,fun n=>nt1 n.upd,hmk1⟩
 ·rintro i σ H' hi ⟨_,sx,_,_⟩
  exact SqL.of (sx _ _ hrm l1)
 ·rintro i v σ H' hv ⟨⟨a,b,c,rfl⟩,sx,nt',hm⟩
  obtain ⟨qi,hqi,rfl⟩:=qc hv
  obtain ⟨o,ho,e⟩:=lq.at hqi
  obtain ⟨d,hd,rfl⟩:=qc ho
  obtain ⟨sd,hsd,hsn,rfl⟩:=Ty (List.mem_of_getElem? hd)
  have hb:=hs2 sd hsd
  have e':=sx _ _ (Ag e hmk1 (by intro z;cases z)) e
  (walk_at "RD")
  refine ⟨_,SqT.of e',rfl,_,_,rfl,_,_,rfl,rfl,_,rfl,(by dsimp only;omega),(by dsimp only;omega),?_⟩
  rw [VL hd]
  refine jj.range (fun k σ H'=>(∃ c,σ=[some (V.int z),some (V.ref p),some (V.str x),some (V.ref mk),some (V.int sd.b),some (V.int sd.n),c])∧Ld mk H1 H'∧(NoT H→NoT H')∧H' mk=some (.lst (sf (Yz z true sd.b k (fmF z ((ofN x sp).take i)))))) ?_ ?_ ?_
  ·exact ⟨⟨_,rfl⟩,sx,nt',hm⟩
  ·rintro k σ H2 hk ⟨⟨c,rfl⟩,sx2,nt2,hm2⟩
   (walk_at "RD")
   refine ⟨by omega,_,hm2,_,nA V.bl (by rw [Ye,vo]) hz0 _,⟨_,rfl⟩,fun b u hb e=>by rw [pb hb];exact sx2 _ _ hb e,fun n=>(nt2 n).upd,?_⟩
   rw [fb]
   unfold sf
   rw [Mp V.bl]
   rfl
  ·rintro σ H2 ⟨⟨c,rfl⟩,sx2,nt2,hm2⟩
   exact ⟨⟨_,_,_,rfl⟩,sx2,nt2,hm2⟩
 ·rintro σ H' ⟨⟨a,b,c,rfl⟩,sx,nt',hm⟩
  (walk_at "RD")
  rw [List.take_of_length_le (by rw [List.length_map,lq.1,List.length_map];exact Nat.le_refl _)] at hm
  exact q _ _ (Te ((qb hmk).trans s1) sx hmk) nt' hmk hm
theorem rM (T:Txt w K mg t):Eb P w K mg base CX0 2 t.Xz t.oA ["way","size","spans"] (bE t):=by
 have G_spans_of:Eb P w K mg base CX0 1 t.wf t.zf ["spans","name"] Aq:=gw T
 have V_Way_ready:wB P w K mg base CX0 1 (isW t) "ready" ["self"] (Di t):=vC T
 have V_Way_fade:wB P w K mg base CX0 1 (isW t) "fade" ["self"] (wk t):=GJ T
 refine T.bG.ok gm (fun vs H Q E h=>?_) (fun cdv A outer s H vs Q E hr h=>?_)
 ·obtain ⟨a,d,z,p,sp,rfl,_⟩:=h;rfl
 obtain ⟨a,d,z,p,sp,rfl,⟨hz0,hz1⟩,W,L,⟨hs1,hs2⟩,hoff,q⟩:=h
 refine ⟨_,(db (Hi (i:=3) gm.nd rfl (Or.inl rfl) rfl (qe rfl T.Bg (bb (pv 1) gb)) (Nd (sc:=jb uD) rfl (by decide +kernel)) (N:=["turn"]) (sel:=[none]) (ve (M:=["way","size","spans","shown","begin","turns","step"]) (by decide +kernel)) (Blk.of (fun _ _ _ _=>(yb (i:=0) (yi (N:=["turn"]) (by decide +kernel) rfl) rfl (Or.inl rfl))) (fun _ _ _ _=>⟨_,Tg,by first | rfl | (dsimp only [Cx.block];done) | (dsimp only [Cx.block];exact rfl)⟩) (fun _ _ _ _=>⟨_,yc,by first | rfl | (dsimp only [Cx.block];done) | (dsimp only [Cx.block];exact rfl)⟩)) rfl)
   (db (ee PassesOwn.never rfl (ce (wb G_spans_of hr rfl T.Lk T.Og.kp T.uk .nil zb (bb (pv 2) (bb (Vb (pv 0) rfl) gb)))) (Ge (K:=K) (n:=2) rfl rfl (Kb (yb (i:=4) gm.nd rfl (Or.inl rfl) (.inl rfl)) (Kb (yb (i:=5) gm.nd rfl (Or.inl rfl) (.inl rfl)) De))) (db (ee PassesOwn.never rfl (qe rfl T.Bg (bb (mn (pv 0) V_Way_ready hr zb) gb)) (yb (i:=6) gm.nd rfl (Or.inl rfl)) (ib (Fo yc (Qz (pv 3) (Gb Ce (Gb Oe (Gb Oe (pv 4) lb) (pv 6)) (pv 1)) Gp))))
   (db (ee PassesOwn.never rfl (qe rfl T.Bg (bb (pv 5) gb)) (yb (i:=6) gm.nd rfl (Or.inl rfl)) (ib (Fo yc (Qz (pv 3) (Gb Ce (Gb Jc (pv 4) (pv 6)) (pv 1)) Gp))))
   (ib (ee PassesOwn.never rfl (qe rfl T.Bg (bb (mn (pv 0) V_Way_fade hr zb) gb)) (yb (i:=6) gm.nd rfl (Or.inl rfl)) (ib (Fo yc (Qz (pv 3) (Gb Ce (Gb Jc (Gb Jc (pv 4) (pv 5)) (pv 6)) (pv 1)) Gp))))))))
   (ib (Db (pv 3))))),?_⟩
 (walk_at "RD")
 refine ⟨by omega,by omega,?_⟩
 refine Pd.range_map (fun _=>V.str (Str.ofString "stop")) (Nat.le_trans (show (z:Int).toNat ≤ 1000 by omega) (by decide)) (fun i N hi hN=>?_) (fun mk hmk=>?_)
 ·(walk_at "RD")
  exact ⟨Sub.name,hN⟩
 rw [show (List.range (z:Int).toNat).map (fun _=>V.str (Str.ofString "stop"))=Rb (Yh z (Gc d).toNat (be d).toNat []) by
  unfold Rb Yh;rw [List.foldl_nil,List.map_replicate];exact List.ext_getElem (by simp) (by simp)]
 have hrd:=ax d
 have hfd:=eA hoff
 obtain ⟨dk,dx,hway⟩:=id W
 have w0:∀ {H':Hp},Ld mk (upd H mk (.lst (Rb (Yh z (Gc d).toNat (be d).toNat [])))) H'→H' a=some (.ins (t.cw d.k) dx (Bp d)):=fun sx=>sx _ _ (ub hway hmk) ((qb hmk) _ _ hway)
 refine ⟨_,(W.same (qb hmk)).f_name T,p,d.name,sp,rfl,L.same (qb hmk),hs1,fun r H1 s1 nt1 L1=>⟨r,rfl,?_⟩⟩
 obtain ⟨qs,l1,lq⟩:=L1
 refine ⟨⟨_,SqL.of l1⟩,?_⟩
 have hmk1:H1 mk=some (.lst (Rb (Yh z (Gc d).toNat (be d).toNat []))):=s1 _ _ fb
 have hrm:r ≠ mk:=fun e=>by
  subst e
  rw [l1] at hmk1
  injection hmk1 with e1
  injection e1 with e2
  have e3:=congrArg List.length e2
  cases qs with
  | nil=>simp [Rb,ji] at e3;omega
  | cons a qs=>
   have:(Rb (Yh z (Gc d).toNat (be d).toNat []))[0]? = some (V.ref a):=by rw [← e2];rfl
   unfold Rb at this
   rw [List.getElem?_map] at this
   cases hh:(Yh z (Gc d).toNat (be d).toNat [])[0]? with
   | none=>rw [hh] at this;cases this
   | some b=>rw [hh] at this;cases this
 have wx:∀ {H':Hp},Ld mk H1 H'→Wd t H' a d:=fun sx=>⟨dk,dx,sx _ _ (ub hway hmk) (s1 _ _ ((qb hmk) _ _ hway))⟩
 refine jj.list (xs:=qs.map V.ref) (fun i σ H'=>(∃ a1 b c,σ=[some (V.ref a),some (V.int z),some (V.ref p),some (V.ref mk),a1,b,c])∧Ld mk H1 H'∧(NoT H→NoT H')∧H' mk=some (.lst (Rb (Yh z (Gc d).toNat (be d).toNat ((ofN d.name sp).take i))))) ?_ ?_ ?_ ?_
 ·exact ⟨⟨_,_,_,rfl⟩,fun b u _ e=>e,fun n=>nt1 n.upd,hmk1⟩
 ·rintro i σ H' hi ⟨_,sx,_,_⟩
  exact SqL.of (sx _ _ hrm l1)
 ·rintro i v σ H' hv ⟨⟨a1,b,c,rfl⟩,sx,nt',hm⟩
  obtain ⟨qi,hqi,rfl⟩:=qc hv
  obtain ⟨o,ho,e⟩:=lq.at hqi
  obtain ⟨dd,hd,rfl⟩:=qc ho
  obtain ⟨sd,hsd,hsn,rfl⟩:=Ty (List.mem_of_getElem? hd)
  have hb:=hs2 sd hsd
  have e':=sx _ _ (Ag e hmk1 (by intro z;cases z)) e
  have W1:=wx sx
  obtain ⟨_,dx1,hw1⟩:=id W1
  (walk_at "RD")
  refine ⟨_,SqT.of e',rfl,_,_,rfl,_,_,rfl,rfl,_,_,_,hw1,⟨_,dk,rfl⟩,oP (by decide +kernel),_,d,rfl,W1,rfl,_,rfl,by omega,by omega,?_⟩
  rw [EE hd]
  refine jj.range (fun k σ H'=>(∃ c,σ=[some (V.ref a),some (V.int z),some (V.ref p),some (V.ref mk),some (V.int sd.b),some (V.int sd.n),c])∧Ld mk H1 H'∧(NoT H→NoT H')∧H' mk=some (.lst (Rb (Nu z (Str.ofString "ready") sd.b k (Yh z (Gc d).toNat (be d).toNat ((ofN d.name sp).take i)))))) ?_ ?_ ?_
  ·exact ⟨⟨_,rfl⟩,sx,nt',hm⟩
  ·rintro k σ H2 hk ⟨⟨c,rfl⟩,sx2,nt2,hm2⟩
   (walk_at "RD")
   refine ⟨by omega,_,hm2,_,nA V.str (by rw [Zf,ji]) hz0 _,⟨_,rfl⟩,fun b u hb e=>by rw [pb hb];exact sx2 _ _ hb e,fun n=>(nt2 n).upd,?_⟩
   rw [fb]
   unfold Rb
   rw [Mp V.str]
   rfl
  rintro σ H2 ⟨⟨c,rfl⟩,sx2,nt2,hm2⟩
  (walk_at "RD")
  refine ⟨by omega,by omega,?_⟩
  refine jj.range (fun k σ H'=>(∃ c,σ=[some (V.ref a),some (V.int z),some (V.ref p),some (V.ref mk),some (V.int sd.b),some (V.int sd.n),c])∧Ld mk H1 H'∧(NoT H→NoT H')∧H' mk=some (.lst (Rb (Yz z (Str.ofString "free") sd.b k (Nu z (Str.ofString "ready") sd.b (Gc d).toNat (Yh z (Gc d).toNat (be d).toNat ((ofN d.name sp).take i))))))) ?_ ?_ ?_
  ·exact ⟨⟨_,rfl⟩,sx2,nt2,hm2⟩
  ·rintro k σ H2 hk ⟨⟨c,rfl⟩,sx2,nt2,hm2⟩
   (walk_at "RD")
   refine ⟨by omega,_,hm2,_,nA V.str (by rw [Ye,Zf,ji]) hz0 _,⟨_,rfl⟩,fun b u hb e=>by rw [pb hb];exact sx2 _ _ hb e,fun n=>(nt2 n).upd,?_⟩
   rw [fb]
   unfold Rb
   rw [Mp V.str]
   rfl
  rintro σ H3 ⟨⟨c,rfl⟩,sx3,nt3,hm3⟩
  have W3:=wx sx3
  obtain ⟨_,dx3,hw3⟩:=id W3
  (walk_at "RD")
  refine ⟨_,_,_,hw3,⟨_,dk,rfl⟩,oP (by decide +kernel),_,d,rfl,W3,rfl,_,rfl,by omega,by omega,?_⟩
  refine jj.range (fun k σ H'=>(∃ c,σ=[some (V.ref a),some (V.int z),some (V.ref p),some (V.ref mk),some (V.int sd.b),some (V.int sd.n),c])∧Ld mk H1 H'∧(NoT H→NoT H')∧H' mk=some (.lst (Rb (Yz z (Str.ofString "fade") (sd.b + sd.n) k (Yz z (Str.ofString "free") sd.b sd.n.toNat (Nu z (Str.ofString "ready") sd.b (Gc d).toNat (Yh z (Gc d).toNat (be d).toNat ((ofN d.name sp).take i)))))))) ?_ ?_ ?_
  ·exact ⟨⟨_,rfl⟩,sx3,nt3,hm3⟩
  ·rintro k σ H2 hk ⟨⟨c,rfl⟩,sx2,nt2,hm2⟩
   (walk_at "RD")
   refine ⟨by omega,_,hm2,_,nA V.str (by rw [Ye,Ye,Zf,ji]) hz0 _,⟨_,rfl⟩,fun b u hb e=>by rw [pb hb];exact sx2 _ _ hb e,fun n=>(nt2 n).upd,?_⟩
   rw [fb]
   unfold Rb
   rw [Mp V.str]
   rfl
  ·rintro σ H2 ⟨⟨c,rfl⟩,sx2,nt2,hm2⟩
   exact ⟨⟨_,_,_,rfl⟩,sx2,nt2,hm2⟩
 ·rintro σ H' ⟨⟨a1,b,c,rfl⟩,sx,nt',hm⟩
  (walk_at "RD")
  rw [List.take_of_length_le (by rw [List.length_map,lq.1,List.length_map];exact Nat.le_refl _)] at hm
  exact q _ _ (Te ((qb hmk).trans s1) sx hmk) nt' hmk hm
theorem OA (T:Txt w K mg t):Eb P w K mg base CX0 1 t.Ke t.Me ["marks"] Wv:=by
 refine T.Nf.ok Md (fun vs H Q E h=>?_) (fun cdv A outer s H vs Q E hr h=>?_)
 ·obtain ⟨p,m,rfl,_⟩:=h;rfl
 obtain ⟨p,m,rfl,hm,hl,q⟩:=h
 refine ⟨_,(db (Ab (i:=1) Md.nd rfl (Or.inl rfl) (gc Dc rfl T.Nm Xc (bb (pv 0) gb)))
   (db (Ab (i:=2) Md.nd rfl (Or.inl rfl) lb)
   (db (Ab (i:=3) Md.nd rfl (Or.inl rfl) (bg gb))
   (db (ee PassesOwn.never rfl (FD rfl T.Bg (bb (Gb Oe (Gb Rg lb (pv 1)) lb) (bb (PP gJ lb) (bb (PP gJ lb) gb)))) (yb (i:=4) Md.nd rfl (Or.inl rfl)) (db (Ab (i:=2) Md.nd rfl (Or.inl rfl) (uv (dj (ae Zd (pv 0) (Gb Ce (pv 4) (pv 1)) (fun _ _=>rfl))) lb (Gb Jc (pv 2) lb)))
   (ib (ye (kc Zw (pv 4) (pv 1) (wc _)) (ib (Cc (jo PySem.F.plainAttrs_list PySem.F.slot_list_append PySem.F.type_list_append jg (pv 3) (bb (pv 2) gb)))) ic))))
   (ib (Db (Wn rfl rfl T.Sz rfl T.Yn (bb (pv 3) gb)))))))),?_⟩
 (walk_at "RD")
 refine ⟨_,.inl (SqL.of hm),Nat.zero_le _,fun u hu=>?_⟩
 have hbl:(sf m).length=m.length:=by unfold sf;rw [List.length_map]
 rw [hbl]
 refine ⟨by unfold nK;omega,by omega,by omega,by omega,by omega,?_⟩
 have hun:p ≠ u:=ub hm hu
 refine jj.of (n:=2 * m.length) (fun k σ H'=>(∃ x,σ=[some (V.ref p),some (V.int m.length),some (V.int (jf m k)),some (V.ref u),x])∧Ld u H H'∧(NoT H→NoT H')∧H' u=some (.lst ((Xt m (k - m.length)).map V.int))) ?_ (fun i σ H' hi _=>?_) (fun σ H' _=>?_) ?_ ?_
 ·exact ⟨⟨_,rfl⟩,fun b o hb e=>by rw [pb hb];exact e,fun n=>n.upd,by rw [fb,Nat.zero_sub];rfl⟩
 ·show i < _;omega
 ·show _ ≤ 2 * m.length;omega
 ·rintro k σ H'' v H' hk ⟨⟨x,rfl⟩,sx,nt',hu'⟩ ⟨rfl,rfl⟩
  have hjn:(2 * m.length - 1 - k) % m.length < m.length:=Nat.mod_lt _ hl.1
  have hmj:m[(2 * m.length - 1 - k) % m.length]? = some m[(2 * m.length - 1 - k) % m.length]:=List.getElem?_eq_getElem hjn
  have hj:((2 * m.length - 1 - k:Int)) % (m.length:Int)=(((2 * m.length - 1 - k) % m.length:Nat):Int):=by
   rw [Int.natCast_emod];congr 1;omega
  have hat:atI (sf m) ((2 * m.length - 1 - k:Int) % (m.length:Int))=some (V.bl m[(2 * m.length - 1 - k) % m.length]):=by
   rw [hj];exact jc (by unfold sf;rw [List.getElem?_map,hmj];rfl)
  have hst:jf m (k + 1)=if m[(2 * m.length - 1 - k) % m.length]=true then 0 else jf m k + 1:=by
   show (if m[(2 * m.length - 1 - k) % m.length]? = some true then 0 else jf m k + 1)=_
   rw [hmj]
   simp
  simp only [Ak,Hb,List.set_cons_succ,List.set_cons_zero]
  refine fc (fun σ H4=>H4=H'∧σ=[some (V.ref p),some (V.int m.length),some (V.int (jf m (k + 1))),some (V.ref u),some (V.int (2 * m.length - 1 - k))]) (fun D' hD _ _ _=>?_) ?_
  ·(walk_at "RD")
   refine ⟨by omega,_,SqL.of (sx _ _ hun hm),_,hat,_,rfl,?_⟩
   rw [hst] at hD
   by_cases c:m[(2 * m.length - 1 - k) % m.length]=true
   ·rw [if_pos c] at hD ⊢
    exact hD _ _ ⟨rfl,rfl⟩
   ·rw [if_neg c] at hD ⊢
    exact hD _ _ ⟨rfl,rfl⟩
  rintro σ H4 ⟨rfl,rfl⟩
  dsimp only
  refine Ac (decide ((2 * m.length - 1 - k:Int) < m.length)) (fun Q hQ=>?_) (fun hc=>?_) (fun hc=>?_)
  ·(walk_at "RD")
   exact hQ
  ·(walk_at "RD")
   have hc':=of_decide_eq_true hc
   refine ⟨.inl ⟨_,SqL.of hu'⟩,_,hu',Nat.lt_of_le_of_lt (show ((Xt m (k - m.length)).map V.int).length ≤ 1000 by unfold Xt;simp;omega) (by decide),⟨_,rfl⟩,fun b o hb e=>by rw [pb hb];exact sx _ _ hb e,fun n=>(nt' n).upd,?_⟩
   rw [fb,show k + 1 - m.length=k - m.length + 1 by omega]
   unfold Xt
   rw [List.range_succ,List.map_append,List.map_append]
   simp only [List.map_cons,List.map_nil]
   rw [show m.length + (k - m.length) + 1=k + 1 by omega]
  ·(walk_at "RD")
   have hc':=of_decide_eq_false hc
   refine ⟨⟨_,rfl⟩,sx,nt',?_⟩
   rw [hu',show k - m.length=0 by omega,show k + 1 - m.length=0 by omega]
 ·rintro σ H' ⟨⟨x,rfl⟩,sx,nt',hu'⟩
  (walk_at "RD")
  refine ⟨_,SqL.of hu',fun l hl'=>?_⟩
  have hlu:l ≠ u:=fun z=>by subst z;rw [hu'] at hl';cases hl'
  refine q _ _ ((Te (Zb.refl H) sx hu).trans (qb hl')) (fun n=>(nt' n).upd) ((Te (Zb.refl H) sx hu).free hl') ?_
  rw [fb,show 2 * m.length - m.length=m.length by omega,← List.map_reverse,dB]
theorem tI (T:Txt w K mg t):Eb P w K mg base CX0 2 t.Xf t.Kf ["marks"] Zz:=by
 have G_until_marked:Eb P w K mg base CX0 1 t.Ke t.Me ["marks"] Wv:=OA T
 refine T.ei.ok yr (fun vs H Q E h=>?_) (fun cdv A outer s H vs Q E hr h=>?_)
 ·obtain ⟨p,m,rfl,_⟩:=h;rfl
 obtain ⟨p,m,rfl,hm,hl,q⟩:=h
 refine ⟨_,(ib (Db (Wn rfl rfl T.Sz rfl T.Yn (bb (wb G_until_marked hr rfl T.Bl T.Nf.kp T.Dl .nil zb (bb (Wn rfl rfl T.Sz rfl T.Yn (bb (pv 0) gb)) gb)) gb)))),?_⟩
 (walk_at "RD")
 refine ⟨_,SqL.of hm,fun l1 h1=>?_⟩
 refine ⟨l1,m.reverse,rfl,by rw [fb,sf,sf,List.map_reverse],by rw [List.length_reverse];exact hl,fun r H1 s1 nt1 hr1 hu=>⟨r,rfl,_,SqL.of hu,fun l2 h2=>?_⟩⟩
 refine q _ _ (((qb h1).trans s1).trans (qb h2)) (fun n=>(nt1 n.upd).upd) (((qb h1).trans s1).free h2) ?_
 rw [fb,← List.map_reverse]
 rfl
end
end My
namespace My
open PySem L2
theorem wD {i:Int} (h:i.natAbs < 100000):i.natAbs.log2 < 1920:=by
 by_cases h0:i.natAbs=0
 ·rw [h0];decide
 ·exact (Nat.log2_lt h0).mpr (Nat.lt_trans h (by decide))
theorem xy {α:Type} {l:List α} {a x:α} {i:Nat} (h:(l ++ [a])[i]? = some x):(i < l.length∧l[i]? = some x)∨(i=l.length∧x=a):=by
 by_cases hi:i < l.length
 ·rw [List.getElem?_append_left hi] at h
  exact .inl ⟨hi,h⟩
 ·rw [List.getElem?_append_right (by omega)] at h
  have h0:i - l.length=0:=by
   cases hh:i - l.length with
   | zero=>rfl
   | succ m=>rw [hh] at h;simp at h
  rw [h0] at h
  exact .inr ⟨by omega,(by simpa using h:a=x).symm⟩
noncomputable def AJ (x:Str):Prop:=x.length ≤ 1000∧∀ c ∈ x.cps.toList,c < 16 ^ 8
noncomputable def EG (C:Addr) (fs:List (Str × V)) (H:Hp) (E:XK):Prop:=∀ dx H',Zb H H'→(NoT H→NoT H')→H' dx=some (.ext (XD dx fs))→E (.ref C) (some dx) H'
theorem EG.step {C:Addr} {fs:List (Str × V)} {H H1:Hp} {E:XK} (h:EG C fs H E) (s:Zb H H1) (n:NoT H→NoT H1):EG C fs H1 E:=fun dx H' s' n' e=>h dx H' (s.trans s') (fun z=>n' (n z)) e
noncomputable def DOk (ds:List WD):Prop:=∀ d ∈ ds,AJ d.name∧0 ≤ d.off∧d.off ≤ 1000
noncomputable def kj (ds:List WD) (sp:List SD):Option Str:=(ds.map (·.name)).find? fun x=>(ofN x sp).isEmpty
noncomputable def NJ (t:Adr):Sp:=fun vs H Q _=>∃ x n,vs=[.ref x,.str n]∧AJ n∧H x=some (.ext (XF x t.Od none)) ∧
 ∀ dx,H dx=none→dx ≠ x→Q .non (upd (upd H x (.ext (XF x t.Od (some dx)))) dx (.ext (XD dx [(Str.ofString "way",.str n)])))
noncomputable def fK (t:Adr):Sp:=fun vs H Q _=>∃ x n i,vs=[.ref x,.str n,.int i]∧AJ n∧i.natAbs.log2 < 1920∧H x=some (.ext (XF x t.Id none)) ∧
 ∀ dx,H dx=none→dx ≠ x→Q .non (upd (upd H x (.ext (XF x t.Id (some dx)))) dx (.ext (XD dx [(Str.ofString "way",.str n),(Str.ofString "at",.int i)])))
noncomputable def sJ (t:Adr):Sp:=fun vs H Q _=>∃ x n m i,vs=[.ref x,.str n,.str m,.int i]∧AJ n∧AJ m∧i.natAbs.log2 < 1920∧H x=some (.ext (XF x t.vd none)) ∧
 ∀ dx,H dx=none→dx ≠ x→Q .non (upd (upd H x (.ext (XF x t.vd (some dx)))) dx (.ext (XD dx [(Str.ofString "way",.str n),(Str.ofString "other",.str m),(Str.ofString "at",.int i)])))
noncomputable def Hw (t:Adr):Sp:=fun vs H Q E=>∃ c n ds p sp,vs=[.ref c,.ref p]∧Uc t H c n ds∧DOk ds∧LO H p (List.map sdO sp)∧sp.length ≤ 100 ∧
 match kj ds sp with
 | none=>∀ H',Zb H H'→(NoT H→NoT H')→Q .non H'
 | some x=>EG t.Od [(Str.ofString "way",.str x)] H E
noncomputable def sB (z:Int) (sp:List SD) (k:Nat) (d:SD):Int:=(((ofN d.name (sp.eraseIdx k)).map fun p=>(p.1 - d.b) % z).min?).getD z
noncomputable def vD:Sp:=fun vs H Q E=>∃ (z:Int) (p:Addr) (sp:List SD) (k:Nat) (d:SD),vs=[.int z,.ref p,.int k]∧0 < z∧LO H p (List.map sdO sp)∧sp.length ≤ 100∧sp[k]? = some d∧∀ H',Zb H H'→(NoT H→NoT H')→Q (.int (sB z sp k d)) H'
theorem PB {α:Type} (l:List α) (x:α) (k:Nat):(l ++ [x]).eraseIdx k=if k=l.length then l.eraseIdx k else l.eraseIdx k ++ [x]:=by
 by_cases h:k < l.length
 ·rw [if_neg (by omega),List.eraseIdx_append_of_lt_length h]
 ·rw [List.eraseIdx_append_of_length_le (by omega),List.eraseIdx_of_length_le (l:=l) (by omega)]
  by_cases h2:k=l.length
  ·rw [if_pos h2,h2,Nat.sub_self];simp
  ·rw [if_neg h2,List.eraseIdx_of_length_le (by simp;omega)]
noncomputable def wOf (ds:List WD) (x:Str):Option WD:=ds.find? fun d=>decide (d.name=x)
noncomputable def zu (ds:List WD) (z:Int) (sp:List SD) (k:Nat) (s:SD):Bool:=(wOf ds s.name).any fun d=>decide (s.n < d.least) || decide (sB z sp k s < s.n + be d + Gc d)
noncomputable def fk (ds:List WD) (z:Int) (sp:List SD):Option (SD × Nat):=sp.zipIdx.find? fun e=>zu ds z sp e.2 e.1
noncomputable def lw (t:Adr):Sp:=fun vs H Q E=>∃ (c:Addr) (n:Int) (ds:List WD) (z:Int) (p:Addr) (sp:List SD),vs=[.ref c,.int z,.ref p]∧Uc t H c n ds∧DOk ds∧(0 < z∧z ≤ 1000)∧LO H p (List.map sdO sp)∧vK z sp∧(∀ s ∈ sp,∃ d,wOf ds s.name=some d) ∧
 match fk ds z sp with
 | none=>∀ H',Zb H H'→(NoT H→NoT H')→Q .non H'
 | some e=>EG t.Id [(Str.ofString "way",.str e.1.name),(Str.ofString "at",.int e.1.b)] H E
theorem Xm {P:Program} {w:World} {K:PySem.W.Frag} {mg:Str→Option Value} {base:Heap} {CX:CXT} {j k:Nat} {OK:Addr→Prop} {m:Str} {ps:List Str} {SPV:Addr→Sp} (V:wB P w K mg base CX j OK m ps SPV) (h:j ≤ k):wB P w K mg base CX k OK m ps SPV:=⟨fun C hC=>by
 obtain ⟨f,fd,h1,h2,h3,h4⟩:=V.ok C hC
 exact ⟨f,fd,h1,h2,h3.mono h,h4⟩⟩
theorem gK {ds:List WD} {x:Str} {d:WD} (h:wOf ds x=some d):d.name=x∧∃ i:Nat,ds[i]? = some d:=by
 unfold wOf at h
 refine ⟨by simpa using List.find?_some h,?_⟩
 obtain ⟨i,hi,e⟩:=List.getElem_of_mem (List.mem_of_find?_eq_some h)
 exact ⟨i,by rw [List.getElem?_eq_getElem hi,e]⟩
noncomputable def vF (d1 d2:WD):Int:=if d1.off - d2.near > 0 then d1.off - d2.near else 0
noncomputable def Wr (g:Int) (m1 m2:List Int):Option ((Int × Int) × Nat):=(m1.zip m2).zipIdx.find? fun e=>decide (e.1.2=0) && decide (e.1.1 ≤ g)
noncomputable def aK (t:Adr):Sp:=fun vs H Q E=>∃ (c:Addr) (n:Int) (ds:List WD) (d1 d2:WD) (p1 p2:Addr) (m1 m2:List Int),vs=[.ref c,.str d1.name,.str d2.name,.ref p1,.ref p2]∧Uc t H c n ds∧DOk ds∧d1 ∈ ds∧d2 ∈ ds∧H p1=some (.lst (m1.map V.int))∧H p2=some (.lst (m2.map V.int))∧m1.length=m2.length∧m1.length ≤ 1000 ∧
 match Wr (vF d1 d2) m1 m2 with
 | none=>∀ H',Zb H H'→(NoT H→NoT H')→Q .non H'
 | some e=>EG t.vd [(Str.ofString "way",.str d1.name),(Str.ofString "other",.str d2.name),(Str.ofString "at",.int e.2)] H E
noncomputable def Sm (z:Nat) (sp:List SD) (x:Str):List Int:=wu (fmF z (ofN x sp))
noncomputable def mr (n:Int) (z:Nat) (sp:List SD) (d1 d2:WD):Option Nat:=if d1.name ≠ d2.name∧mt n d1 d2=true then (Wr (vF d1 d2) (Sm z sp d1.name) (Sm z sp d2.name)).map (·.2) else none
noncomputable def Au (n:Int) (z:Nat) (sp:List SD) (d1:WD) (ds:List WD):Option (WD × WD × Nat):=ds.findSome? fun d2=>(mr n z sp d1 d2).map fun i=>(d1,d2,i)
noncomputable def dl (n:Int) (z:Nat) (sp:List SD) (ds:List WD):Option (WD × WD × Nat):=ds.findSome? fun d1=>Au n z sp d1 ds
noncomputable def Qw (t:Adr):Sp:=fun vs H Q E=>∃ (c:Addr) (n:Int) (ds:List WD) (z:Nat) (p:Addr) (sp:List SD),vs=[.ref c,.int z,.ref p]∧Uc t H c n ds∧0 < n∧DOk ds∧(0 < z∧z ≤ 1000)∧LO H p (List.map sdO sp)∧vK z sp∧NoT H ∧
 match dl n z sp ds with
 | none=>∀ H',Zb H H'→NoT H'→Q .non H'
 | some e=>EG t.vd [(Str.ofString "way",.str e.1.name),(Str.ofString "other",.str e.2.1.name),(Str.ofString "at",.int e.2.2)] H E
theorem Zn (m:List Bool):(bn m).length=m.length:=by unfold bn;simp
theorem Sn (z:Nat) (sp:List SD) (x:Str):(Sm z sp x).length=z:=by
 unfold Sm wu
 rw [List.length_reverse,Zn,List.length_reverse,vo]
noncomputable def nkv (ds:List WD) (rs:List Addr):List (Key × V):=(ds.zip rs).map fun e=>(Sum.inr e.1.name,V.ref e.2)
noncomputable def NK (H:Hp) (p:Addr) (ds:List WD) (f:WD→HO) (n:Nat):Prop:=∃ rs:List Addr,rs.length=n∧H p=some (.dK (nkv ds rs))∧∀ (i:Nat) (r:Addr) (d:WD),rs[i]? = some r→ds[i]? = some d→H r=some (f d)
theorem WP {ds:List WD} (h:(ds.map (·.name)).Nodup) {i j:Nat} {d e:WD} (hi:ds[i]? = some d) (hj:ds[j]? = some e) (z:d.name=e.name):i=j:=
 MA h (List.getElem?_eq_some_iff.mp hi).1 (List.getElem?_eq_some_iff.mp hj).1 (by rw [Xs hi,Xs hj];exact z)
theorem dz {ds:List WD} {rs:List Addr} (h:(ds.map (·.name)).Nodup) {i:Nat} {d:WD} {r:Addr} (hd:ds[i]? = some d) (hr:rs[i]? = some r):vj (nkv ds rs) (Sum.inr d.name)=some (.ref r):=by
 obtain ⟨h1,e1⟩:=List.getElem?_eq_some_iff.mp hd
 obtain ⟨h2,e2⟩:=List.getElem?_eq_some_iff.mp hr
 unfold vj
 have hf:List.find? (fun kv=>decide (kv.1=(Sum.inr d.name:Key))) (nkv ds rs)=some (Sum.inr d.name,.ref r):=by
  rw [List.find?_eq_some_iff_getElem]
  refine ⟨by simp,i,by unfold nkv;simp;omega,by unfold nkv;simp [e1,e2],fun j hj=>?_⟩
  unfold nkv
  simp
  intro z
  have:=WP h (List.getElem?_eq_getElem (show j < ds.length by omega)) hd z
  omega
 rw [hf];rfl
theorem yy {ds:List WD} {rs:List Addr} (h:(ds.map (·.name)).Nodup) {d:WD} {r:Addr} (hd:ds[rs.length]? = some d):Cs (nkv ds rs) (Sum.inr d.name) (.ref r)=nkv ds (rs ++ [r]):=by
 obtain ⟨h1,e1⟩:=List.getElem?_eq_some_iff.mp hd
 unfold Cs
 have no:((nkv ds rs).any fun kv=>decide (kv.1=Sum.inr d.name))=false:=by
  rw [List.any_eq_false]
  intro p hp
  unfold nkv at hp
  obtain ⟨e,he,rfl⟩:=List.mem_map.mp hp
  obtain ⟨j,hj,hje⟩:=List.getElem_of_mem he
  simp only [decide_eq_true_eq]
  intro z
  have z:=Sum.inr.inj z
  rw [← hje] at z
  simp at hj z
  have:=WP h (List.getElem?_eq_getElem (show j < ds.length by omega)) hd z
  omega
 rw [no,if_neg (by decide)]
 unfold nkv
 refine List.ext_getElem (by simp;omega) (fun i h3 h4=>?_)
 simp at h3 h4
 by_cases c:i < rs.length
 ·simp [List.getElem_append,c,show i < ds.length by omega]
  rw [dif_pos (by omega)]
 ·have:i=rs.length:=by omega
  subst this
  simp [List.getElem_append,Nat.le_of_lt h1,e1]
section
variable {P:Program} {w:World} {K:PySem.W.Frag} {mg:Str→Option Value} {base:Heap} {t:Adr}
theorem kP (T:Txt w K mg t):Eb P w K mg base CX0 1 t.ug t.yh ["self","way"] (NJ t):=by
 refine T.Ho.ok yo (fun vs H Q E h=>?_) (fun cdv A outer s H vs Q E hr h=>?_)
 ·obtain ⟨x,n,rfl,_⟩:=h;rfl
 obtain ⟨x,n,rfl,hn,hx,q⟩:=h
 refine ⟨_,(db (Cc (Yp rfl T.Mi T.Ki (bb (pv 0) (bb (rn (Dh (Mr (pv 1) (Dh vA))) (by rw [sizeLine_eq];decide)) gb))))
   (ib (Zp (pv 0) (pv 1) rfl))),?_⟩
 (walk_at "RD")
 refine ⟨hn.1,hn.2,fun y=>⟨_,_,hx,T.Vx,?_⟩⟩
 exact ⟨_,hx,T.Vx,T.Iw,q⟩
theorem VO (T:Txt w K mg t):Eb P w K mg base CX0 1 t.ng t.qh ["self","way","at"] (fK t):=by
 refine T.Ro.ok Hn (fun vs H Q E h=>?_) (fun cdv A outer s H vs Q E hr h=>?_)
 ·obtain ⟨x,n,i,rfl,_⟩:=h;rfl
 obtain ⟨x,n,i,rfl,hn,hi,hx,q⟩:=h
 refine ⟨_,(db (Cc (Yp rfl T.Mi T.Ki (bb (pv 0) (bb (rn (Dh (Mr (pv 1) (Dh (hJ (pv 2) vA)))) (by rw [sizeLine_eq];decide)) gb))))
   (db (Zp (pv 0) (pv 1) rfl)
   (ib (Wu (pv 0) (pv 2) rfl)))),?_⟩
 (walk_at "RD")
 refine ⟨hn.1,hn.2,hi,fun y=>⟨_,_,hx,T.Zu,?_⟩⟩
 refine ⟨_,hx,T.Zu,T.Fx,fun dx hd hne=>?_⟩
 refine ⟨_,dx,by rw [pb (Ne.symm hne),fb],_,fb,T.Zu,T.fz,show 1 < 1000 by decide,?_⟩
 rw [Bj,show Qg (Str.ofString "at") (V.int i) ([(Str.ofString "way",V.str n)]:List (Str × V))=[(Str.ofString "way",V.str n),(Str.ofString "at",V.int i)] from Vc [Str.ofString "way"] rfl (by decide +kernel)]
 exact q dx hd hne
theorem IN (T:Txt w K mg t):Eb P w K mg base CX0 1 t.ig t.Oh ["self","way","other","at"] (sJ t):=by
 refine T.bp.ok Ln (fun vs H Q E h=>?_) (fun cdv A outer s H vs Q E hr h=>?_)
 ·obtain ⟨x,n,m,i,rfl,_⟩:=h;rfl
 obtain ⟨x,n,m,i,rfl,hn,hm,hi,hx,q⟩:=h
 refine ⟨_,(db (Cc (Yp rfl T.Mi T.Ki (bb (pv 0) (bb (rn (Dh (Mr (pv 1) (Dh (Mr (pv 2) (Dh (hJ (pv 3) vA)))))) (by rw [sizeLine_eq];decide)) gb))))
   (db (Zp (pv 0) (pv 1) rfl)
   (db (Wu (pv 0) (pv 2) rfl)
   (ib (Wu (pv 0) (pv 3) rfl))))),?_⟩
 (walk_at "RD")
 refine ⟨hn.1,hn.2,hm.1,hm.2,hi,fun y=>⟨_,_,hx,T.Kr,?_⟩⟩
 refine ⟨_,hx,T.Kr,T.vx,fun dx hd hne=>?_⟩
 refine ⟨_,dx,by rw [pb (Ne.symm hne),fb],_,fb,T.Kr,T.Ks,show 1 < 1000 by decide,?_⟩
 rw [Bj,show Qg (Str.ofString "other") (V.str m) ([(Str.ofString "way",V.str n)]:List (Str × V))=[(Str.ofString "way",V.str n),(Str.ofString "other",V.str m)] from Vc [Str.ofString "way"] rfl (by decide +kernel)]
 refine ⟨_,dx,by rw [pb (Ne.symm hne),fb],_,fb,T.Kr,T.iy,show 2 < 1000 by decide,?_⟩
 rw [Bj,show Qg (Str.ofString "at") (V.int i) ([(Str.ofString "way",V.str n),(Str.ofString "other",V.str m)]:List (Str × V))=[(Str.ofString "way",V.str n),(Str.ofString "other",V.str m),(Str.ofString "at",V.int i)] from Vc [Str.ofString "way",Str.ofString "other"] rfl (by decide +kernel)]
 exact q dx hd hne
theorem bF (T:Txt w K mg t):Eb P w K mg base (CX1 P w) 3 t.Ff t.Jf ["crossing","spans"] (Hw t):=by
 have G_Never_init:Eb P w K mg base CX0 1 t.ug t.yh ["self","way"] (NJ t):=kP T
 have G_spans_of:Eb P w K mg base CX0 2 t.wf t.zf ["spans","name"] Aq:=(gw T).mono (by decide)
 have G_Crossing_names:Eb P w K mg base CX0 2 t.ad t.Ad ["self"] (Op t):=(Sv T).mono (by decide)
 refine T.Zh.okX ak (fun vs H Q E h=>?_) (fun cdv A outer s H vs Q E hr h=>?_)
 ·obtain ⟨c,n,ds,p,sp,rfl,_⟩:=h;rfl
 obtain ⟨c,n,ds,p,sp,rfl,C,hD,L,hs,q⟩:=h
 refine ⟨_,(ib (ee (oe ⟨rfl,rfl⟩) rfl (ce (Qe (pv 0) T.Jb T.Yd G_Crossing_names hr T.Xd .nil zb)) (yb (i:=2) ak.nd rfl (Or.inl rfl)) (ib (ye (uq (bA (wb G_spans_of hr rfl T.Lk T.Og.kp T.uk .nil zb (bb (pv 1) (bb (pv 2) gb))) (fun _=>rfl))) (ib (Vp (Rp T.Gz G_Never_init hr rfl T.OM T.Yw (bb (pv 2) gb)) Pu)) ic)))),?_⟩
 (walk_at "RD")
 obtain ⟨_,dx,wl,nd,e1,_,_⟩:=id C
 refine ⟨_,_,e1,Dw _ _ _ (by decide +kernel),c,n,ds,rfl,C,fun pn hpn=>⟨pn,rfl,⟨_,SqL.of fb⟩,?_⟩⟩
 refine jj.list (xs:=Rb (ds.map (·.name))) (fun i σ H'=>(∃ y,σ=[some (V.ref c),some (V.ref p),y])∧Zb (upd H pn (.lst (Rb (ds.map (·.name))))) H'∧(NoT H→NoT H')∧kj ds sp=((ds.map (·.name)).drop i).find? fun x=>(ofN x sp).isEmpty) ?_ ?_ ?_ ?_
 ·exact ⟨⟨_,rfl⟩,Zb.refl _,fun n=>n.upd,rfl⟩
 ·rintro i σ H' hi ⟨_,sm,_,_⟩
  exact SqL.of (sm _ _ fb)
 ·rintro i v σ H' hv ⟨⟨y,rfl⟩,sm,nt,hf⟩
  obtain ⟨x,hx,rfl⟩:=qc hv
  have smH:Zb H H':=(qb hpn).trans sm
  obtain ⟨hi,hxi⟩:=List.getElem?_eq_some_iff.mp hx
  rw [List.drop_eq_getElem_cons hi,hxi,List.find?_cons] at hf
  (walk_at "RD")
  refine Em (fun b H2=>b=(ofN x sp).isEmpty∧Zb H' H2∧(NoT H'→NoT H2)) (fun Q hQ=>?_) (fun H2 r=>?_) (fun H2 r=>?_)
  ·(walk_at "RD")
   refine ⟨p,x,sp,rfl,L.same smH,hs,fun r H2 s2 n2 ⟨qs,l1,l2⟩=>⟨!(ofN x sp).isEmpty,.inl ⟨_,SqL.of l1,?_⟩,?_⟩⟩
   ·have hl:=l2.1
    cases qs with
    | nil=>cases h:ofN x sp with
     | nil=>rfl
     | cons a r=>rw [h] at hl;simp at hl
    | cons a r=>cases h:ofN x sp with
     | nil=>rw [h] at hl;simp at hl
     | cons a r=>rfl
   ·rw [Bool.not_not]
    exact hQ _ _ ⟨rfl,s2,n2⟩
  ·obtain ⟨r1,r2,r3⟩:=r
   rw [← r1] at hf
   have hf:kj ds sp=some x:=hf
   rw [hf] at q
   (walk_at "RD")
   have hn:AJ x:=by
    obtain ⟨d,hd,rfl⟩:=qc hx
    exact (hD d (List.mem_of_getElem? hd)).1
   refine ⟨by decide,fun a ha=>⟨a,x,rfl,hn,fb,fun d hd hne=>?_⟩⟩
   have hd0:H2 d=none:=by rw [pb hne] at hd;exact hd
   refine ⟨rfl,t.Od,some d,by rw [pb (Ne.symm hne),fb],T.Vx,q d _ (fun b u e=>?_) (fun n=>((((r3 (nt n)).upd).upd).upd).upd) (by rw [pb hne,fb])⟩
   have e':=r2 _ _ (smH _ _ e)
   rw [pb (ub e' ha),pb (ub e' hd0),pb (ub e' ha),pb (ub e' ha)]
   exact e'
  ·obtain ⟨r1,r2,r3⟩:=r
   rw [← r1] at hf
   (walk_at "RD")
   exact ⟨⟨_,rfl⟩,sm.trans r2,fun n=>r3 (nt n),hf⟩
 ·rintro σ H' ⟨⟨y,rfl⟩,sm,nt,hf⟩
  rw [List.drop_of_length_le (by unfold Rb;simp)] at hf
  have hf:kj ds sp=none:=hf
  rw [hf] at q
  exact q _ ((qb hpn).trans sm) nt
theorem rL (T:Txt w K mg t):Eb P w K mg base CX0 2 t.Bd t.Cd ["size","spans","place"] vD:=by
 have G_spans_of:Eb P w K mg base CX0 1 t.wf t.zf ["spans","name"] Aq:=gw T
 refine T.re.ok Kc (fun vs H Q E h=>?_) (fun cdv A outer s H vs Q E hr h=>?_)
 ·obtain ⟨z,p,sp,k,d,rfl,_⟩:=h;rfl
 obtain ⟨z,p,sp,k,d,rfl,hz,⟨qs,l1,lq⟩,hs,hk,q⟩:=h
 refine ⟨_,(db (Fo (ae Zd (pv 1) (pv 2) (fun _ _=>rfl)) (Ge (K:=K) (n:=3) rfl rfl (Kb (yb (i:=3) Kc.nd rfl (Or.inl rfl) (.inl rfl)) (Kb (yb (i:=4) Kc.nd rfl (Or.inr rfl) (.inl rfl)) (Kb (yb (i:=5) Kc.nd rfl (Or.inl rfl) (.inl rfl)) De)))))
   (db (Hi (i:=6) Kc.nd rfl (Or.inl rfl) rfl (gs rfl T.Wg (bb (pv 1) gb)) (Nd (sc:=jb Dd) rfl (by decide +kernel)) (N:=["at","span","place"]) (sel:=[none,none,some 2]) (ve (M:=["size","spans","place","name","begin","turns","others"]) (by decide +kernel)) (Blk.of (fun _ _ _ _=>(Ge (K:=K) (n:=2) rfl rfl (Kb (yb (i:=0) (yi (N:=["at","span","place"]) (by decide +kernel) rfl) rfl (Or.inl rfl) (.inr rfl)) (Kb (yb (i:=1) (yi (N:=["at","span","place"]) (by decide +kernel) rfl) rfl (Or.inl rfl) (.inr rfl)) De)))) (fun _ _ _ _=>⟨_,(OF (kc gz (pv 0) (pv 2) (wc _))),by first | rfl | (dsimp only [Cx.block];done) | (dsimp only [Cx.block];exact rfl)⟩) (fun _ _ _ _=>⟨_,(pv 1),by first | rfl | (dsimp only [Cx.block];done) | (dsimp only [Cx.block];exact rfl)⟩)) rfl)
   (ib (Db (IM rfl rfl T.EI (bb (jk rfl (ce (wb G_spans_of hr rfl T.Lk T.Og.kp T.uk .nil zb (bb (pv 6) (bb (pv 3) gb)))) (Nd (sc:=jb Dd) rfl (by decide +kernel)) (N:=["later","many","begin","size"]) (sel:=[none,none,some 4,some 0]) (ve (M:=["size","spans","place","name","begin","turns","others"]) (by decide +kernel)) (Blk.of (fun _ _ _ _=>(Ge (K:=K) (n:=2) rfl rfl (Kb (yb (i:=0) (yi (N:=["later","many","begin","size"]) (by decide +kernel) rfl) rfl (Or.inl rfl) (.inr rfl)) (Kb (yb (i:=1) (yi (N:=["later","many","begin","size"]) (by decide +kernel) rfl) rfl (Or.inl rfl) (.inr rfl)) De)))) (fun _ _ _ _=>⟨_,Tg,by first | rfl | (dsimp only [Cx.block];done) | (dsimp only [Cx.block];exact rfl)⟩) (fun _ _ _ _=>⟨_,(Gb Ce (Gb Oe (pv 0) (pv 2)) (pv 3)),by first | rfl | (dsimp only [Cx.block];done) | (dsimp only [Cx.block];exact rfl)⟩))) gb) (pv 0)))))),?_⟩
 (walk_at "RD")
 have hql:qs.length=sp.length:=by rw [lq.1,List.length_map]
 obtain ⟨hkl,hkd⟩:=List.getElem?_eq_some_iff.mp hk
 have hqk:qs[k]? = some qs[k]:=List.getElem?_eq_getElem (by omega)
 have ek:H qs[k]=some (sdO d):=lq.2 k _ _ hqk (by rw [List.getElem?_map,hk];rfl)
 refine ⟨_,SqL.of l1,_,jc (by rw [List.getElem?_map,hqk];rfl),_,rfl,_,SqT.of ek,rfl,_,_,rfl,_,_,rfl,_,_,rfl,rfl,⟨_,SqL.of l1⟩,?_⟩
 refine Pd.enum (xs:=qs.map V.ref) (fun i ys H'=>∃ os:List Addr,ys=os.map V.ref∧LQ H' os (((sp.take i).eraseIdx k).map sdO)∧Zb H H'∧(NoT H→NoT H')) (Nat.le_trans (show (qs.map V.ref).length ≤ 100 by rw [List.length_map];omega) (by decide)) ⟨[],rfl,by rw [List.take_zero];exact LQ.nil _,Zb.refl _,id⟩ ?_ ?_ ?_
 ·rintro i ys H' hi ⟨os,rfl,r,sm,_⟩
  refine ⟨(SqL.of l1).same sm,?_⟩
  rw [List.length_map,r.1,List.length_map]
  exact Nat.le_trans (List.length_eraseIdx_le ..) (by rw [List.length_take];omega)
 ·rintro i v ys H' p1 hv ⟨os,rfl,r,sm,nt⟩ hp1 N hN
  obtain ⟨qi,hqi,rfl⟩:=qc hv
  obtain ⟨o,ho,e⟩:=lq.at hqi
  obtain ⟨d',hd',rfl⟩:=qc ho
  have e':=sm _ _ e
  have s1:Zb H' (upd H' p1 (.tup [.int i,.ref qi])):=qb hp1
  refine xj ?_
  dsimp only at hN
  have hil:(sp.take i).length=i:=by
   have:=(List.getElem?_eq_some_iff.mp hd').1
   rw [List.length_take];omega
  rw [Xg hd',PB,hil] at hN
  (walk_at "RD")
  refine ⟨Sub.name2,?_⟩
  by_cases c:k=i
  ·rw [if_pos c] at hN
   rw [if_neg (by subst c;simp)]
   exact hN _ _ ⟨os,rfl,r.same s1,sm.trans s1,fun n=>(nt n).upd⟩
  ·rw [if_neg c] at hN
   rw [if_pos (by simp;omega)]
   refine hN _ _ ⟨os ++ [qi],by rw [List.map_append];rfl,?_,sm.trans s1,fun n=>(nt n).upd⟩
   rw [List.map_append]
   exact (r.same s1).app (LQ.one (s1 _ _ e'))
 ·rintro ys H' ⟨os,rfl,r,sm,nt⟩ p1 hp1
  rw [List.take_of_length_le (by rw [List.length_map];omega)] at r
  (walk_at "RD")
  have s1:Zb H' (upd H' p1 (.lst (os.map V.ref))):=qb hp1
  refine ⟨p1,d.name,sp.eraseIdx k,rfl,⟨os,fb,r.same s1⟩,Nat.le_trans (List.length_eraseIdx_le ..) hs,fun r2 H2 s2 n2 ⟨qs2,m1,m2⟩=>⟨r2,rfl,⟨_,SqL.of m1⟩,?_⟩⟩
  have hln:(ofN d.name (sp.eraseIdx k)).length ≤ 100:=Nat.le_trans (NE _ _) (Nat.le_trans (List.length_eraseIdx_le ..) hs)
  have hml:qs2.length=(ofN d.name (sp.eraseIdx k)).length:=by rw [m2.1,List.length_map]
  refine Pd.list_zs (zs:=((ofN d.name (sp.eraseIdx k)).map fun p=>(p.1 - d.b) % z).map V.int) (SqL.of m1) (Nat.le_trans (show (qs2.map V.ref).length ≤ 100 by rw [List.length_map];omega) (by decide)) (by simp [hml]) (fun i v z' N hv hz' hN=>?_) (fun l hl=>?_)
  ·obtain ⟨qi,hqi,rfl⟩:=qc hv
   obtain ⟨o,ho,e⟩:=m2.at hqi
   obtain ⟨pr,hpr,rfl⟩:=qc ho
   obtain ⟨y,hy,rfl⟩:=qc hz'
   obtain ⟨pr',hpr',rfl⟩:=qc hy
   rw [hpr] at hpr'
   cases hpr'
   (walk_at "RD")
   exact ⟨_,SqT.of e,rfl,_,_,rfl,_,_,rfl,rfl,Sub.name2,_,rfl,hz,hN⟩
  ·(walk_at "RD")
   refine ⟨_,SqL.of fb,?_⟩
   have:=q (upd H2 l (.lst (((ofN d.name (sp.eraseIdx k)).map fun p=>(p.1 - d.b) % z).map V.int))) (((sm.trans s1).trans s2).trans (qb hl)) (fun n=>(n2 (nt n).upd).upd)
   unfold sB at this
   cases hm:((ofN d.name (sp.eraseIdx k)).map fun p=>(p.1 - d.b) % z).min? with
   | none=>rw [hm] at this;exact this
   | some m=>rw [hm] at this;exact this
theorem OE (T:Txt w K mg t):Eb P w K mg base (CX1 P w) 4 t.Tf t.Rf ["crossing","size","spans"] (lw t):=by
 have G_Short_init:Eb P w K mg base CX0 2 t.ng t.qh ["self","way","at"] (fK t):=(VO T).mono (by decide)
 have G_turns_to_next_begin:Eb P w K mg base CX0 3 t.Bd t.Cd ["size","spans","place"] vD:=(rL T).mono (by decide)
 have G_Crossing_called:Eb P w K mg base CX0 3 t.Ib t.Nb ["self","name"] (Yf t):=(nh T).mono (by decide)
 have V_Way_ready:wB P w K mg base CX0 3 (isW t) "ready" ["self"] (Di t):=Xm (vC T) (by decide)
 have V_Way_fade:wB P w K mg base CX0 3 (isW t) "fade" ["self"] (wk t):=Xm (GJ T) (by decide)
 refine T.bi.okX Tc (fun vs H Q E h=>?_) (fun cdv A outer s H vs Q E hr h=>?_)
 ·obtain ⟨c,n,ds,z,p,sp,rfl,_⟩:=h;rfl
 obtain ⟨c,n,ds,z,p,sp,rfl,C,hD,hz,⟨qs,l1,lq⟩,hs,hk,q⟩:=h
 refine ⟨_,(ib (ee (oe ⟨rfl,rfl⟩) rfl (gs rfl T.Wg (bb (pv 2) gb)) (Ge (K:=K) (n:=2) rfl rfl (Kb (yb (i:=3) Tc.nd rfl (Or.inl rfl) (.inl rfl)) (Kb (yb (i:=4) Tc.nd rfl (Or.inl rfl) (.inl rfl)) De))) (db (Fo (pv 4) (Ge (K:=K) (n:=3) rfl rfl (Kb (yb (i:=5) Tc.nd rfl (Or.inl rfl) (.inl rfl)) (Kb (yb (i:=6) Tc.nd rfl (Or.inl rfl) (.inl rfl)) (Kb (yb (i:=7) Tc.nd rfl (Or.inl rfl) (.inl rfl)) De)))))
   (db (Ab (i:=8) Tc.nd rfl (Or.inl rfl) (wd (pv 0) T.Jb T.Yb G_Crossing_called hr T.Xb .nil zb (bb (pv 5) gb)))
   (db (Ab (i:=9) Tc.nd rfl (Or.inl rfl) (Gb Jc (Gb Jc (pv 7) (mn (pv 8) V_Way_fade hr zb)) (mn (pv 8) V_Way_ready hr zb)))
   (ib (ye (PW.pt (vz (kc Zw (pv 7) (Vb (pv 8) rfl) (wc _)) (su (kc Zw (wb G_turns_to_next_begin hr rfl T.Mj T.re.kp T.Fj .nil zb (bb (pv 1) (bb (pv 2) (bb (pv 3) gb)))) (pv 9) (wc _))))) (ib (Vp (Rp T.GA G_Short_init hr rfl T.gL T.bx (bb (pv 5) (bb (pv 6) gb))) Pu)) ic))))))),?_⟩
 (walk_at "RD")
 have hql:qs.length=sp.length:=by rw [lq.1,List.length_map]
 refine ⟨⟨_,SqL.of l1⟩,?_⟩
 refine jj.enum (xs:=qs.map V.ref) (fun i σ H'=>(∃ a b c1 d e f g,σ=[some (V.ref c),some (V.int z),some (V.ref p),a,b,c1,d,e,f,g])∧Zb H H'∧(NoT H→NoT H')∧fk ds z sp=(sp.zipIdx.drop i).find? fun e=>zu ds z sp e.2 e.1) ?_ ?_ ?_ ?_
 ·exact ⟨⟨_,_,_,_,_,_,_,rfl⟩,Zb.refl _,id,rfl⟩
 ·rintro i σ H' hi ⟨_,sm,_,_⟩
  exact SqL.of (sm _ _ l1)
 ·rintro i v σ H0 p1 hv ⟨⟨a1,a2,a3,a4,a5,a6,a7,rfl⟩,sm,nt,hf⟩ hp1
  obtain ⟨qi,hqi,rfl⟩:=qc hv
  obtain ⟨o,ho,e⟩:=lq.at hqi
  obtain ⟨sd,hsd,rfl⟩:=qc ho
  obtain ⟨hi,hxi⟩:=List.getElem?_eq_some_iff.mp hsd
  rw [List.drop_eq_getElem_cons (by simpa using hi),List.find?_cons] at hf
  simp only [List.getElem_zipIdx,Nat.zero_add,hxi] at hf
  have s1:Zb H0 (upd H0 p1 (.tup [.int i,.ref qi])):=qb hp1
  refine xj ?_
  have nt1:NoT H→NoT (upd H0 p1 (.tup [.int i,.ref qi])):=fun n=>(nt n).upd
  generalize upd H0 p1 (.tup [.int i,.ref qi])=H' at s1 nt1 ⊢
  have smH:Zb H H':=sm.trans s1
  obtain ⟨d,hd⟩:=hk sd (List.mem_of_getElem? hsd)
  obtain ⟨hdn,j,hj⟩:=gK hd
  have C':=C.same smH
  obtain ⟨_,dx,wl,nd,e1,_,_⟩:=id C'
  have hDd:=hD d (List.mem_of_getElem? hj)
  have hB:zu ds z sp i sd=(decide (sd.n < d.least) || decide (sB z sp i sd < sd.n + be d + Gc d)):=by
   unfold zu;rw [hd];rfl
  (walk_at "RD")
  refine ⟨_,SqT.of (smH _ _ e),rfl,_,_,rfl,_,_,rfl,_,_,rfl,rfl,_,_,e1,Dw _ _ _ (by decide +kernel),c,n,ds,j,d,by rw [hdn],C',hj,fun a W=>?_⟩
  obtain ⟨dk,dxa,ha⟩:=id W
  refine ⟨a,rfl,_,_,_,ha,⟨_,dk,rfl⟩,oP (by decide +kernel),a,d,rfl,W,rfl,_,rfl,_,rfl,a,rfl,_,_,_,ha,⟨_,dk,rfl⟩,oP (by decide +kernel),a,d,rfl,W,rfl,_,rfl,?_⟩
  refine Em (fun b H2=>b=zu ds z sp i sd∧Zb H' H2∧(NoT H'→NoT H2)) (fun Q hQ=>?_) (fun H2 r=>?_) (fun H2 r=>?_)
  ·rw [hB] at hQ
   (walk_at "RD")
   refine ⟨_,W.f_least T,_,rfl,?_⟩
   by_cases c1:sd.n < d.least
   ·rw [decide_eq_true c1] at hQ
    rw [if_pos (decide_eq_true c1)]
    exact hQ _ _ ⟨rfl,Zb.refl _,id⟩
   ·rw [decide_eq_false c1,Bool.false_or] at hQ
    rw [if_neg (by simpa using c1)]
    exact ⟨z,p,sp,i,sd,rfl,hz.1,⟨qs,smH _ _ l1,lq.same smH⟩,hs.1,hsd,fun H2 s2 n2=>⟨_,rfl,hQ _ _ ⟨rfl,s2,n2⟩⟩⟩
  ·obtain ⟨r1,r2,r3⟩:=r
   rw [← r1] at hf
   have hf:fk ds z sp=some (sd,i):=hf
   rw [hf] at q
   (walk_at "RD")
   have hn:AJ sd.name:=by rw [← hdn];exact hDd.1
   have hsb:=hs.2 sd (List.mem_of_getElem? hsd)
   refine ⟨by decide,fun a ha=>⟨a,sd.name,sd.b,rfl,hn,wD (by omega),fb,fun d hd hne=>?_⟩⟩
   have hd0:H2 d=none:=by rw [pb hne] at hd;exact hd
   refine ⟨rfl,t.Id,some d,by rw [pb (Ne.symm hne),fb],T.Zu,q d _ (fun b u e=>?_) (fun n=>((((r3 (nt1 n)).upd).upd).upd).upd) (by rw [pb hne,fb])⟩
   have e':=r2 _ _ (smH _ _ e)
   rw [pb (ub e' ha),pb (ub e' hd0),pb (ub e' ha),pb (ub e' ha)]
   exact e'
  ·obtain ⟨r1,r2,r3⟩:=r
   rw [← r1] at hf
   exact ⟨⟨_,_,_,_,_,_,_,rfl⟩,smH.trans r2,fun n=>r3 (nt1 n),hf⟩
 ·rintro σ H' ⟨_,sm,nt,hf⟩
  rw [List.drop_of_length_le (by simp [hql])] at hf
  have hf:fk ds z sp=none:=hf
  rw [hf] at q
  exact q _ sm nt
theorem FO (T:Txt w K mg t):Eb P w K mg base (CX1 P w) 4 t.ze t.we ["crossing","one","other","since_one","since_other"] (aK t):=by
 have G_Clash_init:Eb P w K mg base CX0 2 t.ig t.Oh ["self","way","other","at"] (sJ t):=(IN T).mono (by decide)
 have G_gap:Eb P w K mg base CX0 3 t.dJ t.kI ["crossing","one","other"] (MJ t):=EO T
 refine T.Bf.okX de (fun vs H Q E h=>?_) (fun cdv A outer s H vs Q E hr h=>?_)
 ·obtain ⟨c,n,ds,d1,d2,p1,p2,m1,m2,rfl,_⟩:=h;rfl
 obtain ⟨c,n,ds,d1,d2,p1,p2,m1,m2,rfl,C,hD,h1,h2,L1,L2,hl,hm,q⟩:=h
 refine ⟨_,(db (Ab (i:=5) de.nd rfl (Or.inl rfl) (wb G_gap hr rfl T.SQ T.mM.kp T.vQ .nil zb (bb (pv 0) (bb (pv 1) (bb (pv 2) gb)))))
   (ib (ee (oe ⟨rfl,rfl⟩) rfl (gs rfl T.Wg (bb (pv 3) gb)) (Ge (K:=K) (n:=2) rfl rfl (Kb (yb (i:=6) de.nd rfl (Or.inl rfl) (.inl rfl)) (Kb (yb (i:=7) de.nd rfl (Or.inl rfl) (.inl rfl)) De))) (ib (ye (PW.pt (BD (kc uj (ae Zd (pv 4) (pv 6) (fun _ _=>rfl)) lb (wc _)) (Vy (kc cR (pv 7) (pv 5) (wc _))))) (ib (Vp (Rp T.yz G_Clash_init hr rfl T.pM T.Mw (bb (pv 1) (bb (pv 2) (bb (pv 6) gb)))) Pu)) ic))))),?_⟩
 (walk_at "RD")
 obtain ⟨j1,hj1,ej1⟩:=List.getElem_of_mem h1
 obtain ⟨j2,hj2,ej2⟩:=List.getElem_of_mem h2
 refine ⟨c,n,ds,j1,j2,d1,d2,rfl,C,by rw [List.getElem?_eq_getElem hj1,ej1],by rw [List.getElem?_eq_getElem hj2,ej2],⟨_,SqL.of L1⟩,?_⟩
 rw [show (if d1.off - d2.near > 0 then d1.off - d2.near else 0)=vF d1 d2 from rfl]
 refine jj.enum (xs:=m1.map V.int) (fun i σ H'=>(∃ a b,σ=[some (V.ref c),some (V.str d1.name),some (V.str d2.name),some (V.ref p1),some (V.ref p2),some (V.int (vF d1 d2)),a,b])∧Zb H H'∧(NoT H→NoT H')∧Wr (vF d1 d2) m1 m2=((m1.zip m2).zipIdx.drop i).find? fun e=>decide (e.1.2=0) && decide (e.1.1 ≤ vF d1 d2)) ?_ ?_ ?_ ?_
 ·exact ⟨⟨_,_,rfl⟩,Zb.refl _,id,rfl⟩
 ·rintro i σ H' hi ⟨_,sm,_,_⟩
  exact SqL.of (sm _ _ L1)
 ·rintro i v σ H0 p3 hv ⟨⟨a1,a2,rfl⟩,sm,nt,hf⟩ hp3
  obtain ⟨x1,hx1,rfl⟩:=qc hv
  obtain ⟨hi,ex1⟩:=List.getElem?_eq_some_iff.mp hx1
  have hi2:i < m2.length:=by omega
  have hx2:m2[i]? = some m2[i]:=List.getElem?_eq_getElem hi2
  rw [List.drop_eq_getElem_cons (by simp;omega),List.find?_cons] at hf
  simp only [List.getElem_zipIdx,List.getElem_zip,Nat.zero_add,ex1] at hf
  have s1:Zb H0 (upd H0 p3 (.tup [.int i,.int x1])):=qb hp3
  refine xj ?_
  have nt1:NoT H→NoT (upd H0 p3 (.tup [.int i,.int x1])):=fun n=>(nt n).upd
  generalize upd H0 p3 (.tup [.int i,.int x1])=H' at s1 nt1 ⊢
  have smH:Zb H H':=sm.trans s1
  (walk_at "RD")
  refine Ac (decide (m2[i]=0) && decide (x1 ≤ vF d1 d2)) (fun Q hQ=>?_) (fun c1=>?_) (fun c1=>?_)
  ·(walk_at "RD")
   refine ⟨_,SqL.of (smH _ _ L2),_,jc (by rw [List.getElem?_map,hx2];rfl),rfl,?_⟩
   by_cases c0:m2[i]=0
   ·rw [decide_eq_true c0,Bool.true_and] at hQ
    rw [if_pos (by rw [c0];exact decide_eq_true rfl)]
    exact hQ
   ·rw [decide_eq_false c0,Bool.false_and] at hQ
    rw [if_neg (by rw [decide_eq_true_eq];exact fun e=>c0 (V.int.inj e))]
    exact hQ
  ·rw [c1] at hf
   have hf:Wr (vF d1 d2) m1 m2=some ((x1,m2[i]),i):=hf
   rw [hf] at q
   (walk_at "RD")
   refine ⟨by decide,fun a ha=>⟨a,d1.name,d2.name,i,rfl,(hD _ h1).1,(hD _ h2).1,wD (by omega),fb,fun d hd hne=>?_⟩⟩
   have hd0:H' d=none:=by rw [pb hne] at hd;exact hd
   refine ⟨rfl,t.vd,some d,by rw [pb (Ne.symm hne),fb],T.Kr,q d _ (fun b u e=>?_) (fun n=>((((nt1 n).upd).upd).upd).upd) (by rw [pb hne,fb])⟩
   have e':=smH _ _ e
   rw [pb (ub e' ha),pb (ub e' hd0),pb (ub e' ha),pb (ub e' ha)]
   exact e'
  ·rw [c1] at hf
   exact ⟨⟨_,_,rfl⟩,smH,nt1,hf⟩
 ·rintro σ H' ⟨_,sm,nt,hf⟩
  rw [List.drop_of_length_le (by simp;omega)] at hf
  have hf:Wr (vF d1 d2) m1 m2=none:=hf
  rw [hf] at q
  exact q _ sm nt
theorem PD (T:Txt w K mg t):Eb P w K mg base (CX1 P w) 5 t.Wf t.Sf ["crossing","size","spans"] (Qw t):=by
 have G_since_marked:Eb P w K mg base CX0 4 t.Xf t.Kf ["marks"] Zz:=(tI T).mono (by decide)
 have G_free_marks:Eb P w K mg base CX0 4 t.fg t.dg ["size","spans","name"] KK:=(gO T).mono (by decide)
 have G_Crossing_names:Eb P w K mg base CX0 4 t.ad t.Ad ["self"] (Op t):=(Sv T).mono (by decide)
 have G_meet:Eb P w K mg base CX0 4 t.LA t.wA ["crossing","one","other"] (dF t):=(ZK T).mono (by decide)
 have GX_refuse_clash_of:Eb P w K mg base (CX1 P w) 4 t.ze t.we ["crossing","one","other","since_one","since_other"] (aK t):=FO T
 refine T.Qh.okX pe (fun vs H Q E h=>?_) (fun cdv A outer s H vs Q E hr h=>?_)
 ·obtain ⟨c,n,ds,z,p,sp,rfl,_⟩:=h;rfl
 obtain ⟨c,n,ds,z,p,sp,rfl,C,hn,hD,hz,L,hs,nt0,q⟩:=h
 have hu:=uz hr
 refine ⟨_,(db (Ab (i:=3) pe.nd rfl (Or.inl rfl) Up)
   (db (ee (oe ⟨rfl,rfl⟩) rfl (ce (Qe (pv 0) T.Jb T.Yd G_Crossing_names hr T.Xd .nil zb)) (yb (i:=4) pe.nd rfl (Or.inl rfl)) (ib (Vv hu (pv 3) (pv 4) (wb G_since_marked hr rfl T.At T.ei.kp T.Vs .nil zb (bb (wb G_free_marks hr rfl T.Lo T.Nh.kp T.Zo .nil zb (bb (pv 1) (bb (pv 2) (bb (pv 4) gb)))) gb)) rfl)))
   (ib (ee (oe ⟨rfl,rfl⟩) rfl (ce (Qe (pv 0) T.Jb T.Yd G_Crossing_names hr T.Xd .nil zb)) (yb (i:=5) pe.nd rfl (Or.inl rfl)) (ib (ee (oe ⟨rfl,rfl⟩) rfl (ce (Qe (pv 0) T.Jb T.Yd G_Crossing_names hr T.Xd .nil zb)) (yb (i:=6) pe.nd rfl (Or.inl rfl)) (ib (ye (PW.pt (BD (kc gz (pv 5) (pv 6) (wc _)) (Vy (dj (wb G_meet hr rfl T.XO T.tF.kp T.eO .nil zb (bb (pv 0) (bb (pv 5) (bb (pv 6) gb)))))))) (ib (Cc (wb GX_refuse_clash_of hr rfl T.oo T.Bf.kp T.Co .nil uf (bb (pv 0) (bb (pv 5) (bb (pv 6) (bb (wo hu (pv 3) (pv 5) (fun _ _=>rfl)) (bb (wo hu (pv 3) (pv 6) (fun _ _=>rfl)) gb)))))))) ic)))))))),?_⟩
 (walk_at "RD")
 intro pd hpd
 obtain ⟨⟨hnd,hdl⟩,dx,wl,nd,e1,_,_⟩:=id C
 have s0:Zb H (upd H pd (.dK [])):=qb hpd
 refine ⟨_,_,s0 _ _ e1,Dw _ _ _ (by decide +kernel),c,n,ds,rfl,C.same s0,fun pn hpn=>⟨pn,rfl,⟨_,SqL.of fb⟩,?_⟩⟩
 have hpp:pn ≠ pd:=fun e=>by subst e;rw [fb] at hpn;cases hpn
 refine jj.list (xs:=Rb (ds.map (·.name))) (fun i σ H'=>(∃ y,σ=[some (V.ref c),some (V.int z),some (V.ref p),some (V.ref pd),y,none,none])∧Zb H H'∧NoT H'∧H' pn=some (.lst (Rb (ds.map (·.name))))∧NK H' pd ds (fun d=>.lst ((Sm z sp d.name).map V.int)) i) ?_ ?_ ?_ ?_
 ·exact ⟨⟨_,rfl⟩,s0.trans (qb hpn),(nt0.upd).upd,fb,[],rfl,by rw [pb (Ne.symm hpp),fb];simp [nkv],fun i r d h=>by simp at h⟩
 ·rintro i σ H' hi ⟨_,_,_,h,_⟩
  exact SqL.of h
 ·rintro i v σ H' hv ⟨⟨y,rfl⟩,sm,nt,hpn',rs,hrl,hpd',hrs⟩
  obtain ⟨x,hx,rfl⟩:=qc hv
  obtain ⟨d,hd,rfl⟩:=qc hx
  (walk_at "RD")
  refine ⟨z,p,d.name,sp,rfl,hz,L.same sm,hs,fun r1 H1 s1 n1 hr1 h1=>⟨r1,_,rfl,h1,by rw [vo];exact hz,fun r2 H2 s2 n2 hr2 h2=>?_⟩⟩
  have s12:=s1.trans s2
  have hp2:=s12 _ _ hpd'
  refine ⟨_,aC.k (k:=Sum.inr d.name) hp2 (Nat.lt_of_le_of_lt (show (nkv ds rs).length ≤ 12 by unfold nkv;rw [List.length_map,List.length_zip];omega) (by decide)),?_⟩
  have hdi:ds[rs.length]? = some d:=by rw [hrl];exact hd
  rw [yy hnd hdi]
  have hne:∀ {b:Addr} {ys:List V},H2 b=some (.lst ys)→b ≠ pd:=fun e=>Ag e hp2 (by intro z;cases z)
  refine ⟨⟨_,rfl⟩,fun b u e=>?_,(n2 (n1 nt)).upd,?_,rs ++ [r2],by rw [List.length_append,hrl];rfl,fb,fun j r e hj he=>?_⟩
  ·rw [pb (ub e hpd)];exact s12 _ _ (sm _ _ e)
  ·rw [pb hpp];exact s12 _ _ hpn'
  ·rcases xy hj with ⟨_,z2⟩ | ⟨z1,rfl⟩
   ·have:=s12 _ _ (hrs j r e z2 he)
    rw [pb (hne this)];exact this
   ·rw [z1] at he
    rw [hdi] at he
    cases he
    rw [pb (hne h2)];exact h2
 rintro σ H1 ⟨⟨y,rfl⟩,sm1,nt1,hpn1,N1⟩
 have hsl:(Rb (ds.map (·.name))).length=ds.length:=by unfold Rb;simp
 rw [hsl] at N1
 obtain ⟨rs,hrl,hpd1,hrs⟩:=N1
 have C1:=C.same sm1
 (walk_at "RD")
 refine ⟨_,_,sm1 _ _ e1,Dw _ _ _ (by decide +kernel),c,n,ds,rfl,C1,fun p2 hp2=>⟨p2,rfl,⟨_,SqL.of fb⟩,?_⟩⟩
 refine jj.list (xs:=Rb (ds.map (·.name))) (fun i σ H'=>(∃ y u v,σ=[some (V.ref c),some (V.int z),some (V.ref p),some (V.ref pd),y,u,v])∧Zb H1 H'∧NoT H'∧H' p2=some (.lst (Rb (ds.map (·.name))))∧dl n z sp ds=(ds.drop i).findSome? fun d1=>Au n z sp d1 ds) ?_ ?_ ?_ ?_
 ·exact ⟨⟨_,_,_,rfl⟩,qb hp2,nt1.upd,fb,rfl⟩
 ·rintro i σ H' hi ⟨_,_,_,h,_⟩
  exact SqL.of h
 ·rintro i v σ H2 hv ⟨⟨y,u,v',rfl⟩,sm2,nt2,hpn2,hA⟩
  obtain ⟨x,hx,rfl⟩:=qc hv
  obtain ⟨d1,hd1,rfl⟩:=qc hx
  obtain ⟨hi,hxi⟩:=List.getElem?_eq_some_iff.mp hd1
  rw [List.drop_eq_getElem_cons hi,hxi,List.findSome?_cons] at hA
  have C2:=C1.same sm2
  (walk_at "RD")
  refine ⟨_,_,sm2 _ _ (sm1 _ _ e1),Dw _ _ _ (by decide +kernel),c,n,ds,rfl,C2,fun p3 hp3=>⟨p3,rfl,⟨_,SqL.of fb⟩,?_⟩⟩
  refine jj.list (xs:=Rb (ds.map (·.name))) (fun j σ H'=>(∃ y v,σ=[some (V.ref c),some (V.int z),some (V.ref p),some (V.ref pd),y,some (V.str d1.name),v])∧Zb H2 H'∧NoT H'∧H' p3=some (.lst (Rb (ds.map (·.name))))∧Au n z sp d1 ds=(ds.drop j).findSome? fun d2=>(mr n z sp d1 d2).map fun i=>(d1,d2,i)) ?_ ?_ ?_ ?_
  ·exact ⟨⟨_,_,rfl⟩,qb hp3,nt2.upd,fb,rfl⟩
  ·rintro i σ H' hi ⟨_,_,_,h,_⟩
   exact SqL.of h
  ·rintro j v σ H3 hv ⟨⟨y,v',rfl⟩,sm3,nt3,hpn3,hB⟩
   obtain ⟨x,hx,rfl⟩:=qc hv
   obtain ⟨d2,hd2,rfl⟩:=qc hx
   obtain ⟨hj,hxj⟩:=List.getElem?_eq_some_iff.mp hd2
   rw [List.drop_eq_getElem_cons hj,hxj,List.findSome?_cons] at hB
   have C3:=C2.same sm3
   have sm13:=sm2.trans sm3
   (walk_at "RD")
   refine Ac (decide (d1.name ≠ d2.name) && mt n d1 d2) (fun Q hQ=>?_) (fun c1=>?_) (fun c1=>?_)
   ·(walk_at "RD")
    by_cases c0:d1.name=d2.name
    ·rw [decide_eq_false (fun z=>z c0),Bool.false_and] at hQ
     rw [if_neg (by simp [c0])]
     exact hQ
    ·rw [decide_eq_true c0,Bool.true_and] at hQ
     rw [if_pos (by simp [c0])]
     exact ⟨c,n,ds,i,j,d1,d2,rfl,C3,hn,hd1,hd2,nt3,_,rfl,hQ⟩
   ·rw [Bool.and_eq_true] at c1
    have c2:mr n z sp d1 d2=(Wr (vF d1 d2) (Sm z sp d1.name) (Sm z sp d2.name)).map (·.2):=by
     unfold mr;rw [if_pos ⟨of_decide_eq_true c1.1,c1.2⟩]
    rw [c2] at hB
    have hr1:rs[i]? = some rs[i]:=List.getElem?_eq_getElem (by omega)
    have hr2:rs[j]? = some rs[j]:=List.getElem?_eq_getElem (by omega)
    have g1:zl H3 pd (.str d1.name) (some (.ref rs[i])):=by rw [← dz hnd hd1 hr1];exact zl.k (k:=Sum.inr d1.name) (sm13 _ _ hpd1)
    have g2:zl H3 pd (.str d2.name) (some (.ref rs[j])):=by rw [← dz hnd hd2 hr2];exact zl.k (k:=Sum.inr d2.name) (sm13 _ _ hpd1)
    (walk_at "RD")
    refine ⟨_,g1,_,g2,c,n,ds,d1,d2,_,_,_,_,rfl,C3,hD,List.mem_of_getElem? hd1,List.mem_of_getElem? hd2,sm13 _ _ (hrs i _ _ hr1 hd1),sm13 _ _ (hrs j _ _ hr2 hd2),by rw [Sn,Sn],by rw [Sn];exact hz.2,?_⟩
    cases hc:Wr (vF d1 d2) (Sm z sp d1.name) (Sm z sp d2.name) with
    | none=>
     rw [hc] at hB
     exact fun H4 s4 n4=>⟨(by first | exact ⟨_,_,rfl⟩ | exact ⟨_,rfl⟩ | simp),sm3.trans s4,n4 nt3,s4 _ _ hpn3,hB⟩
    | some e=>
     rw [hc] at hB
     have hB:Au n z sp d1 ds=some (d1,d2,e.2):=hB
     rw [hB] at hA
     have hA:dl n z sp ds=some (d1,d2,e.2):=hA
     rw [hA] at q
     exact q.step (sm1.trans sm13) fun _=>nt3
   ·have c2:mr n z sp d1 d2=none:=by
     unfold mr
     rw [if_neg]
     rintro ⟨z1,z2⟩
     rw [decide_eq_true z1,z2] at c1
     cases c1
    rw [c2] at hB
    exact ⟨⟨_,_,rfl⟩,sm3,nt3,hpn3,hB⟩
  ·rintro σ H' ⟨⟨y,v',rfl⟩,sm3,nt3,_,hB⟩
   rw [hsl,List.drop_of_length_le (Nat.le_refl _)] at hB
   have hB:Au n z sp d1 ds=none:=hB
   rw [hB] at hA
   exact ⟨⟨_,_,_,rfl⟩,sm2.trans sm3,nt3,sm3 _ _ hpn2,hA⟩
 ·rintro σ H' ⟨_,sm,nt,_,hA⟩
  rw [hsl,List.drop_of_length_le (Nat.le_refl _)] at hA
  have hA:dl n z sp ds=none:=hA
  rw [hA] at q
  exact q _ (sm1.trans sm) nt
end
end My
namespace My
open PySem L2
noncomputable abbrev eF:List Str:=[Str.ofString "crossing",Str.ofString "size",Str.ofString "spans",Str.ofString "lamps",Str.ofString "untils"]
noncomputable def plF (c:Addr) (z:Int) (p lm un:Addr):List (Str × V):=[(Str.ofString "crossing",.ref c),(Str.ofString "size",.int z),(Str.ofString "spans",.ref p),(Str.ofString "lamps",.ref lm),(Str.ofString "untils",.ref un)]
theorem Jp (c:Addr) (z:Int) (p lm un:Addr):(plF c z p lm un).map (·.1)=eF:=rfl
noncomputable def ao (z:Nat) (sp:List SD) (d:WD):List Str:=Yh z (Gc d).toNat (be d).toNat (ofN d.name sp)
noncomputable def UJ (z:Nat) (sp:List SD) (x:Str):List Int:=bn (fmF z (ofN x sp))
structure xi (t:Adr) (H:Hp) (a c:Addr) (n:Int) (ds:List WD) (z:Nat) (sp:List SD):Prop where
 at_:∃ dx p lm un,H a=some (.ins t.ge dx (plF c z p lm un))∧Uc t H c n ds∧LO H p (List.map sdO sp)∧NK H lm ds (fun d=>.lst (Rb (ao z sp d))) ds.length∧NK H un ds (fun d=>.lst ((UJ z sp d.name).map V.int)) ds.length
noncomputable def uJ (t:Adr):Sp:=fun vs H Q _=>∃ (a dx c:Addr) (n:Int) (ds:List WD) (z:Nat) (p:Addr) (sp:List SD),vs=[.ref a,.ref c,.int z,.ref p]∧H a=some (.ins t.ge dx [])∧Uc t H c n ds∧DOk ds∧(0 < z∧z ≤ 1000)∧LO H p (List.map sdO sp)∧vK z sp∧NoT H ∧
 ∀ H',Ld a H H'→NoT H'→xi t H' a c n ds z sp→Q .non H'
noncomputable def rQ (t:Adr) (c:Addr) (n:Int) (ds:List WD) (z:Nat) (sp:List SD) (H:Hp) (Q:VK) (E:XK):Prop:=
 (kj ds sp=none→fk ds z sp=none→dl n z sp ds=none→∀ a H',Zb H H'→NoT H'→xi t H' a c n ds z sp→Q (.ref a) H') ∧
 (∀ x,kj ds sp=some x→EG t.Od [(Str.ofString "way",.str x)] H E) ∧
 (∀ e,kj ds sp=none→fk ds z sp=some e→EG t.Id [(Str.ofString "way",.str e.1.name),(Str.ofString "at",.int e.1.b)] H E) ∧
 (∀ e,kj ds sp=none→fk ds z sp=none→dl n z sp ds=some e→EG t.vd [(Str.ofString "way",.str e.1.name),(Str.ofString "other",.str e.2.1.name),(Str.ofString "at",.int e.2.2)] H E)
noncomputable def LI (t:Adr):Sp:=fun vs H Q E=>∃ (c:Addr) (n:Int) (ds:List WD) (z:Nat) (p:Addr) (sp:List SD),vs=[.ref c,.int z,.ref p]∧Uc t H c n ds∧0 < n∧DOk ds∧(0 < z∧z ≤ 1000)∧LO H p (List.map sdO sp)∧vK z sp∧(∀ s ∈ sp,∃ d,wOf ds s.name=some d)∧NoT H ∧
 rQ t c n ds z sp H Q E
section
variable {w:World} {K:PySem.W.Frag} {mg:Str→Option Value} {t:Adr} {H:Hp} {a c dx p lm un:Addr} {z:Int}
theorem BA (T:Txt w K mg t) (e:H a=some (.ins t.ge dx (plF c z p lm un))):wj K H a (Str.ofString "lamps") (.ref lm):=⟨_,dx,_,e,T.Li,T.Pm,yd eF 3 (Jp ..) (by decide +kernel) rfl⟩
theorem zE (T:Txt w K mg t) (e:H a=some (.ins t.ge dx (plF c z p lm un))):wj K H a (Str.ofString "untils") (.ref un):=⟨_,dx,_,e,T.Li,T.Pl,yd eF 4 (Jp ..) (by decide +kernel) rfl⟩
end
theorem uE {H:Hp} {a b C C' dx dx':Addr} {fs:List (Str × V)} (ha:H a=some (.ins C dx [])) (hb:H b=some (.ins C' dx' fs)) (hf:fs ≠ []):b ≠ a:=fun z=>by
 subst z
 rw [hb] at ha
 have e:=Option.some.inj ha
 injection e with _ _ e3
 exact hf e3
theorem Uc.sameX {t:Adr} {H H':Hp} {a c C dx:Addr} {n:Int} {ds:List WD} (h:Uc t H c n ds) (s:Ld a H H') (ha:H a=some (.ins C dx [])):Uc t H' c n ds:=by
 obtain ⟨h0,dx',wl,nd,e1,⟨as,w1,w2,al⟩,e3⟩:=h
 refine ⟨h0,dx',wl,nd,s _ _ (uE ha e1 (by unfold cF;simp)) e1,⟨as,s _ _ (Ag w1 ha (by intro z;cases z)) w1,w2,fun i b d hb hd=>?_⟩,s _ _ (Ag e3 ha (by intro z;cases z)) e3⟩
 obtain ⟨k,dxb,eb⟩:=al i b d hb hd
 exact ⟨k,dxb,s _ _ (uE ha eb (by unfold Bp;simp)) eb⟩
theorem LO.sameX {H H':Hp} {a p C dx:Addr} {sp:List SD} (h:LO H p (List.map sdO sp)) (s:Ld a H H') (ha:H a=some (.ins C dx [])):LO H' p (List.map sdO sp):=by
 obtain ⟨qs,l1,l2⟩:=h
 refine ⟨qs,s _ _ (Ag l1 ha (by intro z;cases z)) l1,l2.1,fun i q o hq ho=>?_⟩
 have e:=l2.2 i q o hq ho
 refine s _ _ (Ag e ha ?_) e
 obtain ⟨d,_,rfl⟩:=qc ho
 intro z;cases z
section
variable {P:Program} {w:World} {K:PySem.W.Frag} {mg:Str→Option Value} {base:Heap} {t:Adr}
theorem yP (T:Txt w K mg t):Eb P w K mg base CX0 4 t.Yg t.Si ["self","crossing","size","spans"] (uJ t):=by
 have G_lamp:Eb P w K mg base CX0 3 t.Xz t.oA ["way","size","spans"] (bE t):=(rM T).mono (by decide)
 have G_until_marked:Eb P w K mg base CX0 3 t.Ke t.Me ["marks"] Wv:=(OA T).mono (by decide)
 have G_free_marks:Eb P w K mg base CX0 3 t.fg t.dg ["size","spans","name"] KK:=(gO T).mono (by decide)
 have G_Crossing_names:Eb P w K mg base CX0 3 t.ad t.Ad ["self"] (Op t):=(Sv T).mono (by decide)
 have G_Crossing_called:Eb P w K mg base CX0 3 t.Ib t.Nb ["self","name"] (Yf t):=(nh T).mono (by decide)
 refine T.Xr.ok rj (fun vs H Q E h=>?_) (fun cdv A outer s H vs Q E hr h=>?_)
 ·obtain ⟨a,dx,c,n,ds,z,p,sp,rfl,_⟩:=h;rfl
 obtain ⟨a,dx,c,n,ds,z,p,sp,rfl,ha,C,hD,hz,L,hs,nt0,q⟩:=h
 have hu:=uz hr
 refine ⟨_,(db (qf (pv 0) (pv 1) rfl)
   (db (qf (pv 0) (pv 2) rfl)
   (db (qf (pv 0) (pv 3) rfl)
   (db (qf (pv 0) Up rfl)
   (db (qf (pv 0) Up rfl)
   (ib (ee PassesOwn.never rfl (ce (Qe (pv 1) T.Jb T.Yd G_Crossing_names hr T.Xd .nil zb)) (yb (i:=4) rj.nd rfl (Or.inl rfl)) (db (Vv hu (Vb (pv 0) rfl) (pv 4) (wb G_lamp hr rfl T.LN T.bG.kp T.qP .nil zb (bb (wd (pv 1) T.Jb T.Yb G_Crossing_called hr T.Xb .nil zb (bb (pv 4) gb)) (bb (pv 2) (bb (pv 3) gb)))) rfl)
   (ib (Vv hu (Vb (pv 0) rfl) (pv 4) (wb G_until_marked hr rfl T.Bl T.Nf.kp T.Dl .nil zb (bb (wb G_free_marks hr rfl T.Lo T.Nh.kp T.Zo .nil zb (bb (pv 2) (bb (pv 3) (bb (pv 4) gb)))) gb)) rfl)))))))))),?_⟩
 (walk_at "RD")
 refine ⟨_,_,_,ha,T.Li,T.mj,by decide,?_⟩
 refine ⟨_,_,_,fb,T.Li,T.ap,Fn (n:=999) (by decide),?_⟩
 refine ⟨_,_,_,fb,T.Li,T.Zv,Fn (n:=999) (Fn (n:=998) (by decide)),fun lm hlm=>?_⟩
 simp only [Bj] at hlm ⊢
 rw [show Qg (Str.ofString "crossing") (V.ref c) ([]:List (Str × V))=[(Str.ofString "crossing",V.ref c)] from rfl,show Qg (Str.ofString "size") (V.int z) [(Str.ofString "crossing",V.ref c)]=[(Str.ofString "crossing",V.ref c),(Str.ofString "size",V.int z)] from Vc [Str.ofString "crossing"] rfl (by decide +kernel),show Qg (Str.ofString "spans") (V.ref p) [(Str.ofString "crossing",V.ref c),(Str.ofString "size",V.int z)]=[(Str.ofString "crossing",V.ref c),(Str.ofString "size",V.int z),(Str.ofString "spans",V.ref p)] from Vc [Str.ofString "crossing",Str.ofString "size"] rfl (by decide +kernel)] at hlm ⊢
 have hla:a ≠ lm:=fun z=>by subst z;rw [fb] at hlm;cases hlm
 have hHl:H lm=none:=by rw [pb (Ne.symm hla)] at hlm;exact hlm
 refine ⟨t.ge,dx,[(Str.ofString "crossing",V.ref c),(Str.ofString "size",V.int z),(Str.ofString "spans",V.ref p)],by rw [pb hla];exact fb,T.Li,T.Pm,show (3:Nat) < 1000 by decide,fun un hun=>?_⟩
 rw [show Qg (Str.ofString "lamps") (V.ref lm) [(Str.ofString "crossing",V.ref c),(Str.ofString "size",V.int z),(Str.ofString "spans",V.ref p)]=[(Str.ofString "crossing",V.ref c),(Str.ofString "size",V.int z),(Str.ofString "spans",V.ref p),(Str.ofString "lamps",V.ref lm)] from Vc [Str.ofString "crossing",Str.ofString "size",Str.ofString "spans"] rfl (by decide +kernel)] at hun ⊢
 have hua:a ≠ un:=fun z=>by subst z;rw [fb] at hun;cases hun
 have hul:un ≠ lm:=fun z=>by subst z;rw [pb (Ne.symm hua),fb] at hun;cases hun
 have hHu:H un=none:=by rw [pb (Ne.symm hua),pb hul,pb (Ne.symm hua)] at hun;exact hun
 refine ⟨t.ge,dx,[(Str.ofString "crossing",V.ref c),(Str.ofString "size",V.int z),(Str.ofString "spans",V.ref p),(Str.ofString "lamps",V.ref lm)],by rw [pb hua];exact fb,T.Li,T.Pl,show (4:Nat) < 1000 by decide,?_⟩
 rw [show Qg (Str.ofString "untils") (V.ref un) [(Str.ofString "crossing",V.ref c),(Str.ofString "size",V.int z),(Str.ofString "spans",V.ref p),(Str.ofString "lamps",V.ref lm)]=plF c z p lm un from Vc [Str.ofString "crossing",Str.ofString "size",Str.ofString "spans",Str.ofString "lamps"] rfl (by decide +kernel)]
 have hf:∃ H5:Hp,H5=upd (upd (upd (upd (upd H a (.ins t.ge dx [(Str.ofString "crossing",V.ref c),(Str.ofString "size",V.int z),(Str.ofString "spans",V.ref p)])) lm (.dK [])) a (.ins t.ge dx [(Str.ofString "crossing",V.ref c),(Str.ofString "size",V.int z),(Str.ofString "spans",V.ref p),(Str.ofString "lamps",V.ref lm)])) un (.dK [])) a (.ins t.ge dx (plF c z p lm un)):=⟨_,rfl⟩
 obtain ⟨H5,h5⟩:=hf
 rw [← h5]
 have g1:H5 a=some (.ins t.ge dx (plF c z p lm un)):=by rw [h5,fb]
 have g2:H5 lm=some (.dK []):=by rw [h5,pb (Ne.symm hla),pb (Ne.symm hul),pb (Ne.symm hla),fb]
 have g3:H5 un=some (.dK []):=by rw [h5,pb (Ne.symm hua),fb]
 have g4:Ld a H H5:=fun b u hb e=>by rw [h5,pb hb,pb (ub e hHu),pb hb,pb (ub e hHl),pb hb];exact e
 have g5:NoT H5:=by rw [h5];exact ((((nt0.upd).upd).upd).upd).upd
 clear h5
 have C5:=C.sameX g4 ha
 obtain ⟨⟨hnd,hdl⟩,dxc,wl,nd,e1,_,_⟩:=id C5
 refine ⟨_,_,e1,Dw _ _ _ (by decide +kernel),c,n,ds,rfl,C5,fun pn hpn=>⟨pn,rfl,⟨_,SqL.of fb⟩,?_⟩⟩
 refine jj.list (xs:=Rb (ds.map (·.name))) (fun i σ H'=>(∃ y,σ=[some (V.ref a),some (V.ref c),some (V.int z),some (V.ref p),y])∧Ld a H H'∧NoT H'∧H' a=some (.ins t.ge dx (plF c z p lm un))∧H' pn=some (.lst (Rb (ds.map (·.name))))∧NK H' lm ds (fun d=>.lst (Rb (ao z sp d))) i∧NK H' un ds (fun d=>.lst ((UJ z sp d.name).map V.int)) i) ?_ ?_ ?_ ?_
 ·have sn:=qb (o:=.lst (Rb (ds.map (·.name)))) hpn
  exact ⟨⟨_,rfl⟩,g4.trans (Ld.of sn),g5.upd,sn _ _ g1,fb,⟨[],rfl,by rw [sn _ _ g2];simp [nkv],fun i r d h=>by simp at h⟩,⟨[],rfl,by rw [sn _ _ g3];simp [nkv],fun i r d h=>by simp at h⟩⟩
 ·rintro i σ H' hi ⟨_,_,_,_,h,_⟩
  exact SqL.of h
 ·rintro i v σ H' hv ⟨⟨y,rfl⟩,sx,nt,ha',hpn',⟨rl,hrl,hlm',hrs⟩,⟨ru,hru,hun',hus⟩⟩
  obtain ⟨x,hx,rfl⟩:=qc hv
  obtain ⟨d,hd,rfl⟩:=qc hx
  have C':=C.sameX sx ha
  have L':=L.sameX sx ha
  obtain ⟨_,dxc',wl',nd',e1',_,_⟩:=id C'
  (walk_at "RD")
  refine ⟨_,_,e1',Dw _ _ _ (by decide +kernel),c,n,ds,i,d,rfl,C',hd,fun wa W=>?_⟩
  have hdi:ds[rl.length]? = some d:=by rw [hrl];exact hd
  have hdj:ds[ru.length]? = some d:=by rw [hru];exact hd
  refine ⟨wa,d,z,p,sp,rfl,hz,W,L',hs,(hD d (List.mem_of_getElem? hd)).2,fun r1 H1 s1 n1 hr1 h1=>⟨_,BA T (s1 _ _ ha'),lm,rfl,_,aC.k (k:=Sum.inr d.name) (s1 _ _ hlm') (Nat.lt_of_le_of_lt (show (nkv ds rl).length ≤ 12 by unfold nkv;rw [List.length_map,List.length_zip];omega) (by decide)),?_⟩⟩
  rw [yy hnd hdi]
  have kl:∀ {b:Addr} {u:HO},H' b=some u→b ≠ lm→upd H1 lm (.dK (nkv ds (rl ++ [r1]))) b=some u:=fun e h=>by rw [pb h];exact s1 _ _ e
  have k1:Ld a H (upd H1 lm (.dK (nkv ds (rl ++ [r1])))):=fun b u hb e=>kl (sx b u hb e) (ub e hHl)
  refine ⟨z,p,d.name,sp,rfl,hz,L.sameX k1 ha,hs,fun r3 H3 s3 n3 hr3 h3=>⟨r3,_,rfl,h3,by rw [vo];exact hz,fun r4 H4 s4 n4 hr4 h4=>?_⟩⟩
  have s34:=s3.trans s4
  have un2:H4 un=some (.dK (nkv ds ru)):=s34 _ _ (kl hun' hul)
  have a2:H4 a=some (.ins t.ge dx (plF c z p lm un)):=s34 _ _ (kl ha' hla)
  refine ⟨_,zE T a2,un,rfl,_,aC.k (k:=Sum.inr d.name) un2 (Nat.lt_of_le_of_lt (show (nkv ds ru).length ≤ 12 by unfold nkv;rw [List.length_map,List.length_zip];omega) (by decide)),?_⟩
  rw [yy hnd hdj]
  have ku:∀ {b:Addr} {u:HO},upd H1 lm (.dK (nkv ds (rl ++ [r1]))) b=some u→b ≠ un→upd H4 un (.dK (nkv ds (ru ++ [r4]))) b=some u:=fun e h=>by rw [pb h];exact s34 _ _ e
  have nel:∀ {b:Addr} {ys:List V},H' b=some (.lst ys)→b ≠ lm:=fun e=>Ag e hlm' (by intro z;cases z)
  have neu:∀ {b:Addr} {ys:List V},H' b=some (.lst ys)→b ≠ un:=fun e=>Ag e hun' (by intro z;cases z)
  have r1l:r1 ≠ lm:=Ag h1 (s1 _ _ hlm') (by intro z;cases z)
  have r1u:r1 ≠ un:=Ag h1 (s1 _ _ hun') (by intro z;cases z)
  have r4u:r4 ≠ un:=Ag h4 un2 (by intro z;cases z)
  refine ⟨⟨_,rfl⟩,fun b u hb e=>ku (k1 b u hb e) (ub e hHu),(n4 (n3 (n1 nt).upd)).upd,ku (kl ha' hla) hua,ku (kl hpn' (nel hpn')) (neu hpn'),⟨rl ++ [r1],by rw [List.length_append,hrl];rfl,ku fb (Ne.symm hul),fun j r e hj he=>?_⟩,⟨ru ++ [r4],by rw [List.length_append,hru];rfl,fb,fun j r e hj he=>?_⟩⟩
  ·rcases xy hj with ⟨_,z2⟩ | ⟨z1,rfl⟩
   ·have:=hrs j r e z2 he
    exact ku (kl this (nel this)) (neu this)
   ·rw [z1,hdi] at he
    cases he
    exact ku (by rw [pb r1l];exact h1) r1u
  ·rcases xy hj with ⟨_,z2⟩ | ⟨z1,rfl⟩
   ·have:=hus j r e z2 he
    exact ku (kl this (nel this)) (neu this)
   ·rw [z1,hdj] at he
    cases he
    rw [pb r4u];exact h4
 ·rintro σ H' ⟨_,sx,nt,ha',_,N1,N2⟩
  have hsl:(Rb (ds.map (·.name))).length=ds.length:=by unfold Rb;simp
  rw [hsl] at N1 N2
  exact q _ sx nt ⟨dx,p,lm,un,ha',C.sameX sx ha,L.sameX sx ha,N1,N2⟩
theorem OH (T:Txt w K mg t):Eb P w K mg base (CX1 P w) 6 t.jh t.mh ["crossing","size","rows"] (LI t):=by
 have G_Crossing_called:Eb P w K mg base CX0 5 t.Ib t.Nb ["self","name"] (Yf t):=(nh T).mono (by decide)
 have G_Plan_init:Eb P w K mg base CX0 4 t.Yg t.Si ["self","crossing","size","spans"] (uJ t):=yP T
 have GX_refuse_never:Eb P w K mg base (CX1 P w) 5 t.Ff t.Jf ["crossing","spans"] (Hw t):=(bF T).mono (by decide)
 have GX_refuse_short:Eb P w K mg base (CX1 P w) 5 t.Tf t.Rf ["crossing","size","spans"] (lw t):=(OE T).mono (by decide)
 have GX_refuse_clash:Eb P w K mg base (CX1 P w) 5 t.Wf t.Sf ["crossing","size","spans"] (Qw t):=PD T
 refine T.Ul.okX kg (fun vs H Q E h=>?_) (fun cdv A outer s H vs Q E hr h=>?_)
 ·obtain ⟨c,n,ds,z,p,sp,rfl,_⟩:=h;rfl
 obtain ⟨c,n,ds,z,p,sp,rfl,C,hn,hD,hz,L,hs,hw,nt0,q1,q2,q3,q4⟩:=h
 refine ⟨_,(db (Hi (i:=3) kg.nd rfl (Or.inl rfl) rfl (ce (pv 2)) (Nd (sc:=jb am) rfl (by decide +kernel)) (N:=["name","begin","turns"]) (sel:=[none,none,none]) (ve (M:=["crossing","size","rows","spans","name","begin","turns"]) (by decide +kernel)) (Blk.of (fun _ _ _ _=>(Ge (K:=K) (n:=3) rfl rfl (Kb (yb (i:=0) (yi (N:=["name","begin","turns"]) (by decide +kernel) rfl) rfl (Or.inl rfl) (.inr rfl)) (Kb (yb (i:=1) (yi (N:=["name","begin","turns"]) (by decide +kernel) rfl) rfl (Or.inl rfl) (.inr rfl)) (Kb (yb (i:=2) (yi (N:=["name","begin","turns"]) (by decide +kernel) rfl) rfl (Or.inl rfl) (.inr rfl)) De))))) (fun _ _ _ _=>⟨_,Tg,by first | rfl | (dsimp only [Cx.block];done) | (dsimp only [Cx.block];exact rfl)⟩) (fun _ _ _ _=>⟨_,(Hq (bb (pv 0) (bb (pv 1) (bb (pv 2) gb)))),by first | rfl | (dsimp only [Cx.block];done) | (dsimp only [Cx.block];exact rfl)⟩)) rfl)
   (db (ee (oe ⟨rfl,rfl⟩) rfl (ce (pv 3)) (Ge (K:=K) (n:=3) rfl rfl (Kb (yb (i:=4) kg.nd rfl (Or.inl rfl) (.inl rfl)) (Kb (yb (i:=5) kg.nd rfl (Or.inl rfl) (.inl rfl)) (Kb (yb (i:=6) kg.nd rfl (Or.inl rfl) (.inl rfl)) De)))) (ib (Cc (wd (pv 0) T.Jb T.Yb G_Crossing_called hr T.Xb .nil zb (bb (pv 4) gb)))))
   (db (Cc (wb GX_refuse_never hr rfl T.Mt T.Zh.kp T.Ot .nil uf (bb (pv 0) (bb (pv 3) gb))))
   (db (Cc (wb GX_refuse_short hr rfl T.Et T.bi.kp T.Hs .nil uf (bb (pv 0) (bb (pv 1) (bb (pv 3) gb)))))
   (db (Cc (wb GX_refuse_clash hr rfl T.qt T.Qh.kp T.Qs .nil uf (bb (pv 0) (bb (pv 1) (bb (pv 3) gb)))))
   (ib (Db (uo T.GP G_Plan_init hr rfl T.SO T.lz .nil zb (bb (pv 0) (bb (pv 1) (bb (pv 3) gb))))))))))),?_⟩
 (walk_at "RD")
 obtain ⟨qs,l1,lq⟩:=L
 have hql:qs.length=sp.length:=by rw [lq.1,List.length_map]
 have hs1:=hs.1
 refine ⟨⟨_,SqL.of l1⟩,?_⟩
 refine Pd.list (xs:=qs.map V.ref) (fun i ys H'=>∃ os:List Addr,ys=os.map V.ref∧LQ H' os ((sp.take i).map sdO)∧Zb H H'∧NoT H') (Nat.le_trans (show (qs.map V.ref).length ≤ 100 by rw [List.length_map];omega) (by decide)) ⟨[],rfl,by rw [List.take_zero];exact LQ.nil _,Zb.refl _,nt0⟩ ?_ ?_ ?_
 ·rintro i ys H' hi ⟨os,rfl,r,sm,_⟩
  refine ⟨(SqL.of l1).same sm,?_⟩
  rw [List.length_map,r.1,List.length_map,List.length_take];omega
 ·rintro i v ys H' hv ⟨os,rfl,r,sm,nt⟩ N hN
  obtain ⟨qi,hqi,rfl⟩:=qc hv
  obtain ⟨o,ho,e⟩:=lq.at hqi
  obtain ⟨d,hd,rfl⟩:=qc ho
  have e':=sm _ _ e
  dsimp only at hN
  rw [Xg hd,List.map_append] at hN
  (walk_at "RD")
  refine ⟨_,SqT.of e',rfl,_,_,rfl,_,_,rfl,_,_,rfl,rfl,Sub.name3,by decide,fun p1 hp1=>?_⟩
  exact hN _ _ ⟨os ++ [p1],by rw [List.map_append];rfl,(r.same (qb hp1)).app (LQ.one fb),sm.trans (qb hp1),nt.upd⟩
 rintro ys H1 ⟨os,rfl,r,sm1,nt1⟩ p1 hp1
 rw [List.take_of_length_le (by rw [List.length_map];omega)] at r
 have s2:Zb H1 (upd H1 p1 (.lst (os.map V.ref))):=qb hp1
 have nt2:NoT (upd H1 p1 (.lst (os.map V.ref))):=nt1.upd
 have L2:LO (upd H1 p1 (.lst (os.map V.ref))) p1 (List.map sdO sp):=⟨os,fb,r.same s2⟩
 have sm2:=sm1.trans s2
 generalize upd H1 p1 (.lst (os.map V.ref))=H2 at s2 nt2 L2 sm2 ⊢
 have C2:=C.same sm2
 obtain ⟨_,dxc,wl,nd,e1,_,_⟩:=id C2
 obtain ⟨qs2,m1,mq⟩:=id L2
 have hql2:qs2.length=sp.length:=by rw [mq.1,List.length_map]
 (walk_at "RD")
 refine ⟨⟨_,SqL.of m1⟩,?_⟩
 refine jj.list (xs:=qs2.map V.ref) (fun i σ H'=>(∃ x y z',σ=[some (V.ref c),some (V.int z),some (V.ref p),some (V.ref p1),x,y,z'])∧H'=H2) ?_ ?_ ?_ ?_
 ·exact ⟨⟨_,_,_,rfl⟩,rfl⟩
 ·rintro i σ H' hi ⟨_,rfl⟩
  exact SqL.of m1
 ·rintro i v σ H' hv ⟨⟨x,y,z',rfl⟩,rfl⟩
  obtain ⟨qi,hqi,rfl⟩:=qc hv
  obtain ⟨o,ho,e⟩:=mq.at hqi
  obtain ⟨sd,hsd,rfl⟩:=qc ho
  obtain ⟨d,hd⟩:=hw sd (List.mem_of_getElem? hsd)
  obtain ⟨hdn,j,hj⟩:=gK hd
  (walk_at "RD")
  exact ⟨_,SqT.of e,rfl,_,_,rfl,_,_,rfl,_,_,rfl,rfl,_,_,e1,Dw _ _ _ (by decide +kernel),c,n,ds,j,d,by rw [hdn],C2,hj,fun a W=>⟨(by first | exact ⟨_,_,_,rfl⟩ | exact ⟨_,_,rfl⟩ | exact ⟨_,rfl⟩ | simp),rfl⟩⟩
 rintro σ H' ⟨⟨x,y,z',rfl⟩,rfl⟩
 (walk_at "RD")
 refine ⟨c,n,ds,p1,sp,rfl,C2,hD,L2,hs1,?_⟩
 cases hN:kj ds sp with
 | some x=>exact (q2 x hN).step sm2 fun _=>nt2
 | none=>
 intro H3 s3 n3
 have nt3:=n3 nt2
 have C3:=C2.same s3
 have L3:=L2.same s3
 (walk_at "RD")
 refine ⟨c,n,ds,z,p1,sp,rfl,C3,hD,⟨by omega,by omega⟩,L3,hs,hw,?_⟩
 cases hS:fk ds z sp with
 | some e=>exact (q3 e hN hS).step (sm2.trans s3) fun _=>nt3
 | none=>
 intro H4 s4 n4
 have nt4:=n4 nt3
 have C4:=C3.same s4
 have L4:=L3.same s4
 (walk_at "RD")
 refine ⟨c,n,ds,z,p1,sp,rfl,C4,hn,hD,hz,L4,hs,nt4,?_⟩
 cases hC:dl n z sp ds with
 | some e=>exact (q4 e hN hS hC).step ((sm2.trans s3).trans s4) fun _=>nt4
 | none=>
 intro H5 s5 nt5
 have C5:=C4.same s5
 have L5:=L4.same s5
 (walk_at "RD")
 intro a dx ha hdx hne
 have sc:Zb H5 (upd (upd H5 dx (.own a)) a (.ins t.ge dx [])):=((Zb.refl H5).updN hdx).updN ha
 refine ⟨a,dx,c,n,ds,z,p1,sp,rfl,fb,C5.same sc,hD,hz,L5.same sc,hs,(nt5.upd).upd,fun H6 s6 nt6 PA=>⟨rfl,?_⟩⟩
 have sm5:=((sm2.trans s3).trans s4).trans s5
 exact q1 hN hS hC a H6 (Te (sm5.trans sc) s6 (sm5.free ha)) nt6 PA
end
end My
namespace My
open PySem L2
theorem aq {α:Type} (z:Nat) (v:α) (b:Int) (hz:0 < z) (l:List α) (hl:l.length=z):∀ (k:Nat) (i:Nat),i < z→(Yz z v b k l)[i]? = if ∃ j,j < k∧(b + (j:Int)) % (z:Int)=(i:Int) then some v else l[i]?
 | 0,i,hi=>by rw [if_neg (fun ⟨j,hj,_⟩=>by omega)];rfl
 | k + 1,i,hi=>by
  have ih:=aq z v b hz l hl k i hi
  have h0:=Int.emod_nonneg (b + (k:Int)) (show (z:Int) ≠ 0 by omega)
  have h1:=Int.emod_lt_of_pos (b + (k:Int)) (show 0 < (z:Int) by omega)
  unfold Yz zJ
  by_cases c:(b + (k:Int)) % (z:Int)=(i:Int)
  ·rw [show ((b + (k:Int)) % (z:Int)).toNat=i by omega,List.getElem?_set_self (by rw [Ye,hl];exact hi),if_pos ⟨k,by omega,c⟩]
  ·rw [List.getElem?_set_ne (by omega),ih]
   by_cases e:∃ j,j < k∧(b + (j:Int)) % (z:Int)=(i:Int)
   ·obtain ⟨j,hj,ej⟩:=e
    rw [if_pos ⟨j,hj,ej⟩,if_pos ⟨j,by omega,ej⟩]
   ·rw [if_neg e,if_neg]
    rintro ⟨j,hj,ej⟩
    by_cases hjk:j=k
    ·subst hjk;exact c ej
    ·exact e ⟨j,by omega,ej⟩
theorem Mu {z b i:Int} {n:Int} (hz:0 < z) (hi:0 ≤ i∧i < z) (hn:0 ≤ n∧n ≤ z):(∃ j:Nat,j < n.toNat∧(b + (j:Int)) % z=i)↔(i - b) % z < n:=by
 have h0:=Int.emod_nonneg (i - b) (show z ≠ 0 by omega)
 have h1:=Int.emod_lt_of_pos (i - b) hz
 constructor
 ·rintro ⟨j,hj,e⟩
  have:(i - b) % z=j:=by
   rw [← e,Int.emod_sub_emod,show b + (j:Int) - b=j by omega]
   exact Int.emod_eq_of_lt (by omega) (by omega)
  omega
 ·intro h
  refine ⟨((i - b) % z).toNat,by omega,?_⟩
  rw [Int.toNat_of_nonneg h0,Int.add_emod_emod,show b + (i - b)=i by omega]
  exact Int.emod_eq_of_lt hi.1 hi.2
theorem IJ {z:Nat} (hz:0 < z) {b n:Int} (hn:0 ≤ n∧n ≤ z) {i:Nat} (hi:i < z):(fmF z [(b,n)])[i]? = some (decide (((i:Int) - b) % (z:Int) < n)):=by
 unfold fmF
 rw [List.foldl_cons,List.foldl_nil,aq z true b hz _ (List.length_replicate ..) _ _ hi]
 have:=Mu (z:=z) (b:=b) (i:=i) (n:=n) (by omega) ⟨by omega,by omega⟩ hn
 by_cases c:((i:Int) - b) % (z:Int) < n
 ·rw [if_pos (this.mpr c),decide_eq_true c]
 ·rw [if_neg (fun e=>c (this.mp e)),decide_eq_false c,List.getElem?_replicate,if_pos hi]
theorem Xi (m:List Bool):∀ k,0 ≤ jf m k
 | 0=>by show (0:Int) ≤ 0;decide
 | k + 1=>by
  have:=Xi m k
  unfold jf
  split <;> omega
theorem nw (m:List Bool) (g:Int) (hg:0 ≤ g):∀ k:Nat,jf m k ≤ g↔(∃ j:Nat,(j:Int) ≤ g∧j < k∧m[(2 * m.length - 1 - (k - 1 - j)) % m.length]? = some true)∨(k:Int) ≤ g
 | 0=>by
  constructor
  ·intro _;exact .inr (by omega)
  ·intro _;exact hg
 | k + 1=>by
  by_cases c:m[(2 * m.length - 1 - k) % m.length]? = some true
  ·have e:jf m (k + 1)=0:=by unfold jf;rw [if_pos c]
   rw [e]
   exact ⟨fun _=>.inl ⟨0,by omega,by omega,by rw [show k + 1 - 1 - 0=k by omega];exact c⟩,fun _=>hg⟩
  ·have e:jf m (k + 1)=jf m k + 1:=by
    show (if m[(2 * m.length - 1 - k) % m.length]? = some true then 0 else jf m k + 1)=_
    rw [if_neg c]
   rw [e]
   by_cases hg1:1 ≤ g
   ·have ih:=nw m (g - 1) (by omega) k
    constructor
    ·intro h
     rcases ih.mp (by omega) with ⟨j,h1,h2,h3⟩ | h
     ·exact .inl ⟨j + 1,by omega,by omega,by rw [show k + 1 - 1 - (j + 1)=k - 1 - j by omega];exact h3⟩
     ·exact .inr (by omega)
    ·rintro (⟨j,h1,h2,h3⟩ | h)
     ·by_cases hj:j=0
      ·subst hj
       rw [show k + 1 - 1 - 0=k by omega] at h3
       exact absurd h3 c
      ·have:=ih.mpr (.inl ⟨j - 1,by omega,by omega,by rw [show k - 1 - (j - 1)=k + 1 - 1 - j by omega];exact h3⟩)
       omega
     ·have:=ih.mpr (.inr (by omega))
      omega
   ·have:=Xi m k
    constructor
    ·intro h;omega
    ·rintro (⟨j,h1,h2,h3⟩ | h)
     ·have hj:j=0:=by omega
      subst hj
      rw [show k + 1 - 1 - 0=k by omega] at h3
      exact absurd h3 c
     ·omega
theorem oI {m:List Bool} {t:Nat} (ht:t < m.length):(bn m)[t]? = some (jf m (2 * m.length - t)):=by
 unfold bn
 rw [List.getElem?_map,List.getElem?_range ht];rfl
theorem dI {m:List Bool} (hm:∃ i,i < m.length∧m[i]? = some true) {t:Nat} (ht:t < m.length) (g:Int) (hg:0 ≤ g):jf m (2 * m.length - t) ≤ g↔∃ j:Nat,(j:Int) ≤ g∧m[(t + j) % m.length]? = some true:=by
 have pos:∀ j,j < 2 * m.length - t→(2 * m.length - 1 - (2 * m.length - t - 1 - j))=t + j:=fun j hj=>by omega
 rw [nw m g hg]
 constructor
 ·rintro (⟨j,h1,h2,h3⟩ | h)
  ·rw [pos j h2] at h3
   exact ⟨j,h1,h3⟩
  ·obtain ⟨i,hi,e⟩:=hm
   refine ⟨(i + m.length - t) % m.length,?_,?_⟩
   ·have:=Nat.mod_lt (i + m.length - t) (show 0 < m.length by omega)
    omega
   ·rw [Nat.add_mod_mod,show t + (i + m.length - t)=i + m.length by omega,Nat.add_mod_right,Nat.mod_eq_of_lt hi]
    exact e
 ·rintro ⟨j,h1,h2⟩
  have hj:=Nat.mod_lt j (show 0 < m.length by omega)
  have hle:=Nat.mod_le j m.length
  refine .inl ⟨j % m.length,by omega,by omega,?_⟩
  rw [pos _ (by omega),Nat.add_mod_mod]
  exact h2
theorem HM {m:List Bool} (hm:∃ i,i < m.length∧m[i]? = some true):∃ i,i < m.reverse.length∧m.reverse[i]? = some true:=by
 obtain ⟨i,hi,e⟩:=hm
 refine ⟨m.length - 1 - i,by rw [List.length_reverse];omega,?_⟩
 rw [List.getElem?_reverse (by omega),show m.length - 1 - (m.length - 1 - i)=i by omega]
 exact e
theorem yI {m:List Bool} {t:Nat} (ht:t < m.length):∃ v,(wu m)[t]? = some v∧0 ≤ v∧((∃ i,i < m.length∧m[i]? = some true)→∀ g:Int,0 ≤ g→(v ≤ g↔∃ j:Nat,(j:Int) ≤ g∧m[(((t:Int) - (j:Int)) % (m.length:Int)).toNat]? = some true)):=by
 have hr:m.reverse.length=m.length:=List.length_reverse
 have h1:m.length - 1 - t < m.reverse.length:=by omega
 refine ⟨jf m.reverse (2 * m.reverse.length - (m.length - 1 - t)),?_,Xi _ _,fun hm g hg=>?_⟩
 ·unfold wu
  rw [List.getElem?_reverse (by rw [Zn];omega),Zn,hr]
  have:=oI h1
  rw [hr] at this
  exact this
 ·rw [dI (HM hm) h1 g hg]
  have key:∀ j:Nat,m.reverse[(m.length - 1 - t + j) % m.reverse.length]? = m[(((t:Int) - (j:Int)) % (m.length:Int)).toNat]?:=fun j=>by
   rw [hr]
   have hlt:=Nat.mod_lt (m.length - 1 - t + j) (show 0 < m.length by omega)
   rw [List.getElem?_reverse (by omega)]
   congr 1
   have h0:=Int.emod_nonneg ((t:Int) - (j:Int)) (show (m.length:Int) ≠ 0 by omega)
   have e:((t:Int) - (j:Int)) % (m.length:Int)=((m.length - 1 - (m.length - 1 - t + j) % m.length:Nat):Int):=by
    have d:=Nat.div_add_mod (m.length - 1 - t + j) m.length
    generalize (m.length - 1 - t + j) / m.length=q at d
    generalize (m.length - 1 - t + j) % m.length=r at d hlt ⊢
    have e2:(t:Int) - (j:Int)=((m.length - 1 - r:Nat):Int) + (m.length:Int) * (-(q:Int)):=by
     have d':(m.length:Int) * (q:Int) + (r:Int)=((m.length - 1 - t + j:Nat):Int):=by rw [← d];push_cast;rfl
     rw [Int.mul_neg]
     omega
    rw [e2,Int.add_mul_emod_self_left]
    exact Int.emod_eq_of_lt (by omega) (by omega)
   omega
  constructor
  ·rintro ⟨j,h2,h3⟩
   exact ⟨j,h2,by rw [← key j];exact h3⟩
  ·rintro ⟨j,h2,h3⟩
   exact ⟨j,h2,by rw [key j];exact h3⟩
theorem aP {z:Nat} (hz:0 < z) {b n:Int} (hn:1 ≤ n∧n ≤ z) {t:Nat} (ht:t < z):∃ v,(wu (fmF z [(b,n)]))[t]? = some v∧0 ≤ v∧∀ g:Int,0 ≤ g→(v ≤ g↔∃ j:Nat,(j:Int) ≤ g∧((t:Int) - (j:Int) - b) % (z:Int) < n):=by
 have hl:(fmF z [(b,n)]).length=z:=vo _ _
 obtain ⟨v,h1,h2,h3⟩:=yI (m:=fmF z [(b,n)]) (t:=t) (by rw [hl];exact ht)
 refine ⟨v,h1,h2,fun g hg=>?_⟩
 have hb0:=Int.emod_nonneg b (show (z:Int) ≠ 0 by omega)
 have hb1:=Int.emod_lt_of_pos b (show 0 < (z:Int) by omega)
 have hm:∃ i,i < (fmF z [(b,n)]).length∧(fmF z [(b,n)])[i]? = some true:=by
  refine ⟨(b % (z:Int)).toNat,by rw [hl];omega,?_⟩
  rw [IJ hz ⟨by omega,hn.2⟩ (by omega),Int.toNat_of_nonneg hb0,decide_eq_true]
  rw [Int.emod_sub_emod,Int.sub_self,Int.zero_emod]
  omega
 rw [h3 hm g hg,hl]
 have key:∀ j:Nat,(fmF z [(b,n)])[(((t:Int) - (j:Int)) % (z:Int)).toNat]? = some (decide (((t:Int) - (j:Int) - b) % (z:Int) < n)):=fun j=>by
  have c0:=Int.emod_nonneg ((t:Int) - (j:Int)) (show (z:Int) ≠ 0 by omega)
  have c1:=Int.emod_lt_of_pos ((t:Int) - (j:Int)) (show 0 < (z:Int) by omega)
  rw [IJ hz ⟨by omega,hn.2⟩ (by omega),Int.toNat_of_nonneg c0,Int.emod_sub_emod]
 constructor
 ·rintro ⟨j,g1,g2⟩
  rw [key j] at g2
  exact ⟨j,g1,of_decide_eq_true (Option.some.inj g2)⟩
 ·rintro ⟨j,g1,g2⟩
  exact ⟨j,g1,by rw [key j,decide_eq_true g2]⟩
noncomputable def HH (z t:Int) (p:Int × Int):Int:=if (t - p.1) % z < p.2 then 0 else z - (t - p.1) % z
theorem IH (z t g:Int):∀ (ps:List (Int × Int)) (b:Int),ps.foldl (fun b p=>min b (HH z t p)) b ≤ g↔b ≤ g∨∃ p ∈ ps,HH z t p ≤ g
 | [],b=>by simp
 | p :: ps,b=>by
  rw [List.foldl_cons,IH z t g ps]
  simp only [List.mem_cons,exists_eq_or_imp]
  rw [show min b (HH z t p) ≤ g↔b ≤ g∨HH z t p ≤ g by omega,or_assoc]
noncomputable def iP (f:Nat→Int) (z:Nat):Nat→Int × Nat
 | 0=>(0,0)
 | k + 1=>if (iP f z k).1 ≤ f (z - 1 - k) then (f (z - 1 - k),z - 1 - k) else iP f z k
structure AS (z:Nat) (ds:List WD) (sp:List SD):Prop where
 al:∀ s ∈ sp,∃ d,wOf ds s.name=some d∧(0 ≤ s.b∧s.b < z)∧1 ≤ s.n∧s.n + be d + Gc d ≤ z
 far:∀ (i j:Nat) (s e:SD) (d:WD),i ≠ j→sp[i]? = some s→sp[j]? = some e→e.name=s.name→wOf ds s.name=some d→s.n + be d + Gc d ≤ (e.b - s.b) % (z:Int)
theorem YR {ds:List WD} {sp:List SD} (h:∀ d ∈ ds,∃ s ∈ sp,s.name=d.name):kj ds sp=none:=by
 unfold kj
 refine List.find?_eq_none.mpr fun x hx=>?_
 obtain ⟨d,hd,rfl⟩:=List.mem_map.mp hx
 obtain ⟨s,hs,e⟩:=h d hd
 intro z
 have:ofN d.name sp=[]:=by simpa using z
 have m:(s.b,s.n) ∈ ofN d.name sp:=List.mem_map.mpr ⟨s,List.mem_filter.mpr ⟨hs,by simpa using e⟩,rfl⟩
 rw [this] at m
 cases m
theorem mS {z:Nat} {ds:List WD} {sp:List SD} (h:∀ d ∈ ds,∀ e ∈ ds,d.name ≠ e.name→d.start=e.start∧d.fin ≠ e.fin):dl 9 z sp ds=none:=by
 unfold dl
 refine List.findSome?_eq_none_iff.mpr fun d hd=>?_
 unfold Au
 refine List.findSome?_eq_none_iff.mpr fun e he=>?_
 unfold mr
 rw [if_neg]
 ·rfl
 ·rintro ⟨hn,hm⟩
  obtain ⟨h1,h2⟩:=h d hd e he hn
  have:mt 9 d e=false:=by
   show wM 9 d.start d.fin e.start e.fin=false
   unfold wM
   rw [decide_eq_false h2,if_pos (.inl (.inl h1.symm))];rfl
  rw [this] at hm
  cases hm
theorem Gx {α:Type} (z:Nat) (v:α) (b:Int) (hz:0 < z) (l:List α) (hl:l.length=z):∀ (k:Nat) (i:Nat),i < z→(Nu z v b k l)[i]? = if ∃ j,j < k∧(b - 1 - (j:Int)) % (z:Int)=(i:Int) then some v else l[i]?
 | 0,i,hi=>by rw [if_neg (fun ⟨j,hj,_⟩=>by omega)];rfl
 | k + 1,i,hi=>by
  have ih:=Gx z v b hz l hl k i hi
  have h0:=Int.emod_nonneg (b - 1 - (k:Int)) (show (z:Int) ≠ 0 by omega)
  have h1:=Int.emod_lt_of_pos (b - 1 - (k:Int)) (show 0 < (z:Int) by omega)
  unfold Nu zJ
  by_cases c:(b - 1 - (k:Int)) % (z:Int)=(i:Int)
  ·rw [show ((b - 1 - (k:Int)) % (z:Int)).toNat=i by omega,List.getElem?_set_self (by rw [Zf,hl];exact hi),if_pos ⟨k,by omega,c⟩]
  ·rw [List.getElem?_set_ne (by omega),ih]
   by_cases e:∃ j,j < k∧(b - 1 - (j:Int)) % (z:Int)=(i:Int)
   ·obtain ⟨j,hj,ej⟩:=e
    rw [if_pos ⟨j,hj,ej⟩,if_pos ⟨j,by omega,ej⟩]
   ·rw [if_neg e,if_neg]
    rintro ⟨j,hj,ej⟩
    by_cases hjk:j=k
    ·subst hjk;exact c ej
    ·exact e ⟨j,by omega,ej⟩
theorem wI {z b i:Int} {n:Int} (hz:0 < z) (hi:0 ≤ i∧i < z) (hn:0 ≤ n∧n ≤ z):(∃ j:Nat,j < n.toNat∧(b - 1 - (j:Int)) % z=i)↔z - n ≤ (i - b) % z:=by
 have h0:=Int.emod_nonneg (i - b) (show z ≠ 0 by omega)
 have h1:=Int.emod_lt_of_pos (i - b) hz
 constructor
 ·rintro ⟨j,hj,e⟩
  have:(i - b) % z=z - 1 - j:=by
   rw [← e,Int.emod_sub_emod,show b - 1 - (j:Int) - b=(z - 1 - j) + z * (-1) by omega,Int.add_mul_emod_self_left]
   exact Int.emod_eq_of_lt (by omega) (by omega)
  omega
 ·intro h
  refine ⟨(z - 1 - (i - b) % z).toNat,by omega,?_⟩
  rw [Int.toNat_of_nonneg (by omega),show b - 1 - (z - 1 - (i - b) % z)=(b + (i - b) % z) + z * (-1) by omega,Int.add_mul_emod_self_left,Int.add_emod_emod,show b + (i - b)=i by omega]
  exact Int.emod_eq_of_lt hi.1 hi.2
theorem MI {z:Nat} (hz:0 < z) {rd fd:Nat} {l:List Str} (hl:l.length=z) {p:Int × Int} (hn:0 ≤ p.2∧p.2 + fd + rd ≤ z) {i:Nat} (hi:i < z):(Is z rd fd l p)[i]? =
  if ((i:Int) - p.1) % (z:Int) < p.2 then some (Str.ofString "free") else if ((i:Int) - p.1) % (z:Int) < p.2 + fd then some (Str.ofString "fade") else if (z:Int) - rd ≤ ((i:Int) - p.1) % (z:Int) then some (Str.ofString "ready") else l[i]?:=by
 obtain ⟨b,n⟩:=p
 dsimp only at hn ⊢
 unfold Is
 have s0:=Int.emod_nonneg ((i:Int) - b) (show (z:Int) ≠ 0 by omega)
 have s1:=Int.emod_lt_of_pos ((i:Int) - b) (show 0 < (z:Int) by omega)
 rw [aq z _ _ hz _ (by rw [Ye,Zf,hl]) _ _ hi,aq z _ _ hz _ (by rw [Zf,hl]) _ _ hi,Gx z _ _ hz _ hl _ _ hi]
 dsimp only
 have m1:=Mu (z:=z) (b:=b + n) (i:=i) (n:=fd) (by omega) ⟨by omega,by omega⟩ ⟨by omega,by omega⟩
 have m2:=Mu (z:=z) (b:=b) (i:=i) (n:=n) (by omega) ⟨by omega,by omega⟩ ⟨by omega,by omega⟩
 have m3:=wI (z:=z) (b:=b) (i:=i) (n:=rd) (by omega) ⟨by omega,by omega⟩ ⟨by omega,by omega⟩
 rw [Int.toNat_natCast] at m1 m3
 have f1:((i:Int) - (b + n)) % (z:Int) < fd↔n ≤ ((i:Int) - b) % (z:Int)∧((i:Int) - b) % (z:Int) < n + fd:=by
  have e:((i:Int) - (b + n)) % (z:Int)=(((i:Int) - b) % (z:Int) - n) % (z:Int):=by
   rw [Int.emod_sub_emod,show (i:Int) - (b + n)=(i:Int) - b - n by omega]
  rw [e]
  by_cases c:n ≤ ((i:Int) - b) % (z:Int)
  ·rw [Int.emod_eq_of_lt (by omega) (by omega)];omega
  ·rw [show ((i:Int) - b) % (z:Int) - n=(((i:Int) - b) % (z:Int) - n + z) + (z:Int) * (-1) by omega,Int.add_mul_emod_self_left,Int.emod_eq_of_lt (by omega) (by omega)]
   omega
 by_cases c1:((i:Int) - b) % (z:Int) < n
 ·rw [if_neg (fun h=>by have:=f1.mp (m1.mp h);omega),if_pos (m2.mpr c1),if_pos c1]
 ·by_cases c2:((i:Int) - b) % (z:Int) < n + fd
  ·rw [if_pos (m1.mpr (f1.mpr ⟨by omega,c2⟩)),if_neg c1,if_pos c2]
  ·rw [if_neg (fun h=>by have:=f1.mp (m1.mp h);omega),if_neg (fun h=>c1 (m2.mp h)),if_neg c1,if_neg c2]
   by_cases c3:(z:Int) - rd ≤ ((i:Int) - b) % (z:Int)
   ·rw [if_pos (m3.mpr c3),if_pos c3]
   ·rw [if_neg (fun h=>c3 (m3.mp h)),if_neg c3]
noncomputable def fQ (z:Int) (rd fd:Nat) (p q:Int × Int):Prop:=p.2 + fd + rd ≤ (q.1 - p.1) % z∧q.2 + fd + rd ≤ (p.1 - q.1) % z
theorem sL {z x:Int} (hz:0 < z) (hx:0 < x % z):(-x) % z=z - x % z:=by
 have h1:=Int.emod_lt_of_pos x hz
 have e:-x=(z - x % z) + z * (-(x / z) - 1):=by
  have:=Int.mul_ediv_add_emod x z
  rw [Int.mul_sub,Int.mul_neg,Int.mul_one]
  omega
 rw [e,Int.add_mul_emod_self_left,Int.emod_eq_of_lt (by omega) (by omega)]
theorem fQ.clear {z:Int} (hz:0 < z) {rd fd:Nat} {p q:Int × Int} (h:fQ z rd fd p q) (hq:1 ≤ q.2) {i:Int} (hi:(i - p.1) % z < p.2):q.2 + fd ≤ (i - q.1) % z∧(i - q.1) % z < z - rd:=by
 have h0:=Int.emod_nonneg (i - p.1) (show z ≠ 0 by omega)
 have hD:0 < (p.1 - q.1) % z:=by have:=h.2;omega
 have hn:=sL hz hD
 rw [show -(p.1 - q.1)=q.1 - p.1 by omega] at hn
 have e:(i - q.1) % z=((i - p.1) % z + (p.1 - q.1) % z) % z:=by
  rw [← Int.add_emod,show i - p.1 + (p.1 - q.1)=i - q.1 by omega]
 have h1:=h.1
 have h2:=h.2
 rw [hn] at h1
 rw [e,Int.emod_eq_of_lt (by omega) (by omega)]
 omega
theorem Po {z:Nat} (hz:0 < z) {rd fd:Nat} {i:Nat} (hi:i < z):∀ (ps:List (Int × Int)) (l:List Str),l.length=z→(∀ p ∈ ps,1 ≤ p.2∧p.2 + fd + rd ≤ z)→ps.Pairwise (fQ z rd fd) →
  (l[i]? = some (Str.ofString "free")→∀ p ∈ ps,p.2 + fd ≤ ((i:Int) - p.1) % (z:Int)∧((i:Int) - p.1) % (z:Int) < z - rd) →
  ((ps.foldl (Is z rd fd) l)[i]? = some (Str.ofString "free")↔l[i]? = some (Str.ofString "free")∨∃ p ∈ ps,((i:Int) - p.1) % (z:Int) < p.2)
 | [],l,_,_,_,_=>by simp
 | p :: ps,l,hl,hp,pw,hB=>by
  have hp0:=hp p (List.mem_cons_self ..)
  obtain ⟨pw1,pw2⟩:=List.pairwise_cons.mp pw
  have e:=MI hz hl (p:=p) (rd:=rd) (fd:=fd) ⟨by omega,hp0.2⟩ hi
  have ne1:(some (Str.ofString "fade"):Option Str) ≠ some (Str.ofString "free"):=by decide +kernel
  have ne2:(some (Str.ofString "ready"):Option Str) ≠ some (Str.ofString "free"):=by decide +kernel
  have key:(Is z rd fd l p)[i]? = some (Str.ofString "free")↔l[i]? = some (Str.ofString "free")∨((i:Int) - p.1) % (z:Int) < p.2:=by
   rw [e]
   by_cases c1:((i:Int) - p.1) % (z:Int) < p.2
   ·rw [if_pos c1];simp [c1]
   ·rw [if_neg c1]
    by_cases c2:((i:Int) - p.1) % (z:Int) < p.2 + fd
    ·rw [if_pos c2]
     exact ⟨fun h=>absurd h ne1,fun h=>by
      rcases h with h | h
      ·have:=(hB h p (List.mem_cons_self ..)).1;omega
      ·exact absurd h c1⟩
    ·rw [if_neg c2]
     by_cases c3:(z:Int) - rd ≤ ((i:Int) - p.1) % (z:Int)
     ·rw [if_pos c3]
      exact ⟨fun h=>absurd h ne2,fun h=>by
       rcases h with h | h
       ·have:=(hB h p (List.mem_cons_self ..)).2;omega
       ·exact absurd h c1⟩
     ·rw [if_neg c3];simp [c1]
  have hl':(Is z rd fd l p).length=z:=by unfold Is;rw [Ye,Ye,Zf,hl]
  rw [List.foldl_cons,Po hz hi ps _ hl' (fun q hq=>hp q (List.mem_cons_of_mem _ hq)) pw2 (fun h q hq=>?_),key]
  ·simp only [List.mem_cons,exists_eq_or_imp,or_assoc]
  ·rcases key.mp h with h | h
   ·exact hB h q (List.mem_cons_of_mem _ hq)
   ·exact (pw1 q hq).clear (by omega) (hp q (List.mem_cons_of_mem _ hq)).1 h
theorem vE {z:Nat} (hz:0 < z) {rd fd:Nat} {ps:List (Int × Int)} (hp:∀ p ∈ ps,1 ≤ p.2∧p.2 + fd + rd ≤ z) (pw:ps.Pairwise (fQ z rd fd)) {i:Nat} (hi:i < z) :
  (Yh z rd fd ps)[i]? = some (Str.ofString "free")↔∃ p ∈ ps,((i:Int) - p.1) % (z:Int) < p.2:=by
 have hn:¬ (List.replicate z (Str.ofString "stop"))[i]? = some (Str.ofString "free"):=by
  rw [List.getElem?_replicate,if_pos hi]
  decide +kernel
 unfold Yh
 rw [Po hz hi ps _ (List.length_replicate ..) hp pw (fun h=>absurd h hn)]
 exact ⟨fun h=>h.resolve_left hn,.inr⟩
noncomputable def qS (d:WD) (fr:Nat→Bool) (c:Nat→Int) (x:Int):Nat→Int
 | 0=>x
 | k + 1=>if fr k=true then qS d fr c x k + c k - Qn d (qS d fr c x k + c k) else qS d fr c x k + c k
theorem RD {d:WD} {y:Int} (hy:0 ≤ y):y - Qn d y=if d.k=1 then 0 else max (y - 1) 0:=by
 unfold Qn
 match hk:d.k with
 | 0=>simp only [if_neg (show ¬ (0:Nat)=1 by decide)];split <;> omega
 | 1=>simp
 | k + 2=>simp only [if_neg (show ¬ k + 2=1 by omega)];split <;> omega
theorem Af {d:WD} {fr:Nat→Bool} {c:Nat→Int} {x:Int} {k:Nat} (h:0 ≤ qS d fr c x k + c k):qS d fr c x (k + 1)=if fr k=true then (if d.k=1 then 0 else max (qS d fr c x k + c k - 1) 0) else qS d fr c x k + c k:=by
 show (if fr k=true then _ else _)=_
 rw [RD h]
theorem sy {d:WD} {fr:Nat→Bool} {c:Nat→Int} (hc:∀ k,0 ≤ c k) {x:Int} (hx:0 ≤ x):∀ k,0 ≤ qS d fr c x k
 | 0=>hx
 | k + 1=>by
  have:=sy (d:=d) (fr:=fr) hc hx k
  have:=hc k
  rw [Af (by omega)]
  split
  ·split <;> omega
  ·omega
theorem lP {d:WD} {fr:Nat→Bool} {c:Nat→Int} (hc:∀ k,0 ≤ c k∧c k ≤ 1000000000) {x:Int} (hx:0 ≤ x):∀ k:Nat,qS d fr c x k ≤ x + 1000000000 * (k:Int)
 | 0=>by show x ≤ x + 1000000000 * ((0:Nat):Int);omega
 | k + 1=>by
  have h1:=lP (d:=d) (fr:=fr) hc hx k
  have h2:=sy (d:=d) (fr:=fr) (fun k=>(hc k).1) hx k
  have h3:=hc k
  rw [Af (by omega)]
  split
  ·split <;> omega
  ·omega
theorem Hy {d:WD} {fr:Nat→Bool} {c:Nat→Int} (hc:∀ k,0 ≤ c k):∀ k:Nat,(∃ D M:Int,0 ≤ M∧∀ x,0 ≤ x→qS d fr c x k=max (x + D) M)∨(∃ M:Int,0 ≤ M∧∀ x,0 ≤ x→qS d fr c x k=M)
 | 0=>.inl ⟨0,0,by omega,fun x hx=>by show x=max (x + 0) 0;omega⟩
 | k + 1=>by
  have hk:=hc k
  rcases Hy (d:=d) (fr:=fr) hc k with ⟨D,M,hM,h⟩ | ⟨M,hM,h⟩
  ·by_cases f:fr k=true
   ·by_cases g:d.k=1
    ·refine .inr ⟨0,by omega,fun x hx=>?_⟩
     have:=h x hx
     rw [Af (by omega),if_pos f,if_pos g]
    ·refine .inl ⟨D + c k - 1,max (M + c k - 1) 0,by omega,fun x hx=>?_⟩
     have:=h x hx
     rw [Af (by omega),if_pos f,if_neg g,this]
     omega
   ·refine .inl ⟨D + c k,M + c k,by omega,fun x hx=>?_⟩
    have:=h x hx
    rw [Af (by omega),if_neg f,this]
    omega
  ·by_cases f:fr k=true
   ·by_cases g:d.k=1
    ·refine .inr ⟨0,by omega,fun x hx=>?_⟩
     have:=h x hx
     rw [Af (by omega),if_pos f,if_pos g]
    ·refine .inr ⟨max (M + c k - 1) 0,by omega,fun x hx=>?_⟩
     have:=h x hx
     rw [Af (by omega),if_pos f,if_neg g,this]
   ·refine .inr ⟨M + c k,by omega,fun x hx=>?_⟩
    have:=h x hx
    rw [Af (by omega),if_neg f,this]
noncomputable def Zl (d:WD) (fr:Nat→Bool) (c:Nat→Int) (z:Nat):Int:=qS d fr c 0 z
noncomputable def cf (d:WD) (fr:Nat→Bool) (c:Nat→Int) (z:Nat):Int:=qS d fr c (Zl d fr c z) z - Zl d fr c z
theorem Ir {d:WD} {fr:Nat→Bool} {c:Nat→Int} (hc:∀ k,0 ≤ c k) (z:Nat):0 ≤ Zl d fr c z∧0 ≤ cf d fr c z∧∀ k:Int,0 ≤ k→qS d fr c (Zl d fr c z + k * cf d fr c z) z=Zl d fr c z + k * cf d fr c z + cf d fr c z:=by
 have f0:0 ≤ Zl d fr c z:=sy hc (Int.le_refl 0) z
 rcases Hy (d:=d) (fr:=fr) hc z with ⟨D,M,hM,h⟩ | ⟨M,hM,h⟩
 ·have h1:Zl d fr c z=max (0 + D) M:=h 0 (Int.le_refl 0)
  have h2:cf d fr c z=max (Zl d fr c z + D) M - Zl d fr c z:=by unfold cf;rw [h _ f0]
  by_cases hD:0 ≤ D
  ·have hg:cf d fr c z=D:=by omega
   refine ⟨f0,by omega,fun k hk=>?_⟩
   have:0 ≤ k * cf d fr c z:=Int.mul_nonneg hk (by omega)
   rw [h _ (by omega)]
   omega
  ·have hg:cf d fr c z=0:=by omega
   refine ⟨f0,by omega,fun k hk=>?_⟩
   rw [hg,Int.mul_zero,h _ (by omega)]
   omega
 ·have h1:Zl d fr c z=M:=h 0 (Int.le_refl 0)
  have hg:cf d fr c z=0:=by unfold cf;rw [h _ f0,h1];omega
  refine ⟨f0,by omega,fun k hk=>?_⟩
  rw [hg,Int.mul_zero,h _ (by omega),h1]
  omega
theorem qF {d:WD} {fr:Nat→Bool} {c:Nat→Int} (hc:∀ k,0 ≤ c k∧c k ≤ 1000000000) (z:Nat):cf d fr c z ≤ 1000000000 * (z:Int):=by
 have:=lP (d:=d) (fr:=fr) hc (x:=Zl d fr c z) (sy (fun k=>(hc k).1) (Int.le_refl 0) z) z
 unfold cf
 omega
noncomputable def ym (d:WD) (fr:Nat→Bool) (c:Nat→Int) (z:Nat) (t:Int):Int:=
 if t / (z:Int)=0 then qS d fr c 0 (t % (z:Int)).toNat else qS d fr c (Zl d fr c z + (t / (z:Int) - 1) * cf d fr c z) (t % (z:Int)).toNat
end My
namespace My
open PySem L2
noncomputable abbrev wv (Pt:Addr) (H:Hp):Prop:=Tab H Pt (HR (dy ac)) og
noncomputable def Clo (H:Hp) (f l:Addr) (xs:List Int):Prop:=∃ cl c',H f=some (.ext (cu f og (nQ (dy ac)) (eQ (dy ac)) (zO (dy ac)) [(Str.ofString "kept",cl)] c'))∧H c'=some (.ext (Sx c' og))∧H cl=some (.ext (EA cl (.ref l)))∧H l=some (.lst (xs.map V.int))
noncomputable def Nr (Pt:Addr):Sp:=fun vs H Q _=>∃ a xs,vs=[.ref a]∧H a=some (.lst (xs.map V.int))∧wv Pt H∧∀ f l H',H l=none→Ng Pt H H'→(NoT H→NoT H')→wv Pt H'→Clo H' f l xs→Q (.ref f) H'
section
variable {P:Program} {w:World} {K:PySem.W.Frag} {mg:Str→Option Value} {base:Heap} {t:Adr}
theorem Lw (T:Txt w K mg t) {c Pt:Addr} (hc:t.zc.code=.ref c) (hC:PySem.W.CodeHd base c Pt) (hB:base.BuiltinsAt mg Pt):Eb P w K mg base CX0 1 t.fh t.zc ["comings"] (Nr Pt):=by
 refine T.gh.okLam (y := "kept") (i:=1) (cc:=fun L=>L + 1) (params:=nQ (dy ac)) (lbody:=eQ (dy ac)) (lscope:=zO (dy ac)) (lpos:=HR (dy ac)) Xo (fun vs H Q E h=>?_) rfl hc hC hB rfl rfl (fun _=>rfl) (fun _ _=>rfl) (fun _ _=>rfl) (fun cdv A outer s H vs Q E hr h=>?_)
 ·obtain ⟨a,xs,rfl,_⟩:=h;rfl
 obtain ⟨a,xs,rfl,ha,tb,q⟩:=h
 refine ⟨_,(Ab (i:=1) Xo.nd rfl (Or.inr rfl) (Ai Jx rfl T.Sz sr (bb (pv 0) gb))),?_⟩
 (walk_at "RD")
 refine ⟨_,.inl (SqL.of ha),fun l hl=>⟨tb.step (qb hl),fun g cl c' H2 sm nt tb2 eg ec el=>?_⟩⟩
 have tb1:wv Pt (upd H l (.lst (xs.map V.int))):=tb.step (qb hl)
 refine q g l H2 hl ((qb hl).p.trans sm) (fun n=>nt n.upd) tb2 ⟨cl,c',eg,ec,el,sm _ _ (tb1.ne fb fun _ z=>by cases z) fb⟩
end
noncomputable def Ni (H H':Hp):Prop:=∀ b o,(∀ ps,o ≠ HO.tbl ps)→H b=some o→H' b=some o
theorem Ep {H H':Hp} {Pt:Addr} {pos:Pos} {q:Str} (tb:Tab H Pt pos q) (s:Ng Pt H H'):Ni H H':=fun b o n e=>s b o (tb.ne e n) e
theorem Vw {H H':Hp} (s:Zb H H'):Ni H H':=fun b o _ e=>s b o e
theorem Ni.trans {H H1 H2:Hp} (a:Ni H H1) (b:Ni H1 H2):Ni H H2:=fun c o n h=>b c o n (a c o n h)
theorem Ni.lst {H H':Hp} (s:Ni H H') {b:Addr} {xs:List V} (e:H b=some (.lst xs)):H' b=some (.lst xs):=s b _ (fun _ z=>by cases z) e
theorem Ni.tup {H H':Hp} (s:Ni H H') {b:Addr} {xs:List V} (e:H b=some (.tup xs)):H' b=some (.tup xs):=s b _ (fun _ z=>by cases z) e
theorem Ni.ins {H H':Hp} (s:Ni H H') {b C dx:Addr} {fs:List (Str × V)} (e:H b=some (.ins C dx fs)):H' b=some (.ins C dx fs):=s b _ (fun _ z=>by cases z) e
theorem Ni.dK {H H':Hp} (s:Ni H H') {b:Addr} {kvs:List (Key × V)} (e:H b=some (.dK kvs)):H' b=some (.dK kvs):=s b _ (fun _ z=>by cases z) e
theorem fw {K:PySem.W.Frag} {a:Addr} {ns:List Int} {H H':Hp} (S:Sc K a ns H) (s:Ni H H') (nt:NoT H'):Sc K a ns H':=by
 refine ⟨?_,nt⟩
 rcases S.sq with ⟨o,h⟩ | h
 ·exact .inl ⟨o,s _ _ (fun _ z=>by cases z) h⟩
 ·exact .inr h
theorem Uc.sameT {t:Adr} {H H':Hp} {c:Addr} {n:Int} {ds:List WD} (h:Uc t H c n ds) (s:Ni H H'):Uc t H' c n ds:=by
 obtain ⟨h0,dx,wl,nd,e1,⟨as,w1,w2,al⟩,e3⟩:=h
 refine ⟨h0,dx,wl,nd,s.ins e1,⟨as,s.lst w1,w2,fun i b d hb hd=>?_⟩,s.dK e3⟩
 obtain ⟨k,dxb,eb⟩:=al i b d hb hd
 exact ⟨k,dxb,s.ins eb⟩
theorem LO.sameT {H H':Hp} {p:Addr} {sp:List SD} (h:LO H p (List.map sdO sp)) (s:Ni H H'):LO H' p (List.map sdO sp):=by
 obtain ⟨qs,l1,l2⟩:=h
 refine ⟨qs,s.lst l1,l2.1,fun i q o hq ho=>?_⟩
 have e:=l2.2 i q o hq ho
 obtain ⟨d,_,rfl⟩:=qc ho
 exact s.tup e
theorem NK.sameT {H H':Hp} {p:Addr} {ds:List WD} {f:WD→List V} {n:Nat} (h:NK H p ds (fun d=>.lst (f d)) n) (s:Ni H H'):NK H' p ds (fun d=>.lst (f d)) n:=by
 obtain ⟨rs,hl,hp,al⟩:=h
 exact ⟨rs,hl,s.dK hp,fun i r d h1 h2=>s.lst (al i r d h1 h2)⟩
theorem xi.sameT {t:Adr} {H H':Hp} {a c:Addr} {n:Int} {ds:List WD} {z:Nat} {sp:List SD} (h:xi t H a c n ds z sp) (s:Ni H H'):xi t H' a c n ds z sp:=by
 obtain ⟨dx,p,lm,un,e,C,L,N1,N2⟩:=h.at_
 exact ⟨dx,p,lm,un,s.ins e,C.sameT s,L.sameT s,N1.sameT s,N2.sameT s⟩
section
variable {w:World} {K:PySem.W.Frag} {mg:Str→Option Value} {t:Adr} {H:Hp} {a c dx p lm un:Addr} {z:Int}
theorem rm (T:Txt w K mg t) (e:H a=some (.ins t.ge dx (plF c z p lm un))):wj K H a (Str.ofString "crossing") (.ref c):=⟨_,dx,_,e,T.Li,T.mj,yd eF 0 (Jp ..) (by decide +kernel) rfl⟩
theorem Ej (T:Txt w K mg t) (e:H a=some (.ins t.ge dx (plF c z p lm un))):wj K H a (Str.ofString "size") (.int z):=⟨_,dx,_,e,T.Li,T.ap,yd eF 1 (Jp ..) (by decide +kernel) rfl⟩
end
theorem NK.get {H:Hp} {p:Addr} {ds:List WD} {f:WD→HO} (h:NK H p ds f ds.length) (nd:(ds.map (·.name)).Nodup) {i:Nat} {d:WD} (hd:ds[i]? = some d):∃ r,zl H p (.str d.name) (some (.ref r))∧H r=some (f d):=by
 obtain ⟨rs,hl,hp,al⟩:=h
 have hi:i < rs.length:=by rw [hl];exact (List.getElem?_eq_some_iff.mp hd).1
 have hr:rs[i]? = some rs[i]:=List.getElem?_eq_getElem hi
 refine ⟨rs[i],?_,al i _ d hr hd⟩
 have:=zl.k (k:=Sum.inr d.name) hp
 rw [dz nd hd hr] at this
 exact this
noncomputable def ir (z:Nat) (sp:List SD) (d:WD) (turn:Int):Str:=((ao z sp d)[(turn % (z:Int)).toNat]?).getD (Str.ofString "")
noncomputable def Ql (z:Nat) (sp:List SD) (d:WD) (turn:Int):Bool:=decide (ir z sp d turn=Str.ofString "free")
noncomputable def mx (t:Adr):Sp:=fun vs H Q _=>∃ (pl c:Addr) (n:Int) (ds:List WD) (z:Nat) (sp:List SD) (i:Nat) (d:WD) (turn:Int),vs=[.ref pl,.str d.name,.int turn]∧xi t H pl c n ds z sp∧0 < z∧ds[i]? = some d∧Q (.str (ir z sp d turn)) H
noncomputable def Jy (t:Adr):Sp:=fun vs H Q _=>∃ (pl c:Addr) (n:Int) (ds:List WD) (z:Nat) (sp:List SD) (i:Nat) (d:WD) (turn:Int),vs=[.ref pl,.str d.name,.int turn]∧xi t H pl c n ds z sp∧0 < z∧ds[i]? = some d∧Q (.bl (Ql z sp d turn)) H
noncomputable def Pb (cs:List Int) (k:Nat):Int:=cs.getD (k % cs.length) 0
structure QIn (t:Adr) (Pt:Addr) (H:Hp) (pl c:Addr) (n:Int) (ds:List WD) (z:Nat) (sp:List SD) (i:Nat) (d:WD) (cm:Addr) (cs:List Int):Prop where
 pl:xi t H pl c n ds z sp
 z0:0 < z∧z ≤ 1000
 dd:ds[i]? = some d
 cm:H cm=some (.lst (cs.map V.int))
 cl:cs.length=z
 cb:∀ x ∈ cs,0 ≤ x∧x ≤ 1000000000
 tb:wv Pt H
theorem QIn.step {t:Adr} {Pt:Addr} {H H':Hp} {pl c:Addr} {n:Int} {ds:List WD} {z:Nat} {sp:List SD} {i:Nat} {d:WD} {cm:Addr} {cs:List Int} (h:QIn t Pt H pl c n ds z sp i d cm cs) (s:Ng Pt H H') (tb:wv Pt H'):QIn t Pt H' pl c n ds z sp i d cm cs:=
 ⟨h.pl.sameT (Ep h.tb s),h.z0,h.dd,(Ep h.tb s).lst h.cm,h.cl,h.cb,tb⟩
theorem An {cs:List Int} (h:∀ x ∈ cs,0 ≤ x∧x ≤ 1000000000) (k:Nat):0 ≤ Pb cs k∧Pb cs k ≤ 1000000000:=by
 unfold Pb
 rw [List.getD_eq_getElem?_getD]
 cases e:cs[k % cs.length]? with
 | none=>exact ⟨by show (0:Int) ≤ 0;omega,by show (0:Int) ≤ _;omega⟩
 | some v=>exact h v (List.mem_of_getElem? e)
theorem ZF {cs:List Int} (h:0 < cs.length) (k:Int):atI (cs.map V.int) (k % (cs.length:Int))=some (.int (cs.getD (k % (cs.length:Int)).toNat 0)):=by
 have hk:0 ≤ k % (cs.length:Int)∧k % (cs.length:Int) < (cs.length:Int):=⟨Int.emod_nonneg _ (by omega),Int.emod_lt_of_pos _ (by omega)⟩
 have hj:(k % (cs.length:Int)).toNat < cs.length:=by omega
 have e:=jc (xs:=cs.map V.int) (j:=(k % (cs.length:Int)).toNat) (v:=.int (cs.getD (k % (cs.length:Int)).toNat 0)) (by rw [List.getElem?_map,List.getD_eq_getElem?_getD,List.getElem?_eq_getElem hj] <;> rfl)
 rwa [Int.toNat_of_nonneg hk.1] at e
noncomputable abbrev frQ (z:Nat) (sp:List SD) (d:WD):Nat→Bool:=fun k=>Ql z sp d k
noncomputable def qm (t:Adr) (Pt:Addr):Sp:=fun vs H Q _=>∃ (pl c:Addr) (n:Int) (ds:List WD) (z:Nat) (sp:List SD) (i:Nat) (d:WD) (cm:Addr) (cs:List Int) (x:Int) (m:Nat),vs=[.ref pl,.str d.name,.ref cm,.int x,.int m]∧QIn t Pt H pl c n ds z sp i d cm cs∧m ≤ z ∧
 ∀ H',Ng Pt H H'→(NoT H→NoT H')→wv Pt H'→Q (.int (qS d (frQ z sp d) (Pb cs) x m)) H'
noncomputable def mv (t:Adr) (Pt:Addr):Sp:=fun vs H Q _=>∃ (pl c:Addr) (n:Int) (ds:List WD) (z:Nat) (sp:List SD) (i:Nat) (d:WD) (cm:Addr) (cs:List Int),vs=[.ref pl,.str d.name,.ref cm]∧QIn t Pt H pl c n ds z sp i d cm cs ∧
 ∀ H',Ng Pt H H'→(NoT H→NoT H')→wv Pt H'→Q (.int (cf d (frQ z sp d) (Pb cs) z)) H'
noncomputable def Rz (t:Adr) (Pt:Addr):Sp:=fun vs H Q _=>∃ (pl c:Addr) (n:Int) (ds:List WD) (z:Nat) (sp:List SD) (i:Nat) (d:WD) (cm:Addr) (cs:List Int) (turn:Int),vs=[.ref pl,.str d.name,.ref cm,.int turn]∧QIn t Pt H pl c n ds z sp i d cm cs∧0 ≤ turn ∧
 ∀ H',Ng Pt H H'→(NoT H→NoT H')→wv Pt H'→Q (.int (ym d (frQ z sp d) (Pb cs) z turn)) H'
section
variable {P:Program} {w:World} {K:PySem.W.Frag} {mg:Str→Option Value} {base:Heap} {t:Adr}
theorem UC (T:Txt w K mg t):Eb P w K mg base CX0 3 t.Xp t.Np ["plan","name","turn"] (mx t):=by
 have G_Crossing_called:Eb P w K mg base CX0 2 t.Ib t.Nb ["self","name"] (Yf t):=nh T
 refine T.Uv.ok xD (fun vs H Q E h=>?_) (fun cdv A outer s H vs Q E hr h=>?_)
 ·obtain ⟨pl,c,n,ds,z,sp,i,d,turn,rfl,_⟩:=h;rfl
 obtain ⟨pl,c,n,ds,z,sp,i,d,turn,rfl,PA,hz,hd,q⟩:=h
 obtain ⟨dx,p,lm,un,hpl,C,_,NL,_⟩:=PA.at_
 obtain ⟨⟨hnd,_⟩,dxc,wl,nd,e1,_,_⟩:=id C
 have hu:=uz hr
 refine ⟨_,(db (Cc (wd (Vb (pv 0) rfl) T.Jb T.Yb G_Crossing_called hr T.Xb .nil zb (bb (pv 1) gb)))
   (ib (Db (ae Zd (wo hu (Vb (pv 0) rfl) (pv 1) (fun _ _=>rfl)) (Gb Ce (pv 2) (Vb (pv 0) rfl)) (fun _ _=>rfl))))),?_⟩
 (walk_at "RD")
 refine ⟨_,rm T hpl,_,rfl,_,_,e1,Dw _ _ _ (by decide +kernel),c,n,ds,i,d,rfl,C,hd,fun a W=>?_⟩
 obtain ⟨r,hg,hr'⟩:=NL.get hnd hd
 have h0:=Int.emod_nonneg turn (show (z:Int) ≠ 0 by omega)
 have h1:=Int.emod_lt_of_pos turn (show (0:Int) < z by omega)
 have hlen:(ao z sp d).length=z:=ji _ _ _ _
 have hj:(turn % (z:Int)).toNat < (ao z sp d).length:=by rw [hlen];omega
 (walk_at "RD")
 refine ⟨_,BA T hpl,_,rfl,_,hg,_,Ej T hpl,_,rfl,by omega,_,rfl,_,SqL.of hr',.str (ir z sp d turn),?_,q⟩
 have e:=jc (xs:=Rb (ao z sp d)) (j:=(turn % (z:Int)).toNat) (v:=.str (ir z sp d turn)) (by unfold Rb ir;rw [List.getElem?_map,List.getElem?_eq_getElem hj];rfl)
 rwa [Int.toNat_of_nonneg h0] at e
theorem zF (T:Txt w K mg t):Eb P w K mg base CX0 4 t.yw t.Rw ["plan","name","turn"] (Jy t):=by
 have G_colour:Eb P w K mg base CX0 3 t.Xp t.Np ["plan","name","turn"] (mx t):=UC T
 refine T.iA.ok KL (fun vs H Q E h=>?_) (fun cdv A outer s H vs Q E hr h=>?_)
 ·obtain ⟨pl,c,n,ds,z,sp,i,d,turn,rfl,_⟩:=h;rfl
 obtain ⟨pl,c,n,ds,z,sp,i,d,turn,rfl,PA,hz,hd,q⟩:=h
 refine ⟨_,(ib (Db (Se uj (wb G_colour hr rfl T.WG T.Uv.kp T.sI .nil zb (bb (pv 0) (bb (pv 1) (bb (pv 2) gb)))) yc (wc _)))),?_⟩
 (walk_at "RD")
 refine ⟨pl,c,n,ds,z,sp,i,d,turn,rfl,PA,hz,hd,rfl,?_⟩
 rw [show decide (V.str (ir z sp d turn)=V.str (Str.ofString "free"))=Ql z sp d turn by unfold Ql;simp]
 exact q
theorem Tq (T:Txt w K mg t) {cd Pt:Addr} (hc:t.zc.code=.ref cd) (hC:PySem.W.CodeHd base cd Pt) (hB:base.BuiltinsAt mg Pt):Eb P w K mg base CX0 5 t.Hc t.Ic ["plan","name","comings","standing","turns"] (qm t Pt):=by
 have G_Crossing_called:Eb P w K mg base CX0 4 t.Ib t.Nb ["self","name"] (Yf t):=(nh T).mono (by decide)
 have G_coming_by:Eb P w K mg base CX0 4 t.fh t.zc ["comings"] (Nr Pt):=(Lw T hc hC hB).mono (by decide)
 have G_free:Eb P w K mg base CX0 4 t.yw t.Rw ["plan","name","turn"] (Jy t):=zF T
 have V_Way_goes:wB P w K mg base CX0 4 (isW t) "goes" ["self","many"] (Pk t):=Xm (oJ T) (by decide)
 refine T.Ob.ok Mb (fun vs H Q E h=>?_) (fun cdv A outer s H vs Q E hr h=>?_)
 ·obtain ⟨pl,c,n,ds,z,sp,i,d,cm,cs,x,m,rfl,_⟩:=h;rfl
 obtain ⟨pl,c,n,ds,z,sp,i,d,cm,cs,x,m,rfl,I,hm,q⟩:=h
 obtain ⟨dx,p,lm,un,hpl,C,_,NL,_⟩:=I.pl.at_
 obtain ⟨⟨hnd,_⟩,dxc,wl,nd,e1,_,_⟩:=id C
 refine ⟨_,(db (Ab (i:=5) Mb.nd rfl (Or.inl rfl) (wd (Vb (pv 0) rfl) T.Jb T.Yb G_Crossing_called hr T.Xb .nil zb (bb (pv 1) gb)))
   (db (Ab (i:=6) Mb.nd rfl (Or.inl rfl) (wb G_coming_by hr rfl T.jm T.gh.kp T.br .nil zb (bb (pv 2) gb)))
   (db (ee PassesOwn.never rfl (qe rfl T.Bg (bb (pv 4) gb)) (yb (i:=7) Mb.nd rfl (Or.inl rfl)) (db (Pz (i:=3) Mb.nd rfl (Or.inl rfl) (Fz (q:=og) (params:=nQ (dy ac)) (body:=eQ (dy ac)) (scope:=zO (dy ac)) (pv 6) Uo hr (bb (pv 7) gb) (fun _ _ _ _ _=>rfl) (fun _ _ _ _ _=>⟨_,(ae Zd (pv 1) (Gb Ce (pv 0) (gc Dc rfl T.Nm Xc (bb (pv 1) gb))) (fun _ _=>rfl)),by first | rfl | (dsimp only [vt];done) | (dsimp only [vt];exact rfl)⟩)) RJ)
   (ib (ye (dj (wb G_free hr rfl T.FJ T.iA.kp T.OJ .nil zb (bb (pv 0) (bb (pv 1) (bb (pv 7) gb))))) (ib (Pz (i:=3) Mb.nd rfl (Or.inl rfl) (JA (pv 5) V_Way_goes hr zb (bb (pv 3) gb)) eK)) ic))))
   (ib (Db (pv 3)))))),?_⟩
 simp only [Hb]
 refine fc (fun σ' H'=>H'=H∧∃ wa,Wd t H wa d∧σ'=[some (.ref pl),some (.str d.name),some (.ref cm),some (.int x),some (.int (m:Int)),some (.ref wa),none,none]) (fun D' hD _ _ _=>?_) ?_
 ·(walk_at "RD")
  exact ⟨_,rm T hpl,_,rfl,_,_,e1,Dw _ _ _ (by decide +kernel),c,n,ds,i,d,rfl,C,I.dd,fun a W=>hD _ _ ⟨rfl,a,W,rfl⟩⟩
 rintro σ1 H1 ⟨rfl,wa,W,rfl⟩
 simp only [Hb]
 refine fc (fun σ' H'=>Ng Pt H1 H'∧(NoT H1→NoT H')∧wv Pt H'∧∃ f l,Clo H' f l cs∧σ'=[some (.ref pl),some (.str d.name),some (.ref cm),some (.int x),some (.int (m:Int)),some (.ref wa),some (.ref f),none]) (fun D' hD _ _ _=>?_) ?_
 ·(walk_at "RD")
  exact ⟨cm,cs,rfl,I.cm,I.tb,fun f l H' _ sm nt tb k=>hD _ _ ⟨sm,nt,tb,f,l,k,rfl⟩⟩
 rintro σ2 H2 ⟨s2,n2,tb2,f,l,kf,rfl⟩
 have I2:=I.step s2 tb2
 have W2:Wd t H2 wa d:=⟨W.1,W.2.imp fun dx e=>(Ep I.tb s2).ins e⟩
 have hz:=I.z0
 (walk_at "RD")
 refine ⟨by omega,by omega,?_⟩
 refine jj.range (fun k σ H'=>H'=H2∧∃ x7,σ=[some (.ref pl),some (.str d.name),some (.ref cm),some (.int (qS d (frQ z sp d) (Pb cs) x k)),some (.int (m:Int)),some (.ref wa),some (.ref f),x7]) ⟨rfl,_,rfl⟩ ?_ ?_
 ·rintro k σ H' hk ⟨rfl,x7,rfl⟩
  have hk':k < z:=by have:k < (m:Int).toNat:=hk;omega
  obtain ⟨cl,c',c1,c2,c3,c4⟩:=kf
  have hcl:l ≠ cl:=Ag c4 c3 fun z=>by cases z
  have hl:SqL K (ju H' cl) l (List.map V.int cs):=SqL.of (by rw [Ci hcl];exact c4)
  have hpos:0 < cs.length:=by rw [I.cl];omega
  have hcome:cs.getD ((k:Int) % (cs.length:Int)).toNat 0=Pb cs k:=by
   unfold Pb
   rw [show ((k:Int) % (cs.length:Int)).toNat=k % cs.length by rw [← Int.natCast_emod,Int.toNat_natCast]]
  simp only [Ak,Hb,List.set_cons_succ,List.set_cons_zero,Int.zero_add]
  refine fc (fun σ' H''=>H''=H'∧σ'=[some (.ref pl),some (.str d.name),some (.ref cm),some (.int (qS d (frQ z sp d) (Pb cs) x k + Pb cs k)),some (.int (m:Int)),some (.ref wa),some (.ref f),some (.int (k:Int))]) (fun D' hD _ _ _=>?_) ?_
  ·(walk_at "RD")
   refine ⟨⟨cl,c',c1⟩,cl,c',c1,c2,_,c3,l,rfl,_,.inl hl,by rw [List.length_map];omega,l,rfl,_,hl,_,by rw [List.length_map];exact ZF hpos _,_,_,rfl,rfl,?_⟩
   rw [NM c3,hcome]
   exact hD _ _ ⟨rfl,rfl⟩
  rintro σ3 H3 ⟨rfl,rfl⟩
  dsimp only
  have hst:qS d (frQ z sp d) (Pb cs) x (k + 1)=if Ql z sp d k=true then qS d (frQ z sp d) (Pb cs) x k + Pb cs k - Qn d (qS d (frQ z sp d) (Pb cs) x k + Pb cs k) else qS d (frQ z sp d) (Pb cs) x k + Pb cs k:=rfl
  refine Ac (Ql z sp d k) (fun Q hQ=>?_) (fun hb=>?_) (fun hb=>?_)
  ·(walk_at "RD")
   exact ⟨pl,c,n,ds,z,sp,i,d,_,rfl,I2.pl,by omega,I2.dd,_,rfl,hQ⟩
  ·rw [if_pos hb] at hst
   obtain ⟨dxw,ew⟩:=W2.2
   (walk_at "RD")
   refine ⟨_,dxw,_,ew,⟨d.k,W2.1,rfl⟩,oP (by decide +kernel),wa,d,_,rfl,W2,rfl,_,_,rfl,rfl,rfl,?_,_,rfl⟩
   rw [hst]
  ·rw [if_neg (by rw [hb];decide)] at hst
   (walk_at "RD")
   exact ⟨hst.symm,_,rfl⟩
 ·rintro σ H' ⟨rfl,x7,rfl⟩
  (walk_at "RD")
  exact q _ s2 n2 tb2
theorem AA (T:Txt w K mg t) {cd Pt:Addr} (hc:t.zc.code=.ref cd) (hC:PySem.W.CodeHd base cd Pt) (hB:base.BuiltinsAt mg Pt):Eb P w K mg base CX0 6 t.Yi t.aj ["plan","name","comings"] (mv t Pt):=by
 have G_standing_after:Eb P w K mg base CX0 5 t.Hc t.Ic ["plan","name","comings","standing","turns"] (qm t Pt):=Tq T hc hC hB
 refine T.Wj.ok Pp (fun vs H Q E h=>?_) (fun cdv A outer s H vs Q E hr h=>?_)
 ·obtain ⟨pl,c,n,ds,z,sp,i,d,cm,cs,rfl,_⟩:=h;rfl
 obtain ⟨pl,c,n,ds,z,sp,i,d,cm,cs,rfl,I,q⟩:=h
 obtain ⟨dx,p,lm,un,hpl,_⟩:=I.pl.at_
 refine ⟨_,(db (Ab (i:=3) Pp.nd rfl (Or.inl rfl) (wb G_standing_after hr rfl T.bc T.Ob.kp T.dc .nil zb (bb (pv 0) (bb (pv 1) (bb (pv 2) (bb lb (bb (Vb (pv 0) rfl) gb)))))))
   (ib (Db (Gb Oe (wb G_standing_after hr rfl T.bc T.Ob.kp T.dc .nil zb (bb (pv 0) (bb (pv 1) (bb (pv 2) (bb (pv 3) (bb (Vb (pv 0) rfl) gb)))))) (pv 3))))),?_⟩
 simp only [Hb]
 refine fc (fun σ' H'=>Ng Pt H H'∧(NoT H→NoT H')∧wv Pt H'∧σ'=[some (.ref pl),some (.str d.name),some (.ref cm),some (.int (Zl d (frQ z sp d) (Pb cs) z))]) (fun D' hD _ _ _=>?_) ?_
 ·(walk_at "RD")
  exact ⟨_,Ej T hpl,pl,c,n,ds,z,sp,i,d,cm,cs,0,z,rfl,I,Nat.le_refl _,fun H' s1 n1 t1=>hD _ _ ⟨s1,n1,t1,rfl⟩⟩
 rintro σ1 H1 ⟨s1,n1,t1,rfl⟩
 have I1:=I.step s1 t1
 (walk_at "RD")
 refine ⟨_,Ej T ((Ep I.tb s1).ins hpl),pl,c,n,ds,z,sp,i,d,cm,cs,_,z,rfl,I1,Nat.le_refl _,fun H' s2 n2 t2=>⟨_,rfl,?_⟩⟩
 exact q H' (s1.trans s2) (fun n=>n2 (n1 n)) t2
theorem gI (T:Txt w K mg t) {cd Pt:Addr} (hc:t.zc.code=.ref cd) (hC:PySem.W.CodeHd base cd Pt) (hB:base.BuiltinsAt mg Pt):Eb P w K mg base CX0 7 t.Bo t.bo ["plan","name","comings","turn"] (Rz t Pt):=by
 have G_standing_after:Eb P w K mg base CX0 6 t.Hc t.Ic ["plan","name","comings","standing","turns"] (qm t Pt):=(Tq T hc hC hB).mono (by decide)
 have G_grows:Eb P w K mg base CX0 6 t.Yi t.aj ["plan","name","comings"] (mv t Pt):=AA T hc hC hB
 refine T.Sj.ok Of (fun vs H Q E h=>?_) (fun cdv A outer s H vs Q E hr h=>?_)
 ·obtain ⟨pl,c,n,ds,z,sp,i,d,cm,cs,turn,rfl,_⟩:=h;rfl
 obtain ⟨pl,c,n,ds,z,sp,i,d,cm,cs,turn,rfl,I,ht,q⟩:=h
 obtain ⟨dx,p,lm,un,hpl,_⟩:=I.pl.at_
 have hz:=I.z0
 have m0:=Int.emod_nonneg turn (show (z:Int) ≠ 0 by omega)
 have m1:=Int.emod_lt_of_pos turn (show (0:Int) < z by omega)
 have hr0:=Int.ediv_nonneg ht (show (0:Int) ≤ z by omega)
 obtain ⟨m,hm⟩:∃ m:Nat,turn % (z:Int)=(m:Nat):=⟨(turn % (z:Int)).toNat,by omega⟩
 have hqe:ym d (frQ z sp d) (Pb cs) z turn=if turn / (z:Int)=0 then qS d (frQ z sp d) (Pb cs) 0 m else qS d (frQ z sp d) (Pb cs) (Zl d (frQ z sp d) (Pb cs) z + (turn / (z:Int) - 1) * cf d (frQ z sp d) (Pb cs) z) m:=by
  unfold ym
  rw [hm,Int.toNat_natCast]
 refine ⟨_,(db (Fo (gc Gq rfl T.aA Hm (bb (pv 3) (bb (Vb (pv 0) rfl) gb))) (Ge (K:=K) (n:=2) rfl rfl (Kb (yb (i:=4) Of.nd rfl (Or.inl rfl) (.inl rfl)) (Kb (yb (i:=5) Of.nd rfl (Or.inl rfl) (.inl rfl)) De))))
   (db (ye (kc uj (pv 4) lb (wc _)) (ib (Db (wb G_standing_after hr rfl T.bc T.Ob.kp T.dc .nil zb (bb (pv 0) (bb (pv 1) (bb (pv 2) (bb lb (bb (pv 5) gb)))))))) ic)
   (db (Ab (i:=6) Of.nd rfl (Or.inl rfl) (wb G_standing_after hr rfl T.bc T.Ob.kp T.dc .nil zb (bb (pv 0) (bb (pv 1) (bb (pv 2) (bb lb (bb (Vb (pv 0) rfl) gb)))))))
   (db (Ab (i:=7) Of.nd rfl (Or.inl rfl) (Gb Jc (pv 6) (Gb Rg (Gb Oe (pv 4) lb) (wb G_grows hr rfl T.ur T.Wj.kp T.jr .nil zb (bb (pv 0) (bb (pv 1) (bb (pv 2) gb)))))))
   (ib (Db (wb G_standing_after hr rfl T.bc T.Ob.kp T.dc .nil zb (bb (pv 0) (bb (pv 1) (bb (pv 2) (bb (pv 7) (bb (pv 5) gb)))))))))))),?_⟩
 simp only [Hb]
 refine fc (fun σ' H'=>Ng Pt H H'∧(NoT H→NoT H')∧wv Pt H'∧σ'=[some (.ref pl),some (.str d.name),some (.ref cm),some (.int turn),some (.int (turn / (z:Int))),some (.int (m:Int)),none,none]) (fun D' hD _ _ _=>?_) ?_
 ·(walk_at "RD")
  refine ⟨_,Ej T hpl,_,rfl,⟨by omega,by omega⟩,fun tp htp=>⟨_,SqT.of fb,rfl,?_⟩⟩
  refine ⟨_,_,rfl,_,_,rfl,rfl,?_⟩
  rw [hm]
  exact hD _ _ ⟨(qb htp).p,fun n=>n.upd,I.tb.step (qb htp),rfl⟩
 rintro σ1 H1 ⟨s1,n1,t1,rfl⟩
 have I1:=I.step s1 t1
 have hpl1:=(Ep I.tb s1).ins hpl
 have g0:=(Ir (d:=d) (fr:=frQ z sp d) (c:=Pb cs) (fun k=>(An I.cb k).1) z).2.1
 have g1:=qF (d:=d) (fr:=frQ z sp d) (c:=Pb cs) (fun k=>An I.cb k) z
 simp only [Hb]
 refine Ac (decide (turn / (z:Int)=0)) (fun Q hQ=>?_) (fun hb=>?_) (fun hb=>?_)
 ·(walk_at "RD")
  exact hQ
 ·rw [if_pos (of_decide_eq_true hb)] at hqe
  (walk_at "RD")
  refine ⟨pl,c,n,ds,z,sp,i,d,cm,cs,0,m,rfl,I1,by omega,fun H' s2 n2 t2=>?_⟩
  rw [← hqe]
  exact q H' (s1.trans s2) (fun n=>n2 (n1 n)) t2
 ·rw [if_neg (of_decide_eq_false hb)] at hqe
  simp only [Rk,Hb]
  refine fc (fun σ' H'=>Ng Pt H1 H'∧(NoT H1→NoT H')∧wv Pt H'∧σ'=[some (.ref pl),some (.str d.name),some (.ref cm),some (.int turn),some (.int (turn / (z:Int))),some (.int (m:Int)),some (.int (Zl d (frQ z sp d) (Pb cs) z)),none]) (fun D' hD _ _ _=>?_) ?_
  ·(walk_at "RD")
   exact ⟨_,Ej T hpl1,pl,c,n,ds,z,sp,i,d,cm,cs,0,z,rfl,I1,Nat.le_refl _,fun H' s2 n2 t2=>hD _ _ ⟨s2,n2,t2,rfl⟩⟩
  rintro σ2 H2 ⟨s2,n2,t2,rfl⟩
  have I2:=I1.step s2 t2
  simp only [Hb]
  refine fc (fun σ' H'=>Ng Pt H2 H'∧(NoT H2→NoT H')∧wv Pt H'∧σ'=[some (.ref pl),some (.str d.name),some (.ref cm),some (.int turn),some (.int (turn / (z:Int))),some (.int (m:Int)),some (.int (Zl d (frQ z sp d) (Pb cs) z)),some (.int (Zl d (frQ z sp d) (Pb cs) z + (turn / (z:Int) - 1) * cf d (frQ z sp d) (Pb cs) z))]) (fun D' hD _ _ _=>?_) ?_
  ·(walk_at "RD")
   refine ⟨pl,c,n,ds,z,sp,i,d,cm,cs,rfl,I2,fun H' s3 n3 t3=>⟨_,rfl,.inr ⟨by omega,by omega⟩,?_⟩⟩
   exact hD _ _ ⟨s3,n3,t3,rfl⟩
  rintro σ3 H3 ⟨s3,n3,t3,rfl⟩
  have I3:=I2.step s3 t3
  (walk_at "RD")
  refine ⟨pl,c,n,ds,z,sp,i,d,cm,cs,_,m,rfl,I3,by omega,fun H' s4 n4 t4=>?_⟩
  rw [← hqe]
  exact q H' (((s1.trans s2).trans s3).trans s4) (fun n=>n4 (n3 (n2 (n1 n)))) t4
end
noncomputable def gnQ (fr:Nat→Bool):Nat→Int
 | 0=>0
 | k + 1=>if fr k=true then gnQ fr k + 1 else gnQ fr k
noncomputable def smQ (c:Nat→Int):Nat→Int
 | 0=>0
 | k + 1=>smQ c k + c k
theorem KJ {d:WD} (hd:d.k ≠ 1) {fr:Nat→Bool} {c:Nat→Int} (hc:∀ k,0 ≤ c k):∀ k:Nat,∃ M:Int,0 ≤ M∧∀ x,0 ≤ x→qS d fr c x k=max (x + (smQ c k - gnQ fr k)) M
 | 0=>⟨0,by omega,fun x hx=>by show x=max (x + (0 - 0)) 0;omega⟩
 | k + 1=>by
  have hk:=hc k
  obtain ⟨M,hM,h⟩:=KJ hd (fr:=fr) hc k
  by_cases f:fr k=true
  ·refine ⟨max (M + c k - 1) 0,by omega,fun x hx=>?_⟩
   have:=h x hx
   rw [Af (by omega),if_pos f,if_neg hd,this]
   show _=max (x + (smQ c k + c k - (if fr k=true then gnQ fr k + 1 else gnQ fr k))) _
   rw [if_pos f]
   omega
  ·refine ⟨M + c k,by omega,fun x hx=>?_⟩
   have:=h x hx
   rw [Af (by omega),if_neg f,this]
   show _=max (x + (smQ c k + c k - (if fr k=true then gnQ fr k + 1 else gnQ fr k))) _
   rw [if_neg f]
   omega
theorem VD {d:WD} (hd:d.k=1) {fr:Nat→Bool} {c:Nat→Int} (hc:∀ k,0 ≤ c k):∀ n:Nat,(∃ k,k < n∧fr k=true)→∃ M:Int,0 ≤ M∧∀ x,0 ≤ x→qS d fr c x n=M
 | 0,⟨k,hk,_⟩=>absurd hk (Nat.not_lt_zero _)
 | n + 1,⟨k,hk,hf⟩=>by
  by_cases f:fr n=true
  ·refine ⟨0,by omega,fun x hx=>?_⟩
   have:=sy (d:=d) (fr:=fr) hc hx n
   have:=hc n
   rw [Af (by omega),if_pos f,if_pos hd]
  ·have hkn:k < n:=by
    rcases Nat.lt_or_ge k n with h | h
    ·exact h
    ·have:k=n:=by omega
     subst this;exact absurd hf f
   obtain ⟨M,hM,h⟩:=VD hd (fr:=fr) hc n ⟨k,hkn,hf⟩
   have hn:=hc n
   refine ⟨M + c n,by omega,fun x hx=>?_⟩
   have:=h x hx
   rw [Af (by omega),if_neg f,this]
theorem zK {d:WD} {fr:Nat→Bool} {c:Nat→Int} (hc:∀ k,0 ≤ c k) {z:Nat} (hf:∃ k,k < z∧fr k=true):cf d fr c z=if d.k=1 then 0 else (if smQ c z - gnQ fr z > 0 then smQ c z - gnQ fr z else 0):=by
 have f0:0 ≤ Zl d fr c z:=sy hc (Int.le_refl 0) z
 by_cases hd:d.k=1
 ·rw [if_pos hd]
  obtain ⟨M,hM,h⟩:=VD hd hc z hf
  unfold cf
  rw [h _ f0,show Zl d fr c z=M from h 0 (Int.le_refl 0)]
  omega
 ·rw [if_neg hd]
  obtain ⟨M,hM,h⟩:=KJ hd (fr:=fr) hc z
  have h1:Zl d fr c z=max (0 + (smQ c z - gnQ fr z)) M:=h 0 (Int.le_refl 0)
  have h2:cf d fr c z=max (Zl d fr c z + (smQ c z - gnQ fr z)) M - Zl d fr c z:=by unfold cf;rw [h _ f0]
  split <;> omega
theorem sN {d:WD} {fr:Nat→Bool} {c:Nat→Int} {x y:Int} {m:Nat} (h:qS d fr c x m=qS d fr c y m):∀ k:Nat,qS d fr c x (m + k)=qS d fr c y (m + k)
 | 0=>h
 | k + 1=>by
  have ih:=sN h k
  show (if fr (m + k)=true then qS d fr c x (m + k) + c (m + k) - Qn d (qS d fr c x (m + k) + c (m + k)) else qS d fr c x (m + k) + c (m + k))=(if fr (m + k)=true then qS d fr c y (m + k) + c (m + k) - Qn d (qS d fr c y (m + k) + c (m + k)) else qS d fr c y (m + k) + c (m + k))
  rw [ih]
theorem GL {d:WD} {fr:Nat→Bool} {c:Nat→Int} (hc:∀ k,0 ≤ c k) {z m:Nat} (hm:m ≤ z) {k:Int} (hk:0 ≤ k):qS d fr c (Zl d fr c z + k * cf d fr c z) m=qS d fr c (Zl d fr c z) m + k * cf d fr c z:=by
 obtain ⟨f0,g0,_⟩:=Ir (d:=d) (fr:=fr) hc z
 by_cases hg:cf d fr c z=0
 ·rw [hg,Int.mul_zero,Int.add_zero,Int.add_zero]
 ·have ht:0 ≤ k * cf d fr c z:=Int.mul_nonneg hk g0
  have no:qS d fr c (Zl d fr c z) m ≠ qS d fr c 0 m:=fun e=>by
   have:=sN e (z - m)
   rw [show m + (z - m)=z by omega] at this
   apply hg
   unfold cf
   rw [this]
   show Zl d fr c z - Zl d fr c z=0
   omega
  rcases Hy (d:=d) (fr:=fr) hc m with ⟨D,M,hM,h⟩ | ⟨M,hM,h⟩
  ·have h1:=h _ f0
   have h2:=h 0 (Int.le_refl 0)
   have h3:=h (Zl d fr c z + k * cf d fr c z) (by omega)
   omega
  ·exact absurd ((h _ f0).trans (h 0 (Int.le_refl 0)).symm) no
theorem AM:∀ (cs:List Int),smQ (Pb cs) cs.length=cs.sum:=fun cs=>by
 have key:∀ n,n ≤ cs.length→smQ (Pb cs) n=(cs.take n).sum:=fun n=>by
  induction n with
  | zero=>intro _;simp [smQ]
  | succ n ih=>
   intro hn
   show smQ (Pb cs) n + Pb cs n=_
   rw [ih (by omega),List.take_add_one,List.sum_append]
   unfold Pb
   rw [Nat.mod_eq_of_lt (by omega),List.getElem?_eq_getElem (by omega),List.getD_eq_getElem?_getD,List.getElem?_eq_getElem (by omega)]
   simp
 rw [key _ (Nat.le_refl _),List.take_length]
theorem GH {d:WD} {fr:Nat→Bool} {c:Nat→Int} (hc:∀ k,0 ≤ c k) {z:Nat} (hz:0 < z) {R:Int} (hR:1 ≤ R) {m:Nat} (hm:m < z):ym d fr c z (R * (z:Int) + (m:Int))=qS d fr c (Zl d fr c z) m + (R - 1) * cf d fr c z:=by
 have e1:(R * (z:Int) + (m:Int)) / (z:Int)=R:=by
  rw [Int.add_comm,Int.add_mul_ediv_right _ _ (by omega),Int.ediv_eq_zero_of_lt (by omega) (by omega),Int.zero_add]
 have e2:(R * (z:Int) + (m:Int)) % (z:Int)=(m:Int):=by
  rw [Int.add_comm,Int.add_mul_emod_self_right,Int.emod_eq_of_lt (by omega) (by omega)]
 unfold ym
 rw [e1,e2,if_neg (by omega),Int.toNat_natCast]
 exact GL hc (by omega) (by omega)
end My
namespace My
open PySem L2
noncomputable abbrev iw (d:WD):List V:=[.str (Kd d.k),.str d.name,.int d.start,.int d.fin,.int d.off,.int d.near,.int d.least]
noncomputable def LW (H:Hp) (wl:Addr) (ds:List WD):Prop:=∃ qs:List Addr,H wl=some (.lst (qs.map V.ref))∧qs.length=ds.length∧∀ (i:Nat) (q:Addr) (d:WD),qs[i]? = some q→ds[i]? = some d→H q=some (.tup (iw d))
structure iO (n:Int) (ds:List WD):Prop where
 al:∀ d ∈ ds,WOk n d∧d.off ≤ 8∧d.least ≤ 4
 nd:(ds.map (·.name)).Nodup
theorem iO.cok {n:Int} {ds:List WD} (h:iO n ds) (hn:2 ≤ n∧n ≤ 99) (hl:1 ≤ ds.length∧ds.length ≤ 12):COk n ds:=⟨hn,hl,fun d hd=>(h.al d hd).1,h.nd⟩
theorem lL {i:Int} (h0:0 ≤ i) (h1:i < 3):atI [V.str (Str.ofString "car"),V.str (Str.ofString "foot"),V.str (Str.ofString "tram")] i=some (.str (Kd i.toNat)):=by
 have:i=0∨i=1∨i=2:=by omega
 rcases this with rfl | rfl | rfl
 ·exact jc (j:=0) rfl
 ·exact jc (j:=1) rfl
 ·exact jc (j:=2) rfl
noncomputable def oth:WD:=⟨0,Str.ofString "c",0,6,0,0,1⟩
noncomputable def W46 (d:WD):Prop:=∃ k j e o:Nat,k < 3∧j < 2∧e < 5∧o < 5∧d=⟨k,oC (97 + j),0,1 + (e:Int),(o:Int),0,1⟩
theorem WC:∀ j,j < 2→made (oC (97 + j)) Jj 8=true:=by decide +kernel
theorem RL:∀ j,j < 2→oC (97 + j) ≠ Str.ofString "c" := by decide +kernel
theorem W46.ok {d:WD} (h:W46 d):WOk 9 d∧d.off ≤ 8∧d.least ≤ 4:=by
 obtain ⟨k,j,e,o,h1,h2,h3,h4,rfl⟩:=h
 exact ⟨⟨h1,WC j h2,⟨by dsimp only;omega,by dsimp only;omega⟩,⟨by dsimp only;omega,by dsimp only;omega⟩,by dsimp only;omega,⟨by dsimp only;omega,by dsimp only;omega⟩,⟨by dsimp only;omega,by dsimp only;omega⟩,⟨by dsimp only;omega,by dsimp only;omega⟩⟩,by dsimp only;omega,by dsimp only;omega⟩
theorem VP:WOk 9 oth∧oth.off ≤ 8∧oth.least ≤ 4:=by
 refine ⟨⟨by decide,by decide +kernel,⟨by decide,by decide⟩,⟨by decide,by decide⟩,by decide,⟨by decide,by decide⟩,⟨by decide,by decide⟩,⟨by decide,by decide⟩⟩,by decide,by decide⟩
theorem W46.ne {d:WD} (h:W46 d):d.name ≠ oth.name:=by
 obtain ⟨k,j,e,o,h1,h2,h3,h4,rfl⟩:=h
 exact RL j h2
theorem W46.k3 {d:WD} (h:W46 d):d.k < 3:=by
 obtain ⟨k,j,e,o,h1,h2,h3,h4,rfl⟩:=h
 exact h1
theorem W46.part {d:WD} (h:W46 d):d.start=0∧d.fin ≠ 6∧d.least=1∧0 ≤ d.off∧d.off ≤ 4:=by
 obtain ⟨k,j,e,o,h1,h2,h3,h4,rfl⟩:=h
 exact ⟨rfl,by dsimp only;omega,rfl,by dsimp only;omega,by dsimp only;omega⟩
noncomputable def D46 (d:WD) (ds:List WD):Prop:=ds=[d,oth]∨ds=[oth,d]
theorem D46.mem {d:WD} {ds:List WD} (h:D46 d ds) {e:WD}:e ∈ ds↔e=d∨e=oth:=by
 rcases h with rfl | rfl
 ·simp
 ·simp;exact or_comm
theorem D46.ds {d:WD} {ds:List WD} (h:D46 d ds) (w:W46 d):iO 9 ds:=by
 refine ⟨fun e he=>?_,?_⟩
 ·rcases h.mem.mp he with rfl | rfl
  ·exact w.ok
  ·exact VP
 ·have:=w.ne
  rcases h with rfl | rfl
  ·simpa using this
  ·simpa using Ne.symm this
theorem D46.len {d:WD} {ds:List WD} (h:D46 d ds):ds.length=2:=by rcases h with rfl | rfl <;> rfl
theorem D46.at {d:WD} {ds:List WD} (h:D46 d ds):∃ i:Nat,ds[i]? = some d:=by
 rcases h with rfl | rfl
 ·exact ⟨0,rfl⟩
 ·exact ⟨1,rfl⟩
theorem D46.wof {d:WD} {ds:List WD} (h:D46 d ds) (w:W46 d) {e:WD} (he:e=d∨e=oth):wOf ds e.name=some e:=by
 have hn:=w.ne
 unfold wOf
 rcases h with rfl | rfl
 ·rcases he with rfl | rfl
  ·rw [List.find?_cons,decide_eq_true rfl]
  ·rw [List.find?_cons,decide_eq_false hn,List.find?_cons,decide_eq_true rfl]
 ·rcases he with rfl | rfl
  ·rw [List.find?_cons,decide_eq_false (Ne.symm hn),List.find?_cons,decide_eq_true rfl]
  ·rw [List.find?_cons,decide_eq_true rfl]
theorem NH {x:Str} (h:made x Jj 8=true):AJ x:=by
 obtain ⟨h1,h2⟩:=rh h
 exact ⟨Nat.le_trans h1.2 (by decide),fun c hc=>by have:=h2 c hc;omega⟩
theorem D46.dok {d:WD} {ds:List WD} (h:D46 d ds) (w:W46 d):DOk ds:=fun e he=>by
 have o:=((h.ds w).al e he).1
 exact ⟨NH o.nm,o.of.1,by have:=o.of.2;omega⟩
noncomputable def lN (z:Int) (ds:List WD) (s e:SD):Prop:=e.name=s.name→∀ d,wOf ds s.name=some d→s.n + be d + Gc d ≤ (e.b - s.b) % z∧e.n + be d + Gc d ≤ (s.b - e.b) % z
theorem lN.symm {z:Int} {ds:List WD} {s e:SD} (h:lN z ds s e):lN z ds e s:=fun hn d hd=>by
 rw [← hn] at hd
 exact (h hn.symm d hd).symm
theorem rF {z:Int} {ds:List WD} {sp:List SD} (al:∀ s ∈ sp,∃ d,wOf ds s.name=some d∧d.least ≤ s.n∧s.n + be d + Gc d ≤ z) (pw:sp.Pairwise (lN z ds)):fk ds z sp=none:=by
 unfold fk
 refine List.find?_eq_none.mpr fun e he=>?_
 obtain ⟨s,k⟩:=e
 have hk:sp[k]? = some s:=by simpa using List.mem_zipIdx_iff_getElem?.mp he
 obtain ⟨d,hw,hle,hr⟩:=al s (List.mem_of_getElem? hk)
 intro c
 unfold zu at c
 dsimp only at c
 rw [hw] at c
 have c:(decide (s.n < d.least) || decide (sB z sp k s < s.n + be d + Gc d))=true:=c
 rw [decide_eq_false (show ¬ s.n < d.least by omega),Bool.false_or,decide_eq_true_eq] at c
 unfold sB at c
 cases hmin:((ofN s.name (sp.eraseIdx k)).map fun p=>(p.1 - s.b) % z).min? with
 | none=>
  rw [hmin] at c
  have c:z < s.n + be d + Gc d:=c
  omega
 | some v=>
  rw [hmin] at c
  have c:v < s.n + be d + Gc d:=c
  obtain ⟨p,hp,rfl⟩:=List.mem_map.mp (List.min?_mem hmin)
  obtain ⟨e,hem,en,rfl⟩:=Ty hp
  obtain ⟨j,hj,ej⟩:=List.mem_eraseIdx_iff_getElem?.mp hem
  have hp:=List.pairwise_iff_getElem.mp pw
  obtain ⟨kl,ke⟩:=List.getElem?_eq_some_iff.mp hk
  obtain ⟨jl,je⟩:=List.getElem?_eq_some_iff.mp ej
  have far:lN z ds s e:=by
   by_cases c1:k < j
   ·have:=hp k j kl jl c1
    rwa [ke,je] at this
   ·have:=hp j k jl kl (by omega)
    rw [ke,je] at this
    exact this.symm
  have:=(far en d hw).1
  dsimp only at c
  omega
noncomputable def Fd (d:WD):Int:=if d.k=1 then d.off else 3
theorem ez {d:WD} (hk:d.k < 3):Fd d=be d + Gc d:=by
 unfold Fd be Gc
 match h:d.k,hk with
 | 0,_=>rfl
 | 1,_=>simp
 | 2,_=>rfl
theorem Qr {d:WD} (w:W46 d):0 ≤ Fd d∧Fd d ≤ 4:=by
 have:=w.part
 unfold Fd
 split <;> omega
noncomputable def ph (ns:List Int) (d:WD) (z:Nat):Int:=if (if (z:Int) / (Fd d + 1) < 1 + Ue ns 60 3 then (z:Int) / (Fd d + 1) else 1 + Ue ns 60 3) > 1 then (if (z:Int) / (Fd d + 1) < 1 + Ue ns 60 3 then (z:Int) / (Fd d + 1) else 1 + Ue ns 60 3) else 1
noncomputable def vg (ns:List Int) (d:WD) (z:Nat):Int:=(z:Int) / ph ns d z
noncomputable def Nv (ns:List Int) (d:WD) (z k:Nat):Int:=1 + Ue ns (62 + (k:Int)) (vg ns d z - Fd d - 1 + 1)
noncomputable def spK (ns:List Int) (d:WD) (z k:Nat):Int × Int:=((Ue ns 61 z + (k:Int) * vg ns d z + Ue ns (66 + (k:Int)) (vg ns d z - Fd d - Nv ns d z k + 1)) % (z:Int),Nv ns d z k)
noncomputable def spF (ns:List Int) (d:WD) (z:Nat):List (Int × Int):=(List.range (ph ns d z).toNat).map (spK ns d z)
theorem Pr {ns:List Int} {d:WD} (w:W46 d) {z:Nat} (hz:5 ≤ z):(ph ns d z=1∨ph ns d z=2∨ph ns d z=3)∧Fd d + 1 ≤ vg ns d z∧ph ns d z * vg ns d z ≤ z:=by
 have d1:=Ee ns 60 (m:=3) (by decide)
 have d2:=Ze ns 60 (m:=3) (by decide)
 have hi:=Qr w
 unfold vg
 have hm:ph ns d z=1∨(1 < ph ns d z∧ph ns d z ≤ 3∧ph ns d z ≤ (z:Int) / (Fd d + 1)):=by
  unfold ph
  split <;> split <;> omega
 generalize ph ns d z=m at hm ⊢
 have h5:Fd d=0∨Fd d=1∨Fd d=2∨Fd d=3∨Fd d=4:=by omega
 rcases hm with rfl | ⟨g1,g2,g3⟩
 ·exact ⟨.inl rfl,by omega,by omega⟩
 ·have h3:m=2∨m=3:=by omega
  rcases h5 with e | e | e | e | e <;> rw [e] at g3 ⊢ <;> rcases h3 with rfl | rfl <;> exact ⟨by omega,by omega,by omega⟩
theorem UH {ns:List Int} {d:WD} (w:W46 d) {z:Nat} (hz:5 ≤ z) (k:Nat):1 ≤ (spK ns d z k).2∧(0 ≤ (spK ns d z k).1∧(spK ns d z k).1 < z)∧∃ e,0 ≤ e∧e + (spK ns d z k).2 + Fd d ≤ vg ns d z∧(spK ns d z k).1=(Ue ns 61 z + (k:Int) * vg ns d z + e) % (z:Int):=by
 obtain ⟨hm,hp,_⟩:=Pr (ns:=ns) w hz
 have t1:=Ee ns (62 + (k:Int)) (m:=vg ns d z - Fd d - 1 + 1) (by omega)
 have t2:=Ze ns (62 + (k:Int)) (m:=vg ns d z - Fd d - 1 + 1) (by omega)
 have ht:Nv ns d z k=1 + Ue ns (62 + (k:Int)) (vg ns d z - Fd d - 1 + 1):=rfl
 have e1:=Ee ns (66 + (k:Int)) (m:=vg ns d z - Fd d - Nv ns d z k + 1) (by omega)
 have e2:=Ze ns (66 + (k:Int)) (m:=vg ns d z - Fd d - Nv ns d z k + 1) (by omega)
 refine ⟨by show 1 ≤ Nv ns d z k;omega,⟨Int.emod_nonneg _ (by omega),Int.emod_lt_of_pos _ (by omega)⟩,_,e1,?_,rfl⟩
 show _ + Nv ns d z k + _ ≤ _
 omega
theorem tQ {ns:List Int} {d:WD} (w:W46 d) {z:Nat} (hz:5 ≤ z) {i j:Nat} (hij:i < j) (hj:(j:Int) < ph ns d z):(spK ns d z i).2 + Fd d ≤ ((spK ns d z j).1 - (spK ns d z i).1) % (z:Int)∧(spK ns d z j).2 + Fd d ≤ ((spK ns d z i).1 - (spK ns d z j).1) % (z:Int):=by
 obtain ⟨hm,hp,hmp⟩:=Pr (ns:=ns) w hz
 have hi0:=Qr w
 obtain ⟨a1,_,e,a3,a4,a5⟩:=UH (ns:=ns) w hz i
 obtain ⟨b1,_,f,b3,b4,b5⟩:=UH (ns:=ns) w hz j
 have W1:∃ W,(Ue ns 61 z + (j:Int) * vg ns d z + f) - (Ue ns 61 z + (i:Int) * vg ns d z + e)=W∧(spK ns d z i).2 + Fd d ≤ W∧W + (spK ns d z j).2 + Fd d ≤ z:=by
  have hc:(i=0∧j=1)∨(i=0∧j=2)∨(i=1∧j=2):=by omega
  rcases hm with hm | hm | hm <;> rw [hm] at hj hmp <;> rcases hc with ⟨rfl,rfl⟩ | ⟨rfl,rfl⟩ | ⟨rfl,rfl⟩ <;> first | (exfalso;omega) | (refine ⟨_,rfl,?_,?_⟩ <;> omega)
 obtain ⟨W,eW,w1,w2⟩:=W1
 rw [a5,b5,← Int.sub_emod,← Int.sub_emod,show (Ue ns 61 z + (i:Int) * vg ns d z + e) - (Ue ns 61 z + (j:Int) * vg ns d z + f)=(z - W) + (z:Int) * (-1) by omega,Int.add_mul_emod_self_left,eW,Int.emod_eq_of_lt (by omega) (by omega),Int.emod_eq_of_lt (by omega) (by omega)]
 omega
theorem BF {ns:List Int} {d:WD} {z i:Nat} {p:Int × Int} (h:(spF ns d z)[i]? = some p):(i:Int) < ph ns d z∧p=spK ns d z i:=by
 unfold spF at h
 rw [List.getElem?_map] at h
 cases e:(List.range (ph ns d z).toNat)[i]? with
 | none=>rw [e] at h;cases h
 | some v=>
  rw [e] at h
  have hl:=(List.getElem?_eq_some_iff.mp e).1
  rw [List.length_range] at hl
  rw [List.getElem?_range hl] at e
  cases e
  cases h
  exact ⟨by omega,rfl⟩
theorem Gv {ns:List Int} {d:WD} (w:W46 d) {z:Nat} (hz:5 ≤ z):∀ p ∈ spF ns d z,1 ≤ p.2∧p.2 + Fd d ≤ z∧0 ≤ p.1∧p.1 < z:=fun p hp=>by
 obtain ⟨i,hi⟩:=List.getElem?_of_mem hp
 obtain ⟨_,rfl⟩:=BF hi
 obtain ⟨a1,a2,e,a3,a4,_⟩:=UH (ns:=ns) w hz i
 obtain ⟨hm,_,hmp⟩:=Pr (ns:=ns) w hz
 have i0:=Qr w
 have:vg ns d z ≤ z:=by
  rcases hm with hm | hm | hm <;> rw [hm] at hmp <;> omega
 exact ⟨a1,by omega,a2⟩
theorem lv {ns:List Int} {d:WD} (w:W46 d) {z:Nat} (hz:5 ≤ z):1 ≤ (spF ns d z).length∧(spF ns d z).length ≤ 3:=by
 unfold spF
 rw [List.length_map,List.length_range]
 rcases (Pr (ns:=ns) w hz).1 with h | h | h <;> rw [h] <;> exact ⟨by decide,by decide⟩
theorem eG {ns:List Int} {d:WD} (w:W46 d) {z:Nat} (hz:5 ≤ z):(spF ns d z).Pairwise fun p q=>p.2 + Fd d ≤ (q.1 - p.1) % (z:Int)∧q.2 + Fd d ≤ (p.1 - q.1) % (z:Int):=by
 refine List.pairwise_iff_getElem.mpr fun i j hi hj hij=>?_
 obtain ⟨a,ea⟩:=BF (List.getElem?_eq_getElem hi)
 obtain ⟨b,eb⟩:=BF (List.getElem?_eq_getElem hj)
 rw [ea,eb]
 exact tQ w hz hij b
noncomputable def Re (x:Str) (ps:List (Int × Int)):List SD:=ps.map fun p=>⟨x,p.1,p.2⟩
noncomputable def Ds (l:List SD) (j:Nat):List SD:=l.take j ++ ⟨Str.ofString "c",0,1⟩ :: l.drop j
theorem pk (l:List SD) (j:Nat):(Ds l j).Perm (⟨Str.ofString "c",0,1⟩ :: l):=by
 unfold Ds
 refine List.perm_middle.trans ?_
 rw [List.take_append_drop]
theorem kx {x:Str} {ps:List (Int × Int)} {s:SD} (h:s ∈ Re x ps):∃ p ∈ ps,s=⟨x,p.1,p.2⟩:=by
 obtain ⟨p,hp,e⟩:=List.mem_map.mp h
 exact ⟨p,hp,e.symm⟩
theorem AI {l:List SD} {j:Nat} {s:SD} (h:s ∈ Ds l j):s=⟨Str.ofString "c",0,1⟩∨s ∈ l:=List.mem_cons.mp ((pk l j).mem_iff.mp h)
theorem UM {d:WD} (w:W46 d) (ps:List (Int × Int)) (j:Nat):ofN d.name (Ds (Re d.name ps) j)=ps:=by
 have hn:decide (Str.ofString "c"=d.name)=false:=decide_eq_false (Ne.symm w.ne)
 have hall:∀ qs:List (Int × Int),ofN d.name (Re d.name qs)=qs:=fun qs=>by
  unfold ofN Re
  rw [List.filter_eq_self.mpr (fun s hs=>by obtain ⟨p,_,rfl⟩:=List.mem_map.mp hs;exact decide_eq_true rfl),List.map_map]
  exact List.map_id' qs
 have key:ofN d.name (Ds (Re d.name ps) j)=ofN d.name (Re d.name ps):=by
  unfold ofN Ds
  rw [List.filter_append,List.filter_cons]
  dsimp only
  rw [hn,if_neg Bool.false_ne_true,← List.filter_append,List.take_append_drop]
 rw [key,hall]
structure uR (z:Nat) (ds:List WD) (sp:List SD):Prop where
 ok:vK z sp
 kn:∀ s ∈ sp,∃ d,wOf ds s.name=some d
 nv:kj ds sp=none
 sh:fk ds z sp=none
 cl:dl 9 z sp ds=none
theorem lS {ns:List Int} {d:WD} (w:W46 d) {ds:List WD} (D:D46 d ds) {z:Nat} (hz:5 ≤ z∧z ≤ 60) (j:Nat):uR z ds (Ds (Re d.name (spF ns d z)) j):=by
 have cases:∀ s ∈ Ds (Re d.name (spF ns d z)) j,(s=⟨Str.ofString "c",0,1⟩)∨∃ p ∈ spF ns d z,s=⟨d.name,p.1,p.2⟩:=fun s hs=>by
  rcases AI hs with h | h
  ·exact .inl h
  ·exact .inr (kx h)
 have i0:=Qr w
 have lc:oth.name=Str.ofString "c" := rfl
 refine ⟨⟨?_,fun s hs=>?_⟩,fun s hs=>?_,?_,?_,?_⟩
 ·have:=(pk (Re d.name (spF ns d z)) j).length_eq
  have hl:=lv (ns:=ns) w hz.1
  rw [this,List.length_cons]
  unfold Re
  rw [List.length_map];omega
 ·rcases cases s hs with rfl | ⟨p,hp,rfl⟩
  ·exact ⟨by decide,by decide,by decide,by decide⟩
  ·have:=Gv w hz.1 p hp
   dsimp only;omega
 ·rcases cases s hs with rfl | ⟨p,hp,rfl⟩
  ·exact ⟨oth,D.wof w (.inr rfl)⟩
  ·exact ⟨d,D.wof w (.inl rfl)⟩
 ·refine YR fun e he=>?_
  rcases D.mem.mp he with rfl | rfl
  ·obtain ⟨p,hp⟩:=List.exists_mem_of_length_pos (show 0 < (spF ns e z).length by have:=(lv (ns:=ns) w hz.1).1;omega)
   exact ⟨⟨e.name,p.1,p.2⟩,(pk _ j).mem_iff.mpr (List.mem_cons_of_mem _ (List.mem_map.mpr ⟨p,hp,rfl⟩)),rfl⟩
  ·exact ⟨⟨Str.ofString "c",0,1⟩,(pk _ j).mem_iff.mpr (List.mem_cons_self ..),rfl⟩
 ·refine rF (fun s hs=>?_) ?_
  ·rcases cases s hs with rfl | ⟨p,hp,rfl⟩
   ·exact ⟨oth,D.wof w (.inr rfl),by decide,by have:(1:Int) + be oth + Gc oth=4:=rfl;dsimp only;omega⟩
   ·have:=Gv w hz.1 p hp
    have e:=ez w.k3
    exact ⟨d,D.wof w (.inl rfl),by have:=w.part;dsimp only;omega,by dsimp only;omega⟩
  ·refine ((pk _ j).pairwise_iff (fun {a b} h=>lN.symm h)).mpr (List.pairwise_cons.mpr ⟨fun s hs=>?_,?_⟩)
   ·obtain ⟨p,hp,rfl⟩:=kx hs
    exact fun hn=>absurd hn w.ne
   ·unfold Re
    refine List.pairwise_map.mpr ((eG w hz.1).imp fun {p q} h=>?_)
    intro _ d' hd'
    rw [D.wof w (.inl rfl)] at hd'
    cases hd'
    have e:=ez w.k3
    dsimp only
    omega
 ·refine mS fun a ha b hb hn=>?_
  have:=w.part
  have o1:oth.start=0∧oth.fin=6:=⟨rfl,rfl⟩
  rcases D.mem.mp ha with rfl | rfl <;> rcases D.mem.mp hb with rfl | rfl
  ·exact absurd rfl hn
  ·exact ⟨by omega,by omega⟩
  ·exact ⟨by omega,by omega⟩
  ·exact absurd rfl hn
noncomputable def zo (ps:List (Int × Int)) (z:Nat) (turn:Int):Bool:=ps.any fun p=>decide ((turn - p.1) % (z:Int) < p.2)
theorem KP {ns:List Int} {d:WD} (w:W46 d) {z:Nat} (hz:5 ≤ z) (j:Nat) (turn:Int):Ql z (Ds (Re d.name (spF ns d z)) j) d turn=zo (spF ns d z) z turn:=by
 have m0:=Int.emod_nonneg turn (show (z:Int) ≠ 0 by omega)
 have m1:=Int.emod_lt_of_pos turn (show (0:Int) < z by omega)
 have e:=ez w.k3
 have r0:=ax d
 have f0:=eA (d:=d) (by have:=w.part;omega)
 have key:=vE (z:=z) (by omega) (rd:=(Gc d).toNat) (fd:=(be d).toNat) (ps:=spF ns d z) (fun p hp=>by have:=Gv w hz p hp;omega) ((eG w hz).imp fun {p q} h=>⟨by omega,by omega⟩) (i:=(turn % (z:Int)).toNat) (by omega)
 have hlen:(ao z (Ds (Re d.name (spF ns d z)) j) d).length=z:=ji _ _ _ _
 have hj:(turn % (z:Int)).toNat < (ao z (Ds (Re d.name (spF ns d z)) j) d).length:=by rw [hlen];omega
 have hl:ao z (Ds (Re d.name (spF ns d z)) j) d=Yh z (Gc d).toNat (be d).toNat (spF ns d z):=by unfold ao;rw [UM w]
 unfold Ql ir zo
 rw [Bool.eq_iff_iff,decide_eq_true_eq,List.any_eq_true,List.getElem?_eq_getElem hj]
 show (_:Str)=_↔_
 have h2:(ao z (Ds (Re d.name (spF ns d z)) j) d)[(turn % (z:Int)).toNat]=Str.ofString "free" ↔ (Yh z (Gc d).toNat (be d).toNat (spF ns d z))[(turn % (z:Int)).toNat]? = some (Str.ofString "free"):=by
  rw [← hl,List.getElem?_eq_getElem hj]
  simp
 rw [show (some (ao z (Ds (Re d.name (spF ns d z)) j) d)[(turn % (z:Int)).toNat]).getD (Str.ofString "")=(ao z (Ds (Re d.name (spF ns d z)) j) d)[(turn % (z:Int)).toNat] from rfl,h2,key]
 refine ⟨fun ⟨p,hp,h⟩=>⟨p,hp,decide_eq_true ?_⟩,fun ⟨p,hp,h⟩=>⟨p,hp,?_⟩⟩
 ·rw [Int.toNat_of_nonneg m0,Int.emod_sub_emod] at h
  exact h
 ·rw [Int.toNat_of_nonneg m0,Int.emod_sub_emod]
  exact of_decide_eq_true h
end My
namespace My
open PySem L2
theorem MP (d:WD):((((Kd d.k ++ Str.ofString " ") ++ d.name) ++ Str.ofString " ") ++ Txt.join (Str.ofString " ") [num d.start,num d.fin,num d.off,num d.near,num d.least])=Str.join bk (Zj d):=by
 apply tz
 have e5:(Str.ofString " ").cps.toList=[32]:=by decide +kernel
 rw [show Txt.join (Str.ofString " ") [num d.start,num d.fin,num d.off,num d.near,num d.least]=Str.join bk [num d.start,num d.fin,num d.off,num d.near,num d.least] from StrLaws.glued_eq_join _ _]
 rw [Str.cps_append,Array.toList_append,AK,Do,Do]
 unfold Zj
 simp only [Str.cps_append,Array.toList_append,List.map_cons,List.map_nil,jl,e5,List.append_assoc,List.cons_append,List.nil_append]
theorem PM (n:Int):Str.ofString "ring " ++ num n=Str.join bk [Str.ofString "ring",num n]:=by
 apply tz
 have e1:(Str.ofString "ring ").cps.toList=[114,105,110,103,32]:=by decide +kernel
 have e2:(Str.ofString "ring").cps.toList=[114,105,110,103]:=by decide +kernel
 rw [AK,Do]
 simp only [Str.cps_append,Array.toList_append,List.map_cons,List.map_nil,jl,e1,e2,List.cons_append,List.nil_append]
theorem WJ {B:Nat}:∀ {ys:List Str},(∀ y ∈ ys,y.length ≤ B)→(ys.map (·.length)).sum ≤ ys.length * B
 | [],_=>by simp
 | a :: r,h=>by
  have h1:=h a (by simp)
  have h2:=WJ (B:=B) (ys:=r) fun y hy=>h y (List.mem_cons_of_mem _ hy)
  rw [List.map_cons,List.sum_cons,List.length_cons,Nat.succ_mul];omega
theorem SK {n:Int} {ds:List WD} (h:COk n ds):∀ y ∈ (Wh n ds).map (Str.join bk),y.length ≤ 63:=fun y hy=>by
 obtain ⟨r,hr,rfl⟩:=List.mem_map.mp hy
 have:=As bk 8 r fun x hx=>(h.plain r hr x hx).1
 rw [Gw] at this
 have hl:r.length ≤ 7:=by
  rcases List.mem_cons.mp hr with rfl | hr
  ·simp
  ·obtain ⟨d,hd,rfl⟩:=List.mem_map.mp hr
   simp [Zj]
 omega
noncomputable def gA (K:PySem.W.Frag):Sp:=fun vs H Q _=>∃ n wl ds,vs=[.int n,.ref wl]∧LW H wl ds∧iO n ds∧(2 ≤ n∧n ≤ 99)∧(1 ≤ ds.length∧ds.length ≤ 12)∧NoT H∧Q (.str (Kv n ds)) H
noncomputable def DE (K:PySem.W.Frag):Sp:=fun vs H Q _=>∃ n wl ds,vs=[.int n,.ref wl]∧LW H wl ds∧iO n ds∧(2 ≤ n∧n ≤ 99)∧(1 ≤ ds.length∧ds.length ≤ 12)∧∀ H',Zb H H'→Q (.str (Kv n ds)) H'
section
variable {P:Program} {w:World} {K:PySem.W.Frag} {mg:Str→Option Value} {base:Heap} {t:Adr}
theorem uI (T:Txt w K mg t):Eb P w K mg base CX0 1 t.bj t.Oi ["_law_places","_law_ways"] (gA K):=by
 refine Eb.forget (sp:=DE K) ?_ fun vs H Q E h=>?_
 ·refine T.um.ok Yj (fun vs H Q E h=>?_) (fun cdv A outer s H vs Q E hr h=>?_)
  ·obtain ⟨n,wl,ds,rfl,_⟩:=h;rfl
  obtain ⟨n,wl,ds,rfl,L,D,hn,hl,q⟩:=h
  refine ⟨_,(db (Ab (i:=2) Yj.nd rfl (Or.inl rfl) (bg (bb (Gb ui yc (Ai sk rfl T.jM Rn (bb (pv 0) gb))) gb)))
   (db (ee PassesOwn.never rfl (ce (pv 1)) (yb (i:=3) Yj.nd rfl (Or.inl rfl)) (ib (Cc (jo PySem.F.plainAttrs_list PySem.F.slot_list_append PySem.F.type_list_append jg (pv 2) (bb (Gb ui (Gb ui (Gb ui (Gb ui (ae wg (pv 3) lb (fun _ _=>rfl)) yc) (ae wg (pv 3) lb (fun _ _=>rfl))) yc) (jo PySem.F.plainAttrs_str PySem.F.slot_str_join PySem.F.type_str_join AE yc (bb (jk rfl (fP (Oz bO (pv 3) (lE lb) jF)) (Nd (sc:=jb Sl) rfl (by decide +kernel)) (N:=["_law_number"]) (sel:=[none]) (ve (M:=["_law_places","_law_ways","_law_rows","_law_way_here"]) (by decide +kernel)) (Blk.of (fun _ _ _ _=>(yb (i:=0) (yi (N:=["_law_number"]) (by decide +kernel) rfl) rfl (Or.inl rfl))) (fun _ _ _ _=>⟨_,Tg,by first | rfl | (dsimp only [Cx.block];done) | (dsimp only [Cx.block];exact rfl)⟩) (fun _ _ _ _=>⟨_,(Ai sk rfl T.jM Rn (bb (pv 0) gb)),by first | rfl | (dsimp only [Cx.block];done) | (dsimp only [Cx.block];exact rfl)⟩))) gb))) gb)))))
   (ib (Db (jo PySem.F.plainAttrs_str PySem.F.slot_str_join PySem.F.type_str_join AE yc (bb (pv 2) gb)))))),?_⟩
  have hC:=D.cok hn hl
  obtain ⟨qs,l1,l2,al⟩:=L
  have hlen:∀ x:Str,nz x→x.length ≤ 8:=fun x h=>h.1
  have hbig:∀ k:Nat,k ≤ 1000→k ≤ sizeLine:=fun k h=>Nat.le_trans h (by decide)
  have hr5:(Str.ofString "ring ").length=5:=by decide +kernel
  have hb1:(Str.ofString " ").length=1:=by decide +kernel
  (walk_at "RD")
  have hn8:(Str.ofString (toString n)).length ≤ 8:=(Td (v:=n) (by omega) (by omega)).1
  refine ⟨Yq (by omega),hbig _ (by rw [hr5];omega),by decide,fun rl hrl'=>?_⟩
  rw [PM]
  have s0:Zb H (upd H rl (.lst [V.str (Str.join bk [Str.ofString "ring",num n])])):=qb hrl'
  refine ⟨⟨_,SqL.of (s0 _ _ l1)⟩,?_⟩
  refine jj.list (xs:=qs.map V.ref) (fun i σ H'=>Zb H H'∧H' rl=some (.lst (Rb ((Wh n (ds.take i)).map (Str.join bk))))∧∃ x,σ=[some (.int n),some (.ref wl),some (.ref rl),x]) ?_ ?_ ?_ ?_
  ·exact ⟨s0,fb,none,rfl⟩
  ·rintro i σ H' hi ⟨sm,_,_⟩
   exact SqL.of (sm _ _ l1)
  ·rintro i v σ H' hv ⟨sm,hr,x,rfl⟩
   obtain ⟨q',hq,rfl⟩:=qc hv
   have hid:i < ds.length:=by rw [← l2];exact (List.getElem?_eq_some_iff.mp hq).1
   have hd:ds[i]? = some ds[i]:=List.getElem?_eq_getElem hid
   have hT:SqT K H' q' (iw ds[i]):=SqT.of (sm _ _ (al i q' _ hq hd))
   have hw:=(D.al _ (List.mem_of_getElem? hd)).1
   have b1:=hw.st;have b2:=hw.fi;have b3:=hw.of;have b4:=hw.nr;have b5:=hw.le
   have z1:=hlen _ (Wt ds[i].k)
   have z2:=hlen _ (Vt hw.nm)
   have z3:(num ds[i].start).length ≤ 8:=hlen _ (Td (v:=ds[i].start) (by omega) (by omega))
   have z4:(num ds[i].fin).length ≤ 8:=hlen _ (Td (v:=ds[i].fin) (by omega) (by omega))
   have z5:(num ds[i].off).length ≤ 8:=hlen _ (Td (v:=ds[i].off) (by omega) (by omega))
   have z7:(num ds[i].least).length ≤ 8:=hlen _ (Td (v:=ds[i].least) (by omega) (by omega))
   have z6:(num ds[i].near).length ≤ 8:=hlen _ (Td (v:=ds[i].near) (by omega) (by omega))
   (walk_at "RD")
   refine ⟨.inl ⟨_,SqL.of hr⟩,?_⟩
   have at0:atI (iw ds[i]) 0=some (.str (Kd ds[i].k)):=jc (j:=0) rfl
   have at1:atI (iw ds[i]) 1=some (.str ds[i].name):=jc (j:=1) rfl
   refine ⟨_,hT,_,at0,_,rfl,hbig _ (by omega),_,hT,_,at1,_,rfl,hbig _ (by rw [xr];omega),hbig _ (by simp only [xr];omega),?_⟩
   have hcut:mF (iw ds[i]) (some 2) none=[.int ds[i].start,.int ds[i].fin,.int ds[i].off,.int ds[i].near,.int ds[i].least]:=rfl
   refine ⟨_,hT,?_,fun p hp=>⟨⟨_,SqT.of fb⟩,?_⟩⟩
   ·show ¬ (HT.sIx 7 0 (some 2)=0∧HT.sIx 7 7 none=7)
    decide
   rw [hcut]
   have hjn:(Txt.join (Str.ofString " ") [num ds[i].start,num ds[i].fin,num ds[i].off,num ds[i].near,num ds[i].least]).length ≤ 50:=by
    rw [show Txt.join (Str.ofString " ") [num ds[i].start,num ds[i].fin,num ds[i].off,num ds[i].near,num ds[i].least]=Str.join bk [num ds[i].start,num ds[i].fin,num ds[i].off,num ds[i].near,num ds[i].least] from StrLaws.glued_eq_join _ _]
    have:=As bk 8 [num ds[i].start,num ds[i].fin,num ds[i].off,num ds[i].near,num ds[i].least] (fun y hy=>by
     simp only [List.mem_cons,List.not_mem_nil,or_false] at hy
     rcases hy with rfl | rfl | rfl | rfl | rfl <;> assumption)
    rw [Gw] at this
    simp only [List.length_cons,List.length_nil] at this
    omega
   refine Pd.tup_zs (xs:=[.int ds[i].start,.int ds[i].fin,.int ds[i].off,.int ds[i].near,.int ds[i].least]) (zs:=Rb [num ds[i].start,num ds[i].fin,num ds[i].off,num ds[i].near,num ds[i].least]) (SqT.of fb) (hbig _ (show 5 ≤ 1000 by decide)) rfl (fun j v z N hv hz hN=>?_) (fun p2 hp2=>?_)
   ·have key:∃ a:Int,v=.int a∧z=.str (num a)∧0 ≤ a∧a < 100:=by
     match j,hv,hz with
     | 0,hv,hz=>cases hv;cases hz;exact ⟨_,rfl,rfl,b1.1,by omega⟩
     | 1,hv,hz=>cases hv;cases hz;exact ⟨_,rfl,rfl,b2.1,by omega⟩
     | 2,hv,hz=>cases hv;cases hz;exact ⟨_,rfl,rfl,b3.1,by omega⟩
     | 3,hv,hz=>cases hv;cases hz;exact ⟨_,rfl,rfl,b4.1,by omega⟩
     | 4,hv,hz=>cases hv;cases hz;exact ⟨_,rfl,rfl,by omega,by omega⟩
     | k + 5,hv,hz=>simp at hv
    obtain ⟨a,rfl,rfl,ha0,ha1⟩:=key
    (walk_at "RD")
    exact ⟨Sub.name,Yq (by omega),hN⟩
   ·(walk_at "RD")
    have hrp2:rl ≠ p2:=by
     rintro rfl
     rw [pb (ub hr hp)] at hp2
     rw [hp2] at hr;cases hr
    have hrl:(upd (upd H' p (.tup [.int ds[i].start,.int ds[i].fin,.int ds[i].off,.int ds[i].near,.int ds[i].least])) p2 (.lst (Rb [num ds[i].start,num ds[i].fin,num ds[i].off,num ds[i].near,num ds[i].least]))) rl=some (.lst (Rb ((Wh n (ds.take i)).map (Str.join bk)))):=by
     rw [pb hrp2,pb (ub hr hp)];exact hr
    have sm2:Zb H' (upd (upd H' p (.tup [.int ds[i].start,.int ds[i].fin,.int ds[i].off,.int ds[i].near,.int ds[i].least])) p2 (.lst (Rb [num ds[i].start,num ds[i].fin,num ds[i].off,num ds[i].near,num ds[i].least]))):=(qb hp).trans (qb hp2)
    have hsq:=SqL.of (K:=K) (H:=upd (upd H' p (.tup [.int ds[i].start,.int ds[i].fin,.int ds[i].off,.int ds[i].near,.int ds[i].least])) p2 (.lst (Rb [num ds[i].start,num ds[i].fin,num ds[i].off,num ds[i].near,num ds[i].least]))) (a:=p2) fb
    generalize upd (upd H' p (.tup [.int ds[i].start,.int ds[i].fin,.int ds[i].off,.int ds[i].near,.int ds[i].least])) p2 (.lst (Rb [num ds[i].start,num ds[i].fin,num ds[i].off,num ds[i].near,num ds[i].least]))=H2 at hrl sm2 hsq ⊢
    refine ⟨_,hsq,?_,hbig _ (by simp only [xr];omega),_,hrl,?_,?_,?_,_,rfl⟩
    ·simp only [List.map_cons,List.map_nil,List.sum_cons,List.sum_nil,List.length_cons,List.length_nil]
     omega
    ·rw [Cm,List.length_map]
     exact Nat.lt_of_le_of_lt (show (Wh n (ds.take i)).length ≤ 13 by unfold Wh;rw [List.length_cons,List.length_map,List.length_take];omega) (by decide)
    ·exact fun b u e=>by rw [pb (ub e hrl')];exact sm2 _ _ (sm _ _ e)
    ·rw [fb,MP ds[i]]
     congr 2
     unfold Wh Rb
     simp
     rw [List.take_add_one,List.getElem?_map,hd];rfl
  ·rintro σ H' ⟨sm,hr,x,rfl⟩
   (walk_at "RD")
   rw [List.length_map,l2,List.take_length] at hr
   refine ⟨_,SqL.of hr,?_,?_⟩
   ·have h63:∀ y ∈ (Wh n ds).map (Str.join bk),y.length ≤ 63:=SK hC
    have h13:((Wh n ds).map (Str.join bk)).length ≤ 13:=by
     unfold Wh
     rw [List.length_map,List.length_cons,List.length_map];omega
    have:=WJ h63
    rw [show (Str.ofString "\n").length=1 by decide +kernel]
    omega
   ·have:=q H' sm
    unfold Kv at this
    rw [show Txt.join (Str.ofString "\n") ((Wh n ds).map (Str.join bk))=Str.join nl ((Wh n ds).map (Str.join bk)) from StrLaws.glued_eq_join _ _]
    exact this
 ·obtain ⟨n,wl,ds,h1,h2,h3,h4,h5,nt,q⟩:=h
  exact ⟨nt,n,wl,ds,h1,h2,h3,h4,h5,fun H' sm=>⟨sm,q⟩⟩
end
end My
namespace My
open PySem L2
theorem td0 (d:WD):atI (iw d) 0=some (.str (Kd d.k)):=jc (j:=0) rfl
theorem td1 (d:WD):atI (iw d) 1=some (.str d.name):=jc (j:=1) rfl
theorem td4 (d:WD):atI (iw d) 4=some (.int d.off):=jc (j:=4) rfl
theorem td6 (d:WD):atI (iw d) 6=some (.int d.least):=jc (j:=6) rfl
theorem mR:Str.ofString "car" ≠ Str.ofString "foot" := by decide +kernel
theorem vR:Str.ofString "car" ≠ Str.ofString "tram" := by decide +kernel
theorem qR:Str.ofString "foot" ≠ Str.ofString "tram" := by decide +kernel
theorem oQ (x y z:V):Uj [] [(Sum.inr (Str.ofString "car"),x),(Sum.inr (Str.ofString "foot"),y),(Sum.inr (Str.ofString "tram"),z)]=[(Sum.inr (Str.ofString "car"),x),(Sum.inr (Str.ofString "foot"),y),(Sum.inr (Str.ofString "tram"),z)]:=by
 unfold Uj
 simp only [List.foldl_cons,List.foldl_nil]
 rw [Fv x (k:=Sum.inr (Str.ofString "car")) (by rfl),Fv y (by simp [vj,mR]),Fv z (by simp [vj,vR,qR])]
 rfl
theorem ML {d:WD} (hk:d.k < 3):vj (Uj [] [(Sum.inr (Str.ofString "car"),V.int 3),(Sum.inr (Str.ofString "foot"),V.int d.off),(Sum.inr (Str.ofString "tram"),V.int 3)]) (Sum.inr (Kd d.k))=some (.int (Fd d)):=by
 rw [oQ]
 unfold Fd
 match h:d.k,hk with
 | 0,_=>simp [vj,Kd]
 | 1,_=>simp [vj,Kd,mR]
 | 2,_=>simp [vj,Kd,vR,qR]
theorem LO.snoc {H:Hp} {wl p:Addr} {os:List HO} {o:HO} {qs:List Addr} (l1:H wl=some (.lst (qs.map V.ref))) (lq:LQ H qs os) (hp:H p=none) (ho:∀ xs,o ≠ .lst xs) (hos:∀ u ∈ os,∀ xs,u ≠ .lst xs) :
  LO (upd (upd H p o) wl (.lst (qs.map V.ref ++ [.ref p]))) wl (os ++ [o]):=by
 have hpw:p ≠ wl:=(ub l1 hp).symm
 refine ⟨qs ++ [p],by rw [fb,List.map_append];rfl,LQ.app ⟨lq.1,fun i q u hq hu=>?_⟩ (LQ.one (by rw [pb hpw,fb]))⟩
 have e:=lq.2 i q u hq hu
 rw [pb (Ag e l1 (hos u (List.mem_of_getElem? hu) _)),pb (ub e hp)]
 exact e
theorem GQ {ps:List (Int × Int)}:∀ u ∈ List.map prO ps,∀ xs,u ≠ .lst xs:=fun u hu xs z=>by
 obtain ⟨s,_,rfl⟩:=List.mem_map.mp hu
 cases z
noncomputable def Uq (K:PySem.W.Frag) (a:Addr) (ns:List Int):Sp:=fun vs H Q _=>∃ (wa:Addr) (d:WD) (z:Nat),vs=[.ref a,.ref wa,.int z]∧Sc K a ns H∧H wa=some (.tup (iw d))∧W46 d∧(5 ≤ z∧z ≤ 60)∧∀ p H',Zb H H'→Sc K a ns H'→LO H' p ((spF ns d z).map prO)→Q (.ref p) H'
noncomputable def dA (K:PySem.W.Frag) (a:Addr) (ns:List Int):Sp:=fun vs H Q _=>∃ (wa:Addr) (d:WD) (z:Nat) (turn:Int),vs=[.ref a,.ref wa,.int z,.int turn]∧Sc K a ns H∧H wa=some (.tup (iw d))∧W46 d∧(5 ≤ z∧z ≤ 60)∧Q (.bl (zo (spF ns d z) z turn)) H
noncomputable def rE (K:PySem.W.Frag) (a:Addr) (ns:List Int):Sp:=fun vs H Q _=>∃ (wa:Addr) (d:WD) (z:Nat) (turn:Int),vs=[.ref a,.ref wa,.int z,.int turn]∧Sc K a ns H∧H wa=some (.tup (iw d))∧W46 d∧(5 ≤ z∧z ≤ 60)∧∀ H',Zb H H'→Q (.bl (zo (spF ns d z) z turn)) H'
noncomputable def eE (K:PySem.W.Frag) (a:Addr) (ns:List Int):Sp:=fun vs H Q _=>vs=[.ref a]∧Sc K a ns H∧∀ p d H',Zb H H'→Sc K a ns H'→W46 d→H' p=some (.tup (iw d))→Q (.ref p) H'
noncomputable def wC (K:PySem.W.Frag) (a:Addr) (ns:List Int):Sp:=fun vs H Q _=>∃ z:Nat,vs=[.ref a,.int z]∧Sc K a ns H∧(5 ≤ z∧z ≤ 60)∧∀ p cs H',Zb H H'→Sc K a ns H'→H p=none→H' p=some (.lst (List.map V.int cs))→cs.length=z→(∀ x ∈ cs,0 ≤ x∧x ≤ 1000000000)→Q (.ref p) H'
theorem xE (ns:List Int) (k:Int) (h:0 < (ns.length:Int)):∃ v,atI (ns.map V.int) (k % (ns.length:Int))=some (.int v):=by
 have hk:0 ≤ k % (ns.length:Int)∧k % (ns.length:Int) < (ns.length:Int):=⟨Int.emod_nonneg _ (by omega),Int.emod_lt_of_pos _ h⟩
 have hj:(k % (ns.length:Int)).toNat < ns.length:=by omega
 refine ⟨ns[(k % (ns.length:Int)).toNat],?_⟩
 have e:=jc (xs:=ns.map V.int) (j:=(k % (ns.length:Int)).toNat) (v:=.int ns[(k % (ns.length:Int)).toNat]) (by rw [List.getElem?_map,List.getElem?_eq_getElem hj] <;> rfl)
 rwa [Int.toNat_of_nonneg hk.1] at e
section
variable {P:Program} {w:World} {K:PySem.W.Frag} {mg:Str→Option Value} {base:Heap} {t:Adr}
theorem Kw (T:Txt w K mg t) (a:Addr) (ns:List Int) (h63:ns.length ≤ 63):Eb P w K mg base CX0 2 t.ag t.rg ["_law_script","_law_way_here","_law_size"] (Uq K a ns):=by
 have G__law_draw:Eb P w K mg base CX0 1 t.ue t.me ["_law_script","_law_k","_law_many"] (Hd K a ns):=Vq T a ns h63
 refine T.Ph.ok kd (fun vs H Q E h=>?_) (fun cdv A outer s H vs Q E hr h=>?_)
 ·obtain ⟨wa,d,z,rfl,_⟩:=h;rfl
 obtain ⟨wa,d,z,rfl,S,hw,W,hz,q⟩:=h
 have hu:=uz hr
 have i0:=Qr W
 obtain ⟨hm,hp,hmp⟩:=Pr (ns:=ns) W hz.1
 refine ⟨_,(db (Ab (i:=3) kd.nd rfl (Or.inl rfl) (wo hu (wK (Su yc lb (Su yc (ae wg (pv 1) lb (fun _ _=>rfl)) (Su yc lb AL))) rfl rfl (by simp) (by decide)) (ae wg (pv 1) lb (fun _ _=>rfl)) (fun _ _=>rfl)))
   (db (Ab (i:=4) kd.nd rfl (Or.inl rfl) (gc (wm rfl) rfl T.YH Ck (bb lb (bb (gc (Yr rfl) rfl T.EI xo (bb (Gb Jc lb (wb G__law_draw hr rfl T.Sb T.Lb.kp T.Ub .nil zb (bb (pv 0) (bb lb (bb lb gb))))) (bb (Gb iE (pv 2) (Gb Jc (pv 3) (ae wg (pv 1) lb (fun _ _=>rfl)))) gb))) gb))))
   (db (Ab (i:=5) kd.nd rfl (Or.inl rfl) (wb G__law_draw hr rfl T.Sb T.Lb.kp T.Ub .nil zb (bb (pv 0) (bb lb (bb (pv 2) gb)))))
   (db (Ab (i:=6) kd.nd rfl (Or.inl rfl) (Gb iE (pv 2) (pv 4)))
   (db (Ab (i:=7) kd.nd rfl (Or.inl rfl) (bg gb))
   (db (ee PassesOwn.never rfl (qe rfl T.Bg (bb (pv 4) gb)) (yb (i:=8) kd.nd rfl (Or.inl rfl)) (db (Ab (i:=9) kd.nd rfl (Or.inl rfl) (Gb Oe (pv 6) (pv 3)))
   (db (Ab (i:=10) kd.nd rfl (Or.inl rfl) (Gb Jc (ae wg (pv 1) lb (fun _ _=>rfl)) (wb G__law_draw hr rfl T.Sb T.Lb.kp T.Ub .nil zb (bb (pv 0) (bb (Gb Jc lb (pv 8)) (bb (Gb Jc (Gb Oe (pv 9) (ae wg (pv 1) lb (fun _ _=>rfl))) lb) gb))))))
   (ib (Cc (jo PySem.F.plainAttrs_list PySem.F.slot_list_append PySem.F.type_list_append jg (pv 7) (bb (Hq (bb (Gb Ce (Gb Jc (Gb Jc (pv 5) (Gb Rg (pv 8) (pv 6))) (wb G__law_draw hr rfl T.Sb T.Lb.kp T.Ub .nil zb (bb (pv 0) (bb (Gb Jc lb (pv 8)) (bb (Gb Jc (Gb Oe (pv 9) (pv 10)) lb) gb))))) (pv 2)) (bb (pv 10) gb))) gb)))))))
   (ib (Db (pv 7))))))))),?_⟩
 simp only [Hb]
 refine fc (fun σ' H'=>Zb H H'∧Sc K a ns H'∧σ'=[some (.ref a),some (.ref wa),some (.int z),some (.int (Fd d)),none,none,none,none,none,none,none]) (fun D' hD _ _ _=>?_) ?_
 ·(walk_at "RD")
  simp only [Tw]
  (walk_at "RD")
  intro p hp
  have s0:=qb (o:=.dK []) hp
  have s2:Zb H (upd (upd H p (.dK [])) p (.dK (Uj [] [(Sum.inr (Str.ofString "car"),V.int 3),(Sum.inr (Str.ofString "foot"),V.int d.off),(Sum.inr (Str.ofString "tram"),V.int 3)]))):=s0.updN hp
  refine ⟨_,SqT.of (s0 _ _ hw),_,td4 d,fb,[(Sum.inr (Str.ofString "car"),V.int 3),(Sum.inr (Str.ofString "foot"),V.int d.off),(Sum.inr (Str.ofString "tram"),V.int 3)],rfl,by show 3 ≤ 15;decide,_,SqT.of (s2 _ _ hw),_,td0 d,.int (Fd d),?_,hD _ _ ⟨s2,S.same s2 S.nt.upd.upd,rfl⟩⟩
  have:=zl.k (k:=Sum.inr (Kd d.k)) (fb (H:=upd H p (.dK [])) (a:=p) (o:=.dK (Uj [] [(Sum.inr (Str.ofString "car"),V.int 3),(Sum.inr (Str.ofString "foot"),V.int d.off),(Sum.inr (Str.ofString "tram"),V.int 3)])))
  rw [ML W.k3] at this
  exact this
 rintro σ1 H1 ⟨s1,S1,rfl⟩
 have hw1:=s1 _ _ hw
 simp only [Hb]
 refine fc (fun σ' H'=>H'=H1∧σ'=[some (.ref a),some (.ref wa),some (.int z),some (.int (Fd d)),some (.int (ph ns d z)),none,none,none,none,none,none]) (fun D' hD _ _ _=>?_) ?_
 ·(walk_at "RD"; repeat (simp only [Hd];walk_at "RD"))
  have hl1:d.least=1:=W.part.2.2.1
  refine ⟨S1,by omega,by omega,by decide,_,SqT.of hw1,_,td6 d,_,rfl,?_⟩
  rw [hl1]
  exact ⟨⟨by omega,by omega⟩,hD _ _ ⟨rfl,rfl⟩⟩
 rintro σ2 H2 ⟨rfl,rfl⟩
 simp only [Hb]
 refine fc (fun σ' H'=>H'=H2∧σ'=[some (.ref a),some (.ref wa),some (.int z),some (.int (Fd d)),some (.int (ph ns d z)),some (.int (Ue ns 61 z)),none,none,none,none,none]) (fun D' hD _ _ _=>?_) ?_
 ·(walk_at "RD"; repeat (simp only [Hd];walk_at "RD"))
  exact ⟨S1,by omega,by omega,by omega,hD _ _ ⟨rfl,rfl⟩⟩
 rintro σ3 H3 ⟨rfl,rfl⟩
 simp only [Hb]
 refine fc (fun σ' H'=>H'=H3∧σ'=[some (.ref a),some (.ref wa),some (.int z),some (.int (Fd d)),some (.int (ph ns d z)),some (.int (Ue ns 61 z)),some (.int (vg ns d z)),none,none,none,none]) (fun D' hD _ _ _=>?_) ?_
 ·(walk_at "RD")
  exact ⟨⟨by omega,by omega⟩,hD _ _ ⟨rfl,rfl⟩⟩
 rintro σ4 H4 ⟨rfl,rfl⟩
 simp only [Hb]
 refine fc (fun σ' H'=>Sc K a ns H'∧Zb H4 H'∧∃ rl,H4 rl=none∧H' rl=some (.lst [])∧σ'=[some (.ref a),some (.ref wa),some (.int z),some (.int (Fd d)),some (.int (ph ns d z)),some (.int (Ue ns 61 z)),some (.int (vg ns d z)),some (.ref rl),none,none,none]) (fun D hD _ _ _=>?_) ?_
 ·(walk_at "RD")
  exact ⟨Nat.zero_le _,fun rl hrl=>hD _ _ ⟨S1.new hrl,qb hrl,rl,hrl,fb,rfl⟩⟩
 rintro σ5 H5 ⟨S5,s5,rl,hrl,w5,rfl⟩
 (walk_at "RD")
 refine ⟨by omega,by omega,?_⟩
 refine jj.range (fun i σ H'=>Sc K a ns H'∧Zb H4 H'∧LO H' rl (((List.range i).map (spK ns d z)).map prO)∧∃ x1 x2 x3,σ=[some (.ref a),some (.ref wa),some (.int z),some (.int (Fd d)),some (.int (ph ns d z)),some (.int (Ue ns 61 z)),some (.int (vg ns d z)),some (.ref rl),x1,x2,x3]) ?_ ?_ ?_
 ·exact ⟨S5,s5,⟨[],w5,LQ.nil _⟩,_,_,_,rfl⟩
 ·rintro i σ H' hi ⟨S6,s6,L6,x1,x2,x3,rfl⟩
  have hi3:i < 3:=by omega
  have hw6:=s6 _ _ hw1
  have hl1:d.least=1:=W.part.2.2.1
  simp only [Ak,Hb,List.set_cons_succ,List.set_cons_zero,Int.zero_add]
  refine fc (fun σ' H2=>H2=H'∧σ'=[some (.ref a),some (.ref wa),some (.int z),some (.int (Fd d)),some (.int (ph ns d z)),some (.int (Ue ns 61 z)),some (.int (vg ns d z)),some (.ref rl),some (.int (i:Nat)),some (.int (vg ns d z - Fd d)),x3]) (fun D hD _ _ _=>?_) ?_
  ·(walk_at "RD")
   exact hD _ _ ⟨rfl,rfl⟩
  rintro σ7 H7 ⟨rfl,rfl⟩
  simp only [Hb]
  refine fc (fun σ' H2=>H2=H7∧σ'=[some (.ref a),some (.ref wa),some (.int z),some (.int (Fd d)),some (.int (ph ns d z)),some (.int (Ue ns 61 z)),some (.int (vg ns d z)),some (.ref rl),some (.int (i:Nat)),some (.int (vg ns d z - Fd d)),some (.int (Nv ns d z i))]) (fun D hD _ _ _=>?_) ?_
  ·(walk_at "RD"; repeat (simp only [Hd];walk_at "RD"))
   refine ⟨_,SqT.of hw6,_,td6 d,_,SqT.of hw6,_,td6 d,_,rfl,S6,by omega,by omega,?_⟩
   rw [hl1]
   exact ⟨by omega,_,rfl,hD _ _ ⟨rfl,rfl⟩⟩
  rintro σ8 H8 ⟨rfl,rfl⟩
  obtain ⟨os,w8,w9⟩:=L6
  have hosl:os.length=i:=by rw [w9.1,List.length_map,List.length_map,List.length_range]
  have hti:=UH (ns:=ns) W hz.1 i
  have htq:(spK ns d z i).2=Nv ns d z i:=rfl
  have hpz:vg ns d z ≤ z:=by rcases hm with hm | hm | hm <;> rw [hm] at hmp <;> omega
  obtain ⟨_,_,e,he0,he1,_⟩:=hti
  (walk_at "RD"; repeat (simp only [Hd];walk_at "RD"))
  refine ⟨.inl ⟨_,SqL.of w8⟩,.inl ⟨by omega,by omega⟩,S6,by omega,by omega,by omega,by omega,by decide,fun p2 hp2=>?_⟩
  have hwp:rl ≠ p2:=ub w8 hp2
  have L':=LO.snoc (o:=prO (spK ns d z i)) w8 w9 hp2 (fun xs z=>by cases z) GQ
  refine ⟨_,by rw [pb hwp];exact w8,Nat.lt_of_le_of_lt (show (os.map V.ref).length ≤ 3 by rw [List.length_map];omega) (by decide),?_,?_,?_,_,rfl⟩
  ·exact (S6.new hp2).set (by rw [pb hwp];exact w8) (fun ob z e=>by cases e)
  ·exact (s6.trans (qb hp2)).updN hrl
  ·rw [List.range_succ,List.map_append,List.map_append]
   exact L'
 ·rintro σ H' ⟨S6,s6,L6,x1,x2,x3,rfl⟩
  (walk_at "RD")
  exact q rl H' (s1.trans s6) S6 L6
end
end My
namespace My
open PySem L2
theorem DQ:∀ k,k < 2→atI (Str.ofString "ab").cps.toList ((k:Nat):Int)=some (97 + k):=by decide +kernel
section
variable {P:Program} {w:World} {K:PySem.W.Frag} {mg:Str→Option Value} {base:Heap} {t:Adr}
theorem JI (T:Txt w K mg t) (a:Addr) (ns:List Int) (h63:ns.length ≤ 63):Eb P w K mg base CX0 3 t.Ri t.Pi ["_law_script","_law_way_here","_law_size","_law_turn"] (dA K a ns):=by
 have G__law_spans:Eb P w K mg base CX0 2 t.ag t.rg ["_law_script","_law_way_here","_law_size"] (Uq K a ns):=Kw T a ns h63
 refine Eb.forget (sp:=rE K a ns) ?_ fun vs H Q E h=>?_
 ·refine T.im.ok qk (fun vs H Q E h=>?_) (fun cdv A outer s H vs Q E hr h=>?_)
  ·obtain ⟨wa,d,z,turn,rfl,_⟩:=h;rfl
  obtain ⟨wa,d,z,turn,rfl,S,hw,W,hz,q⟩:=h
  refine ⟨_,(db (ee PassesOwn.never rfl (ce (wb G__law_spans hr rfl T.Eo T.Ph.kp T.jp .nil zb (bb (pv 0) (bb (pv 1) (bb (pv 2) gb))))) (Ge (K:=K) (n:=2) rfl rfl (Kb (yb (i:=4) qk.nd rfl (Or.inl rfl) (.inl rfl)) (Kb (yb (i:=5) qk.nd rfl (Or.inl rfl) (.inl rfl)) De))) (ib (ye (kc Zw (Gb Ce (Gb Oe (pv 3) (pv 4)) (pv 2)) (pv 5) (wc _)) (ib (Db Ws)) ic)))
   (ib (Db Ws))),?_⟩
  (walk_at "RD")
  refine ⟨wa,d,z,rfl,S,hw,W,hz,fun p H1 s1 S1 L1=>?_⟩
  obtain ⟨os,l1,l2⟩:=L1
  refine ⟨p,rfl,⟨_,SqL.of l1⟩,?_⟩
  refine jj.list (xs:=os.map V.ref) (fun i σ H'=>H'=H1∧zo ((spF ns d z).take i) z turn=false∧∃ x1 x2,σ=[some (.ref a),some (.ref wa),some (.int z),some (.int turn),x1,x2]) ?_ ?_ ?_ ?_
  ·exact ⟨rfl,rfl,_,_,rfl⟩
  ·rintro i σ H' hi ⟨rfl,_⟩
   exact SqL.of l1
  ·rintro i v σ H' hv ⟨rfl,hf,x1,x2,rfl⟩
   obtain ⟨qi,hqi,rfl⟩:=qc hv
   obtain ⟨o,ho,e⟩:=l2.at hqi
   obtain ⟨sp,hsp,rfl⟩:=qc ho
   have hT:SqT K H' qi [.int sp.1,.int sp.2]:=SqT.of e
   have hstep:zo ((spF ns d z).take (i + 1)) z turn=decide ((turn - sp.1) % (z:Int) < sp.2):=by
    unfold zo at hf ⊢
    rw [Xg hsp,List.any_append,hf,Bool.false_or,List.any_cons,List.any_nil,Bool.or_false]
   (walk_at "RD")
   refine ⟨_,hT,rfl,_,_,rfl,_,_,rfl,rfl,?_⟩
   refine Ac (decide ((turn - sp.1) % (z:Int) < sp.2)) (fun Q hQ=>?_) (fun c=>?_) (fun c=>?_)
   ·(walk_at "RD")
    exact ⟨by omega,hQ⟩
   ·(walk_at "RD")
    have:=q H' s1
    rw [show zo (spF ns d z) z turn=true from List.any_eq_true.mpr ⟨sp,List.mem_of_getElem? hsp,c⟩] at this
    exact this
   ·(walk_at "RD")
    refine ⟨by rw [hstep];exact c,?_⟩
    repeat (first | exact ⟨_,rfl⟩ | refine ⟨⟨_,rfl⟩,?_⟩)
  ·rintro σ H' ⟨rfl,hf,x1,x2,rfl⟩
   rw [List.take_of_length_le (by rw [List.length_map,l2.1,List.length_map];exact Nat.le_refl _)] at hf
   (walk_at "RD")
   have:=q H' s1
   rw [hf] at this
   exact this
 ·obtain ⟨wa,d,z,turn,e,S,hw,W,hz,q⟩:=h
  exact ⟨S.nt,wa,d,z,turn,e,S,hw,W,hz,fun H' s=>⟨s,q⟩⟩
theorem fN (T:Txt w K mg t) (a:Addr) (ns:List Int) (h63:ns.length ≤ 63):Eb P w K mg base CX0 2 t.Qk t.Nk ["_law_script"] (eE K a ns):=by
 have G__law_draw:Eb P w K mg base CX0 1 t.ue t.me ["_law_script","_law_k","_law_many"] (Hd K a ns):=Vq T a ns h63
 refine T.so.ok Nq (fun vs H Q E h=>?_) (fun cdv A outer s H vs Q E hr h=>?_)
 ·obtain ⟨rfl,_⟩:=h;rfl
 obtain ⟨rfl,S,q⟩:=h
 refine ⟨_,(db (Ab (i:=1) Nq.nd rfl (Or.inl rfl) (ae Zd (bg (bb yc (bb yc (bb yc gb)))) (wb G__law_draw hr rfl T.Sb T.Lb.kp T.Ub .nil zb (bb (pv 0) (bb lb (bb lb gb)))) (fun _ _=>rfl)))
   (ib (Db (Hq (bb (pv 1) (bb (ae HJ yc (wb G__law_draw hr rfl T.Sb T.Lb.kp T.Ub .nil zb (bb (pv 0) (bb lb (bb lb gb)))) (fun _ _=>rfl)) (bb lb (bb (Gb Jc lb (wb G__law_draw hr rfl T.Sb T.Lb.kp T.Ub .nil zb (bb (pv 0) (bb lb (bb lb gb))))) (bb (wb G__law_draw hr rfl T.Sb T.Lb.kp T.Ub .nil zb (bb (pv 0) (bb lb (bb lb gb)))) (bb lb (bb lb gb))))))))))),?_⟩
 have d1:=Ee ns 1 (m:=3) (by decide)
 have d2:=Ze ns 1 (m:=3) (by decide)
 have e1:=Ee ns 2 (m:=2) (by decide)
 have e2:=Ze ns 2 (m:=2) (by decide)
 have f1:=Ee ns 3 (m:=5) (by decide)
 have f2:=Ze ns 3 (m:=5) (by decide)
 have g1:=Ee ns 4 (m:=5) (by decide)
 have g2:=Ze ns 4 (m:=5) (by decide)
 have hab:=DQ (Ue ns 2 2).toNat (by omega)
 rw [Int.toNat_of_nonneg e1] at hab
 (walk_at "RD"; repeat (simp only [Hd];walk_at "RD"))
 refine ⟨by decide,fun p hp=>⟨S.new hp,by omega,by omega,by decide,_,SqL.of fb,_,lL d1 d2,S.new hp,by omega,by omega,by decide,by decide +kernel,_,hab,S.new hp,by omega,by omega,by decide,S.new hp,by omega,by omega,by decide,by decide,fun p1 hp1=>?_⟩⟩
 refine q p1 ⟨(Ue ns 1 3).toNat,oC (97 + (Ue ns 2 2).toNat),0,1 + ((Ue ns 3 5).toNat:Int),((Ue ns 4 5).toNat:Int),0,1⟩ _ ((qb hp).trans (qb hp1)) ((S.new hp).new hp1) ⟨_,_,_,_,by omega,by omega,by omega,by omega,rfl⟩ ?_
 rw [fb,Int.toNat_of_nonneg f1,Int.toNat_of_nonneg g1]
 rfl
theorem qM (T:Txt w K mg t) (a:Addr) (ns:List Int) (h63:ns.length ≤ 63):Eb P w K mg base CX0 2 t.Gf t.Uf ["_law_script","_law_size"] (wC K a ns):=by
 have G__law_draw:Eb P w K mg base CX0 1 t.ue t.me ["_law_script","_law_k","_law_many"] (Hd K a ns):=Vq T a ns h63
 refine T.Uh.ok Rc (fun vs H Q E h=>?_) (fun cdv A outer s H vs Q E hr h=>?_)
 ·obtain ⟨z,rfl,_⟩:=h;rfl
 obtain ⟨z,rfl,S,hz,q⟩:=h
 refine ⟨_,(db (Ab (i:=2) Rc.nd rfl (Or.inl rfl) (ae Zd (bg (bb lb (bb lb (bb lb (bb (Gb Jc (Gb mK lb lb) lb) gb))))) (wb G__law_draw hr rfl T.Sb T.Lb.kp T.Ub .nil zb (bb (pv 0) (bb lb (bb lb gb)))) (fun _ _=>rfl)))
   (db (Ab (i:=3) Rc.nd rfl (Or.inl rfl) (Gb Jc lb (wb G__law_draw hr rfl T.Sb T.Lb.kp T.Ub .nil zb (bb (pv 0) (bb lb (bb lb gb))))))
   (db (Ab (i:=4) Rc.nd rfl (Or.inl rfl) (bg gb))
   (db (ee PassesOwn.never rfl (qe rfl T.Bg (bb (pv 1) gb)) (yb (i:=5) Rc.nd rfl (Or.inl rfl)) (db (Ab (i:=6) Rc.nd rfl (Or.inl rfl) (uv (kc oz (gc Dc rfl T.Nm Xc (bb (pv 0) gb)) lb (wc _)) (ae Zd (pv 0) (Gb Ce (pv 5) (gc Dc rfl T.Nm Xc (bb (pv 0) gb))) (fun _ _=>rfl)) lb))
   (db (Ab (i:=6) Rc.nd rfl (Or.inl rfl) (Gb Jc (Gb Rg (Gb Ce (pv 6) lb) lb) (Gb Rg (Gb Jc (Gb Rg (pv 5) (pv 5)) lb) lb)))
   (db (ye (kc oz (wb G__law_draw hr rfl T.Sb T.Lb.kp T.Ub .nil zb (bb (pv 0) (bb (Gb Jc lb (pv 5)) (bb (pv 3) gb)))) lb (wc _)) (ib (Ab (i:=6) Rc.nd rfl (Or.inl rfl) lb)) ic)
   (ib (Cc (jo PySem.F.plainAttrs_list PySem.F.slot_list_append PySem.F.type_list_append jg (pv 4) (bb (Gb Ce (pv 6) (pv 2)) gb))))))))
   (ib (Db (pv 4))))))),?_⟩
 simp only [Hb]
 refine fc (fun σ' H'=>Zb H H'∧Sc K a ns H'∧∃ mo:Int,(2 ≤ mo∧mo ≤ 1000000001)∧σ'=[some (.ref a),some (.int z),some (.int mo),none,none,none,none]) (fun D' hD _ _ _=>?_) ?_
 ·have d1:=Ee ns 80 (m:=4) (by decide)
  have d2:=Ze ns 80 (m:=4) (by decide)
  (walk_at "RD"; repeat (simp only [Hd];walk_at "RD"))
  refine ⟨⟨by decide,by decide,by decide⟩,by decide,fun p hp=>⟨S.new hp,by omega,by omega,by decide,_,SqL.of fb,?_⟩⟩
  obtain ⟨mo,hmo,hat⟩:∃ mo:Int,(2 ≤ mo∧mo ≤ 1000000001)∧atI [V.int 2,V.int 3,V.int 2,V.int (10 ^ Int.toNat 9 + 1)] (Ue ns 80 4)=some (.int mo):=by
   have:Ue ns 80 4=((0:Nat):Int)∨Ue ns 80 4=((1:Nat):Int)∨Ue ns 80 4=((2:Nat):Int)∨Ue ns 80 4=((3:Nat):Int):=by omega
   rcases this with e | e | e | e <;> rw [e]
   ·exact ⟨2,by decide,jc rfl⟩
   ·exact ⟨3,by decide,jc rfl⟩
   ·exact ⟨2,by decide,jc rfl⟩
   ·exact ⟨1000000001,by decide,jc rfl⟩
  exact ⟨_,hat,hD _ _ ⟨qb hp,S.new hp,mo,hmo,rfl⟩⟩
 rintro σ1 H1 ⟨s1,S1,mo,hmo,rfl⟩
 simp only [Hb]
 refine fc (fun σ' H'=>H'=H1∧∃ ra:Int,1 ≤ ra∧σ'=[some (.ref a),some (.int z),some (.int mo),some (.int ra),none,none,none]) (fun D' hD _ _ _=>?_) ?_
 ·have d1:=Ee ns 81 (m:=4) (by decide)
  (walk_at "RD"; repeat (simp only [Hd];walk_at "RD"))
  exact ⟨S1,by omega,by omega,by decide,hD _ _ ⟨rfl,_,by omega,rfl⟩⟩
 rintro σ2 H2 ⟨rfl,ra,hra,rfl⟩
 simp only [Hb]
 refine fc (fun σ' H'=>Sc K a ns H'∧Zb H2 H'∧∃ rl,H2 rl=none∧H' rl=some (.lst [])∧σ'=[some (.ref a),some (.int z),some (.int mo),some (.int ra),some (.ref rl),none,none]) (fun D hD _ _ _=>?_) ?_
 ·(walk_at "RD")
  exact ⟨Nat.zero_le _,fun rl hrl=>hD _ _ ⟨S1.new hrl,qb hrl,rl,hrl,fb,rfl⟩⟩
 rintro σ3 H3 ⟨S3,s3,rl,hrl,w3,rfl⟩
 (walk_at "RD")
 refine ⟨by omega,by omega,?_⟩
 refine jj.range (fun i σ H'=>Sc K a ns H'∧Zb H2 H'∧(∃ cs:List Int,H' rl=some (.lst (cs.map V.int))∧cs.length=i∧∀ x ∈ cs,0 ≤ x∧x ≤ 1000000000)∧∃ x1 x2,σ=[some (.ref a),some (.int z),some (.int mo),some (.int ra),some (.ref rl),x1,x2]) ?_ ?_ ?_
 ·exact ⟨S3,s3,⟨[],w3,rfl,fun x hx=>by simp at hx⟩,_,_,rfl⟩
 ·rintro i σ H' hi ⟨S4,s4,⟨cs,w4,hl,al⟩,x1,x2,rfl⟩
  have hi60:i < 60:=by omega
  simp only [Ak,Hb,List.set_cons_succ,List.set_cons_zero,Int.zero_add]
  refine fc (fun σ' H2=>H2=H'∧∃ v:Int,σ'=[some (.ref a),some (.int z),some (.int mo),some (.int ra),some (.ref rl),some (.int (i:Nat)),some (.int v)]) (fun D hD _ _ _=>?_) ?_
  ·(walk_at "RD")
   refine ⟨_,.inl S4.seq,?_⟩
   rw [List.length_map]
   by_cases c:(0:Int) < (ns.length:Int)
   ·rw [if_pos (decide_eq_true c)]
    obtain ⟨v,hv⟩:=xE ns (i:Int) c
    exact ⟨_,.inl S4.seq,by rw [List.length_map];exact c,_,S4.seq,_,by rw [List.length_map];exact hv,hD _ _ ⟨rfl,v,rfl⟩⟩
   ·rw [if_neg (by simpa using c)]
    exact hD _ _ ⟨rfl,1,rfl⟩
  rintro σ5 H5 ⟨rfl,v,rfl⟩
  simp only [Hb]
  refine fc (fun σ' H2=>H2=H5∧∃ v:Int,σ'=[some (.ref a),some (.int z),some (.int mo),some (.int ra),some (.ref rl),some (.int (i:Nat)),some (.int v)]) (fun D hD _ _ _=>?_) ?_
  ·have hii:(0:Int) ≤ (i:Int) * (i:Int)∧(i:Int) * (i:Int) ≤ 60 * 60:=⟨Int.mul_nonneg (by omega) (by omega),Int.mul_le_mul (by omega) (by omega) (by omega) (by decide)⟩
   (walk_at "RD")
   exact ⟨by decide,.inr ⟨by decide,by decide⟩,.inl ⟨by omega,by omega⟩,.inr ⟨by decide,by decide⟩,hD _ _ ⟨rfl,_,rfl⟩⟩
  rintro σ6 H6 ⟨rfl,v2,rfl⟩
  simp only [Hb]
  refine fc (fun σ' H2=>H2=H6∧∃ v:Int,σ'=[some (.ref a),some (.int z),some (.int mo),some (.int ra),some (.ref rl),some (.int (i:Nat)),some (.int v)]) (fun D hD _ _ _=>?_) ?_
  ·refine Ac (decide (Ue ns (90 + (i:Int)) ra > 0)) (fun Q hQ=>?_) (fun c=>?_) (fun c=>?_)
   ·(walk_at "RD"; repeat (simp only [Hd];walk_at "RD"))
    exact ⟨S4,by omega,by omega,by omega,hQ⟩
   ·(walk_at "RD")
    exact hD _ _ ⟨rfl,_,rfl⟩
   ·(walk_at "RD")
    exact hD _ _ ⟨rfl,_,rfl⟩
  rintro σ7 H7 ⟨rfl,v3,rfl⟩
  have m0:=Int.emod_nonneg v3 (show mo ≠ 0 by omega)
  have m1:=Int.emod_lt_of_pos v3 (show 0 < mo by omega)
  (walk_at "RD")
  refine ⟨.inl ⟨_,SqL.of w4⟩,by omega,_,w4,Nat.lt_of_le_of_lt (show (cs.map V.int).length ≤ 60 by rw [List.length_map];omega) (by decide),S4.set w4 (fun ob z e=>by cases e),s4.updN hrl,⟨cs ++ [v3 % mo],?_,by rw [List.length_append,hl];rfl,fun x hx=>?_⟩,_,rfl⟩
  ·rw [fb,List.map_append];rfl
  ·rcases List.mem_append.mp hx with hx | hx
   ·exact al x hx
   ·rw [List.mem_singleton.mp hx];omega
 ·rintro σ H' ⟨S4,s4,⟨cs,w4,hl,al⟩,x1,x2,rfl⟩
  (walk_at "RD")
  exact q rl cs H' (s1.trans s4) S4 (s1.free hrl) w4 (by omega) al
end
end My
namespace My
open PySem L2
noncomputable def XJ (t:Adr):Sp:=fun vs H Q _=>∃ (c:Addr) (ds:List WD) (z:Nat) (p:Addr) (sp:List SD),vs=[.ref c,.int z,.ref p]∧Uc t H c 9 ds∧DOk ds∧(0 < z∧z ≤ 1000)∧LO H p (List.map sdO sp)∧uR z ds sp∧NoT H∧∀ a H',Zb H H'→NoT H'→xi t H' a c 9 ds z sp→Q (.ref a) H'
noncomputable def cA (t:Adr) (K:PySem.W.Frag) (a:Addr) (ns:List Int):Sp:=fun vs H Q _=>∃ (wa:Addr) (d:WD) (z:Nat),vs=[.ref a,.ref wa,.int z]∧Sc K a ns H∧H wa=some (.tup (iw d))∧W46 d∧(5 ≤ z∧z ≤ 60)∧∀ pl c ds j H',Zb H H'→Sc K a ns H'→D46 d ds→xi t H' pl c 9 ds z (Ds (Re d.name (spF ns d z)) j)→Q (.ref pl) H'
theorem CL {H:Hp} {qs:List Addr} {os:List HO} (h:LQ H qs os) (n:Nat):LQ H (qs.drop n) (os.drop n):=by
 refine ⟨by rw [List.length_drop,List.length_drop,h.1],fun i q o hq ho=>?_⟩
 rw [List.getElem?_drop] at hq ho
 exact h.2 _ q o hq ho
theorem ZM {H:Hp} {qs:List Addr} {os:List HO} (h:LQ H qs os) (n:Nat):LQ H (qs.take n) (os.take n):=by
 refine ⟨by rw [List.length_take,List.length_take,h.1],fun i q o hq ho=>?_⟩
 rw [List.getElem?_take] at hq ho
 by_cases c:i < n
 ·rw [if_pos c] at hq ho
  exact h.2 i q o hq ho
 ·rw [if_neg c] at hq;cases hq
theorem lw2 {H:Hp} {p x y:Addr} {d e:WD} (hp:H p=none) (hx:H x=some (.tup (iw d))) (hy:H y=some (.tup (iw e))):LW (upd H p (.lst [.ref x,.ref y])) p [d,e]:=by
 have s:=qb (o:=.lst [.ref x,.ref y]) hp
 refine ⟨[x,y],fb,rfl,fun i q f h1 h2=>?_⟩
 match i,h1,h2 with
 | 0,h1,h2=>cases h1;cases h2;exact s _ _ hx
 | 1,h1,h2=>cases h1;cases h2;exact s _ _ hy
 | i + 2,h1,_=>simp at h1
section
variable {P:Program} {w:World} {K:PySem.W.Frag} {mg:Str→Option Value} {base:Heap} {t:Adr}
theorem sO (T:Txt w K mg t):Eb P w K mg base CX0 6 t.jh t.mh ["crossing","size","rows"] (XJ t):=by
 refine (OH T).quiet fun vs H Q E h=>?_
 obtain ⟨c,ds,z,p,sp,rfl,C,D,hz,L,S,nt,q⟩:=h
 refine ⟨c,9,ds,z,p,sp,rfl,C,by decide,D,hz,L,S.ok,S.kn,nt,?_⟩
 exact ⟨fun _ _ _ a H' s' n' PA=>q a H' s' n' PA,(fun x hx=>by rw [S.nv] at hx;cases hx),(fun e _ hs=>by rw [S.sh] at hs;cases hs),(fun e _ _ hcl=>by rw [S.cl] at hcl;cases hcl)⟩
theorem BH (T:Txt w K mg t) (a:Addr) (ns:List Int) (h63:ns.length ≤ 63):Eb P w K mg base CX0 9 t.Wi t.Ui ["_law_script","_law_way_here","_law_size"] (cA t K a ns):=by
 have G__law_draw:Eb P w K mg base CX0 8 t.ue t.me ["_law_script","_law_k","_law_many"] (Hd K a ns):=(Vq T a ns h63).mono (by decide)
 have G__law_spans:Eb P w K mg base CX0 8 t.ag t.rg ["_law_script","_law_way_here","_law_size"] (Uq K a ns):=(Kw T a ns h63).mono (by decide)
 have G__law_text:Eb P w K mg base CX0 8 t.bj t.Oi ["_law_places","_law_ways"] (gA K):=(uI T).mono (by decide)
 have G_read_crossing:Eb P w K mg base CX0 8 t.lf t.Ve ["text"] (sP t):=(uQ T).mono (by decide)
 have G_made_plan:Eb P w K mg base CX0 8 t.jh t.mh ["crossing","size","rows"] (XJ t):=(sO T).mono (by decide)
 refine T.Vl.ok qg (fun vs H Q E h=>?_) (fun cdv A outer s H vs Q E hr h=>?_)
 ·obtain ⟨wa,d,z,rfl,_⟩:=h;rfl
 obtain ⟨wa,d,z,rfl,S,hw,W,hz,q⟩:=h
 have hl3:=lv (ns:=ns) W hz.1
 refine ⟨_,(db (Ab (i:=3) qg.nd rfl (Or.inl rfl) (Hq (bb yc (bb yc (bb lb (bb lb (bb lb (bb lb (bb lb gb)))))))))
   (db (Hi (i:=4) qg.nd rfl (Or.inl rfl) rfl (ce (wb G__law_spans hr rfl T.Eo T.Ph.kp T.jp .nil zb (bb (pv 0) (bb (pv 1) (bb (pv 2) gb))))) (Nd (sc:=jb tm) rfl (by decide +kernel)) (N:=["_law_span","_law_way_here"]) (sel:=[none,some 1]) (ve (M:=["_law_script","_law_way_here","_law_size","_law_other","_law_rows","_law_names"]) (by decide +kernel)) (Blk.of (fun _ _ _ _=>(yb (i:=0) (yi (N:=["_law_span","_law_way_here"]) (by decide +kernel) rfl) rfl (Or.inl rfl))) (fun _ _ _ _=>⟨_,Tg,by first | rfl | (dsimp only [Cx.block];done) | (dsimp only [Cx.block];exact rfl)⟩) (fun _ _ _ _=>⟨_,(Hq (bb (ae wg (pv 1) lb (fun _ _=>rfl)) (bb (ae wg (pv 0) lb (fun _ _=>rfl)) (bb (ae wg (pv 0) lb (fun _ _=>rfl)) gb)))),by first | rfl | (dsimp only [Cx.block];done) | (dsimp only [Cx.block];exact rfl)⟩)) rfl)
   (db (Cc (jo PySem.F.plainAttrs_list PySem.F.slot_list_insert PySem.F.type_list_insert fD (pv 4) (bb (wb G__law_draw hr rfl T.Sb T.Lb.kp T.Ub .nil zb (bb (pv 0) (bb lb (bb (Gb Jc (gc Dc rfl T.Nm Xc (bb (pv 4) gb)) lb) gb)))) (bb (Hq (bb yc (bb lb (bb lb gb)))) gb))))
   (db (Ab (i:=5) qg.nd rfl (Or.inl rfl) (bg (bb (pv 1) (bb (pv 3) gb))))
   (db (ye (kc uj (wb G__law_draw hr rfl T.Sb T.Lb.kp T.Ub .nil zb (bb (pv 0) (bb lb (bb lb gb)))) lb (wc _)) (ib (Ab (i:=5) qg.nd rfl (Or.inl rfl) (bg (bb (pv 3) (bb (pv 1) gb))))) ic)
   (ib (Db (wb G_made_plan hr rfl T.ky T.Ul.kp T.jy .nil zb (bb (wb G_read_crossing hr rfl T.Bq T.Sg.kp T.Lq .nil zb (bb (wb G__law_text hr rfl T.Yx T.um.kp T.ny .nil zb (bb lb (bb (pv 5) gb))) gb)) (bb (pv 2) (bb (pv 4) gb))))))))))),?_⟩
 simp only [Hb]
 refine fc (fun σ' H'=>Zb H H'∧Sc K a ns H'∧∃ ob,H' ob=some (.tup (iw oth))∧σ'=[some (.ref a),some (.ref wa),some (.int z),some (.ref ob),none,none]) (fun D' hD _ _ _=>?_) ?_
 ·(walk_at "RD")
  exact ⟨by decide,fun p hp=>hD _ _ ⟨qb hp,S.new hp,p,fb,rfl⟩⟩
 rintro σ1 H1 ⟨s1,S1,ob,eo,rfl⟩
 have hw1:=s1 _ _ hw
 simp only [Hb]
 refine fc (fun σ' H'=>Zb H1 H'∧Sc K a ns H'∧∃ rl,H1 rl=none∧LO H' rl (List.map sdO (Re d.name (spF ns d z)))∧σ'=[some (.ref a),some (.ref wa),some (.int z),some (.ref ob),some (.ref rl),none]) (fun D' hD _ _ _=>?_) ?_
 ·(walk_at "RD")
  refine ⟨wa,d,z,rfl,S1,hw1,W,hz,fun p H2 s2 S2 L2=>?_⟩
  obtain ⟨os,l1,l2⟩:=L2
  have hol:os.length ≤ 3:=by rw [l2.1,List.length_map];omega
  refine ⟨p,rfl,⟨_,SqL.of l1⟩,?_⟩
  refine Pd.list (xs:=os.map V.ref) (fun i ys H'=>∃ o2:List Addr,ys=o2.map V.ref∧LQ H' o2 (((Re d.name (spF ns d z)).take i).map sdO)∧Zb H2 H'∧Sc K a ns H') (Nat.le_trans (show (os.map V.ref).length ≤ 3 by rw [List.length_map];omega) (by decide)) ⟨[],rfl,LQ.nil _,Zb.refl _,S2⟩ ?_ ?_ ?_
  ·rintro i ys H' hi ⟨o2,rfl,r,sm,_⟩
   refine ⟨SqL.of (sm _ _ l1),?_⟩
   rw [List.length_map,r.1,List.length_map,List.length_take];omega
  ·rintro i v ys H' hv ⟨o2,rfl,r,sm,S3⟩ N hN
   obtain ⟨qi,hqi,rfl⟩:=qc hv
   obtain ⟨o,ho,e⟩:=l2.at hqi
   obtain ⟨sp,hsp,rfl⟩:=qc ho
   have e':H' qi=some (.tup [.int sp.1,.int sp.2]):=sm _ _ e
   have hw3:=sm _ _ (s2 _ _ hw1)
   have hrow:(Re d.name (spF ns d z))[i]? = some ⟨d.name,sp.1,sp.2⟩:=by unfold Re;rw [List.getElem?_map,hsp];rfl
   dsimp only at hN
   rw [Xg hrow,List.map_append] at hN
   (walk_at "RD")
   refine ⟨Sub.name,_,SqT.of hw3,_,td1 d,_,SqT.of e',_,jc (j:=0) rfl,_,SqT.of e',_,jc (j:=1) rfl,by decide,fun p1 hp1=>?_⟩
   exact hN _ _ ⟨o2 ++ [p1],by rw [List.map_append];rfl,(r.same (qb hp1)).app (LQ.one fb),sm.trans (qb hp1),S3.new hp1⟩
  ·rintro ys H3 ⟨o2,rfl,r,sm,S3⟩ p1 hp1
   rw [List.take_of_length_le (by unfold Re;rw [List.length_map,List.length_map,l2.1,List.length_map];exact Nat.le_refl _)] at r
   exact hD _ _ ⟨(s2.trans sm).trans (qb hp1),S3.new hp1,p1,(s2.trans sm).free hp1,⟨o2,fb,r.same (qb hp1)⟩,rfl⟩
 rintro σ2 H2 ⟨s2,S2,rl,hrl,L2,rfl⟩
 have hw2:=s2 _ _ hw1
 have eo2:=s2 _ _ eo
 obtain ⟨os,l1,l2⟩:=L2
 have hol:os.length=(spF ns d z).length:=by rw [l2.1,List.length_map];unfold Re;rw [List.length_map]
 have d1:=Ee ns 70 (m:=(os.length:Int) + 1) (by omega)
 have d2:=Ze ns 70 (m:=(os.length:Int) + 1) (by omega)
 simp only [Hb]
 refine fc (fun σ' H'=>Zb H1 H'∧Sc K a ns H'∧(∃ j,LO H' rl (List.map sdO (Ds (Re d.name (spF ns d z)) j)))∧σ'=[some (.ref a),some (.ref wa),some (.int z),some (.ref ob),some (.ref rl),none]) (fun D' hD _ _ _=>?_) ?_
 ·(walk_at "RD"; repeat (simp only [Hd];walk_at "RD"))
  refine ⟨.inl ⟨_,SqL.of l1⟩,_,.inl (SqL.of l1),S2,by omega,by omega,by rw [List.length_map];omega,by decide,fun p1 hp1=>?_⟩
  have hrp:rl ≠ p1:=ub l1 hp1
  rw [List.length_map]
  refine ⟨_,by rw [pb hrp];exact l1,d1,by omega,by rw [List.length_map];omega,Nat.lt_of_le_of_lt (show (os.map V.ref).length ≤ 3 by rw [List.length_map];omega) (by decide),?_⟩
  have sm:Zb H1 (upd (upd H2 p1 (.tup [.str (Str.ofString "c"),.int 0,.int 1])) rl (.lst ((os.map V.ref).take (Ue ns 70 ((os.length:Int) + 1)).toNat ++ V.ref p1 :: (os.map V.ref).drop (Ue ns 70 ((os.length:Int) + 1)).toNat))):=(s2.trans (qb hp1)).updN hrl
  refine hD _ _ ⟨sm,(S2.new hp1).set (by rw [pb hrp];exact l1) (fun _ _ z=>by cases z),⟨(Ue ns 70 ((os.length:Int) + 1)).toNat,os.take (Ue ns 70 ((os.length:Int) + 1)).toNat ++ p1 :: os.drop (Ue ns 70 ((os.length:Int) + 1)).toNat,?_,?_⟩,rfl⟩
  ·rw [fb,List.map_append,List.map_cons,List.map_take,List.map_drop]
  ·have lq:LQ (upd (upd H2 p1 (.tup [.str (Str.ofString "c"),.int 0,.int 1])) rl (.lst ((os.map V.ref).take (Ue ns 70 ((os.length:Int) + 1)).toNat ++ V.ref p1 :: (os.map V.ref).drop (Ue ns 70 ((os.length:Int) + 1)).toNat))) os (List.map sdO (Re d.name (spF ns d z))):=by
    refine ⟨l2.1,fun i q o hq ho=>?_⟩
    have e:=l2.2 i q o hq ho
    obtain ⟨sd,_,rfl⟩:=qc ho
    rw [pb (Ag e l1 fun z=>by cases z),pb (ub e hp1)]
    exact e
   unfold Ds
   rw [List.map_append,List.map_cons,List.map_take,List.map_drop]
   refine (ZM lq _).app ?_
   have l1':=(LQ.one (p:=p1) (o:=sdO ⟨Str.ofString "c",0,1⟩) (show upd (upd H2 p1 (.tup [.str (Str.ofString "c"),.int 0,.int 1])) rl (.lst ((os.map V.ref).take (Ue ns 70 ((os.length:Int) + 1)).toNat ++ V.ref p1 :: (os.map V.ref).drop (Ue ns 70 ((os.length:Int) + 1)).toNat)) p1=_ by rw [pb (Ne.symm hrp),fb];rfl)).app (CL lq (Ue ns 70 ((os.length:Int) + 1)).toNat)
   exact l1'
 rintro σ3 H3 ⟨s3,S3,⟨j,L3⟩,rfl⟩
 clear l1 l2 hol d1 d2
 have hw3:=s3 _ _ hw1
 have eo3:=s3 _ _ eo
 simp only [Hb]
 refine fc (fun σ' H'=>Zb H3 H'∧Sc K a ns H'∧∃ nl ds,D46 d ds∧LW H' nl ds∧σ'=[some (.ref a),some (.ref wa),some (.int z),some (.ref ob),some (.ref rl),some (.ref nl)]) (fun D' hD _ _ _=>?_) ?_
 ·(walk_at "RD")
  refine ⟨by decide,fun p hp=>hD _ _ ⟨qb hp,S3.new hp,p,[d,oth],.inl rfl,lw2 hp hw3 eo3,rfl⟩⟩
 rintro σ4 H4 ⟨s4,S4,nl,ds0,D0,W0,rfl⟩
 have hw4:=s4 _ _ hw3
 have eo4:=s4 _ _ eo3
 simp only [Hb]
 refine fc (fun σ' H'=>Zb H3 H'∧Sc K a ns H'∧∃ nl ds,D46 d ds∧LW H' nl ds∧σ'=[some (.ref a),some (.ref wa),some (.int z),some (.ref ob),some (.ref rl),some (.ref nl)]) (fun D' hD _ _ _=>?_) ?_
 ·refine Ac (decide (Ue ns 71 2=0)) (fun Q hQ=>?_) (fun _=>?_) (fun _=>?_)
  ·(walk_at "RD"; repeat (simp only [Hd];walk_at "RD"))
   exact ⟨S4,by omega,by omega,by decide,hQ⟩
  ·(walk_at "RD")
   exact ⟨by decide,fun p hp=>hD _ _ ⟨s4.trans (qb hp),S4.new hp,p,[oth,d],.inr rfl,lw2 hp eo4 hw4,rfl⟩⟩
  ·(walk_at "RD")
   exact hD _ _ ⟨s4,S4,nl,ds0,D0,W0,rfl⟩
 rintro σ5 H5 ⟨s5,S5,nl,ds,D,W5,rfl⟩
 have Dk:=D.ds W
 have hdl:=D.len
 (walk_at "RD")
 refine ⟨9,nl,ds,rfl,W5,Dk,by decide,by omega,S5.nt,?_⟩
 refine ⟨9,ds,rfl,Dk.cok (by decide) (by omega),S5.nt,fun c H6 s6 n6 C6=>?_⟩
 refine ⟨c,ds,z,rl,Ds (Re d.name (spF ns d z)) j,rfl,C6,D.dok W,by omega,L3.same (s5.trans s6),lS W D hz j,n6,fun pl H7 s7 n7 PA=>?_⟩
 have sall:=(((s1.trans s3).trans s5).trans s6).trans s7
 exact q pl c ds j H7 sall (S.same sall n7) D PA
end
end My
namespace My
open PySem L2
theorem Dj.step {t:Adr} {x:Str} {H H1:Hp} {E:XK} (h:Dj t x H E) (s:Zb H H1) (n:NoT H→NoT H1):Dj t x H1 E:=fun dx H' s' n' e=>h dx H' (s.trans s') (fun z=>n' (n z)) e
structure SIn (t:Adr) (H:Hp) (pl c:Addr) (n:Int) (ds:List WD) (z:Nat) (sp:List SD) (x:Str):Prop where
 pl:xi t H pl c n ds z sp
 z0:0 < z∧z ≤ 1000
 sm:uy x
 st:dm ds x
theorem SIn.same {t:Adr} {H H':Hp} {pl c:Addr} {n:Int} {ds:List WD} {z:Nat} {sp:List SD} {x:Str} (h:SIn t H pl c n ds z sp x) (s:Zb H H'):SIn t H' pl c n ds z sp x:=⟨h.pl.sameT (Vw s),h.z0,h.sm,h.st⟩
noncomputable def lr (t:Adr):Sp:=fun vs H Q E=>∃ pl c n ds z sp x cm y m,vs=[.ref pl,.str x,.ref cm,.int y,.int m]∧SIn t H pl c n ds z sp x∧Dj t x H E
noncomputable def Bi (t:Adr):Sp:=fun vs H Q E=>∃ pl c n ds z sp x cm,vs=[.ref pl,.str x,.ref cm]∧SIn t H pl c n ds z sp x∧Dj t x H E
noncomputable def Jw (t:Adr):Sp:=fun vs H Q E=>∃ pl c n ds z sp x cm turn,vs=[.ref pl,.str x,.ref cm,.int turn]∧SIn t H pl c n ds z sp x∧Dj t x H E
noncomputable def Iz (t:Adr):Sp:=fun vs H Q _=>∃ pl c n ds z sp cm,vs=[.ref pl,.ref cm]∧xi t H pl c n ds z sp∧(0 < z∧z ≤ 1000)∧dm ds (Str.ofString "zz")∧dm ds (Str.ofString "")∧dm ds (Str.ofString "A")∧NoT H∧∀ H',Zb H H'→NoT H'→Q (.bl true) H'
theorem yD {xs ys:List Str}:∀ x ∈ Rb xs,∀ y ∈ Rb ys,jQ x y=true:=fun x hx y hy=>by
 obtain ⟨i,_,rfl⟩:=List.mem_map.mp hx
 obtain ⟨j,_,rfl⟩:=List.mem_map.mp hy
 rfl
section
variable {P:Program} {w:World} {K:PySem.W.Frag} {mg:Str→Option Value} {base:Heap} {t:Adr}
theorem xw (T:Txt w K mg t) {cd Pt:Addr} (hc:t.zc.code=.ref cd) (hC:PySem.W.CodeHd base cd Pt) (hB:base.BuiltinsAt mg Pt):Eb P w K mg base (CX1 P w) 5 t.Hc t.Ic ["plan","name","comings","standing","turns"] (lr t):=by
 have GX_Crossing_called:Eb P w K mg base (CX1 P w) 4 t.Ib t.Nb ["self","name"] (qu t):=fC T
 have G_coming_by:Eb P w K mg base CX0 4 t.fh t.zc ["comings"] (Nr Pt):=(Lw T hc hC hB).mono (by decide)
 have G_free:Eb P w K mg base CX0 4 t.yw t.Rw ["plan","name","turn"] (Jy t):=zF T
 have V_Way_goes:wB P w K mg base CX0 4 (isW t) "goes" ["self","many"] (Pk t):=Xm (oJ T) (by decide)
 refine T.Ob.okX Mb (fun vs H Q E h=>?_) (fun cdv A outer s H vs Q E hr h=>?_)
 ·obtain ⟨pl,c,n,ds,z,sp,x,cm,y,m,rfl,_⟩:=h;rfl
 obtain ⟨pl,c,n,ds,z,sp,x,cm,y,m,rfl,I,q⟩:=h
 obtain ⟨dx,p,lm,un,hpl,C,_,_,_⟩:=I.pl.at_
 obtain ⟨⟨hnd,_⟩,dxc,wl,nd,e1,_,_⟩:=id C
 refine ⟨_,(db (Ab (i:=5) Mb.nd rfl (Or.inl rfl) (wd (Vb (pv 0) rfl) T.Jb T.Yb GX_Crossing_called hr T.Xb .nil uf (bb (pv 1) gb)))
   (db (Ab (i:=6) Mb.nd rfl (Or.inl rfl) (wb G_coming_by hr rfl T.jm T.gh.kp T.br .nil zb (bb (pv 2) gb)))
   (db (ee (oe ⟨rfl,rfl⟩) rfl (qe rfl T.Bg (bb (pv 4) gb)) (yb (i:=7) Mb.nd rfl (Or.inl rfl)) (db (Pz (i:=3) Mb.nd rfl (Or.inl rfl) (Fz (q:=og) (params:=nQ (dy ac)) (body:=eQ (dy ac)) (scope:=zO (dy ac)) (pv 6) Uo hr (bb (pv 7) gb) (fun _ _ _ _ _=>rfl) (fun _ _ _ _ _=>⟨_,(ae Zd (pv 1) (Gb Ce (pv 0) (gc Dc rfl T.Nm Xc (bb (pv 1) gb))) (fun _ _=>rfl)),by first | rfl | (dsimp only [vt];done) | (dsimp only [vt];exact rfl)⟩)) RJ)
   (ib (ye (dj (wb G_free hr rfl T.FJ T.iA.kp T.OJ .nil zb (bb (pv 0) (bb (pv 1) (bb (pv 7) gb))))) (ib (Pz (i:=3) Mb.nd rfl (Or.inl rfl) (JA (pv 5) V_Way_goes hr zb (bb (pv 3) gb)) eK)) ic))))
   (ib (Db (pv 3)))))),?_⟩
 simp only [Hb]
 refine fc (fun _ _=>False) (fun D' hD _ _ _=>?_) (fun _ _ h=>h.elim)
 (walk_at "RD")
 exact ⟨_,rm T hpl,_,rfl,_,_,e1,Dw _ _ _ (by decide +kernel),c,n,ds,x,rfl,C,I.sm,.inr ⟨I.st,q⟩⟩
theorem Qq (T:Txt w K mg t) {cd Pt:Addr} (hc:t.zc.code=.ref cd) (hC:PySem.W.CodeHd base cd Pt) (hB:base.BuiltinsAt mg Pt):Eb P w K mg base (CX1 P w) 6 t.Yi t.aj ["plan","name","comings"] (Bi t):=by
 have GX_standing_after:Eb P w K mg base (CX1 P w) 5 t.Hc t.Ic ["plan","name","comings","standing","turns"] (lr t):=xw T hc hC hB
 refine T.Wj.okX Pp (fun vs H Q E h=>?_) (fun cdv A outer s H vs Q E hr h=>?_)
 ·obtain ⟨pl,c,n,ds,z,sp,x,cm,rfl,_⟩:=h;rfl
 obtain ⟨pl,c,n,ds,z,sp,x,cm,rfl,I,q⟩:=h
 obtain ⟨dx,p,lm,un,hpl,_⟩:=I.pl.at_
 refine ⟨_,(db (Ab (i:=3) Pp.nd rfl (Or.inl rfl) (wb GX_standing_after hr rfl T.bc T.Ob.kp T.dc .nil uf (bb (pv 0) (bb (pv 1) (bb (pv 2) (bb lb (bb (Vb (pv 0) rfl) gb)))))))
   (ib (Db (Gb Oe (wb GX_standing_after hr rfl T.bc T.Ob.kp T.dc .nil uf (bb (pv 0) (bb (pv 1) (bb (pv 2) (bb (pv 3) (bb (Vb (pv 0) rfl) gb)))))) (pv 3))))),?_⟩
 (walk_at "RD")
 exact ⟨_,Ej T hpl,pl,c,n,ds,z,sp,x,cm,0,z,rfl,I,q⟩
theorem FC (T:Txt w K mg t) {cd Pt:Addr} (hc:t.zc.code=.ref cd) (hC:PySem.W.CodeHd base cd Pt) (hB:base.BuiltinsAt mg Pt):Eb P w K mg base (CX1 P w) 7 t.Bo t.bo ["plan","name","comings","turn"] (Jw t):=by
 have GX_standing_after:Eb P w K mg base (CX1 P w) 6 t.Hc t.Ic ["plan","name","comings","standing","turns"] (lr t):=(xw T hc hC hB).mono (by decide)
 have GX_grows:Eb P w K mg base (CX1 P w) 6 t.Yi t.aj ["plan","name","comings"] (Bi t):=Qq T hc hC hB
 refine T.Sj.okX Of (fun vs H Q E h=>?_) (fun cdv A outer s H vs Q E hr h=>?_)
 ·obtain ⟨pl,c,n,ds,z,sp,x,cm,turn,rfl,_⟩:=h;rfl
 obtain ⟨pl,c,n,ds,z,sp,x,cm,turn,rfl,I,q⟩:=h
 obtain ⟨dx,p,lm,un,hpl,_⟩:=I.pl.at_
 have hz:=I.z0
 refine ⟨_,(db (Fo (gc Gq rfl T.aA Hm (bb (pv 3) (bb (Vb (pv 0) rfl) gb))) (Ge (K:=K) (n:=2) rfl rfl (Kb (yb (i:=4) Of.nd rfl (Or.inl rfl) (.inl rfl)) (Kb (yb (i:=5) Of.nd rfl (Or.inl rfl) (.inl rfl)) De))))
   (db (ye (kc uj (pv 4) lb (wc _)) (ib (Db (wb GX_standing_after hr rfl T.bc T.Ob.kp T.dc .nil uf (bb (pv 0) (bb (pv 1) (bb (pv 2) (bb lb (bb (pv 5) gb)))))))) ic)
   (db (Ab (i:=6) Of.nd rfl (Or.inl rfl) (wb GX_standing_after hr rfl T.bc T.Ob.kp T.dc .nil uf (bb (pv 0) (bb (pv 1) (bb (pv 2) (bb lb (bb (Vb (pv 0) rfl) gb)))))))
   (db (Ab (i:=7) Of.nd rfl (Or.inl rfl) (Gb Jc (pv 6) (Gb Rg (Gb Oe (pv 4) lb) (wb GX_grows hr rfl T.ur T.Wj.kp T.jr .nil uf (bb (pv 0) (bb (pv 1) (bb (pv 2) gb)))))))
   (ib (Db (wb GX_standing_after hr rfl T.bc T.Ob.kp T.dc .nil uf (bb (pv 0) (bb (pv 1) (bb (pv 2) (bb (pv 7) (bb (pv 5) gb)))))))))))),?_⟩
 (walk_at "RD")
 refine ⟨_,Ej T hpl,_,rfl,⟨by omega,by omega⟩,fun tp htp=>⟨_,SqT.of fb,rfl,_,_,rfl,_,_,rfl,rfl,?_⟩⟩
 have s1:=qb (o:=.tup [.int (turn / (z:Int)),.int (turn % (z:Int))]) htp
 have n1:NoT H→NoT (upd H tp (.tup [.int (turn / (z:Int)),.int (turn % (z:Int))])):=fun n=>n.upd
 have q1:=q.step s1 n1
 have I1:=I.same s1
 have hpl1:=s1 _ _ hpl
 generalize upd H tp (.tup [.int (turn / (z:Int)),.int (turn % (z:Int))])=H1 at q1 I1 hpl1 ⊢
 refine Ac (decide (turn / (z:Int)=0)) (fun Q hQ=>?_) (fun hb=>?_) (fun hb=>?_)
 ·(walk_at "RD")
  exact hQ
 ·(walk_at "RD")
  exact ⟨pl,c,n,ds,z,sp,x,cm,0,_,rfl,I1,q1⟩
 ·(walk_at "RD")
  exact ⟨_,Ej T hpl1,pl,c,n,ds,z,sp,x,cm,0,z,rfl,I1,q1⟩
theorem KH (T:Txt w K mg t) {cd Pt:Addr} (hc:t.zc.code=.ref cd) (hC:PySem.W.CodeHd base cd Pt) (hB:base.BuiltinsAt mg Pt):Eb P w K mg base (CX1 P w) 7 t.Qm t.Lm ["plan","name","comings"] (Bi t):=by
 have GX_grows:Eb P w K mg base (CX1 P w) 6 t.Yi t.aj ["plan","name","comings"] (Bi t):=Qq T hc hC hB
 refine T.gr.okX YA (fun vs H Q E h=>?_) (fun cdv A outer s H vs Q E hr h=>?_)
 ·obtain ⟨pl,c,n,ds,z,sp,x,cm,rfl,_⟩:=h;rfl
 obtain ⟨pl,c,n,ds,z,sp,x,cm,rfl,I,q⟩:=h
 refine ⟨_,(db (ye (kc oz (wb GX_grows hr rfl T.ur T.Wj.kp T.jr .nil uf (bb (pv 0) (bb (pv 1) (bb (pv 2) gb)))) lb (wc _)) (ib (Db pA)) ic) DD),?_⟩
 exact ⟨_,rfl,_,rfl,_,rfl,pl,c,n,ds,z,sp,x,cm,rfl,I,q⟩
theorem DI (T:Txt w K mg t) {cd Pt:Addr} (hc:t.zc.code=.ref cd) (hC:PySem.W.CodeHd base cd Pt) (hB:base.BuiltinsAt mg Pt):Eb P w K mg base CX0 8 t.Hg t.Ig ["_law_plan_here","_law_comings_here"] (Iz t):=by
 have GX_grows:Eb P w K mg base (CX1 P w) 7 t.Yi t.aj ["plan","name","comings"] (Bi t):=(Qq T hc hC hB).mono (by decide)
 have GX_queue:Eb P w K mg base (CX1 P w) 7 t.Bo t.bo ["plan","name","comings","turn"] (Jw t):=FC T hc hC hB
 have GX_slowest:Eb P w K mg base (CX1 P w) 7 t.Qm t.Lm ["plan","name","comings"] (Bi t):=KH T hc hC hB
 refine T.Ii.ok Le (fun vs H Q E h=>?_) (fun cdv A outer s H vs Q E hr h=>?_)
 ·obtain ⟨pl,c,n,ds,z,sp,cm,rfl,_⟩:=h;rfl
 obtain ⟨pl,c,n,ds,z,sp,cm,rfl,PA,hz,st1,st2,st3,nt,q⟩:=h
 have hU:=hr.units
 refine ⟨_,(db (Ab (i:=2) Le.nd rfl (Or.inl rfl) (bg gb))
   (db (By (i:=3) (fun _ _=>⟨_,(ib (Cc (sv GX_grows hr rfl T.ur T.Wj.kp T.jr .nil Zx (bb (pv 0) (bb yc (bb (pv 1) gb)))))),by first | rfl | (dsimp only [Cx.tr,Cx.hn];done) | (dsimp only [Cx.tr,Cx.hn];exact rfl)⟩) rfl T.bv (fun _=>⟨_,(ib (Cc (jo PySem.F.plainAttrs_list PySem.F.slot_list_append PySem.F.type_list_append jg (pv 2) (bb (Tx (pv 3) rfl) gb)))),by first | rfl | (dsimp only [Cx.tr,Cx.hn];done) | (dsimp only [Cx.tr,Cx.hn];exact rfl)⟩) Le.nd rfl rfl)
   (db (By (i:=3) (fun _ _=>⟨_,(ib (Cc (sv GX_queue hr rfl T.Vr T.Sj.kp T.Br .nil Zx (bb (pv 0) (bb yc (bb (pv 1) (bb lb gb))))))),by first | rfl | (dsimp only [Cx.tr,Cx.hn];done) | (dsimp only [Cx.tr,Cx.hn];exact rfl)⟩) rfl T.bv (fun _=>⟨_,(ib (Cc (jo PySem.F.plainAttrs_list PySem.F.slot_list_append PySem.F.type_list_append jg (pv 2) (bb (Tx (pv 3) rfl) gb)))),by first | rfl | (dsimp only [Cx.tr,Cx.hn];done) | (dsimp only [Cx.tr,Cx.hn];exact rfl)⟩) Le.nd rfl rfl)
   (db (By (i:=3) (fun _ _=>⟨_,(ib (Cc (sv GX_slowest hr rfl T.iG T.gr.kp T.zC .nil Zx (bb (pv 0) (bb yc (bb (pv 1) gb)))))),by first | rfl | (dsimp only [Cx.tr,Cx.hn];done) | (dsimp only [Cx.tr,Cx.hn];exact rfl)⟩) rfl T.bv (fun _=>⟨_,(ib (Cc (jo PySem.F.plainAttrs_list PySem.F.slot_list_append PySem.F.type_list_append jg (pv 2) (bb (Tx (pv 3) rfl) gb)))),by first | rfl | (dsimp only [Cx.tr,Cx.hn];done) | (dsimp only [Cx.tr,Cx.hn];exact rfl)⟩) Le.nd rfl rfl)
   (ib (Db (Se (QP hU) (pv 2) (bg (bb yc (bb yc (bb yc gb)))) (wc _)))))))),?_⟩
 simp only [Hb]
 refine fc (fun σ' H'=>Zb H H'∧NoT H'∧∃ fl,H fl=none∧H' fl=some (.lst (Rb []))∧σ'=[some (.ref pl),some (.ref cm),some (.ref fl),none]) (fun D' hD _ _ _=>?_) ?_
 ·(walk_at "RD")
  exact ⟨Nat.zero_le _,fun fl hfl=>hD _ _ ⟨qb hfl,nt.upd,fl,hfl,fb,rfl⟩⟩
 rintro σ1 H1 ⟨s1,n1,fl,hfl,e1,rfl⟩
 simp only [Hb]
 refine fc (fun σ' H'=>Zb H H'∧NoT H'∧H' fl=some (.lst (Rb [Str.ofString "zz"]))∧σ'=[some (.ref pl),some (.ref cm),some (.ref fl),none]) (fun D' hD _ _ _=>?_) ?_
 ·(walk_at "RD")
  refine ⟨pl,c,n,ds,z,sp,Str.ofString "zz",cm,rfl,⟨PA.sameT (Vw s1),hz,by unfold uy;decide +kernel,st1⟩,fun dx Hx sx nx hd=>?_⟩
  (walk_at "RD")
  refine ⟨_,rfl,T.ci,fun ex hex=>⟨.inl ⟨_,SqL.of (sx _ _ e1)⟩,_,_,hex,_,hd,T.Xn,T.Jg,_,yd [Str.ofString "name"] 0 rfl (by decide +kernel) rfl,_,sx _ _ e1,by decide,?_⟩⟩
  exact hD _ _ ⟨(s1.trans sx).updN hfl,(nx n1).upd,by rw [fb];rfl,rfl⟩
 rintro σ2 H2 ⟨s2,n2,e2,rfl⟩
 simp only [Hb]
 refine fc (fun σ' H'=>Zb H H'∧NoT H'∧H' fl=some (.lst (Rb [Str.ofString "zz",Str.ofString ""]))∧σ'=[some (.ref pl),some (.ref cm),some (.ref fl),none]) (fun D' hD _ _ _=>?_) ?_
 ·(walk_at "RD")
  refine ⟨pl,c,n,ds,z,sp,Str.ofString "",cm,5,rfl,⟨PA.sameT (Vw s2),hz,by unfold uy;decide +kernel,st2⟩,fun dx Hx sx nx hd=>?_⟩
  (walk_at "RD")
  refine ⟨_,rfl,T.ci,fun ex hex=>⟨.inl ⟨_,SqL.of (sx _ _ e2)⟩,_,_,hex,_,hd,T.Xn,T.Jg,_,yd [Str.ofString "name"] 0 rfl (by decide +kernel) rfl,_,sx _ _ e2,by decide,?_⟩⟩
  exact hD _ _ ⟨(s2.trans sx).updN hfl,(nx n2).upd,by rw [fb];rfl,rfl⟩
 rintro σ3 H3 ⟨s3,n3,e3,rfl⟩
 simp only [Hb]
 refine fc (fun σ' H'=>Zb H H'∧NoT H'∧H' fl=some (.lst (Rb [Str.ofString "zz",Str.ofString "",Str.ofString "A"]))∧σ'=[some (.ref pl),some (.ref cm),some (.ref fl),none]) (fun D' hD _ _ _=>?_) ?_
 ·(walk_at "RD")
  refine ⟨pl,c,n,ds,z,sp,Str.ofString "A",cm,rfl,⟨PA.sameT (Vw s3),hz,by unfold uy;decide +kernel,st3⟩,fun dx Hx sx nx hd=>?_⟩
  (walk_at "RD")
  refine ⟨_,rfl,T.ci,fun ex hex=>⟨.inl ⟨_,SqL.of (sx _ _ e3)⟩,_,_,hex,_,hd,T.Xn,T.Jg,_,yd [Str.ofString "name"] 0 rfl (by decide +kernel) rfl,_,sx _ _ e3,by decide,?_⟩⟩
  exact hD _ _ ⟨(s3.trans sx).updN hfl,(nx n3).upd,by rw [fb];rfl,rfl⟩
 rintro σ4 H4 ⟨s4,n4,e4,rfl⟩
 (walk_at "RD")
 refine ⟨by decide,fun p hp=>⟨_,EqH.flats (k:=7) (ys:=Rb [Str.ofString "zz",Str.ofString "",Str.ofString "A"]) (SqL.of ((qb hp) _ _ e4)) (SqL.of fb) yD,?_⟩⟩
 rw [decide_eq_true rfl]
 exact q _ (s4.trans (qb hp)) n4.upd
end
end My
namespace My
open PySem L2
end My
namespace L2
open PySem PySem.Spec PyProof.Rows
theorem qI {X:Cx} (hc:X.calm=true):Rm X (.builtin "sum") (fun xs H Q=>∃ l ks,xs=[.ref l]∧SqL X.K H l (List.map V.int ks)∧(∀ k ∈ ks,0 ≤ k∧k ≤ 1000000000)∧ks.length ≤ 1000∧Q (.int ks.sum) H):=by
 intro pins s σ H xs us Q I r h
 obtain ⟨l,ks,rfl,hq,hk,hl,q⟩:=h
 obtain ⟨u,rfl,ru⟩:=Fp r
 cases ru
 obtain ⟨its,rv,pl,hz⟩:=I.list hq
 obtain ⟨xs,e1,e2⟩:=fB rv
 have hil:its.toArray=intItems xs.toArray:=by rw [e1];unfold intItems;simp
 have hls:s.heap.IsList l (intItems xs.toArray):=by rw [← hil];exact pl.isList
 have hxl:xs.length=ks.length:=by rw [← e2,List.length_map]
 have hn:∀ i,i < ks.length→ks[i]? = some (numAt xs.toArray i):=fun i hi=>by
  rw [numAt_eq,List.getD_eq_getElem?_getD]
  show ks[i]? = some (((xs.map (·.1))[i]?).getD 0)
  rw [e2,List.getElem?_eq_getElem hi];rfl
 have hps:∀ n,n ≤ ks.length→preSum (numAt xs.toArray) n=(ks.take n).sum∧0 ≤ (ks.take n).sum∧(ks.take n).sum ≤ 1000000000 * (n:Int):=fun n=>by
  induction n with
  | zero=>intro _;exact ⟨by simp [preSum],by simp,by simp⟩
  | succ n ih=>
   intro hn'
   obtain ⟨i1,i2,i3⟩:=ih (by omega)
   have e:=hn n (by omega)
   have hv:=hk _ (List.mem_of_getElem? e)
   have es:(ks.take (n + 1)).sum=(ks.take n).sum + numAt xs.toArray n:=by
    rw [List.take_add_one,e,List.sum_append]
    simp
   refine ⟨?_,by omega,by omega⟩
   show preSum (numAt xs.toArray) n + numAt xs.toArray n=_
   rw [i1,es]
 have hsz:xs.toArray.size=ks.length:=by rw [List.size_toArray,hxl]
 refine sum_intList (I.ok.hd hc) hls (fun j hj=>?_) fun h' tk t' k=>⟨.int ks.sum,H,I.kept k,⟨t',?_⟩,q⟩
 ·rw [hsz] at hj
  have e:=hn j hj
  have hv:=hk _ (List.mem_of_getElem? e)
  obtain ⟨p1,p2,p3⟩:=hps (j + 1) (by omega)
  unfold InLong
  rw [p1]
  omega
 ·rw [hsz,(hps _ (Nat.le_refl _)).1,List.take_length]
end L2
namespace My
open PySem L2
noncomputable def VJ (K:PySem.W.Frag) (Pt:Addr):Sp:=fun vs H Q _=>∃ a ns,vs=[.ref a]∧Sc K a ns H∧ns.length ≤ 63∧wv Pt H∧∀ H',Q (.bl true) H'
theorem RM {ns:List Int}:∃ z:Nat,(5 ≤ z∧z ≤ 60)∧atI [V.int (5 + Ue ns 7 13),.int (5 + Ue ns 7 4),.int 24,.int 60] (Ue ns 8 4)=some (.int (z:Nat)):=by
 have a1:=Ee ns 7 (m:=13) (by decide)
 have a2:=Ze ns 7 (m:=13) (by decide)
 have b1:=Ee ns 7 (m:=4) (by decide)
 have b2:=Ze ns 7 (m:=4) (by decide)
 have d1:=Ee ns 8 (m:=4) (by decide)
 have d2:=Ze ns 8 (m:=4) (by decide)
 have:Ue ns 8 4=((0:Nat):Int)∨Ue ns 8 4=((1:Nat):Int)∨Ue ns 8 4=((2:Nat):Int)∨Ue ns 8 4=((3:Nat):Int):=by omega
 rcases this with e | e | e | e <;> rw [e]
 ·exact ⟨(5 + Ue ns 7 13).toNat,by omega,by rw [Int.toNat_of_nonneg (by omega)];exact jc rfl⟩
 ·exact ⟨(5 + Ue ns 7 4).toNat,by omega,by rw [Int.toNat_of_nonneg (by omega)];exact jc rfl⟩
 ·exact ⟨24,by decide,jc rfl⟩
 ·exact ⟨60,by decide,jc rfl⟩
theorem Qp {k:Nat} (h:k < 3):Kd k=Str.ofString "foot" ↔ k=1:=by
 match k,h with
 | 0,_=>exact ⟨fun z=>absurd z (by decide +kernel),fun z=>by cases z⟩
 | 1,_=>exact ⟨fun _=>rfl,fun _=>rfl⟩
 | 2,_=>exact ⟨fun z=>absurd z (by decide +kernel),fun z=>by cases z⟩
theorem iS {d:WD} (w:W46 d):Str.ofString "zz" ≠ d.name∧Str.ofString "" ≠ d.name∧Str.ofString "A" ≠ d.name:=by
 obtain ⟨k,j,e,o,h1,h2,h3,h4,rfl⟩:=w
 have:∀ j,j < 2→Str.ofString "zz" ≠ oC (97 + j)∧Str.ofString "" ≠ oC (97 + j)∧Str.ofString "A" ≠ oC (97 + j):=by decide +kernel
 exact this j h2
section
variable {P:Program} {w:World} {K:PySem.W.Frag} {mg:Str→Option Value} {base:Heap} {t:Adr}
theorem NN (T:Txt w K mg t) {cd Pt:Addr} (hc:t.zc.code=.ref cd) (hC:PySem.W.CodeHd base cd Pt) (hB:base.BuiltinsAt mg Pt):Eb P w K mg base CX0 10 t.KM t.UI ["_law_script"] (VJ K Pt):=by
 refine T.RQ.ok rf (fun vs H Q E h=>?_) (fun cdv A outer s H vs Q E hr h=>?_)
 ·obtain ⟨a,ns,rfl,_⟩:=h;rfl
 obtain ⟨a,ns,rfl,S,h63,tb,q⟩:=h
 have G__law_draw:Eb P w K mg base CX0 9 t.ue t.me ["_law_script","_law_k","_law_many"] (Hd K a ns):=(Vq T a ns h63).mono (by decide)
 have G__law_way:Eb P w K mg base CX0 9 t.Qk t.Nk ["_law_script"] (eE K a ns):=(fN T a ns h63).mono (by decide)
 have G__law_plan:Eb P w K mg base CX0 9 t.Wi t.Ui ["_law_script","_law_way_here","_law_size"] (cA t K a ns):=BH T a ns h63
 have G__law_comings:Eb P w K mg base CX0 9 t.Gf t.Uf ["_law_script","_law_size"] (wC K a ns):=(qM T a ns h63).mono (by decide)
 have G__law_free:Eb P w K mg base CX0 9 t.Ri t.Pi ["_law_script","_law_way_here","_law_size","_law_turn"] (dA K a ns):=(JI T a ns h63).mono (by decide)
 have G_grows:Eb P w K mg base CX0 9 t.Yi t.aj ["plan","name","comings"] (mv t Pt):=(AA T hc hC hB).mono (by decide)
 have G_queue:Eb P w K mg base CX0 9 t.Bo t.bo ["plan","name","comings","turn"] (Rz t Pt):=(gI T hc hC hB).mono (by decide)
 have G__law_no_way:Eb P w K mg base CX0 9 t.Hg t.Ig ["_law_plan_here","_law_comings_here"] (Iz t):=(DI T hc hC hB).mono (by decide)
 refine ⟨_,(db (Ab (i:=1) rf.nd rfl (Or.inl rfl) (ae Zd (bg (bb (Gb Jc lb (wb G__law_draw hr rfl T.Sb T.Lb.kp T.Ub .nil zb (bb (pv 0) (bb lb (bb lb gb))))) (bb (Gb Jc lb (wb G__law_draw hr rfl T.Sb T.Lb.kp T.Ub .nil zb (bb (pv 0) (bb lb (bb lb gb))))) (bb lb (bb lb gb))))) (wb G__law_draw hr rfl T.Sb T.Lb.kp T.Ub .nil zb (bb (pv 0) (bb lb (bb lb gb)))) (fun _ _=>rfl)))
   (db (Ab (i:=2) rf.nd rfl (Or.inl rfl) (wb G__law_way hr rfl T.gC T.so.kp T.qB .nil zb (bb (pv 0) gb)))
   (db (Ab (i:=3) rf.nd rfl (Or.inl rfl) (wb G__law_plan hr rfl T.Oy T.Vl.kp T.Ay .nil zb (bb (pv 0) (bb (pv 2) (bb (pv 1) gb)))))
   (db (Ab (i:=4) rf.nd rfl (Or.inl rfl) (wb G__law_comings hr rfl T.Js T.Uh.kp T.xt .nil zb (bb (pv 0) (bb (pv 1) gb))))
   (db (Ab (i:=5) rf.nd rfl (Or.inl rfl) (Gb Jc lb (wb G__law_draw hr rfl T.Sb T.Lb.kp T.Ub .nil zb (bb (pv 0) (bb lb (bb lb gb))))))
   (db (ye (PW.pt (BD (kc oz (gc Dc rfl T.Nm Xc (bb (pv 0) gb)) lb (wc _)) (Vy (kc uj (wb G__law_draw hr rfl T.Sb T.Lb.kp T.Ub .nil zb (bb (pv 0) (bb lb (bb lb gb)))) lb (wc _))))) (ib (Ab (i:=5) rf.nd rfl (Or.inl rfl) (Gb Jc lb (Gb Ce (ae Zd (pv 0) (wb G__law_draw hr rfl T.Sb T.Lb.kp T.Ub .nil zb (bb (pv 0) (bb lb (bb (gc Dc rfl T.Nm Xc (bb (pv 0) gb)) gb)))) (fun _ _=>rfl)) (Gb mK lb lb))))) ic)
   (db (Ab (i:=6) rf.nd rfl (Or.inl rfl) lb)
   (db (Ab (i:=7) rf.nd rfl (Or.inl rfl) lb)
   (db (ee PassesOwn.never rfl (qe rfl T.Bg (bb (pv 1) gb)) (yb (i:=8) rf.nd rfl (Or.inl rfl)) (db (Ab (i:=6) rf.nd rfl (Or.inl rfl) (Gb Jc (pv 6) (ae Zd (pv 4) (pv 8) (fun _ _=>rfl))))
   (ib (ye (dj (wb G__law_free hr rfl T.Iy T.im.kp T.Zy .nil zb (bb (pv 0) (bb (pv 2) (bb (pv 1) (bb (pv 8) gb)))))) (db (Ab (i:=7) rf.nd rfl (Or.inl rfl) (Gb Jc (pv 7) lb))
   (ib (Ab (i:=6) rf.nd rfl (Or.inl rfl) (ae Zd (bg (bb (gc (wm rfl) rfl T.YH Ck (bb lb (bb (Gb Oe (pv 6) lb) gb))) (bb lb gb))) (Ai KD rfl T.cN Nn (bb (Se uj (ae wg (pv 2) lb (fun _ _=>rfl)) yc (wc _)) gb)) (fun _ _=>rfl))))) ic))))
   (db (Ab (i:=9) rf.nd rfl (Or.inl rfl) (gc (wm rfl) rfl T.YH Ck (bb lb (bb (Gb Oe (gc (qI rfl) rfl T.TQ uB (bb (pv 4) gb)) (pv 7)) gb))))
   (db (ye (kc uj (ae wg (pv 2) lb (fun _ _=>rfl)) yc (wc _)) (ib (Ab (i:=9) rf.nd rfl (Or.inl rfl) lb)) ic)
   (db (Ab (i:=10) rf.nd rfl (Or.inl rfl) (wb G_grows hr rfl T.ur T.Wj.kp T.jr .nil zb (bb (pv 3) (bb (ae wg (pv 2) lb (fun _ _=>rfl)) (bb (pv 4) gb)))))
   (db (ye (PW.pt (vz (uq (dj (gc Jz rfl T.Vo zi (bb (pv 10) (bb (AF (v:=.ty "int") rfl T.cN Nn rfl) gb))))) (vz (dj (gc Jz rfl T.Vo zi (bb (pv 10) (bb (AF (v:=.ty "bool") rfl T.XN oy rfl) gb)))) (su (kc gz (pv 10) (pv 9) (wc _)))))) (ib (Db Ws)) ic)
   (db (ye (PW.pt (vz (kc gz (wb G_queue hr rfl T.Vr T.Sj.kp T.Br .nil zb (bb (pv 3) (bb (ae wg (pv 2) lb (fun _ _=>rfl)) (bb (pv 4) (bb (pv 1) gb))))) (pv 6) (wc _)) (su (uq (dj (wb G__law_no_way hr rfl T.xv T.Ii.kp T.yv .nil zb (bb (pv 3) (bb (pv 4) gb)))))))) (ib (Db Ws)) ic)
   (db (ye (kc gz (wb G_queue hr rfl T.Vr T.Sj.kp T.Br .nil zb (bb (pv 3) (bb (ae wg (pv 2) lb (fun _ _=>rfl)) (bb (pv 4) (bb (Gb Rg (pv 5) (pv 1)) gb))))) (Gb Jc (pv 6) (Gb Rg (Gb Oe (pv 5) lb) (pv 9))) (wc _)) (ib (Db Ws)) ic)
   (db (Ab (i:=8) rf.nd rfl (Or.inl rfl) (wb G__law_draw hr rfl T.Sb T.Lb.kp T.Ub .nil zb (bb (pv 0) (bb lb (bb (pv 1) gb)))))
   (db (Ab (i:=11) rf.nd rfl (Or.inl rfl) (wb G_queue hr rfl T.Vr T.Sj.kp T.Br .nil zb (bb (pv 3) (bb (ae wg (pv 2) lb (fun _ _=>rfl)) (bb (pv 4) (bb (Gb Jc (Gb Rg (pv 5) (pv 1)) (pv 8)) gb))))))
   (ib (Db (Se uj (pv 11) (Gb Jc (wb G_queue hr rfl T.Vr T.Sj.kp T.Br .nil zb (bb (pv 3) (bb (ae wg (pv 2) lb (fun _ _=>rfl)) (bb (pv 4) (bb (Gb Jc (pv 1) (pv 8)) gb))))) (Gb Rg (Gb Oe (pv 5) lb) (pv 9))) (wc _))))))))))))))))))))),?_⟩
 obtain ⟨z,hz,hat⟩:=RM (ns:=ns)
 simp only [Hb]
 refine fc (fun σ' H'=>Zb H H'∧Sc K a ns H'∧σ'=[some (.ref a),some (.int (z:Int)),none,none,none,none,none,none,none,none,none,none]) (fun D' hD _ _ _=>?_) ?_
 ·(walk_at "RD"; repeat (simp only [Hd];walk_at "RD"))
  refine ⟨S,by omega,by omega,by decide,S,by omega,by omega,by decide,by decide,fun p hp=>⟨S.new hp,by omega,by omega,by decide,_,SqL.of fb,_,hat,?_⟩⟩
  exact hD _ _ ⟨qb hp,S.new hp,rfl⟩
 rintro σ1 H1 ⟨s1,S1,rfl⟩
 simp only [Hb]
 refine fc (fun σ' H'=>Zb H1 H'∧Sc K a ns H'∧∃ wa d,W46 d∧H' wa=some (.tup (iw d))∧σ'=[some (.ref a),some (.int (z:Int)),some (.ref wa),none,none,none,none,none,none,none,none,none]) (fun D' hD _ _ _=>?_) ?_
 ·(walk_at "RD")
  exact ⟨rfl,S1,fun p d H' s2 S2 W e=>hD _ _ ⟨s2,S2,p,d,W,e,rfl⟩⟩
 rintro σ2 H2 ⟨s2,S2,wa,d,W,ew,rfl⟩
 simp only [Hb]
 refine fc (fun σ' H'=>Zb H2 H'∧Sc K a ns H'∧∃ pl c ds j,D46 d ds∧xi t H' pl c 9 ds z (Ds (Re d.name (spF ns d z)) j)∧σ'=[some (.ref a),some (.int (z:Int)),some (.ref wa),some (.ref pl),none,none,none,none,none,none,none,none]) (fun D' hD _ _ _=>?_) ?_
 ·(walk_at "RD")
  exact ⟨wa,d,z,rfl,S2,ew,W,hz,fun pl c ds j H' s3 S3 D PA=>hD _ _ ⟨s3,S3,pl,c,ds,j,D,PA,rfl⟩⟩
 rintro σ3 H3 ⟨s3,S3,pl,c,ds,j,D,PA,rfl⟩
 simp only [Hb]
 refine fc (fun σ' H'=>Zb H3 H'∧Sc K a ns H'∧∃ cm cs,H' cm=some (.lst (List.map V.int cs))∧cs.length=z∧(∀ x ∈ cs,0 ≤ x∧x ≤ 1000000000)∧σ'=[some (.ref a),some (.int (z:Int)),some (.ref wa),some (.ref pl),some (.ref cm),none,none,none,none,none,none,none]) (fun D' hD _ _ _=>?_) ?_
 ·(walk_at "RD")
  exact ⟨z,rfl,S3,hz,fun p cs H' s4 S4 _ e hl hb=>hD _ _ ⟨s4,S4,p,cs,e,hl,hb,rfl⟩⟩
 rintro σ4 H4 ⟨s4,S4,cm,cs,ecm,hcl,hcb,rfl⟩
 obtain ⟨di,hdi⟩:=D.at
 have tb4:wv Pt H4:=(((tb.step s1).step s2).step s3).step s4
 have ew4:=s4 _ _ (s3 _ _ ew)
 have I4:QIn t Pt H4 pl c 9 ds z (Ds (Re d.name (spF ns d z)) j) di d cm cs:=⟨PA.sameT (Vw s4),by omega,hdi,ecm,hcl,hcb,tb4⟩
 clear tb S S1 S2 S3 s1 s2 s3 s4 PA ew
 generalize hsp:Ds (Re d.name (spF ns d z)) j=sp at I4
 have hfr:∀ turn,Ql z sp d turn=zo (spF ns d z) z turn:=fun turn=>by rw [← hsp];exact KP W hz.1 j turn
 have hcn:∀ k,0 ≤ Pb cs k:=fun k=>(An hcb k).1
 obtain ⟨p0,hp0⟩:=List.exists_mem_of_length_pos (show 0 < (spF ns d z).length by have:=(lv (ns:=ns) W hz.1).1;omega)
 have hp0':=Gv W hz.1 p0 hp0
 have hff:∃ k,k < z∧frQ z sp d k=true:=by
  refine ⟨p0.1.toNat,by omega,?_⟩
  show Ql z sp d (p0.1.toNat:Int)=true
  rw [hfr,Int.toNat_of_nonneg hp0'.2.2.1]
  refine List.any_eq_true.mpr ⟨p0,hp0,decide_eq_true ?_⟩
  rw [Int.sub_self,Int.zero_emod];omega
 have hgr:=zK (d:=d) (fr:=frQ z sp d) hcn hff
 have g0:=(Ir (d:=d) (fr:=frQ z sp d) hcn z).2.1
 have g1:=qF (d:=d) (fr:=frQ z sp d) (c:=Pb cs) (fun k=>An hcb k) z
 have hsum:smQ (Pb cs) z=cs.sum:=by rw [← hcl];exact AM cs
 generalize hG:cf d (frQ z sp d) (Pb cs) z=G at hgr g0 g1
 simp only [Hb]
 refine fc (fun σ' H'=>H'=H4∧∃ R:Int,1 ≤ R∧σ'=[some (.ref a),some (.int (z:Int)),some (.ref wa),some (.ref pl),some (.ref cm),some (.int R),none,none,none,none,none,none]) (fun D' hD _ _ _=>?_) ?_
 ·have d1:=Ee ns 9 (m:=5) (by decide)
  (walk_at "RD"; repeat (simp only [Hd];walk_at "RD"))
  exact ⟨S4,by omega,by omega,by decide,hD _ _ ⟨rfl,_,by omega,rfl⟩⟩
 rintro σ5 H5 ⟨rfl,R0,hR0,rfl⟩
 simp only [Hb]
 refine fc (fun σ' H'=>H'=H5∧∃ R:Int,1 ≤ R∧σ'=[some (.ref a),some (.int (z:Int)),some (.ref wa),some (.ref pl),some (.ref cm),some (.int R),none,none,none,none,none,none]) (fun D' hD _ _ _=>?_) ?_
 ·refine Ac (decide (0 < (ns.length:Int)) && decide (Ue ns 10 2=0)) (fun Q hQ=>?_) (fun hb=>?_) (fun hb=>?_)
  ·(walk_at "RD"; repeat (simp only [Hd];walk_at "RD"))
   refine ⟨_,.inl S4.seq,?_⟩
   rw [List.length_map]
   by_cases c0:0 < (ns.length:Int)
   ·rw [if_pos (decide_eq_true c0)]
    rw [decide_eq_true c0,Bool.true_and] at hQ
    exact ⟨S4,by omega,by omega,by decide,hQ⟩
   ·rw [if_neg (by simpa using c0)]
    rw [decide_eq_false c0,Bool.false_and] at hQ
    exact hQ
  ·have hpos:0 < (ns.length:Int):=by
    rw [Bool.and_eq_true] at hb
    exact of_decide_eq_true hb.1
   have d1:=Ee ns 11 (m:=(ns.length:Int)) hpos
   have d2:=Ze ns 11 (m:=(ns.length:Int)) hpos
   obtain ⟨v,hv⟩:=xE ns (Ue ns 11 (ns.length:Int)) hpos
   rw [Int.emod_eq_of_lt d1 d2] at hv
   (walk_at "RD"; repeat (simp only [Hd];walk_at "RD"))
   refine ⟨_,.inl S4.seq,S4,by decide,by decide,by rw [List.length_map];exact hpos,_,S4.seq,_,by rw [List.length_map];exact hv,⟨by decide,by decide,by decide⟩,_,rfl,by decide,?_⟩
   have:=Int.emod_nonneg v (show ((10:Int) ^ Int.toNat 55) ≠ 0 by decide)
   exact hD _ _ ⟨rfl,_,by omega,rfl⟩
  ·(walk_at "RD")
   exact hD _ _ ⟨rfl,R0,hR0,rfl⟩
 rintro σ6 H6 ⟨rfl,R,hR,rfl⟩
 simp only [Hb]
 refine fc (fun σ' H'=>H'=H6∧σ'=[some (.ref a),some (.int (z:Int)),some (.ref wa),some (.ref pl),some (.ref cm),some (.int R),some (.int 0),none,none,none,none,none]) (fun D' hD _ _ _=>?_) ?_
 ·(walk_at "RD")
  exact hD _ _ ⟨rfl,rfl⟩
 rintro σ7 H7 ⟨rfl,rfl⟩
 simp only [Hb]
 refine fc (fun σ' H'=>H'=H7∧σ'=[some (.ref a),some (.int (z:Int)),some (.ref wa),some (.ref pl),some (.ref cm),some (.int R),some (.int 0),some (.int 0),none,none,none,none]) (fun D' hD _ _ _=>?_) ?_
 ·(walk_at "RD")
  exact hD _ _ ⟨rfl,rfl⟩
 rintro σ8 H8 ⟨rfl,rfl⟩
 simp only [Hb]
 refine fc (fun σ' H'=>Zb H8 H'∧Sc K a ns H'∧∃ x8,σ'=[some (.ref a),some (.int (z:Int)),some (.ref wa),some (.ref pl),some (.ref cm),some (.int R),some (.int (Zl d (frQ z sp d) (Pb cs) z)),some (.int (gnQ (frQ z sp d) z)),x8,none,none,none]) (fun D' hD _ _ _=>?_) ?_
 ·(walk_at "RD")
  refine ⟨by omega,by omega,?_⟩
  refine jj.range (fun i σ H'=>Zb H8 H'∧Sc K a ns H'∧∃ x8,σ=[some (.ref a),some (.int (z:Int)),some (.ref wa),some (.ref pl),some (.ref cm),some (.int R),some (.int (qS d (frQ z sp d) (Pb cs) 0 i)),some (.int (gnQ (frQ z sp d) i)),x8,none,none,none]) ⟨Zb.refl _,S4,_,rfl⟩ ?_ ?_
  ·rintro i σ H' hi ⟨s9,S9,x8,rfl⟩
   have hiz:i < z:=by have:i < (z:Int).toNat:=hi;omega
   have ew9:=s9 _ _ ew4
   have ec9:=s9 _ _ ecm
   have hca:=ZF (cs:=cs) (by omega) (i:Int)
   rw [hcl,Int.emod_eq_of_lt (by omega) (by omega),Int.toNat_natCast] at hca
   have hce:cs.getD i 0=Pb cs i:=by
    unfold Pb
    rw [Nat.mod_eq_of_lt (by omega)]
   rw [hce] at hca
   have q0:=sy (d:=d) (fr:=frQ z sp d) hcn (Int.le_refl 0) i
   have c0:=hcn i
   have st:=Af (d:=d) (fr:=frQ z sp d) (c:=Pb cs) (x:=0) (k:=i) (by omega)
   rw [show frQ z sp d i=zo (spF ns d z) z (i:Int) from hfr (i:Int)] at st
   have gn:gnQ (frQ z sp d) (i + 1)=if zo (spF ns d z) z (i:Int)=true then gnQ (frQ z sp d) i + 1 else gnQ (frQ z sp d) i:=by
    show (if frQ z sp d i=true then _ else _)=_
    rw [show frQ z sp d i=zo (spF ns d z) z (i:Int) from hfr (i:Int)]
   generalize qS d (frQ z sp d) (Pb cs) 0 i=qi at q0 st ⊢
   simp only [Ak,Hb,List.set_cons_succ,List.set_cons_zero,Int.zero_add]
   refine fc (fun σ' H''=>H''=H'∧σ'=[some (.ref a),some (.int (z:Int)),some (.ref wa),some (.ref pl),some (.ref cm),some (.int R),some (.int (qi + Pb cs i)),some (.int (gnQ (frQ z sp d) i)),some (.int (i:Int)),none,none,none]) (fun D' hD _ _ _=>?_) ?_
   ·(walk_at "RD")
    exact ⟨_,SqL.of ec9,_,hca,_,rfl,hD _ _ ⟨rfl,rfl⟩⟩
   rintro σA HA ⟨rfl,rfl⟩
   dsimp only
   refine Ac (zo (spF ns d z) z (i:Int)) (fun Q hQ=>?_) (fun hb=>?_) (fun hb=>?_)
   ·(walk_at "RD")
    exact ⟨wa,d,z,_,rfl,S9,ew9,W,hz,_,rfl,hQ⟩
   ·rw [if_pos hb] at st gn
    (walk_at "RD")
    refine ⟨by decide,fun p hp=>⟨_,SqT.of ((qb hp) _ _ ew9),_,td0 d,rfl,_,SqL.of fb,.int (if d.k=1 then 0 else max (qi + Pb cs i - 1) 0),?_,s9.trans (qb hp),S9.new hp,?_⟩⟩
    ·have hmx:(if qi + Pb cs i - 1 > 0 then qi + Pb cs i - 1 else 0)=max (qi + Pb cs i - 1) 0:=by split <;> omega
     rw [hmx]
     by_cases g:d.k=1
     ·rw [decide_eq_true (show V.str (Kd d.k)=V.str (Str.ofString "foot") by rw [(Qp W.k3).mpr g]),if_pos rfl,if_pos g]
      exact jc (j:=1) rfl
     ·rw [decide_eq_false (show ¬ V.str (Kd d.k)=V.str (Str.ofString "foot") from fun z=>g ((Qp W.k3).mp (V.str.inj z))),if_neg Bool.false_ne_true,if_neg g]
      exact jc (j:=0) rfl
    ·rw [st,gn]
     repeat (first | exact ⟨_,rfl⟩ | exact ⟨rfl,rfl,_,rfl⟩ | refine ⟨rfl,?_⟩)
   ·rw [if_neg (by rw [hb];decide)] at st gn
    (walk_at "RD")
    refine ⟨s9,S9,?_⟩
    rw [st,gn]
    repeat (first | exact ⟨_,rfl⟩ | exact ⟨rfl,rfl,_,rfl⟩ | refine ⟨rfl,?_⟩)
  ·rintro σ H' ⟨s9,S9,x8,rfl⟩
   rw [show (z:Int).toNat=z by omega]
   exact hD _ _ ⟨s9,S9,x8,rfl⟩
 rintro σ9 H9 ⟨s9,S9,x8,rfl⟩
 have ew9:=s9 _ _ ew4
 have I9:=I4.step s9.p (I4.tb.step s9)
 generalize hF:Zl d (frQ z sp d) (Pb cs) z=F
 simp only [Hb]
 refine fc (fun σ' H'=>H'=H9∧σ'=[some (.ref a),some (.int (z:Int)),some (.ref wa),some (.ref pl),some (.ref cm),some (.int R),some (.int F),some (.int (gnQ (frQ z sp d) z)),x8,some (.int (if cs.sum - gnQ (frQ z sp d) z > 0 then cs.sum - gnQ (frQ z sp d) z else 0)),none,none]) (fun D' hD _ _ _=>?_) ?_
 ·(walk_at "RD")
  exact ⟨_,SqL.of I9.cm,hcb,by omega,hD _ _ ⟨rfl,rfl⟩⟩
 rintro σA HA ⟨rfl,rfl⟩
 simp only [Hb]
 refine fc (fun σ' H'=>H'=HA∧σ'=[some (.ref a),some (.int (z:Int)),some (.ref wa),some (.ref pl),some (.ref cm),some (.int R),some (.int F),some (.int (gnQ (frQ z sp d) z)),x8,some (.int G),none,none]) (fun D' hD _ _ _=>?_) ?_
 ·rw [hsum] at hgr
  refine Ac (decide (d.k=1)) (fun Q hQ=>?_) (fun hb=>?_) (fun hb=>?_)
  ·(walk_at "RD")
   refine ⟨_,SqT.of ew9,_,td0 d,rfl,?_⟩
   rw [show decide (V.str (Kd d.k)=V.str (Str.ofString "foot"))=decide (d.k=1) from decide_eq_decide.mpr ⟨fun z=>(Qp W.k3).mp (V.str.inj z),fun z=>by rw [(Qp W.k3).mpr z]⟩]
   exact hQ
  ·rw [if_pos (of_decide_eq_true hb)] at hgr
   (walk_at "RD")
   rw [← hgr]
   exact hD _ _ ⟨rfl,rfl⟩
  ·rw [if_neg (of_decide_eq_false hb)] at hgr
   (walk_at "RD")
   rw [← hgr]
   exact hD _ _ ⟨rfl,rfl⟩
 rintro σB HB ⟨rfl,rfl⟩
 simp only [Hb]
 refine fc (fun σ' H'=>Ng Pt HB H'∧(NoT HB→NoT H')∧wv Pt H'∧σ'=[some (.ref a),some (.int (z:Int)),some (.ref wa),some (.ref pl),some (.ref cm),some (.int R),some (.int F),some (.int (gnQ (frQ z sp d) z)),x8,some (.int G),some (.int G),none]) (fun D' hD _ _ _=>?_) ?_
 ·(walk_at "RD")
  refine ⟨_,SqT.of ew9,_,td1 d,pl,c,9,ds,z,sp,di,d,cm,cs,rfl,I9,fun H' sa na ta=>?_⟩
  rw [hG]
  exact hD _ _ ⟨sa,na,ta,rfl⟩
 rintro σC HC ⟨sC,nC,tC,rfl⟩
 have IC:=I9.step sC tC
 have SC:Sc K a ns HC:=fw S9 (Ep I9.tb sC) (nC S9.nt)
 have ewC:=(Ep I9.tb sC).tup ew9
 simp only [Hb]
 refine Ac false (fun Q hQ=>?_) (fun hc=>nomatch hc) (fun _=>?_)
 ·(walk_at "RD")
  refine ⟨_,.int _,_,rfl,?_⟩
  rw [if_neg (by decide)]
  refine ⟨_,.int _,_,rfl,?_⟩
  rw [if_neg (by decide)]
  exact hQ
 simp only [Rk,Hb]
 have hq:∀ m:Nat,m < z→∀ r:Int,1 ≤ r→ym d (frQ z sp d) (Pb cs) z (r * (z:Int) + (m:Int))=qS d (frQ z sp d) (Pb cs) F m + (r - 1) * G:=fun m hm r hr=>by
  rw [← hF,← hG]
  exact GH hcn (by omega) hr hm
 have q1:ym d (frQ z sp d) (Pb cs) z (z:Int)=F:=by
  have:=hq 0 (by omega) 1 (Int.le_refl 1)
  rw [Int.one_mul,Int.natCast_zero,Int.add_zero,Int.sub_self,Int.zero_mul,Int.add_zero] at this
  exact this
 have q2:ym d (frQ z sp d) (Pb cs) z (R * (z:Int))=F + (R - 1) * G:=by
  have:=hq 0 (by omega) R hR
  rw [Int.natCast_zero,Int.add_zero] at this
  exact this
 have dt1:=Ee ns 12 (m:=(z:Int)) (by omega)
 have dt2:=Ze ns 12 (m:=(z:Int)) (by omega)
 obtain ⟨tu,htu⟩:∃ tu:Nat,Ue ns 12 z=(tu:Nat):=⟨(Ue ns 12 z).toNat,by omega⟩
 have q3:=hq tu (by omega) R hR
 have q4:ym d (frQ z sp d) (Pb cs) z ((z:Int) + (tu:Int))=qS d (frQ z sp d) (Pb cs) F tu:=by
  have:=hq tu (by omega) 1 (Int.le_refl 1)
  rw [Int.one_mul,Int.sub_self,Int.zero_mul,Int.add_zero] at this
  exact this
 have hRz:0 ≤ R * (z:Int):=Int.mul_nonneg (by omega) (by omega)
 have strg:∀ x,x ≠ d.name→x ≠ Str.ofString "c" → dm ds x:=fun x h1 h2 e he=>by
  rcases D.mem.mp he with rfl | rfl
  ·exact Ne.symm h1
  ·exact Ne.symm h2
 have nd:=iS W
 refine Em (fun b H'=>b=false∧Ng Pt HC H'∧(NoT HC→NoT H')∧wv Pt H') (fun Q hQ=>?_) (fun H' r=>?_) (fun HD r=>?_)
 ·(walk_at "RD")
  refine ⟨_,SqT.of ewC,_,td1 d,pl,c,9,ds,z,sp,di,d,cm,cs,(z:Int),rfl,IC,by omega,fun H' sa na ta=>⟨rfl,?_⟩⟩
  rw [q1,decide_eq_true rfl]
  have IS:=IC.step sa ta
  refine ⟨pl,c,9,ds,z,sp,cm,rfl,IS.pl,IS.z0,strg _ nd.1 (by decide +kernel),strg _ nd.2.1 (by decide +kernel),strg _ nd.2.2 (by decide +kernel),na SC.nt,fun H2 s2 n2=>?_⟩
  exact ⟨true,rfl,hQ _ _ ⟨rfl,sa.trans s2.p,fun _=>n2,ta.step s2⟩⟩
 ·cases r.1
 obtain ⟨_,sD,nD,tD⟩:=r
 have ID:=IC.step sD tD
 have SD':Sc K a ns HD:=fw SC (Ep IC.tb sD) (nD SC.nt)
 have ewD:=(Ep IC.tb sD).tup ewC
 simp only [Rk,Hb]
 refine Em (fun b H'=>b=false∧Ng Pt HD H'∧(NoT HD→NoT H')∧wv Pt H') (fun Q hQ=>?_) (fun H' r=>?_) (fun HE r=>?_)
 ·(walk_at "RD")
  refine ⟨_,SqT.of ewD,_,td1 d,.inr ⟨by omega,by omega⟩,pl,c,9,ds,z,sp,di,d,cm,cs,R * (z:Int),rfl,ID,hRz,fun H' sa na ta=>⟨.inr ⟨by omega,by omega⟩,rfl,?_⟩⟩
  rw [q2,decide_eq_true rfl]
  exact hQ _ _ ⟨rfl,sa,na,ta⟩
 ·cases r.1
 obtain ⟨_,sE,nE,tE⟩:=r
 have IE:=ID.step sE tE
 have SE:Sc K a ns HE:=fw SD' (Ep ID.tb sE) (nE SD'.nt)
 have ewE:=(Ep ID.tb sE).tup ewD
 simp only [Rk,Hb]
 refine fc (fun σ' H'=>H'=HE∧σ'=[some (.ref a),some (.int (z:Int)),some (.ref wa),some (.ref pl),some (.ref cm),some (.int R),some (.int F),some (.int (gnQ (frQ z sp d) z)),some (.int (tu:Int)),some (.int G),some (.int G),none]) (fun D' hD _ _ _=>?_) ?_
 ·(walk_at "RD"; repeat (simp only [Hd];walk_at "RD"))
  rw [htu]
  exact ⟨SE,by omega,by omega,by omega,hD _ _ ⟨rfl,rfl⟩⟩
 rintro σF HF ⟨rfl,rfl⟩
 simp only [Hb]
 refine fc (fun σ' H'=>Ng Pt HF H'∧(NoT HF→NoT H')∧wv Pt H'∧σ'=[some (.ref a),some (.int (z:Int)),some (.ref wa),some (.ref pl),some (.ref cm),some (.int R),some (.int F),some (.int (gnQ (frQ z sp d) z)),some (.int (tu:Int)),some (.int G),some (.int G),some (.int (qS d (frQ z sp d) (Pb cs) F tu + (R - 1) * G))]) (fun D' hD _ _ _=>?_) ?_
 ·(walk_at "RD")
  refine ⟨_,SqT.of ewE,_,td1 d,.inr ⟨by omega,by omega⟩,pl,c,9,ds,z,sp,di,d,cm,cs,R * (z:Int) + (tu:Int),rfl,IE,by omega,fun H' sa na ta=>?_⟩
  rw [q3]
  exact hD _ _ ⟨sa,na,ta,rfl⟩
 rintro σG HG ⟨sG,nG,tG,rfl⟩
 have IG:=IE.step sG tG
 have ewG:=(Ep IE.tb sG).tup ewE
 (walk_at "RD")
 refine ⟨_,SqT.of ewG,_,td1 d,pl,c,9,ds,z,sp,di,d,cm,cs,(z:Int) + (tu:Int),rfl,IG,by omega,fun H' sa na ta=>⟨.inr ⟨by omega,by omega⟩,_,rfl,?_⟩⟩
 rw [q4,decide_eq_true rfl]
 exact q _
end
end My
structure PySem.W.Fast:Prop where(tw16067724460699593316 tw17425749058705001424 tw14194831752831272802 tw11468717009417892150 tw6033611447260816766 tw3318358456628622172 tw17572776384201978316 tw1449010162881113623 tw9416277236691537234 tw1879162448112001355 tw3593922138376817317 tw1581082825285969008 tw15338785149158902947 tw11962620308430012951 tw9920710803172404224 tw916445439361499168 tw13309038174750780761 tw15339357633674484790 tw2355445837698728923 tw4532260334013643101 tw18224915498625768132 tw135692118983467859 tw3902235441003535314 tw8416157083179431455 tw11089961732399277570 tw641064770331200416 tw12899511461198760249 tw12035739873403711124 tw1600744345254375530 tw8550359451142913787 tw11857510261532272972 tw18209943295194353397 tw3862396069211099354 tw5972650913936575422 tw2148723438315499377 tw8497718745796696969 tw16416481473306357418 tw9620377438248490774 tw16831121588822699428 tw17470215371976176166 tw4371326347649744556 tw10010054103511861451 tw13897728773358663919 tw7882162601363120061 tw11899665852963051655 tw5572750442468147832 tw7076549626966909600 tw13004424156215629834 tw10919988178294510717 tw9932718592757554171 tw4032700041587309476 tw16383928166387180105 tw14720171412226691812 tw8768451749535521868 tw6620250943568204898 tw7965721010434303116 tw11513806291325210926 tw7848554735146769826 tw245754511861300825 tw8614200863991493764 tw12665298425865363774 tw4381963822817096340 tw9166140968643018690 tw8374170252433176517 tw1430676687787013098 tw7747877181729355114 tw14219622477938469411 tw9309183013248019569 tw39417477292316247 tw6925161075432621152 tw857917946369306024 tw17772367961888633492 tw9702238331354279559 tw5880082878545342152 tw4549752908761063277 tw15143303823390198625 tw4651394308414769694 tw8188176407272849467 tw15176532777978040295 tw6274232330301740309 tw5610139355951327860 tw11537511692009954381 tw16444795678214645442 tw190567305136249411 tw1200783531411137673 tw1873329220867262123 tw7100093946760099463 tw14180012220450515043 tw12244529445263748292 tw12471316636163176648 tw8094001229042433228 tw12469467753810770552 tw17654566314116794891 tw1766894290000240785 tw7446393378930123922 tw393333095299325276 tw14033343519039875027 tw14141873301787632046 tw6138218699083339745 tw6012146819807509840 tw16970315317926644895 tw12746599799096856091 tw14485762984356261626 tw16659676113193353158 tw3649163295201245728 tw4539928594424698992 tw7250784437318071773 tw26833635562744353 tw9380917252648674422 tw17549044535378817657 tw10723275880579644484 tw9851813287724182614 tw13161826408773267923 tw4176299972438282499 tw10845813065430019995 tw408800511052946596 tw17706561651665121395 tw6717152796844147197 tw5842453148334032713 tw14079591513414089306 tw8315178042066583841 tw4521046292707892710 tw13465633475230675750 tw7247255039122388728 tw13234296817381210857 tw10013805207793078790 tw14030027732579419092 tw5741195405181365236 tw12384321170838248140 tw1664456075633026481 tw8278121109281171877 tw6492144206018010710 tw10092660543892007225 tw10614489060175622777 tw12184335922215389295 tw2211027913188677032 tw1842062643376311150 tw6372718240916167329 tw15173930297478632302 tw5660419950446065247 tw2863375775097968947 tw7705029375057306956 tw17019185844535028345 tw15388467696529672492 tw16556782810841406726 tw6661983058331879784 tw11796038355600048476 tw7465775884222037716 tw13960098797718133430 tw13152409619338300131 tw12382239719305605323 tw6007418649688507505 tw13312989811870953725 tw12610642573648267717 tw9415412295330477684 tw13866626389399203104 tw4920932135331428269 tw2869073858156244067 tw732646433622886467 tw11592840944282211356 tw12828638474569750847 tw12768596668392146495 tw11165144484681658263 tw6892648822713287666 tw14423573745529434746 tw2700635500394175142 tw8122578765809215941 tw9902918453118876491 tw10832791945455392808 tw10785062901842070736 tw1862219255486590547 tw17035030981221496885 tw17144687048728393702 tw2924868539980571481 tw11849602252117587579 tw11439687783081269204 tw7492035079469262553 tw14448325549872342755 tw8250511781345871378 tw1642257617306782336 tw16873347095271077718 tw1614452838596136279 tw9819319397818992874 tw2957592307556548957 tw10923520035169567803 tw11236054562529959902 tw6721178741477660303 tw5466377529080174759 tw8014061290279474102 tw15778387491952064209 tw4076991064546441940 tw3847798236027307825 tw7371713341992598244 tw12403678432865966078 tw9471055497053464696 tw17107872315939793168 tw5167733814816839363 tw14664339629254490700 tw17354023754896004729 tw3313206160927481892 tw16941427452013929550 tw6498919966722109734 tw10525382468049168680 tw11390304862908351303 tw15573834664537193527 tw10573720067997427420 tw9834107078680131122 tw3886876424575505012 tw8785604759409882714 tw1692225333006028470 tw13240861836188373125 tw12928089323229815560 tw12579996161945218713 tw5720329023793649146 tw14391286213544706976 tw13118442198166348280 tw8886132720814054462 tw12289100575858011863 tw8978699369349638527 tw9432618104051169844 tw781762573294356356 tw4648013404468771145 tw2935583059791843708 tw3869629981071940274 tw5989829981032591877 tw1312122015253203289 tw3192321449087406266 tw15682112868152921590 tw18041902395380538974 tw4468784975340310024 tw16400025499013500158 tw6923900026119526225 tw7256514014202894052 tw26956810586233497 tw9484386319572413691 tw224407344489201691 tw16960196458376853153 tw9285110232434659651 tw15025128769901943365 tw1631764717402412881 tw16315461650651971356 tw9669979577432146174 tw9491077491279015208 tw7416283713374843438 tw8705172235351627664 tw13090558324253499546 tw16152764861492267141 tw10675039392150415778 tw7968690842613601370 tw13987954146739799886 tw15051005526303840182 tw15917097669572843491 tw18171930545252487807 tw6755083756550445359 tw4657108073371435129 tw9235949176827875110 tw1133587432131395061 tw13045256586735671645 tw7746545293645556252 tw1942832206428095034 tw6112702310986341752 tw16790086739041386938 tw13987006005674513881 tw13607680240044731366 tw4625666649421673664 tw696902198041336333 tw8069022409774852080 tw8681348285510610577 tw9908730975931466555 tw15258736731079682257 tw3684272365940593018 tw14361325127499325149 tw2623080539806917121 tw12951393394555536834 tw7523678060268007011 tw5837207148213782538 tw18404632936104956884 tw14117727015937123826 tw15009353465694659708 tw18217362258163917405 tw17316024170447215725 tw12460950874704960220 tw4108098541016144577 tw1542874714131731377 tw17552447947983581009 tw5778010229408248951 tw13630575187296532830 tw16339055706323685887 tw16762961272835446499 tw7011955718988607840 tw7710664296318815965 tw6510226122662999087 tw5638207957702773677 tw1706747748940277086 tw10884920381157134586 tw10903728073319285562 tw6946622716032003013 tw9894110581125729135 tw13280449690406639506 tw7202830107412626521 tw789828972777461045 tw16031043253865255000 tw4516879747836833348 tw17344384705271220053 tw13209867827825252893 tw474175050407616964 tw7712333879193491210 tw15044422011422614452 tw16825177841789963052 tw5539842626374730831 tw5982448333241683358 tw2585800343593450207 tw9346178066801882929 tw1304131716933480762 tw5579768748206874027 tw18258623464669314800 tw14657079842378498267 tw1791285213094656212 tw13454454572674289453 tw10848208135793538281 tw1743240108519852891 tw16290736367212450576 tw17587292521975136329 tw5679852696960299792 tw12837129001495349174 tw9600374270901865803 tw12668632490974534692 tw8460885068154046680 tw2822178545139888618 tw10358935446597452428 tw17787864402017868099 tw13201171267129216985 tw5023086231508304113 tw10524585873231920687 tw7309768642710900131 tw8938642364317865426 tw11290784995240129100 tw3907611512092387556 tw9931402953753870152 tw5595616053114558367 tw17892590240554530672 tw12457740596920522980 tw1596930598812059161 tw8234090286685383827 tw6783163961558397674 tw8794955305940926648 tw3759756694510192689 tw8574617610856760076 tw11484197868573965661 tw20092984537176555 tw9768809510261244695 tw5522088953856598304 tw18106853857772050753 tw1779173652365625322 tw6338077877970056757 tw4226163613665186240 tw621615151075460762 tw5066820500405752927 tw14007886016432441471 tw3970743526453850374 tw4477273723717897238 tw6248520725913097543 tw7626497604519851792 tw11028842189497312289 tw12301143448618766120 tw3635711864650188232 tw13725154749106780393 tw8664719438079176674 tw247913980722792648 tw15898460543148026220 tw10604047141573877679 tw9109597682204611402 tw11635556771720741139 tw4241336696071138281 tw14587970630005932715 tw10446797016124062359 tw13925925546245222257 tw18087251519496130082 tw17779848332365367811 tw13610028808478589816 tw3706187017250048873 tw2386499472808680537 tw11946993992662936600 tw10573218842647013254 tw8595652838689602266 tw11198453726185573412 tw12807864860187570906 tw14868434830495289094 tw857038655690802207 tw10011504676454551599 tw8778928476486908569 tw10727920753951811586 tw9625342064487640258 tw15952979233619408559 tw9246369172093419411 tw16959421531323111031 tw15351027633642147889 tw16033058962571656179 tw707979613611108303 tw9872004183885070167 tw9299463276537341593 tw1265809798354958893 tw93315133168340697 tw17316202485118707728 tw3041725816613875379 tw5943970432577049752 tw18113244084149770218 tw6123247669054086268 tw15287351314213502799 tw11151317716844384187 tw6451780659865638453 tw1847301527545391438 tw15889295020917226018 tw15927762656018326942 tw1283547989727300988 tw261993631200138492 tw11899221966173243057 tw15210381160365479730 tw885731377694372093 tw3132858312643281415 tw17816338149011476028 tw18046489224281896728 tw15868819617116228991 tw11906074223064069552 tw8406036081113963942 tw5830169307408107328 tw11167930431415772605 tw10120068348267501584 tw2285322381418538309 tw192634621164776627 tw6561807388391765558 tw17695121374708292371 tw13837643997138178190 tw13853595775025046739 tw280252376729513300 tw12362877521493358136 tw12524130046683320970 tw5085763378833057085 tw6799271605495467345 tw11760399096206510431 tw11455892941882628717 tw6207835847861428649 tw11906657062724947040 tw4433165314224243485 tw15859809453070705205 tw3741649136398865836 tw17428159054570883311 tw17653983665612276082 tw11741978857069774123 tw17651159009426655078 tw4787443323232689220 tw2456105546546075659 tw11518016932834999578 tw6534656657508300527 tw14948467154977669732 tw5687188420579756234 tw3251910551275674890 tw15554959488962154330 tw8596325985912652773 tw16706050058490447642 tw4522053589872674884 tw7423319374622246417 tw11920430542380741800 tw17232415924201504078 tw6760171137295937659 tw1243614982009933923 tw3462128645667653236 tw14638245422761768003 tw9564181402809337892 tw13669615361627544231 tw14042352672329478035 tw6882599751769498342 tw8592294196026221390 tw7045185817244401799 tw9813395880377145531 tw4240064309455058153 tw402100000079008511 tw7795930601647705874 tw15003699962523871314 tw9296067115781631899 tw18135133748157375393 tw9341736970468100431 tw4739994648666385214 tw17854665292409560937 tw4377938094178621586 tw14185818178513060390 tw4318643983210490527:True)
open PySem PySem.W PyProof.Rows
set_option maxRecDepth 100000 in
set_option maxHeartbeats 0 in
theorem PySem.Challenge.cw_lampway_k47_whole_queues_by_rounds_holds : PySem.Challenge.rw_lampway_k47_whole_queues_by_rounds.Holds := by
 w_on;o_law;k_head;(case hw=>w_witness2)
 k_fill
 refine L2.aJ (fx:=Str.ofString "coming_by") (l:=PySem.Challenge.rw_lampway_k47_whole_queues_by_rounds) (n:=63) (k:=10) (x := "_law_script") (CX:=L2.CX0) (sp:=My.VJ) rfl (by decide) rfl ⟨rfl,by decide,by decide⟩ (fun w h Y=>PySem.W.km_in_of Y) (by intro p;kernel_rfl) (by kernel_rfl) ?F ?S ?C
 case F=>
  intro w mg fa h KX G hmg
  have T:∃ t,My.Txt w (L2.KOf KX) mg t:=by
   dsimp only [L2.KOf]
   refine' ⟨My.Adr.mk,⟨?maa,?Fab,?mac,?Fad,?mae,?Faf,?mag,?Fah,?mai,?Faj,?mak,?Fal,?mam,?Fan,?mao,?Fap,?maq,?Far,?mas,?Fat,?mau,?Fav,?maw,?Fax,?may,?Faz,?mba,?Fbb,?mbc,?Fbd,?mbe,?Fbf,?mbg,?Fbh,?mbi,?Fbj,?mbk,?Fbl,?mbm,?Fbn,?mbo,?Fbp,?mbq,?Fbr,?mbs,?Fbt,?mbu,?Fbv,?mbw,?Fbx,?mby,?Fbz,?mca,?Fcb,?mcc,?Fcd,?mce,?Fcf,?mcg,?Fch,?mci,?Fcj,?mck,?Fcl,?mcm,?Fcn,?mco,?Fcp,?mcq,?Fcr,?mcs,?Fct,?mcu,?Fcv,?mcw,?Fcx,?mcy,?Fcz,?mda,?Fdb,?mdc,?Fdd,?mde,?Fdf,?mdg,?Fdh,?mdi,?edj,?Fdk,?mdl,?edm,?Fdn,?mdo,?edp,?Fdq,?mdr,?eds,?Fdt,?mdu,?edv,?Fdw,?edx,?Fdy,?edz,?Fea,?eeb,?Fec,?eed,?Fee,?eef,?Feg,?eeh,?Fei,?eej,?Fek,?mel,?eem,?Fen,?meo,?eep,?Feq,?eer,?Fes,?eet,?Feu,?eev,?Few,?mex,?eey,?Fez,?efa,?Ffb,?efc,?Ffd,?efe,?Fff,?mfg,?efh,?Ffi,?efj,?Ffk,?efl,?Ffm,?efn,?Ffo,?mfp,?efq,?Ffr,?efs,?Fft,?efu,?Ffv,?efw,?Ffx,?mfy,?efz,?Fga,?sgb,?sgc,?sgd,?sge,?sgf,?sgg,?sgh,?sgi,?sgj,?ngk,?ngl,?ngm,?sgn,?ngo,?ngp,?ngq,?ngr,?ngs,?ngt,?ngu,?sgv,?sgw,?sgx,?sgy,?sgz,?nha,?nhb,?nhc,?nhd,?nhe,?nhf,?nhg,?shh,?shi,?shj,?shk,?shl,?nhm,?nhn,?nho,?nhp,?nhq,?nhr,?nhs,?sht,?shu,?shv,?shw,?shx,?nhy,?nhz,?nia,?nib,?nic,?nid,?nie,?sif,?sig,?sih,?sii,?sij,?nik,?nil,?nim,?sin,?sio,?nip,?niq,?nir,?nis,?nit,?miu,?siv,?xiw,?Xix,?niy,?riz,?rja,?rjb,?rjc,?rjd,?xje,?Xjf,?njg,?rjh,?rji,?rjj,?rjk,?rjl,?xjm,?Xjn,?njo,?njp,?rjq,?rjr,?rjs,?rjt,?rju,?xjv,?Xjw,?njx,?njy,?njz,?rka,?rkb,?rkc,?rkd,?rke,?dkf,?dkg,?dkh,?dki,?dkj,?dkk,?skl,?mkm,?vkn,?mko,?vkp,?mkq,?vkr,?mks,?vkt,?mku,?vkv,?mkw,?vkx,?mky,?vkz,?mla,?vlb,?mlc,?vld,?mle,?vlf,?blg,?blh,?bli,?blj,?blk,?bll,?blm,?bln,?blo,?blp,?blq,?blr,?bls,?blt,?llu⟩⟩
   case maa | mac | mae | mag | mai | mak | mam | mao | maq | mas | mau | maw | may | mba | mbc | mbe | mbg | mbi | mbk | mbm | mbo | mbq | mbs | mbu | mbw | mby | mca | mcc | mce | mcg | mci | mck | mcm | mco | mcq | mcs | mcu | mcw | mcy | mda | mdc | mde | mdg | mdi | mdl | mdo | mdr | mdu | mel | meo | mex | mfg | mfp | mfy | miu | mkm | mko | mkq | mks | mku | mkw | mky | mla | mlc | mle=>(try dsimp only);refine' PySem.W.mg_of KX G ?z;case z=>k_is
   case edj | edm | edp | eds | edv | edx | edz | eeb | eed | eef | eeh | eej | eem | eep | eer | eet | eev | eey | efa | efc | efe | efh | efj | efl | efn | efq | efs | efu | efw | efz=>(try dsimp only);k_is
   case sgb | sgc | sgd | sge | sgf | sgg | sgh | sgi | sgj | sgn | sgv | sgw | sgx | sgy | sgz | shh | shi | shj | shk | shl | sht | shu | shv | shw | shx | sif | sig | sih | sii | sij | sin | sio | siv | skl=>(try dsimp only);constructor <;> k_is
   case Fab | Fad | Faf | Fah | Faj | Fal | Fan | Fap | Far | Fat | Fav | Fax | Faz | Fbb | Fbd | Fbf | Fbh | Fbj | Fbl | Fbn | Fbp | Fbr | Fbt | Fbv | Fbx | Fbz | Fcb | Fcd | Fcf | Fch | Fcj | Fcl | Fcn | Fcp | Fcr | Fct | Fcv | Fcx | Fcz | Fdb | Fdd | Fdf | Fdh | Fdk | Fdn | Fdq | Fdt | Fdw | Fdy | Fea | Fec | Fee | Feg | Fei | Fek | Fen | Feq | Fes | Feu | Few | Fez | Ffb | Ffd | Fff | Ffi | Ffk | Ffm | Ffo | Ffr | Fft | Ffv | Ffx | Fga=>(try dsimp only);refine' L2.yO ?x ?y ?z;(case x=>k_is);(case y=>k_is);(case z=>k_is)
   case ngk | ngl | ngm | ngo | ngp | ngq | ngr | ngs | ngt | ngu | nha | nhb | nhc | nhd | nhe | nhf | nhg | nhm | nhn | nho | nhp | nhq | nhr | nhs | nhy | nhz | nia | nib | nic | nid | nie | nik | nil | nim | nip | niq | nir | nis | nit | niy | njg | njo | njp | njx | njy | njz=>(try dsimp only);unfold L2.Fb;k_is
   case riz | rja | rjb | rjc | rjd | rjh | rji | rjj | rjk | rjl | rjq | rjr | rjs | rjt | rju | rka | rkb | rkc | rkd | rke=>(try dsimp only);kernel_rfl
   case xiw | xje | xjm | xjv=>(try dsimp only);refine' ⟨?_,by kernel_rfl,?_,?_,?_⟩ <;> k_is
   case Xix | Xjf | Xjn | Xjw=>(try dsimp only);refine' L2.AN ?x (by kernel_rfl) ?y;(case x=>k_is);(case y=>k_is)
   case dkf | dkg | dkh | dki | dkj | dkk=>(try dsimp only);decide
   case vkn | vkp | vkr | vkt | vkv | vkx | vkz | vlb | vld | vlf=>(try dsimp only);exact ⟨_,rfl⟩
   case blg | blh | bli | blj | blk | bll | blm | bln | blo | blp | blq | blr | bls | blt=>(try dsimp only);refine' PySem.W.mg_none_of KX G ?z;case z=>k_is
   case llu=>(try dsimp only);exact fun _ _=>.of_eq rfl
  obtain ⟨t,T⟩:=T
  have e0:=hmg.symm.trans T.UQ
  cases e0
  exact ⟨t.UI,T.nO,fun base c Pt kb nb hC hB hc=>My.NN T (L2.JK T.gh T.jm hc) hC hB⟩
 case S=>exact fun K H a Pt ns hl hO hS=>⟨a,ns,rfl,L2.Sc.of_onlyT hO hS,hl,⟨#[],hO.1,.inl rfl⟩,fun _=>rfl⟩
 case C=>exact fun _ _ _ _ z=>z
