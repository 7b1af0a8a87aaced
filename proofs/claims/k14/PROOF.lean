import PyProof.Rows.All
import Wide.All
import OpenK.AllK
import Wide.FinOn
import Lean
import PyProof.EqAt
import PyProof.EqKinds
import PyProof.TupleCall
import KE.KTryMore
import PyProof.NsDelKeeps
import PySem.Challenge.RW_lampway_k14_never_and_short
set_option compiler.extract_closed false
set_option Elab.async false
set_option linter.all false
set_option maxRecDepth 100000
namespace L2
open PySem PySem.Spec PyProof.Rows
noncomputable abbrev Key:=Sum Int Str
noncomputable def xB:Key→Value→Bool
 | .inl k,v=>Value.isInt k v
 | .inr x,v=>Value.isStrOf x v
noncomputable def EO (w:World):Key→Int
 | .inl k=>hashInt k
 | .inr x=>hashStr w x
theorem He:∀ {k:Key} {v:Value},xB k v=true→(∃ i t,k=Sum.inl i∧v=Value.int i t)∨(∃ x t,k=Sum.inr x∧v=Value.str x t)
 | .inl i,v,h=>by
  obtain ⟨t,e⟩:=Value.isInt_shape (k:=i) (v:=v) h;exact .inl ⟨i,t,rfl,e⟩
 | .inr x,v,h=>by
  obtain ⟨t,e⟩:=Value.isStrOf_shape (x:=x) (v:=v) h;exact .inr ⟨x,t,rfl,e⟩
theorem OC (i:Int) (t:Tok):xB (.inl i) (.int i t)=true:=by simp [xB,Value.isInt]
theorem wD (x:Str) (t:Tok):xB (.inr x) (.str x t)=true:=by simp [xB,Value.isStrOf]
theorem JK (a b:Int):decide ((Sum.inl a:Key)=Sum.inl b)=(a == b):=by
 by_cases e:a=b
 ·subst e;simp
 ·have h:¬ (Sum.inl a:Key)=Sum.inl b:=fun q=>e (Sum.inl.inj q)
  rw [decide_eq_false h];exact (beq_eq_false_iff_ne.mpr e).symm
theorem aL (a b:Str):decide ((Sum.inr a:Key)=Sum.inr b)=decide (a=b):=by
 by_cases e:a=b
 ·subst e;simp
 ·have h:¬ (Sum.inr a:Key)=Sum.inr b:=fun q=>e (Sum.inr.inj q)
  rw [decide_eq_false h,decide_eq_false e]
theorem dL (a:Int) (b:Str):decide ((Sum.inl a:Key)=Sum.inr b)=false:=decide_eq_false (fun q=>nomatch q)
theorem sM (a:Str) (b:Int):decide ((Sum.inr a:Key)=Sum.inl b)=false:=decide_eq_false (fun q=>nomatch q)
noncomputable def ig (prog:Program) (w:World):PySem.KeyKind prog w Key where
 is:=xB
 hash:=EO w
 inj:=fun v a b ha hb=>by
  rcases He ha with ⟨i,t,rfl,rfl⟩ | ⟨x,t,rfl,rfl⟩
  ·rcases He hb with ⟨j,u,rfl,e⟩ | ⟨y,u,rfl,e⟩
   ·injection e with e1 _;rw [e1]
   ·exact nomatch e
  ·rcases He hb with ⟨j,u,rfl,e⟩ | ⟨y,u,rfl,e⟩
   ·exact nomatch e
   ·injection e with e1 _;rw [e1]
 byValue:=fun k v h=>by
  rcases He h with ⟨i,t,rfl,rfl⟩ | ⟨x,t,rfl,rfl⟩ <;> rfl
 pyHash:=fun hv h=>by
  rcases He hv with ⟨i,t,rfl,rfl⟩ | ⟨x,t,rfl,rfl⟩
  ·exact wpAny_pyHash_int h
  ·exact wpAny_pyHash_str h
 eqBool:=fun hu hv h=>by
  rcases He hu with ⟨i,t,rfl,rfl⟩ | ⟨x,t,rfl,rfl⟩
  ·rcases He hv with ⟨j,u,rfl,rfl⟩ | ⟨y,u,rfl,rfl⟩
   ·rw [JK] at h;exact wpAny_eqBool_int h
   ·rw [dL] at h;exact SeqAt.EqAt.int_str i t y u _ _ _ _ h
  ·rcases He hv with ⟨j,u,rfl,rfl⟩ | ⟨y,u,rfl,rfl⟩
   ·rw [sM] at h;exact SeqAt.EqAt.str_int x t j u _ _ _ _ h
   ·rw [aL] at h;exact wpAny_eqBool_str h
 «strs»:=fun k x t v h=>by
  rcases He h with ⟨i,u,rfl,e⟩ | ⟨y,u,rfl,e⟩
  ·exact nomatch e
  ·injection e with e1 _;subst e1;cases v <;> rfl
theorem ny (prog:Program) (w:World) (i:Int) (t:Tok):(ig prog w).is (.inl i) (.int i t)=true:=OC i t
theorem Dy (prog:Program) (w:World) (x:Str) (t:Tok):(ig prog w).is (.inr x) (.str x t)=true:=wD x t
end L2
namespace L2
open PySem PySem.Spec PyProof.Rows
inductive V where
 | non | bl (b:Bool) | int (i:Int) | str (x:Str) | byt (b:Array UInt8) | flt (b:UInt64) | ref (a:Addr) | ty (n:String)
 deriving DecidableEq
noncomputable def Jd:V→Value→Prop
 | .non,u=>u=Value.none
 | .bl b,u=>u=Value.bool b
 | .int i,u=>∃ t,u=Value.int i t
 | .str x,u=>∃ t,u=Value.str x t
 | .byt b,u=>∃ t,u=Value.bytes b t
 | .flt b,u=>∃ t,u=Value.float b t
 | .ref a,u=>u=Value.ref a
 | .ty n,u=>u=Value.type n
noncomputable abbrev Dd:List V→List Value→Prop:=Paired Jd
theorem Dd.length {xs:List V} {us:List Value} (r:Dd xs us):xs.length=us.length:=Paired.length r
theorem Dd.get:∀ {xs:List V} {us:List Value} {i:Nat} {x:V},Dd xs us→xs[i]? = some x→∃ u,us[i]? = some u∧Jd x u
 | _,_,_,_,.nil,e=>by simp at e
 | _,_,0,_,.cons r _,e=>by simp at e;subst e;exact ⟨_,rfl,r⟩
 | _,_,i + 1,x,.cons _ t,e=>by
  obtain ⟨u,h1,h2⟩:=Dd.get (i:=i) (x:=x) t (by simpa using e);exact ⟨u,by simpa using h1,h2⟩
theorem Dd.set {x:V} {u:Value} (r:Jd x u):∀ {xs:List V} {us:List Value} (i:Nat),Dd xs us→Dd (xs.set i x) (us.set i u)
 | _,_,_,.nil=>.nil
 | _,_,0,.cons _ t=>.cons r t
 | _,_,i + 1,.cons q t=>.cons q (Dd.set r i t)
theorem Dd.append:∀ {xs ys:List V} {us ws:List Value},Dd xs us→Dd ys ws→Dd (xs ++ ys) (us ++ ws)
 | _,_,_,_,.nil,s=>s
 | _,_,_,_,.cons r t,s=>.cons r (Dd.append t s)
theorem Dd.take:∀ {xs:List V} {us:List Value} (n:Nat),Dd xs us→Dd (xs.take n) (us.take n)
 | _,_,0,_=>.nil
 | _,_,_ + 1,.nil=>.nil
 | _,_,n + 1,.cons r t=>.cons r (Dd.take n t)
theorem Dd.drop:∀ {xs:List V} {us:List Value} (n:Nat),Dd xs us→Dd (xs.drop n) (us.drop n)
 | _,_,0,r=>r
 | _,_,_ + 1,.nil=>.nil
 | _,_,n + 1,.cons _ t=>Dd.drop n t
theorem Dd.none_of:∀ {xs:List V} {us:List Value} {i:Nat},Dd xs us→xs[i]? = none→us[i]? = none:=fun {xs us i} r e=>by
 have h1:=r.length;have h2:xs.length ≤ i:=List.getElem?_eq_none_iff.mp e;exact List.getElem?_eq_none_iff.mpr (by omega)
noncomputable def Ms:Option V→Option Value→Prop
 | some v,some u=>Jd v u
 | none,none=>True
 | _,_=>False
noncomputable def KV {κ:Type}:List (κ × V)→List (κ × Value)→Prop:=Paired fun (p:κ × V) (q:κ × Value)=>p.1=q.1∧Jd p.2 q.2
noncomputable def kV:Key→V
 | .inl i=>.int i
 | .inr x=>.str x
inductive HO where
  | lst (xs:List V)
  | tup (xs:List V)
  | dK (kvs:List (Key × V)) | dT (kvs:List (List Key × V))
  | set (S:Int→Bool) (n:Nat)
  | ins (C dx:Addr) (fs:List (Str × V))
  | own (x:Addr)
  | xd (fs:List (Str × V))
  | met (f x:Addr)
  | rng (lo hi:Int)
  | frz (o:Obj) (u:HO)
  | tbl (ps:Array Value)
  | ext (φ:Heap→Prop)
noncomputable abbrev Hp:=Addr→Option HO
noncomputable def upd (H:Hp) (a:Addr) (o:HO):Hp:=fun b=>if b=a then some o else H b
theorem cb {H:Hp} {a:Addr} {o:HO}:upd H a o a=some o:=by unfold upd;rw [if_pos rfl]
theorem rb {H:Hp} {a b:Addr} {o:HO} (h:b ≠ a):upd H a o b=H b:=by unfold upd;rw [if_neg h]
theorem uk {H:Hp} {a:Addr} {o u:HO}:upd (upd H a o) a u=upd H a u:=by
 funext b;unfold upd;split <;> rfl
theorem kf {H:Hp} {a b:Addr} {o u:HO} (h:H a=some o) (h':H b=some u) (d:o ≠ u):a ≠ b:=by
 intro e;subst e;rw [h] at h';exact d (Option.some.inj h')
theorem xb {H:Hp} {a b:Addr} {o:HO} (h:H a=some o) (h':H b=none):a ≠ b:=by
 intro e;subst e;rw [h] at h';cases h'
section
variable (P:Program) (w:World)
noncomputable def Xd (H:Hp) (h:Heap) (a:Addr):HO→Prop
 | .lst xs=>xs.length ≤ sizeLine∧∃ (its:List Value) (n:Nat),Dd xs its∧h.get? a=some { cls:=.type "list",data:=.seq its.toArray n }
 | .tup xs=>(xs.length ≤ sizeLine∧∃ ob,h.get? a=some ob∧ob.dict=none)∧∃ its:List Value,Dd xs its∧IsTup h a its.toArray
 | .dK kvs=>kvs.length ≤ sizeLine∧(a == sysModules)=false∧∃ vs,KV kvs vs∧h.DictOf (ig P w) a vs
 | .dT kvs=>kvs.length ≤ sizeLine∧(a == sysModules)=false∧∃ xs:List (List Key × Addr × Value),
   Paired (fun (p:List Key × V) (q:List Key × Addr × Value)=>p.1=q.1∧H q.2.1=some (.tup (p.1.map kV))∧Jd p.2 q.2.2) kvs xs ∧
   ∃ o es ep,h.get? a=some o∧o.ExactDict∧o.data=.dict es ep∧es.toList=xs.map (entryOfKey (tupleKind (ig P w)))∧(xs.map (·.1)).Nodup
 | .set S n=>h.SetOf (intKind P w) a S n
 | .ins C dx fs=>H dx=some (.own a)∧fs.length ≤ 1000∧dx ≠ a∧h.get? a=some (PySem.W.instObj C dx) ∧
   ∃ mA,h.Ns1 dx mA∧(∀ f,Ms (fs.lookup f) (mA f))∧PySem.Within mA (fs.map (·.1))
 | .own _=>∃ o,h.get? a=some o
 | .xd fs=>∃ mA,h.Ns1 a mA∧∀ f,Ms (fs.lookup f) (mA f)
 | .rng lo hi=>∃ t u v,h.get? a=some { cls:=.type "range",data:=.fields #[.int lo t,.int hi u,.int 1 v] }
 | .frz o u=>h.get? a=some o∧Xd H h a u
 | .tbl ps=>h.get? a=some { cls:=.none,data:=.fields ps }
 | .met f x=>h.get? a=some (PySem.W.methodObj (.ref f) (.ref x))
 | .ext φ=>φ h∧(∃ o,h.get? a=some o)∧∀ h1 h2:Heap,φ h1→(∀ o,h1.get? a=some o→h2.get? a=some o)→φ h2
noncomputable def HOk (H:Hp) (h:Heap):Prop:=∀ a o,H a=some o→Xd P w H h a o
end
section
variable {P:Program} {w:World} {H H':Hp} {h h':Heap} {a:Addr} {o:HO}
theorem Xd.lt (x:Xd P w H h a o):a < h.objs.size:=by
 cases o with
 | lst xs=>obtain ⟨_,_,_,_,e⟩:=x;exact Heap.lt_size e
 | tup xs=>obtain ⟨_,_,_,p⟩:=x;exact p.lt
 | dK kvs=>obtain ⟨_,_,_,_,o,_,_,e,_⟩:=x;exact Heap.lt_size e
 | dT kvs=>obtain ⟨_,_,_,_,o,_,_,e,_⟩:=x;exact Heap.lt_size e
 | set S n=>obtain ⟨o,_,_,_,e,_⟩:=x;exact Heap.lt_size e
 | ins C dx fs=>obtain ⟨_,_,_,e,_⟩:=x;exact Heap.lt_size e
 | own y=>obtain ⟨_,e⟩:=x;exact Heap.lt_size e
 | xd fs=>obtain ⟨_,⟨_,_,_,e,_⟩,_⟩:=x;exact Heap.lt_size e
 | rng lo hi=>obtain ⟨_,_,_,e⟩:=x;exact Heap.lt_size e
 | frz ob u=>obtain ⟨e,_⟩:=x;exact Heap.lt_size e
 | tbl ps=>exact Heap.lt_size (show h.get? a=some _ from x)
 | met f y=>exact Heap.lt_size (show h.get? a=some _ from x)
 | ext φ=>obtain ⟨_,⟨_,e⟩,_⟩:=x;exact Heap.lt_size e
theorem Paired.mapP {α β:Type} {F G:α→β→Prop}:∀ {l₁:List α} {l₂:List β},Paired F l₁ l₂→(∀ a b,F a b→G a b)→Paired G l₁ l₂
 | _,_,.nil,_=>.nil
 | _,_,.cons r t,f=>.cons (f _ _ r) (Paired.mapP t f)
theorem Xd.stay (x:Xd P w H h a o) (k:∀ b u,(b=a∨H b=some (.own a))→h.get? b=some u→h'.get? b=some u)
  (ho:∀ b,H b=some (.own a)→H' b=some (.own a)) (ht:∀ b xs,H b=some (.tup xs)→H' b=some (.tup xs)):Xd P w H' h' a o:=by
 induction o with
 | lst xs=>obtain ⟨z,its,n,r,e⟩:=x;exact ⟨z,its,n,r,k _ _ (.inl rfl) e⟩
 | tup xs=>obtain ⟨⟨z,oz,ez,dz⟩,its,r,ob,e,c⟩:=x;exact ⟨⟨z,oz,k _ _ (.inl rfl) ez,dz⟩,its,r,ob,k _ _ (.inl rfl) e,c⟩
 | dK kvs=>obtain ⟨z,y,vs,r,ob,es,ep,e,c⟩:=x;exact ⟨z,y,vs,r,ob,es,ep,k _ _ (.inl rfl) e,c⟩
 | dT kvs=>
  obtain ⟨z,y,xs,r,ob,es,ep,e,c⟩:=x;exact ⟨z,y,xs,Paired.mapP r fun p q z=>⟨z.1,ht _ _ z.2.1,z.2.2⟩,ob,es,ep,k _ _ (.inl rfl) e,c⟩
 | set S n=>obtain ⟨ob,es,ep,t,e,c⟩:=x;exact ⟨ob,es,ep,t,k _ _ (.inl rfl) e,c⟩
 | ins C dx fs=>
  obtain ⟨d,z,ne,e,mA,⟨od,es,ep,e2,c⟩,r⟩:=x;exact ⟨ho _ d,z,ne,k _ _ (.inl rfl) e,mA,⟨od,es,ep,k _ _ (.inr d) e2,c⟩,r⟩
 | own y=>obtain ⟨ob,e⟩:=x;exact ⟨ob,k _ _ (.inl rfl) e⟩
 | xd fs=>obtain ⟨mA,⟨od,es,ep,e,c⟩,r⟩:=x;exact ⟨mA,⟨od,es,ep,k _ _ (.inl rfl) e,c⟩,r⟩
 | rng lo hi=>obtain ⟨t,u,v,e⟩:=x;exact ⟨t,u,v,k _ _ (.inl rfl) e⟩
 | frz ob u ih=>obtain ⟨e,q⟩:=x;exact ⟨k _ _ (.inl rfl) e,ih q⟩
 | tbl ps=>
  have e:h.get? a=some { cls:=.none,data:=.fields ps }:=x;show h'.get? a=some { cls:=.none,data:=.fields ps };exact k a _ (.inl rfl) e
 | met f y=>
  have e:h.get? a=some (PySem.W.methodObj (.ref f) (.ref y)):=x;show h'.get? a=some (PySem.W.methodObj (.ref f) (.ref y));exact k a _ (.inl rfl) e
 | ext φ=>obtain ⟨p,⟨o,e⟩,st⟩:=x;exact ⟨st _ _ p fun o q=>k _ _ (.inl rfl) q,⟨o,k _ _ (.inl rfl) e⟩,st⟩
theorem HOk.lt (x:HOk P w H h) (e:H a=some o):a < h.objs.size:=(x a o e).lt
theorem HOk.fresh (x:HOk P w H h) (e:h.objs.size ≤ a):H a=none:=by
 cases q:H a with
 | none=>rfl
 | some u=>exact absurd (Nat.lt_of_lt_of_le (x.lt q) e) (Nat.lt_irrefl _)
theorem HOk.kept (x:HOk P w H h) (k:∀ b u,h.get? b=some u→h'.get? b=some u):HOk P w H h':=fun a o e=>
 (x a o e).stay (fun b u _ q=>k b u q) (fun _ q=>q) fun _ _ q=>q
theorem HOk.laid (x:HOk P w H h) (k:∀ b u,h.get? b=some u→h'.get? b=some u) (hp:h.objs.size ≤ a) (new:Xd P w (upd H a o) h' a o):HOk P w (upd H a o) h':=fun b u e=>by
 have hn:=x.fresh hp;by_cases hb:b=a
 ·subst hb;rw [cb] at e;cases e;exact new
 ·rw [rb hb] at e;exact (x b u e).stay (fun c v _ q=>k c v q) (fun c q=>by rw [rb (xb q hn)];exact q) fun c xs q=>by rw [rb (xb q hn)];exact q
end
noncomputable def Rd (H:Hp) (a:Addr) (u:HO):Prop:=H a=some u∨∃ o,H a=some (.frz o u)
theorem Rd.of {H:Hp} {a:Addr} {u:HO} (h:H a=some u):Rd H a u:=.inl h
theorem Rd.ok {P:Program} {w:World} {H:Hp} {h:Heap} {a:Addr} {u:HO} (r:Rd H a u) (x:HOk P w H h):Xd P w H h a u:=by
 rcases r with r | ⟨o,r⟩
 ·exact x a u r
 ·obtain ⟨_,q⟩:=x a _ r;exact q
noncomputable def Mut:Option HO→Prop
 | some (.lst _)=>True
 | some (.dK _)=>True
 | some (.dT _)=>True
 | some (.set _ _)=>True
 | some (.ins _ _ _)=>True
 | some (.ext _)=>True
 | _=>False
section
variable {P:Program} {w:World} {H:Hp} {h h':Heap} {x e:Addr} {o':HO}
theorem HOk.write (ok:HOk P w H h) (mu:Mut (H x)) (he:e=x∨H e=some (.own x)) (k:∀ b u,b ≠ e→h.get? b=some u→h'.get? b=some u) (heo:∃ u,h'.get? e=some u)
  (new:Xd P w (upd H x o') h' x o'):HOk P w (upd H x o') h':=fun b u q=>by
 have nown:∀ c y,H c=some (.own y)→c ≠ x:=fun c y r z=>by subst z;rw [r] at mu;exact mu
 have ntup:∀ c xs,H c=some (.tup xs)→c ≠ x:=fun c xs r z=>by subst z;rw [r] at mu;exact mu
 by_cases hb:b=x
 ·subst hb;rw [cb] at q;cases q;exact new
 ·rw [rb hb] at q;by_cases hbe:b=e
  ·have q':H b=some (.own x):=by
    rcases he with z | z
    ·exact absurd (hbe.trans z) hb
    ·rw [hbe];exact z
   rw [q] at q';cases q';obtain ⟨v,hv⟩:=heo;exact ⟨v,by rw [hbe];exact hv⟩
  ·refine (ok b u q).stay (fun c v hc r=>k c v ?_ r) (fun c r=>by rw [rb (nown c b r)];exact r) fun c xs r=>by rw [rb (ntup c xs r)];exact r
   rcases hc with rfl | hc
   ·exact hbe
   ·rintro rfl;rcases he with z | z
    ·exact nown c b hc z
    ·rw [hc] at z;cases z;exact hb rfl
end
structure Un (fs ex:List Addr) (H H':Hp) (h h':Heap):Prop where
 keep:∀ b o,h.get? b=some o→H b=none→b ∉ fs→b ∉ ex→h'.get? b=some o
 slot:∀ b o,h.get? b=some o→H b=none→b ∈ fs→b ∉ ex→∃ sl,h'.get? b=some { o with slots:=sl }
 free:∀ b o,h.get? b=some o→H b=none→b ∉ ex→H' b=none
 there:∀ b o,h.get? b=some o→b ∉ ex→∃ o',h'.get? b=some o'
 tups:∀ b xs,H b=some (.tup xs)→H' b=some (.tup xs)
 frzs:∀ b o u,H b=some (.frz o u)→H' b=some (.frz o u)
 tbls:∀ b ps,H b=some (.tbl ps)→∃ more,H' b=some (.tbl (ps ++ more))
section
variable {fs fs' ex ex':List Addr} {H H1 H2:Hp} {h h1 h2 h':Heap} {a x e:Addr} {o:HO}
theorem Un.any (u:Un fs ex H H1 h h1) {b:Addr} {ob:Obj} (q:h.get? b=some ob) (n:H b=none) (hx:b ∉ ex):∃ sl,h1.get? b=some { ob with slots:=sl }:=by
 by_cases hb:b ∈ fs
 ·exact u.slot b ob q n hb hx
 ·exact ⟨ob.slots,u.keep b ob q n hb hx⟩
theorem Un.trans (a:Un fs ex H H1 h h1) (b:Un fs ex H1 H2 h1 h2):Un fs ex H H2 h h2 where
 keep:=fun c ob q n hc hx=>b.keep c ob (a.keep c ob q n hc hx) (a.free c ob q n hx) hc hx
 slot:=fun c ob q n hc hx=>by
  obtain ⟨sl,e1⟩:=a.slot c ob q n hc hx;obtain ⟨sl',e2⟩:=b.slot c _ e1 (a.free c ob q n hx) hc hx;exact ⟨sl',e2⟩
 free:=fun c ob q n hx=>by
  obtain ⟨o',e1⟩:=a.there c ob q hx;exact b.free c o' e1 (a.free c ob q n hx) hx
 there:=fun c ob q hx=>by
  obtain ⟨o',e1⟩:=a.there c ob q hx;exact b.there c o' e1 hx
 tups:=fun c xs q=>b.tups c xs (a.tups c xs q)
 frzs:=fun c ob xs q=>b.frzs c ob xs (a.frzs c ob xs q)
 tbls:=fun c ps q=>by
  obtain ⟨m1,e1⟩:=a.tbls c ps q;obtain ⟨m2,e2⟩:=b.tbls c _ e1;exact ⟨m1 ++ m2,by rw [e2,Array.append_assoc]⟩
theorem Un.kept (k:∀ b u,h.get? b=some u→h'.get? b=some u):Un fs ex H H h h':=
 ⟨fun b ob q _ _ _=>k b ob q,fun b ob q _ _ _=>⟨ob.slots,k b ob q⟩,fun _ _ _ n _=>n,fun b ob q _=>⟨ob,k b ob q⟩,fun _ _ q=>q,fun _ _ _ q=>q,fun _ ps q=>⟨#[],by rw [q];simp⟩⟩
theorem Un.refl:Un fs ex H H h h:=Un.kept fun _ _ q=>q
theorem Un.laid (k:∀ b u,h.get? b=some u→h'.get? b=some u) (hp:h.objs.size ≤ a) (hn:H a=none):Un fs ex H (upd H a o) h h' where
 keep:=fun b u q _ _ _=>k b u q
 slot:=fun b u q _ _ _=>⟨u.slots,k b u q⟩
 free:=fun b u q n _=>by rw [rb (Nat.ne_of_lt (Nat.lt_of_lt_of_le (Heap.lt_size q) hp))];exact n
 there:=fun b u q _=>⟨u,k b u q⟩
 tups:=fun b xs q=>by rw [rb (xb q hn)];exact q
 frzs:=fun b u xs q=>by rw [rb (xb q hn)];exact q
 tbls:=fun b ps q=>⟨#[],by rw [rb (xb q hn),q];simp⟩
theorem Un.write (mu:Mut (H x)) (he:e=x∨H e=some (.own x)) (k:∀ b u,b ≠ e→h.get? b=some u→h'.get? b=some u) (heo:∃ u,h'.get? e=some u):Un fs ex H (upd H x o) h h':=by
 have hx:∀ b,H b=none→b ≠ x:=fun b n z=>by subst z;rw [n] at mu;exact mu
 have hb:∀ b,H b=none→b ≠ e:=fun b n z=>by
  subst z;rcases he with r | r
  ·exact hx b n r
  ·rw [n] at r;cases r
 have hm:∀ b u,H b=some u→¬ Mut (some u)→b ≠ x:=fun b u q nm z=>by subst z;rw [q] at mu;exact nm mu
 refine ⟨fun b u q n _ _=>k b u (hb b n) q,fun b u q n _ _=>⟨u.slots,k b u (hb b n) q⟩,fun b u q n _=>by rw [rb (hx b n)];exact n,fun b u q _=>?_,
  fun b xs q=>by rw [rb (hm b _ q fun z=>z)];exact q,fun b u xs q=>by rw [rb (hm b _ q fun z=>z)];exact q,fun b ps q=>⟨#[],by rw [rb (hm b _ q fun z=>z),q];simp⟩⟩
 by_cases hbe:b=e
 ·subst hbe;exact heo
 ·exact ⟨u,k b u hbe q⟩
theorem Un.mono (u:Un fs ex H H1 h h1) (hs:∀ b ∈ fs,b ∈ fs') (hx:∀ b ∈ ex,b ∈ ex'):Un fs' ex' H H1 h h1:=
 ⟨fun b ob q n hb he=>u.keep b ob q n (fun z=>hb (hs b z)) fun z=>he (hx b z),fun _ _ q n _ he=>u.any q n fun z=>he (hx _ z),fun b ob q n he=>u.free b ob q n fun z=>he (hx b z),fun b ob q he=>u.there b ob q fun z=>he (hx b z),u.tups,u.frzs,u.tbls⟩
end
noncomputable def trk (h:Heap) (H:Hp):List Addr:=(List.range h.objs.size).filter fun a=>(H a).isSome
noncomputable def EG (h:Heap) (H:Hp):Heap:=PySem.W.hideAll h (trk h H)
theorem gG (h:Heap) (H:Hp):(EG h H).objs.size=h.objs.size:=PySem.W.hideAll_size _ _
theorem iH {h:Heap} {H:Hp} {b:Addr} {o:Obj} (e:h.get? b=some o) (n:H b=none):(EG h H).get? b=some o:=
 PySem.W.hideAll_get _ e fun hm=>by
  have q:(H b).isSome=true:=(List.mem_filter.mp hm).2;rw [n] at q;simp at q
theorem yK {h:Heap} {H:Hp} {b:Addr} {o:Obj} (e:(EG h H).get? b=some o):h.get? b=some o∧H b=none:=by
 have e':h.get? b=some o:=PySem.W.of_hideAll (trk h H) e;refine ⟨e',?_⟩;cases q:H b with
 | none=>rfl
 | some x=>
  have hm:b ∈ trk h H:=List.mem_filter.mpr ⟨List.mem_range.mpr (Heap.lt_size e'),by simp [q]⟩;have z:(EG h H).get? b=none:=PySem.W.hideAll_none (trk h H) hm;rw [z] at e;cases e
noncomputable def gK (g h:Heap) (L:Addr):List (Addr × Obj):=(List.range h.objs.size).filterMap fun a=>if a=L∨(g.get? a).isSome=true then none else (h.get? a).map fun o=>(a,o)
noncomputable def rest (g h:Heap) (L d:Addr):List (Addr × Obj):=(gK g h L).filter fun p=>decide (p.1 ≠ d)
end L2
namespace L2
open PySem PySem.Spec PyProof.Rows
structure Mod (K:PySem.W.Frag) (mg:Str→Option Value) (base:Heap):Prop where
 kin:K.In base
 glob:base.Ns mainGlobals mg
 blt:∃ mb,base.Ns builtinsNs mb∧∀ x:Str,x ≠ "__name__" → mb x=bootBuiltins x
 nolimit:base.NoLimit
structure Cx where
 prog:Program
 w:World
 K:PySem.W.Frag
 mg:Str→Option Value
 base:Heap
 A:Around
 N:List Str
 s₀:Shared
 H₀:Hp
 env:Env
 outer:List Env
 stack:List Env
 ex:List Addr
 fn:Str→Bool
 calm:Bool
 pn:List (Addr × Obj)
 xe:Value→Shared→Prop
noncomputable def frs (l:List Env):List Addr:=l.filterMap (·.frame)
noncomputable abbrev Cx.fs (X:Cx):List Addr:=frs X.outer
noncomputable def Vis (sc:Scope) (x:Str):Prop:=sc.names.lookup x=some .local∨sc.names.lookup x=some .cell∨sc.names.lookup x=some .free
noncomputable def Loc (sc:Scope) (x:Str):Prop:=sc.names.lookup x=some .local∨sc.names.lookup x=some .cell
noncomputable def FO (env:Env) (h:Heap) (m:Str→Option Value) (x:Str) (u:Value):Prop:=
 (env.kindOf x=some .local∧m x=some u)∨((env.kindOf x=some .cell∨env.kindOf x=some .free)∧∃ c,env.cells.lookup x=some c∧h.IsCell c (some u))
structure Cx.Ok (X:Cx):Prop where
 mod:Mod X.K X.mg X.base
 kind:X.env.scope.kind=.function
 glob:X.env.globals=mainGlobals
 blt:X.env.builtins=builtinsNs
 above:X.s₀.heap.objs.size ≤ X.env.locals
 inj:∀ x y c,X.env.cells.lookup x=some c→X.env.cells.lookup y=some c→x=y
 has:∀ x,(X.env.kindOf x=some .cell∨X.env.kindOf x=some .free)→∃ c,X.env.cells.lookup x=some c
 cab:∀ x c,X.fn x=true→X.env.cells.lookup x=some c→X.s₀.heap.objs.size ≤ c
 hd:X.calm=true→X.A.handled=none
 frames:X.A.frames=some X.stack
 stk:X.stack=X.outer∨(X.stack=X.env :: X.outer∧X.env.frame=some X.env.locals)
 exf:∀ b ∈ X.ex,b ≠ X.env.locals∧∀ x c,X.env.cells.lookup x=some c→c ≠ b
 bs:∀ b o,X.base.get? b=some o→X.s₀.heap.get? b=some o∧X.H₀ b=none
 bsz:X.base.objs.size ≤ X.s₀.heap.objs.size
 noex:∀ b o,X.base.get? b=some o→b ∉ X.ex
 exfs:∀ b ∈ X.ex,b ∉ X.fs
 funs:X.s₀.heap.FunFrames X.base X.outer
 frf:∀ b ∈ X.fs,X.H₀ b=none
structure Inv (X:Cx) (pins:List (Addr × Obj)) (σ:List (Option V)) (H:Hp) (s:Shared):Prop where
 ok:X.Ok
 os:s.os=X.s₀.os
 bare:AllBare s.gens
 base:Un X.fs X.ex X.H₀ H X.s₀.heap s.heap
 loc:∃ m,s.heap.Ns X.env.locals m∧∀ (i:Nat) (x:Str) (v:V),X.N[i]? = some x→σ[i]? = some (some v)→Vis X.env.scope x→∃ u,Jd v u∧FO X.env s.heap m x u
 cell:∀ x c,X.env.cells.lookup x=some c→∃ v,s.heap.IsCell c v
 free:H X.env.locals=none
 freeC:∀ x c,X.env.cells.lookup x=some c→H c=none
 pin:∀ p ∈ X.pn ++ pins,s.heap.get? p.1=some p.2∧H p.1=none∧p.1 ≠ X.env.locals∧p.1 ∉ X.fs∧∀ v,p.2.data ≠ .cell v
 hok:HOk X.prog X.w H s.heap
 len:σ.length=X.N.length
section
variable {X:Cx} {pins:List (Addr × Obj)} {σ:List (Option V)} {H H':Hp} {s:Shared} {h':Heap}
theorem Cx.Ok.nofr (ok:X.Ok) {b:Addr} {o:Obj} (e:X.base.get? b=some o):b ∉ X.fs:=fun hb=>by
 have:=(ok.funs.mem hb).1;rw [e] at this;cases this
theorem Inv.bs (I:Inv X pins σ H s):∀ b o,X.base.get? b=some o→s.heap.get? b=some o∧H b=none:=fun b o e=>
 ⟨I.base.keep b o (I.ok.bs b o e).1 (I.ok.bs b o e).2 (I.ok.nofr e) (I.ok.noex b o e),I.base.free b o (I.ok.bs b o e).1 (I.ok.bs b o e).2 (I.ok.noex b o e)⟩
theorem Inv.bk (I:Inv X pins σ H s):∀ b o,X.base.get? b=some o→s.heap.get? b=some o:=fun b o e=>(I.bs b o e).1
theorem Inv.mod (I:Inv X pins σ H s):Mod X.K X.mg X.base:=I.ok.mod
theorem Inv.kIn (I:Inv X pins σ H s):X.K.In s.heap:=I.ok.mod.kin.keeps I.bk
theorem Inv.nolimit (I:Inv X pins σ H s):s.heap.NoLimit:=I.ok.mod.nolimit.keeps I.bk
theorem Inv.fr (I:Inv X pins σ H s):∃ m,Fr X.base X.env.locals s.heap m:=
 let ⟨m,hn,_⟩:=I.loc
 ⟨m,hn,I.bk,Nat.le_trans I.ok.bsz I.ok.above⟩
theorem Inv.lt (I:Inv X pins σ H s):X.env.locals < s.heap.objs.size:=let ⟨_,hn,_⟩:=I.loc;hn.lt
theorem Inv.sz (I:Inv X pins σ H s):X.s₀.heap.objs.size ≤ s.heap.objs.size:=Nat.le_trans I.ok.above (Nat.le_of_lt I.lt)
theorem Inv.nofs (I:Inv X pins σ H s) {a:Addr} (h:s.heap.objs.size ≤ a):a ∉ X.fs:=fun hb=>by
 obtain ⟨_,o,ho,_⟩:=I.ok.funs.mem hb;exact absurd (Nat.lt_of_lt_of_le (Heap.lt_size ho) (Nat.le_trans I.sz h)) (Nat.lt_irrefl _)
theorem Inv.cne (I:Inv X pins σ H s):∀ x c,X.env.cells.lookup x=some c→c ≠ X.env.locals:=fun x c e z=>by
 obtain ⟨v,o,ho,hd⟩:=I.cell x c e;obtain ⟨m,⟨o',es,ep,ho',hd',_⟩,_⟩:=I.loc;rw [z,ho'] at ho;cases ho;rw [hd'] at hd;cases hd
theorem Inv.funs (I:Inv X pins σ H s):s.heap.FunFrames X.base X.outer:=by
 have all:∀ (l:List Env),(∀ b ∈ frs l,b ∈ X.fs)→X.s₀.heap.FunFrames X.base l→s.heap.FunFrames X.base l:=by
  intro l
  induction l with
  | nil=>intro _ _;trivial
  | cons env r ih=>
   intro hs hl;obtain ⟨hk,⟨L,o,hf,hn,ho,hd⟩,hr⟩:=hl;have hL:L ∈ X.fs:=hs L (by unfold frs;rw [List.filterMap_cons,hf];exact List.mem_cons_self);obtain ⟨sl,e⟩:=I.base.slot L o ho (I.ok.frf L hL) hL fun z=>I.ok.exfs L z hL
   exact ⟨hk,⟨L,_,hf,hn,e,hd⟩,ih (fun b hb=>hs b (by unfold frs;rw [List.filterMap_cons,hf];exact List.mem_cons_of_mem _ hb)) hr⟩
 exact all X.outer (fun _ hb=>hb) I.ok.funs
theorem Inv.stack (I:Inv X pins σ H s):s.heap.FunFrames X.base X.stack:=by
 rcases I.ok.stk with e | ⟨e,hf⟩
 ·rw [e];exact I.funs
 ·rw [e];obtain ⟨m,hn,_⟩:=I.loc;refine .cons (by rw [I.ok.kind];decide) hf hn ?_ I.funs;exact Heap.get?_none_of_le (Nat.le_trans I.ok.bsz I.ok.above)
theorem Inv.stkSub (I:Inv X pins σ H s):∀ b ∈ frs X.stack,b ∈ X.env.locals :: X.fs:=fun b hb=>by
 rcases I.ok.stk with e | ⟨e,hf⟩
 ·rw [e] at hb;exact List.mem_cons_of_mem _ hb
 ·rw [e] at hb;unfold frs at hb;rw [List.filterMap_cons,hf] at hb;exact hb
theorem Inv.stkFree (I:Inv X pins σ H s):∀ b ∈ frs X.stack,H b=none:=fun b hb=>by
 rcases List.mem_cons.mp (I.stkSub b hb) with e | hb
 ·rw [e];exact I.free
 ·obtain ⟨_,o,ho,_⟩:=I.ok.funs.mem hb;exact I.base.free b o ho (I.ok.frf b hb) fun z=>I.ok.exfs b z hb
theorem Inv.step {g':Array GenState} {t':Nat} {d':Drawn} {ch:List Addr} (I:Inv X pins σ H s)
  (hch:∀ b ∈ ch,(b ∈ X.ex∨X.s₀.heap.objs.size ≤ b)∧b ≠ X.env.locals∧(∀ x c,X.env.cells.lookup x=some c→c ≠ b)∧∀ p ∈ X.pn ++ pins,p.1 ≠ b)
  (keep:∀ b o,b ≠ X.env.locals→b ∉ X.fs→b ∉ ch→s.heap.get? b=some o→H b=none→h'.get? b=some o)
  (slot:∀ b o,b ≠ X.env.locals→b ∈ X.fs→b ∉ ch→s.heap.get? b=some o→H b=none→∃ sl,h'.get? b=some { o with slots:=sl }) (free:∀ b o,b ∉ ch→s.heap.get? b=some o→H b=none→H' b=none)
  (there:∀ b o,b ∉ ch→s.heap.get? b=some o→∃ o',h'.get? b=some o')
  (tups:∀ b xs,H b=some (.tup xs)→H' b=some (.tup xs)) (frzs:∀ b o u,H b=some (.frz o u)→H' b=some (.frz o u)) (tbls:∀ b ps,H b=some (.tbl ps)→∃ more,H' b=some (.tbl (ps ++ more)))
  (ns:∀ m,s.heap.Ns X.env.locals m→h'.Ns X.env.locals m) (hok:HOk X.prog X.w H' h') (hg:AllBare g') :
  Inv X pins σ H' { s with heap:=h',gens:=g',drawn:=d',toks:=t' }:=by
 have neL:∀ b o,X.s₀.heap.get? b=some o→b ≠ X.env.locals:=fun b o e=>Nat.ne_of_lt (Nat.lt_of_lt_of_le (Heap.lt_size e) I.ok.above)
 have neC:∀ b o,X.s₀.heap.get? b=some o→b ∉ X.ex→b ∉ ch:=fun b o e hx hb=>by
  rcases (hch b hb).1 with z | z
  ·exact hx z
  ·exact absurd (Nat.lt_of_lt_of_le (Heap.lt_size e) z) (Nat.lt_irrefl _)
 have cellK:∀ x c,X.env.cells.lookup x=some c→∀ v,s.heap.IsCell c v→h'.IsCell c v:=fun x c e v ⟨o,ho,hd⟩=>by
  have nch:c ∉ ch:=fun z=>(hch c z).2.2.1 x c e rfl
  by_cases hc:c ∈ X.fs
  ·obtain ⟨sl,q⟩:=slot c o (I.cne x c e) hc nch ho (I.freeC x c e);exact ⟨_,q,hd⟩
  ·exact ⟨o,keep c o (I.cne x c e) hc nch ho (I.freeC x c e),hd⟩
 refine ⟨I.ok,I.os,hg,⟨fun b o e n hb hx=>?_,fun b o e n hb hx=>?_,fun b o e n hx=>?_,fun b o e hx=>?_,fun b xs e=>tups b xs (I.base.tups b xs e),fun b o xs e=>frzs b o xs (I.base.frzs b o xs e),fun b ps e=>?_⟩,?_,fun x c e=>?_,?_,fun x c e=>?_,fun p hp=>?_,hok,I.len⟩
 ·exact keep b o (neL b o e) hb (neC b o e hx) (I.base.keep b o e n hb hx) (I.base.free b o e n hx)
 ·obtain ⟨sl,e1⟩:=I.base.slot b o e n hb hx;obtain ⟨sl',e2⟩:=slot b _ (neL b o e) hb (neC b o e hx) e1 (I.base.free b o e n hx);exact ⟨sl',e2⟩
 ·obtain ⟨o',e1⟩:=I.base.there b o e hx;exact free b o' (neC b o e hx) e1 (I.base.free b o e n hx)
 ·obtain ⟨o',e1⟩:=I.base.there b o e hx;exact there b o' (neC b o e hx) e1
 ·obtain ⟨m1,e1⟩:=I.base.tbls b ps e;obtain ⟨m2,e2⟩:=tbls b _ e1;exact ⟨m1 ++ m2,by rw [e2,Array.append_assoc]⟩
 ·obtain ⟨m,hn,hl⟩:=I.loc;refine ⟨m,ns m hn,fun i x v e1 e2 e3=>?_⟩;obtain ⟨u,r,l⟩:=hl i x v e1 e2 e3;refine ⟨u,r,?_⟩;rcases l with l | ⟨k,c,e,z⟩
  ·exact .inl l
  ·exact .inr ⟨k,c,e,cellK x c e _ z⟩
 ·obtain ⟨v,z⟩:=I.cell x c e;exact ⟨v,cellK x c e v z⟩
 ·obtain ⟨m,⟨o,_,_,ho,_⟩,_⟩:=I.loc;exact free _ o (fun z=>(hch _ z).2.1 rfl) ho I.free
 ·obtain ⟨v,o,ho,hd⟩:=I.cell x c e;exact free c o (fun z=>(hch c z).2.2.1 x c e rfl) ho (I.freeC x c e)
 ·obtain ⟨e,n,ne,nf,d⟩:=I.pin p hp;have nch:p.1 ∉ ch:=fun z=>(hch p.1 z).2.2.2 p hp rfl
  exact ⟨keep p.1 p.2 ne nf nch e n,free p.1 p.2 nch e n,ne,nf,d⟩
theorem Inv.un {t':Nat} (I:Inv X pins σ H s) (u:Un X.fs [] H H' s.heap h') (hok:HOk X.prog X.w H' h'):Inv X pins σ H' { s with heap:=h',toks:=t' }:=by
 obtain ⟨m,⟨o,es,ep,ho,r⟩,_⟩:=id I.loc;obtain ⟨sl,hL⟩:=u.any ho I.free (by simp);exact I.step (g':=s.gens) (d':=s.drawn) (ch:=[]) (fun _ z=>nomatch z) (fun b o _ hb _ e n=>u.keep b o e n hb (by simp)) (fun b o _ hb _ e n=>u.slot b o e n hb (by simp)) (fun b o _ e n=>u.free b o e n (by simp)) (fun b o _ e=>u.there b o e (by simp)) u.tups u.frzs u.tbls (fun m' hm=>by
  obtain ⟨o',es',ep',ho',r'⟩:=hm;rw [ho] at ho';cases ho';exact ⟨_,es',ep',hL,r'⟩) hok I.bare
theorem Inv.call {g':Array GenState} {t':Nat} {d':Drawn} {ch:List Addr} (I:Inv X pins σ H s) (u:Un (frs X.stack) ch H H' s.heap h') (hok:HOk X.prog X.w H' h') (hg:AllBare g')
  (hch:∀ b ∈ ch,(b ∈ X.ex∨X.s₀.heap.objs.size ≤ b)∧b ≠ X.env.locals∧(∀ x c,X.env.cells.lookup x=some c→c ≠ b)∧∀ p ∈ X.pn ++ pins,p.1 ≠ b) :
  Inv X pins σ H' { s with heap:=h',gens:=g',drawn:=d',toks:=t' }:=by
 obtain ⟨m,⟨o,es,ep,ho,r⟩,_⟩:=id I.loc;obtain ⟨sl,hL⟩:=u.any ho I.free fun z=>(hch _ z).2.1 rfl
 exact I.step (ch:=ch) hch (fun b o hL hb hc e n=>u.keep b o e n (fun z=>(List.mem_cons.mp (I.stkSub b z)).elim hL hb) hc) (fun b o _ _ hc e n=>u.any e n hc) (fun b o hc e n=>u.free b o e n hc) (fun b o hc e=>u.there b o e hc) u.tups u.frzs u.tbls (fun m' hm=>by
  obtain ⟨o',es',ep',ho',r'⟩:=hm;rw [ho] at ho';cases ho';exact ⟨_,es',ep',hL,r'⟩) hok hg
theorem Inv.turned {t':Nat} {it:Addr} (I:Inv X pins σ H s) (k:∀ b o,b ≠ it→s.heap.get? b=some o→h'.get? b=some o) (hn:H it=none) (hL:it ≠ X.env.locals)
  (h1:it ∈ X.ex∨X.s₀.heap.objs.size ≤ it) (h2:∀ x c,X.env.cells.lookup x=some c→c ≠ it) (h3:∀ p ∈ X.pn ++ pins,p.1 ≠ it):Inv X pins σ H { s with heap:=h',toks:=t' }:=by
 have nit:∀ b u,H b=some u→b ≠ it:=fun b u e z=>by rw [z,hn] at e;cases e
 refine I.step (g':=s.gens) (d':=s.drawn) (ch:=[it]) (fun b hb=>?_) (fun b o _ _ hc e _=>k b o (fun z=>hc (by simp [z])) e) (fun b o _ _ hc e _=>⟨o.slots,k b o (fun z=>hc (by simp [z])) e⟩) (fun _ _ _ _ n=>n)
  (fun b o hc e=>⟨o,k b o (fun z=>hc (by simp [z])) e⟩) (fun _ _ e=>e) (fun _ _ _ e=>e) (fun b ps e=>⟨#[],by rw [e];simp⟩) (fun m hm=>?_) (fun b u e=>?_) I.bare
 ·have e:b=it:=by simpa using hb
  subst e;exact ⟨h1,hL,h2,h3⟩
 ·obtain ⟨o,es,ep,ho,r⟩:=hm;exact ⟨o,es,ep,k _ o (Ne.symm hL) ho,r⟩
 ·refine (I.hok b u e).stay (fun c v hc q=>k c v ?_ q) (fun _ q=>q) fun _ _ q=>q
  rcases hc with z | z
  ·rw [z];exact nit b u e
  ·exact nit c _ z
theorem Inv.tok (I:Inv X pins σ H s) (t:Nat):Inv X pins σ H { s with toks:=t }:=I.un (h':=s.heap) (t':=t) Un.refl I.hok
theorem Inv.kept {t':Nat} (I:Inv X pins σ H s) (k:∀ b u,s.heap.get? b=some u→h'.get? b=some u):Inv X pins σ H { s with heap:=h',toks:=t' }:=I.un (Un.kept k) (I.hok.kept k)
theorem Inv.laid {a:Addr} {o:HO} {t':Nat} (I:Inv X pins σ H s) (k:∀ b u,s.heap.get? b=some u→h'.get? b=some u) (hp:s.heap.objs.size ≤ a) (new:Xd X.prog X.w (upd H a o) h' a o) :
  Inv X pins σ (upd H a o) { s with heap:=h',toks:=t' }:=I.un (Un.laid k hp (I.hok.fresh hp)) (I.hok.laid k hp new)
theorem Inv.write {x e:Addr} {o:HO} {t':Nat} (I:Inv X pins σ H s) (mu:Mut (H x)) (he:e=x∨H e=some (.own x)) (k:∀ b u,b ≠ e→s.heap.get? b=some u→h'.get? b=some u) (heo:∃ u,h'.get? e=some u)
  (new:Xd X.prog X.w (upd H x o) h' x o):Inv X pins σ (upd H x o) { s with heap:=h',toks:=t' }:=I.un (Un.write mu he k heo) (I.hok.write mu he k heo new)
theorem Inv.weak {σ':List (Option V)} (I:Inv X pins σ H s) (hl:σ'.length=σ.length) (w:∀ (i:Nat) v,σ'[i]? = some (some v)→σ[i]? = some (some v)):Inv X pins σ' H s:=
 ⟨I.ok,I.os,I.bare,I.base,let ⟨m,hn,hl'⟩:=I.loc;⟨m,hn,fun i x v e1 e2 e3=>hl' i x v e1 (w i v e2) e3⟩,I.cell,I.free,I.freeC,I.pin,I.hok,hl.trans I.len⟩
theorem Inv.pins_of {pins':List (Addr × Obj)} (I:Inv X pins σ H s) (h:∀ p ∈ pins',s.heap.get? p.1=some p.2∧H p.1=none∧p.1 ≠ X.env.locals∧p.1 ∉ X.fs∧∀ v,p.2.data ≠ .cell v):Inv X pins' σ H s:=
 ⟨I.ok,I.os,I.bare,I.base,I.loc,I.cell,I.free,I.freeC,fun p hp=>(List.mem_append.mp hp).elim (fun z=>I.pin p (List.mem_append_left _ z)) (h p),I.hok,I.len⟩
theorem aw {N:List Str} (hN:N.Nodup) {i j:Nat} {x:Str} (a:N[i]? = some x) (b:N[j]? = some x):i=j:=by
 obtain ⟨h1,e1⟩:=List.getElem?_eq_some_iff.mp a;obtain ⟨h2,e2⟩:=List.getElem?_eq_some_iff.mp b;exact (List.getElem_inj hN).mp (e1.trans e2.symm)
theorem Gw {M:Model} {A:Around} {E:Value→Shared→Prop} {i:Nat} {x:Str} {v:V} {u:Value} {Q:Unit→Shared→Prop} (I:Inv X pins σ H s) (hN:X.N.Nodup) (hi:X.N[i]? = some x) (hx:Loc X.env.scope x) (r:Jd v u)
  (h:∀ s',Inv X pins (σ.set i (some v)) H s'→(∃ a,Heap.SameBut a s.heap s'.heap∧(a=X.env.locals∨X.env.cells.lookup x=some a))→Q () s') (hf:X.fn x=true∨X.env.scope.names.lookup x=some .local:=by first | exact .inl rfl | exact .inr rfl | assumption):wpAny M A (storeName X.env x u) Q E s:=by
 obtain ⟨m,hn,hl⟩:=id I.loc;have hcls:(X.env.scope.kind == .class || (X.env.scope.kind == .module && X.env.locals != X.env.globals))=false:=by rw [I.ok.kind];rfl
 have hiσ:i < σ.length:=by rw [I.len];exact (List.getElem?_eq_some_iff.mp hi).1
 have cne:=I.cne;have tracked:∀ {a:Addr} {h':Heap},(∃ o,s.heap.get? a=some o∧H a=none)→Heap.SameBut a s.heap h'→HOk X.prog X.w H h':=fun {a h'} ha hs b ob e=>by
  obtain ⟨_,_,hfree⟩:=ha;refine (I.hok b ob e).stay (fun c w' hc q=>(hs.2 c ?_).trans q) (fun _ q=>q) fun _ _ q=>q
  rintro rfl;rcases hc with rfl | hc
  ·rw [hfree] at e;cases e
  ·rw [hfree] at hc;cases hc
 rcases hx with hk | hk
 ·refine wpAny_storeName_local hk hn (fun h' hn' hs=>?_) hcls;obtain ⟨oL,_,_,hoL,_⟩:=id hn;refine h _ ⟨I.ok,I.os,I.bare,⟨fun b o e n hb hx=>?_,fun b o e n hb hx=>?_,I.base.free,fun b o e hx=>?_,I.base.tups,I.base.frzs,I.base.tbls⟩,⟨_,hn',fun j y v' e1 e2 e3=>?_⟩,fun y c e=>?_,I.free,I.freeC,fun p hp=>?_,tracked ⟨oL,hoL,I.free⟩ hs,by simpa using I.len⟩ ⟨_,hs,.inl rfl⟩
  ·exact (hs.2 b (Nat.ne_of_lt (Nat.lt_of_lt_of_le (Heap.lt_size e) I.ok.above))).trans (I.base.keep b o e n hb hx)
  ·obtain ⟨sl,e1⟩:=I.base.slot b o e n hb hx;exact ⟨sl,(hs.2 b (Nat.ne_of_lt (Nat.lt_of_lt_of_le (Heap.lt_size e) I.ok.above))).trans e1⟩
  ·obtain ⟨o',e1⟩:=I.base.there b o e hx;exact ⟨o',(hs.2 b (Nat.ne_of_lt (Nat.lt_of_lt_of_le (Heap.lt_size e) I.ok.above))).trans e1⟩
  ·by_cases hj:j=i
   ·subst hj;rw [hi] at e1;cases e1;rw [List.getElem?_set_self hiσ] at e2;cases e2;exact ⟨u,r,.inl ⟨hk,by simp⟩⟩
   ·rw [List.getElem?_set_ne (Ne.symm hj)] at e2;obtain ⟨u',r',q⟩:=hl j y v' e1 e2 e3;refine ⟨u',r',?_⟩;rcases q with ⟨k,e⟩ | ⟨k,c,e,z⟩
    ·refine .inl ⟨k,?_⟩;have:y ≠ x:=fun e=>hj (aw hN e1 (e ▸ hi))
     simp [this,e]
    ·exact .inr ⟨k,c,e,z.sameBut hs (cne y c e)⟩
  ·obtain ⟨w',z⟩:=I.cell y c e;exact ⟨w',z.sameBut hs (cne y c e)⟩
  ·obtain ⟨e,n,ne,nf,d⟩:=I.pin p hp;exact ⟨(hs.2 p.1 ne).trans e,n,ne,nf,d⟩
 ·have hfn:X.fn x=true:=by
   rcases hf with z | z
   ·exact z
   ·rw [z] at hk;cases hk
  obtain ⟨c,hc⟩:=I.ok.has x (.inl hk);obtain ⟨w',z⟩:=I.cell x c hc;refine wpAny_storeName_cell I.ok.kind hk hc z (fun h' hc' hs=>?_);obtain ⟨oc,hoc,hocd⟩:=id z;refine h { s with heap:=h' } ⟨I.ok,I.os,I.bare,⟨fun b o e n hb hx=>?_,fun b o e n hb hx=>?_,I.base.free,fun b o e hx=>?_,I.base.tups,I.base.frzs,I.base.tbls⟩,⟨m,hn.sameBut hs (Ne.symm (cne x c hc)),fun j y v' e1 e2 e3=>?_⟩,fun y c' e=>?_,I.free,I.freeC,fun p hp=>?_,tracked ⟨oc,hoc,I.freeC x c hc⟩ hs,by simpa using I.len⟩ ⟨c,hs,.inr hc⟩
  ·exact (hs.2 b (Nat.ne_of_lt (Nat.lt_of_lt_of_le (Heap.lt_size e) (I.ok.cab x c hfn hc)))).trans (I.base.keep b o e n hb hx)
  ·obtain ⟨sl,e1⟩:=I.base.slot b o e n hb hx;exact ⟨sl,(hs.2 b (Nat.ne_of_lt (Nat.lt_of_lt_of_le (Heap.lt_size e) (I.ok.cab x c hfn hc)))).trans e1⟩
  ·obtain ⟨o',e1⟩:=I.base.there b o e hx;exact ⟨o',(hs.2 b (Nat.ne_of_lt (Nat.lt_of_lt_of_le (Heap.lt_size e) (I.ok.cab x c hfn hc)))).trans e1⟩
  ·by_cases hj:j=i
   ·subst hj;rw [hi] at e1;cases e1;rw [List.getElem?_set_self hiσ] at e2;cases e2;exact ⟨u,r,.inr ⟨.inl hk,c,hc,hc'⟩⟩
   ·rw [List.getElem?_set_ne (Ne.symm hj)] at e2;obtain ⟨u',r',q⟩:=hl j y v' e1 e2 e3;refine ⟨u',r',?_⟩;rcases q with q | ⟨k,c',e,z'⟩
    ·exact .inl q
    ·refine .inr ⟨k,c',e,z'.sameBut hs ?_⟩;rintro rfl;exact hj (aw hN e1 (I.ok.inj _ _ _ e hc ▸ hi))
  ·by_cases hcc:c'=c
   ·subst hcc;exact ⟨_,hc'⟩
   ·obtain ⟨w2,z2⟩:=I.cell y c' e;exact ⟨w2,z2.sameBut hs hcc⟩
  ·obtain ⟨e,n,ne,nf,d⟩:=I.pin p hp;refine ⟨(hs.2 p.1 ?_).trans e,n,ne,nf,d⟩;intro q;rw [q,hoc] at e;have q':oc=p.2:=Option.some.inj e;exact d w' (by rw [← q'];exact hocd)
theorem Fq {M:Model} {A:Around} {E:Value→Shared→Prop} {i:Nat} {x:Str} {v:V} {u:Value} {Q:Unit→Shared→Prop} (I:Inv X pins σ H s) (hN:X.N.Nodup) (hi:X.N[i]? = some x) (hx:Loc X.env.scope x) (r:Jd v u)
  (h:∀ s',Inv X pins (σ.set i (some v)) H s'→Q () s') (hf:X.fn x=true∨X.env.scope.names.lookup x=some .local:=by first | exact .inl rfl | exact .inr rfl | assumption):wpAny M A (storeName X.env x u) Q E s:=
 Gw I hN hi hx r (fun s' I' _=>h s' I') hf
theorem Inv.call' {s':Shared} {ch:List Addr} (I:Inv X pins σ H s) (ho:s'.os=s.os) (u:Un (frs X.stack) ch H H' s.heap s'.heap) (hok:HOk X.prog X.w H' s'.heap) (hg:AllBare s'.gens)
  (hch:∀ b ∈ ch,(b ∈ X.ex∨X.s₀.heap.objs.size ≤ b)∧b ≠ X.env.locals∧(∀ x c,X.env.cells.lookup x=some c→c ≠ b)∧∀ p ∈ X.pn ++ pins,p.1 ≠ b):Inv X pins σ H' s':=by
 obtain ⟨h',g',d',t',o'⟩:=s';have e:o'=s.os:=ho;subst e;exact I.call (g':=g') (t':=t') (d':=d') u hok hg hch
end
noncomputable abbrev XK:=Value→Option Addr→Hp→Prop
noncomputable abbrev St:=List (Option V)
noncomputable abbrev VK:=V→Hp→Prop
noncomputable abbrev TE:=St→Hp→VK→Prop
noncomputable abbrev TT:=St→Hp→(Bool→Hp→Prop)→Prop
noncomputable abbrev TA:=St→Hp→(List V→Hp→Prop)→Prop
structure jk where
 nx:St→Hp→Prop
 rt:VK
 bk:St→Hp→Prop:=fun _ _=>False
 ct:St→Hp→Prop:=fun _ _=>False
noncomputable abbrev TS:=jk→St→Hp→Prop
noncomputable def EP (X:Cx) (pins:List (Addr × Obj)) (σ:St) (Q:VK) (u:Value) (s':Shared):Prop:=∃ v H',Inv X pins σ H' s'∧Jd v u∧Q v H'
noncomputable def TP (X:Cx) (pins:List (Addr × Obj)) (σ:St) (Q:Bool→Hp→Prop) (b:Bool) (s':Shared):Prop:=∃ H',Inv X pins σ H' s'∧Q b H'
noncomputable def AP (X:Cx) (pins:List (Addr × Obj)) (σ:St) (Q:List V→Hp→Prop) (us:List Value) (s':Shared):Prop:=∃ vs H',Inv X pins σ H' s'∧Dd vs us∧Q vs H'
noncomputable def SP (X:Cx) (pins:List (Addr × Obj)) (D:jk) (f:Flow) (s':Shared):Prop:=
 match f with
 | .next=>∃ σ' H',Inv X pins σ' H' s'∧D.nx σ' H'
 | .brk=>∃ σ' H',Inv X pins σ' H' s'∧D.bk σ' H'
 | .cont=>∃ σ' H',Inv X pins σ' H' s'∧D.ct σ' H'
 | .ret u=>∃ v σ' H',Inv X pins σ' H' s'∧Jd v u∧D.rt v H'
noncomputable def PE (X:Cx) (e:Expr) (t:TE):Prop:=
 ∀ (pins:List (Addr × Obj)) (s:Shared) (σ:St) (H:Hp) (Q:VK),Inv X pins σ H s→t σ H Q→wpAny (model X.prog X.w) X.A (eval e X.env) (EP X pins σ Q) X.xe s
noncomputable def PT (X:Cx) (e:Expr) (t:TT):Prop:=
 ∀ (pins:List (Addr × Obj)) (s:Shared) (σ:St) (H:Hp) (Q:Bool→Hp→Prop),Inv X pins σ H s→t σ H Q→wpAny (model X.prog X.w) X.A (isTrue e X.env (eval e X.env)) (TP X pins σ Q) X.xe s
noncomputable def PW (X:Cx) (e:Expr) (t:TT):Prop:=
 ∀ (whole:Sem Value) (pins:List (Addr × Obj)) (s:Shared) (σ:St) (H:Hp) (Q:Bool→Hp→Prop),Inv X pins σ H s→t σ H Q→wpAny (model X.prog X.w) X.A (isTrue e X.env whole) (TP X pins σ Q) X.xe s
theorem PW.pt {X:Cx} {e:Expr} {t:TT} (h:PW X e t):PT X e t:=h _
noncomputable def PA (X:Cx) (es:List Expr) (t:TA):Prop:=
 ∀ (pos:Pos) (pins:List (Addr × Obj)) (s:Shared) (σ:St) (H:Hp) (Q:List V→Hp→Prop),Inv X pins σ H s→t σ H Q→wpAny (model X.prog X.w) X.A (spliced (backTo pos (starEach es X.env))) (AP X pins σ Q) X.xe s
noncomputable def PS (X:Cx) (st:Stmt) (t:TS):Prop:=
 ∀ (pins:List (Addr × Obj)) (s:Shared) (σ:St) (H:Hp) (D:jk),Inv X pins σ H s→t D σ H→wpAny (model X.prog X.w) X.A (exec st X.env) (SP X pins D) X.xe s
noncomputable def PSs (X:Cx) (st:List Stmt) (t:TS):Prop:=
 ∀ (pins:List (Addr × Obj)) (s:Shared) (σ:St) (H:Hp) (D:jk),Inv X pins σ H s→t D σ H→wpAny (model X.prog X.w) X.A (execs st X.env) (SP X pins D) X.xe s
theorem thn {α:Type} {t:Sem α} {Q Q':α→Shared→Prop} {M:Model} {A:Around} {E:Value→Shared→Prop} {s:Shared} (h:wpAny M A t Q E s) (hQ:∀ a s,Q a s→Q' a s):wpAny M A t Q' E s:=wpAny_mono h hQ fun _ _ x=>x
end L2
namespace L2
open PySem PySem.Spec PyProof.Rows
section
variable {X:Cx}
noncomputable def aI (H:Hp) (Q:VK):Option (Option V)→Prop
 | some (some v)=>Q v H
 | _=>False
theorem Rx (H:Hp) (Q:VK) (v:V):aI H Q (some (some v))=Q v H:=rfl
theorem aI.out {H:Hp} {Q:VK}:∀ {o:Option (Option V)},aI H Q o→∃ v,o=some (some v)∧Q v H
 | some (some v),h=>⟨v,rfl,h⟩
 | some none,h=>h.elim
 | none,h=>h.elim
theorem wJ (H:Hp) (Q:VK) (o:Option (Option V)):aI H Q o = ∃ v,o=some (some v)∧Q v H:=propext ⟨aI.out,fun ⟨_,e,h⟩=>e ▸ h⟩
noncomputable def Xk (x:V) (k:Int→Prop):Prop:=match x with
 | .int i=>k i
 | _=>False
theorem Sz (i:Int) (k:Int→Prop):Xk (.int i) k=k i:=rfl
theorem Xk.out {x:V} {k:Int→Prop} (h:Xk x k):∃ i,x=.int i∧k i:=by
 cases x with
 | int i=>exact ⟨i,rfl,h⟩
 | _=>exact h.elim
theorem wK (x:V) (k:Int→Prop):Xk x k = ∃ i,x=.int i∧k i:=propext ⟨Xk.out,fun ⟨_,e,h⟩=>e ▸ h⟩
noncomputable def BlQ (x:V) (k:Bool→Prop):Prop:=match x with
 | .bl i=>k i
 | _=>False
theorem NI (i:Bool) (k:Bool→Prop):BlQ (.bl i) k=k i:=rfl
theorem BlQ.out {x:V} {k:Bool→Prop} (h:BlQ x k):∃ i,x=.bl i∧k i:=by
 cases x with
 | bl i=>exact ⟨i,rfl,h⟩
 | _=>exact h.elim
theorem GL (x:V) (k:Bool→Prop):BlQ x k = ∃ i,x=.bl i∧k i:=propext ⟨BlQ.out,fun ⟨_,e,h⟩=>e ▸ h⟩
noncomputable def lj (x:V) (k:Addr→Prop):Prop:=match x with
 | .ref i=>k i
 | _=>False
theorem Jz (i:Addr) (k:Addr→Prop):lj (.ref i) k=k i:=rfl
theorem lj.out {x:V} {k:Addr→Prop} (h:lj x k):∃ i,x=.ref i∧k i:=by
 cases x with
 | ref i=>exact ⟨i,rfl,h⟩
 | _=>exact h.elim
theorem lK (x:V) (k:Addr→Prop):lj x k = ∃ i,x=.ref i∧k i:=propext ⟨lj.out,fun ⟨_,e,h⟩=>e ▸ h⟩
noncomputable def MB (xs:List V) (k:V→Prop):Prop:=match xs with
 | [y]=>k y
 | _=>False
theorem Yz (y:V) (k:V→Prop):MB [y] k=k y:=rfl
theorem MB.out:∀ {xs:List V} {k:V→Prop},MB xs k→∃ y,xs=[y]∧k y
 | [y],_,h=>⟨y,rfl,h⟩
 | [],_,h=>h.elim
 | _ :: _ :: _,_,h=>h.elim
theorem qJ (xs:List V) (k:V→Prop):MB xs k = ∃ y,xs=[y]∧k y:=propext ⟨MB.out,fun ⟨_,e,h⟩=>e ▸ h⟩
noncomputable def AN (i:Nat):TE:=fun σ H Q=>aI H Q σ[i]?
noncomputable def tC (v:V):TE:=fun _ H Q=>Q v H
theorem wM {i:Nat} {x:Str} {pos:Pos} (hN:X.N[i]? = some x) (hv:Vis X.env.scope x) (hd:(x == ("__debug__" : Str))=false:=by decide) (hcd:(x == ("__classdict__" : Str))=false:=by decide):PE X (.Name x pos) (AN i):=by
 intro pins s σ H Q I h;obtain ⟨v,e,h⟩:=aI.out h;obtain ⟨m,hn,hl⟩:=I.loc;obtain ⟨u,r,l⟩:=hl i x v hN e hv;have fin:EP X pins σ Q u s:=⟨v,H,I,r,h⟩;rcases l with ⟨hk,hm⟩ | ⟨hk,c,hc,hcell⟩
 ·exact wpAny_Name (wpAny_loadName_local I.ok.kind hk hn hm fin) hd
 ·rcases hk with hk | hk
  ·exact wpAny_Name (wpAny_loadName_cell I.ok.kind hk hc hcell fin) hd
  ·exact wpAny_Name (wpAny_loadName_free I.ok.kind hk hc hcell fin hcd) hd
theorem ub {i j pos}:PE X (.Constant (.int i) j pos) (tC (.int i)):=fun _ _ _ H _ I h=>wpAny_Constant_int ⟨.int i,H,I.tok _,⟨_,rfl⟩,h⟩
theorem wy {b j pos}:PE X (.Constant (.bool b) j pos) (tC (.bl b)):=fun _ _ _ H _ I h=>Constant_bool ⟨.bl b,H,I,rfl,h⟩
theorem bA {j pos}:PE X (.Constant .none j pos) (tC .non):=fun _ _ _ H _ I h=>Constant_none ⟨.non,H,I,rfl,h⟩
theorem qc {x j pos}:PE X (.Constant (.str x) j pos) (tC (.str x)):=fun _ _ _ H _ I h=>Calls.Constant_str ⟨.str x,H,I.tok _,⟨_,rfl⟩,h⟩
noncomputable def Gl (X:Cx) (x:Str):Prop:=X.env.kindOf x=some .globalImplicit
theorem wk {E:Value→Shared→Prop} {pins:List (Addr × Obj)} {s:Shared} {σ:St} {H:Hp} {x:Str} {u:Value} {pos:Pos} {Q:Value→Shared→Prop} (I:Inv X pins σ H s) (hg:Gl X x) (hm:X.mg x=some u) (h:Q u s)
  (hd:(x == ("__debug__" : Str))=false:=by decide):wpAny (model X.prog X.w) X.A (eval (.Name x pos) X.env) Q E s:=
 Calls.Name_function_global I.ok.kind hg (Calls.loadGlobal_global (by rw [I.ok.glob];exact I.mod.glob.keeps I.bk) hm h) hd
theorem wp {E:Value→Shared→Prop} {pins:List (Addr × Obj)} {s:Shared} {σ:St} {H:Hp} {x:Str} {u:Value} {pos:Pos} {Q:Value→Shared→Prop} (I:Inv X pins σ H s) (hg:Gl X x) (hm:X.mg x=none) (hv:bootBuiltins x=some u) (h:Q u s)
  (hn:x ≠ "__name__" := by decide) (hd:(x == ("__debug__" : Str))=false:=by decide):wpAny (model X.prog X.w) X.A (eval (.Name x pos) X.env) Q E s:=by
 obtain ⟨mb,h1,h2⟩:=I.mod.blt;exact Calls.Name_function_global I.ok.kind hg (Calls.loadGlobal_builtin (by rw [I.ok.glob];exact I.mod.glob.keeps I.bk) hm (by rw [I.ok.blt];exact h1.keeps I.bk) ((h2 x hn).trans hv) h) hd
theorem Yd {x:Str} {v:V} {u:Value} {pos:Pos} (hg:Gl X x) (hm:X.mg x=some u) (r:Jd v u) (hd:(x == ("__debug__" : Str))=false:=by decide):PE X (.Name x pos) (tC v):=
 fun _ _ _ H _ I h=>wk I hg hm ⟨v,H,I,r,h⟩ hd
variable {a b:Expr} {ta tb:TE} {pos:Pos}
noncomputable def PC (X:Cx) (op:CmpOp) (a b:Expr) (t:TE):Prop:=
 ∀ (pins:List (Addr × Obj)) (s:Shared) (σ:St) (H:Hp) (Q:VK),Inv X pins σ H s→t σ H Q →
  wpAny (model X.prog X.w) X.A (eval a X.env) (fun v s₁=>wpAny (model X.prog X.w) X.A (eval b X.env) (fun u s₂=>wpAny (model X.prog X.w) X.A (compareOp op v u) (EP X pins σ Q) X.xe s₂) X.xe s₁) X.xe s
theorem oG (b:Expr) {op:CmpOp} (h:op ≠ .In) (h2:op ≠ .NotIn):behindInMarks op b=false:=by
 have e1:(op == CmpOp.In)=false:=by cases op <;> first | rfl | exact absurd rfl h
 have e2:(op == CmpOp.NotIn)=false:=by cases op <;> first | rfl | exact absurd rfl h2
 cases b <;> simp [behindInMarks,e1,e2]
noncomputable def tB (t:TE):TT:=fun σ H Q=>t σ H fun x H1=>BlQ x fun c=>Q c H1
theorem nM {op:CmpOp} {t:TE} (h:PC X op a b t) (h1:behindInMarks op b=false:=by first | exact oG _ (by decide) (by decide) | rfl):PT X (.Compare a [op] [b] pos) (tB t):=by
 intro pins s σ H Q I hw;refine wpAny_isTrue_Compare1 (thn (h pins s σ H _ I hw) fun v s1 h1=>thn h1 fun u s2 h2=>thn h2 fun c s3 hZ1=>?_) h1;obtain ⟨x,H1,I1,r1,q1⟩:=hZ1;obtain ⟨d,rfl,q⟩:=BlQ.out q1;cases r1;exact wpAny_truthy_bool ⟨H1,I1,q⟩
theorem Wk {e:Expr} {t:TE} (h:PE X e t) (he:∀ whole,isTrue e X.env whole=(do let v ← whole;standAt e.pos;holding [v] (truthy v)):=by intro _;rfl):PT X e (tB t):=by
 intro pins s σ H Q I hw;refine isTrue_plain (thn (h pins s σ H _ I hw) fun v s1 hZ1=>?_) (he _);obtain ⟨x,H1,I1,r1,q1⟩:=hZ1;obtain ⟨d,rfl,q⟩:=BlQ.out q1;cases r1;exact wpAny_truthy_bool ⟨H1,I1,q⟩
variable {tA tB':TT} {rest:List Expr}
noncomputable def YN (t u:TT):TT:=fun σ H Q=>t σ H fun c H1=>if c=true then u σ H1 Q else Q false H1
noncomputable def tOr (t u:TT):TT:=fun σ H Q=>t σ H fun c H1=>if c=true then Q true H1 else u σ H1 Q
noncomputable def UN (t:TT):TT:=fun σ H Q=>t σ H fun c H1=>Q (!c) H1
theorem Ro (ha:PT X a tA):PW X (.BoolOp .And [a] pos) tA:=by
 intro wh pins s σ H Q I h;refine isTrue_and (thn (ha pins s σ H Q I h) fun c s1 e=>?_);cases c with
 | true=>exact isTrue_and_nil e
 | false=>exact e
theorem qx (ha:PT X a tA):PW X (.BoolOp .Or [a] pos) tA:=by
 intro wh pins s σ H Q I h;refine isTrue_or (thn (ha pins s σ H Q I h) fun c s1 e=>?_);cases c with
 | false=>exact isTrue_or_nil e
 | true=>exact e
theorem fu (ha:PT X a tA) (hb:PW X (.BoolOp .And (b :: rest) pos) tB'):PW X (.BoolOp .And (a :: b :: rest) pos) (YN tA tB'):=by
 intro wh pins s σ H Q I h;refine isTrue_and (thn (ha pins s σ H _ I h) fun c s1 hZ1=>?_);obtain ⟨H1,I1,q1⟩:=hZ1;cases c with
 | true=>exact hb wh pins s1 σ H1 Q I1 q1
 | false=>exact ⟨H1,I1,q1⟩
theorem MD (ha:PT X a tA) (hb:PW X (.BoolOp .Or (b :: rest) pos) tB'):PW X (.BoolOp .Or (a :: b :: rest) pos) (tOr tA tB'):=by
 intro wh pins s σ H Q I h;refine isTrue_or (thn (ha pins s σ H _ I h) fun c s1 hZ1=>?_);obtain ⟨H1,I1,q1⟩:=hZ1;cases c with
 | true=>exact ⟨H1,I1,q1⟩
 | false=>exact hb wh pins s1 σ H1 Q I1 q1
theorem Lu (ha:PT X a tA):PT X (.UnaryOp .Not a pos) (UN tA):=by
 intro pins s σ H Q I h;exact isTrue_not (ha pins s σ H (fun c H1=>Q (!c) H1) I h)
noncomputable def KL (ta tb:TE):TE:=fun σ H Q=>ta σ H fun x H1=>BlQ x fun c=>if c=true then tb σ H1 Q else Q (.bl false) H1
noncomputable def yO (ta tb:TE):TE:=fun σ H Q=>ta σ H fun x H1=>BlQ x fun c=>if c=true then Q (.bl true) H1 else tb σ H1 Q
theorem DA {op} {t:TE} (h:PE X a t):PE X (.BoolOp op [a] pos) t:=fun pins s σ H Q I hw=>BoolOp_one (h pins s σ H Q I hw)
theorem ZH (ha:PE X a ta) (hb:PE X (.BoolOp .And (b :: rest) pos) tb):PE X (.BoolOp .And (a :: b :: rest) pos) (KL ta tb):=by
 intro pins s σ H Q I h;refine BoolOp_and (thn (ha pins s σ H _ I h) fun v s1 hZ1=>?_);obtain ⟨x,H1,I1,r1,q1⟩:=hZ1;obtain ⟨c,rfl,zq⟩:=BlQ.out q1;cases r1;refine wpAny_truthy_bool ?_;cases c with
 | true=>exact hb pins s1 σ H1 Q I1 zq
 | false=>exact ⟨.bl false,H1,I1,rfl,zq⟩
theorem bM (ha:PE X a ta) (hb:PE X (.BoolOp .Or (b :: rest) pos) tb):PE X (.BoolOp .Or (a :: b :: rest) pos) (yO ta tb):=by
 intro pins s σ H Q I h;refine BoolOp_or (thn (ha pins s σ H _ I h) fun v s1 hZ1=>?_);obtain ⟨x,H1,I1,r1,q1⟩:=hZ1;obtain ⟨c,rfl,zq⟩:=BlQ.out q1;cases r1;refine wpAny_truthy_bool ?_;cases c with
 | false=>exact hb pins s1 σ H1 Q I1 zq
 | true=>exact ⟨.bl true,H1,I1,rfl,zq⟩
noncomputable def tIf (t:TT) (ta tb:TE):TE:=fun σ H Q=>t σ H fun c H1=>if c=true then ta σ H1 Q else tb σ H1 Q
theorem eA {c:Expr} (hc:PT X c tA) (ha:PE X a ta) (hb:PE X b tb):PE X (.IfExp c a b pos) (tIf tA ta tb):=by
 intro pins s σ H Q I h;refine wpAny_IfExp (thn (hc pins s σ H _ I h) fun d s1 hZ1=>?_);obtain ⟨H1,I1,q1⟩:=hZ1;cases d with
 | true=>exact ha pins s1 σ H1 Q I1 q1
 | false=>exact hb pins s1 σ H1 Q I1 q1
end
end L2
namespace L2
open PySem PySem.Spec PyProof.Rows
noncomputable def SqL (K:PySem.W.Frag) (H:Hp) (a:Addr) (xs:List V):Prop:=
 Rd H a (.lst xs) ∨
  ∃ (o:Obj) (its:Array Value) (n:Nat),K.lookup a=some o∧o.cls=.type "list" ∧ o.dict=none∧o.data=.seq its n∧its.size ≤ sizeLine∧Dd xs its.toList
noncomputable def SqT (K:PySem.W.Frag) (H:Hp) (a:Addr) (xs:List V):Prop:=
 Rd H a (.tup xs) ∨
  ∃ (o:Obj) (its:Array Value) (n:Nat),K.lookup a=some o∧o.cls=.type "tuple" ∧ o.data=.seq its n∧its.size ≤ sizeLine∧Dd xs its.toList
noncomputable def CO:Value→Option V
 | .none=>some .non
 | .bool b=>some (.bl b)
 | .int i _=>some (.int i)
 | .str x _=>some (.str x)
 | .bytes b _=>some (.byt b)
 | .float b _=>some (.flt b)
 | .ref a=>some (.ref a)
 | .type n=>some (.ty n)
 | _=>none
theorem Jd.abs {x:V} {u:Value} (r:Jd x u):CO u=some x:=by
 cases x with
 | non=>cases r;rfl
 | bl _=>cases r;rfl
 | int _=>obtain ⟨t,rfl⟩:=r;rfl
 | str _=>obtain ⟨t,rfl⟩:=r;rfl
 | byt _=>obtain ⟨t,rfl⟩:=r;rfl
 | flt _=>obtain ⟨t,rfl⟩:=r;rfl
 | ref _=>cases r;rfl
 | ty _=>cases r;rfl
theorem Jd.inj {x y:V} {u:Value} (r:Jd x u) (q:Jd y u):x=y:=Option.some.inj (r.abs.symm.trans q.abs)
theorem Dd.inj:∀ {xs ys:List V} {us:List Value},Dd xs us→Dd ys us→xs=ys
 | _,_,_,.nil,.nil=>rfl
 | _,_,_,.cons r t,.cons r' t'=>by rw [r.inj r',Dd.inj t t']
section
variable {X:Cx} {pins:List (Addr × Obj)} {σ:St} {H:Hp} {s:Shared} {a:Addr} {xs ys:List V}
theorem SqL.of {K:PySem.W.Frag} (h:H a=some (.lst xs)):SqL K H a xs:=.inl (.inl h)
theorem SqT.of {K:PySem.W.Frag} (h:H a=some (.tup xs)):SqT K H a xs:=.inl (.inl h)
theorem Inv.list (I:Inv X pins σ H s) (h:SqL X.K H a xs):∃ its:List Value,Dd xs its∧PlainL s.heap a its.toArray∧xs.length ≤ sizeLine:=by
 rcases h with h | ⟨o,its,n,hk,hc,hd,hs,hz,r⟩
 ·obtain ⟨z,its,n,r,e⟩:=h.ok I.hok;exact ⟨its,r,⟨_,n,e,rfl,rfl,rfl⟩,z⟩
 ·refine ⟨its.toList,r,⟨o,n,I.kIn a o hk,hc,hd,by simpa using hs⟩,?_⟩;have e:=r.length;simp only [Array.length_toList] at e;omega
theorem Inv.tuple (I:Inv X pins σ H s) (h:SqT X.K H a xs):∃ its:List Value,Dd xs its∧IsTup s.heap a its.toArray∧xs.length ≤ sizeLine:=by
 rcases h with h | ⟨o,its,n,hk,hc,hs,hz,r⟩
 ·obtain ⟨z,its,r,p⟩:=h.ok I.hok;exact ⟨its,r,p,z.1⟩
 ·refine ⟨its.toList,r,⟨o,I.kIn a o hk,hc,n,by simpa using hs⟩,?_⟩;have e:=r.length;simp only [Array.length_toList] at e;omega
theorem Inv.list_inj (I:Inv X pins σ H s) (h:SqL X.K H a xs) (h':SqL X.K H a ys):xs=ys:=by
 obtain ⟨its,r,⟨o,n,e,_,_,d⟩,_⟩:=I.list h;obtain ⟨its',r',⟨o',n',e',_,_,d'⟩,_⟩:=I.list h';rw [e] at e';cases e';rw [d] at d';injection d' with d1 _;have:its=its':=by simpa using congrArg Array.toList d1
 subst this;exact r.inj r'
theorem Inv.tuple_inj (I:Inv X pins σ H s) (h:SqT X.K H a xs) (h':SqT X.K H a ys):xs=ys:=by
 obtain ⟨its,r,⟨o,e,_,n,d⟩,_⟩:=I.tuple h;obtain ⟨its',r',⟨o',e',_,n',d'⟩,_⟩:=I.tuple h';rw [e] at e';cases e';rw [d] at d';injection d' with d1 _;have:its=its':=by simpa using congrArg Array.toList d1
 subst this;exact r.inj r'
end
noncomputable abbrev Cx.wish (X:Cx) (E:Value→Shared→Prop):Cx:={ X with xe:=E }
noncomputable abbrev Cx.nox (X:Cx):Cx:=X.wish fun _ _=>False
theorem Cx.Ok.wish {X:Cx} (ok:X.Ok) (E:Value→Shared→Prop):(X.wish E).Ok:=
 ⟨ok.mod,ok.kind,ok.glob,ok.blt,ok.above,ok.inj,ok.has,ok.cab,ok.hd,ok.frames,ok.stk,ok.exf,ok.bs,ok.bsz,ok.noex,ok.exfs,ok.funs,ok.frf⟩
theorem Cx.Ok.unwish {X:Cx} {E:Value→Shared→Prop} (ok:(X.wish E).Ok):X.Ok:=
 ⟨ok.mod,ok.kind,ok.glob,ok.blt,ok.above,ok.inj,ok.has,ok.cab,ok.hd,ok.frames,ok.stk,ok.exf,ok.bs,ok.bsz,ok.noex,ok.exfs,ok.funs,ok.frf⟩
section
variable {X:Cx} {pins:List (Addr × Obj)} {σ:St} {H:Hp} {s:Shared} {E:Value→Shared→Prop}
theorem Inv.wish (I:Inv X pins σ H s) (E:Value→Shared→Prop):Inv (X.wish E) pins σ H s:=⟨I.ok.wish E,I.os,I.bare,I.base,I.loc,I.cell,I.free,I.freeC,I.pin,I.hok,I.len⟩
theorem Inv.unwish (I:Inv (X.wish E) pins σ H s):Inv X pins σ H s:=⟨I.ok.unwish,I.os,I.bare,I.base,I.loc,I.cell,I.free,I.freeC,I.pin,I.hok,I.len⟩
theorem SP.unwish {D:jk} {f:Flow} {s':Shared} (h:SP (X.wish E) pins D f s'):SP X pins D f s':=by
 cases f with
 | next=>obtain ⟨σ',H',I,q⟩:=h;exact ⟨σ',H',I.unwish,q⟩
 | brk=>obtain ⟨σ',H',I,q⟩:=h;exact ⟨σ',H',I.unwish,q⟩
 | cont=>obtain ⟨σ',H',I,q⟩:=h;exact ⟨σ',H',I.unwish,q⟩
 | ret u=>obtain ⟨v,σ',H',I,r,q⟩:=h;exact ⟨v,σ',H',I.unwish,r,q⟩
theorem PE.nox {e:Expr} {t:TE} (h:PE X.nox e t):PE X e t:=fun pins s σ H Q I hw=>
 wpAny_mono (h pins s σ H Q (I.wish _) hw) (fun _ _ ⟨v,H',I',r,q⟩=>⟨v,H',I'.unwish,r,q⟩) fun _ _ z=>False.elim z
theorem PT.nox {e:Expr} {t:TT} (h:PT X.nox e t):PT X e t:=fun pins s σ H Q I hw=>
 wpAny_mono (h pins s σ H Q (I.wish _) hw) (fun _ _ ⟨H',I',q⟩=>⟨H',I'.unwish,q⟩) fun _ _ z=>False.elim z
theorem PSs.nox {st:List Stmt} {t:TS} (h:PSs X.nox st t):PSs X st t:=fun pins s σ H D I hw=>
 wpAny_mono (h pins s σ H D (I.wish _) hw) (fun _ _ q=>q.unwish) fun _ _ z=>False.elim z
end
section
variable {X:Cx} {st:Stmt} {rest:List Stmt} {t u:TS} {e:Expr} {te:TE} {pos:Pos}
noncomputable def QL:TS:=fun D σ H=>D.nx σ H
noncomputable def hz0:Nat:=0
noncomputable def hz1:Nat:=hz0
noncomputable def hz2:Nat:=hz1
noncomputable def hz3:Nat:=hz2
noncomputable def hz4:Nat:=hz3
noncomputable def hz5:Nat:=hz4
noncomputable def hz6:Nat:=hz5
noncomputable def hz7:Nat:=hz6
noncomputable def hz8:Nat:=hz7
noncomputable def hz9:Nat:=hz8
noncomputable def zO:Nat:=hz9
noncomputable def KO:Nat:=zO
noncomputable def DO:Nat:=KO
noncomputable def xO (t u:TS):TS:=fun D σ H=>(fun _:Nat=>t { D with nx:=u D } σ H) DO
theorem Kc:PSs X [] QL:=fun _ _ σ H _ I h=>wpAny_execs_nil ⟨σ,H,I,h⟩
theorem db (h1:PS X st t) (h2:PSs X rest u):PSs X (st :: rest) (xO t u):=by
 intro pins s σ H D I h;refine wpAny_execs_cons (thn (h1 pins s σ H { D with nx:=u D } I h) fun f s1 q=>?_);cases f with
 | next=>
  obtain ⟨σ',H',I',q⟩:=q;exact h2 pins s1 σ' H' D I' q
 | ret v=>exact q
 | brk=>exact q
 | cont=>exact q
theorem gb (h1:PS X st t):PSs X [st] t:=by
 intro pins s σ H D I h;refine wpAny_execs_cons (thn (h1 pins s σ H D I h) fun f s1 q=>?_);cases f with
 | next=>exact wpAny_execs_nil q
 | ret v=>exact q
 | brk=>exact q
 | cont=>exact q
theorem Inv.quiet {pins:List (Addr × Obj)} {σ:St} {H:Hp} {s:Shared} (I:Inv X pins σ H s):interactive X.env=false:=by simp [interactive,I.ok.kind]
noncomputable def bL (te:TE):TS:=fun D σ H=>te σ H fun _ H1=>D.nx σ H1
theorem Ic (he:PE X e te) (hs:swapsWith e none pos.line X.env=pure false:=by rfl):PS X (.Expr e pos) (bL te):=by
 intro pins s σ H D I h;exact wpAny_Expr_any (thn (he pins s σ H _ I h) fun v s1 ⟨x,H1,I1,r1,q1⟩=>⟨σ,H1,I1,q1⟩) I.quiet hs
noncomputable def IN (te:TE):TS:=fun D σ H=>te σ H D.rt
theorem Ob (he:PE X e te):PS X (.Return (some e) pos) (IN te):=by
 intro pins s σ H D I h;exact wpAny_Return_some (thn (he pins s σ H _ I h) fun v s1 ⟨x,H1,I1,r1,q1⟩=>⟨x,σ,H1,I1,r1,q1⟩)
noncomputable def yN (c:TT) (t u:TS):TS:=fun D σ H=>c σ H fun b H1=>if b=true then t D σ H1 else u D σ H1
theorem Kf {c:Expr} {a b:List Stmt} {tc:TT} (hc:PT X c tc) (ha:PSs X a t) (hb:PSs X b u):PS X (.If c a b pos) (yN tc t u):=by
 intro pins s σ H D I h;refine wpAny_If (thn (hc pins s σ H _ I h) fun d s1 hZ1=>?_);obtain ⟨H1,I1,q1⟩:=hZ1;cases d with
 | true=>exact ha pins s1 σ H1 D I1 q1
 | false=>exact hb pins s1 σ H1 D I1 q1
noncomputable def bJ:TS:=fun _ _ _=>False
theorem Wl:PS X st bJ:=fun _ _ _ _ _ _ h=>h.elim
end
noncomputable abbrev TG:=V→St→Hp→(St→Hp→Prop)→Prop
noncomputable abbrev TGs:=List V→St→Hp→(St→Hp→Prop)→Prop
noncomputable def PG (X:Cx) (target:Expr) (t:TG):Prop:=
 ∀ (pins:List (Addr × Obj)) (s:Shared) (σ:St) (H:Hp) (v:V) (u:Value) (Q:St→Hp→Prop),Inv X pins σ H s→Jd v u→t v σ H Q →
  wpAny (model X.prog X.w) X.A (assign target X.env u) (fun _ s'=>∃ σ' H',Inv X pins σ' H' s'∧Q σ' H') X.xe s
noncomputable def PGs (X:Cx) (ts:List Expr) (t:TGs):Prop:=
 ∀ (pins:List (Addr × Obj)) (s:Shared) (σ:St) (H:Hp) (vs:List V) (us:List Value) (Q:St→Hp→Prop),Inv X pins σ H s→Dd vs us→t vs σ H Q →
  wpAny (model X.prog X.w) X.A (assignInOrder ((assignEach ts X.env).map (·.2)) us) (fun _ s'=>∃ σ' H',Inv X pins σ' H' s'∧Q σ' H') X.xe s
noncomputable abbrev YM:=V→V→V→Hp→(Hp→Prop)→Prop
noncomputable def eO (X:Cx) (t:YM):Prop:=
 ∀ (pins:List (Addr × Obj)) (s:Shared) (σ:St) (H:Hp) (o i v:V) (ov iv u:Value) (Q:Hp→Prop),Inv X pins σ H s→Jd o ov→Jd i iv→Jd v u→t o i v H Q →
  wpAny (model X.prog X.w) X.A (setItem ov iv u) (fun _ s'=>∃ H',Inv X pins σ H' s'∧Q H') X.xe s
section
variable {X:Cx} {pos:Pos}
noncomputable def au (i:Nat):TG:=fun v σ H Q=>Q (σ.set i (some v)) H
theorem Cy {i:Nat} {x:Str} (hN:X.N.Nodup) (hi:X.N[i]? = some x) (hx:Loc X.env.scope x) (hf:X.fn x=true∨X.env.scope.names.lookup x=some .local:=by first | exact .inl rfl | exact .inr rfl | assumption):PG X (.Name x pos) (au i):=by
 intro pins s σ H v u Q I r h;exact wpAny_assign_Name (Fq I hN hi hx r (fun s' I'=>⟨_,H,I',h⟩) hf)
noncomputable def XM:TGs:=fun vs σ H Q=>vs=[]∧Q σ H
noncomputable def iC (t:TG) (u:TGs):TGs:=fun vs σ H Q=>∃ v r,vs=v :: r∧t v σ H fun σ' H'=>u r σ' H' Q
theorem Dg:PGs X [] XM:=by
 intro pins s σ H vs us Q I r h;obtain ⟨e,h⟩:=h;subst e;cases r;exact assignInOrder_nil ⟨σ,H,I,h⟩
theorem Ub {e:Expr} {es:List Expr} {t:TG} {u:TGs} (h1:PG X e t) (h2:PGs X es u)
  (hs:(assignEach (e :: es) X.env).map (·.2)=assign e X.env :: (assignEach es X.env).map (·.2):=by rfl):PGs X (e :: es) (iC t u):=by
 intro pins s σ H vs us Q I r h;obtain ⟨v,vr,e1,h⟩:=h;subst e1;cases r with
 | cons r rr=>
  rw [hs];refine assignInOrder_cons (thn (h1 pins s σ H _ _ _ I r h) fun _ s1 hZ1=>?_);obtain ⟨σ1,H1,I1,q1⟩:=hZ1;exact h2 pins s1 σ1 H1 _ _ Q I1 rr q1
noncomputable def IL (K:PySem.W.Frag) (n:Nat) (t:TGs):TG:=fun v σ H Q=>∃ a xs,v=.ref a∧SqT K H a xs∧xs.length=n∧t xs σ H Q
theorem iM {es:List Expr} {k:Nat} {t:TGs} {n:Nat} (hc:X.calm=true) (h:PGs X es t)
  (hn:(assignEach es X.env).length=n:=by rfl) (hst:(assignEach es X.env).findIdx? (·.1)=none:=by rfl):PG X (.Tuple es k pos) (IL X.K n t):=by
 intro pins s σ H v u Q I r hw;obtain ⟨a,xs,e1,hq,hl,hw⟩:=hw;subst e1;cases r;obtain ⟨its,rv,ht,hz⟩:=I.tuple hq;refine assign_Tuple_tuple (I.ok.hd hc) ht (by simp [hn,← hl,rv.length]) hst fun h' hx=>?_
 have I1:Inv X pins σ H { s with heap:=h' }:=I.kept (t':=s.toks) fun b o e=>hx b o (Nat.ne_of_lt (Heap.lt_size e)) e
 exact h pins _ σ H xs _ Q I1 (by simpa using rv) hw
noncomputable def lO (to ti:TE) (t:YM):TG:=fun v σ H Q=>to σ H fun o H1=>ti σ H1 fun i H2=>t o i v H2 fun H3=>Q σ H3
theorem oB {o i:Expr} {to ti:TE} {t:YM} (ho:PE X o to) (hi:PE X i ti) (hs:eO X t)
  (ha:∀ v,assign (.Subscript o i pos) X.env v=(do
   let ov ← holding [v] (eval o X.env)
   let iv ← holding [v,ov] (eval i X.env)
   standAt pos
   holding [v,ov,iv] (setItem ov iv v)
   release [v,ov,iv] []):=by intro _;rfl):PG X (.Subscript o i pos) (lO to ti t):=by
 intro pins s σ H v u Q I r h;rw [ha];refine wpAny_bind (wpAny_holding (thn (ho pins s σ H _ I h) fun ov s1 hZ1=>?_));obtain ⟨x,H1,I1,r1,q1⟩:=hZ1;refine wpAny_bind (wpAny_holding (thn (hi pins s1 σ H1 _ I1 q1) fun iv s2 hZ1=>?_));obtain ⟨y,H2,I2,r2,q2⟩:=hZ1;refine wpAny_bind (wpAny_standAt (wpAny_bind (wpAny_holding (thn (hs pins s2 σ H2 x y v ov iv u _ I2 r1 r2 r q2) fun _ s3 hZ1=>?_))));obtain ⟨H3,I3,q3⟩:=hZ1;exact wpAny_release ⟨σ,H3,I3,q3⟩
noncomputable def oM (te:TE) (g:TG):TS:=fun D σ H=>te σ H fun x H1=>g x σ H1 D.nx
theorem du {tg e:Expr} {te:TE} {g:TG} (he:PE X e te) (hg:PG X tg g) (hs:swapsWithSole [tg] e pos.line X.env=pure false:=by rfl) (hw:swappedStores [tg] e X.env=pure none:=by rfl)
  (h1:(assignEach [tg] X.env).map (·.2)=[assign tg X.env]:=by rfl):PS X (.Assign [tg] e pos) (oM te g):=by
 intro pins s σ H D I h;refine wpAny_Assign_stores (thn (he pins s σ H _ I h) fun v s1 hZ1=>?_) hs hw;obtain ⟨x,H1,I1,r1,q1⟩:=hZ1;rw [h1];exact thn (hg pins s1 σ H1 x v _ I1 r1 q1) fun _ s2 q=>q
theorem TK {i:Nat} {x:Str} {e:Expr} {te:TE} {pos':Pos} (hN:X.N.Nodup) (hi:X.N[i]? = some x) (hx:Loc X.env.scope x) (he:PE X e te) (hs:swapsWith e (some (.Name x pos')) pos.line X.env=pure false:=by rfl) (hf:X.fn x=true∨X.env.scope.names.lookup x=some .local:=by first | exact .inl rfl | exact .inr rfl | assumption) :
  PS X (.Assign [.Name x pos'] e pos) (oM te (au i)):=by
 intro pins s σ H D I h;refine wpAny_Assign_Name (thn (he pins s σ H _ I h) fun v s1 hZ1=>?_) hs;obtain ⟨y,H1,I1,r1,q1⟩:=hZ1;exact Fq I1 hN hi hx r1 (fun s2 I2=>⟨_,H1,I2,q1⟩) hf
end
section
variable {X:Cx} {pos:Pos}
noncomputable def cJ (c:TT) (tb:TS):TS:=fun D σ H=>∃ W:Nat→St→Hp→Prop,(∃ m,W m σ H)∧∀ m σ H,W m σ H →
 c σ H fun b H1=>if b=true then ∃ N:St→Hp→Prop,(∀ σ' H',N σ' H'→∃ m',m' < m∧W m' σ' H')∧tb { D with nx:=N,ct:=N,bk:=D.nx } σ H1 else D.nx σ H1
theorem HG {c:Expr} {body:List Stmt} {tc:TT} {tb:TS} (hp:PassesOwn (model X.prog X.w) X.A X.env X.xe) (hc:PT X c tc) (hb:PSs X body tb):PS X (.While c body [] pos) (cJ tc tb):=by
 intro pins s σ H D I h;obtain ⟨W,⟨m0,w0⟩,turn⟩:=h;refine wpAny_While (codeAny_whileLoop (fun n s'=>∃ σ' H',Inv X pins σ' H' s'∧W n σ' H') ?_ m0 ⟨σ,H,I,w0⟩);rintro n s1 ⟨σ1,H1,I1,w1⟩;refine wpAny_passesOwn hp (thn (hc pins s1 σ1 H1 _ I1 (turn n σ1 H1 w1)) fun b s2 hZ1=>?_);obtain ⟨H2,I2,q2⟩:=hZ1;cases b with
 | true=>
  obtain ⟨N,hN,q2⟩:=q2;rw [if_pos rfl];refine wpAny_passesOwn hp (thn (hb pins s2 σ1 H2 _ I2 q2) fun f s3 q3=>?_);cases f with
  | next=>
   obtain ⟨σ3,H3,I3,n3⟩:=q3;obtain ⟨m',hm,w3⟩:=hN σ3 H3 n3;exact ⟨m',hm,σ3,H3,I3,w3⟩
  | cont=>
   obtain ⟨σ3,H3,I3,n3⟩:=q3;obtain ⟨m',hm,w3⟩:=hN σ3 H3 n3;exact ⟨m',hm,σ3,H3,I3,w3⟩
  | brk=>exact q3
  | ret v=>exact q3
 | false=>
  rw [if_neg Bool.false_ne_true];exact wpAny_execs_nil ⟨σ1,H2,I2,q2⟩
end
structure It where
 go:Nat→Hp→Prop
 yld:Nat→Hp→V→Hp→Prop
 stop:Nat→Hp→Prop
noncomputable def Vp (X:Cx) (pins:List (Addr × Obj)) (H:Hp) (b:Addr):Prop:=
 H b=none∧b ≠ X.env.locals∧b ∉ X.fs∧(b ∈ X.ex∨X.s₀.heap.objs.size ≤ b)∧(∀ x c,X.env.cells.lookup x=some c→c ≠ b)∧∀ p ∈ X.pn ++ pins,p.1 ≠ b
theorem Inv.fpOk {X:Cx} {pins:List (Addr × Obj)} {σ:St} {H H':Hp} {s:Shared} {b:Addr} (I:Inv X pins σ H s) (hb:s.heap.objs.size ≤ b) (hn:H' b=none):Vp X pins H' b:=by
 refine ⟨hn,Nat.ne_of_gt (Nat.lt_of_lt_of_le I.lt hb),I.nofs hb,.inr (Nat.le_trans I.sz hb),fun x c e z=>?_,fun p hp z=>?_⟩
 ·obtain ⟨v,q⟩:=I.cell x c e;exact absurd (Nat.lt_of_lt_of_le q.lt (by rw [z];exact hb)) (Nat.lt_irrefl _)
 ·exact absurd (Nat.lt_of_lt_of_le (Heap.lt_size (I.pin p hp).1) (by rw [z];exact hb)) (Nat.lt_irrefl _)
structure OJ (P:Program) (w:World) (K:PySem.W.Frag) (tg:Expr) (J:It) (fp:List Addr) (it:Addr) (tn:Nat→Heap→Prop):Prop where
 mem:it ∈ fp
 obj:∀ i h,tn i h→∀ b ∈ fp,∃ o,h.get? b=some o∧∀ v,o.data ≠ .cell v
 keep:∀ i h h',tn i h→(∀ b ∈ fp,∀ o,h.get? b=some o→h'.get? b=some o)→tn i h'
 item:∀ (X:Cx),X.prog=P→X.w=w→X.K=K→X.calm=true→∀ (i:Nat) (pins:List (Addr × Obj)) (s:Shared) (σ:St) (H:Hp) (E:Value→Shared→Prop),Inv X pins σ H s→(∀ b ∈ fp,Vp X pins H b)→tn i s.heap→J.go i H →
  wpAny (model P w) X.A (pyNext (.ref it)) (fun r s1=>∃ u,r=some u ∧
   wpAny (model P w) X.A (letOwnedTupleGo tg (.ref it) u) (fun _ s2=>∃ x H',Inv X pins σ H' s2∧Jd x u∧J.yld i H x H'∧tn (i + 1) s2.heap∧∀ b ∈ fp,H' b=none) E s1) E s
 done:∀ (X:Cx),X.prog=P→X.w=w→X.K=K→X.calm=true→∀ (i:Nat) (pins:List (Addr × Obj)) (s:Shared) (σ:St) (H:Hp) (E:Value→Shared→Prop),Inv X pins σ H s→(∀ b ∈ fp,Vp X pins H b)→tn i s.heap→J.stop i H →
  wpAny (model P w) X.A (pyNext (.ref it)) (fun r s1=>r=none∧Inv X pins σ H s1) E s
 self:∀ (A:Around) (i:Nat) (s:Shared) (Q:Value→Shared→Prop) (E:Value→Shared→Prop),tn i s.heap→Q (.ref it) s→wpAny (model P w) A (pyIter (.ref it)) Q E s
noncomputable abbrev TI:=St→Hp→(It→Hp→Prop)→Prop
noncomputable def PIE (X:Cx) (pins:List (Addr × Obj)) (σ:St) (tg:Expr) (R:It→Hp→Prop) (itv:Value) (s2:Shared):Prop:=
 ∃ (it:Addr) (fp:List Addr) (tn:Nat→Heap→Prop) (J:It) (H':Hp),itv=.ref it∧Inv X pins σ H' s2∧OJ X.prog X.w X.K tg J fp it tn∧tn 0 s2.heap∧(∀ b ∈ fp,Vp X pins H' b)∧R J H'
noncomputable def PI (X:Cx) (tg iter:Expr) (wi:TI):Prop:=
 ∀ (pins:List (Addr × Obj)) (s:Shared) (σ:St) (H:Hp) (R:It→Hp→Prop),Inv X pins σ H s→wi σ H R →
  wpAny (model X.prog X.w) X.A (eval iter X.env) (fun v s1=>wpAny (model X.prog X.w) X.A (pyIter v) (PIE X pins σ tg R) X.xe s1) X.xe s
theorem SE {M:Model} {A:Around} {E:Value→Shared→Prop} {s:Shared} {tg:Expr} {it:Addr} {u:Value} {o:Obj} {n:String} {vs:Array Value} {Q:Unit→Shared→Prop} (ho:s.heap.get? it=some o) (hc:o.cls=.type n) (hd:o.data=.fields vs)
    (hn:["enumerate","zip","dict_itemiterator","dict_reverseitemiterator","odict_iterator","itertools.zip_longest","itertools.pairwise"].contains n=false) (hQ:Q () s):wpAny M A (letOwnedTupleGo tg (.ref it) u) Q E s:=by
  unfold letOwnedTupleGo;cases tg <;> first
    | exact wpAny_pure hQ
    | (cases u <;> first
        | exact wpAny_pure hQ
        | (refine wpAny_bind (wpAny_load ho ?_)
           rw [hc,hd];show wpAny M A (if (["enumerate","zip","dict_itemiterator","dict_reverseitemiterator","odict_iterator","itertools.zip_longest","itertools.pairwise"].contains n && vs[0]? == some (rawInt _))=true then _ else _) Q E s;rw [if_neg (by intro h;rw [hn,Bool.false_and] at h;cases h)];exact wpAny_pure hQ))
noncomputable def Itl (K:PySem.W.Frag) (a:Addr):It:=
 ⟨fun i H=>∃ xs x,SqL K H a xs∧xs[i]? = some x,fun i H x H'=>H'=H∧∀ xs,SqL K H a xs→xs[i]? = some x,fun i H=>∃ xs,SqL K H a xs∧xs.length ≤ i⟩
noncomputable def Itr (lo:Int) (n:Nat):It:=⟨fun i _=>i < n,fun i H x H'=>H'=H∧x=.int (lo + i),fun i _=>n ≤ i⟩
theorem AF {P:Program} {w:World} {K:PySem.W.Frag} {tg:Expr} (a it:Addr):OJ P w K tg (Itl K a) [it] it (fun i h=>h.IsListIter it a i) where
 mem:=by simp
 obj:=fun i h st b hb=>by
  have e:b=it:=by simpa using hb
  subst e;obtain ⟨o,e,c,d⟩:=st;exact ⟨o,e,fun v z=>by rw [d] at z;cases z⟩
 keep:=fun i h h' st k=>st.at fun o e=>k it (by simp) o e
 item:=by
  intro X hP hw hK hc i pins s σ H E I hf st hg;subst hP hw hK;obtain ⟨xs,x,hq,hx⟩:=hg;obtain ⟨its,rv,p,hz⟩:=I.list hq;obtain ⟨u,hu,ru⟩:=rv.get hx;obtain ⟨f0,f1,f2,f3,f4,f5⟩:=hf it (by simp);refine wpAny_pyNext_list_item st p.isList (x:=u) (by simpa using hu) fun h' st' sb=>?_
  have I1:Inv X pins σ H { s with heap:=h' }:=I.turned (t':=s.toks) (fun b o hb e=>(sb.2 b hb).trans e) f0 f1 f3 f4 f5;obtain ⟨o,e,c,d⟩:=id st';exact ⟨u,rfl,SE (s:={ s with heap:=h' }) e c d (by decide) ⟨x,H,I1,ru,⟨rfl,fun ys hy=>by rw [I.list_inj hy hq];exact hx⟩,st',fun b hb=>(hf b hb).1⟩⟩
 done:=by
  intro X hP hw hK hc i pins s σ H E I hf st hg;subst hP hw hK;obtain ⟨xs,hq,hx⟩:=hg;obtain ⟨its,rv,p,hz⟩:=I.list hq;obtain ⟨f0,f1,f2,f3,f4,f5⟩:=hf it (by simp);have hl:=rv.length;exact wpAny_pyNext_list_end (I.ok.hd hc) st p.isList (by simp;omega) fun h' eb=>⟨rfl,I.turned (t':=s.toks) (fun b o hb e=>eb b o hb e) f0 f1 f3 f4 f5⟩
 self:=fun _ _ _ _ _ st h=>wpAny_pyIter_listiter st h
theorem KB {P:Program} {w:World} {K:PySem.W.Frag} {tg:Expr} (it:Addr) (lo:Int) (n:Nat):OJ P w K tg (Itr lo n) [it] it (fun i h=>IsRangeIter h it (lo + (i:Nat) * 1) ((n:Int) - (i:Nat)) 1) where
 mem:=by simp
 obj:=fun i h st b hb=>by
  have e:b=it:=by simpa using hb
  subst e;exact ⟨_,st,fun v z=>by
   have z':Data.fields _=Data.cell v:=z;cases z'⟩
 keep:=fun i h h' st k=>k it (by simp) _ st
 item:=by
  intro X hP hw hK hc i pins s σ H E I hf st hg;subst hP hw hK;obtain ⟨f0,f1,f2,f3,f4,f5⟩:=hf it (by simp);have W:=Walks.range (prog:=X.prog) (w:=X.w) (I.ok.hd hc) it lo 1 n;refine W.item i s _ _ hg st fun v h' tk hv st' kk=>?_
  obtain ⟨t,rfl⟩:=hv;have I1:Inv X pins σ H { s with heap:=h',toks:=tk }:=I.turned (fun b o hb e=>kk b o (by simpa using hb) e) f0 f1 f3 f4 f5;refine ⟨_,rfl,SE (s:={ s with heap:=h',toks:=tk }) (n := "range_iterator") st' rfl rfl (by decide) ⟨.int (lo + i),H,I1,⟨t,?_⟩,⟨rfl,rfl⟩,st',fun b hb=>(hf b hb).1⟩⟩;rw [Int.mul_one]
 done:=by
  intro X hP hw hK hc i pins s σ H E I hf st hg;subst hP hw hK;obtain ⟨f0,f1,f2,f3,f4,f5⟩:=hf it (by simp);exact wpAny_pyNext_range_end (I.ok.hd hc) st (by have:n ≤ i:=hg;omega) fun h' eb=>⟨rfl,I.turned (t':=s.toks) (fun b o hb e=>eb b o hb e) f0 f1 f3 f4 f5⟩
 self:=fun _ _ _ _ _ st h=>wpAny_pyIter_rangeiter st h
end L2
namespace L2
open PySem PySem.Spec PyProof.Rows
section
variable {X:Cx} {tg:Expr}
noncomputable def WL (K:PySem.W.Frag) (tl:TE):TI:=fun σ H R=>tl σ H fun x H1=>lj x fun a=>(∃ xs,SqL K H1 a xs)∧R (Itl K a) H1
theorem Wd {l:Expr} {tl:TE} (hl:PE X l tl):PI X tg l (WL X.K tl):=by
 intro pins s σ H R I h;refine thn (hl pins s σ H _ I h) fun v s1 hZ1=>?_
 obtain ⟨x,H1,I1,r1,q1⟩:=hZ1;obtain ⟨a,e,⟨xs,hq⟩,q⟩:=lj.out q1;subst e;cases r1;obtain ⟨its,rv,p,hz⟩:=I1.list hq;refine wpAny_pyIter_list p.isList ?_;refine ⟨s1.heap.objs.size,[s1.heap.objs.size],_,_,H1,rfl,I1.kept (t':=s1.toks) fun b o e=>Heap.get?_push_of_some _ e,AF a _,⟨_,Heap.get?_push_size _ rfl,rfl,rfl⟩,fun b hb=>?_,q⟩;have e:b=s1.heap.objs.size:=by simpa using hb
 subst e;exact I1.fpOk (Nat.le_refl _) (I1.hok.fresh (Nat.le_refl _))
theorem AG {pins:List (Addr × Obj)} {σ:St} {H:Hp} {s:Shared} {R:It→Hp→Prop} {E:Value→Shared→Prop} {lo hi:Int} {t u v:Tok} {tk:Nat} (I:Inv X pins σ H s) (h1:-(2 ^ 62) ≤ lo) (h2:lo < 2 ^ 62) (h3:-(2 ^ 62) ≤ hi) (h4:hi < 2 ^ 62)
  (q:R (Itr lo (hi - lo).toNat) H):wpAny (model X.prog X.w) X.A (pyIter (.ref s.heap.objs.size)) (PIE X pins σ tg R) E { s with heap:=s.heap.push { cls:=.type "range",data:=.fields #[.int lo t,.int hi u,.int 1 v] },toks:=tk }:=by
 refine wpAny_pyIter_range (IsRange.new ..) (small_one h1 h2 h3 h4) ?_;have I1:Inv X pins σ H { s with heap:=s.heap.push { cls:=.type "range",data:=.fields #[.int lo t,.int hi u,.int 1 v] },toks:=tk }:=I.kept fun b o e=>Heap.get?_push_of_some _ e
 refine ⟨(s.heap.push { cls:=.type "range",data:=.fields #[.int lo t,.int hi u,.int 1 v] }).objs.size,[(s.heap.push { cls:=.type "range",data:=.fields #[.int lo t,.int hi u,.int 1 v] }).objs.size],_,_,H,rfl,
  I1.kept (t':=tk) fun b o e=>Heap.get?_push_of_some _ e,KB _ lo (hi - lo).toNat,?_,fun b hb=>?_,q⟩
 ·have e1:lo + ((0:Nat):Int) * 1=lo:=by simp
  have e2:(((hi - lo).toNat:Nat):Int) - ((0:Nat):Int)=Builtin.Range.rangeSize lo hi 1:=by rw [rangeSize_one];split <;> omega
  show IsRangeIter _ _ (lo + ((0:Nat):Int) * 1) ((((hi - lo).toNat:Nat):Int) - ((0:Nat):Int)) 1;rw [e1,e2];exact Heap.get?_push_size _ rfl
 ·have e:b=(s.heap.push { cls:=.type "range",data:=.fields #[.int lo t,.int hi u,.int 1 v] }).objs.size:=by simpa using hb
  subst e;exact I1.fpOk (Nat.le_refl _) (I1.hok.fresh (Nat.le_refl _))
noncomputable def RL (ta:TA):TI:=fun σ H R=>ta σ H fun vs H1=>MB vs fun x=>Xk x fun j=>-(2 ^ 62) ≤ j∧j < 2 ^ 62∧R (Itr 0 j.toNat) H1
theorem Re {a:Expr} {ta:TA} {p pos:Pos} (hg:Gl X "range") (hm:X.mg "range"=none) (ha:PA X [a] ta) (hs:starEach [a] X.env=[(false,eval a X.env)]:=by rfl):PI X tg (.Call (.Name "range" p) [a] [] pos) (RL ta):=by
 intro pins s σ H R I h;refine Call_ (wp I hg hm boot_range (PyProof.Rows.callWith_type1 (thn (ha pos pins s σ H _ I h) fun us s1 hZ1=>?_) hs rfl));obtain ⟨vs,H1,I1,r1,q1⟩:=hZ1;obtain ⟨zx,ze,zq⟩:=MB.out q1;obtain ⟨j,zf,zp,q2,q⟩:=Xk.out zq;have e:=ze.trans (congrArg (fun z=>[z]) zf);subst e;cases r1 with
 | cons r rr=>
  cases rr;obtain ⟨t,rfl⟩:=r;exact call_range_1 (AG I1 (by omega) (by omega) zp q2 (by simpa using q))
noncomputable def cO (wi:TI) (g:TG) (tb:TS):TS:=fun D σ H=>wi σ H fun J H1=>∃ W:Nat→Nat→St→Hp→Prop,(∃ m,W 0 m σ H1)∧∀ i m σ H,W i m σ H →
 (J.stop i H∧D.nx σ H)∨(J.go i H∧∃ N:St→Hp→Prop,(∀ σ' H',N σ' H'→∃ m',m' < m∧W (i + 1) m' σ' H')∧∀ x H',J.yld i H x H'→g x σ H' fun σ2 H2=>tb { D with nx:=N,ct:=N,bk:=D.nx } σ2 H2)
noncomputable def Ou (fp:List Addr) (h:Heap):List (Addr × Obj):=fp.filterMap fun b=>(h.get? b).map fun o=>(b,o)
theorem ci {fp:List Addr} {h:Heap} {b:Addr} {o:Obj} (hb:b ∈ fp) (e:h.get? b=some o):(b,o) ∈ Ou fp h:=List.mem_filterMap.mpr ⟨b,hb,by rw [e];rfl⟩
theorem ED {fp:List Addr} {h:Heap} {p:Addr × Obj} (hp:p ∈ Ou fp h):p.1 ∈ fp∧h.get? p.1=some p.2:=by
 obtain ⟨b,hb,e⟩:=List.mem_filterMap.mp hp;cases q:h.get? b with
 | none=>rw [q] at e;cases e
 | some o=>
  rw [q] at e;have e':(b,o)=p:=Option.some.inj e;subst e';exact ⟨hb,q⟩
theorem Inv.pinned {pins:List (Addr × Obj)} {σ:St} {H:Hp} {s:Shared} {fp:List Addr} (I:Inv X pins σ H s) (hf:∀ b ∈ fp,Vp X pins H b) (ho:∀ b ∈ fp,∃ o,s.heap.get? b=some o∧∀ v,o.data ≠ .cell v):Inv X (pins ++ Ou fp s.heap) σ H s:=
 I.pins_of fun p hp=>(List.mem_append.mp hp).elim (fun z=>I.pin p (List.mem_append_right _ z)) fun z=>by
  obtain ⟨hb,e⟩:=ED z;obtain ⟨f0,f1,f2,_⟩:=hf p.1 hb;obtain ⟨o,e',d⟩:=ho p.1 hb;rw [e] at e';cases e';exact ⟨e,f0,f1,f2,d⟩
theorem Inv.unpinned {pins pl:List (Addr × Obj)} {σ:St} {H:Hp} {s:Shared} (I:Inv X (pins ++ pl) σ H s):Inv X pins σ H s:=I.pins_of fun p hp=>I.pin p (List.mem_append_right _ (List.mem_append_left _ hp))
theorem se {iter:Expr} {body:List Stmt} {wi:TI} {g:TG} {tb:TS} {pos:Pos} (hp:PassesOwn (model X.prog X.w) X.A X.env X.xe) (hc:X.calm=true) (hi:PI X tg iter wi) (hg:PG X tg g) (hb:PSs X body tb)
  (hs:∀ x,foldedSetIterable iter X.env x=pure x:=by intro _;rfl):PS X (.For tg iter body [] pos) (cO wi g tb):=by
 intro pins s σ H D I h;refine wpAny_For (thn (hi pins s σ H _ I h) fun v s1 h1=>thn h1 fun itv s2 h2=>?_) hs;obtain ⟨it,fp,tn,J,H2,e,I2,T,st2,f2,W,⟨m0,w0⟩,turn⟩:=h2;subst e;have stat:∀ {H':Hp},(∀ b ∈ fp,H' b=none)→∀ b ∈ fp,Vp X pins H' b:=fun hn b hb=>⟨hn b hb,(f2 b hb).2⟩
 refine codeAny_forLoop_any (fun n s'=>∃ i σ' H',Inv X pins σ' H' s'∧tn i s'.heap∧(∀ b ∈ fp,H' b=none)∧W i n σ' H') ?_ m0 ⟨0,σ,H2,I2,st2,fun b hb=>(f2 b hb).1,w0⟩;rintro n s3 ⟨i,σ3,H3,I3,st3,fr3,w3⟩;rcases turn i n σ3 H3 w3 with ⟨stop,qn⟩ | ⟨go,N,hN,step⟩
 ·refine wpAny_passesOwn hp (thn (T.done X rfl rfl rfl hc i pins s3 σ3 H3 X.xe I3 (stat fr3) st3 stop) fun r s4 hZ1=>?_);obtain ⟨hr,I4⟩:=hZ1;subst hr;exact wpAny_execs_nil ⟨σ3,H3,I4,qn⟩
 ·refine wpAny_passesOwn hp (thn (T.item X rfl rfl rfl hc i pins s3 σ3 H3 X.xe I3 (stat fr3) st3 go) fun r s4 hZ1=>?_);obtain ⟨u,hr,h4⟩:=hZ1;subst hr;refine wpAny_passesOwn hp (thn h4 fun _ s5 hZ1=>?_);obtain ⟨x,H5,I5,r5,y5,st5,fr5⟩:=hZ1;have I5':=I5.pinned (stat fr5) (T.obj _ _ st5);refine wpAny_passesOwn hp (thn (hg _ s5 σ3 H5 x u _ I5' r5 (step x H5 y5)) fun _ s6 hZ1=>?_);obtain ⟨σ6,H6,I6,q6⟩:=hZ1;refine wpAny_passesOwn hp (thn (hb _ s6 σ6 H6 _ I6 q6) fun f s7 q7=>?_);have again:∀ {σ7:St} {H7:Hp},Inv X (pins ++ Ou fp s5.heap) σ7 H7 s7→N σ7 H7→∃ m,m < n∧∃ i σ' H',Inv X pins σ' H' s7∧tn i s7.heap∧(∀ b ∈ fp,H' b=none)∧W i m σ' H':=fun {σ7 H7} I7 n7=>by
   obtain ⟨m',hm,w7⟩:=hN σ7 H7 n7;refine ⟨m',hm,i + 1,σ7,H7,I7.unpinned,T.keep _ _ _ st5 fun b hb o e=>(I7.pin (b,o) (List.mem_append_right _ (List.mem_append_right _ (ci hb e)))).1,fun b hb=>?_,w7⟩;obtain ⟨o,e,d⟩:=T.obj _ _ st5 b hb;exact (I7.pin (b,o) (List.mem_append_right _ (List.mem_append_right _ (ci hb e)))).2.1
  cases f with
  | next=>obtain ⟨σ7,H7,I7,n7⟩:=q7;exact again I7 n7
  | cont=>obtain ⟨σ7,H7,I7,n7⟩:=q7;exact again I7 n7
  | brk=>obtain ⟨σ7,H7,I7,q7⟩:=q7;exact ⟨σ7,H7,I7.unpinned,q7⟩
  | ret v=>obtain ⟨x7,σ7,H7,I7,r7,q7⟩:=q7;exact ⟨x7,σ7,H7,I7.unpinned,r7,q7⟩
end
theorem SG {K:PySem.W.Frag} {a:Addr} {xs:List V} {g:TG} {tb:TS} {D:jk} {σ:St} {H:Hp} (Pv:Nat→St→Hp→Prop) (h0:Pv 0 σ H) (hl:∀ i σ H,i ≤ xs.length→Pv i σ H→SqL K H a xs)
  (hs:∀ i x σ H,xs[i]? = some x→Pv i σ H→g x σ H fun σ2 H2=>tb { D with nx:=Pv (i + 1),ct:=Pv (i + 1),bk:=D.nx } σ2 H2) (hd:∀ σ H,Pv xs.length σ H→D.nx σ H) :
  ∃ W:Nat→Nat→St→Hp→Prop,(∃ m,W 0 m σ H)∧∀ i m σ H,W i m σ H →
   ((Itl K a).stop i H∧D.nx σ H)∨((Itl K a).go i H∧∃ N:St→Hp→Prop,(∀ σ' H',N σ' H'→∃ m',m' < m∧W (i + 1) m' σ' H')∧∀ x H',(Itl K a).yld i H x H'→g x σ H' fun σ2 H2=>tb { D with nx:=N,ct:=N,bk:=D.nx } σ2 H2):=by
 refine ⟨fun i m σ H=>m=xs.length - i∧i ≤ xs.length∧Pv i σ H,⟨xs.length,by simp,Nat.zero_le _,h0⟩,?_⟩;rintro i m σ H ⟨rfl,hi,p⟩;have q:=hl i σ H hi p;by_cases hlt:i < xs.length
 ·refine .inr ⟨⟨xs,xs[i],q,by simp [hlt]⟩,Pv (i + 1),fun σ' H' p'=>⟨xs.length - (i + 1),by omega,rfl,hlt,p'⟩,fun x H' y=>?_⟩;obtain ⟨e,y⟩:=y;subst e;exact hs i x σ _ (y xs q) p
 ·have e:i=xs.length:=by omega
  subst e;exact .inl ⟨⟨xs,q,Nat.le_refl _⟩,hd σ H p⟩
theorem WE {lo:Int} {n:Nat} {g:TG} {tb:TS} {D:jk} {σ:St} {H:Hp} (Pv:Nat→St→Hp→Prop) (h0:Pv 0 σ H)
  (hs:∀ i σ H,i < n→Pv i σ H→g (.int (lo + i)) σ H fun σ2 H2=>tb { D with nx:=Pv (i + 1),ct:=Pv (i + 1),bk:=D.nx } σ2 H2) (hd:∀ σ H,Pv n σ H→D.nx σ H) :
  ∃ W:Nat→Nat→St→Hp→Prop,(∃ m,W 0 m σ H)∧∀ i m σ H,W i m σ H →
   ((Itr lo n).stop i H∧D.nx σ H)∨((Itr lo n).go i H∧∃ N:St→Hp→Prop,(∀ σ' H',N σ' H'→∃ m',m' < m∧W (i + 1) m' σ' H')∧∀ x H',(Itr lo n).yld i H x H'→g x σ H' fun σ2 H2=>tb { D with nx:=N,ct:=N,bk:=D.nx } σ2 H2):=by
 refine ⟨fun i m σ H=>m=n - i∧i ≤ n∧Pv i σ H,⟨n,by simp,Nat.zero_le _,h0⟩,?_⟩;rintro i m σ H ⟨rfl,hi,p⟩;by_cases hlt:i < n
 ·refine .inr ⟨hlt,Pv (i + 1),fun σ' H' p'=>⟨n - (i + 1),by omega,rfl,hlt,p'⟩,fun x H' y=>?_⟩;obtain ⟨e,y⟩:=y;subst e y;exact hs i σ _ hlt p
 ·have e:i=n:=by omega
  subst e;exact .inl ⟨Nat.le_refl _,hd σ H p⟩
end L2
namespace L2
open PySem PySem.Spec PyProof.Rows
noncomputable abbrev R2:=V→V→Hp→VK→Prop
noncomputable def OpR (X:Cx) (f:Value→Value→Sem Value) (r:R2):Prop:=
 ∀ (pins:List (Addr × Obj)) (s:Shared) (σ:St) (H:Hp) (x y:V) (v u:Value) (Q:VK),Inv X pins σ H s→Jd x v→Jd y u→r x y H Q →
  wpAny (model X.prog X.w) X.A (f v u) (EP X pins σ Q) X.xe s
noncomputable def UnR (X:Cx) (f:Value→Sem Value) (r:V→Hp→VK→Prop):Prop:=
 ∀ (pins:List (Addr × Obj)) (s:Shared) (σ:St) (H:Hp) (x:V) (v:Value) (Q:VK),Inv X pins σ H s→Jd x v→r x H Q →
  wpAny (model X.prog X.w) X.A (f v) (EP X pins σ Q) X.xe s
noncomputable def Al (X:Cx) (f:Value) (r:List V→Hp→VK→Prop):Prop:=
 ∀ (pins:List (Addr × Obj)) (s:Shared) (σ:St) (H:Hp) (xs:List V) (us:List Value) (Q:VK),Inv X pins σ H s→Dd xs us→r xs H Q →
  wpAny (model X.prog X.w) X.A (call f us) (EP X pins σ Q) X.xe s
noncomputable def NO (X:Cx) (r:V→Hp→(Bool→Hp→Prop)→Prop):Prop:=
 ∀ (pins:List (Addr × Obj)) (s:Shared) (σ:St) (H:Hp) (x:V) (v:Value) (Q:Bool→Hp→Prop),Inv X pins σ H s→Jd x v→r x H Q →
  wpAny (model X.prog X.w) X.A (truthy v) (TP X pins σ Q) X.xe s
noncomputable def tOp (r:R2) (ta tb:TE):TE:=fun σ H Q=>ta σ H fun x H1=>tb σ H1 fun y H2=>r x y H2 Q
noncomputable def tUn (r:V→Hp→VK→Prop) (ta:TE):TE:=fun σ H Q=>ta σ H fun x H1=>r x H1 Q
noncomputable def rI (C:Int→Int→Prop) (g:Int→Int→V):R2:=fun x y H Q=>Xk x fun i=>Xk y fun j=>C i j∧Q (g i j) H
noncomputable def rI0 (g:Int→Int→V):R2:=fun x y H Q=>Xk x fun i=>Xk y fun j=>Q (g i j) H
noncomputable def rU (g:Int→V):V→Hp→VK→Prop:=fun x H Q=>Xk x fun i=>Q (g i) H
section
variable {X:Cx} {a b c:Expr} {ta tb tc:TE} {pos:Pos}
theorem xN (ha:PE X a ta) (hb:PE X b tb) {pins:List (Addr × Obj)} {s:Shared} {σ:St} {H:Hp} {R:V→V→Hp→Prop} (I:Inv X pins σ H s)
  (h:ta σ H fun x H1=>tb σ H1 fun y H2=>R x y H2) {Q:Value→Shared→Prop} {f:Value→Value→Sem Value}
  (hf:∀ v u s2 x y H2,Inv X pins σ H2 s2→Jd x v→Jd y u→R x y H2→wpAny (model X.prog X.w) X.A (f v u) Q X.xe s2) :
  wpAny (model X.prog X.w) X.A (eval a X.env) (fun v s₁=>wpAny (model X.prog X.w) X.A (eval b X.env) (fun u s₂=>wpAny (model X.prog X.w) X.A (f v u) Q X.xe s₂) X.xe s₁) X.xe s:=by
 refine thn (ha pins s σ H _ I h) fun v s1 hZ1=>?_
 obtain ⟨x,H1,I1,r1,q1⟩:=hZ1;refine thn (hb pins s1 σ H1 _ I1 q1) fun u s2 hZ1=>?_
 obtain ⟨y,H2,I2,r2,q2⟩:=hZ1;exact hf v u s2 x y H2 I2 r1 r2 q2
theorem Vb {op:Operator} {r:R2} (ho:OpR X (binaryOp op) r) (ha:PE X a ta) (hb:PE X b tb):PE X (.BinOp a op b pos) (tOp r ta tb):=by
 intro pins s σ H Q I h;exact wpAny_BinOp (xN ha hb I h fun v u s2 x y H2 I2 rx ry q=>ho pins s2 σ H2 x y v u Q I2 rx ry q)
theorem Nv {op:UnaryOp} {r:V→Hp→VK→Prop} (ho:UnR X (unaryOp op) r) (ha:PE X a ta):PE X (.UnaryOp op a pos) (tUn r ta):=by
 intro pins s σ H Q I h;exact UnaryOp_ (thn (ha pins s σ H _ I h) fun v s1 ⟨x,H1,I1,r1,q1⟩=>ho pins s1 σ H1 x v Q I1 r1 q1)
theorem opI {f:Value→Value→Sem Value} {C:Int→Int→Prop} {g:Int→Int→Int}
  (rule:∀ (i j:Int) (t u:Tok) (s:Shared) (Q:Value→Shared→Prop) (E:Value→Shared→Prop),C i j→Q (.int (g i j) s.toks) { s with toks:=s.toks + 1 }→wpAny (model X.prog X.w) X.A (f (.int i t) (.int j u)) Q E s) :
  OpR X f (rI C fun i j=>.int (g i j)):=by
 intro pins s σ H x y v u Q I rx ry h;obtain ⟨i,rfl,hzz⟩:=Xk.out h;obtain ⟨j,rfl,hc,q⟩:=Xk.out hzz;obtain ⟨t,rfl⟩:=rx;obtain ⟨t',rfl⟩:=ry;exact rule i j t t' s _ _ hc ⟨.int (g i j),H,I.tok _,⟨_,rfl⟩,q⟩
theorem sO {f:Value→Value→Sem Value} {g:Int→Int→Int}
  (rule:∀ (i j:Int) (t u:Tok) (s:Shared) (Q:Value→Shared→Prop) (E:Value→Shared→Prop),Q (.int (g i j) s.toks) { s with toks:=s.toks + 1 }→wpAny (model X.prog X.w) X.A (f (.int i t) (.int j u)) Q E s) :
  OpR X f (rI0 fun i j=>.int (g i j)):=by
 intro pins s σ H x y v u Q I rx ry h;obtain ⟨i,rfl,hzz⟩:=Xk.out h;obtain ⟨j,rfl,q⟩:=Xk.out hzz;obtain ⟨t,rfl⟩:=rx;obtain ⟨t',rfl⟩:=ry;exact rule i j t t' s _ _ ⟨.int (g i j),H,I.tok _,⟨_,rfl⟩,q⟩
theorem wN {f:Value→Value→Sem Value} {g:Int→Int→Bool}
  (rule:∀ (i j:Int) (t u:Tok) (s:Shared) (Q:Value→Shared→Prop) (E:Value→Shared→Prop),Q (.bool (g i j)) s→wpAny (model X.prog X.w) X.A (f (.int i t) (.int j u)) Q E s) :
  OpR X f (rI0 fun i j=>.bl (g i j)):=by
 intro pins s σ H x y v u Q I rx ry h;obtain ⟨i,rfl,hzz⟩:=Xk.out h;obtain ⟨j,rfl,q⟩:=Xk.out hzz;obtain ⟨t,rfl⟩:=rx;obtain ⟨t',rfl⟩:=ry;exact rule i j t t' s _ _ ⟨.bl (g i j),H,I,rfl,q⟩
noncomputable def MO (i j:Int):Prop:=0 < j∧j < 1073741824
noncomputable def JC (i j:Int):Prop:=(-(2 ^ 64) < i∧i < 2 ^ 64)∨(-(2 ^ 64) < j∧j < 2 ^ 64)
theorem JC.ok {i j:Int} (h:JC i j):IntMulOk i j:=by
 rcases h with ⟨h1,h2⟩ | ⟨h1,h2⟩
 ·exact .of_left (intBits_le_64 h1 h2)
 ·exact .of_right (intBits_le_64 h1 h2)
theorem ke:OpR X (binaryOp .Add) (rI0 fun i j=>.int (i + j)):=sO fun _ _ _ _ _ _ _ q=>add_int q
theorem gk:OpR X (binaryOp .Sub) (rI0 fun i j=>.int (i - j)):=sO fun _ _ _ _ _ _ _ q=>sub_int q
theorem rn:OpR X (binaryOp .Mult) (rI JC fun i j=>.int (i * j)):=opI fun _ _ _ _ _ _ _ hc q=>mul_int q hc.ok
theorem kE:OpR X (binaryOp .FloorDiv) (rI MO fun i j=>.int (i / j)):=opI fun i j _ _ _ _ _ hc q=>by
 have h1:(0:Int) < j:=hc.1;have h2:j < 1073741824:=hc.2;exact floordiv_int (by omega) (by rw [Int.fdiv_eq_ediv_of_nonneg i (by omega)];exact q) (.inl (PyProof.noPylong_small (by omega)))
theorem zi:OpR X (binaryOp .Mod) (rI (fun _ j=>0 < j) fun i j=>.int (i % j)):=opI fun i j _ _ _ _ _ hc q=>by
 have h1:(0:Int) < j:=hc;exact mod_int' (by omega) (by rw [Int.fmod_eq_emod_of_nonneg i (by omega)];exact q)
theorem unI {f:Value→Sem Value} {g:Int→Int}
  (rule:∀ (i:Int) (t:Tok) (s:Shared) (Q:Value→Shared→Prop) (E:Value→Shared→Prop),Q (.int (g i) s.toks) { s with toks:=s.toks + 1 }→wpAny (model X.prog X.w) X.A (f (.int i t)) Q E s) :
  UnR X f (rU fun i=>.int (g i)):=by
 intro pins s σ H x v Q I rx h;obtain ⟨i,rfl,q⟩:=Xk.out h;obtain ⟨t,rfl⟩:=rx;exact rule i t s _ _ ⟨.int (g i),H,I.tok _,⟨_,rfl⟩,q⟩
theorem Bn:UnR X (unaryOp .USub) (rU fun i=>.int (-i)):=unI fun _ _ _ _ _ q=>neg_int q
end
noncomputable def MM:V→V→Bool
 | .non,.non=>true | .non,.int _=>true | .int _,.non=>true | .non,.bl _=>true | .bl _,.non=>true | .non,.str _=>true | .str _,.non=>true
 | .int _,.int _=>true | .bl _,.bl _=>true | .str _,.str _=>true | .byt _,.byt _=>true
 | .int _,.str _=>true | .str _,.int _=>true | .bl _,.str _=>true | .str _,.bl _=>true
 | _,_=>false
noncomputable def rEq:R2:=fun x y H Q=>MM x y=true∧Q (.bl (decide (x=y))) H
noncomputable def rNe:R2:=fun x y H Q=>MM x y=true∧Q (.bl (!decide (x=y))) H
theorem PD {i j:Int}:decide (V.int i=V.int j)=(i == j):=by
 rw [Bool.eq_iff_iff];simp
theorem wI {i j:Bool}:decide (V.bl i=V.bl j)=(i == j):=by
 rw [Bool.eq_iff_iff];simp
theorem QF {i j:Str}:decide (V.str i=V.str j)=(i == j):=by
 rw [Bool.eq_iff_iff];simp
theorem WC {i j:Array UInt8}:decide (V.byt i=V.byt j)=(i.toList == j.toList):=by
 rw [Bool.eq_iff_iff];cases i;cases j;simp
section
variable {X:Cx} {a b c:Expr} {ta tb tc:TE} {pos:Pos}
theorem Nd {pins:List (Addr × Obj)} {σ:St} {H:Hp} {s:Shared} {Q:VK} {k k':Bool} (I:Inv X pins σ H s) (q:Q (.bl k) H) (e:k=k'):EP X pins σ Q (.bool k') s:=by
 subst e;exact ⟨.bl k,H,I,rfl,q⟩
theorem Mi:OpR X (compareOp .Eq) rEq:=by
 intro pins s σ H x y v u Q I rx ry h;obtain ⟨hs,q⟩:=h;cases x with
 | non=>
  cases rx;cases y with
  | non=>cases ry;exact PySem.EqNone.eq_none_none (Nd I q (by simp))
  | bl j=>cases ry;exact PySem.EqNone.eq_none_bool (Nd I q (by simp))
  | int j=>obtain ⟨t',rfl⟩:=ry;exact PySem.EqNone.eq_none_int (Nd I q (by simp))
  | str j=>obtain ⟨t',rfl⟩:=ry;exact PySem.EqNone.eq_none_str (Nd I q (by simp))
  | _=>exact absurd (show false=true from hs) Bool.false_ne_true
 | bl i=>
  cases rx;cases y with
  | non=>cases ry;exact PySem.EqNone.eq_bool_none (Nd I q (by simp))
  | bl j=>cases ry;exact eq_bool (Nd I q wI)
  | str j=>obtain ⟨t',rfl⟩:=ry;exact PySem.EqMixed.eq_bool_str (Nd I q (by simp))
  | _=>exact absurd (show false=true from hs) Bool.false_ne_true
 | int i=>
  obtain ⟨t,rfl⟩:=rx;cases y with
  | non=>cases ry;exact PySem.EqNone.eq_int_none (Nd I q (by simp))
  | int j=>obtain ⟨t',rfl⟩:=ry;exact eq_int (Nd I q PD)
  | str j=>obtain ⟨t',rfl⟩:=ry;exact PySem.EqMixed.eq_int_str (Nd I q (by simp))
  | _=>exact absurd (show false=true from hs) Bool.false_ne_true
 | str i=>
  obtain ⟨t,rfl⟩:=rx;cases y with
  | non=>cases ry;exact PySem.EqNone.eq_str_none (Nd I q (by simp))
  | bl j=>cases ry;exact PySem.EqMixed.eq_str_bool (Nd I q (by simp))
  | int j=>obtain ⟨t',rfl⟩:=ry;exact PySem.EqMixed.eq_str_int (Nd I q (by simp))
  | str j=>obtain ⟨t',rfl⟩:=ry;exact eq_str (Nd I q QF)
  | _=>exact absurd (show false=true from hs) Bool.false_ne_true
 | byt i=>
  obtain ⟨t,rfl⟩:=rx;cases y with
  | byt j=>obtain ⟨t',rfl⟩:=ry;exact PySem.W.eq_bytes (Nd I q WC)
  | _=>exact absurd (show false=true from hs) Bool.false_ne_true
 | _=>cases y <;> exact absurd (show false=true from hs) Bool.false_ne_true
theorem KC:OpR X (compareOp .NotEq) rNe:=by
 intro pins s σ H x y v u Q I rx ry h;obtain ⟨hs,q⟩:=h;cases x with
 | non=>
  cases rx;cases y with
  | non=>cases ry;exact PySem.EqNone.ne_none_none (Nd I q (by simp))
  | bl j=>cases ry;exact PySem.EqNone.ne_none_bool (Nd I q (by simp))
  | int j=>obtain ⟨t',rfl⟩:=ry;exact PySem.EqNone.ne_none_int (Nd I q (by simp))
  | str j=>obtain ⟨t',rfl⟩:=ry;exact PySem.EqNone.ne_none_str (Nd I q (by simp))
  | _=>exact absurd (show false=true from hs) Bool.false_ne_true
 | bl i=>
  cases rx;cases y with
  | non=>cases ry;exact PySem.EqNone.ne_bool_none (Nd I q (by simp))
  | bl j=>cases ry;exact ne_bool (Nd I q (congrArg not wI))
  | str j=>obtain ⟨t',rfl⟩:=ry;exact PySem.EqMixed.ne_bool_str (Nd I q (by simp))
  | _=>exact absurd (show false=true from hs) Bool.false_ne_true
 | int i=>
  obtain ⟨t,rfl⟩:=rx;cases y with
  | non=>cases ry;exact PySem.EqNone.ne_int_none (Nd I q (by simp))
  | int j=>obtain ⟨t',rfl⟩:=ry;exact ne_int (Nd I q (congrArg not PD))
  | str j=>obtain ⟨t',rfl⟩:=ry;exact PySem.EqMixed.ne_int_str (Nd I q (by simp))
  | _=>exact absurd (show false=true from hs) Bool.false_ne_true
 | str i=>
  obtain ⟨t,rfl⟩:=rx;cases y with
  | non=>cases ry;exact PySem.EqNone.ne_str_none (Nd I q (by simp))
  | bl j=>cases ry;exact PySem.EqMixed.ne_str_bool (Nd I q (by simp))
  | int j=>obtain ⟨t',rfl⟩:=ry;exact PySem.EqMixed.ne_str_int (Nd I q (by simp))
  | str j=>obtain ⟨t',rfl⟩:=ry;exact ne_str (Nd I q (congrArg not QF))
  | _=>exact absurd (show false=true from hs) Bool.false_ne_true
 | byt i=>
  obtain ⟨t,rfl⟩:=rx;cases y with
  | byt j=>obtain ⟨t',rfl⟩:=ry;exact PySem.W.ne_bytes (Nd I q (congrArg not WC))
  | _=>exact absurd (show false=true from hs) Bool.false_ne_true
 | _=>cases y <;> exact absurd (show false=true from hs) Bool.false_ne_true
theorem wt:OpR X (compareOp .Lt) (rI0 fun i j=>.bl (decide (i < j))):=wN fun _ _ _ _ _ _ _ q=>lt_int q
theorem CN:OpR X (compareOp .LtE) (rI0 fun i j=>.bl (decide (i ≤ j))):=wN fun _ _ _ _ _ _ _ q=>le_int q
theorem MF:OpR X (compareOp .Gt) (rI0 fun i j=>.bl (decide (j < i))):=wN fun _ _ _ _ _ _ _ q=>gt_int q
theorem jD:OpR X (compareOp .In) (fun x y H Q=>∃ i j,x=.str i∧y=.str j∧Q (.bl (!(Builtin.Str.occurrences j i 0 j.length 1).isEmpty)) H):=by
 intro pins s σ H x y v u Q I rx ry h;obtain ⟨i,j,rfl,rfl,q⟩:=h;obtain ⟨t,rfl⟩:=rx;obtain ⟨t',rfl⟩:=ry;exact in_str (Nd I q rfl)
theorem ME:OpR X (compareOp .IsNot) (fun x y H Q=>y=.non∧Q (.bl (!decide (x=.non))) H):=by
 intro pins s σ H x y v u Q I rx ry h;obtain ⟨rfl,q⟩:=h;cases ry;refine isnot_none_gen (Nd I q ?_);cases x <;> first
  | (cases rx;rfl)
  | (obtain ⟨t,rfl⟩:=rx;rfl)
theorem OpR.or {f:Value→Value→Sem Value} {r r':R2} (h:OpR X f r) (h':OpR X f r'):OpR X f (fun x y H Q=>r x y H Q∨r' x y H Q):=by
 intro pins s σ H x y v u Q I rx ry q;rcases q with q | q
 ·exact h pins s σ H x y v u Q I rx ry q
 ·exact h' pins s σ H x y v u Q I rx ry q
theorem Hc (b:Expr) {op:CmpOp} (h:op ≠ .In:=by decide) (h2:op ≠ .NotIn:=by decide):behindInMarks op b=false:=by
 have e1:(op == CmpOp.In)=false:=by cases op <;> first | rfl | exact absurd rfl h
 have e2:(op == CmpOp.NotIn)=false:=by cases op <;> first | rfl | exact absurd rfl h2
 cases b <;> simp [behindInMarks,e1,e2]
theorem Pf {op:CmpOp} {r:R2} (ho:OpR X (compareOp op) r) (ha:PE X a ta) (hb:PE X b tb) (hm:behindInMarks op b=false):PE X (.Compare a [op] [b] pos) (tOp r ta tb):=by
 intro pins s σ H Q I h;exact wpAny_Compare1 (xN ha hb I h fun v u s2 x y H2 I2 rx ry q=>ho pins s2 σ H2 x y v u Q I2 rx ry q) hm
noncomputable def eL (t:TE):TT:=fun σ H Q=>t σ H fun x H'=>BlQ x fun k=>Q k H'
theorem zc {op:CmpOp} {r:R2} (ho:OpR X (compareOp op) r) (ha:PE X a ta) (hb:PE X b tb) (hm:behindInMarks op b=false):PT X (.Compare a [op] [b] pos) (eL (tOp r ta tb)):=by
 intro pins s σ H Q I h;refine wpAny_isTrue_Compare1 (thn (ha pins s σ H _ I h) fun v s1 ⟨x,H1,I1,r1,q1⟩=>thn (hb pins s1 σ H1 _ I1 q1) fun u s2 ⟨y,H2,I2,r2,q2⟩=>
  thn (ho pins s2 σ H2 x y v u _ I2 r1 r2 q2) fun c s3 ⟨z,H3,I3,r3,zq⟩=>?_) hm
 obtain ⟨k,e,q3⟩:=BlQ.out zq;subst e;cases r3;exact wpAny_truthy_bool ⟨H3,I3,q3⟩
noncomputable def ZN (K:PySem.W.Frag) (x:V) (H:Hp) (k:Bool):Prop:=
 match x with
 | .non=>k=false
 | .bl b=>k=b
 | .int i=>k=(i != 0)
 | .str y=>y.length ≤ sizeLine∧k=((y.length:Int) != 0)
 | .byt y=>y.size ≤ sizeLine∧k=((y.size:Int) != 0)
 | .ref p=>(∃ xs,SqL K H p xs∧k = !xs.isEmpty)∨(∃ xs,SqT K H p xs∧k = !xs.isEmpty)∨∃ kvs,H p=some (.dK kvs)∧k = !kvs.isEmpty
 | _=>False
theorem yB {κ:Type} {kvs:List (κ × V)} {vs:List (κ × Value)} (r:KV kvs vs):(!vs.isEmpty) = !kvs.isEmpty:=by
 cases r <;> rfl
theorem Fu {xs:List V} {its:List Value} (r:Dd xs its):(!its.toArray.isEmpty) = !xs.isEmpty:=by
 cases r <;> simp
theorem br:(sizeLine:Nat) < 2 ^ 63:=by rw [sizeLine_eq];decide
theorem mM:NO X (fun x H Q=>∃ k,ZN X.K x H k∧Q k H):=by
 intro pins s σ H x v Q I rx h;obtain ⟨k,e,q⟩:=h;have hl:=br;have hs:sizeLine=16777216:=sizeLine_eq;cases x with
 | non=>
  cases rx;have e':k=false:=e;subst e';exact truthy_none ⟨H,I,q⟩
 | bl b=>
  cases rx;have e':k=b:=e;subst e';exact wpAny_truthy_bool ⟨H,I,q⟩
 | int i=>
  obtain ⟨t,rfl⟩:=rx;have e':k=(i != 0):=e;subst e';exact PySem.P.truthy_int ⟨H,I,q⟩
 | str y=>
  obtain ⟨t,rfl⟩:=rx;obtain ⟨hy,e'⟩:y.length ≤ sizeLine∧k=((y.length:Int) != 0):=e;subst e';exact PySem.P.truthy_str (by omega) ⟨H,I.tok _,q⟩
 | byt y=>
  obtain ⟨t,rfl⟩:=rx;obtain ⟨hy,e'⟩:y.size ≤ sizeLine∧k=((y.size:Int) != 0):=e;subst e';exact PySem.W.truthy_bytes (by omega) ⟨H,I.tok _,q⟩
 | ref p=>
  cases rx;have e':(∃ xs,SqL X.K H p xs∧k = !xs.isEmpty)∨(∃ xs,SqT X.K H p xs∧k = !xs.isEmpty)∨∃ kvs,H p=some (.dK kvs)∧k = !kvs.isEmpty:=e;rcases e' with ⟨xs,hx,e'⟩ | ⟨xs,hx,e'⟩ | ⟨kvs,hx,e'⟩
  ·subst e';obtain ⟨its,r,pl,hz⟩:=I.list hx;have hlen:=r.length;exact wpAny_truthy_list pl.isList (by simp only [List.size_toArray];omega) ⟨H,I.tok _,by rw [Fu r];exact q⟩
  ·subst e';obtain ⟨its,r,pl,hz⟩:=I.tuple hx;have hlen:=r.length;exact truthy_tuple pl (by simp only [List.size_toArray];omega) ⟨H,I.tok _,by rw [Fu r];exact q⟩
  ·subst e';obtain ⟨hz,hS,vs,r,m⟩:kvs.length ≤ sizeLine∧(p == sysModules)=false∧∃ vs,KV kvs vs∧s.heap.DictOf (ig X.prog X.w) p vs:=I.hok p _ hx;have hlen:kvs.length=vs.length:=Paired.length r;exact wpAny_truthy_dict hS m (by omega) ⟨H,I.tok _,by rw [yB r];exact q⟩
 | _=>exact (show False from e).elim
theorem NA (ha:PE X a ta) (he:∀ whole,isTrue a X.env whole=(do let v ← whole;standAt a.pos;holding [v] (truthy v))) :
  PT X a (fun σ H Q=>ta σ H fun x H'=>∃ k,ZN X.K x H' k∧Q k H'):=by
 intro pins s σ H Q I h;exact isTrue_plain (thn (ha pins s σ H _ I h) fun v s1 ⟨x,H1,I1,r1,q1⟩=>mM pins s1 σ H1 x v Q I1 r1 q1) (he _)
theorem Tc:OpR X (binaryOp .Add) (fun x y H Q=>∃ i j,x=.str i∧y=.str j∧i.length + j.length ≤ sizeLine∧Q (.str (i ++ j)) H):=by
 intro pins s σ H x y v u Q I rx ry h;obtain ⟨i,j,rfl,rfl,hz,q⟩:=h;obtain ⟨t,rfl⟩:=rx;obtain ⟨t',rfl⟩:=ry;exact add_str (fun t' tk=>⟨.str (i ++ j),H,I.tok _,⟨_,rfl⟩,q⟩) hz
theorem Kr {x:V} {us:List Value} (r:Dd [x] us):∃ u,us=[u]∧Jd x u:=by
 cases r with
 | cons r1 r2=>cases r2;exact ⟨_,rfl,r1⟩
theorem IH {x y:V} {us:List Value} (r:Dd [x,y] us):∃ u w',us=[u,w']∧Jd x u∧Jd y w':=by
 cases r with
 | cons r1 r2=>
  cases r2 with
  | cons r3 r4=>cases r4;exact ⟨_,_,rfl,r1,r3⟩
theorem Bx (hc:X.calm=true):Al X (.builtin "max") (fun xs H Q=>∃ i j,xs=[.int i,.int j]∧Q (.int (if j > i then j else i)) H):=by
 intro pins s σ H xs us Q I r h;obtain ⟨i,j,rfl,q⟩:=h;obtain ⟨u,w',rfl,⟨t,rfl⟩,⟨t',rfl⟩⟩:=IH r;refine max_two_ints (I.ok.hd hc) fun h' tk k=>⟨_,H,I.kept k,?_,q⟩
 by_cases hj:j > i
 ·rw [if_pos hj,if_pos hj];exact ⟨_,rfl⟩
 ·rw [if_neg hj,if_neg hj];exact ⟨_,rfl⟩
theorem Mr (hc:X.calm=true):Al X (.builtin "min") (fun xs H Q=>∃ i j,xs=[.int i,.int j]∧Q (.int (if j < i then j else i)) H):=by
 intro pins s σ H xs us Q I r h;obtain ⟨i,j,rfl,q⟩:=h;obtain ⟨u,w',rfl,⟨t,rfl⟩,⟨t',rfl⟩⟩:=IH r;refine min_two_ints (I.ok.hd hc) fun h' tk k=>⟨_,H,I.kept k,?_,q⟩
 by_cases hj:j < i
 ·rw [if_pos hj,if_pos hj];exact ⟨_,rfl⟩
 ·rw [if_neg hj,if_neg hj];exact ⟨_,rfl⟩
theorem fD:Al X (.type "int") (fun xs H Q=>(∃ i,xs=[.int i]∧Q (.int i) H)∨∃ k,xs=[.bl k]∧Q (.int (if k then 1 else 0)) H):=by
 intro pins s σ H xs us Q I r h;rcases h with ⟨i,rfl,q⟩ | ⟨k,rfl,q⟩
 ·obtain ⟨u,rfl,t,rfl⟩:=Kr r;exact call_int_int ⟨.int i,H,I,⟨_,rfl⟩,q⟩
 ·obtain ⟨u,rfl,r1⟩:=Kr r;cases r1;exact call_int_bool ⟨.int (if k then 1 else 0),H,I.tok _,⟨_,rfl⟩,q⟩
theorem tf:Al X (.type "str") (fun xs H Q=>∃ i,xs=[.int i]∧i.natAbs.log2 < 1920∧Q (.str (toString i)) H):=by
 intro pins s σ H xs us Q I r h;obtain ⟨i,rfl,hz,q⟩:=h;obtain ⟨u,rfl,t,rfl⟩:=Kr r;exact PySem.P.str_of_int hz ⟨.str _,H,I.tok _,⟨_,rfl⟩,q⟩
end
end L2
namespace L2
open PySem PySem.Spec PyProof.Rows
structure KJ (h:Heap) (x dx C:Addr) (mA:Str→Option Value):Prop where
 obj:h.get? x=some (PySem.W.instObj C dx)
 ns:h.Ns1 dx mA
 ne:dx ≠ x
theorem bo {h:Heap} {dx:Addr} {mA:Str→Option Value} (n:h.Ns1 dx mA):∃ od,h.get? dx=some od∧∀ name,PySem.W.lookIn name od=some (mA name):=by
 obtain ⟨o,es,ep,ho,hd,hk,_,hm⟩:=n;refine ⟨o,ho,fun name=>?_⟩;have e:=hm name;unfold nsFind findBy at e;rw [← Array.find?_toList] at e;unfold PySem.W.lookIn;rw [hd];dsimp only;split
 ·rename_i y q;rw [q] at e;exact congrArg some e
 ·rename_i q;rw [q] at e;have a:es.toList.any (·.refKey)=false:=by
   rw [List.any_eq_false];intro y hy;obtain ⟨z,t,hkey⟩:=hk y (Array.mem_toList_iff.mp hy);simp [DictEntry.refKey,hkey]
  have a':¬ es.toList.any (·.refKey)=true:=by rw [a];exact Bool.false_ne_true
  rw [if_neg a'];exact congrArg some e
theorem KJ.look {h:Heap} {x dx C:Addr} {mA:Str→Option Value} (I:KJ h x dx C mA):∃ od,PySem.W.InstAt h x (PySem.W.instObj C dx) C (some od)∧∀ name,PySem.W.lookIn name od=some (mA name):=
 let ⟨od,ho,hl⟩:=bo I.ns
 ⟨od,⟨I.obj,rfl,rfl,ho⟩,hl⟩
section
variable {prog:Program} {w:World} {A:Around} {E:Value→Shared→Prop} {s:Shared} {K:PySem.W.Frag} {x dx C f:Addr} {mA:Str→Option Value} {name:Str} {v:Value}
theorem yJ {expr:Bool} {Q:Value→Shared→Prop} (X:K.In s.heap) (I:KJ s.heap x dx C mA) (hg:PySem.W.plainGet K C name=true) (hh:PySem.W.hasDictIn K C=true)
  (ha:PySem.W.findIn K (.ref C) name=some none) (hv:mA name=some v) (hv':PySem.W.handedIn v=true) (h:Q v { s with toks:=s.toks + 1 }) :
  wpAny (model prog w) A (getAttr (.ref x) name expr) Q E s:=by
 obtain ⟨od,J,hl⟩:=I.look;exact PySem.W.get_value X J (PySem.W.plainGet_of hg).1 (PySem.W.findObj_own hh ha rfl (by rw [hl,hv])) hv' h
theorem WG {pl:Sem Bool} {Q:Value × List Value→Shared→Prop} (X:K.In s.heap) (I:KJ s.heap x dx C mA) (hg:PySem.W.plainGet K C name=true)
  (hf:PySem.W.findIn K (.ref C) name=some (some (.ref f))) (ht:PySem.W.isFn K (.ref f)=true) (hv:mA name=none) (h:Q (.ref f,[.ref x]) s) :
  wpAny (model prog w) A (getMethod (.ref x) name pl) Q E s:=by
 obtain ⟨od,J,hl⟩:=I.look;exact PySem.W.method_fn X J (PySem.W.plainGet_of hg).1 (PySem.W.plainGet_of hg).2 hf (beq_iff_eq.mp ht) (by show (PySem.W.lookIn name od).map (·.isSome)=some false;rw [hl,hv];rfl) h
theorem JJ {ns:List Str} {Q:Unit→Shared→Prop} (X:K.In s.heap) (I:KJ s.heap x dx C mA)
  (hs:PySem.W.findIn K (.ref C) "__setattr__"=some (some (.builtin "object.__setattr__"))) (hp:PySem.W.plainOver K C=true) (ht:PySem.W.takerIn K C name=some none) (hh:PySem.W.hasDictIn K C=true)
  (hw:PySem.Within mA ns) (hsz:ns.length ≤ sizeLine)
  (h:∀ h',KJ h' x dx C (fun y=>if y=name then some v else mA y)→Heap.SameBut dx s.heap h'→Q () { s with heap:=h',toks:=s.toks + 2 }) :
  wpAny (model prog w) A (setAttr (.ref x) name v) Q E s:=by
 obtain ⟨od,J,hl⟩:=I.look;refine PySem.W.set_plain X J hs (PySem.W.osa_open (s:={ s with toks:=s.toks + 1 }) (r:=none) X J hp ht fun b=>?_);obtain ⟨cd,hc,hd'⟩:=PySem.W.any_some hh;have hx:s.heap.get? x=some ⟨.ref C,some dx,.plain,#[]⟩:=I.obj;refine wpAny_bind (wpAny_pure (wpAny_bind (wpAny_bind (wpAny_loadPart hx (wpAny_bind (PySem.W.Looks.here (s:={ s with toks:=s.toks + 1 }) (PySem.W.looks_clsIn X hc) ?_))))));rw [hd'];refine wpAny_pure (a:=some dx) (wpAny_bind (wpAny_pure (wpAny_bind ?_)));refine wpAny_nsSet1 (s:={ s with toks:=s.toks + 1 }) I.ns fun h' hn2 hs2=>?_
 obtain ⟨oD,esD,epD,hoD,hdD,hcD⟩:=hn2.count (PySem.Within.cons name v hw);refine wpAny_bind (wpAny_lookBehind hoD (by rw [hdD];exact pastItsLine_dict (Nat.le_trans hcD (by rw [List.length_cons];omega))) ?_);exact wpAny_pure (h _ ⟨(hs2.2 _ (Ne.symm I.ne)).trans I.obj,hn2,I.ne⟩ hs2)
theorem gH {R:Result→Shared→Prop} {vs:List Value} {kw:List (Str × Value)} (X:K.In s.heap) (hm:PySem.W.makesIn K C=true)
  (hi:PySem.W.findIn K (.ref C) "__init__"=some (some (.ref f))) (hf:PySem.W.typeIn K (.ref f)=some (.type "function"))
  (h:codeAny (model prog w) (A.under (.builtin "type.__call__" ⟨.ref C :: vs,kw⟩)) (.call (.ref f) ⟨.ref (s.heap.objs.size + 1) :: vs,kw⟩) (PySem.W.InitBack (s.heap.objs.size + 1) R)
   { s with heap:=(s.heap.push PySem.W.emptyDict).push (PySem.W.instObj C s.heap.objs.size) }) :
  codeAny (model prog w) A (.call (.ref C) ⟨vs,kw⟩) R s:=by
 obtain ⟨hh,g,d,t,os⟩:=s;exact PySem.W.make_core (PySem.W.makes_of X hm) (PySem.W.looks_findIn X hi) (fun self=>PySem.W.bind_fn X self hf) (.inl rfl) h
end
noncomputable def Vh (f:Str) (v:V):List (Str × V)→List (Str × V)
 | []=>[(f,v)]
 | (g,x) :: r=>if g=f then (g,v) :: r else (g,x) :: Vh f v r
theorem Tm (f g:Str) (v:V):∀ fs:List (Str × V),(Vh f v fs).lookup g=if g=f then some v else fs.lookup g
 | []=>by
  show List.lookup g [(f,v)]=_;by_cases h:g=f
  ·have hb:(g == f)=true:=beq_iff_eq.mpr h;simp only [List.lookup,hb,if_pos h]
  ·have hb:(g == f)=false:=beq_eq_false_iff_ne.mpr h;simp only [List.lookup,hb,if_neg h]
 | (k,x) :: r=>by
  have ih:=Tm f g v r;rw [show Vh f v ((k,x) :: r)=(if k=f then (k,v) :: r else (k,x) :: Vh f v r) from rfl];by_cases hk:k=f
  ·rw [if_pos hk];by_cases h:g=k
   ·have hb:(g == k)=true:=beq_iff_eq.mpr h;simp only [List.lookup,hb,if_pos (h.trans hk)]
   ·have hb:(g == k)=false:=beq_eq_false_iff_ne.mpr h;simp only [List.lookup,hb,if_neg (fun e:g=f=>h (e.trans hk.symm))]
  ·rw [if_neg hk];by_cases h:g=k
   ·have hb:(g == k)=true:=beq_iff_eq.mpr h;simp only [List.lookup,hb,if_neg (fun e:g=f=>hk (h.symm.trans e))]
   ·have hb:(g == k)=false:=beq_eq_false_iff_ne.mpr h;simp only [List.lookup,hb];exact ih
theorem zl (f:Str) (v:V):∀ fs:List (Str × V),f ∈ (Vh f v fs).map (·.1)∧∀ g,g ∈ fs.map (·.1)→g ∈ (Vh f v fs).map (·.1)
 | []=>⟨by simp [Vh],fun g h=>by simp at h⟩
 | (k,x) :: r=>by
  obtain ⟨i1,i2⟩:=zl f v r;rw [show Vh f v ((k,x) :: r)=(if k=f then (k,v) :: r else (k,x) :: Vh f v r) from rfl];by_cases hk:k=f
  ·rw [if_pos hk];subst hk;exact ⟨by simp,fun g h=>by simpa using h⟩
  ·rw [if_neg hk];refine ⟨?_,fun g h=>?_⟩
   ·rw [List.map_cons];exact List.mem_cons_of_mem _ i1
   ·rw [List.map_cons] at h ⊢;rcases List.mem_cons.mp h with e | e
    ·exact List.mem_cons.mpr (.inl e)
    ·exact List.mem_cons_of_mem _ (i2 g e)
theorem bn (f:Str) (v:V):∀ fs:List (Str × V),(Vh f v fs).length ≤ fs.length + 1
 | []=>by simp [Vh]
 | (k,x) :: r=>by
  have ih:=bn f v r;rw [show Vh f v ((k,x) :: r)=(if k=f then (k,v) :: r else (k,x) :: Vh f v r) from rfl];by_cases hk:k=f
  ·rw [if_pos hk,List.length_cons,List.length_cons];omega
  ·rw [if_neg hk,List.length_cons,List.length_cons];omega
theorem Ms.some_of {v:V} {o:Option Value} (r:Ms (some v) o):∃ u,o=some u∧Jd v u:=by
 cases o with
 | none=>exact (show False from r).elim
 | some u=>exact ⟨u,rfl,r⟩
theorem Ms.none_of {o:Option Value} (r:Ms none o):o=none:=by
 cases o with
 | none=>rfl
 | some u=>exact (show False from r).elim
theorem Qx {v:V} {u:Value} (r:Jd v u):PySem.W.handedIn u=true:=by
 cases v with
 | non=>cases (show u=Value.none from r);rfl
 | bl b=>cases (show u=Value.bool b from r);rfl
 | int i=>obtain ⟨t,e⟩:=(show ∃ t,u=Value.int i t from r);cases e;rfl
 | str x=>obtain ⟨t,e⟩:=(show ∃ t,u=Value.str x t from r);cases e;rfl
 | byt b=>obtain ⟨t,e⟩:=(show ∃ t,u=Value.bytes b t from r);cases e;rfl
 | flt b=>obtain ⟨t,e⟩:=(show ∃ t,u=Value.float b t from r);cases e;rfl
 | ref a=>cases (show u=Value.ref a from r);rfl
 | ty n=>cases (show u=Value.type n from r);rfl
section
variable {P:Program} {w:World} {H H':Hp} {h h':Heap} {a C dx:Addr} {fs fs':List (Str × V)}
theorem Hy (hok:HOk P w H h) (e:H a=some (.ins C dx fs)):∃ mA,KJ h a dx C mA∧(∀ f,Ms (fs.lookup f) (mA f))∧PySem.Within mA (fs.map (·.1))∧fs.length ≤ 1000∧H dx=some (.own a):=by
 obtain ⟨d,z,ne,ob,mA,n,r,q⟩:=(show Xd P w H h a (.ins C dx fs) from hok a _ e);exact ⟨mA,⟨ob,n,ne⟩,r,q,z,d⟩
end
structure Cls (K:PySem.W.Frag) (C:Addr):Prop where
 pg:PySem.W.plainGet K C Str.empty=true
 hd:PySem.W.hasDictIn K C=true
 po:PySem.W.plainOver K C=true
 sa:PySem.W.findIn K (.ref C) "__setattr__"=some (some (.builtin "object.__setattr__"))
theorem Cls.get {K:PySem.W.Frag} {C:Addr} (c:Cls K C) (f:Str):PySem.W.plainGet K C f=true:=c.pg
noncomputable def zb (K:PySem.W.Frag) (C:Addr) (f:Str):Prop:=PySem.W.findIn K (.ref C) f=some none
theorem zb.taker {K:PySem.W.Frag} {C:Addr} {f:Str} (n:zb K C f):PySem.W.takerIn K C f=some none:=by
 unfold PySem.W.takerIn;rw [show PySem.W.findIn K (.ref C) f=some none from n];rfl
structure Con (K:PySem.W.Frag) (C:Addr) (f:Str) (v:V) (u:Value):Prop where
 at_:PySem.W.findIn K (.ref C) f=some (some u)
 rel:Jd v u
 get:PySem.W.specialIn K u "__get__"=some none
 cp:PySem.W.copiedNames.contains f=false
structure Zk (K:PySem.W.Frag) (C:Addr) (m:Str) (f:Addr):Prop where
 at_:PySem.W.findIn K (.ref C) m=some (some (.ref f))
 fn:PySem.W.isFn K (.ref f)=true
 kp:PySem.W.keepIn K (.ref f)=true
section
variable {X:Cx} {pins:List (Addr × Obj)} {σ:St} {H:Hp} {s:Shared} {a C dx:Addr} {fs:List (Str × V)} {f:Str} {v:V} {A:Around} {E:Value→Shared→Prop}
theorem xu {b:Bool} {Q:Value→Shared→Prop} (I:Inv X pins σ H s) (e:H a=some (.ins C dx fs)) (c:Cls X.K C) (n:zb X.K C f) (l:fs.lookup f=some v)
  (h:∀ u s',Inv X pins σ H s'→Jd v u→Q u s'):wpAny (model X.prog X.w) A (getAttr (.ref a) f b) Q E s:=by
 obtain ⟨mA,O,r,_,_,_⟩:=Hy I.hok e;obtain ⟨u,hu,ru⟩:=Ms.some_of (v:=v) (o:=mA f) (by rw [← l];exact r f);exact yJ I.kIn O (c.get f) c.hd n hu (Qx ru) (h u _ (I.tok _) ru)
theorem Oo {m:Str} {g:Addr} {pl:Sem Bool} {Q:Value × List Value→Shared→Prop} (I:Inv X pins σ H s) (e:H a=some (.ins C dx fs)) (c:Cls X.K C) (k:Zk X.K C m g) (l:fs.lookup m=none)
  (h:Q (.ref g,[.ref a]) s):wpAny (model X.prog X.w) A (getMethod (.ref a) m pl) Q E s:=by
 obtain ⟨mA,O,r,_,_,_⟩:=Hy I.hok e;have hn:mA m=none:=Ms.none_of (by rw [← l];exact r m);exact WG I.kIn O (c.get m) k.at_ k.fn hn h
theorem Su {y:V} {u:Value} {Q:Unit→Shared→Prop} (I:Inv X pins σ H s) (e:H a=some (.ins C dx fs)) (c:Cls X.K C) (n:zb X.K C f) (hl:fs.length < 1000) (ry:Jd y u)
  (h:∀ s',Inv X pins σ (upd H a (.ins C dx (Vh f y fs))) s'→Q () s'):wpAny (model X.prog X.w) A (setAttr (.ref a) f u) Q E s:=by
 obtain ⟨mA,O,r,wi,_,ho⟩:=Hy I.hok e;have hz:(fs.map (·.1)).length ≤ sizeLine:=by rw [List.length_map,sizeLine_eq];omega
 refine JJ I.kIn O c.sa c.po n.taker c.hd wi hz fun h' O' sb=>h _ ?_
 have hd:∃ o,h'.get? dx=some o:=let ⟨o,_,_,e',_⟩:=O'.ns;⟨o,e'⟩;refine I.write (x:=a) (e:=dx) (by rw [e];exact True.intro) (.inr ho) (fun b q hb z=>(sb.2 b hb).trans z) hd ?_;refine ⟨by rw [rb O.ne];exact ho,?_,O.ne,O'.obj,_,O'.ns,fun g=>?_,fun g hg=>?_⟩
 ·have:=bn f y fs;omega
 ·show Ms ((Vh f y fs).lookup g) (if g=f then some u else mA g);rw [Tm];by_cases q:g=f
  ·rw [if_pos q,if_pos q];exact ry
  ·rw [if_neg q,if_neg q];exact r g
 ·by_cases q:g=f
  ·rw [q];exact (zl f y fs).1
  ·refine (zl f y fs).2 g (wi g fun z=>hg ?_);show (if g=f then some u else mA g)=none;rw [if_neg q];exact z
theorem Inv.made (I:Inv X pins σ H s):Inv X pins σ (upd (upd H s.heap.objs.size (.own (s.heap.objs.size + 1))) (s.heap.objs.size + 1) (.ins C s.heap.objs.size []))
  { s with heap:=(s.heap.push PySem.W.emptyDict).push (PySem.W.instObj C s.heap.objs.size) }:=by
 have e1:(s.heap.push PySem.W.emptyDict).get? s.heap.objs.size=some PySem.W.emptyDict:=Heap.get?_push_size s.heap rfl;have e2:((s.heap.push PySem.W.emptyDict).push (PySem.W.instObj C s.heap.objs.size)).get? (s.heap.objs.size + 1)=some (PySem.W.instObj C s.heap.objs.size):=by
  have:=Heap.get?_push_size (s.heap.push PySem.W.emptyDict) (o:=PySem.W.instObj C s.heap.objs.size) rfl;rwa [Heap.size_push] at this
 have e3:(s.heap.push PySem.W.emptyDict).Ns s.heap.objs.size (fun _=>none):=⟨PySem.W.emptyDict,#[],_,e1,rfl,(fun e he=>absurd he (by simp)),fun _=>rfl⟩;have I1:=I.laid (a:=s.heap.objs.size) (o:=.own (s.heap.objs.size + 1)) (h':=s.heap.push PySem.W.emptyDict) (t':=s.toks) (fun b u q=>Heap.get?_push_of_some _ q) (Nat.le_refl _) ⟨_,e1⟩;refine I1.laid (a:=s.heap.objs.size + 1) (o:=.ins C s.heap.objs.size []) (t':=s.toks) (fun b u q=>Heap.get?_push_of_some _ q) (Nat.le_of_eq (Heap.size_push _ _)) ?_;have ne:s.heap.objs.size ≠ s.heap.objs.size + 1:=Nat.ne_of_lt (Nat.lt_succ_self _);refine ⟨by rw [rb ne,cb],Nat.zero_le _,ne,e2,fun _=>none,(Heap.Ns1.of_empty e3).at fun o q=>Heap.get?_push_of_some _ q,fun _=>True.intro,fun y hy=>absurd rfl hy⟩
theorem yE {prog:Program} {w:World} {env:Env} {e:Expr} {f:Str} {pos:Pos} {s:Shared} {Q:Value→Shared→Prop} (hb:attributeBase e f env (eval e env)=eval e env)
  (h:wpAny (model prog w) A (eval e env) (fun o s₁=>wpAny (model prog w) A (getAttr o f true) Q E s₁) E s):wpAny (model prog w) A (eval (.Attribute e f pos) env) Q E s:=
 Attribute_any_ h (by rw [arm_eval_Attribute,hb])
end
noncomputable def vk (K:PySem.W.Frag) (H:Hp) (a:Addr) (f:Str) (v:V):Prop:=∃ C dx fs,H a=some (.ins C dx fs)∧Cls K C∧zb K C f∧fs.lookup f=some v
noncomputable def vO (K:PySem.W.Frag) (ta:TE) (f:Str):TE:=fun σ H Q=>ta σ H fun x H1=>lj x fun a=>∃ v,vk K H1 a f v∧Q v H1
noncomputable def bO (K:PySem.W.Frag) (ta tv:TE) (f:Str):TS:=fun D σ H=>tv σ H fun y H1=>ta σ H1 fun x H2=>lj x fun a=>∃ C dx fs,H2 a=some (.ins C dx fs)∧Cls K C∧zb K C f∧fs.length < 1000 ∧
 D.nx σ (upd H2 a (.ins C dx (Vh f y fs)))
noncomputable def jO (X:Cx) (op:Operator) (rd:V→V→Hp→VK→Prop):Prop:=
 ∀ (pins:List (Addr × Obj)) (s:Shared) (σ:St) (H:Hp) (x y:V) (u v:Value) (Q:VK),Inv X pins σ H s→Jd x u→Jd y v→rd x y H Q→wpAny (model X.prog X.w) X.A (inplaceOp op u v) (EP X pins σ Q) X.xe s
noncomputable def bG (K:PySem.W.Frag) (ta tv:TE) (rd:V→V→Hp→VK→Prop) (f:Str):TS:=fun D σ H=>ta σ H fun x H1=>∃ a C dx fs v,x=.ref a∧H1 a=some (.ins C dx fs)∧Cls K C∧zb K C f∧fs.lookup f=some v ∧
 tv σ H1 fun y H2=>rd v y H2 fun z H3=>∃ dx' fs',H3 a=some (.ins C dx' fs')∧fs'.length < 1000∧D.nx σ (upd H3 a (.ins C dx' (Vh f z fs')))
section
variable {X:Cx} {o e value:Expr} {f:Str} {pos pos' tpos:Pos} {ta tv:TE}
theorem Rc (he:PE X e ta) (hb:attributeBase e f X.env (eval e X.env)=eval e X.env):PE X (.Attribute e f pos) (vO X.K ta f):=by
 intro pins s σ H Q I h;refine yE hb (thn (he pins s σ H _ I h) fun u s1 hZ1=>?_);obtain ⟨x,H1,I1,rx,zq⟩:=hZ1;obtain ⟨a,ex,v,⟨C,dx,fs,ea,c,n,l⟩,q⟩:=lj.out zq;subst ex;obtain rfl:u=Value.ref a:=rx;exact xu I1 ea c n l fun u' s2 I2 ru=>⟨v,H1,I2,ru,q⟩
theorem Kg (ha:PE X o ta) (hv:PE X value tv) (hs:swapsWith value (some (.Attribute o f pos')) pos.line X.env=pure false):PS X (.Assign [.Attribute o f pos'] value pos) (bO X.K ta tv f):=by
 intro pins s σ H D I h;refine plainObj_wpAny_Assign_Attribute (thn (hv pins s σ H _ I h) fun u s1 ⟨y,H1,I1,ry,q⟩=>thn (ha pins s1 σ H1 _ I1 q) fun ov s2 hZ1=>?_) hs;obtain ⟨x,H2,I2,rx,zq⟩:=hZ1;obtain ⟨a,ex,C,dx,fs,ea,c,n,l,q2⟩:=lj.out zq;subst ex;obtain rfl:ov=Value.ref a:=rx;exact Su I2 ea c n l ry fun s3 I3=>⟨σ,_,I3,q2⟩
theorem Rw {op:Operator} {rd:V→V→Hp→VK→Prop} (ha:PE X o ta) (hv:PE X value tv) (hop:jO X op rd):PS X (.AugAssign (.Attribute o f tpos) op value pos) (bG X.K ta tv rd f):=by
 intro pins s σ H D I h;refine wpAny_AugAssign_AttributeAny (thn (ha pins s σ H _ I h) fun ov s1 hZ1=>?_);obtain ⟨x,H1,I1,rx,a,C,dx,fs,v,ex,ea,c,n,l,q⟩:=hZ1;subst ex;obtain rfl:ov=Value.ref a:=rx;refine xu I1 ea c n l fun u s2 I2 ru=>thn (hv pins s2 σ H1 _ I2 q) fun w3 s3 ⟨y,H2,I3,ry,q3⟩=>thn (hop pins s3 σ H2 v y u w3 _ I3 ru ry q3) fun w4 s4 hZ1=>?_
 obtain ⟨z,H3,I4,rz,dx',fs',ea',l',q4⟩:=hZ1;exact Su I4 ea' c n l' rz fun s5 I5=>⟨σ,_,I5,q4⟩
noncomputable def mO:V→V→Hp→VK→Prop:=fun x y H Q=>∃ i j,x=.int i∧y=.int j∧Q (.int (i + j)) H
theorem qI:jO X .Add mO:=by
 rintro pins s σ H x y u v Q I rx ry ⟨i,j,rfl,rfl,q⟩;obtain ⟨t,rfl⟩:=(show ∃ t,u=Value.int i t from rx);obtain ⟨t',rfl⟩:=(show ∃ t',v=Value.int j t' from ry);exact PyProof.Rows.iadd_int ⟨.int (i + j),H,I.tok _,⟨_,rfl⟩,q⟩
end
section
variable {X:Cx} {pins:List (Addr × Obj)} {σ:St} {H:Hp} {s:Shared} {A:Around} {E:Value→Shared→Prop} {Q:Value→Shared→Prop} {c:Value} {b:Bool}
inductive GC (K:PySem.W.Frag) (H:Hp):V→Value→Prop where
 | non:GC K H .non (.type "NoneType")
 | bl (x:Bool):GC K H (.bl x) (.type "bool")
 | int (i:Int):GC K H (.int i) (.type "int")
 | str (x:Str):GC K H (.str x) (.type "str")
 | flt (x:UInt64):GC K H (.flt x) (.type "float")
 | lst {a:Addr} {xs:List V} (e:H a=some (.lst xs)):GC K H (.ref a) (.type "list")
 | frz {a:Addr} {o:Obj} {xs:List V} (e:H a=some (.frz o (.lst xs))):GC K H (.ref a) (.type "list")
 | tup {a:Addr} {xs:List V} (e:H a=some (.tup xs)):GC K H (.ref a) (.type "tuple")
 | dK {a:Addr} {kvs:List (Key × V)} (e:H a=some (.dK kvs)):GC K H (.ref a) (.type "dict")
 | dT {a:Addr} {kvs:List (List Key × V)} (e:H a=some (.dT kvs)):GC K H (.ref a) (.type "dict")
 | ins {a C dx:Addr} {fs:List (Str × V)} (e:H a=some (.ins C dx fs)) (cl:Cls K C) (ha:PySem.W.findIn K (.ref C) "__class__"=some (some (.builtin "object.__class__")))
   (hn:PySem.W.specialIn K (.builtin "object.__class__") "__get__"=some (some (.builtin "getset_descriptor.__get__"))) (htk:PySem.W.takesIn K (.builtin "object.__class__")=some true)
   (hm:PySem.W.mroIn K C (.type "object")=some true):GC K H (.ref a) (.ref C)
end
end L2
namespace L2
open PySem PySem.Spec PyProof.Rows
structure Ni (k:Nat) (A:Around):Prop where
 hd:A.handled=none
 dp:A.depth + 3 * k + 5 < recursionLimit
 un:A.units + 16 * k + 200 < cLine
theorem Ni.mono {j k:Nat} {A:Around} (r:Ni k A) (h:j ≤ k):Ni j A:=⟨r.hd,by have:=r.dp;omega,by have:=r.un;omega⟩
theorem Ni.deeper {k:Nat} {A:Around} (r:Ni (k + 1) A) (env:Env):Ni k (A.deeper env):=
 ⟨r.hd,by have:=r.dp;show A.depth + 1 + 3 * k + 5 < _;omega,by have:=r.un;show A.units + 3 + 16 * k + 200 < _;omega⟩
theorem Ni.in1 {k:Nat} {A:Around} (r:Ni (k + 1) A):Ni k A.in1:=
 ⟨r.hd,by have:=r.dp;show A.depth + 3 * k + 5 < _;omega,by have:=r.un;show A.units + 1 + 16 * k + 200 < _;omega⟩
theorem EB {A:Around} {C:Addr} {us:List Value} {kw:List (Str × Value)}:(A.under (.builtin "type.__call__" ⟨.ref C :: us,kw⟩)).depth=A.depth + 1:=by
 first | rfl | simp [Around.under,Code.weight,Code.isCreation,Code.isGuard,Code.isCaller,Code.frames,Code.isFrame,guardIds]
theorem dC {A:Around} {C:Addr} {us:List Value} {kw:List (Str × Value)}:(A.under (.builtin "type.__call__" ⟨.ref C :: us,kw⟩)).units=A.units + 1:=by
 first | rfl | simp [Around.under,Code.cUnits,Code.frames,Code.isFrame]
theorem Ni.make {k:Nat} {A:Around} (r:Ni (k + 1) A) (C:Addr) (us:List Value) (kw:List (Str × Value)):Ni k (A.under (.builtin "type.__call__" ⟨.ref C :: us,kw⟩)):=
 ⟨r.hd,by have:=r.dp;rw [EB];omega,by have:=r.un;rw [dC];omega⟩
theorem Ni.depth {k:Nat} {A:Around} (r:Ni k A):A.depth < recursionLimit:=by have:=r.dp;omega
theorem Ni.units {k:Nat} {A:Around} (r:Ni k A):A.units + 64 < cLine:=by have:=r.un;omega
noncomputable def SM:TA:=fun _ H Q=>Q [] H
noncomputable def ZK (ta:TE) (tr:TA):TA:=fun σ H Q=>ta σ H fun x H1=>tr σ H1 fun xs H2=>Q (x :: xs) H2
section
variable {X:Cx} {e:Expr} {es:List Expr} {te:TE} {t:TA} {pos:Pos}
theorem fb:PA X [] SM:=fun _ _ _ _ H Q I h=>Calls.spliced_nil ⟨[],H,I,.nil,h⟩
theorem bb (ha:PE X e te) (hr:PA X es t) (hs:starEach (e :: es) X.env=(false,eval e X.env) :: starEach es X.env:=by rfl):PA X (e :: es) (ZK te t):=by
 intro pos pins s σ H Q I h;rw [hs];show wpAny _ _ (spliced ((false,eval e X.env) :: backTo pos (starEach es X.env))) _ _ s;refine Calls.spliced_cons (thn (ha pins s σ H _ I h) fun u s1 hZ1=>?_);obtain ⟨x,H1,I1,r1,q1⟩:=hZ1;exact thn (hr pos pins s1 σ H1 _ I1 q1) fun us s2 ⟨xs,H2,I2,r2,q2⟩=>⟨x :: xs,H2,I2,.cons r1 r2,q2⟩
noncomputable def oO (t:TA):TE:=fun σ H Q=>t σ H fun xs H1=>xs.length ≤ sizeLine∧∀ p,H1 p=none→Q (.ref p) (upd H1 p (.tup xs))
noncomputable def nO (t:TA):TE:=fun σ H Q=>t σ H fun xs H1=>xs.length ≤ sizeLine∧∀ p,H1 p=none→Q (.ref p) (upd H1 p (.lst xs))
theorem mj {x1} (h:PA X es t):PE X (.Tuple es x1 pos) (oO t):=by
 intro pins s σ H Q I hq;refine wpAny_Tuple_spliced (thn (h pos pins s σ H _ I hq) fun us s1 ⟨xs,H1,I1,r,z,q⟩=>⟨by rw [← r.length];exact z,?_⟩);have hf:H1 s1.heap.objs.size=none:=I1.hok.fresh (Nat.le_refl _);refine ⟨.ref s1.heap.objs.size,upd H1 s1.heap.objs.size (.tup xs),I1.laid (t':=s1.toks) (fun b u e=>Heap.get?_push_of_some _ e) (Nat.le_refl _) ?_,rfl,q _ hf⟩;exact ⟨⟨z,_,Heap.get?_push_size _ rfl,rfl⟩,us,r,⟨_,Heap.get?_push_size _ rfl,rfl,_,rfl⟩⟩
theorem Hg (h:PA X es t):PE X (.List es pos) (nO t):=by
 intro pins s σ H Q I hq;refine wpAny_List_spliced (thn (h pos pins s σ H _ I hq) fun us s1 ⟨xs,H1,I1,r,z,q⟩=>⟨by rw [← r.length];exact z,?_⟩);have hf:H1 s1.heap.objs.size=none:=I1.hok.fresh (Nat.le_refl _);refine ⟨.ref s1.heap.objs.size,upd H1 s1.heap.objs.size (.lst xs),I1.laid (t':=s1.toks) (fun b u e=>Heap.get?_push_of_some _ e) (Nat.le_refl _) ?_,rfl,q _ hf⟩;exact ⟨z,us,0,r,Heap.get?_push_size _ rfl⟩
end
noncomputable abbrev Sp:=List V→Hp→VK→XK→Prop
noncomputable abbrev CXT:=List Env→Hp→Shared→XK→Value→Shared→Prop
structure NB (P:Program) (w:World) (K:PySem.W.Frag) (mg:Str→Option Value) (base:Heap) (A:Around) (outer:List Env) (s:Shared) (H:Hp):Prop where
 frames:A.frames=some outer
 mod:Mod K mg base
 bs:∀ b o,base.get? b=some o→s.heap.get? b=some o∧H b=none
 bsz:base.objs.size ≤ s.heap.objs.size
 funs:s.heap.FunFrames base outer
 frf:∀ b ∈ frs outer,H b=none
 hok:HOk P w H s.heap
 bare:AllBare s.gens
noncomputable def CE (outer:List Env) (P:Program) (w:World) (H:Hp) (s:Shared) (Q:VK) (u:Value) (s':Shared):Prop:=
 ∃ v H',s'.os=s.os∧AllBare s'.gens∧Un (frs outer) [] H H' s.heap s'.heap∧HOk P w H' s'.heap∧Jd v u∧Q v H'
noncomputable def CR (CX:CXT) (outer:List Env) (P:Program) (w:World) (H:Hp) (s:Shared) (Q:VK) (E:XK) (r:Result) (s':Shared):Prop:=
 match r with
 | .ok (.ret u)=>CE outer P w H s Q u s'
 | .ok _=>False
 | .error e=>CX outer H s E e s'
structure Kb (P:Program) (w:World) (K:PySem.W.Frag) (mg:Str→Option Value) (base:Heap) (CX:CXT) (k:Nat) (f:Addr) (fd:FuncData) (ps:List Str) (sp:Sp):Prop where
 len:∀ vs H Q E,sp vs H Q E→vs.length=ps.length
 run:∀ (A:Around) (outer:List Env) (s:Shared) (H:Hp) (args:Args) (us:List Value) (vs:List V) (Q:VK) (E:XK),Ni k A→NB P w K mg base A outer s H→BindsTo s fd args (ps.zip us)→Dd vs us→sp vs H Q E →
  codeAny (model P w) A (.call (.ref f) args) (CR CX outer P w H s Q E) s
theorem Kb.mono {P:Program} {w:World} {K:PySem.W.Frag} {mg:Str→Option Value} {base:Heap} {CX:CXT} {j k:Nat} {f:Addr} {fd:FuncData} {ps:List Str} {sp:Sp} (F:Kb P w K mg base CX j f fd ps sp) (h:j ≤ k) :
  Kb P w K mg base CX k f fd ps sp:=⟨F.len,fun A outer s H args us vs Q E hr=>F.run A outer s H args us vs Q E (hr.mono h)⟩
theorem Kb.imp {P:Program} {w:World} {K:PySem.W.Frag} {mg:Str→Option Value} {base:Heap} {CX:CXT} {k:Nat} {f:Addr} {fd:FuncData} {ps:List Str} {sp sp':Sp} (F:Kb P w K mg base CX k f fd ps sp)
  (h:∀ vs H Q E,sp' vs H Q E→sp vs H Q E):Kb P w K mg base CX k f fd ps sp':=
 ⟨fun vs H Q E q=>F.len vs H Q E (h _ _ _ _ q),fun A outer s H args us vs Q E hr he hb hv hs=>F.run A outer s H args us vs Q E hr he hb hv (h _ _ _ _ hs)⟩
theorem NB.make {P:Program} {w:World} {K:PySem.W.Frag} {mg:Str→Option Value} {base:Heap} {A:Around} {outer:List Env} {s:Shared} {H:Hp} (e:NB P w K mg base A outer s H) (C:Addr) (us:List Value) (kw:List (Str × Value)) :
  NB P w K mg base (A.under (.builtin "type.__call__" ⟨.ref C :: us,kw⟩)) outer s H:=⟨by first | exact e.frames | (simpa [Around.under,Code.envs,Code.isFrame,pushEnvs] using e.frames),e.mod,e.bs,e.bsz,e.funs,e.frf,e.hok,e.bare⟩
theorem NB.in1 {P:Program} {w:World} {K:PySem.W.Frag} {mg:Str→Option Value} {base:Heap} {A:Around} {outer:List Env} {s:Shared} {H:Hp} (e:NB P w K mg base A outer s H) :
  NB P w K mg base A.in1 outer s H:=⟨e.frames,e.mod,e.bs,e.bsz,e.funs,e.frf,e.hok,e.bare⟩
section
variable {X:Cx} {pins:List (Addr × Obj)} {σ:St} {H:Hp} {s s':Shared}
theorem Inv.env0 (I:Inv X pins σ H s):NB X.prog X.w X.K X.mg X.base X.A X.stack s H:=
 ⟨I.ok.frames,I.ok.mod,I.bs,Nat.le_trans I.ok.bsz I.sz,I.stack,I.stkFree,I.hok,I.bare⟩
theorem Inv.after {Q:VK} {u:Value} (I:Inv X pins σ H s) (h:CE X.stack X.prog X.w H s Q u s'):EP X pins σ Q u s':=by
 obtain ⟨v,H',os,bare,un,hok,r,q⟩:=h;obtain ⟨hh,g,d,t,os'⟩:=s';obtain rfl:os'=s.os:=os;exact ⟨v,H',I.call (h':=hh) (g':=g) (d':=d) (t':=t) (ch:=[]) un hok bare (fun b z=>absurd z (by simp)),r,q⟩
end
noncomputable def DF (sp:Sp) (dvs:List V) (E:XK) (t:TA):TE:=fun σ H Q=>t σ H fun vs H1=>sp (vs ++ dvs) H1 Q E
noncomputable def LJ (C:Addr) (m:Str) (sp:Sp) (dvs:List V) (E:XK) (ta:TE) (t:TA):TE:=fun σ H Q=>ta σ H fun x H1=>lj x fun a=>∃ dx fs,H1 a=some (.ins C dx fs)∧fs.lookup m=none ∧
 t σ H1 fun vs H2=>sp (x :: (vs ++ dvs)) H2 Q E
noncomputable def gL (C:Addr) (sp:Sp) (dvs:List V) (E:XK) (t:TA):TE:=fun σ H Q=>t σ H fun vs H1=>∀ x dx,H1 x=none→H1 dx=none→dx ≠ x →
 sp (.ref x :: (vs ++ dvs)) (upd (upd H1 dx (.own x)) x (.ins C dx [])) (fun v H2=>v=.non∧Q (.ref x) H2) E
noncomputable def Zb (K:PySem.W.Frag) (fd:FuncData) (ps:List Str) (ds:List Value):Prop:=
 ∀ (s:Shared) (us:List Value),K.In s.heap→(us ++ ds).length=ps.length→BindsTo s fd ⟨us,[]⟩ (ps.zip (us ++ ds))
theorem Zb.all {K:PySem.W.Frag} {fd:FuncData} {ps:List Str} (h:∀ us:List Value,us.length=ps.length→bindArgs fd ⟨us,[]⟩=pure (ps.zip us)):Zb K fd ps []:=fun s us _ hl=>by
 rw [List.append_nil] at hl ⊢;exact .of_eq (h us hl)
noncomputable def Vk (CX:CXT) (X:Cx) (E:XK):Prop:=∀ (pins:List (Addr × Obj)) (σ:St) (H:Hp) (s:Shared) (e:Value) (s':Shared),Inv X pins σ H s→CX X.stack H s E e s'→X.xe e s'
section
variable {X:Cx} {CX:CXT} {k:Nat} {f C:Addr} {fd:FuncData} {ps:List Str} {sp:Sp} {dvs:List V} {ds:List Value} {E:XK} {x m:Str} {p pos apos:Pos} {e o:Expr} {es:List Expr} {ta:TE} {t:TA}
theorem Ow {pins:List (Addr × Obj)} {σ:St} {H:Hp} {s:Shared} {Q:VK} {us:List Value} {vs:List V} (F:Kb X.prog X.w X.K X.mg X.base CX k f fd ps sp) (hr:Ni k X.A) (hb:Zb X.K fd ps ds) (hd:Dd dvs ds) (hx:Vk CX X E)
  (I:Inv X pins σ H s) (r:Dd vs us) (h:sp (vs ++ dvs) H Q E):wpAny (model X.prog X.w) X.A (call (.ref f) us) (EP X pins σ Q) X.xe s:=by
 have r2:Dd (vs ++ dvs) (us ++ ds):=r.append hd;have hl:(us ++ ds).length=ps.length:=by rw [← r2.length];exact F.len _ _ _ _ h
 refine wpAny_call (codeAny_mono (F.run X.A X.stack s H ⟨us,[]⟩ (us ++ ds) (vs ++ dvs) Q E hr I.env0 (hb s us I.kIn hl) r2 h) fun r s' hq=>?_);cases r with
 | error e=>exact hx pins σ H s e s' I hq
 | ok fl=>
  cases fl with
  | ret u=>exact I.after hq
  | next=>exact False.elim hq
  | brk=>exact False.elim hq
  | cont=>exact False.elim hq
theorem Ol (F:Kb X.prog X.w X.K X.mg X.base CX k f fd ps sp) (hr:Ni k X.A) (hg:Gl X x) (hm:X.mg x=some (.ref f)) (hk:PySem.W.keepIn X.K (.ref f)=true) (hb:Zb X.K fd ps ds) (hd:Dd dvs ds) (hx:Vk CX X E)
  (ha:PA X (e :: es) t) (hdb:(x == ("__debug__" : Str))=false:=by decide) (he:starEach (e :: es) X.env=(false,eval e X.env) :: starEach es X.env:=by rfl) (hpl:(backTo pos (starEach es X.env)).any (·.1)=false:=by rfl) :
  PE X (.Call (.Name x p) (e :: es) [] pos) (DF sp dvs E t):=by
 intro pins s σ H Q I h;refine wpAny_Call_Name_kw (wk I hg hm ?_ hdb);refine PySem.W.callWith_K (h₀:=X.base) I.ok.mod.kin hk (thn (ha pos pins s σ H _ I h) fun us s1 ⟨vs,H1,I1,r,q⟩=>⟨I1.kIn,?_⟩) he hpl;exact Ow F hr hb hd hx I1 r q
theorem bd {pl:Sem Bool} (he:PE X o ta) (c:Cls X.K C) (hm:Zk X.K C m f) (F:Kb X.prog X.w X.K X.mg X.base CX k f fd ps sp) (hr:Ni k X.A) (hb:Zb X.K fd ps ds) (hd:Dd dvs ds) (hx:Vk CX X E) (ha:PA X (e :: es) t)
  (hst:starEach (e :: es) X.env=(false,eval e X.env) :: starEach es X.env:=by rfl) (hpl:(backTo pos (starEach es X.env)).any (·.1)=false:=by rfl)
  (ht:eval (.Call (.Attribute o m apos) (e :: es) [] pos) X.env=(do
   let ov ← eval o X.env
   standAt apos.atName
   let (f,first) ← holding [ov] (getMethod ov m pl)
   callWith pos f first (backTo pos (starEach (e :: es) X.env)) (backToKw pos (keywordEach [] X.env))):=by rfl) :
  PE X (.Call (.Attribute o m apos) (e :: es) [] pos) (LJ C m sp dvs E ta t):=by
 intro pins s σ H Q I h;refine PySem.W.methodCall_KW (pl:=pl) (thn (he pins s σ H _ I h) fun u s1 hZ1=>?_) ht;obtain ⟨x,H1,I1,rx,zq⟩:=hZ1;obtain ⟨a,ex,dx,fs,ea,l,q⟩:=lj.out zq;subst ex;obtain rfl:u=Value.ref a:=rx;refine Oo I1 ea c hm l ?_;refine PySem.W.callWith_K (first:=[.ref a]) (h₀:=X.base) I.ok.mod.kin hm.kp (thn (ha pos pins s1 σ H1 _ I1 q) fun us s2 ⟨vs,H2,I2,r,q2⟩=>⟨I2.kIn,?_⟩) hst hpl;exact Ow (us:=.ref a :: us) (vs:=.ref a :: vs) F hr hb hd hx I2 (.cons rfl r) q2
theorem Fd {pl:Sem Bool} (he:PE X o ta) (c:Cls X.K C) (hm:Zk X.K C m f) (F:Kb X.prog X.w X.K X.mg X.base CX k f fd ps sp) (hr:Ni k X.A) (hb:Zb X.K fd ps ds) (hd:Dd dvs ds) (hx:Vk CX X E)
  (ht:eval (.Call (.Attribute o m apos) [] [] pos) X.env=(do
   let ov ← eval o X.env
   standAt apos.atName
   let (f,first) ← holding [ov] (getMethod ov m pl)
   callWith pos f first (backTo pos (starEach [] X.env)) (backToKw pos (keywordEach [] X.env))):=by rfl) :
  PE X (.Call (.Attribute o m apos) [] [] pos) (LJ C m sp dvs E ta SM):=by
 intro pins s σ H Q I h;refine PySem.W.methodCall_KW (pl:=pl) (thn (he pins s σ H _ I h) fun u s1 hZ1=>?_) ht;obtain ⟨x,H1,I1,rx,zq⟩:=hZ1;obtain ⟨a,ex,dx,fs,ea,l,q⟩:=lj.out zq;subst ex;obtain rfl:u=Value.ref a:=rx;refine Oo I1 ea c hm l ?_;exact PySem.W.callWith_K0 (first:=[.ref a]) I1.kIn hm.kp (Ow (us:=[.ref a]) (vs:=[.ref a]) F hr hb hd hx I1 (.cons rfl .nil) q)
structure Mk (K:PySem.W.Frag) (C f:Addr):Prop where
 makes:PySem.W.makesIn K C=true
 init:PySem.W.findIn K (.ref C) "__init__"=some (some (.ref f))
 fn:PySem.W.isFn K (.ref f)=true
 kp:PySem.W.keepIn K (.ref C)=true
theorem MG {pins:List (Addr × Obj)} {σ:St} {H:Hp} {s:Shared} {Q:VK} {us:List Value} {vs:List V} (M:Mk X.K C f) (F:Kb X.prog X.w X.K X.mg X.base CX k f fd ps sp) (hr:Ni (k + 1) X.A) (hb:Zb X.K fd ps ds) (hd:Dd dvs ds)
  (hx:Vk CX X E) (I:Inv X pins σ H s) (r:Dd vs us)
  (h:∀ x dx,H x=none→H dx=none→dx ≠ x→sp (.ref x :: (vs ++ dvs)) (upd (upd H dx (.own x)) x (.ins C dx [])) (fun v H2=>v=.non∧Q (.ref x) H2) E) :
  wpAny (model X.prog X.w) X.A (call (.ref C) us) (EP X pins σ Q) X.xe s:=by
 have hq:=h (s.heap.objs.size + 1) s.heap.objs.size (I.hok.fresh (Nat.le_succ _)) (I.hok.fresh (Nat.le_refl _)) (Nat.ne_of_lt (Nat.lt_succ_self _));have I2:=Inv.made (C:=C) I;have r2:Dd (V.ref (s.heap.objs.size + 1) :: (vs ++ dvs)) (Value.ref (s.heap.objs.size + 1) :: (us ++ ds)):=.cons rfl (r.append hd);have hl:(Value.ref (s.heap.objs.size + 1) :: us ++ ds).length=ps.length:=by
  have e:=r2.length;rw [F.len _ _ _ _ hq] at e;exact e.symm
 refine wpAny_call (gH (f:=f) I.kIn M.makes M.init (beq_iff_eq.mp M.fn) (codeAny_mono (F.run _ X.stack _ _ ⟨Value.ref (s.heap.objs.size + 1) :: us,[]⟩ (Value.ref (s.heap.objs.size + 1) :: (us ++ ds)) _ _ E (hr.make C us [])
  (I2.env0.make C us []) (hb _ (Value.ref (s.heap.objs.size + 1) :: us) I2.kIn hl) r2 hq) fun r s' hq'=>?_))
 cases r with
 | error e=>exact hx pins σ _ _ e s' I2 hq'
 | ok fl=>
  cases fl with
  | ret u=>
   obtain ⟨v,H',I3,rv,ev,q3⟩:=I2.after hq';subst ev;exact ⟨rv,⟨V.ref (s.heap.objs.size + 1),H',I3,rfl,q3⟩⟩
  | next=>exact False.elim hq'
  | brk=>exact False.elim hq'
  | cont=>exact False.elim hq'
theorem Qo (M:Mk X.K C f) (F:Kb X.prog X.w X.K X.mg X.base CX k f fd ps sp) (hr:Ni (k + 1) X.A) (hg:Gl X x) (hm:X.mg x=some (.ref C)) (hb:Zb X.K fd ps ds) (hd:Dd dvs ds) (hx:Vk CX X E)
  (ha:PA X (e :: es) t) (hdb:(x == ("__debug__" : Str))=false:=by decide) (he:starEach (e :: es) X.env=(false,eval e X.env) :: starEach es X.env:=by rfl) (hpl:(backTo pos (starEach es X.env)).any (·.1)=false:=by rfl) :
  PE X (.Call (.Name x p) (e :: es) [] pos) (gL C sp dvs E t):=by
 intro pins s σ H Q I h;refine wpAny_Call_Name_kw (wk I hg hm ?_ hdb);refine PySem.W.callWith_K (h₀:=X.base) I.ok.mod.kin M.kp (thn (ha pos pins s σ H _ I h) fun us s1 ⟨vs,H1,I1,r,q⟩=>⟨I1.kIn,?_⟩) he hpl;exact MG M F hr hb hd hx I1 r q
end
section
variable {X:Cx} {CX:CXT} {k:Nat} {f C:Addr} {fd:FuncData} {ps ks:List Str} {sp:Sp} {E:XK} {x m:Str} {p pos apos kpos:Pos} {e o:Expr} {es:List Expr} {kws:List Keyword} {te ta:TE} {t tk:TA} {nm:Option Str}
structure WN (K:PySem.W.Frag) (fd:FuncData) (ps ks:List Str) (g:List Value→List Value→List Value) (gV:List V→List V→List V):Prop where
 to:∀ (s:Shared) (us ws:List Value),K.In s.heap→(g us ws).length=ps.length→BindsTo s fd ⟨us,ks.zip ws⟩ (ps.zip (g us ws))
 rel:∀ {vs:List V} {us:List Value} {zs:List V} {ws:List Value},Dd vs us→Dd zs ws→Dd (gV vs zs) (g us ws)
variable {g:List Value→List Value→List Value} {gV:List V→List V→List V}
end
structure Cb (N P:List Str) (sc:Scope):Prop where
 kind:sc.kind=.function
 co:sc.isCoroutine=false
 gen:sc.isGenerator=false
 nd:N.Nodup
 pre:N.take P.length=P
 par:∀ x ∈ P,sc.names.lookup x=some .local∨sc.names.lookup x=some .cell
 nofree:∀ y ∈ sc.names,y.2 ≠ .free
theorem Dw {kindOf:Str→Option NameKind} {x:Str}:∀ {binds:List (Str × Value)} {m:Str→Option Value},(∀ v,(x,v) ∉ binds)→bindL kindOf binds m x=m x
 | [],_,_=>rfl
 | (n,v) :: r,m,h=>by
  unfold bindL;rw [Dw fun w hw=>h w (List.mem_cons_of_mem _ hw)];split
  ·have:x ≠ n:=by rintro rfl;exact h v List.mem_cons_self
   simp [this]
  ·rfl
theorem Lw {kindOf:Str→Option NameKind} {x:Str}:∀ {binds:List (Str × Value)} {m:Str→Option Value},(∀ v,(x,v) ∉ binds)→bindC kindOf binds m x=m x
 | [],_,_=>rfl
 | (n,v) :: r,m,h=>by
  unfold bindC;rw [Lw fun w hw=>h w (List.mem_cons_of_mem _ hw)];split
  ·rfl
  ·have:x ≠ n:=by rintro rfl;exact h v List.mem_cons_self
   simp [this]
theorem Qr {kindOf:Str→Option NameKind} {x:Str} {v:Value}:∀ {P:List Str} {vs:List Value} {i:Nat} {m:Str→Option Value},P.Nodup→P[i]? = some x→vs[i]? = some v→kindOf x=some .local →
  bindL kindOf (P.zip vs) m x=some v
 | [],_,_,_,_,h,_,_=>by simp at h
 | _ :: _,[],_,_,_,_,h,_=>by simp at h
 | p :: P,w :: vs,0,m,nd,h1,h2,hk=>by
  simp at h1 h2;subst h1;subst h2;show bindL kindOf ((p,w) :: P.zip vs) m p=_;unfold bindL;rw [Dw fun v hv=>(List.nodup_cons.mp nd).1 (List.of_mem_zip hv).1,if_pos hk];simp
 | p :: P,w :: vs,i + 1,m,nd,h1,h2,hk=>by
  show bindL kindOf ((p,w) :: P.zip vs) m x=_;unfold bindL;exact Qr (i:=i) (List.nodup_cons.mp nd).2 (by simpa using h1) (by simpa using h2) hk
theorem Cs {kindOf:Str→Option NameKind} {x:Str} {v:Value}:∀ {P:List Str} {vs:List Value} {i:Nat} {m:Str→Option Value},P.Nodup→P[i]? = some x→vs[i]? = some v→kindOf x ≠ some .local →
  bindC kindOf (P.zip vs) m x=some v
 | [],_,_,_,_,h,_,_=>by simp at h
 | _ :: _,[],_,_,_,_,h,_=>by simp at h
 | p :: P,w :: vs,0,m,nd,h1,h2,hk=>by
  simp at h1 h2;subst h1;subst h2;show bindC kindOf ((p,w) :: P.zip vs) m p=_;unfold bindC;rw [Lw fun v hv=>(List.nodup_cons.mp nd).1 (List.of_mem_zip hv).1,if_neg hk];simp
 | p :: P,w :: vs,i + 1,m,nd,h1,h2,hk=>by
  show bindC kindOf ((p,w) :: P.zip vs) m x=_;unfold bindC;exact Cs (i:=i) (List.nodup_cons.mp nd).2 (by simpa using h1) (by simpa using h2) hk
noncomputable def start (N:List Str) (vs:List V):St:=vs.map some ++ List.replicate (N.length - vs.length) none
noncomputable def qF (CX:CXT) (P:Program) (w:World) (K:PySem.W.Frag) (mg:Str→Option Value) (base:Heap) (N:List Str) (qual:Str) (scope:Scope) (f:Addr) (cd:Value) (A:Around) (outer:List Env) (s:Shared) (H:Hp) (E:XK):Cx where
 prog:=P
 w:=w
 K:=K
 mg:=mg
 base:=base
 A:=A.deeper (envOfC qual scope s.heap.objs.size f cd)
 N:=N
 s₀:=s
 H₀:=H
 env:=envOfC qual scope s.heap.objs.size f cd
 outer:=outer
 stack:=envOfC qual scope s.heap.objs.size f cd :: outer
 ex:=[]
 calm:=true
 fn:=fun _=>true
 pn:=[]
 xe:=fun e s'=>wpAny (model P w) (A.deeper (envOfC qual scope s.heap.objs.size f cd)) (leaving (envOfC qual scope s.heap.objs.size f cd) e) (fun _ s''=>CX outer H s E e s'') (fun e' s''=>CX outer H s E e' s'') s'
theorem pq {sc:Scope} {n:Nat} {x:Str} (h:sc.names.lookup x=some .cell):∃ c,(cellsFrom n sc.names []).lookup x=some c:=by
 have q:=PySem.W.cellsFrom_some sc.names n [] (.inl h);exact Option.isSome_iff_exists.mp q
theorem YE {CX:CXT} {P:Program} {w:World} {K:PySem.W.Frag} {mg:Str→Option Value} {base:Heap} {N ps:List Str} {qual:Str} {scope:Scope} {f:Addr} {cd:Value} {A:Around} {outer:List Env} {s s1:Shared} {H:Hp} {E:XK} {us:List Value} {vs:List V}
  (S:Cb N ps scope) (hd:A.handled=none) (e0:NB P w K mg base A outer s H) (hl:vs.length=ps.length) (r:Dd vs us)
  (x:InCallC s s.heap.objs.size (bindL (envOfC qual scope s.heap.objs.size f cd).kindOf (ps.zip us) fun _=>none) (cellsFrom (s.heap.objs.size + 1) scope.names []) (bindC (envOfC qual scope s.heap.objs.size f cd).kindOf (ps.zip us) fun _=>none) s1) :
  Inv (qF CX P w K mg base N qual scope f cd A outer s H E) [] (start N vs) H s1:=by
 have hpl:ps.length ≤ N.length:=by have:=congrArg List.length S.pre;rw [List.length_take] at this;omega
 obtain ⟨h1,tk,rfl,hk⟩:=x.done;have noA:∀ b:Addr,b ∉ (qF CX P w K mg base N qual scope f cd A outer s H E).ex:=fun b z=>absurd (show b ∈ ([]:List Addr) from z) (by simp)
 refine ⟨⟨e0.mod,S.kind,rfl,rfl,Nat.le_refl _,fun y z c h1 h2=>?_,fun y hy=>?_,fun y c _ h=>?_,fun _=>hd,Around.frames_deeper e0.frames,.inr ⟨rfl,rfl⟩,fun b z=>absurd z (noA b),e0.bs,e0.bsz,fun b _ _=>noA b,fun b z=>absurd z (noA b),e0.funs,e0.frf⟩,
  rfl,e0.bare,Un.kept hk,⟨_,x.toInCall.ns,fun i y v h1 h2 h3=>?_⟩,fun y c h=>⟨_,x.cell y c h⟩,e0.hok.fresh (Nat.le_refl _),fun y c h=>?_,fun p hp=>absurd (show p ∈ ([]:List (Addr × Obj)) from hp) (by simp),e0.hok.kept hk,?_⟩
 ·exact name_of_addr x.apart (PySem.mem_of_lookup h1) (PySem.mem_of_lookup h2)
 ·have hy:scope.names.lookup y=some .cell∨scope.names.lookup y=some .free:=hy;rcases hy with hy | hy
  ·exact pq hy
  ·exact absurd rfl (S.nofree _ (PySem.mem_of_lookup hy))
 ·exact Nat.le_of_lt (x.above y c (PySem.mem_of_lookup h))
 ·have hi:i < vs.length:=by
   unfold start at h2;by_cases hi:i < vs.length
   ·exact hi
   ·rw [List.getElem?_append_right (by simpa using hi)] at h2;rw [List.getElem?_replicate] at h2;split at h2 <;> cases h2
  have ha:vs[i]? = some v:=by
   unfold start at h2;rw [List.getElem?_append_left (by simpa using hi),List.getElem?_map] at h2;cases e:vs[i]? with
   | none=>rw [e] at h2;cases h2
   | some a=>rw [e] at h2;cases h2;rfl
  obtain ⟨u,hu,rv⟩:=r.get ha;have hp:ps[i]? = some y:=by
   rw [← S.pre,List.getElem?_take_of_lt (by omega)];exact h1
  have ndP:ps.Nodup:=by rw [← S.pre];exact S.nd.sublist (List.take_sublist _ _)
  refine ⟨u,rv,?_⟩;rcases S.par y (List.mem_of_getElem? hp) with k | k
  ·exact .inl ⟨k,Qr ndP hp hu k⟩
  ·obtain ⟨c,e⟩:=pq (n:=s.heap.objs.size + 1) k;refine .inr ⟨.inl k,c,e,?_⟩;have q:=x.cell y c e;rw [Cs ndP hp hu (by show scope.names.lookup y ≠ _;rw [k];decide)] at q;exact q
 ·exact e0.hok.fresh (Nat.le_of_lt (x.above y c (PySem.mem_of_lookup h)))
 ·unfold start;show _=N.length;rw [List.length_append,List.length_map,List.length_replicate];omega
theorem xM {CX:CXT} {P:Program} {w:World} {K:PySem.W.Frag} {mg:Str→Option Value} {base:Heap} {k:Nat} {f:Addr} {name qual:Str} {params:Arguments} {body:List Stmt} {scope:Scope} {dV kV doc pm cdv ct oc:Value} {an od:Option Addr}
  {osl:Array (Option Value)} {N ps:List Str} {sp:Sp} (lk:K.lookup f=some ⟨oc,od,.func (PySem.W.fnOf name qual params body scope dV kV doc pm an cdv ct),osl⟩) (hcd:PySem.W.codeIn K cdv qual=true) (S:Cb N ps scope)
  (len:∀ vs H Q E,sp vs H Q E→vs.length=ps.length)
  (hbody:∀ (A:Around) (outer:List Env) (s:Shared) (H:Hp) (vs:List V) (Q:VK) (E:XK),Ni k (A.deeper (envOfC qual scope s.heap.objs.size f cdv))→sp vs H Q E →
   ∃ t,PSs (qF CX P w K mg base N qual scope f cdv A outer s H E) body t∧t { nx:=fun _ H'=>Q .non H',rt:=Q } (start N vs) H) :
  Kb P w K mg base CX (k + 1) f (PySem.W.fnOf name qual params body scope dV kV doc pm an cdv ct) ps sp:=by
 refine ⟨len,fun A outer s H args us vs Q E hr e0 hb r hsp=>?_⟩;have hl:=len _ _ _ _ hsp;have KX:K.In s.heap:=e0.mod.kin.keeps fun b o e=>(e0.bs b o e).1
 have lim:s.heap.NoLimit:=e0.mod.nolimit.keeps fun b o e=>(e0.bs b o e).1
 have hkind:∀ y ∈ ps.zip us,scope.names.lookup y.1=some .local∨(scope.names.lookup y.1=some .cell∧((cellsFrom (s.heap.objs.size + 1) scope.names []).lookup y.1).isSome=true):=fun ⟨n,v⟩ hy=>by
  rcases S.par n (List.of_mem_zip hy).1 with q | q
  ·exact .inl q
  ·exact .inr ⟨q,PySem.W.cellsFrom_some _ _ _ (.inl q)⟩
 refine codeAny_call_function hr.depth (KX _ _ lk) rfl S.co S.gen rfl (PySem.W.codeRec_of KX hcd) (hb _ _ _ _ ?_);refine wpAny_newFunctionEnv_cells S.kind hkind fun env he s1 x=>?_
 subst he;refine ⟨lim.keeps x.toInCall.keep,codeAny_func ?_⟩;obtain ⟨t,ht,hq⟩:=hbody A outer s H vs Q E (hr.deeper _) hsp;have I:Inv (qF CX P w K mg base N qual scope f cdv A outer s H E) [] (start N vs) H s1:=YE S hr.hd e0 hl r x;refine wpAny_mono (ht [] s1 (start N vs) H _ I hq) (fun fl s' hs=>?_) fun e s' hs=>hs
 have fin:∀ {σ':St} {H':Hp} {v:V} {u:Value},Inv (qF CX P w K mg base N qual scope f cdv A outer s H E) [] σ' H' s'→Jd v u→Q v H'→CE outer P w H s Q u s':=
  fun {σ' H' v u} J rv q=>⟨v,H',J.os,J.bare,J.base,J.hok,rv,q⟩
 cases fl with
 | ret u=>
  obtain ⟨v,σ',H',J,rv,q⟩:=hs;exact fin J rv q
 | next=>
  obtain ⟨σ',H',J,q⟩:=hs;exact fin (v:=V.non) (u:=Value.none) J rfl q
 | brk=>
  obtain ⟨_,_,_,q⟩:=hs;exact False.elim q
 | cont=>
  obtain ⟨_,_,_,q⟩:=hs;exact False.elim q
end L2
namespace L2
open PySem PySem.Spec PyProof.Rows
section
variable {X:Cx} {x:Str} {p pos:Pos} {e:Expr} {es:List Expr} {t:TA} {id T:String} {r:List V→Hp→VK→Prop}
noncomputable def tCB (r:List V→Hp→VK→Prop) (t:TA):TE:=fun σ H Q=>t σ H fun vs H1=>r vs H1 Q
theorem fc (hc:Al X (.builtin id) r) (hg:Gl X x) (hm:X.mg x=none) (hv:bootBuiltins x=some (.builtin id)) (ha:PA X (e :: es) t) (hn:x ≠ "__name__" := by decide) (hdb:(x == ("__debug__" : Str))=false:=by decide)
  (he:starEach (e :: es) X.env=(false,eval e X.env) :: starEach es X.env:=by rfl) (hpl:(backTo pos (starEach es X.env)).any (·.1)=false:=by rfl):PE X (.Call (.Name x p) (e :: es) [] pos) (tCB r t):=by
 intro pins s σ H Q I h;refine wpAny_Call_Name_kw (wp I hg hm hv ?_ hn hdb);exact PyProof.Rows.callWith_builtin1 (thn (ha pos pins s σ H _ I h) fun us s1 ⟨vs,H1,I1,r1,q1⟩=>hc pins s1 σ H1 vs us Q I1 r1 q1) he hpl
theorem Uf (hc:Al X (.type T) r) (hg:Gl X x) (hm:X.mg x=none) (hv:bootBuiltins x=some (.type T)) (ha:PA X (e :: es) t) (hn:x ≠ "__name__" := by decide) (hdb:(x == ("__debug__" : Str))=false:=by decide)
  (he:starEach (e :: es) X.env=(false,eval e X.env) :: starEach es X.env:=by rfl) (hpl:(backTo pos (starEach es X.env)).any (·.1)=false:=by rfl):PE X (.Call (.Name x p) (e :: es) [] pos) (tCB r t):=by
 intro pins s σ H Q I h;refine wpAny_Call_Name_kw (wp I hg hm hv ?_ hn hdb);exact PyProof.Rows.callWith_type1 (thn (ha pos pins s σ H _ I h) fun us s1 ⟨vs,H1,I1,r1,q1⟩=>hc pins s1 σ H1 vs us Q I1 r1 q1) he hpl
end
end L2
namespace HT
open PySem PyProof.Rows
section
open PySem.SeqAt
open PySem.AutoSeq1 (wpAny_loadPart')
open PySem.MeetsSeq PySem.MeetsSeq2 PySem.MeetsSeq3
end
section
variable {prog:Program} {w:World} {A:Around} {E:Value→Shared→Prop} {s:Shared}
noncomputable def sIx (n d:Nat):Option Int→Nat
 | none=>d
 | some v=>if v < 0 then (v + (n:Int)).toNat else min v.toNat n
end
end HT
namespace L2
open PySem PySem.Spec PyProof.Rows
noncomputable abbrev TO:=St→Hp→(Option Int→Hp→Prop)→Prop
noncomputable def PO (X:Cx) (e:Option Expr) (t:TO):Prop:=
 ∀ (pins:List (Addr × Obj)) (s:Shared) (σ:St) (H:Hp) (Q:Option Int→Hp→Prop),Inv X pins σ H s→t σ H Q →
  wpAny (model X.prog X.w) X.A (evalPart e X.env) (fun u s'=>∃ o H',Inv X pins σ H' s'∧IsPart u o∧Q o H') X.xe s
noncomputable def mE:TO:=fun _ H Q=>Q none H
noncomputable def vM (t:TE):TO:=fun σ H Q=>t σ H fun x H1=>Xk x fun i=>Q (some i) H1
section
variable {X:Cx} {e:Expr} {te:TE} {lo hi:Option Expr} {tl th:TO} {pos p2:Pos}
theorem cE:PO X none mE:=by
 intro pins s σ H Q I h;rw [evalPart_none];exact wpAny_pure ⟨none,H,I,.none,h⟩
theorem aE (h:PE X e te):PO X (some e) (vM te):=by
 intro pins s σ H Q I hw;rw [evalPart_some];refine thn (h pins s σ H _ I hw) fun u s1 hZ1=>?_
 obtain ⟨x,H1,I1,r1,q1⟩:=hZ1;obtain ⟨i,rfl,q⟩:=Xk.out q1;obtain ⟨t,rfl⟩:=r1;exact ⟨some i,H1,I1,.int i t,q⟩
noncomputable def SlR (X:Cx) (r:V→Option Int→Option Int→Hp→VK→Prop):Prop:=
 ∀ (pins:List (Addr × Obj)) (s:Shared) (σ:St) (H:Hp) (x:V) (v vl vu:Value) (lo hi:Option Int) (sl:Addr) (Q:VK),Inv X pins σ H s→Jd x v→s.heap.IsSliceOf sl vl vu .none→IsPart vl lo→IsPart vu hi→r x lo hi H Q →
  ∃ T id,typeLookup (.type T) "__getitem__"=pure (some (.builtin id))∧s.TypeIs v T∧wpAny (model X.prog X.w) X.A (getItem v (.ref sl)) (EP X pins σ Q) X.xe s
theorem SlR.or {r r':V→Option Int→Option Int→Hp→VK→Prop} (h:SlR X r) (h':SlR X r'):SlR X (fun x lo hi H Q=>r x lo hi H Q∨r' x lo hi H Q):=by
 intro pins s σ H x v vl vu lo hi sl Q I rx hs pl pu q;rcases q with q | q
 ·exact h pins s σ H x v vl vu lo hi sl Q I rx hs pl pu q
 ·exact h' pins s σ H x v vl vu lo hi sl Q I rx hs pl pu q
noncomputable def tSl (r:V→Option Int→Option Int→Hp→VK→Prop) (te:TE) (tl th:TO):TE:=fun σ H Q=>te σ H fun x H1=>tl σ H1 fun l H2=>th σ H2 fun u H3=>r x l u H3 Q
theorem pB {r:V→Option Int→Option Int→Hp→VK→Prop} (hr:SlR X r) (he:PE X e te) (hl:PO X lo tl) (hu:PO X hi th):PE X (.Subscript e (.Slice lo hi none p2) pos) (tSl r te tl th):=by
 intro pins s σ H Q I h;refine Subscript_ (thn (he pins s σ H _ I h) fun v s1 hZ1=>?_);obtain ⟨x,H1,I1,r1,q1⟩:=hZ1;refine wpAny_Slice (thn (hl pins s1 σ H1 _ I1 q1) fun vl s2 ⟨l,H2,I2,pl,q2⟩=>thn (hu pins s2 σ H2 _ I2 q2) fun vu s3 hZ1=>?_);obtain ⟨u,H3,I3,pu,q3⟩:=hZ1;rw [evalPart_none];refine wpAny_pure ?_;have I4:Inv X pins σ H3 { s3 with heap:=s3.heap.push { cls:=.type "slice",data:=.fields #[vl,vu,.none] } }:=I3.kept (t':=s3.toks) fun b ob q=>Heap.get?_push_of_some _ q
 obtain ⟨T,id,hT,ht,hg⟩:=hr pins { s3 with heap:=s3.heap.push { cls:=.type "slice",data:=.fields #[vl,vu,.none] } } σ H3 x v vl vu l u s3.heap.objs.size Q I4 r1 (Heap.IsSliceOf.new ..) pl pu q3;show wpAny (model X.prog X.w) X.A (subscriptTail e (.Slice lo hi none p2) v (.ref s3.heap.objs.size)) (EP X pins σ Q) X.xe { s3 with heap:=s3.heap.push { cls:=.type "slice",data:=.fields #[vl,vu,.none] } };exact tail_any (ops:=[.ref s3.heap.objs.size,v]) ht hT hg (by with_unfolding_all rfl)
noncomputable def NG (xs:List V) (lo hi:Option Int):List V:=(xs.drop (HT.sIx xs.length 0 lo)).take (HT.sIx xs.length xs.length hi - HT.sIx xs.length 0 lo)
theorem Bz (xs:List V) (lo hi:Option Int):(NG xs lo hi).length ≤ xs.length:=by
 unfold NG;rw [List.length_take,List.length_drop];omega
end
end L2
namespace L2
open PySem PySem.Spec PyProof.Rows
noncomputable def ixN (n:Nat) (i:Int):Option Nat:=if 0 ≤ i then (if i < n then some i.toNat else none) else if -(n:Int) ≤ i then some (i + n).toNat else none
noncomputable def atI {α:Type} (xs:List α) (i:Int):Option α:=(ixN xs.length i).bind fun j=>xs[j]?
theorem FE {n:Nat} {i:Int} {j:Nat} (h:ixN n i=some j):seqIndex? i n=some j∧j < n∧-(n:Int) ≤ i∧i < n:=by
 unfold ixN at h;by_cases h0:0 ≤ i
 ·rw [if_pos h0] at h;by_cases h1:i < n
  ·rw [if_pos h1] at h;have e:i.toNat=j:=Option.some.inj h;exact ⟨by rw [seqIndex_of h0 h1,e],by omega,by omega,h1⟩
  ·rw [if_neg h1] at h;cases h
 ·rw [if_neg h0] at h;by_cases h1:-(n:Int) ≤ i
  ·rw [if_pos h1] at h;have e:(i + n).toNat=j:=Option.some.inj h;exact ⟨by rw [seqIndex_neg (by omega) h1,e],by omega,h1,by omega⟩
  ·rw [if_neg h1] at h;cases h
theorem Ky {α:Type} {xs:List α} {i:Int} {v:α} (h:atI xs i=some v):∃ j,seqIndex? i xs.length=some j∧xs[j]? = some v∧j < xs.length∧-(xs.length:Int) ≤ i∧i < xs.length:=by
 unfold atI at h;cases e:ixN xs.length i with
 | none=>rw [e] at h;cases h
 | some j=>
  rw [e] at h;obtain ⟨h1,h2,h3,h4⟩:=FE e;exact ⟨j,h1,h,h2,h3,h4⟩
theorem Cc {α:Type} {xs:List α} {j:Nat} {v:α} (h:xs[j]? = some v):atI xs (j:Int)=some v:=by
 have hj:j < xs.length:=(List.getElem?_eq_some_iff.mp h).1;have e:ixN xs.length (j:Int)=some j:=by
  unfold ixN;rw [if_pos (by omega),if_pos (by omega)];simp
 unfold atI;rw [e];exact h
noncomputable def xE (b:Expr):Prop:=∀ o i,subscripted b false o i=operate [o,i] (getItem o i)
noncomputable def IxR (X:Cx) (r:R2):Prop:=
 ∀ (value slice:Expr) (pins:List (Addr × Obj)) (s:Shared) (σ:St) (H:Hp) (x y:V) (v u:Value) (Q:VK),Inv X pins σ H s→Jd x v→Jd y u→r x y H Q →
  subscripted slice false v u=operate [v,u] (getItem v u)→wpAny (model X.prog X.w) X.A (subscriptTail value slice v u) (EP X pins σ Q) X.xe s
noncomputable def MtR (X:Cx) (id:String) (r:V→List V→Hp→VK→Prop):Prop:=
 ∀ (pins:List (Addr × Obj)) (s:Shared) (σ:St) (H:Hp) (x:V) (xs:List V) (v:Value) (us:List Value) (Q:VK),Inv X pins σ H s→Jd x v→Dd xs us→r x xs H Q →
  wpAny (model X.prog X.w) X.A (call (.builtin id) (v :: us)) (EP X pins σ Q) X.xe s
section
variable {X:Cx} {a b:Expr} {ta tb:TE} {pos:Pos}
theorem IxR.or {r r':R2} (h:IxR X r) (h':IxR X r'):IxR X (fun x y H Q=>r x y H Q∨r' x y H Q):=by
 intro value slice pins s σ H x y v u Q I rx ry q hs;rcases q with q | q
 ·exact h value slice pins s σ H x y v u Q I rx ry q hs
 ·exact h' value slice pins s σ H x y v u Q I rx ry q hs
theorem MtR.or {id:String} {r r':V→List V→Hp→VK→Prop} (h:MtR X id r) (h':MtR X id r'):MtR X id (fun x xs H Q=>r x xs H Q∨r' x xs H Q):=by
 intro pins s σ H x xs v us Q I rx rs q;rcases q with q | q
 ·exact h pins s σ H x xs v us Q I rx rs q
 ·exact h' pins s σ H x xs v us Q I rx rs q
theorem sN {r:R2} (hr:IxR X r) (ha:PE X a ta) (hb:PE X b tb) (hs:xE b):PE X (.Subscript a b pos) (tOp r ta tb):=by
 intro pins s σ H Q I h;exact Subscript_ (xN ha hb I h fun v u s2 x y H2 I2 rx ry q=>hr a b pins s2 σ H2 x y v u Q I2 rx ry q (hs _ _))
noncomputable def fO (K:PySem.W.Frag):R2:=fun x y H Q=>lj x fun p=>∃ xs,Xk y fun i=>SqL K H p xs∧∃ v,atI xs i=some v∧Q v H
noncomputable def rO (K:PySem.W.Frag):R2:=fun x y H Q=>lj x fun p=>∃ xs,Xk y fun i=>SqT K H p xs∧∃ v,atI xs i=some v∧Q v H
noncomputable def qO:R2:=fun x y H Q=>∃ z i c,x=.str z∧y=.int i∧z.length ≤ sizeLine∧atI z.cps.toList i=some c∧Q (.str ⟨#[c]⟩) H
theorem ae:IxR X (fO X.K):=by
 intro value slice pins s σ H x y v u Q I rx ry h hs;obtain ⟨p,rfl,xs,hzz⟩:=lj.out h;obtain ⟨i,rfl,hq,z,he,q⟩:=Xk.out hzz;cases rx;obtain ⟨t,rfl⟩:=ry;obtain ⟨its,r,pl,hz⟩:=I.list hq;obtain ⟨j,h1,h2,h3,h4,h5⟩:=Ky he;obtain ⟨w,ew,rw'⟩:=r.get h2;have hl:=r.length;have hn:=br;have fin:EP X pins σ Q w s:=⟨z,H,I,rw',q⟩;by_cases h0:0 ≤ i
 ·have hj:i.toNat=j:=by
   rw [seqIndex_of h0 h5] at h1;exact Option.some.inj h1
  exact item_listR pl.isList h0 (by omega) (by rw [hj];simpa using ew) fin hs
 ·have hj:(i + (its.toArray.size:Int)).toNat=j:=by
   rw [seqIndex_neg (by omega) h4] at h1;rw [List.size_toArray,← hl];exact Option.some.inj h1
  exact subscriptTail_builtinR (x:=w) pl.isList.typeIs slot_list_getitem.lookup
   (wpAny_getItem_list_neg (Q:=fun r s'=>r=w∧EP X pins σ Q r s') pl.isList (by omega) (by rw [List.size_toArray] <;> omega) (by omega) (by rw [hj];simpa using ew) ⟨rfl,fin⟩) hs
theorem Ge:IxR X (rO X.K):=by
 intro value slice pins s σ H x y v u Q I rx ry h hs;obtain ⟨p,rfl,xs,hzz⟩:=lj.out h;obtain ⟨i,rfl,hq,z,he,q⟩:=Xk.out hzz;cases rx;obtain ⟨t,rfl⟩:=ry;obtain ⟨its,r,pl,hz⟩:=I.tuple hq;obtain ⟨j,h1,h2,h3,h4,h5⟩:=Ky he;obtain ⟨w,ew,rw'⟩:=r.get h2;have hl:=r.length;have hn:=br;have fin:EP X pins σ Q w s:=⟨z,H,I,rw',q⟩;exact subscriptTail_builtinR (x:=w) pl.typeIs slot_tuple_getitem.lookup
  (getItem_tuple (j:=j) (Q:=fun r s'=>r=w∧EP X pins σ Q r s') pl (by omega) (by omega) (by rw [List.size_toArray,← hl];exact h1) (by simpa using ew) ⟨rfl,fin⟩) hs
theorem OI:IxR X qO:=by
 intro value slice pins s σ H x y v u Q I rx ry h hs;obtain ⟨z,i,c,rfl,rfl,hz,he,q⟩:=h;obtain ⟨t,rfl⟩:=rx;obtain ⟨t',rfl⟩:=ry;obtain ⟨j,h1,h2,h3,h4,h5⟩:=Ky he;have hl:z.cps.toList.length=z.length:=by simp [Str.length]
 rw [hl] at h1 h4 h5;have hn:=br;exact tail_any (typeIs_str s z t) slot_str_getitem.lookup (getItem_str (c:=c) (by
  have e1:decide (i < -(2 ^ 63:Int))=false:=decide_eq_false (by omega);have e2:decide (i ≥ 2 ^ 63)=false:=decide_eq_false (by omega);rw [e1,e2,Bool.or_false]) (by rw [h1];simpa using h2) ⟨.str ⟨#[c]⟩,H,I.tok _,⟨_,rfl⟩,q⟩) hs
theorem kC (its:List Value) (n j:Nat) (u:Value):Obj.mapSeq (·.setIfInBounds j u) { cls:=.type "list",data:=.seq its.toArray n } = { cls:=.type "list",data:=.seq (its.set j u).toArray n }:=by
 simp [Obj.mapSeq]
theorem Inv.lst {pins:List (Addr × Obj)} {σ:St} {H:Hp} {s:Shared} {p:Addr} {xs:List V} (I:Inv X pins σ H s) (h:H p=some (.lst xs)) :
  ∃ (its:List Value) (n:Nat),Dd xs its∧s.heap.get? p=some { cls:=.type "list",data:=.seq its.toArray n }∧xs.length ≤ sizeLine:=by
 obtain ⟨z,its,n,r,e⟩:=I.hok p _ h;exact ⟨its,n,r,e,z⟩
theorem Inv.lstUpd {pins:List (Addr × Obj)} {σ:St} {H:Hp} {s:Shared} {p:Addr} {xs ys:List V} {its its':List Value} {n n':Nat} {f:Obj→Obj} (I:Inv X pins σ H s) (h:H p=some (.lst xs))
  (ho:s.heap.get? p=some { cls:=.type "list",data:=.seq its.toArray n }) (hf:f { cls:=.type "list",data:=.seq its.toArray n } = { cls:=.type "list",data:=.seq its'.toArray n' }) (r:Dd ys its') (hz:ys.length ≤ sizeLine) (t:Nat) :
  Inv X pins σ (upd H p (.lst ys)) { s with heap:=s.heap.update p f,toks:=t }:=by
 have e:(s.heap.update p f).get? p=some { cls:=.type "list",data:=.seq its'.toArray n' }:=by
  rw [Heap.get?_update_self f ho (by rw [hf] <;> rfl),hf]
 refine I.write (x:=p) (e:=p) (by rw [h];trivial) (.inl rfl) (fun b u hb q=>(Heap.get?_update_other _ _ (Ne.symm hb)).trans q) ⟨_,e⟩ ?_;exact ⟨hz,its',n',r,e⟩
noncomputable def xL:V→V→V→Hp→(Hp→Prop)→Prop:=fun o i v H Q=>lj o fun p=>∃ xs,Xk i fun k=>H p=some (.lst xs)∧∃ j,ixN xs.length k=some j∧Q (upd H p (.lst (xs.set j v)))
theorem Gq:eO X xL:=by
 intro pins s σ H o i v ov iv u Q I ro ri rv h;obtain ⟨p,rfl,xs,hzz⟩:=lj.out h;obtain ⟨k,rfl,hp,j,hj,q⟩:=Xk.out hzz;cases ro;obtain ⟨t,rfl⟩:=ri;obtain ⟨its,n,r,ho,hz⟩:=I.lst hp;obtain ⟨h1,h2,h3,h4⟩:=FE hj;have hl:=r.length;have hn:=br;have I':Inv X pins σ (upd H p (.lst (xs.set j v))) { s with heap:=s.heap.update p (Obj.mapSeq (·.setIfInBounds j u)) }:=
  I.lstUpd hp ho (kC its n j u) (r.set rv j) (by rw [List.length_set];exact hz) s.toks
 by_cases h0:0 ≤ k
 ·have hk:k.toNat=j:=by
   rw [seqIndex_of h0 h4] at h1;exact Option.some.inj h1
  exact PySem.W.ki_setAt ho h0 (by omega) (by rw [List.size_toArray,← hl];exact h4) (by rw [hk];exact ⟨_,I',q⟩)
 ·have hk:(k + (its.toArray.size:Int)).toNat=j:=by
   rw [seqIndex_neg (by omega) h3] at h1;rw [List.size_toArray,← hl];exact Option.some.inj h1
  exact PySem.W.ki_setBack ho (by omega) (by rw [List.size_toArray,← hl];exact h3) (by omega) (by rw [hk];exact ⟨_,I',q⟩)
theorem Xx (lo hi:Option Int) (n:Nat):(sliceBounds lo hi none n).1=((HT.sIx n 0 lo:Nat):Int)∧(sliceBounds lo hi none n).2.1=((HT.sIx n n hi:Nat):Int)∧(sliceBounds lo hi none n).2.2=1:=by
 refine ⟨?_,?_,rfl⟩
 ·cases lo with
  | none=>simp [sliceBounds,HT.sIx]
  | some i=>
   simp only [sliceBounds,HT.sIx,Option.getD_none,show (1:Int) > 0 by decide,if_true];by_cases h:i < 0
   ·simp only [h,if_true] <;> omega
   ·simp only [h,if_false] <;> omega
 ·cases hi with
  | none=>simp [sliceBounds,HT.sIx]
  | some i=>
   simp only [sliceBounds,HT.sIx,Option.getD_none,show (1:Int) > 0 by decide,if_true];by_cases h:i < 0
   ·simp only [h,if_true] <;> omega
   ·simp only [h,if_false] <;> omega
theorem Uv (its:List Value) (lo hi:Option Int):slicePick its.toArray lo hi none=((its.drop (HT.sIx its.length 0 lo)).take (HT.sIx its.length its.length hi - HT.sIx its.length 0 lo)).toArray:=by
 obtain ⟨h1,h2,h3⟩:=Xx lo hi its.toArray.size;unfold slicePick;rw [h1,h2,h3];simp only [sliceRange_one,pick_run,List.size_toArray] <;> rfl
noncomputable def kO (K:PySem.W.Frag):V→Option Int→Option Int→Hp→VK→Prop:=fun x lo hi H Q=>∃ a xs,x=.ref a∧SqL K H a xs∧∀ p,H p=none→Q (.ref p) (upd H p (.lst (NG xs lo hi)))
theorem RC:SlR X (kO X.K):=by
 intro pins s σ H x v vl vu lo hi sl Q I rx hs pl pu h;obtain ⟨a,xs,rfl,hx,q⟩:=h;cases rx;obtain ⟨its,r,ht,hz⟩:=I.list hx;have hlen:=r.length;refine ⟨"list",_,slot_list_getitem.lookup,ht.isList.typeIs,?_⟩;refine wpAny_getItem_list_slice ht.isList hs pl pu .none (by simp) ?_ (by rw [List.size_toArray] <;> omega);rw [Uv,← hlen];refine ⟨.ref s.heap.objs.size,_,I.laid (t':=s.toks) (o:=.lst (NG xs lo hi)) (fun b ob q=>Heap.get?_push_of_some _ q) (Nat.le_refl _) ?_,rfl,q _ (I.hok.fresh (Nat.le_refl _))⟩;exact ⟨Nat.le_trans (Bz xs lo hi) hz,_,0,(r.drop (HT.sIx xs.length 0 lo)).take (HT.sIx xs.length xs.length hi - HT.sIx xs.length 0 lo),Heap.get?_push_size _ rfl⟩
noncomputable def Lm:V→Bool
 | .non=>true
 | .bl _=>true
 | .int _=>true
 | .str _=>true
 | _=>false
noncomputable def eqV:V→V→Bool
 | .non,.non=>true
 | .bl a,.bl b=>a == b
 | .bl a,.int b=>(if a then 1 else 0) == b
 | .int a,.bl b=>a == (if b then 1 else 0)
 | .int a,.int b=>a == b
 | .str a,.str b=>a == b
 | _,_=>false
theorem vI {A:Around} {s:Shared} {y x:V} {u v:Value} (ry:Jd y u) (rx:Jd x v) (fy:Lm y=true) (fx:Lm x=true):SeqAt.EqAt A s u v (eqV y x):=by
 cases y with
 | non=>
  cases ry;cases x with
  | non=>cases rx;exact SeqAt.EqAt.same _
  | bl b=>cases rx;exact SeqAt.EqAt.none_bool b
  | int b=>obtain ⟨t,rfl⟩:=rx;exact SeqAt.EqAt.none_int b t
  | str b=>obtain ⟨t,rfl⟩:=rx;exact SeqAt.EqAt.none_str b t
  | _=>exact absurd (show false=true from fx) Bool.false_ne_true
 | bl a=>
  cases ry;cases x with
  | non=>cases rx;exact SeqAt.EqAt.bool_none a
  | bl b=>cases rx;exact SeqAt.EqAt.bool_bool a b
  | int b=>obtain ⟨t,rfl⟩:=rx;exact SeqAt.EqAt.bool_int a b t
  | str b=>obtain ⟨t,rfl⟩:=rx;exact SeqAt.EqAt.bool_str a b t
  | _=>exact absurd (show false=true from fx) Bool.false_ne_true
 | int a=>
  obtain ⟨t',rfl⟩:=ry;cases x with
  | non=>cases rx;exact SeqAt.EqAt.int_none a t'
  | bl b=>cases rx;exact SeqAt.EqAt.int_bool a t' b
  | int b=>obtain ⟨t,rfl⟩:=rx;exact SeqAt.EqAt.int_int a t' b t
  | str b=>obtain ⟨t,rfl⟩:=rx;exact SeqAt.EqAt.int_str a t' b t
  | _=>exact absurd (show false=true from fx) Bool.false_ne_true
 | str a=>
  obtain ⟨t',rfl⟩:=ry;cases x with
  | non=>cases rx;exact SeqAt.EqAt.str_none a t'
  | bl b=>cases rx;exact SeqAt.EqAt.str_bool a t' b
  | int b=>obtain ⟨t,rfl⟩:=rx;exact SeqAt.EqAt.str_int a t' b t
  | str b=>obtain ⟨t,rfl⟩:=rx;exact SeqAt.EqAt.str_str a t' b t
  | _=>exact absurd (show false=true from fx) Bool.false_ne_true
 | _=>exact absurd (show false=true from fy) Bool.false_ne_true
noncomputable def eqU (x:V) (u:Value):Bool:=match u with
 | .none=>eqV .non x
 | .bool b=>eqV (.bl b) x
 | .int i _=>eqV (.int i) x
 | .str z _=>eqV (.str z) x
 | _=>false
theorem uI {x y:V} {u:Value} (r:Jd y u) (f:Lm y=true):eqU x u=eqV y x:=by
 cases y with
 | non=>cases r;rfl
 | bl b=>cases r;rfl
 | int i=>obtain ⟨t,rfl⟩:=r;rfl
 | str z=>obtain ⟨t,rfl⟩:=r;rfl
 | _=>exact absurd (show false=true from f) Bool.false_ne_true
theorem Dr {x:V}:∀ {xs:List V} {us:List Value},Dd xs us→xs.all Lm=true→us.any (eqU x)=xs.any fun y=>eqV y x
 | _,_,.nil,_=>rfl
 | y :: xs,u :: us,.cons r t,f=>by
  rw [List.all_cons,Bool.and_eq_true] at f;rw [List.any_cons,List.any_cons,uI r f.1,Dr t f.2]
theorem Hn {A:Around} {s:Shared} {x:V} {v:Value} (rx:Jd x v) (fx:Lm x=true):∀ {xs:List V} {us:List Value},Dd xs us→xs.all Lm=true→∀ u ∈ us,SeqAt.EqAt A s u v (eqU x u)
 | _,_,.nil,_=>fun u hu=>by cases hu
 | y :: xs,u :: us,.cons r t,f=>fun u' hu=>by
  rw [List.all_cons,Bool.and_eq_true] at f;rcases List.mem_cons.mp hu with rfl | hu
  ·rw [uI r f.1];exact vI r rx f.1 fx
  ·exact Hn rx fx t f.2 u' hu
noncomputable def inV (x:V) (xs:List V):Bool:=xs.any fun y=>eqV y x
noncomputable def rIn (K:PySem.W.Frag) (neg:Bool):R2:=fun x y H Q=>∃ p xs,y=.ref p∧(SqL K H p xs∨SqT K H p xs)∧Lm x=true∧xs.all Lm=true∧Q (.bl (if neg then !inV x xs else inV x xs)) H
theorem mo:OpR X (compareOp .In) (rIn X.K false):=by
 intro pins s σ H x y v u Q I rx ry h;obtain ⟨p,xs,rfl,hq,fx,fs,q⟩:=h;cases ry;rcases hq with hq | hq
 ·obtain ⟨its,r,pl,hz⟩:=I.list hq;refine SeqAt.in_listAt (eqU x) pl.isList (fun w hw=>Hn rx fx r fs w (by simpa using hw)) ⟨.bl _,H,I,rfl,?_⟩;rw [show its.toArray.any (eqU x)=its.any (eqU x) by simp,Dr r fs];exact q
 ·obtain ⟨its,r,pl,hz⟩:=I.tuple hq;refine SeqAt.in_tupleAt (eqU x) pl (fun w hw=>Hn rx fx r fs w (by simpa using hw)) ⟨.bl _,H,I,rfl,?_⟩;rw [show its.toArray.any (eqU x)=its.any (eqU x) by simp,Dr r fs];exact q
theorem Ep:OpR X (compareOp .NotIn) (rIn X.K true):=by
 intro pins s σ H x y v u Q I rx ry h;obtain ⟨p,xs,rfl,hq,fx,fs,q⟩:=h;cases ry;rcases hq with hq | hq
 ·obtain ⟨its,r,pl,hz⟩:=I.list hq;refine SeqAt.notIn_listAt (eqU x) pl.isList (fun w hw=>Hn rx fx r fs w (by simpa using hw)) ⟨.bl _,H,I,rfl,?_⟩;rw [show its.toArray.any (eqU x)=its.any (eqU x) by simp,Dr r fs];exact q
 ·obtain ⟨its,r,pl,hz⟩:=I.tuple hq;refine SeqAt.notIn_tupleAt (eqU x) pl (fun w hw=>Hn rx fx r fs w (by simpa using hw)) ⟨.bl _,H,I,rfl,?_⟩;rw [show its.toArray.any (eqU x)=its.any (eqU x) by simp,Dr r fs];exact q
theorem Lc:Al X (.builtin "len") (fun xs H Q=>MB xs fun x=>lj x fun p=>∃ ys,(SqL X.K H p ys∨SqT X.K H p ys)∧Q (.int ys.length) H):=by
 intro pins s σ H xs us Q I r h;obtain ⟨zx,rfl,hzz⟩:=MB.out h;obtain ⟨p,rfl,ys,hq,q⟩:=lj.out hzz;obtain ⟨u,rfl,rx⟩:=Kr r;cases rx;have hn:=br;rcases hq with hq | hq
 ·obtain ⟨its,r',pl,hz⟩:=I.list hq;have hlen:=r'.length;exact Calls.call_len_list pl.isList (by simp only [List.size_toArray] <;> omega) ⟨.int ys.length,H,I.tok _,⟨s.toks + 1,by rw [List.size_toArray,hlen]⟩,q⟩
 ·obtain ⟨its,r',pl,hz⟩:=I.tuple hq;have hlen:=r'.length;exact len_tuple pl (by simp only [List.size_toArray] <;> omega) ⟨.int ys.length,H,I.tok _,⟨s.toks + 1,by rw [List.size_toArray,hlen]⟩,q⟩
theorem Pw:Al X (.builtin "len") (fun xs H Q=>∃ z,xs=[.str z]∧z.length ≤ sizeLine∧Q (.int z.length) H):=by
 intro pins s σ H xs us Q I r h;obtain ⟨z,rfl,hz,q⟩:=h;obtain ⟨u,rfl,t,rfl⟩:=Kr r;have hn:=br;exact len_str (by omega) ⟨.int z.length,H,I.tok _,⟨_,rfl⟩,q⟩
theorem Al.or {f:Value} {r r':List V→Hp→VK→Prop} (h:Al X f r) (h':Al X f r'):Al X f (fun xs H Q=>r xs H Q∨r' xs H Q):=by
 intro pins s σ H xs us Q I rs q;rcases q with q | q
 ·exact h pins s σ H xs us Q I rs q
 ·exact h' pins s σ H xs us Q I rs q
theorem Xw:Al X (.type "list") (fun xs H Q=>∃ p ys,xs=[.ref p]∧(SqL X.K H p ys∨SqT X.K H p ys)∧∀ l,H l=none→Q (.ref l) (upd H l (.lst ys))):=by
 intro pins s σ H xs us Q I r h;obtain ⟨p,ys,rfl,hq,q⟩:=h;obtain ⟨u,rfl,rx⟩:=Kr r;cases rx;have fin:∀ (its:List Value),Dd ys its→ys.length ≤ sizeLine→∀ (h':Heap) (c':Nat),(∀ b o',s.heap.get? b=some o'→h'.get? b=some o') →
   h'.get? s.heap.objs.size=some { cls:=.type "list",dict:=none,data:=.seq its.toArray c',slots:=#[] }→EP X pins σ Q (.ref s.heap.objs.size) { s with heap:=h' }:=fun its r' hz h' c' kp e=>
  ⟨.ref s.heap.objs.size,_,I.laid (t':=s.toks) kp (Nat.le_refl _) (show Xd X.prog X.w _ h' _ (.lst ys) from ⟨hz,its,c',r',e⟩),rfl,q _ (I.hok.fresh (Nat.le_refl _))⟩
 rcases hq with hq | hq
 ·obtain ⟨its,r',pl,hz⟩:=I.list hq;have hlen:=r'.length;obtain ⟨o,ho,hc,n,hd⟩:=pl.isList;exact call_list_seq p (.inl rfl) ho hc hd (fun h' c' kp e=>fin its r' hz h' c' kp e) (by simp only [List.size_toArray] <;> omega)
 ·obtain ⟨its,r',pl,hz⟩:=I.tuple hq;have hlen:=r'.length;obtain ⟨o,ho,hc,n,hd⟩:=pl;exact call_list_seq p (.inr rfl) ho hc hd (fun h' c' kp e=>fin its r' hz h' c' kp e) (by simp only [List.size_toArray] <;> omega)
noncomputable def tyV (K:PySem.W.Frag) (T:String) (x:V) (H:Hp):Prop:=match x with
 | .str _=>T = "str"
 | .int _=>T = "int"
 | .ref p=>(T = "list" ∧ ∃ xs,SqL K H p xs)∨(T = "tuple" ∧ ∃ o,K.lookup p=some o∧o.cls=.type "tuple" ∧ o.dict=none) ∨
   (T = "dict" ∧ ((∃ kvs,H p=some (.dK kvs))∨∃ kvs,H p=some (.dT kvs)))∨(T = "set" ∧ ∃ S n,H p=some (.set S n))
 | _=>False
theorem wL {pins:List (Addr × Obj)} {σ:St} {H:Hp} {s:Shared} {T:String} {x:V} {v:Value} (I:Inv X pins σ H s) (r:Jd x v) (ty:tyV X.K T x H) :
  s.TypeIs v T∧∀ a,v=.ref a→∃ ob,s.heap.get? a=some ob∧ob.dict=none:=by
 cases x with
 | str z=>
  obtain ⟨t,rfl⟩:=r;cases (show T = "str" from ty);exact ⟨typeIs_str s z t,fun _ e=>nomatch e⟩
 | int i=>
  obtain ⟨t,rfl⟩:=r;cases (show T = "int" from ty);exact ⟨typeIs_int s i t,fun _ e=>nomatch e⟩
 | ref p=>
  cases r;rcases ty with ⟨rfl,xs,hq⟩ | ⟨rfl,o,hk,hc,hd⟩ | ⟨rfl,hk⟩ | ⟨rfl,S,n,hk⟩
  ·obtain ⟨its,_,pl,_⟩:=I.list hq;refine ⟨pl.isList.typeIs,fun a e=>?_⟩;cases e;obtain ⟨o,n,e,c,hd,_⟩:=pl;exact ⟨o,e,hd⟩
  ·refine ⟨⟨o,I.kIn p o hk,hc⟩,fun a e=>?_⟩;cases e;exact ⟨o,I.kIn _ o hk,hd⟩
  ·have z:∃ o,s.heap.get? p=some o∧o.ExactDict:=by
    rcases hk with ⟨kvs,hk⟩ | ⟨kvs,hk⟩
    ·obtain ⟨_,_,_,_,o,_,_,e,ex,_⟩:=I.hok p _ hk;exact ⟨o,e,ex⟩
    ·obtain ⟨_,_,_,_,o,_,_,e,ex,_⟩:=I.hok p _ hk;exact ⟨o,e,ex⟩
   obtain ⟨o,e,ex⟩:=z;refine ⟨⟨o,e,ex.1⟩,fun a e2=>?_⟩;cases e2;exact ⟨o,e,ex.2.1⟩
  ·obtain ⟨o,_,_,_,e,ex,_⟩:=I.hok p _ hk;refine ⟨⟨o,e,ex.1⟩,fun a e2=>?_⟩;cases e2;exact ⟨o,e,ex.2.1⟩
 | _=>exact False.elim ty
noncomputable def tBM (K:PySem.W.Frag) (T:String) (r:V→List V→Hp→VK→Prop) (to:TE) (t:TA):TE:=fun σ H Q=>to σ H fun x H1=>tyV K T x H1∧t σ H1 fun xs H2=>r x xs H2 Q
variable {o e:Expr} {es:List Expr} {to:TE} {t:TA} {name:Str} {apos cpos:Pos} {T id:String} {r:V→List V→Hp→VK→Prop}
theorem Mo (pa:PlainAttrs T) (slot:Slot T name id) (hty:typeOf (.builtin id)=pure (.type "method_descriptor")) (hm:MtR X id r) (ho:PE X o to) (ha:PA X (e :: es) t)
  (hbase:attributeBase o name X.env (eval o X.env)=eval o X.env:=by rfl)
  (hfew:((backTo cpos (starEach (e :: es) X.env)).all (fun x=>!x.1) && (backToKw cpos (keywordEach [] X.env)).all (fun x=>x.1.isSome)
   && decide ((e :: es).length + ([]:List Keyword).length + (if ([]:List Keyword).isEmpty then 0 else 1) < 30))=true:=by rfl)
  (hline:(apos.endLine == cpos.line)=true:=by rfl) (hs:starEach (e :: es) X.env=(false,eval e X.env) :: starEach es X.env:=by rfl) (hplain:(backTo cpos (starEach es X.env)).any (·.1)=false:=by rfl) :
  PE X (.Call (.Attribute o name apos) (e :: es) [] cpos) (tBM X.K T r to t):=by
 intro pins s σ H Q I h;refine wpAny_Call_method_late hbase hfew hline rfl (thn (ho pins s σ H _ I h) fun v s1 hZ1=>?_);obtain ⟨x,H1,I1,r1,ty,q1⟩:=hZ1;obtain ⟨h1,h2⟩:=wL I1 r1 ty;refine ⟨T,id,pa,slot,hty,h1,h2,?_⟩;have hA:=ha cpos pins s1 σ H1 _ I1 q1;rw [hs] at hA ⊢;refine Calls.callWith_builtin (by show (false || (backTo cpos (starEach es X.env)).any (·.1))=false;rw [hplain] <;> rfl) (Calls.evalArgs_plain ?_);exact thn hA fun us s2 ⟨vs,H2,I2,r2,q2⟩=>hm pins s2 σ H2 x vs v us Q I2 r1 r2 q2
end
end L2
namespace L2
open PySem PySem.Spec PyProof.Rows
noncomputable def MtM (X:Cx) (id:String) (r:V→List V→Hp→VK→Prop):Prop:=
 ∀ (pins:List (Addr × Obj)) (s:Shared) (σ:St) (H:Hp) (x:V) (xs:List V) (v:Value) (us:List Value) (Q:VK),Inv X pins σ H s→Jd x v→Dd xs us→r x xs H Q →
  wpAny (model X.prog X.w) X.A (call (.builtin id) (v :: us)) (EP X pins σ Q) X.xe s
theorem Dd.one:∀ {x:V} {us:List Value},Dd [x] us→∃ u,us=[u]∧Jd x u
 | _,_,.cons r .nil=>⟨_,rfl,r⟩
theorem Dd.two:∀ {x y:V} {us:List Value},Dd [x,y] us→∃ u v,us=[u,v]∧Jd x u∧Jd y v
 | _,_,_,.cons r (.cons q .nil)=>⟨_,_,rfl,r,q⟩
theorem Dd.zero:∀ {us:List Value},Dd [] us→us=[]
 | _,.nil=>rfl
theorem Dd.eraseIdx:∀ {xs:List V} {us:List Value} (i:Nat),Dd xs us→Dd (xs.eraseIdx i) (us.eraseIdx i)
 | _,_,_,.nil=>.nil
 | _,_,0,.cons _ t=>t
 | _,_,i + 1,.cons r t=>.cons r (Dd.eraseIdx i t)
theorem Dd.reverse {xs:List V} {us:List Value} (h:Dd xs us):Dd xs.reverse us.reverse:=by
 induction h with
 | nil=>exact .nil
 | cons r t ih=>rw [List.reverse_cons,List.reverse_cons];exact Dd.append ih (.cons r .nil)
theorem Hw {α:Type}:∀ (l:List α) (i:Nat),(l.eraseIdx i).length ≤ l.length
 | [],_=>Nat.le_refl _
 | _ :: _,0=>Nat.le_succ _
 | _ :: r,i + 1=>Nat.succ_le_succ (Hw r i)
section
variable {X:Cx} {pins:List (Addr × Obj)} {σ:St} {H:Hp} {s:Shared} {l b:Addr} {xs ys zs:List V}
theorem Inv.lset {its its':List Value} {n:Nat} {f:Array Value→Array Value} {t':Nat} (I:Inv X pins σ H s) (hH:H l=some (.lst xs))
  (e:s.heap.get? l=some { cls:=.type "list",data:=.seq its.toArray n }) (hf:f its.toArray=its'.toArray) (hv:Dd ys its') (hz:ys.length ≤ sizeLine) :
  Inv X pins σ (upd H l (.lst ys)) { s with heap:=s.heap.update l (Obj.mapSeq f),toks:=t' }:=by
 have q:=PySem.IsL.update e f;rw [hf] at q;refine I.write (x:=l) (e:=l) (by rw [hH];exact trivial) (.inl rfl) (fun b' u hb hu=>(Heap.get?_update_other s.heap (Obj.mapSeq f) (Ne.symm hb)).trans hu) ⟨_,q⟩ ?_;exact ⟨hz,its',_,hv,q⟩
theorem Inv.lnew {its:List Value} {t':Nat} (I:Inv X pins σ H s) (hv:Dd ys its) (hz:ys.length ≤ sizeLine) :
  Inv X pins σ (upd H s.heap.objs.size (.lst ys)) { s with heap:=s.heap.push { cls:=.type "list",data:=.seq its.toArray },toks:=t' }:=
 I.laid (fun _ _ q=>Heap.get?_push_of_some _ q) (Nat.le_refl _) ⟨hz,its,0,hv,Heap.get?_push_size _ rfl⟩
theorem Inv.fresh (I:Inv X pins σ H s):H s.heap.objs.size=none:=I.hok.fresh (Nat.le_refl _)
theorem Inv.lstM (I:Inv X pins σ H s) (hH:H l=some (.lst xs)):xs.length ≤ sizeLine∧∃ (its:List Value) (n:Nat),Dd xs its∧xs.length=its.length∧s.heap.get? l=some { cls:=.type "list",data:=.seq its.toArray n }:=by
 obtain ⟨z,its,n,r,e⟩:=I.hok l _ hH;exact ⟨z,its,n,r,r.length,e⟩
end
section
variable {X:Cx}
noncomputable def bD:V→List V→Hp→VK→Prop:=fun x vs H Q=>lj x fun l=>MB vs fun y=>∃ xs,H l=some (.lst xs)∧xs.length < sizeLine∧Q .non (upd H l (.lst (xs ++ [y])))
theorem Dh:MtM X "list.append" bD:=by
 intro pins s σ H x vs v us Q I rx rv h;obtain ⟨l,rfl,hzz⟩:=lj.out h;obtain ⟨y,rfl,xs,hH,hz,q⟩:=MB.out hzz;cases rx;obtain ⟨u,rfl,ru⟩:=rv.one;obtain ⟨z,its,n,r,hl,e⟩:=I.lstM hH;refine call_meets F.slot_list_append ⟨_,e,rfl⟩ F.entry_list_append (F.args_list_append_2 _ _) (PySem.list_append l its.toArray n u (by rw [List.size_toArray];omega)) ⟨e,?_⟩;refine ⟨.non,_,I.lset (its':=its ++ [u]) hH e (by simp) (r.append (.cons ru .nil)) ?_,rfl,q⟩;rw [List.length_append,List.length_singleton];omega
noncomputable def VH:V→List V→Hp→VK→Prop:=fun x vs H Q=>∃ l xs i k y,x=.ref l∧vs=[.int i]∧H l=some (.lst xs)∧-(2 ^ 63) ≤ i∧i < 2 ^ 63∧seqIndex? i xs.length=some k∧xs[k]? = some y∧Q y (upd H l (.lst (xs.eraseIdx k)))
theorem CH:MtM X "list.pop" VH:=by
 intro pins s σ H x vs v us Q I rx rv h;obtain ⟨l,xs,i,k,y,rfl,rfl,hH,h1,h2,hk,hy,q⟩:=h;cases rx;obtain ⟨u,rfl,ru⟩:=rv.one;obtain ⟨t,rfl⟩:=ru;obtain ⟨z,its,n,r,hl,e⟩:=I.lstM hH;obtain ⟨w,hw,rw'⟩:=r.get hy;refine call_meets F.slot_list_pop ⟨_,e,rfl⟩ F.entry_list_pop (F.args_list_pop_2 _ _)
  (MeetsSeq.list_pop_at l its.toArray n i t k w (fitsIndex_both h1 h2) (by rw [List.size_toArray,← hl];exact hk) (by rw [← Array.getElem?_toList];exact hw) (by rw [List.size_toArray];omega)) ⟨e,?_⟩
 refine ⟨y,_,I.lset (its':=its.eraseIdx k) hH e ?_ (r.eraseIdx k) ?_,rw',q⟩
 ·show its.toArray.eraseIdxIfInBounds k=(its.eraseIdx k).toArray;rw [List.eraseIdxIfInBounds_toArray]
 ·have:=Hw xs k;omega
noncomputable def pO:R2:=fun x y H Q=>∃ l b xs zs,x=.ref l∧y=.ref b∧H l=some (.lst xs)∧H b=some (.lst zs)∧xs.length + zs.length ≤ sizeLine∧∀ p,H p=none→Q (.ref p) (upd H p (.lst (xs ++ zs)))
theorem cL:OpR X (binaryOp .Add) pO:=by
 intro pins s σ H x y v u Q I rx ry h;obtain ⟨l,b,xs,zs,rfl,rfl,hH,hB,hz,q⟩:=h;cases rx;cases ry;obtain ⟨z,its,n,r,hl,e⟩:=I.lstM hH;obtain ⟨z2,its2,n2,r2,hl2,e2⟩:=I.lstM hB;refine PySem.P.add_list e e2 ?_ (by rw [List.size_toArray,List.size_toArray];omega);have ea:its.toArray ++ its2.toArray=(its ++ its2).toArray:=by simp
 rw [ea];exact ⟨.ref _,_,I.lnew (t':=s.toks) (r.append r2) (by rw [List.length_append];omega),rfl,q _ I.fresh⟩
end
section
variable {prog:Program} {w:World} {A:Around} {E:Value→Shared→Prop} {s:Shared}
end
section
variable {X:Cx}
end
end L2
namespace L2
open PySem PySem.Spec PyProof.Rows
section
variable {κ:Type} [DecidableEq κ]
noncomputable def jw (kvs:List (κ × V)) (k:κ):Option V:=(kvs.find? fun kv=>decide (kv.1=k)).map (·.2)
noncomputable def ay (kvs:List (κ × V)) (k:κ) (v:V):List (κ × V):=
 if (kvs.any fun kv=>decide (kv.1=k))=true then kvs.map (fun kv=>if kv.1=k then (kv.1,v) else kv) else kvs ++ [(k,v)]
noncomputable def OM (kvs:List (κ × V)) (k:κ):List (κ × V):=kvs.filter fun kv=>decide (kv.1 ≠ k)
theorem Wu {p:κ × V} {r:List (κ × V)} {k:κ} (e:p.1=k):jw (p :: r) k=some p.2:=by simp [jw,List.find?_cons,e]
theorem xv {p:κ × V} {r:List (κ × V)} {k:κ} (e:¬ p.1=k):jw (p :: r) k=jw r k:=by simp [jw,List.find?_cons,e]
theorem dB (k:κ):∀ kvs:List (κ × V),(kvs.any fun kv=>decide (kv.1=k))=(jw kvs k).isSome
 | []=>rfl
 | p :: r=>by
  rw [List.any_cons];by_cases e:p.1=k
  ·simp only [Wu e,decide_eq_true e,Bool.true_or,Option.isSome_some]
  ·rw [xv e,decide_eq_false e,Bool.false_or];exact dB k r
theorem Lq (kvs:List (κ × V)) (k:κ) (v:V):(ay kvs k v).length ≤ kvs.length + 1:=by
 unfold ay;split
 ·rw [List.length_map];omega
 ·rw [List.length_append,List.length_cons,List.length_nil];omega
theorem Ms.isSome_eq {o:Option V} {u:Option Value} (r:Ms o u):o.isSome=u.isSome:=by
 cases o with
 | none=>cases u with
  | none=>rfl
  | some _=>exact (show False from r).elim
 | some _=>cases u with
  | none=>exact (show False from r).elim
  | some _=>rfl
theorem Ms.getD {o:Option V} {u:Option Value} {d:V} {d':Value} (r:Ms o u) (rd:Jd d d'):Jd (o.getD d) (u.getD d'):=by
 cases o with
 | none=>cases u with
  | none=>exact rd
  | some _=>exact (show False from r).elim
 | some _=>cases u with
  | none=>exact (show False from r).elim
  | some _=>exact r
theorem KV.val {kvs:List (κ × V)} {vs:List (κ × Value)} (r:KV kvs vs) (k:κ):Ms (jw kvs k) (valueAt vs k):=by
 unfold KV at r
 induction r with
 | nil=>exact True.intro
 | @cons p q ps qs h t ih=>
  obtain ⟨h1,h2⟩:=h;by_cases e:p.1=k
  ·have e':q.1=k:=h1.symm.trans e;have b:valueAt (q :: qs) k=some q.2:=by simp [valueAt,List.find?_cons,e']
   rw [Wu e,b];exact h2
  ·have e':¬ q.1=k:=fun z=>e (h1.trans z)
   have b:valueAt (q :: qs) k=valueAt qs k:=by simp [valueAt,List.find?_cons,e']
   rw [xv e,b];exact ih
theorem KV.any {kvs:List (κ × V)} {vs:List (κ × Value)} (r:KV kvs vs) (k:κ):(kvs.any fun kv=>decide (kv.1=k))=vs.any fun kv=>decide (kv.1=k):=by
 unfold KV at r
 induction r with
 | nil=>rfl
 | cons h t ih=>rw [List.any_cons,List.any_cons,ih,h.1]
theorem KV.repl {kvs:List (κ × V)} {vs:List (κ × Value)} (r:KV kvs vs) (k:κ) {y:V} {u:Value} (ry:Jd y u) :
  KV (kvs.map fun kv=>if kv.1=k then (kv.1,y) else kv) (vs.map fun kv=>if kv.1=k then (kv.1,u) else kv):=by
 unfold KV at r ⊢
 induction r with
 | nil=>exact .nil
 | @cons p q ps qs h t ih=>
  rw [List.map_cons,List.map_cons];refine .cons ?_ ih;obtain ⟨h1,h2⟩:=h;by_cases e:p.1=k
  ·rw [if_pos e,if_pos (h1.symm.trans e)];exact ⟨h1,ry⟩
  ·rw [if_neg e,if_neg (fun z=>e (h1.trans z))];exact ⟨h1,h2⟩
theorem KV.put {kvs:List (κ × V)} {vs:List (κ × Value)} (r:KV kvs vs) (k:κ) {y:V} {u:Value} (ry:Jd y u):KV (ay kvs k y) (stored vs k u):=by
 unfold ay stored;rw [r.any k];by_cases e:(vs.any fun kv=>decide (kv.1=k))=true
 ·rw [if_pos e,if_pos e];exact r.repl k ry
 ·rw [if_neg e,if_neg e];exact Paired.snoc r ⟨rfl,ry⟩
theorem KV.drop {kvs:List (κ × V)} {vs:List (κ × Value)} (r:KV kvs vs) (k:κ):KV (OM kvs k) (without vs k):=by
 unfold KV at r ⊢;unfold OM without
 induction r with
 | nil=>exact .nil
 | @cons p q ps qs h t ih=>
  obtain ⟨h1,h2⟩:=h;rw [List.filter_cons,List.filter_cons];by_cases e:p.1=k
  ·have a:¬ decide (p.1 ≠ k)=true:=by simp [e]
   have b:¬ decide (q.1 ≠ k)=true:=by simp [h1.symm.trans e]
   rw [if_neg a,if_neg b];exact ih
  ·have e':¬ q.1=k:=fun z=>e (h1.trans z)
   have a:decide (p.1 ≠ k)=true:=by simp [e]
   have b:decide (q.1 ≠ k)=true:=by simp [e']
   rw [if_pos a,if_pos b];exact .cons ⟨h1,h2⟩ ih
theorem KV.length {kvs:List (κ × V)} {vs:List (κ × Value)} (r:KV kvs vs):kvs.length=vs.length:=Paired.length r
end
theorem uH {P:Program} {w:World} {k:Key} {u:Value} (r:Jd (kV k) u):(ig P w).is k u=true:=by
 cases k with
 | inl i=>obtain ⟨t,e⟩:=(show ∃ t,u=Value.int i t from r);subst e;exact ny P w i t
 | inr x=>obtain ⟨t,e⟩:=(show ∃ t,u=Value.str x t from r);subst e;exact Dy P w x t
theorem gx {P:Program} {w:World}:∀ {ks:List Key} {us:List Value},Dd (ks.map kV) us→ItemsAre (ig P w) ks us
 | [],_,r=>by rw [List.map_nil] at r;cases r;exact .nil
 | k :: ks,_,r=>by
  rw [List.map_cons] at r;cases r with
  | cons h t=>exact .cons (uH h) (gx t)
noncomputable abbrev KT (H:Hp):List (List Key × V)→List (List Key × Addr × Value)→Prop:=Paired fun p q=>p.1=q.1∧H q.2.1=some (.tup (p.1.map kV))∧Jd p.2 q.2.2
theorem KT.val {H:Hp} {kvs:List (List Key × V)} {xs:List (List Key × Addr × Value)} (r:KT H kvs xs) (k:List Key):Ms (jw kvs k) ((atKey xs k).map (·.2)):=by
 induction r with
 | nil=>exact True.intro
 | @cons p q ps qs h t ih=>
  obtain ⟨h1,_,h2⟩:=h;by_cases e:p.1=k
  ·have e':q.1=k:=h1.symm.trans e;have b:atKey (q :: qs) k=some q.2:=by simp [atKey,List.find?_cons,e']
   rw [Wu e,b];exact h2
  ·have e':¬ q.1=k:=fun z=>e (h1.trans z)
   have b:atKey (q :: qs) k=atKey qs k:=by simp [atKey,List.find?_cons,e']
   rw [xv e,b];exact ih
theorem KT.repl {H:Hp} {kvs:List (List Key × V)} {xs:List (List Key × Addr × Value)} (r:KT H kvs xs) (k:List Key) {y:V} {u:Value} (ry:Jd y u) :
  KT H (kvs.map fun kv=>if kv.1=k then (kv.1,y) else kv) (xs.map (putAt k u)):=by
 induction r with
 | nil=>exact .nil
 | @cons p q ps qs h t ih=>
  rw [List.map_cons,List.map_cons];refine .cons ?_ ih;obtain ⟨h1,h2,h3⟩:=h;unfold putAt;by_cases e:p.1=k
  ·rw [if_pos e,if_pos (h1.symm.trans e)];exact ⟨h1,h2,ry⟩
  ·rw [if_neg e,if_neg (fun z=>e (h1.trans z))];exact ⟨h1,h2,h3⟩
theorem KT.put {H:Hp} {kvs:List (List Key × V)} {xs:List (List Key × Addr × Value)} (r:KT H kvs xs) (k:List Key) {b:Addr} {y:V} {u:Value} (hb:H b=some (.tup (k.map kV))) (ry:Jd y u) :
  KT H (ay kvs k y) (storedH xs k b u):=by
 have e:(kvs.any fun kv=>decide (kv.1=k))=(atKey xs k).isSome:=by
  rw [dB,(r.val k).isSome_eq,Option.isSome_map]
 unfold ay storedH;rw [e];by_cases q:(atKey xs k).isSome=true
 ·rw [if_pos q,if_pos q];exact r.repl k ry
 ·rw [if_neg q,if_neg q];exact Paired.snoc r ⟨rfl,hb,ry⟩
theorem KT.keeps {H H':Hp} {kvs:List (List Key × V)} {xs:List (List Key × Addr × Value)} (r:KT H kvs xs) (ht:∀ b ys,H b=some (.tup ys)→H' b=some (.tup ys)):KT H' kvs xs:=
 Paired.mapP r fun _ _ z=>⟨z.1,ht _ _ z.2.1,z.2.2⟩
section
variable {P:Program} {w:World} {H:Hp} {h:Heap} {a:Addr}
theorem IM {u:HO} (ok:HOk P w H h) (e:Rd H a u):Xd P w H h a u:=e.ok ok
theorem BH {kvs:List (Key × V)} (ok:HOk P w H h) (e:Rd H a (.dK kvs)):kvs.length ≤ sizeLine∧(a == sysModules)=false∧∃ vs,KV kvs vs∧h.DictOf (ig P w) a vs:=
 show Xd P w H h a (.dK kvs) from IM ok e
theorem RN {kvs:List (Key × V)} (ok:HOk P w H h) (e:H a=some (.dK kvs)):kvs.length ≤ sizeLine∧(a == sysModules)=false∧∃ vs,KV kvs vs∧h.DictOf (ig P w) a vs:=BH ok (.inl e)
theorem zA {ks:List Key} (ok:HOk P w H h) (e:H a=some (.tup (ks.map kV))):(tupleKind (ig P w)).is h ks a:=by
 obtain ⟨_,its,r,o,h1,h2,n,h3⟩:=(show Xd P w H h a (.tup (ks.map kV)) from ok a _ e);exact ⟨o,its.toArray,n,h1,h2,h3,by simpa using gx r⟩
theorem GG {kvs:List (List Key × V)} (ok:HOk P w H h) (e:Rd H a (.dT kvs)):kvs.length ≤ sizeLine∧(a == sysModules)=false ∧
  ∃ xs,KT H kvs xs∧h.DictOfH (tupleKind (ig P w)) a xs:=by
 obtain ⟨z,y,xs,r,o,es,ep,h1,h2,h3,h4,h5⟩:=(show Xd P w H h a (.dT kvs) from IM ok e);refine ⟨z,y,xs,r,o,es,ep,h1,h2,h3,h4,fun x hx=>?_,h5⟩;have all:∀ {l:List (List Key × V)} {m:List (List Key × Addr × Value)},KT H l m→∀ x ∈ m,(tupleKind (ig P w)).is h x.1 x.2.1:=by
  intro l m q
  induction q with
  | nil=>intro x hx;exact nomatch hx
  | @cons p q ps qs hq t ih=>
   intro x hx;rcases List.mem_cons.mp hx with e | hx
   ·subst e;exact zA ok (by rw [← hq.1];exact hq.2.1)
   ·exact ih x hx
 exact all r x hx
theorem jN {kvs:List (List Key × V)} (ok:HOk P w H h) (e:H a=some (.dT kvs)):kvs.length ≤ sizeLine∧(a == sysModules)=false ∧
  ∃ xs,KT H kvs xs∧h.DictOfH (tupleKind (ig P w)) a xs:=GG ok (.inl e)
end
noncomputable def mw (H:Hp) (a:Addr) (y:V) (r:Option V):Prop:=
 (∃ kvs k,Rd H a (.dK kvs)∧y=kV k∧r=jw kvs k)∨∃ kvs k b,Rd H a (.dT kvs)∧y=.ref b∧H b=some (.tup (k.map kV))∧r=jw kvs k
noncomputable def aG (H:Hp) (a:Addr) (y v:V) (H':Hp):Prop:=
 (∃ kvs k,H a=some (.dK kvs)∧y=kV k∧kvs.length < sizeLine∧H'=upd H a (.dK (ay kvs k v))) ∨
 ∃ kvs k b,H a=some (.dT kvs)∧y=.ref b∧H b=some (.tup (k.map kV))∧kvs.length < sizeLine∧H'=upd H a (.dT (ay kvs k v))
theorem mw.k {H:Hp} {a:Addr} {kvs:List (Key × V)} {k:Key} (e:H a=some (.dK kvs)):mw H a (kV k) (jw kvs k):=.inl ⟨kvs,k,.inl e,rfl,rfl⟩
theorem mw.t {H:Hp} {a b:Addr} {kvs:List (List Key × V)} {k:List Key} (e:H a=some (.dT kvs)) (eb:H b=some (.tup (k.map kV))):mw H a (.ref b) (jw kvs k):=.inr ⟨kvs,k,b,.inl e,rfl,eb,rfl⟩
theorem aG.k {H:Hp} {a:Addr} {kvs:List (Key × V)} {k:Key} {v:V} (e:H a=some (.dK kvs)) (hl:kvs.length < sizeLine):aG H a (kV k) v (upd H a (.dK (ay kvs k v))):=.inl ⟨kvs,k,e,rfl,hl,rfl⟩
theorem aG.t {H:Hp} {a b:Addr} {kvs:List (List Key × V)} {k:List Key} {v:V} (e:H a=some (.dT kvs)) (eb:H b=some (.tup (k.map kV))) (hl:kvs.length < sizeLine) :
  aG H a (.ref b) v (upd H a (.dT (ay kvs k v))):=.inr ⟨kvs,k,b,e,rfl,eb,hl,rfl⟩
section
variable {X:Cx} {pins:List (Addr × Obj)} {σ:St} {H:Hp} {s:Shared} {a:Addr} {y v:V} {u r:Value} {o:Option V} {A:Around} {E:Value→Shared→Prop}
theorem Inv.big (I:Inv X pins σ H s):sysModules < s.heap.objs.size:=by
 have h:mainGlobals < s.heap.objs.size:=(I.mod.glob.keeps I.bk).lt;exact Nat.lt_trans (by decide) h
theorem QC {Q:Value→Shared→Prop} (hu:A.units + 1 < cLine) (I:Inv X pins σ H s) (g:mw H a y (some v)) (ry:Jd y u) (h:∀ w' s',Inv X pins σ H s'→Jd v w'→Q w' s') :
  wpAny (model X.prog X.w) A (getItem (.ref a) u) Q E s:=by
 rcases g with ⟨kvs,k,e,ey,l⟩ | ⟨kvs,k,b,e,ey,eb,l⟩
 ·subst ey;obtain ⟨z,hd,vs,rel,dd⟩:=BH I.hok e;obtain ⟨w',hw,rw'⟩:=Ms.some_of (v:=v) (o:=valueAt vs k) (by rw [l];exact rel.val k);exact wpAny_getItem_of (uH ry) dd.mapOf hw (h w' _ (I.tok _) rw')
 ·subst ey;cases (show u=Value.ref b from ry);obtain ⟨z,hd,xs,rel,dd⟩:=GG I.hok e;obtain ⟨w',hw,rw'⟩:=Ms.some_of (v:=v) (o:=(atKey xs k).map (·.2)) (by rw [l];exact rel.val k);obtain ⟨p,hp,hp2⟩:=Option.map_eq_some_iff.mp hw;refine wpAny_getItem_heap (tupleKind_room_in1 hu) (zA I.hok eb) dd hp ?_;rw [hp2];exact h w' _ (I.tok _) rw'
theorem QJ {Q:Value→Shared→Prop} (hu:A.units + 1 < cLine) (I:Inv X pins σ H s) (g:mw H a y o) (ry:Jd y u) (h:∀ s',Inv X pins σ H s'→Q (.bool (!o.isSome)) s') :
  wpAny (model X.prog X.w) A (compareOp .NotIn u (.ref a)) Q E s:=by
 rcases g with ⟨kvs,k,e,ey,l⟩ | ⟨kvs,k,b,e,ey,eb,l⟩
 ·subst ey;obtain ⟨z,hd,vs,rel,dd⟩:=BH I.hok e;refine wpAny_notIn_of (uH ry) hd dd.mapOf ?_;rw [← (rel.val k).isSome_eq,← l];exact h _ (I.tok _)
 ·subst ey;cases (show u=Value.ref b from ry);obtain ⟨z,hd,xs,rel,dd⟩:=GG I.hok e;refine wpAny_notIn_heap (tupleKind_room_in1 hu) (zA I.hok eb) hd dd ?_;have q:=(rel.val k).isSome_eq;rw [Option.isSome_map] at q;rw [← q,← l];exact h _ (I.tok _)
theorem pF {h':Heap} {t':Nat} {ob:HO} (I:Inv X pins σ H s) (mu:Mut (H a)) (hs:Heap.SameBut a s.heap h') (he:∃ q,h'.get? a=some q) (new:Xd X.prog X.w (upd H a ob) h' a ob) :
  Inv X pins σ (upd H a ob) { s with heap:=h',toks:=t' }:=
 I.write (x:=a) (e:=a) mu (.inl rfl) (fun b q hb z=>(hs.2 b hb).trans z) he new
theorem XL {P:Program} {w:World} {H':Hp} {h':Heap} {kvs:List (Key × V)} {vs:List (Key × Value)} (z:kvs.length ≤ sizeLine) (hd:(a == sysModules)=false) (rel:KV kvs vs) (dd:h'.DictOf (ig P w) a vs) :
  Xd P w H' h' a (.dK kvs):=⟨z,hd,vs,rel,dd⟩
theorem cD {H':Hp} {Q:Unit→Shared→Prop} (hu:A.units + 1 < cLine) (I:Inv X pins σ H s) (g:aG H a y v H') (ry:Jd y u) (rv:Jd v r) (h:∀ s',Inv X pins σ H' s'→Q () s') :
  wpAny (model X.prog X.w) A (setItem (.ref a) u r) Q E s:=by
 rcases g with ⟨kvs,k,e,ey,l,eH⟩ | ⟨kvs,k,b,e,ey,eb,l,eH⟩
 ·subst ey eH;obtain ⟨z,hd,vs,rel,dd⟩:=RN I.hok e;have hz:vs.length ≤ sizeLine:=by rw [← rel.length];exact z
  have hl:(ay kvs k v).length ≤ sizeLine:=by have:=Lq kvs k v;omega
  refine wpAny_setItem_pairs (hsz:=hz) (uH ry) dd fun h' dd' hs=>h _ ?_
  have he:∃ q,h'.get? a=some q:=let ⟨q,_,_,hq,_⟩:=dd';⟨q,hq⟩;exact pF I (by rw [e];exact True.intro) hs he (XL hl hd (rel.put k rv) dd')
 ·subst ey eH;cases (show u=Value.ref b from ry);obtain ⟨z,hd,xs,rel,dd⟩:=jN I.hok e;have hz:xs.length ≤ sizeLine:=by rw [← Paired.length rel];exact z
  have hl:(ay kvs k v).length ≤ sizeLine:=by have:=Lq kvs k v;omega
  refine wpAny_setItem_heap (hsz:=hz) (tupleKind_room_in1 hu) (zA I.hok eb) dd fun h' dd' hs=>h _ ?_
  obtain ⟨q,es,ep,hq,h2,h3,h4,_,h5⟩:=dd';refine pF I (by rw [e];exact True.intro) hs ⟨q,hq⟩ ⟨hl,hd,_,(rel.put k eb rv).keeps fun c ys ec=>?_,q,es,ep,hq,h2,h3,h4,h5⟩;rw [rb (kf ec e (fun z=>nomatch z))];exact ec
end
section
variable {X:Cx} {pins:List (Addr × Obj)} {σ:St} {H:Hp} {s:Shared} {a:Addr} {kvs:List (Key × V)} {k:Key} {u:Value} {A:Around} {E:Value→Shared→Prop}
end
noncomputable def XN (i:Expr):Prop:=∀ ov iv,subscripted i false ov iv=operate [ov,iv] (getItem ov iv)
theorem BJ {prog:Program} {w:World} {A:Around} {E:Value→Shared→Prop} {s:Shared} {env:Env} {value slice:Expr} {pos:Pos} {T id:String} {Q:Value→Shared→Prop}
  (hl:typeLookup (.type T) "__getitem__"=pure (some (.builtin id))) (hs:XN slice)
  (h:wpAny (model prog w) A (eval value env) (fun o s₁=>wpAny (model prog w) A (eval slice env) (fun i s₂=>s₂.TypeIs o T∧wpAny (model prog w) A (getItem o i) Q E s₂) E s₁) E s) :
  wpAny (model prog w) A (eval (.Subscript value slice pos) env) Q E s:=by
 refine Subscript_ (wpAny_mono h (fun o s₁ h₁=>wpAny_mono h₁ (fun i s₂ h₂=>?_) fun _ _ x=>x) fun _ _ x=>x);obtain ⟨hT,h₂⟩:=h₂;unfold subscriptTail;refine wpAny_bind ?_;rw [getitemInPython_of_ne hT.not_modules];refine wpAny_bind (wpAny_specialOf hT hl ?_);have fin:wpAny (model prog w) A (subscripted slice false o i) (fun r s₃=>wpAny (model prog w) A (letTemporaryGo value o r >>= fun _=>pure r) Q E s₃) E s₂:=by
  rw [hs o i];exact wpAny_operating (wpAny_mono h₂ (fun r s₃ h₃=>wpAny_bind (wpAny_letTemporaryGo (wpAny_pure h₃))) fun _ _ x=>x)
 first
  | exact wpAny_pure (wpAny_bind fin)
  | exact wpAny_bind (wpAny_pure (wpAny_bind fin))
  | exact wpAny_bind fin
theorem iz {X:Cx} {pins:List (Addr × Obj)} {σ:St} {H:Hp} {s:Shared} {a:Addr} {y:V} {o:Option V} (I:Inv X pins σ H s) (g:mw H a y o):s.TypeIs (.ref a) "dict" := by
 rcases g with ⟨kvs,k,e,_,_⟩ | ⟨kvs,k,b,e,_,_,_⟩
 ·obtain ⟨_,_,vs,_,dd⟩:=BH I.hok e;exact dd.typeIs
 ·obtain ⟨_,_,xs,_,dd⟩:=GG I.hok e;exact dd.typeIs
noncomputable def ZL (td ty:TE):TE:=fun σ H Q=>td σ H fun x H1=>ty σ H1 fun y H2=>lj x fun a=>∃ v,mw H2 a y (some v)∧Q v H2
noncomputable def pE (ty td:TE):TE:=fun σ H Q=>ty σ H fun y H1=>td σ H1 fun x H2=>lj x fun a=>∃ o,mw H2 a y o∧Q (.bl (!o.isSome)) H2
noncomputable def vL (td ty tv:TE):TS:=fun D σ H=>tv σ H fun v H1=>td σ H1 fun x H2=>ty σ H2 fun y H3=>lj x fun a=>∃ H4,aG H3 a y v H4∧D.nx σ H4
section
variable {X:Cx} {o i e value:Expr} {pos pos' tpos:Pos} {td ty tv:TE}
theorem Ny (hu:X.A.units + 1 < cLine) (ho:PE X o td) (hi:PE X i ty) (hs:XN i):PE X (.Subscript o i pos) (ZL td ty):=by
 intro pins s σ H Q I h;refine BJ PySem.F.slot_dict_getitem.lookup hs (thn (ho pins s σ H _ I h) fun u s1 ⟨x,H1,I1,rx,q1⟩=>thn (hi pins s1 σ H1 _ I1 q1) fun iv s2 hZ1=>?_);obtain ⟨y,H2,I2,ry,zq⟩:=hZ1;obtain ⟨a,ex,v,g,q2⟩:=lj.out zq;subst ex;obtain rfl:u=Value.ref a:=rx;exact ⟨iz I2 g,QC hu I2 g ry fun w' s3 I3 rw'=>⟨v,H2,I3,rw',q2⟩⟩
theorem VE (hu:X.A.units + 1 < cLine) (hi:PE X i ty) (ho:PE X o td):PC X .NotIn i o (pE ty td):=by
 intro pins s σ H Q I h;refine thn (hi pins s σ H _ I h) fun iv s1 ⟨y,H1,I1,ry,q1⟩=>thn (ho pins s1 σ H1 _ I1 q1) fun u s2 hZ1=>?_
 obtain ⟨x,H2,I2,rx,zq⟩:=hZ1;obtain ⟨a,ex,ov,g,q2⟩:=lj.out zq;subst ex;obtain rfl:u=Value.ref a:=rx;exact QJ hu I2 g ry fun s3 I3=>⟨.bl (!ov.isSome),H2,I3,rfl,q2⟩
theorem Rv (hu:X.A.units + 1 < cLine) (ho:PE X o td) (hi:PE X i ty) (hv:PE X value tv) (hs:swapsWith value (some (.Subscript o i pos')) pos.line X.env=pure false) :
  PS X (.Assign [.Subscript o i pos'] value pos) (vL td ty tv):=by
 intro pins s σ H D I h;refine wpAny_Assign_Subscript (thn (hv pins s σ H _ I h) fun r s1 ⟨v,H1,I1,rv,q1⟩=>thn (ho pins s1 σ H1 _ I1 q1) fun u s2 ⟨x,H2,I2,rx,q2⟩=>thn (hi pins s2 σ H2 _ I2 q2) fun iv s3 hZ1=>?_) hs;obtain ⟨y,H3,I3,ry,zq⟩:=hZ1;obtain ⟨a,ex,H4,g,q3⟩:=lj.out zq;subst ex;obtain rfl:u=Value.ref a:=rx;exact cD hu I3 g ry rv fun s4 I4=>⟨σ,H4,I4,q3⟩
end
theorem rG {P:Program} {w:World} {H:Hp} (h:Heap) (hb:sysModules < h.objs.size):Xd P w H (h.push { cls:=.type "dict",data:=.dict #[] }) h.objs.size (.dK []):=
 ⟨Nat.zero_le _,beq_eq_false_iff_ne.mpr (Ne.symm (Nat.ne_of_lt hb)),[],.nil,Heap.DictOf.new h⟩
noncomputable def tI:TE:=fun _ H Q=>∀ p,H p=none→Q (.ref p) (upd H p (.dK []))
section
variable {X:Cx} {pos:Pos}
theorem xq:PE X (.Dict [] [] pos) tI:=fun pins s σ H Q I h=>
 wpAny_Dict_empty ⟨.ref s.heap.objs.size,_,I.laid (a:=s.heap.objs.size) (o:=.dK []) (t':=s.toks) (fun _ _ q=>Heap.get?_push_of_some _ q) (Nat.le_refl _) (rG s.heap I.big),rfl,h _ (I.hok.fresh (Nat.le_refl _))⟩
end
structure M1 (X:Cx) (o:Expr) (m:Str) (apos:Pos) (e:Expr) (cpos:Pos):Prop where
 base:attributeBase o m X.env (eval o X.env)=eval o X.env
 few:((backTo cpos (starEach [e] X.env)).all (fun x=>!x.1) && (backToKw cpos (keywordEach [] X.env)).all (fun x=>x.1.isSome)
  && decide (([e]:List Expr).length + ([]:List Keyword).length + (if ([]:List Keyword).isEmpty then 0 else 1) < 30))=true
 line:(apos.endLine == cpos.line)=true
 trees:backTo cpos (starEach [e] X.env)=[(false,eval e X.env)]
structure M2 (X:Cx) (o:Expr) (m:Str) (apos:Pos) (e f:Expr) (cpos:Pos):Prop where
 base:attributeBase o m X.env (eval o X.env)=eval o X.env
 few:((backTo cpos (starEach [e,f] X.env)).all (fun x=>!x.1) && (backToKw cpos (keywordEach [] X.env)).all (fun x=>x.1.isSome)
  && decide (([e,f]:List Expr).length + ([]:List Keyword).length + (if ([]:List Keyword).isEmpty then 0 else 1) < 30))=true
 line:(apos.endLine == cpos.line)=true
 trees:backTo cpos (starEach [e,f] X.env)=[(false,eval e X.env),(false,eval f X.env)]
section
variable {X:Cx} {pins:List (Addr × Obj)} {σ:St} {H:Hp} {s:Shared} {a:Addr} {y d:V} {u r:Value} {o:Option V} {A:Around} {E:Value→Shared→Prop}
end
section
variable {X:Cx} {o e f:Expr} {apos cpos:Pos} {td ty tx:TE}
end
section
variable {X:Cx} {pins:List (Addr × Obj)} {σ:St} {H:Hp} {s:Shared} {a:Addr} {kvs:List (Key × V)} {A:Around} {E:Value→Shared→Prop}
end
section
variable {X:Cx} {pins:List (Addr × Obj)} {σ:St} {H:Hp} {s:Shared} {a:Addr} {y:V} {u:Value} {A:Around} {E:Value→Shared→Prop}
end
end L2
namespace Att
open PySem PySem.W PySem.Calls PyProof.Rows
theorem ir {P:Params} {h:Heap}:∀ (ns:List Int) (vs:List Value),WellAll P h vs (ns.map WData.int)→IntsAre vs ns:=by
 intro ns
 induction ns with
 | nil=>
  intro vs w;rw [List.map_nil] at w;cases w;exact .nil
 | cons n ns ih=>
  intro vs w;rw [List.map_cons] at w;cases w with
  | cons a b=>
   cases a;exact .cons _ _ (ih _ b)
theorem SF {l:OpenLaw} {n:Nat} (hn:l.most=some n) {P:Params} {h:Heap} {args:List WData} {vals:List Value}
  (hpre:l.row.toRowW.claim.pre args=true) (hwl:WellAll P h vals args) :
  ∃ a vs ns,vals=[Value.ref a]∧args=[WData.list (ns.map WData.int)]∧h.get? a=some { cls:=.type "list",data:=.seq vs.toArray }∧IntsAre vs ns∧ns.length ≤ n:=by
 have hsh:WShape.hasAll [] args [.list .int]=true:=(pre_splitW hpre).1;have hc:l.pre.holds [] { args:=args }=true:=(pre_splitW hpre).2;obtain ⟨d,r,rfl,h1,h2⟩:=hasAllW_cons hsh;obtain rfl:=hasAllW_nil h2;obtain ⟨xs,rfl,h3⟩:=hasW_list h1;obtain ⟨ns,rfl⟩:=items_int h3;have hlen:ns.length ≤ n:=by
  unfold OpenLaw.pre at hc;have h4:(WTm.not (.lt (.lit (.int (n:Int))) (.len (.arg 0)))).holds [] { args:=[.list (ns.map .int)] }=true:=by
   have h4:=(holds_andW hc).1;rw [hn] at h4;exact h4
  have h5:=condW_of h4 (w_not (w_lt w_lit (w_len_list (w_arg rfl))));rw [List.length_map] at h5;refine Nat.le_of_not_lt fun q=>?_
  have q':(n:Int) < ((ns.length:Nat):Int):=by omega
  first
   | (rw [decide_eq_true q'] at h5;exact absurd h5 (by decide))
   | (simp at h5;omega)
 cases hwl with
 | cons w1 w2=>
  cases w2;cases w1 with
  | list ho hall=>exact ⟨_,_,ns,rfl,rfl,ho,ir ns _ hall,hlen⟩
theorem TC (l:OpenLaw) (args:List WData):l.row.toRowW.claim.post args (.bool true) args=true:=
 postW_of (r:=l.row.toRowW) (X:=(true == true))
  (show WShape.has [] (.bool true) .bool=true by first | rfl | decide | simp [WShape.has,WShape.arms,WShape.armsAll])
  (show (WTm.eq .res (.lit (.bool true))).value [] { args:=args,res:=some (.bool true),after:=args }=some (.bool (true == true)) from w_eq_bool (w_res rfl) w_lit) rfl
theorem attach_call {l:OpenLaw} {n:Nat} {q:Program} {loose:List Str} {XP:(Str→Option Value)→Heap→Prop} {YP:World→Heap→Prop} {d:DefRec}
  (hn:l.most=some n) (hdf:d.params.defaults=[])
  (call:∀ (w:World) (s₀ s₁:Shared) (mg mb:Str→Option Value) (fa:Addr) (o:Obj) (pm cd doc:Value) (a:Addr) (vs:List Value) (ns:List Int),
   Ground q loose [] XP w s₀ mg mb s₁.heap→YP w s₁.heap →
   s₁.heap.get? fa=some o→o.data=.func (docDef d.name d.params d.body d.scope pm cd doc)→s₁.heap.CodeRec cd d.name→mg d.name=some (.ref fa) →
   s₁.heap.get? a=some { cls:=.type "list",data:=.seq vs.toArray }→IntsAre vs ns→ns.length ≤ n→s₁.gens=#[] →
   codeAny (model l.prog w) callerA (.call (.ref fa) ⟨[.ref a],[]⟩) (fun r s'=>r=.ok (.ret (.bool true))∧OldK s₁.heap s'.heap∧s'.os=s₁.os∧AllBare s'.gens) s₁) :
  WalkO q loose XP YP l.row.toRowW d [] (fun f vs=>PySem.call f vs):=by
 intro w s₀ s₁ mg mb G Y fa o pm cd doc dV kV ho hd hcd hD hmg hg args vals as hpre hlay hrd hwl hlo;obtain rfl:dV=.none:=Dflts.none hD hdf;obtain rfl:kV=.none:=Dflts.noKw hD;obtain ⟨a,vs,ns,rfl,rfl,hobj,hints,hlen⟩:=SF hn hpre hwl;refine enter_call (codeAny_mono (call w s₀ s₁ mg mb fa o pm cd doc a vs ns G Y ho (fd_plain hd) hcd hmg hobj hints hlen hg) fun r s' hq=>?_);obtain ⟨rfl,h2,h3,h4⟩:=hq;exact ⟨.inl ⟨.bool true,.bool true,[],rfl,fun _=>rfl,.bool true,TC l _,fun _=>⟨List.Pairwise.nil,fun _ hm=>(nomatch hm)⟩⟩,h2,h3,h4⟩
section
variable {prog:Program} {w:World} {A:Around} {E:Value→Shared→Prop} {s:Shared} {K:Frag}
end
end Att
namespace L2
open PySem PySem.Spec PyProof.Rows
theorem Nx:∀ {vs:List Value} {ns:List Int},IntsAre vs ns→Dd (ns.map V.int) vs
 | _,_,.nil=>.nil
 | _,_,.cons n t h=>.cons ⟨t,rfl⟩ (Nx h)
noncomputable def PM (H:Hp):Prop:=∀ b,H b=none∨∃ o xs,H b=some (.frz o (.lst xs))
theorem PH {P:Program} {w:World} {K:PySem.W.Frag} {mg mb:Str→Option Value} {CX:CXT} {k:Nat} {fa a:Addr} {fd:FuncData} {x:Str} {sp:Sp} {s₁:Shared} {vs:List Value} {ns:List Int}
  (KX:K.In s₁.heap) (hns:s₁.heap.Ns mainGlobals mg) (hb:s₁.heap.Ns builtinsNs mb) (hbb:∀ x:Str,x ≠ "__name__" → mb x=bootBuiltins x) (hlim:s₁.heap.NoLimit) (hg:s₁.gens=#[])
  (ha:s₁.heap.get? a=some { cls:=.type "list",data:=.seq vs.toArray }) (hi:IntsAre vs ns) (hl:ns.length ≤ sizeLine) (hr:Ni k callerA)
  (F:∀ base:Heap,K.In base→base.Ns mainGlobals mg→Kb P w K mg base CX k fa fd [x] sp) (hbind:∀ (s:Shared) (u:Value),BindsTo s fd ⟨[u],[]⟩ [(x,u)])
  (hsp:∀ H:Hp,PM H→SqL K H a (ns.map V.int)→sp [.ref a] H (fun v _=>v=.bl true) fun _ _ _=>False)
  (hCX:∀ H e s',CX [] H s₁ (fun _ _ _=>False) e s'→False) :
  codeAny (model P w) callerA (.call (.ref fa) ⟨[.ref a],[]⟩) (fun r s'=>r=.ok (.ret (.bool true))∧OldK s₁.heap s'.heap∧s'.os=s₁.os∧AllBare s'.gens) s₁:=by
 have rv:=Nx hi;have lenV:=hi.length;have core:∀ H:Hp,PM H→SqL K H a (ns.map V.int)→HOk P w H s₁.heap→(∀ b,H b ≠ none→b=a)→(H a ≠ none→K.lookup a=none) →
   codeAny (model P w) callerA (.call (.ref fa) ⟨[.ref a],[]⟩) (fun r s'=>r=.ok (.ret (.bool true))∧OldK s₁.heap s'.heap∧s'.os=s₁.os∧AllBare s'.gens) s₁:=by
  intro H hO hS hok hA hK;have base_of:∀ {b:Addr} {o:Obj},s₁.heap.get? b=some o→H b=none→(EG s₁.heap H).get? b=some o:=fun e n=>iH e n
  have noA:∀ {b:Addr} {o:Obj} {es:Array DictEntry} {ep:Nat},s₁.heap.get? b=some o→o.data=.dict es ep→H b=none:=fun {b o es ep} e d=>by
   cases q:H b with
   | none=>rfl
   | some u=>
    have e':b=a:=hA b (by rw [q];simp);subst e';rw [ha] at e;cases e;have d':Data.seq vs.toArray _=Data.dict es ep:=d;cases d'
  have nsK:∀ {b:Addr} {m:Str→Option Value},s₁.heap.Ns b m→(EG s₁.heap H).Ns b m:=fun {b m} ⟨o,es,ep,e,d,r⟩=>⟨o,es,ep,base_of e (noA e d),d,r⟩
  have hKb:K.In (EG s₁.heap H):=fun b o e=>base_of (KX b o e) (by
   cases q:H b with
   | none=>rfl
   | some u=>
    have e':b=a:=hA b (by rw [q];simp);subst e';rw [hK (by rw [q];simp)] at e;cases e)
  have hM:Mod K mg (EG s₁.heap H):=⟨hKb,nsK hns,⟨mb,nsK hb,hbb⟩,let ⟨mc,h1,h2⟩:=hlim;⟨mc,nsK h1,h2⟩⟩;have e0:NB P w K mg (EG s₁.heap H) callerA [] s₁ H:=⟨rfl,hM,fun b o e=>yK e,Nat.le_of_eq (gG _ _),trivial,fun b hb=>absurd (show b ∈ ([]:List Addr) from hb) (by simp),hok,.of_eq hg⟩;refine codeAny_mono ((F _ hKb (nsK hns)).run callerA [] s₁ H ⟨[.ref a],[]⟩ [.ref a] [.ref a] _ _ hr e0 (hbind s₁ (.ref a)) (.cons rfl .nil) (hsp H hO hS)) fun r s' h=>?_
  cases r with
  | error e=>exact (hCX H e s' h).elim
  | ok fl=>
   cases fl with
   | next=>exact False.elim h
   | brk=>exact False.elim h
   | cont=>exact False.elim h
   | ret u=>
    obtain ⟨v,H',os,bare,un,hok',r',q⟩:=h;have q':v=.bl true:=q;subst q';obtain rfl:u=Value.bool true:=r';refine ⟨rfl,OldK.of_keep fun b o e=>?_,os,bare⟩;cases q:H b with
    | none=>exact un.keep b o e q (by intro z;exact absurd (show b ∈ ([]:List Addr) from z) (by simp)) (by simp)
    | some u=>
     rcases hO b with z | ⟨ob,xs,z⟩
     ·rw [q] at z;cases z
     ·have z2:=un.frzs b ob _ z;obtain ⟨e1,_⟩:=hok b _ z;obtain ⟨e2,_⟩:=hok' b _ z2;rw [e] at e1;cases e1;exact e2
 cases hk:K.lookup a with
 | some o=>
  have e:=KX a o hk;rw [ha] at e;cases e;refine core (fun _=>none) (fun _=>.inl rfl) (.inr ⟨_,vs.toArray,_,hk,rfl,rfl,rfl,by rw [List.size_toArray,lenV];exact hl,by simpa using rv⟩) (fun b u z=>by have z':(none:Option HO)=some u:=z;cases z') (fun b z=>absurd rfl z) fun z=>absurd rfl z
 | none=>
  refine core (fun b=>if b=a then some (.frz { cls:=.type "list",data:=.seq vs.toArray } (.lst (ns.map V.int))) else none) (fun b=>?_) (.inl (.inr ⟨{ cls:=.type "list",data:=.seq vs.toArray },if_pos rfl⟩)) (fun b u z=>?_) (fun b z=>?_) fun _=>hk
  ·by_cases hb:b=a
   ·exact .inr ⟨_,_,if_pos hb⟩
   ·exact .inl (if_neg hb)
  ·by_cases hb:b=a
   ·have z':=(if_pos hb).symm.trans z;cases z';subst hb;exact ⟨ha,by rw [List.length_map];exact hl,vs,_,rv,ha⟩
   ·have z':=(if_neg hb).symm.trans z;cases z'
  ·by_cases hb:b=a
   ·exact hb
   ·exact absurd (if_neg hb) z
end L2
namespace L2
open PySem PySem.Spec PyProof.Rows
noncomputable abbrev KOf {K:PySem.W.Frag} {h:Heap} (_:K.In h):PySem.W.Frag:=K
theorem tJ {l:PySem.W.OpenLaw} {n k:Nat} {q:Program} {loose:List Str} {XP:(Str→Option Value)→Heap→Prop} {YP:World→Heap→Prop} {d:DefRec} {K:Params→PySem.W.Frag} {CX:World→CXT} {sp:World→Sp} {x:Str}
  (hn:l.most=some n) (hn2:n ≤ sizeLine) (hdf:d.params.defaults=[]) (hr:Ni k callerA)
  (hY:∀ (w:World) (h:Heap),YP w h→(K w.params).In h)
  (F:∀ (w:World) (mg:Str→Option Value) (fa:Addr) (h:Heap),(K w.params).In h→h.Ns mainGlobals mg→mg d.name=some (.ref fa) →
   ∃ fd:FuncData,(∀ (s:Shared) (u:Value),BindsTo s fd ⟨[u],[]⟩ [(x,u)]) ∧
    ∀ base:Heap,(K w.params).In base→base.Ns mainGlobals mg→Kb l.prog w (K w.params) mg base (CX w) k fa fd [x] (sp w))
  (hsp:∀ (w:World) (H:Hp) (a:Addr) (ns:List Int),ns.length ≤ n→PM H→SqL (K w.params) H a (ns.map V.int)→sp w [.ref a] H (fun v _=>v=.bl true) fun _ _ _=>False)
  (hCX:∀ (w:World) (H:Hp) (s:Shared) (e:Value) (s':Shared),CX w [] H s (fun _ _ _=>False) e s'→False) :
  PySem.W.WalkO q loose XP YP l.row.toRowW d [] (fun f vs=>PySem.call f vs):=by
 refine Att.attach_call hn hdf fun w s₀ s₁ mg mb fa o pm cd doc a vs ns G Y ho hd hcd hmg hobj hints hlen hg=>?_
 have KX:=hY w _ Y;obtain ⟨fd,hb,hF⟩:=F w mg fa _ KX G.T.g hmg;exact PH KX G.T.g G.T.b G.T.builtins G.T.nolimit hg hobj hints (Nat.le_trans hlen hn2) hr hF hb (fun H hO hS=>hsp w H a ns hlen hO hS) fun H e s'=>hCX w H s₁ e s'
theorem LH {l:PySem.W.OpenLaw} {n k:Nat} {q:Program} {loose:List Str} {XP:(Str→Option Value)→Heap→Prop} {YP:World→Heap→Prop} {d:DefRec} {K:Params→PySem.W.Frag} {CX:CXT} {sp:PySem.W.Frag→Sp} {x:Str}
  (hn:l.most=some n) (hn2:n ≤ sizeLine) (hdf:d.params.defaults=[]) (hr:Ni k callerA)
  (hY:∀ (w:World) (h:Heap),YP w h→(K w.params).In h)
  (F:∀ (w:World) (mg:Str→Option Value) (fa:Addr) (h:Heap),(K w.params).In h→h.Ns mainGlobals mg→mg d.name=some (.ref fa) →
   ∃ fd:FuncData,(∀ (s:Shared) (u:Value),BindsTo s fd ⟨[u],[]⟩ [(x,u)]) ∧
    ∀ base:Heap,(K w.params).In base→base.Ns mainGlobals mg→Kb l.prog w (K w.params) mg base CX k fa fd [x] (sp (K w.params)))
  (hsp:∀ (K:PySem.W.Frag) (H:Hp) (a:Addr) (ns:List Int),ns.length ≤ n→PM H→SqL K H a (ns.map V.int)→sp K [.ref a] H (fun v _=>v=.bl true) fun _ _ _=>False)
  (hCX:∀ (H:Hp) (s:Shared) (e:Value) (s':Shared),CX [] H s (fun _ _ _=>False) e s'→False) :
  PySem.W.WalkO q loose XP YP l.row.toRowW d [] (fun f vs=>PySem.call f vs):=
 tJ (K:=K) (CX:=fun _=>CX) (sp:=fun w=>sp (K w.params)) hn hn2 hdf hr hY F (fun w H a ns h1 h2 h3=>hsp (K w.params) H a ns h1 h2 h3) fun _ H s e s'=>hCX H s e s'
end L2
namespace L2
open PySem PySem.Spec PyProof.Rows
noncomputable def kd (s:Stmt) (j:Nat):Stmt:=match s with
 | .ClassDef _ _ _ body _ _ _ _ _ _ _=>body.getD j (.Pass ⟨0,0,0,0⟩)
 | _=>.Pass ⟨0,0,0,0⟩
noncomputable def fw (s:Stmt):Arguments:=match s with
 | .FunctionDef _ a _ _ _ _ _ _ _ _=>a
 | _=>{ posonlyargs:=[],args:=[],vararg:=none,kwonlyargs:=[],kw_defaults:=[],kwarg:=none,defaults:=[] }
noncomputable def cn (s:Stmt):List Stmt:=match s with
 | .FunctionDef _ _ b _ _ _ _ _ _ _=>b
 | _=>[]
noncomputable def ib (s:Stmt):Scope:=match s with
 | .FunctionDef _ _ _ _ _ _ sc _ _ _=>sc
 | _=>{ kind:=.function,names:=[],isGenerator:=false,isCoroutine:=false }
noncomputable abbrev CX0:CXT:=fun _ _ _ _ _ _=>False
noncomputable abbrev E0:XK:=fun _ _ _=>False
theorem Hd {X:Cx}:Vk CX0 X E0:=fun _ _ _ _ _ _ _ h=>h.elim
structure Fun (K:PySem.W.Frag) (x qual:Str) (st:Stmt) (f:Addr) (fd:FuncData):Prop where
 ex:∃ (oc:Value) (od:Option Addr) (kV doc pm:Value) (an:Option Addr) (cdv ct:Value) (osl:Array (Option Value)),
  fd=PySem.W.fnOf x qual (fw st) (cn st) (ib st) .none kV doc pm an cdv ct∧K.lookup f=some ⟨oc,od,.func fd,osl⟩∧PySem.W.codeIn K cdv qual=true
 kp:PySem.W.keepIn K (.ref f)=true
section
variable {P:Program} {w:World} {K:PySem.W.Frag} {mg:Str→Option Value} {base:Heap}
theorem Fun.ok {x qual:Str} {st:Stmt} {f:Addr} {fd:FuncData} {N ps:List Str} {k:Nat} {sp:Sp} (F:Fun K x qual st f fd) (S:Cb N ps (ib st)) (len:∀ vs H Q E,sp vs H Q E→vs.length=ps.length)
  (hbody:∀ (cdv:Value) (A:Around) (outer:List Env) (s:Shared) (H:Hp) (vs:List V) (Q:VK) (E:XK),Ni k (A.deeper (envOfC qual (ib st) s.heap.objs.size f cdv))→sp vs H Q E →
   ∃ t,PSs (qF CX0 P w K mg base N qual (ib st) f cdv A outer s H E).nox (cn st) t∧t { nx:=fun _ H'=>Q .non H',rt:=Q } (start N vs) H):Kb P w K mg base CX0 (k + 1) f fd ps sp:=by
 obtain ⟨oc,od,kV,doc,pm,an,cdv,ct,osl,rfl,lk,hcd⟩:=F.ex;refine xM lk hcd S len fun A outer s H vs Q E hr hsp=>?_
 obtain ⟨t,h,q⟩:=hbody cdv A outer s H vs Q E hr hsp;exact ⟨t,h.nox,q⟩
theorem Fun.binds {x qual:Str} {st:Stmt} {f:Addr} {fd:FuncData} {ps:List Str} (F:Fun K x qual st f fd)
  (h:∀ (kV doc pm:Value) (an:Option Addr) (cdv ct:Value) (us:List Value),us.length=ps.length→bindArgs (PySem.W.fnOf x qual (fw st) (cn st) (ib st) .none kV doc pm an cdv ct) ⟨us,[]⟩=pure (ps.zip us)):Zb K fd ps []:=by
 obtain ⟨oc,od,kV,doc,pm,an,cdv,ct,osl,rfl,lk,hcd⟩:=F.ex;exact .all (h kV doc pm an cdv ct)
theorem HL {x qual:Str} {st:Stmt} {f:Addr} {oc:Value} {od an:Option Addr} {osl:Array (Option Value)} {kV doc pm cdv ct:Value} (l:K.lookup f=some ⟨oc,od,.func (PySem.W.fnOf x qual (fw st) (cn st) (ib st) .none kV doc pm an cdv ct),osl⟩)
  (c:PySem.W.codeIn K cdv qual=true) (k:PySem.W.keepIn K (.ref f)=true):Fun K x qual st f (PySem.W.fnOf x qual (fw st) (cn st) (ib st) .none kV doc pm an cdv ct):=⟨⟨oc,od,kV,doc,pm,an,cdv,ct,osl,rfl,l,c⟩,k⟩
end
theorem wG {A:Around} {k:Nat} (hr:Ni k A):A.units + 1 < cLine:=Nat.lt_of_le_of_lt (Nat.add_le_add_left (by decide:1 ≤ 64) _) hr.units
section
variable {X:Cx}
theorem pv (i:Nat) {x:Str} {pos:Pos} (hN:X.N[i]? = some x:=by rfl) (hv:Vis X.env.scope x:=by first | exact Or.inl rfl | exact Or.inr (Or.inl rfl) | exact Or.inr (Or.inr rfl)) (hd:(x == ("__debug__" : Str))=false:=by decide)
  (hcd:(x == ("__classdict__" : Str))=false:=by decide):PE X (.Name x pos) (AN i):=wM hN hv hd hcd
end
noncomputable def dc (H H':Hp):Prop:=∀ b o,H b=some o→H' b=some o
theorem dc.refl (H:Hp):dc H H:=fun _ _ h=>h
theorem dc.trans {H H1 H2:Hp} (a:dc H H1) (b:dc H1 H2):dc H H2:=fun c o h=>b c o (a c o h)
theorem dc.free {H H':Hp} (e:dc H H') {l:Addr} (h:H' l=Option.none):H l=Option.none:=by
 cases q:H l with
 | none=>rfl
 | some o=>
  rw [e l o q] at h;cases h
theorem dc.seq {K:PySem.W.Frag} {H H':Hp} {a:Addr} {xs:List V} (e:dc H H') (h:SqL K H a xs):SqL K H' a xs:=by
 rcases h with (h | ⟨o,h⟩) | h
 ·exact .inl (.inl (e _ _ h))
 ·exact .inl (.inr ⟨o,e _ _ h⟩)
 ·exact .inr h
section
variable {κ:Type} [DecidableEq κ]
end
end L2
set_option maxHeartbeats 4000000
namespace L2
open PySem PySem.Spec PyProof.Rows
noncomputable def Nu (cells:List (Str × Addr)):List (Str × NameKind)→List (Str × Addr)→List (Str × Addr)
 | [],acc=>acc
 | (n,k) :: r,acc=>if k == .free then (match cells.lookup n with | some c=>Nu cells r ((n,c) :: acc) | none=>Nu cells r acc) else Nu cells r acc
theorem Cz {env:Env}:∀ (names:List (Str × NameKind)) (acc:List (Str × Addr)),(∀ y ∈ names,y.2=.free→∃ c,env.cells.lookup y.1=some c) →
  (forIn names acc (fun (x:Str × NameKind) (cs:List (Str × Addr))=>(if (x.2 == .free)=true then do let a ← cellOf env x.1;pure (ForInStep.yield ((x.1,a) :: cs)) else pure (ForInStep.yield cs):Sem (ForInStep (List (Str × Addr))))))=pure (Nu env.cells names acc)
 | [],acc,_=>rfl
 | (n,k) :: r,acc,h=>by
  have hr:∀ y ∈ r,y.2=.free→∃ c,env.cells.lookup y.1=some c:=fun y hy=>h y (List.mem_cons_of_mem _ hy)
  rw [List.forIn_cons];by_cases hk:(k == NameKind.free)=true
  ·have e:k=.free:=by simpa using hk
   obtain ⟨c,hc⟩:=h (n,k) List.mem_cons_self e;have hc':env.cells.lookup n=some c:=hc;simp only [Nu,hk,if_true,hc',cellOf];exact Cz r _ hr
  ·simp only [Nu,hk];exact Cz r _ hr
theorem kz {scope:Scope} {env:Env} (h:∀ y ∈ scope.names,y.2=.free→∃ c,env.cells.lookup y.1=some c):closureFor scope env=pure (Nu env.cells scope.names []):=by
 unfold closureFor;exact congrArg (fun t=>t >>= pure) (Cz scope.names [] h)
theorem nq {cells:List (Str × Addr)}:∀ (names:List (Str × NameKind)) (acc:List (Str × Addr)) {x:Str} {c:Addr},(Nu cells names acc).lookup x=some c→acc.lookup x=some c∨cells.lookup x=some c
 | [],acc,x,c,h=>.inl h
 | (n,k) :: r,acc,x,c,h=>by
  unfold Nu at h;split at h
  ·cases q:cells.lookup n with
   | none=>rw [q] at h;exact nq r acc h
   | some d=>
    rw [q] at h;rcases nq r _ h with z | z
    ·rw [List.lookup_cons] at z;by_cases hx:(x == n)=true
     ·rw [hx] at z;have e:x=n:=by simpa using hx
      subst e
      right;rw [q];exact z
     ·have hx':(x == n)=false:=by simpa using hx
      rw [hx'] at z;exact .inl z
    ·exact .inr z
  ·exact nq r acc h
theorem oo {cells:List (Str × Addr)}:∀ (names:List (Str × NameKind)) (acc:List (Str × Addr)) {x:Str} {c:Addr},acc.lookup x=some c→cells.lookup x=some c→(Nu cells names acc).lookup x=some c
 | [],acc,x,c,h,_=>h
 | (n,k) :: r,acc,x,c,h,hc=>by
  unfold Nu;split
  ·cases q:cells.lookup n with
   | none=>exact oo r acc h hc
   | some d=>
    refine oo r _ ?_ hc;rw [List.lookup_cons];by_cases hx:(x == n)=true
    ·have e:x=n:=by simpa using hx
     subst e;rw [hx];rw [q] at hc;exact hc
    ·have hx':(x == n)=false:=by simpa using hx
     rw [hx'];exact h
  ·exact oo r acc h hc
theorem so {cells:List (Str × Addr)}:∀ (names:List (Str × NameKind)) (acc:List (Str × Addr)) {x:Str} {c:Addr},(x,NameKind.free) ∈ names→cells.lookup x=some c→(Nu cells names acc).lookup x=some c
 | [],_,_,_,h,_=>nomatch h
 | (n,k) :: r,acc,x,c,h,hc=>by
  rcases List.mem_cons.mp h with e | h
  ·cases e;unfold Nu;rw [if_pos (by decide),hc];refine oo r _ ?_ hc;rw [List.lookup_cons];simp
  ·unfold Nu;split
   ·cases q:cells.lookup n with
    | none=>exact so r acc h hc
    | some d=>exact so r _ h hc
   ·exact so r acc h hc
theorem jp {α:Type}:∀ {l:List (Str × α)} {x:Str} {a:α},l.lookup x=some a→(x,a) ∈ l
 | [],_,_,h=>by simp at h
 | (n,b) :: r,x,a,h=>by
  rw [List.lookup_cons] at h;by_cases hx:(x == n)=true
  ·have e:x=n:=by simpa using hx
   subst e;rw [hx] at h;have e2:b=a:=Option.some.inj h;subst e2;exact List.mem_cons_self
  ·have hx':(x == n)=false:=by simpa using hx
   rw [hx'] at h;exact List.mem_cons_of_mem _ (jp h)
theorem az {env:Env} {scope:Scope} {x:Str} {k:NameKind} (h:(relabel scope env).names.lookup x=some k) (hk:k=.cell∨k=.free) (hc:∀ y ∈ scope.names,y.2 ≠ .cell):(x,NameKind.free) ∈ scope.names:=by
 have h1:=jp h;obtain ⟨⟨n,j⟩,hm,e⟩:=List.mem_map.mp h1;have e':(if (j == NameKind.free && env.scope.kind == .function && env.kindOf n == some .cell)=true then (n,NameKind.cell) else (n,j))=(x,k):=e;split at e'
 ·rename_i hcond;have e1:n=x:=(Prod.mk.inj e').1;subst e1;have hj:j=.free:=by
   simp only [Bool.and_eq_true] at hcond;simpa using hcond.1.1
  subst hj;exact hm
 ·have e1:n=x:=(Prod.mk.inj e').1;have e2:j=k:=(Prod.mk.inj e').2;subst e1;subst e2;rcases hk with z | z
  ·exact absurd z (hc _ hm)
  ·subst z;exact hm
theorem Om {env:Env} {scope:Scope} {x:Str} (h:scope.names.lookup x=some .free):(relabel scope env).names.lookup x=some .cell∨(relabel scope env).names.lookup x=some .free:=by
 have all:∀ (names:List (Str × NameKind)),names.lookup x=some .free →
   (names.map fun (n,k)=>if (k == NameKind.free && env.scope.kind == .function && env.kindOf n == some .cell) then (n,NameKind.cell) else (n,k)).lookup x=some .cell ∨
   (names.map fun (n,k)=>if (k == NameKind.free && env.scope.kind == .function && env.kindOf n == some .cell) then (n,NameKind.cell) else (n,k)).lookup x=some .free:=by
  intro names
  induction names with
  | nil=>intro h;simp at h
  | cons p r ih=>
   obtain ⟨n,k⟩:=p;intro h;rw [List.map_cons];by_cases hx:(x == n)=true
   ·simp only [List.lookup_cons,hx] at h;have hk:k=.free:=Option.some.inj h;subst hk;by_cases hc:(NameKind.free == NameKind.free && env.scope.kind == .function && env.kindOf n == some .cell)=true
    ·left;simp only [if_pos hc,List.lookup_cons,hx]
    ·right;simp only [if_neg hc,List.lookup_cons,hx]
   ·have hx':(x == n)=false:=by simpa using hx
    simp only [List.lookup_cons,hx'] at h;by_cases hc:(k == NameKind.free && env.scope.kind == .function && env.kindOf n == some .cell)=true
    ·simp only [if_pos hc,List.lookup_cons,hx'];exact ih h
    ·simp only [if_neg hc,List.lookup_cons,hx'];exact ih h
 exact all scope.names h
noncomputable abbrev Cx.block (X:Cx) (scope:Scope) (C:Addr) (N:List Str) (s:Shared) (H:Hp) (fp:List Addr):Cx where
 prog:=X.prog
 w:=X.w
 K:=X.K
 mg:=X.mg
 base:=X.base
 A:=X.A
 N:=N
 s₀:=s
 H₀:=H
 env:=compEnvC scope (Nu X.env.cells scope.names []) C X.env
 outer:=X.stack
 stack:=X.stack
 ex:=fp
 fn:=fun _=>false
 calm:=X.calm
 pn:=[]
 xe:=fun _ _=>False
structure mm (env:Env) (scope:Scope):Prop where
 kind:scope.kind=.function
 nocell:∀ y ∈ scope.names,y.2 ≠ .cell
 fr:∀ y ∈ scope.names,y.2=.free→env.kindOf y.1=some .cell∨env.kindOf y.1=some .free
 loc:∀ x ∈ scope.names,x.2=.local→scope.names.lookup x.1=some .local
noncomputable def blk (sel:List (Option Nat)) (σ:St):St:=sel.map fun o=>o.bind fun j=>(σ[j]?).join
noncomputable def Sy (M:List Str) (scope:Scope) (N:List Str) (sel:List (Option Nat)):Prop:=
 sel.length=N.length∧∀ (i j:Nat) (x:Str),sel[i]? = some (some j)→N[i]? = some x→M[j]? = some x∧scope.names.lookup x=some .free
section
variable {X:Cx} {pins:List (Addr × Obj)} {σ:St} {H:Hp} {s:Shared} {scope:Scope} {fp:List Addr} {C:Addr} {N:List Str}
theorem mm.cells (S:mm X.env scope) (ok:X.Ok):∀ y ∈ scope.names,y.2=.free→∃ c,X.env.cells.lookup y.1=some c:=fun y hy e=>ok.has y.1 (S.fr y hy e)
theorem Is {x:Str} {c:Addr} (h:(Nu X.env.cells scope.names []).lookup x=some c):X.env.cells.lookup x=some c:=by
 rcases nq _ _ h with z | z
 ·simp at z
 ·exact z
theorem Yv (I:Inv X pins σ H s) (S:mm X.env scope) (hf:∀ b ∈ fp,Vp X pins H b) (hs:∀ b ∈ fp,b < s.heap.objs.size) (hC:s.heap.objs.size ≤ C):(X.block scope C N s H fp).Ok where
 mod:=I.ok.mod
 kind:=S.kind
 glob:=I.ok.glob
 blt:=I.ok.blt
 above:=hC
 inj:=fun x y c h1 h2=>I.ok.inj x y c (Is h1) (Is h2)
 has:=fun x h=>by
  have hk:∃ k,(relabel scope X.env).names.lookup x=some k∧(k=.cell∨k=.free):=by
   rcases h with h | h
   ·exact ⟨_,h,.inl rfl⟩
   ·exact ⟨_,h,.inr rfl⟩
  obtain ⟨k,h1,h2⟩:=hk;have hm:=az h1 h2 S.nocell;obtain ⟨c,hc⟩:=S.cells I.ok _ hm rfl;exact ⟨c,so _ _ hm hc⟩
 cab:=fun _ _ h _=>nomatch h
 hd:=I.ok.hd
 frames:=I.ok.frames
 stk:=.inl rfl
 exf:=fun b hb=>⟨Nat.ne_of_lt (Nat.lt_of_lt_of_le (hs b hb) hC),fun x c e=>(hf b hb).2.2.2.2.1 x c (Is e)⟩
 bs:=I.bs
 bsz:=Nat.le_trans I.ok.bsz I.sz
 noex:=fun b o e hb=>by
  rcases (hf b hb).2.2.2.1 with z | z
  ·exact I.ok.noex b o e z
  ·exact absurd (Nat.lt_of_lt_of_le (Nat.lt_of_lt_of_le (Heap.lt_size e) I.ok.bsz) z) (Nat.lt_irrefl _)
 exfs:=fun b hb hz=>by
  rcases List.mem_cons.mp (I.stkSub b hz) with z | z
  ·exact (hf b hb).2.1 z
  ·exact (hf b hb).2.2.1 z
 funs:=I.stack
 frf:=I.stkFree
theorem ux {h':Heap} {t':Nat} {m:Str→Option Value} {sel:List (Option Nat)} (I:Inv X pins σ H s) (S:mm X.env scope) (hf:∀ b ∈ fp,Vp X pins H b) (hs:∀ b ∈ fp,b < s.heap.objs.size) (hC:s.heap.objs.size ≤ C)
  (k:∀ b o,s.heap.get? b=some o→h'.get? b=some o) (hn:h'.Ns C m) (hsel:Sy X.N scope N sel):Inv (X.block scope C N s H fp) [] (blk sel σ) H { s with heap:=h',toks:=t' } where
 ok:=Yv I S hf hs hC
 os:=rfl
 bare:=I.bare
 base:=Un.kept k
 loc:=by
  refine ⟨m,hn,fun i x v e1 e2 e3=>?_⟩;obtain ⟨m0,hn0,hl⟩:=I.loc;obtain ⟨j,ej,eσ⟩:∃ j,sel[i]? = some (some j)∧σ[j]? = some (some v):=by
   unfold blk at e2;rw [List.getElem?_map] at e2;cases q:sel[i]? with
   | none=>rw [q] at e2;cases e2
   | some o=>
    rw [q] at e2;cases o with
    | none=>cases e2
    | some j=>
     refine ⟨j,rfl,?_⟩;have e2':(σ[j]?).join=some v:=Option.some.inj e2;cases r:σ[j]? with
     | none=>rw [r] at e2';cases e2'
     | some z=>rw [r] at e2';exact congrArg some e2'
  obtain ⟨eN,hfr⟩:=hsel.2 i j x ej e1;have hm:=jp hfr;have hk:=S.fr _ hm rfl;have hv:Vis X.env.scope x:=hk.elim (fun z=>.inr (.inl z)) fun z=>.inr (.inr z)
  obtain ⟨u,r,l⟩:=hl j x v eN eσ hv;refine ⟨u,r,?_⟩;rcases l with ⟨hloc,_⟩ | ⟨_,c,hc,hcell⟩
  ·rcases hk with z | z <;> (have z':X.env.kindOf x=_:=z;rw [hloc] at z';cases z')
  ·refine .inr ⟨?_,c,so _ _ hm hc,?_⟩
   ·exact Om hfr
   ·obtain ⟨o,ho,hd⟩:=hcell;exact ⟨o,k _ _ ho,hd⟩
 cell:=fun x c e=>by
  obtain ⟨v,o,ho,hd⟩:=I.cell x c (Is e);exact ⟨v,o,k _ _ ho,hd⟩
 free:=I.hok.fresh hC
 freeC:=fun x c e=>I.freeC x c (Is e)
 pin:=fun p hp=>nomatch hp
 hok:=I.hok.kept k
 len:=by unfold blk;rw [List.length_map];exact hsel.1
theorem Inv.adopt {a:Addr} {o:HO} (I:Inv X pins σ H s) (fo:Vp X pins H a) (new:Xd X.prog X.w (upd H a o) s.heap a o):Inv X pins σ (upd H a o) s:=by
 obtain ⟨hn,hL,hfs,hex,hcl,hpn⟩:=fo;refine I.step (g':=s.gens) (d':=s.drawn) (t':=s.toks) (h':=s.heap) (ch:=[a]) (fun b hb=>?_) (fun b o _ _ _ e _=>e) (fun b o _ _ _ e _=>⟨o.slots,e⟩) (fun b o hb e n=>?_) (fun b o _ e=>⟨o,e⟩)
  (fun b xs e=>?_) (fun b o u e=>?_) (fun b ps e=>⟨#[],?_⟩) (fun m hm=>hm) (fun b u e=>?_) I.bare
 ·have e:b=a:=by simpa using hb
  subst e;exact ⟨hex,hL,hcl,hpn⟩
 ·rw [rb (fun z=>hb (by simp [z]))];exact n
 ·rw [rb (xb e hn)];exact e
 ·rw [rb (xb e hn)];exact e
 ·rw [rb (xb e hn),e];simp
 ·by_cases hb:b=a
  ·subst hb;rw [cb] at e;cases e;exact new
  ·rw [rb hb] at e;exact (I.hok b u e).stay (fun c v _ q=>q) (fun c q=>by rw [rb (xb q hn)];exact q) fun c xs q=>by rw [rb (xb q hn)];exact q
end
theorem Rh {prog:Program} {w:World} {A:Around} {R:Result→Shared→Prop} {s:Shared} {elt target iter:Expr} {ifs:List Expr} {scope:Scope} {pos:Pos} {it acc:Value} {env:Env} (I:Nat→Shared→Prop)
  (turn:∀ n s,I n s→wpAny (model prog w) A (pyNext it) (fun r s₁=>match r with
   | none=>R (.ok .next) s₁
   | some v=>wpAny (model prog w) A (letOwnedTupleGo target it v) (fun _ s₀=>wpAny (model prog w) A (assign target env v) (fun _ s₂=>
     wpAny (model prog w) A (forIn ifs true fun c r=>if r=true then do let ok ← isTrue c env (eval c env);pure (ForInStep.yield ok) else pure (ForInStep.yield r)) (fun ok s₃=>
      if ok=true then wpAny (model prog w) A (eval elt env) (fun x s₄=>
       wpAny (model prog w) A (call (.builtin "list.append") [acc,x]) (fun _ s₅=>∃ m,m < n∧I m s₅) (fun _ _=>False) s₄) (fun _ _=>False) s₃
      else ∃ m,m < n∧I m s₃) (fun _ _=>False) s₂) (fun _ _=>False) s₀) (fun _ _=>False) s₁) (fun _ _=>False) s)
  (n:Nat) (h:I n s) :
  codeAny (model prog w) A (.compLoop (.ListComp elt [⟨target,iter,ifs,0⟩] scope pos) 0 it acc env) R s:=by
 refine codeAny_loop rfl I (fun n s hI=>?_) n h;show wpAny _ A ((compTurn (.ListComp elt [⟨target,iter,ifs,0⟩] scope pos) 0 it acc env).onRaise (fun x=>do noteFrame x env;theTreesLotGoes x)) _ _ s;refine wpAny_noted (wpAny_noRaise ?_);rw [compTurn_list];refine wpAny_bind (wpAny_standAt (wpAny_bind (wpAny_mono (turn n s hI) (fun r s₁ h₁=>?_) fun _ _ h'=>h')));cases r with
 | none=>exact wpAny_pure h₁
 | some v=>
  refine wpAny_bind (wpAny_mono h₁ (fun _ s₀ h₀=>?_) fun _ _ h'=>h');refine wpAny_bind (wpAny_mono h₀ (fun _ s₂ h₂=>wpAny_bind (wpAny_mono h₂ (fun ok s₃ h₃=>?_) fun _ _ h'=>h')) fun _ _ h'=>h');cases ok with
  | false=>exact wpAny_pure ⟨rfl,h₃⟩
  | true=>
   exact wpAny_bind (wpAny_bind (wpAny_mono h₃ (fun x s₄ h₄=>wpAny_bind (wpAny_mono h₄ (fun _ s₅ h₅=>wpAny_pure (wpAny_pure ⟨rfl,h₅⟩)) fun _ _ h'=>h')) fun _ _ h'=>h'))
noncomputable def PTs (X:Cx) (ifs:List Expr) (t:TT):Prop:=
 ∀ (pins:List (Addr × Obj)) (s:Shared) (σ:St) (H:Hp) (Q:Bool→Hp→Prop),Inv X pins σ H s→t σ H Q →
  wpAny (model X.prog X.w) X.A (forIn ifs true fun c r=>if r=true then do let ok ← isTrue c X.env (eval c X.env);pure (ForInStep.yield ok) else pure (ForInStep.yield r)) (TP X pins σ Q) X.xe s
noncomputable def Ay:TT:=fun _ H Q=>Q true H
theorem ui {X:Cx}:PTs X [] Ay:=fun _ _ _ H _ I h=>wpAny_tests_nil ⟨H,I,h⟩
theorem Hv {X:Cx} {c:Expr} {t:TT} (h:PT X c t):PTs X [c] t:=fun pins s σ H Q I q=>wpAny_tests_one (h pins s σ H Q I q)
noncomputable def Sub (σ σ':St):Prop:=σ'.length=σ.length∧∀ (i:Nat) (v:V),σ[i]? = some (some v)→σ'[i]? = some (some v)
theorem Sub.refl (σ:St):Sub σ σ:=⟨rfl,fun _ _ h=>h⟩
theorem Sub.set {σ σ':St} {i:Nat} {x:Option V} (h:Sub σ σ') (e:σ[i]? = some none):Sub σ (σ'.set i x):=by
 refine ⟨by rw [List.length_set];exact h.1,fun j v q=>?_⟩;have hj:i ≠ j:=fun z=>by subst z;rw [e] at q;cases q
 rw [List.getElem?_set_ne hj];exact h.2 j v q
noncomputable def Dz (J:It) (g:TG) (tc:TT) (te:TE) (σb:St) (Q:VK) (W:Nat→Nat→List V→Hp→Prop):Prop:=∀ i m ys H,W i m ys H →
 (J.stop i H∧∀ p,H p=none→Q (.ref p) (upd H p (.lst ys))) ∨
 (J.go i H∧ys.length < sizeLine∧∀ x H',J.yld i H x H'→g x σb H' fun σ2 H2=>Sub σb σ2∧tc σ2 H2 fun c H3=>if c=true then te σ2 H3 fun y H4=>∃ m',m' < m∧W (i + 1) m' (ys ++ [y]) H4 else ∃ m',m' < m∧W (i + 1) m' ys H3)
noncomputable def zH (wi:TI) (g:TG) (tc:TT) (te:TE) (sel:List (Option Nat)):TE:=fun σ H Q=>wi σ H fun J H1=>∃ W:Nat→Nat→List V→Hp→Prop,(∃ m,W 0 m [] H1)∧Dz J g tc te (blk sel σ) Q W
section
variable {X:Cx} {elt tg iter:Expr} {ifs:List Expr} {scope:Scope} {pos:Pos} {wi:TI} {g:TG} {tc:TT} {te:TE} {N:List Str} {sel:List (Option Nat)}
structure Blk (X:Cx) (scope:Scope) (N:List Str) (tg elt:Expr) (ifs:List Expr) (g:TG) (tc:TT) (te:TE):Prop where
 tgt:∀ C s H fp,PG (X.block scope C N s H fp) tg g
 tests:∀ C s H fp,PTs (X.block scope C N s H fp) ifs tc
 elem:∀ C s H fp,PE (X.block scope C N s H fp) elt te
theorem Blk.of {X:Cx} {scope:Scope} {N:List Str} {tg elt:Expr} {ifs:List Expr} {g:TG} {tc:TT} {te:TE} (h1:∀ C s H fp,PG (X.block scope C N s H fp) tg g)
  (h2:∀ C s H fp,∃ t,PTs (X.block scope C N s H fp) ifs t∧t=tc) (h3:∀ C s H fp,∃ t,PE (X.block scope C N s H fp) elt t∧t=te):Blk X scope N tg elt ifs g tc te:=
 ⟨h1,fun C s H fp=>by obtain ⟨t,h,rfl⟩:=h2 C s H fp;exact h,fun C s H fp=>by obtain ⟨t,h,rfl⟩:=h3 C s H fp;exact h⟩
theorem yx {pins:List (Addr × Obj)} {s₂:Shared} {σ:St} {H₂:Hp} {Q:VK} {it:Addr} {fp:List Addr} {tn:Nat→Heap→Prop} {J:It} {W:Nat→Nat→List V→Hp→Prop} {E:Value→Shared→Prop} {RR:Value→Addr→Result→Shared→Prop}
  (hc:X.calm=true) (S:mm X.env scope) (hsel:Sy X.N scope N sel) (B:Blk X scope N tg elt ifs g tc te) (I2:Inv X pins σ H₂ s₂) (T:OJ X.prog X.w X.K tg J fp it tn) (st2:tn 0 s₂.heap) (f2:∀ b ∈ fp,Vp X pins H₂ b)
  (w0:∃ m,W 0 m [] H₂) (hW:Dz J g tc te (blk sel σ) Q W)
  (fin:∀ D C ys H' s',Inv X pins σ (upd H' D (.lst ys)) s'→(∃ m,s'.heap.Ns C m)→Vp X pins (upd H' D (.lst ys)) C→Q (.ref D) (upd H' D (.lst ys))→RR (.ref D) C (.ok .next) s') :
  wpAny (model X.prog X.w) X.A (newList []) (fun acc s₃=>wpAny (model X.prog X.w) X.A (newFunctionEnv scope X.env.globals (Nu X.env.cells scope.names []) [] X.env.qual none .none (some X.env)) (fun cenv s₄=>
   codeAny (model X.prog X.w) X.A (.compStart (.ListComp elt [⟨tg,iter,ifs,0⟩] scope pos) 0 (.ref it) acc { cenv with scope:=relabel scope X.env }) (RR acc cenv.locals) s₄) E s₃) E s₂:=by
 refine wpAny_newObj_type (wpAny_newFunctionEnv S.nocell (by intro y hy;simp at hy) (fun h₁ hns₁ hsb₁=>?_) S.kind);dsimp only at hns₁ hsb₁ ⊢;generalize hH2:s₂.heap.push { cls:=.type "list",dict:=none,data:=.seq ([]:List Value).toArray }=H2 at hns₁ hsb₁ ⊢;have hC:H2.objs.size=s₂.heap.objs.size + 1:=by rw [← hH2,Heap.size_push]
 have hDC:s₂.heap.objs.size ≠ H2.objs.size:=by rw [hC];exact Nat.ne_of_lt (Nat.lt_succ_self _)
 have hCle:s₂.heap.objs.size ≤ H2.objs.size:=by rw [hC];exact Nat.le_succ _
 have below:∀ b,b < s₂.heap.objs.size→b ≠ H2.objs.size∧b ≠ s₂.heap.objs.size:=fun b hb=>⟨by rw [hC];exact Nat.ne_of_lt (Nat.lt_succ_of_lt hb),Nat.ne_of_lt hb⟩
 have old:∀ b o,s₂.heap.get? b=some o→h₁.get? b=some o:=fun b o e=>hsb₁.extBut b o (below b (Heap.lt_size e)).1 (Heap.get?_push_of_some _ (hH2 ▸ Heap.get?_push_of_some _ e))
 have hacc:h₁.get? s₂.heap.objs.size=some { cls:=.type "list",data:=.seq ([]:List Value).toArray }:=hsb₁.extBut _ _ hDC (Heap.get?_push_of_some _ (hH2 ▸ Heap.get?_push_size _ rfl));have fps:∀ b ∈ fp,b < s₂.heap.objs.size:=fun b hb=>by
  obtain ⟨o,e,_⟩:=T.obj _ _ st2 b hb;exact Heap.lt_size e
 generalize hCe:H2.objs.size=C at *;generalize hDe:s₂.heap.objs.size=D at *;have st1:tn 0 h₁:=T.keep _ _ _ st2 fun b _ o e=>old b o e
 have IB0:Inv (X.block scope C N s₂ H₂ fp) [] (blk sel σ) H₂ { s₂ with heap:=h₁,toks:=s₂.toks + ([]:List (Str × Value)).length }:=
  ux I2 S f2 (fun b hb=>by rw [hDe];exact fps b hb) (by rw [hDe];exact hCle) old hns₁ hsel
 have hDfs:D ∉ (X.block scope C N s₂ H₂ fp).fs:=fun z=>by
  have z':=I2.stkSub D z;rcases List.mem_cons.mp z' with e | e
  ·exact absurd I2.lt (by rw [← e,hDe];exact Nat.lt_irrefl _)
  ·exact I2.nofs (by rw [hDe];exact Nat.le_refl _) e
 have loop:∀ s₃:Shared,s₃ = { s₂ with heap:=h₁,toks:=s₂.toks + ([]:List (Str × Value)).length } →
   codeAny (model X.prog X.w) X.A (.compLoop (.ListComp elt [⟨tg,iter,ifs,0⟩] scope pos) 0 (.ref it) (.ref D) (compEnvC scope (Nu X.env.cells scope.names []) C X.env)) (RR (.ref D) C) s₃:=by
  rintro s₃ rfl;obtain ⟨m0,w0⟩:=w0;refine Rh (fun k s'=>∃ i ys us n H',Inv (X.block scope C N s₂ H₂ fp) [(D,{ cls:=.type "list",data:=.seq us n })] (blk sel σ) H' s'∧(∃ vs:List Value,us=vs.toArray∧Dd ys vs)∧ys.length ≤ sizeLine∧tn i s'.heap∧(∀ b ∈ fp,H' b=none)∧W i k ys H') ?_ m0
   ⟨0,[],_,0,H₂,IB0.pins_of fun p hp=>?_,⟨[],rfl,.nil⟩,Nat.zero_le _,st1,fun b hb=>(f2 b hb).1,w0⟩
  ·rintro k s' ⟨i,ys,us,n,H',IB,⟨vs,rfl,rv⟩,hyz,st,fr,w⟩;have fpB:∀ {pl:List (Addr × Obj)} {H'':Hp},(∀ p ∈ pl,p.1=D)→(∀ b ∈ fp,H'' b=none)→∀ b ∈ fp,Vp (X.block scope C N s₂ H₂ fp) pl H'' b:=fun {pl H''} hp hn b hb=>
    ⟨hn b hb,(below b (fps b hb)).1,(Yv (N:=N) (C:=C) I2 S f2 (fun b hb=>by rw [hDe];exact fps b hb) (by rw [hDe];exact hCle)).exfs b hb,.inl hb,fun x c e=>(f2 b hb).2.2.2.2.1 x c (Is e),fun p hpp z=>by
     have hpp':p ∈ pl:=by simpa using hpp
     exact (below b (fps b hb)).2 (by rw [← z];exact hp p hpp')⟩
   have hD1:∀ p ∈ [((D,{ cls:=.type "list",data:=.seq vs.toArray n }):Addr × Obj)],p.1=D:=fun p hp=>by
    have e:p=(D,{ cls:=.type "list",data:=.seq vs.toArray n }):=by simpa using hp
    rw [e]
   rcases hW i k ys H' w with ⟨stop,qn⟩ | ⟨go,hlen,step⟩
   ·refine thn (T.done (X.block scope C N s₂ H₂ fp) rfl rfl rfl hc i _ s' _ H' _ IB (fpB hD1 fr) st stop) fun r s4 hZ1=>?_
    obtain ⟨hr,I4⟩:=hZ1;subst hr;have pD:=I4.pin (D,{ cls:=.type "list",data:=.seq vs.toArray n }) (by simp);have hDn:H' D=none:=pD.2.1;have IX:Inv X pins σ H' s4:=I2.call' (ch:=fp) I4.os I4.base I4.hok I4.bare fun b hb=>⟨(f2 b hb).2.2.2.1,(f2 b hb).2.1,(f2 b hb).2.2.2.2.1,(f2 b hb).2.2.2.2.2⟩
    have foD:Vp X pins H' D:=I2.fpOk (by rw [hDe];exact Nat.le_refl _) hDn;have IA:Inv X pins σ (upd H' D (.lst ys)) s4:=IX.adopt foD ⟨hyz,vs,n,rv,pD.1⟩;obtain ⟨mC,hnC,_⟩:=I4.loc;refine fin D C ys H' s4 IA ⟨mC,hnC⟩ (I2.fpOk (by rw [hDe];exact hCle) ?_) (qn D hDn);rw [rb (Ne.symm hDC)];exact I4.free
   ·refine thn (T.item (X.block scope C N s₂ H₂ fp) rfl rfl rfl hc i _ s' _ H' _ IB (fpB hD1 fr) st go) fun r s4 hZ1=>?_
    obtain ⟨u,hr,h4⟩:=hZ1;subst hr;refine thn h4 fun _ s5 hZ1=>?_
    obtain ⟨x,H5,I5,r5,y5,st5,fr5⟩:=hZ1;have I5':=I5.pinned (fpB hD1 fr5) (T.obj _ _ st5);refine thn (B.tgt C s₂ H₂ fp _ s5 _ H5 x u _ I5' r5 (step x H5 y5)) fun _ s6 hZ1=>?_
    obtain ⟨σ6,H6,I6,sb,q6⟩:=hZ1;refine thn (B.tests C s₂ H₂ fp _ s6 σ6 H6 _ I6 q6) fun c s7 hZ1=>?_
    obtain ⟨H7,I7,q7⟩:=hZ1;have again:∀ {σ8:St} {H8:Hp} {s8:Shared},Inv (X.block scope C N s₂ H₂ fp) ([(D,{ cls:=.type "list",data:=.seq vs.toArray n })] ++ Ou fp s5.heap) σ8 H8 s8→tn (i + 1) s8.heap∧(∀ b ∈ fp,H8 b=none):=fun {σ8 H8 s8} I8=>by
     refine ⟨T.keep _ _ _ st5 fun b hb o e=>(I8.pin (b,o) (List.mem_append_right _ (List.mem_append_right _ (ci hb e)))).1,fun b hb=>?_⟩;obtain ⟨o,e,d⟩:=T.obj _ _ st5 b hb;exact (I8.pin (b,o) (List.mem_append_right _ (List.mem_append_right _ (ci hb e)))).2.1
    have back:∀ {H8:Hp} {s8:Shared} {pl:List (Addr × Obj)},Inv (X.block scope C N s₂ H₂ fp) pl σ6 H8 s8→Inv (X.block scope C N s₂ H₂ fp) pl (blk sel σ) H8 s8:=fun {H8 s8 pl} I8=>I8.weak sb.1.symm sb.2
    cases c with
    | false=>
     obtain ⟨m',hm,w'⟩:=q7;obtain ⟨t1,t2⟩:=again I7;exact ⟨m',hm,i + 1,ys,_,n,H7,back I7.unpinned,⟨vs,rfl,rv⟩,hyz,t1,t2,w'⟩
    | true=>
     refine thn (B.elem C s₂ H₂ fp _ s7 σ6 H7 _ I7 q7) fun v s8 hZ1=>?_
     obtain ⟨y,H8,I8,r8,m',hm,w'⟩:=hZ1;obtain ⟨t1,t2⟩:=again I8;have pD:=I8.pin (D,{ cls:=.type "list",data:=.seq vs.toArray n }) (by simp);refine append_at (hsz:=by have:=rv.length;rw [List.size_toArray];omega) pD.1 fun h9 hs9 hD9=>?_
     have IB':Inv (X.block scope C N s₂ H₂ fp) [] (blk sel σ) H8 s8:=(back I8).pins_of fun p hp=>nomatch hp
     have foD:Vp (X.block scope C N s₂ H₂ fp) [] H8 D:=⟨pD.2.1,hDC,hDfs,.inr (by show s₂.heap.objs.size ≤ D;rw [hDe];exact Nat.le_refl _),(fun x c e z=>by
      obtain ⟨cv,o,ho,hd⟩:=I8.cell x c e;rw [z,pD.1] at ho;cases ho;cases hd),(fun p hp=>nomatch hp)⟩
     have I9:Inv (X.block scope C N s₂ H₂ fp) [] (blk sel σ) H8 { s8 with heap:=h9 }:=IB'.turned (t':=s8.toks) (it:=D) (fun b o hb e=>(hs9.2 b hb).trans e) foD.1 foD.2.1 foD.2.2.2.1 foD.2.2.2.2.1 foD.2.2.2.2.2;refine ⟨m',hm,i + 1,ys ++ [y],vs.toArray.push v,n + 1,H8,I9.pins_of fun p hp=>?_,⟨vs ++ [v],by simp,Paired.snoc rv r8⟩,by rw [List.length_append,List.length_singleton];omega,T.keep _ _ _ t1 fun b hb o e=>(hs9.2 b (below b (fps b hb)).2).trans e,t2,w'⟩;have e:p=(D,{ cls:=.type "list",data:=.seq (vs.toArray.push v) (n + 1) }):=by simpa using hp
     subst e;exact ⟨hD9,pD.2.1,hDC,hDfs,fun v z=>by cases z⟩
  ·have e:p=(D,{ cls:=.type "list",data:=.seq ([]:List Value).toArray }):=by simpa using hp
   subst e;exact ⟨hacc,I2.hok.fresh (by rw [hDe];exact Nat.le_refl _),hDC,hDfs,fun v z=>by cases z⟩
 exact codeAny_compStart_list (loop _ rfl) (T.self _ 0 _ _ _ st1 (loop _ rfl))
theorem yj (hc:X.calm=true) (hi:PI X tg iter wi) (S:mm X.env scope) (hsel:Sy X.N scope N sel) (B:Blk X scope N tg elt ifs g tc te)
  (hs:∀ x,foldedSetIterable iter X.env x=pure x:=by intro _;rfl):PE X (.ListComp elt [⟨tg,iter,ifs,0⟩] scope pos) (zH wi g tc te sel):=by
 intro pins s σ H Q I h;rw [eval_ListComp];refine wpAny_comprehension_free (use:=none) rfl hs (kz (S.cells I.ok)) S.kind S.loc ?_;refine thn (hi pins s σ H _ I h) fun v s1 h1=>thn h1 fun itv s2 h2=>?_
 obtain ⟨it,fp,tn,J,H2,e,I2,T,st2,f2,W,w0,hW⟩:=h2;subst e;refine yx (RR:=fun acc C=>compPost (model X.prog X.w) X.A X.xe none (EP X pins σ Q) acc C) hc S hsel B I2 T st2 f2 w0 hW fun D C ys H' s' I' ⟨m,hm⟩ fo q=>?_
 exact ⟨m,hm,fun h' hsb=>⟨.ref D,_,I'.turned (t':=s'.toks) (it:=C) (fun b o hb e=>(hsb.2 b hb).trans e) fo.1 fo.2.1 fo.2.2.2.1 fo.2.2.2.2.1 fo.2.2.2.2.2,rfl,q⟩⟩
theorem am {i:Nat} {y:Str} {py spos:Pos} (hN:X.N.Nodup) (hi:X.N[i]? = some y) (hx:Loc X.env.scope y) (hc:X.calm=true) (hit:PI X tg iter wi) (S:mm X.env scope) (hsel:Sy X.N scope N sel) (B:Blk X scope N tg elt ifs g tc te)
  (hsw:swapsWith (.ListComp elt [⟨tg,iter,ifs,0⟩] scope pos) (some (.Name y py)) spos.line X.env=pure true) (hf:X.fn y=true∨X.env.scope.names.lookup y=some .local:=by first | exact .inl rfl | exact .inr rfl | assumption)
  (hs:∀ x,foldedSetIterable iter X.env x=pure x:=by intro _;rfl):PS X (.Assign [.Name y py] (.ListComp elt [⟨tg,iter,ifs,0⟩] scope pos) spos) (oM (zH wi g tc te sel) (au i)):=by
 intro pins s σ H D I h;rw [exec_Assign_Name_used _ _ _ _ hsw];refine wpAny_bind (wpAny_standAt (wpAny_bind ?_));show wpAny _ X.A (do let _ ← comprehension (.ListComp elt [⟨tg,iter,ifs,0⟩] scope pos) scope X.env _ (newList []) false (eval iter X.env) (some (assign (.Name y py) X.env))) _ _ s;refine wpAny_bind (wpAny_mono (wpAny_comprehension_free (use:=some (assign (.Name y py) X.env)) (Q:=fun _ s'=>SP X pins D .next s') rfl hs (kz (S.cells I.ok)) S.kind S.loc ?_) (fun _ s' hq=>wpAny_pure (wpAny_pure hq)) fun _ _ e=>e);refine thn (hit pins s σ H _ I h) fun v s1 h1=>thn h1 fun itv s2 h2=>?_
 obtain ⟨it,fp,tn,J,H2,e,I2,T,st2,f2,W,w0,hW⟩:=h2;subst e;refine yx (RR:=fun acc C=>compPost (model X.prog X.w) X.A X.xe (some (assign (.Name y py) X.env)) (fun _ s'=>SP X pins D .next s') acc C) hc S hsel B I2 T st2 f2 w0 hW fun Da C ys H' s' I' ⟨m,hm⟩ fo q=>?_
 show wpAny _ X.A (assign (.Name y py) X.env (.ref Da)) _ _ _;refine wpAny_assign_Name (Gw I' hN hi hx (show Jd (.ref Da) (.ref Da) from rfl) (fun s3 I3 hZ1=>?_) hf);obtain ⟨a,hsb,ha⟩:=hZ1;have hCa:C ≠ a:=by
  rcases ha with z | z
  ·rw [z];exact fo.2.1
  ·exact fun w=>fo.2.2.2.2.1 y a z w.symm
 refine ⟨m,hm.sameBut hsb hCa,fun h' hsb'=>⟨_,_,I3.turned (t':=s3.toks) (it:=C) (fun b o hb e=>(hsb'.2 b hb).trans e) fo.1 fo.2.1 fo.2.2.2.1 fo.2.2.2.2.1 fo.2.2.2.2.2,q⟩⟩
end
noncomputable def Yi (Pv:Nat→List V→Hp→Prop) (g:TG) (tc:TT) (te:TE) (σb:St) (i:Nat) (x:V) (ys:List V) (H:Hp):Prop:=
 ∀ N:List V→Hp→Prop,(∀ ys' H',Pv (i + 1) ys' H'→N ys' H')→g x σb H fun σ2 H2=>Sub σb σ2∧tc σ2 H2 fun c H3=>if c=true then te σ2 H3 fun y H4=>N (ys ++ [y]) H4 else N ys H3
theorem eG {K:PySem.W.Frag} {a:Addr} {xs:List V} {g:TG} {tc:TT} {te:TE} {σb:St} {Q:VK} {H:Hp} (Pv:Nat→List V→Hp→Prop) (hz:xs.length ≤ sizeLine) (h0:Pv 0 [] H) (hl:∀ i ys H,i ≤ xs.length→Pv i ys H→SqL K H a xs∧ys.length ≤ i)
  (hs:∀ i x ys H,xs[i]? = some x→Pv i ys H→Yi Pv g tc te σb i x ys H) (hd:∀ ys H,Pv xs.length ys H→∀ p,H p=none→Q (.ref p) (upd H p (.lst ys))) :
  ∃ W:Nat→Nat→List V→Hp→Prop,(∃ m,W 0 m [] H)∧Dz (Itl K a) g tc te σb Q W:=by
 refine ⟨fun i m ys H=>m=xs.length - i∧i ≤ xs.length∧Pv i ys H,⟨xs.length,by simp,Nat.zero_le _,h0⟩,?_⟩;rintro i m ys H ⟨rfl,hi,p⟩;have q:=(hl i ys H hi p).1;have hyl:=(hl i ys H hi p).2;by_cases hlt:i < xs.length
 ·refine .inr ⟨⟨xs,xs[i],q,by simp [hlt]⟩,by omega,fun x H' y=>?_⟩;obtain ⟨e,y⟩:=y;subst e;exact hs i x ys _ (y xs q) p (fun ys' H'=>∃ m',m' < xs.length - i∧m'=xs.length - (i + 1)∧i + 1 ≤ xs.length∧Pv (i + 1) ys' H') fun ys' H' r=>⟨xs.length - (i + 1),by omega,rfl,hlt,r⟩
 ·have e:i=xs.length:=by omega
  subst e;exact .inl ⟨⟨xs,q,Nat.le_refl _⟩,hd ys H p⟩
theorem JB {lo:Int} {n:Nat} {g:TG} {tc:TT} {te:TE} {σb:St} {Q:VK} {H:Hp} (Pv:Nat→List V→Hp→Prop) (hz:n ≤ sizeLine) (h0:Pv 0 [] H) (hl:∀ i ys H,i ≤ n→Pv i ys H→ys.length ≤ i)
  (hs:∀ i ys H,i < n→Pv i ys H→Yi Pv g tc te σb i (.int (lo + i)) ys H) (hd:∀ ys H,Pv n ys H→∀ p,H p=none→Q (.ref p) (upd H p (.lst ys))) :
  ∃ W:Nat→Nat→List V→Hp→Prop,(∃ m,W 0 m [] H)∧Dz (Itr lo n) g tc te σb Q W:=by
 refine ⟨fun i m ys H=>m=n - i∧i ≤ n∧Pv i ys H,⟨n,by simp,Nat.zero_le _,h0⟩,?_⟩;rintro i m ys H ⟨rfl,hi,p⟩;have hyl:=hl i ys H hi p;by_cases hlt:i < n
 ·refine .inr ⟨hlt,by omega,fun x H' y=>?_⟩;obtain ⟨e,y⟩:=y;subst e y;exact hs i ys _ hlt p (fun ys' H'=>∃ m',m' < n - i∧m'=n - (i + 1)∧i + 1 ≤ n∧Pv (i + 1) ys' H') fun ys' H' r=>⟨n - (i + 1),by omega,rfl,hlt,r⟩
 ·have e:i=n:=by omega
  subst e;exact .inl ⟨Nat.le_refl _,hd ys H p⟩
end L2
namespace L2
open PySem PySem.Spec PyProof.Rows
noncomputable def Its (xs:List V):It:=⟨fun i _=>i < xs.length,fun i H x H'=>H'=H∧xs[i]? = some x,fun i _=>xs.length ≤ i⟩
theorem yu {P:Program} {w:World} {K:PySem.W.Frag} {tg:Expr} {it:Addr} {xs:List V} {PV:Nat→Value→Prop} {St:Nat→Heap→Prop} (hW:∀ A:Around,A.handled=none→Walks P w A it [it] [it] xs.length PV St)
  (hP:∀ i v,PV i v→∃ x,xs[i]? = some x∧Jd x v)
  (hgo:∀ i h,St i h→∃ o n vs,h.get? it=some o∧o.cls=.type n∧o.data=.fields vs∧["enumerate","zip","dict_itemiterator","dict_reverseitemiterator","odict_iterator","itertools.zip_longest","itertools.pairwise"].contains n=false)
  (hfr:∀ i h h',St i h→(∀ o,h.get? it=some o→h'.get? it=some o)→St i h')
  (hself:∀ (A:Around) (i:Nat) (s:Shared) (Q:Value→Shared→Prop) (E:Value→Shared→Prop),St i s.heap→Q (.ref it) s→wpAny (model P w) A (pyIter (.ref it)) Q E s) :
  OJ P w K tg (Its xs) [it] it (fun i h=>i ≤ xs.length∧St i h) where
 mem:=by simp
 obj:=fun i h st b hb=>by
  have e:b=it:=by simpa using hb
  subst e;obtain ⟨o,n,vs,e,_,d,_⟩:=hgo i h st.2;exact ⟨o,e,fun v z=>by rw [d] at z;cases z⟩
 keep:=fun i h h' st k=>⟨st.1,hfr i h h' st.2 fun o e=>k it (by simp) o e⟩
 item:=by
  intro X hP' hw hK hc i pins s σ H E I hf st hg;subst hP' hw hK;obtain ⟨f0,f1,f2,f3,f4,f5⟩:=hf it (by simp);refine (hW X.A (I.ok.hd hc)).item i s _ _ hg st.2 fun v h' tk hv st' kk=>?_
  obtain ⟨x,hx,rx⟩:=hP i v hv;have I1:Inv X pins σ H { s with heap:=h',toks:=tk }:=I.turned (fun b o hb e=>kk b o (by simpa using hb) e) f0 f1 f3 f4 f5;obtain ⟨o,n,vs,e,c,d,nm⟩:=hgo _ _ st';exact ⟨v,rfl,SE (s:={ s with heap:=h',toks:=tk }) e c d nm ⟨x,H,I1,rx,⟨rfl,hx⟩,⟨hg,st'⟩,fun b hb=>(hf b hb).1⟩⟩
 done:=by
  intro X hP' hw hK hc i pins s σ H E I hf st hg;subst hP' hw hK;obtain ⟨f0,f1,f2,f3,f4,f5⟩:=hf it (by simp);have e:i=xs.length:=Nat.le_antisymm st.1 hg;subst e;exact (hW X.A (I.ok.hd hc)).done s _ _ st.2 fun h' tk kk=>⟨rfl,I.turned (fun b o hb e=>kk b o (by simpa using hb) e) f0 f1 f3 f4 f5⟩
 self:=fun A i s Q E st h=>hself A i s Q E st.2 h
noncomputable def aM (c:Nat):Str:=⟨#[c]⟩
noncomputable def Qk (x:Str):List V:=x.cps.toList.map fun c=>V.str (aM c)
theorem jo (x:Str):(Qk x).length=x.cps.size:=by unfold Qk;simp
theorem kD {x:Str} {i c:Nat} (h:x.cps[i]? = some c):(Qk x)[i]? = some (.str (aM c)):=by
 unfold Qk;rw [List.getElem?_map,Array.getElem?_toList,h];rfl
theorem Uu {x:Str} {i:Nat} {v:Value} (h:SignAt x i v):∃ y,(Qk x)[i]? = some y∧Jd y v:=by
 obtain ⟨c,u,hc,rfl⟩:=h;exact ⟨.str (aM c),kD hc,u,rfl⟩
section
variable {X:Cx} {tg:Expr}
noncomputable def iO (tl:TE):TI:=fun σ H R=>tl σ H fun x H1=>∃ z,x=.str z∧R (Its (Qk z)) H1
theorem FL {l:Expr} {tl:TE} (hl:PE X l tl):PI X tg l (iO tl):=by
 intro pins s σ H R I h;refine thn (hl pins s σ H _ I h) fun v s1 hZ1=>?_
 obtain ⟨x,H1,I1,r1,q1⟩:=hZ1;obtain ⟨z,e,q⟩:=q1;subst e;obtain ⟨t,rfl⟩:=r1;have fo:∀ b ∈ [s1.heap.objs.size],Vp X pins H1 b:=fun b hb=>by
  have e:b=s1.heap.objs.size:=by simpa using hb
  subst e;exact I1.fpOk (Nat.le_refl _) (I1.hok.fresh (Nat.le_refl _))
 have hz:=jo z;cases ha:z.cps.all (· < 128) with
 | false=>
  refine wpAny_pyIter_wide ha ⟨s1.heap.objs.size,[s1.heap.objs.size],fun i h=>i ≤ (Qk z).length∧h.IsStrIter s1.heap.objs.size "str_iterator" z t i,_,H1,rfl,I1.kept (t':=s1.toks) fun b o e=>Heap.get?_push_of_some _ e,
   yu (fun A hA=>by rw [hz];exact Walks.strWide hA _ z t) (fun i v=>Uu) (fun i h ⟨o,e,c,d⟩=>⟨o,_,_,e,c,d,by decide⟩) (fun i h h' ⟨o,e,r⟩ k=>⟨o,k o e,r⟩) (fun A i s Q E st q=>wpAny_pyIter_striter_wide st q),
   ⟨Nat.zero_le _,_,Heap.get?_push_size _ rfl,rfl,rfl⟩,fo,q⟩
 | true=>
  refine wpAny_pyIter_ascii ha ⟨s1.heap.objs.size,[s1.heap.objs.size],fun i h=>i ≤ (Qk z).length∧h.IsStrIter s1.heap.objs.size "str_ascii_iterator" z t i,_,H1,rfl,I1.kept (t':=s1.toks) fun b o e=>Heap.get?_push_of_some _ e,
   yu (fun A hA=>by rw [hz];exact Walks.strAscii hA _ z t) (fun i v=>Uu) (fun i h ⟨o,e,c,d⟩=>⟨o,_,_,e,c,d,by decide⟩) (fun i h h' ⟨o,e,r⟩ k=>⟨o,k o e,r⟩) (fun A i s Q E st q=>wpAny_pyIter_striter_ascii st q),
   ⟨Nat.zero_le _,_,Heap.get?_push_size _ rfl,rfl,rfl⟩,fo,q⟩
end
theorem WJ {xs:List V} {g:TG} {tb:TS} {D:jk} {σ:St} {H:Hp} (Pv:Nat→St→Hp→Prop) (h0:Pv 0 σ H)
  (hs:∀ i x σ H,xs[i]? = some x→Pv i σ H→g x σ H fun σ2 H2=>tb { D with nx:=Pv (i + 1),ct:=Pv (i + 1),bk:=D.nx } σ2 H2) (hd:∀ σ H,Pv xs.length σ H→D.nx σ H) :
  ∃ W:Nat→Nat→St→Hp→Prop,(∃ m,W 0 m σ H)∧∀ i m σ H,W i m σ H →
   ((Its xs).stop i H∧D.nx σ H)∨((Its xs).go i H∧∃ N:St→Hp→Prop,(∀ σ' H',N σ' H'→∃ m',m' < m∧W (i + 1) m' σ' H')∧∀ x H',(Its xs).yld i H x H'→g x σ H' fun σ2 H2=>tb { D with nx:=N,ct:=N,bk:=D.nx } σ2 H2):=by
 refine ⟨fun i m σ H=>m=xs.length - i∧i ≤ xs.length∧Pv i σ H,⟨xs.length,by simp,Nat.zero_le _,h0⟩,?_⟩;rintro i m σ H ⟨rfl,hi,p⟩;by_cases hlt:i < xs.length
 ·refine .inr ⟨hlt,Pv (i + 1),fun σ' H' p'=>⟨xs.length - (i + 1),by omega,rfl,hlt,p'⟩,fun x H' y=>?_⟩;obtain ⟨e,y⟩:=y;subst e;exact hs i x σ _ y p
 ·have e:i=xs.length:=by omega
  subst e;exact .inl ⟨Nat.le_refl _,hd σ H p⟩
theorem AH {xs:List V} {g:TG} {tc:TT} {te:TE} {σb:St} {Q:VK} {H:Hp} (Pv:Nat→List V→Hp→Prop) (hz:xs.length ≤ sizeLine) (h0:Pv 0 [] H) (hl:∀ i ys H,i ≤ xs.length→Pv i ys H→ys.length ≤ i)
  (hs:∀ i x ys H,xs[i]? = some x→Pv i ys H→Yi Pv g tc te σb i x ys H) (hd:∀ ys H,Pv xs.length ys H→∀ p,H p=none→Q (.ref p) (upd H p (.lst ys))) :
  ∃ W:Nat→Nat→List V→Hp→Prop,(∃ m,W 0 m [] H)∧Dz (Its xs) g tc te σb Q W:=by
 refine ⟨fun i m ys H=>m=xs.length - i∧i ≤ xs.length∧Pv i ys H,⟨xs.length,by simp,Nat.zero_le _,h0⟩,?_⟩;rintro i m ys H ⟨rfl,hi,p⟩;have hyl:=hl i ys H hi p;by_cases hlt:i < xs.length
 ·refine .inr ⟨hlt,by omega,fun x H' y=>?_⟩;obtain ⟨e,y⟩:=y;subst e;exact hs i x ys _ y p (fun ys' H'=>∃ m',m' < xs.length - i∧m'=xs.length - (i + 1)∧i + 1 ≤ xs.length∧Pv (i + 1) ys' H') fun ys' H' r=>⟨xs.length - (i + 1),by omega,rfl,hlt,r⟩
 ·have e:i=xs.length:=by omega
  subst e;exact .inl ⟨Nat.le_refl _,hd ys H p⟩
section
variable {X:Cx}
noncomputable def Pb (ys:List Str):List V:=ys.map V.str
theorem yC:∀ {ys:List Str} {us:List Value},Dd (Pb ys) us→StrsAre us ys:=by
 intro ys
 induction ys with
 | nil=>intro us r;cases r;exact .nil
 | cons y ys ih=>
  intro us r;cases r with
  | cons r1 r2=>
   obtain ⟨t,rfl⟩:=r1;exact .cons y t (ih r2)
theorem qw:∀ (l:List (Str × Tok)),Dd (Pb (l.map (·.1))) (strValues l)
 | []=>.nil
 | (x,t) :: r=>.cons ⟨t,rfl⟩ (qw r)
noncomputable def pL (K:PySem.W.Frag):V→List V→Hp→VK→Prop:=fun x vs H Q=>∃ sep p ys,x=.str sep∧vs=[.ref p]∧SqL K H p (Pb ys)∧(ys.map (·.length)).sum + ys.length * sep.length ≤ 16777216∧Q (.str (Txt.join sep ys)) H
theorem CF:MtR X "str.join" (pL X.K):=by
 intro pins s σ H x xs v us Q I rx rv h;obtain ⟨sep,p,ys,rfl,rfl,hq,hz,q⟩:=h;obtain ⟨t,rfl⟩:=rx;obtain ⟨u,rfl,ru⟩:=Kr rv;cases ru;obtain ⟨its,r,pl,_⟩:=I.list hq;exact join_list pl.isList (by simpa using yC r) hz fun t' k=>⟨.str _,H,I.tok _,⟨_,rfl⟩,q⟩
end
theorem UB {prog:Program} {w:World} {A:Around} {E:Value→Shared→Prop} {s:Shared} {x y:Str} {t u:Tok} {Q:Value→Shared→Prop} (hy:(y.length == 0)=false)
  (h:∀ l k,l.map (·.1)=Txt.split x y→Q (.ref s.heap.objs.size) { s with heap:=s.heap.push { cls:=.type "list",data:=.seq (strValues l).toArray },toks:=k }) (hsz:x.length + 2 ≤ sizeLine) :
  wpAny (model prog w) A (call (.builtin "str.split") [.str x t,.str y u]) Q E s:=by
 have hn:(Builtin.Str.partsBetween x (Builtin.Str.occurrences x y 0 x.length (x.length + 1)) y.length).length ≤ sizeLine:=by
  have e1:=StrLaws.occ_length_le x y 0 x.length (x.length + 1);rw [length_partsBetween];omega
 cases h1:(decide (x.length < y.length) || decide (Builtin.Str.strKind x < Builtin.Str.strKind y))
 ·cases hf:(Builtin.Str.occurrences x y 0 x.length (x.length + 1)).isEmpty
  ·refine call_meets F.slot_str_split (typeIs_str _ _ _) F.entry_str_split (F.args_str_split_2 _ _) (meets_str_split_sep x y t u h1 hy hf (by omega) hn) ?_;show wants Q E _ { s with toks:=_,heap:=s.heap.push { cls:=.type "list",data:=.seq (strsFrom s.toks (Builtin.Str.partsBetween x (Builtin.Str.occurrences x y 0 x.length (x.length + 1)) y.length)).toArray } };rw [strsFrom_eq];exact h (numbered s.toks _) _ ((numbered_texts _ _).trans ((if_neg (ne_true_of_eq_false h1)).trans (if_neg (ne_true_of_eq_false hf))).symm)
  ·exact call_meets F.slot_str_split (typeIs_str _ _ _) F.entry_str_split (F.args_str_split_2 _ _) (meets_str_split_not_found x y t u h1 hy hf)
    (h [(x,t)] s.toks ((if_neg (ne_true_of_eq_false h1)).trans (if_pos hf)).symm)
 ·exact call_meets F.slot_str_split (typeIs_str _ _ _) F.entry_str_split (F.args_str_split_2 _ _) (meets_str_split_cannot_occur x y t u h1)
   (h [(x,t)] s.toks (if_pos h1).symm)
section
variable {X:Cx}
noncomputable def hJ:V→List V→Hp→VK→Prop:=fun x vs H Q=>∃ z y,x=.str z∧vs=[.str y]∧y.length ≠ 0∧z.length + 2 ≤ sizeLine∧(Txt.split z y).length ≤ sizeLine∧∀ p,H p=none→Q (.ref p) (upd H p (.lst (Pb (Txt.split z y))))
theorem KA:MtR X "str.split" hJ:=by
 intro pins s σ H x xs v us Q I rx rv h;obtain ⟨z,y,rfl,rfl,hy,hz,hn,q⟩:=h;obtain ⟨t,rfl⟩:=rx;obtain ⟨u,rfl,ru⟩:=Kr rv;obtain ⟨tu,rfl⟩:=ru;refine UB (by simpa using hy) (fun l k hl=>?_) hz;refine ⟨.ref s.heap.objs.size,_,I.laid (t':=k) (o:=.lst (Pb (Txt.split z y))) (fun b o e=>Heap.get?_push_of_some _ e) (Nat.le_refl _) ⟨by unfold Pb;rw [List.length_map];exact hn,strValues l,0,by rw [← hl];exact qw l,Heap.get?_push_size _ rfl⟩,rfl,q _ (I.hok.fresh (Nat.le_refl _))⟩
theorem rD:Al X (.type "int") (fun xs H Q=>∃ z n,xs=[.str z]∧intText? z=some n∧z.length ≤ 640∧Q (.int n) H):=by
 intro pins s σ H xs us Q I r h;obtain ⟨z,n,rfl,hn,hz,q⟩:=h;obtain ⟨u,rfl,t,rfl⟩:=Kr r;exact PySem.W.KIN.call_text hn hz ⟨.int n,H,I.tok _,⟨_,rfl⟩,q⟩
theorem Fx:∀ {bs:List Bool} {us:List Value},Dd (bs.map V.bl) us→us=bs.map Value.bool
 | [],_,.nil=>rfl
 | b :: bs,_,.cons r t=>by
  have e:_=Value.bool b:=r;rw [e,Fx t];rfl
theorem iy {A:Around} (bs:List Bool):TruthOf X.prog X.w A (fun i v=>(bs.map Value.bool).toArray[i]? = some v) (fun i=>bs.getD i true):=by
 intro i v s Q E hP hQ;have e:(bs.map Value.bool)[i]? = some v:=by simpa using hP
 rw [List.getElem?_map] at e;cases q:bs[i]? with
 | none=>rw [q] at e;cases e
 | some b=>
  rw [q] at e;have e':Value.bool b=v:=Option.some.inj e;subst e';refine wpAny_truthy_bool ?_;have:bs.getD i true=b:=by simp [List.getD,q]
  have hQ':Q (bs.getD i true) s:=hQ;rw [this] at hQ';exact hQ'
theorem sD (bs:List Bool):(List.range bs.length).all (fun i=>bs.getD i true)=bs.all id:=by
 rw [Bool.eq_iff_iff];simp only [List.all_eq_true,List.mem_range,id];constructor
 ·intro h b hb;obtain ⟨i,hi,e⟩:=List.mem_iff_getElem.mp hb;have:=h i hi;simp [List.getD,hi,e] at this;exact this
 ·intro h i hi;simp [List.getD,hi];exact h _ (List.getElem_mem hi)
theorem dH (hc:X.calm=true):Al X (.builtin "all") (fun xs H Q=>∃ (p:Addr) (bs:List Bool),xs=[.ref p]∧SqL X.K H p (bs.map V.bl)∧Q (.bl (bs.all id)) H):=by
 intro pins s σ H xs us Q I r h;obtain ⟨p,bs,rfl,hq,q⟩:=h;obtain ⟨u,rfl,ru⟩:=Kr r;cases ru;obtain ⟨its,rv,pl,_⟩:=I.list hq;have e:=Fx rv;subst e;refine call_all_walk (wpAny_pyIter_list pl.isList ?_);have hne:p ≠ s.heap.objs.size:=Nat.ne_of_lt (by obtain ⟨o,_,ho,_⟩:=pl;exact Heap.lt_size ho);refine ⟨s.heap.objs.size,_,_,_,_,_,fun i=>bs.getD i true,rfl,Walks.list (show X.A.in1.handled=none from I.ok.hd hc) _ p hne (bs.map Value.bool).toArray,⟨⟨_,Heap.get?_push_size _ rfl,rfl,rfl⟩,pl.isList.at fun o e=>Heap.get?_push_of_some _ e⟩,iy bs,fun h' tk kk=>?_⟩;refine ⟨.bl (bs.all id),H,I.kept fun b o e=>kk b o (by simpa using Nat.ne_of_lt (Heap.lt_size e)) (Heap.get?_push_of_some _ e),?_,q⟩;show Value.bool _=Value.bool _;rw [show (bs.map Value.bool).toArray.size=bs.length by simp,sD]
end
end L2
namespace L2
open PySem PySem.Spec PyProof.Rows
theorem Li {X:Cx} {N:List Str} (h:N.Nodup) (e:X.N=N):X.N.Nodup:=e ▸ h
noncomputable def UF (sc scope:Scope):Bool:=
 (scope.kind == .function) && scope.names.all (fun y=>y.2 != .cell) && scope.names.all (fun y=>y.2 != .free || sc.names.lookup y.1 == some .cell || sc.names.lookup y.1 == some .free) &&
  scope.names.all (fun y=>y.2 != .local || scope.names.lookup y.1 == some .local)
theorem Ud {env:Env} {sc scope:Scope} (he:env.scope=sc) (h:UF sc scope=true):mm env scope:=by
 subst he;unfold UF at h;simp only [Bool.and_eq_true,List.all_eq_true] at h;obtain ⟨⟨⟨h1,h2⟩,h3⟩,h4⟩:=h;refine ⟨by simpa using h1,fun y hy e=>?_,fun y hy e=>?_,fun y hy e=>?_⟩
 ·have:=h2 y hy;rw [e] at this;exact absurd this (by decide)
 ·have:=h3 y hy;rw [e] at this;simp only [Bool.or_eq_true] at this;rcases this with (z | z) | z
  ·exact absurd z (by decide)
  ·exact .inl (show env.scope.names.lookup y.1=some .cell by simpa using z)
  ·exact .inr (show env.scope.names.lookup y.1=some .free by simpa using z)
 ·have:=h4 y hy;rw [e] at this;simp only [Bool.or_eq_true] at this;rcases this with z | z
  ·exact absurd z (by decide)
  ·simpa using z
noncomputable def VN (M:List Str) (scope:Scope) (N:List Str) (sel:List (Option Nat)):Bool:=
 sel.length == N.length && (sel.zip N).all fun p=>match p.1 with | none=>true | some j=>M[j]? == some p.2 && scope.names.lookup p.2 == some .free
theorem Ie {M:List Str} {scope:Scope} {N:List Str} {sel:List (Option Nat)} (h:VN M scope N sel=true):Sy M scope N sel:=by
 unfold VN at h;simp only [Bool.and_eq_true,List.all_eq_true] at h;refine ⟨by simpa using h.1,fun i j x e1 e2=>?_⟩;have hm:(some j,x) ∈ sel.zip N:=by
  rw [List.mem_iff_getElem?];exact ⟨i,by rw [List.getElem?_zip_eq_some];exact ⟨e1,e2⟩⟩
 have:=h.2 _ hm;simp only [Bool.and_eq_true] at this;exact ⟨by simpa using this.1,by simpa using this.2⟩
noncomputable def noT:HO→Bool
 | .dT _=>false
 | .frz _ u=>noT u
 | _=>true
noncomputable def NoT (H:Hp):Prop:=∀ b o,H b=some o→noT o=true
theorem Xd.back {P:Program} {w:World} {H H':Hp} {h h':Heap} {a:Addr}:∀ (o:HO),noT o=true→Xd P w H' h' a o→Xd P w H h a o→Xd P w H h' a o
 | .lst _,_,x,_=>x
 | .tup _,_,x,_=>x
 | .dK _,_,x,_=>x
 | .dT _,e,_,_=>absurd e (by unfold noT;decide)
 | .set _ _,_,x,_=>x
 | .ins _ _ _,_,x,y=>⟨y.1,x.2⟩
 | .own _,_,x,_=>x
 | .xd _,_,x,_=>x
 | .met _ _,_,x,_=>x
 | .rng _ _,_,x,_=>x
 | .frz ob u,e,x,y=>⟨x.1,Xd.back u (by unfold noT at e;exact e) x.2 y.2⟩
 | .tbl _,_,x,_=>x
 | .ext _,_,x,_=>x
section
variable {P:Program} {w:World} {K:PySem.W.Frag} {mg:Str→Option Value} {base:Heap}
theorem Kb.forget {k:Nat} {f:Addr} {fd:FuncData} {ps:List Str} {sp sp':Sp} (F:Kb P w K mg base CX0 k f fd ps sp)
  (h:∀ vs H Q E,sp' vs H Q E→NoT H∧sp vs H (fun v H'=>dc H H'∧Q v H) E):Kb P w K mg base CX0 k f fd ps sp':=by
 refine ⟨fun vs H Q E q=>F.len vs H _ E (h vs H Q E q).2,fun A outer s H args us vs Q E hr he hb hv hs=>?_⟩;obtain ⟨nt,q⟩:=h vs H Q E hs;refine codeAny_mono (F.run A outer s H args us vs _ E hr he hb hv q) fun r s' hq=>?_
 cases r with
 | error e=>exact hq
 | ok fl=>
  cases fl with
  | next=>exact hq
  | brk=>exact hq
  | cont=>exact hq
  | ret u=>
   obtain ⟨v,H',os,bare,un,hok,rv,sm,q'⟩:=hq;exact ⟨v,H,os,bare,⟨un.keep,un.slot,fun _ _ _ n _=>n,un.there,fun _ _ z=>z,fun _ _ _ z=>z,fun _ ps z=>⟨#[],by rw [z];simp⟩⟩,fun a o e=>(hok a o (sm a o e)).back o (nt a o e) (he.hok a o e),rv,q'⟩
end
theorem jb {H:Hp} {p:Addr} {o:HO} (h:H p=none):dc H (upd H p o):=fun b u q=>by rw [rb (xb q h)];exact q
theorem dc.updN {H H1:Hp} {p:Addr} {o:HO} (s:dc H H1) (h:H p=none):dc H (upd H1 p o):=fun b u q=>by rw [rb (xb q h)];exact s b u q
structure Sc (K:PySem.W.Frag) (a:Addr) (ns:List Int) (H:Hp):Prop where
 sq:(∃ o,H a=some (.frz o (.lst (ns.map V.int))))∨∃ (o:Obj) (its:Array Value) (n:Nat),K.lookup a=some o∧o.cls=.type "list" ∧ o.dict=none∧o.data=.seq its n∧its.size ≤ sizeLine∧Dd (ns.map V.int) its.toList
 nt:NoT H
section
variable {K:PySem.W.Frag} {a p:Addr} {ns:List Int} {H H':Hp} {o:HO}
theorem Sc.seq (s:Sc K a ns H):SqL K H a (ns.map V.int):=by
 rcases s.sq with ⟨o,h⟩ | h
 ·exact .inl (.inr ⟨o,h⟩)
 ·exact .inr h
theorem Sc.new (s:Sc K a ns H) (hp:H p=none) (ho:noT o=true:=by rfl):Sc K a ns (upd H p o):=by
 refine ⟨?_,fun b u e=>?_⟩
 ·rcases s.sq with ⟨ob,h⟩ | h
  ·exact .inl ⟨ob,by rw [rb (xb h hp)];exact h⟩
  ·exact .inr h
 ·by_cases hb:b=p
  ·subst hb;rw [cb] at e;cases e;exact ho
  ·rw [rb hb] at e;exact s.nt b u e
theorem Sc.set {u:HO} (s:Sc K a ns H) (hp:H p=some u) (hu:∀ ob z,u ≠ .frz ob z) (ho:noT o=true:=by rfl):Sc K a ns (upd H p o):=by
 refine ⟨?_,fun b x e=>?_⟩
 ·rcases s.sq with ⟨ob,h⟩ | h
  ·refine .inl ⟨ob,?_⟩;have hne:a ≠ p:=fun z=>by subst z;rw [hp] at h;exact hu _ _ (Option.some.inj h)
   rw [rb hne];exact h
  ·exact .inr h
 ·by_cases hb:b=p
  ·subst hb;rw [cb] at e;cases e;exact ho
  ·rw [rb hb] at e;exact s.nt b x e
theorem Sc.of_only (hO:PM H) (hS:SqL K H a (ns.map V.int)):Sc K a ns H:=by
 refine ⟨?_,fun b u e=>?_⟩
 ·rcases hS with (h | ⟨o,h⟩) | h
  ·rcases hO a with z | ⟨ob,xs,z⟩
   ·rw [h] at z;cases z
   ·rw [h] at z;cases z
  ·exact .inl ⟨o,h⟩
  ·exact .inr h
 ·rcases hO b with z | ⟨ob,xs,z⟩
  ·rw [e] at z;cases z
  ·rw [e] at z;cases z;rfl
end
noncomputable def FM (K:PySem.W.Frag):Sp:=fun vs H Q _=>∃ (a:Addr) (ns:List Int),vs=[.ref a]∧Sc K a ns H∧ns.length ≤ 63∧∀ H',Q (.bl true) H'
theorem Zc:bootBuiltins "len"=some (.builtin "len"):=PySem.boot_len
theorem TB:bootBuiltins "all"=some (.builtin "all"):=by decide +kernel
theorem Xo:bootBuiltins "min"=some (.builtin "min"):=by decide +kernel
theorem iu:bootBuiltins "max"=some (.builtin "max"):=by decide +kernel
theorem rC:bootBuiltins "sum"=some (.builtin "sum"):=by decide +kernel
theorem wc:bootBuiltins "isinstance"=some (.builtin "isinstance"):=by decide +kernel
theorem eu:bootBuiltins "int"=some (.type "int"):=by decide +kernel
theorem Yg:bootBuiltins "str"=some (.type "str"):=by decide +kernel
theorem Es:bootBuiltins "list"=some (.type "list"):=by decide +kernel
theorem Rd.same {H H':Hp} {a:Addr} {o:HO} (h:Rd H a o) (s:dc H H'):Rd H' a o:=by
 rcases h with h | ⟨ob,h⟩
 ·exact .inl (s _ _ h)
 ·exact .inr ⟨ob,s _ _ h⟩
theorem SqL.same {K:PySem.W.Frag} {H H':Hp} {a:Addr} {xs:List V} (h:SqL K H a xs) (s:dc H H'):SqL K H' a xs:=by
 rcases h with h | h
 ·exact .inl (h.same s)
 ·exact .inr h
theorem SqT.same {K:PySem.W.Frag} {H H':Hp} {a:Addr} {xs:List V} (h:SqT K H a xs) (s:dc H H'):SqT K H' a xs:=by
 rcases h with h | h
 ·exact .inl (h.same s)
 ·exact .inr h
theorem NoT.upd {H:Hp} {p:Addr} {o:HO} (h:NoT H) (ho:noT o=true:=by rfl):NoT (upd H p o):=fun b u e=>by
 by_cases hb:b=p
 ·subst hb;rw [cb] at e;cases e;exact ho
 ·rw [rb hb] at e;exact h b u e
theorem Sc.same {K:PySem.W.Frag} {a:Addr} {ns:List Int} {H H':Hp} (s:Sc K a ns H) (sm:dc H H') (nt:NoT H'):Sc K a ns H':=by
 refine ⟨?_,nt⟩;rcases s.sq with ⟨o,h⟩ | h
 ·exact .inl ⟨o,sm _ _ h⟩
 ·exact .inr h
end L2
namespace L2
open PySem PySem.Spec PyProof.Rows
structure cN (K:PySem.W.Frag) (C:Addr) (m:Str) (f:Addr):Prop where
 rd:PySem.W.readsIn K C (.type "type")=true
 fd:PySem.W.findCls K (.ref C) (.type "type") m=some (.val (.ref f))
 ga:PySem.W.specialIn K (.ref C) "__getattribute__"=some (some (.builtin "type.__getattribute__"))
 kp:PySem.W.keepIn K (.ref f)=true
structure qG (P:Program) (w:World) (K:PySem.W.Frag) (mg:Str→Option Value) (base:Heap) (CX:CXT) (k:Nat) (OK:Addr→Prop) (m:Str) (ps:List Str) (SPV:Addr→Sp):Prop where
 ok:∀ C,OK C→∃ f fd,Cls K C∧Zk K C m f∧Kb P w K mg base CX k f fd ps (SPV C)∧Zb K fd ps []
noncomputable def iI (OK:Addr→Prop) (m:Str) (SPV:Addr→Sp) (E:XK) (ta:TE) (t:TA):TE:=fun σ H Q=>ta σ H fun x H1=>∃ a C dx fs,x=.ref a∧H1 a=some (.ins C dx fs)∧OK C∧fs.lookup m=none ∧
 t σ H1 fun vs H2=>SPV C (x :: vs) H2 Q E
section
variable {X:Cx} {CX:CXT} {k:Nat} {f C:Addr} {fd:FuncData} {ps:List Str} {sp:Sp} {dvs:List V} {ds:List Value} {E:XK} {x m:Str} {p pos apos:Pos} {e o:Expr} {es:List Expr} {ta:TE} {t:TA}
theorem Vu {pl:Sem Bool} (hg:Gl X x) (hm:X.mg x=some (.ref C)) (c:cN X.K C m f) (F:Kb X.prog X.w X.K X.mg X.base CX k f fd ps sp) (hr:Ni k X.A) (hb:Zb X.K fd ps ds) (hd:Dd dvs ds) (hx:Vk CX X E) (ha:PA X (e :: es) t)
  (hdb:(x == ("__debug__" : Str))=false:=by decide) (hst:starEach (e :: es) X.env=(false,eval e X.env) :: starEach es X.env:=by rfl) (hpl:(backTo pos (starEach es X.env)).any (·.1)=false:=by rfl)
  (ht:eval (.Call (.Attribute (.Name x p) m apos) (e :: es) [] pos) X.env=(do
   let ov ← eval (.Name x p) X.env
   standAt apos.atName
   let (f,first) ← holding [ov] (getMethod ov m pl)
   callWith pos f first (backTo pos (starEach (e :: es) X.env)) (backToKw pos (keywordEach [] X.env))):=by rfl) :
  PE X (.Call (.Attribute (.Name x p) m apos) (e :: es) [] pos) (DF sp dvs E t):=by
 intro pins s σ H Q I h;refine PySem.W.methodCall_KW (pl:=pl) (wk I hg hm ?_ hdb) ht;refine PySem.W.method_cls I.kIn c.ga (PySem.W.cls_value I.kIn c.rd c.fd rfl ?_);have I1:=I.tok (s.toks + 1);refine PySem.W.callWith_K (first:=[]) (h₀:=X.base) I.ok.mod.kin c.kp (thn (ha pos pins _ σ H _ I1 h) fun us s2 ⟨vs,H2,I2,r,q2⟩=>⟨I2.kIn,?_⟩) hst hpl;exact Ow F hr hb hd hx I2 r q2
variable {OK:Addr→Prop} {SPV:Addr→Sp}
theorem wn {pl:Sem Bool} (he:PE X o ta) (V:qG X.prog X.w X.K X.mg X.base CX k OK m ps SPV) (hr:Ni k X.A) (hx:Vk CX X E)
  (ht:eval (.Call (.Attribute o m apos) [] [] pos) X.env=(do
   let ov ← eval o X.env
   standAt apos.atName
   let (f,first) ← holding [ov] (getMethod ov m pl)
   callWith pos f first (backTo pos (starEach [] X.env)) (backToKw pos (keywordEach [] X.env))):=by rfl) :
  PE X (.Call (.Attribute o m apos) [] [] pos) (iI OK m SPV E ta SM):=by
 intro pins s σ H Q I h;refine PySem.W.methodCall_KW (pl:=pl) (thn (he pins s σ H _ I h) fun u s1 hZ1=>?_) ht;obtain ⟨x,H1,I1,rx,a,C,dx,fs,ex,ea,ok,l,q⟩:=hZ1;subst ex;obtain rfl:u=Value.ref a:=rx;obtain ⟨f,fd,c,hm,F,hb⟩:=V.ok C ok;refine Oo I1 ea c hm l ?_;exact PySem.W.callWith_K0 (first:=[.ref a]) I1.kIn hm.kp (Ow (us:=[.ref a]) (vs:=[.ref a]) (dvs:=[]) F hr hb .nil hx I1 (.cons rfl .nil) q)
end
section
variable {X:Cx} {x:Str} {p pos:Pos} {i:Expr} {ty:TE} {u:Value} {kvs:List (Str × V)}
end
theorem yd {f:Str} {v:V}:∀ {fs:List (Str × V)} (ks:List Str),fs.map (·.1)=ks→ks.contains f=false→Vh f v fs=fs ++ [(f,v)]
 | [],_,_,_=>rfl
 | (g,y) :: r,ks,e,h=>by
  cases e;rw [List.map_cons,List.contains_cons] at h;have h1:=(Bool.or_eq_false_iff.mp h);have hne:¬ g=f:=fun z=>by
   have:=h1.1;rw [z] at this;simp at this
  show (if g=f then _ else _)=_;rw [if_neg hne,yd _ rfl h1.2];rfl
theorem wo {f:Str} {v:V} {fs:List (Str × V)} {n:Nat} (h:fs.length < n):(Vh f v fs).length < n + 1:=Nat.lt_of_le_of_lt (bn f v fs) (by omega)
theorem zd {f:Str} {v:V}:∀ {fs:List (Str × V)} (ks:List Str) (i:Nat),fs.map (·.1)=ks→ks.findIdx? (· == f)=some i→fs[i]? = some (f,v)→fs.lookup f=some v
 | [],_,_,_,_,h=>by simp at h
 | (g,y) :: r,ks,i,e,h,hv=>by
  cases e;rw [List.map_cons,List.findIdx?_cons] at h;rw [List.lookup];by_cases e:g=f
  ·subst e;rw [beq_self_eq_true,if_pos rfl] at h;cases h;have:(g,y)=(g,v):=by simpa using hv
   cases this;rw [beq_self_eq_true]
  ·rw [beq_eq_false_iff_ne.mpr e,if_neg (by decide)] at h;obtain ⟨j,hj,rfl⟩:=Option.map_eq_some_iff.mp h;rw [beq_eq_false_iff_ne.mpr (fun z=>e z.symm)];exact zd _ j rfl hj (by simpa using hv)
theorem vo {f:Str}:∀ {fs:List (Str × V)} (ks:List Str),fs.map (·.1)=ks→ks.contains f=false→fs.lookup f=none
 | [],_,_,_=>rfl
 | (g,y) :: r,ks,e,h=>by
  cases e;rw [List.map_cons,List.contains_cons] at h;have h1:=(Bool.or_eq_false_iff.mp h);rw [List.lookup,h1.1];exact vo _ rfl h1.2
end L2
namespace L2
open PySem PySem.Spec PyProof.Rows
theorem Inv.turnedL {X:Cx} {pins:List (Addr × Obj)} {σ:St} {H:Hp} {s:Shared} {h':Heap} {t':Nat} {fp:List Addr} (I:Inv X pins σ H s) (k:∀ b o,b ∉ fp→s.heap.get? b=some o→h'.get? b=some o)
  (hf:∀ b ∈ fp,Vp X pins H b):Inv X pins σ H { s with heap:=h',toks:=t' }:=by
 have nit:∀ b u,H b=some u→b ∉ fp:=fun b u e z=>by rw [(hf b z).1] at e;cases e
 refine I.step (g':=s.gens) (d':=s.drawn) (ch:=fp) (fun b hb=>?_) (fun b o _ _ hc e _=>k b o hc e) (fun b o _ _ hc e _=>⟨o.slots,k b o hc e⟩) (fun _ _ _ _ n=>n)
  (fun b o hc e=>⟨o,k b o hc e⟩) (fun _ _ e=>e) (fun _ _ _ e=>e) (fun b ps e=>⟨#[],by rw [e];simp⟩) (fun m hm=>?_) (fun b u e=>?_) I.bare
 ·obtain ⟨f0,f1,f2,f3,f4,f5⟩:=hf b hb;exact ⟨f3,f1,f4,f5⟩
 ·obtain ⟨o,es,ep,ho,r⟩:=hm;exact ⟨o,es,ep,k _ o (fun z=>(hf _ z).2.1 rfl) ho,r⟩
 ·refine (I.hok b u e).stay (fun c v hc q=>k c v ?_ q) (fun _ q=>q) fun _ _ q=>q
  rcases hc with z | z
  ·rw [z];exact nit b u e
  ·exact nit c _ z
noncomputable def Ite (K:PySem.W.Frag) (a:Addr):It:=
 ⟨fun i H=>∃ xs x,SqL K H a xs∧xs[i]? = some x,fun i H v H'=>∃ p y,H p=none∧v=.ref p∧(∀ xs,SqL K H a xs→xs[i]? = some y)∧H'=upd H p (.tup [.int i,y]),fun i H=>∃ xs,SqL K H a xs∧xs.length ≤ i⟩
theorem RE {P:Program} {w:World} {K:PySem.W.Frag} {es:List Expr} {k} {pos:Pos} (a e it:Addr) (hne:e ≠ it) :
  OJ P w K (.Tuple es k pos) (Ite K a) [e,it] e (fun i h=>∃ old,IsEnum h e it ((i:Nat):Int) old∧h.IsListIter it a i) where
 mem:=by simp
 obj:=fun i h ⟨old,he,hi⟩ b hb=>by
  simp only [List.mem_cons,List.not_mem_nil,or_false] at hb;rcases hb with rfl | rfl
  ·exact ⟨_,he,fun v z=>by
    have z':Data.fields _=Data.cell v:=z;cases z'⟩
  ·obtain ⟨o,q,c,d⟩:=hi;exact ⟨o,q,fun v z=>by rw [d] at z;cases z⟩
 keep:=fun i h h' ⟨old,he,hi⟩ k=>⟨old,k e (by simp) _ he,hi.at fun o q=>k it (by simp) o q⟩
 item:=by
  intro X hP hw hK hc i pins s σ H E I hf ⟨old,he,hi⟩ hg;subst hP hw hK;obtain ⟨xs,x,hq,hx⟩:=hg;obtain ⟨its,rv,p,hz⟩:=I.list hq;obtain ⟨u,hu,ru⟩:=rv.get hx;refine wpAny_pyNext_enum_item he hi p.isList (x:=u) (by simpa using hu) hne fun h1 he1 hi1 ht1 hz1 hk1=>⟨_,rfl,?_⟩
  refine wpAny_letOwnedTupleGo_enum he1 fun h2 he2 hs2=>?_
  replace hs2:Heap.SameBut e h1 h2:=hs2;have hel:e < s.heap.objs.size:=Heap.lt_size he;have hk:∀ b o,b ∉ [e,it]→s.heap.get? b=some o→h2.get? b=some o:=fun b o hb q=>by
   simp only [List.mem_cons,List.not_mem_nil,or_false,not_or] at hb;exact hs2.extBut _ _ hb.1 (hk1 b o hb.1 hb.2 q)
  have I1:Inv X pins σ H { s with heap:=h2,toks:=s.toks + 1 }:=I.turnedL hk hf;have fo:Vp X pins H s.heap.objs.size:=I.fpOk (Nat.le_refl _) (I.hok.fresh (Nat.le_refl _));have ht2:h2.get? s.heap.objs.size=some { cls:=.type "tuple",data:=.seq #[.int i s.toks,u] }:=(hs2.2 _ (Nat.ne_of_gt hel)).trans ht1;have I2:=I1.adopt (o:=.tup [.int i,x]) fo ⟨⟨by show 2 ≤ sizeLine;decide,_,ht2,rfl⟩,[.int i s.toks,u],.cons ⟨_,rfl⟩ (.cons ru .nil),⟨_,ht2,rfl,_,rfl⟩⟩;refine ⟨.ref s.heap.objs.size,_,I2,rfl,⟨_,x,fo.1,rfl,fun ys hy=>by rw [I.list_inj hy hq];exact hx,rfl⟩,⟨u,?_,?_⟩,fun b hb=>?_⟩
  ·have e1:((i + 1:Nat):Int)=(i:Int) + 1:=by omega
   rw [e1];exact he2
  ·exact hi1.extBut hs2.extBut (Ne.symm hne)
  ·have hlt:b < s.heap.objs.size:=by
    simp only [List.mem_cons,List.not_mem_nil,or_false] at hb;rcases hb with rfl | rfl
    ·exact hel
    ·obtain ⟨o,q,_⟩:=hi;exact Heap.lt_size q
   rw [rb (Nat.ne_of_lt hlt)];exact (hf b hb).1
 done:=by
  intro X hP hw hK hc i pins s σ H E I hf ⟨old,he,hi⟩ hg;subst hP hw hK;obtain ⟨xs,hq,hx⟩:=hg;obtain ⟨its,rv,p,hz⟩:=I.list hq;have hl:=rv.length;exact wpAny_pyNext_enum_end (I.ok.hd hc) he hi p.isList (by simp;omega) fun h' eb=>⟨rfl,I.turnedL (t':=s.toks) (fun b o hb q=>eb b o (fun z=>hb (by simp [z])) q) hf⟩
 self:=fun _ _ _ _ _ ⟨_,he,_⟩ h=>wpAny_pyIter_enum he h
theorem kt:bootBuiltins "enumerate"=some (.type "enumerate"):=by decide +kernel
theorem zv:bootBuiltins "reversed"=some (.type "reversed"):=by decide +kernel
noncomputable def Itz (K:PySem.W.Frag) (a b:Addr):It:=
  ⟨fun i H=>∃ xs ys x y,SqL K H a xs∧SqL K H b ys∧xs[i]? = some x∧ys[i]? = some y,
   fun i H v H'=>∃ p x y,H p=none∧v=.ref p∧(∀ xs,SqL K H a xs→xs[i]? = some x)∧(∀ ys,SqL K H b ys→ys[i]? = some y)∧H'=upd H p (.tup [x,y]),
   fun i H=>∃ xs ys,SqL K H a xs∧SqL K H b ys∧(xs.length ≤ i∨ys.length ≤ i)⟩
section
variable {X:Cx}
noncomputable def EL (K:PySem.W.Frag) (ta:TA):TI:=fun σ H R=>ta σ H fun vs H1=>∃ a,vs=[.ref a]∧(∃ xs,SqL K H1 a xs)∧R (Ite K a) H1
theorem Ur {es:List Expr} {k} {tpos:Pos} {a:Expr} {ta:TA} {p pos:Pos} (hg:Gl X "enumerate") (hm:X.mg "enumerate"=none) (ha:PA X [a] ta) (hs:starEach [a] X.env=[(false,eval a X.env)]:=by rfl) :
  PI X (.Tuple es k tpos) (.Call (.Name "enumerate" p) [a] [] pos) (EL X.K ta):=by
 intro pins s σ H R I h;refine Call_ (wp I hg hm kt (PyProof.Rows.callWith_type1 (thn (ha pos pins s σ H _ I h) fun us s1 hZ1=>?_) hs rfl));obtain ⟨vs,H1,I1,r1,q1⟩:=hZ1;obtain ⟨a,e,⟨xs,hq⟩,q⟩:=q1;subst e;cases r1 with
 | cons r rr=>
  cases rr;cases r;obtain ⟨its,rv,pl,hz⟩:=I1.list hq;refine call_enumerate_list pl.isList fun h' hE hI hsz hk=>wpAny_pyIter_enum hE ?_
  refine ⟨s1.heap.objs.size + 1,[s1.heap.objs.size + 1,s1.heap.objs.size],_,_,H1,rfl,I1.kept (t':=s1.toks) hk,RE a _ _ (Nat.succ_ne_self _),⟨_,hE,hI⟩,fun b hb=>?_,q⟩;have hb':s1.heap.objs.size ≤ b:=by
   simp only [List.mem_cons,List.not_mem_nil,or_false] at hb;rcases hb with rfl | rfl
   ·exact Nat.le_succ _
   ·exact Nat.le_refl _
  exact I1.fpOk hb' (I1.hok.fresh hb')
end
theorem Fg {X:Cx} {es:List Expr} {k:Nat} {pos:Pos} {t:TGs} {n:Nat} {K:PySem.W.Frag} (hK:X.K=K) (hc:X.calm=true) (h:PGs X es t)
  (hn:(assignEach es X.env).length=n:=by rfl) (hst:(assignEach es X.env).findIdx? (·.1)=none:=by rfl):PG X (.Tuple es k pos) (IL K n t):=by
 subst hK;exact iM hc h hn hst
section
variable {X:Cx}
theorem sw {P:Nat→Value→Prop} {f:Nat→V} (hP:∀ i v,P i v→Jd (f i) v):∀ (l:List Value) (k:Nat),(∀ j v,l[j]? = some v→P (k + j) v)→Dd ((List.range l.length).map fun i=>f (k + i)) l
 | [],_,_=>.nil
 | v :: r,k,h=>by
  rw [List.length_cons,List.range_succ_eq_map,List.map_cons,List.map_map];refine .cons (hP _ _ (h 0 v rfl)) ?_;have:=sw hP r (k + 1) fun j w hj=>by
   have:=h (j + 1) w (by simpa using hj);rwa [show k + 1 + j=k + (j + 1) by omega]
  have e:(fun i=>f (k + 1 + i))=((fun i=>f (k + i)) ∘ Nat.succ):=funext fun i=>by
   show f (k + 1 + i)=f (k + (i + 1));rw [show k + 1 + i=k + (i + 1) by omega]
  rwa [e] at this
theorem DB {P:Nat→Value→Prop} {f:Nat→V} (hP:∀ i v,P i v→Jd (f i) v) {acc:Array Value} {n:Nat} (h:ItemsOf P acc n):Dd ((List.range n).map f) acc.toList:=by
 have:=sw hP acc.toList 0 fun j v hj=>by
  rw [Nat.zero_add];exact h.2 j v (by rw [← Array.getElem?_toList];exact hj)
 rw [show acc.toList.length=n by rw [Array.length_toList];exact h.1] at this;simpa using this
end
end L2
namespace L2
open PySem PySem.Spec PyProof.Rows
inductive EqH (K:PySem.W.Frag) (H:Hp):Nat→V→V→Bool→Prop
 | flat {k:Nat} {x y:V} (hx:Lm x=true) (hy:Lm y=true):EqH K H k x y (eqV x y)
 | lst {k:Nat} {p q:Addr} {xs ys:List V} {e:Nat→Bool} (hp:SqL K H p xs) (hq:SqL K H q ys) (hl:xs.length=ys.length) (he:∀ (j:Nat) (x y:V),xs[j]? = some x→ys[j]? = some y→EqH K H k x y (e j)):EqH K H (k + 1) (.ref p) (.ref q) ((List.range xs.length).all e)
 | lstN {k:Nat} {p q:Addr} {xs ys:List V} (hp:SqL K H p xs) (hq:SqL K H q ys) (hl:xs.length ≠ ys.length):EqH K H (k + 1) (.ref p) (.ref q) false
 | tup {k:Nat} {p q:Addr} {xs ys:List V} {e:Nat→Bool} (hp:SqT K H p xs) (hq:SqT K H q ys) (he:∀ (j:Nat) (x y:V),xs[j]? = some x→ys[j]? = some y→EqH K H k x y (e j)):EqH K H (k + 1) (.ref p) (.ref q) ((List.range (min xs.length ys.length)).all e && xs.length == ys.length)
theorem cH {x:V} (h:Lm x=true):eqV x x=true:=by
 cases x <;> first | rfl | (simp [eqV];done) | cases h
theorem Pu {n:Nat} {e:Nat→Bool} (h:∀ j,j < n→e j=true):(List.range n).all e=true:=by
 rw [List.all_eq_true];exact fun j hj=>h j (List.mem_range.mp hj)
section
variable {X:Cx} {pins:List (Addr × Obj)} {σ:St} {H:Hp} {s:Shared}
theorem EqH.self (I:Inv X pins σ H s) {k:Nat} {x y:V} {b:Bool} (h:EqH X.K H k x y b) (e:x=y):b=true:=by
 induction h with
 | flat hx hy=>subst e;exact cH hx
 | @lst k p q xs ys f hp hq hl he ih=>
  injection e with e;subst e;have:=I.list_inj hp hq;subst this;refine Pu fun j hj=>?_
  exact ih j xs[j] xs[j] (List.getElem?_eq_getElem hj) (List.getElem?_eq_getElem hj) rfl
 | lstN hp hq hl=>
  injection e with e;subst e;have:=I.list_inj hp hq;subst this;exact absurd rfl hl
 | @tup k p q xs ys f hp hq he ih=>
  injection e with e;subst e;have:=I.tuple_inj hp hq;subst this;rw [Bool.and_eq_true];refine ⟨Pu fun j hj=>?_,by simp⟩;have hj':j < xs.length:=by omega
  exact ih j xs[j] xs[j] (List.getElem?_eq_getElem hj') (List.getElem?_eq_getElem hj') rfl
theorem Qn (A:Around):A.in1.units=A.units + 1:=rfl
theorem fH (I:Inv X pins σ H s) {k:Nat} {x y:V} {b:Bool} (h:EqH X.K H k x y b):∀ (A:Around) (v u:Value),A.units + k < cLine→Jd x v→Jd y u →
  SeqAt.EqAt A s v u b∧(∀ p q,x=.ref p→y=.ref q→SeqAt.RcAt A s v u b):=by
 induction h with
 | flat hx hy=>
  intro A v u hu rx ry;refine ⟨vI rx ry hx hy,fun p q e _=>?_⟩;subst e;cases hx
 | @lst k p q xs ys f hp hq hl he ih=>
  intro A v u hu rx ry;cases rx;cases ry;obtain ⟨its,r,pl,hz⟩:=I.list hp;obtain ⟨jts,r',pl',hz'⟩:=I.list hq;have l1:=r.length;have l2:=r'.length;have rc:SeqAt.RcAt A s (.ref p) (.ref q) ((List.range xs.length).all f):=by
   have:=SeqAt.RcAt.lists (A:=A) (e:=f) pl.isList pl'.isList (by simp only [List.size_toArray];omega) (by omega) fun j h1 h2=>by
    simp only [List.size_toArray] at h1 h2;have hj:j < xs.length:=by omega
    have hj':j < ys.length:=by omega
    obtain ⟨a,ha,ra⟩:=r.get (List.getElem?_eq_getElem hj);obtain ⟨c,hc,rc⟩:=r'.get (List.getElem?_eq_getElem hj');have ea:its.toArray[j]=a:=by
     have:=List.getElem?_eq_getElem h1;rw [ha] at this;simpa using (Option.some.inj this).symm
    have ec:jts.toArray[j]=c:=by
     have:=List.getElem?_eq_getElem h2;rw [hc] at this;simpa using (Option.some.inj this).symm
    rw [ea,ec];exact (ih j _ _ (List.getElem?_eq_getElem hj) (List.getElem?_eq_getElem hj') A.in1 a c (by rw [Qn];omega) ra rc).1
   rwa [List.size_toArray,← l1] at this
  refine ⟨?_,fun _ _ _ _=>rc⟩;by_cases hne:p=q
  ·have hb:=(EqH.lst hp hq hl he).self I (congrArg V.ref hne);rw [hb,hne];exact SeqAt.EqAt.same _
  ·exact SeqAt.EqAt.of_refs hne rc
 | @lstN k p q xs ys hp hq hl=>
  intro A v u hu rx ry;cases rx;cases ry;obtain ⟨its,r,pl,hz⟩:=I.list hp;obtain ⟨jts,r',pl',hz'⟩:=I.list hq;have l1:=r.length;have l2:=r'.length;have rc:SeqAt.RcAt A s (.ref p) (.ref q) false:=SeqAt.RcAt.lists_lengths pl.isList pl'.isList (by simp only [List.size_toArray,bne_iff_ne,ne_eq];omega) (by omega);refine ⟨SeqAt.EqAt.of_refs (fun e=>hl ?_) rc,fun _ _ _ _=>rc⟩;subst e;rw [I.list_inj hp hq]
 | @tup k p q xs ys f hp hq he ih=>
  intro A v u hu rx ry;cases rx;cases ry;obtain ⟨its,r,pl,hz⟩:=I.tuple hp;obtain ⟨jts,r',pl',hz'⟩:=I.tuple hq;have l1:=r.length;have l2:=r'.length;have rc:SeqAt.RcAt A s (.ref p) (.ref q) ((List.range (min xs.length ys.length)).all f && xs.length == ys.length):=by
   have:=SeqAt.RcAt.tuples (A:=A) (e:=f) pl pl' (by omega) fun j h1 h2=>by
    simp only [List.size_toArray] at h1 h2;have hj:j < xs.length:=by omega
    have hj':j < ys.length:=by omega
    obtain ⟨a,ha,ra⟩:=r.get (List.getElem?_eq_getElem hj);obtain ⟨c,hc,rc⟩:=r'.get (List.getElem?_eq_getElem hj');have ea:its.toArray[j]=a:=by
     have:=List.getElem?_eq_getElem h1;rw [ha] at this;simpa using (Option.some.inj this).symm
    have ec:jts.toArray[j]=c:=by
     have:=List.getElem?_eq_getElem h2;rw [hc] at this;simpa using (Option.some.inj this).symm
    rw [ea,ec];exact (ih j _ _ (List.getElem?_eq_getElem hj) (List.getElem?_eq_getElem hj') A.in1 a c (by rw [Qn];omega) ra rc).1
   rwa [List.size_toArray,List.size_toArray,← l1,← l2] at this
  refine ⟨?_,fun _ _ _ _=>rc⟩;by_cases hne:p=q
  ·have hb:=(EqH.tup hp hq he).self I (congrArg V.ref hne);rw [hb,hne];exact SeqAt.EqAt.same _
  ·exact SeqAt.EqAt.of_refs hne rc
end
section
variable {X:Cx} {pins:List (Addr × Obj)} {σ:St} {H:Hp} {s:Shared}
theorem vw (I:Inv X pins σ H s) {k:Nat} {A:Around} {xs ys:List V} {its jts:List Value} {f:Nat→Bool} (hu:A.units + k < cLine) (r:Dd xs its) (r':Dd ys jts)
  (he:∀ (j:Nat) (x y:V),xs[j]? = some x→ys[j]? = some y→EqH X.K H k x y (f j)):∀ j (h1:j < its.toArray.size) (h2:j < jts.toArray.size),SeqAt.EqAt A s its.toArray[j] jts.toArray[j] (f j):=fun j h1 h2=>by
 simp only [List.size_toArray] at h1 h2;have l1:=r.length;have l2:=r'.length;have hj:j < xs.length:=by omega
 have hj':j < ys.length:=by omega
 obtain ⟨a,ha,ra⟩:=r.get (List.getElem?_eq_getElem hj);obtain ⟨c,hc,rc⟩:=r'.get (List.getElem?_eq_getElem hj');have ea:its.toArray[j]=a:=by
  have:=List.getElem?_eq_getElem h1;rw [ha] at this;simpa using (Option.some.inj this).symm
 have ec:jts.toArray[j]=c:=by
  have:=List.getElem?_eq_getElem h2;rw [hc] at this;simpa using (Option.some.inj this).symm
 rw [ea,ec];exact (fH I (he j _ _ (List.getElem?_eq_getElem hj) (List.getElem?_eq_getElem hj')) A a c hu ra rc).1
theorem YL (I:Inv X pins σ H s) {k:Nat} {p q:Addr} {b:Bool} (h:EqH X.K H k (.ref p) (.ref q) b) (A:Around) (hu:A.units + k < cLine):SeqAt.RcNeAt A s (.ref p) (.ref q) (!b):=by
 cases h with
 | flat hx hy=>cases hx
 | @lst k _ _ xs ys f hp hq hl he=>
  obtain ⟨its,r,pl,hz⟩:=I.list hp;obtain ⟨jts,r',pl',hz'⟩:=I.list hq;have l1:=r.length;have l2:=r'.length;have:=SeqAt.RcNeAt.lists (A:=A) (e:=f) pl.isList pl'.isList (by simp only [List.size_toArray];omega) (by omega) (vw I (A:=A.in1) (k:=k) (by rw [Qn];omega) r r' he);rwa [List.size_toArray,← l1] at this
 | @lstN k _ _ xs ys hp hq hl=>
  obtain ⟨its,r,pl,hz⟩:=I.list hp;obtain ⟨jts,r',pl',hz'⟩:=I.list hq;have l1:=r.length;have l2:=r'.length;exact SeqAt.RcNeAt.lists_lengths pl.isList pl'.isList (by simp only [List.size_toArray,bne_iff_ne,ne_eq];omega) (by omega)
 | @tup k _ _ xs ys f hp hq he=>
  obtain ⟨its,r,pl,hz⟩:=I.tuple hp;obtain ⟨jts,r',pl',hz'⟩:=I.tuple hq;have l1:=r.length;have l2:=r'.length;have:=SeqAt.RcNeAt.tuples (A:=A) (e:=f) pl pl' (by omega) (vw I (A:=A.in1) (k:=k) (by rw [Qn];omega) r r' he);rwa [List.size_toArray,List.size_toArray,← l1,← l2] at this
end
section
variable {X:Cx}
noncomputable def aO (K:PySem.W.Frag):R2:=fun x y H Q=>∃ p q b,x=.ref p∧y=.ref q∧EqH K H 8 (.ref p) (.ref q) b∧Q (.bl (!b)) H
theorem YK (hU:X.A.units + 64 < cLine):OpR X (compareOp .NotEq) (aO X.K):=by
 intro pins s σ H x y v u Q I rx ry h;obtain ⟨p,q,b,rfl,rfl,hE,q'⟩:=h;cases rx;cases ry;exact YL I hE X.A (by omega) _ _ _ _ ⟨.bl (!b),H,I,rfl,q'⟩
end
theorem EqH.mono {K:PySem.W.Frag} {H:Hp} {j k:Nat} {x y:V} {b:Bool} (h:EqH K H j x y b):j ≤ k→EqH K H k x y b:=by
 induction h generalizing k with
 | flat hx hy=>exact fun _=>.flat hx hy
 | lst hp hq hl he ih=>
  intro hk;obtain ⟨m,rfl⟩:∃ m,k=m + 1:=⟨k - 1,by omega⟩;exact .lst hp hq hl fun j x y h1 h2=>ih j x y h1 h2 (by omega)
 | lstN hp hq hl=>
  intro hk;obtain ⟨m,rfl⟩:∃ m,k=m + 1:=⟨k - 1,by omega⟩;exact .lstN hp hq hl
 | tup hp hq he ih=>
  intro hk;obtain ⟨m,rfl⟩:∃ m,k=m + 1:=⟨k - 1,by omega⟩;exact .tup hp hq fun j x y h1 h2=>ih j x y h1 h2 (by omega)
end L2
namespace L2
open PySem PySem.Spec PyProof.Rows PySem.Builtin PySem.Builtin.ObjectAttr
theorem cI {H:Hp} {a:Addr} {o:HO} (h:H a=some o):upd H a o=H:=by
 funext b;unfold upd;by_cases e:b=a
 ·rw [if_pos e,e,h]
 ·rw [if_neg e]
noncomputable abbrev bmV:List Value:=[.type "ValueError",.type "Exception",.type "BaseException",.type "object"]
noncomputable def Iu (K:PySem.W.Frag) (C fI:Addr):Bool:=
 match K.lookup C with
 | some ⟨.type "type",_,.cls cd,sl⟩=>
  match cd.mro,sl.toList with
  | .ref D :: tl,[_,_,_,_,some (.builtin n),_]=>
   (D == C) && (n == "ValueError.__new__") && (cd.hasDel == false) && (cd.hasDict == true) && PySem.W.tailIn K bmV tl && PySem.W.nsOkIn K cd.ns && (PySem.W.nsIn K cd.ns "__init__" == some (some (.ref fI)))
  | _,_=>false
 | _=>false
theorem IJ {K:PySem.W.Frag} {h:Heap} {N:Addr} {mN:Str→Option Value} {x:Str} {v:Value} (KX:K.In h) (G:h.Ns N mN) (e:PySem.W.nsIn K N x=some (some v)):mN x=some v:=by
 obtain ⟨ob,rows,ep,e1,e2,_,look⟩:=G;unfold PySem.W.nsIn at e;split at e
 ·rename_i ho;have z:=KX _ _ ho;rw [e1] at z;cases z;cases e2;split at e
  ·rename_i en he;cases e;rw [← look];unfold nsFind findBy;rw [← Array.find?_toList,he];rfl
  ·split at e <;> cases e
 ·cases e
theorem gw {K:PySem.W.Frag} {h:Heap} {C fI:Addr} (KX:K.In h) (e:Iu K C fI=true) :
  ∃ tl N nm q bs sn sub ab co dd k0 k1 k2 k3 k5 mN,h.get? C=some (excClassObj nm q C N bs tl true sn sub ab co dd k0 k1 k2 k3 k5 "ValueError.__new__")∧h.Ns N mN∧mN "__init__"=some (.ref fI)∧OwnTail h bmV tl:=by
 unfold Iu at e;split at e
 ·rename_i dd cd sl ho;split at e
  ·rename_i D tl k0 k1 k2 k3 n k5 hm hs;simp only [Bool.and_eq_true,beq_iff_eq] at e;obtain ⟨⟨⟨⟨⟨⟨e1,e2⟩,e3⟩,e4⟩,e5⟩,e6⟩,e7⟩:=e;obtain ⟨nm,bs,mro,ns,qn,hd,sn,sub,ab,co,del⟩:=cd;simp only at hm e3 e4 e6 e7;subst hm e1 e2 e3 e4;obtain ⟨l⟩:=sl;simp only at hs;subst hs;have G:h.Ns ns (h.nsMap ns):=.of_isNs (PySem.W.isNs_of_in KX e6);exact ⟨tl,ns,nm,qn,bs,sn,sub,ab,co,dd,k0,k1,k2,k3,k5,h.nsMap ns,KX _ _ ho,G,IJ KX G e7,PySem.W.tail_of_in KX e5⟩
  ·cases e
 ·cases e
section
variable {P:Program} {w:World} {A:Around} {h:Heap} {g:Array GenState} {d:Drawn} {t:Nat} {os:OsState} {K:PySem.W.Frag} {C fI:Addr} {R:Result→Shared→Prop}
theorem VF {us:List Value} (KX:K.In h) (e:Iu K C fI=true) (hf:PySem.W.typeIn K (.ref fI)=some (.type "function")) (hz:us.length ≤ sizeLine)
  (hq:∀ h' x,h.objs.size ≤ x→Heap.MadeExcOf h h' x (.ref C) us→codeAny (model P w) (A.under (.builtin "type.__call__" ⟨.ref C :: us,[]⟩)) (.call (.ref fI) ⟨.ref x :: us,[]⟩) (PySem.W.InitBack x R) ⟨h',g,d,t,os⟩) :
  codeAny (model P w) A (.call (.ref C) ⟨us,[]⟩) R ⟨h,g,d,t,os⟩:=by
 obtain ⟨tl,N,nm,q,bs,sn,sub,ab,co,dd,k0,k1,k2,k3,k5,mN,hC,hN,hi,T⟩:=gw KX e;have F:=PySem.F.excBase_ValueError;have f1:=tc_lookup;have f2:=tc_bind (.ref C);have ty:(⟨h,g,d,t,os⟩:Shared).TypeIs (.ref C) "type" := ⟨_,hC,rfl⟩;refine codeAny_of_tree ?_;show wpAny _ _ (callAny (.ref C) _) _ _ _
 repeat (any_goals (first | assumption | with_reducible refine wpAny_loadPart_at hC ?_ | wp_step))
 refine ⟨rfl,?_⟩;refine codeAny_call_builtin_at (Code.quiet_builtin _ (by decide +kernel)) entry_typeCall (wpAny_check_type_call_sub hC ?_)
 repeat (first | with_reducible refine wpAny_loadPart_at hC ?_ | with_reducible refine wpAny_madeBy_exc hC ?_ | wp_step)
 refine codeAny_call_builtin_code (Code.quiet_builtin _ F.quiet) (wpAny_check_new_subT F T hC ?_);refine codeAny_exc_new_subT (rest:=us) F T hC ?_ hz;show wpAny _ _ _ _ _ _;generalize hh:(h.push { cls:=.type "tuple",data:=.seq us.toArray }).push { cls:=.ref C,data:=.fields #[.ref h.objs.size,.none,.none,.none,.bool false,.none] }=h2;have k:∀ b o,h.get? b=some o→h2.get? b=some o:=fun b o z=>by rw [← hh];exact Heap.get?_push_of_some _ (Heap.get?_push_of_some _ z)
 have hx:h2.get? (h.objs.size + 1)=some { cls:=.ref C,data:=.fields #[.ref h.objs.size,.none,.none,.none,.bool false,.none] }:=by rw [← hh];heap_get
 have ht:h2.get? h.objs.size=some { cls:=.type "tuple",data:=.seq us.toArray }:=by rw [← hh];exact Heap.get?_push_of_some _ (Heap.get?_push_at rfl rfl)
 have M:Heap.MadeExcOf h h2 (h.objs.size + 1) (.ref C) us:=⟨k,Heap.get?_none_of_le (Nat.le_succ _),h.objs.size,hx,Heap.get?_none_of_le (Nat.le_refl _),ht⟩;have cC:(Value.ref C :: tl).contains (.ref C)=true:=by simp
 unfold isInstance
 repeat (first | with_reducible refine wpAny_loadPart_at hx ?_ | wp_step)
 refine wpAny_isSubtype_exc (k _ _ hC) ?_;rw [cC]
 repeat wp_step
 show wpAny _ _ (typeLookup (.ref C) _) _ _ _;refine wpAny_typeLookup_tail (k _ _ hC) (hN.keeps k) (T.keeps k) F.mroIs F.init.lookup ?_;rw [hi];refine wpAny_holding (wpAny_bind ((PySem.W.bind_fn (KX.keeps k) _ hf).here (wpAny_bind (wpAny_call ?_))));refine codeAny_mono (hq h2 _ (Nat.le_succ _) M) fun r s' z=>?_
 rcases r with e | (v | _ | _ | _) <;> first | exact z | exact z.elim | skip
 obtain ⟨rfl,z⟩:=z;exact wpAny_pure (wpAny_pure z)
end
noncomputable def JF:List Value→Bool
 | .ref _ :: r=>JF r
 | l=>l == bmV
theorem Ql (self:Value):refuseLoop self "__setattr__" bmV=pure ():=by kernel_rfl
theorem Jp (self:Value):∀ {l:List Value},JF l=true→refuseLoop self "__setattr__" l=pure ()
 | .ref c :: r,e=>by rw [refuseLoop_ref];exact Jp self (l:=r) e
 | [],e=>by cases e
 | .type n :: r,e=>by rw [show Value.type n :: r=bmV from beq_iff_eq.mp e];exact Ql self
 | .none :: r,e=>by rw [show Value.none :: r=bmV from beq_iff_eq.mp e];exact Ql self
 | .bool b :: r,e=>by rw [show Value.bool b :: r=bmV from beq_iff_eq.mp e];exact Ql self
 | .int b c :: r,e=>by rw [show Value.int b c :: r=bmV from beq_iff_eq.mp e];exact Ql self
 | .str b c :: r,e=>by rw [show Value.str b c :: r=bmV from beq_iff_eq.mp e];exact Ql self
 | .bytes b c :: r,e=>by rw [show Value.bytes b c :: r=bmV from beq_iff_eq.mp e];exact Ql self
 | .float b c :: r,e=>by rw [show Value.float b c :: r=bmV from beq_iff_eq.mp e];exact Ql self
 | .builtin b :: r,e=>by rw [show Value.builtin b :: r=bmV from beq_iff_eq.mp e];exact Ql self
theorem An (T:String) (h:bmV.contains (.type T)=true):∀ {l:List Value},JF l=true→l.contains (.type T)=true
 | .ref c :: r,e=>by rw [List.contains_cons,An T h (l:=r) e,Bool.or_true]
 | [],e=>by cases e
 | .type n :: r,e=>by rw [show Value.type n :: r=bmV from beq_iff_eq.mp e];exact h
 | .none :: r,e=>by rw [show Value.none :: r=bmV from beq_iff_eq.mp e];exact h
 | .bool b :: r,e=>by rw [show Value.bool b :: r=bmV from beq_iff_eq.mp e];exact h
 | .int b c :: r,e=>by rw [show Value.int b c :: r=bmV from beq_iff_eq.mp e];exact h
 | .str b c :: r,e=>by rw [show Value.str b c :: r=bmV from beq_iff_eq.mp e];exact h
 | .bytes b c :: r,e=>by rw [show Value.bytes b c :: r=bmV from beq_iff_eq.mp e];exact h
 | .float b c :: r,e=>by rw [show Value.float b c :: r=bmV from beq_iff_eq.mp e];exact h
 | .builtin b :: r,e=>by rw [show Value.builtin b :: r=bmV from beq_iff_eq.mp e];exact h
structure Ks (K:PySem.W.Frag) (C:Addr):Prop where
 hd:PySem.W.hasDictIn K C=true
 ov:((PySem.W.clsIn K C).any fun cd=>JF cd.mro)=true
 sa:PySem.W.findIn K (.ref C) "__setattr__"=some (some (.builtin "object.__setattr__"))
 ga:PySem.W.findIn K (.ref C) "__getattribute__"=some (some (.builtin "BaseException.__getattribute__"))
 gt:PySem.W.findIn K (.ref C) "__getattr__"=some none
 ex:∃ fI,Iu K C fI=true
noncomputable def XF (x C:Addr) (od:Option Addr):Heap→Prop:=fun h=>∃ vs sl,h.get? x=some ⟨.ref C,od,.fields vs,sl⟩∧1 < vs.size∧vs[1]? = some .none∧vs[2]? = some .none
noncomputable def XD (dx:Addr) (fs:List (Str × V)):Heap→Prop:=fun h=>∃ mA,h.Ns1 dx mA∧(∀ f,Ms (fs.lookup f) (mA f))∧PySem.Within mA (fs.map (·.1))
theorem XF.at {x C:Addr} {od:Option Addr} {h h':Heap} (z:XF x C od h) (k:∀ o,h.get? x=some o→h'.get? x=some o):XF x C od h':=let ⟨vs,sl,e,r⟩:=z;⟨vs,sl,k _ e,r⟩
theorem XD.at {dx:Addr} {fs:List (Str × V)} {h h':Heap} (z:XD dx fs h) (k:∀ o,h.get? dx=some o→h'.get? dx=some o):XD dx fs h':=let ⟨mA,e,r⟩:=z;⟨mA,e.at k,r⟩
theorem XF.ok {P:Program} {w:World} {H:Hp} {h:Heap} {x C:Addr} {od:Option Addr} (z:XF x C od h):Xd P w H h x (.ext (XF x C od)):=by
 obtain ⟨vs,sl,e,r⟩:=id z;exact ⟨z,⟨_,e⟩,fun h1 h2 q k=>q.at k⟩
theorem XD.ok {P:Program} {w:World} {H:Hp} {h:Heap} {dx:Addr} {fs:List (Str × V)} (z:XD dx fs h):Xd P w H h dx (.ext (XD dx fs)):=by
 obtain ⟨mA,⟨o,es,ep,e,_⟩,_⟩:=id z;exact ⟨z,⟨_,e⟩,fun h1 h2 q k=>q.at k⟩
section
variable {prog:Program} {w:World} {A:Around} {E:Value→Shared→Prop} {K:PySem.W.Frag} {C x:Addr} {s:Shared} {R:Result→Shared→Prop}
theorem wO {ox:Obj} {od:Option Obj} {name:Str} {tk:Tok} {v:Value} (KX:K.In s.heap) (J:PySem.W.InstAt s.heap x ox C od) (c:Ks K C) (ht:zb K C name)
  (h:wpAny (model prog w) A.in1 (storeInOwnDict (.ref x) (.ref C) (.str name tk) name v false)
   (fun fin s'=>match fin with | .done f=>R (.ok f) s' | .again c'=>c'.quiet=true∧codeAny (model prog w) A c' R s') (fun e s'=>R (.error e) s') s) :
  codeAny (model prog w) A (.call (.builtin "object.__setattr__") ⟨[.ref x,.str name tk,v],[]⟩) R s:=by
 have G:=PySem.F.store_object;obtain ⟨cd,hc,ho⟩:=PySem.W.any_some c.ov;have ne:cd.mro.isEmpty=false:=by
  cases q:cd.mro with
  | nil=>rw [q] at ho;cases ho
  | cons _ _=>rfl
 have sub:PySem.W.Looks (model prog w) s.heap (isInstance (.ref x) (.type "object")) true:=
  J.type.andThen (PySem.W.looks_mroIn KX (by unfold PySem.W.mroIn;rw [hc,Option.bind_some,if_neg (by rw [ne];decide),An "object" (by decide) ho]))
 refine codeAny_call_builtin G.slot.plain G.entry (@PySem.W.check_slot (model prog w) _ _ s "object.__setattr__" "object" "__setattr__" (.ref x) [.str name tk,v] [] _ G.kind G.split sub (G.args (.ref x) (.str name tk) v) ?_);have hm:PySem.W.Looks (model prog w) s.heap (mroOf (.ref C)) cd.mro:=(PySem.W.looks_clsIn KX hc).andThen .now;rw [PySem.W.osa_eq,refuse_eq];refine wpAny_bind (wpAny_bind (J.type.here (wpAny_bind (hm.here ?_))));rw [Jp _ ho];exact wpAny_pure (wpAny_bind (J.type.here (wpAny_bind ((PySem.W.looks_findIn KX ht).here (wpAny_bind (wpAny_pure h))))))
end
section
variable {X:Cx} {pins:List (Addr × Obj)} {σ:St} {H:Hp} {s:Shared} {x C dx:Addr} {fs:List (Str × V)} {f:Str} {y:V} {u:Value} {A:Around} {E:Value→Shared→Prop} {Q:Unit→Shared→Prop}
theorem yG (I:Inv X pins σ H s) (e:H x=some (.ext (XF x C none))) (c:Ks X.K C) (n:zb X.K C f) (ry:Jd y u)
  (h:∀ dx s',H dx=none→dx ≠ x→Inv X pins σ (upd (upd H x (.ext (XF x C (some dx)))) dx (.ext (XD dx [(f,y)]))) s'→Q () s'):wpAny (model X.prog X.w) A (setAttr (.ref x) f u) Q E s:=by
 obtain ⟨vs,sl,hx,z1,z2⟩:=(show Xd X.prog X.w H s.heap x (.ext (XF x C none)) from I.hok _ _ e).1;have J:PySem.W.InstAt s.heap x ⟨.ref C,none,.fields vs,sl⟩ C none:=⟨hx,rfl,rfl,True.intro⟩;refine PySem.W.set_plain I.kIn J c.sa (wO (s:={ s with toks:=s.toks + 1 }) I.kIn J c n ?_);obtain ⟨cd,hc,hd'⟩:=PySem.W.any_some c.hd;refine wpAny_bind (wpAny_pure (wpAny_bind (wpAny_bind (wpAny_loadPart hx (wpAny_bind (PySem.W.Looks.here (s:={ s with toks:=s.toks + 1 }) (PySem.W.looks_clsIn I.kIn hc) ?_))))));rw [hd'];show wpAny _ _ (alloc PySem.W.emptyDict >>= fun d=>(update x fun o=>{ o with dict:=some d }) >>= fun _=>dictMade (.ref C) x d) _ _ _;refine wpAny_bind (wpAny_alloc (wpAny_bind ?_));have hx1:(s.heap.push PySem.W.emptyDict).get? x=some ⟨.ref C,none,.fields vs,sl⟩:=Heap.get?_push_of_some _ hx;have lx:x < s.heap.objs.size:=Heap.lt_size hx;refine wpAny_update hx1 (wpAny_pure ?_);have e1:(s.heap.push PySem.W.emptyDict).get? s.heap.objs.size=some PySem.W.emptyDict:=Heap.get?_push_size s.heap rfl;have e3:(s.heap.push PySem.W.emptyDict).Ns s.heap.objs.size (fun _=>none):=⟨PySem.W.emptyDict,#[],_,e1,rfl,(fun e he=>absurd he (by simp)),fun _=>rfl⟩;generalize hg2:(s.heap.push PySem.W.emptyDict).update x (fun o=>{ o with dict:=some s.heap.objs.size })=h2;have nx:s.heap.objs.size ≠ x:=Nat.ne_of_gt lx;have k2:∀ b,b ≠ x→h2.get? b=(s.heap.push PySem.W.emptyDict).get? b:=fun b hb=>by rw [← hg2];exact Heap.get?_update_other _ _ (Ne.symm hb)
 have x2:h2.get? x=some ⟨.ref C,some s.heap.objs.size,.fields vs,sl⟩:=by rw [← hg2];exact Heap.get?_update_self _ hx1 rfl
 have n2:h2.Ns1 s.heap.objs.size (fun _=>none):=(Heap.Ns1.of_empty e3).at fun o q=>(k2 _ nx).trans q
 refine wpAny_bind (wpAny_pure (wpAny_bind ?_));refine wpAny_nsSet1 (s:={ s with heap:=h2,toks:=s.toks + 1 }) n2 fun h3 n3 s3=>?_
 have wi:PySem.Within (fun a=>if a=f then some u else none) [f]:=PySem.Within.cons f u (fun a ha=>absurd rfl ha);obtain ⟨oD,esD,epD,hoD,hdD,hcD⟩:=n3.count wi;refine wpAny_bind (wpAny_lookBehind hoD (by rw [hdD];exact pastItsLine_dict (Nat.le_trans hcD (by rw [sizeLine_eq];show 1 ≤ _;decide))) ?_);refine wpAny_pure (h s.heap.objs.size _ (I.hok.fresh (Nat.le_refl _)) nx ?_);have k3:∀ b o,b ≠ x→s.heap.get? b=some o→h3.get? b=some o:=fun b o hb q=>
  (s3.2 b (fun z=>by rw [z] at q;exact absurd (Heap.lt_size q) (Nat.lt_irrefl _))).trans ((k2 b hb).trans (Heap.get?_push_of_some _ q))
 have x3:h3.get? x=some ⟨.ref C,some s.heap.objs.size,.fields vs,sl⟩:=(s3.2 x (Ne.symm nx)).trans x2;generalize hgA:s.heap.update x (fun o=>{ o with dict:=some s.heap.objs.size })=hA;have kA:∀ b,b ≠ x→hA.get? b=s.heap.get? b:=fun b hb=>by rw [← hgA];exact Heap.get?_update_other _ _ (Ne.symm hb)
 have xA:hA.get? x=some ⟨.ref C,some s.heap.objs.size,.fields vs,sl⟩:=by rw [← hgA];exact Heap.get?_update_self _ hx rfl
 have szA:hA.objs.size=s.heap.objs.size:=by rw [← hgA];exact Heap.size_update _ _ _
 have IA:=I.write (x:=x) (e:=x) (o:=.ext (XF x C (some s.heap.objs.size))) (h':=hA) (t':=s.toks) (by rw [e];exact True.intro) (.inl rfl) (fun b o hb q=>(kA b hb).trans q) ⟨_,xA⟩ (XF.ok ⟨vs,sl,xA,z1,z2⟩);refine IA.laid (a:=s.heap.objs.size) (h':=h3) (fun b o q=>?_) (Nat.le_of_eq szA) (XD.ok ⟨_,n3,fun g=>?_,wi⟩)
 ·by_cases hb:b=x
  ·subst hb;rw [xA] at q;rw [x3,← q]
  ·rw [kA b hb] at q;exact k3 b o hb q
 ·show Ms (List.lookup g [(f,y)]) (if g=f then some u else none);by_cases hq:g=f
  ·rw [if_pos hq,hq,List.lookup_cons_self];exact ry
  ·rw [if_neg hq,List.lookup_cons,beq_false_of_ne hq];exact True.intro
theorem nE (I:Inv X pins σ H s) (e:H x=some (.ext (XF x C (some dx)))) (ed:H dx=some (.ext (XD dx fs))) (c:Ks X.K C) (n:zb X.K C f) (hl:fs.length < 1000) (ry:Jd y u)
  (h:∀ s',Inv X pins σ (upd H dx (.ext (XD dx (Vh f y fs)))) s'→Q () s'):wpAny (model X.prog X.w) A (setAttr (.ref x) f u) Q E s:=by
 obtain ⟨vs,sl,hx,z1,z2⟩:=(show Xd X.prog X.w H s.heap x (.ext (XF x C (some dx))) from I.hok _ _ e).1;obtain ⟨mA,n1,r,wi⟩:=(show Xd X.prog X.w H s.heap dx (.ext (XD dx fs)) from I.hok _ _ ed).1;obtain ⟨od,ho,hlk⟩:=bo n1;have J:PySem.W.InstAt s.heap x ⟨.ref C,some dx,.fields vs,sl⟩ C (some od):=⟨hx,rfl,rfl,ho⟩;refine PySem.W.set_plain I.kIn J c.sa (wO (s:={ s with toks:=s.toks + 1 }) I.kIn J c n ?_);obtain ⟨cd,hc,hd'⟩:=PySem.W.any_some c.hd;refine wpAny_bind (wpAny_pure (wpAny_bind (wpAny_bind (wpAny_loadPart hx (wpAny_bind (PySem.W.Looks.here (s:={ s with toks:=s.toks + 1 }) (PySem.W.looks_clsIn I.kIn hc) ?_))))));rw [hd'];refine wpAny_pure (a:=some dx) (wpAny_bind (wpAny_pure (wpAny_bind ?_)));refine wpAny_nsSet1 (s:={ s with toks:=s.toks + 1 }) n1 fun h3 n3 s3=>?_
 obtain ⟨oD,esD,epD,hoD,hdD,hcD⟩:=n3.count (PySem.Within.cons f u wi);refine wpAny_bind (wpAny_lookBehind hoD (by rw [hdD];exact pastItsLine_dict (Nat.le_trans hcD (by rw [List.length_cons,List.length_map,sizeLine_eq];omega))) ?_);refine wpAny_pure (h _ ?_);refine I.write (x:=dx) (e:=dx) (by rw [ed];exact True.intro) (.inl rfl) (fun b o hb q=>(s3.2 b hb).trans q) ⟨_,hoD⟩ (XD.ok ⟨_,n3,fun g=>?_,fun g hg=>?_⟩)
 ·show Ms ((Vh f y fs).lookup g) (if g=f then some u else mA g);rw [Tm];by_cases q:g=f
  ·rw [if_pos q,if_pos q];exact ry
  ·rw [if_neg q,if_neg q];exact r g
 ·by_cases q:g=f
  ·rw [q];exact (zl f y fs).1
  ·refine (zl f y fs).2 g (wi g fun z=>hg ?_);show (if g=f then some u else mA g)=none;rw [if_neg q];exact z
noncomputable def XA (x C:Addr) (od:Option Addr):Heap→Prop:=fun h=>∃ vs sl,h.get? x=some ⟨.ref C,od,.fields vs,sl⟩∧vs[2]? = some .none
theorem XA.at {x C:Addr} {od:Option Addr} {h h':Heap} (z:XA x C od h) (k:∀ o,h.get? x=some o→h'.get? x=some o):XA x C od h':=let ⟨vs,sl,e,r⟩:=z;⟨vs,sl,k _ e,r⟩
theorem XA.ok {P:Program} {w:World} {H:Hp} {h:Heap} {x C:Addr} {od:Option Addr} (z:XA x C od h):Xd P w H h x (.ext (XA x C od)):=by
 obtain ⟨vs,sl,e,_⟩:=id z;exact ⟨z,⟨_,e⟩,fun h1 h2 q k=>q.at k⟩
theorem GO {b:Bool} {Q:Value→Shared→Prop} (I:Inv X pins σ H s) (e:H x=some (.ext (XA x C (some dx)))) (ed:H dx=some (.ext (XD dx fs))) (c:Ks X.K C) (n:zb X.K C f) (l:fs.lookup f=some y)
  (h:∀ u s',Inv X pins σ H s'→Jd y u→Q u s'):wpAny (model X.prog X.w) A (getAttr (.ref x) f b) Q E s:=by
 obtain ⟨vs,sl,hx,_⟩:=(show Xd X.prog X.w H s.heap x (.ext (XA x C (some dx))) from I.hok _ _ e).1;obtain ⟨mA,n1,r,wi⟩:=(show Xd X.prog X.w H s.heap dx (.ext (XD dx fs)) from I.hok _ _ ed).1;obtain ⟨od,ho,hlk⟩:=bo n1;obtain ⟨u,hu,ru⟩:=Ms.some_of (v:=y) (o:=mA f) (by rw [← l];exact r f);have J:PySem.W.InstAt s.heap x ⟨.ref C,some dx,.fields vs,sl⟩ C (some od):=⟨hx,rfl,rfl,ho⟩;have fin:=h u _ (I.tok (s.toks + 1)) ru;have KX:=I.kIn;clear h;obtain ⟨cd,hc,hd'⟩:=PySem.W.any_some c.hd;obtain ⟨cd',hc',hov⟩:=PySem.W.any_some c.ov;rw [hc] at hc';cases hc';have hh:=Qx ru;obtain ⟨hp,g,d,t,os⟩:=s;have L0:=J.type (M:=model X.prog X.w);have L1:=PySem.W.looks_findIn (M:=model X.prog X.w) KX c.ga;have L2:=PySem.W.looks_findIn (M:=model X.prog X.w) KX c.gt;have L3:=PySem.W.looks_findIn (M:=model X.prog X.w) KX n;have L4:=PySem.W.looks_own (M:=model X.prog X.w) (name:=f) (r:=some u) KX J hc (by unfold PySem.W.ownOf;rw [if_pos hd'];show PySem.W.lookIn f od=_;rw [hlk,hu]);have FB:=PySem.F.excAttr_ValueError;have f3:=FB.ga.bind (.ref x);have hx0:(b && onTheHeap (Value.builtin "BaseException.__getattribute__"))=false:=by cases b <;> rfl
 have hx2:(Value.builtin "BaseException.__getattribute__" == Value.builtin "object.__getattribute__")=false:=by decide +kernel
 have hx1:(onTheHeap (Value.ref C) && Value.builtin "BaseException.__getattribute__" == Value.builtin "object.__getattribute__")=false:=by rw [hx2];rfl
 unfold getAttr getAttrBy;refine wpAny_bind (wpAny_mkText (wpAny_holding (wpAny_bind (L0.at (wpAny_bind (L1.at ?_))))));dsimp only;rw [if_neg (by rw [hx1];decide)];unfold getAttrByItsOwn
 repeat (any_goals (first | assumption | with_reducible refine PySem.W.Looks.at (by assumption) ?_ | wp_step))
 have ne:cd.mro.isEmpty=false:=by
  cases q:cd.mro with
  | nil=>rw [q] at hov;cases hov
  | cons _ _=>rfl
 have sub:PySem.W.Looks (model X.prog X.w) hp (isInstance (.ref x) (.type "BaseException")) true:=
  L0.andThen (PySem.W.looks_mroIn KX (by unfold PySem.W.mroIn;rw [hc,Option.bind_some,if_neg (by rw [ne];decide),An "BaseException" (by decide) hov]))
 refine codeAny_call_builtin FB.ga.plain PySem.F.entry_bexc_ga (@PySem.W.check_slot (model X.prog X.w) _ _ ⟨hp,g,d,t + 1,os⟩ "BaseException.__getattribute__" "BaseException" "__getattribute__" (.ref x) [.str f t] [] _ (by decide +kernel) (by decide +kernel) sub (PySem.F.args_bexc_ga (.ref x) (.str f t)) ?_);unfold Builtin.«object.__getattribute__»
 repeat (any_goals (first | assumption | with_reducible refine PySem.W.Looks.at (by assumption) ?_ | wp_step))
 show wpAny _ _ (handedOut u) _ _ _;rw [PySem.W.handedOut_of hh];exact wpAny_pure fin
end
noncomputable abbrev TJ:=St→Hp→(Hp→Prop)→Prop
noncomputable def PJ (X:Cx) (es:List Expr) (n:Nat) (t:TJ):Prop:=
 ∀ (pins:List (Addr × Obj)) (s:Shared) (σ:St) (H:Hp) (Q:Hp→Prop) (acc:Str) (R:Str→Shared→Prop),Inv X pins σ H s→acc.length + n ≤ sizeLine→t σ H Q →
  (∀ out H' s',Inv X pins σ H' s'→out.length ≤ sizeLine→Q H'→R out s')→Joins (model X.prog X.w) X.A X.xe (evalEach es X.env) acc R s
noncomputable def tJ0:TJ:=fun _ H Q=>Q H
noncomputable def tJI (te:TE) (t:TJ):TJ:=fun σ H Q=>te σ H fun v H1=>∃ i,v=.int i∧i.natAbs.log2 < 1920∧t σ H1 Q
noncomputable def tJR (te:TE) (t:TJ):TJ:=fun σ H Q=>te σ H fun v H1=>∃ x,v=.str x∧x.length ≤ 1000∧(∀ c ∈ x.cps.toList,c < 16 ^ 8)∧t σ H1 Q
noncomputable def eD (t:TJ):TE:=fun σ H Q=>t σ H fun H1=>∀ y:Str,Q (.str y) H1
section
variable {X:Cx} {e:Expr} {es:List Expr} {n:Nat} {t:TJ} {te:TE} {pos:Pos}
theorem iB:PJ X [] 0 tJ0:=fun pins s σ H Q acc R I hl q h=>h acc H s I hl q
theorem Wh {c:Str} {k:Nat} (h:PJ X es n t):PJ X (.Constant (.str c) k pos :: es) (n + c.length) t:=fun pins s σ H Q acc R I hl q hR=>by
 show wpAny _ _ _ _ _ _;refine Calls.Constant_str ⟨c,_,rfl,by rw [strLen_append];omega,h pins _ σ H Q _ R (I.tok _) (by rw [strLen_append];omega) q hR⟩
theorem Xz (he:PE X e te) (h:PJ X es n t):PJ X (.FormattedValue e (-1) none pos :: es) (n + 2000) (tJI te t):=fun pins s σ H Q acc R I hl q hR=>by
 show wpAny _ _ _ _ _ _;refine wpAny_FormattedValue_plain (thn (he pins s σ H _ I q) fun u s1 hZ1=>?_);obtain ⟨v,H1,I1,r,i,ev,hi,q1⟩:=hZ1;subst ev;obtain ⟨tk,rfl⟩:=(show ∃ tk,u=Value.int i tk from r);have hz:=int_text_fits hi;have hz2:(Str.ofString (toString i)).length ≤ 2000:=by
  have e:=int_text_length_le (k:=1920) (by decide) hi;rw [PySem.ofString_length];omega
 refine wpAny_formatField_int hi ⟨_,_,rfl,by rw [strLen_append];omega,h pins _ σ H1 Q _ R (I1.tok _) (by rw [strLen_append];omega) q1 hR⟩
theorem Dv (he:PE X e te) (h:PJ X es n t):PJ X (.FormattedValue e 114 none pos :: es) (n + 11000) (tJR te t):=fun pins s σ H Q acc R I hl q hR=>by
 show wpAny _ _ _ _ _ _;refine wpAny_FormattedValue_repr (thn (he pins s σ H _ I q) fun u s1 hZ1=>?_);obtain ⟨v,H1,I1,r,x,ev,hx,hc,q1⟩:=hZ1;subst ev;obtain ⟨tk,rfl⟩:=(show ∃ tk,u=Value.str x tk from r);have hz:=PySem.StrLaws.reprText_len x hc;refine wpAny_pyReprObj_str ?_ (by rw [sizeLine_eq];omega);exact formatField_str (fun t' tk'=>⟨_,_,rfl,by rw [strLen_append];omega,h pins _ σ H1 Q _ R ((I1.tok _).tok _) (by rw [strLen_append];omega) q1 hR⟩) (by rw [sizeLine_eq];omega)
theorem Wn {e2:Expr} (h:PJ X (e :: e2 :: es) n t) (hn:n ≤ sizeLine):PE X (.JoinedStr (e :: e2 :: es) pos) (eD t):=by
 intro pins s σ H Q I q;refine wpAny_JoinedStr (h pins s σ H _ _ _ I (by show 0 + n ≤ _;omega) q fun out H' s' I' hl q'=>⟨hl,?_⟩);exact ⟨.str out,H',I'.tok _,⟨_,rfl⟩,q' out⟩
end
structure aN (K:PySem.W.Frag) (L:Addr) (m:Str):Prop where
 rd:PySem.W.readsIn K L (.type "type")=true
 fd:PySem.W.findCls K (.ref L) (.type "type") m=some (.val (.builtin "ValueError.__init__"))
 ga:PySem.W.specialIn K (.ref L) "__getattribute__"=some (some (.builtin "type.__getattribute__"))
noncomputable def lJ (K:PySem.W.Frag) (t:TA):TE:=fun σ H Q=>t σ H fun vs H1=>∃ x C od v,vs=[.ref x,v]∧H1 x=some (.ext (XF x C od))∧Ks K C∧Q .non H1
section
variable {X:Cx} {L:Addr} {x:Str} {p pos apos:Pos} {e:Expr} {es:List Expr} {t:TA}
theorem BD {pins:List (Addr × Obj)} {σ:St} {H:Hp} {s:Shared} {a C:Addr} {od:Option Addr} {u:Value} {A:Around} {E:Value→Shared→Prop} {Q:Value→Shared→Prop} (I:Inv X pins σ H s) (ea:H a=some (.ext (XF a C od))) (c:Ks X.K C)
  (h:∀ s',Inv X pins σ H s'→Q .none s'):wpAny (model X.prog X.w) A (call (.builtin "ValueError.__init__") [.ref a,u]) Q E s:=by
 obtain ⟨vs,sl,hx,z1,z2⟩:=(show Xd X.prog X.w H s.heap a (.ext (XF a C od)) from I.hok _ _ ea).1;obtain ⟨fI,hfI⟩:=c.ex;obtain ⟨tl,N,nm,q,bs,sn,sub,ab,co,dd,k0,k1,k2,k3,k5,mN,hC,hN,hi,T⟩:=gw I.kIn hfI;have F:=PySem.F.excBase_ValueError;obtain ⟨v0,h0⟩:∃ v0,vs[0]? = some v0:=⟨vs[0]'(by omega),Array.getElem?_eq_getElem (by omega)⟩;obtain ⟨hh,g,d,tt,os⟩:=s;refine wpAny_call (codeAny_call_builtin F.init.plain F.initEntry (wpAny_check_init_subT F T hC hx rfl ?_));show wpAny _ _ (newTuple [u] >>= fun tp=>(do
  let old ← field (.ref a) 0
  setField (.ref a) 0 tp
  if let .ref _:=old then letGo [old] []) >>= fun _=>ret .none) _ _ _
 have hx1:(hh.push { cls:=.type "tuple",data:=.seq [u].toArray }).get? a=some ⟨.ref C,od,.fields vs,sl⟩:=Heap.get?_push_of_some _ hx;refine wpAny_bind (wpAny_newTuple (wpAny_bind (wpAny_bind (wpAny_field hx1 rfl h0 (wpAny_bind (wpAny_setField hx1 rfl (by omega) ?_))))));have x2:=Heap.get?_update_self (h:=hh.push { cls:=.type "tuple",data:=.seq [u].toArray }) (Obj.mapFields (·.setIfInBounds 0 (.ref hh.objs.size))) hx1 rfl;have fin:∀ s',s'=(⟨(hh.push { cls:=.type "tuple",data:=.seq [u].toArray }).update a (Obj.mapFields (·.setIfInBounds 0 (.ref hh.objs.size))),g,d,tt,os⟩:Shared)→Q .none s':=by
  rintro s' rfl;refine h _ ?_;have I1:Inv X pins σ H ⟨hh.push { cls:=.type "tuple",data:=.seq [u].toArray },g,d,tt,os⟩:=I.kept (t':=tt) fun b o q=>Heap.get?_push_of_some _ q
  have:=I1.write (x:=a) (e:=a) (o:=.ext (XF a C od)) (h':=(hh.push { cls:=.type "tuple",data:=.seq [u].toArray }).update a (Obj.mapFields (·.setIfInBounds 0 (.ref hh.objs.size)))) (t':=tt) (by rw [ea];exact True.intro) (.inl rfl)
   (fun b o hb q=>(Heap.get?_update_other _ _ (Ne.symm hb)).trans q) ⟨_,x2⟩ (XF.ok ⟨vs.setIfInBounds 0 (.ref hh.objs.size),sl,x2,by simpa using z1,by rw [Array.getElem?_setIfInBounds_ne (by decide)];exact z2.1,by rw [Array.getElem?_setIfInBounds_ne (by decide)];exact z2.2⟩)
  rwa [cI ea] at this
 cases v0 with
 | ref b=>exact wpAny_bind (wpAny_holding (wpAny_point (wpAny_pure (wpAny_pure (fin _ rfl)))))
 | _=>exact wpAny_pure (wpAny_pure (fin _ rfl))
theorem Dq {pl:Sem Bool} {m:Str} (hg:Gl X x) (hm:X.mg x=some (.ref L)) (c:aN X.K L m) (ha:PA X (e :: es) t)
  (hdb:(x == ("__debug__" : Str))=false:=by decide) (hst:starEach (e :: es) X.env=(false,eval e X.env) :: starEach es X.env:=by rfl) (hpl:(backTo pos (starEach es X.env)).any (·.1)=false:=by rfl)
  (ht:eval (.Call (.Attribute (.Name x p) m apos) (e :: es) [] pos) X.env=(do
   let ov ← eval (.Name x p) X.env
   standAt apos.atName
   let (f,first) ← holding [ov] (getMethod ov m pl)
   callWith pos f first (backTo pos (starEach (e :: es) X.env)) (backToKw pos (keywordEach [] X.env))):=by rfl) :
  PE X (.Call (.Attribute (.Name x p) m apos) (e :: es) [] pos) (lJ X.K t):=by
 intro pins s σ H Q I h;refine PySem.W.methodCall_KW (pl:=pl) (wk I hg hm ?_ hdb) ht;refine PySem.W.method_cls I.kIn c.ga (PySem.W.cls_value I.kIn c.rd c.fd rfl ?_);refine PyProof.Rows.callWith_builtin1 (thn (ha pos pins _ σ H _ (I.tok (s.toks + 1)) h) fun us s2 hZ1=>?_) hst hpl;obtain ⟨vs,H2,I2,r,a,C,od,v,ev,ea,cc,q⟩:=hZ1;subst ev;obtain ⟨u1,u2,rfl,r1,r2⟩:=IH r;obtain rfl:u1=Value.ref a:=r1;exact BD I2 ea cc fun s3 I3=>⟨.non,H2,I3,rfl,q⟩
end
structure MkX (K:PySem.W.Frag) (C fI:Addr):Prop where
 e:Iu K C fI=true
 fn:PySem.W.typeIn K (.ref fI)=some (.type "function")
 kp:PySem.W.keepIn K (.ref C)=true
noncomputable def jJ (C:Addr) (sp:Sp) (t:TA):TE:=fun σ H Q=>t σ H fun vs H1=>vs.length ≤ sizeLine∧∀ x,H1 x=none→sp (.ref x :: vs) (upd H1 x (.ext (XF x C none))) (fun v H2=>v=.non∧Q (.ref x) H2) (fun _ _ _=>False)
noncomputable def WH (K:PySem.W.Frag) (ta tv:TE) (f:Str):TS:=fun D σ H=>tv σ H fun y H1=>ta σ H1 fun x H2=>∃ a C,x=.ref a∧H2 a=some (.ext (XF a C none))∧Ks K C∧zb K C f ∧
 ∀ dx,H2 dx=none→dx ≠ a→D.nx σ (upd (upd H2 a (.ext (XF a C (some dx)))) dx (.ext (XD dx [(f,y)])))
noncomputable def ZI (K:PySem.W.Frag) (ta tv:TE) (f:Str):TS:=fun D σ H=>tv σ H fun y H1=>ta σ H1 fun x H2=>∃ a C dx fs,x=.ref a∧H2 a=some (.ext (XF a C (some dx)))∧H2 dx=some (.ext (XD dx fs))∧Ks K C∧zb K C f∧fs.length < 1000 ∧
 D.nx σ (upd H2 dx (.ext (XD dx (Vh f y fs))))
noncomputable def PK (K:PySem.W.Frag) (ta:TE) (f:Str):TE:=fun σ H Q=>ta σ H fun x H1=>∃ a C dx fs v,x=.ref a∧H1 a=some (.ext (XA a C (some dx)))∧H1 dx=some (.ext (XD dx fs))∧Ks K C∧zb K C f∧fs.lookup f=some v∧Q v H1
section
variable {X:Cx} {k:Nat} {f C:Addr} {fd:FuncData} {ps:List Str} {sp:Sp} {x g:Str} {p pos pos' apos:Pos} {e o value:Expr} {es:List Expr} {ta tv:TE} {t:TA}
theorem VC {pins:List (Addr × Obj)} {σ:St} {H:Hp} {s:Shared} {Q:VK} {us:List Value} {vs:List V} (M:MkX X.K C f) (F:Kb X.prog X.w X.K X.mg X.base (fun _ _ _ _ _ _=>False) k f fd ps sp) (hr:Ni (k + 1) X.A) (hb:Zb X.K fd ps [])
  (I:Inv X pins σ H s) (r:Dd vs us) (hz:vs.length ≤ sizeLine) (h:∀ x,H x=none→sp (.ref x :: vs) (upd H x (.ext (XF x C none))) (fun v H2=>v=.non∧Q (.ref x) H2) (fun _ _ _=>False)) :
  wpAny (model X.prog X.w) X.A (call (.ref C) us) (EP X pins σ Q) X.xe s:=by
 obtain ⟨hh,g,d,tt,os⟩:=s;refine wpAny_call (VF (fI:=f) I.kIn M.e M.fn (by rw [← r.length];exact hz) fun h' x hx Mx=>?_);obtain ⟨tp,ox,_,_⟩:=Mx.there;have I2:=I.laid (a:=x) (o:=.ext (XF x C none)) (h':=h') (t':=tt) Mx.keeps hx (XF.ok ⟨_,_,ox,Nat.lt_of_lt_of_eq (show 1 < 6 by decide) rfl,rfl,rfl⟩);have hq:=h x (I.hok.fresh hx);have r2:Dd (V.ref x :: vs) (Value.ref x :: us):=.cons rfl r;have hl:((Value.ref x :: us) ++ []).length=ps.length:=by
  rw [List.append_nil,← r2.length];exact F.len _ _ _ _ hq
 have hb2:=hb ⟨h',g,d,tt,os⟩ (Value.ref x :: us) I2.kIn hl;rw [List.append_nil] at hb2;refine codeAny_mono (F.run _ X.stack _ _ ⟨Value.ref x :: us,[]⟩ (Value.ref x :: us) _ _ _ (hr.make C us []) (I2.env0.make C us []) hb2 r2 hq) fun r s' hq'=>?_
 rcases r with e | (u | _ | _ | _) <;> first | exact False.elim hq' | skip
 obtain ⟨v,H',I3,rv,ev,q3⟩:=I2.after hq';subst ev;exact ⟨rv,⟨V.ref x,H',I3,rfl,q3⟩⟩
theorem wq (M:MkX X.K C f) (F:Kb X.prog X.w X.K X.mg X.base (fun _ _ _ _ _ _=>False) k f fd ps sp) (hr:Ni (k + 1) X.A) (hg:Gl X x) (hm:X.mg x=some (.ref C)) (hb:Zb X.K fd ps [])
  (ha:PA X (e :: es) t) (hdb:(x == ("__debug__" : Str))=false:=by decide) (he:starEach (e :: es) X.env=(false,eval e X.env) :: starEach es X.env:=by rfl) (hpl:(backTo pos (starEach es X.env)).any (·.1)=false:=by rfl) :
  PE X (.Call (.Name x p) (e :: es) [] pos) (jJ C sp t):=by
 intro pins s σ H Q I h;refine wpAny_Call_Name_kw (wk I hg hm ?_ hdb);exact PySem.W.callWith_K (h₀:=X.base) I.ok.mod.kin M.kp (thn (ha pos pins s σ H _ I h) fun us s1 ⟨vs,H1,I1,r,hz,q⟩=>⟨I1.kIn,VC M F hr hb I1 r hz q⟩) he hpl
theorem kq (ha:PE X o ta) (hv:PE X value tv) (hs:swapsWith value (some (.Attribute o g pos')) pos.line X.env=pure false):PS X (.Assign [.Attribute o g pos'] value pos) (WH X.K ta tv g):=by
 intro pins s σ H D I h;refine plainObj_wpAny_Assign_Attribute (thn (hv pins s σ H _ I h) fun u s1 ⟨y,H1,I1,ry,q⟩=>thn (ha pins s1 σ H1 _ I1 q) fun ov s2 hZ1=>?_) hs;obtain ⟨x,H2,I2,rx,a,C,ex,ea,c,n,q2⟩:=hZ1;subst ex;obtain rfl:ov=Value.ref a:=rx;exact yG I2 ea c n ry fun dx s3 hd hne I3=>⟨σ,_,I3,q2 dx hd hne⟩
theorem vq (ha:PE X o ta) (hv:PE X value tv) (hs:swapsWith value (some (.Attribute o g pos')) pos.line X.env=pure false):PS X (.Assign [.Attribute o g pos'] value pos) (ZI X.K ta tv g):=by
 intro pins s σ H D I h;refine plainObj_wpAny_Assign_Attribute (thn (hv pins s σ H _ I h) fun u s1 ⟨y,H1,I1,ry,q⟩=>thn (ha pins s1 σ H1 _ I1 q) fun ov s2 hZ1=>?_) hs;obtain ⟨x,H2,I2,rx,a,C,dx,fs,ex,ea,ed,c,n,hl,q2⟩:=hZ1;subst ex;obtain rfl:ov=Value.ref a:=rx;exact nE I2 ea ed c n hl ry fun s3 I3=>⟨σ,_,I3,q2⟩
theorem Ez (he:PE X e ta) (hb:attributeBase e g X.env (eval e X.env)=eval e X.env):PE X (.Attribute e g pos) (PK X.K ta g):=by
 intro pins s σ H Q I h;refine yE hb (thn (he pins s σ H _ I h) fun u s1 hZ1=>?_);obtain ⟨x,H1,I1,rx,a,C,dx,fs,v,ex,ea,ed,c,n,l,q⟩:=hZ1;subst ex;obtain rfl:u=Value.ref a:=rx;exact GO I1 ea ed c n l fun u s2 I2 ru=>⟨v,H1,I2,ru,q⟩
end
end L2
namespace L2
open PySem PySem.Spec PyProof.Rows PySem.Builtin PySem.Builtin.ObjectAttr
noncomputable def FlA (x C:Addr) (od:Option Addr) (T:Addr) (fl:Value) (h:Heap):Prop:=
 T ≠ x∧∃ vs sl oT ts,h.get? x=some ⟨.ref C,od,.fields vs,sl⟩∧vs[1]? = some (.ref T)∧h.get? T=some oT∧oT.data=.fields ts∧ts[3]? = some fl∧vs[2]? = some .none
theorem FlA.xa {x C T:Addr} {od:Option Addr} {fl:Value} {h:Heap} (z:FlA x C od T fl h):XA x C od h:=let ⟨_,vs,sl,_,_,e,_,_,_,_,r⟩:=z;⟨vs,sl,e,r⟩
structure Kp (fs:List Addr) (x:Addr) (To:Option Addr) (h h':Heap):Prop where
 keep:∀ b o,h.get? b=some o→b ∉ fs→b ≠ x→some b ≠ To→h'.get? b=some o
 slot:∀ b o,h.get? b=some o→b ∈ fs→∃ sl,h'.get? b=some { o with slots:=sl }
 there:∀ b o,h.get? b=some o→∃ o',h'.get? b=some o'
section
variable {M:Model} {A:Around} {E:Value→Shared→Prop} {s:Shared}
theorem nofr {base h:Heap} {l:List Env} {b:Addr} {o:Obj} {vs:Array Value} (hl:h.FunFrames base l) (e:h.get? b=some o) (d:o.data=.fields vs):b ∉ frs l:=fun hm=>by
 obtain ⟨_,o',e',nf⟩:=hl.mem hm;rw [e] at e';cases e';exact nf vs d
theorem OH {env env':Env} {L:Addr} (hf:env.frame=some L) (hf':env'.frame=some L):PySem.frameOf env'=PySem.frameOf env:=by
 unfold PySem.frameOf;rw [hf',hf]
theorem JI {base:Heap} {env env':Env} {outer:List Env} {L x C:Addr} {od:Option Addr} {vs:Array Value} {sl:Array (Option Value)} {head:Value} {hn:Bool} {Q:Unit→Shared→Prop}
  (hfr:A.frames=some (env :: outer)) (hl:s.heap.FunFrames base (env :: outer)) (hf:env.frame=some L) (hf':env'.frame=some L) (he:s.heap.get? x=some ⟨.ref C,od,.fields vs,sl⟩) (hz:1 < vs.size) (hv2:vs[2]? = some .none)
  (h:∀ h' T,Kp (frs (env :: outer)) x none s.heap h'→s.heap.objs.size ≤ T→FlA x C od T (rawInt L) h'→Q () { s with heap:=h' }) :
  wpAny M A (do let a ← PySem.frameOf env';let pl ← entryPlaceOf L hn;let b ← EntryCells.newEntry head a .none (rawInt L) .none pl;setField (.ref x) 1 b) Q E s:=by
 have nx:x ∉ frs (env :: outer):=nofr hl he rfl;rw [OH hf hf'];refine wpAny_bind (wpAny_frameOf_fun hfr hl hf fun h1 S=>wpAny_bind (wpAny_entryPlaceOf fun pl hp=>?_));unfold EntryCells.newEntry newFields;refine wpAny_bind (wpAny_newObj_type ?_ (hp.sizeOk5 _ _ _ _ _));have e1:h1.get? x=some ⟨.ref C,od,.fields vs,sl⟩:=(S.2.1 x nx).trans he;obtain ⟨ts,hts,h3⟩:∃ ts:Array Value,([head,.ref L,.none,rawInt L,.none] ++ (if pl.isEmpty then List.replicate 6 Value.none else pl)).toArray=ts∧ts[3]? = some (rawInt L):=⟨_,rfl,by simp⟩;rw [hts];have e2:=Heap.get?_push_of_some (h:=h1) { cls:=.type "traceback",dict:=none,data:=.fields ts } e1;have ne:h1.objs.size ≠ x:=Nat.ne_of_gt (Heap.lt_size e1);have sz:h1.objs.size=s.heap.objs.size:=S.1;refine wpAny_setField e2 rfl hz (h _ h1.objs.size ⟨fun b o q n1 n2 _=>?_,fun b o q n1=>?_,fun b o q=>?_⟩ (Nat.le_of_eq sz.symm) ⟨ne,vs.setIfInBounds 1 (.ref h1.objs.size),sl,{ cls:=.type "traceback",dict:=none,data:=.fields ts },ts,Heap.get?_update_self _ e2 rfl,by simp [hz],?_,rfl,h3,by rw [Array.getElem?_setIfInBounds_ne (by decide)];exact hv2⟩)
 ·rw [Heap.get?_update_other _ _ (Ne.symm n2)];exact Heap.get?_push_of_some _ ((S.2.1 b n1).trans q)
 ·obtain ⟨sl',e3⟩:=S.2.2 b o q;have nb:x ≠ b:=fun z=>nx (by rw [z];exact n1)
  exact ⟨sl',(Heap.get?_update_other _ _ nb).trans (Heap.get?_push_of_some _ e3)⟩
 ·by_cases hb:b=x
  ·rw [hb];exact ⟨_,Heap.get?_update_self _ e2 rfl⟩
  ·obtain ⟨sl',e3⟩:=S.2.2 b o q;exact ⟨_,by rw [Heap.get?_update_other _ _ (Ne.symm hb)];exact Heap.get?_push_of_some _ e3⟩
 ·exact (Heap.get?_update_other _ _ (Ne.symm ne)).trans (Heap.get?_push_size h1 rfl)
theorem vB {base:Heap} {env env':Env} {outer:List Env} {L x C:Addr} {od:Option Addr} {vs:Array Value} {sl:Array (Option Value)} {Q:Unit→Shared→Prop}
  (hfr:A.frames=some (env :: outer)) (hl:s.heap.FunFrames base (env :: outer)) (hf:env.frame=some L) (hf':env'.frame=some L) (he:s.heap.get? x=some ⟨.ref C,od,.fields vs,sl⟩) (h1:vs[1]? = some .none) (hv2:vs[2]? = some .none)
  (h:∀ h' T,Kp (frs (env :: outer)) x none s.heap h'→s.heap.objs.size ≤ T→FlA x C od T (rawInt L) h'→Q () { s with heap:=h' }) :
  wpAny M A (noteFrame (.ref x) env') Q E s:=by
 unfold noteFrame;simp only [hf'];refine wpAny_bind (wpAny_field he rfl h1 ?_);rw [if_neg (by decide)];exact JI hfr hl hf hf' he (Array.getElem?_eq_some_iff.mp h1).1 hv2 h
theorem dF {base:Heap} {env env':Env} {outer:List Env} {L x C T:Addr} {od:Option Addr} {fl:Value} {Q:Unit→Shared→Prop}
  (hfr:A.frames=some (env :: outer)) (hl:s.heap.FunFrames base (env :: outer)) (hf:env.frame=some L) (hf':env'.frame=some L) (z:FlA x C od T fl s.heap) (hne:¬ (fl == rawInt L)=true)
  (h:∀ h' T',Kp (frs (env :: outer)) x (some T) s.heap h'→s.heap.objs.size ≤ T'→FlA x C od T' (rawInt L) h'→Q () { s with heap:=h' }) :
  wpAny M A (noteFrame (.ref x) env') Q E s:=by
 obtain ⟨ne,vs,sl,oT,ts,he,h1,hT,hd,h3,hv2⟩:=z;unfold noteFrame;simp only [hf'];refine wpAny_bind (wpAny_field he rfl h1 ?_);rw [if_pos (show (Value.ref T != Value.none)=true from by simp)];refine wpAny_bind (wpAny_field hT hd h3 ?_);rw [if_neg hne];refine wpAny_bind (wpAny_setField hT hd (Array.getElem?_eq_some_iff.mp h3).1 ?_);have nT:T ∉ frs (env :: outer):=nofr hl hT hd;have oth:∀ b,b ≠ T→(s.heap.update T (Obj.mapFields (·.setIfInBounds 3 Value.none))).get? b=s.heap.get? b:=fun b hb=>Heap.get?_update_other _ _ (Ne.symm hb)
 have tT:∃ o',(s.heap.update T (Obj.mapFields (·.setIfInBounds 3 Value.none))).get? T=some o':=⟨_,Heap.get?_update_self _ hT (Obj.isFreed_of_fields (Obj.data_mapFields hd _))⟩;have hl2:(s.heap.update T (Obj.mapFields (·.setIfInBounds 3 Value.none))).FunFrames base (env :: outer):=hl.of_keeps fun b o e nf=>⟨o,(oth b fun q=>by rw [q,hT] at e;cases e;exact nf ts hd).trans e,rfl⟩
 refine JI (s:={ s with heap:=s.heap.update T (Obj.mapFields (·.setIfInBounds 3 Value.none)) }) hfr hl2 hf hf' ((oth x (Ne.symm ne)).trans he) (Array.getElem?_eq_some_iff.mp h1).1 hv2 fun h' T' k w f=>h h' T' ⟨fun b o q n1 n2 n3=>?_,fun b o q n1=>?_,fun b o q=>?_⟩ ?_ f
 ·exact k.keep b o ((oth b fun y=>n3 (by rw [y])).trans q) n1 n2 (fun y=>by cases y)
 ·exact k.slot b o ((oth b fun y=>nT (y ▸ n1)).trans q) n1
 ·by_cases hb:b=T
  ·subst hb;obtain ⟨o',e'⟩:=tT;exact k.there _ _ e'
  ·exact k.there b o ((oth b hb).trans q)
 ·exact Nat.le_trans (Nat.le_of_eq (Heap.size_update _ _ _).symm) w
theorem flight {x C T:Addr} {od:Option Addr} {fl:Value} {fs:List Addr} {Q:Unit→Shared→Prop} (o:Option Addr) (z:FlA x C od T fl s.heap) (nT:T ∉ fs)
  (h:∀ h',Kp fs x (some T) s.heap h'→FlA x C od T (o.elim .none fun f=>rawInt f) h'→Q () { s with heap:=h' }):wpAny M A (setFlight (.ref x) o) Q E s:=by
 obtain ⟨ne,vs,sl,oT,ts,he,h1,hT,hd,h3,hv2⟩:=z;have z3:3 < ts.size:=(Array.getElem?_eq_some_iff.mp h3).1;have oth:∀ b,b ≠ T→(s.heap.update T (Obj.mapFields (·.setIfInBounds 3 (o.elim Value.none fun f=>rawInt f)))).get? b=s.heap.get? b:=fun b hb=>Heap.get?_update_other _ _ (Ne.symm hb)
 have tT:=Heap.get?_update_self (Obj.mapFields (·.setIfInBounds 3 (o.elim Value.none fun f=>rawInt f))) hT (Obj.isFreed_of_fields (Obj.data_mapFields hd _));unfold setFlight;refine wpAny_bind (wpAny_field he rfl h1 ?_);rw [if_pos (show (Value.ref T != Value.none)=true from by simp)];refine wpAny_setField hT hd z3 (h _ ⟨fun b o q _ _ n3=>(oth b fun y=>n3 (by rw [y])).trans q,fun b o q n1=>⟨o.slots,(oth b fun y=>nT (y ▸ n1)).trans q⟩,fun b o q=>?_⟩
  ⟨ne,vs,sl,_,_,(oth x (Ne.symm ne)).trans he,h1,tT,Obj.data_mapFields hd _,by simp [z3],hv2⟩)
 by_cases hb:b=T
 ·subst hb;exact ⟨_,tT⟩
 ·exact ⟨o,(oth b hb).trans q⟩
end
section
variable {P:Program} {w:World} {H:Hp} {h h':Heap} {fs:List Addr} {x C T:Addr} {od:Option Addr} {fl:Value} {To:Option Addr} {o:HO}
theorem Kp.hok (k:Kp fs x To h h') (ok:HOk P w H h) (hfs:∀ b ∈ fs,H b=none) (hT:∀ t,To=some t→H t=none) (mu:Mut (H x)) (new:XA x C od h'):HOk P w (upd H x (.ext (XA x C od))) h':=fun b u q=>by
 have nown:∀ c y,H c=some (.own y)→c ≠ x:=fun c y r z=>by subst z;rw [r] at mu;exact mu
 have ntup:∀ c xs,H c=some (.tup xs)→c ≠ x:=fun c xs r z=>by subst z;rw [r] at mu;exact mu
 have kk:∀ c v,c ≠ x→H c ≠ none→h.get? c=some v→h'.get? c=some v:=fun c v n1 n2 r=>k.keep c v r (fun z=>n2 (hfs c z)) n1 fun z=>n2 (hT c z.symm)
 by_cases hb:b=x
 ·subst hb;rw [cb] at q;cases q;exact new.ok
 ·rw [rb hb] at q;refine (ok b u q).stay (fun c v hc r=>?_) (fun c r=>by rw [rb (nown c b r)];exact r) fun c xs r=>by rw [rb (ntup c xs r)];exact r
  rcases hc with rfl | hc
  ·exact kk c v hb (by rw [q];exact fun z=>by cases z) r
  ·exact kk c v (nown c b hc) (by rw [hc];exact fun z=>by cases z) r
theorem Kp.un (k:Kp fs x To h h') (hT:∀ t,To=some t→H t=none) (mu:Mut (H x)):Un fs To.toList H (upd H x o) h h':=by
 have hx:∀ b,H b=none→b ≠ x:=fun b n z=>by subst z;rw [n] at mu;exact mu
 have hm:∀ b u,H b=some u→¬ Mut (some u)→b ≠ x:=fun b u q nm z=>by subst z;rw [q] at mu;exact nm mu
 refine ⟨fun b u q n n1 n2=>k.keep b u q n1 (hx b n) fun z=>n2 (by rw [← z];simp),fun b u q n n1 n2=>k.slot b u q n1,fun b u q n _=>by rw [rb (hx b n)];exact n,fun b u q _=>k.there b u q,
  fun b xs q=>by rw [rb (hm b _ q fun z=>z)];exact q,fun b u xs q=>by rw [rb (hm b _ q fun z=>z)];exact q,fun b ps q=>⟨#[],by rw [rb (hm b _ q fun z=>z),q];simp⟩⟩
end
noncomputable def CX1 (P:Program) (w:World):CXT:=fun outer H s E e s'=>
 ∃ x C od H' T,e=.ref x∧s'.os=s.os∧AllBare s'.gens∧Un (frs outer) [] H H' s.heap s'.heap∧HOk P w H' s'.heap∧H' x=some (.ext (XA x C od))∧s.heap.objs.size ≤ T∧H' T=none∧FlA x C od T .none s'.heap∧E (.ref C) od H'
noncomputable def LC (X:Cx) (E:St→XK):Prop:=∀ (pins:List (Addr × Obj)) (σ:St) (H:Hp) (s:Shared) (x C:Addr) (od:Option Addr),Inv X pins σ H s→H x=some (.ext (XF x C od))→E σ (.ref C) od (upd H x (.ext (XA x C od)))→X.xe (.ref x) s
noncomputable def xz (CX:CXT) (X:Cx) (E:St→XK):Prop:=∀ (pins:List (Addr × Obj)) (σ:St) (H:Hp) (s:Shared) (e:Value) (s':Shared),Inv X pins σ H s→CX X.stack H s (E σ) e s'→X.xe e s'
structure Fr1 (X:Cx):Prop where
 st:X.stack=X.env :: X.outer
 fr:X.env.frame=some X.env.locals
noncomputable def HK (X:Cx) (pins:List (Addr × Obj)) (T:Addr):Prop:=(T ∈ X.ex∨X.s₀.heap.objs.size ≤ T)∧T ≠ X.env.locals∧(∀ x c,X.env.cells.lookup x=some c→c ≠ T)∧∀ p ∈ X.pn ++ pins,p.1 ≠ T
noncomputable def IC (X:Cx) (pins:List (Addr × Obj)) (E:St→XK) (fl:Value) (e:Value) (s':Shared):Prop:=
 ∃ σ' H' x C od T,e=.ref x∧Inv X pins σ' H' s'∧H' x=some (.ext (XA x C od))∧H' T=none∧HK X pins T∧FlA x C od T fl s'.heap∧E σ' (.ref C) od H'
noncomputable def xeR (X:Cx) (pins:List (Addr × Obj)) (E:St→XK) (e:Value) (s':Shared):Prop:=
 ∃ σ' H' x C od,e=.ref x∧Inv X pins σ' H' s'∧H' x=some (.ext (XF x C od))∧E σ' (.ref C) od (upd H' x (.ext (XA x C od)))
noncomputable def xeT (X:Cx) (pins:List (Addr × Obj)) (E:St→XK) (e:Value) (s':Shared):Prop:=xeR X pins E e s'∨∃ fl,IC X pins E fl e s'
noncomputable def xeA (X:Cx) (E:St→XK) (e:Value) (s':Shared):Prop:=∃ pins,xeT X pins E e s'
section
variable {X:Cx} {pins:List (Addr × Obj)} {σ:St} {H:Hp} {s:Shared} {T x C:Addr} {od:Option Addr} {E:St→XK} {M:Model} {A:Around} {E':Value→Shared→Prop} {Q:Unit→Shared→Prop} {e fl:Value} {h':Heap}
theorem UM (I:Inv X pins σ H s) (hT:s.heap.objs.size ≤ T):HK X pins T:=by
 have lt:∀ {b:Addr} {o:Obj},s.heap.get? b=some o→b ≠ T:=fun q z=>by
  subst z;exact absurd (Nat.lt_of_lt_of_le (Heap.lt_size q) hT) (Nat.lt_irrefl _)
 refine ⟨.inr (Nat.le_trans I.sz hT),fun z=>?_,fun x c e=>?_,fun p hp=>lt (I.pin p hp).1⟩
 ·obtain ⟨m,⟨o,es,ep,ho,_⟩,_⟩:=I.loc;exact lt ho z.symm
 ·obtain ⟨v,o,ho,_⟩:=I.cell x c e;exact lt ho
theorem qK (I:Inv X pins σ H s) (k:Kp (frs X.stack) x (some T) s.heap h') (ex:H x=some (.ext (XA x C od))) (eT:H T=none) (nT:HK X pins T) (xa:XA x C od h'):Inv X pins σ H { s with heap:=h' }:=by
 have mu:Mut (H x):=by rw [ex];exact True.intro
 have z:∀ t,some T=some t→H t=none:=fun t z=>by cases z;exact eT
 have u1:=k.un (H:=H) (o:=.ext (XA x C od)) z mu;have k1:=k.hok I.hok I.stkFree z mu xa;rw [cI ex] at u1 k1;exact I.call' (s':={ s with heap:=h' }) (ch:=[T]) rfl u1 k1 I.bare fun b hb=>by
  obtain rfl:b=T:=by simpa using hb
  exact nT
theorem dJ (F:Fr1 X) (I:Inv X pins σ H s) (k:Kp (frs (X.env :: X.outer)) x (some T) s.heap h') (ex:H x=some (.ext (XA x C od))) (eT:H T=none) (nT:HK X pins T) (xa:XA x C od h'):Inv X pins σ H { s with heap:=h' }:=
 qK I (by rw [F.st];exact k) ex eT nT xa
theorem IC.note (F:Fr1 X) (q:IC X pins E fl e s) (hne:¬ (fl == rawInt X.env.locals)=true) (h:∀ s',IC X pins E (rawInt X.env.locals) e s'→Q () s'):wpAny M X.A (noteFrame e X.env) Q E' s:=by
 obtain ⟨σ,H,x,C,od,T,rfl,I,ex,eT,nT,f,w⟩:=q;have fs:s.heap.FunFrames X.base (X.env :: X.outer):=by rw [← F.st];exact I.stack
 exact dF (by rw [← F.st];exact I.ok.frames) fs F.fr F.fr f hne fun h' T' k w' f'=>h _ ⟨σ,H,x,C,od,T',rfl,dJ F I k ex eT nT f'.xa,ex,I.hok.fresh w',UM I w',f',w⟩
theorem IC.noted (F:Fr1 X) (q:IC X pins E (rawInt X.env.locals) e s) (h:Q () s):wpAny M X.A (noteFrame e X.env) Q E' s:=by
 obtain ⟨σ,H,x,C,od,T,rfl,I,ex,eT,nT,⟨ne,vs,sl,oT,ts,he,h1,hT,hd,h3,_⟩,w⟩:=q;unfold noteFrame;simp only [F.fr];refine wpAny_bind (wpAny_field he rfl h1 ?_);rw [if_pos (show (Value.ref T != Value.none)=true from by simp)];refine wpAny_bind (wpAny_field hT hd h3 ?_);rw [if_pos (show (rawInt X.env.locals == rawInt X.env.locals)=true from by simp)];exact wpAny_pure h
theorem xeR.note (F:Fr1 X) (q:xeR X pins E e s) (h:∀ s',IC X pins E (rawInt X.env.locals) e s'→Q () s'):wpAny M X.A (noteFrame e X.env) Q E' s:=by
 obtain ⟨σ,H,x,C,od,rfl,I,ex,w⟩:=q;have fs:s.heap.FunFrames X.base (X.env :: X.outer):=by rw [← F.st];exact I.stack
 obtain ⟨vs,sl,hx,z1,z2⟩:=(show Xd X.prog X.w H s.heap x (.ext (XF x C od)) from I.hok _ _ ex).1;have mu:Mut (H x):=by rw [ex];exact True.intro
 refine vB (by rw [← F.st];exact I.ok.frames) fs F.fr F.fr hx z2.1 z2.2 fun h' T k w' f=>h _ ?_
 have z:∀ t,none=some t→H t=none:=fun t z=>by cases z
 have u1:=k.un (H:=H) (o:=.ext (XA x C od)) z mu;have k1:=k.hok I.hok (by rw [← F.st];exact I.stkFree) z mu f.xa;rw [← F.st] at u1;have I2:=I.call' (s':={ s with heap:=h' }) (ch:=[]) rfl u1 k1 I.bare fun b hb=>absurd hb (by simp)
 exact ⟨σ,_,x,C,od,T,rfl,I2,cb,by rw [rb f.1];exact I.hok.fresh w',UM I w',f,w⟩
theorem xeT.note (F:Fr1 X) (q:xeT X pins E e s) (h:∀ s',IC X pins E (rawInt X.env.locals) e s'→Q () s'):wpAny M X.A (noteFrame e X.env) Q E' s:=by
 rcases q with q | ⟨fl,q⟩
 ·exact q.note F h
 ·by_cases c:(fl == rawInt X.env.locals)=true
  ·rw [beq_iff_eq] at c;subst c;exact q.noted F (h _ q)
  ·exact q.note F c h
theorem IC.flight (F:Fr1 X) (o:Option Addr) (q:IC X pins E fl e s) (h:∀ s',IC X pins E (o.elim .none fun f=>rawInt f) e s'→Q () s'):wpAny M A (setFlight e o) Q E' s:=by
 obtain ⟨σ,H,x,C,od,T,rfl,I,ex,eT,nT,f,w⟩:=q;have fs:s.heap.FunFrames X.base (X.env :: X.outer):=by rw [← F.st];exact I.stack
 have nf:T ∉ frs (X.env :: X.outer):=by
  obtain ⟨_,_,_,oT,ts,_,_,e,d,_⟩:=id f;exact nofr fs e d
 exact L2.flight o f nf fun h' k f'=>h _ ⟨σ,H,x,C,od,T,rfl,dJ F I k ex eT nT f'.xa,ex,eT,nT,f',w⟩
theorem xeT.leave (F:Fr1 X) (q:xeT X pins E e s) (h:∀ s',IC X pins E .none e s'→Q () s'):wpAny M X.A (leaving X.env e) Q E' s:=by
 unfold leaving;exact wpAny_bind (q.note F fun s' q'=>q'.flight F none h)
theorem Iz (F:Fr1 X):PassesOwn M X.A X.env (xeT X pins E):=fun e s' q=>by
 refine q.note F fun s2 q2=>?_
 show wpAny _ _ _ _ _ _;obtain ⟨σ,H,x,C,od,T,rfl,I,ex,eT,nT,⟨ne,vs,sl,oT,ts,he,h1,hT,hd,h3⟩,w⟩:=id q2;refine wpAny_bind (wpAny_field he rfl h1 ?_);rw [if_neg (show ¬ (Value.ref T == Value.none)=true from by simp)];rw [F.fr];exact q2.flight F _ fun s3 q3=>.inr ⟨_,q3⟩
theorem Bf (F:Fr1 X):PassesOwn M X.A X.env (xeA X E):=fun e s' ⟨pins,q⟩=>by
 have z:=Iz (M:=M) F e s' q;refine wpAny_mono z (fun _ s2 q2=>?_) fun e2 s2 q2=>?_
 all_goals exact wpAny_mono q2 (fun _ s3 q3=>⟨pins,q3⟩) fun e3 s3 q3=>⟨pins,q3⟩
theorem YJ:LC (X.wish (xeA X E)) E:=fun pins σ H s x C od I ex q=>⟨pins,.inl ⟨σ,H,x,C,od,rfl,I.unwish,ex,q⟩⟩
theorem AJ {E0:XK} {s':Shared} (I:Inv X pins σ H s) (hq:CX1 X.prog X.w X.stack H s E0 e s') (h:∀ C od H',E0 C od H'→E σ C od H'):xeT X pins E e s':=by
 obtain ⟨x,C,od,H2,T,rfl,os,bare,un,hok,ex,hT,eT,fl,q⟩:=hq;exact .inr ⟨_,σ,H2,x,C,od,T,rfl,I.call' os un hok bare (fun b z=>absurd z (by simp)),ex,eT,UM I hT,fl,h _ _ _ q⟩
end
theorem Me {X:Cx} {E:XK}:Vk (CX1 X.prog X.w) (X.wish (xeA X fun _=>E)) E:=fun pins σ H s e s' I hq=>⟨pins,AJ I.unwish hq fun _ _ _ z=>z⟩
theorem fv {X:Cx} {E:XK}:LC (X.wish (xeA X fun _=>E)) (fun _=>E):=YJ
section
variable {P:Program} {w:World} {K:PySem.W.Frag} {mg:Str→Option Value} {base:Heap} {N:List Str} {qual:Str} {scope:Scope} {f:Addr} {cd:Value} {A:Around} {outer:List Env} {s:Shared} {H:Hp} {E:XK}
theorem uJ {e:Value} {s':Shared} (q:xeA (qF (CX1 P w) P w K mg base N qual scope f cd A outer s H E) (fun _=>E) e s'):(qF (CX1 P w) P w K mg base N qual scope f cd A outer s H E).xe e s':=by
 obtain ⟨pins,q⟩:=q;refine q.leave ⟨rfl,rfl⟩ fun s2 q2=>?_
 obtain ⟨σ,H2,x,C,od,T,rfl,I,ex,eT,nT,fl,q⟩:=q2;refine ⟨x,C,od,H2,T,rfl,I.os,I.bare,I.base,I.hok,ex,?_,eT,fl,q⟩;rcases nT.1 with z | z
 ·exact absurd z (by show T ∉ ([]:List Addr);simp)
 ·exact z
end
noncomputable def gI (sp:Sp) (dvs:List V) (E:St→XK) (t:TA):TE:=fun σ H Q=>t σ H fun vs H1=>sp (vs ++ dvs) H1 Q (E σ)
section
variable {X:Cx} {CX:CXT} {k:Nat} {f C:Addr} {fd:FuncData} {ps:List Str} {sp:Sp} {dvs:List V} {ds:List Value} {E:St→XK} {x m:Str} {p pos apos:Pos} {e o:Expr} {es:List Expr} {ta:TE} {t:TA}
theorem SJ {pins:List (Addr × Obj)} {σ:St} {H:Hp} {s:Shared} {Q:VK} {us:List Value} {vs:List V} (F:Kb X.prog X.w X.K X.mg X.base CX k f fd ps sp) (hr:Ni k X.A) (hb:Zb X.K fd ps ds) (hd:Dd dvs ds) (hx:xz CX X E)
  (I:Inv X pins σ H s) (r:Dd vs us) (h:sp (vs ++ dvs) H Q (E σ)):wpAny (model X.prog X.w) X.A (call (.ref f) us) (EP X pins σ Q) X.xe s:=by
 have r2:Dd (vs ++ dvs) (us ++ ds):=r.append hd;have hl:(us ++ ds).length=ps.length:=by rw [← r2.length];exact F.len _ _ _ _ h
 refine wpAny_call (codeAny_mono (F.run X.A X.stack s H ⟨us,[]⟩ (us ++ ds) (vs ++ dvs) Q (E σ) hr I.env0 (hb s us I.kIn hl) r2 h) fun r s' hq=>?_);rcases r with e | (u | _ | _ | _)
 ·exact hx pins σ H s e s' I hq
 all_goals first | exact I.after hq | exact False.elim hq
theorem aB (F:Kb X.prog X.w X.K X.mg X.base CX k f fd ps sp) (hr:Ni k X.A) (hg:Gl X x) (hm:X.mg x=some (.ref f)) (hk:PySem.W.keepIn X.K (.ref f)=true) (hb:Zb X.K fd ps ds) (hd:Dd dvs ds) (hx:xz CX X E)
  (ha:PA X (e :: es) t) (hdb:(x == ("__debug__" : Str))=false:=by decide) (he:starEach (e :: es) X.env=(false,eval e X.env) :: starEach es X.env:=by rfl) (hpl:(backTo pos (starEach es X.env)).any (·.1)=false:=by rfl) :
  PE X (.Call (.Name x p) (e :: es) [] pos) (gI sp dvs E t):=by
 intro pins s σ H Q I h;refine wpAny_Call_Name_kw (wk I hg hm ?_ hdb);exact PySem.W.callWith_K (h₀:=X.base) I.ok.mod.kin hk (thn (ha pos pins s σ H _ I h) fun us s1 ⟨vs,H1,I1,r,q⟩=>⟨I1.kIn,SJ F hr hb hd hx I1 r q⟩) he hpl
end
noncomputable abbrev Cx.tr (X:Cx) (pn:List (Addr × Obj)) (E:Value→Shared→Prop):Cx:={ X with pn:=X.pn ++ pn,xe:=E }
noncomputable abbrev Cx.hn (X:Cx) (e:Value):Cx:={ X with A:=X.A.mark (some e),calm:=false,xe:=fun _ _=>False }
section
variable {X:Cx} {pins pins':List (Addr × Obj)} {σ:St} {H:Hp} {s:Shared} {E:Value→Shared→Prop} {e:Value}
theorem Cx.Ok.tr (ok:X.Ok) (pn:List (Addr × Obj)) (E:Value→Shared→Prop):(X.tr pn E).Ok:=
 ⟨ok.mod,ok.kind,ok.glob,ok.blt,ok.above,ok.inj,ok.has,ok.cab,ok.hd,ok.frames,ok.stk,ok.exf,ok.bs,ok.bsz,ok.noex,ok.exfs,ok.funs,ok.frf⟩
theorem Cx.Ok.untr {pn:List (Addr × Obj)} (ok:(X.tr pn E).Ok):X.Ok:=
 ⟨ok.mod,ok.kind,ok.glob,ok.blt,ok.above,ok.inj,ok.has,ok.cab,ok.hd,ok.frames,ok.stk,ok.exf,ok.bs,ok.bsz,ok.noex,ok.exfs,ok.funs,ok.frf⟩
theorem Cx.Ok.hn (ok:X.Ok) (e:Value):(X.hn e).Ok:=
 ⟨ok.mod,ok.kind,ok.glob,ok.blt,ok.above,ok.inj,ok.has,ok.cab,(fun z=>Bool.noConfusion z),ok.frames,ok.stk,ok.exf,ok.bs,ok.bsz,ok.noex,ok.exfs,ok.funs,ok.frf⟩
theorem Inv.tr (I:Inv X pins σ H s) (E:Value→Shared→Prop):Inv (X.tr pins E) [] σ H s:=⟨I.ok.tr pins E,I.os,I.bare,I.base,I.loc,I.cell,I.free,I.freeC,fun p hp=>I.pin p (by simpa using hp),I.hok,I.len⟩
theorem Inv.untr (I:Inv (X.tr pins E) pins' σ H s):Inv X pins σ H s:=⟨I.ok.untr,I.os,I.bare,I.base,I.loc,I.cell,I.free,I.freeC,fun p hp=>I.pin p (List.mem_append_left _ hp),I.hok,I.len⟩
theorem Inv.hn (I:Inv X pins σ H s) (e:Value):Inv (X.hn e) pins σ H s:=⟨I.ok.hn e,I.os,I.bare,I.base,I.loc,I.cell,I.free,I.freeC,I.pin,I.hok,I.len⟩
theorem Inv.unhn (ok:X.Ok) (I:Inv (X.hn e) pins σ H s):Inv X pins σ H s:=⟨ok,I.os,I.bare,I.base,I.loc,I.cell,I.free,I.freeC,I.pin,I.hok,I.len⟩
theorem SP.untr {D:jk} {f:Flow} {s':Shared} (h:SP (X.tr pins E) pins' D f s'):SP X pins D f s':=by
 cases f with
 | next=>obtain ⟨σ',H',I,q⟩:=h;exact ⟨σ',H',I.untr,q⟩
 | brk=>obtain ⟨σ',H',I,q⟩:=h;exact ⟨σ',H',I.untr,q⟩
 | cont=>obtain ⟨σ',H',I,q⟩:=h;exact ⟨σ',H',I.untr,q⟩
 | ret u=>obtain ⟨v,σ',H',I,r,q⟩:=h;exact ⟨v,σ',H',I.untr,r,q⟩
end
theorem JD {X:Cx} {pins:List (Addr × Obj)} {E:St→XK}:xz (CX1 X.prog X.w) (X.tr pins (xeT X pins E)) E:=by
 intro pins' σ H s e s' I hq;obtain ⟨x,C,od,H2,T,rfl,os,bare,un,hok,ex,hT,eT,fl,q⟩:=hq;have I2:=I.call' os un hok bare (fun b z=>absurd z (by simp));exact .inr ⟨_,σ,H2,x,C,od,T,rfl,I2.untr,ex,eT,UM I.untr hT,fl,q⟩
theorem Sn {X:Cx} {pins:List (Addr × Obj)} {σ:St} {H:Hp} {s:Shared} {i:Nat} {n:Str} {pos:Pos} {A:Around} {E:Value→Shared→Prop} {Q:Unit→Shared→Prop} (I:Inv X pins σ H s) (hN:X.N.Nodup) (hi:X.N[i]? = some n)
  (hl:X.env.scope.names.lookup n=some .local) (h:∀ s',Inv X pins (σ.set i none) H s'→Q () s'):wpAny (model X.prog X.w) A (do bindName X.env n .none;unbindBehindTheSuite X.env n pos) Q E s:=by
 have hiσ:i < σ.length:=by rw [I.len];exact (List.getElem?_eq_some_iff.mp hi).1
 refine wpAny_bind (wpAny_bindName (Fq I hN hi (.inl hl) (v:=.non) (u:=.none) rfl (fun s1 I1=>?_) (.inr hl)));obtain ⟨m,hn,hlk⟩:=I1.loc;have hk:X.env.kindOf n=some .local:=hl;obtain ⟨u,ru,lk⟩:=hlk i n .non hi (List.getElem?_set_self hiσ) (.inl hl);have hmn:(m n).isSome=true:=by
  rcases lk with ⟨_,e⟩ | ⟨k,_⟩
  ·rw [e];rfl
  ·rcases k with k | k <;> (rw [hk] at k;cases k)
 have hp:(X.env.scope.kind == .class || (X.env.scope.kind == .module && X.env.locals != X.env.globals))=false:=by rw [I.ok.kind];rfl
 unfold unbindBehindTheSuite;refine wpAny_onRaise ?_;unfold unbindName;refine wpAny_bind (wpAny_point (wpAny_bind ?_));unfold deleteName;simp only [hk,hp];rw [if_neg (by decide)];refine wpAny_bind (wpAny_nsDel_keeps hn fun h2 v2 hn2 hs=>?_);rw [hmn];refine wpAny_pure (wpAny_point (h _ ?_));have neL:∀ b o,X.s₀.heap.get? b=some o→b ≠ X.env.locals:=fun b o e=>Nat.ne_of_lt (Nat.lt_of_lt_of_le (Heap.lt_size e) I1.ok.above)
 refine ⟨I1.ok,I1.os,I1.bare,⟨fun b o e n' hb hx=>(hs.2 b (neL b o e)).trans (I1.base.keep b o e n' hb hx),fun b o e n' hb hx=>?_,I1.base.free,fun b o e hx=>?_,I1.base.tups,I1.base.frzs,I1.base.tbls⟩,⟨_,hn2,fun j y v e1 e2 e3=>?_⟩,fun y c e=>?_,I1.free,I1.freeC,fun p hp=>?_,fun b u' e=>?_,by simpa using I.len⟩
 ·obtain ⟨sl,e1⟩:=I1.base.slot b o e n' hb hx;exact ⟨sl,(hs.2 b (neL b o e)).trans e1⟩
 ·obtain ⟨o',e1⟩:=I1.base.there b o e hx;exact ⟨o',(hs.2 b (neL b o e)).trans e1⟩
 ·by_cases hj:j=i
  ·subst hj;rw [List.getElem?_set_self hiσ] at e2;cases e2
  ·rw [List.getElem?_set_ne (Ne.symm hj)] at e2;obtain ⟨u',r',q⟩:=hlk j y v e1 (by rw [List.getElem?_set_ne (Ne.symm hj)];exact e2) e3;refine ⟨u',r',?_⟩;rcases q with ⟨k,e⟩ | ⟨k,c,e,z⟩
   ·refine .inl ⟨k,?_⟩;have:y ≠ n:=fun e=>hj (aw hN e1 (e ▸ hi))
    simp [this,e]
   ·exact .inr ⟨k,c,e,z.sameBut hs (I1.cne y c e)⟩
 ·obtain ⟨w',z⟩:=I1.cell y c e;exact ⟨w',z.sameBut hs (I1.cne y c e)⟩
 ·obtain ⟨e,n',ne,nf,d⟩:=I1.pin p hp;exact ⟨(hs.2 p.1 ne).trans e,n',ne,nf,d⟩
 ·have nL:∀ c,H c ≠ none→c ≠ X.env.locals:=fun c q z=>q (by rw [z];exact I1.free)
  refine (I1.hok b u' e).stay (fun c v hc q=>(hs.2 c (nL c ?_)).trans q) (fun _ q=>q) fun _ _ q=>q
  rcases hc with rfl | hc
  ·rw [e];exact fun z=>by cases z
  ·rw [hc];exact fun z=>by cases z
noncomputable def jk.gone (D:jk) (i:Nat):jk:={ nx:=fun σ H=>D.nx (σ.set i none) H,rt:=D.rt,bk:=fun σ H=>D.bk (σ.set i none) H,ct:=fun σ H=>D.ct (σ.set i none) H }
section
variable {X:Cx} {body suite:List Stmt} {b0:Stmt} {x n:Str} {c:Addr} {i:Nat} {tb:(St→XK)→TS} {th:TS} {xp hp pos:Pos}
end
theorem lD (D:jk) (i:Nat) (σ:St) (H:Hp):(D.gone i).nx σ H=D.nx (σ.set i none) H:=rfl
theorem fE (D:jk) (i:Nat) (v:V) (H:Hp):(D.gone i).rt v H=D.rt v H:=rfl
theorem OwnTail.has {h:Heap} {bm tl:List Value} {v:Value} (T:OwnTail h bm tl) (e:bm.contains v=true):tl.contains v=true:=by
 induction T with
 | base=>exact e
 | own _ _ _ _ ih=>rw [List.contains_cons,ih,Bool.or_true]
noncomputable def kJ (K:PySem.W.Frag) (E:St→XK) (te:TE):TS:=fun D σ H=>te σ H fun v H1=>∃ x C od,v=.ref x∧H1 x=some (.ext (XF x C od))∧Ks K C∧E σ (.ref C) od (upd H1 x (.ext (XA x C od)))
theorem aC {M:Model} {A:Around} {E:Value→Shared→Prop} {s:Shared} {env:Env} {x:Sem Value} {Q:Flow→Shared→Prop} (hh:A.handled=none)
  (h:wpAny M A x (fun v s1=>∃ e C od vs sl nm q N bs bm hdct sn sub ab col dd k0 k1 k2 k3 k5 newId,v=.ref e∧bm.contains (.type "BaseException")=true ∧
   s1.heap.get? C=some (excClassObj nm q C N bs bm hdct sn sub ab col dd k0 k1 k2 k3 k5 newId)∧s1.heap.get? e=some ⟨.ref C,od,.fields vs,sl⟩∧vs[1]? = some .none∧E (.ref e) s1) E s) :
  wpAny M A (raiseStmt env (some x) none) Q E s:=by
 unfold raiseStmt;refine wpAny_bind (wpAny_mono h (fun v s1 h1=>?_) fun _ _ x=>x);obtain ⟨e,C,od,vs,sl,nm,q,N,bs,bm,hdct,sn,sub,ab,col,dd,k0,k1,k2,k3,k5,newId,rfl,hb,hC,he,h1,hE⟩:=h1;have hcB:(Value.ref C :: bm).contains (.type "BaseException")=true:=by rw [List.contains_cons,hb,Bool.or_true]
 obtain ⟨hp,g,d,tk,os⟩:=s1
 repeat (first | with_reducible refine wpAny_loadPart_at he ?_ | with_reducible refine wpAny_loadPart_at hC ?_ | (with_reducible refine wpAny_isSubtype_exc hC ?_;rw [hcB]) | (with_reducible refine wpAny_field he rfl h1 ?_) | wp_step)
 exact wpAny_raiseNew_none hh hE
section
variable {X:Cx} {e:Expr} {te:TE} {pos:Pos} {E:St→XK}
theorem Aq (he:PE X e te) (hT:LC X E) (hc:X.calm=true:=by rfl):PS X (.Raise (some e) none pos) (kJ X.K E te):=by
 intro pins s σ H D I h;rw [arm_exec_Raise];refine wpAny_bind (wpAny_standAt (aC (I.ok.hd hc) ?_));refine wpAny_bind (thn (he pins s σ H _ I h) fun u s1 ⟨v,H1,I1,r,x,C,od,ev,ex,c,q⟩=>wpAny_bind (wpAny_standAt (wpAny_pure ?_)));subst ev;obtain rfl:u=Value.ref x:=r;obtain ⟨vs,sl,hx,z1,z2⟩:=(show Xd X.prog X.w H1 s1.heap x (.ext (XF x C od)) from I1.hok _ _ ex).1;obtain ⟨fI,hfI⟩:=c.ex;obtain ⟨tl,N,nm,q',bs,sn,sub,ab,co,dd,k0,k1,k2,k3,k5,mN,hC,hN,hi,T⟩:=gw I1.kIn hfI;exact ⟨x,C,od,vs,sl,nm,q',N,bs,tl,true,sn,sub,ab,co,dd,k0,k1,k2,k3,k5,_,rfl,L2.OwnTail.has T (by decide),hC,hx,z2.1,hT pins σ H1 s1 x C od I1 ex q⟩
theorem PS.nox {X:Cx} {st:Stmt} {t:TS} (h:PS X.nox st t):PS X st t:=fun pins s σ H D I hw=>
 wpAny_mono (h pins s σ H D (I.wish _) hw) (fun _ _ q=>q.unwish) fun _ _ z=>False.elim z
end
theorem Fun.okX {P:Program} {w:World} {K:PySem.W.Frag} {mg:Str→Option Value} {base:Heap} {x qual:Str} {st:Stmt} {f:Addr} {fd:FuncData} {N ps:List Str} {k:Nat} {sp:Sp} (F:Fun K x qual st f fd) (S:Cb N ps (ib st))
  (len:∀ vs H Q E,sp vs H Q E→vs.length=ps.length)
  (hbody:∀ (cdv:Value) (A:Around) (outer:List Env) (s:Shared) (H:Hp) (vs:List V) (Q:VK) (E:XK),Ni k (A.deeper (envOfC qual (ib st) s.heap.objs.size f cdv))→sp vs H Q E →
   ∃ t,PSs ((qF (CX1 P w) P w K mg base N qual (ib st) f cdv A outer s H E).wish (xeA (qF (CX1 P w) P w K mg base N qual (ib st) f cdv A outer s H E) fun _=>E)) (cn st) t∧t { nx:=fun _ H'=>Q .non H',rt:=Q } (start N vs) H):Kb P w K mg base (CX1 P w) (k + 1) f fd ps sp:=by
 obtain ⟨oc,od,kV,doc,pm,an,cdv,ct,osl,rfl,lk,hcd⟩:=F.ex;refine xM lk hcd S len fun A outer s H vs Q E hr hsp=>?_
 obtain ⟨t,h,q⟩:=hbody cdv A outer s H vs Q E hr hsp;exact ⟨t,fun pins s1 σ H1 D I hw=>wpAny_mono (h pins s1 σ H1 D (I.wish _) hw) (fun _ _ q=>q.unwish) fun _ _ z=>uJ z,q⟩
noncomputable def xeB (B:Cx) (E:XK) (e:Value) (s':Shared):Prop:=
 ∃ pins fl σ' H' x C od T,e=.ref x∧Inv B pins σ' H' s'∧H' x=some (.ext (XA x C od))∧H' T=none∧HK B pins T∧B.s₀.heap.objs.size ≤ T∧FlA x C od T fl s'.heap∧E (.ref C) od H'
structure dO (X:Cx) (scope:Scope) (N:List Str) (tg elt:Expr) (ifs:List Expr) (g:TG) (tc:TT) (te:XK→TE):Prop where
 tgt:∀ E C s H fp,PG ((X.block scope C N s H fp).wish (xeB (X.block scope C N s H fp) E)) tg g
 tests:∀ E C s H fp,PTs ((X.block scope C N s H fp).wish (xeB (X.block scope C N s H fp) E)) ifs tc
 elem:∀ E C s H fp,PE ((X.block scope C N s H fp).wish (xeB (X.block scope C N s H fp) E)) elt (te E)
theorem dO.of {X:Cx} {scope:Scope} {N:List Str} {tg elt:Expr} {ifs:List Expr} {g:TG} {tc:TT} {te:XK→TE} (h1:∀ E C s H fp,PG ((X.block scope C N s H fp).wish (xeB (X.block scope C N s H fp) E)) tg g)
  (h2:∀ E C s H fp,∃ t,PTs ((X.block scope C N s H fp).wish (xeB (X.block scope C N s H fp) E)) ifs t∧t=tc) (h3:∀ E C s H fp,∃ t,PE ((X.block scope C N s H fp).wish (xeB (X.block scope C N s H fp) E)) elt t∧t=te E):dO X scope N tg elt ifs g tc te:=
 ⟨h1,fun E C s H fp=>by obtain ⟨t,h,rfl⟩:=h2 E C s H fp;exact h,fun E C s H fp=>by obtain ⟨t,h,e⟩:=h3 E C s H fp;rw [← e];exact h⟩
section
variable {X:Cx} {elt tg iter:Expr} {ifs:List Expr} {scope:Scope} {pos:Pos} {wi:TI} {g:TG} {tc:TT} {te:XK→TE} {N:List Str} {sel:List (Option Nat)}
theorem FlA.but {x C T c:Addr} {od:Option Addr} {fl:Value} {h h':Heap} (z:FlA x C od T fl h) (n1:x ≠ c) (n2:T ≠ c) (k:∀ b,b ≠ c→h'.get? b=h.get? b):FlA x C od T fl h':=by
 obtain ⟨ne,vs,sl,oT,ts,he,h1,hT,hd,h3,hv2⟩:=z;exact ⟨ne,vs,sl,oT,ts,(k _ n1).trans he,h1,(k _ n2).trans hT,hd,h3,hv2⟩
end
structure uO (K:PySem.W.Frag) (C:Addr):Prop where
 cl:Cls K C
 ha:PySem.W.findIn K (.ref C) "__class__"=some (some (.builtin "object.__class__"))
 hn:PySem.W.specialIn K (.builtin "object.__class__") "__get__"=some (some (.builtin "getset_descriptor.__get__"))
 htk:PySem.W.takesIn K (.builtin "object.__class__")=some true
 hm:PySem.W.mroIn K C (.type "object")=some true
theorem uO.ty {K:PySem.W.Frag} {H:Hp} {C a dx:Addr} {fs:List (Str × V)} (c:uO K C) (e:H a=some (.ins C dx fs)):GC K H (.ref a) (.ref C):=.ins e c.cl c.ha c.hn c.htk c.hm
end L2
namespace L2
open PySem PySem.Spec PyProof.Rows
noncomputable def Itd (hi:Int) (n:Nat):It:=⟨fun i _=>i < n,fun i H x H'=>H'=H∧x=.int (hi - i),fun i _=>n ≤ i⟩
theorem bE {P:Program} {w:World} {K:PySem.W.Frag} {tg:Expr} (it:Addr) (hi:Int) (n:Nat):OJ P w K tg (Itd hi n) [it] it (fun i h=>IsRangeIter h it (hi + (i:Nat) * (-1)) ((n:Int) - (i:Nat)) (-1)) where
 mem:=by simp
 obj:=fun i h st b hb=>by
  have e:b=it:=by simpa using hb
  subst e;exact ⟨_,st,fun v z=>by
   have z':Data.fields _=Data.cell v:=z;cases z'⟩
 keep:=fun i h h' st k=>k it (by simp) _ st
 item:=by
  intro X hP hw hK hc i pins s σ H E I hf st hg;subst hP hw hK;obtain ⟨f0,f1,f2,f3,f4,f5⟩:=hf it (by simp);have W:=Walks.range (prog:=X.prog) (w:=X.w) (I.ok.hd hc) it hi (-1) n;refine W.item i s _ _ hg st fun v h' tk hv st' kk=>?_
  obtain ⟨t,rfl⟩:=hv;have I1:Inv X pins σ H { s with heap:=h',toks:=tk }:=I.turned (fun b o hb e=>kk b o (by simpa using hb) e) f0 f1 f3 f4 f5;refine ⟨_,rfl,SE (s:={ s with heap:=h',toks:=tk }) (n := "range_iterator") st' rfl rfl (by decide) ⟨.int (hi - i),H,I1,⟨t,?_⟩,⟨rfl,rfl⟩,st',fun b hb=>(hf b hb).1⟩⟩;congr 1;omega
 done:=by
  intro X hP hw hK hc i pins s σ H E I hf st hg;subst hP hw hK;obtain ⟨f0,f1,f2,f3,f4,f5⟩:=hf it (by simp);exact wpAny_pyNext_range_end (I.ok.hd hc) st (by have:n ≤ i:=hg;omega) fun h' eb=>⟨rfl,I.turned (t':=s.toks) (fun b o hb e=>eb b o hb e) f0 f1 f3 f4 f5⟩
 self:=fun _ _ _ _ _ st h=>wpAny_pyIter_rangeiter st h
theorem zm (a b:Int):Builtin.Range.rangeSize a b (-1)=if b < a then a - b else 0:=by
 unfold Builtin.Range.rangeSize;rw [if_neg (show ¬ (-1:Int) > 0 by decide),show (- -1:Int)=1 by decide,Int.ediv_one];show (if b < a then a - b - 1 + 1 else 0)=_;split <;> omega
theorem nC {a b:Int} (ha:-(2 ^ 62) ≤ a) (ha':a < 2 ^ 62) (hb:-(2 ^ 62) ≤ b) (hb':b < 2 ^ 62):Builtin.Range.small a b (-1)=true:=by
 unfold Builtin.Range.small;rw [zm];simp only [Builtin.Range.rangeFitsLong,Bool.and_eq_true,Bool.or_eq_true,decide_eq_true_eq,beq_iff_eq,show ¬ (-1:Int) > 0 by decide,if_false];split <;> omega
section
variable {X:Cx} {tg:Expr}
noncomputable def eM (ta:TA):TI:=fun σ H R=>ta σ H fun vs H1=>∃ i j:Int,vs=[.int i,.int j,.int (-1)]∧(-1073741824 ≤ i∧i < 1073741824∧-1073741824 ≤ j∧j < 1073741824)∧R (Itd i (i - j).toNat) H1
theorem UC {a b c:Expr} {ta:TA} {p pos:Pos} (hg:Gl X "range") (hm:X.mg "range"=none) (ha:PA X [a,b,c] ta) (hs:starEach [a,b,c] X.env=[(false,eval a X.env),(false,eval b X.env),(false,eval c X.env)]:=by rfl) (hs2:starEach [b,c] X.env=[(false,eval b X.env),(false,eval c X.env)]:=by rfl) :
  PI X tg (.Call (.Name "range" p) [a,b,c] [] pos) (eM ta):=by
 intro pins s σ H R I h;refine Call_ (wp I hg hm boot_range (PyProof.Rows.callWith_type1 (thn (ha pos pins s σ H _ I h) fun us s1 hZ1=>?_) (by rw [hs,hs2]) (by rw [hs2];rfl)));obtain ⟨vs,H1,I1,r1,q1⟩:=hZ1;obtain ⟨i,j,e,⟨q1,q2,q3,q4⟩,q⟩:=q1;subst e;cases r1 with
 | cons r rr=>
  cases rr with
  | cons r' rr=>
   cases rr with
   | cons r'' rr=>
    cases rr;obtain ⟨t,rfl⟩:=r;obtain ⟨t',rfl⟩:=r';obtain ⟨t'',rfl⟩:=r'';refine call_range_3 (by decide) ?_ (Or.inl (PyProof.noPylong_small (by omega)));refine wpAny_pyIter_range (IsRange.new ..) (nC (by omega) (by omega) (by omega) (by omega)) ?_;have I2:Inv X pins σ H1 { s1 with heap:=s1.heap.push { cls:=.type "range",data:=.fields #[.int i t,.int j t',.int (-1) t''] },toks:=s1.toks }:=I1.kept fun b o e=>Heap.get?_push_of_some _ e
    refine ⟨(s1.heap.push { cls:=.type "range",data:=.fields #[.int i t,.int j t',.int (-1) t''] }).objs.size,[(s1.heap.push { cls:=.type "range",data:=.fields #[.int i t,.int j t',.int (-1) t''] }).objs.size],_,_,H1,rfl,
     I2.kept (t':=s1.toks) fun b o e=>Heap.get?_push_of_some _ e,bE _ i (i - j).toNat,?_,fun b hb=>?_,q⟩
    ·have e1:i + ((0:Nat):Int) * (-1)=i:=by simp
     have e2:(((i - j).toNat:Nat):Int) - ((0:Nat):Int)=Builtin.Range.rangeSize i j (-1):=by rw [zm];split <;> omega
     show IsRangeIter _ _ (i + ((0:Nat):Int) * (-1)) ((((i - j).toNat:Nat):Int) - ((0:Nat):Int)) (-1);rw [e1,e2];exact Heap.get?_push_size _ rfl
    ·have e:b=(s1.heap.push { cls:=.type "range",data:=.fields #[.int i t,.int j t',.int (-1) t''] }).objs.size:=by simpa using hb
     subst e;exact I2.fpOk (Nat.le_refl _) (I2.hok.fresh (Nat.le_refl _))
end
theorem RB:typeLookup (.type "list_reverseiterator") "__len__"=pure none:=by rw [typeLookup_type,builtinLookup_eq_fast];kernel_rfl
theorem jx:typeLookup (.type "list_reverseiterator") "__length_hint__"=pure (some (.builtin "list_reverseiterator.__length_hint__")):=by rw [typeLookup_type,builtinLookup_eq_fast];kernel_rfl
section
variable {prog:Program} {w:World} {A:Around} {E:Value→Shared→Prop} {s:Shared} {it l:Addr} {items:Array Value}
theorem SH (hT:s.TypeIs (.ref it) "list_reverseiterator") {Q:Bool→Shared→Prop} (h:Q false s):wpAny (model prog w) A (Builtin.List.listLengthHint (.ref it)) Q E s:=by
 unfold Builtin.List.listLengthHint;refine wpAny_bind (wpAny_specialOf hT RB ?_);show wpAny _ A (specialOf (Value.ref it) (Str.ofString "__length_hint__") >>= _) _ _ _;refine wpAny_bind (wpAny_specialOf hT jx ?_);generalize hid:("list_reverseiterator.__length_hint__" : String)=id0
 wp_delta
 rw [show splitId id0=some ("list_reverseiterator","__length_hint__") from by subst hid;decide +kernel];subst hid;refine wpAny_bind (wpAny_isInstance (T := "list_reverseiterator") (b:=true) hT (by rw [isSubtype_type];kernel_rfl) ?_);refine wpAny_ite_split (fun hab=>absurd hab (by decide)) (fun _=>?_);refine wpAny_ite_split (fun _=>?_) (fun hab=>absurd (by decide +kernel) hab);refine wpAny_ite_split (fun hab=>absurd hab (by decide +kernel)) (fun _=>?_);exact wpAny_pure h
noncomputable abbrev kM (items:Array Value):Nat→Value→Prop:=fun i v=>items[items.size - 1 - i]? = some v
theorem uC {R:Result→Shared→Prop} (hh:A.handled=none) (hit:s.heap.IsRevIter it l ((items.size:Int) - 1 - ((0:Nat):Int))) (hl:s.heap.IsList l items) (hne:l ≠ it) (S:Addr) (hSi:S ≠ it) (hSl:S ≠ l) (res:Value) (c₀:Nat)
  (hS:s.heap.get? S=some { cls:=.type "list",data:=.seq #[] c₀ }) (hn:items.size ≤ sizeLine)
  (hR:∀ h' tk acc c,(∀ b o,b ≠ S→b ≠ it→s.heap.get? b=some o→h'.get? b=some o)→h'.get? S=some { cls:=.type "list",dict:=none,data:=.seq acc c,slots:=#[] }→ItemsOf (kM items) acc items.size→R (.ok (.ret res)) { s with heap:=h',toks:=tk }) :
  wpAny (model prog w) A.in1 (Builtin.List.listExtendWith (.ref S) (.ref it) res)
   (fun fin s'=>match fin with | .done f=>R (.ok f) s' | .again c'=>c'.quiet=true∧codeAny (model prog w) A c' R s') (fun e s'=>R (.error e) s') s:=by
 unfold Builtin.List.listExtendWith;refine wpAny_bind (wpAny_typeOf hit.typeIs ?_);have h1:Builtin.List.listSameRef (.ref S) (.ref it)=false:=by simp [Builtin.List.listSameRef,hSi]
 have h2:(Value.type "list_reverseiterator" == Value.type "list")=false:=by decide
 have h3:(Value.type "list_reverseiterator" == Value.type "tuple")=false:=by decide
 simp only [h1,h2,h3,Bool.or_false,Bool.false_eq_true,if_false];refine wpAny_bind (wpAny_pyIter_revIter hit ?_);refine wpAny_bind (wpAny_holding (SH hit.typeIs ?_));refine wpAny_ite_split (fun hab=>absurd hab (by decide +kernel)) (fun _=>?_);have W:=Walks.listRev (prog:=prog) (w:=w) (A:=A.in1) hh it l hne items;have hSf:S ∉ [it,l]:=by simp only [List.mem_cons,List.not_mem_nil,or_false,not_or];exact ⟨hSi,hSl⟩
 refine wpAny_pure ⟨plainId_quiet PySem.F.plain_extend_loop _,codeAny_extend_loopS W.toS hn S hSf res items.size 0 s #[] c₀ rfl (Nat.zero_le _) ⟨Nat.zero_le _,hit,hl⟩ hS (ItemsOf.nil _) fun s' acc c hm hS' hacc=>?_⟩;rw [Moved.eq_with hm];refine hR s'.heap s'.toks acc c (fun b o hb hi e=>hm.heap b o (fun hmem=>?_) e) hS' hacc;rcases List.mem_cons.mp hmem with e' | hmem
 ·exact hb e'
 ·exact hi (List.mem_singleton.mp hmem)
theorem gv {Q:Value→Shared→Prop} (hh:A.handled=none) (hit:s.heap.IsRevIter it l ((items.size:Int) - 1 - ((0:Nat):Int))) (hl:s.heap.IsList l items) (hne:l ≠ it) (hn:items.size ≤ sizeLine)
  (hQ:∀ h' tk acc c,(∀ b o,b ≠ it→s.heap.get? b=some o→h'.get? b=some o)→h'.get? s.heap.objs.size=some { cls:=.type "list",dict:=none,data:=.seq acc c,slots:=#[] }→ItemsOf (kM items) acc items.size→Q (.ref s.heap.objs.size) { s with heap:=h',toks:=tk }) :
  wpAny (model prog w) A (call (.type "list") [.ref it]) Q E s:=by
 have li:it < s.heap.objs.size:=by obtain ⟨_,e,_⟩:=hit;exact Heap.lt_size e
 have ll:l < s.heap.objs.size:=by obtain ⟨_,e,_⟩:=hl;exact Heap.lt_size e
 refine callType_codes (Q₁:=fun obj s₁=>obj=.ref s.heap.objs.size∧s₁ = { s with heap:=s.heap.push { cls:=.type "list",data:=.seq #[] } }) PySem.F.called_list (PySem.F.typeCall_list_1 _) PySem.F.entry_list_init
  (code_list_new _ ⟨rfl,rfl⟩) fun obj s₁ h₁=>?_
 obtain ⟨rfl,rfl⟩:=h₁;have hS:(s.heap.push { cls:=.type "list",data:=.seq #[] }).get? s.heap.objs.size=some { cls:=.type "list",data:=.seq #[] }:=Heap.get?_push_size _ rfl;refine ⟨⟨_,hS,rfl⟩,PySem.F.args_list_init_2 _ _,?_⟩;show wpAny _ _ (do let old ← Builtin.List.listItems (.ref s.heap.objs.size);Builtin.List.listUpdate (.ref s.heap.objs.size) (fun _=>#[]);letGo old.toList.reverse;Builtin.List.listExtendWith (.ref s.heap.objs.size) (.ref it) .none) _ _ _;refine wpAny_bind ?_;unfold Builtin.List.listItems;refine wpAny_bind (wpAny_seqItems hS rfl (wpAny_pure ?_));show wpAny _ _ (updateSeq s.heap.objs.size (fun _=>#[]) >>= fun _=>letGo (#[]:Array Value).toList.reverse >>= fun _=>Builtin.List.listExtendWith (.ref s.heap.objs.size) (.ref it) .none) _ _ _;refine wpAny_bind (wpAny_updateSeq hS rfl ?_);have hS₂:=Heap.get?_update_self (Obj.mapSeq (fun _=>(#[]:Array Value))) hS rfl;have oth:∀ b o,s.heap.get? b=some o→((s.heap.push { cls:=.type "list",data:=.seq #[] }).update s.heap.objs.size (Obj.mapSeq (fun _=>(#[]:Array Value)))).get? b=some o:=
  fun b o e=>(Heap.get?_update_other _ _ (Ne.symm (Nat.ne_of_lt (Heap.lt_size e)))).trans (Heap.get?_push_of_some _ e)
 refine wpAny_bind (wpAny_letGo ?_);refine uC (A:=A.in1) hh (hit.at fun o e=>oth _ o e) (hl.at fun o e=>oth _ o e) hne _ (Ne.symm (Nat.ne_of_lt li)) (Ne.symm (Nat.ne_of_lt ll)) .none _ hS₂ hn fun h' tk acc c hk hS' hacc=>?_
 exact ⟨rfl,hQ h' tk acc c (fun b o hb e=>hk b o (Nat.ne_of_lt (Heap.lt_size e)) hb (oth b o e)) hS' hacc⟩
end
section
variable {X:Cx}
noncomputable def WA (K:PySem.W.Frag) (ta:TA):TE:=fun σ H Q=>ta σ H fun vs H1=>∃ a xs,vs=[.ref a]∧SqL K H1 a xs∧∀ l,H1 l=none→Q (.ref l) (upd H1 l (.lst xs.reverse))
theorem xo {a:Expr} {ta:TA} {p q pos pos':Pos} (hc:X.calm=true) (hg:Gl X "list") (hm:X.mg "list"=none) (hg':Gl X "reversed") (hm':X.mg "reversed"=none) (ha:PA X [a] ta) (hs:starEach [a] X.env=[(false,eval a X.env)]:=by rfl)
  (hs2:starEach [Expr.Call (.Name "reversed" q) [a] [] pos'] X.env=(false,eval (Expr.Call (.Name "reversed" q) [a] [] pos') X.env) :: starEach [] X.env:=by rfl) :
  PE X (.Call (.Name "list" p) [.Call (.Name "reversed" q) [a] [] pos'] [] pos) (WA X.K ta):=by
 intro pins s σ H Q I h;refine wpAny_Call_Name_kw (wp I hg hm Es ?_);refine PyProof.Rows.callWith_type1 ?_ hs2 rfl;rw [hs2];show wpAny _ _ (spliced ((false,eval (Expr.Call (.Name "reversed" q) [a] [] pos') X.env) :: [])) _ _ s;refine Calls.spliced_cons ?_;refine Call_ (wp I hg' hm' zv (PyProof.Rows.callWith_type1 (thn (ha pos' pins s σ H _ I h) fun us s1 hZ1=>?_) hs rfl));obtain ⟨vs,H1,I1,r1,q1⟩:=hZ1;obtain ⟨a,xs,e,hq,q⟩:=q1;subst e;cases r1 with
 | cons r rr=>
  cases rr;cases r;obtain ⟨its,rv,pl,hz⟩:=I1.list hq;have hl:=rv.length;have hlt:a < s1.heap.objs.size:=by obtain ⟨_,e,_⟩:=pl.isList;exact Heap.lt_size e
  refine call_reversed_list pl.isList ?_;refine Calls.spliced_nil ?_;have hit:(s1.heap.push (revObj a ((its.toArray.size:Int) - 1))).IsRevIter s1.heap.objs.size a ((its.toArray.size:Int) - 1 - ((0:Nat):Int)):=by
   refine ⟨_,Heap.get?_push_size _ rfl,rfl,?_⟩;simp only [revObj];simp
  have kp:∀ b o,s1.heap.get? b=some o→(s1.heap.push (revObj a ((its.toArray.size:Int) - 1))).get? b=some o:=fun b o e=>Heap.get?_push_of_some _ e
  refine gv (I1.ok.hd hc) hit (pl.isList.at fun o e=>kp _ o e) (Nat.ne_of_lt hlt) (by rw [List.size_toArray];omega) fun h' tk acc c hk e' hacc=>?_
  refine ⟨.ref _,_,I1.laid (o:=.lst xs.reverse) (t':=tk) (fun b u e=>hk b u (Nat.ne_of_lt (Heap.lt_size e)) (kp b u e)) (by rw [Heap.size_push];exact Nat.le_succ _) ⟨by rw [List.length_reverse];omega,acc.toList,c,?_,e'⟩,rfl,q _ (I1.hok.fresh (by rw [Heap.size_push];exact Nat.le_succ _))⟩;have hv:=DB (f:=fun i=>xs.getD (xs.length - 1 - i) .non) (fun i v hv=>by
   have hv':its.toArray[its.toArray.size - 1 - i]? = some v:=hv;rw [List.size_toArray,← hl,List.getElem?_toArray] at hv';have hj:=(List.getElem?_eq_some_iff.mp hv').1;have hx:xs[xs.length - 1 - i]? = some xs[xs.length - 1 - i]:=List.getElem?_eq_getElem (by omega);obtain ⟨w,hw,rw'⟩:=rv.get hx;rw [hv'] at hw;cases hw;rw [List.getD_eq_getElem?_getD,hx];exact rw') hacc
  have er:(List.range its.toArray.size).map (fun i=>xs.getD (xs.length - 1 - i) .non)=xs.reverse:=by
   rw [List.size_toArray,← hl];refine List.ext_getElem (by simp) fun i h1 h2=>?_
   rw [List.getElem_map,List.getElem_range,List.getElem_reverse,List.getD_eq_getElem?_getD,List.getElem?_eq_getElem (by simp at h2;omega)];rfl
  rw [er] at hv;exact hv
end
section
variable {prog:Program} {w:World} {A:Around} {R:Result→Shared→Prop} {I:Addr} {fp wr:List Addr} {n:Nat} {P:Nat→Value→Prop} {St:Nat→Heap→Prop}
noncomputable def kL (P:Nat→Value→Prop) (bt:Nat→Nat→Bool) (j:Nat) (acc:Array Value):Prop:=(j=0∧acc=#[])∨∃ vb i,j=i + 1∧acc=#[vb,vb]∧P (argBest bt i) vb
theorem gD (W:Walks prog w A.in1 I fp wr n P St) (bt:Nat→Nat→Bool) (hcmp:CmpOf prog w A.in1 .Lt P bt) (S:Addr) (hSf:S ∉ fp) (dv:Value) (kn:Str) :
  ∀ (k j:Nat) (s:Shared) (acc:Array Value) (c:Nat),n - j=k→j ≤ n→St j s.heap→kL P bt j acc →
  s.heap.get? S=some { cls:=.type "list",dict:=none,data:=.seq acc c,slots:=#[] } →
  (∀ v h' tk,(n=0∧v=dv)∨(0 < n∧P (argBest bt (n - 1)) v)→(∀ b o,b ∉ wr→b ≠ S→s.heap.get? b=some o→h'.get? b=some o)→R (.ok (.ret v)) { s with heap:=h',toks:=tk }) →
  codeAny (model prog w) A (.builtin "min.loop" ⟨[.ref I,.none,.ref S],[(kn,dv)]⟩) R s:=by
 have hSw:S ∉ wr:=fun h=>hSf (W.sub _ h)
 have hname:(toString "min" ++ toString ".loop" : String) = "min.loop" := by decide
 intro k
 induction k with
 | zero=>
  intro j s acc c hk hj hst hB hS hR;have hin:j=n:=by omega
  refine codeAny_builtin PySem.F.entry_min_loop ?_;rw [Around.under_plainId PySem.F.plain_min_loop _];show wpAny _ A.in1 (seqItems? (.ref S) >>= _) _ _ s;refine wpAny_bind (wpAny_seqItems hS rfl ?_);show wpAny _ A.in1 (tryCatch (pyNext (.ref I)) _ >>= _) _ _ s;refine wpAny_bind (wpAny_tryCatch (W.done s _ _ (hin ▸ hst) fun h' tk hk'=>?_));have hS':=hk' S _ hSw hS;rcases hB with ⟨h0,rfl⟩ | ⟨vb,i,hi,rfl,hP⟩
  ·show wpAny _ A.in1 (rule _ >>= _) _ _ _;refine wpAny_bind (wpAny_rule (wpAny_pure ?_));exact hR dv h' tk (.inl ⟨by omega,rfl⟩) fun b o hbw hbS e=>hk' b o hbw e
  ·show wpAny _ A.in1 (updateSeq S (fun _=>#[]) >>= _) _ _ _;refine wpAny_bind ?_;refine wpAny_updateSeq hS' rfl (wpAny_bind (wpAny_letGo (wpAny_pure ?_)));refine hR vb _ tk (.inr ⟨by omega,by rw [show n - 1=i by omega];exact hP⟩) fun b o hbw hbS e=>(Heap.get?_update_other _ _ (Ne.symm hbS)).trans (hk' b o hbw e)
 | succ k ih=>
  intro j s acc c hk hj hst hB hS hR;have hlt:j < n:=by omega
  refine codeAny_builtin PySem.F.entry_min_loop ?_;rw [Around.under_plainId PySem.F.plain_min_loop _];show wpAny _ A.in1 (seqItems? (.ref S) >>= _) _ _ s;refine wpAny_bind (wpAny_seqItems hS rfl ?_);show wpAny _ A.in1 (tryCatch (pyNext (.ref I)) _ >>= _) _ _ s;refine wpAny_bind (wpAny_tryCatch (W.item j s _ _ hlt hst fun v h' tk hP hst' hk'=>?_));have hS':=hk' S _ hSw hS;have put:∀ h'':Heap,h''=h'.update S (Obj.mapSeq (fun _=>#[v,v]))→St (j + 1) h'':=fun h'' e=>by
   subst e;exact W.frame _ _ _ hst' fun b hbf o e=>(Heap.get?_update_other _ _ (fun h:S=b=>hSf (by rw [h];exact hbf))).trans e
  rcases hB with ⟨h0,rfl⟩ | ⟨vb,i,hi,rfl,hPb⟩
  ·show wpAny _ A.in1 (updateSeq S (fun _=>#[v,v]) >>= _) _ _ _;refine wpAny_bind ?_;refine wpAny_updateSeq hS' rfl ?_;rw [hname];refine wpAny_pure ⟨plainId_quiet PySem.F.plain_min_loop _,ih (j + 1) _ #[v,v] _ (by omega) hlt (put _ rfl) (.inr ⟨v,j,rfl,rfl,by subst h0;exact hP⟩) (Heap.get?_update_self _ hS' rfl) fun v' h'' tk'' hP' hk''=>?_⟩;exact hR v' h'' tk'' hP' fun b o hbw hbS e=>hk'' b o hbw hbS ((Heap.get?_update_other _ _ (Ne.symm hbS)).trans (hk' b o hbw e))
  ·subst hi;show wpAny _ A.in1 (tryCatch (holding [v,v] (richCompare .Lt v vb >>= _)) _ >>= _) _ _ _;refine wpAny_bind (wpAny_tryCatch (wpAny_holding (wpAny_bind (hcmp (i + 1) (argBest bt i) v vb _ _ _ hP hPb ?_))));refine wpAny_bind (wpAny_holding (wpAny_truthy_bool ?_));refine wpAny_bind (wpAny_letGo (wpAny_pure ?_));cases hb:bt (i + 1) (argBest bt i) with
   | true=>
    simp only [if_true];refine wpAny_bind ?_;refine wpAny_updateSeq hS' rfl (wpAny_bind (wpAny_letGo ?_));rw [hname];refine wpAny_pure ⟨plainId_quiet PySem.F.plain_min_loop _,ih (i + 1 + 1) _ #[v,v] _ (by omega) hlt (put _ rfl) (.inr ⟨v,i + 1,rfl,rfl,by simp only [argBest,hb,if_true];exact hP⟩) (Heap.get?_update_self _ hS' rfl) fun v' h'' tk'' hP' hk''=>?_⟩;exact hR v' h'' tk'' hP' fun b o hbw hbS e=>hk'' b o hbw hbS ((Heap.get?_update_other _ _ (Ne.symm hbS)).trans (hk' b o hbw e))
   | false=>
    simp only [Bool.false_eq_true,if_false];refine wpAny_bind (wpAny_letGo ?_);rw [hname];refine wpAny_pure ⟨plainId_quiet PySem.F.plain_min_loop _,ih (i + 1 + 1) _ #[vb,vb] c (by omega) hlt hst' (.inr ⟨vb,i + 1,rfl,rfl,by simp only [argBest,hb,Bool.false_eq_true,if_false];exact hPb⟩) hS' fun v' h'' tk'' hP' hk''=>?_⟩;exact hR v' h'' tk'' hP' fun b o hbw hbS e=>hk'' b o hbw hbS (hk' b o hbw e)
end
section
variable {prog:Program} {w:World} {A:Around} {E:Value→Shared→Prop} {s:Shared}
theorem xF (a d:Value):argsOk "min" ⟨[a],[(Str.ofString "default",d)]⟩:=by unfold argsOk;kernel_rfl
theorem ZD {l:Addr} {its:Array Value} {dv:Value} {Q:Value→Shared→Prop} (hh:A.handled=none) (hl:s.heap.IsList l its) (ks:List Int) (hk:its.size=ks.length) (hv:∀ (i:Nat) (v:Value),its[i]? = some v→∃ t,v=Value.int (ks.getD i 0) t)
  (hQ:∀ v h' tk,(ks=[]∧v=dv)∨(∃ m t,ks.min? = some m∧v=.int m t)→(∀ b o,s.heap.get? b=some o→h'.get? b=some o)→Q v { s with heap:=h',toks:=tk }) :
  wpAny (model prog w) A (call (.builtin "min") [.ref l] [(Str.ofString "default",dv)]) Q E s:=by
 have hname:(toString "min" ++ toString ".loop" : String) = "min.loop" := by decide
 have hlt:l < s.heap.objs.size:=by obtain ⟨_,e,_⟩:=hl;exact Heap.lt_size e
 refine wpAny_call (codeAny_call_builtin PySem.F.plain_min PySem.F.entry_min ?_);simp only [checkBuiltinCall,PySem.F.kind_min];have key:wpAny (model prog w) A.in1 (Builtin.«min» ⟨[.ref l],[(Str.ofString "default",dv)]⟩) (fun fin s'=>match fin with
   | .done f=>(match (Except.ok f:Result) with | .ok (.ret v)=>Q v s' | .ok _=>False | .error e=>E e s')
   | .again c'=>c'.quiet=true∧codeAny (model prog w) A c' (fun r s'=>match r with | .ok (.ret v)=>Q v s' | .ok _=>False | .error e=>E e s') s') E s:=by
  show wpAny _ A.in1 (Builtin.Builtins.bindParams "min" ["key","default"] 0 ⟨[],[(Str.ofString "default",dv)]⟩ >>= _) _ _ s;refine wpAny_bind (wpAny_of_eq (show Builtin.Builtins.bindParams "min" ["key","default"] 0 ⟨[],[(Str.ofString "default",dv)]⟩=pure [none,some dv] from rfl) ?_);refine wpAny_bind (wpAny_pure ?_);refine wpAny_bind (wpAny_pyIter_list hl ?_);refine wpAny_bind (wpAny_newObj_type ?_);rw [hname];have W:=Walks.list (prog:=prog) (w:=w) (A:=A.in1) hh s.heap.objs.size l (Nat.ne_of_lt hlt) its;have hz1:(s.heap.push { cls:=.type "list_iterator",data:=.fields #[.ref l,.int 0 0] }).objs.size=s.heap.objs.size + 1:=Heap.size_push ..;refine wpAny_pure ⟨plainId_quiet PySem.F.plain_min_loop _,gD W _ (CmpOf.ints_lt (fun i=>ks.getD i 0) fun i v h=>hv i v h) _ ?_ dv _ its.size 0 _ #[] _ rfl (Nat.zero_le _) ?_ (.inl ⟨rfl,rfl⟩) (Heap.get?_push_size _ rfl) fun v h' tk hP hk'=>?_⟩
  ·show (s.heap.push _).objs.size ∉ _;rw [hz1];simp only [List.mem_cons,List.not_mem_nil,or_false,not_or];exact ⟨Nat.succ_ne_self _,Ne.symm (Nat.ne_of_lt (Nat.lt_succ_of_lt hlt))⟩
  ·exact W.frame 0 (s.heap.push { cls:=.type "list_iterator",data:=.fields #[.ref l,.int 0 0] }) _ ⟨⟨_,Heap.get?_push_size _ rfl,rfl,rfl⟩,hl.push _⟩ fun b _ o e=>Heap.get?_push_of_some _ e
  ·refine hQ v h' tk ?_ fun b o e=>hk' b o (fun hm=>?_) ?_ (Heap.get?_push_of_some _ (Heap.get?_push_of_some _ e))
   ·rcases hP with ⟨h0,h1⟩ | ⟨h0,h1⟩
    ·exact .inl ⟨List.length_eq_zero_iff.mp (by omega),h1⟩
    ·obtain ⟨t,e⟩:=hv _ v h1;have hb:=argBest_lt (fun i=>ks.getD i 0) (its.size - 1);refine .inr ⟨_,t,?_,e⟩;rw [List.min?_eq_some_iff];have hi:argBest (fun i j=>decide (ks.getD i 0 < ks.getD j 0)) (its.size - 1) < ks.length:=by omega
     refine ⟨?_,fun b hb'=>?_⟩
     ·rw [List.getD_eq_getElem?_getD,List.getElem?_eq_getElem hi];exact List.getElem_mem hi
     ·obtain ⟨j,hj,rfl⟩:=List.getElem_of_mem hb';have:=hb.2 j (by omega);rw [List.getD_eq_getElem?_getD (i:=j),List.getElem?_eq_getElem hj] at this;exact this
   ·rw [List.mem_singleton.mp hm] at e;exact absurd (Heap.lt_size e) (Nat.lt_irrefl _)
   ·rw [hz1];exact Nat.ne_of_lt (Nat.lt_succ_of_lt (Heap.lt_size e))
 cases hsig:Manifest.signature? "min" with
 | none=>exact wpAny_pure key
 | some sig=>
  have ha:=xF (.ref l) dv;have ha':Bind.checkArgs "min" sig ⟨[.ref l],[(Str.ofString "default",dv)]⟩=pure ():=by simpa only [argsOk,hsig] using ha
  simp only [ha'];exact wpAny_pure key
end
section
variable {X:Cx}
noncomputable def QK (K:PySem.W.Frag) (ta:TA) (td:TE):TE:=fun σ H Q=>ta σ H fun vs H1=>td σ H1 fun y H2=>∃ l ks,vs=[.ref l]∧SqL K H2 l (List.map V.int ks)∧Q (match ks.min? with | some m=>.int m | none=>y) H2
theorem pJ {a d:Expr} {ta:TA} {td:TE} {p kp pos:Pos} (hc:X.calm=true) (hg:Gl X "min") (hm:X.mg "min"=none) (ha:PA X [a] ta) (hd:PE X d td)
  (he:∀ pos,backTo pos (starEach [a] X.env)=(false,eval a X.env) :: backTo pos (starEach [] X.env):=by intro _;rfl) (hpl:∀ pos,(backTo pos (starEach [a] X.env)).any (·.1)=false:=by intro _;rfl) :
  PE X (.Call (.Name "min" p) [a] [⟨some "default",d,kp⟩] pos) (QK X.K ta td):=by
 intro pins s σ H Q I h;refine wpAny_Call_Name_kw (wp I hg hm (show bootBuiltins "min"=some (.builtin "min") by decide +kernel) ?_);refine callWith_kw (id := "min") (thn (ha pos pins s σ H _ I h) fun us s1 hZ1=>?_) (he:=he pos) (hplain:=hpl pos);obtain ⟨vs,H1,I1,r1,q1⟩:=hZ1;refine kws_cons (thn (hd pins s1 σ H1 _ I1 q1) fun v s2 ⟨y,H2,I2,r2,q2⟩=>kws_nil ?_);obtain ⟨l,ks,rfl,hq,q⟩:=q2;cases r1 with
 | cons r rr=>
  cases rr;cases r;obtain ⟨its,rv,pl,hz⟩:=I2.list hq;have hl:=rv.length;rw [List.length_map] at hl;refine ZD (I2.ok.hd hc) pl.isList ks (by rw [List.size_toArray];omega) (fun i v hv=>?_) fun v' h' tk hv' hk=>⟨_,H2,I2.kept hk,?_,q⟩
  ·rw [List.getElem?_toArray] at hv;have hi:i < ks.length:=by have:=(List.getElem?_eq_some_iff.mp hv).1;omega
   obtain ⟨w,hw,rw'⟩:=rv.get (show (ks.map V.int)[i]? = some (.int ks[i]) by rw [List.getElem?_map,List.getElem?_eq_getElem hi];rfl);rw [hv] at hw;cases hw;rw [List.getD_eq_getElem?_getD,List.getElem?_eq_getElem hi];exact rw'
  ·rcases hv' with ⟨rfl,rfl⟩ | ⟨m,t,hm,rfl⟩
   ·exact r2
   ·rw [hm];exact ⟨t,rfl⟩
end
end L2
namespace L2
open PySem PySem.Spec PyProof.Rows
structure MJ (K:PySem.W.Frag) (C:Addr):Prop where
 x:Ks K C
 ha:PySem.W.findIn K (.ref C) "__class__"=some (some (.builtin "object.__class__"))
 hn:PySem.W.specialIn K (.builtin "object.__class__") "__get__"=some (some (.builtin "getset_descriptor.__get__"))
 htk:PySem.W.takesIn K (.builtin "object.__class__")=some true
 hm:PySem.W.mroIn K C (.type "object")=some true
section
variable {prog:Program} {w:World} {A:Around} {E:Value→Shared→Prop} {s:Shared} {K:PySem.W.Frag} {x C:Addr} {od:Obj} {dx:Addr} {vs:Array Value} {sl:Array (Option Value)}
theorem fK {Q:Option Value→Shared→Prop} (c:MJ K C) (KX:K.In s.heap) (J:PySem.W.InstAt s.heap x ⟨.ref C,some dx,.fields vs,sl⟩ C (some od)) (h:Q (some (.ref C)) { s with toks:=s.toks + 1 }) :
  wpAny (model prog w) A (getAttr? (.ref x) "__class__") Q E s:=by
 obtain ⟨cd,hc,hd'⟩:=PySem.W.any_some c.x.hd;obtain ⟨cd',hc',hov⟩:=PySem.W.any_some c.x.ov;rw [hc] at hc';cases hc';have hf:PySem.W.findObj K C (some od) "__class__"=some (.bind (.builtin "getset_descriptor.__get__") (.builtin "object.__class__")):=PySem.W.findObj_data (by rw [hc];rfl) c.ha c.hn c.htk;have hm:=c.hm;have ga:=c.x.ga;have gt:=c.x.gt;obtain ⟨hp,g,d,t,os⟩:=s;have L0:=J.type (M:=model prog w);have L1:=PySem.W.looks_findIn (M:=model prog w) KX ga;have L2:=PySem.W.looks_findIn (M:=model prog w) KX gt;have L3:=PySem.W.looks_find (M:=model prog w) KX J hf;have FB:=PySem.F.excAttr_ValueError;have f3:=FB.ga.bind (.ref x);have hx2:(Value.builtin "BaseException.__getattribute__" == Value.builtin "object.__getattribute__")=false:=by decide +kernel
 have hx1:(onTheHeap (Value.ref C) && Value.builtin "BaseException.__getattribute__" == Value.builtin "object.__getattribute__")=false:=by rw [hx2];rfl
 unfold getAttr? getAttrBy? getAttrBy;refine wpAny_bind (wpAny_mkText (wpAny_bind (wpAny_attempt (wpAny_holding (wpAny_bind (L0.at (wpAny_bind (L1.at ?_))))))));dsimp only;rw [if_neg (by rw [hx1];decide)];unfold getAttrByItsOwn
 repeat (any_goals (first | assumption | with_reducible refine PySem.W.Looks.at (by assumption) ?_ | wp_step))
 have ne:cd.mro.isEmpty=false:=by
  cases q:cd.mro with
  | nil=>rw [q] at hov;cases hov
  | cons _ _=>rfl
 have sub:PySem.W.Looks (model prog w) hp (isInstance (.ref x) (.type "BaseException")) true:=
  L0.andThen (PySem.W.looks_mroIn KX (by unfold PySem.W.mroIn;rw [hc,Option.bind_some,if_neg (by rw [ne];decide),An "BaseException" (by decide) hov]))
 refine codeAny_call_builtin FB.ga.plain PySem.F.entry_bexc_ga (@PySem.W.check_slot (model prog w) _ _ ⟨hp,g,d,t + 1,os⟩ "BaseException.__getattribute__" "BaseException" "__getattribute__" (.ref x) [.str "__class__" t] [] _ (by decide +kernel) (by decide +kernel) sub (PySem.F.args_bexc_ga (.ref x) (.str "__class__" t)) ?_);unfold Builtin.«object.__getattribute__»
 repeat (any_goals (first | assumption | with_reducible refine PySem.W.Looks.at (by assumption) ?_ | wp_step))
 refine PySem.W.class_get (s:=⟨hp,g,d,t + 1,os⟩) (ox:=⟨.ref C,some dx,.fields vs,sl⟩) (od:=some od) KX J hm ?_;refine wpAny_pure ?_;show wpAny _ _ (handedOut (.ref C)) _ _ _;exact PySem.W.handed_on rfl (wpAny_pure h)
theorem tH (c:MJ K C):PySem.W.KitX K (.ref x) (.ref C) (fun h=>∃ dx vs sl od,PySem.W.InstAt h x ⟨.ref C,some dx,.fields vs,sl⟩ C (some od)) where
 ty:=fun _ _ _ ⟨_,_,_,_,I⟩=>I.type
 it:=fun _ _ X _=>by
  obtain ⟨cdD,hcD,_⟩:=PySem.W.any_some c.x.hd;unfold PySem.W.clsIn at hcD;split at hcD
  ·rename_i c' d' cd' sl' ho;intro A' Q' E' s' k q;unfold isType loadHead;exact wpAny_bind (wpAny_loadPart (k _ _ (X _ _ ho)) (wpAny_pure q))
  ·cases hcD
 ne:=fun h tp dd its n sl X htp=>by
  obtain ⟨cdD,hcD,_⟩:=PySem.W.any_some c.x.hd;refine Bool.eq_false_iff.mpr fun q=>?_
  have e:C=tp:=Value.ref.inj (beq_iff_eq.mp q);subst e;unfold PySem.W.clsIn at hcD;split at hcD
  ·rename_i c' d' cd' sl' ho;have z:=(X _ _ ho).symm.trans htp;cases z
  ·cases hcD
 ca:=fun X ⟨_,_,_,_,I⟩ k=>fK c X I k
end
theorem LK {X:Cx} {pins:List (Addr × Obj)} {σ:St} {H:Hp} {s:Shared} {x C dx:Addr} {fs:List (Str × V)} (I:Inv X pins σ H s) (e:H x=some (.ext (XA x C (some dx)))) (ed:H dx=some (.ext (XD dx fs))) :
  ∃ dx vs sl od,PySem.W.InstAt s.heap x ⟨.ref C,some dx,.fields vs,sl⟩ C (some od):=by
 obtain ⟨vs,sl,hx,_⟩:=(show Xd X.prog X.w H s.heap x (.ext (XA x C (some dx))) from I.hok _ _ e).1;obtain ⟨mA,n1,r,wi⟩:=(show Xd X.prog X.w H s.heap dx (.ext (XD dx fs)) from I.hok _ _ ed).1;obtain ⟨od,ho,hlk⟩:=bo n1;exact ⟨dx,vs,sl,od,hx,rfl,rfl,ho⟩
theorem Wf {X:Cx}:Al X (.builtin "isinstance") (fun xs H Q=>∃ x C dx fs D b,xs=[.ref x,.ref D]∧H x=some (.ext (XA x C (some dx)))∧H dx=some (.ext (XD dx fs))∧MJ X.K C∧PySem.W.kitOne X.K (.ref C) (.ref D)=some b∧Q (.bl b) H):=by
 intro pins s σ H xs us Q I r h;obtain ⟨x,C,dx,fs,D,b,rfl,e,ed,c,hk,q⟩:=h;obtain ⟨u,u2,rfl,rx,r2⟩:=IH r;cases (show u=Value.ref x from rx);cases (show u2=Value.ref D from r2);exact PySem.W.kia_one (tH c) I.kIn (LK I e ed) hk (fun z=>nomatch z) fun tk=>⟨.bl b,H,I.tok _,rfl,q⟩
section
variable {X:Cx}
end
theorem Kb.quiet {P:Program} {w:World} {K:PySem.W.Frag} {mg:Str→Option Value} {base:Heap} {k:Nat} {f:Addr} {fd:FuncData} {ps:List Str} {sp sp':Sp} (F:Kb P w K mg base (CX1 P w) k f fd ps sp)
  (h:∀ vs H Q E,sp' vs H Q E→sp vs H Q (fun _ _ _=>False)):Kb P w K mg base CX0 k f fd ps sp':=by
 refine ⟨fun vs H Q E q=>F.len vs H _ _ (h vs H Q E q),fun A outer s H args us vs Q E hr he hb hv hs=>?_⟩;refine codeAny_mono (F.run A outer s H args us vs Q _ hr he hb hv (h vs H Q E hs)) fun r s' hq=>?_
 cases r with
 | error e=>
  obtain ⟨x,C,od,H',T,_,_,_,_,_,_,_,_,_,z⟩:=hq;exact z.elim
 | ok fl=>cases fl <;> exact hq
end L2
namespace L2
open PySem PySem.Spec PyProof.Rows
structure Mn (k:Nat) (A:Around):Prop where
 dp:A.depth + 3 * k + 5 < recursionLimit
 un:A.units + 16 * k + 200 < cLine
theorem Ni.h {k:Nat} {A:Around} (r:Ni k A):Mn k A:=⟨r.dp,r.un⟩
theorem Mn.mono {j k:Nat} {A:Around} (r:Mn k A) (h:j ≤ k):Mn j A:=⟨by have:=r.dp;omega,by have:=r.un;omega⟩
theorem Mn.deeper {k:Nat} {A:Around} (r:Mn (k + 1) A) (env:Env):Mn k (A.deeper env):=
 ⟨by have:=r.dp;show A.depth + 1 + 3 * k + 5 < _;omega,by have:=r.un;show A.units + 3 + 16 * k + 200 < _;omega⟩
theorem Mn.depth {k:Nat} {A:Around} (r:Mn k A):A.depth < recursionLimit:=by have:=r.dp;omega
theorem Mn.units {k:Nat} {A:Around} (r:Mn k A):A.units + 64 < cLine:=by have:=r.un;omega
theorem Ni.hn {k:Nat} {X:Cx} {e:Value} (r:Ni k X.A):Mn k (X.hn e).A:=⟨r.dp,r.un⟩
structure iK (P:Program) (w:World) (K:PySem.W.Frag) (mg:Str→Option Value) (base:Heap) (CX:CXT) (k:Nat) (f:Addr) (fd:FuncData) (ps:List Str) (sp:Sp):Prop where
 len:∀ vs H Q E,sp vs H Q E→vs.length=ps.length
 run:∀ (A:Around) (outer:List Env) (s:Shared) (H:Hp) (args:Args) (us:List Value) (vs:List V) (Q:VK) (E:XK),Mn k A→NB P w K mg base A outer s H→BindsTo s fd args (ps.zip us)→Dd vs us→sp vs H Q E →
  codeAny (model P w) A (.call (.ref f) args) (CR CX outer P w H s Q E) s
theorem iK.mono {P:Program} {w:World} {K:PySem.W.Frag} {mg:Str→Option Value} {base:Heap} {CX:CXT} {j k:Nat} {f:Addr} {fd:FuncData} {ps:List Str} {sp:Sp} (F:iK P w K mg base CX j f fd ps sp) (h:j ≤ k) :
  iK P w K mg base CX k f fd ps sp:=⟨F.len,fun A outer s H args us vs Q E hr=>F.run A outer s H args us vs Q E (hr.mono h)⟩
section
variable {X:Cx} {CX:CXT} {k:Nat} {f C:Addr} {fd:FuncData} {ps:List Str} {sp:Sp} {dvs:List V} {ds:List Value} {E:XK} {x m:Str} {p pos apos:Pos} {e o:Expr} {es:List Expr} {ta:TE} {t:TA}
end
noncomputable def mz (CX:CXT) (P:Program) (w:World) (K:PySem.W.Frag) (mg:Str→Option Value) (base:Heap) (N:List Str) (qual:Str) (scope:Scope) (f:Addr) (cd:Value) (A:Around) (outer:List Env) (s:Shared) (H:Hp) (E:XK):Cx where
 prog:=P
 w:=w
 K:=K
 mg:=mg
 base:=base
 A:=A.deeper (envOfC qual scope s.heap.objs.size f cd)
 N:=N
 s₀:=s
 H₀:=H
 env:=envOfC qual scope s.heap.objs.size f cd
 outer:=outer
 stack:=envOfC qual scope s.heap.objs.size f cd :: outer
 ex:=[]
 calm:=false
 fn:=fun _=>true
 pn:=[]
 xe:=fun e s'=>wpAny (model P w) (A.deeper (envOfC qual scope s.heap.objs.size f cd)) (leaving (envOfC qual scope s.heap.objs.size f cd) e) (fun _ s''=>CX outer H s E e s'') (fun e' s''=>CX outer H s E e' s'') s'
theorem DC {CX:CXT} {P:Program} {w:World} {K:PySem.W.Frag} {mg:Str→Option Value} {base:Heap} {N ps:List Str} {qual:Str} {scope:Scope} {f:Addr} {cd:Value} {A:Around} {outer:List Env} {s s1:Shared} {H:Hp} {E:XK} {us:List Value} {vs:List V}
  (S:Cb N ps scope) (e0:NB P w K mg base A outer s H) (hl:vs.length=ps.length) (r:Dd vs us)
  (x:InCallC s s.heap.objs.size (bindL (envOfC qual scope s.heap.objs.size f cd).kindOf (ps.zip us) fun _=>none) (cellsFrom (s.heap.objs.size + 1) scope.names []) (bindC (envOfC qual scope s.heap.objs.size f cd).kindOf (ps.zip us) fun _=>none) s1) :
  Inv (mz CX P w K mg base N qual scope f cd A outer s H E) [] (start N vs) H s1:=by
 have hpl:ps.length ≤ N.length:=by have:=congrArg List.length S.pre;rw [List.length_take] at this;omega
 obtain ⟨h1,tk,rfl,hk⟩:=x.done;have noA:∀ b:Addr,b ∉ (mz CX P w K mg base N qual scope f cd A outer s H E).ex:=fun b z=>absurd (show b ∈ ([]:List Addr) from z) (by simp)
 refine ⟨⟨e0.mod,S.kind,rfl,rfl,Nat.le_refl _,fun y z c h1 h2=>?_,fun y hy=>?_,fun y c _ h=>?_,fun z=>absurd (show false=true from z) (by decide),Around.frames_deeper e0.frames,.inr ⟨rfl,rfl⟩,fun b z=>absurd z (noA b),e0.bs,e0.bsz,fun b _ _=>noA b,fun b z=>absurd z (noA b),e0.funs,e0.frf⟩,
  rfl,e0.bare,Un.kept hk,⟨_,x.toInCall.ns,fun i y v h1 h2 h3=>?_⟩,fun y c h=>⟨_,x.cell y c h⟩,e0.hok.fresh (Nat.le_refl _),fun y c h=>?_,fun p hp=>absurd (show p ∈ ([]:List (Addr × Obj)) from hp) (by simp),e0.hok.kept hk,?_⟩
 ·exact name_of_addr x.apart (PySem.mem_of_lookup h1) (PySem.mem_of_lookup h2)
 ·have hy:scope.names.lookup y=some .cell∨scope.names.lookup y=some .free:=hy;rcases hy with hy | hy
  ·exact pq hy
  ·exact absurd rfl (S.nofree _ (PySem.mem_of_lookup hy))
 ·exact Nat.le_of_lt (x.above y c (PySem.mem_of_lookup h))
 ·have hi:i < vs.length:=by
   unfold start at h2;by_cases hi:i < vs.length
   ·exact hi
   ·rw [List.getElem?_append_right (by simpa using hi)] at h2;rw [List.getElem?_replicate] at h2;split at h2 <;> cases h2
  have ha:vs[i]? = some v:=by
   unfold start at h2;rw [List.getElem?_append_left (by simpa using hi),List.getElem?_map] at h2;cases e:vs[i]? with
   | none=>rw [e] at h2;cases h2
   | some a=>rw [e] at h2;cases h2;rfl
  obtain ⟨u,hu,rv⟩:=r.get ha;have hp:ps[i]? = some y:=by
   rw [← S.pre,List.getElem?_take_of_lt (by omega)];exact h1
  have ndP:ps.Nodup:=by rw [← S.pre];exact S.nd.sublist (List.take_sublist _ _)
  refine ⟨u,rv,?_⟩;rcases S.par y (List.mem_of_getElem? hp) with k | k
  ·exact .inl ⟨k,Qr ndP hp hu k⟩
  ·obtain ⟨c,e⟩:=pq (n:=s.heap.objs.size + 1) k;refine .inr ⟨.inl k,c,e,?_⟩;have q:=x.cell y c e;rw [Cs ndP hp hu (by show scope.names.lookup y ≠ _;rw [k];decide)] at q;exact q
 ·exact e0.hok.fresh (Nat.le_of_lt (x.above y c (PySem.mem_of_lookup h)))
 ·unfold start;show _=N.length;rw [List.length_append,List.length_map,List.length_replicate];omega
section
variable {P:Program} {w:World} {K:PySem.W.Frag} {mg:Str→Option Value} {base:Heap}
end
end L2
namespace L2
open PySem PySem.Spec PyProof.Rows
section
variable {X:Cx}
end
end L2
namespace L2
open PySem PySem.Spec PyProof.Rows
section
variable {α:Type} {M:List α→Prop}
theorem us1 (h:∀ a,M [a]):∀ us:List α,us.length=1→M us | [a],_=>h a
theorem us2 (h:∀ a b,M [a,b]):∀ us:List α,us.length=2→M us | [a,b],_=>h a b
theorem us3 (h:∀ a b c,M [a,b,c]):∀ us:List α,us.length=3→M us | [a,b,c],_=>h a b c
theorem us4 (h:∀ a b c d,M [a,b,c,d]):∀ us:List α,us.length=4→M us | [a,b,c,d],_=>h a b c d
theorem us5 (h:∀ a b c d e,M [a,b,c,d,e]):∀ us:List α,us.length=5→M us | [a,b,c,d,e],_=>h a b c d e
theorem us7 (h:∀ a b c d e f g,M [a,b,c,d,e,f,g]):∀ us:List α,us.length=7→M us | [a,b,c,d,e,f,g],_=>h a b c d e f g
theorem us8 (h:∀ a b c d e f g i,M [a,b,c,d,e,f,g,i]):∀ us:List α,us.length=8→M us | [a,b,c,d,e,f,g,i],_=>h a b c d e f g i
end
structure XB (K:PySem.W.Frag) (C:Addr):Prop where
 hd:PySem.W.hasDictIn K C=true
 ov:((PySem.W.clsIn K C).any fun cd=>JF cd.mro)=true
 sa:PySem.W.findIn K (.ref C) "__setattr__"=some (some (.builtin "object.__setattr__"))
 ga:PySem.W.findIn K (.ref C) "__getattribute__"=some (some (.builtin "BaseException.__getattribute__"))
 gt:PySem.W.findIn K (.ref C) "__getattr__"=some none
theorem Zu {K:PySem.W.Frag} {C f:Addr} (b:XB K C) (m:MkX K C f):Ks K C:=⟨b.hd,b.ov,b.sa,b.ga,b.gt,_,m.e⟩
structure IB (K:PySem.W.Frag) (C:Addr):Prop where
 ha:PySem.W.findIn K (.ref C) "__class__"=some (some (.builtin "object.__class__"))
 hn:PySem.W.specialIn K (.builtin "object.__class__") "__get__"=some (some (.builtin "getset_descriptor.__get__"))
 htk:PySem.W.takesIn K (.builtin "object.__class__")=some true
 hm:PySem.W.mroIn K C (.type "object")=some true
theorem sE {K:PySem.W.Frag} {C:Addr} (x:Ks K C) (b:IB K C):MJ K C:=⟨x,b.ha,b.hn,b.htk,b.hm⟩
theorem lM {K:PySem.W.Frag} {C f:Addr} (i:PySem.W.isFn K (.ref f)=true) (e:Iu K C f=true) (k:PySem.W.keepIn K (.ref C)=true):MkX K C f:=⟨e,beq_iff_eq.mp i,k⟩
end L2
namespace L2
open PySem PySem.Spec PyProof.Rows
theorem GB {ks:List Int}:∀ {its:List Value},Dd (ks.map V.int) its→∃ xs:List (Int × Tok),its=xs.map (fun p=>Value.int p.1 p.2)∧xs.map (·.1)=ks:=by
 induction ks with
 | nil=>intro its r;cases r;exact ⟨[],rfl,rfl⟩
 | cons k ks ih=>
  intro its r;cases r with
  | cons h t=>
   obtain ⟨xs,e1,e2⟩:=ih t;obtain ⟨tk,rfl⟩:=(show ∃ t,_=Value.int k t from h);exact ⟨(k,tk) :: xs,by rw [List.map_cons,← e1],by rw [List.map_cons,e2]⟩
section
variable {X:Cx}
end
end L2
namespace L2
open PySem PySem.Spec PyProof.Rows
noncomputable def PL (p d:Addr):Heap→Prop:=fun h=>PySem.W.KdlKeysView h p d
noncomputable def lN (p d:Addr):Heap→Prop:=fun h=>h.IsValuesView p d
theorem PL.ok {P:Program} {w:World} {H:Hp} {h:Heap} {p d:Addr} (z:PL p d h):Xd P w H h p (.ext (PL p d)):=
 ⟨z,let ⟨o,ho,_⟩:=z;⟨o,ho⟩,fun _ _ z1 k=>let ⟨o,ho,x⟩:=z1;⟨o,k o ho,x⟩⟩
theorem lN.ok {P:Program} {w:World} {H:Hp} {h:Heap} {p d:Addr} (z:lN p d h):Xd P w H h p (.ext (lN p d)):=
 ⟨z,let ⟨o,ho,_⟩:=z;⟨o,ho⟩,fun _ _ z1 k=>let ⟨o,ho,x⟩:=z1;⟨o,k o ho,x⟩⟩
section
variable {X:Cx}
noncomputable def Ts:V→List V→Hp→VK→Prop:=fun x vs H Q=>∃ d kvs,x=.ref d∧vs=[]∧H d=some (.dK kvs)∧∀ p,H p=none→Q (.ref p) (upd H p (.ext (PL p d)))
end
end L2
namespace L2
open PySem PySem.Spec PyProof.Rows
noncomputable abbrev TF:=St→Hp→Str→(Str→Hp→Prop)→Prop
noncomputable def PF (X:Cx) (es:List Expr) (t:TF):Prop:=
 ∀ (pins:List (Addr × Obj)) (s:Shared) (σ:St) (H:Hp) (Q:Str→Hp→Prop) (acc:Str) (R:Str→Shared→Prop),Inv X pins σ H s→t σ H acc Q →
  (∀ out H' s',Inv X pins σ H' s'→out.length ≤ sizeLine→Q out H'→R out s')→Joins (model X.prog X.w) X.A X.xe (evalEach es X.env) acc R s
noncomputable def tF0:TF:=fun _ H acc Q=>acc.length ≤ sizeLine∧Q acc H
noncomputable def tFC (c:Str) (t:TF):TF:=fun σ H acc Q=>acc.length + c.length ≤ sizeLine∧t σ H (acc ++ c) Q
noncomputable def tFI (te:TE) (t:TF):TF:=fun σ H acc Q=>te σ H fun v H1=>∃ i,v=.int i∧i.natAbs.log2 < 1920∧acc.length + (Str.ofString (toString i)).length ≤ sizeLine∧t σ H1 (acc ++ Str.ofString (toString i)) Q
noncomputable def tFS (te:TE) (t:TF):TF:=fun σ H acc Q=>te σ H fun v H1=>∃ x,v=.str x∧x.length ≤ 1000∧acc.length + x.length ≤ sizeLine∧t σ H1 (acc ++ x) Q
noncomputable def CI (t:TF):TE:=fun σ H Q=>t σ H Str.empty fun y H1=>Q (.str y) H1
section
variable {X:Cx} {e:Expr} {es:List Expr} {t:TF} {te:TE} {pos:Pos}
theorem KI:PF X [] tF0:=fun pins s σ H Q acc R I q h=>h acc H s I q.1 q.2
theorem Kq {c:Str} {k:Nat} (h:PF X es t):PF X (.Constant (.str c) k pos :: es) (tFC c t):=fun pins s σ H Q acc R I q hR=>by
 show wpAny _ _ _ _ _ _;exact Calls.Constant_str ⟨c,_,rfl,by rw [strLen_append];exact q.1,h pins _ σ H Q _ R (I.tok _) q.2 hR⟩
theorem aF (he:PE X e te) (h:PF X es t):PF X (.FormattedValue e (-1) none pos :: es) (tFI te t):=fun pins s σ H Q acc R I q hR=>by
 show wpAny _ _ _ _ _ _;refine wpAny_FormattedValue_plain (thn (he pins s σ H _ I q) fun u s1 hZ1=>?_);obtain ⟨v,H1,I1,r,i,ev,hi,hz,q1⟩:=hZ1;subst ev;obtain ⟨tk,rfl⟩:=(show ∃ tk,u=Value.int i tk from r);exact wpAny_formatField_int hi ⟨_,_,rfl,by rw [strLen_append];exact hz,h pins _ σ H1 Q _ R (I1.tok _) q1 hR⟩
theorem KM (he:PE X e te) (h:PF X es t):PF X (.FormattedValue e (-1) none pos :: es) (tFS te t):=fun pins s σ H Q acc R I q hR=>by
 show wpAny _ _ _ _ _ _;refine wpAny_FormattedValue_plain (thn (he pins s σ H _ I q) fun u s1 hZ1=>?_);obtain ⟨v,H1,I1,r,x,ev,hx,hz,q1⟩:=hZ1;subst ev;obtain ⟨tk,rfl⟩:=(show ∃ tk,u=Value.str x tk from r);exact formatField_str (fun t' tk'=>⟨x,_,rfl,by rw [strLen_append];exact hz,h pins _ σ H1 Q _ R (I1.tok _) q1 hR⟩) (by rw [sizeLine_eq];omega)
theorem Nz {e2:Expr} (h:PF X (e :: e2 :: es) t):PE X (.JoinedStr (e :: e2 :: es) pos) (CI t):=by
 intro pins s σ H Q I q;refine wpAny_JoinedStr (h pins s σ H _ _ _ I q fun out H' s' I' hl q'=>⟨hl,?_⟩);exact ⟨.str out,H',I'.tok _,⟨_,rfl⟩,q'⟩
end
end L2
namespace L2
open PySem PySem.Spec PyProof.Rows
noncomputable def LN (p:Addr) (a b c:Int):Heap→Prop:=fun h=>∃ t u v,IsRange h p a b c t u v
theorem LN.ok {P:Program} {w:World} {H:Hp} {h:Heap} {p:Addr} {a b c:Int} (z:LN p a b c h):Xd P w H h p (.ext (LN p a b c)):=
 ⟨z,let ⟨_,_,_,e⟩:=z;⟨_,e⟩,fun _ _ z1 k=>let ⟨t,u,v,e⟩:=z1;⟨t,u,v,k _ e⟩⟩
section
variable {X:Cx}
end
end L2
namespace L2
open PySem PySem.Spec PyProof.Rows
noncomputable def AO (c:Addr) (qual:Str):Heap→Prop:=fun h=>h.CodeRec (.ref c) qual
noncomputable def Tab (H:Hp) (Pt:Addr) (pos:Pos) (qual:Str):Prop:=
 ∃ ps,H Pt=some (.tbl ps)∧(ps=#[]∨∃ c',ps=#[rawInt pos.line,rawInt pos.col,.ref c']∧H c'=some (.ext (AO c' qual)))
noncomputable def Kw (Pt:Addr) (H H':Hp):Prop:=∀ b o,b ≠ Pt→H b=some o→H' b=some o
theorem Kw.refl (Pt:Addr) (H:Hp):Kw Pt H H:=fun _ _ _ h=>h
theorem Kw.trans {Pt:Addr} {H H1 H2:Hp} (a:Kw Pt H H1) (b:Kw Pt H1 H2):Kw Pt H H2:=fun c o n h=>b c o n (a c o n h)
theorem dc.p {Pt:Addr} {H H':Hp} (s:dc H H'):Kw Pt H H':=fun b o _ h=>s b o h
theorem Tab.ne {H:Hp} {Pt b:Addr} {pos:Pos} {qual:Str} {o:HO} (t:Tab H Pt pos qual) (h:H b=some o) (ho:∀ ps,o ≠ .tbl ps):b ≠ Pt:=fun e=>by
 obtain ⟨ps,e1,_⟩:=t;subst e;rw [e1] at h;exact ho ps (Option.some.inj h).symm
theorem Tab.step {H H':Hp} {Pt:Addr} {pos:Pos} {qual:Str} (t:Tab H Pt pos qual) (s:dc H H'):Tab H' Pt pos qual:=by
 obtain ⟨ps,e,d⟩:=t;refine ⟨ps,s _ _ e,?_⟩;rcases d with d | ⟨c',d,e'⟩
 ·exact .inl d
 ·exact .inr ⟨c',d,s _ _ e'⟩
structure RO (X:Cx) (c Pt:Addr):Prop where
 code:X.env.code=.ref c
 hd:PySem.W.CodeHd X.base c Pt
 bm:X.base.BuiltinsAt X.mg Pt
section
variable {X:Cx} {pins:List (Addr × Obj)} {σ:St} {H:Hp} {s:Shared} {params:Arguments} {body:Expr} {scope:Scope} {pos:Pos} {c Pt:Addr} {clos:List (Str × Addr)} {Q:Value→Shared→Prop}
end
section
variable {P:Program} {w:World} {K:PySem.W.Frag} {mg:Str→Option Value} {base:Heap}
end
structure SO (p y:Str) (sc:Scope):Prop where
 kind:sc.kind=.function
 co:sc.isCoroutine=false
 gen:sc.isGenerator=false
 ne:p ≠ y
 par:sc.names.lookup p=some .local
 yf:sc.names.lookup y=some .free
 nocell:∀ z ∈ sc.names,z.2 ≠ .cell
 one:∀ z ∈ sc.names,z.2=.free→z.1=y
section
variable {X:Cx} {pins:List (Addr × Obj)} {σ:St} {H:Hp} {s:Shared} {k:Nat} {f c' cl:Addr} {q p y:Str} {params:Arguments} {body:Expr} {scope:Scope} {v:V} {t:TE}
end
end L2
namespace L2
open PySem PySem.Spec PyProof.Rows
end L2
namespace L2
open PySem PySem.Spec PyProof.Rows
section
variable {P:Program} {w:World} {A:Around} {E:Value→Shared→Prop} {s:Shared}
structure QO (h:Heap) (d:Addr) (o:Obj) (es:Array DictEntry) (ep:Nat):Prop where
 at_:h.get? d=some o
 ex:o.ExactDict
 dat:o.data=.dict es ep
end
noncomputable def AtO (a:Addr) (o:Obj):Heap→Prop:=fun h=>h.get? a=some o
structure OO (P:Program) (w:World) (H:Hp) (a:Addr) (kvs:List (List Key × V)) (o:Obj) (es:Array DictEntry) (ep:Nat) (xs:List (List Key × Addr × Value)):Prop where
 at_:H a=some (.ext (AtO a o))
 ex:o.ExactDict
 dat:o.data=.dict es ep
 ent:es.toList=xs.map (entryOfKey (tupleKind (ig P w)))
 nd:(xs.map (·.1)).Nodup
 ks:Paired (fun (p:List Key × V) (q:List Key × Addr × Value)=>p.1=q.1∧H q.2.1=some (.tup (p.1.map kV))∧Jd p.2 q.2.2) kvs xs
 sz:kvs.length ≤ sizeLine
 ns:(a == sysModules)=false
section
variable {P:Program} {w:World} {H H':Hp} {h:Heap} {a:Addr} {kvs:List (List Key × V)}
end
section
variable {X:Cx} {pins:List (Addr × Obj)} {σ:St} {H:Hp} {s:Shared} {a b:Addr} {kvs:List (List Key × V)} {k:List Key} {v:V} {r:Value} {A:Around} {E:Value→Shared→Prop}
end
section
variable {X:Cx} {o i e value:Expr} {pos pos' tpos:Pos} {td ty tv:TE}
end
section
variable {X:Cx} {tg:Expr}
end
end L2
namespace L2
open PySem PySem.Spec PyProof.Rows
noncomputable def dN (p d:Addr):Heap→Prop:=fun h=>h.IsItemsView p d
theorem dN.ok {P:Program} {w:World} {H:Hp} {h:Heap} {p d:Addr} (z:dN p d h):Xd P w H h p (.ext (dN p d)):=
 ⟨z,let ⟨o,ho,_⟩:=z;⟨o,ho⟩,fun _ _ z1 k=>let ⟨o,ho,x⟩:=z1;⟨o,k o ho,x⟩⟩
structure fN (H H':Hp) (l:Addr) (as:List Addr) (kvs:List (Key × V)):Prop where
 same:∀ b o,H b=some o→H' b=some o
 fresh:H l=none
 frAll:∀ a ∈ as,H a=none
 at_:H' l=some (.lst (as.map V.ref))
 len:as.length=kvs.length
 al:∀ (j:Nat) (a:Addr) (q:Key × V),as[j]? = some a→kvs[j]? = some q→H' a=some (.tup [kV q.1,q.2])
 only:∀ b o,H' b=some o→H b=some o∨o=.lst (as.map V.ref)∨∃ q ∈ kvs,o=.tup [kV q.1,q.2]
section
variable {X:Cx}
end
end L2
namespace L2
open PySem PySem.Spec PyProof.Rows
section
open AutoSeq1 (wpAny_loadPart')
open MeetsSeq MeetsSeq2 MeetsSeq3 SeqRoads2
variable {P:Program} {w:World} {l b:Addr} {xs ys:Array Value} {n m:Nat} {dd de:Option Addr} {sl sm:Array (Option Value)}
end
section
variable {X:Cx} {pins:List (Addr × Obj)} {σ:St} {H:Hp} {s:Shared}
structure DL (H:Hp) (p:Addr) (ps:List Addr) (ks:List (List (Key × V))):Prop where
 at_:H p=some (.lst (ps.map V.ref))
 len:ps.length=ks.length
 al:∀ (j:Nat) (a:Addr) (kvs:List (Key × V)),ps[j]? = some a→ks[j]? = some kvs→H a=some (.dK kvs)
end
section
variable {X:Cx}
end
end L2
namespace L2
open PySem PySem.Spec PyProof.Rows
section
variable {X:Cx} {pins:List (Addr × Obj)} {σ:St} {H:Hp} {s:Shared} {d:Addr} {o:Obj} {kvs:List (Key × V)}
end
section
variable {X:Cx} {tg:Expr}
end
end L2
namespace L2
open PySem PySem.Spec PyProof.Rows
structure WM (X:Cx) (pins:List (Addr × Obj)) (H:Hp) (S:Addr):Prop where
 nn:H S=none
 nl:S ≠ X.env.locals
 ge:X.s₀.heap.objs.size ≤ S
 nc:∀ x c,X.env.cells.lookup x=some c→c ≠ S
 np:∀ p ∈ X.pn ++ pins,p.1 ≠ S
 nf:S ∉ X.fs
theorem WM.of {X:Cx} {pins:List (Addr × Obj)} {σ:St} {H:Hp} {s:Shared} {S:Addr} (I:Inv X pins σ H s) (h:s.heap.objs.size ≤ S):WM X pins H S:=
 ⟨I.hok.fresh h,fun z=>absurd (Nat.lt_of_lt_of_le I.lt h) (by rw [z];exact Nat.lt_irrefl _),Nat.le_trans I.sz h,fun x c e z=>by
  obtain ⟨v,o,ho,_⟩:=I.cell x c e;exact absurd (Nat.lt_of_lt_of_le (Heap.lt_size ho) h) (by rw [z];exact Nat.lt_irrefl _),fun p hp z=>by
  have ho:=(I.pin p hp).1;exact absurd (Nat.lt_of_lt_of_le (Heap.lt_size ho) h) (by rw [z];exact Nat.lt_irrefl _),I.nofs h⟩
theorem WM.turn {X:Cx} {pins:List (Addr × Obj)} {σ:St} {H:Hp} {s:Shared} {S:Addr} {h':Heap} {t':Nat} (o:WM X pins H S) (I:Inv X pins σ H s) (k:∀ b o,b ≠ S→s.heap.get? b=some o→h'.get? b=some o):Inv X pins σ H { s with heap:=h',toks:=t' }:=
 I.turned k o.nn o.nl (.inr o.ge) o.nc o.np
section
variable {X:Cx} {A:Around} {pins:List (Addr × Obj)} {σ:St} {H:Hp} {l q I S:Addr} {n:Nat} {P:Nat→Value→Prop} {R:Result→Shared→Prop}
end
end L2
namespace L2
open PySem PySem.Spec PyProof.Rows
structure BO (p y z:Str) (sc:Scope):Prop where
 kind:sc.kind=.function
 co:sc.isCoroutine=false
 gen:sc.isGenerator=false
 ne:y ≠ z
 par:sc.names.lookup p=some .local
 yf:sc.names.lookup y=some .free
 zf:sc.names.lookup z=some .free
 nocell:∀ z ∈ sc.names,z.2 ≠ .cell
 two:∀ b ∈ sc.names,b.2=.free→b.1=y∨b.1=z
section
variable {X:Cx} {A:Around} {pins:List (Addr × Obj)} {σ:St} {H:Hp} {s:Shared} {k:Nat} {f c' c1 c2:Addr} {q p y z:Str} {params:Arguments} {body:Expr} {scope:Scope} {v1 v2:V} {t:TE}
end
end L2
namespace L2
open PySem PySem.Spec PyProof.Rows
theorem SqL.p {K:PySem.W.Frag} {H H':Hp} {a Pt:Addr} {xs:List V} {pos:Pos} {q:Str} (s:Kw Pt H H') (t:Tab H Pt pos q) (h:SqL K H a xs):SqL K H' a xs:=by
 rcases h with (h | ⟨o,h⟩) | h
 ·exact .inl (.inl (s _ _ (t.ne h (fun _ z=>by cases z)) h))
 ·exact .inl (.inr ⟨o,s _ _ (t.ne h (fun _ z=>by cases z)) h⟩)
 ·exact .inr h
end L2
namespace L2
open PySem PySem.Spec PyProof.Rows
end L2
namespace L2
open PySem PySem.Spec PyProof.Rows
end L2
namespace L2
open PySem PySem.Spec PyProof.Rows
end L2
namespace L2
open PySem PySem.Spec PyProof.Rows
end L2
namespace L2
open PySem PySem.Spec PyProof.Rows
section
open PySem.Spec PyProof.Rows
variable {prog:Program} {w:World} {A:Around} {E:Value→Shared→Prop} {s:Shared}
theorem CC:entryFor table "proto.unchain"=some Builtin.«proto.unchain»:=entryFor_of_fast (by kernel_rfl)
theorem VB:plainId "proto.unchain"=true:=by decide +kernel
theorem UL {α:Type} {e h:Addr} {Q:α→Shared→Prop} {oh oe:Obj} {vs us:Array Value} (hh:A.handled=some (.ref h)) (ne:h ≠ e) (eh:s.heap.get? h=some oh) (fh:oh.data=.fields vs) (v2:vs[2]? = some .none)
  (ee:s.heap.get? e=some oe) (fe:oe.data=.fields us) (h2:2 < us.size) (hE:∀ h',Heap.SameBut e s.heap h'→(∃ o,h'.get? e=some o∧o.cls=oe.cls)→E (.ref e) { s with heap:=h' }):wpAny (model prog w) A (raiseNew (.ref e):Sem α) Q E s:=by
 unfold raiseNew;refine wpAny_bind (wpAny_handled ?_);rw [hh];have nb:(Value.ref h != Value.ref e)=true:=by simp [bne,ne]
 show wpAny _ _ (if (Value.ref h != Value.ref e)=true then _ else _) _ _ _;rw [if_pos nb];refine wpAny_bind (wpAny_holding (wpAny_runValue (codeAny_builtin CC ?_)));rw [Around.under_plainId VB _];unfold Builtin.«proto.unchain»
 wp_walk
 rw [fh];refine wpAny_pure ?_;rw [v2];refine wpAny_pure ?_;refine wpAny_pure ?_;show wpAny _ A (updateField e 2 (Value.ref h) >>= fun _=>throw (Value.ref e)) Q E s;unfold updateField
 wp_walk
 rw [fe];show wpAny _ A (if 2 < us.size then _ else _) _ _ _;rw [if_pos h2];refine wpAny_update ee (wpAny_throw ?_);refine hE _ (Heap.SameBut.update ..) ⟨_,Heap.get?_update_self _ ee (Obj.isFreed_of_fields (Obj.data_mapFields fe _)),Obj.cls_mapFields ..⟩
theorem ZA {it l h:Addr} {i:Nat} {items:Array Value} {oh:Obj} {vs:Array Value} {Q:Option Value→Shared→Prop} (hh:A.handled=some (.ref h)) (hi:s.heap.IsListIter it l i) (hl:s.heap.IsList l items) (hx:items[i]? = none)
  (eh:s.heap.get? h=some oh) (fh:oh.data=.fields vs) (v2:vs[2]? = some .none) (nhi:h ≠ it)
  (hQ:∀ h',Heap.ExtBut it s.heap h'→Q none { s with heap:=h' }):wpAny (model prog w) A (pyNext (.ref it)) Q E s:=by
 have ty:=hi.typeIs;obtain ⟨⟨c1,d1,dt1,sl1⟩,e1,c1',f1⟩:=id hi;obtain ⟨⟨c2,d2,dt2,sl2⟩,e2,c2',n2,f2⟩:=id hl;simp only at c1' f1 c2' f2;subst c1' f1 c2' f2;obtain ⟨hp,g,d,tk,os⟩:=s;unfold pyNext;refine wpAny_bind (wpAny_attempt (wpAny_callSpecial?_slot (name:=Str.ofString "__next__") ty PySem.slot_listiter_next (wpAny_call_entry PySem.slot_listiter_next ty PySem.entry_listiter_next ?_ (PySem.args_listiter_next _))));unfold Builtin.«list_iterator.__next__»;have key:items[(i:Int).toNat]? = none:=hx
 wp_walk
 rw [key]
 wp_walk
 have hh1:A.in1.handled=some (.ref h):=hh;have sb:Heap.SameBut it hp (hp.update it (Obj.mapFields fun x=>x.setIfInBounds 0 Value.none)):=Heap.SameBut.update ..;have lt:h < hp.objs.size:=Heap.lt_size eh;have eh2:=(sb.2 h nhi).trans eh;refine UL (oh:=oh) (vs:=vs) hh1 (fun z=>?_) (Heap.get?_push_of_some _ (Heap.get?_push_of_some _ eh2)) fh v2 (Heap.get?_push_size _ rfl) rfl (by simp;omega) fun h' sb' ⟨o,eo,co⟩=>?_
 ·exact Nat.ne_of_lt (Heap.lt_size (Heap.get?_push_of_some { cls:=Value.type "tuple",data:=Data.seq #[] } eh2)) z
 ·refine wpAny_bind (wpAny_isInstance (T := "StopIteration") (b:=true) ⟨o,eo,co⟩ isSubtype_stop ?_);refine wpAny_pure (hQ h' fun b o nb e=>?_);have e2:=(sb.2 b nb).trans e;have e3:=Heap.get?_push_of_some { cls:=Value.type "tuple",data:=Data.seq #[] } e2;exact (sb'.2 b (Nat.ne_of_lt (Heap.lt_size e3))).trans (Heap.get?_push_of_some _ e3)
noncomputable def Hd2 (h:Addr) (hp:Heap):Prop:=∃ o vs,hp.get? h=some o∧o.data=.fields vs∧vs[2]? = some .none
theorem Hd2.at {h:Addr} {hp hp':Heap} (z:Hd2 h hp) (k:∀ o,hp.get? h=some o→hp'.get? h=some o):Hd2 h hp':=let ⟨o,vs,a,b,c⟩:=z;⟨o,vs,k _ a,b,c⟩
theorem BM {h:Addr} (hh:A.handled=some (.ref h)) (it l:Addr) (ne:l ≠ it) (nh:h ≠ it) (items:Array Value):Walks prog w A it [it,l,h] [it] items.size (fun i v=>items[i]? = some v) (fun i hp=>(hp.IsListIter it l i∧hp.IsList l items)∧Hd2 h hp):=by
 refine { sub:=?_,frame:=?_,item:=?_,done:=?_,self:=?_ }
 ·intro b hb;simp at hb;simp [hb]
 ·rintro i a b ⟨⟨p,q⟩,r⟩ k;exact ⟨⟨p.at (k it (by simp)),q.at (k l (by simp))⟩,r.at (k h (by simp))⟩
 ·rintro i s Q E lt ⟨⟨p,q⟩,r⟩ k;refine wpAny_pyNext_list_item p q (x:=items[i]) (Array.getElem?_eq_getElem lt) fun a p' sb=>k _ a s.toks (Array.getElem?_eq_getElem lt) ⟨⟨p',q.extBut sb.extBut ne⟩,r.at fun o e=>(sb.2 h nh).trans e⟩ fun b o hb e=>?_
  exact (sb.2 b fun z=>hb (by simp [z])).trans e
 ·rintro s Q E ⟨⟨p,q⟩,⟨o,vs,e1,e2,e3⟩⟩ k;refine ZA hh p q (Array.getElem?_eq_none (Nat.le_refl _)) e1 e2 e3 nh fun a ex=>k a s.toks fun b o hb e=>?_
  exact ex b o (fun z=>hb (by simp [z])) e
 ·rintro i s Q E ⟨⟨p,_⟩,_⟩ k;exact wpAny_pyIter_listiter p k
end
structure Yk (hx:Addr) (k:Nat) (A:Around):Prop where
 dp:A.depth + 3 * k + 5 < recursionLimit
 un:A.units + 16 * k + 200 < cLine
 hd:A.handled=some (.ref hx)
section
variable {hx:Addr}
theorem Yk.h {k:Nat} {A:Around} (r:Yk hx k A):Mn k A:=⟨r.dp,r.un⟩
theorem Yk.mono {j k:Nat} {A:Around} (r:Yk hx k A) (h:j ≤ k):Yk hx j A:=⟨by have:=r.dp;omega,by have:=r.un;omega,r.hd⟩
theorem Yk.deeper {k:Nat} {A:Around} (r:Yk hx (k + 1) A) (env:Env):Yk hx k (A.deeper env):=⟨(r.h.deeper env).dp,(r.h.deeper env).un,r.hd⟩
theorem Yk.depth {k:Nat} {A:Around} (r:Yk hx k A):A.depth < recursionLimit:=r.h.depth
theorem Yk.units {k:Nat} {A:Around} (r:Yk hx k A):A.units + 64 < cLine:=r.h.units
theorem Ni.hne {k:Nat} {X:Cx} (r:Ni k X.A) (x:Addr):Yk x k (X.hn (.ref x)).A:=⟨r.dp,r.un,rfl⟩
end
structure jv (hx:Addr) (P:Program) (w:World) (K:PySem.W.Frag) (mg:Str→Option Value) (base:Heap) (CX:CXT) (k:Nat) (f:Addr) (fd:FuncData) (ps:List Str) (sp:Sp):Prop where
 len:∀ vs H Q E,sp vs H Q E→vs.length=ps.length
 run:∀ (A:Around) (outer:List Env) (s:Shared) (H:Hp) (args:Args) (us:List Value) (vs:List V) (Q:VK) (E:XK),Yk hx k A→NB P w K mg base A outer s H→BindsTo s fd args (ps.zip us)→Dd vs us→sp vs H Q E →
  codeAny (model P w) A (.call (.ref f) args) (CR CX outer P w H s Q E) s
theorem jv.mono {hx:Addr} {P:Program} {w:World} {K:PySem.W.Frag} {mg:Str→Option Value} {base:Heap} {CX:CXT} {j k:Nat} {f:Addr} {fd:FuncData} {ps:List Str} {sp:Sp} (F:jv hx P w K mg base CX j f fd ps sp) (h:j ≤ k) :
  jv hx P w K mg base CX k f fd ps sp:=⟨F.len,fun A outer s H args us vs Q E hr=>F.run A outer s H args us vs Q E (hr.mono h)⟩
section
variable {hx:Addr}
variable {X:Cx} {CX:CXT} {k:Nat} {f C:Addr} {fd:FuncData} {ps:List Str} {sp:Sp} {dvs:List V} {ds:List Value} {E:XK} {x m:Str} {p pos apos:Pos} {e o:Expr} {es:List Expr} {ta:TE} {t:TA}
theorem bK {pins:List (Addr × Obj)} {σ:St} {H:Hp} {s:Shared} {Q:VK} {us:List Value} {vs:List V} (F:jv hx X.prog X.w X.K X.mg X.base CX k f fd ps sp) (hr:Yk hx k X.A) (hb:Zb X.K fd ps ds) (hd:Dd dvs ds) (hx:Vk CX X E)
  (I:Inv X pins σ H s) (r:Dd vs us) (h:sp (vs ++ dvs) H Q E):wpAny (model X.prog X.w) X.A (call (.ref f) us) (EP X pins σ Q) X.xe s:=by
 have r2:Dd (vs ++ dvs) (us ++ ds):=r.append hd;have hl:(us ++ ds).length=ps.length:=by rw [← r2.length];exact F.len _ _ _ _ h
 refine wpAny_call (codeAny_mono (F.run X.A X.stack s H ⟨us,[]⟩ (us ++ ds) (vs ++ dvs) Q E hr I.env0 (hb s us I.kIn hl) r2 h) fun r s' hq=>?_);cases r with
 | error e=>exact hx pins σ H s e s' I hq
 | ok fl=>
  cases fl with
  | ret u=>exact I.after hq
  | next=>exact False.elim hq
  | brk=>exact False.elim hq
  | cont=>exact False.elim hq
theorem aA (F:jv hx X.prog X.w X.K X.mg X.base CX k f fd ps sp) (hr:Yk hx k X.A) (hg:Gl X x) (hm:X.mg x=some (.ref f)) (hk:PySem.W.keepIn X.K (.ref f)=true) (hb:Zb X.K fd ps ds) (hd:Dd dvs ds) (hx:Vk CX X E)
  (ha:PA X (e :: es) t) (hdb:(x == ("__debug__" : Str))=false:=by decide) (he:starEach (e :: es) X.env=(false,eval e X.env) :: starEach es X.env:=by rfl) (hpl:(backTo pos (starEach es X.env)).any (·.1)=false:=by rfl) :
  PE X (.Call (.Name x p) (e :: es) [] pos) (DF sp dvs E t):=by
 intro pins s σ H Q I h;refine wpAny_Call_Name_kw (wk I hg hm ?_ hdb);refine PySem.W.callWith_K (h₀:=X.base) I.ok.mod.kin hk (thn (ha pos pins s σ H _ I h) fun us s1 ⟨vs,H1,I1,r,q⟩=>⟨I1.kIn,?_⟩) he hpl;exact bK F hr hb hd hx I1 r q
end
section
variable {hx:Addr}
theorem BL {CX:CXT} {P:Program} {w:World} {K:PySem.W.Frag} {mg:Str→Option Value} {base:Heap} {k:Nat} {f:Addr} {name qual:Str} {params:Arguments} {body:List Stmt} {scope:Scope} {dV kV doc pm cdv ct oc:Value} {an od:Option Addr}
  {osl:Array (Option Value)} {N ps:List Str} {sp:Sp} (lk:K.lookup f=some ⟨oc,od,.func (PySem.W.fnOf name qual params body scope dV kV doc pm an cdv ct),osl⟩) (hcd:PySem.W.codeIn K cdv qual=true) (S:Cb N ps scope)
  (len:∀ vs H Q E,sp vs H Q E→vs.length=ps.length)
  (hbody:∀ (A:Around) (outer:List Env) (s:Shared) (H:Hp) (vs:List V) (Q:VK) (E:XK),Yk hx k (A.deeper (envOfC qual scope s.heap.objs.size f cdv))→sp vs H Q E →
   ∃ t,PSs (mz CX P w K mg base N qual scope f cdv A outer s H E) body t∧t { nx:=fun _ H'=>Q .non H',rt:=Q } (start N vs) H) :
  jv hx P w K mg base CX (k + 1) f (PySem.W.fnOf name qual params body scope dV kV doc pm an cdv ct) ps sp:=by
 refine ⟨len,fun A outer s H args us vs Q E hr e0 hb r hsp=>?_⟩;have hl:=len _ _ _ _ hsp;have KX:K.In s.heap:=e0.mod.kin.keeps fun b o e=>(e0.bs b o e).1
 have lim:s.heap.NoLimit:=e0.mod.nolimit.keeps fun b o e=>(e0.bs b o e).1
 have hkind:∀ y ∈ ps.zip us,scope.names.lookup y.1=some .local∨(scope.names.lookup y.1=some .cell∧((cellsFrom (s.heap.objs.size + 1) scope.names []).lookup y.1).isSome=true):=fun ⟨n,v⟩ hy=>by
  rcases S.par n (List.of_mem_zip hy).1 with q | q
  ·exact .inl q
  ·exact .inr ⟨q,PySem.W.cellsFrom_some _ _ _ (.inl q)⟩
 refine codeAny_call_function hr.depth (KX _ _ lk) rfl S.co S.gen rfl (PySem.W.codeRec_of KX hcd) (hb _ _ _ _ ?_);refine wpAny_newFunctionEnv_cells S.kind hkind fun env he s1 x=>?_
 subst he;refine ⟨lim.keeps x.toInCall.keep,codeAny_func ?_⟩;obtain ⟨t,ht,hq⟩:=hbody A outer s H vs Q E (hr.deeper _) hsp;have I:Inv (mz CX P w K mg base N qual scope f cdv A outer s H E) [] (start N vs) H s1:=DC S e0 hl r x;refine wpAny_mono (ht [] s1 (start N vs) H _ I hq) (fun fl s' hs=>?_) fun e s' hs=>hs
 have fin:∀ {σ':St} {H':Hp} {v:V} {u:Value},Inv (mz CX P w K mg base N qual scope f cdv A outer s H E) [] σ' H' s'→Jd v u→Q v H'→CE outer P w H s Q u s':=
  fun {σ' H' v u} J rv q=>⟨v,H',J.os,J.bare,J.base,J.hok,rv,q⟩
 cases fl with
 | ret u=>
  obtain ⟨v,σ',H',J,rv,q⟩:=hs;exact fin J rv q
 | next=>
  obtain ⟨σ',H',J,q⟩:=hs;exact fin (v:=V.non) (u:=Value.none) J rfl q
 | brk=>
  obtain ⟨_,_,_,q⟩:=hs;exact False.elim q
 | cont=>
  obtain ⟨_,_,_,q⟩:=hs;exact False.elim q
end
section
variable {hx:Addr} {P:Program} {w:World} {K:PySem.W.Frag} {mg:Str→Option Value} {base:Heap}
theorem Fun.okE {x qual:Str} {st:Stmt} {f:Addr} {fd:FuncData} {N ps:List Str} {k:Nat} {sp:Sp} (F:Fun K x qual st f fd) (S:Cb N ps (ib st)) (len:∀ vs H Q E,sp vs H Q E→vs.length=ps.length)
  (hbody:∀ (cdv:Value) (A:Around) (outer:List Env) (s:Shared) (H:Hp) (vs:List V) (Q:VK) (E:XK),Yk hx k (A.deeper (envOfC qual (ib st) s.heap.objs.size f cdv))→sp vs H Q E →
   ∃ t,PSs (mz CX0 P w K mg base N qual (ib st) f cdv A outer s H E).nox (cn st) t∧t { nx:=fun _ H'=>Q .non H',rt:=Q } (start N vs) H):jv hx P w K mg base CX0 (k + 1) f fd ps sp:=by
 obtain ⟨oc,od,kV,doc,pm,an,cdv,ct,osl,rfl,lk,hcd⟩:=F.ex;refine BL lk hcd S len fun A outer s H vs Q E hr hsp=>?_
 obtain ⟨t,h,q⟩:=hbody cdv A outer s H vs Q E hr hsp;exact ⟨t,h.nox,q⟩
end
noncomputable def VM (hx:Addr) (K:PySem.W.Frag) (a:Addr):It:=⟨(Itl K a).go,(Itl K a).yld,fun i H=>(∃ xs,SqL K H a xs∧xs.length ≤ i)∧∃ C od,H hx=some (.ext (XA hx C od))⟩
noncomputable def QI (hx:Addr) (K:PySem.W.Frag) (tl:TE):TI:=fun σ H R=>tl σ H fun x H1=>lj x fun a=>(∃ xs,SqL K H1 a xs)∧R (VM hx K a) H1
section
variable {hx:Addr}
structure UJ (hx:Addr) (P:Program) (w:World) (K:PySem.W.Frag) (tg:Expr) (J:It) (fp:List Addr) (it:Addr) (tn:Nat→Heap→Prop):Prop where
 mem:it ∈ fp
 obj:∀ i h,tn i h→∀ b ∈ fp,∃ o,h.get? b=some o∧∀ v,o.data ≠ .cell v
 keep:∀ i h h',tn i h→(∀ b ∈ fp,∀ o,h.get? b=some o→h'.get? b=some o)→tn i h'
 item:∀ (X:Cx),X.prog=P→X.w=w→X.K=K→X.A.handled=some (.ref hx)→∀ (i:Nat) (pins:List (Addr × Obj)) (s:Shared) (σ:St) (H:Hp) (E:Value→Shared→Prop),Inv X pins σ H s→(∀ b ∈ fp,Vp X pins H b)→tn i s.heap→J.go i H →
  wpAny (model P w) X.A (pyNext (.ref it)) (fun r s1=>∃ u,r=some u ∧
   wpAny (model P w) X.A (letOwnedTupleGo tg (.ref it) u) (fun _ s2=>∃ x H',Inv X pins σ H' s2∧Jd x u∧J.yld i H x H'∧tn (i + 1) s2.heap∧∀ b ∈ fp,H' b=none) E s1) E s
 done:∀ (X:Cx),X.prog=P→X.w=w→X.K=K→X.A.handled=some (.ref hx)→∀ (i:Nat) (pins:List (Addr × Obj)) (s:Shared) (σ:St) (H:Hp) (E:Value→Shared→Prop),Inv X pins σ H s→(∀ b ∈ fp,Vp X pins H b)→tn i s.heap→J.stop i H →
  wpAny (model P w) X.A (pyNext (.ref it)) (fun r s1=>r=none∧Inv X pins σ H s1) E s
 self:∀ (A:Around) (i:Nat) (s:Shared) (Q:Value→Shared→Prop) (E:Value→Shared→Prop),tn i s.heap→Q (.ref it) s→wpAny (model P w) A (pyIter (.ref it)) Q E s
noncomputable def JO (hx:Addr) (X:Cx) (pins:List (Addr × Obj)) (σ:St) (tg:Expr) (R:It→Hp→Prop) (itv:Value) (s2:Shared):Prop:=
 ∃ (it:Addr) (fp:List Addr) (tn:Nat→Heap→Prop) (J:It) (H':Hp),itv=.ref it∧Inv X pins σ H' s2∧UJ hx X.prog X.w X.K tg J fp it tn∧tn 0 s2.heap∧(∀ b ∈ fp,Vp X pins H' b)∧R J H'
noncomputable def PI2 (hx:Addr) (X:Cx) (tg iter:Expr) (wi:TI):Prop:=
 ∀ (pins:List (Addr × Obj)) (s:Shared) (σ:St) (H:Hp) (R:It→Hp→Prop),Inv X pins σ H s→wi σ H R →
  wpAny (model X.prog X.w) X.A (eval iter X.env) (fun v s1=>wpAny (model X.prog X.w) X.A (pyIter v) (JO hx X pins σ tg R) X.xe s1) X.xe s
theorem EC {P:Program} {w:World} {K:PySem.W.Frag} {tg:Expr} (a it:Addr):UJ hx P w K tg (VM hx K a) [it] it (fun i h=>h.IsListIter it a i) where
 mem:=by simp
 obj:=fun i h st b hb=>by
  have e:b=it:=by simpa using hb
  subst e;obtain ⟨o,e,c,d⟩:=st;exact ⟨o,e,fun v z=>by rw [d] at z;cases z⟩
 keep:=fun i h h' st k=>st.at fun o e=>k it (by simp) o e
 item:=by
  intro X hP hw hK hc i pins s σ H E I hf st hg;subst hP hw hK;obtain ⟨xs,x,hq,hx⟩:=hg;obtain ⟨its,rv,p,hz⟩:=I.list hq;obtain ⟨u,hu,ru⟩:=rv.get hx;obtain ⟨f0,f1,f2,f3,f4,f5⟩:=hf it (by simp);refine wpAny_pyNext_list_item st p.isList (x:=u) (by simpa using hu) fun h' st' sb=>?_
  have I1:Inv X pins σ H { s with heap:=h' }:=I.turned (t':=s.toks) (fun b o hb e=>(sb.2 b hb).trans e) f0 f1 f3 f4 f5;obtain ⟨o,e,c,d⟩:=id st';exact ⟨u,rfl,SE (s:={ s with heap:=h' }) e c d (by decide) ⟨x,H,I1,ru,⟨rfl,fun ys hy=>by rw [I.list_inj hy hq];exact hx⟩,st',fun b hb=>(hf b hb).1⟩⟩
 done:=by
  intro X hP hw hK hc i pins s σ H E I hf st hg;subst hP hw hK;obtain ⟨⟨xs,hq,hx'⟩,C,od,ex⟩:=hg;obtain ⟨its,rv,p,hz⟩:=I.list hq;obtain ⟨f0,f1,f2,f3,f4,f5⟩:=hf it (by simp);have hl:=rv.length;obtain ⟨vs,sl,e1,e2⟩:=(show Xd X.prog X.w H s.heap hx (.ext (XA hx C od)) from I.hok _ _ ex).1;exact ZA hc st p.isList (by simp;omega) e1 rfl e2 (fun z=>by rw [z,f0] at ex;cases ex) fun h' eb=>⟨rfl,I.turned (t':=s.toks) (fun b o hb e=>eb b o hb e) f0 f1 f3 f4 f5⟩
 self:=fun _ _ _ _ _ st h=>wpAny_pyIter_listiter st h
end
section
variable {hx:Addr} {X:Cx} {tg:Expr}
theorem UG {l:Expr} {tl:TE} (hl:PE X l tl):PI2 hx X tg l (QI hx X.K tl):=by
 intro pins s σ H R I h;refine thn (hl pins s σ H _ I h) fun v s1 hZ1=>?_
 obtain ⟨x,H1,I1,r1,q1⟩:=hZ1;obtain ⟨a,e,⟨xs,hq⟩,q⟩:=lj.out q1;subst e;cases r1;obtain ⟨its,rv,p,hz⟩:=I1.list hq;refine wpAny_pyIter_list p.isList ?_;refine ⟨s1.heap.objs.size,[s1.heap.objs.size],_,_,H1,rfl,I1.kept (t':=s1.toks) fun b o e=>Heap.get?_push_of_some _ e,EC a _,⟨_,Heap.get?_push_size _ rfl,rfl,rfl⟩,fun b hb=>?_,q⟩;have e:b=s1.heap.objs.size:=by simpa using hb
 subst e;exact I1.fpOk (Nat.le_refl _) (I1.hok.fresh (Nat.le_refl _))
end
section
variable {hx:Addr}
variable {X:Cx} {elt tg iter:Expr} {ifs:List Expr} {scope:Scope} {pos:Pos} {wi:TI} {g:TG} {tc:TT} {te:TE} {N:List Str} {sel:List (Option Nat)}
theorem AB {pins:List (Addr × Obj)} {s₂:Shared} {σ:St} {H₂:Hp} {Q:VK} {it:Addr} {fp:List Addr} {tn:Nat→Heap→Prop} {J:It} {W:Nat→Nat→List V→Hp→Prop} {E:Value→Shared→Prop} {RR:Value→Addr→Result→Shared→Prop}
  (hc:X.A.handled=some (.ref hx)) (S:mm X.env scope) (hsel:Sy X.N scope N sel) (B:Blk X scope N tg elt ifs g tc te) (I2:Inv X pins σ H₂ s₂) (T:UJ hx X.prog X.w X.K tg J fp it tn) (st2:tn 0 s₂.heap) (f2:∀ b ∈ fp,Vp X pins H₂ b)
  (w0:∃ m,W 0 m [] H₂) (hW:Dz J g tc te (blk sel σ) Q W)
  (fin:∀ D C ys H' s',Inv X pins σ (upd H' D (.lst ys)) s'→(∃ m,s'.heap.Ns C m)→Vp X pins (upd H' D (.lst ys)) C→Q (.ref D) (upd H' D (.lst ys))→RR (.ref D) C (.ok .next) s') :
  wpAny (model X.prog X.w) X.A (newList []) (fun acc s₃=>wpAny (model X.prog X.w) X.A (newFunctionEnv scope X.env.globals (Nu X.env.cells scope.names []) [] X.env.qual none .none (some X.env)) (fun cenv s₄=>
   codeAny (model X.prog X.w) X.A (.compStart (.ListComp elt [⟨tg,iter,ifs,0⟩] scope pos) 0 (.ref it) acc { cenv with scope:=relabel scope X.env }) (RR acc cenv.locals) s₄) E s₃) E s₂:=by
 refine wpAny_newObj_type (wpAny_newFunctionEnv S.nocell (by intro y hy;simp at hy) (fun h₁ hns₁ hsb₁=>?_) S.kind);dsimp only at hns₁ hsb₁ ⊢;generalize hH2:s₂.heap.push { cls:=.type "list",dict:=none,data:=.seq ([]:List Value).toArray }=H2 at hns₁ hsb₁ ⊢;have hC:H2.objs.size=s₂.heap.objs.size + 1:=by rw [← hH2,Heap.size_push]
 have hDC:s₂.heap.objs.size ≠ H2.objs.size:=by rw [hC];exact Nat.ne_of_lt (Nat.lt_succ_self _)
 have hCle:s₂.heap.objs.size ≤ H2.objs.size:=by rw [hC];exact Nat.le_succ _
 have below:∀ b,b < s₂.heap.objs.size→b ≠ H2.objs.size∧b ≠ s₂.heap.objs.size:=fun b hb=>⟨by rw [hC];exact Nat.ne_of_lt (Nat.lt_succ_of_lt hb),Nat.ne_of_lt hb⟩
 have old:∀ b o,s₂.heap.get? b=some o→h₁.get? b=some o:=fun b o e=>hsb₁.extBut b o (below b (Heap.lt_size e)).1 (Heap.get?_push_of_some _ (hH2 ▸ Heap.get?_push_of_some _ e))
 have hacc:h₁.get? s₂.heap.objs.size=some { cls:=.type "list",data:=.seq ([]:List Value).toArray }:=hsb₁.extBut _ _ hDC (Heap.get?_push_of_some _ (hH2 ▸ Heap.get?_push_size _ rfl));have fps:∀ b ∈ fp,b < s₂.heap.objs.size:=fun b hb=>by
  obtain ⟨o,e,_⟩:=T.obj _ _ st2 b hb;exact Heap.lt_size e
 generalize hCe:H2.objs.size=C at *;generalize hDe:s₂.heap.objs.size=D at *;have st1:tn 0 h₁:=T.keep _ _ _ st2 fun b _ o e=>old b o e
 have IB0:Inv (X.block scope C N s₂ H₂ fp) [] (blk sel σ) H₂ { s₂ with heap:=h₁,toks:=s₂.toks + ([]:List (Str × Value)).length }:=
  ux I2 S f2 (fun b hb=>by rw [hDe];exact fps b hb) (by rw [hDe];exact hCle) old hns₁ hsel
 have hDfs:D ∉ (X.block scope C N s₂ H₂ fp).fs:=fun z=>by
  have z':=I2.stkSub D z;rcases List.mem_cons.mp z' with e | e
  ·exact absurd I2.lt (by rw [← e,hDe];exact Nat.lt_irrefl _)
  ·exact I2.nofs (by rw [hDe];exact Nat.le_refl _) e
 have loop:∀ s₃:Shared,s₃ = { s₂ with heap:=h₁,toks:=s₂.toks + ([]:List (Str × Value)).length } →
   codeAny (model X.prog X.w) X.A (.compLoop (.ListComp elt [⟨tg,iter,ifs,0⟩] scope pos) 0 (.ref it) (.ref D) (compEnvC scope (Nu X.env.cells scope.names []) C X.env)) (RR (.ref D) C) s₃:=by
  rintro s₃ rfl;obtain ⟨m0,w0⟩:=w0;refine Rh (fun k s'=>∃ i ys us n H',Inv (X.block scope C N s₂ H₂ fp) [(D,{ cls:=.type "list",data:=.seq us n })] (blk sel σ) H' s'∧(∃ vs:List Value,us=vs.toArray∧Dd ys vs)∧ys.length ≤ sizeLine∧tn i s'.heap∧(∀ b ∈ fp,H' b=none)∧W i k ys H') ?_ m0
   ⟨0,[],_,0,H₂,IB0.pins_of fun p hp=>?_,⟨[],rfl,.nil⟩,Nat.zero_le _,st1,fun b hb=>(f2 b hb).1,w0⟩
  ·rintro k s' ⟨i,ys,us,n,H',IB,⟨vs,rfl,rv⟩,hyz,st,fr,w⟩;have fpB:∀ {pl:List (Addr × Obj)} {H'':Hp},(∀ p ∈ pl,p.1=D)→(∀ b ∈ fp,H'' b=none)→∀ b ∈ fp,Vp (X.block scope C N s₂ H₂ fp) pl H'' b:=fun {pl H''} hp hn b hb=>
    ⟨hn b hb,(below b (fps b hb)).1,(Yv (N:=N) (C:=C) I2 S f2 (fun b hb=>by rw [hDe];exact fps b hb) (by rw [hDe];exact hCle)).exfs b hb,.inl hb,fun x c e=>(f2 b hb).2.2.2.2.1 x c (Is e),fun p hpp z=>by
     have hpp':p ∈ pl:=by simpa using hpp
     exact (below b (fps b hb)).2 (by rw [← z];exact hp p hpp')⟩
   have hD1:∀ p ∈ [((D,{ cls:=.type "list",data:=.seq vs.toArray n }):Addr × Obj)],p.1=D:=fun p hp=>by
    have e:p=(D,{ cls:=.type "list",data:=.seq vs.toArray n }):=by simpa using hp
    rw [e]
   rcases hW i k ys H' w with ⟨stop,qn⟩ | ⟨go,hlen,step⟩
   ·refine thn (T.done (X.block scope C N s₂ H₂ fp) rfl rfl rfl hc i _ s' _ H' _ IB (fpB hD1 fr) st stop) fun r s4 hZ1=>?_
    obtain ⟨hr,I4⟩:=hZ1;subst hr;have pD:=I4.pin (D,{ cls:=.type "list",data:=.seq vs.toArray n }) (by simp);have hDn:H' D=none:=pD.2.1;have IX:Inv X pins σ H' s4:=I2.call' (ch:=fp) I4.os I4.base I4.hok I4.bare fun b hb=>⟨(f2 b hb).2.2.2.1,(f2 b hb).2.1,(f2 b hb).2.2.2.2.1,(f2 b hb).2.2.2.2.2⟩
    have foD:Vp X pins H' D:=I2.fpOk (by rw [hDe];exact Nat.le_refl _) hDn;have IA:Inv X pins σ (upd H' D (.lst ys)) s4:=IX.adopt foD ⟨hyz,vs,n,rv,pD.1⟩;obtain ⟨mC,hnC,_⟩:=I4.loc;refine fin D C ys H' s4 IA ⟨mC,hnC⟩ (I2.fpOk (by rw [hDe];exact hCle) ?_) (qn D hDn);rw [rb (Ne.symm hDC)];exact I4.free
   ·refine thn (T.item (X.block scope C N s₂ H₂ fp) rfl rfl rfl hc i _ s' _ H' _ IB (fpB hD1 fr) st go) fun r s4 hZ1=>?_
    obtain ⟨u,hr,h4⟩:=hZ1;subst hr;refine thn h4 fun _ s5 hZ1=>?_
    obtain ⟨x,H5,I5,r5,y5,st5,fr5⟩:=hZ1;have I5':=I5.pinned (fpB hD1 fr5) (T.obj _ _ st5);refine thn (B.tgt C s₂ H₂ fp _ s5 _ H5 x u _ I5' r5 (step x H5 y5)) fun _ s6 hZ1=>?_
    obtain ⟨σ6,H6,I6,sb,q6⟩:=hZ1;refine thn (B.tests C s₂ H₂ fp _ s6 σ6 H6 _ I6 q6) fun c s7 hZ1=>?_
    obtain ⟨H7,I7,q7⟩:=hZ1;have again:∀ {σ8:St} {H8:Hp} {s8:Shared},Inv (X.block scope C N s₂ H₂ fp) ([(D,{ cls:=.type "list",data:=.seq vs.toArray n })] ++ Ou fp s5.heap) σ8 H8 s8→tn (i + 1) s8.heap∧(∀ b ∈ fp,H8 b=none):=fun {σ8 H8 s8} I8=>by
     refine ⟨T.keep _ _ _ st5 fun b hb o e=>(I8.pin (b,o) (List.mem_append_right _ (List.mem_append_right _ (ci hb e)))).1,fun b hb=>?_⟩;obtain ⟨o,e,d⟩:=T.obj _ _ st5 b hb;exact (I8.pin (b,o) (List.mem_append_right _ (List.mem_append_right _ (ci hb e)))).2.1
    have back:∀ {H8:Hp} {s8:Shared} {pl:List (Addr × Obj)},Inv (X.block scope C N s₂ H₂ fp) pl σ6 H8 s8→Inv (X.block scope C N s₂ H₂ fp) pl (blk sel σ) H8 s8:=fun {H8 s8 pl} I8=>I8.weak sb.1.symm sb.2
    cases c with
    | false=>
     obtain ⟨m',hm,w'⟩:=q7;obtain ⟨t1,t2⟩:=again I7;exact ⟨m',hm,i + 1,ys,_,n,H7,back I7.unpinned,⟨vs,rfl,rv⟩,hyz,t1,t2,w'⟩
    | true=>
     refine thn (B.elem C s₂ H₂ fp _ s7 σ6 H7 _ I7 q7) fun v s8 hZ1=>?_
     obtain ⟨y,H8,I8,r8,m',hm,w'⟩:=hZ1;obtain ⟨t1,t2⟩:=again I8;have pD:=I8.pin (D,{ cls:=.type "list",data:=.seq vs.toArray n }) (by simp);refine append_at (hsz:=by have:=rv.length;rw [List.size_toArray];omega) pD.1 fun h9 hs9 hD9=>?_
     have IB':Inv (X.block scope C N s₂ H₂ fp) [] (blk sel σ) H8 s8:=(back I8).pins_of fun p hp=>nomatch hp
     have foD:Vp (X.block scope C N s₂ H₂ fp) [] H8 D:=⟨pD.2.1,hDC,hDfs,.inr (by show s₂.heap.objs.size ≤ D;rw [hDe];exact Nat.le_refl _),(fun x c e z=>by
      obtain ⟨cv,o,ho,hd⟩:=I8.cell x c e;rw [z,pD.1] at ho;cases ho;cases hd),(fun p hp=>nomatch hp)⟩
     have I9:Inv (X.block scope C N s₂ H₂ fp) [] (blk sel σ) H8 { s8 with heap:=h9 }:=IB'.turned (t':=s8.toks) (it:=D) (fun b o hb e=>(hs9.2 b hb).trans e) foD.1 foD.2.1 foD.2.2.2.1 foD.2.2.2.2.1 foD.2.2.2.2.2;refine ⟨m',hm,i + 1,ys ++ [y],vs.toArray.push v,n + 1,H8,I9.pins_of fun p hp=>?_,⟨vs ++ [v],by simp,Paired.snoc rv r8⟩,by rw [List.length_append,List.length_singleton];omega,T.keep _ _ _ t1 fun b hb o e=>(hs9.2 b (below b (fps b hb)).2).trans e,t2,w'⟩;have e:p=(D,{ cls:=.type "list",data:=.seq (vs.toArray.push v) (n + 1) }):=by simpa using hp
     subst e;exact ⟨hD9,pD.2.1,hDC,hDfs,fun v z=>by cases z⟩
  ·have e:p=(D,{ cls:=.type "list",data:=.seq ([]:List Value).toArray }):=by simpa using hp
   subst e;exact ⟨hacc,I2.hok.fresh (by rw [hDe];exact Nat.le_refl _),hDC,hDfs,fun v z=>by cases z⟩
 exact codeAny_compStart_list (loop _ rfl) (T.self _ 0 _ _ _ st1 (loop _ rfl))
theorem LG (hc:X.A.handled=some (.ref hx)) (hi:PI2 hx X tg iter wi) (S:mm X.env scope) (hsel:Sy X.N scope N sel) (B:Blk X scope N tg elt ifs g tc te)
  (hs:∀ x,foldedSetIterable iter X.env x=pure x:=by intro _;rfl):PE X (.ListComp elt [⟨tg,iter,ifs,0⟩] scope pos) (zH wi g tc te sel):=by
 intro pins s σ H Q I h;rw [eval_ListComp];refine wpAny_comprehension_free (use:=none) rfl hs (kz (S.cells I.ok)) S.kind S.loc ?_;refine thn (hi pins s σ H _ I h) fun v s1 h1=>thn h1 fun itv s2 h2=>?_
 obtain ⟨it,fp,tn,J,H2,e,I2,T,st2,f2,W,w0,hW⟩:=h2;subst e;refine AB (RR:=fun acc C=>compPost (model X.prog X.w) X.A X.xe none (EP X pins σ Q) acc C) hc S hsel B I2 T st2 f2 w0 hW fun D C ys H' s' I' ⟨m,hm⟩ fo q=>?_
 exact ⟨m,hm,fun h' hsb=>⟨.ref D,_,I'.turned (t':=s'.toks) (it:=C) (fun b o hb e=>(hsb.2 b hb).trans e) fo.1 fo.2.1 fo.2.2.2.1 fo.2.2.2.2.1 fo.2.2.2.2.2,rfl,q⟩⟩
end
section
theorem OF {hx:Addr} {X:Cx} (hc:X.A.handled=some (.ref hx)):Al X (.builtin "sum") (fun xs H Q=>∃ l ks,xs=[.ref l]∧SqL X.K H l (List.map V.int ks)∧(∀ k ∈ ks,0 ≤ k∧k ≤ 1000000000)∧ks.length ≤ 1000∧(∃ C od,H hx=some (.ext (XA hx C od)))∧Q (.int ks.sum) H):=by
 intro pins s σ H xs us Q I r h;obtain ⟨l,ks,rfl,hq,hk,hl,⟨C,od,ex⟩,q⟩:=h;obtain ⟨u,rfl,ru⟩:=Kr r;cases ru;obtain ⟨its,rv,pl,hz⟩:=I.list hq;obtain ⟨xs,e1,e2⟩:=GB rv;have hil:its.toArray=intItems xs.toArray:=by rw [e1];unfold intItems;simp
 have hls:s.heap.IsList l (intItems xs.toArray):=by rw [← hil];exact pl.isList
 have hxl:xs.length=ks.length:=by rw [← e2,List.length_map]
 have hn:∀ i,i < ks.length→ks[i]? = some (numAt xs.toArray i):=fun i hi=>by
  rw [numAt_eq,List.getD_eq_getElem?_getD];show ks[i]? = some (((xs.map (·.1))[i]?).getD 0);rw [e2,List.getElem?_eq_getElem hi];rfl
 have hps:∀ n,n ≤ ks.length→preSum (numAt xs.toArray) n=(ks.take n).sum∧0 ≤ (ks.take n).sum∧(ks.take n).sum ≤ 1000000000 * (n:Int):=fun n=>by
  induction n with
  | zero=>intro _;exact ⟨by simp [preSum],by simp,by simp⟩
  | succ n ih=>
   intro hn';obtain ⟨i1,i2,i3⟩:=ih (by omega);have e:=hn n (by omega);have hv:=hk _ (List.mem_of_getElem? e);have es:(ks.take (n + 1)).sum=(ks.take n).sum + numAt xs.toArray n:=by
    rw [List.take_add_one,e,List.sum_append];simp
   refine ⟨?_,by omega,by omega⟩;show preSum (numAt xs.toArray) n + numAt xs.toArray n=_;rw [i1,es]
 have hsz:xs.toArray.size=ks.length:=by rw [List.size_toArray,hxl]
 obtain ⟨vsx,slx,g1,g2⟩:=(show Xd X.prog X.w H s.heap hx (.ext (XA hx C od)) from I.hok _ _ ex).1;have hd2:Hd2 hx s.heap:=⟨_,vsx,g1,rfl,g2⟩;refine call_sum_walk (iter_intList hls fun s₂ e st hfp hlI=>?_);subst e;have hxI:hx ≠ s.heap.objs.size:=Nat.ne_of_lt (Heap.lt_size g1);refine ⟨_,_,_,_,_,_,numAt xs.toArray,rfl,BM (A:=X.A.in1) hc _ l hlI hxI (intItems xs.toArray),⟨st,hd2.at fun o e=>Heap.get?_push_of_some _ e⟩,fun b hb=>?_,(fun _ _=>intItems_at),(fun j hj=>?_),fun h' tk t' hkp=>⟨.int ks.sum,H,I.kept (old_kept hkp),⟨t',?_⟩,q⟩⟩
 ·rcases List.mem_cons.mp hb with rfl | hb
  ·exact hfp _ (by simp)
  ·rcases List.mem_cons.mp hb with rfl | hb
   ·exact hfp _ (by simp)
   ·rw [List.mem_singleton.mp hb];show hx < (s.heap.push _).objs.size;rw [Heap.size_push];exact Nat.lt_succ_of_lt (Heap.lt_size g1)
 ·have hj:j < ks.length:=by rw [← hsz];simpa [intItems] using hj
  have e:=hn j hj;have hv:=hk _ (List.mem_of_getElem? e);obtain ⟨p1,p2,p3⟩:=hps (j + 1) (by omega);unfold InLong;rw [p1];omega
 ·have e:(intItems xs.toArray).size=ks.length:=by simp [intItems,hxl]
  rw [e,(hps _ (Nat.le_refl _)).1,List.take_length]
end
noncomputable def vH (K:PySem.W.Frag) (c:Addr) (i:Nat) (th:Addr→TS) (D:jk):St→XK:=fun σ C od H=>∃ C',C=.ref C'∧PySem.W.exmOne K C (.ref c)=some true∧∀ x,H x=some (.ext (XA x C' od))→th x (D.gone i) (σ.set i (some (.ref x))) H
noncomputable def rJ (K:PySem.W.Frag) (c:Addr) (i:Nat) (tb:(St→XK)→TS) (th:Addr→TS):TS:=fun D σ H=>tb (vH K c i th D) D σ H
section
variable {X:Cx} {body suite:List Stmt} {b0:Stmt} {x n:Str} {c:Addr} {i:Nat} {tb:(St→XK)→TS} {th:Addr→TS} {xp hp pos:Pos}
theorem kK (hb:∀ pins E,PSs (X.tr pins (xeT X pins E)) body (tb E)) (hg:Gl X x) (hm:X.mg x=some (.ref c)) (hh:∀ a:Addr,PSs (X.hn (.ref a)) (b0 :: suite) (th a)) (hN:X.N.Nodup) (hi:X.N[i]? = some n)
  (hl:X.env.scope.names.lookup n=some .local) (F:Fr1 X:=by exact ⟨rfl,rfl⟩) (hdb:(x == ("__debug__" : Str))=false:=by decide) :
  PS X (.Try body [.ExceptHandler (some (.Name x xp)) (some n) (b0 :: suite) hp] [] [] pos) (rJ X.K c i tb th):=by
 intro pins s σ H D I h;refine wpAny_Try_except (wpAny_mono (hb pins _ [] s σ H D (I.tr _) h) (fun f s1 q=>?_) fun e s1 q=>?_)
 ·have q':=q.untr;cases f with
  | next=>exact wpAny_execs_nil q'
  | brk=>exact q'
  | cont=>exact q'
  | ret u=>exact q'
 ·refine q.note F fun s2 q2=>q2.flight F none fun s3 q3=>?_
  obtain ⟨σ1,H1,a,C,od,T,rfl,I2,ea,eT,nT,fl,C',eC,em,w⟩:=id q3;cases eC;refine wpAny_handleBy_cons (codeAny_handlers_test (wk (I2.hn (.ref a)) hg hm ?_ hdb)) (fun z=>by cases z);have LT:PySem.W.Looks (model X.prog X.w) s3.heap (typeOf (.ref a)) (.ref C):=by
   obtain ⟨vs,sl,e,_⟩:=fl.xa;exact (PySem.W.Looks.ld e).andThen .now
  refine (PySem.W.exm_one I2.kIn LT em).here ?_;rw [if_pos rfl];refine codeAny_handlers_suite_as (q3.flight F none fun s4 q4=>?_)
  ·obtain ⟨σ1,H1,a',C,od,T,ea',I3,ea,eT,nT,fl,C',eC,em,w⟩:=q4;cases eC;cases ea';refine Fq (X:=X.hn (.ref a)) (I3.hn (.ref a)) hN hi (.inl hl) (v:=.ref a) (u:=.ref a) rfl (fun s5 I4=>?_) (.inr hl);refine wpAny_mono (hh a pins s5 _ H1 (D.gone i) I4 (w a ea)) (fun f s5 q5=>?_) fun _ _ z=>False.elim z
   cases f with
   | next=>obtain ⟨σ',H',J,q⟩:=q5;exact Sn (J.unhn I.ok) hN hi hl fun s6 I6=>⟨_,_,I6,q⟩
   | brk=>obtain ⟨σ',H',J,q⟩:=q5;exact Sn (J.unhn I.ok) hN hi hl fun s6 I6=>⟨_,_,I6,q⟩
   | cont=>obtain ⟨σ',H',J,q⟩:=q5;exact Sn (J.unhn I.ok) hN hi hl fun s6 I6=>⟨_,_,I6,q⟩
   | ret u=>obtain ⟨v,σ',H',J,r,q⟩:=q5;exact Sn (J.unhn I.ok) hN hi hl fun s6 I6=>⟨v,_,_,I6,r,q⟩
end
theorem FG {X:Cx} {body suite:List Stmt} {b0:Stmt} {x n:Str} {c:Addr} {i:Nat} {tb:(St→XK)→TS} {th:Addr→TS} {xp hp pos:Pos} (hb:∀ pins E,∃ t,PSs (X.tr pins (xeT X pins E)) body t∧t=tb E) (hg:Gl X x) (hm:X.mg x=some (.ref c))
  (hh:∀ a:Addr,∃ t,PSs (X.hn (.ref a)) (b0 :: suite) t∧t=th a) (hN:X.N.Nodup) (hi:X.N[i]? = some n) (hl:X.env.scope.names.lookup n=some .local) (F:Fr1 X:=by exact ⟨rfl,rfl⟩)
  (hdb:(x == ("__debug__" : Str))=false:=by decide):PS X (.Try body [.ExceptHandler (some (.Name x xp)) (some n) (b0 :: suite) hp] [] [] pos) (rJ X.K c i tb th):=
 kK (fun pins E=>by obtain ⟨t,h,rfl⟩:=hb pins E;exact h) hg hm (fun e=>by obtain ⟨t,h,rfl⟩:=hh e;exact h) hN hi hl F hdb
end L2
namespace L2
open PySem PySem.Spec PyProof.Rows
theorem uE (i:Nat) (σ:St) (H:Hp) (Q:VK):AN i σ H Q=(aI H Q σ[i]?):=rfl
theorem tM (v:V) (x_0:St) (H:Hp) (Q:VK):tC v x_0 H Q=(Q v H):=rfl
theorem QM (t:TE) (σ:St) (H:Hp) (Q:(Bool→Hp→Prop)):tB t σ H Q=(t σ H fun x H1=>BlQ x fun c=>Q c H1):=rfl
theorem OE (t u:TT) (σ:St) (H:Hp) (Q:(Bool→Hp→Prop)):YN t u σ H Q=(t σ H fun c H1=>if c=true then u σ H1 Q else Q false H1):=rfl
theorem FI (t u:TT) (σ:St) (H:Hp) (Q:(Bool→Hp→Prop)):tOr t u σ H Q=(t σ H fun c H1=>if c=true then Q true H1 else u σ H1 Q):=rfl
theorem KD (t:TT) (σ:St) (H:Hp) (Q:(Bool→Hp→Prop)):UN t σ H Q=(t σ H fun c H1=>Q (!c) H1):=rfl
theorem QA (ta tb:TE) (σ:St) (H:Hp) (Q:VK):KL ta tb σ H Q=(ta σ H fun x H1=>BlQ x fun c=>if c=true then tb σ H1 Q else Q (.bl false) H1):=rfl
theorem YF (ta tb:TE) (σ:St) (H:Hp) (Q:VK):yO ta tb σ H Q=(ta σ H fun x H1=>BlQ x fun c=>if c=true then Q (.bl true) H1 else tb σ H1 Q):=rfl
theorem UI (t:TT) (ta tb:TE) (σ:St) (H:Hp) (Q:VK):tIf t ta tb σ H Q=(t σ H fun c H1=>if c=true then ta σ H1 Q else tb σ H1 Q):=rfl
theorem yq (D:jk) (σ:St) (H:Hp):QL  D σ H=(D.nx σ H):=rfl
theorem uc (t u:TS) (D:jk) (σ:St) (H:Hp):xO t u D σ H=(t { D with nx:=u D } σ H):=rfl
theorem oA (te:TE) (D:jk) (σ:St) (H:Hp):bL te D σ H=(te σ H fun _ H1=>D.nx σ H1):=rfl
theorem tE (te:TE) (D:jk) (σ:St) (H:Hp):IN te D σ H=(te σ H D.rt):=rfl
theorem Ew (x_0:jk) (x_1:St) (x_2:Hp):bJ  x_0 x_1 x_2=(False):=rfl
theorem Ig (i:Nat) (v:V) (σ:St) (H:Hp) (Q:(St→Hp→Prop)):au i v σ H Q=(Q (σ.set i (some v)) H):=rfl
theorem ZF (vs:List V) (σ:St) (H:Hp) (Q:(St→Hp→Prop)):XM  vs σ H Q=(vs=[]∧Q σ H):=rfl
theorem gB (t:TG) (u:TGs) (vs:List V) (σ:St) (H:Hp) (Q:(St→Hp→Prop)):iC t u vs σ H Q=(∃ v r,vs=v :: r∧t v σ H fun σ' H'=>u r σ' H' Q):=rfl
theorem bF (K:PySem.W.Frag) (n:Nat) (t:TGs) (v:V) (σ:St) (H:Hp) (Q:(St→Hp→Prop)):IL K n t v σ H Q=(∃ a xs,v=.ref a∧SqT K H a xs∧xs.length=n∧t xs σ H Q):=rfl
theorem JE (to ti:TE) (t:YM) (v:V) (σ:St) (H:Hp) (Q:(St→Hp→Prop)):lO to ti t v σ H Q=(to σ H fun o H1=>ti σ H1 fun i H2=>t o i v H2 fun H3=>Q σ H3):=rfl
theorem uF (te:TE) (g:TG) (D:jk) (σ:St) (H:Hp):oM te g D σ H=(te σ H fun x H1=>g x σ H1 D.nx):=rfl
theorem Qz (K:PySem.W.Frag) (tl:TE) (σ:St) (H:Hp) (R:(It→Hp→Prop)):WL K tl σ H R=(tl σ H fun x H1=>lj x fun a=>(∃ xs,SqL K H1 a xs)∧R (Itl K a) H1):=rfl
theorem UH (r:R2) (ta tb:TE) (σ:St) (H:Hp) (Q:VK):tOp r ta tb σ H Q=(ta σ H fun x H1=>tb σ H1 fun y H2=>r x y H2 Q):=rfl
theorem gJ (r:V→Hp→VK→Prop) (ta:TE) (σ:St) (H:Hp) (Q:VK):tUn r ta σ H Q=(ta σ H fun x H1=>r x H1 Q):=rfl
theorem OL (C:Int→Int→Prop) (g:Int→Int→V) (x:V) (y:V) (H:Hp) (Q:VK):rI C g x y H Q=(Xk x fun i=>Xk y fun j=>C i j∧Q (g i j) H):=rfl
theorem XH (g:Int→Int→V) (x:V) (y:V) (H:Hp) (Q:VK):rI0 g x y H Q=(Xk x fun i=>Xk y fun j=>Q (g i j) H):=rfl
theorem VL (g:Int→V) (x:V) (H:Hp) (Q:VK):rU g x H Q=(Xk x fun i=>Q (g i) H):=rfl
theorem iJ (x:V) (y:V) (H:Hp) (Q:VK):rEq  x y H Q=(MM x y=true∧Q (.bl (decide (x=y))) H):=rfl
theorem TH (x:V) (y:V) (H:Hp) (Q:VK):rNe  x y H Q=(MM x y=true∧Q (.bl (!decide (x=y))) H):=rfl
theorem Lz (t:TE) (σ:St) (H:Hp) (Q:(Bool→Hp→Prop)):eL t σ H Q=(t σ H fun x H'=>BlQ x fun k=>Q k H'):=rfl
theorem nD (K:PySem.W.Frag) (ta:TE) (f:Str) (σ:St) (H:Hp) (Q:VK):vO K ta f σ H Q=(ta σ H fun x H1=>lj x fun a=>∃ v,vk K H1 a f v∧Q v H1):=rfl
theorem DE (K:PySem.W.Frag) (ta tv:TE) (f:Str) (D:jk) (σ:St) (H:Hp):bO K ta tv f D σ H=(tv σ H fun y H1=>ta σ H1 fun x H2=>lj x fun a=>∃ C dx fs,H2 a=some (.ins C dx fs)∧Cls K C∧zb K C f∧fs.length < 1000 ∧
 D.nx σ (upd H2 a (.ins C dx (Vh f y fs)))):=rfl
theorem Cu (K:PySem.W.Frag) (ta tv:TE) (rd:V→V→Hp→VK→Prop) (f:Str) (D:jk) (σ:St) (H:Hp):bG K ta tv rd f D σ H=(ta σ H fun x H1=>∃ a C dx fs v,x=.ref a∧H1 a=some (.ins C dx fs)∧Cls K C∧zb K C f∧fs.lookup f=some v ∧
 tv σ H1 fun y H2=>rd v y H2 fun z H3=>∃ dx' fs',H3 a=some (.ins C dx' fs')∧fs'.length < 1000∧D.nx σ (upd H3 a (.ins C dx' (Vh f z fs')))):=rfl
theorem IE (x:V) (y:V) (H:Hp) (Q:VK):mO  x y H Q=(∃ i j,x=.int i∧y=.int j∧Q (.int (i + j)) H):=rfl
theorem qD (x_0:St) (H:Hp) (Q:(List V→Hp→Prop)):SM  x_0 H Q=(Q [] H):=rfl
theorem fB (ta:TE) (tr:TA) (σ:St) (H:Hp) (Q:(List V→Hp→Prop)):ZK ta tr σ H Q=(ta σ H fun x H1=>tr σ H1 fun xs H2=>Q (x :: xs) H2):=rfl
theorem rE (t:TA) (σ:St) (H:Hp) (Q:VK):oO t σ H Q=(t σ H fun xs H1=>xs.length ≤ sizeLine∧∀ p,H1 p=none→Q (.ref p) (upd H1 p (.tup xs))):=rfl
theorem XE (t:TA) (σ:St) (H:Hp) (Q:VK):nO t σ H Q=(t σ H fun xs H1=>xs.length ≤ sizeLine∧∀ p,H1 p=none→Q (.ref p) (upd H1 p (.lst xs))):=rfl
theorem yA (sp:Sp) (dvs:List V) (E:XK) (t:TA) (σ:St) (H:Hp) (Q:VK):DF sp dvs E t σ H Q=(t σ H fun vs H1=>sp (vs ++ dvs) H1 Q E):=rfl
theorem HA (C:Addr) (m:Str) (sp:Sp) (dvs:List V) (E:XK) (ta:TE) (t:TA) (σ:St) (H:Hp) (Q:VK):LJ C m sp dvs E ta t σ H Q=(ta σ H fun x H1=>lj x fun a=>∃ dx fs,H1 a=some (.ins C dx fs)∧fs.lookup m=none ∧
 t σ H1 fun vs H2=>sp (x :: (vs ++ dvs)) H2 Q E):=rfl
theorem MA (C:Addr) (sp:Sp) (dvs:List V) (E:XK) (t:TA) (σ:St) (H:Hp) (Q:VK):gL C sp dvs E t σ H Q=(t σ H fun vs H1=>∀ x dx,H1 x=none→H1 dx=none→dx ≠ x →
 sp (.ref x :: (vs ++ dvs)) (upd (upd H1 dx (.own x)) x (.ins C dx [])) (fun v H2=>v=.non∧Q (.ref x) H2) E):=rfl
theorem EI (r:List V→Hp→VK→Prop) (t:TA) (σ:St) (H:Hp) (Q:VK):tCB r t σ H Q=(t σ H fun vs H1=>r vs H1 Q):=rfl
theorem Au (x_0:St) (H:Hp) (Q:(Option Int→Hp→Prop)):mE  x_0 H Q=(Q none H):=rfl
theorem pA (t:TE) (σ:St) (H:Hp) (Q:(Option Int→Hp→Prop)):vM t σ H Q=(t σ H fun x H1=>Xk x fun i=>Q (some i) H1):=rfl
theorem YH (r:V→Option Int→Option Int→Hp→VK→Prop) (te:TE) (tl th:TO) (σ:St) (H:Hp) (Q:VK):tSl r te tl th σ H Q=(te σ H fun x H1=>tl σ H1 fun l H2=>th σ H2 fun u H3=>r x l u H3 Q):=rfl
theorem UE (K:PySem.W.Frag) (x:V) (y:V) (H:Hp) (Q:VK):fO K x y H Q=(lj x fun p=>∃ xs,Xk y fun i=>SqL K H p xs∧∃ v,atI xs i=some v∧Q v H):=rfl
theorem DD (K:PySem.W.Frag) (x:V) (y:V) (H:Hp) (Q:VK):rO K x y H Q=(lj x fun p=>∃ xs,Xk y fun i=>SqT K H p xs∧∃ v,atI xs i=some v∧Q v H):=rfl
theorem GF (x:V) (y:V) (H:Hp) (Q:VK):qO  x y H Q=(∃ z i c,x=.str z∧y=.int i∧z.length ≤ sizeLine∧atI z.cps.toList i=some c∧Q (.str ⟨#[c]⟩) H):=rfl
theorem dA (o:V) (i:V) (v:V) (H:Hp) (Q:(Hp→Prop)):xL  o i v H Q=(lj o fun p=>∃ xs,Xk i fun k=>H p=some (.lst xs)∧∃ j,ixN xs.length k=some j∧Q (upd H p (.lst (xs.set j v)))):=rfl
theorem yD (K:PySem.W.Frag) (x:V) (lo:Option Int) (hi:Option Int) (H:Hp) (Q:VK):kO K x lo hi H Q=(∃ a xs,x=.ref a∧SqL K H a xs∧∀ p,H p=none→Q (.ref p) (upd H p (.lst (NG xs lo hi)))):=rfl
theorem RI (K:PySem.W.Frag) (neg:Bool) (x:V) (y:V) (H:Hp) (Q:VK):rIn K neg x y H Q=(∃ p xs,y=.ref p∧(SqL K H p xs∨SqT K H p xs)∧Lm x=true∧xs.all Lm=true∧Q (.bl (if neg then !inV x xs else inV x xs)) H):=rfl
theorem xI (K:PySem.W.Frag) (T:String) (r:V→List V→Hp→VK→Prop) (to:TE) (t:TA) (σ:St) (H:Hp) (Q:VK):tBM K T r to t σ H Q=(to σ H fun x H1=>tyV K T x H1∧t σ H1 fun xs H2=>r x xs H2 Q):=rfl
theorem Du (x:V) (vs:List V) (H:Hp) (Q:VK):bD  x vs H Q=(lj x fun l=>MB vs fun y=>∃ xs,H l=some (.lst xs)∧xs.length < sizeLine∧Q .non (upd H l (.lst (xs ++ [y])))):=rfl
theorem Cw (x:V) (vs:List V) (H:Hp) (Q:VK):VH  x vs H Q=(∃ l xs i k y,x=.ref l∧vs=[.int i]∧H l=some (.lst xs)∧-(2 ^ 63) ≤ i∧i < 2 ^ 63∧seqIndex? i xs.length=some k∧xs[k]? = some y∧Q y (upd H l (.lst (xs.eraseIdx k)))):=rfl
theorem tF (x:V) (y:V) (H:Hp) (Q:VK):pO  x y H Q=(∃ l b xs zs,x=.ref l∧y=.ref b∧H l=some (.lst xs)∧H b=some (.lst zs)∧xs.length + zs.length ≤ sizeLine∧∀ p,H p=none→Q (.ref p) (upd H p (.lst (xs ++ zs)))):=rfl
theorem LA (td ty:TE) (σ:St) (H:Hp) (Q:VK):ZL td ty σ H Q=(td σ H fun x H1=>ty σ H1 fun y H2=>lj x fun a=>∃ v,mw H2 a y (some v)∧Q v H2):=rfl
theorem Mu (ty td:TE) (σ:St) (H:Hp) (Q:VK):pE ty td σ H Q=(ty σ H fun y H1=>td σ H1 fun x H2=>lj x fun a=>∃ o,mw H2 a y o∧Q (.bl (!o.isSome)) H2):=rfl
theorem Rz (td ty tv:TE) (D:jk) (σ:St) (H:Hp):vL td ty tv D σ H=(tv σ H fun v H1=>td σ H1 fun x H2=>ty σ H2 fun y H3=>lj x fun a=>∃ H4,aG H3 a y v H4∧D.nx σ H4):=rfl
theorem zw (x_0:St) (H:Hp) (Q:VK):tI  x_0 H Q=(∀ p,H p=none→Q (.ref p) (upd H p (.dK []))):=rfl
theorem Wz (x_0:St) (H:Hp) (Q:(Bool→Hp→Prop)):Ay  x_0 H Q=(Q true H):=rfl
theorem oF (tl:TE) (σ:St) (H:Hp) (R:(It→Hp→Prop)):iO tl σ H R=(tl σ H fun x H1=>∃ z,x=.str z∧R (Its (Qk z)) H1):=rfl
theorem eB (K:PySem.W.Frag) (x:V) (vs:List V) (H:Hp) (Q:VK):pL K x vs H Q=(∃ sep p ys,x=.str sep∧vs=[.ref p]∧SqL K H p (Pb ys)∧(ys.map (·.length)).sum + ys.length * sep.length ≤ 16777216∧Q (.str (Txt.join sep ys)) H):=rfl
theorem mx (x:V) (vs:List V) (H:Hp) (Q:VK):hJ  x vs H Q=(∃ z y,x=.str z∧vs=[.str y]∧y.length ≠ 0∧z.length + 2 ≤ sizeLine∧(Txt.split z y).length ≤ sizeLine∧∀ p,H p=none→Q (.ref p) (upd H p (.lst (Pb (Txt.split z y))))):=rfl
theorem tw (OK:Addr→Prop) (m:Str) (SPV:Addr→Sp) (E:XK) (ta:TE) (t:TA) (σ:St) (H:Hp) (Q:VK):iI OK m SPV E ta t σ H Q=(ta σ H fun x H1=>∃ a C dx fs,x=.ref a∧H1 a=some (.ins C dx fs)∧OK C∧fs.lookup m=none ∧
 t σ H1 fun vs H2=>SPV C (x :: vs) H2 Q E):=rfl
theorem rA (K:PySem.W.Frag) (ta:TA) (σ:St) (H:Hp) (R:(It→Hp→Prop)):EL K ta σ H R=(ta σ H fun vs H1=>∃ a,vs=[.ref a]∧(∃ xs,SqL K H1 a xs)∧R (Ite K a) H1):=rfl
theorem NF (K:PySem.W.Frag) (x:V) (y:V) (H:Hp) (Q:VK):aO K x y H Q=(∃ p q b,x=.ref p∧y=.ref q∧EqH K H 8 (.ref p) (.ref q) b∧Q (.bl (!b)) H):=rfl
theorem GI (x_0:St) (H:Hp) (Q:(Hp→Prop)):tJ0  x_0 H Q=(Q H):=rfl
theorem LI (te:TE) (t:TJ) (σ:St) (H:Hp) (Q:(Hp→Prop)):tJI te t σ H Q=(te σ H fun v H1=>∃ i,v=.int i∧i.natAbs.log2 < 1920∧t σ H1 Q):=rfl
theorem bI (te:TE) (t:TJ) (σ:St) (H:Hp) (Q:(Hp→Prop)):tJR te t σ H Q=(te σ H fun v H1=>∃ x,v=.str x∧x.length ≤ 1000∧(∀ c ∈ x.cps.toList,c < 16 ^ 8)∧t σ H1 Q):=rfl
theorem su (t:TJ) (σ:St) (H:Hp) (Q:VK):eD t σ H Q=(t σ H fun H1=>∀ y:Str,Q (.str y) H1):=rfl
theorem Lx (K:PySem.W.Frag) (t:TA) (σ:St) (H:Hp) (Q:VK):lJ K t σ H Q=(t σ H fun vs H1=>∃ x C od v,vs=[.ref x,v]∧H1 x=some (.ext (XF x C od))∧Ks K C∧Q .non H1):=rfl
theorem Yx (C:Addr) (sp:Sp) (t:TA) (σ:St) (H:Hp) (Q:VK):jJ C sp t σ H Q=(t σ H fun vs H1=>vs.length ≤ sizeLine∧∀ x,H1 x=none→sp (.ref x :: vs) (upd H1 x (.ext (XF x C none))) (fun v H2=>v=.non∧Q (.ref x) H2) (fun _ _ _=>False)):=rfl
theorem ax (K:PySem.W.Frag) (ta tv:TE) (f:Str) (D:jk) (σ:St) (H:Hp):WH K ta tv f D σ H=(tv σ H fun y H1=>ta σ H1 fun x H2=>∃ a C,x=.ref a∧H2 a=some (.ext (XF a C none))∧Ks K C∧zb K C f ∧
 ∀ dx,H2 dx=none→dx ≠ a→D.nx σ (upd (upd H2 a (.ext (XF a C (some dx)))) dx (.ext (XD dx [(f,y)])))):=rfl
theorem lw (K:PySem.W.Frag) (ta tv:TE) (f:Str) (D:jk) (σ:St) (H:Hp):ZI K ta tv f D σ H=(tv σ H fun y H1=>ta σ H1 fun x H2=>∃ a C dx fs,x=.ref a∧H2 a=some (.ext (XF a C (some dx)))∧H2 dx=some (.ext (XD dx fs))∧Ks K C∧zb K C f∧fs.length < 1000 ∧
 D.nx σ (upd H2 dx (.ext (XD dx (Vh f y fs))))):=rfl
theorem sA (K:PySem.W.Frag) (ta:TE) (f:Str) (σ:St) (H:Hp) (Q:VK):PK K ta f σ H Q=(ta σ H fun x H1=>∃ a C dx fs v,x=.ref a∧H1 a=some (.ext (XA a C (some dx)))∧H1 dx=some (.ext (XD dx fs))∧Ks K C∧zb K C f∧fs.lookup f=some v∧Q v H1):=rfl
theorem vx (sp:Sp) (dvs:List V) (E:St→XK) (t:TA) (σ:St) (H:Hp) (Q:VK):gI sp dvs E t σ H Q=(t σ H fun vs H1=>sp (vs ++ dvs) H1 Q (E σ)):=rfl
theorem Ux (K:PySem.W.Frag) (E:St→XK) (te:TE) (D:jk) (σ:St) (H:Hp):kJ K E te D σ H=(te σ H fun v H1=>∃ x C od,v=.ref x∧H1 x=some (.ext (XF x C od))∧Ks K C∧E σ (.ref C) od (upd H1 x (.ext (XA x C od)))):=rfl
theorem CA (ta:TA) (σ:St) (H:Hp) (R:(It→Hp→Prop)):eM ta σ H R=(ta σ H fun vs H1=>∃ i j:Int,vs=[.int i,.int j,.int (-1)]∧(-1073741824 ≤ i∧i < 1073741824∧-1073741824 ≤ j∧j < 1073741824)∧R (Itd i (i - j).toNat) H1):=rfl
theorem Fs (K:PySem.W.Frag) (ta:TA) (σ:St) (H:Hp) (Q:VK):WA K ta σ H Q=(ta σ H fun vs H1=>∃ a xs,vs=[.ref a]∧SqL K H1 a xs∧∀ l,H1 l=none→Q (.ref l) (upd H1 l (.lst xs.reverse))):=rfl
theorem UA (K:PySem.W.Frag) (ta:TA) (td:TE) (σ:St) (H:Hp) (Q:VK):QK K ta td σ H Q=(ta σ H fun vs H1=>td σ H1 fun y H2=>∃ l ks,vs=[.ref l]∧SqL K H2 l (List.map V.int ks)∧Q (match ks.min? with | some m=>.int m | none=>y) H2):=rfl
theorem gA (x:V) (vs:List V) (H:Hp) (Q:VK):Ts  x vs H Q=(∃ d kvs,x=.ref d∧vs=[]∧H d=some (.dK kvs)∧∀ p,H p=none→Q (.ref p) (upd H p (.ext (PL p d)))):=rfl
theorem II (x_0:St) (H:Hp) (acc:Str) (Q:(Str→Hp→Prop)):tF0  x_0 H acc Q=(acc.length ≤ sizeLine∧Q acc H):=rfl
theorem lI (c:Str) (t:TF) (σ:St) (H:Hp) (acc:Str) (Q:(Str→Hp→Prop)):tFC c t σ H acc Q=(acc.length + c.length ≤ sizeLine∧t σ H (acc ++ c) Q):=rfl
theorem SI (te:TE) (t:TF) (σ:St) (H:Hp) (acc:Str) (Q:(Str→Hp→Prop)):tFI te t σ H acc Q=(te σ H fun v H1=>∃ i,v=.int i∧i.natAbs.log2 < 1920∧acc.length + (Str.ofString (toString i)).length ≤ sizeLine∧t σ H1 (acc ++ Str.ofString (toString i)) Q):=rfl
theorem MI (te:TE) (t:TF) (σ:St) (H:Hp) (acc:Str) (Q:(Str→Hp→Prop)):tFS te t σ H acc Q=(te σ H fun v H1=>∃ x,v=.str x∧x.length ≤ 1000∧acc.length + x.length ≤ sizeLine∧t σ H1 (acc ++ x) Q):=rfl
theorem px (t:TF) (σ:St) (H:Hp) (Q:VK):CI t σ H Q=(t σ H Str.empty fun y H1=>Q (.str y) H1):=rfl
theorem Sx (hx:Addr) (K:PySem.W.Frag) (tl:TE) (σ:St) (H:Hp) (R:(It→Hp→Prop)):QI hx K tl σ H R=(tl σ H fun x H1=>lj x fun a=>(∃ xs,SqL K H1 a xs)∧R (VM hx K a) H1):=rfl
noncomputable def uj (J:It) (g:TG) (tb:TS) (D:jk) (σ:St) (H:Hp):Prop:=∃ W:Nat→Nat→St→Hp→Prop,(∃ m,W 0 m σ H)∧∀ i m σ H,W i m σ H →
 (J.stop i H∧D.nx σ H)∨(J.go i H∧∃ N:St→Hp→Prop,(∀ σ' H',N σ' H'→∃ m',m' < m∧W (i + 1) m' σ' H')∧∀ x H',J.yld i H x H'→g x σ H' fun σ2 H2=>tb { D with nx:=N,ct:=N,bk:=D.nx } σ2 H2)
theorem BE (wi:TI) (g:TG) (tb:TS) (D:jk) (σ:St) (H:Hp):cO wi g tb D σ H=wi σ H fun J H1=>uj J g tb D σ H1:=rfl
noncomputable def Zd (J:It) (g:TG) (tc:TT) (te:TE) (σb:St) (Q:VK) (H:Hp):Prop:=∃ W:Nat→Nat→List V→Hp→Prop,(∃ m,W 0 m [] H)∧Dz J g tc te σb Q W
theorem Pz (wi:TI) (g:TG) (tc:TT) (te:TE) (sel:List (Option Nat)) (σ:St) (H:Hp) (Q:VK):zH wi g tc te sel σ H Q=wi σ H fun J H1=>Zd J g tc te (blk sel σ) Q H1:=rfl
theorem Tz (ta:TA) (σ:St) (H:Hp) (R:It→Hp→Prop):RL ta σ H R=(ta σ H fun vs H1=>MB vs fun x=>Xk x fun j=>-4611686018427387904 ≤ j∧j < 4611686018427387904∧R (Itr 0 j.toNat) H1):=rfl
theorem qN {α β:Type} (f:α→β):[].map f=[]:=rfl
theorem zN {α β:Type} (f:α→β) (a:α) (l:List α):(a :: l).map f=f a :: l.map f:=rfl
theorem DN {α:Type} (l:List α):[] ++ l=l:=rfl
theorem TN {α:Type} (a:α) (l r:List α):(a :: l) ++ r=a :: (l ++ r):=rfl
theorem FN {α:Type} (a b:α) (l:List α):(a :: l).set 0 b=b :: l:=rfl
theorem KN {α:Type} (a b:α) (l:List α) (n:Nat):(a :: l).set (n + 1) b=a :: l.set n b:=rfl
theorem uN {α:Type} (a:α) (l:List α):(a :: l)[0]? = some a:=rfl
theorem ON {α:Type} (a:α) (l:List α) (n:Nat):(a :: l)[n + 1]? = l[n]?:=rfl
theorem bN {α:Type}:([]:List α).length=0:=rfl
theorem tN {α:Type} (a:α) (l:List α):(a :: l).length=l.length + 1:=rfl
theorem dBn {α β:Type} (f:α→Option β):(none:Option α).bind f=none:=rfl
theorem dBs {α β:Type} (f:α→Option β) (a:α):(some a).bind f=f a:=rfl
theorem dJs {α:Type} (a:Option α):(some a).join=a:=rfl
theorem dJn {α:Type}:(none:Option (Option α)).join=none:=rfl
theorem wF (sel:List (Option Nat)) (σ:St):blk sel σ=sel.map fun o=>o.bind fun j=>(σ[j]?).join:=rfl
theorem Nc {c:TT} {t u:TS} {D:jk} {σ:St} {H:Hp} (b:Bool) (hc:∀ Q:Bool→Hp→Prop,Q b H→c σ H Q) (h1:b=true→t D σ H) (h2:b=false→u D σ H):yN c t u D σ H:=by
 refine hc _ ?_;cases b with
 | true=>exact h1 rfl
 | false=>exact h2 rfl
theorem qk {c:TT} {t u:TS} {D:jk} {σ:St} {H:Hp} (R:Bool→Hp→Prop) (hc:∀ Q:Bool→Hp→Prop,(∀ b H',R b H'→Q b H')→c σ H Q) (h1:∀ H',R true H'→t D σ H') (h2:∀ H',R false H'→u D σ H'):yN c t u D σ H:=by
 refine hc _ fun b H' r=>?_
 cases b with
 | true=>exact h1 H' r
 | false=>exact h2 H' r
theorem Kd {t:TS} {D:jk} {σ:St} {H:Hp} (R:St→Hp→Prop) (h:∀ D':jk,(∀ σ H,R σ H→D'.nx σ H)→D'.rt=D.rt→D'.bk=D.bk→D'.ct=D.ct→t D' σ H) (hR:∀ σ H,R σ H→D.nx σ H):t D σ H:=h D hR rfl rfl rfl
theorem zzC {t:TS} {D:jk} {σ:St} {H:Hp} (R:St->Hp->Prop) (h:∀ D':jk,(∀ σ H,R σ H->D'.nx σ H)->t D' σ H) (hR:∀ M,M=D.nx->∀ σ H,R σ H->M σ H):t D σ H:=h D (hR _ rfl)
theorem zP {p:Prop} (h:∀ q,q=p->q):p:=h p rfl
theorem zzD {t:TS} {D:jk} {σ:St} {H:Hp} (R:St->Hp->Prop) (h:∀ D':jk,(∀ σ H,R σ H->D'.nx σ H)->t D' σ H) (hR:∀ σ H,R σ H->D.nx σ H):t D σ H:=h D hR
theorem zS {t u:TS} {D:jk} {σ:St} {H:Hp} (R:St->Hp->Prop) (h:∀ D':jk,(∀ σ H,R σ H->D'.nx σ H)->t D' σ H) (hR:∀ M,M=u D->∀ σ H,R σ H->M σ H):xO t u D σ H:=h { D with nx:=u D } (hR _ rfl)
theorem RJ {te:TE} {D:jk} {σ:St} {H:Hp} (v:V) (hc:∀ Q:VK,Q v H→te σ H Q) (h:D.rt v H):IN te D σ H:=hc _ h
theorem vd (x y:Str):(x ++ y).length=x.length + y.length:=by
 show (x.cps ++ y.cps).size=_;rw [Array.size_append];rfl
theorem uj.range {lo:Int} {n:Nat} {g:TG} {tb:TS} {D:jk} {σ:St} {H:Hp} (Pv:Nat→St→Hp→Prop) (h0:Pv 0 σ H)
  (hs:∀ i σ H,i < n→Pv i σ H→g (.int (lo + i)) σ H fun σ2 H2=>tb { D with nx:=Pv (i + 1),ct:=Pv (i + 1),bk:=D.nx } σ2 H2) (hd:∀ σ H,Pv n σ H→D.nx σ H):uj (Itr lo n) g tb D σ H:=WE Pv h0 hs hd
theorem uj.list {K:PySem.W.Frag} {a:Addr} {xs:List V} {g:TG} {tb:TS} {D:jk} {σ:St} {H:Hp} (Pv:Nat→St→Hp→Prop) (h0:Pv 0 σ H) (hl:∀ i σ H,i ≤ xs.length→Pv i σ H→SqL K H a xs)
  (hs:∀ i x σ H,xs[i]? = some x→Pv i σ H→g x σ H fun σ2 H2=>tb { D with nx:=Pv (i + 1),ct:=Pv (i + 1),bk:=D.nx } σ2 H2) (hd:∀ σ H,Pv xs.length σ H→D.nx σ H):uj (Itl K a) g tb D σ H:=SG Pv h0 hl hs hd
theorem uj.its {xs:List V} {g:TG} {tb:TS} {D:jk} {σ:St} {H:Hp} (Pv:Nat→St→Hp→Prop) (h0:Pv 0 σ H)
  (hs:∀ i x σ H,xs[i]? = some x→Pv i σ H→g x σ H fun σ2 H2=>tb { D with nx:=Pv (i + 1),ct:=Pv (i + 1),bk:=D.nx } σ2 H2) (hd:∀ σ H,Pv xs.length σ H→D.nx σ H):uj (Its xs) g tb D σ H:=WJ Pv h0 hs hd
theorem Zd.list {K:PySem.W.Frag} {a:Addr} {xs:List V} {g:TG} {tc:TT} {te:TE} {σb:St} {Q:VK} {H:Hp} (Pv:Nat→List V→Hp→Prop) (hz:xs.length ≤ sizeLine) (h0:Pv 0 [] H) (hl:∀ i ys H,i ≤ xs.length→Pv i ys H→SqL K H a xs∧ys.length ≤ i)
  (hs:∀ i x ys H,xs[i]? = some x→Pv i ys H→Yi Pv g tc te σb i x ys H) (hd:∀ ys H,Pv xs.length ys H→∀ p,H p=none→Q (.ref p) (upd H p (.lst ys))):Zd (Itl K a) g tc te σb Q H:=eG Pv hz h0 hl hs hd
theorem Zd.its {xs:List V} {g:TG} {tc:TT} {te:TE} {σb:St} {Q:VK} {H:Hp} (Pv:Nat→List V→Hp→Prop) (hz:xs.length ≤ sizeLine) (h0:Pv 0 [] H) (hl:∀ i ys H,i ≤ xs.length→Pv i ys H→ys.length ≤ i)
  (hs:∀ i x ys H,xs[i]? = some x→Pv i ys H→Yi Pv g tc te σb i x ys H) (hd:∀ ys H,Pv xs.length ys H→∀ p,H p=none→Q (.ref p) (upd H p (.lst ys))):Zd (Its xs) g tc te σb Q H:=AH Pv hz h0 hl hs hd
theorem Zd.range {lo:Int} {n:Nat} {g:TG} {tc:TT} {te:TE} {σb:St} {Q:VK} {H:Hp} (Pv:Nat→List V→Hp→Prop) (hz:n ≤ sizeLine) (h0:Pv 0 [] H) (hl:∀ i ys H,i ≤ n→Pv i ys H→ys.length ≤ i)
  (hs:∀ i ys H,i < n→Pv i ys H→Yi Pv g tc te σb i (.int (lo + i)) ys H) (hd:∀ ys H,Pv n ys H→∀ p,H p=none→Q (.ref p) (upd H p (.lst ys))):Zd (Itr lo n) g tc te σb Q H:=JB Pv hz h0 hl hs hd
theorem Cv {α β:Type} {xs:List α} {i:Nat} {x:α} (f:α→β) (h:xs[i]? = some x):(xs.take (i + 1)).map f=(xs.take i).map f ++ [f x]:=by
 rw [List.take_add_one,h,List.map_append];rfl
theorem Zd.its_map {xs:List V} {g:TG} {te:TE} {σb:St} {Q:VK} {H:Hp} (f:V→V) (hz:xs.length ≤ sizeLine) (hs:∀ (i:Nat) (x:V) (N:V→Hp→Prop),xs[i]? = some x→N (f x) H→g x σb H fun σ2 H2=>Sub σb σ2∧te σ2 H2 N)
  (hd:∀ p,H p=none→Q (.ref p) (upd H p (.lst (xs.map f)))):Zd (Its xs) g Ay te σb Q H:=by
 refine Zd.its (fun i ys H'=>H'=H∧ys=(xs.take i).map f) hz ⟨rfl,rfl⟩ (fun i ys H' hi ⟨_,e⟩=>?_) (fun i x ys H' hx ⟨e1,e2⟩ N hN=>?_) (fun ys H' ⟨e1,e2⟩ p hp=>?_)
 ·rw [e,List.length_map,List.length_take];omega
 ·subst e1;exact hs i x (fun y H4=>N (ys ++ [y]) H4) hx (hN _ _ ⟨rfl,by rw [e2,Cv f hx]⟩)
 ·subst e1;rw [e2,List.take_length];exact hd p hp
theorem Zd.range_map {lo:Int} {n:Nat} {g:TG} {te:TE} {σb:St} {Q:VK} {H:Hp} (f:Nat→V) (hz:n ≤ sizeLine) (hs:∀ (i:Nat) (N:V→Hp→Prop),i < n→N (f i) H→g (.int (lo + i)) σb H fun σ2 H2=>Sub σb σ2∧te σ2 H2 N)
  (hd:∀ p,H p=none→Q (.ref p) (upd H p (.lst ((List.range n).map f)))):Zd (Itr lo n) g Ay te σb Q H:=by
 refine Zd.range (fun i ys H'=>H'=H∧ys=(List.range i).map f) hz ⟨rfl,rfl⟩ (fun i ys H' hi ⟨_,e⟩=>?_) (fun i ys H' hi ⟨e1,e2⟩ N hN=>?_) (fun ys H' ⟨e1,e2⟩ p hp=>?_)
 ·rw [e,List.length_map,List.length_range];exact Nat.le_refl _
 ·subst e1;exact hs i (fun y H4=>N (ys ++ [y]) H4) hi (hN _ _ ⟨rfl,by rw [e2,List.range_succ,List.map_append];rfl⟩)
 ·subst e1;rw [e2];exact hd p hp
theorem Zd.list_mk {K:PySem.W.Frag} {a:Addr} {xs:List V} {g:TG} {te:TE} {σb:St} {Q:VK} {H:Hp} (f:V→HO) (hl:SqL K H a xs) (hz:xs.length ≤ sizeLine) (hn:∀ x,noT (f x)=true)
  (hs:∀ (i:Nat) (x:V) (H1:Hp) (N:V→Hp→Prop),xs[i]? = some x→dc H H1→(NoT H→NoT H1)→(∀ q,H1 q=none→N (.ref q) (upd H1 q (f x)))→g x σb H1 fun σ2 H2=>Sub σb σ2∧te σ2 H2 N)
  (hd:∀ (qs:List Addr) (H1:Hp),dc H H1→(NoT H→NoT H1)→qs.length=xs.length→(∀ (j:Nat) (q:Addr) (x:V),qs[j]? = some q→xs[j]? = some x→H1 q=some (f x)∧H q=none)→∀ p,H1 p=none→Q (.ref p) (upd H1 p (.lst (qs.map V.ref)))):Zd (Itl K a) g Ay te σb Q H:=by
 refine Zd.list (fun i ys H'=>∃ qs:List Addr,ys=qs.map V.ref∧qs.length=i∧dc H H'∧(NoT H→NoT H')∧∀ (j:Nat) (q:Addr) (x:V),qs[j]? = some q→xs[j]? = some x→H' q=some (f x)∧H q=none) hz
  ⟨[],rfl,rfl,dc.refl H,id,fun j q x h _=>by simp at h⟩ ?_ ?_ ?_
 ·rintro i ys H' hi zzq;refine zP fun zzM zzh=>?_
  obtain ⟨qs,e,e2,sm,_,_⟩:=zzq;subst zzh;exact ⟨hl.same sm,by rw [e,List.length_map];omega⟩
 ·rintro i x ys H' hx ⟨qs,e1,e2,sm,nt,al⟩ N hN;refine hs i x H' (fun y H4=>N (ys ++ [y]) H4) hx sm nt fun q hq=>hN _ _ ⟨qs ++ [q],by rw [e1,List.map_append];rfl,by rw [List.length_append,e2];rfl,sm.updN (sm.free hq),fun n=>(nt n).upd (hn x),fun j q' x' h1 h2=>?_⟩
  by_cases hj:j < qs.length
  ·rw [List.getElem?_append_left hj] at h1;obtain ⟨z1,z2⟩:=al j q' x' h1 h2;exact ⟨by rw [rb (xb z1 hq)];exact z1,z2⟩
  ·rw [List.getElem?_append_right (by omega)] at h1;have hj0:j - qs.length=0:=by
    cases hh:j - qs.length with
    | zero=>rfl
    | succ n=>rw [hh] at h1;simp at h1
   rw [hj0] at h1;have e3:q=q':=by simpa using h1
   subst e3;have e4:j=i:=by omega
   subst e4;rw [hx] at h2;cases h2;exact ⟨cb,sm.free hq⟩
 ·rintro ys H' ⟨qs,e1,e2,sm,nt,al⟩ p hp;subst e1;exact hd qs H' sm nt e2 al p hp
theorem uj.of {J:It} {n:Nat} {g:TG} {tb:TS} {D:jk} {σ:St} {H:Hp} (Pv:Nat→St→Hp→Prop) (h0:Pv 0 σ H) (hgo:∀ i σ H,i < n→Pv i σ H→J.go i H) (hst:∀ σ H,Pv n σ H→J.stop n H)
  (hs:∀ i σ H x H',i < n→Pv i σ H→J.yld i H x H'→g x σ H' fun σ2 H2=>tb { D with nx:=Pv (i + 1),ct:=Pv (i + 1),bk:=D.nx } σ2 H2) (hd:∀ σ H,Pv n σ H→D.nx σ H):uj J g tb D σ H:=by
 refine ⟨fun i m σ H=>m=n - i∧i ≤ n∧Pv i σ H,⟨n,by simp,Nat.zero_le _,h0⟩,?_⟩;rintro i m σ H ⟨rfl,hi,p⟩;by_cases hlt:i < n
 ·exact .inr ⟨hgo i σ H hlt p,Pv (i + 1),fun σ' H' p'=>⟨n - (i + 1),by omega,rfl,hlt,p'⟩,fun x H' y=>hs i σ H x H' hlt p y⟩
 ·have e:i=n:=by omega
  subst e;exact .inl ⟨hst σ H p,hd σ H p⟩
theorem Zd.of {J:It} {n:Nat} {g:TG} {tc:TT} {te:TE} {σb:St} {Q:VK} {H:Hp} (Pv:Nat→List V→Hp→Prop) (hz:n ≤ sizeLine) (h0:Pv 0 [] H) (hgo:∀ i ys H,i < n→Pv i ys H→J.go i H) (hst:∀ ys H,Pv n ys H→J.stop n H) (hl:∀ i ys H,i < n→Pv i ys H→ys.length ≤ i)
  (hs:∀ i ys H x H',i < n→Pv i ys H→J.yld i H x H'→Yi Pv g tc te σb i x ys H') (hd:∀ ys H,Pv n ys H→∀ p,H p=none→Q (.ref p) (upd H p (.lst ys))):Zd J g tc te σb Q H:=by
 refine ⟨fun i m ys H=>m=n - i∧i ≤ n∧Pv i ys H,⟨n,by simp,Nat.zero_le _,h0⟩,?_⟩;rintro i m ys H ⟨rfl,hi,p⟩;by_cases hlt:i < n
 ·have hyl:=hl i ys H hlt p;refine .inr ⟨hgo i ys H hlt p,by omega,fun x H' y=>?_⟩;exact hs i ys H x H' hlt p y (fun ys' H'=>∃ m',m' < n - i∧m'=n - (i + 1)∧i + 1 ≤ n∧Pv (i + 1) ys' H') fun ys' H' r=>⟨n - (i + 1),by omega,rfl,hlt,r⟩
 ·have e:i=n:=by omega
  subst e;exact .inl ⟨hst ys H p,hd ys H p⟩
section
variable {K:PySem.W.Frag} {a b:Addr} {xs ys:List V} {g:TG} {tb:TS} {D:jk} {σ σb:St} {H:Hp} {tc:TT} {te:TE} {Q:VK}
theorem uj.enum (Pv:Nat→St→Hp→Prop) (h0:Pv 0 σ H) (hl:∀ i σ H,i ≤ xs.length→Pv i σ H→SqL K H a xs)
  (hs:∀ i x σ H p,xs[i]? = some x→Pv i σ H→H p=none→g (.ref p) σ (upd H p (.tup [.int i,x])) fun σ2 H2=>tb { D with nx:=Pv (i + 1),ct:=Pv (i + 1),bk:=D.nx } σ2 H2) (hd:∀ σ H,Pv xs.length σ H→D.nx σ H):uj (Ite K a) g tb D σ H:=by
 refine uj.of (n:=xs.length) Pv h0 (fun i σ H hi p=>⟨xs,xs[i],hl i σ H (Nat.le_of_lt hi) p,by simp [hi]⟩) (fun σ H p=>⟨xs,hl _ σ H (Nat.le_refl _) p,Nat.le_refl _⟩) (fun i σ H v H' hi p y=>?_) hd;obtain ⟨q,x,hq,rfl,hx,rfl⟩:=y;exact hs i x σ H q (hx xs (hl i σ H (Nat.le_of_lt hi) p)) p hq
theorem uj.zip (Pv:Nat→St→Hp→Prop) (h0:Pv 0 σ H) (hl:∀ i σ H,i ≤ xs.length→Pv i σ H→SqL K H a xs∧SqL K H b ys) (n:Nat) (hn:n=min xs.length ys.length)
  (hs:∀ i x y σ H p,xs[i]? = some x→ys[i]? = some y→Pv i σ H→H p=none→g (.ref p) σ (upd H p (.tup [x,y])) fun σ2 H2=>tb { D with nx:=Pv (i + 1),ct:=Pv (i + 1),bk:=D.nx } σ2 H2) (hd:∀ σ H,Pv n σ H→D.nx σ H):uj (Itz K a b) g tb D σ H:=by
 subst hn;refine uj.of (n:=min xs.length ys.length) Pv h0 (fun i σ H hi p=>?_) (fun σ H p=>?_) (fun i σ H v H' hi p y=>?_) hd
 ·obtain ⟨z1,z2⟩:=hl i σ H (by omega) p;exact ⟨xs,ys,xs[i],ys[i],z1,z2,by rw [List.getElem?_eq_getElem (by omega)],by rw [List.getElem?_eq_getElem (by omega)]⟩
 ·obtain ⟨z1,z2⟩:=hl _ σ H (by omega) p;exact ⟨xs,ys,z1,z2,by omega⟩
 ·obtain ⟨q,x,y,hq,rfl,hx,hy,rfl⟩:=y;obtain ⟨z1,z2⟩:=hl i σ H (by omega) p;exact hs i x y σ H q (hx xs z1) (hy ys z2) p hq
theorem Zd.enum (Pv:Nat→List V→Hp→Prop) (hz:xs.length ≤ sizeLine) (h0:Pv 0 [] H) (hl:∀ i ys H,i ≤ xs.length→Pv i ys H→SqL K H a xs∧ys.length ≤ i)
  (hs:∀ i x ys H p,xs[i]? = some x→Pv i ys H→H p=none→Yi Pv g tc te σb i (.ref p) ys (upd H p (.tup [.int i,x]))) (hd:∀ ys H,Pv xs.length ys H→∀ p,H p=none→Q (.ref p) (upd H p (.lst ys))):Zd (Ite K a) g tc te σb Q H:=by
 refine Zd.of (n:=xs.length) Pv hz h0 (fun i ys H hi p=>⟨xs,xs[i],(hl i ys H (Nat.le_of_lt hi) p).1,by simp [hi]⟩) (fun ys H p=>⟨xs,(hl _ ys H (Nat.le_refl _) p).1,Nat.le_refl _⟩) (fun i ys H hi p=>(hl i ys H (Nat.le_of_lt hi) p).2) (fun i zs H v H' hi p y=>?_) hd;obtain ⟨q,x,hq,rfl,hx,rfl⟩:=y;exact hs i x zs H q (hx xs (hl i zs H (Nat.le_of_lt hi) p).1) p hq
theorem mH {i j:Nat} {p:Addr} {x y:V} {R:St→Hp→Prop} (h:SqT K H p [x,y]) (q:R ((σ.set i (some x)).set j (some y)) H):IL K 2 (iC (au i) (iC (au j) XM)) (.ref p) σ H R:=
 ⟨p,_,rfl,h,rfl,x,_,rfl,y,_,rfl,rfl,q⟩
theorem Ml {i j:Nat} {p:Addr} {x y:V} {R:St→Hp→Prop} (q:R ((σ.set i (some x)).set j (some y)) (upd H p (.tup [x,y]))):IL K 2 (iC (au i) (iC (au j) XM)) (.ref p) σ (upd H p (.tup [x,y])) R:=
 mH (.inl (.inl cb)) q
end
theorem Sub.name2 {r:St} {v w:Option V}:Sub (none :: none :: r) (v :: w :: r):=by
 refine ⟨rfl,fun i u h=>?_⟩
 match i with
 | 0=>cases h
 | 1=>cases h
 | i + 2=>exact h
theorem Sub.name3 {r:St} {v w z:Option V}:Sub (none :: none :: none :: r) (v :: w :: z :: r):=by
 refine ⟨rfl,fun i u h=>?_⟩
 match i with
 | 0=>cases h
 | 1=>cases h
 | 2=>cases h
 | i + 3=>exact h
theorem Zd.list_zs {K:PySem.W.Frag} {a:Addr} {xs zs:List V} {g:TG} {te:TE} {σb:St} {Q:VK} {H:Hp} (hl:SqL K H a xs) (hz:xs.length ≤ sizeLine) (he:zs.length=xs.length)
  (hs:∀ (i:Nat) (x z:V) (N:V→Hp→Prop),xs[i]? = some x→zs[i]? = some z→N z H→g x σb H fun σ2 H2=>Sub σb σ2∧te σ2 H2 N) (hd:∀ p,H p=none→Q (.ref p) (upd H p (.lst zs))):Zd (Itl K a) g Ay te σb Q H:=by
 refine Zd.list (fun i ys H'=>H'=H∧ys=zs.take i) hz ⟨rfl,rfl⟩ (fun i ys H' hi ⟨e0,e⟩=>?_) (fun i x ys H' hx ⟨e1,e2⟩ N hN=>?_) (fun ys H' ⟨e1,e2⟩ p hp=>?_)
 ·subst e0;exact ⟨hl,by rw [e,List.length_take];omega⟩
 ·subst e1;have hi:i < zs.length:=by rw [he];exact (List.getElem?_eq_some_iff.mp hx).1
  have hz':zs[i]? = some zs[i]:=List.getElem?_eq_getElem hi;exact hs i x zs[i] (fun y H4=>N (ys ++ [y]) H4) hx hz' (hN _ _ ⟨rfl,by rw [e2,List.take_add_one,hz'];rfl⟩)
 ·subst e1;rw [e2,← he,List.take_length];exact hd p hp
theorem Zd.list_sel {K:PySem.W.Frag} {a:Addr} {xs:List V} {ss:List (Option V)} {g:TG} {tc:TT} {te:TE} {σb:St} {Q:VK} {H:Hp} (hl:SqL K H a xs) (hz:xs.length ≤ sizeLine) (he:ss.length=xs.length)
  (hs:∀ (i:Nat) (x:V) (o:Option V) (ys:List V) (N:List V→Hp→Prop),xs[i]? = some x→ss[i]? = some o→N (ys ++ o.toList) H→g x σb H fun σ2 H2=>Sub σb σ2∧tc σ2 H2 fun c H3=>if c=true then te σ2 H3 fun y H4=>N (ys ++ [y]) H4 else N ys H3)
  (hd:∀ p,H p=none→Q (.ref p) (upd H p (.lst (ss.flatMap Option.toList)))):Zd (Itl K a) g tc te σb Q H:=by
 refine Zd.list (fun i ys H'=>H'=H∧ys=(ss.take i).flatMap Option.toList∧ys.length ≤ i) hz ⟨rfl,rfl,Nat.le_refl _⟩ (fun i ys H' hi ⟨e0,e,e'⟩=>?_) (fun i x ys H' hx ⟨e1,e2,e3⟩ N hN=>?_) (fun ys H' ⟨e1,e2,_⟩ p hp=>?_)
 ·subst e0;exact ⟨hl,e'⟩
 ·subst e1;have hi:i < ss.length:=by rw [he];exact (List.getElem?_eq_some_iff.mp hx).1
  have hz':ss[i]? = some ss[i]:=List.getElem?_eq_getElem hi;refine hs i x ss[i] ys N hx hz' (hN _ _ ⟨rfl,by rw [e2,List.take_add_one,hz',List.flatMap_append];simp,?_⟩);rw [List.length_append];cases ss[i] <;> simp <;> omega
 ·subst e1;rw [e2,← he,List.take_length];exact hd p hp
theorem jE {c:TT} {tb:TS} {D:jk} {σ:St} {H:Hp} (Pv:St→Hp→Prop) (μ:St→Hp→Nat) (h0:Pv σ H)
  (hs:∀ σ H,Pv σ H→∃ b:Bool,(∀ Q:Bool→Hp→Prop,Q b H→c σ H Q)∧(b=true→tb { D with nx:=fun σ' H'=>Pv σ' H'∧μ σ' H' < μ σ H,ct:=fun σ' H'=>Pv σ' H'∧μ σ' H' < μ σ H,bk:=D.nx } σ H)∧(b=false→D.nx σ H)):cJ c tb D σ H:=by
 refine ⟨fun m σ H=>m=μ σ H∧Pv σ H,⟨_,rfl,h0⟩,?_⟩;rintro m σ H ⟨rfl,p⟩;obtain ⟨b,hc,h1,h2⟩:=hs σ H p;refine hc _ ?_;cases b with
 | true=>exact ⟨_,fun σ' H' ⟨p',l⟩=>⟨_,l,rfl,p'⟩,h1 rfl⟩
 | false=>exact h2 rfl
theorem Sub.name {r:St} {v:Option V}:Sub (none :: r) (v :: r):=by
 refine ⟨rfl,fun i w h=>?_⟩;cases i with
 | zero=>cases h
 | succ i=>exact h
end L2
namespace L2
open PySem PySem.Spec PyProof.Rows
theorem Bb {X:Cx} {i:Nat} {x:Str} {e:Expr} {te:TE} {pos pos':Pos} (hN:X.N.Nodup) (he:PE X e te) (hi:X.N[i]? = some x:=by rfl) (hx:Loc X.env.scope x:=by exact Or.inl rfl) (hs:swapsWith e (some (.Name x pos')) pos.line X.env=pure false:=by rfl) (hf:X.fn x=true∨X.env.scope.names.lookup x=some .local:=by first | exact .inl rfl | exact .inr rfl | assumption):PS X (.Assign [.Name x pos'] e pos) (oM te (au i)):=TK hN hi hx he hs hf
theorem Ab {X:Cx} {pos:Pos} {i:Nat} {x:Str} (hN:X.N.Nodup) (hi:X.N[i]? = some x:=by rfl) (hx:Loc X.env.scope x:=by exact Or.inl rfl) (hf:X.fn x=true∨X.env.scope.names.lookup x=some .local:=by first | exact .inl rfl | exact .inr rfl | assumption):PG X (.Name x pos) (au i):=Cy hN hi hx hf
theorem xc {X:Cx} {a b:Expr} {ta tb:TE} {pos:Pos} {r:R2} (hr:IxR X r) (ha:PE X a ta) (hb:PE X b tb) (hs:xE b:=by exact fun _ _=>rfl):PE X (.Subscript a b pos) (tOp r ta tb):=sN hr ha hb hs
theorem Db {X:Cx} {k:Nat} {f:Addr} {fd:FuncData} {ps:List Str} {sp:Sp} {x:Str} {p pos:Pos} {e:Expr} {es:List Expr} {t:TA} (F:Kb X.prog X.w X.K X.mg X.base CX0 k f fd ps sp) (hr:Ni k X.A) (hm:X.mg x=some (.ref f)) (hk:PySem.W.keepIn X.K (.ref f)=true) (hb:Zb X.K fd ps []) (ha:PA X (e :: es) t) (hg:Gl X x:=by rfl) (hdb:(x == ("__debug__" : Str))=false:=by decide) (he:starEach (e :: es) X.env=(false,eval e X.env) :: starEach es X.env:=by rfl) (hpl:(backTo pos (starEach es X.env)).any (·.1)=false:=by rfl):PE X (.Call (.Name x p) (e :: es) [] pos) (DF sp [] E0 t):=Ol F hr hg hm hk hb .nil Hd ha hdb he hpl
end L2
local macro_rules | `(tactic| walk_at "RD")=>`(tactic| ((try dsimp only [L2.qF,L2.mz,L2.Cx.nox,L2.Cx.wish,L2.Cx.block,L2.Cx.tr,L2.Cx.hn,L2.uE,L2.tM,L2.QM,L2.OE,L2.FI,L2.KD,L2.QA,L2.YF,L2.UI,L2.yq,L2.uc,L2.oA,L2.tE,L2.Ew,L2.Ig,L2.ZF,L2.gB,L2.bF,L2.JE,L2.uF,L2.Qz,L2.UH,L2.gJ,L2.OL,L2.XH,L2.VL,L2.iJ,L2.TH,L2.Lz,L2.nD,L2.DE,L2.Cu,L2.IE,L2.qD,L2.fB,L2.rE,L2.XE,L2.yA,L2.HA,L2.MA,L2.EI,L2.Au,L2.pA,L2.YH,L2.UE,L2.DD,L2.GF,L2.dA,L2.yD,L2.RI,L2.xI,L2.Du,L2.Cw,L2.tF,L2.LA,L2.Mu,L2.Rz,L2.zw,L2.Wz,L2.oF,L2.eB,L2.mx,L2.tw,L2.rA,L2.NF,L2.GI,L2.LI,L2.bI,L2.su,L2.Lx,L2.Yx,L2.ax,L2.lw,L2.sA,L2.vx,L2.Ux,L2.CA,L2.Fs,L2.UA,L2.gA,L2.II,L2.lI,L2.SI,L2.MI,L2.px,L2.Sx,L2.BE,L2.Pz,L2.Tz,L2.lD,L2.fE,L2.Rx,L2.Sz,L2.NI,L2.Jz,L2.Yz,L2.start,L2.wF,L2.qN,L2.zN,L2.DN,L2.TN,L2.FN,L2.KN,L2.uN,L2.ON,L2.bN,L2.tN,L2.dBn,L2.dBs,L2.dJs,L2.dJn,Nat.reduceAdd,Nat.reduceSub,List.replicate]);(try simp only [L2.uE,L2.tM,L2.QM,L2.OE,L2.FI,L2.KD,L2.QA,L2.YF,L2.UI,L2.yq,L2.uc,L2.oA,L2.tE,L2.Ew,L2.Ig,L2.ZF,L2.gB,L2.bF,L2.JE,L2.uF,L2.Qz,L2.UH,L2.gJ,L2.OL,L2.XH,L2.VL,L2.iJ,L2.TH,L2.Lz,L2.nD,L2.DE,L2.Cu,L2.IE,L2.qD,L2.fB,L2.rE,L2.XE,L2.yA,L2.HA,L2.MA,L2.EI,L2.Au,L2.pA,L2.YH,L2.UE,L2.DD,L2.GF,L2.dA,L2.yD,L2.RI,L2.xI,L2.Du,L2.Cw,L2.tF,L2.LA,L2.Mu,L2.Rz,L2.zw,L2.Wz,L2.oF,L2.eB,L2.mx,L2.tw,L2.rA,L2.NF,L2.GI,L2.LI,L2.bI,L2.su,L2.Lx,L2.Yx,L2.ax,L2.lw,L2.sA,L2.vx,L2.Ux,L2.CA,L2.Fs,L2.UA,L2.gA,L2.II,L2.lI,L2.SI,L2.MI,L2.px,L2.Sx,L2.BE,L2.Pz,L2.Tz,L2.lD,L2.fE,L2.Rx,L2.Sz,L2.NI,L2.Jz,L2.Yz,L2.wJ,L2.wK,L2.GL,L2.lK,L2.qJ,L2.start,L2.wF,List.map_cons,List.map_nil,Option.bind_none,Option.bind_some,Option.join_some,Option.join_none,List.length_cons,List.length_nil,Nat.reduceAdd,Nat.reduceSub,Nat.zero_add,List.replicate,List.cons_append,List.nil_append,List.append_nil,List.set_cons_zero,List.set_cons_succ,List.getElem?_cons_zero,List.getElem?_cons_succ,Option.some.injEq,L2.V.int.injEq,L2.V.bl.injEq,L2.V.str.injEq,L2.V.ref.injEq,L2.V.ty.injEq,exists_eq_left',exists_eq_left,exists_and_left,List.cons.injEq,and_true,true_and,and_assoc,Int.zero_add,reduceCtorEq,false_and,exists_false,and_false,ite_true,ite_false,if_true,if_false,Bool.false_eq_true,L2.MM,L2.tyV,false_or,or_false,Bool.not_true,Bool.not_false,decide_true,decide_false])))
local macro_rules | `(tactic| walk_at "B")=>`(tactic| first | rfl | (dsimp only [L2.Cx.block];done) | (dsimp only [L2.Cx.block];exact rfl))
local macro_rules | `(tactic| walk_at "F")=>`(tactic| exact ⟨rfl,rfl,rfl,by decide +kernel,rfl,by decide +kernel,by decide +kernel⟩)
namespace My
open PySem L2
noncomputable abbrev q8:List Str:=["self","name","start","end","off","near","least"]
noncomputable abbrev q9:List Str:=["self","name"]
noncomputable abbrev q10:List Str:=["spans","name"]
noncomputable abbrev q11:List Str:=["self","good"]
noncomputable abbrev q12:List Str:=["self","low","high"]
noncomputable abbrev q13:List Str:=["crossing","one","other"]
noncomputable abbrev q14:List Str:=["crossing","size","spans"]
noncomputable abbrev q15:List Str:=["self","choices"]
noncomputable abbrev q16:List Str:=["word","signs","most"]
noncomputable abbrev q17:List Str:=["self","kind","name","start","end","off","near","least"]
noncomputable abbrev q18:List Str:=["_law_script","_law_k","_law_many"]
noncomputable abbrev q19:List Str:=["_law_script"]
noncomputable abbrev q20:List Str:=["_law_way"]
noncomputable abbrev q21:List Str:=["places","way","second"]
noncomputable abbrev q22:List Str:=["word","most_figures"]
noncomputable abbrev q23:List Str:=["word","low","high"]
noncomputable abbrev q24:List Str:=["size","spans","name"]
noncomputable abbrev q25:List Str:=["crossing","size","rows"]
noncomputable abbrev q26:List Str:=["reader","places","start"]
noncomputable abbrev q27:List Str:=["sort","name","start","end","off","near","least"]
noncomputable abbrev q28:List Str:=["self","row","word"]
noncomputable abbrev q29:List Str:=["self","way"]
noncomputable abbrev q30:List Str:=["self","way","at"]
noncomputable abbrev q31:List Str:=["self","way","other","at"]
noncomputable abbrev q32:List Str:=["self","row","told"]
noncomputable abbrev q33:List Str:=["places","way","place"]
noncomputable abbrev q34:List Str:=["way","size","spans"]
noncomputable abbrev q35:List Str:=["reader","crossing","size","spans"]
noncomputable abbrev q36:List Str:=["crossing","text"]
noncomputable abbrev q37:List Str:=["crossing","spans"]
noncomputable abbrev q38:List Str:=["size","spans","place"]
noncomputable abbrev q39:List Str:=["crossing","one","other","since_one","since_other"]
noncomputable abbrev q40:List Str:=["reader","ways"]
noncomputable abbrev q41:List Str:=["reader","places","ways"]
noncomputable abbrev q42:List Str:=["_law_script","_law_ways_here","_law_size"]
noncomputable abbrev q43:List Str:=["_law_ways_here","_law_size","_law_rows_here"]
noncomputable abbrev q44:List Str:=["_law_crossing","_law_size","_law_rows_here","_law_text","_law_by_text"]
noncomputable abbrev q45:List Str:=["self","crossing","size","spans"]
noncomputable abbrev q46:List Str:=["self","places","ways"]
noncomputable abbrev q47:List Str:=["called","begin","turns","name"]
noncomputable abbrev q48:List Str:=["name","begin","turns"]
noncomputable abbrev q49:List Str:=["size","spans","place","name","begin","turns","others"]
noncomputable abbrev q50:List Str:=["_law_ways_here","_law_size","_law_rows_here","_law_way","_law_k","_law_left","_law_i"]
noncomputable abbrev q52:List Str:=["at","span","place"]
noncomputable abbrev q53:List Str:=["later","many","begin","size"]
noncomputable def top (i:Nat):Stmt:=PySem.Challenge.pw_lampway_k14_never_and_short.main.body.getD i (.Pass ⟨0,0,0,0⟩)
noncomputable abbrev Xu:Stmt:=top 12
theorem xx:Cb ["places","way","place","steps"] q33 (ib Xu):=(by walk_at "F")
noncomputable abbrev dl:Stmt:=top 13
theorem uv:Cb q21 q21 (ib dl):=(by walk_at "F")
noncomputable abbrev ID:Stmt:=top 14
theorem cz:Cb ["crossing","one","other","way","second"] q13 (ib ID):=(by walk_at "F")
noncomputable abbrev FK:Stmt:=top 15
theorem RF:Cb ["crossing","one","other","way","second"] q13 (ib FK):=(by walk_at "F")
noncomputable abbrev yv:Stmt:=top 21
theorem QG:Cb ["text"] ["text"] (ib yv):=(by walk_at "F")
noncomputable abbrev Si:Stmt:=top 22
theorem Sv:Cb q16 q16 (ib Si):=(by walk_at "F")
noncomputable abbrev dn:Stmt:=top 23
theorem Wx:Cb q22 q22 (ib dn):=(by walk_at "F")
noncomputable abbrev As:Stmt:=top 24
theorem ju:Cb ["word","low","high","number"] q23 (ib As):=(by walk_at "F")
noncomputable abbrev Yr:Stmt:=top 25
theorem ZB:Cb ["word"] ["word"] (ib Yr):=(by walk_at "F")
noncomputable abbrev xn:Stmt:=top 28
theorem lC:Cb ["text"] ["text"] (ib xn):=(by walk_at "F")
noncomputable abbrev pj:Stmt:=top 30
theorem Ae:Cb ["marks","size","steps","untils","place"] ["marks"] (ib pj):=(by walk_at "F")
noncomputable abbrev Cj:Stmt:=top 31
theorem Bs:Cb ["marks"] ["marks"] (ib Cj):=(by walk_at "F")
noncomputable abbrev dm:Stmt:=top 36
theorem Xy:Cb q10 q10 (ib dm):=(by walk_at "F")
noncomputable abbrev Wi:Stmt:=top 37
theorem Ag:Cb ["size","spans","name","marks","begin","turns","step"] q24 (ib Wi):=(by walk_at "F")
noncomputable abbrev vA:Stmt:=top 38
theorem Fm:Cb ["way","size","spans","shown","begin","turns","step"] q34 (ib vA):=(by walk_at "F")
noncomputable abbrev Mm:Stmt:=top 39
theorem Ip:Cb ["reader","size"] ["reader"] (ib Mm):=(by walk_at "F")
noncomputable abbrev Fk:Stmt:=top 40
theorem bj:Cb ["reader","crossing","size","spans","name","begin","turns"] q35 (ib Fk):=(by walk_at "F")
noncomputable abbrev Pm:Stmt:=top 41
theorem zh:Cb ["crossing","text","rows","size","spans","reader"] q36 (ib Pm):=(by walk_at "F")
noncomputable abbrev Ej:Stmt:=top 42
theorem Rl:Cb ["crossing","spans","name"] q37 (ib Ej):=(by walk_at "F")
noncomputable abbrev Bd:Stmt:=top 43
theorem Yc:Cb q49 q38 (ib Bd):=(by walk_at "F")
noncomputable abbrev sj:Stmt:=top 44
theorem Cd:Cb ["crossing","size","spans","place","span","name","begin","turns","way","needed"] q14 (ib sj):=(by walk_at "F")
noncomputable abbrev Ug:Stmt:=top 45
theorem ff:Cb ["crossing","one","other","since_one","since_other","between","turn","steps"] q39 (ib Ug):=(by walk_at "F")
noncomputable abbrev vj:Stmt:=top 46
theorem rf:Cb ["crossing","size","spans","since","name","one","other"] q14 (ib vj):=(by walk_at "F")
noncomputable abbrev Gk:Stmt:=top 47
theorem Gh:Cb ["crossing","size","rows","spans","name","begin","turns"] q25 (ib Gk):=(by walk_at "F")
noncomputable abbrev Cr:Stmt:=top 48
theorem Yh:Cb ["plan","size","rows","name","begin","turns"] ["plan"] (ib Cr):=(by walk_at "F")
noncomputable abbrev Dm:Stmt:=top 62
theorem Bp:Cb ["reader","places"] ["reader"] (ib Dm):=(by walk_at "F")
noncomputable abbrev Cg:Stmt:=top 63
theorem Rk:Cb ["reader","ways","name"] q40 (ib Cg):=(by walk_at "F")
noncomputable abbrev lp:Stmt:=top 64
theorem ly:Cb q26 q26 (ib lp):=(by walk_at "F")
noncomputable abbrev Fo:Stmt:=top 65
theorem oy:Cb q27 q27 (ib Fo):=(by walk_at "F")
noncomputable abbrev ip:Stmt:=top 66
theorem sf:Cb ["reader","places","ways","sort","name","start","end","off","near","least"] q41 (ib ip):=(by walk_at "F")
noncomputable abbrev ji:Stmt:=top 67
theorem Te:Cb ["text","rows","places","ways","reader"] ["text"] (ib ji):=(by walk_at "F")
noncomputable abbrev Um:Stmt:=top 69
theorem Jl:Cb ["_law_script","_law_k","_law_many","_law_cell","_law_seed"] q18 (ib Um):=(by walk_at "F")
noncomputable abbrev Wm:Stmt:=top 70
theorem gj:Cb ["_law_script","_law_ways_here","_law_k","_law_sort"] q19 (ib Wm):=(by walk_at "F")
noncomputable abbrev Vm:Stmt:=top 71
theorem Ex:Cb q20 q20 (ib Vm):=(by walk_at "F")
noncomputable abbrev Hm:Stmt:=top 72
theorem Wc:Cb ["_law_script","_law_ways_here","_law_size","_law_spans","_law_calm","_law_k","_law_many","_law_i","_law_begin","_law_turns","_law_rows_here"] q42 (ib Hm):=(by walk_at "F")
noncomputable abbrev Yj:Stmt:=top 73
theorem fg:Cb q50 q43 (ib Yj):=(by walk_at "F")
noncomputable abbrev Vi:Stmt:=top 74
theorem Ek:Cb ["_law_e","_law_first","_law_second"] ["_law_e"] (ib Vi):=(by walk_at "F")
noncomputable abbrev xl:Stmt:=top 75
theorem Oe:Cb ["_law_crossing","_law_size","_law_rows_here","_law_text","_law_by_text","_law_told","_law_e"] q44 (ib xl):=(by walk_at "F")
noncomputable abbrev mK:Stmt:=top 76
theorem Ph:Cb ["_law_script","_law_ways_here","_law_rows_here","_law_k","_law_way","_law_head","_law_crossing","_law_size","_law_spans","_law_text","_law_one","_law_due_here","_law_by_text"] q19 (ib mK):=(by walk_at "F")
noncomputable abbrev Ak:Stmt:=kd (top 3) 0
theorem En:Cb q28 q28 (ib Ak):=(by walk_at "F")
noncomputable abbrev gl:Stmt:=kd (top 5) 0
theorem Go:Cb q29 q29 (ib gl):=(by walk_at "F")
noncomputable abbrev Nl:Stmt:=kd (top 6) 0
theorem Bo:Cb q30 q30 (ib Nl):=(by walk_at "F")
noncomputable abbrev yl:Stmt:=kd (top 7) 0
theorem qp:Cb q31 q31 (ib yl):=(by walk_at "F")
noncomputable abbrev Mh:Stmt:=kd (top 27) 0
theorem Dl:Cb q32 q32 (ib Mh):=(by walk_at "F")
noncomputable abbrev Vg:Stmt:=kd (top 27) 1
theorem ao:Cb ["self"] ["self"] (ib Vg):=(by walk_at "F")
noncomputable abbrev Qf:Stmt:=kd (top 27) 2
theorem Fl:Cb ["self"] ["self"] (ib Qf):=(by walk_at "F")
noncomputable abbrev wg:Stmt:=kd (top 27) 3
theorem Gm:Cb ["self"] ["self"] (ib wg):=(by walk_at "F")
noncomputable abbrev Lh:Stmt:=kd (top 27) 4
theorem Xj:Cb q11 q11 (ib Lh):=(by walk_at "F")
noncomputable abbrev Jg:Stmt:=kd (top 27) 5
theorem Le:Cb ["self","choices","found"] q15 (ib Jg):=(by walk_at "F")
noncomputable abbrev dg:Stmt:=kd (top 27) 6
theorem ue:Cb ["self","low","high","found"] q12 (ib dg):=(by walk_at "F")
noncomputable abbrev ug:Stmt:=kd (top 27) 7
theorem xi:Cb ["self"] ["self"] (ib ug):=(by walk_at "F")
noncomputable abbrev gn:Stmt:=kd (top 35) 0
theorem Sk:Cb ["self","crossing","size","spans","name"] q45 (ib gn):=(by walk_at "F")
noncomputable abbrev Ko:Stmt:=kd (top 50) 0
theorem gr:Cb q17 q17 (ib Ko):=(by walk_at "F")
noncomputable abbrev Jk:Stmt:=kd (top 51) 0
theorem Zn:Cb q8 q8 (ib Jk):=(by walk_at "F")
noncomputable abbrev tj:Stmt:=kd (top 51) 1
theorem Wq:Cb ["self"] ["self"] (ib tj):=(by walk_at "F")
noncomputable abbrev Bk:Stmt:=kd (top 51) 2
theorem ut:Cb ["self"] ["self"] (ib Bk):=(by walk_at "F")
noncomputable abbrev rj:Stmt:=kd (top 52) 0
theorem Qm:Cb q8 q8 (ib rj):=(by walk_at "F")
noncomputable abbrev ii:Stmt:=kd (top 52) 1
theorem gq:Cb ["self"] ["self"] (ib ii):=(by walk_at "F")
noncomputable abbrev Gj:Stmt:=kd (top 52) 2
theorem ms:Cb ["self"] ["self"] (ib Gj):=(by walk_at "F")
noncomputable abbrev Bj:Stmt:=kd (top 53) 0
theorem Ym:Cb q8 q8 (ib Bj):=(by walk_at "F")
noncomputable abbrev Hi:Stmt:=kd (top 53) 1
theorem bq:Cb ["self"] ["self"] (ib Hi):=(by walk_at "F")
noncomputable abbrev Aj:Stmt:=kd (top 53) 2
theorem Yq:Cb ["self"] ["self"] (ib Aj):=(by walk_at "F")
noncomputable abbrev Ai:Stmt:=kd (top 61) 0
theorem Rf:Cb ["self","places","ways","number","way"] q46 (ib Ai):=(by walk_at "F")
noncomputable abbrev bg:Stmt:=kd (top 61) 1
theorem Wo:Cb ["self"] ["self"] (ib bg):=(by walk_at "F")
noncomputable abbrev jh:Stmt:=kd (top 61) 2
theorem Xn:Cb q9 q9 (ib jh):=(by walk_at "F")
noncomputable abbrev Pg:Stmt:=kd (top 61) 3
theorem io:Cb q9 q9 (ib Pg):=(by walk_at "F")
set_option genInjectivity false in
set_option genInjectivity false in
structure Adr where
 {Vl rg Hu pC Zo Ef Zg Di Nj Gi re df Ze Cf Ju Og Wg Tg Ve Pc Ye Sd Xe gg Pj gh Ee ai Zh di De qf bh jg ah bi lg ng RD Ke uf Af Gf Gd Qb yc Mc Yb Sb Jb Rb eg Nf Je af Hf pe ve bf qe Be cf Td Gc ud bc yb Ld fm Xb Mb Lb Fb Vd Ib Fj Gb Eb Nb Xf wj vh:Addr}
 {ko Bh Tx iG Xq qg mi Sj Pl ak We Tf Lf og Jw Bi gi Ii Vf Ad ag ye Sf Qg Bl yi Ff Oj Ij Jj Df kg Ji Xg Fi Vj Hh Ah oC Eg Ch Eh Fh Se vc Uc Ed Fc Bc Tb Ac oi lh Bg ph Uh Zf zg sh Yf xg uh wf Vc we Jc:FuncData}
 {Cn xh Rn qh jj yh Kk Ul Xh Dk aj Ck:Value}
structure Txt (w:World) (K:PySem.W.Frag) (mg:Str→Option Value) (t:Adr):Prop where
 g0_:(mg "in_bow"=some (.ref t.Vl))∧(Fun K "in_bow" "in_bow" Xu t.Vl t.ko)∧(mg "bows_cross"=some (.ref t.rg))∧(Fun K "bows_cross" "bows_cross" dl t.rg t.Bh)∧(mg "meet"=some (.ref t.Hu))∧(Fun K "meet" "meet" ID t.Hu t.Tx)∧(mg "gap"=some (.ref t.pC))∧(Fun K "gap" "gap" FK t.pC t.iG)∧(mg "words"=some (.ref t.Zo))∧(Fun K "words" "words" yv t.Zo t.Xq)∧(mg "is_made_of"=some (.ref t.Ef))∧(Fun K "is_made_of" "is_made_of" Si t.Ef t.qg)∧(mg "is_number"=some (.ref t.Zg))∧(Fun K "is_number" "is_number" dn t.Zg t.mi)∧(mg "figured"=some (.ref t.Di))∧(Fun K "figured" "figured" As t.Di t.Sj)∧(mg "is_name"=some (.ref t.Nj))∧(Fun K "is_name" "is_name" Yr t.Nj t.Pl)∧(mg "readers"=some (.ref t.Gi))∧(Fun K "readers" "readers" xn t.Gi t.ak)
 g1_:(mg "until_marked"=some (.ref t.re))∧(Fun K "until_marked" "until_marked" pj t.re t.We)∧(mg "since_marked"=some (.ref t.df))∧(Fun K "since_marked" "since_marked" Cj t.df t.Tf)∧(mg "spans_of"=some (.ref t.Ze))∧(Fun K "spans_of" "spans_of" dm t.Ze t.Lf)∧(mg "free_marks"=some (.ref t.Cf))∧(Fun K "free_marks" "free_marks" Wi t.Cf t.og)∧(mg "lamp"=some (.ref t.Ju))∧(Fun K "lamp" "lamp" vA t.Ju t.Jw)∧(mg "read_size"=some (.ref t.Og))∧(Fun K "read_size" "read_size" Mm t.Og t.Bi)∧(mg "read_span"=some (.ref t.Wg))∧(Fun K "read_span" "read_span" Fk t.Wg t.gi)∧(mg "read_plan"=some (.ref t.Tg))∧(Fun K "read_plan" "read_plan" Pm t.Tg t.Ii)∧(mg "refuse_never"=some (.ref t.Ve))∧(Fun K "refuse_never" "refuse_never" Ej t.Ve t.Vf)∧(mg "turns_to_next_begin"=some (.ref t.Pc))∧(Fun K "turns_to_next_begin" "turns_to_next_begin" Bd t.Pc t.Ad)
 g2_:(mg "refuse_short"=some (.ref t.Ye))∧(Fun K "refuse_short" "refuse_short" sj t.Ye t.ag)∧(mg "refuse_clash_of"=some (.ref t.Sd))∧(Fun K "refuse_clash_of" "refuse_clash_of" Ug t.Sd t.ye)∧(mg "refuse_clash"=some (.ref t.Xe))∧(Fun K "refuse_clash" "refuse_clash" vj t.Xe t.Sf)∧(mg "made_plan"=some (.ref t.gg))∧(Fun K "made_plan" "made_plan" Gk t.gg t.Qg)∧(mg "written"=some (.ref t.Pj))∧(Fun K "written" "written" Cr t.Pj t.Bl)∧(mg "read_ring"=some (.ref t.gh))∧(Fun K "read_ring" "read_ring" Dm t.gh t.yi)∧(mg "read_new_name"=some (.ref t.Ee))∧(Fun K "read_new_name" "read_new_name" Cg t.Ee t.Ff)∧(mg "read_end"=some (.ref t.ai))∧(Fun K "read_end" "read_end" lp t.ai t.Oj)∧(mg "made_way"=some (.ref t.Zh))∧(Fun K "made_way" "made_way" Fo t.Zh t.Ij)∧(mg "read_way"=some (.ref t.di))∧(Fun K "read_way" "read_way" ip t.di t.Jj)
 g3_:(mg "read_crossing"=some (.ref t.De))∧(Fun K "read_crossing" "read_crossing" ji t.De t.Df)∧(mg "_law_draw"=some (.ref t.qf))∧(Fun K "_law_draw" "_law_draw" Um t.qf t.kg)∧(mg "_law_ways"=some (.ref t.bh))∧(Fun K "_law_ways" "_law_ways" Wm t.bh t.Ji)∧(mg "_law_room"=some (.ref t.jg))∧(Fun K "_law_room" "_law_room" Vm t.jg t.Xg)∧(mg "_law_rows"=some (.ref t.ah))∧(Fun K "_law_rows" "_law_rows" Hm t.ah t.Fi)∧(mg "_law_due"=some (.ref t.bi))∧(Fun K "_law_due" "_law_due" Yj t.bi t.Vj)∧(mg "_law_kinds"=some (.ref t.lg))∧(Fun K "_law_kinds" "_law_kinds" Vi t.lg t.Hh)∧(mg "_law_asked"=some (.ref t.ng))∧(Fun K "_law_asked" "_law_asked" xl t.ng t.Ah)∧(mg "law"=some (.ref t.RD))∧(Fun K "law" "law" mK t.RD t.oC)∧(mg "NoText"=some (.ref t.Ib))∧(PySem.W.findIn K (.ref t.Ib) "__init__"=some (some (.ref t.Ke)))
 g4_:(Fun K "__init__" "NoText.__init__" Ak t.Ke t.Eg)∧(mg "Never"=some (.ref t.Gb))∧(PySem.W.findIn K (.ref t.Gb) "__init__"=some (some (.ref t.uf)))∧(Fun K "__init__" "Never.__init__" gl t.uf t.Ch)∧(mg "Short"=some (.ref t.Eb))∧(PySem.W.findIn K (.ref t.Eb) "__init__"=some (some (.ref t.Af)))∧(Fun K "__init__" "Short.__init__" Nl t.Af t.Eh)∧(mg "Clash"=some (.ref t.Nb))∧(PySem.W.findIn K (.ref t.Nb) "__init__"=some (some (.ref t.Gf)))∧(Fun K "__init__" "Clash.__init__" yl t.Gf t.Fh)∧(mg "RowReader"=some (.ref t.yb))∧(PySem.W.findIn K (.ref t.yb) "__init__"=some (some (.ref t.Gd)))∧(Fun K "__init__" "RowReader.__init__" Mh t.Gd t.Se)∧(PySem.W.findIn K (.ref t.yb) "ahead"=some (some (.ref t.Qb)))∧(Fun K "ahead" "RowReader.ahead" Vg t.Qb t.vc)∧(PySem.W.findIn K (.ref t.yb) "has_more"=some (some (.ref t.yc)))∧(Fun K "has_more" "RowReader.has_more" Qf t.yc t.Uc)∧(PySem.W.findIn K (.ref t.yb) "refuse"=some (some (.ref t.Mc)))∧(Fun K "refuse" "RowReader.refuse" wg t.Mc t.Ed)∧(PySem.W.findIn K (.ref t.yb) "take"=some (some (.ref t.Yb)))
 g5_:(Fun K "take" "RowReader.take" Lh t.Yb t.Fc)∧(PySem.W.findIn K (.ref t.yb) "one_of"=some (some (.ref t.Sb)))∧(Fun K "one_of" "RowReader.one_of" Jg t.Sb t.Bc)∧(PySem.W.findIn K (.ref t.yb) "figures"=some (some (.ref t.Jb)))∧(Fun K "figures" "RowReader.figures" dg t.Jb t.Tb)∧(PySem.W.findIn K (.ref t.yb) "finish"=some (some (.ref t.Rb)))∧(Fun K "finish" "RowReader.finish" ug t.Rb t.Ac)∧(mg "Plan"=some (.ref t.Ld))∧(PySem.W.findIn K (.ref t.Ld) "__init__"=some (some (.ref t.eg)))∧(Fun K "__init__" "Plan.__init__" gn t.eg t.oi)∧(mg "Way"=some (.ref t.fm))∧(PySem.W.findIn K (.ref t.fm) "__init__"=some (some (.ref t.Nf)))∧(Fun K "__init__" "Way.__init__" Ko t.Nf t.lh)∧(mg "CarWay"=some (.ref t.Xb))∧(PySem.W.findIn K (.ref t.Xb) "__init__"=some (some (.ref t.Je)))∧(Fun K "__init__" "CarWay.__init__" Jk t.Je t.Bg)∧(PySem.W.findIn K (.ref t.Xb) "ready"=some (some (.ref t.af)))∧(Fun K "ready" "CarWay.ready" tj t.af t.ph)∧(PySem.W.findIn K (.ref t.Xb) "fade"=some (some (.ref t.Hf)))∧(Fun K "fade" "CarWay.fade" Bk t.Hf t.Uh)
 g6_:(mg "FootWay"=some (.ref t.Mb))∧(PySem.W.findIn K (.ref t.Mb) "__init__"=some (some (.ref t.pe)))∧(Fun K "__init__" "FootWay.__init__" rj t.pe t.Zf)∧(PySem.W.findIn K (.ref t.Mb) "ready"=some (some (.ref t.ve)))∧(Fun K "ready" "FootWay.ready" ii t.ve t.zg)∧(PySem.W.findIn K (.ref t.Mb) "fade"=some (some (.ref t.bf)))∧(Fun K "fade" "FootWay.fade" Gj t.bf t.sh)∧(mg "TramWay"=some (.ref t.Lb))∧(PySem.W.findIn K (.ref t.Lb) "__init__"=some (some (.ref t.qe)))∧(Fun K "__init__" "TramWay.__init__" Bj t.qe t.Yf)∧(PySem.W.findIn K (.ref t.Lb) "ready"=some (some (.ref t.Be)))∧(Fun K "ready" "TramWay.ready" Hi t.Be t.xg)∧(PySem.W.findIn K (.ref t.Lb) "fade"=some (some (.ref t.cf)))∧(Fun K "fade" "TramWay.fade" Aj t.cf t.uh)∧(mg "Crossing"=some (.ref t.Fb))∧(PySem.W.findIn K (.ref t.Fb) "__init__"=some (some (.ref t.Td)))∧(Fun K "__init__" "Crossing.__init__" Ai t.Td t.wf)∧(PySem.W.findIn K (.ref t.Fb) "names"=some (some (.ref t.Gc)))∧(Fun K "names" "Crossing.names" bg t.Gc t.Vc)∧(PySem.W.findIn K (.ref t.Fb) "number"=some (some (.ref t.ud)))
 g7_:(Fun K "number" "Crossing.number" jh t.ud t.we)∧(PySem.W.findIn K (.ref t.Fb) "called"=some (some (.ref t.bc)))∧(Fun K "called" "Crossing.called" Pg t.bc t.Jc)∧(Cls K t.yb)∧(Mk K t.yb t.Gd)∧(Zk K t.yb "ahead" t.Qb)∧(Zk K t.yb "has_more" t.yc)∧(Zk K t.yb "refuse" t.Mc)∧(Zk K t.yb "take" t.Yb)∧(Zk K t.yb "one_of" t.Sb)∧(Zk K t.yb "figures" t.Jb)∧(Zk K t.yb "finish" t.Rb)∧(zb K t.yb "row")∧(zb K t.yb "told")∧(zb K t.yb "place")∧(Cls K t.Ld)∧(Mk K t.Ld t.eg)∧(zb K t.Ld "crossing")∧(zb K t.Ld "size")∧(zb K t.Ld "spans")
 g8_:(zb K t.Ld "lamps")∧(zb K t.Ld "untils")∧(Cls K t.fm)∧(zb K t.fm "kind")∧(zb K t.fm "name")∧(zb K t.fm "start")∧(zb K t.fm "end")∧(zb K t.fm "off")∧(zb K t.fm "near")∧(zb K t.fm "least")∧(Cls K t.Xb)∧(Mk K t.Xb t.Je)∧(Zk K t.Xb "ready" t.af)∧(Zk K t.Xb "fade" t.Hf)∧(zb K t.Xb "kind")∧(zb K t.Xb "name")∧(zb K t.Xb "start")∧(zb K t.Xb "end")∧(zb K t.Xb "off")∧(zb K t.Xb "near")
 g9_:(zb K t.Xb "least")∧(Cls K t.Mb)∧(Mk K t.Mb t.pe)∧(Zk K t.Mb "ready" t.ve)∧(Zk K t.Mb "fade" t.bf)∧(zb K t.Mb "kind")∧(zb K t.Mb "name")∧(zb K t.Mb "start")∧(zb K t.Mb "end")∧(zb K t.Mb "off")∧(zb K t.Mb "near")∧(zb K t.Mb "least")∧(Cls K t.Lb)∧(Mk K t.Lb t.qe)∧(Zk K t.Lb "ready" t.Be)∧(Zk K t.Lb "fade" t.cf)∧(zb K t.Lb "kind")∧(zb K t.Lb "name")∧(zb K t.Lb "start")∧(zb K t.Lb "end")
 Ax:(zb K t.Lb "off")∧(zb K t.Lb "near")∧(zb K t.Lb "least")∧(Cls K t.Fb)∧(Mk K t.Fb t.Td)∧(Zk K t.Fb "names" t.Gc)∧(Zk K t.Fb "number" t.ud)∧(Zk K t.Fb "called" t.bc)∧(zb K t.Fb "places")∧(zb K t.Fb "ways")∧(zb K t.Fb "numbers")∧(mg "LampError"=some (.ref t.Vd))∧(aN K t.Vd "__init__")∧(XB K t.Ib)∧(MkX K t.Ib t.Ke)∧(zb K t.Ib "row")∧(zb K t.Ib "word")∧(IB K t.Ib)∧(PySem.W.kitOne K (.ref t.Ib) (.ref t.Nb)=some false)∧(PySem.W.kitOne K (.ref t.Ib) (.type "ValueError")=some true)
 EK:(PySem.W.kitOne K (.ref t.Ib) (.ref t.Gb)=some false)∧(PySem.W.kitOne K (.ref t.Ib) (.ref t.Eb)=some false)∧(PySem.W.kitOne K (.ref t.Ib) (.ref t.Ib)=some true)∧(PySem.W.kitOne K (.ref t.Ib) (.ref t.Fj)=some false)∧(PySem.W.kitOne K (.ref t.Ib) (.ref t.Xf)=some false)∧(PySem.W.kitOne K (.ref t.Ib) (.ref t.wj)=some false)∧(PySem.W.kitOne K (.ref t.Ib) (.ref t.vh)=some false)∧(PySem.W.exmOne K (.ref t.Ib) (.ref t.Vd)=some true)∧(PySem.W.exmOne K (.ref t.Ib) (.ref t.Ib)=some true)∧(PySem.W.exmOne K (.ref t.Ib) (.ref t.Gb)=some false)∧(PySem.W.exmOne K (.ref t.Ib) (.ref t.Eb)=some false)∧(PySem.W.exmOne K (.ref t.Ib) (.ref t.Nb)=some false)∧(mg "NoWay"=some (.ref t.Fj))∧(XB K t.Gb)∧(MkX K t.Gb t.uf)∧(zb K t.Gb "way")∧(IB K t.Gb)∧(PySem.W.kitOne K (.ref t.Gb) (.ref t.Nb)=some false)∧(PySem.W.kitOne K (.ref t.Gb) (.type "ValueError")=some true)∧(PySem.W.kitOne K (.ref t.Gb) (.ref t.Gb)=some true)
 jz:(PySem.W.kitOne K (.ref t.Gb) (.ref t.Eb)=some false)∧(PySem.W.kitOne K (.ref t.Gb) (.ref t.Ib)=some false)∧(PySem.W.kitOne K (.ref t.Gb) (.ref t.Fj)=some false)∧(PySem.W.kitOne K (.ref t.Gb) (.ref t.Xf)=some false)∧(PySem.W.kitOne K (.ref t.Gb) (.ref t.wj)=some false)∧(PySem.W.kitOne K (.ref t.Gb) (.ref t.vh)=some false)∧(PySem.W.exmOne K (.ref t.Gb) (.ref t.Vd)=some true)∧(PySem.W.exmOne K (.ref t.Gb) (.ref t.Ib)=some false)∧(PySem.W.exmOne K (.ref t.Gb) (.ref t.Gb)=some true)∧(PySem.W.exmOne K (.ref t.Gb) (.ref t.Eb)=some false)∧(PySem.W.exmOne K (.ref t.Gb) (.ref t.Nb)=some false)∧(XB K t.Eb)∧(MkX K t.Eb t.Af)∧(zb K t.Eb "way")∧(zb K t.Eb "at")∧(IB K t.Eb)∧(PySem.W.kitOne K (.ref t.Eb) (.ref t.Nb)=some false)∧(PySem.W.kitOne K (.ref t.Eb) (.type "ValueError")=some true)∧(PySem.W.kitOne K (.ref t.Eb) (.ref t.Gb)=some false)∧(PySem.W.kitOne K (.ref t.Eb) (.ref t.Eb)=some true)
 qE:(PySem.W.kitOne K (.ref t.Eb) (.ref t.Ib)=some false)∧(PySem.W.kitOne K (.ref t.Eb) (.ref t.Fj)=some false)∧(PySem.W.kitOne K (.ref t.Eb) (.ref t.Xf)=some false)∧(PySem.W.kitOne K (.ref t.Eb) (.ref t.wj)=some false)∧(PySem.W.kitOne K (.ref t.Eb) (.ref t.vh)=some false)∧(PySem.W.exmOne K (.ref t.Eb) (.ref t.Vd)=some true)∧(PySem.W.exmOne K (.ref t.Eb) (.ref t.Ib)=some false)∧(PySem.W.exmOne K (.ref t.Eb) (.ref t.Gb)=some false)∧(PySem.W.exmOne K (.ref t.Eb) (.ref t.Eb)=some true)∧(PySem.W.exmOne K (.ref t.Eb) (.ref t.Nb)=some false)∧(XB K t.Nb)∧(MkX K t.Nb t.Gf)∧(zb K t.Nb "way")∧(zb K t.Nb "other")∧(zb K t.Nb "at")∧(IB K t.Nb)∧(PySem.W.kitOne K (.ref t.Nb) (.ref t.Nb)=some true)∧(PySem.W.kitOne K (.ref t.Nb) (.type "ValueError")=some true)∧(PySem.W.kitOne K (.ref t.Nb) (.ref t.Gb)=some false)∧(PySem.W.kitOne K (.ref t.Nb) (.ref t.Eb)=some false)
 jK:(PySem.W.kitOne K (.ref t.Nb) (.ref t.Ib)=some false)∧(PySem.W.kitOne K (.ref t.Nb) (.ref t.Fj)=some false)∧(PySem.W.kitOne K (.ref t.Nb) (.ref t.Xf)=some false)∧(PySem.W.kitOne K (.ref t.Nb) (.ref t.wj)=some false)∧(PySem.W.kitOne K (.ref t.Nb) (.ref t.vh)=some false)∧(PySem.W.exmOne K (.ref t.Nb) (.ref t.Vd)=some true)∧(PySem.W.exmOne K (.ref t.Nb) (.ref t.Ib)=some false)∧(PySem.W.exmOne K (.ref t.Nb) (.ref t.Gb)=some false)∧(PySem.W.exmOne K (.ref t.Nb) (.ref t.Eb)=some false)∧(PySem.W.exmOne K (.ref t.Nb) (.ref t.Nb)=some true)∧(mg "TooMany"=some (.ref t.Xf))∧(mg "NoRow"=some (.ref t.wj))∧(mg "NoName"=some (.ref t.vh))∧(t.fm ≠ t.Xb)∧(t.fm ≠ t.Mb)∧(t.fm ≠ t.Lb)∧(t.Xb ≠ t.Mb)∧(t.Xb ≠ t.Lb)∧(t.Mb ≠ t.Lb)∧(cN K t.fm "__init__" t.Nf)
 nu:(mg "FIGURES"=some t.Cn)∧(Jd (.str (Str.ofString "0123456789")) t.Cn)∧(mg "LEAST_PLACES"=some t.xh)∧(Jd (.int 2) t.xh)∧(mg "LETTERS"=some t.Rn)∧(Jd (.str (Str.ofString "abcdefghijklmnopqrstuvwxyz")) t.Rn)∧(mg "MOST_FIGURES"=some t.qh)∧(Jd (.int 3) t.qh)∧(mg "MOST_LEAST"=some t.jj)∧(Jd (.int 60) t.jj)∧(mg "MOST_LETTERS"=some t.yh)∧(Jd (.int 8) t.yh)∧(mg "MOST_NEAR"=some t.Kk)∧(Jd (.int 30) t.Kk)∧(mg "MOST_OFF"=some t.Ul)∧(Jd (.int 30) t.Ul)∧(mg "MOST_PLACES"=some t.Xh)∧(Jd (.int 99) t.Xh)∧(mg "MOST_SIZE"=some t.Dk)∧(Jd (.int 240) t.Dk)
 kx:(mg "MOST_SPANS"=some t.aj)∧(Jd (.int 3) t.aj)∧(mg "MOST_WAYS"=some t.Ck)∧(Jd (.int 12) t.Ck)∧(mg "all"=none)∧(mg "enumerate"=none)∧(mg "int"=none)∧(mg "isinstance"=none)∧(mg "len"=none)∧(mg "list"=none)∧(mg "max"=none)∧(mg "min"=none)∧(mg "range"=none)∧(mg "reversed"=none)∧(mg "str"=none)∧(mg "sum"=none)∧(∀ (s:Shared) (u:Value),BindsTo s t.oC ⟨[u],[]⟩ [("_law_script",u)])
section
variable {w:World} {K:PySem.W.Frag} {mg:Str→Option Value} {t:Adr} (T:Txt w K mg t)
include T
theorem Txt.Mz:mg "in_bow"=some (.ref t.Vl):=T.g0_.1
theorem Txt.Bq:Fun K "in_bow" "in_bow" Xu t.Vl t.ko:=T.g0_.2.1
theorem Txt.Vw:mg "bows_cross"=some (.ref t.rg):=T.g0_.2.2.1
theorem Txt.El:Fun K "bows_cross" "bows_cross" dl t.rg t.Bh:=T.g0_.2.2.2.1
theorem Txt.iL:mg "meet"=some (.ref t.Hu):=T.g0_.2.2.2.2.1
theorem Txt.kF:Fun K "meet" "meet" ID t.Hu t.Tx:=T.g0_.2.2.2.2.2.1
theorem Txt.EN:mg "gap"=some (.ref t.pC):=T.g0_.2.2.2.2.2.2.1
theorem Txt.CJ:Fun K "gap" "gap" FK t.pC t.iG:=T.g0_.2.2.2.2.2.2.2.1
theorem Txt.AK:mg "words"=some (.ref t.Zo):=T.g0_.2.2.2.2.2.2.2.2.1
theorem Txt.wz:Fun K "words" "words" yv t.Zo t.Xq:=T.g0_.2.2.2.2.2.2.2.2.2.1
theorem Txt.Mp:mg "is_made_of"=some (.ref t.Ef):=T.g0_.2.2.2.2.2.2.2.2.2.2.1
theorem Txt.Oi:Fun K "is_made_of" "is_made_of" Si t.Ef t.qg:=T.g0_.2.2.2.2.2.2.2.2.2.2.2.1
theorem Txt.Ey:mg "is_number"=some (.ref t.Zg):=T.g0_.2.2.2.2.2.2.2.2.2.2.2.2.1
theorem Txt.jn:Fun K "is_number" "is_number" dn t.Zg t.mi:=T.g0_.2.2.2.2.2.2.2.2.2.2.2.2.2.1
theorem Txt.Tw:mg "figured"=some (.ref t.Di):=T.g0_.2.2.2.2.2.2.2.2.2.2.2.2.2.2.1
theorem Txt.Kn:Fun K "figured" "figured" As t.Di t.Sj:=T.g0_.2.2.2.2.2.2.2.2.2.2.2.2.2.2.2.1
theorem Txt.BF:mg "is_name"=some (.ref t.Nj):=T.g0_.2.2.2.2.2.2.2.2.2.2.2.2.2.2.2.2.1
theorem Txt.jr:Fun K "is_name" "is_name" Yr t.Nj t.Pl:=T.g0_.2.2.2.2.2.2.2.2.2.2.2.2.2.2.2.2.2.1
theorem Txt.Kx:mg "readers"=some (.ref t.Gi):=T.g0_.2.2.2.2.2.2.2.2.2.2.2.2.2.2.2.2.2.2.1
theorem Txt.On:Fun K "readers" "readers" xn t.Gi t.ak:=T.g0_.2.2.2.2.2.2.2.2.2.2.2.2.2.2.2.2.2.2.2
theorem Txt.km:mg "until_marked"=some (.ref t.re):=T.g1_.1
theorem Txt.rh:Fun K "until_marked" "until_marked" pj t.re t.We:=T.g1_.2.1
theorem Txt.jt:mg "since_marked"=some (.ref t.df):=T.g1_.2.2.1
theorem Txt.nj:Fun K "since_marked" "since_marked" Cj t.df t.Tf:=T.g1_.2.2.2.1
theorem Txt.Wj:mg "spans_of"=some (.ref t.Ze):=T.g1_.2.2.2.2.1
theorem Txt.kh:Fun K "spans_of" "spans_of" dm t.Ze t.Lf:=T.g1_.2.2.2.2.2.1
theorem Txt.Fp:mg "free_marks"=some (.ref t.Cf):=T.g1_.2.2.2.2.2.2.1
theorem Txt.Qi:Fun K "free_marks" "free_marks" Wi t.Cf t.og:=T.g1_.2.2.2.2.2.2.2.1
theorem Txt.DM:mg "lamp"=some (.ref t.Ju):=T.g1_.2.2.2.2.2.2.2.2.1
theorem Txt.zE:Fun K "lamp" "lamp" vA t.Ju t.Jw:=T.g1_.2.2.2.2.2.2.2.2.2.1
theorem Txt.cy:mg "read_size"=some (.ref t.Og):=T.g1_.2.2.2.2.2.2.2.2.2.2.1
theorem Txt.Xm:Fun K "read_size" "read_size" Mm t.Og t.Bi:=T.g1_.2.2.2.2.2.2.2.2.2.2.2.1
theorem Txt.qy:mg "read_span"=some (.ref t.Wg):=T.g1_.2.2.2.2.2.2.2.2.2.2.2.2.1
theorem Txt.Am:Fun K "read_span" "read_span" Fk t.Wg t.gi:=T.g1_.2.2.2.2.2.2.2.2.2.2.2.2.2.1
theorem Txt.Fz:mg "read_plan"=some (.ref t.Tg):=T.g1_.2.2.2.2.2.2.2.2.2.2.2.2.2.2.1
theorem Txt.Im:Fun K "read_plan" "read_plan" Pm t.Tg t.Ii:=T.g1_.2.2.2.2.2.2.2.2.2.2.2.2.2.2.2.1
theorem Txt.Ot:mg "refuse_never"=some (.ref t.Ve):=T.g1_.2.2.2.2.2.2.2.2.2.2.2.2.2.2.2.2.1
theorem Txt.Hj:Fun K "refuse_never" "refuse_never" Ej t.Ve t.Vf:=T.g1_.2.2.2.2.2.2.2.2.2.2.2.2.2.2.2.2.2.1
theorem Txt.Kl:mg "turns_to_next_begin"=some (.ref t.Pc):=T.g1_.2.2.2.2.2.2.2.2.2.2.2.2.2.2.2.2.2.2.1
theorem Txt.vf:Fun K "turns_to_next_begin" "turns_to_next_begin" Bd t.Pc t.Ad:=T.g1_.2.2.2.2.2.2.2.2.2.2.2.2.2.2.2.2.2.2.2
theorem Txt.Jt:mg "refuse_short"=some (.ref t.Ye):=T.g2_.1
theorem Txt.xj:Fun K "refuse_short" "refuse_short" sj t.Ye t.ag:=T.g2_.2.1
theorem Txt.Lo:mg "refuse_clash_of"=some (.ref t.Sd):=T.g2_.2.2.1
theorem Txt.mh:Fun K "refuse_clash_of" "refuse_clash_of" Ug t.Sd t.ye:=T.g2_.2.2.2.1
theorem Txt.Zs:mg "refuse_clash"=some (.ref t.Xe):=T.g2_.2.2.2.2.1
theorem Txt.zj:Fun K "refuse_clash" "refuse_clash" vj t.Xe t.Sf:=T.g2_.2.2.2.2.2.1
theorem Txt.xr:mg "made_plan"=some (.ref t.gg):=T.g2_.2.2.2.2.2.2.1
theorem Txt.Ik:Fun K "made_plan" "made_plan" Gk t.gg t.Qg:=T.g2_.2.2.2.2.2.2.2.1
theorem Txt.ix:mg "written"=some (.ref t.Pj):=T.g2_.2.2.2.2.2.2.2.2.1
theorem Txt.Fn:Fun K "written" "written" Cr t.Pj t.Bl:=T.g2_.2.2.2.2.2.2.2.2.2.1
theorem Txt.dy:mg "read_ring"=some (.ref t.gh):=T.g2_.2.2.2.2.2.2.2.2.2.2.1
theorem Txt.Nm:Fun K "read_ring" "read_ring" Dm t.gh t.yi:=T.g2_.2.2.2.2.2.2.2.2.2.2.2.1
theorem Txt.Zr:mg "read_new_name"=some (.ref t.Ee):=T.g2_.2.2.2.2.2.2.2.2.2.2.2.2.1
theorem Txt.Ei:Fun K "read_new_name" "read_new_name" Cg t.Ee t.Ff:=T.g2_.2.2.2.2.2.2.2.2.2.2.2.2.2.1
theorem Txt.zC:mg "read_end"=some (.ref t.ai):=T.g2_.2.2.2.2.2.2.2.2.2.2.2.2.2.2.1
theorem Txt.zo:Fun K "read_end" "read_end" lp t.ai t.Oj:=T.g2_.2.2.2.2.2.2.2.2.2.2.2.2.2.2.2.1
theorem Txt.FC:mg "made_way"=some (.ref t.Zh):=T.g2_.2.2.2.2.2.2.2.2.2.2.2.2.2.2.2.2.1
theorem Txt.So:Fun K "made_way" "made_way" Fo t.Zh t.Ij:=T.g2_.2.2.2.2.2.2.2.2.2.2.2.2.2.2.2.2.2.1
theorem Txt.qB:mg "read_way"=some (.ref t.di):=T.g2_.2.2.2.2.2.2.2.2.2.2.2.2.2.2.2.2.2.2.1
theorem Txt.Eo:Fun K "read_way" "read_way" ip t.di t.Jj:=T.g2_.2.2.2.2.2.2.2.2.2.2.2.2.2.2.2.2.2.2.2
theorem Txt.mr:mg "read_crossing"=some (.ref t.De):=T.g3_.1
theorem Txt.ki:Fun K "read_crossing" "read_crossing" ji t.De t.Df:=T.g3_.2.1
theorem Txt.Dc:mg "_law_draw"=some (.ref t.qf):=T.g3_.2.2.1
theorem Txt.gc:Fun K "_law_draw" "_law_draw" Um t.qf t.kg:=T.g3_.2.2.2.1
theorem Txt.By:mg "_law_ways"=some (.ref t.bh):=T.g3_.2.2.2.2.1
theorem Txt.Bm:Fun K "_law_ways" "_law_ways" Wm t.bh t.Ji:=T.g3_.2.2.2.2.2.1
theorem Txt.gs:mg "_law_room"=some (.ref t.jg):=T.g3_.2.2.2.2.2.2.1
theorem Txt.xk:Fun K "_law_room" "_law_room" Vm t.jg t.Xg:=T.g3_.2.2.2.2.2.2.2.1
theorem Txt.vy:mg "_law_rows"=some (.ref t.ah):=T.g3_.2.2.2.2.2.2.2.2.1
theorem Txt.Rm:Fun K "_law_rows" "_law_rows" Hm t.ah t.Fi:=T.g3_.2.2.2.2.2.2.2.2.2.1
theorem Txt.bC:mg "_law_due"=some (.ref t.bi):=T.g3_.2.2.2.2.2.2.2.2.2.2.1
theorem Txt.gp:Fun K "_law_due" "_law_due" Yj t.bi t.Vj:=T.g3_.2.2.2.2.2.2.2.2.2.2.2.1
theorem Txt.up:mg "_law_kinds"=some (.ref t.lg):=T.g3_.2.2.2.2.2.2.2.2.2.2.2.2.1
theorem Txt.ij:Fun K "_law_kinds" "_law_kinds" Vi t.lg t.Hh:=T.g3_.2.2.2.2.2.2.2.2.2.2.2.2.2.1
theorem Txt.Mw:mg "_law_asked"=some (.ref t.ng):=T.g3_.2.2.2.2.2.2.2.2.2.2.2.2.2.2.1
theorem Txt.il:Fun K "_law_asked" "_law_asked" xl t.ng t.Ah:=T.g3_.2.2.2.2.2.2.2.2.2.2.2.2.2.2.2.1
theorem Txt.SN:mg "law"=some (.ref t.RD):=T.g3_.2.2.2.2.2.2.2.2.2.2.2.2.2.2.2.2.1
theorem Txt.pN:Fun K "law" "law" mK t.RD t.oC:=T.g3_.2.2.2.2.2.2.2.2.2.2.2.2.2.2.2.2.2.1
theorem Txt.jA:mg "NoText"=some (.ref t.Ib):=T.g3_.2.2.2.2.2.2.2.2.2.2.2.2.2.2.2.2.2.2.1
theorem Txt.uo:Fun K "__init__" "NoText.__init__" Ak t.Ke t.Eg:=T.g4_.1
theorem Txt.lz:mg "Never"=some (.ref t.Gb):=T.g4_.2.1
theorem Txt.Np:Fun K "__init__" "Never.__init__" gl t.uf t.Ch:=T.g4_.2.2.2.1
theorem Txt.Hz:mg "Short"=some (.ref t.Eb):=T.g4_.2.2.2.2.1
theorem Txt.Cp:Fun K "__init__" "Short.__init__" Nl t.Af t.Eh:=T.g4_.2.2.2.2.2.2.1
theorem Txt.QD:mg "Clash"=some (.ref t.Nb):=T.g4_.2.2.2.2.2.2.2.1
theorem Txt.vp:Fun K "__init__" "Clash.__init__" yl t.Gf t.Fh:=T.g4_.2.2.2.2.2.2.2.2.2.1
theorem Txt.yz:mg "RowReader"=some (.ref t.yb):=T.g4_.2.2.2.2.2.2.2.2.2.2.1
theorem Txt.Uk:Fun K "__init__" "RowReader.__init__" Mh t.Gd t.Se:=T.g4_.2.2.2.2.2.2.2.2.2.2.2.2.1
theorem Txt.Lj:Fun K "ahead" "RowReader.ahead" Vg t.Qb t.vc:=T.g4_.2.2.2.2.2.2.2.2.2.2.2.2.2.2.1
theorem Txt.Sh:Fun K "has_more" "RowReader.has_more" Qf t.yc t.Uc:=T.g4_.2.2.2.2.2.2.2.2.2.2.2.2.2.2.2.2.1
theorem Txt.dj:Fun K "refuse" "RowReader.refuse" wg t.Mc t.Ed:=T.g4_.2.2.2.2.2.2.2.2.2.2.2.2.2.2.2.2.2.2.1
theorem Txt.Kh:Fun K "take" "RowReader.take" Lh t.Yb t.Fc:=T.g5_.1
theorem Txt.yg:Fun K "one_of" "RowReader.one_of" Jg t.Sb t.Bc:=T.g5_.2.2.1
theorem Txt.cg:Fun K "figures" "RowReader.figures" dg t.Jb t.Tb:=T.g5_.2.2.2.2.1
theorem Txt.vg:Fun K "finish" "RowReader.finish" ug t.Rb t.Ac:=T.g5_.2.2.2.2.2.2.1
theorem Txt.CL:mg "Plan"=some (.ref t.Ld):=T.g5_.2.2.2.2.2.2.2.1
theorem Txt.yr:Fun K "__init__" "Plan.__init__" gn t.eg t.oi:=T.g5_.2.2.2.2.2.2.2.2.2.1
theorem Txt.FJ:mg "Way"=some (.ref t.fm):=T.g5_.2.2.2.2.2.2.2.2.2.2.1
theorem Txt.gu:Fun K "__init__" "Way.__init__" Ko t.Nf t.lh:=T.g5_.2.2.2.2.2.2.2.2.2.2.2.2.1
theorem Txt.vG:mg "CarWay"=some (.ref t.Xb):=T.g5_.2.2.2.2.2.2.2.2.2.2.2.2.2.1
theorem Txt.Dn:Fun K "__init__" "CarWay.__init__" Jk t.Je t.Bg:=T.g5_.2.2.2.2.2.2.2.2.2.2.2.2.2.2.2.1
theorem Txt.qm:Fun K "ready" "CarWay.ready" tj t.af t.ph:=T.g5_.2.2.2.2.2.2.2.2.2.2.2.2.2.2.2.2.2.1
theorem Txt.mn:Fun K "fade" "CarWay.fade" Bk t.Hf t.Uh:=T.g5_.2.2.2.2.2.2.2.2.2.2.2.2.2.2.2.2.2.2.2
theorem Txt.aD:mg "FootWay"=some (.ref t.Mb):=T.g6_.1
theorem Txt.xm:Fun K "__init__" "FootWay.__init__" rj t.pe t.Zf:=T.g6_.2.2.1
theorem Txt.Sl:Fun K "ready" "FootWay.ready" ii t.ve t.zg:=T.g6_.2.2.2.2.1
theorem Txt.vm:Fun K "fade" "FootWay.fade" Gj t.bf t.sh:=T.g6_.2.2.2.2.2.2.1
theorem Txt.uD:mg "TramWay"=some (.ref t.Lb):=T.g6_.2.2.2.2.2.2.2.1
theorem Txt.om:Fun K "__init__" "TramWay.__init__" Bj t.qe t.Yf:=T.g6_.2.2.2.2.2.2.2.2.2.1
theorem Txt.Ll:Fun K "ready" "TramWay.ready" Hi t.Be t.xg:=T.g6_.2.2.2.2.2.2.2.2.2.2.2.1
theorem Txt.rm:Fun K "fade" "TramWay.fade" Aj t.cf t.uh:=T.g6_.2.2.2.2.2.2.2.2.2.2.2.2.2.1
theorem Txt.fC:mg "Crossing"=some (.ref t.Fb):=T.g6_.2.2.2.2.2.2.2.2.2.2.2.2.2.2.1
theorem Txt.Hl:Fun K "__init__" "Crossing.__init__" Ai t.Td t.wf:=T.g6_.2.2.2.2.2.2.2.2.2.2.2.2.2.2.2.2.1
theorem Txt.Pk:Fun K "names" "Crossing.names" bg t.Gc t.Vc:=T.g6_.2.2.2.2.2.2.2.2.2.2.2.2.2.2.2.2.2.2.1
theorem Txt.Kj:Fun K "number" "Crossing.number" jh t.ud t.we:=T.g7_.1
theorem Txt.Uj:Fun K "called" "Crossing.called" Pg t.bc t.Jc:=T.g7_.2.2.1
theorem Txt.wb:Cls K t.yb:=T.g7_.2.2.2.1
theorem Txt.Yy:Mk K t.yb t.Gd:=T.g7_.2.2.2.2.1
theorem Txt.Od:Zk K t.yb "ahead" t.Qb:=T.g7_.2.2.2.2.2.1
theorem Txt.Qh:Zk K t.yb "has_more" t.yc:=T.g7_.2.2.2.2.2.2.1
theorem Txt.Ti:Zk K t.yb "refuse" t.Mc:=T.g7_.2.2.2.2.2.2.2.1
theorem Txt.Qe:Zk K t.yb "take" t.Yb:=T.g7_.2.2.2.2.2.2.2.2.1
theorem Txt.me:Zk K t.yb "one_of" t.Sb:=T.g7_.2.2.2.2.2.2.2.2.2.1
theorem Txt.kc:Zk K t.yb "figures" t.Jb:=T.g7_.2.2.2.2.2.2.2.2.2.2.1
theorem Txt.jf:Zk K t.yb "finish" t.Rb:=T.g7_.2.2.2.2.2.2.2.2.2.2.2.1
theorem Txt.Tk:zb K t.yb "row" := T.g7_.2.2.2.2.2.2.2.2.2.2.2.2.1
theorem Txt.Zj:zb K t.yb "told" := T.g7_.2.2.2.2.2.2.2.2.2.2.2.2.2.1
theorem Txt.ef:zb K t.yb "place" := T.g7_.2.2.2.2.2.2.2.2.2.2.2.2.2.2.1
theorem Txt.zk:Cls K t.Ld:=T.g7_.2.2.2.2.2.2.2.2.2.2.2.2.2.2.2.1
theorem Txt.RK:Mk K t.Ld t.eg:=T.g7_.2.2.2.2.2.2.2.2.2.2.2.2.2.2.2.2.1
theorem Txt.Tp:zb K t.Ld "crossing" := T.g7_.2.2.2.2.2.2.2.2.2.2.2.2.2.2.2.2.2.1
theorem Txt.rp:zb K t.Ld "size" := T.g7_.2.2.2.2.2.2.2.2.2.2.2.2.2.2.2.2.2.2.1
theorem Txt.yn:zb K t.Ld "spans" := T.g7_.2.2.2.2.2.2.2.2.2.2.2.2.2.2.2.2.2.2.2
theorem Txt.Ln:zb K t.Ld "lamps" := T.g8_.1
theorem Txt.wm:zb K t.Ld "untils" := T.g8_.2.1
theorem Txt.Nq:Cls K t.Xb:=T.g8_.2.2.2.2.2.2.2.2.2.2.1
theorem Txt.nH:Mk K t.Xb t.Je:=T.g8_.2.2.2.2.2.2.2.2.2.2.2.1
theorem Txt.Tt:Zk K t.Xb "ready" t.af:=T.g8_.2.2.2.2.2.2.2.2.2.2.2.2.1
theorem Txt.Av:Zk K t.Xb "fade" t.Hf:=T.g8_.2.2.2.2.2.2.2.2.2.2.2.2.2.1
theorem Txt.Us:zb K t.Xb "kind" := T.g8_.2.2.2.2.2.2.2.2.2.2.2.2.2.2.1
theorem Txt.Ft:zb K t.Xb "name" := T.g8_.2.2.2.2.2.2.2.2.2.2.2.2.2.2.2.1
theorem Txt.Ar:zb K t.Xb "start" := T.g8_.2.2.2.2.2.2.2.2.2.2.2.2.2.2.2.2.1
theorem Txt.Jv:zb K t.Xb "end" := T.g8_.2.2.2.2.2.2.2.2.2.2.2.2.2.2.2.2.2.1
theorem Txt.bv:zb K t.Xb "off" := T.g8_.2.2.2.2.2.2.2.2.2.2.2.2.2.2.2.2.2.2.1
theorem Txt.Qs:zb K t.Xb "near" := T.g8_.2.2.2.2.2.2.2.2.2.2.2.2.2.2.2.2.2.2.2
theorem Txt.zr:zb K t.Xb "least" := T.g9_.1
theorem Txt.No:Cls K t.Mb:=T.g9_.2.1
theorem Txt.EF:Mk K t.Mb t.pe:=T.g9_.2.2.1
theorem Txt.Hs:Zk K t.Mb "ready" t.ve:=T.g9_.2.2.2.1
theorem Txt.Ws:Zk K t.Mb "fade" t.bf:=T.g9_.2.2.2.2.1
theorem Txt.Hr:zb K t.Mb "kind" := T.g9_.2.2.2.2.2.1
theorem Txt.Pr:zb K t.Mb "name" := T.g9_.2.2.2.2.2.2.1
theorem Txt.Xp:zb K t.Mb "start" := T.g9_.2.2.2.2.2.2.2.1
theorem Txt.dt:zb K t.Mb "end" := T.g9_.2.2.2.2.2.2.2.2.1
theorem Txt.Bt:zb K t.Mb "off" := T.g9_.2.2.2.2.2.2.2.2.2.1
theorem Txt.Tq:zb K t.Mb "near" := T.g9_.2.2.2.2.2.2.2.2.2.2.1
theorem Txt.Yp:zb K t.Mb "least" := T.g9_.2.2.2.2.2.2.2.2.2.2.2.1
theorem Txt.Ao:Cls K t.Lb:=T.g9_.2.2.2.2.2.2.2.2.2.2.2.2.1
theorem Txt.gE:Mk K t.Lb t.qe:=T.g9_.2.2.2.2.2.2.2.2.2.2.2.2.2.1
theorem Txt.Qq:Zk K t.Lb "ready" t.Be:=T.g9_.2.2.2.2.2.2.2.2.2.2.2.2.2.2.1
theorem Txt.Et:Zk K t.Lb "fade" t.cf:=T.g9_.2.2.2.2.2.2.2.2.2.2.2.2.2.2.2.1
theorem Txt.kr:zb K t.Lb "kind" := T.g9_.2.2.2.2.2.2.2.2.2.2.2.2.2.2.2.2.1
theorem Txt.Er:zb K t.Lb "name" := T.g9_.2.2.2.2.2.2.2.2.2.2.2.2.2.2.2.2.2.1
theorem Txt.cq:zb K t.Lb "start" := T.g9_.2.2.2.2.2.2.2.2.2.2.2.2.2.2.2.2.2.2.1
theorem Txt.Xs:zb K t.Lb "end" := T.g9_.2.2.2.2.2.2.2.2.2.2.2.2.2.2.2.2.2.2.2
theorem Txt.yt:zb K t.Lb "off" := T.Ax.1
theorem Txt.Oq:zb K t.Lb "near" := T.Ax.2.1
theorem Txt.iq:zb K t.Lb "least" := T.Ax.2.2.1
theorem Txt.ac:Cls K t.Fb:=T.Ax.2.2.2.1
theorem Txt.WB:Mk K t.Fb t.Td:=T.Ax.2.2.2.2.1
theorem Txt.ie:Zk K t.Fb "names" t.Gc:=T.Ax.2.2.2.2.2.1
theorem Txt.Po:Zk K t.Fb "number" t.ud:=T.Ax.2.2.2.2.2.2.1
theorem Txt.jd:Zk K t.Fb "called" t.bc:=T.Ax.2.2.2.2.2.2.2.1
theorem Txt.Xi:zb K t.Fb "places" := T.Ax.2.2.2.2.2.2.2.2.1
theorem Txt.Lk:zb K t.Fb "ways" := T.Ax.2.2.2.2.2.2.2.2.2.1
theorem Txt.ni:zb K t.Fb "numbers" := T.Ax.2.2.2.2.2.2.2.2.2.2.1
theorem Txt.vi:mg "LampError"=some (.ref t.Vd):=T.Ax.2.2.2.2.2.2.2.2.2.2.2.1
theorem Txt.nk:aN K t.Vd "__init__" := T.Ax.2.2.2.2.2.2.2.2.2.2.2.2.1
theorem Txt.ZC:XB K t.Ib:=T.Ax.2.2.2.2.2.2.2.2.2.2.2.2.2.1
theorem Txt.ww:MkX K t.Ib t.Ke:=T.Ax.2.2.2.2.2.2.2.2.2.2.2.2.2.2.1
theorem Txt.Wv:zb K t.Ib "row" := T.Ax.2.2.2.2.2.2.2.2.2.2.2.2.2.2.2.1
theorem Txt.Yt:zb K t.Ib "word" := T.Ax.2.2.2.2.2.2.2.2.2.2.2.2.2.2.2.2.1
theorem Txt.EJ:mg "NoWay"=some (.ref t.Fj):=T.EK.2.2.2.2.2.2.2.2.2.2.2.2.1
theorem Txt.MH:XB K t.Gb:=T.EK.2.2.2.2.2.2.2.2.2.2.2.2.2.1
theorem Txt.Uz:MkX K t.Gb t.uf:=T.EK.2.2.2.2.2.2.2.2.2.2.2.2.2.2.1
theorem Txt.Lp:zb K t.Gb "way" := T.EK.2.2.2.2.2.2.2.2.2.2.2.2.2.2.2.1
theorem Txt.OG:IB K t.Gb:=T.EK.2.2.2.2.2.2.2.2.2.2.2.2.2.2.2.2.1
theorem Txt.Xt:PySem.W.kitOne K (.ref t.Gb) (.ref t.Nb)=some false:=T.EK.2.2.2.2.2.2.2.2.2.2.2.2.2.2.2.2.2.1
theorem Txt.im:PySem.W.kitOne K (.ref t.Gb) (.ref t.Gb)=some true:=T.EK.2.2.2.2.2.2.2.2.2.2.2.2.2.2.2.2.2.2.2
theorem Txt.tm:PySem.W.kitOne K (.ref t.Gb) (.ref t.Eb)=some false:=T.jz.1
theorem Txt.ar:PySem.W.kitOne K (.ref t.Gb) (.ref t.Ib)=some false:=T.jz.2.1
theorem Txt.Ut:PySem.W.kitOne K (.ref t.Gb) (.ref t.Fj)=some false:=T.jz.2.2.1
theorem Txt.aq:PySem.W.kitOne K (.ref t.Gb) (.ref t.Xf)=some false:=T.jz.2.2.2.1
theorem Txt.Ss:PySem.W.kitOne K (.ref t.Gb) (.ref t.wj)=some false:=T.jz.2.2.2.2.1
theorem Txt.dr:PySem.W.kitOne K (.ref t.Gb) (.ref t.vh)=some false:=T.jz.2.2.2.2.2.1
theorem Txt.Yn:PySem.W.exmOne K (.ref t.Gb) (.ref t.Vd)=some true:=T.jz.2.2.2.2.2.2.1
theorem Txt.pG:XB K t.Eb:=T.jz.2.2.2.2.2.2.2.2.2.2.2.1
theorem Txt.mB:MkX K t.Eb t.Af:=T.jz.2.2.2.2.2.2.2.2.2.2.2.2.1
theorem Txt.Gp:zb K t.Eb "way" := T.jz.2.2.2.2.2.2.2.2.2.2.2.2.2.1
theorem Txt.Vr:zb K t.Eb "at" := T.jz.2.2.2.2.2.2.2.2.2.2.2.2.2.2.1
theorem Txt.NH:IB K t.Eb:=T.jz.2.2.2.2.2.2.2.2.2.2.2.2.2.2.2.1
theorem Txt.At:PySem.W.kitOne K (.ref t.Eb) (.ref t.Nb)=some false:=T.jz.2.2.2.2.2.2.2.2.2.2.2.2.2.2.2.2.1
theorem Txt.jm:PySem.W.kitOne K (.ref t.Eb) (.ref t.Gb)=some false:=T.jz.2.2.2.2.2.2.2.2.2.2.2.2.2.2.2.2.2.2.1
theorem Txt.gm:PySem.W.kitOne K (.ref t.Eb) (.ref t.Eb)=some true:=T.jz.2.2.2.2.2.2.2.2.2.2.2.2.2.2.2.2.2.2.2
theorem Txt.Sq:PySem.W.kitOne K (.ref t.Eb) (.ref t.Ib)=some false:=T.qE.1
theorem Txt.Vt:PySem.W.kitOne K (.ref t.Eb) (.ref t.Fj)=some false:=T.qE.2.1
theorem Txt.Op:PySem.W.kitOne K (.ref t.Eb) (.ref t.Xf)=some false:=T.qE.2.2.1
theorem Txt.ft:PySem.W.kitOne K (.ref t.Eb) (.ref t.wj)=some false:=T.qE.2.2.2.1
theorem Txt.Wr:PySem.W.kitOne K (.ref t.Eb) (.ref t.vh)=some false:=T.qE.2.2.2.2.1
theorem Txt.qo:PySem.W.exmOne K (.ref t.Eb) (.ref t.Vd)=some true:=T.qE.2.2.2.2.2.1
theorem Txt.kH:XB K t.Nb:=T.qE.2.2.2.2.2.2.2.2.2.2.1
theorem Txt.AA:MkX K t.Nb t.Gf:=T.qE.2.2.2.2.2.2.2.2.2.2.2.1
theorem Txt.Px:zb K t.Nb "way" := T.qE.2.2.2.2.2.2.2.2.2.2.2.2.1
theorem Txt.Ps:zb K t.Nb "other" := T.qE.2.2.2.2.2.2.2.2.2.2.2.2.2.1
theorem Txt.Zy:zb K t.Nb "at" := T.qE.2.2.2.2.2.2.2.2.2.2.2.2.2.2.1
theorem Txt.HD:mg "TooMany"=some (.ref t.Xf):=T.jK.2.2.2.2.2.2.2.2.2.2.1
theorem Txt.DJ:mg "NoRow"=some (.ref t.wj):=T.jK.2.2.2.2.2.2.2.2.2.2.2.1
theorem Txt.KG:mg "NoName"=some (.ref t.vh):=T.jK.2.2.2.2.2.2.2.2.2.2.2.2.1
theorem Txt.ck:t.Xb ≠ t.Mb:=T.jK.2.2.2.2.2.2.2.2.2.2.2.2.2.2.2.2.1
theorem Txt.fk:t.Xb ≠ t.Lb:=T.jK.2.2.2.2.2.2.2.2.2.2.2.2.2.2.2.2.2.1
theorem Txt.fj:t.Mb ≠ t.Lb:=T.jK.2.2.2.2.2.2.2.2.2.2.2.2.2.2.2.2.2.2.1
theorem Txt.Yo:cN K t.fm "__init__" t.Nf:=T.jK.2.2.2.2.2.2.2.2.2.2.2.2.2.2.2.2.2.2.2
theorem Txt.LD:mg "FIGURES"=some t.Cn:=T.nu.1
theorem Txt.QE:Jd (.str (Str.ofString "0123456789")) t.Cn:=T.nu.2.1
theorem Txt.Qt:mg "LEAST_PLACES"=some t.xh:=T.nu.2.2.1
theorem Txt.Os:Jd (.int 2) t.xh:=T.nu.2.2.2.1
theorem Txt.mF:mg "LETTERS"=some t.Rn:=T.nu.2.2.2.2.1
theorem Txt.FF:Jd (.str (Str.ofString "abcdefghijklmnopqrstuvwxyz")) t.Rn:=T.nu.2.2.2.2.2.1
theorem Txt.Ys:mg "MOST_FIGURES"=some t.qh:=T.nu.2.2.2.2.2.2.1
theorem Txt.xt:Jd (.int 3) t.qh:=T.nu.2.2.2.2.2.2.2.1
theorem Txt.Jx:mg "MOST_LEAST"=some t.jj:=T.nu.2.2.2.2.2.2.2.2.1
theorem Txt.Vx:Jd (.int 60) t.jj:=T.nu.2.2.2.2.2.2.2.2.2.1
theorem Txt.Ht:mg "MOST_LETTERS"=some t.yh:=T.nu.2.2.2.2.2.2.2.2.2.2.1
theorem Txt.Vs:Jd (.int 8) t.yh:=T.nu.2.2.2.2.2.2.2.2.2.2.2.1
theorem Txt.uz:mg "MOST_NEAR"=some t.Kk:=T.nu.2.2.2.2.2.2.2.2.2.2.2.2.1
theorem Txt.bz:Jd (.int 30) t.Kk:=T.nu.2.2.2.2.2.2.2.2.2.2.2.2.2.1
theorem Txt.OB:mg "MOST_OFF"=some t.Ul:=T.nu.2.2.2.2.2.2.2.2.2.2.2.2.2.2.1
theorem Txt.CB:Jd (.int 30) t.Ul:=T.nu.2.2.2.2.2.2.2.2.2.2.2.2.2.2.2.1
theorem Txt.qv:mg "MOST_PLACES"=some t.Xh:=T.nu.2.2.2.2.2.2.2.2.2.2.2.2.2.2.2.2.1
theorem Txt.lv:Jd (.int 99) t.Xh:=T.nu.2.2.2.2.2.2.2.2.2.2.2.2.2.2.2.2.2.1
theorem Txt.yy:mg "MOST_SIZE"=some t.Dk:=T.nu.2.2.2.2.2.2.2.2.2.2.2.2.2.2.2.2.2.2.1
theorem Txt.Fy:Jd (.int 240) t.Dk:=T.nu.2.2.2.2.2.2.2.2.2.2.2.2.2.2.2.2.2.2.2
theorem Txt.Nw:mg "MOST_SPANS"=some t.aj:=T.kx.1
theorem Txt.Gx:Jd (.int 3) t.aj:=T.kx.2.1
theorem Txt.pz:mg "MOST_WAYS"=some t.Ck:=T.kx.2.2.1
theorem Txt.Py:Jd (.int 12) t.Ck:=T.kx.2.2.2.1
theorem Txt.gN:mg "all"=none:=T.kx.2.2.2.2.1
theorem Txt.Ci:mg "enumerate"=none:=T.kx.2.2.2.2.2.1
theorem Txt.qL:mg "int"=none:=T.kx.2.2.2.2.2.2.1
theorem Txt.Md:mg "isinstance"=none:=T.kx.2.2.2.2.2.2.2.1
theorem Txt.Zm:mg "len"=none:=T.kx.2.2.2.2.2.2.2.2.1
theorem Txt.cB:mg "list"=none:=T.kx.2.2.2.2.2.2.2.2.2.1
theorem Txt.mL:mg "max"=none:=T.kx.2.2.2.2.2.2.2.2.2.2.1
theorem Txt.KH:mg "min"=none:=T.kx.2.2.2.2.2.2.2.2.2.2.2.1
theorem Txt.Ng:mg "range"=none:=T.kx.2.2.2.2.2.2.2.2.2.2.2.2.1
theorem Txt.Io:mg "reversed"=none:=T.kx.2.2.2.2.2.2.2.2.2.2.2.2.2.1
theorem Txt.Iy:mg "str"=none:=T.kx.2.2.2.2.2.2.2.2.2.2.2.2.2.2.1
theorem Txt.MN:mg "sum"=none:=T.kx.2.2.2.2.2.2.2.2.2.2.2.2.2.2.2.1
theorem Txt.AM:∀ (s:Shared) (u:Value),BindsTo s t.oC ⟨[u],[]⟩ [("_law_script",u)]:=T.kx.2.2.2.2.2.2.2.2.2.2.2.2.2.2.2.2
theorem Txt.FA:Zb K t.ko q33 []:=T.Bq.binds fun _ _ _ _ _ _=>us3 fun _ _ _=>rfl
theorem Txt.Ix:Zb K t.Bh q21 []:=T.El.binds fun _ _ _ _ _ _=>us3 fun _ _ _=>rfl
theorem Txt.WK:Zb K t.Tx q13 []:=T.kF.binds fun _ _ _ _ _ _=>us3 fun _ _ _=>rfl
theorem Txt.NN:Zb K t.iG q13 []:=T.CJ.binds fun _ _ _ _ _ _=>us3 fun _ _ _=>rfl
theorem Txt.ZJ:Zb K t.Xq ["text"] []:=T.wz.binds fun _ _ _ _ _ _=>us1 fun _=>rfl
theorem Txt.Ap:Zb K t.qg q16 []:=T.Oi.binds fun _ _ _ _ _ _=>us3 fun _ _ _=>rfl
theorem Txt.Ly:Zb K t.mi q22 []:=T.jn.binds fun _ _ _ _ _ _=>us2 fun _ _=>rfl
theorem Txt.Dx:Zb K t.Sj q23 []:=T.Kn.binds fun _ _ _ _ _ _=>us3 fun _ _ _=>rfl
theorem Txt.NC:Zb K t.Pl ["word"] []:=T.jr.binds fun _ _ _ _ _ _=>us1 fun _=>rfl
theorem Txt.Qw:Zb K t.ak ["text"] []:=T.On.binds fun _ _ _ _ _ _=>us1 fun _=>rfl
theorem Txt.um:Zb K t.We ["marks"] []:=T.rh.binds fun _ _ _ _ _ _=>us1 fun _=>rfl
theorem Txt.Mt:Zb K t.Tf ["marks"] []:=T.nj.binds fun _ _ _ _ _ _=>us1 fun _=>rfl
theorem Txt.Tj:Zb K t.Lf q10 []:=T.kh.binds fun _ _ _ _ _ _=>us2 fun _ _=>rfl
theorem Txt.Dp:Zb K t.og q24 []:=T.Qi.binds fun _ _ _ _ _ _=>us3 fun _ _ _=>rfl
theorem Txt.cM:Zb K t.Jw q34 []:=T.zE.binds fun _ _ _ _ _ _=>us3 fun _ _ _=>rfl
theorem Txt.Gz:Zb K t.Bi ["reader"] []:=T.Xm.binds fun _ _ _ _ _ _=>us1 fun _=>rfl
theorem Txt.Vy:Zb K t.gi q35 []:=T.Am.binds fun _ _ _ _ _ _=>us4 fun _ _ _ _=>rfl
theorem Txt.nz:Zb K t.Ii q36 []:=T.Im.binds fun _ _ _ _ _ _=>us2 fun _ _=>rfl
theorem Txt.Nt:Zb K t.Vf q37 []:=T.Hj.binds fun _ _ _ _ _ _=>us2 fun _ _=>rfl
theorem Txt.ql:Zb K t.Ad q38 []:=T.vf.binds fun _ _ _ _ _ _=>us3 fun _ _ _=>rfl
theorem Txt.Kt:Zb K t.ag q14 []:=T.xj.binds fun _ _ _ _ _ _=>us3 fun _ _ _=>rfl
theorem Txt.Ho:Zb K t.ye q39 []:=T.mh.binds fun _ _ _ _ _ _=>us5 fun _ _ _ _ _=>rfl
theorem Txt.Wt:Zb K t.Sf q14 []:=T.zj.binds fun _ _ _ _ _ _=>us3 fun _ _ _=>rfl
theorem Txt.Mq:Zb K t.Qg q25 []:=T.Ik.binds fun _ _ _ _ _ _=>us3 fun _ _ _=>rfl
theorem Txt.Sw:Zb K t.Bl ["plan"] []:=T.Fn.binds fun _ _ _ _ _ _=>us1 fun _=>rfl
theorem Txt.gz:Zb K t.yi ["reader"] []:=T.Nm.binds fun _ _ _ _ _ _=>us1 fun _=>rfl
theorem Txt.Tr:Zb K t.Ff q40 []:=T.Ei.binds fun _ _ _ _ _ _=>us2 fun _ _=>rfl
theorem Txt.gC:Zb K t.Oj q26 []:=T.zo.binds fun _ _ _ _ _ _=>us3 fun _ _ _=>rfl
theorem Txt.SB:Zb K t.Ij q27 []:=T.So.binds fun _ _ _ _ _ _=>us7 fun _ _ _ _ _ _ _=>rfl
theorem Txt.QB:Zb K t.Jj q41 []:=T.Eo.binds fun _ _ _ _ _ _=>us3 fun _ _ _=>rfl
theorem Txt.js:Zb K t.Df ["text"] []:=T.ki.binds fun _ _ _ _ _ _=>us1 fun _=>rfl
theorem Txt.Ec:Zb K t.kg q18 []:=T.gc.binds fun _ _ _ _ _ _=>us3 fun _ _ _=>rfl
theorem Txt.Qy:Zb K t.Ji q19 []:=T.Bm.binds fun _ _ _ _ _ _=>us1 fun _=>rfl
theorem Txt.Zq:Zb K t.Xg q20 []:=T.xk.binds fun _ _ _ _ _ _=>us1 fun _=>rfl
theorem Txt.uy:Zb K t.Fi q42 []:=T.Rm.binds fun _ _ _ _ _ _=>us3 fun _ _ _=>rfl
theorem Txt.PB:Zb K t.Vj q43 []:=T.gp.binds fun _ _ _ _ _ _=>us3 fun _ _ _=>rfl
theorem Txt.yp:Zb K t.Hh ["_law_e"] []:=T.ij.binds fun _ _ _ _ _ _=>us1 fun _=>rfl
theorem Txt.cx:Zb K t.Ah q44 []:=T.il.binds fun _ _ _ _ _ _=>us5 fun _ _ _ _ _=>rfl
theorem Txt.vv:Zb K t.Eg q28 []:=T.uo.binds fun _ _ _ _ _ _=>us3 fun _ _ _=>rfl
theorem Txt.Uw:Zb K t.Ch q29 []:=T.Np.binds fun _ _ _ _ _ _=>us2 fun _ _=>rfl
theorem Txt.Bw:Zb K t.Eh q30 []:=T.Cp.binds fun _ _ _ _ _ _=>us3 fun _ _ _=>rfl
theorem Txt.Fw:Zb K t.Fh q31 []:=T.vp.binds fun _ _ _ _ _ _=>us4 fun _ _ _ _=>rfl
theorem Txt.Zp:Zb K t.Se q32 []:=T.Uk.binds fun _ _ _ _ _ _=>us3 fun _ _ _=>rfl
theorem Txt.Qd:Zb K t.vc ["self"] []:=T.Lj.binds fun _ _ _ _ _ _=>us1 fun _=>rfl
theorem Txt.Oh:Zb K t.Uc ["self"] []:=T.Sh.binds fun _ _ _ _ _ _=>us1 fun _=>rfl
theorem Txt.Ui:Zb K t.Ed ["self"] []:=T.dj.binds fun _ _ _ _ _ _=>us1 fun _=>rfl
theorem Txt.Ue:Zb K t.Fc q11 []:=T.Kh.binds fun _ _ _ _ _ _=>us2 fun _ _=>rfl
theorem Txt.je:Zb K t.Bc q15 []:=T.yg.binds fun _ _ _ _ _ _=>us2 fun _ _=>rfl
theorem Txt.jc:Zb K t.Tb q12 []:=T.cg.binds fun _ _ _ _ _ _=>us3 fun _ _ _=>rfl
theorem Txt.gf:Zb K t.Ac ["self"] []:=T.vg.binds fun _ _ _ _ _ _=>us1 fun _=>rfl
theorem Txt.sy:Zb K t.oi q45 []:=T.yr.binds fun _ _ _ _ _ _=>us4 fun _ _ _ _=>rfl
theorem Txt.pp:Zb K t.lh q17 []:=T.gu.binds fun _ _ _ _ _ _=>us8 fun _ _ _ _ _ _ _ _=>rfl
theorem Txt.nv:Zb K t.Bg q8 []:=T.Dn.binds fun _ _ _ _ _ _=>us7 fun _ _ _ _ _ _ _=>rfl
theorem Txt.Zt:Zb K t.ph ["self"] []:=T.qm.binds fun _ _ _ _ _ _=>us1 fun _=>rfl
theorem Txt.mv:Zb K t.Uh ["self"] []:=T.mn.binds fun _ _ _ _ _ _=>us1 fun _=>rfl
theorem Txt.qt:Zb K t.Zf q8 []:=T.xm.binds fun _ _ _ _ _ _=>us7 fun _ _ _ _ _ _ _=>rfl
theorem Txt.Pq:Zb K t.zg ["self"] []:=T.Sl.binds fun _ _ _ _ _ _=>us1 fun _=>rfl
theorem Txt.Dt:Zb K t.sh ["self"] []:=T.vm.binds fun _ _ _ _ _ _=>us1 fun _=>rfl
theorem Txt.vt:Zb K t.Yf q8 []:=T.om.binds fun _ _ _ _ _ _=>us7 fun _ _ _ _ _ _ _=>rfl
theorem Txt.cr:Zb K t.xg ["self"] []:=T.Ll.binds fun _ _ _ _ _ _=>us1 fun _=>rfl
theorem Txt.ot:Zb K t.uh ["self"] []:=T.rm.binds fun _ _ _ _ _ _=>us1 fun _=>rfl
theorem Txt.Br:Zb K t.wf q46 []:=T.Hl.binds fun _ _ _ _ _ _=>us3 fun _ _ _=>rfl
theorem Txt.ce:Zb K t.Vc ["self"] []:=T.Pk.binds fun _ _ _ _ _ _=>us1 fun _=>rfl
theorem Txt.Jo:Zb K t.we q9 []:=T.Kj.binds fun _ _ _ _ _ _=>us2 fun _ _=>rfl
theorem Txt.md:Zb K t.Jc q9 []:=T.Uj.binds fun _ _ _ _ _ _=>us2 fun _ _=>rfl
theorem Txt.jq:Ks K t.Ib:=Zu T.ZC T.ww
theorem Txt.Js:Ks K t.Gb:=Zu T.MH T.Uz
theorem Txt.av:MJ K t.Gb:=sE T.Js T.OG
theorem Txt.Em:Ks K t.Eb:=Zu T.pG T.mB
theorem Txt.Ov:MJ K t.Eb:=sE T.Em T.NH
theorem Txt.lr:Ks K t.Nb:=Zu T.kH T.AA
end
noncomputable def Ki (ns:List Int) (k m:Int):Int:=
 ((((if 0 < (ns.length:Int) then ns.getD (k % (ns.length:Int)).toNat 0 else 0) % 1000003 + 31 * k * k + 1) * 48271 % 999983 * 7919) % 524287) % m
theorem Dj (ns:List Int) (k:Int) {m:Int} (h:0 < m):0 ≤ Ki ns k m:=Int.emod_nonneg _ (by omega)
theorem Hk (ns:List Int) (k:Int) {m:Int} (h:0 < m):Ki ns k m < m:=Int.emod_lt_of_pos _ h
noncomputable def pf (K:PySem.W.Frag) (a:Addr) (ns:List Int):Sp:=fun vs H Q _=>∃ k m,vs=[.ref a,.int k,.int m]∧Sc K a ns H∧(0 ≤ k∧k < 1000000)∧0 < m∧Q (.int (Ki ns k m)) H
section
variable {P:Program} {w:World} {K:PySem.W.Frag} {mg:Str→Option Value} {base:Heap} {t:Adr}
theorem ky (T:Txt w K mg t) (a:Addr) (ns:List Int) (h63:ns.length ≤ 63):Kb P w K mg base CX0 1 t.qf t.kg q18 (pf K a ns):=by
 refine T.gc.ok Jl (fun vs H Q E h=>?_) (fun _ _ _ s H vs Q E hr h=>?_)
 ·obtain ⟨k,m,rfl,_⟩:=h;rfl
 obtain ⟨k,m,rfl,S,⟨h0,h1⟩,hm,q⟩:=h;refine ⟨_,(db (Bb (i:=3) Jl.nd (eA (zc MF (fc Lc rfl T.Zm Zc (bb (pv 0) fb)) ub (Hc _)) (xc ae (pv 0) (Vb zi (pv 1) (fc Lc rfl T.Zm Zc (bb (pv 0) fb)))) ub))
   (db (Bb (i:=4) Jl.nd (Vb ke (Vb ke (Vb zi (pv 3) ub) (Vb rn (Vb rn ub (pv 1)) (pv 1))) ub))
   (gb (Ob (Vb zi (Vb zi (Vb rn (Vb zi (Vb rn (pv 4) ub) ub) ub) ub) (pv 2)))))),?_⟩
 walk_at "RD";refine ⟨_,.inl S.seq,?_⟩;rw [List.length_map];have hkk:(0:Int) ≤ k * k∧k * k < 1000000 * 1000000:=⟨Int.mul_nonneg h0 h0,Int.mul_lt_mul' (by omega) h1 h0 (by decide)⟩;have fin:∀ i:Int,(0:Int) < 1000003∧JC 31 k∧JC (31 * k) k∧JC (i % 1000003 + 31 * k * k + 1) 48271∧(0:Int) < 999983∧JC ((i % 1000003 + 31 * k * k + 1) * 48271 % 999983) 7919∧(0:Int) < 524287∧0 < m:=by
  intro i;refine ⟨by decide,.inl (by decide),.inr (by omega),.inr (by decide),by decide,.inr (by decide),by decide,hm⟩
 by_cases c:(0:Int) < (ns.length:Int)
 ·rw [if_pos (decide_eq_true c)];have hk:0 ≤ k % (ns.length:Int)∧k % (ns.length:Int) < (ns.length:Int):=⟨Int.emod_nonneg _ (by omega),Int.emod_lt_of_pos _ c⟩;refine ⟨_,.inl S.seq,by rw [List.length_map];exact c,_,S.seq,?_⟩;rw [List.length_map];have hj:(k % (ns.length:Int)).toNat < ns.length:=by omega
  refine ⟨.int ns[(k % (ns.length:Int)).toNat],?_,_,rfl,?_⟩
  ·have e:=Cc (xs:=ns.map V.int) (j:=(k % (ns.length:Int)).toNat) (v:=.int ns[(k % (ns.length:Int)).toNat]) (by rw [List.getElem?_map,List.getElem?_eq_getElem hj] <;> rfl);rwa [Int.toNat_of_nonneg hk.1] at e
  ·obtain ⟨f1,f2,f3,f4,f5,f6,f7,f8⟩:=fin ns[(k % (ns.length:Int)).toNat];refine ⟨f1,f2,f3,f4,f5,f6,f7,f8,?_⟩;have e:Ki ns k m=(((ns[(k % (ns.length:Int)).toNat] % 1000003 + 31 * k * k + 1) * 48271 % 999983 * 7919) % 524287) % m:=by
    unfold Ki;rw [if_pos c,List.getD_eq_getElem?_getD,List.getElem?_eq_getElem hj];rfl
   rw [← e];exact q
 ·rw [if_neg (by simpa using c)];obtain ⟨f1,f2,f3,f4,f5,f6,f7,f8⟩:=fin 0;refine ⟨f1,f2,f3,f4,f5,f6,f7,f8,?_⟩;have e:Ki ns k m=(((0 % 1000003 + 31 * k * k + 1) * 48271 % 999983 * 7919) % 524287) % m:=by
   unfold Ki;rw [if_neg c]
  rw [← e];exact q
end
theorem TM {w:Str}:w=Str.ofString "" ↔ w.length=0:=by
 constructor
 ·rintro rfl;decide +kernel
 ·intro h;have e:w.cps=#[]:=Array.eq_empty_of_size_eq_zero h;have e2:(Str.ofString "").cps=#[]:=by decide +kernel
  cases w;cases h2:Str.ofString "";rw [h2] at e2;simp only at e e2;rw [e,e2]
noncomputable def inL (sg:Str) (c:Nat):Bool:=!(Builtin.Str.occurrences sg (aM c) 0 sg.length 1).isEmpty
theorem Wy (sg:Str) (c:Nat):inL sg c=decide (c ∈ sg.cps.toList):=StrLaws.found_one sg c
noncomputable def made (w sg:Str) (m:Int):Bool:=if w=Str.ofString "" then false else if m < (w.length:Int) then false else w.cps.toList.all (inL sg)
noncomputable def Ds:Sp:=fun vs H Q _=>∃ w sg m,vs=[.str w,.str sg,.int m]∧w.length ≤ 1000∧NoT H∧Q (.bl (made w sg m)) H
noncomputable def xH:Sp:=fun vs H Q _=>∃ w sg m,vs=[.str w,.str sg,.int m]∧w.length ≤ 1000∧∀ H',dc H H'→Q (.bl (made w sg m)) H'
section
variable {P:Program} {w:World} {K:PySem.W.Frag} {mg:Str→Option Value} {base:Heap} {t:Adr}
theorem OD (T:Txt w K mg t):Kb P w K mg base CX0 1 t.Ef t.qg q16 Ds:=by
 refine Kb.forget (sp:=xH) ?_ fun vs H Q E h=>?_
 ·refine T.Oi.ok Sv (fun vs H Q E h=>?_) (fun _ _ _ s H vs Q E hr h=>?_)
  ·obtain ⟨w,sg,m,rfl,_⟩:=h;rfl
  obtain ⟨w,sg,m,rfl,hz,q⟩:=h;have hz':w.length ≤ sizeLine:=Nat.le_trans hz (by decide);refine ⟨_,(db (Kf (PW.pt (MD (zc Mi (pv 0) qc (Hc _)) (qx (zc MF (fc Pw rfl T.Zm Zc (bb (pv 0) fb)) (pv 2) (Hc _))))) (gb (Ob wy)) Kc)
   (gb (Ob (fc (dH rfl) rfl T.gN TB (bb (yj rfl (FL (pv 0)) (Ud (sc:=ib Si) rfl (by decide +kernel)) (N:=["sign","signs"]) (sel:=[none,some 1]) (Ie (M:=q16) (by decide +kernel)) (Blk.of (fun _ _ _ _=>(Ab (i:=0) (Li (N:=["sign","signs"]) (by decide +kernel) rfl))) (fun _ _ _ _=>⟨_,ui,by walk_at "B"⟩) (fun _ _ _ _=>⟨_,(Pf jD (pv 0) (pv 1) (by with_unfolding_all rfl)),by walk_at "B"⟩))) fb))))),?_⟩
  walk_at "RD";refine Nc (decide (w=Str.ofString "") || decide (m < (w.length:Int))) (fun Q hQ=>?_) (fun hb=>?_) (fun hb=>?_)
  ·walk_at "RD";by_cases c:w=Str.ofString ""
   ·rw [if_pos (decide_eq_true c)];rw [decide_eq_true c,Bool.true_or] at hQ;exact hQ
   ·rw [if_neg (by simpa using c)];rw [decide_eq_false c,Bool.false_or] at hQ;exact ⟨hz',hQ⟩
  ·walk_at "RD";have e:made w sg m=false:=by
    unfold made;simp only [Bool.or_eq_true,decide_eq_true_eq] at hb;by_cases c:w=Str.ofString ""
    ·rw [if_pos c]
    ·rw [if_neg c,if_pos (hb.resolve_left c)]
   have:=q H (dc.refl H);rw [e] at this;exact this
  ·walk_at "RD";have e:made w sg m=w.cps.toList.all (inL sg):=by
    unfold made;simp only [Bool.or_eq_false_iff,decide_eq_false_iff_not] at hb;rw [if_neg hb.1,if_neg hb.2]
   refine Zd.its_map (fun x=>match x with | .str y=>.bl (!(Builtin.Str.occurrences sg y 0 sg.length 1).isEmpty) | _=>.non) (by rw [jo];exact hz') (fun i x N hx hN=>?_) (fun p hp=>?_)
   ·unfold Qk at hx;rw [List.getElem?_map] at hx;cases hc:w.cps.toList[i]? with
    | none=>rw [hc] at hx;cases hx
    | some c=>
     rw [hc] at hx;have hx':V.str (aM c)=x:=Option.some.inj hx;subst hx';walk_at "RD";exact ⟨Sub.name,hN⟩
   ·refine ⟨p,rfl,w.cps.toList.map (inL sg),SqL.of ?_,?_⟩
    ·rw [cb];unfold Qk;rw [List.map_map,List.map_map];rfl
    ·have:=q (upd H p (.lst (List.map (fun x=>match x with | .str y=>.bl (!(Builtin.Str.occurrences sg y 0 sg.length 1).isEmpty) | _=>.non) (Qk w)))) (jb hp);rw [e] at this;rw [List.all_map];exact this
 ·obtain ⟨w,sg,m,e,hz,nt,q⟩:=h;exact ⟨nt,w,sg,m,e,hz,fun H' sm=>⟨sm,q⟩⟩
end
noncomputable abbrev tK:Str:=Str.ofString "0123456789"
noncomputable def Up (c:Nat):Bool:=decide (48 ≤ c∧c ≤ 57)
theorem zG (c:Nat):inL tK c=Up c:=by
 rw [Wy,show tK.cps.toList=List.range' 48 10 by decide +kernel];unfold Up;refine decide_eq_decide.mpr ?_;rw [List.mem_range'_1];exact and_congr_right fun _=>show c < 58↔c ≤ 57 from Nat.lt_succ_iff
noncomputable abbrev cs (w:Str):List Nat:=w.cps.toList
theorem WF (w:Str):(cs w).length=w.length:=by simp [cs,Str.length]
noncomputable def okB (w:Str):Bool:=decide (1 ≤ (cs w).length) && decide ((cs w).length ≤ 3) && (cs w).all Up && (decide ((cs w).length ≤ 1) || decide ((cs w).headD 0 ≠ 48))
noncomputable abbrev val (w:Str):Int:=((NumText.digitsVal (cs w):Nat):Int)
noncomputable def Uq (w:Str) (lo hi:Int):V:=if okB w && !(decide (val w < lo) || decide (hi < val w)) then .int (val w) else .non
theorem ZE {w:Str} {c:Nat}:w=⟨#[c]⟩↔cs w=[c]:=by
 constructor
 ·rintro rfl;rfl
 ·intro h;cases w with
  | mk a=>
   have e:a=#[c]:=Array.toList_inj.mp h;rw [e]
theorem zz:Str.ofString "0"=⟨#[48]⟩:=by decide +kernel
theorem bx (w:Str):made w tK 3=(decide (1 ≤ (cs w).length) && decide ((cs w).length ≤ 3) && (cs w).all Up):=by
 unfold made;have e:(inL tK)=Up:=funext zG;rw [e];by_cases h1:w=Str.ofString ""
 ·have h2:=TM.mp h1;rw [if_pos h1,WF,h2];rfl
 ·have h2:¬ w.length=0:=fun z=>h1 (TM.mpr z)
  rw [if_neg h1,WF];by_cases h3:(3:Int) < (w.length:Int)
  ·rw [if_pos h3,decide_eq_false (show ¬ w.length ≤ 3 by omega),Bool.and_false,Bool.false_and]
  ·rw [if_neg h3,decide_eq_true (show 1 ≤ w.length by omega),decide_eq_true (show w.length ≤ 3 by omega)];rfl
theorem Kv {l:List Nat} (h:l.all Up=true):NumText.AllDigits l:=fun c hc=>by
 have:=List.all_eq_true.mp h c hc;simpa [Up] using this
theorem LM {w:Str} (h:okB w=true):(1 ≤ (cs w).length∧(cs w).length ≤ 3)∧(cs w).all Up=true:=by
 unfold okB at h;simp only [Bool.and_eq_true,decide_eq_true_eq] at h;exact h.1
noncomputable def AE:Sp:=fun vs H Q _=>∃ w,vs=[.str w,.int 3]∧w.length ≤ 1000∧NoT H∧Q (.bl (okB w)) H
noncomputable def MC:Sp:=fun vs H Q _=>∃ w lo hi,vs=[.str w,.int lo,.int hi]∧w.length ≤ 1000∧NoT H∧Q (Uq w lo hi) H
section
variable {P:Program} {w:World} {K:PySem.W.Frag} {mg:Str→Option Value} {base:Heap} {t:Adr}
theorem KK (T:Txt w K mg t):Kb P w K mg base CX0 2 t.Zg t.mi q22 AE:=by
 have g20:Kb P w K mg base CX0 1 t.Ef t.qg q16 Ds:=OD T;refine T.jn.ok Wx (fun vs H Q E h=>?_) (fun _ _ _ s H vs Q E hr h=>?_)
 ·obtain ⟨w,rfl,_⟩:=h;rfl
 obtain ⟨w,rfl,hz,nt,q⟩:=h;have hz':w.length ≤ sizeLine:=Nat.le_trans hz (by decide);refine ⟨_,(db (Kf (Lu (Wk (Db g20 hr T.Mp T.Oi.kp T.Ap (bb (pv 0) (bb (Yd rfl T.LD T.QE) (bb (pv 1) fb)))))) (gb (Ob wy)) Kc)
   (gb (Ob (bM (Pf Mi (pv 0) qc (Hc _)) (DA (Pf KC (xc OI (pv 0) ub) qc (Hc _))))))),?_⟩
 refine Nc (!made w tK 3) (fun Q hQ=>?_) (fun hb=>?_) (fun hb=>?_)
 ·(walk_at "RD"; repeat (dsimp only [Ds];walk_at "RD"));exact ⟨hz,nt,hQ⟩
 ·walk_at "RD";have e:okB w=false:=by
   have hb':made w tK 3=false:=by simpa using hb
   rw [bx] at hb';unfold okB;rw [hb'];rfl
  rw [e] at q;exact q
 ·have hb':made w tK 3=true:=by simpa using hb
  rw [bx] at hb';rw [yq];dsimp only;refine RJ (.bl (okB w)) (fun Q hQ=>?_) ?_
  case refine_2=>exact q
  walk_at "RD";have hb2:(1 ≤ (cs w).length∧(cs w).length ≤ 3)∧(cs w).all Up=true:=by
   simpa only [Bool.and_eq_true,decide_eq_true_eq] using hb'
  obtain ⟨c,r,hcr⟩:∃ c r,cs w=c :: r:=by
   cases h:cs w with
   | nil=>rw [h] at hb2;exact absurd hb2.1.1 (by decide)
   | cons c r=>exact ⟨c,r,rfl⟩
  have ok:okB w=(decide ((cs w).length ≤ 1) || decide ((cs w).headD 0 ≠ 48)):=by
   unfold okB;rw [hb',Bool.true_and]
  by_cases c0:w=Str.ofString "0"
  ·rw [if_pos (decide_eq_true c0)];have e:cs w=[48]:=by rw [c0,zz]
   rw [ok,e] at hQ;exact hQ
  ·rw [if_neg (by simpa using c0)];refine ⟨hz',c,?_,?_⟩
   ·have:=Cc (xs:=cs w) (j:=0) (v:=c) (by rw [hcr];rfl);exact this
   ·have e2:decide ((⟨#[c]⟩:Str)=Str.ofString "0")=decide (c=48):=by
     rw [zz];by_cases h48:c=48
     ·rw [h48];simp
     ·rw [decide_eq_false h48,decide_eq_false];intro z;have z2:=ZE.mp z;exact h48 (List.cons.inj z2).1
    rw [e2];have e3:okB w = !decide (c=48):=by
     rw [ok,hcr];show (decide ((c :: r).length ≤ 1) || decide (c ≠ 48))=_;by_cases h48:c=48
     ·have hr:r ≠ []:=fun z=>c0 (by rw [zz];exact ZE.mpr (by rw [hcr,z,h48]))
      have:¬ (c :: r).length ≤ 1:=by
       cases r with
       | nil=>exact absurd rfl hr
       | cons d r=>simp
      rw [decide_eq_false this,h48];rfl
     ·rw [decide_eq_true h48,Bool.or_true,decide_eq_false h48];rfl
    rw [← e3];exact hQ
theorem sI (T:Txt w K mg t):Kb P w K mg base CX0 3 t.Di t.Sj q23 MC:=by
 have g35:Kb P w K mg base CX0 2 t.Zg t.mi q22 AE:=KK T;refine T.Kn.ok ju (fun vs H Q E h=>?_) (fun _ _ _ s H vs Q E hr h=>?_)
 ·obtain ⟨w,lo,hi,rfl,_⟩:=h;rfl
 obtain ⟨w,lo,hi,rfl,hz,nt,q⟩:=h;refine ⟨_,(db (Kf (Lu (Wk (Db g35 hr T.Ey T.jn.kp T.Ly (bb (pv 0) (bb (Yd rfl T.Ys T.xt) fb))))) (gb (Ob bA)) Kc)
   (db (Bb (i:=3) ju.nd (Uf rD rfl T.qL eu (bb (pv 0) fb)))
   (db (Kf (PW.pt (MD (zc wt (pv 3) (pv 1) (Hc _)) (qx (zc MF (pv 3) (pv 2) (Hc _))))) (gb (Ob bA)) Kc)
   (gb (Ob (pv 3)))))),?_⟩
 refine Nc (!okB w) (fun Q hQ=>?_) (fun hb=>?_) (fun hb=>?_)
 ·(walk_at "RD"; repeat (dsimp only [AE];walk_at "RD"));exact ⟨hz,nt,hQ⟩
 ·walk_at "RD";have hb':okB w=false:=by simpa using hb
  have e:Uq w lo hi=.non:=by unfold Uq;rw [hb'];rfl
  rw [e] at q;exact q
 ·have hb':okB w=true:=by simpa using hb
  have h3:(1 ≤ (cs w).length∧(cs w).length ≤ 3)∧(cs w).all Up=true:=by
   have:=hb';unfold okB at this;simp only [Bool.and_eq_true,decide_eq_true_eq] at this;exact this.1
  have hl:=WF w;have hi':intText? w=some (val w):=intText_digits (Kv h3.2) (fun z=>by have z':cs w=[]:=z;rw [z'] at h3;exact absurd h3.1.1 (by decide)) (by omega);walk_at "RD";refine ⟨val w,hi',by omega,?_⟩;refine Nc (decide (val w < lo) || decide (hi < val w)) (fun Q hQ=>?_) (fun hc=>?_) (fun hc=>?_)
  ·walk_at "RD";by_cases c:val w < lo
   ·rw [if_pos (decide_eq_true c)];rw [decide_eq_true c,Bool.true_or] at hQ;exact hQ
   ·rw [if_neg (by simpa using c)];rw [decide_eq_false c,Bool.false_or] at hQ;exact hQ
  ·walk_at "RD";have e:Uq w lo hi=.non:=by unfold Uq;rw [hb',hc];rfl
   rw [e] at q;exact q
  ·walk_at "RD";have e:Uq w lo hi=.int (val w):=by unfold Uq;rw [hb',hc];rfl
   rw [e] at q;exact q
end
theorem eF {n:Nat} (h:n < 1000):n.log2 < 1920:=by
 by_cases h0:n=0
 ·subst h0;decide
 ·rw [Nat.log2_lt h0];exact Nat.lt_of_lt_of_le h (Nat.le_trans (show 1000 ≤ 2 ^ 10 by decide) (Nat.pow_le_pow_right (by decide) (by decide)))
theorem mG:∀ n,n < 1000→(Nat.toDigits 10 n).length ≤ 3:=by decide +kernel
theorem Cm {n:Int} (h0:0 ≤ n) (h1:n ≤ 999):(Str.ofString (toString n)).length ≤ 3:=by
 have e:=PySem.W.KIN.signs_num n.toNat;rw [Int.toNat_of_nonneg h0] at e;have l:(Str.ofString (toString n)).length=(Str.ofString (toString n)).cps.toList.length:=by simp [Str.length]
 rw [l,e,List.length_map];exact mG _ (by omega)
noncomputable abbrev si:Str:=Str.ofString "abcdefghijklmnopqrstuvwxyz"
noncomputable def GE:Sp:=fun vs H Q _=>∃ w,vs=[.str w]∧w.length ≤ 1000∧NoT H∧Q (.bl (made w si 8)) H
section
variable {P:Program} {w:World} {K:PySem.W.Frag} {mg:Str→Option Value} {base:Heap} {t:Adr}
theorem uK (T:Txt w K mg t):Kb P w K mg base CX0 2 t.Nj t.Pl ["word"] GE:=by
 have g20:Kb P w K mg base CX0 1 t.Ef t.qg q16 Ds:=OD T;refine T.jr.ok ZB (fun vs H Q E h=>?_) (fun _ _ _ s H vs Q E hr h=>?_)
 ·obtain ⟨w,rfl,_⟩:=h;rfl
 obtain ⟨w,rfl,hz,nt,q⟩:=h;refine ⟨_,(gb (Ob (Db g20 hr T.Mp T.Oi.kp T.Ap (bb (pv 0) (bb (Yd rfl T.mF T.FF) (bb (Yd rfl T.Ht T.Vs) fb)))))),?_⟩;(walk_at "RD"; repeat (dsimp only [Ds];walk_at "RD"));exact ⟨hz,nt,q⟩
end
noncomputable abbrev nl:Str:=Str.ofString "\n"
noncomputable abbrev bk:Str:=Str.ofString " "
theorem sG:nl=⟨#[10]⟩:=by decide +kernel
theorem Ww:bk=⟨#[32]⟩:=by decide +kernel
noncomputable def Th (x:Str):List (List Str):=(Txt.split x nl).map fun r=>Txt.split r bk
theorem bu:∀ {ys:List Str} {y:Str},y ∈ ys→y.length ≤ (ys.map (·.length)).sum
 | [],_,h=>nomatch h
 | a :: r,y,h=>by
  rw [List.map_cons,List.sum_cons];rcases List.mem_cons.mp h with rfl | h
  ·omega
  ·have:=bu h;omega
theorem vJ {x y r:Str} (hy:1 ≤ y.length) (h:r ∈ Txt.split x y):r.length ≤ x.length + 1:=by
 have h1:=PyProof.Rows.split_weight x y hy;have h2:=bu h;omega
theorem ur {x y:Str} (hy:1 ≤ y.length):(Txt.split x y).length ≤ x.length + 1:=by
 have h1:=PyProof.Rows.split_weight x y hy;omega
theorem tG (x y:Str):Txt.split x y ≠ []:=by
 unfold Txt.split;split
 ·simp
 ·split
  ·simp
  ·rw [StrLaws.partsBetween_eq];obtain ⟨p,r,e⟩:=StrLaws.partsFrom_ne x y.length 0 (Builtin.Str.occurrences x y 0 x.length (x.length + 1));rw [e];simp
noncomputable def LL (H0 H:Hp) (p:Addr) (rows:List (List Str)):Prop:=∃ qs:List Addr,H p=some (.lst (qs.map V.ref))∧H0 p=none∧p ∉ qs∧qs.length=rows.length∧∀ (i:Nat) (q:Addr) (r:List Str),qs[i]? = some q→rows[i]? = some r→H q=some (.lst (Pb r))∧H0 q=none
noncomputable def Vz:Sp:=fun vs H Q _=>∃ x,vs=[.str x]∧x.length ≤ 20000∧NoT H∧∀ p H',dc H H'→NoT H'→LL H H' p (Th x)→Q (.ref p) H'
theorem Ku:nl.length=1:=by decide +kernel
theorem Ru:bk.length=1:=by decide +kernel
section
variable {P:Program} {w:World} {K:PySem.W.Frag} {mg:Str→Option Value} {base:Heap} {t:Adr}
theorem DH (T:Txt w K mg t):Kb P w K mg base CX0 1 t.Zo t.Xq ["text"] Vz:=by
 refine T.wz.ok QG (fun vs H Q E h=>?_) (fun _ _ _ s H vs Q E hr h=>?_)
 ·obtain ⟨x,rfl,_⟩:=h;rfl
 obtain ⟨x,rfl,hz,nt,q⟩:=h;have hzz:∀ n:Nat,n ≤ 40000→n ≤ sizeLine:=fun n h=>Nat.le_trans h (by decide)
 refine ⟨_,(gb (Ob (yj rfl (Wd (Mo PySem.F.plainAttrs_str PySem.F.slot_str_split PySem.F.type_str_split KA (pv 0) (bb qc fb))) (Ud (sc:=ib yv) rfl (by decide +kernel)) (N:=["row"]) (sel:=[none]) (Ie (M:=["text"]) (by decide +kernel)) (Blk.of (fun _ _ _ _=>(Ab (i:=0) (Li (N:=["row"]) (by decide +kernel) rfl))) (fun _ _ _ _=>⟨_,ui,by walk_at "B"⟩) (fun _ _ _ _=>⟨_,(Mo PySem.F.plainAttrs_str PySem.F.slot_str_split PySem.F.type_str_split KA (pv 0) (bb qc fb)),by walk_at "B"⟩))))),?_⟩;walk_at "RD";have hy:1 ≤ nl.length:=by rw [Ku];exact Nat.le_refl _
 have hy2:1 ≤ bk.length:=by rw [Ru];exact Nat.le_refl _
 have hs:=ur (x:=x) hy;have hs':(Pb (Txt.split x nl)).length ≤ sizeLine:=by unfold Pb;rw [List.length_map];exact hzz _ (by omega)
 refine ⟨by rw [Ku];decide,hzz _ (by omega),hzz _ (show (Txt.split x nl).length ≤ 40000 by omega),fun p hp=>⟨⟨_,SqL.of cb⟩,?_⟩⟩;refine Zd.list_mk (xs:=Pb (Txt.split x nl)) (fun v=>match v with | .str r=>.lst (Pb (Txt.split r bk)) | _=>.lst []) (SqL.of cb) hs' (fun v=>by cases v <;> rfl) (fun i v H1 N hx sm nt1 hN=>?_) (fun qs H1 sm nt1 hl al p2 hp2=>?_)
 ·unfold Pb at hx;rw [List.getElem?_map] at hx;cases hr:(Txt.split x nl)[i]? with
  | none=>rw [hr] at hx;cases hx
  | some r=>
   rw [hr] at hx;have e:=Option.some.inj hx;subst e;have hm:=vJ hy (List.mem_of_getElem? hr);have hs2:=ur (x:=r) hy2;walk_at "RD";exact ⟨Sub.name,by rw [Ru];decide,hzz _ (by omega),hzz _ (show (Txt.split r bk).length ≤ 40000 by omega),hN⟩
 ·have sm0:dc H H1:=(jb hp).trans sm;refine q _ _ (sm0.updN (sm0.free hp2)) ((nt1 (nt.upd)).upd) ⟨qs,cb,sm0.free hp2,fun hm=>?_,?_,fun i q' r h1 h2=>?_⟩
  ·obtain ⟨j,hj,e⟩:=List.getElem_of_mem hm;have hj2:j < (Pb (Txt.split x nl)).length:=by omega
   have:=al j p2 _ (by rw [List.getElem?_eq_getElem hj,e]) (List.getElem?_eq_getElem hj2);rw [hp2] at this;cases this.1
  ·rw [hl];unfold Th Pb;rw [List.length_map,List.length_map]
  ·unfold Th at h2;rw [List.getElem?_map] at h2;cases hr:(Txt.split x nl)[i]? with
   | none=>rw [hr] at h2;cases h2
   | some r0=>
    rw [hr] at h2;have e:=Option.some.inj h2;subst e;have z:=al i q' (.str r0) h1 (by unfold Pb;rw [List.getElem?_map,hr];rfl);refine ⟨by rw [rb (xb z.1 hp2)];exact z.1,?_⟩;have:=z.2;by_cases hq:q'=p
    ·rw [hq];exact hp
    ·rwa [rb hq] at this
end
end My
namespace My
open PySem L2
structure WD where
 k:Nat
 name:Str
 start:Int
 fin:Int
 off:Int
 near:Int
 least:Int
noncomputable def Pd:Nat→Str
 | 0=>Str.ofString "car"
 | 1=>Str.ofString "foot"
 | _=>Str.ofString "tram"
noncomputable def Adr.cw (t:Adr):Nat→Addr
 | 0=>t.Xb
 | 1=>t.Mb
 | _=>t.Lb
noncomputable def Pp (d:WD):List (Str × V):=[(Str.ofString "kind",.str (Pd d.k)),(Str.ofString "name",.str d.name),(Str.ofString "start",.int d.start),(Str.ofString "end",.int d.fin),(Str.ofString "off",.int d.off),(Str.ofString "near",.int d.near),(Str.ofString "least",.int d.least)]
noncomputable abbrev zt:List Str:=[Str.ofString "kind",Str.ofString "name",Str.ofString "start",Str.ofString "end",Str.ofString "off",Str.ofString "near",Str.ofString "least"]
theorem qu (d:WD):(Pp d).map (·.1)=zt:=rfl
noncomputable def Mf (t:Adr) (H:Hp) (p:Addr) (d:WD):Prop:=d.k < 3∧∃ dx,H p=some (.ins (t.cw d.k) dx (Pp d))
theorem Mf.same {t:Adr} {H H':Hp} {p:Addr} {d:WD} (h:Mf t H p d) (s:dc H H'):Mf t H' p d:=⟨h.1,h.2.imp fun dx e=>s _ _ e⟩
noncomputable def isW (t:Adr) (C:Addr):Prop:=∃ k,k < 3∧C=t.cw k
noncomputable def Ce (d:WD):Int:=match d.k with | 0=>1 | 1=>0 | _=>2
noncomputable def Jh (d:WD):Int:=match d.k with | 0=>2 | 1=>d.off | _=>1
section
variable {w:World} {K:PySem.W.Frag} {mg:Str→Option Value} {t:Adr}
theorem Txt.clw (T:Txt w K mg t):∀ k,Cls K (t.cw k)
 | 0=>T.Nq
 | 1=>T.No
 | _ + 2=>T.Ao
theorem Txt.naw (T:Txt w K mg t) {f:Str} (hf:f ∈ zt):∀ k,zb K (t.cw k) f:=by
 intro k;simp only [zt,List.mem_cons,List.not_mem_nil,or_false] at hf;rcases hf with rfl | rfl | rfl | rfl | rfl | rfl | rfl
 ·match k with
  | 0=>exact T.Us
  | 1=>exact T.Hr
  | _ + 2=>exact T.kr
 ·match k with
  | 0=>exact T.Ft
  | 1=>exact T.Pr
  | _ + 2=>exact T.Er
 ·match k with
  | 0=>exact T.Ar
  | 1=>exact T.Xp
  | _ + 2=>exact T.cq
 ·match k with
  | 0=>exact T.Jv
  | 1=>exact T.dt
  | _ + 2=>exact T.Xs
 ·match k with
  | 0=>exact T.bv
  | 1=>exact T.Bt
  | _ + 2=>exact T.yt
 ·match k with
  | 0=>exact T.Qs
  | 1=>exact T.Tq
  | _ + 2=>exact T.Oq
 ·match k with
  | 0=>exact T.zr
  | 1=>exact T.Yp
  | _ + 2=>exact T.iq
theorem Txt.cw_inj (T:Txt w K mg t) {j k:Nat} (hj:j < 3) (hk:k < 3) (e:t.cw j=t.cw k):j=k:=by
 match j,k,hj,hk with
 | 0,0,_,_=>rfl
 | 0,1,_,_=>exact absurd e T.ck
 | 0,2,_,_=>exact absurd e T.fk
 | 1,0,_,_=>exact absurd e.symm T.ck
 | 1,1,_,_=>rfl
 | 1,2,_,_=>exact absurd e T.fj
 | 2,0,_,_=>exact absurd e.symm T.fk
 | 2,1,_,_=>exact absurd e.symm T.fj
 | 2,2,_,_=>rfl
 | j + 3,_,h,_=>omega
 | _,k + 3,_,h=>omega
theorem Mf.fld (T:Txt w K mg t) {H:Hp} {p:Addr} {d:WD} (h:Mf t H p d) {f:Str} {v:V} (i:Nat) (hi:zt.findIdx? (· == f)=some i) (hv:(Pp d)[i]? = some (f,v)):vk K H p f v:=by
 obtain ⟨_,dx,e⟩:=h;have hm:f ∈ zt:=by
  obtain ⟨hlt,h1,_⟩:=List.findIdx?_eq_some_iff_getElem.mp hi;have:zt[i]=f:=by simpa using h1
  rw [← this];exact List.getElem_mem hlt
 exact ⟨_,dx,_,e,T.clw _,T.naw hm _,zd zt i (qu d) hi hv⟩
theorem Mf.f_name (T:Txt w K mg t) {H:Hp} {p:Addr} {d:WD} (h:Mf t H p d):vk K H p (Str.ofString "name") (.str d.name):=h.fld T 1 (by decide +kernel) rfl
theorem Mf.f_start (T:Txt w K mg t) {H:Hp} {p:Addr} {d:WD} (h:Mf t H p d):vk K H p (Str.ofString "start") (.int d.start):=h.fld T 2 (by decide +kernel) rfl
theorem Mf.f_end (T:Txt w K mg t) {H:Hp} {p:Addr} {d:WD} (h:Mf t H p d):vk K H p (Str.ofString "end") (.int d.fin):=h.fld T 3 (by decide +kernel) rfl
theorem Mf.f_off (T:Txt w K mg t) {H:Hp} {p:Addr} {d:WD} (h:Mf t H p d):vk K H p (Str.ofString "off") (.int d.off):=h.fld T 4 (by decide +kernel) rfl
theorem Mf.f_near (T:Txt w K mg t) {H:Hp} {p:Addr} {d:WD} (h:Mf t H p d):vk K H p (Str.ofString "near") (.int d.near):=h.fld T 5 (by decide +kernel) rfl
theorem Mf.f_least (T:Txt w K mg t) {H:Hp} {p:Addr} {d:WD} (h:Mf t H p d):vk K H p (Str.ofString "least") (.int d.least):=h.fld T 6 (by decide +kernel) rfl
end
noncomputable def Tv (t:Adr):Sp:=fun vs H Q _=>∃ (p dx:Addr) (d:WD),vs=[.ref p,.str (Pd d.k),.str d.name,.int d.start,.int d.fin,.int d.off,.int d.near,.int d.least]∧d.k < 3∧H p=some (.ins (t.cw d.k) dx [])∧Q .non (upd H p (.ins (t.cw d.k) dx (Pp d)))
noncomputable def Xl (t:Adr) (k:Nat):Sp:=fun vs H Q _=>∃ (p dx:Addr) (d:WD),vs=[.ref p,.str d.name,.int d.start,.int d.fin,.int d.off,.int d.near,.int d.least]∧d.k=k∧H p=some (.ins (t.cw d.k) dx [])∧Q .non (upd H p (.ins (t.cw d.k) dx (Pp d)))
section
variable {P:Program} {w:World} {K:PySem.W.Frag} {mg:Str→Option Value} {base:Heap} {t:Adr}
theorem Az (T:Txt w K mg t):Kb P w K mg base CX0 1 t.Nf t.lh q17 (Tv t):=by
 refine T.gu.ok gr (fun vs H Q E h=>?_) (fun _ _ _ s H vs Q E hr h=>?_)
 ·obtain ⟨p,dx,d,rfl,_⟩:=h;rfl
 obtain ⟨p,dx,d,rfl,hk,hp,q⟩:=h;refine ⟨_,(db (Kg (pv 0) (pv 1) rfl)
   (db (Kg (pv 0) (pv 2) rfl)
   (db (Kg (pv 0) (pv 3) rfl)
   (db (Kg (pv 0) (pv 4) rfl)
   (db (Kg (pv 0) (pv 5) rfl)
   (db (Kg (pv 0) (pv 6) rfl)
   (gb (Kg (pv 0) (pv 7) rfl)))))))),?_⟩
 walk_at "RD";have na:∀ {f:Str},f ∈ zt→zb K (t.cw d.k) f:=fun hf=>T.naw hf d.k
 refine ⟨_,_,_,hp,T.clw _,na (by decide +kernel),by decide,?_⟩;refine ⟨_,_,_,cb,T.clw _,na (by decide +kernel),wo (n:=999) (by decide),?_⟩;refine ⟨_,_,_,cb,T.clw _,na (by decide +kernel),wo (n:=999) (wo (n:=998) (by decide)),?_⟩;refine ⟨_,_,_,cb,T.clw _,na (by decide +kernel),wo (n:=999) (wo (n:=998) (wo (n:=997) (by decide))),?_⟩;refine ⟨_,_,_,cb,T.clw _,na (by decide +kernel),wo (n:=999) (wo (n:=998) (wo (n:=997) (wo (n:=996) (by decide)))),?_⟩;refine ⟨_,_,_,cb,T.clw _,na (by decide +kernel),wo (n:=999) (wo (n:=998) (wo (n:=997) (wo (n:=996) (wo (n:=995) (by decide))))),?_⟩;refine ⟨_,_,_,cb,T.clw _,na (by decide +kernel),wo (n:=999) (wo (n:=998) (wo (n:=997) (wo (n:=996) (wo (n:=995) (wo (n:=994) (by decide)))))),?_⟩;simp only [uk];rw [show Vh (Str.ofString "kind") (V.str (Pd d.k)) ([]:List (Str × V))=[(Str.ofString "kind",V.str (Pd d.k))] from yd [] rfl (by decide +kernel),
  show Vh (Str.ofString "name") (V.str d.name) ([(Str.ofString "kind",V.str (Pd d.k))]:List (Str × V))=[(Str.ofString "kind",V.str (Pd d.k)),(Str.ofString "name",V.str d.name)] from yd [Str.ofString "kind"] rfl (by decide +kernel),
  show Vh (Str.ofString "start") (V.int d.start) ([(Str.ofString "kind",V.str (Pd d.k)),(Str.ofString "name",V.str d.name)]:List (Str × V))=[(Str.ofString "kind",V.str (Pd d.k)),(Str.ofString "name",V.str d.name),(Str.ofString "start",V.int d.start)] from yd [Str.ofString "kind",Str.ofString "name"] rfl (by decide +kernel),
  show Vh (Str.ofString "end") (V.int d.fin) ([(Str.ofString "kind",V.str (Pd d.k)),(Str.ofString "name",V.str d.name),(Str.ofString "start",V.int d.start)]:List (Str × V))=[(Str.ofString "kind",V.str (Pd d.k)),(Str.ofString "name",V.str d.name),(Str.ofString "start",V.int d.start),(Str.ofString "end",V.int d.fin)] from yd [Str.ofString "kind",Str.ofString "name",Str.ofString "start"] rfl (by decide +kernel),
  show Vh (Str.ofString "off") (V.int d.off) ([(Str.ofString "kind",V.str (Pd d.k)),(Str.ofString "name",V.str d.name),(Str.ofString "start",V.int d.start),(Str.ofString "end",V.int d.fin)]:List (Str × V))=[(Str.ofString "kind",V.str (Pd d.k)),(Str.ofString "name",V.str d.name),(Str.ofString "start",V.int d.start),(Str.ofString "end",V.int d.fin),(Str.ofString "off",V.int d.off)] from yd [Str.ofString "kind",Str.ofString "name",Str.ofString "start",Str.ofString "end"] rfl (by decide +kernel),
  show Vh (Str.ofString "near") (V.int d.near) ([(Str.ofString "kind",V.str (Pd d.k)),(Str.ofString "name",V.str d.name),(Str.ofString "start",V.int d.start),(Str.ofString "end",V.int d.fin),(Str.ofString "off",V.int d.off)]:List (Str × V))=[(Str.ofString "kind",V.str (Pd d.k)),(Str.ofString "name",V.str d.name),(Str.ofString "start",V.int d.start),(Str.ofString "end",V.int d.fin),(Str.ofString "off",V.int d.off),(Str.ofString "near",V.int d.near)] from yd [Str.ofString "kind",Str.ofString "name",Str.ofString "start",Str.ofString "end",Str.ofString "off"] rfl (by decide +kernel),
  show Vh (Str.ofString "least") (V.int d.least) ([(Str.ofString "kind",V.str (Pd d.k)),(Str.ofString "name",V.str d.name),(Str.ofString "start",V.int d.start),(Str.ofString "end",V.int d.fin),(Str.ofString "off",V.int d.off),(Str.ofString "near",V.int d.near)]:List (Str × V))=[(Str.ofString "kind",V.str (Pd d.k)),(Str.ofString "name",V.str d.name),(Str.ofString "start",V.int d.start),(Str.ofString "end",V.int d.fin),(Str.ofString "off",V.int d.off),(Str.ofString "near",V.int d.near),(Str.ofString "least",V.int d.least)] from yd [Str.ofString "kind",Str.ofString "name",Str.ofString "start",Str.ofString "end",Str.ofString "off",Str.ofString "near"] rfl (by decide +kernel)]
 exact q
theorem zJ (T:Txt w K mg t):Kb P w K mg base CX0 2 t.Je t.Bg q8 (Xl t 0):=by
 have g16:Kb P w K mg base CX0 1 t.Nf t.lh q17 (Tv t):=Az T;refine T.Dn.ok Zn (fun vs H Q E h=>?_) (fun _ _ _ s H vs Q E hr h=>?_)
 ·obtain ⟨p,dx,d,rfl,_⟩:=h;rfl
 obtain ⟨p,dx,d,rfl,hk,hp,q⟩:=h;refine ⟨_,(gb (Ic (Vu rfl T.FJ T.Yo g16 hr T.pp .nil Hd (bb (pv 0) (bb qc (bb (pv 1) (bb (pv 2) (bb (pv 3) (bb (pv 4) (bb (pv 5) (bb (pv 6) fb))))))))))),?_⟩;walk_at "RD";exact ⟨p,dx,d,by rw [hk];rfl,by omega,hp,q⟩
theorem JH (T:Txt w K mg t):Kb P w K mg base CX0 2 t.pe t.Zf q8 (Xl t 1):=by
 have g16:Kb P w K mg base CX0 1 t.Nf t.lh q17 (Tv t):=Az T;refine T.xm.ok Qm (fun vs H Q E h=>?_) (fun _ _ _ s H vs Q E hr h=>?_)
 ·obtain ⟨p,dx,d,rfl,_⟩:=h;rfl
 obtain ⟨p,dx,d,rfl,hk,hp,q⟩:=h;refine ⟨_,(gb (Ic (Vu rfl T.FJ T.Yo g16 hr T.pp .nil Hd (bb (pv 0) (bb qc (bb (pv 1) (bb (pv 2) (bb (pv 3) (bb (pv 4) (bb (pv 5) (bb (pv 6) fb))))))))))),?_⟩;walk_at "RD";exact ⟨p,dx,d,by rw [hk];rfl,by omega,hp,q⟩
theorem ZG (T:Txt w K mg t):Kb P w K mg base CX0 2 t.qe t.Yf q8 (Xl t 2):=by
 have g16:Kb P w K mg base CX0 1 t.Nf t.lh q17 (Tv t):=Az T;refine T.om.ok Ym (fun vs H Q E h=>?_) (fun _ _ _ s H vs Q E hr h=>?_)
 ·obtain ⟨p,dx,d,rfl,_⟩:=h;rfl
 obtain ⟨p,dx,d,rfl,hk,hp,q⟩:=h;refine ⟨_,(gb (Ic (Vu rfl T.FJ T.Yo g16 hr T.pp .nil Hd (bb (pv 0) (bb qc (bb (pv 1) (bb (pv 2) (bb (pv 3) (bb (pv 4) (bb (pv 5) (bb (pv 6) fb))))))))))),?_⟩;walk_at "RD";exact ⟨p,dx,d,by rw [hk];rfl,by omega,hp,q⟩
end
noncomputable def ik (t:Adr) (C:Addr):Sp:=fun vs H Q _=>∃ p d,vs=[.ref p]∧Mf t H p d∧C=t.cw d.k∧Q (.int (Ce d)) H
noncomputable def Tl (t:Adr) (C:Addr):Sp:=fun vs H Q _=>∃ p d,vs=[.ref p]∧Mf t H p d∧C=t.cw d.k∧Q (.int (Jh d)) H
section
variable {P:Program} {w:World} {K:PySem.W.Frag} {mg:Str→Option Value} {base:Heap} {t:Adr}
theorem Sr (T:Txt w K mg t):Kb P w K mg base CX0 1 t.af t.ph ["self"] (ik t (t.cw 0)):=by
 refine T.qm.ok Wq (fun vs H Q E h=>?_) (fun _ _ _ s H vs Q E hr h=>?_)
 ·obtain ⟨p,d,rfl,_⟩:=h;rfl
 obtain ⟨p,d,rfl,W,hC,q⟩:=h;have hk:=(T.cw_inj (by decide) W.1 hC).symm;refine ⟨_,(gb (Ob ub)),?_⟩;rw [show Ce d=1 by unfold Ce;simp only [hk]] at q;walk_at "RD";exact q
theorem Wp (T:Txt w K mg t):Kb P w K mg base CX0 1 t.ve t.zg ["self"] (ik t (t.cw 1)):=by
 refine T.Sl.ok gq (fun vs H Q E h=>?_) (fun _ _ _ s H vs Q E hr h=>?_)
 ·obtain ⟨p,d,rfl,_⟩:=h;rfl
 obtain ⟨p,d,rfl,W,hC,q⟩:=h;have hk:=(T.cw_inj (by decide) W.1 hC).symm;refine ⟨_,(gb (Ob ub)),?_⟩;rw [show Ce d=0 by unfold Ce;simp only [hk]] at q;walk_at "RD";exact q
theorem Rp (T:Txt w K mg t):Kb P w K mg base CX0 1 t.Be t.xg ["self"] (ik t (t.cw 2)):=by
 refine T.Ll.ok bq (fun vs H Q E h=>?_) (fun _ _ _ s H vs Q E hr h=>?_)
 ·obtain ⟨p,d,rfl,_⟩:=h;rfl
 obtain ⟨p,d,rfl,W,hC,q⟩:=h;have hk:=(T.cw_inj (by decide) W.1 hC).symm;refine ⟨_,(gb (Ob ub)),?_⟩;rw [show Ce d=2 by unfold Ce;simp only [hk]] at q;walk_at "RD";exact q
theorem KF (T:Txt w K mg t):qG P w K mg base CX0 1 (isW t) "ready" ["self"] (ik t):=by
 refine ⟨fun C hC=>?_⟩;obtain ⟨k,hk,rfl⟩:=hC
 match k,hk with
 | 0,_=>exact ⟨_,_,T.Nq,T.Tt,Sr T,T.Zt⟩
 | 1,_=>exact ⟨_,_,T.No,T.Hs,Wp T,T.Pq⟩
 | 2,_=>exact ⟨_,_,T.Ao,T.Qq,Rp T,T.cr⟩
theorem Rt (T:Txt w K mg t):Kb P w K mg base CX0 1 t.Hf t.Uh ["self"] (Tl t (t.cw 0)):=by
 refine T.mn.ok ut (fun vs H Q E h=>?_) (fun _ _ _ s H vs Q E hr h=>?_)
 ·obtain ⟨p,d,rfl,_⟩:=h;rfl
 obtain ⟨p,d,rfl,W,hC,q⟩:=h;have hk:=(T.cw_inj (by decide) W.1 hC).symm;refine ⟨_,(gb (Ob ub)),?_⟩;rw [show Jh d=2 by unfold Jh;simp only [hk]] at q;walk_at "RD";exact q
theorem Ir (T:Txt w K mg t):Kb P w K mg base CX0 1 t.bf t.sh ["self"] (Tl t (t.cw 1)):=by
 refine T.vm.ok ms (fun vs H Q E h=>?_) (fun _ _ _ s H vs Q E hr h=>?_)
 ·obtain ⟨p,d,rfl,_⟩:=h;rfl
 obtain ⟨p,d,rfl,W,hC,q⟩:=h;have hk:=(T.cw_inj (by decide) W.1 hC).symm;refine ⟨_,(gb (Ob (Rc (pv 0) rfl))),?_⟩;rw [show Jh d=d.off by unfold Jh;simp only [hk]] at q;walk_at "RD";exact ⟨_,W.f_off T,q⟩
theorem Gr (T:Txt w K mg t):Kb P w K mg base CX0 1 t.cf t.uh ["self"] (Tl t (t.cw 2)):=by
 refine T.rm.ok Yq (fun vs H Q E h=>?_) (fun _ _ _ s H vs Q E hr h=>?_)
 ·obtain ⟨p,d,rfl,_⟩:=h;rfl
 obtain ⟨p,d,rfl,W,hC,q⟩:=h;have hk:=(T.cw_inj (by decide) W.1 hC).symm;refine ⟨_,(gb (Ob ub)),?_⟩;rw [show Jh d=1 by unfold Jh;simp only [hk]] at q;walk_at "RD";exact q
theorem XI (T:Txt w K mg t):qG P w K mg base CX0 1 (isW t) "fade" ["self"] (Tl t):=by
 refine ⟨fun C hC=>?_⟩;obtain ⟨k,hk,rfl⟩:=hC
 match k,hk with
 | 0,_=>exact ⟨_,_,T.Nq,T.Av,Rt T,T.mv⟩
 | 1,_=>exact ⟨_,_,T.No,T.Ws,Ir T,T.Dt⟩
 | 2,_=>exact ⟨_,_,T.Ao,T.Et,Gr T,T.ot⟩
end
noncomputable def jl (c:Nat):List (List Nat)→List Nat
 | []=>[]
 | [a]=>a
 | a :: b :: r=>a ++ c :: jl c (b :: r)
theorem ND {c:Nat}:∀ {a b X Y:List Nat},c ∉ a→c ∉ b→a ++ c :: X=b ++ c :: Y→a=b∧X=Y
 | [],[],X,Y,_,_,h=>⟨rfl,(List.cons.inj h).2⟩
 | [],d :: b,X,Y,_,hb,h=>absurd (List.cons.inj h).1 (fun z=>hb (by simp [← z]))
 | d :: a,[],X,Y,ha,_,h=>absurd (List.cons.inj h).1 (fun z=>ha (by simp [z]))
 | d :: a,e :: b,X,Y,ha,hb,h=>by
  obtain ⟨h1,h2⟩:=List.cons.inj h;obtain ⟨e1,e2⟩:=ND (fun z=>ha (List.mem_cons_of_mem _ z)) (fun z=>hb (List.mem_cons_of_mem _ z)) h2;exact ⟨by rw [h1,e1],e2⟩
theorem YI {c:Nat}:∀ {ps qs:List (List Nat)},(∀ p ∈ ps,c ∉ p)→(∀ q ∈ qs,c ∉ q)→ps ≠ []→qs ≠ []→jl c ps=jl c qs→ps=qs
 | [a],[b],_,_,_,_,h=>by rw [show a=b from h]
 | [a],b :: b' :: r,ha,_,_,_,h=>absurd (show c ∈ a by rw [show a=b ++ c :: jl c (b' :: r) from h];simp) (ha a (by simp))
 | a :: a' :: r,[b],_,hb,_,_,h=>absurd (show c ∈ b by rw [show b=a ++ c :: jl c (a' :: r) from h.symm];simp) (hb b (by simp))
 | a :: a' :: r,b :: b' :: s,ha,hb,_,_,h=>by
  obtain ⟨e1,e2⟩:=ND (ha a (by simp)) (hb b (by simp)) (show a ++ c :: jl c (a' :: r)=b ++ c :: jl c (b' :: s) from h);rw [e1,YI (fun p hp=>ha p (List.mem_cons_of_mem _ hp)) (fun q hq=>hb q (List.mem_cons_of_mem _ hq)) (by simp) (by simp) e2]
 | [],_,_,_,h,_,_=>absurd rfl h
 | _ :: _,[],_,_,_,h,_=>absurd rfl h
theorem TD {c d:Nat}:∀ {ps:List (List Nat)},d ∈ jl c ps→d=c∨∃ p ∈ ps,d ∈ p
 | [],h=>nomatch h
 | [a],h=>.inr ⟨a,by simp,h⟩
 | a :: b :: r,h=>by
  rcases List.mem_append.mp (show d ∈ a ++ c :: jl c (b :: r) from h) with h | h
  ·exact .inr ⟨a,by simp,h⟩
  ·rcases List.mem_cons.mp h with h | h
   ·exact .inl h
   ·rcases TD h with h | ⟨p,hp,h⟩
    ·exact .inl h
    ·exact .inr ⟨p,List.mem_cons_of_mem _ hp,h⟩
theorem Nh (c:Nat):∀ ys:List Str,(Str.join ⟨#[c]⟩ ys).cps.toList=jl c (ys.map (·.cps.toList))
 | []=>rfl
 | [a]=>rfl
 | a :: b :: r=>by
  show (a ++ ⟨#[c]⟩ ++ Str.join ⟨#[c]⟩ (b :: r)).cps.toList=_;rw [Str.cps_append,Array.toList_append,Str.cps_append,Array.toList_append,Nh c (b :: r)];simp [jl]
theorem Km {x y:Str} (h:x.cps.toList=y.cps.toList):x=y:=by
 cases x;cases y;exact congrArg Str.mk (Array.toList_inj.mp h)
theorem Zl {c:Nat} {ys:List Str} (hn:ys ≠ []) (hf:∀ y ∈ ys,c ∉ y.cps.toList):Txt.split (Str.join ⟨#[c]⟩ ys) ⟨#[c]⟩=ys:=by
 have e:=congrArg (·.cps.toList) (StrLaws.join_split (Str.join ⟨#[c]⟩ ys) ⟨#[c]⟩);simp only [Nh] at e;have e2:=YI (c:=c) (ps:=(Txt.split (Str.join ⟨#[c]⟩ ys) ⟨#[c]⟩).map (·.cps.toList)) (qs:=ys.map (·.cps.toList)) (fun p hp=>by
  obtain ⟨y,hy,rfl⟩:=List.mem_map.mp hp;exact StrLaws.split_free _ c y hy) (fun p hp=>by
  obtain ⟨y,hy,rfl⟩:=List.mem_map.mp hp;exact hf y hy) (by simp [tG]) (by simpa using hn) e
 exact (List.map_inj_right fun x y h=>Km h).mp e2
noncomputable abbrev num (v:Int):Str:=Str.ofString (toString v)
theorem BK:∀ n,n < 1000→(decide (1 ≤ ((Nat.toDigits 10 n).map Char.toNat).length) && decide (((Nat.toDigits 10 n).map Char.toNat).length ≤ 3) && ((Nat.toDigits 10 n).map Char.toNat).all Up && (decide (((Nat.toDigits 10 n).map Char.toNat).length ≤ 1) || decide (((Nat.toDigits 10 n).map Char.toNat).headD 0 ≠ 48)) &&
  decide (NumText.digitsVal ((Nat.toDigits 10 n).map Char.toNat)=n))=true:=by decide +kernel
theorem Zz {v:Int} (h0:0 ≤ v) (h1:v < 1000):okB (num v)=true∧val (num v)=v:=by
 have e:=PySem.W.KIN.signs_num v.toNat;rw [Int.toNat_of_nonneg h0] at e;have a:=BK v.toNat (by omega);rw [← e,Bool.and_eq_true,decide_eq_true_eq] at a;exact ⟨a.1,by show ((NumText.digitsVal (cs (num v)):Nat):Int)=v;rw [a.2];omega⟩
theorem Jm {v lo hi:Int} (h0:0 ≤ v) (h1:v < 1000) (hl:lo ≤ v) (hh:v ≤ hi):Uq (num v) lo hi=.int v:=by
 obtain ⟨a,b⟩:=Zz h0 h1;unfold Uq;rw [a,b,decide_eq_false (by omega:¬ v < lo),decide_eq_false (by omega:¬ hi < v)];rfl
theorem HJ {u v:Int} (h0:0 ≤ u) (h1:u < 1000) (h2:0 ≤ v) (h3:v < 1000) (e:num u=num v):u=v:=by
 rw [← (Zz h0 h1).2,e,(Zz h2 h3).2]
theorem wA {v:Int} (h0:0 ≤ v) (h1:v < 1000):∀ c ∈ (num v).cps.toList,48 ≤ c∧c ≤ 57:=fun c hc=>by
 have:=List.all_eq_true.mp (LM (Zz h0 h1).1).2 c hc;simpa [Up] using this
theorem SL:∀ c ∈ si.cps.toList,97 ≤ c∧c ≤ 122:=by decide +kernel
theorem JM:∀ k,k < 26→97 + k ∈ si.cps.toList:=by decide +kernel
theorem Pi {x:Str} (h:made x si 8=true):(1 ≤ x.length∧x.length ≤ 8)∧∀ c ∈ x.cps.toList,97 ≤ c∧c ≤ 122:=by
 unfold made at h;split at h
 ·cases h
 ·rename_i h1;split at h
  ·cases h
  ·rename_i h2;have h3:¬ x.length=0:=fun z=>h1 (TM.mpr z)
   refine ⟨by omega,fun c hc=>?_⟩;have:=List.all_eq_true.mp h c hc;rw [Wy] at this;exact SL c (of_decide_eq_true this)
theorem Aw {x:Str} (h0:1 ≤ x.length) (h1:x.length ≤ 8) (h:∀ c ∈ x.cps.toList,97 ≤ c∧c ≤ 122):made x si 8=true:=by
 unfold made;rw [if_neg (fun z=>by have:=TM.mp z;omega),if_neg (by omega)];refine List.all_eq_true.mpr fun c hc=>?_
 have:=h c hc;rw [Wy];have e:=JM (c - 97) (by omega);rw [show 97 + (c - 97)=c by omega] at e;exact decide_eq_true e
structure WOk (n:Int) (d:WD):Prop where
 k:d.k < 3
 nm:made d.name si 8=true
 st:0 ≤ d.start∧d.start < n
 fi:0 ≤ d.fin∧d.fin < n
 ne:d.start ≠ d.fin
 of:0 ≤ d.off∧d.off ≤ 30
 nr:0 ≤ d.near∧d.near ≤ 30
 le:1 ≤ d.least∧d.least ≤ 60
structure COk (n:Int) (ds:List WD):Prop where
 nn:2 ≤ n∧n ≤ 99
 ln:1 ≤ ds.length∧ds.length ≤ 12
 al:∀ d ∈ ds,WOk n d
 nd:(ds.map (·.name)).Nodup
noncomputable def Cl (d:WD):List Str:=[Pd d.k,d.name,num d.start,num d.fin,num d.off,num d.near,num d.least]
noncomputable def qj (n:Int) (ds:List WD):List (List Str):=[Str.ofString "ring",num n] :: ds.map Cl
noncomputable def Ry (n:Int) (ds:List WD):Str:=Str.join nl ((qj n ds).map (Str.join bk))
noncomputable def Do (x:Str):Prop:=x.length ≤ 8∧(32:Nat) ∉ x.cps.toList∧(10:Nat) ∉ x.cps.toList
theorem Gu (k:Nat):Do (Pd k):=by
 match k with
 | 0=>exact ⟨by decide +kernel,by decide +kernel,by decide +kernel⟩
 | 1=>exact ⟨by decide +kernel,by decide +kernel,by decide +kernel⟩
 | _ + 2=>exact ⟨show (Str.ofString "tram").length ≤ 8 by decide +kernel,show (32:Nat) ∉ (Str.ofString "tram").cps.toList by decide +kernel,show (10:Nat) ∉ (Str.ofString "tram").cps.toList by decide +kernel⟩
theorem Xc {v:Int} (h0:0 ≤ v) (h1:v < 1000):Do (num v):=
 ⟨Nat.le_trans (Cm h0 (by omega)) (by decide),fun z=>by have:=wA h0 h1 _ z;omega,fun z=>by have:=wA h0 h1 _ z;omega⟩
theorem Vo {x:Str} (h:made x si 8=true):Do x:=
 ⟨(Pi h).1.2,fun z=>by have:=(Pi h).2 _ z;omega,fun z=>by have:=(Pi h).2 _ z;omega⟩
theorem WOk.plain {n:Int} {d:WD} (h:WOk n d) (hn:n ≤ 99):∀ x ∈ Cl d,Do x:=fun x hx=>by
 have h1:=h.st;have h2:=h.fi;have h3:=h.of;have h4:=h.nr;have h5:=h.le;simp only [Cl,List.mem_cons,List.not_mem_nil,or_false] at hx;rcases hx with rfl | rfl | rfl | rfl | rfl | rfl | rfl
 ·exact Gu _
 ·exact Vo h.nm
 ·exact Xc (by omega) (by omega)
 ·exact Xc (by omega) (by omega)
 ·exact Xc (by omega) (by omega)
 ·exact Xc (by omega) (by omega)
 ·exact Xc (by omega) (by omega)
theorem COk.plain {n:Int} {ds:List WD} (h:COk n ds):∀ r ∈ qj n ds,∀ x ∈ r,Do x:=fun r hr x hx=>by
 have hn:=h.nn;rcases List.mem_cons.mp hr with rfl | hr
 ·simp only [List.mem_cons,List.not_mem_nil,or_false] at hx;rcases hx with rfl | rfl
  ·exact ⟨by decide +kernel,by decide +kernel,by decide +kernel⟩
  ·exact Xc (by omega) (by omega)
 ·obtain ⟨d,hd,rfl⟩:=List.mem_map.mp hr;exact (h.al d hd).plain hn.2 x hx
theorem fF {rs:List (List Str)} (h0:rs ≠ []) (h1:∀ r ∈ rs,r ≠ []) (h2:∀ r ∈ rs,∀ x ∈ r,Do x):Th (Str.join nl (rs.map (Str.join bk)))=rs:=by
 unfold Th;rw [sG,Ww];rw [Zl (by simpa using h0) (fun y hy=>by
  obtain ⟨r,hr,rfl⟩:=List.mem_map.mp hy;rw [Nh];intro z;rcases TD z with z | ⟨p,hp,z⟩
  ·cases z
  ·obtain ⟨x,hx,rfl⟩:=List.mem_map.mp hp;exact (h2 r hr x hx).2.2 z)]
 rw [List.map_map];have:∀ r ∈ rs,((fun r=>Txt.split r ⟨#[32]⟩) ∘ Str.join ⟨#[32]⟩) r=r:=fun r hr=>Zl (h1 r hr) fun x hx=>(h2 r hr x hx).2.1
 exact (List.map_congr_left this).trans (List.map_id rs)
theorem uB {n:Int} {ds:List WD} (h:COk n ds):Th (Ry n ds)=qj n ds:=fF (by simp [qj]) (fun r hr=>by
 rcases List.mem_cons.mp hr with rfl | hr
 ·simp
 ·obtain ⟨d,hd,rfl⟩:=List.mem_map.mp hr;simp [Cl]) h.plain
theorem Il (sep:Str) (B:Nat):∀ ys:List Str,(∀ y ∈ ys,y.length ≤ B)→(Str.join sep ys).length ≤ ys.length * (B + sep.length)
 | [],_=>by show (Str.empty).length ≤ _;exact Nat.zero_le _
 | [a],h=>by
  have:=h a (by simp);show a.length ≤ _;simp only [List.length_cons,List.length_nil];omega
 | a :: b :: r,h=>by
  have h1:=h a (by simp);have h2:=Il sep B (b :: r) fun y hy=>h y (List.mem_cons_of_mem _ hy)
  show (a ++ sep ++ Str.join sep (b :: r)).length ≤ _;rw [vd,vd,List.length_cons,Nat.succ_mul];omega
theorem cG {n:Int} {ds:List WD} (h:COk n ds):(Ry n ds).length ≤ 1000:=by
 have h1:∀ y ∈ (qj n ds).map (Str.join bk),y.length ≤ 63:=fun y hy=>by
  obtain ⟨r,hr,rfl⟩:=List.mem_map.mp hy;have:=Il bk 8 r fun x hx=>(h.plain r hr x hx).1
  rw [Ru] at this;have hl:r.length ≤ 7:=by
   rcases List.mem_cons.mp hr with rfl | hr
   ·simp
   ·obtain ⟨d,hd,rfl⟩:=List.mem_map.mp hr;simp [Cl]
  omega
 have h2:=Il nl 63 _ h1;rw [Ku] at h2;have h3:((qj n ds).map (Str.join bk)).length ≤ 13:=by
  have:=h.ln;simp [qj];omega
 unfold Ry;omega
end My
namespace My
open PySem L2
noncomputable abbrev Ts:List Str:=[Str.ofString "row",Str.ofString "told",Str.ofString "place"]
noncomputable def rdF (row:Int) (ta:Addr) (pl:Int):List (Str × V):=[(Str.ofString "row",.int row),(Str.ofString "told",.ref ta),(Str.ofString "place",.int pl)]
theorem Ri (row:Int) (ta:Addr) (pl:Int):(rdF row ta pl).map (·.1)=Ts:=rfl
theorem YC (row:Int) (ta:Addr) (pl v:Int):Vh (Str.ofString "place") (.int v) (rdF row ta pl)=rdF row ta v:=by
 unfold rdF;simp only [Vh];rw [if_neg (by decide +kernel),if_neg (by decide +kernel)];rfl
noncomputable def mf (t:Adr) (H:Hp) (p:Addr) (row:Int) (ws:List Str) (pl:Nat):Prop:=
 (ws.length ≤ 1000∧∀ x ∈ ws,x.length ≤ 1000)∧∃ dx ta,H p=some (.ins t.yb dx (rdF row ta pl))∧H ta=some (.lst (Pb ws))
noncomputable def Qc (p:Addr) (H H':Hp):Prop:=∀ b u,b ≠ p→H b=some u→H' b=some u
theorem Qc.trans {p:Addr} {H H1 H2:Hp} (a:Qc p H H1) (b:Qc p H1 H2):Qc p H H2:=fun c u n e=>b c u n (a c u n e)
theorem Qc.of {p:Addr} {H H1:Hp} (a:dc H H1):Qc p H H1:=fun c u _ e=>a c u e
theorem Qc.put {p:Addr} {H:Hp} {o:HO}:Qc p H (upd H p o):=fun c u n e=>by rw [rb n];exact e
theorem Nn (ws:List Str):(Pb ws).length=ws.length:=by unfold Pb;rw [List.length_map]
theorem aH {ws:List Str} {i:Nat} {x:Str} (h:ws[i]? = some x):(Pb ws)[i]? = some (.str x):=by unfold Pb;rw [List.getElem?_map,h];rfl
theorem Yl (ws:List Str):(Pb ws).all Lm=true:=by unfold Pb;simp [Lm]
theorem Iq (x:Str) (xs:List Str):inV (.str x) (Pb xs)=decide (x ∈ xs):=by
 unfold inV Pb;rw [List.any_map,Bool.eq_iff_iff];simp only [List.any_eq_true,Function.comp,eqV,beq_iff_eq,decide_eq_true_eq];constructor
 ·rintro ⟨y,hy,rfl⟩;exact hy
 ·intro h;exact ⟨x,h,rfl⟩
section
variable {w:World} {K:PySem.W.Frag} {mg:Str→Option Value} {t:Adr} {H H':Hp} {p:Addr} {row:Int} {ws:List Str} {pl:Nat}
theorem mf.same (h:mf t H p row ws pl) (s:dc H H'):mf t H' p row ws pl:=by
 obtain ⟨hz,dx,ta,e1,e2⟩:=h;exact ⟨hz,dx,ta,s _ _ e1,s _ _ e2⟩
theorem mf.sameX {q:Addr} (h:mf t H p row ws pl) (s:Qc q H H') (n:p ≠ q) (k:∃ C dx fs,H q=some (.ins C dx fs)):mf t H' p row ws pl:=by
 obtain ⟨hz,dx,ta,e1,e2⟩:=h;obtain ⟨C,dq,fs,e3⟩:=k;exact ⟨hz,dx,ta,s _ _ n e1,s _ _ (kf e2 e3 (by intro z;cases z)) e2⟩
theorem mf.ins (h:mf t H p row ws pl):∃ C dx fs,H p=some (.ins C dx fs):=by
 obtain ⟨hz,dx,ta,e1,e2⟩:=h;exact ⟨_,_,_,e1⟩
theorem mf.no {m:Str} (row:Int) (ta:Addr) (pl:Int) (h:Ts.contains m=false):(rdF row ta pl).lookup m=none:=vo Ts (Ri ..) h
theorem Jq (T:Txt w K mg t) {dx ta:Addr} {pl:Int} (e:H p=some (.ins t.yb dx (rdF row ta pl))):vk K H p (Str.ofString "place") (.int pl):=
 ⟨_,dx,_,e,T.wb,T.ef,zd Ts 2 (Ri ..) (by decide +kernel) rfl⟩
theorem jy (T:Txt w K mg t) {dx ta:Addr} {pl:Int} (e:H p=some (.ins t.yb dx (rdF row ta pl))):vk K H p (Str.ofString "told") (.ref ta):=
 ⟨_,dx,_,e,T.wb,T.Zj,zd Ts 1 (Ri ..) (by decide +kernel) rfl⟩
end
noncomputable def oI (t:Adr):Sp:=fun vs H Q _=>∃ (p dx ta:Addr) (row:Int),vs=[.ref p,.int row,.ref ta]∧H p=some (.ins t.yb dx [])∧Q .non (upd H p (.ins t.yb dx (rdF row ta 0)))
noncomputable def yk (t:Adr):Sp:=fun vs H Q _=>∃ p row ws pl,vs=[.ref p]∧mf t H p row ws pl∧pl ≤ ws.length∧Q (.str (ws.getD pl (Str.ofString ""))) H
noncomputable def my (t:Adr):Sp:=fun vs H Q _=>∃ p row ws pl,vs=[.ref p]∧mf t H p row ws pl∧Q (.bl (decide (pl < ws.length))) H
noncomputable def GK (t:Adr) (H:Hp) (p:Addr) (row:Int) (ws:List Str) (pl:Nat) (R:Hp→Prop):Prop:=∀ H',Qc p H H'→(NoT H→NoT H')→mf t H' p row ws pl→R H'
noncomputable def Iv (t:Adr):Sp:=fun vs H Q _=>∃ p row ws pl,vs=[.ref p,.bl true]∧mf t H p row ws pl∧GK t H p row ws (pl + 1) (Q .non)
noncomputable def Mv (K:PySem.W.Frag) (t:Adr):Sp:=fun vs H Q _=>∃ p row ws pl x c xs,vs=[.ref p,.ref c]∧mf t H p row ws pl∧ws[pl]? = some x∧SqL K H c (Pb xs)∧x ∈ xs∧GK t H p row ws (pl + 1) (Q (.str x))
noncomputable def Zv (t:Adr):Sp:=fun vs H Q _=>∃ p row ws pl x lo hi v,vs=[.ref p,.int lo,.int hi]∧mf t H p row ws pl∧ws[pl]? = some x∧Uq x lo hi=.int v∧NoT H∧GK t H p row ws (pl + 1) (Q (.int v))
noncomputable def IF (t:Adr):Sp:=fun vs H Q _=>∃ p row ws pl,vs=[.ref p]∧mf t H p row ws pl∧pl=ws.length∧Q .non H
section
variable {P:Program} {w:World} {K:PySem.W.Frag} {mg:Str→Option Value} {base:Heap} {t:Adr}
theorem qM (T:Txt w K mg t):Kb P w K mg base CX0 1 t.Gd t.Se q32 (oI t):=by
 refine T.Uk.ok Dl (fun vs H Q E h=>?_) (fun _ _ _ s H vs Q E hr h=>?_)
 ·obtain ⟨p,dx,ta,row,rfl,_⟩:=h;rfl
 obtain ⟨p,dx,ta,row,rfl,hp,q⟩:=h;refine ⟨_,(db (Kg (pv 0) (pv 1) rfl)
   (db (Kg (pv 0) (pv 2) rfl)
   (gb (Kg (pv 0) ub rfl)))),?_⟩
 walk_at "RD";refine ⟨_,_,_,hp,T.wb,T.Tk,by decide,?_⟩;refine ⟨_,_,_,cb,T.wb,T.Zj,wo (n:=999) (by decide),?_⟩;refine ⟨_,_,_,cb,T.wb,T.ef,wo (n:=999) (wo (n:=998) (by decide)),?_⟩;simp only [uk];rw [show Vh (Str.ofString "row") (V.int row) ([]:List (Str × V))=[(Str.ofString "row",V.int row)] from yd [] rfl (by decide +kernel),
  show Vh (Str.ofString "told") (V.ref ta) ([(Str.ofString "row",V.int row)]:List (Str × V))=[(Str.ofString "row",V.int row),(Str.ofString "told",V.ref ta)] from yd [Str.ofString "row"] rfl (by decide +kernel),
  show Vh (Str.ofString "place") (V.int 0) ([(Str.ofString "row",V.int row),(Str.ofString "told",V.ref ta)]:List (Str × V))=[(Str.ofString "row",V.int row),(Str.ofString "told",V.ref ta),(Str.ofString "place",V.int 0)] from yd [Str.ofString "row",Str.ofString "told"] rfl (by decide +kernel)]
 exact q
theorem cm (T:Txt w K mg t):Kb P w K mg base CX0 1 t.Qb t.vc ["self"] (yk t):=by
 refine T.Lj.ok ao (fun vs H Q E h=>?_) (fun _ _ _ s H vs Q E hr h=>?_)
 ·obtain ⟨p,row,ws,pl,rfl,_⟩:=h;rfl
 obtain ⟨p,row,ws,pl,rfl,⟨hz,dx,ta,e1,e2⟩,hle,q⟩:=h;refine ⟨_,(db (Kf (zc Mi (Rc (pv 0) rfl) (fc Lc rfl T.Zm Zc (bb (Rc (pv 0) rfl) fb)) (Hc _)) (gb (Ob qc)) Kc)
   (gb (Ob (xc ae (Rc (pv 0) rfl) (Rc (pv 0) rfl))))),?_⟩
 walk_at "RD";refine Nc (decide ((pl:Int)=(ws.length:Int))) (fun Q hQ=>?_) (fun c=>?_) (fun c=>?_)
 ·walk_at "RD";refine ⟨_,Jq T e1,_,jy T e1,_,rfl,_,.inl (SqL.of e2),rfl,?_⟩;rw [Nn];walk_at "RD";exact hQ
 ·walk_at "RD";have c':pl=ws.length:=by have:=of_decide_eq_true c;omega
  rw [show ws.getD pl (Str.ofString "")=Str.ofString "" by rw [List.getD_eq_getElem?_getD,List.getElem?_eq_none (by omega)];rfl] at q;exact q
 ·walk_at "RD";have c':pl < ws.length:=by have:=of_decide_eq_false c;omega
  have hx:ws[pl]? = some ws[pl]:=List.getElem?_eq_getElem c';rw [List.getD_eq_getElem?_getD,hx] at q;exact ⟨_,jy T e1,_,Jq T e1,_,rfl,_,_,rfl,SqL.of e2,_,Cc (aH hx),q⟩
theorem SC (T:Txt w K mg t):Kb P w K mg base CX0 1 t.yc t.Uc ["self"] (my t):=by
 refine T.Sh.ok Fl (fun vs H Q E h=>?_) (fun _ _ _ s H vs Q E hr h=>?_)
 ·obtain ⟨p,row,ws,pl,rfl,_⟩:=h;rfl
 obtain ⟨p,row,ws,pl,rfl,⟨hz,dx,ta,e1,e2⟩,q⟩:=h;refine ⟨_,(gb (Ob (Pf wt (Rc (pv 0) rfl) (fc Lc rfl T.Zm Zc (bb (Rc (pv 0) rfl) fb)) (Hc _)))),?_⟩;walk_at "RD";have e:decide (pl < ws.length)=decide ((pl:Int) < (ws.length:Int)):=by rw [Bool.eq_iff_iff];simp
 rw [e] at q;refine ⟨_,Jq T e1,_,jy T e1,_,rfl,_,.inl (SqL.of e2),?_⟩;rw [Nn];exact ⟨_,rfl,q⟩
theorem qz (T:Txt w K mg t):Kb P w K mg base CX0 1 t.Yb t.Fc q11 (Iv t):=by
 refine T.Kh.ok Xj (fun vs H Q E h=>?_) (fun _ _ _ s H vs Q E hr h=>?_)
 ·obtain ⟨p,row,ws,pl,rfl,_⟩:=h;rfl
 obtain ⟨p,row,ws,pl,rfl,⟨hz,dx,ta,e1,e2⟩,q⟩:=h;refine ⟨_,(db (Kf (Lu (Wk (pv 1))) (gb Wl) Kc)
   (gb (Rw (pv 0) ub qI))),?_⟩
 walk_at "RD";refine Nc false (fun Q hQ=>?_) (fun hc=>nomatch hc) (fun _=>?_)
 ·walk_at "RD";exact hQ
 ·walk_at "RD";refine ⟨_,_,_,e1,T.wb,T.ef,_,zd Ts 2 (Ri ..) (by decide +kernel) rfl,_,rfl,_,_,e1,by rw [← List.length_map (f:=(·.1)),Ri];decide,?_⟩;rw [YC];exact q _ Qc.put (fun n=>n.upd) ⟨hz,dx,ta,cb,by rw [rb (kf e2 e1 (by intro z;cases z))];exact e2⟩
theorem cA (T:Txt w K mg t):Kb P w K mg base CX0 2 t.Sb t.Bc q15 (Mv K t):=by
 have g11:Kb P w K mg base CX0 1 t.Qb t.vc ["self"] (yk t):=cm T;have g17:Kb P w K mg base CX0 1 t.Yb t.Fc q11 (Iv t):=qz T;refine T.yg.ok Le (fun vs H Q E h=>?_) (fun _ _ _ s H vs Q E hr h=>?_)
 ·obtain ⟨p,row,ws,pl,x,c,xs,rfl,_⟩:=h;rfl
 obtain ⟨p,row,ws,pl,x,c,xs,rfl,R,hx,hc,hm,q⟩:=h;refine ⟨_,(db (Bb (i:=2) Le.nd (Fd (pv 0) T.wb T.Od g11 hr T.Qd .nil Hd))
   (db (Ic (bd (pv 0) T.wb T.Qe g17 hr T.Ue .nil Hd (bb (Pf mo (pv 2) (pv 1) (by with_unfolding_all rfl)) fb)))
   (gb (Ob (pv 2))))),?_⟩
 have hlt:pl < ws.length:=(List.getElem?_eq_some_iff.mp hx).1;have hg:ws.getD pl (Str.ofString "")=x:=by rw [List.getD_eq_getElem?_getD,hx];rfl
 obtain ⟨_,dx,ta,e1,e2⟩:=id R;walk_at "RD";refine ⟨_,_,e1,mf.no _ _ _ (by decide +kernel),⟨p,row,ws,pl,rfl,R,by omega,?_⟩⟩;rw [hg];walk_at "RD";refine ⟨_,_,e1,mf.no _ _ _ (by decide +kernel),_,.inl hc,rfl,Yl xs,?_⟩;rw [Iq,decide_eq_true hm];refine ⟨p,row,ws,pl,rfl,R,fun H' s1 s2 s3=>?_⟩;walk_at "RD";exact q H' s1 s2 s3
theorem Oy (T:Txt w K mg t):Kb P w K mg base CX0 4 t.Jb t.Tb q12 (Zv t):=by
 have g11:Kb P w K mg base CX0 3 t.Qb t.vc ["self"] (yk t):=(cm T).mono (by decide);have g17:Kb P w K mg base CX0 3 t.Yb t.Fc q11 (Iv t):=(qz T).mono (by decide);have g21:Kb P w K mg base CX0 3 t.Di t.Sj q23 MC:=sI T;refine T.cg.ok ue (fun vs H Q E h=>?_) (fun _ _ _ s H vs Q E hr h=>?_)
 ·obtain ⟨p,row,ws,pl,x,lo,hi,v,rfl,_⟩:=h;rfl
 obtain ⟨p,row,ws,pl,x,lo,hi,v,rfl,R,hx,hv,nt,q⟩:=h;refine ⟨_,(db (Bb (i:=3) ue.nd (Db g21 hr T.Tw T.Kn.kp T.Dx (bb (Fd (pv 0) T.wb T.Od g11 hr T.Qd .nil Hd) (bb (pv 1) (bb (pv 2) fb)))))
   (db (Ic (bd (pv 0) T.wb T.Qe g17 hr T.Ue .nil Hd (bb (Pf ME (pv 3) bA (Hc _)) fb)))
   (gb (Ob (pv 3))))),?_⟩
 have hlt:pl < ws.length:=(List.getElem?_eq_some_iff.mp hx).1;have hg:ws.getD pl (Str.ofString "")=x:=by rw [List.getD_eq_getElem?_getD,hx];rfl
 obtain ⟨hz,dx,ta,e1,e2⟩:=id R;walk_at "RD";refine ⟨_,_,e1,mf.no _ _ _ (by decide +kernel),⟨p,row,ws,pl,rfl,R,by omega,?_⟩⟩;rw [hg];walk_at "RD";refine ⟨x,lo,hi,rfl,hz.2 x (List.mem_of_getElem? hx),nt,?_⟩;rw [hv];walk_at "RD";refine ⟨_,_,e1,mf.no _ _ _ (by decide +kernel),?_⟩;refine ⟨p,row,ws,pl,rfl,R,fun H' s1 s2 s3=>?_⟩;walk_at "RD";exact q H' s1 s2 s3
theorem WI (T:Txt w K mg t):Kb P w K mg base CX0 2 t.Rb t.Ac ["self"] (IF t):=by
 have g22:Kb P w K mg base CX0 1 t.yc t.Uc ["self"] (my t):=SC T;refine T.vg.ok xi (fun vs H Q E h=>?_) (fun _ _ _ s H vs Q E hr h=>?_)
 ·obtain ⟨p,row,ws,pl,rfl,_⟩:=h;rfl
 obtain ⟨p,row,ws,pl,rfl,R,hl,q⟩:=h;obtain ⟨hz,dx,ta,e1,e2⟩:=id R;refine ⟨_,(gb (Kf (Wk (Fd (pv 0) T.wb T.Qh g22 hr T.Oh .nil Hd)) (gb Wl) Kc)),?_⟩;walk_at "RD";refine Nc false (fun Q hQ=>?_) (fun hc=>nomatch hc) (fun _=>?_)
 ·walk_at "RD";refine ⟨_,_,e1,mf.no _ _ _ (by decide +kernel),⟨p,row,ws,pl,rfl,R,?_⟩⟩;rw [decide_eq_false (by omega)];exact ⟨_,rfl,hQ⟩
 ·walk_at "RD";exact q
end
end My
namespace My
open PySem L2
noncomputable abbrev wd (ws:List Str) (k:Nat):Str:=ws.getD k (Str.ofString "")
theorem uM {ws:List Str} (h:∀ x ∈ ws,x.length ≤ 1000) (k:Nat):(wd ws k).length ≤ 1000:=by
 unfold wd;rw [List.getD_eq_getElem?_getD];cases e:ws[k]? with
 | none=>exact Nat.le_trans (show (Str.ofString "").length ≤ 0 by decide +kernel) (Nat.zero_le _)
 | some x=>exact h x (List.mem_of_getElem? e)
theorem nG {ws:List Str} {k:Nat} (h:wd ws k ≠ Str.ofString ""):k < ws.length:=by
 refine Classical.byContradiction fun z=>h ?_
 unfold wd;rw [List.getD_eq_getElem?_getD,List.getElem?_eq_none (by omega)];rfl
theorem Tu (w:Str) (lo hi:Int):(∃ v,Uq w lo hi=.int v∧lo ≤ v∧v ≤ hi∧w ≠ Str.ofString "")∨Uq w lo hi=.non:=by
 unfold Uq;split
 ·rename_i h;rw [Bool.and_eq_true] at h;refine .inl ⟨val w,rfl,?_,?_,fun z=>?_⟩
  ·have:=h.2;simp at this;omega
  ·have:=h.2;simp at this;omega
  ·have h1:=h.1;rw [z] at h1;exact absurd h1 (by decide +kernel)
 ·exact .inr rfl
theorem dh {i:Int} (h:i.natAbs < 100000):i.natAbs.log2 < 1920:=by
 by_cases h0:i.natAbs=0
 ·rw [h0];decide
 ·exact (Nat.log2_lt h0).mpr (Nat.lt_trans h (by decide))
noncomputable def Ls (t:Adr) (i:Int) (k:Nat) (p:Addr) (H:Hp) (E:XK):Prop:=∀ dx H',Qc p H H'→(NoT H→NoT H')→H' dx=some (.ext (XD dx [(Str.ofString "row",.int i),(Str.ofString "word",.int k)]))→E (.ref t.Ib) (some dx) H'
theorem Ls.step {t:Adr} {i:Int} {k:Nat} {p:Addr} {H H1:Hp} {E:XK} (h:Ls t i k p H E) (s:Qc p H H1) (n:NoT H→NoT H1):Ls t i k p H1 E:=fun dx H' s' n' e=>h dx H' (s.trans s') (fun z=>n' (n z)) e
theorem TL {w:World} {K:PySem.W.Frag} {mg:Str→Option Value} {t:Adr} {H:Hp} {p:Addr} {row:Int} (T:Txt w K mg t) {dx ta:Addr} {pl:Int} (e:H p=some (.ins t.yb dx (rdF row ta pl))):vk K H p (Str.ofString "row") (.int row):=
 ⟨_,dx,_,e,T.wb,T.Tk,zd Ts 0 (Ri ..) (by decide +kernel) rfl⟩
noncomputable def eI (t:Adr):Sp:=fun vs H Q _=>∃ x i j,vs=[.ref x,.int i,.int j]∧i.natAbs.log2 < 1920∧j.natAbs.log2 < 1920∧H x=some (.ext (XF x t.Ib none)) ∧
 ∀ dx,H dx=none→dx ≠ x→Q .non (upd (upd H x (.ext (XF x t.Ib (some dx)))) dx (.ext (XD dx [(Str.ofString "row",.int i),(Str.ofString "word",.int j)])))
noncomputable def zy (t:Adr):Sp:=fun vs H Q E=>∃ p row ws pl,vs=[.ref p]∧mf t H p row ws pl∧(0 ≤ row∧row ≤ 10000)∧pl ≤ 10000∧Ls t row pl p H E
noncomputable def Yu (t:Adr):Sp:=fun vs H Q E=>∃ p row ws pl g,vs=[.ref p,.bl g]∧mf t H p row ws pl∧(0 ≤ row∧row ≤ 10000)∧pl ≤ 10000∧(g=true→GK t H p row ws (pl + 1) (Q .non))∧(g=false→Ls t row pl p H E)
noncomputable def Nr (K:PySem.W.Frag) (t:Adr):Sp:=fun vs H Q E=>∃ p row ws pl c xs,vs=[.ref p,.ref c]∧mf t H p row ws pl∧(0 ≤ row∧row ≤ 10000)∧pl ≤ ws.length∧SqL K H c (Pb xs) ∧
 (wd ws pl ∈ xs→GK t H p row ws (pl + 1) (Q (.str (wd ws pl))))∧(wd ws pl ∉ xs→Ls t row pl p H E)
noncomputable def sv (t:Adr):Sp:=fun vs H Q E=>∃ p row ws pl lo hi,vs=[.ref p,.int lo,.int hi]∧mf t H p row ws pl∧(0 ≤ row∧row ≤ 10000)∧pl ≤ ws.length∧NoT H ∧
 (∀ v,Uq (wd ws pl) lo hi=.int v→GK t H p row ws (pl + 1) (Q (.int v)))∧(Uq (wd ws pl) lo hi=.non→Ls t row pl p H E)
noncomputable def Uy (t:Adr):Sp:=fun vs H Q E=>∃ p row ws pl,vs=[.ref p]∧mf t H p row ws pl∧(0 ≤ row∧row ≤ 10000)∧(¬ pl < ws.length→Q .non H)∧(pl < ws.length→Ls t row pl p H E)
section
variable {P:Program} {w:World} {K:PySem.W.Frag} {mg:Str→Option Value} {base:Heap} {t:Adr}
theorem gM (T:Txt w K mg t):Kb P w K mg base CX0 1 t.Ke t.Eg q28 (eI t):=by
 refine T.uo.ok En (fun vs H Q E h=>?_) (fun _ _ _ s H vs Q E hr h=>?_)
 ·obtain ⟨x,i,j,rfl,_⟩:=h;rfl
 obtain ⟨x,i,j,rfl,hi,hj,hx,q⟩:=h;refine ⟨_,(db (Ic (Dq rfl T.vi T.nk (bb (pv 0) (bb (Wn (Wh (Xz (pv 1) (Wh (Xz (pv 2) iB)))) (by rw [sizeLine_eq];decide)) fb))))
   (db (kq (pv 0) (pv 1) rfl)
   (gb (vq (pv 0) (pv 2) rfl)))),?_⟩
 walk_at "RD";refine ⟨hi,hj,fun y=>⟨_,_,hx,T.jq,?_⟩⟩;refine ⟨_,hx,T.jq,T.Wv,fun dx hd hne=>?_⟩;refine ⟨_,dx,by rw [rb (Ne.symm hne),cb],_,cb,T.jq,T.Yt,show 1 < 1000 by decide,?_⟩;rw [uk,show Vh (Str.ofString "word") (V.int j) ([(Str.ofString "row",V.int i)]:List (Str × V))=[(Str.ofString "row",V.int i),(Str.ofString "word",V.int j)] from yd [Str.ofString "row"] rfl (by decide +kernel)];exact q dx hd hne
theorem LF (T:Txt w K mg t):Kb P w K mg base (CX1 P w) 3 t.Mc t.Ed ["self"] (zy t):=by
 have g36:Kb P w K mg base CX0 1 t.Ke t.Eg q28 (eI t):=gM T;refine T.dj.okX Gm (fun vs H Q E h=>?_) (fun _ _ _ s H vs Q E hr h=>?_)
 ·obtain ⟨p,row,ws,pl,rfl,_⟩:=h;rfl
 obtain ⟨p,row,ws,pl,rfl,⟨hz,dx,ta,e1,e2⟩,hrow,hpl,q⟩:=h;refine ⟨_,(gb (Aq (wq T.ww g36 hr rfl T.jA T.vv (bb (Rc (pv 0) rfl) (bb (Rc (pv 0) rfl) fb))) fv)),?_⟩;walk_at "RD";refine ⟨_,TL T e1,_,Jq T e1,by decide,fun a ha=>⟨a,row,pl,rfl,dh (by omega),dh (by omega),cb,fun d hd hne=>?_⟩⟩;have hd0:H d=none:=by rw [rb hne] at hd;exact hd
 refine ⟨rfl,t.Ib,some d,by rw [rb (Ne.symm hne),cb],T.jq,q d _ (fun b u _ e=>?_) (fun nt=>(((nt.upd).upd).upd).upd) (by rw [rb hne,cb])⟩;rw [rb (xb e ha),rb (xb e hd0),rb (xb e ha),rb (xb e ha)];exact e
theorem Kz (T:Txt w K mg t):Kb P w K mg base (CX1 P w) 4 t.Yb t.Fc q11 (Yu t):=by
 have g23:Kb P w K mg base (CX1 P w) 3 t.Mc t.Ed ["self"] (zy t):=LF T;refine T.Kh.okX Xj (fun vs H Q E h=>?_) (fun _ _ _ s H vs Q E hr h=>?_)
 ·obtain ⟨p,row,ws,pl,g,rfl,_⟩:=h;rfl
 obtain ⟨p,row,ws,pl,g,rfl,R,hrow,hpl,q1,q2⟩:=h;obtain ⟨hz,dx,ta,e1,e2⟩:=id R;refine ⟨_,(db (Kf (Lu (Wk (pv 1))) (gb (Ic (Fd (pv 0) T.wb T.Ti g23 hr T.Ui .nil Me))) Kc)
   (gb (Rw (pv 0) ub qI))),?_⟩
 walk_at "RD";refine Nc (!g) (fun Q hQ=>?_) (fun c=>?_) (fun c=>?_)
 ·walk_at "RD";exact hQ
 ·walk_at "RD";have hg:g=false:=by simpa using c
  exact ⟨_,_,e1,mf.no _ _ _ (by decide +kernel),⟨p,row,ws,pl,rfl,R,hrow,hpl,q2 hg⟩⟩
 ·walk_at "RD";have hg:g=true:=by simpa using c
  refine ⟨_,_,_,e1,T.wb,T.ef,_,zd Ts 2 (Ri ..) (by decide +kernel) rfl,_,rfl,_,_,e1,by rw [← List.length_map (f:=(·.1)),Ri];decide,?_⟩;rw [YC];exact q1 hg _ Qc.put (fun n=>n.upd) ⟨hz,dx,ta,cb,by rw [rb (kf e2 e1 (by intro z;cases z))];exact e2⟩
theorem Hx (T:Txt w K mg t):Kb P w K mg base (CX1 P w) 5 t.Sb t.Bc q15 (Nr K t):=by
 have g11:Kb P w K mg base CX0 4 t.Qb t.vc ["self"] (yk t):=(cm T).mono (by decide);have g24:Kb P w K mg base (CX1 P w) 4 t.Yb t.Fc q11 (Yu t):=Kz T;refine T.yg.okX Le (fun vs H Q E h=>?_) (fun _ _ _ s H vs Q E hr h=>?_)
 ·obtain ⟨p,row,ws,pl,c,xs,rfl,_⟩:=h;rfl
 obtain ⟨p,row,ws,pl,c,xs,rfl,R,hrow,hpl,hc,q1,q2⟩:=h;refine ⟨_,(db (Bb (i:=2) Le.nd (Fd (pv 0) T.wb T.Od g11 hr T.Qd .nil Hd))
   (db (Ic (bd (pv 0) T.wb T.Qe g24 hr T.Ue .nil Me (bb (Pf mo (pv 2) (pv 1) (by with_unfolding_all rfl)) fb)))
   (gb (Ob (pv 2))))),?_⟩
 obtain ⟨hz,dx,ta,e1,e2⟩:=id R;walk_at "RD";refine ⟨_,_,e1,mf.no _ _ _ (by decide +kernel),⟨p,row,ws,pl,rfl,R,hpl,?_⟩⟩;walk_at "RD";refine ⟨_,_,e1,mf.no _ _ _ (by decide +kernel),_,.inl hc,rfl,Yl xs,?_⟩;rw [Iq];refine ⟨p,row,ws,pl,_,rfl,R,hrow,by omega,fun g H' s1 s2 s3=>?_,fun g=>q2 (of_decide_eq_false g)⟩;walk_at "RD";exact q1 (of_decide_eq_true g) H' s1 s2 s3
theorem jB (T:Txt w K mg t):Kb P w K mg base (CX1 P w) 5 t.Jb t.Tb q12 (sv t):=by
 have g11:Kb P w K mg base CX0 4 t.Qb t.vc ["self"] (yk t):=(cm T).mono (by decide);have g24:Kb P w K mg base (CX1 P w) 4 t.Yb t.Fc q11 (Yu t):=Kz T;have g21:Kb P w K mg base CX0 4 t.Di t.Sj q23 MC:=(sI T).mono (by decide);refine T.cg.okX ue (fun vs H Q E h=>?_) (fun _ _ _ s H vs Q E hr h=>?_)
 ·obtain ⟨p,row,ws,pl,lo,hi,rfl,_⟩:=h;rfl
 obtain ⟨p,row,ws,pl,lo,hi,rfl,R,hrow,hpl,nt,q1,q2⟩:=h;refine ⟨_,(db (Bb (i:=3) ue.nd (Db g21 hr T.Tw T.Kn.kp T.Dx (bb (Fd (pv 0) T.wb T.Od g11 hr T.Qd .nil Hd) (bb (pv 1) (bb (pv 2) fb)))))
   (db (Ic (bd (pv 0) T.wb T.Qe g24 hr T.Ue .nil Me (bb (Pf ME (pv 3) bA (Hc _)) fb)))
   (gb (Ob (pv 3))))),?_⟩
 obtain ⟨hz,dx,ta,e1,e2⟩:=id R;walk_at "RD";refine ⟨_,_,e1,mf.no _ _ _ (by decide +kernel),⟨p,row,ws,pl,rfl,R,hpl,?_⟩⟩;walk_at "RD";refine ⟨_,lo,hi,rfl,uM hz.2 pl,nt,?_⟩;rcases Tu (wd ws pl) lo hi with ⟨v,hv,_⟩ | hv
 ·rw [hv];walk_at "RD";refine ⟨_,_,e1,mf.no _ _ _ (by decide +kernel),?_⟩;refine ⟨p,row,ws,pl,_,rfl,R,hrow,by omega,fun g H' s1 s2 s3=>?_,fun g=>by cases g⟩;walk_at "RD";exact q1 v hv H' s1 s2 s3
 ·rw [hv];walk_at "RD";refine ⟨_,_,e1,mf.no _ _ _ (by decide +kernel),?_⟩;exact ⟨p,row,ws,pl,_,rfl,R,hrow,by omega,(fun g=>by cases g),fun g=>q2 hv⟩
theorem VD (T:Txt w K mg t):Kb P w K mg base (CX1 P w) 4 t.Rb t.Ac ["self"] (Uy t):=by
 have g22:Kb P w K mg base CX0 3 t.yc t.Uc ["self"] (my t):=(SC T).mono (by decide);have g23:Kb P w K mg base (CX1 P w) 3 t.Mc t.Ed ["self"] (zy t):=LF T;refine T.vg.okX xi (fun vs H Q E h=>?_) (fun _ _ _ s H vs Q E hr h=>?_)
 ·obtain ⟨p,row,ws,pl,rfl,_⟩:=h;rfl
 obtain ⟨p,row,ws,pl,rfl,R,hrow,q1,q2⟩:=h;obtain ⟨hz,dx,ta,e1,e2⟩:=id R;refine ⟨_,(gb (Kf (Wk (Fd (pv 0) T.wb T.Qh g22 hr T.Oh .nil Hd)) (gb (Ic (Fd (pv 0) T.wb T.Ti g23 hr T.Ui .nil Me))) Kc)),?_⟩;walk_at "RD";refine Nc (decide (pl < ws.length)) (fun Q hQ=>?_) (fun c=>?_) (fun c=>?_)
 ·walk_at "RD";refine ⟨_,_,e1,mf.no _ _ _ (by decide +kernel),⟨p,row,ws,pl,rfl,R,?_⟩⟩;exact ⟨_,rfl,hQ⟩
 ·walk_at "RD";have hl:=of_decide_eq_true c;exact ⟨_,_,e1,mf.no _ _ _ (by decide +kernel),⟨p,row,ws,pl,rfl,R,hrow,by omega,q2 hl⟩⟩
 ·walk_at "RD";exact q1 (of_decide_eq_false c)
end
noncomputable def Oc {α:Type} (m:Except Nat α) (ok:α→Prop) (er:Nat→Prop):Prop:=match m with | .ok a=>ok a | .error k=>er k
noncomputable def xy (x:Str) (lo hi:Int):Option Int:=if okB x && !(decide (val x < lo) || decide (hi < val x)) then some (val x) else none
theorem Ox (x:Str) (lo hi:Int):Uq x lo hi=(xy x lo hi).elim .non .int:=by
 unfold Uq xy;split <;> rfl
theorem Gv {x:Str} {lo hi v:Int} (h:Uq x lo hi=.int v):xy x lo hi=some v:=by
 rw [Ox] at h;cases e:xy x lo hi with
 | none=>rw [e] at h;cases h
 | some u=>rw [e] at h;injection h with h;rw [h]
theorem Vq {x:Str} {lo hi:Int} (h:Uq x lo hi=.non):xy x lo hi=none:=by
 rw [Ox] at h;cases e:xy x lo hi with
 | none=>rfl
 | some u=>rw [e] at h;cases h
theorem Fv {ws:List Str} {k:Nat} {lo hi v:Int} (h:Uq (wd ws k) lo hi=.int v):k + 1 ≤ ws.length∧lo ≤ v∧v ≤ hi:=by
 rcases Tu (wd ws k) lo hi with ⟨u,hu,h1,h2,h3⟩ | hn
 ·rw [hu] at h;injection h with h;subst h;exact ⟨nG h3,h1,h2⟩
 ·rw [hn] at h;cases h
noncomputable def Oc2 {α:Type} (m:Except (Nat × Nat) α) (ok:α→Prop) (er:Nat→Nat→Prop):Prop:=match m with | .ok a=>ok a | .error e=>er e.1 e.2
theorem Qv {α:Type} {l:List α} {a x:α} {i:Nat} (h:(l ++ [a])[i]? = some x):(i < l.length∧l[i]? = some x)∨(i=l.length∧x=a):=by
 by_cases hi:i < l.length
 ·rw [List.getElem?_append_left hi] at h;exact .inl ⟨hi,h⟩
 ·rw [List.getElem?_append_right (by omega)] at h;have h0:i - l.length=0:=by
   cases hh:i - l.length with
   | zero=>rfl
   | succ m=>rw [hh] at h;simp at h
  rw [h0] at h;exact .inr ⟨by omega,(by simpa using h:a=x).symm⟩
noncomputable def JN (t:Adr) (i k:Nat) (H:Hp) (E:XK):Prop:=∀ dx H',dc H H'→NoT H'→H' dx=some (.ext (XD dx [(Str.ofString "row",.int i),(Str.ofString "word",.int k)]))→E (.ref t.Ib) (some dx) H'
end My
namespace My
open PySem L2
theorem lc {α β:Type} {f:α→β} {l:List α} {i:Nat} {y:β} (h:(l.map f)[i]? = some y):∃ x,l[i]? = some x∧y=f x:=by
 rw [List.getElem?_map] at h;cases e:l[i]? with
 | none=>rw [e] at h;cases h
 | some x=>rw [e] at h;exact ⟨x,rfl,(Option.some.inj h).symm⟩
noncomputable def vN (t:Adr) (H0 H:Hp) (p:Addr) (rows:List (List Str)):Prop:=∃ qs:List Addr,H p=some (.lst (qs.map V.ref))∧H0 p=none∧qs.length=rows.length∧∀ (i:Nat) (q:Addr) (r:List Str),qs[i]? = some q→rows[i]? = some r→mf t H q i r 0∧H0 q=none
noncomputable def yo (t:Adr):Sp:=fun vs H Q _=>∃ x,vs=[.str x]∧x.length ≤ 20000∧(∀ r ∈ Th x,r.length ≤ 1000∧∀ y ∈ r,y.length ≤ 1000)∧NoT H∧∀ p H',dc H H'→NoT H'→vN t H H' p (Th x)→Q (.ref p) H'
section
variable {P:Program} {w:World} {K:PySem.W.Frag} {mg:Str→Option Value} {base:Heap} {t:Adr}
theorem ou (T:Txt w K mg t):Kb P w K mg base CX0 3 t.Gi t.ak ["text"] (yo t):=by
 have g37:Kb P w K mg base CX0 2 t.Zo t.Xq ["text"] Vz:=(DH T).mono (by decide);have g38:Kb P w K mg base CX0 1 t.Gd t.Se q32 (oI t):=qM T;refine T.On.ok lC (fun vs H Q E h=>?_) (fun _ _ _ s H vs Q E hr h=>?_)
 ·obtain ⟨x,rfl,_⟩:=h;rfl
 obtain ⟨x,rfl,hz,hrow,nt,q⟩:=h;refine ⟨_,(gb (Ob (yj rfl (Ur rfl T.Ci (bb (Db g37 hr T.AK T.wz.kp T.ZJ (bb (pv 0) fb)) fb)) (Ud (sc:=ib xn) rfl (by decide +kernel)) (N:=["row","told"]) (sel:=[none,none]) (Ie (M:=["text"]) (by decide +kernel)) (Blk.of (fun _ _ _ _=>(Fg (K:=K) (n:=2) rfl rfl (Ub (Ab (i:=0) (Li (N:=["row","told"]) (by decide +kernel) rfl)) (Ub (Ab (i:=1) (Li (N:=["row","told"]) (by decide +kernel) rfl)) Dg)))) (fun _ _ _ _=>⟨_,ui,by walk_at "B"⟩) (fun _ _ _ _=>⟨_,(Qo T.Yy g38 hr rfl T.yz T.Zp .nil Hd (bb (pv 0) (bb (pv 1) fb))),by walk_at "B"⟩))))),?_⟩;walk_at "RD";refine ⟨x,rfl,hz,nt,fun p H1 sm1 nt1 ⟨ps,hp,hp0,hpn,hpl,hpa⟩=>?_⟩;walk_at "RD";refine ⟨⟨_,SqL.of hp⟩,?_⟩;have hlen:ps.length ≤ sizeLine:=by
  rw [hpl];unfold Th;rw [List.length_map];have:=ur (x:=x) (y:=nl) (by rw [Ku];exact Nat.le_refl _);exact Nat.le_trans (show _ ≤ 40000 by omega) (by decide)
 refine Zd.enum (xs:=ps.map V.ref) (fun i ys H2=>dc H1 H2∧NoT H2∧∃ qs:List Addr,ys=qs.map V.ref∧qs.length=i∧∀ (j:Nat) (q:Addr) (r:List Str),qs[j]? = some q→(Th x)[j]? = some r→mf t H2 q j r 0∧H1 q=none)
  (by rw [List.length_map];exact hlen) ⟨dc.refl H1,nt1,[],rfl,rfl,fun j q r h _=>by simp at h⟩ ?_ ?_ ?_
 ·rintro i ys H2 hi zzq;refine zP fun zzM zzh=>?_
  obtain ⟨s2,n2,qs,rfl,hq,_⟩:=zzq;subst zzh;exact ⟨SqL.of (s2 _ _ hp),by rw [List.length_map];omega⟩
 ·rintro i v ys H2 p2 hv ⟨s2,n2,qs,rfl,hq,al⟩ hp2 N hN;rw [List.getElem?_map] at hv;cases hpi:ps[i]? with
  | none=>rw [hpi] at hv;cases hv
  | some pi=>
   rw [hpi] at hv;have e:=(Option.some.inj hv).symm;subst e;refine Ml ?_;walk_at "RD";refine ⟨Sub.name2,fun a dx ha hd hne=>?_⟩;refine ⟨a,dx,pi,i,rfl,cb,rfl,?_⟩;rw [uk];have s3:dc H2 (upd (upd (upd H2 p2 (.tup [.int i,.ref pi])) dx (.own a)) a (.ins t.yb dx (rdF i pi 0))):=by
    have s':dc H2 (upd H2 p2 (.tup [.int i,.ref pi])):=jb hp2;exact ((dc.trans s' (jb hd)).updN (s'.free ha))
   obtain ⟨r,hr⟩:∃ r,(Th x)[i]? = some r:=⟨(Th x)[i]'(by rw [← hpl];exact (List.getElem?_eq_some_iff.mp hpi).1),List.getElem?_eq_getElem _⟩;have ha2:H2 a=none:=(jb hp2).free ha;refine hN _ _ ⟨s2.trans s3,((n2.upd).upd).upd,qs ++ [a],by rw [List.map_append];rfl,by rw [List.length_append,hq];rfl,fun j q' r' h1 h2=>?_⟩;by_cases hj:j < qs.length
   ·rw [List.getElem?_append_left hj] at h1;obtain ⟨z1,z2⟩:=al j q' r' h1 h2;exact ⟨z1.same s3,z2⟩
   ·rw [List.getElem?_append_right (by omega)] at h1;have hj0:j - qs.length=0:=by
     cases hh:j - qs.length with
     | zero=>rfl
     | succ n=>rw [hh] at h1;simp at h1
    rw [hj0] at h1;have e3:a=q':=by simpa using h1
    subst e3;have e4:j=i:=by omega
    subst e4;rw [hr] at h2;cases h2;refine ⟨⟨hrow r (List.mem_of_getElem? hr),dx,pi,cb,?_⟩,s2.free ha2⟩;exact s3 _ _ (s2 _ _ (hpa j pi r hpi hr).1)
 ·rintro ys H2 ⟨s2,n2,qs,rfl,hq,al⟩ p2 hp2;refine q p2 _ ((sm1.trans s2).updN ((sm1.trans s2).free hp2)) (n2.upd) ⟨qs,cb,(sm1.trans s2).free hp2,by rw [hq,List.length_map,hpl],fun i q' r h1 h2=>?_⟩;obtain ⟨z1,z2⟩:=al i q' r h1 h2;exact ⟨z1.same (jb hp2),sm1.free z2⟩
end
noncomputable def HN (q:Addr) (H:Hp) (R:Hp→Prop):Prop:=∀ H',Qc q H H'→NoT H'→R H'
noncomputable def eE (t:Adr):Sp:=fun vs H Q _=>∃ q row n,vs=[.ref q]∧mf t H q row [Str.ofString "ring",num n] 0∧(2 ≤ n∧n ≤ 99)∧NoT H∧HN q H (Q (.int n))
noncomputable def ol (t:Adr) (H:Hp) (wl:Addr) (ds:List WD):Prop:=∃ as:List Addr,H wl=some (.lst (as.map V.ref))∧as.length=ds.length∧∀ (i:Nat) (a:Addr) (d:WD),as[i]? = some a→ds[i]? = some d→Mf t H a d
noncomputable def lu (t:Adr):Sp:=fun vs H Q _=>∃ q row ws pl wl ds x,vs=[.ref q,.ref wl]∧mf t H q row ws pl∧ws[pl]? = some x∧made x si 8=true∧ol t H wl ds∧ds.length ≤ 12∧(∀ d ∈ ds,d.name ≠ x)∧NoT H ∧
 ∀ H',Qc q H H'→NoT H'→mf t H' q row ws (pl + 1)→Q (.str x) H'
noncomputable def DI (t:Adr):Sp:=fun vs H Q _=>∃ q row ws pl n st fi,vs=[.ref q,.int n,.int st]∧mf t H q row ws pl∧ws[pl]? = some (num fi)∧(0 ≤ st∧st < n)∧(0 ≤ fi∧fi < n)∧st ≠ fi∧n ≤ 99∧NoT H ∧
 ∀ H',Qc q H H'→NoT H'→mf t H' q row ws (pl + 1)→Q (.int fi) H'
noncomputable def GA (t:Adr):Sp:=fun vs H Q _=>∃ d:WD,vs=[.str (Pd d.k),.str d.name,.int d.start,.int d.fin,.int d.off,.int d.near,.int d.least]∧d.k < 3∧∀ x H',dc H H'→(NoT H→NoT H')→Mf t H' x d→H x=none→Q (.ref x) H'
noncomputable def jI (t:Adr):Sp:=fun vs H Q _=>∃ q row n wl ds d,vs=[.ref q,.int n,.ref wl]∧mf t H q row (Cl d) 0∧WOk n d∧(2 ≤ n∧n ≤ 99)∧ol t H wl ds∧ds.length ≤ 12∧(∀ e ∈ ds,e.name ≠ d.name)∧NoT H ∧
 ∀ x H',Qc q H H'→NoT H'→Mf t H' x d→H x=none→Q (.ref x) H'
theorem ol.sameX {t:Adr} {H H':Hp} {q wl:Addr} {ds:List WD} {row:Int} {ws:List Str} {pl:Nat} (h:ol t H wl ds) (s:Qc q H H') (r:mf t H q row ws pl):ol t H' wl ds:=by
 obtain ⟨as,e1,e2,al⟩:=h;obtain ⟨hz,dx,ta,e3,e4⟩:=r;refine ⟨as,s _ _ (kf e1 e3 (by intro z;cases z)) e1,e2,fun i a d h1 h2=>?_⟩;obtain ⟨hk,dx',e5⟩:=al i a d h1 h2;refine ⟨hk,dx',s _ _ (fun z=>?_) e5⟩;subst z;rw [e5] at e3;have e6:=Option.some.inj e3;injection e6 with _ _ e8;have e9:(7:Nat)=3:=congrArg List.length e8;omega
theorem ol.same {t:Adr} {H H':Hp} {wl:Addr} {ds:List WD} (h:ol t H wl ds) (s:dc H H'):ol t H' wl ds:=by
 obtain ⟨as,e1,e2,al⟩:=h;exact ⟨as,s _ _ e1,e2,fun i a d h1 h2=>(al i a d h1 h2).same s⟩
section
variable {P:Program} {w:World} {K:PySem.W.Frag} {mg:Str→Option Value} {base:Heap} {t:Adr}
theorem GJ (T:Txt w K mg t):Kb P w K mg base CX0 5 t.gh t.yi ["reader"] (eE t):=by
 have g25:Kb P w K mg base CX0 4 t.Sb t.Bc q15 (Mv K t):=(cA T).mono (by decide);have g15:Kb P w K mg base CX0 4 t.Jb t.Tb q12 (Zv t):=Oy T;have g26:Kb P w K mg base CX0 4 t.Rb t.Ac ["self"] (IF t):=(WI T).mono (by decide);refine T.Nm.ok Bp (fun vs H Q E h=>?_) (fun _ _ _ s H vs Q E hr h=>?_)
 ·obtain ⟨q,row,n,rfl,_⟩:=h;rfl
 obtain ⟨q,row,n,rfl,R,hn,nt,qq⟩:=h;refine ⟨_,(db (Ic (bd (pv 0) T.wb T.me g25 hr T.je .nil Hd (bb (Hg (bb qc fb)) fb)))
   (db (Bb (i:=1) Bp.nd (bd (pv 0) T.wb T.kc g15 hr T.jc .nil Hd (bb (Yd rfl T.Qt T.Os) (bb (Yd rfl T.qv T.lv) fb))))
   (db (Ic (Fd (pv 0) T.wb T.jf g26 hr T.gf .nil Hd))
   (gb (Ob (pv 1)))))),?_⟩
 obtain ⟨_,dx,ta,e1,e2⟩:=id R;walk_at "RD";refine ⟨_,_,e1,mf.no _ _ _ (by decide +kernel),by decide,fun p hp=>?_⟩;have s0:dc H (upd H p (.lst [V.str (Str.ofString "ring")])):=jb hp;refine ⟨q,row,_,0,Str.ofString "ring",p,[Str.ofString "ring"],rfl,R.same s0,rfl,SqL.of cb,by simp,fun H1 s1 n1 R1=>?_⟩;obtain ⟨_,dx1,ta1,f1,f2⟩:=id R1;walk_at "RD";refine ⟨_,_,f1,mf.no _ _ _ (by decide +kernel),?_⟩;have nt1:=n1 nt.upd;refine ⟨q,row,_,1,num n,2,99,n,rfl,R1,rfl,Jm (by omega) (by omega) hn.1 hn.2,nt1,fun H2 s2 n2 R2=>?_⟩;obtain ⟨_,dx2,ta2,g1,g2⟩:=id R2;walk_at "RD";refine ⟨_,_,g1,mf.no _ _ _ (by decide +kernel),?_⟩;refine ⟨q,row,_,2,rfl,R2,rfl,?_⟩;walk_at "RD";exact qq H2 (((Qc.of s0).trans s1).trans s2) (n2 nt1)
theorem sC (T:Txt w K mg t):Kb P w K mg base CX0 3 t.Ee t.Ff q40 (lu t):=by
 have g11:Kb P w K mg base CX0 2 t.Qb t.vc ["self"] (yk t):=(cm T).mono (by decide);have g17:Kb P w K mg base CX0 2 t.Yb t.Fc q11 (Iv t):=(qz T).mono (by decide);have g39:Kb P w K mg base CX0 2 t.Nj t.Pl ["word"] GE:=uK T;refine T.Ei.ok Rk (fun vs H Q E h=>?_) (fun _ _ _ s H vs Q E hr h=>?_)
 ·obtain ⟨q,row,ws,pl,wl,ds,x,rfl,_⟩:=h;rfl
 obtain ⟨q,row,ws,pl,wl,ds,x,rfl,R,hx,hm,hW,hdl,hnew,nt,qq⟩:=h;refine ⟨_,(db (Bb (i:=2) Rk.nd (Fd (pv 0) T.wb T.Od g11 hr T.Qd .nil Hd))
   (db (Ic (bd (pv 0) T.wb T.Qe g17 hr T.Ue .nil Hd (bb (ZH (Db g39 hr T.BF T.jr.kp T.NC (bb (pv 2) fb)) (DA (Pf Ep (pv 2) (yj rfl (Wd (pv 1)) (Ud (sc:=ib Cg) rfl (by decide +kernel)) (N:=["way"]) (sel:=[none]) (Ie (M:=["reader","ways","name"]) (by decide +kernel)) (Blk.of (fun _ _ _ _=>(Ab (i:=0) (Li (N:=["way"]) (by decide +kernel) rfl))) (fun _ _ _ _=>⟨_,ui,by walk_at "B"⟩) (fun _ _ _ _=>⟨_,(Rc (pv 0) rfl),by walk_at "B"⟩))) (by with_unfolding_all rfl)))) fb)))
   (gb (Ob (pv 2))))),?_⟩
 have hlt:pl < ws.length:=(List.getElem?_eq_some_iff.mp hx).1;have hg:ws.getD pl (Str.ofString "")=x:=by rw [List.getD_eq_getElem?_getD,hx];rfl
 obtain ⟨hz,dx,ta,e1,e2⟩:=id R;walk_at "RD";refine ⟨_,_,e1,mf.no _ _ _ (by decide +kernel),⟨q,row,ws,pl,rfl,R,by omega,?_⟩⟩;rw [hg];walk_at "RD";refine ⟨_,_,e1,mf.no _ _ _ (by decide +kernel),?_⟩;refine ⟨x,rfl,hz.2 x (List.mem_of_getElem? hx),nt,?_⟩;rw [hm];walk_at "RD";obtain ⟨as,w1,w2,al⟩:=hW;refine ⟨⟨_,SqL.of w1⟩,?_⟩;have hle:(as.map V.ref).length ≤ sizeLine:=by rw [List.length_map,w2];exact Nat.le_trans hdl (by decide)
 refine Zd.list_zs (xs:=as.map V.ref) (zs:=ds.map fun d=>V.str d.name) (SqL.of w1) hle (by rw [List.length_map,List.length_map,w2]) (fun i v z N hv hz' hN=>?_) (fun p hp=>?_)
 ·obtain ⟨a,ha,rfl⟩:=lc hv;obtain ⟨d,hd,rfl⟩:=lc hz';walk_at "RD";exact ⟨Sub.name,_,(al i a d ha hd).f_name T,hN⟩
 ·walk_at "RD";have e0:(ds.map fun d=>V.str d.name)=Pb (ds.map (·.name)):=by unfold Pb;rw [List.map_map];rfl
  rw [e0];refine ⟨_,.inl (SqL.of cb),rfl,Yl _,?_⟩;rw [Iq,decide_eq_false (fun z=>by
   obtain ⟨d,hd,e⟩:=List.mem_map.mp z;exact hnew d hd e)]
  have s0:dc H (upd H p (.lst (Pb (ds.map (·.name))))):=jb hp;exact ⟨q,row,ws,pl,rfl,R.same s0,fun H' s1 n1 R1=>qq H' ((Qc.of s0).trans s1) (n1 nt.upd) R1⟩
theorem sL (T:Txt w K mg t):Kb P w K mg base CX0 5 t.ai t.Oj q26 (DI t):=by
 have g11:Kb P w K mg base CX0 4 t.Qb t.vc ["self"] (yk t):=(cm T).mono (by decide);have g15:Kb P w K mg base CX0 4 t.Jb t.Tb q12 (Zv t):=Oy T;refine T.zo.ok ly (fun vs H Q E h=>?_) (fun _ _ _ s H vs Q E hr h=>?_)
 ·obtain ⟨q,row,ws,pl,n,st,fi,rfl,_⟩:=h;rfl
 obtain ⟨q,row,ws,pl,n,st,fi,rfl,R,hx,hst,hfi,hne,hn,nt,qq⟩:=h;refine ⟨_,(db (Kf (zc Mi (Fd (pv 0) T.wb T.Od g11 hr T.Qd .nil Hd) (Uf tf rfl T.Iy Yg (bb (pv 2) fb)) (Hc _)) (gb Wl) Kc)
   (gb (Ob (bd (pv 0) T.wb T.kc g15 hr T.jc .nil Hd (bb ub (bb (Vb gk (pv 1) ub) fb)))))),?_⟩
 have hlt:pl < ws.length:=(List.getElem?_eq_some_iff.mp hx).1;have hg:ws.getD pl (Str.ofString "")=num fi:=by rw [List.getD_eq_getElem?_getD,hx];rfl
 obtain ⟨hz,dx,ta,e1,e2⟩:=id R;walk_at "RD";refine Nc false (fun Q hQ=>?_) (fun hc=>nomatch hc) (fun _=>?_)
 ·walk_at "RD";refine ⟨_,_,e1,mf.no _ _ _ (by decide +kernel),⟨q,row,ws,pl,rfl,R,by omega,?_⟩⟩;rw [hg];walk_at "RD";refine ⟨eF (by omega),?_⟩;rw [decide_eq_false (fun z=>hne (HJ (by omega) (by omega) (by omega) (by omega) z).symm)];exact hQ
 ·walk_at "RD";refine ⟨_,_,e1,mf.no _ _ _ (by decide +kernel),⟨q,row,ws,pl,num fi,0,n - 1,fi,rfl,R,hx,Jm (by omega) (by omega) (by omega) (by omega),nt,fun H1 s1 n1 R1=>?_⟩⟩;exact qq H1 s1 (n1 nt) R1
theorem rM {t:Adr} {H:Hp} {x dx:Addr} {d:WD} (hx:H x=none) (hd:H dx=none) (hk:d.k < 3) :
  dc H (upd (upd (upd H dx (.own x)) x (.ins (t.cw d.k) dx [])) x (.ins (t.cw d.k) dx (Pp d)))∧(NoT H→NoT (upd (upd (upd H dx (.own x)) x (.ins (t.cw d.k) dx [])) x (.ins (t.cw d.k) dx (Pp d)))) ∧
   Mf t (upd (upd (upd H dx (.own x)) x (.ins (t.cw d.k) dx [])) x (.ins (t.cw d.k) dx (Pp d))) x d:=
 ⟨(((dc.refl H).updN hd).updN hx).updN hx,fun n=>((n.upd).upd).upd,hk,dx,cb⟩
theorem RG (T:Txt w K mg t):Kb P w K mg base CX0 4 t.Zh t.Ij q27 (GA t):=by
 have g40:Kb P w K mg base CX0 2 t.Je t.Bg q8 (Xl t 0):=zJ T;have g41:Kb P w K mg base CX0 2 t.pe t.Zf q8 (Xl t 1):=JH T;have g42:Kb P w K mg base CX0 2 t.qe t.Yf q8 (Xl t 2):=ZG T;refine T.So.ok oy (fun vs H Q E h=>?_) (fun _ _ _ s H vs Q E hr h=>?_)
 ·obtain ⟨d,rfl,_⟩:=h;rfl
 obtain ⟨d,rfl,hk,q⟩:=h;refine ⟨_,(db (Kf (zc Mi (pv 0) qc (Hc _)) (gb (Ob (Qo T.nH g40 hr rfl T.vG T.nv .nil Hd (bb (pv 1) (bb (pv 2) (bb (pv 3) (bb (pv 4) (bb (pv 5) (bb (pv 6) fb))))))))) Kc)
   (db (Kf (zc Mi (pv 0) qc (Hc _)) (gb (Ob (Qo T.EF g41 hr rfl T.aD T.qt .nil Hd (bb (pv 1) (bb (pv 2) (bb (pv 3) (bb (pv 4) (bb (pv 5) (bb (pv 6) fb))))))))) Kc)
   (gb (Ob (Qo T.gE g42 hr rfl T.uD T.vt .nil Hd (bb (pv 1) (bb (pv 2) (bb (pv 3) (bb (pv 4) (bb (pv 5) (bb (pv 6) fb))))))))))),?_⟩
 have fin:∀ (x dx:Addr),H x=none→H dx=none→Q (.ref x) (upd (upd (upd H dx (.own x)) x (.ins (t.cw d.k) dx [])) x (.ins (t.cw d.k) dx (Pp d))):=fun x dx hx hd=>by
  obtain ⟨m1,m2,m3⟩:=rM (t:=t) (d:=d) hx hd hk;exact q x _ m1 m2 m3 hx
 obtain ⟨k,name,start,fi,off,near,least⟩:=d
 match k,hk with
 | 0,_=>
  (walk_at "RD"; repeat (dsimp only [Pd];walk_at "RD"));refine Nc true (fun Q hQ=>?_) (fun _=>?_) (fun hc=>nomatch hc)
  ·walk_at "RD";exact hQ
  ·walk_at "RD";exact fun x dx hx hd hne=>⟨x,dx,⟨0,name,start,fi,off,near,least⟩,rfl,rfl,cb,rfl,fin x dx hx hd⟩
 | 1,_=>
  (walk_at "RD"; repeat (dsimp only [Pd];walk_at "RD"));refine Nc false (fun Q hQ=>?_) (fun hc=>nomatch hc) (fun _=>?_)
  ·walk_at "RD";rw [decide_eq_false (by decide +kernel)];exact hQ
  ·walk_at "RD";refine Nc true (fun Q hQ=>?_) (fun _=>?_) (fun hc=>nomatch hc)
   ·walk_at "RD";exact hQ
   ·walk_at "RD";exact fun x dx hx hd hne=>⟨x,dx,⟨1,name,start,fi,off,near,least⟩,rfl,rfl,cb,rfl,fin x dx hx hd⟩
 | 2,_=>
  (walk_at "RD"; repeat (dsimp only [Pd];walk_at "RD"));refine Nc false (fun Q hQ=>?_) (fun hc=>nomatch hc) (fun _=>?_)
  ·walk_at "RD";rw [decide_eq_false (by decide +kernel)];exact hQ
  ·walk_at "RD";refine Nc false (fun Q hQ=>?_) (fun hc=>nomatch hc) (fun _=>?_)
   ·walk_at "RD";rw [decide_eq_false (by decide +kernel)];exact hQ
   ·walk_at "RD";exact fun x dx hx hd hne=>⟨x,dx,⟨2,name,start,fi,off,near,least⟩,rfl,rfl,cb,rfl,fin x dx hx hd⟩
theorem uL (T:Txt w K mg t):Kb P w K mg base CX0 6 t.di t.Jj q41 (jI t):=by
 have g25:Kb P w K mg base CX0 5 t.Sb t.Bc q15 (Mv K t):=(cA T).mono (by decide);have g15:Kb P w K mg base CX0 5 t.Jb t.Tb q12 (Zv t):=(Oy T).mono (by decide);have g26:Kb P w K mg base CX0 5 t.Rb t.Ac ["self"] (IF t):=(WI T).mono (by decide);have g43:Kb P w K mg base CX0 5 t.Ee t.Ff q40 (lu t):=(sC T).mono (by decide);have g44:Kb P w K mg base CX0 5 t.ai t.Oj q26 (DI t):=sL T;have g45:Kb P w K mg base CX0 5 t.Zh t.Ij q27 (GA t):=(RG T).mono (by decide);refine T.Eo.ok sf (fun vs H Q E h=>?_) (fun _ _ _ s H vs Q E hr h=>?_)
 ·obtain ⟨q,row,n,wl,ds,d,rfl,_⟩:=h;rfl
 obtain ⟨q,row,n,wl,ds,d,rfl,R,hd,hn,hW,hdl,hnew,nt,qq⟩:=h;refine ⟨_,(db (Bb (i:=3) sf.nd (bd (pv 0) T.wb T.me g25 hr T.je .nil Hd (bb (Hg (bb qc (bb qc (bb qc fb)))) fb)))
   (db (Bb (i:=4) sf.nd (Db g43 hr T.Zr T.Ei.kp T.Tr (bb (pv 0) (bb (pv 2) fb))))
   (db (Bb (i:=5) sf.nd (bd (pv 0) T.wb T.kc g15 hr T.jc .nil Hd (bb ub (bb (Vb gk (pv 1) ub) fb))))
   (db (Bb (i:=6) sf.nd (Db g44 hr T.zC T.zo.kp T.gC (bb (pv 0) (bb (pv 1) (bb (pv 5) fb)))))
   (db (Bb (i:=7) sf.nd (bd (pv 0) T.wb T.kc g15 hr T.jc .nil Hd (bb ub (bb (Yd rfl T.OB T.CB) fb))))
   (db (Bb (i:=8) sf.nd (bd (pv 0) T.wb T.kc g15 hr T.jc .nil Hd (bb ub (bb (Yd rfl T.uz T.bz) fb))))
   (db (Bb (i:=9) sf.nd (bd (pv 0) T.wb T.kc g15 hr T.jc .nil Hd (bb ub (bb (Yd rfl T.Jx T.Vx) fb))))
   (db (Ic (Fd (pv 0) T.wb T.jf g26 hr T.gf .nil Hd))
   (gb (Ob (Db g45 hr T.FC T.So.kp T.SB (bb (pv 3) (bb (pv 4) (bb (pv 5) (bb (pv 6) (bb (pv 7) (bb (pv 8) (bb (pv 9) fb)))))))))))))))))),?_⟩
 have b1:=hd.st;have b2:=hd.fi;have b3:=hd.of;have b4:=hd.nr;have b5:=hd.le;obtain ⟨_,dx,ta,e1,e2⟩:=id R;walk_at "RD";refine ⟨_,_,e1,mf.no _ _ _ (by decide +kernel),by decide,fun p hp=>?_⟩;have s0:dc H (upd H p (.lst [V.str (Str.ofString "car"),V.str (Str.ofString "foot"),V.str (Str.ofString "tram")])):=jb hp;have hin:Pd d.k ∈ [Str.ofString "car",Str.ofString "foot",Str.ofString "tram"]:=by
  have:=hd.k
  match d.k,this with
  | 0,_=>simp [Pd]
  | 1,_=>simp [Pd]
  | 2,_=>simp [Pd]
 refine ⟨q,row,_,0,Pd d.k,p,[Str.ofString "car",Str.ofString "foot",Str.ofString "tram"],rfl,R.same s0,rfl,SqL.of cb,hin,fun H1 s1 n1 R1=>?_⟩;have x1:Qc q H H1:=(Qc.of s0).trans s1;have m1:=n1 nt.upd;walk_at "RD";refine ⟨q,row,_,1,wl,ds,d.name,rfl,R1,rfl,hd.nm,hW.sameX x1 R,hdl,hnew,m1,fun H2 s2 m2 R2=>?_⟩;obtain ⟨_,dx2,ta2,f2,g2⟩:=id R2;have x2:=x1.trans s2;walk_at "RD";refine ⟨_,_,f2,mf.no _ _ _ (by decide +kernel),⟨q,row,_,2,num d.start,0,n - 1,d.start,rfl,R2,rfl,Jm (by omega) (by omega) (by omega) (by omega),m2,fun H3 s3 n3 R3=>?_⟩⟩;have x3:=x2.trans s3;have m3:=n3 m2;walk_at "RD";refine ⟨q,row,_,3,n,d.start,d.fin,rfl,R3,rfl,b1,b2,hd.ne,hn.2,m3,fun H4 s4 m4 R4=>?_⟩;obtain ⟨_,dx4,ta4,f4,g4⟩:=id R4;have x4:=x3.trans s4;walk_at "RD";refine ⟨_,_,f4,mf.no _ _ _ (by decide +kernel),⟨q,row,_,4,num d.off,0,30,d.off,rfl,R4,rfl,Jm (by omega) (by omega) (by omega) (by omega),m4,fun H5 s5 n5 R5=>?_⟩⟩;obtain ⟨_,dx5,ta5,f5,g5⟩:=id R5;have x5:=x4.trans s5;have m5:=n5 m4;walk_at "RD";refine ⟨_,_,f5,mf.no _ _ _ (by decide +kernel),⟨q,row,_,5,num d.near,0,30,d.near,rfl,R5,rfl,Jm (by omega) (by omega) (by omega) (by omega),m5,fun H6 s6 n6 R6=>?_⟩⟩;obtain ⟨_,dx6,ta6,f6,g6⟩:=id R6;have x6:=x5.trans s6;have m6:=n6 m5;walk_at "RD";refine ⟨_,_,f6,mf.no _ _ _ (by decide +kernel),⟨q,row,_,6,num d.least,1,60,d.least,rfl,R6,rfl,Jm (by omega) (by omega) (by omega) (by omega),m6,fun H7 s7 n7 R7=>?_⟩⟩;obtain ⟨_,dx7,ta7,f7,g7⟩:=id R7;have x7:=x6.trans s7;have m7:=n7 m6;walk_at "RD";refine ⟨_,_,f7,mf.no _ _ _ (by decide +kernel),⟨q,row,_,7,rfl,R7,rfl,?_⟩⟩;walk_at "RD";refine ⟨d,rfl,hd.k,fun x H8 s8 n8 w8 hx8=>?_⟩;refine qq x H8 (x7.trans (Qc.of s8)) (n8 m7) w8 ?_;cases hH:H x with
 | none=>rfl
 | some u=>
  by_cases hxq:x=q
  ·subst hxq;rw [f7] at hx8;cases hx8
  ·rw [x7 x u hxq hH] at hx8;cases hx8
end
end My
namespace My
open PySem L2
noncomputable abbrev BC:List Str:=[Str.ofString "places",Str.ofString "ways",Str.ofString "numbers"]
noncomputable def cF (n:Int) (wl nd:Addr):List (Str × V):=[(Str.ofString "places",.int n),(Str.ofString "ways",.ref wl),(Str.ofString "numbers",.ref nd)]
theorem bw (n:Int) (wl nd:Addr):(cF n wl nd).map (·.1)=BC:=rfl
noncomputable def nm (ds:List WD) (i:Nat):Str:=((ds[i]?).map (·.name)).getD (Str.ofString "")
noncomputable def HC (ds:List WD) (i:Nat):List (Key × V):=(List.range i).map fun j=>(Sum.inr (nm ds j),V.int j)
theorem nw {ds:List WD} {i:Nat} {d:WD} (h:ds[i]? = some d):nm ds i=d.name:=by unfold nm;rw [h];rfl
theorem nA {ds:List WD} (h:(ds.map (·.name)).Nodup) {i j:Nat} (hi:i < ds.length) (hj:j < ds.length) (e:nm ds i=nm ds j):i=j:=by
 rw [nw (List.getElem?_eq_getElem hi),nw (List.getElem?_eq_getElem hj)] at e;have:=(List.getElem_inj (xs:=ds.map (·.name)) (i:=i) (j:=j) (h₀:=by rw [List.length_map];exact hi) (h₁:=by rw [List.length_map];exact hj) h).mp (by rw [List.getElem_map,List.getElem_map];exact e);exact this
theorem lG {ds:List WD} (h:(ds.map (·.name)).Nodup) {i:Nat}:∀ {n:Nat},i < n→n ≤ ds.length→jw (HC ds n) (Sum.inr (nm ds i))=some (.int i):=by
 intro n
 induction n with
 | zero=>intro hi _;omega
 | succ n ih=>
  intro hi hn;unfold HC jw;rw [List.range_succ,List.map_append,List.find?_append];by_cases c:i < n
  ·have:=ih c (by omega);unfold HC jw at this;cases e:List.find? (fun kv=>decide (kv.fst=Sum.inr (nm ds i))) (List.map (fun j=>((Sum.inr (nm ds j):Key),V.int j)) (List.range n)) with
   | none=>rw [e] at this;cases this
   | some p=>rw [e] at this;exact this
  ·have e:i=n:=by omega
   subst e;have no:List.find? (fun kv=>decide (kv.fst=Sum.inr (nm ds i))) (List.map (fun j=>((Sum.inr (nm ds j):Key),V.int j)) (List.range i))=none:=by
    rw [List.find?_eq_none];intro p hp;obtain ⟨j,hj,rfl⟩:=List.mem_map.mp hp;have hj':=List.mem_range.mp hj;simp only [decide_eq_true_eq];intro z;have:=nA h (by omega) (by omega) (Sum.inr.inj z);omega
   rw [no];simp
theorem oH {ds:List WD} (h:(ds.map (·.name)).Nodup) {n:Nat} (hn:n < ds.length):ay (HC ds n) (Sum.inr (nm ds n)) (.int n)=HC ds (n + 1):=by
 unfold ay;have no:((HC ds n).any fun kv=>decide (kv.1=Sum.inr (nm ds n)))=false:=by
  rw [List.any_eq_false];intro p hp;obtain ⟨j,hj,rfl⟩:=List.mem_map.mp hp;have hj':=List.mem_range.mp hj;simp only [decide_eq_true_eq];intro z;have:=nA h (by omega) hn (Sum.inr.inj z);omega
 rw [no];unfold HC;rw [List.range_succ,List.map_append];rfl
theorem Fe {H H1 H2:Hp} {q:Addr} (a:dc H H1) (b:Qc q H1 H2) (n:H q=none):dc H H2:=fun c u e=>b c u (xb e n) (a c u e)
theorem yH {t:Adr} {H:Hp} {p q:Addr} {i j:Int} {ws vs:List Str} {k l:Nat} (a:mf t H p i ws k) (b:mf t H q j vs l) (n:i ≠ j):p ≠ q:=fun z=>by
 subst z;obtain ⟨_,dx,ta,e1,_⟩:=a;obtain ⟨_,dx',ta',e2,_⟩:=b;rw [e1] at e2;have e3:=Option.some.inj e2;injection e3 with _ _ e4;unfold rdF at e4;injection e4 with e5 _;injection e5 with _ e6;injection e6 with e7;exact n e7
theorem Iw {t:Adr} {H:Hp} {p q:Addr} {d:WD} {j:Int} {vs:List Str} {l:Nat} (a:Mf t H p d) (b:mf t H q j vs l):p ≠ q:=fun z=>by
 subst z;obtain ⟨_,dx,e1⟩:=a;obtain ⟨_,dx',ta',e2,_⟩:=b;rw [e1] at e2;have e3:=Option.some.inj e2;injection e3 with _ _ e4;exact absurd (congrArg List.length e4) (by show ¬ (7:Nat)=3;decide)
noncomputable def ad (t:Adr) (H:Hp) (c:Addr) (n:Int) (ds:List WD):Prop:=
 ((ds.map (·.name)).Nodup∧ds.length ≤ 12)∧∃ dx wl nd,H c=some (.ins t.Fb dx (cF n wl nd))∧ol t H wl ds∧H nd=some (.dK (HC ds ds.length))
theorem ad.same {t:Adr} {H H':Hp} {c:Addr} {n:Int} {ds:List WD} (h:ad t H c n ds) (s:dc H H'):ad t H' c n ds:=by
 obtain ⟨h0,dx,wl,nd,e1,e2,e3⟩:=h;exact ⟨h0,dx,wl,nd,s _ _ e1,e2.same s,s _ _ e3⟩
theorem JA {m:Str} (n:Int) (wl nd:Addr) (h:BC.contains m=false):(cF n wl nd).lookup m=none:=vo BC (bw ..) h
section
variable {w:World} {K:PySem.W.Frag} {mg:Str→Option Value} {t:Adr} {H:Hp} {c dx wl nd:Addr} {n:Int}
theorem uG (T:Txt w K mg t) (e:H c=some (.ins t.Fb dx (cF n wl nd))):vk K H c (Str.ofString "places") (.int n):=⟨_,dx,_,e,T.ac,T.Xi,zd BC 0 (bw ..) (by decide +kernel) rfl⟩
theorem VI (T:Txt w K mg t) (e:H c=some (.ins t.Fb dx (cF n wl nd))):vk K H c (Str.ofString "ways") (.ref wl):=⟨_,dx,_,e,T.ac,T.Lk,zd BC 1 (bw ..) (by decide +kernel) rfl⟩
theorem sr (T:Txt w K mg t) (e:H c=some (.ins t.Fb dx (cF n wl nd))):vk K H c (Str.ofString "numbers") (.ref nd):=⟨_,dx,_,e,T.ac,T.ni,zd BC 2 (bw ..) (by decide +kernel) rfl⟩
end
noncomputable def nJ (t:Adr):Sp:=fun vs H Q _=>∃ c dx n wl ds,vs=[.ref c,.int n,.ref wl]∧H c=some (.ins t.Fb dx [])∧ol t H wl ds∧(ds.map (·.name)).Nodup∧ds.length ≤ 12∧NoT H ∧
 ∀ H',Qc c H H'→NoT H'→ad t H' c n ds→Q .non H'
noncomputable def jL (t:Adr):Sp:=fun vs H Q _=>∃ n ds,vs=[.str (Ry n ds)]∧COk n ds∧NoT H∧∀ c H',dc H H'→NoT H'→ad t H' c n ds→Q (.ref c) H'
noncomputable def Gn (t:Adr):Sp:=fun vs H Q _=>∃ c n ds,vs=[.ref c]∧ad t H c n ds∧∀ p,H p=none→Q (.ref p) (upd H p (.lst (Pb (ds.map (·.name)))))
noncomputable def Zw (t:Adr):Sp:=fun vs H Q _=>∃ c n ds,∃ i:Nat,∃ d,vs=[.ref c,.str d.name]∧ad t H c n ds∧ds[i]? = some d∧Q (.int (i:Nat)) H
noncomputable def Qj (t:Adr):Sp:=fun vs H Q _=>∃ c n ds,∃ i:Nat,∃ d,vs=[.ref c,.str d.name]∧ad t H c n ds∧ds[i]? = some d∧∀ a,Mf t H a d→Q (.ref a) H
section
variable {P:Program} {w:World} {K:PySem.W.Frag} {mg:Str→Option Value} {base:Heap} {t:Adr}
theorem zL (T:Txt w K mg t):Kb P w K mg base CX0 1 t.Td t.wf q46 (nJ t):=by
 refine T.Hl.ok Rf (fun vs H Q E h=>?_) (fun _ _ _ s H vs Q E hr h=>?_)
 ·obtain ⟨c,dx,n,wl,ds,rfl,_⟩:=h;rfl
 obtain ⟨c,dx,n,wl,ds,rfl,hc,hW,hnd,hdl,nt,q⟩:=h;have hu:=wG hr;refine ⟨_,(db (Kg (pv 0) (pv 1) rfl)
   (db (Kg (pv 0) (pv 2) rfl)
   (db (Kg (pv 0) xq rfl)
   (gb (se PassesOwn.never rfl (Ur rfl T.Ci (bb (pv 2) fb)) (Fg (K:=K) (n:=2) rfl rfl (Ub (Ab (i:=3) Rf.nd) (Ub (Ab (i:=4) Rf.nd) Dg))) (gb (Rv hu (Rc (pv 0) rfl) (Rc (pv 4) rfl) (pv 3) rfl))))))),?_⟩
 walk_at "RD";refine ⟨_,_,_,hc,T.ac,T.Xi,by decide,?_⟩;refine ⟨_,_,_,cb,T.ac,T.Lk,wo (n:=999) (by decide),fun nd hn=>?_⟩;simp only [uk] at hn ⊢;rw [show Vh (Str.ofString "places") (V.int n) ([]:List (Str × V))=[(Str.ofString "places",V.int n)] from rfl,show Vh (Str.ofString "ways") (V.ref wl) [(Str.ofString "places",V.int n)]=[(Str.ofString "places",V.int n),(Str.ofString "ways",V.ref wl)] from yd [Str.ofString "places"] rfl (by decide +kernel)] at hn ⊢;have hnc:c ≠ nd:=fun z=>by subst z;rw [cb] at hn;cases hn
 refine ⟨t.Fb,dx,[(Str.ofString "places",V.int n),(Str.ofString "ways",V.ref wl)],by rw [rb hnc];exact cb,T.ac,T.ni,show (2:Nat) < 1000 by decide,?_⟩;rw [show Vh (Str.ofString "numbers") (V.ref nd) [(Str.ofString "places",V.int n),(Str.ofString "ways",V.ref wl)]=cF n wl nd from yd [Str.ofString "places",Str.ofString "ways"] rfl (by decide +kernel)];obtain ⟨as,w1,w2,al⟩:=hW;have hHn:H nd=none:=by rw [rb (Ne.symm hnc)] at hn;exact hn
 have sx:Qc c H (upd (upd (upd H c (.ins t.Fb dx [(Str.ofString "places",V.int n),(Str.ofString "ways",V.ref wl)])) nd (.dK [])) c (.ins t.Fb dx (cF n wl nd))):=fun b u hb e=>by
  rw [rb hb,rb (xb e hHn),rb hb];exact e
 have hwc:wl ≠ c:=kf w1 hc (by intro z;cases z);refine ⟨⟨_,SqL.of (sx _ _ hwc w1)⟩,?_⟩;refine uj.enum (xs:=as.map V.ref) (fun i σ H'=>(∃ x y,σ=[some (V.ref c),some (V.int n),some (V.ref wl),x,y])∧H' c=some (.ins t.Fb dx (cF n wl nd))∧H' nd=some (.dK (HC ds i))∧Qc c H H'∧NoT H') ?_ ?_ ?_ ?_
 ·exact ⟨⟨_,_,rfl⟩,cb,by rw [rb (Ne.symm hnc),cb];rfl,sx,((nt.upd).upd).upd⟩
 ·rintro i σ H' hi zzq;refine zP fun zzM zzh=>?_
  obtain ⟨_,_,_,sx',_⟩:=zzq;subst zzh;exact SqL.of (sx' _ _ hwc w1)
 ·rintro i v σ H' p hv ⟨⟨x,y,rfl⟩,h1,h2,sx',nt'⟩ hp;obtain ⟨a,ha,rfl⟩:=lc hv;obtain ⟨hi,_⟩:=List.getElem?_eq_some_iff.mp ha;have hid:i < ds.length:=by omega
  have hd:ds[i]? = some ds[i]:=List.getElem?_eq_getElem hid;have Wa:Mf t H a ds[i]:=al i a _ ha hd;have hac:a ≠ c:=by
   obtain ⟨_,dx',e⟩:=Wa;intro z;subst z;rw [hc] at e;have e2:=Option.some.inj e;injection e2 with _ _ e3;exact absurd (congrArg List.length e3) (by show ¬ (0:Nat)=7;decide)
  have Wa':Mf t H' a ds[i]:=⟨Wa.1,Wa.2.imp fun dx' e=>sx' _ _ hac e⟩;have sp:dc H' (upd H' p (.tup [.int i,.ref a])):=jb hp;refine Ml ?_;walk_at "RD";refine ⟨_,sr T (sp _ _ h1),_,(Wa'.same sp).f_name T,_,rfl,_,aG.k (k:=Sum.inr ds[i].name) (sp _ _ h2) (Nat.lt_of_le_of_lt (show (HC ds i).length ≤ 12 by unfold HC;rw [List.length_map,List.length_range];omega) (by decide)),?_⟩;rw [← nw hd,oH hnd hid];refine ⟨⟨_,rfl⟩,?_,cb,fun b u hb e=>?_,(nt'.upd).upd⟩
  ·rw [rb hnc];exact sp _ _ h1
  ·rw [rb (xb e hHn)];exact sp _ _ (sx' b u hb e)
 ·rintro σ H' zzq;refine zP fun zzM zzh=>?_
  obtain ⟨⟨x,y,rfl⟩,h1,h2,sx',nt'⟩:=zzq;subst zzh;walk_at "RD";rw [List.length_map,w2] at h2;refine q H' sx' nt' ⟨⟨hnd,hdl⟩,dx,wl,nd,h1,⟨as,sx' _ _ hwc w1,w2,fun i a d h3 h4=>?_⟩,h2⟩;have Wa:=al i a d h3 h4;have hac:a ≠ c:=by
   obtain ⟨_,dx',e⟩:=Wa;intro z;subst z;rw [hc] at e;have e2:=Option.some.inj e;injection e2 with _ _ e3;exact absurd (congrArg List.length e3) (by show ¬ (0:Nat)=7;decide)
  exact ⟨Wa.1,Wa.2.imp fun dx' e=>sx' _ _ hac e⟩
theorem iE (T:Txt w K mg t):Kb P w K mg base CX0 1 t.ud t.we q9 (Zw t):=by
 refine T.Kj.ok Xn (fun vs H Q E h=>?_) (fun _ _ _ s H vs Q E hr h=>?_)
 ·obtain ⟨c,n,ds,i,d,rfl,_⟩:=h;rfl
 obtain ⟨c,n,ds,i,d,rfl,⟨⟨hnd,hdl⟩,dx,wl,nd,e1,e2,e3⟩,hd,q⟩:=h;have hu:=wG hr;have hv:jw (HC ds ds.length) (Sum.inr d.name)=some (.int i):=by
  rw [← nw hd];exact lG hnd (List.getElem?_eq_some_iff.mp hd).1 (Nat.le_refl _)
 have hg:mw H nd (.str d.name) (some (.int i)):=by rw [← hv];exact mw.k (k:=Sum.inr d.name) e3
 refine ⟨_,(db (Kf (nM (VE hu (pv 1) (Rc (pv 0) rfl))) (gb Wl) Kc)
   (gb (Ob (Ny hu (Rc (pv 0) rfl) (pv 1) (fun _ _=>rfl))))),?_⟩
 walk_at "RD";refine Nc false (fun Q hQ=>?_) (fun hc=>nomatch hc) (fun _=>?_)
 ·walk_at "RD";refine ⟨_,sr T e1,_,rfl,_,hg,?_⟩;exact hQ
 ·walk_at "RD";exact ⟨_,sr T e1,_,rfl,_,hg,q⟩
theorem ul (T:Txt w K mg t):Kb P w K mg base CX0 2 t.bc t.Jc q9 (Qj t):=by
 have g46:Kb P w K mg base CX0 1 t.ud t.we q9 (Zw t):=iE T;refine T.Uj.ok io (fun vs H Q E h=>?_) (fun _ _ _ s H vs Q E hr h=>?_)
 ·obtain ⟨c,n,ds,i,d,rfl,_⟩:=h;rfl
 obtain ⟨c,n,ds,i,d,rfl,C,hd,q⟩:=h;obtain ⟨⟨hnd,hdl⟩,dx,wl,nd,e1,⟨as,w1,w2,al⟩,e3⟩:=id C;refine ⟨_,(gb (Ob (xc ae (Rc (pv 0) rfl) (bd (pv 0) T.ac T.Po g46 hr T.Jo .nil Hd (bb (pv 1) fb))))),?_⟩;walk_at "RD";refine ⟨_,VI T e1,_,_,e1,JA _ _ _ (by decide +kernel),⟨c,n,ds,i,d,rfl,C,hd,?_⟩⟩;have hi:i < as.length:=by rw [w2];exact (List.getElem?_eq_some_iff.mp hd).1
 have ha:as[i]? = some as[i]:=List.getElem?_eq_getElem hi;walk_at "RD";refine ⟨_,SqL.of w1,_,Cc (show (as.map V.ref)[i]? = some (V.ref as[i]) by rw [List.getElem?_map,ha];rfl),?_⟩;exact q as[i] (al i _ d ha hd)
theorem BN (T:Txt w K mg t):Kb P w K mg base CX0 7 t.De t.Df ["text"] (jL t):=by
 have g27:Kb P w K mg base CX0 6 t.Gi t.ak ["text"] (yo t):=(ou T).mono (by decide);have g47:Kb P w K mg base CX0 6 t.gh t.yi ["reader"] (eE t):=(GJ T).mono (by decide);have g48:Kb P w K mg base CX0 6 t.di t.Jj q41 (jI t):=uL T;have g49:Kb P w K mg base CX0 5 t.Td t.wf q46 (nJ t):=(zL T).mono (by decide);refine T.ki.ok Te (fun vs H Q E h=>?_) (fun _ _ _ s H vs Q E hr h=>?_)
 ·obtain ⟨n,ds,rfl,_⟩:=h;rfl
 obtain ⟨n,ds,rfl,hC,nt,qq⟩:=h;refine ⟨_,(db (Bb (i:=1) Te.nd (Db g27 hr T.Kx T.On.kp T.Qw (bb (pv 0) fb)))
   (db (Bb (i:=2) Te.nd (Db g47 hr T.dy T.Nm.kp T.gz (bb (xc ae (pv 1) ub) fb)))
   (db (Bb (i:=3) Te.nd (Hg fb))
   (db (se PassesOwn.never rfl (Wd (pB RC (pv 1) (aE ub) cE)) (Ab (i:=4) Te.nd) (db (Kf (zc Mi (fc Lc rfl T.Zm Zc (bb (pv 3) fb)) (Yd rfl T.pz T.Py) (Hc _)) (gb Wl) Kc)
   (gb (Ic (Mo PySem.F.plainAttrs_list PySem.F.slot_list_append PySem.F.type_list_append Dh (pv 3) (bb (Db g48 hr T.qB T.Eo.kp T.QB (bb (pv 4) (bb (pv 2) (bb (pv 3) fb)))) fb))))))
   (db (Kf (Lu (NA (pv 3) (fun _=>rfl))) (gb Wl) Kc)
   (gb (Ob (Qo T.WB g49 hr rfl T.fC T.Br .nil Hd (bb (pv 2) (bb (pv 3) fb)))))))))),?_⟩
 have hrow:=uB hC;have hlen:=cG hC;have hnn:=hC.nn;have hln:=hC.ln;walk_at "RD";refine ⟨Ry n ds,rfl,by omega,?_,nt,fun p H1 sm1 nt1 R=>?_⟩
 ·rw [hrow];intro r hr;refine ⟨?_,fun x hx=>Nat.le_trans (hC.plain r hr x hx).1 (by decide)⟩;rcases List.mem_cons.mp hr with rfl | hr
  ·show (2:Nat) ≤ 1000;decide
  ·obtain ⟨d,hd,rfl⟩:=List.mem_map.mp hr;show (7:Nat) ≤ 1000;decide
 rw [hrow] at R;obtain ⟨qs,hp,hp0,hql,hqa⟩:=R;have hql':qs.length=ds.length + 1:=by rw [hql];simp [qj]
 obtain ⟨q0,qr,rfl⟩:∃ q0 qr,qs=q0 :: qr:=by
  cases qs with
  | nil=>simp at hql'
  | cons a b=>exact ⟨a,b,rfl⟩
 obtain ⟨R0,hq0⟩:=hqa 0 q0 _ rfl rfl;walk_at "RD";refine ⟨_,SqL.of hp,_,Cc (j:=0) rfl,⟨q0,_,n,rfl,R0,hnn,nt1,fun H2 s2 nt2=>⟨Nat.zero_le _,fun wl hwl=>?_⟩⟩⟩;obtain ⟨C0,dq0,fq0,hins⟩:=R0.ins;have hpq:p ≠ q0:=kf hp hins (by intro z;cases z);have hp2:H2 p=some (.lst ((q0 :: qr).map V.ref)):=s2 _ _ hpq hp;have swl:dc H2 (upd H2 wl (.lst [])):=jb hwl;have hcut:NG ((q0 :: qr).map V.ref) (some 1) none=qr.map V.ref:=by
  unfold NG;simp [HT.sIx];exact List.take_of_length_le (by rw [List.length_map];exact Nat.le_refl _)
 refine ⟨_,SqL.of (swl _ _ hp2),fun pc hpc=>?_⟩;rw [hcut];have hpw:pc ≠ wl:=fun z=>by subst z;rw [cb] at hpc;cases hpc
 have spc:dc (upd H2 wl (.lst [])) (upd (upd H2 wl (.lst [])) pc (.lst (qr.map V.ref))):=jb hpc;refine ⟨⟨_,SqL.of cb⟩,?_⟩;have sH2:dc H H2:=Fe sm1 s2 hq0;have hqrl:qr.length=ds.length:=by simpa using hql'
 refine uj.list (xs:=qr.map V.ref) (fun i σ H'=>(∃ x,σ=[some (V.str (Ry n ds)),some (V.ref p),some (V.int n),some (V.ref wl),x])∧NoT H'∧dc H H'∧H' pc=some (.lst (qr.map V.ref))∧H wl=none∧ol t H' wl (ds.take i) ∧
  ∀ (j:Nat) (q:Addr) (d:WD),i ≤ j→qr[j]? = some q→ds[j]? = some d→mf t H' q ((j + 1:Nat):Int) (Cl d) 0∧H q=none) ?_ ?_ ?_ ?_
 ·refine ⟨⟨_,rfl⟩,(nt2.upd).upd,(sH2.trans swl).trans spc,cb,sH2.free hwl,⟨[],spc _ _ cb,rfl,fun j a d h=>by simp at h⟩,fun j q d _ h1 h2=>?_⟩;have hr:(qj n ds)[j + 1]? = some (Cl d):=by
   unfold qj;rw [List.getElem?_cons_succ,List.getElem?_map,h2];rfl
  obtain ⟨Rj,hqj⟩:=hqa (j + 1) q _ (by rw [List.getElem?_cons_succ];exact h1) hr;refine ⟨((Rj.sameX s2 (yH Rj R0 (by omega)) R0.ins).same swl).same spc,hqj⟩
 ·rintro i σ H' hi zzq;refine zP fun zzM zzh=>?_
  obtain ⟨_,_,_,h,_⟩:=zzq;subst zzh;exact SqL.of h
 ·rintro i v σ H' hv zzq;refine zP fun zzM zzh=>?_
  obtain ⟨⟨x,rfl⟩,nt',sm',hpc',hwl0,W,Rs⟩:=zzq;obtain ⟨q,hq,rfl⟩:=lc hv;obtain ⟨hi,_⟩:=List.getElem?_eq_some_iff.mp hq;have hid:i < ds.length:=by omega
  have hd:ds[i]? = some ds[i]:=List.getElem?_eq_getElem hid;obtain ⟨Rq,hqn⟩:=Rs i q _ (Nat.le_refl _) hq hd;have htl:(ds.take i).length=i:=by rw [List.length_take];omega
  obtain ⟨as,w1,w2,al⟩:=id W;subst zzh;walk_at "RD";refine Nc false (fun Q hQ=>?_) (fun hc=>nomatch hc) (fun _=>?_)
  ·walk_at "RD";refine ⟨_,.inl (SqL.of w1),?_⟩;rw [List.length_map,w2,htl];rw [decide_eq_false (by omega)] <;> exact hQ
  ·walk_at "RD";refine ⟨.inl ⟨_,SqL.of w1⟩,?_⟩;refine ⟨q,_,n,wl,ds.take i,ds[i],rfl,Rq,hC.al _ (List.getElem_mem hid),hnn,W,by omega,fun e he z=>?_,nt',fun y H3 s3 nt3 w3 hy3=>?_⟩
   ·obtain ⟨j,hj,rfl⟩:=List.getElem_of_mem he;rw [List.getElem_take] at z;have hj':j < i:=by omega
    have:=nA hC.nd (i:=j) (j:=i) (by omega) hid (by rw [nw (List.getElem?_eq_getElem (by omega)),nw hd];exact z);omega
   ·walk_at "RD";obtain ⟨Cq,dq,fq,hqi⟩:=Rq.ins;have hwq:wl ≠ q:=kf w1 hqi (by intro z;cases z);have hw3:H3 wl=some (.lst (as.map V.ref)):=s3 _ _ hwq w1;have hsm3:dc H H3:=Fe sm' s3 hqn;refine ⟨_,hw3,Nat.lt_of_le_of_lt (show (as.map V.ref).length ≤ 12 by rw [List.length_map];omega) (by decide),?_⟩;have hyw:y ≠ wl:=fun z=>by
     subst z;rw [w1] at hy3;cases hy3
    refine ⟨⟨_,rfl⟩,nt3.upd,fun b u e=>?_,?_,hwl0,⟨as ++ [y],by rw [cb,List.map_append];rfl,?_,fun j a d h1 h2=>?_⟩,fun j q' d hj h1 h2=>?_⟩
    ·rw [rb (xb e hwl0)];exact hsm3 _ _ e
    ·rw [rb hpw];exact s3 _ _ (kf hpc' hqi (by intro z;cases z)) hpc'
    ·rw [List.length_append,w2,htl,List.length_take];show i + 1=_;omega
    ·by_cases hj:j < as.length
     ·rw [List.getElem?_append_left hj] at h1;have h2':(ds.take i)[j]? = some d:=by
       rw [List.getElem?_take_of_lt (by omega)];rw [List.getElem?_take_of_lt (by omega)] at h2;exact h2
      obtain ⟨hk,dx',e⟩:=al j a d h1 h2';have haq:a ≠ q:=Iw ⟨hk,dx',e⟩ Rq;have haw:a ≠ wl:=kf e w1 (by intro z;cases z);exact ⟨hk,dx',by rw [rb haw];exact s3 _ _ haq e⟩
     ·rw [List.getElem?_append_right (by omega)] at h1;have hj0:j - as.length=0:=by
       cases hh:j - as.length with
       | zero=>rfl
       | succ m=>rw [hh] at h1;simp at h1
      rw [hj0] at h1;have e3:y=a:=by simpa using h1
      subst e3;have e4:j=i:=by omega
      subst e4;rw [List.getElem?_take_of_lt (by omega),hd] at h2;cases h2;exact ⟨w3.1,w3.2.imp fun dx' e=>by rw [rb hyw];exact e⟩
    ·obtain ⟨Rj,hqj⟩:=Rs j q' d (by omega) h1 h2;have R3:=Rj.sameX s3 (yH Rj Rq (by omega)) Rq.ins;refine ⟨?_,hqj⟩;obtain ⟨hz,dx',ta,e1,e2⟩:=R3;refine ⟨hz,dx',ta,by rw [rb (kf e1 hw3 (by intro z;cases z))];exact e1,?_⟩;rw [rb (fun z=>by
      subst z;rw [hw3] at e2;have e5:=Option.some.inj e2;injection e5 with e6;cases as with
      | nil=>exact absurd (congrArg List.length e6) (by show ¬ (0:Nat)=7;decide)
      | cons a r=>injection e6 with e7 _;cases e7)]
     exact e2
 ·rintro σ H' zzq;refine zP fun zzM zzh=>?_
  obtain ⟨⟨x,rfl⟩,nt',sm',hpc',hwl0,W,Rs⟩:=zzq;subst zzh;rw [List.length_map,hqrl,List.take_length] at W;obtain ⟨as,w1,w2,al⟩:=id W;walk_at "RD";refine Nc false (fun Q hQ=>?_) (fun hc=>nomatch hc) (fun _=>?_)
  ·walk_at "RD";refine ⟨true,.inl ⟨_,SqL.of w1,?_⟩,hQ⟩;cases as with
   | nil=>simp at w2;omega
   | cons a r=>rfl
  ·walk_at "RD";intro c dx hc hdx hne;have sc:dc H' (upd (upd H' dx (.own c)) c (.ins t.Fb dx [])):=((dc.refl H').updN hdx).updN hc;refine ⟨c,dx,n,wl,ds,rfl,cb,W.same sc,hC.nd,hln.2,(nt'.upd).upd,fun H5 s5 nt5 C5=>⟨rfl,?_⟩⟩;exact qq c H5 (Fe (sm'.trans sc) s5 (sm'.free hc)) nt5 C5
end
section
variable {P:Program} {w:World} {K:PySem.W.Frag} {mg:Str→Option Value} {base:Heap} {t:Adr}
theorem oq (T:Txt w K mg t):Kb P w K mg base CX0 1 t.Gc t.Vc ["self"] (Gn t):=by
 refine T.Pk.ok Wo (fun vs H Q E h=>?_) (fun _ _ _ s H vs Q E hr h=>?_)
 ·obtain ⟨c,n,ds,rfl,_⟩:=h;rfl
 obtain ⟨c,n,ds,rfl,⟨⟨hnd,hdl⟩,dx,wl,nd,e1,⟨as,w1,w2,al⟩,e3⟩,q⟩:=h;refine ⟨_,(gb (Ob (yj rfl (Wd (Rc (pv 0) rfl)) (Ud (sc:=ib bg) rfl (by decide +kernel)) (N:=["way"]) (sel:=[none]) (Ie (M:=["self"]) (by decide +kernel)) (Blk.of (fun _ _ _ _=>(Ab (i:=0) (Li (N:=["way"]) (by decide +kernel) rfl))) (fun _ _ _ _=>⟨_,ui,by walk_at "B"⟩) (fun _ _ _ _=>⟨_,(Rc (pv 0) rfl),by walk_at "B"⟩))))),?_⟩;walk_at "RD";refine ⟨_,VI T e1,_,rfl,⟨_,SqL.of w1⟩,?_⟩;refine Zd.list_zs (xs:=as.map V.ref) (zs:=Pb (ds.map (·.name))) (SqL.of w1) (by rw [List.length_map,w2];exact Nat.le_trans hdl (by decide)) (by rw [Nn,List.length_map,List.length_map,w2]) (fun i v z N hv hz' hN=>?_) (fun p hp=>q p hp);obtain ⟨a,ha,rfl⟩:=lc hv;obtain ⟨x,hx,rfl⟩:=lc hz';obtain ⟨d,hd,rfl⟩:=lc hx;walk_at "RD";exact ⟨Sub.name,_,(al i a d ha hd).f_name T,hN⟩
end
end My
namespace My
open PySem L2
noncomputable def Qp (n s f p:Int):Bool:=decide (0 < (p - s) % n) && decide ((p - s) % n < (f - s) % n)
noncomputable def SK (n s f s2 f2:Int):Bool:=decide (f=f2) || (if (s2=s∨s2=f)∨(f2=s∨f2=f) then false else (Qp n s f s2 != Qp n s f f2))
noncomputable abbrev mt (n:Int) (d e:WD):Bool:=SK n d.start d.fin e.start e.fin
noncomputable def HI (t:Adr):Sp:=fun vs H Q _=>∃ a d n p,vs=[.int n,.ref a,.int p]∧Mf t H a d∧0 < n∧Q (.bl (Qp n d.start d.fin p)) H
noncomputable def AL (n:Int) (d e:WD):Bool:=if (e.start=d.start∨e.start=d.fin)∨(e.fin=d.start∨e.fin=d.fin) then false else (Qp n d.start d.fin e.start != Qp n d.start d.fin e.fin)
noncomputable def oE (t:Adr):Sp:=fun vs H Q _=>∃ a b d e n,vs=[.int n,.ref a,.ref b]∧Mf t H a d∧Mf t H b e∧0 < n∧NoT H∧Q (.bl (AL n d e)) H
noncomputable def RH (t:Adr):Sp:=fun vs H Q _=>∃ a b d e n,vs=[.int n,.ref a,.ref b]∧Mf t H a d∧Mf t H b e∧0 < n∧∀ H',dc H H'→Q (.bl (AL n d e)) H'
noncomputable def rF (t:Adr):Sp:=fun vs H Q _=>∃ c n ds,∃ i j:Nat,∃ d e,vs=[.ref c,.str d.name,.str e.name]∧ad t H c n ds∧0 < n∧ds[i]? = some d∧ds[j]? = some e∧NoT H∧Q (.bl (mt n d e)) H
section
variable {P:Program} {w:World} {K:PySem.W.Frag} {mg:Str→Option Value} {base:Heap} {t:Adr}
theorem jM (T:Txt w K mg t):Kb P w K mg base CX0 1 t.Vl t.ko q33 (HI t):=by
 refine T.Bq.ok xx (fun vs H Q E h=>?_) (fun _ _ _ s H vs Q E hr h=>?_)
 ·obtain ⟨a,d,n,p,rfl,_⟩:=h;rfl
 obtain ⟨a,d,n,p,rfl,W,hn,q⟩:=h;refine ⟨_,(db (Bb (i:=3) xx.nd (Vb zi (Vb gk (pv 2) (Rc (pv 1) rfl)) (pv 0)))
   (gb (Ob (ZH (Pf wt ub (pv 3) (Hc _)) (DA (Pf wt (pv 3) (Vb zi (Vb gk (Rc (pv 1) rfl) (Rc (pv 1) rfl)) (pv 0)) (Hc _))))))),?_⟩
 walk_at "RD";refine ⟨_,W.f_start T,_,rfl,hn,?_⟩;unfold Qp at q;by_cases c:0 < (p - d.start) % n
 ·rw [if_pos (decide_eq_true c)];rw [decide_eq_true c,Bool.true_and] at q;exact ⟨_,W.f_end T,_,W.f_start T,_,rfl,_,rfl,hn,q⟩
 ·rw [if_neg (by simpa using c)];rw [decide_eq_false c,Bool.false_and] at q;exact q
theorem gO (x a b:Int):inV (.int x) [.int a,.int b]=decide (x=a∨x=b):=by
 unfold inV;simp only [List.any_cons,List.any_nil,eqV,Bool.or_false];rw [Bool.eq_iff_iff];simp only [Bool.or_eq_true,beq_iff_eq,decide_eq_true_eq];omega
theorem CK (T:Txt w K mg t):Kb P w K mg base CX0 2 t.rg t.Bh q21 (oE t):=by
 refine Kb.forget (sp:=RH t) ?_ fun vs H Q E h=>?_
 ·have g33:Kb P w K mg base CX0 1 t.Vl t.ko q33 (HI t):=jM T;refine T.El.ok uv (fun vs H Q E h=>?_) (fun _ _ _ s H vs Q E hr h=>?_)
  ·obtain ⟨a,b,d,e,n,rfl,_⟩:=h;rfl
  obtain ⟨a,b,d,e,n,rfl,Wa,Wb,hn,q⟩:=h;refine ⟨_,(db (Kf (PW.pt (MD (zc mo (Rc (pv 2) rfl) (Hg (bb (Rc (pv 1) rfl) (bb (Rc (pv 1) rfl) fb))) (by with_unfolding_all rfl)) (qx (zc mo (Rc (pv 2) rfl) (Hg (bb (Rc (pv 1) rfl) (bb (Rc (pv 1) rfl) fb))) (by with_unfolding_all rfl))))) (gb (Ob wy)) Kc)
   (gb (Ob (Pf KC (Db g33 hr T.Mz T.Bq.kp T.FA (bb (pv 0) (bb (pv 1) (bb (Rc (pv 2) rfl) fb)))) (Db g33 hr T.Mz T.Bq.kp T.FA (bb (pv 0) (bb (pv 1) (bb (Rc (pv 2) rfl) fb)))) (Hc _))))),?_⟩
  walk_at "RD";refine qk (fun b H'=>dc H H'∧b=decide ((e.start=d.start∨e.start=d.fin)∨(e.fin=d.start∨e.fin=d.fin))) (fun Q hQ=>?_) (fun H' ⟨sm,hb⟩=>?_) (fun H' ⟨sm,hb⟩=>?_)
  ·walk_at "RD";refine ⟨_,Wb.f_start T,_,Wa.f_start T,_,Wa.f_end T,by decide,fun p hp=>⟨_,.inl (SqL.of cb),rfl,rfl,?_⟩⟩;have s1:dc H (upd H p (.lst [.int d.start,.int d.fin])):=jb hp;rw [gO];by_cases c1:e.start=d.start∨e.start=d.fin
   ·rw [if_pos (decide_eq_true c1)];exact hQ _ _ ⟨s1,(decide_eq_true (.inl c1)).symm⟩
   ·rw [if_neg (by simpa using c1)];refine ⟨_,(Wb.same s1).f_end T,_,(Wa.same s1).f_start T,_,(Wa.same s1).f_end T,by decide,fun p2 hp2=>⟨_,.inl (SqL.of cb),rfl,rfl,?_⟩⟩;rw [gO];refine hQ _ _ ⟨s1.trans (jb hp2),?_⟩;rw [Bool.eq_iff_iff,decide_eq_true_eq,decide_eq_true_eq];exact ⟨.inr,fun z=>z.resolve_left c1⟩
  ·walk_at "RD";have hb':=of_decide_eq_true hb.symm;have:=q H' sm;unfold AL at this;rw [if_pos hb'] at this;exact this
  ·walk_at "RD";have hb':=of_decide_eq_false hb.symm;refine ⟨_,(Wb.same sm).f_start T,⟨a,d,n,_,rfl,Wa.same sm,hn,?_⟩⟩;refine ⟨_,(Wb.same sm).f_end T,⟨a,d,n,_,rfl,Wa.same sm,hn,?_⟩⟩;refine ⟨rfl,?_⟩;have:=q H' sm;unfold AL at this;rw [if_neg hb'] at this;rw [show (!decide (V.bl (Qp n d.start d.fin e.start)=V.bl (Qp n d.start d.fin e.fin)))=(Qp n d.start d.fin e.start != Qp n d.start d.fin e.fin) by
    cases Qp n d.start d.fin e.start <;> cases Qp n d.start d.fin e.fin <;> rfl]
   exact this
 ·obtain ⟨a,b,d,e,n,h1,h2,h3,h4,nt,q⟩:=h;exact ⟨nt,a,b,d,e,n,h1,h2,h3,h4,fun H' sm=>⟨sm,q⟩⟩
theorem QN (n:Int) (d e:WD):mt n d e=(decide (d.fin=e.fin) || AL n d e):=rfl
theorem aK (T:Txt w K mg t):Kb P w K mg base CX0 3 t.Hu t.Tx q13 (rF t):=by
 have g12:Kb P w K mg base CX0 2 t.bc t.Jc q9 (Qj t):=ul T;have g50:Kb P w K mg base CX0 2 t.rg t.Bh q21 (oE t):=CK T;refine T.kF.ok cz (fun vs H Q E h=>?_) (fun _ _ _ s H vs Q E hr h=>?_)
 ·obtain ⟨c,n,ds,i,j,d,e,rfl,_⟩:=h;rfl
 obtain ⟨c,n,ds,i,j,d,e,rfl,C,hn,hd,he,nt,q⟩:=h;obtain ⟨_,dx,wl,nd,e1,e2,e3⟩:=id C;refine ⟨_,(db (Bb (i:=3) cz.nd (bd (pv 0) T.ac T.jd g12 hr T.md .nil Hd (bb (pv 1) fb)))
   (db (Bb (i:=4) cz.nd (bd (pv 0) T.ac T.jd g12 hr T.md .nil Hd (bb (pv 2) fb)))
   (gb (Ob (bM (Pf Mi (Rc (pv 3) rfl) (Rc (pv 4) rfl) (Hc _)) (DA (Db g50 hr T.Vw T.El.kp T.Ix (bb (Rc (pv 0) rfl) (bb (pv 3) (bb (pv 4) fb)))))))))),?_⟩
 rw [QN] at q;walk_at "RD";refine ⟨_,_,e1,JA _ _ _ (by decide +kernel),⟨c,n,ds,i,d,rfl,C,hd,fun a Wa=>?_⟩⟩;walk_at "RD";refine ⟨_,_,e1,JA _ _ _ (by decide +kernel),⟨c,n,ds,j,e,rfl,C,he,fun b Wb=>?_⟩⟩;walk_at "RD";refine ⟨_,Wa.f_end T,_,Wb.f_end T,rfl,?_⟩;walk_at "RD";by_cases c1:d.fin=e.fin
 ·rw [if_pos (decide_eq_true c1)];rw [decide_eq_true c1,Bool.true_or] at q;exact q
 ·rw [if_neg (by simpa using c1)];rw [decide_eq_false c1,Bool.false_or] at q;exact ⟨_,uG T e1,⟨a,b,d,e,n,rfl,Wa,Wb,hn,nt,q⟩⟩
end
noncomputable def zI (t:Adr):Sp:=fun vs H Q _=>∃ c n ds,∃ i j:Nat,∃ d e,vs=[.ref c,.str d.name,.str e.name]∧ad t H c n ds∧ds[i]? = some d∧ds[j]? = some e∧Q (.int (if d.off - e.near > 0 then d.off - e.near else 0)) H
section
variable {P:Program} {w:World} {K:PySem.W.Frag} {mg:Str→Option Value} {base:Heap} {t:Adr}
theorem EM (T:Txt w K mg t):Kb P w K mg base CX0 3 t.pC t.iG q13 (zI t):=by
 have g12:Kb P w K mg base CX0 2 t.bc t.Jc q9 (Qj t):=ul T;refine T.CJ.ok RF (fun vs H Q E h=>?_) (fun _ _ _ s H vs Q E hr h=>?_)
 ·obtain ⟨c,n,ds,i,j,d,e,rfl,_⟩:=h;rfl
 obtain ⟨c,n,ds,i,j,d,e,rfl,C,hd,he,q⟩:=h;obtain ⟨_,dx,wl,nd,e1,e2,e3⟩:=id C;refine ⟨_,(db (Bb (i:=3) RF.nd (bd (pv 0) T.ac T.jd g12 hr T.md .nil Hd (bb (pv 1) fb)))
   (db (Bb (i:=4) RF.nd (bd (pv 0) T.ac T.jd g12 hr T.md .nil Hd (bb (pv 2) fb)))
   (gb (Ob (fc (Bx rfl) rfl T.mL iu (bb ub (bb (Vb gk (Rc (pv 3) rfl) (Rc (pv 4) rfl)) fb))))))),?_⟩
 walk_at "RD";refine ⟨_,_,e1,JA _ _ _ (by decide +kernel),⟨c,n,ds,i,d,rfl,C,hd,fun a Wa=>?_⟩⟩;walk_at "RD";refine ⟨_,_,e1,JA _ _ _ (by decide +kernel),⟨c,n,ds,j,e,rfl,C,he,fun b Wb=>?_⟩⟩;walk_at "RD";refine ⟨_,Wa.f_off T,_,Wb.f_near T,?_⟩;walk_at "RD";exact q
end
end My
namespace My
open PySem L2
structure SD where
 name:Str
 b:Int
 n:Int
noncomputable def sdO (d:SD):HO:=.tup [.str d.name,.int d.b,.int d.n]
noncomputable def prO (p:Int × Int):HO:=.tup [.int p.1,.int p.2]
noncomputable def ofN (x:Str) (sp:List SD):List (Int × Int):=(sp.filter fun d=>decide (d.name=x)).map fun d=>(d.b,d.n)
noncomputable def LQ (H:Hp) (qs:List Addr) (os:List HO):Prop:=qs.length=os.length∧∀ (i:Nat) (q:Addr) (o:HO),qs[i]? = some q→os[i]? = some o→H q=some o
noncomputable def LO (H:Hp) (p:Addr) (os:List HO):Prop:=∃ qs:List Addr,H p=some (.lst (qs.map V.ref))∧LQ H qs os
theorem LQ.same {H H':Hp} {qs:List Addr} {os:List HO} (h:LQ H qs os) (s:dc H H'):LQ H' qs os:=⟨h.1,fun i q o h1 h2=>s _ _ (h.2 i q o h1 h2)⟩
theorem LO.same {H H':Hp} {p:Addr} {os:List HO} (h:LO H p os) (s:dc H H'):LO H' p os:=by
 obtain ⟨qs,e,q⟩:=h;exact ⟨qs,s _ _ e,q.same s⟩
theorem LQ.nil (H:Hp):LQ H [] []:=⟨rfl,fun i q o h _=>by simp at h⟩
theorem LQ.app {H:Hp} {qs qs':List Addr} {os os':List HO} (h:LQ H qs os) (h':LQ H qs' os'):LQ H (qs ++ qs') (os ++ os'):=by
 refine ⟨by rw [List.length_append,List.length_append,h.1,h'.1],fun i q r h1 h2=>?_⟩;rw [List.getElem?_append] at h1 h2;rw [h.1] at h1;by_cases c:i < os.length
 ·rw [if_pos c] at h1 h2;exact h.2 i q r h1 h2
 ·rw [if_neg c] at h1 h2;exact h'.2 _ q r h1 h2
theorem LQ.one {H:Hp} {p:Addr} {o:HO} (e:H p=some o):LQ H [p] [o]:=⟨rfl,fun i q r' h1 h2=>by
 match i,h1,h2 with
 | 0,h1,h2=>cases h1;cases h2;exact e
 | i + 1,h1,_=>simp at h1⟩
theorem LQ.at {H:Hp} {qs:List Addr} {os:List HO} (h:LQ H qs os) {i:Nat} {q:Addr} (hq:qs[i]? = some q):∃ o,os[i]? = some o∧H q=some o:=by
 have hi:i < os.length:=by rw [← h.1];exact (List.getElem?_eq_some_iff.mp hq).1
 exact ⟨_,List.getElem?_eq_getElem hi,h.2 i q _ hq (List.getElem?_eq_getElem hi)⟩
theorem OA (x:Str) (sp:List SD) (d:SD):ofN x (sp ++ [d])=ofN x sp ++ if d.name=x then [(d.b,d.n)] else []:=by
 unfold ofN;rw [List.filter_append,List.map_append];congr 1;by_cases c:d.name=x
 ·rw [if_pos c,List.filter_cons_of_pos (by simpa using c)];rfl
 ·rw [if_neg c,List.filter_cons_of_neg (by simpa using c)];rfl
theorem fz (x:Str) (sp:List SD):(ofN x sp).length ≤ sp.length:=by
 unfold ofN;rw [List.length_map];exact List.length_filter_le _ _
theorem Pe {α:Type} {xs:List α} {i:Nat} {x:α} (h:xs[i]? = some x):xs.take (i + 1)=xs.take i ++ [x]:=by
 rw [List.take_add_one,h];rfl
noncomputable def DK {α:Type} (z:Int) (v:α) (l:List α) (i:Int):List α:=l.set (i % z).toNat v
noncomputable def uA {α:Type} (z:Int) (v:α) (b:Int):Nat→List α→List α
 | 0,l=>l
 | k + 1,l=>DK z v (uA z v b k l) (b + k)
noncomputable def tz {α:Type} (z:Int) (v:α) (b:Int):Nat→List α→List α
 | 0,l=>l
 | k + 1,l=>DK z v (tz z v b k l) (b - 1 - k)
theorem kB {α:Type} (z:Int) (v:α) (l:List α) (i:Int):(DK z v l i).length=l.length:=by unfold DK;rw [List.length_set]
theorem kj {α:Type} (z:Int) (v:α) (b:Int) (k:Nat) (l:List α):(uA z v b k l).length=l.length:=by
 induction k with
 | zero=>rfl
 | succ k ih=>unfold uA;rw [kB,ih]
theorem Tn {α:Type} (z:Int) (v:α) (b:Int) (k:Nat) (l:List α):(tz z v b k l).length=l.length:=by
 induction k with
 | zero=>rfl
 | succ k ih=>unfold tz;rw [kB,ih]
noncomputable def fmF (z:Nat) (ps:List (Int × Int)):List Bool:=ps.foldl (fun l p=>uA z true p.1 p.2.toNat l) (List.replicate z false)
noncomputable def CG (z rd fd:Nat) (l:List Str) (p:Int × Int):List Str:=uA z (Str.ofString "fade") (p.1 + p.2) fd (uA z (Str.ofString "free") p.1 p.2.toNat (tz z (Str.ofString "ready") p.1 rd l))
noncomputable def ml (z rd fd:Nat) (ps:List (Int × Int)):List Str:=ps.foldl (CG z rd fd) (List.replicate z (Str.ofString "stop"))
theorem sJ {z:Nat} {ps:List (Int × Int)} {i:Nat} {p:Int × Int} (h:ps[i]? = some p):fmF z (ps.take (i + 1))=uA z true p.1 p.2.toNat (fmF z (ps.take i)):=by
 unfold fmF;rw [Pe h,List.foldl_append];rfl
theorem mD {z rd fd:Nat} {ps:List (Int × Int)} {i:Nat} {p:Int × Int} (h:ps[i]? = some p):ml z rd fd (ps.take (i + 1))=CG z rd fd (ml z rd fd (ps.take i)) p:=by
 unfold ml;rw [Pe h,List.foldl_append];rfl
theorem bp (z:Nat) (ps:List (Int × Int)):(fmF z ps).length=z:=by
 unfold fmF
 suffices h:∀ l:List Bool,l.length=z→(ps.foldl (fun l p=>uA z true p.1 p.2.toNat l) l).length=z from h _ (List.length_replicate ..)
 induction ps with
 | nil=>exact fun l h=>h
 | cons p ps ih=>exact fun l h=>ih _ (by rw [kj];exact h)
theorem Jn (z rd fd:Nat) (ps:List (Int × Int)):(ml z rd fd ps).length=z:=by
 unfold ml
 suffices h:∀ l:List Str,l.length=z→(ps.foldl (CG z rd fd) l).length=z from h _ (List.length_replicate ..)
 induction ps with
 | nil=>exact fun l h=>h
 | cons p ps ih=>exact fun l h=>ih _ (by unfold CG;rw [kj,kj,Tn];exact h)
noncomputable def aJ (z:Int) (sp:List SD):Prop:=sp.length ≤ 100∧∀ d ∈ sp,0 ≤ d.b∧d.b < 1000∧0 ≤ d.n∧d.n < 1000
theorem EE {x:Str} {sp:List SD} {p:Int × Int} (h:p ∈ ofN x sp):∃ d ∈ sp,d.name=x∧p=(d.b,d.n):=by
 unfold ofN at h;obtain ⟨d,hd,rfl⟩:=List.mem_map.mp h;have:=List.mem_filter.mp hd;exact ⟨d,this.1,by simpa using this.2,rfl⟩
theorem MK {m:Nat} (h:0 < m) (i:Int):ixN m (i % (m:Int))=some (i % (m:Int)).toNat:=by
 have h1:=Int.emod_nonneg i (show (m:Int) ≠ 0 by omega);have h2:=Int.emod_lt_of_pos i (show 0 < (m:Int) by omega);unfold ixN;rw [if_pos h1,if_pos h2]
theorem YA {α β:Type} (f:α→β) {l:List α} {z:Nat} (h:l.length=z) (hz:0 < z) (i:Int):ixN (l.map f).length (i % (z:Int))=some (i % (z:Int)).toNat:=by
 rw [List.length_map,h];exact MK hz i
theorem iF (d:WD):0 ≤ Ce d∧Ce d ≤ 2:=by
 unfold Ce;split <;> omega
theorem lH {d:WD} (h:0 ≤ d.off∧d.off ≤ 1000):0 ≤ Jh d∧Jh d ≤ 1000:=by
 unfold Jh;split <;> omega
theorem RM {d:WD} {m:Str} (h:zt.contains m=false):(Pp d).lookup m=none:=vo zt (qu _) h
noncomputable def Mg (l:List Bool):List V:=l.map V.bl
theorem uq {α β:Type} (f:α→β) (z:Int) (v:α) (l:List α) (i:Int):(l.map f).set (i % z).toNat (f v)=(DK z v l i).map f:=by
 unfold DK;rw [List.map_set]
noncomputable def Co:Sp:=fun vs H Q _=>∃ p x sp,vs=[.ref p,.str x]∧LO H p (List.map sdO sp)∧sp.length ≤ 100∧∀ r H',dc H H'→(NoT H→NoT H')→LO H' r ((ofN x sp).map prO)→Q (.ref r) H'
noncomputable def oK:Sp:=fun vs H Q _=>∃ (z:Nat) (p:Addr) (x:Str) (sp:List SD),vs=[.int z,.ref p,.str x]∧(0 < z∧z ≤ 1000)∧LO H p (List.map sdO sp)∧aJ z sp∧∀ r H',dc H H'→(NoT H→NoT H')→H r=none→H' r=some (.lst (Mg (fmF z (ofN x sp))))→Q (.ref r) H'
noncomputable def vE (t:Adr):Sp:=fun vs H Q _=>∃ (a:Addr) (d:WD) (z:Nat) (p:Addr) (sp:List SD),vs=[.ref a,.int z,.ref p]∧(0 < z∧z ≤ 1000)∧Mf t H a d∧LO H p (List.map sdO sp)∧aJ z sp∧(0 ≤ d.off∧d.off ≤ 1000)∧∀ r H',dc H H'→(NoT H→NoT H')→H r=none→H' r=some (.lst (Pb (ml z (Ce d).toNat (Jh d).toNat (ofN d.name sp))))→Q (.ref r) H'
noncomputable def Gg (m:List Bool):Nat→Int
 | 0=>0
 | k + 1=>if m[(2 * m.length - 1 - k) % m.length]? = some true then 0 else Gg m k + 1
noncomputable def Pn (m:List Bool):List Int:=(List.range m.length).map fun t=>Gg m (2 * m.length - t)
noncomputable def uu (m:List Bool) (k:Nat):List Int:=(List.range k).map fun j=>Gg m (m.length + j + 1)
theorem jC (m:List Bool):(uu m m.length).reverse=Pn m:=by
 unfold uu Pn;refine List.ext_getElem (by simp) (fun i h1 h2=>?_);simp at h1;simp;congr 1;omega
noncomputable def Eu (m:List Bool):List Int:=(Pn m.reverse).reverse
noncomputable def Xv:Sp:=fun vs H Q _=>∃ (p:Addr) (m:List Bool),vs=[.ref p]∧H p=some (.lst (Mg m))∧(0 < m.length∧m.length ≤ 1000)∧∀ r H',dc H H'→(NoT H→NoT H')→H r=none→H' r=some (.lst ((Pn m).map V.int))→Q (.ref r) H'
noncomputable def qA:Sp:=fun vs H Q _=>∃ (p:Addr) (m:List Bool),vs=[.ref p]∧H p=some (.lst (Mg m))∧(0 < m.length∧m.length ≤ 1000)∧∀ r H',dc H H'→(NoT H→NoT H')→H r=none→H' r=some (.lst ((Eu m).map V.int))→Q (.ref r) H'
section
variable {P:Program} {w:World} {K:PySem.W.Frag} {mg:Str→Option Value} {base:Heap} {t:Adr}
theorem Gs (T:Txt w K mg t):Kb P w K mg base CX0 1 t.Ze t.Lf q10 Co:=by
 refine T.kh.ok Xy (fun vs H Q E h=>?_) (fun _ _ _ s H vs Q E hr h=>?_)
 ·obtain ⟨p,x,sp,rfl,_⟩:=h;rfl
 obtain ⟨p,x,sp,rfl,⟨qs,l1,lq⟩,hl,q⟩:=h;refine ⟨_,(gb (Ob (yj rfl (Wd (pv 0)) (Ud (sc:=ib dm) rfl (by decide +kernel)) (N:=q47) (sel:=[none,none,none,some 1]) (Ie (M:=q10) (by decide +kernel)) (Blk.of (fun _ _ _ _=>(Fg (K:=K) (n:=3) rfl rfl (Ub (Ab (i:=0) (Li (N:=q47) (by decide +kernel) rfl)) (Ub (Ab (i:=1) (Li (N:=q47) (by decide +kernel) rfl)) (Ub (Ab (i:=2) (Li (N:=q47) (by decide +kernel) rfl)) Dg))))) (fun _ _ _ _=>⟨_,(Hv (zc Mi (pv 0) (pv 3) (Hc _))),by walk_at "B"⟩) (fun _ _ _ _=>⟨_,(mj (bb (pv 1) (bb (pv 2) fb))),by walk_at "B"⟩))))),?_⟩;walk_at "RD";have hql:qs.length=sp.length:=by rw [lq.1,List.length_map]
 refine ⟨⟨_,SqL.of l1⟩,?_⟩;refine Zd.list (xs:=qs.map V.ref) (fun i ys H'=>∃ os:List Addr,ys=os.map V.ref∧LQ H' os ((ofN x (sp.take i)).map prO)∧dc H H'∧(NoT H→NoT H')) (Nat.le_trans (show (qs.map V.ref).length ≤ 100 by rw [List.length_map];omega) (by decide)) ⟨[],rfl,LQ.nil _,dc.refl _,id⟩ ?_ ?_ ?_
 ·rintro i ys H' hi zzq;refine zP fun zzM zzh=>?_
  obtain ⟨os,rfl,r,sm,_⟩:=zzq;subst zzh;refine ⟨(SqL.of l1).same sm,?_⟩;rw [List.length_map,r.1,List.length_map];exact Nat.le_trans (fz _ _) (by rw [List.length_take];omega)
 ·rintro i v ys H' hv ⟨os,rfl,r,sm,nt⟩ N hN;obtain ⟨qi,hqi,rfl⟩:=lc hv;obtain ⟨o,ho,e⟩:=lq.at hqi;obtain ⟨d,hd,rfl⟩:=lc ho;have e':=sm _ _ e;walk_at "RD";refine ⟨_,SqT.of e',rfl,_,_,rfl,_,_,rfl,_,_,rfl,rfl,Sub.name3,rfl,?_⟩;dsimp only at hN;rw [Pe hd,OA,List.map_append] at hN;by_cases c:d.name=x
  ·rw [if_pos c] at hN;rw [if_pos (by rw [c];exact decide_eq_true rfl)];refine ⟨by decide,fun p1 hp1=>hN _ _ ⟨os ++ [p1],by rw [List.map_append];rfl,(r.same (jb hp1)).app (LQ.one cb),sm.trans (jb hp1),fun n=>(nt n).upd⟩⟩
  ·rw [if_neg c] at hN;rw [if_neg (by rw [decide_eq_true_eq];intro z;exact c (V.str.inj z))];exact hN _ _ ⟨os,rfl,by rw [List.map_nil,List.append_nil];exact r,sm,nt⟩
 ·rintro ys H' ⟨os,rfl,r,sm,nt⟩ p1 hp1;rw [List.take_of_length_le (by rw [List.length_map];omega)] at r;exact q _ _ (sm.trans (jb hp1)) (fun n=>(nt n).upd) ⟨os,cb,r.same (jb hp1)⟩
theorem CM (T:Txt w K mg t):Kb P w K mg base CX0 2 t.Cf t.og q24 oK:=by
 have g13:Kb P w K mg base CX0 1 t.Ze t.Lf q10 Co:=Gs T;refine T.Qi.ok Ag (fun vs H Q E h=>?_) (fun _ _ _ s H vs Q E hr h=>?_)
 ·obtain ⟨z,p,x,sp,rfl,_⟩:=h;rfl
 obtain ⟨z,p,x,sp,rfl,hz,L,hs,q⟩:=h;refine ⟨_,(db (am (i:=3) Ag.nd rfl (Or.inl rfl) rfl (Re rfl T.Ng (bb (pv 0) fb)) (Ud (sc:=ib Wi) rfl (by decide +kernel)) (N:=["turn"]) (sel:=[none]) (Ie (M:=["size","spans","name","marks","begin","turns","step"]) (by decide +kernel)) (Blk.of (fun _ _ _ _=>(Ab (i:=0) (Li (N:=["turn"]) (by decide +kernel) rfl))) (fun _ _ _ _=>⟨_,ui,by walk_at "B"⟩) (fun _ _ _ _=>⟨_,wy,by walk_at "B"⟩)) rfl)
   (db (se PassesOwn.never rfl (Wd (Db g13 hr T.Wj T.kh.kp T.Tj (bb (pv 1) (bb (pv 2) fb)))) (Fg (K:=K) (n:=2) rfl rfl (Ub (Ab (i:=4) Ag.nd) (Ub (Ab (i:=5) Ag.nd) Dg))) (gb (se PassesOwn.never rfl (Re rfl T.Ng (bb (pv 5) fb)) (Ab (i:=6) Ag.nd) (gb (du wy (oB (pv 3) (Vb zi (Vb ke (pv 4) (pv 6)) (pv 0)) Gq))))))
   (gb (Ob (pv 3))))),?_⟩
 walk_at "RD";obtain ⟨hz0,hz1⟩:=hz;obtain ⟨hs1,hs2⟩:=hs;refine ⟨by omega,by omega,?_⟩;refine Zd.range_map (fun _=>V.bl false) (Nat.le_trans (show (z:Int).toNat ≤ 1000 by omega) (by decide)) (fun i N hi hN=>?_) (fun mk hmk=>?_)
 ·walk_at "RD";exact ⟨Sub.name,hN⟩
 rw [show (List.range (z:Int).toNat).map (fun _=>V.bl false)=Mg (fmF z []) by
  unfold Mg fmF;rw [List.foldl_nil,List.map_replicate];exact List.ext_getElem (by simp) (by simp)]
 refine ⟨p,x,sp,rfl,L.same (jb hmk),hs1,fun r H1 s1 nt1 L1=>⟨r,rfl,?_⟩⟩;obtain ⟨qs,l1,lq⟩:=L1;refine ⟨⟨_,SqL.of l1⟩,?_⟩;have hmk1:H1 mk=some (.lst (Mg (fmF z []))):=s1 _ _ cb;have hrm:r ≠ mk:=fun e=>by
  subst e;rw [l1] at hmk1;injection hmk1 with e1;injection e1 with e2;have e3:=congrArg List.length e2;cases qs with
  | nil=>simp [Mg,bp] at e3;omega
  | cons a qs=>
   have:(Mg (fmF z []))[0]? = some (V.ref a):=by rw [← e2];rfl
   unfold Mg at this;rw [List.getElem?_map] at this;cases hh:(fmF z [])[0]? with
   | none=>rw [hh] at this;cases this
   | some b=>rw [hh] at this;cases this
 refine uj.list (xs:=qs.map V.ref) (fun i σ H'=>(∃ a b c,σ=[some (V.int z),some (V.ref p),some (V.str x),some (V.ref mk),a,b,c])∧Qc mk H1 H'∧(NoT H→NoT H')∧H' mk=some (.lst (Mg (fmF z ((ofN x sp).take i))))) ?_ ?_ ?_ ?_
 ·exact ⟨⟨_,_,_,rfl⟩,fun b u _ e=>e,fun n=>nt1 n.upd,hmk1⟩
 ·rintro i σ H' hi zzq;refine zP fun zzM zzh=>?_
  obtain ⟨_,sx,_,_⟩:=zzq;subst zzh;exact SqL.of (sx _ _ hrm l1)
 ·rintro i v σ H' hv zzq;refine zP fun zzM zzh=>?_
  obtain ⟨⟨a,b,c,rfl⟩,sx,nt',hm⟩:=zzq;obtain ⟨qi,hqi,rfl⟩:=lc hv;obtain ⟨o,ho,e⟩:=lq.at hqi;obtain ⟨d,hd,rfl⟩:=lc ho;obtain ⟨sd,hsd,hsn,rfl⟩:=EE (List.mem_of_getElem? hd);have hb:=hs2 sd hsd;have e':=sx _ _ (kf e hmk1 (by intro z;cases z)) e;subst zzh;walk_at "RD";refine ⟨_,SqT.of e',rfl,_,_,rfl,_,_,rfl,rfl,_,rfl,(by dsimp only;omega),(by dsimp only;omega),?_⟩;rw [sJ hd];refine uj.range (fun k σ H'=>(∃ c,σ=[some (V.int z),some (V.ref p),some (V.str x),some (V.ref mk),some (V.int sd.b),some (V.int sd.n),c])∧Qc mk H1 H'∧(NoT H→NoT H')∧H' mk=some (.lst (Mg (uA z true sd.b k (fmF z ((ofN x sp).take i)))))) ?_ ?_ ?_
  ·exact ⟨⟨_,rfl⟩,sx,nt',hm⟩
  ·rintro k σ H2 hk zzq;refine zP fun zzM zzh=>?_
   obtain ⟨⟨c,rfl⟩,sx2,nt2,hm2⟩:=zzq;subst zzh;walk_at "RD";refine ⟨by omega,_,hm2,_,YA V.bl (by rw [kj,bp]) hz0 _,⟨_,rfl⟩,fun b u hb e=>by rw [rb hb];exact sx2 _ _ hb e,fun n=>(nt2 n).upd,?_⟩;rw [cb];unfold Mg;rw [uq V.bl];rfl
  ·rintro σ H2 zzq;refine zP fun zzM zzh=>?_
   obtain ⟨⟨c,rfl⟩,sx2,nt2,hm2⟩:=zzq;subst zzh;exact ⟨⟨_,_,_,rfl⟩,sx2,nt2,hm2⟩
 ·rintro σ H' zzq;refine zP fun zzM zzh=>?_
  obtain ⟨⟨a,b,c,rfl⟩,sx,nt',hm⟩:=zzq;subst zzh;walk_at "RD";rw [List.take_of_length_le (by rw [List.length_map,lq.1,List.length_map];exact Nat.le_refl _)] at hm;exact q _ _ (Fe ((jb hmk).trans s1) sx hmk) nt' hmk hm
theorem rK (T:Txt w K mg t):Kb P w K mg base CX0 2 t.Ju t.Jw q34 (vE t):=by
 have g13:Kb P w K mg base CX0 1 t.Ze t.Lf q10 Co:=Gs T;have V_Way_ready:qG P w K mg base CX0 1 (isW t) "ready" ["self"] (ik t):=KF T;have V_Way_fade:qG P w K mg base CX0 1 (isW t) "fade" ["self"] (Tl t):=XI T;refine T.zE.ok Fm (fun vs H Q E h=>?_) (fun _ _ _ s H vs Q E hr h=>?_)
 ·obtain ⟨a,d,z,p,sp,rfl,_⟩:=h;rfl
 obtain ⟨a,d,z,p,sp,rfl,⟨hz0,hz1⟩,W,L,⟨hs1,hs2⟩,hoff,q⟩:=h;refine ⟨_,(db (am (i:=3) Fm.nd rfl (Or.inl rfl) rfl (Re rfl T.Ng (bb (pv 1) fb)) (Ud (sc:=ib vA) rfl (by decide +kernel)) (N:=["turn"]) (sel:=[none]) (Ie (M:=["way","size","spans","shown","begin","turns","step"]) (by decide +kernel)) (Blk.of (fun _ _ _ _=>(Ab (i:=0) (Li (N:=["turn"]) (by decide +kernel) rfl))) (fun _ _ _ _=>⟨_,ui,by walk_at "B"⟩) (fun _ _ _ _=>⟨_,qc,by walk_at "B"⟩)) rfl)
   (db (se PassesOwn.never rfl (Wd (Db g13 hr T.Wj T.kh.kp T.Tj (bb (pv 2) (bb (Rc (pv 0) rfl) fb)))) (Fg (K:=K) (n:=2) rfl rfl (Ub (Ab (i:=4) Fm.nd) (Ub (Ab (i:=5) Fm.nd) Dg))) (db (se PassesOwn.never rfl (Re rfl T.Ng (bb (wn (pv 0) V_Way_ready hr Hd) fb)) (Ab (i:=6) Fm.nd) (gb (du qc (oB (pv 3) (Vb zi (Vb gk (Vb gk (pv 4) ub) (pv 6)) (pv 1)) Gq))))
   (db (se PassesOwn.never rfl (Re rfl T.Ng (bb (pv 5) fb)) (Ab (i:=6) Fm.nd) (gb (du qc (oB (pv 3) (Vb zi (Vb ke (pv 4) (pv 6)) (pv 1)) Gq))))
   (gb (se PassesOwn.never rfl (Re rfl T.Ng (bb (wn (pv 0) V_Way_fade hr Hd) fb)) (Ab (i:=6) Fm.nd) (gb (du qc (oB (pv 3) (Vb zi (Vb ke (Vb ke (pv 4) (pv 5)) (pv 6)) (pv 1)) Gq))))))))
   (gb (Ob (pv 3))))),?_⟩
 walk_at "RD";refine ⟨by omega,by omega,?_⟩;refine Zd.range_map (fun _=>V.str (Str.ofString "stop")) (Nat.le_trans (show (z:Int).toNat ≤ 1000 by omega) (by decide)) (fun i N hi hN=>?_) (fun mk hmk=>?_)
 ·walk_at "RD";exact ⟨Sub.name,hN⟩
 rw [show (List.range (z:Int).toNat).map (fun _=>V.str (Str.ofString "stop"))=Pb (ml z (Ce d).toNat (Jh d).toNat []) by
  unfold Pb ml;rw [List.foldl_nil,List.map_replicate];exact List.ext_getElem (by simp) (by simp)]
 have hrd:=iF d;have hfd:=lH hoff;obtain ⟨dk,dx,hway⟩:=id W;have w0:∀ {H':Hp},Qc mk (upd H mk (.lst (Pb (ml z (Ce d).toNat (Jh d).toNat [])))) H'→H' a=some (.ins (t.cw d.k) dx (Pp d)):=fun sx=>sx _ _ (xb hway hmk) ((jb hmk) _ _ hway)
 refine ⟨_,(W.same (jb hmk)).f_name T,p,d.name,sp,rfl,L.same (jb hmk),hs1,fun r H1 s1 nt1 L1=>⟨r,rfl,?_⟩⟩;obtain ⟨qs,l1,lq⟩:=L1;refine ⟨⟨_,SqL.of l1⟩,?_⟩;have hmk1:H1 mk=some (.lst (Pb (ml z (Ce d).toNat (Jh d).toNat []))):=s1 _ _ cb;have hrm:r ≠ mk:=fun e=>by
  subst e;rw [l1] at hmk1;injection hmk1 with e1;injection e1 with e2;have e3:=congrArg List.length e2;cases qs with
  | nil=>simp [Pb,Jn] at e3;omega
  | cons a qs=>
   have:(Pb (ml z (Ce d).toNat (Jh d).toNat []))[0]? = some (V.ref a):=by rw [← e2];rfl
   unfold Pb at this;rw [List.getElem?_map] at this;cases hh:(ml z (Ce d).toNat (Jh d).toNat [])[0]? with
   | none=>rw [hh] at this;cases this
   | some b=>rw [hh] at this;cases this
 have wx:∀ {H':Hp},Qc mk H1 H'→Mf t H' a d:=fun sx=>⟨dk,dx,sx _ _ (xb hway hmk) (s1 _ _ ((jb hmk) _ _ hway))⟩
 refine uj.list (xs:=qs.map V.ref) (fun i σ H'=>(∃ a1 b c,σ=[some (V.ref a),some (V.int z),some (V.ref p),some (V.ref mk),a1,b,c])∧Qc mk H1 H'∧(NoT H→NoT H')∧H' mk=some (.lst (Pb (ml z (Ce d).toNat (Jh d).toNat ((ofN d.name sp).take i))))) ?_ ?_ ?_ ?_
 ·exact ⟨⟨_,_,_,rfl⟩,fun b u _ e=>e,fun n=>nt1 n.upd,hmk1⟩
 ·rintro i σ H' hi zzq;refine zP fun zzM zzh=>?_
  obtain ⟨_,sx,_,_⟩:=zzq;subst zzh;exact SqL.of (sx _ _ hrm l1)
 ·rintro i v σ H' hv zzq;refine zP fun zzM zzh=>?_
  obtain ⟨⟨a1,b,c,rfl⟩,sx,nt',hm⟩:=zzq;obtain ⟨qi,hqi,rfl⟩:=lc hv;obtain ⟨o,ho,e⟩:=lq.at hqi;obtain ⟨dd,hd,rfl⟩:=lc ho;obtain ⟨sd,hsd,hsn,rfl⟩:=EE (List.mem_of_getElem? hd);have hb:=hs2 sd hsd;have e':=sx _ _ (kf e hmk1 (by intro z;cases z)) e;have W1:=wx sx;obtain ⟨_,dx1,hw1⟩:=id W1;subst zzh;walk_at "RD";refine ⟨_,SqT.of e',rfl,_,_,rfl,_,_,rfl,rfl,_,_,_,hw1,⟨_,dk,rfl⟩,RM (by decide +kernel),_,d,rfl,W1,rfl,_,rfl,by omega,by omega,?_⟩;rw [mD hd];refine uj.range (fun k σ H'=>(∃ c,σ=[some (V.ref a),some (V.int z),some (V.ref p),some (V.ref mk),some (V.int sd.b),some (V.int sd.n),c])∧Qc mk H1 H'∧(NoT H→NoT H')∧H' mk=some (.lst (Pb (tz z (Str.ofString "ready") sd.b k (ml z (Ce d).toNat (Jh d).toNat ((ofN d.name sp).take i)))))) ?_ ?_ ?_
  ·exact ⟨⟨_,rfl⟩,sx,nt',hm⟩
  ·rintro k σ H2 hk zzq;refine zP fun zzM zzh=>?_
   obtain ⟨⟨c,rfl⟩,sx2,nt2,hm2⟩:=zzq;subst zzh;walk_at "RD";refine ⟨by omega,_,hm2,_,YA V.str (by rw [Tn,Jn]) hz0 _,⟨_,rfl⟩,fun b u hb e=>by rw [rb hb];exact sx2 _ _ hb e,fun n=>(nt2 n).upd,?_⟩;rw [cb];unfold Pb;rw [uq V.str];rfl
  rintro σ H2 zzq;refine zP fun zzM zzh=>?_
  obtain ⟨⟨c,rfl⟩,sx2,nt2,hm2⟩:=zzq;subst zzh;walk_at "RD";refine ⟨by omega,by omega,?_⟩;refine uj.range (fun k σ H'=>(∃ c,σ=[some (V.ref a),some (V.int z),some (V.ref p),some (V.ref mk),some (V.int sd.b),some (V.int sd.n),c])∧Qc mk H1 H'∧(NoT H→NoT H')∧H' mk=some (.lst (Pb (uA z (Str.ofString "free") sd.b k (tz z (Str.ofString "ready") sd.b (Ce d).toNat (ml z (Ce d).toNat (Jh d).toNat ((ofN d.name sp).take i))))))) ?_ ?_ ?_
  ·exact ⟨⟨_,rfl⟩,sx2,nt2,hm2⟩
  ·rintro k σ H2 hk zzq;refine zP fun zzM zzh=>?_
   obtain ⟨⟨c,rfl⟩,sx2,nt2,hm2⟩:=zzq;subst zzh;walk_at "RD";refine ⟨by omega,_,hm2,_,YA V.str (by rw [kj,Tn,Jn]) hz0 _,⟨_,rfl⟩,fun b u hb e=>by rw [rb hb];exact sx2 _ _ hb e,fun n=>(nt2 n).upd,?_⟩;rw [cb];unfold Pb;rw [uq V.str];rfl
  rintro σ H3 zzq;refine zP fun zzM zzh=>?_
  obtain ⟨⟨c,rfl⟩,sx3,nt3,hm3⟩:=zzq;have W3:=wx sx3;obtain ⟨_,dx3,hw3⟩:=id W3;subst zzh;walk_at "RD";refine ⟨_,_,_,hw3,⟨_,dk,rfl⟩,RM (by decide +kernel),_,d,rfl,W3,rfl,_,rfl,by omega,by omega,?_⟩;refine uj.range (fun k σ H'=>(∃ c,σ=[some (V.ref a),some (V.int z),some (V.ref p),some (V.ref mk),some (V.int sd.b),some (V.int sd.n),c])∧Qc mk H1 H'∧(NoT H→NoT H')∧H' mk=some (.lst (Pb (uA z (Str.ofString "fade") (sd.b + sd.n) k (uA z (Str.ofString "free") sd.b sd.n.toNat (tz z (Str.ofString "ready") sd.b (Ce d).toNat (ml z (Ce d).toNat (Jh d).toNat ((ofN d.name sp).take i)))))))) ?_ ?_ ?_
  ·exact ⟨⟨_,rfl⟩,sx3,nt3,hm3⟩
  ·rintro k σ H2 hk zzq;refine zP fun zzM zzh=>?_
   obtain ⟨⟨c,rfl⟩,sx2,nt2,hm2⟩:=zzq;subst zzh;walk_at "RD";refine ⟨by omega,_,hm2,_,YA V.str (by rw [kj,kj,Tn,Jn]) hz0 _,⟨_,rfl⟩,fun b u hb e=>by rw [rb hb];exact sx2 _ _ hb e,fun n=>(nt2 n).upd,?_⟩;rw [cb];unfold Pb;rw [uq V.str];rfl
  ·rintro σ H2 zzq;refine zP fun zzM zzh=>?_
   obtain ⟨⟨c,rfl⟩,sx2,nt2,hm2⟩:=zzq;subst zzh;exact ⟨⟨_,_,_,rfl⟩,sx2,nt2,hm2⟩
 ·rintro σ H' zzq;refine zP fun zzM zzh=>?_
  obtain ⟨⟨a1,b,c,rfl⟩,sx,nt',hm⟩:=zzq;subst zzh;walk_at "RD";rw [List.take_of_length_le (by rw [List.length_map,lq.1,List.length_map];exact Nat.le_refl _)] at hm;exact q _ _ (Fe ((jb hmk).trans s1) sx hmk) nt' hmk hm
theorem SA (T:Txt w K mg t):Kb P w K mg base CX0 1 t.re t.We ["marks"] Xv:=by
 refine T.rh.ok Ae (fun vs H Q E h=>?_) (fun _ _ _ s H vs Q E hr h=>?_)
 ·obtain ⟨p,m,rfl,_⟩:=h;rfl
 obtain ⟨p,m,rfl,hm,hl,q⟩:=h;refine ⟨_,(db (Bb (i:=1) Ae.nd (fc Lc rfl T.Zm Zc (bb (pv 0) fb)))
   (db (Bb (i:=2) Ae.nd ub)
   (db (Bb (i:=3) Ae.nd (Hg fb))
   (db (se PassesOwn.never rfl (UC rfl T.Ng (bb (Vb gk (Vb rn ub (pv 1)) ub) (bb (Nv Bn ub) (bb (Nv Bn ub) fb)))) (Ab (i:=4) Ae.nd) (db (Bb (i:=2) Ae.nd (eA (Wk (xc ae (pv 0) (Vb zi (pv 4) (pv 1)))) ub (Vb ke (pv 2) ub)))
   (gb (Kf (zc wt (pv 4) (pv 1) (Hc _)) (gb (Ic (Mo PySem.F.plainAttrs_list PySem.F.slot_list_append PySem.F.type_list_append Dh (pv 3) (bb (pv 2) fb)))) Kc))))
   (gb (Ob (xo rfl rfl T.cB rfl T.Io (bb (pv 3) fb)))))))),?_⟩
 walk_at "RD";refine ⟨_,.inl (SqL.of hm),Nat.zero_le _,fun u hu=>?_⟩;have hbl:(Mg m).length=m.length:=by unfold Mg;rw [List.length_map]
 rw [hbl];refine ⟨by unfold JC;omega,by omega,by omega,by omega,by omega,?_⟩;have hun:p ≠ u:=xb hm hu;refine uj.of (n:=2 * m.length) (fun k σ H'=>(∃ x,σ=[some (V.ref p),some (V.int m.length),some (V.int (Gg m k)),some (V.ref u),x])∧Qc u H H'∧(NoT H→NoT H')∧H' u=some (.lst ((uu m (k - m.length)).map V.int))) ?_ (fun i σ H' hi _=>?_) (fun σ H' _=>?_) ?_ ?_
 ·exact ⟨⟨_,rfl⟩,fun b o hb e=>by rw [rb hb];exact e,fun n=>n.upd,by rw [cb,Nat.zero_sub];rfl⟩
 ·show i < _;omega
 ·show _ ≤ 2 * m.length;omega
 ·rintro k σ H'' v H' hk ⟨⟨x,rfl⟩,sx,nt',hu'⟩ ⟨rfl,rfl⟩;have hjn:(2 * m.length - 1 - k) % m.length < m.length:=Nat.mod_lt _ hl.1;have hmj:m[(2 * m.length - 1 - k) % m.length]? = some m[(2 * m.length - 1 - k) % m.length]:=List.getElem?_eq_getElem hjn;have hj:((2 * m.length - 1 - k:Int)) % (m.length:Int)=(((2 * m.length - 1 - k) % m.length:Nat):Int):=by
   rw [Int.natCast_emod];congr 1;omega
  have hat:atI (Mg m) ((2 * m.length - 1 - k:Int) % (m.length:Int))=some (V.bl m[(2 * m.length - 1 - k) % m.length]):=by
   rw [hj];exact Cc (by unfold Mg;rw [List.getElem?_map,hmj];rfl)
  have hst:Gg m (k + 1)=if m[(2 * m.length - 1 - k) % m.length]=true then 0 else Gg m k + 1:=by
   show (if m[(2 * m.length - 1 - k) % m.length]? = some true then 0 else Gg m k + 1)=_;rw [hmj];simp
  simp only [Ig,uc,List.set_cons_succ,List.set_cons_zero];refine zzC (fun σ H4=>H4=H'∧σ=[some (V.ref p),some (V.int m.length),some (V.int (Gg m (k + 1))),some (V.ref u),some (V.int (2 * m.length - 1 - k))]) (fun D' hD=>?_) fun zzM zzh=>?_
  ·walk_at "RD";refine ⟨by omega,_,SqL.of (sx _ _ hun hm),_,hat,_,rfl,?_⟩;rw [hst] at hD;by_cases c:m[(2 * m.length - 1 - k) % m.length]=true
   ·rw [if_pos c] at hD ⊢;exact hD _ _ ⟨rfl,rfl⟩
   ·rw [if_neg c] at hD ⊢;exact hD _ _ ⟨rfl,rfl⟩
  rintro σ H4 ⟨rfl,rfl⟩;subst zzh;dsimp only;refine Nc (decide ((2 * m.length - 1 - k:Int) < m.length)) (fun Q hQ=>?_) (fun hc=>?_) (fun hc=>?_)
  ·walk_at "RD";exact hQ
  ·walk_at "RD";have hc':=of_decide_eq_true hc;refine ⟨.inl ⟨_,SqL.of hu'⟩,_,hu',Nat.lt_of_le_of_lt (show ((uu m (k - m.length)).map V.int).length ≤ 1000 by unfold uu;simp;omega) (by decide),⟨_,rfl⟩,fun b o hb e=>by rw [rb hb];exact sx _ _ hb e,fun n=>(nt' n).upd,?_⟩;rw [cb,show k + 1 - m.length=k - m.length + 1 by omega];unfold uu;rw [List.range_succ,List.map_append,List.map_append];simp only [List.map_cons,List.map_nil];rw [show m.length + (k - m.length) + 1=k + 1 by omega]
  ·walk_at "RD";have hc':=of_decide_eq_false hc;refine ⟨⟨_,rfl⟩,sx,nt',?_⟩;rw [hu',show k - m.length=0 by omega,show k + 1 - m.length=0 by omega]
 ·rintro σ H' zzq;refine zP fun zzM zzh=>?_
  obtain ⟨⟨x,rfl⟩,sx,nt',hu'⟩:=zzq;subst zzh;walk_at "RD";refine ⟨_,SqL.of hu',fun l hl'=>?_⟩;have hlu:l ≠ u:=fun z=>by subst z;rw [hu'] at hl';cases hl'
  refine q _ _ ((Fe (dc.refl H) sx hu).trans (jb hl')) (fun n=>(nt' n).upd) ((Fe (dc.refl H) sx hu).free hl') ?_;rw [cb,show 2 * m.length - m.length=m.length by omega,← List.map_reverse,jC]
theorem DG (T:Txt w K mg t):Kb P w K mg base CX0 2 t.df t.Tf ["marks"] qA:=by
 have g28:Kb P w K mg base CX0 1 t.re t.We ["marks"] Xv:=SA T;refine T.nj.ok Bs (fun vs H Q E h=>?_) (fun _ _ _ s H vs Q E hr h=>?_)
 ·obtain ⟨p,m,rfl,_⟩:=h;rfl
 obtain ⟨p,m,rfl,hm,hl,q⟩:=h;refine ⟨_,(gb (Ob (xo rfl rfl T.cB rfl T.Io (bb (Db g28 hr T.km T.rh.kp T.um (bb (xo rfl rfl T.cB rfl T.Io (bb (pv 0) fb)) fb)) fb)))),?_⟩;walk_at "RD";refine ⟨_,SqL.of hm,fun l1 h1=>?_⟩;refine ⟨l1,m.reverse,rfl,by rw [cb,Mg,Mg,List.map_reverse],by rw [List.length_reverse];exact hl,fun r H1 s1 nt1 hr1 hu=>⟨r,rfl,_,SqL.of hu,fun l2 h2=>?_⟩⟩;refine q _ _ (((jb h1).trans s1).trans (jb h2)) (fun n=>(nt1 n.upd).upd) (((jb h1).trans s1).free h2) ?_;rw [cb,← List.map_reverse];rfl
end
end My
namespace My
open PySem L2
noncomputable def mI (x:Str):Prop:=x.length ≤ 1000∧∀ c ∈ x.cps.toList,c < 16 ^ 8
noncomputable def kG (C:Addr) (fs:List (Str × V)) (H:Hp) (E:XK):Prop:=∀ dx H',dc H H'→(NoT H→NoT H')→H' dx=some (.ext (XD dx fs))→E (.ref C) (some dx) H'
theorem kG.step {C:Addr} {fs:List (Str × V)} {H H1:Hp} {E:XK} (h:kG C fs H E) (s:dc H H1) (n:NoT H→NoT H1):kG C fs H1 E:=fun dx H' s' n' e=>h dx H' (s.trans s') (fun z=>n' (n z)) e
noncomputable def DOk (ds:List WD):Prop:=∀ d ∈ ds,mI d.name∧0 ≤ d.off∧d.off ≤ 1000
noncomputable def Of (ds:List WD) (sp:List SD):Option Str:=(ds.map (·.name)).find? fun x=>(ofN x sp).isEmpty
noncomputable def fJ (t:Adr):Sp:=fun vs H Q _=>∃ x n,vs=[.ref x,.str n]∧mI n∧H x=some (.ext (XF x t.Gb none)) ∧
 ∀ dx,H dx=none→dx ≠ x→Q .non (upd (upd H x (.ext (XF x t.Gb (some dx)))) dx (.ext (XD dx [(Str.ofString "way",.str n)])))
noncomputable def BI (t:Adr):Sp:=fun vs H Q _=>∃ x n i,vs=[.ref x,.str n,.int i]∧mI n∧i.natAbs.log2 < 1920∧H x=some (.ext (XF x t.Eb none)) ∧
 ∀ dx,H dx=none→dx ≠ x→Q .non (upd (upd H x (.ext (XF x t.Eb (some dx)))) dx (.ext (XD dx [(Str.ofString "way",.str n),(Str.ofString "at",.int i)])))
noncomputable def oJ (t:Adr):Sp:=fun vs H Q _=>∃ x n m i,vs=[.ref x,.str n,.str m,.int i]∧mI n∧mI m∧i.natAbs.log2 < 1920∧H x=some (.ext (XF x t.Nb none)) ∧
 ∀ dx,H dx=none→dx ≠ x→Q .non (upd (upd H x (.ext (XF x t.Nb (some dx)))) dx (.ext (XD dx [(Str.ofString "way",.str n),(Str.ofString "other",.str m),(Str.ofString "at",.int i)])))
noncomputable def pw (t:Adr):Sp:=fun vs H Q E=>∃ c n ds p sp,vs=[.ref c,.ref p]∧ad t H c n ds∧DOk ds∧LO H p (List.map sdO sp)∧sp.length ≤ 100 ∧
 match Of ds sp with
 | none=>∀ H',dc H H'→(NoT H→NoT H')→Q .non H'
 | some x=>kG t.Gb [(Str.ofString "way",.str x)] H E
noncomputable def Yw (z:Int) (sp:List SD) (k:Nat) (d:SD):Int:=(((ofN d.name (sp.eraseIdx k)).map fun p=>(p.1 - d.b) % z).min?).getD z
noncomputable def fG:Sp:=fun vs H Q E=>∃ (z:Int) (p:Addr) (sp:List SD) (k:Nat) (d:SD),vs=[.int z,.ref p,.int k]∧0 < z∧LO H p (List.map sdO sp)∧sp.length ≤ 100∧sp[k]? = some d∧∀ H',dc H H'→(NoT H→NoT H')→Q (.int (Yw z sp k d)) H'
theorem BB {α:Type} (l:List α) (x:α) (k:Nat):(l ++ [x]).eraseIdx k=if k=l.length then l.eraseIdx k else l.eraseIdx k ++ [x]:=by
 by_cases h:k < l.length
 ·rw [if_neg (by omega),List.eraseIdx_append_of_lt_length h]
 ·rw [List.eraseIdx_append_of_length_le (by omega),List.eraseIdx_of_length_le (l:=l) (by omega)];by_cases h2:k=l.length
  ·rw [if_pos h2,h2,Nat.sub_self];simp
  ·rw [if_neg h2,List.eraseIdx_of_length_le (by simp;omega)]
noncomputable def wOf (ds:List WD) (x:Str):Option WD:=ds.find? fun d=>decide (d.name=x)
noncomputable def Mj (ds:List WD) (z:Int) (sp:List SD) (k:Nat) (s:SD):Bool:=(wOf ds s.name).any fun d=>decide (s.n < d.least) || decide (Yw z sp k s < s.n + Jh d + Ce d)
noncomputable def Ih (ds:List WD) (z:Int) (sp:List SD):Option (SD × Nat):=sp.zipIdx.find? fun e=>Mj ds z sp e.2 e.1
noncomputable def yw (t:Adr):Sp:=fun vs H Q E=>∃ (c:Addr) (n:Int) (ds:List WD) (z:Int) (p:Addr) (sp:List SD),vs=[.ref c,.int z,.ref p]∧ad t H c n ds∧DOk ds∧(0 < z∧z ≤ 1000)∧LO H p (List.map sdO sp)∧aJ z sp∧(∀ s ∈ sp,∃ d,wOf ds s.name=some d) ∧
 match Ih ds z sp with
 | none=>∀ H',dc H H'→(NoT H→NoT H')→Q .non H'
 | some e=>kG t.Eb [(Str.ofString "way",.str e.1.name),(Str.ofString "at",.int e.1.b)] H E
theorem xw {P:Program} {w:World} {K:PySem.W.Frag} {mg:Str→Option Value} {base:Heap} {CX:CXT} {j k:Nat} {OK:Addr→Prop} {m:Str} {ps:List Str} {SPV:Addr→Sp} (V:qG P w K mg base CX j OK m ps SPV) (h:j ≤ k):qG P w K mg base CX k OK m ps SPV:=⟨fun C hC=>by
 obtain ⟨f,fd,h1,h2,h3,h4⟩:=V.ok C hC;exact ⟨f,fd,h1,h2,h3.mono h,h4⟩⟩
theorem eJ {ds:List WD} {x:Str} {d:WD} (h:wOf ds x=some d):d.name=x∧∃ i:Nat,ds[i]? = some d:=by
 unfold wOf at h;refine ⟨by simpa using List.find?_some h,?_⟩;obtain ⟨i,hi,e⟩:=List.getElem_of_mem (List.mem_of_find?_eq_some h);exact ⟨i,by rw [List.getElem?_eq_getElem hi,e]⟩
noncomputable def CD (d1 d2:WD):Int:=if d1.off - d2.near > 0 then d1.off - d2.near else 0
noncomputable def Lr (g:Int) (m1 m2:List Int):Option ((Int × Int) × Nat):=(m1.zip m2).zipIdx.find? fun e=>decide (e.1.2=0) && decide (e.1.1 ≤ g)
noncomputable def yI (t:Adr):Sp:=fun vs H Q E=>∃ (c:Addr) (n:Int) (ds:List WD) (d1 d2:WD) (p1 p2:Addr) (m1 m2:List Int),vs=[.ref c,.str d1.name,.str d2.name,.ref p1,.ref p2]∧ad t H c n ds∧DOk ds∧d1 ∈ ds∧d2 ∈ ds∧H p1=some (.lst (m1.map V.int))∧H p2=some (.lst (m2.map V.int))∧m1.length=m2.length∧m1.length ≤ 1000 ∧
 match Lr (CD d1 d2) m1 m2 with
 | none=>∀ H',dc H H'→(NoT H→NoT H')→Q .non H'
 | some e=>kG t.Nb [(Str.ofString "way",.str d1.name),(Str.ofString "other",.str d2.name),(Str.ofString "at",.int e.2)] H E
noncomputable def vn (z:Nat) (sp:List SD) (x:Str):List Int:=Eu (fmF z (ofN x sp))
noncomputable def Rr (n:Int) (z:Nat) (sp:List SD) (d1 d2:WD):Option Nat:=if d1.name ≠ d2.name∧mt n d1 d2=true then (Lr (CD d1 d2) (vn z sp d1.name) (vn z sp d2.name)).map (·.2) else none
noncomputable def wu (n:Int) (z:Nat) (sp:List SD) (d1:WD) (ds:List WD):Option (WD × WD × Nat):=ds.findSome? fun d2=>(Rr n z sp d1 d2).map fun i=>(d1,d2,i)
noncomputable def ym (n:Int) (z:Nat) (sp:List SD) (ds:List WD):Option (WD × WD × Nat):=ds.findSome? fun d1=>wu n z sp d1 ds
noncomputable def Zx (t:Adr):Sp:=fun vs H Q E=>∃ (c:Addr) (n:Int) (ds:List WD) (z:Nat) (p:Addr) (sp:List SD),vs=[.ref c,.int z,.ref p]∧ad t H c n ds∧0 < n∧DOk ds∧(0 < z∧z ≤ 1000)∧LO H p (List.map sdO sp)∧aJ z sp∧NoT H ∧
 match ym n z sp ds with
 | none=>∀ H',dc H H'→NoT H'→Q .non H'
 | some e=>kG t.Nb [(Str.ofString "way",.str e.1.name),(Str.ofString "other",.str e.2.1.name),(Str.ofString "at",.int e.2.2)] H E
theorem Uo (m:List Bool):(Pn m).length=m.length:=by unfold Pn;simp
theorem ap (z:Nat) (sp:List SD) (x:Str):(vn z sp x).length=z:=by
 unfold vn Eu;rw [List.length_reverse,Uo,List.length_reverse,bp]
noncomputable def nkv (ds:List WD) (rs:List Addr):List (Key × V):=(ds.zip rs).map fun e=>(Sum.inr e.1.name,V.ref e.2)
noncomputable def NK (H:Hp) (p:Addr) (ds:List WD) (f:WD→HO) (n:Nat):Prop:=∃ rs:List Addr,rs.length=n∧H p=some (.dK (nkv ds rs))∧∀ (i:Nat) (r:Addr) (d:WD),rs[i]? = some r→ds[i]? = some d→H r=some (f d)
theorem lL {ds:List WD} (h:(ds.map (·.name)).Nodup) {i j:Nat} {d e:WD} (hi:ds[i]? = some d) (hj:ds[j]? = some e) (z:d.name=e.name):i=j:=
 nA h (List.getElem?_eq_some_iff.mp hi).1 (List.getElem?_eq_some_iff.mp hj).1 (by rw [nw hi,nw hj];exact z)
theorem iD {ds:List WD} {rs:List Addr} (h:(ds.map (·.name)).Nodup) {i:Nat} {d:WD} {r:Addr} (hd:ds[i]? = some d) (hr:rs[i]? = some r):jw (nkv ds rs) (Sum.inr d.name)=some (.ref r):=by
 obtain ⟨h1,e1⟩:=List.getElem?_eq_some_iff.mp hd;obtain ⟨h2,e2⟩:=List.getElem?_eq_some_iff.mp hr;unfold jw;have hf:List.find? (fun kv=>decide (kv.1=(Sum.inr d.name:Key))) (nkv ds rs)=some (Sum.inr d.name,.ref r):=by
  rw [List.find?_eq_some_iff_getElem];refine ⟨by simp,i,by unfold nkv;simp;omega,by unfold nkv;simp [e1,e2],fun j hj=>?_⟩;unfold nkv;simp;intro z;have:=lL h (List.getElem?_eq_getElem (show j < ds.length by omega)) hd z;omega
 rw [hf];rfl
theorem Gy {ds:List WD} {rs:List Addr} (h:(ds.map (·.name)).Nodup) {d:WD} {r:Addr} (hd:ds[rs.length]? = some d):ay (nkv ds rs) (Sum.inr d.name) (.ref r)=nkv ds (rs ++ [r]):=by
 obtain ⟨h1,e1⟩:=List.getElem?_eq_some_iff.mp hd;unfold ay;have no:((nkv ds rs).any fun kv=>decide (kv.1=Sum.inr d.name))=false:=by
  rw [List.any_eq_false];intro p hp;unfold nkv at hp;obtain ⟨e,he,rfl⟩:=List.mem_map.mp hp;obtain ⟨j,hj,hje⟩:=List.getElem_of_mem he;simp only [decide_eq_true_eq];intro z;have z:=Sum.inr.inj z;rw [← hje] at z;simp at hj z;have:=lL h (List.getElem?_eq_getElem (show j < ds.length by omega)) hd z;omega
 rw [no,if_neg (by decide)];unfold nkv;refine List.ext_getElem (by simp;omega) (fun i h3 h4=>?_);simp at h3 h4;by_cases c:i < rs.length
 ·simp [List.getElem_append,c,show i < ds.length by omega];rw [dif_pos (by omega)]
 ·have:i=rs.length:=by omega
  subst this;simp [List.getElem_append,Nat.le_of_lt h1,e1]
section
variable {P:Program} {w:World} {K:PySem.W.Frag} {mg:Str→Option Value} {base:Heap} {t:Adr}
theorem fL (T:Txt w K mg t):Kb P w K mg base CX0 1 t.uf t.Ch q29 (fJ t):=by
 refine T.Np.ok Go (fun vs H Q E h=>?_) (fun _ _ _ s H vs Q E hr h=>?_)
 ·obtain ⟨x,n,rfl,_⟩:=h;rfl
 obtain ⟨x,n,rfl,hn,hx,q⟩:=h;refine ⟨_,(db (Ic (Dq rfl T.vi T.nk (bb (pv 0) (bb (Wn (Wh (Dv (pv 1) (Wh iB))) (by rw [sizeLine_eq];decide)) fb))))
   (gb (kq (pv 0) (pv 1) rfl))),?_⟩
 walk_at "RD";refine ⟨hn.1,hn.2,fun y=>⟨_,_,hx,T.Js,?_⟩⟩;exact ⟨_,hx,T.Js,T.Lp,q⟩
theorem fM (T:Txt w K mg t):Kb P w K mg base CX0 1 t.Af t.Eh q30 (BI t):=by
 refine T.Cp.ok Bo (fun vs H Q E h=>?_) (fun _ _ _ s H vs Q E hr h=>?_)
 ·obtain ⟨x,n,i,rfl,_⟩:=h;rfl
 obtain ⟨x,n,i,rfl,hn,hi,hx,q⟩:=h;refine ⟨_,(db (Ic (Dq rfl T.vi T.nk (bb (pv 0) (bb (Wn (Wh (Dv (pv 1) (Wh (Xz (pv 2) iB)))) (by rw [sizeLine_eq];decide)) fb))))
   (db (kq (pv 0) (pv 1) rfl)
   (gb (vq (pv 0) (pv 2) rfl)))),?_⟩
 walk_at "RD";refine ⟨hn.1,hn.2,hi,fun y=>⟨_,_,hx,T.Em,?_⟩⟩;refine ⟨_,hx,T.Em,T.Gp,fun dx hd hne=>?_⟩;refine ⟨_,dx,by rw [rb (Ne.symm hne),cb],_,cb,T.Em,T.Vr,show 1 < 1000 by decide,?_⟩;rw [uk,show Vh (Str.ofString "at") (V.int i) ([(Str.ofString "way",V.str n)]:List (Str × V))=[(Str.ofString "way",V.str n),(Str.ofString "at",V.int i)] from yd [Str.ofString "way"] rfl (by decide +kernel)];exact q dx hd hne
theorem ML (T:Txt w K mg t):Kb P w K mg base CX0 1 t.Gf t.Fh q31 (oJ t):=by
 refine T.vp.ok qp (fun vs H Q E h=>?_) (fun _ _ _ s H vs Q E hr h=>?_)
 ·obtain ⟨x,n,m,i,rfl,_⟩:=h;rfl
 obtain ⟨x,n,m,i,rfl,hn,hm,hi,hx,q⟩:=h;refine ⟨_,(db (Ic (Dq rfl T.vi T.nk (bb (pv 0) (bb (Wn (Wh (Dv (pv 1) (Wh (Dv (pv 2) (Wh (Xz (pv 3) iB)))))) (by rw [sizeLine_eq];decide)) fb))))
   (db (kq (pv 0) (pv 1) rfl)
   (db (vq (pv 0) (pv 2) rfl)
   (gb (vq (pv 0) (pv 3) rfl))))),?_⟩
 walk_at "RD";refine ⟨hn.1,hn.2,hm.1,hm.2,hi,fun y=>⟨_,_,hx,T.lr,?_⟩⟩;refine ⟨_,hx,T.lr,T.Px,fun dx hd hne=>?_⟩;refine ⟨_,dx,by rw [rb (Ne.symm hne),cb],_,cb,T.lr,T.Ps,show 1 < 1000 by decide,?_⟩;rw [uk,show Vh (Str.ofString "other") (V.str m) ([(Str.ofString "way",V.str n)]:List (Str × V))=[(Str.ofString "way",V.str n),(Str.ofString "other",V.str m)] from yd [Str.ofString "way"] rfl (by decide +kernel)];refine ⟨_,dx,by rw [rb (Ne.symm hne),cb],_,cb,T.lr,T.Zy,show 2 < 1000 by decide,?_⟩;rw [uk,show Vh (Str.ofString "at") (V.int i) ([(Str.ofString "way",V.str n),(Str.ofString "other",V.str m)]:List (Str × V))=[(Str.ofString "way",V.str n),(Str.ofString "other",V.str m),(Str.ofString "at",V.int i)] from yd [Str.ofString "way",Str.ofString "other"] rfl (by decide +kernel)];exact q dx hd hne
theorem zF (T:Txt w K mg t):Kb P w K mg base (CX1 P w) 3 t.Ve t.Vf q37 (pw t):=by
 have g51:Kb P w K mg base CX0 1 t.uf t.Ch q29 (fJ t):=fL T;have g13:Kb P w K mg base CX0 2 t.Ze t.Lf q10 Co:=(Gs T).mono (by decide);have g14:Kb P w K mg base CX0 2 t.Gc t.Vc ["self"] (Gn t):=(oq T).mono (by decide);refine T.Hj.okX Rl (fun vs H Q E h=>?_) (fun _ _ _ s H vs Q E hr h=>?_)
 ·obtain ⟨c,n,ds,p,sp,rfl,_⟩:=h;rfl
 obtain ⟨c,n,ds,p,sp,rfl,C,hD,L,hs,q⟩:=h;refine ⟨_,(gb (se (Bf ⟨rfl,rfl⟩) rfl (Wd (Fd (pv 0) T.ac T.ie g14 hr T.ce .nil Hd)) (Ab (i:=2) Rl.nd) (gb (Kf (Lu (NA (Db g13 hr T.Wj T.kh.kp T.Tj (bb (pv 1) (bb (pv 2) fb))) (fun _=>rfl))) (gb (Aq (wq T.Uz g51 hr rfl T.lz T.Uw (bb (pv 2) fb)) fv)) Kc)))),?_⟩;walk_at "RD";obtain ⟨_,dx,wl,nd,e1,_,_⟩:=id C;refine ⟨_,_,e1,JA _ _ _ (by decide +kernel),c,n,ds,rfl,C,fun pn hpn=>⟨pn,rfl,⟨_,SqL.of cb⟩,?_⟩⟩;refine uj.list (xs:=Pb (ds.map (·.name))) (fun i σ H'=>(∃ y,σ=[some (V.ref c),some (V.ref p),y])∧dc (upd H pn (.lst (Pb (ds.map (·.name))))) H'∧(NoT H→NoT H')∧Of ds sp=((ds.map (·.name)).drop i).find? fun x=>(ofN x sp).isEmpty) ?_ ?_ ?_ ?_
 ·exact ⟨⟨_,rfl⟩,dc.refl _,fun n=>n.upd,rfl⟩
 ·rintro i σ H' hi zzq;refine zP fun zzM zzh=>?_
  obtain ⟨_,sm,_,_⟩:=zzq;subst zzh;exact SqL.of (sm _ _ cb)
 ·rintro i v σ H' hv zzq;refine zP fun zzM zzh=>?_
  obtain ⟨⟨y,rfl⟩,sm,nt,hf⟩:=zzq;obtain ⟨x,hx,rfl⟩:=lc hv;have smH:dc H H':=(jb hpn).trans sm;obtain ⟨hi,hxi⟩:=List.getElem?_eq_some_iff.mp hx;subst zzh;rw [List.drop_eq_getElem_cons hi,hxi,List.find?_cons] at hf;walk_at "RD";refine qk (fun b H2=>b=(ofN x sp).isEmpty∧dc H' H2∧(NoT H'→NoT H2)) (fun Q hQ=>?_) (fun H2 r=>?_) (fun H2 r=>?_)
  ·walk_at "RD";refine ⟨p,x,sp,rfl,L.same smH,hs,fun r H2 s2 n2 ⟨qs,l1,l2⟩=>⟨!(ofN x sp).isEmpty,.inl ⟨_,SqL.of l1,?_⟩,?_⟩⟩
   ·have hl:=l2.1;cases qs with
    | nil=>cases h:ofN x sp with
     | nil=>rfl
     | cons a r=>rw [h] at hl;simp at hl
    | cons a r=>cases h:ofN x sp with
     | nil=>rw [h] at hl;simp at hl
     | cons a r=>rfl
   ·rw [Bool.not_not];exact hQ _ _ ⟨rfl,s2,n2⟩
  ·obtain ⟨r1,r2,r3⟩:=r;rw [← r1] at hf;have hf:Of ds sp=some x:=hf;rw [hf] at q;walk_at "RD";have hn:mI x:=by
    obtain ⟨d,hd,rfl⟩:=lc hx;exact (hD d (List.mem_of_getElem? hd)).1
   refine ⟨by decide,fun a ha=>⟨a,x,rfl,hn,cb,fun d hd hne=>?_⟩⟩;have hd0:H2 d=none:=by rw [rb hne] at hd;exact hd
   refine ⟨rfl,t.Gb,some d,by rw [rb (Ne.symm hne),cb],T.Js,q d _ (fun b u e=>?_) (fun n=>((((r3 (nt n)).upd).upd).upd).upd) (by rw [rb hne,cb])⟩;have e':=r2 _ _ (smH _ _ e);rw [rb (xb e' ha),rb (xb e' hd0),rb (xb e' ha),rb (xb e' ha)];exact e'
  ·obtain ⟨r1,r2,r3⟩:=r;rw [← r1] at hf;walk_at "RD";exact ⟨⟨_,rfl⟩,sm.trans r2,fun n=>r3 (nt n),hf⟩
 ·rintro σ H' zzq;refine zP fun zzM zzh=>?_
  obtain ⟨⟨y,rfl⟩,sm,nt,hf⟩:=zzq;subst zzh;rw [List.drop_of_length_le (by unfold Pb;simp)] at hf;have hf:Of ds sp=none:=hf;rw [hf] at q;exact q _ ((jb hpn).trans sm) nt
theorem vK (T:Txt w K mg t):Kb P w K mg base CX0 2 t.Pc t.Ad q38 fG:=by
 have g13:Kb P w K mg base CX0 1 t.Ze t.Lf q10 Co:=Gs T;refine T.vf.ok Yc (fun vs H Q E h=>?_) (fun _ _ _ s H vs Q E hr h=>?_)
 ·obtain ⟨z,p,sp,k,d,rfl,_⟩:=h;rfl
 obtain ⟨z,p,sp,k,d,rfl,hz,⟨qs,l1,lq⟩,hs,hk,q⟩:=h;refine ⟨_,(db (du (xc ae (pv 1) (pv 2)) (Fg (K:=K) (n:=3) rfl rfl (Ub (Ab (i:=3) Yc.nd) (Ub (Cy (i:=4) Yc.nd rfl (Or.inr rfl) (.inl rfl)) (Ub (Ab (i:=5) Yc.nd) Dg)))))
   (db (am (i:=6) Yc.nd rfl (Or.inl rfl) rfl (Ur rfl T.Ci (bb (pv 1) fb)) (Ud (sc:=ib Bd) rfl (by decide +kernel)) (N:=q52) (sel:=[none,none,some 2]) (Ie (M:=q49) (by decide +kernel)) (Blk.of (fun _ _ _ _=>(Fg (K:=K) (n:=2) rfl rfl (Ub (Ab (i:=0) (Li (N:=q52) (by decide +kernel) rfl)) (Ub (Ab (i:=1) (Li (N:=q52) (by decide +kernel) rfl)) Dg)))) (fun _ _ _ _=>⟨_,(Hv (zc KC (pv 0) (pv 2) (Hc _))),by walk_at "B"⟩) (fun _ _ _ _=>⟨_,(pv 1),by walk_at "B"⟩)) rfl)
   (gb (Ob (pJ rfl rfl T.KH (bb (yj rfl (Wd (Db g13 hr T.Wj T.kh.kp T.Tj (bb (pv 6) (bb (pv 3) fb)))) (Ud (sc:=ib Bd) rfl (by decide +kernel)) (N:=q53) (sel:=[none,none,some 4,some 0]) (Ie (M:=q49) (by decide +kernel)) (Blk.of (fun _ _ _ _=>(Fg (K:=K) (n:=2) rfl rfl (Ub (Ab (i:=0) (Li (N:=q53) (by decide +kernel) rfl)) (Ub (Ab (i:=1) (Li (N:=q53) (by decide +kernel) rfl)) Dg)))) (fun _ _ _ _=>⟨_,ui,by walk_at "B"⟩) (fun _ _ _ _=>⟨_,(Vb zi (Vb gk (pv 0) (pv 2)) (pv 3)),by walk_at "B"⟩))) fb) (pv 0)))))),?_⟩
 walk_at "RD";have hql:qs.length=sp.length:=by rw [lq.1,List.length_map]
 obtain ⟨hkl,hkd⟩:=List.getElem?_eq_some_iff.mp hk;have hqk:qs[k]? = some qs[k]:=List.getElem?_eq_getElem (by omega);have ek:H qs[k]=some (sdO d):=lq.2 k _ _ hqk (by rw [List.getElem?_map,hk];rfl);refine ⟨_,SqL.of l1,_,Cc (by rw [List.getElem?_map,hqk];rfl),_,rfl,_,SqT.of ek,rfl,_,_,rfl,_,_,rfl,_,_,rfl,rfl,⟨_,SqL.of l1⟩,?_⟩;refine Zd.enum (xs:=qs.map V.ref) (fun i ys H'=>∃ os:List Addr,ys=os.map V.ref∧LQ H' os (((sp.take i).eraseIdx k).map sdO)∧dc H H'∧(NoT H→NoT H')) (Nat.le_trans (show (qs.map V.ref).length ≤ 100 by rw [List.length_map];omega) (by decide)) ⟨[],rfl,by rw [List.take_zero];exact LQ.nil _,dc.refl _,id⟩ ?_ ?_ ?_
 ·rintro i ys H' hi zzq;refine zP fun zzM zzh=>?_
  obtain ⟨os,rfl,r,sm,_⟩:=zzq;subst zzh;refine ⟨(SqL.of l1).same sm,?_⟩;rw [List.length_map,r.1,List.length_map];exact Nat.le_trans (List.length_eraseIdx_le ..) (by rw [List.length_take];omega)
 ·rintro i v ys H' p1 hv ⟨os,rfl,r,sm,nt⟩ hp1 N hN;obtain ⟨qi,hqi,rfl⟩:=lc hv;obtain ⟨o,ho,e⟩:=lq.at hqi;obtain ⟨d',hd',rfl⟩:=lc ho;have e':=sm _ _ e;have s1:dc H' (upd H' p1 (.tup [.int i,.ref qi])):=jb hp1;refine Ml ?_;dsimp only at hN;have hil:(sp.take i).length=i:=by
   have:=(List.getElem?_eq_some_iff.mp hd').1;rw [List.length_take];omega
  rw [Pe hd',BB,hil] at hN;walk_at "RD";refine ⟨Sub.name2,?_⟩;by_cases c:k=i
  ·rw [if_pos c] at hN;rw [if_neg (by subst c;simp)];exact hN _ _ ⟨os,rfl,r.same s1,sm.trans s1,fun n=>(nt n).upd⟩
  ·rw [if_neg c] at hN;rw [if_pos (by simp;omega)];refine hN _ _ ⟨os ++ [qi],by rw [List.map_append];rfl,?_,sm.trans s1,fun n=>(nt n).upd⟩;rw [List.map_append];exact (r.same s1).app (LQ.one (s1 _ _ e'))
 ·rintro ys H' ⟨os,rfl,r,sm,nt⟩ p1 hp1;rw [List.take_of_length_le (by rw [List.length_map];omega)] at r;walk_at "RD";have s1:dc H' (upd H' p1 (.lst (os.map V.ref))):=jb hp1;refine ⟨p1,d.name,sp.eraseIdx k,rfl,⟨os,cb,r.same s1⟩,Nat.le_trans (List.length_eraseIdx_le ..) hs,fun r2 H2 s2 n2 ⟨qs2,m1,m2⟩=>⟨r2,rfl,⟨_,SqL.of m1⟩,?_⟩⟩;have hln:(ofN d.name (sp.eraseIdx k)).length ≤ 100:=Nat.le_trans (fz _ _) (Nat.le_trans (List.length_eraseIdx_le ..) hs);have hml:qs2.length=(ofN d.name (sp.eraseIdx k)).length:=by rw [m2.1,List.length_map]
  refine Zd.list_zs (zs:=((ofN d.name (sp.eraseIdx k)).map fun p=>(p.1 - d.b) % z).map V.int) (SqL.of m1) (Nat.le_trans (show (qs2.map V.ref).length ≤ 100 by rw [List.length_map];omega) (by decide)) (by simp [hml]) (fun i v z' N hv hz' hN=>?_) (fun l hl=>?_)
  ·obtain ⟨qi,hqi,rfl⟩:=lc hv;obtain ⟨o,ho,e⟩:=m2.at hqi;obtain ⟨pr,hpr,rfl⟩:=lc ho;obtain ⟨y,hy,rfl⟩:=lc hz';obtain ⟨pr',hpr',rfl⟩:=lc hy;rw [hpr] at hpr';cases hpr';walk_at "RD";exact ⟨_,SqT.of e,rfl,_,_,rfl,_,_,rfl,rfl,Sub.name2,_,rfl,hz,hN⟩
  ·walk_at "RD";refine ⟨_,SqL.of cb,?_⟩;have:=q (upd H2 l (.lst (((ofN d.name (sp.eraseIdx k)).map fun p=>(p.1 - d.b) % z).map V.int))) (((sm.trans s1).trans s2).trans (jb hl)) (fun n=>(n2 (nt n).upd).upd);unfold Yw at this;cases hm:((ofN d.name (sp.eraseIdx k)).map fun p=>(p.1 - d.b) % z).min? with
   | none=>rw [hm] at this;exact this
   | some m=>rw [hm] at this;exact this
theorem dE (T:Txt w K mg t):Kb P w K mg base (CX1 P w) 4 t.Ye t.ag q14 (yw t):=by
 have g52:Kb P w K mg base CX0 2 t.Af t.Eh q30 (BI t):=(fM T).mono (by decide);have g53:Kb P w K mg base CX0 3 t.Pc t.Ad q38 fG:=(vK T).mono (by decide);have g12:Kb P w K mg base CX0 3 t.bc t.Jc q9 (Qj t):=(ul T).mono (by decide);have V_Way_ready:qG P w K mg base CX0 3 (isW t) "ready" ["self"] (ik t):=xw (KF T) (by decide);have V_Way_fade:qG P w K mg base CX0 3 (isW t) "fade" ["self"] (Tl t):=xw (XI T) (by decide);refine T.xj.okX Cd (fun vs H Q E h=>?_) (fun _ _ _ s H vs Q E hr h=>?_)
 ·obtain ⟨c,n,ds,z,p,sp,rfl,_⟩:=h;rfl
 obtain ⟨c,n,ds,z,p,sp,rfl,C,hD,hz,⟨qs,l1,lq⟩,hs,hk,q⟩:=h;refine ⟨_,(gb (se (Bf ⟨rfl,rfl⟩) rfl (Ur rfl T.Ci (bb (pv 2) fb)) (Fg (K:=K) (n:=2) rfl rfl (Ub (Ab (i:=3) Cd.nd) (Ub (Ab (i:=4) Cd.nd) Dg))) (db (du (pv 4) (Fg (K:=K) (n:=3) rfl rfl (Ub (Ab (i:=5) Cd.nd) (Ub (Ab (i:=6) Cd.nd) (Ub (Ab (i:=7) Cd.nd) Dg)))))
   (db (Bb (i:=8) Cd.nd (bd (pv 0) T.ac T.jd g12 hr T.md .nil Hd (bb (pv 5) fb)))
   (db (Bb (i:=9) Cd.nd (Vb ke (Vb ke (pv 7) (wn (pv 8) V_Way_fade hr Hd)) (wn (pv 8) V_Way_ready hr Hd)))
   (gb (Kf (PW.pt (MD (zc wt (pv 7) (Rc (pv 8) rfl) (Hc _)) (qx (zc wt (Db g53 hr T.Kl T.vf.kp T.ql (bb (pv 1) (bb (pv 2) (bb (pv 3) fb)))) (pv 9) (Hc _))))) (gb (Aq (wq T.mB g52 hr rfl T.Hz T.Bw (bb (pv 5) (bb (pv 6) fb))) fv)) Kc))))))),?_⟩
 walk_at "RD";have hql:qs.length=sp.length:=by rw [lq.1,List.length_map]
 refine ⟨⟨_,SqL.of l1⟩,?_⟩;refine uj.enum (xs:=qs.map V.ref) (fun i σ H'=>(∃ a b c1 d e f g,σ=[some (V.ref c),some (V.int z),some (V.ref p),a,b,c1,d,e,f,g])∧dc H H'∧(NoT H→NoT H')∧Ih ds z sp=(sp.zipIdx.drop i).find? fun e=>Mj ds z sp e.2 e.1) ?_ ?_ ?_ ?_
 ·exact ⟨⟨_,_,_,_,_,_,_,rfl⟩,dc.refl _,id,rfl⟩
 ·rintro i σ H' hi zzq;refine zP fun zzM zzh=>?_
  obtain ⟨_,sm,_,_⟩:=zzq;subst zzh;exact SqL.of (sm _ _ l1)
 ·rintro i v σ H0 p1 hv ⟨⟨a1,a2,a3,a4,a5,a6,a7,rfl⟩,sm,nt,hf⟩ hp1;obtain ⟨qi,hqi,rfl⟩:=lc hv;obtain ⟨o,ho,e⟩:=lq.at hqi;obtain ⟨sd,hsd,rfl⟩:=lc ho;obtain ⟨hi,hxi⟩:=List.getElem?_eq_some_iff.mp hsd;rw [List.drop_eq_getElem_cons (by simpa using hi),List.find?_cons] at hf;simp only [List.getElem_zipIdx,Nat.zero_add,hxi] at hf;have s1:dc H0 (upd H0 p1 (.tup [.int i,.ref qi])):=jb hp1;refine Ml ?_;have nt1:NoT H→NoT (upd H0 p1 (.tup [.int i,.ref qi])):=fun n=>(nt n).upd
  generalize upd H0 p1 (.tup [.int i,.ref qi])=H' at s1 nt1 ⊢;have smH:dc H H':=sm.trans s1;obtain ⟨d,hd⟩:=hk sd (List.mem_of_getElem? hsd);obtain ⟨hdn,j,hj⟩:=eJ hd;have C':=C.same smH;obtain ⟨_,dx,wl,nd,e1,_,_⟩:=id C';have hDd:=hD d (List.mem_of_getElem? hj);have hB:Mj ds z sp i sd=(decide (sd.n < d.least) || decide (Yw z sp i sd < sd.n + Jh d + Ce d)):=by
   unfold Mj;rw [hd];rfl
  walk_at "RD";refine ⟨_,SqT.of (smH _ _ e),rfl,_,_,rfl,_,_,rfl,_,_,rfl,rfl,_,_,e1,JA _ _ _ (by decide +kernel),c,n,ds,j,d,by rw [hdn],C',hj,fun a W=>?_⟩;obtain ⟨dk,dxa,ha⟩:=id W;refine ⟨a,rfl,_,_,_,ha,⟨_,dk,rfl⟩,RM (by decide +kernel),a,d,rfl,W,rfl,_,rfl,_,rfl,a,rfl,_,_,_,ha,⟨_,dk,rfl⟩,RM (by decide +kernel),a,d,rfl,W,rfl,_,rfl,?_⟩;refine qk (fun b H2=>b=Mj ds z sp i sd∧dc H' H2∧(NoT H'→NoT H2)) (fun Q hQ=>?_) (fun H2 r=>?_) (fun H2 r=>?_)
  ·rw [hB] at hQ;walk_at "RD";refine ⟨_,W.f_least T,_,rfl,?_⟩;by_cases c1:sd.n < d.least
   ·rw [decide_eq_true c1] at hQ;rw [if_pos (decide_eq_true c1)];exact hQ _ _ ⟨rfl,dc.refl _,id⟩
   ·rw [decide_eq_false c1,Bool.false_or] at hQ;rw [if_neg (by simpa using c1)];exact ⟨z,p,sp,i,sd,rfl,hz.1,⟨qs,smH _ _ l1,lq.same smH⟩,hs.1,hsd,fun H2 s2 n2=>⟨_,rfl,hQ _ _ ⟨rfl,s2,n2⟩⟩⟩
  ·obtain ⟨r1,r2,r3⟩:=r;rw [← r1] at hf;have hf:Ih ds z sp=some (sd,i):=hf;rw [hf] at q;walk_at "RD";have hn:mI sd.name:=by rw [← hdn];exact hDd.1
   have hsb:=hs.2 sd (List.mem_of_getElem? hsd);refine ⟨by decide,fun a ha=>⟨a,sd.name,sd.b,rfl,hn,dh (by omega),cb,fun d hd hne=>?_⟩⟩;have hd0:H2 d=none:=by rw [rb hne] at hd;exact hd
   refine ⟨rfl,t.Eb,some d,by rw [rb (Ne.symm hne),cb],T.Em,q d _ (fun b u e=>?_) (fun n=>((((r3 (nt1 n)).upd).upd).upd).upd) (by rw [rb hne,cb])⟩;have e':=r2 _ _ (smH _ _ e);rw [rb (xb e' ha),rb (xb e' hd0),rb (xb e' ha),rb (xb e' ha)];exact e'
  ·obtain ⟨r1,r2,r3⟩:=r;rw [← r1] at hf;exact ⟨⟨_,_,_,_,_,_,_,rfl⟩,smH.trans r2,fun n=>r3 (nt1 n),hf⟩
 ·rintro σ H' zzq;refine zP fun zzM zzh=>?_
  obtain ⟨_,sm,nt,hf⟩:=zzq;subst zzh;rw [List.drop_of_length_le (by simp [hql])] at hf;have hf:Ih ds z sp=none:=hf;rw [hf] at q;exact q _ sm nt
theorem zM (T:Txt w K mg t):Kb P w K mg base (CX1 P w) 4 t.Sd t.ye q39 (yI t):=by
 have g54:Kb P w K mg base CX0 2 t.Gf t.Fh q31 (oJ t):=(ML T).mono (by decide);have g55:Kb P w K mg base CX0 3 t.pC t.iG q13 (zI t):=EM T;refine T.mh.okX ff (fun vs H Q E h=>?_) (fun _ _ _ s H vs Q E hr h=>?_)
 ·obtain ⟨c,n,ds,d1,d2,p1,p2,m1,m2,rfl,_⟩:=h;rfl
 obtain ⟨c,n,ds,d1,d2,p1,p2,m1,m2,rfl,C,hD,h1,h2,L1,L2,hl,hm,q⟩:=h;refine ⟨_,(db (Bb (i:=5) ff.nd (Db g55 hr T.EN T.CJ.kp T.NN (bb (pv 0) (bb (pv 1) (bb (pv 2) fb)))))
   (gb (se (Bf ⟨rfl,rfl⟩) rfl (Ur rfl T.Ci (bb (pv 3) fb)) (Fg (K:=K) (n:=2) rfl rfl (Ub (Ab (i:=6) ff.nd) (Ub (Ab (i:=7) ff.nd) Dg))) (gb (Kf (PW.pt (fu (zc Mi (xc ae (pv 4) (pv 6)) ub (Hc _)) (Ro (zc CN (pv 7) (pv 5) (Hc _))))) (gb (Aq (wq T.AA g54 hr rfl T.QD T.Fw (bb (pv 1) (bb (pv 2) (bb (pv 6) fb)))) fv)) Kc))))),?_⟩
 walk_at "RD";obtain ⟨j1,hj1,ej1⟩:=List.getElem_of_mem h1;obtain ⟨j2,hj2,ej2⟩:=List.getElem_of_mem h2;refine ⟨c,n,ds,j1,j2,d1,d2,rfl,C,by rw [List.getElem?_eq_getElem hj1,ej1],by rw [List.getElem?_eq_getElem hj2,ej2],⟨_,SqL.of L1⟩,?_⟩;rw [show (if d1.off - d2.near > 0 then d1.off - d2.near else 0)=CD d1 d2 from rfl];refine uj.enum (xs:=m1.map V.int) (fun i σ H'=>(∃ a b,σ=[some (V.ref c),some (V.str d1.name),some (V.str d2.name),some (V.ref p1),some (V.ref p2),some (V.int (CD d1 d2)),a,b])∧dc H H'∧(NoT H→NoT H')∧Lr (CD d1 d2) m1 m2=((m1.zip m2).zipIdx.drop i).find? fun e=>decide (e.1.2=0) && decide (e.1.1 ≤ CD d1 d2)) ?_ ?_ ?_ ?_
 ·exact ⟨⟨_,_,rfl⟩,dc.refl _,id,rfl⟩
 ·rintro i σ H' hi zzq;refine zP fun zzM zzh=>?_
  obtain ⟨_,sm,_,_⟩:=zzq;subst zzh;exact SqL.of (sm _ _ L1)
 ·rintro i v σ H0 p3 hv ⟨⟨a1,a2,rfl⟩,sm,nt,hf⟩ hp3;obtain ⟨x1,hx1,rfl⟩:=lc hv;obtain ⟨hi,ex1⟩:=List.getElem?_eq_some_iff.mp hx1;have hi2:i < m2.length:=by omega
  have hx2:m2[i]? = some m2[i]:=List.getElem?_eq_getElem hi2;rw [List.drop_eq_getElem_cons (by simp;omega),List.find?_cons] at hf;simp only [List.getElem_zipIdx,List.getElem_zip,Nat.zero_add,ex1] at hf;have s1:dc H0 (upd H0 p3 (.tup [.int i,.int x1])):=jb hp3;refine Ml ?_;have nt1:NoT H→NoT (upd H0 p3 (.tup [.int i,.int x1])):=fun n=>(nt n).upd
  generalize upd H0 p3 (.tup [.int i,.int x1])=H' at s1 nt1 ⊢;have smH:dc H H':=sm.trans s1;walk_at "RD";refine Nc (decide (m2[i]=0) && decide (x1 ≤ CD d1 d2)) (fun Q hQ=>?_) (fun c1=>?_) (fun c1=>?_)
  ·walk_at "RD";refine ⟨_,SqL.of (smH _ _ L2),_,Cc (by rw [List.getElem?_map,hx2];rfl),rfl,?_⟩;by_cases c0:m2[i]=0
   ·rw [decide_eq_true c0,Bool.true_and] at hQ;rw [if_pos (by rw [c0];exact decide_eq_true rfl)];exact hQ
   ·rw [decide_eq_false c0,Bool.false_and] at hQ;rw [if_neg (by rw [decide_eq_true_eq];exact fun e=>c0 (V.int.inj e))];exact hQ
  ·rw [c1] at hf;have hf:Lr (CD d1 d2) m1 m2=some ((x1,m2[i]),i):=hf;rw [hf] at q;walk_at "RD";refine ⟨by decide,fun a ha=>⟨a,d1.name,d2.name,i,rfl,(hD _ h1).1,(hD _ h2).1,dh (by omega),cb,fun d hd hne=>?_⟩⟩;have hd0:H' d=none:=by rw [rb hne] at hd;exact hd
   refine ⟨rfl,t.Nb,some d,by rw [rb (Ne.symm hne),cb],T.lr,q d _ (fun b u e=>?_) (fun n=>((((nt1 n).upd).upd).upd).upd) (by rw [rb hne,cb])⟩;have e':=smH _ _ e;rw [rb (xb e' ha),rb (xb e' hd0),rb (xb e' ha),rb (xb e' ha)];exact e'
  ·rw [c1] at hf;exact ⟨⟨_,_,rfl⟩,smH,nt1,hf⟩
 ·rintro σ H' zzq;refine zP fun zzM zzh=>?_
  obtain ⟨_,sm,nt,hf⟩:=zzq;subst zzh;rw [List.drop_of_length_le (by simp;omega)] at hf;have hf:Lr (CD d1 d2) m1 m2=none:=hf;rw [hf] at q;exact q _ sm nt
theorem NE (T:Txt w K mg t):Kb P w K mg base (CX1 P w) 5 t.Xe t.Sf q14 (Zx t):=by
 have g56:Kb P w K mg base CX0 4 t.df t.Tf ["marks"] qA:=(DG T).mono (by decide);have g29:Kb P w K mg base CX0 4 t.Cf t.og q24 oK:=(CM T).mono (by decide);have g14:Kb P w K mg base CX0 4 t.Gc t.Vc ["self"] (Gn t):=(oq T).mono (by decide);have g57:Kb P w K mg base CX0 4 t.Hu t.Tx q13 (rF t):=(aK T).mono (by decide);have g58:Kb P w K mg base (CX1 P w) 4 t.Sd t.ye q39 (yI t):=zM T;refine T.zj.okX rf (fun vs H Q E h=>?_) (fun _ _ _ s H vs Q E hr h=>?_)
 ·obtain ⟨c,n,ds,z,p,sp,rfl,_⟩:=h;rfl
 obtain ⟨c,n,ds,z,p,sp,rfl,C,hn,hD,hz,L,hs,nt0,q⟩:=h;have hu:=wG hr;refine ⟨_,(db (Bb (i:=3) rf.nd xq)
   (db (se (Bf ⟨rfl,rfl⟩) rfl (Wd (Fd (pv 0) T.ac T.ie g14 hr T.ce .nil Hd)) (Ab (i:=4) rf.nd) (gb (Rv hu (pv 3) (pv 4) (Db g56 hr T.jt T.nj.kp T.Mt (bb (Db g29 hr T.Fp T.Qi.kp T.Dp (bb (pv 1) (bb (pv 2) (bb (pv 4) fb)))) fb)) rfl)))
   (gb (se (Bf ⟨rfl,rfl⟩) rfl (Wd (Fd (pv 0) T.ac T.ie g14 hr T.ce .nil Hd)) (Ab (i:=5) rf.nd) (gb (se (Bf ⟨rfl,rfl⟩) rfl (Wd (Fd (pv 0) T.ac T.ie g14 hr T.ce .nil Hd)) (Ab (i:=6) rf.nd) (gb (Kf (PW.pt (fu (zc KC (pv 5) (pv 6) (Hc _)) (Ro (Wk (Db g57 hr T.iL T.kF.kp T.WK (bb (pv 0) (bb (pv 5) (bb (pv 6) fb)))))))) (gb (Ic (Ol g58 hr rfl T.Lo T.mh.kp T.Ho .nil Me (bb (pv 0) (bb (pv 5) (bb (pv 6) (bb (Ny hu (pv 3) (pv 5) (fun _ _=>rfl)) (bb (Ny hu (pv 3) (pv 6) (fun _ _=>rfl)) fb)))))))) Kc)))))))),?_⟩
 walk_at "RD";intro pd hpd;obtain ⟨⟨hnd,hdl⟩,dx,wl,nd,e1,_,_⟩:=id C;have s0:dc H (upd H pd (.dK [])):=jb hpd;refine ⟨_,_,s0 _ _ e1,JA _ _ _ (by decide +kernel),c,n,ds,rfl,C.same s0,fun pn hpn=>⟨pn,rfl,⟨_,SqL.of cb⟩,?_⟩⟩;have hpp:pn ≠ pd:=fun e=>by subst e;rw [cb] at hpn;cases hpn
 refine uj.list (xs:=Pb (ds.map (·.name))) (fun i σ H'=>(∃ y,σ=[some (V.ref c),some (V.int z),some (V.ref p),some (V.ref pd),y,none,none])∧dc H H'∧NoT H'∧H' pn=some (.lst (Pb (ds.map (·.name))))∧NK H' pd ds (fun d=>.lst ((vn z sp d.name).map V.int)) i) ?_ ?_ ?_ ?_
 ·exact ⟨⟨_,rfl⟩,s0.trans (jb hpn),(nt0.upd).upd,cb,[],rfl,by rw [rb (Ne.symm hpp),cb];simp [nkv],fun i r d h=>by simp at h⟩
 ·rintro i σ H' hi zzq;refine zP fun zzM zzh=>?_
  obtain ⟨_,_,_,h,_⟩:=zzq;subst zzh;exact SqL.of h
 ·rintro i v σ H' hv zzq;refine zP fun zzM zzh=>?_
  obtain ⟨⟨y,rfl⟩,sm,nt,hpn',rs,hrl,hpd',hrs⟩:=zzq;obtain ⟨x,hx,rfl⟩:=lc hv;obtain ⟨d,hd,rfl⟩:=lc hx;subst zzh;walk_at "RD";refine ⟨z,p,d.name,sp,rfl,hz,L.same sm,hs,fun r1 H1 s1 n1 hr1 h1=>⟨r1,_,rfl,h1,by rw [bp];exact hz,fun r2 H2 s2 n2 hr2 h2=>?_⟩⟩;have s12:=s1.trans s2;have hp2:=s12 _ _ hpd';refine ⟨_,aG.k (k:=Sum.inr d.name) hp2 (Nat.lt_of_le_of_lt (show (nkv ds rs).length ≤ 12 by unfold nkv;rw [List.length_map,List.length_zip];omega) (by decide)),?_⟩;have hdi:ds[rs.length]? = some d:=by rw [hrl];exact hd
  rw [Gy hnd hdi];have hne:∀ {b:Addr} {ys:List V},H2 b=some (.lst ys)→b ≠ pd:=fun e=>kf e hp2 (by intro z;cases z)
  refine ⟨⟨_,rfl⟩,fun b u e=>?_,(n2 (n1 nt)).upd,?_,rs ++ [r2],by rw [List.length_append,hrl];rfl,cb,fun j r e hj he=>?_⟩
  ·rw [rb (xb e hpd)];exact s12 _ _ (sm _ _ e)
  ·rw [rb hpp];exact s12 _ _ hpn'
  ·rcases Qv hj with ⟨_,z2⟩ | ⟨z1,rfl⟩
   ·have:=s12 _ _ (hrs j r e z2 he);rw [rb (hne this)];exact this
   ·rw [z1] at he;rw [hdi] at he;cases he;rw [rb (hne h2)];exact h2
 rintro σ H1 zzq;refine zP fun zzM zzh=>?_
 obtain ⟨⟨y,rfl⟩,sm1,nt1,hpn1,N1⟩:=zzq;have hsl:(Pb (ds.map (·.name))).length=ds.length:=by unfold Pb;simp
 subst zzh;rw [hsl] at N1;obtain ⟨rs,hrl,hpd1,hrs⟩:=N1;have C1:=C.same sm1;walk_at "RD";refine ⟨_,_,sm1 _ _ e1,JA _ _ _ (by decide +kernel),c,n,ds,rfl,C1,fun p2 hp2=>⟨p2,rfl,⟨_,SqL.of cb⟩,?_⟩⟩;refine uj.list (xs:=Pb (ds.map (·.name))) (fun i σ H'=>(∃ y u v,σ=[some (V.ref c),some (V.int z),some (V.ref p),some (V.ref pd),y,u,v])∧dc H1 H'∧NoT H'∧H' p2=some (.lst (Pb (ds.map (·.name))))∧ym n z sp ds=(ds.drop i).findSome? fun d1=>wu n z sp d1 ds) ?_ ?_ ?_ ?_
 ·exact ⟨⟨_,_,_,rfl⟩,jb hp2,nt1.upd,cb,rfl⟩
 ·rintro i σ H' hi zzq;refine zP fun zzM zzh=>?_
  obtain ⟨_,_,_,h,_⟩:=zzq;subst zzh;exact SqL.of h
 ·rintro i v σ H2 hv zzq;refine zP fun zzM zzh=>?_
  obtain ⟨⟨y,u,v',rfl⟩,sm2,nt2,hpn2,hA⟩:=zzq;obtain ⟨x,hx,rfl⟩:=lc hv;obtain ⟨d1,hd1,rfl⟩:=lc hx;obtain ⟨hi,hxi⟩:=List.getElem?_eq_some_iff.mp hd1;subst zzh;rw [List.drop_eq_getElem_cons hi,hxi,List.findSome?_cons] at hA;have C2:=C1.same sm2;walk_at "RD";refine ⟨_,_,sm2 _ _ (sm1 _ _ e1),JA _ _ _ (by decide +kernel),c,n,ds,rfl,C2,fun p3 hp3=>⟨p3,rfl,⟨_,SqL.of cb⟩,?_⟩⟩;refine uj.list (xs:=Pb (ds.map (·.name))) (fun j σ H'=>(∃ y v,σ=[some (V.ref c),some (V.int z),some (V.ref p),some (V.ref pd),y,some (V.str d1.name),v])∧dc H2 H'∧NoT H'∧H' p3=some (.lst (Pb (ds.map (·.name))))∧wu n z sp d1 ds=(ds.drop j).findSome? fun d2=>(Rr n z sp d1 d2).map fun i=>(d1,d2,i)) ?_ ?_ ?_ ?_
  ·exact ⟨⟨_,_,rfl⟩,jb hp3,nt2.upd,cb,rfl⟩
  ·rintro i σ H' hi zzq;refine zP fun zzM zzh=>?_
   obtain ⟨_,_,_,h,_⟩:=zzq;subst zzh;exact SqL.of h
  ·rintro j v σ H3 hv zzq;refine zP fun zzM zzh=>?_
   obtain ⟨⟨y,v',rfl⟩,sm3,nt3,hpn3,hB⟩:=zzq;obtain ⟨x,hx,rfl⟩:=lc hv;obtain ⟨d2,hd2,rfl⟩:=lc hx;obtain ⟨hj,hxj⟩:=List.getElem?_eq_some_iff.mp hd2;subst zzh;rw [List.drop_eq_getElem_cons hj,hxj,List.findSome?_cons] at hB;have C3:=C2.same sm3;have sm13:=sm2.trans sm3;walk_at "RD";refine Nc (decide (d1.name ≠ d2.name) && mt n d1 d2) (fun Q hQ=>?_) (fun c1=>?_) (fun c1=>?_)
   ·walk_at "RD";by_cases c0:d1.name=d2.name
    ·rw [decide_eq_false (fun z=>z c0),Bool.false_and] at hQ;rw [if_neg (by simp [c0])];exact hQ
    ·rw [decide_eq_true c0,Bool.true_and] at hQ;rw [if_pos (by simp [c0])];exact ⟨c,n,ds,i,j,d1,d2,rfl,C3,hn,hd1,hd2,nt3,_,rfl,hQ⟩
   ·rw [Bool.and_eq_true] at c1;have c2:Rr n z sp d1 d2=(Lr (CD d1 d2) (vn z sp d1.name) (vn z sp d2.name)).map (·.2):=by
     unfold Rr;rw [if_pos ⟨of_decide_eq_true c1.1,c1.2⟩]
    rw [c2] at hB;have hr1:rs[i]? = some rs[i]:=List.getElem?_eq_getElem (by omega);have hr2:rs[j]? = some rs[j]:=List.getElem?_eq_getElem (by omega);have g1:mw H3 pd (.str d1.name) (some (.ref rs[i])):=by rw [← iD hnd hd1 hr1];exact mw.k (k:=Sum.inr d1.name) (sm13 _ _ hpd1)
    have g2:mw H3 pd (.str d2.name) (some (.ref rs[j])):=by rw [← iD hnd hd2 hr2];exact mw.k (k:=Sum.inr d2.name) (sm13 _ _ hpd1)
    walk_at "RD";refine ⟨_,g1,_,g2,c,n,ds,d1,d2,_,_,_,_,rfl,C3,hD,List.mem_of_getElem? hd1,List.mem_of_getElem? hd2,sm13 _ _ (hrs i _ _ hr1 hd1),sm13 _ _ (hrs j _ _ hr2 hd2),by rw [ap,ap],by rw [ap];exact hz.2,?_⟩;cases hc:Lr (CD d1 d2) (vn z sp d1.name) (vn z sp d2.name) with
    | none=>
     rw [hc] at hB;exact fun H4 s4 n4=>⟨(by first | exact ⟨_,_,rfl⟩ | exact ⟨_,rfl⟩ | simp),sm3.trans s4,n4 nt3,s4 _ _ hpn3,hB⟩
    | some e=>
     rw [hc] at hB;have hB:wu n z sp d1 ds=some (d1,d2,e.2):=hB;rw [hB] at hA;have hA:ym n z sp ds=some (d1,d2,e.2):=hA;rw [hA] at q;exact q.step (sm1.trans sm13) fun _=>nt3
   ·have c2:Rr n z sp d1 d2=none:=by
     unfold Rr;rw [if_neg];rintro ⟨z1,z2⟩;rw [decide_eq_true z1,z2] at c1;cases c1
    rw [c2] at hB;exact ⟨⟨_,_,rfl⟩,sm3,nt3,hpn3,hB⟩
  ·rintro σ H' zzq;refine zP fun zzM zzh=>?_
   obtain ⟨⟨y,v',rfl⟩,sm3,nt3,_,hB⟩:=zzq;subst zzh;rw [hsl,List.drop_of_length_le (Nat.le_refl _)] at hB;have hB:wu n z sp d1 ds=none:=hB;rw [hB] at hA;exact ⟨⟨_,_,_,rfl⟩,sm2.trans sm3,nt3,sm3 _ _ hpn2,hA⟩
 ·rintro σ H' zzq;refine zP fun zzM zzh=>?_
  obtain ⟨_,sm,nt,_,hA⟩:=zzq;subst zzh;rw [hsl,List.drop_of_length_le (Nat.le_refl _)] at hA;have hA:ym n z sp ds=none:=hA;rw [hA] at q;exact q _ (sm1.trans sm) nt
end
end My
namespace My
open PySem L2
noncomputable abbrev UD:List Str:=[Str.ofString "crossing",Str.ofString "size",Str.ofString "spans",Str.ofString "lamps",Str.ofString "untils"]
noncomputable def plF (c:Addr) (z:Int) (p lm un:Addr):List (Str × V):=[(Str.ofString "crossing",.ref c),(Str.ofString "size",.int z),(Str.ofString "spans",.ref p),(Str.ofString "lamps",.ref lm),(Str.ofString "untils",.ref un)]
theorem Hq (c:Addr) (z:Int) (p lm un:Addr):(plF c z p lm un).map (·.1)=UD:=rfl
noncomputable def yL (z:Nat) (sp:List SD) (d:WD):List Str:=ml z (Ce d).toNat (Jh d).toNat (ofN d.name sp)
noncomputable def mJ (z:Nat) (sp:List SD) (x:Str):List Int:=Pn (fmF z (ofN x sp))
structure VA (t:Adr) (H:Hp) (a c:Addr) (n:Int) (ds:List WD) (z:Nat) (sp:List SD):Prop where
 at_:∃ dx p lm un,H a=some (.ins t.Ld dx (plF c z p lm un))∧ad t H c n ds∧LO H p (List.map sdO sp)∧NK H lm ds (fun d=>.lst (Pb (yL z sp d))) ds.length∧NK H un ds (fun d=>.lst ((mJ z sp d.name).map V.int)) ds.length
noncomputable def dI (t:Adr):Sp:=fun vs H Q _=>∃ (a dx c:Addr) (n:Int) (ds:List WD) (z:Nat) (p:Addr) (sp:List SD),vs=[.ref a,.ref c,.int z,.ref p]∧H a=some (.ins t.Ld dx [])∧ad t H c n ds∧DOk ds∧(0 < z∧z ≤ 1000)∧LO H p (List.map sdO sp)∧aJ z sp∧NoT H ∧
 ∀ H',Qc a H H'→NoT H'→VA t H' a c n ds z sp→Q .non H'
noncomputable def Ty (t:Adr) (c:Addr) (n:Int) (ds:List WD) (z:Nat) (sp:List SD) (H:Hp) (Q:VK) (E:XK):Prop:=
 (Of ds sp=none→Ih ds z sp=none→ym n z sp ds=none→∀ a H',dc H H'→NoT H'→VA t H' a c n ds z sp→Q (.ref a) H') ∧
 (∀ x,Of ds sp=some x→kG t.Gb [(Str.ofString "way",.str x)] H E) ∧
 (∀ e,Of ds sp=none→Ih ds z sp=some e→kG t.Eb [(Str.ofString "way",.str e.1.name),(Str.ofString "at",.int e.1.b)] H E) ∧
 (∀ e,Of ds sp=none→Ih ds z sp=none→ym n z sp ds=some e→kG t.Nb [(Str.ofString "way",.str e.1.name),(Str.ofString "other",.str e.2.1.name),(Str.ofString "at",.int e.2.2)] H E)
theorem Ty.step {t:Adr} {c:Addr} {n:Int} {ds:List WD} {z:Nat} {sp:List SD} {H H1:Hp} {Q:VK} {E:XK} (h:Ty t c n ds z sp H Q E) (s:dc H H1) (nt:NoT H1):Ty t c n ds z sp H1 Q E:=
 ⟨fun h1 h2 h3 a H' s' n' p=>h.1 h1 h2 h3 a H' (s.trans s') n' p,fun x hx=>(h.2.1 x hx).step s fun _=>nt,fun e h1 h2=>(h.2.2.1 e h1 h2).step s fun _=>nt,fun e h1 h2 h3=>(h.2.2.2 e h1 h2 h3).step s fun _=>nt⟩
noncomputable def Bv (t:Adr):Sp:=fun vs H Q E=>∃ (c:Addr) (n:Int) (ds:List WD) (z:Nat) (p:Addr) (sp:List SD),vs=[.ref c,.int z,.ref p]∧ad t H c n ds∧0 < n∧DOk ds∧(0 < z∧z ≤ 1000)∧LO H p (List.map sdO sp)∧aJ z sp∧(∀ s ∈ sp,∃ d,wOf ds s.name=some d)∧NoT H ∧
 Ty t c n ds z sp H Q E
section
variable {w:World} {K:PySem.W.Frag} {mg:Str→Option Value} {t:Adr} {H:Hp} {a c dx p lm un:Addr} {z:Int}
theorem XG (T:Txt w K mg t) (e:H a=some (.ins t.Ld dx (plF c z p lm un))):vk K H a (Str.ofString "lamps") (.ref lm):=⟨_,dx,_,e,T.zk,T.Ln,zd UD 3 (Hq ..) (by decide +kernel) rfl⟩
theorem vF (T:Txt w K mg t) (e:H a=some (.ins t.Ld dx (plF c z p lm un))):vk K H a (Str.ofString "untils") (.ref un):=⟨_,dx,_,e,T.zk,T.wm,zd UD 4 (Hq ..) (by decide +kernel) rfl⟩
end
theorem jF {H:Hp} {a b C C' dx dx':Addr} {fs:List (Str × V)} (ha:H a=some (.ins C dx [])) (hb:H b=some (.ins C' dx' fs)) (hf:fs ≠ []):b ≠ a:=fun z=>by
 subst z;rw [hb] at ha;have e:=Option.some.inj ha;injection e with _ _ e3;exact hf e3
theorem ad.sameX {t:Adr} {H H':Hp} {a c C dx:Addr} {n:Int} {ds:List WD} (h:ad t H c n ds) (s:Qc a H H') (ha:H a=some (.ins C dx [])):ad t H' c n ds:=by
 obtain ⟨h0,dx',wl,nd,e1,⟨as,w1,w2,al⟩,e3⟩:=h;refine ⟨h0,dx',wl,nd,s _ _ (jF ha e1 (by unfold cF;simp)) e1,⟨as,s _ _ (kf w1 ha (by intro z;cases z)) w1,w2,fun i b d hb hd=>?_⟩,s _ _ (kf e3 ha (by intro z;cases z)) e3⟩;obtain ⟨k,dxb,eb⟩:=al i b d hb hd;exact ⟨k,dxb,s _ _ (jF ha eb (by unfold Pp;simp)) eb⟩
theorem LO.sameX {H H':Hp} {a p C dx:Addr} {sp:List SD} (h:LO H p (List.map sdO sp)) (s:Qc a H H') (ha:H a=some (.ins C dx [])):LO H' p (List.map sdO sp):=by
 obtain ⟨qs,l1,l2⟩:=h;refine ⟨qs,s _ _ (kf l1 ha (by intro z;cases z)) l1,l2.1,fun i q o hq ho=>?_⟩;have e:=l2.2 i q o hq ho;refine s _ _ (kf e ha ?_) e;obtain ⟨d,_,rfl⟩:=lc ho;intro z;cases z
section
variable {P:Program} {w:World} {K:PySem.W.Frag} {mg:Str→Option Value} {base:Heap} {t:Adr}
theorem NM (T:Txt w K mg t):Kb P w K mg base CX0 4 t.eg t.oi q45 (dI t):=by
 have g59:Kb P w K mg base CX0 3 t.Ju t.Jw q34 (vE t):=(rK T).mono (by decide);have g28:Kb P w K mg base CX0 3 t.re t.We ["marks"] Xv:=(SA T).mono (by decide);have g29:Kb P w K mg base CX0 3 t.Cf t.og q24 oK:=(CM T).mono (by decide);have g14:Kb P w K mg base CX0 3 t.Gc t.Vc ["self"] (Gn t):=(oq T).mono (by decide);have g12:Kb P w K mg base CX0 3 t.bc t.Jc q9 (Qj t):=(ul T).mono (by decide);refine T.yr.ok Sk (fun vs H Q E h=>?_) (fun _ _ _ s H vs Q E hr h=>?_)
 ·obtain ⟨a,dx,c,n,ds,z,p,sp,rfl,_⟩:=h;rfl
 obtain ⟨a,dx,c,n,ds,z,p,sp,rfl,ha,C,hD,hz,L,hs,nt0,q⟩:=h;have hu:=wG hr;refine ⟨_,(db (Kg (pv 0) (pv 1) rfl)
   (db (Kg (pv 0) (pv 2) rfl)
   (db (Kg (pv 0) (pv 3) rfl)
   (db (Kg (pv 0) xq rfl)
   (db (Kg (pv 0) xq rfl)
   (gb (se PassesOwn.never rfl (Wd (Fd (pv 1) T.ac T.ie g14 hr T.ce .nil Hd)) (Ab (i:=4) Sk.nd) (db (Rv hu (Rc (pv 0) rfl) (pv 4) (Db g59 hr T.DM T.zE.kp T.cM (bb (bd (pv 1) T.ac T.jd g12 hr T.md .nil Hd (bb (pv 4) fb)) (bb (pv 2) (bb (pv 3) fb)))) rfl)
   (gb (Rv hu (Rc (pv 0) rfl) (pv 4) (Db g28 hr T.km T.rh.kp T.um (bb (Db g29 hr T.Fp T.Qi.kp T.Dp (bb (pv 2) (bb (pv 3) (bb (pv 4) fb)))) fb)) rfl)))))))))),?_⟩
 walk_at "RD";refine ⟨_,_,_,ha,T.zk,T.Tp,by decide,?_⟩;refine ⟨_,_,_,cb,T.zk,T.rp,wo (n:=999) (by decide),?_⟩;refine ⟨_,_,_,cb,T.zk,T.yn,wo (n:=999) (wo (n:=998) (by decide)),fun lm hlm=>?_⟩;simp only [uk] at hlm ⊢;rw [show Vh (Str.ofString "crossing") (V.ref c) ([]:List (Str × V))=[(Str.ofString "crossing",V.ref c)] from rfl,show Vh (Str.ofString "size") (V.int z) [(Str.ofString "crossing",V.ref c)]=[(Str.ofString "crossing",V.ref c),(Str.ofString "size",V.int z)] from yd [Str.ofString "crossing"] rfl (by decide +kernel),show Vh (Str.ofString "spans") (V.ref p) [(Str.ofString "crossing",V.ref c),(Str.ofString "size",V.int z)]=[(Str.ofString "crossing",V.ref c),(Str.ofString "size",V.int z),(Str.ofString "spans",V.ref p)] from yd [Str.ofString "crossing",Str.ofString "size"] rfl (by decide +kernel)] at hlm ⊢;have hla:a ≠ lm:=fun z=>by subst z;rw [cb] at hlm;cases hlm
 have hHl:H lm=none:=by rw [rb (Ne.symm hla)] at hlm;exact hlm
 refine ⟨t.Ld,dx,[(Str.ofString "crossing",V.ref c),(Str.ofString "size",V.int z),(Str.ofString "spans",V.ref p)],by rw [rb hla];exact cb,T.zk,T.Ln,show (3:Nat) < 1000 by decide,fun un hun=>?_⟩;rw [show Vh (Str.ofString "lamps") (V.ref lm) [(Str.ofString "crossing",V.ref c),(Str.ofString "size",V.int z),(Str.ofString "spans",V.ref p)]=[(Str.ofString "crossing",V.ref c),(Str.ofString "size",V.int z),(Str.ofString "spans",V.ref p),(Str.ofString "lamps",V.ref lm)] from yd [Str.ofString "crossing",Str.ofString "size",Str.ofString "spans"] rfl (by decide +kernel)] at hun ⊢;have hua:a ≠ un:=fun z=>by subst z;rw [cb] at hun;cases hun
 have hul:un ≠ lm:=fun z=>by subst z;rw [rb (Ne.symm hua),cb] at hun;cases hun
 have hHu:H un=none:=by rw [rb (Ne.symm hua),rb hul,rb (Ne.symm hua)] at hun;exact hun
 refine ⟨t.Ld,dx,[(Str.ofString "crossing",V.ref c),(Str.ofString "size",V.int z),(Str.ofString "spans",V.ref p),(Str.ofString "lamps",V.ref lm)],by rw [rb hua];exact cb,T.zk,T.wm,show (4:Nat) < 1000 by decide,?_⟩;rw [show Vh (Str.ofString "untils") (V.ref un) [(Str.ofString "crossing",V.ref c),(Str.ofString "size",V.int z),(Str.ofString "spans",V.ref p),(Str.ofString "lamps",V.ref lm)]=plF c z p lm un from yd [Str.ofString "crossing",Str.ofString "size",Str.ofString "spans",Str.ofString "lamps"] rfl (by decide +kernel)];have hf:∃ H5:Hp,H5=upd (upd (upd (upd (upd H a (.ins t.Ld dx [(Str.ofString "crossing",V.ref c),(Str.ofString "size",V.int z),(Str.ofString "spans",V.ref p)])) lm (.dK [])) a (.ins t.Ld dx [(Str.ofString "crossing",V.ref c),(Str.ofString "size",V.int z),(Str.ofString "spans",V.ref p),(Str.ofString "lamps",V.ref lm)])) un (.dK [])) a (.ins t.Ld dx (plF c z p lm un)):=⟨_,rfl⟩;obtain ⟨H5,h5⟩:=hf;rw [← h5];have g1:H5 a=some (.ins t.Ld dx (plF c z p lm un)):=by rw [h5,cb]
 have g2:H5 lm=some (.dK []):=by rw [h5,rb (Ne.symm hla),rb (Ne.symm hul),rb (Ne.symm hla),cb]
 have g3:H5 un=some (.dK []):=by rw [h5,rb (Ne.symm hua),cb]
 have g4:Qc a H H5:=fun b u hb e=>by rw [h5,rb hb,rb (xb e hHu),rb hb,rb (xb e hHl),rb hb];exact e
 have g5:NoT H5:=by rw [h5];exact ((((nt0.upd).upd).upd).upd).upd
 clear h5;have C5:=C.sameX g4 ha;obtain ⟨⟨hnd,hdl⟩,dxc,wl,nd,e1,_,_⟩:=id C5;refine ⟨_,_,e1,JA _ _ _ (by decide +kernel),c,n,ds,rfl,C5,fun pn hpn=>⟨pn,rfl,⟨_,SqL.of cb⟩,?_⟩⟩;refine uj.list (xs:=Pb (ds.map (·.name))) (fun i σ H'=>(∃ y,σ=[some (V.ref a),some (V.ref c),some (V.int z),some (V.ref p),y])∧Qc a H H'∧NoT H'∧H' a=some (.ins t.Ld dx (plF c z p lm un))∧H' pn=some (.lst (Pb (ds.map (·.name))))∧NK H' lm ds (fun d=>.lst (Pb (yL z sp d))) i∧NK H' un ds (fun d=>.lst ((mJ z sp d.name).map V.int)) i) ?_ ?_ ?_ ?_
 ·have sn:=jb (o:=.lst (Pb (ds.map (·.name)))) hpn;exact ⟨⟨_,rfl⟩,g4.trans (Qc.of sn),g5.upd,sn _ _ g1,cb,⟨[],rfl,by rw [sn _ _ g2];simp [nkv],fun i r d h=>by simp at h⟩,⟨[],rfl,by rw [sn _ _ g3];simp [nkv],fun i r d h=>by simp at h⟩⟩
 ·rintro i σ H' hi zzq;refine zP fun zzM zzh=>?_
  obtain ⟨_,_,_,_,h,_⟩:=zzq;subst zzh;exact SqL.of h
 ·rintro i v σ H' hv zzq;refine zP fun zzM zzh=>?_
  obtain ⟨⟨y,rfl⟩,sx,nt,ha',hpn',⟨rl,hrl,hlm',hrs⟩,⟨ru,hru,hun',hus⟩⟩:=zzq;obtain ⟨x,hx,rfl⟩:=lc hv;obtain ⟨d,hd,rfl⟩:=lc hx;have C':=C.sameX sx ha;have L':=L.sameX sx ha;obtain ⟨_,dxc',wl',nd',e1',_,_⟩:=id C';subst zzh;walk_at "RD";refine ⟨_,_,e1',JA _ _ _ (by decide +kernel),c,n,ds,i,d,rfl,C',hd,fun wa W=>?_⟩;have hdi:ds[rl.length]? = some d:=by rw [hrl];exact hd
  have hdj:ds[ru.length]? = some d:=by rw [hru];exact hd
  refine ⟨wa,d,z,p,sp,rfl,hz,W,L',hs,(hD d (List.mem_of_getElem? hd)).2,fun r1 H1 s1 n1 hr1 h1=>⟨_,XG T (s1 _ _ ha'),lm,rfl,_,aG.k (k:=Sum.inr d.name) (s1 _ _ hlm') (Nat.lt_of_le_of_lt (show (nkv ds rl).length ≤ 12 by unfold nkv;rw [List.length_map,List.length_zip];omega) (by decide)),?_⟩⟩;rw [Gy hnd hdi];have kl:∀ {b:Addr} {u:HO},H' b=some u→b ≠ lm→upd H1 lm (.dK (nkv ds (rl ++ [r1]))) b=some u:=fun e h=>by rw [rb h];exact s1 _ _ e
  have k1:Qc a H (upd H1 lm (.dK (nkv ds (rl ++ [r1])))):=fun b u hb e=>kl (sx b u hb e) (xb e hHl)
  refine ⟨z,p,d.name,sp,rfl,hz,L.sameX k1 ha,hs,fun r3 H3 s3 n3 hr3 h3=>⟨r3,_,rfl,h3,by rw [bp];exact hz,fun r4 H4 s4 n4 hr4 h4=>?_⟩⟩;have s34:=s3.trans s4;have un2:H4 un=some (.dK (nkv ds ru)):=s34 _ _ (kl hun' hul);have a2:H4 a=some (.ins t.Ld dx (plF c z p lm un)):=s34 _ _ (kl ha' hla);refine ⟨_,vF T a2,un,rfl,_,aG.k (k:=Sum.inr d.name) un2 (Nat.lt_of_le_of_lt (show (nkv ds ru).length ≤ 12 by unfold nkv;rw [List.length_map,List.length_zip];omega) (by decide)),?_⟩;rw [Gy hnd hdj];have ku:∀ {b:Addr} {u:HO},upd H1 lm (.dK (nkv ds (rl ++ [r1]))) b=some u→b ≠ un→upd H4 un (.dK (nkv ds (ru ++ [r4]))) b=some u:=fun e h=>by rw [rb h];exact s34 _ _ e
  have nel:∀ {b:Addr} {ys:List V},H' b=some (.lst ys)→b ≠ lm:=fun e=>kf e hlm' (by intro z;cases z)
  have neu:∀ {b:Addr} {ys:List V},H' b=some (.lst ys)→b ≠ un:=fun e=>kf e hun' (by intro z;cases z)
  have r1l:r1 ≠ lm:=kf h1 (s1 _ _ hlm') (by intro z;cases z);have r1u:r1 ≠ un:=kf h1 (s1 _ _ hun') (by intro z;cases z);have r4u:r4 ≠ un:=kf h4 un2 (by intro z;cases z);refine ⟨⟨_,rfl⟩,fun b u hb e=>ku (k1 b u hb e) (xb e hHu),(n4 (n3 (n1 nt).upd)).upd,ku (kl ha' hla) hua,ku (kl hpn' (nel hpn')) (neu hpn'),⟨rl ++ [r1],by rw [List.length_append,hrl];rfl,ku cb (Ne.symm hul),fun j r e hj he=>?_⟩,⟨ru ++ [r4],by rw [List.length_append,hru];rfl,cb,fun j r e hj he=>?_⟩⟩
  ·rcases Qv hj with ⟨_,z2⟩ | ⟨z1,rfl⟩
   ·have:=hrs j r e z2 he;exact ku (kl this (nel this)) (neu this)
   ·rw [z1,hdi] at he;cases he;exact ku (by rw [rb r1l];exact h1) r1u
  ·rcases Qv hj with ⟨_,z2⟩ | ⟨z1,rfl⟩
   ·have:=hus j r e z2 he;exact ku (kl this (nel this)) (neu this)
   ·rw [z1,hdj] at he;cases he;rw [rb r4u];exact h4
 ·rintro σ H' zzq;refine zP fun zzM zzh=>?_
  obtain ⟨_,sx,nt,ha',_,N1,N2⟩:=zzq;have hsl:(Pb (ds.map (·.name))).length=ds.length:=by unfold Pb;simp
  subst zzh;rw [hsl] at N1 N2;exact q _ sx nt ⟨dx,p,lm,un,ha',C.sameX sx ha,L.sameX sx ha,N1,N2⟩
theorem BA (T:Txt w K mg t):Kb P w K mg base (CX1 P w) 6 t.gg t.Qg q25 (Bv t):=by
 have g12:Kb P w K mg base CX0 5 t.bc t.Jc q9 (Qj t):=(ul T).mono (by decide);have g60:Kb P w K mg base CX0 4 t.eg t.oi q45 (dI t):=NM T;have g61:Kb P w K mg base (CX1 P w) 5 t.Ve t.Vf q37 (pw t):=(zF T).mono (by decide);have g62:Kb P w K mg base (CX1 P w) 5 t.Ye t.ag q14 (yw t):=(dE T).mono (by decide);have g63:Kb P w K mg base (CX1 P w) 5 t.Xe t.Sf q14 (Zx t):=NE T;refine T.Ik.okX Gh (fun vs H Q E h=>?_) (fun _ _ _ s H vs Q E hr h=>?_)
 ·obtain ⟨c,n,ds,z,p,sp,rfl,_⟩:=h;rfl
 obtain ⟨c,n,ds,z,p,sp,rfl,C,hn,hD,hz,L,hs,hw,nt0,q1,q2,q3,q4⟩:=h;refine ⟨_,(db (am (i:=3) Gh.nd rfl (Or.inl rfl) rfl (Wd (pv 2)) (Ud (sc:=ib Gk) rfl (by decide +kernel)) (N:=q48) (sel:=[none,none,none]) (Ie (M:=["crossing","size","rows","spans","name","begin","turns"]) (by decide +kernel)) (Blk.of (fun _ _ _ _=>(Fg (K:=K) (n:=3) rfl rfl (Ub (Ab (i:=0) (Li (N:=q48) (by decide +kernel) rfl)) (Ub (Ab (i:=1) (Li (N:=q48) (by decide +kernel) rfl)) (Ub (Ab (i:=2) (Li (N:=q48) (by decide +kernel) rfl)) Dg))))) (fun _ _ _ _=>⟨_,ui,by walk_at "B"⟩) (fun _ _ _ _=>⟨_,(mj (bb (pv 0) (bb (pv 1) (bb (pv 2) fb)))),by walk_at "B"⟩)) rfl)
   (db (se (Bf ⟨rfl,rfl⟩) rfl (Wd (pv 3)) (Fg (K:=K) (n:=3) rfl rfl (Ub (Ab (i:=4) Gh.nd) (Ub (Ab (i:=5) Gh.nd) (Ub (Ab (i:=6) Gh.nd) Dg)))) (gb (Ic (bd (pv 0) T.ac T.jd g12 hr T.md .nil Hd (bb (pv 4) fb)))))
   (db (Ic (Ol g61 hr rfl T.Ot T.Hj.kp T.Nt .nil Me (bb (pv 0) (bb (pv 3) fb))))
   (db (Ic (Ol g62 hr rfl T.Jt T.xj.kp T.Kt .nil Me (bb (pv 0) (bb (pv 1) (bb (pv 3) fb)))))
   (db (Ic (Ol g63 hr rfl T.Zs T.zj.kp T.Wt .nil Me (bb (pv 0) (bb (pv 1) (bb (pv 3) fb)))))
   (gb (Ob (Qo T.RK g60 hr rfl T.CL T.sy .nil Hd (bb (pv 0) (bb (pv 1) (bb (pv 3) fb))))))))))),?_⟩
 walk_at "RD";obtain ⟨qs,l1,lq⟩:=L;have hql:qs.length=sp.length:=by rw [lq.1,List.length_map]
 have hs1:=hs.1;refine ⟨⟨_,SqL.of l1⟩,?_⟩;refine Zd.list (xs:=qs.map V.ref) (fun i ys H'=>∃ os:List Addr,ys=os.map V.ref∧LQ H' os ((sp.take i).map sdO)∧dc H H'∧NoT H') (Nat.le_trans (show (qs.map V.ref).length ≤ 100 by rw [List.length_map];omega) (by decide)) ⟨[],rfl,by rw [List.take_zero];exact LQ.nil _,dc.refl _,nt0⟩ ?_ ?_ ?_
 ·rintro i ys H' hi zzq;refine zP fun zzM zzh=>?_
  obtain ⟨os,rfl,r,sm,_⟩:=zzq;subst zzh;refine ⟨(SqL.of l1).same sm,?_⟩;rw [List.length_map,r.1,List.length_map,List.length_take];omega
 ·rintro i v ys H' hv ⟨os,rfl,r,sm,nt⟩ N hN;obtain ⟨qi,hqi,rfl⟩:=lc hv;obtain ⟨o,ho,e⟩:=lq.at hqi;obtain ⟨d,hd,rfl⟩:=lc ho;have e':=sm _ _ e;dsimp only at hN;rw [Pe hd,List.map_append] at hN;walk_at "RD";refine ⟨_,SqT.of e',rfl,_,_,rfl,_,_,rfl,_,_,rfl,rfl,Sub.name3,by decide,fun p1 hp1=>?_⟩;exact hN _ _ ⟨os ++ [p1],by rw [List.map_append];rfl,(r.same (jb hp1)).app (LQ.one cb),sm.trans (jb hp1),nt.upd⟩
 rintro ys H1 ⟨os,rfl,r,sm1,nt1⟩ p1 hp1;rw [List.take_of_length_le (by rw [List.length_map];omega)] at r;have s2:dc H1 (upd H1 p1 (.lst (os.map V.ref))):=jb hp1;have nt2:NoT (upd H1 p1 (.lst (os.map V.ref))):=nt1.upd;have L2:LO (upd H1 p1 (.lst (os.map V.ref))) p1 (List.map sdO sp):=⟨os,cb,r.same s2⟩;have sm2:=sm1.trans s2;generalize upd H1 p1 (.lst (os.map V.ref))=H2 at s2 nt2 L2 sm2 ⊢;have C2:=C.same sm2;obtain ⟨_,dxc,wl,nd,e1,_,_⟩:=id C2;obtain ⟨qs2,m1,mq⟩:=id L2;have hql2:qs2.length=sp.length:=by rw [mq.1,List.length_map]
 walk_at "RD";refine ⟨⟨_,SqL.of m1⟩,?_⟩;refine uj.list (xs:=qs2.map V.ref) (fun i σ H'=>(∃ x y z',σ=[some (V.ref c),some (V.int z),some (V.ref p),some (V.ref p1),x,y,z'])∧H'=H2) ?_ ?_ ?_ ?_
 ·exact ⟨⟨_,_,_,rfl⟩,rfl⟩
 ·rintro i σ H' hi ⟨_,rfl⟩;exact SqL.of m1
 ·rintro i v σ H' hv zzq;refine zP fun zzM zzh=>?_
  obtain ⟨⟨x,y,z',rfl⟩,rfl⟩:=zzq;obtain ⟨qi,hqi,rfl⟩:=lc hv;obtain ⟨o,ho,e⟩:=mq.at hqi;obtain ⟨sd,hsd,rfl⟩:=lc ho;obtain ⟨d,hd⟩:=hw sd (List.mem_of_getElem? hsd);obtain ⟨hdn,j,hj⟩:=eJ hd;subst zzh;walk_at "RD";exact ⟨_,SqT.of e,rfl,_,_,rfl,_,_,rfl,_,_,rfl,rfl,_,_,e1,JA _ _ _ (by decide +kernel),c,n,ds,j,d,by rw [hdn],C2,hj,fun a W=>⟨(by first | exact ⟨_,_,_,rfl⟩ | exact ⟨_,_,rfl⟩ | exact ⟨_,rfl⟩ | simp),rfl⟩⟩
 rintro σ H' zzq;refine zP fun zzM zzh=>?_
 obtain ⟨⟨x,y,z',rfl⟩,rfl⟩:=zzq;subst zzh;walk_at "RD";refine ⟨c,n,ds,p1,sp,rfl,C2,hD,L2,hs1,?_⟩;cases hN:Of ds sp with
 | some x=>exact (q2 x hN).step sm2 fun _=>nt2
 | none=>
 intro H3 s3 n3;have nt3:=n3 nt2;have C3:=C2.same s3;have L3:=L2.same s3;walk_at "RD";refine ⟨c,n,ds,z,p1,sp,rfl,C3,hD,⟨by omega,by omega⟩,L3,hs,hw,?_⟩;cases hS:Ih ds z sp with
 | some e=>exact (q3 e hN hS).step (sm2.trans s3) fun _=>nt3
 | none=>
 intro H4 s4 n4;have nt4:=n4 nt3;have C4:=C3.same s4;have L4:=L3.same s4;walk_at "RD";refine ⟨c,n,ds,z,p1,sp,rfl,C4,hn,hD,hz,L4,hs,nt4,?_⟩;cases hC:ym n z sp ds with
 | some e=>exact (q4 e hN hS hC).step ((sm2.trans s3).trans s4) fun _=>nt4
 | none=>
 intro H5 s5 nt5;have C5:=C4.same s5;have L5:=L4.same s5;walk_at "RD";intro a dx ha hdx hne;have sc:dc H5 (upd (upd H5 dx (.own a)) a (.ins t.Ld dx [])):=((dc.refl H5).updN hdx).updN ha;refine ⟨a,dx,c,n,ds,z,p1,sp,rfl,cb,C5.same sc,hD,hz,L5.same sc,hs,(nt5.upd).upd,fun H6 s6 nt6 PA=>⟨rfl,?_⟩⟩;have sm5:=((sm2.trans s3).trans s4).trans s5;exact q1 hN hS hC a H6 (Fe (sm5.trans sc) s6 (sm5.free ha)) nt6 PA
end
end My
namespace My
open PySem L2
noncomputable def Lv (ws:List Str):Except Nat Int:=if wd ws 0 ∈ [Str.ofString "round"] then (xy (wd ws 1) 1 240).elim (.error 1) fun v=>if 2 < ws.length then .error 2 else .ok v else .error 0
noncomputable def Zi (ds:List WD) (sp:List SD):List Str:=(ds.map (·.name)).filter fun x=>decide ((ofN x sp).length < 3)
noncomputable def Ct (z:Int) (known:List Str) (ws:List Str):Except Nat SD:=if wd ws 0 ∈ [Str.ofString "free"] then
 (if wd ws 1 ∈ known then (xy (wd ws 2) 0 (z - 1)).elim (.error 2) fun b=>(xy (wd ws 3) 1 z).elim (.error 3) fun n=>if 4 < ws.length then .error 4 else .ok ⟨wd ws 1,b,n⟩ else .error 1) else .error 0
noncomputable def Nk (z:Int) (ds:List WD):List (List Str)→Nat→List SD→Except (Nat × Nat) (List SD)
 | [],_,sp=>.ok sp
 | ws :: r,i,sp=>match Ct z (Zi ds sp) ws with
  | .error k=>.error (i,k)
  | .ok d=>Nk z ds r (i + 1) (sp ++ [d])
noncomputable def BG (ds:List WD) (r0:List Str) (rest:List (List Str)):Except (Nat × Nat) (Int × List SD):=match Lv r0 with
 | .error k=>.error (0,k)
 | .ok z=>match Nk z ds rest 1 [] with
  | .error e=>.error e
  | .ok sp=>.ok (z,sp)
theorem IG {ws:List Str} {n:Int} (h:Lv ws=.ok n):1 ≤ n∧n ≤ 240:=by
 unfold Lv at h;split at h
 ·cases e:xy (wd ws 1) 1 240 with
  | none=>rw [e] at h;cases h
  | some v=>
   rw [e] at h;have hv:Uq (wd ws 1) 1 240=.int v:=by rw [Ox,e];rfl
   have:=Fv hv;replace h:(if 2 < ws.length then Except.error 2 else Except.ok v)=Except.ok n:=h;split at h
   ·cases h
   ·cases h;exact ⟨this.2.1,this.2.2⟩
 ·cases h
theorem QH {z:Int} {known ws:List Str} {d:SD} (h:Ct z known ws=.ok d):d.name ∈ known∧0 ≤ d.b∧d.b < z∧1 ≤ d.n∧d.n ≤ z:=by
 unfold Ct at h;split at h
 ·split at h
  ·rename_i h1;cases e:xy (wd ws 2) 0 (z - 1) with
   | none=>rw [e] at h;cases h
   | some b=>
    rw [e] at h;have hb:Uq (wd ws 2) 0 (z - 1)=.int b:=by rw [Ox,e];rfl
    have g1:=Fv hb;replace h:((xy (wd ws 3) 1 z).elim (.error 3) fun n=>if 4 < ws.length then .error 4 else .ok ⟨wd ws 1,b,n⟩)=Except.ok d:=h;cases e2:xy (wd ws 3) 1 z with
    | none=>rw [e2] at h;cases h
    | some n=>
     rw [e2] at h;have hn:Uq (wd ws 3) 1 z=.int n:=by rw [Ox,e2];rfl
     have g2:=Fv hn;replace h:(if 4 < ws.length then Except.error 4 else Except.ok (⟨wd ws 1,b,n⟩:SD))=Except.ok d:=h;split at h
     ·cases h
     ·cases h;exact ⟨h1,g1.2.1,by show b < z;omega,g2.2.1,g2.2.2⟩
  ·cases h
 ·cases h
noncomputable def jG (t:Adr):Sp:=fun vs H Q E=>∃ q row ws,vs=[.ref q]∧mf t H q row ws 0∧(0 ≤ row∧row ≤ 10000)∧NoT H∧Oc (Lv ws) (fun n=>HN q H (Q (.int n))) (fun k=>Ls t row k q H E)
noncomputable def nF (t:Adr):Sp:=fun vs H Q E=>∃ q row ws c n ds z p sp,vs=[.ref q,.ref c,.int z,.ref p]∧mf t H q row ws 0∧(0 ≤ row∧row ≤ 10000)∧ad t H c n ds∧(∀ d ∈ ds,d.name ≠ Str.ofString "")∧(1 ≤ z∧z ≤ 240)∧LO H p (List.map sdO sp)∧sp.length ≤ 100∧NoT H ∧
 Oc (Ct z (Zi ds sp) ws) (fun d=>∀ x H',Qc q H H'→NoT H'→H' x=some (sdO d)→H x=none→Q (.ref x) H') (fun k=>Ls t row k q H E)
noncomputable def lB (t:Adr):Sp:=fun vs H Q E=>∃ c n ds x r0 rest,vs=[.ref c,.str x]∧ad t H c n ds∧0 < n∧DOk ds∧(∀ d ∈ ds,d.name ≠ Str.ofString "")∧Th x=r0 :: rest∧x.length ≤ 20000∧rest.length ≤ 100∧(∀ r ∈ r0 :: rest,r ≠ []∧r.length ≤ 1000∧∀ y ∈ r,y.length ≤ 1000)∧NoT H ∧
 Oc2 (BG ds r0 rest) (fun m=>Ty t c n ds m.1.toNat m.2 H Q E) (fun i k=>JN t i k H E)
noncomputable def SpG (z:Int) (ds:List WD) (sp:List SD):Prop:=∀ s ∈ sp,s.name ∈ ds.map (·.name)∧0 ≤ s.b∧s.b < z∧1 ≤ s.n∧s.n ≤ z
theorem SpG.ok {z:Int} {ds:List WD} {sp:List SD} (h:SpG z ds sp) (hl:sp.length ≤ 100) (hz:z ≤ 240):aJ z sp:=⟨hl,fun d hd=>by have:=h d hd;omega⟩
theorem SpG.wOf {z:Int} {ds:List WD} {sp:List SD} (h:SpG z ds sp):∀ s ∈ sp,∃ d,wOf ds s.name=some d:=fun s hs=>by
 obtain ⟨d,hd,e⟩:=List.mem_map.mp (h s hs).1;unfold My.wOf;cases hf:ds.find? fun d=>decide (d.name=s.name) with
 | some d'=>exact ⟨d',rfl⟩
 | none=>exact absurd (List.find?_eq_none.mp hf d hd) (by simp [e])
theorem ad.sameR {t:Adr} {H H':Hp} {q c:Addr} {n:Int} {ds:List WD} {row:Int} {ws:List Str} {k:Nat} (h:ad t H c n ds) (s:Qc q H H') (R:mf t H q row ws k):ad t H' c n ds:=by
 obtain ⟨h0,dx',wl,nd,e1,⟨as,w1,w2,al⟩,e3⟩:=h;obtain ⟨_,dq,ta,f1,f2⟩:=id R;refine ⟨h0,dx',wl,nd,s _ _ (fun z=>?_) e1,⟨as,s _ _ (kf w1 f1 (by intro z;cases z)) w1,w2,fun i b d hb hd=>?_⟩,s _ _ (kf e3 f1 (by intro z;cases z)) e3⟩
 ·subst z;rw [e1] at f1;have e:=Option.some.inj f1;injection e with _ _ e4;unfold cF rdF at e4;injection e4 with e5 _;injection e5 with e6 _;exact absurd e6 (by decide +kernel)
 ·have W:=al i b d hb hd;have hn:=Iw W R;exact ⟨W.1,W.2.imp fun dx e=>s _ _ hn e⟩
theorem LO.sameR {t:Adr} {H H':Hp} {q p:Addr} {sp:List SD} {row:Int} {ws:List Str} {k:Nat} (h:LO H p (List.map sdO sp)) (s:Qc q H H') (R:mf t H q row ws k):LO H' p (List.map sdO sp):=by
 obtain ⟨_,dq,ta,f1,f2⟩:=id R;obtain ⟨qs,l1,l2⟩:=h;refine ⟨qs,s _ _ (kf l1 f1 (by intro z;cases z)) l1,l2.1,fun i q o hq ho=>?_⟩;have e:=l2.2 i q o hq ho;refine s _ _ (kf e f1 ?_) e;obtain ⟨d,_,rfl⟩:=lc ho;intro z;cases z
section
variable {P:Program} {w:World} {K:PySem.W.Frag} {mg:Str→Option Value} {base:Heap} {t:Adr}
theorem sK (T:Txt w K mg t):Kb P w K mg base (CX1 P w) 6 t.Og t.Bi ["reader"] (jG t):=by
 have g18:Kb P w K mg base (CX1 P w) 5 t.Sb t.Bc q15 (Nr K t):=Hx T;have g19:Kb P w K mg base (CX1 P w) 5 t.Jb t.Tb q12 (sv t):=jB T;have g30:Kb P w K mg base (CX1 P w) 5 t.Rb t.Ac ["self"] (Uy t):=(VD T).mono (by decide);refine T.Xm.okX Ip (fun vs H Q E h=>?_) (fun _ _ _ s H vs Q E hr h=>?_)
 ·obtain ⟨q,row,ws,rfl,_⟩:=h;rfl
 obtain ⟨q,row,ws,rfl,R,hrow,nt,qq⟩:=h;refine ⟨_,(db (Ic (bd (pv 0) T.wb T.me g18 hr T.je .nil Me (bb (Hg (bb qc fb)) fb)))
   (db (Bb (i:=1) Ip.nd (bd (pv 0) T.wb T.kc g19 hr T.jc .nil Me (bb ub (bb (Yd rfl T.yy T.Fy) fb))))
   (db (Ic (Fd (pv 0) T.wb T.jf g30 hr T.gf .nil Me))
   (gb (Ob (pv 1)))))),?_⟩
 obtain ⟨_,dx,ta,e1,e2⟩:=id R;walk_at "RD";refine ⟨_,_,e1,mf.no _ _ _ (by decide +kernel),by decide,fun p hp=>?_⟩;have s0:dc H (upd H p (.lst [V.str (Str.ofString "round")])):=jb hp;refine ⟨q,row,ws,0,p,[Str.ofString "round"],rfl,R.same s0,hrow,Nat.zero_le _,SqL.of cb,fun hin=>fun H1 s1 n1 R1=>?_,fun hnin=>?_⟩
 ·obtain ⟨_,dx1,ta1,f1,f2⟩:=id R1;have nt1:=n1 nt.upd;have x1:Qc q H H1:=(Qc.of s0).trans s1;have l1:1 ≤ ws.length:=nG (k:=0) (by rw [List.mem_singleton.mp hin];decide +kernel);unfold Lv at qq;rw [if_pos hin] at qq;walk_at "RD";refine ⟨_,_,f1,mf.no _ _ _ (by decide +kernel),⟨q,row,ws,1,1,240,rfl,R1,hrow,l1,nt1,fun v hv=>fun H2 s2 n2 R2=>?_,fun hv=>?_⟩⟩
  ·obtain ⟨_,dx2,ta2,g1,g2⟩:=id R2;rw [Gv hv] at qq;have qq:Oc (if 2 < ws.length then Except.error 2 else Except.ok v) (fun n=>HN q H (Q (.int n))) (fun k=>Ls t row k q H E):=qq;walk_at "RD";refine ⟨_,_,g1,mf.no _ _ _ (by decide +kernel),⟨q,row,ws,2,rfl,R2,hrow,fun hl=>?_,fun hl=>?_⟩⟩
   ·rw [if_neg hl] at qq;walk_at "RD";exact qq H2 (x1.trans s2) (n2 nt1)
   ·rw [if_pos hl] at qq;exact (show Ls t row 2 q H E from qq).step (x1.trans s2) fun _=>n2 nt1
  ·rw [Vq hv] at qq;exact (show Ls t row 1 q H E from qq).step x1 fun _=>nt1
 ·unfold Lv at qq;rw [if_neg hnin] at qq;exact (show Ls t row 0 q H E from qq).step (Qc.of s0) fun n=>n.upd
theorem VJ (T:Txt w K mg t):Kb P w K mg base (CX1 P w) 6 t.Wg t.gi q35 (nF t):=by
 have g18:Kb P w K mg base (CX1 P w) 5 t.Sb t.Bc q15 (Nr K t):=Hx T;have g19:Kb P w K mg base (CX1 P w) 5 t.Jb t.Tb q12 (sv t):=jB T;have g30:Kb P w K mg base (CX1 P w) 5 t.Rb t.Ac ["self"] (Uy t):=(VD T).mono (by decide);have g13:Kb P w K mg base CX0 5 t.Ze t.Lf q10 Co:=(Gs T).mono (by decide);have g14:Kb P w K mg base CX0 5 t.Gc t.Vc ["self"] (Gn t):=(oq T).mono (by decide);refine T.Am.okX bj (fun vs H Q E h=>?_) (fun _ _ _ s H vs Q E hr h=>?_)
 ·obtain ⟨q,row,ws,c,n,ds,z,p,sp,rfl,_⟩:=h;rfl
 obtain ⟨q,row,ws,c,n,ds,z,p,sp,rfl,R,hrow,C,hD,hz,L,hsl,nt,qq⟩:=h;refine ⟨_,(db (Ic (bd (pv 0) T.wb T.me g18 hr T.je .nil Me (bb (Hg (bb qc fb)) fb)))
   (db (Bb (i:=4) bj.nd (bd (pv 0) T.wb T.me g18 hr T.je .nil Me (bb (yj rfl (Wd (Fd (pv 1) T.ac T.ie g14 hr T.ce .nil Hd)) (Ud (sc:=ib Fk) rfl (by decide +kernel)) (N:=["known","spans"]) (sel:=[none,some 3]) (Ie (M:=["reader","crossing","size","spans","name","begin","turns"]) (by decide +kernel)) (Blk.of (fun _ _ _ _=>(Ab (i:=0) (Li (N:=["known","spans"]) (by decide +kernel) rfl))) (fun _ _ _ _=>⟨_,(Hv (zc wt (fc Lc rfl T.Zm Zc (bb (Db g13 hr T.Wj T.kh.kp T.Tj (bb (pv 1) (bb (pv 0) fb))) fb)) (Yd rfl T.Nw T.Gx) (Hc _))),by walk_at "B"⟩) (fun _ _ _ _=>⟨_,(pv 0),by walk_at "B"⟩))) fb)))
   (db (Bb (i:=5) bj.nd (bd (pv 0) T.wb T.kc g19 hr T.jc .nil Me (bb ub (bb (Vb gk (pv 2) ub) fb))))
   (db (Bb (i:=6) bj.nd (bd (pv 0) T.wb T.kc g19 hr T.jc .nil Me (bb ub (bb (pv 2) fb))))
   (db (Ic (Fd (pv 0) T.wb T.jf g30 hr T.gf .nil Me))
   (gb (Ob (mj (bb (pv 4) (bb (pv 5) (bb (pv 6) fb))))))))))),?_⟩
 obtain ⟨_,dx,ta,e1,e2⟩:=id R;walk_at "RD";refine ⟨_,_,e1,mf.no _ _ _ (by decide +kernel),by decide,fun p0 hp0=>?_⟩;have s0:dc H (upd H p0 (.lst [V.str (Str.ofString "free")])):=jb hp0;unfold Ct at qq;refine ⟨q,row,ws,0,p0,[Str.ofString "free"],rfl,R.same s0,hrow,Nat.zero_le _,SqL.of cb,fun hin=>fun H1 s1 n1 R1=>?_,fun hnin=>?_⟩
 case refine_2=>
  rw [if_neg hnin] at qq;exact (show Ls t row 0 q H E from qq).step (Qc.of s0) fun n=>n.upd
 rw [if_pos hin] at qq;obtain ⟨_,dx1,ta1,f1,f2⟩:=id R1;have nt1:=n1 nt.upd;have x1:Qc q H H1:=(Qc.of s0).trans s1;have l1:1 ≤ ws.length:=nG (k:=0) (by rw [List.mem_singleton.mp hin];decide +kernel);have C1:=C.sameR x1 R;have L1:=L.sameR x1 R;obtain ⟨⟨_,hdl⟩,dxc,wl,nd,g1,_,_⟩:=id C1;walk_at "RD";refine ⟨_,_,f1,mf.no _ _ _ (by decide +kernel),_,_,g1,JA _ _ _ (by decide +kernel),c,n,ds,rfl,C1,fun pn hpn=>⟨pn,rfl,⟨_,SqL.of cb⟩,?_⟩⟩;have sn:dc H1 (upd H1 pn (.lst (Pb (ds.map (·.name))))):=jb hpn;have hsl':(Pb (ds.map (·.name))).length=ds.length:=by unfold Pb;simp
 refine Zd.list (xs:=Pb (ds.map (·.name))) (fun i ys H'=>ys=Pb (((ds.map (·.name)).take i).filter fun x=>decide ((ofN x sp).length < 3))∧dc (upd H1 pn (.lst (Pb (ds.map (·.name))))) H'∧NoT H') (Nat.le_trans (show _ ≤ 12 by rw [hsl'];omega) (by decide)) ⟨by rw [List.take_zero];rfl,dc.refl _,nt1.upd⟩ ?_ ?_ ?_
 ·rintro i ys H' hi ⟨rfl,sm,_⟩;refine ⟨SqL.of (sm _ _ cb),?_⟩;unfold Pb;rw [List.length_map];exact Nat.le_trans (List.length_filter_le ..) (by rw [List.length_take];omega)
 ·rintro i v ys H' hv ⟨rfl,sm,nt'⟩ N hN;obtain ⟨x,hx,rfl⟩:=lc hv;dsimp only at hN;rw [Pe hx,List.filter_append] at hN;walk_at "RD";refine ⟨Sub.name,p,x,sp,rfl,(L1.same sn).same sm,hsl,fun r H2 s2 n2 ⟨qs,m1,m2⟩=>⟨r,rfl,_,.inl (SqL.of m1),?_⟩⟩;have hml:qs.length=(ofN x sp).length:=by rw [m2.1,List.length_map]
  rw [List.length_map,hml];by_cases c0:(ofN x sp).length < 3
  ·rw [if_pos (decide_eq_true (by omega))];refine hN _ _ ⟨?_,sm.trans s2,n2 nt'⟩;rw [List.filter_cons_of_pos (by simpa using c0)];unfold Pb;rw [List.map_append];rfl
  ·rw [if_neg (by rw [decide_eq_true_eq];omega)];refine hN _ _ ⟨?_,sm.trans s2,n2 nt'⟩;rw [List.filter_cons_of_neg (by simpa using c0),List.filter_nil,List.append_nil]
 rintro ys H2 ⟨rfl,sm2,nt2⟩ pk hpk;rw [hsl',List.take_of_length_le (by rw [List.length_map];exact Nat.le_refl _)];rw [show (ds.map (·.name)).filter (fun x=>decide ((ofN x sp).length < 3))=Zi ds sp from rfl];have sk:dc H1 (upd H2 pk (.lst (Pb (Zi ds sp)))):=(sn.trans sm2).trans (jb hpk);have ntk:NoT (upd H2 pk (.lst (Pb (Zi ds sp)))):=nt2.upd;have hk:upd H2 pk (.lst (Pb (Zi ds sp))) pk=some (.lst (Pb (Zi ds sp))):=cb;generalize upd H2 pk (.lst (Pb (Zi ds sp)))=H3 at sk ntk hk ⊢;have R3:=R1.same sk;have x3:Qc q H H3:=x1.trans (Qc.of sk);walk_at "RD";refine ⟨q,row,ws,1,pk,Zi ds sp,rfl,R3,hrow,l1,SqL.of hk,fun hin1=>fun H4 s4 n4 R4=>?_,fun hnin=>?_⟩
 case refine_2=>
  rw [if_neg hnin] at qq;exact (show Ls t row 1 q H E from qq).step x3 fun _=>ntk
 rw [if_pos hin1] at qq;have nt4:=n4 ntk;have x4:Qc q H H4:=x3.trans s4;obtain ⟨_,dx4,ta4,i1,i2⟩:=id R4;have l2:2 ≤ ws.length:=nG (k:=1) (by
  obtain ⟨d,hd,e⟩:=List.mem_map.mp (List.mem_filter.mp hin1).1;rw [← e];exact hD d hd)
 walk_at "RD";refine ⟨_,_,i1,mf.no _ _ _ (by decide +kernel),⟨q,row,ws,2,0,z - 1,rfl,R4,hrow,l2,nt4,fun b hb=>fun H5 s5 n5 R5=>?_,fun hb=>?_⟩⟩
 case refine_2=>
  rw [Vq hb] at qq;exact (show Ls t row 2 q H E from qq).step x4 fun _=>nt4
 rw [Gv hb] at qq;replace qq:Oc ((xy (wd ws 3) 1 z).elim (.error 3) fun n=>if 4 < ws.length then .error 4 else .ok ⟨wd ws 1,b,n⟩) (fun d:SD=>∀ x H',Qc q H H'→NoT H'→H' x=some (sdO d)→H x=none→Q (.ref x) H') (fun k=>Ls t row k q H E):=qq;have l3:=(Fv hb).1;have nt5:=n5 nt4;have x5:Qc q H H5:=x4.trans s5;obtain ⟨_,dx5,ta5,j1,j2⟩:=id R5;walk_at "RD";refine ⟨_,_,j1,mf.no _ _ _ (by decide +kernel),⟨q,row,ws,3,1,z,rfl,R5,hrow,l3,nt5,fun m hm=>fun H6 s6 n6 R6=>?_,fun hm=>?_⟩⟩
 case refine_2=>
  rw [Vq hm] at qq;exact (show Ls t row 3 q H E from qq).step x5 fun _=>nt5
 rw [Gv hm] at qq;replace qq:Oc (if 4 < ws.length then .error 4 else .ok (⟨wd ws 1,b,m⟩:SD)) (fun d:SD=>∀ x H',Qc q H H'→NoT H'→H' x=some (sdO d)→H x=none→Q (.ref x) H') (fun k=>Ls t row k q H E):=qq;have nt6:=n6 nt5;have x6:Qc q H H6:=x5.trans s6;obtain ⟨_,dx6,ta6,k1,k2⟩:=id R6;walk_at "RD";refine ⟨_,_,k1,mf.no _ _ _ (by decide +kernel),⟨q,row,ws,4,rfl,R6,hrow,fun hl=>?_,fun hl=>?_⟩⟩
 ·rw [if_neg hl] at qq;walk_at "RD";refine ⟨by decide,fun x hx=>?_⟩;have hHx:H x=none:=by
   cases e:H x with
   | none=>rfl
   | some u=>
    by_cases hxq:x=q
    ·subst hxq;rw [k1] at hx;cases hx
    ·rw [x6 _ _ hxq e] at hx;cases hx
  exact qq x _ (x6.trans (Qc.of (jb hx))) nt6.upd cb hHx
 ·rw [if_pos hl] at qq;exact (show Ls t row 4 q H E from qq).step x6 fun _=>nt6
theorem rH (T:Txt w K mg t):Kb P w K mg base (CX1 P w) 8 t.Tg t.Ii q36 (lB t):=by
 have g27:Kb P w K mg base CX0 7 t.Gi t.ak ["text"] (yo t):=(ou T).mono (by decide);have g64:Kb P w K mg base (CX1 P w) 7 t.Og t.Bi ["reader"] (jG t):=(sK T).mono (by decide);have g65:Kb P w K mg base (CX1 P w) 7 t.Wg t.gi q35 (nF t):=(VJ T).mono (by decide);have g31:Kb P w K mg base (CX1 P w) 7 t.gg t.Qg q25 (Bv t):=(BA T).mono (by decide);refine T.Im.okX zh (fun vs H Q E h=>?_) (fun _ _ _ s H vs Q E hr h=>?_)
 ·obtain ⟨c,n,ds,x,r0,rest,rfl,_⟩:=h;rfl
 obtain ⟨c,n,ds,x,r0,rest,rfl,C,hn,hD,hne,hrow,hxl,hrl,hall,nt,qq⟩:=h;refine ⟨_,(db (Bb (i:=2) zh.nd (Db g27 hr T.Kx T.On.kp T.Qw (bb (pv 1) fb)))
   (db (Bb (i:=3) zh.nd (Ol g64 hr rfl T.cy T.Xm.kp T.Gz .nil Me (bb (xc ae (pv 2) ub) fb)))
   (db (Bb (i:=4) zh.nd (Hg fb))
   (db (se (Bf ⟨rfl,rfl⟩) rfl (Wd (pB RC (pv 2) (aE ub) cE)) (Ab (i:=5) zh.nd) (gb (Ic (Mo PySem.F.plainAttrs_list PySem.F.slot_list_append PySem.F.type_list_append Dh (pv 4) (bb (Ol g65 hr rfl T.qy T.Am.kp T.Vy .nil Me (bb (pv 5) (bb (pv 0) (bb (pv 3) (bb (pv 4) fb))))) fb)))))
   (gb (Ob (Ol g31 hr rfl T.xr T.Ik.kp T.Mq .nil Me (bb (pv 0) (bb (pv 3) (bb (pv 4) fb)))))))))),?_⟩
 have toC:∀ {i k:Nat} {q:Addr} {H1:Hp},JN t i k H E→dc H H1→H q=none→NoT H1→Ls t i k q H1 E:=fun {i k q H1} r s n m dx H' s' n' e=>r dx H' (Fe s s' n) (n' m) e
 walk_at "RD";refine ⟨x,rfl,hxl,?_,nt,fun p H1 sm1 nt1 R=>?_⟩
 ·rw [hrow];exact fun r hr=>(hall r hr).2
 rw [hrow] at R;obtain ⟨qs,hp,hp0,hql,hqa⟩:=R;obtain ⟨q0,qr,rfl⟩:∃ q0 qr,qs=q0 :: qr:=by
  cases qs with
  | nil=>simp at hql
  | cons a b=>exact ⟨a,b,rfl⟩
 have hqrl:qr.length=rest.length:=by simpa using hql
 obtain ⟨R0,hq0⟩:=hqa 0 q0 _ rfl rfl;walk_at "RD";refine ⟨_,SqL.of hp,_,Cc (j:=0) rfl,⟨q0,_,r0,rfl,R0,by omega,nt1,?_⟩⟩;unfold BG at qq;cases er:Lv r0 with
 | error k=>
  rw [er] at qq;exact toC qq sm1 hq0 nt1
 | ok z=>
 rw [er] at qq;have hzz:=IG er;obtain ⟨zn,rfl⟩:∃ zn:Nat,z=(zn:Int):=⟨z.toNat,by omega⟩;intro H2 s2 nt2;walk_at "RD";refine ⟨Nat.zero_le _,fun wl hwl=>?_⟩;obtain ⟨C0,dq0,fq0,hins⟩:=R0.ins;have hpq:p ≠ q0:=kf hp hins (by intro z;cases z);have hp2:H2 p=some (.lst ((q0 :: qr).map V.ref)):=s2 _ _ hpq hp;have swl:dc H2 (upd H2 wl (.lst [])):=jb hwl;have hcut:NG ((q0 :: qr).map V.ref) (some 1) none=qr.map V.ref:=by
  unfold NG;simp [HT.sIx];exact List.take_of_length_le (by rw [List.length_map];exact Nat.le_refl _)
 refine ⟨_,SqL.of (swl _ _ hp2),fun pc hpc=>?_⟩;rw [hcut];have hpw:pc ≠ wl:=fun z=>by subst z;rw [cb] at hpc;cases hpc
 have spc:dc (upd H2 wl (.lst [])) (upd (upd H2 wl (.lst [])) pc (.lst (qr.map V.ref))):=jb hpc;refine ⟨⟨_,SqL.of cb⟩,?_⟩;have sH2:dc H H2:=Fe sm1 s2 hq0;replace qq:Oc2 (match Nk zn ds rest 1 [] with | .error e=>.error e | .ok sp=>.ok ((zn:Int),sp)) (fun m:Int × List SD=>Ty t c n ds m.1.toNat m.2 H Q E) (fun i k=>JN t i k H E):=qq;generalize hW0:Nk zn ds rest 1 []=W0 at qq;refine uj.list (xs:=qr.map V.ref) (fun i σ H'=>(∃ y,σ=[some (V.ref c),some (V.str x),some (V.ref p),some (V.int zn),some (V.ref wl),y])∧NoT H'∧dc H H'∧H' pc=some (.lst (qr.map V.ref))∧H wl=none ∧
  (∃ sp,LO H' wl (List.map sdO sp)∧sp.length ≤ i∧SpG zn ds sp∧Nk zn ds (rest.drop i) (i + 1) sp=W0) ∧
  ∀ (j:Nat) (q:Addr) (r:List Str),i ≤ j→qr[j]? = some q→rest[j]? = some r→mf t H' q ((j + 1:Nat):Int) r 0∧H q=none) ?_ ?_ ?_ ?_
 ·refine ⟨⟨_,rfl⟩,(nt2.upd).upd,(sH2.trans swl).trans spc,cb,sH2.free hwl,⟨[],⟨[],spc _ _ cb,LQ.nil _⟩,Nat.le_refl _,(fun s hs=>by simp at hs),hW0⟩,fun j q r _ h1 h2=>?_⟩;obtain ⟨Rj,hqj⟩:=hqa (j + 1) q r (by rw [List.getElem?_cons_succ];exact h1) (by rw [List.getElem?_cons_succ];exact h2);exact ⟨((Rj.sameX s2 (yH Rj R0 (by omega)) R0.ins).same swl).same spc,hqj⟩
 ·rintro i σ H' hi zzq;refine zP fun zzM zzh=>?_
  obtain ⟨_,_,_,h,_⟩:=zzq;subst zzh;exact SqL.of h
 ·rintro i v σ H' hv zzq;refine zP fun zzM zzh=>?_
  obtain ⟨⟨y,rfl⟩,nt',sm',hpc',hwl0,⟨sp,L,hsl,hG,hwp⟩,Rs⟩:=zzq;obtain ⟨q,hq,rfl⟩:=lc hv;obtain ⟨hi,_⟩:=List.getElem?_eq_some_iff.mp hq;have hid:i < rest.length:=by omega
  have hr:rest[i]? = some rest[i]:=List.getElem?_eq_getElem hid;obtain ⟨Rq,hqn⟩:=Rs i q _ (Nat.le_refl _) hq hr;obtain ⟨os,w1,w2⟩:=id L;obtain ⟨_,dq,tq,hqi,hqt⟩:=id Rq;have hosl:os.length=sp.length:=by rw [w2.1,List.length_map]
  subst zzh;rw [List.drop_eq_getElem_cons hid] at hwp;unfold Nk at hwp;walk_at "RD";refine ⟨.inl ⟨_,SqL.of w1⟩,?_⟩;refine ⟨q,_,rest[i],c,n,ds,zn,wl,sp,rfl,Rq,by omega,C.same sm',hne,hzz,L,by omega,nt',?_⟩;cases ew:Ct zn (Zi ds sp) rest[i] with
  | error k=>
   rw [ew] at hwp;replace hwp:Except.error (i + 1,k)=W0:=hwp;subst hwp;exact toC qq sm' hqn nt'
  | ok d=>
   rw [ew] at hwp;replace hwp:Nk zn ds (rest.drop (i + 1)) (i + 1 + 1) (sp ++ [d])=W0:=hwp;intro y' H3 s3 nt3 w3 hy3;walk_at "RD";have hwq:wl ≠ q:=kf w1 hqi (by intro z;cases z);have hw3:H3 wl=some (.lst (os.map V.ref)):=s3 _ _ hwq w1;have hsm3:dc H H3:=Fe sm' s3 hqn;refine ⟨_,hw3,Nat.lt_of_le_of_lt (show (os.map V.ref).length ≤ 100 by rw [List.length_map];omega) (by decide),?_⟩;have hyw:y' ≠ wl:=fun z=>by
    subst z;rw [w1] at hy3;cases hy3
   have L3:=L.sameR s3 Rq;refine ⟨⟨_,rfl⟩,nt3.upd,fun b u e=>?_,?_,hwl0,⟨sp ++ [d],⟨os ++ [y'],by rw [cb,List.map_append];rfl,?_⟩,by rw [List.length_append];show _ + 1 ≤ _;omega,fun s hs=>?_,hwp⟩,fun j q' r hj h1 h2=>?_⟩
   ·rw [rb (xb e hwl0)];exact hsm3 _ _ e
   ·rw [rb hpw];exact s3 _ _ (kf hpc' hqi (by intro z;cases z)) hpc'
   ·rw [List.map_append];refine LQ.app ⟨w2.1,fun j b o hb ho=>?_⟩ (LQ.one (by rw [rb hyw];exact w3));have e:=w2.2 j b o hb ho;obtain ⟨s,_,rfl⟩:=lc ho;rw [rb (kf e w1 (by intro z;cases z))];exact s3 _ _ (kf e hqi (by intro z;cases z)) e
   ·rcases List.mem_append.mp hs with hs | hs
    ·exact hG s hs
    ·rw [List.mem_singleton.mp hs];have:=QH ew;exact ⟨(List.mem_filter.mp this.1).1,this.2⟩
   ·obtain ⟨Rj,hqj⟩:=Rs j q' r (by omega) h1 h2;have R3:=Rj.sameX s3 (yH Rj Rq (by omega)) Rq.ins;refine ⟨?_,hqj⟩;obtain ⟨hz,dx',ta,e1,e2⟩:=R3;refine ⟨hz,dx',ta,by rw [rb (kf e1 hw3 (by intro z;cases z))];exact e1,?_⟩;rw [rb (fun z=>by
     subst z;rw [hw3] at e2;have e5:=Option.some.inj e2;injection e5 with e6;have hr0:=(hall r (List.mem_cons_of_mem _ (List.mem_of_getElem? h2))).1;cases os with
     | nil=>
      cases r with
      | nil=>exact hr0 rfl
      | cons u v=>cases e6
     | cons a r'=>
      cases r with
      | nil=>cases e6
      | cons u v=>injection e6 with e7 _;cases e7)]
    exact e2
 ·rintro σ H' zzq;refine zP fun zzM zzh=>?_
  obtain ⟨⟨y,rfl⟩,nt',sm',hpc',hwl0,⟨sp,L,hsl,hG,hwp⟩,Rs⟩:=zzq;subst zzh;rw [List.length_map,hqrl,List.drop_length] at hwp;replace hwp:Except.ok sp=W0:=hwp;subst hwp;replace qq:Ty t c n ds (zn:Int).toNat sp H Q E:=qq;rw [Int.toNat_natCast] at qq;walk_at "RD";exact ⟨c,n,ds,zn,wl,sp,rfl,C.same sm',hn,hD,by omega,L,hG.ok (by rw [List.length_map] at hsl;omega) (by omega),hG.wOf,nt',qq.step sm' nt'⟩
end
end My
namespace My
open PySem L2
noncomputable abbrev S (x:String):Str:=Str.ofString x
noncomputable def YD (x:Str):Prop:=x.length ≤ 20∧(32:Nat) ∉ x.cps.toList∧(10:Nat) ∉ x.cps.toList
theorem Do.b {x:Str} (h:Do x):YD x:=⟨Nat.le_trans h.1 (by decide),h.2⟩
theorem xC {rs:List (List Str)} (h0:rs ≠ []) (h1:∀ r ∈ rs,r ≠ []) (h2:∀ r ∈ rs,∀ x ∈ r,YD x):Th (Str.join nl (rs.map (Str.join bk)))=rs:=by
 unfold Th;rw [sG,Ww,Zl (by simpa using h0) (fun y hy=>by
  obtain ⟨r,hr,rfl⟩:=List.mem_map.mp hy;rw [Nh];intro z;rcases TD z with z | ⟨p,hp,z⟩
  ·cases z
  ·obtain ⟨x,hx,rfl⟩:=List.mem_map.mp hp;exact (h2 r hr x hx).2.2 z),List.map_map]
 have:∀ r ∈ rs,((fun r=>Txt.split r ⟨#[32]⟩) ∘ Str.join ⟨#[32]⟩) r=r:=fun r hr=>Zl (h1 r hr) fun x hx=>(h2 r hr x hx).2.1
 rw [List.map_congr_left this,List.map_id']
theorem Vv {v lo hi:Int} (h0:0 ≤ v) (h1:v < 1000) (hl:lo ≤ v) (hh:v ≤ hi):xy (num v) lo hi=some v:=Gv (Jm h0 h1 hl hh)
noncomputable def Lg (s:SD):List Str:=[S "free",s.name,num s.b,num s.n]
noncomputable def Rg (z:Int) (sp:List SD):List (List Str):=[S "round",num z] :: sp.map Lg
theorem HF {z:Int} (hz:z ≤ 240) {known:List Str} {d:SD} (hn:d.name ∈ known) (h:0 ≤ d.b∧d.b < z∧1 ≤ d.n∧d.n ≤ z):Ct z known (Lg d)=.ok d:=by
 unfold Ct;rw [if_pos (show wd (Lg d) 0 ∈ [Str.ofString "free"] from by show S "free" ∈ [S "free"];simp),if_pos (show wd (Lg d) 1 ∈ known from hn)];rw [show wd (Lg d) 2=num d.b from rfl,Vv (by omega) (by omega) (by omega) (by omega),show wd (Lg d) 3=num d.n from rfl,Vv (by omega) (by omega) (by omega) (by omega)];rfl
theorem GD {z:Int} {ds:List WD} {ws:List Str} {r:List (List Str)} {i:Nat} {sp:List SD} {d:SD} (h:Ct z (Zi ds sp) ws=.ok d):Nk z ds (ws :: r) i sp=Nk z ds r (i + 1) (sp ++ [d]):=by
 show (match Ct z (Zi ds sp) ws with | .error k=>Except.error (i,k) | .ok d=>Nk z ds r (i + 1) (sp ++ [d]))=_;rw [h]
theorem lE {z:Int} (hz:1 ≤ z∧z ≤ 240):Lv [S "round",num z]=.ok z:=by
 unfold Lv;rw [if_pos (show wd [S "round",num z] 0 ∈ [Str.ofString "round"] from by show S "round" ∈ [S "round"];simp),show wd [S "round",num z] 1=num z from rfl,Vv (by omega) (by omega) (by omega) (by omega)];rfl
noncomputable def bH (z:Int) (ds:List WD) (sp:List SD):Prop:=∀ (i:Nat) (d:SD),sp[i]? = some d→d.name ∈ Zi ds (sp.take i)∧0 ≤ d.b∧d.b < z∧1 ≤ d.n∧d.n ≤ z
theorem Qu {z:Int} (hz:z ≤ 240) {ds:List WD} {sp:List SD} (h:bH z ds sp):∀ (n i:Nat),sp.length - i=n→i ≤ sp.length→Nk z ds ((sp.drop i).map Lg) (i + 1) (sp.take i)=.ok sp
 | 0,i,hn,hi=>by
  have:i=sp.length:=by omega
  subst this;rw [List.drop_length,List.take_length];rfl
 | n + 1,i,hn,hi=>by
  have hi':i < sp.length:=by omega
  have hd:sp[i]? = some sp[i]:=List.getElem?_eq_getElem hi';have g:=h i _ hd;rw [List.drop_eq_getElem_cons hi',List.map_cons];rw [GD (HF hz g.1 g.2)];have:=Qu hz h n (i + 1) (by omega) hi';rw [Pe hd] at this;exact this
theorem wB {z:Int} (hz:1 ≤ z∧z ≤ 240) {ds:List WD} {sp:List SD} (h:bH z ds sp):BG ds [S "round",num z] (sp.map Lg)=.ok (z,sp):=by
 unfold BG;rw [lE hz];have:=Qu hz.2 h sp.length 0 rfl (Nat.zero_le _);rw [List.drop_zero,List.take_zero] at this;show (match Nk z ds (sp.map Lg) 1 [] with | .error e=>Except.error e | .ok sp=>Except.ok (z,sp))=_;rw [this]
noncomputable def Jf (z:Int) (sp:List SD):Str:=Str.join nl ((Rg z sp).map (Str.join bk))
theorem yF (c:Nat):∀ (l:List (List Nat)) (x:List Nat),l ≠ []→jl c (l ++ [x])=jl c l ++ c :: x
 | [],_,h=>absurd rfl h
 | [a],x,_=>rfl
 | a :: b :: r,x,_=>by
  have:=yF c (b :: r) x (by simp);show a ++ c :: jl c ((b :: r) ++ [x])=(a ++ c :: jl c (b :: r)) ++ c :: x;rw [this,List.append_assoc,List.cons_append]
theorem vD (z:Int):Jf z []=Str.ofString "round " ++ num z:=by
 apply Km;have e1:(Str.ofString "round ").cps.toList=[114,111,117,110,100,32]:=by decide +kernel
 have e2:(Str.ofString "round").cps.toList=[114,111,117,110,100]:=by decide +kernel
 unfold Jf Rg;rw [sG,Nh,Ww];simp only [List.map_cons,List.map_nil,jl,Nh,Str.cps_append,Array.toList_append,e1,e2,List.cons_append,List.nil_append]
theorem vC (z:Int) (sp:List SD) (s:SD):Jf z (sp ++ [s])=(((((Jf z sp ++ Str.ofString "\nfree ") ++ s.name) ++ Str.ofString " ") ++ num s.b) ++ Str.ofString " ") ++ num s.n:=by
 apply Km;have e1:(Str.ofString "\nfree ").cps.toList=[10,102,114,101,101,32]:=by decide +kernel
 have e2:(Str.ofString "free").cps.toList=[102,114,101,101]:=by decide +kernel
 have e3:(Str.ofString " ").cps.toList=[32]:=by decide +kernel
 unfold Jf;rw [show Rg z (sp ++ [s])=Rg z sp ++ [Lg s] by unfold Rg;rw [List.map_append,List.cons_append];rfl];rw [sG,Nh,List.map_append,List.map_append,List.map_cons,List.map_nil,List.map_cons,List.map_nil,yF _ _ _ (by unfold Rg;simp),Ww];simp only [Str.cps_append,Array.toList_append,Nh,Lg,List.map_cons,List.map_nil,jl,e1,e2,e3,List.append_assoc,List.cons_append,List.nil_append]
theorem bB {α:Type} (z:Nat) (v:α) (b:Int) (hz:0 < z) (l:List α) (hl:l.length=z):∀ (k:Nat) (i:Nat),i < z→(uA z v b k l)[i]? = if ∃ j,j < k∧(b + (j:Int)) % (z:Int)=(i:Int) then some v else l[i]?
 | 0,i,hi=>by rw [if_neg (fun ⟨j,hj,_⟩=>by omega)];rfl
 | k + 1,i,hi=>by
  have ih:=bB z v b hz l hl k i hi;have h0:=Int.emod_nonneg (b + (k:Int)) (show (z:Int) ≠ 0 by omega);have h1:=Int.emod_lt_of_pos (b + (k:Int)) (show 0 < (z:Int) by omega);unfold uA DK;by_cases c:(b + (k:Int)) % (z:Int)=(i:Int)
  ·rw [show ((b + (k:Int)) % (z:Int)).toNat=i by omega,List.getElem?_set_self (by rw [kj,hl];exact hi),if_pos ⟨k,by omega,c⟩]
  ·rw [List.getElem?_set_ne (by omega),ih];by_cases e:∃ j,j < k∧(b + (j:Int)) % (z:Int)=(i:Int)
   ·obtain ⟨j,hj,ej⟩:=e;rw [if_pos ⟨j,hj,ej⟩,if_pos ⟨j,by omega,ej⟩]
   ·rw [if_neg e,if_neg];rintro ⟨j,hj,ej⟩;by_cases hjk:j=k
    ·subst hjk;exact c ej
    ·exact e ⟨j,by omega,ej⟩
theorem HH {z b i:Int} {n:Int} (hz:0 < z) (hi:0 ≤ i∧i < z) (hn:0 ≤ n∧n ≤ z):(∃ j:Nat,j < n.toNat∧(b + (j:Int)) % z=i)↔(i - b) % z < n:=by
 have h0:=Int.emod_nonneg (i - b) (show z ≠ 0 by omega);have h1:=Int.emod_lt_of_pos (i - b) hz;constructor
 ·rintro ⟨j,hj,e⟩;have:(i - b) % z=j:=by
   rw [← e,Int.emod_sub_emod,show b + (j:Int) - b=j by omega];exact Int.emod_eq_of_lt (by omega) (by omega)
  omega
 ·intro h;refine ⟨((i - b) % z).toNat,by omega,?_⟩;rw [Int.toNat_of_nonneg h0,Int.add_emod_emod,show b + (i - b)=i by omega];exact Int.emod_eq_of_lt hi.1 hi.2
theorem AI {z:Nat} (hz:0 < z) {b n:Int} (hn:0 ≤ n∧n ≤ z) {i:Nat} (hi:i < z):(fmF z [(b,n)])[i]? = some (decide (((i:Int) - b) % (z:Int) < n)):=by
 unfold fmF;rw [List.foldl_cons,List.foldl_nil,bB z true b hz _ (List.length_replicate ..) _ _ hi];have:=HH (z:=z) (b:=b) (i:=i) (n:=n) (by omega) ⟨by omega,by omega⟩ hn;by_cases c:((i:Int) - b) % (z:Int) < n
 ·rw [if_pos (this.mpr c),decide_eq_true c]
 ·rw [if_neg (fun e=>c (this.mp e)),decide_eq_false c,List.getElem?_replicate,if_pos hi]
theorem rk (m:List Bool):∀ k,0 ≤ Gg m k
 | 0=>by show (0:Int) ≤ 0;decide
 | k + 1=>by
  have:=rk m k;unfold Gg;split <;> omega
theorem uw (m:List Bool) (g:Int) (hg:0 ≤ g):∀ k:Nat,Gg m k ≤ g↔(∃ j:Nat,(j:Int) ≤ g∧j < k∧m[(2 * m.length - 1 - (k - 1 - j)) % m.length]? = some true)∨(k:Int) ≤ g
 | 0=>by
  constructor
  ·intro _;exact .inr (by omega)
  ·intro _;exact hg
 | k + 1=>by
  by_cases c:m[(2 * m.length - 1 - k) % m.length]? = some true
  ·have e:Gg m (k + 1)=0:=by unfold Gg;rw [if_pos c]
   rw [e];exact ⟨fun _=>.inl ⟨0,by omega,by omega,by rw [show k + 1 - 1 - 0=k by omega];exact c⟩,fun _=>hg⟩
  ·have e:Gg m (k + 1)=Gg m k + 1:=by
    show (if m[(2 * m.length - 1 - k) % m.length]? = some true then 0 else Gg m k + 1)=_;rw [if_neg c]
   rw [e];by_cases hg1:1 ≤ g
   ·have ih:=uw m (g - 1) (by omega) k;constructor
    ·intro h;rcases ih.mp (by omega) with ⟨j,h1,h2,h3⟩ | h
     ·exact .inl ⟨j + 1,by omega,by omega,by rw [show k + 1 - 1 - (j + 1)=k - 1 - j by omega];exact h3⟩
     ·exact .inr (by omega)
    ·rintro (⟨j,h1,h2,h3⟩ | h)
     ·by_cases hj:j=0
      ·subst hj;rw [show k + 1 - 1 - 0=k by omega] at h3;exact absurd h3 c
      ·have:=ih.mpr (.inl ⟨j - 1,by omega,by omega,by rw [show k - 1 - (j - 1)=k + 1 - 1 - j by omega];exact h3⟩);omega
     ·have:=ih.mpr (.inr (by omega));omega
   ·have:=rk m k;constructor
    ·intro h;omega
    ·rintro (⟨j,h1,h2,h3⟩ | h)
     ·have hj:j=0:=by omega
      subst hj;rw [show k + 1 - 1 - 0=k by omega] at h3;exact absurd h3 c
     ·omega
theorem wH {m:List Bool} {t:Nat} (ht:t < m.length):(Pn m)[t]? = some (Gg m (2 * m.length - t)):=by
 unfold Pn;rw [List.getElem?_map,List.getElem?_range ht];rfl
theorem FH {m:List Bool} (hm:∃ i,i < m.length∧m[i]? = some true) {t:Nat} (ht:t < m.length) (g:Int) (hg:0 ≤ g):Gg m (2 * m.length - t) ≤ g↔∃ j:Nat,(j:Int) ≤ g∧m[(t + j) % m.length]? = some true:=by
 have pos:∀ j,j < 2 * m.length - t→(2 * m.length - 1 - (2 * m.length - t - 1 - j))=t + j:=fun j hj=>by omega
 rw [uw m g hg];constructor
 ·rintro (⟨j,h1,h2,h3⟩ | h)
  ·rw [pos j h2] at h3;exact ⟨j,h1,h3⟩
  ·obtain ⟨i,hi,e⟩:=hm;refine ⟨(i + m.length - t) % m.length,?_,?_⟩
   ·have:=Nat.mod_lt (i + m.length - t) (show 0 < m.length by omega);omega
   ·rw [Nat.add_mod_mod,show t + (i + m.length - t)=i + m.length by omega,Nat.add_mod_right,Nat.mod_eq_of_lt hi];exact e
 ·rintro ⟨j,h1,h2⟩;have hj:=Nat.mod_lt j (show 0 < m.length by omega);have hle:=Nat.mod_le j m.length;refine .inl ⟨j % m.length,by omega,by omega,?_⟩;rw [pos _ (by omega),Nat.add_mod_mod];exact h2
theorem pK {m:List Bool} (hm:∃ i,i < m.length∧m[i]? = some true):∃ i,i < m.reverse.length∧m.reverse[i]? = some true:=by
 obtain ⟨i,hi,e⟩:=hm;refine ⟨m.length - 1 - i,by rw [List.length_reverse];omega,?_⟩;rw [List.getElem?_reverse (by omega),show m.length - 1 - (m.length - 1 - i)=i by omega];exact e
theorem GH {m:List Bool} {t:Nat} (ht:t < m.length):∃ v,(Eu m)[t]? = some v∧0 ≤ v∧((∃ i,i < m.length∧m[i]? = some true)→∀ g:Int,0 ≤ g→(v ≤ g↔∃ j:Nat,(j:Int) ≤ g∧m[(((t:Int) - (j:Int)) % (m.length:Int)).toNat]? = some true)):=by
 have hr:m.reverse.length=m.length:=List.length_reverse;have h1:m.length - 1 - t < m.reverse.length:=by omega
 refine ⟨Gg m.reverse (2 * m.reverse.length - (m.length - 1 - t)),?_,rk _ _,fun hm g hg=>?_⟩
 ·unfold Eu;rw [List.getElem?_reverse (by rw [Uo];omega),Uo,hr];have:=wH h1;rw [hr] at this;exact this
 ·rw [FH (pK hm) h1 g hg];have key:∀ j:Nat,m.reverse[(m.length - 1 - t + j) % m.reverse.length]? = m[(((t:Int) - (j:Int)) % (m.length:Int)).toNat]?:=fun j=>by
   rw [hr];have hlt:=Nat.mod_lt (m.length - 1 - t + j) (show 0 < m.length by omega);rw [List.getElem?_reverse (by omega)];congr 1;have h0:=Int.emod_nonneg ((t:Int) - (j:Int)) (show (m.length:Int) ≠ 0 by omega);have e:((t:Int) - (j:Int)) % (m.length:Int)=((m.length - 1 - (m.length - 1 - t + j) % m.length:Nat):Int):=by
    have d:=Nat.div_add_mod (m.length - 1 - t + j) m.length;generalize (m.length - 1 - t + j) / m.length=q at d;generalize (m.length - 1 - t + j) % m.length=r at d hlt ⊢;have e2:(t:Int) - (j:Int)=((m.length - 1 - r:Nat):Int) + (m.length:Int) * (-(q:Int)):=by
     have d':(m.length:Int) * (q:Int) + (r:Int)=((m.length - 1 - t + j:Nat):Int):=by rw [← d];push_cast;rfl
     rw [Int.mul_neg];omega
    rw [e2,Int.add_mul_emod_self_left];exact Int.emod_eq_of_lt (by omega) (by omega)
   omega
  constructor
  ·rintro ⟨j,h2,h3⟩;exact ⟨j,h2,by rw [← key j];exact h3⟩
  ·rintro ⟨j,h2,h3⟩;exact ⟨j,h2,by rw [key j];exact h3⟩
theorem HM {z:Nat} (hz:0 < z) {b n:Int} (hn:1 ≤ n∧n ≤ z) {t:Nat} (ht:t < z):∃ v,(Eu (fmF z [(b,n)]))[t]? = some v∧0 ≤ v∧∀ g:Int,0 ≤ g→(v ≤ g↔∃ j:Nat,(j:Int) ≤ g∧((t:Int) - (j:Int) - b) % (z:Int) < n):=by
 have hl:(fmF z [(b,n)]).length=z:=bp _ _;obtain ⟨v,h1,h2,h3⟩:=GH (m:=fmF z [(b,n)]) (t:=t) (by rw [hl];exact ht);refine ⟨v,h1,h2,fun g hg=>?_⟩;have hb0:=Int.emod_nonneg b (show (z:Int) ≠ 0 by omega);have hb1:=Int.emod_lt_of_pos b (show 0 < (z:Int) by omega);have hm:∃ i,i < (fmF z [(b,n)]).length∧(fmF z [(b,n)])[i]? = some true:=by
  refine ⟨(b % (z:Int)).toNat,by rw [hl];omega,?_⟩;rw [AI hz ⟨by omega,hn.2⟩ (by omega),Int.toNat_of_nonneg hb0,decide_eq_true];rw [Int.emod_sub_emod,Int.sub_self,Int.zero_emod];omega
 rw [h3 hm g hg,hl];have key:∀ j:Nat,(fmF z [(b,n)])[(((t:Int) - (j:Int)) % (z:Int)).toNat]? = some (decide (((t:Int) - (j:Int) - b) % (z:Int) < n)):=fun j=>by
  have c0:=Int.emod_nonneg ((t:Int) - (j:Int)) (show (z:Int) ≠ 0 by omega);have c1:=Int.emod_lt_of_pos ((t:Int) - (j:Int)) (show 0 < (z:Int) by omega);rw [AI hz ⟨by omega,hn.2⟩ (by omega),Int.toNat_of_nonneg c0,Int.emod_sub_emod]
 constructor
 ·rintro ⟨j,g1,g2⟩;rw [key j] at g2;exact ⟨j,g1,of_decide_eq_true (Option.some.inj g2)⟩
 ·rintro ⟨j,g1,g2⟩;exact ⟨j,g1,by rw [key j,decide_eq_true g2]⟩
end My
namespace My
open PySem L2
theorem Zd.listE_zs {hx:Addr} {K:PySem.W.Frag} {a:Addr} {xs zs:List V} {g:TG} {te:TE} {σb:St} {Q:VK} {H:Hp} (hl:SqL K H a xs) (hz:xs.length ≤ sizeLine) (he:zs.length=xs.length) (ex:∃ C od,H hx=some (.ext (XA hx C od)))
  (hs:∀ (i:Nat) (x z:V) (N:V→Hp→Prop),xs[i]? = some x→zs[i]? = some z→N z H→g x σb H fun σ2 H2=>Sub σb σ2∧te σ2 H2 N) (hd:∀ p,H p=none→Q (.ref p) (upd H p (.lst zs))):Zd (VM hx K a) g Ay te σb Q H:=by
 refine Zd.of (n:=xs.length) (fun i ys H'=>H'=H∧ys=zs.take i) hz ⟨rfl,rfl⟩ (fun i ys H' hi e=>?_) (fun ys H' e=>?_) (fun i ys H' hi e=>?_) (fun i ys H' x H2 hi e y=>?_) (fun ys H' e p hp=>?_)
 ·rw [e.1];exact ⟨xs,xs[i],hl,by simp [hi]⟩
 ·rw [e.1];exact ⟨⟨xs,hl,Nat.le_refl _⟩,ex⟩
 ·rw [e.2,List.length_take];omega
 ·obtain ⟨e0,y⟩:=y;obtain ⟨e1,e2⟩:=e;subst e0;subst e1;have hx:=y xs hl;have hi:i < zs.length:=by rw [he];exact hi
  have hz':zs[i]? = some zs[i]:=List.getElem?_eq_getElem hi;exact fun N hN=>hs i x zs[i] (fun y H4=>N (ys ++ [y]) H4) hx hz' (hN _ _ ⟨rfl,by rw [e2,List.take_add_one,hz'];rfl⟩)
 ·obtain ⟨e1,e2⟩:=e;subst e1;rw [e2,← he,List.take_length];exact hd p hp
structure Kt8 (t:Adr) (K:PySem.W.Frag) (C:Addr) (b0 b1:Bool):Prop where
 k0:PySem.W.kitOne K (.ref C) (.ref t.Gb)=some b0
 k1:PySem.W.kitOne K (.ref C) (.ref t.Eb)=some b1
 k2:PySem.W.kitOne K (.ref C) (.ref t.Nb)=some false
 k3:PySem.W.kitOne K (.ref C) (.ref t.Ib)=some false
 k4:PySem.W.kitOne K (.ref C) (.ref t.Fj)=some false
 k5:PySem.W.kitOne K (.ref C) (.ref t.Xf)=some false
 k6:PySem.W.kitOne K (.ref C) (.ref t.wj)=some false
 k7:PySem.W.kitOne K (.ref C) (.ref t.vh)=some false
noncomputable def Bu (t:Adr) (K:PySem.W.Frag) (hx:Addr):Sp:=fun vs H Q _=>∃ (C dx:Addr) (fs:List (Str × V)) (b:Bool),vs=[.ref hx]∧H hx=some (.ext (XA hx C (some dx)))∧H dx=some (.ext (XD dx fs))∧MJ K C∧Kt8 t K C b !b∧∀ H',dc H H'→(NoT H→NoT H')→Q (.int 1) H'
section
variable {P:Program} {w:World} {K:PySem.W.Frag} {mg:Str→Option Value} {base:Heap} {t:Adr}
theorem dG (T:Txt w K mg t):Kt8 t K t.Gb true !true:=⟨T.im,T.tm,T.Xt,T.ar,T.Ut,T.aq,T.Ss,T.dr⟩
theorem lF (T:Txt w K mg t):Kt8 t K t.Eb false !false:=⟨T.jm,T.gm,T.At,T.Sq,T.Vt,T.Op,T.ft,T.Wr⟩
theorem rB (T:Txt w K mg t) (hx:Addr):jv hx P w K mg base CX0 2 t.lg t.Hh ["_law_e"] (Bu t K hx):=by
 refine T.ij.okE Ek (fun vs H Q E h=>?_) (fun _ _ _ s H vs Q E hr h=>?_)
 ·obtain ⟨C,dx,fs,b,rfl,_⟩:=h;rfl
 obtain ⟨C,dx,fs,b,rfl,hx,hd,ic,k,q⟩:=h;refine ⟨_,(db (Bb (i:=1) Ek.nd (Hg (bb (fc Wf rfl T.Md wc (bb (pv 0) (bb (Yd (v:=.ref t.Gb) rfl T.lz rfl) fb))) (bb (fc Wf rfl T.Md wc (bb (pv 0) (bb (Yd (v:=.ref t.Eb) rfl T.Hz rfl) fb))) (bb (fc Wf rfl T.Md wc (bb (pv 0) (bb (Yd (v:=.ref t.Nb) rfl T.QD rfl) fb))) (bb (fc Wf rfl T.Md wc (bb (pv 0) (bb (Yd (v:=.ref t.Ib) rfl T.jA rfl) fb))) fb))))))
   (db (Bb (i:=2) Ek.nd (Hg (bb (fc Wf rfl T.Md wc (bb (pv 0) (bb (Yd (v:=.ref t.Fj) rfl T.EJ rfl) fb))) (bb (fc Wf rfl T.Md wc (bb (pv 0) (bb (Yd (v:=.ref t.Xf) rfl T.HD rfl) fb))) (bb (fc Wf rfl T.Md wc (bb (pv 0) (bb (Yd (v:=.ref t.wj) rfl T.DJ rfl) fb))) (bb (fc Wf rfl T.Md wc (bb (pv 0) (bb (Yd (v:=.ref t.vh) rfl T.KG rfl) fb))) fb))))))
   (gb (Ob (fc (OF hr.hd) rfl T.MN rC (bb (LG hr.hd (UG (Vb cL (pv 1) (pv 2))) (Ud (sc:=ib Vi) rfl (by decide +kernel)) (N:=["_law_one"]) (sel:=[none]) (Ie (M:=["_law_e","_law_first","_law_second"]) (by decide +kernel)) (Blk.of (fun _ _ _ _=>(Ab (i:=0) (Li (N:=["_law_one"]) (by decide +kernel) rfl))) (fun _ _ _ _=>⟨_,ui,by walk_at "B"⟩) (fun _ _ _ _=>⟨_,(Uf fD rfl T.qL eu (bb (pv 0) fb)),by walk_at "B"⟩))) fb)))))),?_⟩
 walk_at "RD";refine ⟨_,_,hx,_,hd,ic,_,k.k0,_,_,hx,_,hd,ic,_,k.k1,_,_,hx,_,hd,ic,_,k.k2,_,_,hx,_,hd,ic,_,k.k3,by decide,fun p1 hp1=>?_⟩;walk_at "RD";refine ⟨_,_,(jb hp1) _ _ hx,_,(jb hp1) _ _ hd,ic,_,k.k4,_,_,(jb hp1) _ _ hx,_,(jb hp1) _ _ hd,ic,_,k.k5,_,_,(jb hp1) _ _ hx,_,(jb hp1) _ _ hd,ic,_,k.k6,_,_,(jb hp1) _ _ hx,_,(jb hp1) _ _ hd,ic,_,k.k7,by decide,fun p2 hp2=>?_⟩;walk_at "RD";refine ⟨_,(jb hp2) _ _ cb,_,cb,show (8:Nat) ≤ sizeLine by decide,fun p3 hp3=>?_⟩;walk_at "RD";refine ⟨⟨_,SqL.of cb⟩,?_⟩;have hx3:=(jb (o:=.lst [V.bl b,V.bl !b,V.bl false,V.bl false]) hp1) _ _ hx;refine Zd.listE_zs (xs:=[b,!b,false,false,false,false,false,false].map V.bl) (zs:=[b,!b,false,false,false,false,false,false].map fun k:Bool=>V.int (if k=true then 1 else 0)) (SqL.of cb) (show (8:Nat) ≤ sizeLine by decide) (by rw [List.length_map,List.length_map]) ⟨_,_,(jb hp3) _ _ ((jb hp2) _ _ hx3)⟩ (fun i v z N hv hz hN=>?_) (fun p4 hp4=>?_)
 ·rw [List.getElem?_map] at hv hz;obtain ⟨k,hk,rfl⟩:=Option.map_eq_some_iff.mp hv;rw [hk] at hz;cases hz;walk_at "RD";exact ⟨Sub.name,hN⟩
 ·refine ⟨_,rfl,[b,!b,false,false,false,false,false,false].map (fun k:Bool=>if k=true then 1 else 0),?_,?_,show (8:Nat) ≤ 1000 by decide,⟨_,_,(jb hp4) _ _ ((jb hp3) _ _ ((jb hp2) _ _ hx3))⟩,?_⟩
  ·rw [List.map_map];exact SqL.of cb
  ·cases b <;> decide
  ·have e:([b,!b,false,false,false,false,false,false].map (fun k:Bool=>if k=true then (1:Int) else 0)).sum=1:=by cases b <;> rfl
   rw [e];exact q _ (((jb hp1).trans (jb hp2)).trans ((jb hp3).trans (jb hp4))) (fun n=>(((n.upd).upd).upd).upd)
end
end My
namespace My
open PySem L2
theorem dD {B:Nat}:∀ {ys:List Str},(∀ y ∈ ys,y.length ≤ B)→(ys.map (·.length)).sum ≤ ys.length * B
 | [],_=>by simp
 | a :: r,h=>by
  have h1:=h a (by simp);have h2:=dD (B:=B) (ys:=r) fun y hy=>h y (List.mem_cons_of_mem _ hy)
  rw [List.map_cons,List.sum_cons,List.length_cons,Nat.succ_mul];omega
noncomputable def zu (t:Adr):Sp:=fun vs H Q _=>∃ (pl c:Addr) (n:Int) (ds:List WD) (z:Nat) (sp:List SD),vs=[.ref pl]∧VA t H pl c n ds z sp∧(0 < z∧z ≤ 240)∧sp.length ≤ 12∧(∀ s ∈ sp,s.name.length ≤ 8∧(0 ≤ s.b∧s.b < 1000)∧0 ≤ s.n∧s.n < 1000)∧NoT H∧Q (.str (Jf z sp)) H
noncomputable def Jy (t:Adr):Sp:=fun vs H Q _=>∃ (pl c:Addr) (n:Int) (ds:List WD) (z:Nat) (sp:List SD),vs=[.ref pl]∧VA t H pl c n ds z sp∧(0 < z∧z ≤ 240)∧sp.length ≤ 12∧(∀ s ∈ sp,s.name.length ≤ 8∧(0 ≤ s.b∧s.b < 1000)∧0 ≤ s.n∧s.n < 1000)∧∀ H',dc H H'→Q (.str (Jf z sp)) H'
section
variable {w:World} {K:PySem.W.Frag} {mg:Str→Option Value} {t:Adr} {H:Hp} {a c dx p lm un:Addr} {z:Int}
theorem XJ (T:Txt w K mg t) (e:H a=some (.ins t.Ld dx (plF c z p lm un))):vk K H a (Str.ofString "size") (.int z):=⟨_,dx,_,e,T.zk,T.rp,zd UD 1 (Hq ..) (by decide +kernel) rfl⟩
end
theorem xG {w:World} {K:PySem.W.Frag} {mg:Str→Option Value} {t:Adr} {H:Hp} {a c dx p lm un:Addr} {z:Int} (T:Txt w K mg t) (e:H a=some (.ins t.Ld dx (plF c z p lm un))):vk K H a (Str.ofString "spans") (.ref p):=⟨_,dx,_,e,T.zk,T.yn,zd UD 2 (Hq ..) (by decide +kernel) rfl⟩
theorem Jr (z:Int):Str.empty ++ Str.ofString "round " ++ Str.ofString (toString z)=Str.join bk [S "round",num z]:=by
 apply Km;have e1:(Str.ofString "round ").cps.toList=[114,111,117,110,100,32]:=by decide +kernel
 have e2:(Str.ofString "round").cps.toList=[114,111,117,110,100]:=by decide +kernel
 have e3:Str.empty.cps.toList=[]:=by decide +kernel
 rw [Ww,Nh];simp only [Str.cps_append,Array.toList_append,List.map_cons,List.map_nil,jl,e1,e2,e3,List.cons_append,List.nil_append]
theorem EA (s:SD):Str.empty ++ Str.ofString "free " ++ s.name ++ Str.ofString " " ++ Str.ofString (toString s.b) ++ Str.ofString " " ++ Str.ofString (toString s.n)=Str.join bk (Lg s):=by
 apply Km;have e1:(Str.ofString "free ").cps.toList=[102,114,101,101,32]:=by decide +kernel
 have e2:(Str.ofString "free").cps.toList=[102,114,101,101]:=by decide +kernel
 have e3:(Str.ofString " ").cps.toList=[32]:=by decide +kernel
 have e4:Str.empty.cps.toList=[]:=by decide +kernel
 unfold Lg;rw [Ww,Nh];simp only [Str.cps_append,Array.toList_append,List.map_cons,List.map_nil,jl,e1,e2,e3,e4,List.append_assoc,List.cons_append,List.nil_append]
theorem Vn (k:Nat) (h:k ≤ 1000):k ≤ sizeLine:=Nat.le_trans h (by decide)
section
variable {P:Program} {w:World} {K:PySem.W.Frag} {mg:Str→Option Value} {base:Heap} {t:Adr}
theorem qC (T:Txt w K mg t):Kb P w K mg base CX0 1 t.Pj t.Bl ["plan"] (zu t):=by
 refine Kb.forget (sp:=Jy t) ?_ fun vs H Q E h=>?_
 ·refine T.Fn.ok Yh (fun vs H Q E h=>?_) (fun _ _ _ s H vs Q E hr h=>?_)
  ·obtain ⟨pl,c,n,ds,z,sp,rfl,_⟩:=h;rfl
  obtain ⟨pl,c,n,ds,z,sp,rfl,PA,hz,hsl,hsp,q⟩:=h;obtain ⟨dx,p,lm,un,hpl,C,L,_,_⟩:=PA.at_;obtain ⟨os,l1,lq⟩:=L;refine ⟨_,(db (Bb (i:=1) Yh.nd (Rc (pv 0) rfl))
   (db (Bb (i:=2) Yh.nd (Hg (bb (Nz (Kq (aF (pv 1) KI))) fb)))
   (db (se PassesOwn.never rfl (Wd (Rc (pv 0) rfl)) (Fg (K:=K) (n:=3) rfl rfl (Ub (Ab (i:=3) Yh.nd) (Ub (Ab (i:=4) Yh.nd) (Ub (Ab (i:=5) Yh.nd) Dg)))) (gb (Ic (Mo PySem.F.plainAttrs_list PySem.F.slot_list_append PySem.F.type_list_append Dh (pv 2) (bb (Nz (Kq (KM (pv 3) (Kq (aF (pv 4) (Kq (aF (pv 5) KI))))))) fb)))))
   (gb (Ob (Mo PySem.F.plainAttrs_str PySem.F.slot_str_join PySem.F.type_str_join CF qc (bb (pv 2) fb))))))),?_⟩
  refine zS (fun σ' H'=>H'=H∧σ'=[some (.ref pl),some (.int z),none,none,none,none]) (fun D hD=>?_) fun zzM zzh=>?_
  ·walk_at "RD";exact ⟨_,XJ T hpl,hD _ _ ⟨rfl,rfl⟩⟩
  rintro σ1 H1 ⟨rfl,rfl⟩;subst zzh;refine zS (fun σ' H'=>dc H1 H'∧∃ rl,H1 rl=none∧H' rl=some (.lst (Pb [Str.join bk [S "round",num z]]))∧σ'=[some (.ref pl),some (.int z),some (.ref rl),none,none,none]) (fun D hD=>?_) fun zzM zzh=>?_
  ·walk_at "RD";have hn:=Cm (n:=(z:Int)) (by omega) (by omega);have e0:Str.empty.length=0:=by decide +kernel
   have e1:(Str.ofString "round ").length=6:=by decide +kernel
   rw [Jr];simp only [vd,e0,e1];refine ⟨Vn _ (by omega),dh (by omega),Vn _ (by omega),?_,by decide,fun p hp=>hD _ _ ⟨jb hp,p,hp,cb,rfl⟩⟩;rw [← Jr];simp only [vd,e0,e1];exact Vn _ (by omega)
  rintro σ2 H2 ⟨s2,rl,hrl,l2,rfl⟩;subst zzh;refine zS (fun σ' H'=>dc H1 H'∧H' rl=some (.lst (Pb ((Rg z sp).map (Str.join bk))))∧∃ x3 x4 x5,σ'=[some (.ref pl),some (.int z),some (.ref rl),x3,x4,x5]) (fun D hD=>?_) fun zzM zzh=>?_
  ·walk_at "RD";refine ⟨_,xG T (s2 _ _ hpl),p,rfl,⟨_,SqL.of (s2 _ _ l1)⟩,?_⟩;have hol:os.length=sp.length:=by rw [lq.1,List.length_map]
   refine uj.list (xs:=os.map V.ref) (fun i σ H'=>dc H1 H'∧H' rl=some (.lst (Pb ((Rg z (sp.take i)).map (Str.join bk))))∧∃ x3 x4 x5,σ=[some (.ref pl),some (.int z),some (.ref rl),x3,x4,x5]) ?_ ?_ ?_ ?_
   ·exact ⟨s2,by rw [List.take_zero];exact l2,_,_,_,rfl⟩
   ·rintro i σ H' hi ⟨sm,_⟩;exact SqL.of (sm _ _ l1)
   ·rintro i v σ H' hv zzq;refine zP fun zzM zzh=>?_
    obtain ⟨sm,l2',x3,x4,x5,rfl⟩:=zzq;obtain ⟨qi,hqi,rfl⟩:=lc hv;obtain ⟨o,ho,e⟩:=lq.at hqi;obtain ⟨s,hs,rfl⟩:=lc ho;have e':H' qi=some (.tup [.str s.name,.int s.b,.int s.n]):=sm _ _ e;have g:=hsp s (List.mem_of_getElem? hs);have h1:=Cm (n:=s.b) (by omega) (by omega);have h2:=Cm (n:=s.n) (by omega) (by omega);have e0:Str.empty.length=0:=by decide +kernel
    have e1:(Str.ofString "free ").length=5:=by decide +kernel
    have e2:(Str.ofString " ").length=1:=by decide +kernel
    have hil:i < sp.length:=(List.getElem?_eq_some_iff.mp hs).1;subst zzh;walk_at "RD";have el:(Pb ((Rg z (sp.take i)).map (Str.join bk))).length < sizeLine:=by
     unfold Pb Rg;rw [List.length_map,List.length_map,List.length_cons,List.length_map,List.length_take];exact Nat.lt_of_le_of_lt (show _ ≤ 20 by omega) (by decide)
    refine ⟨_,SqT.of e',rfl,_,_,rfl,_,_,rfl,_,_,rfl,rfl,.inl ⟨_,SqL.of l2'⟩,Vn _ (by rw [e0,e1];decide),_,rfl,by omega,Vn _ (by simp only [vd,e0,e1];omega),Vn _ (by simp only [vd,e0,e1,e2];omega),_,rfl,dh (by omega),Vn _ (by simp only [vd,e0,e1,e2];omega),Vn _ (by simp only [vd,e0,e1,e2];omega),_,rfl,dh (by omega),Vn _ (by simp only [vd,e0,e1,e2];omega),Vn _ (by simp only [vd,e0,e1,e2];omega),_,l2',el,sm.updN hrl,?_,?_⟩
    ·rw [cb,EA,Pe hs,show Rg (z:Int) (sp.take i ++ [s])=Rg z (sp.take i) ++ [Lg s] by unfold Rg;rw [List.map_append,List.cons_append];rfl];unfold Pb;rw [List.map_append,List.map_append];rfl
    ·exact ⟨_,rfl⟩
   ·rintro σ H' zzq;refine zP fun zzM zzh=>?_
    obtain ⟨sm,l2',x3,x4,x5,rfl⟩:=zzq;subst zzh;rw [List.length_map,hol,List.take_length] at l2';exact hD _ _ ⟨sm,l2',_,_,_,rfl⟩
  rintro σ3 H3 ⟨s3,l3,x3,x4,x5,rfl⟩;subst zzh;walk_at "RD";refine ⟨_,SqL.of l3,?_,?_⟩
  ·have hB:∀ y ∈ (Rg z sp).map (Str.join bk),y.length ≤ 60:=fun y hy=>by
    obtain ⟨r,hr,rfl⟩:=List.mem_map.mp hy;rcases List.mem_cons.mp hr with e | e
    ·subst e;rw [← Jr];have hn:=Cm (n:=(z:Int)) (by omega) (by omega);simp only [vd,show Str.empty.length=0 by decide +kernel,show (Str.ofString "round ").length=6 by decide +kernel];omega
    ·obtain ⟨s,hs,rfl⟩:=List.mem_map.mp e;have g:=hsp s hs;have h1:=Cm (n:=s.b) (by omega) (by omega);have h2:=Cm (n:=s.n) (by omega) (by omega);rw [← EA];simp only [vd,show Str.empty.length=0 by decide +kernel,show (Str.ofString "free ").length=5 by decide +kernel,show (Str.ofString " ").length=1 by decide +kernel];omega
   have:=dD hB;rw [show (Str.ofString "\n").length=1 by decide +kernel];have hl:((Rg z sp).map (Str.join bk)).length ≤ 13:=by
    unfold Rg;rw [List.length_map,List.length_cons,List.length_map];omega
   omega
  ·rw [show Txt.join (Str.ofString "\n") ((Rg z sp).map (Str.join bk))=Str.join nl ((Rg z sp).map (Str.join bk)) from StrLaws.glued_eq_join _ _];exact q _ s3
 ·obtain ⟨pl,c,n,ds,z,sp,rfl,PA,hz,hsl,hsp,nt,q⟩:=h;exact ⟨nt,pl,c,n,ds,z,sp,rfl,PA,hz,hsl,hsp,fun H' s=>⟨s,q⟩⟩
end
end My
namespace My
open PySem L2
theorem xJ {r n:Nat} (h:r < n):seqIndex? (r:Int) n=some r:=by
 unfold seqIndex?;simp only;rw [if_neg (show ¬ (r:Int) < 0 by omega),if_pos (by simp;omega),Int.toNat_natCast]
theorem pI {α β:Type} (f:α→β) (l:List α) (r:Nat):(l.map f).eraseIdx r=(l.eraseIdx r).map f:=by
 rw [List.eraseIdx_eq_take_drop_succ,List.eraseIdx_eq_take_drop_succ,List.map_append,List.map_take,List.map_drop]
theorem cu {α:Type}:∀ {l:List α} {k:Nat} {x:α},l[k]? = some x→([x] ++ l.eraseIdx k).Perm l
 | [],k,x,h=>by simp at h
 | a :: l,0,x,h=>by
  cases (show a=x by simpa using h);exact List.Perm.refl _
 | a :: l,k + 1,x,h=>by
  rw [List.getElem?_cons_succ] at h;show (x :: a :: l.eraseIdx k).Perm (a :: l);exact (List.Perm.swap a x _).trans (List.Perm.cons a (cu h))
theorem LO.snoc {H:Hp} {wl p:Addr} {os:List HO} {o:HO} {qs:List Addr} (l1:H wl=some (.lst (qs.map V.ref))) (lq:LQ H qs os) (hp:H p=none) (ho:∀ xs,o ≠ .lst xs) (hos:∀ u ∈ os,∀ xs,u ≠ .lst xs) :
  LO (upd (upd H p o) wl (.lst (qs.map V.ref ++ [.ref p]))) wl (os ++ [o]):=by
 have hpw:p ≠ wl:=(xb l1 hp).symm;refine ⟨qs ++ [p],by rw [cb,List.map_append];rfl,LQ.app ⟨lq.1,fun i q u hq hu=>?_⟩ (LQ.one (by rw [rb hpw,cb]))⟩;have e:=lq.2 i q u hq hu;rw [rb (kf e l1 (hos u (List.mem_of_getElem? hu) _)),rb (xb e hp)];exact e
theorem yM (s:SD):atI [V.str s.name,.int s.b,.int s.n] 0=some (.str s.name):=Cc (j:=0) rfl
theorem ZM (s:SD):atI [V.str s.name,.int s.b,.int s.n] 1=some (.int s.b):=Cc (j:=1) rfl
theorem PN (s:SD):atI [V.str s.name,.int s.b,.int s.n] 2=some (.int s.n):=Cc (j:=2) rfl
theorem rN {sp:List SD}:∀ u ∈ List.map sdO sp,∀ xs,u ≠ .lst xs:=fun u hu xs z=>by
 obtain ⟨s,_,rfl⟩:=List.mem_map.mp hu;cases z
noncomputable def t14 (d:WD):HO:=.tup [.str (Pd d.k),.str d.name,.int d.off,.int d.least]
noncomputable def gF (k:Nat):Str:=⟨#[97 + k]⟩ ++ Str.ofString "way"
structure W14 (i:Nat) (d:WD):Prop where
 k:d.k < 3
 nm:d.name=gF i
 st:d.start=0
 fi:d.fin=(i:Int) + 1
 of:0 ≤ d.off∧d.off ≤ 6
 nr:d.near=0
 le:1 ≤ d.least∧d.least ≤ 5
noncomputable def D14 (ds:List WD):Prop:=∀ (i:Nat) (d:WD),ds[i]? = some d→W14 i d
theorem NL {ds:List WD}:∀ u ∈ ds.map t14,∀ xs,u ≠ .lst xs:=fun u hu xs z=>by
 obtain ⟨s,_,rfl⟩:=List.mem_map.mp hu;cases z
theorem iA (k:Nat):(gF k).cps.toList=[97 + k,119,97,121]:=by
 have e:(Str.ofString "way").cps.toList=[119,97,121]:=by decide +kernel
 unfold gF;rw [Str.cps_append,Array.toList_append,e];rfl
theorem lA {k k':Nat} (e:gF k=gF k'):k=k':=by
 have:=congrArg (fun x:Str=>x.cps.toList) e;simp only [iA] at this;have:=List.cons.inj this;omega
theorem XC {k:Nat} (hk:k < 12):made (gF k) si 8=true:=by
 have e:=iA k;have hl:(gF k).length=4:=by
  have:(gF k).length=(gF k).cps.toList.length:=by simp [Str.length]
  rw [this,e];rfl
 refine Aw (by omega) (by omega) fun c hc=>?_
 rw [e] at hc;simp only [List.mem_cons,List.not_mem_nil,or_false] at hc;omega
theorem D14.nd {ds:List WD} (h:D14 ds):(ds.map (·.name)).Nodup:=by
 refine List.pairwise_iff_getElem.mpr fun i j hi hj hij e=>?_
 rw [List.length_map] at hi hj;rw [List.getElem_map,List.getElem_map,(h i _ (List.getElem?_eq_getElem hi)).nm,(h j _ (List.getElem?_eq_getElem hj)).nm] at e;have:=lA e;omega
theorem D14.wok {ds:List WD} (h:D14 ds) (hl:ds.length ≤ 4):∀ d ∈ ds,WOk 9 d:=fun d hd=>by
 obtain ⟨i,hi⟩:=List.getElem?_of_mem hd;have hil:=(List.getElem?_eq_some_iff.mp hi).1;have w:=h i d hi;have h1:=w.st;have h2:=w.fi;have h3:=w.of;have h4:=w.nr;have h5:=w.le;exact ⟨w.k,by rw [w.nm];exact XC (by omega),by omega,by omega,by omega,by omega,by omega,by omega⟩
theorem D14.cok {ds:List WD} (h:D14 ds) (hl:1 ≤ ds.length∧ds.length ≤ 4):COk 9 ds:=⟨by decide,by omega,h.wok hl.2,h.nd⟩
theorem nK:∀ k,k < 4→atI (Str.ofString "abcd").cps.toList ((k:Nat):Int)=some (97 + k):=by decide +kernel
theorem tL {k:Nat} (hk:k < 3) (e:Pd k=Str.ofString "car"):k=0:=by
 match k,hk,e with
 | 0,_,_=>rfl
 | 1,_,e=>exact absurd e (by decide +kernel)
 | 2,_,e=>exact absurd e (by decide +kernel)
theorem pM {k:Nat} (hk:k < 3) (e:Pd k=Str.ofString "tram"):k=2:=by
 match k,hk,e with
 | 0,_,e=>exact absurd e (by decide +kernel)
 | 1,_,e=>exact absurd e (by decide +kernel)
 | 2,_,_=>rfl
noncomputable def zD (d:WD):Int:=match d.k with | 1=>d.off | _=>3
theorem xK (d:WD):Jh d + Ce d=zD d:=by
 unfold Jh Ce zD
 match d.k with
 | 0=>rfl
 | 1=>show d.off + 0=d.off;omega
 | _ + 2=>rfl
noncomputable def rL (K:PySem.W.Frag) (a:Addr) (ns:List Int):Sp:=fun vs H Q _=>vs=[.ref a]∧Sc K a ns H ∧
 ∀ wl ds H',dc H H'→Sc K a ns H'→LO H' wl (ds.map t14)→D14 ds→(1 ≤ ds.length∧ds.length ≤ 4)→Q (.ref wl) H'
noncomputable def vz (K:PySem.W.Frag):Sp:=fun vs H Q _=>∃ (q:Addr) (d:WD),vs=[.ref q]∧H q=some (t14 d)∧d.k < 3∧Q (.int (zD d)) H
section
variable {P:Program} {w:World} {K:PySem.W.Frag} {mg:Str→Option Value} {base:Heap} {t:Adr}
theorem GN (T:Txt w K mg t) (a:Addr) (ns:List Int) (h63:ns.length ≤ 63):Kb P w K mg base CX0 2 t.bh t.Ji q19 (rL K a ns):=by
 have g0:Kb P w K mg base CX0 1 t.qf t.kg q18 (pf K a ns):=ky T a ns h63;refine T.Bm.ok gj (fun vs H Q E h=>?_) (fun _ _ _ s H vs Q E hr h=>?_)
 ·obtain ⟨rfl,_⟩:=h;rfl
 obtain ⟨rfl,S,q⟩:=h;refine ⟨_,(db (Bb (i:=1) gj.nd (Hg fb))
   (db (se PassesOwn.never rfl (Re rfl T.Ng (bb (Vb ke ub (Db g0 hr T.Dc T.gc.kp T.Ec (bb (pv 0) (bb ub (bb ub fb))))) fb)) (Ab (i:=2) gj.nd) (db (Bb (i:=3) gj.nd (xc ae (Hg (bb qc (bb qc (bb qc fb)))) (Db g0 hr T.Dc T.gc.kp T.Ec (bb (pv 0) (bb (Vb ke ub (pv 2)) (bb ub fb))))))
   (gb (Ic (Mo PySem.F.plainAttrs_list PySem.F.slot_list_append PySem.F.type_list_append Dh (pv 1) (bb (mj (bb (pv 3) (bb (Vb Tc (xc OI qc (pv 2)) qc) (bb (Db g0 hr T.Dc T.gc.kp T.Ec (bb (pv 0) (bb (Vb ke ub (pv 2)) (bb ub fb)))) (bb (Vb ke ub (Db g0 hr T.Dc T.gc.kp T.Ec (bb (pv 0) (bb (Vb ke ub (pv 2)) (bb ub fb))))) fb))))) fb))))))
   (gb (Ob (pv 1))))),?_⟩
 have d1:=Dj ns 1 (m:=4) (by decide);have d2:=Hk ns 1 (m:=4) (by decide);(walk_at "RD"; repeat (dsimp only [pf];walk_at "RD"));refine ⟨Nat.zero_le _,fun wl hwl=>?_⟩;have S1:=S.new (o:=.lst []) hwl;have s1:dc H (upd H wl (.lst [])):=jb hwl;have w1:(upd H wl (.lst [])) wl=some (.lst []):=cb;generalize upd H wl (.lst [])=H4 at S1 s1 w1 ⊢;refine ⟨S1,by omega,by omega,by decide,by omega,by omega,?_⟩;generalize hmm:(1 + Ki ns 1 4).toNat=m;refine uj.range (fun i σ H'=>Sc K a ns H'∧dc H H'∧(∃ ds,LO H' wl (ds.map t14)∧D14 ds∧ds.length=i)∧∃ x1 x2,σ=[some (.ref a),some (.ref wl),x1,x2]) ?_ ?_ ?_
 ·exact ⟨S1,s1,⟨[],⟨[],w1,LQ.nil _⟩,fun i d h=>by simp at h,rfl⟩,none,none,rfl⟩
 ·rintro i σ H' hi zzq;refine zP fun zzM zzh=>?_
  obtain ⟨S2,s2,⟨ds,L,dw,hdl⟩,x1,x2,rfl⟩:=zzq;have hi4:i < 4:=by omega
  have g5:=Dj ns (10 + (i:Int)) (m:=3) (by decide);have g6:=Hk ns (10 + (i:Int)) (m:=3) (by decide);have g7:=Dj ns (20 + (i:Int)) (m:=7) (by decide);have g8:=Hk ns (20 + (i:Int)) (m:=7) (by decide);have g9:=Dj ns (30 + (i:Int)) (m:=5) (by decide);have g10:=Hk ns (30 + (i:Int)) (m:=5) (by decide);subst zzh;simp only [Ig,uc,List.set_cons_succ,List.set_cons_zero,Int.zero_add];refine zzC (fun σ' H2=>dc H' H2∧Sc K a ns H2∧∃ k:Nat,k < 3∧σ'=[some (.ref a),some (.ref wl),some (.int (i:Nat)),some (.str (Pd k))]) (fun D hD=>?_) fun zzM zzh=>?_
  ·(walk_at "RD"; repeat (dsimp only [pf];walk_at "RD"));refine ⟨by decide,fun p1 hp1=>⟨S2.new hp1,by omega,by omega,by decide,?_⟩⟩;have hat:∃ k:Nat,k < 3∧atI [V.str (Str.ofString "car"),V.str (Str.ofString "foot"),V.str (Str.ofString "tram")] (Ki ns (10 + (i:Int)) 3)=some (.str (Pd k)):=by
    have:Ki ns (10 + (i:Int)) 3=0∨Ki ns (10 + (i:Int)) 3=1∨Ki ns (10 + (i:Int)) 3=2:=by omega
    rcases this with e | e | e <;> rw [e]
    ·exact ⟨0,by decide,Cc (j:=0) rfl⟩
    ·exact ⟨1,by decide,Cc (j:=1) rfl⟩
    ·exact ⟨2,by decide,Cc (j:=2) rfl⟩
   obtain ⟨k,hk,hat⟩:=hat;exact ⟨_,SqL.of cb,_,hat,hD _ _ ⟨jb hp1,S2.new hp1,k,hk,rfl⟩⟩
  rintro σ2 H5 ⟨s5,S5,k,hk,rfl⟩;obtain ⟨qs,l1,lq⟩:=L.same s5;have hql:qs.length=i:=by rw [lq.1,List.length_map,hdl]
  subst zzh;(walk_at "RD"; repeat (dsimp only [pf];walk_at "RD"));refine ⟨.inl ⟨_,SqL.of l1⟩,by decide +kernel,_,nK i hi4,Nat.le_trans (show 1 + (Str.ofString "way").length ≤ 10 by decide +kernel) (by decide),S5,by omega,by omega,by decide,S5,by omega,by omega,by decide,by decide,fun p2 hp2=>?_⟩;have hwp:wl ≠ p2:=xb l1 hp2;have L':=LO.snoc (o:=t14 ⟨k,gF i,0,(i:Int) + 1,Ki ns (20 + (i:Int)) 7,0,1 + Ki ns (30 + (i:Int)) 5⟩) l1 lq hp2 (fun xs z=>by cases z) NL;refine ⟨_,by rw [rb hwp];exact l1,Nat.lt_of_le_of_lt (show (qs.map V.ref).length ≤ 12 by rw [List.length_map];omega) (by decide),?_,?_,⟨ds ++ [⟨k,gF i,0,(i:Int) + 1,Ki ns (20 + (i:Int)) 7,0,1 + Ki ns (30 + (i:Int)) 5⟩],by rw [List.map_append];exact L',fun j d hd=>?_,by rw [List.length_append,hdl];rfl⟩,by repeat (first | exact ⟨_,rfl⟩ | refine ⟨⟨_,rfl⟩,?_⟩)⟩
  ·exact (S5.new hp2).set (by rw [rb hwp];exact l1) (fun ob z e=>by cases e)
  ·exact (((s2.trans s5).trans (jb hp2)).updN hwl)
  ·rcases Qv hd with ⟨_,z⟩ | ⟨z1,rfl⟩
   ·exact dw j d z
   ·rw [z1,hdl];exact ⟨hk,rfl,rfl,rfl,⟨g7,by show Ki ns (20 + (i:Int)) 7 ≤ 6;omega⟩,rfl,by show 1 ≤ 1 + Ki ns (30 + (i:Int)) 5∧1 + Ki ns (30 + (i:Int)) 5 ≤ 5;omega⟩
 ·rintro σ H' zzq;refine zP fun zzM zzh=>?_
  obtain ⟨S2,s2,⟨ds,L,dw,hdl⟩,x1,x2,rfl⟩:=zzq;subst zzh;walk_at "RD";exact q wl ds H' s2 S2 L dw (by omega)
theorem AD (T:Txt w K mg t):Kb P w K mg base CX0 1 t.jg t.Xg q20 (vz K):=by
 refine T.xk.ok Ex (fun vs H Q E h=>?_) (fun _ _ _ s H vs Q E hr h=>?_)
 ·obtain ⟨q,d,rfl,_⟩:=h;rfl
 obtain ⟨q,d,rfl,e,hk,hq⟩:=h;refine ⟨_,(db (Kf (zc Mi (xc Ge (pv 0) ub) qc (Hc _)) (gb (Ob ub)) Kc)
   (db (Kf (zc Mi (xc Ge (pv 0) ub) qc (Hc _)) (gb (Ob ub)) Kc)
   (gb (Ob (xc Ge (pv 0) ub))))),?_⟩
 have at0:atI [V.str (Pd d.k),.str d.name,.int d.off,.int d.least] 0=some (.str (Pd d.k)):=Cc (j:=0) rfl;have at2:atI [V.str (Pd d.k),.str d.name,.int d.off,.int d.least] 2=some (.int d.off):=Cc (j:=2) rfl;have hT:SqT K H q [V.str (Pd d.k),.str d.name,.int d.off,.int d.least]:=SqT.of e;unfold zD at hq;generalize d.k=k at hk hq hT at0 at2;have b:k=0∨k=1∨k=2:=by omega
 simp only [uc];refine Nc (decide (k=0)) (fun Q hQ=>?_) (fun c=>?_) (fun c=>?_)
 ·walk_at "RD";refine ⟨_,hT,_,at0,rfl,?_⟩;rw [show decide (V.str (Pd k)=V.str (Str.ofString "car"))=decide (k=0) from decide_eq_decide.mpr ⟨fun e=>tL hk (V.str.inj e),fun e=>by rw [e];rfl⟩];exact hQ
 ·have:=of_decide_eq_true c;subst this;walk_at "RD";exact hq
 have c:=of_decide_eq_false c;simp only [yq,uc];refine Nc (decide (k=2)) (fun Q hQ=>?_) (fun c=>?_) (fun c=>?_)
 ·walk_at "RD";refine ⟨_,hT,_,at0,rfl,?_⟩;rw [show decide (V.str (Pd k)=V.str (Str.ofString "tram"))=decide (k=2) from decide_eq_decide.mpr ⟨fun e=>pM hk (V.str.inj e),fun e=>by rw [e];rfl⟩];exact hQ
 ·have:=of_decide_eq_true c;subst this;walk_at "RD";exact hq
 ·have c:=of_decide_eq_false c;have:k=1:=by omega
  subst this;walk_at "RD";exact ⟨_,hT,_,at2,hq⟩
end
end My
namespace My
open PySem L2
theorem gy (x:Str) (l r:List SD):ofN x (l ++ r)=ofN x l ++ ofN x r:=by
 unfold ofN;rw [List.filter_append,List.map_append]
theorem Ev {x:Str} {l:List SD} (h:∀ s ∈ l,s.name ≠ x):ofN x l=[]:=by
 unfold ofN;rw [List.filter_eq_nil_iff.mpr fun s hs=>by simpa using h s hs];rfl
structure S14 (z:Int) (ds:List WD) (sp:List SD):Prop where
 al:∀ s ∈ sp,s.name ∈ ds.map (·.name)∧0 ≤ s.b∧s.b < z∧1 ≤ s.n∧s.n ≤ z
 m3:∀ x,(ofN x sp).length ≤ 3
 ln:sp.length ≤ 12
theorem S14.perm {z:Int} {ds:List WD} {sp rs:List SD} (h:S14 z ds sp) (p:rs.Perm sp):S14 z ds rs:=by
 refine ⟨fun s hs=>h.al s (p.mem_iff.mp hs),fun x=>?_,by rw [p.length_eq];exact h.ln⟩;have:(ofN x rs).length=(ofN x sp).length:=((p.filter _).map _).length_eq;rw [this];exact h.m3 x
structure G14 (z:Int) (ds:List WD) (i:Nat) (sp:List SD):Prop where
 al:∀ s ∈ sp,s.name ∈ ds.map (·.name)∧0 ≤ s.b∧s.b < z∧1 ≤ s.n∧s.n ≤ z
 m3:∀ x,(ofN x sp).length ≤ 3
 no:∀ (j:Nat) (d:WD),i ≤ j→ds[j]? = some d→ofN d.name sp=[]
 ln:sp.length ≤ 3 * i
theorem G14.step {z:Int} {ds:List WD} {i:Nat} {sp sp':List SD} {d:WD} (D:D14 ds) (h:G14 z ds i sp) (hd:ds[i]? = some d) (hl:sp'.length ≤ 3)
  (al:∀ s ∈ sp',s.name=d.name∧0 ≤ s.b∧s.b < z∧1 ≤ s.n∧s.n ≤ z):G14 z ds (i + 1) (sp ++ sp'):=by
 refine ⟨fun s hs=>?_,fun x=>?_,fun j e hj he=>?_,by rw [List.length_append];have:=h.ln;omega⟩
 ·rcases List.mem_append.mp hs with hs | hs
  ·exact h.al s hs
  ·exact ⟨List.mem_map.mpr ⟨d,List.mem_of_getElem? hd,(al s hs).1.symm⟩,(al s hs).2⟩
 ·rw [gy,List.length_append];by_cases c:x=d.name
  ·rw [c,h.no i d (Nat.le_refl _) hd];have:=fz d.name sp';show 0 + _ ≤ 3;omega
  ·rw [Ev (l:=sp') fun s hs z=>c (by rw [← z,(al s hs).1])];exact h.m3 x
 ·rw [gy,h.no j e (by omega) he,Ev fun s hs z=>?_]
  ·rfl
  ·rw [(al s hs).1,(D i d hd).nm,(D j e he).nm] at z;have:=lA z;omega
theorem YB (d:WD):atI [V.str (Pd d.k),.str d.name,.int d.off,.int d.least] 1=some (.str d.name):=Cc (j:=1) rfl
noncomputable def fA (K:PySem.W.Frag) (a:Addr) (ns:List Int):Sp:=fun vs H Q _=>∃ (wl:Addr) (ds:List WD) (z:Int),vs=[.ref a,.ref wl,.int z]∧Sc K a ns H∧LO H wl (ds.map t14)∧D14 ds∧ds.length ≤ 4∧(12 ≤ z∧z ≤ 240) ∧
 ∀ (rl:Addr) (rs:List SD) (H':Hp),dc H H'→Sc K a ns H'→LO H' rl (List.map sdO rs)→S14 z ds rs→Q (.ref rl) H'
section
variable {P:Program} {w:World} {K:PySem.W.Frag} {mg:Str→Option Value} {base:Heap} {t:Adr}
theorem VG (T:Txt w K mg t) (a:Addr) (ns:List Int) (h63:ns.length ≤ 63):Kb P w K mg base CX0 2 t.ah t.Fi q42 (fA K a ns):=by
 have g0:Kb P w K mg base CX0 1 t.qf t.kg q18 (pf K a ns):=ky T a ns h63;have g32:Kb P w K mg base CX0 1 t.jg t.Xg q20 (vz K):=AD T;refine T.Rm.ok Wc (fun vs H Q E h=>?_) (fun _ _ _ s H vs Q E hr h=>?_)
 ·obtain ⟨wl,ds,z,rfl,_⟩:=h;rfl
 obtain ⟨wl,ds,z,rfl,S,L,D,hdl,hz,q⟩:=h;refine ⟨_,(db (Bb (i:=3) Wc.nd (Hg fb))
   (db (Bb (i:=4) Wc.nd (Pf Mi (Db g0 hr T.Dc T.gc.kp T.Ec (bb (pv 0) (bb ub (bb ub fb)))) ub (Hc _)))
   (db (se PassesOwn.never rfl (Re rfl T.Ng (bb (fc Lc rfl T.Zm Zc (bb (pv 1) fb)) fb)) (Ab (i:=5) Wc.nd) (db (Bb (i:=6) Wc.nd (xc ae (Hg (bb ub (bb ub (bb ub (bb ub (bb ub (bb ub (bb ub (bb ub fb))))))))) (Db g0 hr T.Dc T.gc.kp T.Ec (bb (pv 0) (bb (Vb ke ub (pv 5)) (bb ub fb))))))
   (db (Kf (PW.pt (fu (zc Mi (pv 6) ub (Hc _)) (Ro (zc MF (Db g0 hr T.Dc T.gc.kp T.Ec (bb (pv 0) (bb ub (bb ub fb)))) ub (Hc _))))) (gb (Bb (i:=6) Wc.nd ub)) Kc)
   (gb (se PassesOwn.never rfl (Re rfl T.Ng (bb (pv 6) fb)) (Ab (i:=7) Wc.nd) (db (Bb (i:=8) Wc.nd (Db g0 hr T.Dc T.gc.kp T.Ec (bb (pv 0) (bb (Vb ke (Vb ke ub (Vb rn ub (pv 5))) (pv 7)) (bb (pv 2) fb)))))
   (db (Bb (i:=9) Wc.nd (Vb ke ub (Db g0 hr T.Dc T.gc.kp T.Ec (bb (pv 0) (bb (Vb ke (Vb ke ub (Vb rn ub (pv 5))) (pv 7)) (bb ub fb))))))
   (db (Kf (Wk (pv 4)) (db (Bb (i:=8) Wc.nd (Vb zi (Vb ke (Vb rn (pv 7) (Vb kE (pv 2) (pv 6))) (Db g0 hr T.Dc T.gc.kp T.Ec (bb (pv 0) (bb ub (bb (pv 2) fb))))) (pv 2)))
   (gb (Bb (i:=9) Wc.nd (fc (Bx rfl) rfl T.mL iu (bb ub (bb (fc (Mr rfl) rfl T.KH Xo (bb (Vb ke (Vb gk (Vb kE (pv 2) (pv 6)) (Db g32 hr T.gs T.xk.kp T.Zq (bb (xc ae (pv 1) (pv 5)) fb))) (Db g0 hr T.Dc T.gc.kp T.Ec (bb (pv 0) (bb (Vb ke (Vb ke ub (Vb rn ub (pv 5))) (pv 7)) (bb ub fb))))) (bb (Vb ke (pv 9) ub) fb))) fb)))))) Kc)
   (gb (Ic (Mo PySem.F.plainAttrs_list PySem.F.slot_list_append PySem.F.type_list_append Dh (pv 3) (bb (mj (bb (xc Ge (xc ae (pv 1) (pv 5)) ub) (bb (pv 8) (bb (fc (Mr rfl) rfl T.KH Xo (bb (pv 9) (bb (pv 2) fb))) fb)))) fb))))))))))))
   (db (Bb (i:=10) Wc.nd (Hg fb))
   (db (HG PassesOwn.never (zc MF (fc Lc rfl T.Zm Zc (bb (pv 3) fb)) ub (Hc _)) (gb (Ic (Mo PySem.F.plainAttrs_list PySem.F.slot_list_append PySem.F.type_list_append Dh (pv 10) (bb (Mo PySem.F.plainAttrs_list PySem.F.slot_list_pop PySem.F.type_list_pop CH (pv 3) (bb (Db g0 hr T.Dc T.gc.kp T.Ec (bb (pv 0) (bb (Vb ke ub (fc Lc rfl T.Zm Zc (bb (pv 3) fb))) (bb (fc Lc rfl T.Zm Zc (bb (pv 3) fb)) fb)))) fb)) fb)))))
   (gb (Ob (pv 10)))))))),?_⟩
 refine zS (fun σ' H'=>dc H H'∧Sc K a ns H'∧∃ sl,H sl=none∧H' sl=some (.lst [])∧σ'=[some (.ref a),some (.ref wl),some (.int z),some (.ref sl),none,none,none,none,none,none,none]) (fun D hD=>?_) fun zzM zzh=>?_
 ·walk_at "RD";exact ⟨Nat.zero_le _,fun sl hsl=>hD _ _ ⟨jb hsl,S.new hsl,sl,hsl,cb,rfl⟩⟩
 rintro σ1 H1 ⟨s1,S1,sl,hsl,w1,rfl⟩;subst zzh;refine zS (fun σ' H'=>H'=H1∧∃ calm:Bool,σ'=[some (.ref a),some (.ref wl),some (.int z),some (.ref sl),some (.bl calm),none,none,none,none,none,none]) (fun D hD=>?_) fun zzM zzh=>?_
 ·(walk_at "RD"; repeat (dsimp only [pf];walk_at "RD"));exact ⟨S1,by omega,by omega,by decide,hD _ _ ⟨rfl,_,rfl⟩⟩
 rintro σ2 H2 ⟨rfl,calm,rfl⟩;obtain ⟨qs,l1,lq⟩:=L;have hql:qs.length=ds.length:=by rw [lq.1,List.length_map]
 subst zzh;refine zS (fun σ' H'=>dc H H'∧Sc K a ns H'∧(∃ sp:List SD,LO H' sl (List.map sdO sp)∧S14 z ds sp)∧∃ x5 x6 x7 x8 x9,σ'=[some (.ref a),some (.ref wl),some (.int z),some (.ref sl),some (.bl calm),x5,x6,x7,x8,x9,none]) (fun D' hD=>?_) fun zzM zzh=>?_
 ·walk_at "RD";refine ⟨_,.inl (SqL.of (s1 _ _ l1)),?_⟩;rw [List.length_map,hql];refine ⟨by omega,by omega,?_⟩;rw [Int.toNat_natCast];refine uj.range (fun i σ H'=>dc H H'∧Sc K a ns H'∧(∃ sp:List SD,LO H' sl (List.map sdO sp)∧G14 z ds i sp)∧∃ x5 x6 x7 x8 x9,σ=[some (.ref a),some (.ref wl),some (.int z),some (.ref sl),some (.bl calm),x5,x6,x7,x8,x9,none]) ?_ ?_ ?_
  ·exact ⟨s1,S1,⟨[],⟨[],w1,LQ.nil _⟩,⟨fun s h=>(by cases h),fun x=>(by show 0 ≤ 3;decide),fun j d _ _=>rfl,by show 0 ≤ 3 * 0;decide⟩⟩,_,_,_,_,_,rfl⟩
  ·rintro i σ H' hi zzq;refine zP fun zzM zzh=>?_
   obtain ⟨sm,S2,⟨sp,L2,G⟩,x5,x6,x7,x8,x9,rfl⟩:=zzq;have hdi:ds[i]? = some ds[i]:=List.getElem?_eq_getElem hi;have hqi:qs[i]? = some qs[i]:=List.getElem?_eq_getElem (by omega);have hwi:=D i _ hdi;have e0:H qs[i]=some (t14 ds[i]):=lq.2 i _ _ hqi (by rw [List.getElem?_map,hdi];rfl);have at1:atI (qs.map V.ref) (i:Int)=some (.ref qs[i]):=Cc (by rw [List.getElem?_map,hqi];rfl);have g1:=Dj ns (40 + (i:Int)) (m:=8) (by decide);have g2:=Hk ns (40 + (i:Int)) (m:=8) (by decide);subst zzh;simp only [Ig,uc,List.set_cons_succ,List.set_cons_zero,Int.zero_add];refine zzC (fun σ' H2=>dc H' H2∧Sc K a ns H2∧∃ m:Nat,m ≤ 3∧σ'=[some (.ref a),some (.ref wl),some (.int z),some (.ref sl),some (.bl calm),some (.int (i:Nat)),some (.int m),x7,x8,x9,none]) (fun D hD=>?_) fun zzM zzh=>?_
   ·(walk_at "RD"; repeat (dsimp only [pf];walk_at "RD"));refine ⟨by decide,fun p1 hp1=>⟨S2.new hp1,by omega,by omega,by decide,?_⟩⟩;have hat:∃ m:Nat,m ≤ 3∧atI [V.int 0,V.int 1,V.int 1,V.int 1,V.int 2,V.int 2,V.int 3,V.int 3] (Ki ns (40 + (i:Int)) 8)=some (.int (m:Int)):=by
     have:Ki ns (40 + (i:Int)) 8=0∨Ki ns (40 + (i:Int)) 8=1∨Ki ns (40 + (i:Int)) 8=2∨Ki ns (40 + (i:Int)) 8=3∨Ki ns (40 + (i:Int)) 8=4∨Ki ns (40 + (i:Int)) 8=5∨Ki ns (40 + (i:Int)) 8=6∨Ki ns (40 + (i:Int)) 8=7:=by omega
     rcases this with e | e | e | e | e | e | e | e <;> rw [e]
     ·exact ⟨0,by decide,Cc (j:=0) rfl⟩
     ·exact ⟨1,by decide,Cc (j:=1) rfl⟩
     ·exact ⟨1,by decide,Cc (j:=2) rfl⟩
     ·exact ⟨1,by decide,Cc (j:=3) rfl⟩
     ·exact ⟨2,by decide,Cc (j:=4) rfl⟩
     ·exact ⟨2,by decide,Cc (j:=5) rfl⟩
     ·exact ⟨3,by decide,Cc (j:=6) rfl⟩
     ·exact ⟨3,by decide,Cc (j:=7) rfl⟩
    obtain ⟨m,hm,hat⟩:=hat;exact ⟨_,SqL.of cb,_,hat,hD _ _ ⟨jb hp1,S2.new hp1,m,hm,rfl⟩⟩
   rintro σ3 H3 ⟨s3,S3,m,hm,rfl⟩;subst zzh;simp only [uc];refine zzC (fun σ' H4=>H4=H3∧∃ m:Nat,m ≤ 3∧σ'=[some (.ref a),some (.ref wl),some (.int z),some (.ref sl),some (.bl calm),some (.int (i:Nat)),some (.int m),x7,x8,x9,none]) (fun D hD=>?_) fun zzM zzh=>?_
   ·refine Nc (decide ((m:Int)=0) && decide (0 < Ki ns 3 3)) (fun Q hQ=>?_) (fun c=>?_) (fun c=>?_)
    ·(walk_at "RD"; repeat (dsimp only [pf];walk_at "RD"));cases hc:decide ((m:Int)=0) with
     | false=>rw [hc] at hQ;exact hQ
     | true=>
      rw [hc] at hQ;exact ⟨S3,by omega,by omega,by decide,hQ⟩
    ·walk_at "RD";exact hD _ _ ⟨rfl,1,by decide,rfl⟩
    ·walk_at "RD";exact hD _ _ ⟨rfl,m,hm,rfl⟩
   clear hm;rintro σ4 H4 ⟨rfl,m,hm,rfl⟩;subst zzh;walk_at "RD";refine ⟨by omega,by omega,?_⟩;rw [Int.toNat_natCast];refine uj.range (fun j σ H5=>dc H H5∧Sc K a ns H5∧(∃ sp':List SD,LO H5 sl (List.map sdO (sp ++ sp'))∧sp'.length=j∧∀ s ∈ sp',s.name=ds[i].name∧0 ≤ s.b∧s.b < z∧1 ≤ s.n∧s.n ≤ z)∧∃ x7 x8 x9,σ=[some (.ref a),some (.ref wl),some (.int z),some (.ref sl),some (.bl calm),some (.int (i:Nat)),some (.int m),x7,x8,x9,none]) ?_ ?_ ?_
   ·exact ⟨sm.trans s3,S3,⟨[],by rw [List.append_nil];exact L2.same s3,rfl,fun s h=>by cases h⟩,_,_,_,rfl⟩
   ·rintro j σ H5 hj zzq;refine zP fun zzM zzh=>?_
    obtain ⟨sm5,S5,⟨sp',L5,hl5,al5⟩,x7,x8,x9,rfl⟩:=zzq;subst zzh;simp only [Ig,uc,List.set_cons_succ,List.set_cons_zero,Int.zero_add];refine zzC (fun σ' H6=>H6=H5∧∃ b:Int,(0 ≤ b∧b < z)∧σ'=[some (.ref a),some (.ref wl),some (.int z),some (.ref sl),some (.bl calm),some (.int (i:Nat)),some (.int m),some (.int (j:Nat)),some (.int b),x9,none]) (fun D hD=>?_) fun zzM zzh=>?_
    ·(walk_at "RD"; repeat (dsimp only [pf];walk_at "RD"));exact ⟨by unfold JC;omega,S5,by omega,by omega,by omega,hD _ _ ⟨rfl,_,⟨Dj _ _ (by omega),Hk _ _ (by omega)⟩,rfl⟩⟩
    rintro σ6 H6 ⟨rfl,b,hb,rfl⟩;subst zzh;simp only [uc];refine zzC (fun σ' H7=>H7=H6∧∃ u:Int,1 ≤ u∧σ'=[some (.ref a),some (.ref wl),some (.int z),some (.ref sl),some (.bl calm),some (.int (i:Nat)),some (.int m),some (.int (j:Nat)),some (.int b),some (.int u),none]) (fun D hD=>?_) fun zzM zzh=>?_
    ·(walk_at "RD"; repeat (dsimp only [pf];walk_at "RD"));refine ⟨by unfold JC;omega,S5,by omega,by omega,by decide,hD _ _ ⟨rfl,_,?_,rfl⟩⟩;have:=Dj ns (70 + 3 * (i:Int) + (j:Int)) (m:=8) (by decide);omega
    rintro σ7 H7 ⟨rfl,u,hu,rfl⟩;subst zzh;simp only [uc];refine zzC (fun σ' H8=>H8=H7∧∃ b u:Int,(0 ≤ b∧b < z)∧1 ≤ u∧σ'=[some (.ref a),some (.ref wl),some (.int z),some (.ref sl),some (.bl calm),some (.int (i:Nat)),some (.int m),some (.int (j:Nat)),some (.int b),some (.int u),none]) (fun D hD=>?_) fun zzM zzh=>?_
    ·refine Nc calm (fun Q hQ=>?_) (fun c=>?_) (fun c=>?_)
     ·walk_at "RD";exact hQ
     ·(walk_at "RD"; repeat (dsimp only [pf];walk_at "RD"));refine ⟨⟨by omega,by omega⟩,by unfold JC;omega,S5,by decide,by decide,by omega,by omega,⟨by omega,by omega⟩,_,SqL.of (sm5 _ _ l1),_,at1,_,ds[i],rfl,sm5 _ _ e0,hwi.k,_,rfl,by unfold JC;omega,S5,by omega,by omega,by decide,hD _ _ ⟨rfl,_,_,⟨Int.emod_nonneg _ (by omega),Int.emod_lt_of_pos _ (by omega)⟩,?_,rfl⟩⟩;split <;> omega
     ·walk_at "RD";exact hD _ _ ⟨rfl,b,u,hb,hu,rfl⟩
    clear hb hu;rintro σ8 H8 ⟨rfl,b,u,hb,hu,rfl⟩;obtain ⟨os,y1,y2⟩:=L5;subst zzh;walk_at "RD";have hwp:=fun (p:Addr) (hp:H8 p=none)=>xb y1 hp
    refine ⟨.inl ⟨_,SqL.of y1⟩,_,SqL.of (sm5 _ _ l1),_,at1,_,rfl,_,SqT.of (sm5 _ _ e0),_,YB _,by decide,fun p hp=>?_⟩;have hol:os.length ≤ 12:=by rw [y2.1,List.length_map,List.length_append,hl5];have:=G.ln;omega
    have L':=LO.snoc (o:=sdO ⟨ds[i].name,b,if z < u then z else u⟩) y1 y2 hp (fun xs z=>by cases z) rN;refine ⟨_,by rw [rb (hwp p hp)];exact y1,Nat.lt_of_le_of_lt (show (os.map V.ref).length ≤ 30 by rw [List.length_map];omega) (by decide),(sm5.trans (jb hp)).updN hsl,(S5.new hp).set (by rw [rb (hwp p hp)];exact y1) (fun ob z e=>by cases e),⟨sp' ++ [⟨ds[i].name,b,if z < u then z else u⟩],by rw [← List.append_assoc,List.map_append];exact L',by rw [List.length_append,hl5];rfl,fun s hs=>?_⟩,_,rfl⟩;rcases List.mem_append.mp hs with h | h
    ·exact al5 s h
    ·rw [List.mem_singleton.mp h];refine ⟨rfl,hb.1,hb.2,?_⟩;show 1 ≤ (if z < u then z else u)∧(if z < u then z else u) ≤ z;split <;> omega
   ·rintro σ H5 zzq;refine zP fun zzM zzh=>?_
    obtain ⟨sm5,S5,⟨sp',L5,hl5,al5⟩,x7,x8,x9,rfl⟩:=zzq;subst zzh;exact ⟨sm5,S5,⟨_,L5,G.step D hdi (by omega) al5⟩,_,_,_,_,_,rfl⟩
  ·rintro σ H' zzq;refine zP fun zzM zzh=>?_
   obtain ⟨sm,S2,⟨sp,L2,G⟩,x5,x6,x7,x8,x9,rfl⟩:=zzq;subst zzh;exact hD _ _ ⟨sm,S2,⟨sp,L2,G.al,G.m3,by have:=G.ln;omega⟩,_,_,_,_,_,rfl⟩
 rintro σ5 H5 ⟨s5,S5,⟨sp,⟨os2,l5,lq5⟩,SP⟩,x5,x6,x7,x8,x9,rfl⟩;subst zzh;refine zS (fun σ' H'=>dc H5 H'∧Sc K a ns H'∧∃ rl,H5 rl=none∧H' rl=some (.lst [])∧σ'=[some (.ref a),some (.ref wl),some (.int z),some (.ref sl),some (.bl calm),x5,x6,x7,x8,x9,some (.ref rl)]) (fun D hD=>?_) fun zzM zzh=>?_
 ·walk_at "RD";exact ⟨Nat.zero_le _,fun rl hrl=>hD _ _ ⟨jb hrl,S5.new hrl,rl,hrl,cb,rfl⟩⟩
 rintro σ6 H6 ⟨s6,S6,rl,hrl,l6,rfl⟩;have hrp:rl ≠ sl:=fun e=>by rw [e,l5] at hrl;cases hrl
 have hsp12:=SP.ln;subst zzh;refine zS (fun σ' H'=>dc H H'∧Sc K a ns H'∧(∃ rs:List SD,LO H' rl (List.map sdO rs)∧rs.Perm sp)∧σ'=[some (.ref a),some (.ref wl),some (.int z),some (.ref sl),some (.bl calm),x5,x6,x7,x8,x9,some (.ref rl)]) (fun D hD=>?_) fun zzM zzh=>?_
 ·refine jE (fun σ H'=>dc H H'∧Sc K a ns H'∧(∃ (rs ls:List SD) (qa qb:List Addr),H' rl=some (.lst (qa.map V.ref))∧LQ H' qa (List.map sdO rs)∧H' sl=some (.lst (qb.map V.ref))∧LQ H' qb (List.map sdO ls)∧(rs ++ ls).Perm sp)∧σ=[some (.ref a),some (.ref wl),some (.int z),some (.ref sl),some (.bl calm),x5,x6,x7,x8,x9,some (.ref rl)]) (fun σ H'=>match H' sl with | some (.lst xs)=>xs.length | _=>0) ?_ ?_
  ·exact ⟨s5.trans s6,S6,⟨[],sp,[],os2,l6,LQ.nil _,s6 _ _ l5,lq5.same s6,List.Perm.refl _⟩,rfl⟩
  rintro σ H' zzq;refine zP fun zzM zzh=>?_
  obtain ⟨s7,S7,⟨rs,ls,qa,qb,la,lqa,lb,lqb,hperm⟩,rfl⟩:=zzq;have hln:rs.length + ls.length ≤ 12:=by
   have:=hperm.length_eq;rw [List.length_append] at this;omega
  have hqb:qb.length=ls.length:=by rw [lqb.1,List.length_map]
  have hqa:qa.length=rs.length:=by rw [lqa.1,List.length_map]
  subst zzh;refine ⟨decide (0 < ls.length),fun Q hQ=>?_,fun cc=>?_,fun cc=>?_⟩
  ·walk_at "RD";refine ⟨_,.inl (SqL.of lb),?_⟩;rw [show decide (0 < (((qb.map V.ref).length:Nat):Int))=decide (0 < ls.length) by rw [List.length_map,hqb];exact decide_eq_decide.mpr (by omega)];exact hQ
  ·have cc:=of_decide_eq_true cc;have e1:=Dj ns (110 + (ls.length:Int)) (m:=(ls.length:Int)) (by omega);have e2:=Hk ns (110 + (ls.length:Int)) (m:=(ls.length:Int)) (by omega);walk_at "RD";obtain ⟨k,hk⟩:∃ k:Nat,Ki ns (110 + (ls.length:Int)) (ls.length:Int)=(k:Int):=⟨_,(Int.toNat_of_nonneg e1).symm⟩;have hkl:k < qb.length:=by omega
   have hql:qb[k]? = some qb[k]:=List.getElem?_eq_getElem hkl;have hll:k < ls.length:=by omega
   have hlk:ls[k]? = some ls[k]:=List.getElem?_eq_getElem hll;have hek:H' qb[k]=some (sdO ls[k]):=lqb.2 k _ _ hql (by rw [List.getElem?_map,hlk];rfl);refine ⟨.inl ⟨_,SqL.of la⟩,.inl ⟨_,SqL.of lb⟩,_,.inl (SqL.of lb),_,.inl (SqL.of lb),?_⟩;rw [List.length_map,hqb];refine ⟨_,_,rfl,S7,by omega,by omega,_,_,rfl,lb,?_⟩;rw [hk];have lb2:(upd H' sl (.lst ((qb.map V.ref).eraseIdx k))) rl=some (.lst (qa.map V.ref)):=by rw [rb hrp];exact la
   have keep:∀ {q:Addr} {o:SD},H' q=some (sdO o)→(upd (upd H' sl (.lst ((qb.map V.ref).eraseIdx k))) rl (.lst (qa.map V.ref ++ [V.ref qb[k]]))) q=some (sdO o):=fun {q o} e=>by
    rw [rb (kf e la (by intro z;cases z)),rb (kf e lb (by intro z;cases z))];exact e
   have keepQ:∀ {qs:List Addr} {os:List SD},LQ H' qs (List.map sdO os)→LQ (upd (upd H' sl (.lst ((qb.map V.ref).eraseIdx k))) rl (.lst (qa.map V.ref ++ [V.ref qb[k]]))) qs (List.map sdO os):=fun {qs os} h=>⟨h.1,fun i q o hq ho=>by
    have e:=h.2 i q o hq ho;obtain ⟨d,_,rfl⟩:=lc ho;exact keep e⟩
   refine ⟨by omega,by omega,k,xJ (by rw [List.length_map];exact hkl),_,by rw [List.getElem?_map,hql];rfl,_,lb2,Nat.lt_of_le_of_lt (show (qa.map V.ref).length ≤ 12 by rw [List.length_map];omega) (by decide),(s7.updN hsl).updN (s5.free hrl),(S7.set lb (by intro ob z h;cases h)).set lb2 (by intro ob z h;cases h),⟨rs ++ [ls[k]],ls.eraseIdx k,qa ++ [qb[k]],by rw [cb,List.map_append];rfl,?_,qb.eraseIdx k,?_,?_,?_⟩,?_⟩
   ·rw [List.map_append];exact (keepQ lqa).app (LQ.one (keep hek))
   ·rw [rb (Ne.symm hrp),cb,pI]
   ·have h0:=keepQ lqb;refine ⟨by rw [List.length_map,List.length_eraseIdx_of_lt hkl,List.length_eraseIdx_of_lt hll,hqb],fun i q o hq ho=>?_⟩;rw [← pI] at ho;rw [List.getElem?_eraseIdx] at hq ho;by_cases c:i < k
    ·rw [if_pos c] at hq ho;exact h0.2 i q o hq ho
    ·rw [if_neg c] at hq ho;exact h0.2 (i + 1) q o hq ho
   ·refine List.Perm.trans ?_ hperm;rw [List.append_assoc];refine List.Perm.append_left rs ?_;have:=cu hlk;exact this
   ·rw [rb (Ne.symm hrp),cb,lb];show ((qb.map V.ref).eraseIdx k).length < (qb.map V.ref).length;rw [List.length_eraseIdx_of_lt (by rw [List.length_map];exact hkl)];rw [List.length_map];omega
  ·have cc:=of_decide_eq_false cc;have:ls=[]:=List.length_eq_zero_iff.mp (by omega);subst this;rw [List.append_nil] at hperm;exact hD _ _ ⟨s7,S7,⟨rs,⟨qa,la,lqa⟩,hperm⟩,rfl⟩
 rintro σ7 H7 ⟨s7,S7,⟨rs,L7,hperm⟩,rfl⟩;subst zzh;walk_at "RD";exact q rl rs _ s7 S7 L7 (SP.perm hperm)
end
end My
namespace My
open PySem L2
theorem sF {a z:Int} (h:0 < z):a % z ≤ z:=Int.le_of_lt (Int.emod_lt_of_pos _ h)
noncomputable def wv (z:Int) (s:SD) (k:Nat) (l:List (SD × Nat)):Int:=l.foldl (fun m e=>if e.2 ≠ k∧e.1.name=s.name then (if (e.1.b - s.b) % z < m then (e.1.b - s.b) % z else m) else m) z
noncomputable def iw (z:Int) (l:List Int):Int:=l.foldl (fun m x=>if x < m then x else m) z
theorem Xr:∀ (l:List Int) (z:Int),iw z l=((z :: l).min?).getD z
 | [],z=>rfl
 | x :: l,z=>by
  have ih:=Xr l (if x < z then x else z);show iw (if x < z then x else z) l=_;rw [ih,List.min?_cons',List.min?_cons'];show l.foldl min (if x < z then x else z)=l.foldl min (min z x);congr 1;rw [Int.min_def];split <;> split <;> omega
theorem tD {l:List Int} {z:Int} (h:∀ x ∈ l,x ≤ z):iw z l=(l.min?).getD z:=by
 cases l with
 | nil=>rfl
 | cons x l=>
  rw [Xr,List.min?_cons',List.min?_cons'];show (x :: l).foldl min z=l.foldl min x;show l.foldl min (min z x)=_;rw [show min z x=x by have:=h x (by simp);rw [Int.min_def];split <;> omega]
theorem RA (z:Int) (s:SD) (k:Nat):∀ (l:List (SD × Nat)) (m:Int),l.foldl (fun m e=>if e.2 ≠ k∧e.1.name=s.name then (if (e.1.b - s.b) % z < m then (e.1.b - s.b) % z else m) else m) m=iw m ((l.filter fun e=>decide (e.2 ≠ k∧e.1.name=s.name)).map fun e=>(e.1.b - s.b) % z)
 | [],m=>rfl
 | e :: l,m=>by
  rw [List.foldl_cons,RA z s k l];by_cases c:e.2 ≠ k∧e.1.name=s.name
  ·rw [if_pos c,List.filter_cons_of_pos (by simpa using c)];rfl
  ·rw [if_neg c,List.filter_cons_of_neg (by simpa using c)]
theorem kI:∀ (l:List SD) (n k:Nat),k < n→(l.zipIdx n).filter (fun e=>decide (e.2 ≠ k))=l.zipIdx n
 | [],_,_,_=>rfl
 | a :: l,n,k,h=>by
  rw [List.zipIdx_cons,List.filter_cons_of_pos (by simp;omega),kI l (n + 1) k (by omega)]
theorem nI:∀ (l:List SD) (n k:Nat),((l.zipIdx n).filter fun e=>decide (e.2 ≠ n + k)).map (·.1)=l.eraseIdx k
 | [],_,_=>rfl
 | a :: l,n,0=>by
  rw [List.zipIdx_cons,List.filter_cons_of_neg (by simp),Nat.add_zero,kI l (n + 1) n (by omega),List.zipIdx_map_fst];rfl
 | a :: l,n,k + 1=>by
  rw [List.zipIdx_cons,List.filter_cons_of_pos (by simp),List.map_cons,show n + (k + 1)=(n + 1) + k by omega,nI l (n + 1) k];rfl
theorem wE {z:Int} (hz:0 < z) (sp:List SD) (s:SD) (k:Nat):wv z s k sp.zipIdx=Yw z sp k s:=by
 unfold wv;rw [RA];have e:((sp.zipIdx.filter fun e=>decide (e.2 ≠ k∧e.1.name=s.name)).map fun e=>(e.1.b - s.b) % z)=(ofN s.name (sp.eraseIdx k)).map fun p=>(p.1 - s.b) % z:=by
  have h:=nI sp 0 k;rw [Nat.zero_add] at h;unfold ofN;rw [← h,List.map_map,List.filter_map,List.map_map,List.filter_filter];congr 1;apply List.filter_congr;intro x _;rw [Bool.eq_iff_iff];simp [and_comm]
 rw [e];unfold Yw;refine tD fun x hx=>?_
 obtain ⟨p,_,rfl⟩:=List.mem_map.mp hx;exact sF hz
noncomputable def Sg (ds:List WD) (z:Int) (sp:List SD) (gd:Str):Str × Str × Int:=match Of ds sp with
 | some x=>(S "never",x,-1)
 | none=>match Ih ds z sp with
  | some e=>(S "short",e.1.name,e.1.b)
  | none=>(S "good",gd,-1)
noncomputable def tO (c:Str × Str × Int):HO:=.tup [.str c.1,.str c.2.1,.int c.2.2]
theorem JG {ds:List WD} {sp:List SD} {i:Nat} {d:WD} (hd:ds[i]? = some d) (h:Of (ds.take i) sp=none) (he:(ofN d.name sp).isEmpty=true):Of ds sp=some d.name:=by
 have hi:=(List.getElem?_eq_some_iff.mp hd).1;have e:ds=ds.take i ++ d :: ds.drop (i + 1):=by
  rw [← (List.getElem?_eq_some_iff.mp hd).2,← List.drop_eq_getElem_cons hi,List.take_append_drop]
 unfold Of at h ⊢;rw [e,List.map_append,List.find?_append,h,List.map_cons,List.find?_cons_of_pos (p:=fun x=>(ofN x sp).isEmpty) he];rfl
theorem zB {ds:List WD} {sp:List SD} {i:Nat} {d:WD} (hd:ds[i]? = some d) (h:Of (ds.take i) sp=none) (he:(ofN d.name sp).isEmpty=false):Of (ds.take (i + 1)) sp=none:=by
 unfold Of at h ⊢;rw [Pe hd,List.map_append,List.find?_append,h,List.map_cons,List.map_nil,List.find?_cons_of_neg (by rw [he];decide)];rfl
theorem qH {ds:List WD} {z:Int} {sp:List SD} {k:Nat} {s:SD} (hs:sp[k]? = some s) (h:∀ j e,j < k→sp[j]? = some e→Mj ds z sp j e=false) (hb:Mj ds z sp k s=true):Ih ds z sp=some (s,k):=by
 unfold Ih;rw [List.find?_eq_some_iff_getElem];obtain ⟨hk,e⟩:=List.getElem?_eq_some_iff.mp hs;refine ⟨hb,k,by rw [List.length_zipIdx];exact hk,by rw [List.getElem_zipIdx,e,Nat.zero_add],fun j hj=>?_⟩;rw [List.getElem_zipIdx,Nat.zero_add];show (!Mj ds z sp j sp[j])=true;rw [h j _ hj (List.getElem?_eq_getElem (by omega))];rfl
theorem jH {ds:List WD} {z:Int} {sp:List SD} (h:∀ j e,sp[j]? = some e→Mj ds z sp j e=false):Ih ds z sp=none:=by
 unfold Ih;rw [List.find?_eq_none];rintro ⟨s,k⟩ hk;rw [h k s (List.mem_zipIdx_iff_getElem?.mp hk)];decide
theorem sH (x:Str) (sp:List SD):(ofN x sp).isEmpty = !decide (x ∈ sp.map (·.name)):=by
 rw [Bool.eq_iff_iff,List.isEmpty_iff,Bool.not_eq_true',decide_eq_false_iff_not];constructor
 ·intro e hm;obtain ⟨s,hs,hx⟩:=List.mem_map.mp hm;have:(s.b,s.n) ∈ ofN x sp:=by unfold ofN;exact List.mem_map.mpr ⟨s,List.mem_filter.mpr ⟨hs,by simpa using hx⟩,rfl⟩
  rw [e] at this;cases this
 ·intro h;exact Ev fun s hs z=>h (List.mem_map.mpr ⟨s,hs,z⟩)
noncomputable def JL (x:Str) (qs:List Addr) (ds:List WD):List (Option V):=(qs.zip ds).map fun e=>if e.2.name=x then some (V.ref e.1) else none
theorem ow {H:Hp} {x:Str}:∀ (qs:List Addr) (ds:List WD),qs.length=ds.length→(∀ (i:Nat) (q:Addr) (d:WD),qs[i]? = some q→ds[i]? = some d→H q=some (t14 d))→x ∈ ds.map (·.name) →
  ∃ q d,wOf ds x=some d∧((JL x qs ds).flatMap Option.toList)[0]? = some (.ref q)∧H q=some (t14 d)
 | [],[],_,_,h=>by cases h
 | q :: qs,d :: ds,hl,al,h=>by
  unfold JL wOf;rw [List.zip_cons_cons,List.map_cons,List.flatMap_cons];by_cases c:d.name=x
  ·refine ⟨q,d,List.find?_cons_of_pos (by simpa using c),?_,al 0 q d rfl rfl⟩;rw [if_pos c];rfl
  ·rw [if_neg c,List.find?_cons_of_neg (by simpa using c)];have hx:x ∈ ds.map (·.name):=by
    rcases List.mem_cons.mp (show x ∈ d.name :: ds.map (·.name) from h) with z | z
    ·exact absurd z.symm c
    ·exact z
   exact ow qs ds (by simpa using hl) (fun i q d h1 h2=>al (i + 1) q d h1 h2) hx
noncomputable def FD (K:PySem.W.Frag):Sp:=fun vs H Q _=>∃ (wl:Addr) (ds:List WD) (z:Int) (rl:Addr) (sp:List SD),vs=[.ref wl,.int z,.ref rl]∧LO H wl (ds.map t14)∧LO H rl (List.map sdO sp)∧D14 ds∧ds.length ≤ 4∧S14 z ds sp∧(12 ≤ z∧z ≤ 240)∧NoT H ∧
 ∀ tp H',dc H H'→NoT H'→H' tp=some (tO (Sg ds z sp (S "")))→Q (.ref tp) H'
section
variable {P:Program} {w:World} {K:PySem.W.Frag} {mg:Str→Option Value} {base:Heap} {t:Adr}
theorem NJ (T:Txt w K mg t):Kb P w K mg base CX0 2 t.bi t.Vj q43 (FD K):=by
 have g32:Kb P w K mg base CX0 1 t.jg t.Xg q20 (vz K):=AD T;refine T.gp.ok fg (fun vs H Q E h=>?_) (fun _ _ _ s H vs Q E hr h=>?_)
 ·obtain ⟨wl,ds,z,rl,sp,rfl,_⟩:=h;rfl
 obtain ⟨wl,ds,z,rl,sp,rfl,⟨qs,l1,lq⟩,⟨os,r1,rq⟩,D,hdl,SP,hz,nt,q⟩:=h;have hql:qs.length=ds.length:=by rw [lq.1,List.length_map]
 have hol:os.length=sp.length:=by rw [rq.1,List.length_map]
 have hsl:=SP.ln;have Vn:∀ k:Nat,k ≤ 1000→k ≤ sizeLine:=fun k h=>Nat.le_trans h (by decide)
 have alw:∀ (i:Nat) (q:Addr) (d:WD),qs[i]? = some q→ds[i]? = some d→H q=some (t14 d):=fun i q d h1 h2=>lq.2 i q _ h1 (by rw [List.getElem?_map,h2];rfl)
 have als:∀ (i:Nat) (q:Addr) (d:SD),os[i]? = some q→sp[i]? = some d→H q=some (sdO d):=fun i q d h1 h2=>rq.2 i q _ h1 (by rw [List.getElem?_map,h2];rfl)
 refine ⟨_,(db (se PassesOwn.never rfl (Wd (pv 0)) (Ab (i:=3) fg.nd) (gb (Kf (zc Ep (xc Ge (pv 3) ub) (yj rfl (Wd (pv 2)) (Ud (sc:=ib Yj) rfl (by decide +kernel)) (N:=["_law_row"]) (sel:=[none]) (Ie (M:=q50) (by decide +kernel)) (Blk.of (fun _ _ _ _=>(Ab (i:=0) (Li (N:=["_law_row"]) (by decide +kernel) rfl))) (fun _ _ _ _=>⟨_,ui,by walk_at "B"⟩) (fun _ _ _ _=>⟨_,(xc Ge (pv 0) ub),by walk_at "B"⟩))) (by with_unfolding_all rfl)) (gb (Ob (mj (bb qc (bb (xc Ge (pv 3) ub) (bb (Nv Bn ub) fb)))))) Kc)))
   (db (se PassesOwn.never rfl (Re rfl T.Ng (bb (fc Lc rfl T.Zm Zc (bb (pv 2) fb)) fb)) (Cy (i:=4) fg.nd rfl (Or.inr rfl)) (db (Bb (i:=3) fg.nd (xc ae (yj rfl (Wd (pv 0)) (Ud (sc:=ib Yj) rfl (by decide +kernel)) (N:=["_law_one","_law_rows_here","_law_k"]) (sel:=[none,some 2,some 4]) (Ie (M:=q50) (by decide +kernel)) (Blk.of (fun _ _ _ _=>(Ab (i:=0) (Li (N:=["_law_one","_law_rows_here","_law_k"]) (by decide +kernel) rfl))) (fun _ _ _ _=>⟨_,(Hv (zc Mi (xc Ge (pv 0) ub) (xc Ge (xc ae (pv 1) (pv 2)) ub) (Hc _))),by walk_at "B"⟩) (fun _ _ _ _=>⟨_,(pv 0),by walk_at "B"⟩))) ub))
   (db (Bb (i:=5) fg.nd (pv 1))
   (db (se PassesOwn.never rfl (Re rfl T.Ng (bb (fc Lc rfl T.Zm Zc (bb (pv 2) fb)) fb)) (Ab (i:=6) fg.nd) (gb (Kf (PW.pt (fu (zc KC (pv 6) (pv 4) (Hc _)) (Ro (zc Mi (xc Ge (xc ae (pv 2) (pv 6)) ub) (xc Ge (xc ae (pv 2) (pv 4)) ub) (Hc _))))) (gb (Bb (i:=5) fg.nd (fc (Mr rfl) rfl T.KH Xo (bb (pv 5) (bb (Vb zi (Vb gk (xc Ge (xc ae (pv 2) (pv 6)) ub) (xc Ge (xc ae (pv 2) (pv 4)) ub)) (pv 1)) fb))))) Kc)))
   (gb (Kf (PW.pt (MD (zc wt (xc Ge (xc ae (pv 2) (pv 4)) ub) (xc Ge (pv 3) ub) (Hc _)) (qx (zc wt (pv 5) (Vb ke (xc Ge (xc ae (pv 2) (pv 4)) ub) (Db g32 hr T.gs T.xk.kp T.Zq (bb (pv 3) fb))) (Hc _))))) (gb (Ob (mj (bb qc (bb (xc Ge (pv 3) ub) (bb (xc Ge (xc ae (pv 2) (pv 4)) ub) fb)))))) Kc))))))
   (gb (Ob (mj (bb qc (bb qc (bb (Nv Bn ub) fb)))))))),?_⟩
 simp only [uc];refine Kd (fun σ' H'=>dc H H'∧NoT H'∧Of ds sp=none∧∃ x3,σ'=[some (.ref wl),some (.int z),some (.ref rl),x3,none,none,none]) (fun D' hD hrt _ _=>?_) ?_
 ·walk_at "RD";refine ⟨⟨_,SqL.of l1⟩,?_⟩;refine uj.list (xs:=qs.map V.ref) (fun i σ H'=>dc H H'∧NoT H'∧Of (ds.take i) sp=none∧∃ x3,σ=[some (.ref wl),some (.int z),some (.ref rl),x3,none,none,none]) ?_ ?_ ?_ ?_
  ·exact ⟨dc.refl _,nt,rfl,_,rfl⟩
  ·rintro i σ H' hi ⟨sm,_⟩;exact SqL.of (sm _ _ l1)
  ·rintro i v σ H' hv zzq;refine zP fun zzM zzh=>?_
   obtain ⟨sm,nt',hn,x3,rfl⟩:=zzq;obtain ⟨qi,hqi,rfl⟩:=lc hv;have hid:i < ds.length:=by rw [← hql];exact (List.getElem?_eq_some_iff.mp hqi).1
   have hdi:ds[i]? = some ds[i]:=List.getElem?_eq_getElem hid;have ei:=alw i _ _ hqi hdi;subst zzh;simp only [Ig,List.set_cons_succ,List.set_cons_zero];refine qk (fun b H2=>b=(ofN ds[i].name sp).isEmpty∧dc H' H2∧NoT H2) (fun Q hQ=>?_) (fun H2 r=>?_) (fun H2 r=>?_)
   ·walk_at "RD";refine ⟨_,SqT.of (sm _ _ ei),_,YB _,⟨_,SqL.of (sm _ _ r1)⟩,?_⟩;refine Zd.list_zs (xs:=os.map V.ref) (zs:=Pb (sp.map (·.name))) (SqL.of (sm _ _ r1)) (Vn _ (by rw [List.length_map];omega)) (by unfold Pb;rw [List.length_map,List.length_map,List.length_map,hol]) (fun j x y N hx hy hN=>?_) (fun p hp=>?_)
    ·obtain ⟨oj,hoj,rfl⟩:=lc hx;obtain ⟨y',hy',rfl⟩:=lc hy;obtain ⟨sd,hsd,rfl⟩:=lc hy';walk_at "RD";exact ⟨Sub.name,_,SqT.of (sm _ _ (als j oj sd hoj hsd)),_,yM _,hN⟩
    ·refine ⟨_,rfl,_,.inl (SqL.of cb),rfl,Yl _,?_⟩;rw [Iq];exact hQ _ _ ⟨(sH _ _).symm,jb hp,nt'.upd⟩
   ·obtain ⟨hb,s2,n2⟩:=r;walk_at "RD";refine ⟨_,SqT.of (s2 _ _ (sm _ _ ei)),_,YB _,by decide,fun p hp=>?_⟩;rw [hrt];refine q p _ ((sm.trans s2).trans (jb hp)) n2.upd ?_;rw [cb];unfold Sg;rw [JG hdi hn hb.symm];rfl
   ·obtain ⟨hb,s2,n2⟩:=r;walk_at "RD";exact ⟨sm.trans s2,n2,zB hdi hn hb.symm,_,rfl⟩
  ·rintro σ H' zzq;refine zP fun zzM zzh=>?_
   obtain ⟨sm,nt',hn,x3,rfl⟩:=zzq;subst zzh;rw [List.length_map,hql,List.take_length] at hn;exact hD _ _ ⟨sm,nt',hn,_,rfl⟩
 rintro σ1 H1 zzq;refine zP fun zzM zzh=>?_
 obtain ⟨s1,n1,hN,x3,rfl⟩:=zzq;subst zzh;simp only [uc];refine Kd (fun σ' H'=>dc H H'∧NoT H'∧Ih ds z sp=none∧∃ x3 x4 x5 x6,σ'=[some (.ref wl),some (.int z),some (.ref rl),x3,x4,x5,x6]) (fun D' hD hrt _ _=>?_) ?_
 ·walk_at "RD";refine ⟨_,.inl (SqL.of (s1 _ _ r1)),?_⟩;rw [List.length_map,hol];refine ⟨by omega,by omega,?_⟩;rw [Int.toNat_natCast];refine uj.range (fun k σ H'=>dc H H'∧NoT H'∧(∀ j e,j < k→sp[j]? = some e→Mj ds z sp j e=false)∧∃ x3 x4 x5 x6,σ=[some (.ref wl),some (.int z),some (.ref rl),x3,x4,x5,x6]) ?_ ?_ ?_
  ·exact ⟨s1,n1,fun j e h=>(by omega),_,_,_,_,rfl⟩
  ·rintro k σ H' hk zzq;refine zP fun zzM zzh=>?_
   obtain ⟨sm,nt',hn,x3,x4,x5,x6,rfl⟩:=zzq;have hsk:sp[k]? = some sp[k]:=List.getElem?_eq_getElem hk;have hok:os[k]? = some os[k]:=List.getElem?_eq_getElem (by omega);have ek:=als k _ _ hok hsk;have atk:atI (os.map V.ref) (k:Int)=some (.ref os[k]):=Cc (by rw [List.getElem?_map,hok];rfl);obtain ⟨qd,d,hd,h0,ed⟩:=ow (x:=sp[k].name) qs ds hql alw (SP.al _ (List.getElem_mem hk)).1;have hdm:d ∈ ds:=List.mem_of_find?_eq_some hd;have hdk:d.k < 3:=by
    obtain ⟨j,hj⟩:=List.getElem?_of_mem hdm;exact (D j d hj).k
   have hdn:d.name=sp[k].name:=by have:=List.find?_some hd;simpa using this
   subst zzh;simp only [Ig,uc,List.set_cons_succ,List.set_cons_zero,Int.zero_add];refine zzC (fun σ' H2=>dc H' H2∧NoT H2∧σ'=[some (.ref wl),some (.int z),some (.ref rl),some (.ref qd),some (.int (k:Nat)),x5,x6]) (fun D hD=>?_) fun zzM zzh=>?_
   ·walk_at "RD";refine ⟨⟨_,SqL.of (sm _ _ l1)⟩,?_⟩;refine Zd.list_sel (xs:=qs.map V.ref) (ss:=JL sp[k].name qs ds) (SqL.of (sm _ _ l1)) (Vn _ (by rw [List.length_map];omega)) (by unfold JL;rw [List.length_map,List.length_zip,List.length_map,hql,Nat.min_self]) (fun i v o ys N hv ho hN=>?_) (fun p hp=>?_)
    ·obtain ⟨qi,hqi,rfl⟩:=lc hv;have hid:i < ds.length:=by rw [← hql];exact (List.getElem?_eq_some_iff.mp hqi).1
     have hdi:ds[i]? = some ds[i]:=List.getElem?_eq_getElem hid;have ei:=sm _ _ (alw i _ _ hqi hdi);walk_at "RD";have ek':=sm _ _ ek;refine ⟨Sub.name,_,SqT.of ei,_,YB _,_,SqL.of (sm _ _ r1),_,atk,_,rfl,_,SqT.of ek',_,yM _,rfl,?_⟩;have ho2:o=if ds[i].name=sp[k].name then some (V.ref qi) else none:=by
      unfold JL at ho;obtain ⟨e,he,rfl⟩:=lc ho;rw [List.getElem?_zip_eq_some] at he;obtain ⟨h1,h2⟩:=he;rw [hqi] at h1;rw [hdi] at h2;rw [← Option.some.inj h1,← Option.some.inj h2]
     by_cases c:ds[i].name=sp[k].name
     ·rw [if_pos c] at ho2;subst ho2;rw [if_pos (by rw [c];simp)];exact hN
     ·rw [if_neg c] at ho2;subst ho2;rw [if_neg (by simpa using c)];have:ys ++ Option.toList (none:Option V)=ys:=by simp
      rw [this] at hN;exact hN
    ·walk_at "RD";exact ⟨_,SqL.of cb,_,Cc (j:=0) h0,hD _ _ ⟨jb hp,nt'.upd,rfl⟩⟩
   rintro σ2 H2 ⟨s2,n2,rfl⟩;have sm2:=sm.trans s2;subst zzh;simp only [uc];refine zzC (fun σ' H3=>H3=H2∧σ'=[some (.ref wl),some (.int z),some (.ref rl),some (.ref qd),some (.int (k:Nat)),some (.int z),x6]) (fun D hD=>?_) fun zzM zzh=>?_
   ·walk_at "RD";exact hD _ _ ⟨rfl,rfl⟩
   rintro σ3 H3 ⟨rfl,rfl⟩;subst zzh;simp only [uc];refine zzC (fun σ' H4=>H4=H3∧∃ x6,σ'=[some (.ref wl),some (.int z),some (.ref rl),some (.ref qd),some (.int (k:Nat)),some (.int (Yw z sp k sp[k])),x6]) (fun D hD=>?_) fun zzM zzh=>?_
   ·walk_at "RD";refine ⟨_,.inl (SqL.of (sm2 _ _ r1)),?_⟩;rw [List.length_map,hol];refine ⟨by omega,by omega,?_⟩;rw [Int.toNat_natCast];refine uj.range (fun i σ H4=>H4=H3∧∃ x6,σ=[some (.ref wl),some (.int z),some (.ref rl),some (.ref qd),some (.int (k:Nat)),some (.int (wv z sp[k] k (sp.zipIdx.take i))),x6]) ?_ ?_ ?_
    ·exact ⟨rfl,_,rfl⟩
    ·rintro i σ H4 hi ⟨rfl,x6,rfl⟩;have hsi:sp[i]? = some sp[i]:=List.getElem?_eq_getElem hi;have hoi:os[i]? = some os[i]:=List.getElem?_eq_getElem (by omega);have ei:=sm2 _ _ (als i _ _ hoi hsi);have ek2:=sm2 _ _ ek;have ati:atI (os.map V.ref) (i:Int)=some (.ref os[i]):=Cc (by rw [List.getElem?_map,hoi];rfl);have hr2:=SqL.of (K:=K) (sm2 _ _ r1);have hzi:sp.zipIdx[i]? = some (sp[i],i):=by rw [List.getElem?_zipIdx,hsi,Nat.zero_add];rfl
     have hst:wv z sp[k] k (sp.zipIdx.take (i + 1))=if i ≠ k∧sp[i].name=sp[k].name then (if (sp[i].b - sp[k].b) % z < wv z sp[k] k (sp.zipIdx.take i) then (sp[i].b - sp[k].b) % z else wv z sp[k] k (sp.zipIdx.take i)) else wv z sp[k] k (sp.zipIdx.take i):=by
      unfold wv;rw [Pe hzi,List.foldl_append];rfl
     generalize wv z sp[k] k (sp.zipIdx.take i)=lf at hst;simp only [Ig,List.set_cons_succ,List.set_cons_zero,Int.zero_add];refine Nc (decide (i ≠ k∧sp[i].name=sp[k].name)) (fun Q hQ=>?_) (fun c=>?_) (fun c=>?_)
     ·walk_at "RD";by_cases cik:i=k
      ·rw [if_neg (by rw [cik];simp)];rw [show decide (i ≠ k∧sp[i].name=sp[k].name)=false from decide_eq_false fun z=>z.1 cik] at hQ;exact hQ
      ·rw [if_pos (by simp;omega)];refine ⟨_,hr2,_,ati,_,rfl,_,SqT.of ei,_,yM _,_,hr2,_,atk,_,rfl,_,SqT.of ek2,_,yM _,rfl,?_⟩;rw [show decide (V.str sp[i].name=V.str sp[k].name)=decide (i ≠ k∧sp[i].name=sp[k].name) from decide_eq_decide.mpr ⟨fun e=>⟨cik,V.str.inj e⟩,fun e=>by rw [e.2]⟩];exact hQ
     ·have c:=of_decide_eq_true c;walk_at "RD";rw [if_pos c] at hst;exact ⟨_,hr2,_,ati,_,rfl,_,SqT.of ei,_,ZM _,_,hr2,_,atk,_,rfl,_,SqT.of ek2,_,ZM _,_,rfl,_,rfl,by omega,hst.symm,_,rfl⟩
     ·have c:=of_decide_eq_false c;walk_at "RD";rw [if_neg c] at hst;exact ⟨hst.symm,_,rfl⟩
    ·rintro σ H4 ⟨rfl,x6,rfl⟩;rw [List.take_of_length_le (by rw [List.length_zipIdx];exact Nat.le_refl _),wE (by omega)];exact hD _ _ ⟨rfl,_,rfl⟩
   rintro σ4 H4 ⟨rfl,x6,rfl⟩;have hsb:Mj ds z sp k sp[k]=(decide (sp[k].n < d.least) || decide (Yw z sp k sp[k] < sp[k].n + zD d)):=by
    unfold Mj;rw [hd,← xK,← Int.add_assoc];rfl
   subst zzh;dsimp only;refine Nc (Mj ds z sp k sp[k]) (fun Q hQ=>?_) (fun c=>?_) (fun c=>?_)
   ·walk_at "RD";have ek2:=sm2 _ _ ek;have ed2:=sm2 _ _ ed;have hr2:=SqL.of (K:=K) (sm2 _ _ r1);have at3:atI [V.str (Pd d.k),.str d.name,.int d.off,.int d.least] 3=some (.int d.least):=Cc (j:=3) rfl;refine ⟨_,hr2,_,atk,_,rfl,_,SqT.of ek2,_,PN _,_,SqT.of ed2,_,at3,_,rfl,_,rfl,?_⟩;rw [hsb] at hQ;by_cases c1:sp[k].n < d.least
    ·rw [if_pos (decide_eq_true c1)];rw [decide_eq_true c1,Bool.true_or] at hQ;exact hQ
    ·rw [if_neg (by rw [decide_eq_false c1];decide)];rw [decide_eq_false c1,Bool.false_or] at hQ;exact ⟨_,hr2,_,atk,_,rfl,_,SqT.of ek2,_,PN _,qd,d,rfl,ed2,hdk,_,rfl,_,rfl,hQ⟩
   ·walk_at "RD";refine ⟨_,SqT.of (sm2 _ _ ed),_,YB _,_,SqL.of (sm2 _ _ r1),_,atk,_,rfl,_,SqT.of (sm2 _ _ ek),_,ZM _,by decide,fun p hp=>?_⟩;rw [hrt];refine q p _ (sm2.trans (jb hp)) n2.upd ?_;rw [cb];unfold Sg;rw [hN];dsimp only;rw [qH hsk hn c,hdn];rfl
   ·walk_at "RD";refine ⟨sm2,n2,fun j e hj he=>?_,_,rfl⟩;by_cases cj:j=k
    ·subst cj;rw [hsk] at he;cases he;exact c
    ·exact hn j e (by omega) he
  ·rintro σ H' zzq;refine zP fun zzM zzh=>?_
   obtain ⟨sm,nt',hn,x3,x4,x5,x6,rfl⟩:=zzq;subst zzh;exact hD _ _ ⟨sm,nt',jH fun j e he=>hn j e (List.getElem?_eq_some_iff.mp he).1 he,_,_,_,_,rfl⟩
 rintro σ2 H2 zzq;refine zP fun zzM zzh=>?_
 obtain ⟨s2,n2,hS,x3,x4,x5,x6,rfl⟩:=zzq;subst zzh;walk_at "RD";refine ⟨by decide,fun tp htp=>q tp _ (s2.trans (jb htp)) n2.upd ?_⟩;rw [cb];unfold Sg;rw [hN];dsimp only;rw [hS];rfl
end
end My
namespace My
open PySem L2
structure HE (z:Nat) (ds:List WD) (sp:List SD):Prop where
 dok:DOk ds
 dne:∀ d ∈ ds,d.name ≠ Str.ofString ""
 z1:1 ≤ z∧z ≤ 240
 sok:aJ z sp
 kn:∀ s ∈ sp,∃ d,wOf ds s.name=some d
 gd:bH z ds sp
 cl:ym 9 z sp ds=none
 sl:sp.length ≤ 12
 nl8:∀ s ∈ sp,Do s.name
noncomputable def Oz (t:Adr) (K:PySem.W.Frag):Sp:=fun vs H Q _=>∃ (c:Addr) (ds:List WD) (z:Nat) (rl:Addr) (sp:List SD) (by_:Bool),vs=[.ref c,.int z,.ref rl,.str (Jf z sp),.bl by_]∧ad t H c 9 ds∧HE z ds sp∧LO H rl (List.map sdO sp)∧NoT H ∧
 ∀ tp H',dc H H'→NoT H'→H' tp=some (tO (Sg ds z sp (Jf z sp)))→Q (.ref tp) H'
theorem xf {z:Nat} {ds:List WD} {sp:List SD} (A:HE z ds sp):∀ r ∈ Rg z sp,r ≠ []∧r.length ≤ 9∧∀ x ∈ r,YD x:=fun r hr=>by
 have c:∀ y ∈ [S "round",S "free"],Do y:=by unfold Do;decide +kernel
 have hz:=A.z1;rcases List.mem_cons.mp hr with e | e
 ·subst e;refine ⟨by simp,by show 2 ≤ 9;decide,fun x hx=>?_⟩;have:x=S "round" ∨ x=num z:=by simpa using hx
  rcases this with rfl | rfl
  ·exact (c _ (by simp)).b
  ·exact (Xc (by omega) (by omega)).b
 ·obtain ⟨d,hd,rfl⟩:=List.mem_map.mp e;refine ⟨by unfold Lg;simp,by show 4 ≤ 9;decide,fun x hx=>?_⟩;obtain ⟨i,hi⟩:=List.getElem?_of_mem hd;have g:=A.gd i d hi;have:x=S "free" ∨ x=d.name∨x=num d.b∨x=num d.n:=by simpa [Lg] using hx
  rcases this with rfl | rfl | rfl | rfl
  ·exact (c _ (by simp)).b
  ·exact (A.nl8 d hd).b
  ·exact (Xc (by omega) (by omega)).b
  ·exact (Xc (by omega) (by omega)).b
theorem wC {z:Nat} {ds:List WD} {sp:List SD} (A:HE z ds sp):Th (Jf z sp)=[S "round",num z] :: sp.map Lg:=by
 unfold Jf;exact xC (by unfold Rg;simp) (fun r hr=>(xf A r hr).1) (fun r hr=>(xf A r hr).2.2)
theorem xD {z:Nat} {ds:List WD} {sp:List SD} (A:HE z ds sp):(Jf z sp).length ≤ 20000:=by
 have hys:∀ y ∈ (Rg z sp).map (Str.join bk),y.length ≤ 200:=fun y hy=>by
  obtain ⟨r,hr,rfl⟩:=List.mem_map.mp hy;have h1:=Il bk 20 r fun x hx=>((xf A r hr).2.2 x hx).1
  rw [Ru] at h1;have:=(xf A r hr).2.1;omega
 have:=Il nl 200 _ hys;rw [Ku,List.length_map] at this;have hl:(Rg z sp).length ≤ 13:=by
  unfold Rg;rw [List.length_cons,List.length_map];have:=A.sl;omega
 unfold Jf;omega
section
variable {P:Program} {w:World} {K:PySem.W.Frag} {mg:Str→Option Value} {base:Heap} {t:Adr}
theorem pH (T:Txt w K mg t):Kb P w K mg base CX0 9 t.ng t.Ah q44 (Oz t K):=by
 have g66:Kb P w K mg base (CX1 P w) 8 t.Tg t.Ii q36 (lB t):=rH T;have g31:Kb P w K mg base (CX1 P w) 8 t.gg t.Qg q25 (Bv t):=(BA T).mono (by decide);have g34:Kb P w K mg base CX0 8 t.Pj t.Bl ["plan"] (zu t):=(qC T).mono (by decide);have GE__law_kinds:∀ hx,jv hx P w K mg base CX0 8 t.lg t.Hh ["_law_e"] (Bu t K hx):=fun hx=>(rB T hx).mono (by decide)
 refine T.il.ok Oe (fun vs H Q E h=>?_) (fun _ _ _ s H vs Q E hr h=>?_)
 ·obtain ⟨c,ds,z,rl,sp,by_,rfl,_⟩:=h;rfl
 obtain ⟨c,ds,z,rl,sp,by_,rfl,C,A0,L,nt,q⟩:=h;refine ⟨_,(db (Bb (i:=5) Oe.nd (mj (bb qc (bb qc (bb (Nv Bn ub) fb)))))
   (db (FG (i:=6) (fun _ _=>⟨_,(gb (Kf (Wk (pv 4)) (gb (Bb (i:=5) Oe.nd (mj (bb qc (bb (Db g34 hr T.ix T.Fn.kp T.Sw (bb (aB g66 hr rfl T.Fz T.Im.kp T.nz .nil JD (bb (pv 0) (bb (pv 3) fb))) fb)) (bb (Nv Bn ub) fb)))))) (gb (Bb (i:=5) Oe.nd (mj (bb qc (bb (Db g34 hr T.ix T.Fn.kp T.Sw (bb (aB g31 hr rfl T.xr T.Ik.kp T.Mq .nil JD (bb (pv 0) (bb (pv 1) (bb (Uf Xw rfl T.cB Es (bb (pv 2) fb)) fb)))) fb)) (bb (Nv Bn ub) fb)))))))),by first | rfl | (dsimp only [Cx.tr,Cx.hn];done) | (dsimp only [Cx.tr,Cx.hn];exact rfl)⟩) rfl T.vi (fun hx=>⟨_,(db (Kf (PW.pt (fu (Wk (fc Wf rfl T.Md wc (bb (pv 6) (bb (Yd (v:=.ref t.Gb) rfl T.lz rfl) fb)))) (Ro (zc Mi (aA (GE__law_kinds hx) (Ni.hne hr hx) rfl T.up T.ij.kp T.yp .nil Hd (bb (pv 6) fb)) ub (Hc _))))) (gb (Bb (i:=5) Oe.nd (mj (bb qc (bb (Ez (pv 6) rfl) (bb (Nv Bn ub) fb)))))) Kc)
   (gb (Kf (PW.pt (fu (Wk (fc Wf rfl T.Md wc (bb (pv 6) (bb (Yd (v:=.ref t.Eb) rfl T.Hz rfl) fb)))) (Ro (zc Mi (aA (GE__law_kinds hx) (Ni.hne hr hx) rfl T.up T.ij.kp T.yp .nil Hd (bb (pv 6) fb)) ub (Hc _))))) (gb (Bb (i:=5) Oe.nd (mj (bb qc (bb (Ez (pv 6) rfl) (bb (Ez (pv 6) rfl) fb)))))) Kc))),by first | rfl | (dsimp only [Cx.tr,Cx.hn];done) | (dsimp only [Cx.tr,Cx.hn];exact rfl)⟩) Oe.nd rfl rfl)
   (gb (Ob (pv 5))))),?_⟩
 walk_at "RD";refine ⟨by decide,fun p0 hp0=>?_⟩;have s0:dc H (upd H p0 (.tup [.str (Str.ofString ""),.str (Str.ofString ""),.int (-1)])):=jb hp0;have n0:NoT (upd H p0 (.tup [.str (Str.ofString ""),.str (Str.ofString ""),.int (-1)])):=nt.upd;generalize upd H p0 (.tup [.str (Str.ofString ""),.str (Str.ofString ""),.int (-1)])=H1 at s0 n0 ⊢;have hpg:=wB (z:=(z:Int)) (by have:=A0.z1;omega) A0.gd;have hwr:∀ s ∈ sp,s.name.length ≤ 8∧(0 ≤ s.b∧s.b < 1000)∧0 ≤ s.n∧s.n < 1000:=fun s hs=>by
  obtain ⟨i,hi⟩:=List.getElem?_of_mem hs;have g:=A0.gd i s hi;have:=A0.z1;exact ⟨(A0.nl8 s hs).1,by omega,by omega,by omega⟩
 simp only [rJ];generalize hEH:vH K t.Vd 6 _ _=EH;have kN:∀ (x:Str) (dx:Addr) (H3:Hp),Of ds sp=some x→dc H H3→NoT H3→H3 dx=some (.ext (XD dx [(Str.ofString "way",.str x)]))→EH [some (.ref c),some (.int z),some (.ref rl),some (.str (Jf z sp)),some (.bl by_),some (.ref p0),none] (.ref t.Gb) (some dx) H3:=fun x dx H3 hx s3 n3 hd=>by
  rw [← hEH];have et:Sg ds z sp (Jf z sp)=(S "never",x,-1):=by unfold Sg;rw [hx]
  simp only [vH];refine ⟨_,rfl,T.Yn,fun ex hex=>?_⟩;walk_at "RD";refine qk (fun b H4=>b=true∧dc H3 H4∧NoT H4) (fun Q hQ=>?_) (fun H4 r=>?_) (fun H4 r=>?_)
  ·walk_at "RD";refine ⟨_,_,hex,_,hd,T.av,_,T.im,?_⟩;rw [if_pos rfl];exact ⟨_,_,_,true,rfl,hex,hd,T.av,dG T,fun H4 s4 n4=>⟨rfl,hQ _ _ ⟨by simp,s4,n4 n3⟩⟩⟩
  ·obtain ⟨_,s4,n4⟩:=r;have hex4:=s4 _ _ hex;have hd4:=s4 _ _ hd;walk_at "RD";refine ⟨_,_,hex4,_,hd4,T.Js,T.Lp,_,zd [Str.ofString "way"] 0 rfl (by decide +kernel) rfl,by decide,fun tp htp=>?_⟩;have hex5:=(jb (o:=.tup [.str (Str.ofString "never"),.str x,.int (-1)]) htp) _ _ hex4;have hd5:=(jb (o:=.tup [.str (Str.ofString "never"),.str x,.int (-1)]) htp) _ _ hd4;refine Nc false (fun Q hQ=>?_) (fun hc=>nomatch hc) (fun _=>?_)
   ·walk_at "RD";refine ⟨_,_,hex5,_,hd5,T.av,_,T.tm,?_⟩;exact hQ
   ·walk_at "RD";refine q tp _ ((s3.trans s4).trans (jb htp)) n4.upd ?_;rw [cb,et];rfl
  ·cases r.1
 have kS:∀ (e:SD × Nat) (dx:Addr) (H3:Hp),Of ds sp=none→Ih ds z sp=some e→dc H H3→NoT H3→H3 dx=some (.ext (XD dx [(Str.ofString "way",.str e.1.name),(Str.ofString "at",.int e.1.b)]))→EH [some (.ref c),some (.int z),some (.ref rl),some (.str (Jf z sp)),some (.bl by_),some (.ref p0),none] (.ref t.Eb) (some dx) H3:=fun e dx H3 hN hS s3 n3 hd=>by
  rw [← hEH];have et:Sg ds z sp (Jf z sp)=(S "short",e.1.name,e.1.b):=by unfold Sg;rw [hN];dsimp only;rw [hS]
  simp only [vH];refine ⟨_,rfl,T.qo,fun ex hex=>?_⟩;walk_at "RD";refine Nc false (fun Q hQ=>?_) (fun hc=>nomatch hc) (fun _=>?_)
  ·walk_at "RD";refine ⟨_,_,hex,_,hd,T.Ov,_,T.jm,?_⟩;exact hQ
  walk_at "RD";refine qk (fun b H4=>b=true∧dc H3 H4∧NoT H4) (fun Q hQ=>?_) (fun H4 r=>?_) (fun H4 r=>?_)
  ·walk_at "RD";refine ⟨_,_,hex,_,hd,T.Ov,_,T.gm,?_⟩;rw [if_pos rfl];exact ⟨_,_,_,false,rfl,hex,hd,T.Ov,lF T,fun H4 s4 n4=>⟨rfl,hQ _ _ ⟨by simp,s4,n4 n3⟩⟩⟩
  ·obtain ⟨_,s4,n4⟩:=r;have hex4:=s4 _ _ hex;have hd4:=s4 _ _ hd;walk_at "RD";refine ⟨_,_,hex4,_,hd4,T.Em,T.Gp,_,zd [Str.ofString "way",Str.ofString "at"] 0 rfl (by decide +kernel) rfl,_,_,hex4,_,hd4,T.Em,T.Vr,_,zd [Str.ofString "way",Str.ofString "at"] 1 rfl (by decide +kernel) rfl,by decide,fun tp htp=>?_⟩;refine q tp _ ((s3.trans s4).trans (jb htp)) n4.upd ?_;rw [cb,et];rfl
  ·cases r.1
 clear hEH;refine Nc by_ (fun Q hQ=>?_) (fun hb=>?_) (fun hb=>?_)
 ·walk_at "RD";exact hQ
 ·walk_at "RD";refine ⟨c,9,ds,_,_,_,rfl,C.same s0,by decide,A0.dok,A0.dne,wC A0,xD A0,by rw [List.length_map];have:=A0.sl;omega,fun r hr=>⟨(xf A0 r hr).1,Nat.le_trans (xf A0 r hr).2.1 (by decide),fun y hy=>Nat.le_trans ((xf A0 r hr).2.2 y hy).1 (by decide)⟩,n0,?_⟩;rw [hpg];unfold Oc2;dsimp only;rw [Int.toNat_natCast];refine ⟨fun hN hS hc a H3 s3 n3 PA=>?_,fun x hx=>?_,fun e hN hS=>?_,fun e hN hS hC=>?_⟩
  ·refine ⟨a,c,9,ds,z,sp,rfl,PA,by have:=A0.z1;omega,A0.sl,hwr,n3,by decide,fun tp htp=>?_⟩;have et:Sg ds z sp (Jf z sp)=(S "good",Jf z sp,-1):=by unfold Sg;rw [hN];dsimp only;rw [hS]
   refine q tp _ ((s0.trans s3).trans (jb htp)) n3.upd ?_;rw [cb,et];rfl
  ·intro dx H3 s3 n3 hd;exact kN x dx H3 hx (s0.trans s3) (n3 n0) hd
  ·intro dx H3 s3 n3 hd;exact kS e dx H3 hN hS (s0.trans s3) (n3 n0) hd
  ·rw [A0.cl] at hC;cases hC
 ·obtain ⟨qs,l1,l2⟩:=id (L.same s0);walk_at "RD";refine ⟨_,.inl (SqL.of l1),fun l hl=>?_⟩;have sB:dc H (upd H1 l (.lst (qs.map V.ref))):=s0.trans (jb hl);have nB:NoT (upd H1 l (.lst (qs.map V.ref))):=n0.upd;have LB:LO (upd H1 l (.lst (qs.map V.ref))) l (List.map sdO sp):=⟨qs,cb,l2.same (jb hl)⟩;generalize upd H1 l (.lst (qs.map V.ref))=HB at sB nB LB ⊢;refine ⟨c,9,ds,z,l,sp,rfl,C.same sB,by decide,A0.dok,by have:=A0.z1;omega,LB,A0.sok,A0.kn,nB,?_⟩;refine ⟨fun hN hS hc a H3 s3 n3 PA=>?_,fun x hx=>?_,fun e hN hS=>?_,fun e hN hS hC=>?_⟩
  ·refine ⟨a,c,9,ds,z,sp,rfl,PA,by have:=A0.z1;omega,A0.sl,hwr,n3,by decide,fun tp htp=>?_⟩;have et:Sg ds z sp (Jf z sp)=(S "good",Jf z sp,-1):=by unfold Sg;rw [hN];dsimp only;rw [hS]
   refine q tp _ ((sB.trans s3).trans (jb htp)) n3.upd ?_;rw [cb,et];rfl
  ·intro dx H3 s3 n3 hd;exact kN x dx H3 hx (sB.trans s3) (n3 nB) hd
  ·intro dx H3 s3 n3 hd;exact kS e dx H3 hN hS (sB.trans s3) (n3 nB) hd
  ·rw [A0.cl] at hC;cases hC
end
end My
namespace My
open PySem L2
theorem oN {K:PySem.W.Frag} {H:Hp} {p q:Addr} {a b:Str × Str × Int} (hp:SqT K H p [.str a.1,.str a.2.1,.int a.2.2]) (hq:SqT K H q [.str b.1,.str b.2.1,.int b.2.2]):EqH K H 8 (.ref p) (.ref q) (decide (a=b)):=by
 obtain ⟨a1,a2,a3⟩:=a;obtain ⟨b1,b2,b3⟩:=b;have:=EqH.tup (k:=7) (e:=fun j=>eqV ([V.str a1,.str a2,.int a3].getD j .non) ([V.str b1,.str b2,.int b3].getD j .non)) hp hq (fun j x y h1 h2=>by
  match j,h1,h2 with
  | 0,h1,h2=>cases h1;cases h2;exact EqH.flat rfl rfl
  | 1,h1,h2=>cases h1;cases h2;exact EqH.flat rfl rfl
  | 2,h1,h2=>cases h1;cases h2;exact EqH.flat rfl rfl
  | j + 3,h1,_=>simp at h1)
 have e:((List.range (min [V.str a1,.str a2,.int a3].length [V.str b1,.str b2,.int b3].length)).all (fun j=>eqV ([V.str a1,.str a2,.int a3].getD j .non) ([V.str b1,.str b2,.int b3].getD j .non)) && [V.str a1,.str a2,.int a3].length == [V.str b1,.str b2,.int b3].length)=decide ((a1,a2,a3)=(b1,b2,b3)):=by
  rw [Bool.eq_iff_iff,decide_eq_true_eq];simp [List.range_succ,eqV]
 rw [e] at this;exact this
theorem UK {x:Str} (h:made x si 8=true):mI x∧x ≠ Str.ofString "" := by
 obtain ⟨⟨h1,h2⟩,h3⟩:=Pi h;refine ⟨⟨by omega,fun c hc=>?_⟩,fun z=>?_⟩
 ·have:=h3 c hc;omega
 ·rw [z] at h1;exact absurd h1 (by decide +kernel)
theorem AC {z:Nat} (hz:z ≤ 240) {sp:List SD} (h:∀ s ∈ sp,Do s.name∧(0 ≤ s.b∧s.b < 1000)∧0 ≤ s.n∧s.n < 1000) (hl:sp.length ≤ 12):(Jf z sp).length ≤ 5000:=by
 have hpl:∀ r ∈ Rg z sp,r.length ≤ 4∧∀ x ∈ r,x.length ≤ 8:=fun r hr=>by
  rcases List.mem_cons.mp hr with e | e
  ·subst e;refine ⟨by show 2 ≤ 4;decide,fun x hx=>?_⟩;have:x=S "round" ∨ x=num z:=by simpa using hx
   rcases this with rfl | rfl
   ·decide +kernel
   ·exact (Xc (v:=(z:Int)) (by omega) (by omega)).1
  ·obtain ⟨d,hd,rfl⟩:=List.mem_map.mp e;refine ⟨by show 4 ≤ 4;decide,fun x hx=>?_⟩;have g:=h d hd;have:x=S "free" ∨ x=d.name∨x=num d.b∨x=num d.n:=by simpa [Lg] using hx
   rcases this with rfl | rfl | rfl | rfl
   ·decide +kernel
   ·exact g.1.1
   ·exact (Xc (by omega) (by omega)).1
   ·exact (Xc (by omega) (by omega)).1
 have hys:∀ y ∈ (Rg z sp).map (Str.join bk),y.length ≤ 40:=fun y hy=>by
  obtain ⟨r,hr,rfl⟩:=List.mem_map.mp hy;have h1:=Il bk 8 r (hpl r hr).2;rw [Ru] at h1;have:=(hpl r hr).1;omega
 have:=Il nl 40 _ hys;rw [Ku,List.length_map] at this;have hl':(Rg z sp).length ≤ 13:=by
  unfold Rg;rw [List.length_cons,List.length_map];omega
 unfold Jf;omega
theorem zK {n:Int} {ds:List WD} (h:COk n ds):∀ y ∈ (qj n ds).map (Str.join bk),y.length ≤ 63:=fun y hy=>by
 obtain ⟨r,hr,rfl⟩:=List.mem_map.mp hy;have:=Il bk 8 r fun x hx=>(h.plain r hr x hx).1
 rw [Ru] at this;have hl:r.length ≤ 7:=by
  rcases List.mem_cons.mp hr with rfl | hr
  ·simp
  ·obtain ⟨d,hd,rfl⟩:=List.mem_map.mp hr;simp [Cl]
 omega
theorem nN {d:WD} {i:Nat} (h:W14 i d):(((((((Pd d.k ++ Str.ofString " ") ++ d.name) ++ Str.ofString " 0 ") ++ num ((i:Int) + 1)) ++ Str.ofString " ") ++ num d.off) ++ Str.ofString " 0 ") ++ num d.least=Str.join bk (Cl d):=by
 apply Km;have e5:(Str.ofString " ").cps.toList=[32]:=by decide +kernel
 have e6:(Str.ofString " 0 ").cps.toList=[32,48,32]:=by decide +kernel
 have e7:(Str.ofString (toString (0:Int))).cps.toList=[48]:=by decide +kernel
 rw [Ww,Nh];unfold Cl;rw [h.st,h.fi,h.nr];simp only [Str.cps_append,Array.toList_append,List.map_cons,List.map_nil,jl,e5,e6,e7,List.append_assoc,List.cons_append,List.nil_append]
theorem GM:Str.ofString "ring 9"=Str.join bk [Str.ofString "ring",num 9]:=by
 apply Km;have e7:(Str.ofString (toString (9:Int))).cps.toList=[57]:=by decide +kernel
 have e1:(Str.ofString "ring 9").cps.toList=[114,105,110,103,32,57]:=by decide +kernel
 have e2:(Str.ofString "ring").cps.toList=[114,105,110,103]:=by decide +kernel
 rw [Ww,Nh];simp only [List.map_cons,List.map_nil,jl,e7,e1,e2,List.cons_append,List.nil_append]
theorem eK {z:Nat} {ds:List WD} {sp:List SD} (D:D14 ds):ym 9 z sp ds=none:=by
 unfold ym;rw [List.findSome?_eq_none_iff];intro d1 h1;unfold wu;rw [List.findSome?_eq_none_iff];intro d2 h2;obtain ⟨i,hi⟩:=List.getElem?_of_mem h1;obtain ⟨j,hj⟩:=List.getElem?_of_mem h2;have w1:=D i d1 hi;have w2:=D j d2 hj;unfold Rr;rw [if_neg]
 ·rfl
 rintro ⟨hne,hm⟩;unfold mt SK at hm;rw [w1.st,w2.st,w1.fi,w2.fi,if_pos (.inl (.inl rfl)),Bool.or_false,decide_eq_true_eq] at hm;exact hne (by rw [w1.nm,w2.nm,show i=j by omega])
theorem dM {z:Int} {ds:List WD} {sp:List SD} (h:S14 z ds sp):bH z ds sp:=fun i d hd=>by
 have a:=h.al d (List.mem_of_getElem? hd);refine ⟨?_,a.2⟩;unfold Zi;refine List.mem_filter.mpr ⟨a.1,decide_eq_true ?_⟩;have hi:=(List.getElem?_eq_some_iff.mp hd).1;have e:sp=sp.take (i + 1) ++ sp.drop (i + 1):=(List.take_append_drop _ _).symm;have m:=h.m3 d.name;rw [e,gy,Pe hd,OA,if_pos rfl,List.length_append,List.length_append,List.length_singleton] at m;omega
theorem iN {z:Nat} {ds:List WD} {sp:List SD} (D:D14 ds) (hdl:ds.length ≤ 4) (hz:12 ≤ z∧z ≤ 240) (h:S14 z ds sp):HE z ds sp:=by
 have hw:=D.wok hdl;have hnm:∀ x ∈ ds.map (·.name),made x si 8=true:=fun x hx=>by
  obtain ⟨d,hd,rfl⟩:=List.mem_map.mp hx;exact (hw d hd).nm
 refine ⟨fun d hd=>⟨(UK (hw d hd).nm).1,(hw d hd).of.1,by have:=(hw d hd).of;omega⟩,fun d hd=>(UK (hw d hd).nm).2,by omega,⟨by have:=h.ln;omega,fun s hs=>by have:=h.al s hs;omega⟩,fun s hs=>?_,dM h,eK D,h.ln,fun s hs=>Vo (hnm _ (h.al s hs).1)⟩;obtain ⟨d,hd,e⟩:=List.mem_map.mp (h.al s hs).1;unfold wOf;cases hf:ds.find? fun d=>decide (d.name=s.name) with
 | some d=>exact ⟨d,rfl⟩
 | none=>
  have:=List.find?_eq_none.mp hf d hd;simp [e] at this
theorem YG {ds:List WD} {z:Int} {sp:List SD} {g:Str} (h:(Sg ds z sp g).1=S "good") (g':Str):Sg ds z sp g'=(S "good",g',-1):=by
 unfold Sg at h ⊢;cases hN:Of ds sp with
 | some x=>rw [hN] at h;exact absurd (show S "never"=S "good" from h) (by decide +kernel)
 | none=>
  rw [hN] at h;dsimp only at h ⊢;cases hS:Ih ds z sp with
  | some e=>rw [hS] at h;exact absurd (show S "short"=S "good" from h) (by decide +kernel)
  | none=>rfl
theorem cK {ds:List WD} {z:Int} {sp:List SD} {g:Str} (h:(Sg ds z sp g).1 ≠ S "good") (g':Str):Sg ds z sp g'=Sg ds z sp g:=by
 unfold Sg at h ⊢;cases hN:Of ds sp with
 | some x=>rfl
 | none=>
  rw [hN] at h;dsimp only at h ⊢;cases hS:Ih ds z sp with
  | some e=>rfl
  | none=>rw [hS] at h;exact absurd rfl h
end My
namespace My
open PySem L2
section
variable {P:Program} {w:World} {K:PySem.W.Frag} {mg:Str→Option Value} {base:Heap} {t:Adr}
theorem IK (T:Txt w K mg t):Kb P w K mg base CX0 10 t.RD t.oC q19 (FM K):=by
 refine T.pN.ok Ph (fun vs H Q E h=>?_) (fun _ _ _ s H vs Q E hr h=>?_)
 ·obtain ⟨a,ns,rfl,_⟩:=h;rfl
 obtain ⟨a,ns,rfl,S0,h63,q⟩:=h;have hU:=hr.units;have g0:Kb P w K mg base CX0 9 t.qf t.kg q18 (pf K a ns):=(ky T a ns h63).mono (by decide);have g67:Kb P w K mg base CX0 9 t.bh t.Ji q19 (rL K a ns):=(GN T a ns h63).mono (by decide);have g68:Kb P w K mg base CX0 9 t.De t.Df ["text"] (jL t):=(BN T).mono (by decide);have g69:Kb P w K mg base CX0 9 t.ah t.Fi q42 (fA K a ns):=(VG T a ns h63).mono (by decide);have g70:Kb P w K mg base CX0 9 t.bi t.Vj q43 (FD K):=(NJ T).mono (by decide);have g71:Kb P w K mg base CX0 9 t.ng t.Ah q44 (Oz t K):=pH T;refine ⟨_,(db (Bb (i:=1) Ph.nd (Db g67 hr T.By T.Bm.kp T.Qy (bb (pv 0) fb)))
   (db (Bb (i:=2) Ph.nd (Hg (bb qc fb)))
   (db (se PassesOwn.never rfl (Re rfl T.Ng (bb (fc Lc rfl T.Zm Zc (bb (pv 1) fb)) fb)) (Ab (i:=3) Ph.nd) (db (Bb (i:=4) Ph.nd (xc ae (pv 1) (pv 3)))
   (db (Bb (i:=5) Ph.nd (Vb Tc (Vb Tc (Vb Tc (Vb Tc (xc Ge (pv 4) ub) qc) (xc Ge (pv 4) ub)) qc) (Uf tf rfl T.Iy Yg (bb (Vb ke (pv 3) ub) fb))))
   (gb (Ic (Mo PySem.F.plainAttrs_list PySem.F.slot_list_append PySem.F.type_list_append Dh (pv 2) (bb (Vb Tc (Vb Tc (Vb Tc (Vb Tc (pv 5) qc) (Uf tf rfl T.Iy Yg (bb (xc Ge (pv 4) ub) fb))) qc) (Uf tf rfl T.Iy Yg (bb (xc Ge (pv 4) ub) fb))) fb)))))))
   (db (Bb (i:=6) Ph.nd (Db g68 hr T.mr T.ki.kp T.js (bb (Mo PySem.F.plainAttrs_str PySem.F.slot_str_join PySem.F.type_str_join CF qc (bb (pv 2) fb)) fb)))
   (db (Bb (i:=7) Ph.nd (Vb ke ub (Db g0 hr T.Dc T.gc.kp T.Ec (bb (pv 0) (bb ub (bb ub fb))))))
   (db (Kf (zc Mi (Db g0 hr T.Dc T.gc.kp T.Ec (bb (pv 0) (bb ub (bb ub fb)))) ub (Hc _)) (gb (Bb (i:=7) Ph.nd (Vb gk ub (Db g0 hr T.Dc T.gc.kp T.Ec (bb (pv 0) (bb ub (bb ub fb))))))) Kc)
   (db (Bb (i:=8) Ph.nd (Db g69 hr T.vy T.Rm.kp T.uy (bb (pv 0) (bb (pv 1) (bb (pv 7) fb)))))
   (db (Bb (i:=9) Ph.nd (Vb Tc qc (Uf tf rfl T.Iy Yg (bb (pv 7) fb))))
   (db (se PassesOwn.never rfl (Wd (pv 8)) (Ab (i:=10) Ph.nd) (gb (Bb (i:=9) Ph.nd (Vb Tc (Vb Tc (Vb Tc (Vb Tc (Vb Tc (Vb Tc (pv 9) qc) (xc Ge (pv 10) ub)) qc) (Uf tf rfl T.Iy Yg (bb (xc Ge (pv 10) ub) fb))) qc) (Uf tf rfl T.Iy Yg (bb (xc Ge (pv 10) ub) fb))))))
   (db (Bb (i:=11) Ph.nd (Db g70 hr T.bC T.gp.kp T.PB (bb (pv 1) (bb (pv 7) (bb (pv 8) fb)))))
   (db (Kf (zc Mi (xc Ge (pv 11) ub) qc (Hc _)) (gb (Bb (i:=11) Ph.nd (mj (bb qc (bb (pv 9) (bb (Nv Bn ub) fb)))))) Kc)
   (db (se PassesOwn.never rfl (Wd (Hg (bb (Pf Mi (Db g0 hr T.Dc T.gc.kp T.Ec (bb (pv 0) (bb ub (bb ub fb)))) ub (Hc _)) (bb (Pf Mi (Db g0 hr T.Dc T.gc.kp T.Ec (bb (pv 0) (bb ub (bb ub fb)))) ub (Hc _)) fb)))) (Ab (i:=12) Ph.nd) (gb (Kf (zc (YK hU) (Db g71 hr T.Mw T.il.kp T.cx (bb (pv 6) (bb (pv 7) (bb (pv 8) (bb (pv 9) (bb (pv 12) fb)))))) (pv 11) (Hc _)) (gb (Ob wy)) Kc)))
   (gb (Ob wy)))))))))))))),?_⟩
 have Vn:∀ k:Nat,k ≤ 10000→k ≤ sizeLine:=fun k h=>Nat.le_trans h (by decide)
 refine zS (fun σ' H'=>Sc K a ns H'∧∃ wl ds,LO H' wl (ds.map t14)∧D14 ds∧(1 ≤ ds.length∧ds.length ≤ 4)∧σ'=[some (.ref a),some (.ref wl),none,none,none,none,none,none,none,none,none,none,none]) (fun D' hD=>?_) fun zzM zzh=>?_
 ·walk_at "RD";exact ⟨rfl,S0,fun wl ds H' s1 S1 L1 D1 hl=>hD _ _ ⟨S1,wl,ds,L1,D1,hl,rfl⟩⟩
 rintro σ1 H1 ⟨S1,wl,ds,L1,D1,hl,rfl⟩;have hC:=D1.cok hl;subst zzh;refine zS (fun σ' H'=>dc H1 H'∧Sc K a ns H'∧∃ rl,H1 rl=none∧H' rl=some (.lst (Pb ((qj 9 []).map (Str.join bk))))∧σ'=[some (.ref a),some (.ref wl),some (.ref rl),none,none,none,none,none,none,none,none,none,none]) (fun D' hD=>?_) fun zzM zzh=>?_
 ·walk_at "RD";exact ⟨by decide,fun rl hrl=>hD _ _ ⟨jb hrl,S1.new hrl,rl,hrl,by rw [cb,GM];rfl,rfl⟩⟩
 rintro σ2 H2 ⟨s2,S2,rl,hrl,e2,rfl⟩;obtain ⟨qs,l1,lq⟩:=id L1;have hql:qs.length=ds.length:=by rw [lq.1,List.length_map]
 subst zzh;refine zS (fun σ' H'=>dc H1 H'∧Sc K a ns H'∧H' rl=some (.lst (Pb ((qj 9 ds).map (Str.join bk))))∧∃ x3 x4 x5,σ'=[some (.ref a),some (.ref wl),some (.ref rl),x3,x4,x5,none,none,none,none,none,none,none]) (fun D' hD=>?_) fun zzM zzh=>?_
 ·walk_at "RD";refine ⟨_,.inl (SqL.of (s2 _ _ l1)),?_⟩;rw [List.length_map,hql];refine ⟨by omega,by omega,?_⟩;rw [Int.toNat_natCast];refine uj.range (fun i σ H'=>dc H1 H'∧Sc K a ns H'∧H' rl=some (.lst (Pb ((qj 9 (ds.take i)).map (Str.join bk))))∧∃ x3 x4 x5,σ=[some (.ref a),some (.ref wl),some (.ref rl),x3,x4,x5,none,none,none,none,none,none,none]) ?_ ?_ ?_
  ·exact ⟨s2,S2,e2,_,_,_,rfl⟩
  ·rintro i σ H' hi zzq;refine zP fun zzM zzh=>?_
   obtain ⟨sm,Sm,er,x3,x4,x5,rfl⟩:=zzq;have hdi:ds[i]? = some ds[i]:=List.getElem?_eq_getElem hi;have hqi:qs[i]? = some qs[i]:=List.getElem?_eq_getElem (by omega);have W:=D1 i _ hdi;have hw:=D1.wok hl.2 _ (List.mem_of_getElem? hdi);have e0:H' qs[i]=some (t14 ds[i]):=sm _ _ (lq.2 i _ _ hqi (by rw [List.getElem?_map,hdi];rfl));have at1:atI (qs.map V.ref) (i:Int)=some (.ref qs[i]):=Cc (by rw [List.getElem?_map,hqi];rfl);have hT:SqT K H' qs[i] [V.str (Pd ds[i].k),.str ds[i].name,.int ds[i].off,.int ds[i].least]:=SqT.of e0;have b0:atI [V.str (Pd ds[i].k),.str ds[i].name,.int ds[i].off,.int ds[i].least] 0=some (.str (Pd ds[i].k)):=Cc (j:=0) rfl;have b2:atI [V.str (Pd ds[i].k),.str ds[i].name,.int ds[i].off,.int ds[i].least] 2=some (.int ds[i].off):=Cc (j:=2) rfl;have b3:atI [V.str (Pd ds[i].k),.str ds[i].name,.int ds[i].off,.int ds[i].least] 3=some (.int ds[i].least):=Cc (j:=3) rfl;have c1:=W.of;have c2:=W.le;have z1:=(Gu ds[i].k).1;have z2:=(Vo hw.nm).1;have z3:(Str.ofString (toString ((i:Int) + 1))).length ≤ 8:=(Xc (v:=(i:Int) + 1) (by omega) (by omega)).1;have z4:(Str.ofString (toString ds[i].off)).length ≤ 8:=(Xc (v:=ds[i].off) (by omega) (by omega)).1;have z5:(Str.ofString (toString ds[i].least)).length ≤ 8:=(Xc (v:=ds[i].least) (by omega) (by omega)).1;have hb1:(Str.ofString " ").length=1:=by decide +kernel
   have hb3:(Str.ofString " 0 ").length=3:=by decide +kernel
   have hrow:=nN W;subst zzh;simp only [Ig,uc,List.set_cons_succ,List.set_cons_zero,Int.zero_add];refine zzC (fun σ' H4=>H4=H'∧σ'=[some (.ref a),some (.ref wl),some (.ref rl),some (.int (i:Nat)),some (.ref qs[i]),x5,none,none,none,none,none,none,none]) (fun D hD=>?_) fun zzM zzh=>?_
   ·walk_at "RD";exact ⟨_,SqL.of (sm _ _ l1),_,at1,hD _ _ ⟨rfl,rfl⟩⟩
   rintro σ4 H4 ⟨rfl,rfl⟩;subst zzh;simp only [uc];refine zzC (fun σ' H5=>H5=H4∧σ'=[some (.ref a),some (.ref wl),some (.ref rl),some (.int (i:Nat)),some (.ref qs[i]),some (.str ((((Pd ds[i].k ++ Str.ofString " ") ++ ds[i].name) ++ Str.ofString " 0 ") ++ num ((i:Int) + 1))),none,none,none,none,none,none,none]) (fun D hD=>?_) fun zzM zzh=>?_
   ·walk_at "RD";refine ⟨_,hT,_,b0,_,rfl,Vn _ (by omega),_,hT,_,YB _,_,rfl,Vn _ (by rw [vd];omega),Vn _ (by simp only [vd];omega),dh (by omega),Vn _ (by simp only [vd];omega),hD _ _ ⟨rfl,rfl⟩⟩
   rintro σ5 H5 ⟨rfl,rfl⟩;subst zzh;walk_at "RD";have z3':(num ((i:Int) + 1)).length ≤ 8:=z3;have hs:(Pd ds[i].k ++ Str.ofString " " ++ ds[i].name ++ Str.ofString " 0 " ++ num ((i:Int) + 1)).length ≤ 40:=by simp only [vd];omega
   refine ⟨.inl ⟨_,SqL.of er⟩,Vn _ (by omega),_,hT,_,b2,_,rfl,dh (by omega),Vn _ (by rw [vd];omega),Vn _ (by rw [vd,vd];omega),_,hT,_,b3,_,rfl,dh (by omega),Vn _ (by rw [vd,vd,vd];omega),_,er,?_,?_,?_,?_,_,rfl⟩
   ·rw [Nn,List.length_map];exact Nat.lt_of_le_of_lt (show (qj 9 (ds.take i)).length ≤ 13 by unfold qj;rw [List.length_cons,List.length_map,List.length_take];omega) (by decide)
   ·exact sm.updN hrl
   ·exact Sm.set er (fun ob z e=>by cases e)
   ·rw [cb,hrow];congr 2;unfold qj Pb;simp;rw [List.take_add_one,List.getElem?_map,hdi];rfl
  ·rintro σ H' zzq;refine zP fun zzM zzh=>?_
   obtain ⟨sm,Sm,er,x3,x4,x5,rfl⟩:=zzq;subst zzh;rw [List.take_length] at er;exact hD _ _ ⟨sm,Sm,er,_,_,_,rfl⟩
 rintro σ3 H3 ⟨s3,S3,e3,x3,x4,x5,rfl⟩;have L3:=L1.same s3;subst zzh;refine zS (fun σ' H'=>dc H3 H'∧Sc K a ns H'∧∃ c,ad t H' c 9 ds∧σ'=[some (.ref a),some (.ref wl),some (.ref rl),x3,x4,x5,some (.ref c),none,none,none,none,none,none]) (fun D' hD=>?_) fun zzM zzh=>?_
 ·walk_at "RD";refine ⟨_,SqL.of e3,?_,?_⟩
  ·have h63':∀ y ∈ (qj 9 ds).map (Str.join bk),y.length ≤ 63:=zK hC;have h13:((qj 9 ds).map (Str.join bk)).length ≤ 13:=by
    unfold qj;rw [List.length_map,List.length_cons,List.length_map];omega
   have:=dD h63';rw [show (Str.ofString "\n").length=1 by decide +kernel];omega
  ·rw [show Txt.join (Str.ofString "\n") ((qj 9 ds).map (Str.join bk))=Ry 9 ds from StrLaws.glued_eq_join _ _];exact ⟨9,ds,rfl,hC,S3.nt,fun c H' s4 n4 C=>hD _ _ ⟨s4,S3.same s4 n4,c,C,rfl⟩⟩
 rintro σ4 H4 ⟨s4,S4,c,C4,rfl⟩;have L4:=L3.same s4;have d1:=Dj ns 5 (m:=49) (by decide);have d2:=Hk ns 5 (m:=49) (by decide);have d3:=Dj ns 7 (m:=40) (by decide);have d4:=Hk ns 7 (m:=40) (by decide);subst zzh;refine zS (fun σ' H'=>H'=H4∧σ'=[some (.ref a),some (.ref wl),some (.ref rl),x3,x4,x5,some (.ref c),some (.int (12 + Ki ns 5 49)),none,none,none,none,none]) (fun D' hD=>?_) fun zzM zzh=>?_
 ·(walk_at "RD"; repeat (dsimp only [pf];walk_at "RD"));exact ⟨S4,by omega,by omega,by decide,hD _ _ ⟨rfl,rfl⟩⟩
 rintro σ5 H5 ⟨rfl,rfl⟩;subst zzh;refine zS (fun σ' H'=>H'=H5∧∃ z:Nat,(12 ≤ z∧z ≤ 240)∧σ'=[some (.ref a),some (.ref wl),some (.ref rl),x3,x4,x5,some (.ref c),some (.int (z:Nat)),none,none,none,none,none]) (fun D' hD=>?_) fun zzM zzh=>?_
 ·refine Nc (decide (Ki ns 6 8=1)) (fun Q hQ=>?_) (fun hc=>?_) (fun hc=>?_)
  ·(walk_at "RD"; repeat (dsimp only [pf];walk_at "RD"));exact ⟨S4,by omega,by omega,by decide,hQ⟩
  ·(walk_at "RD"; repeat (dsimp only [pf];walk_at "RD"));refine ⟨S4,by omega,by omega,by decide,hD _ _ ⟨rfl,(240 - Ki ns 7 40).toNat,by omega,?_⟩⟩;rw [Int.toNat_of_nonneg (by omega)]
  ·walk_at "RD";refine hD _ _ ⟨rfl,(12 + Ki ns 5 49).toNat,by omega,?_⟩;rw [Int.toNat_of_nonneg (by omega)]
 rintro σ6 H6 ⟨rfl,z,hz,rfl⟩;subst zzh;refine zS (fun σ' H'=>dc H6 H'∧Sc K a ns H'∧∃ sl sp,LO H' sl (List.map sdO sp)∧S14 z ds sp∧σ'=[some (.ref a),some (.ref wl),some (.ref rl),x3,x4,x5,some (.ref c),some (.int (z:Nat)),some (.ref sl),none,none,none,none]) (fun D' hD=>?_) fun zzM zzh=>?_
 ·walk_at "RD";exact ⟨wl,ds,z,rfl,S4,L4,D1,hl.2,by omega,fun sl sp H' s5 S5 L5 SP=>hD _ _ ⟨s5,S5,sl,sp,L5,SP,rfl⟩⟩
 rintro σ7 H7 ⟨s7,S7,sl,sp,R7,SP,rfl⟩;have C7:=C4.same s7;have L7:=L4.same s7;have A7:=iN D1 hl.2 hz SP;have hspl:∀ s ∈ sp,Do s.name∧(0 ≤ s.b∧s.b < 1000)∧0 ≤ s.n∧s.n < 1000:=fun s hs=>by
  have:=SP.al s hs;exact ⟨A7.nl8 s hs,by omega,by omega,by omega⟩
 have htl:∀ i,(Jf z (sp.take i)).length ≤ 5000:=fun i=>AC (by omega) (fun s hs=>hspl s (List.mem_of_mem_take hs)) (by rw [List.length_take];have:=SP.ln;omega)
 subst zzh;refine zS (fun σ' H'=>H'=H7∧σ'=[some (.ref a),some (.ref wl),some (.ref rl),x3,x4,x5,some (.ref c),some (.int (z:Nat)),some (.ref sl),some (.str (Jf z [])),none,none,none]) (fun D' hD=>?_) fun zzM zzh=>?_
 ·walk_at "RD";have h8:(Str.ofString (toString (z:Int))).length ≤ 8:=(Xc (v:=(z:Int)) (by omega) (by omega)).1;refine ⟨dh (by omega),Vn _ (by rw [show (Str.ofString "round ").length=6 by decide +kernel];omega),?_⟩;rw [show Str.ofString "round " ++ Str.ofString (toString (z:Int))=Jf z [] from (vD z).symm];exact hD _ _ ⟨rfl,rfl⟩
 rintro σ8 H8 ⟨rfl,rfl⟩;obtain ⟨qr,r1,r2⟩:=id R7;subst zzh;refine zS (fun σ' H'=>H'=H8∧∃ x10,σ'=[some (.ref a),some (.ref wl),some (.ref rl),x3,x4,x5,some (.ref c),some (.int (z:Nat)),some (.ref sl),some (.str (Jf z sp)),x10,none,none]) (fun D' hD=>?_) fun zzM zzh=>?_
 ·walk_at "RD";refine ⟨⟨_,SqL.of r1⟩,?_⟩;refine uj.list (xs:=qr.map V.ref) (fun i σ H'=>H'=H8∧∃ x10,σ=[some (.ref a),some (.ref wl),some (.ref rl),x3,x4,x5,some (.ref c),some (.int (z:Nat)),some (.ref sl),some (.str (Jf z (sp.take i))),x10,none,none]) ?_ ?_ ?_ ?_
  ·exact ⟨rfl,_,rfl⟩
  ·rintro i σ H' hi ⟨rfl,_⟩;exact SqL.of r1
  ·rintro i v σ H' hv ⟨rfl,x,rfl⟩;obtain ⟨qi,hqi,rfl⟩:=lc hv;obtain ⟨o,ho,e⟩:=r2.at hqi;obtain ⟨sd,hsd,rfl⟩:=lc ho;have hT:SqT K H' qi [.str sd.name,.int sd.b,.int sd.n]:=SqT.of e;have g:=hspl sd (List.mem_of_getElem? hsd);have t1:=htl i;have n1:=g.1.1;have n2:(Str.ofString (toString sd.b)).length ≤ 8:=(Xc (v:=sd.b) (by omega) (by omega)).1;have n3:(Str.ofString (toString sd.n)).length ≤ 8:=(Xc (v:=sd.n) (by omega) (by omega)).1;have hf:(Str.ofString "\nfree ").length=6:=by decide +kernel
   have hb1:(Str.ofString " ").length=1:=by decide +kernel
   walk_at "RD";refine ⟨Vn _ (by omega),_,hT,_,yM sd,_,rfl,Vn _ (by rw [vd];omega),Vn _ (by simp only [vd];omega),_,hT,_,ZM sd,_,rfl,dh (by omega),Vn _ (by simp only [vd];omega),Vn _ (by simp only [vd];omega),_,hT,_,PN sd,_,rfl,dh (by omega),Vn _ (by simp only [vd];omega),?_,_,rfl⟩;rw [Pe hsd,vC]
  ·rintro σ H' ⟨rfl,x,rfl⟩;rw [List.take_of_length_le (by rw [List.length_map,r2.1,List.length_map];exact Nat.le_refl _)];exact hD _ _ ⟨rfl,_,rfl⟩
 rintro σ9 H9 ⟨rfl,x10,rfl⟩;subst zzh;refine zS (fun σ' H'=>dc H9 H'∧NoT H'∧∃ tp,H' tp=some (tO (Sg ds z sp (S "")))∧σ'=[some (.ref a),some (.ref wl),some (.ref rl),x3,x4,x5,some (.ref c),some (.int (z:Nat)),some (.ref sl),some (.str (Jf z sp)),x10,some (.ref tp),none]) (fun D' hD=>?_) fun zzM zzh=>?_
 ·walk_at "RD";exact ⟨wl,ds,z,sl,sp,rfl,L7,R7,D1,hl.2,SP,by omega,S7.nt,fun tp H' s10 n10 e=>hD _ _ ⟨s10,n10,tp,e,rfl⟩⟩
 rintro σ10 H10 ⟨s10,n10,tp0,e10,rfl⟩;have S10:=S7.same s10 n10;subst zzh;refine zS (fun σ' H'=>dc H10 H'∧NoT H'∧∃ tp,H' tp=some (tO (Sg ds z sp (Jf z sp)))∧σ'=[some (.ref a),some (.ref wl),some (.ref rl),x3,x4,x5,some (.ref c),some (.int (z:Nat)),some (.ref sl),some (.str (Jf z sp)),x10,some (.ref tp),none]) (fun D' hD=>?_) fun zzM zzh=>?_
 ·refine Nc (decide ((Sg ds z sp (S "")).1=S "good")) (fun Q hQ=>?_) (fun hc=>?_) (fun hc=>?_)
  ·walk_at "RD";refine ⟨_,SqT.of e10,_,Cc (j:=0) rfl,rfl,?_⟩;rw [show decide (V.str (Sg ds z sp (S "")).1=V.str (Str.ofString "good"))=decide ((Sg ds z sp (S "")).1=S "good") from decide_eq_decide.mpr ⟨fun e=>V.str.inj e,fun e=>by rw [e]⟩];exact hQ
  ·have hc:=of_decide_eq_true hc;walk_at "RD";refine ⟨by decide,fun p hp=>hD _ _ ⟨jb hp,n10.upd,p,?_,rfl⟩⟩;rw [cb,YG hc];rfl
  ·have hc:=of_decide_eq_false hc;walk_at "RD";exact hD _ _ ⟨dc.refl _,n10,tp0,by rw [cK hc];exact e10,rfl⟩
 rintro σ11 H11 ⟨s11,n11,tp,e11,rfl⟩;have S11:=S10.same s11 n11;have s711:=s10.trans s11;subst zzh;(walk_at "RD"; repeat (dsimp only [pf];walk_at "RD"));refine ⟨S11,by omega,by omega,by decide,S11,by omega,by omega,by decide,by decide,fun pb hpb=>⟨⟨_,SqL.of cb⟩,?_⟩⟩;have sb:dc H11 (upd H11 pb (.lst [V.bl (decide (Ki ns 8 2=1)),V.bl (decide (Ki ns 8 2=0))])):=jb hpb;have nb:NoT (upd H11 pb (.lst [V.bl (decide (Ki ns 8 2=1)),V.bl (decide (Ki ns 8 2=0))])):=n11.upd;have eb:(upd H11 pb (.lst [V.bl (decide (Ki ns 8 2=1)),V.bl (decide (Ki ns 8 2=0))])) pb=some (.lst [V.bl (decide (Ki ns 8 2=1)),V.bl (decide (Ki ns 8 2=0))]):=cb;generalize upd H11 pb (.lst [V.bl (decide (Ki ns 8 2=1)),V.bl (decide (Ki ns 8 2=0))])=Hb at sb nb eb ⊢;generalize decide (Ki ns 8 2=1)=b1 at eb ⊢;generalize decide (Ki ns 8 2=0)=b2 at eb ⊢;refine uj.list (xs:=[V.bl b1,V.bl b2]) (fun i σ H'=>dc Hb H'∧NoT H'∧∃ x12,σ=[some (.ref a),some (.ref wl),some (.ref rl),x3,x4,x5,some (.ref c),some (.int (z:Nat)),some (.ref sl),some (.str (Jf z sp)),x10,some (.ref tp),x12]) ?_ ?_ ?_ ?_
 ·exact ⟨dc.refl _,nb,_,rfl⟩
 ·rintro i σ H' hi ⟨sm,_⟩;exact SqL.of (sm _ _ eb)
 ·rintro i v σ H' hv zzq;refine zP fun zzM zzh=>?_
  obtain ⟨sm,nt,x12,rfl⟩:=zzq;have hvb:∃ b,v=.bl b:=by
   match i,hv with
   | 0,hv=>cases hv;exact ⟨_,rfl⟩
   | 1,hv=>cases hv;exact ⟨_,rfl⟩
   | i + 2,hv=>simp at hv
  obtain ⟨by_,rfl⟩:=hvb;have s9:=(s711.trans sb).trans sm;subst zzh;simp only [Ig,uc,List.set_cons_succ,List.set_cons_zero];refine qk (fun b H''=>b=false∧dc H' H''∧NoT H'') (fun Q hQ=>?_) (fun H'' r=>?_) (fun H12 r=>?_)
  ·walk_at "RD";refine ⟨c,ds,z,sl,sp,by_,rfl,C7.same s9,A7,R7.same s9,nt,fun tq H'' s10 n10 e=>⟨tq,rfl,_,oN (a:=Sg ds z sp (Jf z sp)) (b:=Sg ds z sp (Jf z sp)) (SqT.of e) (SqT.of (s10 _ _ (sm _ _ (sb _ _ e11)))),?_⟩⟩;exact hQ _ _ ⟨by simp,s10,n10⟩
  ·cases r.1
  ·obtain ⟨_,s12,n12⟩:=r;walk_at "RD";exact ⟨sm.trans s12,n12,_,rfl⟩
 ·rintro σ H' zzq;refine zP fun zzM zzh=>?_
  obtain ⟨sm,nt,x12,rfl⟩:=zzq;subst zzh;walk_at "RD";exact q _
end
end My
structure PySem.W.Fast:Prop where(tw7154317768951190509 tw4509488227116765975 tw1326431191596191684 tw6261534687590437545 tw5641317662028586555 tw10441736642979450404 tw6438977660424392935 tw9135583353203611613 tw14758682067563742968 tw14123311419857804093 tw17687927264344608057 tw9225216692635067902 tw1054107937748007493 tw17827883319230099169 tw4149685158207294494 tw2996851539932702437 tw6333372793747148764 tw14853959359786628701 tw2002655140472986843 tw11288571645574882285 tw1008721585506920664 tw5998193581294040587 tw14984045123044654436 tw1675683138724663525 tw11557054262609000670 tw11581736579433600647 tw16968097474235271714 tw4960396228515781014 tw17430130782122050978 tw8769477606400722603 tw13252229426498776746 tw12597018155765597061 tw5941769804739966706 tw5689768891747720629 tw3281304375849751200 tw14819930745187419301 tw12585780565444886131 tw138520919106842587 tw6792372216713332032 tw8364322102446988566 tw2355895416323101568 tw17984369478710389604 tw1600589225512662125 tw15970950923155784039 tw13038942383106096496 tw114281941850391951 tw10440220282722156684 tw15328016591322180934 tw15156576132149687330 tw1812936257056930889 tw13731143397809282201 tw18171206632404591511 tw2638078721048010299 tw14815101563032546022 tw9450624036324756814 tw15348682565702386794 tw2584204229947886255 tw12086242596761083231 tw15880762760066957744 tw7065384781064395702 tw14762437921260615859 tw14789379503204123008 tw12154536882696259243 tw17386624592446742115 tw713706426325123267 tw13151180604129088977 tw6216411938913355405 tw1262537319998562527 tw6676512944707169013 tw12667202338864995080 tw17135976223366992716 tw15112453461172818777 tw8827040398900136982 tw17505891001050231575 tw1582533708201389951 tw2602020677588694992 tw1526604817901990547 tw5407198346543228570 tw13903646691364902735 tw11897373059954558002 tw3140139930564966331 tw8185418649526567518 tw15727249536502839867 tw9147701386770403970 tw7780458253144784734 tw9495355323241998022 tw12735138994516196423 tw12503416523915442227 tw5020464826071916344 tw6121002438932686714 tw2283590759974191111 tw2531201485705667116 tw14853813683660279656 tw14728256254761761859 tw11080840159816169569 tw957969274321608766 tw16061192295886341478 tw17579068073939342290 tw12032088164661320154 tw10041942595451016476 tw7162381158754065416 tw9141884999953980986 tw514600374420988608 tw108721170427918851 tw108621112740871266 tw5679423655750661650 tw10058929220126355543 tw2865488264585236774 tw4989369774647836205 tw7026060502431683243 tw10902232359302105249 tw9759834182269231018 tw18101781895583120990 tw13874930819706952682 tw5076484969782726796 tw5380020030382335140 tw15198705651487439027 tw27365770650375268 tw11287154656951709537 tw2416184135890022265 tw5488655830863961828 tw4145603660213370369 tw9293378544803944654 tw7395356406735188046 tw5451438715319678771 tw6038702407641780853 tw2435467990400181451 tw505749832044413369 tw13090359798453801140 tw3255423356889148930 tw9428919415168219850 tw5902276994198111286 tw4908479054175984342 tw17174927592903557427 tw16444662855824382610 tw4957210174832969098 tw10523999145427691212 tw12867055646216591157 tw6517342965086876488 tw1517367990898546608 tw2234473156334846810 tw7014845951143211231 tw9436746055815317917 tw17694883605416391727 tw6221020219515706855 tw5201970822794190668 tw12573168101640630579 tw2316491604781242736 tw11910308412248419055 tw2996661699895624696 tw12812032100862789721 tw6105932983064737398 tw5418834321140046638 tw4921828836828797350 tw10700792230715588829 tw12181824696210826412 tw823748332680967000 tw15279420476501691512 tw10081815379325880324 tw17887561441858231719 tw17800426130697144192 tw7070442079295020758 tw14675403080831743913 tw11228542909582398002 tw5029849687244665302 tw9257093055540298698 tw16103301294318865307 tw14344721822713210105 tw4201017273400576274 tw898321881186886360 tw12343789154695014469 tw15815692173601275814 tw10447027087848336607 tw893012442558318596 tw457527480753547723 tw16744928339602430277 tw17723715260207285935 tw6800211868013852182 tw13334360617901092747 tw3518486789481356771 tw4312464156081488172 tw6989244549552207100 tw13258197892453491300 tw4743908870270688937 tw1616966294795813705 tw11037164644167688066 tw4535713696506900574 tw16364359316102269700 tw15958068161927544401 tw8417745674712532150 tw7790429237280418520 tw12663129346690180651 tw11472482983095825172 tw16775888210183189500 tw920408329939019142 tw16554510156843342570 tw6868224631390507116 tw13085582490490937210 tw7701683870909273419 tw15641363497123491580 tw4682942184476115666 tw12336729826008135235 tw14058754686486305385 tw13250698301073722470 tw16736765909433072353 tw17290230159897434821 tw7717107045213169811 tw4872391126958651805 tw17554387792494154082 tw1306998634799452 tw11679984449448501039 tw4887875259268067124 tw14805724488958015577 tw6445904396814355208 tw13812160184719784877 tw11497338891900690595 tw1231870300990081352 tw5721101459571557520 tw14909045514908302358 tw11113233390877646221 tw14089834327559656537 tw2510555583440323583 tw16801933664097545095 tw14821474828859128884 tw7342629031578596394 tw4452908169641349493 tw5874067614990404524 tw15290162634360999945 tw7852617096193407787 tw13197817252912837131 tw9359743729301395099 tw7565293102340544634 tw14907504224311977621 tw5281837587182217156 tw15645423991296552342 tw17406661415922754498 tw9232148196310455269 tw5650619971206398519 tw530443476954939135 tw11081935340606999158 tw3612618620368276409 tw15584144770311548161 tw18095979542808068786 tw12456746530489345464 tw480679085460428669 tw17673727477746483544 tw2404956173179042330 tw3967248335003745196 tw13501531792531294357 tw8023342522971382689 tw8347398913244653050 tw5894740855745533104 tw5249470707681050383 tw5722509136322483494 tw13886050801174491481 tw8643198864424487140 tw6157254781239011170 tw8813557903256384538 tw14686953719737657101 tw14252326981405142130 tw4092792029219540192 tw6594040117183762718 tw5720458783534368785 tw13291943404446032557 tw518892441651883632 tw6255363352095376124 tw18325456365695640455 tw2294924424667098391 tw6224379173332199287 tw1244586783688414965 tw14746049461126842400 tw16370197043695948247 tw643611225255726115 tw14062971424948380701 tw10253499824898824822 tw4894975622732660449 tw4334915238806565890 tw1324824636866648310 tw1539809217822572657 tw2154877504662739104 tw17386635936428727444 tw17078326254314486578 tw11004296286578437218 tw13420706915215966683 tw13084473022036328764 tw8649263998873486318 tw16317259098137350532 tw10225915593597080616 tw5956920022847766423 tw11254689300978566438 tw1713972544024112085 tw7349866628215445114 tw4384235629727836755 tw10661665706661098708 tw8605099260157949762 tw9859302379672999519 tw12361575626684256688 tw9893240728408913888 tw12593350413744057781 tw4129246980714776232 tw5624363153606336522 tw4715634135556172483 tw15208640659623413161 tw5555708647616961435 tw8933228269363539889 tw5761180759667316228 tw8673348154090602293 tw2185326174593143567 tw1566926377724792850 tw2945618712248891540 tw6153324820408850659 tw11947878027844031423 tw17288973808804641315 tw17579228069080985281 tw2482680088495156733 tw11107102967635674411 tw1640559672793773862 tw10819678207891494597 tw16955594078966513613 tw1842300328737976538 tw12926335108324552678 tw15745742176620693369 tw6752070279683010914 tw3115619747108077110 tw18193731258615980724 tw4685609242039668103 tw6626183746887858549 tw16385665509328141371 tw5080427837908042839 tw9559638143209354186 tw10358536740756994173 tw12909505397476327010 tw6632438781524522248 tw963718527349579539 tw3604185034623026382 tw14233549195874577938 tw8729732677234834559 tw2331960397882945621 tw1599579176043558596 tw16710144295818952536 tw7649730457822148500 tw18397814976732622920 tw14371426289357751374 tw4984659518404997014 tw14437873478513289691 tw7866322126630305568 tw8786765340186974865 tw1155658621716680394 tw1329196680310528271 tw16563947861323292107 tw13933529672387072803 tw4519004302519214039 tw7280091804711508796 tw795022174203191742 tw17125930167064690704 tw17268497734830619181 tw16110454864552395787 tw653423000513193606 tw11719995478160537733 tw292492930243599619 tw8061008033453954650 tw16959573877359093344 tw17294427505692546875 tw1917022575362187481 tw12246919511004631401 tw14896038046520473894 tw10137346957009539054 tw15667563127903876978 tw11171277957906127909 tw214950978030653923 tw16820086603001151526 tw1282029764569821853 tw11911112783284750547 tw17411971342543399560 tw11132640092116595631 tw7382129605579230784 tw14721380710110187220 tw15397419916553457783 tw8538373019860924153 tw6596072032606156264 tw6574344971191461622 tw6836633290920150940 tw17321251857121381518 tw16190160370912330699 tw2710865812131889587 tw13513312333361869575 tw8490464705963163893 tw8374473007271244625 tw14588846205382502958 tw18157819917934241372 tw10980580489231464910 tw11347106044691592123 tw5218585711016591256 tw12059861472539955094 tw332611187001683819 tw16934010063467083563 tw8682781650244229452 tw8197266022753146706 tw12654277341843494601 tw11845509796115212231 tw14886018952612127114 tw3054684366748374475 tw12300501587607352770 tw15671343969274457926 tw3672517038798582074 tw1075670385610770865 tw9723668913945610541 tw17552861215697114857 tw11783808207910006113 tw10401658225719242424 tw10130419333373178461 tw9239913827491060418 tw1650142342482591483 tw13518456047971764744 tw13855627239994310409 tw15302812076816710556 tw15005057008777268850 tw9045680457521152745 tw400042955422847925 tw13476490073215934508 tw11607961967574649412 tw17079445358057891441 tw18283297031085851287 tw15879669632078932848 tw12909615390883884405 tw10585786935074542522 tw14493977012841544310 tw13756578598083903071 tw1715092650976371485 tw7744298979301325149 tw12997973637805790954 tw16425426587503569462 tw13782053053536943607 tw379911266468618992 tw3579447191724976792 tw13479547617507604570 tw15096108052347463155 tw2366640827071446825 tw16430571598378848028 tw11976486181072489257 tw701601193268505130 tw5916746272488556235 tw621625098820669080 tw16504002180495512641 tw16476654332460295413 tw7558801639155982760 tw14362531342697925897 tw2818237199256261355 tw7468569109305624877 tw14295188514491364596 tw10116185425381785344 tw13023203187139980581 tw88752412600942728 tw16783919414153756358 tw2978918191037318570 tw9810065736051660387 tw11130252366002946876 tw16750023424927147265 tw415053942551778204 tw4425713082259993259 tw11342520778233673890 tw9770486728463225325 tw13350220310738601756 tw16650076771271423751 tw7695132049737701602 tw6413612579635768387 tw12736920391806578411 tw5991845677942982459 tw1145175793170273155 tw13145827323872566935 tw410795868234069311 tw11406851978501891156 tw10443680120795725471 tw8159988831059843554 tw450445995094520158 tw11063795684290952957 tw3449548321320620355 tw12358846098574674159 tw18435349519847804604 tw3866818772437690258 tw7021206994015061426 tw13336723898899639369 tw9841344484661439032 tw7698861083295255794 tw5489260436625355268 tw841496213675219272 tw13601220719990313986 tw668797287145052623 tw7907261363619956191 tw2275627777307168155 tw1928710824460824614 tw12882504196655787050 tw15099211345062130856 tw4381840002097977026 tw11567638987665987405 tw10919391866973438879 tw4262291359346898312 tw10374779310011935530 tw13558931562502262827 tw12924030856154626089:True)
open PySem PySem.W PyProof.Rows
set_option maxRecDepth 100000 in
set_option maxHeartbeats 0 in
theorem PySem.Challenge.cw_lampway_k14_never_and_short_holds : PySem.Challenge.rw_lampway_k14_never_and_short.Holds := by
 w_on;o_law;k_head;(case hw=>w_witness2)
 k_fill
 refine L2.LH (l:=PySem.Challenge.rw_lampway_k14_never_and_short) (n:=63) (k:=10) (x := "_law_script") (CX:=L2.CX0) (sp:=L2.FM) rfl (by decide) rfl ⟨rfl,by decide,by decide⟩ (fun w h Y=>PySem.W.kIn_of Y) ?F ?S ?C
 case F=>
  intro w mg fa h KX G hmg;have T:∃ t,My.Txt w (L2.KOf KX) mg t:=by
   dsimp only [L2.KOf];refine' ⟨My.Adr.mk,⟨⟨?mqaa,?Fqab,?mqac,?Fqad,?mqae,?Fqaf,?mqag,?Fqah,?mqai,?Fqaj,?mqak,?Fqal,?mqam,?Fqan,?mqao,?Fqap,?mqaq,?Fqar,?mqas,?Fqat⟩,⟨?mqau,?Fqav,?mqaw,?Fqax,?mqay,?Fqaz,?mqba,?Fqbb,?mqbc,?Fqbd,?mqbe,?Fqbf,?mqbg,?Fqbh,?mqbi,?Fqbj,?mqbk,?Fqbl,?mqbm,?Fqbn⟩,⟨?mqbo,?Fqbp,?mqbq,?Fqbr,?mqbs,?Fqbt,?mqbu,?Fqbv,?mqbw,?Fqbx,?mqby,?Fqbz,?mqca,?Fqcb,?mqcc,?Fqcd,?mqce,?Fqcf,?mqcg,?Fqch⟩,⟨?mqci,?Fqcj,?mqck,?Fqcl,?mqcm,?Fqcn,?mqco,?Fqcp,?mqcq,?Fqcr,?mqcs,?Fqct,?mqcu,?Fqcv,?mqcw,?Fqcx,?mqcy,?Fqcz,?mqda,?eqdb⟩,⟨?Fqdc,?mqdd,?eqde,?Fqdf,?mqdg,?eqdh,?Fqdi,?mqdj,?eqdk,?Fqdl,?mqdm,?eqdn,?Fqdo,?eqdp,?Fqdq,?eqdr,?Fqds,?eqdt,?Fqdu,?eqdv⟩,⟨?Fqdw,?eqdx,?Fqdy,?eqdz,?Fqea,?eqeb,?Fqec,?mqed,?eqee,?Fqef,?mqeg,?eqeh,?Fqei,?mqej,?eqek,?Fqel,?eqem,?Fqen,?eqeo,?Fqep⟩,⟨?mqeq,?eqer,?Fqes,?eqet,?Fqeu,?eqev,?Fqew,?mqex,?eqey,?Fqez,?eqfa,?Fqfb,?eqfc,?Fqfd,?mqfe,?eqff,?Fqfg,?eqfh,?Fqfi,?eqfj⟩,⟨?Fqfk,?eqfl,?Fqfm,?sqfn,?sqfo,?sqfp,?sqfq,?sqfr,?sqfs,?sqft,?sqfu,?sqfv,?nqfw,?nqfx,?nqfy,?sqfz,?sqga,?nqgb,?nqgc,?nqgd⟩,⟨?nqge,?nqgf,?sqgg,?nqgh,?nqgi,?nqgj,?nqgk,?nqgl,?nqgm,?nqgn,?sqgo,?sqgp,?sqgq,?sqgr,?nqgs,?nqgt,?nqgu,?nqgv,?nqgw,?nqgx⟩,⟨?nqgy,?sqgz,?sqha,?sqhb,?sqhc,?nqhd,?nqhe,?nqhf,?nqhg,?nqhh,?nqhi,?nqhj,?sqhk,?sqhl,?sqhm,?sqhn,?nqho,?nqhp,?nqhq,?nqhr⟩,⟨?nqhs,?nqht,?nqhu,?sqhv,?sqhw,?sqhx,?sqhy,?sqhz,?nqia,?nqib,?nqic,?mqid,?sqie,?xqif,?Xqig,?nqih,?nqii,?sqij,?rqik,?rqil⟩,⟨?rqim,?rqin,?rqio,?rqip,?rqiq,?rqir,?rqis,?rqit,?rqiu,?rqiv,?rqiw,?rqix,?mqiy,?xqiz,?Xqja,?nqjb,?sqjc,?rqjd,?rqje,?rqjf⟩,⟨?rqjg,?rqjh,?rqji,?rqjj,?rqjk,?rqjl,?rqjm,?rqjn,?rqjo,?rqjp,?rqjq,?xqjr,?Xqjs,?nqjt,?nqju,?sqjv,?rqjw,?rqjx,?rqjy,?rqjz⟩,⟨?rqka,?rqkb,?rqkc,?rqkd,?rqke,?rqkf,?rqkg,?rqkh,?rqki,?rqkj,?xqkk,?Xqkl,?nqkm,?nqkn,?nqko,?sqkp,?rqkq,?rqkr,?rqks,?rqkt⟩,⟨?rqku,?rqkv,?rqkw,?rqkx,?rqky,?rqkz,?rqla,?rqlb,?rqlc,?rqld,?mqle,?mqlf,?mqlg,?dqlh,?dqli,?dqlj,?dqlk,?dqll,?dqlm,?sqln⟩,⟨?mqlo,?vqlp,?mqlq,?vqlr,?mqls,?vqlt,?mqlu,?vqlv,?mqlw,?vqlx,?mqly,?vqlz,?mqma,?vqmb,?mqmc,?vqmd,?mqme,?vqmf,?mqmg,?vqmh⟩,⟨?mqmi,?vqmj,?mqmk,?vqml,?bqmm,?bqmn,?bqmo,?bqmp,?bqmq,?bqmr,?bqms,?bqmt,?bqmu,?bqmv,?bqmw,?bqmx,?lqmy⟩⟩⟩
   case mqaa | mqac | mqae | mqag | mqai | mqak | mqam | mqao | mqaq | mqas | mqau | mqaw | mqay | mqba | mqbc | mqbe | mqbg | mqbi | mqbk | mqbm | mqbo | mqbq | mqbs | mqbu | mqbw | mqby | mqca | mqcc | mqce | mqcg | mqci | mqck | mqcm | mqco | mqcq | mqcs | mqcu | mqcw | mqcy | mqda | mqdd | mqdg | mqdj | mqdm | mqed | mqeg | mqej | mqeq | mqex | mqfe | mqid | mqiy | mqle | mqlf | mqlg | mqlo | mqlq | mqls | mqlu | mqlw | mqly | mqma | mqmc | mqme | mqmg | mqmi | mqmk=>(try dsimp only);refine' PySem.W.mg_of KX G ?z;case z=>k_is
   case eqdb | eqde | eqdh | eqdk | eqdn | eqdp | eqdr | eqdt | eqdv | eqdx | eqdz | eqeb | eqee | eqeh | eqek | eqem | eqeo | eqer | eqet | eqev | eqey | eqfa | eqfc | eqff | eqfh | eqfj | eqfl=>(try dsimp only);k_is
   case sqfn | sqfo | sqfp | sqfq | sqfr | sqfs | sqft | sqfu | sqfv | sqfz | sqga | sqgg | sqgo | sqgp | sqgq | sqgr | sqgz | sqha | sqhb | sqhc | sqhk | sqhl | sqhm | sqhn | sqhv | sqhw | sqhx | sqhy | sqhz | sqie | sqij | sqjc | sqjv | sqkp | sqln=>(try dsimp only);constructor <;> k_is
   case Fqab | Fqad | Fqaf | Fqah | Fqaj | Fqal | Fqan | Fqap | Fqar | Fqat | Fqav | Fqax | Fqaz | Fqbb | Fqbd | Fqbf | Fqbh | Fqbj | Fqbl | Fqbn | Fqbp | Fqbr | Fqbt | Fqbv | Fqbx | Fqbz | Fqcb | Fqcd | Fqcf | Fqch | Fqcj | Fqcl | Fqcn | Fqcp | Fqcr | Fqct | Fqcv | Fqcx | Fqcz | Fqdc | Fqdf | Fqdi | Fqdl | Fqdo | Fqdq | Fqds | Fqdu | Fqdw | Fqdy | Fqea | Fqec | Fqef | Fqei | Fqel | Fqen | Fqep | Fqes | Fqeu | Fqew | Fqez | Fqfb | Fqfd | Fqfg | Fqfi | Fqfk | Fqfm=>(try dsimp only);refine' L2.HL ?x ?y ?z;(case x=>k_is);(case y=>k_is);(case z=>k_is)
   case nqfw | nqfx | nqfy | nqgb | nqgc | nqgd | nqge | nqgf | nqgh | nqgi | nqgj | nqgk | nqgl | nqgm | nqgn | nqgs | nqgt | nqgu | nqgv | nqgw | nqgx | nqgy | nqhd | nqhe | nqhf | nqhg | nqhh | nqhi | nqhj | nqho | nqhp | nqhq | nqhr | nqhs | nqht | nqhu | nqia | nqib | nqic | nqih | nqii | nqjb | nqjt | nqju | nqkm | nqkn | nqko=>(try dsimp only);unfold L2.zb;k_is
   case rqik | rqil | rqim | rqin | rqio | rqip | rqiq | rqir | rqis | rqit | rqiu | rqiv | rqiw | rqix | rqjd | rqje | rqjf | rqjg | rqjh | rqji | rqjj | rqjk | rqjl | rqjm | rqjn | rqjo | rqjp | rqjq | rqjw | rqjx | rqjy | rqjz | rqka | rqkb | rqkc | rqkd | rqke | rqkf | rqkg | rqkh | rqki | rqkj | rqkq | rqkr | rqks | rqkt | rqku | rqkv | rqkw | rqkx | rqky | rqkz | rqla | rqlb | rqlc | rqld=>(try dsimp only);kernel_rfl
   case xqif | xqiz | xqjr | xqkk=>(try dsimp only);refine' ⟨?_,by kernel_rfl,?_,?_,?_⟩ <;> k_is
   case Xqig | Xqja | Xqjs | Xqkl=>(try dsimp only);refine' L2.lM ?x (by kernel_rfl) ?y;(case x=>k_is);(case y=>k_is)
   case dqlh | dqli | dqlj | dqlk | dqll | dqlm=>(try dsimp only);decide
   case vqlp | vqlr | vqlt | vqlv | vqlx | vqlz | vqmb | vqmd | vqmf | vqmh | vqmj | vqml=>(try dsimp only);exact ⟨_,rfl⟩
   case bqmm | bqmn | bqmo | bqmp | bqmq | bqmr | bqms | bqmt | bqmu | bqmv | bqmw | bqmx=>(try dsimp only);refine' PySem.W.mg_none_of KX G ?z;case z=>k_is
   case lqmy=>(try dsimp only);exact fun _ _=>.of_eq rfl
  obtain ⟨t,T⟩:=T;have e0:=hmg.symm.trans T.SN;cases e0;exact ⟨t.oC,T.AM,fun base kb nb=>My.IK T⟩
 case S=>exact fun K H a ns hl hO hS=>⟨a,ns,rfl,L2.Sc.of_only hO hS,hl,fun _=>rfl⟩
 case C=>exact fun _ _ _ _ z=>z
