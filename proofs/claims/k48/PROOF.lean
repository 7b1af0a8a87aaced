import PyProof.Rows.All
import Wide.All
import OpenK.AllK
import Wide.FinOn
import Lean
import PyProof.EqAt
import PyProof.EqKinds
import PyProof.TupleCall
import KE.KTryMore
import PyProof.NsDelKeeps
import PySem.Challenge.RW_lampway_k48_the_slowest
set_option compiler.extract_closed false
set_option Elab.async false
set_option linter.all false
set_option maxRecDepth 100000
namespace L2
open PySem PySem.Spec PyProof.Rows
noncomputable abbrev Key:=Sum Int Str
noncomputable def kB:Key→Value→Bool
 | .inl k,v=>Value.isInt k v
 | .inr x,v=>Value.isStrOf x v
noncomputable def DP (w:World):Key→Int
 | .inl k=>hashInt k
 | .inr x=>hashStr w x
theorem Od:∀ {k:Key} {v:Value},kB k v=true→(∃ i t,k=Sum.inl i∧v=Value.int i t)∨(∃ x t,k=Sum.inr x∧v=Value.str x t)
 | .inl i,v,h=>by
  obtain ⟨t,e⟩:=Value.isInt_shape (k:=i) (v:=v) h;exact .inl ⟨i,t,rfl,e⟩
 | .inr x,v,h=>by
  obtain ⟨t,e⟩:=Value.isStrOf_shape (x:=x) (v:=v) h;exact .inr ⟨x,t,rfl,e⟩
theorem TC (i:Int) (t:Tok):kB (.inl i) (.int i t)=true:=by simp [kB,Value.isInt]
theorem tF (x:Str) (t:Tok):kB (.inr x) (.str x t)=true:=by simp [kB,Value.isStrOf]
theorem jN (a b:Int):decide ((Sum.inl a:Key)=Sum.inl b)=(a == b):=by
 by_cases e:a=b
 ·subst e;simp
 ·have h:¬ (Sum.inl a:Key)=Sum.inl b:=fun q=>e (Sum.inl.inj q)
  rw [decide_eq_false h];exact (beq_eq_false_iff_ne.mpr e).symm
theorem tM (a b:Str):decide ((Sum.inr a:Key)=Sum.inr b)=decide (a=b):=by
 by_cases e:a=b
 ·subst e;simp
 ·have h:¬ (Sum.inr a:Key)=Sum.inr b:=fun q=>e (Sum.inr.inj q)
  rw [decide_eq_false h,decide_eq_false e]
theorem GM (a:Int) (b:Str):decide ((Sum.inl a:Key)=Sum.inr b)=false:=decide_eq_false (fun q=>nomatch q)
theorem TM (a:Str) (b:Int):decide ((Sum.inr a:Key)=Sum.inl b)=false:=decide_eq_false (fun q=>nomatch q)
noncomputable def Pd (prog:Program) (w:World):PySem.KeyKind prog w Key where
 is:=kB
 hash:=DP w
 inj:=fun v a b ha hb=>by
  rcases Od ha with ⟨i,t,rfl,rfl⟩ | ⟨x,t,rfl,rfl⟩
  ·rcases Od hb with ⟨j,u,rfl,e⟩ | ⟨y,u,rfl,e⟩
   ·injection e with e1 _;rw [e1]
   ·exact nomatch e
  ·rcases Od hb with ⟨j,u,rfl,e⟩ | ⟨y,u,rfl,e⟩
   ·exact nomatch e
   ·injection e with e1 _;rw [e1]
 byValue:=fun k v h=>by
  rcases Od h with ⟨i,t,rfl,rfl⟩ | ⟨x,t,rfl,rfl⟩ <;> rfl
 pyHash:=fun hv h=>by
  rcases Od hv with ⟨i,t,rfl,rfl⟩ | ⟨x,t,rfl,rfl⟩
  ·exact wpAny_pyHash_int h
  ·exact wpAny_pyHash_str h
 eqBool:=fun hu hv h=>by
  rcases Od hu with ⟨i,t,rfl,rfl⟩ | ⟨x,t,rfl,rfl⟩
  ·rcases Od hv with ⟨j,u,rfl,rfl⟩ | ⟨y,u,rfl,rfl⟩
   ·rw [jN] at h;exact wpAny_eqBool_int h
   ·rw [GM] at h;exact SeqAt.EqAt.int_str i t y u _ _ _ _ h
  ·rcases Od hv with ⟨j,u,rfl,rfl⟩ | ⟨y,u,rfl,rfl⟩
   ·rw [TM] at h;exact SeqAt.EqAt.str_int x t j u _ _ _ _ h
   ·rw [tM] at h;exact wpAny_eqBool_str h
 «strs»:=fun k x t v h=>by
  rcases Od h with ⟨i,u,rfl,e⟩ | ⟨y,u,rfl,e⟩
  ·exact nomatch e
  ·injection e with e1 _;subst e1;cases v <;> rfl
theorem fz (prog:Program) (w:World) (i:Int) (t:Tok):(Pd prog w).is (.inl i) (.int i t)=true:=TC i t
theorem Ey (prog:Program) (w:World) (x:Str) (t:Tok):(Pd prog w).is (.inr x) (.str x t)=true:=tF x t
end L2
namespace L2
open PySem PySem.Spec PyProof.Rows
inductive V where
 | non | bl (b:Bool) | int (i:Int) | str (x:Str) | byt (b:Array UInt8) | flt (b:UInt64) | ref (a:Addr) | ty (n:String)
 deriving DecidableEq
noncomputable def gd:V→Value→Prop
 | .non,u=>u=Value.none
 | .bl b,u=>u=Value.bool b
 | .int i,u=>∃ t,u=Value.int i t
 | .str x,u=>∃ t,u=Value.str x t
 | .byt b,u=>∃ t,u=Value.bytes b t
 | .flt b,u=>∃ t,u=Value.float b t
 | .ref a,u=>u=Value.ref a
 | .ty n,u=>u=Value.type n
noncomputable abbrev Uc:List V→List Value→Prop:=Paired gd
theorem Uc.length {xs:List V} {us:List Value} (r:Uc xs us):xs.length=us.length:=Paired.length r
theorem Uc.get:∀ {xs:List V} {us:List Value} {i:Nat} {x:V},Uc xs us→xs[i]? = some x→∃ u,us[i]? = some u∧gd x u
 | _,_,_,_,.nil,e=>by simp at e
 | _,_,0,_,.cons r _,e=>by simp at e;subst e;exact ⟨_,rfl,r⟩
 | _,_,i + 1,x,.cons _ t,e=>by
  obtain ⟨u,h1,h2⟩:=Uc.get (i:=i) (x:=x) t (by simpa using e);exact ⟨u,by simpa using h1,h2⟩
theorem Uc.set {x:V} {u:Value} (r:gd x u):∀ {xs:List V} {us:List Value} (i:Nat),Uc xs us→Uc (xs.set i x) (us.set i u)
 | _,_,_,.nil=>.nil
 | _,_,0,.cons _ t=>.cons r t
 | _,_,i + 1,.cons q t=>.cons q (Uc.set r i t)
theorem Uc.append:∀ {xs ys:List V} {us ws:List Value},Uc xs us→Uc ys ws→Uc (xs ++ ys) (us ++ ws)
 | _,_,_,_,.nil,s=>s
 | _,_,_,_,.cons r t,s=>.cons r (Uc.append t s)
theorem Uc.take:∀ {xs:List V} {us:List Value} (n:Nat),Uc xs us→Uc (xs.take n) (us.take n)
 | _,_,0,_=>.nil
 | _,_,_ + 1,.nil=>.nil
 | _,_,n + 1,.cons r t=>.cons r (Uc.take n t)
theorem Uc.drop:∀ {xs:List V} {us:List Value} (n:Nat),Uc xs us→Uc (xs.drop n) (us.drop n)
 | _,_,0,r=>r
 | _,_,_ + 1,.nil=>.nil
 | _,_,n + 1,.cons _ t=>Uc.drop n t
theorem Uc.none_of:∀ {xs:List V} {us:List Value} {i:Nat},Uc xs us→xs[i]? = none→us[i]? = none:=fun {xs us i} r e=>by
 have h1:=r.length;have h2:xs.length ≤ i:=List.getElem?_eq_none_iff.mp e;exact List.getElem?_eq_none_iff.mpr (by omega)
noncomputable def Gu:Option V→Option Value→Prop
 | some v,some u=>gd v u
 | none,none=>True
 | _,_=>False
noncomputable def KV {κ:Type}:List (κ × V)→List (κ × Value)→Prop:=Paired fun (p:κ × V) (q:κ × Value)=>p.1=q.1∧gd p.2 q.2
noncomputable def kV:Key→V
 | .inl i=>.int i
 | .inr x=>.str x
inductive HO where
  | lst (xs:List V)
  | tup (xs:List V)
  | dK (kvs:List (Key × V)) | dT (kvs:List (List Key × V))
  | set (S:Int→Bool) (n:Nat)
  | ins (C dx:Addr) (fs:List (Str × V))
  | own (x:Addr)
  | xd (fs:List (Str × V))
  | met (f x:Addr)
  | rng (lo hi:Int)
  | frz (o:Obj) (u:HO)
  | tbl (ps:Array Value)
  | ext (φ:Heap→Prop)
noncomputable abbrev Hp:=Addr→Option HO
noncomputable def upd (H:Hp) (a:Addr) (o:HO):Hp:=fun b=>if b=a then some o else H b
theorem db {H:Hp} {a:Addr} {o:HO}:upd H a o a=some o:=by unfold upd;rw [if_pos rfl]
theorem pb {H:Hp} {a b:Addr} {o:HO} (h:b ≠ a):upd H a o b=H b:=by unfold upd;rw [if_neg h]
theorem gq {H:Hp} {a:Addr} {o u:HO}:upd (upd H a o) a u=upd H a u:=by
 funext b;unfold upd;split <;> rfl
theorem Ge {H:Hp} {a b:Addr} {o u:HO} (h:H a=some o) (h':H b=some u) (d:o ≠ u):a ≠ b:=by
 intro e;subst e;rw [h] at h';exact d (Option.some.inj h')
theorem xb {H:Hp} {a b:Addr} {o:HO} (h:H a=some o) (h':H b=none):a ≠ b:=by
 intro e;subst e;rw [h] at h';cases h'
section
variable (P:Program) (w:World)
noncomputable def qd (H:Hp) (h:Heap) (a:Addr):HO→Prop
 | .lst xs=>xs.length ≤ sizeLine∧∃ (its:List Value) (n:Nat),Uc xs its∧h.get? a=some { cls:=.type "list",data:=.seq its.toArray n }
 | .tup xs=>(xs.length ≤ sizeLine∧∃ ob,h.get? a=some ob∧ob.dict=none)∧∃ its:List Value,Uc xs its∧IsTup h a its.toArray
 | .dK kvs=>kvs.length ≤ sizeLine∧(a == sysModules)=false∧∃ vs,KV kvs vs∧h.DictOf (Pd P w) a vs
 | .dT kvs=>kvs.length ≤ sizeLine∧(a == sysModules)=false∧∃ xs:List (List Key × Addr × Value),
   Paired (fun (p:List Key × V) (q:List Key × Addr × Value)=>p.1=q.1∧H q.2.1=some (.tup (p.1.map kV))∧gd p.2 q.2.2) kvs xs ∧
   ∃ o es ep,h.get? a=some o∧o.ExactDict∧o.data=.dict es ep∧es.toList=xs.map (entryOfKey (tupleKind (Pd P w)))∧(xs.map (·.1)).Nodup
 | .set S n=>h.SetOf (intKind P w) a S n
 | .ins C dx fs=>H dx=some (.own a)∧fs.length ≤ 1000∧dx ≠ a∧h.get? a=some (PySem.W.instObj C dx) ∧
   ∃ mA,h.Ns1 dx mA∧(∀ f,Gu (fs.lookup f) (mA f))∧PySem.Within mA (fs.map (·.1))
 | .own _=>∃ o,h.get? a=some o
 | .xd fs=>∃ mA,h.Ns1 a mA∧∀ f,Gu (fs.lookup f) (mA f)
 | .rng lo hi=>∃ t u v,h.get? a=some { cls:=.type "range",data:=.fields #[.int lo t,.int hi u,.int 1 v] }
 | .frz o u=>h.get? a=some o∧qd H h a u
 | .tbl ps=>h.get? a=some { cls:=.none,data:=.fields ps }
 | .met f x=>h.get? a=some (PySem.W.methodObj (.ref f) (.ref x))
 | .ext φ=>φ h∧(∃ o,h.get? a=some o)∧∀ h1 h2:Heap,φ h1→(∀ o,h1.get? a=some o→h2.get? a=some o)→φ h2
noncomputable def HOk (H:Hp) (h:Heap):Prop:=∀ a o,H a=some o→qd P w H h a o
end
section
variable {P:Program} {w:World} {H H':Hp} {h h':Heap} {a:Addr} {o:HO}
theorem qd.lt (x:qd P w H h a o):a < h.objs.size:=by
 cases o with
 | lst xs=>obtain ⟨_,_,_,_,e⟩:=x;exact Heap.lt_size e
 | tup xs=>obtain ⟨_,_,_,p⟩:=x;exact p.lt
 | dK kvs=>obtain ⟨_,_,_,_,o,_,_,e,_⟩:=x;exact Heap.lt_size e
 | dT kvs=>obtain ⟨_,_,_,_,o,_,_,e,_⟩:=x;exact Heap.lt_size e
 | set S n=>obtain ⟨o,_,_,_,e,_⟩:=x;exact Heap.lt_size e
 | ins C dx fs=>obtain ⟨_,_,_,e,_⟩:=x;exact Heap.lt_size e
 | own y=>obtain ⟨_,e⟩:=x;exact Heap.lt_size e
 | xd fs=>obtain ⟨_,⟨_,_,_,e,_⟩,_⟩:=x;exact Heap.lt_size e
 | rng lo hi=>obtain ⟨_,_,_,e⟩:=x;exact Heap.lt_size e
 | frz ob u=>obtain ⟨e,_⟩:=x;exact Heap.lt_size e
 | tbl ps=>exact Heap.lt_size (show h.get? a=some _ from x)
 | met f y=>exact Heap.lt_size (show h.get? a=some _ from x)
 | ext φ=>obtain ⟨_,⟨_,e⟩,_⟩:=x;exact Heap.lt_size e
theorem Paired.mapP {α β:Type} {F G:α→β→Prop}:∀ {l₁:List α} {l₂:List β},Paired F l₁ l₂→(∀ a b,F a b→G a b)→Paired G l₁ l₂
 | _,_,.nil,_=>.nil
 | _,_,.cons r t,f=>.cons (f _ _ r) (Paired.mapP t f)
theorem qd.stay (x:qd P w H h a o) (k:∀ b u,(b=a∨H b=some (.own a))→h.get? b=some u→h'.get? b=some u)
  (ho:∀ b,H b=some (.own a)→H' b=some (.own a)) (ht:∀ b xs,H b=some (.tup xs)→H' b=some (.tup xs)):qd P w H' h' a o:=by
 induction o with
 | lst xs=>obtain ⟨z,its,n,r,e⟩:=x;exact ⟨z,its,n,r,k _ _ (.inl rfl) e⟩
 | tup xs=>obtain ⟨⟨z,oz,ez,dz⟩,its,r,ob,e,c⟩:=x;exact ⟨⟨z,oz,k _ _ (.inl rfl) ez,dz⟩,its,r,ob,k _ _ (.inl rfl) e,c⟩
 | dK kvs=>obtain ⟨z,y,vs,r,ob,es,ep,e,c⟩:=x;exact ⟨z,y,vs,r,ob,es,ep,k _ _ (.inl rfl) e,c⟩
 | dT kvs=>
  obtain ⟨z,y,xs,r,ob,es,ep,e,c⟩:=x;exact ⟨z,y,xs,Paired.mapP r fun p q z=>⟨z.1,ht _ _ z.2.1,z.2.2⟩,ob,es,ep,k _ _ (.inl rfl) e,c⟩
 | set S n=>obtain ⟨ob,es,ep,t,e,c⟩:=x;exact ⟨ob,es,ep,t,k _ _ (.inl rfl) e,c⟩
 | ins C dx fs=>
  obtain ⟨d,z,ne,e,mA,⟨od,es,ep,e2,c⟩,r⟩:=x;exact ⟨ho _ d,z,ne,k _ _ (.inl rfl) e,mA,⟨od,es,ep,k _ _ (.inr d) e2,c⟩,r⟩
 | own y=>obtain ⟨ob,e⟩:=x;exact ⟨ob,k _ _ (.inl rfl) e⟩
 | xd fs=>obtain ⟨mA,⟨od,es,ep,e,c⟩,r⟩:=x;exact ⟨mA,⟨od,es,ep,k _ _ (.inl rfl) e,c⟩,r⟩
 | rng lo hi=>obtain ⟨t,u,v,e⟩:=x;exact ⟨t,u,v,k _ _ (.inl rfl) e⟩
 | frz ob u ih=>obtain ⟨e,q⟩:=x;exact ⟨k _ _ (.inl rfl) e,ih q⟩
 | tbl ps=>
  have e:h.get? a=some { cls:=.none,data:=.fields ps }:=x;show h'.get? a=some { cls:=.none,data:=.fields ps };exact k a _ (.inl rfl) e
 | met f y=>
  have e:h.get? a=some (PySem.W.methodObj (.ref f) (.ref y)):=x;show h'.get? a=some (PySem.W.methodObj (.ref f) (.ref y));exact k a _ (.inl rfl) e
 | ext φ=>obtain ⟨p,⟨o,e⟩,st⟩:=x;exact ⟨st _ _ p fun o q=>k _ _ (.inl rfl) q,⟨o,k _ _ (.inl rfl) e⟩,st⟩
theorem HOk.lt (x:HOk P w H h) (e:H a=some o):a < h.objs.size:=(x a o e).lt
theorem HOk.fresh (x:HOk P w H h) (e:h.objs.size ≤ a):H a=none:=by
 cases q:H a with
 | none=>rfl
 | some u=>exact absurd (Nat.lt_of_lt_of_le (x.lt q) e) (Nat.lt_irrefl _)
theorem HOk.kept (x:HOk P w H h) (k:∀ b u,h.get? b=some u→h'.get? b=some u):HOk P w H h':=fun a o e=>
 (x a o e).stay (fun b u _ q=>k b u q) (fun _ q=>q) fun _ _ q=>q
theorem HOk.laid (x:HOk P w H h) (k:∀ b u,h.get? b=some u→h'.get? b=some u) (hp:h.objs.size ≤ a) (new:qd P w (upd H a o) h' a o):HOk P w (upd H a o) h':=fun b u e=>by
 have hn:=x.fresh hp;by_cases hb:b=a
 ·subst hb;rw [db] at e;cases e;exact new
 ·rw [pb hb] at e;exact (x b u e).stay (fun c v _ q=>k c v q) (fun c q=>by rw [pb (xb q hn)];exact q) fun c xs q=>by rw [pb (xb q hn)];exact q
end
noncomputable def Rd (H:Hp) (a:Addr) (u:HO):Prop:=H a=some u∨∃ o,H a=some (.frz o u)
theorem Rd.of {H:Hp} {a:Addr} {u:HO} (h:H a=some u):Rd H a u:=.inl h
theorem Rd.ok {P:Program} {w:World} {H:Hp} {h:Heap} {a:Addr} {u:HO} (r:Rd H a u) (x:HOk P w H h):qd P w H h a u:=by
 rcases r with r | ⟨o,r⟩
 ·exact x a u r
 ·obtain ⟨_,q⟩:=x a _ r;exact q
noncomputable def Mut:Option HO→Prop
 | some (.lst _)=>True
 | some (.dK _)=>True
 | some (.dT _)=>True
 | some (.set _ _)=>True
 | some (.ins _ _ _)=>True
 | some (.ext _)=>True
 | _=>False
section
variable {P:Program} {w:World} {H:Hp} {h h':Heap} {x e:Addr} {o':HO}
theorem HOk.write (ok:HOk P w H h) (mu:Mut (H x)) (he:e=x∨H e=some (.own x)) (k:∀ b u,b ≠ e→h.get? b=some u→h'.get? b=some u) (heo:∃ u,h'.get? e=some u)
  (new:qd P w (upd H x o') h' x o'):HOk P w (upd H x o') h':=fun b u q=>by
 have nown:∀ c y,H c=some (.own y)→c ≠ x:=fun c y r z=>by subst z;rw [r] at mu;exact mu
 have ntup:∀ c xs,H c=some (.tup xs)→c ≠ x:=fun c xs r z=>by subst z;rw [r] at mu;exact mu
 by_cases hb:b=x
 ·subst hb;rw [db] at q;cases q;exact new
 ·rw [pb hb] at q;by_cases hbe:b=e
  ·have q':H b=some (.own x):=by
    rcases he with z | z
    ·exact absurd (hbe.trans z) hb
    ·rw [hbe];exact z
   rw [q] at q';cases q';obtain ⟨v,hv⟩:=heo;exact ⟨v,by rw [hbe];exact hv⟩
  ·refine (ok b u q).stay (fun c v hc r=>k c v ?_ r) (fun c r=>by rw [pb (nown c b r)];exact r) fun c xs r=>by rw [pb (ntup c xs r)];exact r
   rcases hc with rfl | hc
   ·exact hbe
   ·rintro rfl;rcases he with z | z
    ·exact nown c b hc z
    ·rw [hc] at z;cases z;exact hb rfl
end
structure Un (fs ex:List Addr) (H H':Hp) (h h':Heap):Prop where
 keep:∀ b o,h.get? b=some o→H b=none→b ∉ fs→b ∉ ex→h'.get? b=some o
 slot:∀ b o,h.get? b=some o→H b=none→b ∈ fs→b ∉ ex→∃ sl,h'.get? b=some { o with slots:=sl }
 free:∀ b o,h.get? b=some o→H b=none→b ∉ ex→H' b=none
 there:∀ b o,h.get? b=some o→b ∉ ex→∃ o',h'.get? b=some o'
 tups:∀ b xs,H b=some (.tup xs)→H' b=some (.tup xs)
 frzs:∀ b o u,H b=some (.frz o u)→H' b=some (.frz o u)
 tbls:∀ b ps,H b=some (.tbl ps)→∃ more,H' b=some (.tbl (ps ++ more))
section
variable {fs fs' ex ex':List Addr} {H H1 H2:Hp} {h h1 h2 h':Heap} {a x e:Addr} {o:HO}
theorem Un.any (u:Un fs ex H H1 h h1) {b:Addr} {ob:Obj} (q:h.get? b=some ob) (n:H b=none) (hx:b ∉ ex):∃ sl,h1.get? b=some { ob with slots:=sl }:=by
 by_cases hb:b ∈ fs
 ·exact u.slot b ob q n hb hx
 ·exact ⟨ob.slots,u.keep b ob q n hb hx⟩
theorem Un.trans (a:Un fs ex H H1 h h1) (b:Un fs ex H1 H2 h1 h2):Un fs ex H H2 h h2 where
 keep:=fun c ob q n hc hx=>b.keep c ob (a.keep c ob q n hc hx) (a.free c ob q n hx) hc hx
 slot:=fun c ob q n hc hx=>by
  obtain ⟨sl,e1⟩:=a.slot c ob q n hc hx;obtain ⟨sl',e2⟩:=b.slot c _ e1 (a.free c ob q n hx) hc hx;exact ⟨sl',e2⟩
 free:=fun c ob q n hx=>by
  obtain ⟨o',e1⟩:=a.there c ob q hx;exact b.free c o' e1 (a.free c ob q n hx) hx
 there:=fun c ob q hx=>by
  obtain ⟨o',e1⟩:=a.there c ob q hx;exact b.there c o' e1 hx
 tups:=fun c xs q=>b.tups c xs (a.tups c xs q)
 frzs:=fun c ob xs q=>b.frzs c ob xs (a.frzs c ob xs q)
 tbls:=fun c ps q=>by
  obtain ⟨m1,e1⟩:=a.tbls c ps q;obtain ⟨m2,e2⟩:=b.tbls c _ e1;exact ⟨m1 ++ m2,by rw [e2,Array.append_assoc]⟩
theorem Un.kept (k:∀ b u,h.get? b=some u→h'.get? b=some u):Un fs ex H H h h':=
 ⟨fun b ob q _ _ _=>k b ob q,fun b ob q _ _ _=>⟨ob.slots,k b ob q⟩,fun _ _ _ n _=>n,fun b ob q _=>⟨ob,k b ob q⟩,fun _ _ q=>q,fun _ _ _ q=>q,fun _ ps q=>⟨#[],by rw [q];simp⟩⟩
theorem Un.refl:Un fs ex H H h h:=Un.kept fun _ _ q=>q
theorem Un.laid (k:∀ b u,h.get? b=some u→h'.get? b=some u) (hp:h.objs.size ≤ a) (hn:H a=none):Un fs ex H (upd H a o) h h' where
 keep:=fun b u q _ _ _=>k b u q
 slot:=fun b u q _ _ _=>⟨u.slots,k b u q⟩
 free:=fun b u q n _=>by rw [pb (Nat.ne_of_lt (Nat.lt_of_lt_of_le (Heap.lt_size q) hp))];exact n
 there:=fun b u q _=>⟨u,k b u q⟩
 tups:=fun b xs q=>by rw [pb (xb q hn)];exact q
 frzs:=fun b u xs q=>by rw [pb (xb q hn)];exact q
 tbls:=fun b ps q=>⟨#[],by rw [pb (xb q hn),q];simp⟩
theorem Un.write (mu:Mut (H x)) (he:e=x∨H e=some (.own x)) (k:∀ b u,b ≠ e→h.get? b=some u→h'.get? b=some u) (heo:∃ u,h'.get? e=some u):Un fs ex H (upd H x o) h h':=by
 have hx:∀ b,H b=none→b ≠ x:=fun b n z=>by subst z;rw [n] at mu;exact mu
 have hb:∀ b,H b=none→b ≠ e:=fun b n z=>by
  subst z;rcases he with r | r
  ·exact hx b n r
  ·rw [n] at r;cases r
 have hm:∀ b u,H b=some u→¬ Mut (some u)→b ≠ x:=fun b u q nm z=>by subst z;rw [q] at mu;exact nm mu
 refine ⟨fun b u q n _ _=>k b u (hb b n) q,fun b u q n _ _=>⟨u.slots,k b u (hb b n) q⟩,fun b u q n _=>by rw [pb (hx b n)];exact n,fun b u q _=>?_,
  fun b xs q=>by rw [pb (hm b _ q fun z=>z)];exact q,fun b u xs q=>by rw [pb (hm b _ q fun z=>z)];exact q,fun b ps q=>⟨#[],by rw [pb (hm b _ q fun z=>z),q];simp⟩⟩
 by_cases hbe:b=e
 ·subst hbe;exact heo
 ·exact ⟨u,k b u hbe q⟩
theorem Un.mono (u:Un fs ex H H1 h h1) (hs:∀ b ∈ fs,b ∈ fs') (hx:∀ b ∈ ex,b ∈ ex'):Un fs' ex' H H1 h h1:=
 ⟨fun b ob q n hb he=>u.keep b ob q n (fun z=>hb (hs b z)) fun z=>he (hx b z),fun _ _ q n _ he=>u.any q n fun z=>he (hx _ z),fun b ob q n he=>u.free b ob q n fun z=>he (hx b z),fun b ob q he=>u.there b ob q fun z=>he (hx b z),u.tups,u.frzs,u.tbls⟩
end
noncomputable def trk (h:Heap) (H:Hp):List Addr:=(List.range h.objs.size).filter fun a=>(H a).isSome
noncomputable def kD (h:Heap) (H:Hp):Heap:=PySem.W.hideAll h (trk h H)
theorem JF (h:Heap) (H:Hp):(kD h H).objs.size=h.objs.size:=PySem.W.hideAll_size _ _
theorem Uu {h:Heap} {H:Hp} {b:Addr} {o:Obj} (e:h.get? b=some o) (n:H b=none):(kD h H).get? b=some o:=
 PySem.W.hideAll_get _ e fun hm=>by
  have q:(H b).isSome=true:=(List.mem_filter.mp hm).2;rw [n] at q;simp at q
theorem gL {h:Heap} {H:Hp} {b:Addr} {o:Obj} (e:(kD h H).get? b=some o):h.get? b=some o∧H b=none:=by
 have e':h.get? b=some o:=PySem.W.of_hideAll (trk h H) e;refine ⟨e',?_⟩;cases q:H b with
 | none=>rfl
 | some x=>
  have hm:b ∈ trk h H:=List.mem_filter.mpr ⟨List.mem_range.mpr (Heap.lt_size e'),by simp [q]⟩;have z:(kD h H).get? b=none:=PySem.W.hideAll_none (trk h H) hm;rw [z] at e;cases e
noncomputable def LJ (g h:Heap) (L:Addr):List (Addr × Obj):=(List.range h.objs.size).filterMap fun a=>if a=L∨(g.get? a).isSome=true then none else (h.get? a).map fun o=>(a,o)
noncomputable def yy (g h:Heap) (L d:Addr):List (Addr × Obj):=(LJ g h L).filter fun p=>decide (p.1 ≠ d)
end L2
namespace L2
open PySem PySem.Spec PyProof.Rows
structure Mod (K:PySem.W.Frag) (mg:Str→Option Value) (base:Heap):Prop where
 kin:K.In base
 glob:base.Ns mainGlobals mg
 blt:∃ mb,base.Ns builtinsNs mb∧∀ x:Str,x ≠ "__name__" → mb x=bootBuiltins x
 nolimit:base.NoLimit
structure Cx where
 prog:Program
 w:World
 K:PySem.W.Frag
 mg:Str→Option Value
 base:Heap
 A:Around
 N:List Str
 s₀:Shared
 H₀:Hp
 env:Env
 outer:List Env
 stack:List Env
 ex:List Addr
 fn:Str→Bool
 calm:Bool
 pn:List (Addr × Obj)
 xe:Value→Shared→Prop
noncomputable def frs (l:List Env):List Addr:=l.filterMap (·.frame)
noncomputable abbrev Cx.fs (X:Cx):List Addr:=frs X.outer
noncomputable def Vis (sc:Scope) (x:Str):Prop:=sc.names.lookup x=some .local∨sc.names.lookup x=some .cell∨sc.names.lookup x=some .free
noncomputable def Loc (sc:Scope) (x:Str):Prop:=sc.names.lookup x=some .local∨sc.names.lookup x=some .cell
noncomputable def wP (env:Env) (h:Heap) (m:Str→Option Value) (x:Str) (u:Value):Prop:=
 (env.kindOf x=some .local∧m x=some u)∨((env.kindOf x=some .cell∨env.kindOf x=some .free)∧∃ c,env.cells.lookup x=some c∧h.IsCell c (some u))
structure Cx.Ok (X:Cx):Prop where
 mod:Mod X.K X.mg X.base
 kind:X.env.scope.kind=.function
 glob:X.env.globals=mainGlobals
 blt:X.env.builtins=builtinsNs
 above:X.s₀.heap.objs.size ≤ X.env.locals
 inj:∀ x y c,X.env.cells.lookup x=some c→X.env.cells.lookup y=some c→x=y
 has:∀ x,(X.env.kindOf x=some .cell∨X.env.kindOf x=some .free)→∃ c,X.env.cells.lookup x=some c
 cab:∀ x c,X.fn x=true→X.env.cells.lookup x=some c→X.s₀.heap.objs.size ≤ c
 hd:X.calm=true→X.A.handled=none
 frames:X.A.frames=some X.stack
 stk:X.stack=X.outer∨(X.stack=X.env :: X.outer∧X.env.frame=some X.env.locals)
 exf:∀ b ∈ X.ex,b ≠ X.env.locals∧∀ x c,X.env.cells.lookup x=some c→c ≠ b
 bs:∀ b o,X.base.get? b=some o→X.s₀.heap.get? b=some o∧X.H₀ b=none
 bsz:X.base.objs.size ≤ X.s₀.heap.objs.size
 noex:∀ b o,X.base.get? b=some o→b ∉ X.ex
 exfs:∀ b ∈ X.ex,b ∉ X.fs
 funs:X.s₀.heap.FunFrames X.base X.outer
 frf:∀ b ∈ X.fs,X.H₀ b=none
structure Inv (X:Cx) (pins:List (Addr × Obj)) (σ:List (Option V)) (H:Hp) (s:Shared):Prop where
 ok:X.Ok
 os:s.os=X.s₀.os
 bare:AllBare s.gens
 base:Un X.fs X.ex X.H₀ H X.s₀.heap s.heap
 loc:∃ m,s.heap.Ns X.env.locals m∧∀ (i:Nat) (x:Str) (v:V),X.N[i]? = some x→σ[i]? = some (some v)→Vis X.env.scope x→∃ u,gd v u∧wP X.env s.heap m x u
 cell:∀ x c,X.env.cells.lookup x=some c→∃ v,s.heap.IsCell c v
 free:H X.env.locals=none
 freeC:∀ x c,X.env.cells.lookup x=some c→H c=none
 pin:∀ p ∈ X.pn ++ pins,s.heap.get? p.1=some p.2∧H p.1=none∧p.1 ≠ X.env.locals∧p.1 ∉ X.fs∧∀ v,p.2.data ≠ .cell v
 hok:HOk X.prog X.w H s.heap
 len:σ.length=X.N.length
section
variable {X:Cx} {pins:List (Addr × Obj)} {σ:List (Option V)} {H H':Hp} {s:Shared} {h':Heap}
theorem Cx.Ok.nofr (ok:X.Ok) {b:Addr} {o:Obj} (e:X.base.get? b=some o):b ∉ X.fs:=fun hb=>by
 have:=(ok.funs.mem hb).1;rw [e] at this;cases this
theorem Inv.bs (I:Inv X pins σ H s):∀ b o,X.base.get? b=some o→s.heap.get? b=some o∧H b=none:=fun b o e=>
 ⟨I.base.keep b o (I.ok.bs b o e).1 (I.ok.bs b o e).2 (I.ok.nofr e) (I.ok.noex b o e),I.base.free b o (I.ok.bs b o e).1 (I.ok.bs b o e).2 (I.ok.noex b o e)⟩
theorem Inv.bk (I:Inv X pins σ H s):∀ b o,X.base.get? b=some o→s.heap.get? b=some o:=fun b o e=>(I.bs b o e).1
theorem Inv.mod (I:Inv X pins σ H s):Mod X.K X.mg X.base:=I.ok.mod
theorem Inv.kIn (I:Inv X pins σ H s):X.K.In s.heap:=I.ok.mod.kin.keeps I.bk
theorem Inv.nolimit (I:Inv X pins σ H s):s.heap.NoLimit:=I.ok.mod.nolimit.keeps I.bk
theorem Inv.fr (I:Inv X pins σ H s):∃ m,Fr X.base X.env.locals s.heap m:=
 let ⟨m,hn,_⟩:=I.loc
 ⟨m,hn,I.bk,Nat.le_trans I.ok.bsz I.ok.above⟩
theorem Inv.lt (I:Inv X pins σ H s):X.env.locals < s.heap.objs.size:=let ⟨_,hn,_⟩:=I.loc;hn.lt
theorem Inv.sz (I:Inv X pins σ H s):X.s₀.heap.objs.size ≤ s.heap.objs.size:=Nat.le_trans I.ok.above (Nat.le_of_lt I.lt)
theorem Inv.nofs (I:Inv X pins σ H s) {a:Addr} (h:s.heap.objs.size ≤ a):a ∉ X.fs:=fun hb=>by
 obtain ⟨_,o,ho,_⟩:=I.ok.funs.mem hb;exact absurd (Nat.lt_of_lt_of_le (Heap.lt_size ho) (Nat.le_trans I.sz h)) (Nat.lt_irrefl _)
theorem Inv.cne (I:Inv X pins σ H s):∀ x c,X.env.cells.lookup x=some c→c ≠ X.env.locals:=fun x c e z=>by
 obtain ⟨v,o,ho,hd⟩:=I.cell x c e;obtain ⟨m,⟨o',es,ep,ho',hd',_⟩,_⟩:=I.loc;rw [z,ho'] at ho;cases ho;rw [hd'] at hd;cases hd
theorem Inv.funs (I:Inv X pins σ H s):s.heap.FunFrames X.base X.outer:=by
 have all:∀ (l:List Env),(∀ b ∈ frs l,b ∈ X.fs)→X.s₀.heap.FunFrames X.base l→s.heap.FunFrames X.base l:=by
  intro l
  induction l with
  | nil=>intro _ _;trivial
  | cons env r ih=>
   intro hs hl;obtain ⟨hk,⟨L,o,hf,hn,ho,hd⟩,hr⟩:=hl;have hL:L ∈ X.fs:=hs L (by unfold frs;rw [List.filterMap_cons,hf];exact List.mem_cons_self);obtain ⟨sl,e⟩:=I.base.slot L o ho (I.ok.frf L hL) hL fun z=>I.ok.exfs L z hL
   exact ⟨hk,⟨L,_,hf,hn,e,hd⟩,ih (fun b hb=>hs b (by unfold frs;rw [List.filterMap_cons,hf];exact List.mem_cons_of_mem _ hb)) hr⟩
 exact all X.outer (fun _ hb=>hb) I.ok.funs
theorem Inv.stack (I:Inv X pins σ H s):s.heap.FunFrames X.base X.stack:=by
 rcases I.ok.stk with e | ⟨e,hf⟩
 ·rw [e];exact I.funs
 ·rw [e];obtain ⟨m,hn,_⟩:=I.loc;refine .cons (by rw [I.ok.kind];decide) hf hn ?_ I.funs;exact Heap.get?_none_of_le (Nat.le_trans I.ok.bsz I.ok.above)
theorem Inv.stkSub (I:Inv X pins σ H s):∀ b ∈ frs X.stack,b ∈ X.env.locals :: X.fs:=fun b hb=>by
 rcases I.ok.stk with e | ⟨e,hf⟩
 ·rw [e] at hb;exact List.mem_cons_of_mem _ hb
 ·rw [e] at hb;unfold frs at hb;rw [List.filterMap_cons,hf] at hb;exact hb
theorem Inv.stkFree (I:Inv X pins σ H s):∀ b ∈ frs X.stack,H b=none:=fun b hb=>by
 rcases List.mem_cons.mp (I.stkSub b hb) with e | hb
 ·rw [e];exact I.free
 ·obtain ⟨_,o,ho,_⟩:=I.ok.funs.mem hb;exact I.base.free b o ho (I.ok.frf b hb) fun z=>I.ok.exfs b z hb
theorem Inv.step {g':Array GenState} {t':Nat} {d':Drawn} {ch:List Addr} (I:Inv X pins σ H s)
  (hch:∀ b ∈ ch,(b ∈ X.ex∨X.s₀.heap.objs.size ≤ b)∧b ≠ X.env.locals∧(∀ x c,X.env.cells.lookup x=some c→c ≠ b)∧∀ p ∈ X.pn ++ pins,p.1 ≠ b)
  (keep:∀ b o,b ≠ X.env.locals→b ∉ X.fs→b ∉ ch→s.heap.get? b=some o→H b=none→h'.get? b=some o)
  (slot:∀ b o,b ≠ X.env.locals→b ∈ X.fs→b ∉ ch→s.heap.get? b=some o→H b=none→∃ sl,h'.get? b=some { o with slots:=sl }) (free:∀ b o,b ∉ ch→s.heap.get? b=some o→H b=none→H' b=none)
  (there:∀ b o,b ∉ ch→s.heap.get? b=some o→∃ o',h'.get? b=some o')
  (tups:∀ b xs,H b=some (.tup xs)→H' b=some (.tup xs)) (frzs:∀ b o u,H b=some (.frz o u)→H' b=some (.frz o u)) (tbls:∀ b ps,H b=some (.tbl ps)→∃ more,H' b=some (.tbl (ps ++ more)))
  (ns:∀ m,s.heap.Ns X.env.locals m→h'.Ns X.env.locals m) (hok:HOk X.prog X.w H' h') (hg:AllBare g') :
  Inv X pins σ H' { s with heap:=h',gens:=g',drawn:=d',toks:=t' }:=by
 have neL:∀ b o,X.s₀.heap.get? b=some o→b ≠ X.env.locals:=fun b o e=>Nat.ne_of_lt (Nat.lt_of_lt_of_le (Heap.lt_size e) I.ok.above)
 have neC:∀ b o,X.s₀.heap.get? b=some o→b ∉ X.ex→b ∉ ch:=fun b o e hx hb=>by
  rcases (hch b hb).1 with z | z
  ·exact hx z
  ·exact absurd (Nat.lt_of_lt_of_le (Heap.lt_size e) z) (Nat.lt_irrefl _)
 have cellK:∀ x c,X.env.cells.lookup x=some c→∀ v,s.heap.IsCell c v→h'.IsCell c v:=fun x c e v ⟨o,ho,hd⟩=>by
  have nch:c ∉ ch:=fun z=>(hch c z).2.2.1 x c e rfl
  by_cases hc:c ∈ X.fs
  ·obtain ⟨sl,q⟩:=slot c o (I.cne x c e) hc nch ho (I.freeC x c e);exact ⟨_,q,hd⟩
  ·exact ⟨o,keep c o (I.cne x c e) hc nch ho (I.freeC x c e),hd⟩
 refine ⟨I.ok,I.os,hg,⟨fun b o e n hb hx=>?_,fun b o e n hb hx=>?_,fun b o e n hx=>?_,fun b o e hx=>?_,fun b xs e=>tups b xs (I.base.tups b xs e),fun b o xs e=>frzs b o xs (I.base.frzs b o xs e),fun b ps e=>?_⟩,?_,fun x c e=>?_,?_,fun x c e=>?_,fun p hp=>?_,hok,I.len⟩
 ·exact keep b o (neL b o e) hb (neC b o e hx) (I.base.keep b o e n hb hx) (I.base.free b o e n hx)
 ·obtain ⟨sl,e1⟩:=I.base.slot b o e n hb hx;obtain ⟨sl',e2⟩:=slot b _ (neL b o e) hb (neC b o e hx) e1 (I.base.free b o e n hx);exact ⟨sl',e2⟩
 ·obtain ⟨o',e1⟩:=I.base.there b o e hx;exact free b o' (neC b o e hx) e1 (I.base.free b o e n hx)
 ·obtain ⟨o',e1⟩:=I.base.there b o e hx;exact there b o' (neC b o e hx) e1
 ·obtain ⟨m1,e1⟩:=I.base.tbls b ps e;obtain ⟨m2,e2⟩:=tbls b _ e1;exact ⟨m1 ++ m2,by rw [e2,Array.append_assoc]⟩
 ·obtain ⟨m,hn,hl⟩:=I.loc;refine ⟨m,ns m hn,fun i x v e1 e2 e3=>?_⟩;obtain ⟨u,r,l⟩:=hl i x v e1 e2 e3;refine ⟨u,r,?_⟩;rcases l with l | ⟨k,c,e,z⟩
  ·exact .inl l
  ·exact .inr ⟨k,c,e,cellK x c e _ z⟩
 ·obtain ⟨v,z⟩:=I.cell x c e;exact ⟨v,cellK x c e v z⟩
 ·obtain ⟨m,⟨o,_,_,ho,_⟩,_⟩:=I.loc;exact free _ o (fun z=>(hch _ z).2.1 rfl) ho I.free
 ·obtain ⟨v,o,ho,hd⟩:=I.cell x c e;exact free c o (fun z=>(hch c z).2.2.1 x c e rfl) ho (I.freeC x c e)
 ·obtain ⟨e,n,ne,nf,d⟩:=I.pin p hp;have nch:p.1 ∉ ch:=fun z=>(hch p.1 z).2.2.2 p hp rfl
  exact ⟨keep p.1 p.2 ne nf nch e n,free p.1 p.2 nch e n,ne,nf,d⟩
theorem Inv.un {t':Nat} (I:Inv X pins σ H s) (u:Un X.fs [] H H' s.heap h') (hok:HOk X.prog X.w H' h'):Inv X pins σ H' { s with heap:=h',toks:=t' }:=by
 obtain ⟨m,⟨o,es,ep,ho,r⟩,_⟩:=id I.loc;obtain ⟨sl,hL⟩:=u.any ho I.free (by simp);exact I.step (g':=s.gens) (d':=s.drawn) (ch:=[]) (fun _ z=>nomatch z) (fun b o _ hb _ e n=>u.keep b o e n hb (by simp)) (fun b o _ hb _ e n=>u.slot b o e n hb (by simp)) (fun b o _ e n=>u.free b o e n (by simp)) (fun b o _ e=>u.there b o e (by simp)) u.tups u.frzs u.tbls (fun m' hm=>by
  obtain ⟨o',es',ep',ho',r'⟩:=hm;rw [ho] at ho';cases ho';exact ⟨_,es',ep',hL,r'⟩) hok I.bare
theorem Inv.call {g':Array GenState} {t':Nat} {d':Drawn} {ch:List Addr} (I:Inv X pins σ H s) (u:Un (frs X.stack) ch H H' s.heap h') (hok:HOk X.prog X.w H' h') (hg:AllBare g')
  (hch:∀ b ∈ ch,(b ∈ X.ex∨X.s₀.heap.objs.size ≤ b)∧b ≠ X.env.locals∧(∀ x c,X.env.cells.lookup x=some c→c ≠ b)∧∀ p ∈ X.pn ++ pins,p.1 ≠ b) :
  Inv X pins σ H' { s with heap:=h',gens:=g',drawn:=d',toks:=t' }:=by
 obtain ⟨m,⟨o,es,ep,ho,r⟩,_⟩:=id I.loc;obtain ⟨sl,hL⟩:=u.any ho I.free fun z=>(hch _ z).2.1 rfl
 exact I.step (ch:=ch) hch (fun b o hL hb hc e n=>u.keep b o e n (fun z=>(List.mem_cons.mp (I.stkSub b z)).elim hL hb) hc) (fun b o _ _ hc e n=>u.any e n hc) (fun b o hc e n=>u.free b o e n hc) (fun b o hc e=>u.there b o e hc) u.tups u.frzs u.tbls (fun m' hm=>by
  obtain ⟨o',es',ep',ho',r'⟩:=hm;rw [ho] at ho';cases ho';exact ⟨_,es',ep',hL,r'⟩) hok hg
theorem Inv.turned {t':Nat} {it:Addr} (I:Inv X pins σ H s) (k:∀ b o,b ≠ it→s.heap.get? b=some o→h'.get? b=some o) (hn:H it=none) (hL:it ≠ X.env.locals)
  (h1:it ∈ X.ex∨X.s₀.heap.objs.size ≤ it) (h2:∀ x c,X.env.cells.lookup x=some c→c ≠ it) (h3:∀ p ∈ X.pn ++ pins,p.1 ≠ it):Inv X pins σ H { s with heap:=h',toks:=t' }:=by
 have nit:∀ b u,H b=some u→b ≠ it:=fun b u e z=>by rw [z,hn] at e;cases e
 refine I.step (g':=s.gens) (d':=s.drawn) (ch:=[it]) (fun b hb=>?_) (fun b o _ _ hc e _=>k b o (fun z=>hc (by simp [z])) e) (fun b o _ _ hc e _=>⟨o.slots,k b o (fun z=>hc (by simp [z])) e⟩) (fun _ _ _ _ n=>n)
  (fun b o hc e=>⟨o,k b o (fun z=>hc (by simp [z])) e⟩) (fun _ _ e=>e) (fun _ _ _ e=>e) (fun b ps e=>⟨#[],by rw [e];simp⟩) (fun m hm=>?_) (fun b u e=>?_) I.bare
 ·have e:b=it:=by simpa using hb
  subst e;exact ⟨h1,hL,h2,h3⟩
 ·obtain ⟨o,es,ep,ho,r⟩:=hm;exact ⟨o,es,ep,k _ o (Ne.symm hL) ho,r⟩
 ·refine (I.hok b u e).stay (fun c v hc q=>k c v ?_ q) (fun _ q=>q) fun _ _ q=>q
  rcases hc with z | z
  ·rw [z];exact nit b u e
  ·exact nit c _ z
theorem Inv.tok (I:Inv X pins σ H s) (t:Nat):Inv X pins σ H { s with toks:=t }:=I.un (h':=s.heap) (t':=t) Un.refl I.hok
theorem Inv.kept {t':Nat} (I:Inv X pins σ H s) (k:∀ b u,s.heap.get? b=some u→h'.get? b=some u):Inv X pins σ H { s with heap:=h',toks:=t' }:=I.un (Un.kept k) (I.hok.kept k)
theorem Inv.laid {a:Addr} {o:HO} {t':Nat} (I:Inv X pins σ H s) (k:∀ b u,s.heap.get? b=some u→h'.get? b=some u) (hp:s.heap.objs.size ≤ a) (new:qd X.prog X.w (upd H a o) h' a o) :
  Inv X pins σ (upd H a o) { s with heap:=h',toks:=t' }:=I.un (Un.laid k hp (I.hok.fresh hp)) (I.hok.laid k hp new)
theorem Inv.write {x e:Addr} {o:HO} {t':Nat} (I:Inv X pins σ H s) (mu:Mut (H x)) (he:e=x∨H e=some (.own x)) (k:∀ b u,b ≠ e→s.heap.get? b=some u→h'.get? b=some u) (heo:∃ u,h'.get? e=some u)
  (new:qd X.prog X.w (upd H x o) h' x o):Inv X pins σ (upd H x o) { s with heap:=h',toks:=t' }:=I.un (Un.write mu he k heo) (I.hok.write mu he k heo new)
theorem Inv.weak {σ':List (Option V)} (I:Inv X pins σ H s) (hl:σ'.length=σ.length) (w:∀ (i:Nat) v,σ'[i]? = some (some v)→σ[i]? = some (some v)):Inv X pins σ' H s:=
 ⟨I.ok,I.os,I.bare,I.base,let ⟨m,hn,hl'⟩:=I.loc;⟨m,hn,fun i x v e1 e2 e3=>hl' i x v e1 (w i v e2) e3⟩,I.cell,I.free,I.freeC,I.pin,I.hok,hl.trans I.len⟩
theorem Inv.pins_of {pins':List (Addr × Obj)} (I:Inv X pins σ H s) (h:∀ p ∈ pins',s.heap.get? p.1=some p.2∧H p.1=none∧p.1 ≠ X.env.locals∧p.1 ∉ X.fs∧∀ v,p.2.data ≠ .cell v):Inv X pins' σ H s:=
 ⟨I.ok,I.os,I.bare,I.base,I.loc,I.cell,I.free,I.freeC,fun p hp=>(List.mem_append.mp hp).elim (fun z=>I.pin p (List.mem_append_left _ z)) (h p),I.hok,I.len⟩
theorem Fz {N:List Str} (hN:N.Nodup) {i j:Nat} {x:Str} (a:N[i]? = some x) (b:N[j]? = some x):i=j:=by
 obtain ⟨h1,e1⟩:=List.getElem?_eq_some_iff.mp a;obtain ⟨h2,e2⟩:=List.getElem?_eq_some_iff.mp b;exact (List.getElem_inj hN).mp (e1.trans e2.symm)
theorem Ow {M:Model} {A:Around} {E:Value→Shared→Prop} {i:Nat} {x:Str} {v:V} {u:Value} {Q:Unit→Shared→Prop} (I:Inv X pins σ H s) (hN:X.N.Nodup) (hi:X.N[i]? = some x) (hx:Loc X.env.scope x) (r:gd v u)
  (h:∀ s',Inv X pins (σ.set i (some v)) H s'→(∃ a,Heap.SameBut a s.heap s'.heap∧(a=X.env.locals∨X.env.cells.lookup x=some a))→Q () s') (hf:X.fn x=true∨X.env.scope.names.lookup x=some .local:=by first | exact .inl rfl | exact .inr rfl | assumption):wpAny M A (storeName X.env x u) Q E s:=by
 obtain ⟨m,hn,hl⟩:=id I.loc;have hcls:(X.env.scope.kind == .class || (X.env.scope.kind == .module && X.env.locals != X.env.globals))=false:=by rw [I.ok.kind];rfl
 have hiσ:i < σ.length:=by rw [I.len];exact (List.getElem?_eq_some_iff.mp hi).1
 have cne:=I.cne;have tracked:∀ {a:Addr} {h':Heap},(∃ o,s.heap.get? a=some o∧H a=none)→Heap.SameBut a s.heap h'→HOk X.prog X.w H h':=fun {a h'} ha hs b ob e=>by
  obtain ⟨_,_,hfree⟩:=ha;refine (I.hok b ob e).stay (fun c w' hc q=>(hs.2 c ?_).trans q) (fun _ q=>q) fun _ _ q=>q
  rintro rfl;rcases hc with rfl | hc
  ·rw [hfree] at e;cases e
  ·rw [hfree] at hc;cases hc
 rcases hx with hk | hk
 ·refine wpAny_storeName_local hk hn (fun h' hn' hs=>?_) hcls;obtain ⟨oL,_,_,hoL,_⟩:=id hn;refine h _ ⟨I.ok,I.os,I.bare,⟨fun b o e n hb hx=>?_,fun b o e n hb hx=>?_,I.base.free,fun b o e hx=>?_,I.base.tups,I.base.frzs,I.base.tbls⟩,⟨_,hn',fun j y v' e1 e2 e3=>?_⟩,fun y c e=>?_,I.free,I.freeC,fun p hp=>?_,tracked ⟨oL,hoL,I.free⟩ hs,by simpa using I.len⟩ ⟨_,hs,.inl rfl⟩
  ·exact (hs.2 b (Nat.ne_of_lt (Nat.lt_of_lt_of_le (Heap.lt_size e) I.ok.above))).trans (I.base.keep b o e n hb hx)
  ·obtain ⟨sl,e1⟩:=I.base.slot b o e n hb hx;exact ⟨sl,(hs.2 b (Nat.ne_of_lt (Nat.lt_of_lt_of_le (Heap.lt_size e) I.ok.above))).trans e1⟩
  ·obtain ⟨o',e1⟩:=I.base.there b o e hx;exact ⟨o',(hs.2 b (Nat.ne_of_lt (Nat.lt_of_lt_of_le (Heap.lt_size e) I.ok.above))).trans e1⟩
  ·by_cases hj:j=i
   ·subst hj;rw [hi] at e1;cases e1;rw [List.getElem?_set_self hiσ] at e2;cases e2;exact ⟨u,r,.inl ⟨hk,by simp⟩⟩
   ·rw [List.getElem?_set_ne (Ne.symm hj)] at e2;obtain ⟨u',r',q⟩:=hl j y v' e1 e2 e3;refine ⟨u',r',?_⟩;rcases q with ⟨k,e⟩ | ⟨k,c,e,z⟩
    ·refine .inl ⟨k,?_⟩;have:y ≠ x:=fun e=>hj (Fz hN e1 (e ▸ hi))
     simp [this,e]
    ·exact .inr ⟨k,c,e,z.sameBut hs (cne y c e)⟩
  ·obtain ⟨w',z⟩:=I.cell y c e;exact ⟨w',z.sameBut hs (cne y c e)⟩
  ·obtain ⟨e,n,ne,nf,d⟩:=I.pin p hp;exact ⟨(hs.2 p.1 ne).trans e,n,ne,nf,d⟩
 ·have hfn:X.fn x=true:=by
   rcases hf with z | z
   ·exact z
   ·rw [z] at hk;cases hk
  obtain ⟨c,hc⟩:=I.ok.has x (.inl hk);obtain ⟨w',z⟩:=I.cell x c hc;refine wpAny_storeName_cell I.ok.kind hk hc z (fun h' hc' hs=>?_);obtain ⟨oc,hoc,hocd⟩:=id z;refine h { s with heap:=h' } ⟨I.ok,I.os,I.bare,⟨fun b o e n hb hx=>?_,fun b o e n hb hx=>?_,I.base.free,fun b o e hx=>?_,I.base.tups,I.base.frzs,I.base.tbls⟩,⟨m,hn.sameBut hs (Ne.symm (cne x c hc)),fun j y v' e1 e2 e3=>?_⟩,fun y c' e=>?_,I.free,I.freeC,fun p hp=>?_,tracked ⟨oc,hoc,I.freeC x c hc⟩ hs,by simpa using I.len⟩ ⟨c,hs,.inr hc⟩
  ·exact (hs.2 b (Nat.ne_of_lt (Nat.lt_of_lt_of_le (Heap.lt_size e) (I.ok.cab x c hfn hc)))).trans (I.base.keep b o e n hb hx)
  ·obtain ⟨sl,e1⟩:=I.base.slot b o e n hb hx;exact ⟨sl,(hs.2 b (Nat.ne_of_lt (Nat.lt_of_lt_of_le (Heap.lt_size e) (I.ok.cab x c hfn hc)))).trans e1⟩
  ·obtain ⟨o',e1⟩:=I.base.there b o e hx;exact ⟨o',(hs.2 b (Nat.ne_of_lt (Nat.lt_of_lt_of_le (Heap.lt_size e) (I.ok.cab x c hfn hc)))).trans e1⟩
  ·by_cases hj:j=i
   ·subst hj;rw [hi] at e1;cases e1;rw [List.getElem?_set_self hiσ] at e2;cases e2;exact ⟨u,r,.inr ⟨.inl hk,c,hc,hc'⟩⟩
   ·rw [List.getElem?_set_ne (Ne.symm hj)] at e2;obtain ⟨u',r',q⟩:=hl j y v' e1 e2 e3;refine ⟨u',r',?_⟩;rcases q with q | ⟨k,c',e,z'⟩
    ·exact .inl q
    ·refine .inr ⟨k,c',e,z'.sameBut hs ?_⟩;rintro rfl;exact hj (Fz hN e1 (I.ok.inj _ _ _ e hc ▸ hi))
  ·by_cases hcc:c'=c
   ·subst hcc;exact ⟨_,hc'⟩
   ·obtain ⟨w2,z2⟩:=I.cell y c' e;exact ⟨w2,z2.sameBut hs hcc⟩
  ·obtain ⟨e,n,ne,nf,d⟩:=I.pin p hp;refine ⟨(hs.2 p.1 ?_).trans e,n,ne,nf,d⟩;intro q;rw [q,hoc] at e;have q':oc=p.2:=Option.some.inj e;exact d w' (by rw [← q'];exact hocd)
theorem Xu {M:Model} {A:Around} {E:Value→Shared→Prop} {i:Nat} {x:Str} {v:V} {u:Value} {Q:Unit→Shared→Prop} (I:Inv X pins σ H s) (hN:X.N.Nodup) (hi:X.N[i]? = some x) (hx:Loc X.env.scope x) (r:gd v u)
  (h:∀ s',Inv X pins (σ.set i (some v)) H s'→Q () s') (hf:X.fn x=true∨X.env.scope.names.lookup x=some .local:=by first | exact .inl rfl | exact .inr rfl | assumption):wpAny M A (storeName X.env x u) Q E s:=
 Ow I hN hi hx r (fun s' I' _=>h s' I') hf
theorem Inv.call' {s':Shared} {ch:List Addr} (I:Inv X pins σ H s) (ho:s'.os=s.os) (u:Un (frs X.stack) ch H H' s.heap s'.heap) (hok:HOk X.prog X.w H' s'.heap) (hg:AllBare s'.gens)
  (hch:∀ b ∈ ch,(b ∈ X.ex∨X.s₀.heap.objs.size ≤ b)∧b ≠ X.env.locals∧(∀ x c,X.env.cells.lookup x=some c→c ≠ b)∧∀ p ∈ X.pn ++ pins,p.1 ≠ b):Inv X pins σ H' s':=by
 obtain ⟨h',g',d',t',o'⟩:=s';have e:o'=s.os:=ho;subst e;exact I.call (g':=g') (t':=t') (d':=d') u hok hg hch
end
noncomputable abbrev XK:=Value→Option Addr→Hp→Prop
noncomputable abbrev St:=List (Option V)
noncomputable abbrev VK:=V→Hp→Prop
noncomputable abbrev TE:=St→Hp→VK→Prop
noncomputable abbrev TT:=St→Hp→(Bool→Hp→Prop)→Prop
noncomputable abbrev TA:=St→Hp→(List V→Hp→Prop)→Prop
structure nj where
 nx:St→Hp→Prop
 rt:VK
 bk:St→Hp→Prop:=fun _ _=>False
 ct:St→Hp→Prop:=fun _ _=>False
noncomputable abbrev TS:=nj→St→Hp→Prop
noncomputable def EP (X:Cx) (pins:List (Addr × Obj)) (σ:St) (Q:VK) (u:Value) (s':Shared):Prop:=∃ v H',Inv X pins σ H' s'∧gd v u∧Q v H'
noncomputable def TP (X:Cx) (pins:List (Addr × Obj)) (σ:St) (Q:Bool→Hp→Prop) (b:Bool) (s':Shared):Prop:=∃ H',Inv X pins σ H' s'∧Q b H'
noncomputable def AP (X:Cx) (pins:List (Addr × Obj)) (σ:St) (Q:List V→Hp→Prop) (us:List Value) (s':Shared):Prop:=∃ vs H',Inv X pins σ H' s'∧Uc vs us∧Q vs H'
noncomputable def SP (X:Cx) (pins:List (Addr × Obj)) (D:nj) (f:Flow) (s':Shared):Prop:=
 match f with
 | .next=>∃ σ' H',Inv X pins σ' H' s'∧D.nx σ' H'
 | .brk=>∃ σ' H',Inv X pins σ' H' s'∧D.bk σ' H'
 | .cont=>∃ σ' H',Inv X pins σ' H' s'∧D.ct σ' H'
 | .ret u=>∃ v σ' H',Inv X pins σ' H' s'∧gd v u∧D.rt v H'
noncomputable def PE (X:Cx) (e:Expr) (t:TE):Prop:=
 ∀ (pins:List (Addr × Obj)) (s:Shared) (σ:St) (H:Hp) (Q:VK),Inv X pins σ H s→t σ H Q→wpAny (model X.prog X.w) X.A (eval e X.env) (EP X pins σ Q) X.xe s
noncomputable def PT (X:Cx) (e:Expr) (t:TT):Prop:=
 ∀ (pins:List (Addr × Obj)) (s:Shared) (σ:St) (H:Hp) (Q:Bool→Hp→Prop),Inv X pins σ H s→t σ H Q→wpAny (model X.prog X.w) X.A (isTrue e X.env (eval e X.env)) (TP X pins σ Q) X.xe s
noncomputable def PW (X:Cx) (e:Expr) (t:TT):Prop:=
 ∀ (whole:Sem Value) (pins:List (Addr × Obj)) (s:Shared) (σ:St) (H:Hp) (Q:Bool→Hp→Prop),Inv X pins σ H s→t σ H Q→wpAny (model X.prog X.w) X.A (isTrue e X.env whole) (TP X pins σ Q) X.xe s
theorem PW.pt {X:Cx} {e:Expr} {t:TT} (h:PW X e t):PT X e t:=h _
noncomputable def PA (X:Cx) (es:List Expr) (t:TA):Prop:=
 ∀ (pos:Pos) (pins:List (Addr × Obj)) (s:Shared) (σ:St) (H:Hp) (Q:List V→Hp→Prop),Inv X pins σ H s→t σ H Q→wpAny (model X.prog X.w) X.A (spliced (backTo pos (starEach es X.env))) (AP X pins σ Q) X.xe s
noncomputable def PS (X:Cx) (st:Stmt) (t:TS):Prop:=
 ∀ (pins:List (Addr × Obj)) (s:Shared) (σ:St) (H:Hp) (D:nj),Inv X pins σ H s→t D σ H→wpAny (model X.prog X.w) X.A (exec st X.env) (SP X pins D) X.xe s
noncomputable def PSs (X:Cx) (st:List Stmt) (t:TS):Prop:=
 ∀ (pins:List (Addr × Obj)) (s:Shared) (σ:St) (H:Hp) (D:nj),Inv X pins σ H s→t D σ H→wpAny (model X.prog X.w) X.A (execs st X.env) (SP X pins D) X.xe s
theorem thn {α:Type} {t:Sem α} {Q Q':α→Shared→Prop} {M:Model} {A:Around} {E:Value→Shared→Prop} {s:Shared} (h:wpAny M A t Q E s) (hQ:∀ a s,Q a s→Q' a s):wpAny M A t Q' E s:=wpAny_mono h hQ fun _ _ x=>x
end L2
namespace L2
open PySem PySem.Spec PyProof.Rows
section
variable {X:Cx}
noncomputable def iJ (H:Hp) (Q:VK):Option (Option V)→Prop
 | some (some v)=>Q v H
 | _=>False
theorem Kx (H:Hp) (Q:VK) (v:V):iJ H Q (some (some v))=Q v H:=rfl
theorem iJ.out {H:Hp} {Q:VK}:∀ {o:Option (Option V)},iJ H Q o→∃ v,o=some (some v)∧Q v H
 | some (some v),h=>⟨v,rfl,h⟩
 | some none,h=>h.elim
 | none,h=>h.elim
theorem YK (H:Hp) (Q:VK) (o:Option (Option V)):iJ H Q o = ∃ v,o=some (some v)∧Q v H:=propext ⟨iJ.out,fun ⟨_,e,h⟩=>e ▸ h⟩
noncomputable def mj (x:V) (k:Int→Prop):Prop:=match x with
 | .int i=>k i
 | _=>False
theorem tz (i:Int) (k:Int→Prop):mj (.int i) k=k i:=rfl
theorem mj.out {x:V} {k:Int→Prop} (h:mj x k):∃ i,x=.int i∧k i:=by
 cases x with
 | int i=>exact ⟨i,rfl,h⟩
 | _=>exact h.elim
theorem GK (x:V) (k:Int→Prop):mj x k = ∃ i,x=.int i∧k i:=propext ⟨mj.out,fun ⟨_,e,h⟩=>e ▸ h⟩
noncomputable def BlQ (x:V) (k:Bool→Prop):Prop:=match x with
 | .bl i=>k i
 | _=>False
theorem aJ (i:Bool) (k:Bool→Prop):BlQ (.bl i) k=k i:=rfl
theorem BlQ.out {x:V} {k:Bool→Prop} (h:BlQ x k):∃ i,x=.bl i∧k i:=by
 cases x with
 | bl i=>exact ⟨i,rfl,h⟩
 | _=>exact h.elim
theorem lM (x:V) (k:Bool→Prop):BlQ x k = ∃ i,x=.bl i∧k i:=propext ⟨BlQ.out,fun ⟨_,e,h⟩=>e ▸ h⟩
noncomputable def yh (x:V) (k:Addr→Prop):Prop:=match x with
 | .ref i=>k i
 | _=>False
theorem kA (i:Addr) (k:Addr→Prop):yh (.ref i) k=k i:=rfl
theorem yh.out {x:V} {k:Addr→Prop} (h:yh x k):∃ i,x=.ref i∧k i:=by
 cases x with
 | ref i=>exact ⟨i,rfl,h⟩
 | _=>exact h.elim
theorem KJ (x:V) (k:Addr→Prop):yh x k = ∃ i,x=.ref i∧k i:=propext ⟨yh.out,fun ⟨_,e,h⟩=>e ▸ h⟩
noncomputable def GB (xs:List V) (k:V→Prop):Prop:=match xs with
 | [y]=>k y
 | _=>False
theorem yA (y:V) (k:V→Prop):GB [y] k=k y:=rfl
theorem GB.out:∀ {xs:List V} {k:V→Prop},GB xs k→∃ y,xs=[y]∧k y
 | [y],_,h=>⟨y,rfl,h⟩
 | [],_,h=>h.elim
 | _ :: _ :: _,_,h=>h.elim
theorem oK (xs:List V) (k:V→Prop):GB xs k = ∃ y,xs=[y]∧k y:=propext ⟨GB.out,fun ⟨_,e,h⟩=>e ▸ h⟩
noncomputable def VN (i:Nat):TE:=fun σ H Q=>iJ H Q σ[i]?
noncomputable def tC (v:V):TE:=fun _ H Q=>Q v H
theorem PM {i:Nat} {x:Str} {pos:Pos} (hN:X.N[i]? = some x) (hv:Vis X.env.scope x) (hd:(x == ("__debug__" : Str))=false:=by decide) (hcd:(x == ("__classdict__" : Str))=false:=by decide):PE X (.Name x pos) (VN i):=by
 intro pins s σ H Q I h;obtain ⟨v,e,h⟩:=iJ.out h;obtain ⟨m,hn,hl⟩:=I.loc;obtain ⟨u,r,l⟩:=hl i x v hN e hv;have fin:EP X pins σ Q u s:=⟨v,H,I,r,h⟩;rcases l with ⟨hk,hm⟩ | ⟨hk,c,hc,hcell⟩
 ·exact wpAny_Name (wpAny_loadName_local I.ok.kind hk hn hm fin) hd
 ·rcases hk with hk | hk
  ·exact wpAny_Name (wpAny_loadName_cell I.ok.kind hk hc hcell fin) hd
  ·exact wpAny_Name (wpAny_loadName_free I.ok.kind hk hc hcell fin hcd) hd
theorem jb {i j pos}:PE X (.Constant (.int i) j pos) (tC (.int i)):=fun _ _ _ H _ I h=>wpAny_Constant_int ⟨.int i,H,I.tok _,⟨_,rfl⟩,h⟩
theorem Do {b j pos}:PE X (.Constant (.bool b) j pos) (tC (.bl b)):=fun _ _ _ H _ I h=>Constant_bool ⟨.bl b,H,I,rfl,h⟩
theorem qt {j pos}:PE X (.Constant .none j pos) (tC .non):=fun _ _ _ H _ I h=>Constant_none ⟨.non,H,I,rfl,h⟩
theorem Cc {x j pos}:PE X (.Constant (.str x) j pos) (tC (.str x)):=fun _ _ _ H _ I h=>Calls.Constant_str ⟨.str x,H,I.tok _,⟨_,rfl⟩,h⟩
noncomputable def Gl (X:Cx) (x:Str):Prop:=X.env.kindOf x=some .globalImplicit
theorem Vu {E:Value→Shared→Prop} {pins:List (Addr × Obj)} {s:Shared} {σ:St} {H:Hp} {x:Str} {u:Value} {pos:Pos} {Q:Value→Shared→Prop} (I:Inv X pins σ H s) (hg:Gl X x) (hm:X.mg x=some u) (h:Q u s)
  (hd:(x == ("__debug__" : Str))=false:=by decide):wpAny (model X.prog X.w) X.A (eval (.Name x pos) X.env) Q E s:=
 Calls.Name_function_global I.ok.kind hg (Calls.loadGlobal_global (by rw [I.ok.glob];exact I.mod.glob.keeps I.bk) hm h) hd
theorem yj {E:Value→Shared→Prop} {pins:List (Addr × Obj)} {s:Shared} {σ:St} {H:Hp} {x:Str} {u:Value} {pos:Pos} {Q:Value→Shared→Prop} (I:Inv X pins σ H s) (hg:Gl X x) (hm:X.mg x=none) (hv:bootBuiltins x=some u) (h:Q u s)
  (hn:x ≠ "__name__" := by decide) (hd:(x == ("__debug__" : Str))=false:=by decide):wpAny (model X.prog X.w) X.A (eval (.Name x pos) X.env) Q E s:=by
 obtain ⟨mb,h1,h2⟩:=I.mod.blt;exact Calls.Name_function_global I.ok.kind hg (Calls.loadGlobal_builtin (by rw [I.ok.glob];exact I.mod.glob.keeps I.bk) hm (by rw [I.ok.blt];exact h1.keeps I.bk) ((h2 x hn).trans hv) h) hd
theorem Uh {x:Str} {v:V} {u:Value} {pos:Pos} (hg:Gl X x) (hm:X.mg x=some u) (r:gd v u) (hd:(x == ("__debug__" : Str))=false:=by decide):PE X (.Name x pos) (tC v):=
 fun _ _ _ H _ I h=>Vu I hg hm ⟨v,H,I,r,h⟩ hd
theorem Wx {x:Str} {v:V} {u:Value} {pos:Pos} (hg:Gl X x) (hm:X.mg x=none) (hv:bootBuiltins x=some u) (r:gd v u) (hn:x ≠ "__name__" := by decide) (hd:(x == ("__debug__" : Str))=false:=by decide):PE X (.Name x pos) (tC v):=
 fun _ _ _ H _ I h=>yj I hg hm hv ⟨v,H,I,r,h⟩ hn hd
variable {a b:Expr} {ta tb:TE} {pos:Pos}
noncomputable def PC (X:Cx) (op:CmpOp) (a b:Expr) (t:TE):Prop:=
 ∀ (pins:List (Addr × Obj)) (s:Shared) (σ:St) (H:Hp) (Q:VK),Inv X pins σ H s→t σ H Q →
  wpAny (model X.prog X.w) X.A (eval a X.env) (fun v s₁=>wpAny (model X.prog X.w) X.A (eval b X.env) (fun u s₂=>wpAny (model X.prog X.w) X.A (compareOp op v u) (EP X pins σ Q) X.xe s₂) X.xe s₁) X.xe s
theorem EG (b:Expr) {op:CmpOp} (h:op ≠ .In) (h2:op ≠ .NotIn):behindInMarks op b=false:=by
 have e1:(op == CmpOp.In)=false:=by cases op <;> first | rfl | exact absurd rfl h
 have e2:(op == CmpOp.NotIn)=false:=by cases op <;> first | rfl | exact absurd rfl h2
 cases b <;> simp [behindInMarks,e1,e2]
noncomputable def tB (t:TE):TT:=fun σ H Q=>t σ H fun x H1=>BlQ x fun c=>Q c H1
theorem OM {op:CmpOp} {t:TE} (h:PC X op a b t) (h1:behindInMarks op b=false:=by first | exact EG _ (by decide) (by decide) | rfl):PT X (.Compare a [op] [b] pos) (tB t):=by
 intro pins s σ H Q I hw;refine wpAny_isTrue_Compare1 (thn (h pins s σ H _ I hw) fun v s1 h1=>thn h1 fun u s2 h2=>thn h2 fun c s3 hZ1=>?_) h1;obtain ⟨x,H1,I1,r1,q1⟩:=hZ1;obtain ⟨d,rfl,q⟩:=BlQ.out q1;cases r1;exact wpAny_truthy_bool ⟨H1,I1,q⟩
theorem bh {e:Expr} {t:TE} (h:PE X e t) (he:∀ whole,isTrue e X.env whole=(do let v ← whole;standAt e.pos;holding [v] (truthy v)):=by intro _;rfl):PT X e (tB t):=by
 intro pins s σ H Q I hw;refine isTrue_plain (thn (h pins s σ H _ I hw) fun v s1 hZ1=>?_) (he _);obtain ⟨x,H1,I1,r1,q1⟩:=hZ1;obtain ⟨d,rfl,q⟩:=BlQ.out q1;cases r1;exact wpAny_truthy_bool ⟨H1,I1,q⟩
variable {tA tB':TT} {yy:List Expr}
noncomputable def qO (t u:TT):TT:=fun σ H Q=>t σ H fun c H1=>if c=true then u σ H1 Q else Q false H1
noncomputable def tOr (t u:TT):TT:=fun σ H Q=>t σ H fun c H1=>if c=true then Q true H1 else u σ H1 Q
noncomputable def rO (t:TT):TT:=fun σ H Q=>t σ H fun c H1=>Q (!c) H1
theorem Qp (ha:PT X a tA):PW X (.BoolOp .And [a] pos) tA:=by
 intro wh pins s σ H Q I h;refine isTrue_and (thn (ha pins s σ H Q I h) fun c s1 e=>?_);cases c with
 | true=>exact isTrue_and_nil e
 | false=>exact e
theorem io (ha:PT X a tA):PW X (.BoolOp .Or [a] pos) tA:=by
 intro wh pins s σ H Q I h;refine isTrue_or (thn (ha pins s σ H Q I h) fun c s1 e=>?_);cases c with
 | false=>exact isTrue_or_nil e
 | true=>exact e
theorem tw (ha:PT X a tA) (hb:PW X (.BoolOp .And (b :: yy) pos) tB'):PW X (.BoolOp .And (a :: b :: yy) pos) (qO tA tB'):=by
 intro wh pins s σ H Q I h;refine isTrue_and (thn (ha pins s σ H _ I h) fun c s1 hZ1=>?_);obtain ⟨H1,I1,q1⟩:=hZ1;cases c with
 | true=>exact hb wh pins s1 σ H1 Q I1 q1
 | false=>exact ⟨H1,I1,q1⟩
theorem mw (ha:PT X a tA) (hb:PW X (.BoolOp .Or (b :: yy) pos) tB'):PW X (.BoolOp .Or (a :: b :: yy) pos) (tOr tA tB'):=by
 intro wh pins s σ H Q I h;refine isTrue_or (thn (ha pins s σ H _ I h) fun c s1 hZ1=>?_);obtain ⟨H1,I1,q1⟩:=hZ1;cases c with
 | true=>exact ⟨H1,I1,q1⟩
 | false=>exact hb wh pins s1 σ H1 Q I1 q1
theorem Wn (ha:PT X a tA):PT X (.UnaryOp .Not a pos) (rO tA):=by
 intro pins s σ H Q I h;exact isTrue_not (ha pins s σ H (fun c H1=>Q (!c) H1) I h)
noncomputable def QM (ta tb:TE):TE:=fun σ H Q=>ta σ H fun x H1=>BlQ x fun c=>if c=true then tb σ H1 Q else Q (.bl false) H1
noncomputable def NO (ta tb:TE):TE:=fun σ H Q=>ta σ H fun x H1=>BlQ x fun c=>if c=true then Q (.bl true) H1 else tb σ H1 Q
theorem xw {op} {t:TE} (h:PE X a t):PE X (.BoolOp op [a] pos) t:=fun pins s σ H Q I hw=>BoolOp_one (h pins s σ H Q I hw)
theorem rE (ha:PE X a ta) (hb:PE X (.BoolOp .And (b :: yy) pos) tb):PE X (.BoolOp .And (a :: b :: yy) pos) (QM ta tb):=by
 intro pins s σ H Q I h;refine BoolOp_and (thn (ha pins s σ H _ I h) fun v s1 hZ1=>?_);obtain ⟨x,H1,I1,r1,q1⟩:=hZ1;obtain ⟨c,rfl,zq⟩:=BlQ.out q1;cases r1;refine wpAny_truthy_bool ?_;cases c with
 | true=>exact hb pins s1 σ H1 Q I1 zq
 | false=>exact ⟨.bl false,H1,I1,rfl,zq⟩
theorem mN (ha:PE X a ta) (hb:PE X (.BoolOp .Or (b :: yy) pos) tb):PE X (.BoolOp .Or (a :: b :: yy) pos) (NO ta tb):=by
 intro pins s σ H Q I h;refine BoolOp_or (thn (ha pins s σ H _ I h) fun v s1 hZ1=>?_);obtain ⟨x,H1,I1,r1,q1⟩:=hZ1;obtain ⟨c,rfl,zq⟩:=BlQ.out q1;cases r1;refine wpAny_truthy_bool ?_;cases c with
 | false=>exact hb pins s1 σ H1 Q I1 zq
 | true=>exact ⟨.bl true,H1,I1,rfl,zq⟩
noncomputable def tIf (t:TT) (ta tb:TE):TE:=fun σ H Q=>t σ H fun c H1=>if c=true then ta σ H1 Q else tb σ H1 Q
theorem Iv {c:Expr} (hc:PT X c tA) (ha:PE X a ta) (hb:PE X b tb):PE X (.IfExp c a b pos) (tIf tA ta tb):=by
 intro pins s σ H Q I h;refine wpAny_IfExp (thn (hc pins s σ H _ I h) fun d s1 hZ1=>?_);obtain ⟨H1,I1,q1⟩:=hZ1;cases d with
 | true=>exact ha pins s1 σ H1 Q I1 q1
 | false=>exact hb pins s1 σ H1 Q I1 q1
end
end L2
namespace L2
open PySem PySem.Spec PyProof.Rows
noncomputable def SqL (K:PySem.W.Frag) (H:Hp) (a:Addr) (xs:List V):Prop:=
 Rd H a (.lst xs) ∨
  ∃ (o:Obj) (its:Array Value) (n:Nat),K.lookup a=some o∧o.cls=.type "list" ∧ o.dict=none∧o.data=.seq its n∧its.size ≤ sizeLine∧Uc xs its.toList
noncomputable def SqT (K:PySem.W.Frag) (H:Hp) (a:Addr) (xs:List V):Prop:=
 Rd H a (.tup xs) ∨
  ∃ (o:Obj) (its:Array Value) (n:Nat),K.lookup a=some o∧o.cls=.type "tuple" ∧ o.data=.seq its n∧its.size ≤ sizeLine∧Uc xs its.toList
noncomputable def GP:Value→Option V
 | .none=>some .non
 | .bool b=>some (.bl b)
 | .int i _=>some (.int i)
 | .str x _=>some (.str x)
 | .bytes b _=>some (.byt b)
 | .float b _=>some (.flt b)
 | .ref a=>some (.ref a)
 | .type n=>some (.ty n)
 | _=>none
theorem gd.abs {x:V} {u:Value} (r:gd x u):GP u=some x:=by
 cases x with
 | non=>cases r;rfl
 | bl _=>cases r;rfl
 | int _=>obtain ⟨t,rfl⟩:=r;rfl
 | str _=>obtain ⟨t,rfl⟩:=r;rfl
 | byt _=>obtain ⟨t,rfl⟩:=r;rfl
 | flt _=>obtain ⟨t,rfl⟩:=r;rfl
 | ref _=>cases r;rfl
 | ty _=>cases r;rfl
theorem gd.inj {x y:V} {u:Value} (r:gd x u) (q:gd y u):x=y:=Option.some.inj (r.abs.symm.trans q.abs)
theorem Uc.inj:∀ {xs ys:List V} {us:List Value},Uc xs us→Uc ys us→xs=ys
 | _,_,_,.nil,.nil=>rfl
 | _,_,_,.cons r t,.cons r' t'=>by rw [r.inj r',Uc.inj t t']
section
variable {X:Cx} {pins:List (Addr × Obj)} {σ:St} {H:Hp} {s:Shared} {a:Addr} {xs ys:List V}
theorem SqL.of {K:PySem.W.Frag} (h:H a=some (.lst xs)):SqL K H a xs:=.inl (.inl h)
theorem SqT.of {K:PySem.W.Frag} (h:H a=some (.tup xs)):SqT K H a xs:=.inl (.inl h)
theorem Inv.list (I:Inv X pins σ H s) (h:SqL X.K H a xs):∃ its:List Value,Uc xs its∧PlainL s.heap a its.toArray∧xs.length ≤ sizeLine:=by
 rcases h with h | ⟨o,its,n,hk,hc,hd,hs,hz,r⟩
 ·obtain ⟨z,its,n,r,e⟩:=h.ok I.hok;exact ⟨its,r,⟨_,n,e,rfl,rfl,rfl⟩,z⟩
 ·refine ⟨its.toList,r,⟨o,n,I.kIn a o hk,hc,hd,by simpa using hs⟩,?_⟩;have e:=r.length;simp only [Array.length_toList] at e;omega
theorem Inv.tuple (I:Inv X pins σ H s) (h:SqT X.K H a xs):∃ its:List Value,Uc xs its∧IsTup s.heap a its.toArray∧xs.length ≤ sizeLine:=by
 rcases h with h | ⟨o,its,n,hk,hc,hs,hz,r⟩
 ·obtain ⟨z,its,r,p⟩:=h.ok I.hok;exact ⟨its,r,p,z.1⟩
 ·refine ⟨its.toList,r,⟨o,I.kIn a o hk,hc,n,by simpa using hs⟩,?_⟩;have e:=r.length;simp only [Array.length_toList] at e;omega
theorem Inv.list_inj (I:Inv X pins σ H s) (h:SqL X.K H a xs) (h':SqL X.K H a ys):xs=ys:=by
 obtain ⟨its,r,⟨o,n,e,_,_,d⟩,_⟩:=I.list h;obtain ⟨its',r',⟨o',n',e',_,_,d'⟩,_⟩:=I.list h';rw [e] at e';cases e';rw [d] at d';injection d' with d1 _;have:its=its':=by simpa using congrArg Array.toList d1
 subst this;exact r.inj r'
theorem Inv.tuple_inj (I:Inv X pins σ H s) (h:SqT X.K H a xs) (h':SqT X.K H a ys):xs=ys:=by
 obtain ⟨its,r,⟨o,e,_,n,d⟩,_⟩:=I.tuple h;obtain ⟨its',r',⟨o',e',_,n',d'⟩,_⟩:=I.tuple h';rw [e] at e';cases e';rw [d] at d';injection d' with d1 _;have:its=its':=by simpa using congrArg Array.toList d1
 subst this;exact r.inj r'
end
noncomputable abbrev Cx.wish (X:Cx) (E:Value→Shared→Prop):Cx:={ X with xe:=E }
noncomputable abbrev Cx.nox (X:Cx):Cx:=X.wish fun _ _=>False
theorem Cx.Ok.wish {X:Cx} (ok:X.Ok) (E:Value→Shared→Prop):(X.wish E).Ok:=
 ⟨ok.mod,ok.kind,ok.glob,ok.blt,ok.above,ok.inj,ok.has,ok.cab,ok.hd,ok.frames,ok.stk,ok.exf,ok.bs,ok.bsz,ok.noex,ok.exfs,ok.funs,ok.frf⟩
theorem Cx.Ok.unwish {X:Cx} {E:Value→Shared→Prop} (ok:(X.wish E).Ok):X.Ok:=
 ⟨ok.mod,ok.kind,ok.glob,ok.blt,ok.above,ok.inj,ok.has,ok.cab,ok.hd,ok.frames,ok.stk,ok.exf,ok.bs,ok.bsz,ok.noex,ok.exfs,ok.funs,ok.frf⟩
section
variable {X:Cx} {pins:List (Addr × Obj)} {σ:St} {H:Hp} {s:Shared} {E:Value→Shared→Prop}
theorem Inv.wish (I:Inv X pins σ H s) (E:Value→Shared→Prop):Inv (X.wish E) pins σ H s:=⟨I.ok.wish E,I.os,I.bare,I.base,I.loc,I.cell,I.free,I.freeC,I.pin,I.hok,I.len⟩
theorem Inv.unwish (I:Inv (X.wish E) pins σ H s):Inv X pins σ H s:=⟨I.ok.unwish,I.os,I.bare,I.base,I.loc,I.cell,I.free,I.freeC,I.pin,I.hok,I.len⟩
theorem SP.unwish {D:nj} {f:Flow} {s':Shared} (h:SP (X.wish E) pins D f s'):SP X pins D f s':=by
 cases f with
 | next=>obtain ⟨σ',H',I,q⟩:=h;exact ⟨σ',H',I.unwish,q⟩
 | brk=>obtain ⟨σ',H',I,q⟩:=h;exact ⟨σ',H',I.unwish,q⟩
 | cont=>obtain ⟨σ',H',I,q⟩:=h;exact ⟨σ',H',I.unwish,q⟩
 | ret u=>obtain ⟨v,σ',H',I,r,q⟩:=h;exact ⟨v,σ',H',I.unwish,r,q⟩
theorem PE.nox {e:Expr} {t:TE} (h:PE X.nox e t):PE X e t:=fun pins s σ H Q I hw=>
 wpAny_mono (h pins s σ H Q (I.wish _) hw) (fun _ _ ⟨v,H',I',r,q⟩=>⟨v,H',I'.unwish,r,q⟩) fun _ _ z=>False.elim z
theorem PT.nox {e:Expr} {t:TT} (h:PT X.nox e t):PT X e t:=fun pins s σ H Q I hw=>
 wpAny_mono (h pins s σ H Q (I.wish _) hw) (fun _ _ ⟨H',I',q⟩=>⟨H',I'.unwish,q⟩) fun _ _ z=>False.elim z
theorem PSs.nox {st:List Stmt} {t:TS} (h:PSs X.nox st t):PSs X st t:=fun pins s σ H D I hw=>
 wpAny_mono (h pins s σ H D (I.wish _) hw) (fun _ _ q=>q.unwish) fun _ _ z=>False.elim z
end
section
variable {X:Cx} {st:Stmt} {yy:List Stmt} {t u:TS} {e:Expr} {te:TE} {pos:Pos}
noncomputable def wM:TS:=fun D σ H=>D.nx σ H
noncomputable def hz0:Nat:=0
noncomputable def hz1:Nat:=hz0
noncomputable def hz2:Nat:=hz1
noncomputable def hz3:Nat:=hz2
noncomputable def hz4:Nat:=hz3
noncomputable def hz5:Nat:=hz4
noncomputable def hz6:Nat:=hz5
noncomputable def hz7:Nat:=hz6
noncomputable def hz8:Nat:=hz7
noncomputable def hz9:Nat:=hz8
noncomputable def yP:Nat:=hz9
noncomputable def zP:Nat:=yP
noncomputable def vP:Nat:=zP
noncomputable def kP (t u:TS):TS:=fun D σ H=>(fun _:Nat=>t { D with nx:=u D } σ H) vP
theorem Xb:PSs X [] wM:=fun _ _ σ H _ I h=>wpAny_execs_nil ⟨σ,H,I,h⟩
theorem bb (h1:PS X st t) (h2:PSs X yy u):PSs X (st :: yy) (kP t u):=by
 intro pins s σ H D I h;refine wpAny_execs_cons (thn (h1 pins s σ H { D with nx:=u D } I h) fun f s1 q=>?_);cases f with
 | next=>
  obtain ⟨σ',H',I',q⟩:=q;exact h2 pins s1 σ' H' D I' q
 | ret v=>exact q
 | brk=>exact q
 | cont=>exact q
theorem gb (h1:PS X st t):PSs X [st] t:=by
 intro pins s σ H D I h;refine wpAny_execs_cons (thn (h1 pins s σ H D I h) fun f s1 q=>?_);cases f with
 | next=>exact wpAny_execs_nil q
 | ret v=>exact q
 | brk=>exact q
 | cont=>exact q
theorem Inv.quiet {pins:List (Addr × Obj)} {σ:St} {H:Hp} {s:Shared} (I:Inv X pins σ H s):interactive X.env=false:=by simp [interactive,I.ok.kind]
noncomputable def gM (te:TE):TS:=fun D σ H=>te σ H fun _ H1=>D.nx σ H1
theorem Wc (he:PE X e te) (hs:swapsWith e none pos.line X.env=pure false:=by rfl):PS X (.Expr e pos) (gM te):=by
 intro pins s σ H D I h;exact wpAny_Expr_any (thn (he pins s σ H _ I h) fun v s1 ⟨x,H1,I1,r1,q1⟩=>⟨σ,H1,I1,q1⟩) I.quiet hs
noncomputable def QN (te:TE):TS:=fun D σ H=>te σ H D.rt
theorem Cb (he:PE X e te):PS X (.Return (some e) pos) (QN te):=by
 intro pins s σ H D I h;exact wpAny_Return_some (thn (he pins s σ H _ I h) fun v s1 ⟨x,H1,I1,r1,q1⟩=>⟨x,σ,H1,I1,r1,q1⟩)
noncomputable def nO (c:TT) (t u:TS):TS:=fun D σ H=>c σ H fun b H1=>if b=true then t D σ H1 else u D σ H1
theorem Qd {c:Expr} {a b:List Stmt} {tc:TT} (hc:PT X c tc) (ha:PSs X a t) (hb:PSs X b u):PS X (.If c a b pos) (nO tc t u):=by
 intro pins s σ H D I h;refine wpAny_If (thn (hc pins s σ H _ I h) fun d s1 hZ1=>?_);obtain ⟨H1,I1,q1⟩:=hZ1;cases d with
 | true=>exact ha pins s1 σ H1 D I1 q1
 | false=>exact hb pins s1 σ H1 D I1 q1
noncomputable def OI:TS:=fun _ _ _=>False
theorem Eg:PS X st OI:=fun _ _ _ _ _ _ h=>h.elim
end
noncomputable abbrev TG:=V→St→Hp→(St→Hp→Prop)→Prop
noncomputable abbrev TGs:=List V→St→Hp→(St→Hp→Prop)→Prop
noncomputable def PG (X:Cx) (target:Expr) (t:TG):Prop:=
 ∀ (pins:List (Addr × Obj)) (s:Shared) (σ:St) (H:Hp) (v:V) (u:Value) (Q:St→Hp→Prop),Inv X pins σ H s→gd v u→t v σ H Q →
  wpAny (model X.prog X.w) X.A (assign target X.env u) (fun _ s'=>∃ σ' H',Inv X pins σ' H' s'∧Q σ' H') X.xe s
noncomputable def PGs (X:Cx) (ts:List Expr) (t:TGs):Prop:=
 ∀ (pins:List (Addr × Obj)) (s:Shared) (σ:St) (H:Hp) (vs:List V) (us:List Value) (Q:St→Hp→Prop),Inv X pins σ H s→Uc vs us→t vs σ H Q →
  wpAny (model X.prog X.w) X.A (assignInOrder ((assignEach ts X.env).map (·.2)) us) (fun _ s'=>∃ σ' H',Inv X pins σ' H' s'∧Q σ' H') X.xe s
noncomputable abbrev AN:=V→V→V→Hp→(Hp→Prop)→Prop
noncomputable def iP (X:Cx) (t:AN):Prop:=
 ∀ (pins:List (Addr × Obj)) (s:Shared) (σ:St) (H:Hp) (o i v:V) (ov iv u:Value) (Q:Hp→Prop),Inv X pins σ H s→gd o ov→gd i iv→gd v u→t o i v H Q →
  wpAny (model X.prog X.w) X.A (setItem ov iv u) (fun _ s'=>∃ H',Inv X pins σ H' s'∧Q H') X.xe s
noncomputable abbrev TIp:=V→V→Hp→VK→Prop
noncomputable def PIp (X:Cx) (op:Operator) (t:TIp):Prop:=
 ∀ (pins:List (Addr × Obj)) (s:Shared) (σ:St) (H:Hp) (x y:V) (v u:Value) (Q:VK),Inv X pins σ H s→gd x v→gd y u→t x y H Q →
  wpAny (model X.prog X.w) X.A (inplaceOp op v u) (EP X pins σ Q) X.xe s
section
variable {X:Cx} {pos:Pos}
noncomputable def Gr (i:Nat):TG:=fun v σ H Q=>Q (σ.set i (some v)) H
theorem tD {i:Nat} {x:Str} (hN:X.N.Nodup) (hi:X.N[i]? = some x) (hx:Loc X.env.scope x) (hf:X.fn x=true∨X.env.scope.names.lookup x=some .local:=by first | exact .inl rfl | exact .inr rfl | assumption):PG X (.Name x pos) (Gr i):=by
 intro pins s σ H v u Q I r h;exact wpAny_assign_Name (Xu I hN hi hx r (fun s' I'=>⟨_,H,I',h⟩) hf)
noncomputable def zN:TGs:=fun vs σ H Q=>vs=[]∧Q σ H
noncomputable def FB (t:TG) (u:TGs):TGs:=fun vs σ H Q=>∃ v r,vs=v :: r∧t v σ H fun σ' H'=>u r σ' H' Q
theorem Re:PGs X [] zN:=by
 intro pins s σ H vs us Q I r h;obtain ⟨e,h⟩:=h;subst e;cases r;exact assignInOrder_nil ⟨σ,H,I,h⟩
theorem Lb {e:Expr} {es:List Expr} {t:TG} {u:TGs} (h1:PG X e t) (h2:PGs X es u)
  (hs:(assignEach (e :: es) X.env).map (·.2)=assign e X.env :: (assignEach es X.env).map (·.2):=by rfl):PGs X (e :: es) (FB t u):=by
 intro pins s σ H vs us Q I r h;obtain ⟨v,vr,e1,h⟩:=h;subst e1;cases r with
 | cons r rr=>
  rw [hs];refine assignInOrder_cons (thn (h1 pins s σ H _ _ _ I r h) fun _ s1 hZ1=>?_);obtain ⟨σ1,H1,I1,q1⟩:=hZ1;exact h2 pins s1 σ1 H1 _ _ Q I1 rr q1
noncomputable def NM (K:PySem.W.Frag) (n:Nat) (t:TGs):TG:=fun v σ H Q=>∃ a xs,v=.ref a∧SqT K H a xs∧xs.length=n∧t xs σ H Q
theorem XL {es:List Expr} {k:Nat} {t:TGs} {n:Nat} (hc:X.calm=true) (h:PGs X es t)
  (hn:(assignEach es X.env).length=n:=by rfl) (hst:(assignEach es X.env).findIdx? (·.1)=none:=by rfl):PG X (.Tuple es k pos) (NM X.K n t):=by
 intro pins s σ H v u Q I r hw;obtain ⟨a,xs,e1,hq,hl,hw⟩:=hw;subst e1;cases r;obtain ⟨its,rv,ht,hz⟩:=I.tuple hq;refine assign_Tuple_tuple (I.ok.hd hc) ht (by simp [hn,← hl,rv.length]) hst fun h' hx=>?_
 have I1:Inv X pins σ H { s with heap:=h' }:=I.kept (t':=s.toks) fun b o e=>hx b o (Nat.ne_of_lt (Heap.lt_size e)) e
 exact h pins _ σ H xs _ Q I1 (by simpa using rv) hw
noncomputable def dP (to ti:TE) (t:AN):TG:=fun v σ H Q=>to σ H fun o H1=>ti σ H1 fun i H2=>t o i v H2 fun H3=>Q σ H3
theorem Yv {o i:Expr} {to ti:TE} {t:AN} (ho:PE X o to) (hi:PE X i ti) (hs:iP X t)
  (ha:∀ v,assign (.Subscript o i pos) X.env v=(do
   let ov ← holding [v] (eval o X.env)
   let iv ← holding [v,ov] (eval i X.env)
   standAt pos
   holding [v,ov,iv] (setItem ov iv v)
   release [v,ov,iv] []):=by intro _;rfl):PG X (.Subscript o i pos) (dP to ti t):=by
 intro pins s σ H v u Q I r h;rw [ha];refine wpAny_bind (wpAny_holding (thn (ho pins s σ H _ I h) fun ov s1 hZ1=>?_));obtain ⟨x,H1,I1,r1,q1⟩:=hZ1;refine wpAny_bind (wpAny_holding (thn (hi pins s1 σ H1 _ I1 q1) fun iv s2 hZ1=>?_));obtain ⟨y,H2,I2,r2,q2⟩:=hZ1;refine wpAny_bind (wpAny_standAt (wpAny_bind (wpAny_holding (thn (hs pins s2 σ H2 x y v ov iv u _ I2 r1 r2 r q2) fun _ s3 hZ1=>?_))));obtain ⟨H3,I3,q3⟩:=hZ1;exact wpAny_release ⟨σ,H3,I3,q3⟩
noncomputable def KM (te:TE) (g:TG):TS:=fun D σ H=>te σ H fun x H1=>g x σ H1 D.nx
theorem ko {tg e:Expr} {te:TE} {g:TG} (he:PE X e te) (hg:PG X tg g) (hs:swapsWithSole [tg] e pos.line X.env=pure false:=by rfl) (hw:swappedStores [tg] e X.env=pure none:=by rfl)
  (h1:(assignEach [tg] X.env).map (·.2)=[assign tg X.env]:=by rfl):PS X (.Assign [tg] e pos) (KM te g):=by
 intro pins s σ H D I h;refine wpAny_Assign_stores (thn (he pins s σ H _ I h) fun v s1 hZ1=>?_) hs hw;obtain ⟨x,H1,I1,r1,q1⟩:=hZ1;rw [h1];exact thn (hg pins s1 σ H1 x v _ I1 r1 q1) fun _ s2 q=>q
theorem xA {i:Nat} {x:Str} {e:Expr} {te:TE} {pos':Pos} (hN:X.N.Nodup) (hi:X.N[i]? = some x) (hx:Loc X.env.scope x) (he:PE X e te) (hs:swapsWith e (some (.Name x pos')) pos.line X.env=pure false:=by rfl) (hf:X.fn x=true∨X.env.scope.names.lookup x=some .local:=by first | exact .inl rfl | exact .inr rfl | assumption) :
  PS X (.Assign [.Name x pos'] e pos) (KM te (Gr i)):=by
 intro pins s σ H D I h;refine wpAny_Assign_Name (thn (he pins s σ H _ I h) fun v s1 hZ1=>?_) hs;obtain ⟨y,H1,I1,r1,q1⟩:=hZ1;exact Xu I1 hN hi hx r1 (fun s2 I2=>⟨_,H1,I2,q1⟩) hf
noncomputable def EO (i:Nat) (te:TE) (ti:TIp):TS:=fun D σ H=>∃ x,σ[i]? = some (some x)∧te σ H fun y H1=>ti x y H1 fun z H2=>D.nx (σ.set i (some z)) H2
theorem ot {i:Nat} {x:Str} {e:Expr} {te:TE} {op:Operator} {ti:TIp} {pos':Pos} (hN:X.N.Nodup) (hi:X.N[i]? = some x) (hx:Loc X.env.scope x) (he:PE X e te) (ho:PIp X op ti) (hf:X.fn x=true∨X.env.scope.names.lookup x=some .local:=by first | exact .inl rfl | exact .inr rfl | assumption) :
  PS X (.AugAssign (.Name x pos') op e pos) (EO i te ti):=by
 intro pins s σ H D I h;obtain ⟨v,e1,h⟩:=h;obtain ⟨m,hn,hl⟩:=I.loc;have vis:Vis X.env.scope x:=by rcases hx with k | k;exact .inl k;exact .inr (.inl k)
 obtain ⟨u,r,l⟩:=hl i x v hi e1 vis;refine wpAny_AugAssign_Name ?_;have go:wpAny (model X.prog X.w) X.A (eval e X.env) (fun w s₂=>wpAny (model X.prog X.w) X.A (inplaceOp op u w) (fun r s₃=>wpAny (model X.prog X.w) X.A (storeName X.env x r) (fun _=>SP X pins D .next) X.xe s₃) X.xe s₂) X.xe s:=by
  refine thn (he pins s σ H _ I h) fun w s1 hZ1=>?_
  obtain ⟨y,H1,I1,r1,q1⟩:=hZ1;refine thn (ho pins s1 σ H1 v y u w _ I1 r r1 q1) fun z s2 hZ1=>?_
  obtain ⟨zv,H2,I2,r2,q2⟩:=hZ1;exact Xu I2 hN hi hx r2 (fun s3 I3=>⟨_,H2,I3,q2⟩) hf
 rcases l with ⟨hk,hm⟩ | ⟨hk,c,hc,hcell⟩
 ·exact wpAny_loadName_local I.ok.kind hk hn hm go
 ·rcases hk with hk | hk
  ·exact wpAny_loadName_cell I.ok.kind hk hc hcell go
  ·rcases hx with k | k
   ·have:X.env.scope.names.lookup x=some .free:=hk;rw [k] at this;cases this
   ·have:X.env.scope.names.lookup x=some .free:=hk;rw [k] at this;cases this
noncomputable def ipI (f:Int→Int→Int):TIp:=fun x y H Q=>∃ i j,x=.int i∧y=.int j∧Q (.int (f i j)) H
theorem ZE:PIp X .Add (ipI fun i j=>i + j):=by
 intro pins s σ H x y v u Q I r1 r2 h;obtain ⟨i,j,e1,e2,q⟩:=h;subst e1;subst e2;obtain ⟨t,rfl⟩:=r1;obtain ⟨t',rfl⟩:=r2;exact iadd_int ⟨.int _,H,I.tok _,⟨_,rfl⟩,q⟩
theorem RD:PIp X .Sub (ipI fun i j=>i - j):=by
 intro pins s σ H x y v u Q I r1 r2 h;obtain ⟨i,j,e1,e2,q⟩:=h;subst e1;subst e2;obtain ⟨t,rfl⟩:=r1;obtain ⟨t',rfl⟩:=r2;exact isub_int ⟨.int _,H,I.tok _,⟨_,rfl⟩,q⟩
end
section
variable {X:Cx} {pos:Pos}
noncomputable def HI (c:TT) (tb:TS):TS:=fun D σ H=>∃ W:Nat→St→Hp→Prop,(∃ m,W m σ H)∧∀ m σ H,W m σ H →
 c σ H fun b H1=>if b=true then ∃ N:St→Hp→Prop,(∀ σ' H',N σ' H'→∃ m',m' < m∧W m' σ' H')∧tb { D with nx:=N,ct:=N,bk:=D.nx } σ H1 else D.nx σ H1
theorem TH {c:Expr} {body:List Stmt} {tc:TT} {tb:TS} (hp:PassesOwn (model X.prog X.w) X.A X.env X.xe) (hc:PT X c tc) (hb:PSs X body tb):PS X (.While c body [] pos) (HI tc tb):=by
 intro pins s σ H D I h;obtain ⟨W,⟨m0,w0⟩,turn⟩:=h;refine wpAny_While (codeAny_whileLoop (fun n s'=>∃ σ' H',Inv X pins σ' H' s'∧W n σ' H') ?_ m0 ⟨σ,H,I,w0⟩);rintro n s1 ⟨σ1,H1,I1,w1⟩;refine wpAny_passesOwn hp (thn (hc pins s1 σ1 H1 _ I1 (turn n σ1 H1 w1)) fun b s2 hZ1=>?_);obtain ⟨H2,I2,q2⟩:=hZ1;cases b with
 | true=>
  obtain ⟨N,hN,q2⟩:=q2;rw [if_pos rfl];refine wpAny_passesOwn hp (thn (hb pins s2 σ1 H2 _ I2 q2) fun f s3 q3=>?_);cases f with
  | next=>
   obtain ⟨σ3,H3,I3,n3⟩:=q3;obtain ⟨m',hm,w3⟩:=hN σ3 H3 n3;exact ⟨m',hm,σ3,H3,I3,w3⟩
  | cont=>
   obtain ⟨σ3,H3,I3,n3⟩:=q3;obtain ⟨m',hm,w3⟩:=hN σ3 H3 n3;exact ⟨m',hm,σ3,H3,I3,w3⟩
  | brk=>exact q3
  | ret v=>exact q3
 | false=>
  rw [if_neg Bool.false_ne_true];exact wpAny_execs_nil ⟨σ1,H2,I2,q2⟩
end
structure It where
 go:Nat→Hp→Prop
 yld:Nat→Hp→V→Hp→Prop
 stop:Nat→Hp→Prop
noncomputable def uw (X:Cx) (pins:List (Addr × Obj)) (H:Hp) (b:Addr):Prop:=
 H b=none∧b ≠ X.env.locals∧b ∉ X.fs∧(b ∈ X.ex∨X.s₀.heap.objs.size ≤ b)∧(∀ x c,X.env.cells.lookup x=some c→c ≠ b)∧∀ p ∈ X.pn ++ pins,p.1 ≠ b
theorem Inv.fpOk {X:Cx} {pins:List (Addr × Obj)} {σ:St} {H H':Hp} {s:Shared} {b:Addr} (I:Inv X pins σ H s) (hb:s.heap.objs.size ≤ b) (hn:H' b=none):uw X pins H' b:=by
 refine ⟨hn,Nat.ne_of_gt (Nat.lt_of_lt_of_le I.lt hb),I.nofs hb,.inr (Nat.le_trans I.sz hb),fun x c e z=>?_,fun p hp z=>?_⟩
 ·obtain ⟨v,q⟩:=I.cell x c e;exact absurd (Nat.lt_of_lt_of_le q.lt (by rw [z];exact hb)) (Nat.lt_irrefl _)
 ·exact absurd (Nat.lt_of_lt_of_le (Heap.lt_size (I.pin p hp).1) (by rw [z];exact hb)) (Nat.lt_irrefl _)
structure fJ (P:Program) (w:World) (K:PySem.W.Frag) (tg:Expr) (J:It) (fp:List Addr) (it:Addr) (tn:Nat→Heap→Prop):Prop where
 mem:it ∈ fp
 obj:∀ i h,tn i h→∀ b ∈ fp,∃ o,h.get? b=some o∧∀ v,o.data ≠ .cell v
 keep:∀ i h h',tn i h→(∀ b ∈ fp,∀ o,h.get? b=some o→h'.get? b=some o)→tn i h'
 item:∀ (X:Cx),X.prog=P→X.w=w→X.K=K→X.calm=true→∀ (i:Nat) (pins:List (Addr × Obj)) (s:Shared) (σ:St) (H:Hp) (E:Value→Shared→Prop),Inv X pins σ H s→(∀ b ∈ fp,uw X pins H b)→tn i s.heap→J.go i H →
  wpAny (model P w) X.A (pyNext (.ref it)) (fun r s1=>∃ u,r=some u ∧
   wpAny (model P w) X.A (letOwnedTupleGo tg (.ref it) u) (fun _ s2=>∃ x H',Inv X pins σ H' s2∧gd x u∧J.yld i H x H'∧tn (i + 1) s2.heap∧∀ b ∈ fp,H' b=none) E s1) E s
 done:∀ (X:Cx),X.prog=P→X.w=w→X.K=K→X.calm=true→∀ (i:Nat) (pins:List (Addr × Obj)) (s:Shared) (σ:St) (H:Hp) (E:Value→Shared→Prop),Inv X pins σ H s→(∀ b ∈ fp,uw X pins H b)→tn i s.heap→J.stop i H →
  wpAny (model P w) X.A (pyNext (.ref it)) (fun r s1=>r=none∧Inv X pins σ H s1) E s
 self:∀ (A:Around) (i:Nat) (s:Shared) (Q:Value→Shared→Prop) (E:Value→Shared→Prop),tn i s.heap→Q (.ref it) s→wpAny (model P w) A (pyIter (.ref it)) Q E s
noncomputable abbrev TI:=St→Hp→(It→Hp→Prop)→Prop
noncomputable def PIE (X:Cx) (pins:List (Addr × Obj)) (σ:St) (tg:Expr) (R:It→Hp→Prop) (itv:Value) (s2:Shared):Prop:=
 ∃ (it:Addr) (fp:List Addr) (tn:Nat→Heap→Prop) (J:It) (H':Hp),itv=.ref it∧Inv X pins σ H' s2∧fJ X.prog X.w X.K tg J fp it tn∧tn 0 s2.heap∧(∀ b ∈ fp,uw X pins H' b)∧R J H'
noncomputable def PI (X:Cx) (tg iter:Expr) (wi:TI):Prop:=
 ∀ (pins:List (Addr × Obj)) (s:Shared) (σ:St) (H:Hp) (R:It→Hp→Prop),Inv X pins σ H s→wi σ H R →
  wpAny (model X.prog X.w) X.A (eval iter X.env) (fun v s1=>wpAny (model X.prog X.w) X.A (pyIter v) (PIE X pins σ tg R) X.xe s1) X.xe s
theorem ME {M:Model} {A:Around} {E:Value→Shared→Prop} {s:Shared} {tg:Expr} {it:Addr} {u:Value} {o:Obj} {n:String} {vs:Array Value} {Q:Unit→Shared→Prop} (ho:s.heap.get? it=some o) (hc:o.cls=.type n) (hd:o.data=.fields vs)
    (hn:["enumerate","zip","dict_itemiterator","dict_reverseitemiterator","odict_iterator","itertools.zip_longest","itertools.pairwise"].contains n=false) (hQ:Q () s):wpAny M A (letOwnedTupleGo tg (.ref it) u) Q E s:=by
  unfold letOwnedTupleGo;cases tg <;> first
    | exact wpAny_pure hQ
    | (cases u <;> first
        | exact wpAny_pure hQ
        | (refine wpAny_bind (wpAny_load ho ?_)
           rw [hc,hd];show wpAny M A (if (["enumerate","zip","dict_itemiterator","dict_reverseitemiterator","odict_iterator","itertools.zip_longest","itertools.pairwise"].contains n && vs[0]? == some (rawInt _))=true then _ else _) Q E s;rw [if_neg (by intro h;rw [hn,Bool.false_and] at h;cases h)];exact wpAny_pure hQ))
noncomputable def Itl (K:PySem.W.Frag) (a:Addr):It:=
 ⟨fun i H=>∃ xs x,SqL K H a xs∧xs[i]? = some x,fun i H x H'=>H'=H∧∀ xs,SqL K H a xs→xs[i]? = some x,fun i H=>∃ xs,SqL K H a xs∧xs.length ≤ i⟩
noncomputable def Itt (K:PySem.W.Frag) (a:Addr):It:=
 ⟨fun i H=>∃ xs x,SqT K H a xs∧xs[i]? = some x,fun i H x H'=>H'=H∧∀ xs,SqT K H a xs→xs[i]? = some x,fun i H=>∃ xs,SqT K H a xs∧xs.length ≤ i⟩
noncomputable def Itr (lo:Int) (n:Nat):It:=⟨fun i _=>i < n,fun i H x H'=>H'=H∧x=.int (lo + i),fun i _=>n ≤ i⟩
theorem OC {P:Program} {w:World} {K:PySem.W.Frag} {tg:Expr} (a it:Addr):fJ P w K tg (Itl K a) [it] it (fun i h=>h.IsListIter it a i) where
 mem:=by simp
 obj:=fun i h st b hb=>by
  have e:b=it:=by simpa using hb
  subst e;obtain ⟨o,e,c,d⟩:=st;exact ⟨o,e,fun v z=>by rw [d] at z;cases z⟩
 keep:=fun i h h' st k=>st.at fun o e=>k it (by simp) o e
 item:=by
  intro X hP hw hK hc i pins s σ H E I hf st hg;subst hP hw hK;obtain ⟨xs,x,hq,hx⟩:=hg;obtain ⟨its,rv,p,hz⟩:=I.list hq;obtain ⟨u,hu,ru⟩:=rv.get hx;obtain ⟨f0,f1,f2,f3,f4,f5⟩:=hf it (by simp);refine wpAny_pyNext_list_item st p.isList (x:=u) (by simpa using hu) fun h' st' sb=>?_
  have I1:Inv X pins σ H { s with heap:=h' }:=I.turned (t':=s.toks) (fun b o hb e=>(sb.2 b hb).trans e) f0 f1 f3 f4 f5;obtain ⟨o,e,c,d⟩:=id st';exact ⟨u,rfl,ME (s:={ s with heap:=h' }) e c d (by decide) ⟨x,H,I1,ru,⟨rfl,fun ys hy=>by rw [I.list_inj hy hq];exact hx⟩,st',fun b hb=>(hf b hb).1⟩⟩
 done:=by
  intro X hP hw hK hc i pins s σ H E I hf st hg;subst hP hw hK;obtain ⟨xs,hq,hx⟩:=hg;obtain ⟨its,rv,p,hz⟩:=I.list hq;obtain ⟨f0,f1,f2,f3,f4,f5⟩:=hf it (by simp);have hl:=rv.length;exact wpAny_pyNext_list_end (I.ok.hd hc) st p.isList (by simp;omega) fun h' eb=>⟨rfl,I.turned (t':=s.toks) (fun b o hb e=>eb b o hb e) f0 f1 f3 f4 f5⟩
 self:=fun _ _ _ _ _ st h=>wpAny_pyIter_listiter st h
theorem lB {P:Program} {w:World} {K:PySem.W.Frag} {tg:Expr} (a it:Addr):fJ P w K tg (Itt K a) [it] it (fun i h=>h.IsTupleIter it a i) where
 mem:=by simp
 obj:=fun i h st b hb=>by
  have e:b=it:=by simpa using hb
  subst e;obtain ⟨o,e,c,d⟩:=st;exact ⟨o,e,fun v z=>by rw [d] at z;cases z⟩
 keep:=fun i h h' st k=>st.at fun o e=>k it (by simp) o e
 item:=by
  intro X hP hw hK hc i pins s σ H E I hf st hg;subst hP hw hK;obtain ⟨xs,x,hq,hx⟩:=hg;obtain ⟨its,rv,p,hz⟩:=I.tuple hq;obtain ⟨u,hu,ru⟩:=rv.get hx;obtain ⟨f0,f1,f2,f3,f4,f5⟩:=hf it (by simp);refine wpAny_pyNext_tuple_item st (show s.heap.IsTuple a its.toArray from p) (x:=u) (by simpa using hu) fun h' st' sb=>?_
  have I1:Inv X pins σ H { s with heap:=h' }:=I.turned (t':=s.toks) (fun b o hb e=>(sb.2 b hb).trans e) f0 f1 f3 f4 f5;obtain ⟨o,e,c,d⟩:=id st';exact ⟨u,rfl,ME (s:={ s with heap:=h' }) e c d (by decide) ⟨x,H,I1,ru,⟨rfl,fun ys hy=>by rw [I.tuple_inj hy hq];exact hx⟩,st',fun b hb=>(hf b hb).1⟩⟩
 done:=by
  intro X hP hw hK hc i pins s σ H E I hf st hg;subst hP hw hK;obtain ⟨xs,hq,hx⟩:=hg;obtain ⟨its,rv,p,hz⟩:=I.tuple hq;obtain ⟨f0,f1,f2,f3,f4,f5⟩:=hf it (by simp);have hl:=rv.length;exact wpAny_pyNext_tuple_end (I.ok.hd hc) st (show s.heap.IsTuple a its.toArray from p) (by simp;omega) fun h' eb=>⟨rfl,I.turned (t':=s.toks) (fun b o hb e=>eb b o hb e) f0 f1 f3 f4 f5⟩
 self:=fun _ _ _ _ _ st h=>wpAny_pyIter_tupleiter st h
theorem gC {P:Program} {w:World} {K:PySem.W.Frag} {tg:Expr} (it:Addr) (lo:Int) (n:Nat):fJ P w K tg (Itr lo n) [it] it (fun i h=>IsRangeIter h it (lo + (i:Nat) * 1) ((n:Int) - (i:Nat)) 1) where
 mem:=by simp
 obj:=fun i h st b hb=>by
  have e:b=it:=by simpa using hb
  subst e;exact ⟨_,st,fun v z=>by
   have z':Data.fields _=Data.cell v:=z;cases z'⟩
 keep:=fun i h h' st k=>k it (by simp) _ st
 item:=by
  intro X hP hw hK hc i pins s σ H E I hf st hg;subst hP hw hK;obtain ⟨f0,f1,f2,f3,f4,f5⟩:=hf it (by simp);have W:=Walks.range (prog:=X.prog) (w:=X.w) (I.ok.hd hc) it lo 1 n;refine W.item i s _ _ hg st fun v h' tk hv st' kk=>?_
  obtain ⟨t,rfl⟩:=hv;have I1:Inv X pins σ H { s with heap:=h',toks:=tk }:=I.turned (fun b o hb e=>kk b o (by simpa using hb) e) f0 f1 f3 f4 f5;refine ⟨_,rfl,ME (s:={ s with heap:=h',toks:=tk }) (n := "range_iterator") st' rfl rfl (by decide) ⟨.int (lo + i),H,I1,⟨t,?_⟩,⟨rfl,rfl⟩,st',fun b hb=>(hf b hb).1⟩⟩;rw [Int.mul_one]
 done:=by
  intro X hP hw hK hc i pins s σ H E I hf st hg;subst hP hw hK;obtain ⟨f0,f1,f2,f3,f4,f5⟩:=hf it (by simp);exact wpAny_pyNext_range_end (I.ok.hd hc) st (by have:n ≤ i:=hg;omega) fun h' eb=>⟨rfl,I.turned (t':=s.toks) (fun b o hb e=>eb b o hb e) f0 f1 f3 f4 f5⟩
 self:=fun _ _ _ _ _ st h=>wpAny_pyIter_rangeiter st h
end L2
namespace L2
open PySem PySem.Spec PyProof.Rows
section
variable {X:Cx} {tg:Expr}
noncomputable def dM (K:PySem.W.Frag) (tl:TE):TI:=fun σ H R=>tl σ H fun x H1=>yh x fun a=>(∃ xs,SqL K H1 a xs)∧R (Itl K a) H1
noncomputable def uO (K:PySem.W.Frag) (tl:TE):TI:=fun σ H R=>tl σ H fun x H1=>yh x fun a=>(∃ xs,SqT K H1 a xs)∧R (Itt K a) H1
theorem Ld {l:Expr} {tl:TE} (hl:PE X l tl):PI X tg l (dM X.K tl):=by
 intro pins s σ H R I h;refine thn (hl pins s σ H _ I h) fun v s1 hZ1=>?_
 obtain ⟨x,H1,I1,r1,q1⟩:=hZ1;obtain ⟨a,e,⟨xs,hq⟩,q⟩:=yh.out q1;subst e;cases r1;obtain ⟨its,rv,p,hz⟩:=I1.list hq;refine wpAny_pyIter_list p.isList ?_;refine ⟨s1.heap.objs.size,[s1.heap.objs.size],_,_,H1,rfl,I1.kept (t':=s1.toks) fun b o e=>Heap.get?_push_of_some _ e,OC a _,⟨_,Heap.get?_push_size _ rfl,rfl,rfl⟩,fun b hb=>?_,q⟩;have e:b=s1.heap.objs.size:=by simpa using hb
 subst e;exact I1.fpOk (Nat.le_refl _) (I1.hok.fresh (Nat.le_refl _))
theorem dI {l:Expr} {tl:TE} (hl:PE X l tl):PI X tg l (uO X.K tl):=by
 intro pins s σ H R I h;refine thn (hl pins s σ H _ I h) fun v s1 hZ1=>?_
 obtain ⟨x,H1,I1,r1,q1⟩:=hZ1;obtain ⟨a,e,⟨xs,hq⟩,q⟩:=yh.out q1;subst e;cases r1;obtain ⟨its,rv,p,hz⟩:=I1.tuple hq;refine wpAny_pyIter_tuple (show s1.heap.IsTuple a its.toArray from p) ?_;refine ⟨s1.heap.objs.size,[s1.heap.objs.size],_,_,H1,rfl,I1.kept (t':=s1.toks) fun b o e=>Heap.get?_push_of_some _ e,lB a _,⟨_,Heap.get?_push_size _ rfl,rfl,rfl⟩,fun b hb=>?_,q⟩;have e:b=s1.heap.objs.size:=by simpa using hb
 subst e;exact I1.fpOk (Nat.le_refl _) (I1.hok.fresh (Nat.le_refl _))
theorem fA {pins:List (Addr × Obj)} {σ:St} {H:Hp} {s:Shared} {R:It→Hp→Prop} {E:Value→Shared→Prop} {lo hi:Int} {t u v:Tok} {tk:Nat} (I:Inv X pins σ H s) (h1:-(2 ^ 62) ≤ lo) (h2:lo < 2 ^ 62) (h3:-(2 ^ 62) ≤ hi) (h4:hi < 2 ^ 62)
  (q:R (Itr lo (hi - lo).toNat) H):wpAny (model X.prog X.w) X.A (pyIter (.ref s.heap.objs.size)) (PIE X pins σ tg R) E { s with heap:=s.heap.push { cls:=.type "range",data:=.fields #[.int lo t,.int hi u,.int 1 v] },toks:=tk }:=by
 refine wpAny_pyIter_range (IsRange.new ..) (small_one h1 h2 h3 h4) ?_;have I1:Inv X pins σ H { s with heap:=s.heap.push { cls:=.type "range",data:=.fields #[.int lo t,.int hi u,.int 1 v] },toks:=tk }:=I.kept fun b o e=>Heap.get?_push_of_some _ e
 refine ⟨(s.heap.push { cls:=.type "range",data:=.fields #[.int lo t,.int hi u,.int 1 v] }).objs.size,[(s.heap.push { cls:=.type "range",data:=.fields #[.int lo t,.int hi u,.int 1 v] }).objs.size],_,_,H,rfl,
  I1.kept (t':=tk) fun b o e=>Heap.get?_push_of_some _ e,gC _ lo (hi - lo).toNat,?_,fun b hb=>?_,q⟩
 ·have e1:lo + ((0:Nat):Int) * 1=lo:=by simp
  have e2:(((hi - lo).toNat:Nat):Int) - ((0:Nat):Int)=Builtin.Range.rangeSize lo hi 1:=by rw [rangeSize_one];split <;> omega
  show IsRangeIter _ _ (lo + ((0:Nat):Int) * 1) ((((hi - lo).toNat:Nat):Int) - ((0:Nat):Int)) 1;rw [e1,e2];exact Heap.get?_push_size _ rfl
 ·have e:b=(s.heap.push { cls:=.type "range",data:=.fields #[.int lo t,.int hi u,.int 1 v] }).objs.size:=by simpa using hb
  subst e;exact I1.fpOk (Nat.le_refl _) (I1.hok.fresh (Nat.le_refl _))
noncomputable def rL (ta:TA):TI:=fun σ H R=>ta σ H fun vs H1=>GB vs fun x=>mj x fun j=>-(2 ^ 62) ≤ j∧j < 2 ^ 62∧R (Itr 0 j.toNat) H1
noncomputable def oN (ta:TA):TI:=fun σ H R=>ta σ H fun vs H1=>∃ i j:Int,vs=[.int i,.int j]∧(-(2 ^ 62) ≤ i∧i < 2 ^ 62∧-(2 ^ 62) ≤ j∧j < 2 ^ 62)∧R (Itr i (j - i).toNat) H1
theorem ae {a:Expr} {ta:TA} {p pos:Pos} (hg:Gl X "range") (hm:X.mg "range"=none) (ha:PA X [a] ta) (hs:starEach [a] X.env=[(false,eval a X.env)]:=by rfl):PI X tg (.Call (.Name "range" p) [a] [] pos) (rL ta):=by
 intro pins s σ H R I h;refine Call_ (yj I hg hm boot_range (PyProof.Rows.callWith_type1 (thn (ha pos pins s σ H _ I h) fun us s1 hZ1=>?_) hs rfl));obtain ⟨vs,H1,I1,r1,q1⟩:=hZ1;obtain ⟨zx,ze,zq⟩:=GB.out q1;obtain ⟨j,zf,zp,q2,q⟩:=mj.out zq;have e:=ze.trans (congrArg (fun z=>[z]) zf);subst e;cases r1 with
 | cons r rr=>
  cases rr;obtain ⟨t,rfl⟩:=r;exact call_range_1 (fA I1 (by omega) (by omega) zp q2 (by simpa using q))
theorem FD {a b:Expr} {ta:TA} {p pos:Pos} (hg:Gl X "range") (hm:X.mg "range"=none) (ha:PA X [a,b] ta) (hs:starEach [a,b] X.env=[(false,eval a X.env),(false,eval b X.env)]:=by rfl) (hs2:starEach [b] X.env=[(false,eval b X.env)]:=by rfl) :
  PI X tg (.Call (.Name "range" p) [a,b] [] pos) (oN ta):=by
 intro pins s σ H R I h;refine Call_ (yj I hg hm boot_range (PyProof.Rows.callWith_type1 (thn (ha pos pins s σ H _ I h) fun us s1 hZ1=>?_) (by rw [hs,hs2]) (by rw [hs2];rfl)));obtain ⟨vs,H1,I1,r1,q1⟩:=hZ1;obtain ⟨i,j,e,⟨q1,q2,q3,q4⟩,q⟩:=q1;subst e;cases r1 with
 | cons r rr=>
  cases rr with
  | cons r' rr=>
   cases rr;obtain ⟨t,rfl⟩:=r;obtain ⟨t',rfl⟩:=r';exact call_range_2 (fA I1 q1 q2 q3 q4 q)
noncomputable def ZO (wi:TI) (g:TG) (tb:TS):TS:=fun D σ H=>wi σ H fun J H1=>∃ W:Nat→Nat→St→Hp→Prop,(∃ m,W 0 m σ H1)∧∀ i m σ H,W i m σ H →
 (J.stop i H∧D.nx σ H)∨(J.go i H∧∃ N:St→Hp→Prop,(∀ σ' H',N σ' H'→∃ m',m' < m∧W (i + 1) m' σ' H')∧∀ x H',J.yld i H x H'→g x σ H' fun σ2 H2=>tb { D with nx:=N,ct:=N,bk:=D.nx } σ2 H2)
noncomputable def jx (fp:List Addr) (h:Heap):List (Addr × Obj):=fp.filterMap fun b=>(h.get? b).map fun o=>(b,o)
theorem jk {fp:List Addr} {h:Heap} {b:Addr} {o:Obj} (hb:b ∈ fp) (e:h.get? b=some o):(b,o) ∈ jx fp h:=List.mem_filterMap.mpr ⟨b,hb,by rw [e];rfl⟩
theorem bG {fp:List Addr} {h:Heap} {p:Addr × Obj} (hp:p ∈ jx fp h):p.1 ∈ fp∧h.get? p.1=some p.2:=by
 obtain ⟨b,hb,e⟩:=List.mem_filterMap.mp hp;cases q:h.get? b with
 | none=>rw [q] at e;cases e
 | some o=>
  rw [q] at e;have e':(b,o)=p:=Option.some.inj e;subst e';exact ⟨hb,q⟩
theorem Inv.pinned {pins:List (Addr × Obj)} {σ:St} {H:Hp} {s:Shared} {fp:List Addr} (I:Inv X pins σ H s) (hf:∀ b ∈ fp,uw X pins H b) (ho:∀ b ∈ fp,∃ o,s.heap.get? b=some o∧∀ v,o.data ≠ .cell v):Inv X (pins ++ jx fp s.heap) σ H s:=
 I.pins_of fun p hp=>(List.mem_append.mp hp).elim (fun z=>I.pin p (List.mem_append_right _ z)) fun z=>by
  obtain ⟨hb,e⟩:=bG z;obtain ⟨f0,f1,f2,_⟩:=hf p.1 hb;obtain ⟨o,e',d⟩:=ho p.1 hb;rw [e] at e';cases e';exact ⟨e,f0,f1,f2,d⟩
theorem Inv.unpinned {pins pl:List (Addr × Obj)} {σ:St} {H:Hp} {s:Shared} (I:Inv X (pins ++ pl) σ H s):Inv X pins σ H s:=I.pins_of fun p hp=>I.pin p (List.mem_append_right _ (List.mem_append_left _ hp))
theorem Kd {iter:Expr} {body:List Stmt} {wi:TI} {g:TG} {tb:TS} {pos:Pos} (hp:PassesOwn (model X.prog X.w) X.A X.env X.xe) (hc:X.calm=true) (hi:PI X tg iter wi) (hg:PG X tg g) (hb:PSs X body tb)
  (hs:∀ x,foldedSetIterable iter X.env x=pure x:=by intro _;rfl):PS X (.For tg iter body [] pos) (ZO wi g tb):=by
 intro pins s σ H D I h;refine wpAny_For (thn (hi pins s σ H _ I h) fun v s1 h1=>thn h1 fun itv s2 h2=>?_) hs;obtain ⟨it,fp,tn,J,H2,e,I2,T,st2,f2,W,⟨m0,w0⟩,turn⟩:=h2;subst e;have stat:∀ {H':Hp},(∀ b ∈ fp,H' b=none)→∀ b ∈ fp,uw X pins H' b:=fun hn b hb=>⟨hn b hb,(f2 b hb).2⟩
 refine codeAny_forLoop_any (fun n s'=>∃ i σ' H',Inv X pins σ' H' s'∧tn i s'.heap∧(∀ b ∈ fp,H' b=none)∧W i n σ' H') ?_ m0 ⟨0,σ,H2,I2,st2,fun b hb=>(f2 b hb).1,w0⟩;rintro n s3 ⟨i,σ3,H3,I3,st3,fr3,w3⟩;rcases turn i n σ3 H3 w3 with ⟨stop,qn⟩ | ⟨go,N,hN,step⟩
 ·refine wpAny_passesOwn hp (thn (T.done X rfl rfl rfl hc i pins s3 σ3 H3 X.xe I3 (stat fr3) st3 stop) fun r s4 hZ1=>?_);obtain ⟨hr,I4⟩:=hZ1;subst hr;exact wpAny_execs_nil ⟨σ3,H3,I4,qn⟩
 ·refine wpAny_passesOwn hp (thn (T.item X rfl rfl rfl hc i pins s3 σ3 H3 X.xe I3 (stat fr3) st3 go) fun r s4 hZ1=>?_);obtain ⟨u,hr,h4⟩:=hZ1;subst hr;refine wpAny_passesOwn hp (thn h4 fun _ s5 hZ1=>?_);obtain ⟨x,H5,I5,r5,y5,st5,fr5⟩:=hZ1;have I5':=I5.pinned (stat fr5) (T.obj _ _ st5);refine wpAny_passesOwn hp (thn (hg _ s5 σ3 H5 x u _ I5' r5 (step x H5 y5)) fun _ s6 hZ1=>?_);obtain ⟨σ6,H6,I6,q6⟩:=hZ1;refine wpAny_passesOwn hp (thn (hb _ s6 σ6 H6 _ I6 q6) fun f s7 q7=>?_);have again:∀ {σ7:St} {H7:Hp},Inv X (pins ++ jx fp s5.heap) σ7 H7 s7→N σ7 H7→∃ m,m < n∧∃ i σ' H',Inv X pins σ' H' s7∧tn i s7.heap∧(∀ b ∈ fp,H' b=none)∧W i m σ' H':=fun {σ7 H7} I7 n7=>by
   obtain ⟨m',hm,w7⟩:=hN σ7 H7 n7;refine ⟨m',hm,i + 1,σ7,H7,I7.unpinned,T.keep _ _ _ st5 fun b hb o e=>(I7.pin (b,o) (List.mem_append_right _ (List.mem_append_right _ (jk hb e)))).1,fun b hb=>?_,w7⟩;obtain ⟨o,e,d⟩:=T.obj _ _ st5 b hb;exact (I7.pin (b,o) (List.mem_append_right _ (List.mem_append_right _ (jk hb e)))).2.1
  cases f with
  | next=>obtain ⟨σ7,H7,I7,n7⟩:=q7;exact again I7 n7
  | cont=>obtain ⟨σ7,H7,I7,n7⟩:=q7;exact again I7 n7
  | brk=>obtain ⟨σ7,H7,I7,q7⟩:=q7;exact ⟨σ7,H7,I7.unpinned,q7⟩
  | ret v=>obtain ⟨x7,σ7,H7,I7,r7,q7⟩:=q7;exact ⟨x7,σ7,H7,I7.unpinned,r7,q7⟩
end
theorem WH {K:PySem.W.Frag} {a:Addr} {xs:List V} {g:TG} {tb:TS} {D:nj} {σ:St} {H:Hp} (Pv:Nat→St→Hp→Prop) (h0:Pv 0 σ H) (hl:∀ i σ H,i ≤ xs.length→Pv i σ H→SqL K H a xs)
  (hs:∀ i x σ H,xs[i]? = some x→Pv i σ H→g x σ H fun σ2 H2=>tb { D with nx:=Pv (i + 1),ct:=Pv (i + 1),bk:=D.nx } σ2 H2) (hd:∀ σ H,Pv xs.length σ H→D.nx σ H) :
  ∃ W:Nat→Nat→St→Hp→Prop,(∃ m,W 0 m σ H)∧∀ i m σ H,W i m σ H →
   ((Itl K a).stop i H∧D.nx σ H)∨((Itl K a).go i H∧∃ N:St→Hp→Prop,(∀ σ' H',N σ' H'→∃ m',m' < m∧W (i + 1) m' σ' H')∧∀ x H',(Itl K a).yld i H x H'→g x σ H' fun σ2 H2=>tb { D with nx:=N,ct:=N,bk:=D.nx } σ2 H2):=by
 refine ⟨fun i m σ H=>m=xs.length - i∧i ≤ xs.length∧Pv i σ H,⟨xs.length,by simp,Nat.zero_le _,h0⟩,?_⟩;rintro i m σ H ⟨rfl,hi,p⟩;have q:=hl i σ H hi p;by_cases hlt:i < xs.length
 ·refine .inr ⟨⟨xs,xs[i],q,by simp [hlt]⟩,Pv (i + 1),fun σ' H' p'=>⟨xs.length - (i + 1),by omega,rfl,hlt,p'⟩,fun x H' y=>?_⟩;obtain ⟨e,y⟩:=y;subst e;exact hs i x σ _ (y xs q) p
 ·have e:i=xs.length:=by omega
  subst e;exact .inl ⟨⟨xs,q,Nat.le_refl _⟩,hd σ H p⟩
theorem CJ {K:PySem.W.Frag} {a:Addr} {xs:List V} {g:TG} {tb:TS} {D:nj} {σ:St} {H:Hp} (Pv:Nat→St→Hp→Prop) (h0:Pv 0 σ H) (hl:∀ i σ H,i ≤ xs.length→Pv i σ H→SqT K H a xs)
  (hs:∀ i x σ H,xs[i]? = some x→Pv i σ H→g x σ H fun σ2 H2=>tb { D with nx:=Pv (i + 1),ct:=Pv (i + 1),bk:=D.nx } σ2 H2) (hd:∀ σ H,Pv xs.length σ H→D.nx σ H) :
  ∃ W:Nat→Nat→St→Hp→Prop,(∃ m,W 0 m σ H)∧∀ i m σ H,W i m σ H →
   ((Itt K a).stop i H∧D.nx σ H)∨((Itt K a).go i H∧∃ N:St→Hp→Prop,(∀ σ' H',N σ' H'→∃ m',m' < m∧W (i + 1) m' σ' H')∧∀ x H',(Itt K a).yld i H x H'→g x σ H' fun σ2 H2=>tb { D with nx:=N,ct:=N,bk:=D.nx } σ2 H2):=by
 refine ⟨fun i m σ H=>m=xs.length - i∧i ≤ xs.length∧Pv i σ H,⟨xs.length,by simp,Nat.zero_le _,h0⟩,?_⟩;rintro i m σ H ⟨rfl,hi,p⟩;have q:=hl i σ H hi p;by_cases hlt:i < xs.length
 ·refine .inr ⟨⟨xs,xs[i],q,by simp [hlt]⟩,Pv (i + 1),fun σ' H' p'=>⟨xs.length - (i + 1),by omega,rfl,hlt,p'⟩,fun x H' y=>?_⟩;obtain ⟨e,y⟩:=y;subst e;exact hs i x σ _ (y xs q) p
 ·have e:i=xs.length:=by omega
  subst e;exact .inl ⟨⟨xs,q,Nat.le_refl _⟩,hd σ H p⟩
theorem oE {lo:Int} {n:Nat} {g:TG} {tb:TS} {D:nj} {σ:St} {H:Hp} (Pv:Nat→St→Hp→Prop) (h0:Pv 0 σ H)
  (hs:∀ i σ H,i < n→Pv i σ H→g (.int (lo + i)) σ H fun σ2 H2=>tb { D with nx:=Pv (i + 1),ct:=Pv (i + 1),bk:=D.nx } σ2 H2) (hd:∀ σ H,Pv n σ H→D.nx σ H) :
  ∃ W:Nat→Nat→St→Hp→Prop,(∃ m,W 0 m σ H)∧∀ i m σ H,W i m σ H →
   ((Itr lo n).stop i H∧D.nx σ H)∨((Itr lo n).go i H∧∃ N:St→Hp→Prop,(∀ σ' H',N σ' H'→∃ m',m' < m∧W (i + 1) m' σ' H')∧∀ x H',(Itr lo n).yld i H x H'→g x σ H' fun σ2 H2=>tb { D with nx:=N,ct:=N,bk:=D.nx } σ2 H2):=by
 refine ⟨fun i m σ H=>m=n - i∧i ≤ n∧Pv i σ H,⟨n,by simp,Nat.zero_le _,h0⟩,?_⟩;rintro i m σ H ⟨rfl,hi,p⟩;by_cases hlt:i < n
 ·refine .inr ⟨hlt,Pv (i + 1),fun σ' H' p'=>⟨n - (i + 1),by omega,rfl,hlt,p'⟩,fun x H' y=>?_⟩;obtain ⟨e,y⟩:=y;subst e y;exact hs i σ _ hlt p
 ·have e:i=n:=by omega
  subst e;exact .inl ⟨Nat.le_refl _,hd σ H p⟩
end L2
namespace L2
open PySem PySem.Spec PyProof.Rows
noncomputable abbrev R2:=V→V→Hp→VK→Prop
noncomputable def OpR (X:Cx) (f:Value→Value→Sem Value) (r:R2):Prop:=
 ∀ (pins:List (Addr × Obj)) (s:Shared) (σ:St) (H:Hp) (x y:V) (v u:Value) (Q:VK),Inv X pins σ H s→gd x v→gd y u→r x y H Q →
  wpAny (model X.prog X.w) X.A (f v u) (EP X pins σ Q) X.xe s
noncomputable def UnR (X:Cx) (f:Value→Sem Value) (r:V→Hp→VK→Prop):Prop:=
 ∀ (pins:List (Addr × Obj)) (s:Shared) (σ:St) (H:Hp) (x:V) (v:Value) (Q:VK),Inv X pins σ H s→gd x v→r x H Q →
  wpAny (model X.prog X.w) X.A (f v) (EP X pins σ Q) X.xe s
noncomputable def Kl (X:Cx) (f:Value) (r:List V→Hp→VK→Prop):Prop:=
 ∀ (pins:List (Addr × Obj)) (s:Shared) (σ:St) (H:Hp) (xs:List V) (us:List Value) (Q:VK),Inv X pins σ H s→Uc xs us→r xs H Q →
  wpAny (model X.prog X.w) X.A (call f us) (EP X pins σ Q) X.xe s
noncomputable def pP (X:Cx) (r:V→Hp→(Bool→Hp→Prop)→Prop):Prop:=
 ∀ (pins:List (Addr × Obj)) (s:Shared) (σ:St) (H:Hp) (x:V) (v:Value) (Q:Bool→Hp→Prop),Inv X pins σ H s→gd x v→r x H Q →
  wpAny (model X.prog X.w) X.A (truthy v) (TP X pins σ Q) X.xe s
noncomputable def tOp (r:R2) (ta tb:TE):TE:=fun σ H Q=>ta σ H fun x H1=>tb σ H1 fun y H2=>r x y H2 Q
noncomputable def tUn (r:V→Hp→VK→Prop) (ta:TE):TE:=fun σ H Q=>ta σ H fun x H1=>r x H1 Q
noncomputable def rI (C:Int→Int→Prop) (g:Int→Int→V):R2:=fun x y H Q=>mj x fun i=>mj y fun j=>C i j∧Q (g i j) H
noncomputable def rI0 (g:Int→Int→V):R2:=fun x y H Q=>mj x fun i=>mj y fun j=>Q (g i j) H
noncomputable def rU (g:Int→V):V→Hp→VK→Prop:=fun x H Q=>mj x fun i=>Q (g i) H
section
variable {X:Cx} {a b c:Expr} {ta tb tc:TE} {pos:Pos}
theorem LN (ha:PE X a ta) (hb:PE X b tb) {pins:List (Addr × Obj)} {s:Shared} {σ:St} {H:Hp} {R:V→V→Hp→Prop} (I:Inv X pins σ H s)
  (h:ta σ H fun x H1=>tb σ H1 fun y H2=>R x y H2) {Q:Value→Shared→Prop} {f:Value→Value→Sem Value}
  (hf:∀ v u s2 x y H2,Inv X pins σ H2 s2→gd x v→gd y u→R x y H2→wpAny (model X.prog X.w) X.A (f v u) Q X.xe s2) :
  wpAny (model X.prog X.w) X.A (eval a X.env) (fun v s₁=>wpAny (model X.prog X.w) X.A (eval b X.env) (fun u s₂=>wpAny (model X.prog X.w) X.A (f v u) Q X.xe s₂) X.xe s₁) X.xe s:=by
 refine thn (ha pins s σ H _ I h) fun v s1 hZ1=>?_
 obtain ⟨x,H1,I1,r1,q1⟩:=hZ1;refine thn (hb pins s1 σ H1 _ I1 q1) fun u s2 hZ1=>?_
 obtain ⟨y,H2,I2,r2,q2⟩:=hZ1;exact hf v u s2 x y H2 I2 r1 r2 q2
theorem Gb {op:Operator} {r:R2} (ho:OpR X (binaryOp op) r) (ha:PE X a ta) (hb:PE X b tb):PE X (.BinOp a op b pos) (tOp r ta tb):=by
 intro pins s σ H Q I h;exact wpAny_BinOp (LN ha hb I h fun v u s2 x y H2 I2 rx ry q=>ho pins s2 σ H2 x y v u Q I2 rx ry q)
theorem VL {op:UnaryOp} {r:V→Hp→VK→Prop} (ho:UnR X (unaryOp op) r) (ha:PE X a ta):PE X (.UnaryOp op a pos) (tUn r ta):=by
 intro pins s σ H Q I h;exact UnaryOp_ (thn (ha pins s σ H _ I h) fun v s1 ⟨x,H1,I1,r1,q1⟩=>ho pins s1 σ H1 x v Q I1 r1 q1)
theorem opI {f:Value→Value→Sem Value} {C:Int→Int→Prop} {g:Int→Int→Int}
  (rule:∀ (i j:Int) (t u:Tok) (s:Shared) (Q:Value→Shared→Prop) (E:Value→Shared→Prop),C i j→Q (.int (g i j) s.toks) { s with toks:=s.toks + 1 }→wpAny (model X.prog X.w) X.A (f (.int i t) (.int j u)) Q E s) :
  OpR X f (rI C fun i j=>.int (g i j)):=by
 intro pins s σ H x y v u Q I rx ry h;obtain ⟨i,rfl,hzz⟩:=mj.out h;obtain ⟨j,rfl,hc,q⟩:=mj.out hzz;obtain ⟨t,rfl⟩:=rx;obtain ⟨t',rfl⟩:=ry;exact rule i j t t' s _ _ hc ⟨.int (g i j),H,I.tok _,⟨_,rfl⟩,q⟩
theorem jP {f:Value→Value→Sem Value} {g:Int→Int→Int}
  (rule:∀ (i j:Int) (t u:Tok) (s:Shared) (Q:Value→Shared→Prop) (E:Value→Shared→Prop),Q (.int (g i j) s.toks) { s with toks:=s.toks + 1 }→wpAny (model X.prog X.w) X.A (f (.int i t) (.int j u)) Q E s) :
  OpR X f (rI0 fun i j=>.int (g i j)):=by
 intro pins s σ H x y v u Q I rx ry h;obtain ⟨i,rfl,hzz⟩:=mj.out h;obtain ⟨j,rfl,q⟩:=mj.out hzz;obtain ⟨t,rfl⟩:=rx;obtain ⟨t',rfl⟩:=ry;exact rule i j t t' s _ _ ⟨.int (g i j),H,I.tok _,⟨_,rfl⟩,q⟩
theorem dO {f:Value→Value→Sem Value} {g:Int→Int→Bool}
  (rule:∀ (i j:Int) (t u:Tok) (s:Shared) (Q:Value→Shared→Prop) (E:Value→Shared→Prop),Q (.bool (g i j)) s→wpAny (model X.prog X.w) X.A (f (.int i t) (.int j u)) Q E s) :
  OpR X f (rI0 fun i j=>.bl (g i j)):=by
 intro pins s σ H x y v u Q I rx ry h;obtain ⟨i,rfl,hzz⟩:=mj.out h;obtain ⟨j,rfl,q⟩:=mj.out hzz;obtain ⟨t,rfl⟩:=rx;obtain ⟨t',rfl⟩:=ry;exact rule i j t t' s _ _ ⟨.bl (g i j),H,I,rfl,q⟩
noncomputable def zO (i j:Int):Prop:=0 < j∧j < 1073741824
noncomputable def lP (i j:Int):Prop:=0 ≤ j∧j ≤ 1000000∧i.natAbs < 2 ^ 64
noncomputable def pI (i j:Int):Prop:=(-(2 ^ 64) < i∧i < 2 ^ 64)∨(-(2 ^ 64) < j∧j < 2 ^ 64)
theorem pI.ok {i j:Int} (h:pI i j):IntMulOk i j:=by
 rcases h with ⟨h1,h2⟩ | ⟨h1,h2⟩
 ·exact .of_left (intBits_le_64 h1 h2)
 ·exact .of_right (intBits_le_64 h1 h2)
theorem Cd:OpR X (binaryOp .Add) (rI0 fun i j=>.int (i + j)):=jP fun _ _ _ _ _ _ _ q=>add_int q
theorem qf:OpR X (binaryOp .Sub) (rI0 fun i j=>.int (i - j)):=jP fun _ _ _ _ _ _ _ q=>sub_int q
theorem zh:OpR X (binaryOp .Mult) (rI pI fun i j=>.int (i * j)):=opI fun _ _ _ _ _ _ _ hc q=>mul_int q hc.ok
theorem EC:OpR X (binaryOp .FloorDiv) (rI zO fun i j=>.int (i / j)):=opI fun i j _ _ _ _ _ hc q=>by
 have h1:(0:Int) < j:=hc.1;have h2:j < 1073741824:=hc.2;exact floordiv_int (by omega) (by rw [Int.fdiv_eq_ediv_of_nonneg i (by omega)];exact q) (.inl (PyProof.noPylong_small (by omega)))
theorem Jd:OpR X (binaryOp .Mod) (rI (fun _ j=>0 < j) fun i j=>.int (i % j)):=opI fun i j _ _ _ _ _ hc q=>by
 have h1:(0:Int) < j:=hc;exact mod_int' (by omega) (by rw [Int.fmod_eq_emod_of_nonneg i (by omega)];exact q)
theorem fM:OpR X (binaryOp .Pow) (rI lP fun i j=>.int (i ^ j.toNat)):=opI fun _ _ _ _ _ _ _ hc q=>pow_int_small hc.1 hc.2.1 hc.2.2 q
theorem unI {f:Value→Sem Value} {g:Int→Int}
  (rule:∀ (i:Int) (t:Tok) (s:Shared) (Q:Value→Shared→Prop) (E:Value→Shared→Prop),Q (.int (g i) s.toks) { s with toks:=s.toks + 1 }→wpAny (model X.prog X.w) X.A (f (.int i t)) Q E s) :
  UnR X f (rU fun i=>.int (g i)):=by
 intro pins s σ H x v Q I rx h;obtain ⟨i,rfl,q⟩:=mj.out h;obtain ⟨t,rfl⟩:=rx;exact rule i t s _ _ ⟨.int (g i),H,I.tok _,⟨_,rfl⟩,q⟩
theorem SI:UnR X (unaryOp .USub) (rU fun i=>.int (-i)):=unI fun _ _ _ _ _ q=>neg_int q
end
noncomputable def rM:V→V→Bool
 | .non,.non=>true | .non,.int _=>true | .int _,.non=>true | .non,.bl _=>true | .bl _,.non=>true | .non,.str _=>true | .str _,.non=>true
 | .int _,.int _=>true | .bl _,.bl _=>true | .str _,.str _=>true | .byt _,.byt _=>true
 | .int _,.str _=>true | .str _,.int _=>true | .bl _,.str _=>true | .str _,.bl _=>true
 | _,_=>false
noncomputable def rEq:R2:=fun x y H Q=>rM x y=true∧Q (.bl (decide (x=y))) H
noncomputable def rNe:R2:=fun x y H Q=>rM x y=true∧Q (.bl (!decide (x=y))) H
theorem HD {i j:Int}:decide (V.int i=V.int j)=(i == j):=by
 rw [Bool.eq_iff_iff];simp
theorem CI {i j:Bool}:decide (V.bl i=V.bl j)=(i == j):=by
 rw [Bool.eq_iff_iff];simp
theorem yD {i j:Str}:decide (V.str i=V.str j)=(i == j):=by
 rw [Bool.eq_iff_iff];simp
theorem aF {i j:Array UInt8}:decide (V.byt i=V.byt j)=(i.toList == j.toList):=by
 rw [Bool.eq_iff_iff];cases i;cases j;simp
section
variable {X:Cx} {a b c:Expr} {ta tb tc:TE} {pos:Pos}
theorem Rc {pins:List (Addr × Obj)} {σ:St} {H:Hp} {s:Shared} {Q:VK} {k k':Bool} (I:Inv X pins σ H s) (q:Q (.bl k) H) (e:k=k'):EP X pins σ Q (.bool k') s:=by
 subst e;exact ⟨.bl k,H,I,rfl,q⟩
theorem Qh:OpR X (compareOp .Eq) rEq:=by
 intro pins s σ H x y v u Q I rx ry h;obtain ⟨hs,q⟩:=h;cases x with
 | non=>
  cases rx;cases y with
  | non=>cases ry;exact PySem.EqNone.eq_none_none (Rc I q (by simp))
  | bl j=>cases ry;exact PySem.EqNone.eq_none_bool (Rc I q (by simp))
  | int j=>obtain ⟨t',rfl⟩:=ry;exact PySem.EqNone.eq_none_int (Rc I q (by simp))
  | str j=>obtain ⟨t',rfl⟩:=ry;exact PySem.EqNone.eq_none_str (Rc I q (by simp))
  | _=>exact absurd (show false=true from hs) Bool.false_ne_true
 | bl i=>
  cases rx;cases y with
  | non=>cases ry;exact PySem.EqNone.eq_bool_none (Rc I q (by simp))
  | bl j=>cases ry;exact eq_bool (Rc I q CI)
  | str j=>obtain ⟨t',rfl⟩:=ry;exact PySem.EqMixed.eq_bool_str (Rc I q (by simp))
  | _=>exact absurd (show false=true from hs) Bool.false_ne_true
 | int i=>
  obtain ⟨t,rfl⟩:=rx;cases y with
  | non=>cases ry;exact PySem.EqNone.eq_int_none (Rc I q (by simp))
  | int j=>obtain ⟨t',rfl⟩:=ry;exact eq_int (Rc I q HD)
  | str j=>obtain ⟨t',rfl⟩:=ry;exact PySem.EqMixed.eq_int_str (Rc I q (by simp))
  | _=>exact absurd (show false=true from hs) Bool.false_ne_true
 | str i=>
  obtain ⟨t,rfl⟩:=rx;cases y with
  | non=>cases ry;exact PySem.EqNone.eq_str_none (Rc I q (by simp))
  | bl j=>cases ry;exact PySem.EqMixed.eq_str_bool (Rc I q (by simp))
  | int j=>obtain ⟨t',rfl⟩:=ry;exact PySem.EqMixed.eq_str_int (Rc I q (by simp))
  | str j=>obtain ⟨t',rfl⟩:=ry;exact eq_str (Rc I q yD)
  | _=>exact absurd (show false=true from hs) Bool.false_ne_true
 | byt i=>
  obtain ⟨t,rfl⟩:=rx;cases y with
  | byt j=>obtain ⟨t',rfl⟩:=ry;exact PySem.W.eq_bytes (Rc I q aF)
  | _=>exact absurd (show false=true from hs) Bool.false_ne_true
 | _=>cases y <;> exact absurd (show false=true from hs) Bool.false_ne_true
theorem zB:OpR X (compareOp .NotEq) rNe:=by
 intro pins s σ H x y v u Q I rx ry h;obtain ⟨hs,q⟩:=h;cases x with
 | non=>
  cases rx;cases y with
  | non=>cases ry;exact PySem.EqNone.ne_none_none (Rc I q (by simp))
  | bl j=>cases ry;exact PySem.EqNone.ne_none_bool (Rc I q (by simp))
  | int j=>obtain ⟨t',rfl⟩:=ry;exact PySem.EqNone.ne_none_int (Rc I q (by simp))
  | str j=>obtain ⟨t',rfl⟩:=ry;exact PySem.EqNone.ne_none_str (Rc I q (by simp))
  | _=>exact absurd (show false=true from hs) Bool.false_ne_true
 | bl i=>
  cases rx;cases y with
  | non=>cases ry;exact PySem.EqNone.ne_bool_none (Rc I q (by simp))
  | bl j=>cases ry;exact ne_bool (Rc I q (congrArg not CI))
  | str j=>obtain ⟨t',rfl⟩:=ry;exact PySem.EqMixed.ne_bool_str (Rc I q (by simp))
  | _=>exact absurd (show false=true from hs) Bool.false_ne_true
 | int i=>
  obtain ⟨t,rfl⟩:=rx;cases y with
  | non=>cases ry;exact PySem.EqNone.ne_int_none (Rc I q (by simp))
  | int j=>obtain ⟨t',rfl⟩:=ry;exact ne_int (Rc I q (congrArg not HD))
  | str j=>obtain ⟨t',rfl⟩:=ry;exact PySem.EqMixed.ne_int_str (Rc I q (by simp))
  | _=>exact absurd (show false=true from hs) Bool.false_ne_true
 | str i=>
  obtain ⟨t,rfl⟩:=rx;cases y with
  | non=>cases ry;exact PySem.EqNone.ne_str_none (Rc I q (by simp))
  | bl j=>cases ry;exact PySem.EqMixed.ne_str_bool (Rc I q (by simp))
  | int j=>obtain ⟨t',rfl⟩:=ry;exact PySem.EqMixed.ne_str_int (Rc I q (by simp))
  | str j=>obtain ⟨t',rfl⟩:=ry;exact ne_str (Rc I q (congrArg not yD))
  | _=>exact absurd (show false=true from hs) Bool.false_ne_true
 | byt i=>
  obtain ⟨t,rfl⟩:=rx;cases y with
  | byt j=>obtain ⟨t',rfl⟩:=ry;exact PySem.W.ne_bytes (Rc I q (congrArg not aF))
  | _=>exact absurd (show false=true from hs) Bool.false_ne_true
 | _=>cases y <;> exact absurd (show false=true from hs) Bool.false_ne_true
theorem Js:OpR X (compareOp .Lt) (rI0 fun i j=>.bl (decide (i < j))):=dO fun _ _ _ _ _ _ _ q=>lt_int q
theorem WM:OpR X (compareOp .LtE) (rI0 fun i j=>.bl (decide (i ≤ j))):=dO fun _ _ _ _ _ _ _ q=>le_int q
theorem Jr:OpR X (compareOp .Gt) (rI0 fun i j=>.bl (decide (j < i))):=dO fun _ _ _ _ _ _ _ q=>gt_int q
theorem zC:OpR X (compareOp .In) (fun x y H Q=>∃ i j,x=.str i∧y=.str j∧Q (.bl (!(Builtin.Str.occurrences j i 0 j.length 1).isEmpty)) H):=by
 intro pins s σ H x y v u Q I rx ry h;obtain ⟨i,j,rfl,rfl,q⟩:=h;obtain ⟨t,rfl⟩:=rx;obtain ⟨t',rfl⟩:=ry;exact in_str (Rc I q rfl)
theorem iN:OpR X (compareOp .Is) (fun x y H Q=>y=.non∧Q (.bl (decide (x=.non))) H):=by
 intro pins s σ H x y v u Q I rx ry h;obtain ⟨rfl,q⟩:=h;cases ry;refine is_none_gen (Rc I q ?_);cases x <;> first
  | (cases rx;rfl)
  | (obtain ⟨t,rfl⟩:=rx;rfl)
theorem rK:OpR X (compareOp .IsNot) (fun x y H Q=>y=.non∧Q (.bl (!decide (x=.non))) H):=by
 intro pins s σ H x y v u Q I rx ry h;obtain ⟨rfl,q⟩:=h;cases ry;refine isnot_none_gen (Rc I q ?_);cases x <;> first
  | (cases rx;rfl)
  | (obtain ⟨t,rfl⟩:=rx;rfl)
theorem Zb (b:Expr) {op:CmpOp} (h:op ≠ .In:=by decide) (h2:op ≠ .NotIn:=by decide):behindInMarks op b=false:=by
 have e1:(op == CmpOp.In)=false:=by cases op <;> first | rfl | exact absurd rfl h
 have e2:(op == CmpOp.NotIn)=false:=by cases op <;> first | rfl | exact absurd rfl h2
 cases b <;> simp [behindInMarks,e1,e2]
theorem Se {op:CmpOp} {r:R2} (ho:OpR X (compareOp op) r) (ha:PE X a ta) (hb:PE X b tb) (hm:behindInMarks op b=false):PE X (.Compare a [op] [b] pos) (tOp r ta tb):=by
 intro pins s σ H Q I h;exact wpAny_Compare1 (LN ha hb I h fun v u s2 x y H2 I2 rx ry q=>ho pins s2 σ H2 x y v u Q I2 rx ry q) hm
noncomputable def xJ (t:TE):TT:=fun σ H Q=>t σ H fun x H'=>BlQ x fun k=>Q k H'
theorem Rb {op:CmpOp} {r:R2} (ho:OpR X (compareOp op) r) (ha:PE X a ta) (hb:PE X b tb) (hm:behindInMarks op b=false):PT X (.Compare a [op] [b] pos) (xJ (tOp r ta tb)):=by
 intro pins s σ H Q I h;refine wpAny_isTrue_Compare1 (thn (ha pins s σ H _ I h) fun v s1 ⟨x,H1,I1,r1,q1⟩=>thn (hb pins s1 σ H1 _ I1 q1) fun u s2 ⟨y,H2,I2,r2,q2⟩=>
  thn (ho pins s2 σ H2 x y v u _ I2 r1 r2 q2) fun c s3 ⟨z,H3,I3,r3,zq⟩=>?_) hm
 obtain ⟨k,e,q3⟩:=BlQ.out zq;subst e;cases r3;exact wpAny_truthy_bool ⟨H3,I3,q3⟩
noncomputable def mJ (r r':R2) (ta tb tc:TE):TE:=fun σ H Q=>ta σ H fun x H1=>tb σ H1 fun y H2=>r x y H2 fun z H3=>BlQ z fun k=>
 (if k=true then tc σ H3 fun w' H4=>r' y w' H4 Q else Q (.bl false) H3)
theorem CG {op op':CmpOp} {r r':R2} (ho:OpR X (compareOp op) r) (ho':OpR X (compareOp op') r') (ha:PE X a ta) (hb:PE X b tb) (hc:PE X c tc)
  (hm:lastMarks [op,op'] [b,c]=false:=by with_unfolding_all rfl):PT X (.Compare a [op,op'] [b,c] pos) (xJ (mJ r r' ta tb tc)):=by
 intro pins s σ H Q I h;refine isTrue_chain (thn (ha pins s σ H _ I h) fun v s1 ⟨x,H1,I1,r1,q1⟩=>test_link (thn (hb pins s1 σ H1 _ I1 q1) fun u s2 ⟨y,H2,I2,r2,q2⟩=>
  thn (ho pins s2 σ H2 x y v u _ I2 r1 r2 q2) fun d s3 ⟨z,H3,I3,r3,zq⟩=>?_)) hm
 obtain ⟨k,e,q3⟩:=BlQ.out zq;subst e;cases r3;refine wpAny_truthy_bool ?_;cases k with
 | false=>
  obtain ⟨k',e',q'⟩:=BlQ.out (x:=.bl false) (k:=fun k=>Q k H3) q3;cases e';exact ite_ff ⟨H3,I3,q'⟩
 | true=>
  refine ite_tt (test_last (thn (hc pins s3 σ H3 _ I3 q3) fun w' s4 ⟨z',H4,I4,r4,q4⟩=>thn (ho' pins s4 σ H4 y z' u w' _ I4 r2 r4 q4) fun d' s5 hZ1=>?_));obtain ⟨z2,H5,I5,r5,zq⟩:=hZ1;obtain ⟨k2,e2,q5⟩:=BlQ.out zq;subst e2;cases r5;exact wpAny_truthy_bool ⟨H5,I5,q5⟩
noncomputable def yO (K:PySem.W.Frag) (x:V) (H:Hp) (k:Bool):Prop:=
 match x with
 | .non=>k=false
 | .bl b=>k=b
 | .int i=>k=(i != 0)
 | .str y=>y.length ≤ sizeLine∧k=((y.length:Int) != 0)
 | .byt y=>y.size ≤ sizeLine∧k=((y.size:Int) != 0)
 | .ref p=>(∃ xs,SqL K H p xs∧k = !xs.isEmpty)∨(∃ xs,SqT K H p xs∧k = !xs.isEmpty)∨∃ kvs,H p=some (.dK kvs)∧k = !kvs.isEmpty
 | _=>False
theorem bC {κ:Type} {kvs:List (κ × V)} {vs:List (κ × Value)} (r:KV kvs vs):(!vs.isEmpty) = !kvs.isEmpty:=by
 cases r <;> rfl
theorem et {xs:List V} {its:List Value} (r:Uc xs its):(!its.toArray.isEmpty) = !xs.isEmpty:=by
 cases r <;> simp
theorem Yp:(sizeLine:Nat) < 2 ^ 63:=by rw [sizeLine_eq];decide
theorem KL:pP X (fun x H Q=>∃ k,yO X.K x H k∧Q k H):=by
 intro pins s σ H x v Q I rx h;obtain ⟨k,e,q⟩:=h;have hl:=Yp;have hs:sizeLine=16777216:=sizeLine_eq;cases x with
 | non=>
  cases rx;have e':k=false:=e;subst e';exact truthy_none ⟨H,I,q⟩
 | bl b=>
  cases rx;have e':k=b:=e;subst e';exact wpAny_truthy_bool ⟨H,I,q⟩
 | int i=>
  obtain ⟨t,rfl⟩:=rx;have e':k=(i != 0):=e;subst e';exact PySem.P.truthy_int ⟨H,I,q⟩
 | str y=>
  obtain ⟨t,rfl⟩:=rx;obtain ⟨hy,e'⟩:y.length ≤ sizeLine∧k=((y.length:Int) != 0):=e;subst e';exact PySem.P.truthy_str (by omega) ⟨H,I.tok _,q⟩
 | byt y=>
  obtain ⟨t,rfl⟩:=rx;obtain ⟨hy,e'⟩:y.size ≤ sizeLine∧k=((y.size:Int) != 0):=e;subst e';exact PySem.W.truthy_bytes (by omega) ⟨H,I.tok _,q⟩
 | ref p=>
  cases rx;have e':(∃ xs,SqL X.K H p xs∧k = !xs.isEmpty)∨(∃ xs,SqT X.K H p xs∧k = !xs.isEmpty)∨∃ kvs,H p=some (.dK kvs)∧k = !kvs.isEmpty:=e;rcases e' with ⟨xs,hx,e'⟩ | ⟨xs,hx,e'⟩ | ⟨kvs,hx,e'⟩
  ·subst e';obtain ⟨its,r,pl,hz⟩:=I.list hx;have hlen:=r.length;exact wpAny_truthy_list pl.isList (by simp only [List.size_toArray];omega) ⟨H,I.tok _,by rw [et r];exact q⟩
  ·subst e';obtain ⟨its,r,pl,hz⟩:=I.tuple hx;have hlen:=r.length;exact truthy_tuple pl (by simp only [List.size_toArray];omega) ⟨H,I.tok _,by rw [et r];exact q⟩
  ·subst e';obtain ⟨hz,hS,vs,r,m⟩:kvs.length ≤ sizeLine∧(p == sysModules)=false∧∃ vs,KV kvs vs∧s.heap.DictOf (Pd X.prog X.w) p vs:=I.hok p _ hx;have hlen:kvs.length=vs.length:=Paired.length r;exact wpAny_truthy_dict hS m (by omega) ⟨H,I.tok _,by rw [bC r];exact q⟩
 | _=>exact (show False from e).elim
theorem bA (ha:PE X a ta) (he:∀ whole,isTrue a X.env whole=(do let v ← whole;standAt a.pos;holding [v] (truthy v))) :
  PT X a (fun σ H Q=>ta σ H fun x H'=>∃ k,yO X.K x H' k∧Q k H'):=by
 intro pins s σ H Q I h;exact isTrue_plain (thn (ha pins s σ H _ I h) fun v s1 ⟨x,H1,I1,r1,q1⟩=>KL pins s1 σ H1 x v Q I1 r1 q1) (he _)
theorem mi:OpR X (binaryOp .Add) (fun x y H Q=>∃ i j,x=.str i∧y=.str j∧i.length + j.length ≤ sizeLine∧Q (.str (i ++ j)) H):=by
 intro pins s σ H x y v u Q I rx ry h;obtain ⟨i,j,rfl,rfl,hz,q⟩:=h;obtain ⟨t,rfl⟩:=rx;obtain ⟨t',rfl⟩:=ry;exact add_str (fun t' tk=>⟨.str (i ++ j),H,I.tok _,⟨_,rfl⟩,q⟩) hz
theorem Oo {x:V} {us:List Value} (r:Uc [x] us):∃ u,us=[u]∧gd x u:=by
 cases r with
 | cons r1 r2=>cases r2;exact ⟨_,rfl,r1⟩
theorem aH {x y:V} {us:List Value} (r:Uc [x,y] us):∃ u w',us=[u,w']∧gd x u∧gd y w':=by
 cases r with
 | cons r1 r2=>
  cases r2 with
  | cons r3 r4=>cases r4;exact ⟨_,_,rfl,r1,r3⟩
theorem Ex (hc:X.calm=true):Kl X (.builtin "max") (fun xs H Q=>∃ i j,xs=[.int i,.int j]∧Q (.int (if j > i then j else i)) H):=by
 intro pins s σ H xs us Q I r h;obtain ⟨i,j,rfl,q⟩:=h;obtain ⟨u,w',rfl,⟨t,rfl⟩,⟨t',rfl⟩⟩:=aH r;refine max_two_ints (I.ok.hd hc) fun h' tk k=>⟨_,H,I.kept k,?_,q⟩
 by_cases hj:j > i
 ·rw [if_pos hj,if_pos hj];exact ⟨_,rfl⟩
 ·rw [if_neg hj,if_neg hj];exact ⟨_,rfl⟩
theorem yq (hc:X.calm=true):Kl X (.builtin "min") (fun xs H Q=>∃ i j,xs=[.int i,.int j]∧Q (.int (if j < i then j else i)) H):=by
 intro pins s σ H xs us Q I r h;obtain ⟨i,j,rfl,q⟩:=h;obtain ⟨u,w',rfl,⟨t,rfl⟩,⟨t',rfl⟩⟩:=aH r;refine min_two_ints (I.ok.hd hc) fun h' tk k=>⟨_,H,I.kept k,?_,q⟩
 by_cases hj:j < i
 ·rw [if_pos hj,if_pos hj];exact ⟨_,rfl⟩
 ·rw [if_neg hj,if_neg hj];exact ⟨_,rfl⟩
theorem fk:Kl X (.type "str") (fun xs H Q=>∃ i,xs=[.int i]∧i.natAbs.log2 < 1920∧Q (.str (toString i)) H):=by
 intro pins s σ H xs us Q I r h;obtain ⟨i,rfl,hz,q⟩:=h;obtain ⟨u,rfl,t,rfl⟩:=Oo r;exact PySem.P.str_of_int hz ⟨.str _,H,I.tok _,⟨_,rfl⟩,q⟩
theorem az:Kl X (.builtin "divmod") (fun xs H Q=>∃ i j,xs=[.int i,.int j]∧zO i j∧∀ p,H p=none→Q (.ref p) (upd H p (.tup [.int (i / j),.int (i % j)]))):=by
 intro pins s σ H xs us Q I r h;obtain ⟨i,j,rfl,⟨h1,h2⟩,q⟩:=h;obtain ⟨u,w',rfl,⟨t,rfl⟩,⟨t',rfl⟩⟩:=aH r;refine divmod_int (by omega) ?_ (.inl (PyProof.noPylong_small (by omega)));rw [Int.fdiv_eq_ediv_of_nonneg i (by omega),Int.fmod_eq_emod_of_nonneg i (by omega)];have hn:H s.heap.objs.size=none:=I.hok.fresh (Nat.le_refl _);refine ⟨.ref s.heap.objs.size,_,?_,rfl,q _ hn⟩;refine I.laid (fun b o e=>Heap.get?_push_of_some _ e) (Nat.le_refl _) ⟨⟨by simp only [List.length_cons,List.length_nil];rw [sizeLine_eq];decide,_,Heap.get?_push_size s.heap rfl,rfl⟩,[.int (i / j) s.toks,.int (i % j) (s.toks + 1)],.cons ⟨_,rfl⟩ (.cons ⟨_,rfl⟩ .nil),?_⟩;exact ⟨_,Heap.get?_push_size s.heap rfl,rfl,0,rfl⟩
end
end L2
namespace L2
open PySem PySem.Spec PyProof.Rows
structure ZK (h:Heap) (x dx C:Addr) (mA:Str→Option Value):Prop where
 obj:h.get? x=some (PySem.W.instObj C dx)
 ns:h.Ns1 dx mA
 ne:dx ≠ x
theorem YE {h:Heap} {dx:Addr} {mA:Str→Option Value} (n:h.Ns1 dx mA):∃ od,h.get? dx=some od∧∀ name,PySem.W.lookIn name od=some (mA name):=by
 obtain ⟨o,es,ep,ho,hd,hk,_,hm⟩:=n;refine ⟨o,ho,fun name=>?_⟩;have e:=hm name;unfold nsFind findBy at e;rw [← Array.find?_toList] at e;unfold PySem.W.lookIn;rw [hd];dsimp only;split
 ·rename_i y q;rw [q] at e;exact congrArg some e
 ·rename_i q;rw [q] at e;have a:es.toList.any (·.refKey)=false:=by
   rw [List.any_eq_false];intro y hy;obtain ⟨z,t,hkey⟩:=hk y (Array.mem_toList_iff.mp hy);simp [DictEntry.refKey,hkey]
  have a':¬ es.toList.any (·.refKey)=true:=by rw [a];exact Bool.false_ne_true
  rw [if_neg a'];exact congrArg some e
theorem ZK.look {h:Heap} {x dx C:Addr} {mA:Str→Option Value} (I:ZK h x dx C mA):∃ od,PySem.W.InstAt h x (PySem.W.instObj C dx) C (some od)∧∀ name,PySem.W.lookIn name od=some (mA name):=
 let ⟨od,ho,hl⟩:=YE I.ns
 ⟨od,⟨I.obj,rfl,rfl,ho⟩,hl⟩
section
variable {prog:Program} {w:World} {A:Around} {E:Value→Shared→Prop} {s:Shared} {K:PySem.W.Frag} {x dx C f:Addr} {mA:Str→Option Value} {name:Str} {v:Value}
theorem nK {expr:Bool} {Q:Value→Shared→Prop} (X:K.In s.heap) (I:ZK s.heap x dx C mA) (hg:PySem.W.plainGet K C name=true) (hh:PySem.W.hasDictIn K C=true)
  (ha:PySem.W.findIn K (.ref C) name=some none) (hv:mA name=some v) (hv':PySem.W.handedIn v=true) (h:Q v { s with toks:=s.toks + 1 }) :
  wpAny (model prog w) A (getAttr (.ref x) name expr) Q E s:=by
 obtain ⟨od,J,hl⟩:=I.look;exact PySem.W.get_value X J (PySem.W.plainGet_of hg).1 (PySem.W.findObj_own hh ha rfl (by rw [hl,hv])) hv' h
theorem yH {pl:Sem Bool} {Q:Value × List Value→Shared→Prop} (X:K.In s.heap) (I:ZK s.heap x dx C mA) (hg:PySem.W.plainGet K C name=true)
  (hf:PySem.W.findIn K (.ref C) name=some (some (.ref f))) (ht:PySem.W.isFn K (.ref f)=true) (hv:mA name=none) (h:Q (.ref f,[.ref x]) s) :
  wpAny (model prog w) A (getMethod (.ref x) name pl) Q E s:=by
 obtain ⟨od,J,hl⟩:=I.look;exact PySem.W.method_fn X J (PySem.W.plainGet_of hg).1 (PySem.W.plainGet_of hg).2 hf (beq_iff_eq.mp ht) (by show (PySem.W.lookIn name od).map (·.isSome)=some false;rw [hl,hv];rfl) h
theorem WJ {ns:List Str} {Q:Unit→Shared→Prop} (X:K.In s.heap) (I:ZK s.heap x dx C mA)
  (hs:PySem.W.findIn K (.ref C) "__setattr__"=some (some (.builtin "object.__setattr__"))) (hp:PySem.W.plainOver K C=true) (ht:PySem.W.takerIn K C name=some none) (hh:PySem.W.hasDictIn K C=true)
  (hw:PySem.Within mA ns) (hsz:ns.length ≤ sizeLine)
  (h:∀ h',ZK h' x dx C (fun y=>if y=name then some v else mA y)→Heap.SameBut dx s.heap h'→Q () { s with heap:=h',toks:=s.toks + 2 }) :
  wpAny (model prog w) A (setAttr (.ref x) name v) Q E s:=by
 obtain ⟨od,J,hl⟩:=I.look;refine PySem.W.set_plain X J hs (PySem.W.osa_open (s:={ s with toks:=s.toks + 1 }) (r:=none) X J hp ht fun b=>?_);obtain ⟨cd,hc,hd'⟩:=PySem.W.any_some hh;have hx:s.heap.get? x=some ⟨.ref C,some dx,.plain,#[]⟩:=I.obj;refine wpAny_bind (wpAny_pure (wpAny_bind (wpAny_bind (wpAny_loadPart hx (wpAny_bind (PySem.W.Looks.here (s:={ s with toks:=s.toks + 1 }) (PySem.W.looks_clsIn X hc) ?_))))));rw [hd'];refine wpAny_pure (a:=some dx) (wpAny_bind (wpAny_pure (wpAny_bind ?_)));refine wpAny_nsSet1 (s:={ s with toks:=s.toks + 1 }) I.ns fun h' hn2 hs2=>?_
 obtain ⟨oD,esD,epD,hoD,hdD,hcD⟩:=hn2.count (PySem.Within.cons name v hw);refine wpAny_bind (wpAny_lookBehind hoD (by rw [hdD];exact pastItsLine_dict (Nat.le_trans hcD (by rw [List.length_cons];omega))) ?_);exact wpAny_pure (h _ ⟨(hs2.2 _ (Ne.symm I.ne)).trans I.obj,hn2,I.ne⟩ hs2)
theorem YG {R:Result→Shared→Prop} {vs:List Value} {kw:List (Str × Value)} (X:K.In s.heap) (hm:PySem.W.makesIn K C=true)
  (hi:PySem.W.findIn K (.ref C) "__init__"=some (some (.ref f))) (hf:PySem.W.typeIn K (.ref f)=some (.type "function"))
  (h:codeAny (model prog w) (A.under (.builtin "type.__call__" ⟨.ref C :: vs,kw⟩)) (.call (.ref f) ⟨.ref (s.heap.objs.size + 1) :: vs,kw⟩) (PySem.W.InitBack (s.heap.objs.size + 1) R)
   { s with heap:=(s.heap.push PySem.W.emptyDict).push (PySem.W.instObj C s.heap.objs.size) }) :
  codeAny (model prog w) A (.call (.ref C) ⟨vs,kw⟩) R s:=by
 obtain ⟨hh,g,d,t,os⟩:=s;exact PySem.W.make_core (PySem.W.makes_of X hm) (PySem.W.looks_findIn X hi) (fun self=>PySem.W.bind_fn X self hf) (.inl rfl) h
end
noncomputable def Yh (f:Str) (v:V):List (Str × V)→List (Str × V)
 | []=>[(f,v)]
 | (g,x) :: r=>if g=f then (g,v) :: r else (g,x) :: Yh f v r
theorem Ip (f g:Str) (v:V):∀ fs:List (Str × V),(Yh f v fs).lookup g=if g=f then some v else fs.lookup g
 | []=>by
  show List.lookup g [(f,v)]=_;by_cases h:g=f
  ·have hb:(g == f)=true:=beq_iff_eq.mpr h;simp only [List.lookup,hb,if_pos h]
  ·have hb:(g == f)=false:=beq_eq_false_iff_ne.mpr h;simp only [List.lookup,hb,if_neg h]
 | (k,x) :: r=>by
  have ih:=Ip f g v r;rw [show Yh f v ((k,x) :: r)=(if k=f then (k,v) :: r else (k,x) :: Yh f v r) from rfl];by_cases hk:k=f
  ·rw [if_pos hk];by_cases h:g=k
   ·have hb:(g == k)=true:=beq_iff_eq.mpr h;simp only [List.lookup,hb,if_pos (h.trans hk)]
   ·have hb:(g == k)=false:=beq_eq_false_iff_ne.mpr h;simp only [List.lookup,hb,if_neg (fun e:g=f=>h (e.trans hk.symm))]
  ·rw [if_neg hk];by_cases h:g=k
   ·have hb:(g == k)=true:=beq_iff_eq.mpr h;simp only [List.lookup,hb,if_neg (fun e:g=f=>hk (h.symm.trans e))]
   ·have hb:(g == k)=false:=beq_eq_false_iff_ne.mpr h;simp only [List.lookup,hb];exact ih
theorem jr (f:Str) (v:V):∀ fs:List (Str × V),f ∈ (Yh f v fs).map (·.1)∧∀ g,g ∈ fs.map (·.1)→g ∈ (Yh f v fs).map (·.1)
 | []=>⟨by simp [Yh],fun g h=>by simp at h⟩
 | (k,x) :: r=>by
  obtain ⟨i1,i2⟩:=jr f v r;rw [show Yh f v ((k,x) :: r)=(if k=f then (k,v) :: r else (k,x) :: Yh f v r) from rfl];by_cases hk:k=f
  ·rw [if_pos hk];subst hk;exact ⟨by simp,fun g h=>by simpa using h⟩
  ·rw [if_neg hk];refine ⟨?_,fun g h=>?_⟩
   ·rw [List.map_cons];exact List.mem_cons_of_mem _ i1
   ·rw [List.map_cons] at h ⊢;rcases List.mem_cons.mp h with e | e
    ·exact List.mem_cons.mpr (.inl e)
    ·exact List.mem_cons_of_mem _ (i2 g e)
theorem Ll (f:Str) (v:V):∀ fs:List (Str × V),(Yh f v fs).length ≤ fs.length + 1
 | []=>by simp [Yh]
 | (k,x) :: r=>by
  have ih:=Ll f v r;rw [show Yh f v ((k,x) :: r)=(if k=f then (k,v) :: r else (k,x) :: Yh f v r) from rfl];by_cases hk:k=f
  ·rw [if_pos hk,List.length_cons,List.length_cons];omega
  ·rw [if_neg hk,List.length_cons,List.length_cons];omega
theorem Gu.some_of {v:V} {o:Option Value} (r:Gu (some v) o):∃ u,o=some u∧gd v u:=by
 cases o with
 | none=>exact (show False from r).elim
 | some u=>exact ⟨u,rfl,r⟩
theorem Gu.none_of {o:Option Value} (r:Gu none o):o=none:=by
 cases o with
 | none=>rfl
 | some u=>exact (show False from r).elim
theorem WC {v:V} {u:Value} (r:gd v u):PySem.W.handedIn u=true:=by
 cases v with
 | non=>cases (show u=Value.none from r);rfl
 | bl b=>cases (show u=Value.bool b from r);rfl
 | int i=>obtain ⟨t,e⟩:=(show ∃ t,u=Value.int i t from r);cases e;rfl
 | str x=>obtain ⟨t,e⟩:=(show ∃ t,u=Value.str x t from r);cases e;rfl
 | byt b=>obtain ⟨t,e⟩:=(show ∃ t,u=Value.bytes b t from r);cases e;rfl
 | flt b=>obtain ⟨t,e⟩:=(show ∃ t,u=Value.float b t from r);cases e;rfl
 | ref a=>cases (show u=Value.ref a from r);rfl
 | ty n=>cases (show u=Value.type n from r);rfl
section
variable {P:Program} {w:World} {H H':Hp} {h h':Heap} {a C dx:Addr} {fs fs':List (Str × V)}
theorem xv (hok:HOk P w H h) (e:H a=some (.ins C dx fs)):∃ mA,ZK h a dx C mA∧(∀ f,Gu (fs.lookup f) (mA f))∧PySem.Within mA (fs.map (·.1))∧fs.length ≤ 1000∧H dx=some (.own a):=by
 obtain ⟨d,z,ne,ob,mA,n,r,q⟩:=(show qd P w H h a (.ins C dx fs) from hok a _ e);exact ⟨mA,⟨ob,n,ne⟩,r,q,z,d⟩
end
structure Cls (K:PySem.W.Frag) (C:Addr):Prop where
 pg:PySem.W.plainGet K C Str.empty=true
 hd:PySem.W.hasDictIn K C=true
 po:PySem.W.plainOver K C=true
 sa:PySem.W.findIn K (.ref C) "__setattr__"=some (some (.builtin "object.__setattr__"))
theorem Cls.get {K:PySem.W.Frag} {C:Addr} (c:Cls K C) (f:Str):PySem.W.plainGet K C f=true:=c.pg
noncomputable def Ub (K:PySem.W.Frag) (C:Addr) (f:Str):Prop:=PySem.W.findIn K (.ref C) f=some none
theorem Ub.taker {K:PySem.W.Frag} {C:Addr} {f:Str} (n:Ub K C f):PySem.W.takerIn K C f=some none:=by
 unfold PySem.W.takerIn;rw [show PySem.W.findIn K (.ref C) f=some none from n];rfl
structure Con (K:PySem.W.Frag) (C:Addr) (f:Str) (v:V) (u:Value):Prop where
 at_:PySem.W.findIn K (.ref C) f=some (some u)
 rel:gd v u
 get:PySem.W.specialIn K u "__get__"=some none
 cp:PySem.W.copiedNames.contains f=false
structure yr (K:PySem.W.Frag) (C:Addr) (m:Str) (f:Addr):Prop where
 at_:PySem.W.findIn K (.ref C) m=some (some (.ref f))
 fn:PySem.W.isFn K (.ref f)=true
 kp:PySem.W.keepIn K (.ref f)=true
section
variable {X:Cx} {pins:List (Addr × Obj)} {σ:St} {H:Hp} {s:Shared} {a C dx:Addr} {fs:List (Str × V)} {f:Str} {v:V} {A:Around} {E:Value→Shared→Prop}
theorem lu {b:Bool} {Q:Value→Shared→Prop} (I:Inv X pins σ H s) (e:H a=some (.ins C dx fs)) (c:Cls X.K C) (n:Ub X.K C f) (l:fs.lookup f=some v)
  (h:∀ u s',Inv X pins σ H s'→gd v u→Q u s'):wpAny (model X.prog X.w) A (getAttr (.ref a) f b) Q E s:=by
 obtain ⟨mA,O,r,_,_,_⟩:=xv I.hok e;obtain ⟨u,hu,ru⟩:=Gu.some_of (v:=v) (o:=mA f) (by rw [← l];exact r f);exact nK I.kIn O (c.get f) c.hd n hu (WC ru) (h u _ (I.tok _) ru)
theorem Bk {m:Str} {g:Addr} {pl:Sem Bool} {Q:Value × List Value→Shared→Prop} (I:Inv X pins σ H s) (e:H a=some (.ins C dx fs)) (c:Cls X.K C) (k:yr X.K C m g) (l:fs.lookup m=none)
  (h:Q (.ref g,[.ref a]) s):wpAny (model X.prog X.w) A (getMethod (.ref a) m pl) Q E s:=by
 obtain ⟨mA,O,r,_,_,_⟩:=xv I.hok e;have hn:mA m=none:=Gu.none_of (by rw [← l];exact r m);exact yH I.kIn O (c.get m) k.at_ k.fn hn h
theorem Rt {y:V} {u:Value} {Q:Unit→Shared→Prop} (I:Inv X pins σ H s) (e:H a=some (.ins C dx fs)) (c:Cls X.K C) (n:Ub X.K C f) (hl:fs.length < 1000) (ry:gd y u)
  (h:∀ s',Inv X pins σ (upd H a (.ins C dx (Yh f y fs))) s'→Q () s'):wpAny (model X.prog X.w) A (setAttr (.ref a) f u) Q E s:=by
 obtain ⟨mA,O,r,wi,_,ho⟩:=xv I.hok e;have hz:(fs.map (·.1)).length ≤ sizeLine:=by rw [List.length_map,sizeLine_eq];omega
 refine WJ I.kIn O c.sa c.po n.taker c.hd wi hz fun h' O' sb=>h _ ?_
 have hd:∃ o,h'.get? dx=some o:=let ⟨o,_,_,e',_⟩:=O'.ns;⟨o,e'⟩;refine I.write (x:=a) (e:=dx) (by rw [e];exact True.intro) (.inr ho) (fun b q hb z=>(sb.2 b hb).trans z) hd ?_;refine ⟨by rw [pb O.ne];exact ho,?_,O.ne,O'.obj,_,O'.ns,fun g=>?_,fun g hg=>?_⟩
 ·have:=Ll f y fs;omega
 ·show Gu ((Yh f y fs).lookup g) (if g=f then some u else mA g);rw [Ip];by_cases q:g=f
  ·rw [if_pos q,if_pos q];exact ry
  ·rw [if_neg q,if_neg q];exact r g
 ·by_cases q:g=f
  ·rw [q];exact (jr f y fs).1
  ·refine (jr f y fs).2 g (wi g fun z=>hg ?_);show (if g=f then some u else mA g)=none;rw [if_neg q];exact z
theorem Inv.made (I:Inv X pins σ H s):Inv X pins σ (upd (upd H s.heap.objs.size (.own (s.heap.objs.size + 1))) (s.heap.objs.size + 1) (.ins C s.heap.objs.size []))
  { s with heap:=(s.heap.push PySem.W.emptyDict).push (PySem.W.instObj C s.heap.objs.size) }:=by
 have e1:(s.heap.push PySem.W.emptyDict).get? s.heap.objs.size=some PySem.W.emptyDict:=Heap.get?_push_size s.heap rfl;have e2:((s.heap.push PySem.W.emptyDict).push (PySem.W.instObj C s.heap.objs.size)).get? (s.heap.objs.size + 1)=some (PySem.W.instObj C s.heap.objs.size):=by
  have:=Heap.get?_push_size (s.heap.push PySem.W.emptyDict) (o:=PySem.W.instObj C s.heap.objs.size) rfl;rwa [Heap.size_push] at this
 have e3:(s.heap.push PySem.W.emptyDict).Ns s.heap.objs.size (fun _=>none):=⟨PySem.W.emptyDict,#[],_,e1,rfl,(fun e he=>absurd he (by simp)),fun _=>rfl⟩;have I1:=I.laid (a:=s.heap.objs.size) (o:=.own (s.heap.objs.size + 1)) (h':=s.heap.push PySem.W.emptyDict) (t':=s.toks) (fun b u q=>Heap.get?_push_of_some _ q) (Nat.le_refl _) ⟨_,e1⟩;refine I1.laid (a:=s.heap.objs.size + 1) (o:=.ins C s.heap.objs.size []) (t':=s.toks) (fun b u q=>Heap.get?_push_of_some _ q) (Nat.le_of_eq (Heap.size_push _ _)) ?_;have ne:s.heap.objs.size ≠ s.heap.objs.size + 1:=Nat.ne_of_lt (Nat.lt_succ_self _);refine ⟨by rw [pb ne,db],Nat.zero_le _,ne,e2,fun _=>none,(Heap.Ns1.of_empty e3).at fun o q=>Heap.get?_push_of_some _ q,fun _=>True.intro,fun y hy=>absurd rfl hy⟩
theorem eK {prog:Program} {w:World} {env:Env} {e:Expr} {f:Str} {pos:Pos} {s:Shared} {Q:Value→Shared→Prop} (hb:attributeBase e f env (eval e env)=eval e env)
  (h:wpAny (model prog w) A (eval e env) (fun o s₁=>wpAny (model prog w) A (getAttr o f true) Q E s₁) E s):wpAny (model prog w) A (eval (.Attribute e f pos) env) Q E s:=
 Attribute_any_ h (by rw [arm_eval_Attribute,hb])
end
noncomputable def oj (K:PySem.W.Frag) (H:Hp) (a:Addr) (f:Str) (v:V):Prop:=∃ C dx fs,H a=some (.ins C dx fs)∧Cls K C∧Ub K C f∧fs.lookup f=some v
noncomputable def VO (K:PySem.W.Frag) (ta:TE) (f:Str):TE:=fun σ H Q=>ta σ H fun x H1=>yh x fun a=>∃ v,oj K H1 a f v∧Q v H1
noncomputable def FO (K:PySem.W.Frag) (ta tv:TE) (f:Str):TS:=fun D σ H=>tv σ H fun y H1=>ta σ H1 fun x H2=>yh x fun a=>∃ C dx fs,H2 a=some (.ins C dx fs)∧Cls K C∧Ub K C f∧fs.length < 1000 ∧
 D.nx σ (upd H2 a (.ins C dx (Yh f y fs)))
noncomputable def xO (X:Cx) (op:Operator) (rd:V→V→Hp→VK→Prop):Prop:=
 ∀ (pins:List (Addr × Obj)) (s:Shared) (σ:St) (H:Hp) (x y:V) (u v:Value) (Q:VK),Inv X pins σ H s→gd x u→gd y v→rd x y H Q→wpAny (model X.prog X.w) X.A (inplaceOp op u v) (EP X pins σ Q) X.xe s
noncomputable def lG (K:PySem.W.Frag) (ta tv:TE) (rd:V→V→Hp→VK→Prop) (f:Str):TS:=fun D σ H=>ta σ H fun x H1=>∃ a C dx fs v,x=.ref a∧H1 a=some (.ins C dx fs)∧Cls K C∧Ub K C f∧fs.lookup f=some v ∧
 tv σ H1 fun y H2=>rd v y H2 fun z H3=>∃ dx' fs',H3 a=some (.ins C dx' fs')∧fs'.length < 1000∧D.nx σ (upd H3 a (.ins C dx' (Yh f z fs')))
section
variable {X:Cx} {o e value:Expr} {f:Str} {pos pos' tpos:Pos} {ta tv:TE}
theorem fc (he:PE X e ta) (hb:attributeBase e f X.env (eval e X.env)=eval e X.env):PE X (.Attribute e f pos) (VO X.K ta f):=by
 intro pins s σ H Q I h;refine eK hb (thn (he pins s σ H _ I h) fun u s1 hZ1=>?_);obtain ⟨x,H1,I1,rx,zq⟩:=hZ1;obtain ⟨a,ex,v,⟨C,dx,fs,ea,c,n,l⟩,q⟩:=yh.out zq;subst ex;obtain rfl:u=Value.ref a:=rx;exact lu I1 ea c n l fun u' s2 I2 ru=>⟨v,H1,I2,ru,q⟩
theorem vf (ha:PE X o ta) (hv:PE X value tv) (hs:swapsWith value (some (.Attribute o f pos')) pos.line X.env=pure false):PS X (.Assign [.Attribute o f pos'] value pos) (FO X.K ta tv f):=by
 intro pins s σ H D I h;refine plainObj_wpAny_Assign_Attribute (thn (hv pins s σ H _ I h) fun u s1 ⟨y,H1,I1,ry,q⟩=>thn (ha pins s1 σ H1 _ I1 q) fun ov s2 hZ1=>?_) hs;obtain ⟨x,H2,I2,rx,zq⟩:=hZ1;obtain ⟨a,ex,C,dx,fs,ea,c,n,l,q2⟩:=yh.out zq;subst ex;obtain rfl:ov=Value.ref a:=rx;exact Rt I2 ea c n l ry fun s3 I3=>⟨σ,_,I3,q2⟩
theorem HE {op:Operator} {rd:V→V→Hp→VK→Prop} (ha:PE X o ta) (hv:PE X value tv) (hop:xO X op rd):PS X (.AugAssign (.Attribute o f tpos) op value pos) (lG X.K ta tv rd f):=by
 intro pins s σ H D I h;refine wpAny_AugAssign_AttributeAny (thn (ha pins s σ H _ I h) fun ov s1 hZ1=>?_);obtain ⟨x,H1,I1,rx,a,C,dx,fs,v,ex,ea,c,n,l,q⟩:=hZ1;subst ex;obtain rfl:ov=Value.ref a:=rx;refine lu I1 ea c n l fun u s2 I2 ru=>thn (hv pins s2 σ H1 _ I2 q) fun w3 s3 ⟨y,H2,I3,ry,q3⟩=>thn (hop pins s3 σ H2 v y u w3 _ I3 ru ry q3) fun w4 s4 hZ1=>?_
 obtain ⟨z,H3,I4,rz,dx',fs',ea',l',q4⟩:=hZ1;exact Rt I4 ea' c n l' rz fun s5 I5=>⟨σ,_,I5,q4⟩
noncomputable def GO:V→V→Hp→VK→Prop:=fun x y H Q=>∃ i j,x=.int i∧y=.int j∧Q (.int (i + j)) H
theorem YL:xO X .Add GO:=by
 rintro pins s σ H x y u v Q I rx ry ⟨i,j,rfl,rfl,q⟩;obtain ⟨t,rfl⟩:=(show ∃ t,u=Value.int i t from rx);obtain ⟨t',rfl⟩:=(show ∃ t',v=Value.int j t' from ry);exact PyProof.Rows.iadd_int ⟨.int (i + j),H,I.tok _,⟨_,rfl⟩,q⟩
end
section
variable {X:Cx} {pins:List (Addr × Obj)} {σ:St} {H:Hp} {s:Shared} {A:Around} {E:Value→Shared→Prop} {Q:Value→Shared→Prop} {c:Value} {b:Bool}
inductive Tz (K:PySem.W.Frag) (H:Hp):V→Value→Prop where
 | non:Tz K H .non (.type "NoneType")
 | bl (x:Bool):Tz K H (.bl x) (.type "bool")
 | int (i:Int):Tz K H (.int i) (.type "int")
 | str (x:Str):Tz K H (.str x) (.type "str")
 | flt (x:UInt64):Tz K H (.flt x) (.type "float")
 | lst {a:Addr} {xs:List V} (e:H a=some (.lst xs)):Tz K H (.ref a) (.type "list")
 | frz {a:Addr} {o:Obj} {xs:List V} (e:H a=some (.frz o (.lst xs))):Tz K H (.ref a) (.type "list")
 | tup {a:Addr} {xs:List V} (e:H a=some (.tup xs)):Tz K H (.ref a) (.type "tuple")
 | dK {a:Addr} {kvs:List (Key × V)} (e:H a=some (.dK kvs)):Tz K H (.ref a) (.type "dict")
 | dT {a:Addr} {kvs:List (List Key × V)} (e:H a=some (.dT kvs)):Tz K H (.ref a) (.type "dict")
 | ins {a C dx:Addr} {fs:List (Str × V)} (e:H a=some (.ins C dx fs)) (cl:Cls K C) (ha:PySem.W.findIn K (.ref C) "__class__"=some (some (.builtin "object.__class__")))
   (hn:PySem.W.specialIn K (.builtin "object.__class__") "__get__"=some (some (.builtin "getset_descriptor.__get__"))) (htk:PySem.W.takesIn K (.builtin "object.__class__")=some true)
   (hm:PySem.W.mroIn K C (.type "object")=some true):Tz K H (.ref a) (.ref C)
theorem wF {x:V} {u t:Value} (I:Inv X pins σ H s) (rx:gd x u) (ty:Tz X.K H x t) (e:PySem.W.kitOne X.K t c=some b) (h:∀ tk,Q (.bool b) { s with toks:=tk }) :
  wpAny (model X.prog X.w) A (call (.builtin "isinstance") [u,c]) Q E s:=by
 cases ty with
 | non=>cases (show u=Value.none from rx);exact PySem.W.kia_one PySem.W.kitx_none I.kIn True.intro e (fun z=>nomatch z) h
 | bl y=>cases (show u=Value.bool y from rx);exact PySem.W.kia_one PySem.W.kitx_bool I.kIn True.intro e (fun z=>nomatch z) h
 | int i=>obtain ⟨t,q⟩:=(show ∃ t,u=Value.int i t from rx);cases q;exact PySem.W.kia_one PySem.W.kitx_int I.kIn True.intro e (fun z=>nomatch z) h
 | str y=>obtain ⟨t,q⟩:=(show ∃ t,u=Value.str y t from rx);cases q;exact PySem.W.kia_one PySem.W.kitx_str I.kIn True.intro e (fun z=>nomatch z) h
 | flt y=>obtain ⟨t,q⟩:=(show ∃ t,u=Value.float y t from rx);cases q;exact PySem.W.kia_one PySem.W.kitx_float I.kIn True.intro e (fun z=>nomatch z) h
 | @lst a xs ea=>
  cases (show u=Value.ref a from rx);obtain ⟨_,_,n,_,h1⟩:=(show qd X.prog X.w H s.heap a (.lst xs) from I.hok a _ ea);exact PySem.W.kia_one PySem.W.kitx_list I.kIn ⟨_,h1,rfl⟩ e (fun z=>nomatch z) h
 | @frz a ob xs ea=>
  cases (show u=Value.ref a from rx);obtain ⟨_,_,_,n,_,h1⟩:=(show qd X.prog X.w H s.heap a (.frz ob (.lst xs)) from I.hok a _ ea);exact PySem.W.kia_one PySem.W.kitx_list I.kIn ⟨_,h1,rfl⟩ e (fun z=>nomatch z) h
 | @tup a xs ea=>
  cases (show u=Value.ref a from rx);obtain ⟨_,_,_,p⟩:=(show qd X.prog X.w H s.heap a (.tup xs) from I.hok a _ ea);obtain ⟨o,h1,h2,_⟩:=p;exact PySem.W.kia_one PySem.W.kitx_tuple I.kIn ⟨o,h1,h2⟩ e (fun z=>nomatch z) h
 | @dK a kvs ea=>
  cases (show u=Value.ref a from rx);obtain ⟨_,_,vs,_,p⟩:=(show qd X.prog X.w H s.heap a (.dK kvs) from I.hok a _ ea);obtain ⟨o,es,ep,h1,h2,_⟩:=p;exact PySem.W.kia_one PySem.W.kitx_dict I.kIn ⟨o,h1,h2.1⟩ e (fun z=>nomatch z) h
 | @dT a kvs ea=>
  cases (show u=Value.ref a from rx);obtain ⟨_,_,xs,_,o,es,ep,h1,h2,_⟩:=(show qd X.prog X.w H s.heap a (.dT kvs) from I.hok a _ ea);exact PySem.W.kia_one PySem.W.kitx_dict I.kIn ⟨o,h1,h2.1⟩ e (fun z=>nomatch z) h
 | @ins a C dx fs ea cl ha hn htk hm=>
  cases (show u=Value.ref a from rx);obtain ⟨mA,O,_⟩:=xv I.hok ea;obtain ⟨od,J,_⟩:=O.look;exact PySem.W.kia_one (PySem.W.kitx_own (cl.get _) cl.hd ha hn htk hm) I.kIn J e (fun z=>nomatch z) h
end
end L2
namespace L2
open PySem PySem.Spec PyProof.Rows
structure ui (k:Nat) (A:Around):Prop where
 hd:A.handled=none
 dp:A.depth + 3 * k + 5 < recursionLimit
 un:A.units + 16 * k + 200 < cLine
theorem ui.mono {j k:Nat} {A:Around} (r:ui k A) (h:j ≤ k):ui j A:=⟨r.hd,by have:=r.dp;omega,by have:=r.un;omega⟩
theorem ui.deeper {k:Nat} {A:Around} (r:ui (k + 1) A) (env:Env):ui k (A.deeper env):=
 ⟨r.hd,by have:=r.dp;show A.depth + 1 + 3 * k + 5 < _;omega,by have:=r.un;show A.units + 3 + 16 * k + 200 < _;omega⟩
theorem ui.in1 {k:Nat} {A:Around} (r:ui (k + 1) A):ui k A.in1:=
 ⟨r.hd,by have:=r.dp;show A.depth + 3 * k + 5 < _;omega,by have:=r.un;show A.units + 1 + 16 * k + 200 < _;omega⟩
theorem vB {A:Around} {C:Addr} {us:List Value} {kw:List (Str × Value)}:(A.under (.builtin "type.__call__" ⟨.ref C :: us,kw⟩)).depth=A.depth + 1:=by
 first | rfl | simp [Around.under,Code.weight,Code.isCreation,Code.isGuard,Code.isCaller,Code.frames,Code.isFrame,guardIds]
theorem AB {A:Around} {C:Addr} {us:List Value} {kw:List (Str × Value)}:(A.under (.builtin "type.__call__" ⟨.ref C :: us,kw⟩)).units=A.units + 1:=by
 first | rfl | simp [Around.under,Code.cUnits,Code.frames,Code.isFrame]
theorem ui.make {k:Nat} {A:Around} (r:ui (k + 1) A) (C:Addr) (us:List Value) (kw:List (Str × Value)):ui k (A.under (.builtin "type.__call__" ⟨.ref C :: us,kw⟩)):=
 ⟨r.hd,by have:=r.dp;rw [vB];omega,by have:=r.un;rw [AB];omega⟩
theorem ui.depth {k:Nat} {A:Around} (r:ui k A):A.depth < recursionLimit:=by have:=r.dp;omega
theorem ui.units {k:Nat} {A:Around} (r:ui k A):A.units + 64 < cLine:=by have:=r.un;omega
noncomputable def CN:TA:=fun _ H Q=>Q [] H
noncomputable def tL (ta:TE) (tr:TA):TA:=fun σ H Q=>ta σ H fun x H1=>tr σ H1 fun xs H2=>Q (x :: xs) H2
section
variable {X:Cx} {e:Expr} {es:List Expr} {te:TE} {t:TA} {pos:Pos}
theorem fb:PA X [] CN:=fun _ _ _ _ H Q I h=>Calls.spliced_nil ⟨[],H,I,.nil,h⟩
theorem ab (ha:PE X e te) (hr:PA X es t) (hs:starEach (e :: es) X.env=(false,eval e X.env) :: starEach es X.env:=by rfl):PA X (e :: es) (tL te t):=by
 intro pos pins s σ H Q I h;rw [hs];show wpAny _ _ (spliced ((false,eval e X.env) :: backTo pos (starEach es X.env))) _ _ s;refine Calls.spliced_cons (thn (ha pins s σ H _ I h) fun u s1 hZ1=>?_);obtain ⟨x,H1,I1,r1,q1⟩:=hZ1;exact thn (hr pos pins s1 σ H1 _ I1 q1) fun us s2 ⟨xs,H2,I2,r2,q2⟩=>⟨x :: xs,H2,I2,.cons r1 r2,q2⟩
noncomputable def SO (t:TA):TE:=fun σ H Q=>t σ H fun xs H1=>xs.length ≤ sizeLine∧∀ p,H1 p=none→Q (.ref p) (upd H1 p (.tup xs))
noncomputable def bP (t:TA):TE:=fun σ H Q=>t σ H fun xs H1=>xs.length ≤ sizeLine∧∀ p,H1 p=none→Q (.ref p) (upd H1 p (.lst xs))
theorem Bo {x1} (h:PA X es t):PE X (.Tuple es x1 pos) (SO t):=by
 intro pins s σ H Q I hq;refine wpAny_Tuple_spliced (thn (h pos pins s σ H _ I hq) fun us s1 ⟨xs,H1,I1,r,z,q⟩=>⟨by rw [← r.length];exact z,?_⟩);have hf:H1 s1.heap.objs.size=none:=I1.hok.fresh (Nat.le_refl _);refine ⟨.ref s1.heap.objs.size,upd H1 s1.heap.objs.size (.tup xs),I1.laid (t':=s1.toks) (fun b u e=>Heap.get?_push_of_some _ e) (Nat.le_refl _) ?_,rfl,q _ hf⟩;exact ⟨⟨z,_,Heap.get?_push_size _ rfl,rfl⟩,us,r,⟨_,Heap.get?_push_size _ rfl,rfl,_,rfl⟩⟩
theorem gf (h:PA X es t):PE X (.List es pos) (bP t):=by
 intro pins s σ H Q I hq;refine wpAny_List_spliced (thn (h pos pins s σ H _ I hq) fun us s1 ⟨xs,H1,I1,r,z,q⟩=>⟨by rw [← r.length];exact z,?_⟩);have hf:H1 s1.heap.objs.size=none:=I1.hok.fresh (Nat.le_refl _);refine ⟨.ref s1.heap.objs.size,upd H1 s1.heap.objs.size (.lst xs),I1.laid (t':=s1.toks) (fun b u e=>Heap.get?_push_of_some _ e) (Nat.le_refl _) ?_,rfl,q _ hf⟩;exact ⟨z,us,0,r,Heap.get?_push_size _ rfl⟩
end
noncomputable abbrev Sp:=List V→Hp→VK→XK→Prop
noncomputable abbrev CXT:=List Env→Hp→Shared→XK→Value→Shared→Prop
structure qE (P:Program) (w:World) (K:PySem.W.Frag) (mg:Str→Option Value) (base:Heap) (A:Around) (outer:List Env) (s:Shared) (H:Hp):Prop where
 frames:A.frames=some outer
 mod:Mod K mg base
 bs:∀ b o,base.get? b=some o→s.heap.get? b=some o∧H b=none
 bsz:base.objs.size ≤ s.heap.objs.size
 funs:s.heap.FunFrames base outer
 frf:∀ b ∈ frs outer,H b=none
 hok:HOk P w H s.heap
 bare:AllBare s.gens
noncomputable def CE (outer:List Env) (P:Program) (w:World) (H:Hp) (s:Shared) (Q:VK) (u:Value) (s':Shared):Prop:=
 ∃ v H',s'.os=s.os∧AllBare s'.gens∧Un (frs outer) [] H H' s.heap s'.heap∧HOk P w H' s'.heap∧gd v u∧Q v H'
noncomputable def CR (CX:CXT) (outer:List Env) (P:Program) (w:World) (H:Hp) (s:Shared) (Q:VK) (E:XK) (r:Result) (s':Shared):Prop:=
 match r with
 | .ok (.ret u)=>CE outer P w H s Q u s'
 | .ok _=>False
 | .error e=>CX outer H s E e s'
structure Eb (P:Program) (w:World) (K:PySem.W.Frag) (mg:Str→Option Value) (base:Heap) (CX:CXT) (k:Nat) (f:Addr) (fd:FuncData) (ps:List Str) (sp:Sp):Prop where
 len:∀ vs H Q E,sp vs H Q E→vs.length=ps.length
 run:∀ (A:Around) (outer:List Env) (s:Shared) (H:Hp) (args:Args) (us:List Value) (vs:List V) (Q:VK) (E:XK),ui k A→qE P w K mg base A outer s H→BindsTo s fd args (ps.zip us)→Uc vs us→sp vs H Q E →
  codeAny (model P w) A (.call (.ref f) args) (CR CX outer P w H s Q E) s
theorem Eb.mono {P:Program} {w:World} {K:PySem.W.Frag} {mg:Str→Option Value} {base:Heap} {CX:CXT} {j k:Nat} {f:Addr} {fd:FuncData} {ps:List Str} {sp:Sp} (F:Eb P w K mg base CX j f fd ps sp) (h:j ≤ k) :
  Eb P w K mg base CX k f fd ps sp:=⟨F.len,fun A outer s H args us vs Q E hr=>F.run A outer s H args us vs Q E (hr.mono h)⟩
theorem Eb.imp {P:Program} {w:World} {K:PySem.W.Frag} {mg:Str→Option Value} {base:Heap} {CX:CXT} {k:Nat} {f:Addr} {fd:FuncData} {ps:List Str} {sp sp':Sp} (F:Eb P w K mg base CX k f fd ps sp)
  (h:∀ vs H Q E,sp' vs H Q E→sp vs H Q E):Eb P w K mg base CX k f fd ps sp':=
 ⟨fun vs H Q E q=>F.len vs H Q E (h _ _ _ _ q),fun A outer s H args us vs Q E hr he hb hv hs=>F.run A outer s H args us vs Q E hr he hb hv (h _ _ _ _ hs)⟩
theorem qE.make {P:Program} {w:World} {K:PySem.W.Frag} {mg:Str→Option Value} {base:Heap} {A:Around} {outer:List Env} {s:Shared} {H:Hp} (e:qE P w K mg base A outer s H) (C:Addr) (us:List Value) (kw:List (Str × Value)) :
  qE P w K mg base (A.under (.builtin "type.__call__" ⟨.ref C :: us,kw⟩)) outer s H:=⟨by first | exact e.frames | (simpa [Around.under,Code.envs,Code.isFrame,pushEnvs] using e.frames),e.mod,e.bs,e.bsz,e.funs,e.frf,e.hok,e.bare⟩
theorem qE.in1 {P:Program} {w:World} {K:PySem.W.Frag} {mg:Str→Option Value} {base:Heap} {A:Around} {outer:List Env} {s:Shared} {H:Hp} (e:qE P w K mg base A outer s H) :
  qE P w K mg base A.in1 outer s H:=⟨e.frames,e.mod,e.bs,e.bsz,e.funs,e.frf,e.hok,e.bare⟩
section
variable {X:Cx} {pins:List (Addr × Obj)} {σ:St} {H:Hp} {s s':Shared}
theorem Inv.env0 (I:Inv X pins σ H s):qE X.prog X.w X.K X.mg X.base X.A X.stack s H:=
 ⟨I.ok.frames,I.ok.mod,I.bs,Nat.le_trans I.ok.bsz I.sz,I.stack,I.stkFree,I.hok,I.bare⟩
theorem Inv.after {Q:VK} {u:Value} (I:Inv X pins σ H s) (h:CE X.stack X.prog X.w H s Q u s'):EP X pins σ Q u s':=by
 obtain ⟨v,H',os,bare,un,hok,r,q⟩:=h;obtain ⟨hh,g,d,t,os'⟩:=s';obtain rfl:os'=s.os:=os;exact ⟨v,H',I.call (h':=hh) (g':=g) (d':=d) (t':=t) (ch:=[]) un hok bare (fun b z=>absurd z (by simp)),r,q⟩
end
noncomputable def NH (sp:Sp) (dvs:List V) (E:XK) (t:TA):TE:=fun σ H Q=>t σ H fun vs H1=>sp (vs ++ dvs) H1 Q E
noncomputable def AK (C:Addr) (m:Str) (sp:Sp) (dvs:List V) (E:XK) (ta:TE) (t:TA):TE:=fun σ H Q=>ta σ H fun x H1=>yh x fun a=>∃ dx fs,H1 a=some (.ins C dx fs)∧fs.lookup m=none ∧
 t σ H1 fun vs H2=>sp (x :: (vs ++ dvs)) H2 Q E
noncomputable def qM (C:Addr) (sp:Sp) (dvs:List V) (E:XK) (t:TA):TE:=fun σ H Q=>t σ H fun vs H1=>∀ x dx,H1 x=none→H1 dx=none→dx ≠ x →
 sp (.ref x :: (vs ++ dvs)) (upd (upd H1 dx (.own x)) x (.ins C dx [])) (fun v H2=>v=.non∧Q (.ref x) H2) E
noncomputable def Sb (K:PySem.W.Frag) (fd:FuncData) (ps:List Str) (ds:List Value):Prop:=
 ∀ (s:Shared) (us:List Value),K.In s.heap→(us ++ ds).length=ps.length→BindsTo s fd ⟨us,[]⟩ (ps.zip (us ++ ds))
theorem Sb.all {K:PySem.W.Frag} {fd:FuncData} {ps:List Str} (h:∀ us:List Value,us.length=ps.length→bindArgs fd ⟨us,[]⟩=pure (ps.zip us)):Sb K fd ps []:=fun s us _ hl=>by
 rw [List.append_nil] at hl ⊢;exact .of_eq (h us hl)
noncomputable def Dl (CX:CXT) (X:Cx) (E:XK):Prop:=∀ (pins:List (Addr × Obj)) (σ:St) (H:Hp) (s:Shared) (e:Value) (s':Shared),Inv X pins σ H s→CX X.stack H s E e s'→X.xe e s'
section
variable {X:Cx} {CX:CXT} {k:Nat} {f C:Addr} {fd:FuncData} {ps:List Str} {sp:Sp} {dvs:List V} {ds:List Value} {E:XK} {x m:Str} {p pos apos:Pos} {e o:Expr} {es:List Expr} {ta:TE} {t:TA}
theorem ft {pins:List (Addr × Obj)} {σ:St} {H:Hp} {s:Shared} {Q:VK} {us:List Value} {vs:List V} (F:Eb X.prog X.w X.K X.mg X.base CX k f fd ps sp) (hr:ui k X.A) (hb:Sb X.K fd ps ds) (hd:Uc dvs ds) (hx:Dl CX X E)
  (I:Inv X pins σ H s) (r:Uc vs us) (h:sp (vs ++ dvs) H Q E):wpAny (model X.prog X.w) X.A (call (.ref f) us) (EP X pins σ Q) X.xe s:=by
 have r2:Uc (vs ++ dvs) (us ++ ds):=r.append hd;have hl:(us ++ ds).length=ps.length:=by rw [← r2.length];exact F.len _ _ _ _ h
 refine wpAny_call (codeAny_mono (F.run X.A X.stack s H ⟨us,[]⟩ (us ++ ds) (vs ++ dvs) Q E hr I.env0 (hb s us I.kIn hl) r2 h) fun r s' hq=>?_);cases r with
 | error e=>exact hx pins σ H s e s' I hq
 | ok fl=>
  cases fl with
  | ret u=>exact I.after hq
  | next=>exact False.elim hq
  | brk=>exact False.elim hq
  | cont=>exact False.elim hq
theorem RK (F:Eb X.prog X.w X.K X.mg X.base CX k f fd ps sp) (hr:ui k X.A) (hg:Gl X x) (hm:X.mg x=some (.ref f)) (hk:PySem.W.keepIn X.K (.ref f)=true) (hb:Sb X.K fd ps ds) (hd:Uc dvs ds) (hx:Dl CX X E)
  (ha:PA X (e :: es) t) (hdb:(x == ("__debug__" : Str))=false:=by decide) (he:starEach (e :: es) X.env=(false,eval e X.env) :: starEach es X.env:=by rfl) (hpl:(backTo pos (starEach es X.env)).any (·.1)=false:=by rfl) :
  PE X (.Call (.Name x p) (e :: es) [] pos) (NH sp dvs E t):=by
 intro pins s σ H Q I h;refine wpAny_Call_Name_kw (Vu I hg hm ?_ hdb);refine PySem.W.callWith_K (h₀:=X.base) I.ok.mod.kin hk (thn (ha pos pins s σ H _ I h) fun us s1 ⟨vs,H1,I1,r,q⟩=>⟨I1.kIn,?_⟩) he hpl;exact ft F hr hb hd hx I1 r q
theorem bd {pl:Sem Bool} (he:PE X o ta) (c:Cls X.K C) (hm:yr X.K C m f) (F:Eb X.prog X.w X.K X.mg X.base CX k f fd ps sp) (hr:ui k X.A) (hb:Sb X.K fd ps ds) (hd:Uc dvs ds) (hx:Dl CX X E) (ha:PA X (e :: es) t)
  (hst:starEach (e :: es) X.env=(false,eval e X.env) :: starEach es X.env:=by rfl) (hpl:(backTo pos (starEach es X.env)).any (·.1)=false:=by rfl)
  (ht:eval (.Call (.Attribute o m apos) (e :: es) [] pos) X.env=(do
   let ov ← eval o X.env
   standAt apos.atName
   let (f,first) ← holding [ov] (getMethod ov m pl)
   callWith pos f first (backTo pos (starEach (e :: es) X.env)) (backToKw pos (keywordEach [] X.env))):=by rfl) :
  PE X (.Call (.Attribute o m apos) (e :: es) [] pos) (AK C m sp dvs E ta t):=by
 intro pins s σ H Q I h;refine PySem.W.methodCall_KW (pl:=pl) (thn (he pins s σ H _ I h) fun u s1 hZ1=>?_) ht;obtain ⟨x,H1,I1,rx,zq⟩:=hZ1;obtain ⟨a,ex,dx,fs,ea,l,q⟩:=yh.out zq;subst ex;obtain rfl:u=Value.ref a:=rx;refine Bk I1 ea c hm l ?_;refine PySem.W.callWith_K (first:=[.ref a]) (h₀:=X.base) I.ok.mod.kin hm.kp (thn (ha pos pins s1 σ H1 _ I1 q) fun us s2 ⟨vs,H2,I2,r,q2⟩=>⟨I2.kIn,?_⟩) hst hpl;exact ft (us:=.ref a :: us) (vs:=.ref a :: vs) F hr hb hd hx I2 (.cons rfl r) q2
theorem Oe {pl:Sem Bool} (he:PE X o ta) (c:Cls X.K C) (hm:yr X.K C m f) (F:Eb X.prog X.w X.K X.mg X.base CX k f fd ps sp) (hr:ui k X.A) (hb:Sb X.K fd ps ds) (hd:Uc dvs ds) (hx:Dl CX X E)
  (ht:eval (.Call (.Attribute o m apos) [] [] pos) X.env=(do
   let ov ← eval o X.env
   standAt apos.atName
   let (f,first) ← holding [ov] (getMethod ov m pl)
   callWith pos f first (backTo pos (starEach [] X.env)) (backToKw pos (keywordEach [] X.env))):=by rfl) :
  PE X (.Call (.Attribute o m apos) [] [] pos) (AK C m sp dvs E ta CN):=by
 intro pins s σ H Q I h;refine PySem.W.methodCall_KW (pl:=pl) (thn (he pins s σ H _ I h) fun u s1 hZ1=>?_) ht;obtain ⟨x,H1,I1,rx,zq⟩:=hZ1;obtain ⟨a,ex,dx,fs,ea,l,q⟩:=yh.out zq;subst ex;obtain rfl:u=Value.ref a:=rx;refine Bk I1 ea c hm l ?_;exact PySem.W.callWith_K0 (first:=[.ref a]) I1.kIn hm.kp (ft (us:=[.ref a]) (vs:=[.ref a]) F hr hb hd hx I1 (.cons rfl .nil) q)
structure Mk (K:PySem.W.Frag) (C f:Addr):Prop where
 makes:PySem.W.makesIn K C=true
 init:PySem.W.findIn K (.ref C) "__init__"=some (some (.ref f))
 fn:PySem.W.isFn K (.ref f)=true
 kp:PySem.W.keepIn K (.ref C)=true
theorem BG {pins:List (Addr × Obj)} {σ:St} {H:Hp} {s:Shared} {Q:VK} {us:List Value} {vs:List V} (M:Mk X.K C f) (F:Eb X.prog X.w X.K X.mg X.base CX k f fd ps sp) (hr:ui (k + 1) X.A) (hb:Sb X.K fd ps ds) (hd:Uc dvs ds)
  (hx:Dl CX X E) (I:Inv X pins σ H s) (r:Uc vs us)
  (h:∀ x dx,H x=none→H dx=none→dx ≠ x→sp (.ref x :: (vs ++ dvs)) (upd (upd H dx (.own x)) x (.ins C dx [])) (fun v H2=>v=.non∧Q (.ref x) H2) E) :
  wpAny (model X.prog X.w) X.A (call (.ref C) us) (EP X pins σ Q) X.xe s:=by
 have hq:=h (s.heap.objs.size + 1) s.heap.objs.size (I.hok.fresh (Nat.le_succ _)) (I.hok.fresh (Nat.le_refl _)) (Nat.ne_of_lt (Nat.lt_succ_self _));have I2:=Inv.made (C:=C) I;have r2:Uc (V.ref (s.heap.objs.size + 1) :: (vs ++ dvs)) (Value.ref (s.heap.objs.size + 1) :: (us ++ ds)):=.cons rfl (r.append hd);have hl:(Value.ref (s.heap.objs.size + 1) :: us ++ ds).length=ps.length:=by
  have e:=r2.length;rw [F.len _ _ _ _ hq] at e;exact e.symm
 refine wpAny_call (YG (f:=f) I.kIn M.makes M.init (beq_iff_eq.mp M.fn) (codeAny_mono (F.run _ X.stack _ _ ⟨Value.ref (s.heap.objs.size + 1) :: us,[]⟩ (Value.ref (s.heap.objs.size + 1) :: (us ++ ds)) _ _ E (hr.make C us [])
  (I2.env0.make C us []) (hb _ (Value.ref (s.heap.objs.size + 1) :: us) I2.kIn hl) r2 hq) fun r s' hq'=>?_))
 cases r with
 | error e=>exact hx pins σ _ _ e s' I2 hq'
 | ok fl=>
  cases fl with
  | ret u=>
   obtain ⟨v,H',I3,rv,ev,q3⟩:=I2.after hq';subst ev;exact ⟨rv,⟨V.ref (s.heap.objs.size + 1),H',I3,rfl,q3⟩⟩
  | next=>exact False.elim hq'
  | brk=>exact False.elim hq'
  | cont=>exact False.elim hq'
theorem gn (M:Mk X.K C f) (F:Eb X.prog X.w X.K X.mg X.base CX k f fd ps sp) (hr:ui (k + 1) X.A) (hg:Gl X x) (hm:X.mg x=some (.ref C)) (hb:Sb X.K fd ps ds) (hd:Uc dvs ds) (hx:Dl CX X E)
  (ha:PA X (e :: es) t) (hdb:(x == ("__debug__" : Str))=false:=by decide) (he:starEach (e :: es) X.env=(false,eval e X.env) :: starEach es X.env:=by rfl) (hpl:(backTo pos (starEach es X.env)).any (·.1)=false:=by rfl) :
  PE X (.Call (.Name x p) (e :: es) [] pos) (qM C sp dvs E t):=by
 intro pins s σ H Q I h;refine wpAny_Call_Name_kw (Vu I hg hm ?_ hdb);refine PySem.W.callWith_K (h₀:=X.base) I.ok.mod.kin M.kp (thn (ha pos pins s σ H _ I h) fun us s1 ⟨vs,H1,I1,r,q⟩=>⟨I1.kIn,?_⟩) he hpl;exact BG M F hr hb hd hx I1 r q
end
section
variable {X:Cx} {CX:CXT} {k:Nat} {f C:Addr} {fd:FuncData} {ps ks:List Str} {sp:Sp} {E:XK} {x m:Str} {p pos apos kpos:Pos} {e o:Expr} {es:List Expr} {kws:List Keyword} {te ta:TE} {t tk:TA} {nm:Option Str}
structure sO (K:PySem.W.Frag) (fd:FuncData) (ps ks:List Str) (g:List Value→List Value→List Value) (gV:List V→List V→List V):Prop where
 to:∀ (s:Shared) (us ws:List Value),K.In s.heap→(g us ws).length=ps.length→BindsTo s fd ⟨us,ks.zip ws⟩ (ps.zip (g us ws))
 rel:∀ {vs:List V} {us:List Value} {zs:List V} {ws:List Value},Uc vs us→Uc zs ws→Uc (gV vs zs) (g us ws)
variable {g:List Value→List Value→List Value} {gV:List V→List V→List V}
end
structure wb (N P:List Str) (sc:Scope):Prop where
 kind:sc.kind=.function
 co:sc.isCoroutine=false
 gen:sc.isGenerator=false
 nd:N.Nodup
 pre:N.take P.length=P
 par:∀ x ∈ P,sc.names.lookup x=some .local∨sc.names.lookup x=some .cell
 nofree:∀ y ∈ sc.names,y.2 ≠ .free
theorem Mw {kindOf:Str→Option NameKind} {x:Str}:∀ {binds:List (Str × Value)} {m:Str→Option Value},(∀ v,(x,v) ∉ binds)→bindL kindOf binds m x=m x
 | [],_,_=>rfl
 | (n,v) :: r,m,h=>by
  unfold bindL;rw [Mw fun w hw=>h w (List.mem_cons_of_mem _ hw)];split
  ·have:x ≠ n:=by rintro rfl;exact h v List.mem_cons_self
   simp [this]
  ·rfl
theorem Ww {kindOf:Str→Option NameKind} {x:Str}:∀ {binds:List (Str × Value)} {m:Str→Option Value},(∀ v,(x,v) ∉ binds)→bindC kindOf binds m x=m x
 | [],_,_=>rfl
 | (n,v) :: r,m,h=>by
  unfold bindC;rw [Ww fun w hw=>h w (List.mem_cons_of_mem _ hw)];split
  ·rfl
  ·have:x ≠ n:=by rintro rfl;exact h v List.mem_cons_self
   simp [this]
theorem Gx {kindOf:Str→Option NameKind} {x:Str} {v:Value}:∀ {P:List Str} {vs:List Value} {i:Nat} {m:Str→Option Value},P.Nodup→P[i]? = some x→vs[i]? = some v→kindOf x=some .local →
  bindL kindOf (P.zip vs) m x=some v
 | [],_,_,_,_,h,_,_=>by simp at h
 | _ :: _,[],_,_,_,_,h,_=>by simp at h
 | p :: P,w :: vs,0,m,nd,h1,h2,hk=>by
  simp at h1 h2;subst h1;subst h2;show bindL kindOf ((p,w) :: P.zip vs) m p=_;unfold bindL;rw [Mw fun v hv=>(List.nodup_cons.mp nd).1 (List.of_mem_zip hv).1,if_pos hk];simp
 | p :: P,w :: vs,i + 1,m,nd,h1,h2,hk=>by
  show bindL kindOf ((p,w) :: P.zip vs) m x=_;unfold bindL;exact Gx (i:=i) (List.nodup_cons.mp nd).2 (by simpa using h1) (by simpa using h2) hk
theorem Pw {kindOf:Str→Option NameKind} {x:Str} {v:Value}:∀ {P:List Str} {vs:List Value} {i:Nat} {m:Str→Option Value},P.Nodup→P[i]? = some x→vs[i]? = some v→kindOf x ≠ some .local →
  bindC kindOf (P.zip vs) m x=some v
 | [],_,_,_,_,h,_,_=>by simp at h
 | _ :: _,[],_,_,_,_,h,_=>by simp at h
 | p :: P,w :: vs,0,m,nd,h1,h2,hk=>by
  simp at h1 h2;subst h1;subst h2;show bindC kindOf ((p,w) :: P.zip vs) m p=_;unfold bindC;rw [Ww fun v hv=>(List.nodup_cons.mp nd).1 (List.of_mem_zip hv).1,if_neg hk];simp
 | p :: P,w :: vs,i + 1,m,nd,h1,h2,hk=>by
  show bindC kindOf ((p,w) :: P.zip vs) m x=_;unfold bindC;exact Pw (i:=i) (List.nodup_cons.mp nd).2 (by simpa using h1) (by simpa using h2) hk
noncomputable def start (N:List Str) (vs:List V):St:=vs.map some ++ List.replicate (N.length - vs.length) none
noncomputable def jF (CX:CXT) (P:Program) (w:World) (K:PySem.W.Frag) (mg:Str→Option Value) (base:Heap) (N:List Str) (qual:Str) (scope:Scope) (f:Addr) (cd:Value) (A:Around) (outer:List Env) (s:Shared) (H:Hp) (E:XK):Cx where
 prog:=P
 w:=w
 K:=K
 mg:=mg
 base:=base
 A:=A.deeper (envOfC qual scope s.heap.objs.size f cd)
 N:=N
 s₀:=s
 H₀:=H
 env:=envOfC qual scope s.heap.objs.size f cd
 outer:=outer
 stack:=envOfC qual scope s.heap.objs.size f cd :: outer
 ex:=[]
 calm:=true
 fn:=fun _=>true
 pn:=[]
 xe:=fun e s'=>wpAny (model P w) (A.deeper (envOfC qual scope s.heap.objs.size f cd)) (leaving (envOfC qual scope s.heap.objs.size f cd) e) (fun _ s''=>CX outer H s E e s'') (fun e' s''=>CX outer H s E e' s'') s'
theorem BA {sc:Scope} {n:Nat} {x:Str} (h:sc.names.lookup x=some .cell):∃ c,(cellsFrom n sc.names []).lookup x=some c:=by
 have q:=PySem.W.cellsFrom_some sc.names n [] (.inl h);exact Option.isSome_iff_exists.mp q
theorem Sw {CX:CXT} {P:Program} {w:World} {K:PySem.W.Frag} {mg:Str→Option Value} {base:Heap} {N ps:List Str} {qual:Str} {scope:Scope} {f:Addr} {cd:Value} {A:Around} {outer:List Env} {s s1:Shared} {H:Hp} {E:XK} {us:List Value} {vs:List V}
  (S:wb N ps scope) (hd:A.handled=none) (e0:qE P w K mg base A outer s H) (hl:vs.length=ps.length) (r:Uc vs us)
  (x:InCallC s s.heap.objs.size (bindL (envOfC qual scope s.heap.objs.size f cd).kindOf (ps.zip us) fun _=>none) (cellsFrom (s.heap.objs.size + 1) scope.names []) (bindC (envOfC qual scope s.heap.objs.size f cd).kindOf (ps.zip us) fun _=>none) s1) :
  Inv (jF CX P w K mg base N qual scope f cd A outer s H E) [] (start N vs) H s1:=by
 have hpl:ps.length ≤ N.length:=by have:=congrArg List.length S.pre;rw [List.length_take] at this;omega
 obtain ⟨h1,tk,rfl,hk⟩:=x.done;have noA:∀ b:Addr,b ∉ (jF CX P w K mg base N qual scope f cd A outer s H E).ex:=fun b z=>absurd (show b ∈ ([]:List Addr) from z) (by simp)
 refine ⟨⟨e0.mod,S.kind,rfl,rfl,Nat.le_refl _,fun y z c h1 h2=>?_,fun y hy=>?_,fun y c _ h=>?_,fun _=>hd,Around.frames_deeper e0.frames,.inr ⟨rfl,rfl⟩,fun b z=>absurd z (noA b),e0.bs,e0.bsz,fun b _ _=>noA b,fun b z=>absurd z (noA b),e0.funs,e0.frf⟩,
  rfl,e0.bare,Un.kept hk,⟨_,x.toInCall.ns,fun i y v h1 h2 h3=>?_⟩,fun y c h=>⟨_,x.cell y c h⟩,e0.hok.fresh (Nat.le_refl _),fun y c h=>?_,fun p hp=>absurd (show p ∈ ([]:List (Addr × Obj)) from hp) (by simp),e0.hok.kept hk,?_⟩
 ·exact name_of_addr x.apart (PySem.mem_of_lookup h1) (PySem.mem_of_lookup h2)
 ·have hy:scope.names.lookup y=some .cell∨scope.names.lookup y=some .free:=hy;rcases hy with hy | hy
  ·exact BA hy
  ·exact absurd rfl (S.nofree _ (PySem.mem_of_lookup hy))
 ·exact Nat.le_of_lt (x.above y c (PySem.mem_of_lookup h))
 ·have hi:i < vs.length:=by
   unfold start at h2;by_cases hi:i < vs.length
   ·exact hi
   ·rw [List.getElem?_append_right (by simpa using hi)] at h2;rw [List.getElem?_replicate] at h2;split at h2 <;> cases h2
  have ha:vs[i]? = some v:=by
   unfold start at h2;rw [List.getElem?_append_left (by simpa using hi),List.getElem?_map] at h2;cases e:vs[i]? with
   | none=>rw [e] at h2;cases h2
   | some a=>rw [e] at h2;cases h2;rfl
  obtain ⟨u,hu,rv⟩:=r.get ha;have hp:ps[i]? = some y:=by
   rw [← S.pre,List.getElem?_take_of_lt (by omega)];exact h1
  have ndP:ps.Nodup:=by rw [← S.pre];exact S.nd.sublist (List.take_sublist _ _)
  refine ⟨u,rv,?_⟩;rcases S.par y (List.mem_of_getElem? hp) with k | k
  ·exact .inl ⟨k,Gx ndP hp hu k⟩
  ·obtain ⟨c,e⟩:=BA (n:=s.heap.objs.size + 1) k;refine .inr ⟨.inl k,c,e,?_⟩;have q:=x.cell y c e;rw [Pw ndP hp hu (by show scope.names.lookup y ≠ _;rw [k];decide)] at q;exact q
 ·exact e0.hok.fresh (Nat.le_of_lt (x.above y c (PySem.mem_of_lookup h)))
 ·unfold start;show _=N.length;rw [List.length_append,List.length_map,List.length_replicate];omega
theorem WN {CX:CXT} {P:Program} {w:World} {K:PySem.W.Frag} {mg:Str→Option Value} {base:Heap} {k:Nat} {f:Addr} {name qual:Str} {params:Arguments} {body:List Stmt} {scope:Scope} {dV kV doc pm cdv ct oc:Value} {an od:Option Addr}
  {osl:Array (Option Value)} {N ps:List Str} {sp:Sp} (lk:K.lookup f=some ⟨oc,od,.func (PySem.W.fnOf name qual params body scope dV kV doc pm an cdv ct),osl⟩) (hcd:PySem.W.codeIn K cdv qual=true) (S:wb N ps scope)
  (len:∀ vs H Q E,sp vs H Q E→vs.length=ps.length)
  (hbody:∀ (A:Around) (outer:List Env) (s:Shared) (H:Hp) (vs:List V) (Q:VK) (E:XK),ui k (A.deeper (envOfC qual scope s.heap.objs.size f cdv))→sp vs H Q E →
   ∃ t,PSs (jF CX P w K mg base N qual scope f cdv A outer s H E) body t∧t { nx:=fun _ H'=>Q .non H',rt:=Q } (start N vs) H) :
  Eb P w K mg base CX (k + 1) f (PySem.W.fnOf name qual params body scope dV kV doc pm an cdv ct) ps sp:=by
 refine ⟨len,fun A outer s H args us vs Q E hr e0 hb r hsp=>?_⟩;have hl:=len _ _ _ _ hsp;have KX:K.In s.heap:=e0.mod.kin.keeps fun b o e=>(e0.bs b o e).1
 have lim:s.heap.NoLimit:=e0.mod.nolimit.keeps fun b o e=>(e0.bs b o e).1
 have hkind:∀ y ∈ ps.zip us,scope.names.lookup y.1=some .local∨(scope.names.lookup y.1=some .cell∧((cellsFrom (s.heap.objs.size + 1) scope.names []).lookup y.1).isSome=true):=fun ⟨n,v⟩ hy=>by
  rcases S.par n (List.of_mem_zip hy).1 with q | q
  ·exact .inl q
  ·exact .inr ⟨q,PySem.W.cellsFrom_some _ _ _ (.inl q)⟩
 refine codeAny_call_function hr.depth (KX _ _ lk) rfl S.co S.gen rfl (PySem.W.codeRec_of KX hcd) (hb _ _ _ _ ?_);refine wpAny_newFunctionEnv_cells S.kind hkind fun env he s1 x=>?_
 subst he;refine ⟨lim.keeps x.toInCall.keep,codeAny_func ?_⟩;obtain ⟨t,ht,hq⟩:=hbody A outer s H vs Q E (hr.deeper _) hsp;have I:Inv (jF CX P w K mg base N qual scope f cdv A outer s H E) [] (start N vs) H s1:=Sw S hr.hd e0 hl r x;refine wpAny_mono (ht [] s1 (start N vs) H _ I hq) (fun fl s' hs=>?_) fun e s' hs=>hs
 have fin:∀ {σ':St} {H':Hp} {v:V} {u:Value},Inv (jF CX P w K mg base N qual scope f cdv A outer s H E) [] σ' H' s'→gd v u→Q v H'→CE outer P w H s Q u s':=
  fun {σ' H' v u} J rv q=>⟨v,H',J.os,J.bare,J.base,J.hok,rv,q⟩
 cases fl with
 | ret u=>
  obtain ⟨v,σ',H',J,rv,q⟩:=hs;exact fin J rv q
 | next=>
  obtain ⟨σ',H',J,q⟩:=hs;exact fin (v:=V.non) (u:=Value.none) J rfl q
 | brk=>
  obtain ⟨_,_,_,q⟩:=hs;exact False.elim q
 | cont=>
  obtain ⟨_,_,_,q⟩:=hs;exact False.elim q
end L2
namespace L2
open PySem PySem.Spec PyProof.Rows
section
variable {X:Cx} {x:Str} {p pos:Pos} {e:Expr} {es:List Expr} {t:TA} {id T:String} {r:List V→Hp→VK→Prop}
noncomputable def tCB (r:List V→Hp→VK→Prop) (t:TA):TE:=fun σ H Q=>t σ H fun vs H1=>r vs H1 Q
theorem dc (hc:Kl X (.builtin id) r) (hg:Gl X x) (hm:X.mg x=none) (hv:bootBuiltins x=some (.builtin id)) (ha:PA X (e :: es) t) (hn:x ≠ "__name__" := by decide) (hdb:(x == ("__debug__" : Str))=false:=by decide)
  (he:starEach (e :: es) X.env=(false,eval e X.env) :: starEach es X.env:=by rfl) (hpl:(backTo pos (starEach es X.env)).any (·.1)=false:=by rfl):PE X (.Call (.Name x p) (e :: es) [] pos) (tCB r t):=by
 intro pins s σ H Q I h;refine wpAny_Call_Name_kw (yj I hg hm hv ?_ hn hdb);exact PyProof.Rows.callWith_builtin1 (thn (ha pos pins s σ H _ I h) fun us s1 ⟨vs,H1,I1,r1,q1⟩=>hc pins s1 σ H1 vs us Q I1 r1 q1) he hpl
theorem gh (hc:Kl X (.type T) r) (hg:Gl X x) (hm:X.mg x=none) (hv:bootBuiltins x=some (.type T)) (ha:PA X (e :: es) t) (hn:x ≠ "__name__" := by decide) (hdb:(x == ("__debug__" : Str))=false:=by decide)
  (he:starEach (e :: es) X.env=(false,eval e X.env) :: starEach es X.env:=by rfl) (hpl:(backTo pos (starEach es X.env)).any (·.1)=false:=by rfl):PE X (.Call (.Name x p) (e :: es) [] pos) (tCB r t):=by
 intro pins s σ H Q I h;refine wpAny_Call_Name_kw (yj I hg hm hv ?_ hn hdb);exact PyProof.Rows.callWith_type1 (thn (ha pos pins s σ H _ I h) fun us s1 ⟨vs,H1,I1,r1,q1⟩=>hc pins s1 σ H1 vs us Q I1 r1 q1) he hpl
end
end L2
namespace HT
open PySem PyProof.Rows
noncomputable def lexLt:List Int→List Int→Bool
 | [],[]=>false
 | [],_ :: _=>true
 | _ :: _,[]=>false
 | x :: xs,y :: ys=>if x=y then lexLt xs ys else decide (x < y)
theorem lexLt_cons (x y:Int) (xs ys:List Int):lexLt (x :: xs) (y :: ys)=if x=y then lexLt xs ys else decide (x < y):=rfl
theorem lexLt_nil_nil:lexLt [] []=false:=rfl
theorem Ts (y:Int) (ys:List Int):lexLt [] (y :: ys)=true:=rfl
theorem Nr (x:Int) (xs:List Int):lexLt (x :: xs) []=false:=rfl
theorem VH (A:Around) (s:Shared) (a:Int) (t:Tok) (c:Int) (u:Tok):∃ e,SeqAt.EqAt A s (.int a t) (.int c u) e∧(e=true↔a=c):=
 ⟨(a == c),SeqAt.EqAt.int_int a t c u,by simp⟩
section
open PySem.SeqAt
open PySem.AutoSeq1 (wpAny_loadPart')
open PySem.MeetsSeq PySem.MeetsSeq2 PySem.MeetsSeq3
end
section
variable {prog:Program} {w:World} {A:Around} {E:Value→Shared→Prop} {s:Shared}
noncomputable def sIx (n d:Nat):Option Int→Nat
 | none=>d
 | some v=>if v < 0 then (v + (n:Int)).toNat else min v.toNat n
theorem FM (n d:Nat) (hd:d ≤ n) (o:Option Int):sIx n d o ≤ n:=by
 cases o with
 | none=>exact hd
 | some v=>
  show (if v < 0 then (v + (n:Int)).toNat else min v.toNat n) ≤ n;by_cases hv:v < 0
  ·rw [if_pos hv];omega
  ·rw [if_neg hv];exact Nat.min_le_right _ _
theorem dF (v:Int) (n d:Nat):(if v < 0 then max (v + (n:Int)) 0 else min v (n:Int))=((sIx n d (some v):Nat):Int):=by
 show (if v < 0 then max (v + (n:Int)) 0 else min v (n:Int))=(((if v < 0 then (v + (n:Int)).toNat else min v.toNat n):Nat):Int);by_cases hv:v < 0
 ·simp only [if_pos hv];omega
 ·simp only [if_neg hv];omega
theorem fB (lo hi:Option Int) (n:Nat):Builtin.Slice.sliceAdjust lo hi 1 (n:Int)=(((sIx n 0 lo:Nat):Int),((sIx n n hi:Nat):Int)):=by
 have h1:¬ ((1:Int) < 0):=by omega
 unfold Builtin.Slice.sliceAdjust;simp only [h1,if_false];refine Prod.ext ?_ ?_
 ·cases lo with
  | none=>rfl
  | some v=>exact dF v n 0
 ·cases hi with
  | none=>rfl
  | some v=>exact dF v n n
theorem CB (i j:Nat):Builtin.Slice.slicePlaces (i:Int) (j:Int) 1=j - i:=by
 unfold Builtin.Slice.slicePlaces;have h1:(1:Int) > 0:=by omega
 simp only [h1,if_true,Int.ediv_one];split <;> omega
theorem bu {v:Value} {o:Option Int} {Q:Option Int→Shared→Prop} (p:IsPart v o) (h:Q o s):wpAny (model prog w) A (Builtin.Slice.slicePartIndex v) Q E s:=by
 cases p with
 | none=>exact slicePart_none h
 | int i t=>exact slicePart_int h
theorem Jo {sl:Addr} {vl vu:Value} {lo hi:Option Int} {n:Nat} {Q:Int × Int × Nat→Shared→Prop} (hs:s.heap.IsSliceOf sl vl vu .none) (pl:IsPart vl lo) (pu:IsPart vu hi)
  (h:Q (((sIx n 0 lo:Nat):Int),1,sIx n n hi - sIx n 0 lo) s):wpAny (model prog w) A (Builtin.Slice.sliceApplied (.ref sl) (pure (n:Int))) Q E s:=by
 obtain ⟨os,hos,hcs,hds⟩:=id hs;unfold Builtin.Slice.sliceApplied Builtin.Slice.sliceFields;refine wpAny_bind (wpAny_bind (wpAny_field hos hds (x:=vl) rfl (wpAny_bind (wpAny_field hos hds (x:=vu) rfl (wpAny_bind (wpAny_field hos hds (x:=.none) rfl (wpAny_pure ?_)))))));refine wpAny_bind (slicePart_none ?_);show wpAny _ _ (if ((1:Int) == 0)=true then _ else _) _ _ s;rw [if_neg (by decide)];refine wpAny_bind (bu pl (wpAny_bind (bu pu (wpAny_bind (wpAny_pure ?_)))));show wpAny _ _ (match Builtin.Slice.sliceAdjust lo hi 1 (n:Int) with | (lo,hi)=>pure (lo,(1:Int),Builtin.Slice.slicePlaces lo hi 1)) _ _ s;rw [fB lo hi n];show wpAny _ _ (pure (((sIx n 0 lo:Nat):Int),(1:Int),Builtin.Slice.slicePlaces ((sIx n 0 lo:Nat):Int) ((sIx n n hi:Nat):Int) 1)) _ _ s;rw [CB];exact wpAny_pure h
theorem ZG (xs:Array Value) (i k:Nat):((List.range k).filterMap fun (m:Nat)=>xs[((i:Int) + (m:Int) * 1).toNat]?).toArray=((xs.toList.drop i).take k).toArray:=by
 have e:(fun (m:Nat)=>xs[((i:Int) + (m:Int) * 1).toNat]?)=fun m=>xs[i + m]?:=by
  funext m;have:((i:Int) + (m:Int) * 1).toNat=i + m:=by omega
  rw [this]
 rw [e];have:=pick_run xs i k;rw [List.filterMap_map] at this;have e2:((fun x=>xs[x]?) ∘ fun x=>i + x)=fun m=>xs[i + m]?:=rfl
 rw [e2] at this;rw [this]
theorem getItem_tuple_cut {t sl:Addr} {items:Array Value} {vl vu:Value} {lo hi:Option Int} {Q:Value→Shared→Prop} (ht:IsTup s.heap t items) (hs:s.heap.IsSliceOf sl vl vu .none) (pl:IsPart vl lo) (pu:IsPart vu hi)
  (hw:¬ (sIx items.size 0 lo=0∧sIx items.size items.size hi=items.size))
  (h:Q (.ref s.heap.objs.size) { s with heap:=s.heap.push { cls:=.type "tuple",data:=.seq ((items.toList.drop (sIx items.size 0 lo)).take (sIx items.size items.size hi - sIx items.size 0 lo)).toArray } })
  (hsz:items.size ≤ sizeLine):wpAny (model prog w) A (getItem (.ref t) (.ref sl)) Q E s:=by
 have htake:sizeOk (.seq ((items.toList.drop (sIx items.size 0 lo)).take (sIx items.size items.size hi - sIx items.size 0 lo)).toArray):=by
  show ((items.toList.drop (sIx items.size 0 lo)).take (sIx items.size items.size hi - sIx items.size 0 lo)).toArray.size ≤ sizeLine;rw [List.size_toArray,List.length_take,List.length_drop,Array.length_toList];omega
 have hj:sIx items.size items.size hi ≤ items.size:=FM _ _ (Nat.le_refl _) hi;obtain ⟨os,hos,hcs,hds⟩:=id hs;have hTs:s.TypeIs (.ref sl) "slice" := ⟨os,hos,hcs⟩;unfold getItem
 try with_reducible refine wpAny_holding ?_
 first | refine wpAny_bind (wpAny_pure ?_) | skip
 refine wpAny_bind (wpAny_sequenceKey ht.typeIs (by decide) ?_);refine wpAny_bind (wpAny_callSpecial?_slot (name:=Str.ofString "__getitem__") ht.typeIs PyProof.Rows.slot_tuple_getitem
  (wpAny_call_entry PyProof.Rows.slot_tuple_getitem ht.typeIs entry_tuple_getitem ?_ (args_tuple_getitem _ _)))
 show wpAny _ _ (Builtin.Tuple.tupleItemsOf (.ref t) >>= _) _ _ s;refine wpAny_bind (tupleItemsOf_ ht ?_);refine wpAny_bind (wpAny_typeOf hTs ?_);rw [if_pos (by decide)];refine wpAny_bind (Jo hs pl pu ?_);have hno:¬ ((((sIx items.size 0 lo:Nat):Int) == 0 && (1:Int) == 1 && (sIx items.size items.size hi - sIx items.size 0 lo) == items.size)=true):=by
  intro q;rw [Bool.and_eq_true,Bool.and_eq_true] at q;have q1:((sIx items.size 0 lo:Nat):Int)=0:=eq_of_beq q.1.1;have q2:sIx items.size items.size hi - sIx items.size 0 lo=items.size:=eq_of_beq q.2;exact hw ⟨by omega,by omega⟩
 show wpAny _ _ (if (((sIx items.size 0 lo:Nat):Int) == 0 && (1:Int) == 1 && (sIx items.size items.size hi - sIx items.size 0 lo) == items.size)=true then _ else _) _ _ s;rw [if_neg hno,ZG]
 first
  | exact wpAny_bind (m:=Builtin.Tuple.tupleExact _) (wpAny_newObj_type (wpAny_pure ⟨_,rfl,wpAny_pure h⟩) htake)
  | exact wpAny_bind (m:=Builtin.Tuple.tupleExact _) (wpAny_newObj_type (wpAny_bind (wpAny_pure (wpAny_pure ⟨_,rfl,wpAny_pure h⟩))) htake)
  | exact wpAny_bind (wpAny_bind (m:=Builtin.Tuple.tupleExact _) (wpAny_newObj_type (wpAny_pure (wpAny_pure ⟨_,rfl,wpAny_pure h⟩)) htake))
  | exact wpAny_bind (wpAny_bind (m:=Builtin.Tuple.tupleExact _) (wpAny_newObj_type (wpAny_pure ⟨_,rfl,wpAny_pure h⟩) htake))
end
end HT
namespace L2
open PySem PySem.Spec PyProof.Rows
noncomputable abbrev TO:=St→Hp→(Option Int→Hp→Prop)→Prop
noncomputable def PO (X:Cx) (e:Option Expr) (t:TO):Prop:=
 ∀ (pins:List (Addr × Obj)) (s:Shared) (σ:St) (H:Hp) (Q:Option Int→Hp→Prop),Inv X pins σ H s→t σ H Q →
  wpAny (model X.prog X.w) X.A (evalPart e X.env) (fun u s'=>∃ o H',Inv X pins σ H' s'∧IsPart u o∧Q o H') X.xe s
noncomputable def FF:TO:=fun _ H Q=>Q none H
noncomputable def bM (t:TE):TO:=fun σ H Q=>t σ H fun x H1=>mj x fun i=>Q (some i) H1
theorem JB {ns:List Int}:∀ {us:List Value},Uc (ns.map V.int) us→IntsAre us ns:=by
 induction ns with
 | nil=>intro us r;rw [List.map_nil] at r;cases r;exact .nil
 | cons n ns ih=>
  intro us r;rw [List.map_cons] at r;cases r with
  | cons r1 r2=>
   obtain ⟨t,e⟩:=r1;subst e;exact .cons n t (ih r2)
section
variable {X:Cx} {e:Expr} {te:TE} {lo hi:Option Expr} {tl th:TO} {pos p2:Pos}
theorem QE:PO X none FF:=by
 intro pins s σ H Q I h;rw [evalPart_none];exact wpAny_pure ⟨none,H,I,.none,h⟩
theorem ED (h:PE X e te):PO X (some e) (bM te):=by
 intro pins s σ H Q I hw;rw [evalPart_some];refine thn (h pins s σ H _ I hw) fun u s1 hZ1=>?_
 obtain ⟨x,H1,I1,r1,q1⟩:=hZ1;obtain ⟨i,rfl,q⟩:=mj.out q1;obtain ⟨t,rfl⟩:=r1;exact ⟨some i,H1,I1,.int i t,q⟩
noncomputable def SlR (X:Cx) (r:V→Option Int→Option Int→Hp→VK→Prop):Prop:=
 ∀ (pins:List (Addr × Obj)) (s:Shared) (σ:St) (H:Hp) (x:V) (v vl vu:Value) (lo hi:Option Int) (sl:Addr) (Q:VK),Inv X pins σ H s→gd x v→s.heap.IsSliceOf sl vl vu .none→IsPart vl lo→IsPart vu hi→r x lo hi H Q →
  ∃ T id,typeLookup (.type T) "__getitem__"=pure (some (.builtin id))∧s.TypeIs v T∧wpAny (model X.prog X.w) X.A (getItem v (.ref sl)) (EP X pins σ Q) X.xe s
noncomputable def tSl (r:V→Option Int→Option Int→Hp→VK→Prop) (te:TE) (tl th:TO):TE:=fun σ H Q=>te σ H fun x H1=>tl σ H1 fun l H2=>th σ H2 fun u H3=>r x l u H3 Q
theorem Iz {r:V→Option Int→Option Int→Hp→VK→Prop} (hr:SlR X r) (he:PE X e te) (hl:PO X lo tl) (hu:PO X hi th):PE X (.Subscript e (.Slice lo hi none p2) pos) (tSl r te tl th):=by
 intro pins s σ H Q I h;refine Subscript_ (thn (he pins s σ H _ I h) fun v s1 hZ1=>?_);obtain ⟨x,H1,I1,r1,q1⟩:=hZ1;refine wpAny_Slice (thn (hl pins s1 σ H1 _ I1 q1) fun vl s2 ⟨l,H2,I2,pl,q2⟩=>thn (hu pins s2 σ H2 _ I2 q2) fun vu s3 hZ1=>?_);obtain ⟨u,H3,I3,pu,q3⟩:=hZ1;rw [evalPart_none];refine wpAny_pure ?_;have I4:Inv X pins σ H3 { s3 with heap:=s3.heap.push { cls:=.type "slice",data:=.fields #[vl,vu,.none] } }:=I3.kept (t':=s3.toks) fun b ob q=>Heap.get?_push_of_some _ q
 obtain ⟨T,id,hT,ht,hg⟩:=hr pins { s3 with heap:=s3.heap.push { cls:=.type "slice",data:=.fields #[vl,vu,.none] } } σ H3 x v vl vu l u s3.heap.objs.size Q I4 r1 (Heap.IsSliceOf.new ..) pl pu q3;show wpAny (model X.prog X.w) X.A (subscriptTail e (.Slice lo hi none p2) v (.ref s3.heap.objs.size)) (EP X pins σ Q) X.xe { s3 with heap:=s3.heap.push { cls:=.type "slice",data:=.fields #[vl,vu,.none] } };exact tail_any (ops:=[.ref s3.heap.objs.size,v]) ht hT hg (by with_unfolding_all rfl)
noncomputable def uE (xs:List V) (lo hi:Option Int):List V:=(xs.drop (HT.sIx xs.length 0 lo)).take (HT.sIx xs.length xs.length hi - HT.sIx xs.length 0 lo)
theorem kr (xs:List V) (lo hi:Option Int):(uE xs lo hi).length ≤ xs.length:=by
 unfold uE;rw [List.length_take,List.length_drop];omega
noncomputable def WO (K:PySem.W.Frag):V→Option Int→Option Int→Hp→VK→Prop:=fun x lo hi H Q=>∃ a xs,x=.ref a∧SqT K H a xs ∧
 ¬ (HT.sIx xs.length 0 lo=0∧HT.sIx xs.length xs.length hi=xs.length)∧∀ p,H p=none→Q (.ref p) (upd H p (.tup (uE xs lo hi)))
theorem oM:SlR X (WO X.K):=by
 intro pins s σ H x v vl vu lo hi sl Q I rx hs pl pu h;obtain ⟨a,xs,rfl,hx,hw,q⟩:=h;cases rx;obtain ⟨its,r,ht,hz⟩:=I.tuple hx;have hlen:its.toArray.size=xs.length:=by rw [List.size_toArray];exact r.length.symm
 refine ⟨"tuple",_,PyProof.Rows.slot_tuple_getitem.lookup,ht.typeIs,?_⟩;refine HT.getItem_tuple_cut ht hs pl pu (by rw [hlen];exact hw) ?_ (by rw [hlen];exact hz);rw [hlen];refine ⟨.ref s.heap.objs.size,_,I.laid (t':=s.toks) (o:=.tup (uE xs lo hi)) (fun b ob q=>Heap.get?_push_of_some _ q) (Nat.le_refl _) ?_,rfl,q _ (I.hok.fresh (Nat.le_refl _))⟩;exact ⟨⟨Nat.le_trans (kr xs lo hi) hz,_,Heap.get?_push_size _ rfl,rfl⟩,_,(r.drop (HT.sIx xs.length 0 lo)).take (HT.sIx xs.length xs.length hi - HT.sIx xs.length 0 lo),IsTup.new _ _⟩
end
end L2
namespace L2
open PySem PySem.Spec PyProof.Rows
noncomputable def ixN (n:Nat) (i:Int):Option Nat:=if 0 ≤ i then (if i < n then some i.toNat else none) else if -(n:Int) ≤ i then some (i + n).toNat else none
noncomputable def atI {α:Type} (xs:List α) (i:Int):Option α:=(ixN xs.length i).bind fun j=>xs[j]?
theorem gE {n:Nat} {i:Int} {j:Nat} (h:ixN n i=some j):seqIndex? i n=some j∧j < n∧-(n:Int) ≤ i∧i < n:=by
 unfold ixN at h;by_cases h0:0 ≤ i
 ·rw [if_pos h0] at h;by_cases h1:i < n
  ·rw [if_pos h1] at h;have e:i.toNat=j:=Option.some.inj h;exact ⟨by rw [seqIndex_of h0 h1,e],by omega,by omega,h1⟩
  ·rw [if_neg h1] at h;cases h
 ·rw [if_neg h0] at h;by_cases h1:-(n:Int) ≤ i
  ·rw [if_pos h1] at h;have e:(i + n).toNat=j:=Option.some.inj h;exact ⟨by rw [seqIndex_neg (by omega) h1,e],by omega,h1,by omega⟩
  ·rw [if_neg h1] at h;cases h
theorem oy {α:Type} {xs:List α} {i:Int} {v:α} (h:atI xs i=some v):∃ j,seqIndex? i xs.length=some j∧xs[j]? = some v∧j < xs.length∧-(xs.length:Int) ≤ i∧i < xs.length:=by
 unfold atI at h;cases e:ixN xs.length i with
 | none=>rw [e] at h;cases h
 | some j=>
  rw [e] at h;obtain ⟨h1,h2,h3,h4⟩:=gE e;exact ⟨j,h1,h,h2,h3,h4⟩
theorem Ib {α:Type} {xs:List α} {j:Nat} {v:α} (h:xs[j]? = some v):atI xs (j:Int)=some v:=by
 have hj:j < xs.length:=(List.getElem?_eq_some_iff.mp h).1;have e:ixN xs.length (j:Int)=some j:=by
  unfold ixN;rw [if_pos (by omega),if_pos (by omega)];simp
 unfold atI;rw [e];exact h
noncomputable def mE (b:Expr):Prop:=∀ o i,subscripted b false o i=operate [o,i] (getItem o i)
noncomputable def IxR (X:Cx) (r:R2):Prop:=
 ∀ (value slice:Expr) (pins:List (Addr × Obj)) (s:Shared) (σ:St) (H:Hp) (x y:V) (v u:Value) (Q:VK),Inv X pins σ H s→gd x v→gd y u→r x y H Q →
  subscripted slice false v u=operate [v,u] (getItem v u)→wpAny (model X.prog X.w) X.A (subscriptTail value slice v u) (EP X pins σ Q) X.xe s
noncomputable def MtR (X:Cx) (id:String) (r:V→List V→Hp→VK→Prop):Prop:=
 ∀ (pins:List (Addr × Obj)) (s:Shared) (σ:St) (H:Hp) (x:V) (xs:List V) (v:Value) (us:List Value) (Q:VK),Inv X pins σ H s→gd x v→Uc xs us→r x xs H Q →
  wpAny (model X.prog X.w) X.A (call (.builtin id) (v :: us)) (EP X pins σ Q) X.xe s
section
variable {X:Cx} {a b:Expr} {ta tb:TE} {pos:Pos}
theorem XN {r:R2} (hr:IxR X r) (ha:PE X a ta) (hb:PE X b tb) (hs:mE b):PE X (.Subscript a b pos) (tOp r ta tb):=by
 intro pins s σ H Q I h;exact Subscript_ (LN ha hb I h fun v u s2 x y H2 I2 rx ry q=>hr a b pins s2 σ H2 x y v u Q I2 rx ry q (hs _ _))
noncomputable def vO (K:PySem.W.Frag):R2:=fun x y H Q=>yh x fun p=>∃ xs,mj y fun i=>SqL K H p xs∧∃ v,atI xs i=some v∧Q v H
noncomputable def tO (K:PySem.W.Frag):R2:=fun x y H Q=>yh x fun p=>∃ xs,mj y fun i=>SqT K H p xs∧∃ v,atI xs i=some v∧Q v H
noncomputable def YO:R2:=fun x y H Q=>∃ z i c,x=.str z∧y=.int i∧z.length ≤ sizeLine∧atI z.cps.toList i=some c∧Q (.str ⟨#[c]⟩) H
theorem yc:IxR X (vO X.K):=by
 intro value slice pins s σ H x y v u Q I rx ry h hs;obtain ⟨p,rfl,xs,hzz⟩:=yh.out h;obtain ⟨i,rfl,hq,z,he,q⟩:=mj.out hzz;cases rx;obtain ⟨t,rfl⟩:=ry;obtain ⟨its,r,pl,hz⟩:=I.list hq;obtain ⟨j,h1,h2,h3,h4,h5⟩:=oy he;obtain ⟨w,ew,rw'⟩:=r.get h2;have hl:=r.length;have hn:=Yp;have fin:EP X pins σ Q w s:=⟨z,H,I,rw',q⟩;by_cases h0:0 ≤ i
 ·have hj:i.toNat=j:=by
   rw [seqIndex_of h0 h5] at h1;exact Option.some.inj h1
  exact item_listR pl.isList h0 (by omega) (by rw [hj];simpa using ew) fin hs
 ·have hj:(i + (its.toArray.size:Int)).toNat=j:=by
   rw [seqIndex_neg (by omega) h4] at h1;rw [List.size_toArray,← hl];exact Option.some.inj h1
  exact subscriptTail_builtinR (x:=w) pl.isList.typeIs slot_list_getitem.lookup
   (wpAny_getItem_list_neg (Q:=fun r s'=>r=w∧EP X pins σ Q r s') pl.isList (by omega) (by rw [List.size_toArray] <;> omega) (by omega) (by rw [hj];simpa using ew) ⟨rfl,fin⟩) hs
theorem xf:IxR X (tO X.K):=by
 intro value slice pins s σ H x y v u Q I rx ry h hs;obtain ⟨p,rfl,xs,hzz⟩:=yh.out h;obtain ⟨i,rfl,hq,z,he,q⟩:=mj.out hzz;cases rx;obtain ⟨t,rfl⟩:=ry;obtain ⟨its,r,pl,hz⟩:=I.tuple hq;obtain ⟨j,h1,h2,h3,h4,h5⟩:=oy he;obtain ⟨w,ew,rw'⟩:=r.get h2;have hl:=r.length;have hn:=Yp;have fin:EP X pins σ Q w s:=⟨z,H,I,rw',q⟩;exact subscriptTail_builtinR (x:=w) pl.typeIs slot_tuple_getitem.lookup
  (getItem_tuple (j:=j) (Q:=fun r s'=>r=w∧EP X pins σ Q r s') pl (by omega) (by omega) (by rw [List.size_toArray,← hl];exact h1) (by simpa using ew) ⟨rfl,fin⟩) hs
theorem eI:IxR X YO:=by
 intro value slice pins s σ H x y v u Q I rx ry h hs;obtain ⟨z,i,c,rfl,rfl,hz,he,q⟩:=h;obtain ⟨t,rfl⟩:=rx;obtain ⟨t',rfl⟩:=ry;obtain ⟨j,h1,h2,h3,h4,h5⟩:=oy he;have hl:z.cps.toList.length=z.length:=by simp [Str.length]
 rw [hl] at h1 h4 h5;have hn:=Yp;exact tail_any (typeIs_str s z t) slot_str_getitem.lookup (getItem_str (c:=c) (by
  have e1:decide (i < -(2 ^ 63:Int))=false:=decide_eq_false (by omega);have e2:decide (i ≥ 2 ^ 63)=false:=decide_eq_false (by omega);rw [e1,e2,Bool.or_false]) (by rw [h1];simpa using h2) ⟨.str ⟨#[c]⟩,H,I.tok _,⟨_,rfl⟩,q⟩) hs
theorem xB (its:List Value) (n j:Nat) (u:Value):Obj.mapSeq (·.setIfInBounds j u) { cls:=.type "list",data:=.seq its.toArray n } = { cls:=.type "list",data:=.seq (its.set j u).toArray n }:=by
 simp [Obj.mapSeq]
theorem Inv.lst {pins:List (Addr × Obj)} {σ:St} {H:Hp} {s:Shared} {p:Addr} {xs:List V} (I:Inv X pins σ H s) (h:H p=some (.lst xs)) :
  ∃ (its:List Value) (n:Nat),Uc xs its∧s.heap.get? p=some { cls:=.type "list",data:=.seq its.toArray n }∧xs.length ≤ sizeLine:=by
 obtain ⟨z,its,n,r,e⟩:=I.hok p _ h;exact ⟨its,n,r,e,z⟩
theorem Inv.lstUpd {pins:List (Addr × Obj)} {σ:St} {H:Hp} {s:Shared} {p:Addr} {xs ys:List V} {its its':List Value} {n n':Nat} {f:Obj→Obj} (I:Inv X pins σ H s) (h:H p=some (.lst xs))
  (ho:s.heap.get? p=some { cls:=.type "list",data:=.seq its.toArray n }) (hf:f { cls:=.type "list",data:=.seq its.toArray n } = { cls:=.type "list",data:=.seq its'.toArray n' }) (r:Uc ys its') (hz:ys.length ≤ sizeLine) (t:Nat) :
  Inv X pins σ (upd H p (.lst ys)) { s with heap:=s.heap.update p f,toks:=t }:=by
 have e:(s.heap.update p f).get? p=some { cls:=.type "list",data:=.seq its'.toArray n' }:=by
  rw [Heap.get?_update_self f ho (by rw [hf] <;> rfl),hf]
 refine I.write (x:=p) (e:=p) (by rw [h];trivial) (.inl rfl) (fun b u hb q=>(Heap.get?_update_other _ _ (Ne.symm hb)).trans q) ⟨_,e⟩ ?_;exact ⟨hz,its',n',r,e⟩
noncomputable def pM:V→V→V→Hp→(Hp→Prop)→Prop:=fun o i v H Q=>yh o fun p=>∃ xs,mj i fun k=>H p=some (.lst xs)∧∃ j,ixN xs.length k=some j∧Q (upd H p (.lst (xs.set j v)))
theorem Xm:iP X pM:=by
 intro pins s σ H o i v ov iv u Q I ro ri rv h;obtain ⟨p,rfl,xs,hzz⟩:=yh.out h;obtain ⟨k,rfl,hp,j,hj,q⟩:=mj.out hzz;cases ro;obtain ⟨t,rfl⟩:=ri;obtain ⟨its,n,r,ho,hz⟩:=I.lst hp;obtain ⟨h1,h2,h3,h4⟩:=gE hj;have hl:=r.length;have hn:=Yp;have I':Inv X pins σ (upd H p (.lst (xs.set j v))) { s with heap:=s.heap.update p (Obj.mapSeq (·.setIfInBounds j u)) }:=
  I.lstUpd hp ho (xB its n j u) (r.set rv j) (by rw [List.length_set];exact hz) s.toks
 by_cases h0:0 ≤ k
 ·have hk:k.toNat=j:=by
   rw [seqIndex_of h0 h4] at h1;exact Option.some.inj h1
  exact PySem.W.ki_setAt ho h0 (by omega) (by rw [List.size_toArray,← hl];exact h4) (by rw [hk];exact ⟨_,I',q⟩)
 ·have hk:(k + (its.toArray.size:Int)).toNat=j:=by
   rw [seqIndex_neg (by omega) h3] at h1;rw [List.size_toArray,← hl];exact Option.some.inj h1
  exact PySem.W.ki_setBack ho (by omega) (by rw [List.size_toArray,← hl];exact h3) (by omega) (by rw [hk];exact ⟨_,I',q⟩)
theorem Lx (lo hi:Option Int) (n:Nat):(sliceBounds lo hi none n).1=((HT.sIx n 0 lo:Nat):Int)∧(sliceBounds lo hi none n).2.1=((HT.sIx n n hi:Nat):Int)∧(sliceBounds lo hi none n).2.2=1:=by
 refine ⟨?_,?_,rfl⟩
 ·cases lo with
  | none=>simp [sliceBounds,HT.sIx]
  | some i=>
   simp only [sliceBounds,HT.sIx,Option.getD_none,show (1:Int) > 0 by decide,if_true];by_cases h:i < 0
   ·simp only [h,if_true] <;> omega
   ·simp only [h,if_false] <;> omega
 ·cases hi with
  | none=>simp [sliceBounds,HT.sIx]
  | some i=>
   simp only [sliceBounds,HT.sIx,Option.getD_none,show (1:Int) > 0 by decide,if_true];by_cases h:i < 0
   ·simp only [h,if_true] <;> omega
   ·simp only [h,if_false] <;> omega
theorem Yu (its:List Value) (lo hi:Option Int):slicePick its.toArray lo hi none=((its.drop (HT.sIx its.length 0 lo)).take (HT.sIx its.length its.length hi - HT.sIx its.length 0 lo)).toArray:=by
 obtain ⟨h1,h2,h3⟩:=Lx lo hi its.toArray.size;unfold slicePick;rw [h1,h2,h3];simp only [sliceRange_one,pick_run,List.size_toArray] <;> rfl
noncomputable def MO (K:PySem.W.Frag):V→Option Int→Option Int→Hp→VK→Prop:=fun x lo hi H Q=>∃ a xs,x=.ref a∧SqL K H a xs∧∀ p,H p=none→Q (.ref p) (upd H p (.lst (uE xs lo hi)))
theorem sK:SlR X (MO X.K):=by
 intro pins s σ H x v vl vu lo hi sl Q I rx hs pl pu h;obtain ⟨a,xs,rfl,hx,q⟩:=h;cases rx;obtain ⟨its,r,ht,hz⟩:=I.list hx;have hlen:=r.length;refine ⟨"list",_,slot_list_getitem.lookup,ht.isList.typeIs,?_⟩;refine wpAny_getItem_list_slice ht.isList hs pl pu .none (by simp) ?_ (by rw [List.size_toArray] <;> omega);rw [Yu,← hlen];refine ⟨.ref s.heap.objs.size,_,I.laid (t':=s.toks) (o:=.lst (uE xs lo hi)) (fun b ob q=>Heap.get?_push_of_some _ q) (Nat.le_refl _) ?_,rfl,q _ (I.hok.fresh (Nat.le_refl _))⟩;exact ⟨Nat.le_trans (kr xs lo hi) hz,_,0,(r.drop (HT.sIx xs.length 0 lo)).take (HT.sIx xs.length xs.length hi - HT.sIx xs.length 0 lo),Heap.get?_push_size _ rfl⟩
noncomputable def Nj:V→Bool
 | .non=>true
 | .bl _=>true
 | .int _=>true
 | .str _=>true
 | _=>false
noncomputable def eqV:V→V→Bool
 | .non,.non=>true
 | .bl a,.bl b=>a == b
 | .bl a,.int b=>(if a then 1 else 0) == b
 | .int a,.bl b=>a == (if b then 1 else 0)
 | .int a,.int b=>a == b
 | .str a,.str b=>a == b
 | _,_=>false
theorem qI {A:Around} {s:Shared} {y x:V} {u v:Value} (ry:gd y u) (rx:gd x v) (fy:Nj y=true) (fx:Nj x=true):SeqAt.EqAt A s u v (eqV y x):=by
 cases y with
 | non=>
  cases ry;cases x with
  | non=>cases rx;exact SeqAt.EqAt.same _
  | bl b=>cases rx;exact SeqAt.EqAt.none_bool b
  | int b=>obtain ⟨t,rfl⟩:=rx;exact SeqAt.EqAt.none_int b t
  | str b=>obtain ⟨t,rfl⟩:=rx;exact SeqAt.EqAt.none_str b t
  | _=>exact absurd (show false=true from fx) Bool.false_ne_true
 | bl a=>
  cases ry;cases x with
  | non=>cases rx;exact SeqAt.EqAt.bool_none a
  | bl b=>cases rx;exact SeqAt.EqAt.bool_bool a b
  | int b=>obtain ⟨t,rfl⟩:=rx;exact SeqAt.EqAt.bool_int a b t
  | str b=>obtain ⟨t,rfl⟩:=rx;exact SeqAt.EqAt.bool_str a b t
  | _=>exact absurd (show false=true from fx) Bool.false_ne_true
 | int a=>
  obtain ⟨t',rfl⟩:=ry;cases x with
  | non=>cases rx;exact SeqAt.EqAt.int_none a t'
  | bl b=>cases rx;exact SeqAt.EqAt.int_bool a t' b
  | int b=>obtain ⟨t,rfl⟩:=rx;exact SeqAt.EqAt.int_int a t' b t
  | str b=>obtain ⟨t,rfl⟩:=rx;exact SeqAt.EqAt.int_str a t' b t
  | _=>exact absurd (show false=true from fx) Bool.false_ne_true
 | str a=>
  obtain ⟨t',rfl⟩:=ry;cases x with
  | non=>cases rx;exact SeqAt.EqAt.str_none a t'
  | bl b=>cases rx;exact SeqAt.EqAt.str_bool a t' b
  | int b=>obtain ⟨t,rfl⟩:=rx;exact SeqAt.EqAt.str_int a t' b t
  | str b=>obtain ⟨t,rfl⟩:=rx;exact SeqAt.EqAt.str_str a t' b t
  | _=>exact absurd (show false=true from fx) Bool.false_ne_true
 | _=>exact absurd (show false=true from fy) Bool.false_ne_true
noncomputable def eqU (x:V) (u:Value):Bool:=match u with
 | .none=>eqV .non x
 | .bool b=>eqV (.bl b) x
 | .int i _=>eqV (.int i) x
 | .str z _=>eqV (.str z) x
 | _=>false
theorem WI {x y:V} {u:Value} (r:gd y u) (f:Nj y=true):eqU x u=eqV y x:=by
 cases y with
 | non=>cases r;rfl
 | bl b=>cases r;rfl
 | int i=>obtain ⟨t,rfl⟩:=r;rfl
 | str z=>obtain ⟨t,rfl⟩:=r;rfl
 | _=>exact absurd (show false=true from f) Bool.false_ne_true
theorem vq {x:V}:∀ {xs:List V} {us:List Value},Uc xs us→xs.all Nj=true→us.any (eqU x)=xs.any fun y=>eqV y x
 | _,_,.nil,_=>rfl
 | y :: xs,u :: us,.cons r t,f=>by
  rw [List.all_cons,Bool.and_eq_true] at f;rw [List.any_cons,List.any_cons,WI r f.1,vq t f.2]
theorem Bm {A:Around} {s:Shared} {x:V} {v:Value} (rx:gd x v) (fx:Nj x=true):∀ {xs:List V} {us:List Value},Uc xs us→xs.all Nj=true→∀ u ∈ us,SeqAt.EqAt A s u v (eqU x u)
 | _,_,.nil,_=>fun u hu=>by cases hu
 | y :: xs,u :: us,.cons r t,f=>fun u' hu=>by
  rw [List.all_cons,Bool.and_eq_true] at f;rcases List.mem_cons.mp hu with rfl | hu
  ·rw [WI r f.1];exact qI r rx f.1 fx
  ·exact Bm rx fx t f.2 u' hu
noncomputable def inV (x:V) (xs:List V):Bool:=xs.any fun y=>eqV y x
noncomputable def rIn (K:PySem.W.Frag) (neg:Bool):R2:=fun x y H Q=>∃ p xs,y=.ref p∧(SqL K H p xs∨SqT K H p xs)∧Nj x=true∧xs.all Nj=true∧Q (.bl (if neg then !inV x xs else inV x xs)) H
theorem Xq:OpR X (compareOp .In) (rIn X.K false):=by
 intro pins s σ H x y v u Q I rx ry h;obtain ⟨p,xs,rfl,hq,fx,fs,q⟩:=h;cases ry;rcases hq with hq | hq
 ·obtain ⟨its,r,pl,hz⟩:=I.list hq;refine SeqAt.in_listAt (eqU x) pl.isList (fun w hw=>Bm rx fx r fs w (by simpa using hw)) ⟨.bl _,H,I,rfl,?_⟩;rw [show its.toArray.any (eqU x)=its.any (eqU x) by simp,vq r fs];exact q
 ·obtain ⟨its,r,pl,hz⟩:=I.tuple hq;refine SeqAt.in_tupleAt (eqU x) pl (fun w hw=>Bm rx fx r fs w (by simpa using hw)) ⟨.bl _,H,I,rfl,?_⟩;rw [show its.toArray.any (eqU x)=its.any (eqU x) by simp,vq r fs];exact q
theorem bw:OpR X (compareOp .NotIn) (rIn X.K true):=by
 intro pins s σ H x y v u Q I rx ry h;obtain ⟨p,xs,rfl,hq,fx,fs,q⟩:=h;cases ry;rcases hq with hq | hq
 ·obtain ⟨its,r,pl,hz⟩:=I.list hq;refine SeqAt.notIn_listAt (eqU x) pl.isList (fun w hw=>Bm rx fx r fs w (by simpa using hw)) ⟨.bl _,H,I,rfl,?_⟩;rw [show its.toArray.any (eqU x)=its.any (eqU x) by simp,vq r fs];exact q
 ·obtain ⟨its,r,pl,hz⟩:=I.tuple hq;refine SeqAt.notIn_tupleAt (eqU x) pl (fun w hw=>Bm rx fx r fs w (by simpa using hw)) ⟨.bl _,H,I,rfl,?_⟩;rw [show its.toArray.any (eqU x)=its.any (eqU x) by simp,vq r fs];exact q
theorem ic:Kl X (.builtin "len") (fun xs H Q=>GB xs fun x=>yh x fun p=>∃ ys,(SqL X.K H p ys∨SqT X.K H p ys)∧Q (.int ys.length) H):=by
 intro pins s σ H xs us Q I r h;obtain ⟨zx,rfl,hzz⟩:=GB.out h;obtain ⟨p,rfl,ys,hq,q⟩:=yh.out hzz;obtain ⟨u,rfl,rx⟩:=Oo r;cases rx;have hn:=Yp;rcases hq with hq | hq
 ·obtain ⟨its,r',pl,hz⟩:=I.list hq;have hlen:=r'.length;exact Calls.call_len_list pl.isList (by simp only [List.size_toArray] <;> omega) ⟨.int ys.length,H,I.tok _,⟨s.toks + 1,by rw [List.size_toArray,hlen]⟩,q⟩
 ·obtain ⟨its,r',pl,hz⟩:=I.tuple hq;have hlen:=r'.length;exact len_tuple pl (by simp only [List.size_toArray] <;> omega) ⟨.int ys.length,H,I.tok _,⟨s.toks + 1,by rw [List.size_toArray,hlen]⟩,q⟩
theorem jw:Kl X (.builtin "len") (fun xs H Q=>∃ z,xs=[.str z]∧z.length ≤ sizeLine∧Q (.int z.length) H):=by
 intro pins s σ H xs us Q I r h;obtain ⟨z,rfl,hz,q⟩:=h;obtain ⟨u,rfl,t,rfl⟩:=Oo r;have hn:=Yp;exact len_str (by omega) ⟨.int z.length,H,I.tok _,⟨_,rfl⟩,q⟩
theorem Ao:Kl X (.type "list") (fun xs H Q=>∃ p ys,xs=[.ref p]∧(SqL X.K H p ys∨SqT X.K H p ys)∧∀ l,H l=none→Q (.ref l) (upd H l (.lst ys))):=by
 intro pins s σ H xs us Q I r h;obtain ⟨p,ys,rfl,hq,q⟩:=h;obtain ⟨u,rfl,rx⟩:=Oo r;cases rx;have fin:∀ (its:List Value),Uc ys its→ys.length ≤ sizeLine→∀ (h':Heap) (c':Nat),(∀ b o',s.heap.get? b=some o'→h'.get? b=some o') →
   h'.get? s.heap.objs.size=some { cls:=.type "list",dict:=none,data:=.seq its.toArray c',slots:=#[] }→EP X pins σ Q (.ref s.heap.objs.size) { s with heap:=h' }:=fun its r' hz h' c' kp e=>
  ⟨.ref s.heap.objs.size,_,I.laid (t':=s.toks) kp (Nat.le_refl _) (show qd X.prog X.w _ h' _ (.lst ys) from ⟨hz,its,c',r',e⟩),rfl,q _ (I.hok.fresh (Nat.le_refl _))⟩
 rcases hq with hq | hq
 ·obtain ⟨its,r',pl,hz⟩:=I.list hq;have hlen:=r'.length;obtain ⟨o,ho,hc,n,hd⟩:=pl.isList;exact call_list_seq p (.inl rfl) ho hc hd (fun h' c' kp e=>fin its r' hz h' c' kp e) (by simp only [List.size_toArray] <;> omega)
 ·obtain ⟨its,r',pl,hz⟩:=I.tuple hq;have hlen:=r'.length;obtain ⟨o,ho,hc,n,hd⟩:=pl;exact call_list_seq p (.inr rfl) ho hc hd (fun h' c' kp e=>fin its r' hz h' c' kp e) (by simp only [List.size_toArray] <;> omega)
noncomputable def tyV (K:PySem.W.Frag) (T:String) (x:V) (H:Hp):Prop:=match x with
 | .str _=>T = "str"
 | .int _=>T = "int"
 | .ref p=>(T = "list" ∧ ∃ xs,SqL K H p xs)∨(T = "tuple" ∧ ∃ o,K.lookup p=some o∧o.cls=.type "tuple" ∧ o.dict=none) ∨
   (T = "dict" ∧ ((∃ kvs,H p=some (.dK kvs))∨∃ kvs,H p=some (.dT kvs)))∨(T = "set" ∧ ∃ S n,H p=some (.set S n))
 | _=>False
theorem aI {pins:List (Addr × Obj)} {σ:St} {H:Hp} {s:Shared} {T:String} {x:V} {v:Value} (I:Inv X pins σ H s) (r:gd x v) (ty:tyV X.K T x H) :
  s.TypeIs v T∧∀ a,v=.ref a→∃ ob,s.heap.get? a=some ob∧ob.dict=none:=by
 cases x with
 | str z=>
  obtain ⟨t,rfl⟩:=r;cases (show T = "str" from ty);exact ⟨typeIs_str s z t,fun _ e=>nomatch e⟩
 | int i=>
  obtain ⟨t,rfl⟩:=r;cases (show T = "int" from ty);exact ⟨typeIs_int s i t,fun _ e=>nomatch e⟩
 | ref p=>
  cases r;rcases ty with ⟨rfl,xs,hq⟩ | ⟨rfl,o,hk,hc,hd⟩ | ⟨rfl,hk⟩ | ⟨rfl,S,n,hk⟩
  ·obtain ⟨its,_,pl,_⟩:=I.list hq;refine ⟨pl.isList.typeIs,fun a e=>?_⟩;cases e;obtain ⟨o,n,e,c,hd,_⟩:=pl;exact ⟨o,e,hd⟩
  ·refine ⟨⟨o,I.kIn p o hk,hc⟩,fun a e=>?_⟩;cases e;exact ⟨o,I.kIn _ o hk,hd⟩
  ·have z:∃ o,s.heap.get? p=some o∧o.ExactDict:=by
    rcases hk with ⟨kvs,hk⟩ | ⟨kvs,hk⟩
    ·obtain ⟨_,_,_,_,o,_,_,e,ex,_⟩:=I.hok p _ hk;exact ⟨o,e,ex⟩
    ·obtain ⟨_,_,_,_,o,_,_,e,ex,_⟩:=I.hok p _ hk;exact ⟨o,e,ex⟩
   obtain ⟨o,e,ex⟩:=z;refine ⟨⟨o,e,ex.1⟩,fun a e2=>?_⟩;cases e2;exact ⟨o,e,ex.2.1⟩
  ·obtain ⟨o,_,_,_,e,ex,_⟩:=I.hok p _ hk;refine ⟨⟨o,e,ex.1⟩,fun a e2=>?_⟩;cases e2;exact ⟨o,e,ex.2.1⟩
 | _=>exact False.elim ty
noncomputable def JO (K:PySem.W.Frag) (T:String) (r:V→List V→Hp→VK→Prop) (to:TE):TE:=fun σ H Q=>to σ H fun x H1=>tyV K T x H1∧r x [] H1 Q
noncomputable def tBM (K:PySem.W.Frag) (T:String) (r:V→List V→Hp→VK→Prop) (to:TE) (t:TA):TE:=fun σ H Q=>to σ H fun x H1=>tyV K T x H1∧t σ H1 fun xs H2=>r x xs H2 Q
variable {o e:Expr} {es:List Expr} {to:TE} {t:TA} {name:Str} {apos cpos:Pos} {T id:String} {r:V→List V→Hp→VK→Prop}
theorem IM (pa:PlainAttrs T) (slot:Slot T name id) (hty:typeOf (.builtin id)=pure (.type "method_descriptor")) (hm:MtR X id r) (ho:PE X o to)
  (hbase:attributeBase o name X.env (eval o X.env)=eval o X.env:=by rfl) (hline:(apos.endLine == cpos.line)=true:=by rfl):PE X (.Call (.Attribute o name apos) [] [] cpos) (JO X.K T r to):=by
 intro pins s σ H Q I h;refine wpAny_Call_method0_late hbase hline (thn (ho pins s σ H _ I h) fun v s1 hZ1=>?_);obtain ⟨x,H1,I1,r1,ty,q1⟩:=hZ1;obtain ⟨h1,h2⟩:=aI I1 r1 ty;exact ⟨T,id,pa,slot,hty,h1,h2,Calls.callWith_builtin rfl (PySem.evalArgs_none (hm pins s1 σ H1 x [] v [] Q I1 r1 .nil q1))⟩
theorem On (pa:PlainAttrs T) (slot:Slot T name id) (hty:typeOf (.builtin id)=pure (.type "method_descriptor")) (hm:MtR X id r) (ho:PE X o to) (ha:PA X (e :: es) t)
  (hbase:attributeBase o name X.env (eval o X.env)=eval o X.env:=by rfl)
  (hfew:((backTo cpos (starEach (e :: es) X.env)).all (fun x=>!x.1) && (backToKw cpos (keywordEach [] X.env)).all (fun x=>x.1.isSome)
   && decide ((e :: es).length + ([]:List Keyword).length + (if ([]:List Keyword).isEmpty then 0 else 1) < 30))=true:=by rfl)
  (hline:(apos.endLine == cpos.line)=true:=by rfl) (hs:starEach (e :: es) X.env=(false,eval e X.env) :: starEach es X.env:=by rfl) (hplain:(backTo cpos (starEach es X.env)).any (·.1)=false:=by rfl) :
  PE X (.Call (.Attribute o name apos) (e :: es) [] cpos) (tBM X.K T r to t):=by
 intro pins s σ H Q I h;refine wpAny_Call_method_late hbase hfew hline rfl (thn (ho pins s σ H _ I h) fun v s1 hZ1=>?_);obtain ⟨x,H1,I1,r1,ty,q1⟩:=hZ1;obtain ⟨h1,h2⟩:=aI I1 r1 ty;refine ⟨T,id,pa,slot,hty,h1,h2,?_⟩;have hA:=ha cpos pins s1 σ H1 _ I1 q1;rw [hs] at hA ⊢;refine Calls.callWith_builtin (by show (false || (backTo cpos (starEach es X.env)).any (·.1))=false;rw [hplain] <;> rfl) (Calls.evalArgs_plain ?_);exact thn hA fun us s2 ⟨vs,H2,I2,r2,q2⟩=>hm pins s2 σ H2 x vs v us Q I2 r1 r2 q2
end
end L2
namespace L2
open PySem PySem.Spec PyProof.Rows
noncomputable def MtM (X:Cx) (id:String) (r:V→List V→Hp→VK→Prop):Prop:=
 ∀ (pins:List (Addr × Obj)) (s:Shared) (σ:St) (H:Hp) (x:V) (xs:List V) (v:Value) (us:List Value) (Q:VK),Inv X pins σ H s→gd x v→Uc xs us→r x xs H Q →
  wpAny (model X.prog X.w) X.A (call (.builtin id) (v :: us)) (EP X pins σ Q) X.xe s
theorem Uc.one:∀ {x:V} {us:List Value},Uc [x] us→∃ u,us=[u]∧gd x u
 | _,_,.cons r .nil=>⟨_,rfl,r⟩
theorem Uc.two:∀ {x y:V} {us:List Value},Uc [x,y] us→∃ u v,us=[u,v]∧gd x u∧gd y v
 | _,_,_,.cons r (.cons q .nil)=>⟨_,_,rfl,r,q⟩
theorem Uc.zero:∀ {us:List Value},Uc [] us→us=[]
 | _,.nil=>rfl
theorem Uc.eraseIdx:∀ {xs:List V} {us:List Value} (i:Nat),Uc xs us→Uc (xs.eraseIdx i) (us.eraseIdx i)
 | _,_,_,.nil=>.nil
 | _,_,0,.cons _ t=>t
 | _,_,i + 1,.cons r t=>.cons r (Uc.eraseIdx i t)
theorem Uc.reverse {xs:List V} {us:List Value} (h:Uc xs us):Uc xs.reverse us.reverse:=by
 induction h with
 | nil=>exact .nil
 | cons r t ih=>rw [List.reverse_cons,List.reverse_cons];exact Uc.append ih (.cons r .nil)
theorem Uc.rep {xs:List V} {us:List Value} (h:Uc xs us):∀ k:Nat,Uc (List.replicate k xs).flatten (List.replicate k us).flatten
 | 0=>.nil
 | k + 1=>by
  rw [List.replicate_succ,List.replicate_succ,List.flatten_cons,List.flatten_cons];exact Uc.append h (Uc.rep h k)
theorem Wv {α:Type}:∀ (l:List α) (i:Nat),(l.eraseIdx i).length ≤ l.length
 | [],_=>Nat.le_refl _
 | _ :: _,0=>Nat.le_succ _
 | _ :: r,i + 1=>Nat.succ_le_succ (Wv r i)
theorem yw (its:List Value):∀ (k:Nat) (acc:List Value),
  List.foldl (fun x1 x2=>x1 ++ x2) acc.toArray (List.replicate k its.toArray)=(acc ++ (List.replicate k its).flatten).toArray
 | 0,acc=>by simp
 | k + 1,acc=>by
  have e:acc.toArray ++ its.toArray=(acc ++ its).toArray:=by simp
  have e2:(acc ++ its) ++ (List.replicate k its).flatten=acc ++ (List.replicate (k + 1) its).flatten:=by
   rw [List.replicate_succ,List.flatten_cons,List.append_assoc]
  rw [← e2,← yw its k (acc ++ its),← e,List.replicate_succ,List.foldl_cons]
section
variable {X:Cx} {pins:List (Addr × Obj)} {σ:St} {H:Hp} {s:Shared} {l b:Addr} {xs ys zs:List V}
theorem Inv.lset {its its':List Value} {n:Nat} {f:Array Value→Array Value} {t':Nat} (I:Inv X pins σ H s) (hH:H l=some (.lst xs))
  (e:s.heap.get? l=some { cls:=.type "list",data:=.seq its.toArray n }) (hf:f its.toArray=its'.toArray) (hv:Uc ys its') (hz:ys.length ≤ sizeLine) :
  Inv X pins σ (upd H l (.lst ys)) { s with heap:=s.heap.update l (Obj.mapSeq f),toks:=t' }:=by
 have q:=PySem.IsL.update e f;rw [hf] at q;refine I.write (x:=l) (e:=l) (by rw [hH];exact trivial) (.inl rfl) (fun b' u hb hu=>(Heap.get?_update_other s.heap (Obj.mapSeq f) (Ne.symm hb)).trans hu) ⟨_,q⟩ ?_;exact ⟨hz,its',_,hv,q⟩
theorem Inv.lnew {its:List Value} {t':Nat} (I:Inv X pins σ H s) (hv:Uc ys its) (hz:ys.length ≤ sizeLine) :
  Inv X pins σ (upd H s.heap.objs.size (.lst ys)) { s with heap:=s.heap.push { cls:=.type "list",data:=.seq its.toArray },toks:=t' }:=
 I.laid (fun _ _ q=>Heap.get?_push_of_some _ q) (Nat.le_refl _) ⟨hz,its,0,hv,Heap.get?_push_size _ rfl⟩
theorem Inv.fresh (I:Inv X pins σ H s):H s.heap.objs.size=none:=I.hok.fresh (Nat.le_refl _)
theorem Inv.lstM (I:Inv X pins σ H s) (hH:H l=some (.lst xs)):xs.length ≤ sizeLine∧∃ (its:List Value) (n:Nat),Uc xs its∧xs.length=its.length∧s.heap.get? l=some { cls:=.type "list",data:=.seq its.toArray n }:=by
 obtain ⟨z,its,n,r,e⟩:=I.hok l _ hH;exact ⟨z,its,n,r,r.length,e⟩
theorem XH {n:Nat} (h:n ≤ sizeLine):Builtin.List.listTooLong n=false:=by
 unfold Builtin.List.listTooLong;exact decide_eq_false (by omega)
end
section
variable {X:Cx}
noncomputable def KC:V→List V→Hp→VK→Prop:=fun x vs H Q=>yh x fun l=>GB vs fun y=>∃ xs,H l=some (.lst xs)∧xs.length < sizeLine∧Q .non (upd H l (.lst (xs ++ [y])))
theorem Yg:MtM X "list.append" KC:=by
 intro pins s σ H x vs v us Q I rx rv h;obtain ⟨l,rfl,hzz⟩:=yh.out h;obtain ⟨y,rfl,xs,hH,hz,q⟩:=GB.out hzz;cases rx;obtain ⟨u,rfl,ru⟩:=rv.one;obtain ⟨z,its,n,r,hl,e⟩:=I.lstM hH;refine call_meets F.slot_list_append ⟨_,e,rfl⟩ F.entry_list_append (F.args_list_append_2 _ _) (PySem.list_append l its.toArray n u (by rw [List.size_toArray];omega)) ⟨e,?_⟩;refine ⟨.non,_,I.lset (its':=its ++ [u]) hH e (by simp) (r.append (.cons ru .nil)) ?_,rfl,q⟩;rw [List.length_append,List.length_singleton];omega
noncomputable def DI:V→List V→Hp→VK→Prop:=fun x vs H Q=>∃ l xs i k y,x=.ref l∧vs=[.int i]∧H l=some (.lst xs)∧-(2 ^ 63) ≤ i∧i < 2 ^ 63∧seqIndex? i xs.length=some k∧xs[k]? = some y∧Q y (upd H l (.lst (xs.eraseIdx k)))
theorem LH:MtM X "list.pop" DI:=by
 intro pins s σ H x vs v us Q I rx rv h;obtain ⟨l,xs,i,k,y,rfl,rfl,hH,h1,h2,hk,hy,q⟩:=h;cases rx;obtain ⟨u,rfl,ru⟩:=rv.one;obtain ⟨t,rfl⟩:=ru;obtain ⟨z,its,n,r,hl,e⟩:=I.lstM hH;obtain ⟨w,hw,rw'⟩:=r.get hy;refine call_meets F.slot_list_pop ⟨_,e,rfl⟩ F.entry_list_pop (F.args_list_pop_2 _ _)
  (MeetsSeq.list_pop_at l its.toArray n i t k w (fitsIndex_both h1 h2) (by rw [List.size_toArray,← hl];exact hk) (by rw [← Array.getElem?_toList];exact hw) (by rw [List.size_toArray];omega)) ⟨e,?_⟩
 refine ⟨y,_,I.lset (its':=its.eraseIdx k) hH e ?_ (r.eraseIdx k) ?_,rw',q⟩
 ·show its.toArray.eraseIdxIfInBounds k=(its.eraseIdx k).toArray;rw [List.eraseIdxIfInBounds_toArray]
 ·have:=Wv xs k;omega
noncomputable def aP:R2:=fun x y H Q=>∃ l k xs,x=.ref l∧y=.int k∧H l=some (.lst xs)∧-(2 ^ 63) ≤ k∧k < 2 ^ 63∧xs.length * k.toNat ≤ sizeLine ∧
 ∀ p,H p=none→Q (.ref p) (upd H p (.lst (List.replicate k.toNat xs).flatten))
theorem iL {α:Type} (xs:List α) (k:Nat):(List.replicate k xs).flatten.length=k * xs.length:=by
 induction k with
 | zero=>simp
 | succ k ih=>rw [List.replicate_succ,List.flatten_cons,List.length_append,ih,Nat.succ_mul,Nat.add_comm]
theorem kM:OpR X (binaryOp .Mult) aP:=by
 intro pins s σ H x y v u Q I rx ry h;obtain ⟨l,k,xs,rfl,rfl,hH,h1,h2,hz,q⟩:=h;cases rx;obtain ⟨t,rfl⟩:=ry;obtain ⟨z,its,n,r,hl,e⟩:=I.lstM hH;have hlen:its.toArray.size * k.toNat ≤ sizeLine:=by rw [List.size_toArray,← hl];exact hz
 have hcap:¬ its.toArray.size * k.toNat > (2 ^ 63 - 1) / 8:=by
  have:(sizeLine:Nat) ≤ (2 ^ 63 - 1) / 8:=by decide
  omega
 have hfit:¬ (!Builtin.List.listFitsIndex k)=true:=by
  rw [fitsIndex_both h1 h2];exact Bool.false_ne_true
 have hlong:¬ Builtin.List.listTooLong (its.toArray.size * k.toNat)=true:=by
  rw [XH hlen];exact Bool.false_ne_true
 have hnew:List.foldl (fun x1 x2=>x1 ++ x2) #[] (List.replicate (if its.toArray.isEmpty=true then 0 else k.toNat) its.toArray)=(List.replicate k.toNat its).flatten.toArray:=by
  have f0:∀ m:Nat,List.foldl (fun x1 x2=>x1 ++ x2) #[] (List.replicate m its.toArray)=(List.replicate m its).flatten.toArray:=fun m=>by
   have:=yw its m [];rw [List.nil_append] at this;exact this
  rw [f0];cases its with
  | nil=>simp
  | cons a r'=>rw [if_neg (by simp)]
 refine wpAny_binaryOp_repeat_ref (T := "list") (U := "int") (by decide) ⟨_,e,rfl⟩ (fun s'=>typeIs_int s' k t) noFill_list_mul F.fills_int_mul F.slot_int_rmul repeat_list F.slot_int_index.lookup
  (call_meets F.slot_int_rmul (typeIs_int s k t) F.entry_int_rmul (F.args_int_rmul_2 _ _) (int___rmul___int_list k t l its.toArray n)
   ⟨e,rfl,⟨_,e,rfl⟩,call_meets F.slot_list_mul ⟨_,e,rfl⟩ F.entry_list_mul (F.args_list_mul_2 _ _) (AutoListH.list___mul___list_int_3 l its.toArray n k t hfit hcap hlong) ⟨e,?_⟩⟩)
 rw [hnew];exact ⟨.ref _,_,I.lnew (t':=s.toks) (r.rep k.toNat) (by rw [iL,Nat.mul_comm];exact hz),rfl,q _ I.fresh⟩
end
section
variable {prog:Program} {w:World} {A:Around} {E:Value→Shared→Prop} {s:Shared}
end
section
variable {X:Cx}
end
end L2
namespace L2
open PySem PySem.Spec PyProof.Rows
section
variable {κ:Type} [DecidableEq κ]
noncomputable def bo (kvs:List (κ × V)) (k:κ):Option V:=(kvs.find? fun kv=>decide (kv.1=k)).map (·.2)
noncomputable def Eo (kvs:List (κ × V)) (k:κ) (v:V):List (κ × V):=
 if (kvs.any fun kv=>decide (kv.1=k))=true then kvs.map (fun kv=>if kv.1=k then (kv.1,v) else kv) else kvs ++ [(k,v)]
noncomputable def sL (kvs:List (κ × V)) (k:κ):List (κ × V):=kvs.filter fun kv=>decide (kv.1 ≠ k)
theorem qp {p:κ × V} {r:List (κ × V)} {k:κ} (e:p.1=k):bo (p :: r) k=some p.2:=by simp [bo,List.find?_cons,e]
theorem up {p:κ × V} {r:List (κ × V)} {k:κ} (e:¬ p.1=k):bo (p :: r) k=bo r k:=by simp [bo,List.find?_cons,e]
theorem Dv (k:κ):∀ kvs:List (κ × V),(kvs.any fun kv=>decide (kv.1=k))=(bo kvs k).isSome
 | []=>rfl
 | p :: r=>by
  rw [List.any_cons];by_cases e:p.1=k
  ·simp only [qp e,decide_eq_true e,Bool.true_or,Option.isSome_some]
  ·rw [up e,decide_eq_false e,Bool.false_or];exact Dv k r
theorem Pl (kvs:List (κ × V)) (k:κ) (v:V):(Eo kvs k v).length ≤ kvs.length + 1:=by
 unfold Eo;split
 ·rw [List.length_map];omega
 ·rw [List.length_append,List.length_cons,List.length_nil];omega
theorem wv {kvs:List (κ × V)} {k:κ} (v:V) (h:bo kvs k=none):Eo kvs k v=kvs ++ [(k,v)]:=by
 unfold Eo;rw [Dv,h];exact if_neg (by decide)
theorem Gu.isSome_eq {o:Option V} {u:Option Value} (r:Gu o u):o.isSome=u.isSome:=by
 cases o with
 | none=>cases u with
  | none=>rfl
  | some _=>exact (show False from r).elim
 | some _=>cases u with
  | none=>exact (show False from r).elim
  | some _=>rfl
theorem Gu.getD {o:Option V} {u:Option Value} {d:V} {d':Value} (r:Gu o u) (rd:gd d d'):gd (o.getD d) (u.getD d'):=by
 cases o with
 | none=>cases u with
  | none=>exact rd
  | some _=>exact (show False from r).elim
 | some _=>cases u with
  | none=>exact (show False from r).elim
  | some _=>exact r
theorem KV.val {kvs:List (κ × V)} {vs:List (κ × Value)} (r:KV kvs vs) (k:κ):Gu (bo kvs k) (valueAt vs k):=by
 unfold KV at r
 induction r with
 | nil=>exact True.intro
 | @cons p q ps qs h t ih=>
  obtain ⟨h1,h2⟩:=h;by_cases e:p.1=k
  ·have e':q.1=k:=h1.symm.trans e;have b:valueAt (q :: qs) k=some q.2:=by simp [valueAt,List.find?_cons,e']
   rw [qp e,b];exact h2
  ·have e':¬ q.1=k:=fun z=>e (h1.trans z)
   have b:valueAt (q :: qs) k=valueAt qs k:=by simp [valueAt,List.find?_cons,e']
   rw [up e,b];exact ih
theorem KV.any {kvs:List (κ × V)} {vs:List (κ × Value)} (r:KV kvs vs) (k:κ):(kvs.any fun kv=>decide (kv.1=k))=vs.any fun kv=>decide (kv.1=k):=by
 unfold KV at r
 induction r with
 | nil=>rfl
 | cons h t ih=>rw [List.any_cons,List.any_cons,ih,h.1]
theorem KV.repl {kvs:List (κ × V)} {vs:List (κ × Value)} (r:KV kvs vs) (k:κ) {y:V} {u:Value} (ry:gd y u) :
  KV (kvs.map fun kv=>if kv.1=k then (kv.1,y) else kv) (vs.map fun kv=>if kv.1=k then (kv.1,u) else kv):=by
 unfold KV at r ⊢
 induction r with
 | nil=>exact .nil
 | @cons p q ps qs h t ih=>
  rw [List.map_cons,List.map_cons];refine .cons ?_ ih;obtain ⟨h1,h2⟩:=h;by_cases e:p.1=k
  ·rw [if_pos e,if_pos (h1.symm.trans e)];exact ⟨h1,ry⟩
  ·rw [if_neg e,if_neg (fun z=>e (h1.trans z))];exact ⟨h1,h2⟩
theorem KV.put {kvs:List (κ × V)} {vs:List (κ × Value)} (r:KV kvs vs) (k:κ) {y:V} {u:Value} (ry:gd y u):KV (Eo kvs k y) (stored vs k u):=by
 unfold Eo stored;rw [r.any k];by_cases e:(vs.any fun kv=>decide (kv.1=k))=true
 ·rw [if_pos e,if_pos e];exact r.repl k ry
 ·rw [if_neg e,if_neg e];exact Paired.snoc r ⟨rfl,ry⟩
theorem KV.drop {kvs:List (κ × V)} {vs:List (κ × Value)} (r:KV kvs vs) (k:κ):KV (sL kvs k) (without vs k):=by
 unfold KV at r ⊢;unfold sL without
 induction r with
 | nil=>exact .nil
 | @cons p q ps qs h t ih=>
  obtain ⟨h1,h2⟩:=h;rw [List.filter_cons,List.filter_cons];by_cases e:p.1=k
  ·have a:¬ decide (p.1 ≠ k)=true:=by simp [e]
   have b:¬ decide (q.1 ≠ k)=true:=by simp [h1.symm.trans e]
   rw [if_neg a,if_neg b];exact ih
  ·have e':¬ q.1=k:=fun z=>e (h1.trans z)
   have a:decide (p.1 ≠ k)=true:=by simp [e]
   have b:decide (q.1 ≠ k)=true:=by simp [e']
   rw [if_pos a,if_pos b];exact .cons ⟨h1,h2⟩ ih
theorem KV.keys {kvs:List (κ × V)} {vs:List (κ × Value)} (r:KV kvs vs):kvs.map (·.1)=vs.map (·.1):=by
 unfold KV at r
 induction r with
 | nil=>rfl
 | cons h t ih=>rw [List.map_cons,List.map_cons,ih,h.1]
theorem KV.length {kvs:List (κ × V)} {vs:List (κ × Value)} (r:KV kvs vs):kvs.length=vs.length:=Paired.length r
end
theorem MF {P:Program} {w:World} {k:Key} {u:Value} (r:gd (kV k) u):(Pd P w).is k u=true:=by
 cases k with
 | inl i=>obtain ⟨t,e⟩:=(show ∃ t,u=Value.int i t from r);subst e;exact fz P w i t
 | inr x=>obtain ⟨t,e⟩:=(show ∃ t,u=Value.str x t from r);subst e;exact Ey P w x t
theorem Bx {P:Program} {w:World}:∀ {ks:List Key} {us:List Value},Uc (ks.map kV) us→ItemsAre (Pd P w) ks us
 | [],_,r=>by rw [List.map_nil] at r;cases r;exact .nil
 | k :: ks,_,r=>by
  rw [List.map_cons] at r;cases r with
  | cons h t=>exact .cons (MF h) (Bx t)
noncomputable abbrev KT (H:Hp):List (List Key × V)→List (List Key × Addr × Value)→Prop:=Paired fun p q=>p.1=q.1∧H q.2.1=some (.tup (p.1.map kV))∧gd p.2 q.2.2
theorem KT.val {H:Hp} {kvs:List (List Key × V)} {xs:List (List Key × Addr × Value)} (r:KT H kvs xs) (k:List Key):Gu (bo kvs k) ((atKey xs k).map (·.2)):=by
 induction r with
 | nil=>exact True.intro
 | @cons p q ps qs h t ih=>
  obtain ⟨h1,_,h2⟩:=h;by_cases e:p.1=k
  ·have e':q.1=k:=h1.symm.trans e;have b:atKey (q :: qs) k=some q.2:=by simp [atKey,List.find?_cons,e']
   rw [qp e,b];exact h2
  ·have e':¬ q.1=k:=fun z=>e (h1.trans z)
   have b:atKey (q :: qs) k=atKey qs k:=by simp [atKey,List.find?_cons,e']
   rw [up e,b];exact ih
theorem KT.repl {H:Hp} {kvs:List (List Key × V)} {xs:List (List Key × Addr × Value)} (r:KT H kvs xs) (k:List Key) {y:V} {u:Value} (ry:gd y u) :
  KT H (kvs.map fun kv=>if kv.1=k then (kv.1,y) else kv) (xs.map (putAt k u)):=by
 induction r with
 | nil=>exact .nil
 | @cons p q ps qs h t ih=>
  rw [List.map_cons,List.map_cons];refine .cons ?_ ih;obtain ⟨h1,h2,h3⟩:=h;unfold putAt;by_cases e:p.1=k
  ·rw [if_pos e,if_pos (h1.symm.trans e)];exact ⟨h1,h2,ry⟩
  ·rw [if_neg e,if_neg (fun z=>e (h1.trans z))];exact ⟨h1,h2,h3⟩
theorem KT.put {H:Hp} {kvs:List (List Key × V)} {xs:List (List Key × Addr × Value)} (r:KT H kvs xs) (k:List Key) {b:Addr} {y:V} {u:Value} (hb:H b=some (.tup (k.map kV))) (ry:gd y u) :
  KT H (Eo kvs k y) (storedH xs k b u):=by
 have e:(kvs.any fun kv=>decide (kv.1=k))=(atKey xs k).isSome:=by
  rw [Dv,(r.val k).isSome_eq,Option.isSome_map]
 unfold Eo storedH;rw [e];by_cases q:(atKey xs k).isSome=true
 ·rw [if_pos q,if_pos q];exact r.repl k ry
 ·rw [if_neg q,if_neg q];exact Paired.snoc r ⟨rfl,hb,ry⟩
theorem KT.keeps {H H':Hp} {kvs:List (List Key × V)} {xs:List (List Key × Addr × Value)} (r:KT H kvs xs) (ht:∀ b ys,H b=some (.tup ys)→H' b=some (.tup ys)):KT H' kvs xs:=
 Paired.mapP r fun _ _ z=>⟨z.1,ht _ _ z.2.1,z.2.2⟩
section
variable {P:Program} {w:World} {H:Hp} {h:Heap} {a:Addr}
theorem OL {u:HO} (ok:HOk P w H h) (e:Rd H a u):qd P w H h a u:=e.ok ok
theorem NG {kvs:List (Key × V)} (ok:HOk P w H h) (e:Rd H a (.dK kvs)):kvs.length ≤ sizeLine∧(a == sysModules)=false∧∃ vs,KV kvs vs∧h.DictOf (Pd P w) a vs:=
 show qd P w H h a (.dK kvs) from OL ok e
theorem RG {kvs:List (Key × V)} (ok:HOk P w H h) (e:H a=some (.dK kvs)):kvs.length ≤ sizeLine∧(a == sysModules)=false∧∃ vs,KV kvs vs∧h.DictOf (Pd P w) a vs:=NG ok (.inl e)
theorem KA {ks:List Key} (ok:HOk P w H h) (e:H a=some (.tup (ks.map kV))):(tupleKind (Pd P w)).is h ks a:=by
 obtain ⟨_,its,r,o,h1,h2,n,h3⟩:=(show qd P w H h a (.tup (ks.map kV)) from ok a _ e);exact ⟨o,its.toArray,n,h1,h2,h3,by simpa using Bx r⟩
theorem KH {kvs:List (List Key × V)} (ok:HOk P w H h) (e:Rd H a (.dT kvs)):kvs.length ≤ sizeLine∧(a == sysModules)=false ∧
  ∃ xs,KT H kvs xs∧h.DictOfH (tupleKind (Pd P w)) a xs:=by
 obtain ⟨z,y,xs,r,o,es,ep,h1,h2,h3,h4,h5⟩:=(show qd P w H h a (.dT kvs) from OL ok e);refine ⟨z,y,xs,r,o,es,ep,h1,h2,h3,h4,fun x hx=>?_,h5⟩;have all:∀ {l:List (List Key × V)} {m:List (List Key × Addr × Value)},KT H l m→∀ x ∈ m,(tupleKind (Pd P w)).is h x.1 x.2.1:=by
  intro l m q
  induction q with
  | nil=>intro x hx;exact nomatch hx
  | @cons p q ps qs hq t ih=>
   intro x hx;rcases List.mem_cons.mp hx with e | hx
   ·subst e;exact KA ok (by rw [← hq.1];exact hq.2.1)
   ·exact ih x hx
 exact all r x hx
theorem FN {kvs:List (List Key × V)} (ok:HOk P w H h) (e:H a=some (.dT kvs)):kvs.length ≤ sizeLine∧(a == sysModules)=false ∧
  ∃ xs,KT H kvs xs∧h.DictOfH (tupleKind (Pd P w)) a xs:=KH ok (.inl e)
end
noncomputable def Rr (H:Hp) (a:Addr) (y:V) (r:Option V):Prop:=
 (∃ kvs k,Rd H a (.dK kvs)∧y=kV k∧r=bo kvs k)∨∃ kvs k b,Rd H a (.dT kvs)∧y=.ref b∧H b=some (.tup (k.map kV))∧r=bo kvs k
noncomputable def KB (H:Hp) (a:Addr) (y v:V) (H':Hp):Prop:=
 (∃ kvs k,H a=some (.dK kvs)∧y=kV k∧kvs.length < sizeLine∧H'=upd H a (.dK (Eo kvs k v))) ∨
 ∃ kvs k b,H a=some (.dT kvs)∧y=.ref b∧H b=some (.tup (k.map kV))∧kvs.length < sizeLine∧H'=upd H a (.dT (Eo kvs k v))
theorem Rr.k {H:Hp} {a:Addr} {kvs:List (Key × V)} {k:Key} (e:H a=some (.dK kvs)):Rr H a (kV k) (bo kvs k):=.inl ⟨kvs,k,.inl e,rfl,rfl⟩
theorem Rr.t {H:Hp} {a b:Addr} {kvs:List (List Key × V)} {k:List Key} (e:H a=some (.dT kvs)) (eb:H b=some (.tup (k.map kV))):Rr H a (.ref b) (bo kvs k):=.inr ⟨kvs,k,b,.inl e,rfl,eb,rfl⟩
theorem KB.k {H:Hp} {a:Addr} {kvs:List (Key × V)} {k:Key} {v:V} (e:H a=some (.dK kvs)) (hl:kvs.length < sizeLine):KB H a (kV k) v (upd H a (.dK (Eo kvs k v))):=.inl ⟨kvs,k,e,rfl,hl,rfl⟩
theorem KB.t {H:Hp} {a b:Addr} {kvs:List (List Key × V)} {k:List Key} {v:V} (e:H a=some (.dT kvs)) (eb:H b=some (.tup (k.map kV))) (hl:kvs.length < sizeLine) :
  KB H a (.ref b) v (upd H a (.dT (Eo kvs k v))):=.inr ⟨kvs,k,b,e,rfl,eb,hl,rfl⟩
section
variable {X:Cx} {pins:List (Addr × Obj)} {σ:St} {H:Hp} {s:Shared} {a:Addr} {y v:V} {u r:Value} {o:Option V} {A:Around} {E:Value→Shared→Prop}
theorem Inv.big (I:Inv X pins σ H s):sysModules < s.heap.objs.size:=by
 have h:mainGlobals < s.heap.objs.size:=(I.mod.glob.keeps I.bk).lt;exact Nat.lt_trans (by decide) h
theorem zD {Q:Value→Shared→Prop} (hu:A.units + 1 < cLine) (I:Inv X pins σ H s) (g:Rr H a y (some v)) (ry:gd y u) (h:∀ w' s',Inv X pins σ H s'→gd v w'→Q w' s') :
  wpAny (model X.prog X.w) A (getItem (.ref a) u) Q E s:=by
 rcases g with ⟨kvs,k,e,ey,l⟩ | ⟨kvs,k,b,e,ey,eb,l⟩
 ·subst ey;obtain ⟨z,hd,vs,rel,dd⟩:=NG I.hok e;obtain ⟨w',hw,rw'⟩:=Gu.some_of (v:=v) (o:=valueAt vs k) (by rw [l];exact rel.val k);exact wpAny_getItem_of (MF ry) dd.mapOf hw (h w' _ (I.tok _) rw')
 ·subst ey;cases (show u=Value.ref b from ry);obtain ⟨z,hd,xs,rel,dd⟩:=KH I.hok e;obtain ⟨w',hw,rw'⟩:=Gu.some_of (v:=v) (o:=(atKey xs k).map (·.2)) (by rw [l];exact rel.val k);obtain ⟨p,hp,hp2⟩:=Option.map_eq_some_iff.mp hw;refine wpAny_getItem_heap (tupleKind_room_in1 hu) (KA I.hok eb) dd hp ?_;rw [hp2];exact h w' _ (I.tok _) rw'
theorem gK {Q:Value→Shared→Prop} (hu:A.units + 1 < cLine) (I:Inv X pins σ H s) (g:Rr H a y o) (ry:gd y u) (h:∀ s',Inv X pins σ H s'→Q (.bool (!o.isSome)) s') :
  wpAny (model X.prog X.w) A (compareOp .NotIn u (.ref a)) Q E s:=by
 rcases g with ⟨kvs,k,e,ey,l⟩ | ⟨kvs,k,b,e,ey,eb,l⟩
 ·subst ey;obtain ⟨z,hd,vs,rel,dd⟩:=NG I.hok e;refine wpAny_notIn_of (MF ry) hd dd.mapOf ?_;rw [← (rel.val k).isSome_eq,← l];exact h _ (I.tok _)
 ·subst ey;cases (show u=Value.ref b from ry);obtain ⟨z,hd,xs,rel,dd⟩:=KH I.hok e;refine wpAny_notIn_heap (tupleKind_room_in1 hu) (KA I.hok eb) hd dd ?_;have q:=(rel.val k).isSome_eq;rw [Option.isSome_map] at q;rw [← q,← l];exact h _ (I.tok _)
theorem By {h':Heap} {t':Nat} {ob:HO} (I:Inv X pins σ H s) (mu:Mut (H a)) (hs:Heap.SameBut a s.heap h') (he:∃ q,h'.get? a=some q) (new:qd X.prog X.w (upd H a ob) h' a ob) :
  Inv X pins σ (upd H a ob) { s with heap:=h',toks:=t' }:=
 I.write (x:=a) (e:=a) mu (.inl rfl) (fun b q hb z=>(hs.2 b hb).trans z) he new
theorem oI {P:Program} {w:World} {H':Hp} {h':Heap} {kvs:List (Key × V)} {vs:List (Key × Value)} (z:kvs.length ≤ sizeLine) (hd:(a == sysModules)=false) (rel:KV kvs vs) (dd:h'.DictOf (Pd P w) a vs) :
  qd P w H' h' a (.dK kvs):=⟨z,hd,vs,rel,dd⟩
theorem YC {H':Hp} {Q:Unit→Shared→Prop} (hu:A.units + 1 < cLine) (I:Inv X pins σ H s) (g:KB H a y v H') (ry:gd y u) (rv:gd v r) (h:∀ s',Inv X pins σ H' s'→Q () s') :
  wpAny (model X.prog X.w) A (setItem (.ref a) u r) Q E s:=by
 rcases g with ⟨kvs,k,e,ey,l,eH⟩ | ⟨kvs,k,b,e,ey,eb,l,eH⟩
 ·subst ey eH;obtain ⟨z,hd,vs,rel,dd⟩:=RG I.hok e;have hz:vs.length ≤ sizeLine:=by rw [← rel.length];exact z
  have hl:(Eo kvs k v).length ≤ sizeLine:=by have:=Pl kvs k v;omega
  refine wpAny_setItem_pairs (hsz:=hz) (MF ry) dd fun h' dd' hs=>h _ ?_
  have he:∃ q,h'.get? a=some q:=let ⟨q,_,_,hq,_⟩:=dd';⟨q,hq⟩;exact By I (by rw [e];exact True.intro) hs he (oI hl hd (rel.put k rv) dd')
 ·subst ey eH;cases (show u=Value.ref b from ry);obtain ⟨z,hd,xs,rel,dd⟩:=FN I.hok e;have hz:xs.length ≤ sizeLine:=by rw [← Paired.length rel];exact z
  have hl:(Eo kvs k v).length ≤ sizeLine:=by have:=Pl kvs k v;omega
  refine wpAny_setItem_heap (hsz:=hz) (tupleKind_room_in1 hu) (KA I.hok eb) dd fun h' dd' hs=>h _ ?_
  obtain ⟨q,es,ep,hq,h2,h3,h4,_,h5⟩:=dd';refine By I (by rw [e];exact True.intro) hs ⟨q,hq⟩ ⟨hl,hd,_,(rel.put k eb rv).keeps fun c ys ec=>?_,q,es,ep,hq,h2,h3,h4,h5⟩;rw [pb (Ge ec e (fun z=>nomatch z))];exact ec
end
section
variable {X:Cx} {pins:List (Addr × Obj)} {σ:St} {H:Hp} {s:Shared} {a:Addr} {kvs:List (Key × V)} {k:Key} {u:Value} {A:Around} {E:Value→Shared→Prop}
end
noncomputable def RO (i:Expr):Prop:=∀ ov iv,subscripted i false ov iv=operate [ov,iv] (getItem ov iv)
theorem VJ {prog:Program} {w:World} {A:Around} {E:Value→Shared→Prop} {s:Shared} {env:Env} {value slice:Expr} {pos:Pos} {T id:String} {Q:Value→Shared→Prop}
  (hl:typeLookup (.type T) "__getitem__"=pure (some (.builtin id))) (hs:RO slice)
  (h:wpAny (model prog w) A (eval value env) (fun o s₁=>wpAny (model prog w) A (eval slice env) (fun i s₂=>s₂.TypeIs o T∧wpAny (model prog w) A (getItem o i) Q E s₂) E s₁) E s) :
  wpAny (model prog w) A (eval (.Subscript value slice pos) env) Q E s:=by
 refine Subscript_ (wpAny_mono h (fun o s₁ h₁=>wpAny_mono h₁ (fun i s₂ h₂=>?_) fun _ _ x=>x) fun _ _ x=>x);obtain ⟨hT,h₂⟩:=h₂;unfold subscriptTail;refine wpAny_bind ?_;rw [getitemInPython_of_ne hT.not_modules];refine wpAny_bind (wpAny_specialOf hT hl ?_);have fin:wpAny (model prog w) A (subscripted slice false o i) (fun r s₃=>wpAny (model prog w) A (letTemporaryGo value o r >>= fun _=>pure r) Q E s₃) E s₂:=by
  rw [hs o i];exact wpAny_operating (wpAny_mono h₂ (fun r s₃ h₃=>wpAny_bind (wpAny_letTemporaryGo (wpAny_pure h₃))) fun _ _ x=>x)
 first
  | exact wpAny_pure (wpAny_bind fin)
  | exact wpAny_bind (wpAny_pure (wpAny_bind fin))
  | exact wpAny_bind fin
theorem ay {X:Cx} {pins:List (Addr × Obj)} {σ:St} {H:Hp} {s:Shared} {a:Addr} {y:V} {o:Option V} (I:Inv X pins σ H s) (g:Rr H a y o):s.TypeIs (.ref a) "dict" := by
 rcases g with ⟨kvs,k,e,_,_⟩ | ⟨kvs,k,b,e,_,_,_⟩
 ·obtain ⟨_,_,vs,_,dd⟩:=NG I.hok e;exact dd.typeIs
 ·obtain ⟨_,_,xs,_,dd⟩:=KH I.hok e;exact dd.typeIs
noncomputable def qN (td ty:TE):TE:=fun σ H Q=>td σ H fun x H1=>ty σ H1 fun y H2=>yh x fun a=>∃ v,Rr H2 a y (some v)∧Q v H2
noncomputable def GD (ty td:TE):TE:=fun σ H Q=>ty σ H fun y H1=>td σ H1 fun x H2=>yh x fun a=>∃ o,Rr H2 a y o∧Q (.bl (!o.isSome)) H2
noncomputable def aM (td ty tv:TE):TS:=fun D σ H=>tv σ H fun v H1=>td σ H1 fun x H2=>ty σ H2 fun y H3=>yh x fun a=>∃ H4,KB H3 a y v H4∧D.nx σ H4
section
variable {X:Cx} {o i e value:Expr} {pos pos' tpos:Pos} {td ty tv:TE}
theorem wn (hu:X.A.units + 1 < cLine) (ho:PE X o td) (hi:PE X i ty) (hs:RO i):PE X (.Subscript o i pos) (qN td ty):=by
 intro pins s σ H Q I h;refine VJ PySem.F.slot_dict_getitem.lookup hs (thn (ho pins s σ H _ I h) fun u s1 ⟨x,H1,I1,rx,q1⟩=>thn (hi pins s1 σ H1 _ I1 q1) fun iv s2 hZ1=>?_);obtain ⟨y,H2,I2,ry,zq⟩:=hZ1;obtain ⟨a,ex,v,g,q2⟩:=yh.out zq;subst ex;obtain rfl:u=Value.ref a:=rx;exact ⟨ay I2 g,zD hu I2 g ry fun w' s3 I3 rw'=>⟨v,H2,I3,rw',q2⟩⟩
theorem jG (hu:X.A.units + 1 < cLine) (hi:PE X i ty) (ho:PE X o td):PC X .NotIn i o (GD ty td):=by
 intro pins s σ H Q I h;refine thn (hi pins s σ H _ I h) fun iv s1 ⟨y,H1,I1,ry,q1⟩=>thn (ho pins s1 σ H1 _ I1 q1) fun u s2 hZ1=>?_
 obtain ⟨x,H2,I2,rx,zq⟩:=hZ1;obtain ⟨a,ex,ov,g,q2⟩:=yh.out zq;subst ex;obtain rfl:u=Value.ref a:=rx;exact gK hu I2 g ry fun s3 I3=>⟨.bl (!ov.isSome),H2,I3,rfl,q2⟩
theorem zn (hu:X.A.units + 1 < cLine) (ho:PE X o td) (hi:PE X i ty) (hv:PE X value tv) (hs:swapsWith value (some (.Subscript o i pos')) pos.line X.env=pure false) :
  PS X (.Assign [.Subscript o i pos'] value pos) (aM td ty tv):=by
 intro pins s σ H D I h;refine wpAny_Assign_Subscript (thn (hv pins s σ H _ I h) fun r s1 ⟨v,H1,I1,rv,q1⟩=>thn (ho pins s1 σ H1 _ I1 q1) fun u s2 ⟨x,H2,I2,rx,q2⟩=>thn (hi pins s2 σ H2 _ I2 q2) fun iv s3 hZ1=>?_) hs;obtain ⟨y,H3,I3,ry,zq⟩:=hZ1;obtain ⟨a,ex,H4,g,q3⟩:=yh.out zq;subst ex;obtain rfl:u=Value.ref a:=rx;exact YC hu I3 g ry rv fun s4 I4=>⟨σ,H4,I4,q3⟩
end
theorem Kz {P:Program} {w:World} {H:Hp} (h:Heap) (hb:sysModules < h.objs.size):qd P w H (h.push { cls:=.type "dict",data:=.dict #[] }) h.objs.size (.dK []):=
 ⟨Nat.zero_le _,beq_eq_false_iff_ne.mpr (Ne.symm (Nat.ne_of_lt hb)),[],.nil,Heap.DictOf.new h⟩
noncomputable def sI:TE:=fun _ H Q=>∀ p,H p=none→Q (.ref p) (upd H p (.dK []))
section
variable {X:Cx} {pos:Pos}
theorem Ym:PE X (.Dict [] [] pos) sI:=fun pins s σ H Q I h=>
 wpAny_Dict_empty ⟨.ref s.heap.objs.size,_,I.laid (a:=s.heap.objs.size) (o:=.dK []) (t':=s.toks) (fun _ _ q=>Heap.get?_push_of_some _ q) (Nat.le_refl _) (Kz s.heap I.big),rfl,h _ (I.hok.fresh (Nat.le_refl _))⟩
end
noncomputable def bx:List (TE × TE)→St→Hp→(List (V × V)→Hp→Prop)→Prop
 | [],_,H,Q=>Q [] H
 | (tk,tv) :: r,σ,H,Q=>tk σ H fun x H1=>tv σ H1 fun y H2=>bx r σ H2 fun ps H3=>Q ((x,y) :: ps) H3
noncomputable abbrev VV:List (V × V)→List (Value × Value)→Prop:=Paired fun p q=>gd p.1 q.1∧gd p.2 q.2
noncomputable def PPs (X:Cx) (pos:Pos) (keys:List (Option Expr)) (values:List Expr) (trs:List (TE × TE)):Prop:=
 ∀ (pins:List (Addr × Obj)) (s:Shared) (σ:St) (H:Hp) (Q:List (V × V)→Hp→Prop),Inv X pins σ H s→bx trs σ H Q →
  wpAny (model X.prog X.w) X.A (evalPairs (pairTrees keys values X.env pos)) (fun vs s'=>∃ ps H',Inv X pins σ H' s'∧VV ps vs∧Q ps H') X.xe s
theorem vK {X:Cx} {pos:Pos}:PPs X pos [] [] []:=fun pins s σ H Q I h=>pairTrees_nil_walk ⟨[],H,I,.nil,h⟩
theorem yu {X:Cx} {pos:Pos} {k v:Expr} {ks:List (Option Expr)} {vs:List Expr} {tk tv:TE} {trs:List (TE × TE)} (hk:PE X k tk) (hv:PE X v tv) (hr:PPs X pos ks vs trs) :
  PPs X pos (some k :: ks) (v :: vs) ((tk,tv) :: trs):=fun pins s σ H Q I h=>
 pairTrees_cons_walk (thn (hk pins s σ H _ I h) fun u s1 ⟨x,H1,I1,rx,q1⟩=>thn (hv pins s1 σ H1 _ I1 q1) fun w2 s2 ⟨y,H2,I2,ry,q2⟩=>
  thn (hr pins s2 σ H2 _ I2 q2) fun ws s3 ⟨ps,H3,I3,rel,q3⟩=>⟨(x,y) :: ps,H3,I3,.cons ⟨rx,ry⟩ rel,q3⟩)
noncomputable def uj (kvs more:List (Key × V)):List (Key × V):=more.foldl (fun acc kv=>Eo acc kv.1 kv.2) kvs
theorem KV.merge:∀ {more:List (Key × V)} {rs:List (Key × Value)} {kvs:List (Key × V)} {vs:List (Key × Value)},KV more rs→KV kvs vs→KV (uj kvs more) (merged vs rs):=by
 intro more rs kvs vs r;unfold KV at r
 induction r generalizing kvs vs with
 | nil=>intro q;exact q
 | @cons p q ps qs h t ih=>
  intro r0;have e:KV (Eo kvs p.1 p.2) (stored vs q.1 q.2):=by
   have:=r0.put p.1 h.2;rw [← h.1];exact this
  exact ih e
theorem jm:∀ (more kvs:List (Key × V)),(uj kvs more).length ≤ kvs.length + more.length
 | [],kvs=>by show kvs.length ≤ kvs.length + 0;omega
 | p :: r,kvs=>by
  have h1:=jm r (Eo kvs p.1 p.2);have h2:=Pl kvs p.1 p.2;show (uj (Eo kvs p.1 p.2) r).length ≤ _;rw [List.length_cons];omega
theorem wu {P:Program} {w:World}:∀ {kvs:List (Key × V)} {ws:List (Value × Value)},VV (kvs.map fun kv=>(kV kv.1,kv.2)) ws→∃ rs,Carries (Pd P w) ws rs∧KV kvs rs
 | [],_,r=>by rw [List.map_nil] at r;cases r;exact ⟨[],True.intro,.nil⟩
 | p :: kvs,_,r=>by
  rw [List.map_cons] at r;cases r with
  | @cons a b as bs h t=>
   obtain ⟨rs,c,q⟩:=wu (P:=P) (w:=w) t;obtain ⟨b1,b2⟩:=b;exact ⟨(p.1,b2) :: rs,⟨MF h.1,rfl,c⟩,.cons ⟨rfl,h.2⟩ q⟩
noncomputable def vM (trs:List (TE × TE)):TE:=fun σ H Q=>∀ p,H p=none→bx trs σ (upd H p (.dK [])) fun ps H2=>H2 p=some (.dK [])∧∃ kvs:List (Key × V),ps=kvs.map (fun kv=>(kV kv.1,kv.2))∧kvs.length ≤ 15∧Q (.ref p) (upd H2 p (.dK (uj [] kvs)))
theorem fK {X:Cx} {pos:Pos} {keys:List (Option Expr)} {values:List Expr} {trs:List (TE × TE)} (h:PPs X pos keys values trs) (hall:keys.all (·.isSome)=true) (hl:keys.length=values.length) (h0:keys ≠ [])
  (h15:keys.length ≤ 15):PE X (.Dict keys values pos) (vM trs):=by
 intro pins s σ H Q I q;have hn:=I.hok.fresh (Nat.le_refl s.heap.objs.size);have I1:=I.laid (a:=s.heap.objs.size) (o:=.dK []) (h':=s.heap.push { cls:=.type "dict",data:=.dict #[] }) (t':=s.toks) (fun _ _ q=>Heap.get?_push_of_some _ q) (Nat.le_refl _) (Kz s.heap I.big);refine wpAny_Dict_walk (knd:=Pd X.prog X.w) hall hl h0 h15 (thn (h pins _ σ _ _ I1 (q _ hn)) fun ws s2 hZ1=>?_);obtain ⟨ps,H2,I2,rel,e,kvs,ep,lk,q2⟩:=hZ1;subst ep;obtain ⟨rs,c,rk⟩:=wu (P:=X.prog) (w:=X.w) rel;obtain ⟨z,hd,vs0,r0,dd⟩:=RG I2.hok e;cases r0;refine ⟨rs,c,dd,fun h' dd' hs=>⟨.ref s.heap.objs.size,_,?_,rfl,q2⟩⟩;have hz:(uj [] kvs).length ≤ sizeLine:=by
  have h1:=jm kvs [];rw [List.length_nil] at h1;rw [sizeLine_eq];omega
 have he:∃ q,h'.get? s.heap.objs.size=some q:=let ⟨q,_,_,hq,_⟩:=dd';⟨q,hq⟩;exact By I2 (by rw [e];exact True.intro) hs he (oI hz hd (rk.merge .nil) dd')
structure M1 (X:Cx) (o:Expr) (m:Str) (apos:Pos) (e:Expr) (cpos:Pos):Prop where
 base:attributeBase o m X.env (eval o X.env)=eval o X.env
 few:((backTo cpos (starEach [e] X.env)).all (fun x=>!x.1) && (backToKw cpos (keywordEach [] X.env)).all (fun x=>x.1.isSome)
  && decide (([e]:List Expr).length + ([]:List Keyword).length + (if ([]:List Keyword).isEmpty then 0 else 1) < 30))=true
 line:(apos.endLine == cpos.line)=true
 trees:backTo cpos (starEach [e] X.env)=[(false,eval e X.env)]
structure M2 (X:Cx) (o:Expr) (m:Str) (apos:Pos) (e f:Expr) (cpos:Pos):Prop where
 base:attributeBase o m X.env (eval o X.env)=eval o X.env
 few:((backTo cpos (starEach [e,f] X.env)).all (fun x=>!x.1) && (backToKw cpos (keywordEach [] X.env)).all (fun x=>x.1.isSome)
  && decide (([e,f]:List Expr).length + ([]:List Keyword).length + (if ([]:List Keyword).isEmpty then 0 else 1) < 30))=true
 line:(apos.endLine == cpos.line)=true
 trees:backTo cpos (starEach [e,f] X.env)=[(false,eval e X.env),(false,eval f X.env)]
section
variable {X:Cx} {pins:List (Addr × Obj)} {σ:St} {H:Hp} {s:Shared} {a:Addr} {y d:V} {u r:Value} {o:Option V} {A:Around} {E:Value→Shared→Prop}
end
section
variable {X:Cx} {o e f:Expr} {apos cpos:Pos} {td ty tx:TE}
end
section
variable {X:Cx} {pins:List (Addr × Obj)} {σ:St} {H:Hp} {s:Shared} {a:Addr} {kvs:List (Key × V)} {A:Around} {E:Value→Shared→Prop}
end
section
variable {X:Cx} {pins:List (Addr × Obj)} {σ:St} {H:Hp} {s:Shared} {a:Addr} {y:V} {u:Value} {A:Around} {E:Value→Shared→Prop}
end
end L2
namespace Att
open PySem PySem.W PySem.Calls PyProof.Rows
theorem rq {P:Params} {h:Heap}:∀ (ns:List Int) (vs:List Value),WellAll P h vs (ns.map WData.int)→IntsAre vs ns:=by
 intro ns
 induction ns with
 | nil=>
  intro vs w;rw [List.map_nil] at w;cases w;exact .nil
 | cons n ns ih=>
  intro vs w;rw [List.map_cons] at w;cases w with
  | cons a b=>
   cases a;exact .cons _ _ (ih _ b)
theorem KF {l:OpenLaw} {n:Nat} (hn:l.most=some n) {P:Params} {h:Heap} {args:List WData} {vals:List Value}
  (hpre:l.row.toRowW.claim.pre args=true) (hwl:WellAll P h vals args) :
  ∃ a vs ns,vals=[Value.ref a]∧args=[WData.list (ns.map WData.int)]∧h.get? a=some { cls:=.type "list",data:=.seq vs.toArray }∧IntsAre vs ns∧ns.length ≤ n:=by
 have hsh:WShape.hasAll [] args [.list .int]=true:=(pre_splitW hpre).1;have hc:l.pre.holds [] { args:=args }=true:=(pre_splitW hpre).2;obtain ⟨d,r,rfl,h1,h2⟩:=hasAllW_cons hsh;obtain rfl:=hasAllW_nil h2;obtain ⟨xs,rfl,h3⟩:=hasW_list h1;obtain ⟨ns,rfl⟩:=items_int h3;have hlen:ns.length ≤ n:=by
  unfold OpenLaw.pre at hc;have h4:(WTm.not (.lt (.lit (.int (n:Int))) (.len (.arg 0)))).holds [] { args:=[.list (ns.map .int)] }=true:=by
   have h4:=(holds_andW hc).1;rw [hn] at h4;exact h4
  have h5:=condW_of h4 (w_not (w_lt w_lit (w_len_list (w_arg rfl))));rw [List.length_map] at h5;refine Nat.le_of_not_lt fun q=>?_
  have q':(n:Int) < ((ns.length:Nat):Int):=by omega
  first
   | (rw [decide_eq_true q'] at h5;exact absurd h5 (by decide))
   | (simp at h5;omega)
 cases hwl with
 | cons w1 w2=>
  cases w2;cases w1 with
  | list ho hall=>exact ⟨_,_,ns,rfl,rfl,ho,rq ns _ hall,hlen⟩
theorem EF (l:OpenLaw) (args:List WData):l.row.toRowW.claim.post args (.bool true) args=true:=
 postW_of (r:=l.row.toRowW) (X:=(true == true))
  (show WShape.has [] (.bool true) .bool=true by first | rfl | decide | simp [WShape.has,WShape.arms,WShape.armsAll])
  (show (WTm.eq .res (.lit (.bool true))).value [] { args:=args,res:=some (.bool true),after:=args }=some (.bool (true == true)) from w_eq_bool (w_res rfl) w_lit) rfl
theorem attach_call {l:OpenLaw} {n:Nat} {q:Program} {loose:List Str} {XP:(Str→Option Value)→Heap→Prop} {YP:World→Heap→Prop} {d:DefRec}
  (hn:l.most=some n) (hdf:d.params.defaults=[])
  (call:∀ (w:World) (s₀ s₁:Shared) (mg mb:Str→Option Value) (fa:Addr) (o:Obj) (pm cd doc:Value) (a:Addr) (vs:List Value) (ns:List Int),
   Ground q loose [] XP w s₀ mg mb s₁.heap→YP w s₁.heap →
   s₁.heap.get? fa=some o→o.data=.func (docDef d.name d.params d.body d.scope pm cd doc)→s₁.heap.CodeRec cd d.name→mg d.name=some (.ref fa) →
   s₁.heap.get? a=some { cls:=.type "list",data:=.seq vs.toArray }→IntsAre vs ns→ns.length ≤ n→s₁.gens=#[] →
   codeAny (model l.prog w) callerA (.call (.ref fa) ⟨[.ref a],[]⟩) (fun r s'=>r=.ok (.ret (.bool true))∧OldK s₁.heap s'.heap∧s'.os=s₁.os∧AllBare s'.gens) s₁) :
  WalkO q loose XP YP l.row.toRowW d [] (fun f vs=>PySem.call f vs):=by
 intro w s₀ s₁ mg mb G Y fa o pm cd doc dV kV ho hd hcd hD hmg hg args vals as hpre hlay hrd hwl hlo;obtain rfl:dV=.none:=Dflts.none hD hdf;obtain rfl:kV=.none:=Dflts.noKw hD;obtain ⟨a,vs,ns,rfl,rfl,hobj,hints,hlen⟩:=KF hn hpre hwl;refine enter_call (codeAny_mono (call w s₀ s₁ mg mb fa o pm cd doc a vs ns G Y ho (fd_plain hd) hcd hmg hobj hints hlen hg) fun r s' hq=>?_);obtain ⟨rfl,h2,h3,h4⟩:=hq;exact ⟨.inl ⟨.bool true,.bool true,[],rfl,fun _=>rfl,.bool true,EF l _,fun _=>⟨List.Pairwise.nil,fun _ hm=>(nomatch hm)⟩⟩,h2,h3,h4⟩
section
variable {prog:Program} {w:World} {A:Around} {E:Value→Shared→Prop} {s:Shared} {K:Frag}
end
end Att
namespace L2
open PySem PySem.Spec PyProof.Rows
theorem aw:∀ {vs:List Value} {ns:List Int},IntsAre vs ns→Uc (ns.map V.int) vs
 | _,_,.nil=>.nil
 | _,_,.cons n t h=>.cons ⟨t,rfl⟩ (aw h)
end L2
namespace L2
open PySem PySem.Spec PyProof.Rows
noncomputable abbrev KOf {K:PySem.W.Frag} {h:Heap} (_:K.In h):PySem.W.Frag:=K
end L2
namespace L2
open PySem PySem.Spec PyProof.Rows
noncomputable def Qc (s:Stmt) (j:Nat):Stmt:=match s with
 | .ClassDef _ _ _ body _ _ _ _ _ _ _=>body.getD j (.Pass ⟨0,0,0,0⟩)
 | _=>.Pass ⟨0,0,0,0⟩
noncomputable def Ku (s:Stmt):Arguments:=match s with
 | .FunctionDef _ a _ _ _ _ _ _ _ _=>a
 | _=>{ posonlyargs:=[],args:=[],vararg:=none,kwonlyargs:=[],kw_defaults:=[],kwarg:=none,defaults:=[] }
noncomputable def fm (s:Stmt):List Stmt:=match s with
 | .FunctionDef _ _ b _ _ _ _ _ _ _=>b
 | _=>[]
noncomputable def ib (s:Stmt):Scope:=match s with
 | .FunctionDef _ _ _ _ _ _ sc _ _ _=>sc
 | _=>{ kind:=.function,names:=[],isGenerator:=false,isCoroutine:=false }
noncomputable abbrev CX0:CXT:=fun _ _ _ _ _ _=>False
noncomputable abbrev E0:XK:=fun _ _ _=>False
theorem Kc {X:Cx}:Dl CX0 X E0:=fun _ _ _ _ _ _ _ h=>h.elim
structure Fun (K:PySem.W.Frag) (x qual:Str) (st:Stmt) (f:Addr) (fd:FuncData):Prop where
 ex:∃ (oc:Value) (od:Option Addr) (kV doc pm:Value) (an:Option Addr) (cdv ct:Value) (osl:Array (Option Value)),
  fd=PySem.W.fnOf x qual (Ku st) (fm st) (ib st) .none kV doc pm an cdv ct∧K.lookup f=some ⟨oc,od,.func fd,osl⟩∧PySem.W.codeIn K cdv qual=true
 kp:PySem.W.keepIn K (.ref f)=true
section
variable {P:Program} {w:World} {K:PySem.W.Frag} {mg:Str→Option Value} {base:Heap}
theorem Fun.ok {x qual:Str} {st:Stmt} {f:Addr} {fd:FuncData} {N ps:List Str} {k:Nat} {sp:Sp} (F:Fun K x qual st f fd) (S:wb N ps (ib st)) (len:∀ vs H Q E,sp vs H Q E→vs.length=ps.length)
  (hbody:∀ (cdv:Value) (A:Around) (outer:List Env) (s:Shared) (H:Hp) (vs:List V) (Q:VK) (E:XK),ui k (A.deeper (envOfC qual (ib st) s.heap.objs.size f cdv))→sp vs H Q E →
   ∃ t,PSs (jF CX0 P w K mg base N qual (ib st) f cdv A outer s H E).nox (fm st) t∧t { nx:=fun _ H'=>Q .non H',rt:=Q } (start N vs) H):Eb P w K mg base CX0 (k + 1) f fd ps sp:=by
 obtain ⟨oc,od,kV,doc,pm,an,cdv,ct,osl,rfl,lk,hcd⟩:=F.ex;refine WN lk hcd S len fun A outer s H vs Q E hr hsp=>?_
 obtain ⟨t,h,q⟩:=hbody cdv A outer s H vs Q E hr hsp;exact ⟨t,h.nox,q⟩
theorem Fun.binds {x qual:Str} {st:Stmt} {f:Addr} {fd:FuncData} {ps:List Str} (F:Fun K x qual st f fd)
  (h:∀ (kV doc pm:Value) (an:Option Addr) (cdv ct:Value) (us:List Value),us.length=ps.length→bindArgs (PySem.W.fnOf x qual (Ku st) (fm st) (ib st) .none kV doc pm an cdv ct) ⟨us,[]⟩=pure (ps.zip us)):Sb K fd ps []:=by
 obtain ⟨oc,od,kV,doc,pm,an,cdv,ct,osl,rfl,lk,hcd⟩:=F.ex;exact .all (h kV doc pm an cdv ct)
theorem xN {x qual:Str} {st:Stmt} {f:Addr} {oc:Value} {od an:Option Addr} {osl:Array (Option Value)} {kV doc pm cdv ct:Value} (l:K.lookup f=some ⟨oc,od,.func (PySem.W.fnOf x qual (Ku st) (fm st) (ib st) .none kV doc pm an cdv ct),osl⟩)
  (c:PySem.W.codeIn K cdv qual=true) (k:PySem.W.keepIn K (.ref f)=true):Fun K x qual st f (PySem.W.fnOf x qual (Ku st) (fm st) (ib st) .none kV doc pm an cdv ct):=⟨⟨oc,od,kV,doc,pm,an,cdv,ct,osl,rfl,l,c⟩,k⟩
end
theorem Rw {A:Around} {k:Nat} (hr:ui k A):A.units + 1 < cLine:=Nat.lt_of_le_of_lt (Nat.add_le_add_left (by decide:1 ≤ 64) _) hr.units
section
variable {X:Cx}
theorem pv (i:Nat) {x:Str} {pos:Pos} (hN:X.N[i]? = some x:=by rfl) (hv:Vis X.env.scope x:=by first | exact Or.inl rfl | exact Or.inr (Or.inl rfl) | exact Or.inr (Or.inr rfl)) (hd:(x == ("__debug__" : Str))=false:=by decide)
  (hcd:(x == ("__classdict__" : Str))=false:=by decide):PE X (.Name x pos) (VN i):=PM hN hv hd hcd
end
noncomputable def Yb (H H':Hp):Prop:=∀ b o,H b=some o→H' b=some o
theorem Yb.refl (H:Hp):Yb H H:=fun _ _ h=>h
theorem Yb.trans {H H1 H2:Hp} (a:Yb H H1) (b:Yb H1 H2):Yb H H2:=fun c o h=>b c o (a c o h)
theorem Yb.free {H H':Hp} (e:Yb H H') {l:Addr} (h:H' l=Option.none):H l=Option.none:=by
 cases q:H l with
 | none=>rfl
 | some o=>
  rw [e l o q] at h;cases h
theorem Yb.seq {K:PySem.W.Frag} {H H':Hp} {a:Addr} {xs:List V} (e:Yb H H') (h:SqL K H a xs):SqL K H' a xs:=by
 rcases h with (h | ⟨o,h⟩) | h
 ·exact .inl (.inl (e _ _ h))
 ·exact .inl (.inr ⟨o,e _ _ h⟩)
 ·exact .inr h
section
variable {κ:Type} [DecidableEq κ]
end
end L2
set_option maxHeartbeats 4000000
namespace L2
open PySem PySem.Spec PyProof.Rows
noncomputable def Rv (cells:List (Str × Addr)):List (Str × NameKind)→List (Str × Addr)→List (Str × Addr)
 | [],acc=>acc
 | (n,k) :: r,acc=>if k == .free then (match cells.lookup n with | some c=>Rv cells r ((n,c) :: acc) | none=>Rv cells r acc) else Rv cells r acc
theorem cz {env:Env}:∀ (names:List (Str × NameKind)) (acc:List (Str × Addr)),(∀ y ∈ names,y.2=.free→∃ c,env.cells.lookup y.1=some c) →
  (forIn names acc (fun (x:Str × NameKind) (cs:List (Str × Addr))=>(if (x.2 == .free)=true then do let a ← cellOf env x.1;pure (ForInStep.yield ((x.1,a) :: cs)) else pure (ForInStep.yield cs):Sem (ForInStep (List (Str × Addr))))))=pure (Rv env.cells names acc)
 | [],acc,_=>rfl
 | (n,k) :: r,acc,h=>by
  have hr:∀ y ∈ r,y.2=.free→∃ c,env.cells.lookup y.1=some c:=fun y hy=>h y (List.mem_cons_of_mem _ hy)
  rw [List.forIn_cons];by_cases hk:(k == NameKind.free)=true
  ·have e:k=.free:=by simpa using hk
   obtain ⟨c,hc⟩:=h (n,k) List.mem_cons_self e;have hc':env.cells.lookup n=some c:=hc;simp only [Rv,hk,if_true,hc',cellOf];exact cz r _ hr
  ·simp only [Rv,hk];exact cz r _ hr
theorem iD {scope:Scope} {env:Env} (h:∀ y ∈ scope.names,y.2=.free→∃ c,env.cells.lookup y.1=some c):closureFor scope env=pure (Rv env.cells scope.names []):=by
 unfold closureFor;exact congrArg (fun t=>t >>= pure) (cz scope.names [] h)
theorem ap {cells:List (Str × Addr)}:∀ (names:List (Str × NameKind)) (acc:List (Str × Addr)) {x:Str} {c:Addr},(Rv cells names acc).lookup x=some c→acc.lookup x=some c∨cells.lookup x=some c
 | [],acc,x,c,h=>.inl h
 | (n,k) :: r,acc,x,c,h=>by
  unfold Rv at h;split at h
  ·cases q:cells.lookup n with
   | none=>rw [q] at h;exact ap r acc h
   | some d=>
    rw [q] at h;rcases ap r _ h with z | z
    ·rw [List.lookup_cons] at z;by_cases hx:(x == n)=true
     ·rw [hx] at z;have e:x=n:=by simpa using hx
      subst e
      right;rw [q];exact z
     ·have hx':(x == n)=false:=by simpa using hx
      rw [hx'] at z;exact .inl z
    ·exact .inr z
  ·exact ap r acc h
theorem km {cells:List (Str × Addr)}:∀ (names:List (Str × NameKind)) (acc:List (Str × Addr)) {x:Str} {c:Addr},acc.lookup x=some c→cells.lookup x=some c→(Rv cells names acc).lookup x=some c
 | [],acc,x,c,h,_=>h
 | (n,k) :: r,acc,x,c,h,hc=>by
  unfold Rv;split
  ·cases q:cells.lookup n with
   | none=>exact km r acc h hc
   | some d=>
    refine km r _ ?_ hc;rw [List.lookup_cons];by_cases hx:(x == n)=true
    ·have e:x=n:=by simpa using hx
     subst e;rw [hx];rw [q] at hc;exact hc
    ·have hx':(x == n)=false:=by simpa using hx
     rw [hx'];exact h
  ·exact km r acc h hc
theorem Fm {cells:List (Str × Addr)}:∀ (names:List (Str × NameKind)) (acc:List (Str × Addr)) {x:Str} {c:Addr},(x,NameKind.free) ∈ names→cells.lookup x=some c→(Rv cells names acc).lookup x=some c
 | [],_,_,_,h,_=>nomatch h
 | (n,k) :: r,acc,x,c,h,hc=>by
  rcases List.mem_cons.mp h with e | h
  ·cases e;unfold Rv;rw [if_pos (by decide),hc];refine km r _ ?_ hc;rw [List.lookup_cons];simp
  ·unfold Rv;split
   ·cases q:cells.lookup n with
    | none=>exact Fm r acc h hc
    | some d=>exact Fm r _ h hc
   ·exact Fm r acc h hc
theorem Jn {α:Type}:∀ {l:List (Str × α)} {x:Str} {a:α},l.lookup x=some a→(x,a) ∈ l
 | [],_,_,h=>by simp at h
 | (n,b) :: r,x,a,h=>by
  rw [List.lookup_cons] at h;by_cases hx:(x == n)=true
  ·have e:x=n:=by simpa using hx
   subst e;rw [hx] at h;have e2:b=a:=Option.some.inj h;subst e2;exact List.mem_cons_self
  ·have hx':(x == n)=false:=by simpa using hx
   rw [hx'] at h;exact List.mem_cons_of_mem _ (Jn h)
theorem wy {env:Env} {scope:Scope} {x:Str} {k:NameKind} (h:(relabel scope env).names.lookup x=some k) (hk:k=.cell∨k=.free) (hc:∀ y ∈ scope.names,y.2 ≠ .cell):(x,NameKind.free) ∈ scope.names:=by
 have h1:=Jn h;obtain ⟨⟨n,j⟩,hm,e⟩:=List.mem_map.mp h1;have e':(if (j == NameKind.free && env.scope.kind == .function && env.kindOf n == some .cell)=true then (n,NameKind.cell) else (n,j))=(x,k):=e;split at e'
 ·rename_i hcond;have e1:n=x:=(Prod.mk.inj e').1;subst e1;have hj:j=.free:=by
   simp only [Bool.and_eq_true] at hcond;simpa using hcond.1.1
  subst hj;exact hm
 ·have e1:n=x:=(Prod.mk.inj e').1;have e2:j=k:=(Prod.mk.inj e').2;subst e1;subst e2;rcases hk with z | z
  ·exact absurd z (hc _ hm)
  ·subst z;exact hm
theorem Rl {env:Env} {scope:Scope} {x:Str} (h:scope.names.lookup x=some .free):(relabel scope env).names.lookup x=some .cell∨(relabel scope env).names.lookup x=some .free:=by
 have all:∀ (names:List (Str × NameKind)),names.lookup x=some .free →
   (names.map fun (n,k)=>if (k == NameKind.free && env.scope.kind == .function && env.kindOf n == some .cell) then (n,NameKind.cell) else (n,k)).lookup x=some .cell ∨
   (names.map fun (n,k)=>if (k == NameKind.free && env.scope.kind == .function && env.kindOf n == some .cell) then (n,NameKind.cell) else (n,k)).lookup x=some .free:=by
  intro names
  induction names with
  | nil=>intro h;simp at h
  | cons p r ih=>
   obtain ⟨n,k⟩:=p;intro h;rw [List.map_cons];by_cases hx:(x == n)=true
   ·simp only [List.lookup_cons,hx] at h;have hk:k=.free:=Option.some.inj h;subst hk;by_cases hc:(NameKind.free == NameKind.free && env.scope.kind == .function && env.kindOf n == some .cell)=true
    ·left;simp only [if_pos hc,List.lookup_cons,hx]
    ·right;simp only [if_neg hc,List.lookup_cons,hx]
   ·have hx':(x == n)=false:=by simpa using hx
    simp only [List.lookup_cons,hx'] at h;by_cases hc:(k == NameKind.free && env.scope.kind == .function && env.kindOf n == some .cell)=true
    ·simp only [if_pos hc,List.lookup_cons,hx'];exact ih h
    ·simp only [if_neg hc,List.lookup_cons,hx'];exact ih h
 exact all scope.names h
noncomputable abbrev Cx.block (X:Cx) (scope:Scope) (C:Addr) (N:List Str) (s:Shared) (H:Hp) (fp:List Addr):Cx where
 prog:=X.prog
 w:=X.w
 K:=X.K
 mg:=X.mg
 base:=X.base
 A:=X.A
 N:=N
 s₀:=s
 H₀:=H
 env:=compEnvC scope (Rv X.env.cells scope.names []) C X.env
 outer:=X.stack
 stack:=X.stack
 ex:=fp
 fn:=fun _=>false
 calm:=X.calm
 pn:=[]
 xe:=fun _ _=>False
structure zo (env:Env) (scope:Scope):Prop where
 kind:scope.kind=.function
 nocell:∀ y ∈ scope.names,y.2 ≠ .cell
 fr:∀ y ∈ scope.names,y.2=.free→env.kindOf y.1=some .cell∨env.kindOf y.1=some .free
 loc:∀ x ∈ scope.names,x.2=.local→scope.names.lookup x.1=some .local
noncomputable def blk (sel:List (Option Nat)) (σ:St):St:=sel.map fun o=>o.bind fun j=>(σ[j]?).join
noncomputable def zF (M:List Str) (scope:Scope) (N:List Str) (sel:List (Option Nat)):Prop:=
 sel.length=N.length∧∀ (i j:Nat) (x:Str),sel[i]? = some (some j)→N[i]? = some x→M[j]? = some x∧scope.names.lookup x=some .free
section
variable {X:Cx} {pins:List (Addr × Obj)} {σ:St} {H:Hp} {s:Shared} {scope:Scope} {fp:List Addr} {C:Addr} {N:List Str}
theorem zo.cells (S:zo X.env scope) (ok:X.Ok):∀ y ∈ scope.names,y.2=.free→∃ c,X.env.cells.lookup y.1=some c:=fun y hy e=>ok.has y.1 (S.fr y hy e)
theorem jt {x:Str} {c:Addr} (h:(Rv X.env.cells scope.names []).lookup x=some c):X.env.cells.lookup x=some c:=by
 rcases ap _ _ h with z | z
 ·simp at z
 ·exact z
theorem YA (I:Inv X pins σ H s) (S:zo X.env scope) (hf:∀ b ∈ fp,uw X pins H b) (hs:∀ b ∈ fp,b < s.heap.objs.size) (hC:s.heap.objs.size ≤ C):(X.block scope C N s H fp).Ok where
 mod:=I.ok.mod
 kind:=S.kind
 glob:=I.ok.glob
 blt:=I.ok.blt
 above:=hC
 inj:=fun x y c h1 h2=>I.ok.inj x y c (jt h1) (jt h2)
 has:=fun x h=>by
  have hk:∃ k,(relabel scope X.env).names.lookup x=some k∧(k=.cell∨k=.free):=by
   rcases h with h | h
   ·exact ⟨_,h,.inl rfl⟩
   ·exact ⟨_,h,.inr rfl⟩
  obtain ⟨k,h1,h2⟩:=hk;have hm:=wy h1 h2 S.nocell;obtain ⟨c,hc⟩:=S.cells I.ok _ hm rfl;exact ⟨c,Fm _ _ hm hc⟩
 cab:=fun _ _ h _=>nomatch h
 hd:=I.ok.hd
 frames:=I.ok.frames
 stk:=.inl rfl
 exf:=fun b hb=>⟨Nat.ne_of_lt (Nat.lt_of_lt_of_le (hs b hb) hC),fun x c e=>(hf b hb).2.2.2.2.1 x c (jt e)⟩
 bs:=I.bs
 bsz:=Nat.le_trans I.ok.bsz I.sz
 noex:=fun b o e hb=>by
  rcases (hf b hb).2.2.2.1 with z | z
  ·exact I.ok.noex b o e z
  ·exact absurd (Nat.lt_of_lt_of_le (Nat.lt_of_lt_of_le (Heap.lt_size e) I.ok.bsz) z) (Nat.lt_irrefl _)
 exfs:=fun b hb hz=>by
  rcases List.mem_cons.mp (I.stkSub b hz) with z | z
  ·exact (hf b hb).2.1 z
  ·exact (hf b hb).2.2.1 z
 funs:=I.stack
 frf:=I.stkFree
theorem uF {h':Heap} {t':Nat} {m:Str→Option Value} {sel:List (Option Nat)} (I:Inv X pins σ H s) (S:zo X.env scope) (hf:∀ b ∈ fp,uw X pins H b) (hs:∀ b ∈ fp,b < s.heap.objs.size) (hC:s.heap.objs.size ≤ C)
  (k:∀ b o,s.heap.get? b=some o→h'.get? b=some o) (hn:h'.Ns C m) (hsel:zF X.N scope N sel):Inv (X.block scope C N s H fp) [] (blk sel σ) H { s with heap:=h',toks:=t' } where
 ok:=YA I S hf hs hC
 os:=rfl
 bare:=I.bare
 base:=Un.kept k
 loc:=by
  refine ⟨m,hn,fun i x v e1 e2 e3=>?_⟩;obtain ⟨m0,hn0,hl⟩:=I.loc;obtain ⟨j,ej,eσ⟩:∃ j,sel[i]? = some (some j)∧σ[j]? = some (some v):=by
   unfold blk at e2;rw [List.getElem?_map] at e2;cases q:sel[i]? with
   | none=>rw [q] at e2;cases e2
   | some o=>
    rw [q] at e2;cases o with
    | none=>cases e2
    | some j=>
     refine ⟨j,rfl,?_⟩;have e2':(σ[j]?).join=some v:=Option.some.inj e2;cases r:σ[j]? with
     | none=>rw [r] at e2';cases e2'
     | some z=>rw [r] at e2';exact congrArg some e2'
  obtain ⟨eN,hfr⟩:=hsel.2 i j x ej e1;have hm:=Jn hfr;have hk:=S.fr _ hm rfl;have hv:Vis X.env.scope x:=hk.elim (fun z=>.inr (.inl z)) fun z=>.inr (.inr z)
  obtain ⟨u,r,l⟩:=hl j x v eN eσ hv;refine ⟨u,r,?_⟩;rcases l with ⟨hloc,_⟩ | ⟨_,c,hc,hcell⟩
  ·rcases hk with z | z <;> (have z':X.env.kindOf x=_:=z;rw [hloc] at z';cases z')
  ·refine .inr ⟨?_,c,Fm _ _ hm hc,?_⟩
   ·exact Rl hfr
   ·obtain ⟨o,ho,hd⟩:=hcell;exact ⟨o,k _ _ ho,hd⟩
 cell:=fun x c e=>by
  obtain ⟨v,o,ho,hd⟩:=I.cell x c (jt e);exact ⟨v,o,k _ _ ho,hd⟩
 free:=I.hok.fresh hC
 freeC:=fun x c e=>I.freeC x c (jt e)
 pin:=fun p hp=>nomatch hp
 hok:=I.hok.kept k
 len:=by unfold blk;rw [List.length_map];exact hsel.1
theorem Inv.adopt {a:Addr} {o:HO} (I:Inv X pins σ H s) (fo:uw X pins H a) (new:qd X.prog X.w (upd H a o) s.heap a o):Inv X pins σ (upd H a o) s:=by
 obtain ⟨hn,hL,hfs,hex,hcl,hpn⟩:=fo;refine I.step (g':=s.gens) (d':=s.drawn) (t':=s.toks) (h':=s.heap) (ch:=[a]) (fun b hb=>?_) (fun b o _ _ _ e _=>e) (fun b o _ _ _ e _=>⟨o.slots,e⟩) (fun b o hb e n=>?_) (fun b o _ e=>⟨o,e⟩)
  (fun b xs e=>?_) (fun b o u e=>?_) (fun b ps e=>⟨#[],?_⟩) (fun m hm=>hm) (fun b u e=>?_) I.bare
 ·have e:b=a:=by simpa using hb
  subst e;exact ⟨hex,hL,hcl,hpn⟩
 ·rw [pb (fun z=>hb (by simp [z]))];exact n
 ·rw [pb (xb e hn)];exact e
 ·rw [pb (xb e hn)];exact e
 ·rw [pb (xb e hn),e];simp
 ·by_cases hb:b=a
  ·subst hb;rw [db] at e;cases e;exact new
  ·rw [pb hb] at e;exact (I.hok b u e).stay (fun c v _ q=>q) (fun c q=>by rw [pb (xb q hn)];exact q) fun c xs q=>by rw [pb (xb q hn)];exact q
end
theorem Jk {prog:Program} {w:World} {A:Around} {R:Result→Shared→Prop} {s:Shared} {elt target iter:Expr} {ifs:List Expr} {scope:Scope} {pos:Pos} {it acc:Value} {env:Env} (I:Nat→Shared→Prop)
  (turn:∀ n s,I n s→wpAny (model prog w) A (pyNext it) (fun r s₁=>match r with
   | none=>R (.ok .next) s₁
   | some v=>wpAny (model prog w) A (letOwnedTupleGo target it v) (fun _ s₀=>wpAny (model prog w) A (assign target env v) (fun _ s₂=>
     wpAny (model prog w) A (forIn ifs true fun c r=>if r=true then do let ok ← isTrue c env (eval c env);pure (ForInStep.yield ok) else pure (ForInStep.yield r)) (fun ok s₃=>
      if ok=true then wpAny (model prog w) A (eval elt env) (fun x s₄=>
       wpAny (model prog w) A (call (.builtin "list.append") [acc,x]) (fun _ s₅=>∃ m,m < n∧I m s₅) (fun _ _=>False) s₄) (fun _ _=>False) s₃
      else ∃ m,m < n∧I m s₃) (fun _ _=>False) s₂) (fun _ _=>False) s₀) (fun _ _=>False) s₁) (fun _ _=>False) s)
  (n:Nat) (h:I n s) :
  codeAny (model prog w) A (.compLoop (.ListComp elt [⟨target,iter,ifs,0⟩] scope pos) 0 it acc env) R s:=by
 refine codeAny_loop rfl I (fun n s hI=>?_) n h;show wpAny _ A ((compTurn (.ListComp elt [⟨target,iter,ifs,0⟩] scope pos) 0 it acc env).onRaise (fun x=>do noteFrame x env;theTreesLotGoes x)) _ _ s;refine wpAny_noted (wpAny_noRaise ?_);rw [compTurn_list];refine wpAny_bind (wpAny_standAt (wpAny_bind (wpAny_mono (turn n s hI) (fun r s₁ h₁=>?_) fun _ _ h'=>h')));cases r with
 | none=>exact wpAny_pure h₁
 | some v=>
  refine wpAny_bind (wpAny_mono h₁ (fun _ s₀ h₀=>?_) fun _ _ h'=>h');refine wpAny_bind (wpAny_mono h₀ (fun _ s₂ h₂=>wpAny_bind (wpAny_mono h₂ (fun ok s₃ h₃=>?_) fun _ _ h'=>h')) fun _ _ h'=>h');cases ok with
  | false=>exact wpAny_pure ⟨rfl,h₃⟩
  | true=>
   exact wpAny_bind (wpAny_bind (wpAny_mono h₃ (fun x s₄ h₄=>wpAny_bind (wpAny_mono h₄ (fun _ s₅ h₅=>wpAny_pure (wpAny_pure ⟨rfl,h₅⟩)) fun _ _ h'=>h')) fun _ _ h'=>h'))
noncomputable def PTs (X:Cx) (ifs:List Expr) (t:TT):Prop:=
 ∀ (pins:List (Addr × Obj)) (s:Shared) (σ:St) (H:Hp) (Q:Bool→Hp→Prop),Inv X pins σ H s→t σ H Q →
  wpAny (model X.prog X.w) X.A (forIn ifs true fun c r=>if r=true then do let ok ← isTrue c X.env (eval c X.env);pure (ForInStep.yield ok) else pure (ForInStep.yield r)) (TP X pins σ Q) X.xe s
noncomputable def Zy:TT:=fun _ H Q=>Q true H
theorem ug {X:Cx}:PTs X [] Zy:=fun _ _ _ H _ I h=>wpAny_tests_nil ⟨H,I,h⟩
theorem Fy {X:Cx} {c:Expr} {t:TT} (h:PT X c t):PTs X [c] t:=fun pins s σ H Q I q=>wpAny_tests_one (h pins s σ H Q I q)
noncomputable def Sub (σ σ':St):Prop:=σ'.length=σ.length∧∀ (i:Nat) (v:V),σ[i]? = some (some v)→σ'[i]? = some (some v)
theorem Sub.refl (σ:St):Sub σ σ:=⟨rfl,fun _ _ h=>h⟩
theorem Sub.set {σ σ':St} {i:Nat} {x:Option V} (h:Sub σ σ') (e:σ[i]? = some none):Sub σ (σ'.set i x):=by
 refine ⟨by rw [List.length_set];exact h.1,fun j v q=>?_⟩;have hj:i ≠ j:=fun z=>by subst z;rw [e] at q;cases q
 rw [List.getElem?_set_ne hj];exact h.2 j v q
noncomputable def Iy (J:It) (g:TG) (tc:TT) (te:TE) (σb:St) (Q:VK) (W:Nat→Nat→List V→Hp→Prop):Prop:=∀ i m ys H,W i m ys H →
 (J.stop i H∧∀ p,H p=none→Q (.ref p) (upd H p (.lst ys))) ∨
 (J.go i H∧ys.length < sizeLine∧∀ x H',J.yld i H x H'→g x σb H' fun σ2 H2=>Sub σb σ2∧tc σ2 H2 fun c H3=>if c=true then te σ2 H3 fun y H4=>∃ m',m' < m∧W (i + 1) m' (ys ++ [y]) H4 else ∃ m',m' < m∧W (i + 1) m' ys H3)
noncomputable def pK (wi:TI) (g:TG) (tc:TT) (te:TE) (sel:List (Option Nat)):TE:=fun σ H Q=>wi σ H fun J H1=>∃ W:Nat→Nat→List V→Hp→Prop,(∃ m,W 0 m [] H1)∧Iy J g tc te (blk sel σ) Q W
section
variable {X:Cx} {elt tg iter:Expr} {ifs:List Expr} {scope:Scope} {pos:Pos} {wi:TI} {g:TG} {tc:TT} {te:TE} {N:List Str} {sel:List (Option Nat)}
structure Blk (X:Cx) (scope:Scope) (N:List Str) (tg elt:Expr) (ifs:List Expr) (g:TG) (tc:TT) (te:TE):Prop where
 tgt:∀ C s H fp,PG (X.block scope C N s H fp) tg g
 tests:∀ C s H fp,PTs (X.block scope C N s H fp) ifs tc
 elem:∀ C s H fp,PE (X.block scope C N s H fp) elt te
theorem Blk.of {X:Cx} {scope:Scope} {N:List Str} {tg elt:Expr} {ifs:List Expr} {g:TG} {tc:TT} {te:TE} (h1:∀ C s H fp,PG (X.block scope C N s H fp) tg g)
  (h2:∀ C s H fp,∃ t,PTs (X.block scope C N s H fp) ifs t∧t=tc) (h3:∀ C s H fp,∃ t,PE (X.block scope C N s H fp) elt t∧t=te):Blk X scope N tg elt ifs g tc te:=
 ⟨h1,fun C s H fp=>by obtain ⟨t,h,rfl⟩:=h2 C s H fp;exact h,fun C s H fp=>by obtain ⟨t,h,rfl⟩:=h3 C s H fp;exact h⟩
theorem ow {pins:List (Addr × Obj)} {s₂:Shared} {σ:St} {H₂:Hp} {Q:VK} {it:Addr} {fp:List Addr} {tn:Nat→Heap→Prop} {J:It} {W:Nat→Nat→List V→Hp→Prop} {E:Value→Shared→Prop} {RR:Value→Addr→Result→Shared→Prop}
  (hc:X.calm=true) (S:zo X.env scope) (hsel:zF X.N scope N sel) (B:Blk X scope N tg elt ifs g tc te) (I2:Inv X pins σ H₂ s₂) (T:fJ X.prog X.w X.K tg J fp it tn) (st2:tn 0 s₂.heap) (f2:∀ b ∈ fp,uw X pins H₂ b)
  (w0:∃ m,W 0 m [] H₂) (hW:Iy J g tc te (blk sel σ) Q W)
  (fin:∀ D C ys H' s',Inv X pins σ (upd H' D (.lst ys)) s'→(∃ m,s'.heap.Ns C m)→uw X pins (upd H' D (.lst ys)) C→Q (.ref D) (upd H' D (.lst ys))→RR (.ref D) C (.ok .next) s') :
  wpAny (model X.prog X.w) X.A (newList []) (fun acc s₃=>wpAny (model X.prog X.w) X.A (newFunctionEnv scope X.env.globals (Rv X.env.cells scope.names []) [] X.env.qual none .none (some X.env)) (fun cenv s₄=>
   codeAny (model X.prog X.w) X.A (.compStart (.ListComp elt [⟨tg,iter,ifs,0⟩] scope pos) 0 (.ref it) acc { cenv with scope:=relabel scope X.env }) (RR acc cenv.locals) s₄) E s₃) E s₂:=by
 refine wpAny_newObj_type (wpAny_newFunctionEnv S.nocell (by intro y hy;simp at hy) (fun h₁ hns₁ hsb₁=>?_) S.kind);dsimp only at hns₁ hsb₁ ⊢;generalize hH2:s₂.heap.push { cls:=.type "list",dict:=none,data:=.seq ([]:List Value).toArray }=H2 at hns₁ hsb₁ ⊢;have hC:H2.objs.size=s₂.heap.objs.size + 1:=by rw [← hH2,Heap.size_push]
 have hDC:s₂.heap.objs.size ≠ H2.objs.size:=by rw [hC];exact Nat.ne_of_lt (Nat.lt_succ_self _)
 have hCle:s₂.heap.objs.size ≤ H2.objs.size:=by rw [hC];exact Nat.le_succ _
 have below:∀ b,b < s₂.heap.objs.size→b ≠ H2.objs.size∧b ≠ s₂.heap.objs.size:=fun b hb=>⟨by rw [hC];exact Nat.ne_of_lt (Nat.lt_succ_of_lt hb),Nat.ne_of_lt hb⟩
 have old:∀ b o,s₂.heap.get? b=some o→h₁.get? b=some o:=fun b o e=>hsb₁.extBut b o (below b (Heap.lt_size e)).1 (Heap.get?_push_of_some _ (hH2 ▸ Heap.get?_push_of_some _ e))
 have hacc:h₁.get? s₂.heap.objs.size=some { cls:=.type "list",data:=.seq ([]:List Value).toArray }:=hsb₁.extBut _ _ hDC (Heap.get?_push_of_some _ (hH2 ▸ Heap.get?_push_size _ rfl));have fps:∀ b ∈ fp,b < s₂.heap.objs.size:=fun b hb=>by
  obtain ⟨o,e,_⟩:=T.obj _ _ st2 b hb;exact Heap.lt_size e
 generalize hCe:H2.objs.size=C at *;generalize hDe:s₂.heap.objs.size=D at *;have st1:tn 0 h₁:=T.keep _ _ _ st2 fun b _ o e=>old b o e
 have IB0:Inv (X.block scope C N s₂ H₂ fp) [] (blk sel σ) H₂ { s₂ with heap:=h₁,toks:=s₂.toks + ([]:List (Str × Value)).length }:=
  uF I2 S f2 (fun b hb=>by rw [hDe];exact fps b hb) (by rw [hDe];exact hCle) old hns₁ hsel
 have hDfs:D ∉ (X.block scope C N s₂ H₂ fp).fs:=fun z=>by
  have z':=I2.stkSub D z;rcases List.mem_cons.mp z' with e | e
  ·exact absurd I2.lt (by rw [← e,hDe];exact Nat.lt_irrefl _)
  ·exact I2.nofs (by rw [hDe];exact Nat.le_refl _) e
 have loop:∀ s₃:Shared,s₃ = { s₂ with heap:=h₁,toks:=s₂.toks + ([]:List (Str × Value)).length } →
   codeAny (model X.prog X.w) X.A (.compLoop (.ListComp elt [⟨tg,iter,ifs,0⟩] scope pos) 0 (.ref it) (.ref D) (compEnvC scope (Rv X.env.cells scope.names []) C X.env)) (RR (.ref D) C) s₃:=by
  rintro s₃ rfl;obtain ⟨m0,w0⟩:=w0;refine Jk (fun k s'=>∃ i ys us n H',Inv (X.block scope C N s₂ H₂ fp) [(D,{ cls:=.type "list",data:=.seq us n })] (blk sel σ) H' s'∧(∃ vs:List Value,us=vs.toArray∧Uc ys vs)∧ys.length ≤ sizeLine∧tn i s'.heap∧(∀ b ∈ fp,H' b=none)∧W i k ys H') ?_ m0
   ⟨0,[],_,0,H₂,IB0.pins_of fun p hp=>?_,⟨[],rfl,.nil⟩,Nat.zero_le _,st1,fun b hb=>(f2 b hb).1,w0⟩
  ·rintro k s' ⟨i,ys,us,n,H',IB,⟨vs,rfl,rv⟩,hyz,st,fr,w⟩;have fpB:∀ {pl:List (Addr × Obj)} {H'':Hp},(∀ p ∈ pl,p.1=D)→(∀ b ∈ fp,H'' b=none)→∀ b ∈ fp,uw (X.block scope C N s₂ H₂ fp) pl H'' b:=fun {pl H''} hp hn b hb=>
    ⟨hn b hb,(below b (fps b hb)).1,(YA (N:=N) (C:=C) I2 S f2 (fun b hb=>by rw [hDe];exact fps b hb) (by rw [hDe];exact hCle)).exfs b hb,.inl hb,fun x c e=>(f2 b hb).2.2.2.2.1 x c (jt e),fun p hpp z=>by
     have hpp':p ∈ pl:=by simpa using hpp
     exact (below b (fps b hb)).2 (by rw [← z];exact hp p hpp')⟩
   have hD1:∀ p ∈ [((D,{ cls:=.type "list",data:=.seq vs.toArray n }):Addr × Obj)],p.1=D:=fun p hp=>by
    have e:p=(D,{ cls:=.type "list",data:=.seq vs.toArray n }):=by simpa using hp
    rw [e]
   rcases hW i k ys H' w with ⟨stop,qn⟩ | ⟨go,hlen,step⟩
   ·refine thn (T.done (X.block scope C N s₂ H₂ fp) rfl rfl rfl hc i _ s' _ H' _ IB (fpB hD1 fr) st stop) fun r s4 hZ1=>?_
    obtain ⟨hr,I4⟩:=hZ1;subst hr;have pD:=I4.pin (D,{ cls:=.type "list",data:=.seq vs.toArray n }) (by simp);have hDn:H' D=none:=pD.2.1;have IX:Inv X pins σ H' s4:=I2.call' (ch:=fp) I4.os I4.base I4.hok I4.bare fun b hb=>⟨(f2 b hb).2.2.2.1,(f2 b hb).2.1,(f2 b hb).2.2.2.2.1,(f2 b hb).2.2.2.2.2⟩
    have foD:uw X pins H' D:=I2.fpOk (by rw [hDe];exact Nat.le_refl _) hDn;have IA:Inv X pins σ (upd H' D (.lst ys)) s4:=IX.adopt foD ⟨hyz,vs,n,rv,pD.1⟩;obtain ⟨mC,hnC,_⟩:=I4.loc;refine fin D C ys H' s4 IA ⟨mC,hnC⟩ (I2.fpOk (by rw [hDe];exact hCle) ?_) (qn D hDn);rw [pb (Ne.symm hDC)];exact I4.free
   ·refine thn (T.item (X.block scope C N s₂ H₂ fp) rfl rfl rfl hc i _ s' _ H' _ IB (fpB hD1 fr) st go) fun r s4 hZ1=>?_
    obtain ⟨u,hr,h4⟩:=hZ1;subst hr;refine thn h4 fun _ s5 hZ1=>?_
    obtain ⟨x,H5,I5,r5,y5,st5,fr5⟩:=hZ1;have I5':=I5.pinned (fpB hD1 fr5) (T.obj _ _ st5);refine thn (B.tgt C s₂ H₂ fp _ s5 _ H5 x u _ I5' r5 (step x H5 y5)) fun _ s6 hZ1=>?_
    obtain ⟨σ6,H6,I6,sb,q6⟩:=hZ1;refine thn (B.tests C s₂ H₂ fp _ s6 σ6 H6 _ I6 q6) fun c s7 hZ1=>?_
    obtain ⟨H7,I7,q7⟩:=hZ1;have again:∀ {σ8:St} {H8:Hp} {s8:Shared},Inv (X.block scope C N s₂ H₂ fp) ([(D,{ cls:=.type "list",data:=.seq vs.toArray n })] ++ jx fp s5.heap) σ8 H8 s8→tn (i + 1) s8.heap∧(∀ b ∈ fp,H8 b=none):=fun {σ8 H8 s8} I8=>by
     refine ⟨T.keep _ _ _ st5 fun b hb o e=>(I8.pin (b,o) (List.mem_append_right _ (List.mem_append_right _ (jk hb e)))).1,fun b hb=>?_⟩;obtain ⟨o,e,d⟩:=T.obj _ _ st5 b hb;exact (I8.pin (b,o) (List.mem_append_right _ (List.mem_append_right _ (jk hb e)))).2.1
    have back:∀ {H8:Hp} {s8:Shared} {pl:List (Addr × Obj)},Inv (X.block scope C N s₂ H₂ fp) pl σ6 H8 s8→Inv (X.block scope C N s₂ H₂ fp) pl (blk sel σ) H8 s8:=fun {H8 s8 pl} I8=>I8.weak sb.1.symm sb.2
    cases c with
    | false=>
     obtain ⟨m',hm,w'⟩:=q7;obtain ⟨t1,t2⟩:=again I7;exact ⟨m',hm,i + 1,ys,_,n,H7,back I7.unpinned,⟨vs,rfl,rv⟩,hyz,t1,t2,w'⟩
    | true=>
     refine thn (B.elem C s₂ H₂ fp _ s7 σ6 H7 _ I7 q7) fun v s8 hZ1=>?_
     obtain ⟨y,H8,I8,r8,m',hm,w'⟩:=hZ1;obtain ⟨t1,t2⟩:=again I8;have pD:=I8.pin (D,{ cls:=.type "list",data:=.seq vs.toArray n }) (by simp);refine append_at (hsz:=by have:=rv.length;rw [List.size_toArray];omega) pD.1 fun h9 hs9 hD9=>?_
     have IB':Inv (X.block scope C N s₂ H₂ fp) [] (blk sel σ) H8 s8:=(back I8).pins_of fun p hp=>nomatch hp
     have foD:uw (X.block scope C N s₂ H₂ fp) [] H8 D:=⟨pD.2.1,hDC,hDfs,.inr (by show s₂.heap.objs.size ≤ D;rw [hDe];exact Nat.le_refl _),(fun x c e z=>by
      obtain ⟨cv,o,ho,hd⟩:=I8.cell x c e;rw [z,pD.1] at ho;cases ho;cases hd),(fun p hp=>nomatch hp)⟩
     have I9:Inv (X.block scope C N s₂ H₂ fp) [] (blk sel σ) H8 { s8 with heap:=h9 }:=IB'.turned (t':=s8.toks) (it:=D) (fun b o hb e=>(hs9.2 b hb).trans e) foD.1 foD.2.1 foD.2.2.2.1 foD.2.2.2.2.1 foD.2.2.2.2.2;refine ⟨m',hm,i + 1,ys ++ [y],vs.toArray.push v,n + 1,H8,I9.pins_of fun p hp=>?_,⟨vs ++ [v],by simp,Paired.snoc rv r8⟩,by rw [List.length_append,List.length_singleton];omega,T.keep _ _ _ t1 fun b hb o e=>(hs9.2 b (below b (fps b hb)).2).trans e,t2,w'⟩;have e:p=(D,{ cls:=.type "list",data:=.seq (vs.toArray.push v) (n + 1) }):=by simpa using hp
     subst e;exact ⟨hD9,pD.2.1,hDC,hDfs,fun v z=>by cases z⟩
  ·have e:p=(D,{ cls:=.type "list",data:=.seq ([]:List Value).toArray }):=by simpa using hp
   subst e;exact ⟨hacc,I2.hok.fresh (by rw [hDe];exact Nat.le_refl _),hDC,hDfs,fun v z=>by cases z⟩
 exact codeAny_compStart_list (loop _ rfl) (T.self _ 0 _ _ _ st1 (loop _ rfl))
theorem Fi (hc:X.calm=true) (hi:PI X tg iter wi) (S:zo X.env scope) (hsel:zF X.N scope N sel) (B:Blk X scope N tg elt ifs g tc te)
  (hs:∀ x,foldedSetIterable iter X.env x=pure x:=by intro _;rfl):PE X (.ListComp elt [⟨tg,iter,ifs,0⟩] scope pos) (pK wi g tc te sel):=by
 intro pins s σ H Q I h;rw [eval_ListComp];refine wpAny_comprehension_free (use:=none) rfl hs (iD (S.cells I.ok)) S.kind S.loc ?_;refine thn (hi pins s σ H _ I h) fun v s1 h1=>thn h1 fun itv s2 h2=>?_
 obtain ⟨it,fp,tn,J,H2,e,I2,T,st2,f2,W,w0,hW⟩:=h2;subst e;refine ow (RR:=fun acc C=>compPost (model X.prog X.w) X.A X.xe none (EP X pins σ Q) acc C) hc S hsel B I2 T st2 f2 w0 hW fun D C ys H' s' I' ⟨m,hm⟩ fo q=>?_
 exact ⟨m,hm,fun h' hsb=>⟨.ref D,_,I'.turned (t':=s'.toks) (it:=C) (fun b o hb e=>(hsb.2 b hb).trans e) fo.1 fo.2.1 fo.2.2.2.1 fo.2.2.2.2.1 fo.2.2.2.2.2,rfl,q⟩⟩
theorem Jg {i:Nat} {y:Str} {py spos:Pos} (hN:X.N.Nodup) (hi:X.N[i]? = some y) (hx:Loc X.env.scope y) (hc:X.calm=true) (hit:PI X tg iter wi) (S:zo X.env scope) (hsel:zF X.N scope N sel) (B:Blk X scope N tg elt ifs g tc te)
  (hsw:swapsWith (.ListComp elt [⟨tg,iter,ifs,0⟩] scope pos) (some (.Name y py)) spos.line X.env=pure true) (hf:X.fn y=true∨X.env.scope.names.lookup y=some .local:=by first | exact .inl rfl | exact .inr rfl | assumption)
  (hs:∀ x,foldedSetIterable iter X.env x=pure x:=by intro _;rfl):PS X (.Assign [.Name y py] (.ListComp elt [⟨tg,iter,ifs,0⟩] scope pos) spos) (KM (pK wi g tc te sel) (Gr i)):=by
 intro pins s σ H D I h;rw [exec_Assign_Name_used _ _ _ _ hsw];refine wpAny_bind (wpAny_standAt (wpAny_bind ?_));show wpAny _ X.A (do let _ ← comprehension (.ListComp elt [⟨tg,iter,ifs,0⟩] scope pos) scope X.env _ (newList []) false (eval iter X.env) (some (assign (.Name y py) X.env))) _ _ s;refine wpAny_bind (wpAny_mono (wpAny_comprehension_free (use:=some (assign (.Name y py) X.env)) (Q:=fun _ s'=>SP X pins D .next s') rfl hs (iD (S.cells I.ok)) S.kind S.loc ?_) (fun _ s' hq=>wpAny_pure (wpAny_pure hq)) fun _ _ e=>e);refine thn (hit pins s σ H _ I h) fun v s1 h1=>thn h1 fun itv s2 h2=>?_
 obtain ⟨it,fp,tn,J,H2,e,I2,T,st2,f2,W,w0,hW⟩:=h2;subst e;refine ow (RR:=fun acc C=>compPost (model X.prog X.w) X.A X.xe (some (assign (.Name y py) X.env)) (fun _ s'=>SP X pins D .next s') acc C) hc S hsel B I2 T st2 f2 w0 hW fun Da C ys H' s' I' ⟨m,hm⟩ fo q=>?_
 show wpAny _ X.A (assign (.Name y py) X.env (.ref Da)) _ _ _;refine wpAny_assign_Name (Ow I' hN hi hx (show gd (.ref Da) (.ref Da) from rfl) (fun s3 I3 hZ1=>?_) hf);obtain ⟨a,hsb,ha⟩:=hZ1;have hCa:C ≠ a:=by
  rcases ha with z | z
  ·rw [z];exact fo.2.1
  ·exact fun w=>fo.2.2.2.2.1 y a z w.symm
 refine ⟨m,hm.sameBut hsb hCa,fun h' hsb'=>⟨_,_,I3.turned (t':=s3.toks) (it:=C) (fun b o hb e=>(hsb'.2 b hb).trans e) fo.1 fo.2.1 fo.2.2.2.1 fo.2.2.2.2.1 fo.2.2.2.2.2,q⟩⟩
end
noncomputable def Gg (Pv:Nat→List V→Hp→Prop) (g:TG) (tc:TT) (te:TE) (σb:St) (i:Nat) (x:V) (ys:List V) (H:Hp):Prop:=
 ∀ N:List V→Hp→Prop,(∀ ys' H',Pv (i + 1) ys' H'→N ys' H')→g x σb H fun σ2 H2=>Sub σb σ2∧tc σ2 H2 fun c H3=>if c=true then te σ2 H3 fun y H4=>N (ys ++ [y]) H4 else N ys H3
theorem MD {K:PySem.W.Frag} {a:Addr} {xs:List V} {g:TG} {tc:TT} {te:TE} {σb:St} {Q:VK} {H:Hp} (Pv:Nat→List V→Hp→Prop) (hz:xs.length ≤ sizeLine) (h0:Pv 0 [] H) (hl:∀ i ys H,i ≤ xs.length→Pv i ys H→SqL K H a xs∧ys.length ≤ i)
  (hs:∀ i x ys H,xs[i]? = some x→Pv i ys H→Gg Pv g tc te σb i x ys H) (hd:∀ ys H,Pv xs.length ys H→∀ p,H p=none→Q (.ref p) (upd H p (.lst ys))) :
  ∃ W:Nat→Nat→List V→Hp→Prop,(∃ m,W 0 m [] H)∧Iy (Itl K a) g tc te σb Q W:=by
 refine ⟨fun i m ys H=>m=xs.length - i∧i ≤ xs.length∧Pv i ys H,⟨xs.length,by simp,Nat.zero_le _,h0⟩,?_⟩;rintro i m ys H ⟨rfl,hi,p⟩;have q:=(hl i ys H hi p).1;have hyl:=(hl i ys H hi p).2;by_cases hlt:i < xs.length
 ·refine .inr ⟨⟨xs,xs[i],q,by simp [hlt]⟩,by omega,fun x H' y=>?_⟩;obtain ⟨e,y⟩:=y;subst e;exact hs i x ys _ (y xs q) p (fun ys' H'=>∃ m',m' < xs.length - i∧m'=xs.length - (i + 1)∧i + 1 ≤ xs.length∧Pv (i + 1) ys' H') fun ys' H' r=>⟨xs.length - (i + 1),by omega,rfl,hlt,r⟩
 ·have e:i=xs.length:=by omega
  subst e;exact .inl ⟨⟨xs,q,Nat.le_refl _⟩,hd ys H p⟩
theorem lH {K:PySem.W.Frag} {a:Addr} {xs:List V} {g:TG} {tc:TT} {te:TE} {σb:St} {Q:VK} {H:Hp} (Pv:Nat→List V→Hp→Prop) (hz:xs.length ≤ sizeLine) (h0:Pv 0 [] H) (hl:∀ i ys H,i ≤ xs.length→Pv i ys H→SqT K H a xs∧ys.length ≤ i)
  (hs:∀ i x ys H,xs[i]? = some x→Pv i ys H→Gg Pv g tc te σb i x ys H) (hd:∀ ys H,Pv xs.length ys H→∀ p,H p=none→Q (.ref p) (upd H p (.lst ys))) :
  ∃ W:Nat→Nat→List V→Hp→Prop,(∃ m,W 0 m [] H)∧Iy (Itt K a) g tc te σb Q W:=by
 refine ⟨fun i m ys H=>m=xs.length - i∧i ≤ xs.length∧Pv i ys H,⟨xs.length,by simp,Nat.zero_le _,h0⟩,?_⟩;rintro i m ys H ⟨rfl,hi,p⟩;have q:=(hl i ys H hi p).1;have hyl:=(hl i ys H hi p).2;by_cases hlt:i < xs.length
 ·refine .inr ⟨⟨xs,xs[i],q,by simp [hlt]⟩,by omega,fun x H' y=>?_⟩;obtain ⟨e,y⟩:=y;subst e;exact hs i x ys _ (y xs q) p (fun ys' H'=>∃ m',m' < xs.length - i∧m'=xs.length - (i + 1)∧i + 1 ≤ xs.length∧Pv (i + 1) ys' H') fun ys' H' r=>⟨xs.length - (i + 1),by omega,rfl,hlt,r⟩
 ·have e:i=xs.length:=by omega
  subst e;exact .inl ⟨⟨xs,q,Nat.le_refl _⟩,hd ys H p⟩
theorem fC {lo:Int} {n:Nat} {g:TG} {tc:TT} {te:TE} {σb:St} {Q:VK} {H:Hp} (Pv:Nat→List V→Hp→Prop) (hz:n ≤ sizeLine) (h0:Pv 0 [] H) (hl:∀ i ys H,i ≤ n→Pv i ys H→ys.length ≤ i)
  (hs:∀ i ys H,i < n→Pv i ys H→Gg Pv g tc te σb i (.int (lo + i)) ys H) (hd:∀ ys H,Pv n ys H→∀ p,H p=none→Q (.ref p) (upd H p (.lst ys))) :
  ∃ W:Nat→Nat→List V→Hp→Prop,(∃ m,W 0 m [] H)∧Iy (Itr lo n) g tc te σb Q W:=by
 refine ⟨fun i m ys H=>m=n - i∧i ≤ n∧Pv i ys H,⟨n,by simp,Nat.zero_le _,h0⟩,?_⟩;rintro i m ys H ⟨rfl,hi,p⟩;have hyl:=hl i ys H hi p;by_cases hlt:i < n
 ·refine .inr ⟨hlt,by omega,fun x H' y=>?_⟩;obtain ⟨e,y⟩:=y;subst e y;exact hs i ys _ hlt p (fun ys' H'=>∃ m',m' < n - i∧m'=n - (i + 1)∧i + 1 ≤ n∧Pv (i + 1) ys' H') fun ys' H' r=>⟨n - (i + 1),by omega,rfl,hlt,r⟩
 ·have e:i=n:=by omega
  subst e;exact .inl ⟨Nat.le_refl _,hd ys H p⟩
end L2
namespace L2
open PySem PySem.Spec PyProof.Rows
noncomputable def Its (xs:List V):It:=⟨fun i _=>i < xs.length,fun i H x H'=>H'=H∧xs[i]? = some x,fun i _=>xs.length ≤ i⟩
theorem Ut {P:Program} {w:World} {K:PySem.W.Frag} {tg:Expr} {it:Addr} {xs:List V} {PV:Nat→Value→Prop} {St:Nat→Heap→Prop} (hW:∀ A:Around,A.handled=none→Walks P w A it [it] [it] xs.length PV St)
  (hP:∀ i v,PV i v→∃ x,xs[i]? = some x∧gd x v)
  (hgo:∀ i h,St i h→∃ o n vs,h.get? it=some o∧o.cls=.type n∧o.data=.fields vs∧["enumerate","zip","dict_itemiterator","dict_reverseitemiterator","odict_iterator","itertools.zip_longest","itertools.pairwise"].contains n=false)
  (hfr:∀ i h h',St i h→(∀ o,h.get? it=some o→h'.get? it=some o)→St i h')
  (hself:∀ (A:Around) (i:Nat) (s:Shared) (Q:Value→Shared→Prop) (E:Value→Shared→Prop),St i s.heap→Q (.ref it) s→wpAny (model P w) A (pyIter (.ref it)) Q E s) :
  fJ P w K tg (Its xs) [it] it (fun i h=>i ≤ xs.length∧St i h) where
 mem:=by simp
 obj:=fun i h st b hb=>by
  have e:b=it:=by simpa using hb
  subst e;obtain ⟨o,n,vs,e,_,d,_⟩:=hgo i h st.2;exact ⟨o,e,fun v z=>by rw [d] at z;cases z⟩
 keep:=fun i h h' st k=>⟨st.1,hfr i h h' st.2 fun o e=>k it (by simp) o e⟩
 item:=by
  intro X hP' hw hK hc i pins s σ H E I hf st hg;subst hP' hw hK;obtain ⟨f0,f1,f2,f3,f4,f5⟩:=hf it (by simp);refine (hW X.A (I.ok.hd hc)).item i s _ _ hg st.2 fun v h' tk hv st' kk=>?_
  obtain ⟨x,hx,rx⟩:=hP i v hv;have I1:Inv X pins σ H { s with heap:=h',toks:=tk }:=I.turned (fun b o hb e=>kk b o (by simpa using hb) e) f0 f1 f3 f4 f5;obtain ⟨o,n,vs,e,c,d,nm⟩:=hgo _ _ st';exact ⟨v,rfl,ME (s:={ s with heap:=h',toks:=tk }) e c d nm ⟨x,H,I1,rx,⟨rfl,hx⟩,⟨hg,st'⟩,fun b hb=>(hf b hb).1⟩⟩
 done:=by
  intro X hP' hw hK hc i pins s σ H E I hf st hg;subst hP' hw hK;obtain ⟨f0,f1,f2,f3,f4,f5⟩:=hf it (by simp);have e:i=xs.length:=Nat.le_antisymm st.1 hg;subst e;exact (hW X.A (I.ok.hd hc)).done s _ _ st.2 fun h' tk kk=>⟨rfl,I.turned (fun b o hb e=>kk b o (by simpa using hb) e) f0 f1 f3 f4 f5⟩
 self:=fun A i s Q E st h=>hself A i s Q E st.2 h
noncomputable def BH (c:Nat):Str:=⟨#[c]⟩
noncomputable def aj (x:Str):List V:=x.cps.toList.map fun c=>V.str (BH c)
theorem Am (x:Str):(aj x).length=x.cps.size:=by unfold aj;simp
theorem xD {x:Str} {i c:Nat} (h:x.cps[i]? = some c):(aj x)[i]? = some (.str (BH c)):=by
 unfold aj;rw [List.getElem?_map,Array.getElem?_toList,h];rfl
theorem At {x:Str} {i:Nat} {v:Value} (h:SignAt x i v):∃ y,(aj x)[i]? = some y∧gd y v:=by
 obtain ⟨c,u,hc,rfl⟩:=h;exact ⟨.str (BH c),xD hc,u,rfl⟩
section
variable {X:Cx} {tg:Expr}
noncomputable def XO (tl:TE):TI:=fun σ H R=>tl σ H fun x H1=>∃ z,x=.str z∧R (Its (aj z)) H1
theorem PL {l:Expr} {tl:TE} (hl:PE X l tl):PI X tg l (XO tl):=by
 intro pins s σ H R I h;refine thn (hl pins s σ H _ I h) fun v s1 hZ1=>?_
 obtain ⟨x,H1,I1,r1,q1⟩:=hZ1;obtain ⟨z,e,q⟩:=q1;subst e;obtain ⟨t,rfl⟩:=r1;have fo:∀ b ∈ [s1.heap.objs.size],uw X pins H1 b:=fun b hb=>by
  have e:b=s1.heap.objs.size:=by simpa using hb
  subst e;exact I1.fpOk (Nat.le_refl _) (I1.hok.fresh (Nat.le_refl _))
 have hz:=Am z;cases ha:z.cps.all (· < 128) with
 | false=>
  refine wpAny_pyIter_wide ha ⟨s1.heap.objs.size,[s1.heap.objs.size],fun i h=>i ≤ (aj z).length∧h.IsStrIter s1.heap.objs.size "str_iterator" z t i,_,H1,rfl,I1.kept (t':=s1.toks) fun b o e=>Heap.get?_push_of_some _ e,
   Ut (fun A hA=>by rw [hz];exact Walks.strWide hA _ z t) (fun i v=>At) (fun i h ⟨o,e,c,d⟩=>⟨o,_,_,e,c,d,by decide⟩) (fun i h h' ⟨o,e,r⟩ k=>⟨o,k o e,r⟩) (fun A i s Q E st q=>wpAny_pyIter_striter_wide st q),
   ⟨Nat.zero_le _,_,Heap.get?_push_size _ rfl,rfl,rfl⟩,fo,q⟩
 | true=>
  refine wpAny_pyIter_ascii ha ⟨s1.heap.objs.size,[s1.heap.objs.size],fun i h=>i ≤ (aj z).length∧h.IsStrIter s1.heap.objs.size "str_ascii_iterator" z t i,_,H1,rfl,I1.kept (t':=s1.toks) fun b o e=>Heap.get?_push_of_some _ e,
   Ut (fun A hA=>by rw [hz];exact Walks.strAscii hA _ z t) (fun i v=>At) (fun i h ⟨o,e,c,d⟩=>⟨o,_,_,e,c,d,by decide⟩) (fun i h h' ⟨o,e,r⟩ k=>⟨o,k o e,r⟩) (fun A i s Q E st q=>wpAny_pyIter_striter_ascii st q),
   ⟨Nat.zero_le _,_,Heap.get?_push_size _ rfl,rfl,rfl⟩,fo,q⟩
end
theorem rJ {xs:List V} {g:TG} {tb:TS} {D:nj} {σ:St} {H:Hp} (Pv:Nat→St→Hp→Prop) (h0:Pv 0 σ H)
  (hs:∀ i x σ H,xs[i]? = some x→Pv i σ H→g x σ H fun σ2 H2=>tb { D with nx:=Pv (i + 1),ct:=Pv (i + 1),bk:=D.nx } σ2 H2) (hd:∀ σ H,Pv xs.length σ H→D.nx σ H) :
  ∃ W:Nat→Nat→St→Hp→Prop,(∃ m,W 0 m σ H)∧∀ i m σ H,W i m σ H →
   ((Its xs).stop i H∧D.nx σ H)∨((Its xs).go i H∧∃ N:St→Hp→Prop,(∀ σ' H',N σ' H'→∃ m',m' < m∧W (i + 1) m' σ' H')∧∀ x H',(Its xs).yld i H x H'→g x σ H' fun σ2 H2=>tb { D with nx:=N,ct:=N,bk:=D.nx } σ2 H2):=by
 refine ⟨fun i m σ H=>m=xs.length - i∧i ≤ xs.length∧Pv i σ H,⟨xs.length,by simp,Nat.zero_le _,h0⟩,?_⟩;rintro i m σ H ⟨rfl,hi,p⟩;by_cases hlt:i < xs.length
 ·refine .inr ⟨hlt,Pv (i + 1),fun σ' H' p'=>⟨xs.length - (i + 1),by omega,rfl,hlt,p'⟩,fun x H' y=>?_⟩;obtain ⟨e,y⟩:=y;subst e;exact hs i x σ _ y p
 ·have e:i=xs.length:=by omega
  subst e;exact .inl ⟨Nat.le_refl _,hd σ H p⟩
theorem wH {xs:List V} {g:TG} {tc:TT} {te:TE} {σb:St} {Q:VK} {H:Hp} (Pv:Nat→List V→Hp→Prop) (hz:xs.length ≤ sizeLine) (h0:Pv 0 [] H) (hl:∀ i ys H,i ≤ xs.length→Pv i ys H→ys.length ≤ i)
  (hs:∀ i x ys H,xs[i]? = some x→Pv i ys H→Gg Pv g tc te σb i x ys H) (hd:∀ ys H,Pv xs.length ys H→∀ p,H p=none→Q (.ref p) (upd H p (.lst ys))) :
  ∃ W:Nat→Nat→List V→Hp→Prop,(∃ m,W 0 m [] H)∧Iy (Its xs) g tc te σb Q W:=by
 refine ⟨fun i m ys H=>m=xs.length - i∧i ≤ xs.length∧Pv i ys H,⟨xs.length,by simp,Nat.zero_le _,h0⟩,?_⟩;rintro i m ys H ⟨rfl,hi,p⟩;have hyl:=hl i ys H hi p;by_cases hlt:i < xs.length
 ·refine .inr ⟨hlt,by omega,fun x H' y=>?_⟩;obtain ⟨e,y⟩:=y;subst e;exact hs i x ys _ y p (fun ys' H'=>∃ m',m' < xs.length - i∧m'=xs.length - (i + 1)∧i + 1 ≤ xs.length∧Pv (i + 1) ys' H') fun ys' H' r=>⟨xs.length - (i + 1),by omega,rfl,hlt,r⟩
 ·have e:i=xs.length:=by omega
  subst e;exact .inl ⟨Nat.le_refl _,hd ys H p⟩
section
variable {X:Cx}
noncomputable def bc (ys:List Str):List V:=ys.map V.str
theorem UB:∀ {ys:List Str} {us:List Value},Uc (bc ys) us→StrsAre us ys:=by
 intro ys
 induction ys with
 | nil=>intro us r;cases r;exact .nil
 | cons y ys ih=>
  intro us r;cases r with
  | cons r1 r2=>
   obtain ⟨t,rfl⟩:=r1;exact .cons y t (ih r2)
theorem iw:∀ (l:List (Str × Tok)),Uc (bc (l.map (·.1))) (strValues l)
 | []=>.nil
 | (x,t) :: r=>.cons ⟨t,rfl⟩ (iw r)
noncomputable def WL (K:PySem.W.Frag):V→List V→Hp→VK→Prop:=fun x vs H Q=>∃ sep p ys,x=.str sep∧vs=[.ref p]∧SqL K H p (bc ys)∧(ys.map (·.length)).sum + ys.length * sep.length ≤ 16777216∧Q (.str (Txt.join sep ys)) H
theorem MC:MtR X "str.join" (WL X.K):=by
 intro pins s σ H x xs v us Q I rx rv h;obtain ⟨sep,p,ys,rfl,rfl,hq,hz,q⟩:=h;obtain ⟨t,rfl⟩:=rx;obtain ⟨u,rfl,ru⟩:=Oo rv;cases ru;obtain ⟨its,r,pl,_⟩:=I.list hq;exact join_list pl.isList (by simpa using UB r) hz fun t' k=>⟨.str _,H,I.tok _,⟨_,rfl⟩,q⟩
end
theorem yB {prog:Program} {w:World} {A:Around} {E:Value→Shared→Prop} {s:Shared} {x y:Str} {t u:Tok} {Q:Value→Shared→Prop} (hy:(y.length == 0)=false)
  (h:∀ l k,l.map (·.1)=Txt.split x y→Q (.ref s.heap.objs.size) { s with heap:=s.heap.push { cls:=.type "list",data:=.seq (strValues l).toArray },toks:=k }) (hsz:x.length + 2 ≤ sizeLine) :
  wpAny (model prog w) A (call (.builtin "str.split") [.str x t,.str y u]) Q E s:=by
 have hn:(Builtin.Str.partsBetween x (Builtin.Str.occurrences x y 0 x.length (x.length + 1)) y.length).length ≤ sizeLine:=by
  have e1:=StrLaws.occ_length_le x y 0 x.length (x.length + 1);rw [length_partsBetween];omega
 cases h1:(decide (x.length < y.length) || decide (Builtin.Str.strKind x < Builtin.Str.strKind y))
 ·cases hf:(Builtin.Str.occurrences x y 0 x.length (x.length + 1)).isEmpty
  ·refine call_meets F.slot_str_split (typeIs_str _ _ _) F.entry_str_split (F.args_str_split_2 _ _) (meets_str_split_sep x y t u h1 hy hf (by omega) hn) ?_;show wants Q E _ { s with toks:=_,heap:=s.heap.push { cls:=.type "list",data:=.seq (strsFrom s.toks (Builtin.Str.partsBetween x (Builtin.Str.occurrences x y 0 x.length (x.length + 1)) y.length)).toArray } };rw [strsFrom_eq];exact h (numbered s.toks _) _ ((numbered_texts _ _).trans ((if_neg (ne_true_of_eq_false h1)).trans (if_neg (ne_true_of_eq_false hf))).symm)
  ·exact call_meets F.slot_str_split (typeIs_str _ _ _) F.entry_str_split (F.args_str_split_2 _ _) (meets_str_split_not_found x y t u h1 hy hf)
    (h [(x,t)] s.toks ((if_neg (ne_true_of_eq_false h1)).trans (if_pos hf)).symm)
 ·exact call_meets F.slot_str_split (typeIs_str _ _ _) F.entry_str_split (F.args_str_split_2 _ _) (meets_str_split_cannot_occur x y t u h1)
   (h [(x,t)] s.toks (if_pos h1).symm)
section
variable {X:Cx}
noncomputable def lI:V→List V→Hp→VK→Prop:=fun x vs H Q=>∃ z y,x=.str z∧vs=[.str y]∧y.length ≠ 0∧z.length + 2 ≤ sizeLine∧(Txt.split z y).length ≤ sizeLine∧∀ p,H p=none→Q (.ref p) (upd H p (.lst (bc (Txt.split z y))))
theorem pA:MtR X "str.split" lI:=by
 intro pins s σ H x xs v us Q I rx rv h;obtain ⟨z,y,rfl,rfl,hy,hz,hn,q⟩:=h;obtain ⟨t,rfl⟩:=rx;obtain ⟨u,rfl,ru⟩:=Oo rv;obtain ⟨tu,rfl⟩:=ru;refine yB (by simpa using hy) (fun l k hl=>?_) hz;refine ⟨.ref s.heap.objs.size,_,I.laid (t':=k) (o:=.lst (bc (Txt.split z y))) (fun b o e=>Heap.get?_push_of_some _ e) (Nat.le_refl _) ⟨by unfold bc;rw [List.length_map];exact hn,strValues l,0,by rw [← hl];exact iw l,Heap.get?_push_size _ rfl⟩,rfl,q _ (I.hok.fresh (Nat.le_refl _))⟩
theorem sF:Kl X (.type "int") (fun xs H Q=>∃ z n,xs=[.str z]∧intText? z=some n∧z.length ≤ 640∧Q (.int n) H):=by
 intro pins s σ H xs us Q I r h;obtain ⟨z,n,rfl,hn,hz,q⟩:=h;obtain ⟨u,rfl,t,rfl⟩:=Oo r;exact PySem.W.KIN.call_text hn hz ⟨.int n,H,I.tok _,⟨_,rfl⟩,q⟩
theorem Tw:∀ {bs:List Bool} {us:List Value},Uc (bs.map V.bl) us→us=bs.map Value.bool
 | [],_,.nil=>rfl
 | b :: bs,_,.cons r t=>by
  have e:_=Value.bool b:=r;rw [e,Tw t];rfl
theorem Ny {A:Around} (bs:List Bool):TruthOf X.prog X.w A (fun i v=>(bs.map Value.bool).toArray[i]? = some v) (fun i=>bs.getD i true):=by
 intro i v s Q E hP hQ;have e:(bs.map Value.bool)[i]? = some v:=by simpa using hP
 rw [List.getElem?_map] at e;cases q:bs[i]? with
 | none=>rw [q] at e;cases e
 | some b=>
  rw [q] at e;have e':Value.bool b=v:=Option.some.inj e;subst e';refine wpAny_truthy_bool ?_;have:bs.getD i true=b:=by simp [List.getD,q]
  have hQ':Q (bs.getD i true) s:=hQ;rw [this] at hQ';exact hQ'
theorem aE (bs:List Bool):(List.range bs.length).all (fun i=>bs.getD i true)=bs.all id:=by
 rw [Bool.eq_iff_iff];simp only [List.all_eq_true,List.mem_range,id];constructor
 ·intro h b hb;obtain ⟨i,hi,e⟩:=List.mem_iff_getElem.mp hb;have:=h i hi;simp [List.getD,hi,e] at this;exact this
 ·intro h i hi;simp [List.getD,hi];exact h _ (List.getElem_mem hi)
theorem CH (hc:X.calm=true):Kl X (.builtin "all") (fun xs H Q=>∃ (p:Addr) (bs:List Bool),xs=[.ref p]∧SqL X.K H p (bs.map V.bl)∧Q (.bl (bs.all id)) H):=by
 intro pins s σ H xs us Q I r h;obtain ⟨p,bs,rfl,hq,q⟩:=h;obtain ⟨u,rfl,ru⟩:=Oo r;cases ru;obtain ⟨its,rv,pl,_⟩:=I.list hq;have e:=Tw rv;subst e;refine call_all_walk (wpAny_pyIter_list pl.isList ?_);have hne:p ≠ s.heap.objs.size:=Nat.ne_of_lt (by obtain ⟨o,_,ho,_⟩:=pl;exact Heap.lt_size ho);refine ⟨s.heap.objs.size,_,_,_,_,_,fun i=>bs.getD i true,rfl,Walks.list (show X.A.in1.handled=none from I.ok.hd hc) _ p hne (bs.map Value.bool).toArray,⟨⟨_,Heap.get?_push_size _ rfl,rfl,rfl⟩,pl.isList.at fun o e=>Heap.get?_push_of_some _ e⟩,Ny bs,fun h' tk kk=>?_⟩;refine ⟨.bl (bs.all id),H,I.kept fun b o e=>kk b o (by simpa using Nat.ne_of_lt (Heap.lt_size e)) (Heap.get?_push_of_some _ e),?_,q⟩;show Value.bool _=Value.bool _;rw [show (bs.map Value.bool).toArray.size=bs.length by simp,aE]
theorem Mu:Kl X (.builtin "isinstance") (fun xs H Q=>∃ x T t b,xs=[x,.ty T]∧Tz X.K H x t∧PySem.W.kitOne X.K t (.type T)=some b∧Q (.bl b) H):=by
 intro pins s σ H xs us Q I r h;obtain ⟨x,T,t,b,rfl,ty,e,q⟩:=h;obtain ⟨u,u2,rfl,rx,r2⟩:=aH r;cases r2;exact wF I rx ty e fun tk=>⟨.bl b,H,I.tok _,rfl,q⟩
end
end L2
namespace L2
open PySem PySem.Spec PyProof.Rows
theorem kh {X:Cx} {N:List Str} (h:N.Nodup) (e:X.N=N):X.N.Nodup:=e ▸ h
noncomputable def vE (sc scope:Scope):Bool:=
 (scope.kind == .function) && scope.names.all (fun y=>y.2 != .cell) && scope.names.all (fun y=>y.2 != .free || sc.names.lookup y.1 == some .cell || sc.names.lookup y.1 == some .free) &&
  scope.names.all (fun y=>y.2 != .local || scope.names.lookup y.1 == some .local)
theorem Yc {env:Env} {sc scope:Scope} (he:env.scope=sc) (h:vE sc scope=true):zo env scope:=by
 subst he;unfold vE at h;simp only [Bool.and_eq_true,List.all_eq_true] at h;obtain ⟨⟨⟨h1,h2⟩,h3⟩,h4⟩:=h;refine ⟨by simpa using h1,fun y hy e=>?_,fun y hy e=>?_,fun y hy e=>?_⟩
 ·have:=h2 y hy;rw [e] at this;exact absurd this (by decide)
 ·have:=h3 y hy;rw [e] at this;simp only [Bool.or_eq_true] at this;rcases this with (z | z) | z
  ·exact absurd z (by decide)
  ·exact .inl (show env.scope.names.lookup y.1=some .cell by simpa using z)
  ·exact .inr (show env.scope.names.lookup y.1=some .free by simpa using z)
 ·have:=h4 y hy;rw [e] at this;simp only [Bool.or_eq_true] at this;rcases this with z | z
  ·exact absurd z (by decide)
  ·simpa using z
noncomputable def BO (M:List Str) (scope:Scope) (N:List Str) (sel:List (Option Nat)):Bool:=
 sel.length == N.length && (sel.zip N).all fun p=>match p.1 with | none=>true | some j=>M[j]? == some p.2 && scope.names.lookup p.2 == some .free
theorem Nd {M:List Str} {scope:Scope} {N:List Str} {sel:List (Option Nat)} (h:BO M scope N sel=true):zF M scope N sel:=by
 unfold BO at h;simp only [Bool.and_eq_true,List.all_eq_true] at h;refine ⟨by simpa using h.1,fun i j x e1 e2=>?_⟩;have hm:(some j,x) ∈ sel.zip N:=by
  rw [List.mem_iff_getElem?];exact ⟨i,by rw [List.getElem?_zip_eq_some];exact ⟨e1,e2⟩⟩
 have:=h.2 _ hm;simp only [Bool.and_eq_true] at this;exact ⟨by simpa using this.1,by simpa using this.2⟩
noncomputable def noT:HO→Bool
 | .dT _=>false
 | .frz _ u=>noT u
 | _=>true
noncomputable def NoT (H:Hp):Prop:=∀ b o,H b=some o→noT o=true
theorem qd.back {P:Program} {w:World} {H H':Hp} {h h':Heap} {a:Addr}:∀ (o:HO),noT o=true→qd P w H' h' a o→qd P w H h a o→qd P w H h' a o
 | .lst _,_,x,_=>x
 | .tup _,_,x,_=>x
 | .dK _,_,x,_=>x
 | .dT _,e,_,_=>absurd e (by unfold noT;decide)
 | .set _ _,_,x,_=>x
 | .ins _ _ _,_,x,y=>⟨y.1,x.2⟩
 | .own _,_,x,_=>x
 | .xd _,_,x,_=>x
 | .met _ _,_,x,_=>x
 | .rng _ _,_,x,_=>x
 | .frz ob u,e,x,y=>⟨x.1,qd.back u (by unfold noT at e;exact e) x.2 y.2⟩
 | .tbl _,_,x,_=>x
 | .ext _,_,x,_=>x
section
variable {P:Program} {w:World} {K:PySem.W.Frag} {mg:Str→Option Value} {base:Heap}
theorem Eb.forget {k:Nat} {f:Addr} {fd:FuncData} {ps:List Str} {sp sp':Sp} (F:Eb P w K mg base CX0 k f fd ps sp)
  (h:∀ vs H Q E,sp' vs H Q E→NoT H∧sp vs H (fun v H'=>Yb H H'∧Q v H) E):Eb P w K mg base CX0 k f fd ps sp':=by
 refine ⟨fun vs H Q E q=>F.len vs H _ E (h vs H Q E q).2,fun A outer s H args us vs Q E hr he hb hv hs=>?_⟩;obtain ⟨nt,q⟩:=h vs H Q E hs;refine codeAny_mono (F.run A outer s H args us vs _ E hr he hb hv q) fun r s' hq=>?_
 cases r with
 | error e=>exact hq
 | ok fl=>
  cases fl with
  | next=>exact hq
  | brk=>exact hq
  | cont=>exact hq
  | ret u=>
   obtain ⟨v,H',os,bare,un,hok,rv,sm,q'⟩:=hq;exact ⟨v,H,os,bare,⟨un.keep,un.slot,fun _ _ _ n _=>n,un.there,fun _ _ z=>z,fun _ _ _ z=>z,fun _ ps z=>⟨#[],by rw [z];simp⟩⟩,fun a o e=>(hok a o (sm a o e)).back o (nt a o e) (he.hok a o e),rv,q'⟩
end
theorem lb {H:Hp} {p:Addr} {o:HO} (h:H p=none):Yb H (upd H p o):=fun b u q=>by rw [pb (xb q h)];exact q
theorem Yb.updN {H H1:Hp} {p:Addr} {o:HO} (s:Yb H H1) (h:H p=none):Yb H (upd H1 p o):=fun b u q=>by rw [pb (xb q h)];exact s b u q
structure Sc (K:PySem.W.Frag) (a:Addr) (ns:List Int) (H:Hp):Prop where
 sq:(∃ o,H a=some (.frz o (.lst (ns.map V.int))))∨∃ (o:Obj) (its:Array Value) (n:Nat),K.lookup a=some o∧o.cls=.type "list" ∧ o.dict=none∧o.data=.seq its n∧its.size ≤ sizeLine∧Uc (ns.map V.int) its.toList
 nt:NoT H
section
variable {K:PySem.W.Frag} {a p:Addr} {ns:List Int} {H H':Hp} {o:HO}
theorem Sc.seq (s:Sc K a ns H):SqL K H a (ns.map V.int):=by
 rcases s.sq with ⟨o,h⟩ | h
 ·exact .inl (.inr ⟨o,h⟩)
 ·exact .inr h
theorem Sc.new (s:Sc K a ns H) (hp:H p=none) (ho:noT o=true:=by rfl):Sc K a ns (upd H p o):=by
 refine ⟨?_,fun b u e=>?_⟩
 ·rcases s.sq with ⟨ob,h⟩ | h
  ·exact .inl ⟨ob,by rw [pb (xb h hp)];exact h⟩
  ·exact .inr h
 ·by_cases hb:b=p
  ·subst hb;rw [db] at e;cases e;exact ho
  ·rw [pb hb] at e;exact s.nt b u e
theorem Sc.set {u:HO} (s:Sc K a ns H) (hp:H p=some u) (hu:∀ ob z,u ≠ .frz ob z) (ho:noT o=true:=by rfl):Sc K a ns (upd H p o):=by
 refine ⟨?_,fun b x e=>?_⟩
 ·rcases s.sq with ⟨ob,h⟩ | h
  ·refine .inl ⟨ob,?_⟩;have hne:a ≠ p:=fun z=>by subst z;rw [hp] at h;exact hu _ _ (Option.some.inj h)
   rw [pb hne];exact h
  ·exact .inr h
 ·by_cases hb:b=p
  ·subst hb;rw [db] at e;cases e;exact ho
  ·rw [pb hb] at e;exact s.nt b x e
end
theorem Ac:bootBuiltins "len"=some (.builtin "len"):=PySem.boot_len
theorem oB:bootBuiltins "all"=some (.builtin "all"):=by decide +kernel
theorem cn:bootBuiltins "min"=some (.builtin "min"):=by decide +kernel
theorem Nn:bootBuiltins "max"=some (.builtin "max"):=by decide +kernel
theorem ut:bootBuiltins "sum"=some (.builtin "sum"):=by decide +kernel
theorem Ff:bootBuiltins "isinstance"=some (.builtin "isinstance"):=by decide +kernel
theorem Ct:bootBuiltins "int"=some (.type "int"):=by decide +kernel
theorem Tn:bootBuiltins "str"=some (.type "str"):=by decide +kernel
theorem jy:bootBuiltins "bool"=some (.type "bool"):=by decide +kernel
theorem Ai:bootBuiltins "list"=some (.type "list"):=by decide +kernel
theorem lw:bootBuiltins "tuple"=some (.type "tuple"):=by decide +kernel
theorem Rd.same {H H':Hp} {a:Addr} {o:HO} (h:Rd H a o) (s:Yb H H'):Rd H' a o:=by
 rcases h with h | ⟨ob,h⟩
 ·exact .inl (s _ _ h)
 ·exact .inr ⟨ob,s _ _ h⟩
theorem SqL.same {K:PySem.W.Frag} {H H':Hp} {a:Addr} {xs:List V} (h:SqL K H a xs) (s:Yb H H'):SqL K H' a xs:=by
 rcases h with h | h
 ·exact .inl (h.same s)
 ·exact .inr h
theorem SqT.same {K:PySem.W.Frag} {H H':Hp} {a:Addr} {xs:List V} (h:SqT K H a xs) (s:Yb H H'):SqT K H' a xs:=by
 rcases h with h | h
 ·exact .inl (h.same s)
 ·exact .inr h
theorem NoT.upd {H:Hp} {p:Addr} {o:HO} (h:NoT H) (ho:noT o=true:=by rfl):NoT (upd H p o):=fun b u e=>by
 by_cases hb:b=p
 ·subst hb;rw [db] at e;cases e;exact ho
 ·rw [pb hb] at e;exact h b u e
theorem Sc.same {K:PySem.W.Frag} {a:Addr} {ns:List Int} {H H':Hp} (s:Sc K a ns H) (sm:Yb H H') (nt:NoT H'):Sc K a ns H':=by
 refine ⟨?_,nt⟩;rcases s.sq with ⟨o,h⟩ | h
 ·exact .inl ⟨o,sm _ _ h⟩
 ·exact .inr h
end L2
namespace L2
open PySem PySem.Spec PyProof.Rows
structure AO (K:PySem.W.Frag) (C:Addr) (m:Str) (f:Addr):Prop where
 rd:PySem.W.readsIn K C (.type "type")=true
 fd:PySem.W.findCls K (.ref C) (.type "type") m=some (.val (.ref f))
 ga:PySem.W.specialIn K (.ref C) "__getattribute__"=some (some (.builtin "type.__getattribute__"))
 kp:PySem.W.keepIn K (.ref f)=true
structure Mz (P:Program) (w:World) (K:PySem.W.Frag) (mg:Str→Option Value) (base:Heap) (CX:CXT) (k:Nat) (OK:Addr→Prop) (m:Str) (ps:List Str) (SPV:Addr→Sp):Prop where
 ok:∀ C,OK C→∃ f fd,Cls K C∧yr K C m f∧Eb P w K mg base CX k f fd ps (SPV C)∧Sb K fd ps []
noncomputable def SE (OK:Addr→Prop) (m:Str) (SPV:Addr→Sp) (E:XK) (ta:TE) (t:TA):TE:=fun σ H Q=>ta σ H fun x H1=>∃ a C dx fs,x=.ref a∧H1 a=some (.ins C dx fs)∧OK C∧fs.lookup m=none ∧
 t σ H1 fun vs H2=>SPV C (x :: vs) H2 Q E
section
variable {X:Cx} {CX:CXT} {k:Nat} {f C:Addr} {fd:FuncData} {ps:List Str} {sp:Sp} {dvs:List V} {ds:List Value} {E:XK} {x m:Str} {p pos apos:Pos} {e o:Expr} {es:List Expr} {ta:TE} {t:TA}
theorem Wu {pl:Sem Bool} (hg:Gl X x) (hm:X.mg x=some (.ref C)) (c:AO X.K C m f) (F:Eb X.prog X.w X.K X.mg X.base CX k f fd ps sp) (hr:ui k X.A) (hb:Sb X.K fd ps ds) (hd:Uc dvs ds) (hx:Dl CX X E) (ha:PA X (e :: es) t)
  (hdb:(x == ("__debug__" : Str))=false:=by decide) (hst:starEach (e :: es) X.env=(false,eval e X.env) :: starEach es X.env:=by rfl) (hpl:(backTo pos (starEach es X.env)).any (·.1)=false:=by rfl)
  (ht:eval (.Call (.Attribute (.Name x p) m apos) (e :: es) [] pos) X.env=(do
   let ov ← eval (.Name x p) X.env
   standAt apos.atName
   let (f,first) ← holding [ov] (getMethod ov m pl)
   callWith pos f first (backTo pos (starEach (e :: es) X.env)) (backToKw pos (keywordEach [] X.env))):=by rfl) :
  PE X (.Call (.Attribute (.Name x p) m apos) (e :: es) [] pos) (NH sp dvs E t):=by
 intro pins s σ H Q I h;refine PySem.W.methodCall_KW (pl:=pl) (Vu I hg hm ?_ hdb) ht;refine PySem.W.method_cls I.kIn c.ga (PySem.W.cls_value I.kIn c.rd c.fd rfl ?_);have I1:=I.tok (s.toks + 1);refine PySem.W.callWith_K (first:=[]) (h₀:=X.base) I.ok.mod.kin c.kp (thn (ha pos pins _ σ H _ I1 h) fun us s2 ⟨vs,H2,I2,r,q2⟩=>⟨I2.kIn,?_⟩) hst hpl;exact ft F hr hb hd hx I2 r q2
variable {OK:Addr→Prop} {SPV:Addr→Sp}
theorem Tu {pl:Sem Bool} (he:PE X o ta) (V:Mz X.prog X.w X.K X.mg X.base CX k OK m ps SPV) (hr:ui k X.A) (hx:Dl CX X E) (ha:PA X (e :: es) t)
  (hst:starEach (e :: es) X.env=(false,eval e X.env) :: starEach es X.env:=by rfl) (hpl:(backTo pos (starEach es X.env)).any (·.1)=false:=by rfl)
  (ht:eval (.Call (.Attribute o m apos) (e :: es) [] pos) X.env=(do
   let ov ← eval o X.env
   standAt apos.atName
   let (f,first) ← holding [ov] (getMethod ov m pl)
   callWith pos f first (backTo pos (starEach (e :: es) X.env)) (backToKw pos (keywordEach [] X.env))):=by rfl) :
  PE X (.Call (.Attribute o m apos) (e :: es) [] pos) (SE OK m SPV E ta t):=by
 intro pins s σ H Q I h;refine PySem.W.methodCall_KW (pl:=pl) (thn (he pins s σ H _ I h) fun u s1 hZ1=>?_) ht;obtain ⟨x,H1,I1,rx,a,C,dx,fs,ex,ea,ok,l,q⟩:=hZ1;subst ex;obtain rfl:u=Value.ref a:=rx;obtain ⟨f,fd,c,hm,F,hb⟩:=V.ok C ok;refine Bk I1 ea c hm l ?_;refine PySem.W.callWith_K (first:=[.ref a]) (h₀:=X.base) I.ok.mod.kin hm.kp (thn (ha pos pins s1 σ H1 _ I1 q) fun us s2 ⟨vs,H2,I2,r,q2⟩=>⟨I2.kIn,?_⟩) hst hpl;exact ft (us:=.ref a :: us) (vs:=.ref a :: vs) (dvs:=[]) F hr hb .nil hx I2 (.cons rfl r) (by rw [List.append_nil];exact q2)
theorem Em {pl:Sem Bool} (he:PE X o ta) (V:Mz X.prog X.w X.K X.mg X.base CX k OK m ps SPV) (hr:ui k X.A) (hx:Dl CX X E)
  (ht:eval (.Call (.Attribute o m apos) [] [] pos) X.env=(do
   let ov ← eval o X.env
   standAt apos.atName
   let (f,first) ← holding [ov] (getMethod ov m pl)
   callWith pos f first (backTo pos (starEach [] X.env)) (backToKw pos (keywordEach [] X.env))):=by rfl) :
  PE X (.Call (.Attribute o m apos) [] [] pos) (SE OK m SPV E ta CN):=by
 intro pins s σ H Q I h;refine PySem.W.methodCall_KW (pl:=pl) (thn (he pins s σ H _ I h) fun u s1 hZ1=>?_) ht;obtain ⟨x,H1,I1,rx,a,C,dx,fs,ex,ea,ok,l,q⟩:=hZ1;subst ex;obtain rfl:u=Value.ref a:=rx;obtain ⟨f,fd,c,hm,F,hb⟩:=V.ok C ok;refine Bk I1 ea c hm l ?_;exact PySem.W.callWith_K0 (first:=[.ref a]) I1.kIn hm.kp (ft (us:=[.ref a]) (vs:=[.ref a]) (dvs:=[]) F hr hb .nil hx I1 (.cons rfl .nil) q)
end
section
variable {X:Cx} {x:Str} {p pos:Pos} {i:Expr} {ty:TE} {u:Value} {kvs:List (Str × V)}
end
theorem ld {f:Str} {v:V}:∀ {fs:List (Str × V)} (ks:List Str),fs.map (·.1)=ks→ks.contains f=false→Yh f v fs=fs ++ [(f,v)]
 | [],_,_,_=>rfl
 | (g,y) :: r,ks,e,h=>by
  cases e;rw [List.map_cons,List.contains_cons] at h;have h1:=(Bool.or_eq_false_iff.mp h);have hne:¬ g=f:=fun z=>by
   have:=h1.1;rw [z] at this;simp at this
  show (if g=f then _ else _)=_;rw [if_neg hne,ld _ rfl h1.2];rfl
theorem bn {f:Str} {v:V} {fs:List (Str × V)} {n:Nat} (h:fs.length < n):(Yh f v fs).length < n + 1:=Nat.lt_of_le_of_lt (Ll f v fs) (by omega)
theorem Sd {f:Str} {v:V}:∀ {fs:List (Str × V)} (ks:List Str) (i:Nat),fs.map (·.1)=ks→ks.findIdx? (· == f)=some i→fs[i]? = some (f,v)→fs.lookup f=some v
 | [],_,_,_,_,h=>by simp at h
 | (g,y) :: r,ks,i,e,h,hv=>by
  cases e;rw [List.map_cons,List.findIdx?_cons] at h;rw [List.lookup];by_cases e:g=f
  ·subst e;rw [beq_self_eq_true,if_pos rfl] at h;cases h;have:(g,y)=(g,v):=by simpa using hv
   cases this;rw [beq_self_eq_true]
  ·rw [beq_eq_false_iff_ne.mpr e,if_neg (by decide)] at h;obtain ⟨j,hj,rfl⟩:=Option.map_eq_some_iff.mp h;rw [beq_eq_false_iff_ne.mpr (fun z=>e z.symm)];exact Sd _ j rfl hj (by simpa using hv)
theorem tm {f:Str}:∀ {fs:List (Str × V)} (ks:List Str),fs.map (·.1)=ks→ks.contains f=false→fs.lookup f=none
 | [],_,_,_=>rfl
 | (g,y) :: r,ks,e,h=>by
  cases e;rw [List.map_cons,List.contains_cons] at h;have h1:=(Bool.or_eq_false_iff.mp h);rw [List.lookup,h1.1];exact tm _ rfl h1.2
end L2
namespace L2
open PySem PySem.Spec PyProof.Rows
theorem Inv.turnedL {X:Cx} {pins:List (Addr × Obj)} {σ:St} {H:Hp} {s:Shared} {h':Heap} {t':Nat} {fp:List Addr} (I:Inv X pins σ H s) (k:∀ b o,b ∉ fp→s.heap.get? b=some o→h'.get? b=some o)
  (hf:∀ b ∈ fp,uw X pins H b):Inv X pins σ H { s with heap:=h',toks:=t' }:=by
 have nit:∀ b u,H b=some u→b ∉ fp:=fun b u e z=>by rw [(hf b z).1] at e;cases e
 refine I.step (g':=s.gens) (d':=s.drawn) (ch:=fp) (fun b hb=>?_) (fun b o _ _ hc e _=>k b o hc e) (fun b o _ _ hc e _=>⟨o.slots,k b o hc e⟩) (fun _ _ _ _ n=>n)
  (fun b o hc e=>⟨o,k b o hc e⟩) (fun _ _ e=>e) (fun _ _ _ e=>e) (fun b ps e=>⟨#[],by rw [e];simp⟩) (fun m hm=>?_) (fun b u e=>?_) I.bare
 ·obtain ⟨f0,f1,f2,f3,f4,f5⟩:=hf b hb;exact ⟨f3,f1,f4,f5⟩
 ·obtain ⟨o,es,ep,ho,r⟩:=hm;exact ⟨o,es,ep,k _ o (fun z=>(hf _ z).2.1 rfl) ho,r⟩
 ·refine (I.hok b u e).stay (fun c v hc q=>k c v ?_ q) (fun _ q=>q) fun _ _ q=>q
  rcases hc with z | z
  ·rw [z];exact nit b u e
  ·exact nit c _ z
noncomputable def Ite (K:PySem.W.Frag) (a:Addr):It:=
 ⟨fun i H=>∃ xs x,SqL K H a xs∧xs[i]? = some x,fun i H v H'=>∃ p y,H p=none∧v=.ref p∧(∀ xs,SqL K H a xs→xs[i]? = some y)∧H'=upd H p (.tup [.int i,y]),fun i H=>∃ xs,SqL K H a xs∧xs.length ≤ i⟩
theorem TD {P:Program} {w:World} {K:PySem.W.Frag} {es:List Expr} {k} {pos:Pos} (a e it:Addr) (hne:e ≠ it) :
  fJ P w K (.Tuple es k pos) (Ite K a) [e,it] e (fun i h=>∃ old,IsEnum h e it ((i:Nat):Int) old∧h.IsListIter it a i) where
 mem:=by simp
 obj:=fun i h ⟨old,he,hi⟩ b hb=>by
  simp only [List.mem_cons,List.not_mem_nil,or_false] at hb;rcases hb with rfl | rfl
  ·exact ⟨_,he,fun v z=>by
    have z':Data.fields _=Data.cell v:=z;cases z'⟩
  ·obtain ⟨o,q,c,d⟩:=hi;exact ⟨o,q,fun v z=>by rw [d] at z;cases z⟩
 keep:=fun i h h' ⟨old,he,hi⟩ k=>⟨old,k e (by simp) _ he,hi.at fun o q=>k it (by simp) o q⟩
 item:=by
  intro X hP hw hK hc i pins s σ H E I hf ⟨old,he,hi⟩ hg;subst hP hw hK;obtain ⟨xs,x,hq,hx⟩:=hg;obtain ⟨its,rv,p,hz⟩:=I.list hq;obtain ⟨u,hu,ru⟩:=rv.get hx;refine wpAny_pyNext_enum_item he hi p.isList (x:=u) (by simpa using hu) hne fun h1 he1 hi1 ht1 hz1 hk1=>⟨_,rfl,?_⟩
  refine wpAny_letOwnedTupleGo_enum he1 fun h2 he2 hs2=>?_
  replace hs2:Heap.SameBut e h1 h2:=hs2;have hel:e < s.heap.objs.size:=Heap.lt_size he;have hk:∀ b o,b ∉ [e,it]→s.heap.get? b=some o→h2.get? b=some o:=fun b o hb q=>by
   simp only [List.mem_cons,List.not_mem_nil,or_false,not_or] at hb;exact hs2.extBut _ _ hb.1 (hk1 b o hb.1 hb.2 q)
  have I1:Inv X pins σ H { s with heap:=h2,toks:=s.toks + 1 }:=I.turnedL hk hf;have fo:uw X pins H s.heap.objs.size:=I.fpOk (Nat.le_refl _) (I.hok.fresh (Nat.le_refl _));have ht2:h2.get? s.heap.objs.size=some { cls:=.type "tuple",data:=.seq #[.int i s.toks,u] }:=(hs2.2 _ (Nat.ne_of_gt hel)).trans ht1;have I2:=I1.adopt (o:=.tup [.int i,x]) fo ⟨⟨by show 2 ≤ sizeLine;decide,_,ht2,rfl⟩,[.int i s.toks,u],.cons ⟨_,rfl⟩ (.cons ru .nil),⟨_,ht2,rfl,_,rfl⟩⟩;refine ⟨.ref s.heap.objs.size,_,I2,rfl,⟨_,x,fo.1,rfl,fun ys hy=>by rw [I.list_inj hy hq];exact hx,rfl⟩,⟨u,?_,?_⟩,fun b hb=>?_⟩
  ·have e1:((i + 1:Nat):Int)=(i:Int) + 1:=by omega
   rw [e1];exact he2
  ·exact hi1.extBut hs2.extBut (Ne.symm hne)
  ·have hlt:b < s.heap.objs.size:=by
    simp only [List.mem_cons,List.not_mem_nil,or_false] at hb;rcases hb with rfl | rfl
    ·exact hel
    ·obtain ⟨o,q,_⟩:=hi;exact Heap.lt_size q
   rw [pb (Nat.ne_of_lt hlt)];exact (hf b hb).1
 done:=by
  intro X hP hw hK hc i pins s σ H E I hf ⟨old,he,hi⟩ hg;subst hP hw hK;obtain ⟨xs,hq,hx⟩:=hg;obtain ⟨its,rv,p,hz⟩:=I.list hq;have hl:=rv.length;exact wpAny_pyNext_enum_end (I.ok.hd hc) he hi p.isList (by simp;omega) fun h' eb=>⟨rfl,I.turnedL (t':=s.toks) (fun b o hb q=>eb b o (fun z=>hb (by simp [z])) q) hf⟩
 self:=fun _ _ _ _ _ ⟨_,he,_⟩ h=>wpAny_pyIter_enum he h
theorem Ps:bootBuiltins "enumerate"=some (.type "enumerate"):=by decide +kernel
theorem xu:bootBuiltins "reversed"=some (.type "reversed"):=by decide +kernel
noncomputable def Itz (K:PySem.W.Frag) (a b:Addr):It:=
  ⟨fun i H=>∃ xs ys x y,SqL K H a xs∧SqL K H b ys∧xs[i]? = some x∧ys[i]? = some y,
   fun i H v H'=>∃ p x y,H p=none∧v=.ref p∧(∀ xs,SqL K H a xs→xs[i]? = some x)∧(∀ ys,SqL K H b ys→ys[i]? = some y)∧H'=upd H p (.tup [x,y]),
   fun i H=>∃ xs ys,SqL K H a xs∧SqL K H b ys∧(xs.length ≤ i∨ys.length ≤ i)⟩
section
variable {X:Cx}
noncomputable def UL (K:PySem.W.Frag) (ta:TA):TI:=fun σ H R=>ta σ H fun vs H1=>∃ a,vs=[.ref a]∧(∃ xs,SqL K H1 a xs)∧R (Ite K a) H1
theorem oq {es:List Expr} {k} {tpos:Pos} {a:Expr} {ta:TA} {p pos:Pos} (hg:Gl X "enumerate") (hm:X.mg "enumerate"=none) (ha:PA X [a] ta) (hs:starEach [a] X.env=[(false,eval a X.env)]:=by rfl) :
  PI X (.Tuple es k tpos) (.Call (.Name "enumerate" p) [a] [] pos) (UL X.K ta):=by
 intro pins s σ H R I h;refine Call_ (yj I hg hm Ps (PyProof.Rows.callWith_type1 (thn (ha pos pins s σ H _ I h) fun us s1 hZ1=>?_) hs rfl));obtain ⟨vs,H1,I1,r1,q1⟩:=hZ1;obtain ⟨a,e,⟨xs,hq⟩,q⟩:=q1;subst e;cases r1 with
 | cons r rr=>
  cases rr;cases r;obtain ⟨its,rv,pl,hz⟩:=I1.list hq;refine call_enumerate_list pl.isList fun h' hE hI hsz hk=>wpAny_pyIter_enum hE ?_
  refine ⟨s1.heap.objs.size + 1,[s1.heap.objs.size + 1,s1.heap.objs.size],_,_,H1,rfl,I1.kept (t':=s1.toks) hk,TD a _ _ (Nat.succ_ne_self _),⟨_,hE,hI⟩,fun b hb=>?_,q⟩;have hb':s1.heap.objs.size ≤ b:=by
   simp only [List.mem_cons,List.not_mem_nil,or_false] at hb;rcases hb with rfl | rfl
   ·exact Nat.le_succ _
   ·exact Nat.le_refl _
  exact I1.fpOk hb' (I1.hok.fresh hb')
end
theorem Qe {X:Cx} {es:List Expr} {k:Nat} {pos:Pos} {t:TGs} {n:Nat} {K:PySem.W.Frag} (hK:X.K=K) (hc:X.calm=true) (h:PGs X es t)
  (hn:(assignEach es X.env).length=n:=by rfl) (hst:(assignEach es X.env).findIdx? (·.1)=none:=by rfl):PG X (.Tuple es k pos) (NM K n t):=by
 subst hK;exact XL hc h hn hst
section
variable {X:Cx}
noncomputable def AC:V→List V→Hp→VK→Prop:=fun x vs H Q=>∃ l xs i y,x=.ref l∧vs=[.int i,y]∧H l=some (.lst xs)∧0 ≤ i∧i < 2 ^ 62∧i ≤ (xs.length:Int)∧xs.length < sizeLine∧Q .non (upd H l (.lst (xs.take i.toNat ++ y :: xs.drop i.toNat)))
theorem ZC:MtM X "list.insert" AC:=by
 intro pins s σ H x vs v us Q I rx rv h;obtain ⟨l,xs,i,y,rfl,rfl,hH,h0,h1,h2,hz,q⟩:=h;cases rx;cases rv with
 | cons ra rb=>
  cases rb with
  | @cons _ w _ _ rw' rc=>
   cases rc;obtain ⟨t,rfl⟩:=ra;obtain ⟨z,its,n,r,hl,e⟩:=I.lstM hH;refine call_meets F.slot_list_insert ⟨_,e,rfl⟩ F.entry_list_insert (F.args_list_insert_3 _ _ _) (AutoListH.list_insert_list_int_val_1 l its.toArray n i t w (by rw [fitsIndex_both (k:=i) (by omega) (by omega)];decide) (by rw [List.size_toArray];omega)) ⟨e,?_⟩;refine ⟨.non,_,I.lset (its':=its.take i.toNat ++ w :: its.drop i.toNat) hH e ?_ ((r.take i.toNat).append (.cons rw' (r.drop i.toNat))) ?_,rfl,q⟩
   ·have hk:(if i < 0 then (i + ((its.toArray.size:Nat):Int)).toNat else min i.toNat its.toArray.size)=i.toNat:=by
     rw [if_neg (by omega),List.size_toArray];omega
    show (its.toArray.extract 0 (if i < 0 then (i + ((its.toArray.size:Nat):Int)).toNat else min i.toNat its.toArray.size)).push w ++ its.toArray.extract (if i < 0 then (i + ((its.toArray.size:Nat):Int)).toNat else min i.toNat its.toArray.size)=_;rw [hk];apply Array.toList_inj.mp;simp;exact List.take_of_length_le (by rw [List.length_drop];exact Nat.le_refl _)
   ·rw [List.length_append,List.length_cons,List.length_take,List.length_drop];omega
theorem gx {P:Nat→Value→Prop} {f:Nat→V} (hP:∀ i v,P i v→gd (f i) v):∀ (l:List Value) (k:Nat),(∀ j v,l[j]? = some v→P (k + j) v)→Uc ((List.range l.length).map fun i=>f (k + i)) l
 | [],_,_=>.nil
 | v :: r,k,h=>by
  rw [List.length_cons,List.range_succ_eq_map,List.map_cons,List.map_map];refine .cons (hP _ _ (h 0 v rfl)) ?_;have:=gx hP r (k + 1) fun j w hj=>by
   have:=h (j + 1) w (by simpa using hj);rwa [show k + 1 + j=k + (j + 1) by omega]
  have e:(fun i=>f (k + 1 + i))=((fun i=>f (k + i)) ∘ Nat.succ):=funext fun i=>by
   show f (k + 1 + i)=f (k + (i + 1));rw [show k + 1 + i=k + (i + 1) by omega]
  rwa [e] at this
theorem Mt {P:Nat→Value→Prop} {f:Nat→V} (hP:∀ i v,P i v→gd (f i) v) {acc:Array Value} {n:Nat} (h:ItemsOf P acc n):Uc ((List.range n).map f) acc.toList:=by
 have:=gx hP acc.toList 0 fun j v hj=>by
  rw [Nat.zero_add];exact h.2 j v (by rw [← Array.getElem?_toList];exact hj)
 rw [show acc.toList.length=n by rw [Array.length_toList];exact h.1] at this;simpa using this
end
end L2
namespace L2
open PySem PySem.Spec PyProof.Rows
inductive EqH (K:PySem.W.Frag) (H:Hp):Nat→V→V→Bool→Prop
 | flat {k:Nat} {x y:V} (hx:Nj x=true) (hy:Nj y=true):EqH K H k x y (eqV x y)
 | lst {k:Nat} {p q:Addr} {xs ys:List V} {e:Nat→Bool} (hp:SqL K H p xs) (hq:SqL K H q ys) (hl:xs.length=ys.length) (he:∀ (j:Nat) (x y:V),xs[j]? = some x→ys[j]? = some y→EqH K H k x y (e j)):EqH K H (k + 1) (.ref p) (.ref q) ((List.range xs.length).all e)
 | lstN {k:Nat} {p q:Addr} {xs ys:List V} (hp:SqL K H p xs) (hq:SqL K H q ys) (hl:xs.length ≠ ys.length):EqH K H (k + 1) (.ref p) (.ref q) false
 | tup {k:Nat} {p q:Addr} {xs ys:List V} {e:Nat→Bool} (hp:SqT K H p xs) (hq:SqT K H q ys) (he:∀ (j:Nat) (x y:V),xs[j]? = some x→ys[j]? = some y→EqH K H k x y (e j)):EqH K H (k + 1) (.ref p) (.ref q) ((List.range (min xs.length ys.length)).all e && xs.length == ys.length)
theorem VG {x:V} (h:Nj x=true):eqV x x=true:=by
 cases x <;> first | rfl | (simp [eqV];done) | cases h
theorem du {n:Nat} {e:Nat→Bool} (h:∀ j,j < n→e j=true):(List.range n).all e=true:=by
 rw [List.all_eq_true];exact fun j hj=>h j (List.mem_range.mp hj)
section
variable {X:Cx} {pins:List (Addr × Obj)} {σ:St} {H:Hp} {s:Shared}
theorem EqH.self (I:Inv X pins σ H s) {k:Nat} {x y:V} {b:Bool} (h:EqH X.K H k x y b) (e:x=y):b=true:=by
 induction h with
 | flat hx hy=>subst e;exact VG hx
 | @lst k p q xs ys f hp hq hl he ih=>
  injection e with e;subst e;have:=I.list_inj hp hq;subst this;refine du fun j hj=>?_
  exact ih j xs[j] xs[j] (List.getElem?_eq_getElem hj) (List.getElem?_eq_getElem hj) rfl
 | lstN hp hq hl=>
  injection e with e;subst e;have:=I.list_inj hp hq;subst this;exact absurd rfl hl
 | @tup k p q xs ys f hp hq he ih=>
  injection e with e;subst e;have:=I.tuple_inj hp hq;subst this;rw [Bool.and_eq_true];refine ⟨du fun j hj=>?_,by simp⟩;have hj':j < xs.length:=by omega
  exact ih j xs[j] xs[j] (List.getElem?_eq_getElem hj') (List.getElem?_eq_getElem hj') rfl
theorem tj (A:Around):A.in1.units=A.units + 1:=rfl
theorem zH (I:Inv X pins σ H s) {k:Nat} {x y:V} {b:Bool} (h:EqH X.K H k x y b):∀ (A:Around) (v u:Value),A.units + k < cLine→gd x v→gd y u →
  SeqAt.EqAt A s v u b∧(∀ p q,x=.ref p→y=.ref q→SeqAt.RcAt A s v u b):=by
 induction h with
 | flat hx hy=>
  intro A v u hu rx ry;refine ⟨qI rx ry hx hy,fun p q e _=>?_⟩;subst e;cases hx
 | @lst k p q xs ys f hp hq hl he ih=>
  intro A v u hu rx ry;cases rx;cases ry;obtain ⟨its,r,pl,hz⟩:=I.list hp;obtain ⟨jts,r',pl',hz'⟩:=I.list hq;have l1:=r.length;have l2:=r'.length;have rc:SeqAt.RcAt A s (.ref p) (.ref q) ((List.range xs.length).all f):=by
   have:=SeqAt.RcAt.lists (A:=A) (e:=f) pl.isList pl'.isList (by simp only [List.size_toArray];omega) (by omega) fun j h1 h2=>by
    simp only [List.size_toArray] at h1 h2;have hj:j < xs.length:=by omega
    have hj':j < ys.length:=by omega
    obtain ⟨a,ha,ra⟩:=r.get (List.getElem?_eq_getElem hj);obtain ⟨c,hc,rc⟩:=r'.get (List.getElem?_eq_getElem hj');have ea:its.toArray[j]=a:=by
     have:=List.getElem?_eq_getElem h1;rw [ha] at this;simpa using (Option.some.inj this).symm
    have ec:jts.toArray[j]=c:=by
     have:=List.getElem?_eq_getElem h2;rw [hc] at this;simpa using (Option.some.inj this).symm
    rw [ea,ec];exact (ih j _ _ (List.getElem?_eq_getElem hj) (List.getElem?_eq_getElem hj') A.in1 a c (by rw [tj];omega) ra rc).1
   rwa [List.size_toArray,← l1] at this
  refine ⟨?_,fun _ _ _ _=>rc⟩;by_cases hne:p=q
  ·have hb:=(EqH.lst hp hq hl he).self I (congrArg V.ref hne);rw [hb,hne];exact SeqAt.EqAt.same _
  ·exact SeqAt.EqAt.of_refs hne rc
 | @lstN k p q xs ys hp hq hl=>
  intro A v u hu rx ry;cases rx;cases ry;obtain ⟨its,r,pl,hz⟩:=I.list hp;obtain ⟨jts,r',pl',hz'⟩:=I.list hq;have l1:=r.length;have l2:=r'.length;have rc:SeqAt.RcAt A s (.ref p) (.ref q) false:=SeqAt.RcAt.lists_lengths pl.isList pl'.isList (by simp only [List.size_toArray,bne_iff_ne,ne_eq];omega) (by omega);refine ⟨SeqAt.EqAt.of_refs (fun e=>hl ?_) rc,fun _ _ _ _=>rc⟩;subst e;rw [I.list_inj hp hq]
 | @tup k p q xs ys f hp hq he ih=>
  intro A v u hu rx ry;cases rx;cases ry;obtain ⟨its,r,pl,hz⟩:=I.tuple hp;obtain ⟨jts,r',pl',hz'⟩:=I.tuple hq;have l1:=r.length;have l2:=r'.length;have rc:SeqAt.RcAt A s (.ref p) (.ref q) ((List.range (min xs.length ys.length)).all f && xs.length == ys.length):=by
   have:=SeqAt.RcAt.tuples (A:=A) (e:=f) pl pl' (by omega) fun j h1 h2=>by
    simp only [List.size_toArray] at h1 h2;have hj:j < xs.length:=by omega
    have hj':j < ys.length:=by omega
    obtain ⟨a,ha,ra⟩:=r.get (List.getElem?_eq_getElem hj);obtain ⟨c,hc,rc⟩:=r'.get (List.getElem?_eq_getElem hj');have ea:its.toArray[j]=a:=by
     have:=List.getElem?_eq_getElem h1;rw [ha] at this;simpa using (Option.some.inj this).symm
    have ec:jts.toArray[j]=c:=by
     have:=List.getElem?_eq_getElem h2;rw [hc] at this;simpa using (Option.some.inj this).symm
    rw [ea,ec];exact (ih j _ _ (List.getElem?_eq_getElem hj) (List.getElem?_eq_getElem hj') A.in1 a c (by rw [tj];omega) ra rc).1
   rwa [List.size_toArray,List.size_toArray,← l1,← l2] at this
  refine ⟨?_,fun _ _ _ _=>rc⟩;by_cases hne:p=q
  ·have hb:=(EqH.tup hp hq he).self I (congrArg V.ref hne);rw [hb,hne];exact SeqAt.EqAt.same _
  ·exact SeqAt.EqAt.of_refs hne rc
end
section
variable {X:Cx} {pins:List (Addr × Obj)} {σ:St} {H:Hp} {s:Shared}
theorem Jw (I:Inv X pins σ H s) {k:Nat} {A:Around} {xs ys:List V} {its jts:List Value} {f:Nat→Bool} (hu:A.units + k < cLine) (r:Uc xs its) (r':Uc ys jts)
  (he:∀ (j:Nat) (x y:V),xs[j]? = some x→ys[j]? = some y→EqH X.K H k x y (f j)):∀ j (h1:j < its.toArray.size) (h2:j < jts.toArray.size),SeqAt.EqAt A s its.toArray[j] jts.toArray[j] (f j):=fun j h1 h2=>by
 simp only [List.size_toArray] at h1 h2;have l1:=r.length;have l2:=r'.length;have hj:j < xs.length:=by omega
 have hj':j < ys.length:=by omega
 obtain ⟨a,ha,ra⟩:=r.get (List.getElem?_eq_getElem hj);obtain ⟨c,hc,rc⟩:=r'.get (List.getElem?_eq_getElem hj');have ea:its.toArray[j]=a:=by
  have:=List.getElem?_eq_getElem h1;rw [ha] at this;simpa using (Option.some.inj this).symm
 have ec:jts.toArray[j]=c:=by
  have:=List.getElem?_eq_getElem h2;rw [hc] at this;simpa using (Option.some.inj this).symm
 rw [ea,ec];exact (zH I (he j _ _ (List.getElem?_eq_getElem hj) (List.getElem?_eq_getElem hj')) A a c hu ra rc).1
theorem EL (I:Inv X pins σ H s) {k:Nat} {p q:Addr} {b:Bool} (h:EqH X.K H k (.ref p) (.ref q) b) (A:Around) (hu:A.units + k < cLine):SeqAt.RcNeAt A s (.ref p) (.ref q) (!b):=by
 cases h with
 | flat hx hy=>cases hx
 | @lst k _ _ xs ys f hp hq hl he=>
  obtain ⟨its,r,pl,hz⟩:=I.list hp;obtain ⟨jts,r',pl',hz'⟩:=I.list hq;have l1:=r.length;have l2:=r'.length;have:=SeqAt.RcNeAt.lists (A:=A) (e:=f) pl.isList pl'.isList (by simp only [List.size_toArray];omega) (by omega) (Jw I (A:=A.in1) (k:=k) (by rw [tj];omega) r r' he);rwa [List.size_toArray,← l1] at this
 | @lstN k _ _ xs ys hp hq hl=>
  obtain ⟨its,r,pl,hz⟩:=I.list hp;obtain ⟨jts,r',pl',hz'⟩:=I.list hq;have l1:=r.length;have l2:=r'.length;exact SeqAt.RcNeAt.lists_lengths pl.isList pl'.isList (by simp only [List.size_toArray,bne_iff_ne,ne_eq];omega) (by omega)
 | @tup k _ _ xs ys f hp hq he=>
  obtain ⟨its,r,pl,hz⟩:=I.tuple hp;obtain ⟨jts,r',pl',hz'⟩:=I.tuple hq;have l1:=r.length;have l2:=r'.length;have:=SeqAt.RcNeAt.tuples (A:=A) (e:=f) pl pl' (by omega) (Jw I (A:=A.in1) (k:=k) (by rw [tj];omega) r r' he);rwa [List.size_toArray,List.size_toArray,← l1,← l2] at this
end
section
variable {X:Cx}
noncomputable def QO (K:PySem.W.Frag):R2:=fun x y H Q=>∃ p q b,x=.ref p∧y=.ref q∧EqH K H 8 (.ref p) (.ref q) b∧Q (.bl (!b)) H
theorem HM (hU:X.A.units + 64 < cLine):OpR X (compareOp .NotEq) (QO X.K):=by
 intro pins s σ H x y v u Q I rx ry h;obtain ⟨p,q,b,rfl,rfl,hE,q'⟩:=h;cases rx;cases ry;exact EL I hE X.A (by omega) _ _ _ _ ⟨.bl (!b),H,I,rfl,q'⟩
end
theorem EqH.mono {K:PySem.W.Frag} {H:Hp} {j k:Nat} {x y:V} {b:Bool} (h:EqH K H j x y b):j ≤ k→EqH K H k x y b:=by
 induction h generalizing k with
 | flat hx hy=>exact fun _=>.flat hx hy
 | lst hp hq hl he ih=>
  intro hk;obtain ⟨m,rfl⟩:∃ m,k=m + 1:=⟨k - 1,by omega⟩;exact .lst hp hq hl fun j x y h1 h2=>ih j x y h1 h2 (by omega)
 | lstN hp hq hl=>
  intro hk;obtain ⟨m,rfl⟩:∃ m,k=m + 1:=⟨k - 1,by omega⟩;exact .lstN hp hq hl
 | tup hp hq he ih=>
  intro hk;obtain ⟨m,rfl⟩:∃ m,k=m + 1:=⟨k - 1,by omega⟩;exact .tup hp hq fun j x y h1 h2=>ih j x y h1 h2 (by omega)
noncomputable def NN:V→V→Bool
 | .int _,.int _=>true
 | .str _,.str _=>true
 | .bl _,.bl _=>true
 | .non,.non=>true
 | _,_=>false
theorem Ux {x y:V} (h:NN x y=true):Nj x=true∧Nj y=true∧eqV x y=decide (x=y):=by
 cases x <;> cases y <;> first | (exfalso;simp [NN] at h;done) | (refine ⟨rfl,rfl,?_⟩;rfl) | (refine ⟨rfl,rfl,?_⟩;rw [Bool.eq_iff_iff];simp [eqV];done)
theorem EqH.flats {K:PySem.W.Frag} {H:Hp} {k:Nat} {p q:Addr} {xs ys:List V} (hp:SqL K H p xs) (hq:SqL K H q ys) (h:∀ x ∈ xs,∀ y ∈ ys,NN x y=true):EqH K H (k + 1) (.ref p) (.ref q) (decide (xs=ys)):=by
 by_cases hl:xs.length=ys.length
 ·have hd:decide (xs=ys)=(List.range xs.length).all fun j=>eqV (xs.getD j .non) (ys.getD j .non):=by
   rw [Bool.eq_iff_iff,decide_eq_true_eq,List.all_eq_true];constructor
   ·rintro rfl j hj;have hj':=List.mem_range.mp hj;have hm:xs.getD j .non ∈ xs:=by rw [List.getD_eq_getElem?_getD,List.getElem?_eq_getElem hj'];exact List.getElem_mem hj'
    rw [(Ux (h _ hm _ hm)).2.2,decide_eq_true rfl]
   ·intro z;refine List.ext_getElem hl fun j h1 h2=>?_
    have:=z j (List.mem_range.mpr h1);rw [List.getD_eq_getElem?_getD,List.getD_eq_getElem?_getD,List.getElem?_eq_getElem h1,List.getElem?_eq_getElem h2] at this;have w:eqV xs[j] ys[j]=true:=this;rw [(Ux (h _ (List.getElem_mem h1) _ (List.getElem_mem h2))).2.2,decide_eq_true_eq] at w;exact w
  rw [hd];refine .lst hp hq hl fun j x y h1 h2=>?_
  have e:=Ux (h x (List.mem_of_getElem? h1) y (List.mem_of_getElem? h2));rw [List.getD_eq_getElem?_getD,List.getD_eq_getElem?_getD,h1,h2];exact .flat e.1 e.2.1
 ·rw [decide_eq_false (fun z=>hl (by rw [z]))];exact .lstN hp hq hl
end L2
namespace L2
open PySem PySem.Spec PyProof.Rows PySem.Builtin PySem.Builtin.ObjectAttr
noncomputable abbrev bmV:List Value:=[.type "ValueError",.type "Exception",.type "BaseException",.type "object"]
noncomputable def hJ (K:PySem.W.Frag) (C fI:Addr):Bool:=
 match K.lookup C with
 | some ⟨.type "type",_,.cls cd,sl⟩=>
  match cd.mro,sl.toList with
  | .ref D :: tl,[_,_,_,_,some (.builtin n),_]=>
   (D == C) && (n == "ValueError.__new__") && (cd.hasDel == false) && (cd.hasDict == true) && PySem.W.tailIn K bmV tl && PySem.W.nsOkIn K cd.ns && (PySem.W.nsIn K cd.ns "__init__" == some (some (.ref fI)))
  | _,_=>false
 | _=>false
section
variable {P:Program} {w:World} {A:Around} {h:Heap} {g:Array GenState} {d:Drawn} {t:Nat} {os:OsState} {K:PySem.W.Frag} {C fI:Addr} {R:Result→Shared→Prop}
end
noncomputable def aL:List Value→Bool
 | .ref _ :: r=>aL r
 | l=>l == bmV
structure xP (K:PySem.W.Frag) (C:Addr):Prop where
 hd:PySem.W.hasDictIn K C=true
 ov:((PySem.W.clsIn K C).any fun cd=>aL cd.mro)=true
 sa:PySem.W.findIn K (.ref C) "__setattr__"=some (some (.builtin "object.__setattr__"))
 ga:PySem.W.findIn K (.ref C) "__getattribute__"=some (some (.builtin "BaseException.__getattribute__"))
 gt:PySem.W.findIn K (.ref C) "__getattr__"=some none
 ex:∃ fI,hJ K C fI=true
noncomputable def XF (x C:Addr) (od:Option Addr):Heap→Prop:=fun h=>∃ vs sl,h.get? x=some ⟨.ref C,od,.fields vs,sl⟩∧1 < vs.size∧vs[1]? = some .none
noncomputable def XD (dx:Addr) (fs:List (Str × V)):Heap→Prop:=fun h=>∃ mA,h.Ns1 dx mA∧(∀ f,Gu (fs.lookup f) (mA f))∧PySem.Within mA (fs.map (·.1))
theorem XF.at {x C:Addr} {od:Option Addr} {h h':Heap} (z:XF x C od h) (k:∀ o,h.get? x=some o→h'.get? x=some o):XF x C od h':=let ⟨vs,sl,e,r⟩:=z;⟨vs,sl,k _ e,r⟩
theorem XD.at {dx:Addr} {fs:List (Str × V)} {h h':Heap} (z:XD dx fs h) (k:∀ o,h.get? dx=some o→h'.get? dx=some o):XD dx fs h':=let ⟨mA,e,r⟩:=z;⟨mA,e.at k,r⟩
theorem XF.ok {P:Program} {w:World} {H:Hp} {h:Heap} {x C:Addr} {od:Option Addr} (z:XF x C od h):qd P w H h x (.ext (XF x C od)):=by
 obtain ⟨vs,sl,e,r⟩:=id z;exact ⟨z,⟨_,e⟩,fun h1 h2 q k=>q.at k⟩
theorem XD.ok {P:Program} {w:World} {H:Hp} {h:Heap} {dx:Addr} {fs:List (Str × V)} (z:XD dx fs h):qd P w H h dx (.ext (XD dx fs)):=by
 obtain ⟨mA,⟨o,es,ep,e,_⟩,_⟩:=id z;exact ⟨z,⟨_,e⟩,fun h1 h2 q k=>q.at k⟩
section
variable {prog:Program} {w:World} {A:Around} {E:Value→Shared→Prop} {K:PySem.W.Frag} {C x:Addr} {s:Shared} {R:Result→Shared→Prop}
end
section
variable {X:Cx} {pins:List (Addr × Obj)} {σ:St} {H:Hp} {s:Shared} {x C dx:Addr} {fs:List (Str × V)} {f:Str} {y:V} {u:Value} {A:Around} {E:Value→Shared→Prop} {Q:Unit→Shared→Prop}
noncomputable def XA (x C:Addr) (od:Option Addr):Heap→Prop:=fun h=>∃ vs sl,h.get? x=some ⟨.ref C,od,.fields vs,sl⟩
theorem XA.at {x C:Addr} {od:Option Addr} {h h':Heap} (z:XA x C od h) (k:∀ o,h.get? x=some o→h'.get? x=some o):XA x C od h':=let ⟨vs,sl,e⟩:=z;⟨vs,sl,k _ e⟩
theorem XA.ok {P:Program} {w:World} {H:Hp} {h:Heap} {x C:Addr} {od:Option Addr} (z:XA x C od h):qd P w H h x (.ext (XA x C od)):=by
 obtain ⟨vs,sl,e⟩:=id z;exact ⟨z,⟨_,e⟩,fun h1 h2 q k=>q.at k⟩
end
noncomputable abbrev TJ:=St→Hp→(Hp→Prop)→Prop
section
variable {X:Cx} {e:Expr} {es:List Expr} {n:Nat} {t:TJ} {te:TE} {pos:Pos}
end
structure MP (K:PySem.W.Frag) (L:Addr) (m:Str):Prop where
 rd:PySem.W.readsIn K L (.type "type")=true
 fd:PySem.W.findCls K (.ref L) (.type "type") m=some (.val (.builtin "ValueError.__init__"))
 ga:PySem.W.specialIn K (.ref L) "__getattribute__"=some (some (.builtin "type.__getattribute__"))
section
variable {X:Cx} {L:Addr} {x:Str} {p pos apos:Pos} {e:Expr} {es:List Expr} {t:TA}
end
structure MkX (K:PySem.W.Frag) (C fI:Addr):Prop where
 e:hJ K C fI=true
 fn:PySem.W.typeIn K (.ref fI)=some (.type "function")
 kp:PySem.W.keepIn K (.ref C)=true
section
variable {X:Cx} {k:Nat} {f C:Addr} {fd:FuncData} {ps:List Str} {sp:Sp} {x g:Str} {p pos pos' apos:Pos} {e o value:Expr} {es:List Expr} {ta tv:TE} {t:TA}
end
end L2
namespace L2
open PySem PySem.Spec PyProof.Rows PySem.Builtin PySem.Builtin.ObjectAttr
noncomputable def FlA (x C:Addr) (od:Option Addr) (T:Addr) (fl:Value) (h:Heap):Prop:=
 T ≠ x∧∃ vs sl oT ts,h.get? x=some ⟨.ref C,od,.fields vs,sl⟩∧vs[1]? = some (.ref T)∧h.get? T=some oT∧oT.data=.fields ts∧ts[3]? = some fl
structure Kp (fs:List Addr) (x:Addr) (To:Option Addr) (h h':Heap):Prop where
 keep:∀ b o,h.get? b=some o→b ∉ fs→b ≠ x→some b ≠ To→h'.get? b=some o
 slot:∀ b o,h.get? b=some o→b ∈ fs→∃ sl,h'.get? b=some { o with slots:=sl }
 there:∀ b o,h.get? b=some o→∃ o',h'.get? b=some o'
section
variable {M:Model} {A:Around} {E:Value→Shared→Prop} {s:Shared}
theorem nofr {base h:Heap} {l:List Env} {b:Addr} {o:Obj} {vs:Array Value} (hl:h.FunFrames base l) (e:h.get? b=some o) (d:o.data=.fields vs):b ∉ frs l:=fun hm=>by
 obtain ⟨_,o',e',nf⟩:=hl.mem hm;rw [e] at e';cases e';exact nf vs d
end
section
variable {P:Program} {w:World} {H:Hp} {h h':Heap} {fs:List Addr} {x C T:Addr} {od:Option Addr} {fl:Value} {To:Option Addr} {o:HO}
theorem Kp.hok (k:Kp fs x To h h') (ok:HOk P w H h) (hfs:∀ b ∈ fs,H b=none) (hT:∀ t,To=some t→H t=none) (mu:Mut (H x)) (new:XA x C od h'):HOk P w (upd H x (.ext (XA x C od))) h':=fun b u q=>by
 have nown:∀ c y,H c=some (.own y)→c ≠ x:=fun c y r z=>by subst z;rw [r] at mu;exact mu
 have ntup:∀ c xs,H c=some (.tup xs)→c ≠ x:=fun c xs r z=>by subst z;rw [r] at mu;exact mu
 have kk:∀ c v,c ≠ x→H c ≠ none→h.get? c=some v→h'.get? c=some v:=fun c v n1 n2 r=>k.keep c v r (fun z=>n2 (hfs c z)) n1 fun z=>n2 (hT c z.symm)
 by_cases hb:b=x
 ·subst hb;rw [db] at q;cases q;exact new.ok
 ·rw [pb hb] at q;refine (ok b u q).stay (fun c v hc r=>?_) (fun c r=>by rw [pb (nown c b r)];exact r) fun c xs r=>by rw [pb (ntup c xs r)];exact r
  rcases hc with rfl | hc
  ·exact kk c v hb (by rw [q];exact fun z=>by cases z) r
  ·exact kk c v (nown c b hc) (by rw [hc];exact fun z=>by cases z) r
theorem Kp.un (k:Kp fs x To h h') (hT:∀ t,To=some t→H t=none) (mu:Mut (H x)):Un fs To.toList H (upd H x o) h h':=by
 have hx:∀ b,H b=none→b ≠ x:=fun b n z=>by subst z;rw [n] at mu;exact mu
 have hm:∀ b u,H b=some u→¬ Mut (some u)→b ≠ x:=fun b u q nm z=>by subst z;rw [q] at mu;exact nm mu
 refine ⟨fun b u q n n1 n2=>k.keep b u q n1 (hx b n) fun z=>n2 (by rw [← z];simp),fun b u q n n1 n2=>k.slot b u q n1,fun b u q n _=>by rw [pb (hx b n)];exact n,fun b u q _=>k.there b u q,
  fun b xs q=>by rw [pb (hm b _ q fun z=>z)];exact q,fun b u xs q=>by rw [pb (hm b _ q fun z=>z)];exact q,fun b ps q=>⟨#[],by rw [pb (hm b _ q fun z=>z),q];simp⟩⟩
end
noncomputable def CX1 (P:Program) (w:World):CXT:=fun outer H s E e s'=>
 ∃ x C od H' T,e=.ref x∧s'.os=s.os∧AllBare s'.gens∧Un (frs outer) [] H H' s.heap s'.heap∧HOk P w H' s'.heap∧H' x=some (.ext (XA x C od))∧s.heap.objs.size ≤ T∧H' T=none∧FlA x C od T .none s'.heap∧E (.ref C) od H'
structure Fr1 (X:Cx):Prop where
 st:X.stack=X.env :: X.outer
 fr:X.env.frame=some X.env.locals
noncomputable def qP (X:Cx) (pins:List (Addr × Obj)) (T:Addr):Prop:=(T ∈ X.ex∨X.s₀.heap.objs.size ≤ T)∧T ≠ X.env.locals∧(∀ x c,X.env.cells.lookup x=some c→c ≠ T)∧∀ p ∈ X.pn ++ pins,p.1 ≠ T
section
variable {X:Cx} {pins:List (Addr × Obj)} {σ:St} {H:Hp} {s:Shared} {T x C:Addr} {od:Option Addr} {E:St→XK} {M:Model} {A:Around} {E':Value→Shared→Prop} {Q:Unit→Shared→Prop} {e fl:Value} {h':Heap}
end
section
variable {P:Program} {w:World} {K:PySem.W.Frag} {mg:Str→Option Value} {base:Heap} {N:List Str} {qual:Str} {scope:Scope} {f:Addr} {cd:Value} {A:Around} {outer:List Env} {s:Shared} {H:Hp} {E:XK}
end
section
variable {X:Cx} {CX:CXT} {k:Nat} {f C:Addr} {fd:FuncData} {ps:List Str} {sp:Sp} {dvs:List V} {ds:List Value} {E:St→XK} {x m:Str} {p pos apos:Pos} {e o:Expr} {es:List Expr} {ta:TE} {t:TA}
end
noncomputable abbrev Cx.tr (X:Cx) (pn:List (Addr × Obj)) (E:Value→Shared→Prop):Cx:={ X with pn:=X.pn ++ pn,xe:=E }
noncomputable abbrev Cx.hn (X:Cx) (e:Value):Cx:={ X with A:=X.A.mark (some e),calm:=false,xe:=fun _ _=>False }
section
variable {X:Cx} {pins pins':List (Addr × Obj)} {σ:St} {H:Hp} {s:Shared} {E:Value→Shared→Prop} {e:Value}
theorem Cx.Ok.tr (ok:X.Ok) (pn:List (Addr × Obj)) (E:Value→Shared→Prop):(X.tr pn E).Ok:=
 ⟨ok.mod,ok.kind,ok.glob,ok.blt,ok.above,ok.inj,ok.has,ok.cab,ok.hd,ok.frames,ok.stk,ok.exf,ok.bs,ok.bsz,ok.noex,ok.exfs,ok.funs,ok.frf⟩
theorem Cx.Ok.hn (ok:X.Ok) (e:Value):(X.hn e).Ok:=
 ⟨ok.mod,ok.kind,ok.glob,ok.blt,ok.above,ok.inj,ok.has,ok.cab,(fun z=>Bool.noConfusion z),ok.frames,ok.stk,ok.exf,ok.bs,ok.bsz,ok.noex,ok.exfs,ok.funs,ok.frf⟩
theorem Inv.tr (I:Inv X pins σ H s) (E:Value→Shared→Prop):Inv (X.tr pins E) [] σ H s:=⟨I.ok.tr pins E,I.os,I.bare,I.base,I.loc,I.cell,I.free,I.freeC,fun p hp=>I.pin p (by simpa using hp),I.hok,I.len⟩
theorem Inv.hn (I:Inv X pins σ H s) (e:Value):Inv (X.hn e) pins σ H s:=⟨I.ok.hn e,I.os,I.bare,I.base,I.loc,I.cell,I.free,I.freeC,I.pin,I.hok,I.len⟩
end
noncomputable def nj.gone (D:nj) (i:Nat):nj:={ nx:=fun σ H=>D.nx (σ.set i none) H,rt:=D.rt,bk:=fun σ H=>D.bk (σ.set i none) H,ct:=fun σ H=>D.ct (σ.set i none) H }
section
variable {X:Cx} {body suite:List Stmt} {b0:Stmt} {x n:Str} {c:Addr} {i:Nat} {tb:(St→XK)→TS} {th:TS} {xp hp pos:Pos}
end
theorem IC (D:nj) (i:Nat) (σ:St) (H:Hp):(D.gone i).nx σ H=D.nx (σ.set i none) H:=rfl
theorem KD (D:nj) (i:Nat) (v:V) (H:Hp):(D.gone i).rt v H=D.rt v H:=rfl
theorem OwnTail.has {h:Heap} {bm tl:List Value} {v:Value} (T:OwnTail h bm tl) (e:bm.contains v=true):tl.contains v=true:=by
 induction T with
 | base=>exact e
 | own _ _ _ _ ih=>rw [List.contains_cons,ih,Bool.or_true]
section
variable {X:Cx} {e:Expr} {te:TE} {pos:Pos} {E:St→XK}
theorem PS.nox {X:Cx} {st:Stmt} {t:TS} (h:PS X.nox st t):PS X st t:=fun pins s σ H D I hw=>
 wpAny_mono (h pins s σ H D (I.wish _) hw) (fun _ _ q=>q.unwish) fun _ _ z=>False.elim z
end
noncomputable def xeB (B:Cx) (E:XK) (e:Value) (s':Shared):Prop:=
 ∃ pins fl σ' H' x C od T,e=.ref x∧Inv B pins σ' H' s'∧H' x=some (.ext (XA x C od))∧H' T=none∧qP B pins T∧B.s₀.heap.objs.size ≤ T∧FlA x C od T fl s'.heap∧E (.ref C) od H'
structure KO (X:Cx) (scope:Scope) (N:List Str) (tg elt:Expr) (ifs:List Expr) (g:TG) (tc:TT) (te:XK→TE):Prop where
 tgt:∀ E C s H fp,PG ((X.block scope C N s H fp).wish (xeB (X.block scope C N s H fp) E)) tg g
 tests:∀ E C s H fp,PTs ((X.block scope C N s H fp).wish (xeB (X.block scope C N s H fp) E)) ifs tc
 elem:∀ E C s H fp,PE ((X.block scope C N s H fp).wish (xeB (X.block scope C N s H fp) E)) elt (te E)
theorem KO.of {X:Cx} {scope:Scope} {N:List Str} {tg elt:Expr} {ifs:List Expr} {g:TG} {tc:TT} {te:XK→TE} (h1:∀ E C s H fp,PG ((X.block scope C N s H fp).wish (xeB (X.block scope C N s H fp) E)) tg g)
  (h2:∀ E C s H fp,∃ t,PTs ((X.block scope C N s H fp).wish (xeB (X.block scope C N s H fp) E)) ifs t∧t=tc) (h3:∀ E C s H fp,∃ t,PE ((X.block scope C N s H fp).wish (xeB (X.block scope C N s H fp) E)) elt t∧t=te E):KO X scope N tg elt ifs g tc te:=
 ⟨h1,fun E C s H fp=>by obtain ⟨t,h,rfl⟩:=h2 E C s H fp;exact h,fun E C s H fp=>by obtain ⟨t,h,e⟩:=h3 E C s H fp;rw [← e];exact h⟩
section
variable {X:Cx} {elt tg iter:Expr} {ifs:List Expr} {scope:Scope} {pos:Pos} {wi:TI} {g:TG} {tc:TT} {te:XK→TE} {N:List Str} {sel:List (Option Nat)}
theorem FlA.but {x C T c:Addr} {od:Option Addr} {fl:Value} {h h':Heap} (z:FlA x C od T fl h) (n1:x ≠ c) (n2:T ≠ c) (k:∀ b,b ≠ c→h'.get? b=h.get? b):FlA x C od T fl h':=by
 obtain ⟨ne,vs,sl,oT,ts,he,h1,hT,hd,h3⟩:=z;exact ⟨ne,vs,sl,oT,ts,(k _ n1).trans he,h1,(k _ n2).trans hT,hd,h3⟩
end
structure gP (K:PySem.W.Frag) (C:Addr):Prop where
 cl:Cls K C
 ha:PySem.W.findIn K (.ref C) "__class__"=some (some (.builtin "object.__class__"))
 hn:PySem.W.specialIn K (.builtin "object.__class__") "__get__"=some (some (.builtin "getset_descriptor.__get__"))
 htk:PySem.W.takesIn K (.builtin "object.__class__")=some true
 hm:PySem.W.mroIn K C (.type "object")=some true
theorem gP.ty {K:PySem.W.Frag} {H:Hp} {C a dx:Addr} {fs:List (Str × V)} (c:gP K C) (e:H a=some (.ins C dx fs)):Tz K H (.ref a) (.ref C):=.ins e c.cl c.ha c.hn c.htk c.hm
end L2
namespace L2
open PySem PySem.Spec PyProof.Rows
noncomputable def Itd (hi:Int) (n:Nat):It:=⟨fun i _=>i < n,fun i H x H'=>H'=H∧x=.int (hi - i),fun i _=>n ≤ i⟩
theorem GC {P:Program} {w:World} {K:PySem.W.Frag} {tg:Expr} (it:Addr) (hi:Int) (n:Nat):fJ P w K tg (Itd hi n) [it] it (fun i h=>IsRangeIter h it (hi + (i:Nat) * (-1)) ((n:Int) - (i:Nat)) (-1)) where
 mem:=by simp
 obj:=fun i h st b hb=>by
  have e:b=it:=by simpa using hb
  subst e;exact ⟨_,st,fun v z=>by
   have z':Data.fields _=Data.cell v:=z;cases z'⟩
 keep:=fun i h h' st k=>k it (by simp) _ st
 item:=by
  intro X hP hw hK hc i pins s σ H E I hf st hg;subst hP hw hK;obtain ⟨f0,f1,f2,f3,f4,f5⟩:=hf it (by simp);have W:=Walks.range (prog:=X.prog) (w:=X.w) (I.ok.hd hc) it hi (-1) n;refine W.item i s _ _ hg st fun v h' tk hv st' kk=>?_
  obtain ⟨t,rfl⟩:=hv;have I1:Inv X pins σ H { s with heap:=h',toks:=tk }:=I.turned (fun b o hb e=>kk b o (by simpa using hb) e) f0 f1 f3 f4 f5;refine ⟨_,rfl,ME (s:={ s with heap:=h',toks:=tk }) (n := "range_iterator") st' rfl rfl (by decide) ⟨.int (hi - i),H,I1,⟨t,?_⟩,⟨rfl,rfl⟩,st',fun b hb=>(hf b hb).1⟩⟩;congr 1;omega
 done:=by
  intro X hP hw hK hc i pins s σ H E I hf st hg;subst hP hw hK;obtain ⟨f0,f1,f2,f3,f4,f5⟩:=hf it (by simp);exact wpAny_pyNext_range_end (I.ok.hd hc) st (by have:n ≤ i:=hg;omega) fun h' eb=>⟨rfl,I.turned (t':=s.toks) (fun b o hb e=>eb b o hb e) f0 f1 f3 f4 f5⟩
 self:=fun _ _ _ _ _ st h=>wpAny_pyIter_rangeiter st h
theorem Tk (a b:Int):Builtin.Range.rangeSize a b (-1)=if b < a then a - b else 0:=by
 unfold Builtin.Range.rangeSize;rw [if_neg (show ¬ (-1:Int) > 0 by decide),show (- -1:Int)=1 by decide,Int.ediv_one];show (if b < a then a - b - 1 + 1 else 0)=_;split <;> omega
theorem lC {a b:Int} (ha:-(2 ^ 62) ≤ a) (ha':a < 2 ^ 62) (hb:-(2 ^ 62) ≤ b) (hb':b < 2 ^ 62):Builtin.Range.small a b (-1)=true:=by
 unfold Builtin.Range.small;rw [Tk];simp only [Builtin.Range.rangeFitsLong,Bool.and_eq_true,Bool.or_eq_true,decide_eq_true_eq,beq_iff_eq,show ¬ (-1:Int) > 0 by decide,if_false];split <;> omega
section
variable {X:Cx} {tg:Expr}
noncomputable def dN (ta:TA):TI:=fun σ H R=>ta σ H fun vs H1=>∃ i j:Int,vs=[.int i,.int j,.int (-1)]∧(-1073741824 ≤ i∧i < 1073741824∧-1073741824 ≤ j∧j < 1073741824)∧R (Itd i (i - j).toNat) H1
theorem VC {a b c:Expr} {ta:TA} {p pos:Pos} (hg:Gl X "range") (hm:X.mg "range"=none) (ha:PA X [a,b,c] ta) (hs:starEach [a,b,c] X.env=[(false,eval a X.env),(false,eval b X.env),(false,eval c X.env)]:=by rfl) (hs2:starEach [b,c] X.env=[(false,eval b X.env),(false,eval c X.env)]:=by rfl) :
  PI X tg (.Call (.Name "range" p) [a,b,c] [] pos) (dN ta):=by
 intro pins s σ H R I h;refine Call_ (yj I hg hm boot_range (PyProof.Rows.callWith_type1 (thn (ha pos pins s σ H _ I h) fun us s1 hZ1=>?_) (by rw [hs,hs2]) (by rw [hs2];rfl)));obtain ⟨vs,H1,I1,r1,q1⟩:=hZ1;obtain ⟨i,j,e,⟨q1,q2,q3,q4⟩,q⟩:=q1;subst e;cases r1 with
 | cons r rr=>
  cases rr with
  | cons r' rr=>
   cases rr with
   | cons r'' rr=>
    cases rr;obtain ⟨t,rfl⟩:=r;obtain ⟨t',rfl⟩:=r';obtain ⟨t'',rfl⟩:=r'';refine call_range_3 (by decide) ?_ (Or.inl (PyProof.noPylong_small (by omega)));refine wpAny_pyIter_range (IsRange.new ..) (lC (by omega) (by omega) (by omega) (by omega)) ?_;have I2:Inv X pins σ H1 { s1 with heap:=s1.heap.push { cls:=.type "range",data:=.fields #[.int i t,.int j t',.int (-1) t''] },toks:=s1.toks }:=I1.kept fun b o e=>Heap.get?_push_of_some _ e
    refine ⟨(s1.heap.push { cls:=.type "range",data:=.fields #[.int i t,.int j t',.int (-1) t''] }).objs.size,[(s1.heap.push { cls:=.type "range",data:=.fields #[.int i t,.int j t',.int (-1) t''] }).objs.size],_,_,H1,rfl,
     I2.kept (t':=s1.toks) fun b o e=>Heap.get?_push_of_some _ e,GC _ i (i - j).toNat,?_,fun b hb=>?_,q⟩
    ·have e1:i + ((0:Nat):Int) * (-1)=i:=by simp
     have e2:(((i - j).toNat:Nat):Int) - ((0:Nat):Int)=Builtin.Range.rangeSize i j (-1):=by rw [Tk];split <;> omega
     show IsRangeIter _ _ (i + ((0:Nat):Int) * (-1)) ((((i - j).toNat:Nat):Int) - ((0:Nat):Int)) (-1);rw [e1,e2];exact Heap.get?_push_size _ rfl
    ·have e:b=(s1.heap.push { cls:=.type "range",data:=.fields #[.int i t,.int j t',.int (-1) t''] }).objs.size:=by simpa using hb
     subst e;exact I2.fpOk (Nat.le_refl _) (I2.hok.fresh (Nat.le_refl _))
end
theorem eB:typeLookup (.type "list_reverseiterator") "__len__"=pure none:=by rw [typeLookup_type,builtinLookup_eq_fast];kernel_rfl
theorem Aw:typeLookup (.type "list_reverseiterator") "__length_hint__"=pure (some (.builtin "list_reverseiterator.__length_hint__")):=by rw [typeLookup_type,builtinLookup_eq_fast];kernel_rfl
section
variable {prog:Program} {w:World} {A:Around} {E:Value→Shared→Prop} {s:Shared} {it l:Addr} {items:Array Value}
theorem QH (hT:s.TypeIs (.ref it) "list_reverseiterator") {Q:Bool→Shared→Prop} (h:Q false s):wpAny (model prog w) A (Builtin.List.listLengthHint (.ref it)) Q E s:=by
 unfold Builtin.List.listLengthHint;refine wpAny_bind (wpAny_specialOf hT eB ?_);show wpAny _ A (specialOf (Value.ref it) (Str.ofString "__length_hint__") >>= _) _ _ _;refine wpAny_bind (wpAny_specialOf hT Aw ?_);generalize hid:("list_reverseiterator.__length_hint__" : String)=id0
 wp_delta
 rw [show splitId id0=some ("list_reverseiterator","__length_hint__") from by subst hid;decide +kernel];subst hid;refine wpAny_bind (wpAny_isInstance (T := "list_reverseiterator") (b:=true) hT (by rw [isSubtype_type];kernel_rfl) ?_);refine wpAny_ite_split (fun hab=>absurd hab (by decide)) (fun _=>?_);refine wpAny_ite_split (fun _=>?_) (fun hab=>absurd (by decide +kernel) hab);refine wpAny_ite_split (fun hab=>absurd hab (by decide +kernel)) (fun _=>?_);exact wpAny_pure h
noncomputable abbrev TL (items:Array Value):Nat→Value→Prop:=fun i v=>items[items.size - 1 - i]? = some v
theorem jB {R:Result→Shared→Prop} (hh:A.handled=none) (hit:s.heap.IsRevIter it l ((items.size:Int) - 1 - ((0:Nat):Int))) (hl:s.heap.IsList l items) (hne:l ≠ it) (S:Addr) (hSi:S ≠ it) (hSl:S ≠ l) (res:Value) (c₀:Nat)
  (hS:s.heap.get? S=some { cls:=.type "list",data:=.seq #[] c₀ }) (hn:items.size ≤ sizeLine)
  (hR:∀ h' tk acc c,(∀ b o,b ≠ S→b ≠ it→s.heap.get? b=some o→h'.get? b=some o)→h'.get? S=some { cls:=.type "list",dict:=none,data:=.seq acc c,slots:=#[] }→ItemsOf (TL items) acc items.size→R (.ok (.ret res)) { s with heap:=h',toks:=tk }) :
  wpAny (model prog w) A.in1 (Builtin.List.listExtendWith (.ref S) (.ref it) res)
   (fun fin s'=>match fin with | .done f=>R (.ok f) s' | .again c'=>c'.quiet=true∧codeAny (model prog w) A c' R s') (fun e s'=>R (.error e) s') s:=by
 unfold Builtin.List.listExtendWith;refine wpAny_bind (wpAny_typeOf hit.typeIs ?_);have h1:Builtin.List.listSameRef (.ref S) (.ref it)=false:=by simp [Builtin.List.listSameRef,hSi]
 have h2:(Value.type "list_reverseiterator" == Value.type "list")=false:=by decide
 have h3:(Value.type "list_reverseiterator" == Value.type "tuple")=false:=by decide
 simp only [h1,h2,h3,Bool.or_false,Bool.false_eq_true,if_false];refine wpAny_bind (wpAny_pyIter_revIter hit ?_);refine wpAny_bind (wpAny_holding (QH hit.typeIs ?_));refine wpAny_ite_split (fun hab=>absurd hab (by decide +kernel)) (fun _=>?_);have W:=Walks.listRev (prog:=prog) (w:=w) (A:=A.in1) hh it l hne items;have hSf:S ∉ [it,l]:=by simp only [List.mem_cons,List.not_mem_nil,or_false,not_or];exact ⟨hSi,hSl⟩
 refine wpAny_pure ⟨plainId_quiet PySem.F.plain_extend_loop _,codeAny_extend_loopS W.toS hn S hSf res items.size 0 s #[] c₀ rfl (Nat.zero_le _) ⟨Nat.zero_le _,hit,hl⟩ hS (ItemsOf.nil _) fun s' acc c hm hS' hacc=>?_⟩;rw [Moved.eq_with hm];refine hR s'.heap s'.toks acc c (fun b o hb hi e=>hm.heap b o (fun hmem=>?_) e) hS' hacc;rcases List.mem_cons.mp hmem with e' | hmem
 ·exact hb e'
 ·exact hi (List.mem_singleton.mp hmem)
theorem Du {Q:Value→Shared→Prop} (hh:A.handled=none) (hit:s.heap.IsRevIter it l ((items.size:Int) - 1 - ((0:Nat):Int))) (hl:s.heap.IsList l items) (hne:l ≠ it) (hn:items.size ≤ sizeLine)
  (hQ:∀ h' tk acc c,(∀ b o,b ≠ it→s.heap.get? b=some o→h'.get? b=some o)→h'.get? s.heap.objs.size=some { cls:=.type "list",dict:=none,data:=.seq acc c,slots:=#[] }→ItemsOf (TL items) acc items.size→Q (.ref s.heap.objs.size) { s with heap:=h',toks:=tk }) :
  wpAny (model prog w) A (call (.type "list") [.ref it]) Q E s:=by
 have li:it < s.heap.objs.size:=by obtain ⟨_,e,_⟩:=hit;exact Heap.lt_size e
 have ll:l < s.heap.objs.size:=by obtain ⟨_,e,_⟩:=hl;exact Heap.lt_size e
 refine callType_codes (Q₁:=fun obj s₁=>obj=.ref s.heap.objs.size∧s₁ = { s with heap:=s.heap.push { cls:=.type "list",data:=.seq #[] } }) PySem.F.called_list (PySem.F.typeCall_list_1 _) PySem.F.entry_list_init
  (code_list_new _ ⟨rfl,rfl⟩) fun obj s₁ h₁=>?_
 obtain ⟨rfl,rfl⟩:=h₁;have hS:(s.heap.push { cls:=.type "list",data:=.seq #[] }).get? s.heap.objs.size=some { cls:=.type "list",data:=.seq #[] }:=Heap.get?_push_size _ rfl;refine ⟨⟨_,hS,rfl⟩,PySem.F.args_list_init_2 _ _,?_⟩;show wpAny _ _ (do let old ← Builtin.List.listItems (.ref s.heap.objs.size);Builtin.List.listUpdate (.ref s.heap.objs.size) (fun _=>#[]);letGo old.toList.reverse;Builtin.List.listExtendWith (.ref s.heap.objs.size) (.ref it) .none) _ _ _;refine wpAny_bind ?_;unfold Builtin.List.listItems;refine wpAny_bind (wpAny_seqItems hS rfl (wpAny_pure ?_));show wpAny _ _ (updateSeq s.heap.objs.size (fun _=>#[]) >>= fun _=>letGo (#[]:Array Value).toList.reverse >>= fun _=>Builtin.List.listExtendWith (.ref s.heap.objs.size) (.ref it) .none) _ _ _;refine wpAny_bind (wpAny_updateSeq hS rfl ?_);have hS₂:=Heap.get?_update_self (Obj.mapSeq (fun _=>(#[]:Array Value))) hS rfl;have oth:∀ b o,s.heap.get? b=some o→((s.heap.push { cls:=.type "list",data:=.seq #[] }).update s.heap.objs.size (Obj.mapSeq (fun _=>(#[]:Array Value)))).get? b=some o:=
  fun b o e=>(Heap.get?_update_other _ _ (Ne.symm (Nat.ne_of_lt (Heap.lt_size e)))).trans (Heap.get?_push_of_some _ e)
 refine wpAny_bind (wpAny_letGo ?_);refine jB (A:=A.in1) hh (hit.at fun o e=>oth _ o e) (hl.at fun o e=>oth _ o e) hne _ (Ne.symm (Nat.ne_of_lt li)) (Ne.symm (Nat.ne_of_lt ll)) .none _ hS₂ hn fun h' tk acc c hk hS' hacc=>?_
 exact ⟨rfl,hQ h' tk acc c (fun b o hb e=>hk b o (Nat.ne_of_lt (Heap.lt_size e)) hb (oth b o e)) hS' hacc⟩
end
section
variable {X:Cx}
noncomputable def iz (K:PySem.W.Frag) (ta:TA):TE:=fun σ H Q=>ta σ H fun vs H1=>∃ a xs,vs=[.ref a]∧SqL K H1 a xs∧∀ l,H1 l=none→Q (.ref l) (upd H1 l (.lst xs.reverse))
theorem Rn {a:Expr} {ta:TA} {p q pos pos':Pos} (hc:X.calm=true) (hg:Gl X "list") (hm:X.mg "list"=none) (hg':Gl X "reversed") (hm':X.mg "reversed"=none) (ha:PA X [a] ta) (hs:starEach [a] X.env=[(false,eval a X.env)]:=by rfl)
  (hs2:starEach [Expr.Call (.Name "reversed" q) [a] [] pos'] X.env=(false,eval (Expr.Call (.Name "reversed" q) [a] [] pos') X.env) :: starEach [] X.env:=by rfl) :
  PE X (.Call (.Name "list" p) [.Call (.Name "reversed" q) [a] [] pos'] [] pos) (iz X.K ta):=by
 intro pins s σ H Q I h;refine wpAny_Call_Name_kw (yj I hg hm Ai ?_);refine PyProof.Rows.callWith_type1 ?_ hs2 rfl;rw [hs2];show wpAny _ _ (spliced ((false,eval (Expr.Call (.Name "reversed" q) [a] [] pos') X.env) :: [])) _ _ s;refine Calls.spliced_cons ?_;refine Call_ (yj I hg' hm' xu (PyProof.Rows.callWith_type1 (thn (ha pos' pins s σ H _ I h) fun us s1 hZ1=>?_) hs rfl));obtain ⟨vs,H1,I1,r1,q1⟩:=hZ1;obtain ⟨a,xs,e,hq,q⟩:=q1;subst e;cases r1 with
 | cons r rr=>
  cases rr;cases r;obtain ⟨its,rv,pl,hz⟩:=I1.list hq;have hl:=rv.length;have hlt:a < s1.heap.objs.size:=by obtain ⟨_,e,_⟩:=pl.isList;exact Heap.lt_size e
  refine call_reversed_list pl.isList ?_;refine Calls.spliced_nil ?_;have hit:(s1.heap.push (revObj a ((its.toArray.size:Int) - 1))).IsRevIter s1.heap.objs.size a ((its.toArray.size:Int) - 1 - ((0:Nat):Int)):=by
   refine ⟨_,Heap.get?_push_size _ rfl,rfl,?_⟩;simp only [revObj];simp
  have kp:∀ b o,s1.heap.get? b=some o→(s1.heap.push (revObj a ((its.toArray.size:Int) - 1))).get? b=some o:=fun b o e=>Heap.get?_push_of_some _ e
  refine Du (I1.ok.hd hc) hit (pl.isList.at fun o e=>kp _ o e) (Nat.ne_of_lt hlt) (by rw [List.size_toArray];omega) fun h' tk acc c hk e' hacc=>?_
  refine ⟨.ref _,_,I1.laid (o:=.lst xs.reverse) (t':=tk) (fun b u e=>hk b u (Nat.ne_of_lt (Heap.lt_size e)) (kp b u e)) (by rw [Heap.size_push];exact Nat.le_succ _) ⟨by rw [List.length_reverse];omega,acc.toList,c,?_,e'⟩,rfl,q _ (I1.hok.fresh (by rw [Heap.size_push];exact Nat.le_succ _))⟩;have hv:=Mt (f:=fun i=>xs.getD (xs.length - 1 - i) .non) (fun i v hv=>by
   have hv':its.toArray[its.toArray.size - 1 - i]? = some v:=hv;rw [List.size_toArray,← hl,List.getElem?_toArray] at hv';have hj:=(List.getElem?_eq_some_iff.mp hv').1;have hx:xs[xs.length - 1 - i]? = some xs[xs.length - 1 - i]:=List.getElem?_eq_getElem (by omega);obtain ⟨w,hw,rw'⟩:=rv.get hx;rw [hv'] at hw;cases hw;rw [List.getD_eq_getElem?_getD,hx];exact rw') hacc
  have er:(List.range its.toArray.size).map (fun i=>xs.getD (xs.length - 1 - i) .non)=xs.reverse:=by
   rw [List.size_toArray,← hl];refine List.ext_getElem (by simp) fun i h1 h2=>?_
   rw [List.getElem_map,List.getElem_range,List.getElem_reverse,List.getD_eq_getElem?_getD,List.getElem?_eq_getElem (by simp at h2;omega)];rfl
  rw [er] at hv;exact hv
end
section
variable {prog:Program} {w:World} {A:Around} {R:Result→Shared→Prop} {I:Addr} {fp wr:List Addr} {n:Nat} {P:Nat→Value→Prop} {St:Nat→Heap→Prop}
noncomputable def mI (P:Nat→Value→Prop) (bt:Nat→Nat→Bool) (j:Nat) (acc:Array Value):Prop:=(j=0∧acc=#[])∨∃ vb i,j=i + 1∧acc=#[vb,vb]∧P (argBest bt i) vb
theorem rC (W:Walks prog w A.in1 I fp wr n P St) (bt:Nat→Nat→Bool) (hcmp:CmpOf prog w A.in1 .Lt P bt) (S:Addr) (hSf:S ∉ fp) (dv:Value) (kn:Str) :
  ∀ (k j:Nat) (s:Shared) (acc:Array Value) (c:Nat),n - j=k→j ≤ n→St j s.heap→mI P bt j acc →
  s.heap.get? S=some { cls:=.type "list",dict:=none,data:=.seq acc c,slots:=#[] } →
  (∀ v h' tk,(n=0∧v=dv)∨(0 < n∧P (argBest bt (n - 1)) v)→(∀ b o,b ∉ wr→b ≠ S→s.heap.get? b=some o→h'.get? b=some o)→R (.ok (.ret v)) { s with heap:=h',toks:=tk }) →
  codeAny (model prog w) A (.builtin "min.loop" ⟨[.ref I,.none,.ref S],[(kn,dv)]⟩) R s:=by
 have hSw:S ∉ wr:=fun h=>hSf (W.sub _ h)
 have hname:(toString "min" ++ toString ".loop" : String) = "min.loop" := by decide
 intro k
 induction k with
 | zero=>
  intro j s acc c hk hj hst hB hS hR;have hin:j=n:=by omega
  refine codeAny_builtin PySem.F.entry_min_loop ?_;rw [Around.under_plainId PySem.F.plain_min_loop _];show wpAny _ A.in1 (seqItems? (.ref S) >>= _) _ _ s;refine wpAny_bind (wpAny_seqItems hS rfl ?_);show wpAny _ A.in1 (tryCatch (pyNext (.ref I)) _ >>= _) _ _ s;refine wpAny_bind (wpAny_tryCatch (W.done s _ _ (hin ▸ hst) fun h' tk hk'=>?_));have hS':=hk' S _ hSw hS;rcases hB with ⟨h0,rfl⟩ | ⟨vb,i,hi,rfl,hP⟩
  ·show wpAny _ A.in1 (rule _ >>= _) _ _ _;refine wpAny_bind (wpAny_rule (wpAny_pure ?_));exact hR dv h' tk (.inl ⟨by omega,rfl⟩) fun b o hbw hbS e=>hk' b o hbw e
  ·show wpAny _ A.in1 (updateSeq S (fun _=>#[]) >>= _) _ _ _;refine wpAny_bind ?_;refine wpAny_updateSeq hS' rfl (wpAny_bind (wpAny_letGo (wpAny_pure ?_)));refine hR vb _ tk (.inr ⟨by omega,by rw [show n - 1=i by omega];exact hP⟩) fun b o hbw hbS e=>(Heap.get?_update_other _ _ (Ne.symm hbS)).trans (hk' b o hbw e)
 | succ k ih=>
  intro j s acc c hk hj hst hB hS hR;have hlt:j < n:=by omega
  refine codeAny_builtin PySem.F.entry_min_loop ?_;rw [Around.under_plainId PySem.F.plain_min_loop _];show wpAny _ A.in1 (seqItems? (.ref S) >>= _) _ _ s;refine wpAny_bind (wpAny_seqItems hS rfl ?_);show wpAny _ A.in1 (tryCatch (pyNext (.ref I)) _ >>= _) _ _ s;refine wpAny_bind (wpAny_tryCatch (W.item j s _ _ hlt hst fun v h' tk hP hst' hk'=>?_));have hS':=hk' S _ hSw hS;have put:∀ h'':Heap,h''=h'.update S (Obj.mapSeq (fun _=>#[v,v]))→St (j + 1) h'':=fun h'' e=>by
   subst e;exact W.frame _ _ _ hst' fun b hbf o e=>(Heap.get?_update_other _ _ (fun h:S=b=>hSf (by rw [h];exact hbf))).trans e
  rcases hB with ⟨h0,rfl⟩ | ⟨vb,i,hi,rfl,hPb⟩
  ·show wpAny _ A.in1 (updateSeq S (fun _=>#[v,v]) >>= _) _ _ _;refine wpAny_bind ?_;refine wpAny_updateSeq hS' rfl ?_;rw [hname];refine wpAny_pure ⟨plainId_quiet PySem.F.plain_min_loop _,ih (j + 1) _ #[v,v] _ (by omega) hlt (put _ rfl) (.inr ⟨v,j,rfl,rfl,by subst h0;exact hP⟩) (Heap.get?_update_self _ hS' rfl) fun v' h'' tk'' hP' hk''=>?_⟩;exact hR v' h'' tk'' hP' fun b o hbw hbS e=>hk'' b o hbw hbS ((Heap.get?_update_other _ _ (Ne.symm hbS)).trans (hk' b o hbw e))
  ·subst hi;show wpAny _ A.in1 (tryCatch (holding [v,v] (richCompare .Lt v vb >>= _)) _ >>= _) _ _ _;refine wpAny_bind (wpAny_tryCatch (wpAny_holding (wpAny_bind (hcmp (i + 1) (argBest bt i) v vb _ _ _ hP hPb ?_))));refine wpAny_bind (wpAny_holding (wpAny_truthy_bool ?_));refine wpAny_bind (wpAny_letGo (wpAny_pure ?_));cases hb:bt (i + 1) (argBest bt i) with
   | true=>
    simp only [if_true];refine wpAny_bind ?_;refine wpAny_updateSeq hS' rfl (wpAny_bind (wpAny_letGo ?_));rw [hname];refine wpAny_pure ⟨plainId_quiet PySem.F.plain_min_loop _,ih (i + 1 + 1) _ #[v,v] _ (by omega) hlt (put _ rfl) (.inr ⟨v,i + 1,rfl,rfl,by simp only [argBest,hb,if_true];exact hP⟩) (Heap.get?_update_self _ hS' rfl) fun v' h'' tk'' hP' hk''=>?_⟩;exact hR v' h'' tk'' hP' fun b o hbw hbS e=>hk'' b o hbw hbS ((Heap.get?_update_other _ _ (Ne.symm hbS)).trans (hk' b o hbw e))
   | false=>
    simp only [Bool.false_eq_true,if_false];refine wpAny_bind (wpAny_letGo ?_);rw [hname];refine wpAny_pure ⟨plainId_quiet PySem.F.plain_min_loop _,ih (i + 1 + 1) _ #[vb,vb] c (by omega) hlt hst' (.inr ⟨vb,i + 1,rfl,rfl,by simp only [argBest,hb,Bool.false_eq_true,if_false];exact hPb⟩) hS' fun v' h'' tk'' hP' hk''=>?_⟩;exact hR v' h'' tk'' hP' fun b o hbw hbS e=>hk'' b o hbw hbS (hk' b o hbw e)
end
section
variable {prog:Program} {w:World} {A:Around} {E:Value→Shared→Prop} {s:Shared}
theorem UE (a d:Value):argsOk "min" ⟨[a],[(Str.ofString "default",d)]⟩:=by unfold argsOk;kernel_rfl
theorem DE {l:Addr} {its:Array Value} {dv:Value} {Q:Value→Shared→Prop} (hh:A.handled=none) (hl:s.heap.IsList l its) (ks:List Int) (hk:its.size=ks.length) (hv:∀ (i:Nat) (v:Value),its[i]? = some v→∃ t,v=Value.int (ks.getD i 0) t)
  (hQ:∀ v h' tk,(ks=[]∧v=dv)∨(∃ m t,ks.min? = some m∧v=.int m t)→(∀ b o,s.heap.get? b=some o→h'.get? b=some o)→Q v { s with heap:=h',toks:=tk }) :
  wpAny (model prog w) A (call (.builtin "min") [.ref l] [(Str.ofString "default",dv)]) Q E s:=by
 have hname:(toString "min" ++ toString ".loop" : String) = "min.loop" := by decide
 have hlt:l < s.heap.objs.size:=by obtain ⟨_,e,_⟩:=hl;exact Heap.lt_size e
 refine wpAny_call (codeAny_call_builtin PySem.F.plain_min PySem.F.entry_min ?_);simp only [checkBuiltinCall,PySem.F.kind_min];have key:wpAny (model prog w) A.in1 (Builtin.«min» ⟨[.ref l],[(Str.ofString "default",dv)]⟩) (fun fin s'=>match fin with
   | .done f=>(match (Except.ok f:Result) with | .ok (.ret v)=>Q v s' | .ok _=>False | .error e=>E e s')
   | .again c'=>c'.quiet=true∧codeAny (model prog w) A c' (fun r s'=>match r with | .ok (.ret v)=>Q v s' | .ok _=>False | .error e=>E e s') s') E s:=by
  show wpAny _ A.in1 (Builtin.Builtins.bindParams "min" ["key","default"] 0 ⟨[],[(Str.ofString "default",dv)]⟩ >>= _) _ _ s;refine wpAny_bind (wpAny_of_eq (show Builtin.Builtins.bindParams "min" ["key","default"] 0 ⟨[],[(Str.ofString "default",dv)]⟩=pure [none,some dv] from rfl) ?_);refine wpAny_bind (wpAny_pure ?_);refine wpAny_bind (wpAny_pyIter_list hl ?_);refine wpAny_bind (wpAny_newObj_type ?_);rw [hname];have W:=Walks.list (prog:=prog) (w:=w) (A:=A.in1) hh s.heap.objs.size l (Nat.ne_of_lt hlt) its;have hz1:(s.heap.push { cls:=.type "list_iterator",data:=.fields #[.ref l,.int 0 0] }).objs.size=s.heap.objs.size + 1:=Heap.size_push ..;refine wpAny_pure ⟨plainId_quiet PySem.F.plain_min_loop _,rC W _ (CmpOf.ints_lt (fun i=>ks.getD i 0) fun i v h=>hv i v h) _ ?_ dv _ its.size 0 _ #[] _ rfl (Nat.zero_le _) ?_ (.inl ⟨rfl,rfl⟩) (Heap.get?_push_size _ rfl) fun v h' tk hP hk'=>?_⟩
  ·show (s.heap.push _).objs.size ∉ _;rw [hz1];simp only [List.mem_cons,List.not_mem_nil,or_false,not_or];exact ⟨Nat.succ_ne_self _,Ne.symm (Nat.ne_of_lt (Nat.lt_succ_of_lt hlt))⟩
  ·exact W.frame 0 (s.heap.push { cls:=.type "list_iterator",data:=.fields #[.ref l,.int 0 0] }) _ ⟨⟨_,Heap.get?_push_size _ rfl,rfl,rfl⟩,hl.push _⟩ fun b _ o e=>Heap.get?_push_of_some _ e
  ·refine hQ v h' tk ?_ fun b o e=>hk' b o (fun hm=>?_) ?_ (Heap.get?_push_of_some _ (Heap.get?_push_of_some _ e))
   ·rcases hP with ⟨h0,h1⟩ | ⟨h0,h1⟩
    ·exact .inl ⟨List.length_eq_zero_iff.mp (by omega),h1⟩
    ·obtain ⟨t,e⟩:=hv _ v h1;have hb:=argBest_lt (fun i=>ks.getD i 0) (its.size - 1);refine .inr ⟨_,t,?_,e⟩;rw [List.min?_eq_some_iff];have hi:argBest (fun i j=>decide (ks.getD i 0 < ks.getD j 0)) (its.size - 1) < ks.length:=by omega
     refine ⟨?_,fun b hb'=>?_⟩
     ·rw [List.getD_eq_getElem?_getD,List.getElem?_eq_getElem hi];exact List.getElem_mem hi
     ·obtain ⟨j,hj,rfl⟩:=List.getElem_of_mem hb';have:=hb.2 j (by omega);rw [List.getD_eq_getElem?_getD (i:=j),List.getElem?_eq_getElem hj] at this;exact this
   ·rw [List.mem_singleton.mp hm] at e;exact absurd (Heap.lt_size e) (Nat.lt_irrefl _)
   ·rw [hz1];exact Nat.ne_of_lt (Nat.lt_succ_of_lt (Heap.lt_size e))
 cases hsig:Manifest.signature? "min" with
 | none=>exact wpAny_pure key
 | some sig=>
  have ha:=UE (.ref l) dv;have ha':Bind.checkArgs "min" sig ⟨[.ref l],[(Str.ofString "default",dv)]⟩=pure ():=by simpa only [argsOk,hsig] using ha
  simp only [ha'];exact wpAny_pure key
end
section
variable {X:Cx}
noncomputable def uL (K:PySem.W.Frag) (ta:TA) (td:TE):TE:=fun σ H Q=>ta σ H fun vs H1=>td σ H1 fun y H2=>∃ l ks,vs=[.ref l]∧SqL K H2 l (List.map V.int ks)∧Q (match ks.min? with | some m=>.int m | none=>y) H2
theorem uJ {a d:Expr} {ta:TA} {td:TE} {p kp pos:Pos} (hc:X.calm=true) (hg:Gl X "min") (hm:X.mg "min"=none) (ha:PA X [a] ta) (hd:PE X d td)
  (he:∀ pos,backTo pos (starEach [a] X.env)=(false,eval a X.env) :: backTo pos (starEach [] X.env):=by intro _;rfl) (hpl:∀ pos,(backTo pos (starEach [a] X.env)).any (·.1)=false:=by intro _;rfl) :
  PE X (.Call (.Name "min" p) [a] [⟨some "default",d,kp⟩] pos) (uL X.K ta td):=by
 intro pins s σ H Q I h;refine wpAny_Call_Name_kw (yj I hg hm (show bootBuiltins "min"=some (.builtin "min") by decide +kernel) ?_);refine callWith_kw (id := "min") (thn (ha pos pins s σ H _ I h) fun us s1 hZ1=>?_) (he:=he pos) (hplain:=hpl pos);obtain ⟨vs,H1,I1,r1,q1⟩:=hZ1;refine kws_cons (thn (hd pins s1 σ H1 _ I1 q1) fun v s2 ⟨y,H2,I2,r2,q2⟩=>kws_nil ?_);obtain ⟨l,ks,rfl,hq,q⟩:=q2;cases r1 with
 | cons r rr=>
  cases rr;cases r;obtain ⟨its,rv,pl,hz⟩:=I2.list hq;have hl:=rv.length;rw [List.length_map] at hl;refine DE (I2.ok.hd hc) pl.isList ks (by rw [List.size_toArray];omega) (fun i v hv=>?_) fun v' h' tk hv' hk=>⟨_,H2,I2.kept hk,?_,q⟩
  ·rw [List.getElem?_toArray] at hv;have hi:i < ks.length:=by have:=(List.getElem?_eq_some_iff.mp hv).1;omega
   obtain ⟨w,hw,rw'⟩:=rv.get (show (ks.map V.int)[i]? = some (.int ks[i]) by rw [List.getElem?_map,List.getElem?_eq_getElem hi];rfl);rw [hv] at hw;cases hw;rw [List.getD_eq_getElem?_getD,List.getElem?_eq_getElem hi];exact rw'
  ·rcases hv' with ⟨rfl,rfl⟩ | ⟨m,t,hm,rfl⟩
   ·exact r2
   ·rw [hm];exact ⟨t,rfl⟩
end
end L2
namespace L2
open PySem PySem.Spec PyProof.Rows
structure JP (K:PySem.W.Frag) (C:Addr):Prop where
 x:xP K C
 ha:PySem.W.findIn K (.ref C) "__class__"=some (some (.builtin "object.__class__"))
 hn:PySem.W.specialIn K (.builtin "object.__class__") "__get__"=some (some (.builtin "getset_descriptor.__get__"))
 htk:PySem.W.takesIn K (.builtin "object.__class__")=some true
 hm:PySem.W.mroIn K C (.type "object")=some true
section
variable {prog:Program} {w:World} {A:Around} {E:Value→Shared→Prop} {s:Shared} {K:PySem.W.Frag} {x C:Addr} {od:Obj} {dx:Addr} {vs:Array Value} {sl:Array (Option Value)}
end
theorem Dw:∀ {cs:List Addr} {us:List Value},Uc (cs.map V.ref) us→us=cs.map Value.ref
 | [],_,.nil=>rfl
 | c :: cs,_,.cons r t=>by
  rw [Dw t];cases (show _=Value.ref c from r);rfl
section
variable {X:Cx}
end
theorem Eb.quiet {P:Program} {w:World} {K:PySem.W.Frag} {mg:Str→Option Value} {base:Heap} {k:Nat} {f:Addr} {fd:FuncData} {ps:List Str} {sp sp':Sp} (F:Eb P w K mg base (CX1 P w) k f fd ps sp)
  (h:∀ vs H Q E,sp' vs H Q E→sp vs H Q (fun _ _ _=>False)):Eb P w K mg base CX0 k f fd ps sp':=by
 refine ⟨fun vs H Q E q=>F.len vs H _ _ (h vs H Q E q),fun A outer s H args us vs Q E hr he hb hv hs=>?_⟩;refine codeAny_mono (F.run A outer s H args us vs Q _ hr he hb hv (h vs H Q E hs)) fun r s' hq=>?_
 cases r with
 | error e=>
  obtain ⟨x,C,od,H',T,_,_,_,_,_,_,_,_,_,z⟩:=hq;exact z.elim
 | ok fl=>cases fl <;> exact hq
end L2
namespace L2
open PySem PySem.Spec PyProof.Rows
structure Ln (k:Nat) (A:Around):Prop where
 dp:A.depth + 3 * k + 5 < recursionLimit
 un:A.units + 16 * k + 200 < cLine
theorem ui.h {k:Nat} {A:Around} (r:ui k A):Ln k A:=⟨r.dp,r.un⟩
theorem Ln.mono {j k:Nat} {A:Around} (r:Ln k A) (h:j ≤ k):Ln j A:=⟨by have:=r.dp;omega,by have:=r.un;omega⟩
theorem Ln.deeper {k:Nat} {A:Around} (r:Ln (k + 1) A) (env:Env):Ln k (A.deeper env):=
 ⟨by have:=r.dp;show A.depth + 1 + 3 * k + 5 < _;omega,by have:=r.un;show A.units + 3 + 16 * k + 200 < _;omega⟩
theorem Ln.depth {k:Nat} {A:Around} (r:Ln k A):A.depth < recursionLimit:=by have:=r.dp;omega
theorem Ln.units {k:Nat} {A:Around} (r:Ln k A):A.units + 64 < cLine:=by have:=r.un;omega
theorem ui.hn {k:Nat} {X:Cx} {e:Value} (r:ui k X.A):Ln k (X.hn e).A:=⟨r.dp,r.un⟩
structure oJ (P:Program) (w:World) (K:PySem.W.Frag) (mg:Str→Option Value) (base:Heap) (CX:CXT) (k:Nat) (f:Addr) (fd:FuncData) (ps:List Str) (sp:Sp):Prop where
 len:∀ vs H Q E,sp vs H Q E→vs.length=ps.length
 run:∀ (A:Around) (outer:List Env) (s:Shared) (H:Hp) (args:Args) (us:List Value) (vs:List V) (Q:VK) (E:XK),Ln k A→qE P w K mg base A outer s H→BindsTo s fd args (ps.zip us)→Uc vs us→sp vs H Q E →
  codeAny (model P w) A (.call (.ref f) args) (CR CX outer P w H s Q E) s
theorem oJ.mono {P:Program} {w:World} {K:PySem.W.Frag} {mg:Str→Option Value} {base:Heap} {CX:CXT} {j k:Nat} {f:Addr} {fd:FuncData} {ps:List Str} {sp:Sp} (F:oJ P w K mg base CX j f fd ps sp) (h:j ≤ k) :
  oJ P w K mg base CX k f fd ps sp:=⟨F.len,fun A outer s H args us vs Q E hr=>F.run A outer s H args us vs Q E (hr.mono h)⟩
section
variable {X:Cx} {CX:CXT} {k:Nat} {f C:Addr} {fd:FuncData} {ps:List Str} {sp:Sp} {dvs:List V} {ds:List Value} {E:XK} {x m:Str} {p pos apos:Pos} {e o:Expr} {es:List Expr} {ta:TE} {t:TA}
end
noncomputable def SN (CX:CXT) (P:Program) (w:World) (K:PySem.W.Frag) (mg:Str→Option Value) (base:Heap) (N:List Str) (qual:Str) (scope:Scope) (f:Addr) (cd:Value) (A:Around) (outer:List Env) (s:Shared) (H:Hp) (E:XK):Cx where
 prog:=P
 w:=w
 K:=K
 mg:=mg
 base:=base
 A:=A.deeper (envOfC qual scope s.heap.objs.size f cd)
 N:=N
 s₀:=s
 H₀:=H
 env:=envOfC qual scope s.heap.objs.size f cd
 outer:=outer
 stack:=envOfC qual scope s.heap.objs.size f cd :: outer
 ex:=[]
 calm:=false
 fn:=fun _=>true
 pn:=[]
 xe:=fun e s'=>wpAny (model P w) (A.deeper (envOfC qual scope s.heap.objs.size f cd)) (leaving (envOfC qual scope s.heap.objs.size f cd) e) (fun _ s''=>CX outer H s E e s'') (fun e' s''=>CX outer H s E e' s'') s'
section
variable {P:Program} {w:World} {K:PySem.W.Frag} {mg:Str→Option Value} {base:Heap}
end
end L2
namespace L2
open PySem PySem.Spec PyProof.Rows
section
variable {X:Cx}
end
end L2
namespace L2
open PySem PySem.Spec PyProof.Rows
section
variable {α:Type} {M:List α→Prop}
theorem us1 (h:∀ a,M [a]):∀ us:List α,us.length=1→M us | [a],_=>h a
theorem us2 (h:∀ a b,M [a,b]):∀ us:List α,us.length=2→M us | [a,b],_=>h a b
theorem us3 (h:∀ a b c,M [a,b,c]):∀ us:List α,us.length=3→M us | [a,b,c],_=>h a b c
theorem us4 (h:∀ a b c d,M [a,b,c,d]):∀ us:List α,us.length=4→M us | [a,b,c,d],_=>h a b c d
theorem us5 (h:∀ a b c d e,M [a,b,c,d,e]):∀ us:List α,us.length=5→M us | [a,b,c,d,e],_=>h a b c d e
theorem us7 (h:∀ a b c d e f g,M [a,b,c,d,e,f,g]):∀ us:List α,us.length=7→M us | [a,b,c,d,e,f,g],_=>h a b c d e f g
theorem us8 (h:∀ a b c d e f g i,M [a,b,c,d,e,f,g,i]):∀ us:List α,us.length=8→M us | [a,b,c,d,e,f,g,i],_=>h a b c d e f g i
end
structure XB (K:PySem.W.Frag) (C:Addr):Prop where
 hd:PySem.W.hasDictIn K C=true
 ov:((PySem.W.clsIn K C).any fun cd=>aL cd.mro)=true
 sa:PySem.W.findIn K (.ref C) "__setattr__"=some (some (.builtin "object.__setattr__"))
 ga:PySem.W.findIn K (.ref C) "__getattribute__"=some (some (.builtin "BaseException.__getattribute__"))
 gt:PySem.W.findIn K (.ref C) "__getattr__"=some none
structure IB (K:PySem.W.Frag) (C:Addr):Prop where
 ha:PySem.W.findIn K (.ref C) "__class__"=some (some (.builtin "object.__class__"))
 hn:PySem.W.specialIn K (.builtin "object.__class__") "__get__"=some (some (.builtin "getset_descriptor.__get__"))
 htk:PySem.W.takesIn K (.builtin "object.__class__")=some true
 hm:PySem.W.mroIn K C (.type "object")=some true
end L2
namespace L2
open PySem PySem.Spec PyProof.Rows
theorem eu {ks:List Int}:∀ {its:List Value},Uc (ks.map V.int) its→∃ xs:List (Int × Tok),its=xs.map (fun p=>Value.int p.1 p.2)∧xs.map (·.1)=ks:=by
 induction ks with
 | nil=>intro its r;cases r;exact ⟨[],rfl,rfl⟩
 | cons k ks ih=>
  intro its r;cases r with
  | cons h t=>
   obtain ⟨xs,e1,e2⟩:=ih t;obtain ⟨tk,rfl⟩:=(show ∃ t,_=Value.int k t from h);exact ⟨(k,tk) :: xs,by rw [List.map_cons,← e1],by rw [List.map_cons,e2]⟩
section
variable {X:Cx}
theorem WE (hc:X.calm=true):Kl X (.builtin "max") (fun xs H Q=>∃ l ks m,xs=[.ref l]∧SqL X.K H l (List.map V.int ks)∧(m ∈ ks∧∀ k ∈ ks,k ≤ m)∧Q (.int m) H):=by
 intro pins s σ H xs us Q I r h;obtain ⟨l,ks,m,rfl,hq,hm,q⟩:=h;obtain ⟨u,rfl,ru⟩:=Oo r;cases ru;obtain ⟨its,rv,pl,hz⟩:=I.list hq;obtain ⟨xs,e1,e2⟩:=eu rv;have hil:its.toArray=intItems xs.toArray:=by rw [e1];unfold intItems;simp
 have hls:s.heap.IsList l (intItems xs.toArray):=by rw [← hil];exact pl.isList
 have hxl:xs.length=ks.length:=by rw [← e2,List.length_map]
 have hne:0 < xs.toArray.size:=by
  rw [List.size_toArray,hxl];exact List.length_pos_of_mem hm.1
 refine max_intList (I.ok.hd hc) hls hne fun v h' tk hv hk=>⟨.int m,H,I.kept hk,?_,q⟩
 obtain ⟨tv,rfl⟩:=intItems_at hv;refine ⟨tv,?_⟩;have hb:=argBest_gt (numAt xs.toArray) (xs.toArray.size - 1);generalize argBest (fun i j=>decide (numAt xs.toArray i > numAt xs.toArray j)) (xs.toArray.size - 1)=j at hb ⊢;have hn:∀ i,i < ks.length→ks[i]? = some (numAt xs.toArray i):=fun i hi=>by
  rw [numAt_eq,List.getD_eq_getElem?_getD];show ks[i]? = some (((xs.map (·.1))[i]?).getD 0);rw [e2,List.getElem?_eq_getElem hi];rfl
 rw [List.size_toArray] at hb hne;have h1:=hm.2 _ (List.mem_of_getElem? (hn j (by omega)));obtain ⟨i,hi⟩:=List.getElem?_of_mem hm.1;have hil:i < ks.length:=(List.getElem?_eq_some_iff.mp hi).1;have h2:=hb.2 i (by omega);have h3:m=numAt xs.toArray i:=Option.some.inj (hi.symm.trans (hn i hil));rw [show numAt xs.toArray j=m by omega]
end
end L2
namespace L2
open PySem PySem.Spec PyProof.Rows
noncomputable def pN (p d:Addr):Heap→Prop:=fun h=>PySem.W.KdlKeysView h p d
noncomputable def sG (p d:Addr):Heap→Prop:=fun h=>h.IsValuesView p d
theorem pN.ok {P:Program} {w:World} {H:Hp} {h:Heap} {p d:Addr} (z:pN p d h):qd P w H h p (.ext (pN p d)):=
 ⟨z,let ⟨o,ho,_⟩:=z;⟨o,ho⟩,fun _ _ z1 k=>let ⟨o,ho,x⟩:=z1;⟨o,k o ho,x⟩⟩
theorem sG.ok {P:Program} {w:World} {H:Hp} {h:Heap} {p d:Addr} (z:sG p d h):qd P w H h p (.ext (sG p d)):=
 ⟨z,let ⟨o,ho,_⟩:=z;⟨o,ho⟩,fun _ _ z1 k=>let ⟨o,ho,x⟩:=z1;⟨o,k o ho,x⟩⟩
theorem Nt {α β:Type} {F:α→β→Prop}:∀ {l₁:List α} {l₂:List β},Paired F l₁ l₂→∀ {i:Nat} {b:β},l₂[i]? = some b→∃ a,l₁[i]? = some a∧F a b
 | [],[],_,i,b,h=>by simp at h
 | a :: l₁,c :: l₂,r,i,b,h=>by
  cases r with
  | cons f r=>
   cases i with
   | zero=>exact ⟨a,rfl,by rw [show b=c by simpa using h.symm];exact f⟩
   | succ i=>
    rw [List.getElem?_cons_succ] at h ⊢;exact Nt r h
section
variable {X:Cx}
noncomputable def yx:V→List V→Hp→VK→Prop:=fun x vs H Q=>∃ d kvs,x=.ref d∧vs=[]∧H d=some (.dK kvs)∧∀ p,H p=none→Q (.ref p) (upd H p (.ext (pN p d)))
noncomputable def JM:V→List V→Hp→VK→Prop:=fun x vs H Q=>∃ d kvs,x=.ref d∧vs=[]∧H d=some (.dK kvs)∧∀ p,H p=none→Q (.ref p) (upd H p (.ext (sG p d)))
theorem bL:MtR X "dict.values" JM:=by
 intro pins s σ H x xs v us Q I rx rv h;obtain ⟨d,kvs,rfl,rfl,e,q⟩:=h;cases (show v=Value.ref d from rx);cases rv;obtain ⟨z,hd,vs,rel,dd⟩:=RG I.hok e;refine call_meetsIn PySem.F.slot_dict_values dd.typeIs PySem.F.entry_dict_values (PySem.F.args_dict_values_1 _) (meets_dict_values (Pd X.prog X.w) d hd) ⟨⟨_,dd⟩,?_⟩;exact ⟨.ref _,_,I.laid (o:=.ext (sG _ d)) (t':=s.toks) (fun b u e=>Heap.get?_push_of_some _ e) (Nat.le_refl _) (sG.ok ⟨_,Heap.get?_push_size _ rfl,rfl,rfl⟩),rfl,q _ (I.hok.fresh (Nat.le_refl _))⟩
theorem gB (hc:X.calm=true):Kl X (.type "list") (fun xs H Q=>∃ p d kvs,xs=[.ref p]∧H p=some (.ext (sG p d))∧H d=some (.dK kvs)∧∀ l,H l=none→Q (.ref l) (upd H l (.lst (kvs.map fun q=>q.2)))):=by
 intro pins s σ H xs us Q I r h;obtain ⟨p,d,kvs,rfl,ep,ed,q⟩:=h;obtain ⟨u,rfl,ru⟩:=Oo r;cases ru;obtain ⟨z,hd,vs,rel,dd⟩:=RG I.hok ed;have hv:sG p d s.heap:=(show qd X.prog X.w H s.heap p (.ext (sG p d)) from I.hok _ _ ep).1;obtain ⟨epn,da⟩:=dd.dictAt;have hlen:=rel.length;refine PySem.W.kdl_call (PySem.W.kdl_values (knd:=Pd X.prog X.w) (kvs:=vs) (ep:=epn)) (I.ok.hd hc) ⟨hv,da⟩ (by omega) fun h' tk acc c hk hS hacc=>?_
 refine ⟨.ref _,_,I.laid (o:=.lst (kvs.map fun q=>q.2)) (t':=tk) hk (Nat.le_refl _) ⟨by rw [List.length_map];exact z,acc.toList,c,?_,hS⟩,rfl,q _ (I.hok.fresh (Nat.le_refl _))⟩;have hv:=Mt (f:=fun i=>((kvs[i]?).map fun q=>q.2).getD .non) (fun i v hv=>by
  obtain ⟨k,e1⟩:=hv;obtain ⟨a,e3,_,e4⟩:=Nt rel e1;rw [e3];exact e4) hacc
 have er:(List.range vs.length).map (fun i=>((kvs[i]?).map fun q=>q.2).getD .non)=kvs.map fun q=>q.2:=by
  rw [← hlen];refine List.ext_getElem (by simp) fun i h1 h2=>?_
  rw [List.getElem_map,List.getElem_range,List.getElem_map,List.getElem?_eq_getElem (by simpa using h2)];rfl
 rw [er] at hv;exact hv
end
end L2
namespace L2
open PySem PySem.Spec PyProof.Rows
noncomputable abbrev TF:=St→Hp→Str→(Str→Hp→Prop)→Prop
section
variable {X:Cx} {e:Expr} {es:List Expr} {t:TF} {te:TE} {pos:Pos}
end
end L2
namespace L2
open PySem PySem.Spec PyProof.Rows
noncomputable def RN (p:Addr) (a b c:Int):Heap→Prop:=fun h=>∃ t u v,IsRange h p a b c t u v
theorem RN.ok {P:Program} {w:World} {H:Hp} {h:Heap} {p:Addr} {a b c:Int} (z:RN p a b c h):qd P w H h p (.ext (RN p a b c)):=
 ⟨z,let ⟨_,_,_,e⟩:=z;⟨_,e⟩,fun _ _ z1 k=>let ⟨t,u,v,e⟩:=z1;⟨t,u,v,k _ e⟩⟩
section
variable {X:Cx}
end
end L2
namespace L2
open PySem PySem.Spec PyProof.Rows
noncomputable def fu (f:Addr) (qual:Str) (params:Arguments) (body:Expr) (scope:Scope) (clos:List (Str × Addr)) (c':Addr):Heap→Prop:=
 fun h=>∃ pm ctv,h.get? f=some (PySem.W.kla_obj "<lambda>" qual params body scope clos pm c' ctv)
noncomputable def Ox (c:Addr) (qual:Str):Heap→Prop:=fun h=>h.CodeRec (.ref c) qual
noncomputable def JA (c:Addr) (v:V):Heap→Prop:=fun h=>∃ u,gd v u∧h.IsCell c (some u)
noncomputable def Tab (H:Hp) (Pt:Addr) (pos:Pos) (qual:Str):Prop:=
 ∃ ps,H Pt=some (.tbl ps)∧(ps=#[]∨∃ c',ps=#[rawInt pos.line,rawInt pos.col,.ref c']∧H c'=some (.ext (Ox c' qual)))
noncomputable def We (Pt:Addr) (H H':Hp):Prop:=∀ b o,b ≠ Pt→H b=some o→H' b=some o
theorem We.refl (Pt:Addr) (H:Hp):We Pt H H:=fun _ _ _ h=>h
theorem We.trans {Pt:Addr} {H H1 H2:Hp} (a:We Pt H H1) (b:We Pt H1 H2):We Pt H H2:=fun c o n h=>b c o n (a c o n h)
theorem Yb.p {Pt:Addr} {H H':Hp} (s:Yb H H'):We Pt H H':=fun b o _ h=>s b o h
theorem Tab.ne {H:Hp} {Pt b:Addr} {pos:Pos} {qual:Str} {o:HO} (t:Tab H Pt pos qual) (h:H b=some o) (ho:∀ ps,o ≠ .tbl ps):b ≠ Pt:=fun e=>by
 obtain ⟨ps,e1,_⟩:=t;subst e;rw [e1] at h;exact ho ps (Option.some.inj h).symm
theorem Tab.step {H H':Hp} {Pt:Addr} {pos:Pos} {qual:Str} (t:Tab H Pt pos qual) (s:Yb H H'):Tab H' Pt pos qual:=by
 obtain ⟨ps,e,d⟩:=t;refine ⟨ps,s _ _ e,?_⟩;rcases d with d | ⟨c',d,e'⟩
 ·exact .inl d
 ·exact .inr ⟨c',d,s _ _ e'⟩
theorem ZD {P:Program} {w:World} {H:Hp} {h:Heap} {f c':Addr} {qual:Str} {params:Arguments} {body:Expr} {scope:Scope} {clos:List (Str × Addr)} {pm ctv:Value}
  (e:h.get? f=some (PySem.W.kla_obj "<lambda>" qual params body scope clos pm c' ctv)):qd P w H h f (.ext (fu f qual params body scope clos c')):=
 ⟨⟨pm,ctv,e⟩,⟨_,e⟩,fun _ _ ⟨p,c,e1⟩ k=>⟨p,c,k _ e1⟩⟩
theorem UJ {P:Program} {w:World} {H:Hp} {h:Heap} {c:Addr} {qual:Str} (e:h.CodeRec (.ref c) qual):qd P w H h c (.ext (Ox c qual)):=by
 refine ⟨e,?_,fun h1 h2 x k=>?_⟩
 ·obtain ⟨c2,o,vs,t,e1,e2,_⟩:=e;cases e1;exact ⟨o,e2⟩
 ·obtain ⟨c2,o,vs,t,e1,e2,e3,e4⟩:=x;cases e1;exact ⟨_,o,vs,t,rfl,k o e2,e3,e4⟩
theorem nF {P:Program} {w:World} {H:Hp} {h:Heap} {c:Addr} {v:V} {u:Value} (r:gd v u) (e:h.IsCell c (some u)):qd P w H h c (.ext (JA c v)):=by
 refine ⟨⟨u,r,e⟩,?_,fun h1 h2 x k=>?_⟩
 ·obtain ⟨o,e1,_⟩:=e;exact ⟨o,e1⟩
 ·obtain ⟨u',r',o,e1,e2⟩:=x;exact ⟨u',r',o,k o e1,e2⟩
structure BP (X:Cx) (c Pt:Addr):Prop where
 code:X.env.code=.ref c
 hd:PySem.W.CodeHd X.base c Pt
 bm:X.base.BuiltinsAt X.mg Pt
theorem IJ {a b:Int} {v:Value}:TriplesOk [rawInt a,rawInt b,v]:=True.intro
theorem GL {pos:Pos} {v:Value}:codeAmong pos [rawInt pos.line,rawInt pos.col,v]=some v:=by
 have:=codeAmong_snoc (pos:=pos) (c:=v) [] True.intro rfl;simpa using this
section
variable {X:Cx} {pins:List (Addr × Obj)} {σ:St} {H:Hp} {s:Shared} {params:Arguments} {body:Expr} {scope:Scope} {pos:Pos} {c Pt:Addr} {clos:List (Str × Addr)} {Q:Value→Shared→Prop}
theorem cM (I:Inv X pins σ H s) (T:BP X c Pt) (tb:Tab H Pt pos (X.env.qual ++ "<lambda>")) (hcl:closureFor scope X.env=pure clos) (hdef:defaultsOf params X.env=([],[]))
  (h:∀ f c' H1 s1,Inv X pins σ H1 s1→We Pt H H1→(NoT H→NoT H1)→Tab H1 Pt pos (X.env.qual ++ "<lambda>")→H1 f=some (.ext (fu f (X.env.qual ++ "<lambda>") params body scope clos c'))→H1 c'=some (.ext (Ox c' (X.env.qual ++ "<lambda>")))→H f=none→Q (.ref f) s1) :
  wpAny (model X.prog X.w) X.A (eval (.Lambda params body scope pos) X.env) Q X.xe s:=by
 refine PySem.W.kla_eval hdef ?_;obtain ⟨ps,eP,d⟩:=tb;have hP:s.heap.get? Pt=some (PySem.W.tabObj ps):=I.hok _ _ eP;have hns:s.heap.Ns mainGlobals X.mg:=I.mod.glob.keeps I.bk;have hC:=T.hd.keeps I.bk;have hgP:mainGlobals ≠ Pt:=fun q=>by
  obtain ⟨o,es,ep,e,hd,_⟩:=hns;rw [q,hP] at e;cases e;cases hd
 have hB:s.heap.BuiltinsAt X.mg Pt:=by
  obtain ⟨bm,o,h1,h2,h3,h4,h5,h6⟩:=T.bm;exact ⟨bm,o,h1,h2,h3,h4,I.bk _ _ h5,h6⟩
 rcases d with rfl | ⟨c',rfl,ec⟩
 ·refine PySem.W.kla_makeFunction (mg:=X.mg) hcl I.ok.glob hns T.code hC hP True.intro rfl hgP hB fun c' ctv h' tk hx hge hlt hrec htb=>?_
  have nc:H c'=none:=I.hok.fresh hge;have nf:H h'.objs.size=none:=I.hok.fresh (Nat.le_trans hge (Nat.le_of_lt hlt));have hcf:c' ≠ h'.objs.size:=Nat.ne_of_lt hlt;have hPc:Pt ≠ c':=fun z=>by rw [z,nc] at eP;cases eP
  have hPf:Pt ≠ h'.objs.size:=fun z=>by rw [z,nf] at eP;cases eP
  have put:∀ b o,b ≠ Pt→H b=some o→upd (upd (upd H Pt (.tbl (#[] ++ #[rawInt pos.line,rawInt pos.col,.ref c']))) c' (.ext (Ox c' (X.env.qual ++ "<lambda>")))) h'.objs.size (.ext (fu h'.objs.size (X.env.qual ++ "<lambda>") params body scope clos c')) b=some o:=fun b o n e=>by
   rw [pb (fun z=>by rw [z,nf] at e;cases e),pb (fun z=>by rw [z,nc] at e;cases e),pb n];exact e
  have eP1:upd (upd (upd H Pt (.tbl (#[] ++ #[rawInt pos.line,rawInt pos.col,.ref c']))) c' (.ext (Ox c' (X.env.qual ++ "<lambda>")))) h'.objs.size (.ext (fu h'.objs.size (X.env.qual ++ "<lambda>") params body scope clos c')) Pt=some (.tbl (#[] ++ #[rawInt pos.line,rawInt pos.col,.ref c'])):=by
   rw [pb hPf,pb hPc,db]
  have ec1:upd (upd (upd H Pt (.tbl (#[] ++ #[rawInt pos.line,rawInt pos.col,.ref c']))) c' (.ext (Ox c' (X.env.qual ++ "<lambda>")))) h'.objs.size (.ext (fu h'.objs.size (X.env.qual ++ "<lambda>") params body scope clos c')) c'=some (.ext (Ox c' (X.env.qual ++ "<lambda>"))):=by
   rw [pb hcf,db]
  have ef1:upd (upd (upd H Pt (.tbl (#[] ++ #[rawInt pos.line,rawInt pos.col,.ref c']))) c' (.ext (Ox c' (X.env.qual ++ "<lambda>")))) h'.objs.size (.ext (fu h'.objs.size (X.env.qual ++ "<lambda>") params body scope clos c')) h'.objs.size=some (.ext (fu h'.objs.size (X.env.qual ++ "<lambda>") params body scope clos c')):=db;have non:∀ b,b ≠ Pt→b ≠ c'→b ≠ h'.objs.size→upd (upd (upd H Pt (.tbl (#[] ++ #[rawInt pos.line,rawInt pos.col,.ref c']))) c' (.ext (Ox c' (X.env.qual ++ "<lambda>")))) h'.objs.size (.ext (fu h'.objs.size (X.env.qual ++ "<lambda>") params body scope clos c')) b=H b:=fun b n1 n2 n3=>by
   rw [pb n3,pb n2,pb n1]
  have nt1:NoT H→NoT (upd (upd (upd H Pt (.tbl (#[] ++ #[rawInt pos.line,rawInt pos.col,.ref c']))) c' (.ext (Ox c' (X.env.qual ++ "<lambda>")))) h'.objs.size (.ext (fu h'.objs.size (X.env.qual ++ "<lambda>") params body scope clos c'))):=fun n=>n.upd.upd.upd
  generalize upd (upd (upd H Pt (.tbl (#[] ++ #[rawInt pos.line,rawInt pos.col,.ref c']))) c' (.ext (Ox c' (X.env.qual ++ "<lambda>")))) h'.objs.size (.ext (fu h'.objs.size (X.env.qual ++ "<lambda>") params body scope clos c'))=H1 at put eP1 ec1 ef1 non nt1;have kp:∀ b o,b ≠ Pt→s.heap.get? b=some o→(h'.push (PySem.W.kla_obj "<lambda>" (X.env.qual ++ "<lambda>") params body scope clos ((X.mg "__name__").getD .none) c' ctv)).get? b=some o:=fun b o n e=>Heap.get?_push_of_some _ (hx b o n e)
  have nPt:∀ b,H b=none→b ≠ Pt:=fun b n z=>by rw [z,eP] at n;cases n
  have u:Un X.fs [] H H1 s.heap (h'.push (PySem.W.kla_obj "<lambda>" (X.env.qual ++ "<lambda>") params body scope clos ((X.mg "__name__").getD .none) c' ctv)):=by
   refine ⟨fun b o e n _ _=>kp b o (nPt b n) e,fun b o e n _ _=>⟨o.slots,kp b o (nPt b n) e⟩,fun b o e n _=>?_,fun b o e _=>?_,fun b xs e=>put b _ (fun z=>by rw [z,eP] at e;cases e) e,fun b o x e=>put b _ (fun z=>by rw [z,eP] at e;cases e) e,fun b ps e=>?_⟩
   ·have hb:=Heap.lt_size e;rw [non b (nPt b n) (Nat.ne_of_lt (Nat.lt_of_lt_of_le hb hge)) (Nat.ne_of_lt (Nat.lt_of_lt_of_le hb (Nat.le_trans hge (Nat.le_of_lt hlt))))];exact n
   ·by_cases hb:b=Pt
    ·subst hb;exact ⟨_,Heap.get?_push_of_some _ htb⟩
    ·exact ⟨o,kp b o hb e⟩
   ·by_cases hb:b=Pt
    ·subst hb;rw [eP] at e;cases e;exact ⟨_,eP1⟩
    ·exact ⟨#[],by rw [put b _ hb e];simp⟩
  have hok:HOk X.prog X.w H1 (h'.push (PySem.W.kla_obj "<lambda>" (X.env.qual ++ "<lambda>") params body scope clos ((X.mg "__name__").getD .none) c' ctv)):=fun b o e=>by
   by_cases h1:b=Pt
   ·subst h1;rw [eP1] at e;cases e;exact Heap.get?_push_of_some _ htb
   by_cases h2:b=c'
   ·subst h2;rw [ec1] at e;cases e;refine UJ ?_;obtain ⟨c2,o,vs,t,e1,e2,e3⟩:=hrec;exact ⟨c2,o,vs,t,e1,Heap.get?_push_of_some _ e2,e3⟩
   by_cases h3:b=h'.objs.size
   ·subst h3;rw [ef1] at e;cases e;exact ZD (Heap.get?_push_size _ rfl)
   rw [non b h1 h2 h3] at e;refine (I.hok b o e).stay (fun d v hd q=>kp d v ?_ q) (fun d q=>put d _ (fun z=>by rw [z,eP] at q;cases q) q) fun d xs q=>put d _ (fun z=>by rw [z,eP] at q;cases q) q
   rcases hd with z | z
   ·rw [z];exact h1
   ·intro z2;rw [z2,eP] at z;cases z
  exact h _ c' H1 _ (I.un (t':=tk) u hok) (fun b o n e=>put b o n e) nt1 ⟨_,eP1,.inr ⟨c',by simp,ec1⟩⟩ ef1 ec1 nf
 ·refine PySem.W.kla_makeFunctionHit (mg:=X.mg) hcl I.ok.glob hns T.code hC hP IJ GL hB fun ctv h' tk hk hsz=>?_
  have nf:H h'.objs.size=none:=I.hok.fresh hsz;have I1:Inv X pins σ (upd H h'.objs.size (.ext (fu h'.objs.size (X.env.qual ++ "<lambda>") params body scope clos c'))) { s with heap:=h'.push (PySem.W.kla_obj "<lambda>" (X.env.qual ++ "<lambda>") params body scope clos ((X.mg "__name__").getD .none) c' ctv),toks:=tk }:=
   I.laid (t':=tk) (fun b o e=>Heap.get?_push_of_some _ (hk b o e)) hsz (ZD (Heap.get?_push_size _ rfl))
  have sm:=lb (o:=.ext (fu h'.objs.size (X.env.qual ++ "<lambda>") params body scope clos c')) nf;exact h _ c' _ _ I1 sm.p (fun n=>n.upd) ⟨_,sm _ _ eP,.inr ⟨c',rfl,sm _ _ ec⟩⟩ db (sm _ _ ec) nf
end
section
variable {P:Program} {w:World} {K:PySem.W.Frag} {mg:Str→Option Value} {base:Heap}
theorem Fun.okLam {x qual:Str} {st:Stmt} {f:Addr} {fd:FuncData} {N ps:List Str} {k:Nat} {sp:Sp} {c Pt:Addr} {i:Nat} {y:Str} {st1:Stmt} {params:Arguments} {lbody:Expr} {lscope:Scope} {lpos rpos:Pos} {cc:Nat→Addr}
  (F:Fun K x qual st f fd) (S:wb N ps (ib st)) (len:∀ vs H Q E,sp vs H Q E→vs.length=ps.length) (hb:fm st=[st1,.Return (some (.Lambda params lbody lscope lpos)) rpos])
  (hcode:fd.code=.ref c) (hC:PySem.W.CodeHd base c Pt) (hB:base.BuiltinsAt mg Pt) (hN:N[i]? = some y) (hy:(ib st).names.lookup y=some .cell) (hdef:∀ env,defaultsOf params env=([],[]))
  (hcl:∀ L cdv,closureFor lscope (envOfC qual (ib st) L f cdv)=pure [(y,cc L)]) (hcc:∀ L cdv,(envOfC qual (ib st) L f cdv).cells.lookup y=some (cc L))
  (hbody:∀ (cdv:Value) (A:Around) (outer:List Env) (s:Shared) (H:Hp) (vs:List V) (Q:VK) (E:XK),ui k (A.deeper (envOfC qual (ib st) s.heap.objs.size f cdv))→sp vs H Q E →
   ∃ t,PS (jF CX0 P w K mg base N qual (ib st) f cdv A outer s H E).nox st1 t ∧
    t { nx:=fun σ1 H1=>∃ v,σ1[i]? = some (some v)∧Tab H1 Pt lpos (qual ++ ".<locals>." ++ "<lambda>") ∧
     ∀ g cl c' H2,We Pt H1 H2→(NoT H1→NoT H2)→Tab H2 Pt lpos (qual ++ ".<locals>." ++ "<lambda>")→H2 g=some (.ext (fu g (qual ++ ".<locals>." ++ "<lambda>") params lbody lscope [(y,cl)] c'))→H2 c'=some (.ext (Ox c' (qual ++ ".<locals>." ++ "<lambda>")))→H2 cl=some (.ext (JA cl v))→Q (.ref g) H2,rt:=fun _ _=>False } (start N vs) H):Eb P w K mg base CX0 (k + 1) f fd ps sp:=by
 obtain ⟨oc,od,kV,doc,pm,an,cdv,ct,osl,rfl,lk,hcd⟩:=F.ex;refine ⟨len,fun A outer s H args us vs Q E hr e0 hbd r hsp=>?_⟩;have hl:=len _ _ _ _ hsp;have KX:K.In s.heap:=e0.mod.kin.keeps fun b o e=>(e0.bs b o e).1
 have lim:s.heap.NoLimit:=e0.mod.nolimit.keeps fun b o e=>(e0.bs b o e).1
 have hkind:∀ z ∈ ps.zip us,(ib st).names.lookup z.1=some .local∨((ib st).names.lookup z.1=some .cell∧((cellsFrom (s.heap.objs.size + 1) (ib st).names []).lookup z.1).isSome=true):=fun ⟨n,v⟩ hz=>by
  rcases S.par n (List.of_mem_zip hz).1 with q | q
  ·exact .inl q
  ·exact .inr ⟨q,PySem.W.cellsFrom_some _ _ _ (.inl q)⟩
 refine codeAny_call_function hr.depth (KX _ _ lk) rfl S.co S.gen rfl (PySem.W.codeRec_of KX hcd) (hbd _ _ _ _ ?_);refine wpAny_newFunctionEnv_cells S.kind hkind fun env he s1 xx=>?_
 subst he;refine ⟨lim.keeps xx.toInCall.keep,codeAny_func ?_⟩;obtain ⟨t,ht,hq⟩:=hbody cdv A outer s H vs Q E (hr.deeper _) hsp;have I:Inv (jF CX0 P w K mg base N qual (ib st) f cdv A outer s H E) [] (start N vs) H s1:=Sw S hr.hd e0 hl r xx;rw [hb];refine wpAny_execs_cons (wpAny_mono (ht [] s1 (start N vs) H _ (I.wish _) hq) (fun fl s2 q2=>?_) fun _ _ z=>False.elim z);cases fl with
 | ret u=>obtain ⟨_,_,_,_,_,z⟩:=q2;exact z.elim
 | brk=>obtain ⟨_,_,_,z⟩:=q2;exact z.elim
 | cont=>obtain ⟨_,_,_,z⟩:=q2;exact z.elim
 | next=>
  obtain ⟨σ1,H1,I1,v,ev,tb,q⟩:=q2;have I2:=I1.unwish;refine wpAny_execs_cons (wpAny_Return_some ?_);refine cM (c:=c) (Pt:=Pt) (X:=jF CX0 P w K mg base N qual (ib st) f cdv A outer s H E) I2 ⟨hcode,hC,hB⟩ tb (hcl _ _) (hdef _) fun g c' H2 s3 J sm nt2 tb2 eg ec nf=>?_
  obtain ⟨m,hn,hlk⟩:=J.loc;obtain ⟨u,ru,lo⟩:=hlk i y v hN ev (.inr (.inl hy));have hk:(jF CX0 P w K mg base N qual (ib st) f cdv A outer s H E).env.kindOf y=some .cell:=hy;rcases lo with ⟨k1,_⟩ | ⟨_,cl,e1,e2⟩
  ·rw [hk] at k1;cases k1
  have ecl:cl=cc s.heap.objs.size:=Option.some.inj (e1.symm.trans (hcc _ _));subst ecl;have n2:H2 (cc s.heap.objs.size)=none:=J.freeC y _ e1;have hge:s.heap.objs.size ≤ cc s.heap.objs.size:=J.ok.cab y _ rfl e1;have ncP:cc s.heap.objs.size ≠ Pt:=fun z=>by
   obtain ⟨ps',e',_⟩:=tb2;rw [← z,n2] at e';cases e'
  have sc:=lb (o:=.ext (JA (cc s.heap.objs.size) v)) n2;refine ⟨.ref g,upd H2 (cc s.heap.objs.size) (.ext (JA (cc s.heap.objs.size) v)),J.os,J.bare,⟨J.base.keep,J.base.slot,fun b o e n hx=>?_,J.base.there,fun b xs e=>sc _ _ (J.base.tups b xs e),fun b o z e=>sc _ _ (J.base.frzs b o z e),fun b pz e=>?_⟩,fun b o e=>?_,rfl,?_⟩
  ·rw [pb (Nat.ne_of_lt (Nat.lt_of_lt_of_le (Heap.lt_size e) hge))];exact J.base.free b o e n hx
  ·obtain ⟨mo,e'⟩:=J.base.tbls b pz e;exact ⟨mo,sc _ _ e'⟩
  ·by_cases hbc:b=cc s.heap.objs.size
   ·subst hbc;rw [db] at e;cases e;exact nF ru e2
   ·rw [pb hbc] at e;exact (J.hok b o e).stay (fun _ _ _ z=>z) (fun d z=>sc _ _ z) fun d xs z=>sc _ _ z
  ·refine q g (cc s.heap.objs.size) c' _ (sm.trans sc.p) (fun n=>(nt2 n).upd) (tb2.step sc) (sc _ _ eg) (sc _ _ ec) db
end
noncomputable def Ir (H:Hp) (c:Addr):Hp:=fun b=>if b=c then none else H b
theorem vk {H:Hp} {c:Addr}:Ir H c c=none:=if_pos rfl
theorem xh {H:Hp} {b c:Addr} (h:b ≠ c):Ir H c b=H b:=if_neg h
theorem Ky {H:Hp} {c:Addr} {o:HO} (h:H c=some o):upd (Ir H c) c o=H:=by
 funext b;by_cases e:b=c
 ·subst e;rw [db,h]
 ·rw [pb e,xh e]
theorem SH {H:Hp} {b c:Addr} {o:HO} (h:Ir H c b=some o):b ≠ c∧H b=some o:=by
 by_cases e:b=c
 ·subst e;rw [vk] at h;cases h
 ·rw [xh e] at h;exact ⟨e,h⟩
structure RM (p y:Str) (sc:Scope):Prop where
 kind:sc.kind=.function
 co:sc.isCoroutine=false
 gen:sc.isGenerator=false
 ne:p ≠ y
 par:sc.names.lookup p=some .local
 yf:sc.names.lookup y=some .free
 nocell:∀ z ∈ sc.names,z.2 ≠ .cell
 one:∀ z ∈ sc.names,z.2=.free→z.1=y
noncomputable def Mo (X:Cx) (N:List Str) (q:Str) (scope:Scope) (f c':Addr) (y:Str) (cl:Addr) (s:Shared) (H:Hp):Cx where
 prog:=X.prog
 w:=X.w
 K:=X.K
 mg:=X.mg
 base:=X.base
 A:=X.A.deeper (PySem.W.envX q scope s.heap.objs.size f (.ref c') [(y,cl)])
 N:=N
 s₀:=s
 H₀:=H
 env:=PySem.W.envX q scope s.heap.objs.size f (.ref c') [(y,cl)]
 outer:=X.stack
 stack:=PySem.W.envX q scope s.heap.objs.size f (.ref c') [(y,cl)] :: X.stack
 ex:=[]
 fn:=fun x=>x != y
 calm:=true
 pn:=[]
 xe:=fun _ _=>False
section
variable {X:Cx} {pins:List (Addr × Obj)} {σ:St} {H:Hp} {s:Shared} {k:Nat} {f c' cl:Addr} {q p y:Str} {params:Arguments} {body:Expr} {scope:Scope} {v:V} {t:TE}
theorem cK {u:Value} {a:V} {h1:Heap} {tk:Nat} (S:RM p y scope) (hr:ui k X.A) (I:Inv X pins σ H s) (el:H cl=some (.ext (JA cl v))) (ra:gd a u)
  (hns:h1.Ns s.heap.objs.size (fun x=>[(p,u)].reverse.lookup x)) (hk:∀ b o,s.heap.get? b=some o→h1.get? b=some o) :
  Inv (Mo X [p,y] q scope f c' y cl s (Ir H cl)) [] [some a,some v] (Ir H cl) { s with heap:=h1,toks:=tk }:=by
 obtain ⟨⟨uc,rc,oc,ec1,ec2⟩,_,_⟩:=I.hok _ _ el;have lk:∀ x c,([(y,cl)]:List (Str × Addr)).lookup x=some c→x=y∧c=cl:=fun x c e=>by
  rw [List.lookup_cons] at e;cases hb:x == y with
  | true=>rw [hb] at e;cases e;exact ⟨eq_of_beq hb,rfl⟩
  | false=>rw [hb] at e;cases e
 have lky:([(y,cl)]:List (Str × Addr)).lookup y=some cl:=by rw [List.lookup_cons,beq_self_eq_true]
 have noA:∀ b:Addr,b ∉ (Mo X [p,y] q scope f c' y cl s (Ir H cl)).ex:=fun b z=>absurd (show b ∈ ([]:List Addr) from z) (by simp)
 have hokD:HOk X.prog X.w (Ir H cl) s.heap:=fun b o e=>by
  obtain ⟨n,e'⟩:=SH e;exact (I.hok b o e').stay (fun _ _ _ z=>z) (fun d z=>by rw [xh (fun w=>by rw [w,el] at z;cases z)];exact z) fun d xs z=>by rw [xh (fun w=>by rw [w,el] at z;cases z)];exact z
 refine ⟨⟨I.ok.mod,S.kind,rfl,rfl,Nat.le_refl _,fun x z c e1 e2=>((lk x c e1).1).trans (lk z c e2).1.symm,fun x hx=>?_,fun x c hf e=>?_,fun _=>hr.hd,Around.frames_deeper I.ok.frames,.inr ⟨rfl,rfl⟩,fun b z=>absurd z (noA b),fun b o e=>?_,Nat.le_trans I.ok.bsz I.sz,fun b _ _=>noA b,fun b z=>absurd z (noA b),I.stack,fun b hb=>?_⟩,
  rfl,I.bare,Un.kept hk,⟨_,hns,fun i x vv e1 e2 e3=>?_⟩,fun x c e=>?_,hokD.fresh (Nat.le_refl _),fun x c e=>?_,fun z hz=>absurd (show z ∈ ([]:List (Addr × Obj)) from hz) (by simp),hokD.kept hk,rfl⟩
 ·have hx:scope.names.lookup x=some .cell∨scope.names.lookup x=some .free:=hx;rcases hx with hx | hx
  ·exact absurd rfl (S.nocell _ (PySem.mem_of_lookup hx))
  ·have:x=y:=S.one _ (PySem.mem_of_lookup hx) rfl;exact ⟨cl,by rw [this];exact lky⟩
 ·have:x=y:=(lk x c e).1;subst this;have:(x != x)=true:=hf;simp at this
 ·obtain ⟨b1,b2⟩:=I.bs b o e;exact ⟨b1,by
   by_cases z:b=cl
   ·rw [z];exact vk
   ·exact (xh z).trans b2⟩
 ·by_cases z:b=cl
  ·rw [z];exact vk
  ·exact (xh z).trans (I.stkFree b hb)
 ·match i,e1,e2 with
  | 0,e1,e2=>
   cases e1;cases e2;exact ⟨u,ra,.inl ⟨S.par,by show List.lookup p [(p,u)]=some u;rw [List.lookup_cons,beq_self_eq_true]⟩⟩
  | 1,e1,e2=>
   cases e1;cases e2;exact ⟨uc,rc,.inr ⟨.inr S.yf,cl,lky,⟨oc,hk _ _ ec1,ec2⟩⟩⟩
  | i + 2,e1,_=>simp [Mo] at e1
 ·obtain ⟨_,rfl⟩:=lk x c e;exact ⟨_,oc,hk _ _ ec1,ec2⟩
 ·obtain ⟨_,rfl⟩:=lk x c e;exact vk
theorem xK {Q:VK} {u:Value} {a:V} (S:RM p y scope) (hr:ui k X.A) (I:Inv X pins σ H s) (ef:H f=some (.ext (fu f q params body scope [(y,cl)] c'))) (ec:H c'=some (.ext (Ox c' q))) (el:H cl=some (.ext (JA cl v)))
  (hb:∀ pm ctv,bindArgs (PySem.W.kla_fn "<lambda>" q params body scope [(y,cl)] pm (.ref c') ctv) ⟨[u],[]⟩=pure [(p,u)]) (ra:gd a u)
  (hbody:PE (Mo X [p,y] q scope f c' y cl s (Ir H cl)) body t) (h:t [some a,some v] (Ir H cl) fun x H'=>Q x (upd H' cl (.ext (JA cl v)))) :
  wpAny (model X.prog X.w) X.A (call (.ref f) [u]) (EP X pins σ Q) X.xe s:=by
 have inner:codeAny (model X.prog X.w) X.A (.call (.ref f) ⟨[u],[]⟩) (CR CX0 X.stack X.prog X.w H s Q E0) s:=by
  obtain ⟨⟨pm,ctv,ho⟩,_⟩:=I.hok _ _ ef;refine PySem.W.kla_callFunE hr.depth ho rfl S.co S.gen rfl (I.hok _ _ ec).1 ?_;rw [hb];refine wpAny_pure (wpAny_newFunctionEnv S.nocell (fun z hz=>by rw [List.mem_singleton.mp hz];exact S.par) (fun h1 hns hsb=>⟨I.nolimit.fresh _ hsb,?_⟩) S.kind);have hk:∀ b o,s.heap.get? b=some o→h1.get? b=some o:=fun b o e=>hsb.extBut b o (Nat.ne_of_lt (Heap.lt_size e)) (Heap.get?_push_of_some _ e)
  show codeAny _ _ (.expr body (PySem.W.envX q scope s.heap.objs.size f (.ref c') [(y,cl)])) _ _;have J:=cK (f:=f) (c':=c') (q:=q) (tk:=s.toks + [(p,u)].length) S hr I el ra hns hk;refine PySem.W.kla_codeExpr (wpAny_mono (hbody [] _ _ _ _ J h) (fun ux s' hq=>?_) fun _ _ z=>False.elim z);obtain ⟨x,H',J',rx,q'⟩:=hq;have ncl:cl ∉ frs X.stack:=fun z=>by have:=I.stkFree cl z;rw [el] at this;cases this
  obtain ⟨⟨uc,rc,oc,ec1,ec2⟩,_,_⟩:=I.hok _ _ el;have kcl:s'.heap.get? cl=some oc:=J'.base.keep cl oc ec1 vk ncl (by intro z;exact absurd (show cl ∈ ([]:List Addr) from z) (by simp));have n':H' cl=none:=J'.base.free cl oc ec1 vk (by intro z;exact absurd (show cl ∈ ([]:List Addr) from z) (by simp));have sc:=lb (o:=.ext (JA cl v)) n';refine ⟨x,upd H' cl (.ext (JA cl v)),J'.os,J'.bare,⟨fun b o e n hf hx=>?_,fun b o e n hf hx=>?_,fun b o e n hx=>?_,J'.base.there,fun b xs e=>?_,fun b o z e=>?_,fun b ps e=>?_⟩,fun b o e=>?_,rx,q'⟩
  ·have nb:b ≠ cl:=fun z=>by rw [z,el] at n;cases n
   exact J'.base.keep b o e (by show Ir H cl b=none;rw [xh nb];exact n) hf hx
  ·have nb:b ≠ cl:=fun z=>by rw [z,el] at n;cases n
   exact J'.base.slot b o e (by show Ir H cl b=none;rw [xh nb];exact n) hf hx
  ·have nb:b ≠ cl:=fun z=>by rw [z,el] at n;cases n
   rw [pb nb];exact J'.base.free b o e (by show Ir H cl b=none;rw [xh nb];exact n) hx
  ·have nb:b ≠ cl:=fun z=>by rw [z,el] at e;cases e
   exact sc _ _ (J'.base.tups b xs (by show Ir H cl b=_;rw [xh nb];exact e))
  ·have nb:b ≠ cl:=fun z=>by rw [z,el] at e;cases e
   exact sc _ _ (J'.base.frzs b _ _ (by show Ir H cl b=_;rw [xh nb];exact e))
  ·have nb:b ≠ cl:=fun z=>by rw [z,el] at e;cases e
   obtain ⟨m,e'⟩:=J'.base.tbls b ps (by show Ir H cl b=_;rw [xh nb];exact e);exact ⟨m,sc _ _ e'⟩
  ·by_cases hbc:b=cl
   ·subst hbc;rw [db] at e;cases e;exact nF rc ⟨oc,kcl,ec2⟩
   ·rw [pb hbc] at e;exact (J'.hok b o e).stay (fun _ _ _ z=>z) (fun d z=>sc _ _ z) fun d xs z=>sc _ _ z
 refine wpAny_call (codeAny_mono inner fun r s' hq=>?_);cases r with
 | error e=>exact hq.elim
 | ok fl=>
  cases fl with
  | ret u=>exact I.after hq
  | next=>exact False.elim hq
  | brk=>exact False.elim hq
  | cont=>exact False.elim hq
noncomputable def ID (q:Str) (params:Arguments) (body:Expr) (scope:Scope) (y:Str) (t:TE) (tf:TE) (ta:TA):TE:=fun σ H Q=>tf σ H fun x H1=>∃ f,x=.ref f∧(∃ cl c',H1 f=some (.ext (fu f q params body scope [(y,cl)] c')))∧ta σ H1 fun vs H2=>∃ a cl c' v,vs=[a] ∧
 H2 f=some (.ext (fu f q params body scope [(y,cl)] c'))∧H2 c'=some (.ext (Ox c' q))∧H2 cl=some (.ext (JA cl v))∧t [some a,some v] (Ir H2 cl) fun x H'=>Q x (upd H' cl (.ext (JA cl v)))
theorem tH {fe e:Expr} {pos:Pos} {tf:TE} {ta:TA} (hf:PE X fe tf) (S:RM p y scope) (hr:ui k X.A) (ha:PA X [e] ta)
  (hb:∀ cl c' pm ctv u,bindArgs (PySem.W.kla_fn "<lambda>" q params body scope [(y,cl)] pm (.ref c') ctv) ⟨[u],[]⟩=pure [(p,u)])
  (hbody:∀ f c' cl s H,PE (Mo X [p,y] q scope f c' y cl s H) body t)
  (he:starEach [e] X.env=(false,eval e X.env) :: starEach [] X.env:=by rfl)
  (ht:eval (.Call fe [e] [] pos) X.env=(do callWith pos (← eval fe X.env) [] (backTo pos (starEach [e] X.env)) (backToKw pos (keywordEach [] X.env))):=by rfl) :
  PE X (.Call fe [e] [] pos) (ID q params body scope y t tf ta):=by
 intro pins s σ H Q I h;rw [ht];refine wpAny_bind (thn (hf pins s σ H _ I h) fun u s1 hZ1=>?_);obtain ⟨x,H1,I1,rx,f,ex,⟨cl,c',ef⟩,q1⟩:=hZ1;subst ex;obtain rfl:u=Value.ref f:=rx;have fnAt:∀ {σ':St} {H':Hp} {s':Shared} {cl c':Addr},Inv X pins σ' H' s'→H' f=some (.ext (fu f q params body scope [(y,cl)] c'))→PySem.W.FnAt f s'.heap:=fun J e=>by
  obtain ⟨⟨pm,ctv,ho⟩,_⟩:=J.hok _ _ e;exact ⟨_,_,_,_,ho⟩
 refine PySem.W.callWith_F (fnAt I1 ef) (thn (ha pos pins s1 σ H1 _ I1 q1) fun us s2 ⟨vs,H2,I2,r,a,cl,c',v,ev,ef2,ec2,el2,q2⟩=>⟨fnAt I2 ef2,?_⟩) he rfl;subst ev;obtain ⟨u,rfl,ru⟩:=Oo r;exact xK S hr I2 ef2 ec2 el2 (fun pm ctv=>hb cl c' pm ctv u) ru (hbody f c' cl s2 (Ir H2 cl)) q2
end
theorem sv {X:Cx} {k:Nat} {q p y:Str} {params:Arguments} {body:Expr} {scope:Scope} {t:TE} {fe e:Expr} {pos:Pos} {tf:TE} {ta:TA} (hf:PE X fe tf) (S:RM p y scope) (hr:ui k X.A) (ha:PA X [e] ta)
  (hb:∀ cl c' pm ctv u,bindArgs (PySem.W.kla_fn "<lambda>" q params body scope [(y,cl)] pm (.ref c') ctv) ⟨[u],[]⟩=pure [(p,u)])
  (hbody:∀ f c' cl s H,∃ t',PE (Mo X [p,y] q scope f c' y cl s H) body t'∧t'=t)
  (he:starEach [e] X.env=(false,eval e X.env) :: starEach [] X.env:=by rfl)
  (ht:eval (.Call fe [e] [] pos) X.env=(do callWith pos (← eval fe X.env) [] (backTo pos (starEach [e] X.env)) (backToKw pos (keywordEach [] X.env))):=by rfl) :
  PE X (.Call fe [e] [] pos) (ID q params body scope y t tf ta):=
 tH hf S hr ha hb (fun f c' cl s H=>by obtain ⟨t',h,rfl⟩:=hbody f c' cl s H;exact h) he ht
noncomputable def Sv (st:Stmt):Expr:=match (fm st).getD 1 (.Pass ⟨0,0,0,0⟩) with
 | .Return (some e) _=>e
 | _=>.Constant .none 0 ⟨0,0,0,0⟩
noncomputable def aN:Expr→Arguments
 | .Lambda a _ _ _=>a
 | _=>{ posonlyargs:=[],args:=[],vararg:=none,kwonlyargs:=[],kw_defaults:=[],kwarg:=none,defaults:=[] }
noncomputable def cN:Expr→Expr
 | .Lambda _ b _ _=>b
 | e=>e
noncomputable def lL:Expr→Scope
 | .Lambda _ _ s _=>s
 | _=>{ kind:=.function,names:=[],isGenerator:=false,isCoroutine:=false }
noncomputable def fP:Expr→Pos
 | .Lambda _ _ _ p=>p
 | _=>⟨0,0,0,0⟩
noncomputable def mH (Pt:Addr) (H:Hp):Prop:=H Pt=some (.tbl #[])∧∀ b,H b=none∨b=Pt∨∃ o xs,H b=some (.frz o (.lst xs))
theorem Sc.of_onlyT {K:PySem.W.Frag} {H:Hp} {a Pt:Addr} {ns:List Int} (hO:mH Pt H) (hS:SqL K H a (ns.map V.int)):Sc K a ns H:=by
 refine ⟨?_,fun b u e=>?_⟩
 ·rcases hS with (h | ⟨o,h⟩) | h
  ·rcases hO.2 a with z | z | ⟨ob,xs,z⟩
   ·rw [h] at z;cases z
   ·rw [z,hO.1] at h;cases h
   ·rw [h] at z;cases z
  ·exact .inl ⟨o,h⟩
  ·exact .inr h
 ·rcases hO.2 b with z | z | ⟨o,xs,z⟩
  ·rw [e] at z;cases z
  ·rw [z,hO.1] at e;cases e;rfl
  ·rw [e] at z;cases z;rfl
theorem bE {P:Program} {w:World} {K:PySem.W.Frag} {mg mb:Str→Option Value} {CX:CXT} {k:Nat} {fa a c Pt:Addr} {fd:FuncData} {x:Str} {sp:Sp} {s₁:Shared} {vs:List Value} {ns:List Int}
  (KX:K.In s₁.heap) (hK:PySem.W.noTabs K=true) (hns:s₁.heap.Ns mainGlobals mg) (hb:s₁.heap.Ns builtinsNs mb) (hbb:∀ x:Str,x ≠ "__name__" → mb x=bootBuiltins x) (hlim:s₁.heap.NoLimit) (hg:s₁.gens=#[])
  (hbm:∃ bm ob,mg "__builtins__"=some (.ref bm)∧bm ≠ builtinsNs∧s₁.heap.get? bm=some ob∧ob.cls=.type "module" ∧ ob.dict=some builtinsNs∧ob.data=.plain)
  (hC:PySem.W.CodeHd s₁.heap c Pt) (hP:s₁.heap.get? Pt=some (PySem.W.tabObj #[]))
  (ha:s₁.heap.get? a=some { cls:=.type "list",data:=.seq vs.toArray }) (hi:IntsAre vs ns) (hl:ns.length ≤ sizeLine) (hr:ui k callerA)
  (F:∀ base:Heap,K.In base→base.Ns mainGlobals mg→PySem.W.CodeHd base c Pt→base.BuiltinsAt mg Pt→Eb P w K mg base CX k fa fd [x] sp) (hbind:∀ (s:Shared) (u:Value),BindsTo s fd ⟨[u],[]⟩ [(x,u)])
  (hsp:∀ H:Hp,mH Pt H→SqL K H a (ns.map V.int)→sp [.ref a] H (fun v _=>v=.bl true) fun _ _ _=>False)
  (hCX:∀ H e s',CX [] H s₁ (fun _ _ _=>False) e s'→False) :
  codeAny (model P w) callerA (.call (.ref fa) ⟨[.ref a],[]⟩) (fun r s'=>r=.ok (.ret (.bool true))∧OldK s₁.heap s'.heap∧s'.os=s₁.os∧AllBare s'.gens) s₁:=by
 have rv:=aw hi;have lenV:=hi.length;have hPa:Pt ≠ a:=fun z=>by rw [z,ha] at hP;cases hP
 have kPt:∀ o,K.lookup Pt=some o→False:=fun o e=>by
  have e1:=KX _ _ e;rw [hP] at e1;cases e1;have:=List.all_eq_true.mp hK _ (PySem.W.mem_of_lookupK e);exact absurd (show false=true from this) Bool.false_ne_true
 have core:∀ H:Hp,mH Pt H→SqL K H a (ns.map V.int)→HOk P w H s₁.heap→(∀ b,H b ≠ none→b=Pt∨b=a)→(H a ≠ none→K.lookup a=none) →
   codeAny (model P w) callerA (.call (.ref fa) ⟨[.ref a],[]⟩) (fun r s'=>r=.ok (.ret (.bool true))∧OldK s₁.heap s'.heap∧s'.os=s₁.os∧AllBare s'.gens) s₁:=by
  intro H hO hS hok hA hKa;have inB:∀ {b:Addr} {o:Obj},s₁.heap.get? b=some o→o.cls ≠ .none→(∀ its n,o.data ≠ .seq its n)→(kD s₁.heap H).get? b=some o:=fun {b o} e h1 h2=>by
   refine Uu e ?_;cases q:H b with
   | none=>rfl
   | some u=>
    rcases hA b (by rw [q];simp) with z | z
    ·subst z;rw [hP] at e;cases e;exact absurd rfl h1
    ·subst z;rw [ha] at e;cases e;exact absurd rfl (h2 _ _)
  have nsK:∀ {b:Addr} {m:Str→Option Value},s₁.heap.Ns b m→(kD s₁.heap H).Ns b m:=fun {b m} ⟨o,es,ep,e,d,r⟩=>⟨o,es,ep,(by
   refine Uu e ?_;cases q:H b with
   | none=>rfl
   | some u=>
    rcases hA b (by rw [q];simp) with z | z
    ·subst z;rw [hP] at e;cases e;cases d
    ·subst z;rw [ha] at e;cases e;cases d),d,r⟩
  have hKb:K.In (kD s₁.heap H):=fun b o e=>Uu (KX b o e) (by
   cases q:H b with
   | none=>rfl
   | some u=>
    rcases hA b (by rw [q];simp) with z | z
    ·subst z;exact (kPt o e).elim
    ·subst z;rw [hKa (by rw [q];simp)] at e;cases e)
  have hM:Mod K mg (kD s₁.heap H):=⟨hKb,nsK hns,⟨mb,nsK hb,hbb⟩,let ⟨mc,h1,h2⟩:=hlim;⟨mc,nsK h1,h2⟩⟩;have hCb:PySem.W.CodeHd (kD s₁.heap H) c Pt:=by
   obtain ⟨o,vs',file,tf,flags,tg,inF,text,tt,e1,e2,e3,r⟩:=hC;exact ⟨o,vs',file,tf,flags,tg,inF,text,tt,inB e1 (by rw [e2];intro z;cases z) (fun _ _ z=>by rw [e3] at z;cases z),e2,e3,r⟩
  have hBb:(kD s₁.heap H).BuiltinsAt mg Pt:=by
   obtain ⟨bm,ob,h1,h2,h3,h4,h5,h6⟩:=hbm;refine ⟨bm,ob,h1,h2,fun z=>?_,fun z=>?_,inB h3 (by rw [h4];intro z;cases z) (fun _ _ z=>by rw [h6] at z;cases z),h4,h5,h6⟩
   ·obtain ⟨o,es,ep,e,d,_⟩:=hns;rw [z,e] at h3;cases h3;rw [d] at h6;cases h6
   ·rw [z,hP] at h3;cases h3;cases h4
  have e0:qE P w K mg (kD s₁.heap H) callerA [] s₁ H:=⟨rfl,hM,fun b o e=>gL e,Nat.le_of_eq (JF _ _),trivial,fun b hb=>absurd (show b ∈ ([]:List Addr) from hb) (by simp),hok,.of_eq hg⟩;refine codeAny_mono ((F _ hKb (nsK hns) hCb hBb).run callerA [] s₁ H ⟨[.ref a],[]⟩ [.ref a] [.ref a] _ _ hr e0 (hbind s₁ (.ref a)) (.cons rfl .nil) (hsp H hO hS)) fun r s' h=>?_
  cases r with
  | error e=>exact (hCX H e s' h).elim
  | ok fl=>
   cases fl with
   | next=>exact False.elim h
   | brk=>exact False.elim h
   | cont=>exact False.elim h
   | ret u=>
    obtain ⟨v,H',os,bare,un,hok',r',q⟩:=h;have q':v=.bl true:=q;subst q';obtain rfl:u=Value.bool true:=r';obtain ⟨more,eP⟩:=un.tbls Pt _ hO.1;have eP2:s'.heap.get? Pt=some { cls:=.none,data:=.fields (#[] ++ more) }:=hok' _ _ eP;have kp:∀ b o,b ≠ Pt→s₁.heap.get? b=some o→s'.heap.get? b=some o:=fun b o nb e=>by
     rcases hO.2 b with z | z | ⟨ob,xs,z⟩
     ·exact un.keep b o e z (by intro z;exact absurd (show b ∈ ([]:List Addr) from z) (by simp)) (by simp)
     ·exact absurd z nb
     ·have z2:=un.frzs b ob _ z;obtain ⟨e1,_⟩:=hok b _ z;obtain ⟨e2,_⟩:=hok' b _ z2;rw [e] at e1;cases e1;exact e2
    refine ⟨rfl,⟨fun b o e=>?_,fun b o e=>?_⟩,os,bare⟩
    ·by_cases hbP:b=Pt
     ·subst hbP;rw [hP] at e;cases e;exact .inr (.inl ⟨(hC.tab hP).isCodeTable,rfl,#[],more,rfl,eP2⟩)
     ·exact .inl (kp b o hbP e)
    ·by_cases hbP:b=Pt
     ·subst hbP;exact ⟨_,eP2⟩
     ·exact ⟨o,kp b o hbP e⟩
 have okT:∀ H:Hp,qd P w H s₁.heap Pt (.tbl #[]):=fun _=>hP
 cases hk:K.lookup a with
 | some o=>
  have e:=KX a o hk;rw [ha] at e;cases e;refine core (fun b=>if b=Pt then some (.tbl #[]) else none) ⟨if_pos rfl,fun b=>?_⟩ (.inr ⟨_,vs.toArray,_,hk,rfl,rfl,rfl,by rw [List.size_toArray,lenV];exact hl,by simpa using rv⟩) (fun b u z=>?_) (fun b z=>?_) fun z=>absurd (if_neg (Ne.symm hPa)) z
  ·by_cases hb:b=Pt
   ·exact .inr (.inl hb)
   ·exact .inl (if_neg hb)
  ·by_cases hb:b=Pt
   ·have z':=(if_pos hb).symm.trans z;cases z';subst hb;exact okT _
   ·have z':=(if_neg hb).symm.trans z;cases z'
  ·by_cases hb:b=Pt
   ·exact .inl hb
   ·exact absurd (if_neg hb) z
 | none=>
  have ea:(fun b=>if b=Pt then some (HO.tbl #[]) else if b=a then some (.frz { cls:=.type "list",data:=.seq vs.toArray } (.lst (ns.map V.int))) else none) a=some (.frz { cls:=.type "list",data:=.seq vs.toArray } (.lst (ns.map V.int))):=by
   show (if a=Pt then _ else if a=a then _ else _)=_;rw [if_neg (Ne.symm hPa),if_pos rfl]
  refine core (fun b=>if b=Pt then some (.tbl #[]) else if b=a then some (.frz { cls:=.type "list",data:=.seq vs.toArray } (.lst (ns.map V.int))) else none) ⟨if_pos rfl,fun b=>?_⟩ (.inl (.inr ⟨_,ea⟩)) (fun b u z=>?_) (fun b z=>?_) fun _=>hk
  ·by_cases hb:b=Pt
   ·exact .inr (.inl hb)
   ·by_cases hb2:b=a
    ·exact .inr (.inr ⟨_,_,by rw [hb2];exact ea⟩)
    ·exact .inl ((if_neg hb).trans (if_neg hb2))
  ·by_cases hb:b=Pt
   ·have z':=(if_pos hb).symm.trans z;cases z';subst hb;exact okT _
   ·by_cases hb2:b=a
    ·subst hb2;rw [ea] at z;cases z;exact ⟨ha,by rw [List.length_map];exact hl,vs,_,rv,ha⟩
    ·have z':=((if_neg hb).trans (if_neg hb2)).symm.trans z;cases z'
  ·by_cases hb:b=Pt
   ·exact .inl hb
   ·by_cases hb2:b=a
    ·exact .inr hb2
    ·exact absurd ((if_neg hb).trans (if_neg hb2)) z
theorem rH {l:PySem.W.OpenLaw} {n k:Nat} {q:Program} {loose:List Str} {XP:(Str→Option Value)→Heap→Prop} {YP:World→Heap→Prop} {d:DefRec} {K:Params→PySem.W.Frag} {CX:CXT} {sp:PySem.W.Frag→Addr→Sp} {x fx:Str}
  (hn:l.most=some n) (hn2:n ≤ sizeLine) (hdf:d.params.defaults=[]) (hr:ui k callerA)
  (hY:∀ (w:World) (h:Heap),YP w h→(K w.params).In h) (hK:∀ p,PySem.W.noTabs (K p)=true) (hfx:((recsOf q).any fun e=>e.name == fx)=true)
  (F:∀ (w:World) (mg:Str→Option Value) (fa:Addr) (h:Heap),(K w.params).In h→h.Ns mainGlobals mg→mg d.name=some (.ref fa) →
   ∃ fd:FuncData,(∀ (s:Shared) (u:Value),BindsTo s fd ⟨[u],[]⟩ [(x,u)]) ∧
    ∀ (base:Heap) (c Pt:Addr),(K w.params).In base→base.Ns mainGlobals mg→PySem.W.CodeHd base c Pt→base.BuiltinsAt mg Pt→(∀ a o fd',mg fx=some (.ref a)→(K w.params).lookup a=some o→o.data=.func fd'→fd'.code=.ref c) →
     Eb l.prog w (K w.params) mg base CX k fa fd [x] (sp (K w.params) Pt))
  (hsp:∀ (K:PySem.W.Frag) (H:Hp) (a Pt:Addr) (ns:List Int),ns.length ≤ n→mH Pt H→SqL K H a (ns.map V.int)→sp K Pt [.ref a] H (fun v _=>v=.bl true) fun _ _ _=>False)
  (hCX:∀ (H:Hp) (s:Shared) (e:Value) (s':Shared),CX [] H s (fun _ _ _=>False) e s'→False) :
  PySem.W.WalkO q loose XP YP l.row.toRowW d [] (fun f vs=>PySem.call f vs):=by
 refine Att.attach_call hn hdf fun w s₀ s₁ mg mb fa o pm cd doc a vs ns G Y ho hd hcd hmg hobj hints hlen hg=>?_
 have KX:=hY w _ Y;obtain ⟨fd,hb,hF⟩:=F w mg fa _ KX G.T.g hmg;obtain ⟨dr,hdr,hdn⟩:=List.any_eq_true.mp hfx;have hdn:dr.name=fx:=beq_iff_eq.mp hdn;obtain ⟨fa',fo,fd',c,Pt,h1,h2,h3,h4,h5,h6⟩:=G.T.tab dr hdr;rw [hdn] at h1;exact bE (c:=c) (Pt:=Pt) KX (hK w.params) G.T.g G.T.b G.T.builtins G.T.nolimit hg G.T.bmain (PySem.W.CodeHd.of h5 h6) h6.2 hobj hints (Nat.le_trans hlen hn2) hr
  (fun base b1 b2 b3 b4=>hF base c Pt b1 b2 b3 b4 fun a' o' fd2 e1 e2 e3=>by
   rw [h1] at e1;cases e1;have e4:=KX _ _ e2;rw [h2] at e4;cases e4;rw [h3] at e3;cases e3;exact h4) hb (fun H hO hS=>hsp (K w.params) H a Pt ns hlen hO hS) fun H e s'=>hCX H s₁ e s'
theorem FJ {K:PySem.W.Frag} {mg:Str→Option Value} {x qual:Str} {st:Stmt} {f c:Addr} {fd:FuncData} {y:Str} (F:Fun K x qual st f fd) (m:mg y=some (.ref f))
  (h:∀ a o fd',mg y=some (.ref a)→K.lookup a=some o→o.data=.func fd'→fd'.code=.ref c):fd.code=.ref c:=by
 obtain ⟨oc,od,kV,doc,pm,an,cdv,ct,osl,e,lk,_⟩:=F.ex;exact h f _ fd m lk rfl
end L2
namespace L2
open PySem PySem.Spec PyProof.Rows
theorem Lu:bootBuiltins "divmod"=some (.builtin "divmod"):=by decide +kernel
end L2
namespace L2
open PySem PySem.Spec PyProof.Rows
section
variable {P:Program} {w:World} {A:Around} {E:Value→Shared→Prop} {s:Shared}
structure KP (h:Heap) (d:Addr) (o:Obj) (es:Array DictEntry) (ep:Nat):Prop where
 at_:h.get? d=some o
 ex:o.ExactDict
 dat:o.data=.dict es ep
end
noncomputable def AtO (a:Addr) (o:Obj):Heap→Prop:=fun h=>h.get? a=some o
structure LP (P:Program) (w:World) (H:Hp) (a:Addr) (kvs:List (List Key × V)) (o:Obj) (es:Array DictEntry) (ep:Nat) (xs:List (List Key × Addr × Value)):Prop where
 at_:H a=some (.ext (AtO a o))
 ex:o.ExactDict
 dat:o.data=.dict es ep
 ent:es.toList=xs.map (entryOfKey (tupleKind (Pd P w)))
 nd:(xs.map (·.1)).Nodup
 ks:Paired (fun (p:List Key × V) (q:List Key × Addr × Value)=>p.1=q.1∧H q.2.1=some (.tup (p.1.map kV))∧gd p.2 q.2.2) kvs xs
 sz:kvs.length ≤ sizeLine
 ns:(a == sysModules)=false
section
variable {P:Program} {w:World} {H H':Hp} {h:Heap} {a:Addr} {kvs:List (List Key × V)}
end
section
variable {X:Cx} {pins:List (Addr × Obj)} {σ:St} {H:Hp} {s:Shared} {a b:Addr} {kvs:List (List Key × V)} {k:List Key} {v:V} {r:Value} {A:Around} {E:Value→Shared→Prop}
end
section
variable {X:Cx} {o i e value:Expr} {pos pos' tpos:Pos} {td ty tv:TE}
end
section
variable {X:Cx} {tg:Expr}
end
end L2
namespace L2
open PySem PySem.Spec PyProof.Rows
noncomputable def aO (p d:Addr):Heap→Prop:=fun h=>h.IsItemsView p d
theorem aO.ok {P:Program} {w:World} {H:Hp} {h:Heap} {p d:Addr} (z:aO p d h):qd P w H h p (.ext (aO p d)):=
 ⟨z,let ⟨o,ho,_⟩:=z;⟨o,ho⟩,fun _ _ z1 k=>let ⟨o,ho,x⟩:=z1;⟨o,k o ho,x⟩⟩
structure fO (H H':Hp) (l:Addr) (as:List Addr) (kvs:List (Key × V)):Prop where
 same:∀ b o,H b=some o→H' b=some o
 fresh:H l=none
 frAll:∀ a ∈ as,H a=none
 at_:H' l=some (.lst (as.map V.ref))
 len:as.length=kvs.length
 al:∀ (j:Nat) (a:Addr) (q:Key × V),as[j]? = some a→kvs[j]? = some q→H' a=some (.tup [kV q.1,q.2])
 only:∀ b o,H' b=some o→H b=some o∨o=.lst (as.map V.ref)∨∃ q ∈ kvs,o=.tup [kV q.1,q.2]
section
variable {X:Cx}
end
end L2
namespace L2
open PySem PySem.Spec PyProof.Rows
section
open AutoSeq1 (wpAny_loadPart')
open MeetsSeq MeetsSeq2 MeetsSeq3 SeqRoads2
variable {P:Program} {w:World} {l b:Addr} {xs ys:Array Value} {n m:Nat} {dd de:Option Addr} {sl sm:Array (Option Value)}
end
section
variable {X:Cx} {pins:List (Addr × Obj)} {σ:St} {H:Hp} {s:Shared}
structure DL (H:Hp) (p:Addr) (ps:List Addr) (ks:List (List (Key × V))):Prop where
 at_:H p=some (.lst (ps.map V.ref))
 len:ps.length=ks.length
 al:∀ (j:Nat) (a:Addr) (kvs:List (Key × V)),ps[j]? = some a→ks[j]? = some kvs→H a=some (.dK kvs)
end
section
variable {X:Cx}
end
end L2
namespace L2
open PySem PySem.Spec PyProof.Rows
section
variable {X:Cx} {pins:List (Addr × Obj)} {σ:St} {H:Hp} {s:Shared} {d:Addr} {o:Obj} {kvs:List (Key × V)}
end
section
variable {X:Cx} {tg:Expr}
end
end L2
namespace L2
open PySem PySem.Spec PyProof.Rows
structure yN (X:Cx) (pins:List (Addr × Obj)) (H:Hp) (S:Addr):Prop where
 nn:H S=none
 nl:S ≠ X.env.locals
 ge:X.s₀.heap.objs.size ≤ S
 nc:∀ x c,X.env.cells.lookup x=some c→c ≠ S
 np:∀ p ∈ X.pn ++ pins,p.1 ≠ S
 nf:S ∉ X.fs
theorem yN.of {X:Cx} {pins:List (Addr × Obj)} {σ:St} {H:Hp} {s:Shared} {S:Addr} (I:Inv X pins σ H s) (h:s.heap.objs.size ≤ S):yN X pins H S:=
 ⟨I.hok.fresh h,fun z=>absurd (Nat.lt_of_lt_of_le I.lt h) (by rw [z];exact Nat.lt_irrefl _),Nat.le_trans I.sz h,fun x c e z=>by
  obtain ⟨v,o,ho,_⟩:=I.cell x c e;exact absurd (Nat.lt_of_lt_of_le (Heap.lt_size ho) h) (by rw [z];exact Nat.lt_irrefl _),fun p hp z=>by
  have ho:=(I.pin p hp).1;exact absurd (Nat.lt_of_lt_of_le (Heap.lt_size ho) h) (by rw [z];exact Nat.lt_irrefl _),I.nofs h⟩
theorem yN.turn {X:Cx} {pins:List (Addr × Obj)} {σ:St} {H:Hp} {s:Shared} {S:Addr} {h':Heap} {t':Nat} (o:yN X pins H S) (I:Inv X pins σ H s) (k:∀ b o,b ≠ S→s.heap.get? b=some o→h'.get? b=some o):Inv X pins σ H { s with heap:=h',toks:=t' }:=
 I.turned k o.nn o.nl (.inr o.ge) o.nc o.np
section
variable {X:Cx} {A:Around} {pins:List (Addr × Obj)} {σ:St} {H:Hp} {l q I S:Addr} {n:Nat} {P:Nat→Value→Prop} {R:Result→Shared→Prop}
end
end L2
namespace L2
open PySem PySem.Spec PyProof.Rows
structure FP (p y z:Str) (sc:Scope):Prop where
 kind:sc.kind=.function
 co:sc.isCoroutine=false
 gen:sc.isGenerator=false
 ne:y ≠ z
 par:sc.names.lookup p=some .local
 yf:sc.names.lookup y=some .free
 zf:sc.names.lookup z=some .free
 nocell:∀ z ∈ sc.names,z.2 ≠ .cell
 two:∀ b ∈ sc.names,b.2=.free→b.1=y∨b.1=z
section
variable {X:Cx} {A:Around} {pins:List (Addr × Obj)} {σ:St} {H:Hp} {s:Shared} {k:Nat} {f c' c1 c2:Addr} {q p y z:Str} {params:Arguments} {body:Expr} {scope:Scope} {v1 v2:V} {t:TE}
end
end L2
namespace L2
open PySem PySem.Spec PyProof.Rows
theorem SqL.p {K:PySem.W.Frag} {H H':Hp} {a Pt:Addr} {xs:List V} {pos:Pos} {q:Str} (s:We Pt H H') (t:Tab H Pt pos q) (h:SqL K H a xs):SqL K H' a xs:=by
 rcases h with (h | ⟨o,h⟩) | h
 ·exact .inl (.inl (s _ _ (t.ne h (fun _ z=>by cases z)) h))
 ·exact .inl (.inr ⟨o,s _ _ (t.ne h (fun _ z=>by cases z)) h⟩)
 ·exact .inr h
end L2
namespace L2
open PySem PySem.Spec PyProof.Rows
end L2
namespace L2
open PySem PySem.Spec PyProof.Rows
end L2
namespace L2
open PySem PySem.Spec PyProof.Rows
end L2
namespace L2
open PySem PySem.Spec PyProof.Rows
end L2
namespace L2
open PySem PySem.Spec PyProof.Rows
theorem fG (i:Nat) (σ:St) (H:Hp) (Q:VK):VN i σ H Q=(iJ H Q σ[i]?):=rfl
theorem uM (v:V) (x_0:St) (H:Hp) (Q:VK):tC v x_0 H Q=(Q v H):=rfl
theorem zL (t:TE) (σ:St) (H:Hp) (Q:(Bool→Hp→Prop)):tB t σ H Q=(t σ H fun x H1=>BlQ x fun c=>Q c H1):=rfl
theorem AF (t u:TT) (σ:St) (H:Hp) (Q:(Bool→Hp→Prop)):qO t u σ H Q=(t σ H fun c H1=>if c=true then u σ H1 Q else Q false H1):=rfl
theorem KI (t u:TT) (σ:St) (H:Hp) (Q:(Bool→Hp→Prop)):tOr t u σ H Q=(t σ H fun c H1=>if c=true then Q true H1 else u σ H1 Q):=rfl
theorem EE (t:TT) (σ:St) (H:Hp) (Q:(Bool→Hp→Prop)):rO t σ H Q=(t σ H fun c H1=>Q (!c) H1):=rfl
theorem AA (ta tb:TE) (σ:St) (H:Hp) (Q:VK):QM ta tb σ H Q=(ta σ H fun x H1=>BlQ x fun c=>if c=true then tb σ H1 Q else Q (.bl false) H1):=rfl
theorem dE (ta tb:TE) (σ:St) (H:Hp) (Q:VK):NO ta tb σ H Q=(ta σ H fun x H1=>BlQ x fun c=>if c=true then Q (.bl true) H1 else tb σ H1 Q):=rfl
theorem ZH (t:TT) (ta tb:TE) (σ:St) (H:Hp) (Q:VK):tIf t ta tb σ H Q=(t σ H fun c H1=>if c=true then ta σ H1 Q else tb σ H1 Q):=rfl
theorem Ii (D:nj) (σ:St) (H:Hp):wM  D σ H=(D.nx σ H):=rfl
theorem Ab (t u:TS) (D:nj) (σ:St) (H:Hp):kP t u D σ H=(t { D with nx:=u D } σ H):=rfl
theorem MA (te:TE) (D:nj) (σ:St) (H:Hp):gM te D σ H=(te σ H fun _ H1=>D.nx σ H1):=rfl
theorem kG (te:TE) (D:nj) (σ:St) (H:Hp):QN te D σ H=(te σ H D.rt):=rfl
theorem Hw (x_0:nj) (x_1:St) (x_2:Hp):OI  x_0 x_1 x_2=(False):=rfl
theorem Ig (i:Nat) (v:V) (σ:St) (H:Hp) (Q:(St→Hp→Prop)):Gr i v σ H Q=(Q (σ.set i (some v)) H):=rfl
theorem vD (vs:List V) (σ:St) (H:Hp) (Q:(St→Hp→Prop)):zN  vs σ H Q=(vs=[]∧Q σ H):=rfl
theorem jA (t:TG) (u:TGs) (vs:List V) (σ:St) (H:Hp) (Q:(St→Hp→Prop)):FB t u vs σ H Q=(∃ v r,vs=v :: r∧t v σ H fun σ' H'=>u r σ' H' Q):=rfl
theorem lF (K:PySem.W.Frag) (n:Nat) (t:TGs) (v:V) (σ:St) (H:Hp) (Q:(St→Hp→Prop)):NM K n t v σ H Q=(∃ a xs,v=.ref a∧SqT K H a xs∧xs.length=n∧t xs σ H Q):=rfl
theorem mD (to ti:TE) (t:AN) (v:V) (σ:St) (H:Hp) (Q:(St→Hp→Prop)):dP to ti t v σ H Q=(to σ H fun o H1=>ti σ H1 fun i H2=>t o i v H2 fun H3=>Q σ H3):=rfl
theorem BF (te:TE) (g:TG) (D:nj) (σ:St) (H:Hp):KM te g D σ H=(te σ H fun x H1=>g x σ H1 D.nx):=rfl
theorem BD (i:Nat) (te:TE) (ti:TIp) (D:nj) (σ:St) (H:Hp):EO i te ti D σ H=(∃ x,σ[i]? = some (some x)∧te σ H fun y H1=>ti x y H1 fun z H2=>D.nx (σ.set i (some z)) H2):=rfl
theorem Gz (K:PySem.W.Frag) (tl:TE) (σ:St) (H:Hp) (R:(It→Hp→Prop)):dM K tl σ H R=(tl σ H fun x H1=>yh x fun a=>(∃ xs,SqL K H1 a xs)∧R (Itl K a) H1):=rfl
theorem OD (K:PySem.W.Frag) (tl:TE) (σ:St) (H:Hp) (R:(It→Hp→Prop)):uO K tl σ H R=(tl σ H fun x H1=>yh x fun a=>(∃ xs,SqT K H1 a xs)∧R (Itt K a) H1):=rfl
theorem cI (r:R2) (ta tb:TE) (σ:St) (H:Hp) (Q:VK):tOp r ta tb σ H Q=(ta σ H fun x H1=>tb σ H1 fun y H2=>r x y H2 Q):=rfl
theorem GI (r:V→Hp→VK→Prop) (ta:TE) (σ:St) (H:Hp) (Q:VK):tUn r ta σ H Q=(ta σ H fun x H1=>r x H1 Q):=rfl
theorem gN (C:Int→Int→Prop) (g:Int→Int→V) (x:V) (y:V) (H:Hp) (Q:VK):rI C g x y H Q=(mj x fun i=>mj y fun j=>C i j∧Q (g i j) H):=rfl
theorem xI (g:Int→Int→V) (x:V) (y:V) (H:Hp) (Q:VK):rI0 g x y H Q=(mj x fun i=>mj y fun j=>Q (g i j) H):=rfl
theorem lN (g:Int→V) (x:V) (H:Hp) (Q:VK):rU g x H Q=(mj x fun i=>Q (g i) H):=rfl
theorem nJ (x:V) (y:V) (H:Hp) (Q:VK):rEq  x y H Q=(rM x y=true∧Q (.bl (decide (x=y))) H):=rfl
theorem zI (x:V) (y:V) (H:Hp) (Q:VK):rNe  x y H Q=(rM x y=true∧Q (.bl (!decide (x=y))) H):=rfl
theorem jz (t:TE) (σ:St) (H:Hp) (Q:(Bool→Hp→Prop)):xJ t σ H Q=(t σ H fun x H'=>BlQ x fun k=>Q k H'):=rfl
theorem Fw (r r':R2) (ta tb tc:TE) (σ:St) (H:Hp) (Q:VK):mJ r r' ta tb tc σ H Q=(ta σ H fun x H1=>tb σ H1 fun y H2=>r x y H2 fun z H3=>BlQ z fun k=>
 (if k=true then tc σ H3 fun w' H4=>r' y w' H4 Q else Q (.bl false) H3)):=rfl
theorem qF (K:PySem.W.Frag) (ta:TE) (f:Str) (σ:St) (H:Hp) (Q:VK):VO K ta f σ H Q=(ta σ H fun x H1=>yh x fun a=>∃ v,oj K H1 a f v∧Q v H1):=rfl
theorem XC (K:PySem.W.Frag) (ta tv:TE) (f:Str) (D:nj) (σ:St) (H:Hp):FO K ta tv f D σ H=(tv σ H fun y H1=>ta σ H1 fun x H2=>yh x fun a=>∃ C dx fs,H2 a=some (.ins C dx fs)∧Cls K C∧Ub K C f∧fs.length < 1000 ∧
 D.nx σ (upd H2 a (.ins C dx (Yh f y fs)))):=rfl
theorem ou (K:PySem.W.Frag) (ta tv:TE) (rd:V→V→Hp→VK→Prop) (f:Str) (D:nj) (σ:St) (H:Hp):lG K ta tv rd f D σ H=(ta σ H fun x H1=>∃ a C dx fs v,x=.ref a∧H1 a=some (.ins C dx fs)∧Cls K C∧Ub K C f∧fs.lookup f=some v ∧
 tv σ H1 fun y H2=>rd v y H2 fun z H3=>∃ dx' fs',H3 a=some (.ins C dx' fs')∧fs'.length < 1000∧D.nx σ (upd H3 a (.ins C dx' (Yh f z fs')))):=rfl
theorem QF (x:V) (y:V) (H:Hp) (Q:VK):GO  x y H Q=(∃ i j,x=.int i∧y=.int j∧Q (.int (i + j)) H):=rfl
theorem CF (x_0:St) (H:Hp) (Q:(List V→Hp→Prop)):CN  x_0 H Q=(Q [] H):=rfl
theorem Lz (ta:TE) (tr:TA) (σ:St) (H:Hp) (Q:(List V→Hp→Prop)):tL ta tr σ H Q=(ta σ H fun x H1=>tr σ H1 fun xs H2=>Q (x :: xs) H2):=rfl
theorem eD (t:TA) (σ:St) (H:Hp) (Q:VK):SO t σ H Q=(t σ H fun xs H1=>xs.length ≤ sizeLine∧∀ p,H1 p=none→Q (.ref p) (upd H1 p (.tup xs))):=rfl
theorem UC (t:TA) (σ:St) (H:Hp) (Q:VK):bP t σ H Q=(t σ H fun xs H1=>xs.length ≤ sizeLine∧∀ p,H1 p=none→Q (.ref p) (upd H1 p (.lst xs))):=rfl
theorem aB (sp:Sp) (dvs:List V) (E:XK) (t:TA) (σ:St) (H:Hp) (Q:VK):NH sp dvs E t σ H Q=(t σ H fun vs H1=>sp (vs ++ dvs) H1 Q E):=rfl
theorem VA (C:Addr) (m:Str) (sp:Sp) (dvs:List V) (E:XK) (ta:TE) (t:TA) (σ:St) (H:Hp) (Q:VK):AK C m sp dvs E ta t σ H Q=(ta σ H fun x H1=>yh x fun a=>∃ dx fs,H1 a=some (.ins C dx fs)∧fs.lookup m=none ∧
 t σ H1 fun vs H2=>sp (x :: (vs ++ dvs)) H2 Q E):=rfl
theorem Ez (C:Addr) (sp:Sp) (dvs:List V) (E:XK) (t:TA) (σ:St) (H:Hp) (Q:VK):qM C sp dvs E t σ H Q=(t σ H fun vs H1=>∀ x dx,H1 x=none→H1 dx=none→dx ≠ x →
 sp (.ref x :: (vs ++ dvs)) (upd (upd H1 dx (.own x)) x (.ins C dx [])) (fun v H2=>v=.non∧Q (.ref x) H2) E):=rfl
theorem gJ (r:List V→Hp→VK→Prop) (t:TA) (σ:St) (H:Hp) (Q:VK):tCB r t σ H Q=(t σ H fun vs H1=>r vs H1 Q):=rfl
theorem Jt (x_0:St) (H:Hp) (Q:(Option Int→Hp→Prop)):FF  x_0 H Q=(Q none H):=rfl
theorem QA (t:TE) (σ:St) (H:Hp) (Q:(Option Int→Hp→Prop)):bM t σ H Q=(t σ H fun x H1=>mj x fun i=>Q (some i) H1):=rfl
theorem UI (r:V→Option Int→Option Int→Hp→VK→Prop) (te:TE) (tl th:TO) (σ:St) (H:Hp) (Q:VK):tSl r te tl th σ H Q=(te σ H fun x H1=>tl σ H1 fun l H2=>th σ H2 fun u H3=>r x l u H3 Q):=rfl
theorem FE (K:PySem.W.Frag) (x:V) (lo:Option Int) (hi:Option Int) (H:Hp) (Q:VK):WO K x lo hi H Q=(∃ a xs,x=.ref a∧SqT K H a xs ∧
 ¬ (HT.sIx xs.length 0 lo=0∧HT.sIx xs.length xs.length hi=xs.length)∧∀ p,H p=none→Q (.ref p) (upd H p (.tup (uE xs lo hi)))):=rfl
theorem YF (K:PySem.W.Frag) (x:V) (y:V) (H:Hp) (Q:VK):vO K x y H Q=(yh x fun p=>∃ xs,mj y fun i=>SqL K H p xs∧∃ v,atI xs i=some v∧Q v H):=rfl
theorem wC (K:PySem.W.Frag) (x:V) (y:V) (H:Hp) (Q:VK):tO K x y H Q=(yh x fun p=>∃ xs,mj y fun i=>SqT K H p xs∧∃ v,atI xs i=some v∧Q v H):=rfl
theorem oF (x:V) (y:V) (H:Hp) (Q:VK):YO  x y H Q=(∃ z i c,x=.str z∧y=.int i∧z.length ≤ sizeLine∧atI z.cps.toList i=some c∧Q (.str ⟨#[c]⟩) H):=rfl
theorem GA (o:V) (i:V) (v:V) (H:Hp) (Q:(Hp→Prop)):pM  o i v H Q=(yh o fun p=>∃ xs,mj i fun k=>H p=some (.lst xs)∧∃ j,ixN xs.length k=some j∧Q (upd H p (.lst (xs.set j v)))):=rfl
theorem yF (K:PySem.W.Frag) (x:V) (lo:Option Int) (hi:Option Int) (H:Hp) (Q:VK):MO K x lo hi H Q=(∃ a xs,x=.ref a∧SqL K H a xs∧∀ p,H p=none→Q (.ref p) (upd H p (.lst (uE xs lo hi)))):=rfl
theorem bI (K:PySem.W.Frag) (neg:Bool) (x:V) (y:V) (H:Hp) (Q:VK):rIn K neg x y H Q=(∃ p xs,y=.ref p∧(SqL K H p xs∨SqT K H p xs)∧Nj x=true∧xs.all Nj=true∧Q (.bl (if neg then !inV x xs else inV x xs)) H):=rfl
theorem JE (K:PySem.W.Frag) (T:String) (r:V→List V→Hp→VK→Prop) (to:TE) (σ:St) (H:Hp) (Q:VK):JO K T r to σ H Q=(to σ H fun x H1=>tyV K T x H1∧r x [] H1 Q):=rfl
theorem JI (K:PySem.W.Frag) (T:String) (r:V→List V→Hp→VK→Prop) (to:TE) (t:TA) (σ:St) (H:Hp) (Q:VK):tBM K T r to t σ H Q=(to σ H fun x H1=>tyV K T x H1∧t σ H1 fun xs H2=>r x xs H2 Q):=rfl
theorem su (x:V) (vs:List V) (H:Hp) (Q:VK):KC  x vs H Q=(yh x fun l=>GB vs fun y=>∃ xs,H l=some (.lst xs)∧xs.length < sizeLine∧Q .non (upd H l (.lst (xs ++ [y])))):=rfl
theorem dw (x:V) (vs:List V) (H:Hp) (Q:VK):DI  x vs H Q=(∃ l xs i k y,x=.ref l∧vs=[.int i]∧H l=some (.lst xs)∧-(2 ^ 63) ≤ i∧i < 2 ^ 63∧seqIndex? i xs.length=some k∧xs[k]? = some y∧Q y (upd H l (.lst (xs.eraseIdx k)))):=rfl
theorem aG (x:V) (y:V) (H:Hp) (Q:VK):aP  x y H Q=(∃ l k xs,x=.ref l∧y=.int k∧H l=some (.lst xs)∧-(2 ^ 63) ≤ k∧k < 2 ^ 63∧xs.length * k.toNat ≤ sizeLine ∧
 ∀ p,H p=none→Q (.ref p) (upd H p (.lst (List.replicate k.toNat xs).flatten))):=rfl
theorem zz (td ty:TE) (σ:St) (H:Hp) (Q:VK):qN td ty σ H Q=(td σ H fun x H1=>ty σ H1 fun y H2=>yh x fun a=>∃ v,Rr H2 a y (some v)∧Q v H2):=rfl
theorem au (ty td:TE) (σ:St) (H:Hp) (Q:VK):GD ty td σ H Q=(ty σ H fun y H1=>td σ H1 fun x H2=>yh x fun a=>∃ o,Rr H2 a y o∧Q (.bl (!o.isSome)) H2):=rfl
theorem uA (td ty tv:TE) (D:nj) (σ:St) (H:Hp):aM td ty tv D σ H=(tv σ H fun v H1=>td σ H1 fun x H2=>ty σ H2 fun y H3=>yh x fun a=>∃ H4,KB H3 a y v H4∧D.nx σ H4):=rfl
theorem Zv (x_0:St) (H:Hp) (Q:VK):sI  x_0 H Q=(∀ p,H p=none→Q (.ref p) (upd H p (.dK []))):=rfl
theorem mz (trs:List (TE × TE)) (σ:St) (H:Hp) (Q:VK):vM trs σ H Q=(∀ p,H p=none→bx trs σ (upd H p (.dK [])) fun ps H2=>H2 p=some (.dK [])∧∃ kvs:List (Key × V),ps=kvs.map (fun kv=>(kV kv.1,kv.2))∧kvs.length ≤ 15∧Q (.ref p) (upd H2 p (.dK (uj [] kvs)))):=rfl
theorem Hz (x_0:St) (H:Hp) (Q:(Bool→Hp→Prop)):Zy  x_0 H Q=(Q true H):=rfl
theorem GF (tl:TE) (σ:St) (H:Hp) (R:(It→Hp→Prop)):XO tl σ H R=(tl σ H fun x H1=>∃ z,x=.str z∧R (Its (aj z)) H1):=rfl
theorem dB (K:PySem.W.Frag) (x:V) (vs:List V) (H:Hp) (Q:VK):WL K x vs H Q=(∃ sep p ys,x=.str sep∧vs=[.ref p]∧SqL K H p (bc ys)∧(ys.map (·.length)).sum + ys.length * sep.length ≤ 16777216∧Q (.str (Txt.join sep ys)) H):=rfl
theorem qx (x:V) (vs:List V) (H:Hp) (Q:VK):lI  x vs H Q=(∃ z y,x=.str z∧vs=[.str y]∧y.length ≠ 0∧z.length + 2 ≤ sizeLine∧(Txt.split z y).length ≤ sizeLine∧∀ p,H p=none→Q (.ref p) (upd H p (.lst (bc (Txt.split z y))))):=rfl
theorem Lw (OK:Addr→Prop) (m:Str) (SPV:Addr→Sp) (E:XK) (ta:TE) (t:TA) (σ:St) (H:Hp) (Q:VK):SE OK m SPV E ta t σ H Q=(ta σ H fun x H1=>∃ a C dx fs,x=.ref a∧H1 a=some (.ins C dx fs)∧OK C∧fs.lookup m=none ∧
 t σ H1 fun vs H2=>SPV C (x :: vs) H2 Q E):=rfl
theorem Xz (K:PySem.W.Frag) (ta:TA) (σ:St) (H:Hp) (R:(It→Hp→Prop)):UL K ta σ H R=(ta σ H fun vs H1=>∃ a,vs=[.ref a]∧(∃ xs,SqL K H1 a xs)∧R (Ite K a) H1):=rfl
theorem Ot (x:V) (vs:List V) (H:Hp) (Q:VK):AC  x vs H Q=(∃ l xs i y,x=.ref l∧vs=[.int i,y]∧H l=some (.lst xs)∧0 ≤ i∧i < 2 ^ 62∧i ≤ (xs.length:Int)∧xs.length < sizeLine∧Q .non (upd H l (.lst (xs.take i.toNat ++ y :: xs.drop i.toNat)))):=rfl
theorem FC (K:PySem.W.Frag) (x:V) (y:V) (H:Hp) (Q:VK):QO K x y H Q=(∃ p q b,x=.ref p∧y=.ref q∧EqH K H 8 (.ref p) (.ref q) b∧Q (.bl (!b)) H):=rfl
theorem gz (ta:TA) (σ:St) (H:Hp) (R:(It→Hp→Prop)):dN ta σ H R=(ta σ H fun vs H1=>∃ i j:Int,vs=[.int i,.int j,.int (-1)]∧(-1073741824 ≤ i∧i < 1073741824∧-1073741824 ≤ j∧j < 1073741824)∧R (Itd i (i - j).toNat) H1):=rfl
theorem aq (K:PySem.W.Frag) (ta:TA) (σ:St) (H:Hp) (Q:VK):iz K ta σ H Q=(ta σ H fun vs H1=>∃ a xs,vs=[.ref a]∧SqL K H1 a xs∧∀ l,H1 l=none→Q (.ref l) (upd H1 l (.lst xs.reverse))):=rfl
theorem gA (K:PySem.W.Frag) (ta:TA) (td:TE) (σ:St) (H:Hp) (Q:VK):uL K ta td σ H Q=(ta σ H fun vs H1=>td σ H1 fun y H2=>∃ l ks,vs=[.ref l]∧SqL K H2 l (List.map V.int ks)∧Q (match ks.min? with | some m=>.int m | none=>y) H2):=rfl
theorem Az (x:V) (vs:List V) (H:Hp) (Q:VK):yx  x vs H Q=(∃ d kvs,x=.ref d∧vs=[]∧H d=some (.dK kvs)∧∀ p,H p=none→Q (.ref p) (upd H p (.ext (pN p d)))):=rfl
theorem xz (x:V) (vs:List V) (H:Hp) (Q:VK):JM  x vs H Q=(∃ d kvs,x=.ref d∧vs=[]∧H d=some (.dK kvs)∧∀ p,H p=none→Q (.ref p) (upd H p (.ext (sG p d)))):=rfl
theorem Fx (q:Str) (params:Arguments) (body:Expr) (scope:Scope) (y:Str) (t:TE) (tf:TE) (ta:TA) (σ:St) (H:Hp) (Q:VK):ID q params body scope y t tf ta σ H Q=(tf σ H fun x H1=>∃ f,x=.ref f∧(∃ cl c',H1 f=some (.ext (fu f q params body scope [(y,cl)] c')))∧ta σ H1 fun vs H2=>∃ a cl c' v,vs=[a] ∧
 H2 f=some (.ext (fu f q params body scope [(y,cl)] c'))∧H2 c'=some (.ext (Ox c' q))∧H2 cl=some (.ext (JA cl v))∧t [some a,some v] (Ir H2 cl) fun x H'=>Q x (upd H' cl (.ext (JA cl v)))):=rfl
noncomputable def zi (J:It) (g:TG) (tb:TS) (D:nj) (σ:St) (H:Hp):Prop:=∃ W:Nat→Nat→St→Hp→Prop,(∃ m,W 0 m σ H)∧∀ i m σ H,W i m σ H →
 (J.stop i H∧D.nx σ H)∨(J.go i H∧∃ N:St→Hp→Prop,(∀ σ' H',N σ' H'→∃ m',m' < m∧W (i + 1) m' σ' H')∧∀ x H',J.yld i H x H'→g x σ H' fun σ2 H2=>tb { D with nx:=N,ct:=N,bk:=D.nx } σ2 H2)
theorem fF (wi:TI) (g:TG) (tb:TS) (D:nj) (σ:St) (H:Hp):ZO wi g tb D σ H=wi σ H fun J H1=>zi J g tb D σ H1:=rfl
noncomputable def ud (J:It) (g:TG) (tc:TT) (te:TE) (σb:St) (Q:VK) (H:Hp):Prop:=∃ W:Nat→Nat→List V→Hp→Prop,(∃ m,W 0 m [] H)∧Iy J g tc te σb Q W
theorem bB (wi:TI) (g:TG) (tc:TT) (te:TE) (sel:List (Option Nat)) (σ:St) (H:Hp) (Q:VK):pK wi g tc te sel σ H Q=wi σ H fun J H1=>ud J g tc te (blk sel σ) Q H1:=rfl
theorem Sz (ta:TA) (σ:St) (H:Hp) (R:It→Hp→Prop):rL ta σ H R=(ta σ H fun vs H1=>GB vs fun x=>mj x fun j=>-4611686018427387904 ≤ j∧j < 4611686018427387904∧R (Itr 0 j.toNat) H1):=rfl
theorem vA (ta:TA) (σ:St) (H:Hp) (R:It→Hp→Prop):oN ta σ H R=(ta σ H fun vs H1=>∃ i j:Int,vs=[.int i,.int j]∧(-4611686018427387904 ≤ i∧i < 4611686018427387904∧-4611686018427387904 ≤ j∧j < 4611686018427387904)∧R (Itr i (j - i).toNat) H1):=rfl
theorem lO {α β:Type} (f:α→β):[].map f=[]:=rfl
theorem ON {α β:Type} (f:α→β) (a:α) (l:List α):(a :: l).map f=f a :: l.map f:=rfl
theorem cO {α:Type} (l:List α):[] ++ l=l:=rfl
theorem IN {α:Type} (a:α) (l r:List α):(a :: l) ++ r=a :: (l ++ r):=rfl
theorem DN {α:Type} (a b:α) (l:List α):(a :: l).set 0 b=b :: l:=rfl
theorem jO {α:Type} (a b:α) (l:List α) (n:Nat):(a :: l).set (n + 1) b=a :: l.set n b:=rfl
theorem iO {α:Type} (a:α) (l:List α):(a :: l)[0]? = some a:=rfl
theorem MN {α:Type} (a:α) (l:List α) (n:Nat):(a :: l)[n + 1]? = l[n]?:=rfl
theorem YN {α:Type}:([]:List α).length=0:=rfl
theorem GN {α:Type} (a:α) (l:List α):(a :: l).length=l.length + 1:=rfl
theorem dBn {α β:Type} (f:α→Option β):(none:Option α).bind f=none:=rfl
theorem dBs {α β:Type} (f:α→Option β) (a:α):(some a).bind f=f a:=rfl
theorem dJs {α:Type} (a:Option α):(some a).join=a:=rfl
theorem dJn {α:Type}:(none:Option (Option α)).join=none:=rfl
theorem OF (sel:List (Option Nat)) (σ:St):blk sel σ=sel.map fun o=>o.bind fun j=>(σ[j]?).join:=rfl
theorem Vb {c:TT} {t u:TS} {D:nj} {σ:St} {H:Hp} (b:Bool) (hc:∀ Q:Bool→Hp→Prop,Q b H→c σ H Q) (h1:b=true→t D σ H) (h2:b=false→u D σ H):nO c t u D σ H:=by
 refine hc _ ?_;cases b with
 | true=>exact h1 rfl
 | false=>exact h2 rfl
theorem vp {c:TT} {t u:TS} {D:nj} {σ:St} {H:Hp} (R:Bool→Hp→Prop) (hc:∀ Q:Bool→Hp→Prop,(∀ b H',R b H'→Q b H')→c σ H Q) (h1:∀ H',R true H'→t D σ H') (h2:∀ H',R false H'→u D σ H'):nO c t u D σ H:=by
 refine hc _ fun b H' r=>?_
 cases b with
 | true=>exact h1 H' r
 | false=>exact h2 H' r
theorem Mb {t:TS} {D:nj} {σ:St} {H:Hp} (R:St→Hp→Prop) (h:∀ D':nj,(∀ σ H,R σ H→D'.nx σ H)→D'.rt=D.rt→D'.bk=D.bk→D'.ct=D.ct→t D' σ H) (hR:∀ σ H,R σ H→D.nx σ H):t D σ H:=h D hR rfl rfl rfl
theorem zzC {t:TS} {D:nj} {σ:St} {H:Hp} (R:St->Hp->Prop) (h:∀ D':nj,(∀ σ H,R σ H->D'.nx σ H)->t D' σ H) (hR:∀ M,M=D.nx->∀ σ H,R σ H->M σ H):t D σ H:=h D (hR _ rfl)
theorem zzP {p:Prop} (h:∀ q,q=p->q):p:=h p rfl
theorem zzD {t:TS} {D:nj} {σ:St} {H:Hp} (R:St->Hp->Prop) (h:∀ D':nj,(∀ σ H,R σ H->D'.nx σ H)->t D' σ H) (hR:∀ σ H,R σ H->D.nx σ H):t D σ H:=h D hR
theorem zS {t u:TS} {D:nj} {σ:St} {H:Hp} (R:St->Hp->Prop) (h:∀ D':nj,(∀ σ H,R σ H->D'.nx σ H)->t D' σ H) (hR:∀ M,M=u D->∀ σ H,R σ H->M σ H):kP t u D σ H:=h { D with nx:=u D } (hR _ rfl)
theorem yK {te:TE} {D:nj} {σ:St} {H:Hp} (v:V) (hc:∀ Q:VK,Q v H→te σ H Q) (h:D.rt v H):QN te D σ H:=hc _ h
theorem Rp (x y:Str):(x ++ y).length=x.length + y.length:=by
 show (x.cps ++ y.cps).size=_;rw [Array.size_append];rfl
theorem zi.range {lo:Int} {n:Nat} {g:TG} {tb:TS} {D:nj} {σ:St} {H:Hp} (Pv:Nat→St→Hp→Prop) (h0:Pv 0 σ H)
  (hs:∀ i σ H,i < n→Pv i σ H→g (.int (lo + i)) σ H fun σ2 H2=>tb { D with nx:=Pv (i + 1),ct:=Pv (i + 1),bk:=D.nx } σ2 H2) (hd:∀ σ H,Pv n σ H→D.nx σ H):zi (Itr lo n) g tb D σ H:=oE Pv h0 hs hd
theorem zi.list {K:PySem.W.Frag} {a:Addr} {xs:List V} {g:TG} {tb:TS} {D:nj} {σ:St} {H:Hp} (Pv:Nat→St→Hp→Prop) (h0:Pv 0 σ H) (hl:∀ i σ H,i ≤ xs.length→Pv i σ H→SqL K H a xs)
  (hs:∀ i x σ H,xs[i]? = some x→Pv i σ H→g x σ H fun σ2 H2=>tb { D with nx:=Pv (i + 1),ct:=Pv (i + 1),bk:=D.nx } σ2 H2) (hd:∀ σ H,Pv xs.length σ H→D.nx σ H):zi (Itl K a) g tb D σ H:=WH Pv h0 hl hs hd
theorem zi.its {xs:List V} {g:TG} {tb:TS} {D:nj} {σ:St} {H:Hp} (Pv:Nat→St→Hp→Prop) (h0:Pv 0 σ H)
  (hs:∀ i x σ H,xs[i]? = some x→Pv i σ H→g x σ H fun σ2 H2=>tb { D with nx:=Pv (i + 1),ct:=Pv (i + 1),bk:=D.nx } σ2 H2) (hd:∀ σ H,Pv xs.length σ H→D.nx σ H):zi (Its xs) g tb D σ H:=rJ Pv h0 hs hd
theorem ud.list {K:PySem.W.Frag} {a:Addr} {xs:List V} {g:TG} {tc:TT} {te:TE} {σb:St} {Q:VK} {H:Hp} (Pv:Nat→List V→Hp→Prop) (hz:xs.length ≤ sizeLine) (h0:Pv 0 [] H) (hl:∀ i ys H,i ≤ xs.length→Pv i ys H→SqL K H a xs∧ys.length ≤ i)
  (hs:∀ i x ys H,xs[i]? = some x→Pv i ys H→Gg Pv g tc te σb i x ys H) (hd:∀ ys H,Pv xs.length ys H→∀ p,H p=none→Q (.ref p) (upd H p (.lst ys))):ud (Itl K a) g tc te σb Q H:=MD Pv hz h0 hl hs hd
theorem ud.its {xs:List V} {g:TG} {tc:TT} {te:TE} {σb:St} {Q:VK} {H:Hp} (Pv:Nat→List V→Hp→Prop) (hz:xs.length ≤ sizeLine) (h0:Pv 0 [] H) (hl:∀ i ys H,i ≤ xs.length→Pv i ys H→ys.length ≤ i)
  (hs:∀ i x ys H,xs[i]? = some x→Pv i ys H→Gg Pv g tc te σb i x ys H) (hd:∀ ys H,Pv xs.length ys H→∀ p,H p=none→Q (.ref p) (upd H p (.lst ys))):ud (Its xs) g tc te σb Q H:=wH Pv hz h0 hl hs hd
theorem ud.range {lo:Int} {n:Nat} {g:TG} {tc:TT} {te:TE} {σb:St} {Q:VK} {H:Hp} (Pv:Nat→List V→Hp→Prop) (hz:n ≤ sizeLine) (h0:Pv 0 [] H) (hl:∀ i ys H,i ≤ n→Pv i ys H→ys.length ≤ i)
  (hs:∀ i ys H,i < n→Pv i ys H→Gg Pv g tc te σb i (.int (lo + i)) ys H) (hd:∀ ys H,Pv n ys H→∀ p,H p=none→Q (.ref p) (upd H p (.lst ys))):ud (Itr lo n) g tc te σb Q H:=fC Pv hz h0 hl hs hd
theorem qm {α β:Type} {xs:List α} {i:Nat} {x:α} (f:α→β) (h:xs[i]? = some x):(xs.take (i + 1)).map f=(xs.take i).map f ++ [f x]:=by
 rw [List.take_add_one,h,List.map_append];rfl
theorem ud.its_map {xs:List V} {g:TG} {te:TE} {σb:St} {Q:VK} {H:Hp} (f:V→V) (hz:xs.length ≤ sizeLine) (hs:∀ (i:Nat) (x:V) (N:V→Hp→Prop),xs[i]? = some x→N (f x) H→g x σb H fun σ2 H2=>Sub σb σ2∧te σ2 H2 N)
  (hd:∀ p,H p=none→Q (.ref p) (upd H p (.lst (xs.map f)))):ud (Its xs) g Zy te σb Q H:=by
 refine ud.its (fun i ys H'=>H'=H∧ys=(xs.take i).map f) hz ⟨rfl,rfl⟩ (fun i ys H' hi ⟨_,e⟩=>?_) (fun i x ys H' hx ⟨e1,e2⟩ N hN=>?_) (fun ys H' ⟨e1,e2⟩ p hp=>?_)
 ·rw [e,List.length_map,List.length_take];omega
 ·subst e1;exact hs i x (fun y H4=>N (ys ++ [y]) H4) hx (hN _ _ ⟨rfl,by rw [e2,qm f hx]⟩)
 ·subst e1;rw [e2,List.take_length];exact hd p hp
theorem ud.range_map {lo:Int} {n:Nat} {g:TG} {te:TE} {σb:St} {Q:VK} {H:Hp} (f:Nat→V) (hz:n ≤ sizeLine) (hs:∀ (i:Nat) (N:V→Hp→Prop),i < n→N (f i) H→g (.int (lo + i)) σb H fun σ2 H2=>Sub σb σ2∧te σ2 H2 N)
  (hd:∀ p,H p=none→Q (.ref p) (upd H p (.lst ((List.range n).map f)))):ud (Itr lo n) g Zy te σb Q H:=by
 refine ud.range (fun i ys H'=>H'=H∧ys=(List.range i).map f) hz ⟨rfl,rfl⟩ (fun i ys H' hi ⟨_,e⟩=>?_) (fun i ys H' hi ⟨e1,e2⟩ N hN=>?_) (fun ys H' ⟨e1,e2⟩ p hp=>?_)
 ·rw [e,List.length_map,List.length_range];exact Nat.le_refl _
 ·subst e1;exact hs i (fun y H4=>N (ys ++ [y]) H4) hi (hN _ _ ⟨rfl,by rw [e2,List.range_succ,List.map_append];rfl⟩)
 ·subst e1;rw [e2];exact hd p hp
theorem ud.list_mk {K:PySem.W.Frag} {a:Addr} {xs:List V} {g:TG} {te:TE} {σb:St} {Q:VK} {H:Hp} (f:V→HO) (hl:SqL K H a xs) (hz:xs.length ≤ sizeLine) (hn:∀ x,noT (f x)=true)
  (hs:∀ (i:Nat) (x:V) (H1:Hp) (N:V→Hp→Prop),xs[i]? = some x→Yb H H1→(NoT H→NoT H1)→(∀ q,H1 q=none→N (.ref q) (upd H1 q (f x)))→g x σb H1 fun σ2 H2=>Sub σb σ2∧te σ2 H2 N)
  (hd:∀ (qs:List Addr) (H1:Hp),Yb H H1→(NoT H→NoT H1)→qs.length=xs.length→(∀ (j:Nat) (q:Addr) (x:V),qs[j]? = some q→xs[j]? = some x→H1 q=some (f x)∧H q=none)→∀ p,H1 p=none→Q (.ref p) (upd H1 p (.lst (qs.map V.ref)))):ud (Itl K a) g Zy te σb Q H:=by
 refine ud.list (fun i ys H'=>∃ qs:List Addr,ys=qs.map V.ref∧qs.length=i∧Yb H H'∧(NoT H→NoT H')∧∀ (j:Nat) (q:Addr) (x:V),qs[j]? = some q→xs[j]? = some x→H' q=some (f x)∧H q=none) hz
  ⟨[],rfl,rfl,Yb.refl H,id,fun j q x h _=>by simp at h⟩ ?_ ?_ ?_
 ·rintro i ys H' hi zzq;refine zzP fun zzM zzh=>?_
  obtain ⟨qs,e,e2,sm,_,_⟩:=zzq;subst zzh;exact ⟨hl.same sm,by rw [e,List.length_map];omega⟩
 ·rintro i x ys H' hx ⟨qs,e1,e2,sm,nt,al⟩ N hN;refine hs i x H' (fun y H4=>N (ys ++ [y]) H4) hx sm nt fun q hq=>hN _ _ ⟨qs ++ [q],by rw [e1,List.map_append];rfl,by rw [List.length_append,e2];rfl,sm.updN (sm.free hq),fun n=>(nt n).upd (hn x),fun j q' x' h1 h2=>?_⟩
  by_cases hj:j < qs.length
  ·rw [List.getElem?_append_left hj] at h1;obtain ⟨z1,z2⟩:=al j q' x' h1 h2;exact ⟨by rw [pb (xb z1 hq)];exact z1,z2⟩
  ·rw [List.getElem?_append_right (by omega)] at h1;have hj0:j - qs.length=0:=by
    cases hh:j - qs.length with
    | zero=>rfl
    | succ n=>rw [hh] at h1;simp at h1
   rw [hj0] at h1;have e3:q=q':=by simpa using h1
   subst e3;have e4:j=i:=by omega
   subst e4;rw [hx] at h2;cases h2;exact ⟨db,sm.free hq⟩
 ·rintro ys H' ⟨qs,e1,e2,sm,nt,al⟩ p hp;subst e1;exact hd qs H' sm nt e2 al p hp
theorem zi.of {J:It} {n:Nat} {g:TG} {tb:TS} {D:nj} {σ:St} {H:Hp} (Pv:Nat→St→Hp→Prop) (h0:Pv 0 σ H) (hgo:∀ i σ H,i < n→Pv i σ H→J.go i H) (hst:∀ σ H,Pv n σ H→J.stop n H)
  (hs:∀ i σ H x H',i < n→Pv i σ H→J.yld i H x H'→g x σ H' fun σ2 H2=>tb { D with nx:=Pv (i + 1),ct:=Pv (i + 1),bk:=D.nx } σ2 H2) (hd:∀ σ H,Pv n σ H→D.nx σ H):zi J g tb D σ H:=by
 refine ⟨fun i m σ H=>m=n - i∧i ≤ n∧Pv i σ H,⟨n,by simp,Nat.zero_le _,h0⟩,?_⟩;rintro i m σ H ⟨rfl,hi,p⟩;by_cases hlt:i < n
 ·exact .inr ⟨hgo i σ H hlt p,Pv (i + 1),fun σ' H' p'=>⟨n - (i + 1),by omega,rfl,hlt,p'⟩,fun x H' y=>hs i σ H x H' hlt p y⟩
 ·have e:i=n:=by omega
  subst e;exact .inl ⟨hst σ H p,hd σ H p⟩
theorem ud.of {J:It} {n:Nat} {g:TG} {tc:TT} {te:TE} {σb:St} {Q:VK} {H:Hp} (Pv:Nat→List V→Hp→Prop) (hz:n ≤ sizeLine) (h0:Pv 0 [] H) (hgo:∀ i ys H,i < n→Pv i ys H→J.go i H) (hst:∀ ys H,Pv n ys H→J.stop n H) (hl:∀ i ys H,i < n→Pv i ys H→ys.length ≤ i)
  (hs:∀ i ys H x H',i < n→Pv i ys H→J.yld i H x H'→Gg Pv g tc te σb i x ys H') (hd:∀ ys H,Pv n ys H→∀ p,H p=none→Q (.ref p) (upd H p (.lst ys))):ud J g tc te σb Q H:=by
 refine ⟨fun i m ys H=>m=n - i∧i ≤ n∧Pv i ys H,⟨n,by simp,Nat.zero_le _,h0⟩,?_⟩;rintro i m ys H ⟨rfl,hi,p⟩;by_cases hlt:i < n
 ·have hyl:=hl i ys H hlt p;refine .inr ⟨hgo i ys H hlt p,by omega,fun x H' y=>?_⟩;exact hs i ys H x H' hlt p y (fun ys' H'=>∃ m',m' < n - i∧m'=n - (i + 1)∧i + 1 ≤ n∧Pv (i + 1) ys' H') fun ys' H' r=>⟨n - (i + 1),by omega,rfl,hlt,r⟩
 ·have e:i=n:=by omega
  subst e;exact .inl ⟨hst ys H p,hd ys H p⟩
section
variable {K:PySem.W.Frag} {a b:Addr} {xs ys:List V} {g:TG} {tb:TS} {D:nj} {σ σb:St} {H:Hp} {tc:TT} {te:TE} {Q:VK}
theorem zi.enum (Pv:Nat→St→Hp→Prop) (h0:Pv 0 σ H) (hl:∀ i σ H,i ≤ xs.length→Pv i σ H→SqL K H a xs)
  (hs:∀ i x σ H p,xs[i]? = some x→Pv i σ H→H p=none→g (.ref p) σ (upd H p (.tup [.int i,x])) fun σ2 H2=>tb { D with nx:=Pv (i + 1),ct:=Pv (i + 1),bk:=D.nx } σ2 H2) (hd:∀ σ H,Pv xs.length σ H→D.nx σ H):zi (Ite K a) g tb D σ H:=by
 refine zi.of (n:=xs.length) Pv h0 (fun i σ H hi p=>⟨xs,xs[i],hl i σ H (Nat.le_of_lt hi) p,by simp [hi]⟩) (fun σ H p=>⟨xs,hl _ σ H (Nat.le_refl _) p,Nat.le_refl _⟩) (fun i σ H v H' hi p y=>?_) hd;obtain ⟨q,x,hq,rfl,hx,rfl⟩:=y;exact hs i x σ H q (hx xs (hl i σ H (Nat.le_of_lt hi) p)) p hq
theorem zi.zip (Pv:Nat→St→Hp→Prop) (h0:Pv 0 σ H) (hl:∀ i σ H,i ≤ xs.length→Pv i σ H→SqL K H a xs∧SqL K H b ys) (n:Nat) (hn:n=min xs.length ys.length)
  (hs:∀ i x y σ H p,xs[i]? = some x→ys[i]? = some y→Pv i σ H→H p=none→g (.ref p) σ (upd H p (.tup [x,y])) fun σ2 H2=>tb { D with nx:=Pv (i + 1),ct:=Pv (i + 1),bk:=D.nx } σ2 H2) (hd:∀ σ H,Pv n σ H→D.nx σ H):zi (Itz K a b) g tb D σ H:=by
 subst hn;refine zi.of (n:=min xs.length ys.length) Pv h0 (fun i σ H hi p=>?_) (fun σ H p=>?_) (fun i σ H v H' hi p y=>?_) hd
 ·obtain ⟨z1,z2⟩:=hl i σ H (by omega) p;exact ⟨xs,ys,xs[i],ys[i],z1,z2,by rw [List.getElem?_eq_getElem (by omega)],by rw [List.getElem?_eq_getElem (by omega)]⟩
 ·obtain ⟨z1,z2⟩:=hl _ σ H (by omega) p;exact ⟨xs,ys,z1,z2,by omega⟩
 ·obtain ⟨q,x,y,hq,rfl,hx,hy,rfl⟩:=y;obtain ⟨z1,z2⟩:=hl i σ H (by omega) p;exact hs i x y σ H q (hx xs z1) (hy ys z2) p hq
theorem ud.enum (Pv:Nat→List V→Hp→Prop) (hz:xs.length ≤ sizeLine) (h0:Pv 0 [] H) (hl:∀ i ys H,i ≤ xs.length→Pv i ys H→SqL K H a xs∧ys.length ≤ i)
  (hs:∀ i x ys H p,xs[i]? = some x→Pv i ys H→H p=none→Gg Pv g tc te σb i (.ref p) ys (upd H p (.tup [.int i,x]))) (hd:∀ ys H,Pv xs.length ys H→∀ p,H p=none→Q (.ref p) (upd H p (.lst ys))):ud (Ite K a) g tc te σb Q H:=by
 refine ud.of (n:=xs.length) Pv hz h0 (fun i ys H hi p=>⟨xs,xs[i],(hl i ys H (Nat.le_of_lt hi) p).1,by simp [hi]⟩) (fun ys H p=>⟨xs,(hl _ ys H (Nat.le_refl _) p).1,Nat.le_refl _⟩) (fun i ys H hi p=>(hl i ys H (Nat.le_of_lt hi) p).2) (fun i zs H v H' hi p y=>?_) hd;obtain ⟨q,x,hq,rfl,hx,rfl⟩:=y;exact hs i x zs H q (hx xs (hl i zs H (Nat.le_of_lt hi) p).1) p hq
theorem dH {i j:Nat} {p:Addr} {x y:V} {R:St→Hp→Prop} (h:SqT K H p [x,y]) (q:R ((σ.set i (some x)).set j (some y)) H):NM K 2 (FB (Gr i) (FB (Gr j) zN)) (.ref p) σ H R:=
 ⟨p,_,rfl,h,rfl,x,_,rfl,y,_,rfl,rfl,q⟩
theorem Zj {i j:Nat} {p:Addr} {x y:V} {R:St→Hp→Prop} (q:R ((σ.set i (some x)).set j (some y)) (upd H p (.tup [x,y]))):NM K 2 (FB (Gr i) (FB (Gr j) zN)) (.ref p) σ (upd H p (.tup [x,y])) R:=
 dH (.inl (.inl db)) q
end
theorem Sub.name2 {r:St} {v w:Option V}:Sub (none :: none :: r) (v :: w :: r):=by
 refine ⟨rfl,fun i u h=>?_⟩
 match i with
 | 0=>cases h
 | 1=>cases h
 | i + 2=>exact h
theorem Sub.name3 {r:St} {v w z:Option V}:Sub (none :: none :: none :: r) (v :: w :: z :: r):=by
 refine ⟨rfl,fun i u h=>?_⟩
 match i with
 | 0=>cases h
 | 1=>cases h
 | 2=>cases h
 | i + 3=>exact h
theorem ud.list_zs {K:PySem.W.Frag} {a:Addr} {xs zs:List V} {g:TG} {te:TE} {σb:St} {Q:VK} {H:Hp} (hl:SqL K H a xs) (hz:xs.length ≤ sizeLine) (he:zs.length=xs.length)
  (hs:∀ (i:Nat) (x z:V) (N:V→Hp→Prop),xs[i]? = some x→zs[i]? = some z→N z H→g x σb H fun σ2 H2=>Sub σb σ2∧te σ2 H2 N) (hd:∀ p,H p=none→Q (.ref p) (upd H p (.lst zs))):ud (Itl K a) g Zy te σb Q H:=by
 refine ud.list (fun i ys H'=>H'=H∧ys=zs.take i) hz ⟨rfl,rfl⟩ (fun i ys H' hi ⟨e0,e⟩=>?_) (fun i x ys H' hx ⟨e1,e2⟩ N hN=>?_) (fun ys H' ⟨e1,e2⟩ p hp=>?_)
 ·subst e0;exact ⟨hl,by rw [e,List.length_take];omega⟩
 ·subst e1;have hi:i < zs.length:=by rw [he];exact (List.getElem?_eq_some_iff.mp hx).1
  have hz':zs[i]? = some zs[i]:=List.getElem?_eq_getElem hi;exact hs i x zs[i] (fun y H4=>N (ys ++ [y]) H4) hx hz' (hN _ _ ⟨rfl,by rw [e2,List.take_add_one,hz'];rfl⟩)
 ·subst e1;rw [e2,← he,List.take_length];exact hd p hp
theorem ud.tup_zs {K:PySem.W.Frag} {a:Addr} {xs zs:List V} {g:TG} {te:TE} {σb:St} {Q:VK} {H:Hp} (hl:SqT K H a xs) (hz:xs.length ≤ sizeLine) (he:zs.length=xs.length)
  (hs:∀ (i:Nat) (x z:V) (N:V→Hp→Prop),xs[i]? = some x→zs[i]? = some z→N z H→g x σb H fun σ2 H2=>Sub σb σ2∧te σ2 H2 N) (hd:∀ p,H p=none→Q (.ref p) (upd H p (.lst zs))):ud (Itt K a) g Zy te σb Q H:=by
 refine lH (xs:=xs) (fun i ys H'=>H'=H∧ys=zs.take i) hz ⟨rfl,rfl⟩ (fun i ys H' hi ⟨e0,e⟩=>?_) (fun i x ys H' hx ⟨e1,e2⟩ N hN=>?_) (fun ys H' ⟨e1,e2⟩ p hp=>?_)
 ·subst e0;exact ⟨hl,by rw [e,List.length_take];omega⟩
 ·subst e1;have hi:i < zs.length:=by rw [he];exact (List.getElem?_eq_some_iff.mp hx).1
  have hz':zs[i]? = some zs[i]:=List.getElem?_eq_getElem hi;exact hs i x zs[i] (fun y H4=>N (ys ++ [y]) H4) hx hz' (hN _ _ ⟨rfl,by rw [e2,List.take_add_one,hz'];rfl⟩)
 ·subst e1;rw [e2,← he,List.take_length];exact hd p hp
theorem ud.range_sel {lo:Int} {n:Nat} {ss:List (Option V)} {g:TG} {tc:TT} {te:TE} {σb:St} {Q:VK} {H:Hp} (hz:n ≤ sizeLine) (he:ss.length=n)
  (hs:∀ (i:Nat) (o:Option V) (ys:List V) (N:List V→Hp→Prop),i < n→ss[i]? = some o→N (ys ++ o.toList) H→g (.int (lo + i)) σb H fun σ2 H2=>Sub σb σ2∧tc σ2 H2 fun c H3=>if c=true then te σ2 H3 fun y H4=>N (ys ++ [y]) H4 else N ys H3)
  (hd:∀ p,H p=none→Q (.ref p) (upd H p (.lst (ss.flatMap Option.toList)))):ud (Itr lo n) g tc te σb Q H:=by
 refine ud.range (fun i ys H'=>H'=H∧ys=(ss.take i).flatMap Option.toList∧ys.length ≤ i) hz ⟨rfl,rfl,Nat.le_refl _⟩ (fun i ys H' hi ⟨e0,e,e'⟩=>e') (fun i ys H' hi ⟨e1,e2,e3⟩ N hN=>?_) (fun ys H' ⟨e1,e2,_⟩ p hp=>?_)
 ·subst e1;have hi':i < ss.length:=by omega
  have hz':ss[i]? = some ss[i]:=List.getElem?_eq_getElem hi';refine hs i ss[i] ys N hi hz' (hN _ _ ⟨rfl,by rw [e2,List.take_add_one,hz',List.flatMap_append];simp,?_⟩);rw [List.length_append];cases ss[i] <;> simp <;> omega
 ·subst e1;rw [e2,← he,List.take_length];exact hd p hp
theorem cG {c:TT} {tb:TS} {D:nj} {σ:St} {H:Hp} (Pv:St→Hp→Prop) (μ:St→Hp→Nat) (h0:Pv σ H)
  (hs:∀ σ H,Pv σ H→∃ b:Bool,(∀ Q:Bool→Hp→Prop,Q b H→c σ H Q)∧(b=true→tb { D with nx:=fun σ' H'=>Pv σ' H'∧μ σ' H' < μ σ H,ct:=fun σ' H'=>Pv σ' H'∧μ σ' H' < μ σ H,bk:=D.nx } σ H)∧(b=false→D.nx σ H)):HI c tb D σ H:=by
 refine ⟨fun m σ H=>m=μ σ H∧Pv σ H,⟨_,rfl,h0⟩,?_⟩;rintro m σ H ⟨rfl,p⟩;obtain ⟨b,hc,h1,h2⟩:=hs σ H p;refine hc _ ?_;cases b with
 | true=>exact ⟨_,fun σ' H' ⟨p',l⟩=>⟨_,l,rfl,p'⟩,h1 rfl⟩
 | false=>exact h2 rfl
theorem Sub.name {r:St} {v:Option V}:Sub (none :: r) (v :: r):=by
 refine ⟨rfl,fun i w h=>?_⟩;cases i with
 | zero=>cases h
 | succ i=>exact h
end L2
namespace L2
open PySem PySem.Spec PyProof.Rows
theorem zb {X:Cx} {i:Nat} {x:Str} {e:Expr} {te:TE} {pos pos':Pos} (hN:X.N.Nodup) (he:PE X e te) (hi:X.N[i]? = some x:=by rfl) (hx:Loc X.env.scope x:=by exact Or.inl rfl) (hs:swapsWith e (some (.Name x pos')) pos.line X.env=pure false:=by rfl) (hf:X.fn x=true∨X.env.scope.names.lookup x=some .local:=by first | exact .inl rfl | exact .inr rfl | assumption):PS X (.Assign [.Name x pos'] e pos) (KM te (Gr i)):=xA hN hi hx he hs hf
theorem ub {X:Cx} {pos:Pos} {i:Nat} {x:Str} (hN:X.N.Nodup) (hi:X.N[i]? = some x:=by rfl) (hx:Loc X.env.scope x:=by exact Or.inl rfl) (hf:X.fn x=true∨X.env.scope.names.lookup x=some .local:=by first | exact .inl rfl | exact .inr rfl | assumption):PG X (.Name x pos) (Gr i):=tD hN hi hx hf
theorem ac {X:Cx} {a b:Expr} {ta tb:TE} {pos:Pos} {r:R2} (hr:IxR X r) (ha:PE X a ta) (hb:PE X b tb) (hs:mE b:=by exact fun _ _=>rfl):PE X (.Subscript a b pos) (tOp r ta tb):=XN hr ha hb hs
theorem qb {X:Cx} {k:Nat} {f:Addr} {fd:FuncData} {ps:List Str} {sp:Sp} {x:Str} {p pos:Pos} {e:Expr} {es:List Expr} {t:TA} (F:Eb X.prog X.w X.K X.mg X.base CX0 k f fd ps sp) (hr:ui k X.A) (hm:X.mg x=some (.ref f)) (hk:PySem.W.keepIn X.K (.ref f)=true) (hb:Sb X.K fd ps []) (ha:PA X (e :: es) t) (hg:Gl X x:=by rfl) (hdb:(x == ("__debug__" : Str))=false:=by decide) (he:starEach (e :: es) X.env=(false,eval e X.env) :: starEach es X.env:=by rfl) (hpl:(backTo pos (starEach es X.env)).any (·.1)=false:=by rfl):PE X (.Call (.Name x p) (e :: es) [] pos) (NH sp [] E0 t):=RK F hr hg hm hk hb .nil Kc ha hdb he hpl
end L2
local macro_rules | `(tactic| walk_at "RD")=>`(tactic| ((try dsimp only [L2.jF,L2.SN,L2.Cx.nox,L2.Cx.wish,L2.Cx.block,L2.Cx.tr,L2.Cx.hn,L2.fG,L2.uM,L2.zL,L2.AF,L2.KI,L2.EE,L2.AA,L2.dE,L2.ZH,L2.Ii,L2.Ab,L2.MA,L2.kG,L2.Hw,L2.Ig,L2.vD,L2.jA,L2.lF,L2.mD,L2.BF,L2.BD,L2.Gz,L2.OD,L2.cI,L2.GI,L2.gN,L2.xI,L2.lN,L2.nJ,L2.zI,L2.jz,L2.Fw,L2.qF,L2.XC,L2.ou,L2.QF,L2.CF,L2.Lz,L2.eD,L2.UC,L2.aB,L2.VA,L2.Ez,L2.gJ,L2.Jt,L2.QA,L2.UI,L2.FE,L2.YF,L2.wC,L2.oF,L2.GA,L2.yF,L2.bI,L2.JE,L2.JI,L2.su,L2.dw,L2.aG,L2.zz,L2.au,L2.uA,L2.Zv,L2.mz,L2.Hz,L2.GF,L2.dB,L2.qx,L2.Lw,L2.Xz,L2.Ot,L2.FC,L2.gz,L2.aq,L2.gA,L2.Az,L2.xz,L2.Fx,L2.fF,L2.bB,L2.Sz,L2.vA,L2.IC,L2.KD,L2.Kx,L2.tz,L2.aJ,L2.kA,L2.yA,L2.start,L2.OF,L2.lO,L2.ON,L2.cO,L2.IN,L2.DN,L2.jO,L2.iO,L2.MN,L2.YN,L2.GN,L2.dBn,L2.dBs,L2.dJs,L2.dJn,Nat.reduceAdd,Nat.reduceSub,List.replicate]);(try simp only [L2.fG,L2.uM,L2.zL,L2.AF,L2.KI,L2.EE,L2.AA,L2.dE,L2.ZH,L2.Ii,L2.Ab,L2.MA,L2.kG,L2.Hw,L2.Ig,L2.vD,L2.jA,L2.lF,L2.mD,L2.BF,L2.BD,L2.Gz,L2.OD,L2.cI,L2.GI,L2.gN,L2.xI,L2.lN,L2.nJ,L2.zI,L2.jz,L2.Fw,L2.qF,L2.XC,L2.ou,L2.QF,L2.CF,L2.Lz,L2.eD,L2.UC,L2.aB,L2.VA,L2.Ez,L2.gJ,L2.Jt,L2.QA,L2.UI,L2.FE,L2.YF,L2.wC,L2.oF,L2.GA,L2.yF,L2.bI,L2.JE,L2.JI,L2.su,L2.dw,L2.aG,L2.zz,L2.au,L2.uA,L2.Zv,L2.mz,L2.Hz,L2.GF,L2.dB,L2.qx,L2.Lw,L2.Xz,L2.Ot,L2.FC,L2.gz,L2.aq,L2.gA,L2.Az,L2.xz,L2.Fx,L2.fF,L2.bB,L2.Sz,L2.vA,L2.IC,L2.KD,L2.Kx,L2.tz,L2.aJ,L2.kA,L2.yA,L2.YK,L2.GK,L2.lM,L2.KJ,L2.oK,L2.start,L2.OF,List.map_cons,List.map_nil,Option.bind_none,Option.bind_some,Option.join_some,Option.join_none,List.length_cons,List.length_nil,Nat.reduceAdd,Nat.reduceSub,Nat.zero_add,List.replicate,List.cons_append,List.nil_append,List.append_nil,List.set_cons_zero,List.set_cons_succ,List.getElem?_cons_zero,List.getElem?_cons_succ,Option.some.injEq,L2.V.int.injEq,L2.V.bl.injEq,L2.V.str.injEq,L2.V.ref.injEq,L2.V.ty.injEq,exists_eq_left',exists_eq_left,exists_and_left,List.cons.injEq,and_true,true_and,and_assoc,Int.zero_add,reduceCtorEq,false_and,exists_false,and_false,ite_true,ite_false,if_true,if_false,Bool.false_eq_true,L2.rM,L2.tyV,false_or,or_false,Bool.not_true,Bool.not_false,decide_true,decide_false])))
local macro_rules | `(tactic| walk_at "B")=>`(tactic| first | rfl | (dsimp only [L2.Cx.block];done) | (dsimp only [L2.Cx.block];exact rfl))
local macro_rules | `(tactic| walk_at "F")=>`(tactic| exact ⟨rfl,rfl,rfl,by decide +kernel,rfl,by decide +kernel,by decide +kernel⟩)
namespace My
open PySem L2
noncomputable abbrev q8:List Str:=["self","name"]
noncomputable abbrev q9:List Str:=["self","many"]
noncomputable abbrev q10:List Str:=["self","name","start","end","off","near","least"]
noncomputable abbrev q11:List Str:=["plan","name","turn"]
noncomputable abbrev q12:List Str:=["plan","name","comings"]
noncomputable abbrev q13:List Str:=["spans","name"]
noncomputable abbrev q14:List Str:=["_law_script","_law_way_here","_law_size"]
noncomputable abbrev q15:List Str:=["crossing","one","other"]
noncomputable abbrev q16:List Str:=["crossing","size","spans"]
noncomputable abbrev q17:List Str:=["_law_script","_law_k","_law_many"]
noncomputable abbrev q18:List Str:=["word","signs","most"]
noncomputable abbrev q19:List Str:=["self","good"]
noncomputable abbrev q20:List Str:=["self","kind","name","start","end","off","near","least"]
noncomputable abbrev q21:List Str:=["_law_script"]
noncomputable abbrev q22:List Str:=["self","low","high"]
noncomputable abbrev q23:List Str:=["plan","name","comings","standing","turns"]
noncomputable abbrev q24:List Str:=["word","most_figures"]
noncomputable abbrev q25:List Str:=["reader","places","start"]
noncomputable abbrev q26:List Str:=["sort","name","start","end","off","near","least"]
noncomputable abbrev q27:List Str:=["places","way","second"]
noncomputable abbrev q28:List Str:=["size","spans","name"]
noncomputable abbrev q29:List Str:=["_law_script","_law_way_here","_law_size","_law_turn"]
noncomputable abbrev q30:List Str:=["self","row","told"]
noncomputable abbrev q31:List Str:=["self","choices"]
noncomputable abbrev q32:List Str:=["plan","name","comings","turn"]
noncomputable abbrev q33:List Str:=["plan","name","standing","turn"]
noncomputable abbrev q34:List Str:=["word","low","high"]
noncomputable abbrev q35:List Str:=["reader","ways"]
noncomputable abbrev q36:List Str:=["reader","places","ways"]
noncomputable abbrev q37:List Str:=["places","way","place"]
noncomputable abbrev q38:List Str:=["way","size","spans"]
noncomputable abbrev q39:List Str:=["crossing","spans"]
noncomputable abbrev q40:List Str:=["size","spans","place"]
noncomputable abbrev q41:List Str:=["crossing","one","other","since_one","since_other"]
noncomputable abbrev q42:List Str:=["crossing","size","rows"]
noncomputable abbrev q43:List Str:=["_law_places","_law_ways"]
noncomputable abbrev q44:List Str:=["_law_script","_law_size"]
noncomputable abbrev q45:List Str:=["_law_script","_law_way_here","_law_size","_law_comings_here"]
noncomputable abbrev q46:List Str:=["self","places","ways"]
noncomputable abbrev q47:List Str:=["self","crossing","size","spans"]
noncomputable abbrev q48:List Str:=["called","begin","turns","name"]
noncomputable abbrev q49:List Str:=["name","begin","turns"]
noncomputable abbrev q50:List Str:=["_law_turn","_law_script","_law_way_here","_law_size"]
noncomputable abbrev q51:List Str:=["size","spans","place","name","begin","turns","others"]
noncomputable abbrev q53:List Str:=["at","span","place"]
noncomputable abbrev q54:List Str:=["later","many","begin","size"]
noncomputable def top (i:Nat):Stmt:=PySem.Challenge.pw_lampway_k48_the_slowest.main.body.getD i (.Pass ⟨0,0,0,0⟩)
noncomputable abbrev NA:Stmt:=top 2
theorem RE:wb q11 q11 (ib NA):=(by walk_at "F")
noncomputable abbrev dJ:Stmt:=top 3
theorem IK:wb q11 q11 (ib dJ):=(by walk_at "F")
noncomputable abbrev Ob:Stmt:=top 5
theorem uo:wb ["comings","kept"] ["comings"] (ib Ob):=(by walk_at "F")
noncomputable abbrev bj:Stmt:=top 6
theorem Xc:wb ["plan","name","comings","standing","turns","way","coming","turn"] q23 (ib bj):=(by walk_at "F")
noncomputable abbrev uD:Stmt:=top 7
theorem OA:wb ["plan","name","comings","first"] q12 (ib uD):=(by walk_at "F")
noncomputable abbrev eG:Stmt:=top 8
theorem Lm:wb ["plan","name","comings","turn","rounds","rest","first","standing"] q32 (ib eG):=(by walk_at "F")
noncomputable abbrev Il:Stmt:=top 9
theorem we:wb ["plan","name","standing","turn","way","later"] q33 (ib Il):=(by walk_at "F")
noncomputable abbrev zw:Stmt:=top 10
theorem Ef:wb ["plan","name","comings","coming","waits","standing","turn"] q12 (ib zw):=(by walk_at "F")
noncomputable abbrev cy:Stmt:=top 23
theorem uH:wb ["text"] ["text"] (ib cy):=(by walk_at "F")
noncomputable abbrev Ej:Stmt:=top 24
theorem Hv:wb q18 q18 (ib Ej):=(by walk_at "F")
noncomputable abbrev Pp:Stmt:=top 25
theorem Vv:wb q24 q24 (ib Pp):=(by walk_at "F")
noncomputable abbrev kx:Stmt:=top 26
theorem kt:wb ["word","low","high","number"] q34 (ib kx):=(by walk_at "F")
noncomputable abbrev Ax:Stmt:=top 27
theorem BB:wb ["word"] ["word"] (ib Ax):=(by walk_at "F")
noncomputable abbrev ar:Stmt:=top 30
theorem YB:wb ["text"] ["text"] (ib ar):=(by walk_at "F")
noncomputable abbrev Op:Stmt:=top 44
theorem wo:wb ["reader","places"] ["reader"] (ib Op):=(by walk_at "F")
noncomputable abbrev dh:Stmt:=top 45
theorem Zi:wb ["reader","ways","name"] q35 (ib dh):=(by walk_at "F")
noncomputable abbrev qu:Stmt:=top 46
theorem Xy:wb q25 q25 (ib qu):=(by walk_at "F")
noncomputable abbrev ju:Stmt:=top 47
theorem Yx:wb q26 q26 (ib ju):=(by walk_at "F")
noncomputable abbrev Et:Stmt:=top 48
theorem ve:wb ["reader","places","ways","sort","name","start","end","off","near","least"] q36 (ib Et):=(by walk_at "F")
noncomputable abbrev wj:Stmt:=top 49
theorem ce:wb ["text","rows","places","ways","reader"] ["text"] (ib wj):=(by walk_at "F")
noncomputable abbrev lz:Stmt:=top 51
theorem Iw:wb ["places","way","place","steps"] q37 (ib lz):=(by walk_at "F")
noncomputable abbrev yo:Stmt:=top 52
theorem fv:wb q27 q27 (ib yo):=(by walk_at "F")
noncomputable abbrev eJ:Stmt:=top 53
theorem gy:wb ["crossing","one","other","way","second"] q15 (ib eJ):=(by walk_at "F")
noncomputable abbrev YM:Stmt:=top 54
theorem pF:wb ["crossing","one","other","way","second"] q15 (ib YM):=(by walk_at "F")
noncomputable abbrev Xk:Stmt:=top 56
theorem Gd:wb ["marks","size","steps","untils","place"] ["marks"] (ib Xk):=(by walk_at "F")
noncomputable abbrev zl:Stmt:=top 57
theorem cr:wb ["marks"] ["marks"] (ib zl):=(by walk_at "F")
noncomputable abbrev Gn:Stmt:=top 60
theorem qy:wb q13 q13 (ib Gn):=(by walk_at "F")
noncomputable abbrev Mj:Stmt:=top 61
theorem Ze:wb ["size","spans","name","marks","begin","turns","step"] q28 (ib Mj):=(by walk_at "F")
noncomputable abbrev aD:Stmt:=top 62
theorem Ul:wb ["way","size","spans","shown","begin","turns","step"] q38 (ib aD):=(by walk_at "F")
noncomputable abbrev Sk:Stmt:=top 63
theorem Xj:wb ["crossing","spans","name"] q39 (ib Sk):=(by walk_at "F")
noncomputable abbrev Ad:Stmt:=top 64
theorem Bc:wb q51 q40 (ib Ad):=(by walk_at "F")
noncomputable abbrev Pk:Stmt:=top 65
theorem Ic:wb ["crossing","size","spans","place","span","name","begin","turns","way","needed"] q16 (ib Pk):=(by walk_at "F")
noncomputable abbrev ki:Stmt:=top 66
theorem oe:wb ["crossing","one","other","since_one","since_other","between","turn","steps"] q41 (ib ki):=(by walk_at "F")
noncomputable abbrev El:Stmt:=top 67
theorem se:wb ["crossing","size","spans","since","name","one","other"] q16 (ib El):=(by walk_at "F")
noncomputable abbrev Nl:Stmt:=top 68
theorem jg:wb ["crossing","size","rows","spans","name","begin","turns"] q42 (ib Nl):=(by walk_at "F")
noncomputable abbrev Uq:Stmt:=top 70
theorem Pj:wb ["_law_script","_law_k","_law_many","_law_cell","_law_seed"] q17 (ib Uq):=(by walk_at "F")
noncomputable abbrev Ql:Stmt:=top 71
theorem Aj:wb ["_law_places","_law_ways","_law_rows","_law_way_here"] q43 (ib Ql):=(by walk_at "F")
noncomputable abbrev oo:Stmt:=top 72
theorem Vc:wb ["_law_script","_law_way_here","_law_size","_law_idle","_law_many","_law_begin","_law_part","_law_spans_here","_law_k","_law_most","_law_turns"] q14 (ib oo):=(by walk_at "F")
noncomputable abbrev zt:Stmt:=top 73
theorem Qq:wb ["_law_script","_law_sort"] q21 (ib zt):=(by walk_at "F")
noncomputable abbrev em:Stmt:=top 74
theorem kg:wb ["_law_script","_law_way_here","_law_size","_law_other","_law_rows","_law_names"] q14 (ib em):=(by walk_at "F")
noncomputable abbrev Bq:Stmt:=top 75
theorem sj:wb ["_law_script","_law_way_here","_law_size","_law_turn","_law_begin","_law_turns"] q29 (ib Bq):=(by walk_at "F")
noncomputable abbrev Bl:Stmt:=top 76
theorem Jc:wb ["_law_script","_law_size","_law_most","_law_rare","_law_row","_law_k","_law_many"] q44 (ib Bl):=(by walk_at "F")
noncomputable abbrev Oj:Stmt:=top 77
theorem Md:wb ["_law_script","_law_way_here","_law_size","_law_comings_here","_law_opened","_law_waits_here","_law_line","_law_turn","_law_one"] q45 (ib Oj):=(by walk_at "F")
noncomputable abbrev NJ:Stmt:=top 78
theorem Bj:wb ["_law_script","_law_size","_law_way_here","_law_plan_here","_law_comings_here","_law_gone","_law_handed","_law_found","_law_number","_law_waits_here"] q21 (ib NJ):=(by walk_at "F")
noncomputable abbrev dj:Stmt:=Qc (top 29) 0
theorem Dj:wb q30 q30 (ib dj):=(by walk_at "F")
noncomputable abbrev ci:Stmt:=Qc (top 29) 1
theorem Im:wb ["self"] ["self"] (ib ci):=(by walk_at "F")
noncomputable abbrev Cg:Stmt:=Qc (top 29) 2
theorem Lj:wb ["self"] ["self"] (ib Cg):=(by walk_at "F")
noncomputable abbrev cj:Stmt:=Qc (top 29) 4
theorem Kn:wb q19 q19 (ib cj):=(by walk_at "F")
noncomputable abbrev Dh:Stmt:=Qc (top 29) 5
theorem Wg:wb ["self","choices","found"] q31 (ib Dh):=(by walk_at "F")
noncomputable abbrev Ug:Stmt:=Qc (top 29) 6
theorem Bg:wb ["self","low","high","found"] q22 (ib Ug):=(by walk_at "F")
noncomputable abbrev mh:Stmt:=Qc (top 29) 7
theorem Sl:wb ["self"] ["self"] (ib mh):=(by walk_at "F")
noncomputable abbrev Ft:Stmt:=Qc (top 32) 0
theorem Zq:wb q20 q20 (ib Ft):=(by walk_at "F")
noncomputable abbrev Jm:Stmt:=Qc (top 33) 0
theorem Cm:wb q10 q10 (ib Jm):=(by walk_at "F")
noncomputable abbrev Cl:Stmt:=Qc (top 33) 1
theorem sr:wb ["self"] ["self"] (ib Cl):=(by walk_at "F")
noncomputable abbrev ym:Stmt:=Qc (top 33) 2
theorem Vs:wb ["self"] ["self"] (ib ym):=(by walk_at "F")
noncomputable abbrev Gm:Stmt:=Qc (top 33) 3
theorem Wr:wb q9 q9 (ib Gm):=(by walk_at "F")
noncomputable abbrev ul:Stmt:=Qc (top 34) 0
theorem Wl:wb q10 q10 (ib ul):=(by walk_at "F")
noncomputable abbrev Kj:Stmt:=Qc (top 34) 1
theorem No:wb ["self"] ["self"] (ib Kj):=(by walk_at "F")
noncomputable abbrev gl:Stmt:=Qc (top 34) 2
theorem Vq:wb ["self"] ["self"] (ib gl):=(by walk_at "F")
noncomputable abbrev Fl:Stmt:=Qc (top 34) 3
theorem uq:wb q9 q9 (ib Fl):=(by walk_at "F")
noncomputable abbrev Wk:Stmt:=Qc (top 35) 0
theorem Ol:wb q10 q10 (ib Wk):=(by walk_at "F")
noncomputable abbrev gk:Stmt:=Qc (top 35) 1
theorem Ho:wb ["self"] ["self"] (ib gk):=(by walk_at "F")
noncomputable abbrev dl:Stmt:=Qc (top 35) 2
theorem nq:wb ["self"] ["self"] (ib dl):=(by walk_at "F")
noncomputable abbrev Al:Stmt:=Qc (top 35) 3
theorem Wp:wb q9 q9 (ib Al):=(by walk_at "F")
noncomputable abbrev Ij:Stmt:=Qc (top 43) 0
theorem He:wb ["self","places","ways","number","way"] q46 (ib Ij):=(by walk_at "F")
noncomputable abbrev yg:Stmt:=Qc (top 43) 1
theorem En:wb ["self"] ["self"] (ib yg):=(by walk_at "F")
noncomputable abbrev ai:Stmt:=Qc (top 43) 2
theorem wm:wb q8 q8 (ib ai):=(by walk_at "F")
noncomputable abbrev ni:Stmt:=Qc (top 43) 3
theorem Mm:wb q8 q8 (ib ni):=(by walk_at "F")
noncomputable abbrev Tq:Stmt:=Qc (top 59) 0
theorem fj:wb ["self","crossing","size","spans","name"] q47 (ib Tq):=(by walk_at "F")
set_option genInjectivity false in
set_option genInjectivity false in
structure Adr where
 {bp uu Sg Xd Cp Bv Xf Km Kv ng Ei Hm Rm Sm Hi rf Ek qk zk sf rp ph DA bH Ke Jf Bf dg lA Sf Bd Hf Ee Vf Ni Ae Qi og nk Mi Ng Pf Bh QK Vd xc Tc Oc Mc wc Lc Cf cf bg Hg Dg Ie pf Zf ag Me Ye Yf Kf re Nc Ed Fb Tg Db zm Hc qc vc Nb pe:Addr}
 {gp Vt Zc be Yq Pu Tf Tm yv cg Ci Om Pm vm Li mf sk Gk wk lf Wo Ih Bz cH Je Mf Gf lg CA Qf zd Rf De Uf Ji ye Vi ig xk Di jh Lf Gh sH Pe Fc Dd jd md Gc yd Kg Fg Ph Ri Oi Of Xg Kh Jh Nf Pg Oh Wh df kd Fe Kb Si:FuncData}
 {Jx ql Uv Yk jo yl Vp Ht Zm Jq:Value}
structure Txt (w:World) (K:PySem.W.Frag) (mg:Str→Option Value) (t:Adr):Prop where
 HG:mg "colour"=some (.ref t.bp)
 qv:Fun K "colour" "colour" NA t.bp t.gp
 nE:mg "free"=some (.ref t.uu)
 Nw:Fun K "free" "free" dJ t.uu t.Vt
 Ml:mg "coming_by"=some (.ref t.Sg)
 Qg:Fun K "coming_by" "coming_by" Ob t.Sg t.Zc
 Td:mg "standing_after"=some (.ref t.Xd)
 Pc:Fun K "standing_after" "standing_after" bj t.Xd t.be
 eE:mg "grows"=some (.ref t.Cp)
 Lv:Fun K "grows" "grows" uD t.Cp t.Yq
 qJ:mg "queue"=some (.ref t.Bv)
 Uy:Fun K "queue" "queue" eG t.Bv t.Pu
 As:mg "wait_of_last"=some (.ref t.Xf)
 Th:Fun K "wait_of_last" "wait_of_last" Il t.Xf t.Tf
 nD:mg "slowest"=some (.ref t.Km)
 wq:Fun K "slowest" "slowest" zw t.Km t.Tm
 uK:mg "words"=some (.ref t.Kv)
 Qx:Fun K "words" "words" cy t.Kv t.yv
 Zn:mg "is_made_of"=some (.ref t.ng)
 qh:Fun K "is_made_of" "is_made_of" Ej t.ng t.cg
 my:mg "is_number"=some (.ref t.Ei)
 Xl:Fun K "is_number" "is_number" Pp t.Ei t.Ci
 hG:mg "figured"=some (.ref t.Hm)
 Mq:Fun K "figured" "figured" kx t.Hm t.Om
 JC:mg "is_name"=some (.ref t.Rm)
 lr:Fun K "is_name" "is_name" Ax t.Rm t.Pm
 yC:mg "readers"=some (.ref t.Sm)
 Aq:Fun K "readers" "readers" ar t.Sm t.vm
 vy:mg "read_ring"=some (.ref t.Hi)
 Zl:Fun K "read_ring" "read_ring" Op t.Hi t.Li
 Wq:mg "read_new_name"=some (.ref t.rf)
 Zg:Fun K "read_new_name" "read_new_name" dh t.rf t.mf
 aC:mg "read_end"=some (.ref t.Ek)
 mn:Fun K "read_end" "read_end" qu t.Ek t.sk
 mB:mg "made_way"=some (.ref t.qk)
 yn:Fun K "made_way" "made_way" ju t.qk t.Gk
 kC:mg "read_way"=some (.ref t.zk)
 Fn:Fun K "read_way" "read_way" Et t.zk t.wk
 Bp:mg "read_crossing"=some (.ref t.sf)
 ah:Fun K "read_crossing" "read_crossing" wj t.sf t.lf
 nz:mg "in_bow"=some (.ref t.rp)
 pp:Fun K "in_bow" "in_bow" lz t.rp t.Wo
 lx:mg "bows_cross"=some (.ref t.ph)
 Fj:Fun K "bows_cross" "bows_cross" yo t.ph t.Ih
 mM:mg "meet"=some (.ref t.DA)
 IE:Fun K "meet" "meet" eJ t.DA t.Bz
 bO:mg "gap"=some (.ref t.bH)
 dL:Fun K "gap" "gap" YM t.bH t.cH
 Jl:mg "until_marked"=some (.ref t.Ke)
 Wf:Fun K "until_marked" "until_marked" Xk t.Ke t.Je
 Bs:mg "since_marked"=some (.ref t.Jf)
 Lh:Fun K "since_marked" "since_marked" zl t.Jf t.Mf
 uk:mg "spans_of"=some (.ref t.Bf)
 Lg:Fun K "spans_of" "spans_of" Gn t.Bf t.Gf
 Xn:mg "free_marks"=some (.ref t.dg)
 Eh:Fun K "free_marks" "free_marks" Mj t.dg t.lg
 ZM:mg "lamp"=some (.ref t.lA)
 LF:Fun K "lamp" "lamp" aD t.lA t.CA
 Qr:mg "refuse_never"=some (.ref t.Sf)
 Nh:Fun K "refuse_never" "refuse_never" Sk t.Sf t.Qf
 Gj:mg "turns_to_next_begin"=some (.ref t.Bd)
 ue:Fun K "turns_to_next_begin" "turns_to_next_begin" Ad t.Bd t.zd
 Ss:mg "refuse_short"=some (.ref t.Hf)
 Xh:Fun K "refuse_short" "refuse_short" Pk t.Hf t.Rf
 rn:mg "refuse_clash_of"=some (.ref t.Ee)
 Af:Fun K "refuse_clash_of" "refuse_clash_of" ki t.Ee t.De
 Ls:mg "refuse_clash"=some (.ref t.Vf)
 Mh:Fun K "refuse_clash" "refuse_clash" El t.Vf t.Uf
 Ay:mg "made_plan"=some (.ref t.Ni)
 dm:Fun K "made_plan" "made_plan" Nl t.Ni t.Ji
 jc:mg "_law_draw"=some (.ref t.Ae)
 Tb:Fun K "_law_draw" "_law_draw" Uq t.Ae t.ye
 Gy:mg "_law_text"=some (.ref t.Qi)
 Vl:Fun K "_law_text" "_law_text" Ql t.Qi t.Vi
 Co:mg "_law_spans"=some (.ref t.og)
 oh:Fun K "_law_spans" "_law_spans" oo t.og t.ig
 NB:mg "_law_way"=some (.ref t.nk)
 Pn:Fun K "_law_way" "_law_way" zt t.nk t.xk
 iy:mg "_law_plan"=some (.ref t.Mi)
 Yl:Fun K "_law_plan" "_law_plan" em t.Mi t.Di
 mr:mg "_law_free"=some (.ref t.Ng)
 Gi:Fun K "_law_free" "_law_free" Bq t.Ng t.jh
 Ws:mg "_law_comings"=some (.ref t.Pf)
 Sh:Fun K "_law_comings" "_law_comings" Bl t.Pf t.Lf
 vx:mg "_law_waits"=some (.ref t.Bh)
 Wj:Fun K "_law_waits" "_law_waits" Oj t.Bh t.Gh
 kO:mg "law"=some (.ref t.QK)
 eO:Fun K "law" "law" NJ t.QK t.sH
 uy:mg "RowReader"=some (.ref t.Db)
 qC:PySem.W.findIn K (.ref t.Db) "__init__"=some (some (.ref t.Vd))
 ij:Fun K "__init__" "RowReader.__init__" dj t.Vd t.Pe
 pB:PySem.W.findIn K (.ref t.Db) "ahead"=some (some (.ref t.xc))
 yi:Fun K "ahead" "RowReader.ahead" ci t.xc t.Fc
 Nx:PySem.W.findIn K (.ref t.Db) "has_more"=some (some (.ref t.Tc))
 zg:Fun K "has_more" "RowReader.has_more" Cg t.Tc t.Dd
 pC:PySem.W.findIn K (.ref t.Db) "take"=some (some (.ref t.Oc))
 kj:Fun K "take" "RowReader.take" cj t.Oc t.jd
 rA:PySem.W.findIn K (.ref t.Db) "one_of"=some (some (.ref t.Mc))
 Ah:Fun K "one_of" "RowReader.one_of" Dh t.Mc t.md
 sy:PySem.W.findIn K (.ref t.Db) "figures"=some (some (.ref t.wc))
 Og:Fun K "figures" "RowReader.figures" Ug t.wc t.Gc
 wz:PySem.W.findIn K (.ref t.Db) "finish"=some (some (.ref t.Lc))
 Fh:Fun K "finish" "RowReader.finish" mh t.Lc t.yd
 tJ:mg "Way"=some (.ref t.zm)
 kL:PySem.W.findIn K (.ref t.zm) "__init__"=some (some (.ref t.Cf))
 xt:Fun K "__init__" "Way.__init__" Ft t.Cf t.Kg
 JH:mg "CarWay"=some (.ref t.Hc)
 xH:PySem.W.findIn K (.ref t.Hc) "__init__"=some (some (.ref t.cf))
 xm:Fun K "__init__" "CarWay.__init__" Jm t.cf t.Fg
 rG:PySem.W.findIn K (.ref t.Hc) "ready"=some (some (.ref t.bg))
 Zk:Fun K "ready" "CarWay.ready" Cl t.bg t.Ph
 MH:PySem.W.findIn K (.ref t.Hc) "fade"=some (some (.ref t.Hg))
 Nm:Fun K "fade" "CarWay.fade" ym t.Hg t.Ri
 KG:PySem.W.findIn K (.ref t.Hc) "goes"=some (some (.ref t.Dg))
 Um:Fun K "goes" "CarWay.goes" Gm t.Dg t.Oi
 CD:mg "FootWay"=some (.ref t.qc)
 vG:PySem.W.findIn K (.ref t.qc) "__init__"=some (some (.ref t.Ie))
 ml:Fun K "__init__" "FootWay.__init__" ul t.Ie t.Of
 kF:PySem.W.findIn K (.ref t.qc) "ready"=some (some (.ref t.pf))
 Tj:Fun K "ready" "FootWay.ready" Kj t.pf t.Xg
 mG:PySem.W.findIn K (.ref t.qc) "fade"=some (some (.ref t.Zf))
 Vk:Fun K "fade" "FootWay.fade" gl t.Zf t.Kh
 wG:PySem.W.findIn K (.ref t.qc) "goes"=some (some (.ref t.ag))
 Uk:Fun K "goes" "FootWay.goes" Fl t.ag t.Jh
 wD:mg "TramWay"=some (.ref t.vc)
 pG:PySem.W.findIn K (.ref t.vc) "__init__"=some (some (.ref t.Me))
 Hl:Fun K "__init__" "TramWay.__init__" Wk t.Me t.Nf
 DF:PySem.W.findIn K (.ref t.vc) "ready"=some (some (.ref t.Ye))
 Uj:Fun K "ready" "TramWay.ready" gk t.Ye t.Pg
 qG:PySem.W.findIn K (.ref t.vc) "fade"=some (some (.ref t.Yf))
 Qk:Fun K "fade" "TramWay.fade" dl t.Yf t.Oh
 nG:PySem.W.findIn K (.ref t.vc) "goes"=some (some (.ref t.Kf))
 xl:Fun K "goes" "TramWay.goes" Al t.Kf t.Wh
 OB:mg "Crossing"=some (.ref t.Nb)
 DD:PySem.W.findIn K (.ref t.Nb) "__init__"=some (some (.ref t.re))
 ik:Fun K "__init__" "Crossing.__init__" Ij t.re t.df
 nC:PySem.W.findIn K (.ref t.Nb) "names"=some (some (.ref t.Nc))
 jj:Fun K "names" "Crossing.names" yg t.Nc t.kd
 iB:PySem.W.findIn K (.ref t.Nb) "number"=some (some (.ref t.Ed))
 Zh:Fun K "number" "Crossing.number" ai t.Ed t.Fe
 RB:PySem.W.findIn K (.ref t.Nb) "called"=some (some (.ref t.Fb))
 ii:Fun K "called" "Crossing.called" ni t.Fb t.Kb
 BL:mg "Plan"=some (.ref t.pe)
 BK:PySem.W.findIn K (.ref t.pe) "__init__"=some (some (.ref t.Tg))
 Fq:Fun K "__init__" "Plan.__init__" Tq t.Tg t.Si
 Bb:Cls K t.Db
 Wy:Mk K t.Db t.Vd
 Be:yr K t.Db "ahead" t.xc
 Lk:yr K t.Db "has_more" t.Tc
 vg:yr K t.Db "take" t.Oc
 Ch:yr K t.Db "one_of" t.Mc
 Ec:yr K t.Db "figures" t.wc
 vh:yr K t.Db "finish" t.Lc
 Lo:Ub K t.Db "row"
 gi:Ub K t.Db "told"
 af:Ub K t.Db "place"
 cP:Cls K t.zm
 zK:Ub K t.zm "kind"
 MJ:Ub K t.zm "name"
 jI:Ub K t.zm "start"
 nL:Ub K t.zm "end"
 qL:Ub K t.zm "off"
 ZJ:Ub K t.zm "near"
 vI:Ub K t.zm "least"
 rm:Cls K t.Hc
 WG:Mk K t.Hc t.cf
 Es:yr K t.Hc "ready" t.bg
 Bu:yr K t.Hc "fade" t.Hg
 Eu:yr K t.Hc "goes" t.Dg
 zr:Ub K t.Hc "kind"
 Kr:Ub K t.Hc "name"
 Xp:Ub K t.Hc "start"
 Gv:Ub K t.Hc "end"
 Ev:Ub K t.Hc "off"
 Cr:Ub K t.Hc "near"
 Np:Ub K t.Hc "least"
 yk:Cls K t.qc
 UD:Mk K t.qc t.Ie
 yp:yr K t.qc "ready" t.pf
 Xs:yr K t.qc "fade" t.Zf
 Ar:yr K t.qc "goes" t.ag
 Ap:Ub K t.qc "kind"
 Pq:Ub K t.qc "name"
 So:Ub K t.qc "start"
 Sr:Ub K t.qc "end"
 Ys:Ub K t.qc "off"
 Jp:Ub K t.qc "near"
 Vo:Ub K t.qc "least"
 pk:Cls K t.vc
 RC:Mk K t.vc t.Me
 bq:yr K t.vc "ready" t.Ye
 Os:yr K t.vc "fade" t.Yf
 Zs:yr K t.vc "goes" t.Kf
 xr:Ub K t.vc "kind"
 Lp:Ub K t.vc "name"
 Qo:Ub K t.vc "start"
 Pr:Ub K t.vc "end"
 dt:Ub K t.vc "off"
 wp:Ub K t.vc "near"
 Uo:Ub K t.vc "least"
 Jb:Cls K t.Nb
 rB:Mk K t.Nb t.re
 Zd:yr K t.Nb "names" t.Nc
 dn:yr K t.Nb "number" t.Ed
 Pb:yr K t.Nb "called" t.Fb
 Hh:Ub K t.Nb "places"
 Yi:Ub K t.Nb "ways"
 Vg:Ub K t.Nb "numbers"
 Ui:Cls K t.pe
 VM:Mk K t.pe t.Tg
 gj:Ub K t.pe "crossing"
 qo:Ub K t.pe "size"
 Au:Ub K t.pe "spans"
 Wm:Ub K t.pe "lamps"
 Rk:Ub K t.pe "untils"
 yG:t.zm ≠ t.Hc
 oG:t.zm ≠ t.qc
 tG:t.zm ≠ t.vc
 si:t.Hc ≠ t.qc
 oi:t.Hc ≠ t.vc
 nh:t.qc ≠ t.vc
 Sn:AO K t.zm "__init__" t.Cf
 fD:mg "FIGURES"=some t.Jx
 VD:gd (.str (Str.ofString "0123456789")) t.Jx
 Xr:mg "LEAST_PLACES"=some t.ql
 Mr:gd (.int 2) t.ql
 sD:mg "LETTERS"=some t.Uv
 AE:gd (.str (Str.ofString "abcdefghijklmnopqrstuvwxyz")) t.Uv
 gs:mg "MOST_FIGURES"=some t.Yk
 Er:gd (.int 3) t.Yk
 Xw:mg "MOST_LEAST"=some t.jo
 Zw:gd (.int 60) t.jo
 Ks:mg "MOST_LETTERS"=some t.yl
 Ur:gd (.int 8) t.yl
 ly:mg "MOST_NEAR"=some t.Vp
 Sx:gd (.int 30) t.Vp
 cC:mg "MOST_OFF"=some t.Ht
 TB:gd (.int 30) t.Ht
 Nu:mg "MOST_PLACES"=some t.Zm
 Jv:gd (.int 99) t.Zm
 dy:mg "MOST_WAYS"=some t.Jq
 Tx:gd (.int 12) t.Jq
 pO:mg "all"=none
 AL:mg "bool"=none
 SG:mg "divmod"=none
 Rg:mg "enumerate"=none
 nN:mg "int"=none
 Vj:mg "isinstance"=none
 Ik:mg "len"=none
 iu:mg "list"=none
 DH:mg "max"=none
 fH:mg "min"=none
 bf:mg "range"=none
 Qn:mg "reversed"=none
 JK:mg "str"=none
 RL:mg "sum"=none
 pJ:mg "tuple"=none
 iM:∀ (s:Shared) (u:Value),BindsTo s t.sH ⟨[u],[]⟩ [("_law_script",u)]
section
variable {w:World} {K:PySem.W.Frag} {mg:Str→Option Value} {t:Adr} (T:Txt w K mg t)
include T
theorem Txt.RH:Sb K t.gp q11 []:=T.qv.binds fun _ _ _ _ _ _=>us3 fun _ _ _=>rfl
theorem Txt.jD:Sb K t.Vt q11 []:=T.Nw.binds fun _ _ _ _ _ _=>us3 fun _ _ _=>rfl
theorem Txt.Iq:Sb K t.Zc ["comings"] []:=T.Qg.binds fun _ _ _ _ _ _=>us1 fun _=>rfl
theorem Txt.ee:Sb K t.be q23 []:=T.Pc.binds fun _ _ _ _ _ _=>us5 fun _ _ _ _ _=>rfl
theorem Txt.vF:Sb K t.Yq q12 []:=T.Lv.binds fun _ _ _ _ _ _=>us3 fun _ _ _=>rfl
theorem Txt.wJ:Sb K t.Pu q32 []:=T.Uy.binds fun _ _ _ _ _ _=>us4 fun _ _ _ _=>rfl
theorem Txt.ls:Sb K t.Tf q33 []:=T.Th.binds fun _ _ _ _ _ _=>us4 fun _ _ _ _=>rfl
theorem Txt.VF:Sb K t.Tm q12 []:=T.wq.binds fun _ _ _ _ _ _=>us3 fun _ _ _=>rfl
theorem Txt.jL:Sb K t.yv ["text"] []:=T.Qx.binds fun _ _ _ _ _ _=>us1 fun _=>rfl
theorem Txt.Yn:Sb K t.cg q18 []:=T.qh.binds fun _ _ _ _ _ _=>us3 fun _ _ _=>rfl
theorem Txt.Xx:Sb K t.Ci q24 []:=T.Xl.binds fun _ _ _ _ _ _=>us2 fun _ _=>rfl
theorem Txt.XE:Sb K t.Om q34 []:=T.Mq.binds fun _ _ _ _ _ _=>us3 fun _ _ _=>rfl
theorem Txt.xF:Sb K t.Pm ["word"] []:=T.lr.binds fun _ _ _ _ _ _=>us1 fun _=>rfl
theorem Txt.rF:Sb K t.vm ["text"] []:=T.Aq.binds fun _ _ _ _ _ _=>us1 fun _=>rfl
theorem Txt.bz:Sb K t.Li ["reader"] []:=T.Zl.binds fun _ _ _ _ _ _=>us1 fun _=>rfl
theorem Txt.Nq:Sb K t.mf q35 []:=T.Zg.binds fun _ _ _ _ _ _=>us2 fun _ _=>rfl
theorem Txt.WB:Sb K t.sk q25 []:=T.mn.binds fun _ _ _ _ _ _=>us3 fun _ _ _=>rfl
theorem Txt.uB:Sb K t.Gk q26 []:=T.yn.binds fun _ _ _ _ _ _=>us7 fun _ _ _ _ _ _ _=>rfl
theorem Txt.PB:Sb K t.wk q36 []:=T.Fn.binds fun _ _ _ _ _ _=>us3 fun _ _ _=>rfl
theorem Txt.Hq:Sb K t.lf ["text"] []:=T.ah.binds fun _ _ _ _ _ _=>us1 fun _=>rfl
theorem Txt.cB:Sb K t.Wo q37 []:=T.pp.binds fun _ _ _ _ _ _=>us3 fun _ _ _=>rfl
theorem Txt.Kw:Sb K t.Ih q27 []:=T.Fj.binds fun _ _ _ _ _ _=>us3 fun _ _ _=>rfl
theorem Txt.zM:Sb K t.Bz q15 []:=T.IE.binds fun _ _ _ _ _ _=>us3 fun _ _ _=>rfl
theorem Txt.EN:Sb K t.cH q15 []:=T.dL.binds fun _ _ _ _ _ _=>us3 fun _ _ _=>rfl
theorem Txt.ol:Sb K t.Je ["marks"] []:=T.Wf.binds fun _ _ _ _ _ _=>us1 fun _=>rfl
theorem Txt.js:Sb K t.Mf ["marks"] []:=T.Lh.binds fun _ _ _ _ _ _=>us1 fun _=>rfl
theorem Txt.Fk:Sb K t.Gf q13 []:=T.Lg.binds fun _ _ _ _ _ _=>us2 fun _ _=>rfl
theorem Txt.vo:Sb K t.lg q28 []:=T.Eh.binds fun _ _ _ _ _ _=>us3 fun _ _ _=>rfl
theorem Txt.BM:Sb K t.CA q38 []:=T.LF.binds fun _ _ _ _ _ _=>us3 fun _ _ _=>rfl
theorem Txt.Vr:Sb K t.Qf q39 []:=T.Nh.binds fun _ _ _ _ _ _=>us2 fun _ _=>rfl
theorem Txt.Qj:Sb K t.zd q40 []:=T.ue.binds fun _ _ _ _ _ _=>us3 fun _ _ _=>rfl
theorem Txt.Ms:Sb K t.Rf q16 []:=T.Xh.binds fun _ _ _ _ _ _=>us3 fun _ _ _=>rfl
theorem Txt.jn:Sb K t.De q41 []:=T.Af.binds fun _ _ _ _ _ _=>us5 fun _ _ _ _ _=>rfl
theorem Txt.Dr:Sb K t.Uf q16 []:=T.Mh.binds fun _ _ _ _ _ _=>us3 fun _ _ _=>rfl
theorem Txt.Vy:Sb K t.Ji q42 []:=T.dm.binds fun _ _ _ _ _ _=>us3 fun _ _ _=>rfl
theorem Txt.gc:Sb K t.ye q17 []:=T.Tb.binds fun _ _ _ _ _ _=>us3 fun _ _ _=>rfl
theorem Txt.ny:Sb K t.Vi q43 []:=T.Vl.binds fun _ _ _ _ _ _=>us2 fun _ _=>rfl
theorem Txt.xo:Sb K t.ig q14 []:=T.oh.binds fun _ _ _ _ _ _=>us3 fun _ _ _=>rfl
theorem Txt.wB:Sb K t.xk q21 []:=T.Pn.binds fun _ _ _ _ _ _=>us1 fun _=>rfl
theorem Txt.Py:Sb K t.Di q14 []:=T.Yl.binds fun _ _ _ _ _ _=>us3 fun _ _ _=>rfl
theorem Txt.Lq:Sb K t.jh q29 []:=T.Gi.binds fun _ _ _ _ _ _=>us4 fun _ _ _ _=>rfl
theorem Txt.Lr:Sb K t.Lf q44 []:=T.Sh.binds fun _ _ _ _ _ _=>us2 fun _ _=>rfl
theorem Txt.Vw:Sb K t.Gh q45 []:=T.Wj.binds fun _ _ _ _ _ _=>us4 fun _ _ _ _=>rfl
theorem Txt.Go:Sb K t.Pe q30 []:=T.ij.binds fun _ _ _ _ _ _=>us3 fun _ _ _=>rfl
theorem Txt.Ce:Sb K t.Fc ["self"] []:=T.yi.binds fun _ _ _ _ _ _=>us1 fun _=>rfl
theorem Txt.Kk:Sb K t.Dd ["self"] []:=T.zg.binds fun _ _ _ _ _ _=>us1 fun _=>rfl
theorem Txt.wg:Sb K t.jd q19 []:=T.kj.binds fun _ _ _ _ _ _=>us2 fun _ _=>rfl
theorem Txt.uh:Sb K t.md q31 []:=T.Ah.binds fun _ _ _ _ _ _=>us2 fun _ _=>rfl
theorem Txt.Dc:Sb K t.Gc q22 []:=T.Og.binds fun _ _ _ _ _ _=>us3 fun _ _ _=>rfl
theorem Txt.rh:Sb K t.yd ["self"] []:=T.Fh.binds fun _ _ _ _ _ _=>us1 fun _=>rfl
theorem Txt.Mn:Sb K t.Kg q20 []:=T.xt.binds fun _ _ _ _ _ _=>us8 fun _ _ _ _ _ _ _ _=>rfl
theorem Txt.Fv:Sb K t.Fg q10 []:=T.xm.binds fun _ _ _ _ _ _=>us7 fun _ _ _ _ _ _ _=>rfl
theorem Txt.Zr:Sb K t.Ph ["self"] []:=T.Zk.binds fun _ _ _ _ _ _=>us1 fun _=>rfl
theorem Txt.mv:Sb K t.Ri ["self"] []:=T.Nm.binds fun _ _ _ _ _ _=>us1 fun _=>rfl
theorem Txt.Qv:Sb K t.Oi q9 []:=T.Um.binds fun _ _ _ _ _ _=>us2 fun _ _=>rfl
theorem Txt.Qs:Sb K t.Of q10 []:=T.ml.binds fun _ _ _ _ _ _=>us7 fun _ _ _ _ _ _ _=>rfl
theorem Txt.ir:Sb K t.Xg ["self"] []:=T.Tj.binds fun _ _ _ _ _ _=>us1 fun _=>rfl
theorem Txt.Br:Sb K t.Kh ["self"] []:=T.Vk.binds fun _ _ _ _ _ _=>us1 fun _=>rfl
theorem Txt.Ds:Sb K t.Jh q9 []:=T.Uk.binds fun _ _ _ _ _ _=>us2 fun _ _=>rfl
theorem Txt.Tr:Sb K t.Nf q10 []:=T.Hl.binds fun _ _ _ _ _ _=>us7 fun _ _ _ _ _ _ _=>rfl
theorem Txt.Kq:Sb K t.Pg ["self"] []:=T.Uj.binds fun _ _ _ _ _ _=>us1 fun _=>rfl
theorem Txt.Hr:Sb K t.Oh ["self"] []:=T.Qk.binds fun _ _ _ _ _ _=>us1 fun _=>rfl
theorem Txt.Cs:Sb K t.Wh q9 []:=T.xl.binds fun _ _ _ _ _ _=>us2 fun _ _=>rfl
theorem Txt.pq:Sb K t.df q46 []:=T.ik.binds fun _ _ _ _ _ _=>us3 fun _ _ _=>rfl
theorem Txt.Wd:Sb K t.kd ["self"] []:=T.jj.binds fun _ _ _ _ _ _=>us1 fun _=>rfl
theorem Txt.An:Sb K t.Fe q8 []:=T.Zh.binds fun _ _ _ _ _ _=>us2 fun _ _=>rfl
theorem Txt.Qb:Sb K t.Kb q8 []:=T.ii.binds fun _ _ _ _ _ _=>us2 fun _ _=>rfl
theorem Txt.Vx:Sb K t.Si q47 []:=T.Fq.binds fun _ _ _ _ _ _=>us4 fun _ _ _ _=>rfl
end
noncomputable abbrev Ue:Str:=Str.ofString "coming_by" ++ Str.ofString ".<locals>." ++ Str.ofString "<lambda>"
theorem ak:RM "turn" "kept" (lL (Sv Ob)):=⟨rfl,rfl,rfl,by decide +kernel,rfl,rfl,by decide +kernel,by decide +kernel⟩
noncomputable def uf (ns:List Int) (k m:Int):Int:=
 ((((if 0 < (ns.length:Int) then ns.getD (k % (ns.length:Int)).toNat 0 else 0) % 1000003 + 31 * k * k + 1) * 48271 % 999983 * 7919) % 524287) % m
theorem Df (ns:List Int) (k:Int) {m:Int} (h:0 < m):0 ≤ uf ns k m:=Int.emod_nonneg _ (by omega)
theorem qg (ns:List Int) (k:Int) {m:Int} (h:0 < m):uf ns k m < m:=Int.emod_lt_of_pos _ h
noncomputable def ie (K:PySem.W.Frag) (a:Addr) (ns:List Int):Sp:=fun vs H Q _=>∃ k m,vs=[.ref a,.int k,.int m]∧Sc K a ns H∧(0 ≤ k∧k < 1000000)∧0 < m∧Q (.int (uf ns k m)) H
section
variable {P:Program} {w:World} {K:PySem.W.Frag} {mg:Str→Option Value} {base:Heap} {t:Adr}
theorem br (T:Txt w K mg t) (a:Addr) (ns:List Int) (h63:ns.length ≤ 63):Eb P w K mg base CX0 1 t.Ae t.ye q17 (ie K a ns):=by
 refine T.Tb.ok Pj (fun vs H Q E h=>?_) (fun _ _ _ s H vs Q E hr h=>?_)
 ·obtain ⟨k,m,rfl,_⟩:=h;rfl
 obtain ⟨k,m,rfl,S,⟨h0,h1⟩,hm,q⟩:=h;refine ⟨_,(bb (zb (i:=3) Pj.nd (Iv (Rb Jr (dc ic rfl T.Ik Ac (ab (pv 0) fb)) jb (Zb _)) (ac yc (pv 0) (Gb Jd (pv 1) (dc ic rfl T.Ik Ac (ab (pv 0) fb)))) jb))
   (bb (zb (i:=4) Pj.nd (Gb Cd (Gb Cd (Gb Jd (pv 3) jb) (Gb zh (Gb zh jb (pv 1)) (pv 1))) jb))
   (gb (Cb (Gb Jd (Gb Jd (Gb zh (Gb Jd (Gb zh (pv 4) jb) jb) jb) jb) (pv 2)))))),?_⟩
 walk_at "RD";refine ⟨_,.inl S.seq,?_⟩;rw [List.length_map];have hkk:(0:Int) ≤ k * k∧k * k < 1000000 * 1000000:=⟨Int.mul_nonneg h0 h0,Int.mul_lt_mul' (by omega) h1 h0 (by decide)⟩;have fin:∀ i:Int,(0:Int) < 1000003∧pI 31 k∧pI (31 * k) k∧pI (i % 1000003 + 31 * k * k + 1) 48271∧(0:Int) < 999983∧pI ((i % 1000003 + 31 * k * k + 1) * 48271 % 999983) 7919∧(0:Int) < 524287∧0 < m:=by
  intro i;refine ⟨by decide,.inl (by decide),.inr (by omega),.inr (by decide),by decide,.inr (by decide),by decide,hm⟩
 by_cases c:(0:Int) < (ns.length:Int)
 ·rw [if_pos (decide_eq_true c)];have hk:0 ≤ k % (ns.length:Int)∧k % (ns.length:Int) < (ns.length:Int):=⟨Int.emod_nonneg _ (by omega),Int.emod_lt_of_pos _ c⟩;refine ⟨_,.inl S.seq,by rw [List.length_map];exact c,_,S.seq,?_⟩;rw [List.length_map];have hj:(k % (ns.length:Int)).toNat < ns.length:=by omega
  refine ⟨.int ns[(k % (ns.length:Int)).toNat],?_,_,rfl,?_⟩
  ·have e:=Ib (xs:=ns.map V.int) (j:=(k % (ns.length:Int)).toNat) (v:=.int ns[(k % (ns.length:Int)).toNat]) (by rw [List.getElem?_map,List.getElem?_eq_getElem hj] <;> rfl);rwa [Int.toNat_of_nonneg hk.1] at e
  ·obtain ⟨f1,f2,f3,f4,f5,f6,f7,f8⟩:=fin ns[(k % (ns.length:Int)).toNat];refine ⟨f1,f2,f3,f4,f5,f6,f7,f8,?_⟩;have e:uf ns k m=(((ns[(k % (ns.length:Int)).toNat] % 1000003 + 31 * k * k + 1) * 48271 % 999983 * 7919) % 524287) % m:=by
    unfold uf;rw [if_pos c,List.getD_eq_getElem?_getD,List.getElem?_eq_getElem hj];rfl
   rw [← e];exact q
 ·rw [if_neg (by simpa using c)];obtain ⟨f1,f2,f3,f4,f5,f6,f7,f8⟩:=fin 0;refine ⟨f1,f2,f3,f4,f5,f6,f7,f8,?_⟩;have e:uf ns k m=(((0 % 1000003 + 31 * k * k + 1) * 48271 % 999983 * 7919) % 524287) % m:=by
   unfold uf;rw [if_neg c]
  rw [← e];exact q
end
theorem PN {w:Str}:w=Str.ofString "" ↔ w.length=0:=by
 constructor
 ·rintro rfl;decide +kernel
 ·intro h;have e:w.cps=#[]:=Array.eq_empty_of_size_eq_zero h;have e2:(Str.ofString "").cps=#[]:=by decide +kernel
  cases w;cases h2:Str.ofString "";rw [h2] at e2;simp only at e e2;rw [e,e2]
noncomputable def inL (sg:Str) (c:Nat):Bool:=!(Builtin.Str.occurrences sg (BH c) 0 sg.length 1).isEmpty
theorem lD (sg:Str) (c:Nat):inL sg c=decide (c ∈ sg.cps.toList):=StrLaws.found_one sg c
noncomputable def made (w sg:Str) (m:Int):Bool:=if w=Str.ofString "" then false else if m < (w.length:Int) then false else w.cps.toList.all (inL sg)
noncomputable def Oq:Sp:=fun vs H Q _=>∃ w sg m,vs=[.str w,.str sg,.int m]∧w.length ≤ 1000∧NoT H∧Q (.bl (made w sg m)) H
noncomputable def MG:Sp:=fun vs H Q _=>∃ w sg m,vs=[.str w,.str sg,.int m]∧w.length ≤ 1000∧∀ H',Yb H H'→Q (.bl (made w sg m)) H'
section
variable {P:Program} {w:World} {K:PySem.W.Frag} {mg:Str→Option Value} {base:Heap} {t:Adr}
theorem ZF (T:Txt w K mg t):Eb P w K mg base CX0 1 t.ng t.cg q18 Oq:=by
 refine Eb.forget (sp:=MG) ?_ fun vs H Q E h=>?_
 ·refine T.qh.ok Hv (fun vs H Q E h=>?_) (fun _ _ _ s H vs Q E hr h=>?_)
  ·obtain ⟨w,sg,m,rfl,_⟩:=h;rfl
  obtain ⟨w,sg,m,rfl,hz,q⟩:=h;have hz':w.length ≤ sizeLine:=Nat.le_trans hz (by decide);refine ⟨_,(bb (Qd (PW.pt (mw (Rb Qh (pv 0) Cc (Zb _)) (io (Rb Jr (dc jw rfl T.Ik Ac (ab (pv 0) fb)) (pv 2) (Zb _))))) (gb (Cb Do)) Xb)
   (gb (Cb (dc (CH rfl) rfl T.pO oB (ab (Fi rfl (PL (pv 0)) (Yc (sc:=ib Ej) rfl (by decide +kernel)) (N:=["sign","signs"]) (sel:=[none,some 1]) (Nd (M:=q18) (by decide +kernel)) (Blk.of (fun _ _ _ _=>(ub (i:=0) (kh (N:=["sign","signs"]) (by decide +kernel) rfl))) (fun _ _ _ _=>⟨_,ug,by walk_at "B"⟩) (fun _ _ _ _=>⟨_,(Se zC (pv 0) (pv 1) (by with_unfolding_all rfl)),by walk_at "B"⟩))) fb))))),?_⟩
  walk_at "RD";refine Vb (decide (w=Str.ofString "") || decide (m < (w.length:Int))) (fun Q hQ=>?_) (fun hb=>?_) (fun hb=>?_)
  ·walk_at "RD";by_cases c:w=Str.ofString ""
   ·rw [if_pos (decide_eq_true c)];rw [decide_eq_true c,Bool.true_or] at hQ;exact hQ
   ·rw [if_neg (by simpa using c)];rw [decide_eq_false c,Bool.false_or] at hQ;exact ⟨hz',hQ⟩
  ·walk_at "RD";have e:made w sg m=false:=by
    unfold made;simp only [Bool.or_eq_true,decide_eq_true_eq] at hb;by_cases c:w=Str.ofString ""
    ·rw [if_pos c]
    ·rw [if_neg c,if_pos (hb.resolve_left c)]
   have:=q H (Yb.refl H);rw [e] at this;exact this
  ·walk_at "RD";have e:made w sg m=w.cps.toList.all (inL sg):=by
    unfold made;simp only [Bool.or_eq_false_iff,decide_eq_false_iff_not] at hb;rw [if_neg hb.1,if_neg hb.2]
   refine ud.its_map (fun x=>match x with | .str y=>.bl (!(Builtin.Str.occurrences sg y 0 sg.length 1).isEmpty) | _=>.non) (by rw [Am];exact hz') (fun i x N hx hN=>?_) (fun p hp=>?_)
   ·unfold aj at hx;rw [List.getElem?_map] at hx;cases hc:w.cps.toList[i]? with
    | none=>rw [hc] at hx;cases hx
    | some c=>
     rw [hc] at hx;have hx':V.str (BH c)=x:=Option.some.inj hx;subst hx';walk_at "RD";exact ⟨Sub.name,hN⟩
   ·refine ⟨p,rfl,w.cps.toList.map (inL sg),SqL.of ?_,?_⟩
    ·rw [db];unfold aj;rw [List.map_map,List.map_map];rfl
    ·have:=q (upd H p (.lst (List.map (fun x=>match x with | .str y=>.bl (!(Builtin.Str.occurrences sg y 0 sg.length 1).isEmpty) | _=>.non) (aj w)))) (lb hp);rw [e] at this;rw [List.all_map];exact this
 ·obtain ⟨w,sg,m,e,hz,nt,q⟩:=h;exact ⟨nt,w,sg,m,e,hz,fun H' sm=>⟨sm,q⟩⟩
end
noncomputable abbrev jK:Str:=Str.ofString "0123456789"
noncomputable def Fo (c:Nat):Bool:=decide (48 ≤ c∧c ≤ 57)
theorem HH (c:Nat):inL jK c=Fo c:=by
 rw [lD,show jK.cps.toList=List.range' 48 10 by decide +kernel];unfold Fo;refine decide_eq_decide.mpr ?_;rw [List.mem_range'_1];exact and_congr_right fun _=>show c < 58↔c ≤ 57 from Nat.lt_succ_iff
noncomputable abbrev cs (w:Str):List Nat:=w.cps.toList
theorem GE (w:Str):(cs w).length=w.length:=by simp [cs,Str.length]
noncomputable def okB (w:Str):Bool:=decide (1 ≤ (cs w).length) && decide ((cs w).length ≤ 3) && (cs w).all Fo && (decide ((cs w).length ≤ 1) || decide ((cs w).headD 0 ≠ 48))
noncomputable abbrev val (w:Str):Int:=((NumText.digitsVal (cs w):Nat):Int)
noncomputable def uG (w:Str) (lo hi:Int):V:=if okB w && !(decide (val w < lo) || decide (hi < val w)) then .int (val w) else .non
theorem AD {w:Str} {c:Nat}:w=⟨#[c]⟩↔cs w=[c]:=by
 constructor
 ·rintro rfl;rfl
 ·intro h;cases w with
  | mk a=>
   have e:a=#[c]:=Array.toList_inj.mp h;rw [e]
theorem Oy:Str.ofString "0"=⟨#[48]⟩:=by decide +kernel
theorem Hx (w:Str):made w jK 3=(decide (1 ≤ (cs w).length) && decide ((cs w).length ≤ 3) && (cs w).all Fo):=by
 unfold made;have e:(inL jK)=Fo:=funext HH;rw [e];by_cases h1:w=Str.ofString ""
 ·have h2:=PN.mp h1;rw [if_pos h1,GE,h2];rfl
 ·have h2:¬ w.length=0:=fun z=>h1 (PN.mpr z)
  rw [if_neg h1,GE];by_cases h3:(3:Int) < (w.length:Int)
  ·rw [if_pos h3,decide_eq_false (show ¬ w.length ≤ 3 by omega),Bool.and_false,Bool.false_and]
  ·rw [if_neg h3,decide_eq_true (show 1 ≤ w.length by omega),decide_eq_true (show w.length ≤ 3 by omega)];rfl
theorem av {l:List Nat} (h:l.all Fo=true):NumText.AllDigits l:=fun c hc=>by
 have:=List.all_eq_true.mp h c hc;simpa [Fo] using this
theorem rN {w:Str} (h:okB w=true):(1 ≤ (cs w).length∧(cs w).length ≤ 3)∧(cs w).all Fo=true:=by
 unfold okB at h;simp only [Bool.and_eq_true,decide_eq_true_eq] at h;exact h.1
noncomputable def CC:Sp:=fun vs H Q _=>∃ w,vs=[.str w,.int 3]∧w.length ≤ 1000∧NoT H∧Q (.bl (okB w)) H
noncomputable def iI:Sp:=fun vs H Q _=>∃ w lo hi,vs=[.str w,.int lo,.int hi]∧w.length ≤ 1000∧NoT H∧Q (uG w lo hi) H
section
variable {P:Program} {w:World} {K:PySem.W.Frag} {mg:Str→Option Value} {base:Heap} {t:Adr}
theorem jM (T:Txt w K mg t):Eb P w K mg base CX0 2 t.Ei t.Ci q24 CC:=by
 have g18:Eb P w K mg base CX0 1 t.ng t.cg q18 Oq:=ZF T;refine T.Xl.ok Vv (fun vs H Q E h=>?_) (fun _ _ _ s H vs Q E hr h=>?_)
 ·obtain ⟨w,rfl,_⟩:=h;rfl
 obtain ⟨w,rfl,hz,nt,q⟩:=h;have hz':w.length ≤ sizeLine:=Nat.le_trans hz (by decide);refine ⟨_,(bb (Qd (Wn (bh (qb g18 hr T.Zn T.qh.kp T.Yn (ab (pv 0) (ab (Uh rfl T.fD T.VD) (ab (pv 1) fb)))))) (gb (Cb Do)) Xb)
   (gb (Cb (mN (Se Qh (pv 0) Cc (Zb _)) (xw (Se zB (ac eI (pv 0) jb) Cc (Zb _))))))),?_⟩
 refine Vb (!made w jK 3) (fun Q hQ=>?_) (fun hb=>?_) (fun hb=>?_)
 ·(walk_at "RD"; repeat (dsimp only [Oq];walk_at "RD"));exact ⟨hz,nt,hQ⟩
 ·walk_at "RD";have e:okB w=false:=by
   have hb':made w jK 3=false:=by simpa using hb
   rw [Hx] at hb';unfold okB;rw [hb'];rfl
  rw [e] at q;exact q
 ·have hb':made w jK 3=true:=by simpa using hb
  rw [Hx] at hb';rw [Ii];dsimp only;refine yK (.bl (okB w)) (fun Q hQ=>?_) ?_
  case refine_2=>exact q
  walk_at "RD";have hb2:(1 ≤ (cs w).length∧(cs w).length ≤ 3)∧(cs w).all Fo=true:=by
   simpa only [Bool.and_eq_true,decide_eq_true_eq] using hb'
  obtain ⟨c,r,hcr⟩:∃ c r,cs w=c :: r:=by
   cases h:cs w with
   | nil=>rw [h] at hb2;exact absurd hb2.1.1 (by decide)
   | cons c r=>exact ⟨c,r,rfl⟩
  have ok:okB w=(decide ((cs w).length ≤ 1) || decide ((cs w).headD 0 ≠ 48)):=by
   unfold okB;rw [hb',Bool.true_and]
  by_cases c0:w=Str.ofString "0"
  ·rw [if_pos (decide_eq_true c0)];have e:cs w=[48]:=by rw [c0,Oy]
   rw [ok,e] at hQ;exact hQ
  ·rw [if_neg (by simpa using c0)];refine ⟨hz',c,?_,?_⟩
   ·have:=Ib (xs:=cs w) (j:=0) (v:=c) (by rw [hcr];rfl);exact this
   ·have e2:decide ((⟨#[c]⟩:Str)=Str.ofString "0")=decide (c=48):=by
     rw [Oy];by_cases h48:c=48
     ·rw [h48];simp
     ·rw [decide_eq_false h48,decide_eq_false];intro z;have z2:=AD.mp z;exact h48 (List.cons.inj z2).1
    rw [e2];have e3:okB w = !decide (c=48):=by
     rw [ok,hcr];show (decide ((c :: r).length ≤ 1) || decide (c ≠ 48))=_;by_cases h48:c=48
     ·have hr:r ≠ []:=fun z=>c0 (by rw [Oy];exact AD.mpr (by rw [hcr,z,h48]))
      have:¬ (c :: r).length ≤ 1:=by
       cases r with
       | nil=>exact absurd rfl hr
       | cons d r=>simp
      rw [decide_eq_false this,h48];rfl
     ·rw [decide_eq_true h48,Bool.or_true,decide_eq_false h48];rfl
    rw [← e3];exact hQ
theorem wL (T:Txt w K mg t):Eb P w K mg base CX0 3 t.Hm t.Om q34 iI:=by
 have g28:Eb P w K mg base CX0 2 t.Ei t.Ci q24 CC:=jM T;refine T.Mq.ok kt (fun vs H Q E h=>?_) (fun _ _ _ s H vs Q E hr h=>?_)
 ·obtain ⟨w,lo,hi,rfl,_⟩:=h;rfl
 obtain ⟨w,lo,hi,rfl,hz,nt,q⟩:=h;refine ⟨_,(bb (Qd (Wn (bh (qb g28 hr T.my T.Xl.kp T.Xx (ab (pv 0) (ab (Uh rfl T.gs T.Er) fb))))) (gb (Cb qt)) Xb)
   (bb (zb (i:=3) kt.nd (gh sF rfl T.nN Ct (ab (pv 0) fb)))
   (bb (Qd (PW.pt (mw (Rb Js (pv 3) (pv 1) (Zb _)) (io (Rb Jr (pv 3) (pv 2) (Zb _))))) (gb (Cb qt)) Xb)
   (gb (Cb (pv 3)))))),?_⟩
 refine Vb (!okB w) (fun Q hQ=>?_) (fun hb=>?_) (fun hb=>?_)
 ·(walk_at "RD"; repeat (dsimp only [CC];walk_at "RD"));exact ⟨hz,nt,hQ⟩
 ·walk_at "RD";have hb':okB w=false:=by simpa using hb
  have e:uG w lo hi=.non:=by unfold uG;rw [hb'];rfl
  rw [e] at q;exact q
 ·have hb':okB w=true:=by simpa using hb
  have h3:(1 ≤ (cs w).length∧(cs w).length ≤ 3)∧(cs w).all Fo=true:=by
   have:=hb';unfold okB at this;simp only [Bool.and_eq_true,decide_eq_true_eq] at this;exact this.1
  have hl:=GE w;have hi':intText? w=some (val w):=intText_digits (av h3.2) (fun z=>by have z':cs w=[]:=z;rw [z'] at h3;exact absurd h3.1.1 (by decide)) (by omega);walk_at "RD";refine ⟨val w,hi',by omega,?_⟩;refine Vb (decide (val w < lo) || decide (hi < val w)) (fun Q hQ=>?_) (fun hc=>?_) (fun hc=>?_)
  ·walk_at "RD";by_cases c:val w < lo
   ·rw [if_pos (decide_eq_true c)];rw [decide_eq_true c,Bool.true_or] at hQ;exact hQ
   ·rw [if_neg (by simpa using c)];rw [decide_eq_false c,Bool.false_or] at hQ;exact hQ
  ·walk_at "RD";have e:uG w lo hi=.non:=by unfold uG;rw [hb',hc];rfl
   rw [e] at q;exact q
  ·walk_at "RD";have e:uG w lo hi=.int (val w):=by unfold uG;rw [hb',hc];rfl
   rw [e] at q;exact q
end
theorem xq {n:Nat} (h:n < 1000):n.log2 < 1920:=by
 by_cases h0:n=0
 ·subst h0;decide
 ·rw [Nat.log2_lt h0];exact Nat.lt_of_lt_of_le h (Nat.le_trans (show 1000 ≤ 2 ^ 10 by decide) (Nat.pow_le_pow_right (by decide) (by decide)))
theorem JG:∀ n,n < 1000→(Nat.toDigits 10 n).length ≤ 3:=by decide +kernel
theorem lK {n:Int} (h0:0 ≤ n) (h1:n ≤ 999):(Str.ofString (toString n)).length ≤ 3:=by
 have e:=PySem.W.KIN.signs_num n.toNat;rw [Int.toNat_of_nonneg h0] at e;have l:(Str.ofString (toString n)).length=(Str.ofString (toString n)).cps.toList.length:=by simp [Str.length]
 rw [l,e,List.length_map];exact JG _ (by omega)
noncomputable abbrev am:Str:=Str.ofString "abcdefghijklmnopqrstuvwxyz"
noncomputable def yE:Sp:=fun vs H Q _=>∃ w,vs=[.str w]∧w.length ≤ 1000∧NoT H∧Q (.bl (made w am 8)) H
section
variable {P:Program} {w:World} {K:PySem.W.Frag} {mg:Str→Option Value} {base:Heap} {t:Adr}
theorem qK (T:Txt w K mg t):Eb P w K mg base CX0 2 t.Rm t.Pm ["word"] yE:=by
 have g18:Eb P w K mg base CX0 1 t.ng t.cg q18 Oq:=ZF T;refine T.lr.ok BB (fun vs H Q E h=>?_) (fun _ _ _ s H vs Q E hr h=>?_)
 ·obtain ⟨w,rfl,_⟩:=h;rfl
 obtain ⟨w,rfl,hz,nt,q⟩:=h;refine ⟨_,(gb (Cb (qb g18 hr T.Zn T.qh.kp T.Yn (ab (pv 0) (ab (Uh rfl T.sD T.AE) (ab (Uh rfl T.Ks T.Ur) fb)))))),?_⟩;(walk_at "RD"; repeat (dsimp only [Oq];walk_at "RD"));exact ⟨hz,nt,q⟩
end
noncomputable abbrev nl:Str:=Str.ofString "\n"
noncomputable abbrev bk:Str:=Str.ofString " "
theorem HN:nl=⟨#[10]⟩:=by decide +kernel
theorem DJ:bk=⟨#[32]⟩:=by decide +kernel
noncomputable def Xi (x:Str):List (List Str):=(Txt.split x nl).map fun r=>Txt.split r bk
theorem Zt:∀ {ys:List Str} {y:Str},y ∈ ys→y.length ≤ (ys.map (·.length)).sum
 | [],_,h=>nomatch h
 | a :: r,y,h=>by
  rw [List.map_cons,List.sum_cons];rcases List.mem_cons.mp h with rfl | h
  ·omega
  ·have:=Zt h;omega
theorem tK {x y r:Str} (hy:1 ≤ y.length) (h:r ∈ Txt.split x y):r.length ≤ x.length + 1:=by
 have h1:=PyProof.Rows.split_weight x y hy;have h2:=Zt h;omega
theorem tq {x y:Str} (hy:1 ≤ y.length):(Txt.split x y).length ≤ x.length + 1:=by
 have h1:=PyProof.Rows.split_weight x y hy;omega
theorem DG (x y:Str):Txt.split x y ≠ []:=by
 unfold Txt.split;split
 ·simp
 ·split
  ·simp
  ·rw [StrLaws.partsBetween_eq];obtain ⟨p,r,e⟩:=StrLaws.partsFrom_ne x y.length 0 (Builtin.Str.occurrences x y 0 x.length (x.length + 1));rw [e];simp
noncomputable def LL (H0 H:Hp) (p:Addr) (rows:List (List Str)):Prop:=∃ qs:List Addr,H p=some (.lst (qs.map V.ref))∧H0 p=none∧p ∉ qs∧qs.length=rows.length∧∀ (i:Nat) (q:Addr) (r:List Str),qs[i]? = some q→rows[i]? = some r→H q=some (.lst (bc r))∧H0 q=none
noncomputable def Oz:Sp:=fun vs H Q _=>∃ x,vs=[.str x]∧x.length ≤ 20000∧NoT H∧∀ p H',Yb H H'→NoT H'→LL H H' p (Xi x)→Q (.ref p) H'
theorem Pz:nl.length=1:=by decide +kernel
theorem px:bk.length=1:=by decide +kernel
section
variable {P:Program} {w:World} {K:PySem.W.Frag} {mg:Str→Option Value} {base:Heap} {t:Adr}
theorem zG (T:Txt w K mg t):Eb P w K mg base CX0 1 t.Kv t.yv ["text"] Oz:=by
 refine T.Qx.ok uH (fun vs H Q E h=>?_) (fun _ _ _ s H vs Q E hr h=>?_)
 ·obtain ⟨x,rfl,_⟩:=h;rfl
 obtain ⟨x,rfl,hz,nt,q⟩:=h;have hzz:∀ n:Nat,n ≤ 40000→n ≤ sizeLine:=fun n h=>Nat.le_trans h (by decide)
 refine ⟨_,(gb (Cb (Fi rfl (Ld (On PySem.F.plainAttrs_str PySem.F.slot_str_split PySem.F.type_str_split pA (pv 0) (ab Cc fb))) (Yc (sc:=ib cy) rfl (by decide +kernel)) (N:=["row"]) (sel:=[none]) (Nd (M:=["text"]) (by decide +kernel)) (Blk.of (fun _ _ _ _=>(ub (i:=0) (kh (N:=["row"]) (by decide +kernel) rfl))) (fun _ _ _ _=>⟨_,ug,by walk_at "B"⟩) (fun _ _ _ _=>⟨_,(On PySem.F.plainAttrs_str PySem.F.slot_str_split PySem.F.type_str_split pA (pv 0) (ab Cc fb)),by walk_at "B"⟩))))),?_⟩;walk_at "RD";have hy:1 ≤ nl.length:=by rw [Pz];exact Nat.le_refl _
 have hy2:1 ≤ bk.length:=by rw [px];exact Nat.le_refl _
 have hs:=tq (x:=x) hy;have hs':(bc (Txt.split x nl)).length ≤ sizeLine:=by unfold bc;rw [List.length_map];exact hzz _ (by omega)
 refine ⟨by rw [Pz];decide,hzz _ (by omega),hzz _ (show (Txt.split x nl).length ≤ 40000 by omega),fun p hp=>⟨⟨_,SqL.of db⟩,?_⟩⟩;refine ud.list_mk (xs:=bc (Txt.split x nl)) (fun v=>match v with | .str r=>.lst (bc (Txt.split r bk)) | _=>.lst []) (SqL.of db) hs' (fun v=>by cases v <;> rfl) (fun i v H1 N hx sm nt1 hN=>?_) (fun qs H1 sm nt1 hl al p2 hp2=>?_)
 ·unfold bc at hx;rw [List.getElem?_map] at hx;cases hr:(Txt.split x nl)[i]? with
  | none=>rw [hr] at hx;cases hx
  | some r=>
   rw [hr] at hx;have e:=Option.some.inj hx;subst e;have hm:=tK hy (List.mem_of_getElem? hr);have hs2:=tq (x:=r) hy2;walk_at "RD";exact ⟨Sub.name,by rw [px];decide,hzz _ (by omega),hzz _ (show (Txt.split r bk).length ≤ 40000 by omega),hN⟩
 ·have sm0:Yb H H1:=(lb hp).trans sm;refine q _ _ (sm0.updN (sm0.free hp2)) ((nt1 (nt.upd)).upd) ⟨qs,db,sm0.free hp2,fun hm=>?_,?_,fun i q' r h1 h2=>?_⟩
  ·obtain ⟨j,hj,e⟩:=List.getElem_of_mem hm;have hj2:j < (bc (Txt.split x nl)).length:=by omega
   have:=al j p2 _ (by rw [List.getElem?_eq_getElem hj,e]) (List.getElem?_eq_getElem hj2);rw [hp2] at this;cases this.1
  ·rw [hl];unfold Xi bc;rw [List.length_map,List.length_map]
  ·unfold Xi at h2;rw [List.getElem?_map] at h2;cases hr:(Txt.split x nl)[i]? with
   | none=>rw [hr] at h2;cases h2
   | some r0=>
    rw [hr] at h2;have e:=Option.some.inj h2;subst e;have z:=al i q' (.str r0) h1 (by unfold bc;rw [List.getElem?_map,hr];rfl);refine ⟨by rw [pb (xb z.1 hp2)];exact z.1,?_⟩;have:=z.2;by_cases hq:q'=p
    ·rw [hq];exact hp
    ·rwa [pb hq] at this
end
end My
namespace My
open PySem L2
structure WD where
 k:Nat
 name:Str
 start:Int
 fin:Int
 off:Int
 near:Int
 least:Int
noncomputable def Hd:Nat→Str
 | 0=>Str.ofString "car"
 | 1=>Str.ofString "foot"
 | _=>Str.ofString "tram"
noncomputable def Adr.cw (t:Adr):Nat→Addr
 | 0=>t.Hc
 | 1=>t.qc
 | _=>t.vc
noncomputable def Po (d:WD):List (Str × V):=[(Str.ofString "kind",.str (Hd d.k)),(Str.ofString "name",.str d.name),(Str.ofString "start",.int d.start),(Str.ofString "end",.int d.fin),(Str.ofString "off",.int d.off),(Str.ofString "near",.int d.near),(Str.ofString "least",.int d.least)]
noncomputable abbrev Gs:List Str:=[Str.ofString "kind",Str.ofString "name",Str.ofString "start",Str.ofString "end",Str.ofString "off",Str.ofString "near",Str.ofString "least"]
theorem Tt (d:WD):(Po d).map (·.1)=Gs:=rfl
noncomputable def Ud (t:Adr) (H:Hp) (p:Addr) (d:WD):Prop:=d.k < 3∧∃ dx,H p=some (.ins (t.cw d.k) dx (Po d))
theorem Ud.same {t:Adr} {H H':Hp} {p:Addr} {d:WD} (h:Ud t H p d) (s:Yb H H'):Ud t H' p d:=⟨h.1,h.2.imp fun dx e=>s _ _ e⟩
noncomputable def isW (t:Adr) (C:Addr):Prop:=∃ k,k < 3∧C=t.cw k
noncomputable def zc (d:WD):Int:=match d.k with | 0=>1 | 1=>0 | _=>2
noncomputable def me (d:WD):Int:=match d.k with | 0=>2 | 1=>d.off | _=>1
noncomputable def Nk (d:WD) (n:Int):Int:=match d.k with | 1=>n | _=>if 1 < n then 1 else n
section
variable {w:World} {K:PySem.W.Frag} {mg:Str→Option Value} {t:Adr}
theorem Txt.clw (T:Txt w K mg t):∀ k,Cls K (t.cw k)
 | 0=>T.rm
 | 1=>T.yk
 | _ + 2=>T.pk
theorem Txt.naw (T:Txt w K mg t) {f:Str} (hf:f ∈ Gs):∀ k,Ub K (t.cw k) f:=by
 intro k;simp only [Gs,List.mem_cons,List.not_mem_nil,or_false] at hf;rcases hf with rfl | rfl | rfl | rfl | rfl | rfl | rfl
 ·match k with
  | 0=>exact T.zr
  | 1=>exact T.Ap
  | _ + 2=>exact T.xr
 ·match k with
  | 0=>exact T.Kr
  | 1=>exact T.Pq
  | _ + 2=>exact T.Lp
 ·match k with
  | 0=>exact T.Xp
  | 1=>exact T.So
  | _ + 2=>exact T.Qo
 ·match k with
  | 0=>exact T.Gv
  | 1=>exact T.Sr
  | _ + 2=>exact T.Pr
 ·match k with
  | 0=>exact T.Ev
  | 1=>exact T.Ys
  | _ + 2=>exact T.dt
 ·match k with
  | 0=>exact T.Cr
  | 1=>exact T.Jp
  | _ + 2=>exact T.wp
 ·match k with
  | 0=>exact T.Np
  | 1=>exact T.Vo
  | _ + 2=>exact T.Uo
theorem Txt.cw_inj (T:Txt w K mg t) {j k:Nat} (hj:j < 3) (hk:k < 3) (e:t.cw j=t.cw k):j=k:=by
 match j,k,hj,hk with
 | 0,0,_,_=>rfl
 | 0,1,_,_=>exact absurd e T.si
 | 0,2,_,_=>exact absurd e T.oi
 | 1,0,_,_=>exact absurd e.symm T.si
 | 1,1,_,_=>rfl
 | 1,2,_,_=>exact absurd e T.nh
 | 2,0,_,_=>exact absurd e.symm T.oi
 | 2,1,_,_=>exact absurd e.symm T.nh
 | 2,2,_,_=>rfl
 | j + 3,_,h,_=>omega
 | _,k + 3,_,h=>omega
theorem Ud.fld (T:Txt w K mg t) {H:Hp} {p:Addr} {d:WD} (h:Ud t H p d) {f:Str} {v:V} (i:Nat) (hi:Gs.findIdx? (· == f)=some i) (hv:(Po d)[i]? = some (f,v)):oj K H p f v:=by
 obtain ⟨_,dx,e⟩:=h;have hm:f ∈ Gs:=by
  obtain ⟨hlt,h1,_⟩:=List.findIdx?_eq_some_iff_getElem.mp hi;have:Gs[i]=f:=by simpa using h1
  rw [← this];exact List.getElem_mem hlt
 exact ⟨_,dx,_,e,T.clw _,T.naw hm _,Sd Gs i (Tt d) hi hv⟩
theorem Ud.f_name (T:Txt w K mg t) {H:Hp} {p:Addr} {d:WD} (h:Ud t H p d):oj K H p (Str.ofString "name") (.str d.name):=h.fld T 1 (by decide +kernel) rfl
theorem Ud.f_start (T:Txt w K mg t) {H:Hp} {p:Addr} {d:WD} (h:Ud t H p d):oj K H p (Str.ofString "start") (.int d.start):=h.fld T 2 (by decide +kernel) rfl
theorem Ud.f_end (T:Txt w K mg t) {H:Hp} {p:Addr} {d:WD} (h:Ud t H p d):oj K H p (Str.ofString "end") (.int d.fin):=h.fld T 3 (by decide +kernel) rfl
theorem Ud.f_off (T:Txt w K mg t) {H:Hp} {p:Addr} {d:WD} (h:Ud t H p d):oj K H p (Str.ofString "off") (.int d.off):=h.fld T 4 (by decide +kernel) rfl
theorem Ud.f_near (T:Txt w K mg t) {H:Hp} {p:Addr} {d:WD} (h:Ud t H p d):oj K H p (Str.ofString "near") (.int d.near):=h.fld T 5 (by decide +kernel) rfl
theorem Ud.f_least (T:Txt w K mg t) {H:Hp} {p:Addr} {d:WD} (h:Ud t H p d):oj K H p (Str.ofString "least") (.int d.least):=h.fld T 6 (by decide +kernel) rfl
end
noncomputable def Cu (t:Adr):Sp:=fun vs H Q _=>∃ (p dx:Addr) (d:WD),vs=[.ref p,.str (Hd d.k),.str d.name,.int d.start,.int d.fin,.int d.off,.int d.near,.int d.least]∧d.k < 3∧H p=some (.ins (t.cw d.k) dx [])∧Q .non (upd H p (.ins (t.cw d.k) dx (Po d)))
noncomputable def Ak (t:Adr) (k:Nat):Sp:=fun vs H Q _=>∃ (p dx:Addr) (d:WD),vs=[.ref p,.str d.name,.int d.start,.int d.fin,.int d.off,.int d.near,.int d.least]∧d.k=k∧H p=some (.ins (t.cw d.k) dx [])∧Q .non (upd H p (.ins (t.cw d.k) dx (Po d)))
section
variable {P:Program} {w:World} {K:PySem.W.Frag} {mg:Str→Option Value} {base:Heap} {t:Adr}
theorem zy (T:Txt w K mg t):Eb P w K mg base CX0 1 t.Cf t.Kg q20 (Cu t):=by
 refine T.xt.ok Zq (fun vs H Q E h=>?_) (fun _ _ _ s H vs Q E hr h=>?_)
 ·obtain ⟨p,dx,d,rfl,_⟩:=h;rfl
 obtain ⟨p,dx,d,rfl,hk,hp,q⟩:=h;refine ⟨_,(bb (vf (pv 0) (pv 1) rfl)
   (bb (vf (pv 0) (pv 2) rfl)
   (bb (vf (pv 0) (pv 3) rfl)
   (bb (vf (pv 0) (pv 4) rfl)
   (bb (vf (pv 0) (pv 5) rfl)
   (bb (vf (pv 0) (pv 6) rfl)
   (gb (vf (pv 0) (pv 7) rfl)))))))),?_⟩
 walk_at "RD";have na:∀ {f:Str},f ∈ Gs→Ub K (t.cw d.k) f:=fun hf=>T.naw hf d.k
 refine ⟨_,_,_,hp,T.clw _,na (by decide +kernel),by decide,?_⟩;refine ⟨_,_,_,db,T.clw _,na (by decide +kernel),bn (n:=999) (by decide),?_⟩;refine ⟨_,_,_,db,T.clw _,na (by decide +kernel),bn (n:=999) (bn (n:=998) (by decide)),?_⟩;refine ⟨_,_,_,db,T.clw _,na (by decide +kernel),bn (n:=999) (bn (n:=998) (bn (n:=997) (by decide))),?_⟩;refine ⟨_,_,_,db,T.clw _,na (by decide +kernel),bn (n:=999) (bn (n:=998) (bn (n:=997) (bn (n:=996) (by decide)))),?_⟩;refine ⟨_,_,_,db,T.clw _,na (by decide +kernel),bn (n:=999) (bn (n:=998) (bn (n:=997) (bn (n:=996) (bn (n:=995) (by decide))))),?_⟩;refine ⟨_,_,_,db,T.clw _,na (by decide +kernel),bn (n:=999) (bn (n:=998) (bn (n:=997) (bn (n:=996) (bn (n:=995) (bn (n:=994) (by decide)))))),?_⟩;simp only [gq];rw [show Yh (Str.ofString "kind") (V.str (Hd d.k)) ([]:List (Str × V))=[(Str.ofString "kind",V.str (Hd d.k))] from ld [] rfl (by decide +kernel),
  show Yh (Str.ofString "name") (V.str d.name) ([(Str.ofString "kind",V.str (Hd d.k))]:List (Str × V))=[(Str.ofString "kind",V.str (Hd d.k)),(Str.ofString "name",V.str d.name)] from ld [Str.ofString "kind"] rfl (by decide +kernel),
  show Yh (Str.ofString "start") (V.int d.start) ([(Str.ofString "kind",V.str (Hd d.k)),(Str.ofString "name",V.str d.name)]:List (Str × V))=[(Str.ofString "kind",V.str (Hd d.k)),(Str.ofString "name",V.str d.name),(Str.ofString "start",V.int d.start)] from ld [Str.ofString "kind",Str.ofString "name"] rfl (by decide +kernel),
  show Yh (Str.ofString "end") (V.int d.fin) ([(Str.ofString "kind",V.str (Hd d.k)),(Str.ofString "name",V.str d.name),(Str.ofString "start",V.int d.start)]:List (Str × V))=[(Str.ofString "kind",V.str (Hd d.k)),(Str.ofString "name",V.str d.name),(Str.ofString "start",V.int d.start),(Str.ofString "end",V.int d.fin)] from ld [Str.ofString "kind",Str.ofString "name",Str.ofString "start"] rfl (by decide +kernel),
  show Yh (Str.ofString "off") (V.int d.off) ([(Str.ofString "kind",V.str (Hd d.k)),(Str.ofString "name",V.str d.name),(Str.ofString "start",V.int d.start),(Str.ofString "end",V.int d.fin)]:List (Str × V))=[(Str.ofString "kind",V.str (Hd d.k)),(Str.ofString "name",V.str d.name),(Str.ofString "start",V.int d.start),(Str.ofString "end",V.int d.fin),(Str.ofString "off",V.int d.off)] from ld [Str.ofString "kind",Str.ofString "name",Str.ofString "start",Str.ofString "end"] rfl (by decide +kernel),
  show Yh (Str.ofString "near") (V.int d.near) ([(Str.ofString "kind",V.str (Hd d.k)),(Str.ofString "name",V.str d.name),(Str.ofString "start",V.int d.start),(Str.ofString "end",V.int d.fin),(Str.ofString "off",V.int d.off)]:List (Str × V))=[(Str.ofString "kind",V.str (Hd d.k)),(Str.ofString "name",V.str d.name),(Str.ofString "start",V.int d.start),(Str.ofString "end",V.int d.fin),(Str.ofString "off",V.int d.off),(Str.ofString "near",V.int d.near)] from ld [Str.ofString "kind",Str.ofString "name",Str.ofString "start",Str.ofString "end",Str.ofString "off"] rfl (by decide +kernel),
  show Yh (Str.ofString "least") (V.int d.least) ([(Str.ofString "kind",V.str (Hd d.k)),(Str.ofString "name",V.str d.name),(Str.ofString "start",V.int d.start),(Str.ofString "end",V.int d.fin),(Str.ofString "off",V.int d.off),(Str.ofString "near",V.int d.near)]:List (Str × V))=[(Str.ofString "kind",V.str (Hd d.k)),(Str.ofString "name",V.str d.name),(Str.ofString "start",V.int d.start),(Str.ofString "end",V.int d.fin),(Str.ofString "off",V.int d.off),(Str.ofString "near",V.int d.near),(Str.ofString "least",V.int d.least)] from ld [Str.ofString "kind",Str.ofString "name",Str.ofString "start",Str.ofString "end",Str.ofString "off",Str.ofString "near"] rfl (by decide +kernel)]
 exact q
theorem mK (T:Txt w K mg t):Eb P w K mg base CX0 2 t.cf t.Fg q10 (Ak t 0):=by
 have g15:Eb P w K mg base CX0 1 t.Cf t.Kg q20 (Cu t):=zy T;refine T.xm.ok Cm (fun vs H Q E h=>?_) (fun _ _ _ s H vs Q E hr h=>?_)
 ·obtain ⟨p,dx,d,rfl,_⟩:=h;rfl
 obtain ⟨p,dx,d,rfl,hk,hp,q⟩:=h;refine ⟨_,(gb (Wc (Wu rfl T.tJ T.Sn g15 hr T.Mn .nil Kc (ab (pv 0) (ab Cc (ab (pv 1) (ab (pv 2) (ab (pv 3) (ab (pv 4) (ab (pv 5) (ab (pv 6) fb))))))))))),?_⟩;walk_at "RD";exact ⟨p,dx,d,by rw [hk];rfl,by omega,hp,q⟩
theorem jH (T:Txt w K mg t):Eb P w K mg base CX0 2 t.Ie t.Of q10 (Ak t 1):=by
 have g15:Eb P w K mg base CX0 1 t.Cf t.Kg q20 (Cu t):=zy T;refine T.ml.ok Wl (fun vs H Q E h=>?_) (fun _ _ _ s H vs Q E hr h=>?_)
 ·obtain ⟨p,dx,d,rfl,_⟩:=h;rfl
 obtain ⟨p,dx,d,rfl,hk,hp,q⟩:=h;refine ⟨_,(gb (Wc (Wu rfl T.tJ T.Sn g15 hr T.Mn .nil Kc (ab (pv 0) (ab Cc (ab (pv 1) (ab (pv 2) (ab (pv 3) (ab (pv 4) (ab (pv 5) (ab (pv 6) fb))))))))))),?_⟩;walk_at "RD";exact ⟨p,dx,d,by rw [hk];rfl,by omega,hp,q⟩
theorem qH (T:Txt w K mg t):Eb P w K mg base CX0 2 t.Me t.Nf q10 (Ak t 2):=by
 have g15:Eb P w K mg base CX0 1 t.Cf t.Kg q20 (Cu t):=zy T;refine T.Hl.ok Ol (fun vs H Q E h=>?_) (fun _ _ _ s H vs Q E hr h=>?_)
 ·obtain ⟨p,dx,d,rfl,_⟩:=h;rfl
 obtain ⟨p,dx,d,rfl,hk,hp,q⟩:=h;refine ⟨_,(gb (Wc (Wu rfl T.tJ T.Sn g15 hr T.Mn .nil Kc (ab (pv 0) (ab Cc (ab (pv 1) (ab (pv 2) (ab (pv 3) (ab (pv 4) (ab (pv 5) (ab (pv 6) fb))))))))))),?_⟩;walk_at "RD";exact ⟨p,dx,d,by rw [hk];rfl,by omega,hp,q⟩
end
noncomputable def ji (t:Adr) (C:Addr):Sp:=fun vs H Q _=>∃ p d,vs=[.ref p]∧Ud t H p d∧C=t.cw d.k∧Q (.int (zc d)) H
noncomputable def Ck (t:Adr) (C:Addr):Sp:=fun vs H Q _=>∃ p d,vs=[.ref p]∧Ud t H p d∧C=t.cw d.k∧Q (.int (me d)) H
section
variable {P:Program} {w:World} {K:PySem.W.Frag} {mg:Str→Option Value} {base:Heap} {t:Adr}
theorem Dp (T:Txt w K mg t):Eb P w K mg base CX0 1 t.bg t.Ph ["self"] (ji t (t.cw 0)):=by
 refine T.Zk.ok sr (fun vs H Q E h=>?_) (fun _ _ _ s H vs Q E hr h=>?_)
 ·obtain ⟨p,d,rfl,_⟩:=h;rfl
 obtain ⟨p,d,rfl,W,hC,q⟩:=h;have hk:=(T.cw_inj (by decide) W.1 hC).symm;refine ⟨_,(gb (Cb jb)),?_⟩;rw [show zc d=1 by unfold zc;simp only [hk]] at q;walk_at "RD";exact q
theorem Ko (T:Txt w K mg t):Eb P w K mg base CX0 1 t.pf t.Xg ["self"] (ji t (t.cw 1)):=by
 refine T.Tj.ok No (fun vs H Q E h=>?_) (fun _ _ _ s H vs Q E hr h=>?_)
 ·obtain ⟨p,d,rfl,_⟩:=h;rfl
 obtain ⟨p,d,rfl,W,hC,q⟩:=h;have hk:=(T.cw_inj (by decide) W.1 hC).symm;refine ⟨_,(gb (Cb jb)),?_⟩;rw [show zc d=0 by unfold zc;simp only [hk]] at q;walk_at "RD";exact q
theorem Ro (T:Txt w K mg t):Eb P w K mg base CX0 1 t.Ye t.Pg ["self"] (ji t (t.cw 2)):=by
 refine T.Uj.ok Ho (fun vs H Q E h=>?_) (fun _ _ _ s H vs Q E hr h=>?_)
 ·obtain ⟨p,d,rfl,_⟩:=h;rfl
 obtain ⟨p,d,rfl,W,hC,q⟩:=h;have hk:=(T.cw_inj (by decide) W.1 hC).symm;refine ⟨_,(gb (Cb jb)),?_⟩;rw [show zc d=2 by unfold zc;simp only [hk]] at q;walk_at "RD";exact q
theorem eF (T:Txt w K mg t):Mz P w K mg base CX0 1 (isW t) "ready" ["self"] (ji t):=by
 refine ⟨fun C hC=>?_⟩;obtain ⟨k,hk,rfl⟩:=hC
 match k,hk with
 | 0,_=>exact ⟨_,_,T.rm,T.Es,Dp T,T.Zr⟩
 | 1,_=>exact ⟨_,_,T.yk,T.yp,Ko T,T.ir⟩
 | 2,_=>exact ⟨_,_,T.pk,T.bq,Ro T,T.Kq⟩
theorem Yr (T:Txt w K mg t):Eb P w K mg base CX0 1 t.Hg t.Ri ["self"] (Ck t (t.cw 0)):=by
 refine T.Nm.ok Vs (fun vs H Q E h=>?_) (fun _ _ _ s H vs Q E hr h=>?_)
 ·obtain ⟨p,d,rfl,_⟩:=h;rfl
 obtain ⟨p,d,rfl,W,hC,q⟩:=h;have hk:=(T.cw_inj (by decide) W.1 hC).symm;refine ⟨_,(gb (Cb jb)),?_⟩;rw [show me d=2 by unfold me;simp only [hk]] at q;walk_at "RD";exact q
theorem Zp (T:Txt w K mg t):Eb P w K mg base CX0 1 t.Zf t.Kh ["self"] (Ck t (t.cw 1)):=by
 refine T.Vk.ok Vq (fun vs H Q E h=>?_) (fun _ _ _ s H vs Q E hr h=>?_)
 ·obtain ⟨p,d,rfl,_⟩:=h;rfl
 obtain ⟨p,d,rfl,W,hC,q⟩:=h;have hk:=(T.cw_inj (by decide) W.1 hC).symm;refine ⟨_,(gb (Cb (fc (pv 0) rfl))),?_⟩;rw [show me d=d.off by unfold me;simp only [hk]] at q;walk_at "RD";exact ⟨_,W.f_off T,q⟩
theorem Dq (T:Txt w K mg t):Eb P w K mg base CX0 1 t.Yf t.Oh ["self"] (Ck t (t.cw 2)):=by
 refine T.Qk.ok nq (fun vs H Q E h=>?_) (fun _ _ _ s H vs Q E hr h=>?_)
 ·obtain ⟨p,d,rfl,_⟩:=h;rfl
 obtain ⟨p,d,rfl,W,hC,q⟩:=h;have hk:=(T.cw_inj (by decide) W.1 hC).symm;refine ⟨_,(gb (Cb jb)),?_⟩;rw [show me d=1 by unfold me;simp only [hk]] at q;walk_at "RD";exact q
theorem VI (T:Txt w K mg t):Mz P w K mg base CX0 1 (isW t) "fade" ["self"] (Ck t):=by
 refine ⟨fun C hC=>?_⟩;obtain ⟨k,hk,rfl⟩:=hC
 match k,hk with
 | 0,_=>exact ⟨_,_,T.rm,T.Bu,Yr T,T.mv⟩
 | 1,_=>exact ⟨_,_,T.yk,T.Xs,Zp T,T.Br⟩
 | 2,_=>exact ⟨_,_,T.pk,T.Os,Dq T,T.Hr⟩
end
noncomputable def Ki (t:Adr) (C:Addr):Sp:=fun vs H Q _=>∃ p d n,vs=[.ref p,.int n]∧Ud t H p d∧C=t.cw d.k∧Q (.int (Nk d n)) H
section
variable {P:Program} {w:World} {K:PySem.W.Frag} {mg:Str→Option Value} {base:Heap} {t:Adr}
theorem Hs (T:Txt w K mg t):Eb P w K mg base CX0 1 t.Dg t.Oi q9 (Ki t (t.cw 0)):=by
 refine T.Um.ok Wr (fun vs H Q E h=>?_) (fun _ _ _ s H vs Q E hr h=>?_)
 ·obtain ⟨p,d,n,rfl,_⟩:=h;rfl
 obtain ⟨p,d,n,rfl,W,hC,q⟩:=h;have hk:=(T.cw_inj (by decide) W.1 hC).symm;refine ⟨_,(gb (Cb (dc (yq rfl) rfl T.fH cn (ab (pv 1) (ab jb fb))))),?_⟩;rw [show Nk d n=(if 1 < n then 1 else n) by unfold Nk;simp only [hk]] at q;walk_at "RD";exact q
theorem Sq (T:Txt w K mg t):Eb P w K mg base CX0 1 t.ag t.Jh q9 (Ki t (t.cw 1)):=by
 refine T.Uk.ok uq (fun vs H Q E h=>?_) (fun _ _ _ s H vs Q E hr h=>?_)
 ·obtain ⟨p,d,n,rfl,_⟩:=h;rfl
 obtain ⟨p,d,n,rfl,W,hC,q⟩:=h;have hk:=(T.cw_inj (by decide) W.1 hC).symm;refine ⟨_,(gb (Cb (pv 1))),?_⟩;rw [show Nk d n=n by unfold Nk;simp only [hk]] at q;walk_at "RD";exact q
theorem Up (T:Txt w K mg t):Eb P w K mg base CX0 1 t.Kf t.Wh q9 (Ki t (t.cw 2)):=by
 refine T.xl.ok Wp (fun vs H Q E h=>?_) (fun _ _ _ s H vs Q E hr h=>?_)
 ·obtain ⟨p,d,n,rfl,_⟩:=h;rfl
 obtain ⟨p,d,n,rfl,W,hC,q⟩:=h;have hk:=(T.cw_inj (by decide) W.1 hC).symm;refine ⟨_,(gb (Cb (dc (yq rfl) rfl T.fH cn (ab (pv 1) (ab jb fb))))),?_⟩;rw [show Nk d n=(if 1 < n then 1 else n) by unfold Nk;simp only [hk]] at q;walk_at "RD";exact q
theorem lE (T:Txt w K mg t):Mz P w K mg base CX0 1 (isW t) "goes" q9 (Ki t):=by
 refine ⟨fun C hC=>?_⟩;obtain ⟨k,hk,rfl⟩:=hC
 match k,hk with
 | 0,_=>exact ⟨_,_,T.rm,T.Eu,Hs T,T.Qv⟩
 | 1,_=>exact ⟨_,_,T.yk,T.Ar,Sq T,T.Ds⟩
 | 2,_=>exact ⟨_,_,T.pk,T.Zs,Up T,T.Cs⟩
end
noncomputable def jl (c:Nat):List (List Nat)→List Nat
 | []=>[]
 | [a]=>a
 | a :: b :: r=>a ++ c :: jl c (b :: r)
theorem NC {c:Nat}:∀ {a b X Y:List Nat},c ∉ a→c ∉ b→a ++ c :: X=b ++ c :: Y→a=b∧X=Y
 | [],[],X,Y,_,_,h=>⟨rfl,(List.cons.inj h).2⟩
 | [],d :: b,X,Y,_,hb,h=>absurd (List.cons.inj h).1 (fun z=>hb (by simp [← z]))
 | d :: a,[],X,Y,ha,_,h=>absurd (List.cons.inj h).1 (fun z=>ha (by simp [z]))
 | d :: a,e :: b,X,Y,ha,hb,h=>by
  obtain ⟨h1,h2⟩:=List.cons.inj h;obtain ⟨e1,e2⟩:=NC (fun z=>ha (List.mem_cons_of_mem _ z)) (fun z=>hb (List.mem_cons_of_mem _ z)) h2;exact ⟨by rw [h1,e1],e2⟩
theorem nI {c:Nat}:∀ {ps qs:List (List Nat)},(∀ p ∈ ps,c ∉ p)→(∀ q ∈ qs,c ∉ q)→ps ≠ []→qs ≠ []→jl c ps=jl c qs→ps=qs
 | [a],[b],_,_,_,_,h=>by rw [show a=b from h]
 | [a],b :: b' :: r,ha,_,_,_,h=>absurd (show c ∈ a by rw [show a=b ++ c :: jl c (b' :: r) from h];simp) (ha a (by simp))
 | a :: a' :: r,[b],_,hb,_,_,h=>absurd (show c ∈ b by rw [show b=a ++ c :: jl c (a' :: r) from h.symm];simp) (hb b (by simp))
 | a :: a' :: r,b :: b' :: s,ha,hb,_,_,h=>by
  obtain ⟨e1,e2⟩:=NC (ha a (by simp)) (hb b (by simp)) (show a ++ c :: jl c (a' :: r)=b ++ c :: jl c (b' :: s) from h);rw [e1,nI (fun p hp=>ha p (List.mem_cons_of_mem _ hp)) (fun q hq=>hb q (List.mem_cons_of_mem _ hq)) (by simp) (by simp) e2]
 | [],_,_,_,h,_,_=>absurd rfl h
 | _ :: _,[],_,_,_,h,_=>absurd rfl h
theorem yI {c d:Nat}:∀ {ps:List (List Nat)},d ∈ jl c ps→d=c∨∃ p ∈ ps,d ∈ p
 | [],h=>nomatch h
 | [a],h=>.inr ⟨a,by simp,h⟩
 | a :: b :: r,h=>by
  rcases List.mem_append.mp (show d ∈ a ++ c :: jl c (b :: r) from h) with h | h
  ·exact .inr ⟨a,by simp,h⟩
  ·rcases List.mem_cons.mp h with h | h
   ·exact .inl h
   ·rcases yI h with h | ⟨p,hp,h⟩
    ·exact .inl h
    ·exact .inr ⟨p,List.mem_cons_of_mem _ hp,h⟩
theorem vn (c:Nat):∀ ys:List Str,(Str.join ⟨#[c]⟩ ys).cps.toList=jl c (ys.map (·.cps.toList))
 | []=>rfl
 | [a]=>rfl
 | a :: b :: r=>by
  show (a ++ ⟨#[c]⟩ ++ Str.join ⟨#[c]⟩ (b :: r)).cps.toList=_;rw [Str.cps_append,Array.toList_append,Str.cps_append,Array.toList_append,vn c (b :: r)];simp [jl]
theorem Cy {x y:Str} (h:x.cps.toList=y.cps.toList):x=y:=by
 cases x;cases y;exact congrArg Str.mk (Array.toList_inj.mp h)
theorem Wt {c:Nat} {ys:List Str} (hn:ys ≠ []) (hf:∀ y ∈ ys,c ∉ y.cps.toList):Txt.split (Str.join ⟨#[c]⟩ ys) ⟨#[c]⟩=ys:=by
 have e:=congrArg (·.cps.toList) (StrLaws.join_split (Str.join ⟨#[c]⟩ ys) ⟨#[c]⟩);simp only [vn] at e;have e2:=nI (c:=c) (ps:=(Txt.split (Str.join ⟨#[c]⟩ ys) ⟨#[c]⟩).map (·.cps.toList)) (qs:=ys.map (·.cps.toList)) (fun p hp=>by
  obtain ⟨y,hy,rfl⟩:=List.mem_map.mp hp;exact StrLaws.split_free _ c y hy) (fun p hp=>by
  obtain ⟨y,hy,rfl⟩:=List.mem_map.mp hp;exact hf y hy) (by simp [DG]) (by simpa using hn) e
 exact (List.map_inj_right fun x y h=>Cy h).mp e2
noncomputable abbrev num (v:Int):Str:=Str.ofString (toString v)
theorem DK:∀ n,n < 1000→(decide (1 ≤ ((Nat.toDigits 10 n).map Char.toNat).length) && decide (((Nat.toDigits 10 n).map Char.toNat).length ≤ 3) && ((Nat.toDigits 10 n).map Char.toNat).all Fo && (decide (((Nat.toDigits 10 n).map Char.toNat).length ≤ 1) || decide (((Nat.toDigits 10 n).map Char.toNat).headD 0 ≠ 48)) &&
  decide (NumText.digitsVal ((Nat.toDigits 10 n).map Char.toNat)=n))=true:=by decide +kernel
theorem dA {v:Int} (h0:0 ≤ v) (h1:v < 1000):okB (num v)=true∧val (num v)=v:=by
 have e:=PySem.W.KIN.signs_num v.toNat;rw [Int.toNat_of_nonneg h0] at e;have a:=DK v.toNat (by omega);rw [← e,Bool.and_eq_true,decide_eq_true_eq] at a;exact ⟨a.1,by show ((NumText.digitsVal (cs (num v)):Nat):Int)=v;rw [a.2];omega⟩
theorem Bn {v lo hi:Int} (h0:0 ≤ v) (h1:v < 1000) (hl:lo ≤ v) (hh:v ≤ hi):uG (num v) lo hi=.int v:=by
 obtain ⟨a,b⟩:=dA h0 h1;unfold uG;rw [a,b,decide_eq_false (by omega:¬ v < lo),decide_eq_false (by omega:¬ hi < v)];rfl
theorem EJ {u v:Int} (h0:0 ≤ u) (h1:u < 1000) (h2:0 ≤ v) (h3:v < 1000) (e:num u=num v):u=v:=by
 rw [← (dA h0 h1).2,e,(dA h2 h3).2]
theorem Nz {v:Int} (h0:0 ≤ v) (h1:v < 1000):∀ c ∈ (num v).cps.toList,48 ≤ c∧c ≤ 57:=fun c hc=>by
 have:=List.all_eq_true.mp (rN (dA h0 h1).1).2 c hc;simpa [Fo] using this
theorem nM:∀ c ∈ am.cps.toList,97 ≤ c∧c ≤ 122:=by decide +kernel
theorem Sj {x:Str} (h:made x am 8=true):(1 ≤ x.length∧x.length ≤ 8)∧∀ c ∈ x.cps.toList,97 ≤ c∧c ≤ 122:=by
 unfold made at h;split at h
 ·cases h
 ·rename_i h1;split at h
  ·cases h
  ·rename_i h2;have h3:¬ x.length=0:=fun z=>h1 (PN.mpr z)
   refine ⟨by omega,fun c hc=>?_⟩;have:=List.all_eq_true.mp h c hc;rw [lD] at this;exact nM c (of_decide_eq_true this)
structure WOk (n:Int) (d:WD):Prop where
 k:d.k < 3
 nm:made d.name am 8=true
 st:0 ≤ d.start∧d.start < n
 fi:0 ≤ d.fin∧d.fin < n
 ne:d.start ≠ d.fin
 of:0 ≤ d.off∧d.off ≤ 30
 nr:0 ≤ d.near∧d.near ≤ 30
 le:1 ≤ d.least∧d.least ≤ 60
structure COk (n:Int) (ds:List WD):Prop where
 nn:2 ≤ n∧n ≤ 99
 ln:1 ≤ ds.length∧ds.length ≤ 12
 al:∀ d ∈ ds,WOk n d
 nd:(ds.map (·.name)).Nodup
noncomputable def zj (d:WD):List Str:=[Hd d.k,d.name,num d.start,num d.fin,num d.off,num d.near,num d.least]
noncomputable def Vh (n:Int) (ds:List WD):List (List Str):=[Str.ofString "ring",num n] :: ds.map zj
noncomputable def Mv (n:Int) (ds:List WD):Str:=Str.join nl ((Vh n ds).map (Str.join bk))
noncomputable def Jy (x:Str):Prop:=x.length ≤ 8∧(32:Nat) ∉ x.cps.toList∧(10:Nat) ∉ x.cps.toList
theorem gu (k:Nat):Jy (Hd k):=by
 match k with
 | 0=>exact ⟨by decide +kernel,by decide +kernel,by decide +kernel⟩
 | 1=>exact ⟨by decide +kernel,by decide +kernel,by decide +kernel⟩
 | _ + 2=>exact ⟨show (Str.ofString "tram").length ≤ 8 by decide +kernel,show (32:Nat) ∉ (Str.ofString "tram").cps.toList by decide +kernel,show (10:Nat) ∉ (Str.ofString "tram").cps.toList by decide +kernel⟩
theorem Yd {v:Int} (h0:0 ≤ v) (h1:v < 1000):Jy (num v):=
 ⟨Nat.le_trans (lK h0 (by omega)) (by decide),fun z=>by have:=Nz h0 h1 _ z;omega,fun z=>by have:=Nz h0 h1 _ z;omega⟩
theorem Yt {x:Str} (h:made x am 8=true):Jy x:=
 ⟨(Sj h).1.2,fun z=>by have:=(Sj h).2 _ z;omega,fun z=>by have:=(Sj h).2 _ z;omega⟩
theorem WOk.plain {n:Int} {d:WD} (h:WOk n d) (hn:n ≤ 99):∀ x ∈ zj d,Jy x:=fun x hx=>by
 have h1:=h.st;have h2:=h.fi;have h3:=h.of;have h4:=h.nr;have h5:=h.le;simp only [zj,List.mem_cons,List.not_mem_nil,or_false] at hx;rcases hx with rfl | rfl | rfl | rfl | rfl | rfl | rfl
 ·exact gu _
 ·exact Yt h.nm
 ·exact Yd (by omega) (by omega)
 ·exact Yd (by omega) (by omega)
 ·exact Yd (by omega) (by omega)
 ·exact Yd (by omega) (by omega)
 ·exact Yd (by omega) (by omega)
theorem COk.plain {n:Int} {ds:List WD} (h:COk n ds):∀ r ∈ Vh n ds,∀ x ∈ r,Jy x:=fun r hr x hx=>by
 have hn:=h.nn;rcases List.mem_cons.mp hr with rfl | hr
 ·simp only [List.mem_cons,List.not_mem_nil,or_false] at hx;rcases hx with rfl | rfl
  ·exact ⟨by decide +kernel,by decide +kernel,by decide +kernel⟩
  ·exact Yd (by omega) (by omega)
 ·obtain ⟨d,hd,rfl⟩:=List.mem_map.mp hr;exact (h.al d hd).plain hn.2 x hx
theorem JD {rs:List (List Str)} (h0:rs ≠ []) (h1:∀ r ∈ rs,r ≠ []) (h2:∀ r ∈ rs,∀ x ∈ r,Jy x):Xi (Str.join nl (rs.map (Str.join bk)))=rs:=by
 unfold Xi;rw [HN,DJ];rw [Wt (by simpa using h0) (fun y hy=>by
  obtain ⟨r,hr,rfl⟩:=List.mem_map.mp hy;rw [vn];intro z;rcases yI z with z | ⟨p,hp,z⟩
  ·cases z
  ·obtain ⟨x,hx,rfl⟩:=List.mem_map.mp hp;exact (h2 r hr x hx).2.2 z)]
 rw [List.map_map];have:∀ r ∈ rs,((fun r=>Txt.split r ⟨#[32]⟩) ∘ Str.join ⟨#[32]⟩) r=r:=fun r hr=>Wt (h1 r hr) fun x hx=>(h2 r hr x hx).2.1
 exact (List.map_congr_left this).trans (List.map_id rs)
theorem nB {n:Int} {ds:List WD} (h:COk n ds):Xi (Mv n ds)=Vh n ds:=JD (by simp [Vh]) (fun r hr=>by
 rcases List.mem_cons.mp hr with rfl | hr
 ·simp
 ·obtain ⟨d,hd,rfl⟩:=List.mem_map.mp hr;simp [zj]) h.plain
theorem Gp (sep:Str) (B:Nat):∀ ys:List Str,(∀ y ∈ ys,y.length ≤ B)→(Str.join sep ys).length ≤ ys.length * (B + sep.length)
 | [],_=>by show (Str.empty).length ≤ _;exact Nat.zero_le _
 | [a],h=>by
  have:=h a (by simp);show a.length ≤ _;simp only [List.length_cons,List.length_nil];omega
 | a :: b :: r,h=>by
  have h1:=h a (by simp);have h2:=Gp sep B (b :: r) fun y hy=>h y (List.mem_cons_of_mem _ hy)
  show (a ++ sep ++ Str.join sep (b :: r)).length ≤ _;rw [Rp,Rp,List.length_cons,Nat.succ_mul];omega
theorem gF {n:Int} {ds:List WD} (h:COk n ds):(Mv n ds).length ≤ 1000:=by
 have h1:∀ y ∈ (Vh n ds).map (Str.join bk),y.length ≤ 63:=fun y hy=>by
  obtain ⟨r,hr,rfl⟩:=List.mem_map.mp hy;have:=Gp bk 8 r fun x hx=>(h.plain r hr x hx).1
  rw [px] at this;have hl:r.length ≤ 7:=by
   rcases List.mem_cons.mp hr with rfl | hr
   ·simp
   ·obtain ⟨d,hd,rfl⟩:=List.mem_map.mp hr;simp [zj]
  omega
 have h2:=Gp nl 63 _ h1;rw [Pz] at h2;have h3:((Vh n ds).map (Str.join bk)).length ≤ 13:=by
  have:=h.ln;simp [Vh];omega
 unfold Mv;omega
end My
namespace My
open PySem L2
noncomputable abbrev yx:List Str:=[Str.ofString "row",Str.ofString "told",Str.ofString "place"]
noncomputable def rdF (row:Int) (ta:Addr) (pl:Int):List (Str × V):=[(Str.ofString "row",.int row),(Str.ofString "told",.ref ta),(Str.ofString "place",.int pl)]
theorem mm (row:Int) (ta:Addr) (pl:Int):(rdF row ta pl).map (·.1)=yx:=rfl
theorem GJ (row:Int) (ta:Addr) (pl v:Int):Yh (Str.ofString "place") (.int v) (rdF row ta pl)=rdF row ta v:=by
 unfold rdF;simp only [Yh];rw [if_neg (by decide +kernel),if_neg (by decide +kernel)];rfl
noncomputable def Mg (t:Adr) (H:Hp) (p:Addr) (row:Int) (ws:List Str) (pl:Nat):Prop:=
 (ws.length ≤ 1000∧∀ x ∈ ws,x.length ≤ 1000)∧∃ dx ta,H p=some (.ins t.Db dx (rdF row ta pl))∧H ta=some (.lst (bc ws))
noncomputable def Fd (p:Addr) (H H':Hp):Prop:=∀ b u,b ≠ p→H b=some u→H' b=some u
theorem Fd.trans {p:Addr} {H H1 H2:Hp} (a:Fd p H H1) (b:Fd p H1 H2):Fd p H H2:=fun c u n e=>b c u n (a c u n e)
theorem Fd.of {p:Addr} {H H1:Hp} (a:Yb H H1):Fd p H H1:=fun c u _ e=>a c u e
theorem Fd.put {p:Addr} {H:Hp} {o:HO}:Fd p H (upd H p o):=fun c u n e=>by rw [pb n];exact e
theorem im (ws:List Str):(bc ws).length=ws.length:=by unfold bc;rw [List.length_map]
theorem pH {ws:List Str} {i:Nat} {x:Str} (h:ws[i]? = some x):(bc ws)[i]? = some (.str x):=by unfold bc;rw [List.getElem?_map,h];rfl
theorem vt (ws:List Str):(bc ws).all Nj=true:=by unfold bc;simp [Nj]
theorem aA (x:Str) (xs:List Str):inV (.str x) (bc xs)=decide (x ∈ xs):=by
 unfold inV bc;rw [List.any_map,Bool.eq_iff_iff];simp only [List.any_eq_true,Function.comp,eqV,beq_iff_eq,decide_eq_true_eq];constructor
 ·rintro ⟨y,hy,rfl⟩;exact hy
 ·intro h;exact ⟨x,h,rfl⟩
section
variable {w:World} {K:PySem.W.Frag} {mg:Str→Option Value} {t:Adr} {H H':Hp} {p:Addr} {row:Int} {ws:List Str} {pl:Nat}
theorem Mg.same (h:Mg t H p row ws pl) (s:Yb H H'):Mg t H' p row ws pl:=by
 obtain ⟨hz,dx,ta,e1,e2⟩:=h;exact ⟨hz,dx,ta,s _ _ e1,s _ _ e2⟩
theorem Mg.sameX {q:Addr} (h:Mg t H p row ws pl) (s:Fd q H H') (n:p ≠ q) (k:∃ C dx fs,H q=some (.ins C dx fs)):Mg t H' p row ws pl:=by
 obtain ⟨hz,dx,ta,e1,e2⟩:=h;obtain ⟨C,dq,fs,e3⟩:=k;exact ⟨hz,dx,ta,s _ _ n e1,s _ _ (Ge e2 e3 (by intro z;cases z)) e2⟩
theorem Mg.ins (h:Mg t H p row ws pl):∃ C dx fs,H p=some (.ins C dx fs):=by
 obtain ⟨hz,dx,ta,e1,e2⟩:=h;exact ⟨_,_,_,e1⟩
theorem Mg.no {m:Str} (row:Int) (ta:Addr) (pl:Int) (h:yx.contains m=false):(rdF row ta pl).lookup m=none:=tm yx (mm ..) h
theorem Fu (T:Txt w K mg t) {dx ta:Addr} {pl:Int} (e:H p=some (.ins t.Db dx (rdF row ta pl))):oj K H p (Str.ofString "place") (.int pl):=
 ⟨_,dx,_,e,T.Bb,T.af,Sd yx 2 (mm ..) (by decide +kernel) rfl⟩
theorem Ty (T:Txt w K mg t) {dx ta:Addr} {pl:Int} (e:H p=some (.ins t.Db dx (rdF row ta pl))):oj K H p (Str.ofString "told") (.ref ta):=
 ⟨_,dx,_,e,T.Bb,T.gi,Sd yx 1 (mm ..) (by decide +kernel) rfl⟩
end
noncomputable def LI (t:Adr):Sp:=fun vs H Q _=>∃ (p dx ta:Addr) (row:Int),vs=[.ref p,.int row,.ref ta]∧H p=some (.ins t.Db dx [])∧Q .non (upd H p (.ins t.Db dx (rdF row ta 0)))
noncomputable def um (t:Adr):Sp:=fun vs H Q _=>∃ p row ws pl,vs=[.ref p]∧Mg t H p row ws pl∧pl ≤ ws.length∧Q (.str (ws.getD pl (Str.ofString ""))) H
noncomputable def PF (t:Adr):Sp:=fun vs H Q _=>∃ p row ws pl,vs=[.ref p]∧Mg t H p row ws pl∧Q (.bl (decide (pl < ws.length))) H
noncomputable def oO (t:Adr) (H:Hp) (p:Addr) (row:Int) (ws:List Str) (pl:Nat) (R:Hp→Prop):Prop:=∀ H',Fd p H H'→(NoT H→NoT H')→Mg t H' p row ws pl→R H'
noncomputable def Nv (t:Adr):Sp:=fun vs H Q _=>∃ p row ws pl,vs=[.ref p,.bl true]∧Mg t H p row ws pl∧oO t H p row ws (pl + 1) (Q .non)
noncomputable def gv (K:PySem.W.Frag) (t:Adr):Sp:=fun vs H Q _=>∃ p row ws pl x c xs,vs=[.ref p,.ref c]∧Mg t H p row ws pl∧ws[pl]? = some x∧SqL K H c (bc xs)∧x ∈ xs∧oO t H p row ws (pl + 1) (Q (.str x))
noncomputable def uv (t:Adr):Sp:=fun vs H Q _=>∃ p row ws pl x lo hi v,vs=[.ref p,.int lo,.int hi]∧Mg t H p row ws pl∧ws[pl]? = some x∧uG x lo hi=.int v∧NoT H∧oO t H p row ws (pl + 1) (Q (.int v))
noncomputable def BE (t:Adr):Sp:=fun vs H Q _=>∃ p row ws pl,vs=[.ref p]∧Mg t H p row ws pl∧pl=ws.length∧Q .non H
section
variable {P:Program} {w:World} {K:PySem.W.Frag} {mg:Str→Option Value} {base:Heap} {t:Adr}
theorem ZL (T:Txt w K mg t):Eb P w K mg base CX0 1 t.Vd t.Pe q30 (LI t):=by
 refine T.ij.ok Dj (fun vs H Q E h=>?_) (fun _ _ _ s H vs Q E hr h=>?_)
 ·obtain ⟨p,dx,ta,row,rfl,_⟩:=h;rfl
 obtain ⟨p,dx,ta,row,rfl,hp,q⟩:=h;refine ⟨_,(bb (vf (pv 0) (pv 1) rfl)
   (bb (vf (pv 0) (pv 2) rfl)
   (gb (vf (pv 0) jb rfl)))),?_⟩
 walk_at "RD";refine ⟨_,_,_,hp,T.Bb,T.Lo,by decide,?_⟩;refine ⟨_,_,_,db,T.Bb,T.gi,bn (n:=999) (by decide),?_⟩;refine ⟨_,_,_,db,T.Bb,T.af,bn (n:=999) (bn (n:=998) (by decide)),?_⟩;simp only [gq];rw [show Yh (Str.ofString "row") (V.int row) ([]:List (Str × V))=[(Str.ofString "row",V.int row)] from ld [] rfl (by decide +kernel),
  show Yh (Str.ofString "told") (V.ref ta) ([(Str.ofString "row",V.int row)]:List (Str × V))=[(Str.ofString "row",V.int row),(Str.ofString "told",V.ref ta)] from ld [Str.ofString "row"] rfl (by decide +kernel),
  show Yh (Str.ofString "place") (V.int 0) ([(Str.ofString "row",V.int row),(Str.ofString "told",V.ref ta)]:List (Str × V))=[(Str.ofString "row",V.int row),(Str.ofString "told",V.ref ta),(Str.ofString "place",V.int 0)] from ld [Str.ofString "row",Str.ofString "told"] rfl (by decide +kernel)]
 exact q
theorem Zo (T:Txt w K mg t):Eb P w K mg base CX0 1 t.xc t.Fc ["self"] (um t):=by
 refine T.yi.ok Im (fun vs H Q E h=>?_) (fun _ _ _ s H vs Q E hr h=>?_)
 ·obtain ⟨p,row,ws,pl,rfl,_⟩:=h;rfl
 obtain ⟨p,row,ws,pl,rfl,⟨hz,dx,ta,e1,e2⟩,hle,q⟩:=h;refine ⟨_,(bb (Qd (Rb Qh (fc (pv 0) rfl) (dc ic rfl T.Ik Ac (ab (fc (pv 0) rfl) fb)) (Zb _)) (gb (Cb Cc)) Xb)
   (gb (Cb (ac yc (fc (pv 0) rfl) (fc (pv 0) rfl))))),?_⟩
 walk_at "RD";refine Vb (decide ((pl:Int)=(ws.length:Int))) (fun Q hQ=>?_) (fun c=>?_) (fun c=>?_)
 ·walk_at "RD";refine ⟨_,Fu T e1,_,Ty T e1,_,rfl,_,.inl (SqL.of e2),rfl,?_⟩;rw [im];walk_at "RD";exact hQ
 ·walk_at "RD";have c':pl=ws.length:=by have:=of_decide_eq_true c;omega
  rw [show ws.getD pl (Str.ofString "")=Str.ofString "" by rw [List.getD_eq_getElem?_getD,List.getElem?_eq_none (by omega)];rfl] at q;exact q
 ·walk_at "RD";have c':pl < ws.length:=by have:=of_decide_eq_false c;omega
  have hx:ws[pl]? = some ws[pl]:=List.getElem?_eq_getElem c';rw [List.getD_eq_getElem?_getD,hx] at q;exact ⟨_,Ty T e1,_,Fu T e1,_,rfl,_,_,rfl,SqL.of e2,_,Ib (pH hx),q⟩
theorem QJ (T:Txt w K mg t):Eb P w K mg base CX0 1 t.Tc t.Dd ["self"] (PF t):=by
 refine T.zg.ok Lj (fun vs H Q E h=>?_) (fun _ _ _ s H vs Q E hr h=>?_)
 ·obtain ⟨p,row,ws,pl,rfl,_⟩:=h;rfl
 obtain ⟨p,row,ws,pl,rfl,⟨hz,dx,ta,e1,e2⟩,q⟩:=h;refine ⟨_,(gb (Cb (Se Js (fc (pv 0) rfl) (dc ic rfl T.Ik Ac (ab (fc (pv 0) rfl) fb)) (Zb _)))),?_⟩;walk_at "RD";have e:decide (pl < ws.length)=decide ((pl:Int) < (ws.length:Int)):=by rw [Bool.eq_iff_iff];simp
 rw [e] at q;refine ⟨_,Fu T e1,_,Ty T e1,_,rfl,_,.inl (SqL.of e2),?_⟩;rw [im];exact ⟨_,rfl,q⟩
theorem Ry (T:Txt w K mg t):Eb P w K mg base CX0 1 t.Oc t.jd q19 (Nv t):=by
 refine T.kj.ok Kn (fun vs H Q E h=>?_) (fun _ _ _ s H vs Q E hr h=>?_)
 ·obtain ⟨p,row,ws,pl,rfl,_⟩:=h;rfl
 obtain ⟨p,row,ws,pl,rfl,⟨hz,dx,ta,e1,e2⟩,q⟩:=h;refine ⟨_,(bb (Qd (Wn (bh (pv 1))) (gb Eg) Xb)
   (gb (HE (pv 0) jb YL))),?_⟩
 walk_at "RD";refine Vb false (fun Q hQ=>?_) (fun hc=>nomatch hc) (fun _=>?_)
 ·walk_at "RD";exact hQ
 ·walk_at "RD";refine ⟨_,_,_,e1,T.Bb,T.af,_,Sd yx 2 (mm ..) (by decide +kernel) rfl,_,rfl,_,_,e1,by rw [← List.length_map (f:=(·.1)),mm];decide,?_⟩;rw [GJ];exact q _ Fd.put (fun n=>n.upd) ⟨hz,dx,ta,db,by rw [pb (Ge e2 e1 (by intro z;cases z))];exact e2⟩
theorem qz (T:Txt w K mg t):Eb P w K mg base CX0 2 t.Mc t.md q31 (gv K t):=by
 have g11:Eb P w K mg base CX0 1 t.xc t.Fc ["self"] (um t):=Zo T;have g16:Eb P w K mg base CX0 1 t.Oc t.jd q19 (Nv t):=Ry T;refine T.Ah.ok Wg (fun vs H Q E h=>?_) (fun _ _ _ s H vs Q E hr h=>?_)
 ·obtain ⟨p,row,ws,pl,x,c,xs,rfl,_⟩:=h;rfl
 obtain ⟨p,row,ws,pl,x,c,xs,rfl,R,hx,hc,hm,q⟩:=h;refine ⟨_,(bb (zb (i:=2) Wg.nd (Oe (pv 0) T.Bb T.Be g11 hr T.Ce .nil Kc))
   (bb (Wc (bd (pv 0) T.Bb T.vg g16 hr T.wg .nil Kc (ab (Se Xq (pv 2) (pv 1) (by with_unfolding_all rfl)) fb)))
   (gb (Cb (pv 2))))),?_⟩
 have hlt:pl < ws.length:=(List.getElem?_eq_some_iff.mp hx).1;have hg:ws.getD pl (Str.ofString "")=x:=by rw [List.getD_eq_getElem?_getD,hx];rfl
 obtain ⟨_,dx,ta,e1,e2⟩:=id R;walk_at "RD";refine ⟨_,_,e1,Mg.no _ _ _ (by decide +kernel),⟨p,row,ws,pl,rfl,R,by omega,?_⟩⟩;rw [hg];walk_at "RD";refine ⟨_,_,e1,Mg.no _ _ _ (by decide +kernel),_,.inl hc,rfl,vt xs,?_⟩;rw [aA,decide_eq_true hm];refine ⟨p,row,ws,pl,rfl,R,fun H' s1 s2 s3=>?_⟩;walk_at "RD";exact q H' s1 s2 s3
theorem Hy (T:Txt w K mg t):Eb P w K mg base CX0 4 t.wc t.Gc q22 (uv t):=by
 have g11:Eb P w K mg base CX0 3 t.xc t.Fc ["self"] (um t):=(Zo T).mono (by decide);have g16:Eb P w K mg base CX0 3 t.Oc t.jd q19 (Nv t):=(Ry T).mono (by decide);have g29:Eb P w K mg base CX0 3 t.Hm t.Om q34 iI:=wL T;refine T.Og.ok Bg (fun vs H Q E h=>?_) (fun _ _ _ s H vs Q E hr h=>?_)
 ·obtain ⟨p,row,ws,pl,x,lo,hi,v,rfl,_⟩:=h;rfl
 obtain ⟨p,row,ws,pl,x,lo,hi,v,rfl,R,hx,hv,nt,q⟩:=h;refine ⟨_,(bb (zb (i:=3) Bg.nd (qb g29 hr T.hG T.Mq.kp T.XE (ab (Oe (pv 0) T.Bb T.Be g11 hr T.Ce .nil Kc) (ab (pv 1) (ab (pv 2) fb)))))
   (bb (Wc (bd (pv 0) T.Bb T.vg g16 hr T.wg .nil Kc (ab (Se rK (pv 3) qt (Zb _)) fb)))
   (gb (Cb (pv 3))))),?_⟩
 have hlt:pl < ws.length:=(List.getElem?_eq_some_iff.mp hx).1;have hg:ws.getD pl (Str.ofString "")=x:=by rw [List.getD_eq_getElem?_getD,hx];rfl
 obtain ⟨hz,dx,ta,e1,e2⟩:=id R;walk_at "RD";refine ⟨_,_,e1,Mg.no _ _ _ (by decide +kernel),⟨p,row,ws,pl,rfl,R,by omega,?_⟩⟩;rw [hg];walk_at "RD";refine ⟨x,lo,hi,rfl,hz.2 x (List.mem_of_getElem? hx),nt,?_⟩;rw [hv];walk_at "RD";refine ⟨_,_,e1,Mg.no _ _ _ (by decide +kernel),?_⟩;refine ⟨p,row,ws,pl,rfl,R,fun H' s1 s2 s3=>?_⟩;walk_at "RD";exact q H' s1 s2 s3
theorem XI (T:Txt w K mg t):Eb P w K mg base CX0 2 t.Lc t.yd ["self"] (BE t):=by
 have g30:Eb P w K mg base CX0 1 t.Tc t.Dd ["self"] (PF t):=QJ T;refine T.Fh.ok Sl (fun vs H Q E h=>?_) (fun _ _ _ s H vs Q E hr h=>?_)
 ·obtain ⟨p,row,ws,pl,rfl,_⟩:=h;rfl
 obtain ⟨p,row,ws,pl,rfl,R,hl,q⟩:=h;obtain ⟨hz,dx,ta,e1,e2⟩:=id R;refine ⟨_,(gb (Qd (bh (Oe (pv 0) T.Bb T.Lk g30 hr T.Kk .nil Kc)) (gb Eg) Xb)),?_⟩;walk_at "RD";refine Vb false (fun Q hQ=>?_) (fun hc=>nomatch hc) (fun _=>?_)
 ·walk_at "RD";refine ⟨_,_,e1,Mg.no _ _ _ (by decide +kernel),⟨p,row,ws,pl,rfl,R,?_⟩⟩;rw [decide_eq_false (by omega)];exact ⟨_,rfl,hQ⟩
 ·walk_at "RD";exact q
end
end My
namespace My
open PySem L2
theorem kc {α β:Type} {f:α→β} {l:List α} {i:Nat} {y:β} (h:(l.map f)[i]? = some y):∃ x,l[i]? = some x∧y=f x:=by
 rw [List.getElem?_map] at h;cases e:l[i]? with
 | none=>rw [e] at h;cases h
 | some x=>rw [e] at h;exact ⟨x,rfl,(Option.some.inj h).symm⟩
noncomputable def ZN (t:Adr) (H0 H:Hp) (p:Addr) (rows:List (List Str)):Prop:=∃ qs:List Addr,H p=some (.lst (qs.map V.ref))∧H0 p=none∧qs.length=rows.length∧∀ (i:Nat) (q:Addr) (r:List Str),qs[i]? = some q→rows[i]? = some r→Mg t H q i r 0∧H0 q=none
noncomputable def cu (t:Adr):Sp:=fun vs H Q _=>∃ x,vs=[.str x]∧x.length ≤ 20000∧(∀ r ∈ Xi x,r.length ≤ 1000∧∀ y ∈ r,y.length ≤ 1000)∧NoT H∧∀ p H',Yb H H'→NoT H'→ZN t H H' p (Xi x)→Q (.ref p) H'
section
variable {P:Program} {w:World} {K:PySem.W.Frag} {mg:Str→Option Value} {base:Heap} {t:Adr}
theorem dC (T:Txt w K mg t):Eb P w K mg base CX0 3 t.Sm t.vm ["text"] (cu t):=by
 have g31:Eb P w K mg base CX0 2 t.Kv t.yv ["text"] Oz:=(zG T).mono (by decide);have g32:Eb P w K mg base CX0 1 t.Vd t.Pe q30 (LI t):=ZL T;refine T.Aq.ok YB (fun vs H Q E h=>?_) (fun _ _ _ s H vs Q E hr h=>?_)
 ·obtain ⟨x,rfl,_⟩:=h;rfl
 obtain ⟨x,rfl,hz,hrow,nt,q⟩:=h;refine ⟨_,(gb (Cb (Fi rfl (oq rfl T.Rg (ab (qb g31 hr T.uK T.Qx.kp T.jL (ab (pv 0) fb)) fb)) (Yc (sc:=ib ar) rfl (by decide +kernel)) (N:=["row","told"]) (sel:=[none,none]) (Nd (M:=["text"]) (by decide +kernel)) (Blk.of (fun _ _ _ _=>(Qe (K:=K) (n:=2) rfl rfl (Lb (ub (i:=0) (kh (N:=["row","told"]) (by decide +kernel) rfl)) (Lb (ub (i:=1) (kh (N:=["row","told"]) (by decide +kernel) rfl)) Re)))) (fun _ _ _ _=>⟨_,ug,by walk_at "B"⟩) (fun _ _ _ _=>⟨_,(gn T.Wy g32 hr rfl T.uy T.Go .nil Kc (ab (pv 0) (ab (pv 1) fb))),by walk_at "B"⟩))))),?_⟩;walk_at "RD";refine ⟨x,rfl,hz,nt,fun p H1 sm1 nt1 ⟨ps,hp,hp0,hpn,hpl,hpa⟩=>?_⟩;walk_at "RD";refine ⟨⟨_,SqL.of hp⟩,?_⟩;have hlen:ps.length ≤ sizeLine:=by
  rw [hpl];unfold Xi;rw [List.length_map];have:=tq (x:=x) (y:=nl) (by rw [Pz];exact Nat.le_refl _);exact Nat.le_trans (show _ ≤ 40000 by omega) (by decide)
 refine ud.enum (xs:=ps.map V.ref) (fun i ys H2=>Yb H1 H2∧NoT H2∧∃ qs:List Addr,ys=qs.map V.ref∧qs.length=i∧∀ (j:Nat) (q:Addr) (r:List Str),qs[j]? = some q→(Xi x)[j]? = some r→Mg t H2 q j r 0∧H1 q=none)
  (by rw [List.length_map];exact hlen) ⟨Yb.refl H1,nt1,[],rfl,rfl,fun j q r h _=>by simp at h⟩ ?_ ?_ ?_
 ·rintro i ys H2 hi zzq;refine zzP fun zzM zzh=>?_
  obtain ⟨s2,n2,qs,rfl,hq,_⟩:=zzq;subst zzh;exact ⟨SqL.of (s2 _ _ hp),by rw [List.length_map];omega⟩
 ·rintro i v ys H2 p2 hv ⟨s2,n2,qs,rfl,hq,al⟩ hp2 N hN;rw [List.getElem?_map] at hv;cases hpi:ps[i]? with
  | none=>rw [hpi] at hv;cases hv
  | some pi=>
   rw [hpi] at hv;have e:=(Option.some.inj hv).symm;subst e;refine Zj ?_;walk_at "RD";refine ⟨Sub.name2,fun a dx ha hd hne=>?_⟩;refine ⟨a,dx,pi,i,rfl,db,rfl,?_⟩;rw [gq];have s3:Yb H2 (upd (upd (upd H2 p2 (.tup [.int i,.ref pi])) dx (.own a)) a (.ins t.Db dx (rdF i pi 0))):=by
    have s':Yb H2 (upd H2 p2 (.tup [.int i,.ref pi])):=lb hp2;exact ((Yb.trans s' (lb hd)).updN (s'.free ha))
   obtain ⟨r,hr⟩:∃ r,(Xi x)[i]? = some r:=⟨(Xi x)[i]'(by rw [← hpl];exact (List.getElem?_eq_some_iff.mp hpi).1),List.getElem?_eq_getElem _⟩;have ha2:H2 a=none:=(lb hp2).free ha;refine hN _ _ ⟨s2.trans s3,((n2.upd).upd).upd,qs ++ [a],by rw [List.map_append];rfl,by rw [List.length_append,hq];rfl,fun j q' r' h1 h2=>?_⟩;by_cases hj:j < qs.length
   ·rw [List.getElem?_append_left hj] at h1;obtain ⟨z1,z2⟩:=al j q' r' h1 h2;exact ⟨z1.same s3,z2⟩
   ·rw [List.getElem?_append_right (by omega)] at h1;have hj0:j - qs.length=0:=by
     cases hh:j - qs.length with
     | zero=>rfl
     | succ n=>rw [hh] at h1;simp at h1
    rw [hj0] at h1;have e3:a=q':=by simpa using h1
    subst e3;have e4:j=i:=by omega
    subst e4;rw [hr] at h2;cases h2;refine ⟨⟨hrow r (List.mem_of_getElem? hr),dx,pi,db,?_⟩,s2.free ha2⟩;exact s3 _ _ (s2 _ _ (hpa j pi r hpi hr).1)
 ·rintro ys H2 ⟨s2,n2,qs,rfl,hq,al⟩ p2 hp2;refine q p2 _ ((sm1.trans s2).updN ((sm1.trans s2).free hp2)) (n2.upd) ⟨qs,db,(sm1.trans s2).free hp2,by rw [hq,List.length_map,hpl],fun i q' r h1 h2=>?_⟩;obtain ⟨z1,z2⟩:=al i q' r h1 h2;exact ⟨z1.same (lb hp2),sm1.free z2⟩
end
noncomputable def oP (q:Addr) (H:Hp) (R:Hp→Prop):Prop:=∀ H',Fd q H H'→NoT H'→R H'
noncomputable def ND (t:Adr):Sp:=fun vs H Q _=>∃ q row n,vs=[.ref q]∧Mg t H q row [Str.ofString "ring",num n] 0∧(2 ≤ n∧n ≤ 99)∧NoT H∧oP q H (Q (.int n))
noncomputable def Jj (t:Adr) (H:Hp) (wl:Addr) (ds:List WD):Prop:=∃ as:List Addr,H wl=some (.lst (as.map V.ref))∧as.length=ds.length∧∀ (i:Nat) (a:Addr) (d:WD),as[i]? = some a→ds[i]? = some d→Ud t H a d
noncomputable def Xt (t:Adr):Sp:=fun vs H Q _=>∃ q row ws pl wl ds x,vs=[.ref q,.ref wl]∧Mg t H q row ws pl∧ws[pl]? = some x∧made x am 8=true∧Jj t H wl ds∧ds.length ≤ 12∧(∀ d ∈ ds,d.name ≠ x)∧NoT H ∧
 ∀ H',Fd q H H'→NoT H'→Mg t H' q row ws (pl + 1)→Q (.str x) H'
noncomputable def YI (t:Adr):Sp:=fun vs H Q _=>∃ q row ws pl n st fi,vs=[.ref q,.int n,.int st]∧Mg t H q row ws pl∧ws[pl]? = some (num fi)∧(0 ≤ st∧st < n)∧(0 ≤ fi∧fi < n)∧st ≠ fi∧n ≤ 99∧NoT H ∧
 ∀ H',Fd q H H'→NoT H'→Mg t H' q row ws (pl + 1)→Q (.int fi) H'
noncomputable def vz (t:Adr):Sp:=fun vs H Q _=>∃ d:WD,vs=[.str (Hd d.k),.str d.name,.int d.start,.int d.fin,.int d.off,.int d.near,.int d.least]∧d.k < 3∧∀ x H',Yb H H'→(NoT H→NoT H')→Ud t H' x d→H x=none→Q (.ref x) H'
noncomputable def II (t:Adr):Sp:=fun vs H Q _=>∃ q row n wl ds d,vs=[.ref q,.int n,.ref wl]∧Mg t H q row (zj d) 0∧WOk n d∧(2 ≤ n∧n ≤ 99)∧Jj t H wl ds∧ds.length ≤ 12∧(∀ e ∈ ds,e.name ≠ d.name)∧NoT H ∧
 ∀ x H',Fd q H H'→NoT H'→Ud t H' x d→H x=none→Q (.ref x) H'
theorem Jj.sameX {t:Adr} {H H':Hp} {q wl:Addr} {ds:List WD} {row:Int} {ws:List Str} {pl:Nat} (h:Jj t H wl ds) (s:Fd q H H') (r:Mg t H q row ws pl):Jj t H' wl ds:=by
 obtain ⟨as,e1,e2,al⟩:=h;obtain ⟨hz,dx,ta,e3,e4⟩:=r;refine ⟨as,s _ _ (Ge e1 e3 (by intro z;cases z)) e1,e2,fun i a d h1 h2=>?_⟩;obtain ⟨hk,dx',e5⟩:=al i a d h1 h2;refine ⟨hk,dx',s _ _ (fun z=>?_) e5⟩;subst z;rw [e5] at e3;have e6:=Option.some.inj e3;injection e6 with _ _ e8;have e9:(7:Nat)=3:=congrArg List.length e8;omega
theorem Jj.same {t:Adr} {H H':Hp} {wl:Addr} {ds:List WD} (h:Jj t H wl ds) (s:Yb H H'):Jj t H' wl ds:=by
 obtain ⟨as,e1,e2,al⟩:=h;exact ⟨as,s _ _ e1,e2,fun i a d h1 h2=>(al i a d h1 h2).same s⟩
section
variable {P:Program} {w:World} {K:PySem.W.Frag} {mg:Str→Option Value} {base:Heap} {t:Adr}
theorem fL (T:Txt w K mg t):Eb P w K mg base CX0 5 t.Hi t.Li ["reader"] (ND t):=by
 have g19:Eb P w K mg base CX0 4 t.Mc t.md q31 (gv K t):=(qz T).mono (by decide);have g10:Eb P w K mg base CX0 4 t.wc t.Gc q22 (uv t):=Hy T;have g20:Eb P w K mg base CX0 4 t.Lc t.yd ["self"] (BE t):=(XI T).mono (by decide);refine T.Zl.ok wo (fun vs H Q E h=>?_) (fun _ _ _ s H vs Q E hr h=>?_)
 ·obtain ⟨q,row,n,rfl,_⟩:=h;rfl
 obtain ⟨q,row,n,rfl,R,hn,nt,qq⟩:=h;refine ⟨_,(bb (Wc (bd (pv 0) T.Bb T.Ch g19 hr T.uh .nil Kc (ab (gf (ab Cc fb)) fb)))
   (bb (zb (i:=1) wo.nd (bd (pv 0) T.Bb T.Ec g10 hr T.Dc .nil Kc (ab (Uh rfl T.Xr T.Mr) (ab (Uh rfl T.Nu T.Jv) fb))))
   (bb (Wc (Oe (pv 0) T.Bb T.vh g20 hr T.rh .nil Kc))
   (gb (Cb (pv 1)))))),?_⟩
 obtain ⟨_,dx,ta,e1,e2⟩:=id R;walk_at "RD";refine ⟨_,_,e1,Mg.no _ _ _ (by decide +kernel),by decide,fun p hp=>?_⟩;have s0:Yb H (upd H p (.lst [V.str (Str.ofString "ring")])):=lb hp;refine ⟨q,row,_,0,Str.ofString "ring",p,[Str.ofString "ring"],rfl,R.same s0,rfl,SqL.of db,by simp,fun H1 s1 n1 R1=>?_⟩;obtain ⟨_,dx1,ta1,f1,f2⟩:=id R1;walk_at "RD";refine ⟨_,_,f1,Mg.no _ _ _ (by decide +kernel),?_⟩;have nt1:=n1 nt.upd;refine ⟨q,row,_,1,num n,2,99,n,rfl,R1,rfl,Bn (by omega) (by omega) hn.1 hn.2,nt1,fun H2 s2 n2 R2=>?_⟩;obtain ⟨_,dx2,ta2,g1,g2⟩:=id R2;walk_at "RD";refine ⟨_,_,g1,Mg.no _ _ _ (by decide +kernel),?_⟩;refine ⟨q,row,_,2,rfl,R2,rfl,?_⟩;walk_at "RD";exact qq H2 (((Fd.of s0).trans s1).trans s2) (n2 nt1)
theorem VB (T:Txt w K mg t):Eb P w K mg base CX0 3 t.rf t.mf q35 (Xt t):=by
 have g11:Eb P w K mg base CX0 2 t.xc t.Fc ["self"] (um t):=(Zo T).mono (by decide);have g16:Eb P w K mg base CX0 2 t.Oc t.jd q19 (Nv t):=(Ry T).mono (by decide);have g33:Eb P w K mg base CX0 2 t.Rm t.Pm ["word"] yE:=qK T;refine T.Zg.ok Zi (fun vs H Q E h=>?_) (fun _ _ _ s H vs Q E hr h=>?_)
 ·obtain ⟨q,row,ws,pl,wl,ds,x,rfl,_⟩:=h;rfl
 obtain ⟨q,row,ws,pl,wl,ds,x,rfl,R,hx,hm,hW,hdl,hnew,nt,qq⟩:=h;refine ⟨_,(bb (zb (i:=2) Zi.nd (Oe (pv 0) T.Bb T.Be g11 hr T.Ce .nil Kc))
   (bb (Wc (bd (pv 0) T.Bb T.vg g16 hr T.wg .nil Kc (ab (rE (qb g33 hr T.JC T.lr.kp T.xF (ab (pv 2) fb)) (xw (Se bw (pv 2) (Fi rfl (Ld (pv 1)) (Yc (sc:=ib dh) rfl (by decide +kernel)) (N:=["way"]) (sel:=[none]) (Nd (M:=["reader","ways","name"]) (by decide +kernel)) (Blk.of (fun _ _ _ _=>(ub (i:=0) (kh (N:=["way"]) (by decide +kernel) rfl))) (fun _ _ _ _=>⟨_,ug,by walk_at "B"⟩) (fun _ _ _ _=>⟨_,(fc (pv 0) rfl),by walk_at "B"⟩))) (by with_unfolding_all rfl)))) fb)))
   (gb (Cb (pv 2))))),?_⟩
 have hlt:pl < ws.length:=(List.getElem?_eq_some_iff.mp hx).1;have hg:ws.getD pl (Str.ofString "")=x:=by rw [List.getD_eq_getElem?_getD,hx];rfl
 obtain ⟨hz,dx,ta,e1,e2⟩:=id R;walk_at "RD";refine ⟨_,_,e1,Mg.no _ _ _ (by decide +kernel),⟨q,row,ws,pl,rfl,R,by omega,?_⟩⟩;rw [hg];walk_at "RD";refine ⟨_,_,e1,Mg.no _ _ _ (by decide +kernel),?_⟩;refine ⟨x,rfl,hz.2 x (List.mem_of_getElem? hx),nt,?_⟩;rw [hm];walk_at "RD";obtain ⟨as,w1,w2,al⟩:=hW;refine ⟨⟨_,SqL.of w1⟩,?_⟩;have hle:(as.map V.ref).length ≤ sizeLine:=by rw [List.length_map,w2];exact Nat.le_trans hdl (by decide)
 refine ud.list_zs (xs:=as.map V.ref) (zs:=ds.map fun d=>V.str d.name) (SqL.of w1) hle (by rw [List.length_map,List.length_map,w2]) (fun i v z N hv hz' hN=>?_) (fun p hp=>?_)
 ·obtain ⟨a,ha,rfl⟩:=kc hv;obtain ⟨d,hd,rfl⟩:=kc hz';walk_at "RD";exact ⟨Sub.name,_,(al i a d ha hd).f_name T,hN⟩
 ·walk_at "RD";have e0:(ds.map fun d=>V.str d.name)=bc (ds.map (·.name)):=by unfold bc;rw [List.map_map];rfl
  rw [e0];refine ⟨_,.inl (SqL.of db),rfl,vt _,?_⟩;rw [aA,decide_eq_false (fun z=>by
   obtain ⟨d,hd,e⟩:=List.mem_map.mp z;exact hnew d hd e)]
  have s0:Yb H (upd H p (.lst (bc (ds.map (·.name))))):=lb hp;exact ⟨q,row,ws,pl,rfl,R.same s0,fun H' s1 n1 R1=>qq H' ((Fd.of s0).trans s1) (n1 nt.upd) R1⟩
theorem vL (T:Txt w K mg t):Eb P w K mg base CX0 5 t.Ek t.sk q25 (YI t):=by
 have g11:Eb P w K mg base CX0 4 t.xc t.Fc ["self"] (um t):=(Zo T).mono (by decide);have g10:Eb P w K mg base CX0 4 t.wc t.Gc q22 (uv t):=Hy T;refine T.mn.ok Xy (fun vs H Q E h=>?_) (fun _ _ _ s H vs Q E hr h=>?_)
 ·obtain ⟨q,row,ws,pl,n,st,fi,rfl,_⟩:=h;rfl
 obtain ⟨q,row,ws,pl,n,st,fi,rfl,R,hx,hst,hfi,hne,hn,nt,qq⟩:=h;refine ⟨_,(bb (Qd (Rb Qh (Oe (pv 0) T.Bb T.Be g11 hr T.Ce .nil Kc) (gh fk rfl T.JK Tn (ab (pv 2) fb)) (Zb _)) (gb Eg) Xb)
   (gb (Cb (bd (pv 0) T.Bb T.Ec g10 hr T.Dc .nil Kc (ab jb (ab (Gb qf (pv 1) jb) fb)))))),?_⟩
 have hlt:pl < ws.length:=(List.getElem?_eq_some_iff.mp hx).1;have hg:ws.getD pl (Str.ofString "")=num fi:=by rw [List.getD_eq_getElem?_getD,hx];rfl
 obtain ⟨hz,dx,ta,e1,e2⟩:=id R;walk_at "RD";refine Vb false (fun Q hQ=>?_) (fun hc=>nomatch hc) (fun _=>?_)
 ·walk_at "RD";refine ⟨_,_,e1,Mg.no _ _ _ (by decide +kernel),⟨q,row,ws,pl,rfl,R,by omega,?_⟩⟩;rw [hg];walk_at "RD";refine ⟨xq (by omega),?_⟩;rw [decide_eq_false (fun z=>hne (EJ (by omega) (by omega) (by omega) (by omega) z).symm)];exact hQ
 ·walk_at "RD";refine ⟨_,_,e1,Mg.no _ _ _ (by decide +kernel),⟨q,row,ws,pl,num fi,0,n - 1,fi,rfl,R,hx,Bn (by omega) (by omega) (by omega) (by omega),nt,fun H1 s1 n1 R1=>?_⟩⟩;exact qq H1 s1 (n1 nt) R1
theorem HL {t:Adr} {H:Hp} {x dx:Addr} {d:WD} (hx:H x=none) (hd:H dx=none) (hk:d.k < 3) :
  Yb H (upd (upd (upd H dx (.own x)) x (.ins (t.cw d.k) dx [])) x (.ins (t.cw d.k) dx (Po d)))∧(NoT H→NoT (upd (upd (upd H dx (.own x)) x (.ins (t.cw d.k) dx [])) x (.ins (t.cw d.k) dx (Po d)))) ∧
   Ud t (upd (upd (upd H dx (.own x)) x (.ins (t.cw d.k) dx [])) x (.ins (t.cw d.k) dx (Po d))) x d:=
 ⟨(((Yb.refl H).updN hd).updN hx).updN hx,fun n=>((n.upd).upd).upd,hk,dx,db⟩
theorem OH (T:Txt w K mg t):Eb P w K mg base CX0 4 t.qk t.Gk q26 (vz t):=by
 have g34:Eb P w K mg base CX0 2 t.cf t.Fg q10 (Ak t 0):=mK T;have g35:Eb P w K mg base CX0 2 t.Ie t.Of q10 (Ak t 1):=jH T;have g36:Eb P w K mg base CX0 2 t.Me t.Nf q10 (Ak t 2):=qH T;refine T.yn.ok Yx (fun vs H Q E h=>?_) (fun _ _ _ s H vs Q E hr h=>?_)
 ·obtain ⟨d,rfl,_⟩:=h;rfl
 obtain ⟨d,rfl,hk,q⟩:=h;refine ⟨_,(bb (Qd (Rb Qh (pv 0) Cc (Zb _)) (gb (Cb (gn T.WG g34 hr rfl T.JH T.Fv .nil Kc (ab (pv 1) (ab (pv 2) (ab (pv 3) (ab (pv 4) (ab (pv 5) (ab (pv 6) fb))))))))) Xb)
   (bb (Qd (Rb Qh (pv 0) Cc (Zb _)) (gb (Cb (gn T.UD g35 hr rfl T.CD T.Qs .nil Kc (ab (pv 1) (ab (pv 2) (ab (pv 3) (ab (pv 4) (ab (pv 5) (ab (pv 6) fb))))))))) Xb)
   (gb (Cb (gn T.RC g36 hr rfl T.wD T.Tr .nil Kc (ab (pv 1) (ab (pv 2) (ab (pv 3) (ab (pv 4) (ab (pv 5) (ab (pv 6) fb))))))))))),?_⟩
 have fin:∀ (x dx:Addr),H x=none→H dx=none→Q (.ref x) (upd (upd (upd H dx (.own x)) x (.ins (t.cw d.k) dx [])) x (.ins (t.cw d.k) dx (Po d))):=fun x dx hx hd=>by
  obtain ⟨m1,m2,m3⟩:=HL (t:=t) (d:=d) hx hd hk;exact q x _ m1 m2 m3 hx
 obtain ⟨k,name,start,fi,off,near,least⟩:=d
 match k,hk with
 | 0,_=>
  (walk_at "RD"; repeat (dsimp only [Hd];walk_at "RD"));refine Vb true (fun Q hQ=>?_) (fun _=>?_) (fun hc=>nomatch hc)
  ·walk_at "RD";exact hQ
  ·walk_at "RD";exact fun x dx hx hd hne=>⟨x,dx,⟨0,name,start,fi,off,near,least⟩,rfl,rfl,db,rfl,fin x dx hx hd⟩
 | 1,_=>
  (walk_at "RD"; repeat (dsimp only [Hd];walk_at "RD"));refine Vb false (fun Q hQ=>?_) (fun hc=>nomatch hc) (fun _=>?_)
  ·walk_at "RD";rw [decide_eq_false (by decide +kernel)];exact hQ
  ·walk_at "RD";refine Vb true (fun Q hQ=>?_) (fun _=>?_) (fun hc=>nomatch hc)
   ·walk_at "RD";exact hQ
   ·walk_at "RD";exact fun x dx hx hd hne=>⟨x,dx,⟨1,name,start,fi,off,near,least⟩,rfl,rfl,db,rfl,fin x dx hx hd⟩
 | 2,_=>
  (walk_at "RD"; repeat (dsimp only [Hd];walk_at "RD"));refine Vb false (fun Q hQ=>?_) (fun hc=>nomatch hc) (fun _=>?_)
  ·walk_at "RD";rw [decide_eq_false (by decide +kernel)];exact hQ
  ·walk_at "RD";refine Vb false (fun Q hQ=>?_) (fun hc=>nomatch hc) (fun _=>?_)
   ·walk_at "RD";rw [decide_eq_false (by decide +kernel)];exact hQ
   ·walk_at "RD";exact fun x dx hx hd hne=>⟨x,dx,⟨2,name,start,fi,off,near,least⟩,rfl,rfl,db,rfl,fin x dx hx hd⟩
theorem IL (T:Txt w K mg t):Eb P w K mg base CX0 6 t.zk t.wk q36 (II t):=by
 have g19:Eb P w K mg base CX0 5 t.Mc t.md q31 (gv K t):=(qz T).mono (by decide);have g10:Eb P w K mg base CX0 5 t.wc t.Gc q22 (uv t):=(Hy T).mono (by decide);have g20:Eb P w K mg base CX0 5 t.Lc t.yd ["self"] (BE t):=(XI T).mono (by decide);have g37:Eb P w K mg base CX0 5 t.rf t.mf q35 (Xt t):=(VB T).mono (by decide);have g38:Eb P w K mg base CX0 5 t.Ek t.sk q25 (YI t):=vL T;have g39:Eb P w K mg base CX0 5 t.qk t.Gk q26 (vz t):=(OH T).mono (by decide);refine T.Fn.ok ve (fun vs H Q E h=>?_) (fun _ _ _ s H vs Q E hr h=>?_)
 ·obtain ⟨q,row,n,wl,ds,d,rfl,_⟩:=h;rfl
 obtain ⟨q,row,n,wl,ds,d,rfl,R,hd,hn,hW,hdl,hnew,nt,qq⟩:=h;refine ⟨_,(bb (zb (i:=3) ve.nd (bd (pv 0) T.Bb T.Ch g19 hr T.uh .nil Kc (ab (gf (ab Cc (ab Cc (ab Cc fb)))) fb)))
   (bb (zb (i:=4) ve.nd (qb g37 hr T.Wq T.Zg.kp T.Nq (ab (pv 0) (ab (pv 2) fb))))
   (bb (zb (i:=5) ve.nd (bd (pv 0) T.Bb T.Ec g10 hr T.Dc .nil Kc (ab jb (ab (Gb qf (pv 1) jb) fb))))
   (bb (zb (i:=6) ve.nd (qb g38 hr T.aC T.mn.kp T.WB (ab (pv 0) (ab (pv 1) (ab (pv 5) fb)))))
   (bb (zb (i:=7) ve.nd (bd (pv 0) T.Bb T.Ec g10 hr T.Dc .nil Kc (ab jb (ab (Uh rfl T.cC T.TB) fb))))
   (bb (zb (i:=8) ve.nd (bd (pv 0) T.Bb T.Ec g10 hr T.Dc .nil Kc (ab jb (ab (Uh rfl T.ly T.Sx) fb))))
   (bb (zb (i:=9) ve.nd (bd (pv 0) T.Bb T.Ec g10 hr T.Dc .nil Kc (ab jb (ab (Uh rfl T.Xw T.Zw) fb))))
   (bb (Wc (Oe (pv 0) T.Bb T.vh g20 hr T.rh .nil Kc))
   (gb (Cb (qb g39 hr T.mB T.yn.kp T.uB (ab (pv 3) (ab (pv 4) (ab (pv 5) (ab (pv 6) (ab (pv 7) (ab (pv 8) (ab (pv 9) fb)))))))))))))))))),?_⟩
 have b1:=hd.st;have b2:=hd.fi;have b3:=hd.of;have b4:=hd.nr;have b5:=hd.le;obtain ⟨_,dx,ta,e1,e2⟩:=id R;walk_at "RD";refine ⟨_,_,e1,Mg.no _ _ _ (by decide +kernel),by decide,fun p hp=>?_⟩;have s0:Yb H (upd H p (.lst [V.str (Str.ofString "car"),V.str (Str.ofString "foot"),V.str (Str.ofString "tram")])):=lb hp;have hin:Hd d.k ∈ [Str.ofString "car",Str.ofString "foot",Str.ofString "tram"]:=by
  have:=hd.k
  match d.k,this with
  | 0,_=>simp [Hd]
  | 1,_=>simp [Hd]
  | 2,_=>simp [Hd]
 refine ⟨q,row,_,0,Hd d.k,p,[Str.ofString "car",Str.ofString "foot",Str.ofString "tram"],rfl,R.same s0,rfl,SqL.of db,hin,fun H1 s1 n1 R1=>?_⟩;have x1:Fd q H H1:=(Fd.of s0).trans s1;have m1:=n1 nt.upd;walk_at "RD";refine ⟨q,row,_,1,wl,ds,d.name,rfl,R1,rfl,hd.nm,hW.sameX x1 R,hdl,hnew,m1,fun H2 s2 m2 R2=>?_⟩;obtain ⟨_,dx2,ta2,f2,g2⟩:=id R2;have x2:=x1.trans s2;walk_at "RD";refine ⟨_,_,f2,Mg.no _ _ _ (by decide +kernel),⟨q,row,_,2,num d.start,0,n - 1,d.start,rfl,R2,rfl,Bn (by omega) (by omega) (by omega) (by omega),m2,fun H3 s3 n3 R3=>?_⟩⟩;have x3:=x2.trans s3;have m3:=n3 m2;walk_at "RD";refine ⟨q,row,_,3,n,d.start,d.fin,rfl,R3,rfl,b1,b2,hd.ne,hn.2,m3,fun H4 s4 m4 R4=>?_⟩;obtain ⟨_,dx4,ta4,f4,g4⟩:=id R4;have x4:=x3.trans s4;walk_at "RD";refine ⟨_,_,f4,Mg.no _ _ _ (by decide +kernel),⟨q,row,_,4,num d.off,0,30,d.off,rfl,R4,rfl,Bn (by omega) (by omega) (by omega) (by omega),m4,fun H5 s5 n5 R5=>?_⟩⟩;obtain ⟨_,dx5,ta5,f5,g5⟩:=id R5;have x5:=x4.trans s5;have m5:=n5 m4;walk_at "RD";refine ⟨_,_,f5,Mg.no _ _ _ (by decide +kernel),⟨q,row,_,5,num d.near,0,30,d.near,rfl,R5,rfl,Bn (by omega) (by omega) (by omega) (by omega),m5,fun H6 s6 n6 R6=>?_⟩⟩;obtain ⟨_,dx6,ta6,f6,g6⟩:=id R6;have x6:=x5.trans s6;have m6:=n6 m5;walk_at "RD";refine ⟨_,_,f6,Mg.no _ _ _ (by decide +kernel),⟨q,row,_,6,num d.least,1,60,d.least,rfl,R6,rfl,Bn (by omega) (by omega) (by omega) (by omega),m6,fun H7 s7 n7 R7=>?_⟩⟩;obtain ⟨_,dx7,ta7,f7,g7⟩:=id R7;have x7:=x6.trans s7;have m7:=n7 m6;walk_at "RD";refine ⟨_,_,f7,Mg.no _ _ _ (by decide +kernel),⟨q,row,_,7,rfl,R7,rfl,?_⟩⟩;walk_at "RD";refine ⟨d,rfl,hd.k,fun x H8 s8 n8 w8 hx8=>?_⟩;refine qq x H8 (x7.trans (Fd.of s8)) (n8 m7) w8 ?_;cases hH:H x with
 | none=>rfl
 | some u=>
  by_cases hxq:x=q
  ·subst hxq;rw [f7] at hx8;cases hx8
  ·rw [x7 x u hxq hH] at hx8;cases hx8
end
end My
namespace My
open PySem L2
noncomputable abbrev QB:List Str:=[Str.ofString "places",Str.ofString "ways",Str.ofString "numbers"]
noncomputable def cF (n:Int) (wl nd:Addr):List (Str × V):=[(Str.ofString "places",.int n),(Str.ofString "ways",.ref wl),(Str.ofString "numbers",.ref nd)]
theorem lv (n:Int) (wl nd:Addr):(cF n wl nd).map (·.1)=QB:=rfl
noncomputable def nm (ds:List WD) (i:Nat):Str:=((ds[i]?).map (·.name)).getD (Str.ofString "")
noncomputable def oC (ds:List WD) (i:Nat):List (Key × V):=(List.range i).map fun j=>(Sum.inr (nm ds j),V.int j)
theorem qw {ds:List WD} {i:Nat} {d:WD} (h:ds[i]? = some d):nm ds i=d.name:=by unfold nm;rw [h];rfl
theorem kz {ds:List WD} (h:(ds.map (·.name)).Nodup) {i j:Nat} (hi:i < ds.length) (hj:j < ds.length) (e:nm ds i=nm ds j):i=j:=by
 rw [qw (List.getElem?_eq_getElem hi),qw (List.getElem?_eq_getElem hj)] at e;have:=(List.getElem_inj (xs:=ds.map (·.name)) (i:=i) (j:=j) (h₀:=by rw [List.length_map];exact hi) (h₁:=by rw [List.length_map];exact hj) h).mp (by rw [List.getElem_map,List.getElem_map];exact e);exact this
theorem vH {ds:List WD} (h:(ds.map (·.name)).Nodup) {i:Nat}:∀ {n:Nat},i < n→n ≤ ds.length→bo (oC ds n) (Sum.inr (nm ds i))=some (.int i):=by
 intro n
 induction n with
 | zero=>intro hi _;omega
 | succ n ih=>
  intro hi hn;unfold oC bo;rw [List.range_succ,List.map_append,List.find?_append];by_cases c:i < n
  ·have:=ih c (by omega);unfold oC bo at this;cases e:List.find? (fun kv=>decide (kv.fst=Sum.inr (nm ds i))) (List.map (fun j=>((Sum.inr (nm ds j):Key),V.int j)) (List.range n)) with
   | none=>rw [e] at this;cases this
   | some p=>rw [e] at this;exact this
  ·have e:i=n:=by omega
   subst e;have no:List.find? (fun kv=>decide (kv.fst=Sum.inr (nm ds i))) (List.map (fun j=>((Sum.inr (nm ds j):Key),V.int j)) (List.range i))=none:=by
    rw [List.find?_eq_none];intro p hp;obtain ⟨j,hj,rfl⟩:=List.mem_map.mp hp;have hj':=List.mem_range.mp hj;simp only [decide_eq_true_eq];intro z;have:=kz h (by omega) (by omega) (Sum.inr.inj z);omega
   rw [no];simp
theorem OG {ds:List WD} (h:(ds.map (·.name)).Nodup) {n:Nat} (hn:n < ds.length):Eo (oC ds n) (Sum.inr (nm ds n)) (.int n)=oC ds (n + 1):=by
 unfold Eo;have no:((oC ds n).any fun kv=>decide (kv.1=Sum.inr (nm ds n)))=false:=by
  rw [List.any_eq_false];intro p hp;obtain ⟨j,hj,rfl⟩:=List.mem_map.mp hp;have hj':=List.mem_range.mp hj;simp only [decide_eq_true_eq];intro z;have:=kz h (by omega) hn (Sum.inr.inj z);omega
 rw [no];unfold oC;rw [List.range_succ,List.map_append];rfl
theorem Te {H H1 H2:Hp} {q:Addr} (a:Yb H H1) (b:Fd q H1 H2) (n:H q=none):Yb H H2:=fun c u e=>b c u (xb e n) (a c u e)
theorem uN {t:Adr} {H:Hp} {p q:Addr} {i j:Int} {ws vs:List Str} {k l:Nat} (a:Mg t H p i ws k) (b:Mg t H q j vs l) (n:i ≠ j):p ≠ q:=fun z=>by
 subst z;obtain ⟨_,dx,ta,e1,_⟩:=a;obtain ⟨_,dx',ta',e2,_⟩:=b;rw [e1] at e2;have e3:=Option.some.inj e2;injection e3 with _ _ e4;unfold rdF at e4;injection e4 with e5 _;injection e5 with _ e6;injection e6 with e7;exact n e7
theorem uC {t:Adr} {H:Hp} {p q:Addr} {d:WD} {j:Int} {vs:List Str} {l:Nat} (a:Ud t H p d) (b:Mg t H q j vs l):p ≠ q:=fun z=>by
 subst z;obtain ⟨_,dx,e1⟩:=a;obtain ⟨_,dx',ta',e2,_⟩:=b;rw [e1] at e2;have e3:=Option.some.inj e2;injection e3 with _ _ e4;exact absurd (congrArg List.length e4) (by show ¬ (7:Nat)=3;decide)
noncomputable def ad (t:Adr) (H:Hp) (c:Addr) (n:Int) (ds:List WD):Prop:=
 ((ds.map (·.name)).Nodup∧ds.length ≤ 12)∧∃ dx wl nd,H c=some (.ins t.Nb dx (cF n wl nd))∧Jj t H wl ds∧H nd=some (.dK (oC ds ds.length))
theorem ad.same {t:Adr} {H H':Hp} {c:Addr} {n:Int} {ds:List WD} (h:ad t H c n ds) (s:Yb H H'):ad t H' c n ds:=by
 obtain ⟨h0,dx,wl,nd,e1,e2,e3⟩:=h;exact ⟨h0,dx,wl,nd,s _ _ e1,e2.same s,s _ _ e3⟩
theorem cx {m:Str} (n:Int) (wl nd:Addr) (h:QB.contains m=false):(cF n wl nd).lookup m=none:=tm QB (lv ..) h
section
variable {w:World} {K:PySem.W.Frag} {mg:Str→Option Value} {t:Adr} {H:Hp} {c dx wl nd:Addr} {n:Int}
theorem PH (T:Txt w K mg t) (e:H c=some (.ins t.Nb dx (cF n wl nd))):oj K H c (Str.ofString "places") (.int n):=⟨_,dx,_,e,T.Jb,T.Hh,Sd QB 0 (lv ..) (by decide +kernel) rfl⟩
theorem jJ (T:Txt w K mg t) (e:H c=some (.ins t.Nb dx (cF n wl nd))):oj K H c (Str.ofString "ways") (.ref wl):=⟨_,dx,_,e,T.Jb,T.Yi,Sd QB 1 (lv ..) (by decide +kernel) rfl⟩
theorem iq (T:Txt w K mg t) (e:H c=some (.ins t.Nb dx (cF n wl nd))):oj K H c (Str.ofString "numbers") (.ref nd):=⟨_,dx,_,e,T.Jb,T.Vg,Sd QB 2 (lv ..) (by decide +kernel) rfl⟩
end
noncomputable def RI (t:Adr):Sp:=fun vs H Q _=>∃ c dx n wl ds,vs=[.ref c,.int n,.ref wl]∧H c=some (.ins t.Nb dx [])∧Jj t H wl ds∧(ds.map (·.name)).Nodup∧ds.length ≤ 12∧NoT H ∧
 ∀ H',Fd c H H'→NoT H'→ad t H' c n ds→Q .non H'
noncomputable def vN (t:Adr):Sp:=fun vs H Q _=>∃ n ds,vs=[.str (Mv n ds)]∧COk n ds∧NoT H∧∀ c H',Yb H H'→NoT H'→ad t H' c n ds→Q (.ref c) H'
noncomputable def Xo (t:Adr):Sp:=fun vs H Q _=>∃ c n ds,vs=[.ref c]∧ad t H c n ds∧∀ p,H p=none→Q (.ref p) (upd H p (.lst (bc (ds.map (·.name)))))
noncomputable def ix (t:Adr):Sp:=fun vs H Q _=>∃ c n ds,∃ i:Nat,∃ d,vs=[.ref c,.str d.name]∧ad t H c n ds∧ds[i]? = some d∧Q (.int (i:Nat)) H
noncomputable def Le (t:Adr):Sp:=fun vs H Q _=>∃ c n ds,∃ i:Nat,∃ d,vs=[.ref c,.str d.name]∧ad t H c n ds∧ds[i]? = some d∧∀ a,Ud t H a d→Q (.ref a) H
section
variable {P:Program} {w:World} {K:PySem.W.Frag} {mg:Str→Option Value} {base:Heap} {t:Adr}
theorem EM (T:Txt w K mg t):Eb P w K mg base CX0 1 t.re t.df q46 (RI t):=by
 refine T.ik.ok He (fun vs H Q E h=>?_) (fun _ _ _ s H vs Q E hr h=>?_)
 ·obtain ⟨c,dx,n,wl,ds,rfl,_⟩:=h;rfl
 obtain ⟨c,dx,n,wl,ds,rfl,hc,hW,hnd,hdl,nt,q⟩:=h;have hu:=Rw hr;refine ⟨_,(bb (vf (pv 0) (pv 1) rfl)
   (bb (vf (pv 0) (pv 2) rfl)
   (bb (vf (pv 0) Ym rfl)
   (gb (Kd PassesOwn.never rfl (oq rfl T.Rg (ab (pv 2) fb)) (Qe (K:=K) (n:=2) rfl rfl (Lb (ub (i:=3) He.nd) (Lb (ub (i:=4) He.nd) Re))) (gb (zn hu (fc (pv 0) rfl) (fc (pv 4) rfl) (pv 3) rfl))))))),?_⟩
 walk_at "RD";refine ⟨_,_,_,hc,T.Jb,T.Hh,by decide,?_⟩;refine ⟨_,_,_,db,T.Jb,T.Yi,bn (n:=999) (by decide),fun nd hn=>?_⟩;simp only [gq] at hn ⊢;rw [show Yh (Str.ofString "places") (V.int n) ([]:List (Str × V))=[(Str.ofString "places",V.int n)] from rfl,show Yh (Str.ofString "ways") (V.ref wl) [(Str.ofString "places",V.int n)]=[(Str.ofString "places",V.int n),(Str.ofString "ways",V.ref wl)] from ld [Str.ofString "places"] rfl (by decide +kernel)] at hn ⊢;have hnc:c ≠ nd:=fun z=>by subst z;rw [db] at hn;cases hn
 refine ⟨t.Nb,dx,[(Str.ofString "places",V.int n),(Str.ofString "ways",V.ref wl)],by rw [pb hnc];exact db,T.Jb,T.Vg,show (2:Nat) < 1000 by decide,?_⟩;rw [show Yh (Str.ofString "numbers") (V.ref nd) [(Str.ofString "places",V.int n),(Str.ofString "ways",V.ref wl)]=cF n wl nd from ld [Str.ofString "places",Str.ofString "ways"] rfl (by decide +kernel)];obtain ⟨as,w1,w2,al⟩:=hW;have hHn:H nd=none:=by rw [pb (Ne.symm hnc)] at hn;exact hn
 have sx:Fd c H (upd (upd (upd H c (.ins t.Nb dx [(Str.ofString "places",V.int n),(Str.ofString "ways",V.ref wl)])) nd (.dK [])) c (.ins t.Nb dx (cF n wl nd))):=fun b u hb e=>by
  rw [pb hb,pb (xb e hHn),pb hb];exact e
 have hwc:wl ≠ c:=Ge w1 hc (by intro z;cases z);refine ⟨⟨_,SqL.of (sx _ _ hwc w1)⟩,?_⟩;refine zi.enum (xs:=as.map V.ref) (fun i σ H'=>(∃ x y,σ=[some (V.ref c),some (V.int n),some (V.ref wl),x,y])∧H' c=some (.ins t.Nb dx (cF n wl nd))∧H' nd=some (.dK (oC ds i))∧Fd c H H'∧NoT H') ?_ ?_ ?_ ?_
 ·exact ⟨⟨_,_,rfl⟩,db,by rw [pb (Ne.symm hnc),db];rfl,sx,((nt.upd).upd).upd⟩
 ·rintro i σ H' hi zzq;refine zzP fun zzM zzh=>?_
  obtain ⟨_,_,_,sx',_⟩:=zzq;subst zzh;exact SqL.of (sx' _ _ hwc w1)
 ·rintro i v σ H' p hv ⟨⟨x,y,rfl⟩,h1,h2,sx',nt'⟩ hp;obtain ⟨a,ha,rfl⟩:=kc hv;obtain ⟨hi,_⟩:=List.getElem?_eq_some_iff.mp ha;have hid:i < ds.length:=by omega
  have hd:ds[i]? = some ds[i]:=List.getElem?_eq_getElem hid;have Wa:Ud t H a ds[i]:=al i a _ ha hd;have hac:a ≠ c:=by
   obtain ⟨_,dx',e⟩:=Wa;intro z;subst z;rw [hc] at e;have e2:=Option.some.inj e;injection e2 with _ _ e3;exact absurd (congrArg List.length e3) (by show ¬ (0:Nat)=7;decide)
  have Wa':Ud t H' a ds[i]:=⟨Wa.1,Wa.2.imp fun dx' e=>sx' _ _ hac e⟩;have sp:Yb H' (upd H' p (.tup [.int i,.ref a])):=lb hp;refine Zj ?_;walk_at "RD";refine ⟨_,iq T (sp _ _ h1),_,(Wa'.same sp).f_name T,_,rfl,_,KB.k (k:=Sum.inr ds[i].name) (sp _ _ h2) (Nat.lt_of_le_of_lt (show (oC ds i).length ≤ 12 by unfold oC;rw [List.length_map,List.length_range];omega) (by decide)),?_⟩;rw [← qw hd,OG hnd hid];refine ⟨⟨_,rfl⟩,?_,db,fun b u hb e=>?_,(nt'.upd).upd⟩
  ·rw [pb hnc];exact sp _ _ h1
  ·rw [pb (xb e hHn)];exact sp _ _ (sx' b u hb e)
 ·rintro σ H' zzq;refine zzP fun zzM zzh=>?_
  obtain ⟨⟨x,y,rfl⟩,h1,h2,sx',nt'⟩:=zzq;subst zzh;walk_at "RD";rw [List.length_map,w2] at h2;refine q H' sx' nt' ⟨⟨hnd,hdl⟩,dx,wl,nd,h1,⟨as,sx' _ _ hwc w1,w2,fun i a d h3 h4=>?_⟩,h2⟩;have Wa:=al i a d h3 h4;have hac:a ≠ c:=by
   obtain ⟨_,dx',e⟩:=Wa;intro z;subst z;rw [hc] at e;have e2:=Option.some.inj e;injection e2 with _ _ e3;exact absurd (congrArg List.length e3) (by show ¬ (0:Nat)=7;decide)
  exact ⟨Wa.1,Wa.2.imp fun dx' e=>sx' _ _ hac e⟩
theorem kE (T:Txt w K mg t):Eb P w K mg base CX0 1 t.Ed t.Fe q8 (ix t):=by
 refine T.Zh.ok wm (fun vs H Q E h=>?_) (fun _ _ _ s H vs Q E hr h=>?_)
 ·obtain ⟨c,n,ds,i,d,rfl,_⟩:=h;rfl
 obtain ⟨c,n,ds,i,d,rfl,⟨⟨hnd,hdl⟩,dx,wl,nd,e1,e2,e3⟩,hd,q⟩:=h;have hu:=Rw hr;have hv:bo (oC ds ds.length) (Sum.inr d.name)=some (.int i):=by
  rw [← qw hd];exact vH hnd (List.getElem?_eq_some_iff.mp hd).1 (Nat.le_refl _)
 have hg:Rr H nd (.str d.name) (some (.int i)):=by rw [← hv];exact Rr.k (k:=Sum.inr d.name) e3
 refine ⟨_,(bb (Qd (OM (jG hu (pv 1) (fc (pv 0) rfl))) (gb Eg) Xb)
   (gb (Cb (wn hu (fc (pv 0) rfl) (pv 1) (fun _ _=>rfl))))),?_⟩
 walk_at "RD";refine Vb false (fun Q hQ=>?_) (fun hc=>nomatch hc) (fun _=>?_)
 ·walk_at "RD";refine ⟨_,iq T e1,_,rfl,_,hg,?_⟩;exact hQ
 ·walk_at "RD";exact ⟨_,iq T e1,_,rfl,_,hg,q⟩
theorem jf (T:Txt w K mg t):Eb P w K mg base CX0 2 t.Fb t.Kb q8 (Le t):=by
 have g40:Eb P w K mg base CX0 1 t.Ed t.Fe q8 (ix t):=kE T;refine T.ii.ok Mm (fun vs H Q E h=>?_) (fun _ _ _ s H vs Q E hr h=>?_)
 ·obtain ⟨c,n,ds,i,d,rfl,_⟩:=h;rfl
 obtain ⟨c,n,ds,i,d,rfl,C,hd,q⟩:=h;obtain ⟨⟨hnd,hdl⟩,dx,wl,nd,e1,⟨as,w1,w2,al⟩,e3⟩:=id C;refine ⟨_,(gb (Cb (ac yc (fc (pv 0) rfl) (bd (pv 0) T.Jb T.dn g40 hr T.An .nil Kc (ab (pv 1) fb))))),?_⟩;walk_at "RD";refine ⟨_,jJ T e1,_,_,e1,cx _ _ _ (by decide +kernel),⟨c,n,ds,i,d,rfl,C,hd,?_⟩⟩;have hi:i < as.length:=by rw [w2];exact (List.getElem?_eq_some_iff.mp hd).1
 have ha:as[i]? = some as[i]:=List.getElem?_eq_getElem hi;walk_at "RD";refine ⟨_,SqL.of w1,_,Ib (show (as.map V.ref)[i]? = some (V.ref as[i]) by rw [List.getElem?_map,ha];rfl),?_⟩;exact q as[i] (al i _ d ha hd)
theorem gO (T:Txt w K mg t):Eb P w K mg base CX0 7 t.sf t.lf ["text"] (vN t):=by
 have g41:Eb P w K mg base CX0 6 t.Sm t.vm ["text"] (cu t):=(dC T).mono (by decide);have g42:Eb P w K mg base CX0 6 t.Hi t.Li ["reader"] (ND t):=(fL T).mono (by decide);have g43:Eb P w K mg base CX0 6 t.zk t.wk q36 (II t):=IL T;have g44:Eb P w K mg base CX0 5 t.re t.df q46 (RI t):=(EM T).mono (by decide);refine T.ah.ok ce (fun vs H Q E h=>?_) (fun _ _ _ s H vs Q E hr h=>?_)
 ·obtain ⟨n,ds,rfl,_⟩:=h;rfl
 obtain ⟨n,ds,rfl,hC,nt,qq⟩:=h;refine ⟨_,(bb (zb (i:=1) ce.nd (qb g41 hr T.yC T.Aq.kp T.rF (ab (pv 0) fb)))
   (bb (zb (i:=2) ce.nd (qb g42 hr T.vy T.Zl.kp T.bz (ab (ac yc (pv 1) jb) fb)))
   (bb (zb (i:=3) ce.nd (gf fb))
   (bb (Kd PassesOwn.never rfl (Ld (Iz sK (pv 1) (ED jb) QE)) (ub (i:=4) ce.nd) (bb (Qd (Rb Qh (dc ic rfl T.Ik Ac (ab (pv 3) fb)) (Uh rfl T.dy T.Tx) (Zb _)) (gb Eg) Xb)
   (gb (Wc (On PySem.F.plainAttrs_list PySem.F.slot_list_append PySem.F.type_list_append Yg (pv 3) (ab (qb g43 hr T.kC T.Fn.kp T.PB (ab (pv 4) (ab (pv 2) (ab (pv 3) fb)))) fb))))))
   (bb (Qd (Wn (bA (pv 3) (fun _=>rfl))) (gb Eg) Xb)
   (gb (Cb (gn T.rB g44 hr rfl T.OB T.pq .nil Kc (ab (pv 2) (ab (pv 3) fb)))))))))),?_⟩
 have hrow:=nB hC;have hlen:=gF hC;have hnn:=hC.nn;have hln:=hC.ln;walk_at "RD";refine ⟨Mv n ds,rfl,by omega,?_,nt,fun p H1 sm1 nt1 R=>?_⟩
 ·rw [hrow];intro r hr;refine ⟨?_,fun x hx=>Nat.le_trans (hC.plain r hr x hx).1 (by decide)⟩;rcases List.mem_cons.mp hr with rfl | hr
  ·show (2:Nat) ≤ 1000;decide
  ·obtain ⟨d,hd,rfl⟩:=List.mem_map.mp hr;show (7:Nat) ≤ 1000;decide
 rw [hrow] at R;obtain ⟨qs,hp,hp0,hql,hqa⟩:=R;have hql':qs.length=ds.length + 1:=by rw [hql];simp [Vh]
 obtain ⟨q0,qr,rfl⟩:∃ q0 qr,qs=q0 :: qr:=by
  cases qs with
  | nil=>simp at hql'
  | cons a b=>exact ⟨a,b,rfl⟩
 obtain ⟨R0,hq0⟩:=hqa 0 q0 _ rfl rfl;walk_at "RD";refine ⟨_,SqL.of hp,_,Ib (j:=0) rfl,⟨q0,_,n,rfl,R0,hnn,nt1,fun H2 s2 nt2=>⟨Nat.zero_le _,fun wl hwl=>?_⟩⟩⟩;obtain ⟨C0,dq0,fq0,hins⟩:=R0.ins;have hpq:p ≠ q0:=Ge hp hins (by intro z;cases z);have hp2:H2 p=some (.lst ((q0 :: qr).map V.ref)):=s2 _ _ hpq hp;have swl:Yb H2 (upd H2 wl (.lst [])):=lb hwl;have hcut:uE ((q0 :: qr).map V.ref) (some 1) none=qr.map V.ref:=by
  unfold uE;simp [HT.sIx];exact List.take_of_length_le (by rw [List.length_map];exact Nat.le_refl _)
 refine ⟨_,SqL.of (swl _ _ hp2),fun pc hpc=>?_⟩;rw [hcut];have hpw:pc ≠ wl:=fun z=>by subst z;rw [db] at hpc;cases hpc
 have spc:Yb (upd H2 wl (.lst [])) (upd (upd H2 wl (.lst [])) pc (.lst (qr.map V.ref))):=lb hpc;refine ⟨⟨_,SqL.of db⟩,?_⟩;have sH2:Yb H H2:=Te sm1 s2 hq0;have hqrl:qr.length=ds.length:=by simpa using hql'
 refine zi.list (xs:=qr.map V.ref) (fun i σ H'=>(∃ x,σ=[some (V.str (Mv n ds)),some (V.ref p),some (V.int n),some (V.ref wl),x])∧NoT H'∧Yb H H'∧H' pc=some (.lst (qr.map V.ref))∧H wl=none∧Jj t H' wl (ds.take i) ∧
  ∀ (j:Nat) (q:Addr) (d:WD),i ≤ j→qr[j]? = some q→ds[j]? = some d→Mg t H' q ((j + 1:Nat):Int) (zj d) 0∧H q=none) ?_ ?_ ?_ ?_
 ·refine ⟨⟨_,rfl⟩,(nt2.upd).upd,(sH2.trans swl).trans spc,db,sH2.free hwl,⟨[],spc _ _ db,rfl,fun j a d h=>by simp at h⟩,fun j q d _ h1 h2=>?_⟩;have hr:(Vh n ds)[j + 1]? = some (zj d):=by
   unfold Vh;rw [List.getElem?_cons_succ,List.getElem?_map,h2];rfl
  obtain ⟨Rj,hqj⟩:=hqa (j + 1) q _ (by rw [List.getElem?_cons_succ];exact h1) hr;refine ⟨((Rj.sameX s2 (uN Rj R0 (by omega)) R0.ins).same swl).same spc,hqj⟩
 ·rintro i σ H' hi zzq;refine zzP fun zzM zzh=>?_
  obtain ⟨_,_,_,h,_⟩:=zzq;subst zzh;exact SqL.of h
 ·rintro i v σ H' hv zzq;refine zzP fun zzM zzh=>?_
  obtain ⟨⟨x,rfl⟩,nt',sm',hpc',hwl0,W,Rs⟩:=zzq;obtain ⟨q,hq,rfl⟩:=kc hv;obtain ⟨hi,_⟩:=List.getElem?_eq_some_iff.mp hq;have hid:i < ds.length:=by omega
  have hd:ds[i]? = some ds[i]:=List.getElem?_eq_getElem hid;obtain ⟨Rq,hqn⟩:=Rs i q _ (Nat.le_refl _) hq hd;have htl:(ds.take i).length=i:=by rw [List.length_take];omega
  obtain ⟨as,w1,w2,al⟩:=id W;subst zzh;walk_at "RD";refine Vb false (fun Q hQ=>?_) (fun hc=>nomatch hc) (fun _=>?_)
  ·walk_at "RD";refine ⟨_,.inl (SqL.of w1),?_⟩;rw [List.length_map,w2,htl];rw [decide_eq_false (by omega)] <;> exact hQ
  ·walk_at "RD";refine ⟨.inl ⟨_,SqL.of w1⟩,?_⟩;refine ⟨q,_,n,wl,ds.take i,ds[i],rfl,Rq,hC.al _ (List.getElem_mem hid),hnn,W,by omega,fun e he z=>?_,nt',fun y H3 s3 nt3 w3 hy3=>?_⟩
   ·obtain ⟨j,hj,rfl⟩:=List.getElem_of_mem he;rw [List.getElem_take] at z;have hj':j < i:=by omega
    have:=kz hC.nd (i:=j) (j:=i) (by omega) hid (by rw [qw (List.getElem?_eq_getElem (by omega)),qw hd];exact z);omega
   ·walk_at "RD";obtain ⟨Cq,dq,fq,hqi⟩:=Rq.ins;have hwq:wl ≠ q:=Ge w1 hqi (by intro z;cases z);have hw3:H3 wl=some (.lst (as.map V.ref)):=s3 _ _ hwq w1;have hsm3:Yb H H3:=Te sm' s3 hqn;refine ⟨_,hw3,Nat.lt_of_le_of_lt (show (as.map V.ref).length ≤ 12 by rw [List.length_map];omega) (by decide),?_⟩;have hyw:y ≠ wl:=fun z=>by
     subst z;rw [w1] at hy3;cases hy3
    refine ⟨⟨_,rfl⟩,nt3.upd,fun b u e=>?_,?_,hwl0,⟨as ++ [y],by rw [db,List.map_append];rfl,?_,fun j a d h1 h2=>?_⟩,fun j q' d hj h1 h2=>?_⟩
    ·rw [pb (xb e hwl0)];exact hsm3 _ _ e
    ·rw [pb hpw];exact s3 _ _ (Ge hpc' hqi (by intro z;cases z)) hpc'
    ·rw [List.length_append,w2,htl,List.length_take];show i + 1=_;omega
    ·by_cases hj:j < as.length
     ·rw [List.getElem?_append_left hj] at h1;have h2':(ds.take i)[j]? = some d:=by
       rw [List.getElem?_take_of_lt (by omega)];rw [List.getElem?_take_of_lt (by omega)] at h2;exact h2
      obtain ⟨hk,dx',e⟩:=al j a d h1 h2';have haq:a ≠ q:=uC ⟨hk,dx',e⟩ Rq;have haw:a ≠ wl:=Ge e w1 (by intro z;cases z);exact ⟨hk,dx',by rw [pb haw];exact s3 _ _ haq e⟩
     ·rw [List.getElem?_append_right (by omega)] at h1;have hj0:j - as.length=0:=by
       cases hh:j - as.length with
       | zero=>rfl
       | succ m=>rw [hh] at h1;simp at h1
      rw [hj0] at h1;have e3:y=a:=by simpa using h1
      subst e3;have e4:j=i:=by omega
      subst e4;rw [List.getElem?_take_of_lt (by omega),hd] at h2;cases h2;exact ⟨w3.1,w3.2.imp fun dx' e=>by rw [pb hyw];exact e⟩
    ·obtain ⟨Rj,hqj⟩:=Rs j q' d (by omega) h1 h2;have R3:=Rj.sameX s3 (uN Rj Rq (by omega)) Rq.ins;refine ⟨?_,hqj⟩;obtain ⟨hz,dx',ta,e1,e2⟩:=R3;refine ⟨hz,dx',ta,by rw [pb (Ge e1 hw3 (by intro z;cases z))];exact e1,?_⟩;rw [pb (fun z=>by
      subst z;rw [hw3] at e2;have e5:=Option.some.inj e2;injection e5 with e6;cases as with
      | nil=>exact absurd (congrArg List.length e6) (by show ¬ (0:Nat)=7;decide)
      | cons a r=>injection e6 with e7 _;cases e7)]
     exact e2
 ·rintro σ H' zzq;refine zzP fun zzM zzh=>?_
  obtain ⟨⟨x,rfl⟩,nt',sm',hpc',hwl0,W,Rs⟩:=zzq;subst zzh;rw [List.length_map,hqrl,List.take_length] at W;obtain ⟨as,w1,w2,al⟩:=id W;walk_at "RD";refine Vb false (fun Q hQ=>?_) (fun hc=>nomatch hc) (fun _=>?_)
  ·walk_at "RD";refine ⟨true,.inl ⟨_,SqL.of w1,?_⟩,hQ⟩;cases as with
   | nil=>simp at w2;omega
   | cons a r=>rfl
  ·walk_at "RD";intro c dx hc hdx hne;have sc:Yb H' (upd (upd H' dx (.own c)) c (.ins t.Nb dx [])):=((Yb.refl H').updN hdx).updN hc;refine ⟨c,dx,n,wl,ds,rfl,db,W.same sc,hC.nd,hln.2,(nt'.upd).upd,fun H5 s5 nt5 C5=>⟨rfl,?_⟩⟩;exact qq c H5 (Te (sm'.trans sc) s5 (sm'.free hc)) nt5 C5
end
section
variable {P:Program} {w:World} {K:PySem.W.Frag} {mg:Str→Option Value} {base:Heap} {t:Adr}
theorem Ou (T:Txt w K mg t):Eb P w K mg base CX0 1 t.Nc t.kd ["self"] (Xo t):=by
 refine T.jj.ok En (fun vs H Q E h=>?_) (fun _ _ _ s H vs Q E hr h=>?_)
 ·obtain ⟨c,n,ds,rfl,_⟩:=h;rfl
 obtain ⟨c,n,ds,rfl,⟨⟨hnd,hdl⟩,dx,wl,nd,e1,⟨as,w1,w2,al⟩,e3⟩,q⟩:=h;refine ⟨_,(gb (Cb (Fi rfl (Ld (fc (pv 0) rfl)) (Yc (sc:=ib yg) rfl (by decide +kernel)) (N:=["way"]) (sel:=[none]) (Nd (M:=["self"]) (by decide +kernel)) (Blk.of (fun _ _ _ _=>(ub (i:=0) (kh (N:=["way"]) (by decide +kernel) rfl))) (fun _ _ _ _=>⟨_,ug,by walk_at "B"⟩) (fun _ _ _ _=>⟨_,(fc (pv 0) rfl),by walk_at "B"⟩))))),?_⟩;walk_at "RD";refine ⟨_,jJ T e1,_,rfl,⟨_,SqL.of w1⟩,?_⟩;refine ud.list_zs (xs:=as.map V.ref) (zs:=bc (ds.map (·.name))) (SqL.of w1) (by rw [List.length_map,w2];exact Nat.le_trans hdl (by decide)) (by rw [im,List.length_map,List.length_map,w2]) (fun i v z N hv hz' hN=>?_) (fun p hp=>q p hp);obtain ⟨a,ha,rfl⟩:=kc hv;obtain ⟨x,hx,rfl⟩:=kc hz';obtain ⟨d,hd,rfl⟩:=kc hx;walk_at "RD";exact ⟨Sub.name,_,(al i a d ha hd).f_name T,hN⟩
end
end My
namespace My
open PySem L2
noncomputable def Io (n s f p:Int):Bool:=decide (0 < (p - s) % n) && decide ((p - s) % n < (f - s) % n)
noncomputable def HK (n s f s2 f2:Int):Bool:=decide (f=f2) || (if (s2=s∨s2=f)∨(f2=s∨f2=f) then false else (Io n s f s2 != Io n s f f2))
noncomputable abbrev mt (n:Int) (d e:WD):Bool:=HK n d.start d.fin e.start e.fin
noncomputable def AI (t:Adr):Sp:=fun vs H Q _=>∃ a d n p,vs=[.int n,.ref a,.int p]∧Ud t H a d∧0 < n∧Q (.bl (Io n d.start d.fin p)) H
noncomputable def CM (n:Int) (d e:WD):Bool:=if (e.start=d.start∨e.start=d.fin)∨(e.fin=d.start∨e.fin=d.fin) then false else (Io n d.start d.fin e.start != Io n d.start d.fin e.fin)
noncomputable def vC (t:Adr):Sp:=fun vs H Q _=>∃ a b d e n,vs=[.int n,.ref a,.ref b]∧Ud t H a d∧Ud t H b e∧0 < n∧NoT H∧Q (.bl (CM n d e)) H
noncomputable def kH (t:Adr):Sp:=fun vs H Q _=>∃ a b d e n,vs=[.int n,.ref a,.ref b]∧Ud t H a d∧Ud t H b e∧0 < n∧∀ H',Yb H H'→Q (.bl (CM n d e)) H'
noncomputable def jE (t:Adr):Sp:=fun vs H Q _=>∃ c n ds,∃ i j:Nat,∃ d e,vs=[.ref c,.str d.name,.str e.name]∧ad t H c n ds∧0 < n∧ds[i]? = some d∧ds[j]? = some e∧NoT H∧Q (.bl (mt n d e)) H
section
variable {P:Program} {w:World} {K:PySem.W.Frag} {mg:Str→Option Value} {base:Heap} {t:Adr}
theorem DM (T:Txt w K mg t):Eb P w K mg base CX0 1 t.rp t.Wo q37 (AI t):=by
 refine T.pp.ok Iw (fun vs H Q E h=>?_) (fun _ _ _ s H vs Q E hr h=>?_)
 ·obtain ⟨a,d,n,p,rfl,_⟩:=h;rfl
 obtain ⟨a,d,n,p,rfl,W,hn,q⟩:=h;refine ⟨_,(bb (zb (i:=3) Iw.nd (Gb Jd (Gb qf (pv 2) (fc (pv 1) rfl)) (pv 0)))
   (gb (Cb (rE (Se Js jb (pv 3) (Zb _)) (xw (Se Js (pv 3) (Gb Jd (Gb qf (fc (pv 1) rfl) (fc (pv 1) rfl)) (pv 0)) (Zb _))))))),?_⟩
 walk_at "RD";refine ⟨_,W.f_start T,_,rfl,hn,?_⟩;unfold Io at q;by_cases c:0 < (p - d.start) % n
 ·rw [if_pos (decide_eq_true c)];rw [decide_eq_true c,Bool.true_and] at q;exact ⟨_,W.f_end T,_,W.f_start T,_,rfl,_,rfl,hn,q⟩
 ·rw [if_neg (by simpa using c)];rw [decide_eq_false c,Bool.false_and] at q;exact q
theorem UO (x a b:Int):inV (.int x) [.int a,.int b]=decide (x=a∨x=b):=by
 unfold inV;simp only [List.any_cons,List.any_nil,eqV,Bool.or_false];rw [Bool.eq_iff_iff];simp only [Bool.or_eq_true,beq_iff_eq,decide_eq_true_eq];omega
theorem UK (T:Txt w K mg t):Eb P w K mg base CX0 2 t.ph t.Ih q27 (vC t):=by
 refine Eb.forget (sp:=kH t) ?_ fun vs H Q E h=>?_
 ·have g27:Eb P w K mg base CX0 1 t.rp t.Wo q37 (AI t):=DM T;refine T.Fj.ok fv (fun vs H Q E h=>?_) (fun _ _ _ s H vs Q E hr h=>?_)
  ·obtain ⟨a,b,d,e,n,rfl,_⟩:=h;rfl
  obtain ⟨a,b,d,e,n,rfl,Wa,Wb,hn,q⟩:=h;refine ⟨_,(bb (Qd (PW.pt (mw (Rb Xq (fc (pv 2) rfl) (gf (ab (fc (pv 1) rfl) (ab (fc (pv 1) rfl) fb))) (by with_unfolding_all rfl)) (io (Rb Xq (fc (pv 2) rfl) (gf (ab (fc (pv 1) rfl) (ab (fc (pv 1) rfl) fb))) (by with_unfolding_all rfl))))) (gb (Cb Do)) Xb)
   (gb (Cb (Se zB (qb g27 hr T.nz T.pp.kp T.cB (ab (pv 0) (ab (pv 1) (ab (fc (pv 2) rfl) fb)))) (qb g27 hr T.nz T.pp.kp T.cB (ab (pv 0) (ab (pv 1) (ab (fc (pv 2) rfl) fb)))) (Zb _))))),?_⟩
  walk_at "RD";refine vp (fun b H'=>Yb H H'∧b=decide ((e.start=d.start∨e.start=d.fin)∨(e.fin=d.start∨e.fin=d.fin))) (fun Q hQ=>?_) (fun H' ⟨sm,hb⟩=>?_) (fun H' ⟨sm,hb⟩=>?_)
  ·walk_at "RD";refine ⟨_,Wb.f_start T,_,Wa.f_start T,_,Wa.f_end T,by decide,fun p hp=>⟨_,.inl (SqL.of db),rfl,rfl,?_⟩⟩;have s1:Yb H (upd H p (.lst [.int d.start,.int d.fin])):=lb hp;rw [UO];by_cases c1:e.start=d.start∨e.start=d.fin
   ·rw [if_pos (decide_eq_true c1)];exact hQ _ _ ⟨s1,(decide_eq_true (.inl c1)).symm⟩
   ·rw [if_neg (by simpa using c1)];refine ⟨_,(Wb.same s1).f_end T,_,(Wa.same s1).f_start T,_,(Wa.same s1).f_end T,by decide,fun p2 hp2=>⟨_,.inl (SqL.of db),rfl,rfl,?_⟩⟩;rw [UO];refine hQ _ _ ⟨s1.trans (lb hp2),?_⟩;rw [Bool.eq_iff_iff,decide_eq_true_eq,decide_eq_true_eq];exact ⟨.inr,fun z=>z.resolve_left c1⟩
  ·walk_at "RD";have hb':=of_decide_eq_true hb.symm;have:=q H' sm;unfold CM at this;rw [if_pos hb'] at this;exact this
  ·walk_at "RD";have hb':=of_decide_eq_false hb.symm;refine ⟨_,(Wb.same sm).f_start T,⟨a,d,n,_,rfl,Wa.same sm,hn,?_⟩⟩;refine ⟨_,(Wb.same sm).f_end T,⟨a,d,n,_,rfl,Wa.same sm,hn,?_⟩⟩;refine ⟨rfl,?_⟩;have:=q H' sm;unfold CM at this;rw [if_neg hb'] at this;rw [show (!decide (V.bl (Io n d.start d.fin e.start)=V.bl (Io n d.start d.fin e.fin)))=(Io n d.start d.fin e.start != Io n d.start d.fin e.fin) by
    cases Io n d.start d.fin e.start <;> cases Io n d.start d.fin e.fin <;> rfl]
   exact this
 ·obtain ⟨a,b,d,e,n,h1,h2,h3,h4,nt,q⟩:=h;exact ⟨nt,a,b,d,e,n,h1,h2,h3,h4,fun H' sm=>⟨sm,q⟩⟩
theorem JN (n:Int) (d e:WD):mt n d e=(decide (d.fin=e.fin) || CM n d e):=rfl
theorem zJ (T:Txt w K mg t):Eb P w K mg base CX0 3 t.DA t.Bz q15 (jE t):=by
 have g9:Eb P w K mg base CX0 2 t.Fb t.Kb q8 (Le t):=jf T;have g45:Eb P w K mg base CX0 2 t.ph t.Ih q27 (vC t):=UK T;refine T.IE.ok gy (fun vs H Q E h=>?_) (fun _ _ _ s H vs Q E hr h=>?_)
 ·obtain ⟨c,n,ds,i,j,d,e,rfl,_⟩:=h;rfl
 obtain ⟨c,n,ds,i,j,d,e,rfl,C,hn,hd,he,nt,q⟩:=h;obtain ⟨_,dx,wl,nd,e1,e2,e3⟩:=id C;refine ⟨_,(bb (zb (i:=3) gy.nd (bd (pv 0) T.Jb T.Pb g9 hr T.Qb .nil Kc (ab (pv 1) fb)))
   (bb (zb (i:=4) gy.nd (bd (pv 0) T.Jb T.Pb g9 hr T.Qb .nil Kc (ab (pv 2) fb)))
   (gb (Cb (mN (Se Qh (fc (pv 3) rfl) (fc (pv 4) rfl) (Zb _)) (xw (qb g45 hr T.lx T.Fj.kp T.Kw (ab (fc (pv 0) rfl) (ab (pv 3) (ab (pv 4) fb)))))))))),?_⟩
 rw [JN] at q;walk_at "RD";refine ⟨_,_,e1,cx _ _ _ (by decide +kernel),⟨c,n,ds,i,d,rfl,C,hd,fun a Wa=>?_⟩⟩;walk_at "RD";refine ⟨_,_,e1,cx _ _ _ (by decide +kernel),⟨c,n,ds,j,e,rfl,C,he,fun b Wb=>?_⟩⟩;walk_at "RD";refine ⟨_,Wa.f_end T,_,Wb.f_end T,rfl,?_⟩;walk_at "RD";by_cases c1:d.fin=e.fin
 ·rw [if_pos (decide_eq_true c1)];rw [decide_eq_true c1,Bool.true_or] at q;exact q
 ·rw [if_neg (by simpa using c1)];rw [decide_eq_false c1,Bool.false_or] at q;exact ⟨_,PH T e1,⟨a,b,d,e,n,rfl,Wa,Wb,hn,nt,q⟩⟩
end
noncomputable def lJ (t:Adr):Sp:=fun vs H Q _=>∃ c n ds,∃ i j:Nat,∃ d e,vs=[.ref c,.str d.name,.str e.name]∧ad t H c n ds∧ds[i]? = some d∧ds[j]? = some e∧Q (.int (if d.off - e.near > 0 then d.off - e.near else 0)) H
section
variable {P:Program} {w:World} {K:PySem.W.Frag} {mg:Str→Option Value} {base:Heap} {t:Adr}
theorem ML (T:Txt w K mg t):Eb P w K mg base CX0 3 t.bH t.cH q15 (lJ t):=by
 have g9:Eb P w K mg base CX0 2 t.Fb t.Kb q8 (Le t):=jf T;refine T.dL.ok pF (fun vs H Q E h=>?_) (fun _ _ _ s H vs Q E hr h=>?_)
 ·obtain ⟨c,n,ds,i,j,d,e,rfl,_⟩:=h;rfl
 obtain ⟨c,n,ds,i,j,d,e,rfl,C,hd,he,q⟩:=h;obtain ⟨_,dx,wl,nd,e1,e2,e3⟩:=id C;refine ⟨_,(bb (zb (i:=3) pF.nd (bd (pv 0) T.Jb T.Pb g9 hr T.Qb .nil Kc (ab (pv 1) fb)))
   (bb (zb (i:=4) pF.nd (bd (pv 0) T.Jb T.Pb g9 hr T.Qb .nil Kc (ab (pv 2) fb)))
   (gb (Cb (dc (Ex rfl) rfl T.DH Nn (ab jb (ab (Gb qf (fc (pv 3) rfl) (fc (pv 4) rfl)) fb))))))),?_⟩
 walk_at "RD";refine ⟨_,_,e1,cx _ _ _ (by decide +kernel),⟨c,n,ds,i,d,rfl,C,hd,fun a Wa=>?_⟩⟩;walk_at "RD";refine ⟨_,_,e1,cx _ _ _ (by decide +kernel),⟨c,n,ds,j,e,rfl,C,he,fun b Wb=>?_⟩⟩;walk_at "RD";refine ⟨_,Wa.f_off T,_,Wb.f_near T,?_⟩;walk_at "RD";exact q
end
end My
namespace My
open PySem L2
structure SD where
 name:Str
 b:Int
 n:Int
noncomputable def sdO (d:SD):HO:=.tup [.str d.name,.int d.b,.int d.n]
noncomputable def prO (p:Int × Int):HO:=.tup [.int p.1,.int p.2]
noncomputable def ofN (x:Str) (sp:List SD):List (Int × Int):=(sp.filter fun d=>decide (d.name=x)).map fun d=>(d.b,d.n)
noncomputable def LQ (H:Hp) (qs:List Addr) (os:List HO):Prop:=qs.length=os.length∧∀ (i:Nat) (q:Addr) (o:HO),qs[i]? = some q→os[i]? = some o→H q=some o
noncomputable def LO (H:Hp) (p:Addr) (os:List HO):Prop:=∃ qs:List Addr,H p=some (.lst (qs.map V.ref))∧LQ H qs os
theorem LQ.same {H H':Hp} {qs:List Addr} {os:List HO} (h:LQ H qs os) (s:Yb H H'):LQ H' qs os:=⟨h.1,fun i q o h1 h2=>s _ _ (h.2 i q o h1 h2)⟩
theorem LO.same {H H':Hp} {p:Addr} {os:List HO} (h:LO H p os) (s:Yb H H'):LO H' p os:=by
 obtain ⟨qs,e,q⟩:=h;exact ⟨qs,s _ _ e,q.same s⟩
theorem LQ.nil (H:Hp):LQ H [] []:=⟨rfl,fun i q o h _=>by simp at h⟩
theorem LQ.app {H:Hp} {qs qs':List Addr} {os os':List HO} (h:LQ H qs os) (h':LQ H qs' os'):LQ H (qs ++ qs') (os ++ os'):=by
 refine ⟨by rw [List.length_append,List.length_append,h.1,h'.1],fun i q r h1 h2=>?_⟩;rw [List.getElem?_append] at h1 h2;rw [h.1] at h1;by_cases c:i < os.length
 ·rw [if_pos c] at h1 h2;exact h.2 i q r h1 h2
 ·rw [if_neg c] at h1 h2;exact h'.2 _ q r h1 h2
theorem LQ.one {H:Hp} {p:Addr} {o:HO} (e:H p=some o):LQ H [p] [o]:=⟨rfl,fun i q r' h1 h2=>by
 match i,h1,h2 with
 | 0,h1,h2=>cases h1;cases h2;exact e
 | i + 1,h1,_=>simp at h1⟩
theorem LQ.at {H:Hp} {qs:List Addr} {os:List HO} (h:LQ H qs os) {i:Nat} {q:Addr} (hq:qs[i]? = some q):∃ o,os[i]? = some o∧H q=some o:=by
 have hi:i < os.length:=by rw [← h.1];exact (List.getElem?_eq_some_iff.mp hq).1
 exact ⟨_,List.getElem?_eq_getElem hi,h.2 i q _ hq (List.getElem?_eq_getElem hi)⟩
theorem FG (x:Str) (sp:List SD) (d:SD):ofN x (sp ++ [d])=ofN x sp ++ if d.name=x then [(d.b,d.n)] else []:=by
 unfold ofN;rw [List.filter_append,List.map_append];congr 1;by_cases c:d.name=x
 ·rw [if_pos c,List.filter_cons_of_pos (by simpa using c)];rfl
 ·rw [if_neg c,List.filter_cons_of_neg (by simpa using c)];rfl
theorem IF (x:Str) (sp:List SD):(ofN x sp).length ≤ sp.length:=by
 unfold ofN;rw [List.length_map];exact List.length_filter_le _ _
theorem fh {α:Type} {xs:List α} {i:Nat} {x:α} (h:xs[i]? = some x):xs.take (i + 1)=xs.take i ++ [x]:=by
 rw [List.take_add_one,h];rfl
noncomputable def tI {α:Type} (z:Int) (v:α) (l:List α) (i:Int):List α:=l.set (i % z).toNat v
noncomputable def zA {α:Type} (z:Int) (v:α) (b:Int):Nat→List α→List α
 | 0,l=>l
 | k + 1,l=>tI z v (zA z v b k l) (b + k)
noncomputable def Cv {α:Type} (z:Int) (v:α) (b:Int):Nat→List α→List α
 | 0,l=>l
 | k + 1,l=>tI z v (Cv z v b k l) (b - 1 - k)
theorem wA {α:Type} (z:Int) (v:α) (l:List α) (i:Int):(tI z v l i).length=l.length:=by unfold tI;rw [List.length_set]
theorem ff {α:Type} (z:Int) (v:α) (b:Int) (k:Nat) (l:List α):(zA z v b k l).length=l.length:=by
 induction k with
 | zero=>rfl
 | succ k ih=>unfold zA;rw [wA,ih]
theorem gg {α:Type} (z:Int) (v:α) (b:Int) (k:Nat) (l:List α):(Cv z v b k l).length=l.length:=by
 induction k with
 | zero=>rfl
 | succ k ih=>unfold Cv;rw [wA,ih]
noncomputable def fmF (z:Nat) (ps:List (Int × Int)):List Bool:=ps.foldl (fun l p=>zA z true p.1 p.2.toNat l) (List.replicate z false)
noncomputable def Fs (z rd fd:Nat) (l:List Str) (p:Int × Int):List Str:=zA z (Str.ofString "fade") (p.1 + p.2) fd (zA z (Str.ofString "free") p.1 p.2.toNat (Cv z (Str.ofString "ready") p.1 rd l))
noncomputable def Rh (z rd fd:Nat) (ps:List (Int × Int)):List Str:=ps.foldl (Fs z rd fd) (List.replicate z (Str.ofString "stop"))
theorem wK {z:Nat} {ps:List (Int × Int)} {i:Nat} {p:Int × Int} (h:ps[i]? = some p):fmF z (ps.take (i + 1))=zA z true p.1 p.2.toNat (fmF z (ps.take i)):=by
 unfold fmF;rw [fh h,List.foldl_append];rfl
theorem bF {z rd fd:Nat} {ps:List (Int × Int)} {i:Nat} {p:Int × Int} (h:ps[i]? = some p):Rh z rd fd (ps.take (i + 1))=Fs z rd fd (Rh z rd fd (ps.take i)) p:=by
 unfold Rh;rw [fh h,List.foldl_append];rfl
theorem Hn (z:Nat) (ps:List (Int × Int)):(fmF z ps).length=z:=by
 unfold fmF
 suffices h:∀ l:List Bool,l.length=z→(ps.foldl (fun l p=>zA z true p.1 p.2.toNat l) l).length=z from h _ (List.length_replicate ..)
 induction ps with
 | nil=>exact fun l h=>h
 | cons p ps ih=>exact fun l h=>ih _ (by rw [ff];exact h)
theorem bi (z rd fd:Nat) (ps:List (Int × Int)):(Rh z rd fd ps).length=z:=by
 unfold Rh
 suffices h:∀ l:List Str,l.length=z→(ps.foldl (Fs z rd fd) l).length=z from h _ (List.length_replicate ..)
 induction ps with
 | nil=>exact fun l h=>h
 | cons p ps ih=>exact fun l h=>ih _ (by unfold Fs;rw [ff,ff,gg];exact h)
noncomputable def JJ (z:Int) (sp:List SD):Prop:=sp.length ≤ 100∧∀ d ∈ sp,0 ≤ d.b∧d.b < 1000∧0 ≤ d.n∧d.n < 1000
theorem xy {x:Str} {sp:List SD} {p:Int × Int} (h:p ∈ ofN x sp):∃ d ∈ sp,d.name=x∧p=(d.b,d.n):=by
 unfold ofN at h;obtain ⟨d,hd,rfl⟩:=List.mem_map.mp h;have:=List.mem_filter.mp hd;exact ⟨d,this.1,by simpa using this.2,rfl⟩
theorem eM {m:Nat} (h:0 < m) (i:Int):ixN m (i % (m:Int))=some (i % (m:Int)).toNat:=by
 have h1:=Int.emod_nonneg i (show (m:Int) ≠ 0 by omega);have h2:=Int.emod_lt_of_pos i (show 0 < (m:Int) by omega);unfold ixN;rw [if_pos h1,if_pos h2]
theorem Uz {α β:Type} (f:α→β) {l:List α} {z:Nat} (h:l.length=z) (hz:0 < z) (i:Int):ixN (l.map f).length (i % (z:Int))=some (i % (z:Int)).toNat:=by
 rw [List.length_map,h];exact eM hz i
theorem Bw (d:WD):0 ≤ zc d∧zc d ≤ 2:=by
 unfold zc;split <;> omega
theorem uz {d:WD} (h:0 ≤ d.off∧d.off ≤ 1000):0 ≤ me d∧me d ≤ 1000:=by
 unfold me;split <;> omega
theorem yJ {d:WD} {m:Str} (h:Gs.contains m=false):(Po d).lookup m=none:=tm Gs (Tt _) h
noncomputable def wf (l:List Bool):List V:=l.map V.bl
theorem lp {α β:Type} (f:α→β) (z:Int) (v:α) (l:List α) (i:Int):(l.map f).set (i % z).toNat (f v)=(tI z v l i).map f:=by
 unfold tI;rw [List.map_set]
noncomputable def Fp:Sp:=fun vs H Q _=>∃ p x sp,vs=[.ref p,.str x]∧LO H p (List.map sdO sp)∧sp.length ≤ 100∧∀ r H',Yb H H'→(NoT H→NoT H')→LO H' r ((ofN x sp).map prO)→Q (.ref r) H'
noncomputable def MK:Sp:=fun vs H Q _=>∃ (z:Nat) (p:Addr) (x:Str) (sp:List SD),vs=[.int z,.ref p,.str x]∧(0 < z∧z ≤ 1000)∧LO H p (List.map sdO sp)∧JJ z sp∧∀ r H',Yb H H'→(NoT H→NoT H')→H r=none→H' r=some (.lst (wf (fmF z (ofN x sp))))→Q (.ref r) H'
noncomputable def UF (t:Adr):Sp:=fun vs H Q _=>∃ (a:Addr) (d:WD) (z:Nat) (p:Addr) (sp:List SD),vs=[.ref a,.int z,.ref p]∧(0 < z∧z ≤ 1000)∧Ud t H a d∧LO H p (List.map sdO sp)∧JJ z sp∧(0 ≤ d.off∧d.off ≤ 1000)∧∀ r H',Yb H H'→(NoT H→NoT H')→H r=none→H' r=some (.lst (bc (Rh z (zc d).toNat (me d).toNat (ofN d.name sp))))→Q (.ref r) H'
noncomputable def Xe (m:List Bool):Nat→Int
 | 0=>0
 | k + 1=>if m[(2 * m.length - 1 - k) % m.length]? = some true then 0 else Xe m k + 1
noncomputable def Dm (m:List Bool):List Int:=(List.range m.length).map fun t=>Xe m (2 * m.length - t)
noncomputable def nu (m:List Bool) (k:Nat):List Int:=(List.range k).map fun j=>Xe m (m.length + j + 1)
theorem DB (m:List Bool):(nu m m.length).reverse=Dm m:=by
 unfold nu Dm;refine List.ext_getElem (by simp) (fun i h1 h2=>?_);simp at h1;simp;congr 1;omega
noncomputable def yt (m:List Bool):List Int:=(Dm m.reverse).reverse
noncomputable def Ov:Sp:=fun vs H Q _=>∃ (p:Addr) (m:List Bool),vs=[.ref p]∧H p=some (.lst (wf m))∧(0 < m.length∧m.length ≤ 1000)∧∀ r H',Yb H H'→(NoT H→NoT H')→H r=none→H' r=some (.lst ((Dm m).map V.int))→Q (.ref r) H'
noncomputable def Jz:Sp:=fun vs H Q _=>∃ (p:Addr) (m:List Bool),vs=[.ref p]∧H p=some (.lst (wf m))∧(0 < m.length∧m.length ≤ 1000)∧∀ r H',Yb H H'→(NoT H→NoT H')→H r=none→H' r=some (.lst ((yt m).map V.int))→Q (.ref r) H'
section
variable {P:Program} {w:World} {K:PySem.W.Frag} {mg:Str→Option Value} {base:Heap} {t:Adr}
theorem Su (T:Txt w K mg t):Eb P w K mg base CX0 1 t.Bf t.Gf q13 Fp:=by
 refine T.Lg.ok qy (fun vs H Q E h=>?_) (fun _ _ _ s H vs Q E hr h=>?_)
 ·obtain ⟨p,x,sp,rfl,_⟩:=h;rfl
 obtain ⟨p,x,sp,rfl,⟨qs,l1,lq⟩,hl,q⟩:=h;refine ⟨_,(gb (Cb (Fi rfl (Ld (pv 0)) (Yc (sc:=ib Gn) rfl (by decide +kernel)) (N:=q48) (sel:=[none,none,none,some 1]) (Nd (M:=q13) (by decide +kernel)) (Blk.of (fun _ _ _ _=>(Qe (K:=K) (n:=3) rfl rfl (Lb (ub (i:=0) (kh (N:=q48) (by decide +kernel) rfl)) (Lb (ub (i:=1) (kh (N:=q48) (by decide +kernel) rfl)) (Lb (ub (i:=2) (kh (N:=q48) (by decide +kernel) rfl)) Re))))) (fun _ _ _ _=>⟨_,(Fy (Rb Qh (pv 0) (pv 3) (Zb _))),by walk_at "B"⟩) (fun _ _ _ _=>⟨_,(Bo (ab (pv 1) (ab (pv 2) fb))),by walk_at "B"⟩))))),?_⟩;walk_at "RD";have hql:qs.length=sp.length:=by rw [lq.1,List.length_map]
 refine ⟨⟨_,SqL.of l1⟩,?_⟩;refine ud.list (xs:=qs.map V.ref) (fun i ys H'=>∃ os:List Addr,ys=os.map V.ref∧LQ H' os ((ofN x (sp.take i)).map prO)∧Yb H H'∧(NoT H→NoT H')) (Nat.le_trans (show (qs.map V.ref).length ≤ 100 by rw [List.length_map];omega) (by decide)) ⟨[],rfl,LQ.nil _,Yb.refl _,id⟩ ?_ ?_ ?_
 ·rintro i ys H' hi zzq;refine zzP fun zzM zzh=>?_
  obtain ⟨os,rfl,r,sm,_⟩:=zzq;subst zzh;refine ⟨(SqL.of l1).same sm,?_⟩;rw [List.length_map,r.1,List.length_map];exact Nat.le_trans (IF _ _) (by rw [List.length_take];omega)
 ·rintro i v ys H' hv ⟨os,rfl,r,sm,nt⟩ N hN;obtain ⟨qi,hqi,rfl⟩:=kc hv;obtain ⟨o,ho,e⟩:=lq.at hqi;obtain ⟨d,hd,rfl⟩:=kc ho;have e':=sm _ _ e;walk_at "RD";refine ⟨_,SqT.of e',rfl,_,_,rfl,_,_,rfl,_,_,rfl,rfl,Sub.name3,rfl,?_⟩;dsimp only at hN;rw [fh hd,FG,List.map_append] at hN;by_cases c:d.name=x
  ·rw [if_pos c] at hN;rw [if_pos (by rw [c];exact decide_eq_true rfl)];refine ⟨by decide,fun p1 hp1=>hN _ _ ⟨os ++ [p1],by rw [List.map_append];rfl,(r.same (lb hp1)).app (LQ.one db),sm.trans (lb hp1),fun n=>(nt n).upd⟩⟩
  ·rw [if_neg c] at hN;rw [if_neg (by rw [decide_eq_true_eq];intro z;exact c (V.str.inj z))];exact hN _ _ ⟨os,rfl,by rw [List.map_nil,List.append_nil];exact r,sm,nt⟩
 ·rintro ys H' ⟨os,rfl,r,sm,nt⟩ p1 hp1;rw [List.take_of_length_le (by rw [List.length_map];omega)] at r;exact q _ _ (sm.trans (lb hp1)) (fun n=>(nt n).upd) ⟨os,db,r.same (lb hp1)⟩
theorem JL (T:Txt w K mg t):Eb P w K mg base CX0 2 t.dg t.lg q28 MK:=by
 have g12:Eb P w K mg base CX0 1 t.Bf t.Gf q13 Fp:=Su T;refine T.Eh.ok Ze (fun vs H Q E h=>?_) (fun _ _ _ s H vs Q E hr h=>?_)
 ·obtain ⟨z,p,x,sp,rfl,_⟩:=h;rfl
 obtain ⟨z,p,x,sp,rfl,hz,L,hs,q⟩:=h;refine ⟨_,(bb (Jg (i:=3) Ze.nd rfl (Or.inl rfl) rfl (ae rfl T.bf (ab (pv 0) fb)) (Yc (sc:=ib Mj) rfl (by decide +kernel)) (N:=["turn"]) (sel:=[none]) (Nd (M:=["size","spans","name","marks","begin","turns","step"]) (by decide +kernel)) (Blk.of (fun _ _ _ _=>(ub (i:=0) (kh (N:=["turn"]) (by decide +kernel) rfl))) (fun _ _ _ _=>⟨_,ug,by walk_at "B"⟩) (fun _ _ _ _=>⟨_,Do,by walk_at "B"⟩)) rfl)
   (bb (Kd PassesOwn.never rfl (Ld (qb g12 hr T.uk T.Lg.kp T.Fk (ab (pv 1) (ab (pv 2) fb)))) (Qe (K:=K) (n:=2) rfl rfl (Lb (ub (i:=4) Ze.nd) (Lb (ub (i:=5) Ze.nd) Re))) (gb (Kd PassesOwn.never rfl (ae rfl T.bf (ab (pv 5) fb)) (ub (i:=6) Ze.nd) (gb (ko Do (Yv (pv 3) (Gb Jd (Gb Cd (pv 4) (pv 6)) (pv 0)) Xm))))))
   (gb (Cb (pv 3))))),?_⟩
 walk_at "RD";obtain ⟨hz0,hz1⟩:=hz;obtain ⟨hs1,hs2⟩:=hs;refine ⟨by omega,by omega,?_⟩;refine ud.range_map (fun _=>V.bl false) (Nat.le_trans (show (z:Int).toNat ≤ 1000 by omega) (by decide)) (fun i N hi hN=>?_) (fun mk hmk=>?_)
 ·walk_at "RD";exact ⟨Sub.name,hN⟩
 rw [show (List.range (z:Int).toNat).map (fun _=>V.bl false)=wf (fmF z []) by
  unfold wf fmF;rw [List.foldl_nil,List.map_replicate];exact List.ext_getElem (by simp) (by simp)]
 refine ⟨p,x,sp,rfl,L.same (lb hmk),hs1,fun r H1 s1 nt1 L1=>⟨r,rfl,?_⟩⟩;obtain ⟨qs,l1,lq⟩:=L1;refine ⟨⟨_,SqL.of l1⟩,?_⟩;have hmk1:H1 mk=some (.lst (wf (fmF z []))):=s1 _ _ db;have hrm:r ≠ mk:=fun e=>by
  subst e;rw [l1] at hmk1;injection hmk1 with e1;injection e1 with e2;have e3:=congrArg List.length e2;cases qs with
  | nil=>simp [wf,Hn] at e3;omega
  | cons a qs=>
   have:(wf (fmF z []))[0]? = some (V.ref a):=by rw [← e2];rfl
   unfold wf at this;rw [List.getElem?_map] at this;cases hh:(fmF z [])[0]? with
   | none=>rw [hh] at this;cases this
   | some b=>rw [hh] at this;cases this
 refine zi.list (xs:=qs.map V.ref) (fun i σ H'=>(∃ a b c,σ=[some (V.int z),some (V.ref p),some (V.str x),some (V.ref mk),a,b,c])∧Fd mk H1 H'∧(NoT H→NoT H')∧H' mk=some (.lst (wf (fmF z ((ofN x sp).take i))))) ?_ ?_ ?_ ?_
 ·exact ⟨⟨_,_,_,rfl⟩,fun b u _ e=>e,fun n=>nt1 n.upd,hmk1⟩
 ·rintro i σ H' hi zzq;refine zzP fun zzM zzh=>?_
  obtain ⟨_,sx,_,_⟩:=zzq;subst zzh;exact SqL.of (sx _ _ hrm l1)
 ·rintro i v σ H' hv zzq;refine zzP fun zzM zzh=>?_
  obtain ⟨⟨a,b,c,rfl⟩,sx,nt',hm⟩:=zzq;obtain ⟨qi,hqi,rfl⟩:=kc hv;obtain ⟨o,ho,e⟩:=lq.at hqi;obtain ⟨d,hd,rfl⟩:=kc ho;obtain ⟨sd,hsd,hsn,rfl⟩:=xy (List.mem_of_getElem? hd);have hb:=hs2 sd hsd;have e':=sx _ _ (Ge e hmk1 (by intro z;cases z)) e;subst zzh;walk_at "RD";refine ⟨_,SqT.of e',rfl,_,_,rfl,_,_,rfl,rfl,_,rfl,(by dsimp only;omega),(by dsimp only;omega),?_⟩;rw [wK hd];refine zi.range (fun k σ H'=>(∃ c,σ=[some (V.int z),some (V.ref p),some (V.str x),some (V.ref mk),some (V.int sd.b),some (V.int sd.n),c])∧Fd mk H1 H'∧(NoT H→NoT H')∧H' mk=some (.lst (wf (zA z true sd.b k (fmF z ((ofN x sp).take i)))))) ?_ ?_ ?_
  ·exact ⟨⟨_,rfl⟩,sx,nt',hm⟩
  ·rintro k σ H2 hk zzq;refine zzP fun zzM zzh=>?_
   obtain ⟨⟨c,rfl⟩,sx2,nt2,hm2⟩:=zzq;subst zzh;walk_at "RD";refine ⟨by omega,_,hm2,_,Uz V.bl (by rw [ff,Hn]) hz0 _,⟨_,rfl⟩,fun b u hb e=>by rw [pb hb];exact sx2 _ _ hb e,fun n=>(nt2 n).upd,?_⟩;rw [db];unfold wf;rw [lp V.bl];rfl
  ·rintro σ H2 zzq;refine zzP fun zzM zzh=>?_
   obtain ⟨⟨c,rfl⟩,sx2,nt2,hm2⟩:=zzq;subst zzh;exact ⟨⟨_,_,_,rfl⟩,sx2,nt2,hm2⟩
 ·rintro σ H' zzq;refine zzP fun zzM zzh=>?_
  obtain ⟨⟨a,b,c,rfl⟩,sx,nt',hm⟩:=zzq;subst zzh;walk_at "RD";rw [List.take_of_length_le (by rw [List.length_map,lq.1,List.length_map];exact Nat.le_refl _)] at hm;exact q _ _ (Te ((lb hmk).trans s1) sx hmk) nt' hmk hm
theorem FK (T:Txt w K mg t):Eb P w K mg base CX0 2 t.lA t.CA q38 (UF t):=by
 have g12:Eb P w K mg base CX0 1 t.Bf t.Gf q13 Fp:=Su T;have V_Way_ready:Mz P w K mg base CX0 1 (isW t) "ready" ["self"] (ji t):=eF T;have V_Way_fade:Mz P w K mg base CX0 1 (isW t) "fade" ["self"] (Ck t):=VI T;refine T.LF.ok Ul (fun vs H Q E h=>?_) (fun _ _ _ s H vs Q E hr h=>?_)
 ·obtain ⟨a,d,z,p,sp,rfl,_⟩:=h;rfl
 obtain ⟨a,d,z,p,sp,rfl,⟨hz0,hz1⟩,W,L,⟨hs1,hs2⟩,hoff,q⟩:=h;refine ⟨_,(bb (Jg (i:=3) Ul.nd rfl (Or.inl rfl) rfl (ae rfl T.bf (ab (pv 1) fb)) (Yc (sc:=ib aD) rfl (by decide +kernel)) (N:=["turn"]) (sel:=[none]) (Nd (M:=["way","size","spans","shown","begin","turns","step"]) (by decide +kernel)) (Blk.of (fun _ _ _ _=>(ub (i:=0) (kh (N:=["turn"]) (by decide +kernel) rfl))) (fun _ _ _ _=>⟨_,ug,by walk_at "B"⟩) (fun _ _ _ _=>⟨_,Cc,by walk_at "B"⟩)) rfl)
   (bb (Kd PassesOwn.never rfl (Ld (qb g12 hr T.uk T.Lg.kp T.Fk (ab (pv 2) (ab (fc (pv 0) rfl) fb)))) (Qe (K:=K) (n:=2) rfl rfl (Lb (ub (i:=4) Ul.nd) (Lb (ub (i:=5) Ul.nd) Re))) (bb (Kd PassesOwn.never rfl (ae rfl T.bf (ab (Em (pv 0) V_Way_ready hr Kc) fb)) (ub (i:=6) Ul.nd) (gb (ko Cc (Yv (pv 3) (Gb Jd (Gb qf (Gb qf (pv 4) jb) (pv 6)) (pv 1)) Xm))))
   (bb (Kd PassesOwn.never rfl (ae rfl T.bf (ab (pv 5) fb)) (ub (i:=6) Ul.nd) (gb (ko Cc (Yv (pv 3) (Gb Jd (Gb Cd (pv 4) (pv 6)) (pv 1)) Xm))))
   (gb (Kd PassesOwn.never rfl (ae rfl T.bf (ab (Em (pv 0) V_Way_fade hr Kc) fb)) (ub (i:=6) Ul.nd) (gb (ko Cc (Yv (pv 3) (Gb Jd (Gb Cd (Gb Cd (pv 4) (pv 5)) (pv 6)) (pv 1)) Xm))))))))
   (gb (Cb (pv 3))))),?_⟩
 walk_at "RD";refine ⟨by omega,by omega,?_⟩;refine ud.range_map (fun _=>V.str (Str.ofString "stop")) (Nat.le_trans (show (z:Int).toNat ≤ 1000 by omega) (by decide)) (fun i N hi hN=>?_) (fun mk hmk=>?_)
 ·walk_at "RD";exact ⟨Sub.name,hN⟩
 rw [show (List.range (z:Int).toNat).map (fun _=>V.str (Str.ofString "stop"))=bc (Rh z (zc d).toNat (me d).toNat []) by
  unfold bc Rh;rw [List.foldl_nil,List.map_replicate];exact List.ext_getElem (by simp) (by simp)]
 have hrd:=Bw d;have hfd:=uz hoff;obtain ⟨dk,dx,hway⟩:=id W;have w0:∀ {H':Hp},Fd mk (upd H mk (.lst (bc (Rh z (zc d).toNat (me d).toNat [])))) H'→H' a=some (.ins (t.cw d.k) dx (Po d)):=fun sx=>sx _ _ (xb hway hmk) ((lb hmk) _ _ hway)
 refine ⟨_,(W.same (lb hmk)).f_name T,p,d.name,sp,rfl,L.same (lb hmk),hs1,fun r H1 s1 nt1 L1=>⟨r,rfl,?_⟩⟩;obtain ⟨qs,l1,lq⟩:=L1;refine ⟨⟨_,SqL.of l1⟩,?_⟩;have hmk1:H1 mk=some (.lst (bc (Rh z (zc d).toNat (me d).toNat []))):=s1 _ _ db;have hrm:r ≠ mk:=fun e=>by
  subst e;rw [l1] at hmk1;injection hmk1 with e1;injection e1 with e2;have e3:=congrArg List.length e2;cases qs with
  | nil=>simp [bc,bi] at e3;omega
  | cons a qs=>
   have:(bc (Rh z (zc d).toNat (me d).toNat []))[0]? = some (V.ref a):=by rw [← e2];rfl
   unfold bc at this;rw [List.getElem?_map] at this;cases hh:(Rh z (zc d).toNat (me d).toNat [])[0]? with
   | none=>rw [hh] at this;cases this
   | some b=>rw [hh] at this;cases this
 have wx:∀ {H':Hp},Fd mk H1 H'→Ud t H' a d:=fun sx=>⟨dk,dx,sx _ _ (xb hway hmk) (s1 _ _ ((lb hmk) _ _ hway))⟩
 refine zi.list (xs:=qs.map V.ref) (fun i σ H'=>(∃ a1 b c,σ=[some (V.ref a),some (V.int z),some (V.ref p),some (V.ref mk),a1,b,c])∧Fd mk H1 H'∧(NoT H→NoT H')∧H' mk=some (.lst (bc (Rh z (zc d).toNat (me d).toNat ((ofN d.name sp).take i))))) ?_ ?_ ?_ ?_
 ·exact ⟨⟨_,_,_,rfl⟩,fun b u _ e=>e,fun n=>nt1 n.upd,hmk1⟩
 ·rintro i σ H' hi zzq;refine zzP fun zzM zzh=>?_
  obtain ⟨_,sx,_,_⟩:=zzq;subst zzh;exact SqL.of (sx _ _ hrm l1)
 ·rintro i v σ H' hv zzq;refine zzP fun zzM zzh=>?_
  obtain ⟨⟨a1,b,c,rfl⟩,sx,nt',hm⟩:=zzq;obtain ⟨qi,hqi,rfl⟩:=kc hv;obtain ⟨o,ho,e⟩:=lq.at hqi;obtain ⟨dd,hd,rfl⟩:=kc ho;obtain ⟨sd,hsd,hsn,rfl⟩:=xy (List.mem_of_getElem? hd);have hb:=hs2 sd hsd;have e':=sx _ _ (Ge e hmk1 (by intro z;cases z)) e;have W1:=wx sx;obtain ⟨_,dx1,hw1⟩:=id W1;subst zzh;walk_at "RD";refine ⟨_,SqT.of e',rfl,_,_,rfl,_,_,rfl,rfl,_,_,_,hw1,⟨_,dk,rfl⟩,yJ (by decide +kernel),_,d,rfl,W1,rfl,_,rfl,by omega,by omega,?_⟩;rw [bF hd];refine zi.range (fun k σ H'=>(∃ c,σ=[some (V.ref a),some (V.int z),some (V.ref p),some (V.ref mk),some (V.int sd.b),some (V.int sd.n),c])∧Fd mk H1 H'∧(NoT H→NoT H')∧H' mk=some (.lst (bc (Cv z (Str.ofString "ready") sd.b k (Rh z (zc d).toNat (me d).toNat ((ofN d.name sp).take i)))))) ?_ ?_ ?_
  ·exact ⟨⟨_,rfl⟩,sx,nt',hm⟩
  ·rintro k σ H2 hk zzq;refine zzP fun zzM zzh=>?_
   obtain ⟨⟨c,rfl⟩,sx2,nt2,hm2⟩:=zzq;subst zzh;walk_at "RD";refine ⟨by omega,_,hm2,_,Uz V.str (by rw [gg,bi]) hz0 _,⟨_,rfl⟩,fun b u hb e=>by rw [pb hb];exact sx2 _ _ hb e,fun n=>(nt2 n).upd,?_⟩;rw [db];unfold bc;rw [lp V.str];rfl
  rintro σ H2 zzq;refine zzP fun zzM zzh=>?_
  obtain ⟨⟨c,rfl⟩,sx2,nt2,hm2⟩:=zzq;subst zzh;walk_at "RD";refine ⟨by omega,by omega,?_⟩;refine zi.range (fun k σ H'=>(∃ c,σ=[some (V.ref a),some (V.int z),some (V.ref p),some (V.ref mk),some (V.int sd.b),some (V.int sd.n),c])∧Fd mk H1 H'∧(NoT H→NoT H')∧H' mk=some (.lst (bc (zA z (Str.ofString "free") sd.b k (Cv z (Str.ofString "ready") sd.b (zc d).toNat (Rh z (zc d).toNat (me d).toNat ((ofN d.name sp).take i))))))) ?_ ?_ ?_
  ·exact ⟨⟨_,rfl⟩,sx2,nt2,hm2⟩
  ·rintro k σ H2 hk zzq;refine zzP fun zzM zzh=>?_
   obtain ⟨⟨c,rfl⟩,sx2,nt2,hm2⟩:=zzq;subst zzh;walk_at "RD";refine ⟨by omega,_,hm2,_,Uz V.str (by rw [ff,gg,bi]) hz0 _,⟨_,rfl⟩,fun b u hb e=>by rw [pb hb];exact sx2 _ _ hb e,fun n=>(nt2 n).upd,?_⟩;rw [db];unfold bc;rw [lp V.str];rfl
  rintro σ H3 zzq;refine zzP fun zzM zzh=>?_
  obtain ⟨⟨c,rfl⟩,sx3,nt3,hm3⟩:=zzq;have W3:=wx sx3;obtain ⟨_,dx3,hw3⟩:=id W3;subst zzh;walk_at "RD";refine ⟨_,_,_,hw3,⟨_,dk,rfl⟩,yJ (by decide +kernel),_,d,rfl,W3,rfl,_,rfl,by omega,by omega,?_⟩;refine zi.range (fun k σ H'=>(∃ c,σ=[some (V.ref a),some (V.int z),some (V.ref p),some (V.ref mk),some (V.int sd.b),some (V.int sd.n),c])∧Fd mk H1 H'∧(NoT H→NoT H')∧H' mk=some (.lst (bc (zA z (Str.ofString "fade") (sd.b + sd.n) k (zA z (Str.ofString "free") sd.b sd.n.toNat (Cv z (Str.ofString "ready") sd.b (zc d).toNat (Rh z (zc d).toNat (me d).toNat ((ofN d.name sp).take i)))))))) ?_ ?_ ?_
  ·exact ⟨⟨_,rfl⟩,sx3,nt3,hm3⟩
  ·rintro k σ H2 hk zzq;refine zzP fun zzM zzh=>?_
   obtain ⟨⟨c,rfl⟩,sx2,nt2,hm2⟩:=zzq;subst zzh;walk_at "RD";refine ⟨by omega,_,hm2,_,Uz V.str (by rw [ff,ff,gg,bi]) hz0 _,⟨_,rfl⟩,fun b u hb e=>by rw [pb hb];exact sx2 _ _ hb e,fun n=>(nt2 n).upd,?_⟩;rw [db];unfold bc;rw [lp V.str];rfl
  ·rintro σ H2 zzq;refine zzP fun zzM zzh=>?_
   obtain ⟨⟨c,rfl⟩,sx2,nt2,hm2⟩:=zzq;subst zzh;exact ⟨⟨_,_,_,rfl⟩,sx2,nt2,hm2⟩
 ·rintro σ H' zzq;refine zzP fun zzM zzh=>?_
  obtain ⟨⟨a1,b,c,rfl⟩,sx,nt',hm⟩:=zzq;subst zzh;walk_at "RD";rw [List.take_of_length_le (by rw [List.length_map,lq.1,List.length_map];exact Nat.le_refl _)] at hm;exact q _ _ (Te ((lb hmk).trans s1) sx hmk) nt' hmk hm
theorem Vz (T:Txt w K mg t):Eb P w K mg base CX0 1 t.Ke t.Je ["marks"] Ov:=by
 refine T.Wf.ok Gd (fun vs H Q E h=>?_) (fun _ _ _ s H vs Q E hr h=>?_)
 ·obtain ⟨p,m,rfl,_⟩:=h;rfl
 obtain ⟨p,m,rfl,hm,hl,q⟩:=h;refine ⟨_,(bb (zb (i:=1) Gd.nd (dc ic rfl T.Ik Ac (ab (pv 0) fb)))
   (bb (zb (i:=2) Gd.nd jb)
   (bb (zb (i:=3) Gd.nd (gf fb))
   (bb (Kd PassesOwn.never rfl (VC rfl T.bf (ab (Gb qf (Gb zh jb (pv 1)) jb) (ab (VL SI jb) (ab (VL SI jb) fb)))) (ub (i:=4) Gd.nd) (bb (zb (i:=2) Gd.nd (Iv (bh (ac yc (pv 0) (Gb Jd (pv 4) (pv 1)))) jb (Gb Cd (pv 2) jb)))
   (gb (Qd (Rb Js (pv 4) (pv 1) (Zb _)) (gb (Wc (On PySem.F.plainAttrs_list PySem.F.slot_list_append PySem.F.type_list_append Yg (pv 3) (ab (pv 2) fb)))) Xb))))
   (gb (Cb (Rn rfl rfl T.iu rfl T.Qn (ab (pv 3) fb)))))))),?_⟩
 walk_at "RD";refine ⟨_,.inl (SqL.of hm),Nat.zero_le _,fun u hu=>?_⟩;have hbl:(wf m).length=m.length:=by unfold wf;rw [List.length_map]
 rw [hbl];refine ⟨by unfold pI;omega,by omega,by omega,by omega,by omega,?_⟩;have hun:p ≠ u:=xb hm hu;refine zi.of (n:=2 * m.length) (fun k σ H'=>(∃ x,σ=[some (V.ref p),some (V.int m.length),some (V.int (Xe m k)),some (V.ref u),x])∧Fd u H H'∧(NoT H→NoT H')∧H' u=some (.lst ((nu m (k - m.length)).map V.int))) ?_ (fun i σ H' hi _=>?_) (fun σ H' _=>?_) ?_ ?_
 ·exact ⟨⟨_,rfl⟩,fun b o hb e=>by rw [pb hb];exact e,fun n=>n.upd,by rw [db,Nat.zero_sub];rfl⟩
 ·show i < _;omega
 ·show _ ≤ 2 * m.length;omega
 ·rintro k σ H'' v H' hk ⟨⟨x,rfl⟩,sx,nt',hu'⟩ ⟨rfl,rfl⟩;have hjn:(2 * m.length - 1 - k) % m.length < m.length:=Nat.mod_lt _ hl.1;have hmj:m[(2 * m.length - 1 - k) % m.length]? = some m[(2 * m.length - 1 - k) % m.length]:=List.getElem?_eq_getElem hjn;have hj:((2 * m.length - 1 - k:Int)) % (m.length:Int)=(((2 * m.length - 1 - k) % m.length:Nat):Int):=by
   rw [Int.natCast_emod];congr 1;omega
  have hat:atI (wf m) ((2 * m.length - 1 - k:Int) % (m.length:Int))=some (V.bl m[(2 * m.length - 1 - k) % m.length]):=by
   rw [hj];exact Ib (by unfold wf;rw [List.getElem?_map,hmj];rfl)
  have hst:Xe m (k + 1)=if m[(2 * m.length - 1 - k) % m.length]=true then 0 else Xe m k + 1:=by
   show (if m[(2 * m.length - 1 - k) % m.length]? = some true then 0 else Xe m k + 1)=_;rw [hmj];simp
  simp only [Ig,Ab,List.set_cons_succ,List.set_cons_zero];refine zzC (fun σ H4=>H4=H'∧σ=[some (V.ref p),some (V.int m.length),some (V.int (Xe m (k + 1))),some (V.ref u),some (V.int (2 * m.length - 1 - k))]) (fun D' hD=>?_) fun zzM zzh=>?_
  ·walk_at "RD";refine ⟨by omega,_,SqL.of (sx _ _ hun hm),_,hat,_,rfl,?_⟩;rw [hst] at hD;by_cases c:m[(2 * m.length - 1 - k) % m.length]=true
   ·rw [if_pos c] at hD ⊢;exact hD _ _ ⟨rfl,rfl⟩
   ·rw [if_neg c] at hD ⊢;exact hD _ _ ⟨rfl,rfl⟩
  rintro σ H4 ⟨rfl,rfl⟩;subst zzh;dsimp only;refine Vb (decide ((2 * m.length - 1 - k:Int) < m.length)) (fun Q hQ=>?_) (fun hc=>?_) (fun hc=>?_)
  ·walk_at "RD";exact hQ
  ·walk_at "RD";have hc':=of_decide_eq_true hc;refine ⟨.inl ⟨_,SqL.of hu'⟩,_,hu',Nat.lt_of_le_of_lt (show ((nu m (k - m.length)).map V.int).length ≤ 1000 by unfold nu;simp;omega) (by decide),⟨_,rfl⟩,fun b o hb e=>by rw [pb hb];exact sx _ _ hb e,fun n=>(nt' n).upd,?_⟩;rw [db,show k + 1 - m.length=k - m.length + 1 by omega];unfold nu;rw [List.range_succ,List.map_append,List.map_append];simp only [List.map_cons,List.map_nil];rw [show m.length + (k - m.length) + 1=k + 1 by omega]
  ·walk_at "RD";have hc':=of_decide_eq_false hc;refine ⟨⟨_,rfl⟩,sx,nt',?_⟩;rw [hu',show k - m.length=0 by omega,show k + 1 - m.length=0 by omega]
 ·rintro σ H' zzq;refine zzP fun zzM zzh=>?_
  obtain ⟨⟨x,rfl⟩,sx,nt',hu'⟩:=zzq;subst zzh;walk_at "RD";refine ⟨_,SqL.of hu',fun l hl'=>?_⟩;have hlu:l ≠ u:=fun z=>by subst z;rw [hu'] at hl';cases hl'
  refine q _ _ ((Te (Yb.refl H) sx hu).trans (lb hl')) (fun n=>(nt' n).upd) ((Te (Yb.refl H) sx hu).free hl') ?_;rw [db,show 2 * m.length - m.length=m.length by omega,← List.map_reverse,DB]
theorem AG (T:Txt w K mg t):Eb P w K mg base CX0 2 t.Jf t.Mf ["marks"] Jz:=by
 have g21:Eb P w K mg base CX0 1 t.Ke t.Je ["marks"] Ov:=Vz T;refine T.Lh.ok cr (fun vs H Q E h=>?_) (fun _ _ _ s H vs Q E hr h=>?_)
 ·obtain ⟨p,m,rfl,_⟩:=h;rfl
 obtain ⟨p,m,rfl,hm,hl,q⟩:=h;refine ⟨_,(gb (Cb (Rn rfl rfl T.iu rfl T.Qn (ab (qb g21 hr T.Jl T.Wf.kp T.ol (ab (Rn rfl rfl T.iu rfl T.Qn (ab (pv 0) fb)) fb)) fb)))),?_⟩;walk_at "RD";refine ⟨_,SqL.of hm,fun l1 h1=>?_⟩;refine ⟨l1,m.reverse,rfl,by rw [db,wf,wf,List.map_reverse],by rw [List.length_reverse];exact hl,fun r H1 s1 nt1 hr1 hu=>⟨r,rfl,_,SqL.of hu,fun l2 h2=>?_⟩⟩;refine q _ _ (((lb h1).trans s1).trans (lb h2)) (fun n=>(nt1 n.upd).upd) (((lb h1).trans s1).free h2) ?_;rw [db,← List.map_reverse];rfl
end
end My
namespace My
open PySem L2
theorem Bi {α:Type} {l:List α} {a x:α} {i:Nat} (h:(l ++ [a])[i]? = some x):(i < l.length∧l[i]? = some x)∨(i=l.length∧x=a):=by
 by_cases hi:i < l.length
 ·rw [List.getElem?_append_left hi] at h;exact .inl ⟨hi,h⟩
 ·rw [List.getElem?_append_right (by omega)] at h;have h0:i - l.length=0:=by
   cases hh:i - l.length with
   | zero=>rfl
   | succ m=>rw [hh] at h;simp at h
  rw [h0] at h;exact .inr ⟨by omega,(by simpa using h:a=x).symm⟩
noncomputable def DOk (ds:List WD):Prop:=∀ d ∈ ds,0 ≤ d.off∧d.off ≤ 1000
noncomputable def ax (ds:List WD) (sp:List SD):Option Str:=(ds.map (·.name)).find? fun x=>(ofN x sp).isEmpty
noncomputable def fw (t:Adr):Sp:=fun vs H Q _=>∃ c n ds p sp,vs=[.ref c,.ref p]∧ad t H c n ds∧LO H p (List.map sdO sp)∧sp.length ≤ 100∧ax ds sp=none∧∀ H',Yb H H'→(NoT H→NoT H')→Q .non H'
noncomputable def iC (z:Int) (sp:List SD) (k:Nat) (d:SD):Int:=(((ofN d.name (sp.eraseIdx k)).map fun p=>(p.1 - d.b) % z).min?).getD z
noncomputable def QC:Sp:=fun vs H Q E=>∃ (z:Int) (p:Addr) (sp:List SD) (k:Nat) (d:SD),vs=[.int z,.ref p,.int k]∧0 < z∧LO H p (List.map sdO sp)∧sp.length ≤ 100∧sp[k]? = some d∧∀ H',Yb H H'→(NoT H→NoT H')→Q (.int (iC z sp k d)) H'
theorem ZB {α:Type} (l:List α) (x:α) (k:Nat):(l ++ [x]).eraseIdx k=if k=l.length then l.eraseIdx k else l.eraseIdx k ++ [x]:=by
 by_cases h:k < l.length
 ·rw [if_neg (by omega),List.eraseIdx_append_of_lt_length h]
 ·rw [List.eraseIdx_append_of_length_le (by omega),List.eraseIdx_of_length_le (l:=l) (by omega)];by_cases h2:k=l.length
  ·rw [if_pos h2,h2,Nat.sub_self];simp
  ·rw [if_neg h2,List.eraseIdx_of_length_le (by simp;omega)]
noncomputable def wOf (ds:List WD) (x:Str):Option WD:=ds.find? fun d=>decide (d.name=x)
noncomputable def Dt (ds:List WD) (z:Int) (sp:List SD) (k:Nat) (s:SD):Bool:=(wOf ds s.name).any fun d=>decide (s.n < d.least) || decide (iC z sp k s < s.n + me d + zc d)
noncomputable def Xv (ds:List WD) (z:Int) (sp:List SD):Option (SD × Nat):=sp.zipIdx.find? fun e=>Dt ds z sp e.2 e.1
noncomputable def Uw (t:Adr):Sp:=fun vs H Q _=>∃ (c:Addr) (n:Int) (ds:List WD) (z:Int) (p:Addr) (sp:List SD),vs=[.ref c,.int z,.ref p]∧ad t H c n ds∧DOk ds∧(0 < z∧z ≤ 1000)∧LO H p (List.map sdO sp)∧JJ z sp∧(∀ s ∈ sp,∃ d,wOf ds s.name=some d)∧Xv ds z sp=none∧∀ H',Yb H H'→(NoT H→NoT H')→Q .non H'
theorem ck {P:Program} {w:World} {K:PySem.W.Frag} {mg:Str→Option Value} {base:Heap} {CX:CXT} {j k:Nat} {OK:Addr→Prop} {m:Str} {ps:List Str} {SPV:Addr→Sp} (V:Mz P w K mg base CX j OK m ps SPV) (h:j ≤ k):Mz P w K mg base CX k OK m ps SPV:=⟨fun C hC=>by
 obtain ⟨f,fd,h1,h2,h3,h4⟩:=V.ok C hC;exact ⟨f,fd,h1,h2,h3.mono h,h4⟩⟩
theorem bJ {ds:List WD} {x:Str} {d:WD} (h:wOf ds x=some d):d.name=x∧∃ i:Nat,ds[i]? = some d:=by
 unfold wOf at h;refine ⟨by simpa using List.find?_some h,?_⟩;obtain ⟨i,hi,e⟩:=List.getElem_of_mem (List.mem_of_find?_eq_some h);exact ⟨i,by rw [List.getElem?_eq_getElem hi,e]⟩
noncomputable def wI (d1 d2:WD):Int:=if d1.off - d2.near > 0 then d1.off - d2.near else 0
noncomputable def Rz (g:Int) (m1 m2:List Int):Option ((Int × Int) × Nat):=(m1.zip m2).zipIdx.find? fun e=>decide (e.1.2=0) && decide (e.1.1 ≤ g)
noncomputable def cJ (t:Adr):Sp:=fun vs H Q _=>∃ (c:Addr) (n:Int) (ds:List WD) (d1 d2:WD) (p1 p2:Addr) (m1 m2:List Int),vs=[.ref c,.str d1.name,.str d2.name,.ref p1,.ref p2]∧ad t H c n ds∧d1 ∈ ds∧d2 ∈ ds∧H p1=some (.lst (m1.map V.int))∧H p2=some (.lst (m2.map V.int))∧m1.length=m2.length∧m1.length ≤ 1000∧Rz (wI d1 d2) m1 m2=none∧∀ H',Yb H H'→(NoT H→NoT H')→Q .non H'
noncomputable def Qm (z:Nat) (sp:List SD) (x:Str):List Int:=yt (fmF z (ofN x sp))
noncomputable def Qt (n:Int) (z:Nat) (sp:List SD) (d1 d2:WD):Option Nat:=if d1.name ≠ d2.name∧mt n d1 d2=true then (Rz (wI d1 d2) (Qm z sp d1.name) (Qm z sp d2.name)).map (·.2) else none
noncomputable def PD (n:Int) (z:Nat) (sp:List SD) (d1:WD) (ds:List WD):Option (WD × WD × Nat):=ds.findSome? fun d2=>(Qt n z sp d1 d2).map fun i=>(d1,d2,i)
noncomputable def Gw (n:Int) (z:Nat) (sp:List SD) (ds:List WD):Option (WD × WD × Nat):=ds.findSome? fun d1=>PD n z sp d1 ds
noncomputable def ox (t:Adr):Sp:=fun vs H Q _=>∃ (c:Addr) (n:Int) (ds:List WD) (z:Nat) (p:Addr) (sp:List SD),vs=[.ref c,.int z,.ref p]∧ad t H c n ds∧0 < n∧(0 < z∧z ≤ 1000)∧LO H p (List.map sdO sp)∧JJ z sp∧NoT H∧Gw n z sp ds=none∧∀ H',Yb H H'→NoT H'→Q .non H'
theorem Cn (m:List Bool):(Dm m).length=m.length:=by unfold Dm;simp
theorem Dn (z:Nat) (sp:List SD) (x:Str):(Qm z sp x).length=z:=by
 unfold Qm yt;rw [List.length_reverse,Cn,List.length_reverse,Hn]
noncomputable def nkv (ds:List WD) (rs:List Addr):List (Key × V):=(ds.zip rs).map fun e=>(Sum.inr e.1.name,V.ref e.2)
noncomputable def NK (H:Hp) (p:Addr) (ds:List WD) (f:WD→HO) (n:Nat):Prop:=∃ rs:List Addr,rs.length=n∧H p=some (.dK (nkv ds rs))∧∀ (i:Nat) (r:Addr) (d:WD),rs[i]? = some r→ds[i]? = some d→H r=some (f d)
theorem SM {ds:List WD} (h:(ds.map (·.name)).Nodup) {i j:Nat} {d e:WD} (hi:ds[i]? = some d) (hj:ds[j]? = some e) (z:d.name=e.name):i=j:=
 kz h (List.getElem?_eq_some_iff.mp hi).1 (List.getElem?_eq_some_iff.mp hj).1 (by rw [qw hi,qw hj];exact z)
theorem Px {ds:List WD} {rs:List Addr} (h:(ds.map (·.name)).Nodup) {i:Nat} {d:WD} {r:Addr} (hd:ds[i]? = some d) (hr:rs[i]? = some r):bo (nkv ds rs) (Sum.inr d.name)=some (.ref r):=by
 obtain ⟨h1,e1⟩:=List.getElem?_eq_some_iff.mp hd;obtain ⟨h2,e2⟩:=List.getElem?_eq_some_iff.mp hr;unfold bo;have hf:List.find? (fun kv=>decide (kv.1=(Sum.inr d.name:Key))) (nkv ds rs)=some (Sum.inr d.name,.ref r):=by
  rw [List.find?_eq_some_iff_getElem];refine ⟨by simp,i,by unfold nkv;simp;omega,by unfold nkv;simp [e1,e2],fun j hj=>?_⟩;unfold nkv;simp;intro z;have:=SM h (List.getElem?_eq_getElem (show j < ds.length by omega)) hd z;omega
 rw [hf];rfl
theorem Dy {ds:List WD} {rs:List Addr} (h:(ds.map (·.name)).Nodup) {d:WD} {r:Addr} (hd:ds[rs.length]? = some d):Eo (nkv ds rs) (Sum.inr d.name) (.ref r)=nkv ds (rs ++ [r]):=by
 obtain ⟨h1,e1⟩:=List.getElem?_eq_some_iff.mp hd;unfold Eo;have no:((nkv ds rs).any fun kv=>decide (kv.1=Sum.inr d.name))=false:=by
  rw [List.any_eq_false];intro p hp;unfold nkv at hp;obtain ⟨e,he,rfl⟩:=List.mem_map.mp hp;obtain ⟨j,hj,hje⟩:=List.getElem_of_mem he;simp only [decide_eq_true_eq];intro z;have z:=Sum.inr.inj z;rw [← hje] at z;simp at hj z;have:=SM h (List.getElem?_eq_getElem (show j < ds.length by omega)) hd z;omega
 rw [no,if_neg (by decide)];unfold nkv;refine List.ext_getElem (by simp;omega) (fun i h3 h4=>?_);simp at h3 h4;by_cases c:i < rs.length
 ·simp [List.getElem_append,c,show i < ds.length by omega];rw [dif_pos (by omega)]
 ·have:i=rs.length:=by omega
  subst this;simp [List.getElem_append,Nat.le_of_lt h1,e1]
section
variable {P:Program} {w:World} {K:PySem.W.Frag} {mg:Str→Option Value} {base:Heap} {t:Adr}
theorem tE (T:Txt w K mg t):Eb P w K mg base CX0 3 t.Sf t.Qf q39 (fw t):=by
 have g12:Eb P w K mg base CX0 2 t.Bf t.Gf q13 Fp:=(Su T).mono (by decide);have g13:Eb P w K mg base CX0 2 t.Nc t.kd ["self"] (Xo t):=(Ou T).mono (by decide);refine T.Nh.ok Xj (fun vs H Q E h=>?_) (fun _ _ _ s H vs Q E hr h=>?_)
 ·obtain ⟨c,n,ds,p,sp,rfl,_⟩:=h;rfl
 obtain ⟨c,n,ds,p,sp,rfl,C,L,hs,hN,q⟩:=h;refine ⟨_,(gb (Kd PassesOwn.never rfl (Ld (Oe (pv 0) T.Jb T.Zd g13 hr T.Wd .nil Kc)) (ub (i:=2) Xj.nd) (gb (Qd (Wn (bA (qb g12 hr T.uk T.Lg.kp T.Fk (ab (pv 1) (ab (pv 2) fb))) (fun _=>rfl))) (gb Eg) Xb)))),?_⟩;walk_at "RD";obtain ⟨_,dx,wl,nd,e1,_,_⟩:=id C;refine ⟨_,_,e1,cx _ _ _ (by decide +kernel),c,n,ds,rfl,C,fun pn hpn=>⟨pn,rfl,⟨_,SqL.of db⟩,?_⟩⟩;refine zi.list (xs:=bc (ds.map (·.name))) (fun i σ H'=>(∃ y,σ=[some (V.ref c),some (V.ref p),y])∧Yb (upd H pn (.lst (bc (ds.map (·.name))))) H'∧(NoT H→NoT H')) ?_ ?_ ?_ ?_
 ·exact ⟨⟨_,rfl⟩,Yb.refl _,fun n=>n.upd⟩
 ·rintro i σ H' hi ⟨_,sm,_⟩;exact SqL.of (sm _ _ db)
 ·rintro i v σ H' hv zzq;refine zzP fun zzM zzh=>?_
  obtain ⟨⟨y,rfl⟩,sm,nt⟩:=zzq;obtain ⟨x,hx,rfl⟩:=kc hv;have smH:Yb H H':=(lb hpn).trans sm;have hne:(ofN x sp).isEmpty=false:=by
   have:=List.find?_eq_none.mp hN x (List.mem_of_getElem? hx);simpa using this
  subst zzh;walk_at "RD";refine vp (fun b H2=>b=(ofN x sp).isEmpty∧Yb H' H2∧(NoT H'→NoT H2)) (fun Q hQ=>?_) (fun H2 r=>?_) (fun H2 r=>?_)
  ·walk_at "RD";refine ⟨p,x,sp,rfl,L.same smH,hs,fun r H2 s2 n2 ⟨qs,l1,l2⟩=>⟨!(ofN x sp).isEmpty,.inl ⟨_,SqL.of l1,?_⟩,?_⟩⟩
   ·have hl:=l2.1;cases qs with
    | nil=>cases h:ofN x sp with
     | nil=>rfl
     | cons a r=>rw [h] at hl;simp at hl
    | cons a r=>cases h:ofN x sp with
     | nil=>rw [h] at hl;simp at hl
     | cons a r=>rfl
   ·rw [Bool.not_not];exact hQ _ _ ⟨rfl,s2,n2⟩
  ·exact absurd (r.1.trans hne) (by decide)
  ·obtain ⟨r1,r2,r3⟩:=r;walk_at "RD";exact ⟨⟨_,rfl⟩,sm.trans r2,fun n=>r3 (nt n)⟩
 ·rintro σ H' zzq;refine zzP fun zzM zzh=>?_
  obtain ⟨⟨y,rfl⟩,sm,nt⟩:=zzq;subst zzh;exact q _ ((lb hpn).trans sm) nt
theorem kK (T:Txt w K mg t):Eb P w K mg base CX0 2 t.Bd t.zd q40 QC:=by
 have g12:Eb P w K mg base CX0 1 t.Bf t.Gf q13 Fp:=Su T;refine T.ue.ok Bc (fun vs H Q E h=>?_) (fun _ _ _ s H vs Q E hr h=>?_)
 ·obtain ⟨z,p,sp,k,d,rfl,_⟩:=h;rfl
 obtain ⟨z,p,sp,k,d,rfl,hz,⟨qs,l1,lq⟩,hs,hk,q⟩:=h;refine ⟨_,(bb (ko (ac yc (pv 1) (pv 2)) (Qe (K:=K) (n:=3) rfl rfl (Lb (ub (i:=3) Bc.nd) (Lb (tD (i:=4) Bc.nd rfl (Or.inr rfl) (.inl rfl)) (Lb (ub (i:=5) Bc.nd) Re)))))
   (bb (Jg (i:=6) Bc.nd rfl (Or.inl rfl) rfl (oq rfl T.Rg (ab (pv 1) fb)) (Yc (sc:=ib Ad) rfl (by decide +kernel)) (N:=q53) (sel:=[none,none,some 2]) (Nd (M:=q51) (by decide +kernel)) (Blk.of (fun _ _ _ _=>(Qe (K:=K) (n:=2) rfl rfl (Lb (ub (i:=0) (kh (N:=q53) (by decide +kernel) rfl)) (Lb (ub (i:=1) (kh (N:=q53) (by decide +kernel) rfl)) Re)))) (fun _ _ _ _=>⟨_,(Fy (Rb zB (pv 0) (pv 2) (Zb _))),by walk_at "B"⟩) (fun _ _ _ _=>⟨_,(pv 1),by walk_at "B"⟩)) rfl)
   (gb (Cb (uJ rfl rfl T.fH (ab (Fi rfl (Ld (qb g12 hr T.uk T.Lg.kp T.Fk (ab (pv 6) (ab (pv 3) fb)))) (Yc (sc:=ib Ad) rfl (by decide +kernel)) (N:=q54) (sel:=[none,none,some 4,some 0]) (Nd (M:=q51) (by decide +kernel)) (Blk.of (fun _ _ _ _=>(Qe (K:=K) (n:=2) rfl rfl (Lb (ub (i:=0) (kh (N:=q54) (by decide +kernel) rfl)) (Lb (ub (i:=1) (kh (N:=q54) (by decide +kernel) rfl)) Re)))) (fun _ _ _ _=>⟨_,ug,by walk_at "B"⟩) (fun _ _ _ _=>⟨_,(Gb Jd (Gb qf (pv 0) (pv 2)) (pv 3)),by walk_at "B"⟩))) fb) (pv 0)))))),?_⟩
 walk_at "RD";have hql:qs.length=sp.length:=by rw [lq.1,List.length_map]
 obtain ⟨hkl,hkd⟩:=List.getElem?_eq_some_iff.mp hk;have hqk:qs[k]? = some qs[k]:=List.getElem?_eq_getElem (by omega);have ek:H qs[k]=some (sdO d):=lq.2 k _ _ hqk (by rw [List.getElem?_map,hk];rfl);refine ⟨_,SqL.of l1,_,Ib (by rw [List.getElem?_map,hqk];rfl),_,rfl,_,SqT.of ek,rfl,_,_,rfl,_,_,rfl,_,_,rfl,rfl,⟨_,SqL.of l1⟩,?_⟩;refine ud.enum (xs:=qs.map V.ref) (fun i ys H'=>∃ os:List Addr,ys=os.map V.ref∧LQ H' os (((sp.take i).eraseIdx k).map sdO)∧Yb H H'∧(NoT H→NoT H')) (Nat.le_trans (show (qs.map V.ref).length ≤ 100 by rw [List.length_map];omega) (by decide)) ⟨[],rfl,by rw [List.take_zero];exact LQ.nil _,Yb.refl _,id⟩ ?_ ?_ ?_
 ·rintro i ys H' hi zzq;refine zzP fun zzM zzh=>?_
  obtain ⟨os,rfl,r,sm,_⟩:=zzq;subst zzh;refine ⟨(SqL.of l1).same sm,?_⟩;rw [List.length_map,r.1,List.length_map];exact Nat.le_trans (List.length_eraseIdx_le ..) (by rw [List.length_take];omega)
 ·rintro i v ys H' p1 hv ⟨os,rfl,r,sm,nt⟩ hp1 N hN;obtain ⟨qi,hqi,rfl⟩:=kc hv;obtain ⟨o,ho,e⟩:=lq.at hqi;obtain ⟨d',hd',rfl⟩:=kc ho;have e':=sm _ _ e;have s1:Yb H' (upd H' p1 (.tup [.int i,.ref qi])):=lb hp1;refine Zj ?_;dsimp only at hN;have hil:(sp.take i).length=i:=by
   have:=(List.getElem?_eq_some_iff.mp hd').1;rw [List.length_take];omega
  rw [fh hd',ZB,hil] at hN;walk_at "RD";refine ⟨Sub.name2,?_⟩;by_cases c:k=i
  ·rw [if_pos c] at hN;rw [if_neg (by subst c;simp)];exact hN _ _ ⟨os,rfl,r.same s1,sm.trans s1,fun n=>(nt n).upd⟩
  ·rw [if_neg c] at hN;rw [if_pos (by simp;omega)];refine hN _ _ ⟨os ++ [qi],by rw [List.map_append];rfl,?_,sm.trans s1,fun n=>(nt n).upd⟩;rw [List.map_append];exact (r.same s1).app (LQ.one (s1 _ _ e'))
 ·rintro ys H' ⟨os,rfl,r,sm,nt⟩ p1 hp1;rw [List.take_of_length_le (by rw [List.length_map];omega)] at r;walk_at "RD";have s1:Yb H' (upd H' p1 (.lst (os.map V.ref))):=lb hp1;refine ⟨p1,d.name,sp.eraseIdx k,rfl,⟨os,db,r.same s1⟩,Nat.le_trans (List.length_eraseIdx_le ..) hs,fun r2 H2 s2 n2 ⟨qs2,m1,m2⟩=>⟨r2,rfl,⟨_,SqL.of m1⟩,?_⟩⟩;have hln:(ofN d.name (sp.eraseIdx k)).length ≤ 100:=Nat.le_trans (IF _ _) (Nat.le_trans (List.length_eraseIdx_le ..) hs);have hml:qs2.length=(ofN d.name (sp.eraseIdx k)).length:=by rw [m2.1,List.length_map]
  refine ud.list_zs (zs:=((ofN d.name (sp.eraseIdx k)).map fun p=>(p.1 - d.b) % z).map V.int) (SqL.of m1) (Nat.le_trans (show (qs2.map V.ref).length ≤ 100 by rw [List.length_map];omega) (by decide)) (by simp [hml]) (fun i v z' N hv hz' hN=>?_) (fun l hl=>?_)
  ·obtain ⟨qi,hqi,rfl⟩:=kc hv;obtain ⟨o,ho,e⟩:=m2.at hqi;obtain ⟨pr,hpr,rfl⟩:=kc ho;obtain ⟨y,hy,rfl⟩:=kc hz';obtain ⟨pr',hpr',rfl⟩:=kc hy;rw [hpr] at hpr';cases hpr';walk_at "RD";exact ⟨_,SqT.of e,rfl,_,_,rfl,_,_,rfl,rfl,Sub.name2,_,rfl,hz,hN⟩
  ·walk_at "RD";refine ⟨_,SqL.of db,?_⟩;have:=q (upd H2 l (.lst (((ofN d.name (sp.eraseIdx k)).map fun p=>(p.1 - d.b) % z).map V.int))) (((sm.trans s1).trans s2).trans (lb hl)) (fun n=>(n2 (nt n).upd).upd);unfold iC at this;cases hm:((ofN d.name (sp.eraseIdx k)).map fun p=>(p.1 - d.b) % z).min? with
   | none=>rw [hm] at this;exact this
   | some m=>rw [hm] at this;exact this
theorem iG (T:Txt w K mg t):Eb P w K mg base CX0 4 t.Hf t.Rf q16 (Uw t):=by
 have g46:Eb P w K mg base CX0 3 t.Bd t.zd q40 QC:=(kK T).mono (by decide);have g9:Eb P w K mg base CX0 3 t.Fb t.Kb q8 (Le t):=(jf T).mono (by decide);have V_Way_ready:Mz P w K mg base CX0 3 (isW t) "ready" ["self"] (ji t):=ck (eF T) (by decide);have V_Way_fade:Mz P w K mg base CX0 3 (isW t) "fade" ["self"] (Ck t):=ck (VI T) (by decide);refine T.Xh.ok Ic (fun vs H Q E h=>?_) (fun _ _ _ s H vs Q E hr h=>?_)
 ·obtain ⟨c,n,ds,z,p,sp,rfl,_⟩:=h;rfl
 obtain ⟨c,n,ds,z,p,sp,rfl,C,hD,hz,⟨qs,l1,lq⟩,hs,hk,hN,q⟩:=h;refine ⟨_,(gb (Kd PassesOwn.never rfl (oq rfl T.Rg (ab (pv 2) fb)) (Qe (K:=K) (n:=2) rfl rfl (Lb (ub (i:=3) Ic.nd) (Lb (ub (i:=4) Ic.nd) Re))) (bb (ko (pv 4) (Qe (K:=K) (n:=3) rfl rfl (Lb (ub (i:=5) Ic.nd) (Lb (ub (i:=6) Ic.nd) (Lb (ub (i:=7) Ic.nd) Re)))))
   (bb (zb (i:=8) Ic.nd (bd (pv 0) T.Jb T.Pb g9 hr T.Qb .nil Kc (ab (pv 5) fb)))
   (bb (zb (i:=9) Ic.nd (Gb Cd (Gb Cd (pv 7) (Em (pv 8) V_Way_fade hr Kc)) (Em (pv 8) V_Way_ready hr Kc)))
   (gb (Qd (PW.pt (mw (Rb Js (pv 7) (fc (pv 8) rfl) (Zb _)) (io (Rb Js (qb g46 hr T.Gj T.ue.kp T.Qj (ab (pv 1) (ab (pv 2) (ab (pv 3) fb)))) (pv 9) (Zb _))))) (gb Eg) Xb))))))),?_⟩
 walk_at "RD";have hql:qs.length=sp.length:=by rw [lq.1,List.length_map]
 refine ⟨⟨_,SqL.of l1⟩,?_⟩;refine zi.enum (xs:=qs.map V.ref) (fun i σ H'=>(∃ a b c1 d e f g,σ=[some (V.ref c),some (V.int z),some (V.ref p),a,b,c1,d,e,f,g])∧Yb H H'∧(NoT H→NoT H')) ?_ ?_ ?_ ?_
 ·exact ⟨⟨_,_,_,_,_,_,_,rfl⟩,Yb.refl _,id⟩
 ·rintro i σ H' hi ⟨_,sm,_⟩;exact SqL.of (sm _ _ l1)
 ·rintro i v σ H0 p1 hv ⟨⟨a1,a2,a3,a4,a5,a6,a7,rfl⟩,sm,nt⟩ hp1;obtain ⟨qi,hqi,rfl⟩:=kc hv;obtain ⟨o,ho,e⟩:=lq.at hqi;obtain ⟨sd,hsd,rfl⟩:=kc ho;obtain ⟨hi,hxi⟩:=List.getElem?_eq_some_iff.mp hsd;have hB0:Dt ds z sp i sd=false:=by
   have:=List.find?_eq_none.mp hN (sd,i) (by rw [List.mem_iff_getElem?];exact ⟨i,by rw [List.getElem?_zipIdx,hsd];simp⟩);simpa using this
  have s1:Yb H0 (upd H0 p1 (.tup [.int i,.ref qi])):=lb hp1;refine Zj ?_;have nt1:NoT H→NoT (upd H0 p1 (.tup [.int i,.ref qi])):=fun n=>(nt n).upd
  generalize upd H0 p1 (.tup [.int i,.ref qi])=H' at s1 nt1 ⊢;have smH:Yb H H':=sm.trans s1;obtain ⟨d,hd⟩:=hk sd (List.mem_of_getElem? hsd);obtain ⟨hdn,j,hj⟩:=bJ hd;have C':=C.same smH;obtain ⟨_,dx,wl,nd,e1,_,_⟩:=id C';have hB:Dt ds z sp i sd=(decide (sd.n < d.least) || decide (iC z sp i sd < sd.n + me d + zc d)):=by
   unfold Dt;rw [hd];rfl
  walk_at "RD";refine ⟨_,SqT.of (smH _ _ e),rfl,_,_,rfl,_,_,rfl,_,_,rfl,rfl,_,_,e1,cx _ _ _ (by decide +kernel),c,n,ds,j,d,by rw [hdn],C',hj,fun a W=>?_⟩;obtain ⟨dk,dxa,ha⟩:=id W;refine ⟨a,rfl,_,_,_,ha,⟨_,dk,rfl⟩,yJ (by decide +kernel),a,d,rfl,W,rfl,_,rfl,_,rfl,a,rfl,_,_,_,ha,⟨_,dk,rfl⟩,yJ (by decide +kernel),a,d,rfl,W,rfl,_,rfl,?_⟩;refine vp (fun b H2=>b=Dt ds z sp i sd∧Yb H' H2∧(NoT H'→NoT H2)) (fun Q hQ=>?_) (fun H2 r=>?_) (fun H2 r=>?_)
  ·rw [hB] at hQ;walk_at "RD";refine ⟨_,W.f_least T,_,rfl,?_⟩;by_cases c1:sd.n < d.least
   ·rw [decide_eq_true c1] at hQ;rw [if_pos (decide_eq_true c1)];exact hQ _ _ ⟨rfl,Yb.refl _,id⟩
   ·rw [decide_eq_false c1,Bool.false_or] at hQ;rw [if_neg (by simpa using c1)];exact ⟨z,p,sp,i,sd,rfl,hz.1,⟨qs,smH _ _ l1,lq.same smH⟩,hs.1,hsd,fun H2 s2 n2=>⟨_,rfl,hQ _ _ ⟨rfl,s2,n2⟩⟩⟩
  ·exact absurd (r.1.trans hB0) (by decide)
  ·obtain ⟨r1,r2,r3⟩:=r;exact ⟨⟨_,_,_,_,_,_,_,rfl⟩,smH.trans r2,fun n=>r3 (nt1 n)⟩
 ·rintro σ H' ⟨_,sm,nt⟩;exact q _ sm nt
theorem CL (T:Txt w K mg t):Eb P w K mg base CX0 4 t.Ee t.De q41 (cJ t):=by
 have g47:Eb P w K mg base CX0 3 t.bH t.cH q15 (lJ t):=ML T;refine T.Af.ok oe (fun vs H Q E h=>?_) (fun _ _ _ s H vs Q E hr h=>?_)
 ·obtain ⟨c,n,ds,d1,d2,p1,p2,m1,m2,rfl,_⟩:=h;rfl
 obtain ⟨c,n,ds,d1,d2,p1,p2,m1,m2,rfl,C,h1,h2,L1,L2,hl,hm,hN,q⟩:=h;refine ⟨_,(bb (zb (i:=5) oe.nd (qb g47 hr T.bO T.dL.kp T.EN (ab (pv 0) (ab (pv 1) (ab (pv 2) fb)))))
   (gb (Kd PassesOwn.never rfl (oq rfl T.Rg (ab (pv 3) fb)) (Qe (K:=K) (n:=2) rfl rfl (Lb (ub (i:=6) oe.nd) (Lb (ub (i:=7) oe.nd) Re))) (gb (Qd (PW.pt (tw (Rb Qh (ac yc (pv 4) (pv 6)) jb (Zb _)) (Qp (Rb WM (pv 7) (pv 5) (Zb _))))) (gb Eg) Xb))))),?_⟩
 walk_at "RD";obtain ⟨j1,hj1,ej1⟩:=List.getElem_of_mem h1;obtain ⟨j2,hj2,ej2⟩:=List.getElem_of_mem h2;refine ⟨c,n,ds,j1,j2,d1,d2,rfl,C,by rw [List.getElem?_eq_getElem hj1,ej1],by rw [List.getElem?_eq_getElem hj2,ej2],⟨_,SqL.of L1⟩,?_⟩;rw [show (if d1.off - d2.near > 0 then d1.off - d2.near else 0)=wI d1 d2 from rfl];refine zi.enum (xs:=m1.map V.int) (fun i σ H'=>(∃ a b,σ=[some (V.ref c),some (V.str d1.name),some (V.str d2.name),some (V.ref p1),some (V.ref p2),some (V.int (wI d1 d2)),a,b])∧Yb H H'∧(NoT H→NoT H')) ?_ ?_ ?_ ?_
 ·exact ⟨⟨_,_,rfl⟩,Yb.refl _,id⟩
 ·rintro i σ H' hi ⟨_,sm,_⟩;exact SqL.of (sm _ _ L1)
 ·rintro i v σ H0 p3 hv ⟨⟨a1,a2,rfl⟩,sm,nt⟩ hp3;obtain ⟨x1,hx1,rfl⟩:=kc hv;obtain ⟨hi,ex1⟩:=List.getElem?_eq_some_iff.mp hx1;have hi2:i < m2.length:=by omega
  have hx2:m2[i]? = some m2[i]:=List.getElem?_eq_getElem hi2;have hB0:(decide (m2[i]=0) && decide (x1 ≤ wI d1 d2))=false:=by
   have:=List.find?_eq_none.mp hN ((x1,m2[i]),i) (by rw [List.mem_iff_getElem?];exact ⟨i,by rw [List.getElem?_zipIdx,List.getElem?_zip_eq_some (z:=(x1,m2[i])) |>.mpr ⟨hx1,hx2⟩];simp⟩);simpa using this
  have s1:Yb H0 (upd H0 p3 (.tup [.int i,.int x1])):=lb hp3;refine Zj ?_;have nt1:NoT H→NoT (upd H0 p3 (.tup [.int i,.int x1])):=fun n=>(nt n).upd
  generalize upd H0 p3 (.tup [.int i,.int x1])=H' at s1 nt1 ⊢;have smH:Yb H H':=sm.trans s1;walk_at "RD";refine Vb (decide (m2[i]=0) && decide (x1 ≤ wI d1 d2)) (fun Q hQ=>?_) (fun c1=>?_) (fun c1=>?_)
  ·walk_at "RD";refine ⟨_,SqL.of (smH _ _ L2),_,Ib (by rw [List.getElem?_map,hx2];rfl),rfl,?_⟩;by_cases c0:m2[i]=0
   ·rw [decide_eq_true c0,Bool.true_and] at hQ;rw [if_pos (by rw [c0];exact decide_eq_true rfl)];exact hQ
   ·rw [decide_eq_false c0,Bool.false_and] at hQ;rw [if_neg (by rw [decide_eq_true_eq];exact fun e=>c0 (V.int.inj e))];exact hQ
  ·exact absurd (c1.symm.trans hB0) (by decide)
  ·exact ⟨⟨_,_,rfl⟩,smH,nt1⟩
 ·rintro σ H' ⟨_,sm,nt⟩;exact q _ sm nt
theorem qD (T:Txt w K mg t):Eb P w K mg base CX0 5 t.Vf t.Uf q16 (ox t):=by
 have g48:Eb P w K mg base CX0 4 t.Jf t.Mf ["marks"] Jz:=(AG T).mono (by decide);have g22:Eb P w K mg base CX0 4 t.dg t.lg q28 MK:=(JL T).mono (by decide);have g13:Eb P w K mg base CX0 4 t.Nc t.kd ["self"] (Xo t):=(Ou T).mono (by decide);have g49:Eb P w K mg base CX0 4 t.DA t.Bz q15 (jE t):=(zJ T).mono (by decide);have g50:Eb P w K mg base CX0 4 t.Ee t.De q41 (cJ t):=CL T;refine T.Mh.ok se (fun vs H Q E h=>?_) (fun _ _ _ s H vs Q E hr h=>?_)
 ·obtain ⟨c,n,ds,z,p,sp,rfl,_⟩:=h;rfl
 obtain ⟨c,n,ds,z,p,sp,rfl,C,hn,hz,L,hs,nt0,hN,q⟩:=h;have hu:=Rw hr;refine ⟨_,(bb (zb (i:=3) se.nd Ym)
   (bb (Kd PassesOwn.never rfl (Ld (Oe (pv 0) T.Jb T.Zd g13 hr T.Wd .nil Kc)) (ub (i:=4) se.nd) (gb (zn hu (pv 3) (pv 4) (qb g48 hr T.Bs T.Lh.kp T.js (ab (qb g22 hr T.Xn T.Eh.kp T.vo (ab (pv 1) (ab (pv 2) (ab (pv 4) fb)))) fb)) rfl)))
   (gb (Kd PassesOwn.never rfl (Ld (Oe (pv 0) T.Jb T.Zd g13 hr T.Wd .nil Kc)) (ub (i:=5) se.nd) (gb (Kd PassesOwn.never rfl (Ld (Oe (pv 0) T.Jb T.Zd g13 hr T.Wd .nil Kc)) (ub (i:=6) se.nd) (gb (Qd (PW.pt (tw (Rb zB (pv 5) (pv 6) (Zb _)) (Qp (bh (qb g49 hr T.mM T.IE.kp T.zM (ab (pv 0) (ab (pv 5) (ab (pv 6) fb)))))))) (gb (Wc (qb g50 hr T.rn T.Af.kp T.jn (ab (pv 0) (ab (pv 5) (ab (pv 6) (ab (wn hu (pv 3) (pv 5) (fun _ _=>rfl)) (ab (wn hu (pv 3) (pv 6) (fun _ _=>rfl)) fb)))))))) Xb)))))))),?_⟩
 walk_at "RD";intro pd hpd;obtain ⟨⟨hnd,hdl⟩,dx,wl,nd,e1,_,_⟩:=id C;have s0:Yb H (upd H pd (.dK [])):=lb hpd;refine ⟨_,_,s0 _ _ e1,cx _ _ _ (by decide +kernel),c,n,ds,rfl,C.same s0,fun pn hpn=>⟨pn,rfl,⟨_,SqL.of db⟩,?_⟩⟩;have hpp:pn ≠ pd:=fun e=>by subst e;rw [db] at hpn;cases hpn
 refine zi.list (xs:=bc (ds.map (·.name))) (fun i σ H'=>(∃ y,σ=[some (V.ref c),some (V.int z),some (V.ref p),some (V.ref pd),y,none,none])∧Yb H H'∧NoT H'∧H' pn=some (.lst (bc (ds.map (·.name))))∧NK H' pd ds (fun d=>.lst ((Qm z sp d.name).map V.int)) i) ?_ ?_ ?_ ?_
 ·exact ⟨⟨_,rfl⟩,s0.trans (lb hpn),(nt0.upd).upd,db,[],rfl,by rw [pb (Ne.symm hpp),db];simp [nkv],fun i r d h=>by simp at h⟩
 ·rintro i σ H' hi zzq;refine zzP fun zzM zzh=>?_
  obtain ⟨_,_,_,h,_⟩:=zzq;subst zzh;exact SqL.of h
 ·rintro i v σ H' hv zzq;refine zzP fun zzM zzh=>?_
  obtain ⟨⟨y,rfl⟩,sm,nt,hpn',rs,hrl,hpd',hrs⟩:=zzq;obtain ⟨x,hx,rfl⟩:=kc hv;obtain ⟨d,hd,rfl⟩:=kc hx;subst zzh;walk_at "RD";refine ⟨z,p,d.name,sp,rfl,hz,L.same sm,hs,fun r1 H1 s1 n1 hr1 h1=>⟨r1,_,rfl,h1,by rw [Hn];exact hz,fun r2 H2 s2 n2 hr2 h2=>?_⟩⟩;have s12:=s1.trans s2;have hp2:=s12 _ _ hpd';refine ⟨_,KB.k (k:=Sum.inr d.name) hp2 (Nat.lt_of_le_of_lt (show (nkv ds rs).length ≤ 12 by unfold nkv;rw [List.length_map,List.length_zip];omega) (by decide)),?_⟩;have hdi:ds[rs.length]? = some d:=by rw [hrl];exact hd
  rw [Dy hnd hdi];have hne:∀ {b:Addr} {ys:List V},H2 b=some (.lst ys)→b ≠ pd:=fun e=>Ge e hp2 (by intro z;cases z)
  refine ⟨⟨_,rfl⟩,fun b u e=>?_,(n2 (n1 nt)).upd,?_,rs ++ [r2],by rw [List.length_append,hrl];rfl,db,fun j r e hj he=>?_⟩
  ·rw [pb (xb e hpd)];exact s12 _ _ (sm _ _ e)
  ·rw [pb hpp];exact s12 _ _ hpn'
  ·rcases Bi hj with ⟨_,z2⟩ | ⟨z1,rfl⟩
   ·have:=s12 _ _ (hrs j r e z2 he);rw [pb (hne this)];exact this
   ·rw [z1] at he;rw [hdi] at he;cases he;rw [pb (hne h2)];exact h2
 rintro σ H1 zzq;refine zzP fun zzM zzh=>?_
 obtain ⟨⟨y,rfl⟩,sm1,nt1,hpn1,N1⟩:=zzq;have hsl:(bc (ds.map (·.name))).length=ds.length:=by unfold bc;simp
 subst zzh;rw [hsl] at N1;obtain ⟨rs,hrl,hpd1,hrs⟩:=N1;have C1:=C.same sm1;walk_at "RD";refine ⟨_,_,sm1 _ _ e1,cx _ _ _ (by decide +kernel),c,n,ds,rfl,C1,fun p2 hp2=>⟨p2,rfl,⟨_,SqL.of db⟩,?_⟩⟩;refine zi.list (xs:=bc (ds.map (·.name))) (fun i σ H'=>(∃ y u v,σ=[some (V.ref c),some (V.int z),some (V.ref p),some (V.ref pd),y,u,v])∧Yb H1 H'∧NoT H'∧H' p2=some (.lst (bc (ds.map (·.name))))) ?_ ?_ ?_ ?_
 ·exact ⟨⟨_,_,_,rfl⟩,lb hp2,nt1.upd,db⟩
 ·rintro i σ H' hi zzq;refine zzP fun zzM zzh=>?_
  obtain ⟨_,_,_,h⟩:=zzq;subst zzh;exact SqL.of h
 ·rintro i v σ H2 hv zzq;refine zzP fun zzM zzh=>?_
  obtain ⟨⟨y,u,v',rfl⟩,sm2,nt2,hpn2⟩:=zzq;obtain ⟨x,hx,rfl⟩:=kc hv;obtain ⟨d1,hd1,rfl⟩:=kc hx;obtain ⟨hi,hxi⟩:=List.getElem?_eq_some_iff.mp hd1;have hA:PD n z sp d1 ds=none:=List.findSome?_eq_none_iff.mp hN d1 (List.mem_of_getElem? hd1);have C2:=C1.same sm2;subst zzh;walk_at "RD";refine ⟨_,_,sm2 _ _ (sm1 _ _ e1),cx _ _ _ (by decide +kernel),c,n,ds,rfl,C2,fun p3 hp3=>⟨p3,rfl,⟨_,SqL.of db⟩,?_⟩⟩;refine zi.list (xs:=bc (ds.map (·.name))) (fun j σ H'=>(∃ y v,σ=[some (V.ref c),some (V.int z),some (V.ref p),some (V.ref pd),y,some (V.str d1.name),v])∧Yb H2 H'∧NoT H'∧H' p3=some (.lst (bc (ds.map (·.name))))) ?_ ?_ ?_ ?_
  ·exact ⟨⟨_,_,rfl⟩,lb hp3,nt2.upd,db⟩
  ·rintro i σ H' hi zzq;refine zzP fun zzM zzh=>?_
   obtain ⟨_,_,_,h⟩:=zzq;subst zzh;exact SqL.of h
  ·rintro j v σ H3 hv zzq;refine zzP fun zzM zzh=>?_
   obtain ⟨⟨y,v',rfl⟩,sm3,nt3,hpn3⟩:=zzq;obtain ⟨x,hx,rfl⟩:=kc hv;obtain ⟨d2,hd2,rfl⟩:=kc hx;obtain ⟨hj,hxj⟩:=List.getElem?_eq_some_iff.mp hd2;have hB:(Qt n z sp d1 d2).map (fun i=>(d1,d2,i))=none:=List.findSome?_eq_none_iff.mp hA d2 (List.mem_of_getElem? hd2);have hB:Qt n z sp d1 d2=none:=by simpa using hB
   have C3:=C2.same sm3;have sm13:=sm2.trans sm3;subst zzh;walk_at "RD";refine Vb (decide (d1.name ≠ d2.name) && mt n d1 d2) (fun Q hQ=>?_) (fun c1=>?_) (fun c1=>?_)
   ·walk_at "RD";by_cases c0:d1.name=d2.name
    ·rw [decide_eq_false (fun z=>z c0),Bool.false_and] at hQ;rw [if_neg (by simp [c0])];exact hQ
    ·rw [decide_eq_true c0,Bool.true_and] at hQ;rw [if_pos (by simp [c0])];exact ⟨c,n,ds,i,j,d1,d2,rfl,C3,hn,hd1,hd2,nt3,_,rfl,hQ⟩
   ·rw [Bool.and_eq_true] at c1;have c2:Qt n z sp d1 d2=(Rz (wI d1 d2) (Qm z sp d1.name) (Qm z sp d2.name)).map (·.2):=by
     unfold Qt;rw [if_pos ⟨of_decide_eq_true c1.1,c1.2⟩]
    rw [c2] at hB;have hB:Rz (wI d1 d2) (Qm z sp d1.name) (Qm z sp d2.name)=none:=by simpa using hB
    have hr1:rs[i]? = some rs[i]:=List.getElem?_eq_getElem (by omega);have hr2:rs[j]? = some rs[j]:=List.getElem?_eq_getElem (by omega);have g1:Rr H3 pd (.str d1.name) (some (.ref rs[i])):=by rw [← Px hnd hd1 hr1];exact Rr.k (k:=Sum.inr d1.name) (sm13 _ _ hpd1)
    have g2:Rr H3 pd (.str d2.name) (some (.ref rs[j])):=by rw [← Px hnd hd2 hr2];exact Rr.k (k:=Sum.inr d2.name) (sm13 _ _ hpd1)
    walk_at "RD";refine ⟨_,g1,_,g2,c,n,ds,d1,d2,_,_,_,_,rfl,C3,List.mem_of_getElem? hd1,List.mem_of_getElem? hd2,sm13 _ _ (hrs i _ _ hr1 hd1),sm13 _ _ (hrs j _ _ hr2 hd2),by rw [Dn,Dn],by rw [Dn];exact hz.2,hB,fun H4 s4 n4=>⟨(by first | exact ⟨_,_,rfl⟩ | exact ⟨_,rfl⟩ | simp),sm3.trans s4,n4 nt3,s4 _ _ hpn3⟩⟩
   ·exact ⟨⟨_,_,rfl⟩,sm3,nt3,hpn3⟩
  ·rintro σ H' zzq;refine zzP fun zzM zzh=>?_
   obtain ⟨⟨y,v',rfl⟩,sm3,nt3,_⟩:=zzq;subst zzh;exact ⟨⟨_,_,_,rfl⟩,sm2.trans sm3,nt3,sm3 _ _ hpn2⟩
 ·rintro σ H' zzq;refine zzP fun zzM zzh=>?_
  obtain ⟨_,sm,nt,_⟩:=zzq;subst zzh;exact q _ (sm1.trans sm) nt
end
end My
namespace My
open PySem L2
noncomputable abbrev dG:List Str:=[Str.ofString "crossing",Str.ofString "size",Str.ofString "spans",Str.ofString "lamps",Str.ofString "untils"]
noncomputable def plF (c:Addr) (z:Int) (p lm un:Addr):List (Str × V):=[(Str.ofString "crossing",.ref c),(Str.ofString "size",.int z),(Str.ofString "spans",.ref p),(Str.ofString "lamps",.ref lm),(Str.ofString "untils",.ref un)]
theorem ip (c:Addr) (z:Int) (p lm un:Addr):(plF c z p lm un).map (·.1)=dG:=rfl
noncomputable def xn (z:Nat) (sp:List SD) (d:WD):List Str:=Rh z (zc d).toNat (me d).toNat (ofN d.name sp)
noncomputable def NI (z:Nat) (sp:List SD) (x:Str):List Int:=Dm (fmF z (ofN x sp))
structure rj (t:Adr) (H:Hp) (a c:Addr) (n:Int) (ds:List WD) (z:Nat) (sp:List SD):Prop where
 at_:∃ dx p lm un,H a=some (.ins t.pe dx (plF c z p lm un))∧ad t H c n ds∧LO H p (List.map sdO sp)∧NK H lm ds (fun d=>.lst (bc (xn z sp d))) ds.length∧NK H un ds (fun d=>.lst ((NI z sp d.name).map V.int)) ds.length
noncomputable def QI (t:Adr):Sp:=fun vs H Q _=>∃ (a dx c:Addr) (n:Int) (ds:List WD) (z:Nat) (p:Addr) (sp:List SD),vs=[.ref a,.ref c,.int z,.ref p]∧H a=some (.ins t.pe dx [])∧ad t H c n ds∧DOk ds∧(0 < z∧z ≤ 1000)∧LO H p (List.map sdO sp)∧JJ z sp∧NoT H ∧
 ∀ H',Fd a H H'→NoT H'→rj t H' a c n ds z sp→Q .non H'
noncomputable def Wz (t:Adr):Sp:=fun vs H Q _=>∃ (c:Addr) (n:Int) (ds:List WD) (z:Nat) (p:Addr) (sp:List SD),vs=[.ref c,.int z,.ref p]∧ad t H c n ds∧0 < n∧DOk ds∧(0 < z∧z ≤ 1000)∧LO H p (List.map sdO sp)∧JJ z sp∧(∀ s ∈ sp,∃ d,wOf ds s.name=some d)∧NoT H∧ax ds sp=none∧Xv ds z sp=none∧Gw n z sp ds=none ∧
 ∀ a H',Yb H H'→NoT H'→rj t H' a c n ds z sp→Q (.ref a) H'
section
variable {w:World} {K:PySem.W.Frag} {mg:Str→Option Value} {t:Adr} {H:Hp} {a c dx p lm un:Addr} {z:Int}
theorem Dz (T:Txt w K mg t) (e:H a=some (.ins t.pe dx (plF c z p lm un))):oj K H a (Str.ofString "lamps") (.ref lm):=⟨_,dx,_,e,T.Ui,T.Wm,Sd dG 3 (ip ..) (by decide +kernel) rfl⟩
theorem iF (T:Txt w K mg t) (e:H a=some (.ins t.pe dx (plF c z p lm un))):oj K H a (Str.ofString "untils") (.ref un):=⟨_,dx,_,e,T.Ui,T.Rk,Sd dG 4 (ip ..) (by decide +kernel) rfl⟩
end
theorem NF {H:Hp} {a b C C' dx dx':Addr} {fs:List (Str × V)} (ha:H a=some (.ins C dx [])) (hb:H b=some (.ins C' dx' fs)) (hf:fs ≠ []):b ≠ a:=fun z=>by
 subst z;rw [hb] at ha;have e:=Option.some.inj ha;injection e with _ _ e3;exact hf e3
theorem ad.sameX {t:Adr} {H H':Hp} {a c C dx:Addr} {n:Int} {ds:List WD} (h:ad t H c n ds) (s:Fd a H H') (ha:H a=some (.ins C dx [])):ad t H' c n ds:=by
 obtain ⟨h0,dx',wl,nd,e1,⟨as,w1,w2,al⟩,e3⟩:=h;refine ⟨h0,dx',wl,nd,s _ _ (NF ha e1 (by unfold cF;simp)) e1,⟨as,s _ _ (Ge w1 ha (by intro z;cases z)) w1,w2,fun i b d hb hd=>?_⟩,s _ _ (Ge e3 ha (by intro z;cases z)) e3⟩;obtain ⟨k,dxb,eb⟩:=al i b d hb hd;exact ⟨k,dxb,s _ _ (NF ha eb (by unfold Po;simp)) eb⟩
theorem LO.sameX {H H':Hp} {a p C dx:Addr} {sp:List SD} (h:LO H p (List.map sdO sp)) (s:Fd a H H') (ha:H a=some (.ins C dx [])):LO H' p (List.map sdO sp):=by
 obtain ⟨qs,l1,l2⟩:=h;refine ⟨qs,s _ _ (Ge l1 ha (by intro z;cases z)) l1,l2.1,fun i q o hq ho=>?_⟩;have e:=l2.2 i q o hq ho;refine s _ _ (Ge e ha ?_) e;obtain ⟨d,_,rfl⟩:=kc ho;intro z;cases z
section
variable {P:Program} {w:World} {K:PySem.W.Frag} {mg:Str→Option Value} {base:Heap} {t:Adr}
theorem MM (T:Txt w K mg t):Eb P w K mg base CX0 4 t.Tg t.Si q47 (QI t):=by
 have g51:Eb P w K mg base CX0 3 t.lA t.CA q38 (UF t):=(FK T).mono (by decide);have g21:Eb P w K mg base CX0 3 t.Ke t.Je ["marks"] Ov:=(Vz T).mono (by decide);have g22:Eb P w K mg base CX0 3 t.dg t.lg q28 MK:=(JL T).mono (by decide);have g13:Eb P w K mg base CX0 3 t.Nc t.kd ["self"] (Xo t):=(Ou T).mono (by decide);have g9:Eb P w K mg base CX0 3 t.Fb t.Kb q8 (Le t):=(jf T).mono (by decide);refine T.Fq.ok fj (fun vs H Q E h=>?_) (fun _ _ _ s H vs Q E hr h=>?_)
 ·obtain ⟨a,dx,c,n,ds,z,p,sp,rfl,_⟩:=h;rfl
 obtain ⟨a,dx,c,n,ds,z,p,sp,rfl,ha,C,hD,hz,L,hs,nt0,q⟩:=h;have hu:=Rw hr;refine ⟨_,(bb (vf (pv 0) (pv 1) rfl)
   (bb (vf (pv 0) (pv 2) rfl)
   (bb (vf (pv 0) (pv 3) rfl)
   (bb (vf (pv 0) Ym rfl)
   (bb (vf (pv 0) Ym rfl)
   (gb (Kd PassesOwn.never rfl (Ld (Oe (pv 1) T.Jb T.Zd g13 hr T.Wd .nil Kc)) (ub (i:=4) fj.nd) (bb (zn hu (fc (pv 0) rfl) (pv 4) (qb g51 hr T.ZM T.LF.kp T.BM (ab (bd (pv 1) T.Jb T.Pb g9 hr T.Qb .nil Kc (ab (pv 4) fb)) (ab (pv 2) (ab (pv 3) fb)))) rfl)
   (gb (zn hu (fc (pv 0) rfl) (pv 4) (qb g21 hr T.Jl T.Wf.kp T.ol (ab (qb g22 hr T.Xn T.Eh.kp T.vo (ab (pv 2) (ab (pv 3) (ab (pv 4) fb)))) fb)) rfl)))))))))),?_⟩
 walk_at "RD";refine ⟨_,_,_,ha,T.Ui,T.gj,by decide,?_⟩;refine ⟨_,_,_,db,T.Ui,T.qo,bn (n:=999) (by decide),?_⟩;refine ⟨_,_,_,db,T.Ui,T.Au,bn (n:=999) (bn (n:=998) (by decide)),fun lm hlm=>?_⟩;simp only [gq] at hlm ⊢;rw [show Yh (Str.ofString "crossing") (V.ref c) ([]:List (Str × V))=[(Str.ofString "crossing",V.ref c)] from rfl,show Yh (Str.ofString "size") (V.int z) [(Str.ofString "crossing",V.ref c)]=[(Str.ofString "crossing",V.ref c),(Str.ofString "size",V.int z)] from ld [Str.ofString "crossing"] rfl (by decide +kernel),show Yh (Str.ofString "spans") (V.ref p) [(Str.ofString "crossing",V.ref c),(Str.ofString "size",V.int z)]=[(Str.ofString "crossing",V.ref c),(Str.ofString "size",V.int z),(Str.ofString "spans",V.ref p)] from ld [Str.ofString "crossing",Str.ofString "size"] rfl (by decide +kernel)] at hlm ⊢;have hla:a ≠ lm:=fun z=>by subst z;rw [db] at hlm;cases hlm
 have hHl:H lm=none:=by rw [pb (Ne.symm hla)] at hlm;exact hlm
 refine ⟨t.pe,dx,[(Str.ofString "crossing",V.ref c),(Str.ofString "size",V.int z),(Str.ofString "spans",V.ref p)],by rw [pb hla];exact db,T.Ui,T.Wm,show (3:Nat) < 1000 by decide,fun un hun=>?_⟩;rw [show Yh (Str.ofString "lamps") (V.ref lm) [(Str.ofString "crossing",V.ref c),(Str.ofString "size",V.int z),(Str.ofString "spans",V.ref p)]=[(Str.ofString "crossing",V.ref c),(Str.ofString "size",V.int z),(Str.ofString "spans",V.ref p),(Str.ofString "lamps",V.ref lm)] from ld [Str.ofString "crossing",Str.ofString "size",Str.ofString "spans"] rfl (by decide +kernel)] at hun ⊢;have hua:a ≠ un:=fun z=>by subst z;rw [db] at hun;cases hun
 have hul:un ≠ lm:=fun z=>by subst z;rw [pb (Ne.symm hua),db] at hun;cases hun
 have hHu:H un=none:=by rw [pb (Ne.symm hua),pb hul,pb (Ne.symm hua)] at hun;exact hun
 refine ⟨t.pe,dx,[(Str.ofString "crossing",V.ref c),(Str.ofString "size",V.int z),(Str.ofString "spans",V.ref p),(Str.ofString "lamps",V.ref lm)],by rw [pb hua];exact db,T.Ui,T.Rk,show (4:Nat) < 1000 by decide,?_⟩;rw [show Yh (Str.ofString "untils") (V.ref un) [(Str.ofString "crossing",V.ref c),(Str.ofString "size",V.int z),(Str.ofString "spans",V.ref p),(Str.ofString "lamps",V.ref lm)]=plF c z p lm un from ld [Str.ofString "crossing",Str.ofString "size",Str.ofString "spans",Str.ofString "lamps"] rfl (by decide +kernel)];have hf:∃ H5:Hp,H5=upd (upd (upd (upd (upd H a (.ins t.pe dx [(Str.ofString "crossing",V.ref c),(Str.ofString "size",V.int z),(Str.ofString "spans",V.ref p)])) lm (.dK [])) a (.ins t.pe dx [(Str.ofString "crossing",V.ref c),(Str.ofString "size",V.int z),(Str.ofString "spans",V.ref p),(Str.ofString "lamps",V.ref lm)])) un (.dK [])) a (.ins t.pe dx (plF c z p lm un)):=⟨_,rfl⟩;obtain ⟨H5,h5⟩:=hf;rw [← h5];have g1:H5 a=some (.ins t.pe dx (plF c z p lm un)):=by rw [h5,db]
 have g2:H5 lm=some (.dK []):=by rw [h5,pb (Ne.symm hla),pb (Ne.symm hul),pb (Ne.symm hla),db]
 have g3:H5 un=some (.dK []):=by rw [h5,pb (Ne.symm hua),db]
 have g4:Fd a H H5:=fun b u hb e=>by rw [h5,pb hb,pb (xb e hHu),pb hb,pb (xb e hHl),pb hb];exact e
 have g5:NoT H5:=by rw [h5];exact ((((nt0.upd).upd).upd).upd).upd
 clear h5;have C5:=C.sameX g4 ha;obtain ⟨⟨hnd,hdl⟩,dxc,wl,nd,e1,_,_⟩:=id C5;refine ⟨_,_,e1,cx _ _ _ (by decide +kernel),c,n,ds,rfl,C5,fun pn hpn=>⟨pn,rfl,⟨_,SqL.of db⟩,?_⟩⟩;refine zi.list (xs:=bc (ds.map (·.name))) (fun i σ H'=>(∃ y,σ=[some (V.ref a),some (V.ref c),some (V.int z),some (V.ref p),y])∧Fd a H H'∧NoT H'∧H' a=some (.ins t.pe dx (plF c z p lm un))∧H' pn=some (.lst (bc (ds.map (·.name))))∧NK H' lm ds (fun d=>.lst (bc (xn z sp d))) i∧NK H' un ds (fun d=>.lst ((NI z sp d.name).map V.int)) i) ?_ ?_ ?_ ?_
 ·have sn:=lb (o:=.lst (bc (ds.map (·.name)))) hpn;exact ⟨⟨_,rfl⟩,g4.trans (Fd.of sn),g5.upd,sn _ _ g1,db,⟨[],rfl,by rw [sn _ _ g2];simp [nkv],fun i r d h=>by simp at h⟩,⟨[],rfl,by rw [sn _ _ g3];simp [nkv],fun i r d h=>by simp at h⟩⟩
 ·rintro i σ H' hi zzq;refine zzP fun zzM zzh=>?_
  obtain ⟨_,_,_,_,h,_⟩:=zzq;subst zzh;exact SqL.of h
 ·rintro i v σ H' hv zzq;refine zzP fun zzM zzh=>?_
  obtain ⟨⟨y,rfl⟩,sx,nt,ha',hpn',⟨rl,hrl,hlm',hrs⟩,⟨ru,hru,hun',hus⟩⟩:=zzq;obtain ⟨x,hx,rfl⟩:=kc hv;obtain ⟨d,hd,rfl⟩:=kc hx;have C':=C.sameX sx ha;have L':=L.sameX sx ha;obtain ⟨_,dxc',wl',nd',e1',_,_⟩:=id C';subst zzh;walk_at "RD";refine ⟨_,_,e1',cx _ _ _ (by decide +kernel),c,n,ds,i,d,rfl,C',hd,fun wa W=>?_⟩;have hdi:ds[rl.length]? = some d:=by rw [hrl];exact hd
  have hdj:ds[ru.length]? = some d:=by rw [hru];exact hd
  refine ⟨wa,d,z,p,sp,rfl,hz,W,L',hs,hD d (List.mem_of_getElem? hd),fun r1 H1 s1 n1 hr1 h1=>⟨_,Dz T (s1 _ _ ha'),lm,rfl,_,KB.k (k:=Sum.inr d.name) (s1 _ _ hlm') (Nat.lt_of_le_of_lt (show (nkv ds rl).length ≤ 12 by unfold nkv;rw [List.length_map,List.length_zip];omega) (by decide)),?_⟩⟩;rw [Dy hnd hdi];have kl:∀ {b:Addr} {u:HO},H' b=some u→b ≠ lm→upd H1 lm (.dK (nkv ds (rl ++ [r1]))) b=some u:=fun e h=>by rw [pb h];exact s1 _ _ e
  have k1:Fd a H (upd H1 lm (.dK (nkv ds (rl ++ [r1])))):=fun b u hb e=>kl (sx b u hb e) (xb e hHl)
  refine ⟨z,p,d.name,sp,rfl,hz,L.sameX k1 ha,hs,fun r3 H3 s3 n3 hr3 h3=>⟨r3,_,rfl,h3,by rw [Hn];exact hz,fun r4 H4 s4 n4 hr4 h4=>?_⟩⟩;have s34:=s3.trans s4;have un2:H4 un=some (.dK (nkv ds ru)):=s34 _ _ (kl hun' hul);have a2:H4 a=some (.ins t.pe dx (plF c z p lm un)):=s34 _ _ (kl ha' hla);refine ⟨_,iF T a2,un,rfl,_,KB.k (k:=Sum.inr d.name) un2 (Nat.lt_of_le_of_lt (show (nkv ds ru).length ≤ 12 by unfold nkv;rw [List.length_map,List.length_zip];omega) (by decide)),?_⟩;rw [Dy hnd hdj];have ku:∀ {b:Addr} {u:HO},upd H1 lm (.dK (nkv ds (rl ++ [r1]))) b=some u→b ≠ un→upd H4 un (.dK (nkv ds (ru ++ [r4]))) b=some u:=fun e h=>by rw [pb h];exact s34 _ _ e
  have nel:∀ {b:Addr} {ys:List V},H' b=some (.lst ys)→b ≠ lm:=fun e=>Ge e hlm' (by intro z;cases z)
  have neu:∀ {b:Addr} {ys:List V},H' b=some (.lst ys)→b ≠ un:=fun e=>Ge e hun' (by intro z;cases z)
  have r1l:r1 ≠ lm:=Ge h1 (s1 _ _ hlm') (by intro z;cases z);have r1u:r1 ≠ un:=Ge h1 (s1 _ _ hun') (by intro z;cases z);have r4u:r4 ≠ un:=Ge h4 un2 (by intro z;cases z);refine ⟨⟨_,rfl⟩,fun b u hb e=>ku (k1 b u hb e) (xb e hHu),(n4 (n3 (n1 nt).upd)).upd,ku (kl ha' hla) hua,ku (kl hpn' (nel hpn')) (neu hpn'),⟨rl ++ [r1],by rw [List.length_append,hrl];rfl,ku db (Ne.symm hul),fun j r e hj he=>?_⟩,⟨ru ++ [r4],by rw [List.length_append,hru];rfl,db,fun j r e hj he=>?_⟩⟩
  ·rcases Bi hj with ⟨_,z2⟩ | ⟨z1,rfl⟩
   ·have:=hrs j r e z2 he;exact ku (kl this (nel this)) (neu this)
   ·rw [z1,hdi] at he;cases he;exact ku (by rw [pb r1l];exact h1) r1u
  ·rcases Bi hj with ⟨_,z2⟩ | ⟨z1,rfl⟩
   ·have:=hus j r e z2 he;exact ku (kl this (nel this)) (neu this)
   ·rw [z1,hdj] at he;cases he;rw [pb r4u];exact h4
 ·rintro σ H' zzq;refine zzP fun zzM zzh=>?_
  obtain ⟨_,sx,nt,ha',_,N1,N2⟩:=zzq;have hsl:(bc (ds.map (·.name))).length=ds.length:=by unfold bc;simp
  subst zzh;rw [hsl] at N1 N2;exact q _ sx nt ⟨dx,p,lm,un,ha',C.sameX sx ha,L.sameX sx ha,N1,N2⟩
theorem QG (T:Txt w K mg t):Eb P w K mg base CX0 6 t.Ni t.Ji q42 (Wz t):=by
 have g9:Eb P w K mg base CX0 5 t.Fb t.Kb q8 (Le t):=(jf T).mono (by decide);have g52:Eb P w K mg base CX0 4 t.Tg t.Si q47 (QI t):=MM T;have g53:Eb P w K mg base CX0 5 t.Sf t.Qf q39 (fw t):=(tE T).mono (by decide);have g54:Eb P w K mg base CX0 5 t.Hf t.Rf q16 (Uw t):=(iG T).mono (by decide);have g55:Eb P w K mg base CX0 5 t.Vf t.Uf q16 (ox t):=qD T;refine T.dm.ok jg (fun vs H Q E h=>?_) (fun _ _ _ s H vs Q E hr h=>?_)
 ·obtain ⟨c,n,ds,z,p,sp,rfl,_⟩:=h;rfl
 obtain ⟨c,n,ds,z,p,sp,rfl,C,hn,hD,hz,L,hs,hw,nt0,hN,hS,hC,q1⟩:=h;refine ⟨_,(bb (Jg (i:=3) jg.nd rfl (Or.inl rfl) rfl (Ld (pv 2)) (Yc (sc:=ib Nl) rfl (by decide +kernel)) (N:=q49) (sel:=[none,none,none]) (Nd (M:=["crossing","size","rows","spans","name","begin","turns"]) (by decide +kernel)) (Blk.of (fun _ _ _ _=>(Qe (K:=K) (n:=3) rfl rfl (Lb (ub (i:=0) (kh (N:=q49) (by decide +kernel) rfl)) (Lb (ub (i:=1) (kh (N:=q49) (by decide +kernel) rfl)) (Lb (ub (i:=2) (kh (N:=q49) (by decide +kernel) rfl)) Re))))) (fun _ _ _ _=>⟨_,ug,by walk_at "B"⟩) (fun _ _ _ _=>⟨_,(Bo (ab (pv 0) (ab (pv 1) (ab (pv 2) fb)))),by walk_at "B"⟩)) rfl)
   (bb (Kd PassesOwn.never rfl (Ld (pv 3)) (Qe (K:=K) (n:=3) rfl rfl (Lb (ub (i:=4) jg.nd) (Lb (ub (i:=5) jg.nd) (Lb (ub (i:=6) jg.nd) Re)))) (gb (Wc (bd (pv 0) T.Jb T.Pb g9 hr T.Qb .nil Kc (ab (pv 4) fb)))))
   (bb (Wc (qb g53 hr T.Qr T.Nh.kp T.Vr (ab (pv 0) (ab (pv 3) fb))))
   (bb (Wc (qb g54 hr T.Ss T.Xh.kp T.Ms (ab (pv 0) (ab (pv 1) (ab (pv 3) fb)))))
   (bb (Wc (qb g55 hr T.Ls T.Mh.kp T.Dr (ab (pv 0) (ab (pv 1) (ab (pv 3) fb)))))
   (gb (Cb (gn T.VM g52 hr rfl T.BL T.Vx .nil Kc (ab (pv 0) (ab (pv 1) (ab (pv 3) fb))))))))))),?_⟩
 walk_at "RD";obtain ⟨qs,l1,lq⟩:=L;have hql:qs.length=sp.length:=by rw [lq.1,List.length_map]
 have hs1:=hs.1;refine ⟨⟨_,SqL.of l1⟩,?_⟩;refine ud.list (xs:=qs.map V.ref) (fun i ys H'=>∃ os:List Addr,ys=os.map V.ref∧LQ H' os ((sp.take i).map sdO)∧Yb H H'∧NoT H') (Nat.le_trans (show (qs.map V.ref).length ≤ 100 by rw [List.length_map];omega) (by decide)) ⟨[],rfl,by rw [List.take_zero];exact LQ.nil _,Yb.refl _,nt0⟩ ?_ ?_ ?_
 ·rintro i ys H' hi zzq;refine zzP fun zzM zzh=>?_
  obtain ⟨os,rfl,r,sm,_⟩:=zzq;subst zzh;refine ⟨(SqL.of l1).same sm,?_⟩;rw [List.length_map,r.1,List.length_map,List.length_take];omega
 ·rintro i v ys H' hv ⟨os,rfl,r,sm,nt⟩ N hN;obtain ⟨qi,hqi,rfl⟩:=kc hv;obtain ⟨o,ho,e⟩:=lq.at hqi;obtain ⟨d,hd,rfl⟩:=kc ho;have e':=sm _ _ e;dsimp only at hN;rw [fh hd,List.map_append] at hN;walk_at "RD";refine ⟨_,SqT.of e',rfl,_,_,rfl,_,_,rfl,_,_,rfl,rfl,Sub.name3,by decide,fun p1 hp1=>?_⟩;exact hN _ _ ⟨os ++ [p1],by rw [List.map_append];rfl,(r.same (lb hp1)).app (LQ.one db),sm.trans (lb hp1),nt.upd⟩
 rintro ys H1 ⟨os,rfl,r,sm1,nt1⟩ p1 hp1;rw [List.take_of_length_le (by rw [List.length_map];omega)] at r;have s2:Yb H1 (upd H1 p1 (.lst (os.map V.ref))):=lb hp1;have nt2:NoT (upd H1 p1 (.lst (os.map V.ref))):=nt1.upd;have L2:LO (upd H1 p1 (.lst (os.map V.ref))) p1 (List.map sdO sp):=⟨os,db,r.same s2⟩;have sm2:=sm1.trans s2;generalize upd H1 p1 (.lst (os.map V.ref))=H2 at s2 nt2 L2 sm2 ⊢;have C2:=C.same sm2;obtain ⟨_,dxc,wl,nd,e1,_,_⟩:=id C2;obtain ⟨qs2,m1,mq⟩:=id L2;have hql2:qs2.length=sp.length:=by rw [mq.1,List.length_map]
 walk_at "RD";refine ⟨⟨_,SqL.of m1⟩,?_⟩;refine zi.list (xs:=qs2.map V.ref) (fun i σ H'=>(∃ x y z',σ=[some (V.ref c),some (V.int z),some (V.ref p),some (V.ref p1),x,y,z'])∧H'=H2) ?_ ?_ ?_ ?_
 ·exact ⟨⟨_,_,_,rfl⟩,rfl⟩
 ·rintro i σ H' hi ⟨_,rfl⟩;exact SqL.of m1
 ·rintro i v σ H' hv zzq;refine zzP fun zzM zzh=>?_
  obtain ⟨⟨x,y,z',rfl⟩,rfl⟩:=zzq;obtain ⟨qi,hqi,rfl⟩:=kc hv;obtain ⟨o,ho,e⟩:=mq.at hqi;obtain ⟨sd,hsd,rfl⟩:=kc ho;obtain ⟨d,hd⟩:=hw sd (List.mem_of_getElem? hsd);obtain ⟨hdn,j,hj⟩:=bJ hd;subst zzh;walk_at "RD";exact ⟨_,SqT.of e,rfl,_,_,rfl,_,_,rfl,_,_,rfl,rfl,_,_,e1,cx _ _ _ (by decide +kernel),c,n,ds,j,d,by rw [hdn],C2,hj,fun a W=>⟨(by first | exact ⟨_,_,_,rfl⟩ | exact ⟨_,_,rfl⟩ | exact ⟨_,rfl⟩ | simp),rfl⟩⟩
 rintro σ H' zzq;refine zzP fun zzM zzh=>?_
 obtain ⟨⟨x,y,z',rfl⟩,rfl⟩:=zzq;subst zzh;walk_at "RD";refine ⟨c,n,ds,p1,sp,rfl,C2,L2,hs1,hN,fun H3 s3 n3=>?_⟩;have nt3:=n3 nt2;have C3:=C2.same s3;have L3:=L2.same s3;walk_at "RD";refine ⟨c,n,ds,z,p1,sp,rfl,C3,hD,⟨by omega,by omega⟩,L3,hs,hw,hS,fun H4 s4 n4=>?_⟩;have nt4:=n4 nt3;have C4:=C3.same s4;have L4:=L3.same s4;walk_at "RD";refine ⟨c,n,ds,z,p1,sp,rfl,C4,hn,hz,L4,hs,nt4,hC,fun H5 s5 nt5=>?_⟩;have C5:=C4.same s5;have L5:=L4.same s5;walk_at "RD";intro a dx ha hdx hne;have sc:Yb H5 (upd (upd H5 dx (.own a)) a (.ins t.pe dx [])):=((Yb.refl H5).updN hdx).updN ha;refine ⟨a,dx,c,n,ds,z,p1,sp,rfl,db,C5.same sc,hD,hz,L5.same sc,hs,(nt5.upd).upd,fun H6 s6 nt6 PA=>⟨rfl,?_⟩⟩;have sm5:=((sm2.trans s3).trans s4).trans s5;exact q1 a H6 (Te (sm5.trans sc) s6 (sm5.free ha)) nt6 PA
end
end My
namespace My
open PySem L2
theorem Yo {α:Type} (z:Nat) (v:α) (b:Int) (hz:0 < z) (l:List α) (hl:l.length=z):∀ (k:Nat) (i:Nat),i < z→(zA z v b k l)[i]? = if ∃ j,j < k∧(b + (j:Int)) % (z:Int)=(i:Int) then some v else l[i]?
 | 0,i,hi=>by rw [if_neg (fun ⟨j,hj,_⟩=>by omega)];rfl
 | k + 1,i,hi=>by
  have ih:=Yo z v b hz l hl k i hi;have h0:=Int.emod_nonneg (b + (k:Int)) (show (z:Int) ≠ 0 by omega);have h1:=Int.emod_lt_of_pos (b + (k:Int)) (show 0 < (z:Int) by omega);unfold zA tI;by_cases c:(b + (k:Int)) % (z:Int)=(i:Int)
  ·rw [show ((b + (k:Int)) % (z:Int)).toNat=i by omega,List.getElem?_set_self (by rw [ff,hl];exact hi),if_pos ⟨k,by omega,c⟩]
  ·rw [List.getElem?_set_ne (by omega),ih];by_cases e:∃ j,j < k∧(b + (j:Int)) % (z:Int)=(i:Int)
   ·obtain ⟨j,hj,ej⟩:=e;rw [if_pos ⟨j,hj,ej⟩,if_pos ⟨j,by omega,ej⟩]
   ·rw [if_neg e,if_neg];rintro ⟨j,hj,ej⟩;by_cases hjk:j=k
    ·subst hjk;exact c ej
    ·exact e ⟨j,by omega,ej⟩
theorem jv {z b i:Int} {n:Int} (hz:0 < z) (hi:0 ≤ i∧i < z) (hn:0 ≤ n∧n ≤ z):(∃ j:Nat,j < n.toNat∧(b + (j:Int)) % z=i)↔(i - b) % z < n:=by
 have h0:=Int.emod_nonneg (i - b) (show z ≠ 0 by omega);have h1:=Int.emod_lt_of_pos (i - b) hz;constructor
 ·rintro ⟨j,hj,e⟩;have:(i - b) % z=j:=by
   rw [← e,Int.emod_sub_emod,show b + (j:Int) - b=j by omega];exact Int.emod_eq_of_lt (by omega) (by omega)
  omega
 ·intro h;refine ⟨((i - b) % z).toNat,by omega,?_⟩;rw [Int.toNat_of_nonneg h0,Int.add_emod_emod,show b + (i - b)=i by omega];exact Int.emod_eq_of_lt hi.1 hi.2
theorem EI {z:Nat} (hz:0 < z) {b n:Int} (hn:0 ≤ n∧n ≤ z) {i:Nat} (hi:i < z):(fmF z [(b,n)])[i]? = some (decide (((i:Int) - b) % (z:Int) < n)):=by
 unfold fmF;rw [List.foldl_cons,List.foldl_nil,Yo z true b hz _ (List.length_replicate ..) _ _ hi];have:=jv (z:=z) (b:=b) (i:=i) (n:=n) (by omega) ⟨by omega,by omega⟩ hn;by_cases c:((i:Int) - b) % (z:Int) < n
 ·rw [if_pos (this.mpr c),decide_eq_true c]
 ·rw [if_neg (fun e=>c (this.mp e)),decide_eq_false c,List.getElem?_replicate,if_pos hi]
theorem Wi (m:List Bool):∀ k,0 ≤ Xe m k
 | 0=>by show (0:Int) ≤ 0;decide
 | k + 1=>by
  have:=Wi m k;unfold Xe;split <;> omega
theorem gw (m:List Bool) (g:Int) (hg:0 ≤ g):∀ k:Nat,Xe m k ≤ g↔(∃ j:Nat,(j:Int) ≤ g∧j < k∧m[(2 * m.length - 1 - (k - 1 - j)) % m.length]? = some true)∨(k:Int) ≤ g
 | 0=>by
  constructor
  ·intro _;exact .inr (by omega)
  ·intro _;exact hg
 | k + 1=>by
  by_cases c:m[(2 * m.length - 1 - k) % m.length]? = some true
  ·have e:Xe m (k + 1)=0:=by unfold Xe;rw [if_pos c]
   rw [e];exact ⟨fun _=>.inl ⟨0,by omega,by omega,by rw [show k + 1 - 1 - 0=k by omega];exact c⟩,fun _=>hg⟩
  ·have e:Xe m (k + 1)=Xe m k + 1:=by
    show (if m[(2 * m.length - 1 - k) % m.length]? = some true then 0 else Xe m k + 1)=_;rw [if_neg c]
   rw [e];by_cases hg1:1 ≤ g
   ·have ih:=gw m (g - 1) (by omega) k;constructor
    ·intro h;rcases ih.mp (by omega) with ⟨j,h1,h2,h3⟩ | h
     ·exact .inl ⟨j + 1,by omega,by omega,by rw [show k + 1 - 1 - (j + 1)=k - 1 - j by omega];exact h3⟩
     ·exact .inr (by omega)
    ·rintro (⟨j,h1,h2,h3⟩ | h)
     ·by_cases hj:j=0
      ·subst hj;rw [show k + 1 - 1 - 0=k by omega] at h3;exact absurd h3 c
      ·have:=ih.mpr (.inl ⟨j - 1,by omega,by omega,by rw [show k - 1 - (j - 1)=k + 1 - 1 - j by omega];exact h3⟩);omega
     ·have:=ih.mpr (.inr (by omega));omega
   ·have:=Wi m k;constructor
    ·intro h;omega
    ·rintro (⟨j,h1,h2,h3⟩ | h)
     ·have hj:j=0:=by omega
      subst hj;rw [show k + 1 - 1 - 0=k by omega] at h3;exact absurd h3 c
     ·omega
theorem IH {m:List Bool} {t:Nat} (ht:t < m.length):(Dm m)[t]? = some (Xe m (2 * m.length - t)):=by
 unfold Dm;rw [List.getElem?_map,List.getElem?_range ht];rfl
theorem oH {m:List Bool} (hm:∃ i,i < m.length∧m[i]? = some true) {t:Nat} (ht:t < m.length) (g:Int) (hg:0 ≤ g):Xe m (2 * m.length - t) ≤ g↔∃ j:Nat,(j:Int) ≤ g∧m[(t + j) % m.length]? = some true:=by
 have pos:∀ j,j < 2 * m.length - t→(2 * m.length - 1 - (2 * m.length - t - 1 - j))=t + j:=fun j hj=>by omega
 rw [gw m g hg];constructor
 ·rintro (⟨j,h1,h2,h3⟩ | h)
  ·rw [pos j h2] at h3;exact ⟨j,h1,h3⟩
  ·obtain ⟨i,hi,e⟩:=hm;refine ⟨(i + m.length - t) % m.length,?_,?_⟩
   ·have:=Nat.mod_lt (i + m.length - t) (show 0 < m.length by omega);omega
   ·rw [Nat.add_mod_mod,show t + (i + m.length - t)=i + m.length by omega,Nat.add_mod_right,Nat.mod_eq_of_lt hi];exact e
 ·rintro ⟨j,h1,h2⟩;have hj:=Nat.mod_lt j (show 0 < m.length by omega);have hle:=Nat.mod_le j m.length;refine .inl ⟨j % m.length,by omega,by omega,?_⟩;rw [pos _ (by omega),Nat.add_mod_mod];exact h2
theorem sJ {m:List Bool} (hm:∃ i,i < m.length∧m[i]? = some true):∃ i,i < m.reverse.length∧m.reverse[i]? = some true:=by
 obtain ⟨i,hi,e⟩:=hm;refine ⟨m.length - 1 - i,by rw [List.length_reverse];omega,?_⟩;rw [List.getElem?_reverse (by omega),show m.length - 1 - (m.length - 1 - i)=i by omega];exact e
theorem UH {m:List Bool} {t:Nat} (ht:t < m.length):∃ v,(yt m)[t]? = some v∧0 ≤ v∧((∃ i,i < m.length∧m[i]? = some true)→∀ g:Int,0 ≤ g→(v ≤ g↔∃ j:Nat,(j:Int) ≤ g∧m[(((t:Int) - (j:Int)) % (m.length:Int)).toNat]? = some true)):=by
 have hr:m.reverse.length=m.length:=List.length_reverse;have h1:m.length - 1 - t < m.reverse.length:=by omega
 refine ⟨Xe m.reverse (2 * m.reverse.length - (m.length - 1 - t)),?_,Wi _ _,fun hm g hg=>?_⟩
 ·unfold yt;rw [List.getElem?_reverse (by rw [Cn];omega),Cn,hr];have:=IH h1;rw [hr] at this;exact this
 ·rw [oH (sJ hm) h1 g hg];have key:∀ j:Nat,m.reverse[(m.length - 1 - t + j) % m.reverse.length]? = m[(((t:Int) - (j:Int)) % (m.length:Int)).toNat]?:=fun j=>by
   rw [hr];have hlt:=Nat.mod_lt (m.length - 1 - t + j) (show 0 < m.length by omega);rw [List.getElem?_reverse (by omega)];congr 1;have h0:=Int.emod_nonneg ((t:Int) - (j:Int)) (show (m.length:Int) ≠ 0 by omega);have e:((t:Int) - (j:Int)) % (m.length:Int)=((m.length - 1 - (m.length - 1 - t + j) % m.length:Nat):Int):=by
    have d:=Nat.div_add_mod (m.length - 1 - t + j) m.length;generalize (m.length - 1 - t + j) / m.length=q at d;generalize (m.length - 1 - t + j) % m.length=r at d hlt ⊢;have e2:(t:Int) - (j:Int)=((m.length - 1 - r:Nat):Int) + (m.length:Int) * (-(q:Int)):=by
     have d':(m.length:Int) * (q:Int) + (r:Int)=((m.length - 1 - t + j:Nat):Int):=by rw [← d];push_cast;rfl
     rw [Int.mul_neg];omega
    rw [e2,Int.add_mul_emod_self_left];exact Int.emod_eq_of_lt (by omega) (by omega)
   omega
  constructor
  ·rintro ⟨j,h2,h3⟩;exact ⟨j,h2,by rw [← key j];exact h3⟩
  ·rintro ⟨j,h2,h3⟩;exact ⟨j,h2,by rw [key j];exact h3⟩
theorem yL {z:Nat} (hz:0 < z) {b n:Int} (hn:1 ≤ n∧n ≤ z) {t:Nat} (ht:t < z):∃ v,(yt (fmF z [(b,n)]))[t]? = some v∧0 ≤ v∧∀ g:Int,0 ≤ g→(v ≤ g↔∃ j:Nat,(j:Int) ≤ g∧((t:Int) - (j:Int) - b) % (z:Int) < n):=by
 have hl:(fmF z [(b,n)]).length=z:=Hn _ _;obtain ⟨v,h1,h2,h3⟩:=UH (m:=fmF z [(b,n)]) (t:=t) (by rw [hl];exact ht);refine ⟨v,h1,h2,fun g hg=>?_⟩;have hb0:=Int.emod_nonneg b (show (z:Int) ≠ 0 by omega);have hb1:=Int.emod_lt_of_pos b (show 0 < (z:Int) by omega);have hm:∃ i,i < (fmF z [(b,n)]).length∧(fmF z [(b,n)])[i]? = some true:=by
  refine ⟨(b % (z:Int)).toNat,by rw [hl];omega,?_⟩;rw [EI hz ⟨by omega,hn.2⟩ (by omega),Int.toNat_of_nonneg hb0,decide_eq_true];rw [Int.emod_sub_emod,Int.sub_self,Int.zero_emod];omega
 rw [h3 hm g hg,hl];have key:∀ j:Nat,(fmF z [(b,n)])[(((t:Int) - (j:Int)) % (z:Int)).toNat]? = some (decide (((t:Int) - (j:Int) - b) % (z:Int) < n)):=fun j=>by
  have c0:=Int.emod_nonneg ((t:Int) - (j:Int)) (show (z:Int) ≠ 0 by omega);have c1:=Int.emod_lt_of_pos ((t:Int) - (j:Int)) (show 0 < (z:Int) by omega);rw [EI hz ⟨by omega,hn.2⟩ (by omega),Int.toNat_of_nonneg c0,Int.emod_sub_emod]
 constructor
 ·rintro ⟨j,g1,g2⟩;rw [key j] at g2;exact ⟨j,g1,of_decide_eq_true (Option.some.inj g2)⟩
 ·rintro ⟨j,g1,g2⟩;exact ⟨j,g1,by rw [key j,decide_eq_true g2]⟩
noncomputable def UG (z t:Int) (p:Int × Int):Int:=if (t - p.1) % z < p.2 then 0 else z - (t - p.1) % z
theorem nH (z t g:Int):∀ (ps:List (Int × Int)) (b:Int),ps.foldl (fun b p=>min b (UG z t p)) b ≤ g↔b ≤ g∨∃ p ∈ ps,UG z t p ≤ g
 | [],b=>by simp
 | p :: ps,b=>by
  rw [List.foldl_cons,nH z t g ps];simp only [List.mem_cons,exists_eq_or_imp];rw [show min b (UG z t p) ≤ g↔b ≤ g∨UG z t p ≤ g by omega,or_assoc]
noncomputable def yM (f:Nat→Int) (z:Nat):Nat→Int × Nat
 | 0=>(0,0)
 | k + 1=>if (yM f z k).1 ≤ f (z - 1 - k) then (f (z - 1 - k),z - 1 - k) else yM f z k
structure IP (z:Nat) (ds:List WD) (sp:List SD):Prop where
 al:∀ s ∈ sp,∃ d,wOf ds s.name=some d∧(0 ≤ s.b∧s.b < z)∧1 ≤ s.n∧s.n + me d + zc d ≤ z
 far:∀ (i j:Nat) (s e:SD) (d:WD),i ≠ j→sp[i]? = some s→sp[j]? = some e→e.name=s.name→wOf ds s.name=some d→s.n + me d + zc d ≤ (e.b - s.b) % (z:Int)
theorem CP {ds:List WD} {sp:List SD} (h:∀ d ∈ ds,∃ s ∈ sp,s.name=d.name):ax ds sp=none:=by
 unfold ax;refine List.find?_eq_none.mpr fun x hx=>?_
 obtain ⟨d,hd,rfl⟩:=List.mem_map.mp hx;obtain ⟨s,hs,e⟩:=h d hd;intro z;have:ofN d.name sp=[]:=by simpa using z
 have m:(s.b,s.n) ∈ ofN d.name sp:=List.mem_map.mpr ⟨s,List.mem_filter.mpr ⟨hs,by simpa using e⟩,rfl⟩;rw [this] at m;cases m
theorem uP {z:Nat} {ds:List WD} {sp:List SD} (h:∀ d ∈ ds,∀ e ∈ ds,d.name ≠ e.name→d.start=e.start∧d.fin ≠ e.fin):Gw 9 z sp ds=none:=by
 unfold Gw;refine List.findSome?_eq_none_iff.mpr fun d hd=>?_
 unfold PD;refine List.findSome?_eq_none_iff.mpr fun e he=>?_
 unfold Qt;rw [if_neg]
 ·rfl
 ·rintro ⟨hn,hm⟩;obtain ⟨h1,h2⟩:=h d hd e he hn;have:mt 9 d e=false:=by
   show HK 9 d.start d.fin e.start e.fin=false;unfold HK;rw [decide_eq_false h2,if_pos (.inl (.inl h1.symm))];rfl
  rw [this] at hm;cases hm
theorem ww {α:Type} (z:Nat) (v:α) (b:Int) (hz:0 < z) (l:List α) (hl:l.length=z):∀ (k:Nat) (i:Nat),i < z→(Cv z v b k l)[i]? = if ∃ j,j < k∧(b - 1 - (j:Int)) % (z:Int)=(i:Int) then some v else l[i]?
 | 0,i,hi=>by rw [if_neg (fun ⟨j,hj,_⟩=>by omega)];rfl
 | k + 1,i,hi=>by
  have ih:=ww z v b hz l hl k i hi;have h0:=Int.emod_nonneg (b - 1 - (k:Int)) (show (z:Int) ≠ 0 by omega);have h1:=Int.emod_lt_of_pos (b - 1 - (k:Int)) (show 0 < (z:Int) by omega);unfold Cv tI;by_cases c:(b - 1 - (k:Int)) % (z:Int)=(i:Int)
  ·rw [show ((b - 1 - (k:Int)) % (z:Int)).toNat=i by omega,List.getElem?_set_self (by rw [gg,hl];exact hi),if_pos ⟨k,by omega,c⟩]
  ·rw [List.getElem?_set_ne (by omega),ih];by_cases e:∃ j,j < k∧(b - 1 - (j:Int)) % (z:Int)=(i:Int)
   ·obtain ⟨j,hj,ej⟩:=e;rw [if_pos ⟨j,hj,ej⟩,if_pos ⟨j,by omega,ej⟩]
   ·rw [if_neg e,if_neg];rintro ⟨j,hj,ej⟩;by_cases hjk:j=k
    ·subst hjk;exact c ej
    ·exact e ⟨j,by omega,ej⟩
theorem IG {z b i:Int} {n:Int} (hz:0 < z) (hi:0 ≤ i∧i < z) (hn:0 ≤ n∧n ≤ z):(∃ j:Nat,j < n.toNat∧(b - 1 - (j:Int)) % z=i)↔z - n ≤ (i - b) % z:=by
 have h0:=Int.emod_nonneg (i - b) (show z ≠ 0 by omega);have h1:=Int.emod_lt_of_pos (i - b) hz;constructor
 ·rintro ⟨j,hj,e⟩;have:(i - b) % z=z - 1 - j:=by
   rw [← e,Int.emod_sub_emod,show b - 1 - (j:Int) - b=(z - 1 - j) + z * (-1) by omega,Int.add_mul_emod_self_left];exact Int.emod_eq_of_lt (by omega) (by omega)
  omega
 ·intro h;refine ⟨(z - 1 - (i - b) % z).toNat,by omega,?_⟩;rw [Int.toNat_of_nonneg (by omega),show b - 1 - (z - 1 - (i - b) % z)=(b + (i - b) % z) + z * (-1) by omega,Int.add_mul_emod_self_left,Int.add_emod_emod,show b + (i - b)=i by omega];exact Int.emod_eq_of_lt hi.1 hi.2
theorem EH {z:Nat} (hz:0 < z) {rd fd:Nat} {l:List Str} (hl:l.length=z) {p:Int × Int} (hn:0 ≤ p.2∧p.2 + fd + rd ≤ z) {i:Nat} (hi:i < z):(Fs z rd fd l p)[i]? =
  if ((i:Int) - p.1) % (z:Int) < p.2 then some (Str.ofString "free") else if ((i:Int) - p.1) % (z:Int) < p.2 + fd then some (Str.ofString "fade") else if (z:Int) - rd ≤ ((i:Int) - p.1) % (z:Int) then some (Str.ofString "ready") else l[i]?:=by
 obtain ⟨b,n⟩:=p;dsimp only at hn ⊢;unfold Fs;have s0:=Int.emod_nonneg ((i:Int) - b) (show (z:Int) ≠ 0 by omega);have s1:=Int.emod_lt_of_pos ((i:Int) - b) (show 0 < (z:Int) by omega);rw [Yo z _ _ hz _ (by rw [ff,gg,hl]) _ _ hi,Yo z _ _ hz _ (by rw [gg,hl]) _ _ hi,ww z _ _ hz _ hl _ _ hi];dsimp only;have m1:=jv (z:=z) (b:=b + n) (i:=i) (n:=fd) (by omega) ⟨by omega,by omega⟩ ⟨by omega,by omega⟩;have m2:=jv (z:=z) (b:=b) (i:=i) (n:=n) (by omega) ⟨by omega,by omega⟩ ⟨by omega,by omega⟩;have m3:=IG (z:=z) (b:=b) (i:=i) (n:=rd) (by omega) ⟨by omega,by omega⟩ ⟨by omega,by omega⟩;rw [Int.toNat_natCast] at m1 m3;have f1:((i:Int) - (b + n)) % (z:Int) < fd↔n ≤ ((i:Int) - b) % (z:Int)∧((i:Int) - b) % (z:Int) < n + fd:=by
  have e:((i:Int) - (b + n)) % (z:Int)=(((i:Int) - b) % (z:Int) - n) % (z:Int):=by
   rw [Int.emod_sub_emod,show (i:Int) - (b + n)=(i:Int) - b - n by omega]
  rw [e];by_cases c:n ≤ ((i:Int) - b) % (z:Int)
  ·rw [Int.emod_eq_of_lt (by omega) (by omega)];omega
  ·rw [show ((i:Int) - b) % (z:Int) - n=(((i:Int) - b) % (z:Int) - n + z) + (z:Int) * (-1) by omega,Int.add_mul_emod_self_left,Int.emod_eq_of_lt (by omega) (by omega)];omega
 by_cases c1:((i:Int) - b) % (z:Int) < n
 ·rw [if_neg (fun h=>by have:=f1.mp (m1.mp h);omega),if_pos (m2.mpr c1),if_pos c1]
 ·by_cases c2:((i:Int) - b) % (z:Int) < n + fd
  ·rw [if_pos (m1.mpr (f1.mpr ⟨by omega,c2⟩)),if_neg c1,if_pos c2]
  ·rw [if_neg (fun h=>by have:=f1.mp (m1.mp h);omega),if_neg (fun h=>c1 (m2.mp h)),if_neg c1,if_neg c2];by_cases c3:(z:Int) - rd ≤ ((i:Int) - b) % (z:Int)
   ·rw [if_pos (m3.mpr c3),if_pos c3]
   ·rw [if_neg (fun h=>c3 (m3.mp h)),if_neg c3]
noncomputable def BN (z:Int) (rd fd:Nat) (p q:Int × Int):Prop:=p.2 + fd + rd ≤ (q.1 - p.1) % z∧q.2 + fd + rd ≤ (p.1 - q.1) % z
theorem eL {z x:Int} (hz:0 < z) (hx:0 < x % z):(-x) % z=z - x % z:=by
 have h1:=Int.emod_lt_of_pos x hz;have e:-x=(z - x % z) + z * (-(x / z) - 1):=by
  have:=Int.mul_ediv_add_emod x z;rw [Int.mul_sub,Int.mul_neg,Int.mul_one];omega
 rw [e,Int.add_mul_emod_self_left,Int.emod_eq_of_lt (by omega) (by omega)]
theorem BN.clear {z:Int} (hz:0 < z) {rd fd:Nat} {p q:Int × Int} (h:BN z rd fd p q) (hq:1 ≤ q.2) {i:Int} (hi:(i - p.1) % z < p.2):q.2 + fd ≤ (i - q.1) % z∧(i - q.1) % z < z - rd:=by
 have h0:=Int.emod_nonneg (i - p.1) (show z ≠ 0 by omega);have hD:0 < (p.1 - q.1) % z:=by have:=h.2;omega
 have hn:=eL hz hD;rw [show -(p.1 - q.1)=q.1 - p.1 by omega] at hn;have e:(i - q.1) % z=((i - p.1) % z + (p.1 - q.1) % z) % z:=by
  rw [← Int.add_emod,show i - p.1 + (p.1 - q.1)=i - q.1 by omega]
 have h1:=h.1;have h2:=h.2;rw [hn] at h1;rw [e,Int.emod_eq_of_lt (by omega) (by omega)];omega
theorem ao {z:Nat} (hz:0 < z) {rd fd:Nat} {i:Nat} (hi:i < z):∀ (ps:List (Int × Int)) (l:List Str),l.length=z→(∀ p ∈ ps,1 ≤ p.2∧p.2 + fd + rd ≤ z)→ps.Pairwise (BN z rd fd) →
  (l[i]? = some (Str.ofString "free")→∀ p ∈ ps,p.2 + fd ≤ ((i:Int) - p.1) % (z:Int)∧((i:Int) - p.1) % (z:Int) < z - rd) →
  ((ps.foldl (Fs z rd fd) l)[i]? = some (Str.ofString "free")↔l[i]? = some (Str.ofString "free")∨∃ p ∈ ps,((i:Int) - p.1) % (z:Int) < p.2)
 | [],l,_,_,_,_=>by simp
 | p :: ps,l,hl,hp,pw,hB=>by
  have hp0:=hp p (List.mem_cons_self ..);obtain ⟨pw1,pw2⟩:=List.pairwise_cons.mp pw;have e:=EH hz hl (p:=p) (rd:=rd) (fd:=fd) ⟨by omega,hp0.2⟩ hi;have ne1:(some (Str.ofString "fade"):Option Str) ≠ some (Str.ofString "free"):=by decide +kernel
  have ne2:(some (Str.ofString "ready"):Option Str) ≠ some (Str.ofString "free"):=by decide +kernel
  have key:(Fs z rd fd l p)[i]? = some (Str.ofString "free")↔l[i]? = some (Str.ofString "free")∨((i:Int) - p.1) % (z:Int) < p.2:=by
   rw [e];by_cases c1:((i:Int) - p.1) % (z:Int) < p.2
   ·rw [if_pos c1];simp [c1]
   ·rw [if_neg c1];by_cases c2:((i:Int) - p.1) % (z:Int) < p.2 + fd
    ·rw [if_pos c2];exact ⟨fun h=>absurd h ne1,fun h=>by
      rcases h with h | h
      ·have:=(hB h p (List.mem_cons_self ..)).1;omega
      ·exact absurd h c1⟩
    ·rw [if_neg c2];by_cases c3:(z:Int) - rd ≤ ((i:Int) - p.1) % (z:Int)
     ·rw [if_pos c3];exact ⟨fun h=>absurd h ne2,fun h=>by
       rcases h with h | h
       ·have:=(hB h p (List.mem_cons_self ..)).2;omega
       ·exact absurd h c1⟩
     ·rw [if_neg c3];simp [c1]
  have hl':(Fs z rd fd l p).length=z:=by unfold Fs;rw [ff,ff,gg,hl]
  rw [List.foldl_cons,ao hz hi ps _ hl' (fun q hq=>hp q (List.mem_cons_of_mem _ hq)) pw2 (fun h q hq=>?_),key]
  ·simp only [List.mem_cons,exists_eq_or_imp,or_assoc]
  ·rcases key.mp h with h | h
   ·exact hB h q (List.mem_cons_of_mem _ hq)
   ·exact (pw1 q hq).clear (by omega) (hp q (List.mem_cons_of_mem _ hq)).1 h
theorem rD {z:Nat} (hz:0 < z) {rd fd:Nat} {ps:List (Int × Int)} (hp:∀ p ∈ ps,1 ≤ p.2∧p.2 + fd + rd ≤ z) (pw:ps.Pairwise (BN z rd fd)) {i:Nat} (hi:i < z) :
  (Rh z rd fd ps)[i]? = some (Str.ofString "free")↔∃ p ∈ ps,((i:Int) - p.1) % (z:Int) < p.2:=by
 have hn:¬ (List.replicate z (Str.ofString "stop"))[i]? = some (Str.ofString "free"):=by
  rw [List.getElem?_replicate,if_pos hi];decide +kernel
 unfold Rh;rw [ao hz hi ps _ (List.length_replicate ..) hp pw (fun h=>absurd h hn)];exact ⟨fun h=>h.resolve_left hn,.inr⟩
noncomputable def qS (d:WD) (fr:Nat→Bool) (c:Nat→Int) (x:Int):Nat→Int
 | 0=>x
 | k + 1=>if fr k=true then qS d fr c x k + c k - Nk d (qS d fr c x k + c k) else qS d fr c x k + c k
theorem vw {d:WD} {y:Int} (hy:0 ≤ y):y - Nk d y=if d.k=1 then 0 else max (y - 1) 0:=by
 unfold Nk
 match hk:d.k with
 | 0=>simp only [if_neg (show ¬ (0:Nat)=1 by decide)];split <;> omega
 | 1=>simp
 | k + 2=>simp only [if_neg (show ¬ k + 2=1 by omega)];split <;> omega
theorem xg {d:WD} {fr:Nat→Bool} {c:Nat→Int} {x:Int} {k:Nat} (h:0 ≤ qS d fr c x k + c k):qS d fr c x (k + 1)=if fr k=true then (if d.k=1 then 0 else max (qS d fr c x k + c k - 1) 0) else qS d fr c x k + c k:=by
 show (if fr k=true then _ else _)=_;rw [vw h]
theorem Tl {d:WD} {fr:Nat→Bool} {c:Nat→Int} (hc:∀ k,0 ≤ c k) {x:Int} (hx:0 ≤ x):∀ k,0 ≤ qS d fr c x k
 | 0=>hx
 | k + 1=>by
  have:=Tl (d:=d) (fr:=fr) hc hx k;have:=hc k;rw [xg (by omega)];split
  ·split <;> omega
  ·omega
theorem sM {d:WD} {fr:Nat→Bool} {c:Nat→Int} (hc:∀ k,0 ≤ c k∧c k ≤ 1000000000) {x:Int} (hx:0 ≤ x):∀ k:Nat,qS d fr c x k ≤ x + 1000000000 * (k:Int)
 | 0=>by show x ≤ x + 1000000000 * ((0:Nat):Int);omega
 | k + 1=>by
  have h1:=sM (d:=d) (fr:=fr) hc hx k;have h2:=Tl (d:=d) (fr:=fr) (fun k=>(hc k).1) hx k;have h3:=hc k;rw [xg (by omega)];split
  ·split <;> omega
  ·omega
theorem Ly {d:WD} {fr:Nat→Bool} {c:Nat→Int} (hc:∀ k,0 ≤ c k):∀ k:Nat,(∃ D M:Int,0 ≤ M∧∀ x,0 ≤ x→qS d fr c x k=max (x + D) M)∨(∃ M:Int,0 ≤ M∧∀ x,0 ≤ x→qS d fr c x k=M)
 | 0=>.inl ⟨0,0,by omega,fun x hx=>by show x=max (x + 0) 0;omega⟩
 | k + 1=>by
  have hk:=hc k;rcases Ly (d:=d) (fr:=fr) hc k with ⟨D,M,hM,h⟩ | ⟨M,hM,h⟩
  ·by_cases f:fr k=true
   ·by_cases g:d.k=1
    ·refine .inr ⟨0,by omega,fun x hx=>?_⟩;have:=h x hx;rw [xg (by omega),if_pos f,if_pos g]
    ·refine .inl ⟨D + c k - 1,max (M + c k - 1) 0,by omega,fun x hx=>?_⟩;have:=h x hx;rw [xg (by omega),if_pos f,if_neg g,this];omega
   ·refine .inl ⟨D + c k,M + c k,by omega,fun x hx=>?_⟩;have:=h x hx;rw [xg (by omega),if_neg f,this];omega
  ·by_cases f:fr k=true
   ·by_cases g:d.k=1
    ·refine .inr ⟨0,by omega,fun x hx=>?_⟩;have:=h x hx;rw [xg (by omega),if_pos f,if_pos g]
    ·refine .inr ⟨max (M + c k - 1) 0,by omega,fun x hx=>?_⟩;have:=h x hx;rw [xg (by omega),if_pos f,if_neg g,this]
   ·refine .inr ⟨M + c k,by omega,fun x hx=>?_⟩;have:=h x hx;rw [xg (by omega),if_neg f,this]
noncomputable def il (d:WD) (fr:Nat→Bool) (c:Nat→Int) (z:Nat):Int:=qS d fr c 0 z
noncomputable def qe (d:WD) (fr:Nat→Bool) (c:Nat→Int) (z:Nat):Int:=qS d fr c (il d fr c z) z - il d fr c z
theorem om {d:WD} {fr:Nat→Bool} {c:Nat→Int} (hc:∀ k,0 ≤ c k) (z:Nat):0 ≤ il d fr c z∧0 ≤ qe d fr c z∧∀ k:Int,0 ≤ k→qS d fr c (il d fr c z + k * qe d fr c z) z=il d fr c z + k * qe d fr c z + qe d fr c z:=by
 have f0:0 ≤ il d fr c z:=Tl hc (Int.le_refl 0) z;rcases Ly (d:=d) (fr:=fr) hc z with ⟨D,M,hM,h⟩ | ⟨M,hM,h⟩
 ·have h1:il d fr c z=max (0 + D) M:=h 0 (Int.le_refl 0);have h2:qe d fr c z=max (il d fr c z + D) M - il d fr c z:=by unfold qe;rw [h _ f0]
  by_cases hD:0 ≤ D
  ·have hg:qe d fr c z=D:=by omega
   refine ⟨f0,by omega,fun k hk=>?_⟩;have:0 ≤ k * qe d fr c z:=Int.mul_nonneg hk (by omega);rw [h _ (by omega)];omega
  ·have hg:qe d fr c z=0:=by omega
   refine ⟨f0,by omega,fun k hk=>?_⟩;rw [hg,Int.mul_zero,h _ (by omega)];omega
 ·have h1:il d fr c z=M:=h 0 (Int.le_refl 0);have hg:qe d fr c z=0:=by unfold qe;rw [h _ f0,h1];omega
  refine ⟨f0,by omega,fun k hk=>?_⟩;rw [hg,Int.mul_zero,h _ (by omega),h1];omega
theorem OJ {d:WD} {fr:Nat→Bool} {c:Nat→Int} (hc:∀ k,0 ≤ c k∧c k ≤ 1000000000) (z:Nat):qe d fr c z ≤ 1000000000 * (z:Int):=by
 have:=sM (d:=d) (fr:=fr) hc (x:=il d fr c z) (Tl (fun k=>(hc k).1) (Int.le_refl 0) z) z;unfold qe;omega
noncomputable def Dx (d:WD) (fr:Nat→Bool) (c:Nat→Int) (z:Nat) (t:Int):Int:=
 if t / (z:Int)=0 then qS d fr c 0 (t % (z:Int)).toNat else qS d fr c (il d fr c z + (t / (z:Int) - 1) * qe d fr c z) (t % (z:Int)).toNat
end My
namespace My
open PySem L2
noncomputable abbrev kq (Pt:Addr) (H:Hp):Prop:=Tab H Pt (fP (Sv Ob)) Ue
noncomputable def Clo (H:Hp) (f l:Addr) (xs:List Int):Prop:=∃ cl c',H f=some (.ext (fu f Ue (aN (Sv Ob)) (cN (Sv Ob)) (lL (Sv Ob)) [(Str.ofString "kept",cl)] c'))∧H c'=some (.ext (Ox c' Ue))∧H cl=some (.ext (JA cl (.ref l)))∧H l=some (.lst (xs.map V.int))
theorem Clo.same {H H':Hp} {f l:Addr} {xs:List Int} (h:Clo H f l xs) (s:Yb H H'):Clo H' f l xs:=by
 obtain ⟨cl,c',h1,h2,h3,h4⟩:=h;exact ⟨cl,c',s _ _ h1,s _ _ h2,s _ _ h3,s _ _ h4⟩
theorem Clo.sameP {Pt:Addr} {H H':Hp} {f l:Addr} {xs:List Int} (h:Clo H f l xs) (tb:kq Pt H) (s:We Pt H H'):Clo H' f l xs:=by
 obtain ⟨cl,c',h1,h2,h3,h4⟩:=h;exact ⟨cl,c',s _ _ (tb.ne h1 fun _ z=>by cases z) h1,s _ _ (tb.ne h2 fun _ z=>by cases z) h2,s _ _ (tb.ne h3 fun _ z=>by cases z) h3,s _ _ (tb.ne h4 fun _ z=>by cases z) h4⟩
noncomputable def jq (Pt:Addr):Sp:=fun vs H Q _=>∃ a xs,vs=[.ref a]∧H a=some (.lst (xs.map V.int))∧kq Pt H∧∀ f l H',H l=none→We Pt H H'→(NoT H→NoT H')→kq Pt H'→Clo H' f l xs→Q (.ref f) H'
section
variable {P:Program} {w:World} {K:PySem.W.Frag} {mg:Str→Option Value} {base:Heap} {t:Adr}
theorem Ew (T:Txt w K mg t) {c Pt:Addr} (hc:t.Zc.code=.ref c) (hC:PySem.W.CodeHd base c Pt) (hB:base.BuiltinsAt mg Pt):Eb P w K mg base CX0 1 t.Sg t.Zc ["comings"] (jq Pt):=by
 refine T.Qg.okLam (y := "kept") (i:=1) (cc:=fun L=>L + 1) (params:=aN (Sv Ob)) (lbody:=cN (Sv Ob)) (lscope:=lL (Sv Ob)) (lpos:=fP (Sv Ob)) uo (fun vs H Q E h=>?_) rfl hc hC hB rfl rfl (fun _=>rfl) (fun _ _=>rfl) (fun _ _=>rfl) (fun _ _ _ s H vs Q E hr h=>?_)
 ·obtain ⟨a,xs,rfl,_⟩:=h;rfl
 obtain ⟨a,xs,rfl,ha,tb,q⟩:=h;refine ⟨_,(xA (i:=1) uo.nd rfl (Or.inr rfl) (gh Ao rfl T.iu Ai (ab (pv 0) fb))),?_⟩;walk_at "RD";refine ⟨_,.inl (SqL.of ha),fun l hl=>⟨tb.step (lb hl),fun g cl c' H2 sm nt tb2 eg ec el=>?_⟩⟩;have tb1:kq Pt (upd H l (.lst (xs.map V.int))):=tb.step (lb hl);refine q g l H2 hl ((lb hl).p.trans sm) (fun n=>nt n.upd) tb2 ⟨cl,c',eg,ec,el,sm _ _ (tb1.ne db fun _ z=>by cases z) db⟩
end
noncomputable def Ti (H H':Hp):Prop:=∀ b o,(∀ ps,o ≠ HO.tbl ps)→H b=some o→H' b=some o
theorem Tv {H H':Hp} {Pt:Addr} {pos:Pos} {q:Str} (tb:Tab H Pt pos q) (s:We Pt H H'):Ti H H':=fun b o n e=>s b o (tb.ne e n) e
theorem qA {H H':Hp} (s:Yb H H'):Ti H H':=fun b o _ e=>s b o e
theorem Ti.trans {H H1 H2:Hp} (a:Ti H H1) (b:Ti H1 H2):Ti H H2:=fun c o n h=>b c o n (a c o n h)
theorem Ti.lst {H H':Hp} (s:Ti H H') {b:Addr} {xs:List V} (e:H b=some (.lst xs)):H' b=some (.lst xs):=s b _ (fun _ z=>by cases z) e
theorem Ti.tup {H H':Hp} (s:Ti H H') {b:Addr} {xs:List V} (e:H b=some (.tup xs)):H' b=some (.tup xs):=s b _ (fun _ z=>by cases z) e
theorem Ti.ins {H H':Hp} (s:Ti H H') {b C dx:Addr} {fs:List (Str × V)} (e:H b=some (.ins C dx fs)):H' b=some (.ins C dx fs):=s b _ (fun _ z=>by cases z) e
theorem Ti.dK {H H':Hp} (s:Ti H H') {b:Addr} {kvs:List (Key × V)} (e:H b=some (.dK kvs)):H' b=some (.dK kvs):=s b _ (fun _ z=>by cases z) e
theorem ZA {K:PySem.W.Frag} {a:Addr} {ns:List Int} {H H':Hp} (S:Sc K a ns H) (s:Ti H H') (nt:NoT H'):Sc K a ns H':=by
 refine ⟨?_,nt⟩;rcases S.sq with ⟨o,h⟩ | h
 ·exact .inl ⟨o,s _ _ (fun _ z=>by cases z) h⟩
 ·exact .inr h
theorem ad.sameT {t:Adr} {H H':Hp} {c:Addr} {n:Int} {ds:List WD} (h:ad t H c n ds) (s:Ti H H'):ad t H' c n ds:=by
 obtain ⟨h0,dx,wl,nd,e1,⟨as,w1,w2,al⟩,e3⟩:=h;refine ⟨h0,dx,wl,nd,s.ins e1,⟨as,s.lst w1,w2,fun i b d hb hd=>?_⟩,s.dK e3⟩;obtain ⟨k,dxb,eb⟩:=al i b d hb hd;exact ⟨k,dxb,s.ins eb⟩
theorem LO.sameT {H H':Hp} {p:Addr} {sp:List SD} (h:LO H p (List.map sdO sp)) (s:Ti H H'):LO H' p (List.map sdO sp):=by
 obtain ⟨qs,l1,l2⟩:=h;refine ⟨qs,s.lst l1,l2.1,fun i q o hq ho=>?_⟩;have e:=l2.2 i q o hq ho;obtain ⟨d,_,rfl⟩:=kc ho;exact s.tup e
theorem NK.sameT {H H':Hp} {p:Addr} {ds:List WD} {f:WD→List V} {n:Nat} (h:NK H p ds (fun d=>.lst (f d)) n) (s:Ti H H'):NK H' p ds (fun d=>.lst (f d)) n:=by
 obtain ⟨rs,hl,hp,al⟩:=h;exact ⟨rs,hl,s.dK hp,fun i r d h1 h2=>s.lst (al i r d h1 h2)⟩
theorem rj.sameT {t:Adr} {H H':Hp} {a c:Addr} {n:Int} {ds:List WD} {z:Nat} {sp:List SD} (h:rj t H a c n ds z sp) (s:Ti H H'):rj t H' a c n ds z sp:=by
 obtain ⟨dx,p,lm,un,e,C,L,N1,N2⟩:=h.at_;exact ⟨dx,p,lm,un,s.ins e,C.sameT s,L.sameT s,N1.sameT s,N2.sameT s⟩
section
variable {w:World} {K:PySem.W.Frag} {mg:Str→Option Value} {t:Adr} {H:Hp} {a c dx p lm un:Addr} {z:Int}
theorem Pi (T:Txt w K mg t) (e:H a=some (.ins t.pe dx (plF c z p lm un))):oj K H a (Str.ofString "crossing") (.ref c):=⟨_,dx,_,e,T.Ui,T.gj,Sd dG 0 (ip ..) (by decide +kernel) rfl⟩
theorem Hj (T:Txt w K mg t) (e:H a=some (.ins t.pe dx (plF c z p lm un))):oj K H a (Str.ofString "size") (.int z):=⟨_,dx,_,e,T.Ui,T.qo,Sd dG 1 (ip ..) (by decide +kernel) rfl⟩
end
theorem NK.get {H:Hp} {p:Addr} {ds:List WD} {f:WD→HO} (h:NK H p ds f ds.length) (nd:(ds.map (·.name)).Nodup) {i:Nat} {d:WD} (hd:ds[i]? = some d):∃ r,Rr H p (.str d.name) (some (.ref r))∧H r=some (f d):=by
 obtain ⟨rs,hl,hp,al⟩:=h;have hi:i < rs.length:=by rw [hl];exact (List.getElem?_eq_some_iff.mp hd).1
 have hr:rs[i]? = some rs[i]:=List.getElem?_eq_getElem hi;refine ⟨rs[i],?_,al i _ d hr hd⟩;have:=Rr.k (k:=Sum.inr d.name) hp;rw [Px nd hd hr] at this;exact this
noncomputable def Vn (z:Nat) (sp:List SD) (d:WD) (turn:Int):Str:=((xn z sp d)[(turn % (z:Int)).toNat]?).getD (Str.ofString "")
noncomputable def Ag (z:Nat) (sp:List SD) (d:WD) (turn:Int):Bool:=decide (Vn z sp d turn=Str.ofString "free")
noncomputable def Cw (t:Adr):Sp:=fun vs H Q _=>∃ (pl c:Addr) (n:Int) (ds:List WD) (z:Nat) (sp:List SD) (i:Nat) (d:WD) (turn:Int),vs=[.ref pl,.str d.name,.int turn]∧rj t H pl c n ds z sp∧0 < z∧ds[i]? = some d∧Q (.str (Vn z sp d turn)) H
noncomputable def Av (t:Adr):Sp:=fun vs H Q _=>∃ (pl c:Addr) (n:Int) (ds:List WD) (z:Nat) (sp:List SD) (i:Nat) (d:WD) (turn:Int),vs=[.ref pl,.str d.name,.int turn]∧rj t H pl c n ds z sp∧0 < z∧ds[i]? = some d∧Q (.bl (Ag z sp d turn)) H
noncomputable def yb (cs:List Int) (k:Nat):Int:=cs.getD (k % cs.length) 0
structure QIn (t:Adr) (Pt:Addr) (H:Hp) (pl c:Addr) (n:Int) (ds:List WD) (z:Nat) (sp:List SD) (i:Nat) (d:WD) (cm:Addr) (cs:List Int):Prop where
 pl:rj t H pl c n ds z sp
 z0:0 < z∧z ≤ 1000
 dd:ds[i]? = some d
 cm:H cm=some (.lst (cs.map V.int))
 cl:cs.length=z
 cb:∀ x ∈ cs,0 ≤ x∧x ≤ 1000000000
 tb:kq Pt H
theorem QIn.step {t:Adr} {Pt:Addr} {H H':Hp} {pl c:Addr} {n:Int} {ds:List WD} {z:Nat} {sp:List SD} {i:Nat} {d:WD} {cm:Addr} {cs:List Int} (h:QIn t Pt H pl c n ds z sp i d cm cs) (s:We Pt H H') (tb:kq Pt H'):QIn t Pt H' pl c n ds z sp i d cm cs:=
 ⟨h.pl.sameT (Tv h.tb s),h.z0,h.dd,(Tv h.tb s).lst h.cm,h.cl,h.cb,tb⟩
theorem Yj {cs:List Int} (h:∀ x ∈ cs,0 ≤ x∧x ≤ 1000000000) (k:Nat):0 ≤ yb cs k∧yb cs k ≤ 1000000000:=by
 unfold yb;rw [List.getD_eq_getElem?_getD];cases e:cs[k % cs.length]? with
 | none=>exact ⟨by show (0:Int) ≤ 0;omega,by show (0:Int) ≤ _;omega⟩
 | some v=>exact h v (List.mem_of_getElem? e)
theorem Mp {cs:List Int} (h:0 < cs.length) (k:Int):atI (cs.map V.int) (k % (cs.length:Int))=some (.int (cs.getD (k % (cs.length:Int)).toNat 0)):=by
 have hk:0 ≤ k % (cs.length:Int)∧k % (cs.length:Int) < (cs.length:Int):=⟨Int.emod_nonneg _ (by omega),Int.emod_lt_of_pos _ (by omega)⟩;have hj:(k % (cs.length:Int)).toNat < cs.length:=by omega
 have e:=Ib (xs:=cs.map V.int) (j:=(k % (cs.length:Int)).toNat) (v:=.int (cs.getD (k % (cs.length:Int)).toNat 0)) (by rw [List.getElem?_map,List.getD_eq_getElem?_getD,List.getElem?_eq_getElem hj] <;> rfl);rwa [Int.toNat_of_nonneg hk.1] at e
noncomputable abbrev frQ (z:Nat) (sp:List SD) (d:WD):Nat→Bool:=fun k=>Ag z sp d k
noncomputable def gm (t:Adr) (Pt:Addr):Sp:=fun vs H Q _=>∃ (pl c:Addr) (n:Int) (ds:List WD) (z:Nat) (sp:List SD) (i:Nat) (d:WD) (cm:Addr) (cs:List Int) (x:Int) (m:Nat),vs=[.ref pl,.str d.name,.ref cm,.int x,.int m]∧QIn t Pt H pl c n ds z sp i d cm cs∧m ≤ z ∧
 ∀ H',We Pt H H'→(NoT H→NoT H')→kq Pt H'→Q (.int (qS d (frQ z sp d) (yb cs) x m)) H'
noncomputable def bv (t:Adr) (Pt:Addr):Sp:=fun vs H Q _=>∃ (pl c:Addr) (n:Int) (ds:List WD) (z:Nat) (sp:List SD) (i:Nat) (d:WD) (cm:Addr) (cs:List Int),vs=[.ref pl,.str d.name,.ref cm]∧QIn t Pt H pl c n ds z sp i d cm cs ∧
 ∀ H',We Pt H H'→(NoT H→NoT H')→kq Pt H'→Q (.int (qe d (frQ z sp d) (yb cs) z)) H'
noncomputable def EA (t:Adr) (Pt:Addr):Sp:=fun vs H Q _=>∃ (pl c:Addr) (n:Int) (ds:List WD) (z:Nat) (sp:List SD) (i:Nat) (d:WD) (cm:Addr) (cs:List Int) (turn:Int),vs=[.ref pl,.str d.name,.ref cm,.int turn]∧QIn t Pt H pl c n ds z sp i d cm cs∧0 ≤ turn ∧
 ∀ H',We Pt H H'→(NoT H→NoT H')→kq Pt H'→Q (.int (Dx d (frQ z sp d) (yb cs) z turn)) H'
section
variable {P:Program} {w:World} {K:PySem.W.Frag} {mg:Str→Option Value} {base:Heap} {t:Adr}
theorem BC (T:Txt w K mg t):Eb P w K mg base CX0 3 t.bp t.gp q11 (Cw t):=by
 have g9:Eb P w K mg base CX0 2 t.Fb t.Kb q8 (Le t):=jf T;refine T.qv.ok RE (fun vs H Q E h=>?_) (fun _ _ _ s H vs Q E hr h=>?_)
 ·obtain ⟨pl,c,n,ds,z,sp,i,d,turn,rfl,_⟩:=h;rfl
 obtain ⟨pl,c,n,ds,z,sp,i,d,turn,rfl,PA,hz,hd,q⟩:=h;obtain ⟨dx,p,lm,un,hpl,C,_,NL,_⟩:=PA.at_;obtain ⟨⟨hnd,_⟩,dxc,wl,nd,e1,_,_⟩:=id C;have hu:=Rw hr;refine ⟨_,(bb (Wc (bd (fc (pv 0) rfl) T.Jb T.Pb g9 hr T.Qb .nil Kc (ab (pv 1) fb)))
   (gb (Cb (ac yc (wn hu (fc (pv 0) rfl) (pv 1) (fun _ _=>rfl)) (Gb Jd (pv 2) (fc (pv 0) rfl)))))),?_⟩
 walk_at "RD";refine ⟨_,Pi T hpl,_,rfl,_,_,e1,cx _ _ _ (by decide +kernel),c,n,ds,i,d,rfl,C,hd,fun a W=>?_⟩;obtain ⟨r,hg,hr'⟩:=NL.get hnd hd;have h0:=Int.emod_nonneg turn (show (z:Int) ≠ 0 by omega);have h1:=Int.emod_lt_of_pos turn (show (0:Int) < z by omega);have hlen:(xn z sp d).length=z:=bi _ _ _ _;have hj:(turn % (z:Int)).toNat < (xn z sp d).length:=by rw [hlen];omega
 walk_at "RD";refine ⟨_,Dz T hpl,_,rfl,_,hg,_,Hj T hpl,_,rfl,by omega,_,rfl,_,SqL.of hr',.str (Vn z sp d turn),?_,q⟩;have e:=Ib (xs:=bc (xn z sp d)) (j:=(turn % (z:Int)).toNat) (v:=.str (Vn z sp d turn)) (by unfold bc Vn;rw [List.getElem?_map,List.getElem?_eq_getElem hj];rfl);rwa [Int.toNat_of_nonneg h0] at e
theorem Zx (T:Txt w K mg t):Eb P w K mg base CX0 4 t.uu t.Vt q11 (Av t):=by
 have g56:Eb P w K mg base CX0 3 t.bp t.gp q11 (Cw t):=BC T;refine T.Nw.ok IK (fun vs H Q E h=>?_) (fun _ _ _ s H vs Q E hr h=>?_)
 ·obtain ⟨pl,c,n,ds,z,sp,i,d,turn,rfl,_⟩:=h;rfl
 obtain ⟨pl,c,n,ds,z,sp,i,d,turn,rfl,PA,hz,hd,q⟩:=h;refine ⟨_,(gb (Cb (Se Qh (qb g56 hr T.HG T.qv.kp T.RH (ab (pv 0) (ab (pv 1) (ab (pv 2) fb)))) Cc (Zb _)))),?_⟩;walk_at "RD";refine ⟨pl,c,n,ds,z,sp,i,d,turn,rfl,PA,hz,hd,rfl,?_⟩;rw [show decide (V.str (Vn z sp d turn)=V.str (Str.ofString "free"))=Ag z sp d turn by unfold Ag;simp];exact q
theorem cq (T:Txt w K mg t) {cd Pt:Addr} (hc:t.Zc.code=.ref cd) (hC:PySem.W.CodeHd base cd Pt) (hB:base.BuiltinsAt mg Pt):Eb P w K mg base CX0 5 t.Xd t.be q23 (gm t Pt):=by
 have g9:Eb P w K mg base CX0 4 t.Fb t.Kb q8 (Le t):=(jf T).mono (by decide);have g23:Eb P w K mg base CX0 4 t.Sg t.Zc ["comings"] (jq Pt):=(Ew T hc hC hB).mono (by decide);have g17:Eb P w K mg base CX0 4 t.uu t.Vt q11 (Av t):=Zx T;have V_Way_goes:Mz P w K mg base CX0 4 (isW t) "goes" q9 (Ki t):=ck (lE T) (by decide);refine T.Pc.ok Xc (fun vs H Q E h=>?_) (fun _ _ _ s H vs Q E hr h=>?_)
 ·obtain ⟨pl,c,n,ds,z,sp,i,d,cm,cs,x,m,rfl,_⟩:=h;rfl
 obtain ⟨pl,c,n,ds,z,sp,i,d,cm,cs,x,m,rfl,I,hm,q⟩:=h;obtain ⟨dx,p,lm,un,hpl,C,_,NL,_⟩:=I.pl.at_;obtain ⟨⟨hnd,_⟩,dxc,wl,nd,e1,_,_⟩:=id C;refine ⟨_,(bb (zb (i:=5) Xc.nd (bd (fc (pv 0) rfl) T.Jb T.Pb g9 hr T.Qb .nil Kc (ab (pv 1) fb)))
   (bb (zb (i:=6) Xc.nd (qb g23 hr T.Ml T.Qg.kp T.Iq (ab (pv 2) fb)))
   (bb (Kd PassesOwn.never rfl (ae rfl T.bf (ab (pv 4) fb)) (ub (i:=7) Xc.nd) (bb (ot (i:=3) Xc.nd rfl (Or.inl rfl) (sv (q:=Ue) (params:=aN (Sv Ob)) (body:=cN (Sv Ob)) (scope:=lL (Sv Ob)) (pv 6) ak hr (ab (pv 7) fb) (fun _ _ _ _ _=>rfl) (fun _ _ _ _ _=>⟨_,(ac yc (pv 1) (Gb Jd (pv 0) (dc ic rfl T.Ik Ac (ab (pv 1) fb)))),by first | rfl | (dsimp only [Mo];done) | (dsimp only [Mo];exact rfl)⟩)) ZE)
   (gb (Qd (bh (qb g17 hr T.nE T.Nw.kp T.jD (ab (pv 0) (ab (pv 1) (ab (pv 7) fb))))) (gb (ot (i:=3) Xc.nd rfl (Or.inl rfl) (Tu (pv 5) V_Way_goes hr Kc (ab (pv 3) fb)) RD)) Xb))))
   (gb (Cb (pv 3)))))),?_⟩
 refine zS (fun σ' H'=>H'=H∧∃ wa,Ud t H wa d∧σ'=[some (.ref pl),some (.str d.name),some (.ref cm),some (.int x),some (.int (m:Int)),some (.ref wa),none,none]) (fun D' hD=>?_) fun zzM zzh=>?_
 ·walk_at "RD";exact ⟨_,Pi T hpl,_,rfl,_,_,e1,cx _ _ _ (by decide +kernel),c,n,ds,i,d,rfl,C,I.dd,fun a W=>hD _ _ ⟨rfl,a,W,rfl⟩⟩
 rintro σ1 H1 ⟨rfl,wa,W,rfl⟩;subst zzh;refine zS (fun σ' H'=>We Pt H1 H'∧(NoT H1→NoT H')∧kq Pt H'∧∃ f l,Clo H' f l cs∧σ'=[some (.ref pl),some (.str d.name),some (.ref cm),some (.int x),some (.int (m:Int)),some (.ref wa),some (.ref f),none]) (fun D' hD=>?_) fun zzM zzh=>?_
 ·walk_at "RD";exact ⟨cm,cs,rfl,I.cm,I.tb,fun f l H' _ sm nt tb k=>hD _ _ ⟨sm,nt,tb,f,l,k,rfl⟩⟩
 rintro σ2 H2 ⟨s2,n2,tb2,f,l,kf,rfl⟩;have I2:=I.step s2 tb2;have W2:Ud t H2 wa d:=⟨W.1,W.2.imp fun dx e=>(Tv I.tb s2).ins e⟩;have hz:=I.z0;subst zzh;walk_at "RD";refine ⟨by omega,by omega,?_⟩;refine zi.range (fun k σ H'=>H'=H2∧∃ x7,σ=[some (.ref pl),some (.str d.name),some (.ref cm),some (.int (qS d (frQ z sp d) (yb cs) x k)),some (.int (m:Int)),some (.ref wa),some (.ref f),x7]) ⟨rfl,_,rfl⟩ ?_ ?_
 ·rintro k σ H' hk ⟨rfl,x7,rfl⟩;have hk':k < z:=by have:k < (m:Int).toNat:=hk;omega
  obtain ⟨cl,c',c1,c2,c3,c4⟩:=kf;have hcl:l ≠ cl:=Ge c4 c3 fun z=>by cases z
  have hl:SqL K (Ir H' cl) l (List.map V.int cs):=SqL.of (by rw [xh hcl];exact c4);have hpos:0 < cs.length:=by rw [I.cl];omega
  have hcome:cs.getD ((k:Int) % (cs.length:Int)).toNat 0=yb cs k:=by
   unfold yb;rw [show ((k:Int) % (cs.length:Int)).toNat=k % cs.length by rw [← Int.natCast_emod,Int.toNat_natCast]]
  simp only [Ig,Ab,List.set_cons_succ,List.set_cons_zero,Int.zero_add];refine zzC (fun σ' H''=>H''=H'∧σ'=[some (.ref pl),some (.str d.name),some (.ref cm),some (.int (qS d (frQ z sp d) (yb cs) x k + yb cs k)),some (.int (m:Int)),some (.ref wa),some (.ref f),some (.int (k:Int))]) (fun D' hD=>?_) fun zzM zzh=>?_
  ·walk_at "RD";refine ⟨⟨cl,c',c1⟩,cl,c',c1,c2,_,c3,l,rfl,_,.inl hl,by rw [List.length_map];omega,l,rfl,_,hl,_,by rw [List.length_map];exact Mp hpos _,_,_,rfl,rfl,?_⟩;rw [Ky c3,hcome];exact hD _ _ ⟨rfl,rfl⟩
  rintro σ3 H3 ⟨rfl,rfl⟩;subst zzh;dsimp only;have hst:qS d (frQ z sp d) (yb cs) x (k + 1)=if Ag z sp d k=true then qS d (frQ z sp d) (yb cs) x k + yb cs k - Nk d (qS d (frQ z sp d) (yb cs) x k + yb cs k) else qS d (frQ z sp d) (yb cs) x k + yb cs k:=rfl;refine Vb (Ag z sp d k) (fun Q hQ=>?_) (fun hb=>?_) (fun hb=>?_)
  ·walk_at "RD";exact ⟨pl,c,n,ds,z,sp,i,d,_,rfl,I2.pl,by omega,I2.dd,_,rfl,hQ⟩
  ·rw [if_pos hb] at hst;obtain ⟨dxw,ew⟩:=W2.2;walk_at "RD";refine ⟨_,dxw,_,ew,⟨d.k,W2.1,rfl⟩,yJ (by decide +kernel),wa,d,_,rfl,W2,rfl,_,_,rfl,rfl,rfl,?_,_,rfl⟩;rw [hst]
  ·rw [if_neg (by rw [hb];decide)] at hst;walk_at "RD";exact ⟨hst.symm,_,rfl⟩
 ·rintro σ H' ⟨rfl,x7,rfl⟩;walk_at "RD";exact q _ s2 n2 tb2
theorem Cz (T:Txt w K mg t) {cd Pt:Addr} (hc:t.Zc.code=.ref cd) (hC:PySem.W.CodeHd base cd Pt) (hB:base.BuiltinsAt mg Pt):Eb P w K mg base CX0 6 t.Cp t.Yq q12 (bv t Pt):=by
 have g14:Eb P w K mg base CX0 5 t.Xd t.be q23 (gm t Pt):=cq T hc hC hB;refine T.Lv.ok OA (fun vs H Q E h=>?_) (fun _ _ _ s H vs Q E hr h=>?_)
 ·obtain ⟨pl,c,n,ds,z,sp,i,d,cm,cs,rfl,_⟩:=h;rfl
 obtain ⟨pl,c,n,ds,z,sp,i,d,cm,cs,rfl,I,q⟩:=h;obtain ⟨dx,p,lm,un,hpl,_⟩:=I.pl.at_;refine ⟨_,(bb (zb (i:=3) OA.nd (qb g14 hr T.Td T.Pc.kp T.ee (ab (pv 0) (ab (pv 1) (ab (pv 2) (ab jb (ab (fc (pv 0) rfl) fb)))))))
   (gb (Cb (Gb qf (qb g14 hr T.Td T.Pc.kp T.ee (ab (pv 0) (ab (pv 1) (ab (pv 2) (ab (pv 3) (ab (fc (pv 0) rfl) fb)))))) (pv 3))))),?_⟩
 refine zS (fun σ' H'=>We Pt H H'∧(NoT H→NoT H')∧kq Pt H'∧σ'=[some (.ref pl),some (.str d.name),some (.ref cm),some (.int (il d (frQ z sp d) (yb cs) z))]) (fun D' hD=>?_) fun zzM zzh=>?_
 ·walk_at "RD";exact ⟨_,Hj T hpl,pl,c,n,ds,z,sp,i,d,cm,cs,0,z,rfl,I,Nat.le_refl _,fun H' s1 n1 t1=>hD _ _ ⟨s1,n1,t1,rfl⟩⟩
 rintro σ1 H1 ⟨s1,n1,t1,rfl⟩;have I1:=I.step s1 t1;subst zzh;walk_at "RD";refine ⟨_,Hj T ((Tv I.tb s1).ins hpl),pl,c,n,ds,z,sp,i,d,cm,cs,_,z,rfl,I1,Nat.le_refl _,fun H' s2 n2 t2=>⟨_,rfl,?_⟩⟩;exact q H' (s1.trans s2) (fun n=>n2 (n1 n)) t2
theorem YH (T:Txt w K mg t) {cd Pt:Addr} (hc:t.Zc.code=.ref cd) (hC:PySem.W.CodeHd base cd Pt) (hB:base.BuiltinsAt mg Pt):Eb P w K mg base CX0 7 t.Bv t.Pu q32 (EA t Pt):=by
 have g14:Eb P w K mg base CX0 6 t.Xd t.be q23 (gm t Pt):=(cq T hc hC hB).mono (by decide);have g24:Eb P w K mg base CX0 6 t.Cp t.Yq q12 (bv t Pt):=Cz T hc hC hB;refine T.Uy.ok Lm (fun vs H Q E h=>?_) (fun _ _ _ s H vs Q E hr h=>?_)
 ·obtain ⟨pl,c,n,ds,z,sp,i,d,cm,cs,turn,rfl,_⟩:=h;rfl
 obtain ⟨pl,c,n,ds,z,sp,i,d,cm,cs,turn,rfl,I,ht,q⟩:=h;obtain ⟨dx,p,lm,un,hpl,_⟩:=I.pl.at_;have hz:=I.z0;have m0:=Int.emod_nonneg turn (show (z:Int) ≠ 0 by omega);have m1:=Int.emod_lt_of_pos turn (show (0:Int) < z by omega);have hr0:=Int.ediv_nonneg ht (show (0:Int) ≤ z by omega);obtain ⟨m,hm⟩:∃ m:Nat,turn % (z:Int)=(m:Nat):=⟨(turn % (z:Int)).toNat,by omega⟩;have hqe:Dx d (frQ z sp d) (yb cs) z turn=if turn / (z:Int)=0 then qS d (frQ z sp d) (yb cs) 0 m else qS d (frQ z sp d) (yb cs) (il d (frQ z sp d) (yb cs) z + (turn / (z:Int) - 1) * qe d (frQ z sp d) (yb cs) z) m:=by
  unfold Dx;rw [hm,Int.toNat_natCast]
 refine ⟨_,(bb (ko (dc az rfl T.SG Lu (ab (pv 3) (ab (fc (pv 0) rfl) fb))) (Qe (K:=K) (n:=2) rfl rfl (Lb (ub (i:=4) Lm.nd) (Lb (ub (i:=5) Lm.nd) Re))))
   (bb (Qd (Rb Qh (pv 4) jb (Zb _)) (gb (Cb (qb g14 hr T.Td T.Pc.kp T.ee (ab (pv 0) (ab (pv 1) (ab (pv 2) (ab jb (ab (pv 5) fb)))))))) Xb)
   (bb (zb (i:=6) Lm.nd (qb g14 hr T.Td T.Pc.kp T.ee (ab (pv 0) (ab (pv 1) (ab (pv 2) (ab jb (ab (fc (pv 0) rfl) fb)))))))
   (bb (zb (i:=7) Lm.nd (Gb Cd (pv 6) (Gb zh (Gb qf (pv 4) jb) (qb g24 hr T.eE T.Lv.kp T.vF (ab (pv 0) (ab (pv 1) (ab (pv 2) fb)))))))
   (gb (Cb (qb g14 hr T.Td T.Pc.kp T.ee (ab (pv 0) (ab (pv 1) (ab (pv 2) (ab (pv 7) (ab (pv 5) fb)))))))))))),?_⟩
 refine zS (fun σ' H'=>We Pt H H'∧(NoT H→NoT H')∧kq Pt H'∧σ'=[some (.ref pl),some (.str d.name),some (.ref cm),some (.int turn),some (.int (turn / (z:Int))),some (.int (m:Int)),none,none]) (fun D' hD=>?_) fun zzM zzh=>?_
 ·walk_at "RD";refine ⟨_,Hj T hpl,_,rfl,⟨by omega,by omega⟩,fun tp htp=>⟨_,SqT.of db,rfl,?_⟩⟩;refine ⟨_,_,rfl,_,_,rfl,rfl,?_⟩;rw [hm];exact hD _ _ ⟨(lb htp).p,fun n=>n.upd,I.tb.step (lb htp),rfl⟩
 rintro σ1 H1 ⟨s1,n1,t1,rfl⟩;have I1:=I.step s1 t1;have hpl1:=(Tv I.tb s1).ins hpl;have g0:=(om (d:=d) (fr:=frQ z sp d) (c:=yb cs) (fun k=>(Yj I.cb k).1) z).2.1;have g1:=OJ (d:=d) (fr:=frQ z sp d) (c:=yb cs) (fun k=>Yj I.cb k) z;subst zzh;simp only [Ab];refine Vb (decide (turn / (z:Int)=0)) (fun Q hQ=>?_) (fun hb=>?_) (fun hb=>?_)
 ·walk_at "RD";exact hQ
 ·rw [if_pos (of_decide_eq_true hb)] at hqe;walk_at "RD";refine ⟨pl,c,n,ds,z,sp,i,d,cm,cs,0,m,rfl,I1,by omega,fun H' s2 n2 t2=>?_⟩;rw [← hqe];exact q H' (s1.trans s2) (fun n=>n2 (n1 n)) t2
 ·rw [if_neg (of_decide_eq_false hb)] at hqe;simp only [Ii,Ab];refine zzC (fun σ' H'=>We Pt H1 H'∧(NoT H1→NoT H')∧kq Pt H'∧σ'=[some (.ref pl),some (.str d.name),some (.ref cm),some (.int turn),some (.int (turn / (z:Int))),some (.int (m:Int)),some (.int (il d (frQ z sp d) (yb cs) z)),none]) (fun D' hD=>?_) fun zzM zzh=>?_
  ·walk_at "RD";exact ⟨_,Hj T hpl1,pl,c,n,ds,z,sp,i,d,cm,cs,0,z,rfl,I1,Nat.le_refl _,fun H' s2 n2 t2=>hD _ _ ⟨s2,n2,t2,rfl⟩⟩
  rintro σ2 H2 ⟨s2,n2,t2,rfl⟩;have I2:=I1.step s2 t2;subst zzh;simp only [Ab];refine zzC (fun σ' H'=>We Pt H2 H'∧(NoT H2→NoT H')∧kq Pt H'∧σ'=[some (.ref pl),some (.str d.name),some (.ref cm),some (.int turn),some (.int (turn / (z:Int))),some (.int (m:Int)),some (.int (il d (frQ z sp d) (yb cs) z)),some (.int (il d (frQ z sp d) (yb cs) z + (turn / (z:Int) - 1) * qe d (frQ z sp d) (yb cs) z))]) (fun D' hD=>?_) fun zzM zzh=>?_
  ·walk_at "RD";refine ⟨pl,c,n,ds,z,sp,i,d,cm,cs,rfl,I2,fun H' s3 n3 t3=>⟨_,rfl,.inr ⟨by omega,by omega⟩,?_⟩⟩;exact hD _ _ ⟨s3,n3,t3,rfl⟩
  rintro σ3 H3 ⟨s3,n3,t3,rfl⟩;have I3:=I2.step s3 t3;subst zzh;walk_at "RD";refine ⟨pl,c,n,ds,z,sp,i,d,cm,cs,_,m,rfl,I3,by omega,fun H' s4 n4 t4=>?_⟩;rw [← hqe];exact q H' (((s1.trans s2).trans s3).trans s4) (fun n=>n4 (n3 (n2 (n1 n)))) t4
end
noncomputable def gnQ (fr:Nat→Bool):Nat→Int
 | 0=>0
 | k + 1=>if fr k=true then gnQ fr k + 1 else gnQ fr k
noncomputable def smQ (c:Nat→Int):Nat→Int
 | 0=>0
 | k + 1=>smQ c k + c k
theorem gI {d:WD} (hd:d.k ≠ 1) {fr:Nat→Bool} {c:Nat→Int} (hc:∀ k,0 ≤ c k):∀ k:Nat,∃ M:Int,0 ≤ M∧∀ x,0 ≤ x→qS d fr c x k=max (x + (smQ c k - gnQ fr k)) M
 | 0=>⟨0,by omega,fun x hx=>by show x=max (x + (0 - 0)) 0;omega⟩
 | k + 1=>by
  have hk:=hc k;obtain ⟨M,hM,h⟩:=gI hd (fr:=fr) hc k;by_cases f:fr k=true
  ·refine ⟨max (M + c k - 1) 0,by omega,fun x hx=>?_⟩;have:=h x hx;rw [xg (by omega),if_pos f,if_neg hd,this];show _=max (x + (smQ c k + c k - (if fr k=true then gnQ fr k + 1 else gnQ fr k))) _;rw [if_pos f];omega
  ·refine ⟨M + c k,by omega,fun x hx=>?_⟩;have:=h x hx;rw [xg (by omega),if_neg f,this];show _=max (x + (smQ c k + c k - (if fr k=true then gnQ fr k + 1 else gnQ fr k))) _;rw [if_neg f];omega
theorem fE {d:WD} (hd:d.k=1) {fr:Nat→Bool} {c:Nat→Int} (hc:∀ k,0 ≤ c k):∀ n:Nat,(∃ k,k < n∧fr k=true)→∃ M:Int,0 ≤ M∧∀ x,0 ≤ x→qS d fr c x n=M
 | 0,⟨k,hk,_⟩=>absurd hk (Nat.not_lt_zero _)
 | n + 1,⟨k,hk,hf⟩=>by
  by_cases f:fr n=true
  ·refine ⟨0,by omega,fun x hx=>?_⟩;have:=Tl (d:=d) (fr:=fr) hc hx n;have:=hc n;rw [xg (by omega),if_pos f,if_pos hd]
  ·have hkn:k < n:=by
    rcases Nat.lt_or_ge k n with h | h
    ·exact h
    ·have:k=n:=by omega
     subst this;exact absurd hf f
   obtain ⟨M,hM,h⟩:=fE hd (fr:=fr) hc n ⟨k,hkn,hf⟩;have hn:=hc n;refine ⟨M + c n,by omega,fun x hx=>?_⟩;have:=h x hx;rw [xg (by omega),if_neg f,this]
theorem VE {d:WD} {fr:Nat→Bool} {c:Nat→Int} (hc:∀ k,0 ≤ c k) {z:Nat} (hf:∃ k,k < z∧fr k=true):qe d fr c z=if d.k=1 then 0 else (if smQ c z - gnQ fr z > 0 then smQ c z - gnQ fr z else 0):=by
 have f0:0 ≤ il d fr c z:=Tl hc (Int.le_refl 0) z;by_cases hd:d.k=1
 ·rw [if_pos hd];obtain ⟨M,hM,h⟩:=fE hd hc z hf;unfold qe;rw [h _ f0,show il d fr c z=M from h 0 (Int.le_refl 0)];omega
 ·rw [if_neg hd];obtain ⟨M,hM,h⟩:=gI hd (fr:=fr) hc z;have h1:il d fr c z=max (0 + (smQ c z - gnQ fr z)) M:=h 0 (Int.le_refl 0);have h2:qe d fr c z=max (il d fr c z + (smQ c z - gnQ fr z)) M - il d fr c z:=by unfold qe;rw [h _ f0]
  split <;> omega
theorem xM {d:WD} {fr:Nat→Bool} {c:Nat→Int} {x y:Int} {m:Nat} (h:qS d fr c x m=qS d fr c y m):∀ k:Nat,qS d fr c x (m + k)=qS d fr c y (m + k)
 | 0=>h
 | k + 1=>by
  have ih:=xM h k;show (if fr (m + k)=true then qS d fr c x (m + k) + c (m + k) - Nk d (qS d fr c x (m + k) + c (m + k)) else qS d fr c x (m + k) + c (m + k))=(if fr (m + k)=true then qS d fr c y (m + k) + c (m + k) - Nk d (qS d fr c y (m + k) + c (m + k)) else qS d fr c y (m + k) + c (m + k));rw [ih]
theorem XJ {d:WD} {fr:Nat→Bool} {c:Nat→Int} (hc:∀ k,0 ≤ c k) {z m:Nat} (hm:m ≤ z) {k:Int} (hk:0 ≤ k):qS d fr c (il d fr c z + k * qe d fr c z) m=qS d fr c (il d fr c z) m + k * qe d fr c z:=by
 obtain ⟨f0,g0,_⟩:=om (d:=d) (fr:=fr) hc z;by_cases hg:qe d fr c z=0
 ·rw [hg,Int.mul_zero,Int.add_zero,Int.add_zero]
 ·have ht:0 ≤ k * qe d fr c z:=Int.mul_nonneg hk g0;have no:qS d fr c (il d fr c z) m ≠ qS d fr c 0 m:=fun e=>by
   have:=xM e (z - m);rw [show m + (z - m)=z by omega] at this;apply hg;unfold qe;rw [this];show il d fr c z - il d fr c z=0;omega
  rcases Ly (d:=d) (fr:=fr) hc m with ⟨D,M,hM,h⟩ | ⟨M,hM,h⟩
  ·have h1:=h _ f0;have h2:=h 0 (Int.le_refl 0);have h3:=h (il d fr c z + k * qe d fr c z) (by omega);omega
  ·exact absurd ((h _ f0).trans (h 0 (Int.le_refl 0)).symm) no
theorem SJ:∀ (cs:List Int),smQ (yb cs) cs.length=cs.sum:=fun cs=>by
 have key:∀ n,n ≤ cs.length→smQ (yb cs) n=(cs.take n).sum:=fun n=>by
  induction n with
  | zero=>intro _;simp [smQ]
  | succ n ih=>
   intro hn;show smQ (yb cs) n + yb cs n=_;rw [ih (by omega),List.take_add_one,List.sum_append];unfold yb;rw [Nat.mod_eq_of_lt (by omega),List.getElem?_eq_getElem (by omega),List.getD_eq_getElem?_getD,List.getElem?_eq_getElem (by omega)];simp
 rw [key _ (Nat.le_refl _),List.take_length]
theorem iH {d:WD} {fr:Nat→Bool} {c:Nat→Int} (hc:∀ k,0 ≤ c k) {z:Nat} (hz:0 < z) {R:Int} (hR:1 ≤ R) {m:Nat} (hm:m < z):Dx d fr c z (R * (z:Int) + (m:Int))=qS d fr c (il d fr c z) m + (R - 1) * qe d fr c z:=by
 have e1:(R * (z:Int) + (m:Int)) / (z:Int)=R:=by
  rw [Int.add_comm,Int.add_mul_ediv_right _ _ (by omega),Int.ediv_eq_zero_of_lt (by omega) (by omega),Int.zero_add]
 have e2:(R * (z:Int) + (m:Int)) % (z:Int)=(m:Int):=by
  rw [Int.add_comm,Int.add_mul_emod_self_right,Int.emod_eq_of_lt (by omega) (by omega)]
 unfold Dx;rw [e1,e2,if_neg (by omega),Int.toNat_natCast];exact XJ hc (by omega) (by omega)
noncomputable def Zu (d:WD) (fr:Nat→Bool) (x:Int) (T:Nat):Int:=if fr T=true then x - Nk d x else x
noncomputable def pj (d:WD) (fr:Nat→Bool) (x:Int) (T:Nat):Nat→Int
 | 0=>x
 | w + 1=>Zu d fr (pj d fr x T w) (T + w)
noncomputable def Mx (d:WD) (fr:Nat→Bool) (x:Int) (T w:Nat):Prop:=pj d fr x T (w + 1)=0∧pj d fr x T w ≠ 0
section
variable {d:WD} {fr:Nat→Bool} {c:Nat→Int} {z:Nat}
theorem Vm {x:Int} (hx:0 ≤ x) (T:Nat):Zu d fr x T=if fr T=true then (if d.k=1 then 0 else max (x - 1) 0) else x:=by
 unfold Zu;rw [vw hx]
theorem Zz {x:Int} (hx:0 ≤ x) (T:Nat):0 ≤ Zu d fr x T∧Zu d fr x T ≤ x:=by
 rw [Vm hx];split
 ·split <;> omega
 ·omega
theorem yz {x y:Int} (hx:0 ≤ x) (h:x ≤ y) (T:Nat):Zu d fr x T ≤ Zu d fr y T:=by
 rw [Vm hx,Vm (by omega)];split
 ·split <;> omega
 ·exact h
theorem Qw {x:Int} (hx:0 ≤ x) (T:Nat):∀ w,0 ≤ pj d fr x T w
 | 0=>hx
 | w + 1=>(Zz (Qw hx T w) _).1
theorem cA {x y:Int} (hx:0 ≤ x) (h:x ≤ y) (T:Nat):∀ w,pj d fr x T w ≤ pj d fr y T w
 | 0=>h
 | w + 1=>yz (Qw hx T w) (cA hx h T w) _
theorem GG {x:Int} (hx:0 ≤ x) {T w:Nat} (h:pj d fr x T w=0):∀ k,pj d fr x T (w + k)=0
 | 0=>h
 | k + 1=>by
  have ih:=GG hx h k;have:=(Zz (d:=d) (fr:=fr) (x:=pj d fr x T (w + k)) (by omega) (T + (w + k)));show Zu d fr (pj d fr x T (w + k)) (T + (w + k))=0;omega
theorem Rx (hf:∀ k,fr (k + z)=fr k) (x:Int) (T:Nat):∀ w,pj d fr x (T + z) w=pj d fr x T w
 | 0=>rfl
 | w + 1=>by
  show Zu d fr (pj d fr x (T + z) w) (T + z + w)=Zu d fr (pj d fr x T w) (T + w);rw [Rx hf x T w,show T + z + w=T + w + z by omega];unfold Zu;rw [hf]
theorem Qy {x y:Int} (hx:0 ≤ x) (h:x ≤ y) {T w w':Nat} (h1:Mx d fr x T w) (h2:Mx d fr y T w'):w ≤ w':=by
 by_cases c:w ≤ w'
 ·exact c
 ·exfalso;have a:=cA (d:=d) (fr:=fr) hx h T (w' + 1);have b:=Qw (d:=d) (fr:=fr) hx T (w' + 1);have e:pj d fr x T (w' + 1)=0:=by have:=h2.1;omega
  have:=GG hx e (w - (w' + 1));rw [show w' + 1 + (w - (w' + 1))=w by omega] at this;exact h1.2 this
theorem MI {x:Int} (hx:0 ≤ x) {T w w':Nat} (h1:Mx d fr x T w) (h2:Mx d fr x T w'):w=w':=by
 have a:=Qy hx (Int.le_refl x) h1 h2;have b:=Qy hx (Int.le_refl x) h2 h1;omega
theorem Yz (hf:∀ k,fr (k + z)=fr k) {x:Int} {T w:Nat}:Mx d fr x (T + z) w↔Mx d fr x T w:=by
 unfold Mx;rw [Rx hf,Rx hf]
theorem fN {x:Int} (hx:0 < x) {T:Nat}:∀ n,pj d fr x T n=0→∃ w,w < n∧Mx d fr x T w
 | 0,h=>by
  have:x=0:=h;omega
 | n + 1,h=>by
  by_cases c:pj d fr x T n=0
  ·obtain ⟨w,hw,h⟩:=fN hx n c;exact ⟨w,by omega,h⟩
  ·exact ⟨n,by omega,h,c⟩
theorem so (x:Int) (T:Nat):qS d fr c x (T + 1)=Zu d fr (qS d fr c x T + c T) T:=rfl
theorem xC (hf:∀ k,fr (k + z)=fr k) (hc:∀ k,c (k + z)=c k) (x:Int):∀ m,qS d fr c x (z + m)=qS d fr c (qS d fr c x z) m
 | 0=>rfl
 | m + 1=>by
  show qS d fr c x (z + m + 1)=_;rw [so,so,xC hf hc x m,show z + m=m + z by omega,hc];unfold Zu;rw [hf]
theorem ZI (h0:∀ k,0 ≤ c k) {x y:Int} (hx:0 ≤ x) (h:x ≤ y):∀ m,qS d fr c x m ≤ qS d fr c y m
 | 0=>h
 | m + 1=>by
  rw [so,so];have a:=ZI h0 hx h m;have b:=Tl (d:=d) (fr:=fr) h0 hx m;have:=h0 m;exact yz (by omega) (by omega) m
theorem RJ (hf:∀ k,fr (k + z)=fr k) (hc:∀ k,c (k + z)=c k) (h0:∀ k,0 ≤ c k) (m:Nat):qS d fr c 0 m ≤ qS d fr c 0 (z + m):=by
 rw [xC hf hc];exact ZI h0 (Int.le_refl 0) (Tl h0 (Int.le_refl 0) z) m
theorem NE (hf:∀ k,fr (k + z)=fr k) (hc:∀ k,c (k + z)=c k) (hg:qe d fr c z=0) (m:Nat):qS d fr c 0 (z + (z + m))=qS d fr c 0 (z + m):=by
 rw [xC hf hc,xC hf hc,xC hf hc];unfold qe il at hg;rw [show qS d fr c (qS d fr c 0 z) z=qS d fr c 0 z by omega]
theorem tN (h0:∀ k,0 ≤ c k):∀ m,qS d fr c 0 m ≤ smQ c m
 | 0=>Int.le_refl _
 | m + 1=>by
  rw [so];have a:=tN h0 m;have b:=Tl (d:=d) (fr:=fr) h0 (Int.le_refl 0) m;have:=h0 m;have:=(Zz (d:=d) (fr:=fr) (x:=qS d fr c 0 m + c m) (by omega) m).2;show _ ≤ smQ c m + c m;omega
theorem Qz (hc:∀ k,c (k + z)=c k):∀ m,smQ c (z + m)=smQ c z + smQ c m
 | 0=>by show smQ c z=smQ c z + 0;omega
 | m + 1=>by
  show smQ c (z + m) + c (z + m)=smQ c z + (smQ c m + c m);rw [Qz hc m,show z + m=m + z by omega,hc];omega
theorem Kt (hf:∀ k,fr (k + z)=fr k):∀ m,gnQ fr (z + m)=gnQ fr z + gnQ fr m
 | 0=>by show gnQ fr z=gnQ fr z + 0;omega
 | m + 1=>by
  show (if fr (z + m)=true then gnQ fr (z + m) + 1 else gnQ fr (z + m))=gnQ fr z + (if fr m=true then gnQ fr m + 1 else gnQ fr m);rw [Kt hf m,show z + m=m + z by omega,hf];split <;> omega
theorem iE (h0:∀ k,0 ≤ c k) {a:Nat}:∀ k,smQ c a ≤ smQ c (a + k)
 | 0=>Int.le_refl _
 | k + 1=>by
  have:=iE h0 (a:=a) k;have:=h0 (a + k);show _ ≤ smQ c (a + k) + c (a + k);omega
theorem LK {a:Nat}:∀ k,gnQ fr a ≤ gnQ fr (a + k)
 | 0=>Int.le_refl _
 | k + 1=>by
  have:=LK (a:=a) k;show _ ≤ (if fr (a + k)=true then gnQ fr (a + k) + 1 else gnQ fr (a + k));split <;> omega
theorem dD (hd:d.k ≠ 1) {x:Int} (hx:0 ≤ x) (T:Nat):∀ w,pj d fr x T w=max (x - (gnQ fr (T + w) - gnQ fr T)) 0
 | 0=>by show x=max (x - (gnQ fr T - gnQ fr T)) 0;omega
 | w + 1=>by
  show Zu d fr (pj d fr x T w) (T + w)=max (x - ((if fr (T + w)=true then gnQ fr (T + w) + 1 else gnQ fr (T + w)) - gnQ fr T)) 0;have:=LK (fr:=fr) (a:=T) w;rw [Vm (Qw hx T w),dD hd hx T w,if_neg hd];split <;> omega
theorem xG (hd:d.k=1) {x:Int} (hx:0 ≤ x) {T u:Nat} (hu:fr (T + u)=true):pj d fr x T (u + 1)=0:=by
 show Zu d fr (pj d fr x T u) (T + u)=0;rw [Vm (Qw hx T u),if_pos hu,if_pos hd]
structure jC (d:WD) (fr:Nat→Bool) (c:Nat→Int) (z:Nat):Prop where
 z0:0 < z
 fp:∀ k,fr (k + z)=fr k
 cp:∀ k,c (k + z)=c k
 c0:∀ k,0 ≤ c k
 fe:∃ k,k < z∧fr k=true
 gr:qe d fr c z=0
theorem jC.done (B:jC d fr c z) {T:Nat} (hT:T < 4 * z):pj d fr (qS d fr c 0 T + c T) T (9 * z - T)=0:=by
 have q0:=Tl (d:=d) (fr:=fr) B.c0 (Int.le_refl 0) T;have c0:=B.c0 T;obtain ⟨k,hk,hf⟩:=B.fe;by_cases hd:d.k=1
 ·have hu:fr (T + (4 * z + k - T))=true:=by
   rw [show T + (4 * z + k - T)=k + z + z + z + z by omega,B.fp,B.fp,B.fp,B.fp];exact hf
  have:=GG (by omega) (xG hd (x:=qS d fr c 0 T + c T) (by omega) hu) (9 * z - T - (4 * z + k - T + 1));rwa [show 4 * z + k - T + 1 + (9 * z - T - (4 * z + k - T + 1))=9 * z - T by omega] at this
 ·have hg:=B.gr;rw [VE B.c0 B.fe,if_neg hd] at hg;have hs:smQ c z ≤ gnQ fr z:=by split at hg <;> omega
  have a1:=tN (d:=d) (fr:=fr) B.c0 T;have a2:smQ c T + c T=smQ c (T + 1):=rfl;have a3:=iE B.c0 (a:=T + 1) (4 * z - (T + 1));rw [show T + 1 + (4 * z - (T + 1))=z + (z + (z + z)) by omega,Qz B.cp,Qz B.cp,Qz B.cp] at a3;have b1:=LK (fr:=fr) (a:=T) (4 * z - T);rw [show T + (4 * z - T)=4 * z by omega] at b1;have b2:gnQ fr (9 * z)=gnQ fr z + (gnQ fr z + (gnQ fr z + (gnQ fr z + (gnQ fr z + gnQ fr (4 * z))))):=by
   rw [show 9 * z=z + (z + (z + (z + (z + 4 * z)))) by omega,Kt B.fp,Kt B.fp,Kt B.fp,Kt B.fp,Kt B.fp]
  have g0:0 ≤ smQ c z:=by have:=iE B.c0 (a:=0) z;rw [Nat.zero_add] at this;exact this
  rw [dD hd (by omega),show T + (9 * z - T)=9 * z by omega];omega
structure mL (d:WD) (fr:Nat→Bool) (c:Nat→Int) (z w T:Nat):Prop where
 rg:z ≤ T∧T < 2 * z
 cp:0 < c T
 wt:Mx d fr (qS d fr c 0 T + c T) T w
 mx:∀ T' w',z ≤ T'→T' < 2 * z→0 < c T'→Mx d fr (qS d fr c 0 T' + c T') T' w'→w' ≤ w
theorem mL.all (B:jC d fr c z) {w T:Nat} (S:mL d fr c z w T) {T' w':Nat} (h4:T' < 4 * z) (hc:0 < c T') (h:Mx d fr (qS d fr c 0 T' + c T') T' w'):w' ≤ w:=by
 have q0:=fun m=>Tl (d:=d) (fr:=fr) B.c0 (Int.le_refl 0) m
 by_cases c1:T' < z
 ·have hx:=RJ (d:=d) B.fp B.cp B.c0 T';have hcz:c (T' + z)=c T':=B.cp T';have hd:=B.done (T:=T' + z) (by omega);obtain ⟨u,_,hu⟩:=fN (by have:=q0 (T' + z);omega) _ hd;have m:=S.mx (T' + z) u (by omega) (by omega) (by omega) hu;rw [Yz B.fp,hcz,show T' + z=z + T' by omega] at hu;have:=Qy (by have:=q0 T';omega) (by omega) h hu;omega
 ·by_cases c2:T' < 2 * z
  ·exact S.mx T' w' (by omega) c2 hc h
  ·by_cases c3:T' < 3 * z
   ·obtain ⟨m,rfl⟩:∃ m,T'=z + (z + m):=⟨T' - 2 * z,by omega⟩;have e:c (z + (z + m))=c (z + m):=by rw [show z + (z + m)=z + m + z by omega,B.cp]
    rw [NE B.fp B.cp B.gr,e,show z + (z + m)=z + m + z by omega,Yz B.fp] at h;exact S.mx (z + m) w' (by omega) (by omega) (by omega) h
   ·obtain ⟨m,rfl⟩:∃ m,T'=z + (z + (z + m)):=⟨T' - 3 * z,by omega⟩;have e:c (z + (z + (z + m)))=c (z + m):=by rw [show z + (z + (z + m))=z + m + z + z by omega,B.cp,B.cp]
    rw [NE B.fp B.cp B.gr,NE B.fp B.cp B.gr,e,show z + (z + (z + m))=z + m + z + z by omega,Yz B.fp,Yz B.fp] at h;exact S.mx (z + m) w' (by omega) (by omega) (by omega) h
end
noncomputable def FL (R:Nat→Int):Int→List (Nat × Int)→Prop
 | _,[]=>True
 | acc,p :: L=>1 ≤ p.2∧R p.1=acc + p.2∧FL R (acc + p.2) L
noncomputable def smL (L:List (Nat × Int)):Int:=(L.map (·.2)).sum
theorem FL.app {R:Nat→Int} {p:Nat × Int} (hp:1 ≤ p.2):∀ {acc:Int} {L:List (Nat × Int)},FL R acc L→R p.1=acc + smL L + p.2→FL R acc (L ++ [p])
 | acc,[],_,e=>⟨hp,by rw [e];show acc + 0 + p.2=_;omega,trivial⟩
 | acc,q :: L,⟨h1,h2,h3⟩,e=>⟨h1,h2,FL.app hp h3 (by rw [e];show acc + (q.2 + smL L) + p.2=_;omega)⟩
theorem FL.cong {R R':Nat→Int}:∀ {acc:Int} {L:List (Nat × Int)},(∀ p ∈ L,R' p.1=R p.1)→FL R acc L→FL R' acc L
 | _,[],_,_=>trivial
 | _,q :: L,h,⟨h1,h2,h3⟩=>⟨h1,by rw [h q (List.mem_cons_self ..)];exact h2,FL.cong (fun p hp=>h p (List.mem_cons_of_mem _ hp)) h3⟩
theorem FL.dec {R R':Nat→Int}:∀ {acc acc':Int} {L:List (Nat × Int)},acc'=acc - 1→(∀ p ∈ L,R' p.1=R p.1 - 1)→FL R acc L→FL R' acc' L
 | _,_,[],_,_,_=>trivial
 | _,_,q :: L,e,h,⟨h1,h2,h3⟩=>⟨h1,by rw [h q (List.mem_cons_self ..),h2];omega,FL.dec (by omega) (fun p hp=>h p (List.mem_cons_of_mem _ hp)) h3⟩
theorem FL.pos {R:Nat→Int}:∀ {acc:Int} {L:List (Nat × Int)},0 ≤ acc→FL R acc L→∀ p ∈ L,1 ≤ p.2∧acc + 1 ≤ R p.1
 | _,[],_,_,p,hp=>by simp at hp
 | acc,q :: L,ha,⟨h1,h2,h3⟩,p,hp=>by
  rcases List.mem_cons.mp hp with rfl | hp
  ·exact ⟨h1,by omega⟩
  ·have:=FL.pos (by omega) h3 p hp;exact ⟨this.1,by omega⟩
noncomputable abbrev rmT (d:WD) (fr:Nat→Bool) (c:Nat→Int) (T:Nat) (t:Nat):Int:=pj d fr (qS d fr c 0 t + c t) t (T - t)
structure Sy (d:WD) (fr:Nat→Bool) (c:Nat→Int) (z T:Nat) (L:List (Nat × Int)) (W:List (Nat × Nat)):Prop where
 tot:T ≤ 4 * z→smL L=qS d fr c 0 T
 ln:FL (rmT d fr c T) 0 L
 lt:∀ p ∈ L,p.1 < T∧p.1 < 4 * z∧0 < c p.1
 ws:∀ q ∈ W,q.1 < T∧q.1 < 4 * z∧0 < c q.1∧Mx d fr (qS d fr c 0 q.1 + c q.1) q.1 q.2
 al:∀ t,t < T→t < 4 * z→0 < c t→(∃ n,(t,n) ∈ L)∨∃ w,(t,w) ∈ W
 nl:(L.map (·.1)).Nodup
 nw:(W.map (·.1)).Nodup
 nb:∀ p ∈ L,∀ q ∈ W,p.1 ≠ q.1
structure Mid (d:WD) (fr:Nat→Bool) (c:Nat→Int) (z T:Nat) (L:List (Nat × Int)) (W:List (Nat × Nat)):Prop where
 tot:T < 4 * z→smL L=qS d fr c 0 T + c T
 ln:FL (rmT d fr c T) 0 L
 lt:∀ p ∈ L,p.1 ≤ T∧p.1 < 4 * z∧0 < c p.1
 ws:∀ q ∈ W,q.1 < T∧q.1 < 4 * z∧0 < c q.1∧Mx d fr (qS d fr c 0 q.1 + c q.1) q.1 q.2
 al:∀ t,t ≤ T→t < 4 * z→0 < c t→(∃ n,(t,n) ∈ L)∨∃ w,(t,w) ∈ W
 nl:(L.map (·.1)).Nodup
 nw:(W.map (·.1)).Nodup
 nb:∀ p ∈ L,∀ q ∈ W,p.1 ≠ q.1
section
variable {d:WD} {fr:Nat→Bool} {c:Nat→Int} {z T:Nat} {L:List (Nat × Int)} {W:List (Nat × Nat)}
theorem Sy.start (z:Nat):Sy d fr c z 0 [] []:=⟨fun _=>rfl,trivial,fun p hp=>by simp at hp,fun q hq=>by simp at hq,fun t h=>by omega,List.nodup_nil,List.nodup_nil,fun p hp=>by simp at hp⟩
theorem bK (L:List (Nat × Int)) (p:Nat × Int):smL (L ++ [p])=smL L + p.2:=by unfold smL;simp
theorem Sy.come (h:Sy d fr c z T L W) (h4:T < 4 * z) (hc:0 < c T):Mid d fr c z T (L ++ [(T,c T)]) W:=by
 have ht:=h.tot (by omega);refine ⟨fun _=>by rw [bK,ht],h.ln.app (by show 1 ≤ c T;omega) ?_,fun p hp=>?_,h.ws,fun t h1 h2 h3=>?_,?_,h.nw,fun p hp q hq=>?_⟩
 ·show pj d fr (qS d fr c 0 T + c T) T (T - T)=0 + smL L + c T;rw [Nat.sub_self,ht];show qS d fr c 0 T + c T=_;omega
 ·rcases List.mem_append.mp hp with hp | hp
  ·have:=h.lt p hp;exact ⟨by omega,this.2⟩
  ·rw [List.mem_singleton.mp hp];exact ⟨Nat.le_refl _,h4,hc⟩
 ·by_cases e:t=T
  ·subst e;exact .inl ⟨_,List.mem_append_right _ (List.mem_singleton.mpr rfl)⟩
  ·rcases h.al t (by omega) h2 h3 with ⟨n,hn⟩ | hw
   ·exact .inl ⟨n,List.mem_append_left _ hn⟩
   ·exact .inr hw
 ·rw [List.map_append,List.nodup_append];refine ⟨h.nl,by simp,fun a ha b hb=>?_⟩;obtain ⟨p,hp,rfl⟩:=List.mem_map.mp ha;have hb:b=T:=by simpa using hb
  have:=h.lt p hp;omega
 ·rcases List.mem_append.mp hp with hp | hp
  ·exact h.nb p hp q hq
  ·rw [List.mem_singleton.mp hp];have:=h.ws q hq;show T ≠ q.1;omega
theorem Sy.calm (h:Sy d fr c z T L W) (c0:0 ≤ c T) (hn:¬ (T < 4 * z∧0 < c T)):Mid d fr c z T L W:=
 ⟨fun h4=>by rw [h.tot (by omega)];omega,h.ln,fun p hp=>by have:=h.lt p hp;exact ⟨by omega,this.2⟩,h.ws,fun t h1 h2 h3=>by
  by_cases e:t=T
  ·subst e;exact absurd ⟨h2,h3⟩ hn
  ·exact h.al t (by omega) h2 h3,h.nl,h.nw,h.nb⟩
theorem ky {t:Nat} (ht:t ≤ T):rmT d fr c (T + 1) t=Zu d fr (rmT d fr c T t) T:=by
 unfold rmT;rw [show T + 1 - t=(T - t) + 1 by omega];show Zu d fr (pj d fr (qS d fr c 0 t + c t) t (T - t)) (t + (T - t))=_;rw [show t + (T - t)=T by omega]
theorem Mid.idle (h:Mid d fr c z T L W) (hf:¬ fr T=true∨L=[]) (c0:0 ≤ c T):Sy d fr c z (T + 1) L W:=by
 refine ⟨fun h4=>?_,h.ln.cong fun p hp=>?_,fun p hp=>?_,fun q hq=>?_,fun t h1 h2 h3=>h.al t (by omega) h2 h3,h.nl,h.nw,h.nb⟩
 ·have e:=h.tot (by omega);rw [e,so];rcases hf with hf | rfl
  ·unfold Zu;rw [if_neg hf]
  ·have e:qS d fr c 0 T + c T=0:=e.symm;have:=Zz (d:=d) (fr:=fr) (x:=0) (Int.le_refl 0) T;rw [e];omega
 ·rcases hf with hf | rfl
  ·rw [ky (h.lt p hp).1];unfold Zu;rw [if_neg hf]
  ·simp at hp
 ·have:=h.lt p hp;exact ⟨by omega,this.2⟩
 ·have:=h.ws q hq;exact ⟨by omega,this.2⟩
theorem Mid.wt (h:Mid d fr c z T L W) {p:Nat × Int} (hp:p ∈ L) (hz:rmT d fr c (T + 1) p.1=0):Mx d fr (qS d fr c 0 p.1 + c p.1) p.1 (T - p.1):=by
 have a:=(h.lt p hp).1;have b:=(h.ln.pos (Int.le_refl 0) p hp).2;unfold rmT at hz b;rw [show T + 1 - p.1=T - p.1 + 1 by omega] at hz;exact ⟨hz,by omega⟩
theorem Mid.foot (h:Mid d fr c z T L W) (hd:d.k=1) (hf:fr T=true) (c0:0 ≤ c T) (hq:0 ≤ qS d fr c 0 T):Sy d fr c z (T + 1) [] (W ++ L.map fun p=>(p.1,T - p.1)):=by
 refine ⟨fun h4=>?_,trivial,fun p hp=>by simp at hp,fun q hq=>?_,fun t h1 h2 h3=>?_,List.nodup_nil,?_,fun p hp=>by simp at hp⟩
 ·rw [so,Vm (by omega),if_pos hf,if_pos hd];rfl
 ·rcases List.mem_append.mp hq with hq | hq
  ·have:=h.ws q hq;exact ⟨by omega,this.2⟩
  ·obtain ⟨p,hp,rfl⟩:=List.mem_map.mp hq;have a:=h.lt p hp;refine ⟨by show p.1 < T + 1;omega,a.2.1,a.2.2,h.wt hp ?_⟩;have b:=(h.ln.pos (Int.le_refl 0) p hp).2;rw [ky a.1,Vm (by omega),if_pos hf,if_pos hd]
 ·rcases h.al t (by omega) h2 h3 with ⟨n,hn⟩ | ⟨w,hw⟩
  ·exact .inr ⟨_,List.mem_append_right _ (List.mem_map.mpr ⟨_,hn,rfl⟩)⟩
  ·exact .inr ⟨w,List.mem_append_left _ hw⟩
 ·rw [List.map_append,List.map_map,List.nodup_append];refine ⟨h.nw,h.nl,fun a ha b hb=>?_⟩;obtain ⟨q,hq,rfl⟩:=List.mem_map.mp ha;obtain ⟨p,hp,rfl⟩:=List.mem_map.mp hb;exact fun e=>h.nb p hp q hq e.symm
theorem Mid.one {p:Nat × Int} (h:Mid d fr c z T (p :: L) W) (hd:d.k ≠ 1) (hf:fr T=true) (c0:0 ≤ c T) (hq:0 ≤ qS d fr c 0 T) :
  (p.2=1→Sy d fr c z (T + 1) L (W ++ [(p.1,T - p.1)]))∧(p.2 ≠ 1→Sy d fr c z (T + 1) ((p.1,p.2 - 1) :: L) W):=by
 have hstep:∀ q ∈ p :: L,rmT d fr c (T + 1) q.1=rmT d fr c T q.1 - 1:=fun q hq'=>by
  have b:=(h.ln.pos (Int.le_refl 0) q hq').2;rw [ky (h.lt q hq').1,Vm (by omega),if_pos hf,if_neg hd];omega
 obtain ⟨l1,l2,l3⟩:=h.ln;have tot:T + 1 ≤ 4 * z→smL (p :: L) - 1=qS d fr c 0 (T + 1):=fun h4=>by
  have e:=h.tot (by omega);have b:1 ≤ smL (p :: L):=by
   rw [e];by_cases hT:0 < c T
   ·omega
   ·have:smL (p :: L)=p.2 + smL L:=rfl;have nn:∀ {R:Nat→Int} {acc:Int} {L:List (Nat × Int)},FL R acc L→0 ≤ smL L:=fun {R acc L}=>by
     induction L generalizing acc with
     | nil=>intro _;exact Int.le_refl _
     | cons q L ih=>intro ⟨a,_,b⟩;have:=ih b;show 0 ≤ q.2 + smL L;omega
    have:=nn l3;omega
  rw [so,Vm (by omega),if_pos hf,if_neg hd,← e];omega
 have tl:smL (p :: L)=p.2 + smL L:=rfl;have nd:=h.nl;rw [List.map_cons,List.nodup_cons] at nd;refine ⟨fun e1=>⟨fun h4=>?_,l3.dec (by omega) (fun q hq'=>hstep q (List.mem_cons_of_mem _ hq')),fun q hq'=>?_,fun q hq'=>?_,fun t h1 h2 h3=>?_,nd.2,?_,fun q hq' r hr=>?_⟩,fun e1=>⟨fun h4=>?_,⟨by show 1 ≤ p.2 - 1;omega,?_,l3.dec (by show 0 + (p.2 - 1)=0 + p.2 - 1;omega) (fun q hq'=>hstep q (List.mem_cons_of_mem _ hq'))⟩,fun q hq'=>?_,fun q hq'=>?_,fun t h1 h2 h3=>?_,h.nl,h.nw,fun q hq' r hr=>?_⟩⟩
 ·rw [← tot h4];omega
 ·have:=h.lt q (List.mem_cons_of_mem _ hq');exact ⟨by omega,this.2⟩
 ·rcases List.mem_append.mp hq' with hq' | hq'
  ·have:=h.ws q hq';exact ⟨by omega,this.2⟩
  ·rw [List.mem_singleton.mp hq'];have a:=h.lt p (List.mem_cons_self ..);refine ⟨by show p.1 < T + 1;omega,a.2.1,a.2.2,h.wt (List.mem_cons_self ..) ?_⟩;rw [hstep p (List.mem_cons_self ..),l2];omega
 ·rcases h.al t (by omega) h2 h3 with ⟨n,hn⟩ | ⟨w,hw⟩
  ·rcases List.mem_cons.mp hn with e | hn
   ·exact .inr ⟨_,List.mem_append_right _ (List.mem_singleton.mpr (by rw [← e]))⟩
   ·exact .inl ⟨n,hn⟩
  ·exact .inr ⟨w,List.mem_append_left _ hw⟩
 ·rw [List.map_append,List.nodup_append];refine ⟨h.nw,by simp,fun a ha b hb=>?_⟩;obtain ⟨q,hq',rfl⟩:=List.mem_map.mp ha;have hb:b=p.1:=by simpa using hb
  rw [hb];exact fun e=>h.nb p (List.mem_cons_self ..) q hq' e.symm
 ·rcases List.mem_append.mp hr with hr | hr
  ·exact h.nb q (List.mem_cons_of_mem _ hq') r hr
  ·rw [List.mem_singleton.mp hr];intro e;exact nd.1 (List.mem_map.mpr ⟨q,hq',e⟩)
 ·rw [← tot h4];show p.2 - 1 + smL L=_;omega
 ·rw [hstep p (List.mem_cons_self ..),l2];show 0 + p.2 - 1=0 + (p.2 - 1);omega
 ·rcases List.mem_cons.mp hq' with rfl | hq'
  ·have:=h.lt p (List.mem_cons_self ..);exact ⟨by show p.1 < T + 1;omega,this.2⟩
  ·have:=h.lt q (List.mem_cons_of_mem _ hq');exact ⟨by omega,this.2⟩
 ·have:=h.ws q hq';exact ⟨by omega,this.2⟩
 ·rcases h.al t (by omega) h2 h3 with ⟨n,hn⟩ | hw
  ·rcases List.mem_cons.mp hn with e | hn
   ·exact .inl ⟨p.2 - 1,by rw [← e];exact List.mem_cons_self ..⟩
   ·exact .inl ⟨n,List.mem_cons_of_mem _ hn⟩
  ·exact .inr hw
 ·rcases List.mem_cons.mp hq' with rfl | hq'
  ·exact h.nb p (List.mem_cons_self ..) r hr
  ·exact h.nb q (List.mem_cons_of_mem _ hq') r hr
theorem Sy.end (B:jC d fr c z) (h:Sy d fr c z (9 * z) L W) {w t:Nat} (S:mL d fr c z w t):(t,w) ∈ W∧∀ q ∈ W,q.2 ≤ w:=by
 have hz:=B.z0;have q0:=Tl (d:=d) (fr:=fr) B.c0 (Int.le_refl 0) t;have ht:=S.rg;refine ⟨?_,fun q hq=>?_⟩
 ·rcases h.al t (by omega) (by omega) S.cp with ⟨n,hn⟩ | ⟨w',hw⟩
  ·exfalso;have b:=(h.ln.pos (Int.le_refl 0) _ hn).2;have e:rmT d fr c (9 * z) t=0:=B.done (by omega);have b:0 + 1 ≤ rmT d fr c (9 * z) t:=b;omega
  ·have a:=(h.ws _ hw).2.2.2;rw [MI (by have:=S.cp;omega) S.wt a];exact hw
 ·have a:=h.ws q hq;exact S.all B a.2.1 a.2.2.1 a.2.2.2
end
end My
namespace My
open PySem L2
noncomputable abbrev Bt (d:WD):List V:=[.str (Hd d.k),.str d.name,.int d.start,.int d.fin,.int d.off,.int d.near,.int d.least]
noncomputable def LW (H:Hp) (wl:Addr) (ds:List WD):Prop:=∃ qs:List Addr,H wl=some (.lst (qs.map V.ref))∧qs.length=ds.length∧∀ (i:Nat) (q:Addr) (d:WD),qs[i]? = some q→ds[i]? = some d→H q=some (.tup (Bt d))
structure kN (n:Int) (ds:List WD):Prop where
 al:∀ d ∈ ds,WOk n d∧d.off ≤ 8∧d.least ≤ 4
 nd:(ds.map (·.name)).Nodup
theorem kN.cok {n:Int} {ds:List WD} (h:kN n ds) (hn:2 ≤ n∧n ≤ 99) (hl:1 ≤ ds.length∧ds.length ≤ 12):COk n ds:=⟨hn,hl,fun d hd=>(h.al d hd).1,h.nd⟩
theorem SK {i:Int} (h0:0 ≤ i) (h1:i < 3):atI [V.str (Str.ofString "car"),V.str (Str.ofString "foot"),V.str (Str.ofString "tram")] i=some (.str (Hd i.toNat)):=by
 have:i=0∨i=1∨i=2:=by omega
 rcases this with rfl | rfl | rfl
 ·exact Ib (j:=0) rfl
 ·exact Ib (j:=1) rfl
 ·exact Ib (j:=2) rfl
noncomputable def oth:WD:=⟨0,Str.ofString "c",0,6,0,0,1⟩
noncomputable def W46 (d:WD):Prop:=∃ k j e o:Nat,k < 3∧j < 2∧e < 5∧o < 5∧d=⟨k,BH (97 + j),0,1 + (e:Int),(o:Int),0,1⟩
theorem gD:∀ j,j < 2→made (BH (97 + j)) am 8=true:=by decide +kernel
theorem cL:∀ j,j < 2→BH (97 + j) ≠ Str.ofString "c" := by decide +kernel
theorem W46.ok {d:WD} (h:W46 d):WOk 9 d∧d.off ≤ 8∧d.least ≤ 4:=by
 obtain ⟨k,j,e,o,h1,h2,h3,h4,rfl⟩:=h;exact ⟨⟨h1,gD j h2,⟨by dsimp only;omega,by dsimp only;omega⟩,⟨by dsimp only;omega,by dsimp only;omega⟩,by dsimp only;omega,⟨by dsimp only;omega,by dsimp only;omega⟩,⟨by dsimp only;omega,by dsimp only;omega⟩,⟨by dsimp only;omega,by dsimp only;omega⟩⟩,by dsimp only;omega,by dsimp only;omega⟩
theorem QL:WOk 9 oth∧oth.off ≤ 8∧oth.least ≤ 4:=by
 refine ⟨⟨by decide,by decide +kernel,⟨by decide,by decide⟩,⟨by decide,by decide⟩,by decide,⟨by decide,by decide⟩,⟨by decide,by decide⟩,⟨by decide,by decide⟩⟩,by decide,by decide⟩
theorem W46.ne {d:WD} (h:W46 d):d.name ≠ oth.name:=by
 obtain ⟨k,j,e,o,h1,h2,h3,h4,rfl⟩:=h;exact cL j h2
theorem W46.k3 {d:WD} (h:W46 d):d.k < 3:=by
 obtain ⟨k,j,e,o,h1,h2,h3,h4,rfl⟩:=h;exact h1
theorem W46.part {d:WD} (h:W46 d):d.start=0∧d.fin ≠ 6∧d.least=1∧0 ≤ d.off∧d.off ≤ 4:=by
 obtain ⟨k,j,e,o,h1,h2,h3,h4,rfl⟩:=h;exact ⟨rfl,by dsimp only;omega,rfl,by dsimp only;omega,by dsimp only;omega⟩
noncomputable def D46 (d:WD) (ds:List WD):Prop:=ds=[d,oth]∨ds=[oth,d]
theorem D46.mem {d:WD} {ds:List WD} (h:D46 d ds) {e:WD}:e ∈ ds↔e=d∨e=oth:=by
 rcases h with rfl | rfl
 ·simp
 ·simp;exact or_comm
theorem D46.ds {d:WD} {ds:List WD} (h:D46 d ds) (w:W46 d):kN 9 ds:=by
 refine ⟨fun e he=>?_,?_⟩
 ·rcases h.mem.mp he with rfl | rfl
  ·exact w.ok
  ·exact QL
 ·have:=w.ne;rcases h with rfl | rfl
  ·simpa using this
  ·simpa using Ne.symm this
theorem D46.len {d:WD} {ds:List WD} (h:D46 d ds):ds.length=2:=by rcases h with rfl | rfl <;> rfl
theorem D46.at {d:WD} {ds:List WD} (h:D46 d ds):∃ i:Nat,ds[i]? = some d:=by
 rcases h with rfl | rfl
 ·exact ⟨0,rfl⟩
 ·exact ⟨1,rfl⟩
theorem D46.wof {d:WD} {ds:List WD} (h:D46 d ds) (w:W46 d) {e:WD} (he:e=d∨e=oth):wOf ds e.name=some e:=by
 have hn:=w.ne;unfold wOf;rcases h with rfl | rfl
 ·rcases he with rfl | rfl
  ·rw [List.find?_cons,decide_eq_true rfl]
  ·rw [List.find?_cons,decide_eq_false hn,List.find?_cons,decide_eq_true rfl]
 ·rcases he with rfl | rfl
  ·rw [List.find?_cons,decide_eq_false (Ne.symm hn),List.find?_cons,decide_eq_true rfl]
  ·rw [List.find?_cons,decide_eq_true rfl]
theorem D46.dok {d:WD} {ds:List WD} (h:D46 d ds) (w:W46 d):DOk ds:=fun e he=>by
 have o:=((h.ds w).al e he).1;exact ⟨o.of.1,by have:=o.of.2;omega⟩
noncomputable def pL (z:Int) (ds:List WD) (s e:SD):Prop:=e.name=s.name→∀ d,wOf ds s.name=some d→s.n + me d + zc d ≤ (e.b - s.b) % z∧e.n + me d + zc d ≤ (s.b - e.b) % z
theorem pL.symm {z:Int} {ds:List WD} {s e:SD} (h:pL z ds s e):pL z ds e s:=fun hn d hd=>by
 rw [← hn] at hd;exact (h hn.symm d hd).symm
theorem sE {z:Int} {ds:List WD} {sp:List SD} (al:∀ s ∈ sp,∃ d,wOf ds s.name=some d∧d.least ≤ s.n∧s.n + me d + zc d ≤ z) (pw:sp.Pairwise (pL z ds)):Xv ds z sp=none:=by
 unfold Xv;refine List.find?_eq_none.mpr fun e he=>?_
 obtain ⟨s,k⟩:=e;have hk:sp[k]? = some s:=by simpa using List.mem_zipIdx_iff_getElem?.mp he
 obtain ⟨d,hw,hle,hr⟩:=al s (List.mem_of_getElem? hk);intro c;unfold Dt at c;dsimp only at c;rw [hw] at c;have c:(decide (s.n < d.least) || decide (iC z sp k s < s.n + me d + zc d))=true:=c;rw [decide_eq_false (show ¬ s.n < d.least by omega),Bool.false_or,decide_eq_true_eq] at c;unfold iC at c;cases hmin:((ofN s.name (sp.eraseIdx k)).map fun p=>(p.1 - s.b) % z).min? with
 | none=>
  rw [hmin] at c;have c:z < s.n + me d + zc d:=c;omega
 | some v=>
  rw [hmin] at c;have c:v < s.n + me d + zc d:=c;obtain ⟨p,hp,rfl⟩:=List.mem_map.mp (List.min?_mem hmin);obtain ⟨e,hem,en,rfl⟩:=xy hp;obtain ⟨j,hj,ej⟩:=List.mem_eraseIdx_iff_getElem?.mp hem;have hp:=List.pairwise_iff_getElem.mp pw;obtain ⟨kl,ke⟩:=List.getElem?_eq_some_iff.mp hk;obtain ⟨jl,je⟩:=List.getElem?_eq_some_iff.mp ej;have far:pL z ds s e:=by
   by_cases c1:k < j
   ·have:=hp k j kl jl c1;rwa [ke,je] at this
   ·have:=hp j k jl kl (by omega);rw [ke,je] at this;exact this.symm
  have:=(far en d hw).1;dsimp only at c;omega
noncomputable def vd (d:WD):Int:=if d.k=1 then d.off else 3
theorem Yy {d:WD} (hk:d.k < 3):vd d=me d + zc d:=by
 unfold vd me zc
 match h:d.k,hk with
 | 0,_=>rfl
 | 1,_=>simp
 | 2,_=>rfl
theorem ur {d:WD} (w:W46 d):0 ≤ vd d∧vd d ≤ 4:=by
 have:=w.part;unfold vd;split <;> omega
noncomputable def lh (ns:List Int) (d:WD) (z:Nat):Int:=if (if (z:Int) / (vd d + 1) < 1 + uf ns 60 3 then (z:Int) / (vd d + 1) else 1 + uf ns 60 3) > 1 then (if (z:Int) / (vd d + 1) < 1 + uf ns 60 3 then (z:Int) / (vd d + 1) else 1 + uf ns 60 3) else 1
noncomputable def fg (ns:List Int) (d:WD) (z:Nat):Int:=(z:Int) / lh ns d z
noncomputable def Iu (ns:List Int) (d:WD) (z k:Nat):Int:=1 + uf ns (62 + (k:Int)) (fg ns d z - vd d - 1 + 1)
noncomputable def spK (ns:List Int) (d:WD) (z k:Nat):Int × Int:=((uf ns 61 z + (k:Int) * fg ns d z + uf ns (66 + (k:Int)) (fg ns d z - vd d - Iu ns d z k + 1)) % (z:Int),Iu ns d z k)
noncomputable def spF (ns:List Int) (d:WD) (z:Nat):List (Int × Int):=(List.range (lh ns d z).toNat).map (spK ns d z)
theorem Gq {ns:List Int} {d:WD} (w:W46 d) {z:Nat} (hz:5 ≤ z):(lh ns d z=1∨lh ns d z=2∨lh ns d z=3)∧vd d + 1 ≤ fg ns d z∧lh ns d z * fg ns d z ≤ z:=by
 have d1:=Df ns 60 (m:=3) (by decide);have d2:=qg ns 60 (m:=3) (by decide);have hi:=ur w;unfold fg;have hm:lh ns d z=1∨(1 < lh ns d z∧lh ns d z ≤ 3∧lh ns d z ≤ (z:Int) / (vd d + 1)):=by
  unfold lh;split <;> split <;> omega
 generalize lh ns d z=m at hm ⊢;have h5:vd d=0∨vd d=1∨vd d=2∨vd d=3∨vd d=4:=by omega
 rcases hm with rfl | ⟨g1,g2,g3⟩
 ·exact ⟨.inl rfl,by omega,by omega⟩
 ·have h3:m=2∨m=3:=by omega
  rcases h5 with e | e | e | e | e <;> rw [e] at g3 ⊢ <;> rcases h3 with rfl | rfl <;> exact ⟨by omega,by omega,by omega⟩
theorem XG {ns:List Int} {d:WD} (w:W46 d) {z:Nat} (hz:5 ≤ z) (k:Nat):1 ≤ (spK ns d z k).2∧(0 ≤ (spK ns d z k).1∧(spK ns d z k).1 < z)∧∃ e,0 ≤ e∧e + (spK ns d z k).2 + vd d ≤ fg ns d z∧(spK ns d z k).1=(uf ns 61 z + (k:Int) * fg ns d z + e) % (z:Int):=by
 obtain ⟨hm,hp,_⟩:=Gq (ns:=ns) w hz;have t1:=Df ns (62 + (k:Int)) (m:=fg ns d z - vd d - 1 + 1) (by omega);have t2:=qg ns (62 + (k:Int)) (m:=fg ns d z - vd d - 1 + 1) (by omega);have ht:Iu ns d z k=1 + uf ns (62 + (k:Int)) (fg ns d z - vd d - 1 + 1):=rfl;have e1:=Df ns (66 + (k:Int)) (m:=fg ns d z - vd d - Iu ns d z k + 1) (by omega);have e2:=qg ns (66 + (k:Int)) (m:=fg ns d z - vd d - Iu ns d z k + 1) (by omega);refine ⟨by show 1 ≤ Iu ns d z k;omega,⟨Int.emod_nonneg _ (by omega),Int.emod_lt_of_pos _ (by omega)⟩,_,e1,?_,rfl⟩;show _ + Iu ns d z k + _ ≤ _;omega
theorem TN {ns:List Int} {d:WD} (w:W46 d) {z:Nat} (hz:5 ≤ z) {i j:Nat} (hij:i < j) (hj:(j:Int) < lh ns d z):(spK ns d z i).2 + vd d ≤ ((spK ns d z j).1 - (spK ns d z i).1) % (z:Int)∧(spK ns d z j).2 + vd d ≤ ((spK ns d z i).1 - (spK ns d z j).1) % (z:Int):=by
 obtain ⟨hm,hp,hmp⟩:=Gq (ns:=ns) w hz;have hi0:=ur w;obtain ⟨a1,_,e,a3,a4,a5⟩:=XG (ns:=ns) w hz i;obtain ⟨b1,_,f,b3,b4,b5⟩:=XG (ns:=ns) w hz j;have W1:∃ W,(uf ns 61 z + (j:Int) * fg ns d z + f) - (uf ns 61 z + (i:Int) * fg ns d z + e)=W∧(spK ns d z i).2 + vd d ≤ W∧W + (spK ns d z j).2 + vd d ≤ z:=by
  have hc:(i=0∧j=1)∨(i=0∧j=2)∨(i=1∧j=2):=by omega
  rcases hm with hm | hm | hm <;> rw [hm] at hj hmp <;> rcases hc with ⟨rfl,rfl⟩ | ⟨rfl,rfl⟩ | ⟨rfl,rfl⟩ <;> first | (exfalso;omega) | (refine ⟨_,rfl,?_,?_⟩ <;> omega)
 obtain ⟨W,eW,w1,w2⟩:=W1;rw [a5,b5,← Int.sub_emod,← Int.sub_emod,show (uf ns 61 z + (i:Int) * fg ns d z + e) - (uf ns 61 z + (j:Int) * fg ns d z + f)=(z - W) + (z:Int) * (-1) by omega,Int.add_mul_emod_self_left,eW,Int.emod_eq_of_lt (by omega) (by omega),Int.emod_eq_of_lt (by omega) (by omega)];omega
theorem wE {ns:List Int} {d:WD} {z i:Nat} {p:Int × Int} (h:(spF ns d z)[i]? = some p):(i:Int) < lh ns d z∧p=spK ns d z i:=by
 unfold spF at h;rw [List.getElem?_map] at h;cases e:(List.range (lh ns d z).toNat)[i]? with
 | none=>rw [e] at h;cases h
 | some v=>
  rw [e] at h;have hl:=(List.getElem?_eq_some_iff.mp e).1;rw [List.length_range] at hl;rw [List.getElem?_range hl] at e;cases e;cases h;exact ⟨by omega,rfl⟩
theorem Ru {ns:List Int} {d:WD} (w:W46 d) {z:Nat} (hz:5 ≤ z):∀ p ∈ spF ns d z,1 ≤ p.2∧p.2 + vd d ≤ z∧0 ≤ p.1∧p.1 < z:=fun p hp=>by
 obtain ⟨i,hi⟩:=List.getElem?_of_mem hp;obtain ⟨_,rfl⟩:=wE hi;obtain ⟨a1,a2,e,a3,a4,_⟩:=XG (ns:=ns) w hz i;obtain ⟨hm,_,hmp⟩:=Gq (ns:=ns) w hz;have i0:=ur w;have:fg ns d z ≤ z:=by
  rcases hm with hm | hm | hm <;> rw [hm] at hmp <;> omega
 exact ⟨a1,by omega,a2⟩
theorem Hu {ns:List Int} {d:WD} (w:W46 d) {z:Nat} (hz:5 ≤ z):1 ≤ (spF ns d z).length∧(spF ns d z).length ≤ 3:=by
 unfold spF;rw [List.length_map,List.length_range];rcases (Gq (ns:=ns) w hz).1 with h | h | h <;> rw [h] <;> exact ⟨by decide,by decide⟩
theorem mF {ns:List Int} {d:WD} (w:W46 d) {z:Nat} (hz:5 ≤ z):(spF ns d z).Pairwise fun p q=>p.2 + vd d ≤ (q.1 - p.1) % (z:Int)∧q.2 + vd d ≤ (p.1 - q.1) % (z:Int):=by
 refine List.pairwise_iff_getElem.mpr fun i j hi hj hij=>?_
 obtain ⟨a,ea⟩:=wE (List.getElem?_eq_getElem hi);obtain ⟨b,eb⟩:=wE (List.getElem?_eq_getElem hj);rw [ea,eb];exact TN w hz hij b
noncomputable def Ve (x:Str) (ps:List (Int × Int)):List SD:=ps.map fun p=>⟨x,p.1,p.2⟩
noncomputable def Us (l:List SD) (j:Nat):List SD:=l.take j ++ ⟨Str.ofString "c",0,1⟩ :: l.drop j
theorem Cj (l:List SD) (j:Nat):(Us l j).Perm (⟨Str.ofString "c",0,1⟩ :: l):=by
 unfold Us;refine List.perm_middle.trans ?_;rw [List.take_append_drop]
theorem Ix {x:Str} {ps:List (Int × Int)} {s:SD} (h:s ∈ Ve x ps):∃ p ∈ ps,s=⟨x,p.1,p.2⟩:=by
 obtain ⟨p,hp,e⟩:=List.mem_map.mp h;exact ⟨p,hp,e.symm⟩
theorem LG {l:List SD} {j:Nat} {s:SD} (h:s ∈ Us l j):s=⟨Str.ofString "c",0,1⟩∨s ∈ l:=List.mem_cons.mp ((Cj l j).mem_iff.mp h)
theorem EK {d:WD} (w:W46 d) (ps:List (Int × Int)) (j:Nat):ofN d.name (Us (Ve d.name ps) j)=ps:=by
 have hn:decide (Str.ofString "c"=d.name)=false:=decide_eq_false (Ne.symm w.ne);have hall:∀ qs:List (Int × Int),ofN d.name (Ve d.name qs)=qs:=fun qs=>by
  unfold ofN Ve;rw [List.filter_eq_self.mpr (fun s hs=>by obtain ⟨p,_,rfl⟩:=List.mem_map.mp hs;exact decide_eq_true rfl),List.map_map];exact List.map_id' qs
 have key:ofN d.name (Us (Ve d.name ps) j)=ofN d.name (Ve d.name ps):=by
  unfold ofN Us;rw [List.filter_append,List.filter_cons];dsimp only;rw [hn,if_neg Bool.false_ne_true,← List.filter_append,List.take_append_drop]
 rw [key,hall]
structure HP (z:Nat) (ds:List WD) (sp:List SD):Prop where
 ok:JJ z sp
 kn:∀ s ∈ sp,∃ d,wOf ds s.name=some d
 nv:ax ds sp=none
 sh:Xv ds z sp=none
 cl:Gw 9 z sp ds=none
theorem mP {ns:List Int} {d:WD} (w:W46 d) {ds:List WD} (D:D46 d ds) {z:Nat} (hz:5 ≤ z∧z ≤ 60) (j:Nat):HP z ds (Us (Ve d.name (spF ns d z)) j):=by
 have cases:∀ s ∈ Us (Ve d.name (spF ns d z)) j,(s=⟨Str.ofString "c",0,1⟩)∨∃ p ∈ spF ns d z,s=⟨d.name,p.1,p.2⟩:=fun s hs=>by
  rcases LG hs with h | h
  ·exact .inl h
  ·exact .inr (Ix h)
 have i0:=ur w;have lc:oth.name=Str.ofString "c" := rfl;refine ⟨⟨?_,fun s hs=>?_⟩,fun s hs=>?_,?_,?_,?_⟩
 ·have:=(Cj (Ve d.name (spF ns d z)) j).length_eq;have hl:=Hu (ns:=ns) w hz.1;rw [this,List.length_cons];unfold Ve;rw [List.length_map];omega
 ·rcases cases s hs with rfl | ⟨p,hp,rfl⟩
  ·exact ⟨by decide,by decide,by decide,by decide⟩
  ·have:=Ru w hz.1 p hp;dsimp only;omega
 ·rcases cases s hs with rfl | ⟨p,hp,rfl⟩
  ·exact ⟨oth,D.wof w (.inr rfl)⟩
  ·exact ⟨d,D.wof w (.inl rfl)⟩
 ·refine CP fun e he=>?_
  rcases D.mem.mp he with rfl | rfl
  ·obtain ⟨p,hp⟩:=List.exists_mem_of_length_pos (show 0 < (spF ns e z).length by have:=(Hu (ns:=ns) w hz.1).1;omega);exact ⟨⟨e.name,p.1,p.2⟩,(Cj _ j).mem_iff.mpr (List.mem_cons_of_mem _ (List.mem_map.mpr ⟨p,hp,rfl⟩)),rfl⟩
  ·exact ⟨⟨Str.ofString "c",0,1⟩,(Cj _ j).mem_iff.mpr (List.mem_cons_self ..),rfl⟩
 ·refine sE (fun s hs=>?_) ?_
  ·rcases cases s hs with rfl | ⟨p,hp,rfl⟩
   ·exact ⟨oth,D.wof w (.inr rfl),by decide,by have:(1:Int) + me oth + zc oth=4:=rfl;dsimp only;omega⟩
   ·have:=Ru w hz.1 p hp;have e:=Yy w.k3;exact ⟨d,D.wof w (.inl rfl),by have:=w.part;dsimp only;omega,by dsimp only;omega⟩
  ·refine ((Cj _ j).pairwise_iff (fun {a b} h=>pL.symm h)).mpr (List.pairwise_cons.mpr ⟨fun s hs=>?_,?_⟩)
   ·obtain ⟨p,hp,rfl⟩:=Ix hs;exact fun hn=>absurd hn w.ne
   ·unfold Ve;refine List.pairwise_map.mpr ((mF w hz.1).imp fun {p q} h=>?_);intro _ d' hd';rw [D.wof w (.inl rfl)] at hd';cases hd';have e:=Yy w.k3;dsimp only;omega
 ·refine uP fun a ha b hb hn=>?_
  have:=w.part;have o1:oth.start=0∧oth.fin=6:=⟨rfl,rfl⟩;rcases D.mem.mp ha with rfl | rfl <;> rcases D.mem.mp hb with rfl | rfl
  ·exact absurd rfl hn
  ·exact ⟨by omega,by omega⟩
  ·exact ⟨by omega,by omega⟩
  ·exact absurd rfl hn
noncomputable def Hk (ps:List (Int × Int)) (z:Nat) (turn:Int):Bool:=ps.any fun p=>decide ((turn - p.1) % (z:Int) < p.2)
theorem sN {ns:List Int} {d:WD} (w:W46 d) {z:Nat} (hz:5 ≤ z) (j:Nat) (turn:Int):Ag z (Us (Ve d.name (spF ns d z)) j) d turn=Hk (spF ns d z) z turn:=by
 have m0:=Int.emod_nonneg turn (show (z:Int) ≠ 0 by omega);have m1:=Int.emod_lt_of_pos turn (show (0:Int) < z by omega);have e:=Yy w.k3;have r0:=Bw d;have f0:=uz (d:=d) (by have:=w.part;omega);have key:=rD (z:=z) (by omega) (rd:=(zc d).toNat) (fd:=(me d).toNat) (ps:=spF ns d z) (fun p hp=>by have:=Ru w hz p hp;omega) ((mF w hz).imp fun {p q} h=>⟨by omega,by omega⟩) (i:=(turn % (z:Int)).toNat) (by omega);have hlen:(xn z (Us (Ve d.name (spF ns d z)) j) d).length=z:=bi _ _ _ _;have hj:(turn % (z:Int)).toNat < (xn z (Us (Ve d.name (spF ns d z)) j) d).length:=by rw [hlen];omega
 have hl:xn z (Us (Ve d.name (spF ns d z)) j) d=Rh z (zc d).toNat (me d).toNat (spF ns d z):=by unfold xn;rw [EK w]
 unfold Ag Vn Hk;rw [Bool.eq_iff_iff,decide_eq_true_eq,List.any_eq_true,List.getElem?_eq_getElem hj];show (_:Str)=_↔_;have h2:(xn z (Us (Ve d.name (spF ns d z)) j) d)[(turn % (z:Int)).toNat]=Str.ofString "free" ↔ (Rh z (zc d).toNat (me d).toNat (spF ns d z))[(turn % (z:Int)).toNat]? = some (Str.ofString "free"):=by
  rw [← hl,List.getElem?_eq_getElem hj];simp
 rw [show (some (xn z (Us (Ve d.name (spF ns d z)) j) d)[(turn % (z:Int)).toNat]).getD (Str.ofString "")=(xn z (Us (Ve d.name (spF ns d z)) j) d)[(turn % (z:Int)).toNat] from rfl,h2,key];refine ⟨fun ⟨p,hp,h⟩=>⟨p,hp,decide_eq_true ?_⟩,fun ⟨p,hp,h⟩=>⟨p,hp,?_⟩⟩
 ·rw [Int.toNat_of_nonneg m0,Int.emod_sub_emod] at h;exact h
 ·rw [Int.toNat_of_nonneg m0,Int.emod_sub_emod];exact of_decide_eq_true h
end My
namespace My
open PySem L2
theorem LM (d:WD):((((Hd d.k ++ Str.ofString " ") ++ d.name) ++ Str.ofString " ") ++ Txt.join (Str.ofString " ") [num d.start,num d.fin,num d.off,num d.near,num d.least])=Str.join bk (zj d):=by
 apply Cy;have e5:(Str.ofString " ").cps.toList=[32]:=by decide +kernel
 rw [show Txt.join (Str.ofString " ") [num d.start,num d.fin,num d.off,num d.near,num d.least]=Str.join bk [num d.start,num d.fin,num d.off,num d.near,num d.least] from StrLaws.glued_eq_join _ _];rw [Str.cps_append,Array.toList_append,DJ,vn,vn];unfold zj;simp only [Str.cps_append,Array.toList_append,List.map_cons,List.map_nil,jl,e5,List.append_assoc,List.cons_append,List.nil_append]
theorem CK (n:Int):Str.ofString "ring " ++ num n=Str.join bk [Str.ofString "ring",num n]:=by
 apply Cy;have e1:(Str.ofString "ring ").cps.toList=[114,105,110,103,32]:=by decide +kernel
 have e2:(Str.ofString "ring").cps.toList=[114,105,110,103]:=by decide +kernel
 rw [DJ,vn];simp only [Str.cps_append,Array.toList_append,List.map_cons,List.map_nil,jl,e1,e2,List.cons_append,List.nil_append]
theorem kJ {B:Nat}:∀ {ys:List Str},(∀ y ∈ ys,y.length ≤ B)→(ys.map (·.length)).sum ≤ ys.length * B
 | [],_=>by simp
 | a :: r,h=>by
  have h1:=h a (by simp);have h2:=kJ (B:=B) (ys:=r) fun y hy=>h y (List.mem_cons_of_mem _ hy)
  rw [List.map_cons,List.sum_cons,List.length_cons,Nat.succ_mul];omega
theorem YJ {n:Int} {ds:List WD} (h:COk n ds):∀ y ∈ (Vh n ds).map (Str.join bk),y.length ≤ 63:=fun y hy=>by
 obtain ⟨r,hr,rfl⟩:=List.mem_map.mp hy;have:=Gp bk 8 r fun x hx=>(h.plain r hr x hx).1
 rw [px] at this;have hl:r.length ≤ 7:=by
  rcases List.mem_cons.mp hr with rfl | hr
  ·simp
  ·obtain ⟨d,hd,rfl⟩:=List.mem_map.mp hr;simp [zj]
 omega
noncomputable def iA (K:PySem.W.Frag):Sp:=fun vs H Q _=>∃ n wl ds,vs=[.int n,.ref wl]∧LW H wl ds∧kN n ds∧(2 ≤ n∧n ≤ 99)∧(1 ≤ ds.length∧ds.length ≤ 12)∧NoT H∧Q (.str (Mv n ds)) H
noncomputable def OE (K:PySem.W.Frag):Sp:=fun vs H Q _=>∃ n wl ds,vs=[.int n,.ref wl]∧LW H wl ds∧kN n ds∧(2 ≤ n∧n ≤ 99)∧(1 ≤ ds.length∧ds.length ≤ 12)∧∀ H',Yb H H'→Q (.str (Mv n ds)) H'
section
variable {P:Program} {w:World} {K:PySem.W.Frag} {mg:Str→Option Value} {base:Heap} {t:Adr}
theorem FH (T:Txt w K mg t):Eb P w K mg base CX0 1 t.Qi t.Vi q43 (iA K):=by
 refine Eb.forget (sp:=OE K) ?_ fun vs H Q E h=>?_
 ·refine T.Vl.ok Aj (fun vs H Q E h=>?_) (fun _ _ _ s H vs Q E hr h=>?_)
  ·obtain ⟨n,wl,ds,rfl,_⟩:=h;rfl
  obtain ⟨n,wl,ds,rfl,L,D,hn,hl,q⟩:=h;refine ⟨_,(bb (zb (i:=2) Aj.nd (gf (ab (Gb mi Cc (gh fk rfl T.JK Tn (ab (pv 0) fb))) fb)))
   (bb (Kd PassesOwn.never rfl (Ld (pv 1)) (ub (i:=3) Aj.nd) (gb (Wc (On PySem.F.plainAttrs_list PySem.F.slot_list_append PySem.F.type_list_append Yg (pv 2) (ab (Gb mi (Gb mi (Gb mi (Gb mi (ac xf (pv 3) jb) Cc) (ac xf (pv 3) jb)) Cc) (On PySem.F.plainAttrs_str PySem.F.slot_str_join PySem.F.type_str_join MC Cc (ab (Fi rfl (dI (Iz oM (pv 3) (ED jb) QE)) (Yc (sc:=ib Ql) rfl (by decide +kernel)) (N:=["_law_number"]) (sel:=[none]) (Nd (M:=["_law_places","_law_ways","_law_rows","_law_way_here"]) (by decide +kernel)) (Blk.of (fun _ _ _ _=>(ub (i:=0) (kh (N:=["_law_number"]) (by decide +kernel) rfl))) (fun _ _ _ _=>⟨_,ug,by walk_at "B"⟩) (fun _ _ _ _=>⟨_,(gh fk rfl T.JK Tn (ab (pv 0) fb)),by walk_at "B"⟩))) fb))) fb)))))
   (gb (Cb (On PySem.F.plainAttrs_str PySem.F.slot_str_join PySem.F.type_str_join MC Cc (ab (pv 2) fb)))))),?_⟩
  have hC:=D.cok hn hl;obtain ⟨qs,l1,l2,al⟩:=L;have hlen:∀ x:Str,Jy x→x.length ≤ 8:=fun x h=>h.1
  have hbig:∀ k:Nat,k ≤ 1000→k ≤ sizeLine:=fun k h=>Nat.le_trans h (by decide)
  have hr5:(Str.ofString "ring ").length=5:=by decide +kernel
  have hb1:(Str.ofString " ").length=1:=by decide +kernel
  walk_at "RD";have hn8:(Str.ofString (toString n)).length ≤ 8:=(Yd (v:=n) (by omega) (by omega)).1;refine ⟨xq (by omega),hbig _ (by rw [hr5];omega),by decide,fun rl hrl'=>?_⟩;rw [CK];have s0:Yb H (upd H rl (.lst [V.str (Str.join bk [Str.ofString "ring",num n])])):=lb hrl';refine ⟨⟨_,SqL.of (s0 _ _ l1)⟩,?_⟩;refine zi.list (xs:=qs.map V.ref) (fun i σ H'=>Yb H H'∧H' rl=some (.lst (bc ((Vh n (ds.take i)).map (Str.join bk))))∧∃ x,σ=[some (.int n),some (.ref wl),some (.ref rl),x]) ?_ ?_ ?_ ?_
  ·exact ⟨s0,db,none,rfl⟩
  ·rintro i σ H' hi ⟨sm,_,_⟩;exact SqL.of (sm _ _ l1)
  ·rintro i v σ H' hv zzq;refine zzP fun zzM zzh=>?_
   obtain ⟨sm,hr,x,rfl⟩:=zzq;obtain ⟨q',hq,rfl⟩:=kc hv;have hid:i < ds.length:=by rw [← l2];exact (List.getElem?_eq_some_iff.mp hq).1
   have hd:ds[i]? = some ds[i]:=List.getElem?_eq_getElem hid;have hT:SqT K H' q' (Bt ds[i]):=SqT.of (sm _ _ (al i q' _ hq hd));have hw:=(D.al _ (List.mem_of_getElem? hd)).1;have b1:=hw.st;have b2:=hw.fi;have b3:=hw.of;have b4:=hw.nr;have b5:=hw.le;have z1:=hlen _ (gu ds[i].k);have z2:=hlen _ (Yt hw.nm);have z3:(num ds[i].start).length ≤ 8:=hlen _ (Yd (v:=ds[i].start) (by omega) (by omega));have z4:(num ds[i].fin).length ≤ 8:=hlen _ (Yd (v:=ds[i].fin) (by omega) (by omega));have z5:(num ds[i].off).length ≤ 8:=hlen _ (Yd (v:=ds[i].off) (by omega) (by omega));have z7:(num ds[i].least).length ≤ 8:=hlen _ (Yd (v:=ds[i].least) (by omega) (by omega));have z6:(num ds[i].near).length ≤ 8:=hlen _ (Yd (v:=ds[i].near) (by omega) (by omega));subst zzh;walk_at "RD";refine ⟨.inl ⟨_,SqL.of hr⟩,?_⟩;have at0:atI (Bt ds[i]) 0=some (.str (Hd ds[i].k)):=Ib (j:=0) rfl;have at1:atI (Bt ds[i]) 1=some (.str ds[i].name):=Ib (j:=1) rfl;refine ⟨_,hT,_,at0,_,rfl,hbig _ (by omega),_,hT,_,at1,_,rfl,hbig _ (by rw [Rp];omega),hbig _ (by simp only [Rp];omega),?_⟩;have hcut:uE (Bt ds[i]) (some 2) none=[.int ds[i].start,.int ds[i].fin,.int ds[i].off,.int ds[i].near,.int ds[i].least]:=rfl;refine ⟨_,hT,?_,fun p hp=>⟨⟨_,SqT.of db⟩,?_⟩⟩
   ·show ¬ (HT.sIx 7 0 (some 2)=0∧HT.sIx 7 7 none=7);decide
   rw [hcut];have hjn:(Txt.join (Str.ofString " ") [num ds[i].start,num ds[i].fin,num ds[i].off,num ds[i].near,num ds[i].least]).length ≤ 50:=by
    rw [show Txt.join (Str.ofString " ") [num ds[i].start,num ds[i].fin,num ds[i].off,num ds[i].near,num ds[i].least]=Str.join bk [num ds[i].start,num ds[i].fin,num ds[i].off,num ds[i].near,num ds[i].least] from StrLaws.glued_eq_join _ _];have:=Gp bk 8 [num ds[i].start,num ds[i].fin,num ds[i].off,num ds[i].near,num ds[i].least] (fun y hy=>by
     simp only [List.mem_cons,List.not_mem_nil,or_false] at hy;rcases hy with rfl | rfl | rfl | rfl | rfl <;> assumption)
    rw [px] at this;simp only [List.length_cons,List.length_nil] at this;omega
   refine ud.tup_zs (xs:=[.int ds[i].start,.int ds[i].fin,.int ds[i].off,.int ds[i].near,.int ds[i].least]) (zs:=bc [num ds[i].start,num ds[i].fin,num ds[i].off,num ds[i].near,num ds[i].least]) (SqT.of db) (hbig _ (show 5 ≤ 1000 by decide)) rfl (fun j v z N hv hz hN=>?_) (fun p2 hp2=>?_)
   ·have key:∃ a:Int,v=.int a∧z=.str (num a)∧0 ≤ a∧a < 100:=by
     match j,hv,hz with
     | 0,hv,hz=>cases hv;cases hz;exact ⟨_,rfl,rfl,b1.1,by omega⟩
     | 1,hv,hz=>cases hv;cases hz;exact ⟨_,rfl,rfl,b2.1,by omega⟩
     | 2,hv,hz=>cases hv;cases hz;exact ⟨_,rfl,rfl,b3.1,by omega⟩
     | 3,hv,hz=>cases hv;cases hz;exact ⟨_,rfl,rfl,b4.1,by omega⟩
     | 4,hv,hz=>cases hv;cases hz;exact ⟨_,rfl,rfl,by omega,by omega⟩
     | k + 5,hv,hz=>simp at hv
    obtain ⟨a,rfl,rfl,ha0,ha1⟩:=key;walk_at "RD";exact ⟨Sub.name,xq (by omega),hN⟩
   ·walk_at "RD";have hrp2:rl ≠ p2:=by
     rintro rfl;rw [pb (xb hr hp)] at hp2;rw [hp2] at hr;cases hr
    have hrl:(upd (upd H' p (.tup [.int ds[i].start,.int ds[i].fin,.int ds[i].off,.int ds[i].near,.int ds[i].least])) p2 (.lst (bc [num ds[i].start,num ds[i].fin,num ds[i].off,num ds[i].near,num ds[i].least]))) rl=some (.lst (bc ((Vh n (ds.take i)).map (Str.join bk)))):=by
     rw [pb hrp2,pb (xb hr hp)];exact hr
    have sm2:Yb H' (upd (upd H' p (.tup [.int ds[i].start,.int ds[i].fin,.int ds[i].off,.int ds[i].near,.int ds[i].least])) p2 (.lst (bc [num ds[i].start,num ds[i].fin,num ds[i].off,num ds[i].near,num ds[i].least]))):=(lb hp).trans (lb hp2);have hsq:=SqL.of (K:=K) (H:=upd (upd H' p (.tup [.int ds[i].start,.int ds[i].fin,.int ds[i].off,.int ds[i].near,.int ds[i].least])) p2 (.lst (bc [num ds[i].start,num ds[i].fin,num ds[i].off,num ds[i].near,num ds[i].least]))) (a:=p2) db;generalize upd (upd H' p (.tup [.int ds[i].start,.int ds[i].fin,.int ds[i].off,.int ds[i].near,.int ds[i].least])) p2 (.lst (bc [num ds[i].start,num ds[i].fin,num ds[i].off,num ds[i].near,num ds[i].least]))=H2 at hrl sm2 hsq ⊢;refine ⟨_,hsq,?_,hbig _ (by simp only [Rp];omega),_,hrl,?_,?_,?_,_,rfl⟩
    ·simp only [List.map_cons,List.map_nil,List.sum_cons,List.sum_nil,List.length_cons,List.length_nil];omega
    ·rw [im,List.length_map];exact Nat.lt_of_le_of_lt (show (Vh n (ds.take i)).length ≤ 13 by unfold Vh;rw [List.length_cons,List.length_map,List.length_take];omega) (by decide)
    ·exact fun b u e=>by rw [pb (xb e hrl')];exact sm2 _ _ (sm _ _ e)
    ·rw [db,LM ds[i]];congr 2;unfold Vh bc;simp;rw [List.take_add_one,List.getElem?_map,hd];rfl
  ·rintro σ H' zzq;refine zzP fun zzM zzh=>?_
   obtain ⟨sm,hr,x,rfl⟩:=zzq;subst zzh;walk_at "RD";rw [List.length_map,l2,List.take_length] at hr;refine ⟨_,SqL.of hr,?_,?_⟩
   ·have h63:∀ y ∈ (Vh n ds).map (Str.join bk),y.length ≤ 63:=YJ hC;have h13:((Vh n ds).map (Str.join bk)).length ≤ 13:=by
     unfold Vh;rw [List.length_map,List.length_cons,List.length_map];omega
    have:=kJ h63;rw [show (Str.ofString "\n").length=1 by decide +kernel];omega
   ·have:=q H' sm;unfold Mv at this;rw [show Txt.join (Str.ofString "\n") ((Vh n ds).map (Str.join bk))=Str.join nl ((Vh n ds).map (Str.join bk)) from StrLaws.glued_eq_join _ _];exact this
 ·obtain ⟨n,wl,ds,h1,h2,h3,h4,h5,nt,q⟩:=h;exact ⟨nt,n,wl,ds,h1,h2,h3,h4,h5,fun H' sm=>⟨sm,q⟩⟩
end
end My
namespace My
open PySem L2
theorem td0 (d:WD):atI (Bt d) 0=some (.str (Hd d.k)):=Ib (j:=0) rfl
theorem td1 (d:WD):atI (Bt d) 1=some (.str d.name):=Ib (j:=1) rfl
theorem td4 (d:WD):atI (Bt d) 4=some (.int d.off):=Ib (j:=4) rfl
theorem td6 (d:WD):atI (Bt d) 6=some (.int d.least):=Ib (j:=6) rfl
theorem CO:Str.ofString "car" ≠ Str.ofString "foot" := by decide +kernel
theorem wO:Str.ofString "car" ≠ Str.ofString "tram" := by decide +kernel
theorem OO:Str.ofString "foot" ≠ Str.ofString "tram" := by decide +kernel
theorem mO (x y z:V):uj [] [(Sum.inr (Str.ofString "car"),x),(Sum.inr (Str.ofString "foot"),y),(Sum.inr (Str.ofString "tram"),z)]=[(Sum.inr (Str.ofString "car"),x),(Sum.inr (Str.ofString "foot"),y),(Sum.inr (Str.ofString "tram"),z)]:=by
 unfold uj;simp only [List.foldl_cons,List.foldl_nil];rw [wv x (k:=Sum.inr (Str.ofString "car")) (by rfl),wv y (by simp [bo,CO]),wv z (by simp [bo,wO,OO])];rfl
theorem PJ {d:WD} (hk:d.k < 3):bo (uj [] [(Sum.inr (Str.ofString "car"),V.int 3),(Sum.inr (Str.ofString "foot"),V.int d.off),(Sum.inr (Str.ofString "tram"),V.int 3)]) (Sum.inr (Hd d.k))=some (.int (vd d)):=by
 rw [mO];unfold vd
 match h:d.k,hk with
 | 0,_=>simp [bo,Hd]
 | 1,_=>simp [bo,Hd,CO]
 | 2,_=>simp [bo,Hd,wO,OO]
theorem LO.snoc {H:Hp} {wl p:Addr} {os:List HO} {o:HO} {qs:List Addr} (l1:H wl=some (.lst (qs.map V.ref))) (lq:LQ H qs os) (hp:H p=none) (ho:∀ xs,o ≠ .lst xs) (hos:∀ u ∈ os,∀ xs,u ≠ .lst xs) :
  LO (upd (upd H p o) wl (.lst (qs.map V.ref ++ [.ref p]))) wl (os ++ [o]):=by
 have hpw:p ≠ wl:=(xb l1 hp).symm;refine ⟨qs ++ [p],by rw [db,List.map_append];rfl,LQ.app ⟨lq.1,fun i q u hq hu=>?_⟩ (LQ.one (by rw [pb hpw,db]))⟩;have e:=lq.2 i q u hq hu;rw [pb (Ge e l1 (hos u (List.mem_of_getElem? hu) _)),pb (xb e hp)];exact e
theorem UN {ps:List (Int × Int)}:∀ u ∈ List.map prO ps,∀ xs,u ≠ .lst xs:=fun u hu xs z=>by
 obtain ⟨s,_,rfl⟩:=List.mem_map.mp hu;cases z
noncomputable def Ep (K:PySem.W.Frag) (a:Addr) (ns:List Int):Sp:=fun vs H Q _=>∃ (wa:Addr) (d:WD) (z:Nat),vs=[.ref a,.ref wa,.int z]∧Sc K a ns H∧H wa=some (.tup (Bt d))∧W46 d∧(5 ≤ z∧z ≤ 60)∧∀ p H',Yb H H'→Sc K a ns H'→LO H' p ((spF ns d z).map prO)→Q (.ref p) H'
noncomputable def zu (K:PySem.W.Frag) (a:Addr) (ns:List Int):Sp:=fun vs H Q _=>∃ (wa:Addr) (d:WD) (z:Nat) (turn:Int),vs=[.ref a,.ref wa,.int z,.int turn]∧Sc K a ns H∧H wa=some (.tup (Bt d))∧W46 d∧(5 ≤ z∧z ≤ 60)∧Q (.bl (Hk (spF ns d z) z turn)) H
noncomputable def WF (K:PySem.W.Frag) (a:Addr) (ns:List Int):Sp:=fun vs H Q _=>∃ (wa:Addr) (d:WD) (z:Nat) (turn:Int),vs=[.ref a,.ref wa,.int z,.int turn]∧Sc K a ns H∧H wa=some (.tup (Bt d))∧W46 d∧(5 ≤ z∧z ≤ 60)∧∀ H',Yb H H'→Q (.bl (Hk (spF ns d z) z turn)) H'
noncomputable def xE (K:PySem.W.Frag) (a:Addr) (ns:List Int):Sp:=fun vs H Q _=>vs=[.ref a]∧Sc K a ns H∧∀ p d H',Yb H H'→Sc K a ns H'→W46 d→H' p=some (.tup (Bt d))→Q (.ref p) H'
noncomputable def bD (K:PySem.W.Frag) (a:Addr) (ns:List Int):Sp:=fun vs H Q _=>∃ z:Nat,vs=[.ref a,.int z]∧Sc K a ns H∧(5 ≤ z∧z ≤ 60)∧∀ p cs H',Yb H H'→Sc K a ns H'→H p=none→H' p=some (.lst (List.map V.int cs))→cs.length=z→(∀ x ∈ cs,0 ≤ x∧x ≤ 1000000000)→Q (.ref p) H'
theorem iK (ns:List Int) (k:Int) (h:0 < (ns.length:Int)):∃ v,atI (ns.map V.int) (k % (ns.length:Int))=some (.int v):=by
 have hk:0 ≤ k % (ns.length:Int)∧k % (ns.length:Int) < (ns.length:Int):=⟨Int.emod_nonneg _ (by omega),Int.emod_lt_of_pos _ h⟩;have hj:(k % (ns.length:Int)).toNat < ns.length:=by omega
 refine ⟨ns[(k % (ns.length:Int)).toNat],?_⟩;have e:=Ib (xs:=ns.map V.int) (j:=(k % (ns.length:Int)).toNat) (v:=.int ns[(k % (ns.length:Int)).toNat]) (by rw [List.getElem?_map,List.getElem?_eq_getElem hj] <;> rfl);rwa [Int.toNat_of_nonneg hk.1] at e
section
variable {P:Program} {w:World} {K:PySem.W.Frag} {mg:Str→Option Value} {base:Heap} {t:Adr}
theorem sw (T:Txt w K mg t) (a:Addr) (ns:List Int) (h63:ns.length ≤ 63):Eb P w K mg base CX0 2 t.og t.ig q14 (Ep K a ns):=by
 have g8:Eb P w K mg base CX0 1 t.Ae t.ye q17 (ie K a ns):=br T a ns h63;refine T.oh.ok Vc (fun vs H Q E h=>?_) (fun _ _ _ s H vs Q E hr h=>?_)
 ·obtain ⟨wa,d,z,rfl,_⟩:=h;rfl
 obtain ⟨wa,d,z,rfl,S,hw,W,hz,q⟩:=h;have hu:=Rw hr;have i0:=ur W;obtain ⟨hm,hp,hmp⟩:=Gq (ns:=ns) W hz.1;refine ⟨_,(bb (zb (i:=3) Vc.nd (wn hu (fK (yu Cc jb (yu Cc (ac xf (pv 1) jb) (yu Cc jb vK))) rfl rfl (by simp) (by decide)) (ac xf (pv 1) jb) (fun _ _=>rfl)))
   (bb (zb (i:=4) Vc.nd (dc (Ex rfl) rfl T.DH Nn (ab jb (ab (dc (yq rfl) rfl T.fH cn (ab (Gb Cd jb (qb g8 hr T.jc T.Tb.kp T.gc (ab (pv 0) (ab jb (ab jb fb))))) (ab (Gb EC (pv 2) (Gb Cd (pv 3) (ac xf (pv 1) jb))) fb))) fb))))
   (bb (zb (i:=5) Vc.nd (qb g8 hr T.jc T.Tb.kp T.gc (ab (pv 0) (ab jb (ab (pv 2) fb)))))
   (bb (zb (i:=6) Vc.nd (Gb EC (pv 2) (pv 4)))
   (bb (zb (i:=7) Vc.nd (gf fb))
   (bb (Kd PassesOwn.never rfl (ae rfl T.bf (ab (pv 4) fb)) (ub (i:=8) Vc.nd) (bb (zb (i:=9) Vc.nd (Gb qf (pv 6) (pv 3)))
   (bb (zb (i:=10) Vc.nd (Gb Cd (ac xf (pv 1) jb) (qb g8 hr T.jc T.Tb.kp T.gc (ab (pv 0) (ab (Gb Cd jb (pv 8)) (ab (Gb Cd (Gb qf (pv 9) (ac xf (pv 1) jb)) jb) fb))))))
   (gb (Wc (On PySem.F.plainAttrs_list PySem.F.slot_list_append PySem.F.type_list_append Yg (pv 7) (ab (Bo (ab (Gb Jd (Gb Cd (Gb Cd (pv 5) (Gb zh (pv 8) (pv 6))) (qb g8 hr T.jc T.Tb.kp T.gc (ab (pv 0) (ab (Gb Cd jb (pv 8)) (ab (Gb Cd (Gb qf (pv 9) (pv 10)) jb) fb))))) (pv 2)) (ab (pv 10) fb))) fb)))))))
   (gb (Cb (pv 7))))))))),?_⟩
 refine zS (fun σ' H'=>Yb H H'∧Sc K a ns H'∧σ'=[some (.ref a),some (.ref wa),some (.int z),some (.int (vd d)),none,none,none,none,none,none,none]) (fun D' hD=>?_) fun zzM zzh=>?_
 ·walk_at "RD";simp only [bx];walk_at "RD";intro p hp;have s0:=lb (o:=.dK []) hp;have s2:Yb H (upd (upd H p (.dK [])) p (.dK (uj [] [(Sum.inr (Str.ofString "car"),V.int 3),(Sum.inr (Str.ofString "foot"),V.int d.off),(Sum.inr (Str.ofString "tram"),V.int 3)]))):=s0.updN hp;refine ⟨_,SqT.of (s0 _ _ hw),_,td4 d,db,[(Sum.inr (Str.ofString "car"),V.int 3),(Sum.inr (Str.ofString "foot"),V.int d.off),(Sum.inr (Str.ofString "tram"),V.int 3)],rfl,by show 3 ≤ 15;decide,_,SqT.of (s2 _ _ hw),_,td0 d,.int (vd d),?_,hD _ _ ⟨s2,S.same s2 S.nt.upd.upd,rfl⟩⟩;have:=Rr.k (k:=Sum.inr (Hd d.k)) (db (H:=upd H p (.dK [])) (a:=p) (o:=.dK (uj [] [(Sum.inr (Str.ofString "car"),V.int 3),(Sum.inr (Str.ofString "foot"),V.int d.off),(Sum.inr (Str.ofString "tram"),V.int 3)])));rw [PJ W.k3] at this;exact this
 rintro σ1 H1 ⟨s1,S1,rfl⟩;have hw1:=s1 _ _ hw;subst zzh;refine zS (fun σ' H'=>H'=H1∧σ'=[some (.ref a),some (.ref wa),some (.int z),some (.int (vd d)),some (.int (lh ns d z)),none,none,none,none,none,none]) (fun D' hD=>?_) fun zzM zzh=>?_
 ·(walk_at "RD"; repeat (dsimp only [ie];walk_at "RD"));have hl1:d.least=1:=W.part.2.2.1;refine ⟨S1,by omega,by omega,by decide,_,SqT.of hw1,_,td6 d,_,rfl,?_⟩;rw [hl1];exact ⟨⟨by omega,by omega⟩,hD _ _ ⟨rfl,rfl⟩⟩
 rintro σ2 H2 ⟨rfl,rfl⟩;subst zzh;refine zS (fun σ' H'=>H'=H2∧σ'=[some (.ref a),some (.ref wa),some (.int z),some (.int (vd d)),some (.int (lh ns d z)),some (.int (uf ns 61 z)),none,none,none,none,none]) (fun D' hD=>?_) fun zzM zzh=>?_
 ·(walk_at "RD"; repeat (dsimp only [ie];walk_at "RD"));exact ⟨S1,by omega,by omega,by omega,hD _ _ ⟨rfl,rfl⟩⟩
 rintro σ3 H3 ⟨rfl,rfl⟩;subst zzh;refine zS (fun σ' H'=>H'=H3∧σ'=[some (.ref a),some (.ref wa),some (.int z),some (.int (vd d)),some (.int (lh ns d z)),some (.int (uf ns 61 z)),some (.int (fg ns d z)),none,none,none,none]) (fun D' hD=>?_) fun zzM zzh=>?_
 ·walk_at "RD";exact ⟨⟨by omega,by omega⟩,hD _ _ ⟨rfl,rfl⟩⟩
 rintro σ4 H4 ⟨rfl,rfl⟩;subst zzh;refine zS (fun σ' H'=>Sc K a ns H'∧Yb H4 H'∧∃ rl,H4 rl=none∧H' rl=some (.lst [])∧σ'=[some (.ref a),some (.ref wa),some (.int z),some (.int (vd d)),some (.int (lh ns d z)),some (.int (uf ns 61 z)),some (.int (fg ns d z)),some (.ref rl),none,none,none]) (fun D hD=>?_) fun zzM zzh=>?_
 ·walk_at "RD";exact ⟨Nat.zero_le _,fun rl hrl=>hD _ _ ⟨S1.new hrl,lb hrl,rl,hrl,db,rfl⟩⟩
 rintro σ5 H5 ⟨S5,s5,rl,hrl,w5,rfl⟩;subst zzh;walk_at "RD";refine ⟨by omega,by omega,?_⟩;refine zi.range (fun i σ H'=>Sc K a ns H'∧Yb H4 H'∧LO H' rl (((List.range i).map (spK ns d z)).map prO)∧∃ x1 x2 x3,σ=[some (.ref a),some (.ref wa),some (.int z),some (.int (vd d)),some (.int (lh ns d z)),some (.int (uf ns 61 z)),some (.int (fg ns d z)),some (.ref rl),x1,x2,x3]) ?_ ?_ ?_
 ·exact ⟨S5,s5,⟨[],w5,LQ.nil _⟩,_,_,_,rfl⟩
 ·rintro i σ H' hi zzq;refine zzP fun zzM zzh=>?_
  obtain ⟨S6,s6,L6,x1,x2,x3,rfl⟩:=zzq;have hi3:i < 3:=by omega
  have hw6:=s6 _ _ hw1;have hl1:d.least=1:=W.part.2.2.1;subst zzh;simp only [Ig,Ab,List.set_cons_succ,List.set_cons_zero,Int.zero_add];refine zzC (fun σ' H2=>H2=H'∧σ'=[some (.ref a),some (.ref wa),some (.int z),some (.int (vd d)),some (.int (lh ns d z)),some (.int (uf ns 61 z)),some (.int (fg ns d z)),some (.ref rl),some (.int (i:Nat)),some (.int (fg ns d z - vd d)),x3]) (fun D hD=>?_) fun zzM zzh=>?_
  ·walk_at "RD";exact hD _ _ ⟨rfl,rfl⟩
  rintro σ7 H7 ⟨rfl,rfl⟩;subst zzh;simp only [Ab];refine zzC (fun σ' H2=>H2=H7∧σ'=[some (.ref a),some (.ref wa),some (.int z),some (.int (vd d)),some (.int (lh ns d z)),some (.int (uf ns 61 z)),some (.int (fg ns d z)),some (.ref rl),some (.int (i:Nat)),some (.int (fg ns d z - vd d)),some (.int (Iu ns d z i))]) (fun D hD=>?_) fun zzM zzh=>?_
  ·(walk_at "RD"; repeat (dsimp only [ie];walk_at "RD"));refine ⟨_,SqT.of hw6,_,td6 d,_,SqT.of hw6,_,td6 d,_,rfl,S6,by omega,by omega,?_⟩;rw [hl1];exact ⟨by omega,_,rfl,hD _ _ ⟨rfl,rfl⟩⟩
  rintro σ8 H8 ⟨rfl,rfl⟩;obtain ⟨os,w8,w9⟩:=L6;have hosl:os.length=i:=by rw [w9.1,List.length_map,List.length_map,List.length_range]
  have hti:=XG (ns:=ns) W hz.1 i;have htq:(spK ns d z i).2=Iu ns d z i:=rfl;have hpz:fg ns d z ≤ z:=by rcases hm with hm | hm | hm <;> rw [hm] at hmp <;> omega
  obtain ⟨_,_,e,he0,he1,_⟩:=hti;subst zzh;(walk_at "RD"; repeat (dsimp only [ie];walk_at "RD"));refine ⟨.inl ⟨_,SqL.of w8⟩,.inl ⟨by omega,by omega⟩,S6,by omega,by omega,by omega,by omega,by decide,fun p2 hp2=>?_⟩;have hwp:rl ≠ p2:=xb w8 hp2;have L':=LO.snoc (o:=prO (spK ns d z i)) w8 w9 hp2 (fun xs z=>by cases z) UN;refine ⟨_,by rw [pb hwp];exact w8,Nat.lt_of_le_of_lt (show (os.map V.ref).length ≤ 3 by rw [List.length_map];omega) (by decide),?_,?_,?_,_,rfl⟩
  ·exact (S6.new hp2).set (by rw [pb hwp];exact w8) (fun ob z e=>by cases e)
  ·exact (s6.trans (lb hp2)).updN hrl
  ·rw [List.range_succ,List.map_append,List.map_append];exact L'
 ·rintro σ H' zzq;refine zzP fun zzM zzh=>?_
  obtain ⟨S6,s6,L6,x1,x2,x3,rfl⟩:=zzq;subst zzh;walk_at "RD";exact q rl H' (s1.trans s6) S6 L6
end
end My
namespace My
open PySem L2
theorem KN:∀ k,k < 2→atI (Str.ofString "ab").cps.toList ((k:Nat):Int)=some (97 + k):=by decide +kernel
section
variable {P:Program} {w:World} {K:PySem.W.Frag} {mg:Str→Option Value} {base:Heap} {t:Adr}
theorem UA (T:Txt w K mg t) (a:Addr) (ns:List Int) (h63:ns.length ≤ 63):Eb P w K mg base CX0 3 t.Ng t.jh q29 (zu K a ns):=by
 have g25:Eb P w K mg base CX0 2 t.og t.ig q14 (Ep K a ns):=sw T a ns h63;refine Eb.forget (sp:=WF K a ns) ?_ fun vs H Q E h=>?_
 ·refine T.Gi.ok sj (fun vs H Q E h=>?_) (fun _ _ _ s H vs Q E hr h=>?_)
  ·obtain ⟨wa,d,z,turn,rfl,_⟩:=h;rfl
  obtain ⟨wa,d,z,turn,rfl,S,hw,W,hz,q⟩:=h;refine ⟨_,(bb (Kd PassesOwn.never rfl (Ld (qb g25 hr T.Co T.oh.kp T.xo (ab (pv 0) (ab (pv 1) (ab (pv 2) fb))))) (Qe (K:=K) (n:=2) rfl rfl (Lb (ub (i:=4) sj.nd) (Lb (ub (i:=5) sj.nd) Re))) (gb (Qd (Rb Js (Gb Jd (Gb qf (pv 3) (pv 4)) (pv 2)) (pv 5) (Zb _)) (gb (Cb Do)) Xb)))
   (gb (Cb Do))),?_⟩
  walk_at "RD";refine ⟨wa,d,z,rfl,S,hw,W,hz,fun p H1 s1 S1 L1=>?_⟩;obtain ⟨os,l1,l2⟩:=L1;refine ⟨p,rfl,⟨_,SqL.of l1⟩,?_⟩;refine zi.list (xs:=os.map V.ref) (fun i σ H'=>H'=H1∧Hk ((spF ns d z).take i) z turn=false∧∃ x1 x2,σ=[some (.ref a),some (.ref wa),some (.int z),some (.int turn),x1,x2]) ?_ ?_ ?_ ?_
  ·exact ⟨rfl,rfl,_,_,rfl⟩
  ·rintro i σ H' hi ⟨rfl,_⟩;exact SqL.of l1
  ·rintro i v σ H' hv zzq;refine zzP fun zzM zzh=>?_
   obtain ⟨rfl,hf,x1,x2,rfl⟩:=zzq;obtain ⟨qi,hqi,rfl⟩:=kc hv;obtain ⟨o,ho,e⟩:=l2.at hqi;obtain ⟨sp,hsp,rfl⟩:=kc ho;have hT:SqT K H' qi [.int sp.1,.int sp.2]:=SqT.of e;have hstep:Hk ((spF ns d z).take (i + 1)) z turn=decide ((turn - sp.1) % (z:Int) < sp.2):=by
    unfold Hk at hf ⊢;rw [fh hsp,List.any_append,hf,Bool.false_or,List.any_cons,List.any_nil,Bool.or_false]
   subst zzh;walk_at "RD";refine ⟨_,hT,rfl,_,_,rfl,_,_,rfl,rfl,?_⟩;refine Vb (decide ((turn - sp.1) % (z:Int) < sp.2)) (fun Q hQ=>?_) (fun c=>?_) (fun c=>?_)
   ·walk_at "RD";exact ⟨by omega,hQ⟩
   ·walk_at "RD";have:=q H' s1;rw [show Hk (spF ns d z) z turn=true from List.any_eq_true.mpr ⟨sp,List.mem_of_getElem? hsp,c⟩] at this;exact this
   ·walk_at "RD";refine ⟨by rw [hstep];exact c,?_⟩
    repeat (first | exact ⟨_,rfl⟩ | refine ⟨⟨_,rfl⟩,?_⟩)
  ·rintro σ H' zzq;refine zzP fun zzM zzh=>?_
   obtain ⟨rfl,hf,x1,x2,rfl⟩:=zzq;subst zzh;rw [List.take_of_length_le (by rw [List.length_map,l2.1,List.length_map];exact Nat.le_refl _)] at hf;walk_at "RD";have:=q H' s1;rw [hf] at this;exact this
 ·obtain ⟨wa,d,z,turn,e,S,hw,W,hz,q⟩:=h;exact ⟨S.nt,wa,d,z,turn,e,S,hw,W,hz,fun H' s=>⟨s,q⟩⟩
theorem WK (T:Txt w K mg t) (a:Addr) (ns:List Int) (h63:ns.length ≤ 63):Eb P w K mg base CX0 2 t.nk t.xk q21 (xE K a ns):=by
 have g8:Eb P w K mg base CX0 1 t.Ae t.ye q17 (ie K a ns):=br T a ns h63;refine T.Pn.ok Qq (fun vs H Q E h=>?_) (fun _ _ _ s H vs Q E hr h=>?_)
 ·obtain ⟨rfl,_⟩:=h;rfl
 obtain ⟨rfl,S,q⟩:=h;refine ⟨_,(bb (zb (i:=1) Qq.nd (ac yc (gf (ab Cc (ab Cc (ab Cc fb)))) (qb g8 hr T.jc T.Tb.kp T.gc (ab (pv 0) (ab jb (ab jb fb))))))
   (gb (Cb (Bo (ab (pv 1) (ab (ac eI Cc (qb g8 hr T.jc T.Tb.kp T.gc (ab (pv 0) (ab jb (ab jb fb))))) (ab jb (ab (Gb Cd jb (qb g8 hr T.jc T.Tb.kp T.gc (ab (pv 0) (ab jb (ab jb fb))))) (ab (qb g8 hr T.jc T.Tb.kp T.gc (ab (pv 0) (ab jb (ab jb fb)))) (ab jb (ab jb fb))))))))))),?_⟩
 have d1:=Df ns 1 (m:=3) (by decide);have d2:=qg ns 1 (m:=3) (by decide);have e1:=Df ns 2 (m:=2) (by decide);have e2:=qg ns 2 (m:=2) (by decide);have f1:=Df ns 3 (m:=5) (by decide);have f2:=qg ns 3 (m:=5) (by decide);have g1:=Df ns 4 (m:=5) (by decide);have g2:=qg ns 4 (m:=5) (by decide);have hab:=KN (uf ns 2 2).toNat (by omega);rw [Int.toNat_of_nonneg e1] at hab;(walk_at "RD"; repeat (dsimp only [ie];walk_at "RD"));refine ⟨by decide,fun p hp=>⟨S.new hp,by omega,by omega,by decide,_,SqL.of db,_,SK d1 d2,S.new hp,by omega,by omega,by decide,by decide +kernel,_,hab,S.new hp,by omega,by omega,by decide,S.new hp,by omega,by omega,by decide,by decide,fun p1 hp1=>?_⟩⟩;refine q p1 ⟨(uf ns 1 3).toNat,BH (97 + (uf ns 2 2).toNat),0,1 + ((uf ns 3 5).toNat:Int),((uf ns 4 5).toNat:Int),0,1⟩ _ ((lb hp).trans (lb hp1)) ((S.new hp).new hp1) ⟨_,_,_,_,by omega,by omega,by omega,by omega,rfl⟩ ?_;rw [db,Int.toNat_of_nonneg f1,Int.toNat_of_nonneg g1];rfl
theorem BJ (T:Txt w K mg t) (a:Addr) (ns:List Int) (h63:ns.length ≤ 63):Eb P w K mg base CX0 2 t.Pf t.Lf q44 (bD K a ns):=by
 have g8:Eb P w K mg base CX0 1 t.Ae t.ye q17 (ie K a ns):=br T a ns h63;refine T.Sh.ok Jc (fun vs H Q E h=>?_) (fun _ _ _ s H vs Q E hr h=>?_)
 ·obtain ⟨z,rfl,_⟩:=h;rfl
 obtain ⟨z,rfl,S,hz,q⟩:=h;refine ⟨_,(bb (zb (i:=2) Jc.nd (ac yc (gf (ab jb (ab jb (ab jb (ab (Gb Cd (Gb fM jb jb) jb) fb))))) (qb g8 hr T.jc T.Tb.kp T.gc (ab (pv 0) (ab jb (ab jb fb))))))
   (bb (zb (i:=3) Jc.nd (Gb Cd jb (qb g8 hr T.jc T.Tb.kp T.gc (ab (pv 0) (ab jb (ab jb fb))))))
   (bb (zb (i:=4) Jc.nd (gf fb))
   (bb (Kd PassesOwn.never rfl (ae rfl T.bf (ab (pv 1) fb)) (ub (i:=5) Jc.nd) (bb (zb (i:=6) Jc.nd (Iv (Rb Jr (dc ic rfl T.Ik Ac (ab (pv 0) fb)) jb (Zb _)) (ac yc (pv 0) (Gb Jd (pv 5) (dc ic rfl T.Ik Ac (ab (pv 0) fb)))) jb))
   (bb (zb (i:=6) Jc.nd (Gb Cd (Gb zh (Gb Jd (pv 6) jb) jb) (Gb zh (Gb Cd (Gb zh (pv 5) (pv 5)) jb) jb)))
   (bb (Qd (Rb Jr (qb g8 hr T.jc T.Tb.kp T.gc (ab (pv 0) (ab (Gb Cd jb (pv 5)) (ab (pv 3) fb)))) jb (Zb _)) (gb (zb (i:=6) Jc.nd jb)) Xb)
   (gb (Wc (On PySem.F.plainAttrs_list PySem.F.slot_list_append PySem.F.type_list_append Yg (pv 4) (ab (Gb Jd (pv 6) (pv 2)) fb))))))))
   (gb (Cb (pv 4))))))),?_⟩
 refine zS (fun σ' H'=>Yb H H'∧Sc K a ns H'∧∃ mo:Int,(2 ≤ mo∧mo ≤ 1000000001)∧σ'=[some (.ref a),some (.int z),some (.int mo),none,none,none,none]) (fun D' hD=>?_) fun zzM zzh=>?_
 ·have d1:=Df ns 80 (m:=4) (by decide);have d2:=qg ns 80 (m:=4) (by decide);(walk_at "RD"; repeat (dsimp only [ie];walk_at "RD"));refine ⟨⟨by decide,by decide,by decide⟩,by decide,fun p hp=>⟨S.new hp,by omega,by omega,by decide,_,SqL.of db,?_⟩⟩;obtain ⟨mo,hmo,hat⟩:∃ mo:Int,(2 ≤ mo∧mo ≤ 1000000001)∧atI [V.int 2,V.int 3,V.int 2,V.int (10 ^ Int.toNat 9 + 1)] (uf ns 80 4)=some (.int mo):=by
   have:uf ns 80 4=((0:Nat):Int)∨uf ns 80 4=((1:Nat):Int)∨uf ns 80 4=((2:Nat):Int)∨uf ns 80 4=((3:Nat):Int):=by omega
   rcases this with e | e | e | e <;> rw [e]
   ·exact ⟨2,by decide,Ib rfl⟩
   ·exact ⟨3,by decide,Ib rfl⟩
   ·exact ⟨2,by decide,Ib rfl⟩
   ·exact ⟨1000000001,by decide,Ib rfl⟩
  exact ⟨_,hat,hD _ _ ⟨lb hp,S.new hp,mo,hmo,rfl⟩⟩
 rintro σ1 H1 ⟨s1,S1,mo,hmo,rfl⟩;subst zzh;refine zS (fun σ' H'=>H'=H1∧∃ ra:Int,1 ≤ ra∧σ'=[some (.ref a),some (.int z),some (.int mo),some (.int ra),none,none,none]) (fun D' hD=>?_) fun zzM zzh=>?_
 ·have d1:=Df ns 81 (m:=4) (by decide);(walk_at "RD"; repeat (dsimp only [ie];walk_at "RD"));exact ⟨S1,by omega,by omega,by decide,hD _ _ ⟨rfl,_,by omega,rfl⟩⟩
 rintro σ2 H2 ⟨rfl,ra,hra,rfl⟩;subst zzh;refine zS (fun σ' H'=>Sc K a ns H'∧Yb H2 H'∧∃ rl,H2 rl=none∧H' rl=some (.lst [])∧σ'=[some (.ref a),some (.int z),some (.int mo),some (.int ra),some (.ref rl),none,none]) (fun D hD=>?_) fun zzM zzh=>?_
 ·walk_at "RD";exact ⟨Nat.zero_le _,fun rl hrl=>hD _ _ ⟨S1.new hrl,lb hrl,rl,hrl,db,rfl⟩⟩
 rintro σ3 H3 ⟨S3,s3,rl,hrl,w3,rfl⟩;subst zzh;walk_at "RD";refine ⟨by omega,by omega,?_⟩;refine zi.range (fun i σ H'=>Sc K a ns H'∧Yb H2 H'∧(∃ cs:List Int,H' rl=some (.lst (cs.map V.int))∧cs.length=i∧∀ x ∈ cs,0 ≤ x∧x ≤ 1000000000)∧∃ x1 x2,σ=[some (.ref a),some (.int z),some (.int mo),some (.int ra),some (.ref rl),x1,x2]) ?_ ?_ ?_
 ·exact ⟨S3,s3,⟨[],w3,rfl,fun x hx=>by simp at hx⟩,_,_,rfl⟩
 ·rintro i σ H' hi zzq;refine zzP fun zzM zzh=>?_
  obtain ⟨S4,s4,⟨cs,w4,hl,al⟩,x1,x2,rfl⟩:=zzq;have hi60:i < 60:=by omega
  subst zzh;simp only [Ig,Ab,List.set_cons_succ,List.set_cons_zero,Int.zero_add];refine zzC (fun σ' H2=>H2=H'∧∃ v:Int,σ'=[some (.ref a),some (.int z),some (.int mo),some (.int ra),some (.ref rl),some (.int (i:Nat)),some (.int v)]) (fun D hD=>?_) fun zzM zzh=>?_
  ·walk_at "RD";refine ⟨_,.inl S4.seq,?_⟩;rw [List.length_map];by_cases c:(0:Int) < (ns.length:Int)
   ·rw [if_pos (decide_eq_true c)];obtain ⟨v,hv⟩:=iK ns (i:Int) c;exact ⟨_,.inl S4.seq,by rw [List.length_map];exact c,_,S4.seq,_,by rw [List.length_map];exact hv,hD _ _ ⟨rfl,v,rfl⟩⟩
   ·rw [if_neg (by simpa using c)];exact hD _ _ ⟨rfl,1,rfl⟩
  rintro σ5 H5 ⟨rfl,v,rfl⟩;subst zzh;simp only [Ab];refine zzC (fun σ' H2=>H2=H5∧∃ v:Int,σ'=[some (.ref a),some (.int z),some (.int mo),some (.int ra),some (.ref rl),some (.int (i:Nat)),some (.int v)]) (fun D hD=>?_) fun zzM zzh=>?_
  ·have hii:(0:Int) ≤ (i:Int) * (i:Int)∧(i:Int) * (i:Int) ≤ 60 * 60:=⟨Int.mul_nonneg (by omega) (by omega),Int.mul_le_mul (by omega) (by omega) (by omega) (by decide)⟩;walk_at "RD";exact ⟨by decide,.inr ⟨by decide,by decide⟩,.inl ⟨by omega,by omega⟩,.inr ⟨by decide,by decide⟩,hD _ _ ⟨rfl,_,rfl⟩⟩
  rintro σ6 H6 ⟨rfl,v2,rfl⟩;subst zzh;simp only [Ab];refine zzC (fun σ' H2=>H2=H6∧∃ v:Int,σ'=[some (.ref a),some (.int z),some (.int mo),some (.int ra),some (.ref rl),some (.int (i:Nat)),some (.int v)]) (fun D hD=>?_) fun zzM zzh=>?_
  ·refine Vb (decide (uf ns (90 + (i:Int)) ra > 0)) (fun Q hQ=>?_) (fun c=>?_) (fun c=>?_)
   ·(walk_at "RD"; repeat (dsimp only [ie];walk_at "RD"));exact ⟨S4,by omega,by omega,by omega,hQ⟩
   ·walk_at "RD";exact hD _ _ ⟨rfl,_,rfl⟩
   ·walk_at "RD";exact hD _ _ ⟨rfl,_,rfl⟩
  rintro σ7 H7 ⟨rfl,v3,rfl⟩;have m0:=Int.emod_nonneg v3 (show mo ≠ 0 by omega);have m1:=Int.emod_lt_of_pos v3 (show 0 < mo by omega);subst zzh;walk_at "RD";refine ⟨.inl ⟨_,SqL.of w4⟩,by omega,_,w4,Nat.lt_of_le_of_lt (show (cs.map V.int).length ≤ 60 by rw [List.length_map];omega) (by decide),S4.set w4 (fun ob z e=>by cases e),s4.updN hrl,⟨cs ++ [v3 % mo],?_,by rw [List.length_append,hl];rfl,fun x hx=>?_⟩,_,rfl⟩
  ·rw [db,List.map_append];rfl
  ·rcases List.mem_append.mp hx with hx | hx
   ·exact al x hx
   ·rw [List.mem_singleton.mp hx];omega
 ·rintro σ H' zzq;refine zzP fun zzM zzh=>?_
  obtain ⟨S4,s4,⟨cs,w4,hl,al⟩,x1,x2,rfl⟩:=zzq;subst zzh;walk_at "RD";exact q rl cs H' (s1.trans s4) S4 (s1.free hrl) w4 (by omega) al
end
end My
namespace My
open PySem L2
noncomputable def RA (t:Adr) (K:PySem.W.Frag) (a:Addr) (ns:List Int):Sp:=fun vs H Q _=>∃ (wa:Addr) (d:WD) (z:Nat),vs=[.ref a,.ref wa,.int z]∧Sc K a ns H∧H wa=some (.tup (Bt d))∧W46 d∧(5 ≤ z∧z ≤ 60)∧∀ pl c ds j H',Yb H H'→Sc K a ns H'→D46 d ds→rj t H' pl c 9 ds z (Us (Ve d.name (spF ns d z)) j)→Q (.ref pl) H'
theorem HJ {H:Hp} {qs:List Addr} {os:List HO} (h:LQ H qs os) (n:Nat):LQ H (qs.drop n) (os.drop n):=by
 refine ⟨by rw [List.length_drop,List.length_drop,h.1],fun i q o hq ho=>?_⟩;rw [List.getElem?_drop] at hq ho;exact h.2 _ q o hq ho
theorem TK {H:Hp} {qs:List Addr} {os:List HO} (h:LQ H qs os) (n:Nat):LQ H (qs.take n) (os.take n):=by
 refine ⟨by rw [List.length_take,List.length_take,h.1],fun i q o hq ho=>?_⟩;rw [List.getElem?_take] at hq ho;by_cases c:i < n
 ·rw [if_pos c] at hq ho;exact h.2 i q o hq ho
 ·rw [if_neg c] at hq;cases hq
theorem lw2 {H:Hp} {p x y:Addr} {d e:WD} (hp:H p=none) (hx:H x=some (.tup (Bt d))) (hy:H y=some (.tup (Bt e))):LW (upd H p (.lst [.ref x,.ref y])) p [d,e]:=by
 have s:=lb (o:=.lst [.ref x,.ref y]) hp;refine ⟨[x,y],db,rfl,fun i q f h1 h2=>?_⟩
 match i,h1,h2 with
 | 0,h1,h2=>cases h1;cases h2;exact s _ _ hx
 | 1,h1,h2=>cases h1;cases h2;exact s _ _ hy
 | i + 2,h1,_=>simp at h1
section
variable {P:Program} {w:World} {K:PySem.W.Frag} {mg:Str→Option Value} {base:Heap} {t:Adr}
theorem GH (T:Txt w K mg t) (a:Addr) (ns:List Int) (h63:ns.length ≤ 63):Eb P w K mg base CX0 9 t.Mi t.Di q14 (RA t K a ns):=by
 have g8:Eb P w K mg base CX0 8 t.Ae t.ye q17 (ie K a ns):=(br T a ns h63).mono (by decide);have g25:Eb P w K mg base CX0 8 t.og t.ig q14 (Ep K a ns):=(sw T a ns h63).mono (by decide);have g57:Eb P w K mg base CX0 8 t.Qi t.Vi q43 (iA K):=(FH T).mono (by decide);have g58:Eb P w K mg base CX0 8 t.sf t.lf ["text"] (vN t):=(gO T).mono (by decide);have g59:Eb P w K mg base CX0 8 t.Ni t.Ji q42 (Wz t):=(QG T).mono (by decide);refine T.Yl.ok kg (fun vs H Q E h=>?_) (fun _ _ _ s H vs Q E hr h=>?_)
 ·obtain ⟨wa,d,z,rfl,_⟩:=h;rfl
 obtain ⟨wa,d,z,rfl,S,hw,W,hz,q⟩:=h;have hl3:=Hu (ns:=ns) W hz.1;refine ⟨_,(bb (zb (i:=3) kg.nd (Bo (ab Cc (ab Cc (ab jb (ab jb (ab jb (ab jb (ab jb fb)))))))))
   (bb (Jg (i:=4) kg.nd rfl (Or.inl rfl) rfl (Ld (qb g25 hr T.Co T.oh.kp T.xo (ab (pv 0) (ab (pv 1) (ab (pv 2) fb))))) (Yc (sc:=ib em) rfl (by decide +kernel)) (N:=["_law_span","_law_way_here"]) (sel:=[none,some 1]) (Nd (M:=["_law_script","_law_way_here","_law_size","_law_other","_law_rows","_law_names"]) (by decide +kernel)) (Blk.of (fun _ _ _ _=>(ub (i:=0) (kh (N:=["_law_span","_law_way_here"]) (by decide +kernel) rfl))) (fun _ _ _ _=>⟨_,ug,by walk_at "B"⟩) (fun _ _ _ _=>⟨_,(Bo (ab (ac xf (pv 1) jb) (ab (ac xf (pv 0) jb) (ab (ac xf (pv 0) jb) fb)))),by walk_at "B"⟩)) rfl)
   (bb (Wc (On PySem.F.plainAttrs_list PySem.F.slot_list_insert PySem.F.type_list_insert ZC (pv 4) (ab (qb g8 hr T.jc T.Tb.kp T.gc (ab (pv 0) (ab jb (ab (Gb Cd (dc ic rfl T.Ik Ac (ab (pv 4) fb)) jb) fb)))) (ab (Bo (ab Cc (ab jb (ab jb fb)))) fb))))
   (bb (zb (i:=5) kg.nd (gf (ab (pv 1) (ab (pv 3) fb))))
   (bb (Qd (Rb Qh (qb g8 hr T.jc T.Tb.kp T.gc (ab (pv 0) (ab jb (ab jb fb)))) jb (Zb _)) (gb (zb (i:=5) kg.nd (gf (ab (pv 3) (ab (pv 1) fb))))) Xb)
   (gb (Cb (qb g59 hr T.Ay T.dm.kp T.Vy (ab (qb g58 hr T.Bp T.ah.kp T.Hq (ab (qb g57 hr T.Gy T.Vl.kp T.ny (ab jb (ab (pv 5) fb))) fb)) (ab (pv 2) (ab (pv 4) fb))))))))))),?_⟩
 refine zS (fun σ' H'=>Yb H H'∧Sc K a ns H'∧∃ ob,H' ob=some (.tup (Bt oth))∧σ'=[some (.ref a),some (.ref wa),some (.int z),some (.ref ob),none,none]) (fun D' hD=>?_) fun zzM zzh=>?_
 ·walk_at "RD";exact ⟨by decide,fun p hp=>hD _ _ ⟨lb hp,S.new hp,p,db,rfl⟩⟩
 rintro σ1 H1 ⟨s1,S1,ob,eo,rfl⟩;have hw1:=s1 _ _ hw;subst zzh;refine zS (fun σ' H'=>Yb H1 H'∧Sc K a ns H'∧∃ rl,H1 rl=none∧LO H' rl (List.map sdO (Ve d.name (spF ns d z)))∧σ'=[some (.ref a),some (.ref wa),some (.int z),some (.ref ob),some (.ref rl),none]) (fun D' hD=>?_) fun zzM zzh=>?_
 ·walk_at "RD";refine ⟨wa,d,z,rfl,S1,hw1,W,hz,fun p H2 s2 S2 L2=>?_⟩;obtain ⟨os,l1,l2⟩:=L2;have hol:os.length ≤ 3:=by rw [l2.1,List.length_map];omega
  refine ⟨p,rfl,⟨_,SqL.of l1⟩,?_⟩;refine ud.list (xs:=os.map V.ref) (fun i ys H'=>∃ o2:List Addr,ys=o2.map V.ref∧LQ H' o2 (((Ve d.name (spF ns d z)).take i).map sdO)∧Yb H2 H'∧Sc K a ns H') (Nat.le_trans (show (os.map V.ref).length ≤ 3 by rw [List.length_map];omega) (by decide)) ⟨[],rfl,LQ.nil _,Yb.refl _,S2⟩ ?_ ?_ ?_
  ·rintro i ys H' hi zzq;refine zzP fun zzM zzh=>?_
   obtain ⟨o2,rfl,r,sm,_⟩:=zzq;subst zzh;refine ⟨SqL.of (sm _ _ l1),?_⟩;rw [List.length_map,r.1,List.length_map,List.length_take];omega
  ·rintro i v ys H' hv ⟨o2,rfl,r,sm,S3⟩ N hN;obtain ⟨qi,hqi,rfl⟩:=kc hv;obtain ⟨o,ho,e⟩:=l2.at hqi;obtain ⟨sp,hsp,rfl⟩:=kc ho;have e':H' qi=some (.tup [.int sp.1,.int sp.2]):=sm _ _ e;have hw3:=sm _ _ (s2 _ _ hw1);have hrow:(Ve d.name (spF ns d z))[i]? = some ⟨d.name,sp.1,sp.2⟩:=by unfold Ve;rw [List.getElem?_map,hsp];rfl
   dsimp only at hN;rw [fh hrow,List.map_append] at hN;walk_at "RD";refine ⟨Sub.name,_,SqT.of hw3,_,td1 d,_,SqT.of e',_,Ib (j:=0) rfl,_,SqT.of e',_,Ib (j:=1) rfl,by decide,fun p1 hp1=>?_⟩;exact hN _ _ ⟨o2 ++ [p1],by rw [List.map_append];rfl,(r.same (lb hp1)).app (LQ.one db),sm.trans (lb hp1),S3.new hp1⟩
  ·rintro ys H3 ⟨o2,rfl,r,sm,S3⟩ p1 hp1;rw [List.take_of_length_le (by unfold Ve;rw [List.length_map,List.length_map,l2.1,List.length_map];exact Nat.le_refl _)] at r;exact hD _ _ ⟨(s2.trans sm).trans (lb hp1),S3.new hp1,p1,(s2.trans sm).free hp1,⟨o2,db,r.same (lb hp1)⟩,rfl⟩
 rintro σ2 H2 ⟨s2,S2,rl,hrl,L2,rfl⟩;have hw2:=s2 _ _ hw1;have eo2:=s2 _ _ eo;obtain ⟨os,l1,l2⟩:=L2;have hol:os.length=(spF ns d z).length:=by rw [l2.1,List.length_map];unfold Ve;rw [List.length_map]
 have d1:=Df ns 70 (m:=(os.length:Int) + 1) (by omega);have d2:=qg ns 70 (m:=(os.length:Int) + 1) (by omega);subst zzh;refine zS (fun σ' H'=>Yb H1 H'∧Sc K a ns H'∧(∃ j,LO H' rl (List.map sdO (Us (Ve d.name (spF ns d z)) j)))∧σ'=[some (.ref a),some (.ref wa),some (.int z),some (.ref ob),some (.ref rl),none]) (fun D' hD=>?_) fun zzM zzh=>?_
 ·(walk_at "RD"; repeat (dsimp only [ie];walk_at "RD"));refine ⟨.inl ⟨_,SqL.of l1⟩,_,.inl (SqL.of l1),S2,by omega,by omega,by rw [List.length_map];omega,by decide,fun p1 hp1=>?_⟩;have hrp:rl ≠ p1:=xb l1 hp1;rw [List.length_map];refine ⟨_,by rw [pb hrp];exact l1,d1,by omega,by rw [List.length_map];omega,Nat.lt_of_le_of_lt (show (os.map V.ref).length ≤ 3 by rw [List.length_map];omega) (by decide),?_⟩;have sm:Yb H1 (upd (upd H2 p1 (.tup [.str (Str.ofString "c"),.int 0,.int 1])) rl (.lst ((os.map V.ref).take (uf ns 70 ((os.length:Int) + 1)).toNat ++ V.ref p1 :: (os.map V.ref).drop (uf ns 70 ((os.length:Int) + 1)).toNat))):=(s2.trans (lb hp1)).updN hrl;refine hD _ _ ⟨sm,(S2.new hp1).set (by rw [pb hrp];exact l1) (fun _ _ z=>by cases z),⟨(uf ns 70 ((os.length:Int) + 1)).toNat,os.take (uf ns 70 ((os.length:Int) + 1)).toNat ++ p1 :: os.drop (uf ns 70 ((os.length:Int) + 1)).toNat,?_,?_⟩,rfl⟩
  ·rw [db,List.map_append,List.map_cons,List.map_take,List.map_drop]
  ·have lq:LQ (upd (upd H2 p1 (.tup [.str (Str.ofString "c"),.int 0,.int 1])) rl (.lst ((os.map V.ref).take (uf ns 70 ((os.length:Int) + 1)).toNat ++ V.ref p1 :: (os.map V.ref).drop (uf ns 70 ((os.length:Int) + 1)).toNat))) os (List.map sdO (Ve d.name (spF ns d z))):=by
    refine ⟨l2.1,fun i q o hq ho=>?_⟩;have e:=l2.2 i q o hq ho;obtain ⟨sd,_,rfl⟩:=kc ho;rw [pb (Ge e l1 fun z=>by cases z),pb (xb e hp1)];exact e
   unfold Us;rw [List.map_append,List.map_cons,List.map_take,List.map_drop];refine (TK lq _).app ?_;have l1':=(LQ.one (p:=p1) (o:=sdO ⟨Str.ofString "c",0,1⟩) (show upd (upd H2 p1 (.tup [.str (Str.ofString "c"),.int 0,.int 1])) rl (.lst ((os.map V.ref).take (uf ns 70 ((os.length:Int) + 1)).toNat ++ V.ref p1 :: (os.map V.ref).drop (uf ns 70 ((os.length:Int) + 1)).toNat)) p1=_ by rw [pb (Ne.symm hrp),db];rfl)).app (HJ lq (uf ns 70 ((os.length:Int) + 1)).toNat);exact l1'
 rintro σ3 H3 ⟨s3,S3,⟨j,L3⟩,rfl⟩;subst zzh;clear l1 l2 hol d1 d2;have hw3:=s3 _ _ hw1;have eo3:=s3 _ _ eo;refine zS (fun σ' H'=>Yb H3 H'∧Sc K a ns H'∧∃ nl ds,D46 d ds∧LW H' nl ds∧σ'=[some (.ref a),some (.ref wa),some (.int z),some (.ref ob),some (.ref rl),some (.ref nl)]) (fun D' hD=>?_) fun zzM zzh=>?_
 ·walk_at "RD";refine ⟨by decide,fun p hp=>hD _ _ ⟨lb hp,S3.new hp,p,[d,oth],.inl rfl,lw2 hp hw3 eo3,rfl⟩⟩
 rintro σ4 H4 ⟨s4,S4,nl,ds0,D0,W0,rfl⟩;have hw4:=s4 _ _ hw3;have eo4:=s4 _ _ eo3;subst zzh;refine zS (fun σ' H'=>Yb H3 H'∧Sc K a ns H'∧∃ nl ds,D46 d ds∧LW H' nl ds∧σ'=[some (.ref a),some (.ref wa),some (.int z),some (.ref ob),some (.ref rl),some (.ref nl)]) (fun D' hD=>?_) fun zzM zzh=>?_
 ·refine Vb (decide (uf ns 71 2=0)) (fun Q hQ=>?_) (fun _=>?_) (fun _=>?_)
  ·(walk_at "RD"; repeat (dsimp only [ie];walk_at "RD"));exact ⟨S4,by omega,by omega,by decide,hQ⟩
  ·walk_at "RD";exact ⟨by decide,fun p hp=>hD _ _ ⟨s4.trans (lb hp),S4.new hp,p,[oth,d],.inr rfl,lw2 hp eo4 hw4,rfl⟩⟩
  ·walk_at "RD";exact hD _ _ ⟨s4,S4,nl,ds0,D0,W0,rfl⟩
 rintro σ5 H5 ⟨s5,S5,nl,ds,D,W5,rfl⟩;have Dk:=D.ds W;have hdl:=D.len;subst zzh;walk_at "RD";refine ⟨9,nl,ds,rfl,W5,Dk,by decide,by omega,S5.nt,?_⟩;refine ⟨9,ds,rfl,Dk.cok (by decide) (by omega),S5.nt,fun c H6 s6 n6 C6=>?_⟩;have S46:=mP (ns:=ns) W D hz j;refine ⟨c,9,ds,z,rl,Us (Ve d.name (spF ns d z)) j,rfl,C6,by decide,D.dok W,by omega,L3.same (s5.trans s6),S46.ok,S46.kn,n6,S46.nv,S46.sh,S46.cl,fun pl H7 s7 n7 PA=>?_⟩;have sall:=(((s1.trans s3).trans s5).trans s6).trans s7;exact q pl c ds j H7 sall (S.same sall n7) D PA
end
end My
namespace My
open PySem L2
end My
namespace HT
open PySem PyProof.Rows
theorem gH (A:Around) (s:Shared) (a:Int) (t:Tok) (c:Int) (u:Tok) (prog:Program) (w:World) (E:Value→Shared→Prop) (Q:Value→Shared→Prop) (h:Q (.bool (decide (a > c))) s) :
  wpAny (model prog w) A (richCompare .Gt (.int a t) (.int c u)) Q E s:=
 (PyProof.Rows.gt_int h:wpAny (model prog w) A (compareOp .Gt (.int a t) (.int c u)) Q E s)
section
open PySem.SeqAt
open PySem.AutoSeq1 (wpAny_loadPart')
open PySem.MeetsSeq PySem.MeetsSeq2 PySem.MeetsSeq3
theorem Ju (l b:Addr) (items items2:Array Value) (n n2:Nat) (dd dd2:Option Addr) (sl sl2:Array (Option Value)) (ns ms:List Int) (hi:IntsAre items.toList ns) (hj:IntsAre items2.toList ms) :
  Meets (Builtin.«tuple.__gt__» ⟨[.ref l,.ref b],[]⟩)
   (fun _ R s=>s.heap.get? l=some { cls:=.type "tuple",dict:=dd,data:=.seq items n,slots:=sl }∧s.heap.get? b=some { cls:=.type "tuple",dict:=dd2,data:=.seq items2 n2,slots:=sl2 } ∧
    R (.ok (.ret (.bool (lexLt ms ns)))) s):=
 .of_wp fun prog w A R s h=>by
  obtain ⟨hp,g,d,tk,os⟩:=s;obtain ⟨hl,hb,h⟩:=h;have f2:=AutoSeq1.sub_tuple_tuple;have z1:items.size=ns.length:=by rw [← hi.length];simp
  have z2:items2.size=ms.length:=by rw [← hj.length];simp
  wp_walk using wpAny_loadPart' hl,wpAny_loadPart' hb,wpAny_forIn_list _ (fun yy b s'=>b.1=none∧s'=⟨hp,g,d,tk,os⟩∧∃ (vs ws:List Value) (ns' ms':List Int),yy=vs.zip ws ∧
   IntsAre vs ns'∧IntsAre ws ms'∧ns'.length + items2.size=ms'.length + items.size∧R (.ok (.ret (.bool (lexLt ms' ns')))) ⟨hp,g,d,tk,os⟩) _
  case turn=>
   rintro ⟨y,x⟩ yy b s' ⟨hb',rfl,vs,ws,ns',ms',hz,hvi,hwi,hlen,hR⟩;cases hvi with
   | nil=>rw [List.zip_nil_left] at hz;cases hz
   | cons a t hvi'=>
    cases hwi with
    | nil=>rw [List.zip_nil_right] at hz;cases hz
    | cons c u hwi'=>
     rw [List.zip_cons_cons] at hz;injection hz with hyx hrest;injection hyx with hy hx;subst hy hx;rw [lexLt_cons] at hR;simp only [List.length_cons] at hlen;obtain ⟨e,he,hiff⟩:=VH A.in1 ⟨hp,g,d,tk,os⟩ a t c u;refine wpAny_bind (he prog w _ _ ?_);cases e with
     | true=>
      rw [if_pos ((hiff.mp rfl).symm)] at hR
      wp_walk
      exact ⟨rfl,rfl,_,_,_,_,hrest,hvi',hwi',by omega,hR⟩
     | false=>
      rw [if_neg (fun q=>absurd (hiff.mpr q.symm) Bool.false_ne_true)] at hR;have hri:=gH A.in1 ⟨hp,g,d,tk,os⟩ a t c u prog w
      wp_walk using hri
      exact ⟨_,rfl,by simpa using hR⟩
  case fin=>
   rintro ⟨b1,b2⟩ s' ⟨hb',rfl,vs,ws,ns',ms',hz,hvi,hwi,hlen,hR⟩;simp only at hb';subst hb';have hv:lexLt ms' ns'=decide (items2.size < items.size):=by
    cases hvi with
    | nil=>
     cases hwi with
     | nil=>
      simp only [List.length_nil] at hlen;rw [lexLt_nil_nil];exact (decide_eq_false (by omega)).symm
     | cons c u hw=>
      simp only [List.length_nil,List.length_cons] at hlen;rw [Nr];exact (decide_eq_false (by omega)).symm
    | cons a t hv=>
     cases hwi with
     | nil=>
      simp only [List.length_nil,List.length_cons] at hlen;rw [Ts];exact (decide_eq_true (by omega)).symm
     | cons c u hw=>
      rw [List.zip_cons_cons] at hz;cases hz
   rw [hv] at hR
   wp_walk
   exact ⟨_,rfl,by simpa [Builtin.Tuple.tupleCompareSizes] using hR⟩
  case h=>
   exact ⟨rfl,rfl,items.toList,items2.toList,ns,ms,rfl,hi,hj,by omega,h⟩
end
section
variable {prog:Program} {w:World} {A:Around} {E:Value→Shared→Prop} {s:Shared}
theorem EB {l b:Addr} {items items2:Array Value} {ns ms:List Int} {Q:Value→Shared→Prop} (hl:IsTup s.heap l items) (hb:IsTup s.heap b items2) (hi:IntsAre items.toList ns) (hj:IntsAre items2.toList ms)
  (hu:A.units < cLine) (h:Q (.bool (lexLt ms ns)) s):wpAny (model prog w) A (compareOp .Gt (.ref l) (.ref b)) Q E s:=by
 obtain ⟨⟨cls,dd,data,sl⟩,ho,hc,n,hd⟩:=id hl;obtain ⟨⟨cls2,dd2,data2,sl2⟩,ho2,hc2,n2,hd2⟩:=id hb;simp only at hc hd hc2 hd2;subst hc hd hc2 hd2;exact richCompare_meets_room (op:=.Gt) ⟨_,ho,rfl⟩ ⟨_,ho2,rfl⟩ PySem.F.slot_tuple_gt PySem.F.entry_tuple_gt (PySem.F.args_tuple_gt_2 _ _) (Ju l b items items2 n n2 dd dd2 sl sl2 ns ms hi hj)
  ⟨ho,ho2,show Value.bool (lexLt ms ns) ≠ Value.notImplemented∧Q (.bool (lexLt ms ns)) s from ⟨(fun x=>nomatch x),h⟩⟩ hu
end
end HT
namespace L2
open PySem PySem.Spec PyProof.Rows
section
variable {X:Cx}
end
end L2
namespace My
open PySem L2
end My
namespace My
open PySem L2
section
open PySem.Spec PyProof.Rows
section
variable {prog:Program} {w:World} {A:Around} {R:Result→Shared→Prop} {I:Addr} {fp wr:List Addr} {n:Nat} {P:Nat→Value→Prop} {St:Nat→Heap→Prop}
theorem DC (W:Walks prog w A.in1 I fp wr n P St) (bt:Nat→Nat→Bool) (S:Addr) (hSf:S ∉ fp) (Tp:Heap→Prop) (hTp:∀ h h':Heap,Tp h→(∀ b o,b ∉ wr→b ≠ S→h.get? b=some o→h'.get? b=some o)→Tp h')
  (hcmp:∀ (i j:Nat) (vi vj:Value) (s:Shared) (Q:Value→Shared→Prop) (E:Value→Shared→Prop),Tp s.heap→P i vi→P j vj→Q (.bool (bt i j)) s→wpAny (model prog w) A.in1 (richCompare .Gt vi vj) Q E s) (dv:Value) (kn:Str) :
  ∀ (k j:Nat) (s:Shared) (acc:Array Value) (c:Nat),n - j=k→j ≤ n→St j s.heap→Tp s.heap→mI P bt j acc →
  s.heap.get? S=some { cls:=.type "list",dict:=none,data:=.seq acc c,slots:=#[] } →
  (∀ v h' tk,(n=0∧v=dv)∨(0 < n∧P (argBest bt (n - 1)) v)→(∀ b o,b ∉ wr→b ≠ S→s.heap.get? b=some o→h'.get? b=some o)→R (.ok (.ret v)) { s with heap:=h',toks:=tk }) →
  codeAny (model prog w) A (.builtin "max.loop" ⟨[.ref I,.none,.ref S],[(kn,dv)]⟩) R s:=by
 have hSw:S ∉ wr:=fun h=>hSf (W.sub _ h)
 have hname:(toString "max" ++ toString ".loop" : String) = "max.loop" := by decide
 intro k
 induction k with
 | zero=>
  intro j s acc c hk hj hst hT hB hS hR;have hin:j=n:=by omega
  refine codeAny_builtin PySem.F.entry_max_loop ?_;rw [Around.under_plainId PySem.F.plain_max_loop _];show wpAny _ A.in1 (seqItems? (.ref S) >>= _) _ _ s;refine wpAny_bind (wpAny_seqItems hS rfl ?_);show wpAny _ A.in1 (tryCatch (pyNext (.ref I)) _ >>= _) _ _ s;refine wpAny_bind (wpAny_tryCatch (W.done s _ _ (hin ▸ hst) fun h' tk hk'=>?_));have hS':=hk' S _ hSw hS;rcases hB with ⟨h0,rfl⟩ | ⟨vb,i,hi,rfl,hP⟩
  ·show wpAny _ A.in1 (rule _ >>= _) _ _ _;refine wpAny_bind (wpAny_rule (wpAny_pure ?_));exact hR dv h' tk (.inl ⟨by omega,rfl⟩) fun b o hbw hbS e=>hk' b o hbw e
  ·show wpAny _ A.in1 (updateSeq S (fun _=>#[]) >>= _) _ _ _;refine wpAny_bind ?_;refine wpAny_updateSeq hS' rfl (wpAny_bind (wpAny_letGo (wpAny_pure ?_)));refine hR vb _ tk (.inr ⟨by omega,by rw [show n - 1=i by omega];exact hP⟩) fun b o hbw hbS e=>(Heap.get?_update_other _ _ (Ne.symm hbS)).trans (hk' b o hbw e)
 | succ k ih=>
  intro j s acc c hk hj hst hT hB hS hR;have hlt:j < n:=by omega
  refine codeAny_builtin PySem.F.entry_max_loop ?_;rw [Around.under_plainId PySem.F.plain_max_loop _];show wpAny _ A.in1 (seqItems? (.ref S) >>= _) _ _ s;refine wpAny_bind (wpAny_seqItems hS rfl ?_);show wpAny _ A.in1 (tryCatch (pyNext (.ref I)) _ >>= _) _ _ s;refine wpAny_bind (wpAny_tryCatch (W.item j s _ _ hlt hst fun v h' tk hP hst' hk'=>?_));have hS':=hk' S _ hSw hS;have hT':Tp h':=hTp _ _ hT fun b o hbw _ e=>hk' b o hbw e
  have putT:Tp (h'.update S (Obj.mapSeq (fun _=>#[v,v]))):=hTp _ _ hT' fun b o _ hbS e=>(Heap.get?_update_other _ _ (Ne.symm hbS)).trans e
  have put:∀ h'':Heap,h''=h'.update S (Obj.mapSeq (fun _=>#[v,v]))→St (j + 1) h'':=fun h'' e=>by
   subst e;exact W.frame _ _ _ hst' fun b hbf o e=>(Heap.get?_update_other _ _ (fun h:S=b=>hSf (by rw [h];exact hbf))).trans e
  rcases hB with ⟨h0,rfl⟩ | ⟨vb,i,hi,rfl,hPb⟩
  ·show wpAny _ A.in1 (updateSeq S (fun _=>#[v,v]) >>= _) _ _ _;refine wpAny_bind ?_;refine wpAny_updateSeq hS' rfl ?_;rw [hname];refine wpAny_pure ⟨plainId_quiet PySem.F.plain_max_loop _,ih (j + 1) _ #[v,v] _ (by omega) hlt (put _ rfl) putT (.inr ⟨v,j,rfl,rfl,by subst h0;exact hP⟩) (Heap.get?_update_self _ hS' rfl) fun v' h'' tk'' hP' hk''=>?_⟩;exact hR v' h'' tk'' hP' fun b o hbw hbS e=>hk'' b o hbw hbS ((Heap.get?_update_other _ _ (Ne.symm hbS)).trans (hk' b o hbw e))
  ·subst hi;show wpAny _ A.in1 (tryCatch (holding [v,v] (richCompare .Gt v vb >>= _)) _ >>= _) _ _ _;refine wpAny_bind (wpAny_tryCatch (wpAny_holding (wpAny_bind (hcmp (i + 1) (argBest bt i) v vb _ _ _ hT' hP hPb ?_))));refine wpAny_bind (wpAny_holding (wpAny_truthy_bool ?_));refine wpAny_bind (wpAny_letGo (wpAny_pure ?_));cases hb:bt (i + 1) (argBest bt i) with
   | true=>
    simp only [if_true];refine wpAny_bind ?_;refine wpAny_updateSeq hS' rfl (wpAny_bind (wpAny_letGo ?_));rw [hname];refine wpAny_pure ⟨plainId_quiet PySem.F.plain_max_loop _,ih (i + 1 + 1) _ #[v,v] _ (by omega) hlt (put _ rfl) putT (.inr ⟨v,i + 1,rfl,rfl,by simp only [argBest,hb,if_true];exact hP⟩) (Heap.get?_update_self _ hS' rfl) fun v' h'' tk'' hP' hk''=>?_⟩;exact hR v' h'' tk'' hP' fun b o hbw hbS e=>hk'' b o hbw hbS ((Heap.get?_update_other _ _ (Ne.symm hbS)).trans (hk' b o hbw e))
   | false=>
    simp only [Bool.false_eq_true,if_false];refine wpAny_bind (wpAny_letGo ?_);rw [hname];refine wpAny_pure ⟨plainId_quiet PySem.F.plain_max_loop _,ih (i + 1 + 1) _ #[vb,vb] c (by omega) hlt hst' hT' (.inr ⟨vb,i + 1,rfl,rfl,by simp only [argBest,hb,Bool.false_eq_true,if_false];exact hPb⟩) hS' fun v' h'' tk'' hP' hk''=>?_⟩;exact hR v' h'' tk'' hP' fun b o hbw hbS e=>hk'' b o hbw hbS (hk' b o hbw e)
end
theorem DO (x y x' y':Int):HT.lexLt [x,y] [x',y']=decide (x < x'∨(x=x'∧y < y')):=by
 rw [HT.lexLt_cons,HT.lexLt_cons,HT.lexLt_nil_nil,Bool.eq_iff_iff];split
 ·split
  ·simp;omega
  ·simp;omega
 ·simp;omega
theorem Yw (f:Nat→Int × Int):∀ k,argBest (fun i j=>HT.lexLt [(f j).1,(f j).2] [(f i).1,(f i).2]) k ≤ k∧∀ j,j ≤ k→(f j).1 ≤ (f (argBest (fun i j=>HT.lexLt [(f j).1,(f j).2] [(f i).1,(f i).2]) k)).1
 | 0=>⟨Nat.le_refl _,fun j hj=>by rw [show j=0 by omega];exact Int.le_refl _⟩
 | k + 1=>by
  obtain ⟨h1,h2⟩:=Yw f k;simp only [argBest];by_cases c:HT.lexLt [(f (argBest (fun i j=>HT.lexLt [(f j).1,(f j).2] [(f i).1,(f i).2]) k)).1,(f (argBest (fun i j=>HT.lexLt [(f j).1,(f j).2] [(f i).1,(f i).2]) k)).2] [(f (k + 1)).1,(f (k + 1)).2]=true
  ·rw [if_pos c];rw [DO,decide_eq_true_eq] at c;refine ⟨Nat.le_refl _,fun j hj=>?_⟩;by_cases e:j=k + 1
   ·rw [e];exact Int.le_refl _
   ·have:=h2 j (by omega);omega
  ·rw [if_neg c];rw [DO,decide_eq_true_eq] at c;refine ⟨by omega,fun j hj=>?_⟩;by_cases e:j=k + 1
   ·rw [e];omega
   ·exact h2 j (by omega)
section
variable {prog:Program} {w:World} {A:Around} {E:Value→Shared→Prop} {s:Shared}
theorem cE (a d:Value):argsOk "max" ⟨[a],[(Str.ofString "default",d)]⟩:=by unfold argsOk;kernel_rfl
theorem HF {l:Addr} {its:Array Value} {dv:Value} {Q:Value→Shared→Prop} (hh:A.handled=none) (hu:A.in1.units < cLine) (hl:s.heap.IsList l its) (qs:List Addr) (xs:List (Int × Int)) (hk:its.size=qs.length) (hx:qs.length=xs.length) (hv:∀ (i:Nat) (v:Value),its[i]? = some v→∃ q,qs[i]? = some q∧v=.ref q)
  (ht:∀ (i:Nat) (q:Addr) (x:Int × Int),qs[i]? = some q→xs[i]? = some x→∃ us:List Value,IsTup s.heap q us.toArray∧IntsAre us [x.1,x.2])
  (hQ:∀ v h' tk,(xs=[]∧v=dv)∨(∃ (i:Nat) (q:Addr) (x:Int × Int),qs[i]? = some q∧xs[i]? = some x∧(∀ x' ∈ xs,x'.1 ≤ x.1)∧v=.ref q)→(∀ b o,s.heap.get? b=some o→h'.get? b=some o)→Q v { s with heap:=h',toks:=tk }) :
  wpAny (model prog w) A (call (.builtin "max") [.ref l] [(Str.ofString "default",dv)]) Q E s:=by
 have hname:(toString "max" ++ toString ".loop" : String) = "max.loop" := by decide
 have hlt:l < s.heap.objs.size:=by obtain ⟨_,e,_⟩:=hl;exact Heap.lt_size e
 refine wpAny_call (codeAny_call_builtin PySem.F.plain_max PySem.F.entry_max ?_);simp only [checkBuiltinCall,PySem.F.kind_max];have key:wpAny (model prog w) A.in1 (Builtin.«max» ⟨[.ref l],[(Str.ofString "default",dv)]⟩) (fun fin s'=>match fin with
   | .done f=>(match (Except.ok f:Result) with | .ok (.ret v)=>Q v s' | .ok _=>False | .error e=>E e s')
   | .again c'=>c'.quiet=true∧codeAny (model prog w) A c' (fun r s'=>match r with | .ok (.ret v)=>Q v s' | .ok _=>False | .error e=>E e s') s') E s:=by
  show wpAny _ A.in1 (Builtin.Builtins.bindParams "max" ["key","default"] 0 ⟨[],[(Str.ofString "default",dv)]⟩ >>= _) _ _ s;refine wpAny_bind (wpAny_of_eq (show Builtin.Builtins.bindParams "max" ["key","default"] 0 ⟨[],[(Str.ofString "default",dv)]⟩=pure [none,some dv] from rfl) ?_);refine wpAny_bind (wpAny_pure ?_);refine wpAny_bind (wpAny_pyIter_list hl ?_);refine wpAny_bind (wpAny_newObj_type ?_);rw [hname];have W:=Walks.list (prog:=prog) (w:=w) (A:=A.in1) hh s.heap.objs.size l (Nat.ne_of_lt hlt) its;have hz1:(s.heap.push { cls:=.type "list_iterator",data:=.fields #[.ref l,.int 0 0] }).objs.size=s.heap.objs.size + 1:=Heap.size_push ..;refine wpAny_pure ⟨plainId_quiet PySem.F.plain_max_loop _,DC W (fun i j=>HT.lexLt [(xs.getD j (0,0)).1,(xs.getD j (0,0)).2] [(xs.getD i (0,0)).1,(xs.getD i (0,0)).2]) _ ?_
   (fun h=>∀ (i:Nat) (q:Addr) (x:Int × Int),qs[i]? = some q→xs[i]? = some x→∃ us:List Value,(IsTup h q us.toArray∧IntsAre us [x.1,x.2])∧q < s.heap.objs.size) ?_ ?_ dv _ its.size 0 _ #[] _ rfl (Nat.zero_le _) ?_ ?_ (.inl ⟨rfl,rfl⟩) (Heap.get?_push_size _ rfl) fun v h' tk hP hk'=>?_⟩
  ·show (s.heap.push _).objs.size ∉ _;rw [hz1];simp only [List.mem_cons,List.not_mem_nil,or_false,not_or];exact ⟨Nat.succ_ne_self _,Ne.symm (Nat.ne_of_lt (Nat.lt_succ_of_lt hlt))⟩
  ·intro h h' hT hk2 i q x h1 h2;obtain ⟨us,⟨⟨o,ho,r⟩,h4⟩,h5⟩:=hT i q x h1 h2;exact ⟨us,⟨⟨o,hk2 q o (by simp only [List.mem_singleton];exact Nat.ne_of_lt h5) (by show q ≠ (s.heap.push _).objs.size;rw [hz1];exact Nat.ne_of_lt (Nat.lt_succ_of_lt h5)) ho,r⟩,h4⟩,h5⟩
  ·intro i j vi vj s' Q' E' hT hi hj h;obtain ⟨qi,ei,rfl⟩:=hv i vi hi;obtain ⟨qj,ej,rfl⟩:=hv j vj hj;have li:i < xs.length:=by rw [← hx];exact (List.getElem?_eq_some_iff.mp ei).1
   have lj:j < xs.length:=by rw [← hx];exact (List.getElem?_eq_some_iff.mp ej).1
   have xi:xs[i]? = some (xs.getD i (0,0)):=by rw [List.getD_eq_getElem?_getD,List.getElem?_eq_getElem li];rfl
   have xj:xs[j]? = some (xs.getD j (0,0)):=by rw [List.getD_eq_getElem?_getD,List.getElem?_eq_getElem lj];rfl
   obtain ⟨us,⟨t1,t2⟩,_⟩:=hT i qi _ ei xi;obtain ⟨vs,⟨t3,t4⟩,_⟩:=hT j qj _ ej xj;exact HT.EB t1 t3 t2 t4 hu h
  ·exact W.frame 0 (s.heap.push { cls:=.type "list_iterator",data:=.fields #[.ref l,.int 0 0] }) _ ⟨⟨_,Heap.get?_push_size _ rfl,rfl,rfl⟩,hl.push _⟩ fun b _ o e=>Heap.get?_push_of_some _ e
  ·intro i q x h1 h2;obtain ⟨us,⟨o,ho,r⟩,h4⟩:=ht i q x h1 h2;exact ⟨us,⟨⟨o,Heap.get?_push_of_some _ (Heap.get?_push_of_some _ ho),r⟩,h4⟩,Heap.lt_size ho⟩
  ·refine hQ v h' tk ?_ fun b o e=>hk' b o (fun hm=>?_) ?_ (Heap.get?_push_of_some _ (Heap.get?_push_of_some _ e))
   ·rcases hP with ⟨h0,h1⟩ | ⟨h0,h1⟩
    ·exact .inl ⟨List.length_eq_zero_iff.mp (by omega),h1⟩
    ·obtain ⟨q,eq,rfl⟩:=hv _ v h1;have hb:=Yw (fun i=>xs.getD i (0,0)) (its.size - 1);have li:=(List.getElem?_eq_some_iff.mp eq).1;refine .inr ⟨_,q,_,eq,List.getElem?_eq_getElem (by rw [← hx];exact li),fun x' hx'=>?_,rfl⟩;obtain ⟨j,hj,rfl⟩:=List.getElem_of_mem hx';have:=hb.2 j (by omega);simp only [List.getD_eq_getElem?_getD] at this;rw [List.getElem?_eq_getElem hj,List.getElem?_eq_getElem (show _ < xs.length by rw [← hx];simpa only [List.getD_eq_getElem?_getD] using li)] at this;simpa only [List.getD_eq_getElem?_getD,Option.getD_some] using this
   ·rw [List.mem_singleton.mp hm] at e;exact absurd (Heap.lt_size e) (Nat.lt_irrefl _)
   ·rw [hz1];exact Nat.ne_of_lt (Nat.lt_succ_of_lt (Heap.lt_size e))
 cases hsig:Manifest.signature? "max" with
 | none=>exact wpAny_pure key
 | some sig=>
  have ha:=cE (.ref l) dv;have ha':Bind.checkArgs "max" sig ⟨[.ref l],[(Str.ofString "default",dv)]⟩=pure ():=by simpa only [argsOk,hsig] using ha
  simp only [ha'];exact wpAny_pure key
end
section
variable {X:Cx}
noncomputable def zE (H:Hp) (qs:List Addr) (xs:List (Int × Int)):Prop:=qs.length=xs.length∧∀ (i:Nat) (q:Addr) (x:Int × Int),qs[i]? = some q→xs[i]? = some x→H q=some (.tup [.int x.1,.int x.2])
noncomputable def AM (K:PySem.W.Frag) (ta:TA) (td:TE):TE:=fun σ H Q=>ta σ H fun vs H1=>td σ H1 fun y H2=>∃ l qs xs,vs=[.ref l]∧SqL K H2 l (List.map V.ref qs)∧zE H2 qs xs∧(xs=[]→Q y H2)∧∀ (i:Nat) (q:Addr) (x:Int × Int),qs[i]? = some q→xs[i]? = some x→(∀ x' ∈ xs,x'.1 ≤ x.1)→Q (.ref q) H2
theorem AH (K:PySem.W.Frag) (ta:TA) (td:TE) (σ:L2.St) (H:Hp) (Q:VK):AM K ta td σ H Q=(ta σ H fun vs H1=>td σ H1 fun y H2=>∃ l qs xs,vs=[.ref l]∧SqL K H2 l (List.map V.ref qs)∧zE H2 qs xs∧(xs=[]→Q y H2)∧∀ (i:Nat) (q:Addr) (x:Int × Int),qs[i]? = some q→xs[i]? = some x→(∀ x' ∈ xs,x'.1 ≤ x.1)→Q (.ref q) H2):=rfl
theorem PK {a d:Expr} {ta:TA} {td:TE} {p kp pos:Pos} (hU:X.A.units + 64 < cLine) (hc:X.calm=true) (hg:Gl X "max") (hm:X.mg "max"=none) (ha:PA X [a] ta) (hd:PE X d td)
  (he:∀ pos,backTo pos (starEach [a] X.env)=(false,eval a X.env) :: backTo pos (starEach [] X.env):=by intro _;rfl) (hpl:∀ pos,(backTo pos (starEach [a] X.env)).any (·.1)=false:=by intro _;rfl) :
  PE X (.Call (.Name "max" p) [a] [⟨some "default",d,kp⟩] pos) (AM X.K ta td):=by
 intro pins s σ H Q I h;refine wpAny_Call_Name_kw (yj I hg hm (show bootBuiltins "max"=some (.builtin "max") by decide +kernel) ?_);refine callWith_kw (id := "max") (thn (ha pos pins s σ H _ I h) fun us s1 ⟨vs,H1,I1,r1,q1⟩=>?_) (he:=he pos) (hplain:=hpl pos);refine kws_cons (thn (hd pins s1 σ H1 _ I1 q1) fun v s2 ⟨y,H2,I2,r2,q2⟩=>kws_nil ?_);obtain ⟨l,qs,xs,rfl,hq,⟨hx,ht⟩,q0,q⟩:=q2;cases r1 with
 | cons r rr=>
  cases rr;cases r;obtain ⟨its,rv,pl,hz⟩:=I2.list hq;have e1:=Dw rv;subst e1;refine HF (I2.ok.hd hc) (by rw [L2.tj];omega) pl.isList qs xs (by rw [List.size_toArray,List.length_map]) hx (fun i v hv=>?_) (fun i q x h1 h2=>?_) fun v' h' tk hv' hk=>?_
  ·rw [List.getElem?_toArray] at hv;rw [List.getElem?_map] at hv;cases e:qs[i]? with
   | none=>rw [e] at hv;cases hv
   | some q=>rw [e] at hv;cases hv;exact ⟨q,rfl,rfl⟩
  ·obtain ⟨us,rv2,t2,_⟩:=I2.tuple (SqT.of (ht i q x h1 h2));exact ⟨us,t2,JB rv2⟩
  ·rcases hv' with ⟨e,rfl⟩ | ⟨i,q',x,h1,h2,h3,rfl⟩
   ·exact ⟨y,H2,I2.kept hk,r2,q0 e⟩
   ·exact ⟨.ref q',H2,I2.kept hk,rfl,q i q' x h1 h2 h3⟩
end
end
end My
namespace My
open PySem L2
noncomputable def uI (t:Adr):Sp:=fun vs H Q _=>∃ (pl c:Addr) (n:Int) (ds:List WD) (z:Nat) (sp:List SD) (i:Nat) (d:WD) (x:Int) (T N:Nat),vs=[.ref pl,.str d.name,.int x,.int T]∧rj t H pl c n ds z sp∧0 < z∧ds[i]? = some d∧0 < x∧pj d (frQ z sp d) x T N=0∧∀ w:Nat,Mx d (frQ z sp d) x T w→Q (.int w) H
noncomputable def cD (t:Adr) (Pt:Addr):Sp:=fun vs H Q _=>∃ (pl c:Addr) (n:Int) (ds:List WD) (z:Nat) (sp:List SD) (i:Nat) (d:WD) (cm:Addr) (cs:List Int),vs=[.ref pl,.str d.name,.ref cm]∧QIn t Pt H pl c n ds z sp i d cm cs∧(∃ k,k < z∧frQ z sp d k=true) ∧
 ((0 < qe d (frQ z sp d) (yb cs) z∨∀ T,z ≤ T→T < 2 * z→yb cs T=0)→∀ H',We Pt H H'→(NoT H→NoT H')→kq Pt H'→Q .non H') ∧
 (qe d (frQ z sp d) (yb cs) z=0→∀ (p:Addr) (u T:Nat) (H':Hp),We Pt H H'→(NoT H→NoT H')→kq Pt H'→H' p=some (.tup [.int u,.int T])→mL d (frQ z sp d) (yb cs) z u T→Q (.ref p) H')
theorem BI (z:Nat) (sp:List SD) (d:WD) (k:Nat):frQ z sp d (k + z)=frQ z sp d k:=by
 show Ag z sp d ((k + z:Nat):Int)=Ag z sp d (k:Int);unfold Ag Vn;rw [Int.natCast_add,Int.add_emod_right]
theorem YD (cs:List Int) (k:Nat):yb cs (k + cs.length)=yb cs k:=by
 unfold yb;rw [Nat.add_mod_right]
structure PrW (d:WD) (fr:Nat→Bool) (c:Nat→Int) (z k:Nat) (xs:List (Int × Int)):Prop where
 al:∀ x ∈ xs,∃ w T:Nat,x=((w:Int),(T:Int))∧z ≤ T∧T < z + k∧0 < c T∧Mx d fr (qS d fr c 0 T + c T) T w
 ex:∀ T,z ≤ T→T < z + k→0 < c T→∃ w:Nat,((w:Int),(T:Int)) ∈ xs
 ln:xs.length ≤ k
theorem PrW.slow {d:WD} {fr:Nat→Bool} {c:Nat→Int} {z:Nat} {xs:List (Int × Int)} (h:PrW d fr c z z xs) (c0:∀ k,0 ≤ c k) {x:Int × Int} (hx:x ∈ xs) (mx:∀ x' ∈ xs,x'.1 ≤ x.1):∃ w T:Nat,x=((w:Int),(T:Int))∧mL d fr c z w T:=by
 obtain ⟨w,T,rfl,h1,h2,h3,h4⟩:=h.al x hx;refine ⟨w,T,rfl,⟨h1,by omega⟩,h3,h4,fun T' w' g1 g2 g3 g4=>?_⟩;obtain ⟨u,hu⟩:=h.ex T' g1 (by omega) g3;obtain ⟨u',T'',e,_,_,_,g5⟩:=h.al _ hu;have e1:(u:Int)=(u':Int)∧(T':Int)=(T'':Int):=by injection e with a b;exact ⟨a,b⟩
 have e2:T'=T'':=by omega
 subst e2;have q0:=Tl (d:=d) (fr:=fr) c0 (Int.le_refl 0) T';have:=MI (by omega) g4 g5;have:=mx _ hu;have:(u:Int) ≤ (w:Int):=this;omega
section
variable {P:Program} {w:World} {K:PySem.W.Frag} {mg:Str→Option Value} {base:Heap} {t:Adr}
theorem UM (T:Txt w K mg t):Eb P w K mg base CX0 5 t.Xf t.Tf q33 (uI t):=by
 have g9:Eb P w K mg base CX0 4 t.Fb t.Kb q8 (Le t):=(jf T).mono (by decide);have g17:Eb P w K mg base CX0 4 t.uu t.Vt q11 (Av t):=Zx T;have V_Way_goes:Mz P w K mg base CX0 4 (isW t) "goes" q9 (Ki t):=ck (lE T) (by decide);refine T.Th.ok we (fun vs H Q E h=>?_) (fun _ _ _ s H vs Q E hr h=>?_)
 ·obtain ⟨pl,c,n,ds,z,sp,i,d,x,T0,N,rfl,_⟩:=h;rfl
 obtain ⟨pl,c,n,ds,z,sp,i,d,x,T0,N,rfl,PA,hz,hd,hx,hN,q⟩:=h;obtain ⟨dx,p,lm,un,hpl,C,_,NL,_⟩:=PA.at_;obtain ⟨⟨hnd,_⟩,dxc,wl,nd,e1,_,_⟩:=id C;refine ⟨_,(bb (zb (i:=4) we.nd (bd (fc (pv 0) rfl) T.Jb T.Pb g9 hr T.Qb .nil Kc (ab (pv 1) fb)))
   (bb (zb (i:=5) we.nd (pv 3))
   (gb (TH PassesOwn.never (bh Do) (bb (Qd (bh (qb g17 hr T.nE T.Nw.kp T.jD (ab (pv 0) (ab (pv 1) (ab (pv 5) fb))))) (gb (ot (i:=2) we.nd rfl (Or.inl rfl) (Tu (pv 4) V_Way_goes hr Kc (ab (pv 2) fb)) RD)) Xb)
   (bb (Qd (Rb Qh (pv 2) jb (Zb _)) (gb (Cb (Gb qf (pv 5) (pv 3)))) Xb)
   (gb (ot (i:=5) we.nd rfl (Or.inl rfl) jb ZE)))))))),?_⟩
 refine zS (fun σ' H'=>H'=H∧∃ wa,Ud t H wa d∧σ'=[some (.ref pl),some (.str d.name),some (.int x),some (.int (T0:Nat)),some (.ref wa),none]) (fun D' hD=>?_) fun zzM zzh=>?_
 ·walk_at "RD";exact ⟨_,Pi T hpl,_,rfl,_,_,e1,cx _ _ _ (by decide +kernel),c,n,ds,i,d,rfl,C,hd,fun a W=>hD _ _ ⟨rfl,a,W,rfl⟩⟩
 rintro σ1 H1 ⟨rfl,wa,W,rfl⟩;subst zzh;refine zS (fun σ' H'=>H'=H1∧σ'=[some (.ref pl),some (.str d.name),some (.int x),some (.int (T0:Nat)),some (.ref wa),some (.int (T0:Nat))]) (fun D' hD=>?_) fun zzM zzh=>?_
 ·walk_at "RD";exact hD _ _ ⟨rfl,rfl⟩
 rintro σ2 H2 ⟨rfl,rfl⟩;obtain ⟨dxw,ew⟩:=id W.2;subst zzh;refine cG (fun σ H'=>H'=H2∧∃ u:Nat,pj d (frQ z sp d) x T0 u ≠ 0∧σ=[some (.ref pl),some (.str d.name),some (.int (pj d (frQ z sp d) x T0 u)),some (.int (T0:Nat)),some (.ref wa),some (.int ((T0 + u:Nat):Int))]) (fun σ _=>match σ with | [_,_,_,_,_,some (.int j)]=>(T0 + N:Nat) - j.toNat | _=>0) ⟨rfl,0,by show x ≠ 0;omega,rfl⟩ ?_;rintro σ H' zzq;refine zzP fun zzM zzh=>?_
 obtain ⟨rfl,u,hu,rfl⟩:=zzq;have huN:u < N:=by
  rcases Nat.lt_or_ge u N with h | h
  ·exact h
  ·have:=GG (by omega) hN (u - N);rw [show N + (u - N)=u by omega] at this;exact absurd this hu
 subst zzh;refine ⟨true,fun Q hQ=>?_,fun _=>?_,fun h=>nomatch h⟩
 ·walk_at "RD";exact hQ
 have hst:pj d (frQ z sp d) x T0 (u + 1)=if Ag z sp d ((T0 + u:Nat):Int)=true then pj d (frQ z sp d) x T0 u - Nk d (pj d (frQ z sp d) x T0 u) else pj d (frQ z sp d) x T0 u:=rfl;refine zS (fun σ' H''=>H''=H'∧σ'=[some (.ref pl),some (.str d.name),some (.int (pj d (frQ z sp d) x T0 (u + 1))),some (.int (T0:Nat)),some (.ref wa),some (.int ((T0 + u:Nat):Int))]) (fun D' hD=>?_) fun zzM zzh=>?_
 ·refine Vb (Ag z sp d ((T0 + u:Nat):Int)) (fun Q hQ=>?_) (fun hb=>?_) (fun hb=>?_)
  ·walk_at "RD";exact ⟨pl,c,n,ds,z,sp,i,d,_,rfl,PA,hz,hd,_,rfl,hQ⟩
  ·rw [if_pos hb] at hst;walk_at "RD";exact ⟨_,dxw,_,ew,⟨d.k,W.1,rfl⟩,yJ (by decide +kernel),wa,d,_,rfl,W,rfl,_,_,rfl,rfl,hD _ _ ⟨rfl,by rw [hst]⟩⟩
  ·rw [if_neg (by rw [hb];decide)] at hst;walk_at "RD";exact hD _ _ ⟨rfl,by rw [hst]⟩
 rintro σ3 H3 ⟨rfl,rfl⟩;subst zzh;simp only [Ab];refine Mb (fun σ' H''=>H''=H3∧pj d (frQ z sp d) x T0 (u + 1) ≠ 0∧σ'=[some (.ref pl),some (.str d.name),some (.int (pj d (frQ z sp d) x T0 (u + 1))),some (.int (T0:Nat)),some (.ref wa),some (.int ((T0 + u:Nat):Int))]) (fun D' hD hrt _ _=>?_) ?_
 ·refine Vb (decide (pj d (frQ z sp d) x T0 (u + 1)=0)) (fun Q hQ=>?_) (fun hb=>?_) (fun hb=>?_)
  ·walk_at "RD";exact hQ
  ·have hb:=of_decide_eq_true hb;walk_at "RD";rw [hrt,show ((T0 + u:Nat):Int) - (T0:Int)=(u:Int) by omega];exact q u ⟨hb,hu⟩
  ·have hb:=of_decide_eq_false hb;walk_at "RD";exact hD _ _ ⟨rfl,hb,rfl⟩
 rintro σ4 H4 ⟨rfl,hne,rfl⟩;walk_at "RD";refine ⟨_,_,rfl,rfl,rfl,⟨u + 1,hne,rfl,by congr 1⟩,?_⟩;show (T0 + N:Nat) - (((T0 + u:Nat):Int) + 1).toNat < (T0 + N:Nat) - (((T0 + u:Nat):Int)).toNat;omega
theorem vJ (T:Txt w K mg t) {cd Pt:Addr} (hc:t.Zc.code=.ref cd) (hC:PySem.W.CodeHd base cd Pt) (hB:base.BuiltinsAt mg Pt):Eb P w K mg base CX0 8 t.Km t.Tm q12 (cD t Pt):=by
 have g24:Eb P w K mg base CX0 7 t.Cp t.Yq q12 (bv t Pt):=(Cz T hc hC hB).mono (by decide);have g23:Eb P w K mg base CX0 7 t.Sg t.Zc ["comings"] (jq Pt):=(Ew T hc hC hB).mono (by decide);have g60:Eb P w K mg base CX0 7 t.Bv t.Pu q32 (EA t Pt):=YH T hc hC hB;have g61:Eb P w K mg base CX0 7 t.Xf t.Tf q33 (uI t):=(UM T).mono (by decide);have g17:Eb P w K mg base CX0 7 t.uu t.Vt q11 (Av t):=(Zx T).mono (by decide);have g9:Eb P w K mg base CX0 7 t.Fb t.Kb q8 (Le t):=(jf T).mono (by decide);have V_Way_goes:Mz P w K mg base CX0 7 (isW t) "goes" q9 (Ki t):=ck (lE T) (by decide);refine T.wq.ok Ef (fun vs H Q E h=>?_) (fun _ _ _ s H vs Q E hr h=>?_)
 ·obtain ⟨pl,c,n,ds,z,sp,i,d,cm,cs,rfl,_⟩:=h;rfl
 obtain ⟨pl,c,n,ds,z,sp,i,d,cm,cs,rfl,I,hfe,q0,q1⟩:=h;have hU:=hr.units;have hz:=I.z0;have hcl:=I.cl;have hcn:∀ k,0 ≤ yb cs k:=fun k=>(Yj I.cb k).1
 refine ⟨_,(bb (Qd (Rb Jr (qb g24 hr T.eE T.Lv.kp T.vF (ab (pv 0) (ab (pv 1) (ab (pv 2) fb)))) jb (Zb _)) (gb (Cb qt)) Xb)
   (bb (zb (i:=3) Ef.nd (qb g23 hr T.Ml T.Qg.kp T.Iq (ab (pv 2) fb)))
   (bb (zb (i:=4) Ef.nd (gf fb))
   (bb (zb (i:=5) Ef.nd (qb g60 hr T.qJ T.Uy.kp T.wJ (ab (pv 0) (ab (pv 1) (ab (pv 2) (ab (fc (pv 0) rfl) fb))))))
   (bb (Kd PassesOwn.never rfl (FD rfl T.bf (ab (fc (pv 0) rfl) (ab (Gb zh jb (fc (pv 0) rfl)) fb))) (ub (i:=6) Ef.nd) (bb (ot (i:=5) Ef.nd rfl (Or.inl rfl) (sv (q:=Ue) (params:=aN (Sv Ob)) (body:=cN (Sv Ob)) (scope:=lL (Sv Ob)) (pv 3) ak hr (ab (pv 6) fb) (fun _ _ _ _ _=>rfl) (fun _ _ _ _ _=>⟨_,(ac yc (pv 1) (Gb Jd (pv 0) (dc ic rfl T.Ik Ac (ab (pv 1) fb)))),by first | rfl | (dsimp only [Mo];done) | (dsimp only [Mo];exact rfl)⟩)) ZE)
   (bb (Qd (Rb Jr (sv (q:=Ue) (params:=aN (Sv Ob)) (body:=cN (Sv Ob)) (scope:=lL (Sv Ob)) (pv 3) ak hr (ab (pv 6) fb) (fun _ _ _ _ _=>rfl) (fun _ _ _ _ _=>⟨_,(ac yc (pv 1) (Gb Jd (pv 0) (dc ic rfl T.Ik Ac (ab (pv 1) fb)))),by first | rfl | (dsimp only [Mo];done) | (dsimp only [Mo];exact rfl)⟩)) jb (Zb _)) (gb (Wc (On PySem.F.plainAttrs_list PySem.F.slot_list_append PySem.F.type_list_append Yg (pv 4) (ab (Bo (ab (qb g61 hr T.As T.Th.kp T.ls (ab (pv 0) (ab (pv 1) (ab (pv 5) (ab (pv 6) fb))))) (ab (pv 6) fb))) fb)))) Xb)
   (gb (Qd (bh (qb g17 hr T.nE T.Nw.kp T.jD (ab (pv 0) (ab (pv 1) (ab (pv 6) fb))))) (gb (ot (i:=5) Ef.nd rfl (Or.inl rfl) (Tu (bd (fc (pv 0) rfl) T.Jb T.Pb g9 hr T.Qb .nil Kc (ab (pv 1) fb)) V_Way_goes hr Kc (ab (pv 5) fb)) RD)) Xb)))))
   (gb (Cb (PK hU rfl rfl T.DH (ab (pv 4) fb) qt)))))))),?_⟩
 simp only [Ab];refine Mb (fun σ' H'=>We Pt H H'∧(NoT H→NoT H')∧kq Pt H'∧qe d (frQ z sp d) (yb cs) z=0∧σ'=[some (.ref pl),some (.str d.name),some (.ref cm),none,none,none,none]) (fun D' hD hrt _ _=>?_) ?_
 ·refine vp (fun b H'=>b=decide (0 < qe d (frQ z sp d) (yb cs) z)∧We Pt H H'∧(NoT H→NoT H')∧kq Pt H') (fun Q hQ=>?_) (fun H' r=>?_) (fun H' r=>?_)
  ·walk_at "RD";exact ⟨pl,c,n,ds,z,sp,i,d,cm,cs,rfl,I,fun H' s1 n1 t1=>⟨_,rfl,hQ _ _ ⟨rfl,s1,n1,t1⟩⟩⟩
  ·walk_at "RD";rw [hrt];exact q0 (.inl (of_decide_eq_true r.1.symm)) H' r.2.1 r.2.2.1 r.2.2.2
  ·have g:=of_decide_eq_false r.1.symm;have g0:=(om (d:=d) (fr:=frQ z sp d) hcn z).2.1;walk_at "RD";exact hD _ _ ⟨r.2.1,r.2.2.1,r.2.2.2,by omega,rfl⟩
 rintro σ1 H1 zzq;refine zzP fun zzM zzh=>?_
 obtain ⟨s1,n1,t1,hg,rfl⟩:=zzq;have I1:=I.step s1 t1;have B:jC d (frQ z sp d) (yb cs) z:=⟨hz.1,BI z sp d,fun k=>by rw [← hcl];exact YD cs k,hcn,hfe,hg⟩;subst zzh;simp only [Ab];refine zzC (fun σ' H'=>We Pt H1 H'∧(NoT H1→NoT H')∧kq Pt H'∧∃ f l,Clo H' f l cs∧σ'=[some (.ref pl),some (.str d.name),some (.ref cm),some (.ref f),none,none,none]) (fun D' hD=>?_) fun zzM zzh=>?_
 ·walk_at "RD";exact ⟨cm,cs,rfl,I1.cm,I1.tb,fun f l H' _ sm nt tb k=>hD _ _ ⟨sm,nt,tb,f,l,k,rfl⟩⟩
 rintro σ2 H2 ⟨s2,n2,tb2,f,l,kf,rfl⟩;have I2:=I1.step s2 tb2;subst zzh;simp only [Ab];refine zzC (fun σ' H'=>∃ wl,H2 wl=none∧H'=upd H2 wl (.lst [])∧σ'=[some (.ref pl),some (.str d.name),some (.ref cm),some (.ref f),some (.ref wl),none,none]) (fun D' hD=>?_) fun zzM zzh=>?_
 ·walk_at "RD";exact ⟨Nat.zero_le _,fun wl hwl=>hD _ _ ⟨wl,hwl,rfl,rfl⟩⟩
 rintro σ3 H3 ⟨wl,hwl,rfl,rfl⟩;have w3:Yb H2 (upd H2 wl (.lst [])):=lb hwl;have I3:=I2.step w3.p (I2.tb.step w3);obtain ⟨dx,p,lm,un,hpl,_⟩:=I3.pl.at_;subst zzh;simp only [Ab];refine zzC (fun σ' H'=>We Pt (upd H2 wl (.lst [])) H'∧(NoT (upd H2 wl (.lst []))→NoT H')∧kq Pt H'∧σ'=[some (.ref pl),some (.str d.name),some (.ref cm),some (.ref f),some (.ref wl),some (.int (qS d (frQ z sp d) (yb cs) 0 z)),none]) (fun D' hD=>?_) fun zzM zzh=>?_
 ·walk_at "RD";refine ⟨_,Hj T hpl,pl,c,n,ds,z,sp,i,d,cm,cs,(z:Int),rfl,I3,by omega,fun H' s4 n4 t4=>?_⟩;have:=iH (d:=d) (fr:=frQ z sp d) (c:=yb cs) hcn hz.1 (R:=1) (Int.le_refl 1) (m:=0) hz.1;rw [show (1:Int) * (z:Int) + ((0:Nat):Int)=(z:Int) by omega] at this;rw [this,hg];rw [show qS d (frQ z sp d) (yb cs) (il d (frQ z sp d) (yb cs) z) 0 + (1 - 1) * 0=qS d (frQ z sp d) (yb cs) 0 z by show il d (frQ z sp d) (yb cs) z + (1 - 1) * 0=_;rw [Int.mul_zero,Int.add_zero];rfl];exact hD _ _ ⟨s4,n4,t4,rfl⟩
 rintro σ5 H5 ⟨s5,n5,t5,rfl⟩;have e5:H5 wl=some (.lst []):=(Tv I3.tb s5).lst db;have hPw:Pt ≠ wl:=by
  obtain ⟨ps,hps,_⟩:=id t5;exact Ge hps e5 (by intro z;cases z)
 obtain ⟨H0,hH0⟩:∃ H0:Hp,H0=fun b=>if b=wl then none else H5 b:=⟨_,rfl⟩
 have h0w:H0 wl=none:=by rw [hH0];exact if_pos rfl
 have h0n:∀ b,b ≠ wl→H0 b=H5 b:=fun b hb=>by rw [hH0];exact if_neg hb
 have s05:Yb H0 H5:=fun b o e=>by
  rw [← h0n b (fun z=>by rw [z,h0w] at e;cases e)];exact e
 have s20:We Pt H2 H0:=fun b o hb e=>by
  have hbw:b ≠ wl:=fun z=>by rw [z,hwl] at e;cases e
  rw [h0n b hbw];exact s5 b o hb (w3 _ _ e)
 have tb0:kq Pt H0:=by
  obtain ⟨ps,hps,r⟩:=id t5;refine ⟨ps,by rw [h0n Pt hPw];exact hps,?_⟩;rcases r with r | ⟨c',r1,r2⟩
  ·exact .inl r
  ·exact .inr ⟨c',r1,by rw [h0n c' (Ge r2 e5 (by intro z;cases z))];exact r2⟩
 have I0:=I2.step s20 tb0;have K0:=kf.sameP I2.tb s20;have s00:We Pt H H0:=(s1.trans s2).trans s20;subst zzh;clear hH0;simp only [Ab];refine zzC (fun σ' H'=>Yb H0 H'∧(NoT H5→NoT H')∧∃ qs xs x6,H' wl=some (.lst (qs.map V.ref))∧zE H' qs xs∧PrW d (frQ z sp d) (yb cs) z z xs∧σ'=[some (.ref pl),some (.str d.name),some (.ref cm),some (.ref f),some (.ref wl),some (.int (qS d (frQ z sp d) (yb cs) 0 (z + z))),x6]) (fun D' hD=>?_) fun zzM zzh=>?_
 ·obtain ⟨dx5,p5,lm5,un5,hpl5,_⟩:=(I0.pl.sameT (qA s05)).at_;walk_at "RD";refine ⟨_,Hj T hpl5,_,Hj T hpl5,_,rfl,.inl ⟨by decide,by decide⟩,_,rfl,by omega,by omega,by omega,by omega,?_⟩;rw [show (2 * (z:Int) - (z:Int)).toNat=z by omega];refine zi.range (fun k σ H'=>Yb H0 H'∧(NoT H5→NoT H')∧∃ qs xs x6,H' wl=some (.lst (qs.map V.ref))∧zE H' qs xs∧PrW d (frQ z sp d) (yb cs) z k xs∧σ=[some (.ref pl),some (.str d.name),some (.ref cm),some (.ref f),some (.ref wl),some (.int (qS d (frQ z sp d) (yb cs) 0 (z + k))),x6]) ⟨s05,id,[],[],_,e5,⟨rfl,fun i q x h=>by simp at h⟩,⟨fun x h=>by simp at h,fun T h1 h2=>by omega,Nat.le_refl _⟩,rfl⟩ ?_ ?_
  ·rintro k σ HA hk zzq;refine zzP fun zzM zzh=>?_
   obtain ⟨sA,nA,qs,xs,x6,eA,PA,WA,rfl⟩:=zzq;have IA:=I0.step sA.p (I0.tb.step sA);obtain ⟨cl,c',c1,c2,c3,c4⟩:=K0.same sA;have hcl':l ≠ cl:=Ge c4 c3 fun z=>by cases z
   have hl:SqL K (Ir HA cl) l (List.map V.int cs):=SqL.of (by rw [xh hcl'];exact c4);have hpos:0 < cs.length:=by omega
   have hcome:cs.getD (((z + k:Nat):Int) % (cs.length:Int)).toNat 0=yb cs (z + k):=by
    unfold yb;rw [show (((z + k:Nat):Int) % (cs.length:Int)).toNat=(z + k) % cs.length by rw [← Int.natCast_emod,Int.toNat_natCast]]
   have c0:=hcn (z + k);have q0':=Tl (d:=d) (fr:=frQ z sp d) hcn (Int.le_refl 0) (z + k);subst zzh;simp only [Ig,Ab,List.set_cons_succ,List.set_cons_zero];rw [show ((z:Int) + (k:Int))=((z + k:Nat):Int) from rfl];refine zzC (fun σ' H''=>H''=HA∧σ'=[some (.ref pl),some (.str d.name),some (.ref cm),some (.ref f),some (.ref wl),some (.int (qS d (frQ z sp d) (yb cs) 0 (z + k) + yb cs (z + k))),some (.int ((z + k:Nat):Int))]) (fun D' hD=>?_) fun zzM zzh=>?_
   ·walk_at "RD";refine ⟨⟨cl,c',c1⟩,cl,c',c1,c2,_,c3,l,rfl,_,.inl hl,by rw [List.length_map];omega,l,rfl,_,hl,_,by rw [List.length_map];exact Mp hpos _,_,_,rfl,rfl,?_⟩;rw [Ky c3,hcome];exact hD _ _ ⟨rfl,rfl⟩
   rintro σ7 H7 ⟨rfl,rfl⟩;subst zzh;simp only [Ab];refine zzC (fun σ' H''=>Yb H0 H''∧(NoT H5→NoT H'')∧∃ qs xs,H'' wl=some (.lst (qs.map V.ref))∧zE H'' qs xs∧PrW d (frQ z sp d) (yb cs) z (k + 1) xs∧σ'=[some (.ref pl),some (.str d.name),some (.ref cm),some (.ref f),some (.ref wl),some (.int (qS d (frQ z sp d) (yb cs) 0 (z + k) + yb cs (z + k))),some (.int ((z + k:Nat):Int))]) (fun D' hD=>?_) fun zzM zzh=>?_
   ·refine Vb (decide (0 < yb cs (z + k))) (fun Q hQ=>?_) (fun hb=>?_) (fun hb=>?_)
    ·walk_at "RD";refine ⟨⟨cl,c',c1⟩,cl,c',c1,c2,_,c3,l,rfl,_,.inl hl,by rw [List.length_map];omega,l,rfl,_,hl,_,by rw [List.length_map];exact Mp hpos _,_,rfl,?_⟩;rw [Ky c3,hcome];exact hQ
    ·have hb:=of_decide_eq_true hb;walk_at "RD";refine ⟨.inl ⟨_,SqL.of eA⟩,pl,c,n,ds,z,sp,i,d,_,z + k,9 * z - (z + k),rfl,IA.pl,hz.1,IA.dd,by omega,B.done (by omega),fun u hu=>⟨by decide,fun p' hp=>?_⟩⟩;have hwp:wl ≠ p':=xb eA hp;have hln:=WA.ln;refine ⟨_,by rw [pb hwp];exact eA,Nat.lt_of_le_of_lt (show (qs.map V.ref).length ≤ 1000 by rw [List.length_map,PA.1];omega) (by decide),hD _ _ ⟨(sA.trans (lb hp)).updN h0w,fun n=>((nA n).upd).upd,qs ++ [p'],xs ++ [((u:Int),((z + k:Nat):Int))],by rw [db,List.map_append];rfl,⟨by rw [List.length_append,List.length_append,PA.1];rfl,fun j q' x h1 h2=>?_⟩,⟨fun x hx=>?_,fun T h1 h2 h3=>?_,by rw [List.length_append];show xs.length + 1 ≤ k + 1;omega⟩,rfl⟩⟩
     ·have hpl:=PA.1;rcases Bi h1 with ⟨g1,g2⟩ | ⟨g1,rfl⟩
      ·rcases Bi h2 with ⟨g3,g4⟩ | ⟨g3,_⟩
       ·have e:=PA.2 j q' x g2 g4;rw [pb (Ge e eA (by intro z;cases z)),pb (xb e hp)];exact e
       ·omega
      ·rcases Bi h2 with ⟨g3,g4⟩ | ⟨g3,rfl⟩
       ·omega
       ·rw [pb hwp.symm,db]
     ·rcases List.mem_append.mp hx with hx | hx
      ·obtain ⟨u',T,g1,g2,g3,g4⟩:=WA.al x hx;exact ⟨u',T,g1,g2,by omega,g4⟩
      ·exact ⟨u,z + k,List.mem_singleton.mp hx,by omega,by omega,hb,hu⟩
     ·rcases Nat.lt_or_ge T (z + k) with h | h
      ·obtain ⟨u',hu'⟩:=WA.ex T h1 h h3;exact ⟨u',List.mem_append_left _ hu'⟩
      ·have e:T=z + k:=by omega
       subst e;exact ⟨u,List.mem_append_right _ (List.mem_singleton.mpr rfl)⟩
    ·have hb:=of_decide_eq_false hb;walk_at "RD";refine hD _ _ ⟨sA,nA,qs,xs,eA,PA,⟨fun x hx=>?_,fun T h1 h2 h3=>?_,by have:=WA.ln;omega⟩,rfl⟩
     ·obtain ⟨u,T,g1,g2,g3,g4⟩:=WA.al x hx;exact ⟨u,T,g1,g2,by omega,g4⟩
     ·refine WA.ex T h1 ?_ h3;rcases Nat.lt_or_ge T (z + k) with h | h
      ·exact h
      ·have:T=z + k:=by omega
       rw [this] at h3;exact absurd h3 hb
   rintro σ8 H8 ⟨s8,n8,qs8,xs8,e8,P8,W8,rfl⟩;have I8:=I0.step s8.p (I0.tb.step s8);obtain ⟨dx8,p8,lm8,un8,hpl8,C8,_⟩:=I8.pl.at_;obtain ⟨_,dxc8,wl8,nd8,ec8,_,_⟩:=id C8;have hst:qS d (frQ z sp d) (yb cs) 0 (z + (k + 1))=if Ag z sp d ((z + k:Nat):Int)=true then qS d (frQ z sp d) (yb cs) 0 (z + k) + yb cs (z + k) - Nk d (qS d (frQ z sp d) (yb cs) 0 (z + k) + yb cs (z + k)) else qS d (frQ z sp d) (yb cs) 0 (z + k) + yb cs (z + k):=rfl;subst zzh;dsimp only;refine Vb (Ag z sp d ((z + k:Nat):Int)) (fun Q hQ=>?_) (fun hb=>?_) (fun hb=>?_)
   ·walk_at "RD";exact ⟨pl,c,n,ds,z,sp,i,d,_,rfl,I8.pl,hz.1,I8.dd,_,rfl,hQ⟩
   ·rw [if_pos hb] at hst;walk_at "RD";refine ⟨_,Pi T hpl8,_,rfl,_,_,ec8,cx _ _ _ (by decide +kernel),c,n,ds,i,d,rfl,C8,I8.dd,fun a W=>?_⟩;obtain ⟨dxw,ew⟩:=id W.2;exact ⟨a,rfl,_,dxw,_,ew,⟨d.k,W.1,rfl⟩,yJ (by decide +kernel),a,d,_,rfl,W,rfl,_,_,rfl,rfl,s8,n8,qs8,e8,xs8,P8,W8,by rw [hst],_,rfl⟩
   ·rw [if_neg (by rw [hb];decide)] at hst;walk_at "RD";exact ⟨s8,n8,qs8,e8,xs8,P8,W8,hst.symm,_,rfl⟩
  ·rintro σ H' zzq;refine zzP fun zzM zzh=>?_
   obtain ⟨sA,nA,qs,xs,x6,eA,PA,WA,rfl⟩:=zzq;subst zzh;exact hD _ _ ⟨sA,nA,qs,xs,x6,eA,PA,WA,rfl⟩
 rintro σ6 H6 ⟨s6,n6,qs,xs,x6,e6,P6,W6,rfl⟩;have I6:=I0.step s6.p (I0.tb.step s6);subst zzh;walk_at "RD";simp only [AH];walk_at "RD";refine ⟨qs,SqL.of e6,xs,P6,fun e=>?_,fun j q' x h1 h2 h3=>?_⟩
 ·refine q0 (.inr fun T h1 h2=>?_) H6 (s00.trans s6.p) (fun n=>n6 (n5 ((n2 (n1 n)).upd))) I6.tb;have:=hcn T;by_cases c:0 < yb cs T
  ·obtain ⟨u,hu⟩:=W6.ex T h1 (by omega) c;rw [e] at hu;simp at hu
  ·omega
 ·obtain ⟨u,T,e,S⟩:=W6.slow hcn (List.mem_of_getElem? h2) h3;have eq:=P6.2 j q' x h1 h2;rw [e] at eq;exact q1 hg q' u T H6 (s00.trans s6.p) (fun n=>n6 (n5 ((n2 (n1 n)).upd))) I6.tb eq S
end
end My
namespace My
open PySem L2
noncomputable abbrev frL (ns:List Int) (d:WD) (z:Nat):Nat→Bool:=fun k=>Hk (spF ns d z) z (k:Int)
theorem AJ (ns:List Int) (d:WD) (z:Nat) (k:Nat):frL ns d z (k % z)=frL ns d z k:=by
 show Hk _ _ _=Hk _ _ _;unfold Hk;congr 1;funext p;rw [Int.natCast_emod,Int.emod_sub_emod]
noncomputable def kvW (W:List (Nat × Nat)):List (Key × V):=W.map fun q=>(Sum.inl (q.1:Int),V.int (q.2:Int))
theorem pE {W:List (Nat × Nat)} {t w:Nat} (h:t ∉ W.map (·.1)):Eo (kvW W) (Sum.inl (t:Int)) (.int (w:Int))=kvW (W ++ [(t,w)]):=by
 unfold Eo;rw [if_neg]
 ·unfold kvW;rw [List.map_append];rfl
 ·intro hc;obtain ⟨e,he,h2⟩:=List.any_eq_true.mp hc;obtain ⟨q,hq,rfl⟩:=List.mem_map.mp he;have h2:=of_decide_eq_true h2;injection h2 with h2;exact h (List.mem_map.mpr ⟨q,hq,by omega⟩)
theorem SF:∀ {W:List (Nat × Nat)},(W.map (·.1)).Nodup→∀ {t w:Nat},(t,w) ∈ W→bo (kvW W) (Sum.inl (t:Int))=some (.int (w:Int))
 | [],_,_,_,h=>by simp at h
 | q :: W,nd,t,w,h=>by
  rw [List.map_cons,List.nodup_cons] at nd;by_cases e:q.1=t
  ·rcases List.mem_cons.mp h with rfl | h
   ·exact qp rfl
   ·exact absurd (List.mem_map.mpr ⟨_,h,e.symm⟩) nd.1
  ·have hn:¬ (Sum.inl (q.1:Int):Key)=Sum.inl (t:Int):=fun z=>by injection z with z;omega
   rcases List.mem_cons.mp h with rfl | h
   ·exact absurd rfl e
   ·exact (up (p:=(Sum.inl (q.1:Int),V.int (q.2:Int))) hn).trans (SF nd.2 h)
structure Qu (Hb H:Hp) (ll:Addr) (qs:List Addr) (L:List (Nat × Int)):Prop where
 e:H ll=some (.lst (qs.map V.ref))
 nb:Hb ll=none
 ln:qs.length=L.length
 at_:∀ (i:Nat) (q:Addr) (p:Nat × Int),qs[i]? = some q→L[i]? = some p→H q=some (.lst [.int (p.1:Int),.int p.2])∧Hb q=none
theorem Qu.dct {Hb H:Hp} {ll wd:Addr} {qs:List Addr} {L:List (Nat × Int)} {kvs:List (Key × V)} {o:HO} (h:Qu Hb H ll qs L) (hw:H wd=some (.dK kvs)):Qu Hb (upd H wd o) ll qs L:=
 ⟨by rw [pb (Ge h.e hw (by intro z;cases z))];exact h.e,h.nb,h.ln,fun i q p a b=>⟨by rw [pb (Ge (h.at_ i q p a b).1 hw (by intro z;cases z))];exact (h.at_ i q p a b).1,(h.at_ i q p a b).2⟩⟩
theorem Qu.ne {Hb H:Hp} {ll:Addr} {qs:List Addr} {L:List (Nat × Int)} (h:Qu Hb H ll qs L) {i:Nat} {q:Addr} (hq:qs[i]? = some q):q ≠ ll:=fun z=>by
 have hi:=(List.getElem?_eq_some_iff.mp hq).1;have hl:L[i]? = some (L[i]'(by rw [← h.ln];exact hi)):=List.getElem?_eq_getElem _;have e:=(h.at_ i q _ hq hl).1;rw [z,h.e] at e;have e:=Option.some.inj e;injection e with e;cases qs with
 | nil=>simp at hq
 | cons x r=>rw [List.map_cons] at e;injection e with e1;cases e1
noncomputable def RF (K:PySem.W.Frag) (a:Addr) (ns:List Int):Sp:=fun vs H Q _=>∃ (wa:Addr) (d:WD) (z:Nat) (cm:Addr) (cs:List Int),vs=[.ref a,.ref wa,.int z,.ref cm]∧Sc K a ns H∧H wa=some (.tup (Bt d))∧W46 d∧(5 ≤ z∧z ≤ 60)∧H cm=some (.lst (cs.map V.int))∧cs.length=z∧(∀ x ∈ cs,0 ≤ x∧x ≤ 1000000000) ∧
 ∀ p H' L W,Yb H H'→Sc K a ns H'→H' p=some (.dK (kvW W))→Sy d (frL ns d z) (yb cs) z (9 * z) L W→Q (.ref p) H'
noncomputable def WtI (K:PySem.W.Frag) (a:Addr) (ns:List Int) (Hb:Hp) (d:WD) (z:Nat) (cs:List Int) (wa cm op wd:Addr) (T:Nat) (σ:L2.St) (H':Hp):Prop:=Yb Hb H'∧Sc K a ns H'∧∃ W L qs ll x7 x8,H' wd=some (.dK (kvW W))∧Qu Hb H' ll qs L∧Sy d (frL ns d z) (yb cs) z T L W∧L.length + W.length ≤ T∧σ=[some (.ref a),some (.ref wa),some (.int (z:Nat)),some (.ref cm),some (.ref op),some (.ref wd),some (.ref ll),x7,x8]
theorem jp {k:Nat} (h:k < 3):Hd k=Str.ofString "foot" ↔ k=1:=by
 match k,h with
 | 0,_=>exact ⟨fun z=>absurd z (by decide +kernel),fun z=>by cases z⟩
 | 1,_=>exact ⟨fun _=>rfl,fun _=>rfl⟩
 | 2,_=>exact ⟨fun z=>absurd z (by decide +kernel),fun z=>by cases z⟩
theorem Qu.push {Hb H:Hp} {ll p:Addr} {qs:List Addr} {L:List (Nat × Int)} {x:Nat × Int} (h:Qu Hb H ll qs L) (hp:H p=none) (hb:Hb p=none):Qu Hb (upd (upd H p (.lst [.int (x.1:Int),.int x.2])) ll (.lst (qs.map V.ref ++ [.ref p]))) ll (qs ++ [p]) (L ++ [x]):=by
 have hlp:ll ≠ p:=xb h.e hp;have hln:=h.ln;refine ⟨by rw [db,List.map_append];rfl,h.nb,by rw [List.length_append,List.length_append,hln];rfl,fun i q y h1 h2=>?_⟩;rcases Bi h1 with ⟨g1,g2⟩ | ⟨g1,rfl⟩
 ·rcases Bi h2 with ⟨g3,g4⟩ | ⟨g3,_⟩
  ·have e:=h.at_ i q y g2 g4;rw [pb (h.ne g2),pb (xb e.1 hp)];exact e
  ·omega
 ·rcases Bi h2 with ⟨g3,g4⟩ | ⟨g3,rfl⟩
  ·omega
  ·rw [pb hlp.symm,db];exact ⟨rfl,hb⟩
theorem Qu.head {Hb H:Hp} {ll q0:Addr} {qs:List Addr} {L:List (Nat × Int)} {x:Nat × Int} {m:Int} (h:Qu Hb H ll (q0 :: qs) (x :: L)) (nd:((x :: L).map (·.1)).Nodup):Qu Hb (upd H q0 (.lst [.int (x.1:Int),.int m])) ll (q0 :: qs) ((x.1,m) :: L):=by
 have n0:q0 ≠ ll:=h.ne (i:=0) rfl;refine ⟨by rw [pb n0.symm];exact h.e,h.nb,h.ln,fun i q y h1 h2=>?_⟩
 match i,h1,h2 with
 | 0,h1,h2=>
  cases h1;cases h2;rw [db];exact ⟨rfl,(h.at_ 0 q0 x rfl rfl).2⟩
 | i + 1,h1,h2=>
  have e:=h.at_ (i + 1) q y h1 h2;have hne:q ≠ q0:=fun z=>by
   have e0:=(h.at_ 0 q0 x rfl rfl).1;rw [← z,e.1] at e0;have e0:=Option.some.inj e0;injection e0 with e0;injection e0 with e1;injection e1 with e1;rw [List.map_cons,List.nodup_cons] at nd;have hy:y ∈ L:=List.mem_of_getElem? h2;exact nd.1 (List.mem_map.mpr ⟨y,hy,by omega⟩)
  rw [pb hne];exact e
theorem Qu.pop {Hb H:Hp} {ll q0:Addr} {qs:List Addr} {L:List (Nat × Int)} {x:Nat × Int} (h:Qu Hb H ll (q0 :: qs) (x :: L)):Qu Hb (upd H ll (.lst (qs.map V.ref))) ll qs L:=
 ⟨db,h.nb,by have:=h.ln;simpa using this,fun i q y h1 h2=>by
  have e:=h.at_ (i + 1) q y h1 h2;rw [pb (h.ne (i:=i + 1) h1)];exact e⟩
section
variable {P:Program} {w:World} {K:PySem.W.Frag} {mg:Str→Option Value} {base:Heap} {t:Adr}
theorem aK (T:Txt w K mg t) (a:Addr) (ns:List Int) (h63:ns.length ≤ 63):Eb P w K mg base CX0 4 t.Bh t.Gh q45 (RF K a ns):=by
 have g26:Eb P w K mg base CX0 3 t.Ng t.jh q29 (zu K a ns):=UA T a ns h63;refine T.Wj.ok Md (fun vs H Q E h=>?_) (fun _ _ _ s H vs Q E hr h=>?_)
 ·obtain ⟨wa,d,z,cm,cs,rfl,_⟩:=h;rfl
 obtain ⟨wa,d,z,cm,cs,rfl,S,ew,W,hz,ec,hcl,hcb,q⟩:=h;have hu:=Rw hr;have hcn:∀ k,0 ≤ yb cs k:=fun k=>(Yj hcb k).1
 have hpos:0 < cs.length:=by omega
 have hk3:=W.k3;refine ⟨_,(bb (Jg (i:=4) Md.nd rfl (Or.inl rfl) rfl (ae rfl T.bf (ab (pv 2) fb)) (Yc (sc:=ib Oj) rfl (by decide +kernel)) (N:=q50) (sel:=[none,some 0,some 1,some 2]) (Nd (M:=["_law_script","_law_way_here","_law_size","_law_comings_here","_law_opened","_law_waits_here","_law_line","_law_turn","_law_one"]) (by decide +kernel)) (Blk.of (fun _ _ _ _=>(ub (i:=0) (kh (N:=q50) (by decide +kernel) rfl))) (fun _ _ _ _=>⟨_,ug,by walk_at "B"⟩) (fun _ _ _ _=>⟨_,(qb g26 hr T.mr T.Gi.kp T.Lq (ab (pv 1) (ab (pv 2) (ab (pv 3) (ab (pv 0) fb))))),by walk_at "B"⟩)) rfl)
   (bb (zb (i:=5) Md.nd Ym)
   (bb (zb (i:=6) Md.nd (gf fb))
   (bb (Kd PassesOwn.never rfl (ae rfl T.bf (ab (Gb zh jb (pv 2)) fb)) (ub (i:=7) Md.nd) (bb (Qd (PW.pt (tw (Rb Js (pv 7) (Gb zh jb (pv 2)) (Zb _)) (Qp (Rb Jr (ac yc (pv 3) (Gb Jd (pv 7) (pv 2))) jb (Zb _))))) (gb (Wc (On PySem.F.plainAttrs_list PySem.F.slot_list_append PySem.F.type_list_append Yg (pv 6) (ab (gf (ab (pv 7) (ab (ac yc (pv 3) (Gb Jd (pv 7) (pv 2))) fb))) fb)))) Xb)
   (gb (Qd (PW.pt (tw (bh (ac yc (pv 4) (Gb Jd (pv 7) (pv 2)))) (Qp (Rb Jr (dc ic rfl T.Ik Ac (ab (pv 6) fb)) jb (Zb _))))) (gb (Qd (Rb Qh (ac xf (pv 1) jb) Cc (Zb _)) (bb (Kd PassesOwn.never rfl (Ld (pv 6)) (ub (i:=8) Md.nd) (gb (zn hu (pv 5) (ac yc (pv 8) jb) (Gb qf (pv 7) (ac yc (pv 8) jb)) rfl)))
   (gb (zb (i:=6) Md.nd (gf fb)))) (bb (ko (Gb qf (ac yc (ac yc (pv 6) jb) jb) jb) (Yv (ac yc (pv 6) jb) jb Xm))
   (gb (Qd (Rb Qh (ac yc (ac yc (pv 6) jb) jb) jb (Zb _)) (bb (zn hu (pv 5) (ac yc (ac yc (pv 6) jb) jb) (Gb qf (pv 7) (ac yc (ac yc (pv 6) jb) jb)) rfl)
   (gb (Wc (On PySem.F.plainAttrs_list PySem.F.slot_list_pop PySem.F.type_list_pop LH (pv 6) (ab jb fb))))) Xb))))) Xb))))
   (gb (Cb (pv 5))))))),?_⟩
 refine zS (fun σ' H'=>Yb H H'∧Sc K a ns H'∧∃ op,H' op=some (.lst ((List.range z).map fun i=>V.bl (frL ns d z i)))∧σ'=[some (.ref a),some (.ref wa),some (.int (z:Nat)),some (.ref cm),some (.ref op),none,none,none,none]) (fun D' hD=>?_) fun zzM zzh=>?_
 ·walk_at "RD";refine ⟨by omega,by omega,?_⟩;rw [show (z:Int).toNat=z by omega];refine ud.range_map (fun i=>V.bl (frL ns d z i)) (Nat.le_trans hz.2 (by decide)) (fun i N hi hN=>?_) (fun p hp=>hD _ _ ⟨lb hp,S.new hp,p,db,rfl⟩);walk_at "RD";exact ⟨Sub.name,wa,d,z,(i:Int),rfl,S,ew,W,hz,hN⟩
 rintro σ1 H1 ⟨s1,S1,op,eo,rfl⟩;have ew1:=s1 _ _ ew;have ec1:=s1 _ _ ec;have hop:∀ k:Nat,atI ((List.range z).map fun i=>V.bl (frL ns d z i)) ((k:Int) % (z:Int))=some (.bl (frL ns d z k)):=fun k=>by
  rw [← Int.natCast_emod,← AJ ns d z k];exact Ib (by rw [List.getElem?_map,List.getElem?_range (Nat.mod_lt _ (by omega))];rfl)
 have hcm:∀ k:Nat,atI (cs.map V.int) ((k:Int) % (z:Int))=some (.int (yb cs k)):=fun k=>by
  have:=Mp hpos (k:Int);rw [hcl] at this;rw [this];unfold yb;rw [hcl,show ((k:Int) % (z:Int)).toNat=k % z by rw [← Int.natCast_emod,Int.toNat_natCast]]
 subst zzh;refine zS (fun σ' H'=>Yb H1 H'∧Sc K a ns H'∧∃ wd,H1 wd=none∧H' wd=some (.dK [])∧σ'=[some (.ref a),some (.ref wa),some (.int (z:Nat)),some (.ref cm),some (.ref op),some (.ref wd),none,none,none]) (fun D' hD=>?_) fun zzM zzh=>?_
 ·walk_at "RD";exact fun wd hwd=>hD _ _ ⟨lb hwd,S1.new hwd,wd,hwd,db,rfl⟩
 rintro σ2 H2 ⟨s2,S2,wd,hwd,ed,rfl⟩;subst zzh;refine zS (fun σ' H'=>Yb H1 H'∧Sc K a ns H'∧H' wd=some (.dK [])∧∃ ll,Qu H1 H' ll [] []∧σ'=[some (.ref a),some (.ref wa),some (.int (z:Nat)),some (.ref cm),some (.ref op),some (.ref wd),some (.ref ll),none,none]) (fun D' hD=>?_) fun zzM zzh=>?_
 ·walk_at "RD";exact ⟨Nat.zero_le _,fun ll hll=>hD _ _ ⟨s2.trans (lb hll),S2.new hll,(lb hll) _ _ ed,ll,⟨db,s2.free hll,rfl,fun i q p h=>by simp at h⟩,rfl⟩⟩
 rintro σ3 H3 ⟨s3,S3,ed3,ll0,L3,rfl⟩;subst zzh;walk_at "RD";refine ⟨.inl ⟨by decide,by decide⟩,by omega,by omega,?_⟩;rw [show (9 * (z:Int)).toNat=9 * z by omega];refine zi.range (WtI K a ns H1 d z cs wa cm op wd) ⟨s3,S3,[],[],[],ll0,_,_,ed3,L3,Sy.start z,Nat.le_refl _,rfl⟩ ?_ ?_
 ·rintro T0 σ HA hT zzq;refine zzP fun zzM zzh=>?_
  obtain ⟨sA,SA,W0,L,qs,ll,x7,x8,edA,LA,FA,hL,rfl⟩:=zzq;have c0:=hcn T0;have q0':=Tl (d:=d) (fr:=frL ns d z) hcn (Int.le_refl 0) T0;subst zzh;simp only [Ig,Ab,List.set_cons_succ,List.set_cons_zero,Int.zero_add];refine zzC (fun σ' H'=>Yb H1 H'∧Sc K a ns H'∧∃ L qs,H' wd=some (.dK (kvW W0))∧Qu H1 H' ll qs L∧Mid d (frL ns d z) (yb cs) z T0 L W0∧L.length + W0.length ≤ T0 + 1∧σ'=[some (.ref a),some (.ref wa),some (.int (z:Nat)),some (.ref cm),some (.ref op),some (.ref wd),some (.ref ll),some (.int (T0:Nat)),x8]) (fun D' hD=>?_) fun zzM zzh=>?_
  ·refine Vb (decide (T0 < 4 * z) && decide (0 < yb cs T0)) (fun Q hQ=>?_) (fun hb=>?_) (fun hb=>?_)
   ·walk_at "RD";refine ⟨.inl ⟨by decide,by decide⟩,?_⟩;by_cases h:T0 < 4 * z
    ·rw [if_pos (decide_eq_true (by omega))];rw [decide_eq_true h,Bool.true_and] at hQ;exact ⟨by omega,_,SqL.of (sA _ _ ec1),_,hcm T0,_,rfl,hQ⟩
    ·rw [if_neg (by simpa using (show ¬ (T0:Int) < 4 * (z:Int) by omega))];rw [decide_eq_false h,Bool.false_and] at hQ;exact hQ
   ·rw [Bool.and_eq_true] at hb;have h4:=of_decide_eq_true hb.1;have hc:=of_decide_eq_true hb.2;walk_at "RD";refine ⟨.inl ⟨_,SqL.of LA.e⟩,by omega,_,SqL.of (sA _ _ ec1),_,hcm T0,by decide,fun p hp=>?_⟩;have hlp:ll ≠ p:=xb LA.e hp;have hla:upd HA p (.lst [.int (T0:Nat),.int (yb cs T0)]) ll=some (.lst (qs.map V.ref)):=by rw [pb hlp];exact LA.e
    have hln:=LA.ln;refine ⟨_,hla,Nat.lt_of_le_of_lt (show (qs.map V.ref).length ≤ 600 by rw [List.length_map];omega) (by decide),hD _ _ ⟨(sA.trans (lb hp)).updN LA.nb,(SA.new hp).set hla (fun _ _ z=>by cases z),L ++ [(T0,yb cs T0)],qs ++ [p],?_,LA.push (x:=(T0,yb cs T0)) hp (sA.free hp),FA.come h4 hc,by rw [List.length_append];show L.length + 1 + W0.length ≤ T0 + 1;omega,rfl⟩⟩;rw [pb (Ge edA LA.e (by intro z;cases z)),pb (xb edA hp)];exact edA
   ·have hn:¬ (T0 < 4 * z∧0 < yb cs T0):=fun ⟨h1,h2⟩=>by
     rw [decide_eq_true h1,decide_eq_true h2] at hb;exact absurd hb (by decide)
    walk_at "RD";exact hD _ _ ⟨sA,SA,L,qs,edA,LA,FA.calm c0 hn,by omega,rfl⟩
  rintro σB HB ⟨sB,SB,LB,qB,edB,LtB,MB,hLB,rfl⟩;subst zzh;dsimp only;refine Vb (frL ns d z T0 && decide (0 < LB.length)) (fun Q hQ=>?_) (fun hb=>?_) (fun hb=>?_)
  ·walk_at "RD";refine ⟨by omega,_,SqL.of (sB _ _ eo),_,hop T0,_,rfl,?_⟩;by_cases h:frL ns d z T0=true
   ·rw [if_pos h];rw [h,Bool.true_and] at hQ;refine ⟨_,.inl (SqL.of LtB.e),?_⟩;rw [List.length_map,LtB.ln,show decide ((0:Int) < (LB.length:Int))=decide (0 < LB.length) from decide_eq_decide.mpr (by omega)];exact hQ
   ·rw [if_neg h];rw [Bool.eq_false_iff.mpr h,Bool.false_and] at hQ;exact hQ
  ·rw [Bool.and_eq_true] at hb;have hf:=hb.1;have hpl:=of_decide_eq_true hb.2;refine Vb (decide (d.k=1)) (fun Q hQ=>?_) (fun hb=>?_) (fun hb=>?_)
   ·walk_at "RD";refine ⟨_,SqT.of (sB _ _ ew1),_,td0 d,rfl,?_⟩;rw [show decide (V.str (Hd d.k)=V.str (Str.ofString "foot"))=decide (d.k=1) from decide_eq_decide.mpr ⟨fun e=>(jp hk3).mp (by injection e),fun e=>by rw [(jp hk3).mpr e]⟩];exact hQ
   ·have hd:=of_decide_eq_true hb;simp only [Ab];refine zzC (fun σ' H'=>Yb H1 H'∧Sc K a ns H'∧∃ x8,H' wd=some (.dK (kvW (W0 ++ LB.map fun p=>(p.1,T0 - p.1))))∧σ'=[some (.ref a),some (.ref wa),some (.int (z:Nat)),some (.ref cm),some (.ref op),some (.ref wd),some (.ref ll),some (.int (T0:Nat)),x8]) (fun D' hD=>?_) fun zzM zzh=>?_
    ·walk_at "RD";refine ⟨⟨_,SqL.of LtB.e⟩,?_⟩;refine zi.list (xs:=qB.map V.ref) (fun i σ H'=>Yb H1 H'∧Sc K a ns H'∧Qu H1 H' ll qB LB∧H' wd=some (.dK (kvW (W0 ++ (LB.take i).map fun p=>(p.1,T0 - p.1))))∧∃ x8,σ=[some (.ref a),some (.ref wa),some (.int (z:Nat)),some (.ref cm),some (.ref op),some (.ref wd),some (.ref ll),some (.int (T0:Nat)),x8]) ⟨sB,SB,LtB,by rw [List.take_zero,List.map_nil,List.append_nil];exact edB,_,rfl⟩ ?_ ?_ ?_
     ·rintro i σ H' hi zzq;refine zzP fun zzM zzh=>?_
      obtain ⟨_,_,LC,_⟩:=zzq;subst zzh;exact SqL.of LC.e
     ·rintro i v σ HC hv zzq;refine zzP fun zzM zzh=>?_
      obtain ⟨sC,SC,LC,edC,x8,rfl⟩:=zzq;obtain ⟨qi,hqi,rfl⟩:=kc hv;have hil:i < LB.length:=by rw [← LtB.ln];exact (List.getElem?_eq_some_iff.mp hqi).1
      have hpi:LB[i]? = some LB[i]:=List.getElem?_eq_getElem hil;subst zzh;generalize LB[i]=p at hpi;have ei:=(LC.at_ i qi p hqi hpi).1;have hpT:=(MB.lt p (List.mem_of_getElem? hpi)).1;have hkey:p.1 ∉ (W0 ++ (LB.take i).map fun p=>(p.1,T0 - p.1)).map (·.1):=fun h=>by
       rw [List.map_append,List.map_map] at h;rcases List.mem_append.mp h with h | h
       ·obtain ⟨q',hq',e⟩:=List.mem_map.mp h;exact MB.nb p (List.mem_of_getElem? hpi) q' hq' e.symm
       ·obtain ⟨q',hq',e⟩:=List.mem_map.mp h;obtain ⟨j,hj⟩:=List.getElem?_of_mem hq';rw [List.getElem?_take] at hj;by_cases c:j < i
        ·rw [if_pos c] at hj;have e:q'.1=p.1:=e;have:=(List.getElem?_inj (by rw [List.length_map];exact (List.getElem?_eq_some_iff.mp hj).1) MB.nl).mp (show (LB.map (·.1))[j]? = (LB.map (·.1))[i]? by rw [List.getElem?_map,List.getElem?_map,hj,hpi];exact congrArg some e);omega
        ·rw [if_neg c] at hj;cases hj
      have hv2:((T0:Int) - (p.1:Int))=((T0 - p.1:Nat):Int):=by omega
      have hln:(kvW (W0 ++ (LB.take i).map fun p=>(p.1,T0 - p.1))).length ≤ 600:=by
       unfold kvW;rw [List.length_map,List.length_append,List.length_map,List.length_take];omega
      walk_at "RD";refine ⟨_,SqL.of ei,_,Ib (j:=0) rfl,_,rfl,_,SqL.of ei,_,Ib (j:=0) rfl,_,KB.k (k:=Sum.inl ((p.1:Nat):Int)) edC (Nat.lt_of_le_of_lt hln (by decide)),sC.updN hwd,SC.set edC (fun _ _ z=>by cases z),LC.dct edC,?_,_,rfl⟩;rw [db,hv2,pE hkey,qm _ hpi,List.append_assoc]
     ·rintro σ H' zzq;refine zzP fun zzM zzh=>?_
      obtain ⟨sC,SC,LC,edC,x8,rfl⟩:=zzq;subst zzh;rw [List.length_map,LtB.ln,List.take_length] at edC;exact hD _ _ ⟨sC,SC,x8,edC,rfl⟩
    rintro σC HC ⟨sC,SC,x8',edC,rfl⟩;subst zzh;walk_at "RD";refine ⟨Nat.zero_le _,fun l2 hl2=>⟨sC.trans (lb hl2),SC.new hl2,_,[],[],l2,_,_,(lb hl2) _ _ edC,⟨db,sC.free hl2,rfl,fun i q p h=>by simp at h⟩,MB.foot hd hf c0 q0',?_,rfl⟩⟩;rw [List.length_append,List.length_map];show 0 + (W0.length + LB.length) ≤ T0 + 1;omega
   ·have hd:=of_decide_eq_false hb;obtain ⟨p,L',rfl⟩:∃ p L',LB=p :: L':=List.exists_cons_of_ne_nil (fun h=>by rw [h] at hpl;simp at hpl);obtain ⟨q0,qs',rfl⟩:∃ q0 qs',qB=q0 :: qs':=List.exists_cons_of_ne_nil (fun h=>by have:=LtB.ln;rw [h] at this;simp at this);have e0:=(LtB.at_ 0 q0 p rfl rfl);have hpT:=(MB.lt p (List.mem_cons_self ..)).1;have M1:=MB.one hd hf c0 q0';simp only [Ab];refine zzC (fun σ' H'=>Yb H1 H'∧Sc K a ns H'∧H' wd=some (.dK (kvW W0))∧Qu H1 H' ll (q0 :: qs') ((p.1,p.2 - 1) :: L')∧σ'=[some (.ref a),some (.ref wa),some (.int (z:Nat)),some (.ref cm),some (.ref op),some (.ref wd),some (.ref ll),some (.int (T0:Nat)),x8]) (fun D' hD=>?_) fun zzM zzh=>?_
    ·walk_at "RD";refine ⟨_,SqL.of LtB.e,_,Ib (j:=0) rfl,_,rfl,_,SqL.of e0.1,_,Ib (j:=1) rfl,_,rfl,_,SqL.of LtB.e,_,Ib (j:=0) rfl,_,rfl,_,e0.1,1,rfl,hD _ _ ⟨sB.updN e0.2,SB.set e0.1 (fun _ _ z=>by cases z),by rw [pb (Ge edB e0.1 (by intro z;cases z))];exact edB,LtB.head MB.nl,rfl⟩⟩
    rintro σC HC ⟨sC,SC,edC,LC,rfl⟩;have eC:=(LC.at_ 0 q0 _ rfl rfl).1;subst zzh;dsimp only;refine Vb (decide (p.2=1)) (fun Q hQ=>?_) (fun hb=>?_) (fun hb=>?_)
    ·walk_at "RD";refine ⟨_,SqL.of LC.e,_,Ib (j:=0) rfl,_,rfl,_,SqL.of eC,_,Ib (j:=1) rfl,rfl,?_⟩;rw [show decide (V.int (p.2 - 1)=V.int 0)=decide (p.2=1) from decide_eq_decide.mpr ⟨fun e=>by injection e with e;omega,fun e=>by rw [e];rfl⟩];exact hQ
    ·have h1:=of_decide_eq_true hb;have hkey:p.1 ∉ W0.map (·.1):=fun h=>by
      obtain ⟨q',hq',e⟩:=List.mem_map.mp h;exact MB.nb p (List.mem_cons_self ..) q' hq' e.symm
     have hv2:((T0:Int) - (p.1:Int))=((T0 - p.1:Nat):Int):=by omega
     have hln:(kvW W0).length ≤ 600:=by
      unfold kvW;rw [List.length_map];omega
     have LD:=LC.dct (o:=.dK (Eo (kvW W0) (Sum.inl ((p.1:Nat):Int)) (.int ((T0:Int) - (p.1:Int))))) edC;walk_at "RD";refine ⟨_,SqL.of LC.e,_,Ib (j:=0) rfl,_,rfl,_,SqL.of eC,_,Ib (j:=0) rfl,_,rfl,_,SqL.of LC.e,_,Ib (j:=0) rfl,_,rfl,_,SqL.of eC,_,Ib (j:=0) rfl,_,KB.k (k:=Sum.inl ((p.1:Nat):Int)) edC (Nat.lt_of_le_of_lt hln (by decide)),.inl ⟨_,SqL.of LD.e⟩,_,LD.e,by decide,by decide,0,seqIndex_of (by decide) (by rw [List.length_map,List.length_cons];omega),_,rfl,?_⟩;refine ⟨(sC.updN hwd).updN LC.nb,(SC.set edC (fun _ _ z=>by cases z)).set LD.e (fun _ _ z=>by cases z),W0 ++ [(p.1,T0 - p.1)],L',qs',ll,_,_,?_,LD.pop,M1.1 h1,?_,rfl⟩
     ·rw [pb (Ge edC LC.e (by intro z;cases z)),db,hv2,pE hkey]
     ·rw [List.length_append];have:(p :: L').length + W0.length ≤ T0 + 1:=hLB;rw [List.length_cons] at this;show L'.length + (W0.length + 1) ≤ T0 + 1;omega
    ·have h1:=of_decide_eq_false hb;walk_at "RD";exact ⟨sC,SC,W0,_,_,ll,_,_,edC,LC,M1.2 h1,hLB,rfl⟩
  ·have hn:¬ frL ns d z T0=true∨LB=[]:=by
    by_cases h1:frL ns d z T0=true
    ·right;rw [h1,Bool.true_and] at hb;have:=of_decide_eq_false hb;exact List.length_eq_zero_iff.mp (by omega)
    ·exact .inl h1
   walk_at "RD";exact ⟨sB,SB,W0,LB,qB,ll,_,_,edB,LtB,MB.idle hn c0,hLB,rfl⟩
 ·rintro σ H' zzq;refine zzP fun zzM zzh=>?_
  obtain ⟨sA,SA,W0,L,qs,ll,x7,x8,edA,LA,FA,hL,rfl⟩:=zzq;subst zzh;walk_at "RD";exact q wd H' L W0 (s1.trans sA) SA edA FA
end
end My
namespace My
open PySem L2
section
open PySem.Spec PyProof.Rows
theorem oA {X:Cx} (hc:X.calm=true):Kl X (.builtin "sum") (fun xs H Q=>∃ l ks,xs=[.ref l]∧SqL X.K H l (List.map V.int ks)∧(∀ k ∈ ks,0 ≤ k∧k ≤ 1000000000)∧ks.length ≤ 1000∧Q (.int ks.sum) H):=by
 intro pins s σ H xs us Q I r h;obtain ⟨l,ks,rfl,hq,hk,hl,q⟩:=h;obtain ⟨u,rfl,ru⟩:=Oo r;cases ru;obtain ⟨its,rv,pl,hz⟩:=I.list hq;obtain ⟨xs,e1,e2⟩:=eu rv;have hil:its.toArray=intItems xs.toArray:=by rw [e1];unfold intItems;simp
 have hls:s.heap.IsList l (intItems xs.toArray):=by rw [← hil];exact pl.isList
 have hxl:xs.length=ks.length:=by rw [← e2,List.length_map]
 have hn:∀ i,i < ks.length→ks[i]? = some (numAt xs.toArray i):=fun i hi=>by
  rw [numAt_eq,List.getD_eq_getElem?_getD];show ks[i]? = some (((xs.map (·.1))[i]?).getD 0);rw [e2,List.getElem?_eq_getElem hi];rfl
 have hps:∀ n,n ≤ ks.length→preSum (numAt xs.toArray) n=(ks.take n).sum∧0 ≤ (ks.take n).sum∧(ks.take n).sum ≤ 1000000000 * (n:Int):=fun n=>by
  induction n with
  | zero=>intro _;exact ⟨by simp [preSum],by simp,by simp⟩
  | succ n ih=>
   intro hn';obtain ⟨i1,i2,i3⟩:=ih (by omega);have e:=hn n (by omega);have hv:=hk _ (List.mem_of_getElem? e);have es:(ks.take (n + 1)).sum=(ks.take n).sum + numAt xs.toArray n:=by
    rw [List.take_add_one,e,List.sum_append];simp
   refine ⟨?_,by omega,by omega⟩;show preSum (numAt xs.toArray) n + numAt xs.toArray n=_;rw [i1,es]
 have hsz:xs.toArray.size=ks.length:=by rw [List.size_toArray,hxl]
 refine sum_intList (I.ok.hd hc) hls (fun j hj=>?_) fun h' tk t' k=>⟨.int ks.sum,H,I.kept k,⟨t',?_⟩,q⟩
 ·rw [hsz] at hj;have e:=hn j hj;have hv:=hk _ (List.mem_of_getElem? e);obtain ⟨p1,p2,p3⟩:=hps (j + 1) (by omega);unfold InLong;rw [p1];omega
 ·rw [hsz,(hps _ (Nat.le_refl _)).1,List.take_length]
end
noncomputable def kI (K:PySem.W.Frag) (Pt:Addr):Sp:=fun vs H Q _=>∃ a ns,vs=[.ref a]∧Sc K a ns H∧ns.length ≤ 63∧kq Pt H∧∀ H',Q (.bl true) H'
theorem KK {ns:List Int}:∃ z:Nat,(5 ≤ z∧z ≤ 60)∧atI [V.int (5 + uf ns 7 13),.int (5 + uf ns 7 4),.int 24,.int 30] (uf ns 8 4)=some (.int (z:Nat)):=by
 have a1:=Df ns 7 (m:=13) (by decide);have a2:=qg ns 7 (m:=13) (by decide);have b1:=Df ns 7 (m:=4) (by decide);have b2:=qg ns 7 (m:=4) (by decide);have d1:=Df ns 8 (m:=4) (by decide);have d2:=qg ns 8 (m:=4) (by decide);have:uf ns 8 4=((0:Nat):Int)∨uf ns 8 4=((1:Nat):Int)∨uf ns 8 4=((2:Nat):Int)∨uf ns 8 4=((3:Nat):Int):=by omega
 rcases this with e | e | e | e <;> rw [e]
 ·exact ⟨(5 + uf ns 7 13).toNat,by omega,by rw [Int.toNat_of_nonneg (by omega)];exact Ib rfl⟩
 ·exact ⟨(5 + uf ns 7 4).toNat,by omega,by rw [Int.toNat_of_nonneg (by omega)];exact Ib rfl⟩
 ·exact ⟨24,by decide,Ib rfl⟩
 ·exact ⟨30,by decide,Ib rfl⟩
theorem QD (fr:Nat→Bool):∀ n,(((((List.range n).map fun k=>if fr k=true then some (V.int (k:Int)) else none).flatMap Option.toList).length:Nat):Int)=gnQ fr n
 | 0=>rfl
 | n + 1=>by
  rw [List.range_succ,List.map_append,List.flatMap_append,List.length_append,Int.natCast_add,QD fr n];show _=if fr n=true then gnQ fr n + 1 else gnQ fr n;by_cases h:fr n=true
  ·rw [if_pos h,List.map_cons,if_pos h];rfl
  ·rw [if_neg h,List.map_cons,if_neg h];exact Int.add_zero _
theorem wN:∀ n:Nat,(List.replicate n [V.int 0]).flatten=(List.replicate n (0:Int)).map V.int
 | 0=>rfl
 | n + 1=>by rw [List.replicate_succ,List.flatten_cons,wN n,List.replicate_succ];rfl
theorem rP {K:PySem.W.Frag} {H:Hp} {p q:Addr} {l:List Int} (k:Nat) (h:H p=some (.lst (l.map V.int))) (h':H q=some (.lst (l.map V.int))):EqH K H (k + 1) (.ref p) (.ref q) true:=by
 have:=EqH.flats (k:=k) (SqL.of (K:=K) h) (SqL.of h') (fun x hx y hy=>by
  obtain ⟨i,_,rfl⟩:=List.mem_map.mp hx;obtain ⟨j,_,rfl⟩:=List.mem_map.mp hy
  rfl)
 rwa [decide_eq_true rfl] at this
theorem gG {c:Nat→Int}:∀ n,(∀ k,k < n→c k=0)→smQ c n=0
 | 0,_=>rfl
 | n + 1,h=>by
  show smQ c n + c n=0;rw [gG n (fun k hk=>h k (by omega)),h n (by omega)];rfl
theorem bN {c:Nat→Int} (h0:∀ k,0 ≤ c k) {k n:Nat} (hk:k < n) (h:0 < c k):0 < smQ c n:=by
 have a:=iE h0 (a:=k + 1) (n - (k + 1));rw [show k + 1 + (n - (k + 1))=n by omega] at a;have b:=iE h0 (a:=0) k;rw [Nat.zero_add] at b;have b:0 ≤ smQ c k:=b;have e:smQ c (k + 1)=smQ c k + c k:=rfl;omega
theorem XM {W:List (Nat × Nat)} {w:Nat} {t:Nat} (h:(t,w) ∈ W) (mx:∀ q ∈ W,q.2 ≤ w):((w:Int) ∈ W.map fun q=>((q.2:Nat):Int))∧∀ k ∈ W.map fun q=>((q.2:Nat):Int),k ≤ (w:Int):=by
 refine ⟨List.mem_map.mpr ⟨_,h,rfl⟩,fun k hk=>?_⟩;obtain ⟨q,hq,rfl⟩:=List.mem_map.mp hk;have:=mx q hq;omega
section
variable {P:Program} {w:World} {K:PySem.W.Frag} {mg:Str→Option Value} {base:Heap} {t:Adr}
theorem xL (T:Txt w K mg t) {cd Pt:Addr} (hc:t.Zc.code=.ref cd) (hC:PySem.W.CodeHd base cd Pt) (hB:base.BuiltinsAt mg Pt):Eb P w K mg base CX0 10 t.QK t.sH q21 (kI K Pt):=by
 refine T.eO.ok Bj (fun vs H Q E h=>?_) (fun _ _ _ s H vs Q E hr h=>?_)
 ·obtain ⟨a,ns,rfl,_⟩:=h;rfl
 obtain ⟨a,ns,rfl,S,h63,tb,q⟩:=h;have hu:=Rw hr;have hU:=hr.units;have g8:Eb P w K mg base CX0 9 t.Ae t.ye q17 (ie K a ns):=(br T a ns h63).mono (by decide);have g62:Eb P w K mg base CX0 9 t.nk t.xk q21 (xE K a ns):=(WK T a ns h63).mono (by decide);have g63:Eb P w K mg base CX0 9 t.Mi t.Di q14 (RA t K a ns):=GH T a ns h63;have g64:Eb P w K mg base CX0 9 t.Pf t.Lf q44 (bD K a ns):=(BJ T a ns h63).mono (by decide);have g26:Eb P w K mg base CX0 9 t.Ng t.jh q29 (zu K a ns):=(UA T a ns h63).mono (by decide);have g65:Eb P w K mg base CX0 9 t.Bh t.Gh q45 (RF K a ns):=(aK T a ns h63).mono (by decide);have g66:Eb P w K mg base CX0 9 t.Km t.Tm q12 (cD t Pt):=(vJ T hc hC hB).mono (by decide);refine ⟨_,(bb (xA (i:=1) Bj.nd rfl (Or.inr rfl) (ac yc (gf (ab (Gb Cd jb (qb g8 hr T.jc T.Tb.kp T.gc (ab (pv 0) (ab jb (ab jb fb))))) (ab (Gb Cd jb (qb g8 hr T.jc T.Tb.kp T.gc (ab (pv 0) (ab jb (ab jb fb))))) (ab jb (ab jb fb))))) (qb g8 hr T.jc T.Tb.kp T.gc (ab (pv 0) (ab jb (ab jb fb))))))
   (bb (xA (i:=2) Bj.nd rfl (Or.inr rfl) (qb g62 hr T.NB T.Pn.kp T.wB (ab (pv 0) fb)))
   (bb (zb (i:=3) Bj.nd (qb g63 hr T.iy T.Yl.kp T.Py (ab (pv 0) (ab (pv 2) (ab (pv 1) fb)))))
   (bb (zb (i:=4) Bj.nd (qb g64 hr T.Ws T.Sh.kp T.Lr (ab (pv 0) (ab (pv 1) fb))))
   (bb (Qd (Rb Qh (qb g8 hr T.jc T.Tb.kp T.gc (ab (pv 0) (ab jb (ab jb fb)))) jb (Zb _)) (gb (zb (i:=4) Bj.nd (Gb kM (gf (ab jb fb)) (pv 1)))) Xb)
   (bb (zb (i:=5) Bj.nd (dc ic rfl T.Ik Ac (ab (Fi rfl (ae rfl T.bf (ab (pv 1) fb)) (Yc (sc:=ib NJ) rfl (by decide +kernel)) (N:=q50) (sel:=[none,some 0,some 2,some 1]) (Nd (M:=["_law_script","_law_size","_law_way_here","_law_plan_here","_law_comings_here","_law_gone","_law_handed","_law_found","_law_number","_law_waits_here"]) (by decide +kernel)) (Blk.of (fun _ _ _ _=>(ub (i:=0) (kh (N:=q50) (by decide +kernel) rfl))) (fun _ _ _ _=>⟨_,(Fy (bh (qb g26 hr T.mr T.Gi.kp T.Lq (ab (pv 1) (ab (pv 2) (ab (pv 3) (ab (pv 0) fb))))))),by walk_at "B"⟩) (fun _ _ _ _=>⟨_,(pv 0),by walk_at "B"⟩))) fb)))
   (bb (zb (i:=6) Bj.nd (gh Ao rfl T.iu Ai (ab (pv 4) fb)))
   (bb (zb (i:=7) Bj.nd (qb g66 hr T.nD T.wq.kp T.VF (ab (pv 3) (ab (ac xf (pv 2) jb) (ab (pv 6) fb)))))
   (bb (Qd (Rb (HM hU) (pv 6) (pv 4) (Zb _)) (gb (Cb Do)) Xb)
   (bb (Qd (PW.pt (mw (Rb Qh (dc (oA rfl) rfl T.RL ut (ab (pv 4) fb)) jb (Zb _)) (io (PW.pt (tw (Rb zB (ac xf (pv 2) jb) Cc (Zb _)) (Qp (Rb Jr (dc (oA rfl) rfl T.RL ut (ab (pv 4) fb)) (pv 5) (Zb _)))))))) (gb (Cb (Se iN (pv 7) qt (Zb _)))) Xb)
   (bb (Qd (PW.pt (mw (Wn (bh (dc Mu rfl T.Vj Ff (ab (pv 7) (ab (Wx (v:=.ty "tuple") rfl T.pJ lw rfl) fb))))) (io (Rb zB (dc ic rfl T.Ik Ac (ab (pv 7) fb)) jb (Zb _))))) (gb (Cb Do)) Xb)
   (bb (Kd PassesOwn.never rfl (dI (pv 7)) (ub (i:=8) Bj.nd) (gb (Qd (PW.pt (mw (Wn (bh (dc Mu rfl T.Vj Ff (ab (pv 8) (ab (Wx (v:=.ty "int") rfl T.nN Ct rfl) fb))))) (io (bh (dc Mu rfl T.Vj Ff (ab (pv 8) (ab (Wx (v:=.ty "bool") rfl T.AL jy rfl) fb))))))) (gb (Cb Do)) Xb)))
   (bb (Qd (PW.pt (mw (Wn (CG WM Js (pv 1) (ac xf (pv 7) jb) (Gb zh jb (pv 1)))) (io (Rb Qh (ac yc (pv 4) (Gb Jd (ac xf (pv 7) jb) (pv 1))) jb (Zb _))))) (gb (Cb Do)) Xb)
   (bb (zb (i:=9) Bj.nd (qb g65 hr T.vx T.Wj.kp T.Vw (ab (pv 0) (ab (pv 2) (ab (pv 1) (ab (pv 4) fb))))))
   (gb (Cb (rE (Se Qh (wn hu (pv 9) (ac xf (pv 7) jb) (fun _ _=>rfl)) (ac xf (pv 7) jb) (Zb _)) (xw (Se Qh (dc (WE rfl) rfl T.DH Nn (ab (gh (gB rfl) rfl T.iu Ai (ab (IM PySem.F.plainAttrs_dict PySem.F.slot_dict_values PySem.F.type_dict_values bL (pv 9)) fb)) fb)) (ac xf (pv 7) jb) (Zb _)))))))))))))))))))),?_⟩
 obtain ⟨z,hz,hat⟩:=KK (ns:=ns);refine zS (fun σ' H'=>Yb H H'∧Sc K a ns H'∧σ'=[some (.ref a),some (.int (z:Nat)),none,none,none,none,none,none,none,none]) (fun D' hD=>?_) fun zzM zzh=>?_
 ·(walk_at "RD"; repeat (dsimp only [ie];walk_at "RD"));refine ⟨S,by omega,by omega,by decide,S,by omega,by omega,by decide,by decide,fun p hp=>⟨S.new hp,by omega,by omega,by decide,_,SqL.of db,_,hat,?_⟩⟩;exact hD _ _ ⟨lb hp,S.new hp,rfl⟩
 rintro σ1 H1 ⟨s1,S1,rfl⟩;subst zzh;refine zS (fun σ' H'=>Yb H1 H'∧Sc K a ns H'∧∃ wa d,W46 d∧H' wa=some (.tup (Bt d))∧σ'=[some (.ref a),some (.int (z:Nat)),some (.ref wa),none,none,none,none,none,none,none]) (fun D' hD=>?_) fun zzM zzh=>?_
 ·walk_at "RD";exact ⟨rfl,S1,fun p d H' s2 S2 W e=>hD _ _ ⟨s2,S2,p,d,W,e,rfl⟩⟩
 rintro σ2 H2 ⟨s2,S2,wa,d,W,ew,rfl⟩;subst zzh;refine zS (fun σ' H'=>Yb H2 H'∧Sc K a ns H'∧∃ pl c ds j,D46 d ds∧rj t H' pl c 9 ds z (Us (Ve d.name (spF ns d z)) j)∧σ'=[some (.ref a),some (.int (z:Nat)),some (.ref wa),some (.ref pl),none,none,none,none,none,none]) (fun D' hD=>?_) fun zzM zzh=>?_
 ·walk_at "RD";exact ⟨wa,d,z,rfl,S2,ew,W,hz,fun pl c ds j H' s3 S3 D PA=>hD _ _ ⟨s3,S3,pl,c,ds,j,D,PA,rfl⟩⟩
 rintro σ3 H3 ⟨s3,S3,pl,c,ds,j,D,PA,rfl⟩;subst zzh;refine zS (fun σ' H'=>Yb H3 H'∧Sc K a ns H'∧∃ cm cs,H' cm=some (.lst (List.map V.int cs))∧cs.length=z∧(∀ x ∈ cs,0 ≤ x∧x ≤ 1000000000)∧σ'=[some (.ref a),some (.int (z:Nat)),some (.ref wa),some (.ref pl),some (.ref cm),none,none,none,none,none]) (fun D' hD=>?_) fun zzM zzh=>?_
 ·walk_at "RD";exact ⟨z,rfl,S3,hz,fun p cs H' s4 S4 _ e hl hb=>hD _ _ ⟨s4,S4,p,cs,e,hl,hb,rfl⟩⟩
 rintro σ4 H4 ⟨s4,S4,cm4,cs4,ecm4,hcl4,hcb4,rfl⟩;subst zzh;refine zS (fun σ' H'=>Yb H4 H'∧Sc K a ns H'∧∃ cm cs,H' cm=some (.lst (List.map V.int cs))∧cs.length=z∧(∀ x ∈ cs,0 ≤ x∧x ≤ 1000000000)∧σ'=[some (.ref a),some (.int (z:Nat)),some (.ref wa),some (.ref pl),some (.ref cm),none,none,none,none,none]) (fun D' hD=>?_) fun zzM zzh=>?_
 ·refine Vb (decide (uf ns 9 12=0)) (fun Q hQ=>?_) (fun hb=>?_) (fun hb=>?_)
  ·(walk_at "RD"; repeat (dsimp only [ie];walk_at "RD"));exact ⟨S4,by decide,by decide,by decide,hQ⟩
  ·walk_at "RD";refine ⟨by decide,fun p hp=>⟨_,db,by omega,by omega,?_,fun p1 hp1=>hD _ _ ⟨(lb hp).trans (lb hp1),(S4.new hp).new hp1,p1,List.replicate z 0,?_,List.length_replicate ..,fun x hx=>by rw [List.eq_of_mem_replicate hx];decide,rfl⟩⟩⟩
   ·rw [show (z:Int).toNat=z by omega];show 1 * z ≤ sizeLine;exact Nat.le_trans (show 1 * z ≤ 60 by omega) (by decide)
   ·rw [db,show (z:Int).toNat=z by omega,wN]
  ·walk_at "RD";exact hD _ _ ⟨Yb.refl _,S4,cm4,cs4,ecm4,hcl4,hcb4,rfl⟩
 rintro σ5 H5 ⟨s5,S5,cm,cs,ecm,hcl,hcb,rfl⟩;obtain ⟨di,hdi⟩:=D.at;have tb5:kq Pt H5:=((((tb.step s1).step s2).step s3).step s4).step s5;have ew5:=s5 _ _ (s4 _ _ (s3 _ _ ew));have PA5:=(PA.sameT (qA s4)).sameT (qA s5);subst zzh;clear tb S S1 S2 S3 S4 s1 s2 s3 s4 s5 PA ew;generalize hsp:Us (Ve d.name (spF ns d z)) j=sp at PA5;have hfr:∀ turn,Ag z sp d turn=Hk (spF ns d z) z turn:=fun turn=>by rw [← hsp];exact sN W hz.1 j turn
 have hfq:frQ z sp d=frL ns d z:=funext fun k=>hfr k
 have hcn:∀ k,0 ≤ yb cs k:=fun k=>(Yj hcb k).1
 have hk3:=W.k3;have hfe:∃ k,k < z∧frL ns d z k=true:=by
  obtain ⟨p,hp⟩:=List.exists_mem_of_length_pos (Hu (ns:=ns) W hz.1).1;have:=Ru (ns:=ns) W hz.1 p hp;refine ⟨p.1.toNat,by omega,?_⟩;show Hk _ _ _=true;unfold Hk;refine List.any_eq_true.mpr ⟨p,hp,decide_eq_true ?_⟩;rw [Int.toNat_of_nonneg this.2.2.1,Int.sub_self,Int.zero_emod];omega
 refine zS (fun σ' H'=>Yb H5 H'∧Sc K a ns H'∧σ'=[some (.ref a),some (.int (z:Nat)),some (.ref wa),some (.ref pl),some (.ref cm),some (.int (gnQ (frL ns d z) z)),none,none,none,none]) (fun D' hD=>?_) fun zzM zzh=>?_
 ·walk_at "RD";refine ⟨by omega,by omega,?_⟩;rw [show (z:Int).toNat=z by omega];refine ud.range_sel (ss:=(List.range z).map fun k=>if frL ns d z k=true then some (V.int (k:Int)) else none) (Nat.le_trans hz.2 (by decide)) (by rw [List.length_map,List.length_range]) (fun i o ys N hi ho hN=>?_) (fun p hp=>?_)
  ·rw [List.getElem?_map,List.getElem?_range hi] at ho;have ho:=(Option.some.inj ho).symm;subst ho;walk_at "RD";refine ⟨Sub.name,wa,d,z,(i:Int),rfl,S5,ew5,W,hz,_,rfl,?_⟩;dsimp only at hN;by_cases h:Hk (spF ns d z) z (i:Int)=true
   ·rw [if_pos h] at hN;rw [if_pos h];exact hN
   ·rw [if_neg h] at hN;rw [if_neg h];rw [show ys ++ (none:Option V).toList=ys from List.append_nil _] at hN;exact hN
  ·refine ⟨p,rfl,_,.inl (SqL.of db),?_⟩;rw [QD];exact hD _ _ ⟨lb hp,S5.new hp,rfl⟩
 rintro σ6 H6 ⟨s6,S6,rfl⟩;subst zzh;refine zS (fun σ' H'=>Yb H6 H'∧Sc K a ns H'∧∃ hd,H' hd=some (.lst (List.map V.int cs))∧σ'=[some (.ref a),some (.int (z:Nat)),some (.ref wa),some (.ref pl),some (.ref cm),some (.int (gnQ (frL ns d z) z)),some (.ref hd),none,none,none]) (fun D' hD=>?_) fun zzM zzh=>?_
 ·walk_at "RD";exact ⟨_,.inl (SqL.of (s6 _ _ ecm)),fun l hl=>hD _ _ ⟨lb hl,S6.new hl,l,db,rfl⟩⟩
 rintro σ7 H7 ⟨s7,S7,hd,eh,rfl⟩;have s57:=s6.trans s7;have I7:QIn t Pt H7 pl c 9 ds z sp di d hd cs:=⟨PA5.sameT (qA s57),by omega,hdi,eh,hcl,hcb,tb5.step s57⟩;have ew7:=s57 _ _ ew5;have ec7:=s57 _ _ ecm;have hgi:=VE (d:=d) (fr:=frL ns d z) hcn hfe;have hg0:=(om (d:=d) (fr:=frL ns d z) hcn z).2.1;have hsm:smQ (yb cs) z=cs.sum:=by rw [← hcl];exact SJ cs
 obtain ⟨bad,hbad⟩:∃ bad:Bool,bad=(decide (cs.sum=0) || (!decide (d.k=1) && decide (gnQ (frL ns d z) z < cs.sum))):=⟨_,rfl⟩;subst zzh;refine zS (fun σ' H'=>Sc K a ns H'∧H' wa=some (.tup (Bt d))∧H' cm=some (.lst (List.map V.int cs))∧H' hd=some (.lst (List.map V.int cs))∧∃ x7,(bad=true→x7=.non)∧(bad=false→qe d (frL ns d z) (yb cs) z=0∧∃ p u T,x7=.ref p∧H' p=some (.tup [.int (u:Nat),.int (T:Nat)])∧mL d (frL ns d z) (yb cs) z u T)∧σ'=[some (.ref a),some (.int (z:Nat)),some (.ref wa),some (.ref pl),some (.ref cm),some (.int (gnQ (frL ns d z) z)),some (.ref hd),some x7,none,none]) (fun D' hD=>?_) fun zzM zzh=>?_
 ·walk_at "RD";have hz0:0 < z:=by omega
  have hper:∀ k,yb cs (k + z)=yb cs k:=fun k=>by rw [← hcl];exact YD cs k
  refine ⟨_,SqT.of ew7,_,td1 d,pl,c,9,ds,z,sp,di,d,hd,cs,rfl,I7,by rw [hfq];exact hfe,fun hcase H' sP nP tP=>?_,fun hg p u T0 H' sP nP tP ep SL=>?_⟩
  ·have sT:=Tv I7.tb sP;refine hD _ _ ⟨ZA S7 sT (nP S7.nt),sT.tup ew7,sT.lst ec7,sT.lst eh,.non,fun _=>rfl,fun hb=>?_,rfl⟩;exfalso;rw [hb] at hbad;have hb2:=Bool.or_eq_false_iff.mp hbad.symm;have hs:=of_decide_eq_false hb2.1;rw [hfq] at hcase;rcases hcase with hcase | hcase
   ·rw [hgi,hsm] at hcase;by_cases hd1:d.k=1
    ·rw [if_pos hd1] at hcase;omega
    ·rw [if_neg hd1] at hcase;have h3:=hb2.2;rw [decide_eq_false hd1,Bool.not_false,Bool.true_and] at h3;have h3:=of_decide_eq_false h3;split at hcase <;> omega
   ·refine hs ?_;rw [← hsm];exact gG z fun k hk=>by
     have:=hcase (k + z) (by omega) (by omega);rwa [hper] at this
  ·have sT:=Tv I7.tb sP;rw [hfq] at hg SL;refine hD _ _ ⟨ZA S7 sT (nP S7.nt),sT.tup ew7,sT.lst ec7,sT.lst eh,.ref p,fun hb=>?_,fun _=>⟨hg,p,u,T0,rfl,ep,SL⟩,rfl⟩;exfalso;rw [hb] at hbad;rcases Bool.or_eq_true_iff.mp hbad.symm with h3 | h3
   ·have h3:=of_decide_eq_true h3;have r:=SL.rg;have:=bN hcn (k:=T0 - z) (n:=z) (by omega) (by
     have:=hper (T0 - z);rw [show T0 - z + z=T0 by omega] at this;rw [← this];exact SL.cp)
    omega
   ·rw [Bool.and_eq_true] at h3;have h4:=of_decide_eq_true h3.2;have hd1:d.k ≠ 1:=by simpa using h3.1
    rw [hgi,if_neg hd1,hsm,if_pos (by omega)] at hg;omega
 rintro σ8 H8 ⟨S8,ew8,ec8,eh8,x7,hx1,hx0,rfl⟩;subst zzh;refine zS (fun σ' H'=>H'=H8∧σ'=[some (.ref a),some (.int (z:Nat)),some (.ref wa),some (.ref pl),some (.ref cm),some (.int (gnQ (frL ns d z) z)),some (.ref hd),some x7,none,none]) (fun D' hD=>?_) fun zzM zzh=>?_
 ·refine Vb false (fun Q hQ=>?_) (fun z=>nomatch z) (fun _=>?_)
  ·walk_at "RD";exact ⟨true,rP 7 eh8 ec8,hQ⟩
  ·simp only [Ii];exact hD _ _ ⟨rfl,rfl⟩
 rintro σ9 H9 ⟨rfl,rfl⟩;subst zzh;simp only [Ab];refine Mb (fun σ' H'=>H'=H9∧bad=false∧σ'=[some (.ref a),some (.int (z:Nat)),some (.ref wa),some (.ref pl),some (.ref cm),some (.int (gnQ (frL ns d z) z)),some (.ref hd),some x7,none,none]) (fun D' hD hrt _ _=>?_) ?_
 ·refine Vb bad (fun Q hQ=>?_) (fun hb=>?_) (fun hb=>?_)
  ·walk_at "RD";have hft:decide (V.str (Hd d.k)=V.str (Str.ofString "foot"))=decide (d.k=1):=decide_eq_decide.mpr ⟨fun e=>(jp hk3).mp (by injection e),fun e=>by rw [(jp hk3).mpr e]⟩;refine ⟨cs,SqL.of ec8,hcb,by omega,?_⟩;by_cases e:cs.sum=0
   ·rw [if_pos (decide_eq_true e)];rw [hbad,decide_eq_true e,Bool.true_or] at hQ;exact hQ
   ·rw [if_neg (by simpa using e)];rw [hbad,decide_eq_false e,Bool.false_or] at hQ;refine ⟨_,SqT.of ew8,_,td0 d,rfl,?_⟩;rw [hft];by_cases f:d.k=1
    ·rw [decide_eq_true f,if_neg (by decide)];rw [decide_eq_true f,Bool.not_true,Bool.false_and] at hQ;exact hQ
    ·rw [decide_eq_false f,if_pos (by decide)];rw [decide_eq_false f,Bool.not_false,Bool.true_and] at hQ;exact ⟨cs,SqL.of ec8,hcb,by omega,hQ⟩
  ·rw [hx1 hb];walk_at "RD";rw [hrt];exact q _
  ·walk_at "RD";exact hD _ _ ⟨rfl,hb,rfl⟩
 rintro σ10 H10 ⟨rfl,hbf,rfl⟩;obtain ⟨hgr,p,u,T0,rfl,ep,SL⟩:=hx0 hbf;simp only [Ab];refine Mb (fun σ' H'=>H'=H10∧σ'=[some (.ref a),some (.int (z:Nat)),some (.ref wa),some (.ref pl),some (.ref cm),some (.int (gnQ (frL ns d z) z)),some (.ref hd),some (.ref p),none,none]) (fun D' hD hrt _ _=>?_) ?_
 ·refine Vb false (fun Q hQ=>?_) (fun z=>nomatch z) (fun _=>?_)
  ·walk_at "RD";refine ⟨_,.tup ep,true,rfl,?_⟩;rw [if_neg (by decide)];refine ⟨_,.inr (SqT.of ep),?_⟩;rw [decide_eq_true (show (([V.int (u:Nat),V.int (T0:Nat)].length:Nat):Int)=2 from rfl)];exact hQ
  ·simp only [Ii];exact hD _ _ ⟨rfl,rfl⟩
 rintro σ11 H11 ⟨rfl,rfl⟩;simp only [Ab];refine Mb (fun σ' H'=>H'=H11∧∃ x8,σ'=[some (.ref a),some (.int (z:Nat)),some (.ref wa),some (.ref pl),some (.ref cm),some (.int (gnQ (frL ns d z) z)),some (.ref hd),some (.ref p),x8,none]) (fun D' hD hrt _ _=>?_) ?_
 ·walk_at "RD";refine ⟨⟨_,SqT.of ep⟩,?_⟩;refine CJ (xs:=[.int (u:Nat),.int (T0:Nat)]) (fun i σ H'=>H'=H11∧∃ x8,σ=[some (.ref a),some (.int (z:Nat)),some (.ref wa),some (.ref pl),some (.ref cm),some (.int (gnQ (frL ns d z) z)),some (.ref hd),some (.ref p),x8,none]) ⟨rfl,_,rfl⟩ ?_ ?_ ?_
  ·rintro i σ H' hi ⟨rfl,_⟩;exact SqT.of ep
  ·rintro i v σ H' hv ⟨rfl,x8,rfl⟩;obtain ⟨m,rfl⟩:∃ m:Int,v=.int m:=by
    match i,hv with
    | 0,hv=>exact ⟨_,(Option.some.inj hv).symm⟩
    | 1,hv=>exact ⟨_,(Option.some.inj hv).symm⟩
   simp only [Ig,List.set_cons_succ,List.set_cons_zero];refine Vb false (fun Q hQ=>?_) (fun z=>nomatch z) (fun _=>?_)
   ·walk_at "RD";refine ⟨_,.int _,true,rfl,?_⟩;rw [if_neg (by decide)];exact ⟨_,.int _,false,rfl,hQ⟩
   ·walk_at "RD";exact ⟨_,rfl⟩
  ·rintro σ H' ⟨rfl,x8,rfl⟩;exact hD _ _ ⟨rfl,_,rfl⟩
 rintro σ12 H12 ⟨rfl,x8,rfl⟩;simp only [Ab];refine Mb (fun σ' H'=>H'=H12∧σ'=[some (.ref a),some (.int (z:Nat)),some (.ref wa),some (.ref pl),some (.ref cm),some (.int (gnQ (frL ns d z) z)),some (.ref hd),some (.ref p),x8,none]) (fun D' hD hrt _ _=>?_) ?_
 ·refine Vb false (fun Q hQ=>?_) (fun z=>nomatch z) (fun _=>?_)
  ·walk_at "RD";have r:=SL.rg;have hpos:0 < cs.length:=by omega
   have hcT:atI (cs.map V.int) ((T0:Int) % (z:Int))=some (.int (yb cs T0)):=by
    have:=Mp hpos (T0:Int);rw [hcl] at this;rw [this];unfold yb;rw [hcl,show ((T0:Int) % (z:Int)).toNat=T0 % z by rw [← Int.natCast_emod,Int.toNat_natCast]]
   refine ⟨_,SqT.of ep,_,Ib (j:=1) rfl,_,rfl,?_⟩;rw [if_pos (decide_eq_true (by omega))];refine ⟨.inl ⟨by decide,by decide⟩,_,rfl,?_⟩;rw [decide_eq_true (show (T0:Int) < 2 * (z:Int) by omega),if_neg (by decide)];refine ⟨_,SqT.of ep,_,Ib (j:=1) rfl,_,rfl,by omega,_,SqL.of ec8,_,hcT,rfl,?_⟩;rw [decide_eq_false (fun e=>by injection e with e;have:=SL.cp;omega)];exact hQ
  ·simp only [Ii];exact hD _ _ ⟨rfl,rfl⟩
 rintro σ13 H13 ⟨rfl,rfl⟩;simp only [Ab];have B:jC d (frL ns d z) (yb cs) z:=⟨by omega,fun k=>by rw [← hfq];exact BI z sp d k,fun k=>by rw [← hcl];exact YD cs k,hcn,hfe,hgr⟩;refine Mb (fun σ' H'=>Yb H13 H'∧∃ wd W,H' wd=some (.dK (kvW W))∧(W.map (·.1)).Nodup∧(T0,u) ∈ W∧(∀ q ∈ W,q.2 ≤ u)∧σ'=[some (.ref a),some (.int (z:Nat)),some (.ref wa),some (.ref pl),some (.ref cm),some (.int (gnQ (frL ns d z) z)),some (.ref hd),some (.ref p),x8,some (.ref wd)]) (fun D' hD hrt _ _=>?_) ?_
 ·walk_at "RD";exact ⟨wa,d,z,cm,cs,rfl,S8,ew8,W,hz,ec8,hcl,hcb,fun wd H' L W1 s' S' e' FI=>hD _ _ ⟨s',wd,W1,e',FI.nw,(FI.end B SL).1,(FI.end B SL).2,rfl⟩⟩
 rintro σ14 H14 zzq;refine zzP fun zzM zzh=>?_
 obtain ⟨s14,wd,W1,e14,nW,hin,hmx,rfl⟩:=zzq;have ep14:=s14 _ _ ep;subst zzh;walk_at "RD";have hdg:=Rr.k (k:=Sum.inl (T0:Int)) e14;rw [SF nW hin] at hdg;refine ⟨_,SqT.of ep14,_,Ib (j:=1) rfl,_,hdg,_,SqT.of ep14,_,Ib (j:=0) rfl,rfl,?_⟩;rw [if_pos (decide_eq_true rfl)];refine ⟨.inr (.inr (.inl (.inl ⟨_,e14⟩))),_,e14,fun p1 hp1=>⟨_,db,_,(lb hp1) _ _ e14,fun l hl=>?_⟩⟩;have hkv:List.map (fun q=>q.snd) (kvW W1)=(W1.map fun q=>((q.2:Nat):Int)).map V.int:=by unfold kvW;rw [List.map_map,List.map_map];rfl
 have hmi:=XM hin hmx;refine ⟨_,SqL.of (by rw [db,hkv]),_,hmi.1,hmi.2,_,SqT.of ((lb hl) _ _ ((lb hp1) _ _ ep14)),_,Ib (j:=0) rfl,rfl,?_⟩;rw [decide_eq_true rfl];exact q _
end
end My
structure PySem.W.Fast:Prop where(tw8996312118230541531 tw14858491830423069037 tw12861402139146531743 tw746345459737610340 tw12648302102349786560 tw16574261927161390763 tw4280744705286785157 tw4087356341899671812 tw6388560294145639674 tw8340459241741031852 tw17666262273111164430 tw14299494838783368710 tw3966701890333938312 tw3374036368007488524 tw1304533448069767161 tw14839839802066526759 tw16631498954862064572 tw12257062821784122667 tw7380803130684625050 tw5566482401558623880 tw10916047368231352695 tw11268671708757573213 tw928521255599162220 tw2646714776024563420 tw10724321778468055656 tw10330813612558210746 tw13854388584883726127 tw64593146330062821 tw6530246035306059288 tw6497177197550479927 tw8848169448991108977 tw14377808051759475662 tw12307023859928406212 tw2895263221147356771 tw17279306440669120488 tw4424592488151749464 tw13646793677111919022 tw14873928676496667382 tw5300528680176460608 tw7575941375226578696 tw13869482532159020582 tw1141340930988747011 tw8082153347617358832 tw17593264010146331589 tw15012660369985752423 tw1721178670321947516 tw8920451432671520121 tw14302608496811136037 tw14807941595892794666 tw12210565004398835017 tw9746749277283954043 tw550120194068943032 tw4899806867789373123 tw574974582173536532 tw12405955723422229090 tw6627825135794210699 tw6078140299318175599 tw11844226402915027883 tw17441996623675012803 tw9119271146478404988 tw14006102363098778169 tw17274992716057849262 tw18264618854882177219 tw16862245544914767519 tw9724135436779440285 tw5525103313669652384 tw16196104034252462087 tw4063638761655399470 tw14022122877160653302 tw10007415443163615142 tw14668840209129101111 tw2666404376320824754 tw15491333512497312423 tw5739520063807760347 tw9547285586486553182 tw17979145096226228214 tw15820875103033052730 tw12912866115508414603 tw18409542988270414397 tw14213967426323643052 tw17199877040667241410 tw6382173190046665971 tw15378171569261897146 tw5594289320644378146 tw16673342435389032661 tw3117001638176652518 tw17729085461707411305 tw16680484896069944883 tw17490312346014258618 tw17998253198043193528 tw6888221470982630337 tw10596271315493273914 tw14767958980988693189 tw11946823857487226084 tw11416704991934856985 tw15328023853740995695 tw13630712748378800053 tw17411664080116782264 tw737166841979268868 tw3558291690549780747 tw8738161312292316955 tw14250384460443827232 tw13449689066400397050 tw4738589146511137904 tw12582568538696818096 tw454584734572237352 tw6772535865797716253 tw6177627672635376764 tw9244726552226677008 tw5399155529651873381 tw18441238989176270237 tw13414917522530920361 tw3527565486676273492 tw16854781800433938680 tw852891926100131370 tw6996043937910306761 tw6103768013026892105 tw15941624854998359210 tw802548752249787463 tw16420361874761198247 tw17724574265740014899 tw15751504676826088271 tw16859595768001564922 tw746540031359704920 tw3631560786175585432 tw16057378990303612865 tw13022880744001425062 tw11276107777009192774 tw12937015373239797438 tw14126442377559295323 tw8062777071377330674 tw9943482614176190574 tw2591583918149786476 tw10429756246534698909 tw6949761290956935184 tw3011876703900412207 tw17221127541697501774 tw747960307142751 tw2480176796801473221 tw4089371318850465170 tw14773548402391777087 tw4662825731613989381 tw12188148956121499110 tw993183990644476942 tw1378106007743819556 tw5789379170751538619 tw1838118945430011289 tw7932471282897487050 tw11414384989601365111 tw6913939027360815018 tw17864608526495586559 tw9874578302456793263 tw3685476374576329537 tw12197296398978205260 tw12245434202479141579 tw8096110315173047754 tw15164747263618637771 tw7452479935079124522 tw8444130880263365365 tw10746027406278804396 tw13181059466944642042 tw15159131996177062421 tw16412424838295832975 tw5655580304512938085 tw15647348150566744349 tw15640135235729520056 tw16306856743821562715 tw13833538972548859717 tw14650201050491852310 tw16883912361410290280 tw486873623731186245 tw7530997657593980760 tw11404967777564329421 tw14153083561756315022 tw6668025714409867192 tw16974978502073377215 tw17295673024615628820 tw12007500236144294055 tw16670058536822159025 tw11626734041643605908 tw10795955191010234562 tw12152003409843758995 tw1803160345875559314 tw5734584065979972616 tw12540169971611004562 tw11802166523202303240 tw3893653989127658852 tw12671272738069619266 tw13509210188424645932 tw1389723241682565264 tw3439549719262597931 tw873223283166003773 tw333996140746554803 tw12384360554744213799 tw15509415004469484566 tw17081600156717192396 tw6392444288361982061 tw8432655998081272166 tw1686632565218255614 tw4241391880149369725 tw8914593258882256073 tw6883952414931126038 tw367510106311123644 tw3718820222475324187 tw10137361667308520122 tw6400811847082451671 tw13181489415833758103 tw5853530471802926704 tw8692249980760093363 tw11848829844164638856 tw6359484165148943660 tw8142345743407814109 tw15273159534061152542 tw6553055964175794275 tw444545824255164400 tw7452689888759086124 tw5819673418573978176 tw5574818131190776518 tw16954487013733311494 tw6465111855161009053 tw1593547268203882320 tw12085366636652936087 tw10663560050015553556 tw5098317962406982711 tw6065649131912171915 tw1936274863849676526 tw12689034589657612697 tw17853432555432029573 tw12931672762271674784 tw13277140337202948637 tw4032539156646598757 tw9417928734118457445 tw9608190886725045327 tw3608007531947815491 tw18337959165037990294 tw73444512439446510 tw9255168713111011789 tw2368373104803512164 tw2826464614727875572 tw1044313711963671480 tw5106830622778582551 tw4543347633517145793 tw7295323540914546408 tw18308639548075884839 tw6916974330207105053 tw2346820597644453422 tw4957924821575350221 tw4202386306044519786 tw706996944714210977 tw14580326028806085232 tw17260709842956289551 tw12658148940643909593 tw10188635956955986341 tw8597908515875166199 tw5116615371120451234 tw15929837660324775092 tw3879502214571519270 tw4636246351110801583 tw16860085852267313984 tw17312802165365587426 tw13191504915715178691 tw11415285833539369754 tw6643516586801752327 tw14469986101335742225 tw636323944747330637 tw2654945457239471771 tw13014153795447923353 tw15382104072101972045 tw11236798118116001306 tw7254781795667617373 tw14641711722531784624 tw13048945260998001325 tw12726308334809380815 tw12517187810154777331 tw16382839990683641713 tw18276924212985456666 tw14368923536611511399 tw9391058903678244520 tw10233693287369559278 tw8715800122070493440 tw16418170953950201104 tw11470110802536255356 tw6712622845282838421 tw17611013591056938886 tw10196415748821821246 tw10597600770846867435 tw17828558726282952765 tw6896698295555519776 tw18180920180269376192 tw9073036848474281800 tw7003749297533658172 tw6824984572055562848 tw13817224923511883421 tw14858173785261578250 tw1624045347099196159 tw15522244074743036006 tw9815918051437573238 tw4547637924592586639 tw10762586694974638634 tw13831764304518822375 tw16593826509079266792 tw10038395112801036493 tw4956382180808789596 tw799488135076726800 tw10222583734434093575 tw17274188042729169018 tw16534383677459983574 tw13892537161579357018 tw7674256816840228097 tw7388975130142193880 tw14477424662121210570 tw771416339592512452 tw4509322691799889969 tw17321650898842491678 tw7322025488318777539 tw17562541225645757879 tw12212885731045381768 tw509415987278361672 tw6854016751650449550 tw1840086985030984278 tw13333323279576580669 tw16782201233348757764 tw755919331209797714 tw11258817212301769550 tw13184008153648870796 tw4676006475462546779 tw8485486433139532894 tw10162413007123508715 tw14764493649399890776 tw17357528513730647999 tw6509189252715525061 tw8867945111162477026 tw6687547040971353687 tw9705897788225755026 tw335736534415007625 tw4606710630816404666 tw3897816058244535993 tw568786461487946084 tw12163296693452285176 tw6564136304418506289 tw13209931181748577575 tw16695121561674243398 tw3093457386031131008 tw5009785668038893970 tw18305464162745230868 tw9594451140006900400 tw13279357907904958233 tw8868371819781940450 tw10063581203473235695 tw7811671776694370602 tw17683765120583987941 tw6371269279969262707 tw4457066185137830997 tw9075685896071447758 tw10065426038284867987 tw9413038343535903793 tw1033975074991018247 tw15098426000670049964 tw9476636824989925685 tw7518169958526331710 tw3094760390022087338 tw16323896989080570285 tw13460754670151399327 tw15330810435397232153 tw6220438101888794500 tw4862423406655101894 tw1514914938438900433 tw10627562642843752986 tw17652985599615527464 tw7785849677597152539 tw8754201495439614135 tw1109025815215636913 tw6836898079827834814 tw5829195802192708715 tw18308956537701870136 tw4764629465163592828 tw11426715033348819549 tw9180089834012732156 tw7155071561861797654 tw18210146065083812478 tw4348837353877118229 tw12535338214115861160 tw5466390400012625144 tw1174633007035032749 tw7865968424216874406 tw8267097010501849637 tw18123541617386883397 tw11398911320692543 tw4754619446035525569 tw14165530502538899483 tw647786675673967197 tw11541926544772245519 tw8943213860173510630 tw6739791229830095035 tw3623438105192866162 tw1164986711531834204 tw11046995477066809829 tw17575101447686286253 tw5820075670134788338 tw4949316991637861892 tw6530498828321889214 tw7782321799255167499 tw2527595776447186309 tw17165693482058248028 tw13684121951549154173 tw7204518471464935573 tw8872447965720613404 tw4731785213344871953 tw3608565442886644795 tw7557799240539466137 tw16165436079131703513 tw17278756331567435102 tw5949801482129855028 tw16746465512007270861 tw9237647281818459529 tw11897036238192072296 tw10944266974256514758 tw1095859661040866317 tw4046249210243917992 tw13326558238771704450 tw13477641370018870420 tw237591039766734786 tw5728097990419289785 tw5578377001476150881 tw429625022652418289 tw427858349117535228 tw7126004385077697954 tw7283276344709252934 tw5892698996104546713 tw15067673428633997961 tw13887041077688008739 tw7006061058707586382 tw14937738023956633060 tw11456891864871258245 tw11814103152877253588 tw44118362163275328 tw1067636366964717263 tw8176700510267693895 tw11502492734855105283 tw18022450644637259325 tw15413517208939551488 tw4616474400849011663 tw12807039448261846632 tw15390241926840064788 tw6460448861116201128 tw14877148404912858617 tw11427129004049549182 tw9563173358197497345 tw650720655813102210 tw17816322966441057211 tw4093726065768730828 tw10490344470248603756 tw17993564538068047618 tw12516730279385328043 tw4789945040983907648 tw16080339952835814961 tw10480846075556570781 tw16665489941387021578 tw18254627124579369991 tw2380003882116581843 tw5398897682652414401 tw17955945903519553159 tw8189646463925839606 tw7661153144909142677 tw9776862826686249396 tw1192626660528477942 tw5516186325722771654 tw18297670399692302265 tw4749335966449714111 tw15907842159928577770 tw10935687308530144094 tw4187789173634616910 tw5630473717692444540 tw17773563701553922932 tw1261707077195022582 tw8425288186791238592 tw17786146991096962459 tw5935838136120988578 tw15004058300006682901 tw16443807344840328735 tw14314981187720083510 tw34469051962478071 tw13176632423052799095 tw13085673959862152626 tw5106843722120667883:True)
open PySem PySem.W PyProof.Rows
set_option maxRecDepth 100000 in
set_option maxHeartbeats 0 in
theorem PySem.Challenge.cw_lampway_k48_the_slowest_holds : PySem.Challenge.rw_lampway_k48_the_slowest.Holds := by
 w_on;o_law;k_head;(case hw=>w_witness2)
 k_fill
 refine L2.rH (fx:=Str.ofString "coming_by") (l:=PySem.Challenge.rw_lampway_k48_the_slowest) (n:=63) (k:=10) (x := "_law_script") (CX:=L2.CX0) (sp:=My.kI) rfl (by decide) rfl ⟨rfl,by decide,by decide⟩ (fun w h Y=>PySem.W.km_in_of Y) (by intro p;kernel_rfl) (by kernel_rfl) ?F ?S ?C
 case F=>
  intro w mg fa h KX G hmg;have T:∃ t,My.Txt w (L2.KOf KX) mg t:=by
   dsimp only [L2.KOf];refine' ⟨My.Adr.mk,⟨?mqaa,?Fqab,?mqac,?Fqad,?mqae,?Fqaf,?mqag,?Fqah,?mqai,?Fqaj,?mqak,?Fqal,?mqam,?Fqan,?mqao,?Fqap,?mqaq,?Fqar,?mqas,?Fqat,?mqau,?Fqav,?mqaw,?Fqax,?mqay,?Fqaz,?mqba,?Fqbb,?mqbc,?Fqbd,?mqbe,?Fqbf,?mqbg,?Fqbh,?mqbi,?Fqbj,?mqbk,?Fqbl,?mqbm,?Fqbn,?mqbo,?Fqbp,?mqbq,?Fqbr,?mqbs,?Fqbt,?mqbu,?Fqbv,?mqbw,?Fqbx,?mqby,?Fqbz,?mqca,?Fqcb,?mqcc,?Fqcd,?mqce,?Fqcf,?mqcg,?Fqch,?mqci,?Fqcj,?mqck,?Fqcl,?mqcm,?Fqcn,?mqco,?Fqcp,?mqcq,?Fqcr,?mqcs,?Fqct,?mqcu,?Fqcv,?mqcw,?Fqcx,?mqcy,?Fqcz,?mqda,?Fqdb,?mqdc,?Fqdd,?mqde,?Fqdf,?mqdg,?Fqdh,?mqdi,?Fqdj,?mqdk,?eqdl,?Fqdm,?eqdn,?Fqdo,?eqdp,?Fqdq,?eqdr,?Fqds,?eqdt,?Fqdu,?eqdv,?Fqdw,?eqdx,?Fqdy,?mqdz,?eqea,?Fqeb,?mqec,?eqed,?Fqee,?eqef,?Fqeg,?eqeh,?Fqei,?eqej,?Fqek,?mqel,?eqem,?Fqen,?eqeo,?Fqep,?eqeq,?Fqer,?eqes,?Fqet,?mqeu,?eqev,?Fqew,?eqex,?Fqey,?eqez,?Fqfa,?eqfb,?Fqfc,?mqfd,?eqfe,?Fqff,?eqfg,?Fqfh,?eqfi,?Fqfj,?eqfk,?Fqfl,?mqfm,?eqfn,?Fqfo,?sqfp,?sqfq,?sqfr,?sqfs,?sqft,?sqfu,?sqfv,?sqfw,?nqfx,?nqfy,?nqfz,?sqga,?nqgb,?nqgc,?nqgd,?nqge,?nqgf,?nqgg,?nqgh,?sqgi,?sqgj,?sqgk,?sqgl,?sqgm,?nqgn,?nqgo,?nqgp,?nqgq,?nqgr,?nqgs,?nqgt,?sqgu,?sqgv,?sqgw,?sqgx,?sqgy,?nqgz,?nqha,?nqhb,?nqhc,?nqhd,?nqhe,?nqhf,?sqhg,?sqhh,?sqhi,?sqhj,?sqhk,?nqhl,?nqhm,?nqhn,?nqho,?nqhp,?nqhq,?nqhr,?sqhs,?sqht,?sqhu,?sqhv,?sqhw,?nqhx,?nqhy,?nqhz,?sqia,?sqib,?nqic,?nqid,?nqie,?nqif,?nqig,?dqih,?dqii,?dqij,?dqik,?dqil,?dqim,?sqin,?mqio,?vqip,?mqiq,?vqir,?mqis,?vqit,?mqiu,?vqiv,?mqiw,?vqix,?mqiy,?vqiz,?mqja,?vqjb,?mqjc,?vqjd,?mqje,?vqjf,?mqjg,?vqjh,?bqji,?bqjj,?bqjk,?bqjl,?bqjm,?bqjn,?bqjo,?bqjp,?bqjq,?bqjr,?bqjs,?bqjt,?bqju,?bqjv,?bqjw,?lqjx⟩⟩
   case mqaa | mqac | mqae | mqag | mqai | mqak | mqam | mqao | mqaq | mqas | mqau | mqaw | mqay | mqba | mqbc | mqbe | mqbg | mqbi | mqbk | mqbm | mqbo | mqbq | mqbs | mqbu | mqbw | mqby | mqca | mqcc | mqce | mqcg | mqci | mqck | mqcm | mqco | mqcq | mqcs | mqcu | mqcw | mqcy | mqda | mqdc | mqde | mqdg | mqdi | mqdk | mqdz | mqec | mqel | mqeu | mqfd | mqfm | mqio | mqiq | mqis | mqiu | mqiw | mqiy | mqja | mqjc | mqje | mqjg=>(try dsimp only);refine' PySem.W.mg_of KX G ?z;case z=>k_is
   case eqdl | eqdn | eqdp | eqdr | eqdt | eqdv | eqdx | eqea | eqed | eqef | eqeh | eqej | eqem | eqeo | eqeq | eqes | eqev | eqex | eqez | eqfb | eqfe | eqfg | eqfi | eqfk | eqfn=>(try dsimp only);k_is
   case sqfp | sqfq | sqfr | sqfs | sqft | sqfu | sqfv | sqfw | sqga | sqgi | sqgj | sqgk | sqgl | sqgm | sqgu | sqgv | sqgw | sqgx | sqgy | sqhg | sqhh | sqhi | sqhj | sqhk | sqhs | sqht | sqhu | sqhv | sqhw | sqia | sqib | sqin=>(try dsimp only);constructor <;> k_is
   case Fqab | Fqad | Fqaf | Fqah | Fqaj | Fqal | Fqan | Fqap | Fqar | Fqat | Fqav | Fqax | Fqaz | Fqbb | Fqbd | Fqbf | Fqbh | Fqbj | Fqbl | Fqbn | Fqbp | Fqbr | Fqbt | Fqbv | Fqbx | Fqbz | Fqcb | Fqcd | Fqcf | Fqch | Fqcj | Fqcl | Fqcn | Fqcp | Fqcr | Fqct | Fqcv | Fqcx | Fqcz | Fqdb | Fqdd | Fqdf | Fqdh | Fqdj | Fqdm | Fqdo | Fqdq | Fqds | Fqdu | Fqdw | Fqdy | Fqeb | Fqee | Fqeg | Fqei | Fqek | Fqen | Fqep | Fqer | Fqet | Fqew | Fqey | Fqfa | Fqfc | Fqff | Fqfh | Fqfj | Fqfl | Fqfo=>(try dsimp only);refine' L2.xN ?x ?y ?z;(case x=>k_is);(case y=>k_is);(case z=>k_is)
   case nqfx | nqfy | nqfz | nqgb | nqgc | nqgd | nqge | nqgf | nqgg | nqgh | nqgn | nqgo | nqgp | nqgq | nqgr | nqgs | nqgt | nqgz | nqha | nqhb | nqhc | nqhd | nqhe | nqhf | nqhl | nqhm | nqhn | nqho | nqhp | nqhq | nqhr | nqhx | nqhy | nqhz | nqic | nqid | nqie | nqif | nqig=>(try dsimp only);unfold L2.Ub;k_is
   case dqih | dqii | dqij | dqik | dqil | dqim=>(try dsimp only);decide
   case vqip | vqir | vqit | vqiv | vqix | vqiz | vqjb | vqjd | vqjf | vqjh=>(try dsimp only);exact ⟨_,rfl⟩
   case bqji | bqjj | bqjk | bqjl | bqjm | bqjn | bqjo | bqjp | bqjq | bqjr | bqjs | bqjt | bqju | bqjv | bqjw=>(try dsimp only);refine' PySem.W.mg_none_of KX G ?z;case z=>k_is
   case lqjx=>(try dsimp only);exact fun _ _=>.of_eq rfl
  obtain ⟨t,T⟩:=T;have e0:=hmg.symm.trans T.kO;cases e0;exact ⟨t.sH,T.iM,fun base c Pt kb nb hC hB hc=>My.xL T (L2.FJ T.Qg T.Ml hc) hC hB⟩
 case S=>exact fun K H a Pt ns hl hO hS=>⟨a,ns,rfl,L2.Sc.of_onlyT hO hS,hl,⟨#[],hO.1,.inl rfl⟩,fun _=>rfl⟩
 case C=>exact fun _ _ _ _ z=>z
