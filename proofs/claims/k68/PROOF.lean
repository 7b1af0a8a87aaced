import PyProof.Rows.All
import Wide.All
import OpenK.AllK
import Wide.FinOn
import Lean
import PyProof.EqAt
import PyProof.EqKinds
import PyProof.TupleCall
import KE.KTryMore
import PyProof.NsDelKeeps
import PySem.Challenge.RW_lampway_k68_rings_of_odd_ways
set_option compiler.extract_closed false
set_option Elab.async false
set_option linter.all false
set_option maxRecDepth 100000
namespace L2
open PySem PySem.Spec PyProof.Rows
noncomputable abbrev Key:=Sum Int Str
noncomputable def Fy:Key→Value→Bool
 | .inl k,v=>Value.isInt k v
 | .inr x,v=>Value.isStrOf x v
noncomputable def ZL (w:World):Key→Int
 | .inl k=>hashInt k
 | .inr x=>hashStr w x
theorem Fd:∀ {k:Key} {v:Value},Fy k v=true→(∃ i t,k=Sum.inl i∧v=Value.int i t)∨(∃ x t,k=Sum.inr x∧v=Value.str x t)
 | .inl i,v,h=>by
  obtain ⟨t,e⟩:=Value.isInt_shape (k:=i) (v:=v) h;exact .inl ⟨i,t,rfl,e⟩
 | .inr x,v,h=>by
  obtain ⟨t,e⟩:=Value.isStrOf_shape (x:=x) (v:=v) h;exact .inr ⟨x,t,rfl,e⟩
theorem vz (i:Int) (t:Tok):Fy (.inl i) (.int i t)=true:=by simp [Fy,Value.isInt]
theorem aC (x:Str) (t:Tok):Fy (.inr x) (.str x t)=true:=by simp [Fy,Value.isStrOf]
theorem KI (a b:Int):decide ((Sum.inl a:Key)=Sum.inl b)=(a == b):=by
 by_cases e:a=b
 ·subst e;simp
 ·have h:¬ (Sum.inl a:Key)=Sum.inl b:=fun q=>e (Sum.inl.inj q)
  rw [decide_eq_false h];exact (beq_eq_false_iff_ne.mpr e).symm
theorem AI (a b:Str):decide ((Sum.inr a:Key)=Sum.inr b)=decide (a=b):=by
 by_cases e:a=b
 ·subst e;simp
 ·have h:¬ (Sum.inr a:Key)=Sum.inr b:=fun q=>e (Sum.inr.inj q)
  rw [decide_eq_false h,decide_eq_false e]
theorem zI (a:Int) (b:Str):decide ((Sum.inl a:Key)=Sum.inr b)=false:=decide_eq_false (fun q=>nomatch q)
theorem dI (a:Str) (b:Int):decide ((Sum.inr a:Key)=Sum.inl b)=false:=decide_eq_false (fun q=>nomatch q)
noncomputable def Nd (prog:Program) (w:World):PySem.KeyKind prog w Key where
 is:=Fy
 hash:=ZL w
 inj:=fun v a b ha hb=>by
  rcases Fd ha with ⟨i,t,rfl,rfl⟩ | ⟨x,t,rfl,rfl⟩
  ·rcases Fd hb with ⟨j,u,rfl,e⟩ | ⟨y,u,rfl,e⟩
   ·injection e with e1 _;rw [e1]
   ·exact nomatch e
  ·rcases Fd hb with ⟨j,u,rfl,e⟩ | ⟨y,u,rfl,e⟩
   ·exact nomatch e
   ·injection e with e1 _;rw [e1]
 byValue:=fun k v h=>by
  rcases Fd h with ⟨i,t,rfl,rfl⟩ | ⟨x,t,rfl,rfl⟩ <;> rfl
 pyHash:=fun hv h=>by
  rcases Fd hv with ⟨i,t,rfl,rfl⟩ | ⟨x,t,rfl,rfl⟩
  ·exact wpAny_pyHash_int h
  ·exact wpAny_pyHash_str h
 eqBool:=fun hu hv h=>by
  rcases Fd hu with ⟨i,t,rfl,rfl⟩ | ⟨x,t,rfl,rfl⟩
  ·rcases Fd hv with ⟨j,u,rfl,rfl⟩ | ⟨y,u,rfl,rfl⟩
   ·rw [KI] at h;exact wpAny_eqBool_int h
   ·rw [zI] at h;exact SeqAt.EqAt.int_str i t y u _ _ _ _ h
  ·rcases Fd hv with ⟨j,u,rfl,rfl⟩ | ⟨y,u,rfl,rfl⟩
   ·rw [dI] at h;exact SeqAt.EqAt.str_int x t j u _ _ _ _ h
   ·rw [AI] at h;exact wpAny_eqBool_str h
 «strs»:=fun k x t v h=>by
  rcases Fd h with ⟨i,u,rfl,e⟩ | ⟨y,u,rfl,e⟩
  ·exact nomatch e
  ·injection e with e1 _;subst e1;cases v <;> rfl
theorem Wu (prog:Program) (w:World) (i:Int) (t:Tok):(Nd prog w).is (.inl i) (.int i t)=true:=vz i t
theorem Yu (prog:Program) (w:World) (x:Str) (t:Tok):(Nd prog w).is (.inr x) (.str x t)=true:=aC x t
end L2
namespace L2
open PySem PySem.Spec PyProof.Rows
inductive V where
 | non | bl (b:Bool) | int (i:Int) | str (x:Str) | byt (b:Array UInt8) | flt (b:UInt64) | ref (a:Addr) | ty (n:String)
 deriving DecidableEq
noncomputable def ad:V→Value→Prop
 | .non,u=>u=Value.none
 | .bl b,u=>u=Value.bool b
 | .int i,u=>∃ t,u=Value.int i t
 | .str x,u=>∃ t,u=Value.str x t
 | .byt b,u=>∃ t,u=Value.bytes b t
 | .flt b,u=>∃ t,u=Value.float b t
 | .ref a,u=>u=Value.ref a
 | .ty n,u=>u=Value.type n
noncomputable abbrev Zc:List V→List Value→Prop:=Paired ad
theorem Zc.length {xs:List V} {us:List Value} (r:Zc xs us):xs.length=us.length:=Paired.length r
theorem Zc.get:∀ {xs:List V} {us:List Value} {i:Nat} {x:V},Zc xs us→xs[i]? = some x→∃ u,us[i]? = some u∧ad x u
 | _,_,_,_,.nil,e=>by simp at e
 | _,_,0,_,.cons r _,e=>by simp at e;subst e;exact ⟨_,rfl,r⟩
 | _,_,i + 1,x,.cons _ t,e=>by
  obtain ⟨u,h1,h2⟩:=Zc.get (i:=i) (x:=x) t (by simpa using e);exact ⟨u,by simpa using h1,h2⟩
theorem Zc.set {x:V} {u:Value} (r:ad x u):∀ {xs:List V} {us:List Value} (i:Nat),Zc xs us→Zc (xs.set i x) (us.set i u)
 | _,_,_,.nil=>.nil
 | _,_,0,.cons _ t=>.cons r t
 | _,_,i + 1,.cons q t=>.cons q (Zc.set r i t)
theorem Zc.append:∀ {xs ys:List V} {us ws:List Value},Zc xs us→Zc ys ws→Zc (xs ++ ys) (us ++ ws)
 | _,_,_,_,.nil,s=>s
 | _,_,_,_,.cons r t,s=>.cons r (Zc.append t s)
theorem Zc.take:∀ {xs:List V} {us:List Value} (n:Nat),Zc xs us→Zc (xs.take n) (us.take n)
 | _,_,0,_=>.nil
 | _,_,_ + 1,.nil=>.nil
 | _,_,n + 1,.cons r t=>.cons r (Zc.take n t)
theorem Zc.drop:∀ {xs:List V} {us:List Value} (n:Nat),Zc xs us→Zc (xs.drop n) (us.drop n)
 | _,_,0,r=>r
 | _,_,_ + 1,.nil=>.nil
 | _,_,n + 1,.cons _ t=>Zc.drop n t
theorem Zc.none_of:∀ {xs:List V} {us:List Value} {i:Nat},Zc xs us→xs[i]? = none→us[i]? = none:=fun {xs us i} r e=>by
 have h1:=r.length;have h2:xs.length ≤ i:=List.getElem?_eq_none_iff.mp e;exact List.getElem?_eq_none_iff.mpr (by omega)
noncomputable def Vp:Option V→Option Value→Prop
 | some v,some u=>ad v u
 | none,none=>True
 | _,_=>False
noncomputable def KV {κ:Type}:List (κ × V)→List (κ × Value)→Prop:=Paired fun (p:κ × V) (q:κ × Value)=>p.1=q.1∧ad p.2 q.2
noncomputable def kV:Key→V
 | .inl i=>.int i
 | .inr x=>.str x
inductive HO where
  | lst (xs:List V)
  | tup (xs:List V)
  | dK (kvs:List (Key × V)) | dT (kvs:List (List Key × V))
  | set (S:Int→Bool) (n:Nat)
  | ins (C dx:Addr) (fs:List (Str × V))
  | own (x:Addr)
  | xd (fs:List (Str × V))
  | met (f x:Addr)
  | rng (lo hi:Int)
  | frz (o:Obj) (u:HO)
  | tbl (ps:Array Value)
  | ext (φ:Heap→Prop)
noncomputable abbrev Hp:=Addr→Option HO
noncomputable def upd (H:Hp) (a:Addr) (o:HO):Hp:=fun b=>if b=a then some o else H b
theorem db {H:Hp} {a:Addr} {o:HO}:upd H a o a=some o:=by unfold upd;rw [if_pos rfl]
theorem ub {H:Hp} {a b:Addr} {o:HO} (h:b ≠ a):upd H a o b=H b:=by unfold upd;rw [if_neg h]
theorem Jk {H:Hp} {a:Addr} {o u:HO}:upd (upd H a o) a u=upd H a u:=by
 funext b;unfold upd;split <;> rfl
theorem ij {H:Hp} {a b:Addr} {o u:HO} (h:H a=some o) (h':H b=some u) (d:o ≠ u):a ≠ b:=by
 intro e;subst e;rw [h] at h';exact d (Option.some.inj h')
theorem Db {H:Hp} {a b:Addr} {o:HO} (h:H a=some o) (h':H b=none):a ≠ b:=by
 intro e;subst e;rw [h] at h';cases h'
section
variable (P:Program) (w:World)
noncomputable def Kd (H:Hp) (h:Heap) (a:Addr):HO→Prop
 | .lst xs=>xs.length ≤ sizeLine∧∃ (its:List Value) (n:Nat),Zc xs its∧h.get? a=some { cls:=.type "list",data:=.seq its.toArray n }
 | .tup xs=>xs.length ≤ sizeLine∧∃ its:List Value,Zc xs its∧IsTup h a its.toArray
 | .dK kvs=>kvs.length ≤ sizeLine∧(a == sysModules)=false∧∃ vs,KV kvs vs∧h.DictOf (Nd P w) a vs
 | .dT kvs=>kvs.length ≤ sizeLine∧(a == sysModules)=false∧∃ xs:List (List Key × Addr × Value),
   Paired (fun (p:List Key × V) (q:List Key × Addr × Value)=>p.1=q.1∧H q.2.1=some (.tup (p.1.map kV))∧ad p.2 q.2.2) kvs xs ∧
   ∃ o es ep,h.get? a=some o∧o.ExactDict∧o.data=.dict es ep∧es.toList=xs.map (entryOfKey (tupleKind (Nd P w)))∧(xs.map (·.1)).Nodup
 | .set S n=>h.SetOf (intKind P w) a S n
 | .ins C dx fs=>H dx=some (.own a)∧fs.length ≤ 1000∧dx ≠ a∧h.get? a=some (PySem.W.instObj C dx) ∧
   ∃ mA,h.Ns1 dx mA∧(∀ f,Vp (fs.lookup f) (mA f))∧PySem.Within mA (fs.map (·.1))
 | .own _=>∃ o,h.get? a=some o
 | .xd fs=>∃ mA,h.Ns1 a mA∧∀ f,Vp (fs.lookup f) (mA f)
 | .rng lo hi=>∃ t u v,h.get? a=some { cls:=.type "range",data:=.fields #[.int lo t,.int hi u,.int 1 v] }
 | .frz o u=>h.get? a=some o∧Kd H h a u
 | .tbl ps=>h.get? a=some { cls:=.none,data:=.fields ps }
 | .met f x=>h.get? a=some (PySem.W.methodObj (.ref f) (.ref x))
 | .ext φ=>φ h∧(∃ o,h.get? a=some o)∧∀ h1 h2:Heap,φ h1→(∀ o,h1.get? a=some o→h2.get? a=some o)→φ h2
noncomputable def HOk (H:Hp) (h:Heap):Prop:=∀ a o,H a=some o→Kd P w H h a o
end
section
variable {P:Program} {w:World} {H H':Hp} {h h':Heap} {a:Addr} {o:HO}
theorem Kd.lt (x:Kd P w H h a o):a < h.objs.size:=by
 cases o with
 | lst xs=>obtain ⟨_,_,_,_,e⟩:=x;exact Heap.lt_size e
 | tup xs=>obtain ⟨_,_,_,p⟩:=x;exact p.lt
 | dK kvs=>obtain ⟨_,_,_,_,o,_,_,e,_⟩:=x;exact Heap.lt_size e
 | dT kvs=>obtain ⟨_,_,_,_,o,_,_,e,_⟩:=x;exact Heap.lt_size e
 | set S n=>obtain ⟨o,_,_,_,e,_⟩:=x;exact Heap.lt_size e
 | ins C dx fs=>obtain ⟨_,_,_,e,_⟩:=x;exact Heap.lt_size e
 | own y=>obtain ⟨_,e⟩:=x;exact Heap.lt_size e
 | xd fs=>obtain ⟨_,⟨_,_,_,e,_⟩,_⟩:=x;exact Heap.lt_size e
 | rng lo hi=>obtain ⟨_,_,_,e⟩:=x;exact Heap.lt_size e
 | frz ob u=>obtain ⟨e,_⟩:=x;exact Heap.lt_size e
 | tbl ps=>exact Heap.lt_size (show h.get? a=some _ from x)
 | met f y=>exact Heap.lt_size (show h.get? a=some _ from x)
 | ext φ=>obtain ⟨_,⟨_,e⟩,_⟩:=x;exact Heap.lt_size e
theorem Paired.mapP {α β:Type} {F G:α→β→Prop}:∀ {l₁:List α} {l₂:List β},Paired F l₁ l₂→(∀ a b,F a b→G a b)→Paired G l₁ l₂
 | _,_,.nil,_=>.nil
 | _,_,.cons r t,f=>.cons (f _ _ r) (Paired.mapP t f)
theorem Kd.stay (x:Kd P w H h a o) (k:∀ b u,(b=a∨H b=some (.own a))→h.get? b=some u→h'.get? b=some u)
  (ho:∀ b,H b=some (.own a)→H' b=some (.own a)) (ht:∀ b xs,H b=some (.tup xs)→H' b=some (.tup xs)):Kd P w H' h' a o:=by
 induction o with
 | lst xs=>obtain ⟨z,its,n,r,e⟩:=x;exact ⟨z,its,n,r,k _ _ (.inl rfl) e⟩
 | tup xs=>obtain ⟨z,its,r,ob,e,c⟩:=x;exact ⟨z,its,r,ob,k _ _ (.inl rfl) e,c⟩
 | dK kvs=>obtain ⟨z,y,vs,r,ob,es,ep,e,c⟩:=x;exact ⟨z,y,vs,r,ob,es,ep,k _ _ (.inl rfl) e,c⟩
 | dT kvs=>
  obtain ⟨z,y,xs,r,ob,es,ep,e,c⟩:=x;exact ⟨z,y,xs,Paired.mapP r fun p q z=>⟨z.1,ht _ _ z.2.1,z.2.2⟩,ob,es,ep,k _ _ (.inl rfl) e,c⟩
 | set S n=>obtain ⟨ob,es,ep,t,e,c⟩:=x;exact ⟨ob,es,ep,t,k _ _ (.inl rfl) e,c⟩
 | ins C dx fs=>
  obtain ⟨d,z,ne,e,mA,⟨od,es,ep,e2,c⟩,r⟩:=x;exact ⟨ho _ d,z,ne,k _ _ (.inl rfl) e,mA,⟨od,es,ep,k _ _ (.inr d) e2,c⟩,r⟩
 | own y=>obtain ⟨ob,e⟩:=x;exact ⟨ob,k _ _ (.inl rfl) e⟩
 | xd fs=>obtain ⟨mA,⟨od,es,ep,e,c⟩,r⟩:=x;exact ⟨mA,⟨od,es,ep,k _ _ (.inl rfl) e,c⟩,r⟩
 | rng lo hi=>obtain ⟨t,u,v,e⟩:=x;exact ⟨t,u,v,k _ _ (.inl rfl) e⟩
 | frz ob u ih=>obtain ⟨e,q⟩:=x;exact ⟨k _ _ (.inl rfl) e,ih q⟩
 | tbl ps=>
  have e:h.get? a=some { cls:=.none,data:=.fields ps }:=x;show h'.get? a=some { cls:=.none,data:=.fields ps };exact k a _ (.inl rfl) e
 | met f y=>
  have e:h.get? a=some (PySem.W.methodObj (.ref f) (.ref y)):=x;show h'.get? a=some (PySem.W.methodObj (.ref f) (.ref y));exact k a _ (.inl rfl) e
 | ext φ=>obtain ⟨p,⟨o,e⟩,st⟩:=x;exact ⟨st _ _ p fun o q=>k _ _ (.inl rfl) q,⟨o,k _ _ (.inl rfl) e⟩,st⟩
theorem HOk.lt (x:HOk P w H h) (e:H a=some o):a < h.objs.size:=(x a o e).lt
theorem HOk.fresh (x:HOk P w H h) (e:h.objs.size ≤ a):H a=none:=by
 cases q:H a with
 | none=>rfl
 | some u=>exact absurd (Nat.lt_of_lt_of_le (x.lt q) e) (Nat.lt_irrefl _)
theorem HOk.kept (x:HOk P w H h) (k:∀ b u,h.get? b=some u→h'.get? b=some u):HOk P w H h':=fun a o e=>
 (x a o e).stay (fun b u _ q=>k b u q) (fun _ q=>q) fun _ _ q=>q
theorem HOk.laid (x:HOk P w H h) (k:∀ b u,h.get? b=some u→h'.get? b=some u) (hp:h.objs.size ≤ a) (new:Kd P w (upd H a o) h' a o):HOk P w (upd H a o) h':=fun b u e=>by
 have hn:=x.fresh hp;by_cases hb:b=a
 ·subst hb;rw [db] at e;cases e;exact new
 ·rw [ub hb] at e;exact (x b u e).stay (fun c v _ q=>k c v q) (fun c q=>by rw [ub (Db q hn)];exact q) fun c xs q=>by rw [ub (Db q hn)];exact q
end
noncomputable def Rd (H:Hp) (a:Addr) (u:HO):Prop:=H a=some u∨∃ o,H a=some (.frz o u)
theorem Rd.of {H:Hp} {a:Addr} {u:HO} (h:H a=some u):Rd H a u:=.inl h
theorem Rd.ok {P:Program} {w:World} {H:Hp} {h:Heap} {a:Addr} {u:HO} (r:Rd H a u) (x:HOk P w H h):Kd P w H h a u:=by
 rcases r with r | ⟨o,r⟩
 ·exact x a u r
 ·obtain ⟨_,q⟩:=x a _ r;exact q
noncomputable def Mut:Option HO→Prop
 | some (.lst _)=>True
 | some (.dK _)=>True
 | some (.dT _)=>True
 | some (.set _ _)=>True
 | some (.ins _ _ _)=>True
 | some (.ext _)=>True
 | _=>False
section
variable {P:Program} {w:World} {H:Hp} {h h':Heap} {x e:Addr} {o':HO}
theorem HOk.write (ok:HOk P w H h) (mu:Mut (H x)) (he:e=x∨H e=some (.own x)) (k:∀ b u,b ≠ e→h.get? b=some u→h'.get? b=some u) (heo:∃ u,h'.get? e=some u)
  (new:Kd P w (upd H x o') h' x o'):HOk P w (upd H x o') h':=fun b u q=>by
 have nown:∀ c y,H c=some (.own y)→c ≠ x:=fun c y r z=>by subst z;rw [r] at mu;exact mu
 have ntup:∀ c xs,H c=some (.tup xs)→c ≠ x:=fun c xs r z=>by subst z;rw [r] at mu;exact mu
 by_cases hb:b=x
 ·subst hb;rw [db] at q;cases q;exact new
 ·rw [ub hb] at q;by_cases hbe:b=e
  ·have q':H b=some (.own x):=by
    rcases he with z | z
    ·exact absurd (hbe.trans z) hb
    ·rw [hbe];exact z
   rw [q] at q';cases q';obtain ⟨v,hv⟩:=heo;exact ⟨v,by rw [hbe];exact hv⟩
  ·refine (ok b u q).stay (fun c v hc r=>k c v ?_ r) (fun c r=>by rw [ub (nown c b r)];exact r) fun c xs r=>by rw [ub (ntup c xs r)];exact r
   rcases hc with rfl | hc
   ·exact hbe
   ·rintro rfl;rcases he with z | z
    ·exact nown c b hc z
    ·rw [hc] at z;cases z;exact hb rfl
end
structure Un (fs ex:List Addr) (H H':Hp) (h h':Heap):Prop where
 keep:∀ b o,h.get? b=some o→H b=none→b ∉ fs→b ∉ ex→h'.get? b=some o
 slot:∀ b o,h.get? b=some o→H b=none→b ∈ fs→b ∉ ex→∃ sl,h'.get? b=some { o with slots:=sl }
 free:∀ b o,h.get? b=some o→H b=none→b ∉ ex→H' b=none
 there:∀ b o,h.get? b=some o→b ∉ ex→∃ o',h'.get? b=some o'
 tups:∀ b xs,H b=some (.tup xs)→H' b=some (.tup xs)
 frzs:∀ b o u,H b=some (.frz o u)→H' b=some (.frz o u)
 tbls:∀ b ps,H b=some (.tbl ps)→∃ more,H' b=some (.tbl (ps ++ more))
section
variable {fs fs' ex ex':List Addr} {H H1 H2:Hp} {h h1 h2 h':Heap} {a x e:Addr} {o:HO}
theorem Un.any (u:Un fs ex H H1 h h1) {b:Addr} {ob:Obj} (q:h.get? b=some ob) (n:H b=none) (hx:b ∉ ex):∃ sl,h1.get? b=some { ob with slots:=sl }:=by
 by_cases hb:b ∈ fs
 ·exact u.slot b ob q n hb hx
 ·exact ⟨ob.slots,u.keep b ob q n hb hx⟩
theorem Un.trans (a:Un fs ex H H1 h h1) (b:Un fs ex H1 H2 h1 h2):Un fs ex H H2 h h2 where
 keep:=fun c ob q n hc hx=>b.keep c ob (a.keep c ob q n hc hx) (a.free c ob q n hx) hc hx
 slot:=fun c ob q n hc hx=>by
  obtain ⟨sl,e1⟩:=a.slot c ob q n hc hx;obtain ⟨sl',e2⟩:=b.slot c _ e1 (a.free c ob q n hx) hc hx;exact ⟨sl',e2⟩
 free:=fun c ob q n hx=>by
  obtain ⟨o',e1⟩:=a.there c ob q hx;exact b.free c o' e1 (a.free c ob q n hx) hx
 there:=fun c ob q hx=>by
  obtain ⟨o',e1⟩:=a.there c ob q hx;exact b.there c o' e1 hx
 tups:=fun c xs q=>b.tups c xs (a.tups c xs q)
 frzs:=fun c ob xs q=>b.frzs c ob xs (a.frzs c ob xs q)
 tbls:=fun c ps q=>by
  obtain ⟨m1,e1⟩:=a.tbls c ps q;obtain ⟨m2,e2⟩:=b.tbls c _ e1;exact ⟨m1 ++ m2,by rw [e2,Array.append_assoc]⟩
theorem Un.kept (k:∀ b u,h.get? b=some u→h'.get? b=some u):Un fs ex H H h h':=
 ⟨fun b ob q _ _ _=>k b ob q,fun b ob q _ _ _=>⟨ob.slots,k b ob q⟩,fun _ _ _ n _=>n,fun b ob q _=>⟨ob,k b ob q⟩,fun _ _ q=>q,fun _ _ _ q=>q,fun _ ps q=>⟨#[],by rw [q];simp⟩⟩
theorem Un.refl:Un fs ex H H h h:=Un.kept fun _ _ q=>q
theorem Un.laid (k:∀ b u,h.get? b=some u→h'.get? b=some u) (hp:h.objs.size ≤ a) (hn:H a=none):Un fs ex H (upd H a o) h h' where
 keep:=fun b u q _ _ _=>k b u q
 slot:=fun b u q _ _ _=>⟨u.slots,k b u q⟩
 free:=fun b u q n _=>by rw [ub (Nat.ne_of_lt (Nat.lt_of_lt_of_le (Heap.lt_size q) hp))];exact n
 there:=fun b u q _=>⟨u,k b u q⟩
 tups:=fun b xs q=>by rw [ub (Db q hn)];exact q
 frzs:=fun b u xs q=>by rw [ub (Db q hn)];exact q
 tbls:=fun b ps q=>⟨#[],by rw [ub (Db q hn),q];simp⟩
theorem Un.write (mu:Mut (H x)) (he:e=x∨H e=some (.own x)) (k:∀ b u,b ≠ e→h.get? b=some u→h'.get? b=some u) (heo:∃ u,h'.get? e=some u):Un fs ex H (upd H x o) h h':=by
 have hx:∀ b,H b=none→b ≠ x:=fun b n z=>by subst z;rw [n] at mu;exact mu
 have hb:∀ b,H b=none→b ≠ e:=fun b n z=>by
  subst z;rcases he with r | r
  ·exact hx b n r
  ·rw [n] at r;cases r
 have hm:∀ b u,H b=some u→¬ Mut (some u)→b ≠ x:=fun b u q nm z=>by subst z;rw [q] at mu;exact nm mu
 refine ⟨fun b u q n _ _=>k b u (hb b n) q,fun b u q n _ _=>⟨u.slots,k b u (hb b n) q⟩,fun b u q n _=>by rw [ub (hx b n)];exact n,fun b u q _=>?_,
  fun b xs q=>by rw [ub (hm b _ q fun z=>z)];exact q,fun b u xs q=>by rw [ub (hm b _ q fun z=>z)];exact q,fun b ps q=>⟨#[],by rw [ub (hm b _ q fun z=>z),q];simp⟩⟩
 by_cases hbe:b=e
 ·subst hbe;exact heo
 ·exact ⟨u,k b u hbe q⟩
theorem Un.mono (u:Un fs ex H H1 h h1) (hs:∀ b ∈ fs,b ∈ fs') (hx:∀ b ∈ ex,b ∈ ex'):Un fs' ex' H H1 h h1:=
 ⟨fun b ob q n hb he=>u.keep b ob q n (fun z=>hb (hs b z)) fun z=>he (hx b z),fun _ _ q n _ he=>u.any q n fun z=>he (hx _ z),fun b ob q n he=>u.free b ob q n fun z=>he (hx b z),fun b ob q he=>u.there b ob q fun z=>he (hx b z),u.tups,u.frzs,u.tbls⟩
end
noncomputable def trk (h:Heap) (H:Hp):List Addr:=(List.range h.objs.size).filter fun a=>(H a).isSome
noncomputable def zE (h:Heap) (H:Hp):Heap:=PySem.W.hideAll h (trk h H)
theorem mz (h:Heap) (H:Hp):(zE h H).objs.size=h.objs.size:=PySem.W.hideAll_size _ _
theorem lD {h:Heap} {H:Hp} {b:Addr} {o:Obj} (e:h.get? b=some o) (n:H b=none):(zE h H).get? b=some o:=
 PySem.W.hideAll_get _ e fun hm=>by
  have q:(H b).isSome=true:=(List.mem_filter.mp hm).2;rw [n] at q;simp at q
theorem VG {h:Heap} {H:Hp} {b:Addr} {o:Obj} (e:(zE h H).get? b=some o):h.get? b=some o∧H b=none:=by
 have e':h.get? b=some o:=PySem.W.of_hideAll (trk h H) e;refine ⟨e',?_⟩;cases q:H b with
 | none=>rfl
 | some x=>
  have hm:b ∈ trk h H:=List.mem_filter.mpr ⟨List.mem_range.mpr (Heap.lt_size e'),by simp [q]⟩;have z:(zE h H).get? b=none:=PySem.W.hideAll_none (trk h H) hm;rw [z] at e;cases e
noncomputable def wH (g h:Heap) (L:Addr):List (Addr × Obj):=(List.range h.objs.size).filterMap fun a=>if a=L∨(g.get? a).isSome=true then none else (h.get? a).map fun o=>(a,o)
noncomputable def xu (g h:Heap) (L d:Addr):List (Addr × Obj):=(wH g h L).filter fun p=>decide (p.1 ≠ d)
end L2
namespace L2
open PySem PySem.Spec PyProof.Rows
structure Mod (K:PySem.W.Frag) (mg:Str→Option Value) (base:Heap):Prop where
 kin:K.In base
 glob:base.Ns mainGlobals mg
 blt:∃ mb,base.Ns builtinsNs mb∧∀ x:Str,x ≠ "__name__" → mb x=bootBuiltins x
 nolimit:base.NoLimit
structure Cx where
 prog:Program
 w:World
 K:PySem.W.Frag
 mg:Str→Option Value
 base:Heap
 A:Around
 N:List Str
 s₀:Shared
 H₀:Hp
 env:Env
 outer:List Env
 stack:List Env
 ex:List Addr
 fn:Str→Bool
 calm:Bool
 pn:List (Addr × Obj)
 xe:Value→Shared→Prop
noncomputable def frs (l:List Env):List Addr:=l.filterMap (·.frame)
noncomputable abbrev Cx.fs (X:Cx):List Addr:=frs X.outer
noncomputable def Vis (sc:Scope) (x:Str):Prop:=sc.names.lookup x=some .local∨sc.names.lookup x=some .cell∨sc.names.lookup x=some .free
noncomputable def Loc (sc:Scope) (x:Str):Prop:=sc.names.lookup x=some .local∨sc.names.lookup x=some .cell
noncomputable def RL (env:Env) (h:Heap) (m:Str→Option Value) (x:Str) (u:Value):Prop:=
 (env.kindOf x=some .local∧m x=some u)∨((env.kindOf x=some .cell∨env.kindOf x=some .free)∧∃ c,env.cells.lookup x=some c∧h.IsCell c (some u))
structure Cx.Ok (X:Cx):Prop where
 mod:Mod X.K X.mg X.base
 kind:X.env.scope.kind=.function
 glob:X.env.globals=mainGlobals
 blt:X.env.builtins=builtinsNs
 above:X.s₀.heap.objs.size ≤ X.env.locals
 inj:∀ x y c,X.env.cells.lookup x=some c→X.env.cells.lookup y=some c→x=y
 has:∀ x,(X.env.kindOf x=some .cell∨X.env.kindOf x=some .free)→∃ c,X.env.cells.lookup x=some c
 cab:∀ x c,X.fn x=true→X.env.cells.lookup x=some c→X.s₀.heap.objs.size ≤ c
 hd:X.calm=true→X.A.handled=none
 frames:X.A.frames=some X.stack
 stk:X.stack=X.outer∨(X.stack=X.env :: X.outer∧X.env.frame=some X.env.locals)
 exf:∀ b ∈ X.ex,b ≠ X.env.locals∧∀ x c,X.env.cells.lookup x=some c→c ≠ b
 bs:∀ b o,X.base.get? b=some o→X.s₀.heap.get? b=some o∧X.H₀ b=none
 bsz:X.base.objs.size ≤ X.s₀.heap.objs.size
 noex:∀ b o,X.base.get? b=some o→b ∉ X.ex
 exfs:∀ b ∈ X.ex,b ∉ X.fs
 funs:X.s₀.heap.FunFrames X.base X.outer
 frf:∀ b ∈ X.fs,X.H₀ b=none
structure Inv (X:Cx) (pins:List (Addr × Obj)) (σ:List (Option V)) (H:Hp) (s:Shared):Prop where
 ok:X.Ok
 os:s.os=X.s₀.os
 bare:AllBare s.gens
 base:Un X.fs X.ex X.H₀ H X.s₀.heap s.heap
 loc:∃ m,s.heap.Ns X.env.locals m∧∀ (i:Nat) (x:Str) (v:V),X.N[i]? = some x→σ[i]? = some (some v)→Vis X.env.scope x→∃ u,ad v u∧RL X.env s.heap m x u
 cell:∀ x c,X.env.cells.lookup x=some c→∃ v,s.heap.IsCell c v
 free:H X.env.locals=none
 freeC:∀ x c,X.env.cells.lookup x=some c→H c=none
 pin:∀ p ∈ X.pn ++ pins,s.heap.get? p.1=some p.2∧H p.1=none∧p.1 ≠ X.env.locals∧p.1 ∉ X.fs∧∀ v,p.2.data ≠ .cell v
 hok:HOk X.prog X.w H s.heap
 len:σ.length=X.N.length
section
variable {X:Cx} {pins:List (Addr × Obj)} {σ:List (Option V)} {H H':Hp} {s:Shared} {h':Heap}
theorem Cx.Ok.nofr (ok:X.Ok) {b:Addr} {o:Obj} (e:X.base.get? b=some o):b ∉ X.fs:=fun hb=>by
 have:=(ok.funs.mem hb).1;rw [e] at this;cases this
theorem Inv.bs (I:Inv X pins σ H s):∀ b o,X.base.get? b=some o→s.heap.get? b=some o∧H b=none:=fun b o e=>
 ⟨I.base.keep b o (I.ok.bs b o e).1 (I.ok.bs b o e).2 (I.ok.nofr e) (I.ok.noex b o e),I.base.free b o (I.ok.bs b o e).1 (I.ok.bs b o e).2 (I.ok.noex b o e)⟩
theorem Inv.bk (I:Inv X pins σ H s):∀ b o,X.base.get? b=some o→s.heap.get? b=some o:=fun b o e=>(I.bs b o e).1
theorem Inv.mod (I:Inv X pins σ H s):Mod X.K X.mg X.base:=I.ok.mod
theorem Inv.kIn (I:Inv X pins σ H s):X.K.In s.heap:=I.ok.mod.kin.keeps I.bk
theorem Inv.nolimit (I:Inv X pins σ H s):s.heap.NoLimit:=I.ok.mod.nolimit.keeps I.bk
theorem Inv.fr (I:Inv X pins σ H s):∃ m,Fr X.base X.env.locals s.heap m:=
 let ⟨m,hn,_⟩:=I.loc
 ⟨m,hn,I.bk,Nat.le_trans I.ok.bsz I.ok.above⟩
theorem Inv.lt (I:Inv X pins σ H s):X.env.locals < s.heap.objs.size:=let ⟨_,hn,_⟩:=I.loc;hn.lt
theorem Inv.sz (I:Inv X pins σ H s):X.s₀.heap.objs.size ≤ s.heap.objs.size:=Nat.le_trans I.ok.above (Nat.le_of_lt I.lt)
theorem Inv.nofs (I:Inv X pins σ H s) {a:Addr} (h:s.heap.objs.size ≤ a):a ∉ X.fs:=fun hb=>by
 obtain ⟨_,o,ho,_⟩:=I.ok.funs.mem hb;exact absurd (Nat.lt_of_lt_of_le (Heap.lt_size ho) (Nat.le_trans I.sz h)) (Nat.lt_irrefl _)
theorem Inv.cne (I:Inv X pins σ H s):∀ x c,X.env.cells.lookup x=some c→c ≠ X.env.locals:=fun x c e z=>by
 obtain ⟨v,o,ho,hd⟩:=I.cell x c e;obtain ⟨m,⟨o',es,ep,ho',hd',_⟩,_⟩:=I.loc;rw [z,ho'] at ho;cases ho;rw [hd'] at hd;cases hd
theorem Inv.funs (I:Inv X pins σ H s):s.heap.FunFrames X.base X.outer:=by
 have all:∀ (l:List Env),(∀ b ∈ frs l,b ∈ X.fs)→X.s₀.heap.FunFrames X.base l→s.heap.FunFrames X.base l:=by
  intro l
  induction l with
  | nil=>intro _ _;trivial
  | cons env r ih=>
   intro hs hl;obtain ⟨hk,⟨L,o,hf,hn,ho,hd⟩,hr⟩:=hl;have hL:L ∈ X.fs:=hs L (by unfold frs;rw [List.filterMap_cons,hf];exact List.mem_cons_self);obtain ⟨sl,e⟩:=I.base.slot L o ho (I.ok.frf L hL) hL fun z=>I.ok.exfs L z hL
   exact ⟨hk,⟨L,_,hf,hn,e,hd⟩,ih (fun b hb=>hs b (by unfold frs;rw [List.filterMap_cons,hf];exact List.mem_cons_of_mem _ hb)) hr⟩
 exact all X.outer (fun _ hb=>hb) I.ok.funs
theorem Inv.stack (I:Inv X pins σ H s):s.heap.FunFrames X.base X.stack:=by
 rcases I.ok.stk with e | ⟨e,hf⟩
 ·rw [e];exact I.funs
 ·rw [e];obtain ⟨m,hn,_⟩:=I.loc;refine .cons (by rw [I.ok.kind];decide) hf hn ?_ I.funs;exact Heap.get?_none_of_le (Nat.le_trans I.ok.bsz I.ok.above)
theorem Inv.stkSub (I:Inv X pins σ H s):∀ b ∈ frs X.stack,b ∈ X.env.locals :: X.fs:=fun b hb=>by
 rcases I.ok.stk with e | ⟨e,hf⟩
 ·rw [e] at hb;exact List.mem_cons_of_mem _ hb
 ·rw [e] at hb;unfold frs at hb;rw [List.filterMap_cons,hf] at hb;exact hb
theorem Inv.stkFree (I:Inv X pins σ H s):∀ b ∈ frs X.stack,H b=none:=fun b hb=>by
 rcases List.mem_cons.mp (I.stkSub b hb) with e | hb
 ·rw [e];exact I.free
 ·obtain ⟨_,o,ho,_⟩:=I.ok.funs.mem hb;exact I.base.free b o ho (I.ok.frf b hb) fun z=>I.ok.exfs b z hb
theorem Inv.step {g':Array GenState} {t':Nat} {d':Drawn} {ch:List Addr} (I:Inv X pins σ H s)
  (hch:∀ b ∈ ch,(b ∈ X.ex∨X.s₀.heap.objs.size ≤ b)∧b ≠ X.env.locals∧(∀ x c,X.env.cells.lookup x=some c→c ≠ b)∧∀ p ∈ X.pn ++ pins,p.1 ≠ b)
  (keep:∀ b o,b ≠ X.env.locals→b ∉ X.fs→b ∉ ch→s.heap.get? b=some o→H b=none→h'.get? b=some o)
  (slot:∀ b o,b ≠ X.env.locals→b ∈ X.fs→b ∉ ch→s.heap.get? b=some o→H b=none→∃ sl,h'.get? b=some { o with slots:=sl }) (free:∀ b o,b ∉ ch→s.heap.get? b=some o→H b=none→H' b=none)
  (there:∀ b o,b ∉ ch→s.heap.get? b=some o→∃ o',h'.get? b=some o')
  (tups:∀ b xs,H b=some (.tup xs)→H' b=some (.tup xs)) (frzs:∀ b o u,H b=some (.frz o u)→H' b=some (.frz o u)) (tbls:∀ b ps,H b=some (.tbl ps)→∃ more,H' b=some (.tbl (ps ++ more)))
  (ns:∀ m,s.heap.Ns X.env.locals m→h'.Ns X.env.locals m) (hok:HOk X.prog X.w H' h') (hg:AllBare g') :
  Inv X pins σ H' { s with heap:=h',gens:=g',drawn:=d',toks:=t' }:=by
 have neL:∀ b o,X.s₀.heap.get? b=some o→b ≠ X.env.locals:=fun b o e=>Nat.ne_of_lt (Nat.lt_of_lt_of_le (Heap.lt_size e) I.ok.above)
 have neC:∀ b o,X.s₀.heap.get? b=some o→b ∉ X.ex→b ∉ ch:=fun b o e hx hb=>by
  rcases (hch b hb).1 with z | z
  ·exact hx z
  ·exact absurd (Nat.lt_of_lt_of_le (Heap.lt_size e) z) (Nat.lt_irrefl _)
 have cellK:∀ x c,X.env.cells.lookup x=some c→∀ v,s.heap.IsCell c v→h'.IsCell c v:=fun x c e v ⟨o,ho,hd⟩=>by
  have nch:c ∉ ch:=fun z=>(hch c z).2.2.1 x c e rfl
  by_cases hc:c ∈ X.fs
  ·obtain ⟨sl,q⟩:=slot c o (I.cne x c e) hc nch ho (I.freeC x c e);exact ⟨_,q,hd⟩
  ·exact ⟨o,keep c o (I.cne x c e) hc nch ho (I.freeC x c e),hd⟩
 refine ⟨I.ok,I.os,hg,⟨fun b o e n hb hx=>?_,fun b o e n hb hx=>?_,fun b o e n hx=>?_,fun b o e hx=>?_,fun b xs e=>tups b xs (I.base.tups b xs e),fun b o xs e=>frzs b o xs (I.base.frzs b o xs e),fun b ps e=>?_⟩,?_,fun x c e=>?_,?_,fun x c e=>?_,fun p hp=>?_,hok,I.len⟩
 ·exact keep b o (neL b o e) hb (neC b o e hx) (I.base.keep b o e n hb hx) (I.base.free b o e n hx)
 ·obtain ⟨sl,e1⟩:=I.base.slot b o e n hb hx;obtain ⟨sl',e2⟩:=slot b _ (neL b o e) hb (neC b o e hx) e1 (I.base.free b o e n hx);exact ⟨sl',e2⟩
 ·obtain ⟨o',e1⟩:=I.base.there b o e hx;exact free b o' (neC b o e hx) e1 (I.base.free b o e n hx)
 ·obtain ⟨o',e1⟩:=I.base.there b o e hx;exact there b o' (neC b o e hx) e1
 ·obtain ⟨m1,e1⟩:=I.base.tbls b ps e;obtain ⟨m2,e2⟩:=tbls b _ e1;exact ⟨m1 ++ m2,by rw [e2,Array.append_assoc]⟩
 ·obtain ⟨m,hn,hl⟩:=I.loc;refine ⟨m,ns m hn,fun i x v e1 e2 e3=>?_⟩;obtain ⟨u,r,l⟩:=hl i x v e1 e2 e3;refine ⟨u,r,?_⟩;rcases l with l | ⟨k,c,e,z⟩
  ·exact .inl l
  ·exact .inr ⟨k,c,e,cellK x c e _ z⟩
 ·obtain ⟨v,z⟩:=I.cell x c e;exact ⟨v,cellK x c e v z⟩
 ·obtain ⟨m,⟨o,_,_,ho,_⟩,_⟩:=I.loc;exact free _ o (fun z=>(hch _ z).2.1 rfl) ho I.free
 ·obtain ⟨v,o,ho,hd⟩:=I.cell x c e;exact free c o (fun z=>(hch c z).2.2.1 x c e rfl) ho (I.freeC x c e)
 ·obtain ⟨e,n,ne,nf,d⟩:=I.pin p hp;have nch:p.1 ∉ ch:=fun z=>(hch p.1 z).2.2.2 p hp rfl
  exact ⟨keep p.1 p.2 ne nf nch e n,free p.1 p.2 nch e n,ne,nf,d⟩
theorem Inv.un {t':Nat} (I:Inv X pins σ H s) (u:Un X.fs [] H H' s.heap h') (hok:HOk X.prog X.w H' h'):Inv X pins σ H' { s with heap:=h',toks:=t' }:=by
 obtain ⟨m,⟨o,es,ep,ho,r⟩,_⟩:=id I.loc;obtain ⟨sl,hL⟩:=u.any ho I.free (by simp);exact I.step (g':=s.gens) (d':=s.drawn) (ch:=[]) (fun _ z=>nomatch z) (fun b o _ hb _ e n=>u.keep b o e n hb (by simp)) (fun b o _ hb _ e n=>u.slot b o e n hb (by simp)) (fun b o _ e n=>u.free b o e n (by simp)) (fun b o _ e=>u.there b o e (by simp)) u.tups u.frzs u.tbls (fun m' hm=>by
  obtain ⟨o',es',ep',ho',r'⟩:=hm;rw [ho] at ho';cases ho';exact ⟨_,es',ep',hL,r'⟩) hok I.bare
theorem Inv.call {g':Array GenState} {t':Nat} {d':Drawn} {ch:List Addr} (I:Inv X pins σ H s) (u:Un (frs X.stack) ch H H' s.heap h') (hok:HOk X.prog X.w H' h') (hg:AllBare g')
  (hch:∀ b ∈ ch,(b ∈ X.ex∨X.s₀.heap.objs.size ≤ b)∧b ≠ X.env.locals∧(∀ x c,X.env.cells.lookup x=some c→c ≠ b)∧∀ p ∈ X.pn ++ pins,p.1 ≠ b) :
  Inv X pins σ H' { s with heap:=h',gens:=g',drawn:=d',toks:=t' }:=by
 obtain ⟨m,⟨o,es,ep,ho,r⟩,_⟩:=id I.loc;obtain ⟨sl,hL⟩:=u.any ho I.free fun z=>(hch _ z).2.1 rfl
 exact I.step (ch:=ch) hch (fun b o hL hb hc e n=>u.keep b o e n (fun z=>(List.mem_cons.mp (I.stkSub b z)).elim hL hb) hc) (fun b o _ _ hc e n=>u.any e n hc) (fun b o hc e n=>u.free b o e n hc) (fun b o hc e=>u.there b o e hc) u.tups u.frzs u.tbls (fun m' hm=>by
  obtain ⟨o',es',ep',ho',r'⟩:=hm;rw [ho] at ho';cases ho';exact ⟨_,es',ep',hL,r'⟩) hok hg
theorem Inv.turned {t':Nat} {it:Addr} (I:Inv X pins σ H s) (k:∀ b o,b ≠ it→s.heap.get? b=some o→h'.get? b=some o) (hn:H it=none) (hL:it ≠ X.env.locals)
  (h1:it ∈ X.ex∨X.s₀.heap.objs.size ≤ it) (h2:∀ x c,X.env.cells.lookup x=some c→c ≠ it) (h3:∀ p ∈ X.pn ++ pins,p.1 ≠ it):Inv X pins σ H { s with heap:=h',toks:=t' }:=by
 have nit:∀ b u,H b=some u→b ≠ it:=fun b u e z=>by rw [z,hn] at e;cases e
 refine I.step (g':=s.gens) (d':=s.drawn) (ch:=[it]) (fun b hb=>?_) (fun b o _ _ hc e _=>k b o (fun z=>hc (by simp [z])) e) (fun b o _ _ hc e _=>⟨o.slots,k b o (fun z=>hc (by simp [z])) e⟩) (fun _ _ _ _ n=>n)
  (fun b o hc e=>⟨o,k b o (fun z=>hc (by simp [z])) e⟩) (fun _ _ e=>e) (fun _ _ _ e=>e) (fun b ps e=>⟨#[],by rw [e];simp⟩) (fun m hm=>?_) (fun b u e=>?_) I.bare
 ·have e:b=it:=by simpa using hb
  subst e;exact ⟨h1,hL,h2,h3⟩
 ·obtain ⟨o,es,ep,ho,r⟩:=hm;exact ⟨o,es,ep,k _ o (Ne.symm hL) ho,r⟩
 ·refine (I.hok b u e).stay (fun c v hc q=>k c v ?_ q) (fun _ q=>q) fun _ _ q=>q
  rcases hc with z | z
  ·rw [z];exact nit b u e
  ·exact nit c _ z
theorem Inv.tok (I:Inv X pins σ H s) (t:Nat):Inv X pins σ H { s with toks:=t }:=I.un (h':=s.heap) (t':=t) Un.refl I.hok
theorem Inv.kept {t':Nat} (I:Inv X pins σ H s) (k:∀ b u,s.heap.get? b=some u→h'.get? b=some u):Inv X pins σ H { s with heap:=h',toks:=t' }:=I.un (Un.kept k) (I.hok.kept k)
theorem Inv.laid {a:Addr} {o:HO} {t':Nat} (I:Inv X pins σ H s) (k:∀ b u,s.heap.get? b=some u→h'.get? b=some u) (hp:s.heap.objs.size ≤ a) (new:Kd X.prog X.w (upd H a o) h' a o) :
  Inv X pins σ (upd H a o) { s with heap:=h',toks:=t' }:=I.un (Un.laid k hp (I.hok.fresh hp)) (I.hok.laid k hp new)
theorem Inv.write {x e:Addr} {o:HO} {t':Nat} (I:Inv X pins σ H s) (mu:Mut (H x)) (he:e=x∨H e=some (.own x)) (k:∀ b u,b ≠ e→s.heap.get? b=some u→h'.get? b=some u) (heo:∃ u,h'.get? e=some u)
  (new:Kd X.prog X.w (upd H x o) h' x o):Inv X pins σ (upd H x o) { s with heap:=h',toks:=t' }:=I.un (Un.write mu he k heo) (I.hok.write mu he k heo new)
theorem Inv.weak {σ':List (Option V)} (I:Inv X pins σ H s) (hl:σ'.length=σ.length) (w:∀ (i:Nat) v,σ'[i]? = some (some v)→σ[i]? = some (some v)):Inv X pins σ' H s:=
 ⟨I.ok,I.os,I.bare,I.base,let ⟨m,hn,hl'⟩:=I.loc;⟨m,hn,fun i x v e1 e2 e3=>hl' i x v e1 (w i v e2) e3⟩,I.cell,I.free,I.freeC,I.pin,I.hok,hl.trans I.len⟩
theorem Inv.pins_of {pins':List (Addr × Obj)} (I:Inv X pins σ H s) (h:∀ p ∈ pins',s.heap.get? p.1=some p.2∧H p.1=none∧p.1 ≠ X.env.locals∧p.1 ∉ X.fs∧∀ v,p.2.data ≠ .cell v):Inv X pins' σ H s:=
 ⟨I.ok,I.os,I.bare,I.base,I.loc,I.cell,I.free,I.freeC,fun p hp=>(List.mem_append.mp hp).elim (fun z=>I.pin p (List.mem_append_left _ z)) (h p),I.hok,I.len⟩
theorem Lw {N:List Str} (hN:N.Nodup) {i j:Nat} {x:Str} (a:N[i]? = some x) (b:N[j]? = some x):i=j:=by
 obtain ⟨h1,e1⟩:=List.getElem?_eq_some_iff.mp a;obtain ⟨h2,e2⟩:=List.getElem?_eq_some_iff.mp b;exact (List.getElem_inj hN).mp (e1.trans e2.symm)
theorem Dt {M:Model} {A:Around} {E:Value→Shared→Prop} {i:Nat} {x:Str} {v:V} {u:Value} {Q:Unit→Shared→Prop} (I:Inv X pins σ H s) (hN:X.N.Nodup) (hi:X.N[i]? = some x) (hx:Loc X.env.scope x) (r:ad v u)
  (h:∀ s',Inv X pins (σ.set i (some v)) H s'→(∃ a,Heap.SameBut a s.heap s'.heap∧(a=X.env.locals∨X.env.cells.lookup x=some a))→Q () s') (hf:X.fn x=true∨X.env.scope.names.lookup x=some .local:=by first | exact .inl rfl | exact .inr rfl | assumption):wpAny M A (storeName X.env x u) Q E s:=by
 obtain ⟨m,hn,hl⟩:=id I.loc;have hcls:(X.env.scope.kind == .class || (X.env.scope.kind == .module && X.env.locals != X.env.globals))=false:=by rw [I.ok.kind];rfl
 have hiσ:i < σ.length:=by rw [I.len];exact (List.getElem?_eq_some_iff.mp hi).1
 have cne:=I.cne;have tracked:∀ {a:Addr} {h':Heap},(∃ o,s.heap.get? a=some o∧H a=none)→Heap.SameBut a s.heap h'→HOk X.prog X.w H h':=fun {a h'} ha hs b ob e=>by
  obtain ⟨_,_,hfree⟩:=ha;refine (I.hok b ob e).stay (fun c w' hc q=>(hs.2 c ?_).trans q) (fun _ q=>q) fun _ _ q=>q
  rintro rfl;rcases hc with rfl | hc
  ·rw [hfree] at e;cases e
  ·rw [hfree] at hc;cases hc
 rcases hx with hk | hk
 ·refine wpAny_storeName_local hk hn (fun h' hn' hs=>?_) hcls;obtain ⟨oL,_,_,hoL,_⟩:=id hn;refine h _ ⟨I.ok,I.os,I.bare,⟨fun b o e n hb hx=>?_,fun b o e n hb hx=>?_,I.base.free,fun b o e hx=>?_,I.base.tups,I.base.frzs,I.base.tbls⟩,⟨_,hn',fun j y v' e1 e2 e3=>?_⟩,fun y c e=>?_,I.free,I.freeC,fun p hp=>?_,tracked ⟨oL,hoL,I.free⟩ hs,by simpa using I.len⟩ ⟨_,hs,.inl rfl⟩
  ·exact (hs.2 b (Nat.ne_of_lt (Nat.lt_of_lt_of_le (Heap.lt_size e) I.ok.above))).trans (I.base.keep b o e n hb hx)
  ·obtain ⟨sl,e1⟩:=I.base.slot b o e n hb hx;exact ⟨sl,(hs.2 b (Nat.ne_of_lt (Nat.lt_of_lt_of_le (Heap.lt_size e) I.ok.above))).trans e1⟩
  ·obtain ⟨o',e1⟩:=I.base.there b o e hx;exact ⟨o',(hs.2 b (Nat.ne_of_lt (Nat.lt_of_lt_of_le (Heap.lt_size e) I.ok.above))).trans e1⟩
  ·by_cases hj:j=i
   ·subst hj;rw [hi] at e1;cases e1;rw [List.getElem?_set_self hiσ] at e2;cases e2;exact ⟨u,r,.inl ⟨hk,by simp⟩⟩
   ·rw [List.getElem?_set_ne (Ne.symm hj)] at e2;obtain ⟨u',r',q⟩:=hl j y v' e1 e2 e3;refine ⟨u',r',?_⟩;rcases q with ⟨k,e⟩ | ⟨k,c,e,z⟩
    ·refine .inl ⟨k,?_⟩;have:y ≠ x:=fun e=>hj (Lw hN e1 (e ▸ hi))
     simp [this,e]
    ·exact .inr ⟨k,c,e,z.sameBut hs (cne y c e)⟩
  ·obtain ⟨w',z⟩:=I.cell y c e;exact ⟨w',z.sameBut hs (cne y c e)⟩
  ·obtain ⟨e,n,ne,nf,d⟩:=I.pin p hp;exact ⟨(hs.2 p.1 ne).trans e,n,ne,nf,d⟩
 ·have hfn:X.fn x=true:=by
   rcases hf with z | z
   ·exact z
   ·rw [z] at hk;cases hk
  obtain ⟨c,hc⟩:=I.ok.has x (.inl hk);obtain ⟨w',z⟩:=I.cell x c hc;refine wpAny_storeName_cell I.ok.kind hk hc z (fun h' hc' hs=>?_);obtain ⟨oc,hoc,hocd⟩:=id z;refine h { s with heap:=h' } ⟨I.ok,I.os,I.bare,⟨fun b o e n hb hx=>?_,fun b o e n hb hx=>?_,I.base.free,fun b o e hx=>?_,I.base.tups,I.base.frzs,I.base.tbls⟩,⟨m,hn.sameBut hs (Ne.symm (cne x c hc)),fun j y v' e1 e2 e3=>?_⟩,fun y c' e=>?_,I.free,I.freeC,fun p hp=>?_,tracked ⟨oc,hoc,I.freeC x c hc⟩ hs,by simpa using I.len⟩ ⟨c,hs,.inr hc⟩
  ·exact (hs.2 b (Nat.ne_of_lt (Nat.lt_of_lt_of_le (Heap.lt_size e) (I.ok.cab x c hfn hc)))).trans (I.base.keep b o e n hb hx)
  ·obtain ⟨sl,e1⟩:=I.base.slot b o e n hb hx;exact ⟨sl,(hs.2 b (Nat.ne_of_lt (Nat.lt_of_lt_of_le (Heap.lt_size e) (I.ok.cab x c hfn hc)))).trans e1⟩
  ·obtain ⟨o',e1⟩:=I.base.there b o e hx;exact ⟨o',(hs.2 b (Nat.ne_of_lt (Nat.lt_of_lt_of_le (Heap.lt_size e) (I.ok.cab x c hfn hc)))).trans e1⟩
  ·by_cases hj:j=i
   ·subst hj;rw [hi] at e1;cases e1;rw [List.getElem?_set_self hiσ] at e2;cases e2;exact ⟨u,r,.inr ⟨.inl hk,c,hc,hc'⟩⟩
   ·rw [List.getElem?_set_ne (Ne.symm hj)] at e2;obtain ⟨u',r',q⟩:=hl j y v' e1 e2 e3;refine ⟨u',r',?_⟩;rcases q with q | ⟨k,c',e,z'⟩
    ·exact .inl q
    ·refine .inr ⟨k,c',e,z'.sameBut hs ?_⟩;rintro rfl;exact hj (Lw hN e1 (I.ok.inj _ _ _ e hc ▸ hi))
  ·by_cases hcc:c'=c
   ·subst hcc;exact ⟨_,hc'⟩
   ·obtain ⟨w2,z2⟩:=I.cell y c' e;exact ⟨w2,z2.sameBut hs hcc⟩
  ·obtain ⟨e,n,ne,nf,d⟩:=I.pin p hp;refine ⟨(hs.2 p.1 ?_).trans e,n,ne,nf,d⟩;intro q;rw [q,hoc] at e;have q':oc=p.2:=Option.some.inj e;exact d w' (by rw [← q'];exact hocd)
theorem Zq {M:Model} {A:Around} {E:Value→Shared→Prop} {i:Nat} {x:Str} {v:V} {u:Value} {Q:Unit→Shared→Prop} (I:Inv X pins σ H s) (hN:X.N.Nodup) (hi:X.N[i]? = some x) (hx:Loc X.env.scope x) (r:ad v u)
  (h:∀ s',Inv X pins (σ.set i (some v)) H s'→Q () s') (hf:X.fn x=true∨X.env.scope.names.lookup x=some .local:=by first | exact .inl rfl | exact .inr rfl | assumption):wpAny M A (storeName X.env x u) Q E s:=
 Dt I hN hi hx r (fun s' I' _=>h s' I') hf
theorem Inv.call' {s':Shared} {ch:List Addr} (I:Inv X pins σ H s) (ho:s'.os=s.os) (u:Un (frs X.stack) ch H H' s.heap s'.heap) (hok:HOk X.prog X.w H' s'.heap) (hg:AllBare s'.gens)
  (hch:∀ b ∈ ch,(b ∈ X.ex∨X.s₀.heap.objs.size ≤ b)∧b ≠ X.env.locals∧(∀ x c,X.env.cells.lookup x=some c→c ≠ b)∧∀ p ∈ X.pn ++ pins,p.1 ≠ b):Inv X pins σ H' s':=by
 obtain ⟨h',g',d',t',o'⟩:=s';have e:o'=s.os:=ho;subst e;exact I.call (g':=g') (t':=t') (d':=d') u hok hg hch
end
noncomputable abbrev XK:=Value→Option Addr→Hp→Prop
noncomputable abbrev St:=List (Option V)
noncomputable abbrev VK:=V→Hp→Prop
noncomputable abbrev TE:=St→Hp→VK→Prop
noncomputable abbrev TT:=St→Hp→(Bool→Hp→Prop)→Prop
noncomputable abbrev TA:=St→Hp→(List V→Hp→Prop)→Prop
structure yi where
 nx:St→Hp→Prop
 rt:VK
 bk:St→Hp→Prop:=fun _ _=>False
 ct:St→Hp→Prop:=fun _ _=>False
noncomputable abbrev TS:=yi→St→Hp→Prop
noncomputable def EP (X:Cx) (pins:List (Addr × Obj)) (σ:St) (Q:VK) (u:Value) (s':Shared):Prop:=∃ v H',Inv X pins σ H' s'∧ad v u∧Q v H'
noncomputable def TP (X:Cx) (pins:List (Addr × Obj)) (σ:St) (Q:Bool→Hp→Prop) (b:Bool) (s':Shared):Prop:=∃ H',Inv X pins σ H' s'∧Q b H'
noncomputable def AP (X:Cx) (pins:List (Addr × Obj)) (σ:St) (Q:List V→Hp→Prop) (us:List Value) (s':Shared):Prop:=∃ vs H',Inv X pins σ H' s'∧Zc vs us∧Q vs H'
noncomputable def SP (X:Cx) (pins:List (Addr × Obj)) (D:yi) (f:Flow) (s':Shared):Prop:=
 match f with
 | .next=>∃ σ' H',Inv X pins σ' H' s'∧D.nx σ' H'
 | .brk=>∃ σ' H',Inv X pins σ' H' s'∧D.bk σ' H'
 | .cont=>∃ σ' H',Inv X pins σ' H' s'∧D.ct σ' H'
 | .ret u=>∃ v σ' H',Inv X pins σ' H' s'∧ad v u∧D.rt v H'
noncomputable def PE (X:Cx) (e:Expr) (t:TE):Prop:=
 ∀ (pins:List (Addr × Obj)) (s:Shared) (σ:St) (H:Hp) (Q:VK),Inv X pins σ H s→t σ H Q→wpAny (model X.prog X.w) X.A (eval e X.env) (EP X pins σ Q) X.xe s
noncomputable def PT (X:Cx) (e:Expr) (t:TT):Prop:=
 ∀ (pins:List (Addr × Obj)) (s:Shared) (σ:St) (H:Hp) (Q:Bool→Hp→Prop),Inv X pins σ H s→t σ H Q→wpAny (model X.prog X.w) X.A (isTrue e X.env (eval e X.env)) (TP X pins σ Q) X.xe s
noncomputable def PW (X:Cx) (e:Expr) (t:TT):Prop:=
 ∀ (whole:Sem Value) (pins:List (Addr × Obj)) (s:Shared) (σ:St) (H:Hp) (Q:Bool→Hp→Prop),Inv X pins σ H s→t σ H Q→wpAny (model X.prog X.w) X.A (isTrue e X.env whole) (TP X pins σ Q) X.xe s
theorem PW.pt {X:Cx} {e:Expr} {t:TT} (h:PW X e t):PT X e t:=h _
noncomputable def PA (X:Cx) (es:List Expr) (t:TA):Prop:=
 ∀ (pos:Pos) (pins:List (Addr × Obj)) (s:Shared) (σ:St) (H:Hp) (Q:List V→Hp→Prop),Inv X pins σ H s→t σ H Q→wpAny (model X.prog X.w) X.A (spliced (backTo pos (starEach es X.env))) (AP X pins σ Q) X.xe s
noncomputable def PS (X:Cx) (st:Stmt) (t:TS):Prop:=
 ∀ (pins:List (Addr × Obj)) (s:Shared) (σ:St) (H:Hp) (D:yi),Inv X pins σ H s→t D σ H→wpAny (model X.prog X.w) X.A (exec st X.env) (SP X pins D) X.xe s
noncomputable def PSs (X:Cx) (st:List Stmt) (t:TS):Prop:=
 ∀ (pins:List (Addr × Obj)) (s:Shared) (σ:St) (H:Hp) (D:yi),Inv X pins σ H s→t D σ H→wpAny (model X.prog X.w) X.A (execs st X.env) (SP X pins D) X.xe s
theorem thn {α:Type} {t:Sem α} {Q Q':α→Shared→Prop} {M:Model} {A:Around} {E:Value→Shared→Prop} {s:Shared} (h:wpAny M A t Q E s) (hQ:∀ a s,Q a s→Q' a s):wpAny M A t Q' E s:=wpAny_mono h hQ fun _ _ x=>x
end L2
namespace L2
open PySem PySem.Spec PyProof.Rows
section
variable {X:Cx}
noncomputable def uF (H:Hp) (Q:VK):Option (Option V)→Prop
 | some (some v)=>Q v H
 | _=>False
theorem Vs (H:Hp) (Q:VK) (v:V):uF H Q (some (some v))=Q v H:=rfl
theorem uF.out {H:Hp} {Q:VK}:∀ {o:Option (Option V)},uF H Q o→∃ v,o=some (some v)∧Q v H
 | some (some v),h=>⟨v,rfl,h⟩
 | some none,h=>h.elim
 | none,h=>h.elim
theorem zH (H:Hp) (Q:VK) (o:Option (Option V)):uF H Q o = ∃ v,o=some (some v)∧Q v H:=propext ⟨uF.out,fun ⟨_,e,h⟩=>e ▸ h⟩
noncomputable def zi (x:V) (k:Int→Prop):Prop:=match x with
 | .int i=>k i
 | _=>False
theorem Pw (i:Int) (k:Int→Prop):zi (.int i) k=k i:=rfl
theorem zi.out {x:V} {k:Int→Prop} (h:zi x k):∃ i,x=.int i∧k i:=by
 cases x with
 | int i=>exact ⟨i,rfl,h⟩
 | _=>exact h.elim
theorem GH (x:V) (k:Int→Prop):zi x k = ∃ i,x=.int i∧k i:=propext ⟨zi.out,fun ⟨_,e,h⟩=>e ▸ h⟩
noncomputable def BlQ (x:V) (k:Bool→Prop):Prop:=match x with
 | .bl i=>k i
 | _=>False
theorem eF (i:Bool) (k:Bool→Prop):BlQ (.bl i) k=k i:=rfl
theorem BlQ.out {x:V} {k:Bool→Prop} (h:BlQ x k):∃ i,x=.bl i∧k i:=by
 cases x with
 | bl i=>exact ⟨i,rfl,h⟩
 | _=>exact h.elim
theorem OJ (x:V) (k:Bool→Prop):BlQ x k = ∃ i,x=.bl i∧k i:=propext ⟨BlQ.out,fun ⟨_,e,h⟩=>e ▸ h⟩
noncomputable def jh (x:V) (k:Addr→Prop):Prop:=match x with
 | .ref i=>k i
 | _=>False
theorem Vw (i:Addr) (k:Addr→Prop):jh (.ref i) k=k i:=rfl
theorem jh.out {x:V} {k:Addr→Prop} (h:jh x k):∃ i,x=.ref i∧k i:=by
 cases x with
 | ref i=>exact ⟨i,rfl,h⟩
 | _=>exact h.elim
theorem ZF (x:V) (k:Addr→Prop):jh x k = ∃ i,x=.ref i∧k i:=propext ⟨jh.out,fun ⟨_,e,h⟩=>e ▸ h⟩
noncomputable def Rx (xs:List V) (k:V→Prop):Prop:=match xs with
 | [y]=>k y
 | _=>False
theorem Ew (y:V) (k:V→Prop):Rx [y] k=k y:=rfl
theorem Rx.out:∀ {xs:List V} {k:V→Prop},Rx xs k→∃ y,xs=[y]∧k y
 | [y],_,h=>⟨y,rfl,h⟩
 | [],_,h=>h.elim
 | _ :: _ :: _,_,h=>h.elim
theorem mH (xs:List V) (k:V→Prop):Rx xs k = ∃ y,xs=[y]∧k y:=propext ⟨Rx.out,fun ⟨_,e,h⟩=>e ▸ h⟩
noncomputable def lK (i:Nat):TE:=fun σ H Q=>uF H Q σ[i]?
noncomputable def tC (v:V):TE:=fun _ H Q=>Q v H
theorem OI {i:Nat} {x:Str} {pos:Pos} (hN:X.N[i]? = some x) (hv:Vis X.env.scope x) (hd:(x == ("__debug__" : Str))=false:=by decide) (hcd:(x == ("__classdict__" : Str))=false:=by decide):PE X (.Name x pos) (lK i):=by
 intro pins s σ H Q I h;obtain ⟨v,e,h⟩:=uF.out h;obtain ⟨m,hn,hl⟩:=I.loc;obtain ⟨u,r,l⟩:=hl i x v hN e hv;have fin:EP X pins σ Q u s:=⟨v,H,I,r,h⟩;rcases l with ⟨hk,hm⟩ | ⟨hk,c,hc,hcell⟩
 ·exact wpAny_Name (wpAny_loadName_local I.ok.kind hk hn hm fin) hd
 ·rcases hk with hk | hk
  ·exact wpAny_Name (wpAny_loadName_cell I.ok.kind hk hc hcell fin) hd
  ·exact wpAny_Name (wpAny_loadName_free I.ok.kind hk hc hcell fin hcd) hd
theorem lb {i j pos}:PE X (.Constant (.int i) j pos) (tC (.int i)):=fun _ _ _ H _ I h=>wpAny_Constant_int ⟨.int i,H,I.tok _,⟨_,rfl⟩,h⟩
theorem Fp {b j pos}:PE X (.Constant (.bool b) j pos) (tC (.bl b)):=fun _ _ _ H _ I h=>Constant_bool ⟨.bl b,H,I,rfl,h⟩
theorem Sg {j pos}:PE X (.Constant .none j pos) (tC .non):=fun _ _ _ H _ I h=>Constant_none ⟨.non,H,I,rfl,h⟩
theorem ud {x j pos}:PE X (.Constant (.str x) j pos) (tC (.str x)):=fun _ _ _ H _ I h=>Calls.Constant_str ⟨.str x,H,I.tok _,⟨_,rfl⟩,h⟩
noncomputable def Gl (X:Cx) (x:Str):Prop:=X.env.kindOf x=some .globalImplicit
theorem Ar {E:Value→Shared→Prop} {pins:List (Addr × Obj)} {s:Shared} {σ:St} {H:Hp} {x:Str} {u:Value} {pos:Pos} {Q:Value→Shared→Prop} (I:Inv X pins σ H s) (hg:Gl X x) (hm:X.mg x=some u) (h:Q u s)
  (hd:(x == ("__debug__" : Str))=false:=by decide):wpAny (model X.prog X.w) X.A (eval (.Name x pos) X.env) Q E s:=
 Calls.Name_function_global I.ok.kind hg (Calls.loadGlobal_global (by rw [I.ok.glob];exact I.mod.glob.keeps I.bk) hm h) hd
theorem Am {E:Value→Shared→Prop} {pins:List (Addr × Obj)} {s:Shared} {σ:St} {H:Hp} {x:Str} {u:Value} {pos:Pos} {Q:Value→Shared→Prop} (I:Inv X pins σ H s) (hg:Gl X x) (hm:X.mg x=none) (hv:bootBuiltins x=some u) (h:Q u s)
  (hn:x ≠ "__name__" := by decide) (hd:(x == ("__debug__" : Str))=false:=by decide):wpAny (model X.prog X.w) X.A (eval (.Name x pos) X.env) Q E s:=by
 obtain ⟨mb,h1,h2⟩:=I.mod.blt;exact Calls.Name_function_global I.ok.kind hg (Calls.loadGlobal_builtin (by rw [I.ok.glob];exact I.mod.glob.keeps I.bk) hm (by rw [I.ok.blt];exact h1.keeps I.bk) ((h2 x hn).trans hv) h) hd
theorem Vg {x:Str} {v:V} {u:Value} {pos:Pos} (hg:Gl X x) (hm:X.mg x=some u) (r:ad v u) (hd:(x == ("__debug__" : Str))=false:=by decide):PE X (.Name x pos) (tC v):=
 fun _ _ _ H _ I h=>Ar I hg hm ⟨v,H,I,r,h⟩ hd
variable {a b:Expr} {ta tb:TE} {pos:Pos}
noncomputable def PC (X:Cx) (op:CmpOp) (a b:Expr) (t:TE):Prop:=
 ∀ (pins:List (Addr × Obj)) (s:Shared) (σ:St) (H:Hp) (Q:VK),Inv X pins σ H s→t σ H Q →
  wpAny (model X.prog X.w) X.A (eval a X.env) (fun v s₁=>wpAny (model X.prog X.w) X.A (eval b X.env) (fun u s₂=>wpAny (model X.prog X.w) X.A (compareOp op v u) (EP X pins σ Q) X.xe s₂) X.xe s₁) X.xe s
theorem Gv (b:Expr) {op:CmpOp} (h:op ≠ .In) (h2:op ≠ .NotIn):behindInMarks op b=false:=by
 have e1:(op == CmpOp.In)=false:=by cases op <;> first | rfl | exact absurd rfl h
 have e2:(op == CmpOp.NotIn)=false:=by cases op <;> first | rfl | exact absurd rfl h2
 cases b <;> simp [behindInMarks,e1,e2]
noncomputable def tB (t:TE):TT:=fun σ H Q=>t σ H fun x H1=>BlQ x fun c=>Q c H1
theorem zF {op:CmpOp} {t:TE} (h:PC X op a b t) (h1:behindInMarks op b=false:=by first | exact Gv _ (by decide) (by decide) | rfl):PE X (.Compare a [op] [b] pos) t:=fun pins s σ H Q I hw=>wpAny_Compare1 (h pins s σ H Q I hw) h1
theorem qt {op:CmpOp} {t:TE} (h:PC X op a b t) (h1:behindInMarks op b=false:=by first | exact Gv _ (by decide) (by decide) | rfl):PT X (.Compare a [op] [b] pos) (tB t):=by
 intro pins s σ H Q I hw;refine wpAny_isTrue_Compare1 (thn (h pins s σ H _ I hw) fun v s1 h1=>thn h1 fun u s2 h2=>thn h2 fun c s3 hZ1=>?_) h1;obtain ⟨x,H1,I1,r1,q1⟩:=hZ1;obtain ⟨d,rfl,q⟩:=BlQ.out q1;cases r1;exact wpAny_truthy_bool ⟨H1,I1,q⟩
theorem Bm {e:Expr} {t:TE} (h:PE X e t) (he:∀ whole,isTrue e X.env whole=(do let v ← whole;standAt e.pos;holding [v] (truthy v)):=by intro _;rfl):PT X e (tB t):=by
 intro pins s σ H Q I hw;refine isTrue_plain (thn (h pins s σ H _ I hw) fun v s1 hZ1=>?_) (he _);obtain ⟨x,H1,I1,r1,q1⟩:=hZ1;obtain ⟨d,rfl,q⟩:=BlQ.out q1;cases r1;exact wpAny_truthy_bool ⟨H1,I1,q⟩
variable {tA tB':TT} {xu:List Expr}
noncomputable def uL (t u:TT):TT:=fun σ H Q=>t σ H fun c H1=>if c=true then u σ H1 Q else Q false H1
noncomputable def tOr (t u:TT):TT:=fun σ H Q=>t σ H fun c H1=>if c=true then Q true H1 else u σ H1 Q
noncomputable def pL (t:TT):TT:=fun σ H Q=>t σ H fun c H1=>Q (!c) H1
theorem OB (ha:PT X a tA):PW X (.BoolOp .And [a] pos) tA:=by
 intro wh pins s σ H Q I h;refine isTrue_and (thn (ha pins s σ H Q I h) fun c s1 e=>?_);cases c with
 | true=>exact isTrue_and_nil e
 | false=>exact e
theorem Ow (ha:PT X a tA):PW X (.BoolOp .Or [a] pos) tA:=by
 intro wh pins s σ H Q I h;refine isTrue_or (thn (ha pins s σ H Q I h) fun c s1 e=>?_);cases c with
 | false=>exact isTrue_or_nil e
 | true=>exact e
theorem HF (ha:PT X a tA) (hb:PW X (.BoolOp .And (b :: xu) pos) tB'):PW X (.BoolOp .And (a :: b :: xu) pos) (uL tA tB'):=by
 intro wh pins s σ H Q I h;refine isTrue_and (thn (ha pins s σ H _ I h) fun c s1 hZ1=>?_);obtain ⟨H1,I1,q1⟩:=hZ1;cases c with
 | true=>exact hb wh pins s1 σ H1 Q I1 q1
 | false=>exact ⟨H1,I1,q1⟩
theorem ND (ha:PT X a tA) (hb:PW X (.BoolOp .Or (b :: xu) pos) tB'):PW X (.BoolOp .Or (a :: b :: xu) pos) (tOr tA tB'):=by
 intro wh pins s σ H Q I h;refine isTrue_or (thn (ha pins s σ H _ I h) fun c s1 hZ1=>?_);obtain ⟨H1,I1,q1⟩:=hZ1;cases c with
 | true=>exact ⟨H1,I1,q1⟩
 | false=>exact hb wh pins s1 σ H1 Q I1 q1
theorem Aq (ha:PT X a tA):PT X (.UnaryOp .Not a pos) (pL tA):=by
 intro pins s σ H Q I h;exact isTrue_not (ha pins s σ H (fun c H1=>Q (!c) H1) I h)
noncomputable def qJ (ta tb:TE):TE:=fun σ H Q=>ta σ H fun x H1=>BlQ x fun c=>if c=true then tb σ H1 Q else Q (.bl false) H1
noncomputable def jL (ta tb:TE):TE:=fun σ H Q=>ta σ H fun x H1=>BlQ x fun c=>if c=true then Q (.bl true) H1 else tb σ H1 Q
theorem Dq {op} {t:TE} (h:PE X a t):PE X (.BoolOp op [a] pos) t:=fun pins s σ H Q I hw=>BoolOp_one (h pins s σ H Q I hw)
theorem SF (ha:PE X a ta) (hb:PE X (.BoolOp .And (b :: xu) pos) tb):PE X (.BoolOp .And (a :: b :: xu) pos) (qJ ta tb):=by
 intro pins s σ H Q I h;refine BoolOp_and (thn (ha pins s σ H _ I h) fun v s1 hZ1=>?_);obtain ⟨x,H1,I1,r1,q1⟩:=hZ1;obtain ⟨c,rfl,zq⟩:=BlQ.out q1;cases r1;refine wpAny_truthy_bool ?_;cases c with
 | true=>exact hb pins s1 σ H1 Q I1 zq
 | false=>exact ⟨.bl false,H1,I1,rfl,zq⟩
theorem FE (ha:PE X a ta) (hb:PE X (.BoolOp .Or (b :: xu) pos) tb):PE X (.BoolOp .Or (a :: b :: xu) pos) (jL ta tb):=by
 intro pins s σ H Q I h;refine BoolOp_or (thn (ha pins s σ H _ I h) fun v s1 hZ1=>?_);obtain ⟨x,H1,I1,r1,q1⟩:=hZ1;obtain ⟨c,rfl,zq⟩:=BlQ.out q1;cases r1;refine wpAny_truthy_bool ?_;cases c with
 | false=>exact hb pins s1 σ H1 Q I1 zq
 | true=>exact ⟨.bl true,H1,I1,rfl,zq⟩
noncomputable def tIf (t:TT) (ta tb:TE):TE:=fun σ H Q=>t σ H fun c H1=>if c=true then ta σ H1 Q else tb σ H1 Q
theorem Yq {c:Expr} (hc:PT X c tA) (ha:PE X a ta) (hb:PE X b tb):PE X (.IfExp c a b pos) (tIf tA ta tb):=by
 intro pins s σ H Q I h;refine wpAny_IfExp (thn (hc pins s σ H _ I h) fun d s1 hZ1=>?_);obtain ⟨H1,I1,q1⟩:=hZ1;cases d with
 | true=>exact ha pins s1 σ H1 Q I1 q1
 | false=>exact hb pins s1 σ H1 Q I1 q1
end
end L2
namespace L2
open PySem PySem.Spec PyProof.Rows
noncomputable def SqL (K:PySem.W.Frag) (H:Hp) (a:Addr) (xs:List V):Prop:=
 Rd H a (.lst xs) ∨
  ∃ (o:Obj) (its:Array Value) (n:Nat),K.lookup a=some o∧o.cls=.type "list" ∧ o.dict=none∧o.data=.seq its n∧its.size ≤ sizeLine∧Zc xs its.toList
noncomputable def SqT (K:PySem.W.Frag) (H:Hp) (a:Addr) (xs:List V):Prop:=
 Rd H a (.tup xs) ∨
  ∃ (o:Obj) (its:Array Value) (n:Nat),K.lookup a=some o∧o.cls=.type "tuple" ∧ o.data=.seq its n∧its.size ≤ sizeLine∧Zc xs its.toList
noncomputable def KL:Value→Option V
 | .none=>some .non
 | .bool b=>some (.bl b)
 | .int i _=>some (.int i)
 | .str x _=>some (.str x)
 | .bytes b _=>some (.byt b)
 | .float b _=>some (.flt b)
 | .ref a=>some (.ref a)
 | .type n=>some (.ty n)
 | _=>none
theorem ad.abs {x:V} {u:Value} (r:ad x u):KL u=some x:=by
 cases x with
 | non=>cases r;rfl
 | bl _=>cases r;rfl
 | int _=>obtain ⟨t,rfl⟩:=r;rfl
 | str _=>obtain ⟨t,rfl⟩:=r;rfl
 | byt _=>obtain ⟨t,rfl⟩:=r;rfl
 | flt _=>obtain ⟨t,rfl⟩:=r;rfl
 | ref _=>cases r;rfl
 | ty _=>cases r;rfl
theorem ad.inj {x y:V} {u:Value} (r:ad x u) (q:ad y u):x=y:=Option.some.inj (r.abs.symm.trans q.abs)
theorem Zc.inj:∀ {xs ys:List V} {us:List Value},Zc xs us→Zc ys us→xs=ys
 | _,_,_,.nil,.nil=>rfl
 | _,_,_,.cons r t,.cons r' t'=>by rw [r.inj r',Zc.inj t t']
section
variable {X:Cx} {pins:List (Addr × Obj)} {σ:St} {H:Hp} {s:Shared} {a:Addr} {xs ys:List V}
theorem SqL.of {K:PySem.W.Frag} (h:H a=some (.lst xs)):SqL K H a xs:=.inl (.inl h)
theorem SqT.of {K:PySem.W.Frag} (h:H a=some (.tup xs)):SqT K H a xs:=.inl (.inl h)
theorem Inv.list (I:Inv X pins σ H s) (h:SqL X.K H a xs):∃ its:List Value,Zc xs its∧PlainL s.heap a its.toArray∧xs.length ≤ sizeLine:=by
 rcases h with h | ⟨o,its,n,hk,hc,hd,hs,hz,r⟩
 ·obtain ⟨z,its,n,r,e⟩:=h.ok I.hok;exact ⟨its,r,⟨_,n,e,rfl,rfl,rfl⟩,z⟩
 ·refine ⟨its.toList,r,⟨o,n,I.kIn a o hk,hc,hd,by simpa using hs⟩,?_⟩;have e:=r.length;simp only [Array.length_toList] at e;omega
theorem Inv.tuple (I:Inv X pins σ H s) (h:SqT X.K H a xs):∃ its:List Value,Zc xs its∧IsTup s.heap a its.toArray∧xs.length ≤ sizeLine:=by
 rcases h with h | ⟨o,its,n,hk,hc,hs,hz,r⟩
 ·obtain ⟨z,its,r,p⟩:=h.ok I.hok;exact ⟨its,r,p,z⟩
 ·refine ⟨its.toList,r,⟨o,I.kIn a o hk,hc,n,by simpa using hs⟩,?_⟩;have e:=r.length;simp only [Array.length_toList] at e;omega
theorem Inv.list_inj (I:Inv X pins σ H s) (h:SqL X.K H a xs) (h':SqL X.K H a ys):xs=ys:=by
 obtain ⟨its,r,⟨o,n,e,_,_,d⟩,_⟩:=I.list h;obtain ⟨its',r',⟨o',n',e',_,_,d'⟩,_⟩:=I.list h';rw [e] at e';cases e';rw [d] at d';injection d' with d1 _;have:its=its':=by simpa using congrArg Array.toList d1
 subst this;exact r.inj r'
theorem Inv.tuple_inj (I:Inv X pins σ H s) (h:SqT X.K H a xs) (h':SqT X.K H a ys):xs=ys:=by
 obtain ⟨its,r,⟨o,e,_,n,d⟩,_⟩:=I.tuple h;obtain ⟨its',r',⟨o',e',_,n',d'⟩,_⟩:=I.tuple h';rw [e] at e';cases e';rw [d] at d';injection d' with d1 _;have:its=its':=by simpa using congrArg Array.toList d1
 subst this;exact r.inj r'
end
noncomputable abbrev Cx.wish (X:Cx) (E:Value→Shared→Prop):Cx:={ X with xe:=E }
noncomputable abbrev Cx.nox (X:Cx):Cx:=X.wish fun _ _=>False
theorem Cx.Ok.wish {X:Cx} (ok:X.Ok) (E:Value→Shared→Prop):(X.wish E).Ok:=
 ⟨ok.mod,ok.kind,ok.glob,ok.blt,ok.above,ok.inj,ok.has,ok.cab,ok.hd,ok.frames,ok.stk,ok.exf,ok.bs,ok.bsz,ok.noex,ok.exfs,ok.funs,ok.frf⟩
theorem Cx.Ok.unwish {X:Cx} {E:Value→Shared→Prop} (ok:(X.wish E).Ok):X.Ok:=
 ⟨ok.mod,ok.kind,ok.glob,ok.blt,ok.above,ok.inj,ok.has,ok.cab,ok.hd,ok.frames,ok.stk,ok.exf,ok.bs,ok.bsz,ok.noex,ok.exfs,ok.funs,ok.frf⟩
section
variable {X:Cx} {pins:List (Addr × Obj)} {σ:St} {H:Hp} {s:Shared} {E:Value→Shared→Prop}
theorem Inv.wish (I:Inv X pins σ H s) (E:Value→Shared→Prop):Inv (X.wish E) pins σ H s:=⟨I.ok.wish E,I.os,I.bare,I.base,I.loc,I.cell,I.free,I.freeC,I.pin,I.hok,I.len⟩
theorem Inv.unwish (I:Inv (X.wish E) pins σ H s):Inv X pins σ H s:=⟨I.ok.unwish,I.os,I.bare,I.base,I.loc,I.cell,I.free,I.freeC,I.pin,I.hok,I.len⟩
theorem SP.unwish {D:yi} {f:Flow} {s':Shared} (h:SP (X.wish E) pins D f s'):SP X pins D f s':=by
 cases f with
 | next=>obtain ⟨σ',H',I,q⟩:=h;exact ⟨σ',H',I.unwish,q⟩
 | brk=>obtain ⟨σ',H',I,q⟩:=h;exact ⟨σ',H',I.unwish,q⟩
 | cont=>obtain ⟨σ',H',I,q⟩:=h;exact ⟨σ',H',I.unwish,q⟩
 | ret u=>obtain ⟨v,σ',H',I,r,q⟩:=h;exact ⟨v,σ',H',I.unwish,r,q⟩
theorem PE.nox {e:Expr} {t:TE} (h:PE X.nox e t):PE X e t:=fun pins s σ H Q I hw=>
 wpAny_mono (h pins s σ H Q (I.wish _) hw) (fun _ _ ⟨v,H',I',r,q⟩=>⟨v,H',I'.unwish,r,q⟩) fun _ _ z=>False.elim z
theorem PT.nox {e:Expr} {t:TT} (h:PT X.nox e t):PT X e t:=fun pins s σ H Q I hw=>
 wpAny_mono (h pins s σ H Q (I.wish _) hw) (fun _ _ ⟨H',I',q⟩=>⟨H',I'.unwish,q⟩) fun _ _ z=>False.elim z
theorem PSs.nox {st:List Stmt} {t:TS} (h:PSs X.nox st t):PSs X st t:=fun pins s σ H D I hw=>
 wpAny_mono (h pins s σ H D (I.wish _) hw) (fun _ _ q=>q.unwish) fun _ _ z=>False.elim z
end
section
variable {X:Cx} {st:Stmt} {xu:List Stmt} {t u:TS} {e:Expr} {te:TE} {pos:Pos}
noncomputable def VI:TS:=fun D σ H=>D.nx σ H
noncomputable def hz0:Nat:=0
noncomputable def hz1:Nat:=hz0
noncomputable def hz2:Nat:=hz1
noncomputable def hz3:Nat:=hz2
noncomputable def hz4:Nat:=hz3
noncomputable def hz5:Nat:=hz4
noncomputable def hz6:Nat:=hz5
noncomputable def hz7:Nat:=hz6
noncomputable def hz8:Nat:=hz7
noncomputable def hz9:Nat:=hz8
noncomputable def VL:Nat:=hz9
noncomputable def JL:Nat:=VL
noncomputable def WL:Nat:=JL
noncomputable def CL (t u:TS):TS:=fun D σ H=>(fun _:Nat=>t { D with nx:=u D } σ H) WL
theorem Yb:PSs X [] VI:=fun _ _ σ H _ I h=>wpAny_execs_nil ⟨σ,H,I,h⟩
theorem cb (h1:PS X st t) (h2:PSs X xu u):PSs X (st :: xu) (CL t u):=by
 intro pins s σ H D I h;refine wpAny_execs_cons (thn (h1 pins s σ H { D with nx:=u D } I h) fun f s1 q=>?_);cases f with
 | next=>
  obtain ⟨σ',H',I',q⟩:=q;exact h2 pins s1 σ' H' D I' q
 | ret v=>exact q
 | brk=>exact q
 | cont=>exact q
theorem ib (h1:PS X st t):PSs X [st] t:=by
 intro pins s σ H D I h;refine wpAny_execs_cons (thn (h1 pins s σ H D I h) fun f s1 q=>?_);cases f with
 | next=>exact wpAny_execs_nil q
 | ret v=>exact q
 | brk=>exact q
 | cont=>exact q
theorem Inv.quiet {pins:List (Addr × Obj)} {σ:St} {H:Hp} {s:Shared} (I:Inv X pins σ H s):interactive X.env=false:=by simp [interactive,I.ok.kind]
noncomputable def RH (te:TE):TS:=fun D σ H=>te σ H fun _ H1=>D.nx σ H1
theorem De (he:PE X e te) (hs:swapsWith e none pos.line X.env=pure false:=by rfl):PS X (.Expr e pos) (RH te):=by
 intro pins s σ H D I h;exact wpAny_Expr_any (thn (he pins s σ H _ I h) fun v s1 ⟨x,H1,I1,r1,q1⟩=>⟨σ,H1,I1,q1⟩) I.quiet hs
noncomputable def wK (te:TE):TS:=fun D σ H=>te σ H D.rt
theorem Fb (he:PE X e te):PS X (.Return (some e) pos) (wK te):=by
 intro pins s σ H D I h;exact wpAny_Return_some (thn (he pins s σ H _ I h) fun v s1 ⟨x,H1,I1,r1,q1⟩=>⟨x,σ,H1,I1,r1,q1⟩)
noncomputable def sK (c:TT) (t u:TS):TS:=fun D σ H=>c σ H fun b H1=>if b=true then t D σ H1 else u D σ H1
theorem Ee {c:Expr} {a b:List Stmt} {tc:TT} (hc:PT X c tc) (ha:PSs X a t) (hb:PSs X b u):PS X (.If c a b pos) (sK tc t u):=by
 intro pins s σ H D I h;refine wpAny_If (thn (hc pins s σ H _ I h) fun d s1 hZ1=>?_);obtain ⟨H1,I1,q1⟩:=hZ1;cases d with
 | true=>exact ha pins s1 σ H1 D I1 q1
 | false=>exact hb pins s1 σ H1 D I1 q1
noncomputable def SE:TS:=fun _ _ _=>False
theorem Cj:PS X st SE:=fun _ _ _ _ _ _ h=>h.elim
end
noncomputable abbrev TG:=V→St→Hp→(St→Hp→Prop)→Prop
noncomputable abbrev TGs:=List V→St→Hp→(St→Hp→Prop)→Prop
noncomputable def PG (X:Cx) (target:Expr) (t:TG):Prop:=
 ∀ (pins:List (Addr × Obj)) (s:Shared) (σ:St) (H:Hp) (v:V) (u:Value) (Q:St→Hp→Prop),Inv X pins σ H s→ad v u→t v σ H Q →
  wpAny (model X.prog X.w) X.A (assign target X.env u) (fun _ s'=>∃ σ' H',Inv X pins σ' H' s'∧Q σ' H') X.xe s
noncomputable def PGs (X:Cx) (ts:List Expr) (t:TGs):Prop:=
 ∀ (pins:List (Addr × Obj)) (s:Shared) (σ:St) (H:Hp) (vs:List V) (us:List Value) (Q:St→Hp→Prop),Inv X pins σ H s→Zc vs us→t vs σ H Q →
  wpAny (model X.prog X.w) X.A (assignInOrder ((assignEach ts X.env).map (·.2)) us) (fun _ s'=>∃ σ' H',Inv X pins σ' H' s'∧Q σ' H') X.xe s
noncomputable abbrev XJ:=V→V→V→Hp→(Hp→Prop)→Prop
noncomputable def BL (X:Cx) (t:XJ):Prop:=
 ∀ (pins:List (Addr × Obj)) (s:Shared) (σ:St) (H:Hp) (o i v:V) (ov iv u:Value) (Q:Hp→Prop),Inv X pins σ H s→ad o ov→ad i iv→ad v u→t o i v H Q →
  wpAny (model X.prog X.w) X.A (setItem ov iv u) (fun _ s'=>∃ H',Inv X pins σ H' s'∧Q H') X.xe s
noncomputable abbrev TIp:=V→V→Hp→VK→Prop
noncomputable def PIp (X:Cx) (op:Operator) (t:TIp):Prop:=
 ∀ (pins:List (Addr × Obj)) (s:Shared) (σ:St) (H:Hp) (x y:V) (v u:Value) (Q:VK),Inv X pins σ H s→ad x v→ad y u→t x y H Q →
  wpAny (model X.prog X.w) X.A (inplaceOp op v u) (EP X pins σ Q) X.xe s
section
variable {X:Cx} {pos:Pos}
noncomputable def Xo (i:Nat):TG:=fun v σ H Q=>Q (σ.set i (some v)) H
theorem Du {i:Nat} {x:Str} (hN:X.N.Nodup) (hi:X.N[i]? = some x) (hx:Loc X.env.scope x) (hf:X.fn x=true∨X.env.scope.names.lookup x=some .local:=by first | exact .inl rfl | exact .inr rfl | assumption):PG X (.Name x pos) (Xo i):=by
 intro pins s σ H v u Q I r h;exact wpAny_assign_Name (Zq I hN hi hx r (fun s' I'=>⟨_,H,I',h⟩) hf)
noncomputable def SJ:TGs:=fun vs σ H Q=>vs=[]∧Q σ H
noncomputable def Tx (t:TG) (u:TGs):TGs:=fun vs σ H Q=>∃ v r,vs=v :: r∧t v σ H fun σ' H'=>u r σ' H' Q
theorem Me:PGs X [] SJ:=by
 intro pins s σ H vs us Q I r h;obtain ⟨e,h⟩:=h;subst e;cases r;exact assignInOrder_nil ⟨σ,H,I,h⟩
theorem Ob {e:Expr} {es:List Expr} {t:TG} {u:TGs} (h1:PG X e t) (h2:PGs X es u)
  (hs:(assignEach (e :: es) X.env).map (·.2)=assign e X.env :: (assignEach es X.env).map (·.2):=by rfl):PGs X (e :: es) (Tx t u):=by
 intro pins s σ H vs us Q I r h;obtain ⟨v,vr,e1,h⟩:=h;subst e1;cases r with
 | cons r rr=>
  rw [hs];refine assignInOrder_cons (thn (h1 pins s σ H _ _ _ I r h) fun _ s1 hZ1=>?_);obtain ⟨σ1,H1,I1,q1⟩:=hZ1;exact h2 pins s1 σ1 H1 _ _ Q I1 rr q1
noncomputable def eJ (K:PySem.W.Frag) (n:Nat) (t:TGs):TG:=fun v σ H Q=>∃ a xs,v=.ref a∧SqT K H a xs∧xs.length=n∧t xs σ H Q
theorem gI {es:List Expr} {k:Nat} {t:TGs} {n:Nat} (hc:X.calm=true) (h:PGs X es t)
  (hn:(assignEach es X.env).length=n:=by rfl) (hst:(assignEach es X.env).findIdx? (·.1)=none:=by rfl):PG X (.Tuple es k pos) (eJ X.K n t):=by
 intro pins s σ H v u Q I r hw;obtain ⟨a,xs,e1,hq,hl,hw⟩:=hw;subst e1;cases r;obtain ⟨its,rv,ht,hz⟩:=I.tuple hq;refine assign_Tuple_tuple (I.ok.hd hc) ht (by simp [hn,← hl,rv.length]) hst fun h' hx=>?_
 have I1:Inv X pins σ H { s with heap:=h' }:=I.kept (t':=s.toks) fun b o e=>hx b o (Nat.ne_of_lt (Heap.lt_size e)) e
 exact h pins _ σ H xs _ Q I1 (by simpa using rv) hw
noncomputable def wL (to ti:TE) (t:XJ):TG:=fun v σ H Q=>to σ H fun o H1=>ti σ H1 fun i H2=>t o i v H2 fun H3=>Q σ H3
theorem mI {o i:Expr} {to ti:TE} {t:XJ} (ho:PE X o to) (hi:PE X i ti) (hs:BL X t)
  (ha:∀ v,assign (.Subscript o i pos) X.env v=(do
   let ov ← holding [v] (eval o X.env)
   let iv ← holding [v,ov] (eval i X.env)
   standAt pos
   holding [v,ov,iv] (setItem ov iv v)
   release [v,ov,iv] []):=by intro _;rfl):PG X (.Subscript o i pos) (wL to ti t):=by
 intro pins s σ H v u Q I r h;rw [ha];refine wpAny_bind (wpAny_holding (thn (ho pins s σ H _ I h) fun ov s1 hZ1=>?_));obtain ⟨x,H1,I1,r1,q1⟩:=hZ1;refine wpAny_bind (wpAny_holding (thn (hi pins s1 σ H1 _ I1 q1) fun iv s2 hZ1=>?_));obtain ⟨y,H2,I2,r2,q2⟩:=hZ1;refine wpAny_bind (wpAny_standAt (wpAny_bind (wpAny_holding (thn (hs pins s2 σ H2 x y v ov iv u _ I2 r1 r2 r q2) fun _ s3 hZ1=>?_))));obtain ⟨H3,I3,q3⟩:=hZ1;exact wpAny_release ⟨σ,H3,I3,q3⟩
noncomputable def MH (te:TE) (g:TG):TS:=fun D σ H=>te σ H fun x H1=>g x σ H1 D.nx
theorem Et {tg e:Expr} {te:TE} {g:TG} (he:PE X e te) (hg:PG X tg g) (hs:swapsWithSole [tg] e pos.line X.env=pure false:=by rfl) (hw:swappedStores [tg] e X.env=pure none:=by rfl)
  (h1:(assignEach [tg] X.env).map (·.2)=[assign tg X.env]:=by rfl):PS X (.Assign [tg] e pos) (MH te g):=by
 intro pins s σ H D I h;refine wpAny_Assign_stores (thn (he pins s σ H _ I h) fun v s1 hZ1=>?_) hs hw;obtain ⟨x,H1,I1,r1,q1⟩:=hZ1;rw [h1];exact thn (hg pins s1 σ H1 x v _ I1 r1 q1) fun _ s2 q=>q
theorem En {i:Nat} {x:Str} {e:Expr} {te:TE} {pos':Pos} (hN:X.N.Nodup) (hi:X.N[i]? = some x) (hx:Loc X.env.scope x) (he:PE X e te) (hs:swapsWith e (some (.Name x pos')) pos.line X.env=pure false:=by rfl) (hf:X.fn x=true∨X.env.scope.names.lookup x=some .local:=by first | exact .inl rfl | exact .inr rfl | assumption) :
  PS X (.Assign [.Name x pos'] e pos) (MH te (Xo i)):=by
 intro pins s σ H D I h;refine wpAny_Assign_Name (thn (he pins s σ H _ I h) fun v s1 hZ1=>?_) hs;obtain ⟨y,H1,I1,r1,q1⟩:=hZ1;exact Zq I1 hN hi hx r1 (fun s2 I2=>⟨_,H1,I2,q1⟩) hf
noncomputable def lL (i:Nat) (te:TE) (ti:TIp):TS:=fun D σ H=>∃ x,σ[i]? = some (some x)∧te σ H fun y H1=>ti x y H1 fun z H2=>D.nx (σ.set i (some z)) H2
theorem NE {i:Nat} {x:Str} {e:Expr} {te:TE} {op:Operator} {ti:TIp} {pos':Pos} (hN:X.N.Nodup) (hi:X.N[i]? = some x) (hx:Loc X.env.scope x) (he:PE X e te) (ho:PIp X op ti) (hf:X.fn x=true∨X.env.scope.names.lookup x=some .local:=by first | exact .inl rfl | exact .inr rfl | assumption) :
  PS X (.AugAssign (.Name x pos') op e pos) (lL i te ti):=by
 intro pins s σ H D I h;obtain ⟨v,e1,h⟩:=h;obtain ⟨m,hn,hl⟩:=I.loc;have vis:Vis X.env.scope x:=by rcases hx with k | k;exact .inl k;exact .inr (.inl k)
 obtain ⟨u,r,l⟩:=hl i x v hi e1 vis;refine wpAny_AugAssign_Name ?_;have go:wpAny (model X.prog X.w) X.A (eval e X.env) (fun w s₂=>wpAny (model X.prog X.w) X.A (inplaceOp op u w) (fun r s₃=>wpAny (model X.prog X.w) X.A (storeName X.env x r) (fun _=>SP X pins D .next) X.xe s₃) X.xe s₂) X.xe s:=by
  refine thn (he pins s σ H _ I h) fun w s1 hZ1=>?_
  obtain ⟨y,H1,I1,r1,q1⟩:=hZ1;refine thn (ho pins s1 σ H1 v y u w _ I1 r r1 q1) fun z s2 hZ1=>?_
  obtain ⟨zv,H2,I2,r2,q2⟩:=hZ1;exact Zq I2 hN hi hx r2 (fun s3 I3=>⟨_,H2,I3,q2⟩) hf
 rcases l with ⟨hk,hm⟩ | ⟨hk,c,hc,hcell⟩
 ·exact wpAny_loadName_local I.ok.kind hk hn hm go
 ·rcases hk with hk | hk
  ·exact wpAny_loadName_cell I.ok.kind hk hc hcell go
  ·rcases hx with k | k
   ·have:X.env.scope.names.lookup x=some .free:=hk;rw [k] at this;cases this
   ·have:X.env.scope.names.lookup x=some .free:=hk;rw [k] at this;cases this
noncomputable def ipI (f:Int→Int→Int):TIp:=fun x y H Q=>∃ i j,x=.int i∧y=.int j∧Q (.int (f i j)) H
theorem RF:PIp X .Add (ipI fun i j=>i + j):=by
 intro pins s σ H x y v u Q I r1 r2 h;obtain ⟨i,j,e1,e2,q⟩:=h;subst e1;subst e2;obtain ⟨t,rfl⟩:=r1;obtain ⟨t',rfl⟩:=r2;exact iadd_int ⟨.int _,H,I.tok _,⟨_,rfl⟩,q⟩
end
section
variable {X:Cx} {pos:Pos}
noncomputable def eI (c:TT) (tb:TS):TS:=fun D σ H=>∃ W:Nat→St→Hp→Prop,(∃ m,W m σ H)∧∀ m σ H,W m σ H →
 c σ H fun b H1=>if b=true then ∃ N:St→Hp→Prop,(∀ σ' H',N σ' H'→∃ m',m' < m∧W m' σ' H')∧tb { D with nx:=N,ct:=N,bk:=D.nx } σ H1 else D.nx σ H1
theorem ox {c:Expr} {body:List Stmt} {tc:TT} {tb:TS} (hp:PassesOwn (model X.prog X.w) X.A X.env X.xe) (hc:PT X c tc) (hb:PSs X body tb):PS X (.While c body [] pos) (eI tc tb):=by
 intro pins s σ H D I h;obtain ⟨W,⟨m0,w0⟩,turn⟩:=h;refine wpAny_While (codeAny_whileLoop (fun n s'=>∃ σ' H',Inv X pins σ' H' s'∧W n σ' H') ?_ m0 ⟨σ,H,I,w0⟩);rintro n s1 ⟨σ1,H1,I1,w1⟩;refine wpAny_passesOwn hp (thn (hc pins s1 σ1 H1 _ I1 (turn n σ1 H1 w1)) fun b s2 hZ1=>?_);obtain ⟨H2,I2,q2⟩:=hZ1;cases b with
 | true=>
  obtain ⟨N,hN,q2⟩:=q2;rw [if_pos rfl];refine wpAny_passesOwn hp (thn (hb pins s2 σ1 H2 _ I2 q2) fun f s3 q3=>?_);cases f with
  | next=>
   obtain ⟨σ3,H3,I3,n3⟩:=q3;obtain ⟨m',hm,w3⟩:=hN σ3 H3 n3;exact ⟨m',hm,σ3,H3,I3,w3⟩
  | cont=>
   obtain ⟨σ3,H3,I3,n3⟩:=q3;obtain ⟨m',hm,w3⟩:=hN σ3 H3 n3;exact ⟨m',hm,σ3,H3,I3,w3⟩
  | brk=>exact q3
  | ret v=>exact q3
 | false=>
  rw [if_neg Bool.false_ne_true];exact wpAny_execs_nil ⟨σ1,H2,I2,q2⟩
end
structure It where
 go:Nat→Hp→Prop
 yld:Nat→Hp→V→Hp→Prop
 stop:Nat→Hp→Prop
noncomputable def Xq (X:Cx) (pins:List (Addr × Obj)) (H:Hp) (b:Addr):Prop:=
 H b=none∧b ≠ X.env.locals∧b ∉ X.fs∧(b ∈ X.ex∨X.s₀.heap.objs.size ≤ b)∧(∀ x c,X.env.cells.lookup x=some c→c ≠ b)∧∀ p ∈ X.pn ++ pins,p.1 ≠ b
theorem Inv.fpOk {X:Cx} {pins:List (Addr × Obj)} {σ:St} {H H':Hp} {s:Shared} {b:Addr} (I:Inv X pins σ H s) (hb:s.heap.objs.size ≤ b) (hn:H' b=none):Xq X pins H' b:=by
 refine ⟨hn,Nat.ne_of_gt (Nat.lt_of_lt_of_le I.lt hb),I.nofs hb,.inr (Nat.le_trans I.sz hb),fun x c e z=>?_,fun p hp z=>?_⟩
 ·obtain ⟨v,q⟩:=I.cell x c e;exact absurd (Nat.lt_of_lt_of_le q.lt (by rw [z];exact hb)) (Nat.lt_irrefl _)
 ·exact absurd (Nat.lt_of_lt_of_le (Heap.lt_size (I.pin p hp).1) (by rw [z];exact hb)) (Nat.lt_irrefl _)
structure EE (P:Program) (w:World) (K:PySem.W.Frag) (tg:Expr) (J:It) (fp:List Addr) (it:Addr) (tn:Nat→Heap→Prop):Prop where
 mem:it ∈ fp
 obj:∀ i h,tn i h→∀ b ∈ fp,∃ o,h.get? b=some o∧∀ v,o.data ≠ .cell v
 keep:∀ i h h',tn i h→(∀ b ∈ fp,∀ o,h.get? b=some o→h'.get? b=some o)→tn i h'
 item:∀ (X:Cx),X.prog=P→X.w=w→X.K=K→X.calm=true→∀ (i:Nat) (pins:List (Addr × Obj)) (s:Shared) (σ:St) (H:Hp) (E:Value→Shared→Prop),Inv X pins σ H s→(∀ b ∈ fp,Xq X pins H b)→tn i s.heap→J.go i H →
  wpAny (model P w) X.A (pyNext (.ref it)) (fun r s1=>∃ u,r=some u ∧
   wpAny (model P w) X.A (letOwnedTupleGo tg (.ref it) u) (fun _ s2=>∃ x H',Inv X pins σ H' s2∧ad x u∧J.yld i H x H'∧tn (i + 1) s2.heap∧∀ b ∈ fp,H' b=none) E s1) E s
 done:∀ (X:Cx),X.prog=P→X.w=w→X.K=K→X.calm=true→∀ (i:Nat) (pins:List (Addr × Obj)) (s:Shared) (σ:St) (H:Hp) (E:Value→Shared→Prop),Inv X pins σ H s→(∀ b ∈ fp,Xq X pins H b)→tn i s.heap→J.stop i H →
  wpAny (model P w) X.A (pyNext (.ref it)) (fun r s1=>r=none∧Inv X pins σ H s1) E s
 self:∀ (A:Around) (i:Nat) (s:Shared) (Q:Value→Shared→Prop) (E:Value→Shared→Prop),tn i s.heap→Q (.ref it) s→wpAny (model P w) A (pyIter (.ref it)) Q E s
noncomputable abbrev TI:=St→Hp→(It→Hp→Prop)→Prop
noncomputable def PIE (X:Cx) (pins:List (Addr × Obj)) (σ:St) (tg:Expr) (R:It→Hp→Prop) (itv:Value) (s2:Shared):Prop:=
 ∃ (it:Addr) (fp:List Addr) (tn:Nat→Heap→Prop) (J:It) (H':Hp),itv=.ref it∧Inv X pins σ H' s2∧EE X.prog X.w X.K tg J fp it tn∧tn 0 s2.heap∧(∀ b ∈ fp,Xq X pins H' b)∧R J H'
noncomputable def PI (X:Cx) (tg iter:Expr) (wi:TI):Prop:=
 ∀ (pins:List (Addr × Obj)) (s:Shared) (σ:St) (H:Hp) (R:It→Hp→Prop),Inv X pins σ H s→wi σ H R →
  wpAny (model X.prog X.w) X.A (eval iter X.env) (fun v s1=>wpAny (model X.prog X.w) X.A (pyIter v) (PIE X pins σ tg R) X.xe s1) X.xe s
theorem xD {M:Model} {A:Around} {E:Value→Shared→Prop} {s:Shared} {tg:Expr} {it:Addr} {u:Value} {o:Obj} {n:String} {vs:Array Value} {Q:Unit→Shared→Prop} (ho:s.heap.get? it=some o) (hc:o.cls=.type n) (hd:o.data=.fields vs)
    (hn:["enumerate","zip","dict_itemiterator","dict_reverseitemiterator","odict_iterator","itertools.zip_longest","itertools.pairwise"].contains n=false) (hQ:Q () s):wpAny M A (letOwnedTupleGo tg (.ref it) u) Q E s:=by
  unfold letOwnedTupleGo;cases tg <;> first
    | exact wpAny_pure hQ
    | (cases u <;> first
        | exact wpAny_pure hQ
        | (refine wpAny_bind (wpAny_load ho ?_)
           rw [hc,hd];show wpAny M A (if (["enumerate","zip","dict_itemiterator","dict_reverseitemiterator","odict_iterator","itertools.zip_longest","itertools.pairwise"].contains n && vs[0]? == some (rawInt _))=true then _ else _) Q E s;rw [if_neg (by intro h;rw [hn,Bool.false_and] at h;cases h)];exact wpAny_pure hQ))
noncomputable def Itl (K:PySem.W.Frag) (a:Addr):It:=
 ⟨fun i H=>∃ xs x,SqL K H a xs∧xs[i]? = some x,fun i H x H'=>H'=H∧∀ xs,SqL K H a xs→xs[i]? = some x,fun i H=>∃ xs,SqL K H a xs∧xs.length ≤ i⟩
noncomputable def Itr (lo:Int) (n:Nat):It:=⟨fun i _=>i < n,fun i H x H'=>H'=H∧x=.int (lo + i),fun i _=>n ≤ i⟩
theorem TB {P:Program} {w:World} {K:PySem.W.Frag} {tg:Expr} (a it:Addr):EE P w K tg (Itl K a) [it] it (fun i h=>h.IsListIter it a i) where
 mem:=by simp
 obj:=fun i h st b hb=>by
  have e:b=it:=by simpa using hb
  subst e;obtain ⟨o,e,c,d⟩:=st;exact ⟨o,e,fun v z=>by rw [d] at z;cases z⟩
 keep:=fun i h h' st k=>st.at fun o e=>k it (by simp) o e
 item:=by
  intro X hP hw hK hc i pins s σ H E I hf st hg;subst hP hw hK;obtain ⟨xs,x,hq,hx⟩:=hg;obtain ⟨its,rv,p,hz⟩:=I.list hq;obtain ⟨u,hu,ru⟩:=rv.get hx;obtain ⟨f0,f1,f2,f3,f4,f5⟩:=hf it (by simp);refine wpAny_pyNext_list_item st p.isList (x:=u) (by simpa using hu) fun h' st' sb=>?_
  have I1:Inv X pins σ H { s with heap:=h' }:=I.turned (t':=s.toks) (fun b o hb e=>(sb.2 b hb).trans e) f0 f1 f3 f4 f5;obtain ⟨o,e,c,d⟩:=id st';exact ⟨u,rfl,xD (s:={ s with heap:=h' }) e c d (by decide) ⟨x,H,I1,ru,⟨rfl,fun ys hy=>by rw [I.list_inj hy hq];exact hx⟩,st',fun b hb=>(hf b hb).1⟩⟩
 done:=by
  intro X hP hw hK hc i pins s σ H E I hf st hg;subst hP hw hK;obtain ⟨xs,hq,hx⟩:=hg;obtain ⟨its,rv,p,hz⟩:=I.list hq;obtain ⟨f0,f1,f2,f3,f4,f5⟩:=hf it (by simp);have hl:=rv.length;exact wpAny_pyNext_list_end (I.ok.hd hc) st p.isList (by simp;omega) fun h' eb=>⟨rfl,I.turned (t':=s.toks) (fun b o hb e=>eb b o hb e) f0 f1 f3 f4 f5⟩
 self:=fun _ _ _ _ _ st h=>wpAny_pyIter_listiter st h
theorem Hy {P:Program} {w:World} {K:PySem.W.Frag} {tg:Expr} (it:Addr) (lo:Int) (n:Nat):EE P w K tg (Itr lo n) [it] it (fun i h=>IsRangeIter h it (lo + (i:Nat) * 1) ((n:Int) - (i:Nat)) 1) where
 mem:=by simp
 obj:=fun i h st b hb=>by
  have e:b=it:=by simpa using hb
  subst e;exact ⟨_,st,fun v z=>by
   have z':Data.fields _=Data.cell v:=z;cases z'⟩
 keep:=fun i h h' st k=>k it (by simp) _ st
 item:=by
  intro X hP hw hK hc i pins s σ H E I hf st hg;subst hP hw hK;obtain ⟨f0,f1,f2,f3,f4,f5⟩:=hf it (by simp);have W:=Walks.range (prog:=X.prog) (w:=X.w) (I.ok.hd hc) it lo 1 n;refine W.item i s _ _ hg st fun v h' tk hv st' kk=>?_
  obtain ⟨t,rfl⟩:=hv;have I1:Inv X pins σ H { s with heap:=h',toks:=tk }:=I.turned (fun b o hb e=>kk b o (by simpa using hb) e) f0 f1 f3 f4 f5;refine ⟨_,rfl,xD (s:={ s with heap:=h',toks:=tk }) (n := "range_iterator") st' rfl rfl (by decide) ⟨.int (lo + i),H,I1,⟨t,?_⟩,⟨rfl,rfl⟩,st',fun b hb=>(hf b hb).1⟩⟩;rw [Int.mul_one]
 done:=by
  intro X hP hw hK hc i pins s σ H E I hf st hg;subst hP hw hK;obtain ⟨f0,f1,f2,f3,f4,f5⟩:=hf it (by simp);exact wpAny_pyNext_range_end (I.ok.hd hc) st (by have:n ≤ i:=hg;omega) fun h' eb=>⟨rfl,I.turned (t':=s.toks) (fun b o hb e=>eb b o hb e) f0 f1 f3 f4 f5⟩
 self:=fun _ _ _ _ _ st h=>wpAny_pyIter_rangeiter st h
end L2
namespace L2
open PySem PySem.Spec PyProof.Rows
section
variable {X:Cx} {tg:Expr}
noncomputable def uI (K:PySem.W.Frag) (tl:TE):TI:=fun σ H R=>tl σ H fun x H1=>jh x fun a=>(∃ xs,SqL K H1 a xs)∧R (Itl K a) H1
theorem Ph {l:Expr} {tl:TE} (hl:PE X l tl):PI X tg l (uI X.K tl):=by
 intro pins s σ H R I h;refine thn (hl pins s σ H _ I h) fun v s1 hZ1=>?_
 obtain ⟨x,H1,I1,r1,q1⟩:=hZ1;obtain ⟨a,e,⟨xs,hq⟩,q⟩:=jh.out q1;subst e;cases r1;obtain ⟨its,rv,p,hz⟩:=I1.list hq;refine wpAny_pyIter_list p.isList ?_;refine ⟨s1.heap.objs.size,[s1.heap.objs.size],_,_,H1,rfl,I1.kept (t':=s1.toks) fun b o e=>Heap.get?_push_of_some _ e,TB a _,⟨_,Heap.get?_push_size _ rfl,rfl,rfl⟩,fun b hb=>?_,q⟩;have e:b=s1.heap.objs.size:=by simpa using hb
 subst e;exact I1.fpOk (Nat.le_refl _) (I1.hok.fresh (Nat.le_refl _))
theorem cx {pins:List (Addr × Obj)} {σ:St} {H:Hp} {s:Shared} {R:It→Hp→Prop} {E:Value→Shared→Prop} {lo hi:Int} {t u v:Tok} {tk:Nat} (I:Inv X pins σ H s) (h1:-(2 ^ 62) ≤ lo) (h2:lo < 2 ^ 62) (h3:-(2 ^ 62) ≤ hi) (h4:hi < 2 ^ 62)
  (q:R (Itr lo (hi - lo).toNat) H):wpAny (model X.prog X.w) X.A (pyIter (.ref s.heap.objs.size)) (PIE X pins σ tg R) E { s with heap:=s.heap.push { cls:=.type "range",data:=.fields #[.int lo t,.int hi u,.int 1 v] },toks:=tk }:=by
 refine wpAny_pyIter_range (IsRange.new ..) (small_one h1 h2 h3 h4) ?_;have I1:Inv X pins σ H { s with heap:=s.heap.push { cls:=.type "range",data:=.fields #[.int lo t,.int hi u,.int 1 v] },toks:=tk }:=I.kept fun b o e=>Heap.get?_push_of_some _ e
 refine ⟨(s.heap.push { cls:=.type "range",data:=.fields #[.int lo t,.int hi u,.int 1 v] }).objs.size,[(s.heap.push { cls:=.type "range",data:=.fields #[.int lo t,.int hi u,.int 1 v] }).objs.size],_,_,H,rfl,
  I1.kept (t':=tk) fun b o e=>Heap.get?_push_of_some _ e,Hy _ lo (hi - lo).toNat,?_,fun b hb=>?_,q⟩
 ·have e1:lo + ((0:Nat):Int) * 1=lo:=by simp
  have e2:(((hi - lo).toNat:Nat):Int) - ((0:Nat):Int)=Builtin.Range.rangeSize lo hi 1:=by rw [rangeSize_one];split <;> omega
  show IsRangeIter _ _ (lo + ((0:Nat):Int) * 1) ((((hi - lo).toNat:Nat):Int) - ((0:Nat):Int)) 1;rw [e1,e2];exact Heap.get?_push_size _ rfl
 ·have e:b=(s.heap.push { cls:=.type "range",data:=.fields #[.int lo t,.int hi u,.int 1 v] }).objs.size:=by simpa using hb
  subst e;exact I1.fpOk (Nat.le_refl _) (I1.hok.fresh (Nat.le_refl _))
noncomputable def WH (ta:TA):TI:=fun σ H R=>ta σ H fun vs H1=>Rx vs fun x=>zi x fun j=>-(2 ^ 62) ≤ j∧j < 2 ^ 62∧R (Itr 0 j.toNat) H1
noncomputable def nJ (ta:TA):TI:=fun σ H R=>ta σ H fun vs H1=>∃ i j:Int,vs=[.int i,.int j]∧(-(2 ^ 62) ≤ i∧i < 2 ^ 62∧-(2 ^ 62) ≤ j∧j < 2 ^ 62)∧R (Itr i (j - i).toNat) H1
theorem ue {a:Expr} {ta:TA} {p pos:Pos} (hg:Gl X "range") (hm:X.mg "range"=none) (ha:PA X [a] ta) (hs:starEach [a] X.env=[(false,eval a X.env)]:=by rfl):PI X tg (.Call (.Name "range" p) [a] [] pos) (WH ta):=by
 intro pins s σ H R I h;refine Call_ (Am I hg hm boot_range (PyProof.Rows.callWith_type1 (thn (ha pos pins s σ H _ I h) fun us s1 hZ1=>?_) hs rfl));obtain ⟨vs,H1,I1,r1,q1⟩:=hZ1;obtain ⟨zx,ze,zq⟩:=Rx.out q1;obtain ⟨j,zf,zp,q2,q⟩:=zi.out zq;have e:=ze.trans (congrArg (fun z=>[z]) zf);subst e;cases r1 with
 | cons r rr=>
  cases rr;obtain ⟨t,rfl⟩:=r;exact call_range_1 (cx I1 (by omega) (by omega) zp q2 (by simpa using q))
theorem Cs {a b:Expr} {ta:TA} {p pos:Pos} (hg:Gl X "range") (hm:X.mg "range"=none) (ha:PA X [a,b] ta) (hs:starEach [a,b] X.env=[(false,eval a X.env),(false,eval b X.env)]:=by rfl) (hs2:starEach [b] X.env=[(false,eval b X.env)]:=by rfl) :
  PI X tg (.Call (.Name "range" p) [a,b] [] pos) (nJ ta):=by
 intro pins s σ H R I h;refine Call_ (Am I hg hm boot_range (PyProof.Rows.callWith_type1 (thn (ha pos pins s σ H _ I h) fun us s1 hZ1=>?_) (by rw [hs,hs2]) (by rw [hs2];rfl)));obtain ⟨vs,H1,I1,r1,q1⟩:=hZ1;obtain ⟨i,j,e,⟨q1,q2,q3,q4⟩,q⟩:=q1;subst e;cases r1 with
 | cons r rr=>
  cases rr with
  | cons r' rr=>
   cases rr;obtain ⟨t,rfl⟩:=r;obtain ⟨t',rfl⟩:=r';exact call_range_2 (cx I1 q1 q2 q3 q4 q)
noncomputable def EL (wi:TI) (g:TG) (tb:TS):TS:=fun D σ H=>wi σ H fun J H1=>∃ W:Nat→Nat→St→Hp→Prop,(∃ m,W 0 m σ H1)∧∀ i m σ H,W i m σ H →
 (J.stop i H∧D.nx σ H)∨(J.go i H∧∃ N:St→Hp→Prop,(∀ σ' H',N σ' H'→∃ m',m' < m∧W (i + 1) m' σ' H')∧∀ x H',J.yld i H x H'→g x σ H' fun σ2 H2=>tb { D with nx:=N,ct:=N,bk:=D.nx } σ2 H2)
noncomputable def Yt (fp:List Addr) (h:Heap):List (Addr × Obj):=fp.filterMap fun b=>(h.get? b).map fun o=>(b,o)
theorem nj {fp:List Addr} {h:Heap} {b:Addr} {o:Obj} (hb:b ∈ fp) (e:h.get? b=some o):(b,o) ∈ Yt fp h:=List.mem_filterMap.mpr ⟨b,hb,by rw [e];rfl⟩
theorem eB {fp:List Addr} {h:Heap} {p:Addr × Obj} (hp:p ∈ Yt fp h):p.1 ∈ fp∧h.get? p.1=some p.2:=by
 obtain ⟨b,hb,e⟩:=List.mem_filterMap.mp hp;cases q:h.get? b with
 | none=>rw [q] at e;cases e
 | some o=>
  rw [q] at e;have e':(b,o)=p:=Option.some.inj e;subst e';exact ⟨hb,q⟩
theorem Inv.pinned {pins:List (Addr × Obj)} {σ:St} {H:Hp} {s:Shared} {fp:List Addr} (I:Inv X pins σ H s) (hf:∀ b ∈ fp,Xq X pins H b) (ho:∀ b ∈ fp,∃ o,s.heap.get? b=some o∧∀ v,o.data ≠ .cell v):Inv X (pins ++ Yt fp s.heap) σ H s:=
 I.pins_of fun p hp=>(List.mem_append.mp hp).elim (fun z=>I.pin p (List.mem_append_right _ z)) fun z=>by
  obtain ⟨hb,e⟩:=eB z;obtain ⟨f0,f1,f2,_⟩:=hf p.1 hb;obtain ⟨o,e',d⟩:=ho p.1 hb;rw [e] at e';cases e';exact ⟨e,f0,f1,f2,d⟩
theorem Inv.unpinned {pins pl:List (Addr × Obj)} {σ:St} {H:Hp} {s:Shared} (I:Inv X (pins ++ pl) σ H s):Inv X pins σ H s:=I.pins_of fun p hp=>I.pin p (List.mem_append_right _ (List.mem_append_left _ hp))
theorem Af {iter:Expr} {body:List Stmt} {wi:TI} {g:TG} {tb:TS} {pos:Pos} (hp:PassesOwn (model X.prog X.w) X.A X.env X.xe) (hc:X.calm=true) (hi:PI X tg iter wi) (hg:PG X tg g) (hb:PSs X body tb)
  (hs:∀ x,foldedSetIterable iter X.env x=pure x:=by intro _;rfl):PS X (.For tg iter body [] pos) (EL wi g tb):=by
 intro pins s σ H D I h;refine wpAny_For (thn (hi pins s σ H _ I h) fun v s1 h1=>thn h1 fun itv s2 h2=>?_) hs;obtain ⟨it,fp,tn,J,H2,e,I2,T,st2,f2,W,⟨m0,w0⟩,turn⟩:=h2;subst e;have stat:∀ {H':Hp},(∀ b ∈ fp,H' b=none)→∀ b ∈ fp,Xq X pins H' b:=fun hn b hb=>⟨hn b hb,(f2 b hb).2⟩
 refine codeAny_forLoop_any (fun n s'=>∃ i σ' H',Inv X pins σ' H' s'∧tn i s'.heap∧(∀ b ∈ fp,H' b=none)∧W i n σ' H') ?_ m0 ⟨0,σ,H2,I2,st2,fun b hb=>(f2 b hb).1,w0⟩;rintro n s3 ⟨i,σ3,H3,I3,st3,fr3,w3⟩;rcases turn i n σ3 H3 w3 with ⟨stop,qn⟩ | ⟨go,N,hN,step⟩
 ·refine wpAny_passesOwn hp (thn (T.done X rfl rfl rfl hc i pins s3 σ3 H3 X.xe I3 (stat fr3) st3 stop) fun r s4 hZ1=>?_);obtain ⟨hr,I4⟩:=hZ1;subst hr;exact wpAny_execs_nil ⟨σ3,H3,I4,qn⟩
 ·refine wpAny_passesOwn hp (thn (T.item X rfl rfl rfl hc i pins s3 σ3 H3 X.xe I3 (stat fr3) st3 go) fun r s4 hZ1=>?_);obtain ⟨u,hr,h4⟩:=hZ1;subst hr;refine wpAny_passesOwn hp (thn h4 fun _ s5 hZ1=>?_);obtain ⟨x,H5,I5,r5,y5,st5,fr5⟩:=hZ1;have I5':=I5.pinned (stat fr5) (T.obj _ _ st5);refine wpAny_passesOwn hp (thn (hg _ s5 σ3 H5 x u _ I5' r5 (step x H5 y5)) fun _ s6 hZ1=>?_);obtain ⟨σ6,H6,I6,q6⟩:=hZ1;refine wpAny_passesOwn hp (thn (hb _ s6 σ6 H6 _ I6 q6) fun f s7 q7=>?_);have again:∀ {σ7:St} {H7:Hp},Inv X (pins ++ Yt fp s5.heap) σ7 H7 s7→N σ7 H7→∃ m,m < n∧∃ i σ' H',Inv X pins σ' H' s7∧tn i s7.heap∧(∀ b ∈ fp,H' b=none)∧W i m σ' H':=fun {σ7 H7} I7 n7=>by
   obtain ⟨m',hm,w7⟩:=hN σ7 H7 n7;refine ⟨m',hm,i + 1,σ7,H7,I7.unpinned,T.keep _ _ _ st5 fun b hb o e=>(I7.pin (b,o) (List.mem_append_right _ (List.mem_append_right _ (nj hb e)))).1,fun b hb=>?_,w7⟩;obtain ⟨o,e,d⟩:=T.obj _ _ st5 b hb;exact (I7.pin (b,o) (List.mem_append_right _ (List.mem_append_right _ (nj hb e)))).2.1
  cases f with
  | next=>obtain ⟨σ7,H7,I7,n7⟩:=q7;exact again I7 n7
  | cont=>obtain ⟨σ7,H7,I7,n7⟩:=q7;exact again I7 n7
  | brk=>obtain ⟨σ7,H7,I7,q7⟩:=q7;exact ⟨σ7,H7,I7.unpinned,q7⟩
  | ret v=>obtain ⟨x7,σ7,H7,I7,r7,q7⟩:=q7;exact ⟨x7,σ7,H7,I7.unpinned,r7,q7⟩
end
theorem rE {K:PySem.W.Frag} {a:Addr} {xs:List V} {g:TG} {tb:TS} {D:yi} {σ:St} {H:Hp} (Pv:Nat→St→Hp→Prop) (h0:Pv 0 σ H) (hl:∀ i σ H,i ≤ xs.length→Pv i σ H→SqL K H a xs)
  (hs:∀ i x σ H,xs[i]? = some x→Pv i σ H→g x σ H fun σ2 H2=>tb { D with nx:=Pv (i + 1),ct:=Pv (i + 1),bk:=D.nx } σ2 H2) (hd:∀ σ H,Pv xs.length σ H→D.nx σ H) :
  ∃ W:Nat→Nat→St→Hp→Prop,(∃ m,W 0 m σ H)∧∀ i m σ H,W i m σ H →
   ((Itl K a).stop i H∧D.nx σ H)∨((Itl K a).go i H∧∃ N:St→Hp→Prop,(∀ σ' H',N σ' H'→∃ m',m' < m∧W (i + 1) m' σ' H')∧∀ x H',(Itl K a).yld i H x H'→g x σ H' fun σ2 H2=>tb { D with nx:=N,ct:=N,bk:=D.nx } σ2 H2):=by
 refine ⟨fun i m σ H=>m=xs.length - i∧i ≤ xs.length∧Pv i σ H,⟨xs.length,by simp,Nat.zero_le _,h0⟩,?_⟩;rintro i m σ H ⟨rfl,hi,p⟩;have q:=hl i σ H hi p;by_cases hlt:i < xs.length
 ·refine .inr ⟨⟨xs,xs[i],q,by simp [hlt]⟩,Pv (i + 1),fun σ' H' p'=>⟨xs.length - (i + 1),by omega,rfl,hlt,p'⟩,fun x H' y=>?_⟩;obtain ⟨e,y⟩:=y;subst e;exact hs i x σ _ (y xs q) p
 ·have e:i=xs.length:=by omega
  subst e;exact .inl ⟨⟨xs,q,Nat.le_refl _⟩,hd σ H p⟩
theorem tz {lo:Int} {n:Nat} {g:TG} {tb:TS} {D:yi} {σ:St} {H:Hp} (Pv:Nat→St→Hp→Prop) (h0:Pv 0 σ H)
  (hs:∀ i σ H,i < n→Pv i σ H→g (.int (lo + i)) σ H fun σ2 H2=>tb { D with nx:=Pv (i + 1),ct:=Pv (i + 1),bk:=D.nx } σ2 H2) (hd:∀ σ H,Pv n σ H→D.nx σ H) :
  ∃ W:Nat→Nat→St→Hp→Prop,(∃ m,W 0 m σ H)∧∀ i m σ H,W i m σ H →
   ((Itr lo n).stop i H∧D.nx σ H)∨((Itr lo n).go i H∧∃ N:St→Hp→Prop,(∀ σ' H',N σ' H'→∃ m',m' < m∧W (i + 1) m' σ' H')∧∀ x H',(Itr lo n).yld i H x H'→g x σ H' fun σ2 H2=>tb { D with nx:=N,ct:=N,bk:=D.nx } σ2 H2):=by
 refine ⟨fun i m σ H=>m=n - i∧i ≤ n∧Pv i σ H,⟨n,by simp,Nat.zero_le _,h0⟩,?_⟩;rintro i m σ H ⟨rfl,hi,p⟩;by_cases hlt:i < n
 ·refine .inr ⟨hlt,Pv (i + 1),fun σ' H' p'=>⟨n - (i + 1),by omega,rfl,hlt,p'⟩,fun x H' y=>?_⟩;obtain ⟨e,y⟩:=y;subst e y;exact hs i σ _ hlt p
 ·have e:i=n:=by omega
  subst e;exact .inl ⟨Nat.le_refl _,hd σ H p⟩
end L2
namespace L2
open PySem PySem.Spec PyProof.Rows
noncomputable abbrev R2:=V→V→Hp→VK→Prop
noncomputable def OpR (X:Cx) (f:Value→Value→Sem Value) (r:R2):Prop:=
 ∀ (pins:List (Addr × Obj)) (s:Shared) (σ:St) (H:Hp) (x y:V) (v u:Value) (Q:VK),Inv X pins σ H s→ad x v→ad y u→r x y H Q →
  wpAny (model X.prog X.w) X.A (f v u) (EP X pins σ Q) X.xe s
noncomputable def UnR (X:Cx) (f:Value→Sem Value) (r:V→Hp→VK→Prop):Prop:=
 ∀ (pins:List (Addr × Obj)) (s:Shared) (σ:St) (H:Hp) (x:V) (v:Value) (Q:VK),Inv X pins σ H s→ad x v→r x H Q →
  wpAny (model X.prog X.w) X.A (f v) (EP X pins σ Q) X.xe s
noncomputable def lj (X:Cx) (f:Value) (r:List V→Hp→VK→Prop):Prop:=
 ∀ (pins:List (Addr × Obj)) (s:Shared) (σ:St) (H:Hp) (xs:List V) (us:List Value) (Q:VK),Inv X pins σ H s→Zc xs us→r xs H Q →
  wpAny (model X.prog X.w) X.A (call f us) (EP X pins σ Q) X.xe s
noncomputable def OL (X:Cx) (r:V→Hp→(Bool→Hp→Prop)→Prop):Prop:=
 ∀ (pins:List (Addr × Obj)) (s:Shared) (σ:St) (H:Hp) (x:V) (v:Value) (Q:Bool→Hp→Prop),Inv X pins σ H s→ad x v→r x H Q →
  wpAny (model X.prog X.w) X.A (truthy v) (TP X pins σ Q) X.xe s
noncomputable def tOp (r:R2) (ta tb:TE):TE:=fun σ H Q=>ta σ H fun x H1=>tb σ H1 fun y H2=>r x y H2 Q
noncomputable def tUn (r:V→Hp→VK→Prop) (ta:TE):TE:=fun σ H Q=>ta σ H fun x H1=>r x H1 Q
noncomputable def rI (C:Int→Int→Prop) (g:Int→Int→V):R2:=fun x y H Q=>zi x fun i=>zi y fun j=>C i j∧Q (g i j) H
noncomputable def rI0 (g:Int→Int→V):R2:=fun x y H Q=>zi x fun i=>zi y fun j=>Q (g i j) H
noncomputable def rU (g:Int→V):V→Hp→VK→Prop:=fun x H Q=>zi x fun i=>Q (g i) H
section
variable {X:Cx} {a b c:Expr} {ta tb tc:TE} {pos:Pos}
theorem uK (ha:PE X a ta) (hb:PE X b tb) {pins:List (Addr × Obj)} {s:Shared} {σ:St} {H:Hp} {R:V→V→Hp→Prop} (I:Inv X pins σ H s)
  (h:ta σ H fun x H1=>tb σ H1 fun y H2=>R x y H2) {Q:Value→Shared→Prop} {f:Value→Value→Sem Value}
  (hf:∀ v u s2 x y H2,Inv X pins σ H2 s2→ad x v→ad y u→R x y H2→wpAny (model X.prog X.w) X.A (f v u) Q X.xe s2) :
  wpAny (model X.prog X.w) X.A (eval a X.env) (fun v s₁=>wpAny (model X.prog X.w) X.A (eval b X.env) (fun u s₂=>wpAny (model X.prog X.w) X.A (f v u) Q X.xe s₂) X.xe s₁) X.xe s:=by
 refine thn (ha pins s σ H _ I h) fun v s1 hZ1=>?_
 obtain ⟨x,H1,I1,r1,q1⟩:=hZ1;refine thn (hb pins s1 σ H1 _ I1 q1) fun u s2 hZ1=>?_
 obtain ⟨y,H2,I2,r2,q2⟩:=hZ1;exact hf v u s2 x y H2 I2 r1 r2 q2
theorem Jb {op:Operator} {r:R2} (ho:OpR X (binaryOp op) r) (ha:PE X a ta) (hb:PE X b tb):PE X (.BinOp a op b pos) (tOp r ta tb):=by
 intro pins s σ H Q I h;exact wpAny_BinOp (uK ha hb I h fun v u s2 x y H2 I2 rx ry q=>ho pins s2 σ H2 x y v u Q I2 rx ry q)
theorem lJ {op:UnaryOp} {r:V→Hp→VK→Prop} (ho:UnR X (unaryOp op) r) (ha:PE X a ta):PE X (.UnaryOp op a pos) (tUn r ta):=by
 intro pins s σ H Q I h;exact UnaryOp_ (thn (ha pins s σ H _ I h) fun v s1 ⟨x,H1,I1,r1,q1⟩=>ho pins s1 σ H1 x v Q I1 r1 q1)
theorem opI {f:Value→Value→Sem Value} {C:Int→Int→Prop} {g:Int→Int→Int}
  (rule:∀ (i j:Int) (t u:Tok) (s:Shared) (Q:Value→Shared→Prop) (E:Value→Shared→Prop),C i j→Q (.int (g i j) s.toks) { s with toks:=s.toks + 1 }→wpAny (model X.prog X.w) X.A (f (.int i t) (.int j u)) Q E s) :
  OpR X f (rI C fun i j=>.int (g i j)):=by
 intro pins s σ H x y v u Q I rx ry h;obtain ⟨i,rfl,hzz⟩:=zi.out h;obtain ⟨j,rfl,hc,q⟩:=zi.out hzz;obtain ⟨t,rfl⟩:=rx;obtain ⟨t',rfl⟩:=ry;exact rule i j t t' s _ _ hc ⟨.int (g i j),H,I.tok _,⟨_,rfl⟩,q⟩
theorem TK {f:Value→Value→Sem Value} {g:Int→Int→Int}
  (rule:∀ (i j:Int) (t u:Tok) (s:Shared) (Q:Value→Shared→Prop) (E:Value→Shared→Prop),Q (.int (g i j) s.toks) { s with toks:=s.toks + 1 }→wpAny (model X.prog X.w) X.A (f (.int i t) (.int j u)) Q E s) :
  OpR X f (rI0 fun i j=>.int (g i j)):=by
 intro pins s σ H x y v u Q I rx ry h;obtain ⟨i,rfl,hzz⟩:=zi.out h;obtain ⟨j,rfl,q⟩:=zi.out hzz;obtain ⟨t,rfl⟩:=rx;obtain ⟨t',rfl⟩:=ry;exact rule i j t t' s _ _ ⟨.int (g i j),H,I.tok _,⟨_,rfl⟩,q⟩
theorem UK {f:Value→Value→Sem Value} {g:Int→Int→Bool}
  (rule:∀ (i j:Int) (t u:Tok) (s:Shared) (Q:Value→Shared→Prop) (E:Value→Shared→Prop),Q (.bool (g i j)) s→wpAny (model X.prog X.w) X.A (f (.int i t) (.int j u)) Q E s) :
  OpR X f (rI0 fun i j=>.bl (g i j)):=by
 intro pins s σ H x y v u Q I rx ry h;obtain ⟨i,rfl,hzz⟩:=zi.out h;obtain ⟨j,rfl,q⟩:=zi.out hzz;obtain ⟨t,rfl⟩:=rx;obtain ⟨t',rfl⟩:=ry;exact rule i j t t' s _ _ ⟨.bl (g i j),H,I,rfl,q⟩
noncomputable def VJ (i j:Int):Prop:=0 < j∧j < 1073741824
noncomputable def yG (i j:Int):Prop:=(-(2 ^ 64) < i∧i < 2 ^ 64)∨(-(2 ^ 64) < j∧j < 2 ^ 64)
theorem yG.ok {i j:Int} (h:yG i j):IntMulOk i j:=by
 rcases h with ⟨h1,h2⟩ | ⟨h1,h2⟩
 ·exact .of_left (intBits_le_64 h1 h2)
 ·exact .of_right (intBits_le_64 h1 h2)
theorem Bd:OpR X (binaryOp .Add) (rI0 fun i j=>.int (i + j)):=TK fun _ _ _ _ _ _ _ q=>add_int q
theorem qk:OpR X (binaryOp .Sub) (rI0 fun i j=>.int (i - j)):=TK fun _ _ _ _ _ _ _ q=>sub_int q
theorem Bf:OpR X (binaryOp .Mult) (rI yG fun i j=>.int (i * j)):=opI fun _ _ _ _ _ _ _ hc q=>mul_int q hc.ok
theorem ou:OpR X (binaryOp .FloorDiv) (rI VJ fun i j=>.int (i / j)):=opI fun i j _ _ _ _ _ hc q=>by
 have h1:(0:Int) < j:=hc.1;have h2:j < 1073741824:=hc.2;exact floordiv_int (by omega) (by rw [Int.fdiv_eq_ediv_of_nonneg i (by omega)];exact q) (.inl (PyProof.noPylong_small (by omega)))
theorem gf:OpR X (binaryOp .Mod) (rI (fun _ j=>0 < j) fun i j=>.int (i % j)):=opI fun i j _ _ _ _ _ hc q=>by
 have h1:(0:Int) < j:=hc;exact mod_int' (by omega) (by rw [Int.fmod_eq_emod_of_nonneg i (by omega)];exact q)
theorem unI {f:Value→Sem Value} {g:Int→Int}
  (rule:∀ (i:Int) (t:Tok) (s:Shared) (Q:Value→Shared→Prop) (E:Value→Shared→Prop),Q (.int (g i) s.toks) { s with toks:=s.toks + 1 }→wpAny (model X.prog X.w) X.A (f (.int i t)) Q E s) :
  UnR X f (rU fun i=>.int (g i)):=by
 intro pins s σ H x v Q I rx h;obtain ⟨i,rfl,q⟩:=zi.out h;obtain ⟨t,rfl⟩:=rx;exact rule i t s _ _ ⟨.int (g i),H,I.tok _,⟨_,rfl⟩,q⟩
theorem tF:UnR X (unaryOp .USub) (rU fun i=>.int (-i)):=unI fun _ _ _ _ _ q=>neg_int q
end
noncomputable def vJ:V→V→Bool
 | .non,.non=>true | .non,.int _=>true | .int _,.non=>true | .non,.bl _=>true | .bl _,.non=>true | .non,.str _=>true | .str _,.non=>true
 | .int _,.int _=>true | .bl _,.bl _=>true | .str _,.str _=>true | .byt _,.byt _=>true
 | .int _,.str _=>true | .str _,.int _=>true | .bl _,.str _=>true | .str _,.bl _=>true
 | _,_=>false
noncomputable def rEq:R2:=fun x y H Q=>vJ x y=true∧Q (.bl (decide (x=y))) H
noncomputable def rNe:R2:=fun x y H Q=>vJ x y=true∧Q (.bl (!decide (x=y))) H
theorem QB {i j:Int}:decide (V.int i=V.int j)=(i == j):=by
 rw [Bool.eq_iff_iff];simp
theorem vF {i j:Bool}:decide (V.bl i=V.bl j)=(i == j):=by
 rw [Bool.eq_iff_iff];simp
theorem CC {i j:Str}:decide (V.str i=V.str j)=(i == j):=by
 rw [Bool.eq_iff_iff];simp
theorem JB {i j:Array UInt8}:decide (V.byt i=V.byt j)=(i.toList == j.toList):=by
 rw [Bool.eq_iff_iff];cases i;cases j;simp
section
variable {X:Cx} {a b c:Expr} {ta tb tc:TE} {pos:Pos}
theorem Ec {pins:List (Addr × Obj)} {σ:St} {H:Hp} {s:Shared} {Q:VK} {k k':Bool} (I:Inv X pins σ H s) (q:Q (.bl k) H) (e:k=k'):EP X pins σ Q (.bool k') s:=by
 subst e;exact ⟨.bl k,H,I,rfl,q⟩
theorem Gk:OpR X (compareOp .Eq) rEq:=by
 intro pins s σ H x y v u Q I rx ry h;obtain ⟨hs,q⟩:=h;cases x with
 | non=>
  cases rx;cases y with
  | non=>cases ry;exact PySem.EqNone.eq_none_none (Ec I q (by simp))
  | bl j=>cases ry;exact PySem.EqNone.eq_none_bool (Ec I q (by simp))
  | int j=>obtain ⟨t',rfl⟩:=ry;exact PySem.EqNone.eq_none_int (Ec I q (by simp))
  | str j=>obtain ⟨t',rfl⟩:=ry;exact PySem.EqNone.eq_none_str (Ec I q (by simp))
  | _=>exact absurd (show false=true from hs) Bool.false_ne_true
 | bl i=>
  cases rx;cases y with
  | non=>cases ry;exact PySem.EqNone.eq_bool_none (Ec I q (by simp))
  | bl j=>cases ry;exact eq_bool (Ec I q vF)
  | str j=>obtain ⟨t',rfl⟩:=ry;exact PySem.EqMixed.eq_bool_str (Ec I q (by simp))
  | _=>exact absurd (show false=true from hs) Bool.false_ne_true
 | int i=>
  obtain ⟨t,rfl⟩:=rx;cases y with
  | non=>cases ry;exact PySem.EqNone.eq_int_none (Ec I q (by simp))
  | int j=>obtain ⟨t',rfl⟩:=ry;exact eq_int (Ec I q QB)
  | str j=>obtain ⟨t',rfl⟩:=ry;exact PySem.EqMixed.eq_int_str (Ec I q (by simp))
  | _=>exact absurd (show false=true from hs) Bool.false_ne_true
 | str i=>
  obtain ⟨t,rfl⟩:=rx;cases y with
  | non=>cases ry;exact PySem.EqNone.eq_str_none (Ec I q (by simp))
  | bl j=>cases ry;exact PySem.EqMixed.eq_str_bool (Ec I q (by simp))
  | int j=>obtain ⟨t',rfl⟩:=ry;exact PySem.EqMixed.eq_str_int (Ec I q (by simp))
  | str j=>obtain ⟨t',rfl⟩:=ry;exact eq_str (Ec I q CC)
  | _=>exact absurd (show false=true from hs) Bool.false_ne_true
 | byt i=>
  obtain ⟨t,rfl⟩:=rx;cases y with
  | byt j=>obtain ⟨t',rfl⟩:=ry;exact PySem.W.eq_bytes (Ec I q JB)
  | _=>exact absurd (show false=true from hs) Bool.false_ne_true
 | _=>cases y <;> exact absurd (show false=true from hs) Bool.false_ne_true
theorem Zu:OpR X (compareOp .NotEq) rNe:=by
 intro pins s σ H x y v u Q I rx ry h;obtain ⟨hs,q⟩:=h;cases x with
 | non=>
  cases rx;cases y with
  | non=>cases ry;exact PySem.EqNone.ne_none_none (Ec I q (by simp))
  | bl j=>cases ry;exact PySem.EqNone.ne_none_bool (Ec I q (by simp))
  | int j=>obtain ⟨t',rfl⟩:=ry;exact PySem.EqNone.ne_none_int (Ec I q (by simp))
  | str j=>obtain ⟨t',rfl⟩:=ry;exact PySem.EqNone.ne_none_str (Ec I q (by simp))
  | _=>exact absurd (show false=true from hs) Bool.false_ne_true
 | bl i=>
  cases rx;cases y with
  | non=>cases ry;exact PySem.EqNone.ne_bool_none (Ec I q (by simp))
  | bl j=>cases ry;exact ne_bool (Ec I q (congrArg not vF))
  | str j=>obtain ⟨t',rfl⟩:=ry;exact PySem.EqMixed.ne_bool_str (Ec I q (by simp))
  | _=>exact absurd (show false=true from hs) Bool.false_ne_true
 | int i=>
  obtain ⟨t,rfl⟩:=rx;cases y with
  | non=>cases ry;exact PySem.EqNone.ne_int_none (Ec I q (by simp))
  | int j=>obtain ⟨t',rfl⟩:=ry;exact ne_int (Ec I q (congrArg not QB))
  | str j=>obtain ⟨t',rfl⟩:=ry;exact PySem.EqMixed.ne_int_str (Ec I q (by simp))
  | _=>exact absurd (show false=true from hs) Bool.false_ne_true
 | str i=>
  obtain ⟨t,rfl⟩:=rx;cases y with
  | non=>cases ry;exact PySem.EqNone.ne_str_none (Ec I q (by simp))
  | bl j=>cases ry;exact PySem.EqMixed.ne_str_bool (Ec I q (by simp))
  | int j=>obtain ⟨t',rfl⟩:=ry;exact PySem.EqMixed.ne_str_int (Ec I q (by simp))
  | str j=>obtain ⟨t',rfl⟩:=ry;exact ne_str (Ec I q (congrArg not CC))
  | _=>exact absurd (show false=true from hs) Bool.false_ne_true
 | byt i=>
  obtain ⟨t,rfl⟩:=rx;cases y with
  | byt j=>obtain ⟨t',rfl⟩:=ry;exact PySem.W.ne_bytes (Ec I q (congrArg not JB))
  | _=>exact absurd (show false=true from hs) Bool.false_ne_true
 | _=>cases y <;> exact absurd (show false=true from hs) Bool.false_ne_true
theorem Iy:OpR X (compareOp .Lt) (rI0 fun i j=>.bl (decide (i < j))):=UK fun _ _ _ _ _ _ _ q=>lt_int q
theorem Ry:OpR X (compareOp .Gt) (rI0 fun i j=>.bl (decide (j < i))):=UK fun _ _ _ _ _ _ _ q=>gt_int q
theorem iB:OpR X (compareOp .In) (fun x y H Q=>∃ i j,x=.str i∧y=.str j∧Q (.bl (!(Builtin.Str.occurrences j i 0 j.length 1).isEmpty)) H):=by
 intro pins s σ H x y v u Q I rx ry h;obtain ⟨i,j,rfl,rfl,q⟩:=h;obtain ⟨t,rfl⟩:=rx;obtain ⟨t',rfl⟩:=ry;exact in_str (Ec I q rfl)
theorem mF:OpR X (compareOp .Is) (fun x y H Q=>y=.non∧Q (.bl (decide (x=.non))) H):=by
 intro pins s σ H x y v u Q I rx ry h;obtain ⟨rfl,q⟩:=h;cases ry;refine is_none_gen (Ec I q ?_);cases x <;> first
  | (cases rx;rfl)
  | (obtain ⟨t,rfl⟩:=rx;rfl)
theorem zu:OpR X (compareOp .IsNot) (fun x y H Q=>y=.non∧Q (.bl (!decide (x=.non))) H):=by
 intro pins s σ H x y v u Q I rx ry h;obtain ⟨rfl,q⟩:=h;cases ry;refine isnot_none_gen (Ec I q ?_);cases x <;> first
  | (cases rx;rfl)
  | (obtain ⟨t,rfl⟩:=rx;rfl)
theorem OpR.or {f:Value→Value→Sem Value} {r r':R2} (h:OpR X f r) (h':OpR X f r'):OpR X f (fun x y H Q=>r x y H Q∨r' x y H Q):=by
 intro pins s σ H x y v u Q I rx ry q;rcases q with q | q
 ·exact h pins s σ H x y v u Q I rx ry q
 ·exact h' pins s σ H x y v u Q I rx ry q
theorem Zb (b:Expr) {op:CmpOp} (h:op ≠ .In:=by decide) (h2:op ≠ .NotIn:=by decide):behindInMarks op b=false:=by
 have e1:(op == CmpOp.In)=false:=by cases op <;> first | rfl | exact absurd rfl h
 have e2:(op == CmpOp.NotIn)=false:=by cases op <;> first | rfl | exact absurd rfl h2
 cases b <;> simp [behindInMarks,e1,e2]
theorem Be {op:CmpOp} {r:R2} (ho:OpR X (compareOp op) r) (ha:PE X a ta) (hb:PE X b tb) (hm:behindInMarks op b=false):PE X (.Compare a [op] [b] pos) (tOp r ta tb):=by
 intro pins s σ H Q I h;exact wpAny_Compare1 (uK ha hb I h fun v u s2 x y H2 I2 rx ry q=>ho pins s2 σ H2 x y v u Q I2 rx ry q) hm
noncomputable def uJ (t:TE):TT:=fun σ H Q=>t σ H fun x H'=>BlQ x fun k=>Q k H'
theorem Vb {op:CmpOp} {r:R2} (ho:OpR X (compareOp op) r) (ha:PE X a ta) (hb:PE X b tb) (hm:behindInMarks op b=false):PT X (.Compare a [op] [b] pos) (uJ (tOp r ta tb)):=by
 intro pins s σ H Q I h;refine wpAny_isTrue_Compare1 (thn (ha pins s σ H _ I h) fun v s1 ⟨x,H1,I1,r1,q1⟩=>thn (hb pins s1 σ H1 _ I1 q1) fun u s2 ⟨y,H2,I2,r2,q2⟩=>
  thn (ho pins s2 σ H2 x y v u _ I2 r1 r2 q2) fun c s3 ⟨z,H3,I3,r3,zq⟩=>?_) hm
 obtain ⟨k,e,q3⟩:=BlQ.out zq;subst e;cases r3;exact wpAny_truthy_bool ⟨H3,I3,q3⟩
noncomputable def rL (K:PySem.W.Frag) (x:V) (H:Hp) (k:Bool):Prop:=
 match x with
 | .non=>k=false
 | .bl b=>k=b
 | .int i=>k=(i != 0)
 | .str y=>y.length ≤ sizeLine∧k=((y.length:Int) != 0)
 | .byt y=>y.size ≤ sizeLine∧k=((y.size:Int) != 0)
 | .ref p=>(∃ xs,SqL K H p xs∧k = !xs.isEmpty)∨(∃ xs,SqT K H p xs∧k = !xs.isEmpty)∨∃ kvs,H p=some (.dK kvs)∧k = !kvs.isEmpty
 | _=>False
theorem By {κ:Type} {kvs:List (κ × V)} {vs:List (κ × Value)} (r:KV kvs vs):(!vs.isEmpty) = !kvs.isEmpty:=by
 cases r <;> rfl
theorem aq {xs:List V} {its:List Value} (r:Zc xs its):(!its.toArray.isEmpty) = !xs.isEmpty:=by
 cases r <;> simp
theorem Ln:(sizeLine:Nat) < 2 ^ 63:=by rw [sizeLine_eq];decide
theorem JI:OL X (fun x H Q=>∃ k,rL X.K x H k∧Q k H):=by
 intro pins s σ H x v Q I rx h;obtain ⟨k,e,q⟩:=h;have hl:=Ln;have hs:sizeLine=16777216:=sizeLine_eq;cases x with
 | non=>
  cases rx;have e':k=false:=e;subst e';exact truthy_none ⟨H,I,q⟩
 | bl b=>
  cases rx;have e':k=b:=e;subst e';exact wpAny_truthy_bool ⟨H,I,q⟩
 | int i=>
  obtain ⟨t,rfl⟩:=rx;have e':k=(i != 0):=e;subst e';exact PySem.P.truthy_int ⟨H,I,q⟩
 | str y=>
  obtain ⟨t,rfl⟩:=rx;obtain ⟨hy,e'⟩:y.length ≤ sizeLine∧k=((y.length:Int) != 0):=e;subst e';exact PySem.P.truthy_str (by omega) ⟨H,I.tok _,q⟩
 | byt y=>
  obtain ⟨t,rfl⟩:=rx;obtain ⟨hy,e'⟩:y.size ≤ sizeLine∧k=((y.size:Int) != 0):=e;subst e';exact PySem.W.truthy_bytes (by omega) ⟨H,I.tok _,q⟩
 | ref p=>
  cases rx;have e':(∃ xs,SqL X.K H p xs∧k = !xs.isEmpty)∨(∃ xs,SqT X.K H p xs∧k = !xs.isEmpty)∨∃ kvs,H p=some (.dK kvs)∧k = !kvs.isEmpty:=e;rcases e' with ⟨xs,hx,e'⟩ | ⟨xs,hx,e'⟩ | ⟨kvs,hx,e'⟩
  ·subst e';obtain ⟨its,r,pl,hz⟩:=I.list hx;have hlen:=r.length;exact wpAny_truthy_list pl.isList (by simp only [List.size_toArray];omega) ⟨H,I.tok _,by rw [aq r];exact q⟩
  ·subst e';obtain ⟨its,r,pl,hz⟩:=I.tuple hx;have hlen:=r.length;exact truthy_tuple pl (by simp only [List.size_toArray];omega) ⟨H,I.tok _,by rw [aq r];exact q⟩
  ·subst e';obtain ⟨hz,hS,vs,r,m⟩:kvs.length ≤ sizeLine∧(p == sysModules)=false∧∃ vs,KV kvs vs∧s.heap.DictOf (Nd X.prog X.w) p vs:=I.hok p _ hx;have hlen:kvs.length=vs.length:=Paired.length r;exact wpAny_truthy_dict hS m (by omega) ⟨H,I.tok _,by rw [By r];exact q⟩
 | _=>exact (show False from e).elim
theorem vw (ha:PE X a ta) (he:∀ whole,isTrue a X.env whole=(do let v ← whole;standAt a.pos;holding [v] (truthy v))) :
  PT X a (fun σ H Q=>ta σ H fun x H'=>∃ k,rL X.K x H' k∧Q k H'):=by
 intro pins s σ H Q I h;exact isTrue_plain (thn (ha pins s σ H _ I h) fun v s1 ⟨x,H1,I1,r1,q1⟩=>JI pins s1 σ H1 x v Q I1 r1 q1) (he _)
theorem Ad:OpR X (binaryOp .Add) (fun x y H Q=>∃ i j,x=.str i∧y=.str j∧i.length + j.length ≤ sizeLine∧Q (.str (i ++ j)) H):=by
 intro pins s σ H x y v u Q I rx ry h;obtain ⟨i,j,rfl,rfl,hz,q⟩:=h;obtain ⟨t,rfl⟩:=rx;obtain ⟨t',rfl⟩:=ry;exact add_str (fun t' tk=>⟨.str (i ++ j),H,I.tok _,⟨_,rfl⟩,q⟩) hz
theorem Rm {x:V} {us:List Value} (r:Zc [x] us):∃ u,us=[u]∧ad x u:=by
 cases r with
 | cons r1 r2=>cases r2;exact ⟨_,rfl,r1⟩
theorem fK {x y:V} {us:List Value} (r:Zc [x,y] us):∃ u w',us=[u,w']∧ad x u∧ad y w':=by
 cases r with
 | cons r1 r2=>
  cases r2 with
  | cons r3 r4=>cases r4;exact ⟨_,_,rfl,r1,r3⟩
theorem Js (hc:X.calm=true):lj X (.builtin "max") (fun xs H Q=>∃ i j,xs=[.int i,.int j]∧Q (.int (if j > i then j else i)) H):=by
 intro pins s σ H xs us Q I r h;obtain ⟨i,j,rfl,q⟩:=h;obtain ⟨u,w',rfl,⟨t,rfl⟩,⟨t',rfl⟩⟩:=fK r;refine max_two_ints (I.ok.hd hc) fun h' tk k=>⟨_,H,I.kept k,?_,q⟩
 by_cases hj:j > i
 ·rw [if_pos hj,if_pos hj];exact ⟨_,rfl⟩
 ·rw [if_neg hj,if_neg hj];exact ⟨_,rfl⟩
theorem Gg:lj X (.type "str") (fun xs H Q=>∃ i,xs=[.int i]∧i.natAbs.log2 < 1920∧Q (.str (toString i)) H):=by
 intro pins s σ H xs us Q I r h;obtain ⟨i,rfl,hz,q⟩:=h;obtain ⟨u,rfl,t,rfl⟩:=Rm r;exact PySem.P.str_of_int hz ⟨.str _,H,I.tok _,⟨_,rfl⟩,q⟩
end
end L2
namespace L2
open PySem PySem.Spec PyProof.Rows
structure aG (h:Heap) (x dx C:Addr) (mA:Str→Option Value):Prop where
 obj:h.get? x=some (PySem.W.instObj C dx)
 ns:h.Ns1 dx mA
 ne:dx ≠ x
theorem yz {h:Heap} {dx:Addr} {mA:Str→Option Value} (n:h.Ns1 dx mA):∃ od,h.get? dx=some od∧∀ name,PySem.W.lookIn name od=some (mA name):=by
 obtain ⟨o,es,ep,ho,hd,hk,_,hm⟩:=n;refine ⟨o,ho,fun name=>?_⟩;have e:=hm name;unfold nsFind findBy at e;rw [← Array.find?_toList] at e;unfold PySem.W.lookIn;rw [hd];dsimp only;split
 ·rename_i y q;rw [q] at e;exact congrArg some e
 ·rename_i q;rw [q] at e;have a:es.toList.any (·.refKey)=false:=by
   rw [List.any_eq_false];intro y hy;obtain ⟨z,t,hkey⟩:=hk y (Array.mem_toList_iff.mp hy);simp [DictEntry.refKey,hkey]
  have a':¬ es.toList.any (·.refKey)=true:=by rw [a];exact Bool.false_ne_true
  rw [if_neg a'];exact congrArg some e
theorem aG.look {h:Heap} {x dx C:Addr} {mA:Str→Option Value} (I:aG h x dx C mA):∃ od,PySem.W.InstAt h x (PySem.W.instObj C dx) C (some od)∧∀ name,PySem.W.lookIn name od=some (mA name):=
 let ⟨od,ho,hl⟩:=yz I.ns
 ⟨od,⟨I.obj,rfl,rfl,ho⟩,hl⟩
section
variable {prog:Program} {w:World} {A:Around} {E:Value→Shared→Prop} {s:Shared} {K:PySem.W.Frag} {x dx C f:Addr} {mA:Str→Option Value} {name:Str} {v:Value}
theorem iG {expr:Bool} {Q:Value→Shared→Prop} (X:K.In s.heap) (I:aG s.heap x dx C mA) (hg:PySem.W.plainGet K C name=true) (hh:PySem.W.hasDictIn K C=true)
  (ha:PySem.W.findIn K (.ref C) name=some none) (hv:mA name=some v) (hv':PySem.W.handedIn v=true) (h:Q v { s with toks:=s.toks + 1 }) :
  wpAny (model prog w) A (getAttr (.ref x) name expr) Q E s:=by
 obtain ⟨od,J,hl⟩:=I.look;exact PySem.W.get_value X J (PySem.W.plainGet_of hg).1 (PySem.W.findObj_own hh ha rfl (by rw [hl,hv])) hv' h
theorem ZD {pl:Sem Bool} {Q:Value × List Value→Shared→Prop} (X:K.In s.heap) (I:aG s.heap x dx C mA) (hg:PySem.W.plainGet K C name=true)
  (hf:PySem.W.findIn K (.ref C) name=some (some (.ref f))) (ht:PySem.W.isFn K (.ref f)=true) (hv:mA name=none) (h:Q (.ref f,[.ref x]) s) :
  wpAny (model prog w) A (getMethod (.ref x) name pl) Q E s:=by
 obtain ⟨od,J,hl⟩:=I.look;exact PySem.W.method_fn X J (PySem.W.plainGet_of hg).1 (PySem.W.plainGet_of hg).2 hf (beq_iff_eq.mp ht) (by show (PySem.W.lookIn name od).map (·.isSome)=some false;rw [hl,hv];rfl) h
theorem sH {ns:List Str} {Q:Unit→Shared→Prop} (X:K.In s.heap) (I:aG s.heap x dx C mA)
  (hs:PySem.W.findIn K (.ref C) "__setattr__"=some (some (.builtin "object.__setattr__"))) (hp:PySem.W.plainOver K C=true) (ht:PySem.W.takerIn K C name=some none) (hh:PySem.W.hasDictIn K C=true)
  (hw:PySem.Within mA ns) (hsz:ns.length ≤ sizeLine)
  (h:∀ h',aG h' x dx C (fun y=>if y=name then some v else mA y)→Heap.SameBut dx s.heap h'→Q () { s with heap:=h',toks:=s.toks + 2 }) :
  wpAny (model prog w) A (setAttr (.ref x) name v) Q E s:=by
 obtain ⟨od,J,hl⟩:=I.look;refine PySem.W.set_plain X J hs (PySem.W.osa_open (s:={ s with toks:=s.toks + 1 }) (r:=none) X J hp ht fun b=>?_);obtain ⟨cd,hc,hd'⟩:=PySem.W.any_some hh;have hx:s.heap.get? x=some ⟨.ref C,some dx,.plain,#[]⟩:=I.obj;refine wpAny_bind (wpAny_pure (wpAny_bind (wpAny_bind (wpAny_loadPart hx (wpAny_bind (PySem.W.Looks.here (s:={ s with toks:=s.toks + 1 }) (PySem.W.looks_clsIn X hc) ?_))))));rw [hd'];refine wpAny_pure (a:=some dx) (wpAny_bind (wpAny_pure (wpAny_bind ?_)));refine wpAny_nsSet1 (s:={ s with toks:=s.toks + 1 }) I.ns fun h' hn2 hs2=>?_
 obtain ⟨oD,esD,epD,hoD,hdD,hcD⟩:=hn2.count (PySem.Within.cons name v hw);refine wpAny_bind (wpAny_lookBehind hoD (by rw [hdD];exact pastItsLine_dict (Nat.le_trans hcD (by rw [List.length_cons];omega))) ?_);exact wpAny_pure (h _ ⟨(hs2.2 _ (Ne.symm I.ne)).trans I.obj,hn2,I.ne⟩ hs2)
theorem KD {R:Result→Shared→Prop} {vs:List Value} {kw:List (Str × Value)} (X:K.In s.heap) (hm:PySem.W.makesIn K C=true)
  (hi:PySem.W.findIn K (.ref C) "__init__"=some (some (.ref f))) (hf:PySem.W.typeIn K (.ref f)=some (.type "function"))
  (h:codeAny (model prog w) (A.under (.builtin "type.__call__" ⟨.ref C :: vs,kw⟩)) (.call (.ref f) ⟨.ref (s.heap.objs.size + 1) :: vs,kw⟩) (PySem.W.InitBack (s.heap.objs.size + 1) R)
   { s with heap:=(s.heap.push PySem.W.emptyDict).push (PySem.W.instObj C s.heap.objs.size) }) :
  codeAny (model prog w) A (.call (.ref C) ⟨vs,kw⟩) R s:=by
 obtain ⟨hh,g,d,t,os⟩:=s;exact PySem.W.make_core (PySem.W.makes_of X hm) (PySem.W.looks_findIn X hi) (fun self=>PySem.W.bind_fn X self hf) (.inl rfl) h
end
noncomputable def Qh (f:Str) (v:V):List (Str × V)→List (Str × V)
 | []=>[(f,v)]
 | (g,x) :: r=>if g=f then (g,v) :: r else (g,x) :: Qh f v r
theorem Rn (f g:Str) (v:V):∀ fs:List (Str × V),(Qh f v fs).lookup g=if g=f then some v else fs.lookup g
 | []=>by
  show List.lookup g [(f,v)]=_;by_cases h:g=f
  ·have hb:(g == f)=true:=beq_iff_eq.mpr h;simp only [List.lookup,hb,if_pos h]
  ·have hb:(g == f)=false:=beq_eq_false_iff_ne.mpr h;simp only [List.lookup,hb,if_neg h]
 | (k,x) :: r=>by
  have ih:=Rn f g v r;rw [show Qh f v ((k,x) :: r)=(if k=f then (k,v) :: r else (k,x) :: Qh f v r) from rfl];by_cases hk:k=f
  ·rw [if_pos hk];by_cases h:g=k
   ·have hb:(g == k)=true:=beq_iff_eq.mpr h;simp only [List.lookup,hb,if_pos (h.trans hk)]
   ·have hb:(g == k)=false:=beq_eq_false_iff_ne.mpr h;simp only [List.lookup,hb,if_neg (fun e:g=f=>h (e.trans hk.symm))]
  ·rw [if_neg hk];by_cases h:g=k
   ·have hb:(g == k)=true:=beq_iff_eq.mpr h;simp only [List.lookup,hb,if_neg (fun e:g=f=>hk (h.symm.trans e))]
   ·have hb:(g == k)=false:=beq_eq_false_iff_ne.mpr h;simp only [List.lookup,hb];exact ih
theorem so (f:Str) (v:V):∀ fs:List (Str × V),f ∈ (Qh f v fs).map (·.1)∧∀ g,g ∈ fs.map (·.1)→g ∈ (Qh f v fs).map (·.1)
 | []=>⟨by simp [Qh],fun g h=>by simp at h⟩
 | (k,x) :: r=>by
  obtain ⟨i1,i2⟩:=so f v r;rw [show Qh f v ((k,x) :: r)=(if k=f then (k,v) :: r else (k,x) :: Qh f v r) from rfl];by_cases hk:k=f
  ·rw [if_pos hk];subst hk;exact ⟨by simp,fun g h=>by simpa using h⟩
  ·rw [if_neg hk];refine ⟨?_,fun g h=>?_⟩
   ·rw [List.map_cons];exact List.mem_cons_of_mem _ i1
   ·rw [List.map_cons] at h ⊢;rcases List.mem_cons.mp h with e | e
    ·exact List.mem_cons.mpr (.inl e)
    ·exact List.mem_cons_of_mem _ (i2 g e)
theorem Bk (f:Str) (v:V):∀ fs:List (Str × V),(Qh f v fs).length ≤ fs.length + 1
 | []=>by simp [Qh]
 | (k,x) :: r=>by
  have ih:=Bk f v r;rw [show Qh f v ((k,x) :: r)=(if k=f then (k,v) :: r else (k,x) :: Qh f v r) from rfl];by_cases hk:k=f
  ·rw [if_pos hk,List.length_cons,List.length_cons];omega
  ·rw [if_neg hk,List.length_cons,List.length_cons];omega
theorem Vp.some_of {v:V} {o:Option Value} (r:Vp (some v) o):∃ u,o=some u∧ad v u:=by
 cases o with
 | none=>exact (show False from r).elim
 | some u=>exact ⟨u,rfl,r⟩
theorem Vp.none_of {o:Option Value} (r:Vp none o):o=none:=by
 cases o with
 | none=>rfl
 | some u=>exact (show False from r).elim
theorem pB {v:V} {u:Value} (r:ad v u):PySem.W.handedIn u=true:=by
 cases v with
 | non=>cases (show u=Value.none from r);rfl
 | bl b=>cases (show u=Value.bool b from r);rfl
 | int i=>obtain ⟨t,e⟩:=(show ∃ t,u=Value.int i t from r);cases e;rfl
 | str x=>obtain ⟨t,e⟩:=(show ∃ t,u=Value.str x t from r);cases e;rfl
 | byt b=>obtain ⟨t,e⟩:=(show ∃ t,u=Value.bytes b t from r);cases e;rfl
 | flt b=>obtain ⟨t,e⟩:=(show ∃ t,u=Value.float b t from r);cases e;rfl
 | ref a=>cases (show u=Value.ref a from r);rfl
 | ty n=>cases (show u=Value.type n from r);rfl
section
variable {P:Program} {w:World} {H H':Hp} {h h':Heap} {a C dx:Addr} {fs fs':List (Str × V)}
theorem Ru (hok:HOk P w H h) (e:H a=some (.ins C dx fs)):∃ mA,aG h a dx C mA∧(∀ f,Vp (fs.lookup f) (mA f))∧PySem.Within mA (fs.map (·.1))∧fs.length ≤ 1000∧H dx=some (.own a):=by
 obtain ⟨d,z,ne,ob,mA,n,r,q⟩:=(show Kd P w H h a (.ins C dx fs) from hok a _ e);exact ⟨mA,⟨ob,n,ne⟩,r,q,z,d⟩
end
structure Cls (K:PySem.W.Frag) (C:Addr):Prop where
 pg:PySem.W.plainGet K C Str.empty=true
 hd:PySem.W.hasDictIn K C=true
 po:PySem.W.plainOver K C=true
 sa:PySem.W.findIn K (.ref C) "__setattr__"=some (some (.builtin "object.__setattr__"))
theorem Cls.get {K:PySem.W.Frag} {C:Addr} (c:Cls K C) (f:Str):PySem.W.plainGet K C f=true:=c.pg
noncomputable def Nb (K:PySem.W.Frag) (C:Addr) (f:Str):Prop:=PySem.W.findIn K (.ref C) f=some none
theorem Nb.taker {K:PySem.W.Frag} {C:Addr} {f:Str} (n:Nb K C f):PySem.W.takerIn K C f=some none:=by
 unfold PySem.W.takerIn;rw [show PySem.W.findIn K (.ref C) f=some none from n];rfl
structure Con (K:PySem.W.Frag) (C:Addr) (f:Str) (v:V) (u:Value):Prop where
 at_:PySem.W.findIn K (.ref C) f=some (some u)
 rel:ad v u
 get:PySem.W.specialIn K u "__get__"=some none
 cp:PySem.W.copiedNames.contains f=false
structure Lr (K:PySem.W.Frag) (C:Addr) (m:Str) (f:Addr):Prop where
 at_:PySem.W.findIn K (.ref C) m=some (some (.ref f))
 fn:PySem.W.isFn K (.ref f)=true
 kp:PySem.W.keepIn K (.ref f)=true
section
variable {X:Cx} {pins:List (Addr × Obj)} {σ:St} {H:Hp} {s:Shared} {a C dx:Addr} {fs:List (Str × V)} {f:Str} {v:V} {A:Around} {E:Value→Shared→Prop}
theorem iq {b:Bool} {Q:Value→Shared→Prop} (I:Inv X pins σ H s) (e:H a=some (.ins C dx fs)) (c:Cls X.K C) (n:Nb X.K C f) (l:fs.lookup f=some v)
  (h:∀ u s',Inv X pins σ H s'→ad v u→Q u s'):wpAny (model X.prog X.w) A (getAttr (.ref a) f b) Q E s:=by
 obtain ⟨mA,O,r,_,_,_⟩:=Ru I.hok e;obtain ⟨u,hu,ru⟩:=Vp.some_of (v:=v) (o:=mA f) (by rw [← l];exact r f);exact iG I.kIn O (c.get f) c.hd n hu (pB ru) (h u _ (I.tok _) ru)
theorem fm {m:Str} {g:Addr} {pl:Sem Bool} {Q:Value × List Value→Shared→Prop} (I:Inv X pins σ H s) (e:H a=some (.ins C dx fs)) (c:Cls X.K C) (k:Lr X.K C m g) (l:fs.lookup m=none)
  (h:Q (.ref g,[.ref a]) s):wpAny (model X.prog X.w) A (getMethod (.ref a) m pl) Q E s:=by
 obtain ⟨mA,O,r,_,_,_⟩:=Ru I.hok e;have hn:mA m=none:=Vp.none_of (by rw [← l];exact r m);exact ZD I.kIn O (c.get m) k.at_ k.fn hn h
theorem jq {y:V} {u:Value} {Q:Unit→Shared→Prop} (I:Inv X pins σ H s) (e:H a=some (.ins C dx fs)) (c:Cls X.K C) (n:Nb X.K C f) (hl:fs.length < 1000) (ry:ad y u)
  (h:∀ s',Inv X pins σ (upd H a (.ins C dx (Qh f y fs))) s'→Q () s'):wpAny (model X.prog X.w) A (setAttr (.ref a) f u) Q E s:=by
 obtain ⟨mA,O,r,wi,_,ho⟩:=Ru I.hok e;have hz:(fs.map (·.1)).length ≤ sizeLine:=by rw [List.length_map,sizeLine_eq];omega
 refine sH I.kIn O c.sa c.po n.taker c.hd wi hz fun h' O' sb=>h _ ?_
 have hd:∃ o,h'.get? dx=some o:=let ⟨o,_,_,e',_⟩:=O'.ns;⟨o,e'⟩;refine I.write (x:=a) (e:=dx) (by rw [e];exact True.intro) (.inr ho) (fun b q hb z=>(sb.2 b hb).trans z) hd ?_;refine ⟨by rw [ub O.ne];exact ho,?_,O.ne,O'.obj,_,O'.ns,fun g=>?_,fun g hg=>?_⟩
 ·have:=Bk f y fs;omega
 ·show Vp ((Qh f y fs).lookup g) (if g=f then some u else mA g);rw [Rn];by_cases q:g=f
  ·rw [if_pos q,if_pos q];exact ry
  ·rw [if_neg q,if_neg q];exact r g
 ·by_cases q:g=f
  ·rw [q];exact (so f y fs).1
  ·refine (so f y fs).2 g (wi g fun z=>hg ?_);show (if g=f then some u else mA g)=none;rw [if_neg q];exact z
theorem Inv.made (I:Inv X pins σ H s):Inv X pins σ (upd (upd H s.heap.objs.size (.own (s.heap.objs.size + 1))) (s.heap.objs.size + 1) (.ins C s.heap.objs.size []))
  { s with heap:=(s.heap.push PySem.W.emptyDict).push (PySem.W.instObj C s.heap.objs.size) }:=by
 have e1:(s.heap.push PySem.W.emptyDict).get? s.heap.objs.size=some PySem.W.emptyDict:=Heap.get?_push_size s.heap rfl;have e2:((s.heap.push PySem.W.emptyDict).push (PySem.W.instObj C s.heap.objs.size)).get? (s.heap.objs.size + 1)=some (PySem.W.instObj C s.heap.objs.size):=by
  have:=Heap.get?_push_size (s.heap.push PySem.W.emptyDict) (o:=PySem.W.instObj C s.heap.objs.size) rfl;rwa [Heap.size_push] at this
 have e3:(s.heap.push PySem.W.emptyDict).Ns s.heap.objs.size (fun _=>none):=⟨PySem.W.emptyDict,#[],_,e1,rfl,(fun e he=>absurd he (by simp)),fun _=>rfl⟩;have I1:=I.laid (a:=s.heap.objs.size) (o:=.own (s.heap.objs.size + 1)) (h':=s.heap.push PySem.W.emptyDict) (t':=s.toks) (fun b u q=>Heap.get?_push_of_some _ q) (Nat.le_refl _) ⟨_,e1⟩;refine I1.laid (a:=s.heap.objs.size + 1) (o:=.ins C s.heap.objs.size []) (t':=s.toks) (fun b u q=>Heap.get?_push_of_some _ q) (Nat.le_of_eq (Heap.size_push _ _)) ?_;have ne:s.heap.objs.size ≠ s.heap.objs.size + 1:=Nat.ne_of_lt (Nat.lt_succ_self _);refine ⟨by rw [ub ne,db],Nat.zero_le _,ne,e2,fun _=>none,(Heap.Ns1.of_empty e3).at fun o q=>Heap.get?_push_of_some _ q,fun _=>True.intro,fun y hy=>absurd rfl hy⟩
theorem nG {prog:Program} {w:World} {env:Env} {e:Expr} {f:Str} {pos:Pos} {s:Shared} {Q:Value→Shared→Prop} (hb:attributeBase e f env (eval e env)=eval e env)
  (h:wpAny (model prog w) A (eval e env) (fun o s₁=>wpAny (model prog w) A (getAttr o f true) Q E s₁) E s):wpAny (model prog w) A (eval (.Attribute e f pos) env) Q E s:=
 Attribute_any_ h (by rw [arm_eval_Attribute,hb])
end
noncomputable def Mj (K:PySem.W.Frag) (H:Hp) (a:Addr) (f:Str) (v:V):Prop:=∃ C dx fs,H a=some (.ins C dx fs)∧Cls K C∧Nb K C f∧fs.lookup f=some v
noncomputable def yL (K:PySem.W.Frag) (ta:TE) (f:Str):TE:=fun σ H Q=>ta σ H fun x H1=>jh x fun a=>∃ v,Mj K H1 a f v∧Q v H1
noncomputable def mL (K:PySem.W.Frag) (ta tv:TE) (f:Str):TS:=fun D σ H=>tv σ H fun y H1=>ta σ H1 fun x H2=>jh x fun a=>∃ C dx fs,H2 a=some (.ins C dx fs)∧Cls K C∧Nb K C f∧fs.length < 1000 ∧
 D.nx σ (upd H2 a (.ins C dx (Qh f y fs)))
noncomputable def xL (X:Cx) (op:Operator) (rd:V→V→Hp→VK→Prop):Prop:=
 ∀ (pins:List (Addr × Obj)) (s:Shared) (σ:St) (H:Hp) (x y:V) (u v:Value) (Q:VK),Inv X pins σ H s→ad x u→ad y v→rd x y H Q→wpAny (model X.prog X.w) X.A (inplaceOp op u v) (EP X pins σ Q) X.xe s
noncomputable def kz (K:PySem.W.Frag) (ta tv:TE) (rd:V→V→Hp→VK→Prop) (f:Str):TS:=fun D σ H=>ta σ H fun x H1=>∃ a C dx fs v,x=.ref a∧H1 a=some (.ins C dx fs)∧Cls K C∧Nb K C f∧fs.lookup f=some v ∧
 tv σ H1 fun y H2=>rd v y H2 fun z H3=>∃ dx' fs',H3 a=some (.ins C dx' fs')∧fs'.length < 1000∧D.nx σ (upd H3 a (.ins C dx' (Qh f z fs')))
section
variable {X:Cx} {o e value:Expr} {f:Str} {pos pos' tpos:Pos} {ta tv:TE}
theorem Pb (he:PE X e ta) (hb:attributeBase e f X.env (eval e X.env)=eval e X.env):PE X (.Attribute e f pos) (yL X.K ta f):=by
 intro pins s σ H Q I h;refine nG hb (thn (he pins s σ H _ I h) fun u s1 hZ1=>?_);obtain ⟨x,H1,I1,rx,zq⟩:=hZ1;obtain ⟨a,ex,v,⟨C,dx,fs,ea,c,n,l⟩,q⟩:=jh.out zq;subst ex;obtain rfl:u=Value.ref a:=rx;exact iq I1 ea c n l fun u' s2 I2 ru=>⟨v,H1,I2,ru,q⟩
theorem Of (ha:PE X o ta) (hv:PE X value tv) (hs:swapsWith value (some (.Attribute o f pos')) pos.line X.env=pure false):PS X (.Assign [.Attribute o f pos'] value pos) (mL X.K ta tv f):=by
 intro pins s σ H D I h;refine plainObj_wpAny_Assign_Attribute (thn (hv pins s σ H _ I h) fun u s1 ⟨y,H1,I1,ry,q⟩=>thn (ha pins s1 σ H1 _ I1 q) fun ov s2 hZ1=>?_) hs;obtain ⟨x,H2,I2,rx,zq⟩:=hZ1;obtain ⟨a,ex,C,dx,fs,ea,c,n,l,q2⟩:=jh.out zq;subst ex;obtain rfl:ov=Value.ref a:=rx;exact jq I2 ea c n l ry fun s3 I3=>⟨σ,_,I3,q2⟩
theorem GA {op:Operator} {rd:V→V→Hp→VK→Prop} (ha:PE X o ta) (hv:PE X value tv) (hop:xL X op rd):PS X (.AugAssign (.Attribute o f tpos) op value pos) (kz X.K ta tv rd f):=by
 intro pins s σ H D I h;refine wpAny_AugAssign_AttributeAny (thn (ha pins s σ H _ I h) fun ov s1 hZ1=>?_);obtain ⟨x,H1,I1,rx,a,C,dx,fs,v,ex,ea,c,n,l,q⟩:=hZ1;subst ex;obtain rfl:ov=Value.ref a:=rx;refine iq I1 ea c n l fun u s2 I2 ru=>thn (hv pins s2 σ H1 _ I2 q) fun w3 s3 ⟨y,H2,I3,ry,q3⟩=>thn (hop pins s3 σ H2 v y u w3 _ I3 ru ry q3) fun w4 s4 hZ1=>?_
 obtain ⟨z,H3,I4,rz,dx',fs',ea',l',q4⟩:=hZ1;exact jq I4 ea' c n l' rz fun s5 I5=>⟨σ,_,I5,q4⟩
noncomputable def AL:V→V→Hp→VK→Prop:=fun x y H Q=>∃ i j,x=.int i∧y=.int j∧Q (.int (i + j)) H
theorem AJ:xL X .Add AL:=by
 rintro pins s σ H x y u v Q I rx ry ⟨i,j,rfl,rfl,q⟩;obtain ⟨t,rfl⟩:=(show ∃ t,u=Value.int i t from rx);obtain ⟨t',rfl⟩:=(show ∃ t',v=Value.int j t' from ry);exact PyProof.Rows.iadd_int ⟨.int (i + j),H,I.tok _,⟨_,rfl⟩,q⟩
end
section
variable {X:Cx} {pins:List (Addr × Obj)} {σ:St} {H:Hp} {s:Shared} {A:Around} {E:Value→Shared→Prop} {Q:Value→Shared→Prop} {c:Value} {b:Bool}
inductive Xy (K:PySem.W.Frag) (H:Hp):V→Value→Prop where
 | non:Xy K H .non (.type "NoneType")
 | bl (x:Bool):Xy K H (.bl x) (.type "bool")
 | int (i:Int):Xy K H (.int i) (.type "int")
 | str (x:Str):Xy K H (.str x) (.type "str")
 | flt (x:UInt64):Xy K H (.flt x) (.type "float")
 | lst {a:Addr} {xs:List V} (e:H a=some (.lst xs)):Xy K H (.ref a) (.type "list")
 | frz {a:Addr} {o:Obj} {xs:List V} (e:H a=some (.frz o (.lst xs))):Xy K H (.ref a) (.type "list")
 | tup {a:Addr} {xs:List V} (e:H a=some (.tup xs)):Xy K H (.ref a) (.type "tuple")
 | dK {a:Addr} {kvs:List (Key × V)} (e:H a=some (.dK kvs)):Xy K H (.ref a) (.type "dict")
 | dT {a:Addr} {kvs:List (List Key × V)} (e:H a=some (.dT kvs)):Xy K H (.ref a) (.type "dict")
 | ins {a C dx:Addr} {fs:List (Str × V)} (e:H a=some (.ins C dx fs)) (cl:Cls K C) (ha:PySem.W.findIn K (.ref C) "__class__"=some (some (.builtin "object.__class__")))
   (hn:PySem.W.specialIn K (.builtin "object.__class__") "__get__"=some (some (.builtin "getset_descriptor.__get__"))) (htk:PySem.W.takesIn K (.builtin "object.__class__")=some true)
   (hm:PySem.W.mroIn K C (.type "object")=some true):Xy K H (.ref a) (.ref C)
end
end L2
namespace L2
open PySem PySem.Spec PyProof.Rows
structure Ai (k:Nat) (A:Around):Prop where
 hd:A.handled=none
 dp:A.depth + 3 * k + 5 < recursionLimit
 un:A.units + 16 * k + 200 < cLine
theorem Ai.mono {j k:Nat} {A:Around} (r:Ai k A) (h:j ≤ k):Ai j A:=⟨r.hd,by have:=r.dp;omega,by have:=r.un;omega⟩
theorem Ai.deeper {k:Nat} {A:Around} (r:Ai (k + 1) A) (env:Env):Ai k (A.deeper env):=
 ⟨r.hd,by have:=r.dp;show A.depth + 1 + 3 * k + 5 < _;omega,by have:=r.un;show A.units + 3 + 16 * k + 200 < _;omega⟩
theorem Ai.in1 {k:Nat} {A:Around} (r:Ai (k + 1) A):Ai k A.in1:=
 ⟨r.hd,by have:=r.dp;show A.depth + 3 * k + 5 < _;omega,by have:=r.un;show A.units + 1 + 16 * k + 200 < _;omega⟩
theorem Cy {A:Around} {C:Addr} {us:List Value} {kw:List (Str × Value)}:(A.under (.builtin "type.__call__" ⟨.ref C :: us,kw⟩)).depth=A.depth + 1:=by
 first | rfl | simp [Around.under,Code.weight,Code.isCreation,Code.isGuard,Code.isCaller,Code.frames,Code.isFrame,guardIds]
theorem ay {A:Around} {C:Addr} {us:List Value} {kw:List (Str × Value)}:(A.under (.builtin "type.__call__" ⟨.ref C :: us,kw⟩)).units=A.units + 1:=by
 first | rfl | simp [Around.under,Code.cUnits,Code.frames,Code.isFrame]
theorem Ai.make {k:Nat} {A:Around} (r:Ai (k + 1) A) (C:Addr) (us:List Value) (kw:List (Str × Value)):Ai k (A.under (.builtin "type.__call__" ⟨.ref C :: us,kw⟩)):=
 ⟨r.hd,by have:=r.dp;rw [Cy];omega,by have:=r.un;rw [ay];omega⟩
theorem Ai.depth {k:Nat} {A:Around} (r:Ai k A):A.depth < recursionLimit:=by have:=r.dp;omega
theorem Ai.units {k:Nat} {A:Around} (r:Ai k A):A.units + 64 < cLine:=by have:=r.un;omega
noncomputable def RJ:TA:=fun _ H Q=>Q [] H
noncomputable def kI (ta:TE) (tr:TA):TA:=fun σ H Q=>ta σ H fun x H1=>tr σ H1 fun xs H2=>Q (x :: xs) H2
section
variable {X:Cx} {e:Expr} {es:List Expr} {te:TE} {t:TA} {pos:Pos}
theorem gb:PA X [] RJ:=fun _ _ _ _ H Q I h=>Calls.spliced_nil ⟨[],H,I,.nil,h⟩
theorem ab (ha:PE X e te) (hr:PA X es t) (hs:starEach (e :: es) X.env=(false,eval e X.env) :: starEach es X.env:=by rfl):PA X (e :: es) (kI te t):=by
 intro pos pins s σ H Q I h;rw [hs];show wpAny _ _ (spliced ((false,eval e X.env) :: backTo pos (starEach es X.env))) _ _ s;refine Calls.spliced_cons (thn (ha pins s σ H _ I h) fun u s1 hZ1=>?_);obtain ⟨x,H1,I1,r1,q1⟩:=hZ1;exact thn (hr pos pins s1 σ H1 _ I1 q1) fun us s2 ⟨xs,H2,I2,r2,q2⟩=>⟨x :: xs,H2,I2,.cons r1 r2,q2⟩
noncomputable def qL (t:TA):TE:=fun σ H Q=>t σ H fun xs H1=>xs.length ≤ sizeLine∧∀ p,H1 p=none→Q (.ref p) (upd H1 p (.tup xs))
noncomputable def zL (t:TA):TE:=fun σ H Q=>t σ H fun xs H1=>xs.length ≤ sizeLine∧∀ p,H1 p=none→Q (.ref p) (upd H1 p (.lst xs))
theorem Lc {x1} (h:PA X es t):PE X (.Tuple es x1 pos) (qL t):=by
 intro pins s σ H Q I hq;refine wpAny_Tuple_spliced (thn (h pos pins s σ H _ I hq) fun us s1 ⟨xs,H1,I1,r,z,q⟩=>⟨by rw [← r.length];exact z,?_⟩);have hf:H1 s1.heap.objs.size=none:=I1.hok.fresh (Nat.le_refl _);refine ⟨.ref s1.heap.objs.size,upd H1 s1.heap.objs.size (.tup xs),I1.laid (t':=s1.toks) (fun b u e=>Heap.get?_push_of_some _ e) (Nat.le_refl _) ?_,rfl,q _ hf⟩;exact ⟨z,us,r,⟨_,Heap.get?_push_size _ rfl,rfl,_,rfl⟩⟩
theorem yh (h:PA X es t):PE X (.List es pos) (zL t):=by
 intro pins s σ H Q I hq;refine wpAny_List_spliced (thn (h pos pins s σ H _ I hq) fun us s1 ⟨xs,H1,I1,r,z,q⟩=>⟨by rw [← r.length];exact z,?_⟩);have hf:H1 s1.heap.objs.size=none:=I1.hok.fresh (Nat.le_refl _);refine ⟨.ref s1.heap.objs.size,upd H1 s1.heap.objs.size (.lst xs),I1.laid (t':=s1.toks) (fun b u e=>Heap.get?_push_of_some _ e) (Nat.le_refl _) ?_,rfl,q _ hf⟩;exact ⟨z,us,0,r,Heap.get?_push_size _ rfl⟩
end
noncomputable abbrev Sp:=List V→Hp→VK→XK→Prop
noncomputable abbrev CXT:=List Env→Hp→Shared→XK→Value→Shared→Prop
structure jA (P:Program) (w:World) (K:PySem.W.Frag) (mg:Str→Option Value) (base:Heap) (A:Around) (outer:List Env) (s:Shared) (H:Hp):Prop where
 frames:A.frames=some outer
 mod:Mod K mg base
 bs:∀ b o,base.get? b=some o→s.heap.get? b=some o∧H b=none
 bsz:base.objs.size ≤ s.heap.objs.size
 funs:s.heap.FunFrames base outer
 frf:∀ b ∈ frs outer,H b=none
 hok:HOk P w H s.heap
 bare:AllBare s.gens
noncomputable def CE (outer:List Env) (P:Program) (w:World) (H:Hp) (s:Shared) (Q:VK) (u:Value) (s':Shared):Prop:=
 ∃ v H',s'.os=s.os∧AllBare s'.gens∧Un (frs outer) [] H H' s.heap s'.heap∧HOk P w H' s'.heap∧ad v u∧Q v H'
noncomputable def CR (CX:CXT) (outer:List Env) (P:Program) (w:World) (H:Hp) (s:Shared) (Q:VK) (E:XK) (r:Result) (s':Shared):Prop:=
 match r with
 | .ok (.ret u)=>CE outer P w H s Q u s'
 | .ok _=>False
 | .error e=>CX outer H s E e s'
structure Kb (P:Program) (w:World) (K:PySem.W.Frag) (mg:Str→Option Value) (base:Heap) (CX:CXT) (k:Nat) (f:Addr) (fd:FuncData) (ps:List Str) (sp:Sp):Prop where
 len:∀ vs H Q E,sp vs H Q E→vs.length=ps.length
 run:∀ (A:Around) (outer:List Env) (s:Shared) (H:Hp) (args:Args) (us:List Value) (vs:List V) (Q:VK) (E:XK),Ai k A→jA P w K mg base A outer s H→BindsTo s fd args (ps.zip us)→Zc vs us→sp vs H Q E →
  codeAny (model P w) A (.call (.ref f) args) (CR CX outer P w H s Q E) s
theorem Kb.mono {P:Program} {w:World} {K:PySem.W.Frag} {mg:Str→Option Value} {base:Heap} {CX:CXT} {j k:Nat} {f:Addr} {fd:FuncData} {ps:List Str} {sp:Sp} (F:Kb P w K mg base CX j f fd ps sp) (h:j ≤ k) :
  Kb P w K mg base CX k f fd ps sp:=⟨F.len,fun A outer s H args us vs Q E hr=>F.run A outer s H args us vs Q E (hr.mono h)⟩
theorem Kb.imp {P:Program} {w:World} {K:PySem.W.Frag} {mg:Str→Option Value} {base:Heap} {CX:CXT} {k:Nat} {f:Addr} {fd:FuncData} {ps:List Str} {sp sp':Sp} (F:Kb P w K mg base CX k f fd ps sp)
  (h:∀ vs H Q E,sp' vs H Q E→sp vs H Q E):Kb P w K mg base CX k f fd ps sp':=
 ⟨fun vs H Q E q=>F.len vs H Q E (h _ _ _ _ q),fun A outer s H args us vs Q E hr he hb hv hs=>F.run A outer s H args us vs Q E hr he hb hv (h _ _ _ _ hs)⟩
theorem jA.make {P:Program} {w:World} {K:PySem.W.Frag} {mg:Str→Option Value} {base:Heap} {A:Around} {outer:List Env} {s:Shared} {H:Hp} (e:jA P w K mg base A outer s H) (C:Addr) (us:List Value) (kw:List (Str × Value)) :
  jA P w K mg base (A.under (.builtin "type.__call__" ⟨.ref C :: us,kw⟩)) outer s H:=⟨by first | exact e.frames | (simpa [Around.under,Code.envs,Code.isFrame,pushEnvs] using e.frames),e.mod,e.bs,e.bsz,e.funs,e.frf,e.hok,e.bare⟩
theorem jA.in1 {P:Program} {w:World} {K:PySem.W.Frag} {mg:Str→Option Value} {base:Heap} {A:Around} {outer:List Env} {s:Shared} {H:Hp} (e:jA P w K mg base A outer s H) :
  jA P w K mg base A.in1 outer s H:=⟨e.frames,e.mod,e.bs,e.bsz,e.funs,e.frf,e.hok,e.bare⟩
section
variable {X:Cx} {pins:List (Addr × Obj)} {σ:St} {H:Hp} {s s':Shared}
theorem Inv.env0 (I:Inv X pins σ H s):jA X.prog X.w X.K X.mg X.base X.A X.stack s H:=
 ⟨I.ok.frames,I.ok.mod,I.bs,Nat.le_trans I.ok.bsz I.sz,I.stack,I.stkFree,I.hok,I.bare⟩
theorem Inv.after {Q:VK} {u:Value} (I:Inv X pins σ H s) (h:CE X.stack X.prog X.w H s Q u s'):EP X pins σ Q u s':=by
 obtain ⟨v,H',os,bare,un,hok,r,q⟩:=h;obtain ⟨hh,g,d,t,os'⟩:=s';obtain rfl:os'=s.os:=os;exact ⟨v,H',I.call (h':=hh) (g':=g) (d':=d) (t':=t) (ch:=[]) un hok bare (fun b z=>absurd z (by simp)),r,q⟩
end
noncomputable def UD (sp:Sp) (dvs:List V) (E:XK) (t:TA):TE:=fun σ H Q=>t σ H fun vs H1=>sp (vs ++ dvs) H1 Q E
noncomputable def OG (C:Addr) (m:Str) (sp:Sp) (dvs:List V) (E:XK) (ta:TE) (t:TA):TE:=fun σ H Q=>ta σ H fun x H1=>jh x fun a=>∃ dx fs,H1 a=some (.ins C dx fs)∧fs.lookup m=none ∧
 t σ H1 fun vs H2=>sp (x :: (vs ++ dvs)) H2 Q E
noncomputable def LI (C:Addr) (sp:Sp) (dvs:List V) (E:XK) (t:TA):TE:=fun σ H Q=>t σ H fun vs H1=>∀ x dx,H1 x=none→H1 dx=none→dx ≠ x →
 sp (.ref x :: (vs ++ dvs)) (upd (upd H1 dx (.own x)) x (.ins C dx [])) (fun v H2=>v=.non∧Q (.ref x) H2) E
noncomputable def Rb (K:PySem.W.Frag) (fd:FuncData) (ps:List Str) (ds:List Value):Prop:=
 ∀ (s:Shared) (us:List Value),K.In s.heap→(us ++ ds).length=ps.length→BindsTo s fd ⟨us,[]⟩ (ps.zip (us ++ ds))
theorem Rb.all {K:PySem.W.Frag} {fd:FuncData} {ps:List Str} (h:∀ us:List Value,us.length=ps.length→bindArgs fd ⟨us,[]⟩=pure (ps.zip us)):Rb K fd ps []:=fun s us _ hl=>by
 rw [List.append_nil] at hl ⊢;exact .of_eq (h us hl)
noncomputable def ol (CX:CXT) (X:Cx) (E:XK):Prop:=∀ (pins:List (Addr × Obj)) (σ:St) (H:Hp) (s:Shared) (e:Value) (s':Shared),Inv X pins σ H s→CX X.stack H s E e s'→X.xe e s'
section
variable {X:Cx} {CX:CXT} {k:Nat} {f C:Addr} {fd:FuncData} {ps:List Str} {sp:Sp} {dvs:List V} {ds:List Value} {E:XK} {x m:Str} {p pos apos:Pos} {e o:Expr} {es:List Expr} {ta:TE} {t:TA}
theorem Jt {pins:List (Addr × Obj)} {σ:St} {H:Hp} {s:Shared} {Q:VK} {us:List Value} {vs:List V} (F:Kb X.prog X.w X.K X.mg X.base CX k f fd ps sp) (hr:Ai k X.A) (hb:Rb X.K fd ps ds) (hd:Zc dvs ds) (hx:ol CX X E)
  (I:Inv X pins σ H s) (r:Zc vs us) (h:sp (vs ++ dvs) H Q E):wpAny (model X.prog X.w) X.A (call (.ref f) us) (EP X pins σ Q) X.xe s:=by
 have r2:Zc (vs ++ dvs) (us ++ ds):=r.append hd;have hl:(us ++ ds).length=ps.length:=by rw [← r2.length];exact F.len _ _ _ _ h
 refine wpAny_call (codeAny_mono (F.run X.A X.stack s H ⟨us,[]⟩ (us ++ ds) (vs ++ dvs) Q E hr I.env0 (hb s us I.kIn hl) r2 h) fun r s' hq=>?_);cases r with
 | error e=>exact hx pins σ H s e s' I hq
 | ok fl=>
  cases fl with
  | ret u=>exact I.after hq
  | next=>exact False.elim hq
  | brk=>exact False.elim hq
  | cont=>exact False.elim hq
theorem ZG (F:Kb X.prog X.w X.K X.mg X.base CX k f fd ps sp) (hr:Ai k X.A) (hg:Gl X x) (hm:X.mg x=some (.ref f)) (hk:PySem.W.keepIn X.K (.ref f)=true) (hb:Rb X.K fd ps ds) (hd:Zc dvs ds) (hx:ol CX X E)
  (ha:PA X (e :: es) t) (hdb:(x == ("__debug__" : Str))=false:=by decide) (he:starEach (e :: es) X.env=(false,eval e X.env) :: starEach es X.env:=by rfl) (hpl:(backTo pos (starEach es X.env)).any (·.1)=false:=by rfl) :
  PE X (.Call (.Name x p) (e :: es) [] pos) (UD sp dvs E t):=by
 intro pins s σ H Q I h;refine wpAny_Call_Name_kw (Ar I hg hm ?_ hdb);refine PySem.W.callWith_K (h₀:=X.base) I.ok.mod.kin hk (thn (ha pos pins s σ H _ I h) fun us s1 ⟨vs,H1,I1,r,q⟩=>⟨I1.kIn,?_⟩) he hpl;exact Jt F hr hb hd hx I1 r q
theorem Td {pl:Sem Bool} (he:PE X o ta) (c:Cls X.K C) (hm:Lr X.K C m f) (F:Kb X.prog X.w X.K X.mg X.base CX k f fd ps sp) (hr:Ai k X.A) (hb:Rb X.K fd ps ds) (hd:Zc dvs ds) (hx:ol CX X E) (ha:PA X (e :: es) t)
  (hst:starEach (e :: es) X.env=(false,eval e X.env) :: starEach es X.env:=by rfl) (hpl:(backTo pos (starEach es X.env)).any (·.1)=false:=by rfl)
  (ht:eval (.Call (.Attribute o m apos) (e :: es) [] pos) X.env=(do
   let ov ← eval o X.env
   standAt apos.atName
   let (f,first) ← holding [ov] (getMethod ov m pl)
   callWith pos f first (backTo pos (starEach (e :: es) X.env)) (backToKw pos (keywordEach [] X.env))):=by rfl) :
  PE X (.Call (.Attribute o m apos) (e :: es) [] pos) (OG C m sp dvs E ta t):=by
 intro pins s σ H Q I h;refine PySem.W.methodCall_KW (pl:=pl) (thn (he pins s σ H _ I h) fun u s1 hZ1=>?_) ht;obtain ⟨x,H1,I1,rx,zq⟩:=hZ1;obtain ⟨a,ex,dx,fs,ea,l,q⟩:=jh.out zq;subst ex;obtain rfl:u=Value.ref a:=rx;refine fm I1 ea c hm l ?_;refine PySem.W.callWith_K (first:=[.ref a]) (h₀:=X.base) I.ok.mod.kin hm.kp (thn (ha pos pins s1 σ H1 _ I1 q) fun us s2 ⟨vs,H2,I2,r,q2⟩=>⟨I2.kIn,?_⟩) hst hpl;exact Jt (us:=.ref a :: us) (vs:=.ref a :: vs) F hr hb hd hx I2 (.cons rfl r) q2
theorem Rh {pl:Sem Bool} (he:PE X o ta) (c:Cls X.K C) (hm:Lr X.K C m f) (F:Kb X.prog X.w X.K X.mg X.base CX k f fd ps sp) (hr:Ai k X.A) (hb:Rb X.K fd ps ds) (hd:Zc dvs ds) (hx:ol CX X E)
  (ht:eval (.Call (.Attribute o m apos) [] [] pos) X.env=(do
   let ov ← eval o X.env
   standAt apos.atName
   let (f,first) ← holding [ov] (getMethod ov m pl)
   callWith pos f first (backTo pos (starEach [] X.env)) (backToKw pos (keywordEach [] X.env))):=by rfl) :
  PE X (.Call (.Attribute o m apos) [] [] pos) (OG C m sp dvs E ta RJ):=by
 intro pins s σ H Q I h;refine PySem.W.methodCall_KW (pl:=pl) (thn (he pins s σ H _ I h) fun u s1 hZ1=>?_) ht;obtain ⟨x,H1,I1,rx,zq⟩:=hZ1;obtain ⟨a,ex,dx,fs,ea,l,q⟩:=jh.out zq;subst ex;obtain rfl:u=Value.ref a:=rx;refine fm I1 ea c hm l ?_;exact PySem.W.callWith_K0 (first:=[.ref a]) I1.kIn hm.kp (Jt (us:=[.ref a]) (vs:=[.ref a]) F hr hb hd hx I1 (.cons rfl .nil) q)
structure Mk (K:PySem.W.Frag) (C f:Addr):Prop where
 makes:PySem.W.makesIn K C=true
 init:PySem.W.findIn K (.ref C) "__init__"=some (some (.ref f))
 fn:PySem.W.isFn K (.ref f)=true
 kp:PySem.W.keepIn K (.ref C)=true
theorem qD {pins:List (Addr × Obj)} {σ:St} {H:Hp} {s:Shared} {Q:VK} {us:List Value} {vs:List V} (M:Mk X.K C f) (F:Kb X.prog X.w X.K X.mg X.base CX k f fd ps sp) (hr:Ai (k + 1) X.A) (hb:Rb X.K fd ps ds) (hd:Zc dvs ds)
  (hx:ol CX X E) (I:Inv X pins σ H s) (r:Zc vs us)
  (h:∀ x dx,H x=none→H dx=none→dx ≠ x→sp (.ref x :: (vs ++ dvs)) (upd (upd H dx (.own x)) x (.ins C dx [])) (fun v H2=>v=.non∧Q (.ref x) H2) E) :
  wpAny (model X.prog X.w) X.A (call (.ref C) us) (EP X pins σ Q) X.xe s:=by
 have hq:=h (s.heap.objs.size + 1) s.heap.objs.size (I.hok.fresh (Nat.le_succ _)) (I.hok.fresh (Nat.le_refl _)) (Nat.ne_of_lt (Nat.lt_succ_self _));have I2:=Inv.made (C:=C) I;have r2:Zc (V.ref (s.heap.objs.size + 1) :: (vs ++ dvs)) (Value.ref (s.heap.objs.size + 1) :: (us ++ ds)):=.cons rfl (r.append hd);have hl:(Value.ref (s.heap.objs.size + 1) :: us ++ ds).length=ps.length:=by
  have e:=r2.length;rw [F.len _ _ _ _ hq] at e;exact e.symm
 refine wpAny_call (KD (f:=f) I.kIn M.makes M.init (beq_iff_eq.mp M.fn) (codeAny_mono (F.run _ X.stack _ _ ⟨Value.ref (s.heap.objs.size + 1) :: us,[]⟩ (Value.ref (s.heap.objs.size + 1) :: (us ++ ds)) _ _ E (hr.make C us [])
  (I2.env0.make C us []) (hb _ (Value.ref (s.heap.objs.size + 1) :: us) I2.kIn hl) r2 hq) fun r s' hq'=>?_))
 cases r with
 | error e=>exact hx pins σ _ _ e s' I2 hq'
 | ok fl=>
  cases fl with
  | ret u=>
   obtain ⟨v,H',I3,rv,ev,q3⟩:=I2.after hq';subst ev;exact ⟨rv,⟨V.ref (s.heap.objs.size + 1),H',I3,rfl,q3⟩⟩
  | next=>exact False.elim hq'
  | brk=>exact False.elim hq'
  | cont=>exact False.elim hq'
theorem im (M:Mk X.K C f) (F:Kb X.prog X.w X.K X.mg X.base CX k f fd ps sp) (hr:Ai (k + 1) X.A) (hg:Gl X x) (hm:X.mg x=some (.ref C)) (hb:Rb X.K fd ps ds) (hd:Zc dvs ds) (hx:ol CX X E)
  (ha:PA X (e :: es) t) (hdb:(x == ("__debug__" : Str))=false:=by decide) (he:starEach (e :: es) X.env=(false,eval e X.env) :: starEach es X.env:=by rfl) (hpl:(backTo pos (starEach es X.env)).any (·.1)=false:=by rfl) :
  PE X (.Call (.Name x p) (e :: es) [] pos) (LI C sp dvs E t):=by
 intro pins s σ H Q I h;refine wpAny_Call_Name_kw (Ar I hg hm ?_ hdb);refine PySem.W.callWith_K (h₀:=X.base) I.ok.mod.kin M.kp (thn (ha pos pins s σ H _ I h) fun us s1 ⟨vs,H1,I1,r,q⟩=>⟨I1.kIn,?_⟩) he hpl;exact qD M F hr hb hd hx I1 r q
end
section
variable {X:Cx} {CX:CXT} {k:Nat} {f C:Addr} {fd:FuncData} {ps ks:List Str} {sp:Sp} {E:XK} {x m:Str} {p pos apos kpos:Pos} {e o:Expr} {es:List Expr} {kws:List Keyword} {te ta:TE} {t tk:TA} {nm:Option Str}
structure fL (K:PySem.W.Frag) (fd:FuncData) (ps ks:List Str) (g:List Value→List Value→List Value) (gV:List V→List V→List V):Prop where
 to:∀ (s:Shared) (us ws:List Value),K.In s.heap→(g us ws).length=ps.length→BindsTo s fd ⟨us,ks.zip ws⟩ (ps.zip (g us ws))
 rel:∀ {vs:List V} {us:List Value} {zs:List V} {ws:List Value},Zc vs us→Zc zs ws→Zc (gV vs zs) (g us ws)
variable {g:List Value→List Value→List Value} {gV:List V→List V→List V}
end
structure yb (N P:List Str) (sc:Scope):Prop where
 kind:sc.kind=.function
 co:sc.isCoroutine=false
 gen:sc.isGenerator=false
 nd:N.Nodup
 pre:N.take P.length=P
 par:∀ x ∈ P,sc.names.lookup x=some .local∨sc.names.lookup x=some .cell
 nofree:∀ y ∈ sc.names,y.2 ≠ .free
theorem Tt {kindOf:Str→Option NameKind} {x:Str}:∀ {binds:List (Str × Value)} {m:Str→Option Value},(∀ v,(x,v) ∉ binds)→bindL kindOf binds m x=m x
 | [],_,_=>rfl
 | (n,v) :: r,m,h=>by
  unfold bindL;rw [Tt fun w hw=>h w (List.mem_cons_of_mem _ hw)];split
  ·have:x ≠ n:=by rintro rfl;exact h v List.mem_cons_self
   simp [this]
  ·rfl
theorem Qt {kindOf:Str→Option NameKind} {x:Str}:∀ {binds:List (Str × Value)} {m:Str→Option Value},(∀ v,(x,v) ∉ binds)→bindC kindOf binds m x=m x
 | [],_,_=>rfl
 | (n,v) :: r,m,h=>by
  unfold bindC;rw [Qt fun w hw=>h w (List.mem_cons_of_mem _ hw)];split
  ·rfl
  ·have:x ≠ n:=by rintro rfl;exact h v List.mem_cons_self
   simp [this]
theorem ut {kindOf:Str→Option NameKind} {x:Str} {v:Value}:∀ {P:List Str} {vs:List Value} {i:Nat} {m:Str→Option Value},P.Nodup→P[i]? = some x→vs[i]? = some v→kindOf x=some .local →
  bindL kindOf (P.zip vs) m x=some v
 | [],_,_,_,_,h,_,_=>by simp at h
 | _ :: _,[],_,_,_,_,h,_=>by simp at h
 | p :: P,w :: vs,0,m,nd,h1,h2,hk=>by
  simp at h1 h2;subst h1;subst h2;show bindL kindOf ((p,w) :: P.zip vs) m p=_;unfold bindL;rw [Tt fun v hv=>(List.nodup_cons.mp nd).1 (List.of_mem_zip hv).1,if_pos hk];simp
 | p :: P,w :: vs,i + 1,m,nd,h1,h2,hk=>by
  show bindL kindOf ((p,w) :: P.zip vs) m x=_;unfold bindL;exact ut (i:=i) (List.nodup_cons.mp nd).2 (by simpa using h1) (by simpa using h2) hk
theorem ms {kindOf:Str→Option NameKind} {x:Str} {v:Value}:∀ {P:List Str} {vs:List Value} {i:Nat} {m:Str→Option Value},P.Nodup→P[i]? = some x→vs[i]? = some v→kindOf x ≠ some .local →
  bindC kindOf (P.zip vs) m x=some v
 | [],_,_,_,_,h,_,_=>by simp at h
 | _ :: _,[],_,_,_,_,h,_=>by simp at h
 | p :: P,w :: vs,0,m,nd,h1,h2,hk=>by
  simp at h1 h2;subst h1;subst h2;show bindC kindOf ((p,w) :: P.zip vs) m p=_;unfold bindC;rw [Qt fun v hv=>(List.nodup_cons.mp nd).1 (List.of_mem_zip hv).1,if_neg hk];simp
 | p :: P,w :: vs,i + 1,m,nd,h1,h2,hk=>by
  show bindC kindOf ((p,w) :: P.zip vs) m x=_;unfold bindC;exact ms (i:=i) (List.nodup_cons.mp nd).2 (by simpa using h1) (by simpa using h2) hk
noncomputable def start (N:List Str) (vs:List V):St:=vs.map some ++ List.replicate (N.length - vs.length) none
noncomputable def JG (CX:CXT) (P:Program) (w:World) (K:PySem.W.Frag) (mg:Str→Option Value) (base:Heap) (N:List Str) (qual:Str) (scope:Scope) (f:Addr) (cd:Value) (A:Around) (outer:List Env) (s:Shared) (H:Hp) (E:XK):Cx where
 prog:=P
 w:=w
 K:=K
 mg:=mg
 base:=base
 A:=A.deeper (envOfC qual scope s.heap.objs.size f cd)
 N:=N
 s₀:=s
 H₀:=H
 env:=envOfC qual scope s.heap.objs.size f cd
 outer:=outer
 stack:=envOfC qual scope s.heap.objs.size f cd :: outer
 ex:=[]
 calm:=true
 fn:=fun _=>true
 pn:=[]
 xe:=fun e s'=>wpAny (model P w) (A.deeper (envOfC qual scope s.heap.objs.size f cd)) (leaving (envOfC qual scope s.heap.objs.size f cd) e) (fun _ s''=>CX outer H s E e s'') (fun e' s''=>CX outer H s E e' s'') s'
theorem Xv {sc:Scope} {n:Nat} {x:Str} (h:sc.names.lookup x=some .cell):∃ c,(cellsFrom n sc.names []).lookup x=some c:=by
 have q:=PySem.W.cellsFrom_some sc.names n [] (.inl h);exact Option.isSome_iff_exists.mp q
theorem lC {CX:CXT} {P:Program} {w:World} {K:PySem.W.Frag} {mg:Str→Option Value} {base:Heap} {N ps:List Str} {qual:Str} {scope:Scope} {f:Addr} {cd:Value} {A:Around} {outer:List Env} {s s1:Shared} {H:Hp} {E:XK} {us:List Value} {vs:List V}
  (S:yb N ps scope) (hd:A.handled=none) (e0:jA P w K mg base A outer s H) (hl:vs.length=ps.length) (r:Zc vs us)
  (x:InCallC s s.heap.objs.size (bindL (envOfC qual scope s.heap.objs.size f cd).kindOf (ps.zip us) fun _=>none) (cellsFrom (s.heap.objs.size + 1) scope.names []) (bindC (envOfC qual scope s.heap.objs.size f cd).kindOf (ps.zip us) fun _=>none) s1) :
  Inv (JG CX P w K mg base N qual scope f cd A outer s H E) [] (start N vs) H s1:=by
 have hpl:ps.length ≤ N.length:=by have:=congrArg List.length S.pre;rw [List.length_take] at this;omega
 obtain ⟨h1,tk,rfl,hk⟩:=x.done;have noA:∀ b:Addr,b ∉ (JG CX P w K mg base N qual scope f cd A outer s H E).ex:=fun b z=>absurd (show b ∈ ([]:List Addr) from z) (by simp)
 refine ⟨⟨e0.mod,S.kind,rfl,rfl,Nat.le_refl _,fun y z c h1 h2=>?_,fun y hy=>?_,fun y c _ h=>?_,fun _=>hd,Around.frames_deeper e0.frames,.inr ⟨rfl,rfl⟩,fun b z=>absurd z (noA b),e0.bs,e0.bsz,fun b _ _=>noA b,fun b z=>absurd z (noA b),e0.funs,e0.frf⟩,
  rfl,e0.bare,Un.kept hk,⟨_,x.toInCall.ns,fun i y v h1 h2 h3=>?_⟩,fun y c h=>⟨_,x.cell y c h⟩,e0.hok.fresh (Nat.le_refl _),fun y c h=>?_,fun p hp=>absurd (show p ∈ ([]:List (Addr × Obj)) from hp) (by simp),e0.hok.kept hk,?_⟩
 ·exact name_of_addr x.apart (PySem.mem_of_lookup h1) (PySem.mem_of_lookup h2)
 ·have hy:scope.names.lookup y=some .cell∨scope.names.lookup y=some .free:=hy;rcases hy with hy | hy
  ·exact Xv hy
  ·exact absurd rfl (S.nofree _ (PySem.mem_of_lookup hy))
 ·exact Nat.le_of_lt (x.above y c (PySem.mem_of_lookup h))
 ·have hi:i < vs.length:=by
   unfold start at h2;by_cases hi:i < vs.length
   ·exact hi
   ·rw [List.getElem?_append_right (by simpa using hi)] at h2;rw [List.getElem?_replicate] at h2;split at h2 <;> cases h2
  have ha:vs[i]? = some v:=by
   unfold start at h2;rw [List.getElem?_append_left (by simpa using hi),List.getElem?_map] at h2;cases e:vs[i]? with
   | none=>rw [e] at h2;cases h2
   | some a=>rw [e] at h2;cases h2;rfl
  obtain ⟨u,hu,rv⟩:=r.get ha;have hp:ps[i]? = some y:=by
   rw [← S.pre,List.getElem?_take_of_lt (by omega)];exact h1
  have ndP:ps.Nodup:=by rw [← S.pre];exact S.nd.sublist (List.take_sublist _ _)
  refine ⟨u,rv,?_⟩;rcases S.par y (List.mem_of_getElem? hp) with k | k
  ·exact .inl ⟨k,ut ndP hp hu k⟩
  ·obtain ⟨c,e⟩:=Xv (n:=s.heap.objs.size + 1) k;refine .inr ⟨.inl k,c,e,?_⟩;have q:=x.cell y c e;rw [ms ndP hp hu (by show scope.names.lookup y ≠ _;rw [k];decide)] at q;exact q
 ·exact e0.hok.fresh (Nat.le_of_lt (x.above y c (PySem.mem_of_lookup h)))
 ·unfold start;show _=N.length;rw [List.length_append,List.length_map,List.length_replicate];omega
theorem iK {CX:CXT} {P:Program} {w:World} {K:PySem.W.Frag} {mg:Str→Option Value} {base:Heap} {k:Nat} {f:Addr} {name qual:Str} {params:Arguments} {body:List Stmt} {scope:Scope} {dV kV doc pm cdv ct oc:Value} {an od:Option Addr}
  {osl:Array (Option Value)} {N ps:List Str} {sp:Sp} (lk:K.lookup f=some ⟨oc,od,.func (PySem.W.fnOf name qual params body scope dV kV doc pm an cdv ct),osl⟩) (hcd:PySem.W.codeIn K cdv qual=true) (S:yb N ps scope)
  (len:∀ vs H Q E,sp vs H Q E→vs.length=ps.length)
  (hbody:∀ (A:Around) (outer:List Env) (s:Shared) (H:Hp) (vs:List V) (Q:VK) (E:XK),Ai k (A.deeper (envOfC qual scope s.heap.objs.size f cdv))→sp vs H Q E →
   ∃ t,PSs (JG CX P w K mg base N qual scope f cdv A outer s H E) body t∧t { nx:=fun _ H'=>Q .non H',rt:=Q } (start N vs) H) :
  Kb P w K mg base CX (k + 1) f (PySem.W.fnOf name qual params body scope dV kV doc pm an cdv ct) ps sp:=by
 refine ⟨len,fun A outer s H args us vs Q E hr e0 hb r hsp=>?_⟩;have hl:=len _ _ _ _ hsp;have KX:K.In s.heap:=e0.mod.kin.keeps fun b o e=>(e0.bs b o e).1
 have lim:s.heap.NoLimit:=e0.mod.nolimit.keeps fun b o e=>(e0.bs b o e).1
 have hkind:∀ y ∈ ps.zip us,scope.names.lookup y.1=some .local∨(scope.names.lookup y.1=some .cell∧((cellsFrom (s.heap.objs.size + 1) scope.names []).lookup y.1).isSome=true):=fun ⟨n,v⟩ hy=>by
  rcases S.par n (List.of_mem_zip hy).1 with q | q
  ·exact .inl q
  ·exact .inr ⟨q,PySem.W.cellsFrom_some _ _ _ (.inl q)⟩
 refine codeAny_call_function hr.depth (KX _ _ lk) rfl S.co S.gen rfl (PySem.W.codeRec_of KX hcd) (hb _ _ _ _ ?_);refine wpAny_newFunctionEnv_cells S.kind hkind fun env he s1 x=>?_
 subst he;refine ⟨lim.keeps x.toInCall.keep,codeAny_func ?_⟩;obtain ⟨t,ht,hq⟩:=hbody A outer s H vs Q E (hr.deeper _) hsp;have I:Inv (JG CX P w K mg base N qual scope f cdv A outer s H E) [] (start N vs) H s1:=lC S hr.hd e0 hl r x;refine wpAny_mono (ht [] s1 (start N vs) H _ I hq) (fun fl s' hs=>?_) fun e s' hs=>hs
 have fin:∀ {σ':St} {H':Hp} {v:V} {u:Value},Inv (JG CX P w K mg base N qual scope f cdv A outer s H E) [] σ' H' s'→ad v u→Q v H'→CE outer P w H s Q u s':=
  fun {σ' H' v u} J rv q=>⟨v,H',J.os,J.bare,J.base,J.hok,rv,q⟩
 cases fl with
 | ret u=>
  obtain ⟨v,σ',H',J,rv,q⟩:=hs;exact fin J rv q
 | next=>
  obtain ⟨σ',H',J,q⟩:=hs;exact fin (v:=V.non) (u:=Value.none) J rfl q
 | brk=>
  obtain ⟨_,_,_,q⟩:=hs;exact False.elim q
 | cont=>
  obtain ⟨_,_,_,q⟩:=hs;exact False.elim q
end L2
namespace L2
open PySem PySem.Spec PyProof.Rows
section
variable {X:Cx} {x:Str} {p pos:Pos} {e:Expr} {es:List Expr} {t:TA} {id T:String} {r:List V→Hp→VK→Prop}
noncomputable def tCB (r:List V→Hp→VK→Prop) (t:TA):TE:=fun σ H Q=>t σ H fun vs H1=>r vs H1 Q
theorem Ed (hc:lj X (.builtin id) r) (hg:Gl X x) (hm:X.mg x=none) (hv:bootBuiltins x=some (.builtin id)) (ha:PA X (e :: es) t) (hn:x ≠ "__name__" := by decide) (hdb:(x == ("__debug__" : Str))=false:=by decide)
  (he:starEach (e :: es) X.env=(false,eval e X.env) :: starEach es X.env:=by rfl) (hpl:(backTo pos (starEach es X.env)).any (·.1)=false:=by rfl):PE X (.Call (.Name x p) (e :: es) [] pos) (tCB r t):=by
 intro pins s σ H Q I h;refine wpAny_Call_Name_kw (Am I hg hm hv ?_ hn hdb);exact PyProof.Rows.callWith_builtin1 (thn (ha pos pins s σ H _ I h) fun us s1 ⟨vs,H1,I1,r1,q1⟩=>hc pins s1 σ H1 vs us Q I1 r1 q1) he hpl
theorem Ef (hc:lj X (.type T) r) (hg:Gl X x) (hm:X.mg x=none) (hv:bootBuiltins x=some (.type T)) (ha:PA X (e :: es) t) (hn:x ≠ "__name__" := by decide) (hdb:(x == ("__debug__" : Str))=false:=by decide)
  (he:starEach (e :: es) X.env=(false,eval e X.env) :: starEach es X.env:=by rfl) (hpl:(backTo pos (starEach es X.env)).any (·.1)=false:=by rfl):PE X (.Call (.Name x p) (e :: es) [] pos) (tCB r t):=by
 intro pins s σ H Q I h;refine wpAny_Call_Name_kw (Am I hg hm hv ?_ hn hdb);exact PyProof.Rows.callWith_type1 (thn (ha pos pins s σ H _ I h) fun us s1 ⟨vs,H1,I1,r1,q1⟩=>hc pins s1 σ H1 vs us Q I1 r1 q1) he hpl
end
end L2
namespace HT
open PySem PyProof.Rows
section
open PySem.SeqAt
open PySem.AutoSeq1 (wpAny_loadPart')
open PySem.MeetsSeq PySem.MeetsSeq2 PySem.MeetsSeq3
end
section
variable {prog:Program} {w:World} {A:Around} {E:Value→Shared→Prop} {s:Shared}
theorem cat_tup {t b:Addr} {vs ws:List Value} {Q:Value→Shared→Prop} (ht:IsTup s.heap t vs.toArray) (hb:IsTup s.heap b ws.toArray) (hv:vs ≠ [])
  (h1:ws=[]→Q (.ref t) s) (h2:ws ≠ []→Q (.ref s.heap.objs.size) { s with heap:=s.heap.push { cls:=.type "tuple",data:=.seq (vs ++ ws).toArray } })
  (hsz:vs.length + ws.length ≤ sizeLine):wpAny (model prog w) A (binaryOp .Add (.ref t) (.ref b)) Q E s:=by
 obtain ⟨⟨cls,dd,data,sl⟩,ho,hc,n,hd⟩:=id ht;obtain ⟨⟨cls2,dd2,data2,sl2⟩,ho2,hc2,n2,hd2⟩:=id hb;simp only at hc hd hc2 hd2;subst hc hd hc2 hd2;have e:vs.toArray ++ ws.toArray=(vs ++ ws).toArray:=by simp
 by_cases hw:ws=[]
 ·exact concat_meets ⟨_,ho,rfl⟩ ⟨_,ho2,rfl⟩ noFill_tuple_add seq_tuple_add PySem.F.slot_tuple_add PySem.F.entry_tuple_add (PySem.F.args_tuple_add_2 _ _)
   (tuple_addW1 t b vs.toArray ws.toArray n n2 dd dd2 sl sl2 (by simpa using hv) (by simp [hw])) ⟨ho,ho2,h1 hw⟩
 ·refine concat_meets ⟨_,ho,rfl⟩ ⟨_,ho2,rfl⟩ noFill_tuple_add seq_tuple_add PySem.F.slot_tuple_add PySem.F.entry_tuple_add (PySem.F.args_tuple_add_2 _ _)
   (tuple_addW2 t b vs.toArray ws.toArray n n2 dd dd2 sl sl2 (by simpa using hv) (by simpa using hw) (by rw [List.size_toArray,List.size_toArray];exact hsz)) ⟨ho,ho2,?_⟩
  rw [e];exact h2 hw
noncomputable def sIx (n d:Nat):Option Int→Nat
 | none=>d
 | some v=>if v < 0 then (v + (n:Int)).toNat else min v.toNat n
end
end HT
namespace L2
open PySem PySem.Spec PyProof.Rows
noncomputable abbrev TO:=St→Hp→(Option Int→Hp→Prop)→Prop
noncomputable def PO (X:Cx) (e:Option Expr) (t:TO):Prop:=
 ∀ (pins:List (Addr × Obj)) (s:Shared) (σ:St) (H:Hp) (Q:Option Int→Hp→Prop),Inv X pins σ H s→t σ H Q →
  wpAny (model X.prog X.w) X.A (evalPart e X.env) (fun u s'=>∃ o H',Inv X pins σ H' s'∧IsPart u o∧Q o H') X.xe s
noncomputable def bC:TO:=fun _ H Q=>Q none H
noncomputable def xJ (t:TE):TO:=fun σ H Q=>t σ H fun x H1=>zi x fun i=>Q (some i) H1
theorem Qy {ns:List Int}:∀ {us:List Value},Zc (ns.map V.int) us→IntsAre us ns:=by
 induction ns with
 | nil=>intro us r;rw [List.map_nil] at r;cases r;exact .nil
 | cons n ns ih=>
  intro us r;rw [List.map_cons] at r;cases r with
  | cons r1 r2=>
   obtain ⟨t,e⟩:=r1;subst e;exact .cons n t (ih r2)
section
variable {X:Cx} {e:Expr} {te:TE} {lo hi:Option Expr} {tl th:TO} {pos p2:Pos}
theorem Fu:PO X none bC:=by
 intro pins s σ H Q I h;rw [evalPart_none];exact wpAny_pure ⟨none,H,I,.none,h⟩
theorem zn (h:PE X e te):PO X (some e) (xJ te):=by
 intro pins s σ H Q I hw;rw [evalPart_some];refine thn (h pins s σ H _ I hw) fun u s1 hZ1=>?_
 obtain ⟨x,H1,I1,r1,q1⟩:=hZ1;obtain ⟨i,rfl,q⟩:=zi.out q1;obtain ⟨t,rfl⟩:=r1;exact ⟨some i,H1,I1,.int i t,q⟩
noncomputable def SlR (X:Cx) (r:V→Option Int→Option Int→Hp→VK→Prop):Prop:=
 ∀ (pins:List (Addr × Obj)) (s:Shared) (σ:St) (H:Hp) (x:V) (v vl vu:Value) (lo hi:Option Int) (sl:Addr) (Q:VK),Inv X pins σ H s→ad x v→s.heap.IsSliceOf sl vl vu .none→IsPart vl lo→IsPart vu hi→r x lo hi H Q →
  ∃ T id,typeLookup (.type T) "__getitem__"=pure (some (.builtin id))∧s.TypeIs v T∧wpAny (model X.prog X.w) X.A (getItem v (.ref sl)) (EP X pins σ Q) X.xe s
theorem SlR.or {r r':V→Option Int→Option Int→Hp→VK→Prop} (h:SlR X r) (h':SlR X r'):SlR X (fun x lo hi H Q=>r x lo hi H Q∨r' x lo hi H Q):=by
 intro pins s σ H x v vl vu lo hi sl Q I rx hs pl pu q;rcases q with q | q
 ·exact h pins s σ H x v vl vu lo hi sl Q I rx hs pl pu q
 ·exact h' pins s σ H x v vl vu lo hi sl Q I rx hs pl pu q
noncomputable def tSl (r:V→Option Int→Option Int→Hp→VK→Prop) (te:TE) (tl th:TO):TE:=fun σ H Q=>te σ H fun x H1=>tl σ H1 fun l H2=>th σ H2 fun u H3=>r x l u H3 Q
theorem gn {r:V→Option Int→Option Int→Hp→VK→Prop} (hr:SlR X r) (he:PE X e te) (hl:PO X lo tl) (hu:PO X hi th):PE X (.Subscript e (.Slice lo hi none p2) pos) (tSl r te tl th):=by
 intro pins s σ H Q I h;refine Subscript_ (thn (he pins s σ H _ I h) fun v s1 hZ1=>?_);obtain ⟨x,H1,I1,r1,q1⟩:=hZ1;refine wpAny_Slice (thn (hl pins s1 σ H1 _ I1 q1) fun vl s2 ⟨l,H2,I2,pl,q2⟩=>thn (hu pins s2 σ H2 _ I2 q2) fun vu s3 hZ1=>?_);obtain ⟨u,H3,I3,pu,q3⟩:=hZ1;rw [evalPart_none];refine wpAny_pure ?_;have I4:Inv X pins σ H3 { s3 with heap:=s3.heap.push { cls:=.type "slice",data:=.fields #[vl,vu,.none] } }:=I3.kept (t':=s3.toks) fun b ob q=>Heap.get?_push_of_some _ q
 obtain ⟨T,id,hT,ht,hg⟩:=hr pins { s3 with heap:=s3.heap.push { cls:=.type "slice",data:=.fields #[vl,vu,.none] } } σ H3 x v vl vu l u s3.heap.objs.size Q I4 r1 (Heap.IsSliceOf.new ..) pl pu q3;show wpAny (model X.prog X.w) X.A (subscriptTail e (.Slice lo hi none p2) v (.ref s3.heap.objs.size)) (EP X pins σ Q) X.xe { s3 with heap:=s3.heap.push { cls:=.type "slice",data:=.fields #[vl,vu,.none] } };exact tail_any (ops:=[.ref s3.heap.objs.size,v]) ht hT hg (by with_unfolding_all rfl)
noncomputable def gG (xs:List V) (lo hi:Option Int):List V:=(xs.drop (HT.sIx xs.length 0 lo)).take (HT.sIx xs.length xs.length hi - HT.sIx xs.length 0 lo)
theorem Nu (xs:List V) (lo hi:Option Int):(gG xs lo hi).length ≤ xs.length:=by
 unfold gG;rw [List.length_take,List.length_drop];omega
noncomputable def MJ (K:PySem.W.Frag):R2:=fun x y H Q=>∃ a b xs ys,x=.ref a∧y=.ref b∧SqT K H a xs∧SqT K H b ys∧xs ≠ []∧xs.length + ys.length ≤ sizeLine ∧
 (ys=[]→Q (.ref a) H)∧(ys ≠ []→∀ p,H p=none→Q (.ref p) (upd H p (.tup (xs ++ ys))))
theorem Zc.nil_iff {xs:List V} {us:List Value} (r:Zc xs us):us=[]↔xs=[]:=by
 cases r with
 | nil=>simp
 | cons _ _=>simp
theorem AH:OpR X (binaryOp .Add) (MJ X.K):=by
 intro pins s σ H x y v u Q I rx ry h;obtain ⟨a,b,xs,ys,rfl,rfl,ha,hb,hx,hz,q1,q2⟩:=h;cases rx;cases ry;obtain ⟨its,r1,p1,_⟩:=I.tuple ha;obtain ⟨its2,r2,p2,_⟩:=I.tuple hb;refine HT.cat_tup p1 p2 (fun z=>hx (r1.nil_iff.mp z)) (fun z=>⟨.ref a,H,I,rfl,q1 (r2.nil_iff.mp z)⟩) (fun z=>?_) (by rw [← r1.length,← r2.length];exact hz);refine ⟨.ref s.heap.objs.size,_,I.laid (t':=s.toks) (o:=.tup (xs ++ ys)) (fun b ob q=>Heap.get?_push_of_some _ q) (Nat.le_refl _) ?_,rfl,q2 (fun w=>z (r2.nil_iff.mpr w)) _ (I.hok.fresh (Nat.le_refl _))⟩;exact ⟨by rw [List.length_append];exact hz,_,r1.append r2,IsTup.new _ _⟩
end
end L2
namespace L2
open PySem PySem.Spec PyProof.Rows
noncomputable def ixN (n:Nat) (i:Int):Option Nat:=if 0 ≤ i then (if i < n then some i.toNat else none) else if -(n:Int) ≤ i then some (i + n).toNat else none
noncomputable def atI {α:Type} (xs:List α) (i:Int):Option α:=(ixN xs.length i).bind fun j=>xs[j]?
theorem iC {n:Nat} {i:Int} {j:Nat} (h:ixN n i=some j):seqIndex? i n=some j∧j < n∧-(n:Int) ≤ i∧i < n:=by
 unfold ixN at h;by_cases h0:0 ≤ i
 ·rw [if_pos h0] at h;by_cases h1:i < n
  ·rw [if_pos h1] at h;have e:i.toNat=j:=Option.some.inj h;exact ⟨by rw [seqIndex_of h0 h1,e],by omega,by omega,h1⟩
  ·rw [if_neg h1] at h;cases h
 ·rw [if_neg h0] at h;by_cases h1:-(n:Int) ≤ i
  ·rw [if_pos h1] at h;have e:(i + n).toNat=j:=Option.some.inj h;exact ⟨by rw [seqIndex_neg (by omega) h1,e],by omega,h1,by omega⟩
  ·rw [if_neg h1] at h;cases h
theorem vv {α:Type} {xs:List α} {i:Int} {v:α} (h:atI xs i=some v):∃ j,seqIndex? i xs.length=some j∧xs[j]? = some v∧j < xs.length∧-(xs.length:Int) ≤ i∧i < xs.length:=by
 unfold atI at h;cases e:ixN xs.length i with
 | none=>rw [e] at h;cases h
 | some j=>
  rw [e] at h;obtain ⟨h1,h2,h3,h4⟩:=iC e;exact ⟨j,h1,h,h2,h3,h4⟩
theorem Ub {α:Type} {xs:List α} {j:Nat} {v:α} (h:xs[j]? = some v):atI xs (j:Int)=some v:=by
 have hj:j < xs.length:=(List.getElem?_eq_some_iff.mp h).1;have e:ixN xs.length (j:Int)=some j:=by
  unfold ixN;rw [if_pos (by omega),if_pos (by omega)];simp
 unfold atI;rw [e];exact h
noncomputable def kB (b:Expr):Prop:=∀ o i,subscripted b false o i=operate [o,i] (getItem o i)
noncomputable def IxR (X:Cx) (r:R2):Prop:=
 ∀ (value slice:Expr) (pins:List (Addr × Obj)) (s:Shared) (σ:St) (H:Hp) (x y:V) (v u:Value) (Q:VK),Inv X pins σ H s→ad x v→ad y u→r x y H Q →
  subscripted slice false v u=operate [v,u] (getItem v u)→wpAny (model X.prog X.w) X.A (subscriptTail value slice v u) (EP X pins σ Q) X.xe s
noncomputable def MtR (X:Cx) (id:String) (r:V→List V→Hp→VK→Prop):Prop:=
 ∀ (pins:List (Addr × Obj)) (s:Shared) (σ:St) (H:Hp) (x:V) (xs:List V) (v:Value) (us:List Value) (Q:VK),Inv X pins σ H s→ad x v→Zc xs us→r x xs H Q →
  wpAny (model X.prog X.w) X.A (call (.builtin id) (v :: us)) (EP X pins σ Q) X.xe s
section
variable {X:Cx} {a b:Expr} {ta tb:TE} {pos:Pos}
theorem IxR.or {r r':R2} (h:IxR X r) (h':IxR X r'):IxR X (fun x y H Q=>r x y H Q∨r' x y H Q):=by
 intro value slice pins s σ H x y v u Q I rx ry q hs;rcases q with q | q
 ·exact h value slice pins s σ H x y v u Q I rx ry q hs
 ·exact h' value slice pins s σ H x y v u Q I rx ry q hs
theorem MtR.or {id:String} {r r':V→List V→Hp→VK→Prop} (h:MtR X id r) (h':MtR X id r'):MtR X id (fun x xs H Q=>r x xs H Q∨r' x xs H Q):=by
 intro pins s σ H x xs v us Q I rx rs q;rcases q with q | q
 ·exact h pins s σ H x xs v us Q I rx rs q
 ·exact h' pins s σ H x xs v us Q I rx rs q
theorem vK {r:R2} (hr:IxR X r) (ha:PE X a ta) (hb:PE X b tb) (hs:kB b):PE X (.Subscript a b pos) (tOp r ta tb):=by
 intro pins s σ H Q I h;exact Subscript_ (uK ha hb I h fun v u s2 x y H2 I2 rx ry q=>hr a b pins s2 σ H2 x y v u Q I2 rx ry q (hs _ _))
noncomputable def GL (K:PySem.W.Frag):R2:=fun x y H Q=>jh x fun p=>∃ xs,zi y fun i=>SqL K H p xs∧∃ v,atI xs i=some v∧Q v H
noncomputable def nL (K:PySem.W.Frag):R2:=fun x y H Q=>jh x fun p=>∃ xs,zi y fun i=>SqT K H p xs∧∃ v,atI xs i=some v∧Q v H
noncomputable def eL:R2:=fun x y H Q=>∃ z i c,x=.str z∧y=.int i∧z.length ≤ sizeLine∧atI z.cps.toList i=some c∧Q (.str ⟨#[c]⟩) H
theorem qe:IxR X (GL X.K):=by
 intro value slice pins s σ H x y v u Q I rx ry h hs;obtain ⟨p,rfl,xs,hzz⟩:=jh.out h;obtain ⟨i,rfl,hq,z,he,q⟩:=zi.out hzz;cases rx;obtain ⟨t,rfl⟩:=ry;obtain ⟨its,r,pl,hz⟩:=I.list hq;obtain ⟨j,h1,h2,h3,h4,h5⟩:=vv he;obtain ⟨w,ew,rw'⟩:=r.get h2;have hl:=r.length;have hn:=Ln;have fin:EP X pins σ Q w s:=⟨z,H,I,rw',q⟩;by_cases h0:0 ≤ i
 ·have hj:i.toNat=j:=by
   rw [seqIndex_of h0 h5] at h1;exact Option.some.inj h1
  exact item_listR pl.isList h0 (by omega) (by rw [hj];simpa using ew) fin hs
 ·have hj:(i + (its.toArray.size:Int)).toNat=j:=by
   rw [seqIndex_neg (by omega) h4] at h1;rw [List.size_toArray,← hl];exact Option.some.inj h1
  exact subscriptTail_builtinR (x:=w) pl.isList.typeIs slot_list_getitem.lookup
   (wpAny_getItem_list_neg (Q:=fun r s'=>r=w∧EP X pins σ Q r s') pl.isList (by omega) (by rw [List.size_toArray] <;> omega) (by omega) (by rw [hj];simpa using ew) ⟨rfl,fin⟩) hs
theorem Je:IxR X (nL X.K):=by
 intro value slice pins s σ H x y v u Q I rx ry h hs;obtain ⟨p,rfl,xs,hzz⟩:=jh.out h;obtain ⟨i,rfl,hq,z,he,q⟩:=zi.out hzz;cases rx;obtain ⟨t,rfl⟩:=ry;obtain ⟨its,r,pl,hz⟩:=I.tuple hq;obtain ⟨j,h1,h2,h3,h4,h5⟩:=vv he;obtain ⟨w,ew,rw'⟩:=r.get h2;have hl:=r.length;have hn:=Ln;have fin:EP X pins σ Q w s:=⟨z,H,I,rw',q⟩;exact subscriptTail_builtinR (x:=w) pl.typeIs slot_tuple_getitem.lookup
  (getItem_tuple (j:=j) (Q:=fun r s'=>r=w∧EP X pins σ Q r s') pl (by omega) (by omega) (by rw [List.size_toArray,← hl];exact h1) (by simpa using ew) ⟨rfl,fin⟩) hs
theorem Sz:IxR X eL:=by
 intro value slice pins s σ H x y v u Q I rx ry h hs;obtain ⟨z,i,c,rfl,rfl,hz,he,q⟩:=h;obtain ⟨t,rfl⟩:=rx;obtain ⟨t',rfl⟩:=ry;obtain ⟨j,h1,h2,h3,h4,h5⟩:=vv he;have hl:z.cps.toList.length=z.length:=by simp [Str.length]
 rw [hl] at h1 h4 h5;have hn:=Ln;exact tail_any (typeIs_str s z t) slot_str_getitem.lookup (getItem_str (c:=c) (by
  have e1:decide (i < -(2 ^ 63:Int))=false:=decide_eq_false (by omega);have e2:decide (i ≥ 2 ^ 63)=false:=decide_eq_false (by omega);rw [e1,e2,Bool.or_false]) (by rw [h1];simpa using h2) ⟨.str ⟨#[c]⟩,H,I.tok _,⟨_,rfl⟩,q⟩) hs
theorem yy (its:List Value) (n j:Nat) (u:Value):Obj.mapSeq (·.setIfInBounds j u) { cls:=.type "list",data:=.seq its.toArray n } = { cls:=.type "list",data:=.seq (its.set j u).toArray n }:=by
 simp [Obj.mapSeq]
theorem Inv.lst {pins:List (Addr × Obj)} {σ:St} {H:Hp} {s:Shared} {p:Addr} {xs:List V} (I:Inv X pins σ H s) (h:H p=some (.lst xs)) :
  ∃ (its:List Value) (n:Nat),Zc xs its∧s.heap.get? p=some { cls:=.type "list",data:=.seq its.toArray n }∧xs.length ≤ sizeLine:=by
 obtain ⟨z,its,n,r,e⟩:=I.hok p _ h;exact ⟨its,n,r,e,z⟩
theorem Inv.lstUpd {pins:List (Addr × Obj)} {σ:St} {H:Hp} {s:Shared} {p:Addr} {xs ys:List V} {its its':List Value} {n n':Nat} {f:Obj→Obj} (I:Inv X pins σ H s) (h:H p=some (.lst xs))
  (ho:s.heap.get? p=some { cls:=.type "list",data:=.seq its.toArray n }) (hf:f { cls:=.type "list",data:=.seq its.toArray n } = { cls:=.type "list",data:=.seq its'.toArray n' }) (r:Zc ys its') (hz:ys.length ≤ sizeLine) (t:Nat) :
  Inv X pins σ (upd H p (.lst ys)) { s with heap:=s.heap.update p f,toks:=t }:=by
 have e:(s.heap.update p f).get? p=some { cls:=.type "list",data:=.seq its'.toArray n' }:=by
  rw [Heap.get?_update_self f ho (by rw [hf] <;> rfl),hf]
 refine I.write (x:=p) (e:=p) (by rw [h];trivial) (.inl rfl) (fun b u hb q=>(Heap.get?_update_other _ _ (Ne.symm hb)).trans q) ⟨_,e⟩ ?_;exact ⟨hz,its',n',r,e⟩
noncomputable def LJ:V→V→V→Hp→(Hp→Prop)→Prop:=fun o i v H Q=>jh o fun p=>∃ xs,zi i fun k=>H p=some (.lst xs)∧∃ j,ixN xs.length k=some j∧Q (upd H p (.lst (xs.set j v)))
theorem gD:BL X LJ:=by
 intro pins s σ H o i v ov iv u Q I ro ri rv h;obtain ⟨p,rfl,xs,hzz⟩:=jh.out h;obtain ⟨k,rfl,hp,j,hj,q⟩:=zi.out hzz;cases ro;obtain ⟨t,rfl⟩:=ri;obtain ⟨its,n,r,ho,hz⟩:=I.lst hp;obtain ⟨h1,h2,h3,h4⟩:=iC hj;have hl:=r.length;have hn:=Ln;have I':Inv X pins σ (upd H p (.lst (xs.set j v))) { s with heap:=s.heap.update p (Obj.mapSeq (·.setIfInBounds j u)) }:=
  I.lstUpd hp ho (yy its n j u) (r.set rv j) (by rw [List.length_set];exact hz) s.toks
 by_cases h0:0 ≤ k
 ·have hk:k.toNat=j:=by
   rw [seqIndex_of h0 h4] at h1;exact Option.some.inj h1
  exact PySem.W.ki_setAt ho h0 (by omega) (by rw [List.size_toArray,← hl];exact h4) (by rw [hk];exact ⟨_,I',q⟩)
 ·have hk:(k + (its.toArray.size:Int)).toNat=j:=by
   rw [seqIndex_neg (by omega) h3] at h1;rw [List.size_toArray,← hl];exact Option.some.inj h1
  exact PySem.W.ki_setBack ho (by omega) (by rw [List.size_toArray,← hl];exact h3) (by omega) (by rw [hk];exact ⟨_,I',q⟩)
theorem Ts (lo hi:Option Int) (n:Nat):(sliceBounds lo hi none n).1=((HT.sIx n 0 lo:Nat):Int)∧(sliceBounds lo hi none n).2.1=((HT.sIx n n hi:Nat):Int)∧(sliceBounds lo hi none n).2.2=1:=by
 refine ⟨?_,?_,rfl⟩
 ·cases lo with
  | none=>simp [sliceBounds,HT.sIx]
  | some i=>
   simp only [sliceBounds,HT.sIx,Option.getD_none,show (1:Int) > 0 by decide,if_true];by_cases h:i < 0
   ·simp only [h,if_true] <;> omega
   ·simp only [h,if_false] <;> omega
 ·cases hi with
  | none=>simp [sliceBounds,HT.sIx]
  | some i=>
   simp only [sliceBounds,HT.sIx,Option.getD_none,show (1:Int) > 0 by decide,if_true];by_cases h:i < 0
   ·simp only [h,if_true] <;> omega
   ·simp only [h,if_false] <;> omega
theorem Sq (its:List Value) (lo hi:Option Int):slicePick its.toArray lo hi none=((its.drop (HT.sIx its.length 0 lo)).take (HT.sIx its.length its.length hi - HT.sIx its.length 0 lo)).toArray:=by
 obtain ⟨h1,h2,h3⟩:=Ts lo hi its.toArray.size;unfold slicePick;rw [h1,h2,h3];simp only [sliceRange_one,pick_run,List.size_toArray] <;> rfl
noncomputable def dL (K:PySem.W.Frag):V→Option Int→Option Int→Hp→VK→Prop:=fun x lo hi H Q=>∃ a xs,x=.ref a∧SqL K H a xs∧∀ p,H p=none→Q (.ref p) (upd H p (.lst (gG xs lo hi)))
theorem rH:SlR X (dL X.K):=by
 intro pins s σ H x v vl vu lo hi sl Q I rx hs pl pu h;obtain ⟨a,xs,rfl,hx,q⟩:=h;cases rx;obtain ⟨its,r,ht,hz⟩:=I.list hx;have hlen:=r.length;refine ⟨"list",_,slot_list_getitem.lookup,ht.isList.typeIs,?_⟩;refine wpAny_getItem_list_slice ht.isList hs pl pu .none (by simp) ?_ (by rw [List.size_toArray] <;> omega);rw [Sq,← hlen];refine ⟨.ref s.heap.objs.size,_,I.laid (t':=s.toks) (o:=.lst (gG xs lo hi)) (fun b ob q=>Heap.get?_push_of_some _ q) (Nat.le_refl _) ?_,rfl,q _ (I.hok.fresh (Nat.le_refl _))⟩;exact ⟨Nat.le_trans (Nu xs lo hi) hz,_,0,(r.drop (HT.sIx xs.length 0 lo)).take (HT.sIx xs.length xs.length hi - HT.sIx xs.length 0 lo),Heap.get?_push_size _ rfl⟩
noncomputable def sk:V→Bool
 | .non=>true
 | .bl _=>true
 | .int _=>true
 | .str _=>true
 | _=>false
noncomputable def eqV:V→V→Bool
 | .non,.non=>true
 | .bl a,.bl b=>a == b
 | .bl a,.int b=>(if a then 1 else 0) == b
 | .int a,.bl b=>a == (if b then 1 else 0)
 | .int a,.int b=>a == b
 | .str a,.str b=>a == b
 | _,_=>false
theorem WI {A:Around} {s:Shared} {y x:V} {u v:Value} (ry:ad y u) (rx:ad x v) (fy:sk y=true) (fx:sk x=true):SeqAt.EqAt A s u v (eqV y x):=by
 cases y with
 | non=>
  cases ry;cases x with
  | non=>cases rx;exact SeqAt.EqAt.same _
  | bl b=>cases rx;exact SeqAt.EqAt.none_bool b
  | int b=>obtain ⟨t,rfl⟩:=rx;exact SeqAt.EqAt.none_int b t
  | str b=>obtain ⟨t,rfl⟩:=rx;exact SeqAt.EqAt.none_str b t
  | _=>exact absurd (show false=true from fx) Bool.false_ne_true
 | bl a=>
  cases ry;cases x with
  | non=>cases rx;exact SeqAt.EqAt.bool_none a
  | bl b=>cases rx;exact SeqAt.EqAt.bool_bool a b
  | int b=>obtain ⟨t,rfl⟩:=rx;exact SeqAt.EqAt.bool_int a b t
  | str b=>obtain ⟨t,rfl⟩:=rx;exact SeqAt.EqAt.bool_str a b t
  | _=>exact absurd (show false=true from fx) Bool.false_ne_true
 | int a=>
  obtain ⟨t',rfl⟩:=ry;cases x with
  | non=>cases rx;exact SeqAt.EqAt.int_none a t'
  | bl b=>cases rx;exact SeqAt.EqAt.int_bool a t' b
  | int b=>obtain ⟨t,rfl⟩:=rx;exact SeqAt.EqAt.int_int a t' b t
  | str b=>obtain ⟨t,rfl⟩:=rx;exact SeqAt.EqAt.int_str a t' b t
  | _=>exact absurd (show false=true from fx) Bool.false_ne_true
 | str a=>
  obtain ⟨t',rfl⟩:=ry;cases x with
  | non=>cases rx;exact SeqAt.EqAt.str_none a t'
  | bl b=>cases rx;exact SeqAt.EqAt.str_bool a t' b
  | int b=>obtain ⟨t,rfl⟩:=rx;exact SeqAt.EqAt.str_int a t' b t
  | str b=>obtain ⟨t,rfl⟩:=rx;exact SeqAt.EqAt.str_str a t' b t
  | _=>exact absurd (show false=true from fx) Bool.false_ne_true
 | _=>exact absurd (show false=true from fy) Bool.false_ne_true
noncomputable def eqU (x:V) (u:Value):Bool:=match u with
 | .none=>eqV .non x
 | .bool b=>eqV (.bl b) x
 | .int i _=>eqV (.int i) x
 | .str z _=>eqV (.str z) x
 | _=>false
theorem aF {x y:V} {u:Value} (r:ad y u) (f:sk y=true):eqU x u=eqV y x:=by
 cases y with
 | non=>cases r;rfl
 | bl b=>cases r;rfl
 | int i=>obtain ⟨t,rfl⟩:=r;rfl
 | str z=>obtain ⟨t,rfl⟩:=r;rfl
 | _=>exact absurd (show false=true from f) Bool.false_ne_true
theorem Ao {x:V}:∀ {xs:List V} {us:List Value},Zc xs us→xs.all sk=true→us.any (eqU x)=xs.any fun y=>eqV y x
 | _,_,.nil,_=>rfl
 | y :: xs,u :: us,.cons r t,f=>by
  rw [List.all_cons,Bool.and_eq_true] at f;rw [List.any_cons,List.any_cons,aF r f.1,Ao t f.2]
theorem ql {A:Around} {s:Shared} {x:V} {v:Value} (rx:ad x v) (fx:sk x=true):∀ {xs:List V} {us:List Value},Zc xs us→xs.all sk=true→∀ u ∈ us,SeqAt.EqAt A s u v (eqU x u)
 | _,_,.nil,_=>fun u hu=>by cases hu
 | y :: xs,u :: us,.cons r t,f=>fun u' hu=>by
  rw [List.all_cons,Bool.and_eq_true] at f;rcases List.mem_cons.mp hu with rfl | hu
  ·rw [aF r f.1];exact WI r rx f.1 fx
  ·exact ql rx fx t f.2 u' hu
noncomputable def inV (x:V) (xs:List V):Bool:=xs.any fun y=>eqV y x
noncomputable def rIn (K:PySem.W.Frag) (neg:Bool):R2:=fun x y H Q=>∃ p xs,y=.ref p∧(SqL K H p xs∨SqT K H p xs)∧sk x=true∧xs.all sk=true∧Q (.bl (if neg then !inV x xs else inV x xs)) H
theorem Hl:OpR X (compareOp .In) (rIn X.K false):=by
 intro pins s σ H x y v u Q I rx ry h;obtain ⟨p,xs,rfl,hq,fx,fs,q⟩:=h;cases ry;rcases hq with hq | hq
 ·obtain ⟨its,r,pl,hz⟩:=I.list hq;refine SeqAt.in_listAt (eqU x) pl.isList (fun w hw=>ql rx fx r fs w (by simpa using hw)) ⟨.bl _,H,I,rfl,?_⟩;rw [show its.toArray.any (eqU x)=its.any (eqU x) by simp,Ao r fs];exact q
 ·obtain ⟨its,r,pl,hz⟩:=I.tuple hq;refine SeqAt.in_tupleAt (eqU x) pl (fun w hw=>ql rx fx r fs w (by simpa using hw)) ⟨.bl _,H,I,rfl,?_⟩;rw [show its.toArray.any (eqU x)=its.any (eqU x) by simp,Ao r fs];exact q
theorem xm:OpR X (compareOp .NotIn) (rIn X.K true):=by
 intro pins s σ H x y v u Q I rx ry h;obtain ⟨p,xs,rfl,hq,fx,fs,q⟩:=h;cases ry;rcases hq with hq | hq
 ·obtain ⟨its,r,pl,hz⟩:=I.list hq;refine SeqAt.notIn_listAt (eqU x) pl.isList (fun w hw=>ql rx fx r fs w (by simpa using hw)) ⟨.bl _,H,I,rfl,?_⟩;rw [show its.toArray.any (eqU x)=its.any (eqU x) by simp,Ao r fs];exact q
 ·obtain ⟨its,r,pl,hz⟩:=I.tuple hq;refine SeqAt.notIn_tupleAt (eqU x) pl (fun w hw=>ql rx fx r fs w (by simpa using hw)) ⟨.bl _,H,I,rfl,?_⟩;rw [show its.toArray.any (eqU x)=its.any (eqU x) by simp,Ao r fs];exact q
theorem Vc:lj X (.builtin "len") (fun xs H Q=>Rx xs fun x=>jh x fun p=>∃ ys,(SqL X.K H p ys∨SqT X.K H p ys)∧Q (.int ys.length) H):=by
 intro pins s σ H xs us Q I r h;obtain ⟨zx,rfl,hzz⟩:=Rx.out h;obtain ⟨p,rfl,ys,hq,q⟩:=jh.out hzz;obtain ⟨u,rfl,rx⟩:=Rm r;cases rx;have hn:=Ln;rcases hq with hq | hq
 ·obtain ⟨its,r',pl,hz⟩:=I.list hq;have hlen:=r'.length;exact Calls.call_len_list pl.isList (by simp only [List.size_toArray] <;> omega) ⟨.int ys.length,H,I.tok _,⟨s.toks + 1,by rw [List.size_toArray,hlen]⟩,q⟩
 ·obtain ⟨its,r',pl,hz⟩:=I.tuple hq;have hlen:=r'.length;exact len_tuple pl (by simp only [List.size_toArray] <;> omega) ⟨.int ys.length,H,I.tok _,⟨s.toks + 1,by rw [List.size_toArray,hlen]⟩,q⟩
theorem js:lj X (.builtin "len") (fun xs H Q=>∃ z,xs=[.str z]∧z.length ≤ sizeLine∧Q (.int z.length) H):=by
 intro pins s σ H xs us Q I r h;obtain ⟨z,rfl,hz,q⟩:=h;obtain ⟨u,rfl,t,rfl⟩:=Rm r;have hn:=Ln;exact len_str (by omega) ⟨.int z.length,H,I.tok _,⟨_,rfl⟩,q⟩
theorem lj.or {f:Value} {r r':List V→Hp→VK→Prop} (h:lj X f r) (h':lj X f r'):lj X f (fun xs H Q=>r xs H Q∨r' xs H Q):=by
 intro pins s σ H xs us Q I rs q;rcases q with q | q
 ·exact h pins s σ H xs us Q I rs q
 ·exact h' pins s σ H xs us Q I rs q
theorem Ps:lj X (.type "list") (fun xs H Q=>∃ p ys,xs=[.ref p]∧(SqL X.K H p ys∨SqT X.K H p ys)∧∀ l,H l=none→Q (.ref l) (upd H l (.lst ys))):=by
 intro pins s σ H xs us Q I r h;obtain ⟨p,ys,rfl,hq,q⟩:=h;obtain ⟨u,rfl,rx⟩:=Rm r;cases rx;have fin:∀ (its:List Value),Zc ys its→ys.length ≤ sizeLine→∀ (h':Heap) (c':Nat),(∀ b o',s.heap.get? b=some o'→h'.get? b=some o') →
   h'.get? s.heap.objs.size=some { cls:=.type "list",dict:=none,data:=.seq its.toArray c',slots:=#[] }→EP X pins σ Q (.ref s.heap.objs.size) { s with heap:=h' }:=fun its r' hz h' c' kp e=>
  ⟨.ref s.heap.objs.size,_,I.laid (t':=s.toks) kp (Nat.le_refl _) (show Kd X.prog X.w _ h' _ (.lst ys) from ⟨hz,its,c',r',e⟩),rfl,q _ (I.hok.fresh (Nat.le_refl _))⟩
 rcases hq with hq | hq
 ·obtain ⟨its,r',pl,hz⟩:=I.list hq;have hlen:=r'.length;obtain ⟨o,ho,hc,n,hd⟩:=pl.isList;exact call_list_seq p (.inl rfl) ho hc hd (fun h' c' kp e=>fin its r' hz h' c' kp e) (by simp only [List.size_toArray] <;> omega)
 ·obtain ⟨its,r',pl,hz⟩:=I.tuple hq;have hlen:=r'.length;obtain ⟨o,ho,hc,n,hd⟩:=pl;exact call_list_seq p (.inr rfl) ho hc hd (fun h' c' kp e=>fin its r' hz h' c' kp e) (by simp only [List.size_toArray] <;> omega)
noncomputable def tyV (K:PySem.W.Frag) (T:String) (x:V) (H:Hp):Prop:=match x with
 | .str _=>T = "str"
 | .int _=>T = "int"
 | .ref p=>(T = "list" ∧ ∃ xs,SqL K H p xs)∨(T = "tuple" ∧ ∃ o,K.lookup p=some o∧o.cls=.type "tuple" ∧ o.dict=none) ∨
   (T = "dict" ∧ ((∃ kvs,H p=some (.dK kvs))∨∃ kvs,H p=some (.dT kvs)))∨(T = "set" ∧ ∃ S n,H p=some (.set S n))
 | _=>False
theorem UF {pins:List (Addr × Obj)} {σ:St} {H:Hp} {s:Shared} {T:String} {x:V} {v:Value} (I:Inv X pins σ H s) (r:ad x v) (ty:tyV X.K T x H) :
  s.TypeIs v T∧∀ a,v=.ref a→∃ ob,s.heap.get? a=some ob∧ob.dict=none:=by
 cases x with
 | str z=>
  obtain ⟨t,rfl⟩:=r;cases (show T = "str" from ty);exact ⟨typeIs_str s z t,fun _ e=>nomatch e⟩
 | int i=>
  obtain ⟨t,rfl⟩:=r;cases (show T = "int" from ty);exact ⟨typeIs_int s i t,fun _ e=>nomatch e⟩
 | ref p=>
  cases r;rcases ty with ⟨rfl,xs,hq⟩ | ⟨rfl,o,hk,hc,hd⟩ | ⟨rfl,hk⟩ | ⟨rfl,S,n,hk⟩
  ·obtain ⟨its,_,pl,_⟩:=I.list hq;refine ⟨pl.isList.typeIs,fun a e=>?_⟩;cases e;obtain ⟨o,n,e,c,hd,_⟩:=pl;exact ⟨o,e,hd⟩
  ·refine ⟨⟨o,I.kIn p o hk,hc⟩,fun a e=>?_⟩;cases e;exact ⟨o,I.kIn _ o hk,hd⟩
  ·have z:∃ o,s.heap.get? p=some o∧o.ExactDict:=by
    rcases hk with ⟨kvs,hk⟩ | ⟨kvs,hk⟩
    ·obtain ⟨_,_,_,_,o,_,_,e,ex,_⟩:=I.hok p _ hk;exact ⟨o,e,ex⟩
    ·obtain ⟨_,_,_,_,o,_,_,e,ex,_⟩:=I.hok p _ hk;exact ⟨o,e,ex⟩
   obtain ⟨o,e,ex⟩:=z;refine ⟨⟨o,e,ex.1⟩,fun a e2=>?_⟩;cases e2;exact ⟨o,e,ex.2.1⟩
  ·obtain ⟨o,_,_,_,e,ex,_⟩:=I.hok p _ hk;refine ⟨⟨o,e,ex.1⟩,fun a e2=>?_⟩;cases e2;exact ⟨o,e,ex.2.1⟩
 | _=>exact False.elim ty
noncomputable def FL (K:PySem.W.Frag) (T:String) (r:V→List V→Hp→VK→Prop) (to:TE):TE:=fun σ H Q=>to σ H fun x H1=>tyV K T x H1∧r x [] H1 Q
noncomputable def tBM (K:PySem.W.Frag) (T:String) (r:V→List V→Hp→VK→Prop) (to:TE) (t:TA):TE:=fun σ H Q=>to σ H fun x H1=>tyV K T x H1∧t σ H1 fun xs H2=>r x xs H2 Q
variable {o e:Expr} {es:List Expr} {to:TE} {t:TA} {name:Str} {apos cpos:Pos} {T id:String} {r:V→List V→Hp→VK→Prop}
theorem MI (pa:PlainAttrs T) (slot:Slot T name id) (hty:typeOf (.builtin id)=pure (.type "method_descriptor")) (hm:MtR X id r) (ho:PE X o to)
  (hbase:attributeBase o name X.env (eval o X.env)=eval o X.env:=by rfl) (hline:(apos.endLine == cpos.line)=true:=by rfl):PE X (.Call (.Attribute o name apos) [] [] cpos) (FL X.K T r to):=by
 intro pins s σ H Q I h;refine wpAny_Call_method0_late hbase hline (thn (ho pins s σ H _ I h) fun v s1 hZ1=>?_);obtain ⟨x,H1,I1,r1,ty,q1⟩:=hZ1;obtain ⟨h1,h2⟩:=UF I1 r1 ty;exact ⟨T,id,pa,slot,hty,h1,h2,Calls.callWith_builtin rfl (PySem.evalArgs_none (hm pins s1 σ H1 x [] v [] Q I1 r1 .nil q1))⟩
theorem Qr (pa:PlainAttrs T) (slot:Slot T name id) (hty:typeOf (.builtin id)=pure (.type "method_descriptor")) (hm:MtR X id r) (ho:PE X o to) (ha:PA X (e :: es) t)
  (hbase:attributeBase o name X.env (eval o X.env)=eval o X.env:=by rfl)
  (hfew:((backTo cpos (starEach (e :: es) X.env)).all (fun x=>!x.1) && (backToKw cpos (keywordEach [] X.env)).all (fun x=>x.1.isSome)
   && decide ((e :: es).length + ([]:List Keyword).length + (if ([]:List Keyword).isEmpty then 0 else 1) < 30))=true:=by rfl)
  (hline:(apos.endLine == cpos.line)=true:=by rfl) (hs:starEach (e :: es) X.env=(false,eval e X.env) :: starEach es X.env:=by rfl) (hplain:(backTo cpos (starEach es X.env)).any (·.1)=false:=by rfl) :
  PE X (.Call (.Attribute o name apos) (e :: es) [] cpos) (tBM X.K T r to t):=by
 intro pins s σ H Q I h;refine wpAny_Call_method_late hbase hfew hline rfl (thn (ho pins s σ H _ I h) fun v s1 hZ1=>?_);obtain ⟨x,H1,I1,r1,ty,q1⟩:=hZ1;obtain ⟨h1,h2⟩:=UF I1 r1 ty;refine ⟨T,id,pa,slot,hty,h1,h2,?_⟩;have hA:=ha cpos pins s1 σ H1 _ I1 q1;rw [hs] at hA ⊢;refine Calls.callWith_builtin (by show (false || (backTo cpos (starEach es X.env)).any (·.1))=false;rw [hplain] <;> rfl) (Calls.evalArgs_plain ?_);exact thn hA fun us s2 ⟨vs,H2,I2,r2,q2⟩=>hm pins s2 σ H2 x vs v us Q I2 r1 r2 q2
end
end L2
namespace L2
open PySem PySem.Spec PyProof.Rows
noncomputable def MtM (X:Cx) (id:String) (r:V→List V→Hp→VK→Prop):Prop:=
 ∀ (pins:List (Addr × Obj)) (s:Shared) (σ:St) (H:Hp) (x:V) (xs:List V) (v:Value) (us:List Value) (Q:VK),Inv X pins σ H s→ad x v→Zc xs us→r x xs H Q →
  wpAny (model X.prog X.w) X.A (call (.builtin id) (v :: us)) (EP X pins σ Q) X.xe s
theorem Zc.one:∀ {x:V} {us:List Value},Zc [x] us→∃ u,us=[u]∧ad x u
 | _,_,.cons r .nil=>⟨_,rfl,r⟩
theorem Zc.two:∀ {x y:V} {us:List Value},Zc [x,y] us→∃ u v,us=[u,v]∧ad x u∧ad y v
 | _,_,_,.cons r (.cons q .nil)=>⟨_,_,rfl,r,q⟩
theorem Zc.zero:∀ {us:List Value},Zc [] us→us=[]
 | _,.nil=>rfl
theorem Zc.reverse {xs:List V} {us:List Value} (h:Zc xs us):Zc xs.reverse us.reverse:=by
 induction h with
 | nil=>exact .nil
 | cons r t ih=>rw [List.reverse_cons,List.reverse_cons];exact Zc.append ih (.cons r .nil)
section
variable {X:Cx} {pins:List (Addr × Obj)} {σ:St} {H:Hp} {s:Shared} {l b:Addr} {xs ys zs:List V}
theorem Inv.lset {its its':List Value} {n:Nat} {f:Array Value→Array Value} {t':Nat} (I:Inv X pins σ H s) (hH:H l=some (.lst xs))
  (e:s.heap.get? l=some { cls:=.type "list",data:=.seq its.toArray n }) (hf:f its.toArray=its'.toArray) (hv:Zc ys its') (hz:ys.length ≤ sizeLine) :
  Inv X pins σ (upd H l (.lst ys)) { s with heap:=s.heap.update l (Obj.mapSeq f),toks:=t' }:=by
 have q:=PySem.IsL.update e f;rw [hf] at q;refine I.write (x:=l) (e:=l) (by rw [hH];exact trivial) (.inl rfl) (fun b' u hb hu=>(Heap.get?_update_other s.heap (Obj.mapSeq f) (Ne.symm hb)).trans hu) ⟨_,q⟩ ?_;exact ⟨hz,its',_,hv,q⟩
theorem Inv.fresh (I:Inv X pins σ H s):H s.heap.objs.size=none:=I.hok.fresh (Nat.le_refl _)
theorem Inv.lstM (I:Inv X pins σ H s) (hH:H l=some (.lst xs)):xs.length ≤ sizeLine∧∃ (its:List Value) (n:Nat),Zc xs its∧xs.length=its.length∧s.heap.get? l=some { cls:=.type "list",data:=.seq its.toArray n }:=by
 obtain ⟨z,its,n,r,e⟩:=I.hok l _ hH;exact ⟨z,its,n,r,r.length,e⟩
theorem SC {n:Nat} (h:n ≤ sizeLine):Builtin.List.listTooLong n=false:=by
 unfold Builtin.List.listTooLong;exact decide_eq_false (by omega)
end
section
variable {X:Cx}
noncomputable def EB:V→List V→Hp→VK→Prop:=fun x vs H Q=>jh x fun l=>Rx vs fun y=>∃ xs,H l=some (.lst xs)∧xs.length < sizeLine∧Q .non (upd H l (.lst (xs ++ [y])))
theorem Po:MtM X "list.append" EB:=by
 intro pins s σ H x vs v us Q I rx rv h;obtain ⟨l,rfl,hzz⟩:=jh.out h;obtain ⟨y,rfl,xs,hH,hz,q⟩:=Rx.out hzz;cases rx;obtain ⟨u,rfl,ru⟩:=rv.one;obtain ⟨z,its,n,r,hl,e⟩:=I.lstM hH;refine call_meets F.slot_list_append ⟨_,e,rfl⟩ F.entry_list_append (F.args_list_append_2 _ _) (PySem.list_append l its.toArray n u (by rw [List.size_toArray];omega)) ⟨e,?_⟩;refine ⟨.non,_,I.lset (its':=its ++ [u]) hH e (by simp) (r.append (.cons ru .nil)) ?_,rfl,q⟩;rw [List.length_append,List.length_singleton];omega
noncomputable def YB:V→List V→Hp→VK→Prop:=fun x vs H Q=>∃ l b xs zs,x=.ref l∧vs=[.ref b]∧H l=some (.lst xs)∧H b=some (.lst zs)∧xs.length + zs.length ≤ sizeLine∧Q .non (upd H l (.lst (xs ++ zs)))
theorem Zr:MtM X "list.extend" YB:=by
 intro pins s σ H x vs v us Q I rx rv h;obtain ⟨l,b,xs,zs,rfl,rfl,hH,hB,hz,q⟩:=h;cases rx;obtain ⟨u,rfl,ru⟩:=rv.one;cases ru;obtain ⟨z,its,n,r,hl,e⟩:=I.lstM hH;obtain ⟨z2,its2,n2,r2,hl2,e2⟩:=I.lstM hB;have hsz:its.toArray.size + its2.toArray.size ≤ sizeLine:=by rw [List.size_toArray,List.size_toArray];omega
 have hlong:¬ (!its.toArray.isEmpty && Builtin.List.listTooLong (its.toArray.size + its2.toArray.size))=true:=by
  rw [SC hsz,Bool.and_false];exact Bool.false_ne_true
 refine call_meets F.slot_list_extend ⟨_,e,rfl⟩ F.entry_list_extend (F.args_list_extend_2 _ _)
  (AutoSeq1.list_extend_list_list_0 l its.toArray n b its2.toArray n2 hlong (by rw [List.size_toArray];omega) (by omega)) ⟨e,e2,?_⟩
 refine ⟨.non,_,I.lset (its':=its ++ its2) hH e (by simp) (r.append r2) ?_,rfl,q⟩;rw [List.length_append];omega
noncomputable def Nw:V→List V→Hp→VK→Prop:=fun x vs H Q=>∃ l xs,x=.ref l∧vs=[]∧H l=some (.lst xs)∧Q .non (upd H l (.lst xs.reverse))
theorem wx:MtM X "list.reverse" Nw:=by
 intro pins s σ H x vs v us Q I rx rv h;obtain ⟨l,xs,rfl,rfl,hH,q⟩:=h;cases rx;have hus:=rv.zero;subst hus;obtain ⟨z,its,n,r,hl,e⟩:=I.lstM hH;refine call_meets F.slot_list_reverse ⟨_,e,rfl⟩ F.entry_list_reverse (F.args_list_reverse_1 _) (AutoSeq1.list_reverse_list_0 l its.toArray n (by rw [List.size_toArray];omega)) ⟨e,?_⟩;refine ⟨.non,_,I.lset (its':=its.reverse) hH e (by simp) r.reverse ?_,rfl,q⟩;rw [List.length_reverse];omega
end
section
variable {prog:Program} {w:World} {A:Around} {E:Value→Shared→Prop} {s:Shared}
end
section
variable {X:Cx}
end
end L2
namespace L2
open PySem PySem.Spec PyProof.Rows
section
variable {κ:Type} [DecidableEq κ]
noncomputable def Qj (kvs:List (κ × V)) (k:κ):Option V:=(kvs.find? fun kv=>decide (kv.1=k)).map (·.2)
noncomputable def Uo (kvs:List (κ × V)) (k:κ) (v:V):List (κ × V):=
 if (kvs.any fun kv=>decide (kv.1=k))=true then kvs.map (fun kv=>if kv.1=k then (kv.1,v) else kv) else kvs ++ [(k,v)]
noncomputable def TH (kvs:List (κ × V)) (k:κ):List (κ × V):=kvs.filter fun kv=>decide (kv.1 ≠ k)
theorem Uk {p:κ × V} {r:List (κ × V)} {k:κ} (e:p.1=k):Qj (p :: r) k=some p.2:=by simp [Qj,List.find?_cons,e]
theorem yl {p:κ × V} {r:List (κ × V)} {k:κ} (e:¬ p.1=k):Qj (p :: r) k=Qj r k:=by simp [Qj,List.find?_cons,e]
theorem br (k:κ):∀ kvs:List (κ × V),(kvs.any fun kv=>decide (kv.1=k))=(Qj kvs k).isSome
 | []=>rfl
 | p :: r=>by
  rw [List.any_cons];by_cases e:p.1=k
  ·simp only [Uk e,decide_eq_true e,Bool.true_or,Option.isSome_some]
  ·rw [yl e,decide_eq_false e,Bool.false_or];exact br k r
theorem Tn (kvs:List (κ × V)) (k:κ) (v:V):(Uo kvs k v).length ≤ kvs.length + 1:=by
 unfold Uo;split
 ·rw [List.length_map];omega
 ·rw [List.length_append,List.length_cons,List.length_nil];omega
theorem Vp.isSome_eq {o:Option V} {u:Option Value} (r:Vp o u):o.isSome=u.isSome:=by
 cases o with
 | none=>cases u with
  | none=>rfl
  | some _=>exact (show False from r).elim
 | some _=>cases u with
  | none=>exact (show False from r).elim
  | some _=>rfl
theorem Vp.getD {o:Option V} {u:Option Value} {d:V} {d':Value} (r:Vp o u) (rd:ad d d'):ad (o.getD d) (u.getD d'):=by
 cases o with
 | none=>cases u with
  | none=>exact rd
  | some _=>exact (show False from r).elim
 | some _=>cases u with
  | none=>exact (show False from r).elim
  | some _=>exact r
theorem KV.val {kvs:List (κ × V)} {vs:List (κ × Value)} (r:KV kvs vs) (k:κ):Vp (Qj kvs k) (valueAt vs k):=by
 unfold KV at r
 induction r with
 | nil=>exact True.intro
 | @cons p q ps qs h t ih=>
  obtain ⟨h1,h2⟩:=h;by_cases e:p.1=k
  ·have e':q.1=k:=h1.symm.trans e;have b:valueAt (q :: qs) k=some q.2:=by simp [valueAt,List.find?_cons,e']
   rw [Uk e,b];exact h2
  ·have e':¬ q.1=k:=fun z=>e (h1.trans z)
   have b:valueAt (q :: qs) k=valueAt qs k:=by simp [valueAt,List.find?_cons,e']
   rw [yl e,b];exact ih
theorem KV.any {kvs:List (κ × V)} {vs:List (κ × Value)} (r:KV kvs vs) (k:κ):(kvs.any fun kv=>decide (kv.1=k))=vs.any fun kv=>decide (kv.1=k):=by
 unfold KV at r
 induction r with
 | nil=>rfl
 | cons h t ih=>rw [List.any_cons,List.any_cons,ih,h.1]
theorem KV.repl {kvs:List (κ × V)} {vs:List (κ × Value)} (r:KV kvs vs) (k:κ) {y:V} {u:Value} (ry:ad y u) :
  KV (kvs.map fun kv=>if kv.1=k then (kv.1,y) else kv) (vs.map fun kv=>if kv.1=k then (kv.1,u) else kv):=by
 unfold KV at r ⊢
 induction r with
 | nil=>exact .nil
 | @cons p q ps qs h t ih=>
  rw [List.map_cons,List.map_cons];refine .cons ?_ ih;obtain ⟨h1,h2⟩:=h;by_cases e:p.1=k
  ·rw [if_pos e,if_pos (h1.symm.trans e)];exact ⟨h1,ry⟩
  ·rw [if_neg e,if_neg (fun z=>e (h1.trans z))];exact ⟨h1,h2⟩
theorem KV.put {kvs:List (κ × V)} {vs:List (κ × Value)} (r:KV kvs vs) (k:κ) {y:V} {u:Value} (ry:ad y u):KV (Uo kvs k y) (stored vs k u):=by
 unfold Uo stored;rw [r.any k];by_cases e:(vs.any fun kv=>decide (kv.1=k))=true
 ·rw [if_pos e,if_pos e];exact r.repl k ry
 ·rw [if_neg e,if_neg e];exact Paired.snoc r ⟨rfl,ry⟩
theorem KV.drop {kvs:List (κ × V)} {vs:List (κ × Value)} (r:KV kvs vs) (k:κ):KV (TH kvs k) (without vs k):=by
 unfold KV at r ⊢;unfold TH without
 induction r with
 | nil=>exact .nil
 | @cons p q ps qs h t ih=>
  obtain ⟨h1,h2⟩:=h;rw [List.filter_cons,List.filter_cons];by_cases e:p.1=k
  ·have a:¬ decide (p.1 ≠ k)=true:=by simp [e]
   have b:¬ decide (q.1 ≠ k)=true:=by simp [h1.symm.trans e]
   rw [if_neg a,if_neg b];exact ih
  ·have e':¬ q.1=k:=fun z=>e (h1.trans z)
   have a:decide (p.1 ≠ k)=true:=by simp [e]
   have b:decide (q.1 ≠ k)=true:=by simp [e']
   rw [if_pos a,if_pos b];exact .cons ⟨h1,h2⟩ ih
theorem KV.keys {kvs:List (κ × V)} {vs:List (κ × Value)} (r:KV kvs vs):kvs.map (·.1)=vs.map (·.1):=by
 unfold KV at r
 induction r with
 | nil=>rfl
 | cons h t ih=>rw [List.map_cons,List.map_cons,ih,h.1]
theorem KV.length {kvs:List (κ × V)} {vs:List (κ × Value)} (r:KV kvs vs):kvs.length=vs.length:=Paired.length r
end
theorem RD {P:Program} {w:World} {k:Key} {u:Value} (r:ad (kV k) u):(Nd P w).is k u=true:=by
 cases k with
 | inl i=>obtain ⟨t,e⟩:=(show ∃ t,u=Value.int i t from r);subst e;exact Wu P w i t
 | inr x=>obtain ⟨t,e⟩:=(show ∃ t,u=Value.str x t from r);subst e;exact Yu P w x t
theorem Fs {P:Program} {w:World}:∀ {ks:List Key} {us:List Value},Zc (ks.map kV) us→ItemsAre (Nd P w) ks us
 | [],_,r=>by rw [List.map_nil] at r;cases r;exact .nil
 | k :: ks,_,r=>by
  rw [List.map_cons] at r;cases r with
  | cons h t=>exact .cons (RD h) (Fs t)
noncomputable abbrev KT (H:Hp):List (List Key × V)→List (List Key × Addr × Value)→Prop:=Paired fun p q=>p.1=q.1∧H q.2.1=some (.tup (p.1.map kV))∧ad p.2 q.2.2
theorem KT.val {H:Hp} {kvs:List (List Key × V)} {xs:List (List Key × Addr × Value)} (r:KT H kvs xs) (k:List Key):Vp (Qj kvs k) ((atKey xs k).map (·.2)):=by
 induction r with
 | nil=>exact True.intro
 | @cons p q ps qs h t ih=>
  obtain ⟨h1,_,h2⟩:=h;by_cases e:p.1=k
  ·have e':q.1=k:=h1.symm.trans e;have b:atKey (q :: qs) k=some q.2:=by simp [atKey,List.find?_cons,e']
   rw [Uk e,b];exact h2
  ·have e':¬ q.1=k:=fun z=>e (h1.trans z)
   have b:atKey (q :: qs) k=atKey qs k:=by simp [atKey,List.find?_cons,e']
   rw [yl e,b];exact ih
theorem KT.repl {H:Hp} {kvs:List (List Key × V)} {xs:List (List Key × Addr × Value)} (r:KT H kvs xs) (k:List Key) {y:V} {u:Value} (ry:ad y u) :
  KT H (kvs.map fun kv=>if kv.1=k then (kv.1,y) else kv) (xs.map (putAt k u)):=by
 induction r with
 | nil=>exact .nil
 | @cons p q ps qs h t ih=>
  rw [List.map_cons,List.map_cons];refine .cons ?_ ih;obtain ⟨h1,h2,h3⟩:=h;unfold putAt;by_cases e:p.1=k
  ·rw [if_pos e,if_pos (h1.symm.trans e)];exact ⟨h1,h2,ry⟩
  ·rw [if_neg e,if_neg (fun z=>e (h1.trans z))];exact ⟨h1,h2,h3⟩
theorem KT.put {H:Hp} {kvs:List (List Key × V)} {xs:List (List Key × Addr × Value)} (r:KT H kvs xs) (k:List Key) {b:Addr} {y:V} {u:Value} (hb:H b=some (.tup (k.map kV))) (ry:ad y u) :
  KT H (Uo kvs k y) (storedH xs k b u):=by
 have e:(kvs.any fun kv=>decide (kv.1=k))=(atKey xs k).isSome:=by
  rw [br,(r.val k).isSome_eq,Option.isSome_map]
 unfold Uo storedH;rw [e];by_cases q:(atKey xs k).isSome=true
 ·rw [if_pos q,if_pos q];exact r.repl k ry
 ·rw [if_neg q,if_neg q];exact Paired.snoc r ⟨rfl,hb,ry⟩
theorem KT.keeps {H H':Hp} {kvs:List (List Key × V)} {xs:List (List Key × Addr × Value)} (r:KT H kvs xs) (ht:∀ b ys,H b=some (.tup ys)→H' b=some (.tup ys)):KT H' kvs xs:=
 Paired.mapP r fun _ _ z=>⟨z.1,ht _ _ z.2.1,z.2.2⟩
section
variable {P:Program} {w:World} {H:Hp} {h:Heap} {a:Addr}
theorem oJ {u:HO} (ok:HOk P w H h) (e:Rd H a u):Kd P w H h a u:=e.ok ok
theorem rD {kvs:List (Key × V)} (ok:HOk P w H h) (e:Rd H a (.dK kvs)):kvs.length ≤ sizeLine∧(a == sysModules)=false∧∃ vs,KV kvs vs∧h.DictOf (Nd P w) a vs:=
 show Kd P w H h a (.dK kvs) from oJ ok e
theorem nK {kvs:List (Key × V)} (ok:HOk P w H h) (e:H a=some (.dK kvs)):kvs.length ≤ sizeLine∧(a == sysModules)=false∧∃ vs,KV kvs vs∧h.DictOf (Nd P w) a vs:=rD ok (.inl e)
theorem Hn {ks:List Key} (ok:HOk P w H h) (e:H a=some (.tup (ks.map kV))):(tupleKind (Nd P w)).is h ks a:=by
 obtain ⟨_,its,r,o,h1,h2,n,h3⟩:=(show Kd P w H h a (.tup (ks.map kV)) from ok a _ e);exact ⟨o,its.toArray,n,h1,h2,h3,by simpa using Fs r⟩
theorem YD {kvs:List (List Key × V)} (ok:HOk P w H h) (e:Rd H a (.dT kvs)):kvs.length ≤ sizeLine∧(a == sysModules)=false ∧
  ∃ xs,KT H kvs xs∧h.DictOfH (tupleKind (Nd P w)) a xs:=by
 obtain ⟨z,y,xs,r,o,es,ep,h1,h2,h3,h4,h5⟩:=(show Kd P w H h a (.dT kvs) from oJ ok e);refine ⟨z,y,xs,r,o,es,ep,h1,h2,h3,h4,fun x hx=>?_,h5⟩;have all:∀ {l:List (List Key × V)} {m:List (List Key × Addr × Value)},KT H l m→∀ x ∈ m,(tupleKind (Nd P w)).is h x.1 x.2.1:=by
  intro l m q
  induction q with
  | nil=>intro x hx;exact nomatch hx
  | @cons p q ps qs hq t ih=>
   intro x hx;rcases List.mem_cons.mp hx with e | hx
   ·subst e;exact Hn ok (by rw [← hq.1];exact hq.2.1)
   ·exact ih x hx
 exact all r x hx
theorem gH {kvs:List (List Key × V)} (ok:HOk P w H h) (e:H a=some (.dT kvs)):kvs.length ≤ sizeLine∧(a == sysModules)=false ∧
  ∃ xs,KT H kvs xs∧h.DictOfH (tupleKind (Nd P w)) a xs:=YD ok (.inl e)
end
noncomputable def xy (H:Hp) (a:Addr) (y:V) (r:Option V):Prop:=
 (∃ kvs k,Rd H a (.dK kvs)∧y=kV k∧r=Qj kvs k)∨∃ kvs k b,Rd H a (.dT kvs)∧y=.ref b∧H b=some (.tup (k.map kV))∧r=Qj kvs k
noncomputable def vD (H:Hp) (a:Addr) (y v:V) (H':Hp):Prop:=
 (∃ kvs k,H a=some (.dK kvs)∧y=kV k∧kvs.length < sizeLine∧H'=upd H a (.dK (Uo kvs k v))) ∨
 ∃ kvs k b,H a=some (.dT kvs)∧y=.ref b∧H b=some (.tup (k.map kV))∧kvs.length < sizeLine∧H'=upd H a (.dT (Uo kvs k v))
theorem xy.k {H:Hp} {a:Addr} {kvs:List (Key × V)} {k:Key} (e:H a=some (.dK kvs)):xy H a (kV k) (Qj kvs k):=.inl ⟨kvs,k,.inl e,rfl,rfl⟩
theorem xy.t {H:Hp} {a b:Addr} {kvs:List (List Key × V)} {k:List Key} (e:H a=some (.dT kvs)) (eb:H b=some (.tup (k.map kV))):xy H a (.ref b) (Qj kvs k):=.inr ⟨kvs,k,b,.inl e,rfl,eb,rfl⟩
theorem vD.k {H:Hp} {a:Addr} {kvs:List (Key × V)} {k:Key} {v:V} (e:H a=some (.dK kvs)) (hl:kvs.length < sizeLine):vD H a (kV k) v (upd H a (.dK (Uo kvs k v))):=.inl ⟨kvs,k,e,rfl,hl,rfl⟩
theorem vD.t {H:Hp} {a b:Addr} {kvs:List (List Key × V)} {k:List Key} {v:V} (e:H a=some (.dT kvs)) (eb:H b=some (.tup (k.map kV))) (hl:kvs.length < sizeLine) :
  vD H a (.ref b) v (upd H a (.dT (Uo kvs k v))):=.inr ⟨kvs,k,b,e,rfl,eb,hl,rfl⟩
section
variable {X:Cx} {pins:List (Addr × Obj)} {σ:St} {H:Hp} {s:Shared} {a:Addr} {y v:V} {u r:Value} {o:Option V} {A:Around} {E:Value→Shared→Prop}
theorem Inv.big (I:Inv X pins σ H s):sysModules < s.heap.objs.size:=by
 have h:mainGlobals < s.heap.objs.size:=(I.mod.glob.keeps I.bk).lt;exact Nat.lt_trans (by decide) h
theorem fz {Q:Value→Shared→Prop} (hu:A.units + 1 < cLine) (I:Inv X pins σ H s) (g:xy H a y (some v)) (ry:ad y u) (h:∀ w' s',Inv X pins σ H s'→ad v w'→Q w' s') :
  wpAny (model X.prog X.w) A (getItem (.ref a) u) Q E s:=by
 rcases g with ⟨kvs,k,e,ey,l⟩ | ⟨kvs,k,b,e,ey,eb,l⟩
 ·subst ey;obtain ⟨z,hd,vs,rel,dd⟩:=rD I.hok e;obtain ⟨w',hw,rw'⟩:=Vp.some_of (v:=v) (o:=valueAt vs k) (by rw [l];exact rel.val k);exact wpAny_getItem_of (RD ry) dd.mapOf hw (h w' _ (I.tok _) rw')
 ·subst ey;cases (show u=Value.ref b from ry);obtain ⟨z,hd,xs,rel,dd⟩:=YD I.hok e;obtain ⟨w',hw,rw'⟩:=Vp.some_of (v:=v) (o:=(atKey xs k).map (·.2)) (by rw [l];exact rel.val k);obtain ⟨p,hp,hp2⟩:=Option.map_eq_some_iff.mp hw;refine wpAny_getItem_heap (tupleKind_room_in1 hu) (Hn I.hok eb) dd hp ?_;rw [hp2];exact h w' _ (I.tok _) rw'
theorem uG {Q:Value→Shared→Prop} (hu:A.units + 1 < cLine) (I:Inv X pins σ H s) (g:xy H a y o) (ry:ad y u) (h:∀ s',Inv X pins σ H s'→Q (.bool (!o.isSome)) s') :
  wpAny (model X.prog X.w) A (compareOp .NotIn u (.ref a)) Q E s:=by
 rcases g with ⟨kvs,k,e,ey,l⟩ | ⟨kvs,k,b,e,ey,eb,l⟩
 ·subst ey;obtain ⟨z,hd,vs,rel,dd⟩:=rD I.hok e;refine wpAny_notIn_of (RD ry) hd dd.mapOf ?_;rw [← (rel.val k).isSome_eq,← l];exact h _ (I.tok _)
 ·subst ey;cases (show u=Value.ref b from ry);obtain ⟨z,hd,xs,rel,dd⟩:=YD I.hok e;refine wpAny_notIn_heap (tupleKind_room_in1 hu) (Hn I.hok eb) hd dd ?_;have q:=(rel.val k).isSome_eq;rw [Option.isSome_map] at q;rw [← q,← l];exact h _ (I.tok _)
theorem GB {h':Heap} {t':Nat} {ob:HO} (I:Inv X pins σ H s) (mu:Mut (H a)) (hs:Heap.SameBut a s.heap h') (he:∃ q,h'.get? a=some q) (new:Kd X.prog X.w (upd H a ob) h' a ob) :
  Inv X pins σ (upd H a ob) { s with heap:=h',toks:=t' }:=
 I.write (x:=a) (e:=a) mu (.inl rfl) (fun b q hb z=>(hs.2 b hb).trans z) he new
theorem jJ {P:Program} {w:World} {H':Hp} {h':Heap} {kvs:List (Key × V)} {vs:List (Key × Value)} (z:kvs.length ≤ sizeLine) (hd:(a == sysModules)=false) (rel:KV kvs vs) (dd:h'.DictOf (Nd P w) a vs) :
  Kd P w H' h' a (.dK kvs):=⟨z,hd,vs,rel,dd⟩
theorem Ys {H':Hp} {Q:Unit→Shared→Prop} (hu:A.units + 1 < cLine) (I:Inv X pins σ H s) (g:vD H a y v H') (ry:ad y u) (rv:ad v r) (h:∀ s',Inv X pins σ H' s'→Q () s') :
  wpAny (model X.prog X.w) A (setItem (.ref a) u r) Q E s:=by
 rcases g with ⟨kvs,k,e,ey,l,eH⟩ | ⟨kvs,k,b,e,ey,eb,l,eH⟩
 ·subst ey eH;obtain ⟨z,hd,vs,rel,dd⟩:=nK I.hok e;have hz:vs.length ≤ sizeLine:=by rw [← rel.length];exact z
  have hl:(Uo kvs k v).length ≤ sizeLine:=by have:=Tn kvs k v;omega
  refine wpAny_setItem_pairs (hsz:=hz) (RD ry) dd fun h' dd' hs=>h _ ?_
  have he:∃ q,h'.get? a=some q:=let ⟨q,_,_,hq,_⟩:=dd';⟨q,hq⟩;exact GB I (by rw [e];exact True.intro) hs he (jJ hl hd (rel.put k rv) dd')
 ·subst ey eH;cases (show u=Value.ref b from ry);obtain ⟨z,hd,xs,rel,dd⟩:=gH I.hok e;have hz:xs.length ≤ sizeLine:=by rw [← Paired.length rel];exact z
  have hl:(Uo kvs k v).length ≤ sizeLine:=by have:=Tn kvs k v;omega
  refine wpAny_setItem_heap (hsz:=hz) (tupleKind_room_in1 hu) (Hn I.hok eb) dd fun h' dd' hs=>h _ ?_
  obtain ⟨q,es,ep,hq,h2,h3,h4,_,h5⟩:=dd';refine GB I (by rw [e];exact True.intro) hs ⟨q,hq⟩ ⟨hl,hd,_,(rel.put k eb rv).keeps fun c ys ec=>?_,q,es,ep,hq,h2,h3,h4,h5⟩;rw [ub (ij ec e (fun z=>nomatch z))];exact ec
end
section
variable {X:Cx} {pins:List (Addr × Obj)} {σ:St} {H:Hp} {s:Shared} {a:Addr} {kvs:List (Key × V)} {k:Key} {u:Value} {A:Around} {E:Value→Shared→Prop}
end
noncomputable def qK (i:Expr):Prop:=∀ ov iv,subscripted i false ov iv=operate [ov,iv] (getItem ov iv)
theorem ZB {prog:Program} {w:World} {A:Around} {E:Value→Shared→Prop} {s:Shared} {env:Env} {value slice:Expr} {pos:Pos} {T id:String} {Q:Value→Shared→Prop}
  (hl:typeLookup (.type T) "__getitem__"=pure (some (.builtin id))) (hs:qK slice)
  (h:wpAny (model prog w) A (eval value env) (fun o s₁=>wpAny (model prog w) A (eval slice env) (fun i s₂=>s₂.TypeIs o T∧wpAny (model prog w) A (getItem o i) Q E s₂) E s₁) E s) :
  wpAny (model prog w) A (eval (.Subscript value slice pos) env) Q E s:=by
 refine Subscript_ (wpAny_mono h (fun o s₁ h₁=>wpAny_mono h₁ (fun i s₂ h₂=>?_) fun _ _ x=>x) fun _ _ x=>x);obtain ⟨hT,h₂⟩:=h₂;unfold subscriptTail;refine wpAny_bind ?_;rw [getitemInPython_of_ne hT.not_modules];refine wpAny_bind (wpAny_specialOf hT hl ?_);have fin:wpAny (model prog w) A (subscripted slice false o i) (fun r s₃=>wpAny (model prog w) A (letTemporaryGo value o r >>= fun _=>pure r) Q E s₃) E s₂:=by
  rw [hs o i];exact wpAny_operating (wpAny_mono h₂ (fun r s₃ h₃=>wpAny_bind (wpAny_letTemporaryGo (wpAny_pure h₃))) fun _ _ x=>x)
 first
  | exact wpAny_pure (wpAny_bind fin)
  | exact wpAny_bind (wpAny_pure (wpAny_bind fin))
  | exact wpAny_bind fin
theorem ku {X:Cx} {pins:List (Addr × Obj)} {σ:St} {H:Hp} {s:Shared} {a:Addr} {y:V} {o:Option V} (I:Inv X pins σ H s) (g:xy H a y o):s.TypeIs (.ref a) "dict" := by
 rcases g with ⟨kvs,k,e,_,_⟩ | ⟨kvs,k,b,e,_,_,_⟩
 ·obtain ⟨_,_,vs,_,dd⟩:=rD I.hok e;exact dd.typeIs
 ·obtain ⟨_,_,xs,_,dd⟩:=YD I.hok e;exact dd.typeIs
noncomputable def lI (td ty:TE):TE:=fun σ H Q=>td σ H fun x H1=>ty σ H1 fun y H2=>jh x fun a=>∃ v,xy H2 a y (some v)∧Q v H2
noncomputable def mB (ty td:TE):TE:=fun σ H Q=>ty σ H fun y H1=>td σ H1 fun x H2=>jh x fun a=>∃ o,xy H2 a y o∧Q (.bl (!o.isSome)) H2
noncomputable def vI (td ty tv:TE):TS:=fun D σ H=>tv σ H fun v H1=>td σ H1 fun x H2=>ty σ H2 fun y H3=>jh x fun a=>∃ H4,vD H3 a y v H4∧D.nx σ H4
section
variable {X:Cx} {o i e value:Expr} {pos pos' tpos:Pos} {td ty tv:TE}
theorem HH (hu:X.A.units + 1 < cLine) (ho:PE X o td) (hi:PE X i ty) (hs:qK i):PE X (.Subscript o i pos) (lI td ty):=by
 intro pins s σ H Q I h;refine ZB PySem.F.slot_dict_getitem.lookup hs (thn (ho pins s σ H _ I h) fun u s1 ⟨x,H1,I1,rx,q1⟩=>thn (hi pins s1 σ H1 _ I1 q1) fun iv s2 hZ1=>?_);obtain ⟨y,H2,I2,ry,zq⟩:=hZ1;obtain ⟨a,ex,v,g,q2⟩:=jh.out zq;subst ex;obtain rfl:u=Value.ref a:=rx;exact ⟨ku I2 g,fz hu I2 g ry fun w' s3 I3 rw'=>⟨v,H2,I3,rw',q2⟩⟩
theorem gB (hu:X.A.units + 1 < cLine) (hi:PE X i ty) (ho:PE X o td):PC X .NotIn i o (mB ty td):=by
 intro pins s σ H Q I h;refine thn (hi pins s σ H _ I h) fun iv s1 ⟨y,H1,I1,ry,q1⟩=>thn (ho pins s1 σ H1 _ I1 q1) fun u s2 hZ1=>?_
 obtain ⟨x,H2,I2,rx,zq⟩:=hZ1;obtain ⟨a,ex,ov,g,q2⟩:=jh.out zq;subst ex;obtain rfl:u=Value.ref a:=rx;exact uG hu I2 g ry fun s3 I3=>⟨.bl (!ov.isSome),H2,I3,rfl,q2⟩
theorem DG (hu:X.A.units + 1 < cLine) (ho:PE X o td) (hi:PE X i ty) (hv:PE X value tv) (hs:swapsWith value (some (.Subscript o i pos')) pos.line X.env=pure false) :
  PS X (.Assign [.Subscript o i pos'] value pos) (vI td ty tv):=by
 intro pins s σ H D I h;refine wpAny_Assign_Subscript (thn (hv pins s σ H _ I h) fun r s1 ⟨v,H1,I1,rv,q1⟩=>thn (ho pins s1 σ H1 _ I1 q1) fun u s2 ⟨x,H2,I2,rx,q2⟩=>thn (hi pins s2 σ H2 _ I2 q2) fun iv s3 hZ1=>?_) hs;obtain ⟨y,H3,I3,ry,zq⟩:=hZ1;obtain ⟨a,ex,H4,g,q3⟩:=jh.out zq;subst ex;obtain rfl:u=Value.ref a:=rx;exact Ys hu I3 g ry rv fun s4 I4=>⟨σ,H4,I4,q3⟩
end
theorem ED {P:Program} {w:World} {H:Hp} (h:Heap) (hb:sysModules < h.objs.size):Kd P w H (h.push { cls:=.type "dict",data:=.dict #[] }) h.objs.size (.dK []):=
 ⟨Nat.zero_le _,beq_eq_false_iff_ne.mpr (Ne.symm (Nat.ne_of_lt hb)),[],.nil,Heap.DictOf.new h⟩
theorem fE {P:Program} {w:World} {H:Hp} (h:Heap) (hb:sysModules < h.objs.size):Kd P w H (h.push { cls:=.type "dict",data:=.dict #[] }) h.objs.size (.dT []):=
 ⟨Nat.zero_le _,beq_eq_false_iff_ne.mpr (Ne.symm (Nat.ne_of_lt hb)),[],.nil,_,#[],0,Heap.get?_push_size _ rfl,⟨rfl,rfl,rfl⟩,rfl,rfl,List.nodup_nil⟩
noncomputable def KF:TE:=fun _ H Q=>∀ p,H p=none→Q (.ref p) (upd H p (.dK []))
noncomputable def lF:TE:=fun _ H Q=>∀ p,H p=none→Q (.ref p) (upd H p (.dT []))
section
variable {X:Cx} {pos:Pos}
theorem BE:PE X (.Dict [] [] pos) KF:=fun pins s σ H Q I h=>
 wpAny_Dict_empty ⟨.ref s.heap.objs.size,_,I.laid (a:=s.heap.objs.size) (o:=.dK []) (t':=s.toks) (fun _ _ q=>Heap.get?_push_of_some _ q) (Nat.le_refl _) (ED s.heap I.big),rfl,h _ (I.hok.fresh (Nat.le_refl _))⟩
theorem VD:PE X (.Dict [] [] pos) lF:=fun pins s σ H Q I h=>
 wpAny_Dict_empty ⟨.ref s.heap.objs.size,_,I.laid (a:=s.heap.objs.size) (o:=.dT []) (t':=s.toks) (fun _ _ q=>Heap.get?_push_of_some _ q) (Nat.le_refl _) (fE s.heap I.big),rfl,h _ (I.hok.fresh (Nat.le_refl _))⟩
end
noncomputable def NI (kvs more:List (Key × V)):List (Key × V):=more.foldl (fun acc kv=>Uo acc kv.1 kv.2) kvs
theorem KV.merge:∀ {more:List (Key × V)} {rs:List (Key × Value)} {kvs:List (Key × V)} {vs:List (Key × Value)},KV more rs→KV kvs vs→KV (NI kvs more) (merged vs rs):=by
 intro more rs kvs vs r;unfold KV at r
 induction r generalizing kvs vs with
 | nil=>intro q;exact q
 | @cons p q ps qs h t ih=>
  intro r0;have e:KV (Uo kvs p.1 p.2) (stored vs q.1 q.2):=by
   have:=r0.put p.1 h.2;rw [← h.1];exact this
  exact ih e
structure M1 (X:Cx) (o:Expr) (m:Str) (apos:Pos) (e:Expr) (cpos:Pos):Prop where
 base:attributeBase o m X.env (eval o X.env)=eval o X.env
 few:((backTo cpos (starEach [e] X.env)).all (fun x=>!x.1) && (backToKw cpos (keywordEach [] X.env)).all (fun x=>x.1.isSome)
  && decide (([e]:List Expr).length + ([]:List Keyword).length + (if ([]:List Keyword).isEmpty then 0 else 1) < 30))=true
 line:(apos.endLine == cpos.line)=true
 trees:backTo cpos (starEach [e] X.env)=[(false,eval e X.env)]
structure M2 (X:Cx) (o:Expr) (m:Str) (apos:Pos) (e f:Expr) (cpos:Pos):Prop where
 base:attributeBase o m X.env (eval o X.env)=eval o X.env
 few:((backTo cpos (starEach [e,f] X.env)).all (fun x=>!x.1) && (backToKw cpos (keywordEach [] X.env)).all (fun x=>x.1.isSome)
  && decide (([e,f]:List Expr).length + ([]:List Keyword).length + (if ([]:List Keyword).isEmpty then 0 else 1) < 30))=true
 line:(apos.endLine == cpos.line)=true
 trees:backTo cpos (starEach [e,f] X.env)=[(false,eval e X.env),(false,eval f X.env)]
section
variable {X:Cx} {pins:List (Addr × Obj)} {σ:St} {H:Hp} {s:Shared} {a:Addr} {y d:V} {u r:Value} {o:Option V} {A:Around} {E:Value→Shared→Prop}
end
section
variable {X:Cx} {o e f:Expr} {apos cpos:Pos} {td ty tx:TE}
end
section
variable {X:Cx} {pins:List (Addr × Obj)} {σ:St} {H:Hp} {s:Shared} {a:Addr} {kvs:List (Key × V)} {A:Around} {E:Value→Shared→Prop}
end
section
variable {X:Cx} {pins:List (Addr × Obj)} {σ:St} {H:Hp} {s:Shared} {a:Addr} {y:V} {u:Value} {A:Around} {E:Value→Shared→Prop}
end
end L2
namespace Att
open PySem PySem.W PySem.Calls PyProof.Rows
theorem Nn {P:Params} {h:Heap}:∀ (ns:List Int) (vs:List Value),WellAll P h vs (ns.map WData.int)→IntsAre vs ns:=by
 intro ns
 induction ns with
 | nil=>
  intro vs w;rw [List.map_nil] at w;cases w;exact .nil
 | cons n ns ih=>
  intro vs w;rw [List.map_cons] at w;cases w with
  | cons a b=>
   cases a;exact .cons _ _ (ih _ b)
theorem wA {l:OpenLaw} {n:Nat} (hn:l.most=some n) {P:Params} {h:Heap} {args:List WData} {vals:List Value}
  (hpre:l.row.toRowW.claim.pre args=true) (hwl:WellAll P h vals args) :
  ∃ a vs ns,vals=[Value.ref a]∧args=[WData.list (ns.map WData.int)]∧h.get? a=some { cls:=.type "list",data:=.seq vs.toArray }∧IntsAre vs ns∧ns.length ≤ n:=by
 have hsh:WShape.hasAll [] args [.list .int]=true:=(pre_splitW hpre).1;have hc:l.pre.holds [] { args:=args }=true:=(pre_splitW hpre).2;obtain ⟨d,r,rfl,h1,h2⟩:=hasAllW_cons hsh;obtain rfl:=hasAllW_nil h2;obtain ⟨xs,rfl,h3⟩:=hasW_list h1;obtain ⟨ns,rfl⟩:=items_int h3;have hlen:ns.length ≤ n:=by
  unfold OpenLaw.pre at hc;have h4:(WTm.not (.lt (.lit (.int (n:Int))) (.len (.arg 0)))).holds [] { args:=[.list (ns.map .int)] }=true:=by
   have h4:=(holds_andW hc).1;rw [hn] at h4;exact h4
  have h5:=condW_of h4 (w_not (w_lt w_lit (w_len_list (w_arg rfl))));rw [List.length_map] at h5;refine Nat.le_of_not_lt fun q=>?_
  have q':(n:Int) < ((ns.length:Nat):Int):=by omega
  first
   | (rw [decide_eq_true q'] at h5;exact absurd h5 (by decide))
   | (simp at h5;omega)
 cases hwl with
 | cons w1 w2=>
  cases w2;cases w1 with
  | list ho hall=>exact ⟨_,_,ns,rfl,rfl,ho,Nn ns _ hall,hlen⟩
theorem cz (l:OpenLaw) (args:List WData):l.row.toRowW.claim.post args (.bool true) args=true:=
 postW_of (r:=l.row.toRowW) (X:=(true == true))
  (show WShape.has [] (.bool true) .bool=true by first | rfl | decide | simp [WShape.has,WShape.arms,WShape.armsAll])
  (show (WTm.eq .res (.lit (.bool true))).value [] { args:=args,res:=some (.bool true),after:=args }=some (.bool (true == true)) from w_eq_bool (w_res rfl) w_lit) rfl
theorem attach_call {l:OpenLaw} {n:Nat} {q:Program} {loose:List Str} {XP:(Str→Option Value)→Heap→Prop} {YP:World→Heap→Prop} {d:DefRec}
  (hn:l.most=some n) (hdf:d.params.defaults=[])
  (call:∀ (w:World) (s₀ s₁:Shared) (mg mb:Str→Option Value) (fa:Addr) (o:Obj) (pm cd doc:Value) (a:Addr) (vs:List Value) (ns:List Int),
   Ground q loose [] XP w s₀ mg mb s₁.heap→YP w s₁.heap →
   s₁.heap.get? fa=some o→o.data=.func (docDef d.name d.params d.body d.scope pm cd doc)→s₁.heap.CodeRec cd d.name→mg d.name=some (.ref fa) →
   s₁.heap.get? a=some { cls:=.type "list",data:=.seq vs.toArray }→IntsAre vs ns→ns.length ≤ n→s₁.gens=#[] →
   codeAny (model l.prog w) callerA (.call (.ref fa) ⟨[.ref a],[]⟩) (fun r s'=>r=.ok (.ret (.bool true))∧OldK s₁.heap s'.heap∧s'.os=s₁.os∧AllBare s'.gens) s₁) :
  WalkO q loose XP YP l.row.toRowW d [] (fun f vs=>PySem.call f vs):=by
 intro w s₀ s₁ mg mb G Y fa o pm cd doc dV kV ho hd hcd hD hmg hg args vals as hpre hlay hrd hwl hlo;obtain rfl:dV=.none:=Dflts.none hD hdf;obtain rfl:kV=.none:=Dflts.noKw hD;obtain ⟨a,vs,ns,rfl,rfl,hobj,hints,hlen⟩:=wA hn hpre hwl;refine enter_call (codeAny_mono (call w s₀ s₁ mg mb fa o pm cd doc a vs ns G Y ho (fd_plain hd) hcd hmg hobj hints hlen hg) fun r s' hq=>?_);obtain ⟨rfl,h2,h3,h4⟩:=hq;exact ⟨.inl ⟨.bool true,.bool true,[],rfl,fun _=>rfl,.bool true,cz l _,fun _=>⟨List.Pairwise.nil,fun _ hm=>(nomatch hm)⟩⟩,h2,h3,h4⟩
section
variable {prog:Program} {w:World} {A:Around} {E:Value→Shared→Prop} {s:Shared} {K:Frag}
end
end Att
namespace L2
open PySem PySem.Spec PyProof.Rows
theorem Zs:∀ {vs:List Value} {ns:List Int},IntsAre vs ns→Zc (ns.map V.int) vs
 | _,_,.nil=>.nil
 | _,_,.cons n t h=>.cons ⟨t,rfl⟩ (Zs h)
noncomputable def ZI (H:Hp):Prop:=∀ b,H b=none∨∃ o xs,H b=some (.frz o (.lst xs))
theorem FD {P:Program} {w:World} {K:PySem.W.Frag} {mg mb:Str→Option Value} {CX:CXT} {k:Nat} {fa a:Addr} {fd:FuncData} {x:Str} {sp:Sp} {s₁:Shared} {vs:List Value} {ns:List Int}
  (KX:K.In s₁.heap) (hns:s₁.heap.Ns mainGlobals mg) (hb:s₁.heap.Ns builtinsNs mb) (hbb:∀ x:Str,x ≠ "__name__" → mb x=bootBuiltins x) (hlim:s₁.heap.NoLimit) (hg:s₁.gens=#[])
  (ha:s₁.heap.get? a=some { cls:=.type "list",data:=.seq vs.toArray }) (hi:IntsAre vs ns) (hl:ns.length ≤ sizeLine) (hr:Ai k callerA)
  (F:∀ base:Heap,K.In base→base.Ns mainGlobals mg→Kb P w K mg base CX k fa fd [x] sp) (hbind:∀ (s:Shared) (u:Value),BindsTo s fd ⟨[u],[]⟩ [(x,u)])
  (hsp:∀ H:Hp,ZI H→SqL K H a (ns.map V.int)→sp [.ref a] H (fun v _=>v=.bl true) fun _ _ _=>False)
  (hCX:∀ H e s',CX [] H s₁ (fun _ _ _=>False) e s'→False) :
  codeAny (model P w) callerA (.call (.ref fa) ⟨[.ref a],[]⟩) (fun r s'=>r=.ok (.ret (.bool true))∧OldK s₁.heap s'.heap∧s'.os=s₁.os∧AllBare s'.gens) s₁:=by
 have rv:=Zs hi;have lenV:=hi.length;have core:∀ H:Hp,ZI H→SqL K H a (ns.map V.int)→HOk P w H s₁.heap→(∀ b,H b ≠ none→b=a)→(H a ≠ none→K.lookup a=none) →
   codeAny (model P w) callerA (.call (.ref fa) ⟨[.ref a],[]⟩) (fun r s'=>r=.ok (.ret (.bool true))∧OldK s₁.heap s'.heap∧s'.os=s₁.os∧AllBare s'.gens) s₁:=by
  intro H hO hS hok hA hK;have base_of:∀ {b:Addr} {o:Obj},s₁.heap.get? b=some o→H b=none→(zE s₁.heap H).get? b=some o:=fun e n=>lD e n
  have noA:∀ {b:Addr} {o:Obj} {es:Array DictEntry} {ep:Nat},s₁.heap.get? b=some o→o.data=.dict es ep→H b=none:=fun {b o es ep} e d=>by
   cases q:H b with
   | none=>rfl
   | some u=>
    have e':b=a:=hA b (by rw [q];simp);subst e';rw [ha] at e;cases e;have d':Data.seq vs.toArray _=Data.dict es ep:=d;cases d'
  have nsK:∀ {b:Addr} {m:Str→Option Value},s₁.heap.Ns b m→(zE s₁.heap H).Ns b m:=fun {b m} ⟨o,es,ep,e,d,r⟩=>⟨o,es,ep,base_of e (noA e d),d,r⟩
  have hKb:K.In (zE s₁.heap H):=fun b o e=>base_of (KX b o e) (by
   cases q:H b with
   | none=>rfl
   | some u=>
    have e':b=a:=hA b (by rw [q];simp);subst e';rw [hK (by rw [q];simp)] at e;cases e)
  have hM:Mod K mg (zE s₁.heap H):=⟨hKb,nsK hns,⟨mb,nsK hb,hbb⟩,let ⟨mc,h1,h2⟩:=hlim;⟨mc,nsK h1,h2⟩⟩;have e0:jA P w K mg (zE s₁.heap H) callerA [] s₁ H:=⟨rfl,hM,fun b o e=>VG e,Nat.le_of_eq (mz _ _),trivial,fun b hb=>absurd (show b ∈ ([]:List Addr) from hb) (by simp),hok,.of_eq hg⟩;refine codeAny_mono ((F _ hKb (nsK hns)).run callerA [] s₁ H ⟨[.ref a],[]⟩ [.ref a] [.ref a] _ _ hr e0 (hbind s₁ (.ref a)) (.cons rfl .nil) (hsp H hO hS)) fun r s' h=>?_
  cases r with
  | error e=>exact (hCX H e s' h).elim
  | ok fl=>
   cases fl with
   | next=>exact False.elim h
   | brk=>exact False.elim h
   | cont=>exact False.elim h
   | ret u=>
    obtain ⟨v,H',os,bare,un,hok',r',q⟩:=h;have q':v=.bl true:=q;subst q';obtain rfl:u=Value.bool true:=r';refine ⟨rfl,OldK.of_keep fun b o e=>?_,os,bare⟩;cases q:H b with
    | none=>exact un.keep b o e q (by intro z;exact absurd (show b ∈ ([]:List Addr) from z) (by simp)) (by simp)
    | some u=>
     rcases hO b with z | ⟨ob,xs,z⟩
     ·rw [q] at z;cases z
     ·have z2:=un.frzs b ob _ z;obtain ⟨e1,_⟩:=hok b _ z;obtain ⟨e2,_⟩:=hok' b _ z2;rw [e] at e1;cases e1;exact e2
 cases hk:K.lookup a with
 | some o=>
  have e:=KX a o hk;rw [ha] at e;cases e;refine core (fun _=>none) (fun _=>.inl rfl) (.inr ⟨_,vs.toArray,_,hk,rfl,rfl,rfl,by rw [List.size_toArray,lenV];exact hl,by simpa using rv⟩) (fun b u z=>by have z':(none:Option HO)=some u:=z;cases z') (fun b z=>absurd rfl z) fun z=>absurd rfl z
 | none=>
  refine core (fun b=>if b=a then some (.frz { cls:=.type "list",data:=.seq vs.toArray } (.lst (ns.map V.int))) else none) (fun b=>?_) (.inl (.inr ⟨{ cls:=.type "list",data:=.seq vs.toArray },if_pos rfl⟩)) (fun b u z=>?_) (fun b z=>?_) fun _=>hk
  ·by_cases hb:b=a
   ·exact .inr ⟨_,_,if_pos hb⟩
   ·exact .inl (if_neg hb)
  ·by_cases hb:b=a
   ·have z':=(if_pos hb).symm.trans z;cases z';subst hb;exact ⟨ha,by rw [List.length_map];exact hl,vs,_,rv,ha⟩
   ·have z':=(if_neg hb).symm.trans z;cases z'
  ·by_cases hb:b=a
   ·exact hb
   ·exact absurd (if_neg hb) z
end L2
namespace L2
open PySem PySem.Spec PyProof.Rows
noncomputable abbrev KOf {K:PySem.W.Frag} {h:Heap} (_:K.In h):PySem.W.Frag:=K
theorem QG {l:PySem.W.OpenLaw} {n k:Nat} {q:Program} {loose:List Str} {XP:(Str→Option Value)→Heap→Prop} {YP:World→Heap→Prop} {d:DefRec} {K:Params→PySem.W.Frag} {CX:World→CXT} {sp:World→Sp} {x:Str}
  (hn:l.most=some n) (hn2:n ≤ sizeLine) (hdf:d.params.defaults=[]) (hr:Ai k callerA)
  (hY:∀ (w:World) (h:Heap),YP w h→(K w.params).In h)
  (F:∀ (w:World) (mg:Str→Option Value) (fa:Addr) (h:Heap),(K w.params).In h→h.Ns mainGlobals mg→mg d.name=some (.ref fa) →
   ∃ fd:FuncData,(∀ (s:Shared) (u:Value),BindsTo s fd ⟨[u],[]⟩ [(x,u)]) ∧
    ∀ base:Heap,(K w.params).In base→base.Ns mainGlobals mg→Kb l.prog w (K w.params) mg base (CX w) k fa fd [x] (sp w))
  (hsp:∀ (w:World) (H:Hp) (a:Addr) (ns:List Int),ns.length ≤ n→ZI H→SqL (K w.params) H a (ns.map V.int)→sp w [.ref a] H (fun v _=>v=.bl true) fun _ _ _=>False)
  (hCX:∀ (w:World) (H:Hp) (s:Shared) (e:Value) (s':Shared),CX w [] H s (fun _ _ _=>False) e s'→False) :
  PySem.W.WalkO q loose XP YP l.row.toRowW d [] (fun f vs=>PySem.call f vs):=by
 refine Att.attach_call hn hdf fun w s₀ s₁ mg mb fa o pm cd doc a vs ns G Y ho hd hcd hmg hobj hints hlen hg=>?_
 have KX:=hY w _ Y;obtain ⟨fd,hb,hF⟩:=F w mg fa _ KX G.T.g hmg;exact FD KX G.T.g G.T.b G.T.builtins G.T.nolimit hg hobj hints (Nat.le_trans hlen hn2) hr hF hb (fun H hO hS=>hsp w H a ns hlen hO hS) fun H e s'=>hCX w H s₁ e s'
theorem yD {l:PySem.W.OpenLaw} {n k:Nat} {q:Program} {loose:List Str} {XP:(Str→Option Value)→Heap→Prop} {YP:World→Heap→Prop} {d:DefRec} {K:Params→PySem.W.Frag} {CX:CXT} {sp:PySem.W.Frag→Sp} {x:Str}
  (hn:l.most=some n) (hn2:n ≤ sizeLine) (hdf:d.params.defaults=[]) (hr:Ai k callerA)
  (hY:∀ (w:World) (h:Heap),YP w h→(K w.params).In h)
  (F:∀ (w:World) (mg:Str→Option Value) (fa:Addr) (h:Heap),(K w.params).In h→h.Ns mainGlobals mg→mg d.name=some (.ref fa) →
   ∃ fd:FuncData,(∀ (s:Shared) (u:Value),BindsTo s fd ⟨[u],[]⟩ [(x,u)]) ∧
    ∀ base:Heap,(K w.params).In base→base.Ns mainGlobals mg→Kb l.prog w (K w.params) mg base CX k fa fd [x] (sp (K w.params)))
  (hsp:∀ (K:PySem.W.Frag) (H:Hp) (a:Addr) (ns:List Int),ns.length ≤ n→ZI H→SqL K H a (ns.map V.int)→sp K [.ref a] H (fun v _=>v=.bl true) fun _ _ _=>False)
  (hCX:∀ (H:Hp) (s:Shared) (e:Value) (s':Shared),CX [] H s (fun _ _ _=>False) e s'→False) :
  PySem.W.WalkO q loose XP YP l.row.toRowW d [] (fun f vs=>PySem.call f vs):=
 QG (K:=K) (CX:=fun _=>CX) (sp:=fun w=>sp (K w.params)) hn hn2 hdf hr hY F (fun w H a ns h1 h2 h3=>hsp (K w.params) H a ns h1 h2 h3) fun _ H s e s'=>hCX H s e s'
end L2
namespace L2
open PySem PySem.Spec PyProof.Rows
noncomputable def Mc (s:Stmt) (j:Nat):Stmt:=match s with
 | .ClassDef _ _ _ body _ _ _ _ _ _ _=>body.getD j (.Pass ⟨0,0,0,0⟩)
 | _=>.Pass ⟨0,0,0,0⟩
noncomputable def yr (s:Stmt):Arguments:=match s with
 | .FunctionDef _ a _ _ _ _ _ _ _ _=>a
 | _=>{ posonlyargs:=[],args:=[],vararg:=none,kwonlyargs:=[],kw_defaults:=[],kwarg:=none,defaults:=[] }
noncomputable def Io (s:Stmt):List Stmt:=match s with
 | .FunctionDef _ _ b _ _ _ _ _ _ _=>b
 | _=>[]
noncomputable def jb (s:Stmt):Scope:=match s with
 | .FunctionDef _ _ _ _ _ _ sc _ _ _=>sc
 | _=>{ kind:=.function,names:=[],isGenerator:=false,isCoroutine:=false }
noncomputable abbrev CX0:CXT:=fun _ _ _ _ _ _=>False
noncomputable abbrev E0:XK:=fun _ _ _=>False
theorem Pd {X:Cx}:ol CX0 X E0:=fun _ _ _ _ _ _ _ h=>h.elim
structure Fun (K:PySem.W.Frag) (x qual:Str) (st:Stmt) (f:Addr) (fd:FuncData):Prop where
 ex:∃ (oc:Value) (od:Option Addr) (kV doc pm:Value) (an:Option Addr) (cdv ct:Value) (osl:Array (Option Value)),
  fd=PySem.W.fnOf x qual (yr st) (Io st) (jb st) .none kV doc pm an cdv ct∧K.lookup f=some ⟨oc,od,.func fd,osl⟩∧PySem.W.codeIn K cdv qual=true
 kp:PySem.W.keepIn K (.ref f)=true
section
variable {P:Program} {w:World} {K:PySem.W.Frag} {mg:Str→Option Value} {base:Heap}
theorem Fun.ok {x qual:Str} {st:Stmt} {f:Addr} {fd:FuncData} {N ps:List Str} {k:Nat} {sp:Sp} (F:Fun K x qual st f fd) (S:yb N ps (jb st)) (len:∀ vs H Q E,sp vs H Q E→vs.length=ps.length)
  (hbody:∀ (cdv:Value) (A:Around) (outer:List Env) (s:Shared) (H:Hp) (vs:List V) (Q:VK) (E:XK),Ai k (A.deeper (envOfC qual (jb st) s.heap.objs.size f cdv))→sp vs H Q E →
   ∃ t,PSs (JG CX0 P w K mg base N qual (jb st) f cdv A outer s H E).nox (Io st) t∧t { nx:=fun _ H'=>Q .non H',rt:=Q } (start N vs) H):Kb P w K mg base CX0 (k + 1) f fd ps sp:=by
 obtain ⟨oc,od,kV,doc,pm,an,cdv,ct,osl,rfl,lk,hcd⟩:=F.ex;refine iK lk hcd S len fun A outer s H vs Q E hr hsp=>?_
 obtain ⟨t,h,q⟩:=hbody cdv A outer s H vs Q E hr hsp;exact ⟨t,h.nox,q⟩
theorem Fun.binds {x qual:Str} {st:Stmt} {f:Addr} {fd:FuncData} {ps:List Str} (F:Fun K x qual st f fd)
  (h:∀ (kV doc pm:Value) (an:Option Addr) (cdv ct:Value) (us:List Value),us.length=ps.length→bindArgs (PySem.W.fnOf x qual (yr st) (Io st) (jb st) .none kV doc pm an cdv ct) ⟨us,[]⟩=pure (ps.zip us)):Rb K fd ps []:=by
 obtain ⟨oc,od,kV,doc,pm,an,cdv,ct,osl,rfl,lk,hcd⟩:=F.ex;exact .all (h kV doc pm an cdv ct)
theorem VH {x qual:Str} {st:Stmt} {f:Addr} {oc:Value} {od an:Option Addr} {osl:Array (Option Value)} {kV doc pm cdv ct:Value} (l:K.lookup f=some ⟨oc,od,.func (PySem.W.fnOf x qual (yr st) (Io st) (jb st) .none kV doc pm an cdv ct),osl⟩)
  (c:PySem.W.codeIn K cdv qual=true) (k:PySem.W.keepIn K (.ref f)=true):Fun K x qual st f (PySem.W.fnOf x qual (yr st) (Io st) (jb st) .none kV doc pm an cdv ct):=⟨⟨oc,od,kV,doc,pm,an,cdv,ct,osl,rfl,l,c⟩,k⟩
end
theorem Ck {A:Around} {k:Nat} (hr:Ai k A):A.units + 1 < cLine:=Nat.lt_of_le_of_lt (Nat.add_le_add_left (by decide:1 ≤ 64) _) hr.units
section
variable {X:Cx}
theorem pv (i:Nat) {x:Str} {pos:Pos} (hN:X.N[i]? = some x:=by rfl) (hv:Vis X.env.scope x:=by first | exact Or.inl rfl | exact Or.inr (Or.inl rfl) | exact Or.inr (Or.inr rfl)) (hd:(x == ("__debug__" : Str))=false:=by decide)
  (hcd:(x == ("__classdict__" : Str))=false:=by decide):PE X (.Name x pos) (lK i):=OI hN hv hd hcd
end
noncomputable def Mb (H H':Hp):Prop:=∀ b o,H b=some o→H' b=some o
theorem Mb.refl (H:Hp):Mb H H:=fun _ _ h=>h
theorem Mb.trans {H H1 H2:Hp} (a:Mb H H1) (b:Mb H1 H2):Mb H H2:=fun c o h=>b c o (a c o h)
theorem Mb.free {H H':Hp} (e:Mb H H') {l:Addr} (h:H' l=Option.none):H l=Option.none:=by
 cases q:H l with
 | none=>rfl
 | some o=>
  rw [e l o q] at h;cases h
theorem Mb.seq {K:PySem.W.Frag} {H H':Hp} {a:Addr} {xs:List V} (e:Mb H H') (h:SqL K H a xs):SqL K H' a xs:=by
 rcases h with (h | ⟨o,h⟩) | h
 ·exact .inl (.inl (e _ _ h))
 ·exact .inl (.inr ⟨o,e _ _ h⟩)
 ·exact .inr h
section
variable {κ:Type} [DecidableEq κ]
theorem kE {kvs:List (κ × V)} {k:κ} (h:Qj kvs k=none):¬ k ∈ kvs.map (·.1):=by
 intro m;obtain ⟨p,hp,e⟩:=List.mem_map.mp m;have q:(kvs.any fun kv=>decide (kv.1=k))=true:=List.any_eq_true.mpr ⟨p,hp,decide_eq_true e⟩;rw [br,h] at q;exact absurd q (by simp)
end
end L2
set_option maxHeartbeats 4000000
namespace L2
open PySem PySem.Spec PyProof.Rows
noncomputable def Ur (cells:List (Str × Addr)):List (Str × NameKind)→List (Str × Addr)→List (Str × Addr)
 | [],acc=>acc
 | (n,k) :: r,acc=>if k == .free then (match cells.lookup n with | some c=>Ur cells r ((n,c) :: acc) | none=>Ur cells r acc) else Ur cells r acc
theorem Ju {env:Env}:∀ (names:List (Str × NameKind)) (acc:List (Str × Addr)),(∀ y ∈ names,y.2=.free→∃ c,env.cells.lookup y.1=some c) →
  (forIn names acc (fun (x:Str × NameKind) (cs:List (Str × Addr))=>(if (x.2 == .free)=true then do let a ← cellOf env x.1;pure (ForInStep.yield ((x.1,a) :: cs)) else pure (ForInStep.yield cs):Sem (ForInStep (List (Str × Addr))))))=pure (Ur env.cells names acc)
 | [],acc,_=>rfl
 | (n,k) :: r,acc,h=>by
  have hr:∀ y ∈ r,y.2=.free→∃ c,env.cells.lookup y.1=some c:=fun y hy=>h y (List.mem_cons_of_mem _ hy)
  rw [List.forIn_cons];by_cases hk:(k == NameKind.free)=true
  ·have e:k=.free:=by simpa using hk
   obtain ⟨c,hc⟩:=h (n,k) List.mem_cons_self e;have hc':env.cells.lookup n=some c:=hc;simp only [Ur,hk,if_true,hc',cellOf];exact Ju r _ hr
  ·simp only [Ur,hk];exact Ju r _ hr
theorem FA {scope:Scope} {env:Env} (h:∀ y ∈ scope.names,y.2=.free→∃ c,env.cells.lookup y.1=some c):closureFor scope env=pure (Ur env.cells scope.names []):=by
 unfold closureFor;exact congrArg (fun t=>t >>= pure) (Ju scope.names [] h)
theorem rn {cells:List (Str × Addr)}:∀ (names:List (Str × NameKind)) (acc:List (Str × Addr)) {x:Str} {c:Addr},(Ur cells names acc).lookup x=some c→acc.lookup x=some c∨cells.lookup x=some c
 | [],acc,x,c,h=>.inl h
 | (n,k) :: r,acc,x,c,h=>by
  unfold Ur at h;split at h
  ·cases q:cells.lookup n with
   | none=>rw [q] at h;exact rn r acc h
   | some d=>
    rw [q] at h;rcases rn r _ h with z | z
    ·rw [List.lookup_cons] at z;by_cases hx:(x == n)=true
     ·rw [hx] at z;have e:x=n:=by simpa using hx
      subst e
      right;rw [q];exact z
     ·have hx':(x == n)=false:=by simpa using hx
      rw [hx'] at z;exact .inl z
    ·exact .inr z
  ·exact rn r acc h
theorem Bl {cells:List (Str × Addr)}:∀ (names:List (Str × NameKind)) (acc:List (Str × Addr)) {x:Str} {c:Addr},acc.lookup x=some c→cells.lookup x=some c→(Ur cells names acc).lookup x=some c
 | [],acc,x,c,h,_=>h
 | (n,k) :: r,acc,x,c,h,hc=>by
  unfold Ur;split
  ·cases q:cells.lookup n with
   | none=>exact Bl r acc h hc
   | some d=>
    refine Bl r _ ?_ hc;rw [List.lookup_cons];by_cases hx:(x == n)=true
    ·have e:x=n:=by simpa using hx
     subst e;rw [hx];rw [q] at hc;exact hc
    ·have hx':(x == n)=false:=by simpa using hx
     rw [hx'];exact h
  ·exact Bl r acc h hc
theorem Nl {cells:List (Str × Addr)}:∀ (names:List (Str × NameKind)) (acc:List (Str × Addr)) {x:Str} {c:Addr},(x,NameKind.free) ∈ names→cells.lookup x=some c→(Ur cells names acc).lookup x=some c
 | [],_,_,_,h,_=>nomatch h
 | (n,k) :: r,acc,x,c,h,hc=>by
  rcases List.mem_cons.mp h with e | h
  ·cases e;unfold Ur;rw [if_pos (by decide),hc];refine Bl r _ ?_ hc;rw [List.lookup_cons];simp
  ·unfold Ur;split
   ·cases q:cells.lookup n with
    | none=>exact Nl r acc h hc
    | some d=>exact Nl r _ h hc
   ·exact Nl r acc h hc
theorem Rl {α:Type}:∀ {l:List (Str × α)} {x:Str} {a:α},l.lookup x=some a→(x,a) ∈ l
 | [],_,_,h=>by simp at h
 | (n,b) :: r,x,a,h=>by
  rw [List.lookup_cons] at h;by_cases hx:(x == n)=true
  ·have e:x=n:=by simpa using hx
   subst e;rw [hx] at h;have e2:b=a:=Option.some.inj h;subst e2;exact List.mem_cons_self
  ·have hx':(x == n)=false:=by simpa using hx
   rw [hx'] at h;exact List.mem_cons_of_mem _ (Rl h)
theorem ju {env:Env} {scope:Scope} {x:Str} {k:NameKind} (h:(relabel scope env).names.lookup x=some k) (hk:k=.cell∨k=.free) (hc:∀ y ∈ scope.names,y.2 ≠ .cell):(x,NameKind.free) ∈ scope.names:=by
 have h1:=Rl h;obtain ⟨⟨n,j⟩,hm,e⟩:=List.mem_map.mp h1;have e':(if (j == NameKind.free && env.scope.kind == .function && env.kindOf n == some .cell)=true then (n,NameKind.cell) else (n,j))=(x,k):=e;split at e'
 ·rename_i hcond;have e1:n=x:=(Prod.mk.inj e').1;subst e1;have hj:j=.free:=by
   simp only [Bool.and_eq_true] at hcond;simpa using hcond.1.1
  subst hj;exact hm
 ·have e1:n=x:=(Prod.mk.inj e').1;have e2:j=k:=(Prod.mk.inj e').2;subst e1;subst e2;rcases hk with z | z
  ·exact absurd z (hc _ hm)
  ·subst z;exact hm
theorem Ak {env:Env} {scope:Scope} {x:Str} (h:scope.names.lookup x=some .free):(relabel scope env).names.lookup x=some .cell∨(relabel scope env).names.lookup x=some .free:=by
 have all:∀ (names:List (Str × NameKind)),names.lookup x=some .free →
   (names.map fun (n,k)=>if (k == NameKind.free && env.scope.kind == .function && env.kindOf n == some .cell) then (n,NameKind.cell) else (n,k)).lookup x=some .cell ∨
   (names.map fun (n,k)=>if (k == NameKind.free && env.scope.kind == .function && env.kindOf n == some .cell) then (n,NameKind.cell) else (n,k)).lookup x=some .free:=by
  intro names
  induction names with
  | nil=>intro h;simp at h
  | cons p r ih=>
   obtain ⟨n,k⟩:=p;intro h;rw [List.map_cons];by_cases hx:(x == n)=true
   ·simp only [List.lookup_cons,hx] at h;have hk:k=.free:=Option.some.inj h;subst hk;by_cases hc:(NameKind.free == NameKind.free && env.scope.kind == .function && env.kindOf n == some .cell)=true
    ·left;simp only [if_pos hc,List.lookup_cons,hx]
    ·right;simp only [if_neg hc,List.lookup_cons,hx]
   ·have hx':(x == n)=false:=by simpa using hx
    simp only [List.lookup_cons,hx'] at h;by_cases hc:(k == NameKind.free && env.scope.kind == .function && env.kindOf n == some .cell)=true
    ·simp only [if_pos hc,List.lookup_cons,hx'];exact ih h
    ·simp only [if_neg hc,List.lookup_cons,hx'];exact ih h
 exact all scope.names h
noncomputable abbrev Cx.block (X:Cx) (scope:Scope) (C:Addr) (N:List Str) (s:Shared) (H:Hp) (fp:List Addr):Cx where
 prog:=X.prog
 w:=X.w
 K:=X.K
 mg:=X.mg
 base:=X.base
 A:=X.A
 N:=N
 s₀:=s
 H₀:=H
 env:=compEnvC scope (Ur X.env.cells scope.names []) C X.env
 outer:=X.stack
 stack:=X.stack
 ex:=fp
 fn:=fun _=>false
 calm:=X.calm
 pn:=[]
 xe:=fun _ _=>False
structure Gm (env:Env) (scope:Scope):Prop where
 kind:scope.kind=.function
 nocell:∀ y ∈ scope.names,y.2 ≠ .cell
 fr:∀ y ∈ scope.names,y.2=.free→env.kindOf y.1=some .cell∨env.kindOf y.1=some .free
 loc:∀ x ∈ scope.names,x.2=.local→scope.names.lookup x.1=some .local
noncomputable def blk (sel:List (Option Nat)) (σ:St):St:=sel.map fun o=>o.bind fun j=>(σ[j]?).join
noncomputable def HC (M:List Str) (scope:Scope) (N:List Str) (sel:List (Option Nat)):Prop:=
 sel.length=N.length∧∀ (i j:Nat) (x:Str),sel[i]? = some (some j)→N[i]? = some x→M[j]? = some x∧scope.names.lookup x=some .free
section
variable {X:Cx} {pins:List (Addr × Obj)} {σ:St} {H:Hp} {s:Shared} {scope:Scope} {fp:List Addr} {C:Addr} {N:List Str}
theorem Gm.cells (S:Gm X.env scope) (ok:X.Ok):∀ y ∈ scope.names,y.2=.free→∃ c,X.env.cells.lookup y.1=some c:=fun y hy e=>ok.has y.1 (S.fr y hy e)
theorem Hq {x:Str} {c:Addr} (h:(Ur X.env.cells scope.names []).lookup x=some c):X.env.cells.lookup x=some c:=by
 rcases rn _ _ h with z | z
 ·simp at z
 ·exact z
theorem Uv (I:Inv X pins σ H s) (S:Gm X.env scope) (hf:∀ b ∈ fp,Xq X pins H b) (hs:∀ b ∈ fp,b < s.heap.objs.size) (hC:s.heap.objs.size ≤ C):(X.block scope C N s H fp).Ok where
 mod:=I.ok.mod
 kind:=S.kind
 glob:=I.ok.glob
 blt:=I.ok.blt
 above:=hC
 inj:=fun x y c h1 h2=>I.ok.inj x y c (Hq h1) (Hq h2)
 has:=fun x h=>by
  have hk:∃ k,(relabel scope X.env).names.lookup x=some k∧(k=.cell∨k=.free):=by
   rcases h with h | h
   ·exact ⟨_,h,.inl rfl⟩
   ·exact ⟨_,h,.inr rfl⟩
  obtain ⟨k,h1,h2⟩:=hk;have hm:=ju h1 h2 S.nocell;obtain ⟨c,hc⟩:=S.cells I.ok _ hm rfl;exact ⟨c,Nl _ _ hm hc⟩
 cab:=fun _ _ h _=>nomatch h
 hd:=I.ok.hd
 frames:=I.ok.frames
 stk:=.inl rfl
 exf:=fun b hb=>⟨Nat.ne_of_lt (Nat.lt_of_lt_of_le (hs b hb) hC),fun x c e=>(hf b hb).2.2.2.2.1 x c (Hq e)⟩
 bs:=I.bs
 bsz:=Nat.le_trans I.ok.bsz I.sz
 noex:=fun b o e hb=>by
  rcases (hf b hb).2.2.2.1 with z | z
  ·exact I.ok.noex b o e z
  ·exact absurd (Nat.lt_of_lt_of_le (Nat.lt_of_lt_of_le (Heap.lt_size e) I.ok.bsz) z) (Nat.lt_irrefl _)
 exfs:=fun b hb hz=>by
  rcases List.mem_cons.mp (I.stkSub b hz) with z | z
  ·exact (hf b hb).2.1 z
  ·exact (hf b hb).2.2.1 z
 funs:=I.stack
 frf:=I.stkFree
theorem Qz {h':Heap} {t':Nat} {m:Str→Option Value} {sel:List (Option Nat)} (I:Inv X pins σ H s) (S:Gm X.env scope) (hf:∀ b ∈ fp,Xq X pins H b) (hs:∀ b ∈ fp,b < s.heap.objs.size) (hC:s.heap.objs.size ≤ C)
  (k:∀ b o,s.heap.get? b=some o→h'.get? b=some o) (hn:h'.Ns C m) (hsel:HC X.N scope N sel):Inv (X.block scope C N s H fp) [] (blk sel σ) H { s with heap:=h',toks:=t' } where
 ok:=Uv I S hf hs hC
 os:=rfl
 bare:=I.bare
 base:=Un.kept k
 loc:=by
  refine ⟨m,hn,fun i x v e1 e2 e3=>?_⟩;obtain ⟨m0,hn0,hl⟩:=I.loc;obtain ⟨j,ej,eσ⟩:∃ j,sel[i]? = some (some j)∧σ[j]? = some (some v):=by
   unfold blk at e2;rw [List.getElem?_map] at e2;cases q:sel[i]? with
   | none=>rw [q] at e2;cases e2
   | some o=>
    rw [q] at e2;cases o with
    | none=>cases e2
    | some j=>
     refine ⟨j,rfl,?_⟩;have e2':(σ[j]?).join=some v:=Option.some.inj e2;cases r:σ[j]? with
     | none=>rw [r] at e2';cases e2'
     | some z=>rw [r] at e2';exact congrArg some e2'
  obtain ⟨eN,hfr⟩:=hsel.2 i j x ej e1;have hm:=Rl hfr;have hk:=S.fr _ hm rfl;have hv:Vis X.env.scope x:=hk.elim (fun z=>.inr (.inl z)) fun z=>.inr (.inr z)
  obtain ⟨u,r,l⟩:=hl j x v eN eσ hv;refine ⟨u,r,?_⟩;rcases l with ⟨hloc,_⟩ | ⟨_,c,hc,hcell⟩
  ·rcases hk with z | z <;> (have z':X.env.kindOf x=_:=z;rw [hloc] at z';cases z')
  ·refine .inr ⟨?_,c,Nl _ _ hm hc,?_⟩
   ·exact Ak hfr
   ·obtain ⟨o,ho,hd⟩:=hcell;exact ⟨o,k _ _ ho,hd⟩
 cell:=fun x c e=>by
  obtain ⟨v,o,ho,hd⟩:=I.cell x c (Hq e);exact ⟨v,o,k _ _ ho,hd⟩
 free:=I.hok.fresh hC
 freeC:=fun x c e=>I.freeC x c (Hq e)
 pin:=fun p hp=>nomatch hp
 hok:=I.hok.kept k
 len:=by unfold blk;rw [List.length_map];exact hsel.1
theorem Inv.adopt {a:Addr} {o:HO} (I:Inv X pins σ H s) (fo:Xq X pins H a) (new:Kd X.prog X.w (upd H a o) s.heap a o):Inv X pins σ (upd H a o) s:=by
 obtain ⟨hn,hL,hfs,hex,hcl,hpn⟩:=fo;refine I.step (g':=s.gens) (d':=s.drawn) (t':=s.toks) (h':=s.heap) (ch:=[a]) (fun b hb=>?_) (fun b o _ _ _ e _=>e) (fun b o _ _ _ e _=>⟨o.slots,e⟩) (fun b o hb e n=>?_) (fun b o _ e=>⟨o,e⟩)
  (fun b xs e=>?_) (fun b o u e=>?_) (fun b ps e=>⟨#[],?_⟩) (fun m hm=>hm) (fun b u e=>?_) I.bare
 ·have e:b=a:=by simpa using hb
  subst e;exact ⟨hex,hL,hcl,hpn⟩
 ·rw [ub (fun z=>hb (by simp [z]))];exact n
 ·rw [ub (Db e hn)];exact e
 ·rw [ub (Db e hn)];exact e
 ·rw [ub (Db e hn),e];simp
 ·by_cases hb:b=a
  ·subst hb;rw [db] at e;cases e;exact new
  ·rw [ub hb] at e;exact (I.hok b u e).stay (fun c v _ q=>q) (fun c q=>by rw [ub (Db q hn)];exact q) fun c xs q=>by rw [ub (Db q hn)];exact q
end
theorem Kj {prog:Program} {w:World} {A:Around} {R:Result→Shared→Prop} {s:Shared} {elt target iter:Expr} {ifs:List Expr} {scope:Scope} {pos:Pos} {it acc:Value} {env:Env} (I:Nat→Shared→Prop)
  (turn:∀ n s,I n s→wpAny (model prog w) A (pyNext it) (fun r s₁=>match r with
   | none=>R (.ok .next) s₁
   | some v=>wpAny (model prog w) A (letOwnedTupleGo target it v) (fun _ s₀=>wpAny (model prog w) A (assign target env v) (fun _ s₂=>
     wpAny (model prog w) A (forIn ifs true fun c r=>if r=true then do let ok ← isTrue c env (eval c env);pure (ForInStep.yield ok) else pure (ForInStep.yield r)) (fun ok s₃=>
      if ok=true then wpAny (model prog w) A (eval elt env) (fun x s₄=>
       wpAny (model prog w) A (call (.builtin "list.append") [acc,x]) (fun _ s₅=>∃ m,m < n∧I m s₅) (fun _ _=>False) s₄) (fun _ _=>False) s₃
      else ∃ m,m < n∧I m s₃) (fun _ _=>False) s₂) (fun _ _=>False) s₀) (fun _ _=>False) s₁) (fun _ _=>False) s)
  (n:Nat) (h:I n s) :
  codeAny (model prog w) A (.compLoop (.ListComp elt [⟨target,iter,ifs,0⟩] scope pos) 0 it acc env) R s:=by
 refine codeAny_loop rfl I (fun n s hI=>?_) n h;show wpAny _ A ((compTurn (.ListComp elt [⟨target,iter,ifs,0⟩] scope pos) 0 it acc env).onRaise (fun x=>do noteFrame x env;theTreesLotGoes x)) _ _ s;refine wpAny_noted (wpAny_noRaise ?_);rw [compTurn_list];refine wpAny_bind (wpAny_standAt (wpAny_bind (wpAny_mono (turn n s hI) (fun r s₁ h₁=>?_) fun _ _ h'=>h')));cases r with
 | none=>exact wpAny_pure h₁
 | some v=>
  refine wpAny_bind (wpAny_mono h₁ (fun _ s₀ h₀=>?_) fun _ _ h'=>h');refine wpAny_bind (wpAny_mono h₀ (fun _ s₂ h₂=>wpAny_bind (wpAny_mono h₂ (fun ok s₃ h₃=>?_) fun _ _ h'=>h')) fun _ _ h'=>h');cases ok with
  | false=>exact wpAny_pure ⟨rfl,h₃⟩
  | true=>
   exact wpAny_bind (wpAny_bind (wpAny_mono h₃ (fun x s₄ h₄=>wpAny_bind (wpAny_mono h₄ (fun _ s₅ h₅=>wpAny_pure (wpAny_pure ⟨rfl,h₅⟩)) fun _ _ h'=>h')) fun _ _ h'=>h'))
noncomputable def PTs (X:Cx) (ifs:List Expr) (t:TT):Prop:=
 ∀ (pins:List (Addr × Obj)) (s:Shared) (σ:St) (H:Hp) (Q:Bool→Hp→Prop),Inv X pins σ H s→t σ H Q →
  wpAny (model X.prog X.w) X.A (forIn ifs true fun c r=>if r=true then do let ok ← isTrue c X.env (eval c X.env);pure (ForInStep.yield ok) else pure (ForInStep.yield r)) (TP X pins σ Q) X.xe s
noncomputable def Hu:TT:=fun _ H Q=>Q true H
theorem wg {X:Cx}:PTs X [] Hu:=fun _ _ _ H _ I h=>wpAny_tests_nil ⟨H,I,h⟩
theorem Hr {X:Cx} {c:Expr} {t:TT} (h:PT X c t):PTs X [c] t:=fun pins s σ H Q I q=>wpAny_tests_one (h pins s σ H Q I q)
noncomputable def Sub (σ σ':St):Prop:=σ'.length=σ.length∧∀ (i:Nat) (v:V),σ[i]? = some (some v)→σ'[i]? = some (some v)
theorem Sub.refl (σ:St):Sub σ σ:=⟨rfl,fun _ _ h=>h⟩
theorem Sub.set {σ σ':St} {i:Nat} {x:Option V} (h:Sub σ σ') (e:σ[i]? = some none):Sub σ (σ'.set i x):=by
 refine ⟨by rw [List.length_set];exact h.1,fun j v q=>?_⟩;have hj:i ≠ j:=fun z=>by subst z;rw [e] at q;cases q
 rw [List.getElem?_set_ne hj];exact h.2 j v q
noncomputable def vy (J:It) (g:TG) (tc:TT) (te:TE) (σb:St) (Q:VK) (W:Nat→Nat→List V→Hp→Prop):Prop:=∀ i m ys H,W i m ys H →
 (J.stop i H∧∀ p,H p=none→Q (.ref p) (upd H p (.lst ys))) ∨
 (J.go i H∧ys.length < sizeLine∧∀ x H',J.yld i H x H'→g x σb H' fun σ2 H2=>Sub σb σ2∧tc σ2 H2 fun c H3=>if c=true then te σ2 H3 fun y H4=>∃ m',m' < m∧W (i + 1) m' (ys ++ [y]) H4 else ∃ m',m' < m∧W (i + 1) m' ys H3)
noncomputable def vG (wi:TI) (g:TG) (tc:TT) (te:TE) (sel:List (Option Nat)):TE:=fun σ H Q=>wi σ H fun J H1=>∃ W:Nat→Nat→List V→Hp→Prop,(∃ m,W 0 m [] H1)∧vy J g tc te (blk sel σ) Q W
section
variable {X:Cx} {elt tg iter:Expr} {ifs:List Expr} {scope:Scope} {pos:Pos} {wi:TI} {g:TG} {tc:TT} {te:TE} {N:List Str} {sel:List (Option Nat)}
structure Blk (X:Cx) (scope:Scope) (N:List Str) (tg elt:Expr) (ifs:List Expr) (g:TG) (tc:TT) (te:TE):Prop where
 tgt:∀ C s H fp,PG (X.block scope C N s H fp) tg g
 tests:∀ C s H fp,PTs (X.block scope C N s H fp) ifs tc
 elem:∀ C s H fp,PE (X.block scope C N s H fp) elt te
theorem Blk.of {X:Cx} {scope:Scope} {N:List Str} {tg elt:Expr} {ifs:List Expr} {g:TG} {tc:TT} {te:TE} (h1:∀ C s H fp,PG (X.block scope C N s H fp) tg g)
  (h2:∀ C s H fp,∃ t,PTs (X.block scope C N s H fp) ifs t∧t=tc) (h3:∀ C s H fp,∃ t,PE (X.block scope C N s H fp) elt t∧t=te):Blk X scope N tg elt ifs g tc te:=
 ⟨h1,fun C s H fp=>by obtain ⟨t,h,rfl⟩:=h2 C s H fp;exact h,fun C s H fp=>by obtain ⟨t,h,rfl⟩:=h3 C s H fp;exact h⟩
theorem cu {pins:List (Addr × Obj)} {s₂:Shared} {σ:St} {H₂:Hp} {Q:VK} {it:Addr} {fp:List Addr} {tn:Nat→Heap→Prop} {J:It} {W:Nat→Nat→List V→Hp→Prop} {E:Value→Shared→Prop} {RR:Value→Addr→Result→Shared→Prop}
  (hc:X.calm=true) (S:Gm X.env scope) (hsel:HC X.N scope N sel) (B:Blk X scope N tg elt ifs g tc te) (I2:Inv X pins σ H₂ s₂) (T:EE X.prog X.w X.K tg J fp it tn) (st2:tn 0 s₂.heap) (f2:∀ b ∈ fp,Xq X pins H₂ b)
  (w0:∃ m,W 0 m [] H₂) (hW:vy J g tc te (blk sel σ) Q W)
  (fin:∀ D C ys H' s',Inv X pins σ (upd H' D (.lst ys)) s'→(∃ m,s'.heap.Ns C m)→Xq X pins (upd H' D (.lst ys)) C→Q (.ref D) (upd H' D (.lst ys))→RR (.ref D) C (.ok .next) s') :
  wpAny (model X.prog X.w) X.A (newList []) (fun acc s₃=>wpAny (model X.prog X.w) X.A (newFunctionEnv scope X.env.globals (Ur X.env.cells scope.names []) [] X.env.qual none .none (some X.env)) (fun cenv s₄=>
   codeAny (model X.prog X.w) X.A (.compStart (.ListComp elt [⟨tg,iter,ifs,0⟩] scope pos) 0 (.ref it) acc { cenv with scope:=relabel scope X.env }) (RR acc cenv.locals) s₄) E s₃) E s₂:=by
 refine wpAny_newObj_type (wpAny_newFunctionEnv S.nocell (by intro y hy;simp at hy) (fun h₁ hns₁ hsb₁=>?_) S.kind);dsimp only at hns₁ hsb₁ ⊢;generalize hH2:s₂.heap.push { cls:=.type "list",dict:=none,data:=.seq ([]:List Value).toArray }=H2 at hns₁ hsb₁ ⊢;have hC:H2.objs.size=s₂.heap.objs.size + 1:=by rw [← hH2,Heap.size_push]
 have hDC:s₂.heap.objs.size ≠ H2.objs.size:=by rw [hC];exact Nat.ne_of_lt (Nat.lt_succ_self _)
 have hCle:s₂.heap.objs.size ≤ H2.objs.size:=by rw [hC];exact Nat.le_succ _
 have below:∀ b,b < s₂.heap.objs.size→b ≠ H2.objs.size∧b ≠ s₂.heap.objs.size:=fun b hb=>⟨by rw [hC];exact Nat.ne_of_lt (Nat.lt_succ_of_lt hb),Nat.ne_of_lt hb⟩
 have old:∀ b o,s₂.heap.get? b=some o→h₁.get? b=some o:=fun b o e=>hsb₁.extBut b o (below b (Heap.lt_size e)).1 (Heap.get?_push_of_some _ (hH2 ▸ Heap.get?_push_of_some _ e))
 have hacc:h₁.get? s₂.heap.objs.size=some { cls:=.type "list",data:=.seq ([]:List Value).toArray }:=hsb₁.extBut _ _ hDC (Heap.get?_push_of_some _ (hH2 ▸ Heap.get?_push_size _ rfl));have fps:∀ b ∈ fp,b < s₂.heap.objs.size:=fun b hb=>by
  obtain ⟨o,e,_⟩:=T.obj _ _ st2 b hb;exact Heap.lt_size e
 generalize hCe:H2.objs.size=C at *;generalize hDe:s₂.heap.objs.size=D at *;have st1:tn 0 h₁:=T.keep _ _ _ st2 fun b _ o e=>old b o e
 have IB0:Inv (X.block scope C N s₂ H₂ fp) [] (blk sel σ) H₂ { s₂ with heap:=h₁,toks:=s₂.toks + ([]:List (Str × Value)).length }:=
  Qz I2 S f2 (fun b hb=>by rw [hDe];exact fps b hb) (by rw [hDe];exact hCle) old hns₁ hsel
 have hDfs:D ∉ (X.block scope C N s₂ H₂ fp).fs:=fun z=>by
  have z':=I2.stkSub D z;rcases List.mem_cons.mp z' with e | e
  ·exact absurd I2.lt (by rw [← e,hDe];exact Nat.lt_irrefl _)
  ·exact I2.nofs (by rw [hDe];exact Nat.le_refl _) e
 have loop:∀ s₃:Shared,s₃ = { s₂ with heap:=h₁,toks:=s₂.toks + ([]:List (Str × Value)).length } →
   codeAny (model X.prog X.w) X.A (.compLoop (.ListComp elt [⟨tg,iter,ifs,0⟩] scope pos) 0 (.ref it) (.ref D) (compEnvC scope (Ur X.env.cells scope.names []) C X.env)) (RR (.ref D) C) s₃:=by
  rintro s₃ rfl;obtain ⟨m0,w0⟩:=w0;refine Kj (fun k s'=>∃ i ys us n H',Inv (X.block scope C N s₂ H₂ fp) [(D,{ cls:=.type "list",data:=.seq us n })] (blk sel σ) H' s'∧(∃ vs:List Value,us=vs.toArray∧Zc ys vs)∧ys.length ≤ sizeLine∧tn i s'.heap∧(∀ b ∈ fp,H' b=none)∧W i k ys H') ?_ m0
   ⟨0,[],_,0,H₂,IB0.pins_of fun p hp=>?_,⟨[],rfl,.nil⟩,Nat.zero_le _,st1,fun b hb=>(f2 b hb).1,w0⟩
  ·rintro k s' ⟨i,ys,us,n,H',IB,⟨vs,rfl,rv⟩,hyz,st,fr,w⟩;have fpB:∀ {pl:List (Addr × Obj)} {H'':Hp},(∀ p ∈ pl,p.1=D)→(∀ b ∈ fp,H'' b=none)→∀ b ∈ fp,Xq (X.block scope C N s₂ H₂ fp) pl H'' b:=fun {pl H''} hp hn b hb=>
    ⟨hn b hb,(below b (fps b hb)).1,(Uv (N:=N) (C:=C) I2 S f2 (fun b hb=>by rw [hDe];exact fps b hb) (by rw [hDe];exact hCle)).exfs b hb,.inl hb,fun x c e=>(f2 b hb).2.2.2.2.1 x c (Hq e),fun p hpp z=>by
     have hpp':p ∈ pl:=by simpa using hpp
     exact (below b (fps b hb)).2 (by rw [← z];exact hp p hpp')⟩
   have hD1:∀ p ∈ [((D,{ cls:=.type "list",data:=.seq vs.toArray n }):Addr × Obj)],p.1=D:=fun p hp=>by
    have e:p=(D,{ cls:=.type "list",data:=.seq vs.toArray n }):=by simpa using hp
    rw [e]
   rcases hW i k ys H' w with ⟨stop,qn⟩ | ⟨go,hlen,step⟩
   ·refine thn (T.done (X.block scope C N s₂ H₂ fp) rfl rfl rfl hc i _ s' _ H' _ IB (fpB hD1 fr) st stop) fun r s4 hZ1=>?_
    obtain ⟨hr,I4⟩:=hZ1;subst hr;have pD:=I4.pin (D,{ cls:=.type "list",data:=.seq vs.toArray n }) (by simp);have hDn:H' D=none:=pD.2.1;have IX:Inv X pins σ H' s4:=I2.call' (ch:=fp) I4.os I4.base I4.hok I4.bare fun b hb=>⟨(f2 b hb).2.2.2.1,(f2 b hb).2.1,(f2 b hb).2.2.2.2.1,(f2 b hb).2.2.2.2.2⟩
    have foD:Xq X pins H' D:=I2.fpOk (by rw [hDe];exact Nat.le_refl _) hDn;have IA:Inv X pins σ (upd H' D (.lst ys)) s4:=IX.adopt foD ⟨hyz,vs,n,rv,pD.1⟩;obtain ⟨mC,hnC,_⟩:=I4.loc;refine fin D C ys H' s4 IA ⟨mC,hnC⟩ (I2.fpOk (by rw [hDe];exact hCle) ?_) (qn D hDn);rw [ub (Ne.symm hDC)];exact I4.free
   ·refine thn (T.item (X.block scope C N s₂ H₂ fp) rfl rfl rfl hc i _ s' _ H' _ IB (fpB hD1 fr) st go) fun r s4 hZ1=>?_
    obtain ⟨u,hr,h4⟩:=hZ1;subst hr;refine thn h4 fun _ s5 hZ1=>?_
    obtain ⟨x,H5,I5,r5,y5,st5,fr5⟩:=hZ1;have I5':=I5.pinned (fpB hD1 fr5) (T.obj _ _ st5);refine thn (B.tgt C s₂ H₂ fp _ s5 _ H5 x u _ I5' r5 (step x H5 y5)) fun _ s6 hZ1=>?_
    obtain ⟨σ6,H6,I6,sb,q6⟩:=hZ1;refine thn (B.tests C s₂ H₂ fp _ s6 σ6 H6 _ I6 q6) fun c s7 hZ1=>?_
    obtain ⟨H7,I7,q7⟩:=hZ1;have again:∀ {σ8:St} {H8:Hp} {s8:Shared},Inv (X.block scope C N s₂ H₂ fp) ([(D,{ cls:=.type "list",data:=.seq vs.toArray n })] ++ Yt fp s5.heap) σ8 H8 s8→tn (i + 1) s8.heap∧(∀ b ∈ fp,H8 b=none):=fun {σ8 H8 s8} I8=>by
     refine ⟨T.keep _ _ _ st5 fun b hb o e=>(I8.pin (b,o) (List.mem_append_right _ (List.mem_append_right _ (nj hb e)))).1,fun b hb=>?_⟩;obtain ⟨o,e,d⟩:=T.obj _ _ st5 b hb;exact (I8.pin (b,o) (List.mem_append_right _ (List.mem_append_right _ (nj hb e)))).2.1
    have back:∀ {H8:Hp} {s8:Shared} {pl:List (Addr × Obj)},Inv (X.block scope C N s₂ H₂ fp) pl σ6 H8 s8→Inv (X.block scope C N s₂ H₂ fp) pl (blk sel σ) H8 s8:=fun {H8 s8 pl} I8=>I8.weak sb.1.symm sb.2
    cases c with
    | false=>
     obtain ⟨m',hm,w'⟩:=q7;obtain ⟨t1,t2⟩:=again I7;exact ⟨m',hm,i + 1,ys,_,n,H7,back I7.unpinned,⟨vs,rfl,rv⟩,hyz,t1,t2,w'⟩
    | true=>
     refine thn (B.elem C s₂ H₂ fp _ s7 σ6 H7 _ I7 q7) fun v s8 hZ1=>?_
     obtain ⟨y,H8,I8,r8,m',hm,w'⟩:=hZ1;obtain ⟨t1,t2⟩:=again I8;have pD:=I8.pin (D,{ cls:=.type "list",data:=.seq vs.toArray n }) (by simp);refine append_at (hsz:=by have:=rv.length;rw [List.size_toArray];omega) pD.1 fun h9 hs9 hD9=>?_
     have IB':Inv (X.block scope C N s₂ H₂ fp) [] (blk sel σ) H8 s8:=(back I8).pins_of fun p hp=>nomatch hp
     have foD:Xq (X.block scope C N s₂ H₂ fp) [] H8 D:=⟨pD.2.1,hDC,hDfs,.inr (by show s₂.heap.objs.size ≤ D;rw [hDe];exact Nat.le_refl _),(fun x c e z=>by
      obtain ⟨cv,o,ho,hd⟩:=I8.cell x c e;rw [z,pD.1] at ho;cases ho;cases hd),(fun p hp=>nomatch hp)⟩
     have I9:Inv (X.block scope C N s₂ H₂ fp) [] (blk sel σ) H8 { s8 with heap:=h9 }:=IB'.turned (t':=s8.toks) (it:=D) (fun b o hb e=>(hs9.2 b hb).trans e) foD.1 foD.2.1 foD.2.2.2.1 foD.2.2.2.2.1 foD.2.2.2.2.2;refine ⟨m',hm,i + 1,ys ++ [y],vs.toArray.push v,n + 1,H8,I9.pins_of fun p hp=>?_,⟨vs ++ [v],by simp,Paired.snoc rv r8⟩,by rw [List.length_append,List.length_singleton];omega,T.keep _ _ _ t1 fun b hb o e=>(hs9.2 b (below b (fps b hb)).2).trans e,t2,w'⟩;have e:p=(D,{ cls:=.type "list",data:=.seq (vs.toArray.push v) (n + 1) }):=by simpa using hp
     subst e;exact ⟨hD9,pD.2.1,hDC,hDfs,fun v z=>by cases z⟩
  ·have e:p=(D,{ cls:=.type "list",data:=.seq ([]:List Value).toArray }):=by simpa using hp
   subst e;exact ⟨hacc,I2.hok.fresh (by rw [hDe];exact Nat.le_refl _),hDC,hDfs,fun v z=>by cases z⟩
 exact codeAny_compStart_list (loop _ rfl) (T.self _ 0 _ _ _ st1 (loop _ rfl))
theorem eh (hc:X.calm=true) (hi:PI X tg iter wi) (S:Gm X.env scope) (hsel:HC X.N scope N sel) (B:Blk X scope N tg elt ifs g tc te)
  (hs:∀ x,foldedSetIterable iter X.env x=pure x:=by intro _;rfl):PE X (.ListComp elt [⟨tg,iter,ifs,0⟩] scope pos) (vG wi g tc te sel):=by
 intro pins s σ H Q I h;rw [eval_ListComp];refine wpAny_comprehension_free (use:=none) rfl hs (FA (S.cells I.ok)) S.kind S.loc ?_;refine thn (hi pins s σ H _ I h) fun v s1 h1=>thn h1 fun itv s2 h2=>?_
 obtain ⟨it,fp,tn,J,H2,e,I2,T,st2,f2,W,w0,hW⟩:=h2;subst e;refine cu (RR:=fun acc C=>compPost (model X.prog X.w) X.A X.xe none (EP X pins σ Q) acc C) hc S hsel B I2 T st2 f2 w0 hW fun D C ys H' s' I' ⟨m,hm⟩ fo q=>?_
 exact ⟨m,hm,fun h' hsb=>⟨.ref D,_,I'.turned (t':=s'.toks) (it:=C) (fun b o hb e=>(hsb.2 b hb).trans e) fo.1 fo.2.1 fo.2.2.2.1 fo.2.2.2.2.1 fo.2.2.2.2.2,rfl,q⟩⟩
theorem sh {i:Nat} {y:Str} {py spos:Pos} (hN:X.N.Nodup) (hi:X.N[i]? = some y) (hx:Loc X.env.scope y) (hc:X.calm=true) (hit:PI X tg iter wi) (S:Gm X.env scope) (hsel:HC X.N scope N sel) (B:Blk X scope N tg elt ifs g tc te)
  (hsw:swapsWith (.ListComp elt [⟨tg,iter,ifs,0⟩] scope pos) (some (.Name y py)) spos.line X.env=pure true) (hf:X.fn y=true∨X.env.scope.names.lookup y=some .local:=by first | exact .inl rfl | exact .inr rfl | assumption)
  (hs:∀ x,foldedSetIterable iter X.env x=pure x:=by intro _;rfl):PS X (.Assign [.Name y py] (.ListComp elt [⟨tg,iter,ifs,0⟩] scope pos) spos) (MH (vG wi g tc te sel) (Xo i)):=by
 intro pins s σ H D I h;rw [exec_Assign_Name_used _ _ _ _ hsw];refine wpAny_bind (wpAny_standAt (wpAny_bind ?_));show wpAny _ X.A (do let _ ← comprehension (.ListComp elt [⟨tg,iter,ifs,0⟩] scope pos) scope X.env _ (newList []) false (eval iter X.env) (some (assign (.Name y py) X.env))) _ _ s;refine wpAny_bind (wpAny_mono (wpAny_comprehension_free (use:=some (assign (.Name y py) X.env)) (Q:=fun _ s'=>SP X pins D .next s') rfl hs (FA (S.cells I.ok)) S.kind S.loc ?_) (fun _ s' hq=>wpAny_pure (wpAny_pure hq)) fun _ _ e=>e);refine thn (hit pins s σ H _ I h) fun v s1 h1=>thn h1 fun itv s2 h2=>?_
 obtain ⟨it,fp,tn,J,H2,e,I2,T,st2,f2,W,w0,hW⟩:=h2;subst e;refine cu (RR:=fun acc C=>compPost (model X.prog X.w) X.A X.xe (some (assign (.Name y py) X.env)) (fun _ s'=>SP X pins D .next s') acc C) hc S hsel B I2 T st2 f2 w0 hW fun Da C ys H' s' I' ⟨m,hm⟩ fo q=>?_
 show wpAny _ X.A (assign (.Name y py) X.env (.ref Da)) _ _ _;refine wpAny_assign_Name (Dt I' hN hi hx (show ad (.ref Da) (.ref Da) from rfl) (fun s3 I3 hZ1=>?_) hf);obtain ⟨a,hsb,ha⟩:=hZ1;have hCa:C ≠ a:=by
  rcases ha with z | z
  ·rw [z];exact fo.2.1
  ·exact fun w=>fo.2.2.2.2.1 y a z w.symm
 refine ⟨m,hm.sameBut hsb hCa,fun h' hsb'=>⟨_,_,I3.turned (t':=s3.toks) (it:=C) (fun b o hb e=>(hsb'.2 b hb).trans e) fo.1 fo.2.1 fo.2.2.2.1 fo.2.2.2.2.1 fo.2.2.2.2.2,q⟩⟩
end
noncomputable def Vf (Pv:Nat→List V→Hp→Prop) (g:TG) (tc:TT) (te:TE) (σb:St) (i:Nat) (x:V) (ys:List V) (H:Hp):Prop:=
 ∀ N:List V→Hp→Prop,(∀ ys' H',Pv (i + 1) ys' H'→N ys' H')→g x σb H fun σ2 H2=>Sub σb σ2∧tc σ2 H2 fun c H3=>if c=true then te σ2 H3 fun y H4=>N (ys ++ [y]) H4 else N ys H3
theorem Cz {K:PySem.W.Frag} {a:Addr} {xs:List V} {g:TG} {tc:TT} {te:TE} {σb:St} {Q:VK} {H:Hp} (Pv:Nat→List V→Hp→Prop) (hz:xs.length ≤ sizeLine) (h0:Pv 0 [] H) (hl:∀ i ys H,i ≤ xs.length→Pv i ys H→SqL K H a xs∧ys.length ≤ i)
  (hs:∀ i x ys H,xs[i]? = some x→Pv i ys H→Vf Pv g tc te σb i x ys H) (hd:∀ ys H,Pv xs.length ys H→∀ p,H p=none→Q (.ref p) (upd H p (.lst ys))) :
  ∃ W:Nat→Nat→List V→Hp→Prop,(∃ m,W 0 m [] H)∧vy (Itl K a) g tc te σb Q W:=by
 refine ⟨fun i m ys H=>m=xs.length - i∧i ≤ xs.length∧Pv i ys H,⟨xs.length,by simp,Nat.zero_le _,h0⟩,?_⟩;rintro i m ys H ⟨rfl,hi,p⟩;have q:=(hl i ys H hi p).1;have hyl:=(hl i ys H hi p).2;by_cases hlt:i < xs.length
 ·refine .inr ⟨⟨xs,xs[i],q,by simp [hlt]⟩,by omega,fun x H' y=>?_⟩;obtain ⟨e,y⟩:=y;subst e;exact hs i x ys _ (y xs q) p (fun ys' H'=>∃ m',m' < xs.length - i∧m'=xs.length - (i + 1)∧i + 1 ≤ xs.length∧Pv (i + 1) ys' H') fun ys' H' r=>⟨xs.length - (i + 1),by omega,rfl,hlt,r⟩
 ·have e:i=xs.length:=by omega
  subst e;exact .inl ⟨⟨xs,q,Nat.le_refl _⟩,hd ys H p⟩
theorem Kx {lo:Int} {n:Nat} {g:TG} {tc:TT} {te:TE} {σb:St} {Q:VK} {H:Hp} (Pv:Nat→List V→Hp→Prop) (hz:n ≤ sizeLine) (h0:Pv 0 [] H) (hl:∀ i ys H,i ≤ n→Pv i ys H→ys.length ≤ i)
  (hs:∀ i ys H,i < n→Pv i ys H→Vf Pv g tc te σb i (.int (lo + i)) ys H) (hd:∀ ys H,Pv n ys H→∀ p,H p=none→Q (.ref p) (upd H p (.lst ys))) :
  ∃ W:Nat→Nat→List V→Hp→Prop,(∃ m,W 0 m [] H)∧vy (Itr lo n) g tc te σb Q W:=by
 refine ⟨fun i m ys H=>m=n - i∧i ≤ n∧Pv i ys H,⟨n,by simp,Nat.zero_le _,h0⟩,?_⟩;rintro i m ys H ⟨rfl,hi,p⟩;have hyl:=hl i ys H hi p;by_cases hlt:i < n
 ·refine .inr ⟨hlt,by omega,fun x H' y=>?_⟩;obtain ⟨e,y⟩:=y;subst e y;exact hs i ys _ hlt p (fun ys' H'=>∃ m',m' < n - i∧m'=n - (i + 1)∧i + 1 ≤ n∧Pv (i + 1) ys' H') fun ys' H' r=>⟨n - (i + 1),by omega,rfl,hlt,r⟩
 ·have e:i=n:=by omega
  subst e;exact .inl ⟨Nat.le_refl _,hd ys H p⟩
end L2
namespace L2
open PySem PySem.Spec PyProof.Rows
noncomputable def Its (xs:List V):It:=⟨fun i _=>i < xs.length,fun i H x H'=>H'=H∧xs[i]? = some x,fun i _=>xs.length ≤ i⟩
theorem Xp {P:Program} {w:World} {K:PySem.W.Frag} {tg:Expr} {it:Addr} {xs:List V} {PV:Nat→Value→Prop} {St:Nat→Heap→Prop} (hW:∀ A:Around,A.handled=none→Walks P w A it [it] [it] xs.length PV St)
  (hP:∀ i v,PV i v→∃ x,xs[i]? = some x∧ad x v)
  (hgo:∀ i h,St i h→∃ o n vs,h.get? it=some o∧o.cls=.type n∧o.data=.fields vs∧["enumerate","zip","dict_itemiterator","dict_reverseitemiterator","odict_iterator","itertools.zip_longest","itertools.pairwise"].contains n=false)
  (hfr:∀ i h h',St i h→(∀ o,h.get? it=some o→h'.get? it=some o)→St i h')
  (hself:∀ (A:Around) (i:Nat) (s:Shared) (Q:Value→Shared→Prop) (E:Value→Shared→Prop),St i s.heap→Q (.ref it) s→wpAny (model P w) A (pyIter (.ref it)) Q E s) :
  EE P w K tg (Its xs) [it] it (fun i h=>i ≤ xs.length∧St i h) where
 mem:=by simp
 obj:=fun i h st b hb=>by
  have e:b=it:=by simpa using hb
  subst e;obtain ⟨o,n,vs,e,_,d,_⟩:=hgo i h st.2;exact ⟨o,e,fun v z=>by rw [d] at z;cases z⟩
 keep:=fun i h h' st k=>⟨st.1,hfr i h h' st.2 fun o e=>k it (by simp) o e⟩
 item:=by
  intro X hP' hw hK hc i pins s σ H E I hf st hg;subst hP' hw hK;obtain ⟨f0,f1,f2,f3,f4,f5⟩:=hf it (by simp);refine (hW X.A (I.ok.hd hc)).item i s _ _ hg st.2 fun v h' tk hv st' kk=>?_
  obtain ⟨x,hx,rx⟩:=hP i v hv;have I1:Inv X pins σ H { s with heap:=h',toks:=tk }:=I.turned (fun b o hb e=>kk b o (by simpa using hb) e) f0 f1 f3 f4 f5;obtain ⟨o,n,vs,e,c,d,nm⟩:=hgo _ _ st';exact ⟨v,rfl,xD (s:={ s with heap:=h',toks:=tk }) e c d nm ⟨x,H,I1,rx,⟨rfl,hx⟩,⟨hg,st'⟩,fun b hb=>(hf b hb).1⟩⟩
 done:=by
  intro X hP' hw hK hc i pins s σ H E I hf st hg;subst hP' hw hK;obtain ⟨f0,f1,f2,f3,f4,f5⟩:=hf it (by simp);have e:i=xs.length:=Nat.le_antisymm st.1 hg;subst e;exact (hW X.A (I.ok.hd hc)).done s _ _ st.2 fun h' tk kk=>⟨rfl,I.turned (fun b o hb e=>kk b o (by simpa using hb) e) f0 f1 f3 f4 f5⟩
 self:=fun A i s Q E st h=>hself A i s Q E st.2 h
noncomputable def Xr (c:Nat):Str:=⟨#[c]⟩
noncomputable def si (x:Str):List V:=x.cps.toList.map fun c=>V.str (Xr c)
theorem Lk (x:Str):(si x).length=x.cps.size:=by unfold si;simp
theorem DC {x:Str} {i c:Nat} (h:x.cps[i]? = some c):(si x)[i]? = some (.str (Xr c)):=by
 unfold si;rw [List.getElem?_map,Array.getElem?_toList,h];rfl
theorem Tp {x:Str} {i:Nat} {v:Value} (h:SignAt x i v):∃ y,(si x)[i]? = some y∧ad y v:=by
 obtain ⟨c,u,hc,rfl⟩:=h;exact ⟨.str (Xr c),DC hc,u,rfl⟩
section
variable {X:Cx} {tg:Expr}
noncomputable def WK (tl:TE):TI:=fun σ H R=>tl σ H fun x H1=>∃ z,x=.str z∧R (Its (si z)) H1
theorem xI {l:Expr} {tl:TE} (hl:PE X l tl):PI X tg l (WK tl):=by
 intro pins s σ H R I h;refine thn (hl pins s σ H _ I h) fun v s1 hZ1=>?_
 obtain ⟨x,H1,I1,r1,q1⟩:=hZ1;obtain ⟨z,e,q⟩:=q1;subst e;obtain ⟨t,rfl⟩:=r1;have fo:∀ b ∈ [s1.heap.objs.size],Xq X pins H1 b:=fun b hb=>by
  have e:b=s1.heap.objs.size:=by simpa using hb
  subst e;exact I1.fpOk (Nat.le_refl _) (I1.hok.fresh (Nat.le_refl _))
 have hz:=Lk z;cases ha:z.cps.all (· < 128) with
 | false=>
  refine wpAny_pyIter_wide ha ⟨s1.heap.objs.size,[s1.heap.objs.size],fun i h=>i ≤ (si z).length∧h.IsStrIter s1.heap.objs.size "str_iterator" z t i,_,H1,rfl,I1.kept (t':=s1.toks) fun b o e=>Heap.get?_push_of_some _ e,
   Xp (fun A hA=>by rw [hz];exact Walks.strWide hA _ z t) (fun i v=>Tp) (fun i h ⟨o,e,c,d⟩=>⟨o,_,_,e,c,d,by decide⟩) (fun i h h' ⟨o,e,r⟩ k=>⟨o,k o e,r⟩) (fun A i s Q E st q=>wpAny_pyIter_striter_wide st q),
   ⟨Nat.zero_le _,_,Heap.get?_push_size _ rfl,rfl,rfl⟩,fo,q⟩
 | true=>
  refine wpAny_pyIter_ascii ha ⟨s1.heap.objs.size,[s1.heap.objs.size],fun i h=>i ≤ (si z).length∧h.IsStrIter s1.heap.objs.size "str_ascii_iterator" z t i,_,H1,rfl,I1.kept (t':=s1.toks) fun b o e=>Heap.get?_push_of_some _ e,
   Xp (fun A hA=>by rw [hz];exact Walks.strAscii hA _ z t) (fun i v=>Tp) (fun i h ⟨o,e,c,d⟩=>⟨o,_,_,e,c,d,by decide⟩) (fun i h h' ⟨o,e,r⟩ k=>⟨o,k o e,r⟩) (fun A i s Q E st q=>wpAny_pyIter_striter_ascii st q),
   ⟨Nat.zero_le _,_,Heap.get?_push_size _ rfl,rfl,rfl⟩,fo,q⟩
end
theorem mG {xs:List V} {g:TG} {tb:TS} {D:yi} {σ:St} {H:Hp} (Pv:Nat→St→Hp→Prop) (h0:Pv 0 σ H)
  (hs:∀ i x σ H,xs[i]? = some x→Pv i σ H→g x σ H fun σ2 H2=>tb { D with nx:=Pv (i + 1),ct:=Pv (i + 1),bk:=D.nx } σ2 H2) (hd:∀ σ H,Pv xs.length σ H→D.nx σ H) :
  ∃ W:Nat→Nat→St→Hp→Prop,(∃ m,W 0 m σ H)∧∀ i m σ H,W i m σ H →
   ((Its xs).stop i H∧D.nx σ H)∨((Its xs).go i H∧∃ N:St→Hp→Prop,(∀ σ' H',N σ' H'→∃ m',m' < m∧W (i + 1) m' σ' H')∧∀ x H',(Its xs).yld i H x H'→g x σ H' fun σ2 H2=>tb { D with nx:=N,ct:=N,bk:=D.nx } σ2 H2):=by
 refine ⟨fun i m σ H=>m=xs.length - i∧i ≤ xs.length∧Pv i σ H,⟨xs.length,by simp,Nat.zero_le _,h0⟩,?_⟩;rintro i m σ H ⟨rfl,hi,p⟩;by_cases hlt:i < xs.length
 ·refine .inr ⟨hlt,Pv (i + 1),fun σ' H' p'=>⟨xs.length - (i + 1),by omega,rfl,hlt,p'⟩,fun x H' y=>?_⟩;obtain ⟨e,y⟩:=y;subst e;exact hs i x σ _ y p
 ·have e:i=xs.length:=by omega
  subst e;exact .inl ⟨Nat.le_refl _,hd σ H p⟩
theorem wD {xs:List V} {g:TG} {tc:TT} {te:TE} {σb:St} {Q:VK} {H:Hp} (Pv:Nat→List V→Hp→Prop) (hz:xs.length ≤ sizeLine) (h0:Pv 0 [] H) (hl:∀ i ys H,i ≤ xs.length→Pv i ys H→ys.length ≤ i)
  (hs:∀ i x ys H,xs[i]? = some x→Pv i ys H→Vf Pv g tc te σb i x ys H) (hd:∀ ys H,Pv xs.length ys H→∀ p,H p=none→Q (.ref p) (upd H p (.lst ys))) :
  ∃ W:Nat→Nat→List V→Hp→Prop,(∃ m,W 0 m [] H)∧vy (Its xs) g tc te σb Q W:=by
 refine ⟨fun i m ys H=>m=xs.length - i∧i ≤ xs.length∧Pv i ys H,⟨xs.length,by simp,Nat.zero_le _,h0⟩,?_⟩;rintro i m ys H ⟨rfl,hi,p⟩;have hyl:=hl i ys H hi p;by_cases hlt:i < xs.length
 ·refine .inr ⟨hlt,by omega,fun x H' y=>?_⟩;obtain ⟨e,y⟩:=y;subst e;exact hs i x ys _ y p (fun ys' H'=>∃ m',m' < xs.length - i∧m'=xs.length - (i + 1)∧i + 1 ≤ xs.length∧Pv (i + 1) ys' H') fun ys' H' r=>⟨xs.length - (i + 1),by omega,rfl,hlt,r⟩
 ·have e:i=xs.length:=by omega
  subst e;exact .inl ⟨Nat.le_refl _,hd ys H p⟩
section
variable {X:Cx}
noncomputable def iL:V→Option Int→Option Int→Hp→VK→Prop:=fun x lo hi H Q=>∃ z,x=.str z∧z.length ≤ sizeLine∧Q (.str (Txt.slice z lo hi)) H
theorem oz:SlR X iL:=by
 intro pins s σ H x v vl vu lo hi sl Q I rx hs pl pu h;obtain ⟨z,rfl,hz,q⟩:=h;obtain ⟨t,rfl⟩:=rx;refine ⟨"str",_,F.slot_str_getitem.lookup,typeIs_str s z t,?_⟩;have fin:∀ t' k,EP X pins σ Q (.str (Txt.slice z lo hi) t') { s with toks:=k }:=fun t' k=>⟨.str _,H,I.tok _,⟨_,rfl⟩,q⟩
 cases pl with
 | none=>
  cases pu with
  | none=>exact wpAny_getItem_str_slice (l:=none) (u:=none) (st:=none) hs rfl (post_val_or_str ⟨Nat.le_trans (Txt.slice_le z _ _) hz,fin⟩)
  | int j uj=>exact wpAny_getItem_str_slice (l:=none) (u:=some (j,uj)) (st:=none) hs rfl (post_val_or_str ⟨Nat.le_trans (Txt.slice_le z _ _) hz,fin⟩)
 | int i ui=>
  cases pu with
  | none=>exact wpAny_getItem_str_slice (l:=some (i,ui)) (u:=none) (st:=none) hs rfl (post_val_or_str ⟨Nat.le_trans (Txt.slice_le z _ _) hz,fin⟩)
  | int j uj=>exact wpAny_getItem_str_slice (l:=some (i,ui)) (u:=some (j,uj)) (st:=none) hs rfl (post_val_or_str ⟨Nat.le_trans (Txt.slice_le z _ _) hz,fin⟩)
noncomputable def Bc (ys:List Str):List V:=ys.map V.str
theorem qx:∀ {ys:List Str} {us:List Value},Zc (Bc ys) us→StrsAre us ys:=by
 intro ys
 induction ys with
 | nil=>intro us r;cases r;exact .nil
 | cons y ys ih=>
  intro us r;cases r with
  | cons r1 r2=>
   obtain ⟨t,rfl⟩:=r1;exact .cons y t (ih r2)
theorem ss:∀ (l:List (Str × Tok)),Zc (Bc (l.map (·.1))) (strValues l)
 | []=>.nil
 | (x,t) :: r=>.cons ⟨t,rfl⟩ (ss r)
noncomputable def bI (K:PySem.W.Frag):V→List V→Hp→VK→Prop:=fun x vs H Q=>∃ sep p ys,x=.str sep∧vs=[.ref p]∧SqL K H p (Bc ys)∧(ys.map (·.length)).sum + ys.length * sep.length ≤ 16777216∧Q (.str (Txt.join sep ys)) H
theorem KB:MtR X "str.join" (bI X.K):=by
 intro pins s σ H x xs v us Q I rx rv h;obtain ⟨sep,p,ys,rfl,rfl,hq,hz,q⟩:=h;obtain ⟨t,rfl⟩:=rx;obtain ⟨u,rfl,ru⟩:=Rm rv;cases ru;obtain ⟨its,r,pl,_⟩:=I.list hq;exact join_list pl.isList (by simpa using qx r) hz fun t' k=>⟨.str _,H,I.tok _,⟨_,rfl⟩,q⟩
end
theorem Yx {prog:Program} {w:World} {A:Around} {E:Value→Shared→Prop} {s:Shared} {x y:Str} {t u:Tok} {Q:Value→Shared→Prop} (hy:(y.length == 0)=false)
  (h:∀ l k,l.map (·.1)=Txt.split x y→Q (.ref s.heap.objs.size) { s with heap:=s.heap.push { cls:=.type "list",data:=.seq (strValues l).toArray },toks:=k }) (hsz:x.length + 2 ≤ sizeLine) :
  wpAny (model prog w) A (call (.builtin "str.split") [.str x t,.str y u]) Q E s:=by
 have hn:(Builtin.Str.partsBetween x (Builtin.Str.occurrences x y 0 x.length (x.length + 1)) y.length).length ≤ sizeLine:=by
  have e1:=StrLaws.occ_length_le x y 0 x.length (x.length + 1);rw [length_partsBetween];omega
 cases h1:(decide (x.length < y.length) || decide (Builtin.Str.strKind x < Builtin.Str.strKind y))
 ·cases hf:(Builtin.Str.occurrences x y 0 x.length (x.length + 1)).isEmpty
  ·refine call_meets F.slot_str_split (typeIs_str _ _ _) F.entry_str_split (F.args_str_split_2 _ _) (meets_str_split_sep x y t u h1 hy hf (by omega) hn) ?_;show wants Q E _ { s with toks:=_,heap:=s.heap.push { cls:=.type "list",data:=.seq (strsFrom s.toks (Builtin.Str.partsBetween x (Builtin.Str.occurrences x y 0 x.length (x.length + 1)) y.length)).toArray } };rw [strsFrom_eq];exact h (numbered s.toks _) _ ((numbered_texts _ _).trans ((if_neg (ne_true_of_eq_false h1)).trans (if_neg (ne_true_of_eq_false hf))).symm)
  ·exact call_meets F.slot_str_split (typeIs_str _ _ _) F.entry_str_split (F.args_str_split_2 _ _) (meets_str_split_not_found x y t u h1 hy hf)
    (h [(x,t)] s.toks ((if_neg (ne_true_of_eq_false h1)).trans (if_pos hf)).symm)
 ·exact call_meets F.slot_str_split (typeIs_str _ _ _) F.entry_str_split (F.args_str_split_2 _ _) (meets_str_split_cannot_occur x y t u h1)
   (h [(x,t)] s.toks (if_pos h1).symm)
section
variable {X:Cx}
noncomputable def OE:V→List V→Hp→VK→Prop:=fun x vs H Q=>∃ z y,x=.str z∧vs=[.str y]∧y.length ≠ 0∧z.length + 2 ≤ sizeLine∧(Txt.split z y).length ≤ sizeLine∧∀ p,H p=none→Q (.ref p) (upd H p (.lst (Bc (Txt.split z y))))
theorem Bv:MtR X "str.split" OE:=by
 intro pins s σ H x xs v us Q I rx rv h;obtain ⟨z,y,rfl,rfl,hy,hz,hn,q⟩:=h;obtain ⟨t,rfl⟩:=rx;obtain ⟨u,rfl,ru⟩:=Rm rv;obtain ⟨tu,rfl⟩:=ru;refine Yx (by simpa using hy) (fun l k hl=>?_) hz;refine ⟨.ref s.heap.objs.size,_,I.laid (t':=k) (o:=.lst (Bc (Txt.split z y))) (fun b o e=>Heap.get?_push_of_some _ e) (Nat.le_refl _) ⟨by unfold Bc;rw [List.length_map];exact hn,strValues l,0,by rw [← hl];exact ss l,Heap.get?_push_size _ rfl⟩,rfl,q _ (I.hok.fresh (Nat.le_refl _))⟩
theorem NB:lj X (.type "int") (fun xs H Q=>∃ z n,xs=[.str z]∧intText? z=some n∧z.length ≤ 640∧Q (.int n) H):=by
 intro pins s σ H xs us Q I r h;obtain ⟨z,n,rfl,hn,hz,q⟩:=h;obtain ⟨u,rfl,t,rfl⟩:=Rm r;exact PySem.W.KIN.call_text hn hz ⟨.int n,H,I.tok _,⟨_,rfl⟩,q⟩
theorem Ot:∀ {bs:List Bool} {us:List Value},Zc (bs.map V.bl) us→us=bs.map Value.bool
 | [],_,.nil=>rfl
 | b :: bs,_,.cons r t=>by
  have e:_=Value.bool b:=r;rw [e,Ot t];rfl
theorem Qu {A:Around} (bs:List Bool):TruthOf X.prog X.w A (fun i v=>(bs.map Value.bool).toArray[i]? = some v) (fun i=>bs.getD i true):=by
 intro i v s Q E hP hQ;have e:(bs.map Value.bool)[i]? = some v:=by simpa using hP
 rw [List.getElem?_map] at e;cases q:bs[i]? with
 | none=>rw [q] at e;cases e
 | some b=>
  rw [q] at e;have e':Value.bool b=v:=Option.some.inj e;subst e';refine wpAny_truthy_bool ?_;have:bs.getD i true=b:=by simp [List.getD,q]
  have hQ':Q (bs.getD i true) s:=hQ;rw [this] at hQ';exact hQ'
theorem UA (bs:List Bool):(List.range bs.length).all (fun i=>bs.getD i true)=bs.all id:=by
 rw [Bool.eq_iff_iff];simp only [List.all_eq_true,List.mem_range,id];constructor
 ·intro h b hb;obtain ⟨i,hi,e⟩:=List.mem_iff_getElem.mp hb;have:=h i hi;simp [List.getD,hi,e] at this;exact this
 ·intro h i hi;simp [List.getD,hi];exact h _ (List.getElem_mem hi)
theorem aE (hc:X.calm=true):lj X (.builtin "all") (fun xs H Q=>∃ (p:Addr) (bs:List Bool),xs=[.ref p]∧SqL X.K H p (bs.map V.bl)∧Q (.bl (bs.all id)) H):=by
 intro pins s σ H xs us Q I r h;obtain ⟨p,bs,rfl,hq,q⟩:=h;obtain ⟨u,rfl,ru⟩:=Rm r;cases ru;obtain ⟨its,rv,pl,_⟩:=I.list hq;have e:=Ot rv;subst e;refine call_all_walk (wpAny_pyIter_list pl.isList ?_);have hne:p ≠ s.heap.objs.size:=Nat.ne_of_lt (by obtain ⟨o,_,ho,_⟩:=pl;exact Heap.lt_size ho);refine ⟨s.heap.objs.size,_,_,_,_,_,fun i=>bs.getD i true,rfl,Walks.list (show X.A.in1.handled=none from I.ok.hd hc) _ p hne (bs.map Value.bool).toArray,⟨⟨_,Heap.get?_push_size _ rfl,rfl,rfl⟩,pl.isList.at fun o e=>Heap.get?_push_of_some _ e⟩,Qu bs,fun h' tk kk=>?_⟩;refine ⟨.bl (bs.all id),H,I.kept fun b o e=>kk b o (by simpa using Nat.ne_of_lt (Heap.lt_size e)) (Heap.get?_push_of_some _ e),?_,q⟩;show Value.bool _=Value.bool _;rw [show (bs.map Value.bool).toArray.size=bs.length by simp,UA]
end
end L2
namespace L2
open PySem PySem.Spec PyProof.Rows
theorem xi {X:Cx} {N:List Str} (h:N.Nodup) (e:X.N=N):X.N.Nodup:=e ▸ h
noncomputable def PB (sc scope:Scope):Bool:=
 (scope.kind == .function) && scope.names.all (fun y=>y.2 != .cell) && scope.names.all (fun y=>y.2 != .free || sc.names.lookup y.1 == some .cell || sc.names.lookup y.1 == some .free) &&
  scope.names.all (fun y=>y.2 != .local || scope.names.lookup y.1 == some .local)
theorem Hc {env:Env} {sc scope:Scope} (he:env.scope=sc) (h:PB sc scope=true):Gm env scope:=by
 subst he;unfold PB at h;simp only [Bool.and_eq_true,List.all_eq_true] at h;obtain ⟨⟨⟨h1,h2⟩,h3⟩,h4⟩:=h;refine ⟨by simpa using h1,fun y hy e=>?_,fun y hy e=>?_,fun y hy e=>?_⟩
 ·have:=h2 y hy;rw [e] at this;exact absurd this (by decide)
 ·have:=h3 y hy;rw [e] at this;simp only [Bool.or_eq_true] at this;rcases this with (z | z) | z
  ·exact absurd z (by decide)
  ·exact .inl (show env.scope.names.lookup y.1=some .cell by simpa using z)
  ·exact .inr (show env.scope.names.lookup y.1=some .free by simpa using z)
 ·have:=h4 y hy;rw [e] at this;simp only [Bool.or_eq_true] at this;rcases this with z | z
  ·exact absurd z (by decide)
  ·simpa using z
noncomputable def YK (M:List Str) (scope:Scope) (N:List Str) (sel:List (Option Nat)):Bool:=
 sel.length == N.length && (sel.zip N).all fun p=>match p.1 with | none=>true | some j=>M[j]? == some p.2 && scope.names.lookup p.2 == some .free
theorem Cd {M:List Str} {scope:Scope} {N:List Str} {sel:List (Option Nat)} (h:YK M scope N sel=true):HC M scope N sel:=by
 unfold YK at h;simp only [Bool.and_eq_true,List.all_eq_true] at h;refine ⟨by simpa using h.1,fun i j x e1 e2=>?_⟩;have hm:(some j,x) ∈ sel.zip N:=by
  rw [List.mem_iff_getElem?];exact ⟨i,by rw [List.getElem?_zip_eq_some];exact ⟨e1,e2⟩⟩
 have:=h.2 _ hm;simp only [Bool.and_eq_true] at this;exact ⟨by simpa using this.1,by simpa using this.2⟩
noncomputable def noT:HO→Bool
 | .dT _=>false
 | .frz _ u=>noT u
 | _=>true
noncomputable def NoT (H:Hp):Prop:=∀ b o,H b=some o→noT o=true
theorem Kd.back {P:Program} {w:World} {H H':Hp} {h h':Heap} {a:Addr}:∀ (o:HO),noT o=true→Kd P w H' h' a o→Kd P w H h a o→Kd P w H h' a o
 | .lst _,_,x,_=>x
 | .tup _,_,x,_=>x
 | .dK _,_,x,_=>x
 | .dT _,e,_,_=>absurd e (by unfold noT;decide)
 | .set _ _,_,x,_=>x
 | .ins _ _ _,_,x,y=>⟨y.1,x.2⟩
 | .own _,_,x,_=>x
 | .xd _,_,x,_=>x
 | .met _ _,_,x,_=>x
 | .rng _ _,_,x,_=>x
 | .frz ob u,e,x,y=>⟨x.1,Kd.back u (by unfold noT at e;exact e) x.2 y.2⟩
 | .tbl _,_,x,_=>x
 | .ext _,_,x,_=>x
section
variable {P:Program} {w:World} {K:PySem.W.Frag} {mg:Str→Option Value} {base:Heap}
theorem Kb.forget {k:Nat} {f:Addr} {fd:FuncData} {ps:List Str} {sp sp':Sp} (F:Kb P w K mg base CX0 k f fd ps sp)
  (h:∀ vs H Q E,sp' vs H Q E→NoT H∧sp vs H (fun v H'=>Mb H H'∧Q v H) E):Kb P w K mg base CX0 k f fd ps sp':=by
 refine ⟨fun vs H Q E q=>F.len vs H _ E (h vs H Q E q).2,fun A outer s H args us vs Q E hr he hb hv hs=>?_⟩;obtain ⟨nt,q⟩:=h vs H Q E hs;refine codeAny_mono (F.run A outer s H args us vs _ E hr he hb hv q) fun r s' hq=>?_
 cases r with
 | error e=>exact hq
 | ok fl=>
  cases fl with
  | next=>exact hq
  | brk=>exact hq
  | cont=>exact hq
  | ret u=>
   obtain ⟨v,H',os,bare,un,hok,rv,sm,q'⟩:=hq;exact ⟨v,H,os,bare,⟨un.keep,un.slot,fun _ _ _ n _=>n,un.there,fun _ _ z=>z,fun _ _ _ z=>z,fun _ ps z=>⟨#[],by rw [z];simp⟩⟩,fun a o e=>(hok a o (sm a o e)).back o (nt a o e) (he.hok a o e),rv,q'⟩
end
theorem fb {H:Hp} {p:Addr} {o:HO} (h:H p=none):Mb H (upd H p o):=fun b u q=>by rw [ub (Db q h)];exact q
theorem Mb.updN {H H1:Hp} {p:Addr} {o:HO} (s:Mb H H1) (h:H p=none):Mb H (upd H1 p o):=fun b u q=>by rw [ub (Db q h)];exact s b u q
structure Sc (K:PySem.W.Frag) (a:Addr) (ns:List Int) (H:Hp):Prop where
 sq:(∃ o,H a=some (.frz o (.lst (ns.map V.int))))∨∃ (o:Obj) (its:Array Value) (n:Nat),K.lookup a=some o∧o.cls=.type "list" ∧ o.dict=none∧o.data=.seq its n∧its.size ≤ sizeLine∧Zc (ns.map V.int) its.toList
 nt:NoT H
section
variable {K:PySem.W.Frag} {a p:Addr} {ns:List Int} {H H':Hp} {o:HO}
theorem Sc.seq (s:Sc K a ns H):SqL K H a (ns.map V.int):=by
 rcases s.sq with ⟨o,h⟩ | h
 ·exact .inl (.inr ⟨o,h⟩)
 ·exact .inr h
theorem Sc.new (s:Sc K a ns H) (hp:H p=none) (ho:noT o=true:=by rfl):Sc K a ns (upd H p o):=by
 refine ⟨?_,fun b u e=>?_⟩
 ·rcases s.sq with ⟨ob,h⟩ | h
  ·exact .inl ⟨ob,by rw [ub (Db h hp)];exact h⟩
  ·exact .inr h
 ·by_cases hb:b=p
  ·subst hb;rw [db] at e;cases e;exact ho
  ·rw [ub hb] at e;exact s.nt b u e
theorem Sc.set {u:HO} (s:Sc K a ns H) (hp:H p=some u) (hu:∀ ob z,u ≠ .frz ob z) (ho:noT o=true:=by rfl):Sc K a ns (upd H p o):=by
 refine ⟨?_,fun b x e=>?_⟩
 ·rcases s.sq with ⟨ob,h⟩ | h
  ·refine .inl ⟨ob,?_⟩;have hne:a ≠ p:=fun z=>by subst z;rw [hp] at h;exact hu _ _ (Option.some.inj h)
   rw [ub hne];exact h
  ·exact .inr h
 ·by_cases hb:b=p
  ·subst hb;rw [db] at e;cases e;exact ho
  ·rw [ub hb] at e;exact s.nt b x e
theorem Sc.of_only (hO:ZI H) (hS:SqL K H a (ns.map V.int)):Sc K a ns H:=by
 refine ⟨?_,fun b u e=>?_⟩
 ·rcases hS with (h | ⟨o,h⟩) | h
  ·rcases hO a with z | ⟨ob,xs,z⟩
   ·rw [h] at z;cases z
   ·rw [h] at z;cases z
  ·exact .inl ⟨o,h⟩
  ·exact .inr h
 ·rcases hO b with z | ⟨ob,xs,z⟩
  ·rw [e] at z;cases z
  ·rw [e] at z;cases z;rfl
end
noncomputable def KJ (K:PySem.W.Frag):Sp:=fun vs H Q _=>∃ (a:Addr) (ns:List Int),vs=[.ref a]∧Sc K a ns H∧ns.length ≤ 63∧∀ H',Q (.bl true) H'
theorem yd:bootBuiltins "len"=some (.builtin "len"):=PySem.boot_len
theorem Gy:bootBuiltins "all"=some (.builtin "all"):=by decide +kernel
theorem Mq:bootBuiltins "max"=some (.builtin "max"):=by decide +kernel
theorem Ny:bootBuiltins "sum"=some (.builtin "sum"):=by decide +kernel
theorem Gx:bootBuiltins "int"=some (.type "int"):=by decide +kernel
theorem zj:bootBuiltins "str"=some (.type "str"):=by decide +kernel
theorem fv:bootBuiltins "list"=some (.type "list"):=by decide +kernel
theorem wv:bootBuiltins "dict"=some (.type "dict"):=by decide +kernel
theorem Rd.same {H H':Hp} {a:Addr} {o:HO} (h:Rd H a o) (s:Mb H H'):Rd H' a o:=by
 rcases h with h | ⟨ob,h⟩
 ·exact .inl (s _ _ h)
 ·exact .inr ⟨ob,s _ _ h⟩
theorem SqL.same {K:PySem.W.Frag} {H H':Hp} {a:Addr} {xs:List V} (h:SqL K H a xs) (s:Mb H H'):SqL K H' a xs:=by
 rcases h with h | h
 ·exact .inl (h.same s)
 ·exact .inr h
theorem SqT.same {K:PySem.W.Frag} {H H':Hp} {a:Addr} {xs:List V} (h:SqT K H a xs) (s:Mb H H'):SqT K H' a xs:=by
 rcases h with h | h
 ·exact .inl (h.same s)
 ·exact .inr h
theorem NoT.upd {H:Hp} {p:Addr} {o:HO} (h:NoT H) (ho:noT o=true:=by rfl):NoT (upd H p o):=fun b u e=>by
 by_cases hb:b=p
 ·subst hb;rw [db] at e;cases e;exact ho
 ·rw [ub hb] at e;exact h b u e
theorem Sc.same {K:PySem.W.Frag} {a:Addr} {ns:List Int} {H H':Hp} (s:Sc K a ns H) (sm:Mb H H') (nt:NoT H'):Sc K a ns H':=by
 refine ⟨?_,nt⟩;rcases s.sq with ⟨o,h⟩ | h
 ·exact .inl ⟨o,sm _ _ h⟩
 ·exact .inr h
end L2
namespace L2
open PySem PySem.Spec PyProof.Rows
structure aL (K:PySem.W.Frag) (C:Addr) (m:Str) (f:Addr):Prop where
 rd:PySem.W.readsIn K C (.type "type")=true
 fd:PySem.W.findCls K (.ref C) (.type "type") m=some (.val (.ref f))
 ga:PySem.W.specialIn K (.ref C) "__getattribute__"=some (some (.builtin "type.__getattribute__"))
 kp:PySem.W.keepIn K (.ref f)=true
structure wG (P:Program) (w:World) (K:PySem.W.Frag) (mg:Str→Option Value) (base:Heap) (CX:CXT) (k:Nat) (OK:Addr→Prop) (m:Str) (ps:List Str) (SPV:Addr→Sp):Prop where
 ok:∀ C,OK C→∃ f fd,Cls K C∧Lr K C m f∧Kb P w K mg base CX k f fd ps (SPV C)∧Rb K fd ps []
noncomputable def RE (OK:Addr→Prop) (m:Str) (SPV:Addr→Sp) (E:XK) (ta:TE) (t:TA):TE:=fun σ H Q=>ta σ H fun x H1=>∃ a C dx fs,x=.ref a∧H1 a=some (.ins C dx fs)∧OK C∧fs.lookup m=none ∧
 t σ H1 fun vs H2=>SPV C (x :: vs) H2 Q E
section
variable {X:Cx} {CX:CXT} {k:Nat} {f C:Addr} {fd:FuncData} {ps:List Str} {sp:Sp} {dvs:List V} {ds:List Value} {E:XK} {x m:Str} {p pos apos:Pos} {e o:Expr} {es:List Expr} {ta:TE} {t:TA}
theorem ar {pl:Sem Bool} (hg:Gl X x) (hm:X.mg x=some (.ref C)) (c:aL X.K C m f) (F:Kb X.prog X.w X.K X.mg X.base CX k f fd ps sp) (hr:Ai k X.A) (hb:Rb X.K fd ps ds) (hd:Zc dvs ds) (hx:ol CX X E) (ha:PA X (e :: es) t)
  (hdb:(x == ("__debug__" : Str))=false:=by decide) (hst:starEach (e :: es) X.env=(false,eval e X.env) :: starEach es X.env:=by rfl) (hpl:(backTo pos (starEach es X.env)).any (·.1)=false:=by rfl)
  (ht:eval (.Call (.Attribute (.Name x p) m apos) (e :: es) [] pos) X.env=(do
   let ov ← eval (.Name x p) X.env
   standAt apos.atName
   let (f,first) ← holding [ov] (getMethod ov m pl)
   callWith pos f first (backTo pos (starEach (e :: es) X.env)) (backToKw pos (keywordEach [] X.env))):=by rfl) :
  PE X (.Call (.Attribute (.Name x p) m apos) (e :: es) [] pos) (UD sp dvs E t):=by
 intro pins s σ H Q I h;refine PySem.W.methodCall_KW (pl:=pl) (Ar I hg hm ?_ hdb) ht;refine PySem.W.method_cls I.kIn c.ga (PySem.W.cls_value I.kIn c.rd c.fd rfl ?_);have I1:=I.tok (s.toks + 1);refine PySem.W.callWith_K (first:=[]) (h₀:=X.base) I.ok.mod.kin c.kp (thn (ha pos pins _ σ H _ I1 h) fun us s2 ⟨vs,H2,I2,r,q2⟩=>⟨I2.kIn,?_⟩) hst hpl;exact Jt F hr hb hd hx I2 r q2
variable {OK:Addr→Prop} {SPV:Addr→Sp}
theorem Ft {pl:Sem Bool} (he:PE X o ta) (V:wG X.prog X.w X.K X.mg X.base CX k OK m ps SPV) (hr:Ai k X.A) (hx:ol CX X E)
  (ht:eval (.Call (.Attribute o m apos) [] [] pos) X.env=(do
   let ov ← eval o X.env
   standAt apos.atName
   let (f,first) ← holding [ov] (getMethod ov m pl)
   callWith pos f first (backTo pos (starEach [] X.env)) (backToKw pos (keywordEach [] X.env))):=by rfl) :
  PE X (.Call (.Attribute o m apos) [] [] pos) (RE OK m SPV E ta RJ):=by
 intro pins s σ H Q I h;refine PySem.W.methodCall_KW (pl:=pl) (thn (he pins s σ H _ I h) fun u s1 hZ1=>?_) ht;obtain ⟨x,H1,I1,rx,a,C,dx,fs,ex,ea,ok,l,q⟩:=hZ1;subst ex;obtain rfl:u=Value.ref a:=rx;obtain ⟨f,fd,c,hm,F,hb⟩:=V.ok C ok;refine fm I1 ea c hm l ?_;exact PySem.W.callWith_K0 (first:=[.ref a]) I1.kIn hm.kp (Jt (us:=[.ref a]) (vs:=[.ref a]) (dvs:=[]) F hr hb .nil hx I1 (.cons rfl .nil) q)
end
section
variable {X:Cx} {x:Str} {p pos:Pos} {i:Expr} {ty:TE} {u:Value} {kvs:List (Str × V)}
end
theorem Dd {f:Str} {v:V}:∀ {fs:List (Str × V)} (ks:List Str),fs.map (·.1)=ks→ks.contains f=false→Qh f v fs=fs ++ [(f,v)]
 | [],_,_,_=>rfl
 | (g,y) :: r,ks,e,h=>by
  cases e;rw [List.map_cons,List.contains_cons] at h;have h1:=(Bool.or_eq_false_iff.mp h);have hne:¬ g=f:=fun z=>by
   have:=h1.1;rw [z] at this;simp at this
  show (if g=f then _ else _)=_;rw [if_neg hne,Dd _ rfl h1.2];rfl
theorem Ym {f:Str} {v:V} {fs:List (Str × V)} {n:Nat} (h:fs.length < n):(Qh f v fs).length < n + 1:=Nat.lt_of_le_of_lt (Bk f v fs) (by omega)
theorem Qd {f:Str} {v:V}:∀ {fs:List (Str × V)} (ks:List Str) (i:Nat),fs.map (·.1)=ks→ks.findIdx? (· == f)=some i→fs[i]? = some (f,v)→fs.lookup f=some v
 | [],_,_,_,_,h=>by simp at h
 | (g,y) :: r,ks,i,e,h,hv=>by
  cases e;rw [List.map_cons,List.findIdx?_cons] at h;rw [List.lookup];by_cases e:g=f
  ·subst e;rw [beq_self_eq_true,if_pos rfl] at h;cases h;have:(g,y)=(g,v):=by simpa using hv
   cases this;rw [beq_self_eq_true]
  ·rw [beq_eq_false_iff_ne.mpr e,if_neg (by decide)] at h;obtain ⟨j,hj,rfl⟩:=Option.map_eq_some_iff.mp h;rw [beq_eq_false_iff_ne.mpr (fun z=>e z.symm)];exact Qd _ j rfl hj (by simpa using hv)
theorem Ol {f:Str}:∀ {fs:List (Str × V)} (ks:List Str),fs.map (·.1)=ks→ks.contains f=false→fs.lookup f=none
 | [],_,_,_=>rfl
 | (g,y) :: r,ks,e,h=>by
  cases e;rw [List.map_cons,List.contains_cons] at h;have h1:=(Bool.or_eq_false_iff.mp h);rw [List.lookup,h1.1];exact Ol _ rfl h1.2
end L2
namespace L2
open PySem PySem.Spec PyProof.Rows
theorem Inv.turnedL {X:Cx} {pins:List (Addr × Obj)} {σ:St} {H:Hp} {s:Shared} {h':Heap} {t':Nat} {fp:List Addr} (I:Inv X pins σ H s) (k:∀ b o,b ∉ fp→s.heap.get? b=some o→h'.get? b=some o)
  (hf:∀ b ∈ fp,Xq X pins H b):Inv X pins σ H { s with heap:=h',toks:=t' }:=by
 have nit:∀ b u,H b=some u→b ∉ fp:=fun b u e z=>by rw [(hf b z).1] at e;cases e
 refine I.step (g':=s.gens) (d':=s.drawn) (ch:=fp) (fun b hb=>?_) (fun b o _ _ hc e _=>k b o hc e) (fun b o _ _ hc e _=>⟨o.slots,k b o hc e⟩) (fun _ _ _ _ n=>n)
  (fun b o hc e=>⟨o,k b o hc e⟩) (fun _ _ e=>e) (fun _ _ _ e=>e) (fun b ps e=>⟨#[],by rw [e];simp⟩) (fun m hm=>?_) (fun b u e=>?_) I.bare
 ·obtain ⟨f0,f1,f2,f3,f4,f5⟩:=hf b hb;exact ⟨f3,f1,f4,f5⟩
 ·obtain ⟨o,es,ep,ho,r⟩:=hm;exact ⟨o,es,ep,k _ o (fun z=>(hf _ z).2.1 rfl) ho,r⟩
 ·refine (I.hok b u e).stay (fun c v hc q=>k c v ?_ q) (fun _ q=>q) fun _ _ q=>q
  rcases hc with z | z
  ·rw [z];exact nit b u e
  ·exact nit c _ z
noncomputable def Ite (K:PySem.W.Frag) (a:Addr):It:=
 ⟨fun i H=>∃ xs x,SqL K H a xs∧xs[i]? = some x,fun i H v H'=>∃ p y,H p=none∧v=.ref p∧(∀ xs,SqL K H a xs→xs[i]? = some y)∧H'=upd H p (.tup [.int i,y]),fun i H=>∃ xs,SqL K H a xs∧xs.length ≤ i⟩
theorem GC {P:Program} {w:World} {K:PySem.W.Frag} {es:List Expr} {k} {pos:Pos} (a e it:Addr) (hne:e ≠ it) :
  EE P w K (.Tuple es k pos) (Ite K a) [e,it] e (fun i h=>∃ old,IsEnum h e it ((i:Nat):Int) old∧h.IsListIter it a i) where
 mem:=by simp
 obj:=fun i h ⟨old,he,hi⟩ b hb=>by
  simp only [List.mem_cons,List.not_mem_nil,or_false] at hb;rcases hb with rfl | rfl
  ·exact ⟨_,he,fun v z=>by
    have z':Data.fields _=Data.cell v:=z;cases z'⟩
  ·obtain ⟨o,q,c,d⟩:=hi;exact ⟨o,q,fun v z=>by rw [d] at z;cases z⟩
 keep:=fun i h h' ⟨old,he,hi⟩ k=>⟨old,k e (by simp) _ he,hi.at fun o q=>k it (by simp) o q⟩
 item:=by
  intro X hP hw hK hc i pins s σ H E I hf ⟨old,he,hi⟩ hg;subst hP hw hK;obtain ⟨xs,x,hq,hx⟩:=hg;obtain ⟨its,rv,p,hz⟩:=I.list hq;obtain ⟨u,hu,ru⟩:=rv.get hx;refine wpAny_pyNext_enum_item he hi p.isList (x:=u) (by simpa using hu) hne fun h1 he1 hi1 ht1 hz1 hk1=>⟨_,rfl,?_⟩
  refine wpAny_letOwnedTupleGo_enum he1 fun h2 he2 hs2=>?_
  replace hs2:Heap.SameBut e h1 h2:=hs2;have hel:e < s.heap.objs.size:=Heap.lt_size he;have hk:∀ b o,b ∉ [e,it]→s.heap.get? b=some o→h2.get? b=some o:=fun b o hb q=>by
   simp only [List.mem_cons,List.not_mem_nil,or_false,not_or] at hb;exact hs2.extBut _ _ hb.1 (hk1 b o hb.1 hb.2 q)
  have I1:Inv X pins σ H { s with heap:=h2,toks:=s.toks + 1 }:=I.turnedL hk hf;have fo:Xq X pins H s.heap.objs.size:=I.fpOk (Nat.le_refl _) (I.hok.fresh (Nat.le_refl _));have ht2:h2.get? s.heap.objs.size=some { cls:=.type "tuple",data:=.seq #[.int i s.toks,u] }:=(hs2.2 _ (Nat.ne_of_gt hel)).trans ht1;have I2:=I1.adopt (o:=.tup [.int i,x]) fo ⟨by show 2 ≤ sizeLine;decide,[.int i s.toks,u],.cons ⟨_,rfl⟩ (.cons ru .nil),⟨_,ht2,rfl,_,rfl⟩⟩;refine ⟨.ref s.heap.objs.size,_,I2,rfl,⟨_,x,fo.1,rfl,fun ys hy=>by rw [I.list_inj hy hq];exact hx,rfl⟩,⟨u,?_,?_⟩,fun b hb=>?_⟩
  ·have e1:((i + 1:Nat):Int)=(i:Int) + 1:=by omega
   rw [e1];exact he2
  ·exact hi1.extBut hs2.extBut (Ne.symm hne)
  ·have hlt:b < s.heap.objs.size:=by
    simp only [List.mem_cons,List.not_mem_nil,or_false] at hb;rcases hb with rfl | rfl
    ·exact hel
    ·obtain ⟨o,q,_⟩:=hi;exact Heap.lt_size q
   rw [ub (Nat.ne_of_lt hlt)];exact (hf b hb).1
 done:=by
  intro X hP hw hK hc i pins s σ H E I hf ⟨old,he,hi⟩ hg;subst hP hw hK;obtain ⟨xs,hq,hx⟩:=hg;obtain ⟨its,rv,p,hz⟩:=I.list hq;have hl:=rv.length;exact wpAny_pyNext_enum_end (I.ok.hd hc) he hi p.isList (by simp;omega) fun h' eb=>⟨rfl,I.turnedL (t':=s.toks) (fun b o hb q=>eb b o (fun z=>hb (by simp [z])) q) hf⟩
 self:=fun _ _ _ _ _ ⟨_,he,_⟩ h=>wpAny_pyIter_enum he h
theorem Zj:bootBuiltins "enumerate"=some (.type "enumerate"):=by decide +kernel
theorem tE:bootBuiltins "zip"=some (.type "zip"):=by decide +kernel
noncomputable def Itz (K:PySem.W.Frag) (a b:Addr):It:=
  ⟨fun i H=>∃ xs ys x y,SqL K H a xs∧SqL K H b ys∧xs[i]? = some x∧ys[i]? = some y,
   fun i H v H'=>∃ p x y,H p=none∧v=.ref p∧(∀ xs,SqL K H a xs→xs[i]? = some x)∧(∀ ys,SqL K H b ys→ys[i]? = some y)∧H'=upd H p (.tup [x,y]),
   fun i H=>∃ xs ys,SqL K H a xs∧SqL K H b ys∧(xs.length ≤ i∨ys.length ≤ i)⟩
theorem Qf {h:Heap} {a b:Addr} {o o':Obj} {c d:String} (ha:h.get? a=some o) (hb:h.get? b=some o') (hc:o.cls=.type c) (hd:o'.cls=.type d) (n:c ≠ d):a ≠ b:=fun z=>by
 subst z;rw [ha] at hb;cases hb;rw [hc] at hd;cases hd;exact n rfl
theorem zt {h:Heap} {z TI TO i1 i2 l1 l2:Addr} {f0 u1 u2 v1 v2:Value} {k1 k2:Nat} {xs ys:Array Value} (hz:IsZip h z TI TO f0) (hTI:IsPair h TI u1 u2) (hTO:IsPair h TO v1 v2) (h1:h.IsListIter i1 l1 k1) (h2:h.IsListIter i2 l2 k2)
  (g1:h.IsList l1 xs) (g2:h.IsList l2 ys) (nT:TI ≠ TO) (ni:i1 ≠ i2):ZipApart z TI TO i1 i2 l1 l2:=by
 obtain ⟨o1,e1,c1,_⟩:=h1;obtain ⟨o2,e2,c2,_⟩:=h2;obtain ⟨p1,f1,d1,_⟩:=g1;obtain ⟨p2,f2,d2,_⟩:=g2;exact ⟨Qf hTI hz rfl rfl (by decide),Qf hTO hz rfl rfl (by decide),Qf e1 hz c1 rfl (by decide),Qf e2 hz c2 rfl (by decide),nT,Qf hTI e1 rfl c1 (by decide),Qf hTI e2 rfl c2 (by decide),
  Qf hTO e1 rfl c1 (by decide),Qf hTO e2 rfl c2 (by decide),ni,Qf f1 hz d1 rfl (by decide),Qf f1 hTO d1 rfl (by decide),Qf f1 e1 d1 c1 (by decide),Qf f1 e2 d1 c2 (by decide),
  Qf f2 hz d2 rfl (by decide),Qf f2 hTO d2 rfl (by decide),Qf f2 e1 d2 c1 (by decide),Qf f2 e2 d2 c2 (by decide)⟩
theorem eE {P:Program} {w:World} {K:PySem.W.Frag} {es:List Expr} {k} {pos:Pos} (a b z TI TO i1 i2:Addr) (nT:TI ≠ TO) (ni:i1 ≠ i2) :
  EE P w K (.Tuple es k pos) (Itz K a b) [z,TI,TO,i1,i2] z (fun i h=>IsZip h z TI TO .none∧IsPair h TI (.ref i1) (.ref i2)∧(∃ u v,IsPair h TO u v)∧h.IsListIter i1 a i∧h.IsListIter i2 b i) where
 mem:=by simp
 obj:=fun i h ⟨hz,hTI,⟨u,v,hTO⟩,⟨o1,e1,_,d1⟩,o2,e2,_,d2⟩ c hc=>by
  simp only [List.mem_cons,List.not_mem_nil,or_false] at hc;rcases hc with rfl | rfl | rfl | rfl | rfl
  ·exact ⟨_,hz,fun v z=>by
    have z':Data.fields _=Data.cell v:=z;cases z'⟩
  ·exact ⟨_,hTI,fun v z=>by
    have z':Data.seq _ _=Data.cell v:=z;cases z'⟩
  ·exact ⟨_,hTO,fun v z=>by
    have z':Data.seq _ _=Data.cell v:=z;cases z'⟩
  ·exact ⟨o1,e1,fun v z=>by rw [d1] at z;cases z⟩
  ·exact ⟨o2,e2,fun v z=>by rw [d2] at z;cases z⟩
 keep:=fun i h h' ⟨hz,hTI,⟨u,v,hTO⟩,h1,h2⟩ k=>⟨k z (by simp) _ hz,k TI (by simp) _ hTI,⟨u,v,k TO (by simp) _ hTO⟩,h1.at fun o q=>k i1 (by simp) o q,h2.at fun o q=>k i2 (by simp) o q⟩
 item:=by
  intro X hP hw hK hc i pins s σ H E I hf ⟨hz,hTI,⟨u,v,hTO⟩,h1,h2⟩ hg;subst hP hw hK;obtain ⟨xs,ys,x,y,hq,hr,hx,hy⟩:=hg;obtain ⟨its,rv,p,hz1⟩:=I.list hq;obtain ⟨jts,rw',p',hz2⟩:=I.list hr;obtain ⟨ux,hu,ru⟩:=rv.get hx;obtain ⟨uy,hv,rv'⟩:=rw'.get hy;have D:=zt hz hTI hTO h1 h2 p.isList p'.isList nT ni;refine wpAny_pyNext_zip_item D hz hTI hTO h1 h2 p.isList p'.isList (x:=ux) (y:=uy) (by simpa using hu) (by simpa using hv) fun g gz gTO g1 g2 gT gs gk=>⟨_,rfl,?_⟩
  refine wpAny_letOwnedTupleGo_zip gz fun g' gz' hs'=>?_
  replace hs':Heap.SameBut z g g':=hs';have hzl:z < s.heap.objs.size:=Heap.lt_size hz;have hk:∀ c o,c ∉ [z,TI,TO,i1,i2]→s.heap.get? c=some o→g'.get? c=some o:=fun c o hc q=>by
   simp only [List.mem_cons,List.not_mem_nil,or_false,not_or] at hc;exact hs'.extBut _ _ hc.1 (gk c o hc.1 hc.2.2.1 hc.2.2.2.1 hc.2.2.2.2 q)
  have I1:Inv X pins σ H { s with heap:=g',toks:=s.toks }:=I.turnedL hk hf;have fo:Xq X pins H s.heap.objs.size:=I.fpOk (Nat.le_refl _) (I.hok.fresh (Nat.le_refl _));have ht2:IsPair g' s.heap.objs.size ux uy:=(hs'.2 _ (Nat.ne_of_gt hzl)).trans gT;have I2:=I1.adopt (o:=.tup [x,y]) fo ⟨by show 2 ≤ sizeLine;decide,[ux,uy],.cons ru (.cons rv' .nil),⟨_,ht2,rfl,_,rfl⟩⟩;refine ⟨.ref s.heap.objs.size,_,I2,rfl,⟨_,x,y,fo.1,rfl,fun ys hy=>by rw [I.list_inj hy hq];exact hx,fun zs hzs=>by rw [I.list_inj hzs hr];exact hy,rfl⟩,⟨gz',?_,⟨_,_,hs'.extBut _ _ D.TOz gTO⟩,g1.extBut hs'.extBut D.i1z,g2.extBut hs'.extBut D.i2z⟩,fun b hb=>?_⟩
  ·exact hs'.extBut _ _ D.TIz (gk _ _ D.TIz D.TITO D.TIi1 D.TIi2 hTI)
  ·have hlt:b < s.heap.objs.size:=by
    obtain ⟨o1,e1,_⟩:=h1;obtain ⟨o2,e2,_⟩:=h2;simp only [List.mem_cons,List.not_mem_nil,or_false] at hb;rcases hb with rfl | rfl | rfl | rfl | rfl
    ·exact hzl
    ·exact Heap.lt_size hTI
    ·exact Heap.lt_size hTO
    ·exact Heap.lt_size e1
    ·exact Heap.lt_size e2
   rw [ub (Nat.ne_of_lt hlt)];exact (hf b hb).1
 done:=by
  intro X hP hw hK hc i pins s σ H E I hf ⟨hz,hTI,⟨u,v,hTO⟩,h1,h2⟩ hg;subst hP hw hK;obtain ⟨xs,ys,hq,hr,hx⟩:=hg;obtain ⟨its,rv,p,hz1⟩:=I.list hq;obtain ⟨jts,rw',p',hz2⟩:=I.list hr;have hl:=rv.length;have hl':=rw'.length;have D:=zt hz hTI hTO h1 h2 p.isList p'.isList nT ni;exact wpAny_pyNext_zip_end (I.ok.hd hc) D hz hTI hTO h1 h2 p.isList p'.isList (by simp;omega) fun h' eb=>⟨rfl,I.turnedL (t':=s.toks) (fun b o hb q=>eb b o (fun z=>hb (by simp [z])) (fun z=>hb (by simp [z])) (fun z=>hb (by simp [z])) (fun z=>hb (by simp [z])) q) hf⟩
 self:=fun _ _ _ _ _ ⟨hz,_⟩ h=>wpAny_pyIter_zip hz h
section
variable {X:Cx}
noncomputable def ZH (K:PySem.W.Frag) (ta:TA):TI:=fun σ H R=>ta σ H fun vs H1=>∃ a,vs=[.ref a]∧(∃ xs,SqL K H1 a xs)∧R (Ite K a) H1
theorem yo {es:List Expr} {k} {tpos:Pos} {a:Expr} {ta:TA} {p pos:Pos} (hg:Gl X "enumerate") (hm:X.mg "enumerate"=none) (ha:PA X [a] ta) (hs:starEach [a] X.env=[(false,eval a X.env)]:=by rfl) :
  PI X (.Tuple es k tpos) (.Call (.Name "enumerate" p) [a] [] pos) (ZH X.K ta):=by
 intro pins s σ H R I h;refine Call_ (Am I hg hm Zj (PyProof.Rows.callWith_type1 (thn (ha pos pins s σ H _ I h) fun us s1 hZ1=>?_) hs rfl));obtain ⟨vs,H1,I1,r1,q1⟩:=hZ1;obtain ⟨a,e,⟨xs,hq⟩,q⟩:=q1;subst e;cases r1 with
 | cons r rr=>
  cases rr;cases r;obtain ⟨its,rv,pl,hz⟩:=I1.list hq;refine call_enumerate_list pl.isList fun h' hE hI hsz hk=>wpAny_pyIter_enum hE ?_
  refine ⟨s1.heap.objs.size + 1,[s1.heap.objs.size + 1,s1.heap.objs.size],_,_,H1,rfl,I1.kept (t':=s1.toks) hk,GC a _ _ (Nat.succ_ne_self _),⟨_,hE,hI⟩,fun b hb=>?_,q⟩;have hb':s1.heap.objs.size ≤ b:=by
   simp only [List.mem_cons,List.not_mem_nil,or_false] at hb;rcases hb with rfl | rfl
   ·exact Nat.le_succ _
   ·exact Nat.le_refl _
  exact I1.fpOk hb' (I1.hok.fresh hb')
noncomputable def kL (K:PySem.W.Frag) (ta:TA):TI:=fun σ H R=>ta σ H fun vs H1=>∃ a b,vs=[.ref a,.ref b]∧(∃ xs,SqL K H1 a xs)∧(∃ ys,SqL K H1 b ys)∧R (Itz K a b) H1
theorem UH {es:List Expr} {k} {tpos:Pos} {a b:Expr} {ta:TA} {p pos:Pos} (hg:Gl X "zip") (hm:X.mg "zip"=none) (ha:PA X [a,b] ta) (hs:starEach [a,b] X.env=[(false,eval a X.env),(false,eval b X.env)]:=by rfl)
  (hs2:starEach [b] X.env=[(false,eval b X.env)]:=by rfl):PI X (.Tuple es k tpos) (.Call (.Name "zip" p) [a,b] [] pos) (kL X.K ta):=by
 intro pins s σ H R I h;refine Call_ (Am I hg hm tE (PyProof.Rows.callWith_type1 (thn (ha pos pins s σ H _ I h) fun us s1 hZ1=>?_) (by rw [hs,hs2]) (by rw [hs2];rfl)));obtain ⟨vs,H1,I1,r1,q1⟩:=hZ1;obtain ⟨a,b,e,⟨xs,hq⟩,⟨ys,hr⟩,q⟩:=q1;subst e;cases r1 with
 | cons r rr=>
  cases rr with
  | cons r' rr=>
   cases rr;cases r;cases r';obtain ⟨its,rv,pl,hz⟩:=I1.list hq;obtain ⟨jts,rv',pl',hz'⟩:=I1.list hr;refine call_zip_2 pl.isList pl'.isList fun h' hz hTI hTO h1 h2 hsz hk=>wpAny_pyIter_zip hz ?_
   refine ⟨s1.heap.objs.size + 4,[s1.heap.objs.size + 4,s1.heap.objs.size + 2,s1.heap.objs.size + 3,s1.heap.objs.size,s1.heap.objs.size + 1],_,_,H1,rfl,I1.kept (t':=s1.toks) hk,
    eE a b _ _ _ _ _ (Nat.ne_of_lt (Nat.lt_succ_self _)) (Nat.ne_of_lt (Nat.lt_succ_self _)),⟨hz,hTI,⟨_,_,hTO⟩,h1,h2⟩,fun c hc=>?_,q⟩
   have hb':s1.heap.objs.size ≤ c:=by
    simp only [List.mem_cons,List.not_mem_nil,or_false] at hc;rcases hc with rfl | rfl | rfl | rfl | rfl
    ·exact Nat.le_add_right _ _
    ·exact Nat.le_add_right _ _
    ·exact Nat.le_add_right _ _
    ·exact Nat.le_refl _
    ·exact Nat.le_add_right _ _
   exact I1.fpOk hb' (I1.hok.fresh hb')
end
theorem Ue {X:Cx} {es:List Expr} {k:Nat} {pos:Pos} {t:TGs} {n:Nat} {K:PySem.W.Frag} (hK:X.K=K) (hc:X.calm=true) (h:PGs X es t)
  (hn:(assignEach es X.env).length=n:=by rfl) (hst:(assignEach es X.env).findIdx? (·.1)=none:=by rfl):PG X (.Tuple es k pos) (eJ K n t):=by
 subst hK;exact gI hc h hn hst
section
variable {X:Cx}
end
end L2
namespace L2
open PySem PySem.Spec PyProof.Rows
inductive EqH (K:PySem.W.Frag) (H:Hp):Nat→V→V→Bool→Prop
 | flat {k:Nat} {x y:V} (hx:sk x=true) (hy:sk y=true):EqH K H k x y (eqV x y)
 | lst {k:Nat} {p q:Addr} {xs ys:List V} {e:Nat→Bool} (hp:SqL K H p xs) (hq:SqL K H q ys) (hl:xs.length=ys.length) (he:∀ (j:Nat) (x y:V),xs[j]? = some x→ys[j]? = some y→EqH K H k x y (e j)):EqH K H (k + 1) (.ref p) (.ref q) ((List.range xs.length).all e)
 | lstN {k:Nat} {p q:Addr} {xs ys:List V} (hp:SqL K H p xs) (hq:SqL K H q ys) (hl:xs.length ≠ ys.length):EqH K H (k + 1) (.ref p) (.ref q) false
 | tup {k:Nat} {p q:Addr} {xs ys:List V} {e:Nat→Bool} (hp:SqT K H p xs) (hq:SqT K H q ys) (he:∀ (j:Nat) (x y:V),xs[j]? = some x→ys[j]? = some y→EqH K H k x y (e j)):EqH K H (k + 1) (.ref p) (.ref q) ((List.range (min xs.length ys.length)).all e && xs.length == ys.length)
theorem fD {x:V} (h:sk x=true):eqV x x=true:=by
 cases x <;> first | rfl | (simp [eqV];done) | cases h
theorem Bq {n:Nat} {e:Nat→Bool} (h:∀ j,j < n→e j=true):(List.range n).all e=true:=by
 rw [List.all_eq_true];exact fun j hj=>h j (List.mem_range.mp hj)
section
variable {X:Cx} {pins:List (Addr × Obj)} {σ:St} {H:Hp} {s:Shared}
theorem EqH.self (I:Inv X pins σ H s) {k:Nat} {x y:V} {b:Bool} (h:EqH X.K H k x y b) (e:x=y):b=true:=by
 induction h with
 | flat hx hy=>subst e;exact fD hx
 | @lst k p q xs ys f hp hq hl he ih=>
  injection e with e;subst e;have:=I.list_inj hp hq;subst this;refine Bq fun j hj=>?_
  exact ih j xs[j] xs[j] (List.getElem?_eq_getElem hj) (List.getElem?_eq_getElem hj) rfl
 | lstN hp hq hl=>
  injection e with e;subst e;have:=I.list_inj hp hq;subst this;exact absurd rfl hl
 | @tup k p q xs ys f hp hq he ih=>
  injection e with e;subst e;have:=I.tuple_inj hp hq;subst this;rw [Bool.and_eq_true];refine ⟨Bq fun j hj=>?_,by simp⟩;have hj':j < xs.length:=by omega
  exact ih j xs[j] xs[j] (List.getElem?_eq_getElem hj') (List.getElem?_eq_getElem hj') rfl
end
section
variable {X:Cx} {pins:List (Addr × Obj)} {σ:St} {H:Hp} {s:Shared}
end
section
variable {X:Cx}
end
theorem EqH.mono {K:PySem.W.Frag} {H:Hp} {j k:Nat} {x y:V} {b:Bool} (h:EqH K H j x y b):j ≤ k→EqH K H k x y b:=by
 induction h generalizing k with
 | flat hx hy=>exact fun _=>.flat hx hy
 | lst hp hq hl he ih=>
  intro hk;obtain ⟨m,rfl⟩:∃ m,k=m + 1:=⟨k - 1,by omega⟩;exact .lst hp hq hl fun j x y h1 h2=>ih j x y h1 h2 (by omega)
 | lstN hp hq hl=>
  intro hk;obtain ⟨m,rfl⟩:∃ m,k=m + 1:=⟨k - 1,by omega⟩;exact .lstN hp hq hl
 | tup hp hq he ih=>
  intro hk;obtain ⟨m,rfl⟩:∃ m,k=m + 1:=⟨k - 1,by omega⟩;exact .tup hp hq fun j x y h1 h2=>ih j x y h1 h2 (by omega)
end L2
namespace L2
open PySem PySem.Spec PyProof.Rows PySem.Builtin PySem.Builtin.ObjectAttr
noncomputable abbrev bmV:List Value:=[.type "ValueError",.type "Exception",.type "BaseException",.type "object"]
noncomputable def jF (K:PySem.W.Frag) (C fI:Addr):Bool:=
 match K.lookup C with
 | some ⟨.type "type",_,.cls cd,sl⟩=>
  match cd.mro,sl.toList with
  | .ref D :: tl,[_,_,_,_,some (.builtin n),_]=>
   (D == C) && (n == "ValueError.__new__") && (cd.hasDel == false) && (cd.hasDict == true) && PySem.W.tailIn K bmV tl && PySem.W.nsOkIn K cd.ns && (PySem.W.nsIn K cd.ns "__init__" == some (some (.ref fI)))
  | _,_=>false
 | _=>false
section
variable {P:Program} {w:World} {A:Around} {h:Heap} {g:Array GenState} {d:Drawn} {t:Nat} {os:OsState} {K:PySem.W.Frag} {C fI:Addr} {R:Result→Shared→Prop}
end
noncomputable def EG:List Value→Bool
 | .ref _ :: r=>EG r
 | l=>l == bmV
structure HL (K:PySem.W.Frag) (C:Addr):Prop where
 hd:PySem.W.hasDictIn K C=true
 ov:((PySem.W.clsIn K C).any fun cd=>EG cd.mro)=true
 sa:PySem.W.findIn K (.ref C) "__setattr__"=some (some (.builtin "object.__setattr__"))
 ga:PySem.W.findIn K (.ref C) "__getattribute__"=some (some (.builtin "BaseException.__getattribute__"))
 gt:PySem.W.findIn K (.ref C) "__getattr__"=some none
 ex:∃ fI,jF K C fI=true
noncomputable def XF (x C:Addr) (od:Option Addr):Heap→Prop:=fun h=>∃ vs sl,h.get? x=some ⟨.ref C,od,.fields vs,sl⟩∧1 < vs.size∧vs[1]? = some .none
noncomputable def XD (dx:Addr) (fs:List (Str × V)):Heap→Prop:=fun h=>∃ mA,h.Ns1 dx mA∧(∀ f,Vp (fs.lookup f) (mA f))∧PySem.Within mA (fs.map (·.1))
theorem XF.at {x C:Addr} {od:Option Addr} {h h':Heap} (z:XF x C od h) (k:∀ o,h.get? x=some o→h'.get? x=some o):XF x C od h':=let ⟨vs,sl,e,r⟩:=z;⟨vs,sl,k _ e,r⟩
theorem XD.at {dx:Addr} {fs:List (Str × V)} {h h':Heap} (z:XD dx fs h) (k:∀ o,h.get? dx=some o→h'.get? dx=some o):XD dx fs h':=let ⟨mA,e,r⟩:=z;⟨mA,e.at k,r⟩
theorem XF.ok {P:Program} {w:World} {H:Hp} {h:Heap} {x C:Addr} {od:Option Addr} (z:XF x C od h):Kd P w H h x (.ext (XF x C od)):=by
 obtain ⟨vs,sl,e,r⟩:=id z;exact ⟨z,⟨_,e⟩,fun h1 h2 q k=>q.at k⟩
theorem XD.ok {P:Program} {w:World} {H:Hp} {h:Heap} {dx:Addr} {fs:List (Str × V)} (z:XD dx fs h):Kd P w H h dx (.ext (XD dx fs)):=by
 obtain ⟨mA,⟨o,es,ep,e,_⟩,_⟩:=id z;exact ⟨z,⟨_,e⟩,fun h1 h2 q k=>q.at k⟩
section
variable {prog:Program} {w:World} {A:Around} {E:Value→Shared→Prop} {K:PySem.W.Frag} {C x:Addr} {s:Shared} {R:Result→Shared→Prop}
end
section
variable {X:Cx} {pins:List (Addr × Obj)} {σ:St} {H:Hp} {s:Shared} {x C dx:Addr} {fs:List (Str × V)} {f:Str} {y:V} {u:Value} {A:Around} {E:Value→Shared→Prop} {Q:Unit→Shared→Prop}
noncomputable def XA (x C:Addr) (od:Option Addr):Heap→Prop:=fun h=>∃ vs sl,h.get? x=some ⟨.ref C,od,.fields vs,sl⟩
theorem XA.at {x C:Addr} {od:Option Addr} {h h':Heap} (z:XA x C od h) (k:∀ o,h.get? x=some o→h'.get? x=some o):XA x C od h':=let ⟨vs,sl,e⟩:=z;⟨vs,sl,k _ e⟩
theorem XA.ok {P:Program} {w:World} {H:Hp} {h:Heap} {x C:Addr} {od:Option Addr} (z:XA x C od h):Kd P w H h x (.ext (XA x C od)):=by
 obtain ⟨vs,sl,e⟩:=id z;exact ⟨z,⟨_,e⟩,fun h1 h2 q k=>q.at k⟩
end
noncomputable abbrev TJ:=St→Hp→(Hp→Prop)→Prop
section
variable {X:Cx} {e:Expr} {es:List Expr} {n:Nat} {t:TJ} {te:TE} {pos:Pos}
end
structure aM (K:PySem.W.Frag) (L:Addr) (m:Str):Prop where
 rd:PySem.W.readsIn K L (.type "type")=true
 fd:PySem.W.findCls K (.ref L) (.type "type") m=some (.val (.builtin "ValueError.__init__"))
 ga:PySem.W.specialIn K (.ref L) "__getattribute__"=some (some (.builtin "type.__getattribute__"))
section
variable {X:Cx} {L:Addr} {x:Str} {p pos apos:Pos} {e:Expr} {es:List Expr} {t:TA}
end
structure MkX (K:PySem.W.Frag) (C fI:Addr):Prop where
 e:jF K C fI=true
 fn:PySem.W.typeIn K (.ref fI)=some (.type "function")
 kp:PySem.W.keepIn K (.ref C)=true
section
variable {X:Cx} {k:Nat} {f C:Addr} {fd:FuncData} {ps:List Str} {sp:Sp} {x g:Str} {p pos pos' apos:Pos} {e o value:Expr} {es:List Expr} {ta tv:TE} {t:TA}
end
end L2
namespace L2
open PySem PySem.Spec PyProof.Rows PySem.Builtin PySem.Builtin.ObjectAttr
noncomputable def FlA (x C:Addr) (od:Option Addr) (T:Addr) (fl:Value) (h:Heap):Prop:=
 T ≠ x∧∃ vs sl oT ts,h.get? x=some ⟨.ref C,od,.fields vs,sl⟩∧vs[1]? = some (.ref T)∧h.get? T=some oT∧oT.data=.fields ts∧ts[3]? = some fl
structure Kp (fs:List Addr) (x:Addr) (To:Option Addr) (h h':Heap):Prop where
 keep:∀ b o,h.get? b=some o→b ∉ fs→b ≠ x→some b ≠ To→h'.get? b=some o
 slot:∀ b o,h.get? b=some o→b ∈ fs→∃ sl,h'.get? b=some { o with slots:=sl }
 there:∀ b o,h.get? b=some o→∃ o',h'.get? b=some o'
section
variable {M:Model} {A:Around} {E:Value→Shared→Prop} {s:Shared}
theorem nofr {base h:Heap} {l:List Env} {b:Addr} {o:Obj} {vs:Array Value} (hl:h.FunFrames base l) (e:h.get? b=some o) (d:o.data=.fields vs):b ∉ frs l:=fun hm=>by
 obtain ⟨_,o',e',nf⟩:=hl.mem hm;rw [e] at e';cases e';exact nf vs d
end
section
variable {P:Program} {w:World} {H:Hp} {h h':Heap} {fs:List Addr} {x C T:Addr} {od:Option Addr} {fl:Value} {To:Option Addr} {o:HO}
theorem Kp.hok (k:Kp fs x To h h') (ok:HOk P w H h) (hfs:∀ b ∈ fs,H b=none) (hT:∀ t,To=some t→H t=none) (mu:Mut (H x)) (new:XA x C od h'):HOk P w (upd H x (.ext (XA x C od))) h':=fun b u q=>by
 have nown:∀ c y,H c=some (.own y)→c ≠ x:=fun c y r z=>by subst z;rw [r] at mu;exact mu
 have ntup:∀ c xs,H c=some (.tup xs)→c ≠ x:=fun c xs r z=>by subst z;rw [r] at mu;exact mu
 have kk:∀ c v,c ≠ x→H c ≠ none→h.get? c=some v→h'.get? c=some v:=fun c v n1 n2 r=>k.keep c v r (fun z=>n2 (hfs c z)) n1 fun z=>n2 (hT c z.symm)
 by_cases hb:b=x
 ·subst hb;rw [db] at q;cases q;exact new.ok
 ·rw [ub hb] at q;refine (ok b u q).stay (fun c v hc r=>?_) (fun c r=>by rw [ub (nown c b r)];exact r) fun c xs r=>by rw [ub (ntup c xs r)];exact r
  rcases hc with rfl | hc
  ·exact kk c v hb (by rw [q];exact fun z=>by cases z) r
  ·exact kk c v (nown c b hc) (by rw [hc];exact fun z=>by cases z) r
theorem Kp.un (k:Kp fs x To h h') (hT:∀ t,To=some t→H t=none) (mu:Mut (H x)):Un fs To.toList H (upd H x o) h h':=by
 have hx:∀ b,H b=none→b ≠ x:=fun b n z=>by subst z;rw [n] at mu;exact mu
 have hm:∀ b u,H b=some u→¬ Mut (some u)→b ≠ x:=fun b u q nm z=>by subst z;rw [q] at mu;exact nm mu
 refine ⟨fun b u q n n1 n2=>k.keep b u q n1 (hx b n) fun z=>n2 (by rw [← z];simp),fun b u q n n1 n2=>k.slot b u q n1,fun b u q n _=>by rw [ub (hx b n)];exact n,fun b u q _=>k.there b u q,
  fun b xs q=>by rw [ub (hm b _ q fun z=>z)];exact q,fun b u xs q=>by rw [ub (hm b _ q fun z=>z)];exact q,fun b ps q=>⟨#[],by rw [ub (hm b _ q fun z=>z),q];simp⟩⟩
end
noncomputable def CX1 (P:Program) (w:World):CXT:=fun outer H s E e s'=>
 ∃ x C od H' T,e=.ref x∧s'.os=s.os∧AllBare s'.gens∧Un (frs outer) [] H H' s.heap s'.heap∧HOk P w H' s'.heap∧H' x=some (.ext (XA x C od))∧s.heap.objs.size ≤ T∧H' T=none∧FlA x C od T .none s'.heap∧E (.ref C) od H'
theorem Un.less {fs fs' ex ex':List Addr} {H H':Hp} {h h':Heap} (u:Un fs ex H H' h h') (hs:∀ b o,h.get? b=some o→b ∈ fs→b ∈ fs') (hx:∀ b o,h.get? b=some o→b ∈ ex→b ∈ ex'):Un fs' ex' H H' h h':=
 ⟨fun b o q n n1 n2=>u.keep b o q n (fun z=>n1 (hs b o q z)) fun z=>n2 (hx b o q z),fun b o q n _ n2=>u.any q n fun z=>n2 (hx b o q z),fun b o q n n2=>u.free b o q n fun z=>n2 (hx b o q z),fun b o q n2=>u.there b o q fun z=>n2 (hx b o q z),u.tups,u.frzs,u.tbls⟩
structure Fr1 (X:Cx):Prop where
 st:X.stack=X.env :: X.outer
 fr:X.env.frame=some X.env.locals
noncomputable def ML (X:Cx) (pins:List (Addr × Obj)) (T:Addr):Prop:=(T ∈ X.ex∨X.s₀.heap.objs.size ≤ T)∧T ≠ X.env.locals∧(∀ x c,X.env.cells.lookup x=some c→c ≠ T)∧∀ p ∈ X.pn ++ pins,p.1 ≠ T
section
variable {X:Cx} {pins:List (Addr × Obj)} {σ:St} {H:Hp} {s:Shared} {T x C:Addr} {od:Option Addr} {E:St→XK} {M:Model} {A:Around} {E':Value→Shared→Prop} {Q:Unit→Shared→Prop} {e fl:Value} {h':Heap}
end
section
variable {P:Program} {w:World} {K:PySem.W.Frag} {mg:Str→Option Value} {base:Heap} {N:List Str} {qual:Str} {scope:Scope} {f:Addr} {cd:Value} {A:Around} {outer:List Env} {s:Shared} {H:Hp} {E:XK}
end
section
variable {X:Cx} {CX:CXT} {k:Nat} {f C:Addr} {fd:FuncData} {ps:List Str} {sp:Sp} {dvs:List V} {ds:List Value} {E:St→XK} {x m:Str} {p pos apos:Pos} {e o:Expr} {es:List Expr} {ta:TE} {t:TA}
end
noncomputable abbrev Cx.tr (X:Cx) (pn:List (Addr × Obj)) (E:Value→Shared→Prop):Cx:={ X with pn:=X.pn ++ pn,xe:=E }
noncomputable abbrev Cx.hn (X:Cx) (e:Value):Cx:={ X with A:=X.A.mark (some e),calm:=false,xe:=fun _ _=>False }
section
variable {X:Cx} {pins pins':List (Addr × Obj)} {σ:St} {H:Hp} {s:Shared} {E:Value→Shared→Prop} {e:Value}
theorem Cx.Ok.tr (ok:X.Ok) (pn:List (Addr × Obj)) (E:Value→Shared→Prop):(X.tr pn E).Ok:=
 ⟨ok.mod,ok.kind,ok.glob,ok.blt,ok.above,ok.inj,ok.has,ok.cab,ok.hd,ok.frames,ok.stk,ok.exf,ok.bs,ok.bsz,ok.noex,ok.exfs,ok.funs,ok.frf⟩
theorem Cx.Ok.hn (ok:X.Ok) (e:Value):(X.hn e).Ok:=
 ⟨ok.mod,ok.kind,ok.glob,ok.blt,ok.above,ok.inj,ok.has,ok.cab,(fun z=>Bool.noConfusion z),ok.frames,ok.stk,ok.exf,ok.bs,ok.bsz,ok.noex,ok.exfs,ok.funs,ok.frf⟩
theorem Inv.tr (I:Inv X pins σ H s) (E:Value→Shared→Prop):Inv (X.tr pins E) [] σ H s:=⟨I.ok.tr pins E,I.os,I.bare,I.base,I.loc,I.cell,I.free,I.freeC,fun p hp=>I.pin p (by simpa using hp),I.hok,I.len⟩
theorem Inv.hn (I:Inv X pins σ H s) (e:Value):Inv (X.hn e) pins σ H s:=⟨I.ok.hn e,I.os,I.bare,I.base,I.loc,I.cell,I.free,I.freeC,I.pin,I.hok,I.len⟩
end
noncomputable def yi.gone (D:yi) (i:Nat):yi:={ nx:=fun σ H=>D.nx (σ.set i none) H,rt:=D.rt,bk:=fun σ H=>D.bk (σ.set i none) H,ct:=fun σ H=>D.ct (σ.set i none) H }
section
variable {X:Cx} {body suite:List Stmt} {b0:Stmt} {x n:Str} {c:Addr} {i:Nat} {tb:(St→XK)→TS} {th:TS} {xp hp pos:Pos}
end
theorem RA (D:yi) (i:Nat) (σ:St) (H:Hp):(D.gone i).nx σ H=D.nx (σ.set i none) H:=rfl
theorem VA (D:yi) (i:Nat) (v:V) (H:Hp):(D.gone i).rt v H=D.rt v H:=rfl
theorem OwnTail.has {h:Heap} {bm tl:List Value} {v:Value} (T:OwnTail h bm tl) (e:bm.contains v=true):tl.contains v=true:=by
 induction T with
 | base=>exact e
 | own _ _ _ _ ih=>rw [List.contains_cons,ih,Bool.or_true]
section
variable {X:Cx} {e:Expr} {te:TE} {pos:Pos} {E:St→XK}
theorem PS.nox {X:Cx} {st:Stmt} {t:TS} (h:PS X.nox st t):PS X st t:=fun pins s σ H D I hw=>
 wpAny_mono (h pins s σ H D (I.wish _) hw) (fun _ _ q=>q.unwish) fun _ _ z=>False.elim z
end
noncomputable def xeB (B:Cx) (E:XK) (e:Value) (s':Shared):Prop:=
 ∃ pins fl σ' H' x C od T,e=.ref x∧Inv B pins σ' H' s'∧H' x=some (.ext (XA x C od))∧H' T=none∧ML B pins T∧B.s₀.heap.objs.size ≤ T∧FlA x C od T fl s'.heap∧E (.ref C) od H'
structure gL (X:Cx) (scope:Scope) (N:List Str) (tg elt:Expr) (ifs:List Expr) (g:TG) (tc:TT) (te:XK→TE):Prop where
 tgt:∀ E C s H fp,PG ((X.block scope C N s H fp).wish (xeB (X.block scope C N s H fp) E)) tg g
 tests:∀ E C s H fp,PTs ((X.block scope C N s H fp).wish (xeB (X.block scope C N s H fp) E)) ifs tc
 elem:∀ E C s H fp,PE ((X.block scope C N s H fp).wish (xeB (X.block scope C N s H fp) E)) elt (te E)
theorem gL.of {X:Cx} {scope:Scope} {N:List Str} {tg elt:Expr} {ifs:List Expr} {g:TG} {tc:TT} {te:XK→TE} (h1:∀ E C s H fp,PG ((X.block scope C N s H fp).wish (xeB (X.block scope C N s H fp) E)) tg g)
  (h2:∀ E C s H fp,∃ t,PTs ((X.block scope C N s H fp).wish (xeB (X.block scope C N s H fp) E)) ifs t∧t=tc) (h3:∀ E C s H fp,∃ t,PE ((X.block scope C N s H fp).wish (xeB (X.block scope C N s H fp) E)) elt t∧t=te E):gL X scope N tg elt ifs g tc te:=
 ⟨h1,fun E C s H fp=>by obtain ⟨t,h,rfl⟩:=h2 E C s H fp;exact h,fun E C s H fp=>by obtain ⟨t,h,e⟩:=h3 E C s H fp;rw [← e];exact h⟩
section
variable {X:Cx} {elt tg iter:Expr} {ifs:List Expr} {scope:Scope} {pos:Pos} {wi:TI} {g:TG} {tc:TT} {te:XK→TE} {N:List Str} {sel:List (Option Nat)}
theorem FlA.but {x C T c:Addr} {od:Option Addr} {fl:Value} {h h':Heap} (z:FlA x C od T fl h) (n1:x ≠ c) (n2:T ≠ c) (k:∀ b,b ≠ c→h'.get? b=h.get? b):FlA x C od T fl h':=by
 obtain ⟨ne,vs,sl,oT,ts,he,h1,hT,hd,h3⟩:=z;exact ⟨ne,vs,sl,oT,ts,(k _ n1).trans he,h1,(k _ n2).trans hT,hd,h3⟩
end
structure sL (K:PySem.W.Frag) (C:Addr):Prop where
 cl:Cls K C
 ha:PySem.W.findIn K (.ref C) "__class__"=some (some (.builtin "object.__class__"))
 hn:PySem.W.specialIn K (.builtin "object.__class__") "__get__"=some (some (.builtin "getset_descriptor.__get__"))
 htk:PySem.W.takesIn K (.builtin "object.__class__")=some true
 hm:PySem.W.mroIn K C (.type "object")=some true
theorem sL.ty {K:PySem.W.Frag} {H:Hp} {C a dx:Addr} {fs:List (Str × V)} (c:sL K C) (e:H a=some (.ins C dx fs)):Xy K H (.ref a) (.ref C):=.ins e c.cl c.ha c.hn c.htk c.hm
end L2
namespace L2
open PySem PySem.Spec PyProof.Rows
section
variable {X:Cx} {tg:Expr}
end
section
variable {prog:Program} {w:World} {A:Around} {E:Value→Shared→Prop} {s:Shared} {it l:Addr} {items:Array Value}
end
section
variable {X:Cx}
end
section
variable {prog:Program} {w:World} {A:Around} {R:Result→Shared→Prop} {I:Addr} {fp wr:List Addr} {n:Nat} {P:Nat→Value→Prop} {St:Nat→Heap→Prop}
noncomputable def cI (P:Nat→Value→Prop) (bt:Nat→Nat→Bool) (j:Nat) (acc:Array Value):Prop:=(j=0∧acc=#[])∨∃ vb i,j=i + 1∧acc=#[vb,vb]∧P (argBest bt i) vb
end
section
variable {prog:Program} {w:World} {A:Around} {E:Value→Shared→Prop} {s:Shared}
end
section
variable {X:Cx}
end
end L2
namespace L2
open PySem PySem.Spec PyProof.Rows
structure bM (K:PySem.W.Frag) (C:Addr):Prop where
 x:HL K C
 ha:PySem.W.findIn K (.ref C) "__class__"=some (some (.builtin "object.__class__"))
 hn:PySem.W.specialIn K (.builtin "object.__class__") "__get__"=some (some (.builtin "getset_descriptor.__get__"))
 htk:PySem.W.takesIn K (.builtin "object.__class__")=some true
 hm:PySem.W.mroIn K C (.type "object")=some true
section
variable {prog:Program} {w:World} {A:Around} {E:Value→Shared→Prop} {s:Shared} {K:PySem.W.Frag} {x C:Addr} {od:Obj} {dx:Addr} {vs:Array Value} {sl:Array (Option Value)}
end
section
variable {X:Cx}
end
theorem Kb.quiet {P:Program} {w:World} {K:PySem.W.Frag} {mg:Str→Option Value} {base:Heap} {k:Nat} {f:Addr} {fd:FuncData} {ps:List Str} {sp sp':Sp} (F:Kb P w K mg base (CX1 P w) k f fd ps sp)
  (h:∀ vs H Q E,sp' vs H Q E→sp vs H Q (fun _ _ _=>False)):Kb P w K mg base CX0 k f fd ps sp':=by
 refine ⟨fun vs H Q E q=>F.len vs H _ _ (h vs H Q E q),fun A outer s H args us vs Q E hr he hb hv hs=>?_⟩;refine codeAny_mono (F.run A outer s H args us vs Q _ hr he hb hv (h vs H Q E hs)) fun r s' hq=>?_
 cases r with
 | error e=>
  obtain ⟨x,C,od,H',T,_,_,_,_,_,_,_,_,_,z⟩:=hq;exact z.elim
 | ok fl=>cases fl <;> exact hq
end L2
namespace L2
open PySem PySem.Spec PyProof.Rows
structure dm (k:Nat) (A:Around):Prop where
 dp:A.depth + 3 * k + 5 < recursionLimit
 un:A.units + 16 * k + 200 < cLine
theorem Ai.h {k:Nat} {A:Around} (r:Ai k A):dm k A:=⟨r.dp,r.un⟩
theorem dm.mono {j k:Nat} {A:Around} (r:dm k A) (h:j ≤ k):dm j A:=⟨by have:=r.dp;omega,by have:=r.un;omega⟩
theorem dm.deeper {k:Nat} {A:Around} (r:dm (k + 1) A) (env:Env):dm k (A.deeper env):=
 ⟨by have:=r.dp;show A.depth + 1 + 3 * k + 5 < _;omega,by have:=r.un;show A.units + 3 + 16 * k + 200 < _;omega⟩
theorem dm.depth {k:Nat} {A:Around} (r:dm k A):A.depth < recursionLimit:=by have:=r.dp;omega
theorem dm.units {k:Nat} {A:Around} (r:dm k A):A.units + 64 < cLine:=by have:=r.un;omega
theorem Ai.hn {k:Nat} {X:Cx} {e:Value} (r:Ai k X.A):dm k (X.hn e).A:=⟨r.dp,r.un⟩
structure EH (P:Program) (w:World) (K:PySem.W.Frag) (mg:Str→Option Value) (base:Heap) (CX:CXT) (k:Nat) (f:Addr) (fd:FuncData) (ps:List Str) (sp:Sp):Prop where
 len:∀ vs H Q E,sp vs H Q E→vs.length=ps.length
 run:∀ (A:Around) (outer:List Env) (s:Shared) (H:Hp) (args:Args) (us:List Value) (vs:List V) (Q:VK) (E:XK),dm k A→jA P w K mg base A outer s H→BindsTo s fd args (ps.zip us)→Zc vs us→sp vs H Q E →
  codeAny (model P w) A (.call (.ref f) args) (CR CX outer P w H s Q E) s
theorem EH.mono {P:Program} {w:World} {K:PySem.W.Frag} {mg:Str→Option Value} {base:Heap} {CX:CXT} {j k:Nat} {f:Addr} {fd:FuncData} {ps:List Str} {sp:Sp} (F:EH P w K mg base CX j f fd ps sp) (h:j ≤ k) :
  EH P w K mg base CX k f fd ps sp:=⟨F.len,fun A outer s H args us vs Q E hr=>F.run A outer s H args us vs Q E (hr.mono h)⟩
section
variable {X:Cx} {CX:CXT} {k:Nat} {f C:Addr} {fd:FuncData} {ps:List Str} {sp:Sp} {dvs:List V} {ds:List Value} {E:XK} {x m:Str} {p pos apos:Pos} {e o:Expr} {es:List Expr} {ta:TE} {t:TA}
end
noncomputable def CK (CX:CXT) (P:Program) (w:World) (K:PySem.W.Frag) (mg:Str→Option Value) (base:Heap) (N:List Str) (qual:Str) (scope:Scope) (f:Addr) (cd:Value) (A:Around) (outer:List Env) (s:Shared) (H:Hp) (E:XK):Cx where
 prog:=P
 w:=w
 K:=K
 mg:=mg
 base:=base
 A:=A.deeper (envOfC qual scope s.heap.objs.size f cd)
 N:=N
 s₀:=s
 H₀:=H
 env:=envOfC qual scope s.heap.objs.size f cd
 outer:=outer
 stack:=envOfC qual scope s.heap.objs.size f cd :: outer
 ex:=[]
 calm:=false
 fn:=fun _=>true
 pn:=[]
 xe:=fun e s'=>wpAny (model P w) (A.deeper (envOfC qual scope s.heap.objs.size f cd)) (leaving (envOfC qual scope s.heap.objs.size f cd) e) (fun _ s''=>CX outer H s E e s'') (fun e' s''=>CX outer H s E e' s'') s'
section
variable {P:Program} {w:World} {K:PySem.W.Frag} {mg:Str→Option Value} {base:Heap}
end
end L2
namespace L2
open PySem PySem.Spec PyProof.Rows
section
variable {X:Cx}
end
end L2
namespace L2
open PySem PySem.Spec PyProof.Rows
section
variable {α:Type} {M:List α→Prop}
theorem us1 (h:∀ a,M [a]):∀ us:List α,us.length=1→M us | [a],_=>h a
theorem us2 (h:∀ a b,M [a,b]):∀ us:List α,us.length=2→M us | [a,b],_=>h a b
theorem us3 (h:∀ a b c,M [a,b,c]):∀ us:List α,us.length=3→M us | [a,b,c],_=>h a b c
theorem us4 (h:∀ a b c d,M [a,b,c,d]):∀ us:List α,us.length=4→M us | [a,b,c,d],_=>h a b c d
theorem us5 (h:∀ a b c d e,M [a,b,c,d,e]):∀ us:List α,us.length=5→M us | [a,b,c,d,e],_=>h a b c d e
theorem us7 (h:∀ a b c d e f g,M [a,b,c,d,e,f,g]):∀ us:List α,us.length=7→M us | [a,b,c,d,e,f,g],_=>h a b c d e f g
theorem us8 (h:∀ a b c d e f g i,M [a,b,c,d,e,f,g,i]):∀ us:List α,us.length=8→M us | [a,b,c,d,e,f,g,i],_=>h a b c d e f g i
end
structure XB (K:PySem.W.Frag) (C:Addr):Prop where
 hd:PySem.W.hasDictIn K C=true
 ov:((PySem.W.clsIn K C).any fun cd=>EG cd.mro)=true
 sa:PySem.W.findIn K (.ref C) "__setattr__"=some (some (.builtin "object.__setattr__"))
 ga:PySem.W.findIn K (.ref C) "__getattribute__"=some (some (.builtin "BaseException.__getattribute__"))
 gt:PySem.W.findIn K (.ref C) "__getattr__"=some none
structure IB (K:PySem.W.Frag) (C:Addr):Prop where
 ha:PySem.W.findIn K (.ref C) "__class__"=some (some (.builtin "object.__class__"))
 hn:PySem.W.specialIn K (.builtin "object.__class__") "__get__"=some (some (.builtin "getset_descriptor.__get__"))
 htk:PySem.W.takesIn K (.builtin "object.__class__")=some true
 hm:PySem.W.mroIn K C (.type "object")=some true
end L2
namespace L2
open PySem PySem.Spec PyProof.Rows
theorem ky {ks:List Int}:∀ {its:List Value},Zc (ks.map V.int) its→∃ xs:List (Int × Tok),its=xs.map (fun p=>Value.int p.1 p.2)∧xs.map (·.1)=ks:=by
 induction ks with
 | nil=>intro its r;cases r;exact ⟨[],rfl,rfl⟩
 | cons k ks ih=>
  intro its r;cases r with
  | cons h t=>
   obtain ⟨xs,e1,e2⟩:=ih t;obtain ⟨tk,rfl⟩:=(show ∃ t,_=Value.int k t from h);exact ⟨(k,tk) :: xs,by rw [List.map_cons,← e1],by rw [List.map_cons,e2]⟩
section
variable {X:Cx}
end
end L2
namespace L2
open PySem PySem.Spec PyProof.Rows
noncomputable def aJ (p d:Addr):Heap→Prop:=fun h=>PySem.W.KdlKeysView h p d
noncomputable def PK (p d:Addr):Heap→Prop:=fun h=>h.IsValuesView p d
theorem aJ.ok {P:Program} {w:World} {H:Hp} {h:Heap} {p d:Addr} (z:aJ p d h):Kd P w H h p (.ext (aJ p d)):=
 ⟨z,let ⟨o,ho,_⟩:=z;⟨o,ho⟩,fun _ _ z1 k=>let ⟨o,ho,x⟩:=z1;⟨o,k o ho,x⟩⟩
theorem PK.ok {P:Program} {w:World} {H:Hp} {h:Heap} {p d:Addr} (z:PK p d h):Kd P w H h p (.ext (PK p d)):=
 ⟨z,let ⟨o,ho,_⟩:=z;⟨o,ho⟩,fun _ _ z1 k=>let ⟨o,ho,x⟩:=z1;⟨o,k o ho,x⟩⟩
section
variable {X:Cx}
noncomputable def Ws:V→List V→Hp→VK→Prop:=fun x vs H Q=>∃ d kvs,x=.ref d∧vs=[]∧H d=some (.dK kvs)∧∀ p,H p=none→Q (.ref p) (upd H p (.ext (aJ p d)))
end
end L2
namespace L2
open PySem PySem.Spec PyProof.Rows
noncomputable abbrev TF:=St→Hp→Str→(Str→Hp→Prop)→Prop
section
variable {X:Cx} {e:Expr} {es:List Expr} {t:TF} {te:TE} {pos:Pos}
end
end L2
namespace L2
open PySem PySem.Spec PyProof.Rows
noncomputable def HK (p:Addr) (a b c:Int):Heap→Prop:=fun h=>∃ t u v,IsRange h p a b c t u v
theorem HK.ok {P:Program} {w:World} {H:Hp} {h:Heap} {p:Addr} {a b c:Int} (z:HK p a b c h):Kd P w H h p (.ext (HK p a b c)):=
 ⟨z,let ⟨_,_,_,e⟩:=z;⟨_,e⟩,fun _ _ z1 k=>let ⟨t,u,v,e⟩:=z1;⟨t,u,v,k _ e⟩⟩
section
variable {X:Cx}
end
end L2
namespace L2
open PySem PySem.Spec PyProof.Rows
noncomputable def IL (c:Addr) (qual:Str):Heap→Prop:=fun h=>h.CodeRec (.ref c) qual
noncomputable def Tab (H:Hp) (Pt:Addr) (pos:Pos) (qual:Str):Prop:=
 ∃ ps,H Pt=some (.tbl ps)∧(ps=#[]∨∃ c',ps=#[rawInt pos.line,rawInt pos.col,.ref c']∧H c'=some (.ext (IL c' qual)))
noncomputable def Bt (Pt:Addr) (H H':Hp):Prop:=∀ b o,b ≠ Pt→H b=some o→H' b=some o
theorem Bt.refl (Pt:Addr) (H:Hp):Bt Pt H H:=fun _ _ _ h=>h
theorem Bt.trans {Pt:Addr} {H H1 H2:Hp} (a:Bt Pt H H1) (b:Bt Pt H1 H2):Bt Pt H H2:=fun c o n h=>b c o n (a c o n h)
theorem Mb.p {Pt:Addr} {H H':Hp} (s:Mb H H'):Bt Pt H H':=fun b o _ h=>s b o h
theorem Tab.ne {H:Hp} {Pt b:Addr} {pos:Pos} {qual:Str} {o:HO} (t:Tab H Pt pos qual) (h:H b=some o) (ho:∀ ps,o ≠ .tbl ps):b ≠ Pt:=fun e=>by
 obtain ⟨ps,e1,_⟩:=t;subst e;rw [e1] at h;exact ho ps (Option.some.inj h).symm
theorem Tab.step {H H':Hp} {Pt:Addr} {pos:Pos} {qual:Str} (t:Tab H Pt pos qual) (s:Mb H H'):Tab H' Pt pos qual:=by
 obtain ⟨ps,e,d⟩:=t;refine ⟨ps,s _ _ e,?_⟩;rcases d with d | ⟨c',d,e'⟩
 ·exact .inl d
 ·exact .inr ⟨c',d,s _ _ e'⟩
structure cM (X:Cx) (c Pt:Addr):Prop where
 code:X.env.code=.ref c
 hd:PySem.W.CodeHd X.base c Pt
 bm:X.base.BuiltinsAt X.mg Pt
section
variable {X:Cx} {pins:List (Addr × Obj)} {σ:St} {H:Hp} {s:Shared} {params:Arguments} {body:Expr} {scope:Scope} {pos:Pos} {c Pt:Addr} {clos:List (Str × Addr)} {Q:Value→Shared→Prop}
end
section
variable {P:Program} {w:World} {K:PySem.W.Frag} {mg:Str→Option Value} {base:Heap}
end
structure dM (p y:Str) (sc:Scope):Prop where
 kind:sc.kind=.function
 co:sc.isCoroutine=false
 gen:sc.isGenerator=false
 ne:p ≠ y
 par:sc.names.lookup p=some .local
 yf:sc.names.lookup y=some .free
 nocell:∀ z ∈ sc.names,z.2 ≠ .cell
 one:∀ z ∈ sc.names,z.2=.free→z.1=y
section
variable {X:Cx} {pins:List (Addr × Obj)} {σ:St} {H:Hp} {s:Shared} {k:Nat} {f c' cl:Addr} {q p y:Str} {params:Arguments} {body:Expr} {scope:Scope} {v:V} {t:TE}
end
end L2
namespace L2
open PySem PySem.Spec PyProof.Rows
end L2
namespace L2
open PySem PySem.Spec PyProof.Rows
section
variable {P:Program} {w:World} {A:Around} {E:Value→Shared→Prop} {s:Shared}
structure nF (h:Heap) (d:Addr) (o:Obj) (es:Array DictEntry) (ep:Nat):Prop where
 at_:h.get? d=some o
 ex:o.ExactDict
 dat:o.data=.dict es ep
theorem WB {d:Addr} {o:Obj} {es:Array DictEntry} {ep:Nat} (r:nF s.heap d o es ep):s.TypeIs (.ref d) "dict" := ⟨o,r.at_,r.ex.1⟩
theorem Zz {d:Addr} {o:Obj} {es:Array DictEntry} {ep:Nat} {Q:Value→Shared→Prop} (hd:(d == sysModules)=false) (r:nF s.heap d o es ep)
  (hQ:Q (.ref s.heap.objs.size) { s with heap:=s.heap.push { cls:=.type "dict_keyiterator",data:=.fields #[.ref d,.int 0 0,.int es.size 0,.int ep 0] } }) :
  wpAny (model P w) A (pyIter (.ref d)) Q E s:=by
 have hT:=WB r;refine wpAny_pyIter_slot hT F.slot_dict_iter (wpAny_call_entry F.slot_dict_iter hT F.entry_dict_iter ?_ (F.args_dict_iter_1 _));unfold Builtin.«dict.__iter__» Builtin.Dict.dictSlotNone;refine wpAny_bind (wpAny_bind (wpAny_notOrdered_dict hT (wpAny_pure ?_)));show wpAny _ _ (Builtin.Dict.showsAll d >>= _) _ _ s;unfold Builtin.Dict.showsAll;rw [if_neg (by rw [hd];exact Bool.false_ne_true)];refine wpAny_bind (wpAny_pure (wpAny_bind (wpAny_dictEntries r.at_ r.dat (wpAny_bind (wpAny_dictEpoch r.at_ r.dat ?_)))));refine wpAny_bind (wpAny_newObj_type (wpAny_pure ⟨_,rfl,"dict_keyiterator",_,⟨_,Heap.get?_push_size _ rfl,rfl⟩,F.slot_dict_keyiterator_next.lookup,?_⟩));simpa [rawInt] using hQ
theorem qC {it d:Addr} {o:Obj} {i ep:Nat} {es:Array DictEntry} {e:DictEntry} {Q:Option Value→Shared→Prop} (hit:s.heap.IsKeyIter it d i es.size ep) (r:nF s.heap d o es ep) (hx:es[i]? = some e)
  (hQ:∀ h',h'.IsKeyIter it d (i + 1) es.size ep→Heap.SameBut it s.heap h'→Q (some e.key) { s with heap:=h' }):wpAny (model P w) A (pyNext (.ref it)) Q E s:=by
 obtain ⟨oi,ho,hc,hd⟩:=id hit;have hown:Builtin.Dict_items.ownsTuple "dict_keyiterator"=false:=by decide
 have hlt:i < es.size:=by
  rcases Nat.lt_or_ge i es.size with h | h
  ·exact h
  ·rw [Array.getElem?_eq_none h] at hx;cases hx
 unfold pyNext;refine wpAny_bind (wpAny_attempt (wpAny_callSpecial?_slot (name:=Str.ofString "__next__") hit.typeIs F.slot_dict_keyiterator_next
  (wpAny_call_entry F.slot_dict_keyiterator_next hit.typeIs F.entry_dict_keyiterator_next ?_ (F.args_dict_keyiterator_next_1 _))))
 refine wpAny_bind (wpAny_pure (wpAny_bind (wpAny_bind ?_)))
 first | refine wpAny_bind (wpAny_typeNameOfWhole_keyiter hit.typeIs (wpAny_pure ?_)) | refine wpAny_bind (wpAny_typeNameOf_keyiter hit.typeIs (wpAny_pure ?_))
 refine wpAny_bind (wpAny_fieldsOf ho hd ?_);simp only [hown,Bool.false_eq_true,if_false];show wpAny _ _ (if (Value.ref d == Value.none)=true then _ else _) _ _ s;rw [if_neg (show ¬ ((Value.ref d == Value.none)=true) from Bool.false_ne_true)];refine wpAny_bind (wpAny_pure (wpAny_bind (wpAny_dictEntries r.at_ r.dat ?_)));rw [if_neg (by simp)];refine wpAny_bind (wpAny_pure (wpAny_bind (wpAny_dictEpoch r.at_ r.dat ?_)));rw [if_neg (by simp)];refine wpAny_pure ?_;simp only [show ¬ ((i:Int) < 0) from by omega,if_false,Int.toNat_natCast,hx];refine wpAny_bind ?_
 first | refine wpAny_bind (wpAny_typeNameOfWhole_keyiter hit.typeIs (wpAny_pure ?_)) | refine wpAny_bind (wpAny_typeNameOf_keyiter hit.typeIs (wpAny_pure ?_))
 refine wpAny_bind (wpAny_isOneOf_keyiter hit.typeIs ?_);show wpAny _ _ (setField (.ref it) 1 (rawInt ((i:Int) + 1)) >>= _) _ _ s;refine wpAny_bind (wpAny_setField ho hd (by simp) ?_);have hit':(s.heap.update it (Obj.mapFields (·.setIfInBounds 1 (rawInt ((i:Int) + 1))))).IsKeyIter it d (i + 1) es.size ep:=
  ⟨_,Heap.get?_update_self _ ho (Obj.isFreed_of_fields (Obj.data_mapFields hd _)),(Obj.cls_mapFields ..).trans hc,by rw [Obj.data_mapFields hd];simp [rawInt]⟩
 refine wpAny_bind (wpAny_holding (wpAny_bind (wpAny_isOneOf_keyiter (s:={ s with heap:=s.heap.update it (Obj.mapFields (·.setIfInBounds 1 (rawInt ((i:Int) + 1)))) }) hit'.typeIs ?_)));show wpAny _ _ (pure e.key) _ _ _;exact wpAny_pure (wpAny_pure ⟨_,rfl,wpAny_pure (hQ _ hit' (Heap.SameBut.update ..))⟩)
theorem CD {it d:Addr} {o:Obj} {i ep:Nat} {es:Array DictEntry} {Q:Option Value→Shared→Prop} (hh:A.handled=none) (hit:s.heap.IsKeyIter it d i es.size ep) (r:nF s.heap d o es ep) (hx:es.size ≤ i)
  (hQ:∀ h',Heap.ExtBut it s.heap h'→Q none { s with heap:=h' }):wpAny (model P w) A (pyNext (.ref it)) Q E s:=by
 obtain ⟨oi,ho,hc,hd⟩:=id hit;have hown:Builtin.Dict_items.ownsTuple "dict_keyiterator"=false:=by decide
 unfold pyNext;refine wpAny_bind (wpAny_attempt (wpAny_callSpecial?_slot (name:=Str.ofString "__next__") hit.typeIs F.slot_dict_keyiterator_next
  (wpAny_call_entry F.slot_dict_keyiterator_next hit.typeIs F.entry_dict_keyiterator_next ?_ (F.args_dict_keyiterator_next_1 _))))
 refine wpAny_bind (wpAny_pure (wpAny_bind (wpAny_bind ?_)))
 first | refine wpAny_bind (wpAny_typeNameOfWhole_keyiter hit.typeIs (wpAny_pure ?_)) | refine wpAny_bind (wpAny_typeNameOf_keyiter hit.typeIs (wpAny_pure ?_))
 refine wpAny_bind (wpAny_fieldsOf ho hd ?_);simp only [hown,Bool.false_eq_true,if_false];show wpAny _ _ (if (Value.ref d == Value.none)=true then _ else _) _ _ s;rw [if_neg (show ¬ ((Value.ref d == Value.none)=true) from Bool.false_ne_true)];refine wpAny_bind (wpAny_pure (wpAny_bind (wpAny_dictEntries r.at_ r.dat ?_)));rw [if_neg (by simp)];refine wpAny_bind (wpAny_pure (wpAny_bind (wpAny_dictEpoch r.at_ r.dat ?_)));rw [if_neg (by simp)];refine wpAny_pure ?_;simp only [show ¬ ((i:Int) < 0) from by omega,if_false,Int.toNat_natCast,Array.getElem?_eq_none hx];refine wpAny_bind ?_
 first | refine wpAny_bind (wpAny_typeNameOfWhole_keyiter hit.typeIs (wpAny_pure ?_)) | refine wpAny_bind (wpAny_typeNameOf_keyiter hit.typeIs (wpAny_pure ?_))
 show wpAny _ _ (setField (.ref it) 0 .none >>= _) _ _ s;refine wpAny_bind (wpAny_setField ho hd (by simp) ?_);show wpAny _ _ (newExc (.type "StopIteration") [] >>= _) _ _ _;refine wpAny_bind ?_;simp only [newExc,newTuple];refine wpAny_bind (wpAny_newObj_type ?_ (by size_fits));refine wpAny_bind (m:=firstArgMember _ _) (wpAny_of_eq (a:=Value.none) (by first | rfl | (simp only [firstArgMember];rfl)) ?_);refine wpAny_newObj_type ?_ (by size_fits);simp only [raiseNew];refine wpAny_bind (wpAny_handled ?_);rw [show A.in1.handled=none from hh];refine wpAny_bind (wpAny_pure (wpAny_throw ?_));refine wpAny_bind (wpAny_isInstance (T := "StopIteration") (b:=true) ⟨_,Heap.get?_push_size _ rfl,rfl⟩ isSubtype_stop ?_);exact wpAny_pure (hQ _ (((Heap.SameBut.update ..).extBut.push _).push _))
end
noncomputable def AtO (a:Addr) (o:Obj):Heap→Prop:=fun h=>h.get? a=some o
theorem Az {α β:Type} {F:α→β→Prop} {l₁:List α} {l₂:List β} (r:Paired F l₁ l₂):∀ {i:Nat} {a:α},l₁[i]? = some a→∃ b,l₂[i]? = some b∧F a b:=by
 induction r with
 | nil=>intro i a e;cases e
 | cons h _ ih=>
  intro i a e;cases i with
  | zero=>cases e;exact ⟨_,rfl,h⟩
  | succ j=>exact ih (by simpa using e)
theorem wn {α β:Type} {F:α→β→Prop} {l₁:List α} {l₂:List β} (r:Paired F l₁ l₂):l₁.length=l₂.length:=by
 induction r with
 | nil=>rfl
 | cons _ _ ih=>simp [ih]
structure UJ (P:Program) (w:World) (H:Hp) (a:Addr) (kvs:List (List Key × V)) (o:Obj) (es:Array DictEntry) (ep:Nat) (xs:List (List Key × Addr × Value)):Prop where
 at_:H a=some (.ext (AtO a o))
 ex:o.ExactDict
 dat:o.data=.dict es ep
 ent:es.toList=xs.map (entryOfKey (tupleKind (Nd P w)))
 nd:(xs.map (·.1)).Nodup
 ks:Paired (fun (p:List Key × V) (q:List Key × Addr × Value)=>p.1=q.1∧H q.2.1=some (.tup (p.1.map kV))∧ad p.2 q.2.2) kvs xs
 sz:kvs.length ≤ sizeLine
 ns:(a == sysModules)=false
noncomputable def vk (P:Program) (w:World) (H:Hp) (a:Addr) (kvs:List (List Key × V)):Prop:=∃ o es ep xs,UJ P w H a kvs o es ep xs
section
variable {P:Program} {w:World} {H H':Hp} {h:Heap} {a:Addr} {kvs:List (List Key × V)}
theorem Ib (d:vk P w H a kvs) (s:Mb H H'):vk P w H' a kvs:=by
 obtain ⟨o,es,ep,xs,r⟩:=d;exact ⟨o,es,ep,xs,s _ _ r.at_,r.ex,r.dat,r.ent,r.nd,Paired.mapP r.ks fun p q z=>⟨z.1,s _ _ z.2.1,z.2.2⟩,r.sz,r.ns⟩
theorem nE {p:Addr} {u:HO} (d:vk P w H a kvs) (hp:p ≠ a) (ht:∀ xs,H p ≠ some (.tup xs)):vk P w (upd H p u) a kvs:=by
 obtain ⟨o,es,ep,xs,r⟩:=d;exact ⟨o,es,ep,xs,by rw [ub (Ne.symm hp)];exact r.at_,r.ex,r.dat,r.ent,r.nd,Paired.mapP r.ks fun q q' z=>⟨z.1,by rw [ub (fun e=>ht _ (e ▸ z.2.1))];exact z.2.1,z.2.2⟩,r.sz,r.ns⟩
theorem cn {o:Obj} {es:Array DictEntry} {ep:Nat} {xs:List (List Key × Addr × Value)} (ok:HOk P w H h) (r:UJ P w H a kvs o es ep xs):nF h a o es ep:=
 ⟨(ok a _ r.at_).1,r.ex,r.dat⟩
theorem UB (ok:HOk P w H h) (d:vk P w H a kvs):Mut (H a)∧(∃ u,h.get? a=some u)∧Kd P w (upd H a (.dT kvs)) h a (.dT kvs):=by
 obtain ⟨o,es,ep,xs,r⟩:=d;have e:=(cn ok r).at_;refine ⟨by rw [r.at_];exact True.intro,⟨o,e⟩,r.sz,r.ns,xs,Paired.mapP r.ks fun q q' z=>⟨z.1,?_,z.2.2⟩,o,es,ep,e,r.ex,r.dat,r.ent,r.nd⟩;rw [ub (fun e=>by have:=z.2.1;rw [e,r.at_] at this;cases this)];exact z.2.1
theorem Ms (ok:HOk P w H h) (d:vk P w H a kvs):HOk P w (upd H a (.dT kvs)) h:=
 have z:=UB ok d
 ok.write z.1 (.inl rfl) (fun _ _ _ q=>q) z.2.1 z.2.2
theorem fH {b:Addr} {xs:List V} (d:vk P w H a kvs) (e:H b=some (.tup xs)):b ≠ a:=fun z=>by
 obtain ⟨o,es,ep,ys,r⟩:=d;have:=r.at_;rw [← z,e] at this;cases this
end
section
variable {X:Cx} {pins:List (Addr × Obj)} {σ:St} {H:Hp} {s:Shared} {a b:Addr} {kvs:List (List Key × V)} {k:List Key} {v:V} {r:Value} {A:Around} {E:Value→Shared→Prop}
theorem Bw {o':HO} (I:Inv X pins σ H s) (mu:Mut (H a)) (ex:∃ u,s.heap.get? a=some u) (new:Kd X.prog X.w (upd H a o') s.heap a o'):Inv X pins σ (upd H a o') s:=
 I.un (t':=s.toks) (h':=s.heap) (Un.write mu (.inl rfl) (fun _ _ _ q=>q) ex) (I.hok.write mu (.inl rfl) (fun _ _ _ q=>q) ex new)
theorem RC (I:Inv X pins σ H s) (d:vk X.prog X.w H a kvs):Inv X pins σ (upd H a (.dT kvs)) s:=
 have z:=UB I.hok d
 Bw I z.1 z.2.1 z.2.2
theorem aw (I:Inv X pins σ H s) (e:H a=some (.dT kvs)):∃ o,Inv X pins σ (upd H a (.ext (AtO a o))) s∧vk X.prog X.w (upd H a (.ext (AtO a o))) a kvs:=by
 obtain ⟨z,y,xs,r,o,es,ep,h1,h2,h3,h4,h5⟩:=(show Kd X.prog X.w H s.heap a (.dT kvs) from I.hok a _ e);refine ⟨o,Bw I (by rw [e];exact True.intro) ⟨o,h1⟩ ⟨h1,⟨o,h1⟩,fun _ _ q k=>k o q⟩,o,es,ep,xs,db ..,h2,h3,h4,h5,Paired.mapP r fun p q z=>⟨z.1,?_,z.2.2⟩,z,y⟩;rw [ub (fun q=>by have:=z.2.1;rw [q,e] at this;cases this)];exact z.2.1
theorem IJ {Q:Value→Shared→Prop} (hu:A.units + 1 < cLine) (I:Inv X pins σ H s) (d:vk X.prog X.w H a kvs) (eb:H b=some (.tup (k.map kV))) (l:Qj kvs k=some v) (h:∀ w' s',Inv X pins σ H s'→ad v w'→Q w' s') :
  wpAny (model X.prog X.w) A (getItem (.ref a) (.ref b)) Q E s:=by
 obtain ⟨z,hd,xs,rel,dd⟩:=gH (Ms I.hok d) (db ..);obtain ⟨w',hw,rw'⟩:=Vp.some_of (v:=v) (o:=(atKey xs k).map (·.2)) (by rw [← l];exact rel.val k);obtain ⟨p,hp,hp2⟩:=Option.map_eq_some_iff.mp hw;refine wpAny_getItem_heap (tupleKind_room_in1 hu) (Hn I.hok eb) dd hp ?_;rw [hp2];exact h w' _ (I.tok _) rw'
theorem zK {Q:Value→Shared→Prop} (hu:A.units + 1 < cLine) (I:Inv X pins σ H s) (d:vk X.prog X.w H a kvs) (eb:H b=some (.tup (k.map kV))) (h:∀ s',Inv X pins σ H s'→Q (.bool (Qj kvs k).isSome) s') :
  wpAny (model X.prog X.w) A (compareOp .In (.ref b) (.ref a)) Q E s:=by
 obtain ⟨z,hd,xs,rel,dd⟩:=gH (Ms I.hok d) (db ..);refine wpAny_in_heap (tupleKind_room_in1 hu) (Hn I.hok eb) hd dd ?_;have q:=(rel.val k).isSome_eq;rw [Option.isSome_map] at q;rw [← q];exact h _ (I.tok _)
theorem nI {Q:Unit→Shared→Prop} (hu:A.units + 1 < cLine) (I:Inv X pins σ H s) (d:vk X.prog X.w H a kvs) (eb:H b=some (.tup (k.map kV))) (hl:kvs.length < sizeLine) (rv:ad v r)
  (h:∀ o s',Inv X pins σ (upd H a (.ext (AtO a o))) s'→vk X.prog X.w (upd H a (.ext (AtO a o))) a (Uo kvs k v)→Q () s'):wpAny (model X.prog X.w) A (setItem (.ref a) (.ref b) r) Q E s:=by
 refine Ys hu (RC I d) (vD.t (db ..) (by rw [ub (fH d eb)];exact eb) hl) (show ad (.ref b) (.ref b) from rfl) rv fun s' I'=>?_
 rw [Jk] at I';obtain ⟨o,I2,d2⟩:=aw I' (db ..);rw [Jk] at I2 d2;exact h o s' I2 d2
end
noncomputable def DI (P:Program) (w:World) (td ty:TE):TE:=fun σ H Q=>td σ H fun x H1=>ty σ H1 fun y H2=>∃ a b kvs k v,x=.ref a∧y=.ref b∧vk P w H2 a kvs∧H2 b=some (.tup (k.map kV))∧Qj kvs k=some v∧Q v H2
noncomputable def vL (P:Program) (w:World) (ty td:TE):TE:=fun σ H Q=>ty σ H fun y H1=>td σ H1 fun x H2=>∃ a b kvs k,x=.ref a∧y=.ref b∧vk P w H2 a kvs∧H2 b=some (.tup (k.map kV))∧Q (.bl (Qj kvs k).isSome) H2
noncomputable def YI (P:Program) (w:World) (td ty tv:TE):TS:=fun D σ H=>tv σ H fun v H1=>td σ H1 fun x H2=>ty σ H2 fun y H3=>∃ a b kvs k,x=.ref a∧y=.ref b∧vk P w H3 a kvs∧H3 b=some (.tup (k.map kV))∧kvs.length < sizeLine∧∀ o,vk P w (upd H3 a (.ext (AtO a o))) a (Uo kvs k v)→D.nx σ (upd H3 a (.ext (AtO a o)))
noncomputable def JJ (P:Program) (w:World):TE:=fun _ H Q=>∀ p o,H p=none→vk P w (upd H p (.ext (AtO p o))) p []→Q (.ref p) (upd H p (.ext (AtO p o)))
section
variable {X:Cx} {o i e value:Expr} {pos pos' tpos:Pos} {td ty tv:TE}
theorem Vz (hu:X.A.units + 1 < cLine) (ho:PE X o td) (hi:PE X i ty) (hs:qK i):PE X (.Subscript o i pos) (DI X.prog X.w td ty):=by
 intro pins s σ H Q I h;refine ZB PySem.F.slot_dict_getitem.lookup hs (thn (ho pins s σ H _ I h) fun u s1 ⟨x,H1,I1,rx,q1⟩=>thn (hi pins s1 σ H1 _ I1 q1) fun iv s2 hZ1=>?_);obtain ⟨y,H2,I2,ry,a,b,kvs,k,v,ex,ey,d,eb,l,q2⟩:=hZ1;subst ex ey;obtain rfl:u=Value.ref a:=rx;obtain rfl:iv=Value.ref b:=ry;refine ⟨?_,IJ hu I2 d eb l fun w' s3 I3 rw'=>⟨v,H2,I3,rw',q2⟩⟩;obtain ⟨ob,es,ep,xs,r⟩:=d;exact WB (cn I2.hok r)
theorem Yp (hu:X.A.units + 1 < cLine) (hi:PE X i ty) (ho:PE X o td):PC X .In i o (vL X.prog X.w ty td):=by
 intro pins s σ H Q I h;refine thn (hi pins s σ H _ I h) fun iv s1 ⟨y,H1,I1,ry,q1⟩=>thn (ho pins s1 σ H1 _ I1 q1) fun u s2 hZ1=>?_
 obtain ⟨x,H2,I2,rx,a,b,kvs,k,ex,ey,d,eb,q2⟩:=hZ1;subst ex ey;obtain rfl:u=Value.ref a:=rx;obtain rfl:iv=Value.ref b:=ry;exact zK hu I2 d eb fun s3 I3=>⟨.bl (Qj kvs k).isSome,H2,I3,rfl,q2⟩
theorem Eu (hu:X.A.units + 1 < cLine) (ho:PE X o td) (hi:PE X i ty) (hv:PE X value tv) (hs:swapsWith value (some (.Subscript o i pos')) pos.line X.env=pure false) :
  PS X (.Assign [.Subscript o i pos'] value pos) (YI X.prog X.w td ty tv):=by
 intro pins s σ H D I h;refine wpAny_Assign_Subscript (thn (hv pins s σ H _ I h) fun r s1 ⟨v,H1,I1,rv,q1⟩=>thn (ho pins s1 σ H1 _ I1 q1) fun u s2 ⟨x,H2,I2,rx,q2⟩=>thn (hi pins s2 σ H2 _ I2 q2) fun iv s3 hZ1=>?_) hs;obtain ⟨y,H3,I3,ry,a,b,kvs,k,ex,ey,d,eb,hl,q3⟩:=hZ1;subst ex ey;obtain rfl:u=Value.ref a:=rx;obtain rfl:iv=Value.ref b:=ry;exact nI hu I3 d eb hl rv fun ob s4 I4 d4=>⟨σ,_,I4,q3 ob d4⟩
theorem oA:PE X (.Dict [] [] pos) (JJ X.prog X.w):=fun pins s σ H Q I h=>by
 refine thn (VD pins s σ H (fun x H1=>∃ p,x=.ref p∧H p=none∧H1=upd H p (.dT [])) I fun p hp=>⟨p,rfl,hp,rfl⟩) fun v s1 hZ1=>?_
 obtain ⟨x,H1,I1,r1,p,ex,hp,eH⟩:=hZ1;subst ex eH;obtain ⟨o,I2,d2⟩:=aw I1 (db ..);rw [Jk] at I2 d2;exact ⟨.ref p,_,I2,r1,h p o hp d2⟩
end
noncomputable def Itk (d:Addr) (o:Obj) (kvs:List (List Key × V)) (xs:List (List Key × Addr × Value)):It:=
 ⟨fun i H=>H d=some (.ext (AtO d o))∧i < kvs.length,fun i H x H'=>H'=H∧∃ k b u,xs[i]? = some (k,b,u)∧x=.ref b,fun i H=>H d=some (.ext (AtO d o))∧kvs.length ≤ i⟩
theorem vE {P:Program} {w:World} {K:PySem.W.Frag} {tg:Expr} {d it:Addr} {o:Obj} {es:Array DictEntry} {ep:Nat} {kvs:List (List Key × V)} {xs:List (List Key × Addr × Value)} (ex:o.ExactDict) (ho:o.data=.dict es ep)
  (ent:es.toList=xs.map (entryOfKey (tupleKind (Nd P w)))) (hl:kvs.length=xs.length):EE P w K tg (Itk d o kvs xs) [it] it (fun i h=>h.IsKeyIter it d i es.size ep) where
 mem:=by simp
 obj:=fun i h st b hb=>by
  have e:b=it:=by simpa using hb
  subst e;obtain ⟨o,e,c,d⟩:=st;exact ⟨o,e,fun v z=>by rw [d] at z;cases z⟩
 keep:=fun i h h' st k=>st.at fun o e=>k it (by simp) o e
 item:=by
  intro X hP hw hK hc i pins s σ H E I hf st hg;subst hP hw hK;obtain ⟨hq,hx⟩:=hg;have r:nF s.heap d o es ep:=⟨(I.hok d _ hq).1,ex,ho⟩;obtain ⟨f0,f1,f2,f3,f4,f5⟩:=hf it (by simp);obtain ⟨q,hq2⟩:∃ q,xs[i]? = some q:=⟨_,List.getElem?_eq_getElem (by omega)⟩;refine qC st r (e:=entryOfKey (tupleKind (Nd X.prog X.w)) q) (by rw [entry_at ent,hq2];rfl) fun h' st' sb=>?_
  have I1:Inv X pins σ H { s with heap:=h' }:=I.turned (t':=s.toks) (fun b o hb e=>(sb.2 b hb).trans e) f0 f1 f3 f4 f5;obtain ⟨o2,e,c,dd⟩:=id st';exact ⟨_,rfl,xD (s:={ s with heap:=h' }) e c dd (by decide) ⟨.ref q.2.1,H,I1,rfl,⟨rfl,q.1,q.2.1,q.2.2,hq2,rfl⟩,st',fun b hb=>(hf b hb).1⟩⟩
 done:=by
  intro X hP hw hK hc i pins s σ H E I hf st hg;subst hP hw hK;obtain ⟨hq,hx⟩:=hg;have r:nF s.heap d o es ep:=⟨(I.hok d _ hq).1,ex,ho⟩;obtain ⟨f0,f1,f2,f3,f4,f5⟩:=hf it (by simp);have hz:es.size=xs.length:=size_of_entries ent;exact CD (I.ok.hd hc) st r (by omega) fun h' eb=>⟨rfl,I.turned (t':=s.toks) (fun b o hb e=>eb b o hb e) f0 f1 f3 f4 f5⟩
 self:=fun _ _ _ _ _ st h=>wpAny_pyIter_keyiter st h
section
variable {X:Cx} {tg:Expr}
noncomputable def ZK (P:Program) (w:World) (tl:TE):TI:=fun σ H R=>tl σ H fun x H1=>∃ d kvs,x=.ref d∧vk P w H1 d kvs∧∀ o es ep xs,UJ P w H1 d kvs o es ep xs→R (Itk d o kvs xs) H1
theorem kA {l:Expr} {tl:TE} (hl:PE X l tl):PI X tg l (ZK X.prog X.w tl):=by
 intro pins s σ H R I h;refine thn (hl pins s σ H _ I h) fun v s1 hZ1=>?_
 obtain ⟨x,H1,I1,r1,q1⟩:=hZ1;obtain ⟨d,kvs,e,⟨o,es,ep,xs,r⟩,q⟩:=q1;subst e;cases r1;refine Zz r.ns (cn I1.hok r) ?_;refine ⟨s1.heap.objs.size,[s1.heap.objs.size],_,_,_,rfl,I1.kept (t':=s1.toks) fun b o e=>Heap.get?_push_of_some _ e,vE r.ex r.dat r.ent (wn r.ks),⟨_,Heap.get?_push_size _ rfl,rfl,rfl⟩,fun b hb=>?_,q o es ep xs r⟩;have e:b=s1.heap.objs.size:=by simpa using hb
 subst e;exact I1.fpOk (Nat.le_refl _) (I1.hok.fresh (Nat.le_refl _))
end
end L2
namespace L2
open PySem PySem.Spec PyProof.Rows
noncomputable def ZJ (p d:Addr):Heap→Prop:=fun h=>h.IsItemsView p d
theorem ZJ.ok {P:Program} {w:World} {H:Hp} {h:Heap} {p d:Addr} (z:ZJ p d h):Kd P w H h p (.ext (ZJ p d)):=
 ⟨z,let ⟨o,ho,_⟩:=z;⟨o,ho⟩,fun _ _ z1 k=>let ⟨o,ho,x⟩:=z1;⟨o,k o ho,x⟩⟩
structure IK (H H':Hp) (l:Addr) (as:List Addr) (kvs:List (Key × V)):Prop where
 same:∀ b o,H b=some o→H' b=some o
 fresh:H l=none
 frAll:∀ a ∈ as,H a=none
 at_:H' l=some (.lst (as.map V.ref))
 len:as.length=kvs.length
 al:∀ (j:Nat) (a:Addr) (q:Key × V),as[j]? = some a→kvs[j]? = some q→H' a=some (.tup [kV q.1,q.2])
 only:∀ b o,H' b=some o→H b=some o∨o=.lst (as.map V.ref)∨∃ q ∈ kvs,o=.tup [kV q.1,q.2]
section
variable {X:Cx}
end
end L2
namespace L2
open PySem PySem.Spec PyProof.Rows
section
open AutoSeq1 (wpAny_loadPart')
open MeetsSeq MeetsSeq2 MeetsSeq3 SeqRoads2
variable {P:Program} {w:World} {l b:Addr} {xs ys:Array Value} {n m:Nat} {dd de:Option Addr} {sl sm:Array (Option Value)}
end
section
variable {X:Cx} {pins:List (Addr × Obj)} {σ:St} {H:Hp} {s:Shared}
structure DL (H:Hp) (p:Addr) (ps:List Addr) (ks:List (List (Key × V))):Prop where
 at_:H p=some (.lst (ps.map V.ref))
 len:ps.length=ks.length
 al:∀ (j:Nat) (a:Addr) (kvs:List (Key × V)),ps[j]? = some a→ks[j]? = some kvs→H a=some (.dK kvs)
end
section
variable {X:Cx}
end
end L2
namespace L2
open PySem PySem.Spec PyProof.Rows
section
variable {X:Cx} {pins:List (Addr × Obj)} {σ:St} {H:Hp} {s:Shared} {d:Addr} {o:Obj} {kvs:List (Key × V)}
end
section
variable {X:Cx} {tg:Expr}
end
end L2
namespace L2
open PySem PySem.Spec PyProof.Rows
structure WJ (X:Cx) (pins:List (Addr × Obj)) (H:Hp) (S:Addr):Prop where
 nn:H S=none
 nl:S ≠ X.env.locals
 ge:X.s₀.heap.objs.size ≤ S
 nc:∀ x c,X.env.cells.lookup x=some c→c ≠ S
 np:∀ p ∈ X.pn ++ pins,p.1 ≠ S
 nf:S ∉ X.fs
theorem WJ.of {X:Cx} {pins:List (Addr × Obj)} {σ:St} {H:Hp} {s:Shared} {S:Addr} (I:Inv X pins σ H s) (h:s.heap.objs.size ≤ S):WJ X pins H S:=
 ⟨I.hok.fresh h,fun z=>absurd (Nat.lt_of_lt_of_le I.lt h) (by rw [z];exact Nat.lt_irrefl _),Nat.le_trans I.sz h,fun x c e z=>by
  obtain ⟨v,o,ho,_⟩:=I.cell x c e;exact absurd (Nat.lt_of_lt_of_le (Heap.lt_size ho) h) (by rw [z];exact Nat.lt_irrefl _),fun p hp z=>by
  have ho:=(I.pin p hp).1;exact absurd (Nat.lt_of_lt_of_le (Heap.lt_size ho) h) (by rw [z];exact Nat.lt_irrefl _),I.nofs h⟩
theorem WJ.turn {X:Cx} {pins:List (Addr × Obj)} {σ:St} {H:Hp} {s:Shared} {S:Addr} {h':Heap} {t':Nat} (o:WJ X pins H S) (I:Inv X pins σ H s) (k:∀ b o,b ≠ S→s.heap.get? b=some o→h'.get? b=some o):Inv X pins σ H { s with heap:=h',toks:=t' }:=
 I.turned k o.nn o.nl (.inr o.ge) o.nc o.np
section
variable {X:Cx} {A:Around} {pins:List (Addr × Obj)} {σ:St} {H:Hp} {l q I S:Addr} {n:Nat} {P:Nat→Value→Prop} {R:Result→Shared→Prop}
end
end L2
namespace L2
open PySem PySem.Spec PyProof.Rows
structure YL (p y z:Str) (sc:Scope):Prop where
 kind:sc.kind=.function
 co:sc.isCoroutine=false
 gen:sc.isGenerator=false
 ne:y ≠ z
 par:sc.names.lookup p=some .local
 yf:sc.names.lookup y=some .free
 zf:sc.names.lookup z=some .free
 nocell:∀ z ∈ sc.names,z.2 ≠ .cell
 two:∀ b ∈ sc.names,b.2=.free→b.1=y∨b.1=z
section
variable {X:Cx} {A:Around} {pins:List (Addr × Obj)} {σ:St} {H:Hp} {s:Shared} {k:Nat} {f c' c1 c2:Addr} {q p y z:Str} {params:Arguments} {body:Expr} {scope:Scope} {v1 v2:V} {t:TE}
end
end L2
namespace L2
open PySem PySem.Spec PyProof.Rows
theorem SqL.p {K:PySem.W.Frag} {H H':Hp} {a Pt:Addr} {xs:List V} {pos:Pos} {q:Str} (s:Bt Pt H H') (t:Tab H Pt pos q) (h:SqL K H a xs):SqL K H' a xs:=by
 rcases h with (h | ⟨o,h⟩) | h
 ·exact .inl (.inl (s _ _ (t.ne h (fun _ z=>by cases z)) h))
 ·exact .inl (.inr ⟨o,s _ _ (t.ne h (fun _ z=>by cases z)) h⟩)
 ·exact .inr h
end L2
namespace L2
open PySem PySem.Spec PyProof.Rows
end L2
namespace L2
open PySem PySem.Spec PyProof.Rows
end L2
namespace L2
open PySem PySem.Spec PyProof.Rows
end L2
namespace L2
open PySem PySem.Spec PyProof.Rows
end L2
namespace L2
open PySem PySem.Spec PyProof.Rows
theorem nz (i:Nat) (σ:St) (H:Hp) (Q:VK):lK i σ H Q=(uF H Q σ[i]?):=rfl
theorem kJ (v:V) (x_0:St) (H:Hp) (Q:VK):tC v x_0 H Q=(Q v H):=rfl
theorem fJ (t:TE) (σ:St) (H:Hp) (Q:(Bool→Hp→Prop)):tB t σ H Q=(t σ H fun x H1=>BlQ x fun c=>Q c H1):=rfl
theorem EA (t u:TT) (σ:St) (H:Hp) (Q:(Bool→Hp→Prop)):uL t u σ H Q=(t σ H fun c H1=>if c=true then u σ H1 Q else Q false H1):=rfl
theorem MF (t u:TT) (σ:St) (H:Hp) (Q:(Bool→Hp→Prop)):tOr t u σ H Q=(t σ H fun c H1=>if c=true then Q true H1 else u σ H1 Q):=rfl
theorem YA (t:TT) (σ:St) (H:Hp) (Q:(Bool→Hp→Prop)):pL t σ H Q=(t σ H fun c H1=>Q (!c) H1):=rfl
theorem Vv (ta tb:TE) (σ:St) (H:Hp) (Q:VK):qJ ta tb σ H Q=(ta σ H fun x H1=>BlQ x fun c=>if c=true then tb σ H1 Q else Q (.bl false) H1):=rfl
theorem dA (ta tb:TE) (σ:St) (H:Hp) (Q:VK):jL ta tb σ H Q=(ta σ H fun x H1=>BlQ x fun c=>if c=true then Q (.bl true) H1 else tb σ H1 Q):=rfl
theorem JE (t:TT) (ta tb:TE) (σ:St) (H:Hp) (Q:VK):tIf t ta tb σ H Q=(t σ H fun c H1=>if c=true then ta σ H1 Q else tb σ H1 Q):=rfl
theorem Jc (D:yi) (σ:St) (H:Hp):VI  D σ H=(D.nx σ H):=rfl
theorem Cb (t u:TS) (D:yi) (σ:St) (H:Hp):CL t u D σ H=(t { D with nx:=u D } σ H):=rfl
theorem Hw (te:TE) (D:yi) (σ:St) (H:Hp):RH te D σ H=(te σ H fun _ H1=>D.nx σ H1):=rfl
theorem SB (te:TE) (D:yi) (σ:St) (H:Hp):wK te D σ H=(te σ H D.rt):=rfl
theorem Us (x_0:yi) (x_1:St) (x_2:Hp):SE  x_0 x_1 x_2=(False):=rfl
theorem Nh (i:Nat) (v:V) (σ:St) (H:Hp) (Q:(St→Hp→Prop)):Xo i v σ H Q=(Q (σ.set i (some v)) H):=rfl
theorem rB (vs:List V) (σ:St) (H:Hp) (Q:(St→Hp→Prop)):SJ  vs σ H Q=(vs=[]∧Q σ H):=rfl
theorem zw (t:TG) (u:TGs) (vs:List V) (σ:St) (H:Hp) (Q:(St→Hp→Prop)):Tx t u vs σ H Q=(∃ v r,vs=v :: r∧t v σ H fun σ' H'=>u r σ' H' Q):=rfl
theorem FB (K:PySem.W.Frag) (n:Nat) (t:TGs) (v:V) (σ:St) (H:Hp) (Q:(St→Hp→Prop)):eJ K n t v σ H Q=(∃ a xs,v=.ref a∧SqT K H a xs∧xs.length=n∧t xs σ H Q):=rfl
theorem gA (to ti:TE) (t:XJ) (v:V) (σ:St) (H:Hp) (Q:(St→Hp→Prop)):wL to ti t v σ H Q=(to σ H fun o H1=>ti σ H1 fun i H2=>t o i v H2 fun H3=>Q σ H3):=rfl
theorem jB (te:TE) (g:TG) (D:yi) (σ:St) (H:Hp):MH te g D σ H=(te σ H fun x H1=>g x σ H1 D.nx):=rfl
theorem Yz (i:Nat) (te:TE) (ti:TIp) (D:yi) (σ:St) (H:Hp):lL i te ti D σ H=(∃ x,σ[i]? = some (some x)∧te σ H fun y H1=>ti x y H1 fun z H2=>D.nx (σ.set i (some z)) H2):=rfl
theorem Iv (K:PySem.W.Frag) (tl:TE) (σ:St) (H:Hp) (R:(It→Hp→Prop)):uI K tl σ H R=(tl σ H fun x H1=>jh x fun a=>(∃ xs,SqL K H1 a xs)∧R (Itl K a) H1):=rfl
theorem sF (r:R2) (ta tb:TE) (σ:St) (H:Hp) (Q:VK):tOp r ta tb σ H Q=(ta σ H fun x H1=>tb σ H1 fun y H2=>r x y H2 Q):=rfl
theorem kF (r:V→Hp→VK→Prop) (ta:TE) (σ:St) (H:Hp) (Q:VK):tUn r ta σ H Q=(ta σ H fun x H1=>r x H1 Q):=rfl
theorem GJ (C:Int→Int→Prop) (g:Int→Int→V) (x:V) (y:V) (H:Hp) (Q:VK):rI C g x y H Q=(zi x fun i=>zi y fun j=>C i j∧Q (g i j) H):=rfl
theorem BF (g:Int→Int→V) (x:V) (y:V) (H:Hp) (Q:VK):rI0 g x y H Q=(zi x fun i=>zi y fun j=>Q (g i j) H):=rfl
theorem iI (g:Int→V) (x:V) (H:Hp) (Q:VK):rU g x H Q=(zi x fun i=>Q (g i) H):=rfl
theorem VF (x:V) (y:V) (H:Hp) (Q:VK):rEq  x y H Q=(vJ x y=true∧Q (.bl (decide (x=y))) H):=rfl
theorem ZE (x:V) (y:V) (H:Hp) (Q:VK):rNe  x y H Q=(vJ x y=true∧Q (.bl (!decide (x=y))) H):=rfl
theorem iw (t:TE) (σ:St) (H:Hp) (Q:(Bool→Hp→Prop)):uJ t σ H Q=(t σ H fun x H'=>BlQ x fun k=>Q k H'):=rfl
theorem KA (K:PySem.W.Frag) (ta:TE) (f:Str) (σ:St) (H:Hp) (Q:VK):yL K ta f σ H Q=(ta σ H fun x H1=>jh x fun a=>∃ v,Mj K H1 a f v∧Q v H1):=rfl
theorem pA (K:PySem.W.Frag) (ta tv:TE) (f:Str) (D:yi) (σ:St) (H:Hp):mL K ta tv f D σ H=(tv σ H fun y H1=>ta σ H1 fun x H2=>jh x fun a=>∃ C dx fs,H2 a=some (.ins C dx fs)∧Cls K C∧Nb K C f∧fs.length < 1000 ∧
 D.nx σ (upd H2 a (.ins C dx (Qh f y fs)))):=rfl
theorem bq (K:PySem.W.Frag) (ta tv:TE) (rd:V→V→Hp→VK→Prop) (f:Str) (D:yi) (σ:St) (H:Hp):kz K ta tv rd f D σ H=(ta σ H fun x H1=>∃ a C dx fs v,x=.ref a∧H1 a=some (.ins C dx fs)∧Cls K C∧Nb K C f∧fs.lookup f=some v ∧
 tv σ H1 fun y H2=>rd v y H2 fun z H3=>∃ dx' fs',H3 a=some (.ins C dx' fs')∧fs'.length < 1000∧D.nx σ (upd H3 a (.ins C dx' (Qh f z fs')))):=rfl
theorem aA (x:V) (y:V) (H:Hp) (Q:VK):AL  x y H Q=(∃ i j,x=.int i∧y=.int j∧Q (.int (i + j)) H):=rfl
theorem bz (x_0:St) (H:Hp) (Q:(List V→Hp→Prop)):RJ  x_0 H Q=(Q [] H):=rfl
theorem Fw (ta:TE) (tr:TA) (σ:St) (H:Hp) (Q:(List V→Hp→Prop)):kI ta tr σ H Q=(ta σ H fun x H1=>tr σ H1 fun xs H2=>Q (x :: xs) H2):=rfl
theorem oC (t:TA) (σ:St) (H:Hp) (Q:VK):qL t σ H Q=(t σ H fun xs H1=>xs.length ≤ sizeLine∧∀ p,H1 p=none→Q (.ref p) (upd H1 p (.tup xs))):=rfl
theorem ZA (t:TA) (σ:St) (H:Hp) (Q:VK):zL t σ H Q=(t σ H fun xs H1=>xs.length ≤ sizeLine∧∀ p,H1 p=none→Q (.ref p) (upd H1 p (.lst xs))):=rfl
theorem Kv (sp:Sp) (dvs:List V) (E:XK) (t:TA) (σ:St) (H:Hp) (Q:VK):UD sp dvs E t σ H Q=(t σ H fun vs H1=>sp (vs ++ dvs) H1 Q E):=rfl
theorem jx (C:Addr) (m:Str) (sp:Sp) (dvs:List V) (E:XK) (ta:TE) (t:TA) (σ:St) (H:Hp) (Q:VK):OG C m sp dvs E ta t σ H Q=(ta σ H fun x H1=>jh x fun a=>∃ dx fs,H1 a=some (.ins C dx fs)∧fs.lookup m=none ∧
 t σ H1 fun vs H2=>sp (x :: (vs ++ dvs)) H2 Q E):=rfl
theorem ww (C:Addr) (sp:Sp) (dvs:List V) (E:XK) (t:TA) (σ:St) (H:Hp) (Q:VK):LI C sp dvs E t σ H Q=(t σ H fun vs H1=>∀ x dx,H1 x=none→H1 dx=none→dx ≠ x →
 sp (.ref x :: (vs ++ dvs)) (upd (upd H1 dx (.own x)) x (.ins C dx [])) (fun v H2=>v=.non∧Q (.ref x) H2) E):=rfl
theorem WF (r:List V→Hp→VK→Prop) (t:TA) (σ:St) (H:Hp) (Q:VK):tCB r t σ H Q=(t σ H fun vs H1=>r vs H1 Q):=rfl
theorem Rp (x_0:St) (H:Hp) (Q:(Option Int→Hp→Prop)):bC  x_0 H Q=(Q none H):=rfl
theorem Wv (t:TE) (σ:St) (H:Hp) (Q:(Option Int→Hp→Prop)):xJ t σ H Q=(t σ H fun x H1=>zi x fun i=>Q (some i) H1):=rfl
theorem DF (r:V→Option Int→Option Int→Hp→VK→Prop) (te:TE) (tl th:TO) (σ:St) (H:Hp) (Q:VK):tSl r te tl th σ H Q=(te σ H fun x H1=>tl σ H1 fun l H2=>th σ H2 fun u H3=>r x l u H3 Q):=rfl
theorem px (K:PySem.W.Frag) (x:V) (y:V) (H:Hp) (Q:VK):MJ K x y H Q=(∃ a b xs ys,x=.ref a∧y=.ref b∧SqT K H a xs∧SqT K H b ys∧xs ≠ []∧xs.length + ys.length ≤ sizeLine ∧
 (ys=[]→Q (.ref a) H)∧(ys ≠ []→∀ p,H p=none→Q (.ref p) (upd H p (.tup (xs ++ ys))))):=rfl
theorem Uz (K:PySem.W.Frag) (x:V) (y:V) (H:Hp) (Q:VK):GL K x y H Q=(jh x fun p=>∃ xs,zi y fun i=>SqL K H p xs∧∃ v,atI xs i=some v∧Q v H):=rfl
theorem BC (K:PySem.W.Frag) (x:V) (y:V) (H:Hp) (Q:VK):nL K x y H Q=(jh x fun p=>∃ xs,zi y fun i=>SqT K H p xs∧∃ v,atI xs i=some v∧Q v H):=rfl
theorem pz (x:V) (y:V) (H:Hp) (Q:VK):eL  x y H Q=(∃ z i c,x=.str z∧y=.int i∧z.length ≤ sizeLine∧atI z.cps.toList i=some c∧Q (.str ⟨#[c]⟩) H):=rfl
theorem nw (o:V) (i:V) (v:V) (H:Hp) (Q:(Hp→Prop)):LJ  o i v H Q=(jh o fun p=>∃ xs,zi i fun k=>H p=some (.lst xs)∧∃ j,ixN xs.length k=some j∧Q (upd H p (.lst (xs.set j v)))):=rfl
theorem bB (K:PySem.W.Frag) (x:V) (lo:Option Int) (hi:Option Int) (H:Hp) (Q:VK):dL K x lo hi H Q=(∃ a xs,x=.ref a∧SqL K H a xs∧∀ p,H p=none→Q (.ref p) (upd H p (.lst (gG xs lo hi)))):=rfl
theorem OF (K:PySem.W.Frag) (neg:Bool) (x:V) (y:V) (H:Hp) (Q:VK):rIn K neg x y H Q=(∃ p xs,y=.ref p∧(SqL K H p xs∨SqT K H p xs)∧sk x=true∧xs.all sk=true∧Q (.bl (if neg then !inV x xs else inV x xs)) H):=rfl
theorem sC (K:PySem.W.Frag) (T:String) (r:V→List V→Hp→VK→Prop) (to:TE) (σ:St) (H:Hp) (Q:VK):FL K T r to σ H Q=(to σ H fun x H1=>tyV K T x H1∧r x [] H1 Q):=rfl
theorem EF (K:PySem.W.Frag) (T:String) (r:V→List V→Hp→VK→Prop) (to:TE) (t:TA) (σ:St) (H:Hp) (Q:VK):tBM K T r to t σ H Q=(to σ H fun x H1=>tyV K T x H1∧t σ H1 fun xs H2=>r x xs H2 Q):=rfl
theorem nq (x:V) (vs:List V) (H:Hp) (Q:VK):EB  x vs H Q=(jh x fun l=>Rx vs fun y=>∃ xs,H l=some (.lst xs)∧xs.length < sizeLine∧Q .non (upd H l (.lst (xs ++ [y])))):=rfl
theorem uq (x:V) (vs:List V) (H:Hp) (Q:VK):YB  x vs H Q=(∃ l b xs zs,x=.ref l∧vs=[.ref b]∧H l=some (.lst xs)∧H b=some (.lst zs)∧xs.length + zs.length ≤ sizeLine∧Q .non (upd H l (.lst (xs ++ zs)))):=rfl
theorem ao (x:V) (vs:List V) (H:Hp) (Q:VK):Nw  x vs H Q=(∃ l xs,x=.ref l∧vs=[]∧H l=some (.lst xs)∧Q .non (upd H l (.lst xs.reverse))):=rfl
theorem Ww (td ty:TE) (σ:St) (H:Hp) (Q:VK):lI td ty σ H Q=(td σ H fun x H1=>ty σ H1 fun y H2=>jh x fun a=>∃ v,xy H2 a y (some v)∧Q v H2):=rfl
theorem Up (ty td:TE) (σ:St) (H:Hp) (Q:VK):mB ty td σ H Q=(ty σ H fun y H1=>td σ H1 fun x H2=>jh x fun a=>∃ o,xy H2 a y o∧Q (.bl (!o.isSome)) H2):=rfl
theorem Zv (td ty tv:TE) (D:yi) (σ:St) (H:Hp):vI td ty tv D σ H=(tv σ H fun v H1=>td σ H1 fun x H2=>ty σ H2 fun y H3=>jh x fun a=>∃ H4,vD H3 a y v H4∧D.nx σ H4):=rfl
theorem Xt (x_0:St) (H:Hp) (Q:VK):KF  x_0 H Q=(∀ p,H p=none→Q (.ref p) (upd H p (.dK []))):=rfl
theorem Mt (x_0:St) (H:Hp) (Q:VK):lF  x_0 H Q=(∀ p,H p=none→Q (.ref p) (upd H p (.dT []))):=rfl
theorem jw (x_0:St) (H:Hp) (Q:(Bool→Hp→Prop)):Hu  x_0 H Q=(Q true H):=rfl
theorem xB (tl:TE) (σ:St) (H:Hp) (R:(It→Hp→Prop)):WK tl σ H R=(tl σ H fun x H1=>∃ z,x=.str z∧R (Its (si z)) H1):=rfl
theorem uC (x:V) (lo:Option Int) (hi:Option Int) (H:Hp) (Q:VK):iL  x lo hi H Q=(∃ z,x=.str z∧z.length ≤ sizeLine∧Q (.str (Txt.slice z lo hi)) H):=rfl
theorem mw (K:PySem.W.Frag) (x:V) (vs:List V) (H:Hp) (Q:VK):bI K x vs H Q=(∃ sep p ys,x=.str sep∧vs=[.ref p]∧SqL K H p (Bc ys)∧(ys.map (·.length)).sum + ys.length * sep.length ≤ 16777216∧Q (.str (Txt.join sep ys)) H):=rfl
theorem Ht (x:V) (vs:List V) (H:Hp) (Q:VK):OE  x vs H Q=(∃ z y,x=.str z∧vs=[.str y]∧y.length ≠ 0∧z.length + 2 ≤ sizeLine∧(Txt.split z y).length ≤ sizeLine∧∀ p,H p=none→Q (.ref p) (upd H p (.lst (Bc (Txt.split z y))))):=rfl
theorem Ks (OK:Addr→Prop) (m:Str) (SPV:Addr→Sp) (E:XK) (ta:TE) (t:TA) (σ:St) (H:Hp) (Q:VK):RE OK m SPV E ta t σ H Q=(ta σ H fun x H1=>∃ a C dx fs,x=.ref a∧H1 a=some (.ins C dx fs)∧OK C∧fs.lookup m=none ∧
 t σ H1 fun vs H2=>SPV C (x :: vs) H2 Q E):=rfl
theorem ow (K:PySem.W.Frag) (ta:TA) (σ:St) (H:Hp) (R:(It→Hp→Prop)):ZH K ta σ H R=(ta σ H fun vs H1=>∃ a,vs=[.ref a]∧(∃ xs,SqL K H1 a xs)∧R (Ite K a) H1):=rfl
theorem MA (K:PySem.W.Frag) (ta:TA) (σ:St) (H:Hp) (R:(It→Hp→Prop)):kL K ta σ H R=(ta σ H fun vs H1=>∃ a b,vs=[.ref a,.ref b]∧(∃ xs,SqL K H1 a xs)∧(∃ ys,SqL K H1 b ys)∧R (Itz K a b) H1):=rfl
theorem xw (x:V) (vs:List V) (H:Hp) (Q:VK):Ws  x vs H Q=(∃ d kvs,x=.ref d∧vs=[]∧H d=some (.dK kvs)∧∀ p,H p=none→Q (.ref p) (upd H p (.ext (aJ p d)))):=rfl
theorem Ev (P:Program) (w:World) (td ty:TE) (σ:St) (H:Hp) (Q:VK):DI P w td ty σ H Q=(td σ H fun x H1=>ty σ H1 fun y H2=>∃ a b kvs k v,x=.ref a∧y=.ref b∧vk P w H2 a kvs∧H2 b=some (.tup (k.map kV))∧Qj kvs k=some v∧Q v H2):=rfl
theorem vC (P:Program) (w:World) (ty td:TE) (σ:St) (H:Hp) (Q:VK):vL P w ty td σ H Q=(ty σ H fun y H1=>td σ H1 fun x H2=>∃ a b kvs k,x=.ref a∧y=.ref b∧vk P w H2 a kvs∧H2 b=some (.tup (k.map kV))∧Q (.bl (Qj kvs k).isSome) H2):=rfl
theorem gx (P:Program) (w:World) (td ty tv:TE) (D:yi) (σ:St) (H:Hp):YI P w td ty tv D σ H=(tv σ H fun v H1=>td σ H1 fun x H2=>ty σ H2 fun y H3=>∃ a b kvs k,x=.ref a∧y=.ref b∧vk P w H3 a kvs∧H3 b=some (.tup (k.map kV))∧kvs.length < sizeLine∧∀ o,vk P w (upd H3 a (.ext (AtO a o))) a (Uo kvs k v)→D.nx σ (upd H3 a (.ext (AtO a o)))):=rfl
theorem Jv (P:Program) (w:World) (x_0:St) (H:Hp) (Q:VK):JJ P w x_0 H Q=(∀ p o,H p=none→vk P w (upd H p (.ext (AtO p o))) p []→Q (.ref p) (upd H p (.ext (AtO p o)))):=rfl
theorem xz (P:Program) (w:World) (tl:TE) (σ:St) (H:Hp) (R:(It→Hp→Prop)):ZK P w tl σ H R=(tl σ H fun x H1=>∃ d kvs,x=.ref d∧vk P w H1 d kvs∧∀ o es ep xs,UJ P w H1 d kvs o es ep xs→R (Itk d o kvs xs) H1):=rfl
noncomputable def Vj (J:It) (g:TG) (tb:TS) (D:yi) (σ:St) (H:Hp):Prop:=∃ W:Nat→Nat→St→Hp→Prop,(∃ m,W 0 m σ H)∧∀ i m σ H,W i m σ H →
 (J.stop i H∧D.nx σ H)∨(J.go i H∧∃ N:St→Hp→Prop,(∀ σ' H',N σ' H'→∃ m',m' < m∧W (i + 1) m' σ' H')∧∀ x H',J.yld i H x H'→g x σ H' fun σ2 H2=>tb { D with nx:=N,ct:=N,bk:=D.nx } σ2 H2)
theorem zC (wi:TI) (g:TG) (tb:TS) (D:yi) (σ:St) (H:Hp):EL wi g tb D σ H=wi σ H fun J H1=>Vj J g tb D σ H1:=rfl
noncomputable def Yc (J:It) (g:TG) (tc:TT) (te:TE) (σb:St) (Q:VK) (H:Hp):Prop:=∃ W:Nat→Nat→List V→Hp→Prop,(∃ m,W 0 m [] H)∧vy J g tc te σb Q W
theorem Tw (wi:TI) (g:TG) (tc:TT) (te:TE) (sel:List (Option Nat)) (σ:St) (H:Hp) (Q:VK):vG wi g tc te sel σ H Q=wi σ H fun J H1=>Yc J g tc te (blk sel σ) Q H1:=rfl
theorem dw (ta:TA) (σ:St) (H:Hp) (R:It→Hp→Prop):WH ta σ H R=(ta σ H fun vs H1=>Rx vs fun x=>zi x fun j=>-4611686018427387904 ≤ j∧j < 4611686018427387904∧R (Itr 0 j.toNat) H1):=rfl
theorem Dv (ta:TA) (σ:St) (H:Hp) (R:It→Hp→Prop):nJ ta σ H R=(ta σ H fun vs H1=>∃ i j:Int,vs=[.int i,.int j]∧(-4611686018427387904 ≤ i∧i < 4611686018427387904∧-4611686018427387904 ≤ j∧j < 4611686018427387904)∧R (Itr i (j - i).toNat) H1):=rfl
theorem QK {α β:Type} (f:α→β):[].map f=[]:=rfl
theorem EK {α β:Type} (f:α→β) (a:α) (l:List α):(a :: l).map f=f a :: l.map f:=rfl
theorem KK {α:Type} (l:List α):[] ++ l=l:=rfl
theorem yK {α:Type} (a:α) (l r:List α):(a :: l) ++ r=a :: (l ++ r):=rfl
theorem gK {α:Type} (a b:α) (l:List α):(a :: l).set 0 b=b :: l:=rfl
theorem AK {α:Type} (a b:α) (l:List α) (n:Nat):(a :: l).set (n + 1) b=a :: l.set n b:=rfl
theorem RK {α:Type} (a:α) (l:List α):(a :: l)[0]? = some a:=rfl
theorem JK {α:Type} (a:α) (l:List α) (n:Nat):(a :: l)[n + 1]? = l[n]?:=rfl
theorem bK {α:Type}:([]:List α).length=0:=rfl
theorem eK {α:Type} (a:α) (l:List α):(a :: l).length=l.length + 1:=rfl
theorem dBn {α β:Type} (f:α→Option β):(none:Option α).bind f=none:=rfl
theorem dBs {α β:Type} (f:α→Option β) (a:α):(some a).bind f=f a:=rfl
theorem dJs {α:Type} (a:Option α):(some a).join=a:=rfl
theorem dJn {α:Type}:(none:Option (Option α)).join=none:=rfl
theorem Hz (sel:List (Option Nat)) (σ:St):blk sel σ=sel.map fun o=>o.bind fun j=>(σ[j]?).join:=rfl
theorem Qb {c:TT} {t u:TS} {D:yi} {σ:St} {H:Hp} (b:Bool) (hc:∀ Q:Bool→Hp→Prop,Q b H→c σ H Q) (h1:b=true→t D σ H) (h2:b=false→u D σ H):sK c t u D σ H:=by
 refine hc _ ?_;cases b with
 | true=>exact h1 rfl
 | false=>exact h2 rfl
theorem Yk {c:TT} {t u:TS} {D:yi} {σ:St} {H:Hp} (R:Bool→Hp→Prop) (hc:∀ Q:Bool→Hp→Prop,(∀ b H',R b H'→Q b H')→c σ H Q) (h1:∀ H',R true H'→t D σ H') (h2:∀ H',R false H'→u D σ H'):sK c t u D σ H:=by
 refine hc _ fun b H' r=>?_
 cases b with
 | true=>exact h1 H' r
 | false=>exact h2 H' r
theorem vc {t:TS} {D:yi} {σ:St} {H:Hp} (R:St→Hp→Prop) (h:∀ D':yi,(∀ σ H,R σ H→D'.nx σ H)→D'.rt=D.rt→D'.bk=D.bk→D'.ct=D.ct→t D' σ H) (hR:∀ σ H,R σ H→D.nx σ H):t D σ H:=h D hR rfl rfl rfl
theorem zzC {t:TS} {D:yi} {σ:St} {H:Hp} (R:St->Hp->Prop) (h:∀ D':yi,(∀ σ H,R σ H->D'.nx σ H)->t D' σ H) (hR:∀ M,M=D.nx->∀ σ H,R σ H->M σ H):t D σ H:=h D (hR _ rfl)
theorem zP {p:Prop} (h:∀ q,q=p->q):p:=h p rfl
theorem zzD {t:TS} {D:yi} {σ:St} {H:Hp} (R:St->Hp->Prop) (h:∀ D':yi,(∀ σ H,R σ H->D'.nx σ H)->t D' σ H) (hR:∀ σ H,R σ H->D.nx σ H):t D σ H:=h D hR
theorem zS {t u:TS} {D:yi} {σ:St} {H:Hp} (R:St->Hp->Prop) (h:∀ D':yi,(∀ σ H,R σ H->D'.nx σ H)->t D' σ H) (hR:∀ M,M=u D->∀ σ H,R σ H->M σ H):CL t u D σ H:=h { D with nx:=u D } (hR _ rfl)
theorem jH {te:TE} {g:TG} {D:yi} {σ:St} {H:Hp} (v:V) (hc:∀ Q:VK,Q v H→te σ H Q) (h:g v σ H D.nx):MH te g D σ H:=hc _ h
theorem hG {te:TE} {D:yi} {σ:St} {H:Hp} (v:V) (hc:∀ Q:VK,Q v H→te σ H Q) (h:D.rt v H):wK te D σ H:=hc _ h
theorem Wd (x y:Str):(x ++ y).length=x.length + y.length:=by
 show (x.cps ++ y.cps).size=_;rw [Array.size_append];rfl
theorem Vj.range {lo:Int} {n:Nat} {g:TG} {tb:TS} {D:yi} {σ:St} {H:Hp} (Pv:Nat→St→Hp→Prop) (h0:Pv 0 σ H)
  (hs:∀ i σ H,i < n→Pv i σ H→g (.int (lo + i)) σ H fun σ2 H2=>tb { D with nx:=Pv (i + 1),ct:=Pv (i + 1),bk:=D.nx } σ2 H2) (hd:∀ σ H,Pv n σ H→D.nx σ H):Vj (Itr lo n) g tb D σ H:=tz Pv h0 hs hd
theorem Vj.list {K:PySem.W.Frag} {a:Addr} {xs:List V} {g:TG} {tb:TS} {D:yi} {σ:St} {H:Hp} (Pv:Nat→St→Hp→Prop) (h0:Pv 0 σ H) (hl:∀ i σ H,i ≤ xs.length→Pv i σ H→SqL K H a xs)
  (hs:∀ i x σ H,xs[i]? = some x→Pv i σ H→g x σ H fun σ2 H2=>tb { D with nx:=Pv (i + 1),ct:=Pv (i + 1),bk:=D.nx } σ2 H2) (hd:∀ σ H,Pv xs.length σ H→D.nx σ H):Vj (Itl K a) g tb D σ H:=rE Pv h0 hl hs hd
theorem Vj.its {xs:List V} {g:TG} {tb:TS} {D:yi} {σ:St} {H:Hp} (Pv:Nat→St→Hp→Prop) (h0:Pv 0 σ H)
  (hs:∀ i x σ H,xs[i]? = some x→Pv i σ H→g x σ H fun σ2 H2=>tb { D with nx:=Pv (i + 1),ct:=Pv (i + 1),bk:=D.nx } σ2 H2) (hd:∀ σ H,Pv xs.length σ H→D.nx σ H):Vj (Its xs) g tb D σ H:=mG Pv h0 hs hd
theorem Yc.list {K:PySem.W.Frag} {a:Addr} {xs:List V} {g:TG} {tc:TT} {te:TE} {σb:St} {Q:VK} {H:Hp} (Pv:Nat→List V→Hp→Prop) (hz:xs.length ≤ sizeLine) (h0:Pv 0 [] H) (hl:∀ i ys H,i ≤ xs.length→Pv i ys H→SqL K H a xs∧ys.length ≤ i)
  (hs:∀ i x ys H,xs[i]? = some x→Pv i ys H→Vf Pv g tc te σb i x ys H) (hd:∀ ys H,Pv xs.length ys H→∀ p,H p=none→Q (.ref p) (upd H p (.lst ys))):Yc (Itl K a) g tc te σb Q H:=Cz Pv hz h0 hl hs hd
theorem Yc.its {xs:List V} {g:TG} {tc:TT} {te:TE} {σb:St} {Q:VK} {H:Hp} (Pv:Nat→List V→Hp→Prop) (hz:xs.length ≤ sizeLine) (h0:Pv 0 [] H) (hl:∀ i ys H,i ≤ xs.length→Pv i ys H→ys.length ≤ i)
  (hs:∀ i x ys H,xs[i]? = some x→Pv i ys H→Vf Pv g tc te σb i x ys H) (hd:∀ ys H,Pv xs.length ys H→∀ p,H p=none→Q (.ref p) (upd H p (.lst ys))):Yc (Its xs) g tc te σb Q H:=wD Pv hz h0 hl hs hd
theorem Yc.range {lo:Int} {n:Nat} {g:TG} {tc:TT} {te:TE} {σb:St} {Q:VK} {H:Hp} (Pv:Nat→List V→Hp→Prop) (hz:n ≤ sizeLine) (h0:Pv 0 [] H) (hl:∀ i ys H,i ≤ n→Pv i ys H→ys.length ≤ i)
  (hs:∀ i ys H,i < n→Pv i ys H→Vf Pv g tc te σb i (.int (lo + i)) ys H) (hd:∀ ys H,Pv n ys H→∀ p,H p=none→Q (.ref p) (upd H p (.lst ys))):Yc (Itr lo n) g tc te σb Q H:=Kx Pv hz h0 hl hs hd
theorem Fl {α β:Type} {xs:List α} {i:Nat} {x:α} (f:α→β) (h:xs[i]? = some x):(xs.take (i + 1)).map f=(xs.take i).map f ++ [f x]:=by
 rw [List.take_add_one,h,List.map_append];rfl
theorem Yc.its_map {xs:List V} {g:TG} {te:TE} {σb:St} {Q:VK} {H:Hp} (f:V→V) (hz:xs.length ≤ sizeLine) (hs:∀ (i:Nat) (x:V) (N:V→Hp→Prop),xs[i]? = some x→N (f x) H→g x σb H fun σ2 H2=>Sub σb σ2∧te σ2 H2 N)
  (hd:∀ p,H p=none→Q (.ref p) (upd H p (.lst (xs.map f)))):Yc (Its xs) g Hu te σb Q H:=by
 refine Yc.its (fun i ys H'=>H'=H∧ys=(xs.take i).map f) hz ⟨rfl,rfl⟩ (fun i ys H' hi ⟨_,e⟩=>?_) (fun i x ys H' hx ⟨e1,e2⟩ N hN=>?_) (fun ys H' ⟨e1,e2⟩ p hp=>?_)
 ·rw [e,List.length_map,List.length_take];omega
 ·subst e1;exact hs i x (fun y H4=>N (ys ++ [y]) H4) hx (hN _ _ ⟨rfl,by rw [e2,Fl f hx]⟩)
 ·subst e1;rw [e2,List.take_length];exact hd p hp
theorem Yc.list_map {K:PySem.W.Frag} {a:Addr} {xs:List V} {g:TG} {te:TE} {σb:St} {Q:VK} {H:Hp} (f:V→V) (hl:SqL K H a xs) (hz:xs.length ≤ sizeLine) (hs:∀ (i:Nat) (x:V) (N:V→Hp→Prop),xs[i]? = some x→N (f x) H→g x σb H fun σ2 H2=>Sub σb σ2∧te σ2 H2 N)
  (hd:∀ p,H p=none→Q (.ref p) (upd H p (.lst (xs.map f)))):Yc (Itl K a) g Hu te σb Q H:=by
 refine Yc.list (fun i ys H'=>H'=H∧ys=(xs.take i).map f) hz ⟨rfl,rfl⟩ (fun i ys H' hi ⟨e0,e⟩=>?_) (fun i x ys H' hx ⟨e1,e2⟩ N hN=>?_) (fun ys H' ⟨e1,e2⟩ p hp=>?_)
 ·subst e0;exact ⟨hl,by rw [e,List.length_map,List.length_take];omega⟩
 ·subst e1;exact hs i x (fun y H4=>N (ys ++ [y]) H4) hx (hN _ _ ⟨rfl,by rw [e2,Fl f hx]⟩)
 ·subst e1;rw [e2,List.take_length];exact hd p hp
theorem Yc.range_map {lo:Int} {n:Nat} {g:TG} {te:TE} {σb:St} {Q:VK} {H:Hp} (f:Nat→V) (hz:n ≤ sizeLine) (hs:∀ (i:Nat) (N:V→Hp→Prop),i < n→N (f i) H→g (.int (lo + i)) σb H fun σ2 H2=>Sub σb σ2∧te σ2 H2 N)
  (hd:∀ p,H p=none→Q (.ref p) (upd H p (.lst ((List.range n).map f)))):Yc (Itr lo n) g Hu te σb Q H:=by
 refine Yc.range (fun i ys H'=>H'=H∧ys=(List.range i).map f) hz ⟨rfl,rfl⟩ (fun i ys H' hi ⟨_,e⟩=>?_) (fun i ys H' hi ⟨e1,e2⟩ N hN=>?_) (fun ys H' ⟨e1,e2⟩ p hp=>?_)
 ·rw [e,List.length_map,List.length_range];exact Nat.le_refl _
 ·subst e1;exact hs i (fun y H4=>N (ys ++ [y]) H4) hi (hN _ _ ⟨rfl,by rw [e2,List.range_succ,List.map_append];rfl⟩)
 ·subst e1;rw [e2];exact hd p hp
theorem Yc.list_mk {K:PySem.W.Frag} {a:Addr} {xs:List V} {g:TG} {te:TE} {σb:St} {Q:VK} {H:Hp} (f:V→HO) (hl:SqL K H a xs) (hz:xs.length ≤ sizeLine) (hn:∀ x,noT (f x)=true)
  (hs:∀ (i:Nat) (x:V) (H1:Hp) (N:V→Hp→Prop),xs[i]? = some x→Mb H H1→(NoT H→NoT H1)→(∀ q,H1 q=none→N (.ref q) (upd H1 q (f x)))→g x σb H1 fun σ2 H2=>Sub σb σ2∧te σ2 H2 N)
  (hd:∀ (qs:List Addr) (H1:Hp),Mb H H1→(NoT H→NoT H1)→qs.length=xs.length→(∀ (j:Nat) (q:Addr) (x:V),qs[j]? = some q→xs[j]? = some x→H1 q=some (f x)∧H q=none)→∀ p,H1 p=none→Q (.ref p) (upd H1 p (.lst (qs.map V.ref)))):Yc (Itl K a) g Hu te σb Q H:=by
 refine Yc.list (fun i ys H'=>∃ qs:List Addr,ys=qs.map V.ref∧qs.length=i∧Mb H H'∧(NoT H→NoT H')∧∀ (j:Nat) (q:Addr) (x:V),qs[j]? = some q→xs[j]? = some x→H' q=some (f x)∧H q=none) hz
  ⟨[],rfl,rfl,Mb.refl H,id,fun j q x h _=>by simp at h⟩ ?_ ?_ ?_
 ·rintro i ys H' hi zzq;refine zP fun zM zzh=>?_
  obtain ⟨qs,e,e2,sm,_,_⟩:=zzq;subst zzh;exact ⟨hl.same sm,by rw [e,List.length_map];omega⟩
 ·rintro i x ys H' hx ⟨qs,e1,e2,sm,nt,al⟩ N hN;refine hs i x H' (fun y H4=>N (ys ++ [y]) H4) hx sm nt fun q hq=>hN _ _ ⟨qs ++ [q],by rw [e1,List.map_append];rfl,by rw [List.length_append,e2];rfl,sm.updN (sm.free hq),fun n=>(nt n).upd (hn x),fun j q' x' h1 h2=>?_⟩
  by_cases hj:j < qs.length
  ·rw [List.getElem?_append_left hj] at h1;obtain ⟨z1,z2⟩:=al j q' x' h1 h2;exact ⟨by rw [ub (Db z1 hq)];exact z1,z2⟩
  ·rw [List.getElem?_append_right (by omega)] at h1;have hj0:j - qs.length=0:=by
    cases hh:j - qs.length with
    | zero=>rfl
    | succ n=>rw [hh] at h1;simp at h1
   rw [hj0] at h1;have e3:q=q':=by simpa using h1
   subst e3;have e4:j=i:=by omega
   subst e4;rw [hx] at h2;cases h2;exact ⟨db,sm.free hq⟩
 ·rintro ys H' ⟨qs,e1,e2,sm,nt,al⟩ p hp;subst e1;exact hd qs H' sm nt e2 al p hp
theorem Vj.of {J:It} {n:Nat} {g:TG} {tb:TS} {D:yi} {σ:St} {H:Hp} (Pv:Nat→St→Hp→Prop) (h0:Pv 0 σ H) (hgo:∀ i σ H,i < n→Pv i σ H→J.go i H) (hst:∀ σ H,Pv n σ H→J.stop n H)
  (hs:∀ i σ H x H',i < n→Pv i σ H→J.yld i H x H'→g x σ H' fun σ2 H2=>tb { D with nx:=Pv (i + 1),ct:=Pv (i + 1),bk:=D.nx } σ2 H2) (hd:∀ σ H,Pv n σ H→D.nx σ H):Vj J g tb D σ H:=by
 refine ⟨fun i m σ H=>m=n - i∧i ≤ n∧Pv i σ H,⟨n,by simp,Nat.zero_le _,h0⟩,?_⟩;rintro i m σ H ⟨rfl,hi,p⟩;by_cases hlt:i < n
 ·exact .inr ⟨hgo i σ H hlt p,Pv (i + 1),fun σ' H' p'=>⟨n - (i + 1),by omega,rfl,hlt,p'⟩,fun x H' y=>hs i σ H x H' hlt p y⟩
 ·have e:i=n:=by omega
  subst e;exact .inl ⟨hst σ H p,hd σ H p⟩
theorem Yc.of {J:It} {n:Nat} {g:TG} {tc:TT} {te:TE} {σb:St} {Q:VK} {H:Hp} (Pv:Nat→List V→Hp→Prop) (hz:n ≤ sizeLine) (h0:Pv 0 [] H) (hgo:∀ i ys H,i < n→Pv i ys H→J.go i H) (hst:∀ ys H,Pv n ys H→J.stop n H) (hl:∀ i ys H,i < n→Pv i ys H→ys.length ≤ i)
  (hs:∀ i ys H x H',i < n→Pv i ys H→J.yld i H x H'→Vf Pv g tc te σb i x ys H') (hd:∀ ys H,Pv n ys H→∀ p,H p=none→Q (.ref p) (upd H p (.lst ys))):Yc J g tc te σb Q H:=by
 refine ⟨fun i m ys H=>m=n - i∧i ≤ n∧Pv i ys H,⟨n,by simp,Nat.zero_le _,h0⟩,?_⟩;rintro i m ys H ⟨rfl,hi,p⟩;by_cases hlt:i < n
 ·have hyl:=hl i ys H hlt p;refine .inr ⟨hgo i ys H hlt p,by omega,fun x H' y=>?_⟩;exact hs i ys H x H' hlt p y (fun ys' H'=>∃ m',m' < n - i∧m'=n - (i + 1)∧i + 1 ≤ n∧Pv (i + 1) ys' H') fun ys' H' r=>⟨n - (i + 1),by omega,rfl,hlt,r⟩
 ·have e:i=n:=by omega
  subst e;exact .inl ⟨hst ys H p,hd ys H p⟩
section
variable {K:PySem.W.Frag} {a b:Addr} {xs ys:List V} {g:TG} {tb:TS} {D:yi} {σ σb:St} {H:Hp} {tc:TT} {te:TE} {Q:VK}
theorem Vj.enum (Pv:Nat→St→Hp→Prop) (h0:Pv 0 σ H) (hl:∀ i σ H,i ≤ xs.length→Pv i σ H→SqL K H a xs)
  (hs:∀ i x σ H p,xs[i]? = some x→Pv i σ H→H p=none→g (.ref p) σ (upd H p (.tup [.int i,x])) fun σ2 H2=>tb { D with nx:=Pv (i + 1),ct:=Pv (i + 1),bk:=D.nx } σ2 H2) (hd:∀ σ H,Pv xs.length σ H→D.nx σ H):Vj (Ite K a) g tb D σ H:=by
 refine Vj.of (n:=xs.length) Pv h0 (fun i σ H hi p=>⟨xs,xs[i],hl i σ H (Nat.le_of_lt hi) p,by simp [hi]⟩) (fun σ H p=>⟨xs,hl _ σ H (Nat.le_refl _) p,Nat.le_refl _⟩) (fun i σ H v H' hi p y=>?_) hd;obtain ⟨q,x,hq,rfl,hx,rfl⟩:=y;exact hs i x σ H q (hx xs (hl i σ H (Nat.le_of_lt hi) p)) p hq
theorem Vj.zip (Pv:Nat→St→Hp→Prop) (h0:Pv 0 σ H) (hl:∀ i σ H,i ≤ xs.length→Pv i σ H→SqL K H a xs∧SqL K H b ys) (n:Nat) (hn:n=min xs.length ys.length)
  (hs:∀ i x y σ H p,xs[i]? = some x→ys[i]? = some y→Pv i σ H→H p=none→g (.ref p) σ (upd H p (.tup [x,y])) fun σ2 H2=>tb { D with nx:=Pv (i + 1),ct:=Pv (i + 1),bk:=D.nx } σ2 H2) (hd:∀ σ H,Pv n σ H→D.nx σ H):Vj (Itz K a b) g tb D σ H:=by
 subst hn;refine Vj.of (n:=min xs.length ys.length) Pv h0 (fun i σ H hi p=>?_) (fun σ H p=>?_) (fun i σ H v H' hi p y=>?_) hd
 ·obtain ⟨z1,z2⟩:=hl i σ H (by omega) p;exact ⟨xs,ys,xs[i],ys[i],z1,z2,by rw [List.getElem?_eq_getElem (by omega)],by rw [List.getElem?_eq_getElem (by omega)]⟩
 ·obtain ⟨z1,z2⟩:=hl _ σ H (by omega) p;exact ⟨xs,ys,z1,z2,by omega⟩
 ·obtain ⟨q,x,y,hq,rfl,hx,hy,rfl⟩:=y;obtain ⟨z1,z2⟩:=hl i σ H (by omega) p;exact hs i x y σ H q (hx xs z1) (hy ys z2) p hq
theorem Yc.enum (Pv:Nat→List V→Hp→Prop) (hz:xs.length ≤ sizeLine) (h0:Pv 0 [] H) (hl:∀ i ys H,i ≤ xs.length→Pv i ys H→SqL K H a xs∧ys.length ≤ i)
  (hs:∀ i x ys H p,xs[i]? = some x→Pv i ys H→H p=none→Vf Pv g tc te σb i (.ref p) ys (upd H p (.tup [.int i,x]))) (hd:∀ ys H,Pv xs.length ys H→∀ p,H p=none→Q (.ref p) (upd H p (.lst ys))):Yc (Ite K a) g tc te σb Q H:=by
 refine Yc.of (n:=xs.length) Pv hz h0 (fun i ys H hi p=>⟨xs,xs[i],(hl i ys H (Nat.le_of_lt hi) p).1,by simp [hi]⟩) (fun ys H p=>⟨xs,(hl _ ys H (Nat.le_refl _) p).1,Nat.le_refl _⟩) (fun i ys H hi p=>(hl i ys H (Nat.le_of_lt hi) p).2) (fun i zs H v H' hi p y=>?_) hd;obtain ⟨q,x,hq,rfl,hx,rfl⟩:=y;exact hs i x zs H q (hx xs (hl i zs H (Nat.le_of_lt hi) p).1) p hq
theorem Qk {i j:Nat} {p:Addr} {x y:V} {R:St→Hp→Prop} (h:SqT K H p [x,y]) (q:R ((σ.set i (some x)).set j (some y)) H):eJ K 2 (Tx (Xo i) (Tx (Xo j) SJ)) (.ref p) σ H R:=
 ⟨p,_,rfl,h,rfl,x,_,rfl,y,_,rfl,rfl,q⟩
theorem yg {i j:Nat} {p:Addr} {x y:V} {R:St→Hp→Prop} (q:R ((σ.set i (some x)).set j (some y)) (upd H p (.tup [x,y]))):eJ K 2 (Tx (Xo i) (Tx (Xo j) SJ)) (.ref p) σ (upd H p (.tup [x,y])) R:=
 Qk (.inl (.inl db)) q
end
theorem Sub.name2 {r:St} {v w:Option V}:Sub (none :: none :: r) (v :: w :: r):=by
 refine ⟨rfl,fun i u h=>?_⟩
 match i with
 | 0=>cases h
 | 1=>cases h
 | i + 2=>exact h
theorem Yc.list_zs {K:PySem.W.Frag} {a:Addr} {xs zs:List V} {g:TG} {te:TE} {σb:St} {Q:VK} {H:Hp} (hl:SqL K H a xs) (hz:xs.length ≤ sizeLine) (he:zs.length=xs.length)
  (hs:∀ (i:Nat) (x z:V) (N:V→Hp→Prop),xs[i]? = some x→zs[i]? = some z→N z H→g x σb H fun σ2 H2=>Sub σb σ2∧te σ2 H2 N) (hd:∀ p,H p=none→Q (.ref p) (upd H p (.lst zs))):Yc (Itl K a) g Hu te σb Q H:=by
 refine Yc.list (fun i ys H'=>H'=H∧ys=zs.take i) hz ⟨rfl,rfl⟩ (fun i ys H' hi ⟨e0,e⟩=>?_) (fun i x ys H' hx ⟨e1,e2⟩ N hN=>?_) (fun ys H' ⟨e1,e2⟩ p hp=>?_)
 ·subst e0;exact ⟨hl,by rw [e,List.length_take];omega⟩
 ·subst e1;have hi:i < zs.length:=by rw [he];exact (List.getElem?_eq_some_iff.mp hx).1
  have hz':zs[i]? = some zs[i]:=List.getElem?_eq_getElem hi;exact hs i x zs[i] (fun y H4=>N (ys ++ [y]) H4) hx hz' (hN _ _ ⟨rfl,by rw [e2,List.take_add_one,hz'];rfl⟩)
 ·subst e1;rw [e2,← he,List.take_length];exact hd p hp
theorem Sub.name {r:St} {v:Option V}:Sub (none :: r) (v :: r):=by
 refine ⟨rfl,fun i w h=>?_⟩;cases i with
 | zero=>cases h
 | succ i=>exact h
end L2
namespace L2
open PySem PySem.Spec PyProof.Rows
theorem wb {X:Cx} {i:Nat} {x:Str} {e:Expr} {te:TE} {pos pos':Pos} (hN:X.N.Nodup) (he:PE X e te) (hi:X.N[i]? = some x:=by rfl) (hx:Loc X.env.scope x:=by exact Or.inl rfl) (hs:swapsWith e (some (.Name x pos')) pos.line X.env=pure false:=by rfl) (hf:X.fn x=true∨X.env.scope.names.lookup x=some .local:=by first | exact .inl rfl | exact .inr rfl | assumption):PS X (.Assign [.Name x pos'] e pos) (MH te (Xo i)):=En hN hi hx he hs hf
theorem xb {X:Cx} {pos:Pos} {i:Nat} {x:Str} (hN:X.N.Nodup) (hi:X.N[i]? = some x:=by rfl) (hx:Loc X.env.scope x:=by exact Or.inl rfl) (hf:X.fn x=true∨X.env.scope.names.lookup x=some .local:=by first | exact .inl rfl | exact .inr rfl | assumption):PG X (.Name x pos) (Xo i):=Du hN hi hx hf
theorem gc {X:Cx} {a b:Expr} {ta tb:TE} {pos:Pos} {r:R2} (hr:IxR X r) (ha:PE X a ta) (hb:PE X b tb) (hs:kB b:=by exact fun _ _=>rfl):PE X (.Subscript a b pos) (tOp r ta tb):=vK hr ha hb hs
theorem qb {X:Cx} {k:Nat} {f:Addr} {fd:FuncData} {ps:List Str} {sp:Sp} {x:Str} {p pos:Pos} {e:Expr} {es:List Expr} {t:TA} (F:Kb X.prog X.w X.K X.mg X.base CX0 k f fd ps sp) (hr:Ai k X.A) (hm:X.mg x=some (.ref f)) (hk:PySem.W.keepIn X.K (.ref f)=true) (hb:Rb X.K fd ps []) (ha:PA X (e :: es) t) (hg:Gl X x:=by rfl) (hdb:(x == ("__debug__" : Str))=false:=by decide) (he:starEach (e :: es) X.env=(false,eval e X.env) :: starEach es X.env:=by rfl) (hpl:(backTo pos (starEach es X.env)).any (·.1)=false:=by rfl):PE X (.Call (.Name x p) (e :: es) [] pos) (UD sp [] E0 t):=ZG F hr hg hm hk hb .nil Pd ha hdb he hpl
end L2
local macro_rules | `(tactic| walk_at "RD")=>`(tactic| ((try dsimp only [L2.JG,L2.CK,L2.Cx.nox,L2.Cx.wish,L2.Cx.block,L2.Cx.tr,L2.Cx.hn,L2.nz,L2.kJ,L2.fJ,L2.EA,L2.MF,L2.YA,L2.Vv,L2.dA,L2.JE,L2.Jc,L2.Cb,L2.Hw,L2.SB,L2.Us,L2.Nh,L2.rB,L2.zw,L2.FB,L2.gA,L2.jB,L2.Yz,L2.Iv,L2.sF,L2.kF,L2.GJ,L2.BF,L2.iI,L2.VF,L2.ZE,L2.iw,L2.KA,L2.pA,L2.bq,L2.aA,L2.bz,L2.Fw,L2.oC,L2.ZA,L2.Kv,L2.jx,L2.ww,L2.WF,L2.Rp,L2.Wv,L2.DF,L2.px,L2.Uz,L2.BC,L2.pz,L2.nw,L2.bB,L2.OF,L2.sC,L2.EF,L2.nq,L2.uq,L2.ao,L2.Ww,L2.Up,L2.Zv,L2.Xt,L2.Mt,L2.jw,L2.xB,L2.uC,L2.mw,L2.Ht,L2.Ks,L2.ow,L2.MA,L2.xw,L2.Ev,L2.vC,L2.gx,L2.Jv,L2.xz,L2.zC,L2.Tw,L2.dw,L2.Dv,L2.RA,L2.VA,L2.Vs,L2.Pw,L2.eF,L2.Vw,L2.Ew,L2.start,L2.Hz,L2.QK,L2.EK,L2.KK,L2.yK,L2.gK,L2.AK,L2.RK,L2.JK,L2.bK,L2.eK,L2.dBn,L2.dBs,L2.dJs,L2.dJn,Nat.reduceAdd,Nat.reduceSub,List.replicate]);(try simp only [L2.nz,L2.kJ,L2.fJ,L2.EA,L2.MF,L2.YA,L2.Vv,L2.dA,L2.JE,L2.Jc,L2.Cb,L2.Hw,L2.SB,L2.Us,L2.Nh,L2.rB,L2.zw,L2.FB,L2.gA,L2.jB,L2.Yz,L2.Iv,L2.sF,L2.kF,L2.GJ,L2.BF,L2.iI,L2.VF,L2.ZE,L2.iw,L2.KA,L2.pA,L2.bq,L2.aA,L2.bz,L2.Fw,L2.oC,L2.ZA,L2.Kv,L2.jx,L2.ww,L2.WF,L2.Rp,L2.Wv,L2.DF,L2.px,L2.Uz,L2.BC,L2.pz,L2.nw,L2.bB,L2.OF,L2.sC,L2.EF,L2.nq,L2.uq,L2.ao,L2.Ww,L2.Up,L2.Zv,L2.Xt,L2.Mt,L2.jw,L2.xB,L2.uC,L2.mw,L2.Ht,L2.Ks,L2.ow,L2.MA,L2.xw,L2.Ev,L2.vC,L2.gx,L2.Jv,L2.xz,L2.zC,L2.Tw,L2.dw,L2.Dv,L2.RA,L2.VA,L2.Vs,L2.Pw,L2.eF,L2.Vw,L2.Ew,L2.zH,L2.GH,L2.OJ,L2.ZF,L2.mH,L2.start,L2.Hz,List.map_cons,List.map_nil,Option.bind_none,Option.bind_some,Option.join_some,Option.join_none,List.length_cons,List.length_nil,Nat.reduceAdd,Nat.reduceSub,Nat.zero_add,List.replicate,List.cons_append,List.nil_append,List.append_nil,List.set_cons_zero,List.set_cons_succ,List.getElem?_cons_zero,List.getElem?_cons_succ,Option.some.injEq,L2.V.int.injEq,L2.V.bl.injEq,L2.V.str.injEq,L2.V.ref.injEq,L2.V.ty.injEq,exists_eq_left',exists_eq_left,exists_and_left,List.cons.injEq,and_true,true_and,and_assoc,Int.zero_add,reduceCtorEq,false_and,exists_false,and_false,ite_true,ite_false,if_true,if_false,Bool.false_eq_true,L2.vJ,L2.tyV,false_or,or_false,Bool.not_true,Bool.not_false,decide_true,decide_false])))
local macro_rules | `(tactic| walk_at "B")=>`(tactic| first | rfl | (dsimp only [L2.Cx.block];done) | (dsimp only [L2.Cx.block];exact rfl))
local macro_rules | `(tactic| walk_at "F")=>`(tactic| exact ⟨rfl,rfl,rfl,by decide +kernel,rfl,by decide +kernel,by decide +kernel⟩)
namespace My
open PySem L2
noncomputable abbrev q5:List Str:=["self","name","start","end","off","near","least"]
noncomputable abbrev q8:List Str:=["self","name"]
noncomputable abbrev q9:List Str:=["order","one","other"]
noncomputable abbrev q10:List Str:=["crossing","one","other"]
noncomputable abbrev q11:List Str:=["word","signs","most"]
noncomputable abbrev q12:List Str:=["self","good"]
noncomputable abbrev q13:List Str:=["self","kind","name","start","end","off","near","least"]
noncomputable abbrev q14:List Str:=["wanted","size","order","one","other"]
noncomputable abbrev q15:List Str:=["wanted","size","rings","order"]
noncomputable abbrev q16:List Str:=["_law_script","_law_k","_law_many"]
noncomputable abbrev q17:List Str:=["self","low","high"]
noncomputable abbrev q18:List Str:=["places","way","second"]
noncomputable abbrev q19:List Str:=["wanted","size","order","ring"]
noncomputable abbrev q20:List Str:=["word","most_figures"]
noncomputable abbrev q21:List Str:=["reader","places","start"]
noncomputable abbrev q22:List Str:=["sort","name","start","end","off","near","least"]
noncomputable abbrev q23:List Str:=["self","row","told"]
noncomputable abbrev q24:List Str:=["self","choices"]
noncomputable abbrev q25:List Str:=["places","way","place"]
noncomputable abbrev q26:List Str:=["wanted","paths"]
noncomputable abbrev q27:List Str:=["wanted","order"]
noncomputable abbrev q28:List Str:=["wanted","size","order"]
noncomputable abbrev q29:List Str:=["wanted","size","rings"]
noncomputable abbrev q30:List Str:=["crossing","wants"]
noncomputable abbrev q31:List Str:=["word","low","high"]
noncomputable abbrev q32:List Str:=["reader","ways"]
noncomputable abbrev q33:List Str:=["reader","places","ways"]
noncomputable abbrev q34:List Str:=["_law_script","_law_many"]
noncomputable abbrev q35:List Str:=["_law_script","_law_many","_law_names_here"]
noncomputable abbrev q36:List Str:=["self","crossing","wants"]
noncomputable abbrev q37:List Str:=["self","places","ways"]
noncomputable abbrev q38:List Str:=["wanted","paths","found","path","nearby"]
noncomputable abbrev q39:List Str:=["wanted","found","paths"]
noncomputable abbrev q40:List Str:=["wanted","size","order","begins","want","one","other"]
noncomputable abbrev q41:List Str:=["self","crossing","wants","ways","one","want","other","second"]
noncomputable abbrev q43:List Str:=["name","turns","crossing"]
noncomputable def top (i:Nat):Stmt:=PySem.Challenge.pw_lampway_k68_rings_of_odd_ways.main.body.getD i (.Pass ⟨0,0,0,0⟩)
noncomputable abbrev Mv:Stmt:=top 2
theorem Hs:yb ["places","way","place","steps"] q25 (jb Mv):=(by walk_at "F")
noncomputable abbrev ym:Stmt:=top 3
theorem Nr:yb q18 q18 (jb ym):=(by walk_at "F")
noncomputable abbrev wF:Stmt:=top 4
theorem Pu:yb ["crossing","one","other","way","second"] q10 (jb wF):=(by walk_at "F")
noncomputable abbrev sJ:Stmt:=top 5
theorem cC:yb ["crossing","one","other","way","second"] q10 (jb sJ):=(by walk_at "F")
noncomputable abbrev vi:Stmt:=top 9
theorem qf:yb ["wanted","order","other"] ["wanted"] (jb vi):=(by walk_at "F")
noncomputable abbrev Yi:Stmt:=top 10
theorem Km:yb q9 q9 (jb Yi):=(by walk_at "F")
noncomputable abbrev Dm:Stmt:=top 11
theorem ml:yb ["order","one","other","more"] q9 (jb Dm):=(by walk_at "F")
noncomputable abbrev Oi:Stmt:=top 12
theorem bi:yb ["wanted","size","order","one","other","step"] q14 (jb Oi):=(by walk_at "F")
noncomputable abbrev Fm:Stmt:=top 13
theorem me:yb ["wanted","size","order","ring","total","place","one","other"] q19 (jb Fm):=(by walk_at "F")
noncomputable abbrev Oc:Stmt:=top 15
theorem Ic:yb q38 q26 (jb Oc):=(by walk_at "F")
noncomputable abbrev sj:Stmt:=top 16
theorem Lh:yb q39 ["wanted"] (jb sj):=(by walk_at "F")
noncomputable abbrev Mf:Stmt:=top 17
theorem Yd:yb ["wanted","order","one","other"] q27 (jb Mf):=(by walk_at "F")
noncomputable abbrev Zd:Stmt:=top 18
theorem Rc:yb q40 q28 (jb Zd):=(by walk_at "F")
noncomputable abbrev Gs:Stmt:=top 19
theorem Md:yb ["wanted","size","rings","order","ring","pair","one","other","begins","paper","second"] q15 (jb Gs):=(by walk_at "F")
noncomputable abbrev Tk:Stmt:=top 20
theorem Zg:yb ["wanted","size","rings","want","turns"] q29 (jb Tk):=(by walk_at "F")
noncomputable abbrev Oh:Stmt:=top 21
theorem sf:yb ["wanted","total","want"] ["wanted"] (jb Oh):=(by walk_at "F")
noncomputable abbrev Wp:Stmt:=top 22
theorem cc:yb ["crossing","wants","wanted","rings","low","high","paper","begins","size","found","no_begins"] q30 (jb Wp):=(by walk_at "F")
noncomputable abbrev av:Stmt:=top 32
theorem TD:yb ["text"] ["text"] (jb av):=(by walk_at "F")
noncomputable abbrev Zi:Stmt:=top 33
theorem Pr:yb q11 q11 (jb Zi):=(by walk_at "F")
noncomputable abbrev Pn:Stmt:=top 34
theorem Ut:yb q20 q20 (jb Pn):=(by walk_at "F")
noncomputable abbrev Kt:Stmt:=top 35
theorem lq:yb ["word","low","high","number"] q31 (jb Kt):=(by walk_at "F")
noncomputable abbrev Es:Stmt:=top 36
theorem Ux:yb ["word"] ["word"] (jb Es):=(by walk_at "F")
noncomputable abbrev ko:Stmt:=top 39
theorem Vx:yb ["text"] ["text"] (jb ko):=(by walk_at "F")
noncomputable abbrev oo:Stmt:=top 53
theorem wm:yb ["reader","places"] ["reader"] (jb oo):=(by walk_at "F")
noncomputable abbrev gg:Stmt:=top 54
theorem li:yb ["reader","ways","name"] q32 (jb gg):=(by walk_at "F")
noncomputable abbrev Lq:Stmt:=top 55
theorem Tu:yb q21 q21 (jb Lq):=(by walk_at "F")
noncomputable abbrev Iq:Stmt:=top 56
theorem gv:yb q22 q22 (jb Iq):=(by walk_at "F")
noncomputable abbrev Gq:Stmt:=top 57
theorem Ud:yb ["reader","places","ways","sort","name","start","end","off","near","least"] q33 (jb Gq):=(by walk_at "F")
noncomputable abbrev Hi:Stmt:=top 58
theorem Jd:yb ["text","rows","places","ways","reader"] ["text"] (jb Hi):=(by walk_at "F")
noncomputable abbrev Wn:Stmt:=top 60
theorem Li:yb ["_law_script","_law_k","_law_many","_law_cell","_law_seed"] q16 (jb Wn):=(by walk_at "F")
noncomputable abbrev Ti:Stmt:=top 61
theorem bc:yb ["_law_script","_law_many","_law_letters","_law_word","_law_size","_law_at","_law_first","_law_some","_law_k","_law_name","_law_sign"] q34 (jb Ti):=(by walk_at "F")
noncomputable abbrev Ho:Stmt:=top 62
theorem wc:yb ["_law_script","_law_many","_law_names_here","_law_extra","_law_places","_law_base","_law_ways_here","_law_k","_law_start","_law_end","_law_numbers"] q35 (jb Ho):=(by walk_at "F")
noncomputable abbrev tH:Stmt:=top 63
theorem Ig:yb ["_law_script","_law_many","_law_turns","_law_names_here","_law_made","_law_crossing","_law_i","_law_j","_law_beside","_law_first","_law_step","_law_wants","_law_two","_law_apart_two"] ["_law_script"] (jb tH):=(by walk_at "F")
noncomputable abbrev Uf:Stmt:=Mc (top 7) 0
theorem zc:yb q41 q36 (jb Uf):=(by walk_at "F")
noncomputable abbrev Zh:Stmt:=Mc (top 38) 0
theorem Bi:yb q23 q23 (jb Zh):=(by walk_at "F")
noncomputable abbrev lh:Stmt:=Mc (top 38) 1
theorem Al:yb ["self"] ["self"] (jb lh):=(by walk_at "F")
noncomputable abbrev Pf:Stmt:=Mc (top 38) 2
theorem Qi:yb ["self"] ["self"] (jb Pf):=(by walk_at "F")
noncomputable abbrev Jl:Stmt:=Mc (top 38) 3
noncomputable abbrev ci:Stmt:=Mc (top 38) 4
theorem om:yb q12 q12 (jb ci):=(by walk_at "F")
noncomputable abbrev Og:Stmt:=Mc (top 38) 5
theorem ig:yb ["self","choices","found"] q24 (jb Og):=(by walk_at "F")
noncomputable abbrev og:Stmt:=Mc (top 38) 6
theorem Rf:yb ["self","low","high","found"] q17 (jb og):=(by walk_at "F")
noncomputable abbrev Cg:Stmt:=Mc (top 38) 7
theorem Dk:yb ["self"] ["self"] (jb Cg):=(by walk_at "F")
noncomputable abbrev Nq:Stmt:=Mc (top 41) 0
theorem Mo:yb q13 q13 (jb Nq):=(by walk_at "F")
noncomputable abbrev xl:Stmt:=Mc (top 42) 0
theorem Pk:yb q5 q5 (jb xl):=(by walk_at "F")
noncomputable abbrev Yj:Stmt:=Mc (top 42) 1
theorem qo:yb ["self"] ["self"] (jb Yj):=(by walk_at "F")
noncomputable abbrev el:Stmt:=Mc (top 42) 2
theorem Cp:yb ["self"] ["self"] (jb el):=(by walk_at "F")
noncomputable abbrev pk:Stmt:=Mc (top 43) 0
theorem Hk:yb q5 q5 (jb pk):=(by walk_at "F")
noncomputable abbrev Ui:Stmt:=Mc (top 43) 1
theorem Xm:yb ["self"] ["self"] (jb Ui):=(by walk_at "F")
noncomputable abbrev Sj:Stmt:=Mc (top 43) 2
theorem An:yb ["self"] ["self"] (jb Sj):=(by walk_at "F")
noncomputable abbrev fk:Stmt:=Mc (top 44) 0
theorem yk:yb q5 q5 (jb fk):=(by walk_at "F")
noncomputable abbrev gj:Stmt:=Mc (top 44) 1
theorem Qm:yb ["self"] ["self"] (jb gj):=(by walk_at "F")
noncomputable abbrev Wj:Stmt:=Mc (top 44) 2
theorem Dn:yb ["self"] ["self"] (jb Wj):=(by walk_at "F")
noncomputable abbrev Ii:Stmt:=Mc (top 52) 0
theorem oe:yb ["self","places","ways","number","way"] q37 (jb Ii):=(by walk_at "F")
noncomputable abbrev Gh:Stmt:=Mc (top 52) 2
theorem Cl:yb q8 q8 (jb Gh):=(by walk_at "F")
noncomputable abbrev Fh:Stmt:=Mc (top 52) 3
theorem Pl:yb q8 q8 (jb Fh):=(by walk_at "F")
set_option genInjectivity false in
set_option genInjectivity false in
structure Adr where
 {vn Ag Ls tD ye zd zg ld Ff Xc tj jd ke rh Wf Tf rj Wq Df Vh Ml dl il Th Le Gj yj Bj Qe kf Mg Uh fG Xe Gd Xb Dc Oe Ac yc Tb xc lf Ke tf Zf se Ge wf ve af vf Sd pd ic Gb Bb Zk Fc ac fc Lb:Addr}
 {sn Dg Bs DE Ae vd Kg md Gf Tc vj bd je ph ag Yf wj Tq Cf Wh Nk Xk Rk Ih Re Dj Aj xj Se jf Jg Mh xE Sf we lc gd ll Nc Qc uc Wc bg Xf Yg Xh uf qg Xg rf lg ah Ze fe Gc:FuncData}
 {Ds ak du Pj Im Uj Lo cq Ll Fo:Value}
structure Txt (w:World) (K:PySem.W.Frag) (mg:Str→Option Value) (t:Adr):Prop where
 Cv:mg "in_bow"=some (.ref t.vn)
 dn:Fun K "in_bow" "in_bow" Mv t.vn t.sn
 Nt:mg "bows_cross"=some (.ref t.Ag)
 Ei:Fun K "bows_cross" "bows_cross" ym t.Ag t.Dg
 PF:mg "meet"=some (.ref t.Ls)
 ax:Fun K "meet" "meet" wF t.Ls t.Bs
 oK:mg "gap"=some (.ref t.tD)
 IH:Fun K "gap" "gap" sJ t.tD t.DE
 Sm:mg "order_at_first"=some (.ref t.ye)
 Jf:Fun K "order_at_first" "order_at_first" vi t.ye t.Ae
 Ci:mg "in_some_order"=some (.ref t.zd)
 Pe:Fun K "in_some_order" "in_some_order" Yi t.zd t.vd
 Cm:mg "with_ahead"=some (.ref t.zg)
 Pg:Fun K "with_ahead" "with_ahead" Dm t.zg t.Kg
 fj:mg "step_in_order"=some (.ref t.ld)
 Ve:Fun K "step_in_order" "step_in_order" Oi t.ld t.md
 Vr:mg "ring_bears"=some (.ref t.Ff)
 Ri:Fun K "ring_bears" "ring_bears" Fm t.Ff t.Gf
 Fi:mg "paths_longer_by_one"=some (.ref t.Xc)
 Vd:Fun K "paths_longer_by_one" "paths_longer_by_one" Oc t.Xc t.Tc
 Sx:mg "rings_of"=some (.ref t.tj)
 um:Fun K "rings_of" "rings_of" sj t.tj t.vj
 Nj:mg "pair_without_order"=some (.ref t.jd)
 pe:Fun K "pair_without_order" "pair_without_order" Mf t.jd t.bd
 tm:mg "begins_in_order"=some (.ref t.ke)
 pf:Fun K "begins_in_order" "begins_in_order" Zd t.ke t.je
 Oo:mg "settled"=some (.ref t.rh)
 nh:Fun K "settled" "settled" Gs t.rh t.ph
 Sh:mg "settled_for"=some (.ref t.Wf)
 Ie:Fun K "settled_for" "settled_for" Tk t.Wf t.ag
 Qq:mg "long_enough"=some (.ref t.Tf)
 Jh:Fun K "long_enough" "long_enough" Oh t.Tf t.Yf
 Xl:mg "shortest"=some (.ref t.rj)
 Eh:Fun K "shortest" "shortest" Wp t.rj t.wj
 yH:mg "words"=some (.ref t.Wq)
 Xu:Fun K "words" "words" av t.Wq t.Tq
 Em:mg "is_made_of"=some (.ref t.Df)
 Eg:Fun K "is_made_of" "is_made_of" Zi t.Df t.Cf
 jv:mg "is_number"=some (.ref t.Vh)
 uk:Fun K "is_number" "is_number" Pn t.Vh t.Wh
 wz:mg "figured"=some (.ref t.Ml)
 Kn:Fun K "figured" "figured" Kt t.Ml t.Nk
 uz:mg "is_name"=some (.ref t.dl)
 Mn:Fun K "is_name" "is_name" Es t.dl t.Xk
 wC:mg "readers"=some (.ref t.il)
 zo:Fun K "readers" "readers" ko t.il t.Rk
 sv:mg "read_ring"=some (.ref t.Th)
 Ek:Fun K "read_ring" "read_ring" oo t.Th t.Ih
 Zn:mg "read_new_name"=some (.ref t.Le)
 ng:Fun K "read_new_name" "read_new_name" gg t.Le t.Re
 my:mg "read_end"=some (.ref t.Gj)
 Tl:Fun K "read_end" "read_end" Lq t.Gj t.Dj
 Mx:mg "made_way"=some (.ref t.yj)
 Ul:Fun K "made_way" "made_way" Iq t.yj t.Aj
 Jx:mg "read_way"=some (.ref t.Bj)
 mm:Fun K "read_way" "read_way" Gq t.Bj t.xj
 Cn:mg "read_crossing"=some (.ref t.Qe)
 eg:Fun K "read_crossing" "read_crossing" Hi t.Qe t.Se
 qc:mg "_law_draw"=some (.ref t.kf)
 Sb:Fun K "_law_draw" "_law_draw" Wn t.kf t.jf
 Zt:mg "_law_names"=some (.ref t.Mg)
 bj:Fun K "_law_names" "_law_names" Ti t.Mg t.Jg
 uu:mg "_law_ways"=some (.ref t.Uh)
 xk:Fun K "_law_ways" "_law_ways" Ho t.Uh t.Mh
 mK:mg "law"=some (.ref t.fG)
 cK:Fun K "law" "law" tH t.fG t.xE
 mE:mg "Wanted"=some (.ref t.Gb)
 AD:PySem.W.findIn K (.ref t.Gb) "__init__"=some (some (.ref t.Xe))
 El:Fun K "__init__" "Wanted.__init__" Uf t.Xe t.Sf
 su:mg "RowReader"=some (.ref t.Bb)
 Ty:PySem.W.findIn K (.ref t.Bb) "__init__"=some (some (.ref t.Gd))
 ji:Fun K "__init__" "RowReader.__init__" Zh t.Gd t.we
 xx:PySem.W.findIn K (.ref t.Bb) "ahead"=some (some (.ref t.Xb))
 Bh:Fun K "ahead" "RowReader.ahead" lh t.Xb t.lc
 iu:PySem.W.findIn K (.ref t.Bb) "has_more"=some (some (.ref t.Dc))
 Nf:Fun K "has_more" "RowReader.has_more" Pf t.Dc t.gd
 Aw:PySem.W.findIn K (.ref t.Bb) "refuse"=some (some (.ref t.Oe))
 Dw:Fun K "refuse" "RowReader.refuse" Jl t.Oe t.ll
 Vy:PySem.W.findIn K (.ref t.Bb) "take"=some (some (.ref t.Ac))
 Yh:Fun K "take" "RowReader.take" ci t.Ac t.Nc
 Yw:PySem.W.findIn K (.ref t.Bb) "one_of"=some (some (.ref t.yc))
 Ng:Fun K "one_of" "RowReader.one_of" Og t.yc t.Qc
 lu:PySem.W.findIn K (.ref t.Bb) "figures"=some (some (.ref t.Tb))
 fg:Fun K "figures" "RowReader.figures" og t.Tb t.uc
 Iw:PySem.W.findIn K (.ref t.Bb) "finish"=some (some (.ref t.xc))
 Ug:Fun K "finish" "RowReader.finish" Cg t.xc t.Wc
 cH:mg "Way"=some (.ref t.Zk)
 LH:PySem.W.findIn K (.ref t.Zk) "__init__"=some (some (.ref t.lf))
 xq:Fun K "__init__" "Way.__init__" Nq t.lf t.bg
 sE:mg "CarWay"=some (.ref t.Fc)
 HD:PySem.W.findIn K (.ref t.Fc) "__init__"=some (some (.ref t.Ke))
 gl:Fun K "__init__" "CarWay.__init__" xl t.Ke t.Xf
 OC:PySem.W.findIn K (.ref t.Fc) "ready"=some (some (.ref t.tf))
 Tj:Fun K "ready" "CarWay.ready" Yj t.tf t.Yg
 eD:PySem.W.findIn K (.ref t.Fc) "fade"=some (some (.ref t.Zf))
 Kk:Fun K "fade" "CarWay.fade" el t.Zf t.Xh
 VB:mg "FootWay"=some (.ref t.ac)
 KC:PySem.W.findIn K (.ref t.ac) "__init__"=some (some (.ref t.se))
 jk:Fun K "__init__" "FootWay.__init__" pk t.se t.uf
 vA:PySem.W.findIn K (.ref t.ac) "ready"=some (some (.ref t.Ge))
 cj:Fun K "ready" "FootWay.ready" Ui t.Ge t.qg
 LC:PySem.W.findIn K (.ref t.ac) "fade"=some (some (.ref t.wf))
 ck:Fun K "fade" "FootWay.fade" Sj t.wf t.Xg
 Bz:mg "TramWay"=some (.ref t.fc)
 QC:PySem.W.findIn K (.ref t.fc) "__init__"=some (some (.ref t.ve))
 Xj:Fun K "__init__" "TramWay.__init__" fk t.ve t.rf
 OA:PySem.W.findIn K (.ref t.fc) "ready"=some (some (.ref t.af))
 Pi:Fun K "ready" "TramWay.ready" gj t.af t.lg
 IC:PySem.W.findIn K (.ref t.fc) "fade"=some (some (.ref t.vf))
 ik:Fun K "fade" "TramWay.fade" Wj t.vf t.ah
 Hx:mg "Crossing"=some (.ref t.Lb)
 vB:PySem.W.findIn K (.ref t.Lb) "__init__"=some (some (.ref t.Sd))
 Ki:Fun K "__init__" "Crossing.__init__" Ii t.Sd t.Ze
 Lx:PySem.W.findIn K (.ref t.Lb) "number"=some (some (.ref t.pd))
 mh:Fun K "number" "Crossing.number" Gh t.pd t.fe
 Ex:PySem.W.findIn K (.ref t.Lb) "called"=some (some (.ref t.ic))
 qh:Fun K "called" "Crossing.called" Fh t.ic t.Gc
 gh:Cls K t.Gb
 dD:Mk K t.Gb t.Xe
 ek:Nb K t.Gb "many"
 gi:Nb K t.Gb "alones"
 jj:Nb K t.Gb "steps"
 Ab:Cls K t.Bb
 nu:Mk K t.Bb t.Gd
 ee:Lr K t.Bb "ahead" t.Xb
 Hj:Lr K t.Bb "has_more" t.Dc
 qw:Lr K t.Bb "refuse" t.Oe
 Kf:Lr K t.Bb "take" t.Ac
 Lg:Lr K t.Bb "one_of" t.yc
 rc:Lr K t.Bb "figures" t.Tb
 Rg:Lr K t.Bb "finish" t.xc
 Tm:Nb K t.Bb "row"
 Ch:Nb K t.Bb "told"
 Ye:Nb K t.Bb "place"
 bL:Cls K t.Zk
 bH:Nb K t.Zk "kind"
 AG:Nb K t.Zk "name"
 YF:Nb K t.Zk "start"
 PH:Nb K t.Zk "end"
 NH:Nb K t.Zk "off"
 LG:Nb K t.Zk "near"
 IF:Nb K t.Zk "least"
 Go:Cls K t.Fc
 qE:Mk K t.Fc t.Ke
 Bp:Lr K t.Fc "ready" t.tf
 Pq:Lr K t.Fc "fade" t.Zf
 Jp:Nb K t.Fc "kind"
 Ep:Nb K t.Fc "name"
 Ko:Nb K t.Fc "start"
 zr:Nb K t.Fc "end"
 Cr:Nb K t.Fc "off"
 Lp:Nb K t.Fc "near"
 Gn:Nb K t.Fc "least"
 Ql:Cls K t.ac
 Jz:Mk K t.ac t.se
 mo:Lr K t.ac "ready" t.Ge
 gp:Lr K t.ac "fade" t.wf
 Sn:Nb K t.ac "kind"
 Qn:Nb K t.ac "name"
 Mm:Nb K t.ac "start"
 Zo:Nb K t.ac "end"
 pp:Nb K t.ac "off"
 Bo:Nb K t.ac "near"
 Pm:Nb K t.ac "least"
 Yl:Cls K t.fc
 JA:Mk K t.fc t.ve
 Eo:Lr K t.fc "ready" t.af
 yp:Lr K t.fc "fade" t.vf
 Jn:Nb K t.fc "kind"
 vo:Nb K t.fc "name"
 Jm:Nb K t.fc "start"
 Mp:Nb K t.fc "end"
 Gp:Nb K t.fc "off"
 Yn:Nb K t.fc "near"
 Zm:Nb K t.fc "least"
 Cc:Cls K t.Lb
 Wx:Mk K t.Lb t.Sd
 Sl:Lr K t.Lb "number" t.pd
 kd:Lr K t.Lb "called" t.ic
 Bg:Nb K t.Lb "places"
 ii:Nb K t.Lb "ways"
 kg:Nb K t.Lb "numbers"
 ID:t.Zk ≠ t.Fc
 NC:t.Zk ≠ t.ac
 MC:t.Zk ≠ t.fc
 oh:t.Fc ≠ t.ac
 kh:t.Fc ≠ t.fc
 Fg:t.ac ≠ t.fc
 km:aL K t.Zk "__init__" t.lf
 CA:mg "FIGURES"=some t.Ds
 Lz:ad (.str (Str.ofString "0123456789")) t.Ds
 qp:mg "LEAST_PLACES"=some t.ak
 Ip:ad (.int 2) t.ak
 nC:mg "LETTERS"=some t.du
 lB:ad (.str (Str.ofString "abcdefghijklmnopqrstuvwxyz")) t.du
 ip:mg "MOST_FIGURES"=some t.Pj
 Wo:ad (.int 3) t.Pj
 Wr:mg "MOST_LEAST"=some t.Im
 As:ad (.int 60) t.Im
 vp:mg "MOST_LETTERS"=some t.Uj
 Dp:ad (.int 8) t.Uj
 Gu:mg "MOST_NEAR"=some t.Lo
 Vu:ad (.int 30) t.Lo
 qy:mg "MOST_OFF"=some t.cq
 Jy:ad (.int 30) t.cq
 ir:mg "MOST_PLACES"=some t.Ll
 Sr:ad (.int 99) t.Ll
 wu:mg "MOST_WAYS"=some t.Fo
 xv:ad (.int 12) t.Fo
 MK:mg "all"=none
 tI:mg "dict"=none
 mf:mg "enumerate"=none
 GK:mg "int"=none
 uo:mg "len"=none
 sI:mg "list"=none
 WG:mg "max"=none
 Hf:mg "range"=none
 aK:mg "set"=none
 MD:mg "str"=none
 BK:mg "sum"=none
 LK:mg "zip"=none
 II:∀ (s:Shared) (u:Value),BindsTo s t.xE ⟨[u],[]⟩ [("_law_script",u)]
section
variable {w:World} {K:PySem.W.Frag} {mg:Str→Option Value} {t:Adr} (T:Txt w K mg t)
include T
theorem Txt.lx:Rb K t.sn q25 []:=T.dn.binds fun _ _ _ _ _ _=>us3 fun _ _ _=>rfl
theorem Txt.fu:Rb K t.Dg q18 []:=T.Ei.binds fun _ _ _ _ _ _=>us3 fun _ _ _=>rfl
theorem Txt.bF:Rb K t.Bs q10 []:=T.ax.binds fun _ _ _ _ _ _=>us3 fun _ _ _=>rfl
theorem Txt.NK:Rb K t.DE q10 []:=T.IH.binds fun _ _ _ _ _ _=>us3 fun _ _ _=>rfl
theorem Txt.bn:Rb K t.Ae ["wanted"] []:=T.Jf.binds fun _ _ _ _ _ _=>us1 fun _=>rfl
theorem Txt.Vi:Rb K t.vd q9 []:=T.Pe.binds fun _ _ _ _ _ _=>us3 fun _ _ _=>rfl
theorem Txt.Hm:Rb K t.Kg q9 []:=T.Pg.binds fun _ _ _ _ _ _=>us3 fun _ _ _=>rfl
theorem Txt.Wi:Rb K t.md q14 []:=T.Ve.binds fun _ _ _ _ _ _=>us5 fun _ _ _ _ _=>rfl
theorem Txt.bu:Rb K t.Gf q19 []:=T.Ri.binds fun _ _ _ _ _ _=>us4 fun _ _ _ _=>rfl
theorem Txt.Si:Rb K t.Tc q26 []:=T.Vd.binds fun _ _ _ _ _ _=>us2 fun _ _=>rfl
theorem Txt.oy:Rb K t.vj ["wanted"] []:=T.um.binds fun _ _ _ _ _ _=>us1 fun _=>rfl
theorem Txt.Oj:Rb K t.bd q27 []:=T.pe.binds fun _ _ _ _ _ _=>us2 fun _ _=>rfl
theorem Txt.am:Rb K t.je q28 []:=T.pf.binds fun _ _ _ _ _ _=>us3 fun _ _ _=>rfl
theorem Txt.io:Rb K t.ph q15 []:=T.nh.binds fun _ _ _ _ _ _=>us4 fun _ _ _ _=>rfl
theorem Txt.Kh:Rb K t.ag q29 []:=T.Ie.binds fun _ _ _ _ _ _=>us3 fun _ _ _=>rfl
theorem Txt.Gr:Rb K t.Yf ["wanted"] []:=T.Jh.binds fun _ _ _ _ _ _=>us1 fun _=>rfl
theorem Txt.Wl:Rb K t.wj q30 []:=T.Eh.binds fun _ _ _ _ _ _=>us2 fun _ _=>rfl
theorem Txt.dH:Rb K t.Tq ["text"] []:=T.Xu.binds fun _ _ _ _ _ _=>us1 fun _=>rfl
theorem Txt.zm:Rb K t.Cf q11 []:=T.Eg.binds fun _ _ _ _ _ _=>us3 fun _ _ _=>rfl
theorem Txt.lv:Rb K t.Wh q20 []:=T.uk.binds fun _ _ _ _ _ _=>us2 fun _ _=>rfl
theorem Txt.dC:Rb K t.Nk q31 []:=T.Kn.binds fun _ _ _ _ _ _=>us3 fun _ _ _=>rfl
theorem Txt.AC:Rb K t.Xk ["word"] []:=T.Mn.binds fun _ _ _ _ _ _=>us1 fun _=>rfl
theorem Txt.RB:Rb K t.Rk ["text"] []:=T.zo.binds fun _ _ _ _ _ _=>us1 fun _=>rfl
theorem Txt.qv:Rb K t.Ih ["reader"] []:=T.Ek.binds fun _ _ _ _ _ _=>us1 fun _=>rfl
theorem Txt.Fn:Rb K t.Re q32 []:=T.ng.binds fun _ _ _ _ _ _=>us2 fun _ _=>rfl
theorem Txt.Nx:Rb K t.Dj q21 []:=T.Tl.binds fun _ _ _ _ _ _=>us3 fun _ _ _=>rfl
theorem Txt.cy:Rb K t.Aj q22 []:=T.Ul.binds fun _ _ _ _ _ _=>us7 fun _ _ _ _ _ _ _=>rfl
theorem Txt.Ay:Rb K t.xj q33 []:=T.mm.binds fun _ _ _ _ _ _=>us3 fun _ _ _=>rfl
theorem Txt.Bn:Rb K t.Se ["text"] []:=T.eg.binds fun _ _ _ _ _ _=>us1 fun _=>rfl
theorem Txt.kc:Rb K t.jf q16 []:=T.Sb.binds fun _ _ _ _ _ _=>us3 fun _ _ _=>rfl
theorem Txt.At:Rb K t.Jg q34 []:=T.bj.binds fun _ _ _ _ _ _=>us2 fun _ _=>rfl
theorem Txt.Au:Rb K t.Mh q35 []:=T.xk.binds fun _ _ _ _ _ _=>us3 fun _ _ _=>rfl
theorem Txt.Mr:Rb K t.Sf q36 []:=T.El.binds fun _ _ _ _ _ _=>us3 fun _ _ _=>rfl
theorem Txt.Wm:Rb K t.we q23 []:=T.ji.binds fun _ _ _ _ _ _=>us3 fun _ _ _=>rfl
theorem Txt.ae:Rb K t.lc ["self"] []:=T.Bh.binds fun _ _ _ _ _ _=>us1 fun _=>rfl
theorem Txt.Jj:Rb K t.gd ["self"] []:=T.Nf.binds fun _ _ _ _ _ _=>us1 fun _=>rfl
theorem Txt.Lf:Rb K t.Nc q12 []:=T.Yh.binds fun _ _ _ _ _ _=>us2 fun _ _=>rfl
theorem Txt.Tg:Rb K t.Qc q24 []:=T.Ng.binds fun _ _ _ _ _ _=>us2 fun _ _=>rfl
theorem Txt.jc:Rb K t.uc q17 []:=T.fg.binds fun _ _ _ _ _ _=>us3 fun _ _ _=>rfl
theorem Txt.Hg:Rb K t.Wc ["self"] []:=T.Ug.binds fun _ _ _ _ _ _=>us1 fun _=>rfl
theorem Txt.cm:Rb K t.bg q13 []:=T.xq.binds fun _ _ _ _ _ _=>us8 fun _ _ _ _ _ _ _ _=>rfl
theorem Txt.Er:Rb K t.Xf q5 []:=T.gl.binds fun _ _ _ _ _ _=>us7 fun _ _ _ _ _ _ _=>rfl
theorem Txt.Ap:Rb K t.Yg ["self"] []:=T.Tj.binds fun _ _ _ _ _ _=>us1 fun _=>rfl
theorem Txt.cr:Rb K t.Xh ["self"] []:=T.Kk.binds fun _ _ _ _ _ _=>us1 fun _=>rfl
theorem Txt.Yo:Rb K t.uf q5 []:=T.jk.binds fun _ _ _ _ _ _=>us7 fun _ _ _ _ _ _ _=>rfl
theorem Txt.bo:Rb K t.qg ["self"] []:=T.cj.binds fun _ _ _ _ _ _=>us1 fun _=>rfl
theorem Txt.ap:Rb K t.Xg ["self"] []:=T.ck.binds fun _ _ _ _ _ _=>us1 fun _=>rfl
theorem Txt.jp:Rb K t.rf q5 []:=T.Xj.binds fun _ _ _ _ _ _=>us7 fun _ _ _ _ _ _ _=>rfl
theorem Txt.wo:Rb K t.lg ["self"] []:=T.Pi.binds fun _ _ _ _ _ _=>us1 fun _=>rfl
theorem Txt.lp:Rb K t.ah ["self"] []:=T.ik.binds fun _ _ _ _ _ _=>us1 fun _=>rfl
theorem Txt.Qo:Rb K t.Ze q37 []:=T.Ki.binds fun _ _ _ _ _ _=>us3 fun _ _ _=>rfl
theorem Txt.lm:Rb K t.fe q8 []:=T.mh.binds fun _ _ _ _ _ _=>us2 fun _ _=>rfl
theorem Txt.qd:Rb K t.Gc q8 []:=T.qh.binds fun _ _ _ _ _ _=>us2 fun _ _=>rfl
end
noncomputable def Hh (ns:List Int) (k m:Int):Int:=
 ((((if 0 < (ns.length:Int) then ns.getD (k % (ns.length:Int)).toNat 0 else 0) % 1000003 + 31 * k * k + 1) * 48271 % 999983 * 7919) % 524287) % m
theorem cg (ns:List Int) (k:Int) {m:Int} (h:0 < m):0 ≤ Hh ns k m:=Int.emod_nonneg _ (by omega)
theorem jg (ns:List Int) (k:Int) {m:Int} (h:0 < m):Hh ns k m < m:=Int.emod_lt_of_pos _ h
noncomputable def Wg (K:PySem.W.Frag) (a:Addr) (ns:List Int):Sp:=fun vs H Q _=>∃ k m,vs=[.ref a,.int k,.int m]∧Sc K a ns H∧(0 ≤ k∧k < 1000000)∧0 < m∧Q (.int (Hh ns k m)) H
section
variable {P:Program} {w:World} {K:PySem.W.Frag} {mg:Str→Option Value} {base:Heap} {t:Adr}
theorem uv (T:Txt w K mg t) (a:Addr) (ns:List Int) (h63:ns.length ≤ 63):Kb P w K mg base CX0 1 t.kf t.jf q16 (Wg K a ns):=by
 refine T.Sb.ok Li (fun vs H Q E h=>?_) (fun _ _ _ s H vs Q E hr h=>?_)
 ·obtain ⟨k,m,rfl,_⟩:=h;rfl
 obtain ⟨k,m,rfl,S,⟨h0,h1⟩,hm,q⟩:=h;refine ⟨_,(cb (wb (i:=3) Li.nd (Yq (Vb Ry (Ed Vc rfl T.uo yd (ab (pv 0) gb)) lb (Zb _)) (gc qe (pv 0) (Jb gf (pv 1) (Ed Vc rfl T.uo yd (ab (pv 0) gb)))) lb))
   (cb (wb (i:=4) Li.nd (Jb Bd (Jb Bd (Jb gf (pv 3) lb) (Jb Bf (Jb Bf lb (pv 1)) (pv 1))) lb))
   (ib (Fb (Jb gf (Jb gf (Jb Bf (Jb gf (Jb Bf (pv 4) lb) lb) lb) lb) (pv 2)))))),?_⟩
 walk_at "RD";refine ⟨_,.inl S.seq,?_⟩;rw [List.length_map];have hkk:(0:Int) ≤ k * k∧k * k < 1000000 * 1000000:=⟨Int.mul_nonneg h0 h0,Int.mul_lt_mul' (by omega) h1 h0 (by decide)⟩;have fin:∀ i:Int,(0:Int) < 1000003∧yG 31 k∧yG (31 * k) k∧yG (i % 1000003 + 31 * k * k + 1) 48271∧(0:Int) < 999983∧yG ((i % 1000003 + 31 * k * k + 1) * 48271 % 999983) 7919∧(0:Int) < 524287∧0 < m:=by
  intro i;refine ⟨by decide,.inl (by decide),.inr (by omega),.inr (by decide),by decide,.inr (by decide),by decide,hm⟩
 by_cases c:(0:Int) < (ns.length:Int)
 ·rw [if_pos (decide_eq_true c)];have hk:0 ≤ k % (ns.length:Int)∧k % (ns.length:Int) < (ns.length:Int):=⟨Int.emod_nonneg _ (by omega),Int.emod_lt_of_pos _ c⟩;refine ⟨_,.inl S.seq,by rw [List.length_map];exact c,_,S.seq,?_⟩;rw [List.length_map];have hj:(k % (ns.length:Int)).toNat < ns.length:=by omega
  refine ⟨.int ns[(k % (ns.length:Int)).toNat],?_,_,rfl,?_⟩
  ·have e:=Ub (xs:=ns.map V.int) (j:=(k % (ns.length:Int)).toNat) (v:=.int ns[(k % (ns.length:Int)).toNat]) (by rw [List.getElem?_map,List.getElem?_eq_getElem hj] <;> rfl);rwa [Int.toNat_of_nonneg hk.1] at e
  ·obtain ⟨f1,f2,f3,f4,f5,f6,f7,f8⟩:=fin ns[(k % (ns.length:Int)).toNat];refine ⟨f1,f2,f3,f4,f5,f6,f7,f8,?_⟩;have e:Hh ns k m=(((ns[(k % (ns.length:Int)).toNat] % 1000003 + 31 * k * k + 1) * 48271 % 999983 * 7919) % 524287) % m:=by
    unfold Hh;rw [if_pos c,List.getD_eq_getElem?_getD,List.getElem?_eq_getElem hj];rfl
   rw [← e];exact q
 ·rw [if_neg (by simpa using c)];obtain ⟨f1,f2,f3,f4,f5,f6,f7,f8⟩:=fin 0;refine ⟨f1,f2,f3,f4,f5,f6,f7,f8,?_⟩;have e:Hh ns k m=(((0 % 1000003 + 31 * k * k + 1) * 48271 % 999983 * 7919) % 524287) % m:=by
   unfold Hh;rw [if_neg c]
  rw [← e];exact q
end
theorem QJ {w:Str}:w=Str.ofString "" ↔ w.length=0:=by
 constructor
 ·rintro rfl;decide +kernel
 ·intro h;have e:w.cps=#[]:=Array.eq_empty_of_size_eq_zero h;have e2:(Str.ofString "").cps=#[]:=by decide +kernel
  cases w;cases h2:Str.ofString "";rw [h2] at e2;simp only at e e2;rw [e,e2]
noncomputable def inL (sg:Str) (c:Nat):Bool:=!(Builtin.Str.occurrences sg (Xr c) 0 sg.length 1).isEmpty
theorem Bu (sg:Str) (c:Nat):inL sg c=decide (c ∈ sg.cps.toList):=StrLaws.found_one sg c
noncomputable def made (w sg:Str) (m:Int):Bool:=if w=Str.ofString "" then false else if m < (w.length:Int) then false else w.cps.toList.all (inL sg)
noncomputable def Do:Sp:=fun vs H Q _=>∃ w sg m,vs=[.str w,.str sg,.int m]∧w.length ≤ 1000∧NoT H∧Q (.bl (made w sg m)) H
noncomputable def DD:Sp:=fun vs H Q _=>∃ w sg m,vs=[.str w,.str sg,.int m]∧w.length ≤ 1000∧∀ H',Mb H H'→Q (.bl (made w sg m)) H'
section
variable {P:Program} {w:World} {K:PySem.W.Frag} {mg:Str→Option Value} {base:Heap} {t:Adr}
theorem rC (T:Txt w K mg t):Kb P w K mg base CX0 1 t.Df t.Cf q11 Do:=by
 refine Kb.forget (sp:=DD) ?_ fun vs H Q E h=>?_
 ·refine T.Eg.ok Pr (fun vs H Q E h=>?_) (fun _ _ _ s H vs Q E hr h=>?_)
  ·obtain ⟨w,sg,m,rfl,_⟩:=h;rfl
  obtain ⟨w,sg,m,rfl,hz,q⟩:=h;have hz':w.length ≤ sizeLine:=Nat.le_trans hz (by decide);refine ⟨_,(cb (Ee (PW.pt (ND (Vb Gk (pv 0) ud (Zb _)) (Ow (Vb Ry (Ed js rfl T.uo yd (ab (pv 0) gb)) (pv 2) (Zb _))))) (ib (Fb Fp)) Yb)
   (ib (Fb (Ed (aE rfl) rfl T.MK Gy (ab (eh rfl (xI (pv 0)) (Hc (sc:=jb Zi) rfl (by decide +kernel)) (N:=["sign","signs"]) (sel:=[none,some 1]) (Cd (M:=q11) (by decide +kernel)) (Blk.of (fun _ _ _ _=>(xb (i:=0) (xi (N:=["sign","signs"]) (by decide +kernel) rfl))) (fun _ _ _ _=>⟨_,wg,by walk_at "B"⟩) (fun _ _ _ _=>⟨_,(Be iB (pv 0) (pv 1) (by with_unfolding_all rfl)),by walk_at "B"⟩))) gb))))),?_⟩
  walk_at "RD";refine Qb (decide (w=Str.ofString "") || decide (m < (w.length:Int))) (fun Q hQ=>?_) (fun hb=>?_) (fun hb=>?_)
  ·walk_at "RD";by_cases c:w=Str.ofString ""
   ·rw [if_pos (decide_eq_true c)];rw [decide_eq_true c,Bool.true_or] at hQ;exact hQ
   ·rw [if_neg (by simpa using c)];rw [decide_eq_false c,Bool.false_or] at hQ;exact ⟨hz',hQ⟩
  ·walk_at "RD";have e:made w sg m=false:=by
    unfold made;simp only [Bool.or_eq_true,decide_eq_true_eq] at hb;by_cases c:w=Str.ofString ""
    ·rw [if_pos c]
    ·rw [if_neg c,if_pos (hb.resolve_left c)]
   have:=q H (Mb.refl H);rw [e] at this;exact this
  ·walk_at "RD";have e:made w sg m=w.cps.toList.all (inL sg):=by
    unfold made;simp only [Bool.or_eq_false_iff,decide_eq_false_iff_not] at hb;rw [if_neg hb.1,if_neg hb.2]
   refine Yc.its_map (fun x=>match x with | .str y=>.bl (!(Builtin.Str.occurrences sg y 0 sg.length 1).isEmpty) | _=>.non) (by rw [Lk];exact hz') (fun i x N hx hN=>?_) (fun p hp=>?_)
   ·unfold si at hx;rw [List.getElem?_map] at hx;cases hc:w.cps.toList[i]? with
    | none=>rw [hc] at hx;cases hx
    | some c=>
     rw [hc] at hx;have hx':V.str (Xr c)=x:=Option.some.inj hx;subst hx';walk_at "RD";exact ⟨Sub.name,hN⟩
   ·refine ⟨p,rfl,w.cps.toList.map (inL sg),SqL.of ?_,?_⟩
    ·rw [db];unfold si;rw [List.map_map,List.map_map];rfl
    ·have:=q (upd H p (.lst (List.map (fun x=>match x with | .str y=>.bl (!(Builtin.Str.occurrences sg y 0 sg.length 1).isEmpty) | _=>.non) (si w)))) (fb hp);rw [e] at this;rw [List.all_map];exact this
 ·obtain ⟨w,sg,m,e,hz,nt,q⟩:=h;exact ⟨nt,w,sg,m,e,hz,fun H' sm=>⟨sm,q⟩⟩
end
noncomputable abbrev nH:Str:=Str.ofString "0123456789"
noncomputable def Om (c:Nat):Bool:=decide (48 ≤ c∧c ≤ 57)
theorem iD (c:Nat):inL nH c=Om c:=by
 rw [Bu,show nH.cps.toList=List.range' 48 10 by decide +kernel];unfold Om;refine decide_eq_decide.mpr ?_;rw [List.mem_range'_1];exact and_congr_right fun _=>show c < 58↔c ≤ 57 from Nat.lt_succ_iff
noncomputable abbrev cs (w:Str):List Nat:=w.cps.toList
theorem iz (w:Str):(cs w).length=w.length:=by simp [cs,Str.length]
noncomputable def okB (w:Str):Bool:=decide (1 ≤ (cs w).length) && decide ((cs w).length ≤ 3) && (cs w).all Om && (decide ((cs w).length ≤ 1) || decide ((cs w).headD 0 ≠ 48))
noncomputable abbrev val (w:Str):Int:=((NumText.digitsVal (cs w):Nat):Int)
noncomputable def JC (w:Str) (lo hi:Int):V:=if okB w && !(decide (val w < lo) || decide (hi < val w)) then .int (val w) else .non
theorem dz {w:Str} {c:Nat}:w=⟨#[c]⟩↔cs w=[c]:=by
 constructor
 ·rintro rfl;rfl
 ·intro h;cases w with
  | mk a=>
   have e:a=#[c]:=Array.toList_inj.mp h;rw [e]
theorem Ku:Str.ofString "0"=⟨#[48]⟩:=by decide +kernel
theorem Rt (w:Str):made w nH 3=(decide (1 ≤ (cs w).length) && decide ((cs w).length ≤ 3) && (cs w).all Om):=by
 unfold made;have e:(inL nH)=Om:=funext iD;rw [e];by_cases h1:w=Str.ofString ""
 ·have h2:=QJ.mp h1;rw [if_pos h1,iz,h2];rfl
 ·have h2:¬ w.length=0:=fun z=>h1 (QJ.mpr z)
  rw [if_neg h1,iz];by_cases h3:(3:Int) < (w.length:Int)
  ·rw [if_pos h3,decide_eq_false (show ¬ w.length ≤ 3 by omega),Bool.and_false,Bool.false_and]
  ·rw [if_neg h3,decide_eq_true (show 1 ≤ w.length by omega),decide_eq_true (show w.length ≤ 3 by omega)];rfl
theorem Dr {l:List Nat} (h:l.all Om=true):NumText.AllDigits l:=fun c hc=>by
 have:=List.all_eq_true.mp h c hc;simpa [Om] using this
theorem XI {w:Str} (h:okB w=true):(1 ≤ (cs w).length∧(cs w).length ≤ 3)∧(cs w).all Om=true:=by
 unfold okB at h;simp only [Bool.and_eq_true,decide_eq_true_eq] at h;exact h.1
noncomputable def LB:Sp:=fun vs H Q _=>∃ w,vs=[.str w,.int 3]∧w.length ≤ 1000∧NoT H∧Q (.bl (okB w)) H
noncomputable def UE:Sp:=fun vs H Q _=>∃ w lo hi,vs=[.str w,.int lo,.int hi]∧w.length ≤ 1000∧NoT H∧Q (JC w lo hi) H
section
variable {P:Program} {w:World} {K:PySem.W.Frag} {mg:Str→Option Value} {base:Heap} {t:Adr}
theorem RI (T:Txt w K mg t):Kb P w K mg base CX0 2 t.Vh t.Wh q20 LB:=by
 have g14:Kb P w K mg base CX0 1 t.Df t.Cf q11 Do:=rC T;refine T.uk.ok Ut (fun vs H Q E h=>?_) (fun _ _ _ s H vs Q E hr h=>?_)
 ·obtain ⟨w,rfl,_⟩:=h;rfl
 obtain ⟨w,rfl,hz,nt,q⟩:=h;have hz':w.length ≤ sizeLine:=Nat.le_trans hz (by decide);refine ⟨_,(cb (Ee (Aq (Bm (qb g14 hr T.Em T.Eg.kp T.zm (ab (pv 0) (ab (Vg rfl T.CA T.Lz) (ab (pv 1) gb)))))) (ib (Fb Fp)) Yb)
   (ib (Fb (FE (Be Gk (pv 0) ud (Zb _)) (Dq (Be Zu (gc Sz (pv 0) lb) ud (Zb _))))))),?_⟩
 refine Qb (!made w nH 3) (fun Q hQ=>?_) (fun hb=>?_) (fun hb=>?_)
 ·(walk_at "RD"; repeat (dsimp only [Do];walk_at "RD"));exact ⟨hz,nt,hQ⟩
 ·walk_at "RD";have e:okB w=false:=by
   have hb':made w nH 3=false:=by simpa using hb
   rw [Rt] at hb';unfold okB;rw [hb'];rfl
  rw [e] at q;exact q
 ·have hb':made w nH 3=true:=by simpa using hb
  rw [Rt] at hb';rw [Jc];dsimp only;refine hG (.bl (okB w)) (fun Q hQ=>?_) ?_
  case refine_2=>exact q
  walk_at "RD";have hb2:(1 ≤ (cs w).length∧(cs w).length ≤ 3)∧(cs w).all Om=true:=by
   simpa only [Bool.and_eq_true,decide_eq_true_eq] using hb'
  obtain ⟨c,r,hcr⟩:∃ c r,cs w=c :: r:=by
   cases h:cs w with
   | nil=>rw [h] at hb2;exact absurd hb2.1.1 (by decide)
   | cons c r=>exact ⟨c,r,rfl⟩
  have ok:okB w=(decide ((cs w).length ≤ 1) || decide ((cs w).headD 0 ≠ 48)):=by
   unfold okB;rw [hb',Bool.true_and]
  by_cases c0:w=Str.ofString "0"
  ·rw [if_pos (decide_eq_true c0)];have e:cs w=[48]:=by rw [c0,Ku]
   rw [ok,e] at hQ;exact hQ
  ·rw [if_neg (by simpa using c0)];refine ⟨hz',c,?_,?_⟩
   ·have:=Ub (xs:=cs w) (j:=0) (v:=c) (by rw [hcr];rfl);exact this
   ·have e2:decide ((⟨#[c]⟩:Str)=Str.ofString "0")=decide (c=48):=by
     rw [Ku];by_cases h48:c=48
     ·rw [h48];simp
     ·rw [decide_eq_false h48,decide_eq_false];intro z;have z2:=dz.mp z;exact h48 (List.cons.inj z2).1
    rw [e2];have e3:okB w = !decide (c=48):=by
     rw [ok,hcr];show (decide ((c :: r).length ≤ 1) || decide (c ≠ 48))=_;by_cases h48:c=48
     ·have hr:r ≠ []:=fun z=>c0 (by rw [Ku];exact dz.mpr (by rw [hcr,z,h48]))
      have:¬ (c :: r).length ≤ 1:=by
       cases r with
       | nil=>exact absurd rfl hr
       | cons d r=>simp
      rw [decide_eq_false this,h48];rfl
     ·rw [decide_eq_true h48,Bool.or_true,decide_eq_false h48];rfl
    rw [← e3];exact hQ
theorem wI (T:Txt w K mg t):Kb P w K mg base CX0 3 t.Ml t.Nk q31 UE:=by
 have g24:Kb P w K mg base CX0 2 t.Vh t.Wh q20 LB:=RI T;refine T.Kn.ok lq (fun vs H Q E h=>?_) (fun _ _ _ s H vs Q E hr h=>?_)
 ·obtain ⟨w,lo,hi,rfl,_⟩:=h;rfl
 obtain ⟨w,lo,hi,rfl,hz,nt,q⟩:=h;refine ⟨_,(cb (Ee (Aq (Bm (qb g24 hr T.jv T.uk.kp T.lv (ab (pv 0) (ab (Vg rfl T.ip T.Wo) gb))))) (ib (Fb Sg)) Yb)
   (cb (wb (i:=3) lq.nd (Ef NB rfl T.GK Gx (ab (pv 0) gb)))
   (cb (Ee (PW.pt (ND (Vb Iy (pv 3) (pv 1) (Zb _)) (Ow (Vb Ry (pv 3) (pv 2) (Zb _))))) (ib (Fb Sg)) Yb)
   (ib (Fb (pv 3)))))),?_⟩
 refine Qb (!okB w) (fun Q hQ=>?_) (fun hb=>?_) (fun hb=>?_)
 ·(walk_at "RD"; repeat (dsimp only [LB];walk_at "RD"));exact ⟨hz,nt,hQ⟩
 ·walk_at "RD";have hb':okB w=false:=by simpa using hb
  have e:JC w lo hi=.non:=by unfold JC;rw [hb'];rfl
  rw [e] at q;exact q
 ·have hb':okB w=true:=by simpa using hb
  have h3:(1 ≤ (cs w).length∧(cs w).length ≤ 3)∧(cs w).all Om=true:=by
   have:=hb';unfold okB at this;simp only [Bool.and_eq_true,decide_eq_true_eq] at this;exact this.1
  have hl:=iz w;have hi':intText? w=some (val w):=intText_digits (Dr h3.2) (fun z=>by have z':cs w=[]:=z;rw [z'] at h3;exact absurd h3.1.1 (by decide)) (by omega);walk_at "RD";refine ⟨val w,hi',by omega,?_⟩;refine Qb (decide (val w < lo) || decide (hi < val w)) (fun Q hQ=>?_) (fun hc=>?_) (fun hc=>?_)
  ·walk_at "RD";by_cases c:val w < lo
   ·rw [if_pos (decide_eq_true c)];rw [decide_eq_true c,Bool.true_or] at hQ;exact hQ
   ·rw [if_neg (by simpa using c)];rw [decide_eq_false c,Bool.false_or] at hQ;exact hQ
  ·walk_at "RD";have e:JC w lo hi=.non:=by unfold JC;rw [hb',hc];rfl
   rw [e] at q;exact q
  ·walk_at "RD";have e:JC w lo hi=.int (val w):=by unfold JC;rw [hb',hc];rfl
   rw [e] at q;exact q
end
theorem Vk {n:Nat} (h:n < 1000):n.log2 < 1920:=by
 by_cases h0:n=0
 ·subst h0;decide
 ·rw [Nat.log2_lt h0];exact Nat.lt_of_lt_of_le h (Nat.le_trans (show 1000 ≤ 2 ^ 10 by decide) (Nat.pow_le_pow_right (by decide) (by decide)))
theorem dE:∀ n,n < 1000→(Nat.toDigits 10 n).length ≤ 3:=by decide +kernel
theorem sG {n:Int} (h0:0 ≤ n) (h1:n ≤ 999):(Str.ofString (toString n)).length ≤ 3:=by
 have e:=PySem.W.KIN.signs_num n.toNat;rw [Int.toNat_of_nonneg h0] at e;have l:(Str.ofString (toString n)).length=(Str.ofString (toString n)).cps.toList.length:=by simp [Str.length]
 rw [l,e,List.length_map];exact dE _ (by omega)
noncomputable abbrev vg:Str:=Str.ofString "abcdefghijklmnopqrstuvwxyz"
noncomputable def Wz:Sp:=fun vs H Q _=>∃ w,vs=[.str w]∧w.length ≤ 1000∧NoT H∧Q (.bl (made w vg 8)) H
section
variable {P:Program} {w:World} {K:PySem.W.Frag} {mg:Str→Option Value} {base:Heap} {t:Adr}
theorem MG (T:Txt w K mg t):Kb P w K mg base CX0 2 t.dl t.Xk ["word"] Wz:=by
 have g14:Kb P w K mg base CX0 1 t.Df t.Cf q11 Do:=rC T;refine T.Mn.ok Ux (fun vs H Q E h=>?_) (fun _ _ _ s H vs Q E hr h=>?_)
 ·obtain ⟨w,rfl,_⟩:=h;rfl
 obtain ⟨w,rfl,hz,nt,q⟩:=h;refine ⟨_,(ib (Fb (qb g14 hr T.Em T.Eg.kp T.zm (ab (pv 0) (ab (Vg rfl T.nC T.lB) (ab (Vg rfl T.vp T.Dp) gb)))))),?_⟩;(walk_at "RD"; repeat (dsimp only [Do];walk_at "RD"));exact ⟨hz,nt,q⟩
end
noncomputable abbrev nl:Str:=Str.ofString "\n"
noncomputable abbrev bk:Str:=Str.ofString " "
theorem gJ:nl=⟨#[10]⟩:=by decide +kernel
theorem KG:bk=⟨#[32]⟩:=by decide +kernel
noncomputable def di (x:Str):List (List Str):=(Txt.split x nl).map fun r=>Txt.split r bk
theorem yq:∀ {ys:List Str} {y:Str},y ∈ ys→y.length ≤ (ys.map (·.length)).sum
 | [],_,h=>nomatch h
 | a :: r,y,h=>by
  rw [List.map_cons,List.sum_cons];rcases List.mem_cons.mp h with rfl | h
  ·omega
  ·have:=yq h;omega
theorem tG {x y r:Str} (hy:1 ≤ y.length) (h:r ∈ Txt.split x y):r.length ≤ x.length + 1:=by
 have h1:=PyProof.Rows.split_weight x y hy;have h2:=yq h;omega
theorem Xn {x y:Str} (hy:1 ≤ y.length):(Txt.split x y).length ≤ x.length + 1:=by
 have h1:=PyProof.Rows.split_weight x y hy;omega
theorem wE (x y:Str):Txt.split x y ≠ []:=by
 unfold Txt.split;split
 ·simp
 ·split
  ·simp
  ·rw [StrLaws.partsBetween_eq];obtain ⟨p,r,e⟩:=StrLaws.partsFrom_ne x y.length 0 (Builtin.Str.occurrences x y 0 x.length (x.length + 1));rw [e];simp
noncomputable def LL (H0 H:Hp) (p:Addr) (rows:List (List Str)):Prop:=∃ qs:List Addr,H p=some (.lst (qs.map V.ref))∧H0 p=none∧p ∉ qs∧qs.length=rows.length∧∀ (i:Nat) (q:Addr) (r:List Str),qs[i]? = some q→rows[i]? = some r→H q=some (.lst (Bc r))∧H0 q=none
noncomputable def bw:Sp:=fun vs H Q _=>∃ x,vs=[.str x]∧x.length ≤ 20000∧NoT H∧∀ p H',Mb H H'→NoT H'→LL H H' p (di x)→Q (.ref p) H'
theorem Xw:nl.length=1:=by decide +kernel
theorem sw:bk.length=1:=by decide +kernel
section
variable {P:Program} {w:World} {K:PySem.W.Frag} {mg:Str→Option Value} {base:Heap} {t:Adr}
theorem AE (T:Txt w K mg t):Kb P w K mg base CX0 1 t.Wq t.Tq ["text"] bw:=by
 refine T.Xu.ok TD (fun vs H Q E h=>?_) (fun _ _ _ s H vs Q E hr h=>?_)
 ·obtain ⟨x,rfl,_⟩:=h;rfl
 obtain ⟨x,rfl,hz,nt,q⟩:=h;have hzz:∀ n:Nat,n ≤ 40000→n ≤ sizeLine:=fun n h=>Nat.le_trans h (by decide)
 refine ⟨_,(ib (Fb (eh rfl (Ph (Qr PySem.F.plainAttrs_str PySem.F.slot_str_split PySem.F.type_str_split Bv (pv 0) (ab ud gb))) (Hc (sc:=jb av) rfl (by decide +kernel)) (N:=["row"]) (sel:=[none]) (Cd (M:=["text"]) (by decide +kernel)) (Blk.of (fun _ _ _ _=>(xb (i:=0) (xi (N:=["row"]) (by decide +kernel) rfl))) (fun _ _ _ _=>⟨_,wg,by walk_at "B"⟩) (fun _ _ _ _=>⟨_,(Qr PySem.F.plainAttrs_str PySem.F.slot_str_split PySem.F.type_str_split Bv (pv 0) (ab ud gb)),by walk_at "B"⟩))))),?_⟩;walk_at "RD";have hy:1 ≤ nl.length:=by rw [Xw];exact Nat.le_refl _
 have hy2:1 ≤ bk.length:=by rw [sw];exact Nat.le_refl _
 have hs:=Xn (x:=x) hy;have hs':(Bc (Txt.split x nl)).length ≤ sizeLine:=by unfold Bc;rw [List.length_map];exact hzz _ (by omega)
 refine ⟨by rw [Xw];decide,hzz _ (by omega),hzz _ (show (Txt.split x nl).length ≤ 40000 by omega),fun p hp=>⟨⟨_,SqL.of db⟩,?_⟩⟩;refine Yc.list_mk (xs:=Bc (Txt.split x nl)) (fun v=>match v with | .str r=>.lst (Bc (Txt.split r bk)) | _=>.lst []) (SqL.of db) hs' (fun v=>by cases v <;> rfl) (fun i v H1 N hx sm nt1 hN=>?_) (fun qs H1 sm nt1 hl al p2 hp2=>?_)
 ·unfold Bc at hx;rw [List.getElem?_map] at hx;cases hr:(Txt.split x nl)[i]? with
  | none=>rw [hr] at hx;cases hx
  | some r=>
   rw [hr] at hx;have e:=Option.some.inj hx;subst e;have hm:=tG hy (List.mem_of_getElem? hr);have hs2:=Xn (x:=r) hy2;walk_at "RD";exact ⟨Sub.name,by rw [sw];decide,hzz _ (by omega),hzz _ (show (Txt.split r bk).length ≤ 40000 by omega),hN⟩
 ·have sm0:Mb H H1:=(fb hp).trans sm;refine q _ _ (sm0.updN (sm0.free hp2)) ((nt1 (nt.upd)).upd) ⟨qs,db,sm0.free hp2,fun hm=>?_,?_,fun i q' r h1 h2=>?_⟩
  ·obtain ⟨j,hj,e⟩:=List.getElem_of_mem hm;have hj2:j < (Bc (Txt.split x nl)).length:=by omega
   have:=al j p2 _ (by rw [List.getElem?_eq_getElem hj,e]) (List.getElem?_eq_getElem hj2);rw [hp2] at this;cases this.1
  ·rw [hl];unfold di Bc;rw [List.length_map,List.length_map]
  ·unfold di at h2;rw [List.getElem?_map] at h2;cases hr:(Txt.split x nl)[i]? with
   | none=>rw [hr] at h2;cases h2
   | some r0=>
    rw [hr] at h2;have e:=Option.some.inj h2;subst e;have z:=al i q' (.str r0) h1 (by unfold Bc;rw [List.getElem?_map,hr];rfl);refine ⟨by rw [ub (Db z.1 hp2)];exact z.1,?_⟩;have:=z.2;by_cases hq:q'=p
    ·rw [hq];exact hp
    ·rwa [ub hq] at this
end
end My
namespace My
open PySem L2
structure WD where
 k:Nat
 name:Str
 start:Int
 fin:Int
 off:Int
 near:Int
 least:Int
noncomputable def ff:Nat→Str
 | 0=>Str.ofString "car"
 | 1=>Str.ofString "foot"
 | _=>Str.ofString "tram"
noncomputable def Adr.cw (t:Adr):Nat→Addr
 | 0=>t.Fc
 | 1=>t.ac
 | _=>t.fc
noncomputable def Np (d:WD):List (Str × V):=[(Str.ofString "kind",.str (ff d.k)),(Str.ofString "name",.str d.name),(Str.ofString "start",.int d.start),(Str.ofString "end",.int d.fin),(Str.ofString "off",.int d.off),(Str.ofString "near",.int d.near),(Str.ofString "least",.int d.least)]
noncomputable abbrev bp:List Str:=[Str.ofString "kind",Str.ofString "name",Str.ofString "start",Str.ofString "end",Str.ofString "off",Str.ofString "near",Str.ofString "least"]
theorem Jq (d:WD):(Np d).map (·.1)=bp:=rfl
noncomputable def ie (t:Adr) (H:Hp) (p:Addr) (d:WD):Prop:=d.k < 3∧∃ dx,H p=some (.ins (t.cw d.k) dx (Np d))
theorem ie.same {t:Adr} {H H':Hp} {p:Addr} {d:WD} (h:ie t H p d) (s:Mb H H'):ie t H' p d:=⟨h.1,h.2.imp fun dx e=>s _ _ e⟩
noncomputable def isW (t:Adr) (C:Addr):Prop:=∃ k,k < 3∧C=t.cw k
noncomputable def zh (d:WD):Int:=match d.k with | 0=>1 | 1=>0 | _=>2
noncomputable def qm (d:WD):Int:=match d.k with | 0=>2 | 1=>d.off | _=>1
section
variable {w:World} {K:PySem.W.Frag} {mg:Str→Option Value} {t:Adr}
theorem Txt.clw (T:Txt w K mg t):∀ k,Cls K (t.cw k)
 | 0=>T.Go
 | 1=>T.Ql
 | _ + 2=>T.Yl
theorem Txt.naw (T:Txt w K mg t) {f:Str} (hf:f ∈ bp):∀ k,Nb K (t.cw k) f:=by
 intro k;simp only [bp,List.mem_cons,List.not_mem_nil,or_false] at hf;rcases hf with rfl | rfl | rfl | rfl | rfl | rfl | rfl
 ·match k with
  | 0=>exact T.Jp
  | 1=>exact T.Sn
  | _ + 2=>exact T.Jn
 ·match k with
  | 0=>exact T.Ep
  | 1=>exact T.Qn
  | _ + 2=>exact T.vo
 ·match k with
  | 0=>exact T.Ko
  | 1=>exact T.Mm
  | _ + 2=>exact T.Jm
 ·match k with
  | 0=>exact T.zr
  | 1=>exact T.Zo
  | _ + 2=>exact T.Mp
 ·match k with
  | 0=>exact T.Cr
  | 1=>exact T.pp
  | _ + 2=>exact T.Gp
 ·match k with
  | 0=>exact T.Lp
  | 1=>exact T.Bo
  | _ + 2=>exact T.Yn
 ·match k with
  | 0=>exact T.Gn
  | 1=>exact T.Pm
  | _ + 2=>exact T.Zm
theorem Txt.cw_inj (T:Txt w K mg t) {j k:Nat} (hj:j < 3) (hk:k < 3) (e:t.cw j=t.cw k):j=k:=by
 match j,k,hj,hk with
 | 0,0,_,_=>rfl
 | 0,1,_,_=>exact absurd e T.oh
 | 0,2,_,_=>exact absurd e T.kh
 | 1,0,_,_=>exact absurd e.symm T.oh
 | 1,1,_,_=>rfl
 | 1,2,_,_=>exact absurd e T.Fg
 | 2,0,_,_=>exact absurd e.symm T.kh
 | 2,1,_,_=>exact absurd e.symm T.Fg
 | 2,2,_,_=>rfl
 | j + 3,_,h,_=>omega
 | _,k + 3,_,h=>omega
theorem ie.fld (T:Txt w K mg t) {H:Hp} {p:Addr} {d:WD} (h:ie t H p d) {f:Str} {v:V} (i:Nat) (hi:bp.findIdx? (· == f)=some i) (hv:(Np d)[i]? = some (f,v)):Mj K H p f v:=by
 obtain ⟨_,dx,e⟩:=h;have hm:f ∈ bp:=by
  obtain ⟨hlt,h1,_⟩:=List.findIdx?_eq_some_iff_getElem.mp hi;have:bp[i]=f:=by simpa using h1
  rw [← this];exact List.getElem_mem hlt
 exact ⟨_,dx,_,e,T.clw _,T.naw hm _,Qd bp i (Jq d) hi hv⟩
theorem ie.f_name (T:Txt w K mg t) {H:Hp} {p:Addr} {d:WD} (h:ie t H p d):Mj K H p (Str.ofString "name") (.str d.name):=h.fld T 1 (by decide +kernel) rfl
theorem ie.f_start (T:Txt w K mg t) {H:Hp} {p:Addr} {d:WD} (h:ie t H p d):Mj K H p (Str.ofString "start") (.int d.start):=h.fld T 2 (by decide +kernel) rfl
theorem ie.f_end (T:Txt w K mg t) {H:Hp} {p:Addr} {d:WD} (h:ie t H p d):Mj K H p (Str.ofString "end") (.int d.fin):=h.fld T 3 (by decide +kernel) rfl
theorem ie.f_off (T:Txt w K mg t) {H:Hp} {p:Addr} {d:WD} (h:ie t H p d):Mj K H p (Str.ofString "off") (.int d.off):=h.fld T 4 (by decide +kernel) rfl
theorem ie.f_near (T:Txt w K mg t) {H:Hp} {p:Addr} {d:WD} (h:ie t H p d):Mj K H p (Str.ofString "near") (.int d.near):=h.fld T 5 (by decide +kernel) rfl
end
noncomputable def xr (t:Adr):Sp:=fun vs H Q _=>∃ (p dx:Addr) (d:WD),vs=[.ref p,.str (ff d.k),.str d.name,.int d.start,.int d.fin,.int d.off,.int d.near,.int d.least]∧d.k < 3∧H p=some (.ins (t.cw d.k) dx [])∧Q .non (upd H p (.ins (t.cw d.k) dx (Np d)))
noncomputable def Fj (t:Adr) (k:Nat):Sp:=fun vs H Q _=>∃ (p dx:Addr) (d:WD),vs=[.ref p,.str d.name,.int d.start,.int d.fin,.int d.off,.int d.near,.int d.least]∧d.k=k∧H p=some (.ins (t.cw d.k) dx [])∧Q .non (upd H p (.ins (t.cw d.k) dx (Np d)))
section
variable {P:Program} {w:World} {K:PySem.W.Frag} {mg:Str→Option Value} {base:Heap} {t:Adr}
theorem Mu (T:Txt w K mg t):Kb P w K mg base CX0 1 t.lf t.bg q13 (xr t):=by
 refine T.xq.ok Mo (fun vs H Q E h=>?_) (fun _ _ _ s H vs Q E hr h=>?_)
 ·obtain ⟨p,dx,d,rfl,_⟩:=h;rfl
 obtain ⟨p,dx,d,rfl,hk,hp,q⟩:=h;refine ⟨_,(cb (Of (pv 0) (pv 1) rfl)
   (cb (Of (pv 0) (pv 2) rfl)
   (cb (Of (pv 0) (pv 3) rfl)
   (cb (Of (pv 0) (pv 4) rfl)
   (cb (Of (pv 0) (pv 5) rfl)
   (cb (Of (pv 0) (pv 6) rfl)
   (ib (Of (pv 0) (pv 7) rfl)))))))),?_⟩
 walk_at "RD";have na:∀ {f:Str},f ∈ bp→Nb K (t.cw d.k) f:=fun hf=>T.naw hf d.k
 refine ⟨_,_,_,hp,T.clw _,na (by decide +kernel),by decide,?_⟩;refine ⟨_,_,_,db,T.clw _,na (by decide +kernel),Ym (n:=999) (by decide),?_⟩;refine ⟨_,_,_,db,T.clw _,na (by decide +kernel),Ym (n:=999) (Ym (n:=998) (by decide)),?_⟩;refine ⟨_,_,_,db,T.clw _,na (by decide +kernel),Ym (n:=999) (Ym (n:=998) (Ym (n:=997) (by decide))),?_⟩;refine ⟨_,_,_,db,T.clw _,na (by decide +kernel),Ym (n:=999) (Ym (n:=998) (Ym (n:=997) (Ym (n:=996) (by decide)))),?_⟩;refine ⟨_,_,_,db,T.clw _,na (by decide +kernel),Ym (n:=999) (Ym (n:=998) (Ym (n:=997) (Ym (n:=996) (Ym (n:=995) (by decide))))),?_⟩;refine ⟨_,_,_,db,T.clw _,na (by decide +kernel),Ym (n:=999) (Ym (n:=998) (Ym (n:=997) (Ym (n:=996) (Ym (n:=995) (Ym (n:=994) (by decide)))))),?_⟩;simp only [Jk];rw [show Qh (Str.ofString "kind") (V.str (ff d.k)) ([]:List (Str × V))=[(Str.ofString "kind",V.str (ff d.k))] from Dd [] rfl (by decide +kernel),
  show Qh (Str.ofString "name") (V.str d.name) ([(Str.ofString "kind",V.str (ff d.k))]:List (Str × V))=[(Str.ofString "kind",V.str (ff d.k)),(Str.ofString "name",V.str d.name)] from Dd [Str.ofString "kind"] rfl (by decide +kernel),
  show Qh (Str.ofString "start") (V.int d.start) ([(Str.ofString "kind",V.str (ff d.k)),(Str.ofString "name",V.str d.name)]:List (Str × V))=[(Str.ofString "kind",V.str (ff d.k)),(Str.ofString "name",V.str d.name),(Str.ofString "start",V.int d.start)] from Dd [Str.ofString "kind",Str.ofString "name"] rfl (by decide +kernel),
  show Qh (Str.ofString "end") (V.int d.fin) ([(Str.ofString "kind",V.str (ff d.k)),(Str.ofString "name",V.str d.name),(Str.ofString "start",V.int d.start)]:List (Str × V))=[(Str.ofString "kind",V.str (ff d.k)),(Str.ofString "name",V.str d.name),(Str.ofString "start",V.int d.start),(Str.ofString "end",V.int d.fin)] from Dd [Str.ofString "kind",Str.ofString "name",Str.ofString "start"] rfl (by decide +kernel),
  show Qh (Str.ofString "off") (V.int d.off) ([(Str.ofString "kind",V.str (ff d.k)),(Str.ofString "name",V.str d.name),(Str.ofString "start",V.int d.start),(Str.ofString "end",V.int d.fin)]:List (Str × V))=[(Str.ofString "kind",V.str (ff d.k)),(Str.ofString "name",V.str d.name),(Str.ofString "start",V.int d.start),(Str.ofString "end",V.int d.fin),(Str.ofString "off",V.int d.off)] from Dd [Str.ofString "kind",Str.ofString "name",Str.ofString "start",Str.ofString "end"] rfl (by decide +kernel),
  show Qh (Str.ofString "near") (V.int d.near) ([(Str.ofString "kind",V.str (ff d.k)),(Str.ofString "name",V.str d.name),(Str.ofString "start",V.int d.start),(Str.ofString "end",V.int d.fin),(Str.ofString "off",V.int d.off)]:List (Str × V))=[(Str.ofString "kind",V.str (ff d.k)),(Str.ofString "name",V.str d.name),(Str.ofString "start",V.int d.start),(Str.ofString "end",V.int d.fin),(Str.ofString "off",V.int d.off),(Str.ofString "near",V.int d.near)] from Dd [Str.ofString "kind",Str.ofString "name",Str.ofString "start",Str.ofString "end",Str.ofString "off"] rfl (by decide +kernel),
  show Qh (Str.ofString "least") (V.int d.least) ([(Str.ofString "kind",V.str (ff d.k)),(Str.ofString "name",V.str d.name),(Str.ofString "start",V.int d.start),(Str.ofString "end",V.int d.fin),(Str.ofString "off",V.int d.off),(Str.ofString "near",V.int d.near)]:List (Str × V))=[(Str.ofString "kind",V.str (ff d.k)),(Str.ofString "name",V.str d.name),(Str.ofString "start",V.int d.start),(Str.ofString "end",V.int d.fin),(Str.ofString "off",V.int d.off),(Str.ofString "near",V.int d.near),(Str.ofString "least",V.int d.least)] from Dd [Str.ofString "kind",Str.ofString "name",Str.ofString "start",Str.ofString "end",Str.ofString "off",Str.ofString "near"] rfl (by decide +kernel)]
 exact q
theorem NG (T:Txt w K mg t):Kb P w K mg base CX0 2 t.Ke t.Xf q5 (Fj t 0):=by
 have g11:Kb P w K mg base CX0 1 t.lf t.bg q13 (xr t):=Mu T;refine T.gl.ok Pk (fun vs H Q E h=>?_) (fun _ _ _ s H vs Q E hr h=>?_)
 ·obtain ⟨p,dx,d,rfl,_⟩:=h;rfl
 obtain ⟨p,dx,d,rfl,hk,hp,q⟩:=h;refine ⟨_,(ib (De (ar rfl T.cH T.km g11 hr T.cm .nil Pd (ab (pv 0) (ab ud (ab (pv 1) (ab (pv 2) (ab (pv 3) (ab (pv 4) (ab (pv 5) (ab (pv 6) gb))))))))))),?_⟩;walk_at "RD";exact ⟨p,dx,d,by rw [hk];rfl,by omega,hp,q⟩
theorem ZC (T:Txt w K mg t):Kb P w K mg base CX0 2 t.se t.uf q5 (Fj t 1):=by
 have g11:Kb P w K mg base CX0 1 t.lf t.bg q13 (xr t):=Mu T;refine T.jk.ok Hk (fun vs H Q E h=>?_) (fun _ _ _ s H vs Q E hr h=>?_)
 ·obtain ⟨p,dx,d,rfl,_⟩:=h;rfl
 obtain ⟨p,dx,d,rfl,hk,hp,q⟩:=h;refine ⟨_,(ib (De (ar rfl T.cH T.km g11 hr T.cm .nil Pd (ab (pv 0) (ab ud (ab (pv 1) (ab (pv 2) (ab (pv 3) (ab (pv 4) (ab (pv 5) (ab (pv 6) gb))))))))))),?_⟩;walk_at "RD";exact ⟨p,dx,d,by rw [hk];rfl,by omega,hp,q⟩
theorem QD (T:Txt w K mg t):Kb P w K mg base CX0 2 t.ve t.rf q5 (Fj t 2):=by
 have g11:Kb P w K mg base CX0 1 t.lf t.bg q13 (xr t):=Mu T;refine T.Xj.ok yk (fun vs H Q E h=>?_) (fun _ _ _ s H vs Q E hr h=>?_)
 ·obtain ⟨p,dx,d,rfl,_⟩:=h;rfl
 obtain ⟨p,dx,d,rfl,hk,hp,q⟩:=h;refine ⟨_,(ib (De (ar rfl T.cH T.km g11 hr T.cm .nil Pd (ab (pv 0) (ab ud (ab (pv 1) (ab (pv 2) (ab (pv 3) (ab (pv 4) (ab (pv 5) (ab (pv 6) gb))))))))))),?_⟩;walk_at "RD";exact ⟨p,dx,d,by rw [hk];rfl,by omega,hp,q⟩
end
noncomputable def Ni (t:Adr) (C:Addr):Sp:=fun vs H Q _=>∃ p d,vs=[.ref p]∧ie t H p d∧C=t.cw d.k∧Q (.int (zh d)) H
noncomputable def Sk (t:Adr) (C:Addr):Sp:=fun vs H Q _=>∃ p d,vs=[.ref p]∧ie t H p d∧C=t.cw d.k∧Q (.int (qm d)) H
section
variable {P:Program} {w:World} {K:PySem.W.Frag} {mg:Str→Option Value} {base:Heap} {t:Adr}
theorem jo (T:Txt w K mg t):Kb P w K mg base CX0 1 t.tf t.Yg ["self"] (Ni t (t.cw 0)):=by
 refine T.Tj.ok qo (fun vs H Q E h=>?_) (fun _ _ _ s H vs Q E hr h=>?_)
 ·obtain ⟨p,d,rfl,_⟩:=h;rfl
 obtain ⟨p,d,rfl,W,hC,q⟩:=h;have hk:=(T.cw_inj (by decide) W.1 hC).symm;refine ⟨_,(ib (Fb lb)),?_⟩;rw [show zh d=1 by unfold zh;simp only [hk]] at q;walk_at "RD";exact q
theorem Um (T:Txt w K mg t):Kb P w K mg base CX0 1 t.Ge t.qg ["self"] (Ni t (t.cw 1)):=by
 refine T.cj.ok Xm (fun vs H Q E h=>?_) (fun _ _ _ s H vs Q E hr h=>?_)
 ·obtain ⟨p,d,rfl,_⟩:=h;rfl
 obtain ⟨p,d,rfl,W,hC,q⟩:=h;have hk:=(T.cw_inj (by decide) W.1 hC).symm;refine ⟨_,(ib (Fb lb)),?_⟩;rw [show zh d=0 by unfold zh;simp only [hk]] at q;walk_at "RD";exact q
theorem Vm (T:Txt w K mg t):Kb P w K mg base CX0 1 t.af t.lg ["self"] (Ni t (t.cw 2)):=by
 refine T.Pi.ok Qm (fun vs H Q E h=>?_) (fun _ _ _ s H vs Q E hr h=>?_)
 ·obtain ⟨p,d,rfl,_⟩:=h;rfl
 obtain ⟨p,d,rfl,W,hC,q⟩:=h;have hk:=(T.cw_inj (by decide) W.1 hC).symm;refine ⟨_,(ib (Fb lb)),?_⟩;rw [show zh d=2 by unfold zh;simp only [hk]] at q;walk_at "RD";exact q
theorem FG (T:Txt w K mg t):wG P w K mg base CX0 1 (isW t) "ready" ["self"] (Ni t):=by
 refine ⟨fun C hC=>?_⟩;obtain ⟨k,hk,rfl⟩:=hC
 match k,hk with
 | 0,_=>exact ⟨_,_,T.Go,T.Bp,jo T,T.Ap⟩
 | 1,_=>exact ⟨_,_,T.Ql,T.mo,Um T,T.bo⟩
 | 2,_=>exact ⟨_,_,T.Yl,T.Eo,Vm T,T.wo⟩
theorem Vo (T:Txt w K mg t):Kb P w K mg base CX0 1 t.Zf t.Xh ["self"] (Sk t (t.cw 0)):=by
 refine T.Kk.ok Cp (fun vs H Q E h=>?_) (fun _ _ _ s H vs Q E hr h=>?_)
 ·obtain ⟨p,d,rfl,_⟩:=h;rfl
 obtain ⟨p,d,rfl,W,hC,q⟩:=h;have hk:=(T.cw_inj (by decide) W.1 hC).symm;refine ⟨_,(ib (Fb lb)),?_⟩;rw [show qm d=2 by unfold qm;simp only [hk]] at q;walk_at "RD";exact q
theorem So (T:Txt w K mg t):Kb P w K mg base CX0 1 t.wf t.Xg ["self"] (Sk t (t.cw 1)):=by
 refine T.ck.ok An (fun vs H Q E h=>?_) (fun _ _ _ s H vs Q E hr h=>?_)
 ·obtain ⟨p,d,rfl,_⟩:=h;rfl
 obtain ⟨p,d,rfl,W,hC,q⟩:=h;have hk:=(T.cw_inj (by decide) W.1 hC).symm;refine ⟨_,(ib (Fb (Pb (pv 0) rfl))),?_⟩;rw [show qm d=d.off by unfold qm;simp only [hk]] at q;walk_at "RD";exact ⟨_,W.f_off T,q⟩
theorem Vn (T:Txt w K mg t):Kb P w K mg base CX0 1 t.vf t.ah ["self"] (Sk t (t.cw 2)):=by
 refine T.ik.ok Dn (fun vs H Q E h=>?_) (fun _ _ _ s H vs Q E hr h=>?_)
 ·obtain ⟨p,d,rfl,_⟩:=h;rfl
 obtain ⟨p,d,rfl,W,hC,q⟩:=h;have hk:=(T.cw_inj (by decide) W.1 hC).symm;refine ⟨_,(ib (Fb lb)),?_⟩;rw [show qm d=1 by unfold qm;simp only [hk]] at q;walk_at "RD";exact q
theorem QH (T:Txt w K mg t):wG P w K mg base CX0 1 (isW t) "fade" ["self"] (Sk t):=by
 refine ⟨fun C hC=>?_⟩;obtain ⟨k,hk,rfl⟩:=hC
 match k,hk with
 | 0,_=>exact ⟨_,_,T.Go,T.Pq,Vo T,T.cr⟩
 | 1,_=>exact ⟨_,_,T.Ql,T.gp,So T,T.ap⟩
 | 2,_=>exact ⟨_,_,T.Yl,T.yp,Vn T,T.lp⟩
end
noncomputable def jl (c:Nat):List (List Nat)→List Nat
 | []=>[]
 | [a]=>a
 | a :: b :: r=>a ++ c :: jl c (b :: r)
theorem eC {c:Nat}:∀ {a b X Y:List Nat},c ∉ a→c ∉ b→a ++ c :: X=b ++ c :: Y→a=b∧X=Y
 | [],[],X,Y,_,_,h=>⟨rfl,(List.cons.inj h).2⟩
 | [],d :: b,X,Y,_,hb,h=>absurd (List.cons.inj h).1 (fun z=>hb (by simp [← z]))
 | d :: a,[],X,Y,ha,_,h=>absurd (List.cons.inj h).1 (fun z=>ha (by simp [z]))
 | d :: a,e :: b,X,Y,ha,hb,h=>by
  obtain ⟨h1,h2⟩:=List.cons.inj h;obtain ⟨e1,e2⟩:=eC (fun z=>ha (List.mem_cons_of_mem _ z)) (fun z=>hb (List.mem_cons_of_mem _ z)) h2;exact ⟨by rw [h1,e1],e2⟩
theorem AF {c:Nat}:∀ {ps qs:List (List Nat)},(∀ p ∈ ps,c ∉ p)→(∀ q ∈ qs,c ∉ q)→ps ≠ []→qs ≠ []→jl c ps=jl c qs→ps=qs
 | [a],[b],_,_,_,_,h=>by rw [show a=b from h]
 | [a],b :: b' :: r,ha,_,_,_,h=>absurd (show c ∈ a by rw [show a=b ++ c :: jl c (b' :: r) from h];simp) (ha a (by simp))
 | a :: a' :: r,[b],_,hb,_,_,h=>absurd (show c ∈ b by rw [show b=a ++ c :: jl c (a' :: r) from h.symm];simp) (hb b (by simp))
 | a :: a' :: r,b :: b' :: s,ha,hb,_,_,h=>by
  obtain ⟨e1,e2⟩:=eC (ha a (by simp)) (hb b (by simp)) (show a ++ c :: jl c (a' :: r)=b ++ c :: jl c (b' :: s) from h);rw [e1,AF (fun p hp=>ha p (List.mem_cons_of_mem _ hp)) (fun q hq=>hb q (List.mem_cons_of_mem _ hq)) (by simp) (by simp) e2]
 | [],_,_,_,h,_,_=>absurd rfl h
 | _ :: _,[],_,_,_,h,_=>absurd rfl h
theorem JF {c d:Nat}:∀ {ps:List (List Nat)},d ∈ jl c ps→d=c∨∃ p ∈ ps,d ∈ p
 | [],h=>nomatch h
 | [a],h=>.inr ⟨a,by simp,h⟩
 | a :: b :: r,h=>by
  rcases List.mem_append.mp (show d ∈ a ++ c :: jl c (b :: r) from h) with h | h
  ·exact .inr ⟨a,by simp,h⟩
  ·rcases List.mem_cons.mp h with h | h
   ·exact .inl h
   ·rcases JF h with h | ⟨p,hp,h⟩
    ·exact .inl h
    ·exact .inr ⟨p,List.mem_cons_of_mem _ hp,h⟩
theorem Fk (c:Nat):∀ ys:List Str,(Str.join ⟨#[c]⟩ ys).cps.toList=jl c (ys.map (·.cps.toList))
 | []=>rfl
 | [a]=>rfl
 | a :: b :: r=>by
  show (a ++ ⟨#[c]⟩ ++ Str.join ⟨#[c]⟩ (b :: r)).cps.toList=_;rw [Str.cps_append,Array.toList_append,Str.cps_append,Array.toList_append,Fk c (b :: r)];simp [jl]
theorem gr {x y:Str} (h:x.cps.toList=y.cps.toList):x=y:=by
 cases x;cases y;exact congrArg Str.mk (Array.toList_inj.mp h)
theorem Oq {c:Nat} {ys:List Str} (hn:ys ≠ []) (hf:∀ y ∈ ys,c ∉ y.cps.toList):Txt.split (Str.join ⟨#[c]⟩ ys) ⟨#[c]⟩=ys:=by
 have e:=congrArg (·.cps.toList) (StrLaws.join_split (Str.join ⟨#[c]⟩ ys) ⟨#[c]⟩);simp only [Fk] at e;have e2:=AF (c:=c) (ps:=(Txt.split (Str.join ⟨#[c]⟩ ys) ⟨#[c]⟩).map (·.cps.toList)) (qs:=ys.map (·.cps.toList)) (fun p hp=>by
  obtain ⟨y,hy,rfl⟩:=List.mem_map.mp hp;exact StrLaws.split_free _ c y hy) (fun p hp=>by
  obtain ⟨y,hy,rfl⟩:=List.mem_map.mp hp;exact hf y hy) (by simp [wE]) (by simpa using hn) e
 exact (List.map_inj_right fun x y h=>gr h).mp e2
noncomputable abbrev num (v:Int):Str:=Str.ofString (toString v)
theorem JH:∀ n,n < 1000→(decide (1 ≤ ((Nat.toDigits 10 n).map Char.toNat).length) && decide (((Nat.toDigits 10 n).map Char.toNat).length ≤ 3) && ((Nat.toDigits 10 n).map Char.toNat).all Om && (decide (((Nat.toDigits 10 n).map Char.toNat).length ≤ 1) || decide (((Nat.toDigits 10 n).map Char.toNat).headD 0 ≠ 48)) &&
  decide (NumText.digitsVal ((Nat.toDigits 10 n).map Char.toNat)=n))=true:=by decide +kernel
theorem Gw {v:Int} (h0:0 ≤ v) (h1:v < 1000):okB (num v)=true∧val (num v)=v:=by
 have e:=PySem.W.KIN.signs_num v.toNat;rw [Int.toNat_of_nonneg h0] at e;have a:=JH v.toNat (by omega);rw [← e,Bool.and_eq_true,decide_eq_true_eq] at a;exact ⟨a.1,by show ((NumText.digitsVal (cs (num v)):Nat):Int)=v;rw [a.2];omega⟩
theorem Vl {v lo hi:Int} (h0:0 ≤ v) (h1:v < 1000) (hl:lo ≤ v) (hh:v ≤ hi):JC (num v) lo hi=.int v:=by
 obtain ⟨a,b⟩:=Gw h0 h1;unfold JC;rw [a,b,decide_eq_false (by omega:¬ v < lo),decide_eq_false (by omega:¬ hi < v)];rfl
theorem GG {u v:Int} (h0:0 ≤ u) (h1:u < 1000) (h2:0 ≤ v) (h3:v < 1000) (e:num u=num v):u=v:=by
 rw [← (Gw h0 h1).2,e,(Gw h2 h3).2]
theorem Hv {v:Int} (h0:0 ≤ v) (h1:v < 1000):∀ c ∈ (num v).cps.toList,48 ≤ c∧c ≤ 57:=fun c hc=>by
 have:=List.all_eq_true.mp (XI (Gw h0 h1).1).2 c hc;simpa [Om] using this
theorem QI:∀ c ∈ vg.cps.toList,97 ≤ c∧c ≤ 122:=by decide +kernel
theorem DJ:∀ k,k < 26→97 + k ∈ vg.cps.toList:=by decide +kernel
theorem Ji {x:Str} (h:made x vg 8=true):(1 ≤ x.length∧x.length ≤ 8)∧∀ c ∈ x.cps.toList,97 ≤ c∧c ≤ 122:=by
 unfold made at h;split at h
 ·cases h
 ·rename_i h1;split at h
  ·cases h
  ·rename_i h2;have h3:¬ x.length=0:=fun z=>h1 (QJ.mpr z)
   refine ⟨by omega,fun c hc=>?_⟩;have:=List.all_eq_true.mp h c hc;rw [Bu] at this;exact QI c (of_decide_eq_true this)
theorem ls {x:Str} (h0:1 ≤ x.length) (h1:x.length ≤ 8) (h:∀ c ∈ x.cps.toList,97 ≤ c∧c ≤ 122):made x vg 8=true:=by
 unfold made;rw [if_neg (fun z=>by have:=QJ.mp z;omega),if_neg (by omega)];refine List.all_eq_true.mpr fun c hc=>?_
 have:=h c hc;rw [Bu];have e:=DJ (c - 97) (by omega);rw [show 97 + (c - 97)=c by omega] at e;exact decide_eq_true e
structure WOk (n:Int) (d:WD):Prop where
 k:d.k < 3
 nm:made d.name vg 8=true
 st:0 ≤ d.start∧d.start < n
 fi:0 ≤ d.fin∧d.fin < n
 ne:d.start ≠ d.fin
 of:0 ≤ d.off∧d.off ≤ 30
 nr:0 ≤ d.near∧d.near ≤ 30
 le:1 ≤ d.least∧d.least ≤ 60
structure COk (n:Int) (ds:List WD):Prop where
 nn:2 ≤ n∧n ≤ 99
 ln:1 ≤ ds.length∧ds.length ≤ 12
 al:∀ d ∈ ds,WOk n d
 nd:(ds.map (·.name)).Nodup
noncomputable def Xd (d:WD):List Str:=[ff d.k,d.name,num d.start,num d.fin,num d.off,num d.near,num d.least]
noncomputable def Nm (n:Int) (ds:List WD):List (List Str):=[Str.ofString "ring",num n] :: ds.map Xd
noncomputable def mv (n:Int) (ds:List WD):Str:=Str.join nl ((Nm n ds).map (Str.join bk))
noncomputable def Oy (x:Str):Prop:=x.length ≤ 8∧(32:Nat) ∉ x.cps.toList∧(10:Nat) ∉ x.cps.toList
theorem zy (k:Nat):Oy (ff k):=by
 match k with
 | 0=>exact ⟨by decide +kernel,by decide +kernel,by decide +kernel⟩
 | 1=>exact ⟨by decide +kernel,by decide +kernel,by decide +kernel⟩
 | _ + 2=>exact ⟨show (Str.ofString "tram").length ≤ 8 by decide +kernel,show (32:Nat) ∉ (Str.ofString "tram").cps.toList by decide +kernel,show (10:Nat) ∉ (Str.ofString "tram").cps.toList by decide +kernel⟩
theorem We {v:Int} (h0:0 ≤ v) (h1:v < 1000):Oy (num v):=
 ⟨Nat.le_trans (sG h0 (by omega)) (by decide),fun z=>by have:=Hv h0 h1 _ z;omega,fun z=>by have:=Hv h0 h1 _ z;omega⟩
theorem Zp {x:Str} (h:made x vg 8=true):Oy x:=
 ⟨(Ji h).1.2,fun z=>by have:=(Ji h).2 _ z;omega,fun z=>by have:=(Ji h).2 _ z;omega⟩
theorem WOk.plain {n:Int} {d:WD} (h:WOk n d) (hn:n ≤ 99):∀ x ∈ Xd d,Oy x:=fun x hx=>by
 have h1:=h.st;have h2:=h.fi;have h3:=h.of;have h4:=h.nr;have h5:=h.le;simp only [Xd,List.mem_cons,List.not_mem_nil,or_false] at hx;rcases hx with rfl | rfl | rfl | rfl | rfl | rfl | rfl
 ·exact zy _
 ·exact Zp h.nm
 ·exact We (by omega) (by omega)
 ·exact We (by omega) (by omega)
 ·exact We (by omega) (by omega)
 ·exact We (by omega) (by omega)
 ·exact We (by omega) (by omega)
theorem COk.plain {n:Int} {ds:List WD} (h:COk n ds):∀ r ∈ Nm n ds,∀ x ∈ r,Oy x:=fun r hr x hx=>by
 have hn:=h.nn;rcases List.mem_cons.mp hr with rfl | hr
 ·simp only [List.mem_cons,List.not_mem_nil,or_false] at hx;rcases hx with rfl | rfl
  ·exact ⟨by decide +kernel,by decide +kernel,by decide +kernel⟩
  ·exact We (by omega) (by omega)
 ·obtain ⟨d,hd,rfl⟩:=List.mem_map.mp hr;exact (h.al d hd).plain hn.2 x hx
theorem rA {rs:List (List Str)} (h0:rs ≠ []) (h1:∀ r ∈ rs,r ≠ []) (h2:∀ r ∈ rs,∀ x ∈ r,Oy x):di (Str.join nl (rs.map (Str.join bk)))=rs:=by
 unfold di;rw [gJ,KG];rw [Oq (by simpa using h0) (fun y hy=>by
  obtain ⟨r,hr,rfl⟩:=List.mem_map.mp hy;rw [Fk];intro z;rcases JF z with z | ⟨p,hp,z⟩
  ·cases z
  ·obtain ⟨x,hx,rfl⟩:=List.mem_map.mp hp;exact (h2 r hr x hx).2.2 z)]
 rw [List.map_map];have:∀ r ∈ rs,((fun r=>Txt.split r ⟨#[32]⟩) ∘ Str.join ⟨#[32]⟩) r=r:=fun r hr=>Oq (h1 r hr) fun x hx=>(h2 r hr x hx).2.1
 exact (List.map_congr_left this).trans (List.map_id rs)
theorem Ax {n:Int} {ds:List WD} (h:COk n ds):di (mv n ds)=Nm n ds:=rA (by simp [Nm]) (fun r hr=>by
 rcases List.mem_cons.mp hr with rfl | hr
 ·simp
 ·obtain ⟨d,hd,rfl⟩:=List.mem_map.mp hr;simp [Xd]) h.plain
theorem Co (sep:Str) (B:Nat):∀ ys:List Str,(∀ y ∈ ys,y.length ≤ B)→(Str.join sep ys).length ≤ ys.length * (B + sep.length)
 | [],_=>by show (Str.empty).length ≤ _;exact Nat.zero_le _
 | [a],h=>by
  have:=h a (by simp);show a.length ≤ _;simp only [List.length_cons,List.length_nil];omega
 | a :: b :: r,h=>by
  have h1:=h a (by simp);have h2:=Co sep B (b :: r) fun y hy=>h y (List.mem_cons_of_mem _ hy)
  show (a ++ sep ++ Str.join sep (b :: r)).length ≤ _;rw [Wd,Wd,List.length_cons,Nat.succ_mul];omega
theorem xC {n:Int} {ds:List WD} (h:COk n ds):(mv n ds).length ≤ 1000:=by
 have h1:∀ y ∈ (Nm n ds).map (Str.join bk),y.length ≤ 63:=fun y hy=>by
  obtain ⟨r,hr,rfl⟩:=List.mem_map.mp hy;have:=Co bk 8 r fun x hx=>(h.plain r hr x hx).1
  rw [sw] at this;have hl:r.length ≤ 7:=by
   rcases List.mem_cons.mp hr with rfl | hr
   ·simp
   ·obtain ⟨d,hd,rfl⟩:=List.mem_map.mp hr;simp [Xd]
  omega
 have h2:=Co nl 63 _ h1;rw [Xw] at h2;have h3:((Nm n ds).map (Str.join bk)).length ≤ 13:=by
  have:=h.ln;simp [Nm];omega
 unfold mv;omega
end My
namespace My
open PySem L2
noncomputable abbrev Ws:List Str:=[Str.ofString "row",Str.ofString "told",Str.ofString "place"]
noncomputable def rdF (row:Int) (ta:Addr) (pl:Int):List (Str × V):=[(Str.ofString "row",.int row),(Str.ofString "told",.ref ta),(Str.ofString "place",.int pl)]
theorem Kl (row:Int) (ta:Addr) (pl:Int):(rdF row ta pl).map (·.1)=Ws:=rfl
theorem pH (row:Int) (ta:Addr) (pl v:Int):Qh (Str.ofString "place") (.int v) (rdF row ta pl)=rdF row ta v:=by
 unfold rdF;simp only [Qh];rw [if_neg (by decide +kernel),if_neg (by decide +kernel)];rfl
noncomputable def rg (t:Adr) (H:Hp) (p:Addr) (row:Int) (ws:List Str) (pl:Nat):Prop:=
 (ws.length ≤ 1000∧∀ x ∈ ws,x.length ≤ 1000)∧∃ dx ta,H p=some (.ins t.Bb dx (rdF row ta pl))∧H ta=some (.lst (Bc ws))
noncomputable def Hd (p:Addr) (H H':Hp):Prop:=∀ b u,b ≠ p→H b=some u→H' b=some u
theorem Hd.trans {p:Addr} {H H1 H2:Hp} (a:Hd p H H1) (b:Hd p H1 H2):Hd p H H2:=fun c u n e=>b c u n (a c u n e)
theorem Hd.of {p:Addr} {H H1:Hp} (a:Mb H H1):Hd p H H1:=fun c u _ e=>a c u e
theorem Hd.put {p:Addr} {H:Hp} {o:HO}:Hd p H (upd H p o):=fun c u n e=>by rw [ub n];exact e
theorem Wt (ws:List Str):(Bc ws).length=ws.length:=by unfold Bc;rw [List.length_map]
theorem cE {ws:List Str} {i:Nat} {x:Str} (h:ws[i]? = some x):(Bc ws)[i]? = some (.str x):=by unfold Bc;rw [List.getElem?_map,h];rfl
theorem vq (ws:List Str):(Bc ws).all sk=true:=by unfold Bc;simp [sk]
theorem Qv (x:Str) (xs:List Str):inV (.str x) (Bc xs)=decide (x ∈ xs):=by
 unfold inV Bc;rw [List.any_map,Bool.eq_iff_iff];simp only [List.any_eq_true,Function.comp,eqV,beq_iff_eq,decide_eq_true_eq];constructor
 ·rintro ⟨y,hy,rfl⟩;exact hy
 ·intro h;exact ⟨x,h,rfl⟩
section
variable {w:World} {K:PySem.W.Frag} {mg:Str→Option Value} {t:Adr} {H H':Hp} {p:Addr} {row:Int} {ws:List Str} {pl:Nat}
theorem rg.same (h:rg t H p row ws pl) (s:Mb H H'):rg t H' p row ws pl:=by
 obtain ⟨hz,dx,ta,e1,e2⟩:=h;exact ⟨hz,dx,ta,s _ _ e1,s _ _ e2⟩
theorem rg.sameX {q:Addr} (h:rg t H p row ws pl) (s:Hd q H H') (n:p ≠ q) (k:∃ C dx fs,H q=some (.ins C dx fs)):rg t H' p row ws pl:=by
 obtain ⟨hz,dx,ta,e1,e2⟩:=h;obtain ⟨C,dq,fs,e3⟩:=k;exact ⟨hz,dx,ta,s _ _ n e1,s _ _ (ij e2 e3 (by intro z;cases z)) e2⟩
theorem rg.ins (h:rg t H p row ws pl):∃ C dx fs,H p=some (.ins C dx fs):=by
 obtain ⟨hz,dx,ta,e1,e2⟩:=h;exact ⟨_,_,_,e1⟩
theorem rg.no {m:Str} (row:Int) (ta:Addr) (pl:Int) (h:Ws.contains m=false):(rdF row ta pl).lookup m=none:=Ol Ws (Kl ..) h
theorem Kr (T:Txt w K mg t) {dx ta:Addr} {pl:Int} (e:H p=some (.ins t.Bb dx (rdF row ta pl))):Mj K H p (Str.ofString "place") (.int pl):=
 ⟨_,dx,_,e,T.Ab,T.Ye,Qd Ws 2 (Kl ..) (by decide +kernel) rfl⟩
theorem yu (T:Txt w K mg t) {dx ta:Addr} {pl:Int} (e:H p=some (.ins t.Bb dx (rdF row ta pl))):Mj K H p (Str.ofString "told") (.ref ta):=
 ⟨_,dx,_,e,T.Ab,T.Ch,Qd Ws 1 (Kl ..) (by decide +kernel) rfl⟩
end
noncomputable def WE (t:Adr):Sp:=fun vs H Q _=>∃ (p dx ta:Addr) (row:Int),vs=[.ref p,.int row,.ref ta]∧H p=some (.ins t.Bb dx [])∧Q .non (upd H p (.ins t.Bb dx (rdF row ta 0)))
noncomputable def kl (t:Adr):Sp:=fun vs H Q _=>∃ p row ws pl,vs=[.ref p]∧rg t H p row ws pl∧pl ≤ ws.length∧Q (.str (ws.getD pl (Str.ofString ""))) H
noncomputable def gC (t:Adr):Sp:=fun vs H Q _=>∃ p row ws pl,vs=[.ref p]∧rg t H p row ws pl∧Q (.bl (decide (pl < ws.length))) H
noncomputable def tK (t:Adr) (H:Hp) (p:Addr) (row:Int) (ws:List Str) (pl:Nat) (R:Hp→Prop):Prop:=∀ H',Hd p H H'→(NoT H→NoT H')→rg t H' p row ws pl→R H'
noncomputable def kr (t:Adr):Sp:=fun vs H Q _=>∃ p row ws pl,vs=[.ref p,.bl true]∧rg t H p row ws pl∧tK t H p row ws (pl + 1) (Q .non)
noncomputable def Uq (K:PySem.W.Frag) (t:Adr):Sp:=fun vs H Q _=>∃ p row ws pl x c xs,vs=[.ref p,.ref c]∧rg t H p row ws pl∧ws[pl]? = some x∧SqL K H c (Bc xs)∧x ∈ xs∧tK t H p row ws (pl + 1) (Q (.str x))
noncomputable def Br (t:Adr):Sp:=fun vs H Q _=>∃ p row ws pl x lo hi v,vs=[.ref p,.int lo,.int hi]∧rg t H p row ws pl∧ws[pl]? = some x∧JC x lo hi=.int v∧NoT H∧tK t H p row ws (pl + 1) (Q (.int v))
noncomputable def dB (t:Adr):Sp:=fun vs H Q _=>∃ p row ws pl,vs=[.ref p]∧rg t H p row ws pl∧pl=ws.length∧Q .non H
section
variable {P:Program} {w:World} {K:PySem.W.Frag} {mg:Str→Option Value} {base:Heap} {t:Adr}
theorem yJ (T:Txt w K mg t):Kb P w K mg base CX0 1 t.Gd t.we q23 (WE t):=by
 refine T.ji.ok Bi (fun vs H Q E h=>?_) (fun _ _ _ s H vs Q E hr h=>?_)
 ·obtain ⟨p,dx,ta,row,rfl,_⟩:=h;rfl
 obtain ⟨p,dx,ta,row,rfl,hp,q⟩:=h;refine ⟨_,(cb (Of (pv 0) (pv 1) rfl)
   (cb (Of (pv 0) (pv 2) rfl)
   (ib (Of (pv 0) lb rfl)))),?_⟩
 walk_at "RD";refine ⟨_,_,_,hp,T.Ab,T.Tm,by decide,?_⟩;refine ⟨_,_,_,db,T.Ab,T.Ch,Ym (n:=999) (by decide),?_⟩;refine ⟨_,_,_,db,T.Ab,T.Ye,Ym (n:=999) (Ym (n:=998) (by decide)),?_⟩;simp only [Jk];rw [show Qh (Str.ofString "row") (V.int row) ([]:List (Str × V))=[(Str.ofString "row",V.int row)] from Dd [] rfl (by decide +kernel),
  show Qh (Str.ofString "told") (V.ref ta) ([(Str.ofString "row",V.int row)]:List (Str × V))=[(Str.ofString "row",V.int row),(Str.ofString "told",V.ref ta)] from Dd [Str.ofString "row"] rfl (by decide +kernel),
  show Qh (Str.ofString "place") (V.int 0) ([(Str.ofString "row",V.int row),(Str.ofString "told",V.ref ta)]:List (Str × V))=[(Str.ofString "row",V.int row),(Str.ofString "told",V.ref ta),(Str.ofString "place",V.int 0)] from Dd [Str.ofString "row",Str.ofString "told"] rfl (by decide +kernel)]
 exact q
theorem jn (T:Txt w K mg t):Kb P w K mg base CX0 1 t.Xb t.lc ["self"] (kl t):=by
 refine T.Bh.ok Al (fun vs H Q E h=>?_) (fun _ _ _ s H vs Q E hr h=>?_)
 ·obtain ⟨p,row,ws,pl,rfl,_⟩:=h;rfl
 obtain ⟨p,row,ws,pl,rfl,⟨hz,dx,ta,e1,e2⟩,hle,q⟩:=h;refine ⟨_,(cb (Ee (Vb Gk (Pb (pv 0) rfl) (Ed Vc rfl T.uo yd (ab (Pb (pv 0) rfl) gb)) (Zb _)) (ib (Fb ud)) Yb)
   (ib (Fb (gc qe (Pb (pv 0) rfl) (Pb (pv 0) rfl))))),?_⟩
 walk_at "RD";refine Qb (decide ((pl:Int)=(ws.length:Int))) (fun Q hQ=>?_) (fun c=>?_) (fun c=>?_)
 ·walk_at "RD";refine ⟨_,Kr T e1,_,yu T e1,_,rfl,_,.inl (SqL.of e2),rfl,?_⟩;rw [Wt];walk_at "RD";exact hQ
 ·walk_at "RD";have c':pl=ws.length:=by have:=of_decide_eq_true c;omega
  rw [show ws.getD pl (Str.ofString "")=Str.ofString "" by rw [List.getD_eq_getElem?_getD,List.getElem?_eq_none (by omega)];rfl] at q;exact q
 ·walk_at "RD";have c':pl < ws.length:=by have:=of_decide_eq_false c;omega
  have hx:ws[pl]? = some ws[pl]:=List.getElem?_eq_getElem c';rw [List.getD_eq_getElem?_getD,hx] at q;exact ⟨_,yu T e1,_,Kr T e1,_,rfl,_,_,rfl,SqL.of e2,_,Ub (cE hx),q⟩
theorem oH (T:Txt w K mg t):Kb P w K mg base CX0 1 t.Dc t.gd ["self"] (gC t):=by
 refine T.Nf.ok Qi (fun vs H Q E h=>?_) (fun _ _ _ s H vs Q E hr h=>?_)
 ·obtain ⟨p,row,ws,pl,rfl,_⟩:=h;rfl
 obtain ⟨p,row,ws,pl,rfl,⟨hz,dx,ta,e1,e2⟩,q⟩:=h;refine ⟨_,(ib (Fb (Be Iy (Pb (pv 0) rfl) (Ed Vc rfl T.uo yd (ab (Pb (pv 0) rfl) gb)) (Zb _)))),?_⟩;walk_at "RD";have e:decide (pl < ws.length)=decide ((pl:Int) < (ws.length:Int)):=by rw [Bool.eq_iff_iff];simp
 rw [e] at q;refine ⟨_,Kr T e1,_,yu T e1,_,rfl,_,.inl (SqL.of e2),?_⟩;rw [Wt];exact ⟨_,rfl,q⟩
theorem Iu (T:Txt w K mg t):Kb P w K mg base CX0 1 t.Ac t.Nc q12 (kr t):=by
 refine T.Yh.ok om (fun vs H Q E h=>?_) (fun _ _ _ s H vs Q E hr h=>?_)
 ·obtain ⟨p,row,ws,pl,rfl,_⟩:=h;rfl
 obtain ⟨p,row,ws,pl,rfl,⟨hz,dx,ta,e1,e2⟩,q⟩:=h;refine ⟨_,(cb (Ee (Aq (Bm (pv 1))) (ib Cj) Yb)
   (ib (GA (pv 0) lb AJ))),?_⟩
 walk_at "RD";refine Qb false (fun Q hQ=>?_) (fun hc=>nomatch hc) (fun _=>?_)
 ·walk_at "RD";exact hQ
 ·walk_at "RD";refine ⟨_,_,_,e1,T.Ab,T.Ye,_,Qd Ws 2 (Kl ..) (by decide +kernel) rfl,_,rfl,_,_,e1,by rw [← List.length_map (f:=(·.1)),Kl];decide,?_⟩;rw [pH];exact q _ Hd.put (fun n=>n.upd) ⟨hz,dx,ta,db,by rw [ub (ij e2 e1 (by intro z;cases z))];exact e2⟩
theorem lw (T:Txt w K mg t):Kb P w K mg base CX0 2 t.yc t.Qc q24 (Uq K t):=by
 have g9:Kb P w K mg base CX0 1 t.Xb t.lc ["self"] (kl t):=jn T;have g12:Kb P w K mg base CX0 1 t.Ac t.Nc q12 (kr t):=Iu T;refine T.Ng.ok ig (fun vs H Q E h=>?_) (fun _ _ _ s H vs Q E hr h=>?_)
 ·obtain ⟨p,row,ws,pl,x,c,xs,rfl,_⟩:=h;rfl
 obtain ⟨p,row,ws,pl,x,c,xs,rfl,R,hx,hc,hm,q⟩:=h;refine ⟨_,(cb (wb (i:=2) ig.nd (Rh (pv 0) T.Ab T.ee g9 hr T.ae .nil Pd))
   (cb (De (Td (pv 0) T.Ab T.Kf g12 hr T.Lf .nil Pd (ab (Be Hl (pv 2) (pv 1) (by with_unfolding_all rfl)) gb)))
   (ib (Fb (pv 2))))),?_⟩
 have hlt:pl < ws.length:=(List.getElem?_eq_some_iff.mp hx).1;have hg:ws.getD pl (Str.ofString "")=x:=by rw [List.getD_eq_getElem?_getD,hx];rfl
 obtain ⟨_,dx,ta,e1,e2⟩:=id R;walk_at "RD";refine ⟨_,_,e1,rg.no _ _ _ (by decide +kernel),⟨p,row,ws,pl,rfl,R,by omega,?_⟩⟩;rw [hg];walk_at "RD";refine ⟨_,_,e1,rg.no _ _ _ (by decide +kernel),_,.inl hc,rfl,vq xs,?_⟩;rw [Qv,decide_eq_true hm];refine ⟨p,row,ws,pl,rfl,R,fun H' s1 s2 s3=>?_⟩;walk_at "RD";exact q H' s1 s2 s3
theorem qu (T:Txt w K mg t):Kb P w K mg base CX0 4 t.Tb t.uc q17 (Br t):=by
 have g9:Kb P w K mg base CX0 3 t.Xb t.lc ["self"] (kl t):=(jn T).mono (by decide);have g12:Kb P w K mg base CX0 3 t.Ac t.Nc q12 (kr t):=(Iu T).mono (by decide);have g25:Kb P w K mg base CX0 3 t.Ml t.Nk q31 UE:=wI T;refine T.fg.ok Rf (fun vs H Q E h=>?_) (fun _ _ _ s H vs Q E hr h=>?_)
 ·obtain ⟨p,row,ws,pl,x,lo,hi,v,rfl,_⟩:=h;rfl
 obtain ⟨p,row,ws,pl,x,lo,hi,v,rfl,R,hx,hv,nt,q⟩:=h;refine ⟨_,(cb (wb (i:=3) Rf.nd (qb g25 hr T.wz T.Kn.kp T.dC (ab (Rh (pv 0) T.Ab T.ee g9 hr T.ae .nil Pd) (ab (pv 1) (ab (pv 2) gb)))))
   (cb (De (Td (pv 0) T.Ab T.Kf g12 hr T.Lf .nil Pd (ab (Be zu (pv 3) Sg (Zb _)) gb)))
   (ib (Fb (pv 3))))),?_⟩
 have hlt:pl < ws.length:=(List.getElem?_eq_some_iff.mp hx).1;have hg:ws.getD pl (Str.ofString "")=x:=by rw [List.getD_eq_getElem?_getD,hx];rfl
 obtain ⟨hz,dx,ta,e1,e2⟩:=id R;walk_at "RD";refine ⟨_,_,e1,rg.no _ _ _ (by decide +kernel),⟨p,row,ws,pl,rfl,R,by omega,?_⟩⟩;rw [hg];walk_at "RD";refine ⟨x,lo,hi,rfl,hz.2 x (List.mem_of_getElem? hx),nt,?_⟩;rw [hv];walk_at "RD";refine ⟨_,_,e1,rg.no _ _ _ (by decide +kernel),?_⟩;refine ⟨p,row,ws,pl,rfl,R,fun H' s1 s2 s3=>?_⟩;walk_at "RD";exact q H' s1 s2 s3
theorem LF (T:Txt w K mg t):Kb P w K mg base CX0 2 t.xc t.Wc ["self"] (dB t):=by
 have g26:Kb P w K mg base CX0 1 t.Dc t.gd ["self"] (gC t):=oH T;refine T.Ug.ok Dk (fun vs H Q E h=>?_) (fun _ _ _ s H vs Q E hr h=>?_)
 ·obtain ⟨p,row,ws,pl,rfl,_⟩:=h;rfl
 obtain ⟨p,row,ws,pl,rfl,R,hl,q⟩:=h;obtain ⟨hz,dx,ta,e1,e2⟩:=id R;refine ⟨_,(ib (Ee (Bm (Rh (pv 0) T.Ab T.Hj g26 hr T.Jj .nil Pd)) (ib Cj) Yb)),?_⟩;walk_at "RD";refine Qb false (fun Q hQ=>?_) (fun hc=>nomatch hc) (fun _=>?_)
 ·walk_at "RD";refine ⟨_,_,e1,rg.no _ _ _ (by decide +kernel),⟨p,row,ws,pl,rfl,R,?_⟩⟩;rw [decide_eq_false (by omega)];exact ⟨_,rfl,hQ⟩
 ·walk_at "RD";exact q
end
end My
namespace My
open PySem L2
theorem vh {α β:Type} {f:α→β} {l:List α} {i:Nat} {y:β} (h:(l.map f)[i]? = some y):∃ x,l[i]? = some x∧y=f x:=by
 rw [List.getElem?_map] at h;cases e:l[i]? with
 | none=>rw [e] at h;cases h
 | some x=>rw [e] at h;exact ⟨x,rfl,(Option.some.inj h).symm⟩
noncomputable def xK (t:Adr) (H0 H:Hp) (p:Addr) (rows:List (List Str)):Prop:=∃ qs:List Addr,H p=some (.lst (qs.map V.ref))∧H0 p=none∧qs.length=rows.length∧∀ (i:Nat) (q:Addr) (r:List Str),qs[i]? = some q→rows[i]? = some r→rg t H q i r 0∧H0 q=none
noncomputable def kq (t:Adr):Sp:=fun vs H Q _=>∃ x,vs=[.str x]∧x.length ≤ 20000∧(∀ r ∈ di x,r.length ≤ 1000∧∀ y ∈ r,y.length ≤ 1000)∧NoT H∧∀ p H',Mb H H'→NoT H'→xK t H H' p (di x)→Q (.ref p) H'
section
variable {P:Program} {w:World} {K:PySem.W.Frag} {mg:Str→Option Value} {base:Heap} {t:Adr}
theorem vx (T:Txt w K mg t):Kb P w K mg base CX0 3 t.il t.Rk ["text"] (kq t):=by
 have g27:Kb P w K mg base CX0 2 t.Wq t.Tq ["text"] bw:=(AE T).mono (by decide);have g28:Kb P w K mg base CX0 1 t.Gd t.we q23 (WE t):=yJ T;refine T.zo.ok Vx (fun vs H Q E h=>?_) (fun _ _ _ s H vs Q E hr h=>?_)
 ·obtain ⟨x,rfl,_⟩:=h;rfl
 obtain ⟨x,rfl,hz,hrow,nt,q⟩:=h;refine ⟨_,(ib (Fb (eh rfl (yo rfl T.mf (ab (qb g27 hr T.yH T.Xu.kp T.dH (ab (pv 0) gb)) gb)) (Hc (sc:=jb ko) rfl (by decide +kernel)) (N:=["row","told"]) (sel:=[none,none]) (Cd (M:=["text"]) (by decide +kernel)) (Blk.of (fun _ _ _ _=>(Ue (K:=K) (n:=2) rfl rfl (Ob (xb (i:=0) (xi (N:=["row","told"]) (by decide +kernel) rfl)) (Ob (xb (i:=1) (xi (N:=["row","told"]) (by decide +kernel) rfl)) Me)))) (fun _ _ _ _=>⟨_,wg,by walk_at "B"⟩) (fun _ _ _ _=>⟨_,(im T.nu g28 hr rfl T.su T.Wm .nil Pd (ab (pv 0) (ab (pv 1) gb))),by walk_at "B"⟩))))),?_⟩;walk_at "RD";refine ⟨x,rfl,hz,nt,fun p H1 sm1 nt1 ⟨ps,hp,hp0,hpn,hpl,hpa⟩=>?_⟩;walk_at "RD";refine ⟨⟨_,SqL.of hp⟩,?_⟩;have hlen:ps.length ≤ sizeLine:=by
  rw [hpl];unfold di;rw [List.length_map];have:=Xn (x:=x) (y:=nl) (by rw [Xw];exact Nat.le_refl _);exact Nat.le_trans (show _ ≤ 40000 by omega) (by decide)
 refine Yc.enum (xs:=ps.map V.ref) (fun i ys H2=>Mb H1 H2∧NoT H2∧∃ qs:List Addr,ys=qs.map V.ref∧qs.length=i∧∀ (j:Nat) (q:Addr) (r:List Str),qs[j]? = some q→(di x)[j]? = some r→rg t H2 q j r 0∧H1 q=none)
  (by rw [List.length_map];exact hlen) ⟨Mb.refl H1,nt1,[],rfl,rfl,fun j q r h _=>by simp at h⟩ ?_ ?_ ?_
 ·rintro i ys H2 hi zzq;refine zP fun zM zzh=>?_
  obtain ⟨s2,n2,qs,rfl,hq,_⟩:=zzq;subst zzh;exact ⟨SqL.of (s2 _ _ hp),by rw [List.length_map];omega⟩
 ·rintro i v ys H2 p2 hv ⟨s2,n2,qs,rfl,hq,al⟩ hp2 N hN;rw [List.getElem?_map] at hv;cases hpi:ps[i]? with
  | none=>rw [hpi] at hv;cases hv
  | some pi=>
   rw [hpi] at hv;have e:=(Option.some.inj hv).symm;subst e;refine yg ?_;walk_at "RD";refine ⟨Sub.name2,fun a dx ha hd hne=>?_⟩;refine ⟨a,dx,pi,i,rfl,db,rfl,?_⟩;rw [Jk];have s3:Mb H2 (upd (upd (upd H2 p2 (.tup [.int i,.ref pi])) dx (.own a)) a (.ins t.Bb dx (rdF i pi 0))):=by
    have s':Mb H2 (upd H2 p2 (.tup [.int i,.ref pi])):=fb hp2;exact ((Mb.trans s' (fb hd)).updN (s'.free ha))
   obtain ⟨r,hr⟩:∃ r,(di x)[i]? = some r:=⟨(di x)[i]'(by rw [← hpl];exact (List.getElem?_eq_some_iff.mp hpi).1),List.getElem?_eq_getElem _⟩;have ha2:H2 a=none:=(fb hp2).free ha;refine hN _ _ ⟨s2.trans s3,((n2.upd).upd).upd,qs ++ [a],by rw [List.map_append];rfl,by rw [List.length_append,hq];rfl,fun j q' r' h1 h2=>?_⟩;by_cases hj:j < qs.length
   ·rw [List.getElem?_append_left hj] at h1;obtain ⟨z1,z2⟩:=al j q' r' h1 h2;exact ⟨z1.same s3,z2⟩
   ·rw [List.getElem?_append_right (by omega)] at h1;have hj0:j - qs.length=0:=by
     cases hh:j - qs.length with
     | zero=>rfl
     | succ n=>rw [hh] at h1;simp at h1
    rw [hj0] at h1;have e3:a=q':=by simpa using h1
    subst e3;have e4:j=i:=by omega
    subst e4;rw [hr] at h2;cases h2;refine ⟨⟨hrow r (List.mem_of_getElem? hr),dx,pi,db,?_⟩,s2.free ha2⟩;exact s3 _ _ (s2 _ _ (hpa j pi r hpi hr).1)
 ·rintro ys H2 ⟨s2,n2,qs,rfl,hq,al⟩ p2 hp2;refine q p2 _ ((sm1.trans s2).updN ((sm1.trans s2).free hp2)) (n2.upd) ⟨qs,db,(sm1.trans s2).free hp2,by rw [hq,List.length_map,hpl],fun i q' r h1 h2=>?_⟩;obtain ⟨z1,z2⟩:=al i q' r h1 h2;exact ⟨z1.same (fb hp2),sm1.free z2⟩
end
noncomputable def PL (q:Addr) (H:Hp) (R:Hp→Prop):Prop:=∀ H',Hd q H H'→NoT H'→R H'
noncomputable def Ez (t:Adr):Sp:=fun vs H Q _=>∃ q row n,vs=[.ref q]∧rg t H q row [Str.ofString "ring",num n] 0∧(2 ≤ n∧n ≤ 99)∧NoT H∧PL q H (Q (.int n))
noncomputable def dj (t:Adr) (H:Hp) (wl:Addr) (ds:List WD):Prop:=∃ as:List Addr,H wl=some (.lst (as.map V.ref))∧as.length=ds.length∧∀ (i:Nat) (a:Addr) (d:WD),as[i]? = some a→ds[i]? = some d→ie t H a d
noncomputable def wq (t:Adr):Sp:=fun vs H Q _=>∃ q row ws pl wl ds x,vs=[.ref q,.ref wl]∧rg t H q row ws pl∧ws[pl]? = some x∧made x vg 8=true∧dj t H wl ds∧ds.length ≤ 12∧(∀ d ∈ ds,d.name ≠ x)∧NoT H ∧
 ∀ H',Hd q H H'→NoT H'→rg t H' q row ws (pl + 1)→Q (.str x) H'
noncomputable def dF (t:Adr):Sp:=fun vs H Q _=>∃ q row ws pl n st fi,vs=[.ref q,.int n,.int st]∧rg t H q row ws pl∧ws[pl]? = some (num fi)∧(0 ≤ st∧st < n)∧(0 ≤ fi∧fi < n)∧st ≠ fi∧n ≤ 99∧NoT H ∧
 ∀ H',Hd q H H'→NoT H'→rg t H' q row ws (pl + 1)→Q (.int fi) H'
noncomputable def bx (t:Adr):Sp:=fun vs H Q _=>∃ d:WD,vs=[.str (ff d.k),.str d.name,.int d.start,.int d.fin,.int d.off,.int d.near,.int d.least]∧d.k < 3∧∀ x H',Mb H H'→(NoT H→NoT H')→ie t H' x d→H x=none→Q (.ref x) H'
noncomputable def NF (t:Adr):Sp:=fun vs H Q _=>∃ q row n wl ds d,vs=[.ref q,.int n,.ref wl]∧rg t H q row (Xd d) 0∧WOk n d∧(2 ≤ n∧n ≤ 99)∧dj t H wl ds∧ds.length ≤ 12∧(∀ e ∈ ds,e.name ≠ d.name)∧NoT H ∧
 ∀ x H',Hd q H H'→NoT H'→ie t H' x d→H x=none→Q (.ref x) H'
theorem dj.sameX {t:Adr} {H H':Hp} {q wl:Addr} {ds:List WD} {row:Int} {ws:List Str} {pl:Nat} (h:dj t H wl ds) (s:Hd q H H') (r:rg t H q row ws pl):dj t H' wl ds:=by
 obtain ⟨as,e1,e2,al⟩:=h;obtain ⟨hz,dx,ta,e3,e4⟩:=r;refine ⟨as,s _ _ (ij e1 e3 (by intro z;cases z)) e1,e2,fun i a d h1 h2=>?_⟩;obtain ⟨hk,dx',e5⟩:=al i a d h1 h2;refine ⟨hk,dx',s _ _ (fun z=>?_) e5⟩;subst z;rw [e5] at e3;have e6:=Option.some.inj e3;injection e6 with _ _ e8;have e9:(7:Nat)=3:=congrArg List.length e8;omega
theorem dj.same {t:Adr} {H H':Hp} {wl:Addr} {ds:List WD} (h:dj t H wl ds) (s:Mb H H'):dj t H' wl ds:=by
 obtain ⟨as,e1,e2,al⟩:=h;exact ⟨as,s _ _ e1,e2,fun i a d h1 h2=>(al i a d h1 h2).same s⟩
section
variable {P:Program} {w:World} {K:PySem.W.Frag} {mg:Str→Option Value} {base:Heap} {t:Adr}
theorem aH (T:Txt w K mg t):Kb P w K mg base CX0 5 t.Th t.Ih ["reader"] (Ez t):=by
 have g15:Kb P w K mg base CX0 4 t.yc t.Qc q24 (Uq K t):=(lw T).mono (by decide);have g8:Kb P w K mg base CX0 4 t.Tb t.uc q17 (Br t):=qu T;have g16:Kb P w K mg base CX0 4 t.xc t.Wc ["self"] (dB t):=(LF T).mono (by decide);refine T.Ek.ok wm (fun vs H Q E h=>?_) (fun _ _ _ s H vs Q E hr h=>?_)
 ·obtain ⟨q,row,n,rfl,_⟩:=h;rfl
 obtain ⟨q,row,n,rfl,R,hn,nt,qq⟩:=h;refine ⟨_,(cb (De (Td (pv 0) T.Ab T.Lg g15 hr T.Tg .nil Pd (ab (yh (ab ud gb)) gb)))
   (cb (wb (i:=1) wm.nd (Td (pv 0) T.Ab T.rc g8 hr T.jc .nil Pd (ab (Vg rfl T.qp T.Ip) (ab (Vg rfl T.ir T.Sr) gb))))
   (cb (De (Rh (pv 0) T.Ab T.Rg g16 hr T.Hg .nil Pd))
   (ib (Fb (pv 1)))))),?_⟩
 obtain ⟨_,dx,ta,e1,e2⟩:=id R;walk_at "RD";refine ⟨_,_,e1,rg.no _ _ _ (by decide +kernel),by decide,fun p hp=>?_⟩;have s0:Mb H (upd H p (.lst [V.str (Str.ofString "ring")])):=fb hp;refine ⟨q,row,_,0,Str.ofString "ring",p,[Str.ofString "ring"],rfl,R.same s0,rfl,SqL.of db,by simp,fun H1 s1 n1 R1=>?_⟩;obtain ⟨_,dx1,ta1,f1,f2⟩:=id R1;walk_at "RD";refine ⟨_,_,f1,rg.no _ _ _ (by decide +kernel),?_⟩;have nt1:=n1 nt.upd;refine ⟨q,row,_,1,num n,2,99,n,rfl,R1,rfl,Vl (by omega) (by omega) hn.1 hn.2,nt1,fun H2 s2 n2 R2=>?_⟩;obtain ⟨_,dx2,ta2,g1,g2⟩:=id R2;walk_at "RD";refine ⟨_,_,g1,rg.no _ _ _ (by decide +kernel),?_⟩;refine ⟨q,row,_,2,rfl,R2,rfl,?_⟩;walk_at "RD";exact qq H2 (((Hd.of s0).trans s1).trans s2) (n2 nt1)
theorem Bx (T:Txt w K mg t):Kb P w K mg base CX0 3 t.Le t.Re q32 (wq t):=by
 have g9:Kb P w K mg base CX0 2 t.Xb t.lc ["self"] (kl t):=(jn T).mono (by decide);have g12:Kb P w K mg base CX0 2 t.Ac t.Nc q12 (kr t):=(Iu T).mono (by decide);have g29:Kb P w K mg base CX0 2 t.dl t.Xk ["word"] Wz:=MG T;refine T.ng.ok li (fun vs H Q E h=>?_) (fun _ _ _ s H vs Q E hr h=>?_)
 ·obtain ⟨q,row,ws,pl,wl,ds,x,rfl,_⟩:=h;rfl
 obtain ⟨q,row,ws,pl,wl,ds,x,rfl,R,hx,hm,hW,hdl,hnew,nt,qq⟩:=h;refine ⟨_,(cb (wb (i:=2) li.nd (Rh (pv 0) T.Ab T.ee g9 hr T.ae .nil Pd))
   (cb (De (Td (pv 0) T.Ab T.Kf g12 hr T.Lf .nil Pd (ab (SF (qb g29 hr T.uz T.Mn.kp T.AC (ab (pv 2) gb)) (Dq (Be xm (pv 2) (eh rfl (Ph (pv 1)) (Hc (sc:=jb gg) rfl (by decide +kernel)) (N:=["way"]) (sel:=[none]) (Cd (M:=["reader","ways","name"]) (by decide +kernel)) (Blk.of (fun _ _ _ _=>(xb (i:=0) (xi (N:=["way"]) (by decide +kernel) rfl))) (fun _ _ _ _=>⟨_,wg,by walk_at "B"⟩) (fun _ _ _ _=>⟨_,(Pb (pv 0) rfl),by walk_at "B"⟩))) (by with_unfolding_all rfl)))) gb)))
   (ib (Fb (pv 2))))),?_⟩
 have hlt:pl < ws.length:=(List.getElem?_eq_some_iff.mp hx).1;have hg:ws.getD pl (Str.ofString "")=x:=by rw [List.getD_eq_getElem?_getD,hx];rfl
 obtain ⟨hz,dx,ta,e1,e2⟩:=id R;walk_at "RD";refine ⟨_,_,e1,rg.no _ _ _ (by decide +kernel),⟨q,row,ws,pl,rfl,R,by omega,?_⟩⟩;rw [hg];walk_at "RD";refine ⟨_,_,e1,rg.no _ _ _ (by decide +kernel),?_⟩;refine ⟨x,rfl,hz.2 x (List.mem_of_getElem? hx),nt,?_⟩;rw [hm];walk_at "RD";obtain ⟨as,w1,w2,al⟩:=hW;refine ⟨⟨_,SqL.of w1⟩,?_⟩;have hle:(as.map V.ref).length ≤ sizeLine:=by rw [List.length_map,w2];exact Nat.le_trans hdl (by decide)
 refine Yc.list_zs (xs:=as.map V.ref) (zs:=ds.map fun d=>V.str d.name) (SqL.of w1) hle (by rw [List.length_map,List.length_map,w2]) (fun i v z N hv hz' hN=>?_) (fun p hp=>?_)
 ·obtain ⟨a,ha,rfl⟩:=vh hv;obtain ⟨d,hd,rfl⟩:=vh hz';walk_at "RD";exact ⟨Sub.name,_,(al i a d ha hd).f_name T,hN⟩
 ·walk_at "RD";have e0:(ds.map fun d=>V.str d.name)=Bc (ds.map (·.name)):=by unfold Bc;rw [List.map_map];rfl
  rw [e0];refine ⟨_,.inl (SqL.of db),rfl,vq _,?_⟩;rw [Qv,decide_eq_false (fun z=>by
   obtain ⟨d,hd,e⟩:=List.mem_map.mp z;exact hnew d hd e)]
  have s0:Mb H (upd H p (.lst (Bc (ds.map (·.name))))):=fb hp;exact ⟨q,row,ws,pl,rfl,R.same s0,fun H' s1 n1 R1=>qq H' ((Hd.of s0).trans s1) (n1 nt.upd) R1⟩
theorem yI (T:Txt w K mg t):Kb P w K mg base CX0 5 t.Gj t.Dj q21 (dF t):=by
 have g9:Kb P w K mg base CX0 4 t.Xb t.lc ["self"] (kl t):=(jn T).mono (by decide);have g8:Kb P w K mg base CX0 4 t.Tb t.uc q17 (Br t):=qu T;refine T.Tl.ok Tu (fun vs H Q E h=>?_) (fun _ _ _ s H vs Q E hr h=>?_)
 ·obtain ⟨q,row,ws,pl,n,st,fi,rfl,_⟩:=h;rfl
 obtain ⟨q,row,ws,pl,n,st,fi,rfl,R,hx,hst,hfi,hne,hn,nt,qq⟩:=h;refine ⟨_,(cb (Ee (Vb Gk (Rh (pv 0) T.Ab T.ee g9 hr T.ae .nil Pd) (Ef Gg rfl T.MD zj (ab (pv 2) gb)) (Zb _)) (ib Cj) Yb)
   (ib (Fb (Td (pv 0) T.Ab T.rc g8 hr T.jc .nil Pd (ab lb (ab (Jb qk (pv 1) lb) gb)))))),?_⟩
 have hlt:pl < ws.length:=(List.getElem?_eq_some_iff.mp hx).1;have hg:ws.getD pl (Str.ofString "")=num fi:=by rw [List.getD_eq_getElem?_getD,hx];rfl
 obtain ⟨hz,dx,ta,e1,e2⟩:=id R;walk_at "RD";refine Qb false (fun Q hQ=>?_) (fun hc=>nomatch hc) (fun _=>?_)
 ·walk_at "RD";refine ⟨_,_,e1,rg.no _ _ _ (by decide +kernel),⟨q,row,ws,pl,rfl,R,by omega,?_⟩⟩;rw [hg];walk_at "RD";refine ⟨Vk (by omega),?_⟩;rw [decide_eq_false (fun z=>hne (GG (by omega) (by omega) (by omega) (by omega) z).symm)];exact hQ
 ·walk_at "RD";refine ⟨_,_,e1,rg.no _ _ _ (by decide +kernel),⟨q,row,ws,pl,num fi,0,n - 1,fi,rfl,R,hx,Vl (by omega) (by omega) (by omega) (by omega),nt,fun H1 s1 n1 R1=>?_⟩⟩;exact qq H1 s1 (n1 nt) R1
theorem CI {t:Adr} {H:Hp} {x dx:Addr} {d:WD} (hx:H x=none) (hd:H dx=none) (hk:d.k < 3) :
  Mb H (upd (upd (upd H dx (.own x)) x (.ins (t.cw d.k) dx [])) x (.ins (t.cw d.k) dx (Np d)))∧(NoT H→NoT (upd (upd (upd H dx (.own x)) x (.ins (t.cw d.k) dx [])) x (.ins (t.cw d.k) dx (Np d)))) ∧
   ie t (upd (upd (upd H dx (.own x)) x (.ins (t.cw d.k) dx [])) x (.ins (t.cw d.k) dx (Np d))) x d:=
 ⟨(((Mb.refl H).updN hd).updN hx).updN hx,fun n=>((n.upd).upd).upd,hk,dx,db⟩
theorem yE (T:Txt w K mg t):Kb P w K mg base CX0 4 t.yj t.Aj q22 (bx t):=by
 have g30:Kb P w K mg base CX0 2 t.Ke t.Xf q5 (Fj t 0):=NG T;have g31:Kb P w K mg base CX0 2 t.se t.uf q5 (Fj t 1):=ZC T;have g32:Kb P w K mg base CX0 2 t.ve t.rf q5 (Fj t 2):=QD T;refine T.Ul.ok gv (fun vs H Q E h=>?_) (fun _ _ _ s H vs Q E hr h=>?_)
 ·obtain ⟨d,rfl,_⟩:=h;rfl
 obtain ⟨d,rfl,hk,q⟩:=h;refine ⟨_,(cb (Ee (Vb Gk (pv 0) ud (Zb _)) (ib (Fb (im T.qE g30 hr rfl T.sE T.Er .nil Pd (ab (pv 1) (ab (pv 2) (ab (pv 3) (ab (pv 4) (ab (pv 5) (ab (pv 6) gb))))))))) Yb)
   (cb (Ee (Vb Gk (pv 0) ud (Zb _)) (ib (Fb (im T.Jz g31 hr rfl T.VB T.Yo .nil Pd (ab (pv 1) (ab (pv 2) (ab (pv 3) (ab (pv 4) (ab (pv 5) (ab (pv 6) gb))))))))) Yb)
   (ib (Fb (im T.JA g32 hr rfl T.Bz T.jp .nil Pd (ab (pv 1) (ab (pv 2) (ab (pv 3) (ab (pv 4) (ab (pv 5) (ab (pv 6) gb))))))))))),?_⟩
 have fin:∀ (x dx:Addr),H x=none→H dx=none→Q (.ref x) (upd (upd (upd H dx (.own x)) x (.ins (t.cw d.k) dx [])) x (.ins (t.cw d.k) dx (Np d))):=fun x dx hx hd=>by
  obtain ⟨m1,m2,m3⟩:=CI (t:=t) (d:=d) hx hd hk;exact q x _ m1 m2 m3 hx
 obtain ⟨k,name,start,fi,off,near,least⟩:=d
 match k,hk with
 | 0,_=>
  (walk_at "RD"; repeat (dsimp only [ff];walk_at "RD"));refine Qb true (fun Q hQ=>?_) (fun _=>?_) (fun hc=>nomatch hc)
  ·walk_at "RD";exact hQ
  ·walk_at "RD";exact fun x dx hx hd hne=>⟨x,dx,⟨0,name,start,fi,off,near,least⟩,rfl,rfl,db,rfl,fin x dx hx hd⟩
 | 1,_=>
  (walk_at "RD"; repeat (dsimp only [ff];walk_at "RD"));refine Qb false (fun Q hQ=>?_) (fun hc=>nomatch hc) (fun _=>?_)
  ·walk_at "RD";rw [decide_eq_false (by decide +kernel)];exact hQ
  ·walk_at "RD";refine Qb true (fun Q hQ=>?_) (fun _=>?_) (fun hc=>nomatch hc)
   ·walk_at "RD";exact hQ
   ·walk_at "RD";exact fun x dx hx hd hne=>⟨x,dx,⟨1,name,start,fi,off,near,least⟩,rfl,rfl,db,rfl,fin x dx hx hd⟩
 | 2,_=>
  (walk_at "RD"; repeat (dsimp only [ff];walk_at "RD"));refine Qb false (fun Q hQ=>?_) (fun hc=>nomatch hc) (fun _=>?_)
  ·walk_at "RD";rw [decide_eq_false (by decide +kernel)];exact hQ
  ·walk_at "RD";refine Qb false (fun Q hQ=>?_) (fun hc=>nomatch hc) (fun _=>?_)
   ·walk_at "RD";rw [decide_eq_false (by decide +kernel)];exact hQ
   ·walk_at "RD";exact fun x dx hx hd hne=>⟨x,dx,⟨2,name,start,fi,off,near,least⟩,rfl,rfl,db,rfl,fin x dx hx hd⟩
theorem GI (T:Txt w K mg t):Kb P w K mg base CX0 6 t.Bj t.xj q33 (NF t):=by
 have g15:Kb P w K mg base CX0 5 t.yc t.Qc q24 (Uq K t):=(lw T).mono (by decide);have g8:Kb P w K mg base CX0 5 t.Tb t.uc q17 (Br t):=(qu T).mono (by decide);have g16:Kb P w K mg base CX0 5 t.xc t.Wc ["self"] (dB t):=(LF T).mono (by decide);have g33:Kb P w K mg base CX0 5 t.Le t.Re q32 (wq t):=(Bx T).mono (by decide);have g34:Kb P w K mg base CX0 5 t.Gj t.Dj q21 (dF t):=yI T;have g35:Kb P w K mg base CX0 5 t.yj t.Aj q22 (bx t):=(yE T).mono (by decide);refine T.mm.ok Ud (fun vs H Q E h=>?_) (fun _ _ _ s H vs Q E hr h=>?_)
 ·obtain ⟨q,row,n,wl,ds,d,rfl,_⟩:=h;rfl
 obtain ⟨q,row,n,wl,ds,d,rfl,R,hd,hn,hW,hdl,hnew,nt,qq⟩:=h;refine ⟨_,(cb (wb (i:=3) Ud.nd (Td (pv 0) T.Ab T.Lg g15 hr T.Tg .nil Pd (ab (yh (ab ud (ab ud (ab ud gb)))) gb)))
   (cb (wb (i:=4) Ud.nd (qb g33 hr T.Zn T.ng.kp T.Fn (ab (pv 0) (ab (pv 2) gb))))
   (cb (wb (i:=5) Ud.nd (Td (pv 0) T.Ab T.rc g8 hr T.jc .nil Pd (ab lb (ab (Jb qk (pv 1) lb) gb))))
   (cb (wb (i:=6) Ud.nd (qb g34 hr T.my T.Tl.kp T.Nx (ab (pv 0) (ab (pv 1) (ab (pv 5) gb)))))
   (cb (wb (i:=7) Ud.nd (Td (pv 0) T.Ab T.rc g8 hr T.jc .nil Pd (ab lb (ab (Vg rfl T.qy T.Jy) gb))))
   (cb (wb (i:=8) Ud.nd (Td (pv 0) T.Ab T.rc g8 hr T.jc .nil Pd (ab lb (ab (Vg rfl T.Gu T.Vu) gb))))
   (cb (wb (i:=9) Ud.nd (Td (pv 0) T.Ab T.rc g8 hr T.jc .nil Pd (ab lb (ab (Vg rfl T.Wr T.As) gb))))
   (cb (De (Rh (pv 0) T.Ab T.Rg g16 hr T.Hg .nil Pd))
   (ib (Fb (qb g35 hr T.Mx T.Ul.kp T.cy (ab (pv 3) (ab (pv 4) (ab (pv 5) (ab (pv 6) (ab (pv 7) (ab (pv 8) (ab (pv 9) gb)))))))))))))))))),?_⟩
 have b1:=hd.st;have b2:=hd.fi;have b3:=hd.of;have b4:=hd.nr;have b5:=hd.le;obtain ⟨_,dx,ta,e1,e2⟩:=id R;walk_at "RD";refine ⟨_,_,e1,rg.no _ _ _ (by decide +kernel),by decide,fun p hp=>?_⟩;have s0:Mb H (upd H p (.lst [V.str (Str.ofString "car"),V.str (Str.ofString "foot"),V.str (Str.ofString "tram")])):=fb hp;have hin:ff d.k ∈ [Str.ofString "car",Str.ofString "foot",Str.ofString "tram"]:=by
  have:=hd.k
  match d.k,this with
  | 0,_=>simp [ff]
  | 1,_=>simp [ff]
  | 2,_=>simp [ff]
 refine ⟨q,row,_,0,ff d.k,p,[Str.ofString "car",Str.ofString "foot",Str.ofString "tram"],rfl,R.same s0,rfl,SqL.of db,hin,fun H1 s1 n1 R1=>?_⟩;have x1:Hd q H H1:=(Hd.of s0).trans s1;have m1:=n1 nt.upd;walk_at "RD";refine ⟨q,row,_,1,wl,ds,d.name,rfl,R1,rfl,hd.nm,hW.sameX x1 R,hdl,hnew,m1,fun H2 s2 m2 R2=>?_⟩;obtain ⟨_,dx2,ta2,f2,g2⟩:=id R2;have x2:=x1.trans s2;walk_at "RD";refine ⟨_,_,f2,rg.no _ _ _ (by decide +kernel),⟨q,row,_,2,num d.start,0,n - 1,d.start,rfl,R2,rfl,Vl (by omega) (by omega) (by omega) (by omega),m2,fun H3 s3 n3 R3=>?_⟩⟩;have x3:=x2.trans s3;have m3:=n3 m2;walk_at "RD";refine ⟨q,row,_,3,n,d.start,d.fin,rfl,R3,rfl,b1,b2,hd.ne,hn.2,m3,fun H4 s4 m4 R4=>?_⟩;obtain ⟨_,dx4,ta4,f4,g4⟩:=id R4;have x4:=x3.trans s4;walk_at "RD";refine ⟨_,_,f4,rg.no _ _ _ (by decide +kernel),⟨q,row,_,4,num d.off,0,30,d.off,rfl,R4,rfl,Vl (by omega) (by omega) (by omega) (by omega),m4,fun H5 s5 n5 R5=>?_⟩⟩;obtain ⟨_,dx5,ta5,f5,g5⟩:=id R5;have x5:=x4.trans s5;have m5:=n5 m4;walk_at "RD";refine ⟨_,_,f5,rg.no _ _ _ (by decide +kernel),⟨q,row,_,5,num d.near,0,30,d.near,rfl,R5,rfl,Vl (by omega) (by omega) (by omega) (by omega),m5,fun H6 s6 n6 R6=>?_⟩⟩;obtain ⟨_,dx6,ta6,f6,g6⟩:=id R6;have x6:=x5.trans s6;have m6:=n6 m5;walk_at "RD";refine ⟨_,_,f6,rg.no _ _ _ (by decide +kernel),⟨q,row,_,6,num d.least,1,60,d.least,rfl,R6,rfl,Vl (by omega) (by omega) (by omega) (by omega),m6,fun H7 s7 n7 R7=>?_⟩⟩;obtain ⟨_,dx7,ta7,f7,g7⟩:=id R7;have x7:=x6.trans s7;have m7:=n7 m6;walk_at "RD";refine ⟨_,_,f7,rg.no _ _ _ (by decide +kernel),⟨q,row,_,7,rfl,R7,rfl,?_⟩⟩;walk_at "RD";refine ⟨d,rfl,hd.k,fun x H8 s8 n8 w8 hx8=>?_⟩;refine qq x H8 (x7.trans (Hd.of s8)) (n8 m7) w8 ?_;cases hH:H x with
 | none=>rfl
 | some u=>
  by_cases hxq:x=q
  ·subst hxq;rw [f7] at hx8;cases hx8
  ·rw [x7 x u hxq hH] at hx8;cases hx8
end
end My
namespace My
open PySem L2
noncomputable abbrev ny:List Str:=[Str.ofString "places",Str.ofString "ways",Str.ofString "numbers"]
noncomputable def cF (n:Int) (wl nd:Addr):List (Str × V):=[(Str.ofString "places",.int n),(Str.ofString "ways",.ref wl),(Str.ofString "numbers",.ref nd)]
theorem dr (n:Int) (wl nd:Addr):(cF n wl nd).map (·.1)=ny:=rfl
noncomputable def nm (ds:List WD) (i:Nat):Str:=((ds[i]?).map (·.name)).getD (Str.ofString "")
noncomputable def Wy (ds:List WD) (i:Nat):List (Key × V):=(List.range i).map fun j=>(Sum.inr (nm ds j),V.int j)
theorem Zx {ds:List WD} {i:Nat} {d:WD} (h:ds[i]? = some d):nm ds i=d.name:=by unfold nm;rw [h];rfl
theorem BB {ds:List WD} (h:(ds.map (·.name)).Nodup) {i j:Nat} (hi:i < ds.length) (hj:j < ds.length) (e:nm ds i=nm ds j):i=j:=by
 rw [Zx (List.getElem?_eq_getElem hi),Zx (List.getElem?_eq_getElem hj)] at e;have:=(List.getElem_inj (xs:=ds.map (·.name)) (i:=i) (j:=j) (h₀:=by rw [List.length_map];exact hi) (h₁:=by rw [List.length_map];exact hj) h).mp (by rw [List.getElem_map,List.getElem_map];exact e);exact this
theorem YC {ds:List WD} (h:(ds.map (·.name)).Nodup) {i:Nat}:∀ {n:Nat},i < n→n ≤ ds.length→Qj (Wy ds n) (Sum.inr (nm ds i))=some (.int i):=by
 intro n
 induction n with
 | zero=>intro hi _;omega
 | succ n ih=>
  intro hi hn;unfold Wy Qj;rw [List.range_succ,List.map_append,List.find?_append];by_cases c:i < n
  ·have:=ih c (by omega);unfold Wy Qj at this;cases e:List.find? (fun kv=>decide (kv.fst=Sum.inr (nm ds i))) (List.map (fun j=>((Sum.inr (nm ds j):Key),V.int j)) (List.range n)) with
   | none=>rw [e] at this;cases this
   | some p=>rw [e] at this;exact this
  ·have e:i=n:=by omega
   subst e;have no:List.find? (fun kv=>decide (kv.fst=Sum.inr (nm ds i))) (List.map (fun j=>((Sum.inr (nm ds j):Key),V.int j)) (List.range i))=none:=by
    rw [List.find?_eq_none];intro p hp;obtain ⟨j,hj,rfl⟩:=List.mem_map.mp hp;have hj':=List.mem_range.mp hj;simp only [decide_eq_true_eq];intro z;have:=BB h (by omega) (by omega) (Sum.inr.inj z);omega
   rw [no];simp
theorem nD {ds:List WD} (h:(ds.map (·.name)).Nodup) {n:Nat} (hn:n < ds.length):Uo (Wy ds n) (Sum.inr (nm ds n)) (.int n)=Wy ds (n + 1):=by
 unfold Uo;have no:((Wy ds n).any fun kv=>decide (kv.1=Sum.inr (nm ds n)))=false:=by
  rw [List.any_eq_false];intro p hp;obtain ⟨j,hj,rfl⟩:=List.mem_map.mp hp;have hj':=List.mem_range.mp hj;simp only [decide_eq_true_eq];intro z;have:=BB h (by omega) hn (Sum.inr.inj z);omega
 rw [no];unfold Wy;rw [List.range_succ,List.map_append];rfl
theorem em {H H1 H2:Hp} {q:Addr} (a:Mb H H1) (b:Hd q H1 H2) (n:H q=none):Mb H H2:=fun c u e=>b c u (Db e n) (a c u e)
theorem zJ {t:Adr} {H:Hp} {p q:Addr} {i j:Int} {ws vs:List Str} {k l:Nat} (a:rg t H p i ws k) (b:rg t H q j vs l) (n:i ≠ j):p ≠ q:=fun z=>by
 subst z;obtain ⟨_,dx,ta,e1,_⟩:=a;obtain ⟨_,dx',ta',e2,_⟩:=b;rw [e1] at e2;have e3:=Option.some.inj e2;injection e3 with _ _ e4;unfold rdF at e4;injection e4 with e5 _;injection e5 with _ e6;injection e6 with e7;exact n e7
theorem lA {t:Adr} {H:Hp} {p q:Addr} {d:WD} {j:Int} {vs:List Str} {l:Nat} (a:ie t H p d) (b:rg t H q j vs l):p ≠ q:=fun z=>by
 subst z;obtain ⟨_,dx,e1⟩:=a;obtain ⟨_,dx',ta',e2,_⟩:=b;rw [e1] at e2;have e3:=Option.some.inj e2;injection e3 with _ _ e4;exact absurd (congrArg List.length e4) (by show ¬ (7:Nat)=3;decide)
noncomputable def Te (t:Adr) (H:Hp) (c:Addr) (n:Int) (ds:List WD):Prop:=
 ((ds.map (·.name)).Nodup∧ds.length ≤ 12)∧∃ dx wl nd,H c=some (.ins t.Lb dx (cF n wl nd))∧dj t H wl ds∧H nd=some (.dK (Wy ds ds.length))
theorem Te.same {t:Adr} {H H':Hp} {c:Addr} {n:Int} {ds:List WD} (h:Te t H c n ds) (s:Mb H H'):Te t H' c n ds:=by
 obtain ⟨h0,dx,wl,nd,e1,e2,e3⟩:=h;exact ⟨h0,dx,wl,nd,s _ _ e1,e2.same s,s _ _ e3⟩
theorem OH {m:Str} (n:Int) (wl nd:Addr) (h:ny.contains m=false):(cF n wl nd).lookup m=none:=Ol ny (dr ..) h
section
variable {w:World} {K:PySem.W.Frag} {mg:Str→Option Value} {t:Adr} {H:Hp} {c dx wl nd:Addr} {n:Int}
theorem BD (T:Txt w K mg t) (e:H c=some (.ins t.Lb dx (cF n wl nd))):Mj K H c (Str.ofString "places") (.int n):=⟨_,dx,_,e,T.Cc,T.Bg,Qd ny 0 (dr ..) (by decide +kernel) rfl⟩
theorem hJ (T:Txt w K mg t) (e:H c=some (.ins t.Lb dx (cF n wl nd))):Mj K H c (Str.ofString "ways") (.ref wl):=⟨_,dx,_,e,T.Cc,T.ii,Qd ny 1 (dr ..) (by decide +kernel) rfl⟩
theorem eo (T:Txt w K mg t) (e:H c=some (.ins t.Lb dx (cF n wl nd))):Mj K H c (Str.ofString "numbers") (.ref nd):=⟨_,dx,_,e,T.Cc,T.kg,Qd ny 2 (dr ..) (by decide +kernel) rfl⟩
end
noncomputable def XE (t:Adr):Sp:=fun vs H Q _=>∃ c dx n wl ds,vs=[.ref c,.int n,.ref wl]∧H c=some (.ins t.Lb dx [])∧dj t H wl ds∧(ds.map (·.name)).Nodup∧ds.length ≤ 12∧NoT H ∧
 ∀ H',Hd c H H'→NoT H'→Te t H' c n ds→Q .non H'
noncomputable def EJ (t:Adr):Sp:=fun vs H Q _=>∃ n ds,vs=[.str (mv n ds)]∧COk n ds∧NoT H∧∀ c H',Mb H H'→NoT H'→Te t H' c n ds→Q (.ref c) H'
noncomputable def kt (t:Adr):Sp:=fun vs H Q _=>∃ c n ds,∃ i:Nat,∃ d,vs=[.ref c,.str d.name]∧Te t H c n ds∧ds[i]? = some d∧Q (.int (i:Nat)) H
noncomputable def Il (t:Adr):Sp:=fun vs H Q _=>∃ c n ds,∃ i:Nat,∃ d,vs=[.ref c,.str d.name]∧Te t H c n ds∧ds[i]? = some d∧∀ a,ie t H a d→Q (.ref a) H
section
variable {P:Program} {w:World} {K:PySem.W.Frag} {mg:Str→Option Value} {base:Heap} {t:Adr}
theorem qI (T:Txt w K mg t):Kb P w K mg base CX0 1 t.Sd t.Ze q37 (XE t):=by
 refine T.Ki.ok oe (fun vs H Q E h=>?_) (fun _ _ _ s H vs Q E hr h=>?_)
 ·obtain ⟨c,dx,n,wl,ds,rfl,_⟩:=h;rfl
 obtain ⟨c,dx,n,wl,ds,rfl,hc,hW,hnd,hdl,nt,q⟩:=h;have hu:=Ck hr;refine ⟨_,(cb (Of (pv 0) (pv 1) rfl)
   (cb (Of (pv 0) (pv 2) rfl)
   (cb (Of (pv 0) BE rfl)
   (ib (Af PassesOwn.never rfl (yo rfl T.mf (ab (pv 2) gb)) (Ue (K:=K) (n:=2) rfl rfl (Ob (xb (i:=3) oe.nd) (Ob (xb (i:=4) oe.nd) Me))) (ib (DG hu (Pb (pv 0) rfl) (Pb (pv 4) rfl) (pv 3) rfl))))))),?_⟩
 walk_at "RD";refine ⟨_,_,_,hc,T.Cc,T.Bg,by decide,?_⟩;refine ⟨_,_,_,db,T.Cc,T.ii,Ym (n:=999) (by decide),fun nd hn=>?_⟩;simp only [Jk] at hn ⊢;rw [show Qh (Str.ofString "places") (V.int n) ([]:List (Str × V))=[(Str.ofString "places",V.int n)] from rfl,show Qh (Str.ofString "ways") (V.ref wl) [(Str.ofString "places",V.int n)]=[(Str.ofString "places",V.int n),(Str.ofString "ways",V.ref wl)] from Dd [Str.ofString "places"] rfl (by decide +kernel)] at hn ⊢;have hnc:c ≠ nd:=fun z=>by subst z;rw [db] at hn;cases hn
 refine ⟨t.Lb,dx,[(Str.ofString "places",V.int n),(Str.ofString "ways",V.ref wl)],by rw [ub hnc];exact db,T.Cc,T.kg,show (2:Nat) < 1000 by decide,?_⟩;rw [show Qh (Str.ofString "numbers") (V.ref nd) [(Str.ofString "places",V.int n),(Str.ofString "ways",V.ref wl)]=cF n wl nd from Dd [Str.ofString "places",Str.ofString "ways"] rfl (by decide +kernel)];obtain ⟨as,w1,w2,al⟩:=hW;have hHn:H nd=none:=by rw [ub (Ne.symm hnc)] at hn;exact hn
 have sx:Hd c H (upd (upd (upd H c (.ins t.Lb dx [(Str.ofString "places",V.int n),(Str.ofString "ways",V.ref wl)])) nd (.dK [])) c (.ins t.Lb dx (cF n wl nd))):=fun b u hb e=>by
  rw [ub hb,ub (Db e hHn),ub hb];exact e
 have hwc:wl ≠ c:=ij w1 hc (by intro z;cases z);refine ⟨⟨_,SqL.of (sx _ _ hwc w1)⟩,?_⟩;refine Vj.enum (xs:=as.map V.ref) (fun i σ H'=>(∃ x y,σ=[some (V.ref c),some (V.int n),some (V.ref wl),x,y])∧H' c=some (.ins t.Lb dx (cF n wl nd))∧H' nd=some (.dK (Wy ds i))∧Hd c H H'∧NoT H') ?_ ?_ ?_ ?_
 ·exact ⟨⟨_,_,rfl⟩,db,by rw [ub (Ne.symm hnc),db];rfl,sx,((nt.upd).upd).upd⟩
 ·rintro i σ H' hi zzq;refine zP fun zM zzh=>?_
  obtain ⟨_,_,_,sx',_⟩:=zzq;subst zzh;exact SqL.of (sx' _ _ hwc w1)
 ·rintro i v σ H' p hv ⟨⟨x,y,rfl⟩,h1,h2,sx',nt'⟩ hp;obtain ⟨a,ha,rfl⟩:=vh hv;obtain ⟨hi,_⟩:=List.getElem?_eq_some_iff.mp ha;have hid:i < ds.length:=by omega
  have hd:ds[i]? = some ds[i]:=List.getElem?_eq_getElem hid;have Wa:ie t H a ds[i]:=al i a _ ha hd;have hac:a ≠ c:=by
   obtain ⟨_,dx',e⟩:=Wa;intro z;subst z;rw [hc] at e;have e2:=Option.some.inj e;injection e2 with _ _ e3;exact absurd (congrArg List.length e3) (by show ¬ (0:Nat)=7;decide)
  have Wa':ie t H' a ds[i]:=⟨Wa.1,Wa.2.imp fun dx' e=>sx' _ _ hac e⟩;have sp:Mb H' (upd H' p (.tup [.int i,.ref a])):=fb hp;refine yg ?_;walk_at "RD";refine ⟨_,eo T (sp _ _ h1),_,(Wa'.same sp).f_name T,_,rfl,_,vD.k (k:=Sum.inr ds[i].name) (sp _ _ h2) (Nat.lt_of_le_of_lt (show (Wy ds i).length ≤ 12 by unfold Wy;rw [List.length_map,List.length_range];omega) (by decide)),?_⟩;rw [← Zx hd,nD hnd hid];refine ⟨⟨_,rfl⟩,?_,db,fun b u hb e=>?_,(nt'.upd).upd⟩
  ·rw [ub hnc];exact sp _ _ h1
  ·rw [ub (Db e hHn)];exact sp _ _ (sx' b u hb e)
 ·rintro σ H' zzq;refine zP fun zM zzh=>?_
  obtain ⟨⟨x,y,rfl⟩,h1,h2,sx',nt'⟩:=zzq;subst zzh;walk_at "RD";rw [List.length_map,w2] at h2;refine q H' sx' nt' ⟨⟨hnd,hdl⟩,dx,wl,nd,h1,⟨as,sx' _ _ hwc w1,w2,fun i a d h3 h4=>?_⟩,h2⟩;have Wa:=al i a d h3 h4;have hac:a ≠ c:=by
   obtain ⟨_,dx',e⟩:=Wa;intro z;subst z;rw [hc] at e;have e2:=Option.some.inj e;injection e2 with _ _ e3;exact absurd (congrArg List.length e3) (by show ¬ (0:Nat)=7;decide)
  exact ⟨Wa.1,Wa.2.imp fun dx' e=>sx' _ _ hac e⟩
theorem pC (T:Txt w K mg t):Kb P w K mg base CX0 1 t.pd t.fe q8 (kt t):=by
 refine T.mh.ok Cl (fun vs H Q E h=>?_) (fun _ _ _ s H vs Q E hr h=>?_)
 ·obtain ⟨c,n,ds,i,d,rfl,_⟩:=h;rfl
 obtain ⟨c,n,ds,i,d,rfl,⟨⟨hnd,hdl⟩,dx,wl,nd,e1,e2,e3⟩,hd,q⟩:=h;have hu:=Ck hr;have hv:Qj (Wy ds ds.length) (Sum.inr d.name)=some (.int i):=by
  rw [← Zx hd];exact YC hnd (List.getElem?_eq_some_iff.mp hd).1 (Nat.le_refl _)
 have hg:xy H nd (.str d.name) (some (.int i)):=by rw [← hv];exact xy.k (k:=Sum.inr d.name) e3
 refine ⟨_,(cb (Ee (qt (gB hu (pv 1) (Pb (pv 0) rfl))) (ib Cj) Yb)
   (ib (Fb (HH hu (Pb (pv 0) rfl) (pv 1) (fun _ _=>rfl))))),?_⟩
 walk_at "RD";refine Qb false (fun Q hQ=>?_) (fun hc=>nomatch hc) (fun _=>?_)
 ·walk_at "RD";refine ⟨_,eo T e1,_,rfl,_,hg,?_⟩;exact hQ
 ·walk_at "RD";exact ⟨_,eo T e1,_,rfl,_,hg,q⟩
theorem On (T:Txt w K mg t):Kb P w K mg base CX0 2 t.ic t.Gc q8 (Il t):=by
 have g36:Kb P w K mg base CX0 1 t.pd t.fe q8 (kt t):=pC T;refine T.qh.ok Pl (fun vs H Q E h=>?_) (fun _ _ _ s H vs Q E hr h=>?_)
 ·obtain ⟨c,n,ds,i,d,rfl,_⟩:=h;rfl
 obtain ⟨c,n,ds,i,d,rfl,C,hd,q⟩:=h;obtain ⟨⟨hnd,hdl⟩,dx,wl,nd,e1,⟨as,w1,w2,al⟩,e3⟩:=id C;refine ⟨_,(ib (Fb (gc qe (Pb (pv 0) rfl) (Td (pv 0) T.Cc T.Sl g36 hr T.lm .nil Pd (ab (pv 1) gb))))),?_⟩;walk_at "RD";refine ⟨_,hJ T e1,_,_,e1,OH _ _ _ (by decide +kernel),⟨c,n,ds,i,d,rfl,C,hd,?_⟩⟩;have hi:i < as.length:=by rw [w2];exact (List.getElem?_eq_some_iff.mp hd).1
 have ha:as[i]? = some as[i]:=List.getElem?_eq_getElem hi;walk_at "RD";refine ⟨_,SqL.of w1,_,Ub (show (as.map V.ref)[i]? = some (V.ref as[i]) by rw [List.getElem?_map,ha];rfl),?_⟩;exact q as[i] (al i _ d ha hd)
theorem pK (T:Txt w K mg t):Kb P w K mg base CX0 7 t.Qe t.Se ["text"] (EJ t):=by
 have g37:Kb P w K mg base CX0 6 t.il t.Rk ["text"] (kq t):=(vx T).mono (by decide);have g38:Kb P w K mg base CX0 6 t.Th t.Ih ["reader"] (Ez t):=(aH T).mono (by decide);have g39:Kb P w K mg base CX0 6 t.Bj t.xj q33 (NF t):=GI T;have g40:Kb P w K mg base CX0 5 t.Sd t.Ze q37 (XE t):=(qI T).mono (by decide);refine T.eg.ok Jd (fun vs H Q E h=>?_) (fun _ _ _ s H vs Q E hr h=>?_)
 ·obtain ⟨n,ds,rfl,_⟩:=h;rfl
 obtain ⟨n,ds,rfl,hC,nt,qq⟩:=h;refine ⟨_,(cb (wb (i:=1) Jd.nd (qb g37 hr T.wC T.zo.kp T.RB (ab (pv 0) gb)))
   (cb (wb (i:=2) Jd.nd (qb g38 hr T.sv T.Ek.kp T.qv (ab (gc qe (pv 1) lb) gb)))
   (cb (wb (i:=3) Jd.nd (yh gb))
   (cb (Af PassesOwn.never rfl (Ph (gn rH (pv 1) (zn lb) Fu)) (xb (i:=4) Jd.nd) (cb (Ee (Vb Gk (Ed Vc rfl T.uo yd (ab (pv 3) gb)) (Vg rfl T.wu T.xv) (Zb _)) (ib Cj) Yb)
   (ib (De (Qr PySem.F.plainAttrs_list PySem.F.slot_list_append PySem.F.type_list_append Po (pv 3) (ab (qb g39 hr T.Jx T.mm.kp T.Ay (ab (pv 4) (ab (pv 2) (ab (pv 3) gb)))) gb))))))
   (cb (Ee (Aq (vw (pv 3) (fun _=>rfl))) (ib Cj) Yb)
   (ib (Fb (im T.Wx g40 hr rfl T.Hx T.Qo .nil Pd (ab (pv 2) (ab (pv 3) gb)))))))))),?_⟩
 have hrow:=Ax hC;have hlen:=xC hC;have hnn:=hC.nn;have hln:=hC.ln;walk_at "RD";refine ⟨mv n ds,rfl,by omega,?_,nt,fun p H1 sm1 nt1 R=>?_⟩
 ·rw [hrow];intro r hr;refine ⟨?_,fun x hx=>Nat.le_trans (hC.plain r hr x hx).1 (by decide)⟩;rcases List.mem_cons.mp hr with rfl | hr
  ·show (2:Nat) ≤ 1000;decide
  ·obtain ⟨d,hd,rfl⟩:=List.mem_map.mp hr;show (7:Nat) ≤ 1000;decide
 rw [hrow] at R;obtain ⟨qs,hp,hp0,hql,hqa⟩:=R;have hql':qs.length=ds.length + 1:=by rw [hql];simp [Nm]
 obtain ⟨q0,qr,rfl⟩:∃ q0 qr,qs=q0 :: qr:=by
  cases qs with
  | nil=>simp at hql'
  | cons a b=>exact ⟨a,b,rfl⟩
 obtain ⟨R0,hq0⟩:=hqa 0 q0 _ rfl rfl;walk_at "RD";refine ⟨_,SqL.of hp,_,Ub (j:=0) rfl,⟨q0,_,n,rfl,R0,hnn,nt1,fun H2 s2 nt2=>⟨Nat.zero_le _,fun wl hwl=>?_⟩⟩⟩;obtain ⟨C0,dq0,fq0,hins⟩:=R0.ins;have hpq:p ≠ q0:=ij hp hins (by intro z;cases z);have hp2:H2 p=some (.lst ((q0 :: qr).map V.ref)):=s2 _ _ hpq hp;have swl:Mb H2 (upd H2 wl (.lst [])):=fb hwl;have hcut:gG ((q0 :: qr).map V.ref) (some 1) none=qr.map V.ref:=by
  unfold gG;simp [HT.sIx];exact List.take_of_length_le (by rw [List.length_map];exact Nat.le_refl _)
 refine ⟨_,SqL.of (swl _ _ hp2),fun pc hpc=>?_⟩;rw [hcut];have hpw:pc ≠ wl:=fun z=>by subst z;rw [db] at hpc;cases hpc
 have spc:Mb (upd H2 wl (.lst [])) (upd (upd H2 wl (.lst [])) pc (.lst (qr.map V.ref))):=fb hpc;refine ⟨⟨_,SqL.of db⟩,?_⟩;have sH2:Mb H H2:=em sm1 s2 hq0;have hqrl:qr.length=ds.length:=by simpa using hql'
 refine Vj.list (xs:=qr.map V.ref) (fun i σ H'=>(∃ x,σ=[some (V.str (mv n ds)),some (V.ref p),some (V.int n),some (V.ref wl),x])∧NoT H'∧Mb H H'∧H' pc=some (.lst (qr.map V.ref))∧H wl=none∧dj t H' wl (ds.take i) ∧
  ∀ (j:Nat) (q:Addr) (d:WD),i ≤ j→qr[j]? = some q→ds[j]? = some d→rg t H' q ((j + 1:Nat):Int) (Xd d) 0∧H q=none) ?_ ?_ ?_ ?_
 ·refine ⟨⟨_,rfl⟩,(nt2.upd).upd,(sH2.trans swl).trans spc,db,sH2.free hwl,⟨[],spc _ _ db,rfl,fun j a d h=>by simp at h⟩,fun j q d _ h1 h2=>?_⟩;have hr:(Nm n ds)[j + 1]? = some (Xd d):=by
   unfold Nm;rw [List.getElem?_cons_succ,List.getElem?_map,h2];rfl
  obtain ⟨Rj,hqj⟩:=hqa (j + 1) q _ (by rw [List.getElem?_cons_succ];exact h1) hr;refine ⟨((Rj.sameX s2 (zJ Rj R0 (by omega)) R0.ins).same swl).same spc,hqj⟩
 ·rintro i σ H' hi zzq;refine zP fun zM zzh=>?_
  obtain ⟨_,_,_,h,_⟩:=zzq;subst zzh;exact SqL.of h
 ·rintro i v σ H' hv zzq;refine zP fun zM zzh=>?_
  obtain ⟨⟨x,rfl⟩,nt',sm',hpc',hwl0,W,Rs⟩:=zzq;obtain ⟨q,hq,rfl⟩:=vh hv;obtain ⟨hi,_⟩:=List.getElem?_eq_some_iff.mp hq;have hid:i < ds.length:=by omega
  have hd:ds[i]? = some ds[i]:=List.getElem?_eq_getElem hid;obtain ⟨Rq,hqn⟩:=Rs i q _ (Nat.le_refl _) hq hd;have htl:(ds.take i).length=i:=by rw [List.length_take];omega
  obtain ⟨as,w1,w2,al⟩:=id W;subst zzh;walk_at "RD";refine Qb false (fun Q hQ=>?_) (fun hc=>nomatch hc) (fun _=>?_)
  ·walk_at "RD";refine ⟨_,.inl (SqL.of w1),?_⟩;rw [List.length_map,w2,htl];rw [decide_eq_false (by omega)] <;> exact hQ
  ·walk_at "RD";refine ⟨.inl ⟨_,SqL.of w1⟩,?_⟩;refine ⟨q,_,n,wl,ds.take i,ds[i],rfl,Rq,hC.al _ (List.getElem_mem hid),hnn,W,by omega,fun e he z=>?_,nt',fun y H3 s3 nt3 w3 hy3=>?_⟩
   ·obtain ⟨j,hj,rfl⟩:=List.getElem_of_mem he;rw [List.getElem_take] at z;have hj':j < i:=by omega
    have:=BB hC.nd (i:=j) (j:=i) (by omega) hid (by rw [Zx (List.getElem?_eq_getElem (by omega)),Zx hd];exact z);omega
   ·walk_at "RD";obtain ⟨Cq,dq,fq,hqi⟩:=Rq.ins;have hwq:wl ≠ q:=ij w1 hqi (by intro z;cases z);have hw3:H3 wl=some (.lst (as.map V.ref)):=s3 _ _ hwq w1;have hsm3:Mb H H3:=em sm' s3 hqn;refine ⟨_,hw3,Nat.lt_of_le_of_lt (show (as.map V.ref).length ≤ 12 by rw [List.length_map];omega) (by decide),?_⟩;have hyw:y ≠ wl:=fun z=>by
     subst z;rw [w1] at hy3;cases hy3
    refine ⟨⟨_,rfl⟩,nt3.upd,fun b u e=>?_,?_,hwl0,⟨as ++ [y],by rw [db,List.map_append];rfl,?_,fun j a d h1 h2=>?_⟩,fun j q' d hj h1 h2=>?_⟩
    ·rw [ub (Db e hwl0)];exact hsm3 _ _ e
    ·rw [ub hpw];exact s3 _ _ (ij hpc' hqi (by intro z;cases z)) hpc'
    ·rw [List.length_append,w2,htl,List.length_take];show i + 1=_;omega
    ·by_cases hj:j < as.length
     ·rw [List.getElem?_append_left hj] at h1;have h2':(ds.take i)[j]? = some d:=by
       rw [List.getElem?_take_of_lt (by omega)];rw [List.getElem?_take_of_lt (by omega)] at h2;exact h2
      obtain ⟨hk,dx',e⟩:=al j a d h1 h2';have haq:a ≠ q:=lA ⟨hk,dx',e⟩ Rq;have haw:a ≠ wl:=ij e w1 (by intro z;cases z);exact ⟨hk,dx',by rw [ub haw];exact s3 _ _ haq e⟩
     ·rw [List.getElem?_append_right (by omega)] at h1;have hj0:j - as.length=0:=by
       cases hh:j - as.length with
       | zero=>rfl
       | succ m=>rw [hh] at h1;simp at h1
      rw [hj0] at h1;have e3:y=a:=by simpa using h1
      subst e3;have e4:j=i:=by omega
      subst e4;rw [List.getElem?_take_of_lt (by omega),hd] at h2;cases h2;exact ⟨w3.1,w3.2.imp fun dx' e=>by rw [ub hyw];exact e⟩
    ·obtain ⟨Rj,hqj⟩:=Rs j q' d (by omega) h1 h2;have R3:=Rj.sameX s3 (zJ Rj Rq (by omega)) Rq.ins;refine ⟨?_,hqj⟩;obtain ⟨hz,dx',ta,e1,e2⟩:=R3;refine ⟨hz,dx',ta,by rw [ub (ij e1 hw3 (by intro z;cases z))];exact e1,?_⟩;rw [ub (fun z=>by
      subst z;rw [hw3] at e2;have e5:=Option.some.inj e2;injection e5 with e6;cases as with
      | nil=>exact absurd (congrArg List.length e6) (by show ¬ (0:Nat)=7;decide)
      | cons a r=>injection e6 with e7 _;cases e7)]
     exact e2
 ·rintro σ H' zzq;refine zP fun zM zzh=>?_
  obtain ⟨⟨x,rfl⟩,nt',sm',hpc',hwl0,W,Rs⟩:=zzq;subst zzh;rw [List.length_map,hqrl,List.take_length] at W;obtain ⟨as,w1,w2,al⟩:=id W;walk_at "RD";refine Qb false (fun Q hQ=>?_) (fun hc=>nomatch hc) (fun _=>?_)
  ·walk_at "RD";refine ⟨true,.inl ⟨_,SqL.of w1,?_⟩,hQ⟩;cases as with
   | nil=>simp at w2;omega
   | cons a r=>rfl
  ·walk_at "RD";intro c dx hc hdx hne;have sc:Mb H' (upd (upd H' dx (.own c)) c (.ins t.Lb dx [])):=((Mb.refl H').updN hdx).updN hc;refine ⟨c,dx,n,wl,ds,rfl,db,W.same sc,hC.nd,hln.2,(nt'.upd).upd,fun H5 s5 nt5 C5=>⟨rfl,?_⟩⟩;exact qq c H5 (em (sm'.trans sc) s5 (sm'.free hc)) nt5 C5
end
end My
namespace My
open PySem L2
theorem QF {n s p:Int} (h0:0 ≤ s) (h1:s < n) (h2:0 ≤ p) (h3:p < n):(p - s) % n=if s ≤ p then p - s else p - s + n:=by
 split
 ·rename_i h;exact Int.emod_eq_of_lt (by omega) (by omega)
 ·rename_i h;have e:(p - s) % n=(p - s + n) % n:=(Int.add_emod_right ..).symm;rw [e];exact Int.emod_eq_of_lt (by omega) (by omega)
noncomputable def Ik (n s f p:Int):Bool:=decide (0 < (p - s) % n) && decide ((p - s) % n < (f - s) % n)
noncomputable def ur (n s f s2 f2:Int):Bool:=decide (f=f2) || (if (s2=s∨s2=f)∨(f2=s∨f2=f) then false else (Ik n s f s2 != Ik n s f f2))
theorem lE {s f p:Int} (h1:p ≠ s) (h2:p ≠ f) (h3:s ≠ f):((decide (s < f) && decide (f < p) && !decide (s < p)) || (!decide (s < f) && !decide (f < p) && decide (s < p)))=false:=by
 by_cases a:s < f <;> by_cases b:f < p
 ·rw [decide_eq_true a,decide_eq_true b,decide_eq_true (show s < p by omega)];rfl
 ·rw [decide_eq_true a,decide_eq_false b];rfl
 ·rw [decide_eq_false a,decide_eq_true b];rfl
 ·rw [decide_eq_false a,decide_eq_false b,decide_eq_false (show ¬ s < p by omega)];rfl
theorem Ey {s p:Int} (h:s ≠ p):decide (p < s) = !decide (s < p):=by
 by_cases a:s < p
 ·rw [decide_eq_true a,decide_eq_false (by omega)];rfl
 ·rw [decide_eq_false a,decide_eq_true (by omega)];rfl
theorem Vq {n s f p:Int} (hs:0 ≤ s∧s < n) (hf:0 ≤ f∧f < n) (hp:0 ≤ p∧p < n) (h1:p ≠ s) (h2:p ≠ f) (h3:s ≠ f):Ik n s f p=((decide (s < p) && decide (p < f)) || (decide (p < f) && decide (f < s)) || (decide (f < s) && decide (s < p))):=by
 unfold Ik;rw [QF hs.1 hs.2 hp.1 hp.2,QF hs.1 hs.2 hf.1 hf.2,decide_eq_true (show 0 < (if s ≤ p then p - s else p - s + n) by split <;> omega),Bool.true_and,Ey h3];by_cases a:s < p <;> by_cases b:s < f
 ·rw [if_pos (by omega),if_pos (by omega),decide_eq_true a,decide_eq_true b,show decide (p - s < f - s)=decide (p < f) from decide_eq_decide.mpr (by omega)];cases decide (p < f) <;> rfl
 ·rw [if_pos (by omega),if_neg (by omega),decide_eq_true a,decide_eq_false b,decide_eq_true (show p - s < f - s + n by omega)];cases decide (p < f) <;> rfl
 ·rw [if_neg (by omega),if_pos (by omega),decide_eq_false a,decide_eq_true b,decide_eq_false (show ¬ p - s + n < f - s by omega)];cases decide (p < f) <;> rfl
 ·rw [if_neg (by omega),if_neg (by omega),decide_eq_false a,decide_eq_false b,show decide (p - s + n < f - s + n)=decide (p < f) from decide_eq_decide.mpr (by omega)];cases decide (p < f) <;> rfl
theorem rK:∀ a b c d e g:Bool,((a && d && !b) || (!a && !d && b))=false→((a && e && !c) || (!a && !e && c))=false→((b && g && !c) || (!b && !g && c))=false→((d && g && !e) || (!d && !g && e))=false →
  (((b && !d) || (!d && !a) || (!a && b)) != ((c && !e) || (!e && !a) || (!a && c)))=(((!b && c) || (c && !g) || (!g && !b)) != ((!d && e) || (e && !g) || (!g && !d))):=by decide +kernel
theorem jy {n s f s2 f2:Int} (hs:0 ≤ s∧s < n) (hf:0 ≤ f∧f < n) (hs2:0 ≤ s2∧s2 < n) (hf2:0 ≤ f2∧f2 < n) (hne:s ≠ f) (hne2:s2 ≠ f2):ur n s f s2 f2=ur n s2 f2 s f:=by
 unfold ur;by_cases e:f=f2
 ·rw [decide_eq_true e,decide_eq_true e.symm];rfl
 ·rw [decide_eq_false e,decide_eq_false (Ne.symm e)];by_cases c:(s2=s∨s2=f)∨(f2=s∨f2=f)
  ·have c':(s=s2∨s=f2)∨(f=s2∨f=f2):=by omega
   rw [if_pos c,if_pos c']
  ·have c':¬ ((s=s2∨s=f2)∨(f=s2∨f=f2)):=by omega
   rw [if_neg c,if_neg c'];have n1:s2 ≠ s:=by omega
   have n2:s2 ≠ f:=by omega
   have n3:f2 ≠ s:=by omega
   have n4:f2 ≠ f:=by omega
   rw [Bool.false_or,Bool.false_or,Vq hs hf hs2 n1 n2 hne,Vq hs hf hf2 n3 n4 hne,Vq hs2 hf2 hs n1.symm n3.symm hne2,Vq hs2 hf2 hf n2.symm n4.symm hne2,Ey n1.symm,Ey n2.symm,Ey n4.symm,Ey hne,Ey hne2];exact rK _ _ _ _ _ _ (lE n1 n2 hne) (lE n3 n4 hne) (lE n3 hne2.symm n1.symm) (lE n4 hne2.symm n2.symm)
noncomputable def BJ:List Bool→Nat
 | []=>0
 | b :: r=>(if b then 1 else 0) + 2 * BJ r
noncomputable abbrev mt (n:Int) (d e:WD):Bool:=ur n d.start d.fin e.start e.fin
noncomputable def xF (t:Adr):Sp:=fun vs H Q _=>∃ a d n p,vs=[.int n,.ref a,.int p]∧ie t H a d∧0 < n∧Q (.bl (Ik n d.start d.fin p)) H
noncomputable def CJ (n:Int) (d e:WD):Bool:=if (e.start=d.start∨e.start=d.fin)∨(e.fin=d.start∨e.fin=d.fin) then false else (Ik n d.start d.fin e.start != Ik n d.start d.fin e.fin)
noncomputable def Iz (t:Adr):Sp:=fun vs H Q _=>∃ a b d e n,vs=[.int n,.ref a,.ref b]∧ie t H a d∧ie t H b e∧0 < n∧NoT H∧Q (.bl (CJ n d e)) H
noncomputable def SD (t:Adr):Sp:=fun vs H Q _=>∃ a b d e n,vs=[.int n,.ref a,.ref b]∧ie t H a d∧ie t H b e∧0 < n∧∀ H',Mb H H'→Q (.bl (CJ n d e)) H'
noncomputable def Lu (t:Adr):Sp:=fun vs H Q _=>∃ c n ds,∃ i j:Nat,∃ d e,vs=[.ref c,.str d.name,.str e.name]∧Te t H c n ds∧0 < n∧ds[i]? = some d∧ds[j]? = some e∧NoT H∧Q (.bl (mt n d e)) H
section
variable {P:Program} {w:World} {K:PySem.W.Frag} {mg:Str→Option Value} {base:Heap} {t:Adr}
theorem HI (T:Txt w K mg t):Kb P w K mg base CX0 1 t.vn t.sn q25 (xF t):=by
 refine T.dn.ok Hs (fun vs H Q E h=>?_) (fun _ _ _ s H vs Q E hr h=>?_)
 ·obtain ⟨a,d,n,p,rfl,_⟩:=h;rfl
 obtain ⟨a,d,n,p,rfl,W,hn,q⟩:=h;refine ⟨_,(cb (wb (i:=3) Hs.nd (Jb gf (Jb qk (pv 2) (Pb (pv 1) rfl)) (pv 0)))
   (ib (Fb (SF (Be Iy lb (pv 3) (Zb _)) (Dq (Be Iy (pv 3) (Jb gf (Jb qk (Pb (pv 1) rfl) (Pb (pv 1) rfl)) (pv 0)) (Zb _))))))),?_⟩
 walk_at "RD";refine ⟨_,W.f_start T,_,rfl,hn,?_⟩;unfold Ik at q;by_cases c:0 < (p - d.start) % n
 ·rw [if_pos (decide_eq_true c)];rw [decide_eq_true c,Bool.true_and] at q;exact ⟨_,W.f_end T,_,W.f_start T,_,rfl,_,rfl,hn,q⟩
 ·rw [if_neg (by simpa using c)];rw [decide_eq_false c,Bool.false_and] at q;exact q
theorem FK (x a b:Int):inV (.int x) [.int a,.int b]=decide (x=a∨x=b):=by
 unfold inV;simp only [List.any_cons,List.any_nil,eqV,Bool.or_false];rw [Bool.eq_iff_iff];simp only [Bool.or_eq_true,beq_iff_eq,decide_eq_true_eq];omega
theorem jG (T:Txt w K mg t):Kb P w K mg base CX0 2 t.Ag t.Dg q18 (Iz t):=by
 refine Kb.forget (sp:=SD t) ?_ fun vs H Q E h=>?_
 ·have g22:Kb P w K mg base CX0 1 t.vn t.sn q25 (xF t):=HI T;refine T.Ei.ok Nr (fun vs H Q E h=>?_) (fun _ _ _ s H vs Q E hr h=>?_)
  ·obtain ⟨a,b,d,e,n,rfl,_⟩:=h;rfl
  obtain ⟨a,b,d,e,n,rfl,Wa,Wb,hn,q⟩:=h;refine ⟨_,(cb (Ee (PW.pt (ND (Vb Hl (Pb (pv 2) rfl) (yh (ab (Pb (pv 1) rfl) (ab (Pb (pv 1) rfl) gb))) (by with_unfolding_all rfl)) (Ow (Vb Hl (Pb (pv 2) rfl) (yh (ab (Pb (pv 1) rfl) (ab (Pb (pv 1) rfl) gb))) (by with_unfolding_all rfl))))) (ib (Fb Fp)) Yb)
   (ib (Fb (Be Zu (qb g22 hr T.Cv T.dn.kp T.lx (ab (pv 0) (ab (pv 1) (ab (Pb (pv 2) rfl) gb)))) (qb g22 hr T.Cv T.dn.kp T.lx (ab (pv 0) (ab (pv 1) (ab (Pb (pv 2) rfl) gb)))) (Zb _))))),?_⟩
  walk_at "RD";refine Yk (fun b H'=>Mb H H'∧b=decide ((e.start=d.start∨e.start=d.fin)∨(e.fin=d.start∨e.fin=d.fin))) (fun Q hQ=>?_) (fun H' ⟨sm,hb⟩=>?_) (fun H' ⟨sm,hb⟩=>?_)
  ·walk_at "RD";refine ⟨_,Wb.f_start T,_,Wa.f_start T,_,Wa.f_end T,by decide,fun p hp=>⟨_,.inl (SqL.of db),rfl,rfl,?_⟩⟩;have s1:Mb H (upd H p (.lst [.int d.start,.int d.fin])):=fb hp;rw [FK];by_cases c1:e.start=d.start∨e.start=d.fin
   ·rw [if_pos (decide_eq_true c1)];exact hQ _ _ ⟨s1,(decide_eq_true (.inl c1)).symm⟩
   ·rw [if_neg (by simpa using c1)];refine ⟨_,(Wb.same s1).f_end T,_,(Wa.same s1).f_start T,_,(Wa.same s1).f_end T,by decide,fun p2 hp2=>⟨_,.inl (SqL.of db),rfl,rfl,?_⟩⟩;rw [FK];refine hQ _ _ ⟨s1.trans (fb hp2),?_⟩;rw [Bool.eq_iff_iff,decide_eq_true_eq,decide_eq_true_eq];exact ⟨.inr,fun z=>z.resolve_left c1⟩
  ·walk_at "RD";have hb':=of_decide_eq_true hb.symm;have:=q H' sm;unfold CJ at this;rw [if_pos hb'] at this;exact this
  ·walk_at "RD";have hb':=of_decide_eq_false hb.symm;refine ⟨_,(Wb.same sm).f_start T,⟨a,d,n,_,rfl,Wa.same sm,hn,?_⟩⟩;refine ⟨_,(Wb.same sm).f_end T,⟨a,d,n,_,rfl,Wa.same sm,hn,?_⟩⟩;refine ⟨rfl,?_⟩;have:=q H' sm;unfold CJ at this;rw [if_neg hb'] at this;rw [show (!decide (V.bl (Ik n d.start d.fin e.start)=V.bl (Ik n d.start d.fin e.fin)))=(Ik n d.start d.fin e.start != Ik n d.start d.fin e.fin) by
    cases Ik n d.start d.fin e.start <;> cases Ik n d.start d.fin e.fin <;> rfl]
   exact this
 ·obtain ⟨a,b,d,e,n,h1,h2,h3,h4,nt,q⟩:=h;exact ⟨nt,a,b,d,e,n,h1,h2,h3,h4,fun H' sm=>⟨sm,q⟩⟩
theorem jK (n:Int) (d e:WD):mt n d e=(decide (d.fin=e.fin) || CJ n d e):=rfl
theorem oB (T:Txt w K mg t):Kb P w K mg base CX0 3 t.Ls t.Bs q10 (Lu t):=by
 have g10:Kb P w K mg base CX0 2 t.ic t.Gc q8 (Il t):=On T;have g41:Kb P w K mg base CX0 2 t.Ag t.Dg q18 (Iz t):=jG T;refine T.ax.ok Pu (fun vs H Q E h=>?_) (fun _ _ _ s H vs Q E hr h=>?_)
 ·obtain ⟨c,n,ds,i,j,d,e,rfl,_⟩:=h;rfl
 obtain ⟨c,n,ds,i,j,d,e,rfl,C,hn,hd,he,nt,q⟩:=h;obtain ⟨_,dx,wl,nd,e1,e2,e3⟩:=id C;refine ⟨_,(cb (wb (i:=3) Pu.nd (Td (pv 0) T.Cc T.kd g10 hr T.qd .nil Pd (ab (pv 1) gb)))
   (cb (wb (i:=4) Pu.nd (Td (pv 0) T.Cc T.kd g10 hr T.qd .nil Pd (ab (pv 2) gb)))
   (ib (Fb (FE (Be Gk (Pb (pv 3) rfl) (Pb (pv 4) rfl) (Zb _)) (Dq (qb g41 hr T.Nt T.Ei.kp T.fu (ab (Pb (pv 0) rfl) (ab (pv 3) (ab (pv 4) gb)))))))))),?_⟩
 rw [jK] at q;walk_at "RD";refine ⟨_,_,e1,OH _ _ _ (by decide +kernel),⟨c,n,ds,i,d,rfl,C,hd,fun a Wa=>?_⟩⟩;walk_at "RD";refine ⟨_,_,e1,OH _ _ _ (by decide +kernel),⟨c,n,ds,j,e,rfl,C,he,fun b Wb=>?_⟩⟩;walk_at "RD";refine ⟨_,Wa.f_end T,_,Wb.f_end T,rfl,?_⟩;walk_at "RD";by_cases c1:d.fin=e.fin
 ·rw [if_pos (decide_eq_true c1)];rw [decide_eq_true c1,Bool.true_or] at q;exact q
 ·rw [if_neg (by simpa using c1)];rw [decide_eq_false c1,Bool.false_or] at q;exact ⟨_,BD T e1,⟨a,b,d,e,n,rfl,Wa,Wb,hn,nt,q⟩⟩
end
noncomputable def ME (t:Adr):Sp:=fun vs H Q _=>∃ c n ds,∃ i j:Nat,∃ d e,vs=[.ref c,.str d.name,.str e.name]∧Te t H c n ds∧ds[i]? = some d∧ds[j]? = some e∧Q (.int (if d.off - e.near > 0 then d.off - e.near else 0)) H
section
variable {P:Program} {w:World} {K:PySem.W.Frag} {mg:Str→Option Value} {base:Heap} {t:Adr}
theorem HJ (T:Txt w K mg t):Kb P w K mg base CX0 3 t.tD t.DE q10 (ME t):=by
 have g10:Kb P w K mg base CX0 2 t.ic t.Gc q8 (Il t):=On T;refine T.IH.ok cC (fun vs H Q E h=>?_) (fun _ _ _ s H vs Q E hr h=>?_)
 ·obtain ⟨c,n,ds,i,j,d,e,rfl,_⟩:=h;rfl
 obtain ⟨c,n,ds,i,j,d,e,rfl,C,hd,he,q⟩:=h;obtain ⟨_,dx,wl,nd,e1,e2,e3⟩:=id C;refine ⟨_,(cb (wb (i:=3) cC.nd (Td (pv 0) T.Cc T.kd g10 hr T.qd .nil Pd (ab (pv 1) gb)))
   (cb (wb (i:=4) cC.nd (Td (pv 0) T.Cc T.kd g10 hr T.qd .nil Pd (ab (pv 2) gb)))
   (ib (Fb (Ed (Js rfl) rfl T.WG Mq (ab lb (ab (Jb qk (Pb (pv 3) rfl) (Pb (pv 4) rfl)) gb))))))),?_⟩
 walk_at "RD";refine ⟨_,_,e1,OH _ _ _ (by decide +kernel),⟨c,n,ds,i,d,rfl,C,hd,fun a Wa=>?_⟩⟩;walk_at "RD";refine ⟨_,_,e1,OH _ _ _ (by decide +kernel),⟨c,n,ds,j,e,rfl,C,he,fun b Wb=>?_⟩⟩;walk_at "RD";refine ⟨_,Wa.f_off T,_,Wb.f_near T,?_⟩;walk_at "RD";exact q
end
end My
namespace My
open PySem L2
theorem uA {α:Type} {l:List α} {a x:α} {i:Nat} (h:(l ++ [a])[i]? = some x):(i < l.length∧l[i]? = some x)∨(i=l.length∧x=a):=by
 by_cases hi:i < l.length
 ·rw [List.getElem?_append_left hi] at h;exact .inl ⟨hi,h⟩
 ·rw [List.getElem?_append_right (by omega)] at h;have h0:i - l.length=0:=by
   cases hh:i - l.length with
   | zero=>rfl
   | succ m=>rw [hh] at h;simp at h
  rw [h0] at h;exact .inr ⟨by omega,(by simpa using h:a=x).symm⟩
noncomputable def nk (H:Hp) (wl:Addr) (ws:List (WD × Int)):Prop:=∃ qs:List Addr,H wl=some (.lst (qs.map V.ref))∧qs.length=ws.length∧∀ (i:Nat) (q:Addr) (p:WD × Int),qs[i]? = some q→ws[i]? = some p→H q=some (.tup [.str p.1.name,.int p.2])
noncomputable def Ce (i j:Nat):List Key:=[Sum.inl (i:Int),Sum.inl (j:Int)]
noncomputable def tw (d e:WD):Int:=if d.off - e.near > 0 then d.off - e.near else 0
noncomputable def uh (n:Int) (ws:List (WD × Int)) (i m:Nat):List (List Key × V):=
 (List.range m).filterMap fun j=>match ws[i]?,ws[j]? with
  | some p,some q=>if i ≠ j∧mt n p.1 q.1=true then some (Ce i j,V.int (p.2 + tw p.1 q.1)) else none
  | _,_=>none
noncomputable def cf (n:Int) (ws:List (WD × Int)) (i:Nat):List (List Key × V):=(List.range i).flatMap fun k=>uh n ws k ws.length
theorem Dy (n:Int) (ws:List (WD × Int)) (i:Nat):uh n ws i 0=[]:=rfl
theorem lr {n:Int} {ws:List (WD × Int)} {i m:Nat} {p q:WD × Int} (hi:ws[i]? = some p) (hm:ws[m]? = some q) (h:¬ (i ≠ m∧mt n p.1 q.1=true)):uh n ws i (m + 1)=uh n ws i m:=by
 unfold uh;rw [List.range_succ,List.filterMap_append];simp only [List.filterMap_cons,List.filterMap_nil,hi,hm,if_neg h,List.append_nil]
theorem gu {n:Int} {ws:List (WD × Int)} {i m:Nat} {p q:WD × Int} (hi:ws[i]? = some p) (hm:ws[m]? = some q) (h:i ≠ m∧mt n p.1 q.1=true):uh n ws i (m + 1)=uh n ws i m ++ [(Ce i m,V.int (p.2 + tw p.1 q.1))]:=by
 unfold uh;rw [List.range_succ,List.filterMap_append];simp only [List.filterMap_cons,List.filterMap_nil,hi,hm,if_pos h]
theorem Kq (n:Int) (ws:List (WD × Int)) (i:Nat):cf n ws (i + 1)=cf n ws i ++ uh n ws i ws.length:=by
 unfold cf;rw [List.range_succ,List.flatMap_append];simp
theorem Jo {n:Int} {ws:List (WD × Int)} {i m:Nat} {x:List Key × V} (h:x ∈ uh n ws i m):∃ j p q,j < m∧ws[i]? = some p∧ws[j]? = some q∧i ≠ j∧mt n p.1 q.1=true∧x=(Ce i j,V.int (p.2 + tw p.1 q.1)):=by
 unfold uh at h;obtain ⟨j,hj,e⟩:=List.mem_filterMap.mp h;have hj':=List.mem_range.mp hj;cases hp:ws[i]? with
 | none=>simp [hp] at e
 | some p=>
  cases hq:ws[j]? with
  | none=>simp [hp,hq] at e
  | some q=>
   simp only [hp,hq] at e;split at e
   ·rename_i c;exact ⟨j,p,q,hj',rfl,hq,c.1,c.2,(Option.some.inj e).symm⟩
   ·cases e
theorem Xs {n:Int} {ws:List (WD × Int)} {i:Nat} {x:List Key × V} (h:x ∈ cf n ws i):∃ k,k < i∧x ∈ uh n ws k ws.length:=by
 unfold cf at h;obtain ⟨k,hk,e⟩:=List.mem_flatMap.mp h;exact ⟨k,List.mem_range.mp hk,e⟩
theorem fh {i j i' j':Nat} (h:Ce i j=Ce i' j'):i=i'∧j=j':=by
 unfold Ce at h;simp only [List.cons.injEq,Sum.inl.injEq,and_true] at h;omega
theorem Pp {kvs:List (List Key × V)} {k:List Key} {v:V} (h:∀ x ∈ kvs,x.1 ≠ k):Uo kvs k v=kvs ++ [(k,v)]:=by
 unfold Uo;rw [if_neg];intro z;obtain ⟨x,hx,e⟩:=List.any_eq_true.mp z;exact h x hx (of_decide_eq_true e)
theorem OD {n:Int} {ws:List (WD × Int)} {i m:Nat} {p q:WD × Int} (hi:ws[i]? = some p) (hm:ws[m]? = some q) (h:i ≠ m∧mt n p.1 q.1=true) :
  Uo (cf n ws i ++ uh n ws i m) (Ce i m) (V.int (p.2 + tw p.1 q.1))=cf n ws i ++ uh n ws i (m + 1):=by
 rw [gu hi hm h,Pp,List.append_assoc];intro x hx e;rcases List.mem_append.mp hx with z | z
 ·obtain ⟨k,hk,z⟩:=Xs z;obtain ⟨j,p',q',_,_,_,_,_,rfl⟩:=Jo z;have:=fh e;omega
 ·obtain ⟨j,p',q',hj,_,_,_,_,rfl⟩:=Jo z;have:=fh e;omega
theorem Yr (n:Int) (ws:List (WD × Int)) (i m:Nat):(uh n ws i m).length ≤ m:=by
 unfold uh;exact Nat.le_trans (List.length_filterMap_le _ _) (by simp)
theorem eu (n:Int) (ws:List (WD × Int)) (i:Nat):(cf n ws i).length ≤ i * ws.length:=by
 induction i with
 | zero=>simp [cf]
 | succ i ih=>
  rw [Kq,List.length_append,Nat.succ_mul];have:=Yr n ws i ws.length;omega
noncomputable def Kc (p:WD × Int):Int:=p.2 + qm p.1 + zh p.1
noncomputable def zk (m:Int) (al sd:Addr):List (Str × V):=[(Str.ofString "many",.int m),(Str.ofString "alones",.ref al),(Str.ofString "steps",.ref sd)]
theorem rF {d:WD} {m:Str} (h:bp.contains m=false):(Np d).lookup m=none:=Ol bp (Jq _) h
theorem EC {P:Program} {w:World} {K:PySem.W.Frag} {mg:Str→Option Value} {base:Heap} {CX:CXT} {j k:Nat} {OK:Addr→Prop} {m:Str} {ps:List Str} {SPV:Addr→Sp} (V:wG P w K mg base CX j OK m ps SPV) (h:j ≤ k):wG P w K mg base CX k OK m ps SPV:=⟨fun C hC=>by
 obtain ⟨f,fd,h1,h2,h3,h4⟩:=V.ok C hC;exact ⟨f,fd,h1,h2,h3.mono h,h4⟩⟩
theorem Ct {H:Hp} {p b C D dx dy:Addr} {x:Str × V} {fs:List (Str × V)} (hp:H p=some (.ins C dx [])) (hb:H b=some (.ins D dy (x :: fs))):b ≠ p:=fun z=>by
 subst z;rw [hp] at hb;cases hb
theorem SH {t:Adr} {H H':Hp} {p a C dx:Addr} {d:WD} (hp:H p=some (.ins C dx [])) (sx:Hd p H H') (h:ie t H a d):ie t H' a d:=by
 obtain ⟨h1,dy,e⟩:=h;exact ⟨h1,dy,sx _ _ (Ct hp e) e⟩
theorem LA {t:Adr} {H H':Hp} {p c C dx:Addr} {n:Int} {ds:List WD} (hp:H p=some (.ins C dx [])) (sx:Hd p H H') (h:Te t H c n ds):Te t H' c n ds:=by
 obtain ⟨h0,dy,wl,nd,e1,⟨as,w1,w2,w3⟩,e3⟩:=h;exact ⟨h0,dy,wl,nd,sx _ _ (Ct hp e1) e1,⟨as,sx _ _ (ij w1 hp (by intro z;cases z)) w1,w2,fun i a d h1 h2=>SH hp sx (w3 i a d h1 h2)⟩,sx _ _ (ij e3 hp (by intro z;cases z)) e3⟩
theorem HE {K:PySem.W.Frag} {a b:Addr} {xs ys:List V} {g:TG} {σb:St} {H:Hp} {tc:TT} {te:TE} {Q:VK} (Pv:Nat→List V→Hp→Prop) (n:Nat) (hn:n=min xs.length ys.length) (hz:n ≤ sizeLine) (h0:Pv 0 [] H) (hl:∀ i zs H,i ≤ n→Pv i zs H→(SqL K H a xs∧SqL K H b ys)∧zs.length ≤ i)
  (hs:∀ i x y zs H p,xs[i]? = some x→ys[i]? = some y→Pv i zs H→H p=none→Vf Pv g tc te σb i (.ref p) zs (upd H p (.tup [x,y]))) (hd:∀ zs H,Pv n zs H→∀ p,H p=none→Q (.ref p) (upd H p (.lst zs))):Yc (Itz K a b) g tc te σb Q H:=by
 refine Yc.of (n:=n) Pv hz h0 (fun i zs H hi p=>?_) (fun zs H p=>?_) (fun i zs H hi p=>(hl i zs H (Nat.le_of_lt hi) p).2) (fun i zs H v H' hi p y=>?_) hd
 ·obtain ⟨⟨z1,z2⟩,_⟩:=hl i zs H (Nat.le_of_lt hi) p;exact ⟨xs,ys,xs[i],ys[i],z1,z2,by rw [List.getElem?_eq_getElem (by omega)],by rw [List.getElem?_eq_getElem (by omega)]⟩
 ·obtain ⟨⟨z1,z2⟩,_⟩:=hl n zs H (Nat.le_refl _) p;exact ⟨xs,ys,z1,z2,by omega⟩
 ·obtain ⟨q,x,y,hq,rfl,hx,hy,rfl⟩:=y;obtain ⟨⟨z1,z2⟩,_⟩:=hl i zs H (Nat.le_of_lt hi) p;exact hs i x y zs H q (hx xs z1) (hy ys z2) p hq
section
variable (P:Program) (w:World)
noncomputable def Uc (t:Adr) (H:Hp) (p:Addr) (n:Int) (ws:List (WD × Int)):Prop:=∃ dx al sd,H p=some (.ins t.Gb dx (zk ws.length al sd))∧H al=some (.lst (ws.map fun p=>V.int (Kc p)))∧vk P w H sd (cf n ws ws.length)
noncomputable def yw (t:Adr):Sp:=fun vs H Q _=>∃ p dx c wl n ds ws,vs=[.ref p,.ref c,.ref wl]∧H p=some (.ins t.Gb dx [])∧Te t H c n ds∧0 < n∧nk H wl ws∧(∀ q ∈ ws,∃ i:Nat,ds[i]? = some q.1)∧ws.length ≤ 20∧(∀ q ∈ ws,0 ≤ q.2∧q.2 ≤ 100000)∧NoT H ∧
 ∀ H',Hd p H H'→NoT H'→Uc P w t H' p n ws→Q .non H'
end
noncomputable def xn:List Str:=[Str.ofString "many",Str.ofString "alones",Str.ofString "steps"]
theorem jm (m:Int) (al sd:Addr):(zk m al sd).map (·.1)=xn:=rfl
section
variable {P:Program} {w:World} {K:PySem.W.Frag} {mg:Str→Option Value} {base:Heap} {t:Adr}
theorem ce (T:Txt w K mg t) {H:Hp} {p dx al sd:Addr} {m:Int} (e:H p=some (.ins t.Gb dx (zk m al sd))):Mj K H p (Str.ofString "steps") (.ref sd):=⟨_,dx,_,e,T.gh,T.jj,Qd xn 2 (jm ..) (by decide +kernel) rfl⟩
theorem No (T:Txt w K mg t) {H:Hp} {p dx al sd:Addr} {m:Int} (e:H p=some (.ins t.Gb dx (zk m al sd))):Mj K H p (Str.ofString "alones") (.ref al):=⟨_,dx,_,e,T.gh,T.gi,Qd xn 1 (jm ..) (by decide +kernel) rfl⟩
theorem zD (T:Txt w K mg t):Kb P w K mg base CX0 4 t.Xe t.Sf q36 (yw P w t):=by
 have g10:Kb P w K mg base CX0 3 t.ic t.Gc q8 (Il t):=(On T).mono (by decide);have V_Way_ready:wG P w K mg base CX0 3 (isW t) "ready" ["self"] (Ni t):=EC (FG T) (by decide);have V_Way_fade:wG P w K mg base CX0 3 (isW t) "fade" ["self"] (Sk t):=EC (QH T) (by decide);have g17:Kb P w K mg base CX0 3 t.Ls t.Bs q10 (Lu t):=oB T;have g42:Kb P w K mg base CX0 3 t.tD t.DE q10 (ME t):=HJ T;refine T.El.ok zc (fun vs H Q E h=>?_) (fun _ _ _ s H vs Q E hr h=>?_)
 ·obtain ⟨p,dx,c,wl,n,ds,ws,rfl,_⟩:=h;rfl
 obtain ⟨p,dx,c,wl,n,ds,ws,rfl,hp,C,hn,W,hds,hlen,hb,nt,q⟩:=h;have hu:=Ck hr;refine ⟨_,(cb (sh (i:=3) zc.nd rfl (Or.inl rfl) rfl (Ph (pv 2)) (Hc (sc:=jb Uf) rfl (by decide +kernel)) (N:=q43) (sel:=[none,none,some 1]) (Cd (M:=q41) (by decide +kernel)) (Blk.of (fun _ _ _ _=>(Ue (K:=K) (n:=2) rfl rfl (Ob (xb (i:=0) (xi (N:=q43) (by decide +kernel) rfl)) (Ob (xb (i:=1) (xi (N:=q43) (by decide +kernel) rfl)) Me)))) (fun _ _ _ _=>⟨_,wg,by walk_at "B"⟩) (fun _ _ _ _=>⟨_,(Td (pv 2) T.Cc T.kd g10 hr T.qd .nil Pd (ab (pv 0) gb)),by walk_at "B"⟩)) rfl)
   (cb (Of (pv 0) (Ed Vc rfl T.uo yd (ab (pv 2) gb)) rfl)
   (cb (Of (pv 0) (eh rfl (UH rfl T.LK (ab (pv 2) (ab (pv 3) gb))) (Hc (sc:=jb Uf) rfl (by decide +kernel)) (N:=["want","way"]) (sel:=[none,none]) (Cd (M:=q41) (by decide +kernel)) (Blk.of (fun _ _ _ _=>(Ue (K:=K) (n:=2) rfl rfl (Ob (xb (i:=0) (xi (N:=["want","way"]) (by decide +kernel) rfl)) (Ob (xb (i:=1) (xi (N:=["want","way"]) (by decide +kernel) rfl)) Me)))) (fun _ _ _ _=>⟨_,wg,by walk_at "B"⟩) (fun _ _ _ _=>⟨_,(Jb Bd (Jb Bd (gc Je (pv 0) lb) (Ft (pv 1) V_Way_fade hr Pd)) (Ft (pv 1) V_Way_ready hr Pd)),by walk_at "B"⟩))) rfl)
   (cb (Of (pv 0) oA rfl)
   (ib (Af PassesOwn.never rfl (yo rfl T.mf (ab (pv 2) gb)) (Ue (K:=K) (n:=2) rfl rfl (Ob (xb (i:=4) zc.nd) (Ob (xb (i:=5) zc.nd) Me))) (ib (Af PassesOwn.never rfl (yo rfl T.mf (ab (pv 2) gb)) (Ue (K:=K) (n:=2) rfl rfl (Ob (xb (i:=6) zc.nd) (Ob (xb (i:=7) zc.nd) Me))) (ib (Ee (PW.pt (HF (Vb Zu (pv 4) (pv 6) (Zb _)) (OB (Bm (qb g17 hr T.PF T.ax.kp T.bF (ab (pv 1) (ab (gc Je (pv 5) lb) (ab (gc Je (pv 7) lb) gb)))))))) (ib (Eu hu (Pb (pv 0) rfl) (Lc (ab (pv 4) (ab (pv 6) gb))) (Jb Bd (gc Je (pv 5) lb) (qb g42 hr T.oK T.IH.kp T.NK (ab (pv 1) (ab (gc Je (pv 5) lb) (ab (gc Je (pv 7) lb) gb))))) rfl)) Yb)))))))))),?_⟩
 obtain ⟨qs,w1,w2,al⟩:=id W;have hql:(qs.map V.ref).length ≤ sizeLine:=Nat.le_trans (show (qs.map V.ref).length ≤ 20 by rw [List.length_map,w2];exact hlen) (by decide);obtain ⟨_,dxc,wlc,ndc,ec1,ec2,ec3⟩:=id C;walk_at "RD";refine ⟨⟨_,SqL.of w1⟩,?_⟩;refine Yc.list (xs:=qs.map V.ref) (fun i ys H'=>H'=H∧∃ as:List Addr,ys=as.map V.ref∧as.length=i∧∀ (j:Nat) (a:Addr) (q:WD × Int),as[j]? = some a→ws[j]? = some q→ie t H a q.1) hql ⟨rfl,[],rfl,rfl,fun j a q h=>by simp at h⟩ (fun i ys H' _ ⟨e,as,e1,e2,_⟩=>by subst e e1;exact ⟨SqL.of w1,by rw [List.length_map,e2];exact Nat.le_refl _⟩) ?_ ?_
 ·rintro i x ys H' hx ⟨rfl,as,rfl,e2,e3⟩ N hN;obtain ⟨qi,hqi,rfl⟩:=vh hx;have hi:i < ws.length:=by rw [← w2];exact (List.getElem?_eq_some_iff.mp hqi).1
  have hwi:ws[i]? = some ws[i]:=List.getElem?_eq_getElem hi;have hq:=al i qi _ hqi hwi;obtain ⟨k,hk⟩:=hds _ (List.mem_of_getElem? hwi);refine Qk (SqT.of hq) ?_;walk_at "RD";refine ⟨Sub.name2,_,_,ec1,OH _ _ _ (by decide +kernel),⟨c,n,ds,k,_,rfl,C,hk,fun a Wa=>?_⟩⟩;show N (as.map V.ref ++ [V.ref a]) H';rw [show as.map V.ref ++ [V.ref a]=(as ++ [a]).map V.ref by rw [List.map_append];rfl];refine hN _ _ ⟨rfl,as ++ [a],rfl,by rw [List.length_append,e2];rfl,fun j b q h1 h2=>?_⟩;rcases uA h1 with z | z
  ·exact e3 j b q z.2 h2
  ·obtain ⟨z1,rfl⟩:=z;rw [z1,e2,hwi] at h2;cases h2;exact Wa
 ·rintro ys H' ⟨rfl,as,rfl,e2,e3⟩ pw hpw;rw [List.length_map,w2] at e2;walk_at "RD";have s1:Mb H' (upd H' pw (.lst (as.map V.ref))):=fb hpw;have hpp:pw ≠ p:=fun z=>by subst z;rw [hp] at hpw;cases hpw
  refine ⟨_,.inl (SqL.of (s1 _ _ w1)),_,_,_,s1 _ _ hp,T.gh,T.ek,by decide,?_⟩;have sx2:Hd p H' (upd (upd H' pw (.lst (as.map V.ref))) p (.ins t.Gb dx [(Str.ofString "many",V.int (ws.length:Int))])):=fun b u hb e=>by rw [ub hb];exact s1 _ _ e
  have e2p:(upd (upd H' pw (.lst (as.map V.ref))) p (.ins t.Gb dx [(Str.ofString "many",V.int (ws.length:Int))])) p=some (.ins t.Gb dx [(Str.ofString "many",V.int (ws.length:Int))]):=db;have e2w:(upd (upd H' pw (.lst (as.map V.ref))) p (.ins t.Gb dx [(Str.ofString "many",V.int (ws.length:Int))])) pw=some (.lst (as.map V.ref)):=by rw [ub hpp];exact db
  have nt2:NoT (upd (upd H' pw (.lst (as.map V.ref))) p (.ins t.Gb dx [(Str.ofString "many",V.int (ws.length:Int))])):=(nt.upd).upd;rw [show Qh (Str.ofString "many") (V.int ((qs.map V.ref).length:Int)) ([]:List (Str × V))=[(Str.ofString "many",V.int (ws.length:Int))] by rw [List.length_map,w2];rfl];generalize upd (upd H' pw (.lst (as.map V.ref))) p (.ins t.Gb dx [(Str.ofString "many",V.int (ws.length:Int))])=H2 at sx2 e2p e2w nt2 ⊢;have wl2:H2 wl=some (.lst (qs.map V.ref)):=sx2 _ _ (ij w1 hp (by intro z;cases z)) w1;refine ⟨⟨_,SqL.of wl2⟩,⟨_,SqL.of e2w⟩,?_⟩;refine HE (xs:=qs.map V.ref) (ys:=as.map V.ref) (fun i zs H3=>Mb H2 H3∧NoT H3∧zs=(ws.take i).map fun p=>V.int (Kc p)) ws.length (by rw [List.length_map,List.length_map,w2,e2];simp) (Nat.le_trans hlen (by decide)) ⟨Mb.refl _,nt2,rfl⟩ (fun i zs H3 hi ⟨sm,_,e⟩=>⟨⟨(SqL.of wl2).same sm,(SqL.of e2w).same sm⟩,by rw [e,List.length_map,List.length_take];omega⟩) ?_ ?_
  ·rintro i x y zs H3 r hx hy ⟨sm,nt3,rfl⟩ hr3 N hN;obtain ⟨qi,hqi,rfl⟩:=vh hx;obtain ⟨ai,hai,rfl⟩:=vh hy;have hi:i < ws.length:=by rw [← w2];exact (List.getElem?_eq_some_iff.mp hqi).1
   have hwi:ws[i]? = some ws[i]:=List.getElem?_eq_getElem hi;have hq:H2 qi=some (.tup [.str ws[i].1.name,.int ws[i].2]):=sx2 _ _ (ij (al i qi _ hqi hwi) hp (by intro z;cases z)) (al i qi _ hqi hwi);have Wa:ie t H3 ai ws[i].1:=(SH hp sx2 (e3 i ai _ hai hwi)).same sm;have sm4:Mb H3 (upd H3 r (.tup [.ref qi,.ref ai])):=fb hr3;have Wb:=Wa.same sm4;refine yg ?_;walk_at "RD";obtain ⟨dk,dxw,hway⟩:=id Wb;refine ⟨Sub.name2,_,SqT.of (sm4 _ _ (sm _ _ hq)),_,Ub (j:=1) rfl,_,_,_,hway,⟨_,dk,rfl⟩,rF (by decide +kernel),_,_,rfl,Wb,rfl,_,rfl,_,rfl,_,_,_,hway,⟨_,dk,rfl⟩,rF (by decide +kernel),_,_,rfl,Wb,rfl,_,rfl,?_⟩;refine hN _ _ ⟨sm.trans sm4,nt3.upd,?_⟩;rw [List.take_add_one,hwi,List.map_append];rfl
  ·rintro zs H3 ⟨sm,nt3,rfl⟩ pa hpa;rw [List.take_length];walk_at "RD";have s4:Mb H3 (upd H3 pa (.lst (ws.map fun p=>V.int (Kc p)))):=fb hpa;have hpap:pa ≠ p:=fun z=>by subst z;rw [sm _ _ e2p] at hpa;cases hpa
   refine ⟨_,_,_,s4 _ _ (sm _ _ e2p),T.gh,T.gi,(show (1:Nat) < 1000 by decide),fun sd o hsd hD=>?_⟩;rw [show Qh (Str.ofString "alones") (V.ref pa) [(Str.ofString "many",V.int (ws.length:Int))]=[(Str.ofString "many",V.int (ws.length:Int)),(Str.ofString "alones",V.ref pa)] from Dd [Str.ofString "many"] rfl (by decide +kernel)] at hsd hD ⊢;have hsp:sd ≠ p:=fun z=>by subst z;rw [db] at hsd;cases hsd
   have hsn:H3 sd=none:=by
    rw [ub hsp] at hsd;by_cases z:sd=pa
    ·subst z;exact hpa
    ·rw [ub z] at hsd;exact hsd
   have hsa:sd ≠ pa:=fun z=>by subst z;rw [ub hsp,db] at hsd;cases hsd
   refine ⟨t.Gb,dx,[(Str.ofString "many",V.int (ws.length:Int)),(Str.ofString "alones",V.ref pa)],by rw [ub (Ne.symm hsp)];exact db,T.gh,T.jj,show (2:Nat) < 1000 by decide,?_⟩;rw [show Qh (Str.ofString "steps") (V.ref sd) [(Str.ofString "many",V.int (ws.length:Int)),(Str.ofString "alones",V.ref pa)]=zk ws.length pa sd from Dd [Str.ofString "many",Str.ofString "alones"] rfl (by decide +kernel)];have sx7:Hd p H' (upd (upd (upd (upd H3 pa (.lst (ws.map fun p=>V.int (Kc p)))) p (.ins t.Gb dx [(Str.ofString "many",V.int (ws.length:Int)),(Str.ofString "alones",V.ref pa)])) sd (.ext (AtO sd o))) p (.ins t.Gb dx (zk ws.length pa sd))):=fun b u hb e=>by
    have e4:=sm _ _ (sx2 _ _ hb e);rw [ub hb,ub (Db e4 hsn),ub hb];exact s4 _ _ e4
   have e7p:(upd (upd (upd (upd H3 pa (.lst (ws.map fun p=>V.int (Kc p)))) p (.ins t.Gb dx [(Str.ofString "many",V.int (ws.length:Int)),(Str.ofString "alones",V.ref pa)])) sd (.ext (AtO sd o))) p (.ins t.Gb dx (zk ws.length pa sd))) p=some (.ins t.Gb dx (zk ws.length pa sd)):=db;have e7a:(upd (upd (upd (upd H3 pa (.lst (ws.map fun p=>V.int (Kc p)))) p (.ins t.Gb dx [(Str.ofString "many",V.int (ws.length:Int)),(Str.ofString "alones",V.ref pa)])) sd (.ext (AtO sd o))) p (.ins t.Gb dx (zk ws.length pa sd))) pa=some (.lst (ws.map fun p=>V.int (Kc p))):=by
    rw [ub hpap,ub (Ne.symm hsa),ub hpap];exact db
   have nt7:NoT (upd (upd (upd (upd H3 pa (.lst (ws.map fun p=>V.int (Kc p)))) p (.ins t.Gb dx [(Str.ofString "many",V.int (ws.length:Int)),(Str.ofString "alones",V.ref pa)])) sd (.ext (AtO sd o))) p (.ins t.Gb dx (zk ws.length pa sd))):=(((nt3.upd).upd).upd).upd;have D7:=nE (u:=.ins t.Gb dx (zk ws.length pa sd)) hD (Ne.symm hsp) (fun xs z=>by rw [ub (Ne.symm hsp),db] at z;cases z);generalize upd (upd (upd (upd H3 pa (.lst (ws.map fun p=>V.int (Kc p)))) p (.ins t.Gb dx [(Str.ofString "many",V.int (ws.length:Int)),(Str.ofString "alones",V.ref pa)])) sd (.ext (AtO sd o))) p (.ins t.Gb dx (zk ws.length pa sd))=H7 at sx7 e7p e7a nt7 D7 ⊢;have hwp:wl ≠ p:=ij w1 hp (by intro z;cases z);have hpsn:H' sd=none:=by
    cases e:H' sd with
    | none=>rfl
    | some u=>
     have:=sm _ _ (sx2 _ _ hsp e);rw [hsn] at this;cases this
   refine ⟨⟨_,SqL.of (sx7 _ _ hwp w1)⟩,?_⟩;refine Vj.enum (xs:=qs.map V.ref) (fun i σ H8=>(∃ a b c' d,σ=[some (V.ref p),some (V.ref c),some (V.ref wl),some (V.ref pw),a,b,c',d])∧Hd p H' H8∧NoT H8∧H8 p=some (.ins t.Gb dx (zk ws.length pa sd))∧H8 pa=some (.lst (ws.map fun p=>V.int (Kc p)))∧vk P w H8 sd (cf n ws i)) ?_ ?_ ?_ ?_
   ·exact ⟨⟨_,_,_,_,rfl⟩,sx7,nt7,e7p,e7a,D7⟩
   ·rintro i σ H8 hi ⟨_,sx8,_⟩;exact SqL.of (sx8 _ _ hwp w1)
   ·rintro i v σ H8 r hv ⟨⟨a,b,c',d,rfl⟩,sx8,nt8,e8p,e8a,D8⟩ hr8;obtain ⟨qi,hqi,rfl⟩:=vh hv;have hi:i < ws.length:=by rw [← w2];exact (List.getElem?_eq_some_iff.mp hqi).1
    have hwi:ws[i]? = some ws[i]:=List.getElem?_eq_getElem hi;have eqi:∀ {H9:Hp},Hd p H' H9→H9 qi=some (.tup [.str ws[i].1.name,.int ws[i].2]):=fun sx=>sx _ _ (ij (al i qi _ hqi hwi) hp (by intro z;cases z)) (al i qi _ hqi hwi)
    obtain ⟨ki,hki⟩:=hds _ (List.mem_of_getElem? hwi);refine yg ?_;walk_at "RD";have s9:Mb H8 (upd H8 r (.tup [.int i,.ref qi])):=fb hr8;refine ⟨⟨_,SqL.of (s9 _ _ (sx8 _ _ hwp w1))⟩,?_⟩;refine Vj.enum (xs:=qs.map V.ref) (fun j σ H9=>(∃ c' d,σ=[some (V.ref p),some (V.ref c),some (V.ref wl),some (V.ref pw),some (V.int (i:Int)),some (V.ref qi),c',d])∧Hd p H' H9∧NoT H9∧H9 p=some (.ins t.Gb dx (zk ws.length pa sd))∧H9 pa=some (.lst (ws.map fun p=>V.int (Kc p)))∧vk P w H9 sd (cf n ws i ++ uh n ws i j)) ?_ ?_ ?_ ?_
    ·exact ⟨⟨_,_,rfl⟩,sx8.trans (Hd.of s9),nt8.upd,s9 _ _ e8p,s9 _ _ e8a,by rw [Dy,List.append_nil];exact Ib D8 s9⟩
    ·rintro j σ H9 hj ⟨_,sx9,_⟩;exact SqL.of (sx9 _ _ hwp w1)
    ·rintro j v σ H9 r2 hv ⟨⟨c2,d2,rfl⟩,sx9,nt9,e9p,e9a,D9⟩ hr9;obtain ⟨qj,hqj,rfl⟩:=vh hv;have hj:j < ws.length:=by rw [← w2];exact (List.getElem?_eq_some_iff.mp hqj).1
     have hwj:ws[j]? = some ws[j]:=List.getElem?_eq_getElem hj;obtain ⟨kj,hkj⟩:=hds _ (List.mem_of_getElem? hwj);have s10:Mb H9 (upd H9 r2 (.tup [.int j,.ref qj])):=fb hr9;have sx10:=sx9.trans (Hd.of (p:=p) s10);have eqj:∀ {H9:Hp},Hd p H' H9→H9 qj=some (.tup [.str ws[j].1.name,.int ws[j].2]):=fun sx=>sx _ _ (ij (al j qj _ hqj hwj) hp (by intro z;cases z)) (al j qj _ hqj hwj)
     have nt10:NoT (upd H9 r2 (.tup [.int j,.ref qj])):=nt9.upd;have e10p:=s10 _ _ e9p;have e10a:=s10 _ _ e9a;have D10:=Ib D9 s10;refine yg ?_;simp only [List.set_cons_succ,List.set_cons_zero];generalize upd H9 r2 (.tup [.int j,.ref qj])=H10 at sx10 nt10 e10p e10a D10 ⊢;by_cases hij:i=j
     ·refine Qb false (fun Q hQ=>?_) (fun z=>nomatch z) (fun _=>?_)
      ·walk_at "RD";rw [if_neg (by simp [hij])];exact hQ
      ·simp only [Jc];exact ⟨⟨_,_,rfl⟩,sx10,nt10,e10p,e10a,by rw [lr hwi hwj (fun z=>z.1 hij)];exact D10⟩
     refine Qb (mt n ws[i].1 ws[j].1) (fun Q hQ=>?_) (fun hm=>?_) (fun hm=>?_)
     ·walk_at "RD";rw [if_pos (by simp;omega)];exact ⟨_,SqT.of (eqi sx10),_,Ub (j:=0) rfl,_,SqT.of (eqj sx10),_,Ub (j:=0) rfl,c,n,ds,ki,kj,_,_,rfl,LA hp sx10 C,hn,hki,hkj,nt10,_,rfl,hQ⟩
     ·walk_at "RD";refine ⟨_,SqT.of (eqi sx10),_,Ub (j:=1) rfl,_,SqT.of (eqi sx10),_,Ub (j:=0) rfl,_,SqT.of (eqj sx10),_,Ub (j:=0) rfl,c,n,ds,ki,kj,_,_,rfl,LA hp sx10 C,hki,hkj,_,rfl,_,rfl,_,ce T e10p,by decide,fun tp htp=>⟨sd,rfl,_,Ib D10 (fb htp),Ce i j,(show upd H10 tp (.tup [V.int (i:Int),V.int (j:Int)]) tp=some (HO.tup [V.int (i:Int),V.int (j:Int)]) from db),?_,fun o hD2=>⟨⟨_,rfl⟩,?_,(nt10.upd).upd,?_,?_,?_⟩⟩⟩
      ·have a1:=eu n ws i;have a2:=Yr n ws i j;have a3:=Nat.mul_le_mul (show i ≤ 20 by omega) hlen;exact Nat.lt_of_le_of_lt (show (cf n ws i ++ uh n ws i j).length ≤ 420 by rw [List.length_append];omega) (by decide)
      ·intro b u hb e;have e1:=sx10 _ _ hb e;rw [ub (Db e hpsn),ub (Db e1 htp)];exact e1
      ·rw [ub (Ne.symm hsp),ub (Db e10p htp)];exact e10p
      ·rw [ub (Ne.symm hsa),ub (Db e10a htp)];exact e10a
      ·rw [← OD hwi hwj ⟨hij,hm⟩];exact hD2
     ·simp only [Jc];exact ⟨⟨_,_,rfl⟩,sx10,nt10,e10p,e10a,by rw [lr hwi hwj (fun z=>by rw [hm] at z;exact nomatch z.2)];exact D10⟩
    ·rintro σ H9 zzq;refine zP fun zM zzh=>?_
     obtain ⟨⟨c2,d2,rfl⟩,sx9,nt9,e9p,e9a,D9⟩:=zzq;subst zzh;rw [List.length_map,w2,← Kq] at D9;exact ⟨⟨_,_,_,_,rfl⟩,sx9,nt9,e9p,e9a,D9⟩
   ·rintro σ H8 zzq;refine zP fun zM zzh=>?_
    obtain ⟨⟨a,b,c',d,rfl⟩,sx8,nt8,e8p,e8a,D8⟩:=zzq;subst zzh;rw [List.length_map,w2] at D8;walk_at "RD";exact q _ sx8 nt8 ⟨dx,pa,sd,e8p,e8a,D8⟩
end
theorem xA {H H':Hp} {wl:Addr} {ws:List (WD × Int)} (h:nk H wl ws) (s:Mb H H'):nk H' wl ws:=by
 obtain ⟨qs,w1,w2,w3⟩:=h;exact ⟨qs,s _ _ w1,w2,fun i q p h1 h2=>s _ _ (w3 i q p h1 h2)⟩
theorem uE {n:Int} {ws:List (WD × Int)} {i j:Nat} {p q:WD × Int} (hi:ws[i]? = some p) (hj:ws[j]? = some q) (hij:i ≠ j) (hm:mt n p.1 q.1=true):(Ce i j,V.int (p.2 + tw p.1 q.1)) ∈ cf n ws ws.length:=by
 unfold cf;refine List.mem_flatMap.mpr ⟨i,List.mem_range.mpr (List.getElem?_eq_some_iff.mp hi).1,?_⟩;unfold uh;refine List.mem_filterMap.mpr ⟨j,List.mem_range.mpr (List.getElem?_eq_some_iff.mp hj).1,?_⟩;simp only [hi,hj,if_pos (And.intro hij hm)]
end My
namespace My
open PySem L2
section
open PySem.Spec PyProof.Rows
section
variable {prog:Program} {w:World} {A:Around} {R:Result→Shared→Prop} {I:Addr} {fp wr:List Addr} {n:Nat} {P:Nat→Value→Prop} {St:Nat→Heap→Prop}
theorem lz (W:Walks prog w A.in1 I fp wr n P St) (bt:Nat→Nat→Bool) (hcmp:CmpOf prog w A.in1 .Gt P bt) (S:Addr) (hSf:S ∉ fp) (dv:Value) (kn:Str) :
  ∀ (k j:Nat) (s:Shared) (acc:Array Value) (c:Nat),n - j=k→j ≤ n→St j s.heap→cI P bt j acc →
  s.heap.get? S=some { cls:=.type "list",dict:=none,data:=.seq acc c,slots:=#[] } →
  (∀ v h' tk,(n=0∧v=dv)∨(0 < n∧P (argBest bt (n - 1)) v)→(∀ b o,b ∉ wr→b ≠ S→s.heap.get? b=some o→h'.get? b=some o)→R (.ok (.ret v)) { s with heap:=h',toks:=tk }) →
  codeAny (model prog w) A (.builtin "max.loop" ⟨[.ref I,.none,.ref S],[(kn,dv)]⟩) R s:=by
 have hSw:S ∉ wr:=fun h=>hSf (W.sub _ h)
 have hname:(toString "max" ++ toString ".loop" : String) = "max.loop" := by decide
 intro k
 induction k with
 | zero=>
  intro j s acc c hk hj hst hB hS hR;have hin:j=n:=by omega
  refine codeAny_builtin PySem.F.entry_max_loop ?_;rw [Around.under_plainId PySem.F.plain_max_loop _];show wpAny _ A.in1 (seqItems? (.ref S) >>= _) _ _ s;refine wpAny_bind (wpAny_seqItems hS rfl ?_);show wpAny _ A.in1 (tryCatch (pyNext (.ref I)) _ >>= _) _ _ s;refine wpAny_bind (wpAny_tryCatch (W.done s _ _ (hin ▸ hst) fun h' tk hk'=>?_));have hS':=hk' S _ hSw hS;rcases hB with ⟨h0,rfl⟩ | ⟨vb,i,hi,rfl,hP⟩
  ·show wpAny _ A.in1 (rule _ >>= _) _ _ _;refine wpAny_bind (wpAny_rule (wpAny_pure ?_));exact hR dv h' tk (.inl ⟨by omega,rfl⟩) fun b o hbw hbS e=>hk' b o hbw e
  ·show wpAny _ A.in1 (updateSeq S (fun _=>#[]) >>= _) _ _ _;refine wpAny_bind ?_;refine wpAny_updateSeq hS' rfl (wpAny_bind (wpAny_letGo (wpAny_pure ?_)));refine hR vb _ tk (.inr ⟨by omega,by rw [show n - 1=i by omega];exact hP⟩) fun b o hbw hbS e=>(Heap.get?_update_other _ _ (Ne.symm hbS)).trans (hk' b o hbw e)
 | succ k ih=>
  intro j s acc c hk hj hst hB hS hR;have hlt:j < n:=by omega
  refine codeAny_builtin PySem.F.entry_max_loop ?_;rw [Around.under_plainId PySem.F.plain_max_loop _];show wpAny _ A.in1 (seqItems? (.ref S) >>= _) _ _ s;refine wpAny_bind (wpAny_seqItems hS rfl ?_);show wpAny _ A.in1 (tryCatch (pyNext (.ref I)) _ >>= _) _ _ s;refine wpAny_bind (wpAny_tryCatch (W.item j s _ _ hlt hst fun v h' tk hP hst' hk'=>?_));have hS':=hk' S _ hSw hS;have put:∀ h'':Heap,h''=h'.update S (Obj.mapSeq (fun _=>#[v,v]))→St (j + 1) h'':=fun h'' e=>by
   subst e;exact W.frame _ _ _ hst' fun b hbf o e=>(Heap.get?_update_other _ _ (fun h:S=b=>hSf (by rw [h];exact hbf))).trans e
  rcases hB with ⟨h0,rfl⟩ | ⟨vb,i,hi,rfl,hPb⟩
  ·show wpAny _ A.in1 (updateSeq S (fun _=>#[v,v]) >>= _) _ _ _;refine wpAny_bind ?_;refine wpAny_updateSeq hS' rfl ?_;rw [hname];refine wpAny_pure ⟨plainId_quiet PySem.F.plain_max_loop _,ih (j + 1) _ #[v,v] _ (by omega) hlt (put _ rfl) (.inr ⟨v,j,rfl,rfl,by subst h0;exact hP⟩) (Heap.get?_update_self _ hS' rfl) fun v' h'' tk'' hP' hk''=>?_⟩;exact hR v' h'' tk'' hP' fun b o hbw hbS e=>hk'' b o hbw hbS ((Heap.get?_update_other _ _ (Ne.symm hbS)).trans (hk' b o hbw e))
  ·subst hi;show wpAny _ A.in1 (tryCatch (holding [v,v] (richCompare .Gt v vb >>= _)) _ >>= _) _ _ _;refine wpAny_bind (wpAny_tryCatch (wpAny_holding (wpAny_bind (hcmp (i + 1) (argBest bt i) v vb _ _ _ hP hPb ?_))));refine wpAny_bind (wpAny_holding (wpAny_truthy_bool ?_));refine wpAny_bind (wpAny_letGo (wpAny_pure ?_));cases hb:bt (i + 1) (argBest bt i) with
   | true=>
    simp only [if_true];refine wpAny_bind ?_;refine wpAny_updateSeq hS' rfl (wpAny_bind (wpAny_letGo ?_));rw [hname];refine wpAny_pure ⟨plainId_quiet PySem.F.plain_max_loop _,ih (i + 1 + 1) _ #[v,v] _ (by omega) hlt (put _ rfl) (.inr ⟨v,i + 1,rfl,rfl,by simp only [argBest,hb,if_true];exact hP⟩) (Heap.get?_update_self _ hS' rfl) fun v' h'' tk'' hP' hk''=>?_⟩;exact hR v' h'' tk'' hP' fun b o hbw hbS e=>hk'' b o hbw hbS ((Heap.get?_update_other _ _ (Ne.symm hbS)).trans (hk' b o hbw e))
   | false=>
    simp only [Bool.false_eq_true,if_false];refine wpAny_bind (wpAny_letGo ?_);rw [hname];refine wpAny_pure ⟨plainId_quiet PySem.F.plain_max_loop _,ih (i + 1 + 1) _ #[vb,vb] c (by omega) hlt hst' (.inr ⟨vb,i + 1,rfl,rfl,by simp only [argBest,hb,Bool.false_eq_true,if_false];exact hPb⟩) hS' fun v' h'' tk'' hP' hk''=>?_⟩;exact hR v' h'' tk'' hP' fun b o hbw hbS e=>hk'' b o hbw hbS (hk' b o hbw e)
end
section
variable {prog:Program} {w:World} {A:Around} {E:Value→Shared→Prop} {s:Shared}
theorem yC (a d:Value):argsOk "max" ⟨[a],[(Str.ofString "default",d)]⟩:=by unfold argsOk;kernel_rfl
theorem Xz {l:Addr} {its:Array Value} {dv:Value} {Q:Value→Shared→Prop} (hh:A.handled=none) (hl:s.heap.IsList l its) (ks:List Int) (hk:its.size=ks.length) (hv:∀ (i:Nat) (v:Value),its[i]? = some v→∃ t,v=Value.int (ks.getD i 0) t)
  (hQ:∀ v h' tk,(ks=[]∧v=dv)∨(∃ m t,ks.max? = some m∧v=.int m t)→(∀ b o,s.heap.get? b=some o→h'.get? b=some o)→Q v { s with heap:=h',toks:=tk }) :
  wpAny (model prog w) A (call (.builtin "max") [.ref l] [(Str.ofString "default",dv)]) Q E s:=by
 have hname:(toString "max" ++ toString ".loop" : String) = "max.loop" := by decide
 have hlt:l < s.heap.objs.size:=by obtain ⟨_,e,_⟩:=hl;exact Heap.lt_size e
 refine wpAny_call (codeAny_call_builtin PySem.F.plain_max PySem.F.entry_max ?_);simp only [checkBuiltinCall,PySem.F.kind_max];have key:wpAny (model prog w) A.in1 (Builtin.«max» ⟨[.ref l],[(Str.ofString "default",dv)]⟩) (fun fin s'=>match fin with
   | .done f=>(match (Except.ok f:Result) with | .ok (.ret v)=>Q v s' | .ok _=>False | .error e=>E e s')
   | .again c'=>c'.quiet=true∧codeAny (model prog w) A c' (fun r s'=>match r with | .ok (.ret v)=>Q v s' | .ok _=>False | .error e=>E e s') s') E s:=by
  show wpAny _ A.in1 (Builtin.Builtins.bindParams "max" ["key","default"] 0 ⟨[],[(Str.ofString "default",dv)]⟩ >>= _) _ _ s;refine wpAny_bind (wpAny_of_eq (show Builtin.Builtins.bindParams "max" ["key","default"] 0 ⟨[],[(Str.ofString "default",dv)]⟩=pure [none,some dv] from rfl) ?_);refine wpAny_bind (wpAny_pure ?_);refine wpAny_bind (wpAny_pyIter_list hl ?_);refine wpAny_bind (wpAny_newObj_type ?_);rw [hname];have W:=Walks.list (prog:=prog) (w:=w) (A:=A.in1) hh s.heap.objs.size l (Nat.ne_of_lt hlt) its;have hz1:(s.heap.push { cls:=.type "list_iterator",data:=.fields #[.ref l,.int 0 0] }).objs.size=s.heap.objs.size + 1:=Heap.size_push ..;refine wpAny_pure ⟨plainId_quiet PySem.F.plain_max_loop _,lz W _ (CmpOf.ints_gt (fun i=>ks.getD i 0) fun i v h=>hv i v h) _ ?_ dv _ its.size 0 _ #[] _ rfl (Nat.zero_le _) ?_ (.inl ⟨rfl,rfl⟩) (Heap.get?_push_size _ rfl) fun v h' tk hP hk'=>?_⟩
  ·show (s.heap.push _).objs.size ∉ _;rw [hz1];simp only [List.mem_cons,List.not_mem_nil,or_false,not_or];exact ⟨Nat.succ_ne_self _,Ne.symm (Nat.ne_of_lt (Nat.lt_succ_of_lt hlt))⟩
  ·exact W.frame 0 (s.heap.push { cls:=.type "list_iterator",data:=.fields #[.ref l,.int 0 0] }) _ ⟨⟨_,Heap.get?_push_size _ rfl,rfl,rfl⟩,hl.push _⟩ fun b _ o e=>Heap.get?_push_of_some _ e
  ·refine hQ v h' tk ?_ fun b o e=>hk' b o (fun hm=>?_) ?_ (Heap.get?_push_of_some _ (Heap.get?_push_of_some _ e))
   ·rcases hP with ⟨h0,h1⟩ | ⟨h0,h1⟩
    ·exact .inl ⟨List.length_eq_zero_iff.mp (by omega),h1⟩
    ·obtain ⟨t,e⟩:=hv _ v h1;have hb:=argBest_gt (fun i=>ks.getD i 0) (its.size - 1);refine .inr ⟨_,t,?_,e⟩;rw [List.max?_eq_some_iff];have hi:argBest (fun i j=>decide (ks.getD i 0 > ks.getD j 0)) (its.size - 1) < ks.length:=by omega
     refine ⟨?_,fun b hb'=>?_⟩
     ·rw [List.getD_eq_getElem?_getD,List.getElem?_eq_getElem hi];exact List.getElem_mem hi
     ·obtain ⟨j,hj,rfl⟩:=List.getElem_of_mem hb';have:=hb.2 j (by omega);rw [List.getD_eq_getElem?_getD (i:=j),List.getElem?_eq_getElem hj] at this;exact this
   ·rw [List.mem_singleton.mp hm] at e;exact absurd (Heap.lt_size e) (Nat.lt_irrefl _)
   ·rw [hz1];exact Nat.ne_of_lt (Nat.lt_succ_of_lt (Heap.lt_size e))
 cases hsig:Manifest.signature? "max" with
 | none=>exact wpAny_pure key
 | some sig=>
  have ha:=yC (.ref l) dv;have ha':Bind.checkArgs "max" sig ⟨[.ref l],[(Str.ofString "default",dv)]⟩=pure ():=by simpa only [argsOk,hsig] using ha
  simp only [ha'];exact wpAny_pure key
end
section
variable {X:Cx}
noncomputable def oI (K:PySem.W.Frag) (ta:TA) (td:TE):TE:=fun σ H Q=>ta σ H fun vs H1=>td σ H1 fun y H2=>∃ l ks,vs=[.ref l]∧SqL K H2 l (List.map V.int ks)∧Q (match ks.max? with | some m=>.int m | none=>y) H2
theorem vH {a d:Expr} {ta:TA} {td:TE} {p kp pos:Pos} (hc:X.calm=true) (hg:Gl X "max") (hm:X.mg "max"=none) (ha:PA X [a] ta) (hd:PE X d td)
  (he:∀ pos,backTo pos (starEach [a] X.env)=(false,eval a X.env) :: backTo pos (starEach [] X.env):=by intro _;rfl) (hpl:∀ pos,(backTo pos (starEach [a] X.env)).any (·.1)=false:=by intro _;rfl) :
  PE X (.Call (.Name "max" p) [a] [⟨some "default",d,kp⟩] pos) (oI X.K ta td):=by
 intro pins s σ H Q I h;refine wpAny_Call_Name_kw (Am I hg hm (show bootBuiltins "max"=some (.builtin "max") by decide +kernel) ?_);refine callWith_kw (id := "max") (thn (ha pos pins s σ H _ I h) fun us s1 ⟨vs,H1,I1,r1,q1⟩=>?_) (he:=he pos) (hplain:=hpl pos);refine kws_cons (thn (hd pins s1 σ H1 _ I1 q1) fun v s2 ⟨y,H2,I2,r2,q2⟩=>kws_nil ?_);obtain ⟨l,ks,rfl,hq,q⟩:=q2;cases r1 with
 | cons r rr=>
  cases rr;cases r;obtain ⟨its,rv,pl,hz⟩:=I2.list hq;have hl:=rv.length;rw [List.length_map] at hl;refine Xz (I2.ok.hd hc) pl.isList ks (by rw [List.size_toArray];omega) (fun i v hv=>?_) fun v' h' tk hv' hk=>⟨_,H2,I2.kept hk,?_,q⟩
  ·rw [List.getElem?_toArray] at hv;have hi:i < ks.length:=by have:=(List.getElem?_eq_some_iff.mp hv).1;omega
   obtain ⟨w,hw,rw'⟩:=rv.get (show (ks.map V.int)[i]? = some (.int ks[i]) by rw [List.getElem?_map,List.getElem?_eq_getElem hi];rfl);rw [hv] at hw;cases hw;rw [List.getD_eq_getElem?_getD,List.getElem?_eq_getElem hi];exact rw'
  ·rcases hv' with ⟨rfl,rfl⟩ | ⟨m,t,hm,rfl⟩
   ·exact r2
   ·rw [hm];exact ⟨t,rfl⟩
end
end
section
open PySem.Spec PyProof.Rows
variable {prog:Program} {w:World} {A:Around} {E:Value→Shared→Prop} {s:Shared}
theorem QA {it t:Addr} {i:Nat} {its:Array Value} {Q:Value→Shared→Prop} (hh:A.handled=none) (hi:s.heap.IsTupleIter it t i) (ht:s.heap.IsTuple t its)
  (h1:∀ x h',its[i]? = some x→h'.IsTupleIter it t (i + 1)→Heap.SameBut it s.heap h'→Q x { s with heap:=h' })
  (h2:∀ h' e,its[i]? = none→Heap.ExtBut it s.heap h'→(∃ o,h'.get? e=some o∧o.cls=.type "StopIteration")→E (.ref e) { s with heap:=h' }) :
  wpAny (model prog w) A (Builtin.SmallTypes.nextOf (.ref it)) Q E s:=by
 have ty:=hi.typeIs;obtain ⟨⟨c1,d1,dt1,sl1⟩,e1,c1',f1⟩:=id hi;obtain ⟨⟨c2,d2,dt2,sl2⟩,e2,c2',n2,f2⟩:=id ht;simp only at c1' f1 c2' f2;subst c1' f1 c2' f2;obtain ⟨hp,g,d,tk,os⟩:=s;refine wpAny_bind (wpAny_callSpecial?_slot (name:=Str.ofString "__next__") ty PySem.F.slot_tuple_iterator_next (wpAny_call_entry PySem.F.slot_tuple_iterator_next ty PySem.F.entry_tuple_iterator_next ?_ (PySem.F.args_tuple_iterator_next_1 _)));unfold Builtin.«tuple_iterator.__next__»;have key:∀ y,its[i]? = y→its[(i:Int).toNat]? = y:=fun y z=>z
 cases hx:its[i]? with
 | some x=>
  wp_walk
  rw [key _ hx]
  wp_walk
  refine ⟨x,rfl,wpAny_pure (h1 x _ hx ⟨_,Heap.get?_update_self _ e1 rfl,rfl,rfl⟩ (Heap.SameBut.update ..))⟩
 | none=>
  wp_walk
  rw [key _ hx];have hh1:A.in1.handled=none:=hh;unfold Builtin.SmallTypes.stopIteration
  wp_walk
  exact wpAny_raiseNew_none hh1 (h2 _ _ hx (((Heap.SameBut.update ..).extBut.push _).push _) ⟨_,Heap.get?_push_size _ rfl,rfl⟩)
theorem yF (hh:A.handled=none) {it l:Addr} (ne:l ≠ it) (its:Array Value):Draws prog w A it [it,l] its.size (fun i v=>its[i]? = some v) (fun i h=>h.IsTuple l its∧h.IsTupleIter it l i):=by
 refine { live:=?_,frame:=?_,item:=?_,done:=?_ }
 ·rintro i h zzq;refine zP fun zM zzh=>?_
  obtain ⟨_,o,ho,_⟩:=zzq;subst zzh;exact ⟨o,ho⟩
 ·rintro i h h' ⟨a,b⟩ k;refine ⟨a.at ?_,b.at ?_⟩
  ·exact k l (by simp)
  ·exact k it (by simp)
 ·rintro i s Q E lt ⟨a,b⟩ q;refine QA hh b a (fun x h' ex b' sb=>q x h' s.toks ex ⟨a.extBut sb.extBut ne,b'⟩ sb) fun h' e en=>?_
  rw [Array.getElem?_eq_getElem lt] at en;cases en
 ·rintro s Q E ⟨a,b⟩ q;refine QA hh b a (fun x h' ex=>?_) fun h' e _=>q h' e
  rw [Array.getElem?_eq_none (Nat.le_refl _)] at ex;cases ex
theorem uD (l:Addr) (o:Obj) (its:Array Value) (n:Nat) (hc:o.cls=.type "tuple") (hd:o.data=.seq its n) :
  Meets (Builtin.«enumerate.__new__» ⟨[.type "enumerate",.ref l],[]⟩) (fun _ R s=>s.heap.get? l=some o∧∀ hq,hq=(s.heap.push { cls:=.type "tuple_iterator",data:=.fields #[.ref l,.int 0 0] }) →
   R (.ok (.ret (.ref hq.objs.size))) { s with heap:=hq.push { cls:=.type "enumerate",data:=.fields #[.none,.bool false,.ref s.heap.objs.size,rawInt 0,.none,.none] } }):=by
 refine .of_wp fun prog w A R s ⟨e,q⟩=>?_
 have T:s.heap.IsTuple l its:=⟨o,e,hc,n,hd⟩;replace q:=q _ rfl;obtain ⟨c,dc,dt,sl⟩:=o;simp only at hc hd;subst hc hd;obtain ⟨hp,g,d,tk,os⟩:=s;have sb:=sub_enumerate;have go:∀ {A:Around} {E:Value→Shared→Prop} {Q:Value→Shared→Prop},Q (.ref hp.objs.size) ⟨hp.push { cls:=.type "tuple_iterator",data:=.fields #[.ref l,.int 0 0] },g,d,tk,os⟩→wpAny (model prog w) A (pyIter (.ref l)) Q E ⟨hp,g,d,tk,os⟩:=fun h=>wpAny_pyIter_tuple T h
 wp_walk using AutoSeq1.wpAny_loadPart' e
 refine wpAny_stack_any fun st=>wpAny_pure ?_
 generalize hb:List.drop 1 st=b;dsimp only;split
 ·split
  all_goals wp_walk using AutoSeq1.wpAny_loadPart' e,go
  all_goals exact ⟨_,rfl,q⟩
 ·wp_walk using AutoSeq1.wpAny_loadPart' e,go
  exact ⟨_,rfl,q⟩
theorem Zy {l:Addr} {its:Array Value} {Q:Value→Shared→Prop} (T:s.heap.IsTuple l its)
  (h:∀ h',IsEnum h' (s.heap.objs.size + 1) s.heap.objs.size 0 .none→h'.IsTupleIter s.heap.objs.size l 0→(∀ b o,s.heap.get? b=some o→h'.get? b=some o)→Q (.ref (s.heap.objs.size + 1)) { s with heap:=h' }) :
  wpAny (model prog w) A (call (.type "enumerate") [.ref l]) Q E s:=by
 obtain ⟨o,e,c,n,d⟩:=T;refine callType_new PySem.F.called_enumerate (by decide) (PySem.F.typeCall_enumerate_1 _) (PySem.F.newCall_enumerate_1 _) (fun obj=>PySem.F.args_object_init_2 obj _) PySem.F.entry_enumerate_new (uD l o its n c d) ⟨e,fun hq eq=>?_⟩;have sz:hq.objs.size=s.heap.objs.size + 1:=by rw [eq];exact Heap.size_push ..
 have at1:hq.get? s.heap.objs.size=some { cls:=.type "tuple_iterator",data:=.fields #[.ref l,.int 0 0] }:=by rw [eq];exact Heap.get?_push_size _ rfl
 have up:∀ b o,s.heap.get? b=some o→hq.get? b=some o:=fun b o z=>by rw [eq];exact Heap.get?_push_of_some _ z
 have at2:=Heap.get?_push_size hq (o:={ cls:=.type "enumerate",data:=.fields #[.none,.bool false,.ref s.heap.objs.size,rawInt 0,.none,.none] }) rfl;show _∧_;rw [sz] at at2 ⊢;exact ⟨⟨_,at2,rfl⟩,h _ at2 ⟨_,Heap.get?_push_of_some _ at1,rfl,rfl⟩ fun b o z=>Heap.get?_push_of_some _ (up b o z)⟩
theorem aD {l a:Addr} {its:Array Value} {ns:List Int} {led:Bool} {Q:Value→Shared→Prop} (hh:A.handled=none) (T:s.heap.IsTuple l its) (hi:IntsAre its.toList ns) (hb:its.size + 1 < scanBound) (la:l ≠ a)
  (ha:s.heap.get? a=some { cls:=.type "set",dict:=none,data:=.set #[] 0 (.fresh 0 0 led) })
  (h:∀ (h':Heap) (tk:Nat),h'.SetOf (intKind prog w) a (fun k=>(firstMet (fun i=>ns.getD i 0) its.size).any (· == k)) (firstMet (fun i=>ns.getD i 0) its.size).length→(∀ b o,b ≠ a→s.heap.get? b=some o→h'.get? b=some o)→Q .none { s with heap:=h',toks:=tk }) :
  codeAny (model prog w) A (.call (.builtin "set.__init__") ⟨[.ref a,.ref l],[]⟩) (wants Q E) s:=by
 refine codeAny_call_builtin PySem.F.called_set.init.plain PySem.F.entry_set_init (check_set_init_1 ⟨_,ha,rfl⟩ ?_);have lt:l < s.heap.objs.size:=by obtain ⟨o,e,_⟩:=T;exact Heap.lt_size e
 have lt2:=Heap.lt_size ha;obtain ⟨⟨c,dc,dt,sl⟩,e,hc,n,hd⟩:=id T;simp only at hc hd;subst hc hd;obtain ⟨hp,g,d,tk,os⟩:=s;have s0:(Value.type "tuple" == Value.type "dict")=false:=by decide
 have s1:isSubtype (.type "tuple") (.type "set")=pure false:=by rw [isSubtype_type];kernel_rfl
 have s2:isSubtype (.type "tuple") (.type "frozenset")=pure false:=by rw [isSubtype_type];kernel_rfl
 have go:∀ {A:Around} {E:Value→Shared→Prop} {Q:Value→Shared→Prop},Q (.ref hp.objs.size) ⟨hp.push { cls:=.type "tuple_iterator",data:=.fields #[.ref l,.int 0 0] },g,d,tk,os⟩→wpAny (model prog w) A (pyIter (.ref l)) Q E ⟨hp,g,d,tk,os⟩:=fun h=>wpAny_pyIter_tuple T h
 have k2:A.in1.in1.handled=none:=by simp [hh]
 have nl:l ≠ hp.objs.size:=Nat.ne_of_lt lt;have nS:a ∉ [hp.objs.size,l]:=by
  simp only [List.mem_cons,List.not_mem_nil,or_false,not_or];exact ⟨Nat.ne_of_lt lt2,Ne.symm la⟩
 unfold Builtin.«set.__init__» noKeywords Builtin.Frozenset.updateFrom
 wp_walk using go
 refine codeAny_set_update_loopS ((Walks.tuple k2 _ l nl its).toS) _ nS (fun i=>ns.getD i 0) (fun i v z=>hi.int_at i v (by rw [Array.getElem?_toList];exact z)) hb _ 0 _ rfl (Nat.zero_le _) ⟨⟨_,Heap.get?_push_size _ rfl,rfl,rfl⟩,T.push _⟩ ?_ fun s' m S'=>?_
 ·refine SetOf_congr ((setObjOf_fresh (knd:=intKind prog w) led).setOf (Heap.get?_push_of_some _ ha) (by unfold scanBound;omega)) (fun _=>rfl) rfl
 ·obtain ⟨h',g',d',tk',os'⟩:=s';obtain rfl:g'=g:=m.gens;obtain rfl:d'=d:=m.drawn;obtain rfl:os'=os:=m.os;refine wpAny_pure (wpAny_pure (h h' tk' S' fun b o nb z=>m.heap b o ?_ (Heap.get?_push_of_some _ z)));simp only [List.mem_cons,List.not_mem_nil,or_false,not_or];exact ⟨nb,Nat.ne_of_lt (Heap.lt_size z)⟩
theorem VC {l:Addr} {its:Array Value} {ns:List Int} {Q:Value→Shared→Prop} (hh:A.handled=none) (T:s.heap.IsTuple l its) (hi:IntsAre its.toList ns) (hb:its.size + 1 < scanBound)
  (h:∀ (h':Heap) (tk:Nat),h'.SetOf (intKind prog w) s.heap.objs.size (fun k=>(firstMet (fun i=>ns.getD i 0) its.size).any (· == k)) (firstMet (fun i=>ns.getD i 0) its.size).length→(∀ b o,s.heap.get? b=some o→h'.get? b=some o)→Q (.ref s.heap.objs.size) { s with heap:=h',toks:=tk }) :
  wpAny (model prog w) A (call (.type "set") [.ref l]) Q E s:=by
 have lt:l < s.heap.objs.size:=by obtain ⟨o,e,_⟩:=T;exact Heap.lt_size e
 have ft:=PySem.F.called_set;have f0:=PySem.F.typeCall_set_1 (.ref l);have f1:=ft.made;have f2:=ft.sub;have f3:=ft.notType;have f4:=ft.canCreate;have f5:=ft.init.lookup;obtain ⟨mc,mt,f6⟩:=ft.mro;refine wpAny_call (codeAny_of_tree (wpAny_pure ⟨Code.quiet_builtin _ (by decide +kernel),codeAny_builtin PySem.F.entry_type_call ?_⟩));rw [Around.under_plain (weight_type_call_type _ _ _) rfl]
 wp_walk
 refine codeAny_mono (code_set_new_1 (.ref l) (E:=E) (Q₁:=fun o s1=>∃ led:Bool,o=.ref s.heap.objs.size∧s1 = { s with heap:=s.heap.push { cls:=.type "set",dict:=none,data:=.set #[] 0 (.fresh 0 0 led) } }) fun led=>⟨led,rfl,rfl⟩) ?_;rintro (er | (_ | _ | _ | v)) s1 z
 ·exact z
 ·exact z.elim
 ·exact z.elim
 ·exact z.elim
 obtain ⟨led,rfl,rfl⟩:=z;have at0:(s.heap.push { cls:=.type "set",dict:=none,data:=.set #[] 0 (.fresh 0 0 led) }).get? s.heap.objs.size=some { cls:=.type "set",dict:=none,data:=.set #[] 0 (.fresh 0 0 led) }:=Heap.get?_push_size _ rfl;have f7:=ft.init.bind (.ref s.heap.objs.size);have ty:Shared.TypeIs { s with heap:=s.heap.push { cls:=.type "set",dict:=none,data:=.set #[] 0 (.fresh 0 0 led) } } (.ref s.heap.objs.size) "set" := ⟨_,at0,rfl⟩
 wp_walk
 refine codeAny_mono (aD (E:=E) (Q:=fun v s2=>v=.none∧Q (.ref s.heap.objs.size) s2) (show A.in1.handled=none by simp [hh]) (T.push _) hi hb (Nat.ne_of_lt lt) at0 fun h' tk S' k=>⟨rfl,h h' tk S' fun b o z=>k b o (Nat.ne_of_lt (Heap.lt_size z)) (Heap.get?_push_of_some _ z)⟩) ?_;rintro (er | (_ | _ | _ | v)) s2 z
 ·exact z
 ·exact z.elim
 ·exact z.elim
 ·exact z.elim
 obtain ⟨rfl,z⟩:=z;exact wpAny_pure (wpAny_pure z)
end
section
open PySem.Spec PyProof.Rows
noncomputable def Iet (K:PySem.W.Frag) (a:Addr):It:=
 ⟨fun i H=>∃ xs x,SqT K H a xs∧xs[i]? = some x,fun i H v H'=>∃ p y,H p=none∧v=.ref p∧(∀ xs,SqT K H a xs→xs[i]? = some y)∧H'=upd H p (.tup [.int i,y]),fun i H=>∃ xs,SqT K H a xs∧xs.length=i⟩
theorem Px {P:Program} {w:World} {K:PySem.W.Frag} {es:List Expr} {k} {pos:Pos} (a e it:Addr) (hne:e ≠ it) (hea:e ≠ a) (hai:a ≠ it) :
  EE P w K (.Tuple es k pos) (Iet K a) [e,it] e (fun i h=>∃ old,IsEnum h e it ((i:Nat):Int) old∧h.IsTupleIter it a i) where
 mem:=by simp
 obj:=fun i h ⟨old,he,hi⟩ b hb=>by
  simp only [List.mem_cons,List.not_mem_nil,or_false] at hb;rcases hb with rfl | rfl
  ·exact ⟨_,he,fun v z=>by
    have z':Data.fields _=Data.cell v:=z;cases z'⟩
  ·obtain ⟨o,q,c,d⟩:=hi;exact ⟨o,q,fun v z=>by rw [d] at z;cases z⟩
 keep:=fun i h h' ⟨old,he,hi⟩ k=>⟨old,k e (by simp) _ he,hi.at fun o q=>k it (by simp) o q⟩
 item:=by
  intro X hP hw hK hc i pins s σ H E I hf ⟨old,he,hi⟩ hg;subst hP hw hK;obtain ⟨xs,x,hq,hx⟩:=hg;obtain ⟨its,rv,p,hz⟩:=I.tuple hq;obtain ⟨u,hu,ru⟩:=rv.get hx;have hlt:i < its.toArray.size:=by
   rw [List.size_toArray];exact (List.getElem?_eq_some_iff.mp hu).1
  refine wpAny_pyNext_enum_itemD (yF (A:=X.A.in1) (it:=it) (I.ok.hd hc) hai its.toArray) he ⟨p,hi⟩ hlt hne (by simp [hne,hea]) fun y h1 tk hy he1 hi1 ht1 hz1 hk1=>⟨_,rfl,?_⟩
  obtain rfl:y=u:=by
   rw [List.getElem?_toArray,hu] at hy;exact (Option.some.inj hy).symm
  refine wpAny_letOwnedTupleGo_enum he1 fun h2 he2 hs2=>?_
  replace hs2:Heap.SameBut e h1 h2:=hs2;have hel:e < s.heap.objs.size:=Heap.lt_size he;have hk:∀ b o,b ∉ [e,it]→s.heap.get? b=some o→h2.get? b=some o:=fun b o hb q=>by
   simp only [List.mem_cons,List.not_mem_nil,or_false,not_or] at hb;exact hs2.extBut _ _ hb.1 (hk1 b o hb.1 hb.2 q)
  have I1:Inv X pins σ H { s with heap:=h2,toks:=tk + 1 }:=I.turnedL hk hf;have fo:Xq X pins H s.heap.objs.size:=I.fpOk (Nat.le_refl _) (I.hok.fresh (Nat.le_refl _));have ht2:h2.get? s.heap.objs.size=some { cls:=.type "tuple",data:=.seq #[.int i tk,y] }:=(hs2.2 _ (Nat.ne_of_gt hel)).trans ht1;have I2:=I1.adopt (o:=.tup [.int i,x]) fo ⟨by show 2 ≤ sizeLine;decide,[.int i tk,y],.cons ⟨_,rfl⟩ (.cons ru .nil),⟨_,ht2,rfl,_,rfl⟩⟩;refine ⟨.ref s.heap.objs.size,_,I2,rfl,⟨_,x,fo.1,rfl,fun ys hy=>by rw [I.tuple_inj hy hq];exact hx,rfl⟩,⟨y,?_,?_⟩,fun b hb=>?_⟩
  ·have e1:((i + 1:Nat):Int)=(i:Int) + 1:=by omega
   rw [e1];exact he2
  ·exact hi1.2.extBut hs2.extBut (Ne.symm hne)
  ·have hlt:b < s.heap.objs.size:=by
    simp only [List.mem_cons,List.not_mem_nil,or_false] at hb;rcases hb with rfl | rfl
    ·exact hel
    ·obtain ⟨o,q,_⟩:=hi;exact Heap.lt_size q
   rw [ub (Nat.ne_of_lt hlt)];exact (hf b hb).1
 done:=by
  intro X hP hw hK hc i pins s σ H E I hf ⟨old,he,hi⟩ hg;subst hP hw hK;obtain ⟨xs,hq,hx⟩:=hg;obtain ⟨its,rv,p,hz⟩:=I.tuple hq;have hl:=rv.length;obtain rfl:i=its.toArray.size:=by rw [List.size_toArray];omega
  exact wpAny_pyNext_enum_endD (yF (A:=X.A.in1) (it:=it) (I.ok.hd hc) hai its.toArray) he ⟨p,hi⟩ fun h' eb=>⟨rfl,I.turnedL (t':=s.toks) (fun b o hb q=>eb b o (fun z=>hb (by simp [z])) q) hf⟩
 self:=fun _ _ _ _ _ ⟨_,he,_⟩ h=>wpAny_pyIter_enum he h
variable {X:Cx}
noncomputable def pF (K:PySem.W.Frag) (ta:TA):TI:=fun σ H R=>ta σ H fun vs H1=>∃ a,vs=[.ref a]∧(∃ xs,SqT K H1 a xs)∧R (Iet K a) H1
theorem bE {es:List Expr} {k} {tpos:Pos} {a:Expr} {ta:TA} {p pos:Pos} (hg:Gl X "enumerate") (hm:X.mg "enumerate"=none) (ha:PA X [a] ta) (hs:starEach [a] X.env=[(false,eval a X.env)]:=by rfl) :
  PI X (.Tuple es k tpos) (.Call (.Name "enumerate" p) [a] [] pos) (pF X.K ta):=by
 intro pins s σ H R I h;refine Call_ (Am I hg hm L2.Zj (PyProof.Rows.callWith_type1 (thn (ha pos pins s σ H _ I h) fun us s1 ⟨vs,H1,I1,r1,q1⟩=>?_) hs rfl));obtain ⟨a,e,⟨xs,hq⟩,q⟩:=q1;subst e;cases r1 with
 | cons r rr=>
  cases rr;cases r;obtain ⟨its,rv,pl,hz⟩:=I1.tuple hq;have hal:a < s1.heap.objs.size:=by obtain ⟨_,e,_⟩:=pl;exact Heap.lt_size e
  refine Zy pl fun h' hE hI hk=>wpAny_pyIter_enum hE ?_
  refine ⟨s1.heap.objs.size + 1,[s1.heap.objs.size + 1,s1.heap.objs.size],_,_,H1,rfl,I1.kept (t':=s1.toks) hk,Px a _ _ (Nat.succ_ne_self _) (Nat.ne_of_gt (Nat.lt_succ_of_lt hal)) (Nat.ne_of_lt hal),⟨_,hE,hI⟩,fun b hb=>?_,q⟩;have hb':s1.heap.objs.size ≤ b:=by
   simp only [List.mem_cons,List.not_mem_nil,or_false] at hb;rcases hb with rfl | rfl
   ·exact Nat.le_succ _
   ·exact Nat.le_refl _
  exact I1.fpOk hb' (I1.hok.fresh hb')
end
section
open PySem.Spec PyProof.Rows
theorem Nz {ns:List Int}:∀ {σ:List Int},(ns.foldl step_dedup σ).length=σ.length + ns.length↔ns.Nodup∧∀ x ∈ ns,x ∉ σ:=by
 induction ns with
 | nil=>intro σ;simp
 | cons x ns ih=>
  intro σ;rw [List.foldl_cons,show step_dedup σ x=if σ.any (· == x) then σ else σ ++ [x] from rfl];by_cases hx:x ∈ σ
  ·rw [if_pos (by simpa using hx)];have:=foldl_step_dedup_length_le σ ns;constructor
   ·intro h;rw [List.length_cons] at h;omega
   ·intro h;exact absurd hx (h.2 x (List.mem_cons_self ..))
  ·rw [if_neg (by simpa using hx)];have e:=@ih (σ ++ [x]);rw [List.length_append,List.length_singleton] at e;rw [List.length_cons,show σ.length + (ns.length + 1)=σ.length + 1 + ns.length by omega,List.nodup_cons];refine e.trans ⟨fun h=>⟨⟨fun hm=>h.2 x hm (by simp),h.1⟩,fun y hy=>?_⟩,fun h=>⟨h.1.2,fun y hy hm=>?_⟩⟩
   ·rcases List.mem_cons.mp hy with rfl | hy
    ·exact hx
    ·exact fun z=>h.2 y hy (by simp [z])
   ·rcases List.mem_append.mp hm with z | z
    ·exact h.2 y (List.mem_cons_of_mem _ hy) z
    ·rw [List.mem_singleton.mp z] at hy;exact h.1.1 hy
theorem Uu (ns:List Int):(firstMet (fun i=>ns.getD i 0) ns.length).length < ns.length↔¬ ns.Nodup:=by
 have e:firstMet (fun i=>ns.getD i 0) ns.length=ns.foldl step_dedup []:=by
  unfold firstMet;congr 1;refine List.ext_getElem? fun i=>?_
  rw [List.getElem?_map];by_cases hi:i < ns.length
  ·rw [List.getElem?_range hi];show some (ns.getD i 0)=_;rw [List.getD_eq_getElem?_getD,List.getElem?_eq_getElem hi];rfl
  ·rw [List.getElem?_eq_none (by simpa using hi),List.getElem?_eq_none (by omega)];rfl
 have h1:=@Nz ns [];have h2:=foldl_step_dedup_length_le [] ns;rw [e];simp only [List.length_nil,Nat.zero_add,List.not_mem_nil,not_false_eq_true,implies_true,and_true] at h1 h2;rw [← h1];omega
variable {prog:Program} {w:World} {A:Around} {E:Value→Shared→Prop} {s:Shared}
theorem Py {α:Type} {f:α→Int} {c:Int} {l:List α} (h:(l.map f).Nodup):(l.filter fun x=>f x == c).length ≤ 1:=by
 induction l with
 | nil=>simp
 | cons x l ih=>
  rw [List.map_cons,List.nodup_cons] at h;rw [List.filter_cons];split
  ·rename_i hx;have hx':f x=c:=by simpa using hx
   rw [List.filter_eq_nil_iff.mpr (fun y hy z=>h.1 (by rw [hx',← (show f y=c by simpa using z)];exact List.mem_map_of_mem hy))];exact Nat.le_refl _
  ·exact ih h.2
theorem pE {a:Addr} {o:Obj} {es:Array DictEntry} {ep:Nat} {Q:Value→Shared→Prop} (ha:(a == sysModules)=false) (r:nF s.heap a o es ep) (hk:∀ e ∈ es,∃ b,e.key=.ref b∧s.TypeIs (.ref b) "tuple") (hh:(es.toList.map (·.hash)).Nodup) (hz:es.size ≤ sizeLine)
  (h:∀ h' o' ep',h'.get? s.heap.objs.size=some o'→o'.ExactDict→o'.data=.dict es ep'→(∀ b q,s.heap.get? b=some q→h'.get? b=some q)→Q (.ref s.heap.objs.size) { s with heap:=h' }) :
  wpAny (model prog w) A (call (.type "dict") [.ref a]) Q E s:=by
 refine callType_codes (Q₁:=fun obj s₁=>obj=.ref s.heap.objs.size∧s₁ = { s with heap:=s.heap.push { cls:=.type "dict",data:=.dict #[] } }) PySem.F.kt_called_dict (PySem.F.kt_typeCall_dict_1 _) PySem.F.entry_dict_init (kt_code_dict_new _ ⟨rfl,rfl⟩) ?_;rintro obj s₁ ⟨rfl,rfl⟩;have hn:(s.heap.push { cls:=.type "dict",data:=.dict #[] }).get? s.heap.objs.size=some { cls:=.type "dict",data:=.dict #[] }:=Heap.get?_push_size _ rfl;have ho:(s.heap.push { cls:=.type "dict",data:=.dict #[] }).get? a=some o:=Heap.get?_push_of_some _ r.at_;have tn:Shared.TypeIs { s with heap:=s.heap.push { cls:=.type "dict",data:=.dict #[] } } (.ref s.heap.objs.size) "dict" := ⟨_,hn,rfl⟩;have to:Shared.TypeIs { s with heap:=s.heap.push { cls:=.type "dict",data:=.dict #[] } } (.ref a) "dict" := ⟨_,ho,r.ex.1⟩;have hne:s.heap.objs.size ≠ a:=fun e=>absurd (Heap.lt_size r.at_) (by rw [e];exact Nat.lt_irrefl _)
 refine ⟨tn,PySem.F.args_dict_init_2 _ _,?_⟩;unfold Builtin.«dict.__init__»;refine wpAny_bind ?_;unfold Builtin.Dict.selfAndRest;refine wpAny_bind (wpAny_notOrdered_dict tn ?_);show wpAny _ _ (pure (s.heap.objs.size,[Value.ref a])) _ _ _;refine wpAny_pure ?_;show wpAny _ _ (Builtin.Dict.updateFrom "dict.__init__" s.heap.objs.size (.ref a) [] .none) _ _ _;unfold Builtin.Dict.updateFrom;refine wpAny_bind (wpAny_typeOf to ?_);rw [if_neg (by decide)];refine wpAny_bind ?_;unfold Builtin.Dict.merge;refine wpAny_bind ?_;unfold Builtin.Dict.readDirectly;refine wpAny_bind (wpAny_isInstance to isSubtype_dict_dict ?_);simp only [Bool.not_true,Bool.false_eq_true,if_false];refine wpAny_bind (wpAny_specialOf to PySem.F.slot_dict_iter.lookup (wpAny_pure ?_));simp only [beq_self_eq_true,if_true];refine wpAny_bind (wpAny_pure ?_);unfold Builtin.Dict.mergeDict;rw [if_neg (by simpa using hne)];unfold Builtin.Dict.showsAll;rw [if_neg (by rw [ha];exact Bool.false_ne_true)];refine wpAny_bind (wpAny_pure (wpAny_bind (wpAny_dictEntries ho r.dat ?_)));by_cases he:es=#[]
 ·subst he;dsimp only;rw [if_neg (by simp)];refine wpAny_bind (wpAny_dictEpoch ho r.dat (wpAny_bind (wpAny_dictEntries ho r.dat (wpAny_bind ?_))));rw [Std.Legacy.Range.forIn_eq_forIn_range'];refine wpAny_pure (wpAny_pure ?_);exact wpAny_bind (wpAny_pure (wpAny_pure ⟨rfl,h _ _ _ hn ⟨rfl,rfl,rfl⟩ rfl fun b q e=>Heap.get?_push_of_some _ e⟩))
 ·have hf:(decide (es.size ≤ 8) && es.all fun e=>(keyPart e.key).isSome)=false:=by
   rw [Bool.and_eq_false_iff];refine .inr (Bool.eq_false_iff.mpr fun z=>?_);rw [Array.all_eq_true_iff_forall_mem] at z;have h0:0 < es.size:=Nat.pos_of_ne_zero fun q=>he (Array.eq_empty_of_size_eq_zero q)
   obtain ⟨b,hb,_⟩:=hk _ (Array.getElem_mem h0);have:=z _ (Array.getElem_mem h0);rw [hb] at this;cases this
  dsimp only;rw [hf,if_pos (show (!false)=true from rfl)];refine wpAny_bind (wpAny_dictEntries hn rfl ?_);rw [if_pos (show Array.isEmpty (#[]:Array DictEntry)=true from rfl)];refine wpAny_bind ?_;unfold Builtin.Dict.entriesForEmpty;refine wpAny_bind (wpAny_dictEntries ho r.dat (wpAny_bind ?_));rw [← Array.forIn_toList];refine wpAny_forIn_list _ (fun xu _ s'=>s' = { s with heap:=s.heap.push { cls:=.type "dict",data:=.dict #[] } }∧∀ e ∈ xu,e ∈ es) _ ?_ ?_ _ _ ⟨rfl,fun e he=>Array.mem_toList_iff.mp he⟩
  ·rintro e xu u s' ⟨rfl,hm⟩;obtain ⟨b,hb,ob,hob,hoc⟩:=hk e (hm e (List.mem_cons_self ..));have tb:Shared.TypeIs { s with heap:=s.heap.push { cls:=.type "dict",data:=.dict #[] } } (.ref b) "tuple" := ⟨ob,Heap.get?_push_of_some _ hob,hoc⟩;unfold Builtin.Dict.quietEq;rw [hb];refine wpAny_bind (wpAny_bind (wpAny_specialOf tb PySem.F.slot_tuple_eq.lookup (wpAny_pure ?_)));rw [if_pos (by decide +kernel),if_neg (Nat.not_lt.mpr ?_)]
   ·exact wpAny_pure ⟨rfl,fun e he=>hm e (List.mem_cons_of_mem _ he)⟩
   ·rw [← Array.length_toList,Array.toList_filter];exact Py hh
  ·rintro u s' ⟨rfl,_⟩;refine wpAny_pure ?_;rw [if_pos (by simp [he])];refine wpAny_bind (wpAny_updateDictKeysTo hn rfl (wpAny_pure ?_) (by omega));refine wpAny_bind (wpAny_pure (wpAny_pure ⟨rfl,?_⟩));refine h _ _ _ (Heap.get?_update_self _ hn (Obj.isFreed_of_dict (Obj.data_mapDictKeys rfl _))) ((show Obj.ExactDict { cls:=.type "dict",data:=.dict #[] } from ⟨rfl,rfl,rfl⟩).mapDictKeys _) (Obj.data_mapDictKeys rfl _) fun b q e=>?_
   exact (Heap.get?_update_other _ _ (fun z=>absurd (Heap.lt_size e) (by rw [← z];exact Nat.lt_irrefl _))).trans (Heap.get?_push_of_some _ e)
end
section
open PySem.Spec PyProof.Rows
variable {X:Cx}
noncomputable def XG (P:Program) (w:World) (k:List Key):Int:=(tupleKind (Nd P w)).hash k
theorem Rz (hc:X.calm=true):lj X (.type "set") (fun xs H Q=>∃ r ns,xs=[.ref r]∧H r=some (.tup (List.map V.int ns))∧ns.length ≤ 1000∧∀ p S n,(n < ns.length↔¬ ns.Nodup)→n ≤ 1000→H p=none→Q (.ref p) (upd H p (.set S n))):=by
 intro pins s σ H xs us Q I r h;obtain ⟨t,ns,rfl,et,hl,q⟩:=h;obtain ⟨u,rfl,ru⟩:=Rm r;cases ru;obtain ⟨its,rv,pl,hz⟩:=I.tuple (SqT.of et);have hi:=Qy rv;have hlen:=hi.length;have hb:its.toArray.size=ns.length:=by rw [List.size_toArray,hlen]
 refine VC (I.ok.hd hc) pl (by simpa using hi) (by rw [hb];show ns.length + 1 < 4096;omega) fun h' tk hS hk=>?_
 rw [hb] at hS;refine ⟨.ref s.heap.objs.size,_,I.laid (a:=s.heap.objs.size) (o:=.set _ _) (t':=tk) hk (Nat.le_refl _) hS,rfl,q _ _ _ (Uu ns) (Nat.le_trans (firstMet_length_le _ _) hl) (I.hok.fresh (Nat.le_refl _))⟩
theorem yx:bootBuiltins "set"=some (.type "set"):=by decide +kernel
theorem nB:lj X (.builtin "len") (fun xs H Q=>∃ p S n,xs=[.ref p]∧H p=some (.set S n)∧n ≤ 1000∧Q (.int (n:Nat)) H):=by
 intro pins s σ H xs us Q I r h;obtain ⟨p,S,n,rfl,e,hn,q⟩:=h;obtain ⟨u,rfl,ru⟩:=Rm r;cases ru;obtain ⟨o,es,ep,t,h1,h2,h3,_,_,_,h4,h5⟩:=(show s.heap.SetOf (intKind X.prog X.w) p S n from I.hok p _ e);refine call_len_set h1 h2 h3 h4 (by omega) ⟨.int (n:Nat),H,I.tok _,⟨_,by rw [h5]⟩,q⟩
theorem Gz {R:(List Key × V)→(List Key × Addr × Value)→Prop} {kvs:List (List Key × V)} {xs:List (List Key × Addr × Value)} (h:Paired (fun p q=>p.1=q.1∧R p q) kvs xs) (f:List Key→Int):(kvs.map fun p=>f p.1)=xs.map fun x=>f x.1:=by
 induction h with
 | nil=>rfl
 | cons z _ ih=>rw [List.map_cons,List.map_cons,ih,z.1]
theorem Ky:lj X (.type "dict") (fun xs H Q=>∃ d kvs,xs=[.ref d]∧vk X.prog X.w H d kvs∧(kvs.map fun p=>XG X.prog X.w p.1).Nodup∧∀ p o,H p=none→vk X.prog X.w (upd H p (.ext (AtO p o))) p kvs→Q (.ref p) (upd H p (.ext (AtO p o)))):=by
 intro pins s σ H xs us Q I r h;obtain ⟨d,kvs,rfl,⟨o,es,ep,xs,D⟩,hn,q⟩:=h;obtain ⟨u,rfl,ru⟩:=Rm r;cases ru;have hlen:=wn D.ks;have hsz:es.size=xs.length:=size_of_entries D.ent;refine pE D.ns (cn I.hok D) (fun e he=>?_) ?_ (by have:=D.sz;omega) fun h' o' ep' g1 g2 g3 g4=>?_
 ·obtain ⟨x,hx,rfl⟩:=List.mem_map.mp (D.ent ▸ Array.mem_toList_iff.mpr he);obtain ⟨i,hi⟩:=List.getElem?_of_mem hx;have hi':i < kvs.length:=by rw [hlen];exact (List.getElem?_eq_some_iff.mp hi).1
  obtain ⟨y,hy,z⟩:=Az D.ks (List.getElem?_eq_getElem hi');rw [hi] at hy;cases hy;obtain ⟨ob,its,n,h1,h2,_⟩:=Hn I.hok z.2.1;exact ⟨x.2.1,rfl,ob,h1,h2⟩
 ·rw [D.ent,List.map_map];rw [Gz D.ks (fun k=>XG X.prog X.w k)] at hn;exact hn
 ·have hp:H s.heap.objs.size=none:=I.hok.fresh (Nat.le_refl _);have S1:Mb H (upd H s.heap.objs.size (.ext (AtO s.heap.objs.size o'))):=fb hp;refine ⟨.ref s.heap.objs.size,_,I.laid (a:=s.heap.objs.size) (o:=.ext (AtO s.heap.objs.size o')) (t':=s.toks) g4 (Nat.le_refl _) ⟨g1,⟨o',g1⟩,fun _ _ q k=>k o' q⟩,rfl,q _ _ hp ⟨o',es,ep',xs,db,g2,g3,D.ent,D.nd,Paired.mapP D.ks fun p q z=>⟨z.1,S1 _ _ z.2.1,z.2.2⟩,D.sz,beq_eq_false_iff_ne.mpr (Ne.symm (Nat.ne_of_lt I.big))⟩⟩
end
noncomputable def hsh (p:Nat × Nat):Int:=reduceHash (Builtin.Tuple.tupleHashOf [hashInt (p.1:Int),hashInt (p.2:Int)])
noncomputable def prs:List (Nat × Nat):=(List.range 6).flatMap fun i=>(List.range 6).map fun j=>(i,j)
theorem wJ:(prs.map hsh).Nodup:=by decide +kernel
theorem sB {p:Nat × Nat} (h1:p.1 < 6) (h2:p.2 < 6):p ∈ prs:=List.mem_flatMap.mpr ⟨p.1,List.mem_range.mpr h1,List.mem_map.mpr ⟨p.2,List.mem_range.mpr h2,rfl⟩⟩
theorem YG {α:Type} {f:α→Int} {l:List α} (h:(l.map f).Nodup):∀ x ∈ l,∀ y ∈ l,f x=f y→x=y:=by
 induction l with
 | nil=>intro x hx;cases hx
 | cons a l ih=>
  rw [List.map_cons,List.nodup_cons] at h;intro x hx y hy e;rcases List.mem_cons.mp hx with hx | hx <;> rcases List.mem_cons.mp hy with hy | hy
  ·rw [hx,hy]
  ·rw [hx] at e;exact absurd (e ▸ List.mem_map_of_mem hy) h.1
  ·rw [hy] at e;exact absurd (e ▸ List.mem_map_of_mem hx) h.1
  ·exact ih h.2 x hx y hy e
end My
namespace My
open PySem L2
structure Sys where
 m:Nat
 e:Nat→Nat→Bool
 st:Nat→Nat→Int
 al:Nat→Int
structure Sys.Ok (S:Sys):Prop where
 lt:∀ {i j},S.e i j=true→i < S.m∧j < S.m∧i ≠ j
 sy:∀ {i j},S.e i j=true→S.e j i=true
 s1:∀ {i j},S.e i j=true→1 ≤ S.st i j
 a1:∀ {i},i < S.m→1 ≤ S.al i
noncomputable abbrev Od:=List (Nat × Nat)
noncomputable def inO (o:Od) (i j:Nat):Bool:=decide ((i,j) ∈ o) || decide ((j,i) ∈ o)
noncomputable def wtO (S:Sys) (z:Int) (o:Od) (i j:Nat):Int:=if (j,i) ∈ o then S.st i j - z else S.st i j
noncomputable def pwO (S:Sys) (z:Int) (o:Od):List Nat→Int
 | []=>0
 | [_]=>0
 | x :: y :: r=>wtO S z o x y + pwO S z o (y :: r)
noncomputable def rq (o:Od):List Nat→Bool
 | []=>true
 | [_]=>true
 | x :: y :: r=>inO o x y && rq o (y :: r)
noncomputable def Mi (S:Sys) (z:Int) (o:Od) (r:List Nat):Bool:=decide (2 ≤ r.length) && decide r.Nodup && rq o (r ++ r.take 1) && decide (0 < pwO S z o (r ++ r.take 1))
inductive Pap where
 | alone (k:Nat)
 | ring (r:List Nat)
 | case (i j:Nat) (p q:Pap)
noncomputable def Di (S:Sys) (z:Int) (o:Od):Pap→Bool
 | .alone k=>decide (z < S.al k)
 | .ring r=>Mi S z o r
 | .case i j p q=>S.e i j && !inO o i j && Di S z (o ++ [(i,j)]) p && Di S z (o ++ [(j,i)]) q
noncomputable def Xx (m:Nat):Nat→Pap→Prop
 | _,.alone k=>k < m
 | _,.ring r=>∀ k ∈ r,k < m
 | 0,.case _ _ _ _=>False
 | d + 1,.case i j p q=>i < m∧j < m∧Xx m d p∧Xx m d q
noncomputable def Xi (S:Sys) (z:Int) (b:Nat→Int):Prop:=(∀ k,k < S.m→S.al k ≤ z)∧∀ i j,S.e i j=true→S.st i j ≤ (b j - b i) % z
noncomputable def cB (z:Int) (b:Nat→Int) (i:Nat):Int:=(b i - b 0) % z
noncomputable def SG (S:Sys) (z:Int) (b:Nat→Int) (o:Od):Prop:=∀ q ∈ o,S.e q.1 q.2=true∧cB z b q.1 < cB z b q.2
section
variable {S:Sys} {z:Int} {b:Nat→Int} {o:Od}
theorem jt (hz:0 < z) (i:Nat):0 ≤ cB z b i∧cB z b i < z:=⟨Int.emod_nonneg _ (by omega),Int.emod_lt_of_pos _ hz⟩
theorem kx (i j:Nat):(b j - b i) % z=(cB z b j - cB z b i) % z:=by
 unfold cB;rw [show b j - b i=(b j - b 0) - (b i - b 0) by omega,Int.sub_emod]
theorem mdU {x y:Int} (h:x ≤ y) (hx:0 ≤ x) (hy:y < z):(y - x) % z=y - x:=Int.emod_eq_of_lt (by omega) (by omega)
theorem mdD {x y:Int} (h:y < x) (hx:x < z) (hy:0 ≤ y):(y - x) % z=y - x + z:=by
 rw [← Int.add_emod_right];exact Int.emod_eq_of_lt (by omega) (by omega)
theorem Xi.ne (k:S.Ok) (D:Xi S z b) {i j:Nat} (h:S.e i j=true):cB z b i ≠ cB z b j:=fun q=>by
 have h1:=D.2 i j h;have h2:=k.s1 h;rw [kx,q,Int.sub_self,Int.zero_emod] at h1;omega
theorem Xi.step (k:S.Ok) (hz:0 < z) (D:Xi S z b) (C:SG S z b o) {i j:Nat} (h:inO o i j=true):wtO S z o i j ≤ cB z b j - cB z b i:=by
 have r1:=jt (b:=b) hz i;have r2:=jt (b:=b) hz j;unfold wtO;split
 ·rename_i hm;obtain ⟨e,l⟩:S.e j i=true∧cB z b j < cB z b i:=C _ hm;have:=D.2 i j (k.sy e);rw [kx,mdD l r1.2 r2.1] at this;omega
 ·rename_i hm;have hm':(i,j) ∈ o:=by simpa [inO,hm] using h
  obtain ⟨e,l⟩:S.e i j=true∧cB z b i < cB z b j:=C _ hm';have:=D.2 i j e;rw [kx,mdU (Int.le_of_lt l) r1.1 r2.2] at this;exact this
theorem Xi.path (k:S.Ok) (hz:0 < z) (D:Xi S z b) (C:SG S z b o):∀ (r:List Nat) (x y:Nat),rq o (x :: r ++ [y])=true→pwO S z o (x :: r ++ [y]) ≤ cB z b y - cB z b x:=by
 intro r
 induction r with
 | nil=>
  intro x y h;have h':inO o x y=true:=by simpa [rq] using h
  have:=D.step k hz C h';show wtO S z o x y + 0 ≤ _;omega
 | cons u r ih=>
  intro x y h;have h':inO o x u=true∧rq o (u :: r ++ [y])=true:=by simpa [rq] using h
  have h1:=D.step k hz C h'.1;have h2:=ih u y h'.2;show wtO S z o x u + pwO S z o (u :: r ++ [y]) ≤ _;omega
theorem Xi.no_ring (k:S.Ok) (hz:0 < z) (D:Xi S z b) (C:SG S z b o) (r:List Nat):Mi S z o r=false:=by
 rw [Bool.eq_false_iff];intro h;cases r with
 | nil=>simp [Mi] at h
 | cons x r=>
  unfold Mi at h;simp only [Bool.and_eq_true,decide_eq_true_eq] at h;have:=D.path k hz C r x x h.1.2;have h2:=h.2;rw [show (x :: r) ++ (x :: r).take 1=x :: r ++ [x] from rfl] at h2;omega
theorem Xi.cons (C:SG S z b o) {i j:Nat} (h:S.e i j=true) (hl:cB z b i < cB z b j):SG S z b (o ++ [(i,j)]):=fun q hq=>by
 rcases List.mem_append.mp hq with hq | hq
 ·exact C q hq
 ·rw [List.mem_singleton.mp hq];exact ⟨h,hl⟩
theorem Xi.sound (k:S.Ok) (hz:0 < z) (D:Xi S z b) (hk:∀ i,S.m ≤ i→S.al i ≤ z):∀ (p:Pap) (o:Od),SG S z b o→Di S z o p=false:=by
 intro p
 induction p with
 | alone i=>
  intro o _;have:S.al i ≤ z:=by
   by_cases h:i < S.m
   ·exact D.1 i h
   ·exact hk i (by omega)
  simp [Di];omega
 | ring r=>exact fun o C=>D.no_ring k hz C r
 | case i j p q ihp ihq=>
  intro o C;unfold Di;cases he:S.e i j with
  | false=>rfl
  | true=>
   rcases Int.lt_or_lt_of_ne (D.ne k he) with h | h
   ·rw [ihp _ (Xi.cons C he h),Bool.and_false,Bool.false_and]
   ·rw [ihq _ (Xi.cons C (k.sy he) h),Bool.and_false]
noncomputable def Dx (S:Sys):Nat→Od
 | 0=>[]
 | k + 1=>Dx S k ++ (if S.e 0 (k + 1) then [(0,k + 1)] else [])
noncomputable def Qs (S:Sys):Od:=Dx S (S.m - 1)
theorem Ej {k:Nat} {q:Nat × Nat} (h:q ∈ Dx S k):q.1=0∧0 < q.2∧q.2 ≤ k∧S.e 0 q.2=true:=by
 induction k with
 | zero=>cases h
 | succ k ih=>
  unfold Dx at h;rcases List.mem_append.mp h with h | h
  ·have:=ih h;exact ⟨this.1,this.2.1,by omega,this.2.2.2⟩
  ·split at h
   ·rename_i he;rw [List.mem_singleton.mp h];exact ⟨rfl,Nat.succ_pos _,Nat.le_refl _,he⟩
   ·cases h
theorem RG:∀ k,(Dx S k).Nodup:=by
 intro k
 induction k with
 | zero=>exact List.nodup_nil
 | succ k ih=>
  unfold Dx;split
  ·rw [List.nodup_append];refine ⟨ih,by simp,fun x hx y hy e=>?_⟩;have:=Ej hx;rw [List.mem_singleton.mp hy] at e;rw [e] at this;omega
  ·simpa using ih
theorem Xi.cons0 (k:S.Ok) (hz:0 < z) (D:Xi S z b):SG S z b (Qs S):=fun q hq=>by
 obtain ⟨h1,h2,h3,h4⟩:=Ej hq;rw [h1];refine ⟨h4,?_⟩;have hn:=D.ne k h4;have h0:cB z b 0=0:=by unfold cB;rw [Int.sub_self,Int.zero_emod]
 have:=jt (b:=b) hz q.2;omega
theorem Xi.more (hz:0 < z) (D:Xi S z b) {y:Int} (h:z ≤ y):Xi S y (cB z b):=by
 refine ⟨fun i hi=>Int.le_trans (D.1 i hi) h,fun i j e=>?_⟩;have r1:=jt (b:=b) hz i;have r2:=jt (b:=b) hz j;have:=D.2 i j e;rw [kx] at this;rcases Int.lt_or_le (cB z b j) (cB z b i) with q | q
 ·rw [mdD q r1.2 r2.1] at this;rw [mdD q (by omega) r2.1];omega
 ·rw [mdU q r1.1 r2.2] at this;rw [mdU q r1.1 (by omega)];exact this
theorem MB (k:S.Ok) (hk:∀ i,S.m ≤ i→S.al i ≤ z) {y:Int} {p:Pap} (h:Di S z (Qs S) p=true) (hy:0 < y) (hl:y ≤ z):¬ Xi S y b:=fun D=>by
 have D2:=D.more hy hl;rw [D2.sound k (by omega) hk p _ (D2.cons0 k (by omega))] at h;cases h
end
section
variable {S:Sys} {z:Int} {o:Od}
noncomputable def chF (S:Sys):List Nat→Prop
 | []=>True
 | [_]=>True
 | x :: y :: r=>S.e x y=true∧chF S (y :: r)
theorem ei:∀ (a:List Nat) (x:Nat) (r:List Nat),pwO S z o (a ++ x :: r)=pwO S z o (a ++ [x]) + pwO S z o (x :: r):=by
 intro a
 induction a with
 | nil=>intro x r;simp [pwO]
 | cons u a ih=>
  intro x r;cases a with
  | nil=>simp [pwO]
  | cons v a=>
   have:=ih x r;simp only [List.cons_append,pwO] at this ⊢;omega
theorem Qg:∀ (a:List Nat) (x:Nat) (r:List Nat),chF S (a ++ x :: r)↔chF S (a ++ [x])∧chF S (x :: r):=by
 intro a
 induction a with
 | nil=>intro x r;simp [chF]
 | cons u a ih=>
  intro x r;cases a with
  | nil=>simp [chF]
  | cons v a=>
   have:=ih x r;simp only [List.cons_append,chF] at this ⊢;rw [this,and_assoc]
theorem ot:∀ {l:List Nat},¬ l.Nodup→∃ a x b c,l=a ++ x :: (b ++ x :: c):=by
 intro l
 induction l with
 | nil=>intro h;exact absurd List.nodup_nil h
 | cons y t ih=>
  intro h;by_cases hy:y ∈ t
  ·obtain ⟨b,c,rfl⟩:=List.append_of_mem hy;exact ⟨[],y,b,c,rfl⟩
  ·obtain ⟨a,x,b,c,rfl⟩:=ih (fun q=>h (List.nodup_cons.mpr ⟨hy,q⟩));exact ⟨y :: a,x,b,c,rfl⟩
theorem sD:∀ {l:List Nat},l ≠ []→∃ y ∈ l,∀ x ∈ l,y ≤ x:=by
 intro l
 induction l with
 | nil=>intro h;exact absurd rfl h
 | cons x l ih=>
  intro _;by_cases hl:l=[]
  ·subst hl;exact ⟨x,by simp,by simp⟩
  ·obtain ⟨y,hy,h⟩:=ih hl;by_cases q:x ≤ y
   ·refine ⟨x,List.mem_cons_self ..,fun u hu=>?_⟩;rcases List.mem_cons.mp hu with rfl | hu
    ·exact Nat.le_refl _
    ·exact Nat.le_trans q (h u hu)
   ·refine ⟨y,List.mem_cons_of_mem _ hy,fun u hu=>?_⟩;rcases List.mem_cons.mp hu with rfl | hu
    ·omega
    ·exact h u hu
noncomputable def vm (S:Sys) (z:Int) (o:Od):Prop:=∀ x t,(x :: t).Nodup→(∀ y ∈ t,x < y)→t ≠ []→chF S (x :: t ++ [x])→pwO S z o (x :: t ++ [x]) ≤ 0
theorem vm.simple (k:S.Ok) (R:vm S z o) {x:Nat} {t:List Nat} (nd:(x :: t).Nodup) (h:chF S (x :: t ++ [x])):pwO S z o (x :: t ++ [x]) ≤ 0:=by
 have ht:t ≠ []:=fun q=>by
  subst q;exact (k.lt h.1).2.2 rfl
 obtain ⟨y,hy,hl⟩:=sD (l:=x :: t) (by simp);obtain ⟨a,c,e⟩:=List.append_of_mem hy;cases a with
 | nil=>
  cases e;refine R x t nd (fun u hu=>?_) ht h;have:=hl u (List.mem_cons_of_mem _ hu);have:u ≠ x:=fun q=>(List.nodup_cons.mp nd).1 (q ▸ hu)
  omega
 | cons x' a=>
  rw [List.cons_append,List.cons.injEq] at e;obtain ⟨rfl,rfl⟩:=e;have e1:x :: (a ++ y :: c) ++ [x]=(x :: a) ++ y :: (c ++ [x]):=by simp
  have e2:y :: (c ++ x :: a) ++ [y]=(y :: c) ++ x :: (a ++ [y]):=by simp
  rw [e1,Qg] at h;have nd':(y :: (c ++ x :: a)).Nodup:=by
   have:=(List.perm_append_comm (l₁:=x :: a) (l₂:=y :: c)).nodup_iff.mp nd;simpa using this
  have:=R y (c ++ x :: a) nd' (fun u hu=>by
   have h1:=hl u (by
    rcases List.mem_append.mp hu with q | q
    ·simp [q]
    ·rcases List.mem_cons.mp q with rfl | q
     ·simp
     ·simp [q])
   have h2:u ≠ y:=fun q=>(List.nodup_cons.mp nd').1 (q ▸ hu)
   omega) (by simp) (by rw [e2,Qg];exact ⟨by simpa using h.2,by simpa using h.1⟩)
  rw [e2,ei] at this;rw [e1,ei];simp only [List.cons_append] at this ⊢;omega
theorem vm.closed (k:S.Ok) (R:vm S z o):∀ (n:Nat) (x:Nat) (t:List Nat),t.length ≤ n→chF S (x :: t ++ [x])→pwO S z o (x :: t ++ [x]) ≤ 0:=by
 intro n
 induction n with
 | zero=>
  intro x t hn h;have:t=[]:=List.length_eq_zero_iff.mp (by omega);subst this;exact absurd rfl (k.lt h.1).2.2
 | succ n ih=>
  intro x t hn h;by_cases nd:(x :: t).Nodup
  ·exact R.simple k nd h
  ·obtain ⟨a,y,b,c,e⟩:=ot nd;have hlen:=congrArg List.length e;simp only [List.length_cons,List.length_append] at hlen;rw [e,show a ++ y :: (b ++ y :: c) ++ [x]=a ++ y :: (b ++ y :: (c ++ [x])) by simp,Qg] at h;obtain ⟨h1,h2⟩:=h;rw [show y :: (b ++ y :: (c ++ [x]))=(y :: b) ++ y :: (c ++ [x]) by simp,Qg] at h2;obtain ⟨h2,h3⟩:=h2;have i1:=ih y b (by omega) h2;rw [e,show a ++ y :: (b ++ y :: c) ++ [x]=a ++ y :: (b ++ y :: (c ++ [x])) by simp,ei,show y :: (b ++ y :: (c ++ [x]))=(y :: b) ++ y :: (c ++ [x]) by simp,ei (y :: b)];have i2:pwO S z o (a ++ [y]) + pwO S z o (y :: (c ++ [x])) ≤ 0:=by
    rw [← ei];cases a with
    | nil=>
     cases e;exact ih x c (by simp at hn;omega) h3
    | cons x' a=>
     rw [List.cons_append,List.cons.injEq] at e;obtain ⟨rfl,rfl⟩:=e;refine ih x (a ++ y :: c) (by simp at hn ⊢;omega) ?_ |> fun q=>by simpa using q
     rw [show x :: (a ++ y :: c) ++ [x]=(x :: a) ++ y :: (c ++ [x]) by simp,Qg];exact ⟨h1,h3⟩
   omega
theorem vm.cut (k:S.Ok) (R:vm S z o) (v:Nat):∀ (n:Nat) (l:List Nat),l.length ≤ n→chF S (l ++ [v])→∃ l',chF S (l' ++ [v])∧(l' ++ [v]).Nodup∧pwO S z o (l ++ [v]) ≤ pwO S z o (l' ++ [v]):=by
 intro n
 induction n with
 | zero=>
  intro l hn h;have:l=[]:=List.length_eq_zero_iff.mp (by omega);subst this;exact ⟨[],h,by simp,Int.le_refl _⟩
 | succ n ih=>
  intro l hn h;by_cases nd:(l ++ [v]).Nodup
  ·exact ⟨l,h,nd,Int.le_refl _⟩
  ·obtain ⟨a,y,b,c,e⟩:=ot nd;have hlen:=congrArg List.length e;simp only [List.length_cons,List.length_append,List.length_nil] at hlen;rw [e,Qg] at h;obtain ⟨h1,h2⟩:=h;rw [show y :: (b ++ y :: c)=(y :: b) ++ y :: c by simp,Qg] at h2;obtain ⟨h2,h3⟩:=h2;have i1:=R.closed k b.length y b (Nat.le_refl _) h2;obtain ⟨d,ed⟩:∃ d,a ++ y :: c=d ++ [v]:=by
    rcases List.eq_nil_or_concat c with rfl | ⟨c',u,rfl⟩
    ·have:l ++ [v]=(a ++ y :: b) ++ [y]:=by rw [e];simp
     have:=(List.append_inj' this rfl).2;cases this;exact ⟨a,by simp⟩
    ·have:l ++ [v]=(a ++ y :: (b ++ y :: c')) ++ [u]:=by rw [e];simp
     have:=(List.append_inj' this rfl).2;cases this;exact ⟨a ++ y :: c',by simp⟩
   have hd:=congrArg List.length ed;simp only [List.length_cons,List.length_append,List.length_nil] at hd;obtain ⟨l',g1,g2,g3⟩:=ih d (by omega) (by rw [← ed,Qg];exact ⟨h1,h3⟩);refine ⟨l',g1,g2,Int.le_trans ?_ g3⟩;rw [← ed,e,ei,show y :: (b ++ y :: c)=(y :: b) ++ y :: c by simp,ei (y :: b),ei a y c];simp only [List.cons_append] at i1 ⊢;omega
noncomputable def relax (S:Sys) (z:Int) (o:Od) (b:Nat→Int) (p:Nat × Nat):Nat→Int:=fun v=>if v=p.2 then max (b p.2) (b p.1 + wtO S z o p.1 p.2) else b v
theorem gw (b:Nat→Int) (p:Nat × Nat) (v:Nat):b v ≤ relax S z o b p v:=by
 unfold relax;split
 ·rename_i h;rw [h];exact Int.le_max_left ..
 ·exact Int.le_refl _
theorem aB:∀ (E:Od) (b:Nat→Int) (v:Nat),b v ≤ E.foldl (relax S z o) b v:=by
 intro E
 induction E with
 | nil=>intro b v;exact Int.le_refl _
 | cons p E ih=>intro b v;exact Int.le_trans (gw b p v) (ih _ v)
theorem xH:∀ (E:Od) (b:Nat→Int) {u v:Nat},(u,v) ∈ E→b u + wtO S z o u v ≤ E.foldl (relax S z o) b v:=by
 intro E
 induction E with
 | nil=>intro b u v h;cases h
 | cons p E ih=>
  intro b u v h;rcases List.mem_cons.mp h with rfl | h
  ·refine Int.le_trans ?_ (aB E _ v);show _ ≤ relax S z o b (u,v) v;unfold relax;rw [if_pos rfl];exact Int.le_max_right ..
  ·have:=gw (S:=S) (z:=z) (o:=o) b p u;exact Int.le_trans (by omega) (ih _ h)
noncomputable def Wk (S:Sys) (z:Int) (o:Od) (b:Nat→Int):Prop:=∀ v,∃ l,chF S (l ++ [v])∧pwO S z o (l ++ [v])=b v
theorem Wk.relax {b:Nat→Int} (h:Wk S z o b) {p:Nat × Nat} (hp:S.e p.1 p.2=true):Wk S z o (relax S z o b p):=fun v=>by
 unfold My.relax;split
 ·rename_i hv;rcases Int.le_total (b p.1 + wtO S z o p.1 p.2) (b p.2) with q | q
  ·rw [Int.max_eq_left q,hv];exact h _
  ·rw [Int.max_eq_right q,hv];obtain ⟨l,h1,h2⟩:=h p.1;refine ⟨l ++ [p.1],?_,?_⟩
   ·rw [show l ++ [p.1] ++ [p.2]=l ++ p.1 :: [p.2] by simp,Qg];exact ⟨h1,hp,trivial⟩
   ·rw [show l ++ [p.1] ++ [p.2]=l ++ p.1 :: [p.2] by simp,ei,h2];simp [pwO]
 ·exact h v
theorem Wk.fold:∀ (E:Od) {b:Nat→Int},Wk S z o b→(∀ p ∈ E,S.e p.1 p.2=true)→Wk S z o (E.foldl (My.relax S z o) b):=by
 intro E
 induction E with
 | nil=>intro b h _;exact h
 | cons p E ih=>intro b h hE;exact ih (h.relax (hE p (List.mem_cons_self ..))) fun q hq=>hE q (List.mem_cons_of_mem _ hq)
noncomputable def xo (S:Sys) (z:Int) (o:Od) (E:Od):Nat→Nat→Int
 | 0=>fun _=>0
 | k + 1=>E.foldl (relax S z o) (xo S z o E k)
theorem mD {E:Od} (hE:∀ p ∈ E,S.e p.1 p.2=true):∀ k,Wk S z o (xo S z o E k):=by
 intro k
 induction k with
 | zero=>exact fun v=>⟨[],trivial,rfl⟩
 | succ k ih=>exact ih.fold E hE
theorem JD {E:Od} (hE:∀ i j,S.e i j=true→(i,j) ∈ E):∀ (k:Nat) (v:Nat) (l:List Nat),l.length ≤ k→chF S (l ++ [v])→pwO S z o (l ++ [v]) ≤ xo S z o E k v:=by
 intro k
 induction k with
 | zero=>
  intro v l hl h;have:l=[]:=List.length_eq_zero_iff.mp (by omega);subst this;exact Int.le_refl _
 | succ k ih=>
  intro v l hl h;rcases List.eq_nil_or_concat l with rfl | ⟨l',u,rfl⟩
  ·exact Int.le_trans (ih v [] (Nat.zero_le _) h) (aB E _ v)
  ·rw [show l'.concat u ++ [v]=l' ++ u :: [v] by simp,Qg] at h;have h1:=ih u l' (by simpa using hl) h.1;have h2:=xH (S:=S) (z:=z) (o:=o) E (xo S z o E k) (hE u v h.2.1);rw [show l'.concat u ++ [v]=l' ++ u :: [v] by simp,ei];show _ ≤ E.foldl (relax S z o) (xo S z o E k) v;simp only [pwO];omega
theorem tJ (k:S.Ok) {v:Nat} (hv:v < S.m):∀ {l:List Nat},chF S (l ++ [v])→∀ x ∈ l ++ [v],x < S.m:=by
 intro l
 induction l with
 | nil=>intro _ x hx;rw [List.mem_singleton.mp hx];exact hv
 | cons u l ih=>
  intro h x hx;have h':S.e u ((l ++ [v]).headD 0)=true∧chF S (l ++ [v]):=by
   cases l with
   | nil=>exact h
   | cons y l=>exact h
  rcases List.mem_cons.mp hx with rfl | hx
  ·exact (k.lt h'.1).1
  ·exact ih h'.2 x hx
theorem jC {m:Nat} {l:List Nat} (nd:l.Nodup) (h:∀ x ∈ l,x < m):l.length ≤ m:=by
 induction m generalizing l with
 | zero=>
  cases l with
  | nil=>exact Nat.le_refl _
  | cons x l=>exact absurd (h x (List.mem_cons_self ..)) (Nat.not_lt_zero _)
 | succ m ih=>
  by_cases q:m ∈ l
  ·have:=ih (nd.erase m) fun x hx=>by
    have h1:=h x (List.mem_of_mem_erase hx);have h2:=(nd.mem_erase_iff.mp hx).1;omega
   rw [List.length_erase_of_mem q] at this;omega
  ·have:=ih nd fun x hx=>by
    have h1:=h x hx;have h2:x ≠ m:=fun e=>q (e ▸ hx)
    omega
   omega
theorem Qx (k:S.Ok) {E:Od} (hE:∀ p ∈ E,S.e p.1 p.2=true) (hF:∀ i j,S.e i j=true→(i,j) ∈ E) (R:vm S z o) {i j:Nat} (h:S.e i j=true):xo S z o E S.m i + wtO S z o i j ≤ xo S z o E S.m j:=by
 obtain ⟨l,h1,h2⟩:=mD (z:=z) (o:=o) hE S.m i;have c1:chF S ((l ++ [i]) ++ [j]):=by
  rw [show l ++ [i] ++ [j]=l ++ i :: [j] by simp,Qg];exact ⟨h1,h,trivial⟩
 obtain ⟨l',g1,g2,g3⟩:=R.cut k j _ (l ++ [i]) (Nat.le_refl _) c1;have hn:=jC g2 (tJ k (k.lt h).2.1 g1);have:=JD (z:=z) (o:=o) hF S.m j l' (by simp at hn;omega) g1;rw [show l ++ [i] ++ [j]=l ++ i :: [j] by simp,ei,h2] at g3;simp only [pwO] at g3;omega
theorem wt (k:S.Ok) (hz:0 < z) (ha:∀ i,i < S.m→S.al i ≤ z) {b:Nat→Int} (ho:∀ i j,S.e i j=true→inO o i j=true) (hs:∀ i j,(i,j) ∈ o→(j,i) ∉ o) (h:∀ i j,S.e i j=true→b i + wtO S z o i j ≤ b j):Xi S z b:=by
 refine ⟨ha,fun i j e=>?_⟩;have h1:=h i j e;have h2:=h j i (k.sy e);have s1:=k.s1 e;have s2:=k.s1 (k.sy e);unfold wtO at h1 h2;by_cases q:(j,i) ∈ o
 ·rw [if_pos q] at h1;rw [if_neg (hs _ _ q)] at h2;rw [← Int.add_emod_right,Int.emod_eq_of_lt (by omega) (by omega)];omega
 ·have q':(i,j) ∈ o:=by simpa [inO,q] using ho i j e
  rw [if_neg q] at h1;rw [if_pos q'] at h2;rw [Int.emod_eq_of_lt (by omega) (by omega)];omega
end
noncomputable def Lj (p:List Nat):Nat:=p.getLast?.getD 0
noncomputable def gy (S:Sys) (p:List Nat):List (List Nat):=((((List.range (S.m - (p.headD 0 + 1))).map fun k=>p.headD 0 + 1 + k).filter fun v=>S.e (Lj p) v).filter fun v=>decide (v ∉ p)).map fun v=>p ++ [v]
noncomputable def lev (S:Sys):Nat→List (List Nat)
 | 0=>(List.range S.m).map fun k=>[k]
 | k + 1=>(lev S k).flatMap (gy S)
noncomputable def clR (S:Sys) (p:List Nat):Bool:=S.e (Lj p) (p.headD 0)
noncomputable def ug (S:Sys):Nat→List (List Nat)
 | 0=>[]
 | k + 1=>ug S k ++ (lev S (k + 1)).filter (clR S)
section
variable {S:Sys} {z:Int} {o:Od}
theorem mq (a:List Nat) (u:Nat):Lj (a ++ [u])=u:=by unfold Lj;simp
theorem ix {p q:List Nat}:q ∈ gy S p↔∃ v,q=p ++ [v]∧p.headD 0 < v∧v < S.m∧S.e (Lj p) v=true∧v ∉ p:=by
 unfold gy;constructor
 ·intro h;obtain ⟨v,hv,rfl⟩:=List.mem_map.mp h;obtain ⟨hv,h2⟩:=List.mem_filter.mp hv;obtain ⟨hv,h1⟩:=List.mem_filter.mp hv;obtain ⟨k,hk,rfl⟩:=List.mem_map.mp hv;have:=List.mem_range.mp hk;exact ⟨_,rfl,by omega,by omega,h1,of_decide_eq_true h2⟩
 ·rintro ⟨v,rfl,h1,h2,h3,h4⟩;refine List.mem_map.mpr ⟨v,List.mem_filter.mpr ⟨List.mem_filter.mpr ⟨List.mem_map.mpr ⟨v - (p.headD 0 + 1),List.mem_range.mpr (by omega),by omega⟩,h3⟩,decide_eq_true h4⟩,rfl⟩
theorem Ov:∀ (k:Nat) (p:List Nat),p ∈ lev S k→p.length=k + 1∧p.Nodup∧∀ x ∈ p,x < S.m:=by
 intro k
 induction k with
 | zero=>
  intro p h;obtain ⟨v,hv,rfl⟩:=List.mem_map.mp h;exact ⟨rfl,by simp,fun x hx=>by rw [List.mem_singleton.mp hx];exact List.mem_range.mp hv⟩
 | succ k ih=>
  intro p h;obtain ⟨q,hq,h⟩:=List.mem_flatMap.mp h;obtain ⟨v,rfl,h1,h2,h3,h4⟩:=ix.mp h;obtain ⟨i1,i2,i3⟩:=ih q hq;refine ⟨by rw [List.length_append,i1];rfl,?_,fun x hx=>?_⟩
  ·rw [List.nodup_append];exact ⟨i2,by simp,fun x hx y hy e=>h4 (by rw [← List.mem_singleton.mp hy,← e];exact hx)⟩
  ·rcases List.mem_append.mp hx with hx | hx
   ·exact i3 x hx
   ·rw [List.mem_singleton.mp hx];exact h2
theorem IG:lev S S.m=[]:=by
 refine List.eq_nil_iff_forall_not_mem.mpr fun p hp=>?_
 obtain ⟨h1,h2,h3⟩:=Ov _ p hp;have:=jC h2 h3;omega
theorem Rw {k:Nat} (h:lev S k=[]):∀ i,lev S (k + i)=[]:=by
 intro i
 induction i with
 | zero=>exact h
 | succ i ih=>show (lev S (k + i)).flatMap (gy S)=[];rw [ih];rfl
theorem yA {p:List Nat} {v:Nat} (hp:p ≠ []) (h:chF S (p ++ [v])):S.e (Lj p) v=true:=by
 rcases List.eq_nil_or_concat p with rfl | ⟨a,u,rfl⟩
 ·exact absurd rfl hp
 ·rw [List.concat_eq_append,List.append_assoc] at h;rw [List.concat_eq_append,mq];exact ((Qg a u [v]).mp h).2.1
theorem iH:∀ (n:Nat) (x:Nat) (t:List Nat),t.length=n→(x :: t).Nodup→(∀ y ∈ t,x < y)→chF S (x :: t)→(∀ y ∈ x :: t,y < S.m)→x :: t ∈ lev S n:=by
 intro n
 induction n with
 | zero=>
  intro x t hn _ _ _ h;have:t=[]:=List.length_eq_zero_iff.mp hn;subst this;exact List.mem_map.mpr ⟨x,List.mem_range.mpr (h x (List.mem_cons_self ..)),rfl⟩
 | succ n ih=>
  intro x t hn nd hl hc hm;rcases List.eq_nil_or_concat t with rfl | ⟨a,v,rfl⟩
  ·cases hn
  ·rw [List.concat_eq_append] at *;rw [← List.cons_append] at nd hc hm ⊢;rw [List.nodup_append] at nd;have hc':chF S (x :: a):=by
    rcases List.eq_nil_or_concat a with rfl | ⟨b,u,rfl⟩
    ·exact trivial
    ·rw [List.concat_eq_append,← List.cons_append] at hc ⊢;rw [List.append_assoc] at hc;exact ((Qg (x :: b) u [v]).mp hc).1
   refine List.mem_flatMap.mpr ⟨x :: a,ih x a (by simpa using hn) nd.1 (fun y hy=>hl y (by simp [hy])) hc' (fun y hy=>hm y (by simp only [List.mem_append];exact .inl hy)),ix.mpr ⟨v,rfl,hl v (by simp),hm v (by simp),yA (by simp) hc,fun h=>nd.2.2 v h v (by simp) rfl⟩⟩
theorem Ox {r:List Nat}:∀ {k:Nat},r ∈ ug S k→∃ i,i < k∧r ∈ lev S (i + 1):=by
 intro k
 induction k with
 | zero=>intro h;cases h
 | succ k ih=>
  intro h;rcases List.mem_append.mp h with h | h
  ·obtain ⟨i,hi,h⟩:=ih h;exact ⟨i,by omega,h⟩
  ·exact ⟨k,by omega,(List.mem_filter.mp h).1⟩
theorem wB {r:List Nat} {i k:Nat} (hi:i < k) (h:r ∈ lev S (i + 1)) (hc:clR S r=true):r ∈ ug S k:=by
 induction k with
 | zero=>omega
 | succ k ih=>
  by_cases q:i < k
  ·exact List.mem_append_left _ (ih q)
  ·have:i=k:=by omega
   subst this;exact List.mem_append_right _ (List.mem_filter.mpr ⟨h,hc⟩)
theorem kC (k:S.Ok) {K:Nat} (hK:lev S K=[]) {x:Nat} {t:List Nat} (nd:(x :: t).Nodup) (hl:∀ y ∈ t,x < y) (ht:t ≠ []) (hc:chF S (x :: t ++ [x])):x :: t ∈ ug S K:=by
 obtain ⟨a,u,e⟩:∃ a u,t=a ++ [u]:=by
  rcases List.eq_nil_or_concat t with q | ⟨a,u,q⟩
  ·exact absurd q ht
  ·exact ⟨a,u,by rw [q,List.concat_eq_append]⟩
 have hlast:=yA (p:=x :: t) (by simp) hc;have hx:=(k.lt hlast).2.1;have hc':chF S (x :: t):=by
  rw [e,← List.cons_append] at hc ⊢;rw [List.append_assoc] at hc;exact ((Qg (x :: a) u [x]).mp hc).1
 have hm:x :: t ∈ lev S t.length:=iH _ x t rfl nd hl hc' (fun y hy=>tJ k hx hc y (List.mem_append_left _ hy));have h1:t.length < K:=by
  rcases Nat.lt_or_ge t.length K with q | q
  ·exact q
  ·have:=Rw hK (t.length - K);rw [show K + (t.length - K)=t.length by omega] at this;rw [this] at hm;cases hm
 have h0:0 < t.length:=List.length_pos_iff.mpr ht;refine wB (i:=t.length - 1) (by omega) (by rw [show t.length - 1 + 1=t.length by omega];exact hm) hlast
theorem iA (ho:∀ i j,S.e i j=true→inO o i j=true):∀ (l:List Nat),chF S l→rq o l=true:=by
 intro l
 induction l with
 | nil=>intro _;rfl
 | cons x l ih=>
  intro h;cases l with
  | nil=>rfl
  | cons y l=>
   have h':S.e x y=true∧chF S (y :: l):=h;show (inO o x y && rq o (y :: l))=true;rw [ho _ _ h'.1,ih h'.2];rfl
theorem wy (k:S.Ok) {K:Nat} (hK:lev S K=[]) (ho:∀ i j,S.e i j=true→inO o i j=true) (h:∀ r ∈ ug S K,Mi S z o r=false):vm S z o:=fun x t nd hl ht hc=>by
 have hb:=h _ (kC k hK nd hl ht hc);have h0:0 < t.length:=List.length_pos_iff.mpr ht;unfold Mi at hb;rw [show (x :: t) ++ (x :: t).take 1=x :: t ++ [x] from rfl,iA ho _ hc,decide_eq_true (show 2 ≤ (x :: t).length by rw [List.length_cons];omega),decide_eq_true nd] at hb;simpa using hb
theorem Jw (p:List Nat):(gy S p).length ≤ S.m:=by
 unfold gy;rw [List.length_map];refine Nat.le_trans (List.length_filter_le ..) (Nat.le_trans (List.length_filter_le ..) ?_);rw [List.length_map,List.length_range];omega
theorem Av {f:List Nat→List (List Nat)} {c:Nat} (h:∀ p,(f p).length ≤ c):∀ l:List (List Nat),(l.flatMap f).length ≤ l.length * c:=by
 intro l
 induction l with
 | nil=>simp
 | cons p l ih=>
  rw [List.flatMap_cons,List.length_append,List.length_cons,Nat.succ_mul];have:=h p;omega
theorem fB:∀ k,(lev S k).length ≤ S.m ^ (k + 1):=by
 intro k
 induction k with
 | zero=>simp [lev]
 | succ k ih=>
  show ((lev S k).flatMap (gy S)).length ≤ _;refine Nat.le_trans (Av Jw _) ?_;rw [Nat.pow_succ];exact Nat.mul_le_mul_right _ ih
end
structure Uy (S:Sys) (o:Od):Prop where
 e:∀ p ∈ o,S.e p.1 p.2=true
 nd:o.Nodup
 as:∀ i j,(i,j) ∈ o→(j,i) ∉ o
theorem Uy.len {S:Sys} {o:Od} (h:Uy S o) (k:S.Ok) (hm:S.m ≤ 6):o.length ≤ 36:=by
 have h1:(o.map fun p=>p.1 * 6 + p.2).Nodup:=by
  have:∀ l:Od,l.Nodup→(∀ p ∈ l,p.1 < 6∧p.2 < 6)→(l.map fun p=>p.1 * 6 + p.2).Nodup:=by
   intro l
   induction l with
   | nil=>intro _ _;exact List.nodup_nil
   | cons p l ih=>
    intro nd hl;rw [List.nodup_cons] at nd;rw [List.map_cons,List.nodup_cons];refine ⟨fun hx=>?_,ih nd.2 fun q hq=>hl q (List.mem_cons_of_mem _ hq)⟩;obtain ⟨q,hq,e⟩:=List.mem_map.mp hx;have a1:=hl p (List.mem_cons_self ..);have a2:=hl q (List.mem_cons_of_mem _ hq);exact nd.1 (by rw [show p=q from Prod.ext (by omega) (by omega)];exact hq)
  exact this o h.nd fun p hp=>by have:=k.lt (h.e p hp);omega
 have:=jC (m:=36) h1 fun x hx=>by
  obtain ⟨p,hp,rfl⟩:=List.mem_map.mp hx;have:=k.lt (h.e p hp);omega
 rw [List.length_map] at this;exact this
theorem Uy.in_e {S:Sys} {o:Od} (h:Uy S o) (k:S.Ok) {i j:Nat} (q:inO o i j=true):S.e i j=true:=by
 unfold inO at q;rcases Bool.or_eq_true_iff.mp q with q | q
 ·exact h.e _ (of_decide_eq_true q)
 ·exact k.sy (h.e _ (of_decide_eq_true q))
theorem Uy.put {S:Sys} {o:Od} (h:Uy S o) (k:S.Ok) {i j:Nat} (he:S.e i j=true) (hn:inO o i j=false):Uy S (o ++ [(i,j)]):=by
 unfold inO at hn;rw [Bool.or_eq_false_iff,decide_eq_false_iff_not,decide_eq_false_iff_not] at hn;refine ⟨fun p hp=>?_,?_,fun a b hab hba=>?_⟩
 ·rcases List.mem_append.mp hp with hp | hp
  ·exact h.e p hp
  ·rw [List.mem_singleton.mp hp];exact he
 ·rw [List.nodup_append];exact ⟨h.nd,by simp,fun x hx y hy e=>hn.1 (by rw [← List.mem_singleton.mp hy,← e];exact hx)⟩
 ·have hne:=(k.lt he).2.2;rcases List.mem_append.mp hab with x | x <;> rcases List.mem_append.mp hba with y | y
  ·exact h.as a b x y
  ·cases List.mem_singleton.mp y;exact hn.2 x
  ·cases List.mem_singleton.mp x;exact hn.2 y
  ·cases List.mem_singleton.mp x;cases List.mem_singleton.mp y;exact hne rfl
theorem jr (o:Od) (i j:Nat):inO o i j=inO o j i:=Bool.or_comm ..
noncomputable def YH (m:Nat):Od:=(List.range m).flatMap fun j=>(List.range j).map fun i=>(i,j)
theorem Tv {m i j:Nat} (h:i < j) (hj:j < m):(i,j) ∈ YH m:=List.mem_flatMap.mpr ⟨j,List.mem_range.mpr hj,List.mem_map.mpr ⟨i,List.mem_range.mpr h,rfl⟩⟩
noncomputable def unO (S:Sys) (o:Od):Nat:=(YH S.m).countP fun p=>S.e p.1 p.2 && !inO o p.1 p.2
theorem Zw {α:Type} {p q:α→Bool} (h:∀ x,q x=true→p x=true):∀ {l:List α} {y:α},y ∈ l→p y=true→q y=false→l.countP q < l.countP p:=by
 intro l
 induction l with
 | nil=>intro y hy;cases hy
 | cons x l ih=>
  intro y hy h1 h2;rw [List.countP_cons,List.countP_cons];have hle:l.countP q ≤ l.countP p:=List.countP_mono_left fun x _=>h x
  rcases List.mem_cons.mp hy with rfl | hy
  ·rw [h1,h2];simp;omega
  ·have:=ih hy h1 h2;by_cases hq:q x=true
   ·rw [h x hq,hq];simp;exact this
   ·rw [Bool.not_eq_true] at hq;rw [hq];simp;omega
section
variable {S:Sys} {o:Od}
theorem BG (i j a b:Nat) (h:inO o a b=true):inO (o ++ [(i,j)]) a b=true:=by
 unfold inO at h ⊢;simp only [Bool.or_eq_true,decide_eq_true_eq,List.mem_append] at h ⊢;exact h.imp .inl .inl
theorem ez (i j:Nat):inO (o ++ [(i,j)]) i j=true:=by
 unfold inO;simp
theorem Su (k:S.Ok) {i j:Nat} (he:S.e i j=true) (hn:inO o i j=false):unO S (o ++ [(i,j)]) < unO S o:=by
 have hl:=k.lt he;unfold unO;have hmono:∀ p:Nat × Nat,(S.e p.1 p.2 && !inO (o ++ [(i,j)]) p.1 p.2)=true→(S.e p.1 p.2 && !inO o p.1 p.2)=true:=fun p h=>by
  rw [Bool.and_eq_true,Bool.not_eq_true'] at h ⊢;refine ⟨h.1,?_⟩;rw [Bool.eq_false_iff];intro q;rw [BG i j _ _ q] at h;cases h.2
 rcases Nat.lt_or_gt_of_ne hl.2.2 with q | q
 ·exact Zw hmono (Tv q hl.2.1) (by simp [he,hn]) (by simp [ez])
 ·refine Zw hmono (Tv q hl.1) (by simp [k.sy he,jr o j i,hn]) (by simp [jr _ j i,ez])
theorem eG (k:S.Ok) {i j:Nat} (he:S.e i j=true) (hn:inO o i j=false):0 < unO S o:=Nat.lt_of_le_of_lt (Nat.zero_le _) (Su k he hn)
theorem iE:∀ k,(Dx S k).length ≤ k:=by
 intro k
 induction k with
 | zero=>exact Nat.le_refl _
 | succ k ih=>
  unfold Dx;rw [List.length_append];split <;> simp <;> omega
theorem HG {k j:Nat} (h0:0 < j) (hj:j ≤ k) (he:S.e 0 j=true):(0,j) ∈ Dx S k:=by
 induction k with
 | zero=>omega
 | succ k ih=>
  unfold Dx;by_cases q:j ≤ k
  ·exact List.mem_append_left _ (ih q)
  ·have:j=k + 1:=by omega
   subst this;rw [if_pos he];exact List.mem_append_right _ (by simp)
theorem bD (k:S.Ok) (hm:S.m ≤ 6):unO S (Qs S) ≤ 10∧(S.m ≤ 5→unO S (Qs S) ≤ 6):=by
 have h:unO S (Qs S) ≤ (YH S.m).countP fun p=>decide (p.1 ≠ 0):=by
  refine List.countP_mono_left fun p _ hp=>?_
  rw [Bool.and_eq_true,Bool.not_eq_true'] at hp;refine decide_eq_true fun q=>?_
  rw [q] at hp;have hl:=k.lt hp.1;have:inO (Qs S) 0 p.2=true:=by
   unfold inO;rw [decide_eq_true (show (0,p.2) ∈ Qs S from HG (by omega) (by omega) hp.1)];rfl
  rw [this] at hp;cases hp.2
 have h6:∀ m,m ≤ 6→((YH m).countP fun p=>decide (p.1 ≠ 0)) ≤ 10∧(m ≤ 5→((YH m).countP fun p=>decide (p.1 ≠ 0)) ≤ 6):=by decide +kernel
 exact ⟨Nat.le_trans h (h6 _ hm).1,fun q=>Nat.le_trans h ((h6 _ hm).2 q)⟩
theorem pG:Uy S (Qs S) where
 e:=fun p hp=>by
  obtain ⟨h1,h2,h3,h4⟩:=Ej hp;rw [h1];exact h4
 nd:=RG _
 as:=fun i j h1 h2=>by
  have a:=Ej h1;have b:=Ej h2;have:i=0:=a.1;have:0 < i:=b.2.1;omega
noncomputable def Lm (f:Nat→Int):Nat→Int
 | 0=>0
 | k + 1=>Lm f k + f k
theorem qA {f:Nat→Int} {m:Nat} (h:∀ i,i < m→0 ≤ f i):∀ (d i:Nat),i + d ≤ m→Lm f i ≤ Lm f (i + d):=by
 intro d
 induction d with
 | zero=>intro i _;exact Int.le_refl _
 | succ d ih=>
  intro i hi;have h1:=ih i (by omega);have h2:=h (i + d) (by omega);show _ ≤ Lm f (i + d) + f (i + d);omega
theorem Dl {f:Nat→Int} {m:Nat} (h:∀ i,i < m→0 ≤ f i) {i j:Nat} (hij:i < j) (hj:j ≤ m):Lm f i + f i ≤ Lm f j:=by
 have:=qA h (j - (i + 1)) (i + 1) (by omega);rw [show i + 1 + (j - (i + 1))=j by omega] at this;exact this
theorem oG (k:S.Ok) {mx:Nat→Int} (h0:∀ i,0 ≤ mx i) (h:∀ i j,S.e i j=true→S.st i j ≤ mx i):Xi S (Lm (fun i=>S.al i + mx i) S.m) (Lm fun i=>S.al i + mx i):=by
 have hf:∀ i,i < S.m→0 ≤ S.al i + mx i:=fun i hi=>by have:=k.a1 hi;have:=h0 i;omega
 have hs:∀ i,0 + i ≤ S.m→0 ≤ Lm (fun i=>S.al i + mx i) i:=fun i hi=>by
  have:=qA hf i 0 hi;simpa [Lm] using this
 refine ⟨fun i hi=>?_,fun i j e=>?_⟩
 ·have h1:=Dl hf (i:=i) (j:=S.m) hi (Nat.le_refl _);have h2:=hs i (by omega);have h3:=h0 i;omega
 ·have hl:=k.lt e;have hi:=Dl hf (i:=i) (j:=S.m) hl.1 (Nat.le_refl _);have hj:=Dl hf (i:=j) (j:=S.m) hl.2.1 (Nat.le_refl _);have ai:=k.a1 hl.1;have aj:=k.a1 hl.2.1;have mi:=h0 i;have mj:=h0 j;have hs':=h i j e;have pi:=hs i (by omega);have pj:=hs j (by omega);rcases Nat.lt_or_gt_of_ne hl.2.2 with q | q
  ·have g:=Dl hf q (by omega);rw [mdU (by omega) pi (by omega)];omega
  ·have g:=Dl hf q (by omega);rw [mdD (by omega) (by omega) pj];omega
end
end My
namespace My
open PySem L2
noncomputable def Eb (n:Int) (ws:List (WD × Int)):Sys where
 m:=ws.length
 e:=fun i j=>match ws[i]?,ws[j]? with
  | some p,some q=>decide (i ≠ j) && mt n p.1 q.1
  | _,_=>false
 st:=fun i j=>match ws[i]?,ws[j]? with
  | some p,some q=>p.2 + tw p.1 q.1
  | _,_=>0
 al:=fun i=>match ws[i]? with
  | some p=>Kc p
  | none=>0
theorem pq {n:Int} {ws:List (WD × Int)} {i j:Nat} (h:(Eb n ws).e i j=true):∃ p q,ws[i]? = some p∧ws[j]? = some q∧i ≠ j∧mt n p.1 q.1=true:=by
 unfold Eb at h;cases hp:ws[i]? with
 | none=>simp [hp] at h
 | some p=>
  cases hq:ws[j]? with
  | none=>simp [hp,hq] at h
  | some q=>exact ⟨p,q,rfl,rfl,by simpa [hp,hq] using h⟩
theorem rk {n:Int} {ws:List (WD × Int)} {i j:Nat} {p q:WD × Int} (hi:ws[i]? = some p) (hj:ws[j]? = some q):(Eb n ws).e i j=(decide (i ≠ j) && mt n p.1 q.1)∧(Eb n ws).st i j=p.2 + tw p.1 q.1:=by
 refine ⟨?_,?_⟩ <;> simp only [Eb,hi,hj]
noncomputable def Lv (n:Int) (ws:List (WD × Int)):Prop:=(∀ p ∈ ws,WOk n p.1∧1 ≤ p.2∧p.2 ≤ 1000)∧ws.length ≤ 6∧ws ≠ []
theorem zG (d e:WD):0 ≤ tw d e:=by unfold tw;split <;> omega
theorem fw {n:Int} {d:WD} (o:WOk n d):0 ≤ qm d + zh d:=by
 have h:=o.of;unfold qm zh;rcases d with ⟨k,_⟩
 match k with
 | 0=>simp
 | 1=>simpa using h.1
 | k + 2=>simp
theorem Lv.ok {n:Int} {ws:List (WD × Int)} (h:Lv n ws):(Eb n ws).Ok where
 lt:=fun e=>by
  obtain ⟨p,q,h1,h2,h3,_⟩:=pq e;exact ⟨(List.getElem?_eq_some_iff.mp h1).1,(List.getElem?_eq_some_iff.mp h2).1,h3⟩
 sy:=fun e=>by
  obtain ⟨p,q,h1,h2,h3,h4⟩:=pq e;obtain ⟨op,_⟩:=h.1 p (List.mem_of_getElem? h1);obtain ⟨oq,_⟩:=h.1 q (List.mem_of_getElem? h2);have hm':mt n q.1 p.1=true:=by rw [← h4];exact (jy op.st op.fi oq.st oq.fi op.ne oq.ne).symm
  rw [(rk h2 h1).1,hm'];simp [Ne.symm h3]
 s1:=fun e=>by
  obtain ⟨p,q,h1,h2,h3,h4⟩:=pq e;rw [(rk h1 h2).2];have:=(h.1 p (List.mem_of_getElem? h1)).2.1;have:=zG p.1 q.1;omega
 a1:=fun {i} hi=>by
  have hp:ws[i]? = some ws[i]:=List.getElem?_eq_getElem hi;obtain ⟨o,l,_⟩:=h.1 _ (List.mem_of_getElem? hp);have e:(Eb n ws).al i=Kc ws[i]:=by
   show (match ws[i]? with | some p=>Kc p | none=>0)=_;rw [hp]
  rw [e];have h1:=fw o;unfold Kc;omega
noncomputable def Rr (o:Od):List (List Key × V):=o.map fun p=>(Ce p.1 p.2,V.bl true)
theorem Vt (o:Od):(Rr o).length=o.length:=List.length_map ..
theorem Ro (o:Od) (i j:Nat):(Qj (Rr o) (Ce i j)).isSome=decide ((i,j) ∈ o):=by
 induction o with
 | nil=>rfl
 | cons p o ih=>
  unfold Rr at ih ⊢;rw [List.map_cons];by_cases h:p=(i,j)
  ·subst h;rw [Uk rfl];simp
  ·rw [yl fun e=>h (Prod.ext (fh e).1 (fh e).2),ih];simp [Ne.symm h]
theorem au {o:Od} {i j:Nat} (h:(i,j) ∉ o):Uo (Rr o) (Ce i j) (V.bl true)=Rr (o ++ [(i,j)]):=by
 rw [Pp]
 ·unfold Rr;rw [List.map_append];rfl
 ·intro x hx e;obtain ⟨p,hp,rfl⟩:=List.mem_map.mp hx;obtain ⟨e1,e2⟩:=fh e;subst e1 e2;exact h hp
theorem Ly (P:Program) (w:World) {o:Od} (nd:o.Nodup) (h:∀ p ∈ o,p.1 < 6∧p.2 < 6):((Rr o).map fun p=>XG P w p.1).Nodup:=by
 unfold Rr;rw [List.map_map];show (o.map hsh).Nodup
 induction o with
 | nil=>exact List.nodup_nil
 | cons p o ih=>
  rw [List.nodup_cons] at nd;rw [List.map_cons,List.nodup_cons];refine ⟨fun hm=>?_,ih nd.2 fun q hq=>h q (List.mem_cons_of_mem _ hq)⟩;obtain ⟨q,hq,e⟩:=List.mem_map.mp hm;have h1:=h p (List.mem_cons_self ..);have h2:=h q (List.mem_cons_of_mem _ hq);have:=YG wJ q (sB h2.1 h2.2) p (sB h1.1 h1.2) e;exact nd.1 (this ▸ hq)
theorem Kw {k:List Key} {v:V}:∀ {kvs:List (List Key × V)},Qj kvs k=some v→(k,v) ∈ kvs
 | [],h=>nomatch h
 | p :: r,h=>by
  by_cases e:p.1=k
  ·rw [Uk e] at h;cases h;rw [← e];exact List.mem_cons_self ..
  ·rw [yl e] at h;exact List.mem_cons_of_mem _ (Kw h)
theorem Yv {n:Int} {ws:List (WD × Int)} (i j:Nat):Qj (cf n ws ws.length) (Ce i j)=if (Eb n ws).e i j then some (V.int ((Eb n ws).st i j)) else none:=by
 have key:∀ v,Qj (cf n ws ws.length) (Ce i j)=some v→(Eb n ws).e i j=true∧v=V.int ((Eb n ws).st i j):=fun v h=>by
  obtain ⟨k,_,hx⟩:=Xs (Kw h);obtain ⟨j',p,q,_,h1,h2,h3,h4,e⟩:=Jo hx;obtain ⟨rfl,rfl⟩:=fh (congrArg Prod.fst e);have e2:v=V.int (p.2 + tw p.1 q.1):=congrArg Prod.snd e;rw [(rk h1 h2).1,(rk h1 h2).2,h4,e2];simp [h3]
 cases he:(Eb n ws).e i j with
 | true=>
  obtain ⟨p,q,h1,h2,h3,h4⟩:=pq he;have hm:=uE h1 h2 h3 h4;cases hv:Qj (cf n ws ws.length) (Ce i j) with
  | none=>exact absurd (List.mem_map_of_mem (f:=(·.1)) hm) (kE hv)
  | some v=>rw [(key v hv).2];rfl
 | false=>
  cases hv:Qj (cf n ws ws.length) (Ce i j) with
  | none=>rfl
  | some v=>rw [(key v hv).1] at he;cases he
theorem Mw {n:Int} {ws:List (WD × Int)} {i j:Nat} (h:(Eb n ws).e i j=true):Qj (cf n ws ws.length) (Ce i j)=some (V.int ((Eb n ws).st i j)):=by rw [Yv,h];rfl
theorem nv {n:Int} {ws:List (WD × Int)} (i j:Nat):(Qj (cf n ws ws.length) (Ce i j)).isSome=(Eb n ws).e i j:=by
 rw [Yv];cases (Eb n ws).e i j <;> rfl
noncomputable def Ij (P:Program) (w:World) (H:Hp) (a:Addr) (o:Od):Prop:=vk P w H a (Rr o)
section
variable (P:Program) (w:World)
noncomputable def fC:Sp:=fun vs H Q _=>∃ a i j o,vs=[.ref a,.int (i:Nat),.int (j:Nat)]∧Ij P w H a o∧NoT H∧Q (.bl (inO o i j)) H
noncomputable def QE (S:Sys):Sp:=fun vs H Q _=>∃ a i j o,vs=[.ref a,.int (i:Nat),.int (j:Nat)]∧Ij P w H a o∧Uy S o∧S.Ok∧S.m ≤ 6∧(i,j) ∉ o∧NoT H ∧
 ∀ r H',Mb H H'→NoT H'→Ij P w H' r (o ++ [(i,j)])→Q (.ref r) H'
noncomputable def uB (t:Adr):Sp:=fun vs H Q _=>∃ wp z a i j o n ws,vs=[.ref wp,.int z,.ref a,.int (i:Nat),.int (j:Nat)]∧Uc P w t H wp n ws∧Ij P w H a o∧(Eb n ws).e i j=true∧NoT H∧Q (.int (wtO (Eb n ws) z o i j)) H
noncomputable def VE (t:Adr):Sp:=fun vs H Q _=>∃ wp n ws,vs=[.ref wp]∧Uc P w t H wp n ws∧Lv n ws∧NoT H ∧
 ∀ r H',Mb H H'→NoT H'→Ij P w H' r (Qs (Eb n ws))→Q (.ref r) H'
end
theorem Uc.same {P:Program} {w:World} {t:Adr} {H H':Hp} {p:Addr} {n:Int} {ws:List (WD × Int)} (h:Uc P w t H p n ws) (s:Mb H H'):Uc P w t H' p n ws:=by
 obtain ⟨dx,al,sd,e1,e2,e3⟩:=h;exact ⟨dx,al,sd,s _ _ e1,s _ _ e2,Ib e3 s⟩
section
variable {P:Program} {w:World} {K:PySem.W.Frag} {mg:Str→Option Value} {base:Heap} {t:Adr}
theorem Ah (T:Txt w K mg t) {H:Hp} {p dx al sd:Addr} {m:Int} (e:H p=some (.ins t.Gb dx (zk m al sd))):Mj K H p (Str.ofString "many") (.int m):=⟨_,dx,_,e,T.gh,T.ek,Qd xn 0 (jm ..) (by decide +kernel) rfl⟩
theorem FF (T:Txt w K mg t):Kb P w K mg base CX0 1 t.zd t.vd q9 (fC P w):=by
 have key:Kb P w K mg base CX0 1 t.zd t.vd q9 (fun vs H Q _=>∃ a i j o,vs=[.ref a,.int (i:Nat),.int (j:Nat)]∧Ij P w H a o∧∀ H',Mb H H'→Q (.bl (inO o i j)) H'):=by
  refine T.Pe.ok Km (fun vs H Q E h=>?_) (fun _ _ _ s H vs Q E hr h=>?_)
  ·obtain ⟨a,i,j,o,rfl,_⟩:=h;rfl
  obtain ⟨a,i,j,o,rfl,D,q⟩:=h;have hu:=Ck hr;refine ⟨_,(ib (Fb (FE (zF (Yp hu (Lc (ab (pv 1) (ab (pv 2) gb))) (pv 0))) (Dq (zF (Yp hu (Lc (ab (pv 2) (ab (pv 1) gb))) (pv 0))))))),?_⟩;walk_at "RD";refine ⟨by decide,fun p hp=>⟨_,Ib D (fb hp),Ce i j,db,?_⟩⟩;rw [Ro];by_cases h:(i,j) ∈ o
  ·rw [if_pos (decide_eq_true h)];have:=q _ (fb (o:=.tup [V.int (i:Int),V.int (j:Int)]) hp);rw [show inO o i j=true by unfold inO;rw [decide_eq_true h];rfl] at this;exact this
  ·rw [if_neg (by rw [decide_eq_false h];exact Bool.false_ne_true)];refine ⟨by decide,fun p2 hp2=>⟨_,Ib (Ib D (fb hp)) (fb hp2),Ce j i,db,?_⟩⟩;rw [Ro];have:=q _ ((fb (o:=.tup [V.int (i:Int),V.int (j:Int)]) hp).trans (fb (o:=.tup [V.int (j:Int),V.int (i:Int)]) hp2));rw [show inO o i j=decide ((j,i) ∈ o) by unfold inO;rw [decide_eq_false h];rfl] at this;exact this
 exact key.forget fun vs H Q E h=>by
  obtain ⟨a,i,j,o,e,D,nt,q⟩:=h;exact ⟨nt,a,i,j,o,e,D,fun H' sm=>⟨sm,q⟩⟩
theorem oF (T:Txt w K mg t):Kb P w K mg base CX0 1 t.ld t.md q14 (uB P w t):=by
 have key:Kb P w K mg base CX0 1 t.ld t.md q14 (fun vs H Q _=>∃ wp z a i j o n ws,vs=[.ref wp,.int z,.ref a,.int (i:Nat),.int (j:Nat)]∧Uc P w t H wp n ws∧Ij P w H a o∧(Eb n ws).e i j=true∧∀ H',Mb H H'→Q (.int (wtO (Eb n ws) z o i j)) H'):=by
  refine T.Ve.ok bi (fun vs H Q E h=>?_) (fun _ _ _ s H vs Q E hr h=>?_)
  ·obtain ⟨wp,z,a,i,j,o,n,ws,rfl,_⟩:=h;rfl
  obtain ⟨wp,z,a,i,j,o,n,ws,rfl,⟨dx,al,sd,e1,e2,D⟩,O,he,q⟩:=h;have hu:=Ck hr;refine ⟨_,(cb (wb (i:=5) bi.nd (Vz hu (Pb (pv 0) rfl) (Lc (ab (pv 3) (ab (pv 4) gb))) (fun _ _=>rfl)))
   (ib (Fb (Yq (qt (Yp hu (Lc (ab (pv 4) (ab (pv 3) gb))) (pv 2))) (Jb qk (pv 5) (pv 1)) (pv 5))))),?_⟩
  walk_at "RD";refine ⟨_,ce T e1,by decide,fun p hp=>⟨sd,rfl,_,Ib D (fb hp),Ce i j,db,_,Mw he,by decide,fun p2 hp2=>⟨_,Ib (Ib O (fb hp)) (fb hp2),Ce j i,db,?_⟩⟩⟩;rw [Ro];have:=q _ ((fb (o:=.tup [V.int (i:Int),V.int (j:Int)]) hp).trans (fb (o:=.tup [V.int (j:Int),V.int (i:Int)]) hp2));unfold wtO at this;by_cases h:(j,i) ∈ o
  ·rw [if_pos (decide_eq_true h)];rw [if_pos h] at this;exact ⟨_,rfl,this⟩
  ·rw [if_neg (by rw [decide_eq_false h];exact Bool.false_ne_true)];rw [if_neg h] at this;exact this
 exact key.forget fun vs H Q E h=>by
  obtain ⟨wp,z,a,i,j,o,n,ws,e,W,O,he,nt,q⟩:=h;exact ⟨nt,wp,z,a,i,j,o,n,ws,e,W,O,he,fun H' sm=>⟨sm,q⟩⟩
theorem FI (T:Txt w K mg t) (S:Sys):Kb P w K mg base CX0 1 t.zg t.Kg q9 (QE P w S):=by
 refine T.Pg.ok ml (fun vs H Q E h=>?_) (fun _ _ _ s H vs Q E hr h=>?_)
 ·obtain ⟨a,i,j,o,rfl,_⟩:=h;rfl
 obtain ⟨a,i,j,o,rfl,O,ok,k,hm,hn,nt,q⟩:=h;have hu:=Ck hr;refine ⟨_,(cb (wb (i:=3) ml.nd (Ef Ky rfl T.tI wv (ab (pv 0) gb)))
   (cb (Eu hu (pv 3) (Lc (ab (pv 1) (ab (pv 2) gb))) Fp rfl)
   (ib (Fb (pv 3))))),?_⟩
 walk_at "RD";refine ⟨_,O,Ly P w ok.nd (fun p hp=>by have:=k.lt (ok.e p hp);omega),fun p ob hp D1=>⟨by decide,fun p2 hp2=>⟨_,Ib D1 (fb hp2),Ce i j,db,?_,fun o2 D2=>?_⟩⟩⟩
 ·rw [Vt];exact Nat.lt_of_le_of_lt (ok.len k hm) (by decide)
 ·rw [au hn] at D2;exact q _ _ (fun b u e=>by rw [ub (Db e hp)];exact fb hp2 _ _ (fb hp _ _ e)) ((nt.upd).upd).upd D2
theorem bJ (T:Txt w K mg t):Kb P w K mg base CX0 1 t.ye t.Ae ["wanted"] (VE P w t):=by
 refine T.Jf.ok qf (fun vs H Q E h=>?_) (fun _ _ _ s H vs Q E hr h=>?_)
 ·obtain ⟨wp,n,ws,rfl,_⟩:=h;rfl
 obtain ⟨wp,n,ws,rfl,W,ok,nt,q⟩:=h;obtain ⟨dx,al,sd,e1,e2,D⟩:=id W;have hu:=Ck hr;refine ⟨_,(cb (wb (i:=1) qf.nd oA)
   (cb (Af PassesOwn.never rfl (Cs rfl T.Hf (ab lb (ab (Pb (pv 0) rfl) gb))) (xb (i:=2) qf.nd) (ib (Ee (qt (Yp hu (Lc (ab lb (ab (pv 2) gb))) (Pb (pv 0) rfl))) (ib (Eu hu (pv 1) (Lc (ab lb (ab (pv 2) gb))) Fp rfl)) Yb)))
   (ib (Fb (pv 1))))),?_⟩
 walk_at "RD";intro p ob hp D0;have hl:=ok.2.1;have sA:Mb H (upd H p (.ext (AtO p ob))):=fb hp;refine ⟨_,Ah T (sA _ _ e1),_,rfl,by decide,by decide,by omega,by omega,?_⟩;rw [show ((ws.length:Int) - 1).toNat=ws.length - 1 by omega];refine Vj.range (fun i σ H'=>Mb H H'∧NoT H'∧Ij P w H' p (Dx (Eb n ws) i)∧∃ x,σ=[some (.ref wp),some (.ref p),x]) ⟨sA,nt.upd,D0,_,rfl⟩ ?_ ?_
 ·rintro i σ H1 hi zzq;refine zP fun zM zzh=>?_
  obtain ⟨s1,n1,O1,x,rfl⟩:=zzq;subst zzh;simp only [Nh,List.set_cons_succ,List.set_cons_zero];rw [show (1:Int) + (i:Nat)=((i + 1:Nat):Int) by omega];refine Yk (fun b H2=>b=(Eb n ws).e 0 (i + 1)∧Mb H1 H2∧NoT H2) (fun Q hQ=>?_) (fun H2 r2=>?_) (fun H2 r2=>?_)
  ·walk_at "RD";refine ⟨by decide,fun p2 hp2=>⟨_,ce T (fb hp2 _ _ (s1 _ _ e1)),sd,rfl,_,Ib (Ib D s1) (fb hp2),Ce 0 (i + 1),db,?_⟩⟩;rw [nv];exact hQ _ _ ⟨rfl,fb hp2,n1.upd⟩
  ·obtain ⟨r1,r2,r3⟩:=r2;walk_at "RD";refine ⟨by decide,fun p2 hp2=>⟨_,Ib (Ib O1 r2) (fb hp2),Ce 0 (i + 1),db,?_,fun o2 D2=>⟨?_,(r3.upd).upd,?_⟩⟩⟩
   ·rw [Vt];have:=iE (S:=Eb n ws) i;exact Nat.lt_of_le_of_lt (show _ ≤ 6 by omega) (by decide)
   ·exact fun b u e=>by rw [ub (Db e hp)];exact fb hp2 _ _ (r2 _ _ (s1 _ _ e))
   ·rw [au (fun hm=>by have:=(Ej hm).2.2.1;simp only at this;omega)] at D2;refine ⟨?_,_,rfl⟩;show Ij P w _ p (Dx (Eb n ws) i ++ _);rw [← r1,if_pos rfl];exact D2
  ·obtain ⟨r1,r2,r3⟩:=r2;simp only [Jc];refine ⟨s1.trans r2,r3,?_,_,rfl⟩;show Ij P w H2 p (Dx (Eb n ws) i ++ _);rw [← r1];rw [if_neg Bool.false_ne_true,List.append_nil];exact Ib O1 r2
 ·rintro σ H1 zzq;refine zP fun zM zzh=>?_
  obtain ⟨s1,n1,O1,x,rfl⟩:=zzq;subst zzh;walk_at "RD";exact q _ _ s1 n1 O1
end
end My
namespace My
open PySem L2
noncomputable def bf (r:List Nat):List V:=r.map fun k:Nat=>V.int (k:Int)
theorem Ld (r:List Nat):(bf r).length=r.length:=List.length_map ..
theorem Ix (r:List Nat):bf r=List.map V.int (r.map fun k:Nat=>(k:Int)):=by unfold bf;rw [List.map_map];rfl
theorem TC (r:List Nat):(r.map fun k:Nat=>(k:Int)).Nodup↔r.Nodup:=by
 induction r with
 | nil=>simp
 | cons x r ih=>
  rw [List.map_cons,List.nodup_cons,List.nodup_cons,ih];refine and_congr_left fun _=>not_congr ⟨fun h=>?_,fun h=>List.mem_map.mpr ⟨x,h,rfl⟩⟩
  obtain ⟨y,hy,e⟩:=List.mem_map.mp h;rw [← Int.ofNat.inj e];exact hy
theorem Rv {r:List Nat} {i:Nat} {v:V} (h:(bf r)[i]? = some v):∃ k,r[i]? = some k∧v=V.int (k:Int):=by
 unfold bf at h;rw [List.getElem?_map] at h;cases hr:r[i]? with
 | none=>rw [hr] at h;cases h
 | some k=>rw [hr] at h;exact ⟨k,rfl,(Option.some.inj h).symm⟩
noncomputable def CB (r:List Nat) (i:Nat):Nat:=(r[(i + 1) % r.length]?).getD 0
noncomputable def Yy (r:List Nat) (i:Nat):List Nat:=(r ++ r.take 1).take (i + 1)
theorem BA {r:List Nat} (h:r ≠ []):Yy r 0=[r.headD 0]:=by
 cases r with
 | nil=>exact absurd rfl h
 | cons x r=>rfl
theorem Uw {r:List Nat} (h:r ≠ []):Yy r r.length=r ++ r.take 1:=by
 unfold Yy;rw [List.take_of_length_le];cases r with
 | nil=>exact absurd rfl h
 | cons x r=>simp
theorem iJ {r:List Nat} {i:Nat} (hi:i < r.length):(r ++ r.take 1)[i + 1]? = some (CB r i):=by
 unfold CB;by_cases h:i + 1 < r.length
 ·rw [List.getElem?_append_left h,Nat.mod_eq_of_lt h,List.getElem?_eq_getElem h];rfl
 ·have e:i + 1=r.length:=by omega
  rw [List.getElem?_append_right (by omega),e,Nat.mod_self,Nat.sub_self];cases r with
  | nil=>simp at hi
  | cons x r=>rfl
theorem GE {l:List Nat} {i a b:Nat} (h1:l[i]? = some a) (h2:l[i + 1]? = some b):l.take (i + 2)=l.take i ++ a :: [b]∧l.take (i + 1)=l.take i ++ [a]:=by
 have e1:l.take (i + 1)=l.take i ++ [a]:=by rw [List.take_add_one,h1];rfl
 refine ⟨?_,e1⟩;rw [show i + 2=(i + 1) + 1 from rfl,List.take_add_one,h2,e1];simp
theorem bA {r:List Nat} {i k:Nat} (h:r[i]? = some k):∃ a,Yy r i=a ++ [k]∧Yy r (i + 1)=a ++ k :: [CB r i]:=by
 have hi:=(List.getElem?_eq_some_iff.mp h).1;have h1:(r ++ r.take 1)[i]? = some k:=by rw [List.getElem?_append_left hi];exact h
 obtain ⟨e1,e2⟩:=GE h1 (iJ hi);exact ⟨_,e2,e1⟩
theorem NA (o:Od):∀ (a:List Nat) (x:Nat) (r:List Nat),rq o (a ++ x :: r)=(rq o (a ++ [x]) && rq o (x :: r)):=by
 intro a
 induction a with
 | nil=>intro x r;simp [rq]
 | cons u a ih=>
  intro x r;cases a with
  | nil=>simp [rq]
  | cons v a=>
   have:=ih x r;simp only [List.cons_append,rq] at this ⊢;rw [this,Bool.and_assoc]
theorem XC (o:Od) {r:List Nat} {i:Nat} (hi:i ≤ r.length) (h:rq o (Yy r i)=false):rq o (r ++ r.take 1)=false:=by
 unfold Yy at h;cases hx:(r ++ r.take 1)[i]? with
 | none=>
  rw [List.take_of_length_le (by have:=List.getElem?_eq_none_iff.mp hx;omega)] at h;exact h
 | some x=>
  have hl:=(List.getElem?_eq_some_iff.mp hx).1;rw [List.take_add_one,hx] at h;have e:r ++ r.take 1=(r ++ r.take 1).take i ++ x :: (r ++ r.take 1).drop (i + 1):=by
   conv=>lhs;rw [← List.take_append_drop i (r ++ r.take 1)]
   rw [List.drop_eq_getElem_cons hl];rw [(List.getElem?_eq_some_iff.mp hx).2]
  rw [e,NA];have h':rq o ((r ++ r.take 1).take i ++ [x])=false:=h;rw [h',Bool.false_and]
section
variable (P:Program) (w:World)
noncomputable def EI (t:Adr):Sp:=fun vs H Q _=>∃ wp z a rp o r n ws,vs=[.ref wp,.int z,.ref a,.ref rp]∧Uc P w t H wp n ws∧Ij P w H a o∧H rp=some (.tup (bf r))∧r.length ≤ 12∧Uy (Eb n ws) o∧Lv n ws∧NoT H∧Q (.bl (Mi (Eb n ws) z o r)) H
end
section
variable {P:Program} {w:World} {K:PySem.W.Frag} {mg:Str→Option Value} {base:Heap} {t:Adr}
theorem DK (T:Txt w K mg t):Kb P w K mg base CX0 2 t.Ff t.Gf q19 (EI P w t):=by
 have key:Kb P w K mg base CX0 2 t.Ff t.Gf q19 (fun vs H Q _=>∃ wp z a rp o r n ws,vs=[.ref wp,.int z,.ref a,.ref rp]∧Uc P w t H wp n ws∧Ij P w H a o∧H rp=some (.tup (bf r))∧r.length ≤ 12∧Uy (Eb n ws) o∧Lv n ws∧NoT H∧∀ H',Mb H H'→Q (.bl (Mi (Eb n ws) z o r)) H'):=by
  have g18:Kb P w K mg base CX0 1 t.zd t.vd q9 (fC P w):=FF T;have g19:Kb P w K mg base CX0 1 t.ld t.md q14 (uB P w t):=oF T;refine T.Ri.ok me (fun vs H Q E h=>?_) (fun _ _ _ s H vs Q E hr h=>?_)
  ·obtain ⟨wp,z,a,rp,o,r,n,ws,rfl,_⟩:=h;rfl
  obtain ⟨wp,z,a,rp,o,r,n,ws,rfl,W,O,hrp,hlen,ok,wk,nt,q⟩:=h;refine ⟨_,(cb (Ee (PW.pt (ND (Vb Iy (Ed Vc rfl T.uo yd (ab (pv 3) gb)) lb (Zb _)) (Ow (Vb Iy (Ed nB rfl T.uo yd (ab (Ef (Rz rfl) rfl T.aK yx (ab (pv 3) gb)) gb)) (Ed Vc rfl T.uo yd (ab (pv 3) gb)) (Zb _))))) (ib (Fb Fp)) Yb)
   (cb (wb (i:=4) me.nd lb)
   (cb (Af PassesOwn.never rfl (bE rfl T.mf (ab (pv 3) gb)) (Ue (K:=K) (n:=2) rfl rfl (Ob (xb (i:=5) me.nd) (Ob (xb (i:=6) me.nd) Me))) (cb (wb (i:=7) me.nd (gc Je (pv 3) (Jb gf (Jb Bd (pv 5) lb) (Ed Vc rfl T.uo yd (ab (pv 3) gb)))))
   (cb (Ee (Aq (Bm (qb g18 hr T.Ci T.Pe.kp T.Vi (ab (pv 2) (ab (pv 6) (ab (pv 7) gb)))))) (ib (Fb Fp)) Yb)
   (ib (NE (i:=4) me.nd rfl (Or.inl rfl) (qb g19 hr T.fj T.Ve.kp T.Wi (ab (pv 0) (ab (pv 1) (ab (pv 2) (ab (pv 6) (ab (pv 7) gb)))))) RF)))))
   (ib (Fb (Be Ry (pv 4) lb (Zb _))))))),?_⟩
  have hlen2:(bf r).length ≤ 1000:=by rw [Ld];omega
  simp only [Cb];refine Yk (fun b H'=>Mb H H'∧NoT H'∧b = !(decide (2 ≤ r.length) && decide r.Nodup)) (fun Q hQ=>?_) (fun H1 zz=>?_) (fun H1 zz=>?_)
  ·walk_at "RD";refine ⟨_,.inr (SqT.of hrp),?_⟩;rw [Ld];by_cases h2:2 ≤ r.length
   ·rw [if_neg (by rw [decide_eq_true_eq];omega)];refine ⟨_,(Ix r) ▸ hrp,by rw [List.length_map];omega,fun p S k hk hk2 hp=>⟨S,k,db,hk2,_,.inr ((SqT.of hrp).same (fb hp)),hQ _ _ ⟨fb hp,nt.upd,?_⟩⟩⟩;rw [List.length_map,TC] at hk;rw [Ld,decide_eq_true h2,Bool.true_and];by_cases hd:r.Nodup
    ·rw [decide_eq_true hd];exact decide_eq_false fun g=>hk.mp (by omega) hd
    ·rw [decide_eq_false hd];have:=hk.mpr hd;exact decide_eq_true (by omega)
   ·rw [if_pos (by rw [decide_eq_true_eq];omega)];refine hQ _ _ ⟨Mb.refl _,nt,?_⟩;rw [decide_eq_false h2];rfl
  ·obtain ⟨s1,n1,zb⟩:=zz;walk_at "RD";have hc:(decide (2 ≤ r.length) && decide r.Nodup)=false:=by rw [← Bool.not_not (decide (2 ≤ r.length) && decide r.Nodup),← zb];rfl
   have:=q H1 s1;rw [show Mi (Eb n ws) z o r=false by unfold Mi;rw [hc];rfl] at this;exact this
  obtain ⟨s1,n1,zb⟩:=zz;have hc:(decide (2 ≤ r.length) && decide r.Nodup)=true:=by rw [← Bool.not_not (decide (2 ≤ r.length) && decide r.Nodup),← zb];rfl
  rw [Bool.and_eq_true,decide_eq_true_eq,decide_eq_true_eq] at hc;have hne:r ≠ []:=fun g=>by rw [g] at hc;exact absurd hc.1 (by decide)
  simp only [Jc,Cb];(walk_at "RD"; repeat (dsimp only [pF];walk_at "RD"));have rp1:=s1 _ _ hrp;refine ⟨⟨_,SqT.of rp1⟩,?_⟩;refine Vj.of (n:=r.length) (fun i σ H'=>Mb H1 H'∧NoT H'∧rq o (Yy r i)=true∧∃ x y u,σ=[some (.ref wp),some (.int z),some (.ref a),some (.ref rp),some (.int (pwO (Eb n ws) z o (Yy r i))),x,y,u]) ?_ ?_ ?_ ?_ ?_
  ·rw [BA hne];exact ⟨Mb.refl _,n1,rfl,_,_,_,rfl⟩
  ·rintro i σ H2 hi ⟨s2,_⟩;exact ⟨_,_,SqT.of (s2 _ _ rp1),List.getElem?_eq_getElem (by rw [Ld];exact hi)⟩
  ·rintro σ H2 ⟨s2,_⟩;exact ⟨_,SqT.of (s2 _ _ rp1),Ld r⟩
  ·rintro i σ H2 v H3 hi ⟨s2,n2,al,x,y,u,rfl⟩ ⟨p,y',hp,rfl,hy,rfl⟩;have hy':=hy _ (SqT.of (s2 _ _ rp1));obtain ⟨k,hk,rfl⟩:=Rv hy';obtain ⟨pr,ep1,ep2⟩:=bA hk;have s3:=s2.trans (fb (o:=.tup [.int i,.int (k:Int)]) hp);have n3:NoT (upd H2 p (.tup [.int i,.int (k:Int)])):=n2.upd;refine yg ?_;simp only [Cb,List.set_cons_succ,List.set_cons_zero];generalize upd H2 p (.tup [.int i,.int (k:Int)])=H4 at s3 n3 ⊢;have rp4:=s3 _ _ rp1;have W4:=W.same (s1.trans s3);have O4:Ij P w H4 a o:=Ib O (s1.trans s3);have hm:(i + 1) % r.length < r.length:=Nat.mod_lt _ (by omega);walk_at "RD";refine ⟨_,.inr (SqT.of rp4),by rw [Ld];omega,_,SqT.of rp4,V.int (CB r i:Nat),?_,?_⟩
   ·rw [Ld,show ((i:Int) + 1) % (r.length:Int)=(((i + 1) % r.length:Nat):Int) by rw [Int.natCast_emod];rfl];refine Ub ?_;unfold bf CB;rw [List.getElem?_map,List.getElem?_eq_getElem hm];rfl
   have eA:rq o (Yy r (i + 1))=inO o k (CB r i):=by rw [ep2,NA,← ep1,al];simp [rq]
   have eP:pwO (Eb n ws) z o (Yy r (i + 1))=pwO (Eb n ws) z o (Yy r i) + wtO (Eb n ws) z o k (CB r i):=by rw [ep2,ei,← ep1];simp [pwO]
   refine Qb (!inO o k (CB r i)) (fun Q hQ=>?_) (fun hb=>?_) (fun hb=>?_)
   ·walk_at "RD";exact ⟨a,k,CB r i,o,rfl,O4,n3,_,rfl,hQ⟩
   ·walk_at "RD";have:=q H4 (s1.trans s3);rw [show Mi (Eb n ws) z o r=false by unfold Mi;rw [XC o (i:=i + 1) (by omega) (by rw [eA];simpa using hb),Bool.and_false,Bool.false_and]] at this;exact this
   ·have hb':inO o k (CB r i)=true:=by simpa using hb
    simp only [Jc];walk_at "RD";refine ⟨wp,z,a,k,CB r i,o,n,ws,rfl,W4,O4,ok.in_e wk.ok hb',n3,?_⟩;exact ⟨_,_,rfl,rfl,s3,n3,by rw [eA];exact hb',by rw [eP],_,rfl⟩
  ·rintro σ H2 zzq;refine zP fun zM zzh=>?_
   obtain ⟨s2,n2,al,x,y,u,rfl⟩:=zzq;subst zzh;rw [Uw hne] at al;walk_at "RD";have:=q H2 (s1.trans s2);rw [show Mi (Eb n ws) z o r=decide (0 < pwO (Eb n ws) z o (r ++ r.take 1)) by unfold Mi;rw [decide_eq_true hc.1,decide_eq_true hc.2,al];rfl] at this;rw [Uw hne];exact this
 exact key.forget fun vs H Q E h=>by
  obtain ⟨wp,z,a,rp,o,r,n,ws,e,W,O,hrp,hlen,ok,wk,nt,q⟩:=h;exact ⟨nt,wp,z,a,rp,o,r,n,ws,e,W,O,hrp,hlen,ok,wk,nt,fun H' sm=>⟨sm,q⟩⟩
end
end My
namespace My
open PySem L2
noncomputable def Pc (H:Hp) (qs:List Addr) (ps:List (List Nat)):Prop:=qs.length=ps.length∧∀ (i:Nat) (q:Addr) (p:List Nat),qs[i]? = some q→ps[i]? = some p→H q=some (.tup (bf p))
noncomputable def Ou (H:Hp) (l:Addr) (ps:List (List Nat)):Prop:=∃ qs:List Addr,H l=some (.lst (qs.map V.ref))∧Pc H qs ps
theorem Pc.same {H H':Hp} {qs:List Addr} {ps:List (List Nat)} (h:Pc H qs ps) (s:Mb H H'):Pc H' qs ps:=⟨h.1,fun i q p h1 h2=>s _ _ (h.2 i q p h1 h2)⟩
theorem Pc.nil (H:Hp):Pc H [] []:=⟨rfl,fun i q p h=>by simp at h⟩
theorem Pc.app {H:Hp} {qs rs:List Addr} {ps us:List (List Nat)} (h:Pc H qs ps) (g:Pc H rs us):Pc H (qs ++ rs) (ps ++ us):=by
 refine ⟨by rw [List.length_append,List.length_append,h.1,g.1],fun i q p h1 h2=>?_⟩;by_cases hi:i < qs.length
 ·rw [List.getElem?_append_left hi] at h1;rw [List.getElem?_append_left (by rw [← h.1];exact hi)] at h2;exact h.2 i q p h1 h2
 ·rw [List.getElem?_append_right (by omega)] at h1;rw [List.getElem?_append_right (by rw [← h.1];omega),← h.1] at h2;exact g.2 _ q p h1 h2
theorem Pc.one {H:Hp} {q:Addr} {p:List Nat} (h:H q=some (.tup (bf p))):Pc H [q] [p]:=by
 refine ⟨rfl,fun i q' p' h1 h2=>?_⟩;cases i with
 | zero=>cases h1;cases h2;exact h
 | succ i=>simp at h1
theorem Pc.put {H:Hp} {qs:List Addr} {ps:List (List Nat)} {f:Addr} {xs:List V} {o:HO} (h:Pc H qs ps) (hf:H f=some (.lst xs)):Pc (upd H f o) qs ps:=
 ⟨h.1,fun i q p h1 h2=>by
  have e:=h.2 i q p h1 h2;rw [ub (fun z=>by rw [z,hf] at e;cases e)];exact e⟩
theorem Ou.same {H H':Hp} {l:Addr} {ps:List (List Nat)} (h:Ou H l ps) (s:Mb H H'):Ou H' l ps:=by
 obtain ⟨qs,e,t⟩:=h;exact ⟨qs,s _ _ e,t.same s⟩
noncomputable def rm (S:Sys) (p:List Nat) (i:Nat):List Nat:=((List.range i).map fun k=>p.headD 0 + 1 + k).filter fun v=>S.e (Lj p) v
theorem Qp (S:Sys) (p:List Nat) (i:Nat):rm S p (i + 1)=rm S p i ++ (if S.e (Lj p) (p.headD 0 + 1 + i) then [p.headD 0 + 1 + i] else []):=by
 unfold rm;rw [List.range_succ,List.map_append,List.filter_append,List.map_cons,List.map_nil,List.filter_cons,List.filter_nil]
theorem xt (S:Sys) (p:List Nat) (i:Nat):(rm S p i).length ≤ i:=by
 unfold rm;refine Nat.le_trans (List.length_filter_le ..) ?_;rw [List.length_map,List.length_range];exact Nat.le_refl _
theorem gq {p:List Nat} (h:p ≠ []):atI (bf p) (-1)=some (.int (Lj p:Nat)):=by
 have h0:0 < p.length:=List.length_pos_iff.mpr h;obtain ⟨a,u,rfl⟩:∃ a u,p=a ++ [u]:=by
  rcases List.eq_nil_or_concat p with q | ⟨a,u,q⟩
  ·exact absurd q h
  ·exact ⟨a,u,by rw [q,List.concat_eq_append]⟩
 rw [mq];unfold atI ixN;rw [Ld,if_neg (by decide),if_pos (by omega)];rw [List.length_append] at h0 ⊢;rw [show ((-1:Int) + ((a.length + [u].length:Nat):Int)).toNat=a.length by simp;omega];unfold bf;rw [Option.bind_some,List.getElem?_map,List.getElem?_append_right (Nat.le_refl _),Nat.sub_self];rfl
theorem Tz (b:Nat) (l:List Nat):inV (.int (b:Int)) (bf l)=decide (b ∈ l):=by
 unfold inV bf;rw [List.any_map,Bool.eq_iff_iff];simp only [List.any_eq_true,Function.comp,eqV,beq_iff_eq,decide_eq_true_eq];constructor
 ·rintro ⟨y,hy,e⟩;rw [← Int.ofNat.inj e];exact hy
 ·intro h;exact ⟨b,h,rfl⟩
theorem zB {S:Sys} {ps:List (List Nat)} {i:Nat} {p:List Nat} (h:ps[i]? = some p):(ps.take (i + 1)).flatMap (gy S)=(ps.take i).flatMap (gy S) ++ gy S p:=by
 rw [List.take_add_one,h,List.flatMap_append];simp
section
variable (P:Program) (w:World)
noncomputable def GF (t:Adr):Sp:=fun vs H Q _=>∃ wp pl n ws ps,vs=[.ref wp,.ref pl]∧Uc P w t H wp n ws∧Ou H pl ps∧(∀ p ∈ ps,p ≠ []∧p.length ≤ 6∧∀ x ∈ p,x < ws.length)∧ps.length ≤ 280000∧Lv n ws∧NoT H ∧
 ∀ r H',Mb H H'→NoT H'→H r=none→Ou H' r (ps.flatMap (gy (Eb n ws)))→Q (.ref r) H'
end
section
variable {P:Program} {w:World} {K:PySem.W.Frag} {mg:Str→Option Value} {base:Heap} {t:Adr}
theorem dJ (T:Txt w K mg t):Kb P w K mg base CX0 1 t.Xc t.Tc q26 (GF P w t):=by
 refine T.Vd.ok Ic (fun vs H Q E h=>?_) (fun _ _ _ s H vs Q E hr h=>?_)
 ·obtain ⟨wp,pl,n,ws,ps,rfl,_⟩:=h;rfl
 obtain ⟨wp,pl,n,ws,ps,rfl,W,L,hps,hpl,wk,nt,q⟩:=h;obtain ⟨dx,al,sd,e1,e2,D⟩:=id W;obtain ⟨qs,l1,l2,l3⟩:=id L;have hu:=Ck hr;have hws:=wk.2.1;refine ⟨_,(cb (wb (i:=2) Ic.nd (yh gb))
   (cb (Af PassesOwn.never rfl (Ph (pv 1)) (Du (i:=3) Ic.nd rfl (Or.inr rfl)) (cb (sh (i:=4) Ic.nd rfl (Or.inl rfl) rfl (Cs rfl T.Hf (ab (Jb Bd (gc Je (pv 3) lb) lb) (ab (Pb (pv 0) rfl) gb))) (Hc (sc:=jb Oc) rfl (by decide +kernel)) (N:=["want","path","wanted"]) (sel:=[none,some 3,some 0]) (Cd (M:=q38) (by decide +kernel)) (Blk.of (fun _ _ _ _=>(xb (i:=0) (xi (N:=["want","path","wanted"]) (by decide +kernel) rfl))) (fun _ _ _ _=>⟨_,(Hr (qt (Yp hu (Lc (ab (gc Je (pv 1) (lJ tF lb)) (ab (pv 0) gb))) (Pb (pv 2) rfl)))),by walk_at "B"⟩) (fun _ _ _ _=>⟨_,(pv 0),by walk_at "B"⟩)) rfl)
   (ib (De (Qr PySem.F.plainAttrs_list PySem.F.slot_list_extend PySem.F.type_list_extend Zr (pv 2) (ab (eh rfl (Ph (pv 4)) (Hc (sc:=jb Oc) rfl (by decide +kernel)) (N:=["want","path"]) (sel:=[none,some 3]) (Cd (M:=q38) (by decide +kernel)) (Blk.of (fun _ _ _ _=>(xb (i:=0) (xi (N:=["want","path"]) (by decide +kernel) rfl))) (fun _ _ _ _=>⟨_,(Hr (Vb xm (pv 0) (pv 1) (by with_unfolding_all rfl))),by walk_at "B"⟩) (fun _ _ _ _=>⟨_,(Jb AH (pv 1) (Lc (ab (pv 0) gb))),by walk_at "B"⟩))) gb))))))
   (ib (Fb (pv 2))))),?_⟩
 walk_at "RD";refine ⟨by decide,fun f hf=>⟨⟨_,SqL.of ((fb hf) _ _ l1)⟩,?_⟩⟩;refine Vj.list (xs:=qs.map V.ref) (fun i σ H'=>Mb H H'∧NoT H'∧Ou H' f ((ps.take i).flatMap (gy (Eb n ws)))∧∃ x y,σ=[some (.ref wp),some (.ref pl),some (.ref f),x,y]) ?_ ?_ ?_ ?_
 ·exact ⟨fb hf,nt.upd,⟨[],db,Pc.nil _⟩,_,_,rfl⟩
 ·rintro i σ H' hi ⟨s1,_⟩;exact SqL.of (s1 _ _ l1)
 ·rintro i v σ H1 hv zzq;refine zP fun zM zzh=>?_
  obtain ⟨s1,n1,⟨fs,f1,f2⟩,x,y,rfl⟩:=zzq;obtain ⟨qi,hqi,rfl⟩:=vh hv;have hi:i < ps.length:=by rw [← l2];exact (List.getElem?_eq_some_iff.mp hqi).1
  have hpi:ps[i]? = some ps[i]:=List.getElem?_eq_getElem hi;have hq:=l3 i qi _ hqi hpi;obtain ⟨hne,hp6,hpw⟩:=hps _ (List.mem_of_getElem? hpi);subst zzh;generalize ps[i]=p at hpi hq hne hp6 hpw;have D1:=Ib D s1;simp only [Cb];walk_at "RD";have hh:p.headD 0 < ws.length:=by
   cases p with
   | nil=>exact absurd rfl hne
   | cons x p=>exact hpw x (List.mem_cons_self ..)
  refine ⟨_,SqT.of (s1 _ _ hq),V.int (p.headD 0:Nat),?_,_,rfl,_,Ah T (s1 _ _ e1),_,rfl,by omega,by omega,by omega,by omega,?_⟩
  ·cases p with
   | nil=>exact absurd rfl hne
   | cons x p=>exact Ub (j:=0) rfl
  rw [show ((ws.length:Int) - ((p.headD 0:Nat) + 1)).toNat=ws.length - (p.headD 0 + 1) by omega];refine Yc.range (fun i ys H'=>Mb H1 H'∧NoT H'∧ys=bf (rm (Eb n ws) p i)) (Nat.le_trans (show ws.length - (p.headD 0 + 1) ≤ 6 by omega) (by decide)) ⟨Mb.refl _,n1,rfl⟩ (fun i ys H' hi ⟨_,_,e⟩=>by rw [e,Ld];exact xt ..) ?_ ?_
  ·rintro k ys H2 hk ⟨s2,n2,rfl⟩ N hN;walk_at "RD";rw [show (p.headD 0:Int) + 1 + (k:Int)=((p.headD 0 + 1 + k:Nat):Int) by omega];refine ⟨Sub.name,_,SqT.of ((s1.trans s2) _ _ hq),_,gq hne,by decide,fun tp htp=>⟨_,ce T (fb htp _ _ ((s1.trans s2) _ _ e1)),sd,rfl,_,Ib (Ib D (s1.trans s2)) (fb htp),Ce (Lj p) (p.headD 0 + 1 + k),db,?_⟩⟩;rw [nv];have s4:=s2.trans (fb (o:=.tup [V.int ((Lj p:Nat):Int),V.int ((p.headD 0 + 1 + k:Nat):Int)]) htp);cases he:(Eb n ws).e (Lj p) (p.headD 0 + 1 + k) with
   | true=>
    refine hN _ _ ⟨s4,n2.upd,?_⟩;rw [Qp,he];unfold bf;rw [if_pos rfl,List.map_append];rfl
   | false=>
    refine hN _ _ ⟨s4,n2.upd,?_⟩;rw [Qp,he,if_neg Bool.false_ne_true,List.append_nil]
  ·rintro ys H2 ⟨s2,n2,rfl⟩ nr hnr;have s3:=s2.trans (fb (o:=.lst (bf (rm (Eb n ws) p (ws.length - (p.headD 0 + 1))))) hnr);have n3:NoT (upd H2 nr (.lst (bf (rm (Eb n ws) p (ws.length - (p.headD 0 + 1)))))):=n2.upd;have e3:(upd H2 nr (.lst (bf (rm (Eb n ws) p (ws.length - (p.headD 0 + 1)))))) nr=some (.lst (bf (rm (Eb n ws) p (ws.length - (p.headD 0 + 1))))):=db;generalize upd H2 nr (.lst (bf (rm (Eb n ws) p (ws.length - (p.headD 0 + 1)))))=H3 at s3 n3 e3 ⊢;have hnl:=xt (Eb n ws) p (ws.length - (p.headD 0 + 1));rw [zB hpi];refine ⟨.inl ⟨_,SqL.of (s3 _ _ f1)⟩,nr,rfl,⟨_,SqL.of e3⟩,?_⟩;rw [show gy (Eb n ws) p=((rm (Eb n ws) p (ws.length - (p.headD 0 + 1))).filter fun v=>decide (v ∉ p)).map fun v=>p ++ [v] from rfl];generalize rm (Eb n ws) p (ws.length - (p.headD 0 + 1))=nr at e3 hnl ⊢;refine Yc.list (xs:=bf nr) (fun i ys H'=>Mb H3 H'∧NoT H'∧∃ rs:List Addr,ys=rs.map V.ref∧Pc H' rs (((nr.take i).filter fun v=>decide (v ∉ p)).map fun v=>p ++ [v])) (by rw [Ld];exact Nat.le_trans (show nr.length ≤ 6 by omega) (by decide)) ⟨Mb.refl _,n3,[],rfl,Pc.nil _⟩ ?_ ?_ ?_
   ·rintro i ys H' hi zzq;refine zP fun zM zzh=>?_
    obtain ⟨s4,n4,rs,rfl,t4⟩:=zzq;subst zzh;refine ⟨SqL.of (s4 _ _ e3),?_⟩;rw [List.length_map,t4.1,List.length_map];refine Nat.le_trans (List.length_filter_le ..) ?_;rw [List.length_take];omega
   ·rintro k v ys H4 hv ⟨s4,n4,rs,rfl,t4⟩ N hN;obtain ⟨u,hu',rfl⟩:=Rv hv;walk_at "RD";have q4:=(s1.trans (s3.trans s4)) _ _ hq;refine ⟨Sub.name,_,.inr (SqT.of q4),rfl,?_,?_⟩
    ·refine List.all_eq_true.mpr fun x hx=>?_
     obtain ⟨y,_,rfl⟩:=List.mem_map.mp hx;rfl
    have et:nr.take (k + 1)=nr.take k ++ [u]:=by rw [List.take_add_one,hu'];rfl
    rw [Tz];by_cases hup:u ∈ p
    ·rw [decide_eq_true hup,if_neg (by decide)];refine hN _ _ ⟨s4,n4,rs,rfl,?_⟩;rw [et,List.filter_append,List.filter_cons,decide_eq_false (fun z=>z hup),if_neg Bool.false_ne_true,List.filter_nil,List.append_nil];exact t4
    ·rw [decide_eq_false hup,if_pos (by decide)];refine ⟨by decide,fun tp htp=>⟨_,SqT.of (fb htp _ _ q4),_,SqT.of db,(fun z=>hne (by unfold bf at z;exact List.map_eq_nil_iff.mp z)),Nat.le_trans (show (bf p).length + 1 ≤ 7 by rw [Ld];omega) (by decide),(fun z=>by cases z),fun _ tq htq=>hN _ _ ⟨?_,?_,rs ++ [tq],by rw [List.map_append];rfl,?_⟩⟩⟩
     ·exact (s4.trans (fb htp)).trans (fb htq)
     ·exact (n4.upd).upd
     ·rw [et,List.filter_append,List.filter_cons,decide_eq_true hup,if_pos rfl,List.filter_nil,List.map_append];refine (t4.same ((fb htp).trans (fb htq))).app (Pc.one ?_);rw [db];unfold bf;rw [List.map_append];rfl
   ·rintro ys H4 ⟨s4,n4,rs,rfl,t4⟩ rl hrl;have s5:=(s3.trans s4).trans (fb (o:=.lst (rs.map V.ref)) hrl);have f5:=s5 _ _ f1;rw [Ld,List.take_length] at t4;have hfl:fs.length ≤ 280000 * 6:=by
     rw [f2.1];refine Nat.le_trans (Av (c:=6) (fun p=>Nat.le_trans (Jw p) hws) _) (Nat.mul_le_mul_right _ ?_);rw [List.length_take];omega
    have hrs:rs.length ≤ 6:=by
     rw [t4.1,List.length_map];exact Nat.le_trans (List.length_filter_le ..) (by omega)
    refine ⟨_,rfl,_,f5,_,db,?_,?_,?_,⟨fs ++ rs,by rw [db,List.map_append],?_⟩,_,rfl⟩
    ·rw [List.length_map,List.length_map];exact Nat.le_trans (show fs.length + rs.length ≤ 1680006 by omega) (by decide)
    ·exact (s1.trans s5).updN hf
    ·exact (n4.upd).upd
    ·exact ((f2.same s5).app (t4.same (fb hrl))).put f5
 ·rintro σ H1 zzq;refine zP fun zM zzh=>?_
  obtain ⟨s1,n1,L1,x,y,rfl⟩:=zzq;subst zzh;walk_at "RD";rw [List.length_map,l2,List.take_length] at L1;exact q f H1 s1 n1 hf L1
end
theorem iy {S:Sys} (hm:S.m ≤ 6):∀ k,k ≤ 6→(ug S k).length ≤ k * 279936:=by
 intro k
 induction k with
 | zero=>intro _;exact Nat.le_refl _
 | succ k ih=>
  intro hk;unfold ug;rw [List.length_append];have h1:=ih (by omega);have h2:=Nat.le_trans (List.length_filter_le (clR S) (lev S (k + 1))) (fB (S:=S) (k + 1));have h3:S.m ^ (k + 1 + 1) ≤ 6 ^ 7:=Nat.le_trans (Nat.pow_le_pow_left hm _) (Nat.pow_le_pow_right (by decide) (by omega));omega
theorem Pc.at {H:Hp} {qs:List Addr} {ps:List (List Nat)} (h:Pc H qs ps) {i:Nat} {q:Addr} (hq:qs[i]? = some q):∃ p,ps[i]? = some p∧H q=some (.tup (bf p)):=by
 have hi:i < ps.length:=by rw [← h.1];exact (List.getElem?_eq_some_iff.mp hq).1
 exact ⟨_,List.getElem?_eq_getElem hi,h.2 i q _ hq (List.getElem?_eq_getElem hi)⟩
section
variable (P:Program) (w:World)
noncomputable def IE (t:Adr):Sp:=fun vs H Q _=>∃ wp n ws,vs=[.ref wp]∧Uc P w t H wp n ws∧Lv n ws∧NoT H ∧
 ∀ r H' k,Mb H H'→NoT H'→lev (Eb n ws) k=[]→k ≤ 6→Ou H' r (ug (Eb n ws) k)→Q (.ref r) H'
end
section
variable {P:Program} {w:World} {K:PySem.W.Frag} {mg:Str→Option Value} {base:Heap} {t:Adr}
theorem pI (T:Txt w K mg t):Kb P w K mg base CX0 2 t.tj t.vj ["wanted"] (IE P w t):=by
 have g43:Kb P w K mg base CX0 1 t.Xc t.Tc q26 (GF P w t):=dJ T;refine T.um.ok Lh (fun vs H Q E h=>?_) (fun _ _ _ s H vs Q E hr h=>?_)
 ·obtain ⟨wp,n,ws,rfl,_⟩:=h;rfl
 obtain ⟨wp,n,ws,rfl,W,wk,nt,q⟩:=h;obtain ⟨dx,al,sd,e1,e2,D⟩:=id W;have hu:=Ck hr;have hws:=wk.2.1;have hm:(Eb n ws).m ≤ 6:=hws;refine ⟨_,(cb (wb (i:=1) Lh.nd (yh gb))
   (cb (sh (i:=2) Lh.nd rfl (Or.inl rfl) rfl (ue rfl T.Hf (ab (Pb (pv 0) rfl) gb)) (Hc (sc:=jb sj) rfl (by decide +kernel)) (N:=["want"]) (sel:=[none]) (Cd (M:=q39) (by decide +kernel)) (Blk.of (fun _ _ _ _=>(xb (i:=0) (xi (N:=["want"]) (by decide +kernel) rfl))) (fun _ _ _ _=>⟨_,wg,by walk_at "B"⟩) (fun _ _ _ _=>⟨_,(Lc (ab (pv 0) gb)),by walk_at "B"⟩)) rfl)
   (cb (ox PassesOwn.never (vw (pv 2) (fun _=>rfl)) (cb (wb (i:=2) Lh.nd (qb g43 hr T.Fi T.Vd.kp T.Si (ab (pv 0) (ab (pv 2) gb))))
   (ib (De (Qr PySem.F.plainAttrs_list PySem.F.slot_list_extend PySem.F.type_list_extend Zr (pv 1) (ab (eh rfl (Ph (pv 2)) (Hc (sc:=jb sj) rfl (by decide +kernel)) (N:=["path","wanted"]) (sel:=[none,some 0]) (Cd (M:=q39) (by decide +kernel)) (Blk.of (fun _ _ _ _=>(xb (i:=0) (xi (N:=["path","wanted"]) (by decide +kernel) rfl))) (fun _ _ _ _=>⟨_,(Hr (qt (Yp hu (Lc (ab (gc Je (pv 0) (lJ tF lb)) (ab (gc Je (pv 0) lb) gb))) (Pb (pv 1) rfl)))),by walk_at "B"⟩) (fun _ _ _ _=>⟨_,(pv 0),by walk_at "B"⟩))) gb))))))
   (ib (Fb (pv 1)))))),?_⟩
 walk_at "RD";refine ⟨by decide,fun f hf=>⟨_,Ah T ((fb hf) _ _ e1),_,rfl,by omega,by omega,?_⟩⟩;rw [show ((ws.length:Int)).toNat=ws.length by omega];have sA:Mb H (upd H f (.lst [])):=fb hf;have nA:NoT (upd H f (.lst [])):=nt.upd;have fA:(upd H f (.lst [])) f=some (.lst []):=db;generalize upd H f (.lst [])=HA at sA nA fA ⊢;refine Yc.range (fun i ys H'=>Mb HA H'∧NoT H'∧∃ rs:List Addr,ys=rs.map V.ref∧Pc H' rs ((List.range i).map fun k=>[k])) (Nat.le_trans hws (by decide)) ⟨Mb.refl _,nA,[],rfl,Pc.nil _⟩ (fun i ys H' hi ⟨_,_,rs,e,t'⟩=>by rw [e,List.length_map,t'.1,List.length_map,List.length_range];exact Nat.le_refl _) ?_ ?_
 ·rintro i ys H1 hi ⟨s1,n1,rs,rfl,t1⟩ N hN;walk_at "RD";refine ⟨Sub.name,by decide,fun tp htp=>hN _ _ ⟨s1.trans (fb htp),n1.upd,rs ++ [tp],by rw [List.map_append];rfl,?_⟩⟩;rw [List.range_succ,List.map_append];refine (t1.same (fb htp)).app (Pc.one ?_);rw [db];rfl
 rintro ys H1 ⟨s1,n1,rs,rfl,t1⟩ pl hpl;have s2:=s1.trans (fb (o:=.lst (rs.map V.ref)) hpl);have n2:NoT (upd H1 pl (.lst (rs.map V.ref))):=n1.upd;have L2':Ou (upd H1 pl (.lst (rs.map V.ref))) pl (lev (Eb n ws) 0):=⟨rs,db,t1.same (fb hpl)⟩;generalize upd H1 pl (.lst (rs.map V.ref))=H2 at s2 n2 L2' ⊢;refine ⟨fun j σ H'=>∃ k pl',j=6 - k∧k ≤ 6∧Mb H H'∧NoT H'∧Ou H' f (ug (Eb n ws) k)∧Ou H' pl' (lev (Eb n ws) k)∧pl' ≠ f∧σ=[some (.ref wp),some (.ref f),some (.ref pl')],⟨6,0,pl,rfl,Nat.zero_le _,sA.trans s2,n2,⟨[],s2 _ _ fA,Pc.nil _⟩,L2',Ne.symm (Db (s1 _ _ fA) hpl),rfl⟩,?_⟩;rintro j σ H3 zzq;refine zP fun zM zzh=>?_
 obtain ⟨k,pl',rfl,hk,s3,n3,F3,L3,hne,rfl⟩:=zzq;obtain ⟨qs,q1,q2⟩:=id L3;obtain ⟨fs,f1,f2⟩:=id F3;subst zzh;walk_at "RD";refine ⟨!(qs.map V.ref).isEmpty,.inl ⟨_,SqL.of q1,rfl⟩,?_⟩;by_cases he:lev (Eb n ws) k=[]
 ·have hq0:qs=[]:=List.length_eq_zero_iff.mp (by rw [q2.1,he];rfl);rw [hq0,if_neg (by decide)];exact q f H3 k s3 n3 he hk F3
 have hq0:qs ≠ []:=fun z=>by
  have:=q2.1;rw [z] at this;exact he (List.length_eq_zero_iff.mp this.symm)
 have hk6:k < 6:=by
  rcases Nat.lt_or_ge k 6 with z | z
  ·exact z
  ·have:=Rw (IG (S:=Eb n ws)) (k - (Eb n ws).m);rw [show (Eb n ws).m + (k - (Eb n ws).m)=k by omega] at this;exact absurd this he
 rw [if_pos (by cases qs with | nil=>exact absurd rfl hq0 | cons x l=>rfl)];have hlen:∀ k,k ≤ 6→(lev (Eb n ws) k).length ≤ 279936:=fun k hk=>Nat.le_trans (fB k) (Nat.le_trans (Nat.pow_le_pow_left hm _) (Nat.pow_le_pow_right (n:=6) (by decide) (show k + 1 ≤ 7 by omega)))
 refine ⟨fun σ' H'=>∃ x,Mb H H'∧NoT H'∧Ou H' f (ug (Eb n ws) (k + 1))∧Ou H' x (lev (Eb n ws) (k + 1))∧x ≠ f∧σ'=[some (.ref wp),some (.ref f),some (.ref x)],fun σ' H' z=>?_,?_⟩
 ·obtain ⟨x,z1,z2,z3,z4,z5,z6⟩:=z;exact ⟨6 - (k + 1),by omega,k + 1,rfl,by omega,z1,z2,z3,x,z4,z5,z6⟩
 refine ⟨wp,pl',n,ws,lev (Eb n ws) k,rfl,W.same s3,L3,fun p hp=>?_,?_,wk,n3,fun r H4 s4 n4 hr4 L4=>?_⟩
 ·obtain ⟨g1,g2,g3⟩:=Ov _ _ hp;refine ⟨?_,by omega,g3⟩;intro z;rw [z] at g1;cases g1
 ·have:=hlen k hk;omega
 obtain ⟨us,u1,u2⟩:=id L4;have f4:=s4 _ _ f1;have hrf:r ≠ f:=fun z=>by rw [z,f1] at hr4;cases hr4
 refine ⟨.inl ⟨_,SqL.of f4⟩,r,rfl,⟨_,SqL.of u1⟩,?_⟩;have L4':Pc H4 us (lev (Eb n ws) (k + 1)):=u2;have hul:us.length ≤ 279936:=by rw [L4'.1];exact hlen _ (by omega)
 refine Yc.list (xs:=us.map V.ref) (fun i ys H'=>Mb H4 H'∧NoT H'∧∃ rs:List Addr,ys=rs.map V.ref∧Pc H' rs (((lev (Eb n ws) (k + 1)).take i).filter (clR (Eb n ws)))) (by rw [List.length_map];exact Nat.le_trans hul (by decide)) ⟨Mb.refl _,n4,[],rfl,Pc.nil _⟩ ?_ ?_ ?_
 ·rintro i ys H' hi zzq;refine zP fun zM zzh=>?_
  obtain ⟨s5,n5,rs',rfl,t5⟩:=zzq;subst zzh;refine ⟨SqL.of (s5 _ _ u1),?_⟩;rw [List.length_map,t5.1];refine Nat.le_trans (List.length_filter_le ..) ?_;rw [List.length_take];omega
 ·rintro i v ys H5 hv ⟨s5,n5,rs',rfl,t5⟩ N hN;obtain ⟨qi,hqi,rfl⟩:=vh hv;obtain ⟨p,hp,hpq⟩:=L4'.at hqi;obtain ⟨g1,g2,g3⟩:=Ov _ _ (List.mem_of_getElem? hp);have hpne:p ≠ []:=fun z=>by rw [z] at g1;cases g1
  have hp5:=s5 _ _ hpq;have s45:=s3.trans (s4.trans s5);have ef:((lev (Eb n ws) (k + 1)).take (i + 1)).filter (clR (Eb n ws))=((lev (Eb n ws) (k + 1)).take i).filter (clR (Eb n ws)) ++ (if clR (Eb n ws) p then [p] else []):=by
   rw [List.take_add_one,hp,List.filter_append];show _ ++ List.filter _ [p]=_;rw [List.filter_cons,List.filter_nil]
  walk_at "RD";refine ⟨Sub.name,_,SqT.of hp5,_,gq hpne,_,SqT.of hp5,V.int (p.headD 0:Nat),?_,by decide,fun tp htp=>⟨_,ce T (fb htp _ _ (s45 _ _ e1)),sd,rfl,_,Ib (Ib D s45) (fb htp),Ce (Lj p) (p.headD 0),db,?_⟩⟩
  ·cases p with
   | nil=>exact absurd rfl hpne
   | cons x p=>exact Ub (j:=0) rfl
  rw [nv];have s6:=s5.trans (fb (o:=.tup [V.int ((Lj p:Nat):Int),V.int ((p.headD 0:Nat):Int)]) htp);have t6:=t5.same (fb (o:=.tup [V.int ((Lj p:Nat):Int),V.int ((p.headD 0:Nat):Int)]) htp);cases hc:(Eb n ws).e (Lj p) (p.headD 0) with
  | true=>
   refine hN _ _ ⟨s6,n5.upd,rs' ++ [qi],by rw [List.map_append];rfl,?_⟩;rw [ef,show clR (Eb n ws) p=true from hc,if_pos rfl];exact t6.app (Pc.one (s6 _ _ hpq))
  | false=>
   refine hN _ _ ⟨s6,n5.upd,rs',rfl,?_⟩;rw [ef,show clR (Eb n ws) p=false from hc,if_neg Bool.false_ne_true,List.append_nil];exact t6
 ·rintro ys H5 ⟨s5,n5,rs',rfl,t5⟩ rl hrl;rw [List.length_map,L4'.1,List.take_length] at t5;have sr:=fb (o:=.lst (rs'.map V.ref)) hrl;have f5:=sr _ _ (s5 _ _ f4);have hfl:fs.length ≤ 6 * 279936:=by rw [f2.1];exact Nat.le_trans (iy hm k hk) (Nat.mul_le_mul_right _ hk)
  have hrs:rs'.length ≤ 279936:=by
   rw [t5.1];exact Nat.le_trans (List.length_filter_le ..) (hlen _ (by omega))
  refine ⟨_,rfl,_,f5,_,db,?_,r,?_,(n5.upd).upd,⟨fs ++ rs',by rw [db,List.map_append],?_⟩,⟨us,?_,?_⟩,hrf,rfl⟩
  ·rw [List.length_map,List.length_map];exact Nat.le_trans (show fs.length + rs'.length ≤ 1959552 by omega) (by decide)
  ·exact (((s3.trans s4).trans s5).trans sr).updN hf
  ·exact ((f2.same ((s4.trans s5).trans sr)).app (t5.same sr)).put f5
  ·rw [ub hrf];exact sr _ _ (s5 _ _ u1)
  ·exact ((L4'.same s5).same sr).put f5
end
end My
namespace My
open PySem L2
noncomputable def Fe (S:Sys):Od:=(List.range S.m).flatMap fun i=>((List.range S.m).filter fun j=>S.e i j).map fun j=>(i,j)
theorem Gi {S:Sys} {i j:Nat} (h:(i,j) ∈ Fe S):S.e i j=true:=by
 obtain ⟨k,_,h⟩:=List.mem_flatMap.mp h;obtain ⟨l,hl,e⟩:=List.mem_map.mp h;cases e;exact (List.mem_filter.mp hl).2
theorem Ir {S:Sys} (k:S.Ok) {i j:Nat} (h:S.e i j=true):(i,j) ∈ Fe S:=
 List.mem_flatMap.mpr ⟨i,List.mem_range.mpr (k.lt h).1,List.mem_map.mpr ⟨j,List.mem_filter.mpr ⟨List.mem_range.mpr (k.lt h).2.1,h⟩,rfl⟩⟩
theorem DH {n:Int} {ws:List (WD × Int)} {i:Nat} (hi:i < ws.length):∀ k,k ≤ ws.length→uh n ws i k=((List.range k).filter fun j=>(Eb n ws).e i j).map fun j=>(Ce i j,V.int ((Eb n ws).st i j)):=by
 have hp:ws[i]? = some ws[i]:=List.getElem?_eq_getElem hi;intro k
 induction k with
 | zero=>intro _;rfl
 | succ k ih=>
  intro hk;have hq:ws[k]? = some ws[k]:=List.getElem?_eq_getElem (by omega);have hs:=rk (n:=n) hp hq;rw [List.range_succ,List.filter_append,List.map_append,← ih (by omega),List.filter_cons,List.filter_nil];by_cases h:i ≠ k∧mt n ws[i].1 ws[k].1=true
  ·rw [gu hp hq h,hs.1,decide_eq_true h.1,h.2,if_pos (by rfl),List.map_cons,List.map_nil,hs.2]
  ·rw [lr hp hq h,hs.1,if_neg (by simpa using h),List.map_nil,List.append_nil]
theorem Oz {α β:Type} {f g:α→List β}:∀ {l:List α},(∀ x ∈ l,f x=g x)→l.flatMap f=l.flatMap g:=by
 intro l
 induction l with
 | nil=>intro _;rfl
 | cons x l ih=>intro h;rw [List.flatMap_cons,List.flatMap_cons,h x (List.mem_cons_self ..),ih fun y hy=>h y (List.mem_cons_of_mem _ hy)]
theorem gm (n:Int) (ws:List (WD × Int)):cf n ws ws.length=(Fe (Eb n ws)).map fun p=>(Ce p.1 p.2,V.int ((Eb n ws).st p.1 p.2)):=by
 unfold cf Fe;rw [List.map_flatMap];refine Oz fun i hi=>?_
 rw [DH (List.mem_range.mp hi) _ (Nat.le_refl _),List.map_map];rfl
theorem qz {n:Int} {ws:List (WD × Int)} (h:ws.length ≤ 6):(Fe (Eb n ws)).length ≤ 36:=by
 have:=eu n ws ws.length;rw [gm,List.length_map] at this;exact Nat.le_trans this (Nat.mul_le_mul h h)
theorem mr {H:Hp} {n:Int} {ws:List (WD × Int)} {xs:List (List Key × Addr × Value)} (r:Paired (fun (p:List Key × V) (q:List Key × Addr × Value)=>p.1=q.1∧H q.2.1=some (.tup (p.1.map kV))∧ad p.2 q.2.2) (cf n ws ws.length) xs) {i:Nat} {k:List Key} {b:Addr} {u:Value} (hx:xs[i]? = some (k,b,u)):∃ x y,(Fe (Eb n ws))[i]? = some (x,y)∧H b=some (.tup [.int (x:Nat),.int (y:Nat)]):=by
 rw [gm] at r;have hi:i < ((Fe (Eb n ws)).map fun p=>(Ce p.1 p.2,V.int ((Eb n ws).st p.1 p.2))).length:=by rw [wn r];exact (List.getElem?_eq_some_iff.mp hx).1
 obtain ⟨q,hq,z1,z2,z3⟩:=Az r (List.getElem?_eq_getElem hi);rw [hx] at hq;cases hq;rw [List.length_map] at hi;refine ⟨(Fe (Eb n ws))[i].1,(Fe (Eb n ws))[i].2,List.getElem?_eq_getElem hi,?_⟩;rw [List.getElem_map] at z2;exact z2
section
variable (P:Program) (w:World)
noncomputable def YE (t:Adr):Sp:=fun vs H Q _=>∃ wp a n ws o,vs=[.ref wp,.ref a]∧Uc P w t H wp n ws∧Ij P w H a o∧Lv n ws∧NoT H ∧
 (∀ r i j H',Mb H H'→NoT H'→H' r=some (.tup [.int (i:Nat),.int (j:Nat)])→(Eb n ws).e i j=true→inO o i j=false→Q (.ref r) H')∧((∀ i j,(Eb n ws).e i j=true→inO o i j=true)→Q .non H)
noncomputable def Tr (S:Sys) (b:Nat→Int):List V:=(List.range S.m).map fun v=>V.int (b v)
noncomputable def CF (t:Adr):Sp:=fun vs H Q _=>∃ wp z a n ws o,vs=[.ref wp,.int z,.ref a]∧Uc P w t H wp n ws∧Ij P w H a o∧Lv n ws∧0 < z∧NoT H ∧
 ∀ r H',Mb H H'→NoT H'→H r=none→H' r=some (.lst (Tr (Eb n ws) fun v=>xo (Eb n ws) z o (Fe (Eb n ws)) ws.length v % z))→Q (.ref r) H'
end
theorem AB {S:Sys} {b:Nat→Int} {i:Nat} (h:i < S.m):(Tr S b)[i]? = some (V.int (b i)):=by
 unfold Tr;rw [List.getElem?_map,List.getElem?_range h];rfl
theorem LD {S:Sys} {b c:Nat→Int} {i:Nat} {x:Int} (h1:c i=x) (h2:∀ j,j ≠ i→c j=b j):(Tr S b).set i (V.int x)=Tr S c:=by
 refine List.ext_getElem? fun j=>?_
 unfold Tr;rw [List.getElem?_set];by_cases hj:i=j
 ·subst hj;rw [if_pos rfl,List.length_map,List.length_range];by_cases hl:i < S.m
  ·rw [if_pos hl,List.getElem?_map,List.getElem?_range hl,← h1];rfl
  ·rw [if_neg hl,List.getElem?_map,List.getElem?_eq_none (by rw [List.length_range];omega)];rfl
 ·rw [if_neg hj,List.getElem?_map,List.getElem?_map];by_cases hl:j < S.m
  ·rw [List.getElem?_range hl];show some (V.int (b j))=some (V.int (c j));rw [h2 j (Ne.symm hj)]
  ·rw [List.getElem?_eq_none (by rw [List.length_range];omega)];rfl
theorem mJ {n j:Nat} (h:j < n):ixN n (j:Int)=some j:=by unfold ixN;simp;omega
theorem DB {S:Sys} {z:Int} {o:Od} (b:Nat→Int) (i j:Nat):relax S z o b (i,j) j=if b i + wtO S z o i j > b j then b i + wtO S z o i j else b j:=by
 have e:relax S z o b (i,j) j=max (b j) (b i + wtO S z o i j):=if_pos rfl;rw [e,Int.max_def];split <;> split <;> omega
theorem Sy {S:Sys} {z:Int} {o:Od} (b:Nat→Int) (i j:Nat) {k:Nat} (h:k ≠ j):relax S z o b (i,j) k=b k:=if_neg h
noncomputable def cL (z:Int):V→V
 | .int x=>.int (x % z)
 | v=>v
theorem UC (S:Sys) (b:Nat→Int) (z:Int):(Tr S b).map (cL z)=Tr S fun v=>b v % z:=by
 unfold Tr;rw [List.map_map];rfl
section
variable {P:Program} {w:World} {K:PySem.W.Frag} {mg:Str→Option Value} {base:Heap} {t:Adr}
theorem rJ (T:Txt w K mg t):Kb P w K mg base CX0 2 t.jd t.bd q27 (YE P w t):=by
 have g18:Kb P w K mg base CX0 1 t.zd t.vd q9 (fC P w):=FF T;refine T.pe.ok Yd (fun vs H Q E h=>?_) (fun _ _ _ s H vs Q E hr h=>?_)
 ·obtain ⟨wp,a,n,ws,o,rfl,_⟩:=h;rfl
 obtain ⟨wp,a,n,ws,o,rfl,W,O,wk,nt,q1,q2⟩:=h;obtain ⟨dx,al,sd,e1,e2,D⟩:=id W;have hu:=Ck hr;refine ⟨_,(cb (Af PassesOwn.never rfl (kA (Pb (pv 0) rfl)) (Ue (K:=K) (n:=2) rfl rfl (Ob (xb (i:=2) Yd.nd) (Ob (xb (i:=3) Yd.nd) Me))) (ib (Ee (Aq (Bm (qb g18 hr T.Ci T.Pe.kp T.Vi (ab (pv 1) (ab (pv 2) (ab (pv 3) gb)))))) (ib (Fb (Lc (ab (pv 2) (ab (pv 3) gb))))) Yb)))
   (ib (Fb Sg))),?_⟩
 walk_at "RD";refine ⟨_,ce T e1,_,rfl,_,D,fun ob es ep xs r=>?_⟩;have hxl:xs.length=(Fe (Eb n ws)).length:=by rw [← wn r.ks,gm,List.length_map]
 refine Vj.of (n:=(cf n ws ws.length).length) (fun i σ H'=>H'=H∧(∀ l p,l < i→(Fe (Eb n ws))[l]? = some p→inO o p.1 p.2=true)∧∃ x y,σ=[some (.ref wp),some (.ref a),x,y]) ?_ ?_ ?_ ?_ ?_
 ·exact ⟨rfl,fun l p hl=>absurd hl (Nat.not_lt_zero _),_,_,rfl⟩
 ·rintro i σ H' hi ⟨rfl,_⟩;exact ⟨r.at_,hi⟩
 ·rintro σ H' ⟨rfl,_⟩;exact ⟨r.at_,Nat.le_refl _⟩
 ·rintro i σ H' v H2 hi ⟨rfl,hin,x,y,rfl⟩ ⟨rfl,k,b,u,hxs,rfl⟩;obtain ⟨i1,j1,hp,hb⟩:=mr r.ks hxs;refine Qk (SqT.of hb) ?_;simp only [List.set_cons_succ,List.set_cons_zero];refine Qb (!inO o i1 j1) (fun Q hQ=>?_) (fun hb=>?_) (fun hb=>?_)
  ·walk_at "RD";exact ⟨a,i1,j1,o,rfl,O,nt,_,rfl,hQ⟩
  ·walk_at "RD";refine ⟨by decide,fun tp htp=>q1 tp i1 j1 _ (fb htp) nt.upd db (Gi (List.mem_of_getElem? hp)) (by simpa using hb)⟩
  ·simp only [Jc];refine ⟨trivial,fun l p hl hlp=>?_,_,_,rfl⟩;rcases Nat.lt_or_ge l i with z | z
   ·exact hin l p z hlp
   ·have:l=i:=by omega
    subst this;rw [hp] at hlp;cases hlp;simpa using hb
 ·rintro σ H' zzq;refine zP fun zM zzh=>?_
  obtain ⟨rfl,hin,x,y,rfl⟩:=zzq;subst zzh;walk_at "RD";refine q2 fun i j he=>?_
  obtain ⟨l,hl⟩:=List.getElem?_of_mem (Ir wk.ok he);refine hin l _ ?_ hl;rw [gm,List.length_map];exact (List.getElem?_eq_some_iff.mp hl).1
theorem cJ (T:Txt w K mg t):Kb P w K mg base CX0 2 t.ke t.je q28 (CF P w t):=by
 have g19:Kb P w K mg base CX0 1 t.ld t.md q14 (uB P w t):=oF T;refine T.pf.ok Rc (fun vs H Q E h=>?_) (fun _ _ _ s H vs Q E hr h=>?_)
 ·obtain ⟨wp,z,a,n,ws,o,rfl,_⟩:=h;rfl
 obtain ⟨wp,z,a,n,ws,o,rfl,W,O,wk,hz,nt,q⟩:=h;obtain ⟨dx,al,sd,e1,e2,D⟩:=id W;have hu:=Ck hr;have hws:=wk.2.1;refine ⟨_,(cb (sh (i:=3) Rc.nd rfl (Or.inl rfl) rfl (ue rfl T.Hf (ab (Pb (pv 0) rfl) gb)) (Hc (sc:=jb Zd) rfl (by decide +kernel)) (N:=["want"]) (sel:=[none]) (Cd (M:=q40) (by decide +kernel)) (Blk.of (fun _ _ _ _=>(xb (i:=0) (xi (N:=["want"]) (by decide +kernel) rfl))) (fun _ _ _ _=>⟨_,wg,by walk_at "B"⟩) (fun _ _ _ _=>⟨_,lb,by walk_at "B"⟩)) rfl)
   (cb (Af PassesOwn.never rfl (ue rfl T.Hf (ab (Pb (pv 0) rfl) gb)) (xb (i:=4) Rc.nd) (ib (Af PassesOwn.never rfl (kA (Pb (pv 0) rfl)) (Ue (K:=K) (n:=2) rfl rfl (Ob (xb (i:=5) Rc.nd) (Ob (xb (i:=6) Rc.nd) Me))) (ib (Et (Ed (Js rfl) rfl T.WG Mq (ab (gc qe (pv 3) (pv 6)) (ab (Jb Bd (gc qe (pv 3) (pv 5)) (qb g19 hr T.fj T.Ve.kp T.Wi (ab (pv 0) (ab (pv 1) (ab (pv 2) (ab (pv 5) (ab (pv 6) gb))))))) gb))) (mI (pv 3) (pv 6) gD))))))
   (ib (Fb (eh rfl (Ph (pv 3)) (Hc (sc:=jb Zd) rfl (by decide +kernel)) (N:=["begin","size"]) (sel:=[none,some 1]) (Cd (M:=q40) (by decide +kernel)) (Blk.of (fun _ _ _ _=>(xb (i:=0) (xi (N:=["begin","size"]) (by decide +kernel) rfl))) (fun _ _ _ _=>⟨_,wg,by walk_at "B"⟩) (fun _ _ _ _=>⟨_,(Jb gf (pv 0) (pv 1)),by walk_at "B"⟩))))))),?_⟩
 walk_at "RD";refine ⟨_,Ah T e1,_,rfl,by omega,by omega,?_⟩;rw [show ((ws.length:Int)).toNat=ws.length by omega];refine Yc.range_map (fun _=>V.int 0) (Nat.le_trans hws (by decide)) (fun i N hi hN=>?_) (fun b hb=>?_)
 ·walk_at "RD";exact ⟨Sub.name,hN⟩
 walk_at "RD";have sb:=fb (o:=.lst ((List.range ws.length).map fun _=>V.int 0)) hb;refine ⟨_,Ah T (sb _ _ e1),_,rfl,by omega,by omega,?_⟩;rw [show ((ws.length:Int)).toNat=ws.length by omega];refine Vj.range (fun i σ H'=>Mb H H'∧NoT H'∧H' b=some (.lst (Tr (Eb n ws) (xo (Eb n ws) z o (Fe (Eb n ws)) i)))∧∃ x y u,σ=[some (.ref wp),some (.int z),some (.ref a),some (.ref b),x,y,u]) ⟨sb,nt.upd,db,_,_,_,rfl⟩ ?_ ?_
 ·rintro i σ H1 hi zzq;refine zP fun zM zzh=>?_
  obtain ⟨s1,n1,b1,x,y,u,rfl⟩:=zzq;subst zzh;walk_at "RD";refine ⟨_,ce T (s1 _ _ e1),_,rfl,_,Ib D s1,fun ob es ep xs r=>?_⟩;have hsd:sd ≠ b:=fun z=>by have g:=r.at_;rw [z,b1] at g;cases g
  refine Vj.of (n:=(cf n ws ws.length).length) (fun j σ H'=>Hd b H1 H'∧Mb H H'∧NoT H'∧H' b=some (.lst (Tr (Eb n ws) (((Fe (Eb n ws)).take j).foldl (relax (Eb n ws) z o) (xo (Eb n ws) z o (Fe (Eb n ws)) i))))∧∃ x y u,σ=[some (.ref wp),some (.int z),some (.ref a),some (.ref b),x,y,u]) ?_ ?_ ?_ ?_ ?_
  ·exact ⟨Hd.of (Mb.refl _),s1,n1,b1,_,_,_,rfl⟩
  ·rintro j σ H' hj ⟨sx,_⟩;exact ⟨sx _ _ hsd r.at_,hj⟩
  ·rintro σ H' ⟨sx,_⟩;exact ⟨sx _ _ hsd r.at_,Nat.le_refl _⟩
  ·rintro j σ H' v H2 hj ⟨sx,s2,n2,b2,x,y,u,rfl⟩ ⟨rfl,k,bb,u',hxs,rfl⟩;obtain ⟨i1,j1,hp,hbb⟩:=mr r.ks hxs;have he:=Gi (List.mem_of_getElem? hp);have hlt:=wk.ok.lt he;refine Qk (SqT.of (sx _ _ (fun z=>by rw [z,b1] at hbb;cases hbb) hbb)) ?_;simp only [List.set_cons_succ,List.set_cons_zero];walk_at "RD";have hj1:j1 < (Tr (Eb n ws) (((Fe (Eb n ws)).take j).foldl (relax (Eb n ws) z o) (xo (Eb n ws) z o (Fe (Eb n ws)) i))).length:=by unfold Tr;rw [List.length_map,List.length_range];exact hlt.2.1
   refine ⟨_,SqL.of b2,_,Ub (j:=j1) (AB hlt.2.1),_,SqL.of b2,_,Ub (j:=i1) (AB hlt.1),wp,z,a,i1,j1,o,n,ws,rfl,W.same s2,Ib O s2,he,n2,_,rfl,_,rfl,_,rfl,_,b2,j1,mJ hj1,fun c u hc e=>by rw [ub hc];exact sx _ _ hc e,s2.updN hb,n2.upd,?_,?_⟩
   ·rw [db];refine congrArg (fun l=>some (HO.lst l)) (LD ?_ fun k hk=>?_)
    ·rw [List.take_add_one,hp,List.foldl_append];exact DB _ i1 j1
    ·rw [List.take_add_one,hp,List.foldl_append];exact Sy _ i1 j1 hk
   ·exact ⟨_,rfl⟩
  ·rintro σ H' zzq;refine zP fun zM zzh=>?_
   obtain ⟨sx,s2,n2,b2,x,y,u,rfl⟩:=zzq;subst zzh;rw [gm,List.length_map,List.take_length] at b2;exact ⟨s2,n2,b2,_,_,_,rfl⟩
 ·rintro σ H1 zzq;refine zP fun zM zzh=>?_
  obtain ⟨s1,n1,b1,x,y,u,rfl⟩:=zzq;subst zzh;walk_at "RD";refine ⟨⟨_,SqL.of b1⟩,?_⟩;refine Yc.list_map (cL z) (SqL.of b1) (by unfold Tr;rw [List.length_map,List.length_range];exact Nat.le_trans hws (by decide)) (fun i x N hx hN=>?_) (fun p hp=>?_)
  ·unfold Tr at hx;obtain ⟨y,_,rfl⟩:=List.mem_map.mp (List.mem_of_getElem? hx);walk_at "RD";exact ⟨Sub.name,hz,hN⟩
  ·rw [UC];exact q p _ (s1.trans (fb hp)) n1.upd (s1.free hp) db
end
end My
namespace My
open PySem L2
section
open PySem.Spec PyProof.Rows
theorem jE {X:Cx} (hc:X.calm=true):lj X (.builtin "sum") (fun xs H Q=>∃ l ks,xs=[.ref l]∧SqL X.K H l (List.map V.int ks)∧(∀ k ∈ ks,0 ≤ k∧k ≤ 1000000000)∧ks.length ≤ 1000∧Q (.int ks.sum) H):=by
 intro pins s σ H xs us Q I r h;obtain ⟨l,ks,rfl,hq,hk,hl,q⟩:=h;obtain ⟨u,rfl,ru⟩:=Rm r;cases ru;obtain ⟨its,rv,pl,hz⟩:=I.list hq;obtain ⟨xs,e1,e2⟩:=ky rv;have hil:its.toArray=intItems xs.toArray:=by rw [e1];unfold intItems;simp
 have hls:s.heap.IsList l (intItems xs.toArray):=by rw [← hil];exact pl.isList
 have hxl:xs.length=ks.length:=by rw [← e2,List.length_map]
 have hn:∀ i,i < ks.length→ks[i]? = some (numAt xs.toArray i):=fun i hi=>by
  rw [numAt_eq,List.getD_eq_getElem?_getD];show ks[i]? = some (((xs.map (·.1))[i]?).getD 0);rw [e2,List.getElem?_eq_getElem hi];rfl
 have hps:∀ n,n ≤ ks.length→preSum (numAt xs.toArray) n=(ks.take n).sum∧0 ≤ (ks.take n).sum∧(ks.take n).sum ≤ 1000000000 * (n:Int):=fun n=>by
  induction n with
  | zero=>intro _;exact ⟨by simp [preSum],by simp,by simp⟩
  | succ n ih=>
   intro hn';obtain ⟨i1,i2,i3⟩:=ih (by omega);have e:=hn n (by omega);have hv:=hk _ (List.mem_of_getElem? e);have es:(ks.take (n + 1)).sum=(ks.take n).sum + numAt xs.toArray n:=by
    rw [List.take_add_one,e,List.sum_append];simp
   refine ⟨?_,by omega,by omega⟩;show preSum (numAt xs.toArray) n + numAt xs.toArray n=_;rw [i1,es]
 have hsz:xs.toArray.size=ks.length:=by rw [List.size_toArray,hxl]
 refine sum_intList (I.ok.hd hc) hls (fun j hj=>?_) fun h' tk t' k=>⟨.int ks.sum,H,I.kept k,⟨t',?_⟩,q⟩
 ·rw [hsz] at hj;have e:=hn j hj;have hv:=hk _ (List.mem_of_getElem? e);obtain ⟨p1,p2,p3⟩:=hps (j + 1) (by omega);unfold InLong;rw [p1];omega
 ·rw [hsz,(hps _ (Nat.le_refl _)).1,List.take_length]
end
noncomputable def vt (H:Hp):Pap→Addr→Prop
 | .alone k,a=>H a=some (.tup [.str (Str.ofString "alone"),.int (k:Nat)])
 | .ring r,a=>∃ b,H a=some (.tup [.str (Str.ofString "ring"),.ref b])∧H b=some (.tup (bf r))
 | .case i j p q,a=>∃ b c,H a=some (.tup [.str (Str.ofString "case"),.int (i:Nat),.int (j:Nat),.ref b,.ref c])∧vt H p b∧vt H q c
theorem vt.same {H H':Hp} (s:Mb H H'):∀ {p:Pap} {a:Addr},vt H p a→vt H' p a:=by
 intro p
 induction p with
 | alone k=>intro a h;exact s _ _ h
 | ring r=>intro a ⟨b,h1,h2⟩;exact ⟨b,s _ _ h1,s _ _ h2⟩
 | case i j p q ihp ihq=>intro a ⟨b,c,h1,h2,h3⟩;exact ⟨b,c,s _ _ h1,ihp h2,ihq h3⟩
theorem Xi.mod {S:Sys} {z:Int} {b:Nat→Int} (D:Xi S z b):Xi S z fun v=>b v % z:=⟨D.1,fun i j e=>by
 have:=D.2 i j e;show _ ≤ (b j % z - b i % z) % z;rw [← Int.sub_emod];exact this⟩
noncomputable def PJ (S:Sys) (z:Int) (o:Od) (d:Nat) (H H':Hp) (bv pv:V):Prop:=(∃ b pb,bv=.ref pb∧pv=.non∧H pb=none∧H' pb=some (.lst (Tr S b))∧(∀ v,0 ≤ b v∧b v < z)∧Xi S z b)∨(∃ p pa,bv=.non∧pv=.ref pa∧vt H' p pa∧Di S z o p=true∧Xx S.m d p)
section
variable (P:Program) (w:World)
noncomputable def kK (t:Adr) (d:Nat) (vs:List V) (H:Hp) (z:Int) (n:Int) (ws:List (WD × Int)) (o:Od):Prop:=∃ wp rl a k,vs=[.ref wp,.int z,.ref rl,.ref a]∧Uc P w t H wp n ws∧Ou H rl (ug (Eb n ws) k)∧lev (Eb n ws) k=[]∧k ≤ 6∧Ij P w H a o∧Uy (Eb n ws) o∧Lv n ws∧unO (Eb n ws) o ≤ d∧(∀ i,i < ws.length→(Eb n ws).al i ≤ z)∧NoT H
noncomputable def Sv (t:Adr) (d:Nat):Sp:=fun vs H Q _=>∃ z n ws o,kK P w t d vs H z n ws o∧∀ r bv pv H',Mb H H'→NoT H'→H' r=some (.tup [bv,pv])→PJ (Eb n ws) z o d H H' bv pv→Q (.ref r) H'
noncomputable def xG (t:Adr):Nat→Sp
 | 0=>fun _ _ _ _=>False
 | d + 1=>Sv P w t d
end
section
variable {P:Program} {w:World} {K:PySem.W.Frag} {mg:Str→Option Value} {base:Heap} {t:Adr}
theorem Fv (T:Txt w K mg t) (d:Nat) (g13:Kb P w K mg base CX0 (d + 2) t.rh t.ph q15 (xG P w t d)):Kb P w K mg base CX0 (d + 3) t.rh t.ph q15 (Sv P w t d):=by
 refine T.nh.ok Md (fun vs H Q E h=>?_) (fun _ _ _ s H vs Q E hr h=>?_)
 ·obtain ⟨z,n,ws,o,⟨wp,rl,a,k,rfl,_⟩,_⟩:=h;rfl
 obtain ⟨z,n,ws,o,⟨wp,rl,a,k,rfl,W,R,hk0,hk6,O,od,wk,hd,ha,nt⟩,q⟩:=h;have hu:=Ck hr;have hws:=wk.2.1;have hm:(Eb n ws).m ≤ 6:=hws;have hz:0 < z:=by
  have h0:0 < ws.length:=List.length_pos_iff.mpr wk.2.2;have:=ha 0 h0;have:=wk.ok.a1 (i:=0) h0;omega
 obtain ⟨qs,r1,r2⟩:=id R;have g44:Kb P w K mg base CX0 (d + 2) t.Ff t.Gf q19 (EI P w t):=(DK T).mono (by omega);have g45:Kb P w K mg base CX0 (d + 2) t.jd t.bd q27 (YE P w t):=(rJ T).mono (by omega);have g46:Kb P w K mg base CX0 (d + 2) t.ke t.je q28 (CF P w t):=(cJ T).mono (by omega);have g23:Kb P w K mg base CX0 (d + 2) t.zg t.Kg q9 (QE P w (Eb n ws)):=(FI T _).mono (by omega);refine ⟨_,(cb (Af PassesOwn.never rfl (Ph (pv 2)) (xb (i:=4) Md.nd) (ib (Ee (Bm (qb g44 hr T.Vr T.Ri.kp T.bu (ab (pv 0) (ab (pv 1) (ab (pv 3) (ab (pv 4) gb)))))) (ib (Fb (Lc (ab Sg (ab (Lc (ab ud (ab (pv 4) gb))) gb))))) Yb)))
   (cb (wb (i:=5) Md.nd (qb g45 hr T.Nj T.pe.kp T.Oj (ab (pv 0) (ab (pv 3) gb))))
   (cb (Ee (Vb mF (pv 5) Sg (Zb _)) (ib (Fb (Lc (ab (qb g46 hr T.tm T.pf.kp T.am (ab (pv 0) (ab (pv 1) (ab (pv 3) gb)))) (ab Sg gb))))) Yb)
   (cb (Et (pv 5) (Ue (K:=K) (n:=2) rfl rfl (Ob (xb (i:=6) Md.nd) (Ob (xb (i:=7) Md.nd) Me))))
   (cb (Et (qb g13 hr T.Oo T.nh.kp T.io (ab (pv 0) (ab (pv 1) (ab (pv 2) (ab (qb g23 hr T.Cm T.Pg.kp T.Hm (ab (pv 3) (ab (pv 6) (ab (pv 7) gb)))) gb))))) (Ue (K:=K) (n:=2) rfl rfl (Ob (xb (i:=8) Md.nd) (Ob (xb (i:=9) Md.nd) Me))))
   (cb (Ee (Vb zu (pv 8) Sg (Zb _)) (ib (Fb (Lc (ab (pv 8) (ab Sg gb))))) Yb)
   (cb (Et (qb g13 hr T.Oo T.nh.kp T.io (ab (pv 0) (ab (pv 1) (ab (pv 2) (ab (qb g23 hr T.Cm T.Pg.kp T.Hm (ab (pv 3) (ab (pv 7) (ab (pv 6) gb)))) gb))))) (Ue (K:=K) (n:=2) rfl rfl (Ob (xb (i:=8) Md.nd) (Ob (xb (i:=10) Md.nd) Me))))
   (cb (Ee (Vb zu (pv 8) Sg (Zb _)) (ib (Fb (Lc (ab (pv 8) (ab Sg gb))))) Yb)
   (ib (Fb (Lc (ab Sg (ab (Lc (ab ud (ab (pv 6) (ab (pv 7) (ab (pv 9) (ab (pv 10) gb)))))) gb))))))))))))),?_⟩
 simp only [Cb];refine vc (fun σ' H'=>H'=H∧(∀ r ∈ ug (Eb n ws) k,Mi (Eb n ws) z o r=false)∧∃ x,σ'=[some (.ref wp),some (.int z),some (.ref rl),some (.ref a),x,none,none,none,none,none,none]) (fun D' hD hrt _ _=>?_) ?_
 ·walk_at "RD";refine ⟨⟨_,SqL.of r1⟩,?_⟩;refine Vj.list (xs:=qs.map V.ref) (fun i σ H'=>H'=H∧(∀ (l:Nat) r,l < i→(ug (Eb n ws) k)[l]? = some r→Mi (Eb n ws) z o r=false)∧∃ x,σ=[some (.ref wp),some (.int z),some (.ref rl),some (.ref a),x,none,none,none,none,none,none]) ⟨rfl,fun l r hl=>absurd hl (Nat.not_lt_zero _),_,rfl⟩ (fun i σ H' _ z=>by rw [z.1];exact SqL.of r1) ?_ ?_
  ·rintro i v σ H1 hv zzq;refine zP fun zM zzh=>?_
   obtain ⟨rfl,hno,x,rfl⟩:=zzq;obtain ⟨qi,hqi,rfl⟩:=vh hv;obtain ⟨r,hr1,hr2⟩:=r2.at hqi;obtain ⟨l,hl,hlev⟩:=Ox (List.mem_of_getElem? hr1);obtain ⟨g1,g2,g3⟩:=Ov _ _ hlev;subst zzh;simp only [Nh,List.set_cons_succ,List.set_cons_zero];refine Qb (Mi (Eb n ws) z o r) (fun Q hQ=>?_) (fun hb=>?_) (fun hb=>?_)
   ·walk_at "RD";exact ⟨wp,z,a,qi,o,r,n,ws,rfl,W,O,hr2,by omega,od,wk,nt,_,rfl,hQ⟩
   ·walk_at "RD";rw [hrt];refine ⟨by decide,fun p1 hp1=>⟨by decide,fun p2 hp2=>?_⟩⟩;have s2:=(fb (o:=.tup [.str (Str.ofString "ring"),.ref qi]) hp1).trans (fb (o:=.tup [V.non,.ref p1]) hp2);exact q p2 .non (.ref p1) _ s2 ((nt.upd).upd) db (.inr ⟨.ring r,p1,rfl,rfl,⟨qi,fb hp2 _ _ db,s2 _ _ hr2⟩,hb,by cases d <;> exact g3⟩)
   ·simp only [Jc];refine ⟨trivial,fun l' r' hl' hr'=>?_,_,rfl⟩;rcases Nat.lt_or_ge l' i with y | y
    ·exact hno l' r' y hr'
    ·have:l'=i:=by omega
     subst this;rw [hr1] at hr';cases hr';exact hb
  ·rintro σ H1 zzq;refine zP fun zM zzh=>?_
   obtain ⟨rfl,hno,x,rfl⟩:=zzq;subst zzh;refine hD _ _ ⟨rfl,fun r hr=>?_,x,rfl⟩;obtain ⟨l,hl⟩:=List.getElem?_of_mem hr;refine hno l r ?_ hl;rw [List.length_map,r2.1];exact (List.getElem?_eq_some_iff.mp hl).1
 rintro σ1 H1 zzq;refine zP fun zM zzh=>?_
 obtain ⟨rfl,hno,x,rfl⟩:=zzq;subst zzh;simp only [Cb];refine vc (fun σ' H'=>Mb H1 H'∧NoT H'∧((H'=H1∧(∀ i j,(Eb n ws).e i j=true→inO o i j=true)∧σ'=[some (.ref wp),some (.int z),some (.ref rl),some (.ref a),x,some .non,none,none,none,none,none])∨∃ pr i j,H' pr=some (.tup [.int (i:Nat),.int (j:Nat)])∧(Eb n ws).e i j=true∧inO o i j=false∧σ'=[some (.ref wp),some (.int z),some (.ref rl),some (.ref a),x,some (.ref pr),none,none,none,none,none])) (fun D' hD hrt _ _=>?_) ?_
 ·walk_at "RD";exact ⟨wp,a,n,ws,o,rfl,W,O,wk,nt,fun r i j H' s2 n2 e he hi=>hD _ _ ⟨s2,n2,.inr ⟨r,i,j,e,he,hi,rfl⟩⟩,fun hi=>hD _ _ ⟨Mb.refl _,nt,.inl ⟨rfl,hi,rfl⟩⟩⟩
 rintro σ2 H2 ⟨s2,n2,(⟨rfl,hall,rfl⟩ | ⟨pr,i,j,hpr,he,hio,rfl⟩)⟩
 ·simp only [Cb];refine Qb true (fun Q hQ=>?_) (fun _=>?_) (fun z=>nomatch z)
  ·walk_at "RD";exact hQ
  ·walk_at "RD";refine ⟨wp,z,a,n,ws,o,rfl,W,O,wk,hz,nt,fun r H3 s3 n3 hr3 e3=>⟨by decide,fun p hp=>q p (.ref r) .non _ (s3.trans (fb hp)) n3.upd db (.inl ⟨_,r,rfl,rfl,hr3,fb hp _ _ e3,fun v=>⟨Int.emod_nonneg _ (by omega),Int.emod_lt_of_pos _ hz⟩,?_⟩)⟩⟩;exact (wt wk.ok hz ha hall od.as fun i j e=>Qx wk.ok (fun p hp=>Gi hp) (fun i j h=>Ir wk.ok h) (wy wk.ok hk0 hall hno) e).mod
 simp only [Cb];refine Qb false (fun Q hQ=>?_) (fun z=>nomatch z) (fun _=>?_)
 ·walk_at "RD";exact hQ
 simp only [Jc,Cb];obtain ⟨d',rfl⟩:∃ d',d=d' + 1:=⟨d - 1,by have:=eG wk.ok he hio;omega⟩;have hio':=hio;unfold inO at hio';rw [Bool.or_eq_false_iff,decide_eq_false_iff_not,decide_eq_false_iff_not] at hio';have hio2:inO o j i=false:=by rw [jr];exact hio
 refine jH (.ref pr) (fun Q hQ=>by walk_at "RD";exact hQ) (Qk (SqT.of hpr) ?_);simp only [Cb,List.set_cons_succ,List.set_cons_zero];refine vc (fun σ' H'=>∃ Ha bv pv,Mb H2 Ha∧Mb Ha H'∧NoT H'∧PJ (Eb n ws) z (o ++ [(i,j)]) d' Ha H' bv pv∧σ'=[some (.ref wp),some (.int z),some (.ref rl),some (.ref a),x,some (.ref pr),some (.int (i:Nat)),some (.int (j:Nat)),some bv,some pv,none]) (fun D' hD hrt _ _=>?_) ?_
 ·walk_at "RD";refine ⟨a,i,j,o,rfl,Ib O s2,od,wk.ok,hm,hio'.1,n2,fun r3 H3 s3 n3 O3=>?_⟩;have s23:=s2.trans s3;refine ⟨z,n,ws,o ++ [(i,j)],⟨wp,rl,r3,k,rfl,W.same s23,R.same s23,hk0,hk6,O3,od.put wk.ok he hio,wk,by have:=Su (o:=o) wk.ok he hio;omega,ha,n3⟩,fun r4 bv pv H4 s4 n4 e4 SP=>?_⟩;exact ⟨r4,rfl,_,SqT.of e4,rfl,_,_,rfl,_,_,rfl,rfl,hD _ _ ⟨H3,bv,pv,s3,s4,n4,SP,rfl⟩⟩
 rintro σ3 H4 zzq;refine zP fun zM zzh=>?_
 obtain ⟨Ha,bv,pv,sa,s4,n4,SP,rfl⟩:=zzq;subst zzh;simp only [Cb];have s24:=s2.trans (sa.trans s4);rcases SP with ⟨b,pb,rfl,rfl,hb0,hb1,hb2,hb3⟩ | ⟨p1,pa,rfl,rfl,hp1,hp2,hp3⟩
 ·refine Qb true (fun Q hQ=>?_) (fun _=>?_) (fun z=>nomatch z)
  ·walk_at "RD";exact hQ
  ·walk_at "RD";exact ⟨by decide,fun p hp=>q p _ _ _ (s24.trans (fb hp)) n4.upd db (.inl ⟨b,pb,rfl,rfl,(s2.trans sa).free hb0,fb hp _ _ hb1,hb2,hb3⟩)⟩
 refine Qb false (fun Q hQ=>?_) (fun z=>nomatch z) (fun _=>?_)
 ·walk_at "RD";exact hQ
 simp only [Jc,Cb];refine vc (fun σ' H'=>∃ Hb bv pv,Mb H4 Hb∧Mb Hb H'∧NoT H'∧PJ (Eb n ws) z (o ++ [(j,i)]) d' Hb H' bv pv∧σ'=[some (.ref wp),some (.int z),some (.ref rl),some (.ref a),x,some (.ref pr),some (.int (i:Nat)),some (.int (j:Nat)),some bv,some (.ref pa),some pv]) (fun D' hD hrt _ _=>?_) ?_
 ·walk_at "RD";refine ⟨a,j,i,o,rfl,Ib O s24,od,wk.ok,hm,hio'.2,n4,fun r5 H5 s5 n5 O5=>?_⟩;have s25:=s24.trans s5;have hei:=wk.ok.sy he;refine ⟨z,n,ws,o ++ [(j,i)],⟨wp,rl,r5,k,rfl,W.same s25,R.same s25,hk0,hk6,O5,od.put wk.ok hei hio2,wk,by have:=Su (o:=o) wk.ok hei hio2;omega,ha,n5⟩,fun r6 bv pv H6 s6 n6 e6 SP=>?_⟩;exact ⟨r6,rfl,_,SqT.of e6,rfl,_,_,rfl,_,_,rfl,rfl,hD _ _ ⟨H5,bv,pv,s5,s6,n6,SP,rfl⟩⟩
 rintro σ5 H6 zzq;refine zP fun zM zzh=>?_
 obtain ⟨Hb,bv,pv,sb,s6,n6,SP,rfl⟩:=zzq;subst zzh;simp only [Cb];have s46:=sb.trans s6;have s26:=s24.trans s46;rcases SP with ⟨b,pb,rfl,rfl,hb0,hb1,hb2,hb3⟩ | ⟨p2,pa2,rfl,rfl,hq1,hq2,hq3⟩
 ·refine Qb true (fun Q hQ=>?_) (fun _=>?_) (fun z=>nomatch z)
  ·walk_at "RD";exact hQ
  ·walk_at "RD";exact ⟨by decide,fun p hp=>q p _ _ _ (s26.trans (fb hp)) n6.upd db (.inl ⟨b,pb,rfl,rfl,(s24.trans sb).free hb0,fb hp _ _ hb1,hb2,hb3⟩)⟩
 refine Qb false (fun Q hQ=>?_) (fun z=>nomatch z) (fun _=>?_)
 ·walk_at "RD";exact hQ
 simp only [Jc];walk_at "RD";refine ⟨by decide,fun p3 hp3'=>⟨by decide,fun p4 hp4=>?_⟩⟩;have t1:=fb (o:=.tup [.str (Str.ofString "case"),.int (i:Nat),.int (j:Nat),.ref pa,.ref pa2]) hp3';have t2:=fb (o:=.tup [V.non,.ref p3]) hp4;have hl:=wk.ok.lt he;refine q p4 .non (.ref p3) _ (s26.trans (t1.trans t2)) ((n6.upd).upd) db (.inr ⟨.case i j p1 p2,p3,rfl,rfl,⟨pa,pa2,t2 _ _ db,(hp1.same s46).same (t1.trans t2),hq1.same (t1.trans t2)⟩,?_,hl.1,hl.2.1,hp3,hq3⟩);show ((Eb n ws).e i j && !inO o i j && Di (Eb n ws) z (o ++ [(i,j)]) p1 && Di (Eb n ws) z (o ++ [(j,i)]) p2)=true;rw [he,hio,hp2,hq2];rfl
theorem fF (T:Txt w K mg t):∀ d,Kb P w K mg base CX0 (d + 3) t.rh t.ph q15 (Sv P w t d)
 | 0=>Fv T 0 (T.nh.ok Md (fun vs H Q E h=>h.elim) (fun cdv A outer s H vs Q E hr h=>h.elim))
 | d + 1=>Fv T (d + 1) (fF T d)
end
section
variable (P:Program) (w:World)
noncomputable def az (t:Adr):Sp:=fun vs H Q _=>∃ wp z rl k n ws,vs=[.ref wp,.int z,.ref rl]∧Uc P w t H wp n ws∧Ou H rl (ug (Eb n ws) k)∧lev (Eb n ws) k=[]∧k ≤ 6∧Lv n ws∧NoT H ∧
 ∀ r bv pv H',Mb H H'→NoT H'→H' r=some (.tup [bv,pv])→PJ (Eb n ws) z (Qs (Eb n ws)) (unO (Eb n ws) (Qs (Eb n ws))) H H' bv pv→Q (.ref r) H'
noncomputable def Kz (t:Adr):Sp:=fun vs H Q _=>∃ wp n ws,vs=[.ref wp]∧Uc P w t H wp n ws∧Lv n ws∧NoT H∧∀ z b H',Mb H H'→NoT H'→Xi (Eb n ws) z b→z ≤ 20000→Q (.int z) H'
end
section
variable {P:Program} {w:World} {K:PySem.W.Frag} {mg:Str→Option Value} {base:Heap} {t:Adr}
theorem cD {k:Nat} {f:Addr} {fd:FuncData} {ps:List Str} {sp:Nat→Sp} {m:Nat} (F:∀ n,n ≤ m→Kb P w K mg base CX0 k f fd ps (sp n)):Kb P w K mg base CX0 k f fd ps (fun vs H Q E=>∃ n,n ≤ m∧sp n vs H Q E):=
 ⟨fun vs H Q E ⟨n,hn,h⟩=>(F n hn).len vs H Q E h,fun A outer s H args us vs Q E hr he hb hv ⟨n,hn,h⟩=>(F n hn).run A outer s H args us vs Q E hr he hb hv h⟩
theorem kD {n:Int} {ws:List (WD × Int)} {i:Nat} {p:WD × Int} (h:ws[i]? = some p):(Eb n ws).al i=Kc p:=by
 show (match ws[i]? with | some p=>Kc p | none=>0)=_;rw [h]
theorem dG (T:Txt w K mg t):Kb P w K mg base CX0 14 t.Wf t.ag q29 (az P w t):=by
 have g13:Kb P w K mg base CX0 13 t.rh t.ph q15 (fun vs H Q E=>∃ n,n ≤ 10∧Sv P w t n vs H Q E):=cD fun n hn=>(fF T n).mono (by omega)
 have g47:Kb P w K mg base CX0 13 t.ye t.Ae ["wanted"] (VE P w t):=(bJ T).mono (by decide);refine T.Ie.ok Zg (fun vs H Q E h=>?_) (fun _ _ _ s H vs Q E hr h=>?_)
 ·obtain ⟨wp,z,rl,k,n,ws,rfl,_⟩:=h;rfl
 obtain ⟨wp,z,rl,k,n,ws,rfl,W,R,hk0,hk6,wk,nt,q⟩:=h;obtain ⟨dx,al,sd,e1,e2,D⟩:=id W;have hu:=Ck hr;have hws:=wk.2.1;refine ⟨_,(cb (Af PassesOwn.never rfl (yo rfl T.mf (ab (Pb (pv 0) rfl) gb)) (Ue (K:=K) (n:=2) rfl rfl (Ob (xb (i:=3) Zg.nd) (Ob (xb (i:=4) Zg.nd) Me))) (ib (Ee (Vb Ry (pv 4) (pv 1) (Zb _)) (ib (Fb (Lc (ab Sg (ab (Lc (ab ud (ab (pv 3) gb))) gb))))) Yb)))
   (ib (Fb (qb g13 hr T.Oo T.nh.kp T.io (ab (pv 0) (ab (pv 1) (ab (pv 2) (ab (qb g47 hr T.Sm T.Jf.kp T.bn (ab (pv 0) gb)) gb)))))))),?_⟩
 walk_at "RD";refine ⟨_,No T e1,_,rfl,⟨_,SqL.of e2⟩,?_⟩;refine Vj.enum (xs:=ws.map fun p=>V.int (Kc p)) (fun i σ H'=>Mb H H'∧NoT H'∧(∀ l,l < i→(Eb n ws).al l ≤ z)∧∃ x y,σ=[some (.ref wp),some (.int z),some (.ref rl),x,y]) ⟨Mb.refl _,nt,fun l hl=>absurd hl (Nat.not_lt_zero _),_,_,rfl⟩ (fun i σ H' _ ⟨s1,_⟩=>SqL.of (s1 _ _ e2)) ?_ ?_
 ·rintro i v σ H1 tp hv ⟨s1,n1,hal,x,y,rfl⟩ htp;obtain ⟨p,hp,rfl⟩:=vh hv;have hai:=kD (n:=n) hp;have hil:=(List.getElem?_eq_some_iff.mp hp).1;refine yg ?_;simp only [List.set_cons_succ,List.set_cons_zero];have s2:=s1.trans (fb (o:=.tup [.int i,.int (Kc p)]) htp);have n2:NoT (upd H1 tp (.tup [.int i,.int (Kc p)])):=n1.upd;generalize upd H1 tp (.tup [.int i,.int (Kc p)])=H2 at s2 n2 ⊢;refine Qb (decide (z < Kc p)) (fun Q hQ=>?_) (fun hb=>?_) (fun hb=>?_)
  ·walk_at "RD";exact hQ
  ·walk_at "RD";refine ⟨by decide,fun p1 hp1=>⟨by decide,fun p2 hp2=>?_⟩⟩;have t1:=fb (o:=.tup [.str (Str.ofString "alone"),.int (i:Nat)]) hp1;have t2:=fb (o:=.tup [V.non,.ref p1]) hp2;refine q p2 .non (.ref p1) _ (s2.trans (t1.trans t2)) ((n2.upd).upd) db (.inr ⟨.alone i,p1,rfl,rfl,t2 _ _ db,?_,?_⟩)
   ·show decide (z < (Eb n ws).al i)=true;rw [hai];exact hb
   ·unfold Xx;exact hil
  ·simp only [Jc];refine ⟨s2,n2,fun l hl=>?_,_,_,rfl⟩;rcases Nat.lt_or_ge l i with y | y
   ·exact hal l y
   ·have:l=i:=by omega
    subst this;rw [hai];have:=of_decide_eq_false hb;omega
 ·rintro σ H1 zzq;refine zP fun zM zzh=>?_
  obtain ⟨s1,n1,hal,x,y,rfl⟩:=zzq;subst zzh;rw [List.length_map] at hal;walk_at "RD";refine ⟨wp,n,ws,rfl,W.same s1,wk,n1,fun r H2 s2 n2 O2=>?_⟩;have s12:=s1.trans s2;refine ⟨unO (Eb n ws) (Qs (Eb n ws)),(bD wk.ok hws).1,z,n,ws,Qs (Eb n ws),⟨wp,rl,r,k,rfl,W.same s12,R.same s12,hk0,hk6,O2,pG,wk,Nat.le_refl _,hal,n2⟩,fun r3 bv pv H3 s3 n3 e3 SP=>q r3 bv pv H3 (s12.trans s3) n3 e3 ?_⟩;rcases SP with ⟨b,pb,h1,h2,h3,h4⟩ | h
  ·exact .inl ⟨b,pb,h1,h2,s12.free h3,h4⟩
  ·exact .inr h
noncomputable def Fx:List Int→Int
 | []=>0
 | x :: l=>max x (Fx l)
theorem Sw:∀ l,0 ≤ Fx l
 | []=>Int.le_refl _
 | x :: l=>Int.le_trans (Sw l) (Int.le_max_right ..)
theorem jz:∀ {l:List Int} {x:Int},x ∈ l→x ≤ Fx l
 | y :: l,x,h=>by
  rcases List.mem_cons.mp h with rfl | h
  ·exact Int.le_max_left ..
  ·exact Int.le_trans (jz h) (Int.le_max_right ..)
theorem yB:∀ {l:List Int} {m:Int},0 ≤ m→(∀ x ∈ l,x ≤ m)→Fx l ≤ m
 | [],m,h,_=>h
 | x :: l,m,h,g=>Int.max_le.mpr ⟨g x (List.mem_cons_self ..),yB h fun y hy=>g y (List.mem_cons_of_mem _ hy)⟩
theorem Ss:∀ (l:List Int) (x:Int),0 ≤ x→l.foldl max x=max x (Fx l)
 | [],x,h=>(Int.max_eq_left h).symm
 | y :: l,x,h=>by
  rw [List.foldl_cons,Ss l _ (Int.le_trans h (Int.le_max_left ..))];exact Int.max_assoc ..
theorem UG (l:List Int) (h:∀ x ∈ l,0 ≤ x):(l.max? = none∧Fx l=0)∨l.max? = some (Fx l):=by
 cases l with
 | nil=>exact .inl ⟨rfl,rfl⟩
 | cons x l=>
  rw [List.max?_cons',Ss l x (h x (List.mem_cons_self ..))];exact .inr rfl
noncomputable def stL (S:Sys) (i:Nat) (l:Od):List Int:=(l.filter fun p=>decide (p.1=i)).map fun p=>S.st p.1 p.2
theorem BI {S:Sys} (k:S.Ok) {i j:Nat} (h:S.e i j=true):S.st i j ∈ stL S i (Fe S):=List.mem_map.mpr ⟨(i,j),List.mem_filter.mpr ⟨Ir k h,decide_eq_true rfl⟩,rfl⟩
theorem AA {S:Sys} {i:Nat} {x:Int} (h:x ∈ stL S i (Fe S)):∃ j,S.e i j=true∧x=S.st i j:=by
 obtain ⟨⟨a,b⟩,hp,rfl⟩:=List.mem_map.mp h;obtain ⟨h1,h2⟩:=List.mem_filter.mp hp;have:a=i:=of_decide_eq_true h2;subst this;exact ⟨b,Gi h1,rfl⟩
theorem WC {f:Nat→Int} {c:Int} (hc:0 ≤ c):∀ {m:Nat},(∀ i,i < m→f i ≤ c)→Lm f m ≤ m * c:=by
 intro m
 induction m with
 | zero=>intro _;simp [Lm]
 | succ m ih=>
  intro h;have h1:=ih fun i hi=>h i (by omega)
  have h2:=h m (by omega);show Lm f m + f m ≤ _;rw [show ((m + 1:Nat):Int) * c=m * c + c by rw [Int.natCast_add,Int.add_mul];simp];omega
theorem Nv (f g:Nat→Int):∀ m,Lm (fun i=>f i + g i) m=Lm f m + Lm g m:=by
 intro m
 induction m with
 | zero=>rfl
 | succ m ih=>
  show Lm _ m + (f m + g m)=(Lm f m + f m) + (Lm g m + g m);rw [ih];omega
theorem aI {n:Int} {ws:List (WD × Int)}:∀ k,k ≤ ws.length→((ws.take k).map Kc).sum=Lm (Eb n ws).al k:=by
 intro k
 induction k with
 | zero=>intro _;rfl
 | succ k ih=>
  intro hk;have hp:ws[k]? = some ws[k]:=List.getElem?_eq_getElem (by omega);show _=Lm (Eb n ws).al k + (Eb n ws).al k;rw [List.take_add_one,hp,List.map_append,List.sum_append,ih (by omega),kD hp];simp
theorem Dz {n:Int} {d:WD} (o:WOk n d):qm d + zh d ≤ 100:=by
 have h:=o.of;unfold qm zh;rcases d with ⟨k,_⟩
 match k with
 | 0=>simp
 | 1=>simp at h ⊢;omega
 | k + 2=>simp
theorem SI {n:Int} {d e:WD} (o:WOk n d) (p:WOk n e):tw d e ≤ 100:=by
 have h1:=o.of;have h2:=p.nr;unfold tw;split <;> omega
theorem qH (T:Txt w K mg t):Kb P w K mg base CX0 2 t.Tf t.Yf ["wanted"] (Kz P w t):=by
 refine T.Jh.ok sf (fun vs H Q E h=>?_) (fun _ _ _ s H vs Q E hr h=>?_)
 ·obtain ⟨wp,n,ws,rfl,_⟩:=h;rfl
 obtain ⟨wp,n,ws,rfl,W,wk,nt,q⟩:=h;obtain ⟨dx,al,sd,e1,e2,D⟩:=id W;have hu:=Ck hr;have hws:=wk.2.1;refine ⟨_,(cb (wb (i:=1) sf.nd (Ed (jE rfl) rfl T.BK Ny (ab (Pb (pv 0) rfl) gb)))
   (cb (Af PassesOwn.never rfl (ue rfl T.Hf (ab (Pb (pv 0) rfl) gb)) (Du (i:=2) sf.nd rfl (Or.inr rfl)) (ib (NE (i:=1) sf.nd rfl (Or.inl rfl) (vH rfl rfl T.WG (ab (eh rfl (kA (Pb (pv 0) rfl)) (Hc (sc:=jb Oh) rfl (by decide +kernel)) (N:=["pair","wanted","want"]) (sel:=[none,some 0,some 2]) (Cd (M:=["wanted","total","want"]) (by decide +kernel)) (Blk.of (fun _ _ _ _=>(xb (i:=0) (xi (N:=["pair","wanted","want"]) (by decide +kernel) rfl))) (fun _ _ _ _=>⟨_,(Hr (Vb Gk (gc Je (pv 0) lb) (pv 2) (Zb _))),by walk_at "B"⟩) (fun _ _ _ _=>⟨_,(Vz hu (Pb (pv 1) rfl) (pv 0) (fun _ _=>rfl)),by walk_at "B"⟩))) gb) lb) RF)))
   (ib (Fb (pv 1))))),?_⟩
 walk_at "RD";have e2':H al=some (.lst ((ws.map Kc).map V.int)):=by rw [List.map_map];exact e2
 refine ⟨_,No T e1,_,rfl,_,SqL.of e2',?_,by rw [List.length_map];omega,_,Ah T e1,_,rfl,by omega,by omega,?_⟩
 ·intro k hk;obtain ⟨p,hp,rfl⟩:=List.mem_map.mp hk;obtain ⟨h1,h2,h3⟩:=wk.1 p hp;have h4:=fw h1;have h5:=Dz h1;unfold Kc;omega
 rw [show ((ws.length:Int)).toNat=ws.length by omega];refine Vj.range (fun i σ H'=>Mb H H'∧NoT H'∧∃ x,σ=[some (.ref wp),some (.int ((ws.map Kc).sum + Lm (fun i=>Fx (stL (Eb n ws) i (Fe (Eb n ws)))) i)),x]) ⟨Mb.refl _,nt,_,by rw [show Lm _ 0=0 from rfl,Int.add_zero]⟩ ?_ ?_
 ·rintro i σ H1 hi zzq;refine zP fun zM zzh=>?_
  obtain ⟨s1,n1,x,rfl⟩:=zzq;subst zzh;(walk_at "RD"; repeat (dsimp only [oI];walk_at "RD"));refine ⟨_,ce T (s1 _ _ e1),sd,rfl,_,Ib D s1,fun ob es ep xs r=>?_⟩;have hsl:(Fe (Eb n ws)).length ≤ 36:=qz hws;have hal:(cf n ws ws.length).length=(Fe (Eb n ws)).length:=by rw [gm,List.length_map]
  refine Yc.of (n:=(cf n ws ws.length).length) (fun j ys H'=>H'=H1∧ys=(stL (Eb n ws) i ((Fe (Eb n ws)).take j)).map V.int) (by rw [hal];exact Nat.le_trans hsl (by decide)) ⟨rfl,rfl⟩ ?_ ?_ ?_ ?_ ?_
  ·rintro j ys H' hj ⟨rfl,_⟩;exact ⟨r.at_,hj⟩
  ·rintro ys H' ⟨rfl,_⟩;exact ⟨r.at_,Nat.le_refl _⟩
  ·rintro j ys H' hj ⟨_,rfl⟩;unfold stL;rw [List.length_map,List.length_map];refine Nat.le_trans (List.length_filter_le ..) ?_;rw [List.length_take];omega
  ·rintro j ys H' v H2 hj ⟨rfl,rfl⟩ ⟨rfl,k,bb,u',hxs,rfl⟩ N hN;obtain ⟨i1,j1,hp,hbb⟩:=mr r.ks hxs;have he:=Gi (List.mem_of_getElem? hp);have ef:stL (Eb n ws) i ((Fe (Eb n ws)).take (j + 1))=stL (Eb n ws) i ((Fe (Eb n ws)).take j) ++ (if i1=i then [(Eb n ws).st i1 j1] else []):=by
    unfold stL;rw [List.take_add_one,hp,List.filter_append,List.map_append];show _ ++ List.map _ (List.filter _ [(i1,j1)])=_;rw [List.filter_cons,List.filter_nil];by_cases h:i1=i
    ·rw [if_pos h,if_pos (decide_eq_true h)];rfl
    ·rw [if_neg h,if_neg (by simpa using h)];rfl
   walk_at "RD";refine ⟨Sub.name,_,SqT.of hbb,_,Ub (j:=0) rfl,rfl,?_⟩;by_cases h:i1=i
   ·rw [if_pos (by rw [h];exact decide_eq_true rfl)];refine ⟨_,ce T (s1 _ _ e1),sd,rfl,_,Ib D s1,Ce i1 j1,hbb,_,Mw he,hN _ _ ⟨rfl,?_⟩⟩;rw [ef,if_pos h,List.map_append];rfl
   ·rw [if_neg (by rw [decide_eq_true_eq];exact fun g=>h (Int.ofNat.inj (V.int.inj g)))];refine hN _ _ ⟨rfl,?_⟩;rw [ef,if_neg h,List.append_nil]
  ·rintro ys H' ⟨rfl,rfl⟩ l hl;rw [hal,List.take_length];refine ⟨l,rfl,_,SqL.of db,?_⟩;have hS:Lm (fun i=>Fx (stL (Eb n ws) i (Fe (Eb n ws)))) (i + 1)=Lm (fun i=>Fx (stL (Eb n ws) i (Fe (Eb n ws)))) i + Fx (stL (Eb n ws) i (Fe (Eb n ws))):=rfl;rcases UG (stL (Eb n ws) i (Fe (Eb n ws))) (fun x hx=>by
    obtain ⟨j,he,rfl⟩:=AA hx;have:=wk.ok.s1 he
    omega) with ⟨g1,g2⟩ | g1
   ·rw [g1];exact ⟨_,_,rfl,rfl,s1.trans (fb hl),n1.upd,by rw [hS,g2,← Int.add_assoc],_,rfl⟩
   ·rw [g1];exact ⟨_,_,rfl,rfl,s1.trans (fb hl),n1.upd,by rw [hS,← Int.add_assoc],_,rfl⟩
 ·rintro σ H1 zzq;refine zP fun zM zzh=>?_
  obtain ⟨s1,n1,x,rfl⟩:=zzq;subst zzh;walk_at "RD";have hT:=oG wk.ok (mx:=fun i=>Fx (stL (Eb n ws) i (Fe (Eb n ws)))) (fun i=>Sw _) fun i j e=>jz (BI wk.ok e)
  rw [Nv] at hT;have hs:=aI (n:=n) (ws:=ws) ws.length (Nat.le_refl _);rw [List.take_length] at hs;rw [hs];refine q _ _ H1 s1 n1 hT ?_;rw [← Nv];refine Int.le_trans (WC (c:=3000) (by decide) fun i hi=>?_) (show (ws.length:Int) * 3000 ≤ 20000 by omega);have hp:ws[i]? = some ws[i]:=List.getElem?_eq_getElem hi;obtain ⟨h1,h2,h3⟩:=wk.1 _ (List.mem_of_getElem? hp);have h5:=Dz h1;have h6:(Eb n ws).al i ≤ 1100:=by
   rw [kD hp];unfold Kc;omega
  have h7:Fx (stL (Eb n ws) i (Fe (Eb n ws))) ≤ 1100:=by
   refine yB (by decide) fun x hx=>?_
   obtain ⟨j,he,rfl⟩:=AA hx;obtain ⟨p,p',g1,g2,_⟩:=pq he;rw [(rk g1 g2).2];have g3:=wk.1 p (List.mem_of_getElem? g1);have g4:=wk.1 p' (List.mem_of_getElem? g2);have:=SI g3.1 g4.1;omega
  omega
end
end My
namespace My
open PySem L2
theorem iF {n:Int} {ws:List (WD × Int)} {z:Int} (hz:0 ≤ z):∀ i,(Eb n ws).m ≤ i→(Eb n ws).al i ≤ z:=fun i hi=>by
 have e:(Eb n ws).al i=0:=by
  show (match ws[i]? with | some p=>Kc p | none=>0)=0;rw [List.getElem?_eq_none hi]
 rw [e];exact hz
structure Cu (S:Sys) (H H':Hp) (z:Int) (pb pa:Addr) (b:Nat→Int) (p:Pap):Prop where
 z1:1 ≤ z
 zl:z ≤ 20000
 nb:H pb=none
 eb:H' pb=some (.lst (Tr S b))
 rb:∀ v,0 ≤ b v∧b v < z
 does:Xi S z b
 pap:vt H' p pa
 bear:Di S (z - 1) (Qs S) p=true
 form:Xx S.m (unO S (Qs S)) p
theorem Cu.least {n:Int} {ws:List (WD × Int)} (k:(Eb n ws).Ok) {H H':Hp} {z:Int} {pb pa:Addr} {b:Nat→Int} {p:Pap} (h:Cu (Eb n ws) H H' z pb pa b p) {y:Int} (hy:0 < y) (hl:y < z) (c:Nat→Int):¬ Xi (Eb n ws) y c:=
 MB k (iF (by have:=h.z1;omega)) h.bear hy (by omega)
noncomputable def ShI (n:Int) (ws:List (WD × Int)) (H H3:Hp) (c wl x rl:Addr) (j:Nat) (σ:St) (H':Hp):Prop:=∃ lo hi pa pb p b y1 y2 y3,j=(hi - lo).toNat∧0 ≤ lo∧lo < hi∧hi ≤ 20000∧Mb H3 H'∧NoT H'∧H pb=none∧H' pb=some (.lst (Tr (Eb n ws) b))∧(∀ v,0 ≤ b v∧b v < hi)∧Xi (Eb n ws) hi b∧vt H' p pa∧Di (Eb n ws) lo (Qs (Eb n ws)) p=true∧Xx (Eb n ws).m (unO (Eb n ws) (Qs (Eb n ws))) p∧σ=[some (.ref c),some (.ref wl),some (.ref x),some (.ref rl),some (.int lo),some (.int hi),some (.ref pa),some (.ref pb),y1,y2,y3]
section
variable (P:Program) (w:World)
noncomputable def lH (t:Adr) (vs:List V) (H:Hp) (n:Int) (ws:List (WD × Int)):Prop:=∃ c wl ds,vs=[.ref c,.ref wl]∧Te t H c n ds∧0 < n∧nk H wl ws∧(∀ q ∈ ws,∃ i:Nat,ds[i]? = some q.1)∧Lv n ws∧NoT H
noncomputable def yv (t:Adr):Sp:=fun vs H Q _=>∃ n ws,lH t vs H n ws∧∀ r z pb pa b p H',Mb H H'→NoT H'→H' r=some (.tup [.int z,.ref pb,.ref pa])→Cu (Eb n ws) H H' z pb pa b p→Q (.ref r) H'
end
section
variable {P:Program} {w:World} {K:PySem.W.Frag} {mg:Str→Option Value} {base:Heap} {t:Adr}
theorem GD (T:Txt w K mg t):Kb P w K mg base CX0 15 t.rj t.wj q30 (yv t):=by
 have g48:Kb P w K mg base CX0 13 t.Xe t.Sf q36 (yw P w t):=(zD T).mono (by decide);have g49:Kb P w K mg base CX0 14 t.tj t.vj ["wanted"] (IE P w t):=(pI T).mono (by decide);have g50:Kb P w K mg base CX0 14 t.Tf t.Yf ["wanted"] (Kz P w t):=(qH T).mono (by decide);have g20:Kb P w K mg base CX0 14 t.Wf t.ag q29 (az P w t):=dG T;refine T.Eh.ok cc (fun vs H Q E h=>?_) (fun _ _ _ s H vs Q E hr h=>?_)
 ·obtain ⟨n,ws,⟨c,wl,ds,rfl,_⟩,_⟩:=h;rfl
 obtain ⟨n,ws,⟨c,wl,ds,rfl,C,hn,W,hds,wk,nt⟩,q⟩:=h;have hu:=Ck hr;have hlen:ws.length ≤ 20:=by have:=wk.2.1;omega
 have hb:∀ q ∈ ws,0 ≤ q.2∧q.2 ≤ 100000:=fun q hq=>by have:=wk.1 q hq;omega
 have h0:0 < ws.length:=List.length_pos_iff.mpr wk.2.2;refine ⟨_,(cb (wb (i:=2) cc.nd (im T.dD g48 hr rfl T.mE T.Mr .nil Pd (ab (pv 0) (ab (pv 1) gb))))
   (cb (wb (i:=3) cc.nd (qb g49 hr T.Sx T.um.kp T.oy (ab (pv 2) gb)))
   (cb (wb (i:=4) cc.nd lb)
   (cb (wb (i:=5) cc.nd (qb g50 hr T.Qq T.Jh.kp T.Gr (ab (pv 2) gb)))
   (cb (wb (i:=6) cc.nd (gc Je (qb g20 hr T.Sh T.Ie.kp T.Kh (ab (pv 2) (ab (pv 4) (ab (pv 3) gb)))) lb))
   (cb (wb (i:=7) cc.nd (gc Je (qb g20 hr T.Sh T.Ie.kp T.Kh (ab (pv 2) (ab (pv 5) (ab (pv 3) gb)))) lb))
   (cb (ox PassesOwn.never (Vb Ry (Jb qk (pv 5) (pv 4)) lb (Zb _)) (cb (wb (i:=8) cc.nd (Jb ou (Jb Bd (pv 4) (pv 5)) lb))
   (cb (Et (qb g20 hr T.Sh T.Ie.kp T.Kh (ab (pv 2) (ab (pv 8) (ab (pv 3) gb)))) (Ue (K:=K) (n:=2) rfl rfl (Ob (xb (i:=9) cc.nd) (Ob (xb (i:=10) cc.nd) Me))))
   (ib (Ee (Vb mF (pv 9) Sg (Zb _)) (cb (wb (i:=4) cc.nd (pv 8))
   (ib (wb (i:=6) cc.nd (pv 10)))) (cb (wb (i:=5) cc.nd (pv 8))
   (ib (wb (i:=7) cc.nd (pv 9)))))))))
   (ib (Fb (Lc (ab (pv 5) (ab (pv 7) (ab (pv 6) gb))))))))))))),?_⟩
 refine zS (fun σ' H'=>∃ x,Mb H H'∧NoT H'∧Uc P w t H' x n ws∧σ'=[some (.ref c),some (.ref wl),some (.ref x),none,none,none,none,none,none,none,none]) (fun D' hD=>?_) fun zM zzh=>?_
 ·walk_at "RD";intro x dx hx hdx hne;have s1:Mb H (upd (upd H dx (.own x)) x (.ins t.Gb dx [])):=(fb hdx).trans (fb (by rw [ub (Ne.symm hne)];exact hx));refine ⟨x,dx,c,wl,n,ds,ws,rfl,db,C.same s1,hn,xA W s1,hds,hlen,hb,(nt.upd).upd,fun H2 sx2 nt2 WA=>⟨rfl,?_⟩⟩;exact hD _ _ ⟨x,fun b u e=>sx2 b u (Db e hx) (s1 _ _ e),nt2,WA,rfl⟩
 rintro σ1 H1 ⟨x,s1,n1,W1,rfl⟩;subst zzh;refine zS (fun σ' H'=>∃ rl k,Mb H1 H'∧NoT H'∧lev (Eb n ws) k=[]∧k ≤ 6∧Ou H' rl (ug (Eb n ws) k)∧σ'=[some (.ref c),some (.ref wl),some (.ref x),some (.ref rl),none,none,none,none,none,none,none]) (fun D' hD=>?_) fun zM zzh=>?_
 ·walk_at "RD";exact ⟨x,n,ws,rfl,W1,wk,n1,fun r H' k s2 n2 hk0 hk6 L=>hD _ _ ⟨r,k,s2,n2,hk0,hk6,L,rfl⟩⟩
 rintro σ2 H2 ⟨rl,k,s2,n2,hk0,hk6,R,rfl⟩;have W2:=W1.same s2;subst zzh;simp only [Cb];walk_at "RD";refine ⟨x,n,ws,rfl,W2,wk,n2,fun hi bh H3 s3 n3 Dh hhi=>?_⟩;have W3:=W2.same s3;have R3:=R.same s3;have h1:1 ≤ hi:=by
  have:=Dh.1 0 h0;have:=wk.ok.a1 (i:=0) h0;omega
 refine ⟨x,0,rl,k,n,ws,rfl,W3,R3,hk0,hk6,wk,n3,fun r4 bv pv H4 s4 n4 e4 SP=>?_⟩;rcases SP with ⟨b,pb,_,_,_,_,_,hb3⟩ | ⟨p0,pa0,rfl,rfl,hp1,hp2,hp3⟩
 ·have g1:=hb3.1 0 h0;have g2:=wk.ok.a1 (i:=0) h0;omega
 refine ⟨r4,rfl,_,SqT.of e4,_,Ub (j:=1) rfl,?_⟩;refine ⟨x,hi,rl,k,n,ws,rfl,W3.same s4,R3.same s4,hk0,hk6,wk,n4,fun r5 bv pv H5 s5 n5 e5 SP=>?_⟩;rcases SP with ⟨b0,pb0,rfl,rfl,hb0,hb1,hb2,hb3⟩ | ⟨p1,pa1,_,_,_,g2,_⟩
 case inr=>exact absurd Dh (MB wk.ok (iF (by omega)) g2 (by omega) (Int.le_refl _))
 refine ⟨r5,rfl,_,SqT.of e5,_,Ub (j:=0) rfl,?_⟩;have s35:=s4.trans s5;have s03:=s1.trans (s2.trans s3);refine ⟨ShI n ws H H3 c wl x rl,⟨_,0,hi,pa0,pb0,p0,b0,_,_,_,rfl,Int.le_refl _,by omega,hhi,s35,n5,(s03.trans s4).free hb0,hb1,hb2,hb3,hp1.same s5,hp2,hp3,rfl⟩,?_⟩;rintro j σ H6 zzq;refine zP fun zM zzh=>?_
 obtain ⟨lo,hi',pa,pb,p,b,y1,y2,y3,rfl,hlo,hlt,hh,s6,n6,c1,c2,c3,c4,c5,c6,c7,rfl⟩:=zzq;have s06:=s03.trans s6;subst zzh;walk_at "RD";by_cases hw:1 < hi' - lo
 ·rw [if_pos (decide_eq_true hw)];have d1:=Int.ediv_mul_le (lo + hi') (show (2:Int) ≠ 0 by decide);have d2:=Int.lt_ediv_add_one_mul_self (lo + hi') (show (0:Int) < 2 by decide);generalize hsz:(lo + hi') / 2=sz at d1 d2 ⊢;have hs1:lo < sz:=by omega
  have hs2:sz < hi':=by omega
  refine ⟨fun σ' H'=>∃ m',m' < (hi' - lo).toNat∧ShI n ws H H3 c wl x rl m' σ' H',fun σ' H' g=>g,?_⟩;walk_at "RD";refine ⟨by unfold VJ;omega,x,sz,rl,k,n,ws,rfl,W3.same s6,R3.same s6,hk0,hk6,wk,n6,fun r7 bv pv H7 s7 n7 e7 SP=>⟨r7,rfl,_,SqT.of e7,rfl,_,_,rfl,_,_,rfl,rfl,?_⟩⟩;have s37:=s6.trans s7;rcases SP with ⟨b7,pb7,rfl,rfl,f0,f1,f2,f3⟩ | ⟨p7,pa7,rfl,rfl,f1,f2,f3⟩
  ·refine Qb false (fun Q hQ=>?_) (fun z=>nomatch z) (fun _=>?_)
   ·walk_at "RD";exact hQ
   ·walk_at "RD";exact ⟨(sz - lo).toNat,by omega,lo,sz,pa,pb7,p,b7,_,_,_,rfl,hlo,hs1,by omega,s37,n7,s06.free f0,f1,f2,f3,c5.same s7,c6,c7,rfl⟩
  ·refine Qb true (fun Q hQ=>?_) (fun _=>?_) (fun z=>nomatch z)
   ·walk_at "RD";exact hQ
   ·walk_at "RD";exact ⟨(hi' - sz).toNat,by omega,sz,hi',pa7,pb,p7,b,_,_,_,rfl,by omega,hs2,hh,s37,n7,c1,s7 _ _ c2,c3,c4,f1,f2,f3,rfl⟩
 ·rw [if_neg (by simpa using hw)];walk_at "RD";refine ⟨by decide,fun r hr=>q r hi' pb pa b p _ (s06.trans (fb hr)) n6.upd db ⟨by omega,hh,c1,fb hr _ _ c2,c3,c4,c5.same (fb hr),?_,c7⟩⟩;rw [show hi' - 1=lo by omega];exact c6
end
end My
namespace My
open PySem L2
theorem tt (x:Str) {a b:Nat} (hab:a ≤ b) (hb:b ≤ x.cps.toList.length):(Txt.slice x (some (a:Int)) (some (b:Int))).cps.toList=(x.cps.toList.drop a).take (b - a):=by
 have hx:x.length=x.cps.toList.length:=by simp [Str.length]
 have e:=StrLaws.sliceText_nat x hab (by rw [hx];exact hb);rw [show Txt.slice x (some (a:Int)) (some (b:Int))=StrLaws.sliceText x (some (a:Int)) (some (b:Int)) from rfl,e]
theorem Qw (x:Str) {b:Nat} (hb:b ≤ x.cps.toList.length):(Txt.slice x none (some (b:Int))).cps.toList=x.cps.toList.take b:=by
 have:Txt.slice x none (some (b:Int))=Txt.slice x (some ((0:Nat):Int)) (some (b:Int)):=by
  show StrLaws.sliceText x none (some (b:Int))=StrLaws.sliceText x (some ((0:Nat):Int)) (some (b:Int));unfold StrLaws.sliceText;rw [StrLaws.sliceIdx_none_lo];rfl
 rw [this,tt x (Nat.zero_le _) hb,List.drop_zero,Nat.sub_zero]
noncomputable def nmA (l:List Nat) (k:Nat):List Nat:=l.take (k + 1)
noncomputable def nmB (l:List Nat) (at_ size f k:Nat):List Nat:=l.take at_ ++ [97 + (f + 7 * k) % 26] ++ (l.drop (at_ + 1)).take (size - (at_ + 1))
theorem DA {l:List Nat} (hl:l.length=8) (al:∀ c ∈ l,97 ≤ c∧c ≤ 122) {k:Nat} (hk:k < 8):(nmA l k).length=k + 1∧∀ c ∈ nmA l k,97 ≤ c∧c ≤ 122:=by
 unfold nmA;exact ⟨by rw [List.length_take];omega,fun c hc=>al c (List.mem_of_mem_take hc)⟩
theorem pJ {l:List Nat} (hl:l.length=8) (al:∀ c ∈ l,97 ≤ c∧c ≤ 122) {a z f k:Nat} (ha:a < z) (hz:z ≤ 8):(nmB l a z f k).length=z∧∀ c ∈ nmB l a z f k,97 ≤ c∧c ≤ 122:=by
 unfold nmB;refine ⟨by rw [List.length_append,List.length_append,List.length_take,List.length_take,List.length_drop,List.length_singleton];omega,fun c hc=>?_⟩;rcases List.mem_append.mp hc with hc | hc
 ·rcases List.mem_append.mp hc with hc | hc
  ·exact al c (List.mem_of_mem_take hc)
  ·rw [List.mem_singleton.mp hc];omega
 ·exact al c (List.mem_of_mem_drop (List.mem_of_mem_take hc))
theorem bG {l:List Nat} (hl:l.length=8) {a z f i j:Nat} (ha:a < z) (hz:z ≤ 8) (hi:i < 8) (hj:j < 8) (e:nmB l a z f i=nmB l a z f j):i=j:=by
 have h1:∀ k,(nmB l a z f k)[a]? = some (97 + (f + 7 * k) % 26):=fun k=>by
  unfold nmB;rw [List.append_assoc,List.getElem?_append_right (by rw [List.length_take];omega),List.length_take,show a - min a l.length=0 by omega];rfl
 have h2:=h1 i;rw [e,h1 j] at h2;have:=Option.some.inj h2;omega
theorem BH {x:Str} {l:List Nat} (e:x.cps.toList=l) (h0:1 ≤ l.length) (h1:l.length ≤ 8) (al:∀ c ∈ l,97 ≤ c∧c ≤ 122):made x vg 8=true:=by
 have hx:x.length=x.cps.toList.length:=by simp [Str.length]
 exact ls (by rw [hx,e];exact h0) (by rw [hx,e];exact h1) (by rw [e];exact al)
noncomputable def Nms (m:Nat) (xs:List Str):Prop:=xs.length=m∧xs.Nodup∧∀ x ∈ xs,made x vg 8=true
theorem qF {i:Int} (h0:0 ≤ i) (h1:i < 26):∃ c:Nat,atI (Str.ofString "abcdefghijklmnopqrstuvwxyz").cps.toList i=some c∧c=97 + i.toNat:=by
 have:∀ k,k < 26→atI (Str.ofString "abcdefghijklmnopqrstuvwxyz").cps.toList ((k:Nat):Int)=some (97 + k):=by decide +kernel
 refine ⟨97 + i.toNat,?_,rfl⟩;have e:=this i.toNat (by omega);rwa [Int.toNat_of_nonneg h0] at e
theorem jI:∀ ys:List Str,(Str.join ⟨#[]⟩ ys).cps.toList=(ys.map (·.cps.toList)).flatten
 | []=>rfl
 | [a]=>by
  show a.cps.toList=_;simp
 | a :: b :: r=>by
  show (a ++ ⟨#[]⟩ ++ Str.join ⟨#[]⟩ (b :: r)).cps.toList=_;rw [Str.cps_append,Array.toList_append,Str.cps_append,Array.toList_append,jI (b :: r)];simp
theorem Op (f:Nat→Nat) (n:Nat):(Txt.join (Str.ofString "") ((List.range n).map fun i=>Xr (f i))).cps.toList=(List.range n).map f:=by
 rw [show Txt.join (Str.ofString "") ((List.range n).map fun i=>Xr (f i))=Str.join ⟨#[]⟩ ((List.range n).map fun i=>Xr (f i)) from StrLaws.glued_eq_join _ _,jI,List.map_map];have:((fun x:Str=>x.cps.toList) ∘ fun i=>Xr (f i))=fun i=>[f i]:=rfl
 rw [this]
 induction (List.range n) with
 | nil=>rfl
 | cons a l ih=>rw [List.map_cons,List.flatten_cons,ih];rfl
noncomputable def yt (K:PySem.W.Frag) (a:Addr) (ns:List Int):Sp:=fun vs H Q _=>∃ m:Nat,vs=[.ref a,.int m]∧Sc K a ns H∧(1 ≤ m∧m ≤ 8)∧∀ p xs H',Mb H H'→Sc K a ns H'→H p=none→H' p=some (.lst (Bc xs))→Nms m xs→Q (.ref p) H'
section
variable {P:Program} {w:World} {K:PySem.W.Frag} {mg:Str→Option Value} {base:Heap} {t:Adr}
theorem Fz (T:Txt w K mg t) (a:Addr) (ns:List Int) (h63:ns.length ≤ 63):Kb P w K mg base CX0 2 t.Mg t.Jg q34 (yt K a ns):=by
 have g0:Kb P w K mg base CX0 1 t.kf t.jf q16 (Wg K a ns):=uv T a ns h63;refine T.bj.ok bc (fun vs H Q E h=>?_) (fun _ _ _ s H vs Q E hr h=>?_)
 ·obtain ⟨m,rfl,_⟩:=h;rfl
 obtain ⟨m,rfl,S,hm,q⟩:=h;have hL:(Str.ofString "abcdefghijklmnopqrstuvwxyz").length=26:=by decide +kernel
 refine ⟨_,(cb (En (i:=2) bc.nd rfl (Or.inr rfl) ud)
   (cb (wb (i:=3) bc.nd (Qr PySem.F.plainAttrs_str PySem.F.slot_str_join PySem.F.type_str_join KB ud (ab (eh rfl (ue rfl T.Hf (ab lb gb)) (Hc (sc:=jb Ti) rfl (by decide +kernel)) (N:=["_law_k","_law_letters","_law_script"]) (sel:=[none,some 2,some 0]) (Cd (M:=["_law_script","_law_many","_law_letters","_law_word","_law_size","_law_at","_law_first","_law_some","_law_k","_law_name","_law_sign"]) (by decide +kernel)) (Blk.of (fun _ _ _ _=>(xb (i:=0) (xi (N:=["_law_k","_law_letters","_law_script"]) (by decide +kernel) rfl))) (fun _ _ _ _=>⟨_,wg,by walk_at "B"⟩) (fun _ _ _ _=>⟨_,(gc Sz (pv 1) (qb g0 hr T.qc T.Sb.kp T.kc (ab (pv 2) (ab (Jb Bd lb (pv 0)) (ab lb gb))))),by walk_at "B"⟩))) gb)))
   (cb (wb (i:=4) bc.nd (Jb Bd lb (qb g0 hr T.qc T.Sb.kp T.kc (ab (pv 0) (ab lb (ab lb gb))))))
   (cb (wb (i:=5) bc.nd (qb g0 hr T.qc T.Sb.kp T.kc (ab (pv 0) (ab lb (ab (pv 4) gb)))))
   (cb (wb (i:=6) bc.nd (qb g0 hr T.qc T.Sb.kp T.kc (ab (pv 0) (ab lb (ab lb gb)))))
   (cb (wb (i:=7) bc.nd (yh gb))
   (cb (Af PassesOwn.never rfl (ue rfl T.Hf (ab (pv 1) gb)) (xb (i:=8) bc.nd) (cb (wb (i:=9) bc.nd (gn oz (pv 3) Fu (zn (Jb Bd (pv 8) lb))))
   (cb (Ee (Vb Gk (qb g0 hr T.qc T.Sb.kp T.kc (ab (pv 0) (ab lb (ab lb gb)))) lb (Zb _)) (cb (wb (i:=10) bc.nd (gc Sz (pv 2) (Jb gf (Jb Bd (pv 6) (Jb Bf lb (pv 8))) lb)))
   (ib (wb (i:=9) bc.nd (Jb Ad (Jb Ad (gn oz (pv 3) Fu (zn (pv 5))) (pv 10)) (gn oz (pv 3) (zn (Jb Bd (pv 5) lb)) (zn (pv 4))))))) Yb)
   (ib (De (Qr PySem.F.plainAttrs_list PySem.F.slot_list_append PySem.F.type_list_append Po (pv 7) (ab (pv 9) gb)))))))
   (cb (Ee (Vb Gk (qb g0 hr T.qc T.Sb.kp T.kc (ab (pv 0) (ab lb (ab lb gb)))) lb (Zb _)) (ib (De (MI PySem.F.plainAttrs_list PySem.F.slot_list_reverse PySem.F.type_list_reverse wx (pv 7)))) Yb)
   (ib (Fb (pv 7))))))))))),?_⟩
 refine zS (fun σ' H'=>H'=H∧σ'=[some (.ref a),some (.int m),some (.str (Str.ofString "abcdefghijklmnopqrstuvwxyz")),none,none,none,none,none,none,none,none]) (fun D' hD=>?_) fun zM zzh=>?_
 ·walk_at "RD";exact hD _ _ ⟨rfl,rfl⟩
 rintro σ1 H1 ⟨rfl,rfl⟩;subst zzh;refine zS (fun σ' H'=>Mb H1 H'∧Sc K a ns H'∧∃ wd:Str,wd.cps.toList.length=8∧(∀ c ∈ wd.cps.toList,97 ≤ c∧c ≤ 122)∧σ'=[some (.ref a),some (.int m),some (.str (Str.ofString "abcdefghijklmnopqrstuvwxyz")),some (.str wd),none,none,none,none,none,none,none]) (fun D' hD=>?_) fun zM zzh=>?_
 ·walk_at "RD";refine ⟨by decide,by decide,?_⟩;refine Yc.range_map (n:=8) (fun i=>V.str (Xr (97 + (Hh ns (100 + (i:Int)) 26).toNat))) (by decide) (fun i N hi hN=>?_) (fun p hp=>?_)
  ·have d1:=cg ns (100 + (i:Int)) (m:=26) (by decide);have d2:=jg ns (100 + (i:Int)) (m:=26) (by decide);obtain ⟨c,hc,rfl⟩:=qF d1 d2;(walk_at "RD"; repeat (dsimp only [Wg];walk_at "RD"));exact ⟨Sub.name,S,by omega,by omega,by decide,by rw [hL];decide,_,hc,hN⟩
  ·have e:(List.range 8).map (fun i:Nat=>V.str (Xr (97 + (Hh ns (100 + (i:Int)) 26).toNat)))=Bc ((List.range 8).map fun i:Nat=>Xr (97 + (Hh ns (100 + (i:Int)) 26).toNat)):=by unfold Bc;rw [List.map_map];rfl
   refine ⟨p,rfl,(List.range 8).map fun i:Nat=>Xr (97 + (Hh ns (100 + (i:Int)) 26).toNat),by rw [← e];exact SqL.of db,?_,?_⟩
   ·have h1:(List.map (fun x:Str=>x.length) ((List.range 8).map fun i:Nat=>Xr (97 + (Hh ns (100 + (i:Int)) 26).toNat))).sum=8:=by
     rw [List.map_map];rfl
    rw [h1,List.length_map,List.length_range];decide +kernel
   ·refine hD _ _ ⟨fb hp,S.new hp,_,?_,fun c hc=>?_,rfl⟩
    ·rw [Op (fun i:Nat=>97 + (Hh ns (100 + (i:Int)) 26).toNat) 8,List.length_map,List.length_range]
    ·rw [Op (fun i:Nat=>97 + (Hh ns (100 + (i:Int)) 26).toNat) 8] at hc;obtain ⟨i,_,rfl⟩:=List.mem_map.mp hc;have d1:=cg ns (100 + (i:Int)) (m:=26) (by decide);have d2:=jg ns (100 + (i:Int)) (m:=26) (by decide);omega
 rintro σ2 H2 ⟨s2,S2,wd,hwl,hwa,rfl⟩;have hwn:wd.length=8:=by
  have:wd.length=wd.cps.toList.length:=by simp [Str.length]
  omega
 obtain ⟨z,hzz,hz1⟩:∃ z:Nat,1 + Hh ns 112 8=(z:Nat)∧(1 ≤ z∧z ≤ 8):=by
  have d1:=cg ns 112 (m:=8) (by decide);have d2:=jg ns 112 (m:=8) (by decide);exact ⟨(1 + Hh ns 112 8).toNat,by omega,by omega⟩
 subst zzh;refine zS (fun σ' H'=>H'=H2∧σ'=[some (.ref a),some (.int m),some (.str (Str.ofString "abcdefghijklmnopqrstuvwxyz")),some (.str wd),some (.int (z:Nat)),none,none,none,none,none,none]) (fun D' hD=>?_) fun zM zzh=>?_
 ·(walk_at "RD"; repeat (dsimp only [Wg];walk_at "RD"));rw [hzz];exact ⟨S2,by omega,by omega,by decide,hD _ _ ⟨rfl,rfl⟩⟩
 rintro σ3 H3 ⟨rfl,rfl⟩;obtain ⟨at_,hat,hat1⟩:∃ at_:Nat,Hh ns 113 (z:Int)=(at_:Nat)∧at_ < z:=by
  have d1:=cg ns 113 (m:=(z:Int)) (by omega);have d2:=jg ns 113 (m:=(z:Int)) (by omega);exact ⟨(Hh ns 113 (z:Int)).toNat,by omega,by omega⟩
 subst zzh;refine zS (fun σ' H'=>H'=H3∧σ'=[some (.ref a),some (.int m),some (.str (Str.ofString "abcdefghijklmnopqrstuvwxyz")),some (.str wd),some (.int (z:Nat)),some (.int (at_:Nat)),none,none,none,none,none]) (fun D' hD=>?_) fun zM zzh=>?_
 ·(walk_at "RD"; repeat (dsimp only [Wg];walk_at "RD"));rw [hat];exact ⟨S2,by omega,by omega,by omega,hD _ _ ⟨rfl,rfl⟩⟩
 rintro σ4 H4 ⟨rfl,rfl⟩;obtain ⟨f,hf,hf1⟩:∃ f:Nat,Hh ns 114 26=(f:Nat)∧f < 26:=by
  have d1:=cg ns 114 (m:=26) (by decide);have d2:=jg ns 114 (m:=26) (by decide);exact ⟨(Hh ns 114 26).toNat,by omega,by omega⟩
 subst zzh;refine zS (fun σ' H'=>H'=H4∧σ'=[some (.ref a),some (.int m),some (.str (Str.ofString "abcdefghijklmnopqrstuvwxyz")),some (.str wd),some (.int (z:Nat)),some (.int (at_:Nat)),some (.int (f:Nat)),none,none,none,none]) (fun D' hD=>?_) fun zM zzh=>?_
 ·(walk_at "RD"; repeat (dsimp only [Wg];walk_at "RD"));rw [hf];exact ⟨S2,by omega,by omega,by decide,hD _ _ ⟨rfl,rfl⟩⟩
 rintro σ5 H5 ⟨rfl,rfl⟩;subst zzh;refine zS (fun σ' H'=>Sc K a ns H'∧Mb H5 H'∧∃ rl,H5 rl=none∧H' rl=some (.lst [])∧σ'=[some (.ref a),some (.int m),some (.str (Str.ofString "abcdefghijklmnopqrstuvwxyz")),some (.str wd),some (.int (z:Nat)),some (.int (at_:Nat)),some (.int (f:Nat)),some (.ref rl),none,none,none]) (fun D' hD=>?_) fun zM zzh=>?_
 ·walk_at "RD";exact ⟨Nat.zero_le _,fun rl hrl=>hD _ _ ⟨S2.new hrl,fb hrl,rl,hrl,db,rfl⟩⟩
 rintro σ6 H6 ⟨S6,s6,rl,hrl,w6,rfl⟩;obtain ⟨b,hb⟩:∃ b:Bool,decide (Hh ns 110 2=1)=b:=⟨_,rfl⟩;subst zzh;obtain ⟨g,hg⟩:∃ g:Nat→List Nat,g=fun k=>if b=true then nmB wd.cps.toList at_ z f k else nmA wd.cps.toList k:=⟨_,rfl⟩
 refine zS (fun σ' H'=>Sc K a ns H'∧Mb H5 H'∧(∃ xs:List Str,H' rl=some (.lst (Bc xs))∧xs.map (·.cps.toList)=(List.range m).map g)∧∃ x8 x9 x10,σ'=[some (.ref a),some (.int m),some (.str (Str.ofString "abcdefghijklmnopqrstuvwxyz")),some (.str wd),some (.int (z:Nat)),some (.int (at_:Nat)),some (.int (f:Nat)),some (.ref rl),x8,x9,x10]) (fun D' hD=>?_) fun zM zzh=>?_
 ·walk_at "RD";refine ⟨by omega,by omega,?_⟩;refine Vj.range (fun i σ H'=>Sc K a ns H'∧Mb H5 H'∧(∃ xs:List Str,H' rl=some (.lst (Bc xs))∧xs.map (·.cps.toList)=(List.range i).map g)∧∃ x8 x9 x10,σ=[some (.ref a),some (.int m),some (.str (Str.ofString "abcdefghijklmnopqrstuvwxyz")),some (.str wd),some (.int (z:Nat)),some (.int (at_:Nat)),some (.int (f:Nat)),some (.ref rl),x8,x9,x10]) ⟨S6,s6,⟨[],w6,rfl⟩,_,_,_,rfl⟩ ?_ ?_
  ·rintro i σ H' hi zzq;refine zP fun zM zzh=>?_
   obtain ⟨S7,s7,⟨xs,w7,hxs⟩,x8,x9,x10,rfl⟩:=zzq;have hi8:i < 8:=by have:i < (m:Int).toNat:=hi;omega
   have hxl:xs.length=i:=by have:=congrArg List.length hxs;rwa [List.length_map,List.length_map,List.length_range] at this
   subst zzh;simp only [Nh,Cb,List.set_cons_succ,List.set_cons_zero,Int.zero_add];refine zzC (fun σ' H''=>H''=H'∧σ'=[some (.ref a),some (.int m),some (.str (Str.ofString "abcdefghijklmnopqrstuvwxyz")),some (.str wd),some (.int (z:Nat)),some (.int (at_:Nat)),some (.int (f:Nat)),some (.ref rl),some (.int (i:Nat)),some (.str (Txt.slice wd none (some ((i + 1:Nat):Int)))),x10]) (fun D' hD=>?_) fun zM zzh=>?_
   ·walk_at "RD";exact ⟨by rw [hwn];decide,hD _ _ ⟨rfl,by rw [Int.natCast_add];rfl⟩⟩
   rintro σA HA ⟨rfl,rfl⟩;subst zzh;simp only [Cb];refine zzC (fun σ' H''=>H''=HA∧∃ nm:Str,nm.cps.toList=g i∧∃ x10,σ'=[some (.ref a),some (.int m),some (.str (Str.ofString "abcdefghijklmnopqrstuvwxyz")),some (.str wd),some (.int (z:Nat)),some (.int (at_:Nat)),some (.int (f:Nat)),some (.ref rl),some (.int (i:Nat)),some (.str nm),x10]) (fun D' hD=>?_) fun zM zzh=>?_
   ·refine Qb b (fun Q hQ=>?_) (fun hbt=>?_) (fun hbf=>?_)
    ·(walk_at "RD"; repeat (dsimp only [Wg];walk_at "RD"));rw [hb];exact ⟨S7,by omega,by omega,by decide,hQ⟩
    ·have hgi:g i=nmB wd.cps.toList at_ z f i:=by rw [hg];exact if_pos hbt
     obtain ⟨c,hc,rfl⟩:=qF (i:=((f:Int) + 7 * (i:Int)) % 26) (Int.emod_nonneg _ (by decide)) (Int.emod_lt_of_pos _ (by decide));have hbig:∀ k:Nat,k ≤ 1000→k ≤ sizeLine:=fun k h=>Nat.le_trans h (by decide)
     have l1:=Txt.slice_le wd none (some (at_:Int));have l2:=Txt.slice_le wd (some ((at_:Int) + 1)) (some (z:Int));have l3:(Xr (97 + (((f:Int) + 7 * (i:Int)) % 26).toNat)).length=1:=rfl;walk_at "RD";refine ⟨.inl ⟨by decide,by decide⟩,by decide,by rw [hL];decide,_,hc,by rw [hwn];decide,hbig _ (by show _ + (Xr (97 + (((f:Int) + 7 * (i:Int)) % 26).toNat)).length ≤ 1000;omega),by rw [hwn];decide,hbig _ (by show (_ ++ Xr (97 + (((f:Int) + 7 * (i:Int)) % 26).toNat)).length + _ ≤ 1000;rw [Wd];omega),?_⟩;refine hD _ _ ⟨rfl,_,?_,_,rfl⟩;rw [hgi];unfold nmB;rw [Str.cps_append,Array.toList_append,Str.cps_append,Array.toList_append,Qw wd (by omega),show ((at_:Int) + 1)=((at_ + 1:Nat):Int) by omega,tt wd (by omega) (by omega),show (((f:Int) + 7 * (i:Int)) % 26).toNat=(f + 7 * i) % 26 by omega]
    ·have hgi:g i=nmA wd.cps.toList i:=by rw [hg];exact if_neg (by rw [hbf];decide)
     walk_at "RD";exact hD _ _ ⟨rfl,_,by rw [hgi,Qw wd (by omega)];rfl,_,rfl⟩
   rintro σB HB ⟨rfl,nm,hnm,x10,rfl⟩;subst zzh;walk_at "RD";refine ⟨.inl ⟨_,SqL.of w7⟩,_,w7,Nat.lt_of_le_of_lt (show (Bc xs).length ≤ 8 by unfold Bc;rw [List.length_map];omega) (by decide),S7.set w7 (fun _ _ z=>by cases z),s7.updN hrl,⟨xs ++ [nm],?_,?_⟩,?_⟩
   ·rw [db];unfold Bc;rw [List.map_append];rfl
   ·rw [List.map_append,hxs,List.range_succ,List.map_append,List.map_cons,List.map_nil,hnm];rfl
   ·repeat (first | exact ⟨_,rfl⟩ | refine ⟨⟨_,rfl⟩,?_⟩)
  ·rintro σ H' zzq;refine zP fun zM zzh=>?_
   obtain ⟨S7,s7,⟨xs,w7,hxs⟩,x8,x9,x10,rfl⟩:=zzq;subst zzh;exact hD _ _ ⟨S7,s7,⟨xs,w7,by rw [hxs,show (m:Int).toNat=m by omega]⟩,x8,x9,x10,rfl⟩
 rintro σ7 H7 ⟨S7,s7,⟨xs,w7,hxs⟩,x8,x9,x10,rfl⟩;have hxl:xs.length=m:=by have:=congrArg List.length hxs;rwa [List.length_map,List.length_map,List.length_range] at this
 have gok:∀ k,k < m→(1 ≤ (g k).length∧(g k).length ≤ 8)∧∀ c ∈ g k,97 ≤ c∧c ≤ 122:=fun k hk=>by
  rw [hg];dsimp only;split
  ·have:=pJ hwl hwa (f:=f) (k:=k) hat1 hz1.2;exact ⟨by omega,this.2⟩
  ·have:=DA hwl hwa (k:=k) (by omega);exact ⟨by omega,this.2⟩
 have ginj:∀ i j,i < m→j < m→g i=g j→i=j:=fun i j hi hj e=>by
  rw [hg] at e
  try dsimp only at e
  split at e
  ·exact bG hwl hat1 hz1.2 (by omega) (by omega) e
  ·have h1:=DA hwl hwa (k:=i) (by omega);have h2:=DA hwl hwa (k:=j) (by omega);rw [e] at h1;omega
 have hat':∀ (i:Nat) (x:Str),xs[i]? = some x→i < m∧x.cps.toList=g i:=fun i x hx=>by
  have hi:i < m:=by rw [← hxl];exact (List.getElem?_eq_some_iff.mp hx).1
  have e:=congrArg (fun l=>l[i]?) hxs
  try dsimp only at e
  rw [List.getElem?_map,hx,List.getElem?_map,List.getElem?_range hi] at e;exact ⟨hi,Option.some.inj e⟩
 have N:Nms m xs:=by
  refine ⟨hxl,List.pairwise_iff_getElem.mpr fun i j hi hj hij e=>?_,fun x hx=>?_⟩
  ·obtain ⟨a1,a2⟩:=hat' i _ (List.getElem?_eq_getElem hi);obtain ⟨b1,b2⟩:=hat' j _ (List.getElem?_eq_getElem hj);rw [e,b2] at a2;have:=ginj i j a1 b1 a2.symm;omega
  ·obtain ⟨i,hi⟩:=List.getElem?_of_mem hx;obtain ⟨a1,a2⟩:=hat' i _ hi;have:=gok i a1;exact BH a2 this.1.1 this.1.2 this.2
 subst zzh;refine zS (fun σ' H'=>Sc K a ns H'∧Mb H5 H'∧(∃ xs:List Str,H' rl=some (.lst (Bc xs))∧Nms m xs)∧∃ x8 x9 x10,σ'=[some (.ref a),some (.int m),some (.str (Str.ofString "abcdefghijklmnopqrstuvwxyz")),some (.str wd),some (.int (z:Nat)),some (.int (at_:Nat)),some (.int (f:Nat)),some (.ref rl),x8,x9,x10]) (fun D' hD=>?_) fun zM zzh=>?_
 ·refine Qb (decide (Hh ns 111 2=1)) (fun Q hQ=>?_) (fun _=>?_) (fun _=>?_)
  ·(walk_at "RD"; repeat (dsimp only [Wg];walk_at "RD"));exact ⟨S7,by omega,by omega,by decide,hQ⟩
  ·walk_at "RD";refine ⟨.inl ⟨_,SqL.of w7⟩,_,w7,hD _ _ ⟨S7.set w7 (fun _ _ z=>by cases z),s7.updN hrl,⟨xs.reverse,by rw [db];unfold Bc;rw [List.map_reverse],by rw [List.length_reverse];exact N.1,List.pairwise_reverse.mpr (N.2.1.imp fun h=>Ne.symm h),fun x hx=>N.2.2 x (List.mem_reverse.mp hx)⟩,_,_,_,rfl⟩⟩
  ·walk_at "RD";exact hD _ _ ⟨S7,s7,⟨xs,w7,N⟩,_,_,_,rfl⟩
 rintro σ8 H8 ⟨S8,s8,⟨ys,w8,N8⟩,y8,y9,y10,rfl⟩;subst zzh;walk_at "RD";exact q rl ys H8 (s2.trans s8) S8 (s2.free hrl) w8 N8
end
end My
namespace My
open PySem L2
theorem Zl {n b x y:Int} (hx:0 ≤ x∧x < n) (hy:0 ≤ y∧y < n):((b + x) % n=(b + y) % n)↔x=y:=by
 refine ⟨fun h=>?_,fun h=>by rw [h]⟩;have h1:=Int.emod_emod_of_dvd (b + x) (Int.dvd_refl n);have e:(x - y) % n=0:=by
  have:((b + x) - (b + y)) % n=0:=by rw [Int.sub_emod,h,Int.sub_self,Int.zero_emod]
  rwa [show (b + x) - (b + y)=x - y by omega] at this
 rcases Int.lt_trichotomy x y with q | q | q
 ·rw [← Int.add_emod_right,Int.emod_eq_of_lt (by omega) (by omega)] at e;omega
 ·exact q
 ·rw [Int.emod_eq_of_lt (by omega) (by omega)] at e;omega
theorem FH (n b x y:Int):((b + x) % n - (b + y) % n) % n=(x - y) % n:=by
 rw [← Int.sub_emod,show (b + x) - (b + y)=x - y by omega]
theorem cA {n b s f s2 f2:Int} (h1:0 ≤ s∧s < n) (h2:0 ≤ f∧f < n) (h3:0 ≤ s2∧s2 < n) (h4:0 ≤ f2∧f2 < n):ur n ((b + s) % n) ((b + f) % n) ((b + s2) % n) ((b + f2) % n)=ur n s f s2 f2:=by
 unfold ur Ik;simp only [Zl h2 h4,Zl h3 h1,Zl h3 h2,Zl h4 h1,Zl h4 h2,FH]
noncomputable def sP (m i:Nat) (o:Bool):Nat:=if o then (2 * i + 3) % (2 * m) else 2 * i
noncomputable def bes (m i j:Nat):Bool:=decide ((i + m - j) % m=1) || decide ((i + m - j) % m=m - 1)
theorem zA:∀ m ∈ [3,5],∀ x ∈ List.range 15,∀ i ∈ List.range m,∀ j ∈ List.range m,∀ oi oj:Bool,i ≠ j→ur ((2 * m + x:Nat):Int) (sP m i oi:Nat) (sP m i (!oi):Nat) (sP m j oj:Nat) (sP m j (!oj):Nat)=bes m i j:=by decide +kernel
theorem NJ:∀ m ∈ [3,5],∀ i ∈ List.range m,∀ o:Bool,sP m i o < 2 * m∧sP m i o ≠ sP m i (!o):=by decide +kernel
theorem back {z a b:Int} (hz:0 < z) (h:0 < (b - a) % z):(a - b) % z=z - (b - a) % z:=by
 have e:a - b = -(b - a):=by omega
 have h2:=Int.emod_lt_of_pos (b - a) hz;have d:=Int.emod_add_mul_ediv (b - a) z;have:a - b=(z - (b - a) % z) + z * (-((b - a) / z) - 1):=by
  rw [Int.mul_sub,Int.mul_neg];omega
 rw [this,Int.add_mul_emod_self_left,Int.emod_eq_of_lt (by omega) (by omega)]
theorem XL {y T x0 x1:Int} (hy:0 < y) (hT:0 < T) (h1:T ≤ (x1 - x0) % y) (h2:T ≤ (x0 - x1) % y):2 * T ≤ y:=by
 rw [back hy (by omega)] at h2;omega
theorem tL {y d k c T:Int} (hy:0 < y) (e:d=y * k) (h1:c * T ≤ d) (h2:d ≤ c * y - c * T) (h3:(c - 1) * y < 2 * (c * T)) (hc:c=3∨c=5):False:=by
 subst e;rcases hc with rfl | rfl
 ·have a1:1 < k:=by
   rcases Int.lt_or_le 1 k with q | q
   ·exact q
   ·have:=Int.mul_le_mul_of_nonneg_left q (Int.le_of_lt hy);omega
  have a2:=Int.mul_le_mul_of_nonneg_left (show 2 ≤ k by omega) (Int.le_of_lt hy);omega
 ·have a1:2 < k:=by
   rcases Int.lt_or_le 2 k with q | q
   ·exact q
   ·have:=Int.mul_le_mul_of_nonneg_left q (Int.le_of_lt hy);omega
  have a2:=Int.mul_le_mul_of_nonneg_left (show 3 ≤ k by omega) (Int.le_of_lt hy);omega
theorem UL {y T x0 x1 x2:Int} (hy:0 < y) (hT:0 < T) (h1:T ≤ (x1 - x0) % y) (g1:T ≤ (x0 - x1) % y) (h2:T ≤ (x2 - x1) % y) (g2:T ≤ (x1 - x2) % y) (h3:T ≤ (x0 - x2) % y) (g3:T ≤ (x2 - x0) % y):3 * T ≤ y:=by
 rw [back hy (by omega)] at g1 g2 g3;rcases Int.lt_or_le y (3 * T) with q | q
 ·have e1:=Int.emod_add_mul_ediv (x1 - x0) y;have e2:=Int.emod_add_mul_ediv (x2 - x1) y;have e3:=Int.emod_add_mul_ediv (x0 - x2) y;exact (tL (c:=3) (T:=T) (d:=(x1 - x0) % y + (x2 - x1) % y + (x0 - x2) % y) (k:=-((x1 - x0) / y + (x2 - x1) / y + (x0 - x2) / y)) hy (by rw [Int.mul_neg,Int.mul_add,Int.mul_add];omega) (by omega) (by omega) (by omega) (.inl rfl)).elim
 ·exact q
theorem QL {y T x0 x1 x2 x3 x4:Int} (hy:0 < y) (hT:0 < T) (h1:T ≤ (x1 - x0) % y) (g1:T ≤ (x0 - x1) % y) (h2:T ≤ (x2 - x1) % y) (g2:T ≤ (x1 - x2) % y) (h3:T ≤ (x3 - x2) % y) (g3:T ≤ (x2 - x3) % y) (h4:T ≤ (x4 - x3) % y) (g4:T ≤ (x3 - x4) % y) (h5:T ≤ (x0 - x4) % y) (g5:T ≤ (x4 - x0) % y):5 * T ≤ 2 * y:=by
 rw [back hy (by omega)] at g1 g2 g3 g4 g5;rcases Int.lt_or_le (2 * y) (5 * T) with q | q
 ·have e1:=Int.emod_add_mul_ediv (x1 - x0) y;have e2:=Int.emod_add_mul_ediv (x2 - x1) y;have e3:=Int.emod_add_mul_ediv (x3 - x2) y;have e4:=Int.emod_add_mul_ediv (x4 - x3) y;have e5:=Int.emod_add_mul_ediv (x0 - x4) y;exact (tL (c:=5) (T:=T) (d:=(x1 - x0) % y + (x2 - x1) % y + (x3 - x2) % y + (x4 - x3) % y + (x0 - x4) % y) (k:=-((x1 - x0) / y + (x2 - x1) / y + (x3 - x2) / y + (x4 - x3) / y + (x0 - x4) / y)) hy (by rw [Int.mul_neg,Int.mul_add,Int.mul_add,Int.mul_add,Int.mul_add];omega) (by omega) (by omega) (by omega) (.inr rfl)).elim
 ·exact q
structure jD (d:WD):Prop where
 k:d.k=1
 of:d.off=0
 nr:d.near=0
theorem kH {d:WD} (h:jD d) (T:Int):Kc (d,T)=T:=by unfold Kc qm zh;simp [h.k,h.of]
theorem oE {d e:WD} (h:jD d) (g:jD e):tw d e=0:=by unfold tw;rw [h.of,g.nr];rfl
structure FC (n:Int) (m:Nat) (ds:List WD):Prop where
 ft:∀ d ∈ ds,jD d
 ln:ds.length=m
 mt:∀ (i j:Nat) (d e:WD),ds[i]? = some d→ds[j]? = some e→i ≠ j→mt n d e=bes m i j
noncomputable def wd0:WD:=⟨1,Str.ofString "",0,0,0,0,0⟩
noncomputable def He (ds:List WD) (T:Int) (p:Nat→Nat) (c:Nat):List (WD × Int):=(List.range c).map fun k=>((ds[p k]?).getD wd0,T)
section
variable {n T:Int} {m c:Nat} {ds:List WD} {p:Nat→Nat}
theorem mn (R:FC n m ds) (hp:∀ k,k < c→p k < m) {k:Nat} (hk:k < c):∃ d,ds[p k]? = some d∧(He ds T p c)[k]? = some (d,T):=by
 have hl:p k < ds.length:=by rw [R.ln];exact hp k hk
 refine ⟨ds[p k],List.getElem?_eq_getElem hl,?_⟩;unfold He;rw [List.getElem?_map,List.getElem?_range hk];show some ((ds[p k]?).getD wd0,T)=_;rw [List.getElem?_eq_getElem hl];rfl
theorem re:(He ds T p c).length=c:=by unfold He;rw [List.length_map,List.length_range]
theorem Mz (R:FC n m ds) (hp:∀ k,k < c→p k < m) (hi:∀ i j,i < c→j < c→p i=p j→i=j) {i j:Nat} (h1:i < c) (h2:j < c):(Eb n (He ds T p c)).e i j=(decide (i ≠ j) && bes m (p i) (p j))∧(Eb n (He ds T p c)).st i j=T∧(Eb n (He ds T p c)).al i=T:=by
 obtain ⟨d,d1,d2⟩:=mn (T:=T) R hp h1;obtain ⟨e,e1,e2⟩:=mn (T:=T) R hp h2;have hs:=rk (n:=n) d2 e2;refine ⟨?_,?_,?_⟩
 ·rw [hs.1];by_cases q:i=j
  ·rw [decide_eq_false (fun z=>z q)];rfl
  ·rw [R.mt _ _ d e d1 e1 fun z=>q (hi i j h1 h2 z)]
 ·rw [hs.2,oE (R.ft d (List.mem_of_getElem? d1)) (R.ft e (List.mem_of_getElem? e1))];exact Int.add_zero _
 ·rw [kD d2];exact kH (R.ft d (List.mem_of_getElem? d1)) T
end
theorem PD:∀ q ∈ [(3,1),(5,1),(5,4),(5,2)],∀ f ∈ List.range q.1,(∀ i ∈ List.range q.1,∀ j ∈ List.range q.1,(f + q.2 * i) % q.1=(f + q.2 * j) % q.1→i=j)∧∀ w ∈ List.range q.1,∃ k ∈ List.range q.1,(f + q.2 * k) % q.1=w:=by decide +kernel
theorem TL:∀ i ∈ List.range 5,∀ j ∈ List.range 5,bes 5 i j=true→j=i + 1∨i=j + 1∨(i=4∧j=0)∨(i=0∧j=4):=by decide +kernel
theorem SL {T d:Int} (hT:0 < T) (hd:d=1∨d=2∨d = -1∨d = -2):T ≤ (d * T) % (3 * T):=by
 rcases hd with rfl | rfl | rfl | rfl
 ·rw [Int.emod_eq_of_lt (by omega) (by omega)];omega
 ·rw [Int.emod_eq_of_lt (by omega) (by omega)];omega
 ·rw [← Int.add_emod_right,Int.emod_eq_of_lt (by omega) (by omega)];omega
 ·rw [← Int.add_emod_right,Int.emod_eq_of_lt (by omega) (by omega)];omega
theorem NL {T d:Int} (hT:0 < T) (hd:d=1∨d = -1∨d=4∨d = -4):T ≤ (d * T) % ((5 * T + 1) / 2):=by
 have h1:(5 * T + 1) / 2 * 2 ≤ 5 * T + 1:=Int.ediv_mul_le _ (by decide);have h2:5 * T + 1 < ((5 * T + 1) / 2 + 1) * 2:=Int.lt_ediv_add_one_mul_self _ (by decide);generalize (5 * T + 1) / 2=z at h1 h2 ⊢;rcases hd with rfl | rfl | rfl | rfl
 ·rw [Int.emod_eq_of_lt (by omega) (by omega)];omega
 ·rw [← Int.add_emod_right,Int.emod_eq_of_lt (by omega) (by omega)];omega
 ·rw [← Int.sub_emod_right,Int.emod_eq_of_lt (by omega) (by omega)];omega
 ·rw [← Int.add_emod_right,← Int.add_emod_right,Int.emod_eq_of_lt (by omega) (by omega)];omega
theorem YJ {S:Sys} {z y:Int} (hy:0 < y) (h1:y ≤ z) {c:Nat→Int} (D:Xi S y c) (hl:∀ y c,0 < y→y < z→¬ Xi S y c):z=y:=by
 rcases Int.lt_or_le y z with q | q
 ·exact absurd D (hl y c hy q)
 ·omega
section
variable {n T:Int} {m c:Nat} {ds:List WD} {p:Nat→Nat}
theorem yn {i j:Nat} (h:(Eb n (He ds T p c)).e i j=true):i < c∧j < c:=by
 obtain ⟨_,_,h1,h2,_⟩:=pq h;have a:=(List.getElem?_eq_some_iff.mp h1).1;have b:=(List.getElem?_eq_some_iff.mp h2).1;rw [re] at a b;exact ⟨a,b⟩
theorem gE (R:FC n m ds) (hT:1 ≤ T) {q:Nat × Nat} (hq:q ∈ [(3,1),(5,1),(5,4),(5,2)]) (hm:q.1=m) {f:Nat} (hf:f < m) {z:Int} {b:Nat→Int} (hz:1 ≤ z) (D:Xi (Eb n (He ds T (fun k=>(f + q.2 * k) % m) m)) z b) (hl:∀ y c,0 < y→y < z→¬ Xi (Eb n (He ds T (fun k=>(f + q.2 * k) % m) m)) y c):z=if m=3 then 3 * T else (5 * T + 1) / 2:=by
 obtain ⟨pi1,pi2⟩:=PD q hq f (List.mem_range.mpr (by rw [hm];exact hf));rw [hm] at pi1 pi2;have hp:∀ k,k < m→(f + q.2 * k) % m < m:=fun k hk=>Nat.mod_lt _ (by omega)
 have hi:∀ i j,i < m→j < m→(f + q.2 * i) % m=(f + q.2 * j) % m→i=j:=fun i j h1 h2=>pi1 i (List.mem_range.mpr h1) j (List.mem_range.mpr h2)
 have hS:=fun {i j:Nat} (h1:i < m) (h2:j < m)=>Mz (T:=T) (p:=fun k=>(f + q.2 * k) % m) R hp hi h1 h2
 have hc:∀ w,w < m→∃ k,k < m∧(f + q.2 * k) % m=w:=fun w hw=>by
  obtain ⟨k,hk,e⟩:=pi2 w (List.mem_range.mpr hw);exact ⟨k,List.mem_range.mp hk,e⟩
 have hd:∀ {i j u v:Nat},i < m→j < m→(f + q.2 * i) % m=u→(f + q.2 * j) % m=v→bes m u v=true→u ≠ v→T ≤ (b j - b i) % z:=fun {i j u v} h1 h2 g1 g2 hb hn=>by
  have hs:=hS h1 h2;have:=D.2 i j (by
   rw [hs.1,decide_eq_true (p:=i ≠ j) (fun z=>hn (by rw [← g1,← g2,z])),Bool.true_and];show bes m ((f + q.2 * i) % m) ((f + q.2 * j) % m)=true;rw [g1,g2];exact hb)
  rw [hs.2.1] at this;exact this
 have m35:m=3∨m=5:=by
  simp only [List.mem_cons,List.not_mem_nil,or_false] at hq;rcases hq with rfl | rfl | rfl | rfl <;> simp at hm <;> omega
 rcases m35 with rfl | rfl
 ·rw [if_pos rfl];obtain ⟨k0,l0,e0⟩:=hc 0 (by decide);obtain ⟨k1,l1,e1⟩:=hc 1 (by decide);obtain ⟨k2,l2,e2⟩:=hc 2 (by decide);have low:=UL (by omega) (by omega) (hd l0 l1 e0 e1 (by decide) (by decide)) (hd l1 l0 e1 e0 (by decide) (by decide)) (hd l1 l2 e1 e2 (by decide) (by decide)) (hd l2 l1 e2 e1 (by decide) (by decide)) (hd l2 l0 e2 e0 (by decide) (by decide)) (hd l0 l2 e0 e2 (by decide) (by decide));refine YJ (c:=fun i=>(((f + q.2 * i) % 3:Nat):Int) * T) (by omega) low ⟨fun k hk=>?_,fun i j e=>?_⟩ hl
  ·have hk':k < 3:=by
    have hk2:k < (He ds T (fun k=>(f + q.2 * k) % 3) 3).length:=hk;rwa [re] at hk2
   rw [(hS hk' hk').2.2];omega
  ·obtain ⟨g1,g2⟩:=yn e;rw [(hS g1 g2).1,Bool.and_eq_true] at e;have hne:=of_decide_eq_true e.1;have h1:=hp i g1;have h2:=hp j g2;have h3:(f + q.2 * i) % 3 ≠ (f + q.2 * j) % 3:=fun z=>hne (hi i j g1 g2 z)
   rw [(hS g1 g2).2.1];show T ≤ ((((f + q.2 * j) % 3:Nat):Int) * T - (((f + q.2 * i) % 3:Nat):Int) * T) % (3 * T);rw [← Int.sub_mul];exact SL (by omega) (by omega)
 ·rw [if_neg (by decide)];obtain ⟨k0,l0,e0⟩:=hc 0 (by decide);obtain ⟨k1,l1,e1⟩:=hc 1 (by decide);obtain ⟨k2,l2,e2⟩:=hc 2 (by decide);obtain ⟨k3,l3,e3⟩:=hc 3 (by decide);obtain ⟨k4,l4,e4⟩:=hc 4 (by decide);have low:=QL (by omega) (by omega) (hd l0 l1 e0 e1 (by decide) (by decide)) (hd l1 l0 e1 e0 (by decide) (by decide)) (hd l1 l2 e1 e2 (by decide) (by decide)) (hd l2 l1 e2 e1 (by decide) (by decide)) (hd l2 l3 e2 e3 (by decide) (by decide)) (hd l3 l2 e3 e2 (by decide) (by decide)) (hd l3 l4 e3 e4 (by decide) (by decide)) (hd l4 l3 e4 e3 (by decide) (by decide)) (hd l4 l0 e4 e0 (by decide) (by decide)) (hd l0 l4 e0 e4 (by decide) (by decide));refine YJ (c:=fun i=>(((f + q.2 * i) % 5:Nat):Int) * T) (by omega) (by omega) ⟨fun k hk=>?_,fun i j e=>?_⟩ hl
  ·have hk':k < 5:=by
    have hk2:k < (He ds T (fun k=>(f + q.2 * k) % 5) 5).length:=hk;rwa [re] at hk2
   rw [(hS hk' hk').2.2];omega
  ·obtain ⟨g1,g2⟩:=yn e;rw [(hS g1 g2).1,Bool.and_eq_true] at e;have h1:=hp i g1;have h2:=hp j g2;have h3:=TL _ (List.mem_range.mpr h1) _ (List.mem_range.mpr h2) e.2;rw [(hS g1 g2).2.1];show T ≤ ((((f + q.2 * j) % 5:Nat):Int) * T - (((f + q.2 * i) % 5:Nat):Int) * T) % ((5 * T + 1) / 2);rw [← Int.sub_mul];exact NL (by omega) (by omega)
theorem Cw (R:FC n m ds) (hT:1 ≤ T) {f g:Nat} (hf:f < m) (hg:g < m) (hne:f ≠ g) {z:Int} {b:Nat→Int} (hz:1 ≤ z) (D:Xi (Eb n (He ds T (fun k=>if k=0 then f else g) 2)) z b) (hl:∀ y c,0 < y→y < z→¬ Xi (Eb n (He ds T (fun k=>if k=0 then f else g) 2)) y c):z=if bes m f g then 2 * T else T:=by
 have hp:∀ k,k < 2→(fun k=>if k=0 then f else g) k < m:=fun k hk=>by show (if k=0 then f else g) < m;split <;> omega
 have hi:∀ i j,i < 2→j < 2→(fun k=>if k=0 then f else g) i=(fun k=>if k=0 then f else g) j→i=j:=fun i j h1 h2 e=>by
  have e':(if i=0 then f else g)=(if j=0 then f else g):=e;split at e' <;> split at e' <;> omega
 have hS:=fun {i j:Nat} (h1:i < 2) (h2:j < 2)=>Mz (T:=T) (p:=fun k=>if k=0 then f else g) R hp hi h1 h2
 have hal:∀ k,k < (Eb n (He ds T (fun k=>if k=0 then f else g) 2)).m→(Eb n (He ds T (fun k=>if k=0 then f else g) 2)).al k=T:=fun k hk=>by
  have hk':k < 2:=by
   have hk2:k < (He ds T (fun k=>if k=0 then f else g) 2).length:=hk;rwa [re] at hk2
  exact (hS hk' hk').2.2
 have hsym:bes m g f=bes m f g:=by
  have h1:(g + m - f) % m=if f ≤ g then g - f else g + m - f:=by
   split
   ·rw [show g + m - f=(g - f) + m by omega,Nat.add_mod_right,Nat.mod_eq_of_lt (by omega)]
   ·rw [Nat.mod_eq_of_lt (by omega)]
  have h2:(f + m - g) % m=if g ≤ f then f - g else f + m - g:=by
   split
   ·rw [show f + m - g=(f - g) + m by omega,Nat.add_mod_right,Nat.mod_eq_of_lt (by omega)]
   ·rw [Nat.mod_eq_of_lt (by omega)]
  unfold bes;rw [h1,h2,Bool.eq_iff_iff];simp only [Bool.or_eq_true,decide_eq_true_eq];split <;> split <;> omega
 have e01:(Eb n (He ds T (fun k=>if k=0 then f else g) 2)).e 0 1=bes m f g:=by rw [(hS (by decide) (by decide)).1];rfl
 have e10:(Eb n (He ds T (fun k=>if k=0 then f else g) 2)).e 1 0=bes m f g:=by rw [(hS (by decide) (by decide)).1,← hsym];rfl
 cases hb:bes m f g with
 | true=>
  rw [if_pos rfl];have a1:=D.2 0 1 (by rw [e01,hb]);have a2:=D.2 1 0 (by rw [e10,hb]);rw [(hS (by decide) (by decide)).2.1] at a1 a2;refine YJ (c:=fun i=>(i:Int) * T) (by omega) (XL (by omega) (by omega) a1 a2) ⟨fun k hk=>?_,fun i j e=>?_⟩ hl
  ·rw [hal k hk];omega
  ·obtain ⟨g1,g2⟩:=yn e;rw [(hS g1 g2).1,Bool.and_eq_true] at e;have hne:=of_decide_eq_true e.1;rw [(hS g1 g2).2.1];show T ≤ ((j:Int) * T - (i:Int) * T) % (2 * T);obtain ⟨rfl,rfl⟩ | ⟨rfl,rfl⟩:(i=0∧j=1)∨(i=1∧j=0):=by omega
   ·rw [Int.emod_eq_of_lt (by omega) (by omega)];omega
   ·rw [← Int.add_emod_right,Int.emod_eq_of_lt (by omega) (by omega)];omega
 | false=>
  rw [if_neg Bool.false_ne_true];have a0:=D.1 0 (by show 0 < (He ds T _ 2).length;rw [re];decide);rw [hal 0 (by show 0 < (He ds T _ 2).length;rw [re];decide)] at a0;refine YJ (c:=fun _=>0) (by omega) a0 ⟨fun k hk=>?_,fun i j e=>?_⟩ hl
  ·rw [hal k hk];exact Int.le_refl _
  ·obtain ⟨g1,g2⟩:=yn e;rw [(hS g1 g2).1,Bool.and_eq_true] at e;exfalso;obtain ⟨rfl,rfl⟩ | ⟨rfl,rfl⟩:(i=0∧j=1)∨(i=1∧j=0):=by have:=of_decide_eq_true e.1;omega
   ·have:=e.2;rw [show bes m (if 0=0 then f else g) (if 1=0 then f else g)=bes m f g from rfl,hb] at this;cases this
   ·have:=e.2;rw [show bes m (if 1=0 then f else g) (if 0=0 then f else g)=bes m g f from rfl,hsym,hb] at this;cases this
end
end My
namespace My
open PySem L2
noncomputable def lG (m:Nat) (n b:Int) (os:Nat→Bool) (xs:List Str) (i:Nat):WD:=⟨1,(xs[i]?).getD (Str.ofString ""),(b + (sP m i (os i):Nat)) % n,(b + (sP m i (!os i):Nat)) % n,0,0,1⟩
noncomputable def qB (m:Nat) (n b:Int) (os:Nat→Bool) (xs:List Str):List WD:=(List.range m).map (lG m n b os xs)
theorem SK (nm s f:Str):Str.ofString "foot " ++ nm ++ Str.ofString " " ++ (s ++ Str.ofString " " ++ f) ++ Str.ofString " 0 0 1"=Str.join bk [Str.ofString "foot",nm,s,f,num 0,num 0,num 1]:=by
 apply gr;have e1:(Str.ofString "foot ").cps.toList=[102,111,111,116,32]:=by decide +kernel
 have e2:(Str.ofString "foot").cps.toList=[102,111,111,116]:=by decide +kernel
 have e3:(Str.ofString " ").cps.toList=[32]:=by decide +kernel
 have e4:(Str.ofString " 0 0 1").cps.toList=[32,48,32,48,32,49]:=by decide +kernel
 have e5:(num 0).cps.toList=[48]:=by decide +kernel
 have e6:(num 1).cps.toList=[49]:=by decide +kernel
 rw [KG,Fk];simp only [Str.cps_append,Array.toList_append,List.map_cons,List.map_nil,jl,e1,e2,e3,e4,e5,e6,List.cons_append,List.nil_append,List.append_assoc]
structure Fq (m:Nat) (n:Int) (xs:List Str) (ds:List WD):Prop where
 ring:FC n m ds
 cok:COk n ds
 nm:ds.map (·.name)=xs
 n4:4 ≤ n∧n ≤ 99
theorem UI {m:Nat} (hm:m ∈ [3,5]) {x:Nat} (hx:x < 15) {b:Int} {os:Nat→Bool} {xs:List Str} (N:Nms m xs):Fq m ((2 * m + x:Nat):Int) xs (qB m ((2 * m + x:Nat):Int) b os xs):=by
 have h35:m=3∨m=5:=by simpa using hm
 have hn:(0:Int) < ((2 * m + x:Nat):Int):=by omega
 have hat:∀ {i:Nat} {d:WD},(qB m ((2 * m + x:Nat):Int) b os xs)[i]? = some d→i < m∧d=lG m ((2 * m + x:Nat):Int) b os xs i:=fun {i d} h=>by
  unfold qB at h;rw [List.getElem?_map] at h;by_cases hi:i < m
  ·rw [List.getElem?_range hi] at h;exact ⟨hi,(Option.some.inj h).symm⟩
  ·rw [List.getElem?_eq_none (by rw [List.length_range];omega)] at h;cases h
 have hln:(qB m ((2 * m + x:Nat):Int) b os xs).length=m:=by unfold qB;rw [List.length_map,List.length_range]
 have hsp:∀ i,i < m→∀ o,(0:Int) ≤ (sP m i o:Nat)∧((sP m i o:Nat):Int) < ((2 * m + x:Nat):Int):=fun i hi o=>by
  have:=(NJ m hm i (List.mem_range.mpr hi) o).1;omega
 have hnm:(qB m ((2 * m + x:Nat):Int) b os xs).map (·.name)=xs:=by
  refine List.ext_getElem? fun i=>?_
  unfold qB;rw [List.map_map,List.getElem?_map];by_cases hi:i < m
  ·rw [List.getElem?_range hi,List.getElem?_eq_getElem (by rw [N.1];exact hi)];show some ((xs[i]?).getD (Str.ofString ""))=_;rw [List.getElem?_eq_getElem (by rw [N.1];exact hi)];rfl
  ·rw [List.getElem?_eq_none (by rw [List.length_range];omega),List.getElem?_eq_none (by rw [N.1];omega)];rfl
 refine ⟨⟨fun d hd=>?_,hln,fun i j d e h1 h2 hne=>?_⟩,⟨by omega,by rw [hln];omega,fun d hd=>?_,?_⟩,hnm,by omega⟩
 ·obtain ⟨i,hi⟩:=List.getElem?_of_mem hd;rw [(hat hi).2];exact ⟨rfl,rfl,rfl⟩
 ·obtain ⟨g1,rfl⟩:=hat h1;obtain ⟨g2,rfl⟩:=hat h2;show ur _ _ _ _ _=_;unfold lG;rw [cA (hsp i g1 _) (hsp i g1 _) (hsp j g2 _) (hsp j g2 _)];exact zA m hm x (List.mem_range.mpr hx) i (List.mem_range.mpr g1) j (List.mem_range.mpr g2) (os i) (os j) hne
 ·obtain ⟨i,hi⟩:=List.getElem?_of_mem hd;obtain ⟨g1,rfl⟩:=hat hi;have hxi:xs[i]? = some (xs[i]'(by rw [N.1];exact g1)):=List.getElem?_eq_getElem (by rw [N.1];exact g1);refine ⟨(by show (1:Nat) < 3;decide),?_,⟨Int.emod_nonneg _ (by omega),Int.emod_lt_of_pos _ hn⟩,⟨Int.emod_nonneg _ (by omega),Int.emod_lt_of_pos _ hn⟩,?_,(by show (0:Int) ≤ 0∧(0:Int) ≤ 30;decide),(by show (0:Int) ≤ 0∧(0:Int) ≤ 30;decide),(by show (1:Int) ≤ 1∧(1:Int) ≤ 60;decide)⟩
  ·show made ((xs[i]?).getD _) vg 8=true;rw [hxi];exact N.2.2 _ (List.mem_of_getElem? hxi)
  ·show (b + _) % _ ≠ (b + _) % _;rw [Ne,Zl (hsp i g1 _) (hsp i g1 _)];have:=(NJ m hm i (List.mem_range.mpr g1) (os i)).2;omega
 ·rw [hnm];exact N.2.1
noncomputable def Pz (K:PySem.W.Frag) (a:Addr) (ns:List Int):Sp:=fun vs H Q _=>∃ (m:Nat) (nl:Addr) (xs:List Str),vs=[.ref a,.int m,.ref nl]∧m ∈ [3,5]∧Sc K a ns H∧H nl=some (.lst (Bc xs))∧Nms m xs ∧
 ∀ r wl n ds H',Mb H H'→Sc K a ns H'→H' r=some (.tup [.int n,.ref wl])→H' wl=some (.lst (Bc (ds.map fun d=>Str.join bk (Xd d))))→Fq m n xs ds→Q (.ref r) H'
section
variable {P:Program} {w:World} {K:PySem.W.Frag} {mg:Str→Option Value} {base:Heap} {t:Adr}
theorem cG (T:Txt w K mg t) (a:Addr) (ns:List Int) (h63:ns.length ≤ 63):Kb P w K mg base CX0 2 t.Uh t.Mh q35 (Pz K a ns):=by
 have g0:Kb P w K mg base CX0 1 t.kf t.jf q16 (Wg K a ns):=uv T a ns h63;refine T.xk.ok wc (fun vs H Q E h=>?_) (fun _ _ _ s H vs Q E hr h=>?_)
 ·obtain ⟨m,nl,xs,rfl,_⟩:=h;rfl
 obtain ⟨m,nl,xs,rfl,hm,S,hnl,N,q⟩:=h;have h35:m=3∨m=5:=by simpa using hm
 have d1:=cg ns 2 (m:=15) (by decide);have d2:=jg ns 2 (m:=15) (by decide);obtain ⟨x,hx⟩:∃ x:Nat,Hh ns 2 15=(x:Int):=⟨_,(Int.toNat_of_nonneg d1).symm⟩;rw [hx] at d2;refine ⟨_,(cb (wb (i:=3) wc.nd (qb g0 hr T.qc T.Sb.kp T.kc (ab (pv 0) (ab lb (ab lb gb)))))
   (cb (wb (i:=4) wc.nd (Jb Bd (Jb Bf lb (pv 1)) (pv 3)))
   (cb (wb (i:=5) wc.nd (qb g0 hr T.qc T.Sb.kp T.kc (ab (pv 0) (ab lb (ab (pv 4) gb)))))
   (cb (wb (i:=6) wc.nd (yh gb))
   (cb (Af PassesOwn.never rfl (ue rfl T.Hf (ab (pv 1) gb)) (xb (i:=7) wc.nd) (cb (wb (i:=8) wc.nd (Jb Bf lb (pv 7)))
   (cb (wb (i:=9) wc.nd (Jb gf (Jb Bd (Jb Bf lb (pv 7)) lb) (Jb Bf lb (pv 1))))
   (cb (Ee (Vb Gk (qb g0 hr T.qc T.Sb.kp T.kc (ab (pv 0) (ab (Jb Bd lb (pv 7)) (ab lb gb)))) lb (Zb _)) (cb (wb (i:=8) wc.nd (Jb gf (Jb Bd (Jb Bf lb (pv 7)) lb) (Jb Bf lb (pv 1))))
   (ib (wb (i:=9) wc.nd (Jb Bf lb (pv 7))))) Yb)
   (cb (wb (i:=10) wc.nd (Jb Ad (Jb Ad (Ef Gg rfl T.MD zj (ab (Jb gf (Jb Bd (pv 5) (pv 8)) (pv 4)) gb)) ud) (Ef Gg rfl T.MD zj (ab (Jb gf (Jb Bd (pv 5) (pv 9)) (pv 4)) gb))))
   (ib (De (Qr PySem.F.plainAttrs_list PySem.F.slot_list_append PySem.F.type_list_append Po (pv 6) (ab (Jb Ad (Jb Ad (Jb Ad (Jb Ad ud (gc qe (pv 2) (pv 7))) ud) (pv 10)) ud) gb)))))))))
   (ib (Fb (Lc (ab (pv 4) (ab (pv 6) gb)))))))))),?_⟩
 refine zS (fun σ' H'=>H'=H∧σ'=[some (.ref a),some (.int m),some (.ref nl),some (.int (x:Int)),none,none,none,none,none,none,none]) (fun D' hD=>?_) fun zM zzh=>?_
 ·walk_at "RD";exact ⟨_,_,rfl,S,by decide,by decide,by rw [hx];exact hD _ _ ⟨rfl,rfl⟩⟩
 rintro σ1 H1 ⟨rfl,rfl⟩;subst zzh;refine zS (fun σ' H'=>H'=H1∧σ'=[some (.ref a),some (.int m),some (.ref nl),some (.int (x:Int)),some (.int ((2 * m + x:Nat):Int)),none,none,none,none,none,none]) (fun D' hD=>?_) fun zM zzh=>?_
 ·walk_at "RD";exact ⟨.inl (by decide),hD _ _ ⟨rfl,rfl⟩⟩
 rintro σ2 H2 ⟨rfl,rfl⟩;have hr68:=fun b os=>UI (b:=b) (os:=os) hm (show x < 15 by omega) N
 subst zzh;generalize hnn:((2 * m + x:Nat):Int)=n at hr68 ⊢;have hn0:0 < n∧n < 100:=by omega
 refine zS (fun σ' H'=>H'=H2∧∃ b:Int,0 ≤ b∧b < n∧σ'=[some (.ref a),some (.int m),some (.ref nl),some (.int (x:Int)),some (.int n),some (.int b),none,none,none,none,none]) (fun D' hD=>?_) fun zM zzh=>?_
 ·have e1:=cg ns 3 hn0.1;have e2:=jg ns 3 hn0.1;walk_at "RD";exact ⟨_,_,rfl,S,by decide,hn0.1,hD _ _ ⟨rfl,_,e1,e2,rfl⟩⟩
 rintro σ3 H3 ⟨rfl,b,hb0,hb1,rfl⟩;subst zzh;simp only [Cb];walk_at "RD";refine ⟨by decide,fun wl hwl=>⟨by omega,by omega,?_⟩⟩;rw [show ((m:Nat):Int).toNat=m by rfl];refine Vj.range (fun i σ H'=>Mb H3 H'∧Sc K a ns H'∧H' wl=some (.lst (Bc (((qB m n b (fun i=>decide (Hh ns (20 + i) 2=1)) xs).take i).map fun d=>Str.join bk (Xd d))))∧∃ x1 x2 x3 x4,σ=[some (.ref a),some (.int m),some (.ref nl),some (.int (x:Int)),some (.int n),some (.int b),some (.ref wl),x1,x2,x3,x4]) ⟨fb hwl,S.new hwl,db,_,_,_,_,rfl⟩ ?_ ?_
 ·rintro i σ H4 hi zzq;refine zP fun zM zzh=>?_
  obtain ⟨s4,S4,w4,x1,x2,x3,x4,rfl⟩:=zzq;subst zzh;simp only [Nh,Cb,List.set_cons_succ,List.set_cons_zero];rw [Int.zero_add];refine zzC (fun σ' H'=>H'=H4∧σ'=[some (.ref a),some (.int m),some (.ref nl),some (.int (x:Int)),some (.int n),some (.int b),some (.ref wl),some (.int (i:Int)),some (.int (sP m i false:Nat)),x3,x4]) (fun D' hD=>?_) fun zM zzh=>?_
  ·walk_at "RD";exact ⟨.inl (by decide),hD _ _ ⟨rfl,rfl⟩⟩
  rintro σ5 H5 ⟨rfl,rfl⟩;subst zzh;simp only [Cb];refine zzC (fun σ' H'=>H'=H5∧σ'=[some (.ref a),some (.int m),some (.ref nl),some (.int (x:Int)),some (.int n),some (.int b),some (.ref wl),some (.int (i:Int)),some (.int (sP m i false:Nat)),some (.int (sP m i true:Nat)),x4]) (fun D' hD=>?_) fun zM zzh=>?_
  ·walk_at "RD";exact ⟨.inl (by decide),.inl (by decide),by omega,hD _ _ ⟨rfl,rfl⟩⟩
  rintro σ6 H6 ⟨rfl,rfl⟩;subst zzh;simp only [Cb];refine zzC (fun σ' H'=>H'=H6∧σ'=[some (.ref a),some (.int m),some (.ref nl),some (.int (x:Int)),some (.int n),some (.int b),some (.ref wl),some (.int (i:Int)),some (.int (sP m i (decide (Hh ns (20 + i) 2=1)):Nat)),some (.int (sP m i (!decide (Hh ns (20 + i) 2=1)):Nat)),x4]) (fun D' hD=>?_) fun zM zzh=>?_
  ·refine Qb (decide (Hh ns (20 + i) 2=1)) (fun Q hQ=>?_) (fun h=>?_) (fun h=>?_)
   ·walk_at "RD";refine ⟨_,_,rfl,S4,by omega,by decide,rfl,?_⟩;walk_at "RD";exact hQ
   ·walk_at "RD";rw [h] at hD;exact ⟨.inl (by decide),.inl (by decide),by omega,.inl (by decide),hD _ _ ⟨rfl,rfl⟩⟩
   ·simp only [Jc];rw [h] at hD;exact hD _ _ ⟨rfl,rfl⟩
  rintro σ7 H7 ⟨rfl,rfl⟩;subst zzh;generalize hoo:decide (Hh ns (20 + i) 2=1)=o;simp only [Cb];walk_at "RD";have hxi:xs[i]? = some (xs[i]'(by rw [N.1];exact hi)):=List.getElem?_eq_getElem (by rw [N.1];exact hi);have v1:=Int.emod_nonneg (b + (sP m i o:Nat)) (show n ≠ 0 by omega);have v2:=Int.emod_lt_of_pos (b + (sP m i o:Nat)) hn0.1;have v3:=Int.emod_nonneg (b + (sP m i (!o):Nat)) (show n ≠ 0 by omega);have v4:=Int.emod_lt_of_pos (b + (sP m i (!o):Nat)) hn0.1;have ed:(qB m n b (fun i=>decide (Hh ns (20 + i) 2=1)) xs)[i]? = some (lG m n b (fun i=>decide (Hh ns (20 + i) 2=1)) xs i):=by unfold qB;rw [List.getElem?_map,List.getElem?_range hi];rfl
  have ew:Str.join bk (Xd (lG m n b (fun i=>decide (Hh ns (20 + i) 2=1)) xs i))=Str.ofString "foot " ++ xs[i]'(by rw [N.1];exact hi) ++ Str.ofString " " ++ (num ((b + (sP m i o:Nat)) % n) ++ Str.ofString " " ++ num ((b + (sP m i (!o):Nat)) % n)) ++ Str.ofString " 0 0 1" := by
   rw [SK];unfold Xd lG;rw [hxi];show Str.join bk [ff 1,_,num ((b + (sP m i (decide (Hh ns (20 + i) 2=1)):Nat)) % n),num ((b + (sP m i (!decide (Hh ns (20 + i) 2=1)):Nat)) % n),_,_,_]=_;rw [hoo];rfl
  have z1:(Str.ofString (toString ((b + (sP m i o:Nat)) % n))).length ≤ 8:=(We v1 (by omega)).1;have z2:(Str.ofString (toString ((b + (sP m i (!o):Nat)) % n))).length ≤ 8:=(We v3 (by omega)).1;have z3:(xs[i]'(by rw [N.1];exact hi)).length ≤ 8:=(Zp (N.2.2 _ (List.getElem_mem _))).1;have z4:(Str.ofString " ").length=1:=by decide +kernel
  have z5:(Str.ofString "foot ").length=5:=by decide +kernel
  have z6:(Str.ofString " 0 0 1").length=6:=by decide +kernel
  have hbig:∀ k:Nat,k ≤ 1000→k ≤ sizeLine:=fun k h=>Nat.le_trans h (by decide)
  refine ⟨hn0.1,Vk (by omega),hbig _ (by omega),hn0.1,Vk (by omega),hbig _ (by rw [Wd];omega),.inl ⟨_,SqL.of w4⟩,_,SqL.of (s4 _ _ hnl),V.str (xs[i]'(by rw [N.1];exact hi)),Ub (by unfold Bc;rw [List.getElem?_map,hxi];rfl),_,rfl,hbig _ (by omega),hbig _ (by rw [Wd];omega),hbig _ (by rw [Wd,Wd,Wd,Wd];omega),hbig _ (by rw [Wd,Wd,Wd,Wd,Wd];omega),_,w4,?_,s4.updN hwl,S4.set w4 (by intro ob z h;cases h),?_,?_⟩
  ·refine Nat.lt_of_le_of_lt (show _ ≤ 5 from ?_) (by decide);unfold Bc;rw [List.length_map,List.length_map,List.length_take];omega
  ·rw [db,List.take_add_one,ed,List.map_append];show _=some (HO.lst (Bc (_ ++ [Str.join bk (Xd (lG m n b (fun i=>decide (Hh ns (20 + i) 2=1)) xs i))])));rw [ew];unfold Bc;rw [List.map_append];rfl
  ·exact ⟨_,rfl⟩
 ·rintro σ H4 zzq;refine zP fun zM zzh=>?_
  obtain ⟨s4,S4,w4,x1,x2,x3,x4,rfl⟩:=zzq;have hl68:(qB m n b (fun i=>decide (Hh ns (20 + i) 2=1)) xs).length=m:=(hr68 b _).ring.ln;subst zzh;rw [List.take_of_length_le (by rw [hl68];exact Nat.le_refl _)] at w4;walk_at "RD";refine ⟨by decide,fun r hr=>q r wl n _ _ (s4.trans (fb hr)) (S4.new hr) db (fb hr _ _ w4) (hr68 b _)⟩
end
end My
namespace My
open PySem L2
theorem CG (n:Int):Str.ofString "ring " ++ num n=Str.join bk [Str.ofString "ring",num n]:=by
 apply gr;have e1:(Str.ofString "ring ").cps.toList=[114,105,110,103,32]:=by decide +kernel
 have e2:(Str.ofString "ring").cps.toList=[114,105,110,103]:=by decide +kernel
 rw [KG,Fk];simp only [Str.cps_append,Array.toList_append,List.map_cons,List.map_nil,jl,e1,e2,List.cons_append,List.nil_append]
theorem gF {B:Nat}:∀ {ys:List Str},(∀ y ∈ ys,y.length ≤ B)→(ys.map (·.length)).sum ≤ ys.length * B
 | [],_=>by simp
 | a :: r,h=>by
  have h1:=h a (by simp);have h2:=gF (B:=B) (ys:=r) fun y hy=>h y (List.mem_cons_of_mem _ hy)
  rw [List.map_cons,List.sum_cons,List.length_cons,Nat.succ_mul];omega
theorem rG {n:Int} {ds:List WD} (h:COk n ds):∀ y ∈ (Nm n ds).map (Str.join bk),y.length ≤ 63:=fun y hy=>by
 obtain ⟨r,hr,rfl⟩:=List.mem_map.mp hy;have:=Co bk 8 r fun x hx=>(h.plain r hr x hx).1
 rw [sw] at this;have hl:r.length ≤ 7:=by
  rcases List.mem_cons.mp hr with rfl | hr
  ·simp
  ·obtain ⟨d,hd,rfl⟩:=List.mem_map.mp hr;simp [Xd]
 omega
theorem kG {m i j:Nat} (hj:j < m):((i:Int) - (j:Int)) % (m:Int)=(((i + m - j) % m:Nat):Int):=by
 rw [Int.natCast_emod,show ((i + m - j:Nat):Int)=((i:Int) - (j:Int)) + (m:Int) by omega,Int.add_emod_right]
theorem FJ (x a b:Int):inV (.int x) [.int a,.int b]=(decide (x=a) || decide (x=b)):=by
 rw [FK,Bool.eq_iff_iff];simp
theorem Jr {m:Nat} {n T:Int} {xs:List Str} {ds:List WD} {p:Nat→Nat} {c:Nat} (R:Fq m n xs ds) (hT:1 ≤ T∧T ≤ 60) (hp:∀ k,k < c→p k < m) (hc:0 < c∧c ≤ 5):Lv n (He ds T p c)∧∀ q ∈ He ds T p c,∃ i:Nat,ds[i]? = some q.1:=by
 have key:∀ q ∈ He ds T p c,∃ k d,k < c∧ds[p k]? = some d∧q=(d,T):=fun q hq=>by
  obtain ⟨k,hk⟩:=List.getElem?_of_mem hq;have hkc:k < c:=by have:=(List.getElem?_eq_some_iff.mp hk).1;rwa [re] at this
  obtain ⟨d,d1,d2⟩:=mn (T:=T) R.ring hp hkc;rw [hk] at d2;exact ⟨k,d,hkc,d1,Option.some.inj d2⟩
 refine ⟨⟨fun q hq=>?_,by rw [re];omega,fun z=>?_⟩,fun q hq=>?_⟩
 ·obtain ⟨k,d,_,d1,rfl⟩:=key q hq;exact ⟨R.cok.al d (List.mem_of_getElem? d1),by omega,by omega⟩
 ·have:=re (ds:=ds) (T:=T) (p:=p) (c:=c);rw [z] at this;simp at this;omega
 ·obtain ⟨k,d,_,d1,rfl⟩:=key q hq;exact ⟨p k,d1⟩
theorem Os {m:Nat} {n T:Int} {xs:List Str} {ds:List WD} {p:Nat→Nat} {c:Nat} (R:Fq m n xs ds) (hp:∀ k,k < c→p k < m) {H:Hp} {tl:Addr} {qs:List Addr} (h1:H tl=some (.lst (qs.map V.ref))) (h2:qs.length=c) (h3:∀ (j:Nat) (q:Addr) (x:Str),qs[j]? = some q→xs[p j]? = some x→H q=some (.tup [.str x,.int T])):nk H tl (He ds T p c):=by
 refine ⟨qs,h1,by rw [h2,re],fun i q x g1 g2=>?_⟩;have hi:i < c:=by rw [← h2];exact (List.getElem?_eq_some_iff.mp g1).1
 obtain ⟨d,d1,d2⟩:=mn (T:=T) R.ring hp hi;rw [d2] at g2;cases g2;refine h3 i q d.name g1 ?_;rw [← R.nm,List.getElem?_map,d1];rfl
theorem CH {H H':Hp} {p:Addr} {qs:List Addr} {ws:List (WD × Int)} (s:Mb H H') (hp:H' p=some (.lst (qs.map V.ref))) (hl:qs.length=ws.length) (al:∀ (i:Nat) (q:Addr) (p:WD × Int),qs[i]? = some q→ws[i]? = some p→H q=some (.tup [.str p.1.name,.int p.2])):nk H' p ws:=
 ⟨qs,hp,hl,fun i q p h1 h2=>s _ _ (al i q p h1 h2)⟩
theorem uw {m:Nat} {n T:Int} {xs:List Str} {ds:List WD} (R:Fq m n xs ds) {f g:Nat} (hf:f < m) (hg:g < m) {H:Hp} {tl p1 p2:Addr} {x y:Str} (hx:xs[f]? = some x) (hy:xs[g]? = some y) (h1:H tl=some (.lst [.ref p1,.ref p2])) (h2:H p1=some (.tup [.str x,.int T])) (h3:H p2=some (.tup [.str y,.int T])):nk H tl (He ds T (fun k=>if k=0 then f else g) 2):=by
 refine Os R (fun k hk=>by show (if k=0 then f else g) < m;split <;> omega) (qs:=[p1,p2]) h1 rfl fun j q z g1 g2=>?_
 match j,g1,g2 with
 | 0,g1,g2=>
  cases g1;rw [show xs[if 0=0 then f else g]? = xs[f]? from rfl,hx] at g2;cases g2;exact h2
 | 1,g1,g2=>
  cases g1;rw [show xs[if 1=0 then f else g]? = xs[g]? from rfl,hy] at g2;cases g2;exact h3
theorem ly:∀ m ∈ [3,5],∀ f ∈ List.range m,bes m f ((f + 1) % m)=true:=by decide +kernel
theorem qG {m:Nat} (hm:m ∈ [3,5]) (f:Nat) (hf:f < m):bes m f ((f + 1) % m)=true:=ly m hm f (List.mem_range.mpr hf)
theorem KH:∀ f ∈ List.range 5,bes 5 f ((f + 2) % 5)=false:=by decide +kernel
theorem uH (x:Str) (ys:List Str) (h:ys ≠ []):Str.join nl (x :: ys)=x ++ Str.ofString "\n" ++ Str.join nl ys:=by
 cases ys with
 | nil=>exact absurd rfl h
 | cons y r=>
  apply gr;have e:(Str.ofString "\n").cps.toList=[10]:=by decide +kernel
  rw [gJ,Fk];simp only [Str.cps_append,Array.toList_append,Fk,e,List.map_cons,jl,List.append_assoc,List.cons_append,List.nil_append]
section
variable {P:Program} {w:World} {K:PySem.W.Frag} {mg:Str→Option Value} {base:Heap} {t:Adr}
theorem XH (T:Txt w K mg t):Kb P w K mg base CX0 17 t.fG t.xE ["_law_script"] (KJ K):=by
 refine T.cK.ok Ig (fun vs H Q E h=>?_) (fun _ _ _ s H vs Q E hr h=>?_)
 ·obtain ⟨a,ns,rfl,_⟩:=h;rfl
 obtain ⟨a,ns,rfl,S0,h63,q⟩:=h;have hU:=hr.units;have g0:Kb P w K mg base CX0 16 t.kf t.jf q16 (Wg K a ns):=(uv T a ns h63).mono (by decide);have g51:Kb P w K mg base CX0 16 t.Mg t.Jg q34 (yt K a ns):=(Fz T a ns h63).mono (by decide);have g52:Kb P w K mg base CX0 16 t.Uh t.Mh q35 (Pz K a ns):=(cG T a ns h63).mono (by decide);have g53:Kb P w K mg base CX0 16 t.Qe t.Se ["text"] (EJ t):=(pK T).mono (by decide);have g17:Kb P w K mg base CX0 16 t.Ls t.Bs q10 (Lu t):=(oB T).mono (by decide);have g21:Kb P w K mg base CX0 16 t.rj t.wj q30 (yv t):=(GD T).mono (by decide);refine ⟨_,(cb (En (i:=1) Ig.nd rfl (Or.inr rfl) (Jb Bd lb (Jb Bf lb (qb g0 hr T.qc T.Sb.kp T.kc (ab (pv 0) (ab lb (ab lb gb)))))))
   (cb (En (i:=2) Ig.nd rfl (Or.inr rfl) (Jb Bd lb (qb g0 hr T.qc T.Sb.kp T.kc (ab (pv 0) (ab lb (ab lb gb))))))
   (cb (En (i:=3) Ig.nd rfl (Or.inr rfl) (qb g51 hr T.Zt T.bj.kp T.At (ab (pv 0) (ab (pv 1) gb))))
   (cb (wb (i:=4) Ig.nd (qb g52 hr T.uu T.xk.kp T.Au (ab (pv 0) (ab (pv 1) (ab (pv 3) gb)))))
   (cb (wb (i:=5) Ig.nd (qb g53 hr T.Cn T.eg.kp T.Bn (ab (Jb Ad (Jb Ad (Jb Ad ud (Ef Gg rfl T.MD zj (ab (gc Je (pv 4) lb) gb))) ud) (Qr PySem.F.plainAttrs_str PySem.F.slot_str_join PySem.F.type_str_join KB ud (ab (gc Je (pv 4) lb) gb))) gb)))
   (cb (Af PassesOwn.never rfl (ue rfl T.Hf (ab (pv 1) gb)) (xb (i:=6) Ig.nd) (ib (Af PassesOwn.never rfl (ue rfl T.Hf (ab (pv 1) gb)) (xb (i:=7) Ig.nd) (cb (wb (i:=8) Ig.nd (Be Hl (Jb gf (Jb qk (pv 6) (pv 7)) (pv 1)) (Lc (ab lb (ab (Jb qk (pv 1) lb) gb))) (by with_unfolding_all rfl)))
   (ib (Ee (PW.pt (HF (Vb Zu (pv 6) (pv 7) (Zb _)) (OB (Vb Zu (qb g17 hr T.PF T.ax.kp T.bF (ab (pv 5) (ab (gc qe (pv 3) (pv 6)) (ab (gc qe (pv 3) (pv 7)) gb)))) (pv 8) (Zb _))))) (ib (Fb Fp)) Yb))))))
   (cb (En (i:=9) Ig.nd rfl (Or.inr rfl) (qb g0 hr T.qc T.Sb.kp T.kc (ab (pv 0) (ab lb (ab (pv 1) gb)))))
   (cb (En (i:=10) Ig.nd rfl (Or.inr rfl) (Yq (Vb Gk (pv 1) lb (Zb _)) (gc qe (yh (ab lb (ab (Jb qk (pv 1) lb) (ab lb gb)))) (qb g0 hr T.qc T.Sb.kp T.kc (ab (pv 0) (ab lb (ab lb gb))))) lb))
   (cb (sh (i:=11) Ig.nd rfl (Or.inl rfl) rfl (ue rfl T.Hf (ab (pv 1) gb)) (Hc (sc:=jb tH) rfl (by decide +kernel)) (N:=["_law_k","_law_names_here","_law_first","_law_step","_law_many","_law_turns"]) (sel:=[none,some 3,some 9,some 10,some 1,some 2]) (Cd (M:=["_law_script","_law_many","_law_turns","_law_names_here","_law_made","_law_crossing","_law_i","_law_j","_law_beside","_law_first","_law_step","_law_wants","_law_two","_law_apart_two"]) (by decide +kernel)) (Blk.of (fun _ _ _ _=>(xb (i:=0) (xi (N:=["_law_k","_law_names_here","_law_first","_law_step","_law_many","_law_turns"]) (by decide +kernel) rfl))) (fun _ _ _ _=>⟨_,wg,by walk_at "B"⟩) (fun _ _ _ _=>⟨_,(Lc (ab (gc qe (pv 1) (Jb gf (Jb Bd (pv 2) (Jb Bf (pv 3) (pv 0))) (pv 4))) (ab (pv 5) gb))),by walk_at "B"⟩)) rfl)
   (cb (Ee (Vb Zu (gc Je (qb g21 hr T.Xl T.Eh.kp T.Wl (ab (pv 5) (ab (Ef Ps rfl T.sI fv (ab (pv 11) gb)) gb))) lb) (gc qe (yh (ab (Jb Bf lb (pv 2)) (ab (Jb ou (Jb Bd (Jb Bf lb (pv 2)) lb) lb) gb))) (Jb ou (pv 1) lb)) (Zb _)) (ib (Fb Fp)) Yb)
   (cb (wb (i:=12) Ig.nd (yh (ab (Lc (ab (gc qe (pv 3) (pv 9)) (ab (pv 2) gb))) (ab (Lc (ab (gc qe (pv 3) (Jb gf (Jb Bd (pv 9) lb) (pv 1))) (ab (pv 2) gb))) gb))))
   (cb (Ee (Vb Zu (gc Je (qb g21 hr T.Xl T.Eh.kp T.Wl (ab (pv 5) (ab (pv 12) gb))) lb) (Jb Bf lb (pv 2)) (Zb _)) (ib (Fb Fp)) Yb)
   (cb (wb (i:=13) Ig.nd (yh (ab (Lc (ab (gc qe (pv 3) (pv 9)) (ab (pv 2) gb))) (ab (Lc (ab (gc qe (pv 3) (Jb gf (Jb Bd (pv 9) lb) (pv 1))) (ab (pv 2) gb))) gb))))
   (ib (Fb (FE (Be Gk (pv 1) lb (Zb _)) (Dq (Be Gk (gc Je (qb g21 hr T.Xl T.Eh.kp T.Wl (ab (pv 5) (ab (pv 13) gb))) lb) (pv 2) (Zb _))))))))))))))))))),?_⟩
 refine zS (fun σ' H'=>H'=H∧∃ m:Nat,m ∈ [3,5]∧σ'=[some (.ref a),some (.int m),none,none,none,none,none,none,none,none,none,none,none,none]) (fun D' hD=>?_) fun zM zzh=>?_
 ·have d1:=cg ns 0 (m:=2) (by decide);have d2:=jg ns 0 (m:=2) (by decide);walk_at "RD";refine ⟨_,_,rfl,S0,by decide,by decide,_,rfl,.inl (by decide),hD _ _ ⟨rfl,(3 + 2 * Hh ns 0 2).toNat,?_,?_⟩⟩
  ·simp only [List.mem_cons,List.not_mem_nil,or_false];omega
  ·rw [Int.toNat_of_nonneg (by omega)]
 rintro σ1 H1 ⟨rfl,m,hm,rfl⟩;have h35:m=3∨m=5:=by simpa using hm
 subst zzh;refine zS (fun σ' H'=>H'=H1∧∃ tn:Int,(1 ≤ tn∧tn ≤ 60)∧σ'=[some (.ref a),some (.int m),some (.int tn),none,none,none,none,none,none,none,none,none,none,none]) (fun D' hD=>?_) fun zM zzh=>?_
 ·have d1:=cg ns 1 (m:=60) (by decide);have d2:=jg ns 1 (m:=60) (by decide);walk_at "RD";exact ⟨_,_,rfl,S0,by decide,by decide,_,rfl,hD _ _ ⟨rfl,_,by omega,rfl⟩⟩
 rintro σ2 H2 ⟨rfl,tn,htn,rfl⟩;subst zzh;refine zS (fun σ' H'=>Mb H2 H'∧Sc K a ns H'∧∃ nl xs,H' nl=some (.lst (Bc xs))∧Nms m xs∧σ'=[some (.ref a),some (.int m),some (.int tn),some (.ref nl),none,none,none,none,none,none,none,none,none,none]) (fun D' hD=>?_) fun zM zzh=>?_
 ·walk_at "RD";exact ⟨m,rfl,S0,by omega,fun p xs H' s3 S3 _ e3 N=>hD _ _ ⟨s3,S3,p,xs,e3,N,rfl⟩⟩
 rintro σ3 H3 ⟨s3,S3,nl',xs,e3,N,rfl⟩;subst zzh;refine zS (fun σ' H'=>Mb H3 H'∧Sc K a ns H'∧∃ r wl n ds,H' r=some (.tup [.int n,.ref wl])∧H' wl=some (.lst (Bc (ds.map fun d=>Str.join bk (Xd d))))∧Fq m n xs ds∧σ'=[some (.ref a),some (.int m),some (.int tn),some (.ref nl'),some (.ref r),none,none,none,none,none,none,none,none,none]) (fun D' hD=>?_) fun zM zzh=>?_
 ·walk_at "RD";exact ⟨m,nl',xs,rfl,hm,S3,e3,N,fun r wl n ds H' s4 S4 e4 w4 R=>hD _ _ ⟨s4,S4,r,wl,n,ds,e4,w4,R,rfl⟩⟩
 rintro σ4 H4 ⟨s4,S4,r,wl,n,ds,r4,w4,R,rfl⟩;have hn:=R.n4;have hdl:=R.ring.ln;have e4:=s4 _ _ e3;subst zzh;refine zS (fun σ' H'=>Mb H4 H'∧Sc K a ns H'∧∃ c,Te t H' c n ds∧σ'=[some (.ref a),some (.int m),some (.int tn),some (.ref nl'),some (.ref r),some (.ref c),none,none,none,none,none,none,none,none]) (fun D' hD=>?_) fun zM zzh=>?_
 ·have hne:(ds.map fun d=>Str.join bk (Xd d)) ≠ []:=fun z=>by
   have:=congrArg List.length z;rw [List.length_map,hdl] at this;simp at this;omega
  have hrow:∀ y ∈ ds.map (fun d=>Str.join bk (Xd d)),y.length ≤ 63:=fun y hy=>by
   obtain ⟨d,hd,rfl⟩:=List.mem_map.mp hy;exact rG R.cok _ (List.mem_map.mpr ⟨Xd d,List.mem_cons_of_mem _ (List.mem_map_of_mem hd),rfl⟩)
  have hsum:=gF hrow;have hjl:(Str.join nl (ds.map fun d=>Str.join bk (Xd d))).length ≤ 500:=by
   have:=Co nl 63 _ hrow;rw [show nl.length=1 by decide +kernel,List.length_map,hdl] at this;omega
  rw [List.length_map,hdl] at hsum;have hn8:(Str.ofString (toString n)).length ≤ 8:=(We (v:=n) (by omega) (by omega)).1;have z4:(Str.ofString "\n").length=1:=by decide +kernel
  have z5:(Str.ofString "ring ").length=5:=by decide +kernel
  have hbig:∀ k:Nat,k ≤ 1000→k ≤ sizeLine:=fun k h=>Nat.le_trans h (by decide)
  have hj:Txt.join (Str.ofString "\n") (ds.map fun d=>Str.join bk (Xd d))=Str.join nl (ds.map fun d=>Str.join bk (Xd d)):=StrLaws.glued_eq_join _ _;walk_at "RD";refine ⟨_,SqT.of r4,_,Ub (j:=0) rfl,_,rfl,Vk (by omega),hbig _ (by omega),hbig _ (by rw [Wd];omega),_,SqT.of r4,_,Ub (j:=1) rfl,wl,rfl,_,SqL.of w4,by rw [List.length_map,hdl,z4];omega,hbig _ (by rw [Wd,Wd,hj];omega),n,ds,?_,R.cok,S4.nt,fun c H' s5 n5 C5=>hD _ _ ⟨s5,S4.same s5 n5,c,C5,rfl⟩⟩;rw [hj];unfold mv Nm;rw [List.map_cons,List.map_map,← CG];show [V.str (Str.ofString "ring " ++ num n ++ Str.ofString "\n" ++ Str.join nl (ds.map fun d=>Str.join bk (Xd d)))]=[V.str (Str.join nl ((Str.ofString "ring " ++ num n) :: ds.map fun d=>Str.join bk (Xd d)))];rw [uH _ _ hne]
 rintro σ5 H5 ⟨s5,S5,c,C5,rfl⟩;have e5:=s5 _ _ e4;have hxm:∀ {i:Nat},i < m→∃ x d,xs[i]? = some x∧ds[i]? = some d∧x=d.name:=fun {i} hi=>by
  have hd:ds[i]? = some (ds[i]'(by rw [hdl];exact hi)):=List.getElem?_eq_getElem (by rw [hdl];exact hi);refine ⟨_,_,?_,hd,rfl⟩;rw [← R.nm,List.getElem?_map,hd];rfl
 have hat:∀ {i:Nat} {x:Str},xs[i]? = some x→atI (Bc xs) (i:Int)=some (.str x):=fun {i x} h=>Ub (by unfold Bc;rw [List.getElem?_map,h];rfl)
 subst zzh;simp only [Cb];refine vc (fun σ' H'=>Mb H5 H'∧Sc K a ns H'∧∃ x1 x2 x3,σ'=[some (.ref a),some (.int m),some (.int tn),some (.ref nl'),some (.ref r),some (.ref c),x1,x2,x3,none,none,none,none,none]) (fun D' hD hrt _ _=>?_) ?_
 ·walk_at "RD";refine ⟨by omega,by omega,?_⟩;rw [show ((m:Nat):Int).toNat=m by rfl];refine Vj.range (fun i σ' H'=>Mb H5 H'∧Sc K a ns H'∧∃ x1 x2 x3,σ'=[some (.ref a),some (.int m),some (.int tn),some (.ref nl'),some (.ref r),some (.ref c),x1,x2,x3,none,none,none,none,none]) ⟨Mb.refl _,S5,_,_,_,rfl⟩ ?_ (fun σ' H' z=>hD _ _ z);rintro i σ6 H6 hi zzq;refine zP fun zM zzh=>?_
  obtain ⟨s6,S6,x1,x2,x3,rfl⟩:=zzq;subst zzh;walk_at "RD";refine ⟨by omega,by omega,?_⟩;rw [show ((m:Nat):Int).toNat=m by rfl];refine Vj.range (fun j σ' H'=>Mb H5 H'∧Sc K a ns H'∧∃ x2 x3,σ'=[some (.ref a),some (.int m),some (.int tn),some (.ref nl'),some (.ref r),some (.ref c),some (.int (i:Int)),x2,x3,none,none,none,none,none]) ⟨s6,S6,_,_,rfl⟩ ?_ (fun σ' H' z=>?_)
  ·rintro j σ7 H7 hj zzq;refine zP fun zM zzh=>?_
   obtain ⟨s7,S7,x2,x3,rfl⟩:=zzq;subst zzh;simp only [Nh,Cb,List.set_cons_succ,List.set_cons_zero];rw [Int.zero_add];refine zzC (fun σ' H'=>Mb H7 H'∧Sc K a ns H'∧σ'=[some (.ref a),some (.int m),some (.int tn),some (.ref nl'),some (.ref r),some (.ref c),some (.int (i:Int)),some (.int (j:Int)),some (.bl (bes m i j)),none,none,none,none,none]) (fun D' hD=>?_) fun zM zzh=>?_
   ·walk_at "RD";refine ⟨by omega,by decide,fun p hp=>⟨_,.inr (SqT.of db),rfl,rfl,?_⟩⟩;have eb:inV (V.int (((i:Int) - (j:Int)) % (m:Int))) [V.int 1,V.int ((m:Int) - 1)]=bes m i j:=by
     rw [FJ,kG hj];unfold bes;rw [Bool.eq_iff_iff];simp only [Bool.or_eq_true,decide_eq_true_eq];omega
    rw [eb];exact hD _ _ ⟨fb hp,S7.new hp,rfl⟩
   rintro σ8 H8 ⟨s8,S8,rfl⟩;subst zzh;dsimp only;have s58:=s7.trans s8;refine Qb false (fun Q hQ=>?_) (fun z=>nomatch z) (fun _=>?_)
   ·obtain ⟨x,d,hx1,hx2,rfl⟩:=hxm hi;obtain ⟨y,e,hy1,hy2,rfl⟩:=hxm hj;walk_at "RD";by_cases hij:i=j
    ·rw [if_neg (by simp;omega)];exact hQ
    ·rw [if_pos (by simp;omega)];refine ⟨_,SqL.of (s58 _ _ e5),_,hat hx1,_,SqL.of (s58 _ _ e5),_,hat hy1,c,n,ds,i,j,d,e,rfl,C5.same s58,by omega,hx2,hy2,S8.nt,rfl,?_⟩;rw [R.ring.mt i j d e hx2 hy2 hij,decide_eq_true rfl];exact hQ
   ·simp only [Jc];exact ⟨s58,S8,_,_,rfl⟩
  ·obtain ⟨z1,z2,x2,x3,rfl⟩:=z;exact ⟨z1,z2,_,_,_,rfl⟩
 rintro σ6 H6 zzq;refine zP fun zM zzh=>?_
 obtain ⟨s6,S6,x1,x2,x3,rfl⟩:=zzq;have e6:=s6 _ _ e5;have C6:=C5.same s6;subst zzh;simp only [Cb];refine zzC (fun σ' H'=>H'=H6∧∃ f:Nat,f < m∧σ'=[some (.ref a),some (.int m),some (.int tn),some (.ref nl'),some (.ref r),some (.ref c),x1,x2,x3,some (.int (f:Int)),none,none,none,none]) (fun D' hD=>?_) fun zM zzh=>?_
 ·have d1:=cg ns 4 (m:=(m:Int)) (by omega);have d2:=jg ns 4 (m:=(m:Int)) (by omega);walk_at "RD";exact ⟨_,_,rfl,S6,by decide,by omega,hD _ _ ⟨rfl,(Hh ns 4 m).toNat,by omega,by rw [Int.toNat_of_nonneg d1]⟩⟩
 rintro σ7 H7 ⟨rfl,f,hf,rfl⟩;subst zzh;simp only [Cb];refine zzC (fun σ' H'=>Mb H7 H'∧Sc K a ns H'∧∃ s:Nat,(m,s) ∈ [(3,1),(5,1),(5,4),(5,2)]∧σ'=[some (.ref a),some (.int m),some (.int tn),some (.ref nl'),some (.ref r),some (.ref c),x1,x2,x3,some (.int (f:Int)),some (.int (s:Int)),none,none,none]) (fun D' hD=>?_) fun zM zzh=>?_
 ·have d1:=cg ns 5 (m:=3) (by decide);have d2:=jg ns 5 (m:=3) (by decide);walk_at "RD";rcases h35 with rfl | rfl
  ·rw [if_neg (by decide)];exact hD _ _ ⟨Mb.refl _,S6,1,by decide,rfl⟩
  ·rw [if_pos (by decide)];refine ⟨by decide,fun p hp=>⟨_,_,rfl,S6.new hp,by decide,by decide,_,_,rfl,SqL.of db,?_⟩⟩;obtain h | h | h:Hh ns 5 3=0∨Hh ns 5 3=1∨Hh ns 5 3=2:=by omega
   all_goals rw [h]
   ·exact ⟨_,Ub (j:=0) rfl,hD _ _ ⟨fb hp,S6.new hp,1,by decide,rfl⟩⟩
   ·exact ⟨_,Ub (j:=1) rfl,hD _ _ ⟨fb hp,S6.new hp,4,by decide,rfl⟩⟩
   ·exact ⟨_,Ub (j:=2) rfl,hD _ _ ⟨fb hp,S6.new hp,2,by decide,rfl⟩⟩
 rintro σ8 H8 ⟨s8,S8,st,hst,rfl⟩;have e8:=s8 _ _ e6;have C8:=C6.same s8;subst zzh;simp only [Cb];refine zzC (fun σ' H'=>Mb H8 H'∧Sc K a ns H'∧∃ tl,nk H' tl (He ds tn (fun k=>(f + st * k) % m) m)∧σ'=[some (.ref a),some (.int m),some (.int tn),some (.ref nl'),some (.ref r),some (.ref c),x1,x2,x3,some (.int (f:Int)),some (.int (st:Int)),some (.ref tl),none,none]) (fun D' hD=>?_) fun zM zzh=>?_
 ·walk_at "RD";refine ⟨by omega,by omega,?_⟩;rw [show ((m:Nat):Int).toNat=m by rfl];refine Yc.range (fun i ys H'=>Mb H8 H'∧Sc K a ns H'∧∃ qs:List Addr,ys=qs.map V.ref∧qs.length=i∧∀ (j:Nat) (q:Addr) (x:Str),qs[j]? = some q→xs[(f + st * j) % m]? = some x→H' q=some (.tup [.str x,.int tn])) (Nat.le_trans (show m ≤ 5 by omega) (by decide)) ⟨Mb.refl _,S8,[],rfl,rfl,fun j q x h=>by simp at h⟩ (fun i ys H' hi ⟨_,_,qs,e,hl,_⟩=>by rw [e,List.length_map,hl];exact Nat.le_refl _) ?_ ?_
  ·rintro i ys H' hi ⟨s9,S9,qs,rfl,hql,al⟩ N' hN';obtain ⟨x,d,hx1,hx2,_⟩:=hxm (i:=(f + st * i) % m) (Nat.mod_lt _ (by omega));walk_at "RD";rw [show ((f:Int) + (st:Int) * (i:Int)) % (m:Int)=(((f + st * i) % m:Nat):Int) by rw [Int.natCast_emod,Int.natCast_add,Int.natCast_mul]];refine ⟨Sub.name,.inr (by omega),by omega,_,SqL.of (s9 _ _ e8),_,hat hx1,by decide,fun tp htp=>hN' _ _ ⟨s9.trans (fb htp),S9.new htp,qs ++ [tp],by rw [List.map_append];rfl,by rw [List.length_append,hql];rfl,fun j q z g1 g2=>?_⟩⟩;rcases uA g1 with ⟨y1,y2⟩ | ⟨y1,y2⟩
   ·exact fb htp _ _ (al j q z y2 g2)
   ·rw [y1,hql,hx1] at g2;cases g2;rw [y2];exact db
  ·rintro ys H' ⟨s9,S9,qs,rfl,hql,al⟩ p hp;refine hD _ _ ⟨s9.trans (fb hp),S9.new hp,p,Os R (fun k hk=>Nat.mod_lt _ (by omega)) db hql fun j q x h1 h2=>fb hp _ _ (al j q x h1 h2),rfl⟩
 rintro σ9 H9 ⟨s9,S9,tl,hT,rfl⟩;have e9:=s9 _ _ e8;have C9:=C8.same s9;obtain ⟨qs,t1,t2,t3⟩:=id hT;obtain ⟨wk,hin⟩:=Jr (T:=tn) (p:=fun k=>(f + st * k) % m) (c:=m) R htn (fun k hk=>Nat.mod_lt _ (by omega)) (by omega);subst zzh;simp only [Cb];refine zzC (fun σ' H'=>Mb H9 H'∧Sc K a ns H'∧σ'=[some (.ref a),some (.int m),some (.int tn),some (.ref nl'),some (.ref r),some (.ref c),x1,x2,x3,some (.int (f:Int)),some (.int (st:Int)),some (.ref tl),none,none]) (fun D' hD=>?_) fun zM zzh=>?_
 ·refine Yk (fun b H'=>b=false∧Mb H9 H'∧Sc K a ns H') (fun Q hQ=>?_) (fun H' z=>nomatch z.1) (fun H' z=>?_)
  ·walk_at "RD";refine ⟨_,.inl (SqL.of t1),fun l hl=>⟨n,_,⟨c,l,ds,rfl,C9.same (fb hl),by omega,CH (fb hl) db t2 t3,hin,wk,S9.nt.upd⟩,fun r' z pb pa b p H' s' n' e' SA=>⟨_,rfl,_,SqT.of e',_,Ub (j:=0) rfl,.inl (by decide),.inl (by decide),by unfold VJ;omega,by decide,fun p2 hp2=>⟨by unfold VJ;omega,_,SqL.of db,?_⟩⟩⟩⟩;have hz:=gE R.ring htn.1 hst rfl hf SA.z1 SA.does (fun y c h1 h2=>SA.least wk.ok h1 h2 c);have sQ:=((fb (o:=.lst (qs.map V.ref)) hl).trans s').trans (fb (o:=.lst [V.int (3 * tn),V.int ((5 * tn + 1) / 2)]) hp2);have SQ:=((S9.new (o:=.lst (qs.map V.ref)) hl).same s' n').new (o:=.lst [V.int (3 * tn),V.int ((5 * tn + 1) / 2)]) hp2;rcases h35 with rfl | rfl
   ·refine ⟨_,Ub (j:=0) rfl,rfl,hQ _ _ ⟨?_,sQ,SQ⟩⟩;rw [if_pos rfl] at hz;rw [hz,decide_eq_true rfl];rfl
   ·refine ⟨_,Ub (j:=1) rfl,rfl,hQ _ _ ⟨?_,sQ,SQ⟩⟩;rw [if_neg (by decide)] at hz;rw [hz,decide_eq_true rfl];rfl
  ·simp only [Jc];exact hD _ _ ⟨z.2.1,z.2.2,rfl⟩
 rintro σ10 H10 ⟨s10,S10,rfl⟩;have e10:=s10 _ _ e9;have C10:=C9.same s10;obtain ⟨xf,df,hf1,hf2,_⟩:=hxm hf;have hg1:(f + 1) % m < m:=Nat.mod_lt _ (by omega);have hg2:(f + 2) % m < m:=Nat.mod_lt _ (by omega);obtain ⟨xg,dg,hg3,hg4,_⟩:=hxm hg1;obtain ⟨xh,dh,hh3,hh4,_⟩:=hxm hg2;have c1:((f:Int) + 1) % (m:Int)=(((f + 1) % m:Nat):Int):=by rw [Int.natCast_emod];rfl
 have c2:((f:Int) + 2) % (m:Int)=(((f + 2) % m:Nat):Int):=by rw [Int.natCast_emod];rfl
 subst zzh;simp only [Cb];refine zzC (fun σ' H'=>Mb H10 H'∧Sc K a ns H'∧∃ ul,nk H' ul (He ds tn (fun k=>if k=0 then f else (f + 1) % m) 2)∧σ'=[some (.ref a),some (.int m),some (.int tn),some (.ref nl'),some (.ref r),some (.ref c),x1,x2,x3,some (.int (f:Int)),some (.int (st:Int)),some (.ref tl),some (.ref ul),none]) (fun D' hD=>?_) fun zM zzh=>?_
 ·walk_at "RD";rw [c1];refine ⟨_,SqL.of e10,_,hat hf1,by decide,fun p1 hp1=>⟨by omega,_,SqL.of (fb hp1 _ _ e10),_,hat hg3,by decide,fun p2 hp2=>⟨by decide,fun p3 hp3=>?_⟩⟩⟩;have t1':=fb (o:=.tup [.str xf,.int tn]) hp1;have t2':=fb (o:=.tup [.str xg,.int tn]) hp2;have t3':=fb (o:=.lst [.ref p1,.ref p2]) hp3;exact hD _ _ ⟨(t1'.trans t2').trans t3',((S10.new hp1).new hp2).new hp3,p3,uw R hf hg1 hf1 hg3 db ((t2'.trans t3') _ _ db) (t3' _ _ db),rfl⟩
 rintro σ11 H11 ⟨s11,S11,ul,hU2,rfl⟩;have e11:=s11 _ _ e10;have C11:=C10.same s11;obtain ⟨wk2,hin2⟩:=Jr (T:=tn) (p:=fun k=>if k=0 then f else (f + 1) % m) (c:=2) R htn (fun k hk=>by show (if k=0 then f else (f + 1) % m) < m;split <;> omega) (by omega);subst zzh;simp only [Cb];refine zzC (fun σ' H'=>Mb H11 H'∧Sc K a ns H'∧σ'=[some (.ref a),some (.int m),some (.int tn),some (.ref nl'),some (.ref r),some (.ref c),x1,x2,x3,some (.int (f:Int)),some (.int (st:Int)),some (.ref tl),some (.ref ul),none]) (fun D' hD=>?_) fun zM zzh=>?_
 ·refine Yk (fun b H'=>b=false∧Mb H11 H'∧Sc K a ns H') (fun Q hQ=>?_) (fun H' z=>nomatch z.1) (fun H' z=>?_)
  ·walk_at "RD";refine ⟨n,_,⟨c,ul,ds,rfl,C11,by omega,hU2,hin2,wk2,S11.nt⟩,fun r' z pb pa b p H' s' n' e' SA=>⟨_,rfl,_,SqT.of e',_,Ub (j:=0) rfl,.inl (by decide),rfl,hQ _ _ ⟨?_,s',S11.same s' n'⟩⟩⟩;have hz:=Cw R.ring htn.1 hf hg1 (by rcases h35 with rfl | rfl <;> omega) SA.z1 SA.does (fun y c h1 h2=>SA.least wk2.ok h1 h2 c);rw [qG hm f hf,if_pos rfl] at hz;rw [hz,decide_eq_true rfl];rfl
  ·simp only [Jc];exact hD _ _ ⟨z.2.1,z.2.2,rfl⟩
 rintro σ12 H12 ⟨s12,S12,rfl⟩;have e12:=s12 _ _ e11;have C12:=C11.same s12;subst zzh;simp only [Cb];refine zzC (fun σ' H'=>Mb H12 H'∧Sc K a ns H'∧∃ vl,nk H' vl (He ds tn (fun k=>if k=0 then f else (f + 2) % m) 2)∧σ'=[some (.ref a),some (.int m),some (.int tn),some (.ref nl'),some (.ref r),some (.ref c),x1,x2,x3,some (.int (f:Int)),some (.int (st:Int)),some (.ref tl),some (.ref ul),some (.ref vl)]) (fun D' hD=>?_) fun zM zzh=>?_
 ·walk_at "RD";rw [c2];refine ⟨_,SqL.of e12,_,hat hf1,by decide,fun p1 hp1=>⟨by omega,_,SqL.of (fb hp1 _ _ e12),_,hat hh3,by decide,fun p2 hp2=>⟨by decide,fun p3 hp3=>?_⟩⟩⟩;have t1':=fb (o:=.tup [.str xf,.int tn]) hp1;have t2':=fb (o:=.tup [.str xh,.int tn]) hp2;have t3':=fb (o:=.lst [.ref p1,.ref p2]) hp3;exact hD _ _ ⟨(t1'.trans t2').trans t3',((S12.new hp1).new hp2).new hp3,p3,uw R hf hg2 hf1 hh3 db ((t2'.trans t3') _ _ db) (t3' _ _ db),rfl⟩
 rintro σ13 H13 ⟨s13,S13,vl,hV2,rfl⟩;have C13:=C12.same s13;obtain ⟨wk3,hin3⟩:=Jr (T:=tn) (p:=fun k=>if k=0 then f else (f + 2) % m) (c:=2) R htn (fun k hk=>by show (if k=0 then f else (f + 2) % m) < m;split <;> omega) (by omega);subst zzh;dsimp only;walk_at "RD";by_cases h3:m=3
 ·rw [if_pos (by rw [decide_eq_true_eq];omega)];exact q _
 ·rw [if_neg (by rw [decide_eq_true_eq];omega)];have h5:m=5:=by omega
  refine ⟨n,_,⟨c,vl,ds,rfl,C13,by omega,hV2,hin3,wk3,S13.nt⟩,fun r' z pb pa b p H' s' n' e' SA=>⟨_,rfl,_,SqT.of e',_,Ub (j:=0) rfl,rfl,?_⟩⟩;have hz:=Cw R.ring htn.1 hf hg2 (by rcases h35 with rfl | rfl <;> omega) SA.z1 SA.does (fun y c h1 h2=>SA.least wk3.ok h1 h2 c);rw [show bes m f ((f + 2) % m)=false by subst h5;exact KH f (List.mem_range.mpr hf),if_neg Bool.false_ne_true] at hz;rw [hz,decide_eq_true rfl];exact q _
end
end My
structure PySem.W.Fast:Prop where(tw5920032480720625054 tw15234635580527849235 tw15861780561745233092 tw6081231721286199716 tw12651333783452427145 tw9477554833052567848 tw3399770599504685683 tw10267617283098028799 tw926461725935672456 tw14907928767115687417 tw2059963715405007503 tw8901695813778343182 tw6786378295144318825 tw15907785928428118416 tw13375205071043148855 tw18394511631231385783 tw6476402371372333528 tw1215558769464773710 tw13288980445596055390 tw7299837660754933792 tw12375671304851469414 tw5125807929433770659 tw1173647269859700091 tw2558304246633841939 tw37640614577275439 tw8324949942573331594 tw13813422376258281648 tw13959106779902264451 tw14869691781826158335 tw718974895756913015 tw7812605490393858037 tw10584326794358762937 tw3096081744277062797 tw11664452214867555410 tw456008992594154107 tw14113906683353499352 tw6569999552951271312 tw14343056234569727466 tw6482099254063156816 tw10910203446362252366 tw7865894534286354714 tw8918692505531626967 tw8690026848974186020 tw9961809419489903786 tw6949574588773310678 tw13453781604396952083 tw4824710069438278410 tw2850293365940410095 tw7474193636817339058 tw365627227804385276 tw15547428690420874389 tw3817398757801475184 tw15126916052748363288 tw13526776726697897011 tw1187339086827098111 tw13184629315693966079 tw7813406977099745223 tw16020066739694534897 tw6741375604928280319 tw2250033411232823697 tw6026930883000627690 tw8031223989235720823 tw3216049722285384226 tw3304386932353697263 tw7086287968684446022 tw9917693072872536198 tw4232415783240244638 tw2359387837173483752 tw15691363570636204314 tw16548122324930937457 tw8717837076220110099 tw3428802662997956375 tw6096279744010692054 tw567619541832577977 tw14091893149094655305 tw9028640165347176219 tw6164334927305777740 tw11663665364660693416 tw11430539965629408840 tw17294495629156912105 tw12992935685590916724 tw11014319199042557075 tw15080314585020028468 tw5413388471432832279 tw12878616330305101880 tw7931295742364560328 tw6057397847244151524 tw7128155225168000294 tw895124324897841736 tw14464434462289576846 tw5332817539715631103 tw17533882003066174704 tw15141469287772243188 tw16683521590543098379 tw18201924764029685172 tw11625099937249214993 tw8465269796272067828 tw15921783493700306611 tw18226795816573919286 tw2066148286068278755 tw8304200462102010368 tw4161903385780537936 tw519684962773285897 tw107285452035624206 tw14945674221925456767 tw4109188637968947044 tw14842186920888251210 tw6673173209075982167 tw12601547474803944015 tw11258618954579695379 tw17180714858333021398 tw16067299244247768575 tw1607067366552816193 tw984899874431822041 tw13695482323225257701 tw16807999609161908971 tw13953033142169751291 tw9249308359500290555 tw3722399419591722446 tw12949621352311841075 tw14678411877734566476 tw4052402561909307128 tw6780358240461969439 tw14237846169465725228 tw10985912988676649055 tw9302237836291540563 tw10379002822817371652 tw5100227967221840736 tw12076685922809581790 tw1067420579181687881 tw15789428691857003604 tw7874124905294565473 tw13131537954938111741 tw7792039623776005826 tw2906056689224371257 tw12091185965713167068 tw1152089386424693956 tw18350294317193209332 tw2771155610774053306 tw5953780157679634437 tw15540960117897728833 tw14503604183889779495 tw7451306125459907837 tw14227191907010398300 tw9530189066509629959 tw12381356430498298133 tw346689069367853384 tw5627101355154015609 tw14807161751055860944 tw3619564571307211315 tw12604562788333661583 tw6527181544162519974 tw12092378858990786289 tw9346980999242850154 tw6241516445016864798 tw1138629573495469041 tw15216859293547948372 tw7122999891946552863 tw14602796989261018896 tw1175483668988098941 tw8192129515452859492 tw11014891118155672336 tw6601397780122289873 tw1295562228537165295 tw7671679926951077250 tw8814620813909060343 tw6003632624861351580 tw15969785728196746492 tw11581178005772852119 tw4391001903429118420 tw16133994510191237282 tw3159376201091372548 tw10324284045213051851 tw11676513745395825329 tw77645981428772385 tw12107091322545117876 tw16002029633561459959 tw17541063914439851847 tw1400565053733925195 tw1041245388599626798 tw12056814361404837866 tw9988927840421279117 tw17484436394107340555 tw16416980415220412957 tw18403265011020335794 tw12797767532092683374 tw5162306171835875607 tw4253851194243903623 tw6714599593059101410 tw1655256705270239110 tw5679564798242474881 tw8511336729601082968 tw17425122334480999107 tw14765063276338588895 tw2253524340557918433 tw5146583357028884001 tw7007200697569176242 tw10319194220608187197 tw2513122034802259815 tw2425481589623813946 tw16117630953154975907 tw15440985626911111289 tw17193683955293238069 tw14430197741906294846 tw18350397656650718733 tw5426965919728532949 tw8515198878789586133 tw12770023712442933902 tw1440023741469525229 tw1573937019773478944 tw13151538939780785377 tw16418592628884902974 tw17156017328039011750 tw13043677352484123253 tw12434746241663406419 tw16525015117651422068 tw11680620701774912391 tw1173656050636529796 tw15169740161462955246 tw1329852218567935702 tw17562024597409135469 tw4786138886072237730 tw3150009357789435560 tw2506746321094808266 tw8793854285663532760 tw1156991890166836610 tw6213197182253696014 tw18208532181328390205 tw10588737247043809357 tw14356393908709254728 tw2963526429037016626 tw14352460558601876972 tw17290622135970665258 tw14689031838478666004 tw6023734541888802395 tw2846864219187134010 tw1249960462287973516 tw10124016244852636382 tw14914970507456491787 tw11594753658567069901 tw6678318979509302118 tw9990723521489040575 tw8891843599021674423 tw9249299961516837357 tw2064840628224508307 tw17677964971736856496 tw13426671410700115551 tw12808479142195767216 tw18017095034065611639 tw5499111043126820197 tw9506811727150081209 tw15474185704430585790 tw6114761966228236909 tw10349342997443995338 tw775269692898800102 tw11027459453442874369 tw12236109585421452139 tw7464043041938027898 tw458168050138508654 tw10652827194480898721 tw1205824810879962531 tw15340579173662740366 tw7711023120768425059 tw8346667497204763937 tw13585184277882960841 tw13478758377111798122 tw12070585223355724158 tw2452159553724929610 tw4752728172290250715 tw12325251439591381399 tw11888080235425060861 tw16074211527409434665 tw13900256874537747707 tw6060321821566569085 tw2354635163321398101 tw14213820442498598291 tw1344690298492330440 tw16000467170690975902 tw223320208580484730 tw10818013383703762373 tw9185784997311396314 tw17682637870836008012 tw12236455277405270111 tw6551822440809859567 tw3244859045112179661 tw8517156880629254321 tw2846692785664936641 tw12874107705427228814 tw15839116755982892281 tw3636968784293708653 tw7046385236160482264 tw16200849406000341779 tw14329695481921880913 tw5577420476439824966 tw10596718128160831652 tw15377913150868032036 tw14763571588223682221 tw12471771395268129236 tw2463546641979518073 tw13488257497245860013 tw15281179474148394365 tw1886615437156075436 tw3808935583780079193 tw12571338816904514364 tw4547289903559424114 tw12479052460190474153 tw10484030732656178339 tw9240453662865253602 tw2815079155482061266 tw250834621014019473 tw11601515188901470840 tw482826085799781044 tw10408319278978046960 tw11033141342948154392 tw5755315855689860881 tw16073507098702629147 tw15054676130805750267 tw13829625108658676698 tw7143074654395096928 tw10553795228199062416 tw4447199437300936327 tw3835422924069892199 tw9010534073073068886 tw5359324614125535542 tw9771736094387322345 tw14172529369731052205 tw12182387213929216004 tw13819458085445316569 tw17095248393137004442 tw2486824271764110396 tw2818213518991131717 tw16834085206204019108 tw6439414482064791789 tw16922034699320616354 tw14600876534227663427 tw17013308874548326042 tw10286096231190456109 tw12806403166293209658 tw7926109653081497740 tw15630907489839377660 tw13923095916505369097 tw2055965931998951378 tw10503979274552290622 tw13366959690294086388 tw7042862530762563180 tw3626633514768695444 tw7976175386208739887 tw1356688781484245700 tw15572978421220061336 tw6831048499749360371 tw17675731406240607910 tw16209112724357192606 tw2695373839193834869 tw12598186506003824490 tw2821861881642046623 tw12460481913083858016 tw13356182569415308325 tw7281289460345986371 tw10447844924463296263 tw7798822990160257409 tw687375196099685681 tw4464207825013139383 tw2773918824838898957 tw15287305769945886582 tw1464611622390811076 tw3993494980741655010 tw10468138020997721674 tw2049460910309556274 tw804602661639626483 tw5301566562152400074 tw15900567116492653740 tw17775991595837853529 tw7832571893003704344 tw6163006283198894547 tw8807855611474573480 tw15099053860759767421 tw9374289018371855803 tw12095048209785349769 tw12296450879786189919 tw13222329404534770575 tw405026494979807838 tw9521673652614081586 tw6758061804291629913 tw11987627588064905552 tw4082742669286739641 tw2039919607799619525 tw10869387579460943191 tw1574139774407997598 tw5562401951956649029:True)
open PySem PySem.W PyProof.Rows
set_option maxRecDepth 100000 in
set_option maxHeartbeats 0 in
theorem PySem.Challenge.cw_lampway_k68_rings_of_odd_ways_holds : PySem.Challenge.rw_lampway_k68_rings_of_odd_ways.Holds := by
 w_on;o_law;k_head;(case hw=>w_witness2)
 k_fill
 refine L2.yD (l:=PySem.Challenge.rw_lampway_k68_rings_of_odd_ways) (n:=63) (k:=17) (x := "_law_script") (CX:=L2.CX0) (sp:=L2.KJ) rfl (by decide) rfl ⟨rfl,by decide,by decide⟩ (fun w h Y=>PySem.W.kIn_of Y) ?F ?S ?C
 case F=>
  intro w mg fa h KX G hmg;have T:∃ t,My.Txt w (L2.KOf KX) mg t:=by
   dsimp only [L2.KOf];refine' ⟨My.Adr.mk,⟨?mqaa,?Fqab,?mqac,?Fqad,?mqae,?Fqaf,?mqag,?Fqah,?mqai,?Fqaj,?mqak,?Fqal,?mqam,?Fqan,?mqao,?Fqap,?mqaq,?Fqar,?mqas,?Fqat,?mqau,?Fqav,?mqaw,?Fqax,?mqay,?Fqaz,?mqba,?Fqbb,?mqbc,?Fqbd,?mqbe,?Fqbf,?mqbg,?Fqbh,?mqbi,?Fqbj,?mqbk,?Fqbl,?mqbm,?Fqbn,?mqbo,?Fqbp,?mqbq,?Fqbr,?mqbs,?Fqbt,?mqbu,?Fqbv,?mqbw,?Fqbx,?mqby,?Fqbz,?mqca,?Fqcb,?mqcc,?Fqcd,?mqce,?Fqcf,?mqcg,?Fqch,?mqci,?Fqcj,?mqck,?Fqcl,?mqcm,?Fqcn,?mqco,?eqcp,?Fqcq,?mqcr,?eqcs,?Fqct,?eqcu,?Fqcv,?eqcw,?Fqcx,?eqcy,?Fqcz,?eqda,?Fqdb,?eqdc,?Fqdd,?eqde,?Fqdf,?eqdg,?Fqdh,?mqdi,?eqdj,?Fqdk,?mqdl,?eqdm,?Fqdn,?eqdo,?Fqdp,?eqdq,?Fqdr,?mqds,?eqdt,?Fqdu,?eqdv,?Fqdw,?eqdx,?Fqdy,?mqdz,?eqea,?Fqeb,?eqec,?Fqed,?eqee,?Fqef,?mqeg,?eqeh,?Fqei,?eqej,?Fqek,?eqel,?Fqem,?sqen,?sqeo,?nqep,?nqeq,?nqer,?sqes,?sqet,?sqeu,?sqev,?sqew,?sqex,?sqey,?sqez,?sqfa,?nqfb,?nqfc,?nqfd,?sqfe,?nqff,?nqfg,?nqfh,?nqfi,?nqfj,?nqfk,?nqfl,?sqfm,?sqfn,?sqfo,?sqfp,?nqfq,?nqfr,?nqfs,?nqft,?nqfu,?nqfv,?nqfw,?sqfx,?sqfy,?sqfz,?sqga,?nqgb,?nqgc,?nqgd,?nqge,?nqgf,?nqgg,?nqgh,?sqgi,?sqgj,?sqgk,?sqgl,?nqgm,?nqgn,?nqgo,?nqgp,?nqgq,?nqgr,?nqgs,?sqgt,?sqgu,?sqgv,?sqgw,?nqgx,?nqgy,?nqgz,?dqha,?dqhb,?dqhc,?dqhd,?dqhe,?dqhf,?sqhg,?mqhh,?vqhi,?mqhj,?vqhk,?mqhl,?vqhm,?mqhn,?vqho,?mqhp,?vqhq,?mqhr,?vqhs,?mqht,?vqhu,?mqhv,?vqhw,?mqhx,?vqhy,?mqhz,?vqia,?bqib,?bqic,?bqid,?bqie,?bqif,?bqig,?bqih,?bqii,?bqij,?bqik,?bqil,?bqim,?lqin⟩⟩
   case mqaa | mqac | mqae | mqag | mqai | mqak | mqam | mqao | mqaq | mqas | mqau | mqaw | mqay | mqba | mqbc | mqbe | mqbg | mqbi | mqbk | mqbm | mqbo | mqbq | mqbs | mqbu | mqbw | mqby | mqca | mqcc | mqce | mqcg | mqci | mqck | mqcm | mqco | mqcr | mqdi | mqdl | mqds | mqdz | mqeg | mqhh | mqhj | mqhl | mqhn | mqhp | mqhr | mqht | mqhv | mqhx | mqhz=>(try dsimp only);refine' PySem.W.mg_of KX G ?z;case z=>k_is
   case eqcp | eqcs | eqcu | eqcw | eqcy | eqda | eqdc | eqde | eqdg | eqdj | eqdm | eqdo | eqdq | eqdt | eqdv | eqdx | eqea | eqec | eqee | eqeh | eqej | eqel=>(try dsimp only);k_is
   case sqen | sqeo | sqes | sqet | sqeu | sqev | sqew | sqex | sqey | sqez | sqfa | sqfe | sqfm | sqfn | sqfo | sqfp | sqfx | sqfy | sqfz | sqga | sqgi | sqgj | sqgk | sqgl | sqgt | sqgu | sqgv | sqgw | sqhg=>(try dsimp only);constructor <;> k_is
   case Fqab | Fqad | Fqaf | Fqah | Fqaj | Fqal | Fqan | Fqap | Fqar | Fqat | Fqav | Fqax | Fqaz | Fqbb | Fqbd | Fqbf | Fqbh | Fqbj | Fqbl | Fqbn | Fqbp | Fqbr | Fqbt | Fqbv | Fqbx | Fqbz | Fqcb | Fqcd | Fqcf | Fqch | Fqcj | Fqcl | Fqcn | Fqcq | Fqct | Fqcv | Fqcx | Fqcz | Fqdb | Fqdd | Fqdf | Fqdh | Fqdk | Fqdn | Fqdp | Fqdr | Fqdu | Fqdw | Fqdy | Fqeb | Fqed | Fqef | Fqei | Fqek | Fqem=>(try dsimp only);refine' L2.VH ?x ?y ?z;(case x=>k_is);(case y=>k_is);(case z=>k_is)
   case nqep | nqeq | nqer | nqfb | nqfc | nqfd | nqff | nqfg | nqfh | nqfi | nqfj | nqfk | nqfl | nqfq | nqfr | nqfs | nqft | nqfu | nqfv | nqfw | nqgb | nqgc | nqgd | nqge | nqgf | nqgg | nqgh | nqgm | nqgn | nqgo | nqgp | nqgq | nqgr | nqgs | nqgx | nqgy | nqgz=>(try dsimp only);unfold L2.Nb;k_is
   case dqha | dqhb | dqhc | dqhd | dqhe | dqhf=>(try dsimp only);decide
   case vqhi | vqhk | vqhm | vqho | vqhq | vqhs | vqhu | vqhw | vqhy | vqia=>(try dsimp only);exact ⟨_,rfl⟩
   case bqib | bqic | bqid | bqie | bqif | bqig | bqih | bqii | bqij | bqik | bqil | bqim=>(try dsimp only);refine' PySem.W.mg_none_of KX G ?z;case z=>k_is
   case lqin=>(try dsimp only);exact fun _ _=>.of_eq rfl
  obtain ⟨t,T⟩:=T;have e0:=hmg.symm.trans T.mK;cases e0;exact ⟨t.xE,T.II,fun base kb nb=>My.XH T⟩
 case S=>exact fun K H a ns hl hO hS=>⟨a,ns,rfl,L2.Sc.of_only hO hS,hl,fun _=>rfl⟩
 case C=>exact fun _ _ _ _ z=>z
