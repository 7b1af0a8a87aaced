import PyProof.Rows.All
import Wide.All
import OpenK.AllK
import Wide.FinOn
import Lean
import PyProof.EqAt
import PyProof.EqKinds
import PyProof.TupleCall
import KE.KTryMore
import PyProof.NsDelKeeps
import PySem.Challenge.RW_lampway_k73_too_many_shifts
set_option compiler.extract_closed false
set_option Elab.async false
set_option linter.all false
set_option maxRecDepth 100000
namespace L2
open PySem PySem.Spec PyProof.Rows
noncomputable abbrev Key:=Sum Int Str
noncomputable def Qz:Key→Value→Bool
 | .inl k,v=>Value.isInt k v
 | .inr x,v=>Value.isStrOf x v
noncomputable def BN (w:World):Key→Int
 | .inl k=>hashInt k
 | .inr x=>hashStr w x
theorem Fd:∀ {k:Key} {v:Value},Qz k v=true→(∃ i t,k=Sum.inl i∧v=Value.int i t)∨(∃ x t,k=Sum.inr x∧v=Value.str x t)
 | .inl i,v,h=>by
  obtain ⟨t,e⟩:=Value.isInt_shape (k:=i) (v:=v) h;exact .inl ⟨i,t,rfl,e⟩
 | .inr x,v,h=>by
  obtain ⟨t,e⟩:=Value.isStrOf_shape (x:=x) (v:=v) h;exact .inr ⟨x,t,rfl,e⟩
theorem uC (i:Int) (t:Tok):Qz (.inl i) (.int i t)=true:=by simp [Qz,Value.isInt]
theorem bD (x:Str) (t:Tok):Qz (.inr x) (.str x t)=true:=by simp [Qz,Value.isStrOf]
theorem WK (a b:Int):decide ((Sum.inl a:Key)=Sum.inl b)=(a == b):=by
 by_cases e:a=b
 ·subst e;simp
 ·have h:¬ (Sum.inl a:Key)=Sum.inl b:=fun q=>e (Sum.inl.inj q)
  rw [decide_eq_false h];exact (beq_eq_false_iff_ne.mpr e).symm
theorem vJ (a b:Str):decide ((Sum.inr a:Key)=Sum.inr b)=decide (a=b):=by
 by_cases e:a=b
 ·subst e;simp
 ·have h:¬ (Sum.inr a:Key)=Sum.inr b:=fun q=>e (Sum.inr.inj q)
  rw [decide_eq_false h,decide_eq_false e]
theorem eK (a:Int) (b:Str):decide ((Sum.inl a:Key)=Sum.inr b)=false:=decide_eq_false (fun q=>nomatch q)
theorem CJ (a:Str) (b:Int):decide ((Sum.inr a:Key)=Sum.inl b)=false:=decide_eq_false (fun q=>nomatch q)
noncomputable def Le (prog:Program) (w:World):PySem.KeyKind prog w Key where
 is:=Qz
 hash:=BN w
 inj:=fun v a b ha hb=>by
  rcases Fd ha with ⟨i,t,rfl,rfl⟩ | ⟨x,t,rfl,rfl⟩
  ·rcases Fd hb with ⟨j,u,rfl,e⟩ | ⟨y,u,rfl,e⟩
   ·injection e with e1 _;rw [e1]
   ·exact nomatch e
  ·rcases Fd hb with ⟨j,u,rfl,e⟩ | ⟨y,u,rfl,e⟩
   ·exact nomatch e
   ·injection e with e1 _;rw [e1]
 byValue:=fun k v h=>by
  rcases Fd h with ⟨i,t,rfl,rfl⟩ | ⟨x,t,rfl,rfl⟩ <;> rfl
 pyHash:=fun hv h=>by
  rcases Fd hv with ⟨i,t,rfl,rfl⟩ | ⟨x,t,rfl,rfl⟩
  ·exact wpAny_pyHash_int h
  ·exact wpAny_pyHash_str h
 eqBool:=fun hu hv h=>by
  rcases Fd hu with ⟨i,t,rfl,rfl⟩ | ⟨x,t,rfl,rfl⟩
  ·rcases Fd hv with ⟨j,u,rfl,rfl⟩ | ⟨y,u,rfl,rfl⟩
   ·rw [WK] at h;exact wpAny_eqBool_int h
   ·rw [eK] at h;exact SeqAt.EqAt.int_str i t y u _ _ _ _ h
  ·rcases Fd hv with ⟨j,u,rfl,rfl⟩ | ⟨y,u,rfl,rfl⟩
   ·rw [CJ] at h;exact SeqAt.EqAt.str_int x t j u _ _ _ _ h
   ·rw [vJ] at h;exact wpAny_eqBool_str h
 «strs»:=fun k x t v h=>by
  rcases Fd h with ⟨i,u,rfl,e⟩ | ⟨y,u,rfl,e⟩
  ·exact nomatch e
  ·injection e with e1 _;subst e1;cases v <;> rfl
theorem Kw (prog:Program) (w:World) (i:Int) (t:Tok):(Le prog w).is (.inl i) (.int i t)=true:=uC i t
theorem Wv (prog:Program) (w:World) (x:Str) (t:Tok):(Le prog w).is (.inr x) (.str x t)=true:=bD x t
end L2
namespace L2
open PySem PySem.Spec PyProof.Rows
inductive V where
 | non | bl (b:Bool) | int (i:Int) | str (x:Str) | byt (b:Array UInt8) | flt (b:UInt64) | ref (a:Addr) | ty (n:String)
 deriving DecidableEq
noncomputable def wd:V→Value→Prop
 | .non,u=>u=Value.none
 | .bl b,u=>u=Value.bool b
 | .int i,u=>∃ t,u=Value.int i t
 | .str x,u=>∃ t,u=Value.str x t
 | .byt b,u=>∃ t,u=Value.bytes b t
 | .flt b,u=>∃ t,u=Value.float b t
 | .ref a,u=>u=Value.ref a
 | .ty n,u=>u=Value.type n
noncomputable abbrev Pc:List V→List Value→Prop:=Paired wd
theorem Pc.length {xs:List V} {us:List Value} (r:Pc xs us):xs.length=us.length:=Paired.length r
theorem Pc.get:∀ {xs:List V} {us:List Value} {i:Nat} {x:V},Pc xs us→xs[i]? = some x→∃ u,us[i]? = some u∧wd x u
 | _,_,_,_,.nil,e=>by simp at e
 | _,_,0,_,.cons r _,e=>by simp at e;subst e;exact ⟨_,rfl,r⟩
 | _,_,i + 1,x,.cons _ t,e=>by
  obtain ⟨u,h1,h2⟩:=Pc.get (i:=i) (x:=x) t (by simpa using e);exact ⟨u,by simpa using h1,h2⟩
theorem Pc.set {x:V} {u:Value} (r:wd x u):∀ {xs:List V} {us:List Value} (i:Nat),Pc xs us→Pc (xs.set i x) (us.set i u)
 | _,_,_,.nil=>.nil
 | _,_,0,.cons _ t=>.cons r t
 | _,_,i + 1,.cons q t=>.cons q (Pc.set r i t)
theorem Pc.append:∀ {xs ys:List V} {us ws:List Value},Pc xs us→Pc ys ws→Pc (xs ++ ys) (us ++ ws)
 | _,_,_,_,.nil,s=>s
 | _,_,_,_,.cons r t,s=>.cons r (Pc.append t s)
theorem Pc.take:∀ {xs:List V} {us:List Value} (n:Nat),Pc xs us→Pc (xs.take n) (us.take n)
 | _,_,0,_=>.nil
 | _,_,_ + 1,.nil=>.nil
 | _,_,n + 1,.cons r t=>.cons r (Pc.take n t)
theorem Pc.drop:∀ {xs:List V} {us:List Value} (n:Nat),Pc xs us→Pc (xs.drop n) (us.drop n)
 | _,_,0,r=>r
 | _,_,_ + 1,.nil=>.nil
 | _,_,n + 1,.cons _ t=>Pc.drop n t
theorem Pc.none_of:∀ {xs:List V} {us:List Value} {i:Nat},Pc xs us→xs[i]? = none→us[i]? = none:=fun {xs us i} r e=>by
 have h1:=r.length;have h2:xs.length ≤ i:=List.getElem?_eq_none_iff.mp e;exact List.getElem?_eq_none_iff.mpr (by omega)
noncomputable def Gs:Option V→Option Value→Prop
 | some v,some u=>wd v u
 | none,none=>True
 | _,_=>False
noncomputable def KV {κ:Type}:List (κ × V)→List (κ × Value)→Prop:=Paired fun (p:κ × V) (q:κ × Value)=>p.1=q.1∧wd p.2 q.2
noncomputable def kV:Key→V
 | .inl i=>.int i
 | .inr x=>.str x
inductive HO where
  | lst (xs:List V)
  | tup (xs:List V)
  | dK (kvs:List (Key × V)) | dT (kvs:List (List Key × V))
  | set (S:Int→Bool) (n:Nat)
  | ins (C dx:Addr) (fs:List (Str × V))
  | own (x:Addr)
  | xd (fs:List (Str × V))
  | met (f x:Addr)
  | rng (lo hi:Int)
  | frz (o:Obj) (u:HO)
  | tbl (ps:Array Value)
  | ext (φ:Heap→Prop)
noncomputable abbrev Hp:=Addr→Option HO
noncomputable def upd (H:Hp) (a:Addr) (o:HO):Hp:=fun b=>if b=a then some o else H b
theorem db {H:Hp} {a:Addr} {o:HO}:upd H a o a=some o:=by unfold upd;rw [if_pos rfl]
theorem wb {H:Hp} {a b:Addr} {o:HO} (h:b ≠ a):upd H a o b=H b:=by unfold upd;rw [if_neg h]
theorem im {H:Hp} {a:Addr} {o u:HO}:upd (upd H a o) a u=upd H a u:=by
 funext b;unfold upd;split <;> rfl
theorem Mg {H:Hp} {a b:Addr} {o u:HO} (h:H a=some o) (h':H b=some u) (d:o ≠ u):a ≠ b:=by
 intro e;subst e;rw [h] at h';exact d (Option.some.inj h')
theorem Bb {H:Hp} {a b:Addr} {o:HO} (h:H a=some o) (h':H b=none):a ≠ b:=by
 intro e;subst e;rw [h] at h';cases h'
section
variable (P:Program) (w:World)
noncomputable def Gd (H:Hp) (h:Heap) (a:Addr):HO→Prop
 | .lst xs=>xs.length ≤ sizeLine∧∃ (its:List Value) (n:Nat),Pc xs its∧h.get? a=some { cls:=.type "list",data:=.seq its.toArray n }
 | .tup xs=>(xs.length ≤ sizeLine∧∃ ob,h.get? a=some ob∧ob.dict=none)∧∃ its:List Value,Pc xs its∧IsTup h a its.toArray
 | .dK kvs=>kvs.length ≤ sizeLine∧(a == sysModules)=false∧∃ vs,KV kvs vs∧h.DictOf (Le P w) a vs
 | .dT kvs=>kvs.length ≤ sizeLine∧(a == sysModules)=false∧∃ xs:List (List Key × Addr × Value),
   Paired (fun (p:List Key × V) (q:List Key × Addr × Value)=>p.1=q.1∧H q.2.1=some (.tup (p.1.map kV))∧wd p.2 q.2.2) kvs xs ∧
   ∃ o es ep,h.get? a=some o∧o.ExactDict∧o.data=.dict es ep∧es.toList=xs.map (entryOfKey (tupleKind (Le P w)))∧(xs.map (·.1)).Nodup
 | .set S n=>h.SetOf (intKind P w) a S n
 | .ins C dx fs=>H dx=some (.own a)∧fs.length ≤ 1000∧dx ≠ a∧h.get? a=some (PySem.W.instObj C dx) ∧
   ∃ mA,h.Ns1 dx mA∧(∀ f,Gs (fs.lookup f) (mA f))∧PySem.Within mA (fs.map (·.1))
 | .own _=>∃ o,h.get? a=some o
 | .xd fs=>∃ mA,h.Ns1 a mA∧∀ f,Gs (fs.lookup f) (mA f)
 | .rng lo hi=>∃ t u v,h.get? a=some { cls:=.type "range",data:=.fields #[.int lo t,.int hi u,.int 1 v] }
 | .frz o u=>h.get? a=some o∧Gd H h a u
 | .tbl ps=>h.get? a=some { cls:=.none,data:=.fields ps }
 | .met f x=>h.get? a=some (PySem.W.methodObj (.ref f) (.ref x))
 | .ext φ=>φ h∧(∃ o,h.get? a=some o)∧∀ h1 h2:Heap,φ h1→(∀ o,h1.get? a=some o→h2.get? a=some o)→φ h2
noncomputable def HOk (H:Hp) (h:Heap):Prop:=∀ a o,H a=some o→Gd P w H h a o
end
section
variable {P:Program} {w:World} {H H':Hp} {h h':Heap} {a:Addr} {o:HO}
theorem Gd.lt (x:Gd P w H h a o):a < h.objs.size:=by
 cases o with
 | lst xs=>obtain ⟨_,_,_,_,e⟩:=x;exact Heap.lt_size e
 | tup xs=>obtain ⟨_,_,_,p⟩:=x;exact p.lt
 | dK kvs=>obtain ⟨_,_,_,_,o,_,_,e,_⟩:=x;exact Heap.lt_size e
 | dT kvs=>obtain ⟨_,_,_,_,o,_,_,e,_⟩:=x;exact Heap.lt_size e
 | set S n=>obtain ⟨o,_,_,_,e,_⟩:=x;exact Heap.lt_size e
 | ins C dx fs=>obtain ⟨_,_,_,e,_⟩:=x;exact Heap.lt_size e
 | own y=>obtain ⟨_,e⟩:=x;exact Heap.lt_size e
 | xd fs=>obtain ⟨_,⟨_,_,_,e,_⟩,_⟩:=x;exact Heap.lt_size e
 | rng lo hi=>obtain ⟨_,_,_,e⟩:=x;exact Heap.lt_size e
 | frz ob u=>obtain ⟨e,_⟩:=x;exact Heap.lt_size e
 | tbl ps=>exact Heap.lt_size (show h.get? a=some _ from x)
 | met f y=>exact Heap.lt_size (show h.get? a=some _ from x)
 | ext φ=>obtain ⟨_,⟨_,e⟩,_⟩:=x;exact Heap.lt_size e
theorem Paired.mapP {α β:Type} {F G:α→β→Prop}:∀ {l₁:List α} {l₂:List β},Paired F l₁ l₂→(∀ a b,F a b→G a b)→Paired G l₁ l₂
 | _,_,.nil,_=>.nil
 | _,_,.cons r t,f=>.cons (f _ _ r) (Paired.mapP t f)
theorem Gd.stay (x:Gd P w H h a o) (k:∀ b u,(b=a∨H b=some (.own a))→h.get? b=some u→h'.get? b=some u)
  (ho:∀ b,H b=some (.own a)→H' b=some (.own a)) (ht:∀ b xs,H b=some (.tup xs)→H' b=some (.tup xs)):Gd P w H' h' a o:=by
 induction o with
 | lst xs=>obtain ⟨z,its,n,r,e⟩:=x;exact ⟨z,its,n,r,k _ _ (.inl rfl) e⟩
 | tup xs=>obtain ⟨⟨z,oz,ez,dz⟩,its,r,ob,e,c⟩:=x;exact ⟨⟨z,oz,k _ _ (.inl rfl) ez,dz⟩,its,r,ob,k _ _ (.inl rfl) e,c⟩
 | dK kvs=>obtain ⟨z,y,vs,r,ob,es,ep,e,c⟩:=x;exact ⟨z,y,vs,r,ob,es,ep,k _ _ (.inl rfl) e,c⟩
 | dT kvs=>
  obtain ⟨z,y,xs,r,ob,es,ep,e,c⟩:=x;exact ⟨z,y,xs,Paired.mapP r fun p q z=>⟨z.1,ht _ _ z.2.1,z.2.2⟩,ob,es,ep,k _ _ (.inl rfl) e,c⟩
 | set S n=>obtain ⟨ob,es,ep,t,e,c⟩:=x;exact ⟨ob,es,ep,t,k _ _ (.inl rfl) e,c⟩
 | ins C dx fs=>
  obtain ⟨d,z,ne,e,mA,⟨od,es,ep,e2,c⟩,r⟩:=x;exact ⟨ho _ d,z,ne,k _ _ (.inl rfl) e,mA,⟨od,es,ep,k _ _ (.inr d) e2,c⟩,r⟩
 | own y=>obtain ⟨ob,e⟩:=x;exact ⟨ob,k _ _ (.inl rfl) e⟩
 | xd fs=>obtain ⟨mA,⟨od,es,ep,e,c⟩,r⟩:=x;exact ⟨mA,⟨od,es,ep,k _ _ (.inl rfl) e,c⟩,r⟩
 | rng lo hi=>obtain ⟨t,u,v,e⟩:=x;exact ⟨t,u,v,k _ _ (.inl rfl) e⟩
 | frz ob u ih=>obtain ⟨e,q⟩:=x;exact ⟨k _ _ (.inl rfl) e,ih q⟩
 | tbl ps=>
  have e:h.get? a=some { cls:=.none,data:=.fields ps }:=x;show h'.get? a=some { cls:=.none,data:=.fields ps };exact k a _ (.inl rfl) e
 | met f y=>
  have e:h.get? a=some (PySem.W.methodObj (.ref f) (.ref y)):=x;show h'.get? a=some (PySem.W.methodObj (.ref f) (.ref y));exact k a _ (.inl rfl) e
 | ext φ=>obtain ⟨p,⟨o,e⟩,st⟩:=x;exact ⟨st _ _ p fun o q=>k _ _ (.inl rfl) q,⟨o,k _ _ (.inl rfl) e⟩,st⟩
theorem HOk.lt (x:HOk P w H h) (e:H a=some o):a < h.objs.size:=(x a o e).lt
theorem HOk.fresh (x:HOk P w H h) (e:h.objs.size ≤ a):H a=none:=by
 cases q:H a with
 | none=>rfl
 | some u=>exact absurd (Nat.lt_of_lt_of_le (x.lt q) e) (Nat.lt_irrefl _)
theorem HOk.kept (x:HOk P w H h) (k:∀ b u,h.get? b=some u→h'.get? b=some u):HOk P w H h':=fun a o e=>
 (x a o e).stay (fun b u _ q=>k b u q) (fun _ q=>q) fun _ _ q=>q
theorem HOk.laid (x:HOk P w H h) (k:∀ b u,h.get? b=some u→h'.get? b=some u) (hp:h.objs.size ≤ a) (new:Gd P w (upd H a o) h' a o):HOk P w (upd H a o) h':=fun b u e=>by
 have hn:=x.fresh hp;by_cases hb:b=a
 ·subst hb;rw [db] at e;cases e;exact new
 ·rw [wb hb] at e;exact (x b u e).stay (fun c v _ q=>k c v q) (fun c q=>by rw [wb (Bb q hn)];exact q) fun c xs q=>by rw [wb (Bb q hn)];exact q
end
noncomputable def Rd (H:Hp) (a:Addr) (u:HO):Prop:=H a=some u∨∃ o,H a=some (.frz o u)
theorem Rd.of {H:Hp} {a:Addr} {u:HO} (h:H a=some u):Rd H a u:=.inl h
theorem Rd.ok {P:Program} {w:World} {H:Hp} {h:Heap} {a:Addr} {u:HO} (r:Rd H a u) (x:HOk P w H h):Gd P w H h a u:=by
 rcases r with r | ⟨o,r⟩
 ·exact x a u r
 ·obtain ⟨_,q⟩:=x a _ r;exact q
noncomputable def Mut:Option HO→Prop
 | some (.lst _)=>True
 | some (.dK _)=>True
 | some (.dT _)=>True
 | some (.set _ _)=>True
 | some (.ins _ _ _)=>True
 | some (.ext _)=>True
 | _=>False
section
variable {P:Program} {w:World} {H:Hp} {h h':Heap} {x e:Addr} {o':HO}
theorem HOk.write (ok:HOk P w H h) (mu:Mut (H x)) (he:e=x∨H e=some (.own x)) (k:∀ b u,b ≠ e→h.get? b=some u→h'.get? b=some u) (heo:∃ u,h'.get? e=some u)
  (new:Gd P w (upd H x o') h' x o'):HOk P w (upd H x o') h':=fun b u q=>by
 have nown:∀ c y,H c=some (.own y)→c ≠ x:=fun c y r z=>by subst z;rw [r] at mu;exact mu
 have ntup:∀ c xs,H c=some (.tup xs)→c ≠ x:=fun c xs r z=>by subst z;rw [r] at mu;exact mu
 by_cases hb:b=x
 ·subst hb;rw [db] at q;cases q;exact new
 ·rw [wb hb] at q;by_cases hbe:b=e
  ·have q':H b=some (.own x):=by
    rcases he with z | z
    ·exact absurd (hbe.trans z) hb
    ·rw [hbe];exact z
   rw [q] at q';cases q';obtain ⟨v,hv⟩:=heo;exact ⟨v,by rw [hbe];exact hv⟩
  ·refine (ok b u q).stay (fun c v hc r=>k c v ?_ r) (fun c r=>by rw [wb (nown c b r)];exact r) fun c xs r=>by rw [wb (ntup c xs r)];exact r
   rcases hc with rfl | hc
   ·exact hbe
   ·rintro rfl;rcases he with z | z
    ·exact nown c b hc z
    ·rw [hc] at z;cases z;exact hb rfl
end
structure Un (fs ex:List Addr) (H H':Hp) (h h':Heap):Prop where
 keep:∀ b o,h.get? b=some o→H b=none→b ∉ fs→b ∉ ex→h'.get? b=some o
 slot:∀ b o,h.get? b=some o→H b=none→b ∈ fs→b ∉ ex→∃ sl,h'.get? b=some { o with slots:=sl }
 free:∀ b o,h.get? b=some o→H b=none→b ∉ ex→H' b=none
 there:∀ b o,h.get? b=some o→b ∉ ex→∃ o',h'.get? b=some o'
 tups:∀ b xs,H b=some (.tup xs)→H' b=some (.tup xs)
 frzs:∀ b o u,H b=some (.frz o u)→H' b=some (.frz o u)
 tbls:∀ b ps,H b=some (.tbl ps)→∃ more,H' b=some (.tbl (ps ++ more))
section
variable {fs fs' ex ex':List Addr} {H H1 H2:Hp} {h h1 h2 h':Heap} {a x e:Addr} {o:HO}
theorem Un.any (u:Un fs ex H H1 h h1) {b:Addr} {ob:Obj} (q:h.get? b=some ob) (n:H b=none) (hx:b ∉ ex):∃ sl,h1.get? b=some { ob with slots:=sl }:=by
 by_cases hb:b ∈ fs
 ·exact u.slot b ob q n hb hx
 ·exact ⟨ob.slots,u.keep b ob q n hb hx⟩
theorem Un.trans (a:Un fs ex H H1 h h1) (b:Un fs ex H1 H2 h1 h2):Un fs ex H H2 h h2 where
 keep:=fun c ob q n hc hx=>b.keep c ob (a.keep c ob q n hc hx) (a.free c ob q n hx) hc hx
 slot:=fun c ob q n hc hx=>by
  obtain ⟨sl,e1⟩:=a.slot c ob q n hc hx;obtain ⟨sl',e2⟩:=b.slot c _ e1 (a.free c ob q n hx) hc hx;exact ⟨sl',e2⟩
 free:=fun c ob q n hx=>by
  obtain ⟨o',e1⟩:=a.there c ob q hx;exact b.free c o' e1 (a.free c ob q n hx) hx
 there:=fun c ob q hx=>by
  obtain ⟨o',e1⟩:=a.there c ob q hx;exact b.there c o' e1 hx
 tups:=fun c xs q=>b.tups c xs (a.tups c xs q)
 frzs:=fun c ob xs q=>b.frzs c ob xs (a.frzs c ob xs q)
 tbls:=fun c ps q=>by
  obtain ⟨m1,e1⟩:=a.tbls c ps q;obtain ⟨m2,e2⟩:=b.tbls c _ e1;exact ⟨m1 ++ m2,by rw [e2,Array.append_assoc]⟩
theorem Un.kept (k:∀ b u,h.get? b=some u→h'.get? b=some u):Un fs ex H H h h':=
 ⟨fun b ob q _ _ _=>k b ob q,fun b ob q _ _ _=>⟨ob.slots,k b ob q⟩,fun _ _ _ n _=>n,fun b ob q _=>⟨ob,k b ob q⟩,fun _ _ q=>q,fun _ _ _ q=>q,fun _ ps q=>⟨#[],by rw [q];simp⟩⟩
theorem Un.refl:Un fs ex H H h h:=Un.kept fun _ _ q=>q
theorem Un.laid (k:∀ b u,h.get? b=some u→h'.get? b=some u) (hp:h.objs.size ≤ a) (hn:H a=none):Un fs ex H (upd H a o) h h' where
 keep:=fun b u q _ _ _=>k b u q
 slot:=fun b u q _ _ _=>⟨u.slots,k b u q⟩
 free:=fun b u q n _=>by rw [wb (Nat.ne_of_lt (Nat.lt_of_lt_of_le (Heap.lt_size q) hp))];exact n
 there:=fun b u q _=>⟨u,k b u q⟩
 tups:=fun b xs q=>by rw [wb (Bb q hn)];exact q
 frzs:=fun b u xs q=>by rw [wb (Bb q hn)];exact q
 tbls:=fun b ps q=>⟨#[],by rw [wb (Bb q hn),q];simp⟩
theorem Un.write (mu:Mut (H x)) (he:e=x∨H e=some (.own x)) (k:∀ b u,b ≠ e→h.get? b=some u→h'.get? b=some u) (heo:∃ u,h'.get? e=some u):Un fs ex H (upd H x o) h h':=by
 have hx:∀ b,H b=none→b ≠ x:=fun b n z=>by subst z;rw [n] at mu;exact mu
 have hb:∀ b,H b=none→b ≠ e:=fun b n z=>by
  subst z;rcases he with r | r
  ·exact hx b n r
  ·rw [n] at r;cases r
 have hm:∀ b u,H b=some u→¬ Mut (some u)→b ≠ x:=fun b u q nm z=>by subst z;rw [q] at mu;exact nm mu
 refine ⟨fun b u q n _ _=>k b u (hb b n) q,fun b u q n _ _=>⟨u.slots,k b u (hb b n) q⟩,fun b u q n _=>by rw [wb (hx b n)];exact n,fun b u q _=>?_,
  fun b xs q=>by rw [wb (hm b _ q fun z=>z)];exact q,fun b u xs q=>by rw [wb (hm b _ q fun z=>z)];exact q,fun b ps q=>⟨#[],by rw [wb (hm b _ q fun z=>z),q];simp⟩⟩
 by_cases hbe:b=e
 ·subst hbe;exact heo
 ·exact ⟨u,k b u hbe q⟩
theorem Un.mono (u:Un fs ex H H1 h h1) (hs:∀ b ∈ fs,b ∈ fs') (hx:∀ b ∈ ex,b ∈ ex'):Un fs' ex' H H1 h h1:=
 ⟨fun b ob q n hb he=>u.keep b ob q n (fun z=>hb (hs b z)) fun z=>he (hx b z),fun _ _ q n _ he=>u.any q n fun z=>he (hx _ z),fun b ob q n he=>u.free b ob q n fun z=>he (hx b z),fun b ob q he=>u.there b ob q fun z=>he (hx b z),u.tups,u.frzs,u.tbls⟩
end
noncomputable def trk (h:Heap) (H:Hp):List Addr:=(List.range h.objs.size).filter fun a=>(H a).isSome
noncomputable def MF (h:Heap) (H:Hp):Heap:=PySem.W.hideAll h (trk h H)
theorem gC (h:Heap) (H:Hp):(MF h H).objs.size=h.objs.size:=PySem.W.hideAll_size _ _
theorem OF {h:Heap} {H:Hp} {b:Addr} {o:Obj} (e:h.get? b=some o) (n:H b=none):(MF h H).get? b=some o:=
 PySem.W.hideAll_get _ e fun hm=>by
  have q:(H b).isSome=true:=(List.mem_filter.mp hm).2;rw [n] at q;simp at q
theorem yI {h:Heap} {H:Hp} {b:Addr} {o:Obj} (e:(MF h H).get? b=some o):h.get? b=some o∧H b=none:=by
 have e':h.get? b=some o:=PySem.W.of_hideAll (trk h H) e;refine ⟨e',?_⟩;cases q:H b with
 | none=>rfl
 | some x=>
  have hm:b ∈ trk h H:=List.mem_filter.mpr ⟨List.mem_range.mpr (Heap.lt_size e'),by simp [q]⟩;have z:(MF h H).get? b=none:=PySem.W.hideAll_none (trk h H) hm;rw [z] at e;cases e
noncomputable def bI (g h:Heap) (L:Addr):List (Addr × Obj):=(List.range h.objs.size).filterMap fun a=>if a=L∨(g.get? a).isSome=true then none else (h.get? a).map fun o=>(a,o)
noncomputable def rest (g h:Heap) (L d:Addr):List (Addr × Obj):=(bI g h L).filter fun p=>decide (p.1 ≠ d)
end L2
namespace L2
open PySem PySem.Spec PyProof.Rows
structure Mod (K:PySem.W.Frag) (mg:Str→Option Value) (base:Heap):Prop where
 kin:K.In base
 glob:base.Ns mainGlobals mg
 blt:∃ mb,base.Ns builtinsNs mb∧∀ x:Str,x ≠ "__name__" → mb x=bootBuiltins x
 nolimit:base.NoLimit
structure Cx where
 prog:Program
 w:World
 K:PySem.W.Frag
 mg:Str→Option Value
 base:Heap
 A:Around
 N:List Str
 s₀:Shared
 H₀:Hp
 env:Env
 outer:List Env
 stack:List Env
 ex:List Addr
 fn:Str→Bool
 calm:Bool
 pn:List (Addr × Obj)
 xe:Value→Shared→Prop
noncomputable def frs (l:List Env):List Addr:=l.filterMap (·.frame)
noncomputable abbrev Cx.fs (X:Cx):List Addr:=frs X.outer
noncomputable def Vis (sc:Scope) (x:Str):Prop:=sc.names.lookup x=some .local∨sc.names.lookup x=some .cell∨sc.names.lookup x=some .free
noncomputable def Loc (sc:Scope) (x:Str):Prop:=sc.names.lookup x=some .local∨sc.names.lookup x=some .cell
noncomputable def LN (env:Env) (h:Heap) (m:Str→Option Value) (x:Str) (u:Value):Prop:=
 (env.kindOf x=some .local∧m x=some u)∨((env.kindOf x=some .cell∨env.kindOf x=some .free)∧∃ c,env.cells.lookup x=some c∧h.IsCell c (some u))
structure Cx.Ok (X:Cx):Prop where
 mod:Mod X.K X.mg X.base
 kind:X.env.scope.kind=.function
 glob:X.env.globals=mainGlobals
 blt:X.env.builtins=builtinsNs
 above:X.s₀.heap.objs.size ≤ X.env.locals
 inj:∀ x y c,X.env.cells.lookup x=some c→X.env.cells.lookup y=some c→x=y
 has:∀ x,(X.env.kindOf x=some .cell∨X.env.kindOf x=some .free)→∃ c,X.env.cells.lookup x=some c
 cab:∀ x c,X.fn x=true→X.env.cells.lookup x=some c→X.s₀.heap.objs.size ≤ c
 hd:X.calm=true→X.A.handled=none
 frames:X.A.frames=some X.stack
 stk:X.stack=X.outer∨(X.stack=X.env :: X.outer∧X.env.frame=some X.env.locals)
 exf:∀ b ∈ X.ex,b ≠ X.env.locals∧∀ x c,X.env.cells.lookup x=some c→c ≠ b
 bs:∀ b o,X.base.get? b=some o→X.s₀.heap.get? b=some o∧X.H₀ b=none
 bsz:X.base.objs.size ≤ X.s₀.heap.objs.size
 noex:∀ b o,X.base.get? b=some o→b ∉ X.ex
 exfs:∀ b ∈ X.ex,b ∉ X.fs
 funs:X.s₀.heap.FunFrames X.base X.outer
 frf:∀ b ∈ X.fs,X.H₀ b=none
structure Inv (X:Cx) (pins:List (Addr × Obj)) (σ:List (Option V)) (H:Hp) (s:Shared):Prop where
 ok:X.Ok
 os:s.os=X.s₀.os
 bare:AllBare s.gens
 base:Un X.fs X.ex X.H₀ H X.s₀.heap s.heap
 loc:∃ m,s.heap.Ns X.env.locals m∧∀ (i:Nat) (x:Str) (v:V),X.N[i]? = some x→σ[i]? = some (some v)→Vis X.env.scope x→∃ u,wd v u∧LN X.env s.heap m x u
 cell:∀ x c,X.env.cells.lookup x=some c→∃ v,s.heap.IsCell c v
 free:H X.env.locals=none
 freeC:∀ x c,X.env.cells.lookup x=some c→H c=none
 pin:∀ p ∈ X.pn ++ pins,s.heap.get? p.1=some p.2∧H p.1=none∧p.1 ≠ X.env.locals∧p.1 ∉ X.fs∧∀ v,p.2.data ≠ .cell v
 hok:HOk X.prog X.w H s.heap
 len:σ.length=X.N.length
section
variable {X:Cx} {pins:List (Addr × Obj)} {σ:List (Option V)} {H H':Hp} {s:Shared} {h':Heap}
theorem Cx.Ok.nofr (ok:X.Ok) {b:Addr} {o:Obj} (e:X.base.get? b=some o):b ∉ X.fs:=fun hb=>by
 have:=(ok.funs.mem hb).1;rw [e] at this;cases this
theorem Inv.bs (I:Inv X pins σ H s):∀ b o,X.base.get? b=some o→s.heap.get? b=some o∧H b=none:=fun b o e=>
 ⟨I.base.keep b o (I.ok.bs b o e).1 (I.ok.bs b o e).2 (I.ok.nofr e) (I.ok.noex b o e),I.base.free b o (I.ok.bs b o e).1 (I.ok.bs b o e).2 (I.ok.noex b o e)⟩
theorem Inv.bk (I:Inv X pins σ H s):∀ b o,X.base.get? b=some o→s.heap.get? b=some o:=fun b o e=>(I.bs b o e).1
theorem Inv.mod (I:Inv X pins σ H s):Mod X.K X.mg X.base:=I.ok.mod
theorem Inv.kIn (I:Inv X pins σ H s):X.K.In s.heap:=I.ok.mod.kin.keeps I.bk
theorem Inv.nolimit (I:Inv X pins σ H s):s.heap.NoLimit:=I.ok.mod.nolimit.keeps I.bk
theorem Inv.fr (I:Inv X pins σ H s):∃ m,Fr X.base X.env.locals s.heap m:=
 let ⟨m,hn,_⟩:=I.loc
 ⟨m,hn,I.bk,Nat.le_trans I.ok.bsz I.ok.above⟩
theorem Inv.lt (I:Inv X pins σ H s):X.env.locals < s.heap.objs.size:=let ⟨_,hn,_⟩:=I.loc;hn.lt
theorem Inv.sz (I:Inv X pins σ H s):X.s₀.heap.objs.size ≤ s.heap.objs.size:=Nat.le_trans I.ok.above (Nat.le_of_lt I.lt)
theorem Inv.nofs (I:Inv X pins σ H s) {a:Addr} (h:s.heap.objs.size ≤ a):a ∉ X.fs:=fun hb=>by
 obtain ⟨_,o,ho,_⟩:=I.ok.funs.mem hb;exact absurd (Nat.lt_of_lt_of_le (Heap.lt_size ho) (Nat.le_trans I.sz h)) (Nat.lt_irrefl _)
theorem Inv.cne (I:Inv X pins σ H s):∀ x c,X.env.cells.lookup x=some c→c ≠ X.env.locals:=fun x c e z=>by
 obtain ⟨v,o,ho,hd⟩:=I.cell x c e;obtain ⟨m,⟨o',es,ep,ho',hd',_⟩,_⟩:=I.loc;rw [z,ho'] at ho;cases ho;rw [hd'] at hd;cases hd
theorem Inv.funs (I:Inv X pins σ H s):s.heap.FunFrames X.base X.outer:=by
 have all:∀ (l:List Env),(∀ b ∈ frs l,b ∈ X.fs)→X.s₀.heap.FunFrames X.base l→s.heap.FunFrames X.base l:=by
  intro l
  induction l with
  | nil=>intro _ _;trivial
  | cons env r ih=>
   intro hs hl;obtain ⟨hk,⟨L,o,hf,hn,ho,hd⟩,hr⟩:=hl;have hL:L ∈ X.fs:=hs L (by unfold frs;rw [List.filterMap_cons,hf];exact List.mem_cons_self);obtain ⟨sl,e⟩:=I.base.slot L o ho (I.ok.frf L hL) hL fun z=>I.ok.exfs L z hL
   exact ⟨hk,⟨L,_,hf,hn,e,hd⟩,ih (fun b hb=>hs b (by unfold frs;rw [List.filterMap_cons,hf];exact List.mem_cons_of_mem _ hb)) hr⟩
 exact all X.outer (fun _ hb=>hb) I.ok.funs
theorem Inv.stack (I:Inv X pins σ H s):s.heap.FunFrames X.base X.stack:=by
 rcases I.ok.stk with e | ⟨e,hf⟩
 ·rw [e];exact I.funs
 ·rw [e];obtain ⟨m,hn,_⟩:=I.loc;refine .cons (by rw [I.ok.kind];decide) hf hn ?_ I.funs;exact Heap.get?_none_of_le (Nat.le_trans I.ok.bsz I.ok.above)
theorem Inv.stkSub (I:Inv X pins σ H s):∀ b ∈ frs X.stack,b ∈ X.env.locals :: X.fs:=fun b hb=>by
 rcases I.ok.stk with e | ⟨e,hf⟩
 ·rw [e] at hb;exact List.mem_cons_of_mem _ hb
 ·rw [e] at hb;unfold frs at hb;rw [List.filterMap_cons,hf] at hb;exact hb
theorem Inv.stkFree (I:Inv X pins σ H s):∀ b ∈ frs X.stack,H b=none:=fun b hb=>by
 rcases List.mem_cons.mp (I.stkSub b hb) with e | hb
 ·rw [e];exact I.free
 ·obtain ⟨_,o,ho,_⟩:=I.ok.funs.mem hb;exact I.base.free b o ho (I.ok.frf b hb) fun z=>I.ok.exfs b z hb
theorem Inv.step {g':Array GenState} {t':Nat} {d':Drawn} {ch:List Addr} (I:Inv X pins σ H s)
  (hch:∀ b ∈ ch,(b ∈ X.ex∨X.s₀.heap.objs.size ≤ b)∧b ≠ X.env.locals∧(∀ x c,X.env.cells.lookup x=some c→c ≠ b)∧∀ p ∈ X.pn ++ pins,p.1 ≠ b)
  (keep:∀ b o,b ≠ X.env.locals→b ∉ X.fs→b ∉ ch→s.heap.get? b=some o→H b=none→h'.get? b=some o)
  (slot:∀ b o,b ≠ X.env.locals→b ∈ X.fs→b ∉ ch→s.heap.get? b=some o→H b=none→∃ sl,h'.get? b=some { o with slots:=sl }) (free:∀ b o,b ∉ ch→s.heap.get? b=some o→H b=none→H' b=none)
  (there:∀ b o,b ∉ ch→s.heap.get? b=some o→∃ o',h'.get? b=some o')
  (tups:∀ b xs,H b=some (.tup xs)→H' b=some (.tup xs)) (frzs:∀ b o u,H b=some (.frz o u)→H' b=some (.frz o u)) (tbls:∀ b ps,H b=some (.tbl ps)→∃ more,H' b=some (.tbl (ps ++ more)))
  (ns:∀ m,s.heap.Ns X.env.locals m→h'.Ns X.env.locals m) (hok:HOk X.prog X.w H' h') (hg:AllBare g') :
  Inv X pins σ H' { s with heap:=h',gens:=g',drawn:=d',toks:=t' }:=by
 have neL:∀ b o,X.s₀.heap.get? b=some o→b ≠ X.env.locals:=fun b o e=>Nat.ne_of_lt (Nat.lt_of_lt_of_le (Heap.lt_size e) I.ok.above)
 have neC:∀ b o,X.s₀.heap.get? b=some o→b ∉ X.ex→b ∉ ch:=fun b o e hx hb=>by
  rcases (hch b hb).1 with z | z
  ·exact hx z
  ·exact absurd (Nat.lt_of_lt_of_le (Heap.lt_size e) z) (Nat.lt_irrefl _)
 have cellK:∀ x c,X.env.cells.lookup x=some c→∀ v,s.heap.IsCell c v→h'.IsCell c v:=fun x c e v ⟨o,ho,hd⟩=>by
  have nch:c ∉ ch:=fun z=>(hch c z).2.2.1 x c e rfl
  by_cases hc:c ∈ X.fs
  ·obtain ⟨sl,q⟩:=slot c o (I.cne x c e) hc nch ho (I.freeC x c e);exact ⟨_,q,hd⟩
  ·exact ⟨o,keep c o (I.cne x c e) hc nch ho (I.freeC x c e),hd⟩
 refine ⟨I.ok,I.os,hg,⟨fun b o e n hb hx=>?_,fun b o e n hb hx=>?_,fun b o e n hx=>?_,fun b o e hx=>?_,fun b xs e=>tups b xs (I.base.tups b xs e),fun b o xs e=>frzs b o xs (I.base.frzs b o xs e),fun b ps e=>?_⟩,?_,fun x c e=>?_,?_,fun x c e=>?_,fun p hp=>?_,hok,I.len⟩
 ·exact keep b o (neL b o e) hb (neC b o e hx) (I.base.keep b o e n hb hx) (I.base.free b o e n hx)
 ·obtain ⟨sl,e1⟩:=I.base.slot b o e n hb hx;obtain ⟨sl',e2⟩:=slot b _ (neL b o e) hb (neC b o e hx) e1 (I.base.free b o e n hx);exact ⟨sl',e2⟩
 ·obtain ⟨o',e1⟩:=I.base.there b o e hx;exact free b o' (neC b o e hx) e1 (I.base.free b o e n hx)
 ·obtain ⟨o',e1⟩:=I.base.there b o e hx;exact there b o' (neC b o e hx) e1
 ·obtain ⟨m1,e1⟩:=I.base.tbls b ps e;obtain ⟨m2,e2⟩:=tbls b _ e1;exact ⟨m1 ++ m2,by rw [e2,Array.append_assoc]⟩
 ·obtain ⟨m,hn,hl⟩:=I.loc;refine ⟨m,ns m hn,fun i x v e1 e2 e3=>?_⟩;obtain ⟨u,r,l⟩:=hl i x v e1 e2 e3;refine ⟨u,r,?_⟩;rcases l with l | ⟨k,c,e,z⟩
  ·exact .inl l
  ·exact .inr ⟨k,c,e,cellK x c e _ z⟩
 ·obtain ⟨v,z⟩:=I.cell x c e;exact ⟨v,cellK x c e v z⟩
 ·obtain ⟨m,⟨o,_,_,ho,_⟩,_⟩:=I.loc;exact free _ o (fun z=>(hch _ z).2.1 rfl) ho I.free
 ·obtain ⟨v,o,ho,hd⟩:=I.cell x c e;exact free c o (fun z=>(hch c z).2.2.1 x c e rfl) ho (I.freeC x c e)
 ·obtain ⟨e,n,ne,nf,d⟩:=I.pin p hp;have nch:p.1 ∉ ch:=fun z=>(hch p.1 z).2.2.2 p hp rfl
  exact ⟨keep p.1 p.2 ne nf nch e n,free p.1 p.2 nch e n,ne,nf,d⟩
theorem Inv.un {t':Nat} (I:Inv X pins σ H s) (u:Un X.fs [] H H' s.heap h') (hok:HOk X.prog X.w H' h'):Inv X pins σ H' { s with heap:=h',toks:=t' }:=by
 obtain ⟨m,⟨o,es,ep,ho,r⟩,_⟩:=id I.loc;obtain ⟨sl,hL⟩:=u.any ho I.free (by simp);exact I.step (g':=s.gens) (d':=s.drawn) (ch:=[]) (fun _ z=>nomatch z) (fun b o _ hb _ e n=>u.keep b o e n hb (by simp)) (fun b o _ hb _ e n=>u.slot b o e n hb (by simp)) (fun b o _ e n=>u.free b o e n (by simp)) (fun b o _ e=>u.there b o e (by simp)) u.tups u.frzs u.tbls (fun m' hm=>by
  obtain ⟨o',es',ep',ho',r'⟩:=hm;rw [ho] at ho';cases ho';exact ⟨_,es',ep',hL,r'⟩) hok I.bare
theorem Inv.call {g':Array GenState} {t':Nat} {d':Drawn} {ch:List Addr} (I:Inv X pins σ H s) (u:Un (frs X.stack) ch H H' s.heap h') (hok:HOk X.prog X.w H' h') (hg:AllBare g')
  (hch:∀ b ∈ ch,(b ∈ X.ex∨X.s₀.heap.objs.size ≤ b)∧b ≠ X.env.locals∧(∀ x c,X.env.cells.lookup x=some c→c ≠ b)∧∀ p ∈ X.pn ++ pins,p.1 ≠ b) :
  Inv X pins σ H' { s with heap:=h',gens:=g',drawn:=d',toks:=t' }:=by
 obtain ⟨m,⟨o,es,ep,ho,r⟩,_⟩:=id I.loc;obtain ⟨sl,hL⟩:=u.any ho I.free fun z=>(hch _ z).2.1 rfl
 exact I.step (ch:=ch) hch (fun b o hL hb hc e n=>u.keep b o e n (fun z=>(List.mem_cons.mp (I.stkSub b z)).elim hL hb) hc) (fun b o _ _ hc e n=>u.any e n hc) (fun b o hc e n=>u.free b o e n hc) (fun b o hc e=>u.there b o e hc) u.tups u.frzs u.tbls (fun m' hm=>by
  obtain ⟨o',es',ep',ho',r'⟩:=hm;rw [ho] at ho';cases ho';exact ⟨_,es',ep',hL,r'⟩) hok hg
theorem Inv.turned {t':Nat} {it:Addr} (I:Inv X pins σ H s) (k:∀ b o,b ≠ it→s.heap.get? b=some o→h'.get? b=some o) (hn:H it=none) (hL:it ≠ X.env.locals)
  (h1:it ∈ X.ex∨X.s₀.heap.objs.size ≤ it) (h2:∀ x c,X.env.cells.lookup x=some c→c ≠ it) (h3:∀ p ∈ X.pn ++ pins,p.1 ≠ it):Inv X pins σ H { s with heap:=h',toks:=t' }:=by
 have nit:∀ b u,H b=some u→b ≠ it:=fun b u e z=>by rw [z,hn] at e;cases e
 refine I.step (g':=s.gens) (d':=s.drawn) (ch:=[it]) (fun b hb=>?_) (fun b o _ _ hc e _=>k b o (fun z=>hc (by simp [z])) e) (fun b o _ _ hc e _=>⟨o.slots,k b o (fun z=>hc (by simp [z])) e⟩) (fun _ _ _ _ n=>n)
  (fun b o hc e=>⟨o,k b o (fun z=>hc (by simp [z])) e⟩) (fun _ _ e=>e) (fun _ _ _ e=>e) (fun b ps e=>⟨#[],by rw [e];simp⟩) (fun m hm=>?_) (fun b u e=>?_) I.bare
 ·have e:b=it:=by simpa using hb
  subst e;exact ⟨h1,hL,h2,h3⟩
 ·obtain ⟨o,es,ep,ho,r⟩:=hm;exact ⟨o,es,ep,k _ o (Ne.symm hL) ho,r⟩
 ·refine (I.hok b u e).stay (fun c v hc q=>k c v ?_ q) (fun _ q=>q) fun _ _ q=>q
  rcases hc with z | z
  ·rw [z];exact nit b u e
  ·exact nit c _ z
theorem Inv.tok (I:Inv X pins σ H s) (t:Nat):Inv X pins σ H { s with toks:=t }:=I.un (h':=s.heap) (t':=t) Un.refl I.hok
theorem Inv.kept {t':Nat} (I:Inv X pins σ H s) (k:∀ b u,s.heap.get? b=some u→h'.get? b=some u):Inv X pins σ H { s with heap:=h',toks:=t' }:=I.un (Un.kept k) (I.hok.kept k)
theorem Inv.laid {a:Addr} {o:HO} {t':Nat} (I:Inv X pins σ H s) (k:∀ b u,s.heap.get? b=some u→h'.get? b=some u) (hp:s.heap.objs.size ≤ a) (new:Gd X.prog X.w (upd H a o) h' a o) :
  Inv X pins σ (upd H a o) { s with heap:=h',toks:=t' }:=I.un (Un.laid k hp (I.hok.fresh hp)) (I.hok.laid k hp new)
theorem Inv.write {x e:Addr} {o:HO} {t':Nat} (I:Inv X pins σ H s) (mu:Mut (H x)) (he:e=x∨H e=some (.own x)) (k:∀ b u,b ≠ e→s.heap.get? b=some u→h'.get? b=some u) (heo:∃ u,h'.get? e=some u)
  (new:Gd X.prog X.w (upd H x o) h' x o):Inv X pins σ (upd H x o) { s with heap:=h',toks:=t' }:=I.un (Un.write mu he k heo) (I.hok.write mu he k heo new)
theorem Inv.weak {σ':List (Option V)} (I:Inv X pins σ H s) (hl:σ'.length=σ.length) (w:∀ (i:Nat) v,σ'[i]? = some (some v)→σ[i]? = some (some v)):Inv X pins σ' H s:=
 ⟨I.ok,I.os,I.bare,I.base,let ⟨m,hn,hl'⟩:=I.loc;⟨m,hn,fun i x v e1 e2 e3=>hl' i x v e1 (w i v e2) e3⟩,I.cell,I.free,I.freeC,I.pin,I.hok,hl.trans I.len⟩
theorem Inv.pins_of {pins':List (Addr × Obj)} (I:Inv X pins σ H s) (h:∀ p ∈ pins',s.heap.get? p.1=some p.2∧H p.1=none∧p.1 ≠ X.env.locals∧p.1 ∉ X.fs∧∀ v,p.2.data ≠ .cell v):Inv X pins' σ H s:=
 ⟨I.ok,I.os,I.bare,I.base,I.loc,I.cell,I.free,I.freeC,fun p hp=>(List.mem_append.mp hp).elim (fun z=>I.pin p (List.mem_append_left _ z)) (h p),I.hok,I.len⟩
theorem Os {N:List Str} (hN:N.Nodup) {i j:Nat} {x:Str} (a:N[i]? = some x) (b:N[j]? = some x):i=j:=by
 obtain ⟨h1,e1⟩:=List.getElem?_eq_some_iff.mp a;obtain ⟨h2,e2⟩:=List.getElem?_eq_some_iff.mp b;exact (List.getElem_inj hN).mp (e1.trans e2.symm)
theorem Nu {M:Model} {A:Around} {E:Value→Shared→Prop} {i:Nat} {x:Str} {v:V} {u:Value} {Q:Unit→Shared→Prop} (I:Inv X pins σ H s) (hN:X.N.Nodup) (hi:X.N[i]? = some x) (hx:Loc X.env.scope x) (r:wd v u)
  (h:∀ s',Inv X pins (σ.set i (some v)) H s'→(∃ a,Heap.SameBut a s.heap s'.heap∧(a=X.env.locals∨X.env.cells.lookup x=some a))→Q () s') (hf:X.fn x=true∨X.env.scope.names.lookup x=some .local:=by first | exact .inl rfl | exact .inr rfl | assumption):wpAny M A (storeName X.env x u) Q E s:=by
 obtain ⟨m,hn,hl⟩:=id I.loc;have hcls:(X.env.scope.kind == .class || (X.env.scope.kind == .module && X.env.locals != X.env.globals))=false:=by rw [I.ok.kind];rfl
 have hiσ:i < σ.length:=by rw [I.len];exact (List.getElem?_eq_some_iff.mp hi).1
 have cne:=I.cne;have tracked:∀ {a:Addr} {h':Heap},(∃ o,s.heap.get? a=some o∧H a=none)→Heap.SameBut a s.heap h'→HOk X.prog X.w H h':=fun {a h'} ha hs b ob e=>by
  obtain ⟨_,_,hfree⟩:=ha;refine (I.hok b ob e).stay (fun c w' hc q=>(hs.2 c ?_).trans q) (fun _ q=>q) fun _ _ q=>q
  rintro rfl;rcases hc with rfl | hc
  ·rw [hfree] at e;cases e
  ·rw [hfree] at hc;cases hc
 rcases hx with hk | hk
 ·refine wpAny_storeName_local hk hn (fun h' hn' hs=>?_) hcls;obtain ⟨oL,_,_,hoL,_⟩:=id hn;refine h _ ⟨I.ok,I.os,I.bare,⟨fun b o e n hb hx=>?_,fun b o e n hb hx=>?_,I.base.free,fun b o e hx=>?_,I.base.tups,I.base.frzs,I.base.tbls⟩,⟨_,hn',fun j y v' e1 e2 e3=>?_⟩,fun y c e=>?_,I.free,I.freeC,fun p hp=>?_,tracked ⟨oL,hoL,I.free⟩ hs,by simpa using I.len⟩ ⟨_,hs,.inl rfl⟩
  ·exact (hs.2 b (Nat.ne_of_lt (Nat.lt_of_lt_of_le (Heap.lt_size e) I.ok.above))).trans (I.base.keep b o e n hb hx)
  ·obtain ⟨sl,e1⟩:=I.base.slot b o e n hb hx;exact ⟨sl,(hs.2 b (Nat.ne_of_lt (Nat.lt_of_lt_of_le (Heap.lt_size e) I.ok.above))).trans e1⟩
  ·obtain ⟨o',e1⟩:=I.base.there b o e hx;exact ⟨o',(hs.2 b (Nat.ne_of_lt (Nat.lt_of_lt_of_le (Heap.lt_size e) I.ok.above))).trans e1⟩
  ·by_cases hj:j=i
   ·subst hj;rw [hi] at e1;cases e1;rw [List.getElem?_set_self hiσ] at e2;cases e2;exact ⟨u,r,.inl ⟨hk,by simp⟩⟩
   ·rw [List.getElem?_set_ne (Ne.symm hj)] at e2;obtain ⟨u',r',q⟩:=hl j y v' e1 e2 e3;refine ⟨u',r',?_⟩;rcases q with ⟨k,e⟩ | ⟨k,c,e,z⟩
    ·refine .inl ⟨k,?_⟩;have:y ≠ x:=fun e=>hj (Os hN e1 (e ▸ hi))
     simp [this,e]
    ·exact .inr ⟨k,c,e,z.sameBut hs (cne y c e)⟩
  ·obtain ⟨w',z⟩:=I.cell y c e;exact ⟨w',z.sameBut hs (cne y c e)⟩
  ·obtain ⟨e,n,ne,nf,d⟩:=I.pin p hp;exact ⟨(hs.2 p.1 ne).trans e,n,ne,nf,d⟩
 ·have hfn:X.fn x=true:=by
   rcases hf with z | z
   ·exact z
   ·rw [z] at hk;cases hk
  obtain ⟨c,hc⟩:=I.ok.has x (.inl hk);obtain ⟨w',z⟩:=I.cell x c hc;refine wpAny_storeName_cell I.ok.kind hk hc z (fun h' hc' hs=>?_);obtain ⟨oc,hoc,hocd⟩:=id z;refine h { s with heap:=h' } ⟨I.ok,I.os,I.bare,⟨fun b o e n hb hx=>?_,fun b o e n hb hx=>?_,I.base.free,fun b o e hx=>?_,I.base.tups,I.base.frzs,I.base.tbls⟩,⟨m,hn.sameBut hs (Ne.symm (cne x c hc)),fun j y v' e1 e2 e3=>?_⟩,fun y c' e=>?_,I.free,I.freeC,fun p hp=>?_,tracked ⟨oc,hoc,I.freeC x c hc⟩ hs,by simpa using I.len⟩ ⟨c,hs,.inr hc⟩
  ·exact (hs.2 b (Nat.ne_of_lt (Nat.lt_of_lt_of_le (Heap.lt_size e) (I.ok.cab x c hfn hc)))).trans (I.base.keep b o e n hb hx)
  ·obtain ⟨sl,e1⟩:=I.base.slot b o e n hb hx;exact ⟨sl,(hs.2 b (Nat.ne_of_lt (Nat.lt_of_lt_of_le (Heap.lt_size e) (I.ok.cab x c hfn hc)))).trans e1⟩
  ·obtain ⟨o',e1⟩:=I.base.there b o e hx;exact ⟨o',(hs.2 b (Nat.ne_of_lt (Nat.lt_of_lt_of_le (Heap.lt_size e) (I.ok.cab x c hfn hc)))).trans e1⟩
  ·by_cases hj:j=i
   ·subst hj;rw [hi] at e1;cases e1;rw [List.getElem?_set_self hiσ] at e2;cases e2;exact ⟨u,r,.inr ⟨.inl hk,c,hc,hc'⟩⟩
   ·rw [List.getElem?_set_ne (Ne.symm hj)] at e2;obtain ⟨u',r',q⟩:=hl j y v' e1 e2 e3;refine ⟨u',r',?_⟩;rcases q with q | ⟨k,c',e,z'⟩
    ·exact .inl q
    ·refine .inr ⟨k,c',e,z'.sameBut hs ?_⟩;rintro rfl;exact hj (Os hN e1 (I.ok.inj _ _ _ e hc ▸ hi))
  ·by_cases hcc:c'=c
   ·subst hcc;exact ⟨_,hc'⟩
   ·obtain ⟨w2,z2⟩:=I.cell y c' e;exact ⟨w2,z2.sameBut hs hcc⟩
  ·obtain ⟨e,n,ne,nf,d⟩:=I.pin p hp;refine ⟨(hs.2 p.1 ?_).trans e,n,ne,nf,d⟩;intro q;rw [q,hoc] at e;have q':oc=p.2:=Option.some.inj e;exact d w' (by rw [← q'];exact hocd)
theorem Hl {M:Model} {A:Around} {E:Value→Shared→Prop} {i:Nat} {x:Str} {v:V} {u:Value} {Q:Unit→Shared→Prop} (I:Inv X pins σ H s) (hN:X.N.Nodup) (hi:X.N[i]? = some x) (hx:Loc X.env.scope x) (r:wd v u)
  (h:∀ s',Inv X pins (σ.set i (some v)) H s'→Q () s') (hf:X.fn x=true∨X.env.scope.names.lookup x=some .local:=by first | exact .inl rfl | exact .inr rfl | assumption):wpAny M A (storeName X.env x u) Q E s:=
 Nu I hN hi hx r (fun s' I' _=>h s' I') hf
theorem Inv.call' {s':Shared} {ch:List Addr} (I:Inv X pins σ H s) (ho:s'.os=s.os) (u:Un (frs X.stack) ch H H' s.heap s'.heap) (hok:HOk X.prog X.w H' s'.heap) (hg:AllBare s'.gens)
  (hch:∀ b ∈ ch,(b ∈ X.ex∨X.s₀.heap.objs.size ≤ b)∧b ≠ X.env.locals∧(∀ x c,X.env.cells.lookup x=some c→c ≠ b)∧∀ p ∈ X.pn ++ pins,p.1 ≠ b):Inv X pins σ H' s':=by
 obtain ⟨h',g',d',t',o'⟩:=s';have e:o'=s.os:=ho;subst e;exact I.call (g':=g') (t':=t') (d':=d') u hok hg hch
end
noncomputable abbrev XK:=Value→Option Addr→Hp→Prop
noncomputable abbrev St:=List (Option V)
noncomputable abbrev VK:=V→Hp→Prop
noncomputable abbrev TE:=St→Hp→VK→Prop
noncomputable abbrev TT:=St→Hp→(Bool→Hp→Prop)→Prop
noncomputable abbrev TA:=St→Hp→(List V→Hp→Prop)→Prop
structure Oh where
 nx:St→Hp→Prop
 rt:VK
 bk:St→Hp→Prop:=fun _ _=>False
 ct:St→Hp→Prop:=fun _ _=>False
noncomputable abbrev TS:=Oh→St→Hp→Prop
noncomputable def EP (X:Cx) (pins:List (Addr × Obj)) (σ:St) (Q:VK) (u:Value) (s':Shared):Prop:=∃ v H',Inv X pins σ H' s'∧wd v u∧Q v H'
noncomputable def TP (X:Cx) (pins:List (Addr × Obj)) (σ:St) (Q:Bool→Hp→Prop) (b:Bool) (s':Shared):Prop:=∃ H',Inv X pins σ H' s'∧Q b H'
noncomputable def AP (X:Cx) (pins:List (Addr × Obj)) (σ:St) (Q:List V→Hp→Prop) (us:List Value) (s':Shared):Prop:=∃ vs H',Inv X pins σ H' s'∧Pc vs us∧Q vs H'
noncomputable def SP (X:Cx) (pins:List (Addr × Obj)) (D:Oh) (f:Flow) (s':Shared):Prop:=
 match f with
 | .next=>∃ σ' H',Inv X pins σ' H' s'∧D.nx σ' H'
 | .brk=>∃ σ' H',Inv X pins σ' H' s'∧D.bk σ' H'
 | .cont=>∃ σ' H',Inv X pins σ' H' s'∧D.ct σ' H'
 | .ret u=>∃ v σ' H',Inv X pins σ' H' s'∧wd v u∧D.rt v H'
noncomputable def PE (X:Cx) (e:Expr) (t:TE):Prop:=
 ∀ (pins:List (Addr × Obj)) (s:Shared) (σ:St) (H:Hp) (Q:VK),Inv X pins σ H s→t σ H Q→wpAny (model X.prog X.w) X.A (eval e X.env) (EP X pins σ Q) X.xe s
noncomputable def PT (X:Cx) (e:Expr) (t:TT):Prop:=
 ∀ (pins:List (Addr × Obj)) (s:Shared) (σ:St) (H:Hp) (Q:Bool→Hp→Prop),Inv X pins σ H s→t σ H Q→wpAny (model X.prog X.w) X.A (isTrue e X.env (eval e X.env)) (TP X pins σ Q) X.xe s
noncomputable def PW (X:Cx) (e:Expr) (t:TT):Prop:=
 ∀ (whole:Sem Value) (pins:List (Addr × Obj)) (s:Shared) (σ:St) (H:Hp) (Q:Bool→Hp→Prop),Inv X pins σ H s→t σ H Q→wpAny (model X.prog X.w) X.A (isTrue e X.env whole) (TP X pins σ Q) X.xe s
theorem PW.pt {X:Cx} {e:Expr} {t:TT} (h:PW X e t):PT X e t:=h _
noncomputable def PA (X:Cx) (es:List Expr) (t:TA):Prop:=
 ∀ (pos:Pos) (pins:List (Addr × Obj)) (s:Shared) (σ:St) (H:Hp) (Q:List V→Hp→Prop),Inv X pins σ H s→t σ H Q→wpAny (model X.prog X.w) X.A (spliced (backTo pos (starEach es X.env))) (AP X pins σ Q) X.xe s
noncomputable def PS (X:Cx) (st:Stmt) (t:TS):Prop:=
 ∀ (pins:List (Addr × Obj)) (s:Shared) (σ:St) (H:Hp) (D:Oh),Inv X pins σ H s→t D σ H→wpAny (model X.prog X.w) X.A (exec st X.env) (SP X pins D) X.xe s
noncomputable def PSs (X:Cx) (st:List Stmt) (t:TS):Prop:=
 ∀ (pins:List (Addr × Obj)) (s:Shared) (σ:St) (H:Hp) (D:Oh),Inv X pins σ H s→t D σ H→wpAny (model X.prog X.w) X.A (execs st X.env) (SP X pins D) X.xe s
theorem thn {α:Type} {t:Sem α} {Q Q':α→Shared→Prop} {M:Model} {A:Around} {E:Value→Shared→Prop} {s:Shared} (h:wpAny M A t Q E s) (hQ:∀ a s,Q a s→Q' a s):wpAny M A t Q' E s:=wpAny_mono h hQ fun _ _ x=>x
end L2
namespace L2
open PySem PySem.Spec PyProof.Rows
section
variable {X:Cx}
noncomputable def GG (H:Hp) (Q:VK):Option (Option V)→Prop
 | some (some v)=>Q v H
 | _=>False
theorem Ru (H:Hp) (Q:VK) (v:V):GG H Q (some (some v))=Q v H:=rfl
theorem GG.out {H:Hp} {Q:VK}:∀ {o:Option (Option V)},GG H Q o→∃ v,o=some (some v)∧Q v H
 | some (some v),h=>⟨v,rfl,h⟩
 | some none,h=>h.elim
 | none,h=>h.elim
theorem wI (H:Hp) (Q:VK) (o:Option (Option V)):GG H Q o = ∃ v,o=some (some v)∧Q v H:=propext ⟨GG.out,fun ⟨_,e,h⟩=>e ▸ h⟩
noncomputable def Gi (x:V) (k:Int→Prop):Prop:=match x with
 | .int i=>k i
 | _=>False
theorem jx (i:Int) (k:Int→Prop):Gi (.int i) k=k i:=rfl
theorem Gi.out {x:V} {k:Int→Prop} (h:Gi x k):∃ i,x=.int i∧k i:=by
 cases x with
 | int i=>exact ⟨i,rfl,h⟩
 | _=>exact h.elim
theorem YI (x:V) (k:Int→Prop):Gi x k = ∃ i,x=.int i∧k i:=propext ⟨Gi.out,fun ⟨_,e,h⟩=>e ▸ h⟩
noncomputable def BlQ (x:V) (k:Bool→Prop):Prop:=match x with
 | .bl i=>k i
 | _=>False
theorem lH (i:Bool) (k:Bool→Prop):BlQ (.bl i) k=k i:=rfl
theorem BlQ.out {x:V} {k:Bool→Prop} (h:BlQ x k):∃ i,x=.bl i∧k i:=by
 cases x with
 | bl i=>exact ⟨i,rfl,h⟩
 | _=>exact h.elim
theorem kK (x:V) (k:Bool→Prop):BlQ x k = ∃ i,x=.bl i∧k i:=propext ⟨BlQ.out,fun ⟨_,e,h⟩=>e ▸ h⟩
noncomputable def Ch (x:V) (k:Addr→Prop):Prop:=match x with
 | .ref i=>k i
 | _=>False
theorem Ey (i:Addr) (k:Addr→Prop):Ch (.ref i) k=k i:=rfl
theorem Ch.out {x:V} {k:Addr→Prop} (h:Ch x k):∃ i,x=.ref i∧k i:=by
 cases x with
 | ref i=>exact ⟨i,rfl,h⟩
 | _=>exact h.elim
theorem eJ (x:V) (k:Addr→Prop):Ch x k = ∃ i,x=.ref i∧k i:=propext ⟨Ch.out,fun ⟨_,e,h⟩=>e ▸ h⟩
noncomputable def Dz (xs:List V) (k:V→Prop):Prop:=match xs with
 | [y]=>k y
 | _=>False
theorem ly (y:V) (k:V→Prop):Dz [y] k=k y:=rfl
theorem Dz.out:∀ {xs:List V} {k:V→Prop},Dz xs k→∃ y,xs=[y]∧k y
 | [y],_,h=>⟨y,rfl,h⟩
 | [],_,h=>h.elim
 | _ :: _ :: _,_,h=>h.elim
theorem XI (xs:List V) (k:V→Prop):Dz xs k = ∃ y,xs=[y]∧k y:=propext ⟨Dz.out,fun ⟨_,e,h⟩=>e ▸ h⟩
noncomputable def mM (i:Nat):TE:=fun σ H Q=>GG H Q σ[i]?
noncomputable def tC (v:V):TE:=fun _ H Q=>Q v H
theorem tK {i:Nat} {x:Str} {pos:Pos} (hN:X.N[i]? = some x) (hv:Vis X.env.scope x) (hd:(x == ("__debug__" : Str))=false:=by decide) (hcd:(x == ("__classdict__" : Str))=false:=by decide):PE X (.Name x pos) (mM i):=by
 intro pins s σ H Q I h;obtain ⟨v,e,h⟩:=GG.out h;obtain ⟨m,hn,hl⟩:=I.loc;obtain ⟨u,r,l⟩:=hl i x v hN e hv;have fin:EP X pins σ Q u s:=⟨v,H,I,r,h⟩;rcases l with ⟨hk,hm⟩ | ⟨hk,c,hc,hcell⟩
 ·exact wpAny_Name (wpAny_loadName_local I.ok.kind hk hn hm fin) hd
 ·rcases hk with hk | hk
  ·exact wpAny_Name (wpAny_loadName_cell I.ok.kind hk hc hcell fin) hd
  ·exact wpAny_Name (wpAny_loadName_free I.ok.kind hk hc hcell fin hcd) hd
theorem rb {i j pos}:PE X (.Constant (.int i) j pos) (tC (.int i)):=fun _ _ _ H _ I h=>wpAny_Constant_int ⟨.int i,H,I.tok _,⟨_,rfl⟩,h⟩
theorem qw {b j pos}:PE X (.Constant (.bool b) j pos) (tC (.bl b)):=fun _ _ _ H _ I h=>Constant_bool ⟨.bl b,H,I,rfl,h⟩
theorem Jl {j pos}:PE X (.Constant .none j pos) (tC .non):=fun _ _ _ H _ I h=>Constant_none ⟨.non,H,I,rfl,h⟩
theorem Vd {x j pos}:PE X (.Constant (.str x) j pos) (tC (.str x)):=fun _ _ _ H _ I h=>Calls.Constant_str ⟨.str x,H,I.tok _,⟨_,rfl⟩,h⟩
noncomputable def Gl (X:Cx) (x:Str):Prop:=X.env.kindOf x=some .globalImplicit
theorem nk {E:Value→Shared→Prop} {pins:List (Addr × Obj)} {s:Shared} {σ:St} {H:Hp} {x:Str} {u:Value} {pos:Pos} {Q:Value→Shared→Prop} (I:Inv X pins σ H s) (hg:Gl X x) (hm:X.mg x=some u) (h:Q u s)
  (hd:(x == ("__debug__" : Str))=false:=by decide):wpAny (model X.prog X.w) X.A (eval (.Name x pos) X.env) Q E s:=
 Calls.Name_function_global I.ok.kind hg (Calls.loadGlobal_global (by rw [I.ok.glob];exact I.mod.glob.keeps I.bk) hm h) hd
theorem Uj {E:Value→Shared→Prop} {pins:List (Addr × Obj)} {s:Shared} {σ:St} {H:Hp} {x:Str} {u:Value} {pos:Pos} {Q:Value→Shared→Prop} (I:Inv X pins σ H s) (hg:Gl X x) (hm:X.mg x=none) (hv:bootBuiltins x=some u) (h:Q u s)
  (hn:x ≠ "__name__" := by decide) (hd:(x == ("__debug__" : Str))=false:=by decide):wpAny (model X.prog X.w) X.A (eval (.Name x pos) X.env) Q E s:=by
 obtain ⟨mb,h1,h2⟩:=I.mod.blt;exact Calls.Name_function_global I.ok.kind hg (Calls.loadGlobal_builtin (by rw [I.ok.glob];exact I.mod.glob.keeps I.bk) hm (by rw [I.ok.blt];exact h1.keeps I.bk) ((h2 x hn).trans hv) h) hd
theorem Jd {x:Str} {v:V} {u:Value} {pos:Pos} (hg:Gl X x) (hm:X.mg x=some u) (r:wd v u) (hd:(x == ("__debug__" : Str))=false:=by decide):PE X (.Name x pos) (tC v):=
 fun _ _ _ H _ I h=>nk I hg hm ⟨v,H,I,r,h⟩ hd
theorem WH {x:Str} {v:V} {u:Value} {pos:Pos} (hg:Gl X x) (hm:X.mg x=none) (hv:bootBuiltins x=some u) (r:wd v u) (hn:x ≠ "__name__" := by decide) (hd:(x == ("__debug__" : Str))=false:=by decide):PE X (.Name x pos) (tC v):=
 fun _ _ _ H _ I h=>Uj I hg hm hv ⟨v,H,I,r,h⟩ hn hd
variable {a b:Expr} {ta tb:TE} {pos:Pos}
noncomputable def PC (X:Cx) (op:CmpOp) (a b:Expr) (t:TE):Prop:=
 ∀ (pins:List (Addr × Obj)) (s:Shared) (σ:St) (H:Hp) (Q:VK),Inv X pins σ H s→t σ H Q →
  wpAny (model X.prog X.w) X.A (eval a X.env) (fun v s₁=>wpAny (model X.prog X.w) X.A (eval b X.env) (fun u s₂=>wpAny (model X.prog X.w) X.A (compareOp op v u) (EP X pins σ Q) X.xe s₂) X.xe s₁) X.xe s
theorem oF (b:Expr) {op:CmpOp} (h:op ≠ .In) (h2:op ≠ .NotIn):behindInMarks op b=false:=by
 have e1:(op == CmpOp.In)=false:=by cases op <;> first | rfl | exact absurd rfl h
 have e2:(op == CmpOp.NotIn)=false:=by cases op <;> first | rfl | exact absurd rfl h2
 cases b <;> simp [behindInMarks,e1,e2]
noncomputable def tB (t:TE):TT:=fun σ H Q=>t σ H fun x H1=>BlQ x fun c=>Q c H1
theorem iL {op:CmpOp} {t:TE} (h:PC X op a b t) (h1:behindInMarks op b=false:=by first | exact oF _ (by decide) (by decide) | rfl):PT X (.Compare a [op] [b] pos) (tB t):=by
 intro pins s σ H Q I hw;refine wpAny_isTrue_Compare1 (thn (h pins s σ H _ I hw) fun v s1 h1=>thn h1 fun u s2 h2=>thn h2 fun c s3 hZ1=>?_) h1;obtain ⟨x,H1,I1,r1,q1⟩:=hZ1;obtain ⟨d,rfl,q⟩:=BlQ.out q1;cases r1;exact wpAny_truthy_bool ⟨H1,I1,q⟩
theorem Si {e:Expr} {t:TE} (h:PE X e t) (he:∀ whole,isTrue e X.env whole=(do let v ← whole;standAt e.pos;holding [v] (truthy v)):=by intro _;rfl):PT X e (tB t):=by
 intro pins s σ H Q I hw;refine isTrue_plain (thn (h pins s σ H _ I hw) fun v s1 hZ1=>?_) (he _);obtain ⟨x,H1,I1,r1,q1⟩:=hZ1;obtain ⟨d,rfl,q⟩:=BlQ.out q1;cases r1;exact wpAny_truthy_bool ⟨H1,I1,q⟩
variable {tA tB':TT} {rest:List Expr}
noncomputable def LM (t u:TT):TT:=fun σ H Q=>t σ H fun c H1=>if c=true then u σ H1 Q else Q false H1
noncomputable def tOr (t u:TT):TT:=fun σ H Q=>t σ H fun c H1=>if c=true then Q true H1 else u σ H1 Q
noncomputable def NM (t:TT):TT:=fun σ H Q=>t σ H fun c H1=>Q (!c) H1
theorem cx (ha:PT X a tA):PW X (.BoolOp .And [a] pos) tA:=by
 intro wh pins s σ H Q I h;refine isTrue_and (thn (ha pins s σ H Q I h) fun c s1 e=>?_);cases c with
 | true=>exact isTrue_and_nil e
 | false=>exact e
theorem No (ha:PT X a tA):PW X (.BoolOp .Or [a] pos) tA:=by
 intro wh pins s σ H Q I h;refine isTrue_or (thn (ha pins s σ H Q I h) fun c s1 e=>?_);cases c with
 | false=>exact isTrue_or_nil e
 | true=>exact e
theorem jB (ha:PT X a tA) (hb:PW X (.BoolOp .And (b :: rest) pos) tB'):PW X (.BoolOp .And (a :: b :: rest) pos) (LM tA tB'):=by
 intro wh pins s σ H Q I h;refine isTrue_and (thn (ha pins s σ H _ I h) fun c s1 hZ1=>?_);obtain ⟨H1,I1,q1⟩:=hZ1;cases c with
 | true=>exact hb wh pins s1 σ H1 Q I1 q1
 | false=>exact ⟨H1,I1,q1⟩
theorem yu (ha:PT X a tA) (hb:PW X (.BoolOp .Or (b :: rest) pos) tB'):PW X (.BoolOp .Or (a :: b :: rest) pos) (tOr tA tB'):=by
 intro wh pins s σ H Q I h;refine isTrue_or (thn (ha pins s σ H _ I h) fun c s1 hZ1=>?_);obtain ⟨H1,I1,q1⟩:=hZ1;cases c with
 | true=>exact ⟨H1,I1,q1⟩
 | false=>exact hb wh pins s1 σ H1 Q I1 q1
theorem Zm (ha:PT X a tA):PT X (.UnaryOp .Not a pos) (NM tA):=by
 intro pins s σ H Q I h;exact isTrue_not (ha pins s σ H (fun c H1=>Q (!c) H1) I h)
noncomputable def rK (ta tb:TE):TE:=fun σ H Q=>ta σ H fun x H1=>BlQ x fun c=>if c=true then tb σ H1 Q else Q (.bl false) H1
noncomputable def gN (ta tb:TE):TE:=fun σ H Q=>ta σ H fun x H1=>BlQ x fun c=>if c=true then Q (.bl true) H1 else tb σ H1 Q
noncomputable def LK (ta:TE):TE:=fun σ H Q=>ta σ H fun x H1=>BlQ x fun c=>Q (.bl (!c)) H1
theorem Wp {op} {t:TE} (h:PE X a t):PE X (.BoolOp op [a] pos) t:=fun pins s σ H Q I hw=>BoolOp_one (h pins s σ H Q I hw)
theorem Br (ha:PE X a ta) (hb:PE X (.BoolOp .And (b :: rest) pos) tb):PE X (.BoolOp .And (a :: b :: rest) pos) (rK ta tb):=by
 intro pins s σ H Q I h;refine BoolOp_and (thn (ha pins s σ H _ I h) fun v s1 hZ1=>?_);obtain ⟨x,H1,I1,r1,q1⟩:=hZ1;obtain ⟨c,rfl,zq⟩:=BlQ.out q1;cases r1;refine wpAny_truthy_bool ?_;cases c with
 | true=>exact hb pins s1 σ H1 Q I1 zq
 | false=>exact ⟨.bl false,H1,I1,rfl,zq⟩
theorem RK (ha:PE X a ta) (hb:PE X (.BoolOp .Or (b :: rest) pos) tb):PE X (.BoolOp .Or (a :: b :: rest) pos) (gN ta tb):=by
 intro pins s σ H Q I h;refine BoolOp_or (thn (ha pins s σ H _ I h) fun v s1 hZ1=>?_);obtain ⟨x,H1,I1,r1,q1⟩:=hZ1;obtain ⟨c,rfl,zq⟩:=BlQ.out q1;cases r1;refine wpAny_truthy_bool ?_;cases c with
 | false=>exact hb pins s1 σ H1 Q I1 zq
 | true=>exact ⟨.bl true,H1,I1,rfl,zq⟩
theorem tH (ha:PE X a ta):PE X (.UnaryOp .Not a pos) (LK ta):=by
 intro pins s σ H Q I h;refine UnaryOp_ (thn (ha pins s σ H _ I h) fun v s1 hZ1=>?_);obtain ⟨x,H1,I1,r1,q1⟩:=hZ1;obtain ⟨c,rfl,zq⟩:=BlQ.out q1;cases r1;exact not_of (wpAny_truthy_bool ⟨.bl (!c),H1,I1,rfl,zq⟩)
noncomputable def tIf (t:TT) (ta tb:TE):TE:=fun σ H Q=>t σ H fun c H1=>if c=true then ta σ H1 Q else tb σ H1 Q
theorem Us {c:Expr} (hc:PT X c tA) (ha:PE X a ta) (hb:PE X b tb):PE X (.IfExp c a b pos) (tIf tA ta tb):=by
 intro pins s σ H Q I h;refine wpAny_IfExp (thn (hc pins s σ H _ I h) fun d s1 hZ1=>?_);obtain ⟨H1,I1,q1⟩:=hZ1;cases d with
 | true=>exact ha pins s1 σ H1 Q I1 q1
 | false=>exact hb pins s1 σ H1 Q I1 q1
end
end L2
namespace L2
open PySem PySem.Spec PyProof.Rows
noncomputable def SqL (K:PySem.W.Frag) (H:Hp) (a:Addr) (xs:List V):Prop:=
 Rd H a (.lst xs) ∨
  ∃ (o:Obj) (its:Array Value) (n:Nat),K.lookup a=some o∧o.cls=.type "list" ∧ o.dict=none∧o.data=.seq its n∧its.size ≤ sizeLine∧Pc xs its.toList
noncomputable def SqT (K:PySem.W.Frag) (H:Hp) (a:Addr) (xs:List V):Prop:=
 Rd H a (.tup xs) ∨
  ∃ (o:Obj) (its:Array Value) (n:Nat),K.lookup a=some o∧o.cls=.type "tuple" ∧ o.data=.seq its n∧its.size ≤ sizeLine∧Pc xs its.toList
noncomputable def EN:Value→Option V
 | .none=>some .non
 | .bool b=>some (.bl b)
 | .int i _=>some (.int i)
 | .str x _=>some (.str x)
 | .bytes b _=>some (.byt b)
 | .float b _=>some (.flt b)
 | .ref a=>some (.ref a)
 | .type n=>some (.ty n)
 | _=>none
theorem wd.abs {x:V} {u:Value} (r:wd x u):EN u=some x:=by
 cases x with
 | non=>cases r;rfl
 | bl _=>cases r;rfl
 | int _=>obtain ⟨t,rfl⟩:=r;rfl
 | str _=>obtain ⟨t,rfl⟩:=r;rfl
 | byt _=>obtain ⟨t,rfl⟩:=r;rfl
 | flt _=>obtain ⟨t,rfl⟩:=r;rfl
 | ref _=>cases r;rfl
 | ty _=>cases r;rfl
theorem wd.inj {x y:V} {u:Value} (r:wd x u) (q:wd y u):x=y:=Option.some.inj (r.abs.symm.trans q.abs)
theorem Pc.inj:∀ {xs ys:List V} {us:List Value},Pc xs us→Pc ys us→xs=ys
 | _,_,_,.nil,.nil=>rfl
 | _,_,_,.cons r t,.cons r' t'=>by rw [r.inj r',Pc.inj t t']
section
variable {X:Cx} {pins:List (Addr × Obj)} {σ:St} {H:Hp} {s:Shared} {a:Addr} {xs ys:List V}
theorem SqL.of {K:PySem.W.Frag} (h:H a=some (.lst xs)):SqL K H a xs:=.inl (.inl h)
theorem SqT.of {K:PySem.W.Frag} (h:H a=some (.tup xs)):SqT K H a xs:=.inl (.inl h)
theorem Inv.list (I:Inv X pins σ H s) (h:SqL X.K H a xs):∃ its:List Value,Pc xs its∧PlainL s.heap a its.toArray∧xs.length ≤ sizeLine:=by
 rcases h with h | ⟨o,its,n,hk,hc,hd,hs,hz,r⟩
 ·obtain ⟨z,its,n,r,e⟩:=h.ok I.hok;exact ⟨its,r,⟨_,n,e,rfl,rfl,rfl⟩,z⟩
 ·refine ⟨its.toList,r,⟨o,n,I.kIn a o hk,hc,hd,by simpa using hs⟩,?_⟩;have e:=r.length;simp only [Array.length_toList] at e;omega
theorem Inv.tuple (I:Inv X pins σ H s) (h:SqT X.K H a xs):∃ its:List Value,Pc xs its∧IsTup s.heap a its.toArray∧xs.length ≤ sizeLine:=by
 rcases h with h | ⟨o,its,n,hk,hc,hs,hz,r⟩
 ·obtain ⟨z,its,r,p⟩:=h.ok I.hok;exact ⟨its,r,p,z.1⟩
 ·refine ⟨its.toList,r,⟨o,I.kIn a o hk,hc,n,by simpa using hs⟩,?_⟩;have e:=r.length;simp only [Array.length_toList] at e;omega
theorem Inv.list_inj (I:Inv X pins σ H s) (h:SqL X.K H a xs) (h':SqL X.K H a ys):xs=ys:=by
 obtain ⟨its,r,⟨o,n,e,_,_,d⟩,_⟩:=I.list h;obtain ⟨its',r',⟨o',n',e',_,_,d'⟩,_⟩:=I.list h';rw [e] at e';cases e';rw [d] at d';injection d' with d1 _;have:its=its':=by simpa using congrArg Array.toList d1
 subst this;exact r.inj r'
theorem Inv.tuple_inj (I:Inv X pins σ H s) (h:SqT X.K H a xs) (h':SqT X.K H a ys):xs=ys:=by
 obtain ⟨its,r,⟨o,e,_,n,d⟩,_⟩:=I.tuple h;obtain ⟨its',r',⟨o',e',_,n',d'⟩,_⟩:=I.tuple h';rw [e] at e';cases e';rw [d] at d';injection d' with d1 _;have:its=its':=by simpa using congrArg Array.toList d1
 subst this;exact r.inj r'
end
noncomputable abbrev Cx.wish (X:Cx) (E:Value→Shared→Prop):Cx:={ X with xe:=E }
noncomputable abbrev Cx.nox (X:Cx):Cx:=X.wish fun _ _=>False
theorem Cx.Ok.wish {X:Cx} (ok:X.Ok) (E:Value→Shared→Prop):(X.wish E).Ok:=
 ⟨ok.mod,ok.kind,ok.glob,ok.blt,ok.above,ok.inj,ok.has,ok.cab,ok.hd,ok.frames,ok.stk,ok.exf,ok.bs,ok.bsz,ok.noex,ok.exfs,ok.funs,ok.frf⟩
theorem Cx.Ok.unwish {X:Cx} {E:Value→Shared→Prop} (ok:(X.wish E).Ok):X.Ok:=
 ⟨ok.mod,ok.kind,ok.glob,ok.blt,ok.above,ok.inj,ok.has,ok.cab,ok.hd,ok.frames,ok.stk,ok.exf,ok.bs,ok.bsz,ok.noex,ok.exfs,ok.funs,ok.frf⟩
section
variable {X:Cx} {pins:List (Addr × Obj)} {σ:St} {H:Hp} {s:Shared} {E:Value→Shared→Prop}
theorem Inv.wish (I:Inv X pins σ H s) (E:Value→Shared→Prop):Inv (X.wish E) pins σ H s:=⟨I.ok.wish E,I.os,I.bare,I.base,I.loc,I.cell,I.free,I.freeC,I.pin,I.hok,I.len⟩
theorem Inv.unwish (I:Inv (X.wish E) pins σ H s):Inv X pins σ H s:=⟨I.ok.unwish,I.os,I.bare,I.base,I.loc,I.cell,I.free,I.freeC,I.pin,I.hok,I.len⟩
theorem SP.unwish {D:Oh} {f:Flow} {s':Shared} (h:SP (X.wish E) pins D f s'):SP X pins D f s':=by
 cases f with
 | next=>obtain ⟨σ',H',I,q⟩:=h;exact ⟨σ',H',I.unwish,q⟩
 | brk=>obtain ⟨σ',H',I,q⟩:=h;exact ⟨σ',H',I.unwish,q⟩
 | cont=>obtain ⟨σ',H',I,q⟩:=h;exact ⟨σ',H',I.unwish,q⟩
 | ret u=>obtain ⟨v,σ',H',I,r,q⟩:=h;exact ⟨v,σ',H',I.unwish,r,q⟩
theorem PE.nox {e:Expr} {t:TE} (h:PE X.nox e t):PE X e t:=fun pins s σ H Q I hw=>
 wpAny_mono (h pins s σ H Q (I.wish _) hw) (fun _ _ ⟨v,H',I',r,q⟩=>⟨v,H',I'.unwish,r,q⟩) fun _ _ z=>False.elim z
theorem PT.nox {e:Expr} {t:TT} (h:PT X.nox e t):PT X e t:=fun pins s σ H Q I hw=>
 wpAny_mono (h pins s σ H Q (I.wish _) hw) (fun _ _ ⟨H',I',q⟩=>⟨H',I'.unwish,q⟩) fun _ _ z=>False.elim z
theorem PSs.nox {st:List Stmt} {t:TS} (h:PSs X.nox st t):PSs X st t:=fun pins s σ H D I hw=>
 wpAny_mono (h pins s σ H D (I.wish _) hw) (fun _ _ q=>q.unwish) fun _ _ z=>False.elim z
end
section
variable {X:Cx} {st:Stmt} {rest:List Stmt} {t u:TS} {e:Expr} {te:TE} {pos:Pos}
noncomputable def uK:TS:=fun D σ H=>D.nx σ H
noncomputable def hz0:Nat:=0
noncomputable def hz1:Nat:=hz0
noncomputable def hz2:Nat:=hz1
noncomputable def hz3:Nat:=hz2
noncomputable def hz4:Nat:=hz3
noncomputable def hz5:Nat:=hz4
noncomputable def hz6:Nat:=hz5
noncomputable def hz7:Nat:=hz6
noncomputable def hz8:Nat:=hz7
noncomputable def hz9:Nat:=hz8
noncomputable def zN:Nat:=hz9
noncomputable def xN:Nat:=zN
noncomputable def uN:Nat:=xN
noncomputable def cN (t u:TS):TS:=fun D σ H=>(fun _:Nat=>t { D with nx:=u D } σ H) uN
theorem jc:PSs X [] uK:=fun _ _ σ H _ I h=>wpAny_execs_nil ⟨σ,H,I,h⟩
theorem fb (h1:PS X st t) (h2:PSs X rest u):PSs X (st :: rest) (cN t u):=by
 intro pins s σ H D I h;refine wpAny_execs_cons (thn (h1 pins s σ H { D with nx:=u D } I h) fun f s1 q=>?_);cases f with
 | next=>
  obtain ⟨σ',H',I',q⟩:=q;exact h2 pins s1 σ' H' D I' q
 | ret v=>exact q
 | brk=>exact q
 | cont=>exact q
theorem lb (h1:PS X st t):PSs X [st] t:=by
 intro pins s σ H D I h;refine wpAny_execs_cons (thn (h1 pins s σ H D I h) fun f s1 q=>?_);cases f with
 | next=>exact wpAny_execs_nil q
 | ret v=>exact q
 | brk=>exact q
 | cont=>exact q
theorem Inv.quiet {pins:List (Addr × Obj)} {σ:St} {H:Hp} {s:Shared} (I:Inv X pins σ H s):interactive X.env=false:=by simp [interactive,I.ok.kind]
noncomputable def yL (te:TE):TS:=fun D σ H=>te σ H fun _ H1=>D.nx σ H1
theorem Uc (he:PE X e te) (hs:swapsWith e none pos.line X.env=pure false:=by rfl):PS X (.Expr e pos) (yL te):=by
 intro pins s σ H D I h;exact wpAny_Expr_any (thn (he pins s σ H _ I h) fun v s1 ⟨x,H1,I1,r1,q1⟩=>⟨σ,H1,I1,q1⟩) I.quiet hs
noncomputable def jM (te:TE):TS:=fun D σ H=>te σ H D.rt
theorem Db (he:PE X e te):PS X (.Return (some e) pos) (jM te):=by
 intro pins s σ H D I h;exact wpAny_Return_some (thn (he pins s σ H _ I h) fun v s1 ⟨x,H1,I1,r1,q1⟩=>⟨x,σ,H1,I1,r1,q1⟩)
noncomputable def tM (c:TT) (t u:TS):TS:=fun D σ H=>c σ H fun b H1=>if b=true then t D σ H1 else u D σ H1
theorem Se {c:Expr} {a b:List Stmt} {tc:TT} (hc:PT X c tc) (ha:PSs X a t) (hb:PSs X b u):PS X (.If c a b pos) (tM tc t u):=by
 intro pins s σ H D I h;refine wpAny_If (thn (hc pins s σ H _ I h) fun d s1 hZ1=>?_);obtain ⟨H1,I1,q1⟩:=hZ1;cases d with
 | true=>exact ha pins s1 σ H1 D I1 q1
 | false=>exact hb pins s1 σ H1 D I1 q1
noncomputable def RG:TS:=fun _ _ _=>False
theorem og:PS X st RG:=fun _ _ _ _ _ _ h=>h.elim
end
noncomputable abbrev TG:=V→St→Hp→(St→Hp→Prop)→Prop
noncomputable abbrev TGs:=List V→St→Hp→(St→Hp→Prop)→Prop
noncomputable def PG (X:Cx) (target:Expr) (t:TG):Prop:=
 ∀ (pins:List (Addr × Obj)) (s:Shared) (σ:St) (H:Hp) (v:V) (u:Value) (Q:St→Hp→Prop),Inv X pins σ H s→wd v u→t v σ H Q →
  wpAny (model X.prog X.w) X.A (assign target X.env u) (fun _ s'=>∃ σ' H',Inv X pins σ' H' s'∧Q σ' H') X.xe s
noncomputable def PGs (X:Cx) (ts:List Expr) (t:TGs):Prop:=
 ∀ (pins:List (Addr × Obj)) (s:Shared) (σ:St) (H:Hp) (vs:List V) (us:List Value) (Q:St→Hp→Prop),Inv X pins σ H s→Pc vs us→t vs σ H Q →
  wpAny (model X.prog X.w) X.A (assignInOrder ((assignEach ts X.env).map (·.2)) us) (fun _ s'=>∃ σ' H',Inv X pins σ' H' s'∧Q σ' H') X.xe s
noncomputable abbrev IL:=V→V→V→Hp→(Hp→Prop)→Prop
noncomputable def YM (X:Cx) (t:IL):Prop:=
 ∀ (pins:List (Addr × Obj)) (s:Shared) (σ:St) (H:Hp) (o i v:V) (ov iv u:Value) (Q:Hp→Prop),Inv X pins σ H s→wd o ov→wd i iv→wd v u→t o i v H Q →
  wpAny (model X.prog X.w) X.A (setItem ov iv u) (fun _ s'=>∃ H',Inv X pins σ H' s'∧Q H') X.xe s
noncomputable abbrev TIp:=V→V→Hp→VK→Prop
noncomputable def PIp (X:Cx) (op:Operator) (t:TIp):Prop:=
 ∀ (pins:List (Addr × Obj)) (s:Shared) (σ:St) (H:Hp) (x y:V) (v u:Value) (Q:VK),Inv X pins σ H s→wd x v→wd y u→t x y H Q →
  wpAny (model X.prog X.w) X.A (inplaceOp op v u) (EP X pins σ Q) X.xe s
section
variable {X:Cx} {pos:Pos}
noncomputable def Sq (i:Nat):TG:=fun v σ H Q=>Q (σ.set i (some v)) H
theorem BD {i:Nat} {x:Str} (hN:X.N.Nodup) (hi:X.N[i]? = some x) (hx:Loc X.env.scope x) (hf:X.fn x=true∨X.env.scope.names.lookup x=some .local:=by first | exact .inl rfl | exact .inr rfl | assumption):PG X (.Name x pos) (Sq i):=by
 intro pins s σ H v u Q I r h;exact wpAny_assign_Name (Hl I hN hi hx r (fun s' I'=>⟨_,H,I',h⟩) hf)
noncomputable def PL:TGs:=fun vs σ H Q=>vs=[]∧Q σ H
noncomputable def oA (t:TG) (u:TGs):TGs:=fun vs σ H Q=>∃ v r,vs=v :: r∧t v σ H fun σ' H'=>u r σ' H' Q
theorem Ed:PGs X [] PL:=by
 intro pins s σ H vs us Q I r h;obtain ⟨e,h⟩:=h;subst e;cases r;exact assignInOrder_nil ⟨σ,H,I,h⟩
theorem zb {e:Expr} {es:List Expr} {t:TG} {u:TGs} (h1:PG X e t) (h2:PGs X es u)
  (hs:(assignEach (e :: es) X.env).map (·.2)=assign e X.env :: (assignEach es X.env).map (·.2):=by rfl):PGs X (e :: es) (oA t u):=by
 intro pins s σ H vs us Q I r h;obtain ⟨v,vr,e1,h⟩:=h;subst e1;cases r with
 | cons r rr=>
  rw [hs];refine assignInOrder_cons (thn (h1 pins s σ H _ _ _ I r h) fun _ s1 hZ1=>?_);obtain ⟨σ1,H1,I1,q1⟩:=hZ1;exact h2 pins s1 σ1 H1 _ _ Q I1 rr q1
noncomputable def EL (K:PySem.W.Frag) (n:Nat) (t:TGs):TG:=fun v σ H Q=>∃ a xs,v=.ref a∧SqT K H a xs∧xs.length=n∧t xs σ H Q
theorem WJ {es:List Expr} {k:Nat} {t:TGs} {n:Nat} (hc:X.calm=true) (h:PGs X es t)
  (hn:(assignEach es X.env).length=n:=by rfl) (hst:(assignEach es X.env).findIdx? (·.1)=none:=by rfl):PG X (.Tuple es k pos) (EL X.K n t):=by
 intro pins s σ H v u Q I r hw;obtain ⟨a,xs,e1,hq,hl,hw⟩:=hw;subst e1;cases r;obtain ⟨its,rv,ht,hz⟩:=I.tuple hq;refine assign_Tuple_tuple (I.ok.hd hc) ht (by simp [hn,← hl,rv.length]) hst fun h' hx=>?_
 have I1:Inv X pins σ H { s with heap:=h' }:=I.kept (t':=s.toks) fun b o e=>hx b o (Nat.ne_of_lt (Heap.lt_size e)) e
 exact h pins _ σ H xs _ Q I1 (by simpa using rv) hw
noncomputable def oN (to ti:TE) (t:IL):TG:=fun v σ H Q=>to σ H fun o H1=>ti σ H1 fun i H2=>t o i v H2 fun H3=>Q σ H3
theorem Xy {o i:Expr} {to ti:TE} {t:IL} (ho:PE X o to) (hi:PE X i ti) (hs:YM X t)
  (ha:∀ v,assign (.Subscript o i pos) X.env v=(do
   let ov ← holding [v] (eval o X.env)
   let iv ← holding [v,ov] (eval i X.env)
   standAt pos
   holding [v,ov,iv] (setItem ov iv v)
   release [v,ov,iv] []):=by intro _;rfl):PG X (.Subscript o i pos) (oN to ti t):=by
 intro pins s σ H v u Q I r h;rw [ha];refine wpAny_bind (wpAny_holding (thn (ho pins s σ H _ I h) fun ov s1 hZ1=>?_));obtain ⟨x,H1,I1,r1,q1⟩:=hZ1;refine wpAny_bind (wpAny_holding (thn (hi pins s1 σ H1 _ I1 q1) fun iv s2 hZ1=>?_));obtain ⟨y,H2,I2,r2,q2⟩:=hZ1;refine wpAny_bind (wpAny_standAt (wpAny_bind (wpAny_holding (thn (hs pins s2 σ H2 x y v ov iv u _ I2 r1 r2 r q2) fun _ s3 hZ1=>?_))));obtain ⟨H3,I3,q3⟩:=hZ1;exact wpAny_release ⟨σ,H3,I3,q3⟩
noncomputable def rJ (te:TE) (g:TG):TS:=fun D σ H=>te σ H fun x H1=>g x σ H1 D.nx
theorem Fl {tg e:Expr} {te:TE} {g:TG} (he:PE X e te) (hg:PG X tg g) (hs:swapsWithSole [tg] e pos.line X.env=pure false:=by rfl) (hw:swappedStores [tg] e X.env=pure none:=by rfl)
  (h1:(assignEach [tg] X.env).map (·.2)=[assign tg X.env]:=by rfl):PS X (.Assign [tg] e pos) (rJ te g):=by
 intro pins s σ H D I h;refine wpAny_Assign_stores (thn (he pins s σ H _ I h) fun v s1 hZ1=>?_) hs hw;obtain ⟨x,H1,I1,r1,q1⟩:=hZ1;rw [h1];exact thn (hg pins s1 σ H1 x v _ I1 r1 q1) fun _ s2 q=>q
theorem FC {i:Nat} {x:Str} {e:Expr} {te:TE} {pos':Pos} (hN:X.N.Nodup) (hi:X.N[i]? = some x) (hx:Loc X.env.scope x) (he:PE X e te) (hs:swapsWith e (some (.Name x pos')) pos.line X.env=pure false:=by rfl) (hf:X.fn x=true∨X.env.scope.names.lookup x=some .local:=by first | exact .inl rfl | exact .inr rfl | assumption) :
  PS X (.Assign [.Name x pos'] e pos) (rJ te (Sq i)):=by
 intro pins s σ H D I h;refine wpAny_Assign_Name (thn (he pins s σ H _ I h) fun v s1 hZ1=>?_) hs;obtain ⟨y,H1,I1,r1,q1⟩:=hZ1;exact Hl I1 hN hi hx r1 (fun s2 I2=>⟨_,H1,I2,q1⟩) hf
noncomputable def MM (i:Nat) (te:TE) (ti:TIp):TS:=fun D σ H=>∃ x,σ[i]? = some (some x)∧te σ H fun y H1=>ti x y H1 fun z H2=>D.nx (σ.set i (some z)) H2
theorem YA {i:Nat} {x:Str} {e:Expr} {te:TE} {op:Operator} {ti:TIp} {pos':Pos} (hN:X.N.Nodup) (hi:X.N[i]? = some x) (hx:Loc X.env.scope x) (he:PE X e te) (ho:PIp X op ti) (hf:X.fn x=true∨X.env.scope.names.lookup x=some .local:=by first | exact .inl rfl | exact .inr rfl | assumption) :
  PS X (.AugAssign (.Name x pos') op e pos) (MM i te ti):=by
 intro pins s σ H D I h;obtain ⟨v,e1,h⟩:=h;obtain ⟨m,hn,hl⟩:=I.loc;have vis:Vis X.env.scope x:=by rcases hx with k | k;exact .inl k;exact .inr (.inl k)
 obtain ⟨u,r,l⟩:=hl i x v hi e1 vis;refine wpAny_AugAssign_Name ?_;have go:wpAny (model X.prog X.w) X.A (eval e X.env) (fun w s₂=>wpAny (model X.prog X.w) X.A (inplaceOp op u w) (fun r s₃=>wpAny (model X.prog X.w) X.A (storeName X.env x r) (fun _=>SP X pins D .next) X.xe s₃) X.xe s₂) X.xe s:=by
  refine thn (he pins s σ H _ I h) fun w s1 hZ1=>?_
  obtain ⟨y,H1,I1,r1,q1⟩:=hZ1;refine thn (ho pins s1 σ H1 v y u w _ I1 r r1 q1) fun z s2 hZ1=>?_
  obtain ⟨zv,H2,I2,r2,q2⟩:=hZ1;exact Hl I2 hN hi hx r2 (fun s3 I3=>⟨_,H2,I3,q2⟩) hf
 rcases l with ⟨hk,hm⟩ | ⟨hk,c,hc,hcell⟩
 ·exact wpAny_loadName_local I.ok.kind hk hn hm go
 ·rcases hk with hk | hk
  ·exact wpAny_loadName_cell I.ok.kind hk hc hcell go
  ·rcases hx with k | k
   ·have:X.env.scope.names.lookup x=some .free:=hk;rw [k] at this;cases this
   ·have:X.env.scope.names.lookup x=some .free:=hk;rw [k] at this;cases this
noncomputable def ipI (f:Int→Int→Int):TIp:=fun x y H Q=>∃ i j,x=.int i∧y=.int j∧Q (.int (f i j)) H
theorem DG:PIp X .Add (ipI fun i j=>i + j):=by
 intro pins s σ H x y v u Q I r1 r2 h;obtain ⟨i,j,e1,e2,q⟩:=h;subst e1;subst e2;obtain ⟨t,rfl⟩:=r1;obtain ⟨t',rfl⟩:=r2;exact iadd_int ⟨.int _,H,I.tok _,⟨_,rfl⟩,q⟩
theorem qJ:PIp X .Sub (ipI fun i j=>i - j):=by
 intro pins s σ H x y v u Q I r1 r2 h;obtain ⟨i,j,e1,e2,q⟩:=h;subst e1;subst e2;obtain ⟨t,rfl⟩:=r1;obtain ⟨t',rfl⟩:=r2;exact isub_int ⟨.int _,H,I.tok _,⟨_,rfl⟩,q⟩
end
section
variable {X:Cx} {pos:Pos}
end
structure It where
 go:Nat→Hp→Prop
 yld:Nat→Hp→V→Hp→Prop
 stop:Nat→Hp→Prop
noncomputable def bu (X:Cx) (pins:List (Addr × Obj)) (H:Hp) (b:Addr):Prop:=
 H b=none∧b ≠ X.env.locals∧b ∉ X.fs∧(b ∈ X.ex∨X.s₀.heap.objs.size ≤ b)∧(∀ x c,X.env.cells.lookup x=some c→c ≠ b)∧∀ p ∈ X.pn ++ pins,p.1 ≠ b
theorem Inv.fpOk {X:Cx} {pins:List (Addr × Obj)} {σ:St} {H H':Hp} {s:Shared} {b:Addr} (I:Inv X pins σ H s) (hb:s.heap.objs.size ≤ b) (hn:H' b=none):bu X pins H' b:=by
 refine ⟨hn,Nat.ne_of_gt (Nat.lt_of_lt_of_le I.lt hb),I.nofs hb,.inr (Nat.le_trans I.sz hb),fun x c e z=>?_,fun p hp z=>?_⟩
 ·obtain ⟨v,q⟩:=I.cell x c e;exact absurd (Nat.lt_of_lt_of_le q.lt (by rw [z];exact hb)) (Nat.lt_irrefl _)
 ·exact absurd (Nat.lt_of_lt_of_le (Heap.lt_size (I.pin p hp).1) (by rw [z];exact hb)) (Nat.lt_irrefl _)
structure wH (P:Program) (w:World) (K:PySem.W.Frag) (tg:Expr) (J:It) (fp:List Addr) (it:Addr) (tn:Nat→Heap→Prop):Prop where
 mem:it ∈ fp
 obj:∀ i h,tn i h→∀ b ∈ fp,∃ o,h.get? b=some o∧∀ v,o.data ≠ .cell v
 keep:∀ i h h',tn i h→(∀ b ∈ fp,∀ o,h.get? b=some o→h'.get? b=some o)→tn i h'
 item:∀ (X:Cx),X.prog=P→X.w=w→X.K=K→X.calm=true→∀ (i:Nat) (pins:List (Addr × Obj)) (s:Shared) (σ:St) (H:Hp) (E:Value→Shared→Prop),Inv X pins σ H s→(∀ b ∈ fp,bu X pins H b)→tn i s.heap→J.go i H →
  wpAny (model P w) X.A (pyNext (.ref it)) (fun r s1=>∃ u,r=some u ∧
   wpAny (model P w) X.A (letOwnedTupleGo tg (.ref it) u) (fun _ s2=>∃ x H',Inv X pins σ H' s2∧wd x u∧J.yld i H x H'∧tn (i + 1) s2.heap∧∀ b ∈ fp,H' b=none) E s1) E s
 done:∀ (X:Cx),X.prog=P→X.w=w→X.K=K→X.calm=true→∀ (i:Nat) (pins:List (Addr × Obj)) (s:Shared) (σ:St) (H:Hp) (E:Value→Shared→Prop),Inv X pins σ H s→(∀ b ∈ fp,bu X pins H b)→tn i s.heap→J.stop i H →
  wpAny (model P w) X.A (pyNext (.ref it)) (fun r s1=>r=none∧Inv X pins σ H s1) E s
 self:∀ (A:Around) (i:Nat) (s:Shared) (Q:Value→Shared→Prop) (E:Value→Shared→Prop),tn i s.heap→Q (.ref it) s→wpAny (model P w) A (pyIter (.ref it)) Q E s
noncomputable abbrev TI:=St→Hp→(It→Hp→Prop)→Prop
noncomputable def PIE (X:Cx) (pins:List (Addr × Obj)) (σ:St) (tg:Expr) (R:It→Hp→Prop) (itv:Value) (s2:Shared):Prop:=
 ∃ (it:Addr) (fp:List Addr) (tn:Nat→Heap→Prop) (J:It) (H':Hp),itv=.ref it∧Inv X pins σ H' s2∧wH X.prog X.w X.K tg J fp it tn∧tn 0 s2.heap∧(∀ b ∈ fp,bu X pins H' b)∧R J H'
noncomputable def PI (X:Cx) (tg iter:Expr) (wi:TI):Prop:=
 ∀ (pins:List (Addr × Obj)) (s:Shared) (σ:St) (H:Hp) (R:It→Hp→Prop),Inv X pins σ H s→wi σ H R →
  wpAny (model X.prog X.w) X.A (eval iter X.env) (fun v s1=>wpAny (model X.prog X.w) X.A (pyIter v) (PIE X pins σ tg R) X.xe s1) X.xe s
theorem AF {M:Model} {A:Around} {E:Value→Shared→Prop} {s:Shared} {tg:Expr} {it:Addr} {u:Value} {o:Obj} {n:String} {vs:Array Value} {Q:Unit→Shared→Prop} (ho:s.heap.get? it=some o) (hc:o.cls=.type n) (hd:o.data=.fields vs)
    (hn:["enumerate","zip","dict_itemiterator","dict_reverseitemiterator","odict_iterator","itertools.zip_longest","itertools.pairwise"].contains n=false) (hQ:Q () s):wpAny M A (letOwnedTupleGo tg (.ref it) u) Q E s:=by
  unfold letOwnedTupleGo;cases tg <;> first
    | exact wpAny_pure hQ
    | (cases u <;> first
        | exact wpAny_pure hQ
        | (refine wpAny_bind (wpAny_load ho ?_)
           rw [hc,hd];show wpAny M A (if (["enumerate","zip","dict_itemiterator","dict_reverseitemiterator","odict_iterator","itertools.zip_longest","itertools.pairwise"].contains n && vs[0]? == some (rawInt _))=true then _ else _) Q E s;rw [if_neg (by intro h;rw [hn,Bool.false_and] at h;cases h)];exact wpAny_pure hQ))
noncomputable def Itl (K:PySem.W.Frag) (a:Addr):It:=
 ⟨fun i H=>∃ xs x,SqL K H a xs∧xs[i]? = some x,fun i H x H'=>H'=H∧∀ xs,SqL K H a xs→xs[i]? = some x,fun i H=>∃ xs,SqL K H a xs∧xs.length ≤ i⟩
noncomputable def Itr (lo:Int) (n:Nat):It:=⟨fun i _=>i < n,fun i H x H'=>H'=H∧x=.int (lo + i),fun i _=>n ≤ i⟩
theorem mB {P:Program} {w:World} {K:PySem.W.Frag} {tg:Expr} (a it:Addr):wH P w K tg (Itl K a) [it] it (fun i h=>h.IsListIter it a i) where
 mem:=by simp
 obj:=fun i h st b hb=>by
  have e:b=it:=by simpa using hb
  subst e;obtain ⟨o,e,c,d⟩:=st;exact ⟨o,e,fun v z=>by rw [d] at z;cases z⟩
 keep:=fun i h h' st k=>st.at fun o e=>k it (by simp) o e
 item:=by
  intro X hP hw hK hc i pins s σ H E I hf st hg;subst hP hw hK;obtain ⟨xs,x,hq,hx⟩:=hg;obtain ⟨its,rv,p,hz⟩:=I.list hq;obtain ⟨u,hu,ru⟩:=rv.get hx;obtain ⟨f0,f1,f2,f3,f4,f5⟩:=hf it (by simp);refine wpAny_pyNext_list_item st p.isList (x:=u) (by simpa using hu) fun h' st' sb=>?_
  have I1:Inv X pins σ H { s with heap:=h' }:=I.turned (t':=s.toks) (fun b o hb e=>(sb.2 b hb).trans e) f0 f1 f3 f4 f5;obtain ⟨o,e,c,d⟩:=id st';exact ⟨u,rfl,AF (s:={ s with heap:=h' }) e c d (by decide) ⟨x,H,I1,ru,⟨rfl,fun ys hy=>by rw [I.list_inj hy hq];exact hx⟩,st',fun b hb=>(hf b hb).1⟩⟩
 done:=by
  intro X hP hw hK hc i pins s σ H E I hf st hg;subst hP hw hK;obtain ⟨xs,hq,hx⟩:=hg;obtain ⟨its,rv,p,hz⟩:=I.list hq;obtain ⟨f0,f1,f2,f3,f4,f5⟩:=hf it (by simp);have hl:=rv.length;exact wpAny_pyNext_list_end (I.ok.hd hc) st p.isList (by simp;omega) fun h' eb=>⟨rfl,I.turned (t':=s.toks) (fun b o hb e=>eb b o hb e) f0 f1 f3 f4 f5⟩
 self:=fun _ _ _ _ _ st h=>wpAny_pyIter_listiter st h
theorem Vz {P:Program} {w:World} {K:PySem.W.Frag} {tg:Expr} (it:Addr) (lo:Int) (n:Nat):wH P w K tg (Itr lo n) [it] it (fun i h=>IsRangeIter h it (lo + (i:Nat) * 1) ((n:Int) - (i:Nat)) 1) where
 mem:=by simp
 obj:=fun i h st b hb=>by
  have e:b=it:=by simpa using hb
  subst e;exact ⟨_,st,fun v z=>by
   have z':Data.fields _=Data.cell v:=z;cases z'⟩
 keep:=fun i h h' st k=>k it (by simp) _ st
 item:=by
  intro X hP hw hK hc i pins s σ H E I hf st hg;subst hP hw hK;obtain ⟨f0,f1,f2,f3,f4,f5⟩:=hf it (by simp);have W:=Walks.range (prog:=X.prog) (w:=X.w) (I.ok.hd hc) it lo 1 n;refine W.item i s _ _ hg st fun v h' tk hv st' kk=>?_
  obtain ⟨t,rfl⟩:=hv;have I1:Inv X pins σ H { s with heap:=h',toks:=tk }:=I.turned (fun b o hb e=>kk b o (by simpa using hb) e) f0 f1 f3 f4 f5;refine ⟨_,rfl,AF (s:={ s with heap:=h',toks:=tk }) (n := "range_iterator") st' rfl rfl (by decide) ⟨.int (lo + i),H,I1,⟨t,?_⟩,⟨rfl,rfl⟩,st',fun b hb=>(hf b hb).1⟩⟩;rw [Int.mul_one]
 done:=by
  intro X hP hw hK hc i pins s σ H E I hf st hg;subst hP hw hK;obtain ⟨f0,f1,f2,f3,f4,f5⟩:=hf it (by simp);exact wpAny_pyNext_range_end (I.ok.hd hc) st (by have:n ≤ i:=hg;omega) fun h' eb=>⟨rfl,I.turned (t':=s.toks) (fun b o hb e=>eb b o hb e) f0 f1 f3 f4 f5⟩
 self:=fun _ _ _ _ _ st h=>wpAny_pyIter_rangeiter st h
end L2
namespace L2
open PySem PySem.Spec PyProof.Rows
section
variable {X:Cx} {tg:Expr}
noncomputable def kL (K:PySem.W.Frag) (tl:TE):TI:=fun σ H R=>tl σ H fun x H1=>Ch x fun a=>(∃ xs,SqL K H1 a xs)∧R (Itl K a) H1
theorem ce {l:Expr} {tl:TE} (hl:PE X l tl):PI X tg l (kL X.K tl):=by
 intro pins s σ H R I h;refine thn (hl pins s σ H _ I h) fun v s1 hZ1=>?_
 obtain ⟨x,H1,I1,r1,q1⟩:=hZ1;obtain ⟨a,e,⟨xs,hq⟩,q⟩:=Ch.out q1;subst e;cases r1;obtain ⟨its,rv,p,hz⟩:=I1.list hq;refine wpAny_pyIter_list p.isList ?_;refine ⟨s1.heap.objs.size,[s1.heap.objs.size],_,_,H1,rfl,I1.kept (t':=s1.toks) fun b o e=>Heap.get?_push_of_some _ e,mB a _,⟨_,Heap.get?_push_size _ rfl,rfl,rfl⟩,fun b hb=>?_,q⟩;have e:b=s1.heap.objs.size:=by simpa using hb
 subst e;exact I1.fpOk (Nat.le_refl _) (I1.hok.fresh (Nat.le_refl _))
theorem IF {pins:List (Addr × Obj)} {σ:St} {H:Hp} {s:Shared} {R:It→Hp→Prop} {E:Value→Shared→Prop} {lo hi:Int} {t u v:Tok} {tk:Nat} (I:Inv X pins σ H s) (h1:-(2 ^ 62) ≤ lo) (h2:lo < 2 ^ 62) (h3:-(2 ^ 62) ≤ hi) (h4:hi < 2 ^ 62)
  (q:R (Itr lo (hi - lo).toNat) H):wpAny (model X.prog X.w) X.A (pyIter (.ref s.heap.objs.size)) (PIE X pins σ tg R) E { s with heap:=s.heap.push { cls:=.type "range",data:=.fields #[.int lo t,.int hi u,.int 1 v] },toks:=tk }:=by
 refine wpAny_pyIter_range (IsRange.new ..) (small_one h1 h2 h3 h4) ?_;have I1:Inv X pins σ H { s with heap:=s.heap.push { cls:=.type "range",data:=.fields #[.int lo t,.int hi u,.int 1 v] },toks:=tk }:=I.kept fun b o e=>Heap.get?_push_of_some _ e
 refine ⟨(s.heap.push { cls:=.type "range",data:=.fields #[.int lo t,.int hi u,.int 1 v] }).objs.size,[(s.heap.push { cls:=.type "range",data:=.fields #[.int lo t,.int hi u,.int 1 v] }).objs.size],_,_,H,rfl,
  I1.kept (t':=tk) fun b o e=>Heap.get?_push_of_some _ e,Vz _ lo (hi - lo).toNat,?_,fun b hb=>?_,q⟩
 ·have e1:lo + ((0:Nat):Int) * 1=lo:=by simp
  have e2:(((hi - lo).toNat:Nat):Int) - ((0:Nat):Int)=Builtin.Range.rangeSize lo hi 1:=by rw [rangeSize_one];split <;> omega
  show IsRangeIter _ _ (lo + ((0:Nat):Int) * 1) ((((hi - lo).toNat:Nat):Int) - ((0:Nat):Int)) 1;rw [e1,e2];exact Heap.get?_push_size _ rfl
 ·have e:b=(s.heap.push { cls:=.type "range",data:=.fields #[.int lo t,.int hi u,.int 1 v] }).objs.size:=by simpa using hb
  subst e;exact I1.fpOk (Nat.le_refl _) (I1.hok.fresh (Nat.le_refl _))
noncomputable def CL (ta:TA):TI:=fun σ H R=>ta σ H fun vs H1=>Dz vs fun x=>Gi x fun j=>-(2 ^ 62) ≤ j∧j < 2 ^ 62∧R (Itr 0 j.toNat) H1
theorem Pd {a:Expr} {ta:TA} {p pos:Pos} (hg:Gl X "range") (hm:X.mg "range"=none) (ha:PA X [a] ta) (hs:starEach [a] X.env=[(false,eval a X.env)]:=by rfl):PI X tg (.Call (.Name "range" p) [a] [] pos) (CL ta):=by
 intro pins s σ H R I h;refine Call_ (Uj I hg hm boot_range (PyProof.Rows.callWith_type1 (thn (ha pos pins s σ H _ I h) fun us s1 hZ1=>?_) hs rfl));obtain ⟨vs,H1,I1,r1,q1⟩:=hZ1;obtain ⟨zx,ze,zq⟩:=Dz.out q1;obtain ⟨j,zf,zp,q2,q⟩:=Gi.out zq;have e:=ze.trans (congrArg (fun z=>[z]) zf);subst e;cases r1 with
 | cons r rr=>
  cases rr;obtain ⟨t,rfl⟩:=r;exact call_range_1 (IF I1 (by omega) (by omega) zp q2 (by simpa using q))
noncomputable def rN (wi:TI) (g:TG) (tb:TS):TS:=fun D σ H=>wi σ H fun J H1=>∃ W:Nat→Nat→St→Hp→Prop,(∃ m,W 0 m σ H1)∧∀ i m σ H,W i m σ H →
 (J.stop i H∧D.nx σ H)∨(J.go i H∧∃ N:St→Hp→Prop,(∀ σ' H',N σ' H'→∃ m',m' < m∧W (i + 1) m' σ' H')∧∀ x H',J.yld i H x H'→g x σ H' fun σ2 H2=>tb { D with nx:=N,ct:=N,bk:=D.nx } σ2 H2)
noncomputable def Qu (fp:List Addr) (h:Heap):List (Addr × Obj):=fp.filterMap fun b=>(h.get? b).map fun o=>(b,o)
theorem mj {fp:List Addr} {h:Heap} {b:Addr} {o:Obj} (hb:b ∈ fp) (e:h.get? b=some o):(b,o) ∈ Qu fp h:=List.mem_filterMap.mpr ⟨b,hb,by rw [e];rfl⟩
theorem cE {fp:List Addr} {h:Heap} {p:Addr × Obj} (hp:p ∈ Qu fp h):p.1 ∈ fp∧h.get? p.1=some p.2:=by
 obtain ⟨b,hb,e⟩:=List.mem_filterMap.mp hp;cases q:h.get? b with
 | none=>rw [q] at e;cases e
 | some o=>
  rw [q] at e;have e':(b,o)=p:=Option.some.inj e;subst e';exact ⟨hb,q⟩
theorem Inv.pinned {pins:List (Addr × Obj)} {σ:St} {H:Hp} {s:Shared} {fp:List Addr} (I:Inv X pins σ H s) (hf:∀ b ∈ fp,bu X pins H b) (ho:∀ b ∈ fp,∃ o,s.heap.get? b=some o∧∀ v,o.data ≠ .cell v):Inv X (pins ++ Qu fp s.heap) σ H s:=
 I.pins_of fun p hp=>(List.mem_append.mp hp).elim (fun z=>I.pin p (List.mem_append_right _ z)) fun z=>by
  obtain ⟨hb,e⟩:=cE z;obtain ⟨f0,f1,f2,_⟩:=hf p.1 hb;obtain ⟨o,e',d⟩:=ho p.1 hb;rw [e] at e';cases e';exact ⟨e,f0,f1,f2,d⟩
theorem Inv.unpinned {pins pl:List (Addr × Obj)} {σ:St} {H:Hp} {s:Shared} (I:Inv X (pins ++ pl) σ H s):Inv X pins σ H s:=I.pins_of fun p hp=>I.pin p (List.mem_append_right _ (List.mem_append_left _ hp))
theorem fe {iter:Expr} {body:List Stmt} {wi:TI} {g:TG} {tb:TS} {pos:Pos} (hp:PassesOwn (model X.prog X.w) X.A X.env X.xe) (hc:X.calm=true) (hi:PI X tg iter wi) (hg:PG X tg g) (hb:PSs X body tb)
  (hs:∀ x,foldedSetIterable iter X.env x=pure x:=by intro _;rfl):PS X (.For tg iter body [] pos) (rN wi g tb):=by
 intro pins s σ H D I h;refine wpAny_For (thn (hi pins s σ H _ I h) fun v s1 h1=>thn h1 fun itv s2 h2=>?_) hs;obtain ⟨it,fp,tn,J,H2,e,I2,T,st2,f2,W,⟨m0,w0⟩,turn⟩:=h2;subst e;have stat:∀ {H':Hp},(∀ b ∈ fp,H' b=none)→∀ b ∈ fp,bu X pins H' b:=fun hn b hb=>⟨hn b hb,(f2 b hb).2⟩
 refine codeAny_forLoop_any (fun n s'=>∃ i σ' H',Inv X pins σ' H' s'∧tn i s'.heap∧(∀ b ∈ fp,H' b=none)∧W i n σ' H') ?_ m0 ⟨0,σ,H2,I2,st2,fun b hb=>(f2 b hb).1,w0⟩;rintro n s3 ⟨i,σ3,H3,I3,st3,fr3,w3⟩;rcases turn i n σ3 H3 w3 with ⟨stop,qn⟩ | ⟨go,N,hN,step⟩
 ·refine wpAny_passesOwn hp (thn (T.done X rfl rfl rfl hc i pins s3 σ3 H3 X.xe I3 (stat fr3) st3 stop) fun r s4 hZ1=>?_);obtain ⟨hr,I4⟩:=hZ1;subst hr;exact wpAny_execs_nil ⟨σ3,H3,I4,qn⟩
 ·refine wpAny_passesOwn hp (thn (T.item X rfl rfl rfl hc i pins s3 σ3 H3 X.xe I3 (stat fr3) st3 go) fun r s4 hZ1=>?_);obtain ⟨u,hr,h4⟩:=hZ1;subst hr;refine wpAny_passesOwn hp (thn h4 fun _ s5 hZ1=>?_);obtain ⟨x,H5,I5,r5,y5,st5,fr5⟩:=hZ1;have I5':=I5.pinned (stat fr5) (T.obj _ _ st5);refine wpAny_passesOwn hp (thn (hg _ s5 σ3 H5 x u _ I5' r5 (step x H5 y5)) fun _ s6 hZ1=>?_);obtain ⟨σ6,H6,I6,q6⟩:=hZ1;refine wpAny_passesOwn hp (thn (hb _ s6 σ6 H6 _ I6 q6) fun f s7 q7=>?_);have again:∀ {σ7:St} {H7:Hp},Inv X (pins ++ Qu fp s5.heap) σ7 H7 s7→N σ7 H7→∃ m,m < n∧∃ i σ' H',Inv X pins σ' H' s7∧tn i s7.heap∧(∀ b ∈ fp,H' b=none)∧W i m σ' H':=fun {σ7 H7} I7 n7=>by
   obtain ⟨m',hm,w7⟩:=hN σ7 H7 n7;refine ⟨m',hm,i + 1,σ7,H7,I7.unpinned,T.keep _ _ _ st5 fun b hb o e=>(I7.pin (b,o) (List.mem_append_right _ (List.mem_append_right _ (mj hb e)))).1,fun b hb=>?_,w7⟩;obtain ⟨o,e,d⟩:=T.obj _ _ st5 b hb;exact (I7.pin (b,o) (List.mem_append_right _ (List.mem_append_right _ (mj hb e)))).2.1
  cases f with
  | next=>obtain ⟨σ7,H7,I7,n7⟩:=q7;exact again I7 n7
  | cont=>obtain ⟨σ7,H7,I7,n7⟩:=q7;exact again I7 n7
  | brk=>obtain ⟨σ7,H7,I7,q7⟩:=q7;exact ⟨σ7,H7,I7.unpinned,q7⟩
  | ret v=>obtain ⟨x7,σ7,H7,I7,r7,q7⟩:=q7;exact ⟨x7,σ7,H7,I7.unpinned,r7,q7⟩
end
theorem vF {K:PySem.W.Frag} {a:Addr} {xs:List V} {g:TG} {tb:TS} {D:Oh} {σ:St} {H:Hp} (Pv:Nat→St→Hp→Prop) (h0:Pv 0 σ H) (hl:∀ i σ H,i ≤ xs.length→Pv i σ H→SqL K H a xs)
  (hs:∀ i x σ H,xs[i]? = some x→Pv i σ H→g x σ H fun σ2 H2=>tb { D with nx:=Pv (i + 1),ct:=Pv (i + 1),bk:=D.nx } σ2 H2) (hd:∀ σ H,Pv xs.length σ H→D.nx σ H) :
  ∃ W:Nat→Nat→St→Hp→Prop,(∃ m,W 0 m σ H)∧∀ i m σ H,W i m σ H →
   ((Itl K a).stop i H∧D.nx σ H)∨((Itl K a).go i H∧∃ N:St→Hp→Prop,(∀ σ' H',N σ' H'→∃ m',m' < m∧W (i + 1) m' σ' H')∧∀ x H',(Itl K a).yld i H x H'→g x σ H' fun σ2 H2=>tb { D with nx:=N,ct:=N,bk:=D.nx } σ2 H2):=by
 refine ⟨fun i m σ H=>m=xs.length - i∧i ≤ xs.length∧Pv i σ H,⟨xs.length,by simp,Nat.zero_le _,h0⟩,?_⟩;rintro i m σ H ⟨rfl,hi,p⟩;have q:=hl i σ H hi p;by_cases hlt:i < xs.length
 ·refine .inr ⟨⟨xs,xs[i],q,by simp [hlt]⟩,Pv (i + 1),fun σ' H' p'=>⟨xs.length - (i + 1),by omega,rfl,hlt,p'⟩,fun x H' y=>?_⟩;obtain ⟨e,y⟩:=y;subst e;exact hs i x σ _ (y xs q) p
 ·have e:i=xs.length:=by omega
  subst e;exact .inl ⟨⟨xs,q,Nat.le_refl _⟩,hd σ H p⟩
theorem JD {lo:Int} {n:Nat} {g:TG} {tb:TS} {D:Oh} {σ:St} {H:Hp} (Pv:Nat→St→Hp→Prop) (h0:Pv 0 σ H)
  (hs:∀ i σ H,i < n→Pv i σ H→g (.int (lo + i)) σ H fun σ2 H2=>tb { D with nx:=Pv (i + 1),ct:=Pv (i + 1),bk:=D.nx } σ2 H2) (hd:∀ σ H,Pv n σ H→D.nx σ H) :
  ∃ W:Nat→Nat→St→Hp→Prop,(∃ m,W 0 m σ H)∧∀ i m σ H,W i m σ H →
   ((Itr lo n).stop i H∧D.nx σ H)∨((Itr lo n).go i H∧∃ N:St→Hp→Prop,(∀ σ' H',N σ' H'→∃ m',m' < m∧W (i + 1) m' σ' H')∧∀ x H',(Itr lo n).yld i H x H'→g x σ H' fun σ2 H2=>tb { D with nx:=N,ct:=N,bk:=D.nx } σ2 H2):=by
 refine ⟨fun i m σ H=>m=n - i∧i ≤ n∧Pv i σ H,⟨n,by simp,Nat.zero_le _,h0⟩,?_⟩;rintro i m σ H ⟨rfl,hi,p⟩;by_cases hlt:i < n
 ·refine .inr ⟨hlt,Pv (i + 1),fun σ' H' p'=>⟨n - (i + 1),by omega,rfl,hlt,p'⟩,fun x H' y=>?_⟩;obtain ⟨e,y⟩:=y;subst e y;exact hs i σ _ hlt p
 ·have e:i=n:=by omega
  subst e;exact .inl ⟨Nat.le_refl _,hd σ H p⟩
end L2
namespace L2
open PySem PySem.Spec PyProof.Rows
noncomputable abbrev R2:=V→V→Hp→VK→Prop
noncomputable def OpR (X:Cx) (f:Value→Value→Sem Value) (r:R2):Prop:=
 ∀ (pins:List (Addr × Obj)) (s:Shared) (σ:St) (H:Hp) (x y:V) (v u:Value) (Q:VK),Inv X pins σ H s→wd x v→wd y u→r x y H Q →
  wpAny (model X.prog X.w) X.A (f v u) (EP X pins σ Q) X.xe s
noncomputable def UnR (X:Cx) (f:Value→Sem Value) (r:V→Hp→VK→Prop):Prop:=
 ∀ (pins:List (Addr × Obj)) (s:Shared) (σ:St) (H:Hp) (x:V) (v:Value) (Q:VK),Inv X pins σ H s→wd x v→r x H Q →
  wpAny (model X.prog X.w) X.A (f v) (EP X pins σ Q) X.xe s
noncomputable def Ni (X:Cx) (f:Value) (r:List V→Hp→VK→Prop):Prop:=
 ∀ (pins:List (Addr × Obj)) (s:Shared) (σ:St) (H:Hp) (xs:List V) (us:List Value) (Q:VK),Inv X pins σ H s→Pc xs us→r xs H Q →
  wpAny (model X.prog X.w) X.A (call f us) (EP X pins σ Q) X.xe s
noncomputable def IN (X:Cx) (r:V→Hp→(Bool→Hp→Prop)→Prop):Prop:=
 ∀ (pins:List (Addr × Obj)) (s:Shared) (σ:St) (H:Hp) (x:V) (v:Value) (Q:Bool→Hp→Prop),Inv X pins σ H s→wd x v→r x H Q →
  wpAny (model X.prog X.w) X.A (truthy v) (TP X pins σ Q) X.xe s
noncomputable def tOp (r:R2) (ta tb:TE):TE:=fun σ H Q=>ta σ H fun x H1=>tb σ H1 fun y H2=>r x y H2 Q
noncomputable def tUn (r:V→Hp→VK→Prop) (ta:TE):TE:=fun σ H Q=>ta σ H fun x H1=>r x H1 Q
noncomputable def rI (C:Int→Int→Prop) (g:Int→Int→V):R2:=fun x y H Q=>Gi x fun i=>Gi y fun j=>C i j∧Q (g i j) H
noncomputable def rI0 (g:Int→Int→V):R2:=fun x y H Q=>Gi x fun i=>Gi y fun j=>Q (g i j) H
noncomputable def rU (g:Int→V):V→Hp→VK→Prop:=fun x H Q=>Gi x fun i=>Q (g i) H
section
variable {X:Cx} {a b c:Expr} {ta tb tc:TE} {pos:Pos}
theorem dM (ha:PE X a ta) (hb:PE X b tb) {pins:List (Addr × Obj)} {s:Shared} {σ:St} {H:Hp} {R:V→V→Hp→Prop} (I:Inv X pins σ H s)
  (h:ta σ H fun x H1=>tb σ H1 fun y H2=>R x y H2) {Q:Value→Shared→Prop} {f:Value→Value→Sem Value}
  (hf:∀ v u s2 x y H2,Inv X pins σ H2 s2→wd x v→wd y u→R x y H2→wpAny (model X.prog X.w) X.A (f v u) Q X.xe s2) :
  wpAny (model X.prog X.w) X.A (eval a X.env) (fun v s₁=>wpAny (model X.prog X.w) X.A (eval b X.env) (fun u s₂=>wpAny (model X.prog X.w) X.A (f v u) Q X.xe s₂) X.xe s₁) X.xe s:=by
 refine thn (ha pins s σ H _ I h) fun v s1 hZ1=>?_
 obtain ⟨x,H1,I1,r1,q1⟩:=hZ1;refine thn (hb pins s1 σ H1 _ I1 q1) fun u s2 hZ1=>?_
 obtain ⟨y,H2,I2,r2,q2⟩:=hZ1;exact hf v u s2 x y H2 I2 r1 r2 q2
theorem bc {op:Operator} {r:R2} (ho:OpR X (binaryOp op) r) (ha:PE X a ta) (hb:PE X b tb):PE X (.BinOp a op b pos) (tOp r ta tb):=by
 intro pins s σ H Q I h;exact wpAny_BinOp (dM ha hb I h fun v u s2 x y H2 I2 rx ry q=>ho pins s2 σ H2 x y v u Q I2 rx ry q)
theorem JJ {op:UnaryOp} {r:V→Hp→VK→Prop} (ho:UnR X (unaryOp op) r) (ha:PE X a ta):PE X (.UnaryOp op a pos) (tUn r ta):=by
 intro pins s σ H Q I h;exact UnaryOp_ (thn (ha pins s σ H _ I h) fun v s1 ⟨x,H1,I1,r1,q1⟩=>ho pins s1 σ H1 x v Q I1 r1 q1)
theorem opI {f:Value→Value→Sem Value} {C:Int→Int→Prop} {g:Int→Int→Int}
  (rule:∀ (i j:Int) (t u:Tok) (s:Shared) (Q:Value→Shared→Prop) (E:Value→Shared→Prop),C i j→Q (.int (g i j) s.toks) { s with toks:=s.toks + 1 }→wpAny (model X.prog X.w) X.A (f (.int i t) (.int j u)) Q E s) :
  OpR X f (rI C fun i j=>.int (g i j)):=by
 intro pins s σ H x y v u Q I rx ry h;obtain ⟨i,rfl,hzz⟩:=Gi.out h;obtain ⟨j,rfl,hc,q⟩:=Gi.out hzz;obtain ⟨t,rfl⟩:=rx;obtain ⟨t',rfl⟩:=ry;exact rule i j t t' s _ _ hc ⟨.int (g i j),H,I.tok _,⟨_,rfl⟩,q⟩
theorem iN {f:Value→Value→Sem Value} {g:Int→Int→Int}
  (rule:∀ (i j:Int) (t u:Tok) (s:Shared) (Q:Value→Shared→Prop) (E:Value→Shared→Prop),Q (.int (g i j) s.toks) { s with toks:=s.toks + 1 }→wpAny (model X.prog X.w) X.A (f (.int i t) (.int j u)) Q E s) :
  OpR X f (rI0 fun i j=>.int (g i j)):=by
 intro pins s σ H x y v u Q I rx ry h;obtain ⟨i,rfl,hzz⟩:=Gi.out h;obtain ⟨j,rfl,q⟩:=Gi.out hzz;obtain ⟨t,rfl⟩:=rx;obtain ⟨t',rfl⟩:=ry;exact rule i j t t' s _ _ ⟨.int (g i j),H,I.tok _,⟨_,rfl⟩,q⟩
theorem cM {f:Value→Value→Sem Value} {g:Int→Int→Bool}
  (rule:∀ (i j:Int) (t u:Tok) (s:Shared) (Q:Value→Shared→Prop) (E:Value→Shared→Prop),Q (.bool (g i j)) s→wpAny (model X.prog X.w) X.A (f (.int i t) (.int j u)) Q E s) :
  OpR X f (rI0 fun i j=>.bl (g i j)):=by
 intro pins s σ H x y v u Q I rx ry h;obtain ⟨i,rfl,hzz⟩:=Gi.out h;obtain ⟨j,rfl,q⟩:=Gi.out hzz;obtain ⟨t,rfl⟩:=rx;obtain ⟨t',rfl⟩:=ry;exact rule i j t t' s _ _ ⟨.bl (g i j),H,I,rfl,q⟩
noncomputable def gH (i j:Int):Prop:=(-(2 ^ 64) < i∧i < 2 ^ 64)∨(-(2 ^ 64) < j∧j < 2 ^ 64)
theorem gH.ok {i j:Int} (h:gH i j):IntMulOk i j:=by
 rcases h with ⟨h1,h2⟩ | ⟨h1,h2⟩
 ·exact .of_left (intBits_le_64 h1 h2)
 ·exact .of_right (intBits_le_64 h1 h2)
theorem Zd:OpR X (binaryOp .Add) (rI0 fun i j=>.int (i + j)):=iN fun _ _ _ _ _ _ _ q=>add_int q
theorem Wf:OpR X (binaryOp .Sub) (rI0 fun i j=>.int (i - j)):=iN fun _ _ _ _ _ _ _ q=>sub_int q
theorem zr:OpR X (binaryOp .Mult) (rI gH fun i j=>.int (i * j)):=opI fun _ _ _ _ _ _ _ hc q=>mul_int q hc.ok
theorem gg:OpR X (binaryOp .Mod) (rI (fun _ j=>0 < j) fun i j=>.int (i % j)):=opI fun i j _ _ _ _ _ hc q=>by
 have h1:(0:Int) < j:=hc;exact mod_int' (by omega) (by rw [Int.fmod_eq_emod_of_nonneg i (by omega)];exact q)
theorem unI {f:Value→Sem Value} {g:Int→Int}
  (rule:∀ (i:Int) (t:Tok) (s:Shared) (Q:Value→Shared→Prop) (E:Value→Shared→Prop),Q (.int (g i) s.toks) { s with toks:=s.toks + 1 }→wpAny (model X.prog X.w) X.A (f (.int i t)) Q E s) :
  UnR X f (rU fun i=>.int (g i)):=by
 intro pins s σ H x v Q I rx h;obtain ⟨i,rfl,q⟩:=Gi.out h;obtain ⟨t,rfl⟩:=rx;exact rule i t s _ _ ⟨.int (g i),H,I.tok _,⟨_,rfl⟩,q⟩
theorem NG:UnR X (unaryOp .USub) (rU fun i=>.int (-i)):=unI fun _ _ _ _ _ q=>neg_int q
end
noncomputable def bK:V→V→Bool
 | .non,.non=>true | .non,.int _=>true | .int _,.non=>true | .non,.bl _=>true | .bl _,.non=>true | .non,.str _=>true | .str _,.non=>true
 | .int _,.int _=>true | .bl _,.bl _=>true | .str _,.str _=>true | .byt _,.byt _=>true
 | .int _,.str _=>true | .str _,.int _=>true | .bl _,.str _=>true | .str _,.bl _=>true
 | _,_=>false
noncomputable def rEq:R2:=fun x y H Q=>bK x y=true∧Q (.bl (decide (x=y))) H
noncomputable def rNe:R2:=fun x y H Q=>bK x y=true∧Q (.bl (!decide (x=y))) H
theorem fC {i j:Int}:decide (V.int i=V.int j)=(i == j):=by
 rw [Bool.eq_iff_iff];simp
theorem SG {i j:Bool}:decide (V.bl i=V.bl j)=(i == j):=by
 rw [Bool.eq_iff_iff];simp
theorem ZA {i j:Str}:decide (V.str i=V.str j)=(i == j):=by
 rw [Bool.eq_iff_iff];simp
theorem aE {i j:Array UInt8}:decide (V.byt i=V.byt j)=(i.toList == j.toList):=by
 rw [Bool.eq_iff_iff];cases i;cases j;simp
section
variable {X:Cx} {a b c:Expr} {ta tb tc:TE} {pos:Pos}
theorem Kc {pins:List (Addr × Obj)} {σ:St} {H:Hp} {s:Shared} {Q:VK} {k k':Bool} (I:Inv X pins σ H s) (q:Q (.bl k) H) (e:k=k'):EP X pins σ Q (.bool k') s:=by
 subst e;exact ⟨.bl k,H,I,rfl,q⟩
theorem vj:OpR X (compareOp .Eq) rEq:=by
 intro pins s σ H x y v u Q I rx ry h;obtain ⟨hs,q⟩:=h;cases x with
 | non=>
  cases rx;cases y with
  | non=>cases ry;exact PySem.EqNone.eq_none_none (Kc I q (by simp))
  | bl j=>cases ry;exact PySem.EqNone.eq_none_bool (Kc I q (by simp))
  | int j=>obtain ⟨t',rfl⟩:=ry;exact PySem.EqNone.eq_none_int (Kc I q (by simp))
  | str j=>obtain ⟨t',rfl⟩:=ry;exact PySem.EqNone.eq_none_str (Kc I q (by simp))
  | _=>exact absurd (show false=true from hs) Bool.false_ne_true
 | bl i=>
  cases rx;cases y with
  | non=>cases ry;exact PySem.EqNone.eq_bool_none (Kc I q (by simp))
  | bl j=>cases ry;exact eq_bool (Kc I q SG)
  | str j=>obtain ⟨t',rfl⟩:=ry;exact PySem.EqMixed.eq_bool_str (Kc I q (by simp))
  | _=>exact absurd (show false=true from hs) Bool.false_ne_true
 | int i=>
  obtain ⟨t,rfl⟩:=rx;cases y with
  | non=>cases ry;exact PySem.EqNone.eq_int_none (Kc I q (by simp))
  | int j=>obtain ⟨t',rfl⟩:=ry;exact eq_int (Kc I q fC)
  | str j=>obtain ⟨t',rfl⟩:=ry;exact PySem.EqMixed.eq_int_str (Kc I q (by simp))
  | _=>exact absurd (show false=true from hs) Bool.false_ne_true
 | str i=>
  obtain ⟨t,rfl⟩:=rx;cases y with
  | non=>cases ry;exact PySem.EqNone.eq_str_none (Kc I q (by simp))
  | bl j=>cases ry;exact PySem.EqMixed.eq_str_bool (Kc I q (by simp))
  | int j=>obtain ⟨t',rfl⟩:=ry;exact PySem.EqMixed.eq_str_int (Kc I q (by simp))
  | str j=>obtain ⟨t',rfl⟩:=ry;exact eq_str (Kc I q ZA)
  | _=>exact absurd (show false=true from hs) Bool.false_ne_true
 | byt i=>
  obtain ⟨t,rfl⟩:=rx;cases y with
  | byt j=>obtain ⟨t',rfl⟩:=ry;exact PySem.W.eq_bytes (Kc I q aE)
  | _=>exact absurd (show false=true from hs) Bool.false_ne_true
 | _=>cases y <;> exact absurd (show false=true from hs) Bool.false_ne_true
theorem KB:OpR X (compareOp .NotEq) rNe:=by
 intro pins s σ H x y v u Q I rx ry h;obtain ⟨hs,q⟩:=h;cases x with
 | non=>
  cases rx;cases y with
  | non=>cases ry;exact PySem.EqNone.ne_none_none (Kc I q (by simp))
  | bl j=>cases ry;exact PySem.EqNone.ne_none_bool (Kc I q (by simp))
  | int j=>obtain ⟨t',rfl⟩:=ry;exact PySem.EqNone.ne_none_int (Kc I q (by simp))
  | str j=>obtain ⟨t',rfl⟩:=ry;exact PySem.EqNone.ne_none_str (Kc I q (by simp))
  | _=>exact absurd (show false=true from hs) Bool.false_ne_true
 | bl i=>
  cases rx;cases y with
  | non=>cases ry;exact PySem.EqNone.ne_bool_none (Kc I q (by simp))
  | bl j=>cases ry;exact ne_bool (Kc I q (congrArg not SG))
  | str j=>obtain ⟨t',rfl⟩:=ry;exact PySem.EqMixed.ne_bool_str (Kc I q (by simp))
  | _=>exact absurd (show false=true from hs) Bool.false_ne_true
 | int i=>
  obtain ⟨t,rfl⟩:=rx;cases y with
  | non=>cases ry;exact PySem.EqNone.ne_int_none (Kc I q (by simp))
  | int j=>obtain ⟨t',rfl⟩:=ry;exact ne_int (Kc I q (congrArg not fC))
  | str j=>obtain ⟨t',rfl⟩:=ry;exact PySem.EqMixed.ne_int_str (Kc I q (by simp))
  | _=>exact absurd (show false=true from hs) Bool.false_ne_true
 | str i=>
  obtain ⟨t,rfl⟩:=rx;cases y with
  | non=>cases ry;exact PySem.EqNone.ne_str_none (Kc I q (by simp))
  | bl j=>cases ry;exact PySem.EqMixed.ne_str_bool (Kc I q (by simp))
  | int j=>obtain ⟨t',rfl⟩:=ry;exact PySem.EqMixed.ne_str_int (Kc I q (by simp))
  | str j=>obtain ⟨t',rfl⟩:=ry;exact ne_str (Kc I q (congrArg not ZA))
  | _=>exact absurd (show false=true from hs) Bool.false_ne_true
 | byt i=>
  obtain ⟨t,rfl⟩:=rx;cases y with
  | byt j=>obtain ⟨t',rfl⟩:=ry;exact PySem.W.ne_bytes (Kc I q (congrArg not aE))
  | _=>exact absurd (show false=true from hs) Bool.false_ne_true
 | _=>cases y <;> exact absurd (show false=true from hs) Bool.false_ne_true
theorem Bu:OpR X (compareOp .Lt) (rI0 fun i j=>.bl (decide (i < j))):=cM fun _ _ _ _ _ _ _ q=>lt_int q
theorem sL:OpR X (compareOp .LtE) (rI0 fun i j=>.bl (decide (i ≤ j))):=cM fun _ _ _ _ _ _ _ q=>le_int q
theorem jv:OpR X (compareOp .Gt) (rI0 fun i j=>.bl (decide (j < i))):=cM fun _ _ _ _ _ _ _ q=>gt_int q
theorem VC:OpR X (compareOp .In) (fun x y H Q=>∃ i j,x=.str i∧y=.str j∧Q (.bl (!(Builtin.Str.occurrences j i 0 j.length 1).isEmpty)) H):=by
 intro pins s σ H x y v u Q I rx ry h;obtain ⟨i,j,rfl,rfl,q⟩:=h;obtain ⟨t,rfl⟩:=rx;obtain ⟨t',rfl⟩:=ry;exact in_str (Kc I q rfl)
theorem wE:OpR X (compareOp .Is) (fun x y H Q=>y=.non∧Q (.bl (decide (x=.non))) H):=by
 intro pins s σ H x y v u Q I rx ry h;obtain ⟨rfl,q⟩:=h;cases ry;refine is_none_gen (Kc I q ?_);cases x <;> first
  | (cases rx;rfl)
  | (obtain ⟨t,rfl⟩:=rx;rfl)
theorem LI:OpR X (compareOp .IsNot) (fun x y H Q=>y=.non∧Q (.bl (!decide (x=.non))) H):=by
 intro pins s σ H x y v u Q I rx ry h;obtain ⟨rfl,q⟩:=h;cases ry;refine isnot_none_gen (Kc I q ?_);cases x <;> first
  | (cases rx;rfl)
  | (obtain ⟨t,rfl⟩:=rx;rfl)
theorem Vb (b:Expr) {op:CmpOp} (h:op ≠ .In:=by decide) (h2:op ≠ .NotIn:=by decide):behindInMarks op b=false:=by
 have e1:(op == CmpOp.In)=false:=by cases op <;> first | rfl | exact absurd rfl h
 have e2:(op == CmpOp.NotIn)=false:=by cases op <;> first | rfl | exact absurd rfl h2
 cases b <;> simp [behindInMarks,e1,e2]
theorem je {op:CmpOp} {r:R2} (ho:OpR X (compareOp op) r) (ha:PE X a ta) (hb:PE X b tb) (hm:behindInMarks op b=false):PE X (.Compare a [op] [b] pos) (tOp r ta tb):=by
 intro pins s σ H Q I h;exact wpAny_Compare1 (dM ha hb I h fun v u s2 x y H2 I2 rx ry q=>ho pins s2 σ H2 x y v u Q I2 rx ry q) hm
noncomputable def cK (t:TE):TT:=fun σ H Q=>t σ H fun x H'=>BlQ x fun k=>Q k H'
theorem Zb {op:CmpOp} {r:R2} (ho:OpR X (compareOp op) r) (ha:PE X a ta) (hb:PE X b tb) (hm:behindInMarks op b=false):PT X (.Compare a [op] [b] pos) (cK (tOp r ta tb)):=by
 intro pins s σ H Q I h;refine wpAny_isTrue_Compare1 (thn (ha pins s σ H _ I h) fun v s1 ⟨x,H1,I1,r1,q1⟩=>thn (hb pins s1 σ H1 _ I1 q1) fun u s2 ⟨y,H2,I2,r2,q2⟩=>
  thn (ho pins s2 σ H2 x y v u _ I2 r1 r2 q2) fun c s3 ⟨z,H3,I3,r3,zq⟩=>?_) hm
 obtain ⟨k,e,q3⟩:=BlQ.out zq;subst e;cases r3;exact wpAny_truthy_bool ⟨H3,I3,q3⟩
noncomputable def UM (K:PySem.W.Frag) (x:V) (H:Hp) (k:Bool):Prop:=
 match x with
 | .non=>k=false
 | .bl b=>k=b
 | .int i=>k=(i != 0)
 | .str y=>y.length ≤ sizeLine∧k=((y.length:Int) != 0)
 | .byt y=>y.size ≤ sizeLine∧k=((y.size:Int) != 0)
 | .ref p=>(∃ xs,SqL K H p xs∧k = !xs.isEmpty)∨(∃ xs,SqT K H p xs∧k = !xs.isEmpty)∨∃ kvs,H p=some (.dK kvs)∧k = !kvs.isEmpty
 | _=>False
theorem vz {κ:Type} {kvs:List (κ × V)} {vs:List (κ × Value)} (r:KV kvs vs):(!vs.isEmpty) = !kvs.isEmpty:=by
 cases r <;> rfl
theorem jr {xs:List V} {its:List Value} (r:Pc xs its):(!its.toArray.isEmpty) = !xs.isEmpty:=by
 cases r <;> simp
theorem Zp:(sizeLine:Nat) < 2 ^ 63:=by rw [sizeLine_eq];decide
theorem gK:IN X (fun x H Q=>∃ k,UM X.K x H k∧Q k H):=by
 intro pins s σ H x v Q I rx h;obtain ⟨k,e,q⟩:=h;have hl:=Zp;have hs:sizeLine=16777216:=sizeLine_eq;cases x with
 | non=>
  cases rx;have e':k=false:=e;subst e';exact truthy_none ⟨H,I,q⟩
 | bl b=>
  cases rx;have e':k=b:=e;subst e';exact wpAny_truthy_bool ⟨H,I,q⟩
 | int i=>
  obtain ⟨t,rfl⟩:=rx;have e':k=(i != 0):=e;subst e';exact PySem.P.truthy_int ⟨H,I,q⟩
 | str y=>
  obtain ⟨t,rfl⟩:=rx;obtain ⟨hy,e'⟩:y.length ≤ sizeLine∧k=((y.length:Int) != 0):=e;subst e';exact PySem.P.truthy_str (by omega) ⟨H,I.tok _,q⟩
 | byt y=>
  obtain ⟨t,rfl⟩:=rx;obtain ⟨hy,e'⟩:y.size ≤ sizeLine∧k=((y.size:Int) != 0):=e;subst e';exact PySem.W.truthy_bytes (by omega) ⟨H,I.tok _,q⟩
 | ref p=>
  cases rx;have e':(∃ xs,SqL X.K H p xs∧k = !xs.isEmpty)∨(∃ xs,SqT X.K H p xs∧k = !xs.isEmpty)∨∃ kvs,H p=some (.dK kvs)∧k = !kvs.isEmpty:=e;rcases e' with ⟨xs,hx,e'⟩ | ⟨xs,hx,e'⟩ | ⟨kvs,hx,e'⟩
  ·subst e';obtain ⟨its,r,pl,hz⟩:=I.list hx;have hlen:=r.length;exact wpAny_truthy_list pl.isList (by simp only [List.size_toArray];omega) ⟨H,I.tok _,by rw [jr r];exact q⟩
  ·subst e';obtain ⟨its,r,pl,hz⟩:=I.tuple hx;have hlen:=r.length;exact truthy_tuple pl (by simp only [List.size_toArray];omega) ⟨H,I.tok _,by rw [jr r];exact q⟩
  ·subst e';obtain ⟨hz,hS,vs,r,m⟩:kvs.length ≤ sizeLine∧(p == sysModules)=false∧∃ vs,KV kvs vs∧s.heap.DictOf (Le X.prog X.w) p vs:=I.hok p _ hx;have hlen:kvs.length=vs.length:=Paired.length r;exact wpAny_truthy_dict hS m (by omega) ⟨H,I.tok _,by rw [vz r];exact q⟩
 | _=>exact (show False from e).elim
theorem Yy (ha:PE X a ta) (he:∀ whole,isTrue a X.env whole=(do let v ← whole;standAt a.pos;holding [v] (truthy v))) :
  PT X a (fun σ H Q=>ta σ H fun x H'=>∃ k,UM X.K x H' k∧Q k H'):=by
 intro pins s σ H Q I h;exact isTrue_plain (thn (ha pins s σ H _ I h) fun v s1 ⟨x,H1,I1,r1,q1⟩=>gK pins s1 σ H1 x v Q I1 r1 q1) (he _)
theorem wp {x:V} {us:List Value} (r:Pc [x] us):∃ u,us=[u]∧wd x u:=by
 cases r with
 | cons r1 r2=>cases r2;exact ⟨_,rfl,r1⟩
theorem NA {x y:V} {us:List Value} (r:Pc [x,y] us):∃ u w',us=[u,w']∧wd x u∧wd y w':=by
 cases r with
 | cons r1 r2=>
  cases r2 with
  | cons r3 r4=>cases r4;exact ⟨_,_,rfl,r1,r3⟩
theorem fE (hc:X.calm=true):Ni X (.builtin "max") (fun xs H Q=>∃ i j,xs=[.int i,.int j]∧Q (.int (if j > i then j else i)) H):=by
 intro pins s σ H xs us Q I r h;obtain ⟨i,j,rfl,q⟩:=h;obtain ⟨u,w',rfl,⟨t,rfl⟩,⟨t',rfl⟩⟩:=NA r;refine max_two_ints (I.ok.hd hc) fun h' tk k=>⟨_,H,I.kept k,?_,q⟩
 by_cases hj:j > i
 ·rw [if_pos hj,if_pos hj];exact ⟨_,rfl⟩
 ·rw [if_neg hj,if_neg hj];exact ⟨_,rfl⟩
theorem fB (hc:X.calm=true):Ni X (.builtin "min") (fun xs H Q=>∃ i j,xs=[.int i,.int j]∧Q (.int (if j < i then j else i)) H):=by
 intro pins s σ H xs us Q I r h;obtain ⟨i,j,rfl,q⟩:=h;obtain ⟨u,w',rfl,⟨t,rfl⟩,⟨t',rfl⟩⟩:=NA r;refine min_two_ints (I.ok.hd hc) fun h' tk k=>⟨_,H,I.kept k,?_,q⟩
 by_cases hj:j < i
 ·rw [if_pos hj,if_pos hj];exact ⟨_,rfl⟩
 ·rw [if_neg hj,if_neg hj];exact ⟨_,rfl⟩
theorem qu:Ni X (.type "str") (fun xs H Q=>∃ i,xs=[.int i]∧i.natAbs.log2 < 1920∧Q (.str (toString i)) H):=by
 intro pins s σ H xs us Q I r h;obtain ⟨i,rfl,hz,q⟩:=h;obtain ⟨u,rfl,t,rfl⟩:=wp r;exact PySem.P.str_of_int hz ⟨.str _,H,I.tok _,⟨_,rfl⟩,q⟩
end
end L2
namespace L2
open PySem PySem.Spec PyProof.Rows
structure hJ (h:Heap) (x dx C:Addr) (mA:Str→Option Value):Prop where
 obj:h.get? x=some (PySem.W.instObj C dx)
 ns:h.Ns1 dx mA
 ne:dx ≠ x
theorem JA {h:Heap} {dx:Addr} {mA:Str→Option Value} (n:h.Ns1 dx mA):∃ od,h.get? dx=some od∧∀ name,PySem.W.lookIn name od=some (mA name):=by
 obtain ⟨o,es,ep,ho,hd,hk,_,hm⟩:=n;refine ⟨o,ho,fun name=>?_⟩;have e:=hm name;unfold nsFind findBy at e;rw [← Array.find?_toList] at e;unfold PySem.W.lookIn;rw [hd];dsimp only;split
 ·rename_i y q;rw [q] at e;exact congrArg some e
 ·rename_i q;rw [q] at e;have a:es.toList.any (·.refKey)=false:=by
   rw [List.any_eq_false];intro y hy;obtain ⟨z,t,hkey⟩:=hk y (Array.mem_toList_iff.mp hy);simp [DictEntry.refKey,hkey]
  have a':¬ es.toList.any (·.refKey)=true:=by rw [a];exact Bool.false_ne_true
  rw [if_neg a'];exact congrArg some e
theorem hJ.look {h:Heap} {x dx C:Addr} {mA:Str→Option Value} (I:hJ h x dx C mA):∃ od,PySem.W.InstAt h x (PySem.W.instObj C dx) C (some od)∧∀ name,PySem.W.lookIn name od=some (mA name):=
 let ⟨od,ho,hl⟩:=JA I.ns
 ⟨od,⟨I.obj,rfl,rfl,ho⟩,hl⟩
section
variable {prog:Program} {w:World} {A:Around} {E:Value→Shared→Prop} {s:Shared} {K:PySem.W.Frag} {x dx C f:Addr} {mA:Str→Option Value} {name:Str} {v:Value}
theorem aI {expr:Bool} {Q:Value→Shared→Prop} (X:K.In s.heap) (I:hJ s.heap x dx C mA) (hg:PySem.W.plainGet K C name=true) (hh:PySem.W.hasDictIn K C=true)
  (ha:PySem.W.findIn K (.ref C) name=some none) (hv:mA name=some v) (hv':PySem.W.handedIn v=true) (h:Q v { s with toks:=s.toks + 1 }) :
  wpAny (model prog w) A (getAttr (.ref x) name expr) Q E s:=by
 obtain ⟨od,J,hl⟩:=I.look;exact PySem.W.get_value X J (PySem.W.plainGet_of hg).1 (PySem.W.findObj_own hh ha rfl (by rw [hl,hv])) hv' h
theorem dG {pl:Sem Bool} {Q:Value × List Value→Shared→Prop} (X:K.In s.heap) (I:hJ s.heap x dx C mA) (hg:PySem.W.plainGet K C name=true)
  (hf:PySem.W.findIn K (.ref C) name=some (some (.ref f))) (ht:PySem.W.isFn K (.ref f)=true) (hv:mA name=none) (h:Q (.ref f,[.ref x]) s) :
  wpAny (model prog w) A (getMethod (.ref x) name pl) Q E s:=by
 obtain ⟨od,J,hl⟩:=I.look;exact PySem.W.method_fn X J (PySem.W.plainGet_of hg).1 (PySem.W.plainGet_of hg).2 hf (beq_iff_eq.mp ht) (by show (PySem.W.lookIn name od).map (·.isSome)=some false;rw [hl,hv];rfl) h
theorem sI {ns:List Str} {Q:Unit→Shared→Prop} (X:K.In s.heap) (I:hJ s.heap x dx C mA)
  (hs:PySem.W.findIn K (.ref C) "__setattr__"=some (some (.builtin "object.__setattr__"))) (hp:PySem.W.plainOver K C=true) (ht:PySem.W.takerIn K C name=some none) (hh:PySem.W.hasDictIn K C=true)
  (hw:PySem.Within mA ns) (hsz:ns.length ≤ sizeLine)
  (h:∀ h',hJ h' x dx C (fun y=>if y=name then some v else mA y)→Heap.SameBut dx s.heap h'→Q () { s with heap:=h',toks:=s.toks + 2 }) :
  wpAny (model prog w) A (setAttr (.ref x) name v) Q E s:=by
 obtain ⟨od,J,hl⟩:=I.look;refine PySem.W.set_plain X J hs (PySem.W.osa_open (s:={ s with toks:=s.toks + 1 }) (r:=none) X J hp ht fun b=>?_);obtain ⟨cd,hc,hd'⟩:=PySem.W.any_some hh;have hx:s.heap.get? x=some ⟨.ref C,some dx,.plain,#[]⟩:=I.obj;refine wpAny_bind (wpAny_pure (wpAny_bind (wpAny_bind (wpAny_loadPart hx (wpAny_bind (PySem.W.Looks.here (s:={ s with toks:=s.toks + 1 }) (PySem.W.looks_clsIn X hc) ?_))))));rw [hd'];refine wpAny_pure (a:=some dx) (wpAny_bind (wpAny_pure (wpAny_bind ?_)));refine wpAny_nsSet1 (s:={ s with toks:=s.toks + 1 }) I.ns fun h' hn2 hs2=>?_
 obtain ⟨oD,esD,epD,hoD,hdD,hcD⟩:=hn2.count (PySem.Within.cons name v hw);refine wpAny_bind (wpAny_lookBehind hoD (by rw [hdD];exact pastItsLine_dict (Nat.le_trans hcD (by rw [List.length_cons];omega))) ?_);exact wpAny_pure (h _ ⟨(hs2.2 _ (Ne.symm I.ne)).trans I.obj,hn2,I.ne⟩ hs2)
theorem mG {R:Result→Shared→Prop} {vs:List Value} {kw:List (Str × Value)} (X:K.In s.heap) (hm:PySem.W.makesIn K C=true)
  (hi:PySem.W.findIn K (.ref C) "__init__"=some (some (.ref f))) (hf:PySem.W.typeIn K (.ref f)=some (.type "function"))
  (h:codeAny (model prog w) (A.under (.builtin "type.__call__" ⟨.ref C :: vs,kw⟩)) (.call (.ref f) ⟨.ref (s.heap.objs.size + 1) :: vs,kw⟩) (PySem.W.InitBack (s.heap.objs.size + 1) R)
   { s with heap:=(s.heap.push PySem.W.emptyDict).push (PySem.W.instObj C s.heap.objs.size) }) :
  codeAny (model prog w) A (.call (.ref C) ⟨vs,kw⟩) R s:=by
 obtain ⟨hh,g,d,t,os⟩:=s;exact PySem.W.make_core (PySem.W.makes_of X hm) (PySem.W.looks_findIn X hi) (fun self=>PySem.W.bind_fn X self hf) (.inl rfl) h
end
noncomputable def Ih (f:Str) (v:V):List (Str × V)→List (Str × V)
 | []=>[(f,v)]
 | (g,x) :: r=>if g=f then (g,v) :: r else (g,x) :: Ih f v r
theorem Lo (f g:Str) (v:V):∀ fs:List (Str × V),(Ih f v fs).lookup g=if g=f then some v else fs.lookup g
 | []=>by
  show List.lookup g [(f,v)]=_;by_cases h:g=f
  ·have hb:(g == f)=true:=beq_iff_eq.mpr h;simp only [List.lookup,hb,if_pos h]
  ·have hb:(g == f)=false:=beq_eq_false_iff_ne.mpr h;simp only [List.lookup,hb,if_neg h]
 | (k,x) :: r=>by
  have ih:=Lo f g v r;rw [show Ih f v ((k,x) :: r)=(if k=f then (k,v) :: r else (k,x) :: Ih f v r) from rfl];by_cases hk:k=f
  ·rw [if_pos hk];by_cases h:g=k
   ·have hb:(g == k)=true:=beq_iff_eq.mpr h;simp only [List.lookup,hb,if_pos (h.trans hk)]
   ·have hb:(g == k)=false:=beq_eq_false_iff_ne.mpr h;simp only [List.lookup,hb,if_neg (fun e:g=f=>h (e.trans hk.symm))]
  ·rw [if_neg hk];by_cases h:g=k
   ·have hb:(g == k)=true:=beq_iff_eq.mpr h;simp only [List.lookup,hb,if_neg (fun e:g=f=>hk (h.symm.trans e))]
   ·have hb:(g == k)=false:=beq_eq_false_iff_ne.mpr h;simp only [List.lookup,hb];exact ih
theorem So (f:Str) (v:V):∀ fs:List (Str × V),f ∈ (Ih f v fs).map (·.1)∧∀ g,g ∈ fs.map (·.1)→g ∈ (Ih f v fs).map (·.1)
 | []=>⟨by simp [Ih],fun g h=>by simp at h⟩
 | (k,x) :: r=>by
  obtain ⟨i1,i2⟩:=So f v r;rw [show Ih f v ((k,x) :: r)=(if k=f then (k,v) :: r else (k,x) :: Ih f v r) from rfl];by_cases hk:k=f
  ·rw [if_pos hk];subst hk;exact ⟨by simp,fun g h=>by simpa using h⟩
  ·rw [if_neg hk];refine ⟨?_,fun g h=>?_⟩
   ·rw [List.map_cons];exact List.mem_cons_of_mem _ i1
   ·rw [List.map_cons] at h ⊢;rcases List.mem_cons.mp h with e | e
    ·exact List.mem_cons.mpr (.inl e)
    ·exact List.mem_cons_of_mem _ (i2 g e)
theorem vk (f:Str) (v:V):∀ fs:List (Str × V),(Ih f v fs).length ≤ fs.length + 1
 | []=>by simp [Ih]
 | (k,x) :: r=>by
  have ih:=vk f v r;rw [show Ih f v ((k,x) :: r)=(if k=f then (k,v) :: r else (k,x) :: Ih f v r) from rfl];by_cases hk:k=f
  ·rw [if_pos hk,List.length_cons,List.length_cons];omega
  ·rw [if_neg hk,List.length_cons,List.length_cons];omega
theorem Gs.some_of {v:V} {o:Option Value} (r:Gs (some v) o):∃ u,o=some u∧wd v u:=by
 cases o with
 | none=>exact (show False from r).elim
 | some u=>exact ⟨u,rfl,r⟩
theorem Gs.none_of {o:Option Value} (r:Gs none o):o=none:=by
 cases o with
 | none=>rfl
 | some u=>exact (show False from r).elim
theorem OC {v:V} {u:Value} (r:wd v u):PySem.W.handedIn u=true:=by
 cases v with
 | non=>cases (show u=Value.none from r);rfl
 | bl b=>cases (show u=Value.bool b from r);rfl
 | int i=>obtain ⟨t,e⟩:=(show ∃ t,u=Value.int i t from r);cases e;rfl
 | str x=>obtain ⟨t,e⟩:=(show ∃ t,u=Value.str x t from r);cases e;rfl
 | byt b=>obtain ⟨t,e⟩:=(show ∃ t,u=Value.bytes b t from r);cases e;rfl
 | flt b=>obtain ⟨t,e⟩:=(show ∃ t,u=Value.float b t from r);cases e;rfl
 | ref a=>cases (show u=Value.ref a from r);rfl
 | ty n=>cases (show u=Value.type n from r);rfl
section
variable {P:Program} {w:World} {H H':Hp} {h h':Heap} {a C dx:Addr} {fs fs':List (Str × V)}
theorem Xv (hok:HOk P w H h) (e:H a=some (.ins C dx fs)):∃ mA,hJ h a dx C mA∧(∀ f,Gs (fs.lookup f) (mA f))∧PySem.Within mA (fs.map (·.1))∧fs.length ≤ 1000∧H dx=some (.own a):=by
 obtain ⟨d,z,ne,ob,mA,n,r,q⟩:=(show Gd P w H h a (.ins C dx fs) from hok a _ e);exact ⟨mA,⟨ob,n,ne⟩,r,q,z,d⟩
end
structure Cls (K:PySem.W.Frag) (C:Addr):Prop where
 pg:PySem.W.plainGet K C Str.empty=true
 hd:PySem.W.hasDictIn K C=true
 po:PySem.W.plainOver K C=true
 sa:PySem.W.findIn K (.ref C) "__setattr__"=some (some (.builtin "object.__setattr__"))
theorem Cls.get {K:PySem.W.Frag} {C:Addr} (c:Cls K C) (f:Str):PySem.W.plainGet K C f=true:=c.pg
noncomputable def Mb (K:PySem.W.Frag) (C:Addr) (f:Str):Prop:=PySem.W.findIn K (.ref C) f=some none
theorem Mb.taker {K:PySem.W.Frag} {C:Addr} {f:Str} (n:Mb K C f):PySem.W.takerIn K C f=some none:=by
 unfold PySem.W.takerIn;rw [show PySem.W.findIn K (.ref C) f=some none from n];rfl
structure Con (K:PySem.W.Frag) (C:Addr) (f:Str) (v:V) (u:Value):Prop where
 at_:PySem.W.findIn K (.ref C) f=some (some u)
 rel:wd v u
 get:PySem.W.specialIn K u "__get__"=some none
 cp:PySem.W.copiedNames.contains f=false
structure Hs (K:PySem.W.Frag) (C:Addr) (m:Str) (f:Addr):Prop where
 at_:PySem.W.findIn K (.ref C) m=some (some (.ref f))
 fn:PySem.W.isFn K (.ref f)=true
 kp:PySem.W.keepIn K (.ref f)=true
section
variable {X:Cx} {pins:List (Addr × Obj)} {σ:St} {H:Hp} {s:Shared} {a C dx:Addr} {fs:List (Str × V)} {f:Str} {v:V} {A:Around} {E:Value→Shared→Prop}
theorem Zq {b:Bool} {Q:Value→Shared→Prop} (I:Inv X pins σ H s) (e:H a=some (.ins C dx fs)) (c:Cls X.K C) (n:Mb X.K C f) (l:fs.lookup f=some v)
  (h:∀ u s',Inv X pins σ H s'→wd v u→Q u s'):wpAny (model X.prog X.w) A (getAttr (.ref a) f b) Q E s:=by
 obtain ⟨mA,O,r,_,_,_⟩:=Xv I.hok e;obtain ⟨u,hu,ru⟩:=Gs.some_of (v:=v) (o:=mA f) (by rw [← l];exact r f);exact aI I.kIn O (c.get f) c.hd n hu (OC ru) (h u _ (I.tok _) ru)
theorem vm {m:Str} {g:Addr} {pl:Sem Bool} {Q:Value × List Value→Shared→Prop} (I:Inv X pins σ H s) (e:H a=some (.ins C dx fs)) (c:Cls X.K C) (k:Hs X.K C m g) (l:fs.lookup m=none)
  (h:Q (.ref g,[.ref a]) s):wpAny (model X.prog X.w) A (getMethod (.ref a) m pl) Q E s:=by
 obtain ⟨mA,O,r,_,_,_⟩:=Xv I.hok e;have hn:mA m=none:=Gs.none_of (by rw [← l];exact r m);exact dG I.kIn O (c.get m) k.at_ k.fn hn h
theorem kr {y:V} {u:Value} {Q:Unit→Shared→Prop} (I:Inv X pins σ H s) (e:H a=some (.ins C dx fs)) (c:Cls X.K C) (n:Mb X.K C f) (hl:fs.length < 1000) (ry:wd y u)
  (h:∀ s',Inv X pins σ (upd H a (.ins C dx (Ih f y fs))) s'→Q () s'):wpAny (model X.prog X.w) A (setAttr (.ref a) f u) Q E s:=by
 obtain ⟨mA,O,r,wi,_,ho⟩:=Xv I.hok e;have hz:(fs.map (·.1)).length ≤ sizeLine:=by rw [List.length_map,sizeLine_eq];omega
 refine sI I.kIn O c.sa c.po n.taker c.hd wi hz fun h' O' sb=>h _ ?_
 have hd:∃ o,h'.get? dx=some o:=let ⟨o,_,_,e',_⟩:=O'.ns;⟨o,e'⟩;refine I.write (x:=a) (e:=dx) (by rw [e];exact True.intro) (.inr ho) (fun b q hb z=>(sb.2 b hb).trans z) hd ?_;refine ⟨by rw [wb O.ne];exact ho,?_,O.ne,O'.obj,_,O'.ns,fun g=>?_,fun g hg=>?_⟩
 ·have:=vk f y fs;omega
 ·show Gs ((Ih f y fs).lookup g) (if g=f then some u else mA g);rw [Lo];by_cases q:g=f
  ·rw [if_pos q,if_pos q];exact ry
  ·rw [if_neg q,if_neg q];exact r g
 ·by_cases q:g=f
  ·rw [q];exact (So f y fs).1
  ·refine (So f y fs).2 g (wi g fun z=>hg ?_);show (if g=f then some u else mA g)=none;rw [if_neg q];exact z
theorem Inv.made (I:Inv X pins σ H s):Inv X pins σ (upd (upd H s.heap.objs.size (.own (s.heap.objs.size + 1))) (s.heap.objs.size + 1) (.ins C s.heap.objs.size []))
  { s with heap:=(s.heap.push PySem.W.emptyDict).push (PySem.W.instObj C s.heap.objs.size) }:=by
 have e1:(s.heap.push PySem.W.emptyDict).get? s.heap.objs.size=some PySem.W.emptyDict:=Heap.get?_push_size s.heap rfl;have e2:((s.heap.push PySem.W.emptyDict).push (PySem.W.instObj C s.heap.objs.size)).get? (s.heap.objs.size + 1)=some (PySem.W.instObj C s.heap.objs.size):=by
  have:=Heap.get?_push_size (s.heap.push PySem.W.emptyDict) (o:=PySem.W.instObj C s.heap.objs.size) rfl;rwa [Heap.size_push] at this
 have e3:(s.heap.push PySem.W.emptyDict).Ns s.heap.objs.size (fun _=>none):=⟨PySem.W.emptyDict,#[],_,e1,rfl,(fun e he=>absurd he (by simp)),fun _=>rfl⟩;have I1:=I.laid (a:=s.heap.objs.size) (o:=.own (s.heap.objs.size + 1)) (h':=s.heap.push PySem.W.emptyDict) (t':=s.toks) (fun b u q=>Heap.get?_push_of_some _ q) (Nat.le_refl _) ⟨_,e1⟩;refine I1.laid (a:=s.heap.objs.size + 1) (o:=.ins C s.heap.objs.size []) (t':=s.toks) (fun b u q=>Heap.get?_push_of_some _ q) (Nat.le_of_eq (Heap.size_push _ _)) ?_;have ne:s.heap.objs.size ≠ s.heap.objs.size + 1:=Nat.ne_of_lt (Nat.lt_succ_self _);refine ⟨by rw [wb ne,db],Nat.zero_le _,ne,e2,fun _=>none,(Heap.Ns1.of_empty e3).at fun o q=>Heap.get?_push_of_some _ q,fun _=>True.intro,fun y hy=>absurd rfl hy⟩
theorem TH {prog:Program} {w:World} {env:Env} {e:Expr} {f:Str} {pos:Pos} {s:Shared} {Q:Value→Shared→Prop} (hb:attributeBase e f env (eval e env)=eval e env)
  (h:wpAny (model prog w) A (eval e env) (fun o s₁=>wpAny (model prog w) A (getAttr o f true) Q E s₁) E s):wpAny (model prog w) A (eval (.Attribute e f pos) env) Q E s:=
 Attribute_any_ h (by rw [arm_eval_Attribute,hb])
end
noncomputable def Hi (K:PySem.W.Frag) (H:Hp) (a:Addr) (f:Str) (v:V):Prop:=∃ C dx fs,H a=some (.ins C dx fs)∧Cls K C∧Mb K C f∧fs.lookup f=some v
noncomputable def WM (K:PySem.W.Frag) (ta:TE) (f:Str):TE:=fun σ H Q=>ta σ H fun x H1=>Ch x fun a=>∃ v,Hi K H1 a f v∧Q v H1
noncomputable def kN (K:PySem.W.Frag) (ta tv:TE) (f:Str):TS:=fun D σ H=>tv σ H fun y H1=>ta σ H1 fun x H2=>Ch x fun a=>∃ C dx fs,H2 a=some (.ins C dx fs)∧Cls K C∧Mb K C f∧fs.length < 1000 ∧
 D.nx σ (upd H2 a (.ins C dx (Ih f y fs)))
noncomputable def dN (X:Cx) (op:Operator) (rd:V→V→Hp→VK→Prop):Prop:=
 ∀ (pins:List (Addr × Obj)) (s:Shared) (σ:St) (H:Hp) (x y:V) (u v:Value) (Q:VK),Inv X pins σ H s→wd x u→wd y v→rd x y H Q→wpAny (model X.prog X.w) X.A (inplaceOp op u v) (EP X pins σ Q) X.xe s
noncomputable def QD (K:PySem.W.Frag) (ta tv:TE) (rd:V→V→Hp→VK→Prop) (f:Str):TS:=fun D σ H=>ta σ H fun x H1=>∃ a C dx fs v,x=.ref a∧H1 a=some (.ins C dx fs)∧Cls K C∧Mb K C f∧fs.lookup f=some v ∧
 tv σ H1 fun y H2=>rd v y H2 fun z H3=>∃ dx' fs',H3 a=some (.ins C dx' fs')∧fs'.length < 1000∧D.nx σ (upd H3 a (.ins C dx' (Ih f z fs')))
section
variable {X:Cx} {o e value:Expr} {f:Str} {pos pos' tpos:Pos} {ta tv:TE}
theorem Ub (he:PE X e ta) (hb:attributeBase e f X.env (eval e X.env)=eval e X.env):PE X (.Attribute e f pos) (WM X.K ta f):=by
 intro pins s σ H Q I h;refine TH hb (thn (he pins s σ H _ I h) fun u s1 hZ1=>?_);obtain ⟨x,H1,I1,rx,zq⟩:=hZ1;obtain ⟨a,ex,v,⟨C,dx,fs,ea,c,n,l⟩,q⟩:=Ch.out zq;subst ex;obtain rfl:u=Value.ref a:=rx;exact Zq I1 ea c n l fun u' s2 I2 ru=>⟨v,H1,I2,ru,q⟩
theorem lf (ha:PE X o ta) (hv:PE X value tv) (hs:swapsWith value (some (.Attribute o f pos')) pos.line X.env=pure false):PS X (.Assign [.Attribute o f pos'] value pos) (kN X.K ta tv f):=by
 intro pins s σ H D I h;refine plainObj_wpAny_Assign_Attribute (thn (hv pins s σ H _ I h) fun u s1 ⟨y,H1,I1,ry,q⟩=>thn (ha pins s1 σ H1 _ I1 q) fun ov s2 hZ1=>?_) hs;obtain ⟨x,H2,I2,rx,zq⟩:=hZ1;obtain ⟨a,ex,C,dx,fs,ea,c,n,l,q2⟩:=Ch.out zq;subst ex;obtain rfl:ov=Value.ref a:=rx;exact kr I2 ea c n l ry fun s3 I3=>⟨σ,_,I3,q2⟩
theorem AE {op:Operator} {rd:V→V→Hp→VK→Prop} (ha:PE X o ta) (hv:PE X value tv) (hop:dN X op rd):PS X (.AugAssign (.Attribute o f tpos) op value pos) (QD X.K ta tv rd f):=by
 intro pins s σ H D I h;refine wpAny_AugAssign_AttributeAny (thn (ha pins s σ H _ I h) fun ov s1 hZ1=>?_);obtain ⟨x,H1,I1,rx,a,C,dx,fs,v,ex,ea,c,n,l,q⟩:=hZ1;subst ex;obtain rfl:ov=Value.ref a:=rx;refine Zq I1 ea c n l fun u s2 I2 ru=>thn (hv pins s2 σ H1 _ I2 q) fun w3 s3 ⟨y,H2,I3,ry,q3⟩=>thn (hop pins s3 σ H2 v y u w3 _ I3 ru ry q3) fun w4 s4 hZ1=>?_
 obtain ⟨z,H3,I4,rz,dx',fs',ea',l',q4⟩:=hZ1;exact kr I4 ea' c n l' rz fun s5 I5=>⟨σ,_,I5,q4⟩
noncomputable def nN:V→V→Hp→VK→Prop:=fun x y H Q=>∃ i j,x=.int i∧y=.int j∧Q (.int (i + j)) H
theorem AL:dN X .Add nN:=by
 rintro pins s σ H x y u v Q I rx ry ⟨i,j,rfl,rfl,q⟩;obtain ⟨t,rfl⟩:=(show ∃ t,u=Value.int i t from rx);obtain ⟨t',rfl⟩:=(show ∃ t',v=Value.int j t' from ry);exact PyProof.Rows.iadd_int ⟨.int (i + j),H,I.tok _,⟨_,rfl⟩,q⟩
end
section
variable {X:Cx} {pins:List (Addr × Obj)} {σ:St} {H:Hp} {s:Shared} {A:Around} {E:Value→Shared→Prop} {Q:Value→Shared→Prop} {c:Value} {b:Bool}
inductive AA (K:PySem.W.Frag) (H:Hp):V→Value→Prop where
 | non:AA K H .non (.type "NoneType")
 | bl (x:Bool):AA K H (.bl x) (.type "bool")
 | int (i:Int):AA K H (.int i) (.type "int")
 | str (x:Str):AA K H (.str x) (.type "str")
 | flt (x:UInt64):AA K H (.flt x) (.type "float")
 | lst {a:Addr} {xs:List V} (e:H a=some (.lst xs)):AA K H (.ref a) (.type "list")
 | frz {a:Addr} {o:Obj} {xs:List V} (e:H a=some (.frz o (.lst xs))):AA K H (.ref a) (.type "list")
 | tup {a:Addr} {xs:List V} (e:H a=some (.tup xs)):AA K H (.ref a) (.type "tuple")
 | dK {a:Addr} {kvs:List (Key × V)} (e:H a=some (.dK kvs)):AA K H (.ref a) (.type "dict")
 | dT {a:Addr} {kvs:List (List Key × V)} (e:H a=some (.dT kvs)):AA K H (.ref a) (.type "dict")
 | ins {a C dx:Addr} {fs:List (Str × V)} (e:H a=some (.ins C dx fs)) (cl:Cls K C) (ha:PySem.W.findIn K (.ref C) "__class__"=some (some (.builtin "object.__class__")))
   (hn:PySem.W.specialIn K (.builtin "object.__class__") "__get__"=some (some (.builtin "getset_descriptor.__get__"))) (htk:PySem.W.takesIn K (.builtin "object.__class__")=some true)
   (hm:PySem.W.mroIn K C (.type "object")=some true):AA K H (.ref a) (.ref C)
end
end L2
namespace L2
open PySem PySem.Spec PyProof.Rows
structure ci (k:Nat) (A:Around):Prop where
 hd:A.handled=none
 dp:A.depth + 3 * k + 5 < recursionLimit
 un:A.units + 16 * k + 200 < cLine
theorem ci.mono {j k:Nat} {A:Around} (r:ci k A) (h:j ≤ k):ci j A:=⟨r.hd,by have:=r.dp;omega,by have:=r.un;omega⟩
theorem ci.deeper {k:Nat} {A:Around} (r:ci (k + 1) A) (env:Env):ci k (A.deeper env):=
 ⟨r.hd,by have:=r.dp;show A.depth + 1 + 3 * k + 5 < _;omega,by have:=r.un;show A.units + 3 + 16 * k + 200 < _;omega⟩
theorem ci.in1 {k:Nat} {A:Around} (r:ci (k + 1) A):ci k A.in1:=
 ⟨r.hd,by have:=r.dp;show A.depth + 3 * k + 5 < _;omega,by have:=r.un;show A.units + 1 + 16 * k + 200 < _;omega⟩
theorem Sz {A:Around} {C:Addr} {us:List Value} {kw:List (Str × Value)}:(A.under (.builtin "type.__call__" ⟨.ref C :: us,kw⟩)).depth=A.depth + 1:=by
 first | rfl | simp [Around.under,Code.weight,Code.isCreation,Code.isGuard,Code.isCaller,Code.frames,Code.isFrame,guardIds]
theorem pA {A:Around} {C:Addr} {us:List Value} {kw:List (Str × Value)}:(A.under (.builtin "type.__call__" ⟨.ref C :: us,kw⟩)).units=A.units + 1:=by
 first | rfl | simp [Around.under,Code.cUnits,Code.frames,Code.isFrame]
theorem ci.make {k:Nat} {A:Around} (r:ci (k + 1) A) (C:Addr) (us:List Value) (kw:List (Str × Value)):ci k (A.under (.builtin "type.__call__" ⟨.ref C :: us,kw⟩)):=
 ⟨r.hd,by have:=r.dp;rw [Sz];omega,by have:=r.un;rw [pA];omega⟩
theorem ci.depth {k:Nat} {A:Around} (r:ci k A):A.depth < recursionLimit:=by have:=r.dp;omega
theorem ci.units {k:Nat} {A:Around} (r:ci k A):A.units + 64 < cLine:=by have:=r.un;omega
noncomputable def OL:TA:=fun _ H Q=>Q [] H
noncomputable def SK (ta:TE) (tr:TA):TA:=fun σ H Q=>ta σ H fun x H1=>tr σ H1 fun xs H2=>Q (x :: xs) H2
section
variable {X:Cx} {e:Expr} {es:List Expr} {te:TE} {t:TA} {pos:Pos}
theorem gb:PA X [] OL:=fun _ _ _ _ H Q I h=>Calls.spliced_nil ⟨[],H,I,.nil,h⟩
theorem cb (ha:PE X e te) (hr:PA X es t) (hs:starEach (e :: es) X.env=(false,eval e X.env) :: starEach es X.env:=by rfl):PA X (e :: es) (SK te t):=by
 intro pos pins s σ H Q I h;rw [hs];show wpAny _ _ (spliced ((false,eval e X.env) :: backTo pos (starEach es X.env))) _ _ s;refine Calls.spliced_cons (thn (ha pins s σ H _ I h) fun u s1 hZ1=>?_);obtain ⟨x,H1,I1,r1,q1⟩:=hZ1;exact thn (hr pos pins s1 σ H1 _ I1 q1) fun us s2 ⟨xs,H2,I2,r2,q2⟩=>⟨x :: xs,H2,I2,.cons r1 r2,q2⟩
noncomputable def TM (t:TA):TE:=fun σ H Q=>t σ H fun xs H1=>xs.length ≤ sizeLine∧∀ p,H1 p=none→Q (.ref p) (upd H1 p (.tup xs))
noncomputable def aN (t:TA):TE:=fun σ H Q=>t σ H fun xs H1=>xs.length ≤ sizeLine∧∀ p,H1 p=none→Q (.ref p) (upd H1 p (.lst xs))
theorem Di {x1} (h:PA X es t):PE X (.Tuple es x1 pos) (TM t):=by
 intro pins s σ H Q I hq;refine wpAny_Tuple_spliced (thn (h pos pins s σ H _ I hq) fun us s1 ⟨xs,H1,I1,r,z,q⟩=>⟨by rw [← r.length];exact z,?_⟩);have hf:H1 s1.heap.objs.size=none:=I1.hok.fresh (Nat.le_refl _);refine ⟨.ref s1.heap.objs.size,upd H1 s1.heap.objs.size (.tup xs),I1.laid (t':=s1.toks) (fun b u e=>Heap.get?_push_of_some _ e) (Nat.le_refl _) ?_,rfl,q _ hf⟩;exact ⟨⟨z,_,Heap.get?_push_size _ rfl,rfl⟩,us,r,⟨_,Heap.get?_push_size _ rfl,rfl,_,rfl⟩⟩
theorem dg (h:PA X es t):PE X (.List es pos) (aN t):=by
 intro pins s σ H Q I hq;refine wpAny_List_spliced (thn (h pos pins s σ H _ I hq) fun us s1 ⟨xs,H1,I1,r,z,q⟩=>⟨by rw [← r.length];exact z,?_⟩);have hf:H1 s1.heap.objs.size=none:=I1.hok.fresh (Nat.le_refl _);refine ⟨.ref s1.heap.objs.size,upd H1 s1.heap.objs.size (.lst xs),I1.laid (t':=s1.toks) (fun b u e=>Heap.get?_push_of_some _ e) (Nat.le_refl _) ?_,rfl,q _ hf⟩;exact ⟨z,us,0,r,Heap.get?_push_size _ rfl⟩
end
noncomputable abbrev Sp:=List V→Hp→VK→XK→Prop
noncomputable abbrev CXT:=List Env→Hp→Shared→XK→Value→Shared→Prop
structure AC (P:Program) (w:World) (K:PySem.W.Frag) (mg:Str→Option Value) (base:Heap) (A:Around) (outer:List Env) (s:Shared) (H:Hp):Prop where
 frames:A.frames=some outer
 mod:Mod K mg base
 bs:∀ b o,base.get? b=some o→s.heap.get? b=some o∧H b=none
 bsz:base.objs.size ≤ s.heap.objs.size
 funs:s.heap.FunFrames base outer
 frf:∀ b ∈ frs outer,H b=none
 hok:HOk P w H s.heap
 bare:AllBare s.gens
noncomputable def CE (outer:List Env) (P:Program) (w:World) (H:Hp) (s:Shared) (Q:VK) (u:Value) (s':Shared):Prop:=
 ∃ v H',s'.os=s.os∧AllBare s'.gens∧Un (frs outer) [] H H' s.heap s'.heap∧HOk P w H' s'.heap∧wd v u∧Q v H'
noncomputable def CR (CX:CXT) (outer:List Env) (P:Program) (w:World) (H:Hp) (s:Shared) (Q:VK) (E:XK) (r:Result) (s':Shared):Prop:=
 match r with
 | .ok (.ret u)=>CE outer P w H s Q u s'
 | .ok _=>False
 | .error e=>CX outer H s E e s'
structure Eb (P:Program) (w:World) (K:PySem.W.Frag) (mg:Str→Option Value) (base:Heap) (CX:CXT) (k:Nat) (f:Addr) (fd:FuncData) (ps:List Str) (sp:Sp):Prop where
 len:∀ vs H Q E,sp vs H Q E→vs.length=ps.length
 run:∀ (A:Around) (outer:List Env) (s:Shared) (H:Hp) (args:Args) (us:List Value) (vs:List V) (Q:VK) (E:XK),ci k A→AC P w K mg base A outer s H→BindsTo s fd args (ps.zip us)→Pc vs us→sp vs H Q E →
  codeAny (model P w) A (.call (.ref f) args) (CR CX outer P w H s Q E) s
theorem Eb.mono {P:Program} {w:World} {K:PySem.W.Frag} {mg:Str→Option Value} {base:Heap} {CX:CXT} {j k:Nat} {f:Addr} {fd:FuncData} {ps:List Str} {sp:Sp} (F:Eb P w K mg base CX j f fd ps sp) (h:j ≤ k) :
  Eb P w K mg base CX k f fd ps sp:=⟨F.len,fun A outer s H args us vs Q E hr=>F.run A outer s H args us vs Q E (hr.mono h)⟩
theorem Eb.imp {P:Program} {w:World} {K:PySem.W.Frag} {mg:Str→Option Value} {base:Heap} {CX:CXT} {k:Nat} {f:Addr} {fd:FuncData} {ps:List Str} {sp sp':Sp} (F:Eb P w K mg base CX k f fd ps sp)
  (h:∀ vs H Q E,sp' vs H Q E→sp vs H Q E):Eb P w K mg base CX k f fd ps sp':=
 ⟨fun vs H Q E q=>F.len vs H Q E (h _ _ _ _ q),fun A outer s H args us vs Q E hr he hb hv hs=>F.run A outer s H args us vs Q E hr he hb hv (h _ _ _ _ hs)⟩
theorem AC.make {P:Program} {w:World} {K:PySem.W.Frag} {mg:Str→Option Value} {base:Heap} {A:Around} {outer:List Env} {s:Shared} {H:Hp} (e:AC P w K mg base A outer s H) (C:Addr) (us:List Value) (kw:List (Str × Value)) :
  AC P w K mg base (A.under (.builtin "type.__call__" ⟨.ref C :: us,kw⟩)) outer s H:=⟨by first | exact e.frames | (simpa [Around.under,Code.envs,Code.isFrame,pushEnvs] using e.frames),e.mod,e.bs,e.bsz,e.funs,e.frf,e.hok,e.bare⟩
theorem AC.in1 {P:Program} {w:World} {K:PySem.W.Frag} {mg:Str→Option Value} {base:Heap} {A:Around} {outer:List Env} {s:Shared} {H:Hp} (e:AC P w K mg base A outer s H) :
  AC P w K mg base A.in1 outer s H:=⟨e.frames,e.mod,e.bs,e.bsz,e.funs,e.frf,e.hok,e.bare⟩
section
variable {X:Cx} {pins:List (Addr × Obj)} {σ:St} {H:Hp} {s s':Shared}
theorem Inv.env0 (I:Inv X pins σ H s):AC X.prog X.w X.K X.mg X.base X.A X.stack s H:=
 ⟨I.ok.frames,I.ok.mod,I.bs,Nat.le_trans I.ok.bsz I.sz,I.stack,I.stkFree,I.hok,I.bare⟩
theorem Inv.after {Q:VK} {u:Value} (I:Inv X pins σ H s) (h:CE X.stack X.prog X.w H s Q u s'):EP X pins σ Q u s':=by
 obtain ⟨v,H',os,bare,un,hok,r,q⟩:=h;obtain ⟨hh,g,d,t,os'⟩:=s';obtain rfl:os'=s.os:=os;exact ⟨v,H',I.call (h':=hh) (g':=g) (d':=d) (t':=t) (ch:=[]) un hok bare (fun b z=>absurd z (by simp)),r,q⟩
end
noncomputable def BF (sp:Sp) (dvs:List V) (E:XK) (t:TA):TE:=fun σ H Q=>t σ H fun vs H1=>sp (vs ++ dvs) H1 Q E
noncomputable def AI (C:Addr) (m:Str) (sp:Sp) (dvs:List V) (E:XK) (ta:TE) (t:TA):TE:=fun σ H Q=>ta σ H fun x H1=>Ch x fun a=>∃ dx fs,H1 a=some (.ins C dx fs)∧fs.lookup m=none ∧
 t σ H1 fun vs H2=>sp (x :: (vs ++ dvs)) H2 Q E
noncomputable def KJ (C:Addr) (sp:Sp) (dvs:List V) (E:XK) (t:TA):TE:=fun σ H Q=>t σ H fun vs H1=>∀ x dx,H1 x=none→H1 dx=none→dx ≠ x →
 sp (.ref x :: (vs ++ dvs)) (upd (upd H1 dx (.own x)) x (.ins C dx [])) (fun v H2=>v=.non∧Q (.ref x) H2) E
noncomputable def Lb (K:PySem.W.Frag) (fd:FuncData) (ps:List Str) (ds:List Value):Prop:=
 ∀ (s:Shared) (us:List Value),K.In s.heap→(us ++ ds).length=ps.length→BindsTo s fd ⟨us,[]⟩ (ps.zip (us ++ ds))
theorem Lb.all {K:PySem.W.Frag} {fd:FuncData} {ps:List Str} (h:∀ us:List Value,us.length=ps.length→bindArgs fd ⟨us,[]⟩=pure (ps.zip us)):Lb K fd ps []:=fun s us _ hl=>by
 rw [List.append_nil] at hl ⊢;exact .of_eq (h us hl)
noncomputable def Dl (CX:CXT) (X:Cx) (E:XK):Prop:=∀ (pins:List (Addr × Obj)) (σ:St) (H:Hp) (s:Shared) (e:Value) (s':Shared),Inv X pins σ H s→CX X.stack H s E e s'→X.xe e s'
section
variable {X:Cx} {CX:CXT} {k:Nat} {f C:Addr} {fd:FuncData} {ps:List Str} {sp:Sp} {dvs:List V} {ds:List Value} {E:XK} {x m:Str} {p pos apos:Pos} {e o:Expr} {es:List Expr} {ta:TE} {t:TA}
theorem mv {pins:List (Addr × Obj)} {σ:St} {H:Hp} {s:Shared} {Q:VK} {us:List Value} {vs:List V} (F:Eb X.prog X.w X.K X.mg X.base CX k f fd ps sp) (hr:ci k X.A) (hb:Lb X.K fd ps ds) (hd:Pc dvs ds) (hx:Dl CX X E)
  (I:Inv X pins σ H s) (r:Pc vs us) (h:sp (vs ++ dvs) H Q E):wpAny (model X.prog X.w) X.A (call (.ref f) us) (EP X pins σ Q) X.xe s:=by
 have r2:Pc (vs ++ dvs) (us ++ ds):=r.append hd;have hl:(us ++ ds).length=ps.length:=by rw [← r2.length];exact F.len _ _ _ _ h
 refine wpAny_call (codeAny_mono (F.run X.A X.stack s H ⟨us,[]⟩ (us ++ ds) (vs ++ dvs) Q E hr I.env0 (hb s us I.kIn hl) r2 h) fun r s' hq=>?_);cases r with
 | error e=>exact hx pins σ H s e s' I hq
 | ok fl=>
  cases fl with
  | ret u=>exact I.after hq
  | next=>exact False.elim hq
  | brk=>exact False.elim hq
  | cont=>exact False.elim hq
theorem RH (F:Eb X.prog X.w X.K X.mg X.base CX k f fd ps sp) (hr:ci k X.A) (hg:Gl X x) (hm:X.mg x=some (.ref f)) (hk:PySem.W.keepIn X.K (.ref f)=true) (hb:Lb X.K fd ps ds) (hd:Pc dvs ds) (hx:Dl CX X E)
  (ha:PA X (e :: es) t) (hdb:(x == ("__debug__" : Str))=false:=by decide) (he:starEach (e :: es) X.env=(false,eval e X.env) :: starEach es X.env:=by rfl) (hpl:(backTo pos (starEach es X.env)).any (·.1)=false:=by rfl) :
  PE X (.Call (.Name x p) (e :: es) [] pos) (BF sp dvs E t):=by
 intro pins s σ H Q I h;refine wpAny_Call_Name_kw (nk I hg hm ?_ hdb);refine PySem.W.callWith_K (h₀:=X.base) I.ok.mod.kin hk (thn (ha pos pins s σ H _ I h) fun us s1 ⟨vs,H1,I1,r,q⟩=>⟨I1.kIn,?_⟩) he hpl;exact mv F hr hb hd hx I1 r q
theorem qd {pl:Sem Bool} (he:PE X o ta) (c:Cls X.K C) (hm:Hs X.K C m f) (F:Eb X.prog X.w X.K X.mg X.base CX k f fd ps sp) (hr:ci k X.A) (hb:Lb X.K fd ps ds) (hd:Pc dvs ds) (hx:Dl CX X E) (ha:PA X (e :: es) t)
  (hst:starEach (e :: es) X.env=(false,eval e X.env) :: starEach es X.env:=by rfl) (hpl:(backTo pos (starEach es X.env)).any (·.1)=false:=by rfl)
  (ht:eval (.Call (.Attribute o m apos) (e :: es) [] pos) X.env=(do
   let ov ← eval o X.env
   standAt apos.atName
   let (f,first) ← holding [ov] (getMethod ov m pl)
   callWith pos f first (backTo pos (starEach (e :: es) X.env)) (backToKw pos (keywordEach [] X.env))):=by rfl) :
  PE X (.Call (.Attribute o m apos) (e :: es) [] pos) (AI C m sp dvs E ta t):=by
 intro pins s σ H Q I h;refine PySem.W.methodCall_KW (pl:=pl) (thn (he pins s σ H _ I h) fun u s1 hZ1=>?_) ht;obtain ⟨x,H1,I1,rx,zq⟩:=hZ1;obtain ⟨a,ex,dx,fs,ea,l,q⟩:=Ch.out zq;subst ex;obtain rfl:u=Value.ref a:=rx;refine vm I1 ea c hm l ?_;refine PySem.W.callWith_K (first:=[.ref a]) (h₀:=X.base) I.ok.mod.kin hm.kp (thn (ha pos pins s1 σ H1 _ I1 q) fun us s2 ⟨vs,H2,I2,r,q2⟩=>⟨I2.kIn,?_⟩) hst hpl;exact mv (us:=.ref a :: us) (vs:=.ref a :: vs) F hr hb hd hx I2 (.cons rfl r) q2
theorem Je {pl:Sem Bool} (he:PE X o ta) (c:Cls X.K C) (hm:Hs X.K C m f) (F:Eb X.prog X.w X.K X.mg X.base CX k f fd ps sp) (hr:ci k X.A) (hb:Lb X.K fd ps ds) (hd:Pc dvs ds) (hx:Dl CX X E)
  (ht:eval (.Call (.Attribute o m apos) [] [] pos) X.env=(do
   let ov ← eval o X.env
   standAt apos.atName
   let (f,first) ← holding [ov] (getMethod ov m pl)
   callWith pos f first (backTo pos (starEach [] X.env)) (backToKw pos (keywordEach [] X.env))):=by rfl) :
  PE X (.Call (.Attribute o m apos) [] [] pos) (AI C m sp dvs E ta OL):=by
 intro pins s σ H Q I h;refine PySem.W.methodCall_KW (pl:=pl) (thn (he pins s σ H _ I h) fun u s1 hZ1=>?_) ht;obtain ⟨x,H1,I1,rx,zq⟩:=hZ1;obtain ⟨a,ex,dx,fs,ea,l,q⟩:=Ch.out zq;subst ex;obtain rfl:u=Value.ref a:=rx;refine vm I1 ea c hm l ?_;exact PySem.W.callWith_K0 (first:=[.ref a]) I1.kIn hm.kp (mv (us:=[.ref a]) (vs:=[.ref a]) F hr hb hd hx I1 (.cons rfl .nil) q)
structure Mk (K:PySem.W.Frag) (C f:Addr):Prop where
 makes:PySem.W.makesIn K C=true
 init:PySem.W.findIn K (.ref C) "__init__"=some (some (.ref f))
 fn:PySem.W.isFn K (.ref f)=true
 kp:PySem.W.keepIn K (.ref C)=true
theorem hG {pins:List (Addr × Obj)} {σ:St} {H:Hp} {s:Shared} {Q:VK} {us:List Value} {vs:List V} (M:Mk X.K C f) (F:Eb X.prog X.w X.K X.mg X.base CX k f fd ps sp) (hr:ci (k + 1) X.A) (hb:Lb X.K fd ps ds) (hd:Pc dvs ds)
  (hx:Dl CX X E) (I:Inv X pins σ H s) (r:Pc vs us)
  (h:∀ x dx,H x=none→H dx=none→dx ≠ x→sp (.ref x :: (vs ++ dvs)) (upd (upd H dx (.own x)) x (.ins C dx [])) (fun v H2=>v=.non∧Q (.ref x) H2) E) :
  wpAny (model X.prog X.w) X.A (call (.ref C) us) (EP X pins σ Q) X.xe s:=by
 have hq:=h (s.heap.objs.size + 1) s.heap.objs.size (I.hok.fresh (Nat.le_succ _)) (I.hok.fresh (Nat.le_refl _)) (Nat.ne_of_lt (Nat.lt_succ_self _));have I2:=Inv.made (C:=C) I;have r2:Pc (V.ref (s.heap.objs.size + 1) :: (vs ++ dvs)) (Value.ref (s.heap.objs.size + 1) :: (us ++ ds)):=.cons rfl (r.append hd);have hl:(Value.ref (s.heap.objs.size + 1) :: us ++ ds).length=ps.length:=by
  have e:=r2.length;rw [F.len _ _ _ _ hq] at e;exact e.symm
 refine wpAny_call (mG (f:=f) I.kIn M.makes M.init (beq_iff_eq.mp M.fn) (codeAny_mono (F.run _ X.stack _ _ ⟨Value.ref (s.heap.objs.size + 1) :: us,[]⟩ (Value.ref (s.heap.objs.size + 1) :: (us ++ ds)) _ _ E (hr.make C us [])
  (I2.env0.make C us []) (hb _ (Value.ref (s.heap.objs.size + 1) :: us) I2.kIn hl) r2 hq) fun r s' hq'=>?_))
 cases r with
 | error e=>exact hx pins σ _ _ e s' I2 hq'
 | ok fl=>
  cases fl with
  | ret u=>
   obtain ⟨v,H',I3,rv,ev,q3⟩:=I2.after hq';subst ev;exact ⟨rv,⟨V.ref (s.heap.objs.size + 1),H',I3,rfl,q3⟩⟩
  | next=>exact False.elim hq'
  | brk=>exact False.elim hq'
  | cont=>exact False.elim hq'
theorem cm (M:Mk X.K C f) (F:Eb X.prog X.w X.K X.mg X.base CX k f fd ps sp) (hr:ci (k + 1) X.A) (hg:Gl X x) (hm:X.mg x=some (.ref C)) (hb:Lb X.K fd ps ds) (hd:Pc dvs ds) (hx:Dl CX X E)
  (ha:PA X (e :: es) t) (hdb:(x == ("__debug__" : Str))=false:=by decide) (he:starEach (e :: es) X.env=(false,eval e X.env) :: starEach es X.env:=by rfl) (hpl:(backTo pos (starEach es X.env)).any (·.1)=false:=by rfl) :
  PE X (.Call (.Name x p) (e :: es) [] pos) (KJ C sp dvs E t):=by
 intro pins s σ H Q I h;refine wpAny_Call_Name_kw (nk I hg hm ?_ hdb);refine PySem.W.callWith_K (h₀:=X.base) I.ok.mod.kin M.kp (thn (ha pos pins s σ H _ I h) fun us s1 ⟨vs,H1,I1,r,q⟩=>⟨I1.kIn,?_⟩) he hpl;exact hG M F hr hb hd hx I1 r q
end
section
variable {X:Cx} {CX:CXT} {k:Nat} {f C:Addr} {fd:FuncData} {ps ks:List Str} {sp:Sp} {E:XK} {x m:Str} {p pos apos kpos:Pos} {e o:Expr} {es:List Expr} {kws:List Keyword} {te ta:TE} {t tk:TA} {nm:Option Str}
structure PM (K:PySem.W.Frag) (fd:FuncData) (ps ks:List Str) (g:List Value→List Value→List Value) (gV:List V→List V→List V):Prop where
 to:∀ (s:Shared) (us ws:List Value),K.In s.heap→(g us ws).length=ps.length→BindsTo s fd ⟨us,ks.zip ws⟩ (ps.zip (g us ws))
 rel:∀ {vs:List V} {us:List Value} {zs:List V} {ws:List Value},Pc vs us→Pc zs ws→Pc (gV vs zs) (g us ws)
variable {g:List Value→List Value→List Value} {gV:List V→List V→List V}
end
structure xb (N P:List Str) (sc:Scope):Prop where
 kind:sc.kind=.function
 co:sc.isCoroutine=false
 gen:sc.isGenerator=false
 nd:N.Nodup
 pre:N.take P.length=P
 par:∀ x ∈ P,sc.names.lookup x=some .local∨sc.names.lookup x=some .cell
 nofree:∀ y ∈ sc.names,y.2 ≠ .free
theorem Du {kindOf:Str→Option NameKind} {x:Str}:∀ {binds:List (Str × Value)} {m:Str→Option Value},(∀ v,(x,v) ∉ binds)→bindL kindOf binds m x=m x
 | [],_,_=>rfl
 | (n,v) :: r,m,h=>by
  unfold bindL;rw [Du fun w hw=>h w (List.mem_cons_of_mem _ hw)];split
  ·have:x ≠ n:=by rintro rfl;exact h v List.mem_cons_self
   simp [this]
  ·rfl
theorem Bv {kindOf:Str→Option NameKind} {x:Str}:∀ {binds:List (Str × Value)} {m:Str→Option Value},(∀ v,(x,v) ∉ binds)→bindC kindOf binds m x=m x
 | [],_,_=>rfl
 | (n,v) :: r,m,h=>by
  unfold bindC;rw [Bv fun w hw=>h w (List.mem_cons_of_mem _ hw)];split
  ·rfl
  ·have:x ≠ n:=by rintro rfl;exact h v List.mem_cons_self
   simp [this]
theorem nu {kindOf:Str→Option NameKind} {x:Str} {v:Value}:∀ {P:List Str} {vs:List Value} {i:Nat} {m:Str→Option Value},P.Nodup→P[i]? = some x→vs[i]? = some v→kindOf x=some .local →
  bindL kindOf (P.zip vs) m x=some v
 | [],_,_,_,_,h,_,_=>by simp at h
 | _ :: _,[],_,_,_,_,h,_=>by simp at h
 | p :: P,w :: vs,0,m,nd,h1,h2,hk=>by
  simp at h1 h2;subst h1;subst h2;show bindL kindOf ((p,w) :: P.zip vs) m p=_;unfold bindL;rw [Du fun v hv=>(List.nodup_cons.mp nd).1 (List.of_mem_zip hv).1,if_pos hk];simp
 | p :: P,w :: vs,i + 1,m,nd,h1,h2,hk=>by
  show bindL kindOf ((p,w) :: P.zip vs) m x=_;unfold bindL;exact nu (i:=i) (List.nodup_cons.mp nd).2 (by simpa using h1) (by simpa using h2) hk
theorem gu {kindOf:Str→Option NameKind} {x:Str} {v:Value}:∀ {P:List Str} {vs:List Value} {i:Nat} {m:Str→Option Value},P.Nodup→P[i]? = some x→vs[i]? = some v→kindOf x ≠ some .local →
  bindC kindOf (P.zip vs) m x=some v
 | [],_,_,_,_,h,_,_=>by simp at h
 | _ :: _,[],_,_,_,_,h,_=>by simp at h
 | p :: P,w :: vs,0,m,nd,h1,h2,hk=>by
  simp at h1 h2;subst h1;subst h2;show bindC kindOf ((p,w) :: P.zip vs) m p=_;unfold bindC;rw [Bv fun v hv=>(List.nodup_cons.mp nd).1 (List.of_mem_zip hv).1,if_neg hk];simp
 | p :: P,w :: vs,i + 1,m,nd,h1,h2,hk=>by
  show bindC kindOf ((p,w) :: P.zip vs) m x=_;unfold bindC;exact gu (i:=i) (List.nodup_cons.mp nd).2 (by simpa using h1) (by simpa using h2) hk
noncomputable def start (N:List Str) (vs:List V):St:=vs.map some ++ List.replicate (N.length - vs.length) none
noncomputable def lD (CX:CXT) (P:Program) (w:World) (K:PySem.W.Frag) (mg:Str→Option Value) (base:Heap) (N:List Str) (qual:Str) (scope:Scope) (f:Addr) (cd:Value) (A:Around) (outer:List Env) (s:Shared) (H:Hp) (E:XK):Cx where
 prog:=P
 w:=w
 K:=K
 mg:=mg
 base:=base
 A:=A.deeper (envOfC qual scope s.heap.objs.size f cd)
 N:=N
 s₀:=s
 H₀:=H
 env:=envOfC qual scope s.heap.objs.size f cd
 outer:=outer
 stack:=envOfC qual scope s.heap.objs.size f cd :: outer
 ex:=[]
 calm:=true
 fn:=fun _=>true
 pn:=[]
 xe:=fun e s'=>wpAny (model P w) (A.deeper (envOfC qual scope s.heap.objs.size f cd)) (leaving (envOfC qual scope s.heap.objs.size f cd) e) (fun _ s''=>CX outer H s E e s'') (fun e' s''=>CX outer H s E e' s'') s'
theorem Rx {sc:Scope} {n:Nat} {x:Str} (h:sc.names.lookup x=some .cell):∃ c,(cellsFrom n sc.names []).lookup x=some c:=by
 have q:=PySem.W.cellsFrom_some sc.names n [] (.inl h);exact Option.isSome_iff_exists.mp q
theorem ID {CX:CXT} {P:Program} {w:World} {K:PySem.W.Frag} {mg:Str→Option Value} {base:Heap} {N ps:List Str} {qual:Str} {scope:Scope} {f:Addr} {cd:Value} {A:Around} {outer:List Env} {s s1:Shared} {H:Hp} {E:XK} {us:List Value} {vs:List V}
  (S:xb N ps scope) (hd:A.handled=none) (e0:AC P w K mg base A outer s H) (hl:vs.length=ps.length) (r:Pc vs us)
  (x:InCallC s s.heap.objs.size (bindL (envOfC qual scope s.heap.objs.size f cd).kindOf (ps.zip us) fun _=>none) (cellsFrom (s.heap.objs.size + 1) scope.names []) (bindC (envOfC qual scope s.heap.objs.size f cd).kindOf (ps.zip us) fun _=>none) s1) :
  Inv (lD CX P w K mg base N qual scope f cd A outer s H E) [] (start N vs) H s1:=by
 have hpl:ps.length ≤ N.length:=by have:=congrArg List.length S.pre;rw [List.length_take] at this;omega
 obtain ⟨h1,tk,rfl,hk⟩:=x.done;have noA:∀ b:Addr,b ∉ (lD CX P w K mg base N qual scope f cd A outer s H E).ex:=fun b z=>absurd (show b ∈ ([]:List Addr) from z) (by simp)
 refine ⟨⟨e0.mod,S.kind,rfl,rfl,Nat.le_refl _,fun y z c h1 h2=>?_,fun y hy=>?_,fun y c _ h=>?_,fun _=>hd,Around.frames_deeper e0.frames,.inr ⟨rfl,rfl⟩,fun b z=>absurd z (noA b),e0.bs,e0.bsz,fun b _ _=>noA b,fun b z=>absurd z (noA b),e0.funs,e0.frf⟩,
  rfl,e0.bare,Un.kept hk,⟨_,x.toInCall.ns,fun i y v h1 h2 h3=>?_⟩,fun y c h=>⟨_,x.cell y c h⟩,e0.hok.fresh (Nat.le_refl _),fun y c h=>?_,fun p hp=>absurd (show p ∈ ([]:List (Addr × Obj)) from hp) (by simp),e0.hok.kept hk,?_⟩
 ·exact name_of_addr x.apart (PySem.mem_of_lookup h1) (PySem.mem_of_lookup h2)
 ·have hy:scope.names.lookup y=some .cell∨scope.names.lookup y=some .free:=hy;rcases hy with hy | hy
  ·exact Rx hy
  ·exact absurd rfl (S.nofree _ (PySem.mem_of_lookup hy))
 ·exact Nat.le_of_lt (x.above y c (PySem.mem_of_lookup h))
 ·have hi:i < vs.length:=by
   unfold start at h2;by_cases hi:i < vs.length
   ·exact hi
   ·rw [List.getElem?_append_right (by simpa using hi)] at h2;rw [List.getElem?_replicate] at h2;split at h2 <;> cases h2
  have ha:vs[i]? = some v:=by
   unfold start at h2;rw [List.getElem?_append_left (by simpa using hi),List.getElem?_map] at h2;cases e:vs[i]? with
   | none=>rw [e] at h2;cases h2
   | some a=>rw [e] at h2;cases h2;rfl
  obtain ⟨u,hu,rv⟩:=r.get ha;have hp:ps[i]? = some y:=by
   rw [← S.pre,List.getElem?_take_of_lt (by omega)];exact h1
  have ndP:ps.Nodup:=by rw [← S.pre];exact S.nd.sublist (List.take_sublist _ _)
  refine ⟨u,rv,?_⟩;rcases S.par y (List.mem_of_getElem? hp) with k | k
  ·exact .inl ⟨k,nu ndP hp hu k⟩
  ·obtain ⟨c,e⟩:=Rx (n:=s.heap.objs.size + 1) k;refine .inr ⟨.inl k,c,e,?_⟩;have q:=x.cell y c e;rw [gu ndP hp hu (by show scope.names.lookup y ≠ _;rw [k];decide)] at q;exact q
 ·exact e0.hok.fresh (Nat.le_of_lt (x.above y c (PySem.mem_of_lookup h)))
 ·unfold start;show _=N.length;rw [List.length_append,List.length_map,List.length_replicate];omega
theorem eL {CX:CXT} {P:Program} {w:World} {K:PySem.W.Frag} {mg:Str→Option Value} {base:Heap} {k:Nat} {f:Addr} {name qual:Str} {params:Arguments} {body:List Stmt} {scope:Scope} {dV kV doc pm cdv ct oc:Value} {an od:Option Addr}
  {osl:Array (Option Value)} {N ps:List Str} {sp:Sp} (lk:K.lookup f=some ⟨oc,od,.func (PySem.W.fnOf name qual params body scope dV kV doc pm an cdv ct),osl⟩) (hcd:PySem.W.codeIn K cdv qual=true) (S:xb N ps scope)
  (len:∀ vs H Q E,sp vs H Q E→vs.length=ps.length)
  (hbody:∀ (A:Around) (outer:List Env) (s:Shared) (H:Hp) (vs:List V) (Q:VK) (E:XK),ci k (A.deeper (envOfC qual scope s.heap.objs.size f cdv))→sp vs H Q E →
   ∃ t,PSs (lD CX P w K mg base N qual scope f cdv A outer s H E) body t∧t { nx:=fun _ H'=>Q .non H',rt:=Q } (start N vs) H) :
  Eb P w K mg base CX (k + 1) f (PySem.W.fnOf name qual params body scope dV kV doc pm an cdv ct) ps sp:=by
 refine ⟨len,fun A outer s H args us vs Q E hr e0 hb r hsp=>?_⟩;have hl:=len _ _ _ _ hsp;have KX:K.In s.heap:=e0.mod.kin.keeps fun b o e=>(e0.bs b o e).1
 have lim:s.heap.NoLimit:=e0.mod.nolimit.keeps fun b o e=>(e0.bs b o e).1
 have hkind:∀ y ∈ ps.zip us,scope.names.lookup y.1=some .local∨(scope.names.lookup y.1=some .cell∧((cellsFrom (s.heap.objs.size + 1) scope.names []).lookup y.1).isSome=true):=fun ⟨n,v⟩ hy=>by
  rcases S.par n (List.of_mem_zip hy).1 with q | q
  ·exact .inl q
  ·exact .inr ⟨q,PySem.W.cellsFrom_some _ _ _ (.inl q)⟩
 refine codeAny_call_function hr.depth (KX _ _ lk) rfl S.co S.gen rfl (PySem.W.codeRec_of KX hcd) (hb _ _ _ _ ?_);refine wpAny_newFunctionEnv_cells S.kind hkind fun env he s1 x=>?_
 subst he;refine ⟨lim.keeps x.toInCall.keep,codeAny_func ?_⟩;obtain ⟨t,ht,hq⟩:=hbody A outer s H vs Q E (hr.deeper _) hsp;have I:Inv (lD CX P w K mg base N qual scope f cdv A outer s H E) [] (start N vs) H s1:=ID S hr.hd e0 hl r x;refine wpAny_mono (ht [] s1 (start N vs) H _ I hq) (fun fl s' hs=>?_) fun e s' hs=>hs
 have fin:∀ {σ':St} {H':Hp} {v:V} {u:Value},Inv (lD CX P w K mg base N qual scope f cdv A outer s H E) [] σ' H' s'→wd v u→Q v H'→CE outer P w H s Q u s':=
  fun {σ' H' v u} J rv q=>⟨v,H',J.os,J.bare,J.base,J.hok,rv,q⟩
 cases fl with
 | ret u=>
  obtain ⟨v,σ',H',J,rv,q⟩:=hs;exact fin J rv q
 | next=>
  obtain ⟨σ',H',J,q⟩:=hs;exact fin (v:=V.non) (u:=Value.none) J rfl q
 | brk=>
  obtain ⟨_,_,_,q⟩:=hs;exact False.elim q
 | cont=>
  obtain ⟨_,_,_,q⟩:=hs;exact False.elim q
end L2
namespace L2
open PySem PySem.Spec PyProof.Rows
section
variable {X:Cx} {x:Str} {p pos:Pos} {e:Expr} {es:List Expr} {t:TA} {id T:String} {r:List V→Hp→VK→Prop}
noncomputable def tCB (r:List V→Hp→VK→Prop) (t:TA):TE:=fun σ H Q=>t σ H fun vs H1=>r vs H1 Q
theorem Pb (hc:Ni X (.builtin id) r) (hg:Gl X x) (hm:X.mg x=none) (hv:bootBuiltins x=some (.builtin id)) (ha:PA X (e :: es) t) (hn:x ≠ "__name__" := by decide) (hdb:(x == ("__debug__" : Str))=false:=by decide)
  (he:starEach (e :: es) X.env=(false,eval e X.env) :: starEach es X.env:=by rfl) (hpl:(backTo pos (starEach es X.env)).any (·.1)=false:=by rfl):PE X (.Call (.Name x p) (e :: es) [] pos) (tCB r t):=by
 intro pins s σ H Q I h;refine wpAny_Call_Name_kw (Uj I hg hm hv ?_ hn hdb);exact PyProof.Rows.callWith_builtin1 (thn (ha pos pins s σ H _ I h) fun us s1 ⟨vs,H1,I1,r1,q1⟩=>hc pins s1 σ H1 vs us Q I1 r1 q1) he hpl
theorem Nd (hc:Ni X (.type T) r) (hg:Gl X x) (hm:X.mg x=none) (hv:bootBuiltins x=some (.type T)) (ha:PA X (e :: es) t) (hn:x ≠ "__name__" := by decide) (hdb:(x == ("__debug__" : Str))=false:=by decide)
  (he:starEach (e :: es) X.env=(false,eval e X.env) :: starEach es X.env:=by rfl) (hpl:(backTo pos (starEach es X.env)).any (·.1)=false:=by rfl):PE X (.Call (.Name x p) (e :: es) [] pos) (tCB r t):=by
 intro pins s σ H Q I h;refine wpAny_Call_Name_kw (Uj I hg hm hv ?_ hn hdb);exact PyProof.Rows.callWith_type1 (thn (ha pos pins s σ H _ I h) fun us s1 ⟨vs,H1,I1,r1,q1⟩=>hc pins s1 σ H1 vs us Q I1 r1 q1) he hpl
end
end L2
namespace HT
open PySem PyProof.Rows
noncomputable def lexLt:List Int→List Int→Bool
 | [],[]=>false
 | [],_ :: _=>true
 | _ :: _,[]=>false
 | x :: xs,y :: ys=>if x=y then lexLt xs ys else decide (x < y)
theorem lexLt_cons (x y:Int) (xs ys:List Int):lexLt (x :: xs) (y :: ys)=if x=y then lexLt xs ys else decide (x < y):=rfl
theorem lexLt_nil_nil:lexLt [] []=false:=rfl
theorem Pq (y:Int) (ys:List Int):lexLt [] (y :: ys)=true:=rfl
theorem xq (x:Int) (xs:List Int):lexLt (x :: xs) []=false:=rfl
theorem aG (A:Around) (s:Shared) (a:Int) (t:Tok) (c:Int) (u:Tok):∃ e,SeqAt.EqAt A s (.int a t) (.int c u) e∧(e=true↔a=c):=
 ⟨(a == c),SeqAt.EqAt.int_int a t c u,by simp⟩
section
open PySem.SeqAt
open PySem.AutoSeq1 (wpAny_loadPart')
open PySem.MeetsSeq PySem.MeetsSeq2 PySem.MeetsSeq3
end
section
variable {prog:Program} {w:World} {A:Around} {E:Value→Shared→Prop} {s:Shared}
noncomputable def sIx (n d:Nat):Option Int→Nat
 | none=>d
 | some v=>if v < 0 then (v + (n:Int)).toNat else min v.toNat n
theorem sIx_none (n d:Nat):sIx n d none=d:=rfl
theorem sIx_nat (n d k:Nat):sIx n d (some (k:Int))=min k n:=by
 show (if (k:Int) < 0 then ((k:Int) + (n:Int)).toNat else min (k:Int).toNat n)=min k n;rw [if_neg (by omega),Int.toNat_natCast]
end
end HT
namespace L2
open PySem PySem.Spec PyProof.Rows
noncomputable abbrev TO:=St→Hp→(Option Int→Hp→Prop)→Prop
noncomputable def PO (X:Cx) (e:Option Expr) (t:TO):Prop:=
 ∀ (pins:List (Addr × Obj)) (s:Shared) (σ:St) (H:Hp) (Q:Option Int→Hp→Prop),Inv X pins σ H s→t σ H Q →
  wpAny (model X.prog X.w) X.A (evalPart e X.env) (fun u s'=>∃ o H',Inv X pins σ H' s'∧IsPart u o∧Q o H') X.xe s
noncomputable def kE:TO:=fun _ H Q=>Q none H
noncomputable def rL (t:TE):TO:=fun σ H Q=>t σ H fun x H1=>Gi x fun i=>Q (some i) H1
theorem Ar {ns:List Int}:∀ {us:List Value},Pc (ns.map V.int) us→IntsAre us ns:=by
 induction ns with
 | nil=>intro us r;rw [List.map_nil] at r;cases r;exact .nil
 | cons n ns ih=>
  intro us r;rw [List.map_cons] at r;cases r with
  | cons r1 r2=>
   obtain ⟨t,e⟩:=r1;subst e;exact .cons n t (ih r2)
section
variable {X:Cx} {e:Expr} {te:TE} {lo hi:Option Expr} {tl th:TO} {pos p2:Pos}
theorem MD:PO X none kE:=by
 intro pins s σ H Q I h;rw [evalPart_none];exact wpAny_pure ⟨none,H,I,.none,h⟩
theorem nD (h:PE X e te):PO X (some e) (rL te):=by
 intro pins s σ H Q I hw;rw [evalPart_some];refine thn (h pins s σ H _ I hw) fun u s1 hZ1=>?_
 obtain ⟨x,H1,I1,r1,q1⟩:=hZ1;obtain ⟨i,rfl,q⟩:=Gi.out q1;obtain ⟨t,rfl⟩:=r1;exact ⟨some i,H1,I1,.int i t,q⟩
noncomputable def SlR (X:Cx) (r:V→Option Int→Option Int→Hp→VK→Prop):Prop:=
 ∀ (pins:List (Addr × Obj)) (s:Shared) (σ:St) (H:Hp) (x:V) (v vl vu:Value) (lo hi:Option Int) (sl:Addr) (Q:VK),Inv X pins σ H s→wd x v→s.heap.IsSliceOf sl vl vu .none→IsPart vl lo→IsPart vu hi→r x lo hi H Q →
  ∃ T id,typeLookup (.type T) "__getitem__"=pure (some (.builtin id))∧s.TypeIs v T∧wpAny (model X.prog X.w) X.A (getItem v (.ref sl)) (EP X pins σ Q) X.xe s
noncomputable def tSl (r:V→Option Int→Option Int→Hp→VK→Prop) (te:TE) (tl th:TO):TE:=fun σ H Q=>te σ H fun x H1=>tl σ H1 fun l H2=>th σ H2 fun u H3=>r x l u H3 Q
theorem Py {r:V→Option Int→Option Int→Hp→VK→Prop} (hr:SlR X r) (he:PE X e te) (hl:PO X lo tl) (hu:PO X hi th):PE X (.Subscript e (.Slice lo hi none p2) pos) (tSl r te tl th):=by
 intro pins s σ H Q I h;refine Subscript_ (thn (he pins s σ H _ I h) fun v s1 hZ1=>?_);obtain ⟨x,H1,I1,r1,q1⟩:=hZ1;refine wpAny_Slice (thn (hl pins s1 σ H1 _ I1 q1) fun vl s2 ⟨l,H2,I2,pl,q2⟩=>thn (hu pins s2 σ H2 _ I2 q2) fun vu s3 hZ1=>?_);obtain ⟨u,H3,I3,pu,q3⟩:=hZ1;rw [evalPart_none];refine wpAny_pure ?_;have I4:Inv X pins σ H3 { s3 with heap:=s3.heap.push { cls:=.type "slice",data:=.fields #[vl,vu,.none] } }:=I3.kept (t':=s3.toks) fun b ob q=>Heap.get?_push_of_some _ q
 obtain ⟨T,id,hT,ht,hg⟩:=hr pins { s3 with heap:=s3.heap.push { cls:=.type "slice",data:=.fields #[vl,vu,.none] } } σ H3 x v vl vu l u s3.heap.objs.size Q I4 r1 (Heap.IsSliceOf.new ..) pl pu q3;show wpAny (model X.prog X.w) X.A (subscriptTail e (.Slice lo hi none p2) v (.ref s3.heap.objs.size)) (EP X pins σ Q) X.xe { s3 with heap:=s3.heap.push { cls:=.type "slice",data:=.fields #[vl,vu,.none] } };exact tail_any (ops:=[.ref s3.heap.objs.size,v]) ht hT hg (by with_unfolding_all rfl)
noncomputable def QE (xs:List V) (lo hi:Option Int):List V:=(xs.drop (HT.sIx xs.length 0 lo)).take (HT.sIx xs.length xs.length hi - HT.sIx xs.length 0 lo)
theorem ix (xs:List V) (lo hi:Option Int):(QE xs lo hi).length ≤ xs.length:=by
 unfold QE;rw [List.length_take,List.length_drop];omega
end
end L2
namespace L2
open PySem PySem.Spec PyProof.Rows
noncomputable def ixN (n:Nat) (i:Int):Option Nat:=if 0 ≤ i then (if i < n then some i.toNat else none) else if -(n:Int) ≤ i then some (i + n).toNat else none
noncomputable def atI {α:Type} (xs:List α) (i:Int):Option α:=(ixN xs.length i).bind fun j=>xs[j]?
theorem BC {n:Nat} {i:Int} {j:Nat} (h:ixN n i=some j):seqIndex? i n=some j∧j < n∧-(n:Int) ≤ i∧i < n:=by
 unfold ixN at h;by_cases h0:0 ≤ i
 ·rw [if_pos h0] at h;by_cases h1:i < n
  ·rw [if_pos h1] at h;have e:i.toNat=j:=Option.some.inj h;exact ⟨by rw [seqIndex_of h0 h1,e],by omega,by omega,h1⟩
  ·rw [if_neg h1] at h;cases h
 ·rw [if_neg h0] at h;by_cases h1:-(n:Int) ≤ i
  ·rw [if_pos h1] at h;have e:(i + n).toNat=j:=Option.some.inj h;exact ⟨by rw [seqIndex_neg (by omega) h1,e],by omega,h1,by omega⟩
  ·rw [if_neg h1] at h;cases h
theorem Hw {α:Type} {xs:List α} {i:Int} {v:α} (h:atI xs i=some v):∃ j,seqIndex? i xs.length=some j∧xs[j]? = some v∧j < xs.length∧-(xs.length:Int) ≤ i∧i < xs.length:=by
 unfold atI at h;cases e:ixN xs.length i with
 | none=>rw [e] at h;cases h
 | some j=>
  rw [e] at h;obtain ⟨h1,h2,h3,h4⟩:=BC e;exact ⟨j,h1,h,h2,h3,h4⟩
theorem Fc {α:Type} {xs:List α} {j:Nat} {v:α} (h:xs[j]? = some v):atI xs (j:Int)=some v:=by
 have hj:j < xs.length:=(List.getElem?_eq_some_iff.mp h).1;have e:ixN xs.length (j:Int)=some j:=by
  unfold ixN;rw [if_pos (by omega),if_pos (by omega)];simp
 unfold atI;rw [e];exact h
noncomputable def GC (b:Expr):Prop:=∀ o i,subscripted b false o i=operate [o,i] (getItem o i)
noncomputable def IxR (X:Cx) (r:R2):Prop:=
 ∀ (value slice:Expr) (pins:List (Addr × Obj)) (s:Shared) (σ:St) (H:Hp) (x y:V) (v u:Value) (Q:VK),Inv X pins σ H s→wd x v→wd y u→r x y H Q →
  subscripted slice false v u=operate [v,u] (getItem v u)→wpAny (model X.prog X.w) X.A (subscriptTail value slice v u) (EP X pins σ Q) X.xe s
noncomputable def MtR (X:Cx) (id:String) (r:V→List V→Hp→VK→Prop):Prop:=
 ∀ (pins:List (Addr × Obj)) (s:Shared) (σ:St) (H:Hp) (x:V) (xs:List V) (v:Value) (us:List Value) (Q:VK),Inv X pins σ H s→wd x v→Pc xs us→r x xs H Q →
  wpAny (model X.prog X.w) X.A (call (.builtin id) (v :: us)) (EP X pins σ Q) X.xe s
section
variable {X:Cx} {a b:Expr} {ta tb:TE} {pos:Pos}
theorem gM {r:R2} (hr:IxR X r) (ha:PE X a ta) (hb:PE X b tb) (hs:GC b):PE X (.Subscript a b pos) (tOp r ta tb):=by
 intro pins s σ H Q I h;exact Subscript_ (dM ha hb I h fun v u s2 x y H2 I2 rx ry q=>hr a b pins s2 σ H2 x y v u Q I2 rx ry q (hs _ _))
noncomputable def tN (K:PySem.W.Frag):R2:=fun x y H Q=>Ch x fun p=>∃ xs,Gi y fun i=>SqL K H p xs∧∃ v,atI xs i=some v∧Q v H
noncomputable def lN (K:PySem.W.Frag):R2:=fun x y H Q=>Ch x fun p=>∃ xs,Gi y fun i=>SqT K H p xs∧∃ v,atI xs i=some v∧Q v H
noncomputable def VM:R2:=fun x y H Q=>∃ z i c,x=.str z∧y=.int i∧z.length ≤ sizeLine∧atI z.cps.toList i=some c∧Q (.str ⟨#[c]⟩) H
theorem Vc:IxR X (tN X.K):=by
 intro value slice pins s σ H x y v u Q I rx ry h hs;obtain ⟨p,rfl,xs,hzz⟩:=Ch.out h;obtain ⟨i,rfl,hq,z,he,q⟩:=Gi.out hzz;cases rx;obtain ⟨t,rfl⟩:=ry;obtain ⟨its,r,pl,hz⟩:=I.list hq;obtain ⟨j,h1,h2,h3,h4,h5⟩:=Hw he;obtain ⟨w,ew,rw'⟩:=r.get h2;have hl:=r.length;have hn:=Zp;have fin:EP X pins σ Q w s:=⟨z,H,I,rw',q⟩;by_cases h0:0 ≤ i
 ·have hj:i.toNat=j:=by
   rw [seqIndex_of h0 h5] at h1;exact Option.some.inj h1
  exact item_listR pl.isList h0 (by omega) (by rw [hj];simpa using ew) fin hs
 ·have hj:(i + (its.toArray.size:Int)).toNat=j:=by
   rw [seqIndex_neg (by omega) h4] at h1;rw [List.size_toArray,← hl];exact Option.some.inj h1
  exact subscriptTail_builtinR (x:=w) pl.isList.typeIs slot_list_getitem.lookup
   (wpAny_getItem_list_neg (Q:=fun r s'=>r=w∧EP X pins σ Q r s') pl.isList (by omega) (by rw [List.size_toArray] <;> omega) (by omega) (by rw [hj];simpa using ew) ⟨rfl,fin⟩) hs
theorem Lg:IxR X (lN X.K):=by
 intro value slice pins s σ H x y v u Q I rx ry h hs;obtain ⟨p,rfl,xs,hzz⟩:=Ch.out h;obtain ⟨i,rfl,hq,z,he,q⟩:=Gi.out hzz;cases rx;obtain ⟨t,rfl⟩:=ry;obtain ⟨its,r,pl,hz⟩:=I.tuple hq;obtain ⟨j,h1,h2,h3,h4,h5⟩:=Hw he;obtain ⟨w,ew,rw'⟩:=r.get h2;have hl:=r.length;have hn:=Zp;have fin:EP X pins σ Q w s:=⟨z,H,I,rw',q⟩;exact subscriptTail_builtinR (x:=w) pl.typeIs slot_tuple_getitem.lookup
  (getItem_tuple (j:=j) (Q:=fun r s'=>r=w∧EP X pins σ Q r s') pl (by omega) (by omega) (by rw [List.size_toArray,← hl];exact h1) (by simpa using ew) ⟨rfl,fin⟩) hs
theorem OJ:IxR X VM:=by
 intro value slice pins s σ H x y v u Q I rx ry h hs;obtain ⟨z,i,c,rfl,rfl,hz,he,q⟩:=h;obtain ⟨t,rfl⟩:=rx;obtain ⟨t',rfl⟩:=ry;obtain ⟨j,h1,h2,h3,h4,h5⟩:=Hw he;have hl:z.cps.toList.length=z.length:=by simp [Str.length]
 rw [hl] at h1 h4 h5;have hn:=Zp;exact tail_any (typeIs_str s z t) slot_str_getitem.lookup (getItem_str (c:=c) (by
  have e1:decide (i < -(2 ^ 63:Int))=false:=decide_eq_false (by omega);have e2:decide (i ≥ 2 ^ 63)=false:=decide_eq_false (by omega);rw [e1,e2,Bool.or_false]) (by rw [h1];simpa using h2) ⟨.str ⟨#[c]⟩,H,I.tok _,⟨_,rfl⟩,q⟩) hs
theorem Cz (its:List Value) (n j:Nat) (u:Value):Obj.mapSeq (·.setIfInBounds j u) { cls:=.type "list",data:=.seq its.toArray n } = { cls:=.type "list",data:=.seq (its.set j u).toArray n }:=by
 simp [Obj.mapSeq]
theorem Inv.lst {pins:List (Addr × Obj)} {σ:St} {H:Hp} {s:Shared} {p:Addr} {xs:List V} (I:Inv X pins σ H s) (h:H p=some (.lst xs)) :
  ∃ (its:List Value) (n:Nat),Pc xs its∧s.heap.get? p=some { cls:=.type "list",data:=.seq its.toArray n }∧xs.length ≤ sizeLine:=by
 obtain ⟨z,its,n,r,e⟩:=I.hok p _ h;exact ⟨its,n,r,e,z⟩
theorem Inv.lstUpd {pins:List (Addr × Obj)} {σ:St} {H:Hp} {s:Shared} {p:Addr} {xs ys:List V} {its its':List Value} {n n':Nat} {f:Obj→Obj} (I:Inv X pins σ H s) (h:H p=some (.lst xs))
  (ho:s.heap.get? p=some { cls:=.type "list",data:=.seq its.toArray n }) (hf:f { cls:=.type "list",data:=.seq its.toArray n } = { cls:=.type "list",data:=.seq its'.toArray n' }) (r:Pc ys its') (hz:ys.length ≤ sizeLine) (t:Nat) :
  Inv X pins σ (upd H p (.lst ys)) { s with heap:=s.heap.update p f,toks:=t }:=by
 have e:(s.heap.update p f).get? p=some { cls:=.type "list",data:=.seq its'.toArray n' }:=by
  rw [Heap.get?_update_self f ho (by rw [hf] <;> rfl),hf]
 refine I.write (x:=p) (e:=p) (by rw [h];trivial) (.inl rfl) (fun b u hb q=>(Heap.get?_update_other _ _ (Ne.symm hb)).trans q) ⟨_,e⟩ ?_;exact ⟨hz,its',n',r,e⟩
noncomputable def MJ:V→V→V→Hp→(Hp→Prop)→Prop:=fun o i v H Q=>Ch o fun p=>∃ xs,Gi i fun k=>H p=some (.lst xs)∧∃ j,ixN xs.length k=some j∧Q (upd H p (.lst (xs.set j v)))
theorem Wn:YM X MJ:=by
 intro pins s σ H o i v ov iv u Q I ro ri rv h;obtain ⟨p,rfl,xs,hzz⟩:=Ch.out h;obtain ⟨k,rfl,hp,j,hj,q⟩:=Gi.out hzz;cases ro;obtain ⟨t,rfl⟩:=ri;obtain ⟨its,n,r,ho,hz⟩:=I.lst hp;obtain ⟨h1,h2,h3,h4⟩:=BC hj;have hl:=r.length;have hn:=Zp;have I':Inv X pins σ (upd H p (.lst (xs.set j v))) { s with heap:=s.heap.update p (Obj.mapSeq (·.setIfInBounds j u)) }:=
  I.lstUpd hp ho (Cz its n j u) (r.set rv j) (by rw [List.length_set];exact hz) s.toks
 by_cases h0:0 ≤ k
 ·have hk:k.toNat=j:=by
   rw [seqIndex_of h0 h4] at h1;exact Option.some.inj h1
  exact PySem.W.ki_setAt ho h0 (by omega) (by rw [List.size_toArray,← hl];exact h4) (by rw [hk];exact ⟨_,I',q⟩)
 ·have hk:(k + (its.toArray.size:Int)).toNat=j:=by
   rw [seqIndex_neg (by omega) h3] at h1;rw [List.size_toArray,← hl];exact Option.some.inj h1
  exact PySem.W.ki_setBack ho (by omega) (by rw [List.size_toArray,← hl];exact h3) (by omega) (by rw [hk];exact ⟨_,I',q⟩)
theorem lv (lo hi:Option Int) (n:Nat):(sliceBounds lo hi none n).1=((HT.sIx n 0 lo:Nat):Int)∧(sliceBounds lo hi none n).2.1=((HT.sIx n n hi:Nat):Int)∧(sliceBounds lo hi none n).2.2=1:=by
 refine ⟨?_,?_,rfl⟩
 ·cases lo with
  | none=>simp [sliceBounds,HT.sIx]
  | some i=>
   simp only [sliceBounds,HT.sIx,Option.getD_none,show (1:Int) > 0 by decide,if_true];by_cases h:i < 0
   ·simp only [h,if_true] <;> omega
   ·simp only [h,if_false] <;> omega
 ·cases hi with
  | none=>simp [sliceBounds,HT.sIx]
  | some i=>
   simp only [sliceBounds,HT.sIx,Option.getD_none,show (1:Int) > 0 by decide,if_true];by_cases h:i < 0
   ·simp only [h,if_true] <;> omega
   ·simp only [h,if_false] <;> omega
theorem Bs (its:List Value) (lo hi:Option Int):slicePick its.toArray lo hi none=((its.drop (HT.sIx its.length 0 lo)).take (HT.sIx its.length its.length hi - HT.sIx its.length 0 lo)).toArray:=by
 obtain ⟨h1,h2,h3⟩:=lv lo hi its.toArray.size;unfold slicePick;rw [h1,h2,h3];simp only [sliceRange_one,pick_run,List.size_toArray] <;> rfl
noncomputable def pN (K:PySem.W.Frag):V→Option Int→Option Int→Hp→VK→Prop:=fun x lo hi H Q=>∃ a xs,x=.ref a∧SqL K H a xs∧∀ p,H p=none→Q (.ref p) (upd H p (.lst (QE xs lo hi)))
theorem TC:SlR X (pN X.K):=by
 intro pins s σ H x v vl vu lo hi sl Q I rx hs pl pu h;obtain ⟨a,xs,rfl,hx,q⟩:=h;cases rx;obtain ⟨its,r,ht,hz⟩:=I.list hx;have hlen:=r.length;refine ⟨"list",_,slot_list_getitem.lookup,ht.isList.typeIs,?_⟩;refine wpAny_getItem_list_slice ht.isList hs pl pu .none (by simp) ?_ (by rw [List.size_toArray] <;> omega);rw [Bs,← hlen];refine ⟨.ref s.heap.objs.size,_,I.laid (t':=s.toks) (o:=.lst (QE xs lo hi)) (fun b ob q=>Heap.get?_push_of_some _ q) (Nat.le_refl _) ?_,rfl,q _ (I.hok.fresh (Nat.le_refl _))⟩;exact ⟨Nat.le_trans (ix xs lo hi) hz,_,0,(r.drop (HT.sIx xs.length 0 lo)).take (HT.sIx xs.length xs.length hi - HT.sIx xs.length 0 lo),Heap.get?_push_size _ rfl⟩
noncomputable def ik:V→Bool
 | .non=>true
 | .bl _=>true
 | .int _=>true
 | .str _=>true
 | _=>false
noncomputable def eqV:V→V→Bool
 | .non,.non=>true
 | .bl a,.bl b=>a == b
 | .bl a,.int b=>(if a then 1 else 0) == b
 | .int a,.bl b=>a == (if b then 1 else 0)
 | .int a,.int b=>a == b
 | .str a,.str b=>a == b
 | _,_=>false
theorem tL {A:Around} {s:Shared} {y x:V} {u v:Value} (ry:wd y u) (rx:wd x v) (fy:ik y=true) (fx:ik x=true):SeqAt.EqAt A s u v (eqV y x):=by
 cases y with
 | non=>
  cases ry;cases x with
  | non=>cases rx;exact SeqAt.EqAt.same _
  | bl b=>cases rx;exact SeqAt.EqAt.none_bool b
  | int b=>obtain ⟨t,rfl⟩:=rx;exact SeqAt.EqAt.none_int b t
  | str b=>obtain ⟨t,rfl⟩:=rx;exact SeqAt.EqAt.none_str b t
  | _=>exact absurd (show false=true from fx) Bool.false_ne_true
 | bl a=>
  cases ry;cases x with
  | non=>cases rx;exact SeqAt.EqAt.bool_none a
  | bl b=>cases rx;exact SeqAt.EqAt.bool_bool a b
  | int b=>obtain ⟨t,rfl⟩:=rx;exact SeqAt.EqAt.bool_int a b t
  | str b=>obtain ⟨t,rfl⟩:=rx;exact SeqAt.EqAt.bool_str a b t
  | _=>exact absurd (show false=true from fx) Bool.false_ne_true
 | int a=>
  obtain ⟨t',rfl⟩:=ry;cases x with
  | non=>cases rx;exact SeqAt.EqAt.int_none a t'
  | bl b=>cases rx;exact SeqAt.EqAt.int_bool a t' b
  | int b=>obtain ⟨t,rfl⟩:=rx;exact SeqAt.EqAt.int_int a t' b t
  | str b=>obtain ⟨t,rfl⟩:=rx;exact SeqAt.EqAt.int_str a t' b t
  | _=>exact absurd (show false=true from fx) Bool.false_ne_true
 | str a=>
  obtain ⟨t',rfl⟩:=ry;cases x with
  | non=>cases rx;exact SeqAt.EqAt.str_none a t'
  | bl b=>cases rx;exact SeqAt.EqAt.str_bool a t' b
  | int b=>obtain ⟨t,rfl⟩:=rx;exact SeqAt.EqAt.str_int a t' b t
  | str b=>obtain ⟨t,rfl⟩:=rx;exact SeqAt.EqAt.str_str a t' b t
  | _=>exact absurd (show false=true from fx) Bool.false_ne_true
 | _=>exact absurd (show false=true from fy) Bool.false_ne_true
noncomputable def eqU (x:V) (u:Value):Bool:=match u with
 | .none=>eqV .non x
 | .bool b=>eqV (.bl b) x
 | .int i _=>eqV (.int i) x
 | .str z _=>eqV (.str z) x
 | _=>false
theorem ZG {x y:V} {u:Value} (r:wd y u) (f:ik y=true):eqU x u=eqV y x:=by
 cases y with
 | non=>cases r;rfl
 | bl b=>cases r;rfl
 | int i=>obtain ⟨t,rfl⟩:=r;rfl
 | str z=>obtain ⟨t,rfl⟩:=r;rfl
 | _=>exact absurd (show false=true from f) Bool.false_ne_true
theorem Lp {x:V}:∀ {xs:List V} {us:List Value},Pc xs us→xs.all ik=true→us.any (eqU x)=xs.any fun y=>eqV y x
 | _,_,.nil,_=>rfl
 | y :: xs,u :: us,.cons r t,f=>by
  rw [List.all_cons,Bool.and_eq_true] at f;rw [List.any_cons,List.any_cons,ZG r f.1,Lp t f.2]
theorem Al {A:Around} {s:Shared} {x:V} {v:Value} (rx:wd x v) (fx:ik x=true):∀ {xs:List V} {us:List Value},Pc xs us→xs.all ik=true→∀ u ∈ us,SeqAt.EqAt A s u v (eqU x u)
 | _,_,.nil,_=>fun u hu=>by cases hu
 | y :: xs,u :: us,.cons r t,f=>fun u' hu=>by
  rw [List.all_cons,Bool.and_eq_true] at f;rcases List.mem_cons.mp hu with rfl | hu
  ·rw [ZG r f.1];exact tL r rx f.1 fx
  ·exact Al rx fx t f.2 u' hu
noncomputable def inV (x:V) (xs:List V):Bool:=xs.any fun y=>eqV y x
noncomputable def rIn (K:PySem.W.Frag) (neg:Bool):R2:=fun x y H Q=>∃ p xs,y=.ref p∧(SqL K H p xs∨SqT K H p xs)∧ik x=true∧xs.all ik=true∧Q (.bl (if neg then !inV x xs else inV x xs)) H
theorem Xo:OpR X (compareOp .In) (rIn X.K false):=by
 intro pins s σ H x y v u Q I rx ry h;obtain ⟨p,xs,rfl,hq,fx,fs,q⟩:=h;cases ry;rcases hq with hq | hq
 ·obtain ⟨its,r,pl,hz⟩:=I.list hq;refine SeqAt.in_listAt (eqU x) pl.isList (fun w hw=>Al rx fx r fs w (by simpa using hw)) ⟨.bl _,H,I,rfl,?_⟩;rw [show its.toArray.any (eqU x)=its.any (eqU x) by simp,Lp r fs];exact q
 ·obtain ⟨its,r,pl,hz⟩:=I.tuple hq;refine SeqAt.in_tupleAt (eqU x) pl (fun w hw=>Al rx fx r fs w (by simpa using hw)) ⟨.bl _,H,I,rfl,?_⟩;rw [show its.toArray.any (eqU x)=its.any (eqU x) by simp,Lp r fs];exact q
theorem Zu:OpR X (compareOp .NotIn) (rIn X.K true):=by
 intro pins s σ H x y v u Q I rx ry h;obtain ⟨p,xs,rfl,hq,fx,fs,q⟩:=h;cases ry;rcases hq with hq | hq
 ·obtain ⟨its,r,pl,hz⟩:=I.list hq;refine SeqAt.notIn_listAt (eqU x) pl.isList (fun w hw=>Al rx fx r fs w (by simpa using hw)) ⟨.bl _,H,I,rfl,?_⟩;rw [show its.toArray.any (eqU x)=its.any (eqU x) by simp,Lp r fs];exact q
 ·obtain ⟨its,r,pl,hz⟩:=I.tuple hq;refine SeqAt.notIn_tupleAt (eqU x) pl (fun w hw=>Al rx fx r fs w (by simpa using hw)) ⟨.bl _,H,I,rfl,?_⟩;rw [show its.toArray.any (eqU x)=its.any (eqU x) by simp,Lp r fs];exact q
theorem Gb:Ni X (.builtin "len") (fun xs H Q=>Dz xs fun x=>Ch x fun p=>∃ ys,(SqL X.K H p ys∨SqT X.K H p ys)∧Q (.int ys.length) H):=by
 intro pins s σ H xs us Q I r h;obtain ⟨zx,rfl,hzz⟩:=Dz.out h;obtain ⟨p,rfl,ys,hq,q⟩:=Ch.out hzz;obtain ⟨u,rfl,rx⟩:=wp r;cases rx;have hn:=Zp;rcases hq with hq | hq
 ·obtain ⟨its,r',pl,hz⟩:=I.list hq;have hlen:=r'.length;exact Calls.call_len_list pl.isList (by simp only [List.size_toArray] <;> omega) ⟨.int ys.length,H,I.tok _,⟨s.toks + 1,by rw [List.size_toArray,hlen]⟩,q⟩
 ·obtain ⟨its,r',pl,hz⟩:=I.tuple hq;have hlen:=r'.length;exact len_tuple pl (by simp only [List.size_toArray] <;> omega) ⟨.int ys.length,H,I.tok _,⟨s.toks + 1,by rw [List.size_toArray,hlen]⟩,q⟩
theorem Ov:Ni X (.builtin "len") (fun xs H Q=>∃ z,xs=[.str z]∧z.length ≤ sizeLine∧Q (.int z.length) H):=by
 intro pins s σ H xs us Q I r h;obtain ⟨z,rfl,hz,q⟩:=h;obtain ⟨u,rfl,t,rfl⟩:=wp r;have hn:=Zp;exact len_str (by omega) ⟨.int z.length,H,I.tok _,⟨_,rfl⟩,q⟩
theorem Dd:Ni X (.type "list") (fun xs H Q=>∃ p ys,xs=[.ref p]∧(SqL X.K H p ys∨SqT X.K H p ys)∧∀ l,H l=none→Q (.ref l) (upd H l (.lst ys))):=by
 intro pins s σ H xs us Q I r h;obtain ⟨p,ys,rfl,hq,q⟩:=h;obtain ⟨u,rfl,rx⟩:=wp r;cases rx;have fin:∀ (its:List Value),Pc ys its→ys.length ≤ sizeLine→∀ (h':Heap) (c':Nat),(∀ b o',s.heap.get? b=some o'→h'.get? b=some o') →
   h'.get? s.heap.objs.size=some { cls:=.type "list",dict:=none,data:=.seq its.toArray c',slots:=#[] }→EP X pins σ Q (.ref s.heap.objs.size) { s with heap:=h' }:=fun its r' hz h' c' kp e=>
  ⟨.ref s.heap.objs.size,_,I.laid (t':=s.toks) kp (Nat.le_refl _) (show Gd X.prog X.w _ h' _ (.lst ys) from ⟨hz,its,c',r',e⟩),rfl,q _ (I.hok.fresh (Nat.le_refl _))⟩
 rcases hq with hq | hq
 ·obtain ⟨its,r',pl,hz⟩:=I.list hq;have hlen:=r'.length;obtain ⟨o,ho,hc,n,hd⟩:=pl.isList;exact call_list_seq p (.inl rfl) ho hc hd (fun h' c' kp e=>fin its r' hz h' c' kp e) (by simp only [List.size_toArray] <;> omega)
 ·obtain ⟨its,r',pl,hz⟩:=I.tuple hq;have hlen:=r'.length;obtain ⟨o,ho,hc,n,hd⟩:=pl;exact call_list_seq p (.inr rfl) ho hc hd (fun h' c' kp e=>fin its r' hz h' c' kp e) (by simp only [List.size_toArray] <;> omega)
noncomputable def tyV (K:PySem.W.Frag) (T:String) (x:V) (H:Hp):Prop:=match x with
 | .str _=>T = "str"
 | .int _=>T = "int"
 | .ref p=>(T = "list" ∧ ∃ xs,SqL K H p xs)∨(T = "tuple" ∧ ∃ o,K.lookup p=some o∧o.cls=.type "tuple" ∧ o.dict=none) ∨
   (T = "dict" ∧ ((∃ kvs,H p=some (.dK kvs))∨∃ kvs,H p=some (.dT kvs)))∨(T = "set" ∧ ∃ S n,H p=some (.set S n))
 | _=>False
theorem nK {pins:List (Addr × Obj)} {σ:St} {H:Hp} {s:Shared} {T:String} {x:V} {v:Value} (I:Inv X pins σ H s) (r:wd x v) (ty:tyV X.K T x H) :
  s.TypeIs v T∧∀ a,v=.ref a→∃ ob,s.heap.get? a=some ob∧ob.dict=none:=by
 cases x with
 | str z=>
  obtain ⟨t,rfl⟩:=r;cases (show T = "str" from ty);exact ⟨typeIs_str s z t,fun _ e=>nomatch e⟩
 | int i=>
  obtain ⟨t,rfl⟩:=r;cases (show T = "int" from ty);exact ⟨typeIs_int s i t,fun _ e=>nomatch e⟩
 | ref p=>
  cases r;rcases ty with ⟨rfl,xs,hq⟩ | ⟨rfl,o,hk,hc,hd⟩ | ⟨rfl,hk⟩ | ⟨rfl,S,n,hk⟩
  ·obtain ⟨its,_,pl,_⟩:=I.list hq;refine ⟨pl.isList.typeIs,fun a e=>?_⟩;cases e;obtain ⟨o,n,e,c,hd,_⟩:=pl;exact ⟨o,e,hd⟩
  ·refine ⟨⟨o,I.kIn p o hk,hc⟩,fun a e=>?_⟩;cases e;exact ⟨o,I.kIn _ o hk,hd⟩
  ·have z:∃ o,s.heap.get? p=some o∧o.ExactDict:=by
    rcases hk with ⟨kvs,hk⟩ | ⟨kvs,hk⟩
    ·obtain ⟨_,_,_,_,o,_,_,e,ex,_⟩:=I.hok p _ hk;exact ⟨o,e,ex⟩
    ·obtain ⟨_,_,_,_,o,_,_,e,ex,_⟩:=I.hok p _ hk;exact ⟨o,e,ex⟩
   obtain ⟨o,e,ex⟩:=z;refine ⟨⟨o,e,ex.1⟩,fun a e2=>?_⟩;cases e2;exact ⟨o,e,ex.2.1⟩
  ·obtain ⟨o,_,_,_,e,ex,_⟩:=I.hok p _ hk;refine ⟨⟨o,e,ex.1⟩,fun a e2=>?_⟩;cases e2;exact ⟨o,e,ex.2.1⟩
 | _=>exact False.elim ty
noncomputable def tBM (K:PySem.W.Frag) (T:String) (r:V→List V→Hp→VK→Prop) (to:TE) (t:TA):TE:=fun σ H Q=>to σ H fun x H1=>tyV K T x H1∧t σ H1 fun xs H2=>r x xs H2 Q
variable {o e:Expr} {es:List Expr} {to:TE} {t:TA} {name:Str} {apos cpos:Pos} {T id:String} {r:V→List V→Hp→VK→Prop}
theorem Tu (pa:PlainAttrs T) (slot:Slot T name id) (hty:typeOf (.builtin id)=pure (.type "method_descriptor")) (hm:MtR X id r) (ho:PE X o to) (ha:PA X (e :: es) t)
  (hbase:attributeBase o name X.env (eval o X.env)=eval o X.env:=by rfl)
  (hfew:((backTo cpos (starEach (e :: es) X.env)).all (fun x=>!x.1) && (backToKw cpos (keywordEach [] X.env)).all (fun x=>x.1.isSome)
   && decide ((e :: es).length + ([]:List Keyword).length + (if ([]:List Keyword).isEmpty then 0 else 1) < 30))=true:=by rfl)
  (hline:(apos.endLine == cpos.line)=true:=by rfl) (hs:starEach (e :: es) X.env=(false,eval e X.env) :: starEach es X.env:=by rfl) (hplain:(backTo cpos (starEach es X.env)).any (·.1)=false:=by rfl) :
  PE X (.Call (.Attribute o name apos) (e :: es) [] cpos) (tBM X.K T r to t):=by
 intro pins s σ H Q I h;refine wpAny_Call_method_late hbase hfew hline rfl (thn (ho pins s σ H _ I h) fun v s1 hZ1=>?_);obtain ⟨x,H1,I1,r1,ty,q1⟩:=hZ1;obtain ⟨h1,h2⟩:=nK I1 r1 ty;refine ⟨T,id,pa,slot,hty,h1,h2,?_⟩;have hA:=ha cpos pins s1 σ H1 _ I1 q1;rw [hs] at hA ⊢;refine Calls.callWith_builtin (by show (false || (backTo cpos (starEach es X.env)).any (·.1))=false;rw [hplain] <;> rfl) (Calls.evalArgs_plain ?_);exact thn hA fun us s2 ⟨vs,H2,I2,r2,q2⟩=>hm pins s2 σ H2 x vs v us Q I2 r1 r2 q2
end
end L2
namespace L2
open PySem PySem.Spec PyProof.Rows
noncomputable def MtM (X:Cx) (id:String) (r:V→List V→Hp→VK→Prop):Prop:=
 ∀ (pins:List (Addr × Obj)) (s:Shared) (σ:St) (H:Hp) (x:V) (xs:List V) (v:Value) (us:List Value) (Q:VK),Inv X pins σ H s→wd x v→Pc xs us→r x xs H Q →
  wpAny (model X.prog X.w) X.A (call (.builtin id) (v :: us)) (EP X pins σ Q) X.xe s
theorem Pc.one:∀ {x:V} {us:List Value},Pc [x] us→∃ u,us=[u]∧wd x u
 | _,_,.cons r .nil=>⟨_,rfl,r⟩
theorem Pc.two:∀ {x y:V} {us:List Value},Pc [x,y] us→∃ u v,us=[u,v]∧wd x u∧wd y v
 | _,_,_,.cons r (.cons q .nil)=>⟨_,_,rfl,r,q⟩
theorem Pc.zero:∀ {us:List Value},Pc [] us→us=[]
 | _,.nil=>rfl
theorem Pc.eraseIdx:∀ {xs:List V} {us:List Value} (i:Nat),Pc xs us→Pc (xs.eraseIdx i) (us.eraseIdx i)
 | _,_,_,.nil=>.nil
 | _,_,0,.cons _ t=>t
 | _,_,i + 1,.cons r t=>.cons r (Pc.eraseIdx i t)
theorem Pc.reverse {xs:List V} {us:List Value} (h:Pc xs us):Pc xs.reverse us.reverse:=by
 induction h with
 | nil=>exact .nil
 | cons r t ih=>rw [List.reverse_cons,List.reverse_cons];exact Pc.append ih (.cons r .nil)
section
variable {X:Cx} {pins:List (Addr × Obj)} {σ:St} {H:Hp} {s:Shared} {l b:Addr} {xs ys zs:List V}
theorem Inv.lset {its its':List Value} {n:Nat} {f:Array Value→Array Value} {t':Nat} (I:Inv X pins σ H s) (hH:H l=some (.lst xs))
  (e:s.heap.get? l=some { cls:=.type "list",data:=.seq its.toArray n }) (hf:f its.toArray=its'.toArray) (hv:Pc ys its') (hz:ys.length ≤ sizeLine) :
  Inv X pins σ (upd H l (.lst ys)) { s with heap:=s.heap.update l (Obj.mapSeq f),toks:=t' }:=by
 have q:=PySem.IsL.update e f;rw [hf] at q;refine I.write (x:=l) (e:=l) (by rw [hH];exact trivial) (.inl rfl) (fun b' u hb hu=>(Heap.get?_update_other s.heap (Obj.mapSeq f) (Ne.symm hb)).trans hu) ⟨_,q⟩ ?_;exact ⟨hz,its',_,hv,q⟩
theorem Inv.lnew {its:List Value} {t':Nat} (I:Inv X pins σ H s) (hv:Pc ys its) (hz:ys.length ≤ sizeLine) :
  Inv X pins σ (upd H s.heap.objs.size (.lst ys)) { s with heap:=s.heap.push { cls:=.type "list",data:=.seq its.toArray },toks:=t' }:=
 I.laid (fun _ _ q=>Heap.get?_push_of_some _ q) (Nat.le_refl _) ⟨hz,its,0,hv,Heap.get?_push_size _ rfl⟩
theorem Inv.fresh (I:Inv X pins σ H s):H s.heap.objs.size=none:=I.hok.fresh (Nat.le_refl _)
theorem Inv.lstM (I:Inv X pins σ H s) (hH:H l=some (.lst xs)):xs.length ≤ sizeLine∧∃ (its:List Value) (n:Nat),Pc xs its∧xs.length=its.length∧s.heap.get? l=some { cls:=.type "list",data:=.seq its.toArray n }:=by
 obtain ⟨z,its,n,r,e⟩:=I.hok l _ hH;exact ⟨z,its,n,r,r.length,e⟩
end
section
variable {X:Cx}
noncomputable def iD:V→List V→Hp→VK→Prop:=fun x vs H Q=>Ch x fun l=>Dz vs fun y=>∃ xs,H l=some (.lst xs)∧xs.length < sizeLine∧Q .non (upd H l (.lst (xs ++ [y])))
theorem Mh:MtM X "list.append" iD:=by
 intro pins s σ H x vs v us Q I rx rv h;obtain ⟨l,rfl,hzz⟩:=Ch.out h;obtain ⟨y,rfl,xs,hH,hz,q⟩:=Dz.out hzz;cases rx;obtain ⟨u,rfl,ru⟩:=rv.one;obtain ⟨z,its,n,r,hl,e⟩:=I.lstM hH;refine call_meets F.slot_list_append ⟨_,e,rfl⟩ F.entry_list_append (F.args_list_append_2 _ _) (PySem.list_append l its.toArray n u (by rw [List.size_toArray];omega)) ⟨e,?_⟩;refine ⟨.non,_,I.lset (its':=its ++ [u]) hH e (by simp) (r.append (.cons ru .nil)) ?_,rfl,q⟩;rw [List.length_append,List.length_singleton];omega
noncomputable def jN:R2:=fun x y H Q=>∃ l b xs zs,x=.ref l∧y=.ref b∧H l=some (.lst xs)∧H b=some (.lst zs)∧xs.length + zs.length ≤ sizeLine∧∀ p,H p=none→Q (.ref p) (upd H p (.lst (xs ++ zs)))
theorem jK:OpR X (binaryOp .Add) jN:=by
 intro pins s σ H x y v u Q I rx ry h;obtain ⟨l,b,xs,zs,rfl,rfl,hH,hB,hz,q⟩:=h;cases rx;cases ry;obtain ⟨z,its,n,r,hl,e⟩:=I.lstM hH;obtain ⟨z2,its2,n2,r2,hl2,e2⟩:=I.lstM hB;refine PySem.P.add_list e e2 ?_ (by rw [List.size_toArray,List.size_toArray];omega);have ea:its.toArray ++ its2.toArray=(its ++ its2).toArray:=by simp
 rw [ea];exact ⟨.ref _,_,I.lnew (t':=s.toks) (r.append r2) (by rw [List.length_append];omega),rfl,q _ I.fresh⟩
end
section
variable {prog:Program} {w:World} {A:Around} {E:Value→Shared→Prop} {s:Shared}
end
section
variable {X:Cx}
end
end L2
namespace L2
open PySem PySem.Spec PyProof.Rows
section
variable {κ:Type} [DecidableEq κ]
noncomputable def du (kvs:List (κ × V)) (k:κ):Option V:=(kvs.find? fun kv=>decide (kv.1=k)).map (·.2)
noncomputable def Tv (kvs:List (κ × V)) (k:κ) (v:V):List (κ × V):=
 if (kvs.any fun kv=>decide (kv.1=k))=true then kvs.map (fun kv=>if kv.1=k then (kv.1,v) else kv) else kvs ++ [(k,v)]
noncomputable def wL (kvs:List (κ × V)) (k:κ):List (κ × V):=kvs.filter fun kv=>decide (kv.1 ≠ k)
theorem yt {p:κ × V} {r:List (κ × V)} {k:κ} (e:p.1=k):du (p :: r) k=some p.2:=by simp [du,List.find?_cons,e]
theorem qt {p:κ × V} {r:List (κ × V)} {k:κ} (e:¬ p.1=k):du (p :: r) k=du r k:=by simp [du,List.find?_cons,e]
theorem az (k:κ):∀ kvs:List (κ × V),(kvs.any fun kv=>decide (kv.1=k))=(du kvs k).isSome
 | []=>rfl
 | p :: r=>by
  rw [List.any_cons];by_cases e:p.1=k
  ·simp only [yt e,decide_eq_true e,Bool.true_or,Option.isSome_some]
  ·rw [qt e,decide_eq_false e,Bool.false_or];exact az k r
theorem Ip (kvs:List (κ × V)) (k:κ) (v:V):(Tv kvs k v).length ≤ kvs.length + 1:=by
 unfold Tv;split
 ·rw [List.length_map];omega
 ·rw [List.length_append,List.length_cons,List.length_nil];omega
theorem Gs.isSome_eq {o:Option V} {u:Option Value} (r:Gs o u):o.isSome=u.isSome:=by
 cases o with
 | none=>cases u with
  | none=>rfl
  | some _=>exact (show False from r).elim
 | some _=>cases u with
  | none=>exact (show False from r).elim
  | some _=>rfl
theorem Gs.getD {o:Option V} {u:Option Value} {d:V} {d':Value} (r:Gs o u) (rd:wd d d'):wd (o.getD d) (u.getD d'):=by
 cases o with
 | none=>cases u with
  | none=>exact rd
  | some _=>exact (show False from r).elim
 | some _=>cases u with
  | none=>exact (show False from r).elim
  | some _=>exact r
theorem KV.val {kvs:List (κ × V)} {vs:List (κ × Value)} (r:KV kvs vs) (k:κ):Gs (du kvs k) (valueAt vs k):=by
 unfold KV at r
 induction r with
 | nil=>exact True.intro
 | @cons p q ps qs h t ih=>
  obtain ⟨h1,h2⟩:=h;by_cases e:p.1=k
  ·have e':q.1=k:=h1.symm.trans e;have b:valueAt (q :: qs) k=some q.2:=by simp [valueAt,List.find?_cons,e']
   rw [yt e,b];exact h2
  ·have e':¬ q.1=k:=fun z=>e (h1.trans z)
   have b:valueAt (q :: qs) k=valueAt qs k:=by simp [valueAt,List.find?_cons,e']
   rw [qt e,b];exact ih
theorem KV.any {kvs:List (κ × V)} {vs:List (κ × Value)} (r:KV kvs vs) (k:κ):(kvs.any fun kv=>decide (kv.1=k))=vs.any fun kv=>decide (kv.1=k):=by
 unfold KV at r
 induction r with
 | nil=>rfl
 | cons h t ih=>rw [List.any_cons,List.any_cons,ih,h.1]
theorem KV.repl {kvs:List (κ × V)} {vs:List (κ × Value)} (r:KV kvs vs) (k:κ) {y:V} {u:Value} (ry:wd y u) :
  KV (kvs.map fun kv=>if kv.1=k then (kv.1,y) else kv) (vs.map fun kv=>if kv.1=k then (kv.1,u) else kv):=by
 unfold KV at r ⊢
 induction r with
 | nil=>exact .nil
 | @cons p q ps qs h t ih=>
  rw [List.map_cons,List.map_cons];refine .cons ?_ ih;obtain ⟨h1,h2⟩:=h;by_cases e:p.1=k
  ·rw [if_pos e,if_pos (h1.symm.trans e)];exact ⟨h1,ry⟩
  ·rw [if_neg e,if_neg (fun z=>e (h1.trans z))];exact ⟨h1,h2⟩
theorem KV.put {kvs:List (κ × V)} {vs:List (κ × Value)} (r:KV kvs vs) (k:κ) {y:V} {u:Value} (ry:wd y u):KV (Tv kvs k y) (stored vs k u):=by
 unfold Tv stored;rw [r.any k];by_cases e:(vs.any fun kv=>decide (kv.1=k))=true
 ·rw [if_pos e,if_pos e];exact r.repl k ry
 ·rw [if_neg e,if_neg e];exact Paired.snoc r ⟨rfl,ry⟩
theorem KV.drop {kvs:List (κ × V)} {vs:List (κ × Value)} (r:KV kvs vs) (k:κ):KV (wL kvs k) (without vs k):=by
 unfold KV at r ⊢;unfold wL without
 induction r with
 | nil=>exact .nil
 | @cons p q ps qs h t ih=>
  obtain ⟨h1,h2⟩:=h;rw [List.filter_cons,List.filter_cons];by_cases e:p.1=k
  ·have a:¬ decide (p.1 ≠ k)=true:=by simp [e]
   have b:¬ decide (q.1 ≠ k)=true:=by simp [h1.symm.trans e]
   rw [if_neg a,if_neg b];exact ih
  ·have e':¬ q.1=k:=fun z=>e (h1.trans z)
   have a:decide (p.1 ≠ k)=true:=by simp [e]
   have b:decide (q.1 ≠ k)=true:=by simp [e']
   rw [if_pos a,if_pos b];exact .cons ⟨h1,h2⟩ ih
theorem KV.length {kvs:List (κ × V)} {vs:List (κ × Value)} (r:KV kvs vs):kvs.length=vs.length:=Paired.length r
end
theorem vG {P:Program} {w:World} {k:Key} {u:Value} (r:wd (kV k) u):(Le P w).is k u=true:=by
 cases k with
 | inl i=>obtain ⟨t,e⟩:=(show ∃ t,u=Value.int i t from r);subst e;exact Kw P w i t
 | inr x=>obtain ⟨t,e⟩:=(show ∃ t,u=Value.str x t from r);subst e;exact Wv P w x t
theorem uu {P:Program} {w:World}:∀ {ks:List Key} {us:List Value},Pc (ks.map kV) us→ItemsAre (Le P w) ks us
 | [],_,r=>by rw [List.map_nil] at r;cases r;exact .nil
 | k :: ks,_,r=>by
  rw [List.map_cons] at r;cases r with
  | cons h t=>exact .cons (vG h) (uu t)
noncomputable abbrev KT (H:Hp):List (List Key × V)→List (List Key × Addr × Value)→Prop:=Paired fun p q=>p.1=q.1∧H q.2.1=some (.tup (p.1.map kV))∧wd p.2 q.2.2
theorem KT.val {H:Hp} {kvs:List (List Key × V)} {xs:List (List Key × Addr × Value)} (r:KT H kvs xs) (k:List Key):Gs (du kvs k) ((atKey xs k).map (·.2)):=by
 induction r with
 | nil=>exact True.intro
 | @cons p q ps qs h t ih=>
  obtain ⟨h1,_,h2⟩:=h;by_cases e:p.1=k
  ·have e':q.1=k:=h1.symm.trans e;have b:atKey (q :: qs) k=some q.2:=by simp [atKey,List.find?_cons,e']
   rw [yt e,b];exact h2
  ·have e':¬ q.1=k:=fun z=>e (h1.trans z)
   have b:atKey (q :: qs) k=atKey qs k:=by simp [atKey,List.find?_cons,e']
   rw [qt e,b];exact ih
theorem KT.repl {H:Hp} {kvs:List (List Key × V)} {xs:List (List Key × Addr × Value)} (r:KT H kvs xs) (k:List Key) {y:V} {u:Value} (ry:wd y u) :
  KT H (kvs.map fun kv=>if kv.1=k then (kv.1,y) else kv) (xs.map (putAt k u)):=by
 induction r with
 | nil=>exact .nil
 | @cons p q ps qs h t ih=>
  rw [List.map_cons,List.map_cons];refine .cons ?_ ih;obtain ⟨h1,h2,h3⟩:=h;unfold putAt;by_cases e:p.1=k
  ·rw [if_pos e,if_pos (h1.symm.trans e)];exact ⟨h1,h2,ry⟩
  ·rw [if_neg e,if_neg (fun z=>e (h1.trans z))];exact ⟨h1,h2,h3⟩
theorem KT.put {H:Hp} {kvs:List (List Key × V)} {xs:List (List Key × Addr × Value)} (r:KT H kvs xs) (k:List Key) {b:Addr} {y:V} {u:Value} (hb:H b=some (.tup (k.map kV))) (ry:wd y u) :
  KT H (Tv kvs k y) (storedH xs k b u):=by
 have e:(kvs.any fun kv=>decide (kv.1=k))=(atKey xs k).isSome:=by
  rw [az,(r.val k).isSome_eq,Option.isSome_map]
 unfold Tv storedH;rw [e];by_cases q:(atKey xs k).isSome=true
 ·rw [if_pos q,if_pos q];exact r.repl k ry
 ·rw [if_neg q,if_neg q];exact Paired.snoc r ⟨rfl,hb,ry⟩
theorem KT.keeps {H H':Hp} {kvs:List (List Key × V)} {xs:List (List Key × Addr × Value)} (r:KT H kvs xs) (ht:∀ b ys,H b=some (.tup ys)→H' b=some (.tup ys)):KT H' kvs xs:=
 Paired.mapP r fun _ _ z=>⟨z.1,ht _ _ z.2.1,z.2.2⟩
section
variable {P:Program} {w:World} {H:Hp} {h:Heap} {a:Addr}
theorem XJ {u:HO} (ok:HOk P w H h) (e:Rd H a u):Gd P w H h a u:=e.ok ok
theorem ZE {kvs:List (Key × V)} (ok:HOk P w H h) (e:Rd H a (.dK kvs)):kvs.length ≤ sizeLine∧(a == sysModules)=false∧∃ vs,KV kvs vs∧h.DictOf (Le P w) a vs:=
 show Gd P w H h a (.dK kvs) from XJ ok e
theorem iM {kvs:List (Key × V)} (ok:HOk P w H h) (e:H a=some (.dK kvs)):kvs.length ≤ sizeLine∧(a == sysModules)=false∧∃ vs,KV kvs vs∧h.DictOf (Le P w) a vs:=ZE ok (.inl e)
theorem Bx {ks:List Key} (ok:HOk P w H h) (e:H a=some (.tup (ks.map kV))):(tupleKind (Le P w)).is h ks a:=by
 obtain ⟨_,its,r,o,h1,h2,n,h3⟩:=(show Gd P w H h a (.tup (ks.map kV)) from ok a _ e);exact ⟨o,its.toArray,n,h1,h2,h3,by simpa using uu r⟩
theorem VF {kvs:List (List Key × V)} (ok:HOk P w H h) (e:Rd H a (.dT kvs)):kvs.length ≤ sizeLine∧(a == sysModules)=false ∧
  ∃ xs,KT H kvs xs∧h.DictOfH (tupleKind (Le P w)) a xs:=by
 obtain ⟨z,y,xs,r,o,es,ep,h1,h2,h3,h4,h5⟩:=(show Gd P w H h a (.dT kvs) from XJ ok e);refine ⟨z,y,xs,r,o,es,ep,h1,h2,h3,h4,fun x hx=>?_,h5⟩;have all:∀ {l:List (List Key × V)} {m:List (List Key × Addr × Value)},KT H l m→∀ x ∈ m,(tupleKind (Le P w)).is h x.1 x.2.1:=by
  intro l m q
  induction q with
  | nil=>intro x hx;exact nomatch hx
  | @cons p q ps qs hq t ih=>
   intro x hx;rcases List.mem_cons.mp hx with e | hx
   ·subst e;exact Bx ok (by rw [← hq.1];exact hq.2.1)
   ·exact ih x hx
 exact all r x hx
theorem oM {kvs:List (List Key × V)} (ok:HOk P w H h) (e:H a=some (.dT kvs)):kvs.length ≤ sizeLine∧(a == sysModules)=false ∧
  ∃ xs,KT H kvs xs∧h.DictOfH (tupleKind (Le P w)) a xs:=VF ok (.inl e)
end
noncomputable def Qs (H:Hp) (a:Addr) (y:V) (r:Option V):Prop:=
 (∃ kvs k,Rd H a (.dK kvs)∧y=kV k∧r=du kvs k)∨∃ kvs k b,Rd H a (.dT kvs)∧y=.ref b∧H b=some (.tup (k.map kV))∧r=du kvs k
noncomputable def qD (H:Hp) (a:Addr) (y v:V) (H':Hp):Prop:=
 (∃ kvs k,H a=some (.dK kvs)∧y=kV k∧kvs.length < sizeLine∧H'=upd H a (.dK (Tv kvs k v))) ∨
 ∃ kvs k b,H a=some (.dT kvs)∧y=.ref b∧H b=some (.tup (k.map kV))∧kvs.length < sizeLine∧H'=upd H a (.dT (Tv kvs k v))
theorem Qs.k {H:Hp} {a:Addr} {kvs:List (Key × V)} {k:Key} (e:H a=some (.dK kvs)):Qs H a (kV k) (du kvs k):=.inl ⟨kvs,k,.inl e,rfl,rfl⟩
theorem Qs.t {H:Hp} {a b:Addr} {kvs:List (List Key × V)} {k:List Key} (e:H a=some (.dT kvs)) (eb:H b=some (.tup (k.map kV))):Qs H a (.ref b) (du kvs k):=.inr ⟨kvs,k,b,.inl e,rfl,eb,rfl⟩
theorem qD.k {H:Hp} {a:Addr} {kvs:List (Key × V)} {k:Key} {v:V} (e:H a=some (.dK kvs)) (hl:kvs.length < sizeLine):qD H a (kV k) v (upd H a (.dK (Tv kvs k v))):=.inl ⟨kvs,k,e,rfl,hl,rfl⟩
theorem qD.t {H:Hp} {a b:Addr} {kvs:List (List Key × V)} {k:List Key} {v:V} (e:H a=some (.dT kvs)) (eb:H b=some (.tup (k.map kV))) (hl:kvs.length < sizeLine) :
  qD H a (.ref b) v (upd H a (.dT (Tv kvs k v))):=.inr ⟨kvs,k,b,e,rfl,eb,hl,rfl⟩
section
variable {X:Cx} {pins:List (Addr × Obj)} {σ:St} {H:Hp} {s:Shared} {a:Addr} {y v:V} {u r:Value} {o:Option V} {A:Around} {E:Value→Shared→Prop}
theorem Inv.big (I:Inv X pins σ H s):sysModules < s.heap.objs.size:=by
 have h:mainGlobals < s.heap.objs.size:=(I.mod.glob.keeps I.bk).lt;exact Nat.lt_trans (by decide) h
theorem YD {Q:Value→Shared→Prop} (hu:A.units + 1 < cLine) (I:Inv X pins σ H s) (g:Qs H a y (some v)) (ry:wd y u) (h:∀ w' s',Inv X pins σ H s'→wd v w'→Q w' s') :
  wpAny (model X.prog X.w) A (getItem (.ref a) u) Q E s:=by
 rcases g with ⟨kvs,k,e,ey,l⟩ | ⟨kvs,k,b,e,ey,eb,l⟩
 ·subst ey;obtain ⟨z,hd,vs,rel,dd⟩:=ZE I.hok e;obtain ⟨w',hw,rw'⟩:=Gs.some_of (v:=v) (o:=valueAt vs k) (by rw [l];exact rel.val k);exact wpAny_getItem_of (vG ry) dd.mapOf hw (h w' _ (I.tok _) rw')
 ·subst ey;cases (show u=Value.ref b from ry);obtain ⟨z,hd,xs,rel,dd⟩:=VF I.hok e;obtain ⟨w',hw,rw'⟩:=Gs.some_of (v:=v) (o:=(atKey xs k).map (·.2)) (by rw [l];exact rel.val k);obtain ⟨p,hp,hp2⟩:=Option.map_eq_some_iff.mp hw;refine wpAny_getItem_heap (tupleKind_room_in1 hu) (Bx I.hok eb) dd hp ?_;rw [hp2];exact h w' _ (I.tok _) rw'
theorem ZH {Q:Value→Shared→Prop} (hu:A.units + 1 < cLine) (I:Inv X pins σ H s) (g:Qs H a y o) (ry:wd y u) (h:∀ s',Inv X pins σ H s'→Q (.bool (!o.isSome)) s') :
  wpAny (model X.prog X.w) A (compareOp .NotIn u (.ref a)) Q E s:=by
 rcases g with ⟨kvs,k,e,ey,l⟩ | ⟨kvs,k,b,e,ey,eb,l⟩
 ·subst ey;obtain ⟨z,hd,vs,rel,dd⟩:=ZE I.hok e;refine wpAny_notIn_of (vG ry) hd dd.mapOf ?_;rw [← (rel.val k).isSome_eq,← l];exact h _ (I.tok _)
 ·subst ey;cases (show u=Value.ref b from ry);obtain ⟨z,hd,xs,rel,dd⟩:=VF I.hok e;refine wpAny_notIn_heap (tupleKind_room_in1 hu) (Bx I.hok eb) hd dd ?_;have q:=(rel.val k).isSome_eq;rw [Option.isSome_map] at q;rw [← q,← l];exact h _ (I.tok _)
theorem ND {h':Heap} {t':Nat} {ob:HO} (I:Inv X pins σ H s) (mu:Mut (H a)) (hs:Heap.SameBut a s.heap h') (he:∃ q,h'.get? a=some q) (new:Gd X.prog X.w (upd H a ob) h' a ob) :
  Inv X pins σ (upd H a ob) { s with heap:=h',toks:=t' }:=
 I.write (x:=a) (e:=a) mu (.inl rfl) (fun b q hb z=>(hs.2 b hb).trans z) he new
theorem fK {P:Program} {w:World} {H':Hp} {h':Heap} {kvs:List (Key × V)} {vs:List (Key × Value)} (z:kvs.length ≤ sizeLine) (hd:(a == sysModules)=false) (rel:KV kvs vs) (dd:h'.DictOf (Le P w) a vs) :
  Gd P w H' h' a (.dK kvs):=⟨z,hd,vs,rel,dd⟩
theorem NB {H':Hp} {Q:Unit→Shared→Prop} (hu:A.units + 1 < cLine) (I:Inv X pins σ H s) (g:qD H a y v H') (ry:wd y u) (rv:wd v r) (h:∀ s',Inv X pins σ H' s'→Q () s') :
  wpAny (model X.prog X.w) A (setItem (.ref a) u r) Q E s:=by
 rcases g with ⟨kvs,k,e,ey,l,eH⟩ | ⟨kvs,k,b,e,ey,eb,l,eH⟩
 ·subst ey eH;obtain ⟨z,hd,vs,rel,dd⟩:=iM I.hok e;have hz:vs.length ≤ sizeLine:=by rw [← rel.length];exact z
  have hl:(Tv kvs k v).length ≤ sizeLine:=by have:=Ip kvs k v;omega
  refine wpAny_setItem_pairs (hsz:=hz) (vG ry) dd fun h' dd' hs=>h _ ?_
  have he:∃ q,h'.get? a=some q:=let ⟨q,_,_,hq,_⟩:=dd';⟨q,hq⟩;exact ND I (by rw [e];exact True.intro) hs he (fK hl hd (rel.put k rv) dd')
 ·subst ey eH;cases (show u=Value.ref b from ry);obtain ⟨z,hd,xs,rel,dd⟩:=oM I.hok e;have hz:xs.length ≤ sizeLine:=by rw [← Paired.length rel];exact z
  have hl:(Tv kvs k v).length ≤ sizeLine:=by have:=Ip kvs k v;omega
  refine wpAny_setItem_heap (hsz:=hz) (tupleKind_room_in1 hu) (Bx I.hok eb) dd fun h' dd' hs=>h _ ?_
  obtain ⟨q,es,ep,hq,h2,h3,h4,_,h5⟩:=dd';refine ND I (by rw [e];exact True.intro) hs ⟨q,hq⟩ ⟨hl,hd,_,(rel.put k eb rv).keeps fun c ys ec=>?_,q,es,ep,hq,h2,h3,h4,h5⟩;rw [wb (Mg ec e (fun z=>nomatch z))];exact ec
end
section
variable {X:Cx} {pins:List (Addr × Obj)} {σ:St} {H:Hp} {s:Shared} {a:Addr} {kvs:List (Key × V)} {k:Key} {u:Value} {A:Around} {E:Value→Shared→Prop}
end
noncomputable def ZM (i:Expr):Prop:=∀ ov iv,subscripted i false ov iv=operate [ov,iv] (getItem ov iv)
theorem EI {prog:Program} {w:World} {A:Around} {E:Value→Shared→Prop} {s:Shared} {env:Env} {value slice:Expr} {pos:Pos} {T id:String} {Q:Value→Shared→Prop}
  (hl:typeLookup (.type T) "__getitem__"=pure (some (.builtin id))) (hs:ZM slice)
  (h:wpAny (model prog w) A (eval value env) (fun o s₁=>wpAny (model prog w) A (eval slice env) (fun i s₂=>s₂.TypeIs o T∧wpAny (model prog w) A (getItem o i) Q E s₂) E s₁) E s) :
  wpAny (model prog w) A (eval (.Subscript value slice pos) env) Q E s:=by
 refine Subscript_ (wpAny_mono h (fun o s₁ h₁=>wpAny_mono h₁ (fun i s₂ h₂=>?_) fun _ _ x=>x) fun _ _ x=>x);obtain ⟨hT,h₂⟩:=h₂;unfold subscriptTail;refine wpAny_bind ?_;rw [getitemInPython_of_ne hT.not_modules];refine wpAny_bind (wpAny_specialOf hT hl ?_);have fin:wpAny (model prog w) A (subscripted slice false o i) (fun r s₃=>wpAny (model prog w) A (letTemporaryGo value o r >>= fun _=>pure r) Q E s₃) E s₂:=by
  rw [hs o i];exact wpAny_operating (wpAny_mono h₂ (fun r s₃ h₃=>wpAny_bind (wpAny_letTemporaryGo (wpAny_pure h₃))) fun _ _ x=>x)
 first
  | exact wpAny_pure (wpAny_bind fin)
  | exact wpAny_bind (wpAny_pure (wpAny_bind fin))
  | exact wpAny_bind fin
theorem Aw {X:Cx} {pins:List (Addr × Obj)} {σ:St} {H:Hp} {s:Shared} {a:Addr} {y:V} {o:Option V} (I:Inv X pins σ H s) (g:Qs H a y o):s.TypeIs (.ref a) "dict" := by
 rcases g with ⟨kvs,k,e,_,_⟩ | ⟨kvs,k,b,e,_,_,_⟩
 ·obtain ⟨_,_,vs,_,dd⟩:=ZE I.hok e;exact dd.typeIs
 ·obtain ⟨_,_,xs,_,dd⟩:=VF I.hok e;exact dd.typeIs
noncomputable def uL (td ty:TE):TE:=fun σ H Q=>td σ H fun x H1=>ty σ H1 fun y H2=>Ch x fun a=>∃ v,Qs H2 a y (some v)∧Q v H2
noncomputable def WC (ty td:TE):TE:=fun σ H Q=>ty σ H fun y H1=>td σ H1 fun x H2=>Ch x fun a=>∃ o,Qs H2 a y o∧Q (.bl (!o.isSome)) H2
noncomputable def BK (td ty tv:TE):TS:=fun D σ H=>tv σ H fun v H1=>td σ H1 fun x H2=>ty σ H2 fun y H3=>Ch x fun a=>∃ H4,qD H3 a y v H4∧D.nx σ H4
section
variable {X:Cx} {o i e value:Expr} {pos pos' tpos:Pos} {td ty tv:TE}
theorem zo (hu:X.A.units + 1 < cLine) (ho:PE X o td) (hi:PE X i ty) (hs:ZM i):PE X (.Subscript o i pos) (uL td ty):=by
 intro pins s σ H Q I h;refine EI PySem.F.slot_dict_getitem.lookup hs (thn (ho pins s σ H _ I h) fun u s1 ⟨x,H1,I1,rx,q1⟩=>thn (hi pins s1 σ H1 _ I1 q1) fun iv s2 hZ1=>?_);obtain ⟨y,H2,I2,ry,zq⟩:=hZ1;obtain ⟨a,ex,v,g,q2⟩:=Ch.out zq;subst ex;obtain rfl:u=Value.ref a:=rx;exact ⟨Aw I2 g,YD hu I2 g ry fun w' s3 I3 rw'=>⟨v,H2,I3,rw',q2⟩⟩
theorem rD (hu:X.A.units + 1 < cLine) (hi:PE X i ty) (ho:PE X o td):PC X .NotIn i o (WC ty td):=by
 intro pins s σ H Q I h;refine thn (hi pins s σ H _ I h) fun iv s1 ⟨y,H1,I1,ry,q1⟩=>thn (ho pins s1 σ H1 _ I1 q1) fun u s2 hZ1=>?_
 obtain ⟨x,H2,I2,rx,zq⟩:=hZ1;obtain ⟨a,ex,ov,g,q2⟩:=Ch.out zq;subst ex;obtain rfl:u=Value.ref a:=rx;exact ZH hu I2 g ry fun s3 I3=>⟨.bl (!ov.isSome),H2,I3,rfl,q2⟩
theorem jt (hu:X.A.units + 1 < cLine) (ho:PE X o td) (hi:PE X i ty) (hv:PE X value tv) (hs:swapsWith value (some (.Subscript o i pos')) pos.line X.env=pure false) :
  PS X (.Assign [.Subscript o i pos'] value pos) (BK td ty tv):=by
 intro pins s σ H D I h;refine wpAny_Assign_Subscript (thn (hv pins s σ H _ I h) fun r s1 ⟨v,H1,I1,rv,q1⟩=>thn (ho pins s1 σ H1 _ I1 q1) fun u s2 ⟨x,H2,I2,rx,q2⟩=>thn (hi pins s2 σ H2 _ I2 q2) fun iv s3 hZ1=>?_) hs;obtain ⟨y,H3,I3,ry,zq⟩:=hZ1;obtain ⟨a,ex,H4,g,q3⟩:=Ch.out zq;subst ex;obtain rfl:u=Value.ref a:=rx;exact NB hu I3 g ry rv fun s4 I4=>⟨σ,H4,I4,q3⟩
end
theorem sF {P:Program} {w:World} {H:Hp} (h:Heap) (hb:sysModules < h.objs.size):Gd P w H (h.push { cls:=.type "dict",data:=.dict #[] }) h.objs.size (.dK []):=
 ⟨Nat.zero_le _,beq_eq_false_iff_ne.mpr (Ne.symm (Nat.ne_of_lt hb)),[],.nil,Heap.DictOf.new h⟩
noncomputable def KG:TE:=fun _ H Q=>∀ p,H p=none→Q (.ref p) (upd H p (.dK []))
section
variable {X:Cx} {pos:Pos}
theorem mo:PE X (.Dict [] [] pos) KG:=fun pins s σ H Q I h=>
 wpAny_Dict_empty ⟨.ref s.heap.objs.size,_,I.laid (a:=s.heap.objs.size) (o:=.dK []) (t':=s.toks) (fun _ _ q=>Heap.get?_push_of_some _ q) (Nat.le_refl _) (sF s.heap I.big),rfl,h _ (I.hok.fresh (Nat.le_refl _))⟩
end
structure M1 (X:Cx) (o:Expr) (m:Str) (apos:Pos) (e:Expr) (cpos:Pos):Prop where
 base:attributeBase o m X.env (eval o X.env)=eval o X.env
 few:((backTo cpos (starEach [e] X.env)).all (fun x=>!x.1) && (backToKw cpos (keywordEach [] X.env)).all (fun x=>x.1.isSome)
  && decide (([e]:List Expr).length + ([]:List Keyword).length + (if ([]:List Keyword).isEmpty then 0 else 1) < 30))=true
 line:(apos.endLine == cpos.line)=true
 trees:backTo cpos (starEach [e] X.env)=[(false,eval e X.env)]
structure M2 (X:Cx) (o:Expr) (m:Str) (apos:Pos) (e f:Expr) (cpos:Pos):Prop where
 base:attributeBase o m X.env (eval o X.env)=eval o X.env
 few:((backTo cpos (starEach [e,f] X.env)).all (fun x=>!x.1) && (backToKw cpos (keywordEach [] X.env)).all (fun x=>x.1.isSome)
  && decide (([e,f]:List Expr).length + ([]:List Keyword).length + (if ([]:List Keyword).isEmpty then 0 else 1) < 30))=true
 line:(apos.endLine == cpos.line)=true
 trees:backTo cpos (starEach [e,f] X.env)=[(false,eval e X.env),(false,eval f X.env)]
section
variable {X:Cx} {pins:List (Addr × Obj)} {σ:St} {H:Hp} {s:Shared} {a:Addr} {y d:V} {u r:Value} {o:Option V} {A:Around} {E:Value→Shared→Prop}
end
section
variable {X:Cx} {o e f:Expr} {apos cpos:Pos} {td ty tx:TE}
end
section
variable {X:Cx} {pins:List (Addr × Obj)} {σ:St} {H:Hp} {s:Shared} {a:Addr} {kvs:List (Key × V)} {A:Around} {E:Value→Shared→Prop}
end
section
variable {X:Cx} {pins:List (Addr × Obj)} {σ:St} {H:Hp} {s:Shared} {a:Addr} {y:V} {u:Value} {A:Around} {E:Value→Shared→Prop}
end
end L2
namespace Att
open PySem PySem.W PySem.Calls PyProof.Rows
theorem yo {P:Params} {h:Heap}:∀ (ns:List Int) (vs:List Value),WellAll P h vs (ns.map WData.int)→IntsAre vs ns:=by
 intro ns
 induction ns with
 | nil=>
  intro vs w;rw [List.map_nil] at w;cases w;exact .nil
 | cons n ns ih=>
  intro vs w;rw [List.map_cons] at w;cases w with
  | cons a b=>
   cases a;exact .cons _ _ (ih _ b)
theorem QC {l:OpenLaw} {n:Nat} (hn:l.most=some n) {P:Params} {h:Heap} {args:List WData} {vals:List Value}
  (hpre:l.row.toRowW.claim.pre args=true) (hwl:WellAll P h vals args) :
  ∃ a vs ns,vals=[Value.ref a]∧args=[WData.list (ns.map WData.int)]∧h.get? a=some { cls:=.type "list",data:=.seq vs.toArray }∧IntsAre vs ns∧ns.length ≤ n:=by
 have hsh:WShape.hasAll [] args [.list .int]=true:=(pre_splitW hpre).1;have hc:l.pre.holds [] { args:=args }=true:=(pre_splitW hpre).2;obtain ⟨d,r,rfl,h1,h2⟩:=hasAllW_cons hsh;obtain rfl:=hasAllW_nil h2;obtain ⟨xs,rfl,h3⟩:=hasW_list h1;obtain ⟨ns,rfl⟩:=items_int h3;have hlen:ns.length ≤ n:=by
  unfold OpenLaw.pre at hc;have h4:(WTm.not (.lt (.lit (.int (n:Int))) (.len (.arg 0)))).holds [] { args:=[.list (ns.map .int)] }=true:=by
   have h4:=(holds_andW hc).1;rw [hn] at h4;exact h4
  have h5:=condW_of h4 (w_not (w_lt w_lit (w_len_list (w_arg rfl))));rw [List.length_map] at h5;refine Nat.le_of_not_lt fun q=>?_
  have q':(n:Int) < ((ns.length:Nat):Int):=by omega
  first
   | (rw [decide_eq_true q'] at h5;exact absurd h5 (by decide))
   | (simp at h5;omega)
 cases hwl with
 | cons w1 w2=>
  cases w2;cases w1 with
  | list ho hall=>exact ⟨_,_,ns,rfl,rfl,ho,yo ns _ hall,hlen⟩
theorem mD (l:OpenLaw) (args:List WData):l.row.toRowW.claim.post args (.bool true) args=true:=
 postW_of (r:=l.row.toRowW) (X:=(true == true))
  (show WShape.has [] (.bool true) .bool=true by first | rfl | decide | simp [WShape.has,WShape.arms,WShape.armsAll])
  (show (WTm.eq .res (.lit (.bool true))).value [] { args:=args,res:=some (.bool true),after:=args }=some (.bool (true == true)) from w_eq_bool (w_res rfl) w_lit) rfl
theorem attach_call {l:OpenLaw} {n:Nat} {q:Program} {loose:List Str} {XP:(Str→Option Value)→Heap→Prop} {YP:World→Heap→Prop} {d:DefRec}
  (hn:l.most=some n) (hdf:d.params.defaults=[])
  (call:∀ (w:World) (s₀ s₁:Shared) (mg mb:Str→Option Value) (fa:Addr) (o:Obj) (pm cd doc:Value) (a:Addr) (vs:List Value) (ns:List Int),
   Ground q loose [] XP w s₀ mg mb s₁.heap→YP w s₁.heap →
   s₁.heap.get? fa=some o→o.data=.func (docDef d.name d.params d.body d.scope pm cd doc)→s₁.heap.CodeRec cd d.name→mg d.name=some (.ref fa) →
   s₁.heap.get? a=some { cls:=.type "list",data:=.seq vs.toArray }→IntsAre vs ns→ns.length ≤ n→s₁.gens=#[] →
   codeAny (model l.prog w) callerA (.call (.ref fa) ⟨[.ref a],[]⟩) (fun r s'=>r=.ok (.ret (.bool true))∧OldK s₁.heap s'.heap∧s'.os=s₁.os∧AllBare s'.gens) s₁) :
  WalkO q loose XP YP l.row.toRowW d [] (fun f vs=>PySem.call f vs):=by
 intro w s₀ s₁ mg mb G Y fa o pm cd doc dV kV ho hd hcd hD hmg hg args vals as hpre hlay hrd hwl hlo;obtain rfl:dV=.none:=Dflts.none hD hdf;obtain rfl:kV=.none:=Dflts.noKw hD;obtain ⟨a,vs,ns,rfl,rfl,hobj,hints,hlen⟩:=QC hn hpre hwl;refine enter_call (codeAny_mono (call w s₀ s₁ mg mb fa o pm cd doc a vs ns G Y ho (fd_plain hd) hcd hmg hobj hints hlen hg) fun r s' hq=>?_);obtain ⟨rfl,h2,h3,h4⟩:=hq;exact ⟨.inl ⟨.bool true,.bool true,[],rfl,fun _=>rfl,.bool true,mD l _,fun _=>⟨List.Pairwise.nil,fun _ hm=>(nomatch hm)⟩⟩,h2,h3,h4⟩
section
variable {prog:Program} {w:World} {A:Around} {E:Value→Shared→Prop} {s:Shared} {K:Frag}
end
end Att
namespace L2
open PySem PySem.Spec PyProof.Rows
theorem Mv:∀ {vs:List Value} {ns:List Int},IntsAre vs ns→Pc (ns.map V.int) vs
 | _,_,.nil=>.nil
 | _,_,.cons n t h=>.cons ⟨t,rfl⟩ (Mv h)
noncomputable def sJ (H:Hp):Prop:=∀ b,H b=none∨∃ o xs,H b=some (.frz o (.lst xs))
theorem mF {P:Program} {w:World} {K:PySem.W.Frag} {mg mb:Str→Option Value} {CX:CXT} {k:Nat} {fa a:Addr} {fd:FuncData} {x:Str} {sp:Sp} {s₁:Shared} {vs:List Value} {ns:List Int}
  (KX:K.In s₁.heap) (hns:s₁.heap.Ns mainGlobals mg) (hb:s₁.heap.Ns builtinsNs mb) (hbb:∀ x:Str,x ≠ "__name__" → mb x=bootBuiltins x) (hlim:s₁.heap.NoLimit) (hg:s₁.gens=#[])
  (ha:s₁.heap.get? a=some { cls:=.type "list",data:=.seq vs.toArray }) (hi:IntsAre vs ns) (hl:ns.length ≤ sizeLine) (hr:ci k callerA)
  (F:∀ base:Heap,K.In base→base.Ns mainGlobals mg→Eb P w K mg base CX k fa fd [x] sp) (hbind:∀ (s:Shared) (u:Value),BindsTo s fd ⟨[u],[]⟩ [(x,u)])
  (hsp:∀ H:Hp,sJ H→SqL K H a (ns.map V.int)→sp [.ref a] H (fun v _=>v=.bl true) fun _ _ _=>False)
  (hCX:∀ H e s',CX [] H s₁ (fun _ _ _=>False) e s'→False) :
  codeAny (model P w) callerA (.call (.ref fa) ⟨[.ref a],[]⟩) (fun r s'=>r=.ok (.ret (.bool true))∧OldK s₁.heap s'.heap∧s'.os=s₁.os∧AllBare s'.gens) s₁:=by
 have rv:=Mv hi;have lenV:=hi.length;have core:∀ H:Hp,sJ H→SqL K H a (ns.map V.int)→HOk P w H s₁.heap→(∀ b,H b ≠ none→b=a)→(H a ≠ none→K.lookup a=none) →
   codeAny (model P w) callerA (.call (.ref fa) ⟨[.ref a],[]⟩) (fun r s'=>r=.ok (.ret (.bool true))∧OldK s₁.heap s'.heap∧s'.os=s₁.os∧AllBare s'.gens) s₁:=by
  intro H hO hS hok hA hK;have base_of:∀ {b:Addr} {o:Obj},s₁.heap.get? b=some o→H b=none→(MF s₁.heap H).get? b=some o:=fun e n=>OF e n
  have noA:∀ {b:Addr} {o:Obj} {es:Array DictEntry} {ep:Nat},s₁.heap.get? b=some o→o.data=.dict es ep→H b=none:=fun {b o es ep} e d=>by
   cases q:H b with
   | none=>rfl
   | some u=>
    have e':b=a:=hA b (by rw [q];simp);subst e';rw [ha] at e;cases e;have d':Data.seq vs.toArray _=Data.dict es ep:=d;cases d'
  have nsK:∀ {b:Addr} {m:Str→Option Value},s₁.heap.Ns b m→(MF s₁.heap H).Ns b m:=fun {b m} ⟨o,es,ep,e,d,r⟩=>⟨o,es,ep,base_of e (noA e d),d,r⟩
  have hKb:K.In (MF s₁.heap H):=fun b o e=>base_of (KX b o e) (by
   cases q:H b with
   | none=>rfl
   | some u=>
    have e':b=a:=hA b (by rw [q];simp);subst e';rw [hK (by rw [q];simp)] at e;cases e)
  have hM:Mod K mg (MF s₁.heap H):=⟨hKb,nsK hns,⟨mb,nsK hb,hbb⟩,let ⟨mc,h1,h2⟩:=hlim;⟨mc,nsK h1,h2⟩⟩;have e0:AC P w K mg (MF s₁.heap H) callerA [] s₁ H:=⟨rfl,hM,fun b o e=>yI e,Nat.le_of_eq (gC _ _),trivial,fun b hb=>absurd (show b ∈ ([]:List Addr) from hb) (by simp),hok,.of_eq hg⟩;refine codeAny_mono ((F _ hKb (nsK hns)).run callerA [] s₁ H ⟨[.ref a],[]⟩ [.ref a] [.ref a] _ _ hr e0 (hbind s₁ (.ref a)) (.cons rfl .nil) (hsp H hO hS)) fun r s' h=>?_
  cases r with
  | error e=>exact (hCX H e s' h).elim
  | ok fl=>
   cases fl with
   | next=>exact False.elim h
   | brk=>exact False.elim h
   | cont=>exact False.elim h
   | ret u=>
    obtain ⟨v,H',os,bare,un,hok',r',q⟩:=h;have q':v=.bl true:=q;subst q';obtain rfl:u=Value.bool true:=r';refine ⟨rfl,OldK.of_keep fun b o e=>?_,os,bare⟩;cases q:H b with
    | none=>exact un.keep b o e q (by intro z;exact absurd (show b ∈ ([]:List Addr) from z) (by simp)) (by simp)
    | some u=>
     rcases hO b with z | ⟨ob,xs,z⟩
     ·rw [q] at z;cases z
     ·have z2:=un.frzs b ob _ z;obtain ⟨e1,_⟩:=hok b _ z;obtain ⟨e2,_⟩:=hok' b _ z2;rw [e] at e1;cases e1;exact e2
 cases hk:K.lookup a with
 | some o=>
  have e:=KX a o hk;rw [ha] at e;cases e;refine core (fun _=>none) (fun _=>.inl rfl) (.inr ⟨_,vs.toArray,_,hk,rfl,rfl,rfl,by rw [List.size_toArray,lenV];exact hl,by simpa using rv⟩) (fun b u z=>by have z':(none:Option HO)=some u:=z;cases z') (fun b z=>absurd rfl z) fun z=>absurd rfl z
 | none=>
  refine core (fun b=>if b=a then some (.frz { cls:=.type "list",data:=.seq vs.toArray } (.lst (ns.map V.int))) else none) (fun b=>?_) (.inl (.inr ⟨{ cls:=.type "list",data:=.seq vs.toArray },if_pos rfl⟩)) (fun b u z=>?_) (fun b z=>?_) fun _=>hk
  ·by_cases hb:b=a
   ·exact .inr ⟨_,_,if_pos hb⟩
   ·exact .inl (if_neg hb)
  ·by_cases hb:b=a
   ·have z':=(if_pos hb).symm.trans z;cases z';subst hb;exact ⟨ha,by rw [List.length_map];exact hl,vs,_,rv,ha⟩
   ·have z':=(if_neg hb).symm.trans z;cases z'
  ·by_cases hb:b=a
   ·exact hb
   ·exact absurd (if_neg hb) z
end L2
namespace L2
open PySem PySem.Spec PyProof.Rows
noncomputable abbrev KOf {K:PySem.W.Frag} {h:Heap} (_:K.In h):PySem.W.Frag:=K
theorem mI {l:PySem.W.OpenLaw} {n k:Nat} {q:Program} {loose:List Str} {XP:(Str→Option Value)→Heap→Prop} {YP:World→Heap→Prop} {d:DefRec} {K:Params→PySem.W.Frag} {CX:World→CXT} {sp:World→Sp} {x:Str}
  (hn:l.most=some n) (hn2:n ≤ sizeLine) (hdf:d.params.defaults=[]) (hr:ci k callerA)
  (hY:∀ (w:World) (h:Heap),YP w h→(K w.params).In h)
  (F:∀ (w:World) (mg:Str→Option Value) (fa:Addr) (h:Heap),(K w.params).In h→h.Ns mainGlobals mg→mg d.name=some (.ref fa) →
   ∃ fd:FuncData,(∀ (s:Shared) (u:Value),BindsTo s fd ⟨[u],[]⟩ [(x,u)]) ∧
    ∀ base:Heap,(K w.params).In base→base.Ns mainGlobals mg→Eb l.prog w (K w.params) mg base (CX w) k fa fd [x] (sp w))
  (hsp:∀ (w:World) (H:Hp) (a:Addr) (ns:List Int),ns.length ≤ n→sJ H→SqL (K w.params) H a (ns.map V.int)→sp w [.ref a] H (fun v _=>v=.bl true) fun _ _ _=>False)
  (hCX:∀ (w:World) (H:Hp) (s:Shared) (e:Value) (s':Shared),CX w [] H s (fun _ _ _=>False) e s'→False) :
  PySem.W.WalkO q loose XP YP l.row.toRowW d [] (fun f vs=>PySem.call f vs):=by
 refine Att.attach_call hn hdf fun w s₀ s₁ mg mb fa o pm cd doc a vs ns G Y ho hd hcd hmg hobj hints hlen hg=>?_
 have KX:=hY w _ Y;obtain ⟨fd,hb,hF⟩:=F w mg fa _ KX G.T.g hmg;exact mF KX G.T.g G.T.b G.T.builtins G.T.nolimit hg hobj hints (Nat.le_trans hlen hn2) hr hF hb (fun H hO hS=>hsp w H a ns hlen hO hS) fun H e s'=>hCX w H s₁ e s'
theorem xG {l:PySem.W.OpenLaw} {n k:Nat} {q:Program} {loose:List Str} {XP:(Str→Option Value)→Heap→Prop} {YP:World→Heap→Prop} {d:DefRec} {K:Params→PySem.W.Frag} {CX:CXT} {sp:PySem.W.Frag→Sp} {x:Str}
  (hn:l.most=some n) (hn2:n ≤ sizeLine) (hdf:d.params.defaults=[]) (hr:ci k callerA)
  (hY:∀ (w:World) (h:Heap),YP w h→(K w.params).In h)
  (F:∀ (w:World) (mg:Str→Option Value) (fa:Addr) (h:Heap),(K w.params).In h→h.Ns mainGlobals mg→mg d.name=some (.ref fa) →
   ∃ fd:FuncData,(∀ (s:Shared) (u:Value),BindsTo s fd ⟨[u],[]⟩ [(x,u)]) ∧
    ∀ base:Heap,(K w.params).In base→base.Ns mainGlobals mg→Eb l.prog w (K w.params) mg base CX k fa fd [x] (sp (K w.params)))
  (hsp:∀ (K:PySem.W.Frag) (H:Hp) (a:Addr) (ns:List Int),ns.length ≤ n→sJ H→SqL K H a (ns.map V.int)→sp K [.ref a] H (fun v _=>v=.bl true) fun _ _ _=>False)
  (hCX:∀ (H:Hp) (s:Shared) (e:Value) (s':Shared),CX [] H s (fun _ _ _=>False) e s'→False) :
  PySem.W.WalkO q loose XP YP l.row.toRowW d [] (fun f vs=>PySem.call f vs):=
 mI (K:=K) (CX:=fun _=>CX) (sp:=fun w=>sp (K w.params)) hn hn2 hdf hr hY F (fun w H a ns h1 h2 h3=>hsp (K w.params) H a ns h1 h2 h3) fun _ H s e s'=>hCX H s e s'
end L2
namespace L2
open PySem PySem.Spec PyProof.Rows
noncomputable def Tc (s:Stmt) (j:Nat):Stmt:=match s with
 | .ClassDef _ _ _ body _ _ _ _ _ _ _=>body.getD j (.Pass ⟨0,0,0,0⟩)
 | _=>.Pass ⟨0,0,0,0⟩
noncomputable def Dt (s:Stmt):Arguments:=match s with
 | .FunctionDef _ a _ _ _ _ _ _ _ _=>a
 | _=>{ posonlyargs:=[],args:=[],vararg:=none,kwonlyargs:=[],kw_defaults:=[],kwarg:=none,defaults:=[] }
noncomputable def zm (s:Stmt):List Stmt:=match s with
 | .FunctionDef _ _ b _ _ _ _ _ _ _=>b
 | _=>[]
noncomputable def pb (s:Stmt):Scope:=match s with
 | .FunctionDef _ _ _ _ _ _ sc _ _ _=>sc
 | _=>{ kind:=.function,names:=[],isGenerator:=false,isCoroutine:=false }
noncomputable abbrev CX0:CXT:=fun _ _ _ _ _ _=>False
noncomputable abbrev E0:XK:=fun _ _ _=>False
theorem Rc {X:Cx}:Dl CX0 X E0:=fun _ _ _ _ _ _ _ h=>h.elim
structure Fun (K:PySem.W.Frag) (x qual:Str) (st:Stmt) (f:Addr) (fd:FuncData):Prop where
 ex:∃ (oc:Value) (od:Option Addr) (kV doc pm:Value) (an:Option Addr) (cdv ct:Value) (osl:Array (Option Value)),
  fd=PySem.W.fnOf x qual (Dt st) (zm st) (pb st) .none kV doc pm an cdv ct∧K.lookup f=some ⟨oc,od,.func fd,osl⟩∧PySem.W.codeIn K cdv qual=true
 kp:PySem.W.keepIn K (.ref f)=true
section
variable {P:Program} {w:World} {K:PySem.W.Frag} {mg:Str→Option Value} {base:Heap}
theorem Fun.ok {x qual:Str} {st:Stmt} {f:Addr} {fd:FuncData} {N ps:List Str} {k:Nat} {sp:Sp} (F:Fun K x qual st f fd) (S:xb N ps (pb st)) (len:∀ vs H Q E,sp vs H Q E→vs.length=ps.length)
  (hbody:∀ (cdv:Value) (A:Around) (outer:List Env) (s:Shared) (H:Hp) (vs:List V) (Q:VK) (E:XK),ci k (A.deeper (envOfC qual (pb st) s.heap.objs.size f cdv))→sp vs H Q E →
   ∃ t,PSs (lD CX0 P w K mg base N qual (pb st) f cdv A outer s H E).nox (zm st) t∧t { nx:=fun _ H'=>Q .non H',rt:=Q } (start N vs) H):Eb P w K mg base CX0 (k + 1) f fd ps sp:=by
 obtain ⟨oc,od,kV,doc,pm,an,cdv,ct,osl,rfl,lk,hcd⟩:=F.ex;refine eL lk hcd S len fun A outer s H vs Q E hr hsp=>?_
 obtain ⟨t,h,q⟩:=hbody cdv A outer s H vs Q E hr hsp;exact ⟨t,h.nox,q⟩
theorem Fun.binds {x qual:Str} {st:Stmt} {f:Addr} {fd:FuncData} {ps:List Str} (F:Fun K x qual st f fd)
  (h:∀ (kV doc pm:Value) (an:Option Addr) (cdv ct:Value) (us:List Value),us.length=ps.length→bindArgs (PySem.W.fnOf x qual (Dt st) (zm st) (pb st) .none kV doc pm an cdv ct) ⟨us,[]⟩=pure (ps.zip us)):Lb K fd ps []:=by
 obtain ⟨oc,od,kV,doc,pm,an,cdv,ct,osl,rfl,lk,hcd⟩:=F.ex;exact .all (h kV doc pm an cdv ct)
theorem PK {x qual:Str} {st:Stmt} {f:Addr} {oc:Value} {od an:Option Addr} {osl:Array (Option Value)} {kV doc pm cdv ct:Value} (l:K.lookup f=some ⟨oc,od,.func (PySem.W.fnOf x qual (Dt st) (zm st) (pb st) .none kV doc pm an cdv ct),osl⟩)
  (c:PySem.W.codeIn K cdv qual=true) (k:PySem.W.keepIn K (.ref f)=true):Fun K x qual st f (PySem.W.fnOf x qual (Dt st) (zm st) (pb st) .none kV doc pm an cdv ct):=⟨⟨oc,od,kV,doc,pm,an,cdv,ct,osl,rfl,l,c⟩,k⟩
end
theorem Sw {A:Around} {k:Nat} (hr:ci k A):A.units + 1 < cLine:=Nat.lt_of_le_of_lt (Nat.add_le_add_left (by decide:1 ≤ 64) _) hr.units
section
variable {X:Cx}
theorem pv (i:Nat) {x:Str} {pos:Pos} (hN:X.N[i]? = some x:=by rfl) (hv:Vis X.env.scope x:=by first | exact Or.inl rfl | exact Or.inr (Or.inl rfl) | exact Or.inr (Or.inr rfl)) (hd:(x == ("__debug__" : Str))=false:=by decide)
  (hcd:(x == ("__classdict__" : Str))=false:=by decide):PE X (.Name x pos) (mM i):=tK hN hv hd hcd
end
noncomputable def Ob (H H':Hp):Prop:=∀ b o,H b=some o→H' b=some o
theorem Ob.refl (H:Hp):Ob H H:=fun _ _ h=>h
theorem Ob.trans {H H1 H2:Hp} (a:Ob H H1) (b:Ob H1 H2):Ob H H2:=fun c o h=>b c o (a c o h)
theorem Ob.free {H H':Hp} (e:Ob H H') {l:Addr} (h:H' l=Option.none):H l=Option.none:=by
 cases q:H l with
 | none=>rfl
 | some o=>
  rw [e l o q] at h;cases h
theorem Ob.seq {K:PySem.W.Frag} {H H':Hp} {a:Addr} {xs:List V} (e:Ob H H') (h:SqL K H a xs):SqL K H' a xs:=by
 rcases h with (h | ⟨o,h⟩) | h
 ·exact .inl (.inl (e _ _ h))
 ·exact .inl (.inr ⟨o,e _ _ h⟩)
 ·exact .inr h
section
variable {κ:Type} [DecidableEq κ]
end
end L2
set_option maxHeartbeats 4000000
namespace L2
open PySem PySem.Spec PyProof.Rows
noncomputable def cu (cells:List (Str × Addr)):List (Str × NameKind)→List (Str × Addr)→List (Str × Addr)
 | [],acc=>acc
 | (n,k) :: r,acc=>if k == .free then (match cells.lookup n with | some c=>cu cells r ((n,c) :: acc) | none=>cu cells r acc) else cu cells r acc
theorem gx {env:Env}:∀ (names:List (Str × NameKind)) (acc:List (Str × Addr)),(∀ y ∈ names,y.2=.free→∃ c,env.cells.lookup y.1=some c) →
  (forIn names acc (fun (x:Str × NameKind) (cs:List (Str × Addr))=>(if (x.2 == .free)=true then do let a ← cellOf env x.1;pure (ForInStep.yield ((x.1,a) :: cs)) else pure (ForInStep.yield cs):Sem (ForInStep (List (Str × Addr))))))=pure (cu env.cells names acc)
 | [],acc,_=>rfl
 | (n,k) :: r,acc,h=>by
  have hr:∀ y ∈ r,y.2=.free→∃ c,env.cells.lookup y.1=some c:=fun y hy=>h y (List.mem_cons_of_mem _ hy)
  rw [List.forIn_cons];by_cases hk:(k == NameKind.free)=true
  ·have e:k=.free:=by simpa using hk
   obtain ⟨c,hc⟩:=h (n,k) List.mem_cons_self e;have hc':env.cells.lookup n=some c:=hc;simp only [cu,hk,if_true,hc',cellOf];exact gx r _ hr
  ·simp only [cu,hk];exact gx r _ hr
theorem gD {scope:Scope} {env:Env} (h:∀ y ∈ scope.names,y.2=.free→∃ c,env.cells.lookup y.1=some c):closureFor scope env=pure (cu env.cells scope.names []):=by
 unfold closureFor;exact congrArg (fun t=>t >>= pure) (gx scope.names [] h)
theorem Xn {cells:List (Str × Addr)}:∀ (names:List (Str × NameKind)) (acc:List (Str × Addr)) {x:Str} {c:Addr},(cu cells names acc).lookup x=some c→acc.lookup x=some c∨cells.lookup x=some c
 | [],acc,x,c,h=>.inl h
 | (n,k) :: r,acc,x,c,h=>by
  unfold cu at h;split at h
  ·cases q:cells.lookup n with
   | none=>rw [q] at h;exact Xn r acc h
   | some d=>
    rw [q] at h;rcases Xn r _ h with z | z
    ·rw [List.lookup_cons] at z;by_cases hx:(x == n)=true
     ·rw [hx] at z;have e:x=n:=by simpa using hx
      subst e
      right;rw [q];exact z
     ·have hx':(x == n)=false:=by simpa using hx
      rw [hx'] at z;exact .inl z
    ·exact .inr z
  ·exact Xn r acc h
theorem Ql {cells:List (Str × Addr)}:∀ (names:List (Str × NameKind)) (acc:List (Str × Addr)) {x:Str} {c:Addr},acc.lookup x=some c→cells.lookup x=some c→(cu cells names acc).lookup x=some c
 | [],acc,x,c,h,_=>h
 | (n,k) :: r,acc,x,c,h,hc=>by
  unfold cu;split
  ·cases q:cells.lookup n with
   | none=>exact Ql r acc h hc
   | some d=>
    refine Ql r _ ?_ hc;rw [List.lookup_cons];by_cases hx:(x == n)=true
    ·have e:x=n:=by simpa using hx
     subst e;rw [hx];rw [q] at hc;exact hc
    ·have hx':(x == n)=false:=by simpa using hx
     rw [hx'];exact h
  ·exact Ql r acc h hc
theorem Kk {cells:List (Str × Addr)}:∀ (names:List (Str × NameKind)) (acc:List (Str × Addr)) {x:Str} {c:Addr},(x,NameKind.free) ∈ names→cells.lookup x=some c→(cu cells names acc).lookup x=some c
 | [],_,_,_,h,_=>nomatch h
 | (n,k) :: r,acc,x,c,h,hc=>by
  rcases List.mem_cons.mp h with e | h
  ·cases e;unfold cu;rw [if_pos (by decide),hc];refine Ql r _ ?_ hc;rw [List.lookup_cons];simp
  ·unfold cu;split
   ·cases q:cells.lookup n with
    | none=>exact Kk r acc h hc
    | some d=>exact Kk r _ h hc
   ·exact Kk r acc h hc
theorem fm {α:Type}:∀ {l:List (Str × α)} {x:Str} {a:α},l.lookup x=some a→(x,a) ∈ l
 | [],_,_,h=>by simp at h
 | (n,b) :: r,x,a,h=>by
  rw [List.lookup_cons] at h;by_cases hx:(x == n)=true
  ·have e:x=n:=by simpa using hx
   subst e;rw [hx] at h;have e2:b=a:=Option.some.inj h;subst e2;exact List.mem_cons_self
  ·have hx':(x == n)=false:=by simpa using hx
   rw [hx'] at h;exact List.mem_cons_of_mem _ (fm h)
theorem pw {env:Env} {scope:Scope} {x:Str} {k:NameKind} (h:(relabel scope env).names.lookup x=some k) (hk:k=.cell∨k=.free) (hc:∀ y ∈ scope.names,y.2 ≠ .cell):(x,NameKind.free) ∈ scope.names:=by
 have h1:=fm h;obtain ⟨⟨n,j⟩,hm,e⟩:=List.mem_map.mp h1;have e':(if (j == NameKind.free && env.scope.kind == .function && env.kindOf n == some .cell)=true then (n,NameKind.cell) else (n,j))=(x,k):=e;split at e'
 ·rename_i hcond;have e1:n=x:=(Prod.mk.inj e').1;subst e1;have hj:j=.free:=by
   simp only [Bool.and_eq_true] at hcond;simpa using hcond.1.1
  subst hj;exact hm
 ·have e1:n=x:=(Prod.mk.inj e').1;have e2:j=k:=(Prod.mk.inj e').2;subst e1;subst e2;rcases hk with z | z
  ·exact absurd z (hc _ hm)
  ·subst z;exact hm
theorem jk {env:Env} {scope:Scope} {x:Str} (h:scope.names.lookup x=some .free):(relabel scope env).names.lookup x=some .cell∨(relabel scope env).names.lookup x=some .free:=by
 have all:∀ (names:List (Str × NameKind)),names.lookup x=some .free →
   (names.map fun (n,k)=>if (k == NameKind.free && env.scope.kind == .function && env.kindOf n == some .cell) then (n,NameKind.cell) else (n,k)).lookup x=some .cell ∨
   (names.map fun (n,k)=>if (k == NameKind.free && env.scope.kind == .function && env.kindOf n == some .cell) then (n,NameKind.cell) else (n,k)).lookup x=some .free:=by
  intro names
  induction names with
  | nil=>intro h;simp at h
  | cons p r ih=>
   obtain ⟨n,k⟩:=p;intro h;rw [List.map_cons];by_cases hx:(x == n)=true
   ·simp only [List.lookup_cons,hx] at h;have hk:k=.free:=Option.some.inj h;subst hk;by_cases hc:(NameKind.free == NameKind.free && env.scope.kind == .function && env.kindOf n == some .cell)=true
    ·left;simp only [if_pos hc,List.lookup_cons,hx]
    ·right;simp only [if_neg hc,List.lookup_cons,hx]
   ·have hx':(x == n)=false:=by simpa using hx
    simp only [List.lookup_cons,hx'] at h;by_cases hc:(k == NameKind.free && env.scope.kind == .function && env.kindOf n == some .cell)=true
    ·simp only [if_pos hc,List.lookup_cons,hx'];exact ih h
    ·simp only [if_neg hc,List.lookup_cons,hx'];exact ih h
 exact all scope.names h
noncomputable abbrev Cx.block (X:Cx) (scope:Scope) (C:Addr) (N:List Str) (s:Shared) (H:Hp) (fp:List Addr):Cx where
 prog:=X.prog
 w:=X.w
 K:=X.K
 mg:=X.mg
 base:=X.base
 A:=X.A
 N:=N
 s₀:=s
 H₀:=H
 env:=compEnvC scope (cu X.env.cells scope.names []) C X.env
 outer:=X.stack
 stack:=X.stack
 ex:=fp
 fn:=fun _=>false
 calm:=X.calm
 pn:=[]
 xe:=fun _ _=>False
structure jn (env:Env) (scope:Scope):Prop where
 kind:scope.kind=.function
 nocell:∀ y ∈ scope.names,y.2 ≠ .cell
 fr:∀ y ∈ scope.names,y.2=.free→env.kindOf y.1=some .cell∨env.kindOf y.1=some .free
 loc:∀ x ∈ scope.names,x.2=.local→scope.names.lookup x.1=some .local
noncomputable def blk (sel:List (Option Nat)) (σ:St):St:=sel.map fun o=>o.bind fun j=>(σ[j]?).join
noncomputable def KA (M:List Str) (scope:Scope) (N:List Str) (sel:List (Option Nat)):Prop:=
 sel.length=N.length∧∀ (i j:Nat) (x:Str),sel[i]? = some (some j)→N[i]? = some x→M[j]? = some x∧scope.names.lookup x=some .free
section
variable {X:Cx} {pins:List (Addr × Obj)} {σ:St} {H:Hp} {s:Shared} {scope:Scope} {fp:List Addr} {C:Addr} {N:List Str}
theorem jn.cells (S:jn X.env scope) (ok:X.Ok):∀ y ∈ scope.names,y.2=.free→∃ c,X.env.cells.lookup y.1=some c:=fun y hy e=>ok.has y.1 (S.fr y hy e)
theorem Sr {x:Str} {c:Addr} (h:(cu X.env.cells scope.names []).lookup x=some c):X.env.cells.lookup x=some c:=by
 rcases Xn _ _ h with z | z
 ·simp at z
 ·exact z
theorem Ux (I:Inv X pins σ H s) (S:jn X.env scope) (hf:∀ b ∈ fp,bu X pins H b) (hs:∀ b ∈ fp,b < s.heap.objs.size) (hC:s.heap.objs.size ≤ C):(X.block scope C N s H fp).Ok where
 mod:=I.ok.mod
 kind:=S.kind
 glob:=I.ok.glob
 blt:=I.ok.blt
 above:=hC
 inj:=fun x y c h1 h2=>I.ok.inj x y c (Sr h1) (Sr h2)
 has:=fun x h=>by
  have hk:∃ k,(relabel scope X.env).names.lookup x=some k∧(k=.cell∨k=.free):=by
   rcases h with h | h
   ·exact ⟨_,h,.inl rfl⟩
   ·exact ⟨_,h,.inr rfl⟩
  obtain ⟨k,h1,h2⟩:=hk;have hm:=pw h1 h2 S.nocell;obtain ⟨c,hc⟩:=S.cells I.ok _ hm rfl;exact ⟨c,Kk _ _ hm hc⟩
 cab:=fun _ _ h _=>nomatch h
 hd:=I.ok.hd
 frames:=I.ok.frames
 stk:=.inl rfl
 exf:=fun b hb=>⟨Nat.ne_of_lt (Nat.lt_of_lt_of_le (hs b hb) hC),fun x c e=>(hf b hb).2.2.2.2.1 x c (Sr e)⟩
 bs:=I.bs
 bsz:=Nat.le_trans I.ok.bsz I.sz
 noex:=fun b o e hb=>by
  rcases (hf b hb).2.2.2.1 with z | z
  ·exact I.ok.noex b o e z
  ·exact absurd (Nat.lt_of_lt_of_le (Nat.lt_of_lt_of_le (Heap.lt_size e) I.ok.bsz) z) (Nat.lt_irrefl _)
 exfs:=fun b hb hz=>by
  rcases List.mem_cons.mp (I.stkSub b hz) with z | z
  ·exact (hf b hb).2.1 z
  ·exact (hf b hb).2.2.1 z
 funs:=I.stack
 frf:=I.stkFree
theorem sE {h':Heap} {t':Nat} {m:Str→Option Value} {sel:List (Option Nat)} (I:Inv X pins σ H s) (S:jn X.env scope) (hf:∀ b ∈ fp,bu X pins H b) (hs:∀ b ∈ fp,b < s.heap.objs.size) (hC:s.heap.objs.size ≤ C)
  (k:∀ b o,s.heap.get? b=some o→h'.get? b=some o) (hn:h'.Ns C m) (hsel:KA X.N scope N sel):Inv (X.block scope C N s H fp) [] (blk sel σ) H { s with heap:=h',toks:=t' } where
 ok:=Ux I S hf hs hC
 os:=rfl
 bare:=I.bare
 base:=Un.kept k
 loc:=by
  refine ⟨m,hn,fun i x v e1 e2 e3=>?_⟩;obtain ⟨m0,hn0,hl⟩:=I.loc;obtain ⟨j,ej,eσ⟩:∃ j,sel[i]? = some (some j)∧σ[j]? = some (some v):=by
   unfold blk at e2;rw [List.getElem?_map] at e2;cases q:sel[i]? with
   | none=>rw [q] at e2;cases e2
   | some o=>
    rw [q] at e2;cases o with
    | none=>cases e2
    | some j=>
     refine ⟨j,rfl,?_⟩;have e2':(σ[j]?).join=some v:=Option.some.inj e2;cases r:σ[j]? with
     | none=>rw [r] at e2';cases e2'
     | some z=>rw [r] at e2';exact congrArg some e2'
  obtain ⟨eN,hfr⟩:=hsel.2 i j x ej e1;have hm:=fm hfr;have hk:=S.fr _ hm rfl;have hv:Vis X.env.scope x:=hk.elim (fun z=>.inr (.inl z)) fun z=>.inr (.inr z)
  obtain ⟨u,r,l⟩:=hl j x v eN eσ hv;refine ⟨u,r,?_⟩;rcases l with ⟨hloc,_⟩ | ⟨_,c,hc,hcell⟩
  ·rcases hk with z | z <;> (have z':X.env.kindOf x=_:=z;rw [hloc] at z';cases z')
  ·refine .inr ⟨?_,c,Kk _ _ hm hc,?_⟩
   ·exact jk hfr
   ·obtain ⟨o,ho,hd⟩:=hcell;exact ⟨o,k _ _ ho,hd⟩
 cell:=fun x c e=>by
  obtain ⟨v,o,ho,hd⟩:=I.cell x c (Sr e);exact ⟨v,o,k _ _ ho,hd⟩
 free:=I.hok.fresh hC
 freeC:=fun x c e=>I.freeC x c (Sr e)
 pin:=fun p hp=>nomatch hp
 hok:=I.hok.kept k
 len:=by unfold blk;rw [List.length_map];exact hsel.1
theorem Inv.adopt {a:Addr} {o:HO} (I:Inv X pins σ H s) (fo:bu X pins H a) (new:Gd X.prog X.w (upd H a o) s.heap a o):Inv X pins σ (upd H a o) s:=by
 obtain ⟨hn,hL,hfs,hex,hcl,hpn⟩:=fo;refine I.step (g':=s.gens) (d':=s.drawn) (t':=s.toks) (h':=s.heap) (ch:=[a]) (fun b hb=>?_) (fun b o _ _ _ e _=>e) (fun b o _ _ _ e _=>⟨o.slots,e⟩) (fun b o hb e n=>?_) (fun b o _ e=>⟨o,e⟩)
  (fun b xs e=>?_) (fun b o u e=>?_) (fun b ps e=>⟨#[],?_⟩) (fun m hm=>hm) (fun b u e=>?_) I.bare
 ·have e:b=a:=by simpa using hb
  subst e;exact ⟨hex,hL,hcl,hpn⟩
 ·rw [wb (fun z=>hb (by simp [z]))];exact n
 ·rw [wb (Bb e hn)];exact e
 ·rw [wb (Bb e hn)];exact e
 ·rw [wb (Bb e hn),e];simp
 ·by_cases hb:b=a
  ·subst hb;rw [db] at e;cases e;exact new
  ·rw [wb hb] at e;exact (I.hok b u e).stay (fun c v _ q=>q) (fun c q=>by rw [wb (Bb q hn)];exact q) fun c xs q=>by rw [wb (Bb q hn)];exact q
end
theorem uj {prog:Program} {w:World} {A:Around} {R:Result→Shared→Prop} {s:Shared} {elt target iter:Expr} {ifs:List Expr} {scope:Scope} {pos:Pos} {it acc:Value} {env:Env} (I:Nat→Shared→Prop)
  (turn:∀ n s,I n s→wpAny (model prog w) A (pyNext it) (fun r s₁=>match r with
   | none=>R (.ok .next) s₁
   | some v=>wpAny (model prog w) A (letOwnedTupleGo target it v) (fun _ s₀=>wpAny (model prog w) A (assign target env v) (fun _ s₂=>
     wpAny (model prog w) A (forIn ifs true fun c r=>if r=true then do let ok ← isTrue c env (eval c env);pure (ForInStep.yield ok) else pure (ForInStep.yield r)) (fun ok s₃=>
      if ok=true then wpAny (model prog w) A (eval elt env) (fun x s₄=>
       wpAny (model prog w) A (call (.builtin "list.append") [acc,x]) (fun _ s₅=>∃ m,m < n∧I m s₅) (fun _ _=>False) s₄) (fun _ _=>False) s₃
      else ∃ m,m < n∧I m s₃) (fun _ _=>False) s₂) (fun _ _=>False) s₀) (fun _ _=>False) s₁) (fun _ _=>False) s)
  (n:Nat) (h:I n s) :
  codeAny (model prog w) A (.compLoop (.ListComp elt [⟨target,iter,ifs,0⟩] scope pos) 0 it acc env) R s:=by
 refine codeAny_loop rfl I (fun n s hI=>?_) n h;show wpAny _ A ((compTurn (.ListComp elt [⟨target,iter,ifs,0⟩] scope pos) 0 it acc env).onRaise (fun x=>do noteFrame x env;theTreesLotGoes x)) _ _ s;refine wpAny_noted (wpAny_noRaise ?_);rw [compTurn_list];refine wpAny_bind (wpAny_standAt (wpAny_bind (wpAny_mono (turn n s hI) (fun r s₁ h₁=>?_) fun _ _ h'=>h')));cases r with
 | none=>exact wpAny_pure h₁
 | some v=>
  refine wpAny_bind (wpAny_mono h₁ (fun _ s₀ h₀=>?_) fun _ _ h'=>h');refine wpAny_bind (wpAny_mono h₀ (fun _ s₂ h₂=>wpAny_bind (wpAny_mono h₂ (fun ok s₃ h₃=>?_) fun _ _ h'=>h')) fun _ _ h'=>h');cases ok with
  | false=>exact wpAny_pure ⟨rfl,h₃⟩
  | true=>
   exact wpAny_bind (wpAny_bind (wpAny_mono h₃ (fun x s₄ h₄=>wpAny_bind (wpAny_mono h₄ (fun _ s₅ h₅=>wpAny_pure (wpAny_pure ⟨rfl,h₅⟩)) fun _ _ h'=>h')) fun _ _ h'=>h'))
noncomputable def PTs (X:Cx) (ifs:List Expr) (t:TT):Prop:=
 ∀ (pins:List (Addr × Obj)) (s:Shared) (σ:St) (H:Hp) (Q:Bool→Hp→Prop),Inv X pins σ H s→t σ H Q →
  wpAny (model X.prog X.w) X.A (forIn ifs true fun c r=>if r=true then do let ok ← isTrue c X.env (eval c X.env);pure (ForInStep.yield ok) else pure (ForInStep.yield r)) (TP X pins σ Q) X.xe s
noncomputable def bA:TT:=fun _ H Q=>Q true H
theorem rf {X:Cx}:PTs X [] bA:=fun _ _ _ H _ I h=>wpAny_tests_nil ⟨H,I,h⟩
theorem bx {X:Cx} {c:Expr} {t:TT} (h:PT X c t):PTs X [c] t:=fun pins s σ H Q I q=>wpAny_tests_one (h pins s σ H Q I q)
noncomputable def Sub (σ σ':St):Prop:=σ'.length=σ.length∧∀ (i:Nat) (v:V),σ[i]? = some (some v)→σ'[i]? = some (some v)
theorem Sub.refl (σ:St):Sub σ σ:=⟨rfl,fun _ _ h=>h⟩
theorem Sub.set {σ σ':St} {i:Nat} {x:Option V} (h:Sub σ σ') (e:σ[i]? = some none):Sub σ (σ'.set i x):=by
 refine ⟨by rw [List.length_set];exact h.1,fun j v q=>?_⟩;have hj:i ≠ j:=fun z=>by subst z;rw [e] at q;cases q
 rw [List.getElem?_set_ne hj];exact h.2 j v q
noncomputable def lz (J:It) (g:TG) (tc:TT) (te:TE) (σb:St) (Q:VK) (W:Nat→Nat→List V→Hp→Prop):Prop:=∀ i m ys H,W i m ys H →
 (J.stop i H∧∀ p,H p=none→Q (.ref p) (upd H p (.lst ys))) ∨
 (J.go i H∧ys.length < sizeLine∧∀ x H',J.yld i H x H'→g x σb H' fun σ2 H2=>Sub σb σ2∧tc σ2 H2 fun c H3=>if c=true then te σ2 H3 fun y H4=>∃ m',m' < m∧W (i + 1) m' (ys ++ [y]) H4 else ∃ m',m' < m∧W (i + 1) m' ys H3)
noncomputable def dJ (wi:TI) (g:TG) (tc:TT) (te:TE) (sel:List (Option Nat)):TE:=fun σ H Q=>wi σ H fun J H1=>∃ W:Nat→Nat→List V→Hp→Prop,(∃ m,W 0 m [] H1)∧lz J g tc te (blk sel σ) Q W
section
variable {X:Cx} {elt tg iter:Expr} {ifs:List Expr} {scope:Scope} {pos:Pos} {wi:TI} {g:TG} {tc:TT} {te:TE} {N:List Str} {sel:List (Option Nat)}
structure Blk (X:Cx) (scope:Scope) (N:List Str) (tg elt:Expr) (ifs:List Expr) (g:TG) (tc:TT) (te:TE):Prop where
 tgt:∀ C s H fp,PG (X.block scope C N s H fp) tg g
 tests:∀ C s H fp,PTs (X.block scope C N s H fp) ifs tc
 elem:∀ C s H fp,PE (X.block scope C N s H fp) elt te
theorem Blk.of {X:Cx} {scope:Scope} {N:List Str} {tg elt:Expr} {ifs:List Expr} {g:TG} {tc:TT} {te:TE} (h1:∀ C s H fp,PG (X.block scope C N s H fp) tg g)
  (h2:∀ C s H fp,∃ t,PTs (X.block scope C N s H fp) ifs t∧t=tc) (h3:∀ C s H fp,∃ t,PE (X.block scope C N s H fp) elt t∧t=te):Blk X scope N tg elt ifs g tc te:=
 ⟨h1,fun C s H fp=>by obtain ⟨t,h,rfl⟩:=h2 C s H fp;exact h,fun C s H fp=>by obtain ⟨t,h,rfl⟩:=h3 C s H fp;exact h⟩
theorem Nv {pins:List (Addr × Obj)} {s₂:Shared} {σ:St} {H₂:Hp} {Q:VK} {it:Addr} {fp:List Addr} {tn:Nat→Heap→Prop} {J:It} {W:Nat→Nat→List V→Hp→Prop} {E:Value→Shared→Prop} {RR:Value→Addr→Result→Shared→Prop}
  (hc:X.calm=true) (S:jn X.env scope) (hsel:KA X.N scope N sel) (B:Blk X scope N tg elt ifs g tc te) (I2:Inv X pins σ H₂ s₂) (T:wH X.prog X.w X.K tg J fp it tn) (st2:tn 0 s₂.heap) (f2:∀ b ∈ fp,bu X pins H₂ b)
  (w0:∃ m,W 0 m [] H₂) (hW:lz J g tc te (blk sel σ) Q W)
  (fin:∀ D C ys H' s',Inv X pins σ (upd H' D (.lst ys)) s'→(∃ m,s'.heap.Ns C m)→bu X pins (upd H' D (.lst ys)) C→Q (.ref D) (upd H' D (.lst ys))→RR (.ref D) C (.ok .next) s') :
  wpAny (model X.prog X.w) X.A (newList []) (fun acc s₃=>wpAny (model X.prog X.w) X.A (newFunctionEnv scope X.env.globals (cu X.env.cells scope.names []) [] X.env.qual none .none (some X.env)) (fun cenv s₄=>
   codeAny (model X.prog X.w) X.A (.compStart (.ListComp elt [⟨tg,iter,ifs,0⟩] scope pos) 0 (.ref it) acc { cenv with scope:=relabel scope X.env }) (RR acc cenv.locals) s₄) E s₃) E s₂:=by
 refine wpAny_newObj_type (wpAny_newFunctionEnv S.nocell (by intro y hy;simp at hy) (fun h₁ hns₁ hsb₁=>?_) S.kind);dsimp only at hns₁ hsb₁ ⊢;generalize hH2:s₂.heap.push { cls:=.type "list",dict:=none,data:=.seq ([]:List Value).toArray }=H2 at hns₁ hsb₁ ⊢;have hC:H2.objs.size=s₂.heap.objs.size + 1:=by rw [← hH2,Heap.size_push]
 have hDC:s₂.heap.objs.size ≠ H2.objs.size:=by rw [hC];exact Nat.ne_of_lt (Nat.lt_succ_self _)
 have hCle:s₂.heap.objs.size ≤ H2.objs.size:=by rw [hC];exact Nat.le_succ _
 have below:∀ b,b < s₂.heap.objs.size→b ≠ H2.objs.size∧b ≠ s₂.heap.objs.size:=fun b hb=>⟨by rw [hC];exact Nat.ne_of_lt (Nat.lt_succ_of_lt hb),Nat.ne_of_lt hb⟩
 have old:∀ b o,s₂.heap.get? b=some o→h₁.get? b=some o:=fun b o e=>hsb₁.extBut b o (below b (Heap.lt_size e)).1 (Heap.get?_push_of_some _ (hH2 ▸ Heap.get?_push_of_some _ e))
 have hacc:h₁.get? s₂.heap.objs.size=some { cls:=.type "list",data:=.seq ([]:List Value).toArray }:=hsb₁.extBut _ _ hDC (Heap.get?_push_of_some _ (hH2 ▸ Heap.get?_push_size _ rfl));have fps:∀ b ∈ fp,b < s₂.heap.objs.size:=fun b hb=>by
  obtain ⟨o,e,_⟩:=T.obj _ _ st2 b hb;exact Heap.lt_size e
 generalize hCe:H2.objs.size=C at *;generalize hDe:s₂.heap.objs.size=D at *;have st1:tn 0 h₁:=T.keep _ _ _ st2 fun b _ o e=>old b o e
 have IB0:Inv (X.block scope C N s₂ H₂ fp) [] (blk sel σ) H₂ { s₂ with heap:=h₁,toks:=s₂.toks + ([]:List (Str × Value)).length }:=
  sE I2 S f2 (fun b hb=>by rw [hDe];exact fps b hb) (by rw [hDe];exact hCle) old hns₁ hsel
 have hDfs:D ∉ (X.block scope C N s₂ H₂ fp).fs:=fun z=>by
  have z':=I2.stkSub D z;rcases List.mem_cons.mp z' with e | e
  ·exact absurd I2.lt (by rw [← e,hDe];exact Nat.lt_irrefl _)
  ·exact I2.nofs (by rw [hDe];exact Nat.le_refl _) e
 have loop:∀ s₃:Shared,s₃ = { s₂ with heap:=h₁,toks:=s₂.toks + ([]:List (Str × Value)).length } →
   codeAny (model X.prog X.w) X.A (.compLoop (.ListComp elt [⟨tg,iter,ifs,0⟩] scope pos) 0 (.ref it) (.ref D) (compEnvC scope (cu X.env.cells scope.names []) C X.env)) (RR (.ref D) C) s₃:=by
  rintro s₃ rfl;obtain ⟨m0,w0⟩:=w0;refine uj (fun k s'=>∃ i ys us n H',Inv (X.block scope C N s₂ H₂ fp) [(D,{ cls:=.type "list",data:=.seq us n })] (blk sel σ) H' s'∧(∃ vs:List Value,us=vs.toArray∧Pc ys vs)∧ys.length ≤ sizeLine∧tn i s'.heap∧(∀ b ∈ fp,H' b=none)∧W i k ys H') ?_ m0
   ⟨0,[],_,0,H₂,IB0.pins_of fun p hp=>?_,⟨[],rfl,.nil⟩,Nat.zero_le _,st1,fun b hb=>(f2 b hb).1,w0⟩
  ·rintro k s' ⟨i,ys,us,n,H',IB,⟨vs,rfl,rv⟩,hyz,st,fr,w⟩;have fpB:∀ {pl:List (Addr × Obj)} {H'':Hp},(∀ p ∈ pl,p.1=D)→(∀ b ∈ fp,H'' b=none)→∀ b ∈ fp,bu (X.block scope C N s₂ H₂ fp) pl H'' b:=fun {pl H''} hp hn b hb=>
    ⟨hn b hb,(below b (fps b hb)).1,(Ux (N:=N) (C:=C) I2 S f2 (fun b hb=>by rw [hDe];exact fps b hb) (by rw [hDe];exact hCle)).exfs b hb,.inl hb,fun x c e=>(f2 b hb).2.2.2.2.1 x c (Sr e),fun p hpp z=>by
     have hpp':p ∈ pl:=by simpa using hpp
     exact (below b (fps b hb)).2 (by rw [← z];exact hp p hpp')⟩
   have hD1:∀ p ∈ [((D,{ cls:=.type "list",data:=.seq vs.toArray n }):Addr × Obj)],p.1=D:=fun p hp=>by
    have e:p=(D,{ cls:=.type "list",data:=.seq vs.toArray n }):=by simpa using hp
    rw [e]
   rcases hW i k ys H' w with ⟨stop,qn⟩ | ⟨go,hlen,step⟩
   ·refine thn (T.done (X.block scope C N s₂ H₂ fp) rfl rfl rfl hc i _ s' _ H' _ IB (fpB hD1 fr) st stop) fun r s4 hZ1=>?_
    obtain ⟨hr,I4⟩:=hZ1;subst hr;have pD:=I4.pin (D,{ cls:=.type "list",data:=.seq vs.toArray n }) (by simp);have hDn:H' D=none:=pD.2.1;have IX:Inv X pins σ H' s4:=I2.call' (ch:=fp) I4.os I4.base I4.hok I4.bare fun b hb=>⟨(f2 b hb).2.2.2.1,(f2 b hb).2.1,(f2 b hb).2.2.2.2.1,(f2 b hb).2.2.2.2.2⟩
    have foD:bu X pins H' D:=I2.fpOk (by rw [hDe];exact Nat.le_refl _) hDn;have IA:Inv X pins σ (upd H' D (.lst ys)) s4:=IX.adopt foD ⟨hyz,vs,n,rv,pD.1⟩;obtain ⟨mC,hnC,_⟩:=I4.loc;refine fin D C ys H' s4 IA ⟨mC,hnC⟩ (I2.fpOk (by rw [hDe];exact hCle) ?_) (qn D hDn);rw [wb (Ne.symm hDC)];exact I4.free
   ·refine thn (T.item (X.block scope C N s₂ H₂ fp) rfl rfl rfl hc i _ s' _ H' _ IB (fpB hD1 fr) st go) fun r s4 hZ1=>?_
    obtain ⟨u,hr,h4⟩:=hZ1;subst hr;refine thn h4 fun _ s5 hZ1=>?_
    obtain ⟨x,H5,I5,r5,y5,st5,fr5⟩:=hZ1;have I5':=I5.pinned (fpB hD1 fr5) (T.obj _ _ st5);refine thn (B.tgt C s₂ H₂ fp _ s5 _ H5 x u _ I5' r5 (step x H5 y5)) fun _ s6 hZ1=>?_
    obtain ⟨σ6,H6,I6,sb,q6⟩:=hZ1;refine thn (B.tests C s₂ H₂ fp _ s6 σ6 H6 _ I6 q6) fun c s7 hZ1=>?_
    obtain ⟨H7,I7,q7⟩:=hZ1;have again:∀ {σ8:St} {H8:Hp} {s8:Shared},Inv (X.block scope C N s₂ H₂ fp) ([(D,{ cls:=.type "list",data:=.seq vs.toArray n })] ++ Qu fp s5.heap) σ8 H8 s8→tn (i + 1) s8.heap∧(∀ b ∈ fp,H8 b=none):=fun {σ8 H8 s8} I8=>by
     refine ⟨T.keep _ _ _ st5 fun b hb o e=>(I8.pin (b,o) (List.mem_append_right _ (List.mem_append_right _ (mj hb e)))).1,fun b hb=>?_⟩;obtain ⟨o,e,d⟩:=T.obj _ _ st5 b hb;exact (I8.pin (b,o) (List.mem_append_right _ (List.mem_append_right _ (mj hb e)))).2.1
    have back:∀ {H8:Hp} {s8:Shared} {pl:List (Addr × Obj)},Inv (X.block scope C N s₂ H₂ fp) pl σ6 H8 s8→Inv (X.block scope C N s₂ H₂ fp) pl (blk sel σ) H8 s8:=fun {H8 s8 pl} I8=>I8.weak sb.1.symm sb.2
    cases c with
    | false=>
     obtain ⟨m',hm,w'⟩:=q7;obtain ⟨t1,t2⟩:=again I7;exact ⟨m',hm,i + 1,ys,_,n,H7,back I7.unpinned,⟨vs,rfl,rv⟩,hyz,t1,t2,w'⟩
    | true=>
     refine thn (B.elem C s₂ H₂ fp _ s7 σ6 H7 _ I7 q7) fun v s8 hZ1=>?_
     obtain ⟨y,H8,I8,r8,m',hm,w'⟩:=hZ1;obtain ⟨t1,t2⟩:=again I8;have pD:=I8.pin (D,{ cls:=.type "list",data:=.seq vs.toArray n }) (by simp);refine append_at (hsz:=by have:=rv.length;rw [List.size_toArray];omega) pD.1 fun h9 hs9 hD9=>?_
     have IB':Inv (X.block scope C N s₂ H₂ fp) [] (blk sel σ) H8 s8:=(back I8).pins_of fun p hp=>nomatch hp
     have foD:bu (X.block scope C N s₂ H₂ fp) [] H8 D:=⟨pD.2.1,hDC,hDfs,.inr (by show s₂.heap.objs.size ≤ D;rw [hDe];exact Nat.le_refl _),(fun x c e z=>by
      obtain ⟨cv,o,ho,hd⟩:=I8.cell x c e;rw [z,pD.1] at ho;cases ho;cases hd),(fun p hp=>nomatch hp)⟩
     have I9:Inv (X.block scope C N s₂ H₂ fp) [] (blk sel σ) H8 { s8 with heap:=h9 }:=IB'.turned (t':=s8.toks) (it:=D) (fun b o hb e=>(hs9.2 b hb).trans e) foD.1 foD.2.1 foD.2.2.2.1 foD.2.2.2.2.1 foD.2.2.2.2.2;refine ⟨m',hm,i + 1,ys ++ [y],vs.toArray.push v,n + 1,H8,I9.pins_of fun p hp=>?_,⟨vs ++ [v],by simp,Paired.snoc rv r8⟩,by rw [List.length_append,List.length_singleton];omega,T.keep _ _ _ t1 fun b hb o e=>(hs9.2 b (below b (fps b hb)).2).trans e,t2,w'⟩;have e:p=(D,{ cls:=.type "list",data:=.seq (vs.toArray.push v) (n + 1) }):=by simpa using hp
     subst e;exact ⟨hD9,pD.2.1,hDC,hDfs,fun v z=>by cases z⟩
  ·have e:p=(D,{ cls:=.type "list",data:=.seq ([]:List Value).toArray }):=by simpa using hp
   subst e;exact ⟨hacc,I2.hok.fresh (by rw [hDe];exact Nat.le_refl _),hDC,hDfs,fun v z=>by cases z⟩
 exact codeAny_compStart_list (loop _ rfl) (T.self _ 0 _ _ _ st1 (loop _ rfl))
theorem Rh (hc:X.calm=true) (hi:PI X tg iter wi) (S:jn X.env scope) (hsel:KA X.N scope N sel) (B:Blk X scope N tg elt ifs g tc te)
  (hs:∀ x,foldedSetIterable iter X.env x=pure x:=by intro _;rfl):PE X (.ListComp elt [⟨tg,iter,ifs,0⟩] scope pos) (dJ wi g tc te sel):=by
 intro pins s σ H Q I h;rw [eval_ListComp];refine wpAny_comprehension_free (use:=none) rfl hs (gD (S.cells I.ok)) S.kind S.loc ?_;refine thn (hi pins s σ H _ I h) fun v s1 h1=>thn h1 fun itv s2 h2=>?_
 obtain ⟨it,fp,tn,J,H2,e,I2,T,st2,f2,W,w0,hW⟩:=h2;subst e;refine Nv (RR:=fun acc C=>compPost (model X.prog X.w) X.A X.xe none (EP X pins σ Q) acc C) hc S hsel B I2 T st2 f2 w0 hW fun D C ys H' s' I' ⟨m,hm⟩ fo q=>?_
 exact ⟨m,hm,fun h' hsb=>⟨.ref D,_,I'.turned (t':=s'.toks) (it:=C) (fun b o hb e=>(hsb.2 b hb).trans e) fo.1 fo.2.1 fo.2.2.2.1 fo.2.2.2.2.1 fo.2.2.2.2.2,rfl,q⟩⟩
theorem vf {i:Nat} {y:Str} {py spos:Pos} (hN:X.N.Nodup) (hi:X.N[i]? = some y) (hx:Loc X.env.scope y) (hc:X.calm=true) (hit:PI X tg iter wi) (S:jn X.env scope) (hsel:KA X.N scope N sel) (B:Blk X scope N tg elt ifs g tc te)
  (hsw:swapsWith (.ListComp elt [⟨tg,iter,ifs,0⟩] scope pos) (some (.Name y py)) spos.line X.env=pure true) (hf:X.fn y=true∨X.env.scope.names.lookup y=some .local:=by first | exact .inl rfl | exact .inr rfl | assumption)
  (hs:∀ x,foldedSetIterable iter X.env x=pure x:=by intro _;rfl):PS X (.Assign [.Name y py] (.ListComp elt [⟨tg,iter,ifs,0⟩] scope pos) spos) (rJ (dJ wi g tc te sel) (Sq i)):=by
 intro pins s σ H D I h;rw [exec_Assign_Name_used _ _ _ _ hsw];refine wpAny_bind (wpAny_standAt (wpAny_bind ?_));show wpAny _ X.A (do let _ ← comprehension (.ListComp elt [⟨tg,iter,ifs,0⟩] scope pos) scope X.env _ (newList []) false (eval iter X.env) (some (assign (.Name y py) X.env))) _ _ s;refine wpAny_bind (wpAny_mono (wpAny_comprehension_free (use:=some (assign (.Name y py) X.env)) (Q:=fun _ s'=>SP X pins D .next s') rfl hs (gD (S.cells I.ok)) S.kind S.loc ?_) (fun _ s' hq=>wpAny_pure (wpAny_pure hq)) fun _ _ e=>e);refine thn (hit pins s σ H _ I h) fun v s1 h1=>thn h1 fun itv s2 h2=>?_
 obtain ⟨it,fp,tn,J,H2,e,I2,T,st2,f2,W,w0,hW⟩:=h2;subst e;refine Nv (RR:=fun acc C=>compPost (model X.prog X.w) X.A X.xe (some (assign (.Name y py) X.env)) (fun _ s'=>SP X pins D .next s') acc C) hc S hsel B I2 T st2 f2 w0 hW fun Da C ys H' s' I' ⟨m,hm⟩ fo q=>?_
 show wpAny _ X.A (assign (.Name y py) X.env (.ref Da)) _ _ _;refine wpAny_assign_Name (Nu I' hN hi hx (show wd (.ref Da) (.ref Da) from rfl) (fun s3 I3 hZ1=>?_) hf);obtain ⟨a,hsb,ha⟩:=hZ1;have hCa:C ≠ a:=by
  rcases ha with z | z
  ·rw [z];exact fo.2.1
  ·exact fun w=>fo.2.2.2.2.1 y a z w.symm
 refine ⟨m,hm.sameBut hsb hCa,fun h' hsb'=>⟨_,_,I3.turned (t':=s3.toks) (it:=C) (fun b o hb e=>(hsb'.2 b hb).trans e) fo.1 fo.2.1 fo.2.2.2.1 fo.2.2.2.2.1 fo.2.2.2.2.2,q⟩⟩
end
noncomputable def Yg (Pv:Nat→List V→Hp→Prop) (g:TG) (tc:TT) (te:TE) (σb:St) (i:Nat) (x:V) (ys:List V) (H:Hp):Prop:=
 ∀ N:List V→Hp→Prop,(∀ ys' H',Pv (i + 1) ys' H'→N ys' H')→g x σb H fun σ2 H2=>Sub σb σ2∧tc σ2 H2 fun c H3=>if c=true then te σ2 H3 fun y H4=>N (ys ++ [y]) H4 else N ys H3
theorem aB {K:PySem.W.Frag} {a:Addr} {xs:List V} {g:TG} {tc:TT} {te:TE} {σb:St} {Q:VK} {H:Hp} (Pv:Nat→List V→Hp→Prop) (hz:xs.length ≤ sizeLine) (h0:Pv 0 [] H) (hl:∀ i ys H,i ≤ xs.length→Pv i ys H→SqL K H a xs∧ys.length ≤ i)
  (hs:∀ i x ys H,xs[i]? = some x→Pv i ys H→Yg Pv g tc te σb i x ys H) (hd:∀ ys H,Pv xs.length ys H→∀ p,H p=none→Q (.ref p) (upd H p (.lst ys))) :
  ∃ W:Nat→Nat→List V→Hp→Prop,(∃ m,W 0 m [] H)∧lz (Itl K a) g tc te σb Q W:=by
 refine ⟨fun i m ys H=>m=xs.length - i∧i ≤ xs.length∧Pv i ys H,⟨xs.length,by simp,Nat.zero_le _,h0⟩,?_⟩;rintro i m ys H ⟨rfl,hi,p⟩;have q:=(hl i ys H hi p).1;have hyl:=(hl i ys H hi p).2;by_cases hlt:i < xs.length
 ·refine .inr ⟨⟨xs,xs[i],q,by simp [hlt]⟩,by omega,fun x H' y=>?_⟩;obtain ⟨e,y⟩:=y;subst e;exact hs i x ys _ (y xs q) p (fun ys' H'=>∃ m',m' < xs.length - i∧m'=xs.length - (i + 1)∧i + 1 ≤ xs.length∧Pv (i + 1) ys' H') fun ys' H' r=>⟨xs.length - (i + 1),by omega,rfl,hlt,r⟩
 ·have e:i=xs.length:=by omega
  subst e;exact .inl ⟨⟨xs,q,Nat.le_refl _⟩,hd ys H p⟩
theorem Xz {lo:Int} {n:Nat} {g:TG} {tc:TT} {te:TE} {σb:St} {Q:VK} {H:Hp} (Pv:Nat→List V→Hp→Prop) (hz:n ≤ sizeLine) (h0:Pv 0 [] H) (hl:∀ i ys H,i ≤ n→Pv i ys H→ys.length ≤ i)
  (hs:∀ i ys H,i < n→Pv i ys H→Yg Pv g tc te σb i (.int (lo + i)) ys H) (hd:∀ ys H,Pv n ys H→∀ p,H p=none→Q (.ref p) (upd H p (.lst ys))) :
  ∃ W:Nat→Nat→List V→Hp→Prop,(∃ m,W 0 m [] H)∧lz (Itr lo n) g tc te σb Q W:=by
 refine ⟨fun i m ys H=>m=n - i∧i ≤ n∧Pv i ys H,⟨n,by simp,Nat.zero_le _,h0⟩,?_⟩;rintro i m ys H ⟨rfl,hi,p⟩;have hyl:=hl i ys H hi p;by_cases hlt:i < n
 ·refine .inr ⟨hlt,by omega,fun x H' y=>?_⟩;obtain ⟨e,y⟩:=y;subst e y;exact hs i ys _ hlt p (fun ys' H'=>∃ m',m' < n - i∧m'=n - (i + 1)∧i + 1 ≤ n∧Pv (i + 1) ys' H') fun ys' H' r=>⟨n - (i + 1),by omega,rfl,hlt,r⟩
 ·have e:i=n:=by omega
  subst e;exact .inl ⟨Nat.le_refl _,hd ys H p⟩
end L2
namespace L2
open PySem PySem.Spec PyProof.Rows
noncomputable def Its (xs:List V):It:=⟨fun i _=>i < xs.length,fun i H x H'=>H'=H∧xs[i]? = some x,fun i _=>xs.length ≤ i⟩
theorem Dr {P:Program} {w:World} {K:PySem.W.Frag} {tg:Expr} {it:Addr} {xs:List V} {PV:Nat→Value→Prop} {St:Nat→Heap→Prop} (hW:∀ A:Around,A.handled=none→Walks P w A it [it] [it] xs.length PV St)
  (hP:∀ i v,PV i v→∃ x,xs[i]? = some x∧wd x v)
  (hgo:∀ i h,St i h→∃ o n vs,h.get? it=some o∧o.cls=.type n∧o.data=.fields vs∧["enumerate","zip","dict_itemiterator","dict_reverseitemiterator","odict_iterator","itertools.zip_longest","itertools.pairwise"].contains n=false)
  (hfr:∀ i h h',St i h→(∀ o,h.get? it=some o→h'.get? it=some o)→St i h')
  (hself:∀ (A:Around) (i:Nat) (s:Shared) (Q:Value→Shared→Prop) (E:Value→Shared→Prop),St i s.heap→Q (.ref it) s→wpAny (model P w) A (pyIter (.ref it)) Q E s) :
  wH P w K tg (Its xs) [it] it (fun i h=>i ≤ xs.length∧St i h) where
 mem:=by simp
 obj:=fun i h st b hb=>by
  have e:b=it:=by simpa using hb
  subst e;obtain ⟨o,n,vs,e,_,d,_⟩:=hgo i h st.2;exact ⟨o,e,fun v z=>by rw [d] at z;cases z⟩
 keep:=fun i h h' st k=>⟨st.1,hfr i h h' st.2 fun o e=>k it (by simp) o e⟩
 item:=by
  intro X hP' hw hK hc i pins s σ H E I hf st hg;subst hP' hw hK;obtain ⟨f0,f1,f2,f3,f4,f5⟩:=hf it (by simp);refine (hW X.A (I.ok.hd hc)).item i s _ _ hg st.2 fun v h' tk hv st' kk=>?_
  obtain ⟨x,hx,rx⟩:=hP i v hv;have I1:Inv X pins σ H { s with heap:=h',toks:=tk }:=I.turned (fun b o hb e=>kk b o (by simpa using hb) e) f0 f1 f3 f4 f5;obtain ⟨o,n,vs,e,c,d,nm⟩:=hgo _ _ st';exact ⟨v,rfl,AF (s:={ s with heap:=h',toks:=tk }) e c d nm ⟨x,H,I1,rx,⟨rfl,hx⟩,⟨hg,st'⟩,fun b hb=>(hf b hb).1⟩⟩
 done:=by
  intro X hP' hw hK hc i pins s σ H E I hf st hg;subst hP' hw hK;obtain ⟨f0,f1,f2,f3,f4,f5⟩:=hf it (by simp);have e:i=xs.length:=Nat.le_antisymm st.1 hg;subst e;exact (hW X.A (I.ok.hd hc)).done s _ _ st.2 fun h' tk kk=>⟨rfl,I.turned (fun b o hb e=>kk b o (by simpa using hb) e) f0 f1 f3 f4 f5⟩
 self:=fun A i s Q E st h=>hself A i s Q E st.2 h
noncomputable def zL (c:Nat):Str:=⟨#[c]⟩
noncomputable def yi (x:Str):List V:=x.cps.toList.map fun c=>V.str (zL c)
theorem Cl (x:Str):(yi x).length=x.cps.size:=by unfold yi;simp
theorem AB {x:Str} {i c:Nat} (h:x.cps[i]? = some c):(yi x)[i]? = some (.str (zL c)):=by
 unfold yi;rw [List.getElem?_map,Array.getElem?_toList,h];rfl
theorem Ur {x:Str} {i:Nat} {v:Value} (h:SignAt x i v):∃ y,(yi x)[i]? = some y∧wd y v:=by
 obtain ⟨c,u,hc,rfl⟩:=h;exact ⟨.str (zL c),AB hc,u,rfl⟩
section
variable {X:Cx} {tg:Expr}
noncomputable def OM (tl:TE):TI:=fun σ H R=>tl σ H fun x H1=>∃ z,x=.str z∧R (Its (yi z)) H1
theorem iK {l:Expr} {tl:TE} (hl:PE X l tl):PI X tg l (OM tl):=by
 intro pins s σ H R I h;refine thn (hl pins s σ H _ I h) fun v s1 hZ1=>?_
 obtain ⟨x,H1,I1,r1,q1⟩:=hZ1;obtain ⟨z,e,q⟩:=q1;subst e;obtain ⟨t,rfl⟩:=r1;have fo:∀ b ∈ [s1.heap.objs.size],bu X pins H1 b:=fun b hb=>by
  have e:b=s1.heap.objs.size:=by simpa using hb
  subst e;exact I1.fpOk (Nat.le_refl _) (I1.hok.fresh (Nat.le_refl _))
 have hz:=Cl z;cases ha:z.cps.all (· < 128) with
 | false=>
  refine wpAny_pyIter_wide ha ⟨s1.heap.objs.size,[s1.heap.objs.size],fun i h=>i ≤ (yi z).length∧h.IsStrIter s1.heap.objs.size "str_iterator" z t i,_,H1,rfl,I1.kept (t':=s1.toks) fun b o e=>Heap.get?_push_of_some _ e,
   Dr (fun A hA=>by rw [hz];exact Walks.strWide hA _ z t) (fun i v=>Ur) (fun i h ⟨o,e,c,d⟩=>⟨o,_,_,e,c,d,by decide⟩) (fun i h h' ⟨o,e,r⟩ k=>⟨o,k o e,r⟩) (fun A i s Q E st q=>wpAny_pyIter_striter_wide st q),
   ⟨Nat.zero_le _,_,Heap.get?_push_size _ rfl,rfl,rfl⟩,fo,q⟩
 | true=>
  refine wpAny_pyIter_ascii ha ⟨s1.heap.objs.size,[s1.heap.objs.size],fun i h=>i ≤ (yi z).length∧h.IsStrIter s1.heap.objs.size "str_ascii_iterator" z t i,_,H1,rfl,I1.kept (t':=s1.toks) fun b o e=>Heap.get?_push_of_some _ e,
   Dr (fun A hA=>by rw [hz];exact Walks.strAscii hA _ z t) (fun i v=>Ur) (fun i h ⟨o,e,c,d⟩=>⟨o,_,_,e,c,d,by decide⟩) (fun i h h' ⟨o,e,r⟩ k=>⟨o,k o e,r⟩) (fun A i s Q E st q=>wpAny_pyIter_striter_ascii st q),
   ⟨Nat.zero_le _,_,Heap.get?_push_size _ rfl,rfl,rfl⟩,fo,q⟩
end
theorem lI {xs:List V} {g:TG} {tb:TS} {D:Oh} {σ:St} {H:Hp} (Pv:Nat→St→Hp→Prop) (h0:Pv 0 σ H)
  (hs:∀ i x σ H,xs[i]? = some x→Pv i σ H→g x σ H fun σ2 H2=>tb { D with nx:=Pv (i + 1),ct:=Pv (i + 1),bk:=D.nx } σ2 H2) (hd:∀ σ H,Pv xs.length σ H→D.nx σ H) :
  ∃ W:Nat→Nat→St→Hp→Prop,(∃ m,W 0 m σ H)∧∀ i m σ H,W i m σ H →
   ((Its xs).stop i H∧D.nx σ H)∨((Its xs).go i H∧∃ N:St→Hp→Prop,(∀ σ' H',N σ' H'→∃ m',m' < m∧W (i + 1) m' σ' H')∧∀ x H',(Its xs).yld i H x H'→g x σ H' fun σ2 H2=>tb { D with nx:=N,ct:=N,bk:=D.nx } σ2 H2):=by
 refine ⟨fun i m σ H=>m=xs.length - i∧i ≤ xs.length∧Pv i σ H,⟨xs.length,by simp,Nat.zero_le _,h0⟩,?_⟩;rintro i m σ H ⟨rfl,hi,p⟩;by_cases hlt:i < xs.length
 ·refine .inr ⟨hlt,Pv (i + 1),fun σ' H' p'=>⟨xs.length - (i + 1),by omega,rfl,hlt,p'⟩,fun x H' y=>?_⟩;obtain ⟨e,y⟩:=y;subst e;exact hs i x σ _ y p
 ·have e:i=xs.length:=by omega
  subst e;exact .inl ⟨Nat.le_refl _,hd σ H p⟩
theorem kF {xs:List V} {g:TG} {tc:TT} {te:TE} {σb:St} {Q:VK} {H:Hp} (Pv:Nat→List V→Hp→Prop) (hz:xs.length ≤ sizeLine) (h0:Pv 0 [] H) (hl:∀ i ys H,i ≤ xs.length→Pv i ys H→ys.length ≤ i)
  (hs:∀ i x ys H,xs[i]? = some x→Pv i ys H→Yg Pv g tc te σb i x ys H) (hd:∀ ys H,Pv xs.length ys H→∀ p,H p=none→Q (.ref p) (upd H p (.lst ys))) :
  ∃ W:Nat→Nat→List V→Hp→Prop,(∃ m,W 0 m [] H)∧lz (Its xs) g tc te σb Q W:=by
 refine ⟨fun i m ys H=>m=xs.length - i∧i ≤ xs.length∧Pv i ys H,⟨xs.length,by simp,Nat.zero_le _,h0⟩,?_⟩;rintro i m ys H ⟨rfl,hi,p⟩;have hyl:=hl i ys H hi p;by_cases hlt:i < xs.length
 ·refine .inr ⟨hlt,by omega,fun x H' y=>?_⟩;obtain ⟨e,y⟩:=y;subst e;exact hs i x ys _ y p (fun ys' H'=>∃ m',m' < xs.length - i∧m'=xs.length - (i + 1)∧i + 1 ≤ xs.length∧Pv (i + 1) ys' H') fun ys' H' r=>⟨xs.length - (i + 1),by omega,rfl,hlt,r⟩
 ·have e:i=xs.length:=by omega
  subst e;exact .inl ⟨Nat.le_refl _,hd ys H p⟩
section
variable {X:Cx}
noncomputable def dc (ys:List Str):List V:=ys.map V.str
theorem Yu:∀ (l:List (Str × Tok)),Pc (dc (l.map (·.1))) (strValues l)
 | []=>.nil
 | (x,t) :: r=>.cons ⟨t,rfl⟩ (Yu r)
end
theorem Uz {prog:Program} {w:World} {A:Around} {E:Value→Shared→Prop} {s:Shared} {x y:Str} {t u:Tok} {Q:Value→Shared→Prop} (hy:(y.length == 0)=false)
  (h:∀ l k,l.map (·.1)=Txt.split x y→Q (.ref s.heap.objs.size) { s with heap:=s.heap.push { cls:=.type "list",data:=.seq (strValues l).toArray },toks:=k }) (hsz:x.length + 2 ≤ sizeLine) :
  wpAny (model prog w) A (call (.builtin "str.split") [.str x t,.str y u]) Q E s:=by
 have hn:(Builtin.Str.partsBetween x (Builtin.Str.occurrences x y 0 x.length (x.length + 1)) y.length).length ≤ sizeLine:=by
  have e1:=StrLaws.occ_length_le x y 0 x.length (x.length + 1);rw [length_partsBetween];omega
 cases h1:(decide (x.length < y.length) || decide (Builtin.Str.strKind x < Builtin.Str.strKind y))
 ·cases hf:(Builtin.Str.occurrences x y 0 x.length (x.length + 1)).isEmpty
  ·refine call_meets F.slot_str_split (typeIs_str _ _ _) F.entry_str_split (F.args_str_split_2 _ _) (meets_str_split_sep x y t u h1 hy hf (by omega) hn) ?_;show wants Q E _ { s with toks:=_,heap:=s.heap.push { cls:=.type "list",data:=.seq (strsFrom s.toks (Builtin.Str.partsBetween x (Builtin.Str.occurrences x y 0 x.length (x.length + 1)) y.length)).toArray } };rw [strsFrom_eq];exact h (numbered s.toks _) _ ((numbered_texts _ _).trans ((if_neg (ne_true_of_eq_false h1)).trans (if_neg (ne_true_of_eq_false hf))).symm)
  ·exact call_meets F.slot_str_split (typeIs_str _ _ _) F.entry_str_split (F.args_str_split_2 _ _) (meets_str_split_not_found x y t u h1 hy hf)
    (h [(x,t)] s.toks ((if_neg (ne_true_of_eq_false h1)).trans (if_pos hf)).symm)
 ·exact call_meets F.slot_str_split (typeIs_str _ _ _) F.entry_str_split (F.args_str_split_2 _ _) (meets_str_split_cannot_occur x y t u h1)
   (h [(x,t)] s.toks (if_pos h1).symm)
section
variable {X:Cx}
noncomputable def xH:V→List V→Hp→VK→Prop:=fun x vs H Q=>∃ z y,x=.str z∧vs=[.str y]∧y.length ≠ 0∧z.length + 2 ≤ sizeLine∧(Txt.split z y).length ≤ sizeLine∧∀ p,H p=none→Q (.ref p) (upd H p (.lst (dc (Txt.split z y))))
theorem Zy:MtR X "str.split" xH:=by
 intro pins s σ H x xs v us Q I rx rv h;obtain ⟨z,y,rfl,rfl,hy,hz,hn,q⟩:=h;obtain ⟨t,rfl⟩:=rx;obtain ⟨u,rfl,ru⟩:=wp rv;obtain ⟨tu,rfl⟩:=ru;refine Uz (by simpa using hy) (fun l k hl=>?_) hz;refine ⟨.ref s.heap.objs.size,_,I.laid (t':=k) (o:=.lst (dc (Txt.split z y))) (fun b o e=>Heap.get?_push_of_some _ e) (Nat.le_refl _) ⟨by unfold dc;rw [List.length_map];exact hn,strValues l,0,by rw [← hl];exact Yu l,Heap.get?_push_size _ rfl⟩,rfl,q _ (I.hok.fresh (Nat.le_refl _))⟩
theorem lC:Ni X (.type "int") (fun xs H Q=>∃ z n,xs=[.str z]∧intText? z=some n∧z.length ≤ 640∧Q (.int n) H):=by
 intro pins s σ H xs us Q I r h;obtain ⟨z,n,rfl,hn,hz,q⟩:=h;obtain ⟨u,rfl,t,rfl⟩:=wp r;exact PySem.W.KIN.call_text hn hz ⟨.int n,H,I.tok _,⟨_,rfl⟩,q⟩
theorem zu:∀ {bs:List Bool} {us:List Value},Pc (bs.map V.bl) us→us=bs.map Value.bool
 | [],_,.nil=>rfl
 | b :: bs,_,.cons r t=>by
  have e:_=Value.bool b:=r;rw [e,zu t];rfl
theorem xw {A:Around} (bs:List Bool):TruthOf X.prog X.w A (fun i v=>(bs.map Value.bool).toArray[i]? = some v) (fun i=>bs.getD i true):=by
 intro i v s Q E hP hQ;have e:(bs.map Value.bool)[i]? = some v:=by simpa using hP
 rw [List.getElem?_map] at e;cases q:bs[i]? with
 | none=>rw [q] at e;cases e
 | some b=>
  rw [q] at e;have e':Value.bool b=v:=Option.some.inj e;subst e';refine wpAny_truthy_bool ?_;have:bs.getD i true=b:=by simp [List.getD,q]
  have hQ':Q (bs.getD i true) s:=hQ;rw [this] at hQ';exact hQ'
theorem dC (bs:List Bool):(List.range bs.length).all (fun i=>bs.getD i true)=bs.all id:=by
 rw [Bool.eq_iff_iff];simp only [List.all_eq_true,List.mem_range,id];constructor
 ·intro h b hb;obtain ⟨i,hi,e⟩:=List.mem_iff_getElem.mp hb;have:=h i hi;simp [List.getD,hi,e] at this;exact this
 ·intro h i hi;simp [List.getD,hi];exact h _ (List.getElem_mem hi)
theorem iG (hc:X.calm=true):Ni X (.builtin "all") (fun xs H Q=>∃ (p:Addr) (bs:List Bool),xs=[.ref p]∧SqL X.K H p (bs.map V.bl)∧Q (.bl (bs.all id)) H):=by
 intro pins s σ H xs us Q I r h;obtain ⟨p,bs,rfl,hq,q⟩:=h;obtain ⟨u,rfl,ru⟩:=wp r;cases ru;obtain ⟨its,rv,pl,_⟩:=I.list hq;have e:=zu rv;subst e;refine call_all_walk (wpAny_pyIter_list pl.isList ?_);have hne:p ≠ s.heap.objs.size:=Nat.ne_of_lt (by obtain ⟨o,_,ho,_⟩:=pl;exact Heap.lt_size ho);refine ⟨s.heap.objs.size,_,_,_,_,_,fun i=>bs.getD i true,rfl,Walks.list (show X.A.in1.handled=none from I.ok.hd hc) _ p hne (bs.map Value.bool).toArray,⟨⟨_,Heap.get?_push_size _ rfl,rfl,rfl⟩,pl.isList.at fun o e=>Heap.get?_push_of_some _ e⟩,xw bs,fun h' tk kk=>?_⟩;refine ⟨.bl (bs.all id),H,I.kept fun b o e=>kk b o (by simpa using Nat.ne_of_lt (Heap.lt_size e)) (Heap.get?_push_of_some _ e),?_,q⟩;show Value.bool _=Value.bool _;rw [show (bs.map Value.bool).toArray.size=bs.length by simp,dC]
end
end L2
namespace L2
open PySem PySem.Spec PyProof.Rows
theorem Dg {X:Cx} {N:List Str} (h:N.Nodup) (e:X.N=N):X.N.Nodup:=e ▸ h
noncomputable def bB (sc scope:Scope):Bool:=
 (scope.kind == .function) && scope.names.all (fun y=>y.2 != .cell) && scope.names.all (fun y=>y.2 != .free || sc.names.lookup y.1 == some .cell || sc.names.lookup y.1 == some .free) &&
  scope.names.all (fun y=>y.2 != .local || scope.names.lookup y.1 == some .local)
theorem Lc {env:Env} {sc scope:Scope} (he:env.scope=sc) (h:bB sc scope=true):jn env scope:=by
 subst he;unfold bB at h;simp only [Bool.and_eq_true,List.all_eq_true] at h;obtain ⟨⟨⟨h1,h2⟩,h3⟩,h4⟩:=h;refine ⟨by simpa using h1,fun y hy e=>?_,fun y hy e=>?_,fun y hy e=>?_⟩
 ·have:=h2 y hy;rw [e] at this;exact absurd this (by decide)
 ·have:=h3 y hy;rw [e] at this;simp only [Bool.or_eq_true] at this;rcases this with (z | z) | z
  ·exact absurd z (by decide)
  ·exact .inl (show env.scope.names.lookup y.1=some .cell by simpa using z)
  ·exact .inr (show env.scope.names.lookup y.1=some .free by simpa using z)
 ·have:=h4 y hy;rw [e] at this;simp only [Bool.or_eq_true] at this;rcases this with z | z
  ·exact absurd z (by decide)
  ·simpa using z
noncomputable def XM (M:List Str) (scope:Scope) (N:List Str) (sel:List (Option Nat)):Bool:=
 sel.length == N.length && (sel.zip N).all fun p=>match p.1 with | none=>true | some j=>M[j]? == some p.2 && scope.names.lookup p.2 == some .free
theorem yd {M:List Str} {scope:Scope} {N:List Str} {sel:List (Option Nat)} (h:XM M scope N sel=true):KA M scope N sel:=by
 unfold XM at h;simp only [Bool.and_eq_true,List.all_eq_true] at h;refine ⟨by simpa using h.1,fun i j x e1 e2=>?_⟩;have hm:(some j,x) ∈ sel.zip N:=by
  rw [List.mem_iff_getElem?];exact ⟨i,by rw [List.getElem?_zip_eq_some];exact ⟨e1,e2⟩⟩
 have:=h.2 _ hm;simp only [Bool.and_eq_true] at this;exact ⟨by simpa using this.1,by simpa using this.2⟩
noncomputable def noT:HO→Bool
 | .dT _=>false
 | .frz _ u=>noT u
 | _=>true
noncomputable def NoT (H:Hp):Prop:=∀ b o,H b=some o→noT o=true
theorem Gd.back {P:Program} {w:World} {H H':Hp} {h h':Heap} {a:Addr}:∀ (o:HO),noT o=true→Gd P w H' h' a o→Gd P w H h a o→Gd P w H h' a o
 | .lst _,_,x,_=>x
 | .tup _,_,x,_=>x
 | .dK _,_,x,_=>x
 | .dT _,e,_,_=>absurd e (by unfold noT;decide)
 | .set _ _,_,x,_=>x
 | .ins _ _ _,_,x,y=>⟨y.1,x.2⟩
 | .own _,_,x,_=>x
 | .xd _,_,x,_=>x
 | .met _ _,_,x,_=>x
 | .rng _ _,_,x,_=>x
 | .frz ob u,e,x,y=>⟨x.1,Gd.back u (by unfold noT at e;exact e) x.2 y.2⟩
 | .tbl _,_,x,_=>x
 | .ext _,_,x,_=>x
section
variable {P:Program} {w:World} {K:PySem.W.Frag} {mg:Str→Option Value} {base:Heap}
theorem Eb.forget {k:Nat} {f:Addr} {fd:FuncData} {ps:List Str} {sp sp':Sp} (F:Eb P w K mg base CX0 k f fd ps sp)
  (h:∀ vs H Q E,sp' vs H Q E→NoT H∧sp vs H (fun v H'=>Ob H H'∧Q v H) E):Eb P w K mg base CX0 k f fd ps sp':=by
 refine ⟨fun vs H Q E q=>F.len vs H _ E (h vs H Q E q).2,fun A outer s H args us vs Q E hr he hb hv hs=>?_⟩;obtain ⟨nt,q⟩:=h vs H Q E hs;refine codeAny_mono (F.run A outer s H args us vs _ E hr he hb hv q) fun r s' hq=>?_
 cases r with
 | error e=>exact hq
 | ok fl=>
  cases fl with
  | next=>exact hq
  | brk=>exact hq
  | cont=>exact hq
  | ret u=>
   obtain ⟨v,H',os,bare,un,hok,rv,sm,q'⟩:=hq;exact ⟨v,H,os,bare,⟨un.keep,un.slot,fun _ _ _ n _=>n,un.there,fun _ _ z=>z,fun _ _ _ z=>z,fun _ ps z=>⟨#[],by rw [z];simp⟩⟩,fun a o e=>(hok a o (sm a o e)).back o (nt a o e) (he.hok a o e),rv,q'⟩
end
theorem jb {H:Hp} {p:Addr} {o:HO} (h:H p=none):Ob H (upd H p o):=fun b u q=>by rw [wb (Bb q h)];exact q
theorem Ob.updN {H H1:Hp} {p:Addr} {o:HO} (s:Ob H H1) (h:H p=none):Ob H (upd H1 p o):=fun b u q=>by rw [wb (Bb q h)];exact s b u q
structure Sc (K:PySem.W.Frag) (a:Addr) (ns:List Int) (H:Hp):Prop where
 sq:(∃ o,H a=some (.frz o (.lst (ns.map V.int))))∨∃ (o:Obj) (its:Array Value) (n:Nat),K.lookup a=some o∧o.cls=.type "list" ∧ o.dict=none∧o.data=.seq its n∧its.size ≤ sizeLine∧Pc (ns.map V.int) its.toList
 nt:NoT H
section
variable {K:PySem.W.Frag} {a p:Addr} {ns:List Int} {H H':Hp} {o:HO}
theorem Sc.seq (s:Sc K a ns H):SqL K H a (ns.map V.int):=by
 rcases s.sq with ⟨o,h⟩ | h
 ·exact .inl (.inr ⟨o,h⟩)
 ·exact .inr h
theorem Sc.new (s:Sc K a ns H) (hp:H p=none) (ho:noT o=true:=by rfl):Sc K a ns (upd H p o):=by
 refine ⟨?_,fun b u e=>?_⟩
 ·rcases s.sq with ⟨ob,h⟩ | h
  ·exact .inl ⟨ob,by rw [wb (Bb h hp)];exact h⟩
  ·exact .inr h
 ·by_cases hb:b=p
  ·subst hb;rw [db] at e;cases e;exact ho
  ·rw [wb hb] at e;exact s.nt b u e
theorem Sc.set {u:HO} (s:Sc K a ns H) (hp:H p=some u) (hu:∀ ob z,u ≠ .frz ob z) (ho:noT o=true:=by rfl):Sc K a ns (upd H p o):=by
 refine ⟨?_,fun b x e=>?_⟩
 ·rcases s.sq with ⟨ob,h⟩ | h
  ·refine .inl ⟨ob,?_⟩;have hne:a ≠ p:=fun z=>by subst z;rw [hp] at h;exact hu _ _ (Option.some.inj h)
   rw [wb hne];exact h
  ·exact .inr h
 ·by_cases hb:b=p
  ·subst hb;rw [db] at e;cases e;exact ho
  ·rw [wb hb] at e;exact s.nt b x e
theorem Sc.of_only (hO:sJ H) (hS:SqL K H a (ns.map V.int)):Sc K a ns H:=by
 refine ⟨?_,fun b u e=>?_⟩
 ·rcases hS with (h | ⟨o,h⟩) | h
  ·rcases hO a with z | ⟨ob,xs,z⟩
   ·rw [h] at z;cases z
   ·rw [h] at z;cases z
  ·exact .inl ⟨o,h⟩
  ·exact .inr h
 ·rcases hO b with z | ⟨ob,xs,z⟩
  ·rw [e] at z;cases z
  ·rw [e] at z;cases z;rfl
end
noncomputable def gL (K:PySem.W.Frag):Sp:=fun vs H Q _=>∃ (a:Addr) (ns:List Int),vs=[.ref a]∧Sc K a ns H∧ns.length ≤ 63∧∀ H',Q (.bl true) H'
theorem Tb:bootBuiltins "len"=some (.builtin "len"):=PySem.boot_len
theorem Iz:bootBuiltins "all"=some (.builtin "all"):=by decide +kernel
theorem Gm:bootBuiltins "min"=some (.builtin "min"):=by decide +kernel
theorem Lr:bootBuiltins "max"=some (.builtin "max"):=by decide +kernel
theorem we:bootBuiltins "isinstance"=some (.builtin "isinstance"):=by decide +kernel
theorem fA:bootBuiltins "int"=some (.type "int"):=by decide +kernel
theorem Lz:bootBuiltins "str"=some (.type "str"):=by decide +kernel
theorem md:bootBuiltins "list"=some (.type "list"):=by decide +kernel
theorem Rd.same {H H':Hp} {a:Addr} {o:HO} (h:Rd H a o) (s:Ob H H'):Rd H' a o:=by
 rcases h with h | ⟨ob,h⟩
 ·exact .inl (s _ _ h)
 ·exact .inr ⟨ob,s _ _ h⟩
theorem SqL.same {K:PySem.W.Frag} {H H':Hp} {a:Addr} {xs:List V} (h:SqL K H a xs) (s:Ob H H'):SqL K H' a xs:=by
 rcases h with h | h
 ·exact .inl (h.same s)
 ·exact .inr h
theorem SqT.same {K:PySem.W.Frag} {H H':Hp} {a:Addr} {xs:List V} (h:SqT K H a xs) (s:Ob H H'):SqT K H' a xs:=by
 rcases h with h | h
 ·exact .inl (h.same s)
 ·exact .inr h
theorem NoT.upd {H:Hp} {p:Addr} {o:HO} (h:NoT H) (ho:noT o=true:=by rfl):NoT (upd H p o):=fun b u e=>by
 by_cases hb:b=p
 ·subst hb;rw [db] at e;cases e;exact ho
 ·rw [wb hb] at e;exact h b u e
theorem Sc.same {K:PySem.W.Frag} {a:Addr} {ns:List Int} {H H':Hp} (s:Sc K a ns H) (sm:Ob H H') (nt:NoT H'):Sc K a ns H':=by
 refine ⟨?_,nt⟩;rcases s.sq with ⟨o,h⟩ | h
 ·exact .inl ⟨o,sm _ _ h⟩
 ·exact .inr h
end L2
namespace L2
open PySem PySem.Spec PyProof.Rows
structure RM (K:PySem.W.Frag) (C:Addr) (m:Str) (f:Addr):Prop where
 rd:PySem.W.readsIn K C (.type "type")=true
 fd:PySem.W.findCls K (.ref C) (.type "type") m=some (.val (.ref f))
 ga:PySem.W.specialIn K (.ref C) "__getattribute__"=some (some (.builtin "type.__getattribute__"))
 kp:PySem.W.keepIn K (.ref f)=true
structure XE (P:Program) (w:World) (K:PySem.W.Frag) (mg:Str→Option Value) (base:Heap) (CX:CXT) (k:Nat) (OK:Addr→Prop) (m:Str) (ps:List Str) (SPV:Addr→Sp):Prop where
 ok:∀ C,OK C→∃ f fd,Cls K C∧Hs K C m f∧Eb P w K mg base CX k f fd ps (SPV C)∧Lb K fd ps []
noncomputable def jH (OK:Addr→Prop) (m:Str) (SPV:Addr→Sp) (E:XK) (ta:TE) (t:TA):TE:=fun σ H Q=>ta σ H fun x H1=>∃ a C dx fs,x=.ref a∧H1 a=some (.ins C dx fs)∧OK C∧fs.lookup m=none ∧
 t σ H1 fun vs H2=>SPV C (x :: vs) H2 Q E
section
variable {X:Cx} {CX:CXT} {k:Nat} {f C:Addr} {fd:FuncData} {ps:List Str} {sp:Sp} {dvs:List V} {ds:List Value} {E:XK} {x m:Str} {p pos apos:Pos} {e o:Expr} {es:List Expr} {ta:TE} {t:TA}
theorem js {pl:Sem Bool} (hg:Gl X x) (hm:X.mg x=some (.ref C)) (c:RM X.K C m f) (F:Eb X.prog X.w X.K X.mg X.base CX k f fd ps sp) (hr:ci k X.A) (hb:Lb X.K fd ps ds) (hd:Pc dvs ds) (hx:Dl CX X E) (ha:PA X (e :: es) t)
  (hdb:(x == ("__debug__" : Str))=false:=by decide) (hst:starEach (e :: es) X.env=(false,eval e X.env) :: starEach es X.env:=by rfl) (hpl:(backTo pos (starEach es X.env)).any (·.1)=false:=by rfl)
  (ht:eval (.Call (.Attribute (.Name x p) m apos) (e :: es) [] pos) X.env=(do
   let ov ← eval (.Name x p) X.env
   standAt apos.atName
   let (f,first) ← holding [ov] (getMethod ov m pl)
   callWith pos f first (backTo pos (starEach (e :: es) X.env)) (backToKw pos (keywordEach [] X.env))):=by rfl) :
  PE X (.Call (.Attribute (.Name x p) m apos) (e :: es) [] pos) (BF sp dvs E t):=by
 intro pins s σ H Q I h;refine PySem.W.methodCall_KW (pl:=pl) (nk I hg hm ?_ hdb) ht;refine PySem.W.method_cls I.kIn c.ga (PySem.W.cls_value I.kIn c.rd c.fd rfl ?_);have I1:=I.tok (s.toks + 1);refine PySem.W.callWith_K (first:=[]) (h₀:=X.base) I.ok.mod.kin c.kp (thn (ha pos pins _ σ H _ I1 h) fun us s2 ⟨vs,H2,I2,r,q2⟩=>⟨I2.kIn,?_⟩) hst hpl;exact mv F hr hb hd hx I2 r q2
variable {OK:Addr→Prop} {SPV:Addr→Sp}
theorem Il {pl:Sem Bool} (he:PE X o ta) (V:XE X.prog X.w X.K X.mg X.base CX k OK m ps SPV) (hr:ci k X.A) (hx:Dl CX X E)
  (ht:eval (.Call (.Attribute o m apos) [] [] pos) X.env=(do
   let ov ← eval o X.env
   standAt apos.atName
   let (f,first) ← holding [ov] (getMethod ov m pl)
   callWith pos f first (backTo pos (starEach [] X.env)) (backToKw pos (keywordEach [] X.env))):=by rfl) :
  PE X (.Call (.Attribute o m apos) [] [] pos) (jH OK m SPV E ta OL):=by
 intro pins s σ H Q I h;refine PySem.W.methodCall_KW (pl:=pl) (thn (he pins s σ H _ I h) fun u s1 hZ1=>?_) ht;obtain ⟨x,H1,I1,rx,a,C,dx,fs,ex,ea,ok,l,q⟩:=hZ1;subst ex;obtain rfl:u=Value.ref a:=rx;obtain ⟨f,fd,c,hm,F,hb⟩:=V.ok C ok;refine vm I1 ea c hm l ?_;exact PySem.W.callWith_K0 (first:=[.ref a]) I1.kIn hm.kp (mv (us:=[.ref a]) (vs:=[.ref a]) (dvs:=[]) F hr hb .nil hx I1 (.cons rfl .nil) q)
end
section
variable {X:Cx} {x:Str} {p pos:Pos} {i:Expr} {ty:TE} {u:Value} {kvs:List (Str × V)}
end
theorem ed {f:Str} {v:V}:∀ {fs:List (Str × V)} (ks:List Str),fs.map (·.1)=ks→ks.contains f=false→Ih f v fs=fs ++ [(f,v)]
 | [],_,_,_=>rfl
 | (g,y) :: r,ks,e,h=>by
  cases e;rw [List.map_cons,List.contains_cons] at h;have h1:=(Bool.or_eq_false_iff.mp h);have hne:¬ g=f:=fun z=>by
   have:=h1.1;rw [z] at this;simp at this
  show (if g=f then _ else _)=_;rw [if_neg hne,ed _ rfl h1.2];rfl
theorem Xl {f:Str} {v:V} {fs:List (Str × V)} {n:Nat} (h:fs.length < n):(Ih f v fs).length < n + 1:=Nat.lt_of_le_of_lt (vk f v fs) (by omega)
theorem Md {f:Str} {v:V}:∀ {fs:List (Str × V)} (ks:List Str) (i:Nat),fs.map (·.1)=ks→ks.findIdx? (· == f)=some i→fs[i]? = some (f,v)→fs.lookup f=some v
 | [],_,_,_,_,h=>by simp at h
 | (g,y) :: r,ks,i,e,h,hv=>by
  cases e;rw [List.map_cons,List.findIdx?_cons] at h;rw [List.lookup];by_cases e:g=f
  ·subst e;rw [beq_self_eq_true,if_pos rfl] at h;cases h;have:(g,y)=(g,v):=by simpa using hv
   cases this;rw [beq_self_eq_true]
  ·rw [beq_eq_false_iff_ne.mpr e,if_neg (by decide)] at h;obtain ⟨j,hj,rfl⟩:=Option.map_eq_some_iff.mp h;rw [beq_eq_false_iff_ne.mpr (fun z=>e z.symm)];exact Md _ j rfl hj (by simpa using hv)
theorem Nk {f:Str}:∀ {fs:List (Str × V)} (ks:List Str),fs.map (·.1)=ks→ks.contains f=false→fs.lookup f=none
 | [],_,_,_=>rfl
 | (g,y) :: r,ks,e,h=>by
  cases e;rw [List.map_cons,List.contains_cons] at h;have h1:=(Bool.or_eq_false_iff.mp h);rw [List.lookup,h1.1];exact Nk _ rfl h1.2
end L2
namespace L2
open PySem PySem.Spec PyProof.Rows
theorem Inv.turnedL {X:Cx} {pins:List (Addr × Obj)} {σ:St} {H:Hp} {s:Shared} {h':Heap} {t':Nat} {fp:List Addr} (I:Inv X pins σ H s) (k:∀ b o,b ∉ fp→s.heap.get? b=some o→h'.get? b=some o)
  (hf:∀ b ∈ fp,bu X pins H b):Inv X pins σ H { s with heap:=h',toks:=t' }:=by
 have nit:∀ b u,H b=some u→b ∉ fp:=fun b u e z=>by rw [(hf b z).1] at e;cases e
 refine I.step (g':=s.gens) (d':=s.drawn) (ch:=fp) (fun b hb=>?_) (fun b o _ _ hc e _=>k b o hc e) (fun b o _ _ hc e _=>⟨o.slots,k b o hc e⟩) (fun _ _ _ _ n=>n)
  (fun b o hc e=>⟨o,k b o hc e⟩) (fun _ _ e=>e) (fun _ _ _ e=>e) (fun b ps e=>⟨#[],by rw [e];simp⟩) (fun m hm=>?_) (fun b u e=>?_) I.bare
 ·obtain ⟨f0,f1,f2,f3,f4,f5⟩:=hf b hb;exact ⟨f3,f1,f4,f5⟩
 ·obtain ⟨o,es,ep,ho,r⟩:=hm;exact ⟨o,es,ep,k _ o (fun z=>(hf _ z).2.1 rfl) ho,r⟩
 ·refine (I.hok b u e).stay (fun c v hc q=>k c v ?_ q) (fun _ q=>q) fun _ _ q=>q
  rcases hc with z | z
  ·rw [z];exact nit b u e
  ·exact nit c _ z
noncomputable def Ite (K:PySem.W.Frag) (a:Addr):It:=
 ⟨fun i H=>∃ xs x,SqL K H a xs∧xs[i]? = some x,fun i H v H'=>∃ p y,H p=none∧v=.ref p∧(∀ xs,SqL K H a xs→xs[i]? = some y)∧H'=upd H p (.tup [.int i,y]),fun i H=>∃ xs,SqL K H a xs∧xs.length ≤ i⟩
theorem aC {P:Program} {w:World} {K:PySem.W.Frag} {es:List Expr} {k} {pos:Pos} (a e it:Addr) (hne:e ≠ it) :
  wH P w K (.Tuple es k pos) (Ite K a) [e,it] e (fun i h=>∃ old,IsEnum h e it ((i:Nat):Int) old∧h.IsListIter it a i) where
 mem:=by simp
 obj:=fun i h ⟨old,he,hi⟩ b hb=>by
  simp only [List.mem_cons,List.not_mem_nil,or_false] at hb;rcases hb with rfl | rfl
  ·exact ⟨_,he,fun v z=>by
    have z':Data.fields _=Data.cell v:=z;cases z'⟩
  ·obtain ⟨o,q,c,d⟩:=hi;exact ⟨o,q,fun v z=>by rw [d] at z;cases z⟩
 keep:=fun i h h' ⟨old,he,hi⟩ k=>⟨old,k e (by simp) _ he,hi.at fun o q=>k it (by simp) o q⟩
 item:=by
  intro X hP hw hK hc i pins s σ H E I hf ⟨old,he,hi⟩ hg;subst hP hw hK;obtain ⟨xs,x,hq,hx⟩:=hg;obtain ⟨its,rv,p,hz⟩:=I.list hq;obtain ⟨u,hu,ru⟩:=rv.get hx;refine wpAny_pyNext_enum_item he hi p.isList (x:=u) (by simpa using hu) hne fun h1 he1 hi1 ht1 hz1 hk1=>⟨_,rfl,?_⟩
  refine wpAny_letOwnedTupleGo_enum he1 fun h2 he2 hs2=>?_
  replace hs2:Heap.SameBut e h1 h2:=hs2;have hel:e < s.heap.objs.size:=Heap.lt_size he;have hk:∀ b o,b ∉ [e,it]→s.heap.get? b=some o→h2.get? b=some o:=fun b o hb q=>by
   simp only [List.mem_cons,List.not_mem_nil,or_false,not_or] at hb;exact hs2.extBut _ _ hb.1 (hk1 b o hb.1 hb.2 q)
  have I1:Inv X pins σ H { s with heap:=h2,toks:=s.toks + 1 }:=I.turnedL hk hf;have fo:bu X pins H s.heap.objs.size:=I.fpOk (Nat.le_refl _) (I.hok.fresh (Nat.le_refl _));have ht2:h2.get? s.heap.objs.size=some { cls:=.type "tuple",data:=.seq #[.int i s.toks,u] }:=(hs2.2 _ (Nat.ne_of_gt hel)).trans ht1;have I2:=I1.adopt (o:=.tup [.int i,x]) fo ⟨⟨by show 2 ≤ sizeLine;decide,_,ht2,rfl⟩,[.int i s.toks,u],.cons ⟨_,rfl⟩ (.cons ru .nil),⟨_,ht2,rfl,_,rfl⟩⟩;refine ⟨.ref s.heap.objs.size,_,I2,rfl,⟨_,x,fo.1,rfl,fun ys hy=>by rw [I.list_inj hy hq];exact hx,rfl⟩,⟨u,?_,?_⟩,fun b hb=>?_⟩
  ·have e1:((i + 1:Nat):Int)=(i:Int) + 1:=by omega
   rw [e1];exact he2
  ·exact hi1.extBut hs2.extBut (Ne.symm hne)
  ·have hlt:b < s.heap.objs.size:=by
    simp only [List.mem_cons,List.not_mem_nil,or_false] at hb;rcases hb with rfl | rfl
    ·exact hel
    ·obtain ⟨o,q,_⟩:=hi;exact Heap.lt_size q
   rw [wb (Nat.ne_of_lt hlt)];exact (hf b hb).1
 done:=by
  intro X hP hw hK hc i pins s σ H E I hf ⟨old,he,hi⟩ hg;subst hP hw hK;obtain ⟨xs,hq,hx⟩:=hg;obtain ⟨its,rv,p,hz⟩:=I.list hq;have hl:=rv.length;exact wpAny_pyNext_enum_end (I.ok.hd hc) he hi p.isList (by simp;omega) fun h' eb=>⟨rfl,I.turnedL (t':=s.toks) (fun b o hb q=>eb b o (fun z=>hb (by simp [z])) q) hf⟩
 self:=fun _ _ _ _ _ ⟨_,he,_⟩ h=>wpAny_pyIter_enum he h
theorem wq:bootBuiltins "enumerate"=some (.type "enumerate"):=by decide +kernel
theorem PF:bootBuiltins "zip"=some (.type "zip"):=by decide +kernel
theorem Ls:bootBuiltins "reversed"=some (.type "reversed"):=by decide +kernel
noncomputable def Itz (K:PySem.W.Frag) (a b:Addr):It:=
  ⟨fun i H=>∃ xs ys x y,SqL K H a xs∧SqL K H b ys∧xs[i]? = some x∧ys[i]? = some y,
   fun i H v H'=>∃ p x y,H p=none∧v=.ref p∧(∀ xs,SqL K H a xs→xs[i]? = some x)∧(∀ ys,SqL K H b ys→ys[i]? = some y)∧H'=upd H p (.tup [x,y]),
   fun i H=>∃ xs ys,SqL K H a xs∧SqL K H b ys∧(xs.length ≤ i∨ys.length ≤ i)⟩
theorem cg {h:Heap} {a b:Addr} {o o':Obj} {c d:String} (ha:h.get? a=some o) (hb:h.get? b=some o') (hc:o.cls=.type c) (hd:o'.cls=.type d) (n:c ≠ d):a ≠ b:=fun z=>by
 subst z;rw [ha] at hb;cases hb;rw [hc] at hd;cases hd;exact n rfl
theorem Hv {h:Heap} {z TI TO i1 i2 l1 l2:Addr} {f0 u1 u2 v1 v2:Value} {k1 k2:Nat} {xs ys:Array Value} (hz:IsZip h z TI TO f0) (hTI:IsPair h TI u1 u2) (hTO:IsPair h TO v1 v2) (h1:h.IsListIter i1 l1 k1) (h2:h.IsListIter i2 l2 k2)
  (g1:h.IsList l1 xs) (g2:h.IsList l2 ys) (nT:TI ≠ TO) (ni:i1 ≠ i2):ZipApart z TI TO i1 i2 l1 l2:=by
 obtain ⟨o1,e1,c1,_⟩:=h1;obtain ⟨o2,e2,c2,_⟩:=h2;obtain ⟨p1,f1,d1,_⟩:=g1;obtain ⟨p2,f2,d2,_⟩:=g2;exact ⟨cg hTI hz rfl rfl (by decide),cg hTO hz rfl rfl (by decide),cg e1 hz c1 rfl (by decide),cg e2 hz c2 rfl (by decide),nT,cg hTI e1 rfl c1 (by decide),cg hTI e2 rfl c2 (by decide),
  cg hTO e1 rfl c1 (by decide),cg hTO e2 rfl c2 (by decide),ni,cg f1 hz d1 rfl (by decide),cg f1 hTO d1 rfl (by decide),cg f1 e1 d1 c1 (by decide),cg f1 e2 d1 c2 (by decide),
  cg f2 hz d2 rfl (by decide),cg f2 hTO d2 rfl (by decide),cg f2 e1 d2 c1 (by decide),cg f2 e2 d2 c2 (by decide)⟩
theorem KF {P:Program} {w:World} {K:PySem.W.Frag} {es:List Expr} {k} {pos:Pos} (a b z TI TO i1 i2:Addr) (nT:TI ≠ TO) (ni:i1 ≠ i2) :
  wH P w K (.Tuple es k pos) (Itz K a b) [z,TI,TO,i1,i2] z (fun i h=>IsZip h z TI TO .none∧IsPair h TI (.ref i1) (.ref i2)∧(∃ u v,IsPair h TO u v)∧h.IsListIter i1 a i∧h.IsListIter i2 b i) where
 mem:=by simp
 obj:=fun i h ⟨hz,hTI,⟨u,v,hTO⟩,⟨o1,e1,_,d1⟩,o2,e2,_,d2⟩ c hc=>by
  simp only [List.mem_cons,List.not_mem_nil,or_false] at hc;rcases hc with rfl | rfl | rfl | rfl | rfl
  ·exact ⟨_,hz,fun v z=>by
    have z':Data.fields _=Data.cell v:=z;cases z'⟩
  ·exact ⟨_,hTI,fun v z=>by
    have z':Data.seq _ _=Data.cell v:=z;cases z'⟩
  ·exact ⟨_,hTO,fun v z=>by
    have z':Data.seq _ _=Data.cell v:=z;cases z'⟩
  ·exact ⟨o1,e1,fun v z=>by rw [d1] at z;cases z⟩
  ·exact ⟨o2,e2,fun v z=>by rw [d2] at z;cases z⟩
 keep:=fun i h h' ⟨hz,hTI,⟨u,v,hTO⟩,h1,h2⟩ k=>⟨k z (by simp) _ hz,k TI (by simp) _ hTI,⟨u,v,k TO (by simp) _ hTO⟩,h1.at fun o q=>k i1 (by simp) o q,h2.at fun o q=>k i2 (by simp) o q⟩
 item:=by
  intro X hP hw hK hc i pins s σ H E I hf ⟨hz,hTI,⟨u,v,hTO⟩,h1,h2⟩ hg;subst hP hw hK;obtain ⟨xs,ys,x,y,hq,hr,hx,hy⟩:=hg;obtain ⟨its,rv,p,hz1⟩:=I.list hq;obtain ⟨jts,rw',p',hz2⟩:=I.list hr;obtain ⟨ux,hu,ru⟩:=rv.get hx;obtain ⟨uy,hv,rv'⟩:=rw'.get hy;have D:=Hv hz hTI hTO h1 h2 p.isList p'.isList nT ni;refine wpAny_pyNext_zip_item D hz hTI hTO h1 h2 p.isList p'.isList (x:=ux) (y:=uy) (by simpa using hu) (by simpa using hv) fun g gz gTO g1 g2 gT gs gk=>⟨_,rfl,?_⟩
  refine wpAny_letOwnedTupleGo_zip gz fun g' gz' hs'=>?_
  replace hs':Heap.SameBut z g g':=hs';have hzl:z < s.heap.objs.size:=Heap.lt_size hz;have hk:∀ c o,c ∉ [z,TI,TO,i1,i2]→s.heap.get? c=some o→g'.get? c=some o:=fun c o hc q=>by
   simp only [List.mem_cons,List.not_mem_nil,or_false,not_or] at hc;exact hs'.extBut _ _ hc.1 (gk c o hc.1 hc.2.2.1 hc.2.2.2.1 hc.2.2.2.2 q)
  have I1:Inv X pins σ H { s with heap:=g',toks:=s.toks }:=I.turnedL hk hf;have fo:bu X pins H s.heap.objs.size:=I.fpOk (Nat.le_refl _) (I.hok.fresh (Nat.le_refl _));have ht2:IsPair g' s.heap.objs.size ux uy:=(hs'.2 _ (Nat.ne_of_gt hzl)).trans gT;have I2:=I1.adopt (o:=.tup [x,y]) fo ⟨⟨by show 2 ≤ sizeLine;decide,_,ht2,rfl⟩,[ux,uy],.cons ru (.cons rv' .nil),⟨_,ht2,rfl,_,rfl⟩⟩;refine ⟨.ref s.heap.objs.size,_,I2,rfl,⟨_,x,y,fo.1,rfl,fun ys hy=>by rw [I.list_inj hy hq];exact hx,fun zs hzs=>by rw [I.list_inj hzs hr];exact hy,rfl⟩,⟨gz',?_,⟨_,_,hs'.extBut _ _ D.TOz gTO⟩,g1.extBut hs'.extBut D.i1z,g2.extBut hs'.extBut D.i2z⟩,fun b hb=>?_⟩
  ·exact hs'.extBut _ _ D.TIz (gk _ _ D.TIz D.TITO D.TIi1 D.TIi2 hTI)
  ·have hlt:b < s.heap.objs.size:=by
    obtain ⟨o1,e1,_⟩:=h1;obtain ⟨o2,e2,_⟩:=h2;simp only [List.mem_cons,List.not_mem_nil,or_false] at hb;rcases hb with rfl | rfl | rfl | rfl | rfl
    ·exact hzl
    ·exact Heap.lt_size hTI
    ·exact Heap.lt_size hTO
    ·exact Heap.lt_size e1
    ·exact Heap.lt_size e2
   rw [wb (Nat.ne_of_lt hlt)];exact (hf b hb).1
 done:=by
  intro X hP hw hK hc i pins s σ H E I hf ⟨hz,hTI,⟨u,v,hTO⟩,h1,h2⟩ hg;subst hP hw hK;obtain ⟨xs,ys,hq,hr,hx⟩:=hg;obtain ⟨its,rv,p,hz1⟩:=I.list hq;obtain ⟨jts,rw',p',hz2⟩:=I.list hr;have hl:=rv.length;have hl':=rw'.length;have D:=Hv hz hTI hTO h1 h2 p.isList p'.isList nT ni;exact wpAny_pyNext_zip_end (I.ok.hd hc) D hz hTI hTO h1 h2 p.isList p'.isList (by simp;omega) fun h' eb=>⟨rfl,I.turnedL (t':=s.toks) (fun b o hb q=>eb b o (fun z=>hb (by simp [z])) (fun z=>hb (by simp [z])) (fun z=>hb (by simp [z])) (fun z=>hb (by simp [z])) q) hf⟩
 self:=fun _ _ _ _ _ ⟨hz,_⟩ h=>wpAny_pyIter_zip hz h
section
variable {X:Cx}
noncomputable def aK (K:PySem.W.Frag) (ta:TA):TI:=fun σ H R=>ta σ H fun vs H1=>∃ a,vs=[.ref a]∧(∃ xs,SqL K H1 a xs)∧R (Ite K a) H1
theorem Ak {es:List Expr} {k} {tpos:Pos} {a:Expr} {ta:TA} {p pos:Pos} (hg:Gl X "enumerate") (hm:X.mg "enumerate"=none) (ha:PA X [a] ta) (hs:starEach [a] X.env=[(false,eval a X.env)]:=by rfl) :
  PI X (.Tuple es k tpos) (.Call (.Name "enumerate" p) [a] [] pos) (aK X.K ta):=by
 intro pins s σ H R I h;refine Call_ (Uj I hg hm wq (PyProof.Rows.callWith_type1 (thn (ha pos pins s σ H _ I h) fun us s1 hZ1=>?_) hs rfl));obtain ⟨vs,H1,I1,r1,q1⟩:=hZ1;obtain ⟨a,e,⟨xs,hq⟩,q⟩:=q1;subst e;cases r1 with
 | cons r rr=>
  cases rr;cases r;obtain ⟨its,rv,pl,hz⟩:=I1.list hq;refine call_enumerate_list pl.isList fun h' hE hI hsz hk=>wpAny_pyIter_enum hE ?_
  refine ⟨s1.heap.objs.size + 1,[s1.heap.objs.size + 1,s1.heap.objs.size],_,_,H1,rfl,I1.kept (t':=s1.toks) hk,aC a _ _ (Nat.succ_ne_self _),⟨_,hE,hI⟩,fun b hb=>?_,q⟩;have hb':s1.heap.objs.size ≤ b:=by
   simp only [List.mem_cons,List.not_mem_nil,or_false] at hb;rcases hb with rfl | rfl
   ·exact Nat.le_succ _
   ·exact Nat.le_refl _
  exact I1.fpOk hb' (I1.hok.fresh hb')
noncomputable def sN (K:PySem.W.Frag) (ta:TA):TI:=fun σ H R=>ta σ H fun vs H1=>∃ a b,vs=[.ref a,.ref b]∧(∃ xs,SqL K H1 a xs)∧(∃ ys,SqL K H1 b ys)∧R (Itz K a b) H1
theorem bL {es:List Expr} {k} {tpos:Pos} {a b:Expr} {ta:TA} {p pos:Pos} (hg:Gl X "zip") (hm:X.mg "zip"=none) (ha:PA X [a,b] ta) (hs:starEach [a,b] X.env=[(false,eval a X.env),(false,eval b X.env)]:=by rfl)
  (hs2:starEach [b] X.env=[(false,eval b X.env)]:=by rfl):PI X (.Tuple es k tpos) (.Call (.Name "zip" p) [a,b] [] pos) (sN X.K ta):=by
 intro pins s σ H R I h;refine Call_ (Uj I hg hm PF (PyProof.Rows.callWith_type1 (thn (ha pos pins s σ H _ I h) fun us s1 hZ1=>?_) (by rw [hs,hs2]) (by rw [hs2];rfl)));obtain ⟨vs,H1,I1,r1,q1⟩:=hZ1;obtain ⟨a,b,e,⟨xs,hq⟩,⟨ys,hr⟩,q⟩:=q1;subst e;cases r1 with
 | cons r rr=>
  cases rr with
  | cons r' rr=>
   cases rr;cases r;cases r';obtain ⟨its,rv,pl,hz⟩:=I1.list hq;obtain ⟨jts,rv',pl',hz'⟩:=I1.list hr;refine call_zip_2 pl.isList pl'.isList fun h' hz hTI hTO h1 h2 hsz hk=>wpAny_pyIter_zip hz ?_
   refine ⟨s1.heap.objs.size + 4,[s1.heap.objs.size + 4,s1.heap.objs.size + 2,s1.heap.objs.size + 3,s1.heap.objs.size,s1.heap.objs.size + 1],_,_,H1,rfl,I1.kept (t':=s1.toks) hk,
    KF a b _ _ _ _ _ (Nat.ne_of_lt (Nat.lt_succ_self _)) (Nat.ne_of_lt (Nat.lt_succ_self _)),⟨hz,hTI,⟨_,_,hTO⟩,h1,h2⟩,fun c hc=>?_,q⟩
   have hb':s1.heap.objs.size ≤ c:=by
    simp only [List.mem_cons,List.not_mem_nil,or_false] at hc;rcases hc with rfl | rfl | rfl | rfl | rfl
    ·exact Nat.le_add_right _ _
    ·exact Nat.le_add_right _ _
    ·exact Nat.le_add_right _ _
    ·exact Nat.le_refl _
    ·exact Nat.le_add_right _ _
   exact I1.fpOk hb' (I1.hok.fresh hb')
end
theorem Hd {X:Cx} {es:List Expr} {k:Nat} {pos:Pos} {t:TGs} {n:Nat} {K:PySem.W.Frag} (hK:X.K=K) (hc:X.calm=true) (h:PGs X es t)
  (hn:(assignEach es X.env).length=n:=by rfl) (hst:(assignEach es X.env).findIdx? (·.1)=none:=by rfl):PG X (.Tuple es k pos) (EL K n t):=by
 subst hK;exact WJ hc h hn hst
section
variable {X:Cx}
theorem kD:Ni X (.type "range") (fun xs H Q=>∃ j:Int,xs=[.int j]∧-4611686018427387904 ≤ j∧j < 4611686018427387904∧∀ p,H p=none→Q (.ref p) (upd H p (.rng 0 j))):=by
 intro pins s σ H xs us Q I r h;obtain ⟨j,rfl,h1,h2,q⟩:=h;obtain ⟨u,rfl,rx⟩:=wp r;obtain ⟨t,rfl⟩:=rx;exact call_range_1 ⟨.ref s.heap.objs.size,upd H s.heap.objs.size (.rng 0 j),I.laid (fun b u e=>Heap.get?_push_of_some _ e) (Nat.le_refl _) ⟨_,_,_,Heap.get?_push_size _ rfl⟩,rfl,q _ (I.hok.fresh (Nat.le_refl _))⟩
theorem Qv {P:Nat→Value→Prop} {f:Nat→V} (hP:∀ i v,P i v→wd (f i) v):∀ (l:List Value) (k:Nat),(∀ j v,l[j]? = some v→P (k + j) v)→Pc ((List.range l.length).map fun i=>f (k + i)) l
 | [],_,_=>.nil
 | v :: r,k,h=>by
  rw [List.length_cons,List.range_succ_eq_map,List.map_cons,List.map_map];refine .cons (hP _ _ (h 0 v rfl)) ?_;have:=Qv hP r (k + 1) fun j w hj=>by
   have:=h (j + 1) w (by simpa using hj);rwa [show k + 1 + j=k + (j + 1) by omega]
  have e:(fun i=>f (k + 1 + i))=((fun i=>f (k + i)) ∘ Nat.succ):=funext fun i=>by
   show f (k + 1 + i)=f (k + (i + 1));rw [show k + 1 + i=k + (i + 1) by omega]
  rwa [e] at this
theorem Qr {P:Nat→Value→Prop} {f:Nat→V} (hP:∀ i v,P i v→wd (f i) v) {acc:Array Value} {n:Nat} (h:ItemsOf P acc n):Pc ((List.range n).map f) acc.toList:=by
 have:=Qv hP acc.toList 0 fun j v hj=>by
  rw [Nat.zero_add];exact h.2 j v (by rw [← Array.getElem?_toList];exact hj)
 rw [show acc.toList.length=n by rw [Array.length_toList];exact h.1] at this;simpa using this
theorem Xs (hc:X.calm=true):Ni X (.type "list") (fun xs H Q=>∃ p j,xs=[.ref p]∧H p=some (.rng 0 j)∧-4611686018427387904 ≤ j∧j ≤ 16777216∧∀ l,H l=none→Q (.ref l) (upd H l (.lst ((List.range j.toNat).map fun (i:Nat)=>V.int i)))):=by
 intro pins s σ H xs us Q I r h;obtain ⟨p,j,rfl,hp,h1,h2,q⟩:=h;obtain ⟨u,rfl,rx⟩:=wp r;cases rx;obtain ⟨t,u,v,e⟩:=(show Gd X.prog X.w H s.heap p (.rng 0 j) from I.hok p _ hp);have hn:Builtin.Range.rangeSize 0 j 1=((j.toNat:Nat):Int):=by rw [rangeSize_one];split <;> omega
 refine call_list_range (I.ok.hd hc) e (small_one (by omega) (by omega) h1 (by omega)) hn (by omega) fun h' tk acc c' hk e' hi=>?_
 refine ⟨.ref s.heap.objs.size,_,I.laid (o:=.lst ((List.range j.toNat).map fun (i:Nat)=>V.int i)) hk (Nat.le_refl _) ⟨?_,acc.toList,c',Qr (fun i v ⟨t,ev⟩=>⟨t,by rw [ev];simp⟩) hi,e'⟩,rfl,q _ (I.hok.fresh (Nat.le_refl _))⟩;rw [List.length_map,List.length_range];exact Nat.le_trans (show j.toNat ≤ 16777216 by omega) (by decide)
end
end L2
namespace L2
open PySem PySem.Spec PyProof.Rows
inductive EqH (K:PySem.W.Frag) (H:Hp):Nat→V→V→Bool→Prop
 | flat {k:Nat} {x y:V} (hx:ik x=true) (hy:ik y=true):EqH K H k x y (eqV x y)
 | lst {k:Nat} {p q:Addr} {xs ys:List V} {e:Nat→Bool} (hp:SqL K H p xs) (hq:SqL K H q ys) (hl:xs.length=ys.length) (he:∀ (j:Nat) (x y:V),xs[j]? = some x→ys[j]? = some y→EqH K H k x y (e j)):EqH K H (k + 1) (.ref p) (.ref q) ((List.range xs.length).all e)
 | lstN {k:Nat} {p q:Addr} {xs ys:List V} (hp:SqL K H p xs) (hq:SqL K H q ys) (hl:xs.length ≠ ys.length):EqH K H (k + 1) (.ref p) (.ref q) false
 | tup {k:Nat} {p q:Addr} {xs ys:List V} {e:Nat→Bool} (hp:SqT K H p xs) (hq:SqT K H q ys) (he:∀ (j:Nat) (x y:V),xs[j]? = some x→ys[j]? = some y→EqH K H k x y (e j)):EqH K H (k + 1) (.ref p) (.ref q) ((List.range (min xs.length ys.length)).all e && xs.length == ys.length)
theorem WF {x:V} (h:ik x=true):eqV x x=true:=by
 cases x <;> first | rfl | (simp [eqV];done) | cases h
theorem Jr {n:Nat} {e:Nat→Bool} (h:∀ j,j < n→e j=true):(List.range n).all e=true:=by
 rw [List.all_eq_true];exact fun j hj=>h j (List.mem_range.mp hj)
section
variable {X:Cx} {pins:List (Addr × Obj)} {σ:St} {H:Hp} {s:Shared}
theorem EqH.self (I:Inv X pins σ H s) {k:Nat} {x y:V} {b:Bool} (h:EqH X.K H k x y b) (e:x=y):b=true:=by
 induction h with
 | flat hx hy=>subst e;exact WF hx
 | @lst k p q xs ys f hp hq hl he ih=>
  injection e with e;subst e;have:=I.list_inj hp hq;subst this;refine Jr fun j hj=>?_
  exact ih j xs[j] xs[j] (List.getElem?_eq_getElem hj) (List.getElem?_eq_getElem hj) rfl
 | lstN hp hq hl=>
  injection e with e;subst e;have:=I.list_inj hp hq;subst this;exact absurd rfl hl
 | @tup k p q xs ys f hp hq he ih=>
  injection e with e;subst e;have:=I.tuple_inj hp hq;subst this;rw [Bool.and_eq_true];refine ⟨Jr fun j hj=>?_,by simp⟩;have hj':j < xs.length:=by omega
  exact ih j xs[j] xs[j] (List.getElem?_eq_getElem hj') (List.getElem?_eq_getElem hj') rfl
end
section
variable {X:Cx} {pins:List (Addr × Obj)} {σ:St} {H:Hp} {s:Shared}
end
section
variable {X:Cx}
end
theorem EqH.mono {K:PySem.W.Frag} {H:Hp} {j k:Nat} {x y:V} {b:Bool} (h:EqH K H j x y b):j ≤ k→EqH K H k x y b:=by
 induction h generalizing k with
 | flat hx hy=>exact fun _=>.flat hx hy
 | lst hp hq hl he ih=>
  intro hk;obtain ⟨m,rfl⟩:∃ m,k=m + 1:=⟨k - 1,by omega⟩;exact .lst hp hq hl fun j x y h1 h2=>ih j x y h1 h2 (by omega)
 | lstN hp hq hl=>
  intro hk;obtain ⟨m,rfl⟩:∃ m,k=m + 1:=⟨k - 1,by omega⟩;exact .lstN hp hq hl
 | tup hp hq he ih=>
  intro hk;obtain ⟨m,rfl⟩:∃ m,k=m + 1:=⟨k - 1,by omega⟩;exact .tup hp hq fun j x y h1 h2=>ih j x y h1 h2 (by omega)
end L2
namespace L2
open PySem PySem.Spec PyProof.Rows PySem.Builtin PySem.Builtin.ObjectAttr
theorem dL {H:Hp} {a:Addr} {o:HO} (h:H a=some o):upd H a o=H:=by
 funext b;unfold upd;by_cases e:b=a
 ·rw [if_pos e,e,h]
 ·rw [if_neg e]
noncomputable abbrev bmV:List Value:=[.type "ValueError",.type "Exception",.type "BaseException",.type "object"]
noncomputable def BH (K:PySem.W.Frag) (C fI:Addr):Bool:=
 match K.lookup C with
 | some ⟨.type "type",_,.cls cd,sl⟩=>
  match cd.mro,sl.toList with
  | .ref D :: tl,[_,_,_,_,some (.builtin n),_]=>
   (D == C) && (n == "ValueError.__new__") && (cd.hasDel == false) && (cd.hasDict == true) && PySem.W.tailIn K bmV tl && PySem.W.nsOkIn K cd.ns && (PySem.W.nsIn K cd.ns "__init__" == some (some (.ref fI)))
  | _,_=>false
 | _=>false
section
variable {P:Program} {w:World} {A:Around} {h:Heap} {g:Array GenState} {d:Drawn} {t:Nat} {os:OsState} {K:PySem.W.Frag} {C fI:Addr} {R:Result→Shared→Prop}
end
noncomputable def RF:List Value→Bool
 | .ref _ :: r=>RF r
 | l=>l == bmV
theorem Vu (T:String) (h:bmV.contains (.type T)=true):∀ {l:List Value},RF l=true→l.contains (.type T)=true
 | .ref c :: r,e=>by rw [List.contains_cons,Vu T h (l:=r) e,Bool.or_true]
 | [],e=>by cases e
 | .type n :: r,e=>by rw [show Value.type n :: r=bmV from beq_iff_eq.mp e];exact h
 | .none :: r,e=>by rw [show Value.none :: r=bmV from beq_iff_eq.mp e];exact h
 | .bool b :: r,e=>by rw [show Value.bool b :: r=bmV from beq_iff_eq.mp e];exact h
 | .int b c :: r,e=>by rw [show Value.int b c :: r=bmV from beq_iff_eq.mp e];exact h
 | .str b c :: r,e=>by rw [show Value.str b c :: r=bmV from beq_iff_eq.mp e];exact h
 | .bytes b c :: r,e=>by rw [show Value.bytes b c :: r=bmV from beq_iff_eq.mp e];exact h
 | .float b c :: r,e=>by rw [show Value.float b c :: r=bmV from beq_iff_eq.mp e];exact h
 | .builtin b :: r,e=>by rw [show Value.builtin b :: r=bmV from beq_iff_eq.mp e];exact h
structure JN (K:PySem.W.Frag) (C:Addr):Prop where
 hd:PySem.W.hasDictIn K C=true
 ov:((PySem.W.clsIn K C).any fun cd=>RF cd.mro)=true
 sa:PySem.W.findIn K (.ref C) "__setattr__"=some (some (.builtin "object.__setattr__"))
 ga:PySem.W.findIn K (.ref C) "__getattribute__"=some (some (.builtin "BaseException.__getattribute__"))
 gt:PySem.W.findIn K (.ref C) "__getattr__"=some none
 ex:∃ fI,BH K C fI=true
noncomputable def XF (x C:Addr) (od:Option Addr):Heap→Prop:=fun h=>∃ vs sl,h.get? x=some ⟨.ref C,od,.fields vs,sl⟩∧1 < vs.size∧vs[1]? = some .none
noncomputable def XD (dx:Addr) (fs:List (Str × V)):Heap→Prop:=fun h=>∃ mA,h.Ns1 dx mA∧(∀ f,Gs (fs.lookup f) (mA f))∧PySem.Within mA (fs.map (·.1))
theorem XF.at {x C:Addr} {od:Option Addr} {h h':Heap} (z:XF x C od h) (k:∀ o,h.get? x=some o→h'.get? x=some o):XF x C od h':=let ⟨vs,sl,e,r⟩:=z;⟨vs,sl,k _ e,r⟩
theorem XD.at {dx:Addr} {fs:List (Str × V)} {h h':Heap} (z:XD dx fs h) (k:∀ o,h.get? dx=some o→h'.get? dx=some o):XD dx fs h':=let ⟨mA,e,r⟩:=z;⟨mA,e.at k,r⟩
theorem XF.ok {P:Program} {w:World} {H:Hp} {h:Heap} {x C:Addr} {od:Option Addr} (z:XF x C od h):Gd P w H h x (.ext (XF x C od)):=by
 obtain ⟨vs,sl,e,r⟩:=id z;exact ⟨z,⟨_,e⟩,fun h1 h2 q k=>q.at k⟩
theorem XD.ok {P:Program} {w:World} {H:Hp} {h:Heap} {dx:Addr} {fs:List (Str × V)} (z:XD dx fs h):Gd P w H h dx (.ext (XD dx fs)):=by
 obtain ⟨mA,⟨o,es,ep,e,_⟩,_⟩:=id z;exact ⟨z,⟨_,e⟩,fun h1 h2 q k=>q.at k⟩
section
variable {prog:Program} {w:World} {A:Around} {E:Value→Shared→Prop} {K:PySem.W.Frag} {C x:Addr} {s:Shared} {R:Result→Shared→Prop}
end
section
variable {X:Cx} {pins:List (Addr × Obj)} {σ:St} {H:Hp} {s:Shared} {x C dx:Addr} {fs:List (Str × V)} {f:Str} {y:V} {u:Value} {A:Around} {E:Value→Shared→Prop} {Q:Unit→Shared→Prop}
noncomputable def XA (x C:Addr) (od:Option Addr):Heap→Prop:=fun h=>∃ vs sl,h.get? x=some ⟨.ref C,od,.fields vs,sl⟩
theorem XA.at {x C:Addr} {od:Option Addr} {h h':Heap} (z:XA x C od h) (k:∀ o,h.get? x=some o→h'.get? x=some o):XA x C od h':=let ⟨vs,sl,e⟩:=z;⟨vs,sl,k _ e⟩
theorem XA.ok {P:Program} {w:World} {H:Hp} {h:Heap} {x C:Addr} {od:Option Addr} (z:XA x C od h):Gd P w H h x (.ext (XA x C od)):=by
 obtain ⟨vs,sl,e⟩:=id z;exact ⟨z,⟨_,e⟩,fun h1 h2 q k=>q.at k⟩
end
noncomputable abbrev TJ:=St→Hp→(Hp→Prop)→Prop
noncomputable def PJ (X:Cx) (es:List Expr) (n:Nat) (t:TJ):Prop:=
 ∀ (pins:List (Addr × Obj)) (s:Shared) (σ:St) (H:Hp) (Q:Hp→Prop) (acc:Str) (R:Str→Shared→Prop),Inv X pins σ H s→acc.length + n ≤ sizeLine→t σ H Q →
  (∀ out H' s',Inv X pins σ H' s'→out.length ≤ sizeLine→Q H'→R out s')→Joins (model X.prog X.w) X.A X.xe (evalEach es X.env) acc R s
noncomputable def tJ0:TJ:=fun _ H Q=>Q H
noncomputable def tJI (te:TE) (t:TJ):TJ:=fun σ H Q=>te σ H fun v H1=>∃ i,v=.int i∧i.natAbs.log2 < 1920∧t σ H1 Q
noncomputable def tE (t:TJ):TE:=fun σ H Q=>t σ H fun H1=>∀ y:Str,Q (.str y) H1
section
variable {X:Cx} {e:Expr} {es:List Expr} {n:Nat} {t:TJ} {te:TE} {pos:Pos}
theorem tJ:PJ X [] 0 tJ0:=fun pins s σ H Q acc R I hl q h=>h acc H s I hl q
theorem tG {c:Str} {k:Nat} (h:PJ X es n t):PJ X (.Constant (.str c) k pos :: es) (n + c.length) t:=fun pins s σ H Q acc R I hl q hR=>by
 show wpAny _ _ _ _ _ _;refine Calls.Constant_str ⟨c,_,rfl,by rw [strLen_append];omega,h pins _ σ H Q _ R (I.tok _) (by rw [strLen_append];omega) q hR⟩
theorem VJ (he:PE X e te) (h:PJ X es n t):PJ X (.FormattedValue e (-1) none pos :: es) (n + 2000) (tJI te t):=fun pins s σ H Q acc R I hl q hR=>by
 show wpAny _ _ _ _ _ _;refine wpAny_FormattedValue_plain (thn (he pins s σ H _ I q) fun u s1 hZ1=>?_);obtain ⟨v,H1,I1,r,i,ev,hi,q1⟩:=hZ1;subst ev;obtain ⟨tk,rfl⟩:=(show ∃ tk,u=Value.int i tk from r);have hz:=int_text_fits hi;have hz2:(Str.ofString (toString i)).length ≤ 2000:=by
  have e:=int_text_length_le (k:=1920) (by decide) hi;rw [PySem.ofString_length];omega
 refine wpAny_formatField_int hi ⟨_,_,rfl,by rw [strLen_append];omega,h pins _ σ H1 Q _ R (I1.tok _) (by rw [strLen_append];omega) q1 hR⟩
theorem RC {e2:Expr} (h:PJ X (e :: e2 :: es) n t) (hn:n ≤ sizeLine):PE X (.JoinedStr (e :: e2 :: es) pos) (tE t):=by
 intro pins s σ H Q I q;refine wpAny_JoinedStr (h pins s σ H _ _ _ I (by show 0 + n ≤ _;omega) q fun out H' s' I' hl q'=>⟨hl,?_⟩);exact ⟨.str out,H',I'.tok _,⟨_,rfl⟩,q' out⟩
end
structure ON (K:PySem.W.Frag) (L:Addr) (m:Str):Prop where
 rd:PySem.W.readsIn K L (.type "type")=true
 fd:PySem.W.findCls K (.ref L) (.type "type") m=some (.val (.builtin "ValueError.__init__"))
 ga:PySem.W.specialIn K (.ref L) "__getattribute__"=some (some (.builtin "type.__getattribute__"))
section
variable {X:Cx} {L:Addr} {x:Str} {p pos apos:Pos} {e:Expr} {es:List Expr} {t:TA}
end
structure MkX (K:PySem.W.Frag) (C fI:Addr):Prop where
 e:BH K C fI=true
 fn:PySem.W.typeIn K (.ref fI)=some (.type "function")
 kp:PySem.W.keepIn K (.ref C)=true
section
variable {X:Cx} {k:Nat} {f C:Addr} {fd:FuncData} {ps:List Str} {sp:Sp} {x g:Str} {p pos pos' apos:Pos} {e o value:Expr} {es:List Expr} {ta tv:TE} {t:TA}
end
end L2
namespace L2
open PySem PySem.Spec PyProof.Rows PySem.Builtin PySem.Builtin.ObjectAttr
noncomputable def FlA (x C:Addr) (od:Option Addr) (T:Addr) (fl:Value) (h:Heap):Prop:=
 T ≠ x∧∃ vs sl oT ts,h.get? x=some ⟨.ref C,od,.fields vs,sl⟩∧vs[1]? = some (.ref T)∧h.get? T=some oT∧oT.data=.fields ts∧ts[3]? = some fl
theorem FlA.xa {x C T:Addr} {od:Option Addr} {fl:Value} {h:Heap} (z:FlA x C od T fl h):XA x C od h:=let ⟨_,vs,sl,_,_,e,_⟩:=z;⟨vs,sl,e⟩
structure Kp (fs:List Addr) (x:Addr) (To:Option Addr) (h h':Heap):Prop where
 keep:∀ b o,h.get? b=some o→b ∉ fs→b ≠ x→some b ≠ To→h'.get? b=some o
 slot:∀ b o,h.get? b=some o→b ∈ fs→∃ sl,h'.get? b=some { o with slots:=sl }
 there:∀ b o,h.get? b=some o→∃ o',h'.get? b=some o'
section
variable {M:Model} {A:Around} {E:Value→Shared→Prop} {s:Shared}
theorem nofr {base h:Heap} {l:List Env} {b:Addr} {o:Obj} {vs:Array Value} (hl:h.FunFrames base l) (e:h.get? b=some o) (d:o.data=.fields vs):b ∉ frs l:=fun hm=>by
 obtain ⟨_,o',e',nf⟩:=hl.mem hm;rw [e] at e';cases e';exact nf vs d
theorem wF {env env':Env} {L:Addr} (hf:env.frame=some L) (hf':env'.frame=some L):PySem.frameOf env'=PySem.frameOf env:=by
 unfold PySem.frameOf;rw [hf',hf]
theorem CG {base:Heap} {env env':Env} {outer:List Env} {L x C:Addr} {od:Option Addr} {vs:Array Value} {sl:Array (Option Value)} {head:Value} {hn:Bool} {Q:Unit→Shared→Prop}
  (hfr:A.frames=some (env :: outer)) (hl:s.heap.FunFrames base (env :: outer)) (hf:env.frame=some L) (hf':env'.frame=some L) (he:s.heap.get? x=some ⟨.ref C,od,.fields vs,sl⟩) (hz:1 < vs.size)
  (h:∀ h' T,Kp (frs (env :: outer)) x none s.heap h'→s.heap.objs.size ≤ T→FlA x C od T (rawInt L) h'→Q () { s with heap:=h' }) :
  wpAny M A (do let a ← PySem.frameOf env';let pl ← entryPlaceOf L hn;let b ← EntryCells.newEntry head a .none (rawInt L) .none pl;setField (.ref x) 1 b) Q E s:=by
 have nx:x ∉ frs (env :: outer):=nofr hl he rfl;rw [wF hf hf'];refine wpAny_bind (wpAny_frameOf_fun hfr hl hf fun h1 S=>wpAny_bind (wpAny_entryPlaceOf fun pl hp=>?_));unfold EntryCells.newEntry newFields;refine wpAny_bind (wpAny_newObj_type ?_ (hp.sizeOk5 _ _ _ _ _));have e1:h1.get? x=some ⟨.ref C,od,.fields vs,sl⟩:=(S.2.1 x nx).trans he;obtain ⟨ts,hts,h3⟩:∃ ts:Array Value,([head,.ref L,.none,rawInt L,.none] ++ (if pl.isEmpty then List.replicate 6 Value.none else pl)).toArray=ts∧ts[3]? = some (rawInt L):=⟨_,rfl,by simp⟩;rw [hts];have e2:=Heap.get?_push_of_some (h:=h1) { cls:=.type "traceback",dict:=none,data:=.fields ts } e1;have ne:h1.objs.size ≠ x:=Nat.ne_of_gt (Heap.lt_size e1);have sz:h1.objs.size=s.heap.objs.size:=S.1;refine wpAny_setField e2 rfl hz (h _ h1.objs.size ⟨fun b o q n1 n2 _=>?_,fun b o q n1=>?_,fun b o q=>?_⟩ (Nat.le_of_eq sz.symm) ⟨ne,vs.setIfInBounds 1 (.ref h1.objs.size),sl,{ cls:=.type "traceback",dict:=none,data:=.fields ts },ts,Heap.get?_update_self _ e2 rfl,by simp [hz],?_,rfl,h3⟩)
 ·rw [Heap.get?_update_other _ _ (Ne.symm n2)];exact Heap.get?_push_of_some _ ((S.2.1 b n1).trans q)
 ·obtain ⟨sl',e3⟩:=S.2.2 b o q;have nb:x ≠ b:=fun z=>nx (by rw [z];exact n1)
  exact ⟨sl',(Heap.get?_update_other _ _ nb).trans (Heap.get?_push_of_some _ e3)⟩
 ·by_cases hb:b=x
  ·rw [hb];exact ⟨_,Heap.get?_update_self _ e2 rfl⟩
  ·obtain ⟨sl',e3⟩:=S.2.2 b o q;exact ⟨_,by rw [Heap.get?_update_other _ _ (Ne.symm hb)];exact Heap.get?_push_of_some _ e3⟩
 ·exact (Heap.get?_update_other _ _ (Ne.symm ne)).trans (Heap.get?_push_size h1 rfl)
theorem Nz {base:Heap} {env env':Env} {outer:List Env} {L x C:Addr} {od:Option Addr} {vs:Array Value} {sl:Array (Option Value)} {Q:Unit→Shared→Prop}
  (hfr:A.frames=some (env :: outer)) (hl:s.heap.FunFrames base (env :: outer)) (hf:env.frame=some L) (hf':env'.frame=some L) (he:s.heap.get? x=some ⟨.ref C,od,.fields vs,sl⟩) (h1:vs[1]? = some .none)
  (h:∀ h' T,Kp (frs (env :: outer)) x none s.heap h'→s.heap.objs.size ≤ T→FlA x C od T (rawInt L) h'→Q () { s with heap:=h' }) :
  wpAny M A (noteFrame (.ref x) env') Q E s:=by
 unfold noteFrame;simp only [hf'];refine wpAny_bind (wpAny_field he rfl h1 ?_);rw [if_neg (by decide)];exact CG hfr hl hf hf' he (Array.getElem?_eq_some_iff.mp h1).1 h
theorem XC {base:Heap} {env env':Env} {outer:List Env} {L x C T:Addr} {od:Option Addr} {fl:Value} {Q:Unit→Shared→Prop}
  (hfr:A.frames=some (env :: outer)) (hl:s.heap.FunFrames base (env :: outer)) (hf:env.frame=some L) (hf':env'.frame=some L) (z:FlA x C od T fl s.heap) (hne:¬ (fl == rawInt L)=true)
  (h:∀ h' T',Kp (frs (env :: outer)) x (some T) s.heap h'→s.heap.objs.size ≤ T'→FlA x C od T' (rawInt L) h'→Q () { s with heap:=h' }) :
  wpAny M A (noteFrame (.ref x) env') Q E s:=by
 obtain ⟨ne,vs,sl,oT,ts,he,h1,hT,hd,h3⟩:=z;unfold noteFrame;simp only [hf'];refine wpAny_bind (wpAny_field he rfl h1 ?_);rw [if_pos (show (Value.ref T != Value.none)=true from by simp)];refine wpAny_bind (wpAny_field hT hd h3 ?_);rw [if_neg hne];refine wpAny_bind (wpAny_setField hT hd (Array.getElem?_eq_some_iff.mp h3).1 ?_);have nT:T ∉ frs (env :: outer):=nofr hl hT hd;have oth:∀ b,b ≠ T→(s.heap.update T (Obj.mapFields (·.setIfInBounds 3 Value.none))).get? b=s.heap.get? b:=fun b hb=>Heap.get?_update_other _ _ (Ne.symm hb)
 have tT:∃ o',(s.heap.update T (Obj.mapFields (·.setIfInBounds 3 Value.none))).get? T=some o':=⟨_,Heap.get?_update_self _ hT (Obj.isFreed_of_fields (Obj.data_mapFields hd _))⟩;have hl2:(s.heap.update T (Obj.mapFields (·.setIfInBounds 3 Value.none))).FunFrames base (env :: outer):=hl.of_keeps fun b o e nf=>⟨o,(oth b fun q=>by rw [q,hT] at e;cases e;exact nf ts hd).trans e,rfl⟩
 refine CG (s:={ s with heap:=s.heap.update T (Obj.mapFields (·.setIfInBounds 3 Value.none)) }) hfr hl2 hf hf' ((oth x (Ne.symm ne)).trans he) (Array.getElem?_eq_some_iff.mp h1).1 fun h' T' k w f=>h h' T' ⟨fun b o q n1 n2 n3=>?_,fun b o q n1=>?_,fun b o q=>?_⟩ ?_ f
 ·exact k.keep b o ((oth b fun y=>n3 (by rw [y])).trans q) n1 n2 (fun y=>by cases y)
 ·exact k.slot b o ((oth b fun y=>nT (y ▸ n1)).trans q) n1
 ·by_cases hb:b=T
  ·subst hb;obtain ⟨o',e'⟩:=tT;exact k.there _ _ e'
  ·exact k.there b o ((oth b hb).trans q)
 ·exact Nat.le_trans (Nat.le_of_eq (Heap.size_update _ _ _).symm) w
theorem flight {x C T:Addr} {od:Option Addr} {fl:Value} {fs:List Addr} {Q:Unit→Shared→Prop} (o:Option Addr) (z:FlA x C od T fl s.heap) (nT:T ∉ fs)
  (h:∀ h',Kp fs x (some T) s.heap h'→FlA x C od T (o.elim .none fun f=>rawInt f) h'→Q () { s with heap:=h' }):wpAny M A (setFlight (.ref x) o) Q E s:=by
 obtain ⟨ne,vs,sl,oT,ts,he,h1,hT,hd,h3⟩:=z;have z3:3 < ts.size:=(Array.getElem?_eq_some_iff.mp h3).1;have oth:∀ b,b ≠ T→(s.heap.update T (Obj.mapFields (·.setIfInBounds 3 (o.elim Value.none fun f=>rawInt f)))).get? b=s.heap.get? b:=fun b hb=>Heap.get?_update_other _ _ (Ne.symm hb)
 have tT:=Heap.get?_update_self (Obj.mapFields (·.setIfInBounds 3 (o.elim Value.none fun f=>rawInt f))) hT (Obj.isFreed_of_fields (Obj.data_mapFields hd _));unfold setFlight;refine wpAny_bind (wpAny_field he rfl h1 ?_);rw [if_pos (show (Value.ref T != Value.none)=true from by simp)];refine wpAny_setField hT hd z3 (h _ ⟨fun b o q _ _ n3=>(oth b fun y=>n3 (by rw [y])).trans q,fun b o q n1=>⟨o.slots,(oth b fun y=>nT (y ▸ n1)).trans q⟩,fun b o q=>?_⟩
  ⟨ne,vs,sl,_,_,(oth x (Ne.symm ne)).trans he,h1,tT,Obj.data_mapFields hd _,by simp [z3]⟩)
 by_cases hb:b=T
 ·subst hb;exact ⟨_,tT⟩
 ·exact ⟨o,(oth b hb).trans q⟩
end
section
variable {P:Program} {w:World} {H:Hp} {h h':Heap} {fs:List Addr} {x C T:Addr} {od:Option Addr} {fl:Value} {To:Option Addr} {o:HO}
theorem Kp.hok (k:Kp fs x To h h') (ok:HOk P w H h) (hfs:∀ b ∈ fs,H b=none) (hT:∀ t,To=some t→H t=none) (mu:Mut (H x)) (new:XA x C od h'):HOk P w (upd H x (.ext (XA x C od))) h':=fun b u q=>by
 have nown:∀ c y,H c=some (.own y)→c ≠ x:=fun c y r z=>by subst z;rw [r] at mu;exact mu
 have ntup:∀ c xs,H c=some (.tup xs)→c ≠ x:=fun c xs r z=>by subst z;rw [r] at mu;exact mu
 have kk:∀ c v,c ≠ x→H c ≠ none→h.get? c=some v→h'.get? c=some v:=fun c v n1 n2 r=>k.keep c v r (fun z=>n2 (hfs c z)) n1 fun z=>n2 (hT c z.symm)
 by_cases hb:b=x
 ·subst hb;rw [db] at q;cases q;exact new.ok
 ·rw [wb hb] at q;refine (ok b u q).stay (fun c v hc r=>?_) (fun c r=>by rw [wb (nown c b r)];exact r) fun c xs r=>by rw [wb (ntup c xs r)];exact r
  rcases hc with rfl | hc
  ·exact kk c v hb (by rw [q];exact fun z=>by cases z) r
  ·exact kk c v (nown c b hc) (by rw [hc];exact fun z=>by cases z) r
theorem Kp.un (k:Kp fs x To h h') (hT:∀ t,To=some t→H t=none) (mu:Mut (H x)):Un fs To.toList H (upd H x o) h h':=by
 have hx:∀ b,H b=none→b ≠ x:=fun b n z=>by subst z;rw [n] at mu;exact mu
 have hm:∀ b u,H b=some u→¬ Mut (some u)→b ≠ x:=fun b u q nm z=>by subst z;rw [q] at mu;exact nm mu
 refine ⟨fun b u q n n1 n2=>k.keep b u q n1 (hx b n) fun z=>n2 (by rw [← z];simp),fun b u q n n1 n2=>k.slot b u q n1,fun b u q n _=>by rw [wb (hx b n)];exact n,fun b u q _=>k.there b u q,
  fun b xs q=>by rw [wb (hm b _ q fun z=>z)];exact q,fun b u xs q=>by rw [wb (hm b _ q fun z=>z)];exact q,fun b ps q=>⟨#[],by rw [wb (hm b _ q fun z=>z),q];simp⟩⟩
end
noncomputable def CX1 (P:Program) (w:World):CXT:=fun outer H s E e s'=>
 ∃ x C od H' T,e=.ref x∧s'.os=s.os∧AllBare s'.gens∧Un (frs outer) [] H H' s.heap s'.heap∧HOk P w H' s'.heap∧H' x=some (.ext (XA x C od))∧s.heap.objs.size ≤ T∧H' T=none∧FlA x C od T .none s'.heap∧E (.ref C) od H'
noncomputable def iC (X:Cx) (E:St→XK):Prop:=∀ (pins:List (Addr × Obj)) (σ:St) (H:Hp) (s:Shared) (x C:Addr) (od:Option Addr),Inv X pins σ H s→H x=some (.ext (XF x C od))→E σ (.ref C) od (upd H x (.ext (XA x C od)))→X.xe (.ref x) s
noncomputable def Yv (CX:CXT) (X:Cx) (E:St→XK):Prop:=∀ (pins:List (Addr × Obj)) (σ:St) (H:Hp) (s:Shared) (e:Value) (s':Shared),Inv X pins σ H s→CX X.stack H s (E σ) e s'→X.xe e s'
structure Fr1 (X:Cx):Prop where
 st:X.stack=X.env :: X.outer
 fr:X.env.frame=some X.env.locals
noncomputable def GK (X:Cx) (pins:List (Addr × Obj)) (T:Addr):Prop:=(T ∈ X.ex∨X.s₀.heap.objs.size ≤ T)∧T ≠ X.env.locals∧(∀ x c,X.env.cells.lookup x=some c→c ≠ T)∧∀ p ∈ X.pn ++ pins,p.1 ≠ T
noncomputable def yA (X:Cx) (pins:List (Addr × Obj)) (E:St→XK) (fl:Value) (e:Value) (s':Shared):Prop:=
 ∃ σ' H' x C od T,e=.ref x∧Inv X pins σ' H' s'∧H' x=some (.ext (XA x C od))∧H' T=none∧GK X pins T∧FlA x C od T fl s'.heap∧E σ' (.ref C) od H'
noncomputable def xeR (X:Cx) (pins:List (Addr × Obj)) (E:St→XK) (e:Value) (s':Shared):Prop:=
 ∃ σ' H' x C od,e=.ref x∧Inv X pins σ' H' s'∧H' x=some (.ext (XF x C od))∧E σ' (.ref C) od (upd H' x (.ext (XA x C od)))
noncomputable def xeT (X:Cx) (pins:List (Addr × Obj)) (E:St→XK) (e:Value) (s':Shared):Prop:=xeR X pins E e s'∨∃ fl,yA X pins E fl e s'
noncomputable def xeA (X:Cx) (E:St→XK) (e:Value) (s':Shared):Prop:=∃ pins,xeT X pins E e s'
section
variable {X:Cx} {pins:List (Addr × Obj)} {σ:St} {H:Hp} {s:Shared} {T x C:Addr} {od:Option Addr} {E:St→XK} {M:Model} {A:Around} {E':Value→Shared→Prop} {Q:Unit→Shared→Prop} {e fl:Value} {h':Heap}
theorem YL (I:Inv X pins σ H s) (hT:s.heap.objs.size ≤ T):GK X pins T:=by
 have lt:∀ {b:Addr} {o:Obj},s.heap.get? b=some o→b ≠ T:=fun q z=>by
  subst z;exact absurd (Nat.lt_of_lt_of_le (Heap.lt_size q) hT) (Nat.lt_irrefl _)
 refine ⟨.inr (Nat.le_trans I.sz hT),fun z=>?_,fun x c e=>?_,fun p hp=>lt (I.pin p hp).1⟩
 ·obtain ⟨m,⟨o,es,ep,ho,_⟩,_⟩:=I.loc;exact lt ho z.symm
 ·obtain ⟨v,o,ho,_⟩:=I.cell x c e;exact lt ho
theorem oI (I:Inv X pins σ H s) (k:Kp (frs X.stack) x (some T) s.heap h') (ex:H x=some (.ext (XA x C od))) (eT:H T=none) (nT:GK X pins T) (xa:XA x C od h'):Inv X pins σ H { s with heap:=h' }:=by
 have mu:Mut (H x):=by rw [ex];exact True.intro
 have z:∀ t,some T=some t→H t=none:=fun t z=>by cases z;exact eT
 have u1:=k.un (H:=H) (o:=.ext (XA x C od)) z mu;have k1:=k.hok I.hok I.stkFree z mu xa;rw [dL ex] at u1 k1;exact I.call' (s':={ s with heap:=h' }) (ch:=[T]) rfl u1 k1 I.bare fun b hb=>by
  obtain rfl:b=T:=by simpa using hb
  exact nT
theorem aH (F:Fr1 X) (I:Inv X pins σ H s) (k:Kp (frs (X.env :: X.outer)) x (some T) s.heap h') (ex:H x=some (.ext (XA x C od))) (eT:H T=none) (nT:GK X pins T) (xa:XA x C od h'):Inv X pins σ H { s with heap:=h' }:=
 oI I (by rw [F.st];exact k) ex eT nT xa
theorem yA.note (F:Fr1 X) (q:yA X pins E fl e s) (hne:¬ (fl == rawInt X.env.locals)=true) (h:∀ s',yA X pins E (rawInt X.env.locals) e s'→Q () s'):wpAny M X.A (noteFrame e X.env) Q E' s:=by
 obtain ⟨σ,H,x,C,od,T,rfl,I,ex,eT,nT,f,w⟩:=q;have fs:s.heap.FunFrames X.base (X.env :: X.outer):=by rw [← F.st];exact I.stack
 exact XC (by rw [← F.st];exact I.ok.frames) fs F.fr F.fr f hne fun h' T' k w' f'=>h _ ⟨σ,H,x,C,od,T',rfl,aH F I k ex eT nT f'.xa,ex,I.hok.fresh w',YL I w',f',w⟩
theorem yA.noted (F:Fr1 X) (q:yA X pins E (rawInt X.env.locals) e s) (h:Q () s):wpAny M X.A (noteFrame e X.env) Q E' s:=by
 obtain ⟨σ,H,x,C,od,T,rfl,I,ex,eT,nT,⟨ne,vs,sl,oT,ts,he,h1,hT,hd,h3⟩,w⟩:=q;unfold noteFrame;simp only [F.fr];refine wpAny_bind (wpAny_field he rfl h1 ?_);rw [if_pos (show (Value.ref T != Value.none)=true from by simp)];refine wpAny_bind (wpAny_field hT hd h3 ?_);rw [if_pos (show (rawInt X.env.locals == rawInt X.env.locals)=true from by simp)];exact wpAny_pure h
theorem xeR.note (F:Fr1 X) (q:xeR X pins E e s) (h:∀ s',yA X pins E (rawInt X.env.locals) e s'→Q () s'):wpAny M X.A (noteFrame e X.env) Q E' s:=by
 obtain ⟨σ,H,x,C,od,rfl,I,ex,w⟩:=q;have fs:s.heap.FunFrames X.base (X.env :: X.outer):=by rw [← F.st];exact I.stack
 obtain ⟨vs,sl,hx,z1,z2⟩:=(show Gd X.prog X.w H s.heap x (.ext (XF x C od)) from I.hok _ _ ex).1;have mu:Mut (H x):=by rw [ex];exact True.intro
 refine Nz (by rw [← F.st];exact I.ok.frames) fs F.fr F.fr hx z2 fun h' T k w' f=>h _ ?_
 have z:∀ t,none=some t→H t=none:=fun t z=>by cases z
 have u1:=k.un (H:=H) (o:=.ext (XA x C od)) z mu;have k1:=k.hok I.hok (by rw [← F.st];exact I.stkFree) z mu f.xa;rw [← F.st] at u1;have I2:=I.call' (s':={ s with heap:=h' }) (ch:=[]) rfl u1 k1 I.bare fun b hb=>absurd hb (by simp)
 exact ⟨σ,_,x,C,od,T,rfl,I2,db,by rw [wb f.1];exact I.hok.fresh w',YL I w',f,w⟩
theorem xeT.note (F:Fr1 X) (q:xeT X pins E e s) (h:∀ s',yA X pins E (rawInt X.env.locals) e s'→Q () s'):wpAny M X.A (noteFrame e X.env) Q E' s:=by
 rcases q with q | ⟨fl,q⟩
 ·exact q.note F h
 ·by_cases c:(fl == rawInt X.env.locals)=true
  ·rw [beq_iff_eq] at c;subst c;exact q.noted F (h _ q)
  ·exact q.note F c h
theorem yA.flight (F:Fr1 X) (o:Option Addr) (q:yA X pins E fl e s) (h:∀ s',yA X pins E (o.elim .none fun f=>rawInt f) e s'→Q () s'):wpAny M A (setFlight e o) Q E' s:=by
 obtain ⟨σ,H,x,C,od,T,rfl,I,ex,eT,nT,f,w⟩:=q;have fs:s.heap.FunFrames X.base (X.env :: X.outer):=by rw [← F.st];exact I.stack
 have nf:T ∉ frs (X.env :: X.outer):=by
  obtain ⟨_,_,_,oT,ts,_,_,e,d,_⟩:=id f;exact nofr fs e d
 exact L2.flight o f nf fun h' k f'=>h _ ⟨σ,H,x,C,od,T,rfl,aH F I k ex eT nT f'.xa,ex,eT,nT,f',w⟩
theorem xeT.leave (F:Fr1 X) (q:xeT X pins E e s) (h:∀ s',yA X pins E .none e s'→Q () s'):wpAny M X.A (leaving X.env e) Q E' s:=by
 unfold leaving;exact wpAny_bind (q.note F fun s' q'=>q'.flight F none h)
theorem gw (F:Fr1 X):PassesOwn M X.A X.env (xeT X pins E):=fun e s' q=>by
 refine q.note F fun s2 q2=>?_
 show wpAny _ _ _ _ _ _;obtain ⟨σ,H,x,C,od,T,rfl,I,ex,eT,nT,⟨ne,vs,sl,oT,ts,he,h1,hT,hd,h3⟩,w⟩:=id q2;refine wpAny_bind (wpAny_field he rfl h1 ?_);rw [if_neg (show ¬ (Value.ref T == Value.none)=true from by simp)];rw [F.fr];exact q2.flight F _ fun s3 q3=>.inr ⟨_,q3⟩
theorem dw (F:Fr1 X):PassesOwn M X.A X.env (xeA X E):=fun e s' ⟨pins,q⟩=>by
 have z:=gw (M:=M) F e s' q;refine wpAny_mono z (fun _ s2 q2=>?_) fun e2 s2 q2=>?_
 all_goals exact wpAny_mono q2 (fun _ s3 q3=>⟨pins,q3⟩) fun e3 s3 q3=>⟨pins,q3⟩
theorem SI:iC (X.wish (xeA X E)) E:=fun pins σ H s x C od I ex q=>⟨pins,.inl ⟨σ,H,x,C,od,rfl,I.unwish,ex,q⟩⟩
end
theorem JI {X:Cx} {E:XK}:iC (X.wish (xeA X fun _=>E)) (fun _=>E):=SI
section
variable {P:Program} {w:World} {K:PySem.W.Frag} {mg:Str→Option Value} {base:Heap} {N:List Str} {qual:Str} {scope:Scope} {f:Addr} {cd:Value} {A:Around} {outer:List Env} {s:Shared} {H:Hp} {E:XK}
theorem QI {e:Value} {s':Shared} (q:xeA (lD (CX1 P w) P w K mg base N qual scope f cd A outer s H E) (fun _=>E) e s'):(lD (CX1 P w) P w K mg base N qual scope f cd A outer s H E).xe e s':=by
 obtain ⟨pins,q⟩:=q;refine q.leave ⟨rfl,rfl⟩ fun s2 q2=>?_
 obtain ⟨σ,H2,x,C,od,T,rfl,I,ex,eT,nT,fl,q⟩:=q2;refine ⟨x,C,od,H2,T,rfl,I.os,I.bare,I.base,I.hok,ex,?_,eT,fl,q⟩;rcases nT.1 with z | z
 ·exact absurd z (by show T ∉ ([]:List Addr);simp)
 ·exact z
end
noncomputable def HH (sp:Sp) (dvs:List V) (E:St→XK) (t:TA):TE:=fun σ H Q=>t σ H fun vs H1=>sp (vs ++ dvs) H1 Q (E σ)
section
variable {X:Cx} {CX:CXT} {k:Nat} {f C:Addr} {fd:FuncData} {ps:List Str} {sp:Sp} {dvs:List V} {ds:List Value} {E:St→XK} {x m:Str} {p pos apos:Pos} {e o:Expr} {es:List Expr} {ta:TE} {t:TA}
theorem NI {pins:List (Addr × Obj)} {σ:St} {H:Hp} {s:Shared} {Q:VK} {us:List Value} {vs:List V} (F:Eb X.prog X.w X.K X.mg X.base CX k f fd ps sp) (hr:ci k X.A) (hb:Lb X.K fd ps ds) (hd:Pc dvs ds) (hx:Yv CX X E)
  (I:Inv X pins σ H s) (r:Pc vs us) (h:sp (vs ++ dvs) H Q (E σ)):wpAny (model X.prog X.w) X.A (call (.ref f) us) (EP X pins σ Q) X.xe s:=by
 have r2:Pc (vs ++ dvs) (us ++ ds):=r.append hd;have hl:(us ++ ds).length=ps.length:=by rw [← r2.length];exact F.len _ _ _ _ h
 refine wpAny_call (codeAny_mono (F.run X.A X.stack s H ⟨us,[]⟩ (us ++ ds) (vs ++ dvs) Q (E σ) hr I.env0 (hb s us I.kIn hl) r2 h) fun r s' hq=>?_);rcases r with e | (u | _ | _ | _)
 ·exact hx pins σ H s e s' I hq
 all_goals first | exact I.after hq | exact False.elim hq
theorem VE (F:Eb X.prog X.w X.K X.mg X.base CX k f fd ps sp) (hr:ci k X.A) (hg:Gl X x) (hm:X.mg x=some (.ref f)) (hk:PySem.W.keepIn X.K (.ref f)=true) (hb:Lb X.K fd ps ds) (hd:Pc dvs ds) (hx:Yv CX X E)
  (ha:PA X (e :: es) t) (hdb:(x == ("__debug__" : Str))=false:=by decide) (he:starEach (e :: es) X.env=(false,eval e X.env) :: starEach es X.env:=by rfl) (hpl:(backTo pos (starEach es X.env)).any (·.1)=false:=by rfl) :
  PE X (.Call (.Name x p) (e :: es) [] pos) (HH sp dvs E t):=by
 intro pins s σ H Q I h;refine wpAny_Call_Name_kw (nk I hg hm ?_ hdb);exact PySem.W.callWith_K (h₀:=X.base) I.ok.mod.kin hk (thn (ha pos pins s σ H _ I h) fun us s1 ⟨vs,H1,I1,r,q⟩=>⟨I1.kIn,NI F hr hb hd hx I1 r q⟩) he hpl
end
noncomputable abbrev Cx.tr (X:Cx) (pn:List (Addr × Obj)) (E:Value→Shared→Prop):Cx:={ X with pn:=X.pn ++ pn,xe:=E }
noncomputable abbrev Cx.hn (X:Cx) (e:Value):Cx:={ X with A:=X.A.mark (some e),calm:=false,xe:=fun _ _=>False }
section
variable {X:Cx} {pins pins':List (Addr × Obj)} {σ:St} {H:Hp} {s:Shared} {E:Value→Shared→Prop} {e:Value}
theorem Cx.Ok.tr (ok:X.Ok) (pn:List (Addr × Obj)) (E:Value→Shared→Prop):(X.tr pn E).Ok:=
 ⟨ok.mod,ok.kind,ok.glob,ok.blt,ok.above,ok.inj,ok.has,ok.cab,ok.hd,ok.frames,ok.stk,ok.exf,ok.bs,ok.bsz,ok.noex,ok.exfs,ok.funs,ok.frf⟩
theorem Cx.Ok.untr {pn:List (Addr × Obj)} (ok:(X.tr pn E).Ok):X.Ok:=
 ⟨ok.mod,ok.kind,ok.glob,ok.blt,ok.above,ok.inj,ok.has,ok.cab,ok.hd,ok.frames,ok.stk,ok.exf,ok.bs,ok.bsz,ok.noex,ok.exfs,ok.funs,ok.frf⟩
theorem Cx.Ok.hn (ok:X.Ok) (e:Value):(X.hn e).Ok:=
 ⟨ok.mod,ok.kind,ok.glob,ok.blt,ok.above,ok.inj,ok.has,ok.cab,(fun z=>Bool.noConfusion z),ok.frames,ok.stk,ok.exf,ok.bs,ok.bsz,ok.noex,ok.exfs,ok.funs,ok.frf⟩
theorem Inv.tr (I:Inv X pins σ H s) (E:Value→Shared→Prop):Inv (X.tr pins E) [] σ H s:=⟨I.ok.tr pins E,I.os,I.bare,I.base,I.loc,I.cell,I.free,I.freeC,fun p hp=>I.pin p (by simpa using hp),I.hok,I.len⟩
theorem Inv.untr (I:Inv (X.tr pins E) pins' σ H s):Inv X pins σ H s:=⟨I.ok.untr,I.os,I.bare,I.base,I.loc,I.cell,I.free,I.freeC,fun p hp=>I.pin p (List.mem_append_left _ hp),I.hok,I.len⟩
theorem Inv.hn (I:Inv X pins σ H s) (e:Value):Inv (X.hn e) pins σ H s:=⟨I.ok.hn e,I.os,I.bare,I.base,I.loc,I.cell,I.free,I.freeC,I.pin,I.hok,I.len⟩
theorem Inv.unhn (ok:X.Ok) (I:Inv (X.hn e) pins σ H s):Inv X pins σ H s:=⟨ok,I.os,I.bare,I.base,I.loc,I.cell,I.free,I.freeC,I.pin,I.hok,I.len⟩
theorem SP.untr {D:Oh} {f:Flow} {s':Shared} (h:SP (X.tr pins E) pins' D f s'):SP X pins D f s':=by
 cases f with
 | next=>obtain ⟨σ',H',I,q⟩:=h;exact ⟨σ',H',I.untr,q⟩
 | brk=>obtain ⟨σ',H',I,q⟩:=h;exact ⟨σ',H',I.untr,q⟩
 | cont=>obtain ⟨σ',H',I,q⟩:=h;exact ⟨σ',H',I.untr,q⟩
 | ret u=>obtain ⟨v,σ',H',I,r,q⟩:=h;exact ⟨v,σ',H',I.untr,r,q⟩
end
theorem RI {X:Cx} {pins:List (Addr × Obj)} {E:St→XK}:Yv (CX1 X.prog X.w) (X.tr pins (xeT X pins E)) E:=by
 intro pins' σ H s e s' I hq;obtain ⟨x,C,od,H2,T,rfl,os,bare,un,hok,ex,hT,eT,fl,q⟩:=hq;have I2:=I.call' os un hok bare (fun b z=>absurd z (by simp));exact .inr ⟨_,σ,H2,x,C,od,T,rfl,I2.untr,ex,eT,YL I.untr hT,fl,q⟩
theorem ml {X:Cx} {pins:List (Addr × Obj)} {σ:St} {H:Hp} {s:Shared} {i:Nat} {n:Str} {pos:Pos} {A:Around} {E:Value→Shared→Prop} {Q:Unit→Shared→Prop} (I:Inv X pins σ H s) (hN:X.N.Nodup) (hi:X.N[i]? = some n)
  (hl:X.env.scope.names.lookup n=some .local) (h:∀ s',Inv X pins (σ.set i none) H s'→Q () s'):wpAny (model X.prog X.w) A (do bindName X.env n .none;unbindBehindTheSuite X.env n pos) Q E s:=by
 have hiσ:i < σ.length:=by rw [I.len];exact (List.getElem?_eq_some_iff.mp hi).1
 refine wpAny_bind (wpAny_bindName (Hl I hN hi (.inl hl) (v:=.non) (u:=.none) rfl (fun s1 I1=>?_) (.inr hl)));obtain ⟨m,hn,hlk⟩:=I1.loc;have hk:X.env.kindOf n=some .local:=hl;obtain ⟨u,ru,lk⟩:=hlk i n .non hi (List.getElem?_set_self hiσ) (.inl hl);have hmn:(m n).isSome=true:=by
  rcases lk with ⟨_,e⟩ | ⟨k,_⟩
  ·rw [e];rfl
  ·rcases k with k | k <;> (rw [hk] at k;cases k)
 have hp:(X.env.scope.kind == .class || (X.env.scope.kind == .module && X.env.locals != X.env.globals))=false:=by rw [I.ok.kind];rfl
 unfold unbindBehindTheSuite;refine wpAny_onRaise ?_;unfold unbindName;refine wpAny_bind (wpAny_point (wpAny_bind ?_));unfold deleteName;simp only [hk,hp];rw [if_neg (by decide)];refine wpAny_bind (wpAny_nsDel_keeps hn fun h2 v2 hn2 hs=>?_);rw [hmn];refine wpAny_pure (wpAny_point (h _ ?_));have neL:∀ b o,X.s₀.heap.get? b=some o→b ≠ X.env.locals:=fun b o e=>Nat.ne_of_lt (Nat.lt_of_lt_of_le (Heap.lt_size e) I1.ok.above)
 refine ⟨I1.ok,I1.os,I1.bare,⟨fun b o e n' hb hx=>(hs.2 b (neL b o e)).trans (I1.base.keep b o e n' hb hx),fun b o e n' hb hx=>?_,I1.base.free,fun b o e hx=>?_,I1.base.tups,I1.base.frzs,I1.base.tbls⟩,⟨_,hn2,fun j y v e1 e2 e3=>?_⟩,fun y c e=>?_,I1.free,I1.freeC,fun p hp=>?_,fun b u' e=>?_,by simpa using I.len⟩
 ·obtain ⟨sl,e1⟩:=I1.base.slot b o e n' hb hx;exact ⟨sl,(hs.2 b (neL b o e)).trans e1⟩
 ·obtain ⟨o',e1⟩:=I1.base.there b o e hx;exact ⟨o',(hs.2 b (neL b o e)).trans e1⟩
 ·by_cases hj:j=i
  ·subst hj;rw [List.getElem?_set_self hiσ] at e2;cases e2
  ·rw [List.getElem?_set_ne (Ne.symm hj)] at e2;obtain ⟨u',r',q⟩:=hlk j y v e1 (by rw [List.getElem?_set_ne (Ne.symm hj)];exact e2) e3;refine ⟨u',r',?_⟩;rcases q with ⟨k,e⟩ | ⟨k,c,e,z⟩
   ·refine .inl ⟨k,?_⟩;have:y ≠ n:=fun e=>hj (Os hN e1 (e ▸ hi))
    simp [this,e]
   ·exact .inr ⟨k,c,e,z.sameBut hs (I1.cne y c e)⟩
 ·obtain ⟨w',z⟩:=I1.cell y c e;exact ⟨w',z.sameBut hs (I1.cne y c e)⟩
 ·obtain ⟨e,n',ne,nf,d⟩:=I1.pin p hp;exact ⟨(hs.2 p.1 ne).trans e,n',ne,nf,d⟩
 ·have nL:∀ c,H c ≠ none→c ≠ X.env.locals:=fun c q z=>q (by rw [z];exact I1.free)
  refine (I1.hok b u' e).stay (fun c v hc q=>(hs.2 c (nL c ?_)).trans q) (fun _ q=>q) fun _ _ q=>q
  rcases hc with rfl | hc
  ·rw [e];exact fun z=>by cases z
  ·rw [hc];exact fun z=>by cases z
noncomputable def Oh.gone (D:Oh) (i:Nat):Oh:={ nx:=fun σ H=>D.nx (σ.set i none) H,rt:=D.rt,bk:=fun σ H=>D.bk (σ.set i none) H,ct:=fun σ H=>D.ct (σ.set i none) H }
noncomputable def fM (K:PySem.W.Frag) (c:Addr) (i:Nat) (th:TS) (D:Oh):St→XK:=fun σ C od H=>∃ C',C=.ref C'∧PySem.W.exmOne K C (.ref c)=some true∧∀ x,H x=some (.ext (XA x C' od))→th (D.gone i) (σ.set i (some (.ref x))) H
noncomputable def IM (K:PySem.W.Frag) (c:Addr) (i:Nat) (tb:(St→XK)→TS) (th:TS):TS:=fun D σ H=>tb (fM K c i th D) D σ H
section
variable {X:Cx} {body suite:List Stmt} {b0:Stmt} {x n:Str} {c:Addr} {i:Nat} {tb:(St→XK)→TS} {th:TS} {xp hp pos:Pos}
theorem vK (hb:∀ pins E,PSs (X.tr pins (xeT X pins E)) body (tb E)) (hg:Gl X x) (hm:X.mg x=some (.ref c)) (hh:∀ e,PSs (X.hn e) (b0 :: suite) th) (hN:X.N.Nodup) (hi:X.N[i]? = some n)
  (hl:X.env.scope.names.lookup n=some .local) (F:Fr1 X:=by exact ⟨rfl,rfl⟩) (hdb:(x == ("__debug__" : Str))=false:=by decide) :
  PS X (.Try body [.ExceptHandler (some (.Name x xp)) (some n) (b0 :: suite) hp] [] [] pos) (IM X.K c i tb th):=by
 intro pins s σ H D I h;refine wpAny_Try_except (wpAny_mono (hb pins _ [] s σ H D (I.tr _) h) (fun f s1 q=>?_) fun e s1 q=>?_)
 ·have q':=q.untr;cases f with
  | next=>exact wpAny_execs_nil q'
  | brk=>exact q'
  | cont=>exact q'
  | ret u=>exact q'
 ·refine q.note F fun s2 q2=>q2.flight F none fun s3 q3=>?_
  obtain ⟨σ1,H1,a,C,od,T,rfl,I2,ea,eT,nT,fl,C',eC,em,w⟩:=id q3;cases eC;refine wpAny_handleBy_cons (codeAny_handlers_test (nk (I2.hn (.ref a)) hg hm ?_ hdb)) (fun z=>by cases z);have LT:PySem.W.Looks (model X.prog X.w) s3.heap (typeOf (.ref a)) (.ref C):=by
   obtain ⟨vs,sl,e⟩:=fl.xa;exact (PySem.W.Looks.ld e).andThen .now
  refine (PySem.W.exm_one I2.kIn LT em).here ?_;rw [if_pos rfl];refine codeAny_handlers_suite_as (q3.flight F none fun s4 q4=>?_)
  ·obtain ⟨σ1,H1,a',C,od,T,ea',I3,ea,eT,nT,fl,C',eC,em,w⟩:=q4;cases eC;cases ea';refine Hl (X:=X.hn (.ref a)) (I3.hn (.ref a)) hN hi (.inl hl) (v:=.ref a) (u:=.ref a) rfl (fun s5 I4=>?_) (.inr hl);refine wpAny_mono (hh (.ref a) pins s5 _ H1 (D.gone i) I4 (w a ea)) (fun f s5 q5=>?_) fun _ _ z=>False.elim z
   cases f with
   | next=>obtain ⟨σ',H',J,q⟩:=q5;exact ml (J.unhn I.ok) hN hi hl fun s6 I6=>⟨_,_,I6,q⟩
   | brk=>obtain ⟨σ',H',J,q⟩:=q5;exact ml (J.unhn I.ok) hN hi hl fun s6 I6=>⟨_,_,I6,q⟩
   | cont=>obtain ⟨σ',H',J,q⟩:=q5;exact ml (J.unhn I.ok) hN hi hl fun s6 I6=>⟨_,_,I6,q⟩
   | ret u=>obtain ⟨v,σ',H',J,r,q⟩:=q5;exact ml (J.unhn I.ok) hN hi hl fun s6 I6=>⟨v,_,_,I6,r,q⟩
end
theorem XH {X:Cx} {body suite:List Stmt} {b0:Stmt} {x n:Str} {c:Addr} {i:Nat} {tb:(St→XK)→TS} {th:TS} {xp hp pos:Pos} (hb:∀ pins E,∃ t,PSs (X.tr pins (xeT X pins E)) body t∧t=tb E) (hg:Gl X x) (hm:X.mg x=some (.ref c))
  (hh:∀ e,∃ t,PSs (X.hn e) (b0 :: suite) t∧t=th) (hN:X.N.Nodup) (hi:X.N[i]? = some n) (hl:X.env.scope.names.lookup n=some .local) (F:Fr1 X:=by exact ⟨rfl,rfl⟩)
  (hdb:(x == ("__debug__" : Str))=false:=by decide):PS X (.Try body [.ExceptHandler (some (.Name x xp)) (some n) (b0 :: suite) hp] [] [] pos) (IM X.K c i tb th):=
 vK (fun pins E=>by obtain ⟨t,h,rfl⟩:=hb pins E;exact h) hg hm (fun e=>by obtain ⟨t,h,rfl⟩:=hh e;exact h) hN hi hl F hdb
theorem OD (K:PySem.W.Frag) (c:Addr) (i:Nat) (tb:(St→XK)→TS) (th:TS) (D:Oh) (σ:St) (H:Hp):IM K c i tb th D σ H=tb (fM K c i th D) D σ H:=rfl
theorem oE (K:PySem.W.Frag) (c:Addr) (i:Nat) (th:TS) (D:Oh) (σ:St) (C:Value) (od:Option Addr) (H:Hp) :
  fM K c i th D σ C od H = ∃ C',C=.ref C'∧PySem.W.exmOne K C (.ref c)=some true∧∀ x,H x=some (.ext (XA x C' od))→th (D.gone i) (σ.set i (some (.ref x))) H:=rfl
theorem nC (D:Oh) (i:Nat) (σ:St) (H:Hp):(D.gone i).nx σ H=D.nx (σ.set i none) H:=rfl
theorem vB (D:Oh) (i:Nat) (v:V) (H:Hp):(D.gone i).rt v H=D.rt v H:=rfl
theorem OwnTail.has {h:Heap} {bm tl:List Value} {v:Value} (T:OwnTail h bm tl) (e:bm.contains v=true):tl.contains v=true:=by
 induction T with
 | base=>exact e
 | own _ _ _ _ ih=>rw [List.contains_cons,ih,Bool.or_true]
theorem cA {M:Model} {A:Around} {E:Value→Shared→Prop} {s:Shared} {env:Env} {x:Sem Value} {Q:Flow→Shared→Prop} (hh:A.handled=none)
  (h:wpAny M A x (fun v s1=>∃ e C od vs sl nm q N bs bm hdct sn sub ab col dd k0 k1 k2 k3 k5 newId,v=.ref e∧bm.contains (.type "BaseException")=true ∧
   s1.heap.get? C=some (excClassObj nm q C N bs bm hdct sn sub ab col dd k0 k1 k2 k3 k5 newId)∧s1.heap.get? e=some ⟨.ref C,od,.fields vs,sl⟩∧vs[1]? = some .none∧E (.ref e) s1) E s) :
  wpAny M A (raiseStmt env (some x) none) Q E s:=by
 unfold raiseStmt;refine wpAny_bind (wpAny_mono h (fun v s1 h1=>?_) fun _ _ x=>x);obtain ⟨e,C,od,vs,sl,nm,q,N,bs,bm,hdct,sn,sub,ab,col,dd,k0,k1,k2,k3,k5,newId,rfl,hb,hC,he,h1,hE⟩:=h1;have hcB:(Value.ref C :: bm).contains (.type "BaseException")=true:=by rw [List.contains_cons,hb,Bool.or_true]
 obtain ⟨hp,g,d,tk,os⟩:=s1
 repeat (first | with_reducible refine wpAny_loadPart_at he ?_ | with_reducible refine wpAny_loadPart_at hC ?_ | (with_reducible refine wpAny_isSubtype_exc hC ?_;rw [hcB]) | (with_reducible refine wpAny_field he rfl h1 ?_) | wp_step)
 exact wpAny_raiseNew_none hh hE
section
variable {X:Cx} {e:Expr} {te:TE} {pos:Pos} {E:St→XK}
theorem PS.nox {X:Cx} {st:Stmt} {t:TS} (h:PS X.nox st t):PS X st t:=fun pins s σ H D I hw=>
 wpAny_mono (h pins s σ H D (I.wish _) hw) (fun _ _ q=>q.unwish) fun _ _ z=>False.elim z
end
theorem Fun.okX {P:Program} {w:World} {K:PySem.W.Frag} {mg:Str→Option Value} {base:Heap} {x qual:Str} {st:Stmt} {f:Addr} {fd:FuncData} {N ps:List Str} {k:Nat} {sp:Sp} (F:Fun K x qual st f fd) (S:xb N ps (pb st))
  (len:∀ vs H Q E,sp vs H Q E→vs.length=ps.length)
  (hbody:∀ (cdv:Value) (A:Around) (outer:List Env) (s:Shared) (H:Hp) (vs:List V) (Q:VK) (E:XK),ci k (A.deeper (envOfC qual (pb st) s.heap.objs.size f cdv))→sp vs H Q E →
   ∃ t,PSs ((lD (CX1 P w) P w K mg base N qual (pb st) f cdv A outer s H E).wish (xeA (lD (CX1 P w) P w K mg base N qual (pb st) f cdv A outer s H E) fun _=>E)) (zm st) t∧t { nx:=fun _ H'=>Q .non H',rt:=Q } (start N vs) H):Eb P w K mg base (CX1 P w) (k + 1) f fd ps sp:=by
 obtain ⟨oc,od,kV,doc,pm,an,cdv,ct,osl,rfl,lk,hcd⟩:=F.ex;refine eL lk hcd S len fun A outer s H vs Q E hr hsp=>?_
 obtain ⟨t,h,q⟩:=hbody cdv A outer s H vs Q E hr hsp;exact ⟨t,fun pins s1 σ H1 D I hw=>wpAny_mono (h pins s1 σ H1 D (I.wish _) hw) (fun _ _ q=>q.unwish) fun _ _ z=>QI z,q⟩
noncomputable def xeB (B:Cx) (E:XK) (e:Value) (s':Shared):Prop:=
 ∃ pins fl σ' H' x C od T,e=.ref x∧Inv B pins σ' H' s'∧H' x=some (.ext (XA x C od))∧H' T=none∧GK B pins T∧B.s₀.heap.objs.size ≤ T∧FlA x C od T fl s'.heap∧E (.ref C) od H'
structure QM (X:Cx) (scope:Scope) (N:List Str) (tg elt:Expr) (ifs:List Expr) (g:TG) (tc:TT) (te:XK→TE):Prop where
 tgt:∀ E C s H fp,PG ((X.block scope C N s H fp).wish (xeB (X.block scope C N s H fp) E)) tg g
 tests:∀ E C s H fp,PTs ((X.block scope C N s H fp).wish (xeB (X.block scope C N s H fp) E)) ifs tc
 elem:∀ E C s H fp,PE ((X.block scope C N s H fp).wish (xeB (X.block scope C N s H fp) E)) elt (te E)
theorem QM.of {X:Cx} {scope:Scope} {N:List Str} {tg elt:Expr} {ifs:List Expr} {g:TG} {tc:TT} {te:XK→TE} (h1:∀ E C s H fp,PG ((X.block scope C N s H fp).wish (xeB (X.block scope C N s H fp) E)) tg g)
  (h2:∀ E C s H fp,∃ t,PTs ((X.block scope C N s H fp).wish (xeB (X.block scope C N s H fp) E)) ifs t∧t=tc) (h3:∀ E C s H fp,∃ t,PE ((X.block scope C N s H fp).wish (xeB (X.block scope C N s H fp) E)) elt t∧t=te E):QM X scope N tg elt ifs g tc te:=
 ⟨h1,fun E C s H fp=>by obtain ⟨t,h,rfl⟩:=h2 E C s H fp;exact h,fun E C s H fp=>by obtain ⟨t,h,e⟩:=h3 E C s H fp;rw [← e];exact h⟩
section
variable {X:Cx} {elt tg iter:Expr} {ifs:List Expr} {scope:Scope} {pos:Pos} {wi:TI} {g:TG} {tc:TT} {te:XK→TE} {N:List Str} {sel:List (Option Nat)}
theorem FlA.but {x C T c:Addr} {od:Option Addr} {fl:Value} {h h':Heap} (z:FlA x C od T fl h) (n1:x ≠ c) (n2:T ≠ c) (k:∀ b,b ≠ c→h'.get? b=h.get? b):FlA x C od T fl h':=by
 obtain ⟨ne,vs,sl,oT,ts,he,h1,hT,hd,h3⟩:=z;exact ⟨ne,vs,sl,oT,ts,(k _ n1).trans he,h1,(k _ n2).trans hT,hd,h3⟩
end
structure fN (K:PySem.W.Frag) (C:Addr):Prop where
 cl:Cls K C
 ha:PySem.W.findIn K (.ref C) "__class__"=some (some (.builtin "object.__class__"))
 hn:PySem.W.specialIn K (.builtin "object.__class__") "__get__"=some (some (.builtin "getset_descriptor.__get__"))
 htk:PySem.W.takesIn K (.builtin "object.__class__")=some true
 hm:PySem.W.mroIn K C (.type "object")=some true
theorem fN.ty {K:PySem.W.Frag} {H:Hp} {C a dx:Addr} {fs:List (Str × V)} (c:fN K C) (e:H a=some (.ins C dx fs)):AA K H (.ref a) (.ref C):=.ins e c.cl c.ha c.hn c.htk c.hm
end L2
namespace L2
open PySem PySem.Spec PyProof.Rows
noncomputable def Itd (hi:Int) (n:Nat):It:=⟨fun i _=>i < n,fun i H x H'=>H'=H∧x=.int (hi - i),fun i _=>n ≤ i⟩
theorem UC {P:Program} {w:World} {K:PySem.W.Frag} {tg:Expr} (it:Addr) (hi:Int) (n:Nat):wH P w K tg (Itd hi n) [it] it (fun i h=>IsRangeIter h it (hi + (i:Nat) * (-1)) ((n:Int) - (i:Nat)) (-1)) where
 mem:=by simp
 obj:=fun i h st b hb=>by
  have e:b=it:=by simpa using hb
  subst e;exact ⟨_,st,fun v z=>by
   have z':Data.fields _=Data.cell v:=z;cases z'⟩
 keep:=fun i h h' st k=>k it (by simp) _ st
 item:=by
  intro X hP hw hK hc i pins s σ H E I hf st hg;subst hP hw hK;obtain ⟨f0,f1,f2,f3,f4,f5⟩:=hf it (by simp);have W:=Walks.range (prog:=X.prog) (w:=X.w) (I.ok.hd hc) it hi (-1) n;refine W.item i s _ _ hg st fun v h' tk hv st' kk=>?_
  obtain ⟨t,rfl⟩:=hv;have I1:Inv X pins σ H { s with heap:=h',toks:=tk }:=I.turned (fun b o hb e=>kk b o (by simpa using hb) e) f0 f1 f3 f4 f5;refine ⟨_,rfl,AF (s:={ s with heap:=h',toks:=tk }) (n := "range_iterator") st' rfl rfl (by decide) ⟨.int (hi - i),H,I1,⟨t,?_⟩,⟨rfl,rfl⟩,st',fun b hb=>(hf b hb).1⟩⟩;congr 1;omega
 done:=by
  intro X hP hw hK hc i pins s σ H E I hf st hg;subst hP hw hK;obtain ⟨f0,f1,f2,f3,f4,f5⟩:=hf it (by simp);exact wpAny_pyNext_range_end (I.ok.hd hc) st (by have:n ≤ i:=hg;omega) fun h' eb=>⟨rfl,I.turned (t':=s.toks) (fun b o hb e=>eb b o hb e) f0 f1 f3 f4 f5⟩
 self:=fun _ _ _ _ _ st h=>wpAny_pyIter_rangeiter st h
theorem Mj (a b:Int):Builtin.Range.rangeSize a b (-1)=if b < a then a - b else 0:=by
 unfold Builtin.Range.rangeSize;rw [if_neg (show ¬ (-1:Int) > 0 by decide),show (- -1:Int)=1 by decide,Int.ediv_one];show (if b < a then a - b - 1 + 1 else 0)=_;split <;> omega
theorem mz {a b:Int} (ha:-(2 ^ 62) ≤ a) (ha':a < 2 ^ 62) (hb:-(2 ^ 62) ≤ b) (hb':b < 2 ^ 62):Builtin.Range.small a b (-1)=true:=by
 unfold Builtin.Range.small;rw [Mj];simp only [Builtin.Range.rangeFitsLong,Bool.and_eq_true,Bool.or_eq_true,decide_eq_true_eq,beq_iff_eq,show ¬ (-1:Int) > 0 by decide,if_false];split <;> omega
section
variable {X:Cx} {tg:Expr}
noncomputable def wJ (ta:TA):TI:=fun σ H R=>ta σ H fun vs H1=>∃ i j:Int,vs=[.int i,.int j,.int (-1)]∧(-1073741824 ≤ i∧i < 1073741824∧-1073741824 ≤ j∧j < 1073741824)∧R (Itd i (i - j).toNat) H1
theorem qB {a b c:Expr} {ta:TA} {p pos:Pos} (hg:Gl X "range") (hm:X.mg "range"=none) (ha:PA X [a,b,c] ta) (hs:starEach [a,b,c] X.env=[(false,eval a X.env),(false,eval b X.env),(false,eval c X.env)]:=by rfl) (hs2:starEach [b,c] X.env=[(false,eval b X.env),(false,eval c X.env)]:=by rfl) :
  PI X tg (.Call (.Name "range" p) [a,b,c] [] pos) (wJ ta):=by
 intro pins s σ H R I h;refine Call_ (Uj I hg hm boot_range (PyProof.Rows.callWith_type1 (thn (ha pos pins s σ H _ I h) fun us s1 hZ1=>?_) (by rw [hs,hs2]) (by rw [hs2];rfl)));obtain ⟨vs,H1,I1,r1,q1⟩:=hZ1;obtain ⟨i,j,e,⟨q1,q2,q3,q4⟩,q⟩:=q1;subst e;cases r1 with
 | cons r rr=>
  cases rr with
  | cons r' rr=>
   cases rr with
   | cons r'' rr=>
    cases rr;obtain ⟨t,rfl⟩:=r;obtain ⟨t',rfl⟩:=r';obtain ⟨t'',rfl⟩:=r'';refine call_range_3 (by decide) ?_ (Or.inl (PyProof.noPylong_small (by omega)));refine wpAny_pyIter_range (IsRange.new ..) (mz (by omega) (by omega) (by omega) (by omega)) ?_;have I2:Inv X pins σ H1 { s1 with heap:=s1.heap.push { cls:=.type "range",data:=.fields #[.int i t,.int j t',.int (-1) t''] },toks:=s1.toks }:=I1.kept fun b o e=>Heap.get?_push_of_some _ e
    refine ⟨(s1.heap.push { cls:=.type "range",data:=.fields #[.int i t,.int j t',.int (-1) t''] }).objs.size,[(s1.heap.push { cls:=.type "range",data:=.fields #[.int i t,.int j t',.int (-1) t''] }).objs.size],_,_,H1,rfl,
     I2.kept (t':=s1.toks) fun b o e=>Heap.get?_push_of_some _ e,UC _ i (i - j).toNat,?_,fun b hb=>?_,q⟩
    ·have e1:i + ((0:Nat):Int) * (-1)=i:=by simp
     have e2:(((i - j).toNat:Nat):Int) - ((0:Nat):Int)=Builtin.Range.rangeSize i j (-1):=by rw [Mj];split <;> omega
     show IsRangeIter _ _ (i + ((0:Nat):Int) * (-1)) ((((i - j).toNat:Nat):Int) - ((0:Nat):Int)) (-1);rw [e1,e2];exact Heap.get?_push_size _ rfl
    ·have e:b=(s1.heap.push { cls:=.type "range",data:=.fields #[.int i t,.int j t',.int (-1) t''] }).objs.size:=by simpa using hb
     subst e;exact I2.fpOk (Nat.le_refl _) (I2.hok.fresh (Nat.le_refl _))
end
theorem Tz:typeLookup (.type "list_reverseiterator") "__len__"=pure none:=by rw [typeLookup_type,builtinLookup_eq_fast];kernel_rfl
theorem Su:typeLookup (.type "list_reverseiterator") "__length_hint__"=pure (some (.builtin "list_reverseiterator.__length_hint__")):=by rw [typeLookup_type,builtinLookup_eq_fast];kernel_rfl
section
variable {prog:Program} {w:World} {A:Around} {E:Value→Shared→Prop} {s:Shared} {it l:Addr} {items:Array Value}
theorem GF (hT:s.TypeIs (.ref it) "list_reverseiterator") {Q:Bool→Shared→Prop} (h:Q false s):wpAny (model prog w) A (Builtin.List.listLengthHint (.ref it)) Q E s:=by
 unfold Builtin.List.listLengthHint;refine wpAny_bind (wpAny_specialOf hT Tz ?_);show wpAny _ A (specialOf (Value.ref it) (Str.ofString "__length_hint__") >>= _) _ _ _;refine wpAny_bind (wpAny_specialOf hT Su ?_);generalize hid:("list_reverseiterator.__length_hint__" : String)=id0
 wp_delta
 rw [show splitId id0=some ("list_reverseiterator","__length_hint__") from by subst hid;decide +kernel];subst hid;refine wpAny_bind (wpAny_isInstance (T := "list_reverseiterator") (b:=true) hT (by rw [isSubtype_type];kernel_rfl) ?_);refine wpAny_ite_split (fun hab=>absurd hab (by decide)) (fun _=>?_);refine wpAny_ite_split (fun _=>?_) (fun hab=>absurd (by decide +kernel) hab);refine wpAny_ite_split (fun hab=>absurd hab (by decide +kernel)) (fun _=>?_);exact wpAny_pure h
noncomputable abbrev uJ (items:Array Value):Nat→Value→Prop:=fun i v=>items[items.size - 1 - i]? = some v
theorem pz {R:Result→Shared→Prop} (hh:A.handled=none) (hit:s.heap.IsRevIter it l ((items.size:Int) - 1 - ((0:Nat):Int))) (hl:s.heap.IsList l items) (hne:l ≠ it) (S:Addr) (hSi:S ≠ it) (hSl:S ≠ l) (res:Value) (c₀:Nat)
  (hS:s.heap.get? S=some { cls:=.type "list",data:=.seq #[] c₀ }) (hn:items.size ≤ sizeLine)
  (hR:∀ h' tk acc c,(∀ b o,b ≠ S→b ≠ it→s.heap.get? b=some o→h'.get? b=some o)→h'.get? S=some { cls:=.type "list",dict:=none,data:=.seq acc c,slots:=#[] }→ItemsOf (uJ items) acc items.size→R (.ok (.ret res)) { s with heap:=h',toks:=tk }) :
  wpAny (model prog w) A.in1 (Builtin.List.listExtendWith (.ref S) (.ref it) res)
   (fun fin s'=>match fin with | .done f=>R (.ok f) s' | .again c'=>c'.quiet=true∧codeAny (model prog w) A c' R s') (fun e s'=>R (.error e) s') s:=by
 unfold Builtin.List.listExtendWith;refine wpAny_bind (wpAny_typeOf hit.typeIs ?_);have h1:Builtin.List.listSameRef (.ref S) (.ref it)=false:=by simp [Builtin.List.listSameRef,hSi]
 have h2:(Value.type "list_reverseiterator" == Value.type "list")=false:=by decide
 have h3:(Value.type "list_reverseiterator" == Value.type "tuple")=false:=by decide
 simp only [h1,h2,h3,Bool.or_false,Bool.false_eq_true,if_false];refine wpAny_bind (wpAny_pyIter_revIter hit ?_);refine wpAny_bind (wpAny_holding (GF hit.typeIs ?_));refine wpAny_ite_split (fun hab=>absurd hab (by decide +kernel)) (fun _=>?_);have W:=Walks.listRev (prog:=prog) (w:=w) (A:=A.in1) hh it l hne items;have hSf:S ∉ [it,l]:=by simp only [List.mem_cons,List.not_mem_nil,or_false,not_or];exact ⟨hSi,hSl⟩
 refine wpAny_pure ⟨plainId_quiet PySem.F.plain_extend_loop _,codeAny_extend_loopS W.toS hn S hSf res items.size 0 s #[] c₀ rfl (Nat.zero_le _) ⟨Nat.zero_le _,hit,hl⟩ hS (ItemsOf.nil _) fun s' acc c hm hS' hacc=>?_⟩;rw [Moved.eq_with hm];refine hR s'.heap s'.toks acc c (fun b o hb hi e=>hm.heap b o (fun hmem=>?_) e) hS' hacc;rcases List.mem_cons.mp hmem with e' | hmem
 ·exact hb e'
 ·exact hi (List.mem_singleton.mp hmem)
theorem Ct {Q:Value→Shared→Prop} (hh:A.handled=none) (hit:s.heap.IsRevIter it l ((items.size:Int) - 1 - ((0:Nat):Int))) (hl:s.heap.IsList l items) (hne:l ≠ it) (hn:items.size ≤ sizeLine)
  (hQ:∀ h' tk acc c,(∀ b o,b ≠ it→s.heap.get? b=some o→h'.get? b=some o)→h'.get? s.heap.objs.size=some { cls:=.type "list",dict:=none,data:=.seq acc c,slots:=#[] }→ItemsOf (uJ items) acc items.size→Q (.ref s.heap.objs.size) { s with heap:=h',toks:=tk }) :
  wpAny (model prog w) A (call (.type "list") [.ref it]) Q E s:=by
 have li:it < s.heap.objs.size:=by obtain ⟨_,e,_⟩:=hit;exact Heap.lt_size e
 have ll:l < s.heap.objs.size:=by obtain ⟨_,e,_⟩:=hl;exact Heap.lt_size e
 refine callType_codes (Q₁:=fun obj s₁=>obj=.ref s.heap.objs.size∧s₁ = { s with heap:=s.heap.push { cls:=.type "list",data:=.seq #[] } }) PySem.F.called_list (PySem.F.typeCall_list_1 _) PySem.F.entry_list_init
  (code_list_new _ ⟨rfl,rfl⟩) fun obj s₁ h₁=>?_
 obtain ⟨rfl,rfl⟩:=h₁;have hS:(s.heap.push { cls:=.type "list",data:=.seq #[] }).get? s.heap.objs.size=some { cls:=.type "list",data:=.seq #[] }:=Heap.get?_push_size _ rfl;refine ⟨⟨_,hS,rfl⟩,PySem.F.args_list_init_2 _ _,?_⟩;show wpAny _ _ (do let old ← Builtin.List.listItems (.ref s.heap.objs.size);Builtin.List.listUpdate (.ref s.heap.objs.size) (fun _=>#[]);letGo old.toList.reverse;Builtin.List.listExtendWith (.ref s.heap.objs.size) (.ref it) .none) _ _ _;refine wpAny_bind ?_;unfold Builtin.List.listItems;refine wpAny_bind (wpAny_seqItems hS rfl (wpAny_pure ?_));show wpAny _ _ (updateSeq s.heap.objs.size (fun _=>#[]) >>= fun _=>letGo (#[]:Array Value).toList.reverse >>= fun _=>Builtin.List.listExtendWith (.ref s.heap.objs.size) (.ref it) .none) _ _ _;refine wpAny_bind (wpAny_updateSeq hS rfl ?_);have hS₂:=Heap.get?_update_self (Obj.mapSeq (fun _=>(#[]:Array Value))) hS rfl;have oth:∀ b o,s.heap.get? b=some o→((s.heap.push { cls:=.type "list",data:=.seq #[] }).update s.heap.objs.size (Obj.mapSeq (fun _=>(#[]:Array Value)))).get? b=some o:=
  fun b o e=>(Heap.get?_update_other _ _ (Ne.symm (Nat.ne_of_lt (Heap.lt_size e)))).trans (Heap.get?_push_of_some _ e)
 refine wpAny_bind (wpAny_letGo ?_);refine pz (A:=A.in1) hh (hit.at fun o e=>oth _ o e) (hl.at fun o e=>oth _ o e) hne _ (Ne.symm (Nat.ne_of_lt li)) (Ne.symm (Nat.ne_of_lt ll)) .none _ hS₂ hn fun h' tk acc c hk hS' hacc=>?_
 exact ⟨rfl,hQ h' tk acc c (fun b o hb e=>hk b o (Nat.ne_of_lt (Heap.lt_size e)) hb (oth b o e)) hS' hacc⟩
end
section
variable {X:Cx}
noncomputable def Ax (K:PySem.W.Frag) (ta:TA):TE:=fun σ H Q=>ta σ H fun vs H1=>∃ a xs,vs=[.ref a]∧SqL K H1 a xs∧∀ l,H1 l=none→Q (.ref l) (upd H1 l (.lst xs.reverse))
theorem Zl {a:Expr} {ta:TA} {p q pos pos':Pos} (hc:X.calm=true) (hg:Gl X "list") (hm:X.mg "list"=none) (hg':Gl X "reversed") (hm':X.mg "reversed"=none) (ha:PA X [a] ta) (hs:starEach [a] X.env=[(false,eval a X.env)]:=by rfl)
  (hs2:starEach [Expr.Call (.Name "reversed" q) [a] [] pos'] X.env=(false,eval (Expr.Call (.Name "reversed" q) [a] [] pos') X.env) :: starEach [] X.env:=by rfl) :
  PE X (.Call (.Name "list" p) [.Call (.Name "reversed" q) [a] [] pos'] [] pos) (Ax X.K ta):=by
 intro pins s σ H Q I h;refine wpAny_Call_Name_kw (Uj I hg hm md ?_);refine PyProof.Rows.callWith_type1 ?_ hs2 rfl;rw [hs2];show wpAny _ _ (spliced ((false,eval (Expr.Call (.Name "reversed" q) [a] [] pos') X.env) :: [])) _ _ s;refine Calls.spliced_cons ?_;refine Call_ (Uj I hg' hm' Ls (PyProof.Rows.callWith_type1 (thn (ha pos' pins s σ H _ I h) fun us s1 hZ1=>?_) hs rfl));obtain ⟨vs,H1,I1,r1,q1⟩:=hZ1;obtain ⟨a,xs,e,hq,q⟩:=q1;subst e;cases r1 with
 | cons r rr=>
  cases rr;cases r;obtain ⟨its,rv,pl,hz⟩:=I1.list hq;have hl:=rv.length;have hlt:a < s1.heap.objs.size:=by obtain ⟨_,e,_⟩:=pl.isList;exact Heap.lt_size e
  refine call_reversed_list pl.isList ?_;refine Calls.spliced_nil ?_;have hit:(s1.heap.push (revObj a ((its.toArray.size:Int) - 1))).IsRevIter s1.heap.objs.size a ((its.toArray.size:Int) - 1 - ((0:Nat):Int)):=by
   refine ⟨_,Heap.get?_push_size _ rfl,rfl,?_⟩;simp only [revObj];simp
  have kp:∀ b o,s1.heap.get? b=some o→(s1.heap.push (revObj a ((its.toArray.size:Int) - 1))).get? b=some o:=fun b o e=>Heap.get?_push_of_some _ e
  refine Ct (I1.ok.hd hc) hit (pl.isList.at fun o e=>kp _ o e) (Nat.ne_of_lt hlt) (by rw [List.size_toArray];omega) fun h' tk acc c hk e' hacc=>?_
  refine ⟨.ref _,_,I1.laid (o:=.lst xs.reverse) (t':=tk) (fun b u e=>hk b u (Nat.ne_of_lt (Heap.lt_size e)) (kp b u e)) (by rw [Heap.size_push];exact Nat.le_succ _) ⟨by rw [List.length_reverse];omega,acc.toList,c,?_,e'⟩,rfl,q _ (I1.hok.fresh (by rw [Heap.size_push];exact Nat.le_succ _))⟩;have hv:=Qr (f:=fun i=>xs.getD (xs.length - 1 - i) .non) (fun i v hv=>by
   have hv':its.toArray[its.toArray.size - 1 - i]? = some v:=hv;rw [List.size_toArray,← hl,List.getElem?_toArray] at hv';have hj:=(List.getElem?_eq_some_iff.mp hv').1;have hx:xs[xs.length - 1 - i]? = some xs[xs.length - 1 - i]:=List.getElem?_eq_getElem (by omega);obtain ⟨w,hw,rw'⟩:=rv.get hx;rw [hv'] at hw;cases hw;rw [List.getD_eq_getElem?_getD,hx];exact rw') hacc
  have er:(List.range its.toArray.size).map (fun i=>xs.getD (xs.length - 1 - i) .non)=xs.reverse:=by
   rw [List.size_toArray,← hl];refine List.ext_getElem (by simp) fun i h1 h2=>?_
   rw [List.getElem_map,List.getElem_range,List.getElem_reverse,List.getD_eq_getElem?_getD,List.getElem?_eq_getElem (by simp at h2;omega)];rfl
  rw [er] at hv;exact hv
end
section
variable {prog:Program} {w:World} {A:Around} {R:Result→Shared→Prop} {I:Addr} {fp wr:List Addr} {n:Nat} {P:Nat→Value→Prop} {St:Nat→Heap→Prop}
noncomputable def GJ (P:Nat→Value→Prop) (bt:Nat→Nat→Bool) (j:Nat) (acc:Array Value):Prop:=(j=0∧acc=#[])∨∃ vb i,j=i + 1∧acc=#[vb,vb]∧P (argBest bt i) vb
theorem lE (W:Walks prog w A.in1 I fp wr n P St) (bt:Nat→Nat→Bool) (hcmp:CmpOf prog w A.in1 .Lt P bt) (S:Addr) (hSf:S ∉ fp) (dv:Value) (kn:Str) :
  ∀ (k j:Nat) (s:Shared) (acc:Array Value) (c:Nat),n - j=k→j ≤ n→St j s.heap→GJ P bt j acc →
  s.heap.get? S=some { cls:=.type "list",dict:=none,data:=.seq acc c,slots:=#[] } →
  (∀ v h' tk,(n=0∧v=dv)∨(0 < n∧P (argBest bt (n - 1)) v)→(∀ b o,b ∉ wr→b ≠ S→s.heap.get? b=some o→h'.get? b=some o)→R (.ok (.ret v)) { s with heap:=h',toks:=tk }) →
  codeAny (model prog w) A (.builtin "min.loop" ⟨[.ref I,.none,.ref S],[(kn,dv)]⟩) R s:=by
 have hSw:S ∉ wr:=fun h=>hSf (W.sub _ h)
 have hname:(toString "min" ++ toString ".loop" : String) = "min.loop" := by decide
 intro k
 induction k with
 | zero=>
  intro j s acc c hk hj hst hB hS hR;have hin:j=n:=by omega
  refine codeAny_builtin PySem.F.entry_min_loop ?_;rw [Around.under_plainId PySem.F.plain_min_loop _];show wpAny _ A.in1 (seqItems? (.ref S) >>= _) _ _ s;refine wpAny_bind (wpAny_seqItems hS rfl ?_);show wpAny _ A.in1 (tryCatch (pyNext (.ref I)) _ >>= _) _ _ s;refine wpAny_bind (wpAny_tryCatch (W.done s _ _ (hin ▸ hst) fun h' tk hk'=>?_));have hS':=hk' S _ hSw hS;rcases hB with ⟨h0,rfl⟩ | ⟨vb,i,hi,rfl,hP⟩
  ·show wpAny _ A.in1 (rule _ >>= _) _ _ _;refine wpAny_bind (wpAny_rule (wpAny_pure ?_));exact hR dv h' tk (.inl ⟨by omega,rfl⟩) fun b o hbw hbS e=>hk' b o hbw e
  ·show wpAny _ A.in1 (updateSeq S (fun _=>#[]) >>= _) _ _ _;refine wpAny_bind ?_;refine wpAny_updateSeq hS' rfl (wpAny_bind (wpAny_letGo (wpAny_pure ?_)));refine hR vb _ tk (.inr ⟨by omega,by rw [show n - 1=i by omega];exact hP⟩) fun b o hbw hbS e=>(Heap.get?_update_other _ _ (Ne.symm hbS)).trans (hk' b o hbw e)
 | succ k ih=>
  intro j s acc c hk hj hst hB hS hR;have hlt:j < n:=by omega
  refine codeAny_builtin PySem.F.entry_min_loop ?_;rw [Around.under_plainId PySem.F.plain_min_loop _];show wpAny _ A.in1 (seqItems? (.ref S) >>= _) _ _ s;refine wpAny_bind (wpAny_seqItems hS rfl ?_);show wpAny _ A.in1 (tryCatch (pyNext (.ref I)) _ >>= _) _ _ s;refine wpAny_bind (wpAny_tryCatch (W.item j s _ _ hlt hst fun v h' tk hP hst' hk'=>?_));have hS':=hk' S _ hSw hS;have put:∀ h'':Heap,h''=h'.update S (Obj.mapSeq (fun _=>#[v,v]))→St (j + 1) h'':=fun h'' e=>by
   subst e;exact W.frame _ _ _ hst' fun b hbf o e=>(Heap.get?_update_other _ _ (fun h:S=b=>hSf (by rw [h];exact hbf))).trans e
  rcases hB with ⟨h0,rfl⟩ | ⟨vb,i,hi,rfl,hPb⟩
  ·show wpAny _ A.in1 (updateSeq S (fun _=>#[v,v]) >>= _) _ _ _;refine wpAny_bind ?_;refine wpAny_updateSeq hS' rfl ?_;rw [hname];refine wpAny_pure ⟨plainId_quiet PySem.F.plain_min_loop _,ih (j + 1) _ #[v,v] _ (by omega) hlt (put _ rfl) (.inr ⟨v,j,rfl,rfl,by subst h0;exact hP⟩) (Heap.get?_update_self _ hS' rfl) fun v' h'' tk'' hP' hk''=>?_⟩;exact hR v' h'' tk'' hP' fun b o hbw hbS e=>hk'' b o hbw hbS ((Heap.get?_update_other _ _ (Ne.symm hbS)).trans (hk' b o hbw e))
  ·subst hi;show wpAny _ A.in1 (tryCatch (holding [v,v] (richCompare .Lt v vb >>= _)) _ >>= _) _ _ _;refine wpAny_bind (wpAny_tryCatch (wpAny_holding (wpAny_bind (hcmp (i + 1) (argBest bt i) v vb _ _ _ hP hPb ?_))));refine wpAny_bind (wpAny_holding (wpAny_truthy_bool ?_));refine wpAny_bind (wpAny_letGo (wpAny_pure ?_));cases hb:bt (i + 1) (argBest bt i) with
   | true=>
    simp only [if_true];refine wpAny_bind ?_;refine wpAny_updateSeq hS' rfl (wpAny_bind (wpAny_letGo ?_));rw [hname];refine wpAny_pure ⟨plainId_quiet PySem.F.plain_min_loop _,ih (i + 1 + 1) _ #[v,v] _ (by omega) hlt (put _ rfl) (.inr ⟨v,i + 1,rfl,rfl,by simp only [argBest,hb,if_true];exact hP⟩) (Heap.get?_update_self _ hS' rfl) fun v' h'' tk'' hP' hk''=>?_⟩;exact hR v' h'' tk'' hP' fun b o hbw hbS e=>hk'' b o hbw hbS ((Heap.get?_update_other _ _ (Ne.symm hbS)).trans (hk' b o hbw e))
   | false=>
    simp only [Bool.false_eq_true,if_false];refine wpAny_bind (wpAny_letGo ?_);rw [hname];refine wpAny_pure ⟨plainId_quiet PySem.F.plain_min_loop _,ih (i + 1 + 1) _ #[vb,vb] c (by omega) hlt hst' (.inr ⟨vb,i + 1,rfl,rfl,by simp only [argBest,hb,Bool.false_eq_true,if_false];exact hPb⟩) hS' fun v' h'' tk'' hP' hk''=>?_⟩;exact hR v' h'' tk'' hP' fun b o hbw hbS e=>hk'' b o hbw hbS (hk' b o hbw e)
end
section
variable {prog:Program} {w:World} {A:Around} {E:Value→Shared→Prop} {s:Shared}
theorem cB (a d:Value):argsOk "min" ⟨[a],[(Str.ofString "default",d)]⟩:=by unfold argsOk;kernel_rfl
theorem sD {l:Addr} {its:Array Value} {dv:Value} {Q:Value→Shared→Prop} (hh:A.handled=none) (hl:s.heap.IsList l its) (ks:List Int) (hk:its.size=ks.length) (hv:∀ (i:Nat) (v:Value),its[i]? = some v→∃ t,v=Value.int (ks.getD i 0) t)
  (hQ:∀ v h' tk,(ks=[]∧v=dv)∨(∃ m t,ks.min? = some m∧v=.int m t)→(∀ b o,s.heap.get? b=some o→h'.get? b=some o)→Q v { s with heap:=h',toks:=tk }) :
  wpAny (model prog w) A (call (.builtin "min") [.ref l] [(Str.ofString "default",dv)]) Q E s:=by
 have hname:(toString "min" ++ toString ".loop" : String) = "min.loop" := by decide
 have hlt:l < s.heap.objs.size:=by obtain ⟨_,e,_⟩:=hl;exact Heap.lt_size e
 refine wpAny_call (codeAny_call_builtin PySem.F.plain_min PySem.F.entry_min ?_);simp only [checkBuiltinCall,PySem.F.kind_min];have key:wpAny (model prog w) A.in1 (Builtin.«min» ⟨[.ref l],[(Str.ofString "default",dv)]⟩) (fun fin s'=>match fin with
   | .done f=>(match (Except.ok f:Result) with | .ok (.ret v)=>Q v s' | .ok _=>False | .error e=>E e s')
   | .again c'=>c'.quiet=true∧codeAny (model prog w) A c' (fun r s'=>match r with | .ok (.ret v)=>Q v s' | .ok _=>False | .error e=>E e s') s') E s:=by
  show wpAny _ A.in1 (Builtin.Builtins.bindParams "min" ["key","default"] 0 ⟨[],[(Str.ofString "default",dv)]⟩ >>= _) _ _ s;refine wpAny_bind (wpAny_of_eq (show Builtin.Builtins.bindParams "min" ["key","default"] 0 ⟨[],[(Str.ofString "default",dv)]⟩=pure [none,some dv] from rfl) ?_);refine wpAny_bind (wpAny_pure ?_);refine wpAny_bind (wpAny_pyIter_list hl ?_);refine wpAny_bind (wpAny_newObj_type ?_);rw [hname];have W:=Walks.list (prog:=prog) (w:=w) (A:=A.in1) hh s.heap.objs.size l (Nat.ne_of_lt hlt) its;have hz1:(s.heap.push { cls:=.type "list_iterator",data:=.fields #[.ref l,.int 0 0] }).objs.size=s.heap.objs.size + 1:=Heap.size_push ..;refine wpAny_pure ⟨plainId_quiet PySem.F.plain_min_loop _,lE W _ (CmpOf.ints_lt (fun i=>ks.getD i 0) fun i v h=>hv i v h) _ ?_ dv _ its.size 0 _ #[] _ rfl (Nat.zero_le _) ?_ (.inl ⟨rfl,rfl⟩) (Heap.get?_push_size _ rfl) fun v h' tk hP hk'=>?_⟩
  ·show (s.heap.push _).objs.size ∉ _;rw [hz1];simp only [List.mem_cons,List.not_mem_nil,or_false,not_or];exact ⟨Nat.succ_ne_self _,Ne.symm (Nat.ne_of_lt (Nat.lt_succ_of_lt hlt))⟩
  ·exact W.frame 0 (s.heap.push { cls:=.type "list_iterator",data:=.fields #[.ref l,.int 0 0] }) _ ⟨⟨_,Heap.get?_push_size _ rfl,rfl,rfl⟩,hl.push _⟩ fun b _ o e=>Heap.get?_push_of_some _ e
  ·refine hQ v h' tk ?_ fun b o e=>hk' b o (fun hm=>?_) ?_ (Heap.get?_push_of_some _ (Heap.get?_push_of_some _ e))
   ·rcases hP with ⟨h0,h1⟩ | ⟨h0,h1⟩
    ·exact .inl ⟨List.length_eq_zero_iff.mp (by omega),h1⟩
    ·obtain ⟨t,e⟩:=hv _ v h1;have hb:=argBest_lt (fun i=>ks.getD i 0) (its.size - 1);refine .inr ⟨_,t,?_,e⟩;rw [List.min?_eq_some_iff];have hi:argBest (fun i j=>decide (ks.getD i 0 < ks.getD j 0)) (its.size - 1) < ks.length:=by omega
     refine ⟨?_,fun b hb'=>?_⟩
     ·rw [List.getD_eq_getElem?_getD,List.getElem?_eq_getElem hi];exact List.getElem_mem hi
     ·obtain ⟨j,hj,rfl⟩:=List.getElem_of_mem hb';have:=hb.2 j (by omega);rw [List.getD_eq_getElem?_getD (i:=j),List.getElem?_eq_getElem hj] at this;exact this
   ·rw [List.mem_singleton.mp hm] at e;exact absurd (Heap.lt_size e) (Nat.lt_irrefl _)
   ·rw [hz1];exact Nat.ne_of_lt (Nat.lt_succ_of_lt (Heap.lt_size e))
 cases hsig:Manifest.signature? "min" with
 | none=>exact wpAny_pure key
 | some sig=>
  have ha:=cB (.ref l) dv;have ha':Bind.checkArgs "min" sig ⟨[.ref l],[(Str.ofString "default",dv)]⟩=pure ():=by simpa only [argsOk,hsig] using ha
  simp only [ha'];exact wpAny_pure key
end
section
variable {X:Cx}
noncomputable def lL (K:PySem.W.Frag) (ta:TA) (td:TE):TE:=fun σ H Q=>ta σ H fun vs H1=>td σ H1 fun y H2=>∃ l ks,vs=[.ref l]∧SqL K H2 l (List.map V.int ks)∧Q (match ks.min? with | some m=>.int m | none=>y) H2
theorem cJ {a d:Expr} {ta:TA} {td:TE} {p kp pos:Pos} (hc:X.calm=true) (hg:Gl X "min") (hm:X.mg "min"=none) (ha:PA X [a] ta) (hd:PE X d td)
  (he:∀ pos,backTo pos (starEach [a] X.env)=(false,eval a X.env) :: backTo pos (starEach [] X.env):=by intro _;rfl) (hpl:∀ pos,(backTo pos (starEach [a] X.env)).any (·.1)=false:=by intro _;rfl) :
  PE X (.Call (.Name "min" p) [a] [⟨some "default",d,kp⟩] pos) (lL X.K ta td):=by
 intro pins s σ H Q I h;refine wpAny_Call_Name_kw (Uj I hg hm (show bootBuiltins "min"=some (.builtin "min") by decide +kernel) ?_);refine callWith_kw (id := "min") (thn (ha pos pins s σ H _ I h) fun us s1 hZ1=>?_) (he:=he pos) (hplain:=hpl pos);obtain ⟨vs,H1,I1,r1,q1⟩:=hZ1;refine kws_cons (thn (hd pins s1 σ H1 _ I1 q1) fun v s2 ⟨y,H2,I2,r2,q2⟩=>kws_nil ?_);obtain ⟨l,ks,rfl,hq,q⟩:=q2;cases r1 with
 | cons r rr=>
  cases rr;cases r;obtain ⟨its,rv,pl,hz⟩:=I2.list hq;have hl:=rv.length;rw [List.length_map] at hl;refine sD (I2.ok.hd hc) pl.isList ks (by rw [List.size_toArray];omega) (fun i v hv=>?_) fun v' h' tk hv' hk=>⟨_,H2,I2.kept hk,?_,q⟩
  ·rw [List.getElem?_toArray] at hv;have hi:i < ks.length:=by have:=(List.getElem?_eq_some_iff.mp hv).1;omega
   obtain ⟨w,hw,rw'⟩:=rv.get (show (ks.map V.int)[i]? = some (.int ks[i]) by rw [List.getElem?_map,List.getElem?_eq_getElem hi];rfl);rw [hv] at hw;cases hw;rw [List.getD_eq_getElem?_getD,List.getElem?_eq_getElem hi];exact rw'
  ·rcases hv' with ⟨rfl,rfl⟩ | ⟨m,t,hm,rfl⟩
   ·exact r2
   ·rw [hm];exact ⟨t,rfl⟩
end
end L2
namespace L2
open PySem PySem.Spec PyProof.Rows
structure RN (K:PySem.W.Frag) (C:Addr):Prop where
 x:JN K C
 ha:PySem.W.findIn K (.ref C) "__class__"=some (some (.builtin "object.__class__"))
 hn:PySem.W.specialIn K (.builtin "object.__class__") "__get__"=some (some (.builtin "getset_descriptor.__get__"))
 htk:PySem.W.takesIn K (.builtin "object.__class__")=some true
 hm:PySem.W.mroIn K C (.type "object")=some true
section
variable {prog:Program} {w:World} {A:Around} {E:Value→Shared→Prop} {s:Shared} {K:PySem.W.Frag} {x C:Addr} {od:Obj} {dx:Addr} {vs:Array Value} {sl:Array (Option Value)}
end
theorem ju:∀ {cs:List Addr} {us:List Value},Pc (cs.map V.ref) us→us=cs.map Value.ref
 | [],_,.nil=>rfl
 | c :: cs,_,.cons r t=>by
  rw [ju t];cases (show _=Value.ref c from r);rfl
theorem Mm:bootBuiltins "ValueError"=some (.type "ValueError"):=by decide +kernel
section
variable {X:Cx}
end
theorem Eb.quiet {P:Program} {w:World} {K:PySem.W.Frag} {mg:Str→Option Value} {base:Heap} {k:Nat} {f:Addr} {fd:FuncData} {ps:List Str} {sp sp':Sp} (F:Eb P w K mg base (CX1 P w) k f fd ps sp)
  (h:∀ vs H Q E,sp' vs H Q E→sp vs H Q (fun _ _ _=>False)):Eb P w K mg base CX0 k f fd ps sp':=by
 refine ⟨fun vs H Q E q=>F.len vs H _ _ (h vs H Q E q),fun A outer s H args us vs Q E hr he hb hv hs=>?_⟩;refine codeAny_mono (F.run A outer s H args us vs Q _ hr he hb hv (h vs H Q E hs)) fun r s' hq=>?_
 cases r with
 | error e=>
  obtain ⟨x,C,od,H',T,_,_,_,_,_,_,_,_,_,z⟩:=hq;exact z.elim
 | ok fl=>cases fl <;> exact hq
end L2
namespace L2
open PySem PySem.Spec PyProof.Rows
structure Km (k:Nat) (A:Around):Prop where
 dp:A.depth + 3 * k + 5 < recursionLimit
 un:A.units + 16 * k + 200 < cLine
theorem ci.h {k:Nat} {A:Around} (r:ci k A):Km k A:=⟨r.dp,r.un⟩
theorem Km.mono {j k:Nat} {A:Around} (r:Km k A) (h:j ≤ k):Km j A:=⟨by have:=r.dp;omega,by have:=r.un;omega⟩
theorem Km.deeper {k:Nat} {A:Around} (r:Km (k + 1) A) (env:Env):Km k (A.deeper env):=
 ⟨by have:=r.dp;show A.depth + 1 + 3 * k + 5 < _;omega,by have:=r.un;show A.units + 3 + 16 * k + 200 < _;omega⟩
theorem Km.depth {k:Nat} {A:Around} (r:Km k A):A.depth < recursionLimit:=by have:=r.dp;omega
theorem Km.units {k:Nat} {A:Around} (r:Km k A):A.units + 64 < cLine:=by have:=r.un;omega
theorem ci.hn {k:Nat} {X:Cx} {e:Value} (r:ci k X.A):Km k (X.hn e).A:=⟨r.dp,r.un⟩
structure fJ (P:Program) (w:World) (K:PySem.W.Frag) (mg:Str→Option Value) (base:Heap) (CX:CXT) (k:Nat) (f:Addr) (fd:FuncData) (ps:List Str) (sp:Sp):Prop where
 len:∀ vs H Q E,sp vs H Q E→vs.length=ps.length
 run:∀ (A:Around) (outer:List Env) (s:Shared) (H:Hp) (args:Args) (us:List Value) (vs:List V) (Q:VK) (E:XK),Km k A→AC P w K mg base A outer s H→BindsTo s fd args (ps.zip us)→Pc vs us→sp vs H Q E →
  codeAny (model P w) A (.call (.ref f) args) (CR CX outer P w H s Q E) s
theorem fJ.mono {P:Program} {w:World} {K:PySem.W.Frag} {mg:Str→Option Value} {base:Heap} {CX:CXT} {j k:Nat} {f:Addr} {fd:FuncData} {ps:List Str} {sp:Sp} (F:fJ P w K mg base CX j f fd ps sp) (h:j ≤ k) :
  fJ P w K mg base CX k f fd ps sp:=⟨F.len,fun A outer s H args us vs Q E hr=>F.run A outer s H args us vs Q E (hr.mono h)⟩
section
variable {X:Cx} {CX:CXT} {k:Nat} {f C:Addr} {fd:FuncData} {ps:List Str} {sp:Sp} {dvs:List V} {ds:List Value} {E:XK} {x m:Str} {p pos apos:Pos} {e o:Expr} {es:List Expr} {ta:TE} {t:TA}
end
noncomputable def GM (CX:CXT) (P:Program) (w:World) (K:PySem.W.Frag) (mg:Str→Option Value) (base:Heap) (N:List Str) (qual:Str) (scope:Scope) (f:Addr) (cd:Value) (A:Around) (outer:List Env) (s:Shared) (H:Hp) (E:XK):Cx where
 prog:=P
 w:=w
 K:=K
 mg:=mg
 base:=base
 A:=A.deeper (envOfC qual scope s.heap.objs.size f cd)
 N:=N
 s₀:=s
 H₀:=H
 env:=envOfC qual scope s.heap.objs.size f cd
 outer:=outer
 stack:=envOfC qual scope s.heap.objs.size f cd :: outer
 ex:=[]
 calm:=false
 fn:=fun _=>true
 pn:=[]
 xe:=fun e s'=>wpAny (model P w) (A.deeper (envOfC qual scope s.heap.objs.size f cd)) (leaving (envOfC qual scope s.heap.objs.size f cd) e) (fun _ s''=>CX outer H s E e s'') (fun e' s''=>CX outer H s E e' s'') s'
section
variable {P:Program} {w:World} {K:PySem.W.Frag} {mg:Str→Option Value} {base:Heap}
end
end L2
namespace L2
open PySem PySem.Spec PyProof.Rows
section
variable {X:Cx}
end
end L2
namespace L2
open PySem PySem.Spec PyProof.Rows
section
variable {α:Type} {M:List α→Prop}
theorem us1 (h:∀ a,M [a]):∀ us:List α,us.length=1→M us | [a],_=>h a
theorem us2 (h:∀ a b,M [a,b]):∀ us:List α,us.length=2→M us | [a,b],_=>h a b
theorem us3 (h:∀ a b c,M [a,b,c]):∀ us:List α,us.length=3→M us | [a,b,c],_=>h a b c
theorem us4 (h:∀ a b c d,M [a,b,c,d]):∀ us:List α,us.length=4→M us | [a,b,c,d],_=>h a b c d
theorem us5 (h:∀ a b c d e,M [a,b,c,d,e]):∀ us:List α,us.length=5→M us | [a,b,c,d,e],_=>h a b c d e
theorem us7 (h:∀ a b c d e f g,M [a,b,c,d,e,f,g]):∀ us:List α,us.length=7→M us | [a,b,c,d,e,f,g],_=>h a b c d e f g
theorem us8 (h:∀ a b c d e f g i,M [a,b,c,d,e,f,g,i]):∀ us:List α,us.length=8→M us | [a,b,c,d,e,f,g,i],_=>h a b c d e f g i
end
structure XB (K:PySem.W.Frag) (C:Addr):Prop where
 hd:PySem.W.hasDictIn K C=true
 ov:((PySem.W.clsIn K C).any fun cd=>RF cd.mro)=true
 sa:PySem.W.findIn K (.ref C) "__setattr__"=some (some (.builtin "object.__setattr__"))
 ga:PySem.W.findIn K (.ref C) "__getattribute__"=some (some (.builtin "BaseException.__getattribute__"))
 gt:PySem.W.findIn K (.ref C) "__getattr__"=some none
structure IB (K:PySem.W.Frag) (C:Addr):Prop where
 ha:PySem.W.findIn K (.ref C) "__class__"=some (some (.builtin "object.__class__"))
 hn:PySem.W.specialIn K (.builtin "object.__class__") "__get__"=some (some (.builtin "getset_descriptor.__get__"))
 htk:PySem.W.takesIn K (.builtin "object.__class__")=some true
 hm:PySem.W.mroIn K C (.type "object")=some true
end L2
namespace L2
open PySem PySem.Spec PyProof.Rows
theorem Er {ks:List Int}:∀ {its:List Value},Pc (ks.map V.int) its→∃ xs:List (Int × Tok),its=xs.map (fun p=>Value.int p.1 p.2)∧xs.map (·.1)=ks:=by
 induction ks with
 | nil=>intro its r;cases r;exact ⟨[],rfl,rfl⟩
 | cons k ks ih=>
  intro its r;cases r with
  | cons h t=>
   obtain ⟨xs,e1,e2⟩:=ih t;obtain ⟨tk,rfl⟩:=(show ∃ t,_=Value.int k t from h);exact ⟨(k,tk) :: xs,by rw [List.map_cons,← e1],by rw [List.map_cons,e2]⟩
section
variable {X:Cx}
end
end L2
namespace L2
open PySem PySem.Spec PyProof.Rows
noncomputable def pL (p d:Addr):Heap→Prop:=fun h=>PySem.W.KdlKeysView h p d
noncomputable def KM (p d:Addr):Heap→Prop:=fun h=>h.IsValuesView p d
theorem pL.ok {P:Program} {w:World} {H:Hp} {h:Heap} {p d:Addr} (z:pL p d h):Gd P w H h p (.ext (pL p d)):=
 ⟨z,let ⟨o,ho,_⟩:=z;⟨o,ho⟩,fun _ _ z1 k=>let ⟨o,ho,x⟩:=z1;⟨o,k o ho,x⟩⟩
theorem KM.ok {P:Program} {w:World} {H:Hp} {h:Heap} {p d:Addr} (z:KM p d h):Gd P w H h p (.ext (KM p d)):=
 ⟨z,let ⟨o,ho,_⟩:=z;⟨o,ho⟩,fun _ _ z1 k=>let ⟨o,ho,x⟩:=z1;⟨o,k o ho,x⟩⟩
section
variable {X:Cx}
noncomputable def ou:V→List V→Hp→VK→Prop:=fun x vs H Q=>∃ d kvs,x=.ref d∧vs=[]∧H d=some (.dK kvs)∧∀ p,H p=none→Q (.ref p) (upd H p (.ext (pL p d)))
end
end L2
namespace L2
open PySem PySem.Spec PyProof.Rows
noncomputable abbrev TF:=St→Hp→Str→(Str→Hp→Prop)→Prop
section
variable {X:Cx} {e:Expr} {es:List Expr} {t:TF} {te:TE} {pos:Pos}
end
end L2
namespace L2
open PySem PySem.Spec PyProof.Rows
noncomputable def wM (p:Addr) (a b c:Int):Heap→Prop:=fun h=>∃ t u v,IsRange h p a b c t u v
theorem wM.ok {P:Program} {w:World} {H:Hp} {h:Heap} {p:Addr} {a b c:Int} (z:wM p a b c h):Gd P w H h p (.ext (wM p a b c)):=
 ⟨z,let ⟨_,_,_,e⟩:=z;⟨_,e⟩,fun _ _ z1 k=>let ⟨t,u,v,e⟩:=z1;⟨t,u,v,k _ e⟩⟩
section
variable {X:Cx}
end
end L2
namespace L2
open PySem PySem.Spec PyProof.Rows
noncomputable def HN (c:Addr) (qual:Str):Heap→Prop:=fun h=>h.CodeRec (.ref c) qual
noncomputable def Tab (H:Hp) (Pt:Addr) (pos:Pos) (qual:Str):Prop:=
 ∃ ps,H Pt=some (.tbl ps)∧(ps=#[]∨∃ c',ps=#[rawInt pos.line,rawInt pos.col,.ref c']∧H c'=some (.ext (HN c' qual)))
noncomputable def wv (Pt:Addr) (H H':Hp):Prop:=∀ b o,b ≠ Pt→H b=some o→H' b=some o
theorem wv.refl (Pt:Addr) (H:Hp):wv Pt H H:=fun _ _ _ h=>h
theorem wv.trans {Pt:Addr} {H H1 H2:Hp} (a:wv Pt H H1) (b:wv Pt H1 H2):wv Pt H H2:=fun c o n h=>b c o n (a c o n h)
theorem Ob.p {Pt:Addr} {H H':Hp} (s:Ob H H'):wv Pt H H':=fun b o _ h=>s b o h
theorem Tab.ne {H:Hp} {Pt b:Addr} {pos:Pos} {qual:Str} {o:HO} (t:Tab H Pt pos qual) (h:H b=some o) (ho:∀ ps,o ≠ .tbl ps):b ≠ Pt:=fun e=>by
 obtain ⟨ps,e1,_⟩:=t;subst e;rw [e1] at h;exact ho ps (Option.some.inj h).symm
theorem Tab.step {H H':Hp} {Pt:Addr} {pos:Pos} {qual:Str} (t:Tab H Pt pos qual) (s:Ob H H'):Tab H' Pt pos qual:=by
 obtain ⟨ps,e,d⟩:=t;refine ⟨ps,s _ _ e,?_⟩;rcases d with d | ⟨c',d,e'⟩
 ·exact .inl d
 ·exact .inr ⟨c',d,s _ _ e'⟩
structure MN (X:Cx) (c Pt:Addr):Prop where
 code:X.env.code=.ref c
 hd:PySem.W.CodeHd X.base c Pt
 bm:X.base.BuiltinsAt X.mg Pt
section
variable {X:Cx} {pins:List (Addr × Obj)} {σ:St} {H:Hp} {s:Shared} {params:Arguments} {body:Expr} {scope:Scope} {pos:Pos} {c Pt:Addr} {clos:List (Str × Addr)} {Q:Value→Shared→Prop}
end
section
variable {P:Program} {w:World} {K:PySem.W.Frag} {mg:Str→Option Value} {base:Heap}
end
structure QN (p y:Str) (sc:Scope):Prop where
 kind:sc.kind=.function
 co:sc.isCoroutine=false
 gen:sc.isGenerator=false
 ne:p ≠ y
 par:sc.names.lookup p=some .local
 yf:sc.names.lookup y=some .free
 nocell:∀ z ∈ sc.names,z.2 ≠ .cell
 one:∀ z ∈ sc.names,z.2=.free→z.1=y
section
variable {X:Cx} {pins:List (Addr × Obj)} {σ:St} {H:Hp} {s:Shared} {k:Nat} {f c' cl:Addr} {q p y:Str} {params:Arguments} {body:Expr} {scope:Scope} {v:V} {t:TE}
end
end L2
namespace L2
open PySem PySem.Spec PyProof.Rows
end L2
namespace L2
open PySem PySem.Spec PyProof.Rows
section
variable {P:Program} {w:World} {A:Around} {E:Value→Shared→Prop} {s:Shared}
structure PN (h:Heap) (d:Addr) (o:Obj) (es:Array DictEntry) (ep:Nat):Prop where
 at_:h.get? d=some o
 ex:o.ExactDict
 dat:o.data=.dict es ep
end
noncomputable def AtO (a:Addr) (o:Obj):Heap→Prop:=fun h=>h.get? a=some o
structure NN (P:Program) (w:World) (H:Hp) (a:Addr) (kvs:List (List Key × V)) (o:Obj) (es:Array DictEntry) (ep:Nat) (xs:List (List Key × Addr × Value)):Prop where
 at_:H a=some (.ext (AtO a o))
 ex:o.ExactDict
 dat:o.data=.dict es ep
 ent:es.toList=xs.map (entryOfKey (tupleKind (Le P w)))
 nd:(xs.map (·.1)).Nodup
 ks:Paired (fun (p:List Key × V) (q:List Key × Addr × Value)=>p.1=q.1∧H q.2.1=some (.tup (p.1.map kV))∧wd p.2 q.2.2) kvs xs
 sz:kvs.length ≤ sizeLine
 ns:(a == sysModules)=false
section
variable {P:Program} {w:World} {H H':Hp} {h:Heap} {a:Addr} {kvs:List (List Key × V)}
end
section
variable {X:Cx} {pins:List (Addr × Obj)} {σ:St} {H:Hp} {s:Shared} {a b:Addr} {kvs:List (List Key × V)} {k:List Key} {v:V} {r:Value} {A:Around} {E:Value→Shared→Prop}
end
section
variable {X:Cx} {o i e value:Expr} {pos pos' tpos:Pos} {td ty tv:TE}
end
section
variable {X:Cx} {tg:Expr}
end
end L2
namespace L2
open PySem PySem.Spec PyProof.Rows
noncomputable def EM (p d:Addr):Heap→Prop:=fun h=>h.IsItemsView p d
theorem EM.ok {P:Program} {w:World} {H:Hp} {h:Heap} {p d:Addr} (z:EM p d h):Gd P w H h p (.ext (EM p d)):=
 ⟨z,let ⟨o,ho,_⟩:=z;⟨o,ho⟩,fun _ _ z1 k=>let ⟨o,ho,x⟩:=z1;⟨o,k o ho,x⟩⟩
structure eM (H H':Hp) (l:Addr) (as:List Addr) (kvs:List (Key × V)):Prop where
 same:∀ b o,H b=some o→H' b=some o
 fresh:H l=none
 frAll:∀ a ∈ as,H a=none
 at_:H' l=some (.lst (as.map V.ref))
 len:as.length=kvs.length
 al:∀ (j:Nat) (a:Addr) (q:Key × V),as[j]? = some a→kvs[j]? = some q→H' a=some (.tup [kV q.1,q.2])
 only:∀ b o,H' b=some o→H b=some o∨o=.lst (as.map V.ref)∨∃ q ∈ kvs,o=.tup [kV q.1,q.2]
section
variable {X:Cx}
end
end L2
namespace L2
open PySem PySem.Spec PyProof.Rows
section
open AutoSeq1 (wpAny_loadPart')
open MeetsSeq MeetsSeq2 MeetsSeq3 SeqRoads2
variable {P:Program} {w:World} {l b:Addr} {xs ys:Array Value} {n m:Nat} {dd de:Option Addr} {sl sm:Array (Option Value)}
end
section
variable {X:Cx} {pins:List (Addr × Obj)} {σ:St} {H:Hp} {s:Shared}
structure DL (H:Hp) (p:Addr) (ps:List Addr) (ks:List (List (Key × V))):Prop where
 at_:H p=some (.lst (ps.map V.ref))
 len:ps.length=ks.length
 al:∀ (j:Nat) (a:Addr) (kvs:List (Key × V)),ps[j]? = some a→ks[j]? = some kvs→H a=some (.dK kvs)
end
section
variable {X:Cx}
end
end L2
namespace L2
open PySem PySem.Spec PyProof.Rows
section
variable {X:Cx} {pins:List (Addr × Obj)} {σ:St} {H:Hp} {s:Shared} {d:Addr} {o:Obj} {kvs:List (Key × V)}
end
section
variable {X:Cx} {tg:Expr}
end
end L2
namespace L2
open PySem PySem.Spec PyProof.Rows
structure HL (X:Cx) (pins:List (Addr × Obj)) (H:Hp) (S:Addr):Prop where
 nn:H S=none
 nl:S ≠ X.env.locals
 ge:X.s₀.heap.objs.size ≤ S
 nc:∀ x c,X.env.cells.lookup x=some c→c ≠ S
 np:∀ p ∈ X.pn ++ pins,p.1 ≠ S
 nf:S ∉ X.fs
theorem HL.of {X:Cx} {pins:List (Addr × Obj)} {σ:St} {H:Hp} {s:Shared} {S:Addr} (I:Inv X pins σ H s) (h:s.heap.objs.size ≤ S):HL X pins H S:=
 ⟨I.hok.fresh h,fun z=>absurd (Nat.lt_of_lt_of_le I.lt h) (by rw [z];exact Nat.lt_irrefl _),Nat.le_trans I.sz h,fun x c e z=>by
  obtain ⟨v,o,ho,_⟩:=I.cell x c e;exact absurd (Nat.lt_of_lt_of_le (Heap.lt_size ho) h) (by rw [z];exact Nat.lt_irrefl _),fun p hp z=>by
  have ho:=(I.pin p hp).1;exact absurd (Nat.lt_of_lt_of_le (Heap.lt_size ho) h) (by rw [z];exact Nat.lt_irrefl _),I.nofs h⟩
theorem HL.turn {X:Cx} {pins:List (Addr × Obj)} {σ:St} {H:Hp} {s:Shared} {S:Addr} {h':Heap} {t':Nat} (o:HL X pins H S) (I:Inv X pins σ H s) (k:∀ b o,b ≠ S→s.heap.get? b=some o→h'.get? b=some o):Inv X pins σ H { s with heap:=h',toks:=t' }:=
 I.turned k o.nn o.nl (.inr o.ge) o.nc o.np
section
variable {X:Cx} {A:Around} {pins:List (Addr × Obj)} {σ:St} {H:Hp} {l q I S:Addr} {n:Nat} {P:Nat→Value→Prop} {R:Result→Shared→Prop}
end
end L2
namespace L2
open PySem PySem.Spec PyProof.Rows
structure KN (p y z:Str) (sc:Scope):Prop where
 kind:sc.kind=.function
 co:sc.isCoroutine=false
 gen:sc.isGenerator=false
 ne:y ≠ z
 par:sc.names.lookup p=some .local
 yf:sc.names.lookup y=some .free
 zf:sc.names.lookup z=some .free
 nocell:∀ z ∈ sc.names,z.2 ≠ .cell
 two:∀ b ∈ sc.names,b.2=.free→b.1=y∨b.1=z
section
variable {X:Cx} {A:Around} {pins:List (Addr × Obj)} {σ:St} {H:Hp} {s:Shared} {k:Nat} {f c' c1 c2:Addr} {q p y z:Str} {params:Arguments} {body:Expr} {scope:Scope} {v1 v2:V} {t:TE}
end
end L2
namespace L2
open PySem PySem.Spec PyProof.Rows
theorem SqL.p {K:PySem.W.Frag} {H H':Hp} {a Pt:Addr} {xs:List V} {pos:Pos} {q:Str} (s:wv Pt H H') (t:Tab H Pt pos q) (h:SqL K H a xs):SqL K H' a xs:=by
 rcases h with (h | ⟨o,h⟩) | h
 ·exact .inl (.inl (s _ _ (t.ne h (fun _ z=>by cases z)) h))
 ·exact .inl (.inr ⟨o,s _ _ (t.ne h (fun _ z=>by cases z)) h⟩)
 ·exact .inr h
end L2
namespace L2
open PySem PySem.Spec PyProof.Rows
end L2
namespace L2
open PySem PySem.Spec PyProof.Rows
end L2
namespace L2
open PySem PySem.Spec PyProof.Rows
end L2
namespace L2
open PySem PySem.Spec PyProof.Rows
end L2
namespace L2
open PySem PySem.Spec PyProof.Rows
theorem EA (i:Nat) (σ:St) (H:Hp) (Q:VK):mM i σ H Q=(GG H Q σ[i]?):=rfl
theorem cL (v:V) (x_0:St) (H:Hp) (Q:VK):tC v x_0 H Q=(Q v H):=rfl
theorem LJ (t:TE) (σ:St) (H:Hp) (Q:(Bool→Hp→Prop)):tB t σ H Q=(t σ H fun x H1=>BlQ x fun c=>Q c H1):=rfl
theorem xE (t u:TT) (σ:St) (H:Hp) (Q:(Bool→Hp→Prop)):LM t u σ H Q=(t σ H fun c H1=>if c=true then u σ H1 Q else Q false H1):=rfl
theorem BG (t u:TT) (σ:St) (H:Hp) (Q:(Bool→Hp→Prop)):tOr t u σ H Q=(t σ H fun c H1=>if c=true then Q true H1 else u σ H1 Q):=rfl
theorem oC (t:TT) (σ:St) (H:Hp) (Q:(Bool→Hp→Prop)):NM t σ H Q=(t σ H fun c H1=>Q (!c) H1):=rfl
theorem Nx (ta tb:TE) (σ:St) (H:Hp) (Q:VK):rK ta tb σ H Q=(ta σ H fun x H1=>BlQ x fun c=>if c=true then tb σ H1 Q else Q (.bl false) H1):=rfl
theorem QA (ta tb:TE) (σ:St) (H:Hp) (Q:VK):gN ta tb σ H Q=(ta σ H fun x H1=>BlQ x fun c=>if c=true then Q (.bl true) H1 else tb σ H1 Q):=rfl
theorem Ox (ta:TE) (σ:St) (H:Hp) (Q:VK):LK ta σ H Q=(ta σ H fun x H1=>BlQ x fun c=>Q (.bl (!c)) H1):=rfl
theorem yG (t:TT) (ta tb:TE) (σ:St) (H:Hp) (Q:VK):tIf t ta tb σ H Q=(t σ H fun c H1=>if c=true then ta σ H1 Q else tb σ H1 Q):=rfl
theorem Sn (D:Oh) (σ:St) (H:Hp):uK  D σ H=(D.nx σ H):=rfl
theorem Kb (t u:TS) (D:Oh) (σ:St) (H:Hp):cN t u D σ H=(t { D with nx:=u D } σ H):=rfl
theorem jy (te:TE) (D:Oh) (σ:St) (H:Hp):yL te D σ H=(te σ H fun _ H1=>D.nx σ H1):=rfl
theorem TB (te:TE) (D:Oh) (σ:St) (H:Hp):jM te D σ H=(te σ H D.rt):=rfl
theorem Hu (x_0:Oh) (x_1:St) (x_2:Hp):RG  x_0 x_1 x_2=(False):=rfl
theorem Qk (i:Nat) (v:V) (σ:St) (H:Hp) (Q:(St→Hp→Prop)):Sq i v σ H Q=(Q (σ.set i (some v)) H):=rfl
theorem LA (vs:List V) (σ:St) (H:Hp) (Q:(St→Hp→Prop)):PL  vs σ H Q=(vs=[]∧Q σ H):=rfl
theorem vy (t:TG) (u:TGs) (vs:List V) (σ:St) (H:Hp) (Q:(St→Hp→Prop)):oA t u vs σ H Q=(∃ v r,vs=v :: r∧t v σ H fun σ' H'=>u r σ' H' Q):=rfl
theorem GA (K:PySem.W.Frag) (n:Nat) (t:TGs) (v:V) (σ:St) (H:Hp) (Q:(St→Hp→Prop)):EL K n t v σ H Q=(∃ a xs,v=.ref a∧SqT K H a xs∧xs.length=n∧t xs σ H Q):=rfl
theorem iB (to ti:TE) (t:IL) (v:V) (σ:St) (H:Hp) (Q:(St→Hp→Prop)):oN to ti t v σ H Q=(to σ H fun o H1=>ti σ H1 fun i H2=>t o i v H2 fun H3=>Q σ H3):=rfl
theorem wC (te:TE) (g:TG) (D:Oh) (σ:St) (H:Hp):rJ te g D σ H=(te σ H fun x H1=>g x σ H1 D.nx):=rfl
theorem vD (i:Nat) (te:TE) (ti:TIp) (D:Oh) (σ:St) (H:Hp):MM i te ti D σ H=(∃ x,σ[i]? = some (some x)∧te σ H fun y H1=>ti x y H1 fun z H2=>D.nx (σ.set i (some z)) H2):=rfl
theorem cy (K:PySem.W.Frag) (tl:TE) (σ:St) (H:Hp) (R:(It→Hp→Prop)):kL K tl σ H R=(tl σ H fun x H1=>Ch x fun a=>(∃ xs,SqL K H1 a xs)∧R (Itl K a) H1):=rfl
theorem pH (r:R2) (ta tb:TE) (σ:St) (H:Hp) (Q:VK):tOp r ta tb σ H Q=(ta σ H fun x H1=>tb σ H1 fun y H2=>r x y H2 Q):=rfl
theorem iH (r:V→Hp→VK→Prop) (ta:TE) (σ:St) (H:Hp) (Q:VK):tUn r ta σ H Q=(ta σ H fun x H1=>r x H1 Q):=rfl
theorem JK (C:Int→Int→Prop) (g:Int→Int→V) (x:V) (y:V) (H:Hp) (Q:VK):rI C g x y H Q=(Gi x fun i=>Gi y fun j=>C i j∧Q (g i j) H):=rfl
theorem EH (g:Int→Int→V) (x:V) (y:V) (H:Hp) (Q:VK):rI0 g x y H Q=(Gi x fun i=>Gi y fun j=>Q (g i j) H):=rfl
theorem jL (g:Int→V) (x:V) (H:Hp) (Q:VK):rU g x H Q=(Gi x fun i=>Q (g i) H):=rfl
theorem XG (x:V) (y:V) (H:Hp) (Q:VK):rEq  x y H Q=(bK x y=true∧Q (.bl (decide (x=y))) H):=rfl
theorem rH (x:V) (y:V) (H:Hp) (Q:VK):rNe  x y H Q=(bK x y=true∧Q (.bl (!decide (x=y))) H):=rfl
theorem Gy (t:TE) (σ:St) (H:Hp) (Q:(Bool→Hp→Prop)):cK t σ H Q=(t σ H fun x H'=>BlQ x fun k=>Q k H'):=rfl
theorem TD (K:PySem.W.Frag) (ta:TE) (f:Str) (σ:St) (H:Hp) (Q:VK):WM K ta f σ H Q=(ta σ H fun x H1=>Ch x fun a=>∃ v,Hi K H1 a f v∧Q v H1):=rfl
theorem JC (K:PySem.W.Frag) (ta tv:TE) (f:Str) (D:Oh) (σ:St) (H:Hp):kN K ta tv f D σ H=(tv σ H fun y H1=>ta σ H1 fun x H2=>Ch x fun a=>∃ C dx fs,H2 a=some (.ins C dx fs)∧Cls K C∧Mb K C f∧fs.length < 1000 ∧
 D.nx σ (upd H2 a (.ins C dx (Ih f y fs)))):=rfl
theorem ir (K:PySem.W.Frag) (ta tv:TE) (rd:V→V→Hp→VK→Prop) (f:Str) (D:Oh) (σ:St) (H:Hp):QD K ta tv rd f D σ H=(ta σ H fun x H1=>∃ a C dx fs v,x=.ref a∧H1 a=some (.ins C dx fs)∧Cls K C∧Mb K C f∧fs.lookup f=some v ∧
 tv σ H1 fun y H2=>rd v y H2 fun z H3=>∃ dx' fs',H3 a=some (.ins C dx' fs')∧fs'.length < 1000∧D.nx σ (upd H3 a (.ins C dx' (Ih f z fs')))):=rfl
theorem LB (x:V) (y:V) (H:Hp) (Q:VK):nN  x y H Q=(∃ i j,x=.int i∧y=.int j∧Q (.int (i + j)) H):=rfl
theorem ED (x_0:St) (H:Hp) (Q:(List V→Hp→Prop)):OL  x_0 H Q=(Q [] H):=rfl
theorem Mx (ta:TE) (tr:TA) (σ:St) (H:Hp) (Q:(List V→Hp→Prop)):SK ta tr σ H Q=(ta σ H fun x H1=>tr σ H1 fun xs H2=>Q (x :: xs) H2):=rfl
theorem dE (t:TA) (σ:St) (H:Hp) (Q:VK):TM t σ H Q=(t σ H fun xs H1=>xs.length ≤ sizeLine∧∀ p,H1 p=none→Q (.ref p) (upd H1 p (.tup xs))):=rfl
theorem qE (t:TA) (σ:St) (H:Hp) (Q:VK):aN t σ H Q=(t σ H fun xs H1=>xs.length ≤ sizeLine∧∀ p,H1 p=none→Q (.ref p) (upd H1 p (.lst xs))):=rfl
theorem Hy (sp:Sp) (dvs:List V) (E:XK) (t:TA) (σ:St) (H:Hp) (Q:VK):BF sp dvs E t σ H Q=(t σ H fun vs H1=>sp (vs ++ dvs) H1 Q E):=rfl
theorem xy (C:Addr) (m:Str) (sp:Sp) (dvs:List V) (E:XK) (ta:TE) (t:TA) (σ:St) (H:Hp) (Q:VK):AI C m sp dvs E ta t σ H Q=(ta σ H fun x H1=>Ch x fun a=>∃ dx fs,H1 a=some (.ins C dx fs)∧fs.lookup m=none ∧
 t σ H1 fun vs H2=>sp (x :: (vs ++ dvs)) H2 Q E):=rfl
theorem Zx (C:Addr) (sp:Sp) (dvs:List V) (E:XK) (t:TA) (σ:St) (H:Hp) (Q:VK):KJ C sp dvs E t σ H Q=(t σ H fun vs H1=>∀ x dx,H1 x=none→H1 dx=none→dx ≠ x →
 sp (.ref x :: (vs ++ dvs)) (upd (upd H1 dx (.own x)) x (.ins C dx [])) (fun v H2=>v=.non∧Q (.ref x) H2) E):=rfl
theorem AH (r:List V→Hp→VK→Prop) (t:TA) (σ:St) (H:Hp) (Q:VK):tCB r t σ H Q=(t σ H fun vs H1=>r vs H1 Q):=rfl
theorem Pr (x_0:St) (H:Hp) (Q:(Option Int→Hp→Prop)):kE  x_0 H Q=(Q none H):=rfl
theorem Wy (t:TE) (σ:St) (H:Hp) (Q:(Option Int→Hp→Prop)):rL t σ H Q=(t σ H fun x H1=>Gi x fun i=>Q (some i) H1):=rfl
theorem DH (r:V→Option Int→Option Int→Hp→VK→Prop) (te:TE) (tl th:TO) (σ:St) (H:Hp) (Q:VK):tSl r te tl th σ H Q=(te σ H fun x H1=>tl σ H1 fun l H2=>th σ H2 fun u H3=>r x l u H3 Q):=rfl
theorem QB (K:PySem.W.Frag) (x:V) (y:V) (H:Hp) (Q:VK):tN K x y H Q=(Ch x fun p=>∃ xs,Gi y fun i=>SqL K H p xs∧∃ v,atI xs i=some v∧Q v H):=rfl
theorem BE (K:PySem.W.Frag) (x:V) (y:V) (H:Hp) (Q:VK):lN K x y H Q=(Ch x fun p=>∃ xs,Gi y fun i=>SqT K H p xs∧∃ v,atI xs i=some v∧Q v H):=rfl
theorem gE (x:V) (y:V) (H:Hp) (Q:VK):VM  x y H Q=(∃ z i c,x=.str z∧y=.int i∧z.length ≤ sizeLine∧atI z.cps.toList i=some c∧Q (.str ⟨#[c]⟩) H):=rfl
theorem bz (o:V) (i:V) (v:V) (H:Hp) (Q:(Hp→Prop)):MJ  o i v H Q=(Ch o fun p=>∃ xs,Gi i fun k=>H p=some (.lst xs)∧∃ j,ixN xs.length k=some j∧Q (upd H p (.lst (xs.set j v)))):=rfl
theorem EB (K:PySem.W.Frag) (x:V) (lo:Option Int) (hi:Option Int) (H:Hp) (Q:VK):pN K x lo hi H Q=(∃ a xs,x=.ref a∧SqL K H a xs∧∀ p,H p=none→Q (.ref p) (upd H p (.lst (QE xs lo hi)))):=rfl
theorem JG (K:PySem.W.Frag) (neg:Bool) (x:V) (y:V) (H:Hp) (Q:VK):rIn K neg x y H Q=(∃ p xs,y=.ref p∧(SqL K H p xs∨SqT K H p xs)∧ik x=true∧xs.all ik=true∧Q (.bl (if neg then !inV x xs else inV x xs)) H):=rfl
theorem qH (K:PySem.W.Frag) (T:String) (r:V→List V→Hp→VK→Prop) (to:TE) (t:TA) (σ:St) (H:Hp) (Q:VK):tBM K T r to t σ H Q=(to σ H fun x H1=>tyV K T x H1∧t σ H1 fun xs H2=>r x xs H2 Q):=rfl
theorem Tr (x:V) (vs:List V) (H:Hp) (Q:VK):iD  x vs H Q=(Ch x fun l=>Dz vs fun y=>∃ xs,H l=some (.lst xs)∧xs.length < sizeLine∧Q .non (upd H l (.lst (xs ++ [y])))):=rfl
theorem rB (x:V) (y:V) (H:Hp) (Q:VK):jN  x y H Q=(∃ l b xs zs,x=.ref l∧y=.ref b∧H l=some (.lst xs)∧H b=some (.lst zs)∧xs.length + zs.length ≤ sizeLine∧∀ p,H p=none→Q (.ref p) (upd H p (.lst (xs ++ zs)))):=rfl
theorem Iy (td ty:TE) (σ:St) (H:Hp) (Q:VK):uL td ty σ H Q=(td σ H fun x H1=>ty σ H1 fun y H2=>Ch x fun a=>∃ v,Qs H2 a y (some v)∧Q v H2):=rfl
theorem Ir (ty td:TE) (σ:St) (H:Hp) (Q:VK):WC ty td σ H Q=(ty σ H fun y H1=>td σ H1 fun x H2=>Ch x fun a=>∃ o,Qs H2 a y o∧Q (.bl (!o.isSome)) H2):=rfl
theorem yx (td ty tv:TE) (D:Oh) (σ:St) (H:Hp):BK td ty tv D σ H=(tv σ H fun v H1=>td σ H1 fun x H2=>ty σ H2 fun y H3=>Ch x fun a=>∃ H4,qD H3 a y v H4∧D.nx σ H4):=rfl
theorem Dv (x_0:St) (H:Hp) (Q:VK):KG  x_0 H Q=(∀ p,H p=none→Q (.ref p) (upd H p (.dK []))):=rfl
theorem Yx (x_0:St) (H:Hp) (Q:(Bool→Hp→Prop)):bA  x_0 H Q=(Q true H):=rfl
theorem uD (tl:TE) (σ:St) (H:Hp) (R:(It→Hp→Prop)):OM tl σ H R=(tl σ H fun x H1=>∃ z,x=.str z∧R (Its (yi z)) H1):=rfl
theorem Wu (x:V) (vs:List V) (H:Hp) (Q:VK):xH  x vs H Q=(∃ z y,x=.str z∧vs=[.str y]∧y.length ≠ 0∧z.length + 2 ≤ sizeLine∧(Txt.split z y).length ≤ sizeLine∧∀ p,H p=none→Q (.ref p) (upd H p (.lst (dc (Txt.split z y))))):=rfl
theorem Jv (OK:Addr→Prop) (m:Str) (SPV:Addr→Sp) (E:XK) (ta:TE) (t:TA) (σ:St) (H:Hp) (Q:VK):jH OK m SPV E ta t σ H Q=(ta σ H fun x H1=>∃ a C dx fs,x=.ref a∧H1 a=some (.ins C dx fs)∧OK C∧fs.lookup m=none ∧
 t σ H1 fun vs H2=>SPV C (x :: vs) H2 Q E):=rfl
theorem Ty (K:PySem.W.Frag) (ta:TA) (σ:St) (H:Hp) (R:(It→Hp→Prop)):aK K ta σ H R=(ta σ H fun vs H1=>∃ a,vs=[.ref a]∧(∃ xs,SqL K H1 a xs)∧R (Ite K a) H1):=rfl
theorem gB (K:PySem.W.Frag) (ta:TA) (σ:St) (H:Hp) (R:(It→Hp→Prop)):sN K ta σ H R=(ta σ H fun vs H1=>∃ a b,vs=[.ref a,.ref b]∧(∃ xs,SqL K H1 a xs)∧(∃ ys,SqL K H1 b ys)∧R (Itz K a b) H1):=rfl
theorem LG (x_0:St) (H:Hp) (Q:(Hp→Prop)):tJ0  x_0 H Q=(Q H):=rfl
theorem yH (te:TE) (t:TJ) (σ:St) (H:Hp) (Q:(Hp→Prop)):tJI te t σ H Q=(te σ H fun v H1=>∃ i,v=.int i∧i.natAbs.log2 < 1920∧t σ H1 Q):=rfl
theorem Vr (t:TJ) (σ:St) (H:Hp) (Q:VK):tE t σ H Q=(t σ H fun H1=>∀ y:Str,Q (.str y) H1):=rfl
theorem su (sp:Sp) (dvs:List V) (E:St→XK) (t:TA) (σ:St) (H:Hp) (Q:VK):HH sp dvs E t σ H Q=(t σ H fun vs H1=>sp (vs ++ dvs) H1 Q (E σ)):=rfl
theorem Jy (ta:TA) (σ:St) (H:Hp) (R:(It→Hp→Prop)):wJ ta σ H R=(ta σ H fun vs H1=>∃ i j:Int,vs=[.int i,.int j,.int (-1)]∧(-1073741824 ≤ i∧i < 1073741824∧-1073741824 ≤ j∧j < 1073741824)∧R (Itd i (i - j).toNat) H1):=rfl
theorem Dp (K:PySem.W.Frag) (ta:TA) (σ:St) (H:Hp) (Q:VK):Ax K ta σ H Q=(ta σ H fun vs H1=>∃ a xs,vs=[.ref a]∧SqL K H1 a xs∧∀ l,H1 l=none→Q (.ref l) (upd H1 l (.lst xs.reverse))):=rfl
theorem my (K:PySem.W.Frag) (ta:TA) (td:TE) (σ:St) (H:Hp) (Q:VK):lL K ta td σ H Q=(ta σ H fun vs H1=>td σ H1 fun y H2=>∃ l ks,vs=[.ref l]∧SqL K H2 l (List.map V.int ks)∧Q (match ks.min? with | some m=>.int m | none=>y) H2):=rfl
theorem vx (x:V) (vs:List V) (H:Hp) (Q:VK):ou  x vs H Q=(∃ d kvs,x=.ref d∧vs=[]∧H d=some (.dK kvs)∧∀ p,H p=none→Q (.ref p) (upd H p (.ext (pL p d)))):=rfl
noncomputable def Ei (J:It) (g:TG) (tb:TS) (D:Oh) (σ:St) (H:Hp):Prop:=∃ W:Nat→Nat→St→Hp→Prop,(∃ m,W 0 m σ H)∧∀ i m σ H,W i m σ H →
 (J.stop i H∧D.nx σ H)∨(J.go i H∧∃ N:St→Hp→Prop,(∀ σ' H',N σ' H'→∃ m',m' < m∧W (i + 1) m' σ' H')∧∀ x H',J.yld i H x H'→g x σ H' fun σ2 H2=>tb { D with nx:=N,ct:=N,bk:=D.nx } σ2 H2)
theorem CC (wi:TI) (g:TG) (tb:TS) (D:Oh) (σ:St) (H:Hp):rN wi g tb D σ H=wi σ H fun J H1=>Ei J g tb D σ H1:=rfl
noncomputable def vd (J:It) (g:TG) (tc:TT) (te:TE) (σb:St) (Q:VK) (H:Hp):Prop:=∃ W:Nat→Nat→List V→Hp→Prop,(∃ m,W 0 m [] H)∧lz J g tc te σb Q W
theorem dy (wi:TI) (g:TG) (tc:TT) (te:TE) (sel:List (Option Nat)) (σ:St) (H:Hp) (Q:VK):dJ wi g tc te sel σ H Q=wi σ H fun J H1=>vd J g tc te (blk sel σ) Q H1:=rfl
theorem Fx (ta:TA) (σ:St) (H:Hp) (R:It→Hp→Prop):CL ta σ H R=(ta σ H fun vs H1=>Dz vs fun x=>Gi x fun j=>-4611686018427387904 ≤ j∧j < 4611686018427387904∧R (Itr 0 j.toNat) H1):=rfl
theorem CM {α β:Type} (f:α→β):[].map f=[]:=rfl
theorem ZL {α β:Type} (f:α→β) (a:α) (l:List α):(a :: l).map f=f a :: l.map f:=rfl
theorem FM {α:Type} (l:List α):[] ++ l=l:=rfl
theorem XL {α:Type} (a:α) (l r:List α):(a :: l) ++ r=a :: (l ++ r):=rfl
theorem sM {α:Type} (a b:α) (l:List α):(a :: l).set 0 b=b :: l:=rfl
theorem QL {α:Type} (a b:α) (l:List α) (n:Nat):(a :: l).set (n + 1) b=a :: l.set n b:=rfl
theorem rM {α:Type} (a:α) (l:List α):(a :: l)[0]? = some a:=rfl
theorem aM {α:Type} (a:α) (l:List α) (n:Nat):(a :: l)[n + 1]? = l[n]?:=rfl
theorem JM {α:Type}:([]:List α).length=0:=rfl
theorem yM {α:Type} (a:α) (l:List α):(a :: l).length=l.length + 1:=rfl
theorem dBn {α β:Type} (f:α→Option β):(none:Option α).bind f=none:=rfl
theorem dBs {α β:Type} (f:α→Option β) (a:α):(some a).bind f=f a:=rfl
theorem dJs {α:Type} (a:Option α):(some a).join=a:=rfl
theorem dJn {α:Type}:(none:Option (Option α)).join=none:=rfl
theorem eE (sel:List (Option Nat)) (σ:St):blk sel σ=sel.map fun o=>o.bind fun j=>(σ[j]?).join:=rfl
theorem zc {c:TT} {t u:TS} {D:Oh} {σ:St} {H:Hp} (b:Bool) (hc:∀ Q:Bool→Hp→Prop,Q b H→c σ H Q) (h1:b=true→t D σ H) (h2:b=false→u D σ H):tM c t u D σ H:=by
 refine hc _ ?_;cases b with
 | true=>exact h1 rfl
 | false=>exact h2 rfl
theorem El {c:TT} {t u:TS} {D:Oh} {σ:St} {H:Hp} (R:Bool→Hp→Prop) (hc:∀ Q:Bool→Hp→Prop,(∀ b H',R b H'→Q b H')→c σ H Q) (h1:∀ H',R true H'→t D σ H') (h2:∀ H',R false H'→u D σ H'):tM c t u D σ H:=by
 refine hc _ fun b H' r=>?_
 cases b with
 | true=>exact h1 H' r
 | false=>exact h2 H' r
theorem vc {t:TS} {D:Oh} {σ:St} {H:Hp} (R:St→Hp→Prop) (h:∀ D':Oh,(∀ σ H,R σ H→D'.nx σ H)→D'.rt=D.rt→D'.bk=D.bk→D'.ct=D.ct→t D' σ H) (hR:∀ σ H,R σ H→D.nx σ H):t D σ H:=h D hR rfl rfl rfl
theorem zzC {t:TS} {D:Oh} {σ:St} {H:Hp} (R:St->Hp->Prop) (h:∀ D':Oh,(∀ σ H,R σ H->D'.nx σ H)->t D' σ H) (hR:∀ M,M=D.nx->∀ σ H,R σ H->M σ H):t D σ H:=h D (hR _ rfl)
theorem zP {p:Prop} (h:∀ q,q=p->q):p:=h p rfl
theorem zzD {t:TS} {D:Oh} {σ:St} {H:Hp} (R:St->Hp->Prop) (h:∀ D':Oh,(∀ σ H,R σ H->D'.nx σ H)->t D' σ H) (hR:∀ σ H,R σ H->D.nx σ H):t D σ H:=h D hR
theorem zS {t u:TS} {D:Oh} {σ:St} {H:Hp} (R:St->Hp->Prop) (h:∀ D':Oh,(∀ σ H,R σ H->D'.nx σ H)->t D' σ H) (hR:∀ M,M=u D->∀ σ H,R σ H->M σ H):cN t u D σ H:=h { D with nx:=u D } (hR _ rfl)
theorem cI {te:TE} {D:Oh} {σ:St} {H:Hp} (v:V) (hc:∀ Q:VK,Q v H→te σ H Q) (h:D.rt v H):jM te D σ H:=hc _ h
theorem yB (x y:Str):(x ++ y).length=x.length + y.length:=by
 show (x.cps ++ y.cps).size=_;rw [Array.size_append];rfl
theorem Ei.range {lo:Int} {n:Nat} {g:TG} {tb:TS} {D:Oh} {σ:St} {H:Hp} (Pv:Nat→St→Hp→Prop) (h0:Pv 0 σ H)
  (hs:∀ i σ H,i < n→Pv i σ H→g (.int (lo + i)) σ H fun σ2 H2=>tb { D with nx:=Pv (i + 1),ct:=Pv (i + 1),bk:=D.nx } σ2 H2) (hd:∀ σ H,Pv n σ H→D.nx σ H):Ei (Itr lo n) g tb D σ H:=JD Pv h0 hs hd
theorem Ei.list {K:PySem.W.Frag} {a:Addr} {xs:List V} {g:TG} {tb:TS} {D:Oh} {σ:St} {H:Hp} (Pv:Nat→St→Hp→Prop) (h0:Pv 0 σ H) (hl:∀ i σ H,i ≤ xs.length→Pv i σ H→SqL K H a xs)
  (hs:∀ i x σ H,xs[i]? = some x→Pv i σ H→g x σ H fun σ2 H2=>tb { D with nx:=Pv (i + 1),ct:=Pv (i + 1),bk:=D.nx } σ2 H2) (hd:∀ σ H,Pv xs.length σ H→D.nx σ H):Ei (Itl K a) g tb D σ H:=vF Pv h0 hl hs hd
theorem Ei.its {xs:List V} {g:TG} {tb:TS} {D:Oh} {σ:St} {H:Hp} (Pv:Nat→St→Hp→Prop) (h0:Pv 0 σ H)
  (hs:∀ i x σ H,xs[i]? = some x→Pv i σ H→g x σ H fun σ2 H2=>tb { D with nx:=Pv (i + 1),ct:=Pv (i + 1),bk:=D.nx } σ2 H2) (hd:∀ σ H,Pv xs.length σ H→D.nx σ H):Ei (Its xs) g tb D σ H:=lI Pv h0 hs hd
theorem vd.list {K:PySem.W.Frag} {a:Addr} {xs:List V} {g:TG} {tc:TT} {te:TE} {σb:St} {Q:VK} {H:Hp} (Pv:Nat→List V→Hp→Prop) (hz:xs.length ≤ sizeLine) (h0:Pv 0 [] H) (hl:∀ i ys H,i ≤ xs.length→Pv i ys H→SqL K H a xs∧ys.length ≤ i)
  (hs:∀ i x ys H,xs[i]? = some x→Pv i ys H→Yg Pv g tc te σb i x ys H) (hd:∀ ys H,Pv xs.length ys H→∀ p,H p=none→Q (.ref p) (upd H p (.lst ys))):vd (Itl K a) g tc te σb Q H:=aB Pv hz h0 hl hs hd
theorem vd.its {xs:List V} {g:TG} {tc:TT} {te:TE} {σb:St} {Q:VK} {H:Hp} (Pv:Nat→List V→Hp→Prop) (hz:xs.length ≤ sizeLine) (h0:Pv 0 [] H) (hl:∀ i ys H,i ≤ xs.length→Pv i ys H→ys.length ≤ i)
  (hs:∀ i x ys H,xs[i]? = some x→Pv i ys H→Yg Pv g tc te σb i x ys H) (hd:∀ ys H,Pv xs.length ys H→∀ p,H p=none→Q (.ref p) (upd H p (.lst ys))):vd (Its xs) g tc te σb Q H:=kF Pv hz h0 hl hs hd
theorem vd.range {lo:Int} {n:Nat} {g:TG} {tc:TT} {te:TE} {σb:St} {Q:VK} {H:Hp} (Pv:Nat→List V→Hp→Prop) (hz:n ≤ sizeLine) (h0:Pv 0 [] H) (hl:∀ i ys H,i ≤ n→Pv i ys H→ys.length ≤ i)
  (hs:∀ i ys H,i < n→Pv i ys H→Yg Pv g tc te σb i (.int (lo + i)) ys H) (hd:∀ ys H,Pv n ys H→∀ p,H p=none→Q (.ref p) (upd H p (.lst ys))):vd (Itr lo n) g tc te σb Q H:=Xz Pv hz h0 hl hs hd
theorem Qt {α β:Type} {xs:List α} {i:Nat} {x:α} (f:α→β) (h:xs[i]? = some x):(xs.take (i + 1)).map f=(xs.take i).map f ++ [f x]:=by
 rw [List.take_add_one,h,List.map_append];rfl
theorem vd.its_map {xs:List V} {g:TG} {te:TE} {σb:St} {Q:VK} {H:Hp} (f:V→V) (hz:xs.length ≤ sizeLine) (hs:∀ (i:Nat) (x:V) (N:V→Hp→Prop),xs[i]? = some x→N (f x) H→g x σb H fun σ2 H2=>Sub σb σ2∧te σ2 H2 N)
  (hd:∀ p,H p=none→Q (.ref p) (upd H p (.lst (xs.map f)))):vd (Its xs) g bA te σb Q H:=by
 refine vd.its (fun i ys H'=>H'=H∧ys=(xs.take i).map f) hz ⟨rfl,rfl⟩ (fun i ys H' hi ⟨_,e⟩=>?_) (fun i x ys H' hx ⟨e1,e2⟩ N hN=>?_) (fun ys H' ⟨e1,e2⟩ p hp=>?_)
 ·rw [e,List.length_map,List.length_take];omega
 ·subst e1;exact hs i x (fun y H4=>N (ys ++ [y]) H4) hx (hN _ _ ⟨rfl,by rw [e2,Qt f hx]⟩)
 ·subst e1;rw [e2,List.take_length];exact hd p hp
theorem vd.range_map {lo:Int} {n:Nat} {g:TG} {te:TE} {σb:St} {Q:VK} {H:Hp} (f:Nat→V) (hz:n ≤ sizeLine) (hs:∀ (i:Nat) (N:V→Hp→Prop),i < n→N (f i) H→g (.int (lo + i)) σb H fun σ2 H2=>Sub σb σ2∧te σ2 H2 N)
  (hd:∀ p,H p=none→Q (.ref p) (upd H p (.lst ((List.range n).map f)))):vd (Itr lo n) g bA te σb Q H:=by
 refine vd.range (fun i ys H'=>H'=H∧ys=(List.range i).map f) hz ⟨rfl,rfl⟩ (fun i ys H' hi ⟨_,e⟩=>?_) (fun i ys H' hi ⟨e1,e2⟩ N hN=>?_) (fun ys H' ⟨e1,e2⟩ p hp=>?_)
 ·rw [e,List.length_map,List.length_range];exact Nat.le_refl _
 ·subst e1;exact hs i (fun y H4=>N (ys ++ [y]) H4) hi (hN _ _ ⟨rfl,by rw [e2,List.range_succ,List.map_append];rfl⟩)
 ·subst e1;rw [e2];exact hd p hp
theorem vd.list_mk {K:PySem.W.Frag} {a:Addr} {xs:List V} {g:TG} {te:TE} {σb:St} {Q:VK} {H:Hp} (f:V→HO) (hl:SqL K H a xs) (hz:xs.length ≤ sizeLine) (hn:∀ x,noT (f x)=true)
  (hs:∀ (i:Nat) (x:V) (H1:Hp) (N:V→Hp→Prop),xs[i]? = some x→Ob H H1→(NoT H→NoT H1)→(∀ q,H1 q=none→N (.ref q) (upd H1 q (f x)))→g x σb H1 fun σ2 H2=>Sub σb σ2∧te σ2 H2 N)
  (hd:∀ (qs:List Addr) (H1:Hp),Ob H H1→(NoT H→NoT H1)→qs.length=xs.length→(∀ (j:Nat) (q:Addr) (x:V),qs[j]? = some q→xs[j]? = some x→H1 q=some (f x)∧H q=none)→∀ p,H1 p=none→Q (.ref p) (upd H1 p (.lst (qs.map V.ref)))):vd (Itl K a) g bA te σb Q H:=by
 refine vd.list (fun i ys H'=>∃ qs:List Addr,ys=qs.map V.ref∧qs.length=i∧Ob H H'∧(NoT H→NoT H')∧∀ (j:Nat) (q:Addr) (x:V),qs[j]? = some q→xs[j]? = some x→H' q=some (f x)∧H q=none) hz
  ⟨[],rfl,rfl,Ob.refl H,id,fun j q x h _=>by simp at h⟩ ?_ ?_ ?_
 ·rintro i ys H' hi zzq;refine zP fun zzM zzh=>?_
  obtain ⟨qs,e,e2,sm,_,_⟩:=zzq;subst zzh;exact ⟨hl.same sm,by rw [e,List.length_map];omega⟩
 ·rintro i x ys H' hx ⟨qs,e1,e2,sm,nt,al⟩ N hN;refine hs i x H' (fun y H4=>N (ys ++ [y]) H4) hx sm nt fun q hq=>hN _ _ ⟨qs ++ [q],by rw [e1,List.map_append];rfl,by rw [List.length_append,e2];rfl,sm.updN (sm.free hq),fun n=>(nt n).upd (hn x),fun j q' x' h1 h2=>?_⟩
  by_cases hj:j < qs.length
  ·rw [List.getElem?_append_left hj] at h1;obtain ⟨z1,z2⟩:=al j q' x' h1 h2;exact ⟨by rw [wb (Bb z1 hq)];exact z1,z2⟩
  ·rw [List.getElem?_append_right (by omega)] at h1;have hj0:j - qs.length=0:=by
    cases hh:j - qs.length with
    | zero=>rfl
    | succ n=>rw [hh] at h1;simp at h1
   rw [hj0] at h1;have e3:q=q':=by simpa using h1
   subst e3;have e4:j=i:=by omega
   subst e4;rw [hx] at h2;cases h2;exact ⟨db,sm.free hq⟩
 ·rintro ys H' ⟨qs,e1,e2,sm,nt,al⟩ p hp;subst e1;exact hd qs H' sm nt e2 al p hp
theorem Ei.of {J:It} {n:Nat} {g:TG} {tb:TS} {D:Oh} {σ:St} {H:Hp} (Pv:Nat→St→Hp→Prop) (h0:Pv 0 σ H) (hgo:∀ i σ H,i < n→Pv i σ H→J.go i H) (hst:∀ σ H,Pv n σ H→J.stop n H)
  (hs:∀ i σ H x H',i < n→Pv i σ H→J.yld i H x H'→g x σ H' fun σ2 H2=>tb { D with nx:=Pv (i + 1),ct:=Pv (i + 1),bk:=D.nx } σ2 H2) (hd:∀ σ H,Pv n σ H→D.nx σ H):Ei J g tb D σ H:=by
 refine ⟨fun i m σ H=>m=n - i∧i ≤ n∧Pv i σ H,⟨n,by simp,Nat.zero_le _,h0⟩,?_⟩;rintro i m σ H ⟨rfl,hi,p⟩;by_cases hlt:i < n
 ·exact .inr ⟨hgo i σ H hlt p,Pv (i + 1),fun σ' H' p'=>⟨n - (i + 1),by omega,rfl,hlt,p'⟩,fun x H' y=>hs i σ H x H' hlt p y⟩
 ·have e:i=n:=by omega
  subst e;exact .inl ⟨hst σ H p,hd σ H p⟩
theorem vd.of {J:It} {n:Nat} {g:TG} {tc:TT} {te:TE} {σb:St} {Q:VK} {H:Hp} (Pv:Nat→List V→Hp→Prop) (hz:n ≤ sizeLine) (h0:Pv 0 [] H) (hgo:∀ i ys H,i < n→Pv i ys H→J.go i H) (hst:∀ ys H,Pv n ys H→J.stop n H) (hl:∀ i ys H,i < n→Pv i ys H→ys.length ≤ i)
  (hs:∀ i ys H x H',i < n→Pv i ys H→J.yld i H x H'→Yg Pv g tc te σb i x ys H') (hd:∀ ys H,Pv n ys H→∀ p,H p=none→Q (.ref p) (upd H p (.lst ys))):vd J g tc te σb Q H:=by
 refine ⟨fun i m ys H=>m=n - i∧i ≤ n∧Pv i ys H,⟨n,by simp,Nat.zero_le _,h0⟩,?_⟩;rintro i m ys H ⟨rfl,hi,p⟩;by_cases hlt:i < n
 ·have hyl:=hl i ys H hlt p;refine .inr ⟨hgo i ys H hlt p,by omega,fun x H' y=>?_⟩;exact hs i ys H x H' hlt p y (fun ys' H'=>∃ m',m' < n - i∧m'=n - (i + 1)∧i + 1 ≤ n∧Pv (i + 1) ys' H') fun ys' H' r=>⟨n - (i + 1),by omega,rfl,hlt,r⟩
 ·have e:i=n:=by omega
  subst e;exact .inl ⟨hst ys H p,hd ys H p⟩
section
variable {K:PySem.W.Frag} {a b:Addr} {xs ys:List V} {g:TG} {tb:TS} {D:Oh} {σ σb:St} {H:Hp} {tc:TT} {te:TE} {Q:VK}
theorem Ei.enum (Pv:Nat→St→Hp→Prop) (h0:Pv 0 σ H) (hl:∀ i σ H,i ≤ xs.length→Pv i σ H→SqL K H a xs)
  (hs:∀ i x σ H p,xs[i]? = some x→Pv i σ H→H p=none→g (.ref p) σ (upd H p (.tup [.int i,x])) fun σ2 H2=>tb { D with nx:=Pv (i + 1),ct:=Pv (i + 1),bk:=D.nx } σ2 H2) (hd:∀ σ H,Pv xs.length σ H→D.nx σ H):Ei (Ite K a) g tb D σ H:=by
 refine Ei.of (n:=xs.length) Pv h0 (fun i σ H hi p=>⟨xs,xs[i],hl i σ H (Nat.le_of_lt hi) p,by simp [hi]⟩) (fun σ H p=>⟨xs,hl _ σ H (Nat.le_refl _) p,Nat.le_refl _⟩) (fun i σ H v H' hi p y=>?_) hd;obtain ⟨q,x,hq,rfl,hx,rfl⟩:=y;exact hs i x σ H q (hx xs (hl i σ H (Nat.le_of_lt hi) p)) p hq
theorem Ei.zip (Pv:Nat→St→Hp→Prop) (h0:Pv 0 σ H) (hl:∀ i σ H,i ≤ xs.length→Pv i σ H→SqL K H a xs∧SqL K H b ys) (n:Nat) (hn:n=min xs.length ys.length)
  (hs:∀ i x y σ H p,xs[i]? = some x→ys[i]? = some y→Pv i σ H→H p=none→g (.ref p) σ (upd H p (.tup [x,y])) fun σ2 H2=>tb { D with nx:=Pv (i + 1),ct:=Pv (i + 1),bk:=D.nx } σ2 H2) (hd:∀ σ H,Pv n σ H→D.nx σ H):Ei (Itz K a b) g tb D σ H:=by
 subst hn;refine Ei.of (n:=min xs.length ys.length) Pv h0 (fun i σ H hi p=>?_) (fun σ H p=>?_) (fun i σ H v H' hi p y=>?_) hd
 ·obtain ⟨z1,z2⟩:=hl i σ H (by omega) p;exact ⟨xs,ys,xs[i],ys[i],z1,z2,by rw [List.getElem?_eq_getElem (by omega)],by rw [List.getElem?_eq_getElem (by omega)]⟩
 ·obtain ⟨z1,z2⟩:=hl _ σ H (by omega) p;exact ⟨xs,ys,z1,z2,by omega⟩
 ·obtain ⟨q,x,y,hq,rfl,hx,hy,rfl⟩:=y;obtain ⟨z1,z2⟩:=hl i σ H (by omega) p;exact hs i x y σ H q (hx xs z1) (hy ys z2) p hq
theorem vd.enum (Pv:Nat→List V→Hp→Prop) (hz:xs.length ≤ sizeLine) (h0:Pv 0 [] H) (hl:∀ i ys H,i ≤ xs.length→Pv i ys H→SqL K H a xs∧ys.length ≤ i)
  (hs:∀ i x ys H p,xs[i]? = some x→Pv i ys H→H p=none→Yg Pv g tc te σb i (.ref p) ys (upd H p (.tup [.int i,x]))) (hd:∀ ys H,Pv xs.length ys H→∀ p,H p=none→Q (.ref p) (upd H p (.lst ys))):vd (Ite K a) g tc te σb Q H:=by
 refine vd.of (n:=xs.length) Pv hz h0 (fun i ys H hi p=>⟨xs,xs[i],(hl i ys H (Nat.le_of_lt hi) p).1,by simp [hi]⟩) (fun ys H p=>⟨xs,(hl _ ys H (Nat.le_refl _) p).1,Nat.le_refl _⟩) (fun i ys H hi p=>(hl i ys H (Nat.le_of_lt hi) p).2) (fun i zs H v H' hi p y=>?_) hd;obtain ⟨q,x,hq,rfl,hx,rfl⟩:=y;exact hs i x zs H q (hx xs (hl i zs H (Nat.le_of_lt hi) p).1) p hq
theorem fG {i j:Nat} {p:Addr} {x y:V} {R:St→Hp→Prop} (h:SqT K H p [x,y]) (q:R ((σ.set i (some x)).set j (some y)) H):EL K 2 (oA (Sq i) (oA (Sq j) PL)) (.ref p) σ H R:=
 ⟨p,_,rfl,h,rfl,x,_,rfl,y,_,rfl,rfl,q⟩
theorem Xf {i j:Nat} {p:Addr} {x y:V} {R:St→Hp→Prop} (q:R ((σ.set i (some x)).set j (some y)) (upd H p (.tup [x,y]))):EL K 2 (oA (Sq i) (oA (Sq j) PL)) (.ref p) σ (upd H p (.tup [x,y])) R:=
 fG (.inl (.inl db)) q
end
theorem Sub.name2 {r:St} {v w:Option V}:Sub (none :: none :: r) (v :: w :: r):=by
 refine ⟨rfl,fun i u h=>?_⟩
 match i with
 | 0=>cases h
 | 1=>cases h
 | i + 2=>exact h
theorem Sub.name3 {r:St} {v w z:Option V}:Sub (none :: none :: none :: r) (v :: w :: z :: r):=by
 refine ⟨rfl,fun i u h=>?_⟩
 match i with
 | 0=>cases h
 | 1=>cases h
 | 2=>cases h
 | i + 3=>exact h
theorem vd.list_zs {K:PySem.W.Frag} {a:Addr} {xs zs:List V} {g:TG} {te:TE} {σb:St} {Q:VK} {H:Hp} (hl:SqL K H a xs) (hz:xs.length ≤ sizeLine) (he:zs.length=xs.length)
  (hs:∀ (i:Nat) (x z:V) (N:V→Hp→Prop),xs[i]? = some x→zs[i]? = some z→N z H→g x σb H fun σ2 H2=>Sub σb σ2∧te σ2 H2 N) (hd:∀ p,H p=none→Q (.ref p) (upd H p (.lst zs))):vd (Itl K a) g bA te σb Q H:=by
 refine vd.list (fun i ys H'=>H'=H∧ys=zs.take i) hz ⟨rfl,rfl⟩ (fun i ys H' hi ⟨e0,e⟩=>?_) (fun i x ys H' hx ⟨e1,e2⟩ N hN=>?_) (fun ys H' ⟨e1,e2⟩ p hp=>?_)
 ·subst e0;exact ⟨hl,by rw [e,List.length_take];omega⟩
 ·subst e1;have hi:i < zs.length:=by rw [he];exact (List.getElem?_eq_some_iff.mp hx).1
  have hz':zs[i]? = some zs[i]:=List.getElem?_eq_getElem hi;exact hs i x zs[i] (fun y H4=>N (ys ++ [y]) H4) hx hz' (hN _ _ ⟨rfl,by rw [e2,List.take_add_one,hz'];rfl⟩)
 ·subst e1;rw [e2,← he,List.take_length];exact hd p hp
theorem vd.list_sel {K:PySem.W.Frag} {a:Addr} {xs:List V} {ss:List (Option V)} {g:TG} {tc:TT} {te:TE} {σb:St} {Q:VK} {H:Hp} (hl:SqL K H a xs) (hz:xs.length ≤ sizeLine) (he:ss.length=xs.length)
  (hs:∀ (i:Nat) (x:V) (o:Option V) (ys:List V) (N:List V→Hp→Prop),xs[i]? = some x→ss[i]? = some o→N (ys ++ o.toList) H→g x σb H fun σ2 H2=>Sub σb σ2∧tc σ2 H2 fun c H3=>if c=true then te σ2 H3 fun y H4=>N (ys ++ [y]) H4 else N ys H3)
  (hd:∀ p,H p=none→Q (.ref p) (upd H p (.lst (ss.flatMap Option.toList)))):vd (Itl K a) g tc te σb Q H:=by
 refine vd.list (fun i ys H'=>H'=H∧ys=(ss.take i).flatMap Option.toList∧ys.length ≤ i) hz ⟨rfl,rfl,Nat.le_refl _⟩ (fun i ys H' hi ⟨e0,e,e'⟩=>?_) (fun i x ys H' hx ⟨e1,e2,e3⟩ N hN=>?_) (fun ys H' ⟨e1,e2,_⟩ p hp=>?_)
 ·subst e0;exact ⟨hl,e'⟩
 ·subst e1;have hi:i < ss.length:=by rw [he];exact (List.getElem?_eq_some_iff.mp hx).1
  have hz':ss[i]? = some ss[i]:=List.getElem?_eq_getElem hi;refine hs i x ss[i] ys N hx hz' (hN _ _ ⟨rfl,by rw [e2,List.take_add_one,hz',List.flatMap_append];simp,?_⟩);rw [List.length_append];cases ss[i] <;> simp <;> omega
 ·subst e1;rw [e2,← he,List.take_length];exact hd p hp
theorem Sub.name {r:St} {v:Option V}:Sub (none :: r) (v :: r):=by
 refine ⟨rfl,fun i w h=>?_⟩;cases i with
 | zero=>cases h
 | succ i=>exact h
end L2
namespace L2
open PySem PySem.Spec PyProof.Rows
theorem yb {X:Cx} {i:Nat} {x:Str} {e:Expr} {te:TE} {pos pos':Pos} (hN:X.N.Nodup) (he:PE X e te) (hi:X.N[i]? = some x:=by rfl) (hx:Loc X.env.scope x:=by exact Or.inl rfl) (hs:swapsWith e (some (.Name x pos')) pos.line X.env=pure false:=by rfl) (hf:X.fn x=true∨X.env.scope.names.lookup x=some .local:=by first | exact .inl rfl | exact .inr rfl | assumption):PS X (.Assign [.Name x pos'] e pos) (rJ te (Sq i)):=FC hN hi hx he hs hf
theorem qb {X:Cx} {pos:Pos} {i:Nat} {x:Str} (hN:X.N.Nodup) (hi:X.N[i]? = some x:=by rfl) (hx:Loc X.env.scope x:=by exact Or.inl rfl) (hf:X.fn x=true∨X.env.scope.names.lookup x=some .local:=by first | exact .inl rfl | exact .inr rfl | assumption):PG X (.Name x pos) (Sq i):=BD hN hi hx hf
theorem uc {X:Cx} {a b:Expr} {ta tb:TE} {pos:Pos} {r:R2} (hr:IxR X r) (ha:PE X a ta) (hb:PE X b tb) (hs:GC b:=by exact fun _ _=>rfl):PE X (.Subscript a b pos) (tOp r ta tb):=gM hr ha hb hs
theorem ub {X:Cx} {k:Nat} {f:Addr} {fd:FuncData} {ps:List Str} {sp:Sp} {x:Str} {p pos:Pos} {e:Expr} {es:List Expr} {t:TA} (F:Eb X.prog X.w X.K X.mg X.base CX0 k f fd ps sp) (hr:ci k X.A) (hm:X.mg x=some (.ref f)) (hk:PySem.W.keepIn X.K (.ref f)=true) (hb:Lb X.K fd ps []) (ha:PA X (e :: es) t) (hg:Gl X x:=by rfl) (hdb:(x == ("__debug__" : Str))=false:=by decide) (he:starEach (e :: es) X.env=(false,eval e X.env) :: starEach es X.env:=by rfl) (hpl:(backTo pos (starEach es X.env)).any (·.1)=false:=by rfl):PE X (.Call (.Name x p) (e :: es) [] pos) (BF sp [] E0 t):=RH F hr hg hm hk hb .nil Rc ha hdb he hpl
end L2
local macro_rules | `(tactic| walk_at "RD")=>`(tactic| ((try dsimp only [L2.lD,L2.GM,L2.Cx.nox,L2.Cx.wish,L2.Cx.block,L2.Cx.tr,L2.Cx.hn,L2.EA,L2.cL,L2.LJ,L2.xE,L2.BG,L2.oC,L2.Nx,L2.QA,L2.Ox,L2.yG,L2.Sn,L2.Kb,L2.jy,L2.TB,L2.Hu,L2.Qk,L2.LA,L2.vy,L2.GA,L2.iB,L2.wC,L2.vD,L2.cy,L2.pH,L2.iH,L2.JK,L2.EH,L2.jL,L2.XG,L2.rH,L2.Gy,L2.TD,L2.JC,L2.ir,L2.LB,L2.ED,L2.Mx,L2.dE,L2.qE,L2.Hy,L2.xy,L2.Zx,L2.AH,L2.Pr,L2.Wy,L2.DH,L2.QB,L2.BE,L2.gE,L2.bz,L2.EB,L2.JG,L2.qH,L2.Tr,L2.rB,L2.Iy,L2.Ir,L2.yx,L2.Dv,L2.Yx,L2.uD,L2.Wu,L2.Jv,L2.Ty,L2.gB,L2.LG,L2.yH,L2.Vr,L2.su,L2.Jy,L2.Dp,L2.my,L2.vx,L2.CC,L2.dy,L2.Fx,L2.OD,L2.oE,L2.nC,L2.vB,L2.Ru,L2.jx,L2.lH,L2.Ey,L2.ly,L2.start,L2.eE,L2.CM,L2.ZL,L2.FM,L2.XL,L2.sM,L2.QL,L2.rM,L2.aM,L2.JM,L2.yM,L2.dBn,L2.dBs,L2.dJs,L2.dJn,Nat.reduceAdd,Nat.reduceSub,List.replicate]);(try simp only [L2.EA,L2.cL,L2.LJ,L2.xE,L2.BG,L2.oC,L2.Nx,L2.QA,L2.Ox,L2.yG,L2.Sn,L2.Kb,L2.jy,L2.TB,L2.Hu,L2.Qk,L2.LA,L2.vy,L2.GA,L2.iB,L2.wC,L2.vD,L2.cy,L2.pH,L2.iH,L2.JK,L2.EH,L2.jL,L2.XG,L2.rH,L2.Gy,L2.TD,L2.JC,L2.ir,L2.LB,L2.ED,L2.Mx,L2.dE,L2.qE,L2.Hy,L2.xy,L2.Zx,L2.AH,L2.Pr,L2.Wy,L2.DH,L2.QB,L2.BE,L2.gE,L2.bz,L2.EB,L2.JG,L2.qH,L2.Tr,L2.rB,L2.Iy,L2.Ir,L2.yx,L2.Dv,L2.Yx,L2.uD,L2.Wu,L2.Jv,L2.Ty,L2.gB,L2.LG,L2.yH,L2.Vr,L2.su,L2.Jy,L2.Dp,L2.my,L2.vx,L2.CC,L2.dy,L2.Fx,L2.OD,L2.oE,L2.nC,L2.vB,L2.Ru,L2.jx,L2.lH,L2.Ey,L2.ly,L2.wI,L2.YI,L2.kK,L2.eJ,L2.XI,L2.start,L2.eE,List.map_cons,List.map_nil,Option.bind_none,Option.bind_some,Option.join_some,Option.join_none,List.length_cons,List.length_nil,Nat.reduceAdd,Nat.reduceSub,Nat.zero_add,List.replicate,List.cons_append,List.nil_append,List.append_nil,List.set_cons_zero,List.set_cons_succ,List.getElem?_cons_zero,List.getElem?_cons_succ,Option.some.injEq,L2.V.int.injEq,L2.V.bl.injEq,L2.V.str.injEq,L2.V.ref.injEq,L2.V.ty.injEq,exists_eq_left',exists_eq_left,exists_and_left,List.cons.injEq,and_true,true_and,and_assoc,Int.zero_add,reduceCtorEq,false_and,exists_false,and_false,ite_true,ite_false,if_true,if_false,Bool.false_eq_true,L2.bK,L2.tyV,false_or,or_false,Bool.not_true,Bool.not_false,decide_true,decide_false])))
local macro_rules | `(tactic| walk_at "B")=>`(tactic| first | rfl | (dsimp only [L2.Cx.block];done) | (dsimp only [L2.Cx.block];exact rfl))
local macro_rules | `(tactic| walk_at "F")=>`(tactic| exact ⟨rfl,rfl,rfl,by decide +kernel,rfl,by decide +kernel,by decide +kernel⟩)
namespace My
open PySem L2
noncomputable abbrev q8:List Str:=["self","name"]
noncomputable abbrev q9:List Str:=["plan","name","turn"]
noncomputable abbrev q10:List Str:=["self","name","start","end","off","near","least"]
noncomputable abbrev q11:List Str:=["line","forths","backs"]
noncomputable abbrev q12:List Str:=["spans","name"]
noncomputable abbrev q13:List Str:=["crossing","one","other"]
noncomputable abbrev q14:List Str:=["crossing","size","spans"]
noncomputable abbrev q15:List Str:=["word","signs","most"]
noncomputable abbrev q16:List Str:=["self","good"]
noncomputable abbrev q17:List Str:=["self","kind","name","start","end","off","near","least"]
noncomputable abbrev q18:List Str:=["plan","name"]
noncomputable abbrev q19:List Str:=["both","crossing","shift"]
noncomputable abbrev q20:List Str:=["crossings","shifts","both"]
noncomputable abbrev q21:List Str:=["self","low","high"]
noncomputable abbrev q22:List Str:=["word","most_figures"]
noncomputable abbrev q23:List Str:=["reader","places","start"]
noncomputable abbrev q24:List Str:=["sort","name","start","end","off","near","least"]
noncomputable abbrev q25:List Str:=["places","way","second"]
noncomputable abbrev q26:List Str:=["size","spans","name"]
noncomputable abbrev q27:List Str:=["_law_script","_law_k","_law_many"]
noncomputable abbrev q28:List Str:=["self","row","told"]
noncomputable abbrev q29:List Str:=["self","choices"]
noncomputable abbrev q30:List Str:=["turns","marks","later"]
noncomputable abbrev q31:List Str:=["line","forths","backs","shifts"]
noncomputable abbrev q32:List Str:=["line","forths","shifts","turn"]
noncomputable abbrev q33:List Str:=["word","low","high"]
noncomputable abbrev q34:List Str:=["reader","ways"]
noncomputable abbrev q35:List Str:=["reader","places","ways"]
noncomputable abbrev q36:List Str:=["places","way","place"]
noncomputable abbrev q37:List Str:=["way","size","spans"]
noncomputable abbrev q38:List Str:=["crossing","spans"]
noncomputable abbrev q39:List Str:=["size","spans","place"]
noncomputable abbrev q40:List Str:=["crossing","one","other","since_one","since_other"]
noncomputable abbrev q41:List Str:=["crossing","size","rows"]
noncomputable abbrev q42:List Str:=["_law_script","_law_many","_law_is_great"]
noncomputable abbrev q43:List Str:=["_law_script","_law_many","_law_is_great","_law_size_here","_law_line","_law_free_turns","_law_k","_law_crossing","_law_long","_law_forths","_law_backs","_law_caught","_law_told","e","_law_shifts","_law_both"]
noncomputable abbrev q44:List Str:=["self","places","ways"]
noncomputable abbrev q45:List Str:=["self","crossing","size","spans"]
noncomputable abbrev q46:List Str:=["called","begin","turns","name"]
noncomputable abbrev q47:List Str:=["name","begin","turns"]
noncomputable abbrev q48:List Str:=["_law_k","_law_script"]
noncomputable abbrev q49:List Str:=["size","spans","place","name","begin","turns","others"]
noncomputable abbrev q51:List Str:=["at","span","place"]
noncomputable abbrev q52:List Str:=["later","many","begin","size"]
noncomputable def top (i:Nat):Stmt:=PySem.Challenge.pw_lampway_k73_too_many_shifts.main.body.getD i (.Pass ⟨0,0,0,0⟩)
noncomputable abbrev Px:Stmt:=top 12
theorem ZC:xb q9 q9 (pb Px):=(by walk_at "F")
noncomputable abbrev KH:Stmt:=top 13
theorem bJ:xb q9 q9 (pb KH):=(by walk_at "F")
noncomputable abbrev Ro:Stmt:=top 14
theorem yv:xb q9 q9 (pb Ro):=(by walk_at "F")
noncomputable abbrev tw:Stmt:=top 17
theorem oG:xb q18 q18 (pb tw):=(by walk_at "F")
noncomputable abbrev Oj:Stmt:=top 18
theorem Qb:xb ["line","forths","backs","found","forth_turns","back_turns","place","told","plan","forth","back"] q11 (pb Oj):=(by walk_at "F")
noncomputable abbrev Eo:Stmt:=top 19
theorem ur:xb ["turns","marks","later","size"] q30 (pb Eo):=(by walk_at "F")
noncomputable abbrev Tj:Stmt:=top 20
theorem Qc:xb ["both","crossing","shift","frees_forth","frees_back","forth_turns","back_turns","forth","back"] q19 (pb Tj):=(by walk_at "F")
noncomputable abbrev Lk:Stmt:=top 21
theorem yj:xb ["line","turns"] ["line"] (pb Lk):=(by walk_at "F")
noncomputable abbrev vn:Stmt:=top 22
theorem Te:xb ["line","forths","backs","shifts","both","crossing","shift"] q31 (pb vn):=(by walk_at "F")
noncomputable abbrev zE:Stmt:=top 23
theorem xF:xb ["told"] ["told"] (pb zE):=(by walk_at "F")
noncomputable abbrev Tk:Stmt:=top 24
theorem ud:xb ["crossings","shifts","both","crossing","best","shift","found"] q20 (pb Tk):=(by walk_at "F")
noncomputable abbrev Dx:Stmt:=top 25
theorem vh:xb ["line","forths","backs","size","tried","told","crossings"] q11 (pb Dx):=(by walk_at "F")
noncomputable abbrev uv:Stmt:=top 26
theorem Sd:xb ["line","forths","shifts","turn","passed","there","place","told","plan","forth","back"] q32 (pb uv):=(by walk_at "F")
noncomputable abbrev jw:Stmt:=top 32
theorem RE:xb ["text"] ["text"] (pb jw):=(by walk_at "F")
noncomputable abbrev bj:Stmt:=top 33
theorem Zt:xb q15 q15 (pb bj):=(by walk_at "F")
noncomputable abbrev Jp:Stmt:=top 34
theorem Ku:xb q22 q22 (pb Jp):=(by walk_at "F")
noncomputable abbrev Lv:Stmt:=top 35
theorem Cr:xb ["word","low","high","number"] q33 (pb Lv):=(by walk_at "F")
noncomputable abbrev Rv:Stmt:=top 36
theorem aA:xb ["word"] ["word"] (pb Rv):=(by walk_at "F")
noncomputable abbrev jp:Stmt:=top 39
theorem Ez:xb ["text"] ["text"] (pb jp):=(by walk_at "F")
noncomputable abbrev Oo:Stmt:=top 53
theorem cn:xb ["reader","places"] ["reader"] (pb Oo):=(by walk_at "F")
noncomputable abbrev Eg:Stmt:=top 54
theorem Ci:xb ["reader","ways","name"] q34 (pb Eg):=(by walk_at "F")
noncomputable abbrev Nr:Stmt:=top 55
theorem Tw:xb q23 q23 (pb Nr):=(by walk_at "F")
noncomputable abbrev ar:Stmt:=top 56
theorem Jw:xb q24 q24 (pb ar):=(by walk_at "F")
noncomputable abbrev gr:Stmt:=top 57
theorem ke:xb ["reader","places","ways","sort","name","start","end","off","near","least"] q35 (pb gr):=(by walk_at "F")
noncomputable abbrev Zi:Stmt:=top 58
theorem Ld:xb ["text","rows","places","ways","reader"] ["text"] (pb Zi):=(by walk_at "F")
noncomputable abbrev Ny:Stmt:=top 60
theorem bv:xb ["places","way","place","steps"] q36 (pb Ny):=(by walk_at "F")
noncomputable abbrev Pm:Stmt:=top 61
theorem Ms:xb q25 q25 (pb Pm):=(by walk_at "F")
noncomputable abbrev kH:Stmt:=top 62
theorem Ww:xb ["crossing","one","other","way","second"] q13 (pb kH):=(by walk_at "F")
noncomputable abbrev GL:Stmt:=top 63
theorem YC:xb ["crossing","one","other","way","second"] q13 (pb GL):=(by walk_at "F")
noncomputable abbrev fk:Stmt:=top 65
theorem Ad:xb ["marks","size","steps","untils","place"] ["marks"] (pb fk):=(by walk_at "F")
noncomputable abbrev ak:Stmt:=top 66
theorem Pp:xb ["marks"] ["marks"] (pb ak):=(by walk_at "F")
noncomputable abbrev km:Stmt:=top 69
theorem uw:xb q12 q12 (pb km):=(by walk_at "F")
noncomputable abbrev Ji:Stmt:=top 70
theorem Pe:xb ["size","spans","name","marks","begin","turns","step"] q26 (pb Ji):=(by walk_at "F")
noncomputable abbrev dD:Stmt:=top 71
theorem rk:xb ["way","size","spans","shown","begin","turns","step"] q37 (pb dD):=(by walk_at "F")
noncomputable abbrev Aj:Stmt:=top 72
theorem Ri:xb ["crossing","spans","name"] q38 (pb Aj):=(by walk_at "F")
noncomputable abbrev Zc:Stmt:=top 73
theorem wc:xb q49 q39 (pb Zc):=(by walk_at "F")
noncomputable abbrev Nj:Stmt:=top 74
theorem Cc:xb ["crossing","size","spans","place","span","name","begin","turns","way","needed"] q14 (pb Nj):=(by walk_at "F")
noncomputable abbrev Dh:Stmt:=top 75
theorem Xd:xb ["crossing","one","other","since_one","since_other","between","turn","steps"] q40 (pb Dh):=(by walk_at "F")
noncomputable abbrev Fj:Stmt:=top 76
theorem ae:xb ["crossing","size","spans","since","name","one","other"] q14 (pb Fj):=(by walk_at "F")
noncomputable abbrev Ek:Stmt:=top 77
theorem Qf:xb ["crossing","size","rows","spans","name","begin","turns"] q41 (pb Ek):=(by walk_at "F")
noncomputable abbrev qp:Stmt:=top 79
theorem Pi:xb ["_law_script","_law_k","_law_many","_law_cell","_law_seed"] q27 (pb qp):=(by walk_at "F")
noncomputable abbrev Tp:Stmt:=top 80
theorem dn:xb ["_law_script","_law_many","_law_is_great","_law_least"] q42 (pb Tp):=(by walk_at "F")
noncomputable abbrev rE:Stmt:=top 81
theorem kf:xb q43 ["_law_script"] (pb rE):=(by walk_at "F")
noncomputable abbrev oi:Stmt:=Tc (top 38) 0
theorem Mi:xb q28 q28 (pb oi):=(by walk_at "F")
noncomputable abbrev zh:Stmt:=Tc (top 38) 1
theorem Gk:xb ["self"] ["self"] (pb zh):=(by walk_at "F")
noncomputable abbrev fg:Stmt:=Tc (top 38) 2
theorem Ki:xb ["self"] ["self"] (pb fg):=(by walk_at "F")
noncomputable abbrev ui:Stmt:=Tc (top 38) 4
theorem Hm:xb q16 q16 (pb ui):=(by walk_at "F")
noncomputable abbrev Xg:Stmt:=Tc (top 38) 5
theorem xg:xb ["self","choices","found"] q29 (pb Xg):=(by walk_at "F")
noncomputable abbrev Hg:Stmt:=Tc (top 38) 6
theorem ig:xb ["self","low","high","found"] q21 (pb Hg):=(by walk_at "F")
noncomputable abbrev gh:Stmt:=Tc (top 38) 7
theorem zk:xb ["self"] ["self"] (pb gh):=(by walk_at "F")
noncomputable abbrev Mr:Stmt:=Tc (top 41) 0
theorem wo:xb q17 q17 (pb Mr):=(by walk_at "F")
noncomputable abbrev Wk:Stmt:=Tc (top 42) 0
theorem Xk:xb q10 q10 (pb Wk):=(by walk_at "F")
noncomputable abbrev Qj:Stmt:=Tc (top 42) 1
theorem Yp:xb ["self"] ["self"] (pb Qj):=(by walk_at "F")
noncomputable abbrev Ml:Stmt:=Tc (top 42) 2
theorem Bq:xb ["self"] ["self"] (pb Ml):=(by walk_at "F")
noncomputable abbrev Sj:Stmt:=Tc (top 43) 0
theorem xk:xb q10 q10 (pb Sj):=(by walk_at "F")
noncomputable abbrev Oi:Stmt:=Tc (top 43) 1
theorem Fn:xb ["self"] ["self"] (pb Oi):=(by walk_at "F")
noncomputable abbrev Jj:Stmt:=Tc (top 43) 2
theorem Bp:xb ["self"] ["self"] (pb Jj):=(by walk_at "F")
noncomputable abbrev zj:Stmt:=Tc (top 44) 0
theorem Dk:xb q10 q10 (pb zj):=(by walk_at "F")
noncomputable abbrev Wi:Stmt:=Tc (top 44) 1
theorem On:xb ["self"] ["self"] (pb Wi):=(by walk_at "F")
noncomputable abbrev Ij:Stmt:=Tc (top 44) 2
theorem Rp:xb ["self"] ["self"] (pb Ij):=(by walk_at "F")
noncomputable abbrev fj:Stmt:=Tc (top 52) 0
theorem ye:xb ["self","places","ways","number","way"] q44 (pb fj):=(by walk_at "F")
noncomputable abbrev Zf:Stmt:=Tc (top 52) 1
theorem Am:xb ["self"] ["self"] (pb Zf):=(by walk_at "F")
noncomputable abbrev Bh:Stmt:=Tc (top 52) 2
theorem Ol:xb q8 q8 (pb Bh):=(by walk_at "F")
noncomputable abbrev Gh:Stmt:=Tc (top 52) 3
theorem Zk:xb q8 q8 (pb Gh):=(by walk_at "F")
noncomputable abbrev bq:Stmt:=Tc (top 68) 0
theorem xi:xb ["self","crossing","size","spans","name"] q45 (pb bq):=(by walk_at "F")
set_option genInjectivity false in
set_option genInjectivity false in
structure Adr where
 {so Ex Xh vt Ce Sk Ud bf Zg Ft re Zn Jk ft Yf gi Vl Pl Bl Vh Ue kj pj lj df Vn Pg ky eG Ee Lf tf Sf Dy Jf ad Nf pe Cf Qh Fg Uh ZI Qd gc Mc Gc Ec fc Dc sf af Af ng Fe gf Of Ge Ze Mf ie Jc Bd Hb Ag Cb gl Nc lc kc Jb Wd Cp ko At Fs Jt Ys Ib Mt uo:Addr}
 {Rn Vx ei xt Be Pk Td Ye Ug Ds ve Yn Nl Yt Vf Sh zl Wl yl bi Xe sj rj gj Re qo Qg Uy rF De Kf uf Uf iy Pf kd Ef me Gf ai yg Zh jG Ie Ac zd Xc gd xc jd qg kg uh Th Df Jg lh Hf Bg qh ff Wc ue Nb Yh:FuncData}
 {Lu Ej Cu Hj Rm Vj Xp mr dl Um Up:Value}
structure Txt (w:World) (K:PySem.W.Frag) (mg:Str→Option Value) (t:Adr):Prop where
 DF:mg "colour"=some (.ref t.so)
 Ut:Fun K "colour" "colour" Px t.so t.Rn
 UJ:mg "free"=some (.ref t.Ex)
 DA:Fun K "free" "free" KH t.Ex t.Vx
 Rw:mg "next_free"=some (.ref t.Xh)
 wk:Fun K "next_free" "next_free" Ro t.Xh t.ei
 yD:mg "frees"=some (.ref t.vt)
 As:Fun K "frees" "frees" tw t.vt t.xt
 Lj:mg "crossings_of"=some (.ref t.Ce)
 Bf:Fun K "crossings_of" "crossings_of" Oj t.Ce t.Be
 Fu:mg "passing"=some (.ref t.Sk)
 ol:Fun K "passing" "passing" Eo t.Sk t.Pk
 oh:mg "passing_both"=some (.ref t.Ud)
 Ae:Fun K "passing_both" "passing_both" Tj t.Ud t.Td
 Ik:mg "whole_round"=some (.ref t.bf)
 jg:Fun K "whole_round" "whole_round" Lk t.bf t.Ye
 fu:mg "green_ways"=some (.ref t.Zg)
 Qi:Fun K "green_ways" "green_ways" vn t.Zg t.Ug
 bC:mg "worth"=some (.ref t.Ft)
 Nt:Fun K "worth" "worth" zE t.Ft t.Ds
 Rl:mg "widest_from"=some (.ref t.re)
 We:Fun K "widest_from" "widest_from" Tk t.re t.ve
 yF:mg "widest"=some (.ref t.Zn)
 Bt:Fun K "widest" "widest" Dx t.Zn t.Yn
 EC:mg "through"=some (.ref t.Jk)
 Ho:Fun K "through" "through" uv t.Jk t.Nl
 xI:mg "words"=some (.ref t.ft)
 lw:Fun K "words" "words" jw t.ft t.Yt
 Ym:mg "is_made_of"=some (.ref t.Yf)
 ah:Fun K "is_made_of" "is_made_of" bj t.Yf t.Vf
 Nw:mg "is_number"=some (.ref t.gi)
 uk:Fun K "is_number" "is_number" Jp t.gi t.Sh
 UD:mg "figured"=some (.ref t.Vl)
 Wo:Fun K "figured" "figured" Lv t.Vl t.zl
 dB:mg "is_name"=some (.ref t.Pl)
 Ep:Fun K "is_name" "is_name" Rv t.Pl t.Wl
 tD:mg "readers"=some (.ref t.Bl)
 Co:Fun K "readers" "readers" jp t.Bl t.yl
 Vw:mg "read_ring"=some (.ref t.Vh)
 yk:Fun K "read_ring" "read_ring" Oo t.Vh t.bi
 gp:mg "read_new_name"=some (.ref t.Ue)
 Gg:Fun K "read_new_name" "read_new_name" Eg t.Ue t.Xe
 Gz:mg "read_end"=some (.ref t.kj)
 Nm:Fun K "read_end" "read_end" Nr t.kj t.sj
 Az:mg "made_way"=some (.ref t.pj)
 gm:Fun K "made_way" "made_way" ar t.pj t.rj
 wz:mg "read_way"=some (.ref t.lj)
 Cm:Fun K "read_way" "read_way" gr t.lj t.gj
 ap:mg "read_crossing"=some (.ref t.df)
 zg:Fun K "read_crossing" "read_crossing" Zi t.df t.Re
 gy:mg "in_bow"=some (.ref t.Vn)
 oo:Fun K "in_bow" "in_bow" Ny t.Vn t.qo
 Cv:mg "bows_cross"=some (.ref t.Pg)
 cj:Fun K "bows_cross" "bows_cross" Pm t.Pg t.Qg
 UK:mg "meet"=some (.ref t.ky)
 OA:Fun K "meet" "meet" kH t.ky t.Uy
 BM:mg "gap"=some (.ref t.eG)
 HI:Fun K "gap" "gap" GL t.eG t.rF
 ck:mg "until_marked"=some (.ref t.Ee)
 xf:Fun K "until_marked" "until_marked" fk t.Ee t.De
 Tq:mg "since_marked"=some (.ref t.Lf)
 ph:Fun K "since_marked" "since_marked" ak t.Lf t.Kf
 qj:mg "spans_of"=some (.ref t.tf)
 rg:Fun K "spans_of" "spans_of" km t.tf t.uf
 gn:mg "free_marks"=some (.ref t.Sf)
 Vg:Fun K "free_marks" "free_marks" Ji t.Sf t.Uf
 oK:mg "lamp"=some (.ref t.Dy)
 PD:Fun K "lamp" "lamp" dD t.Dy t.iy
 vq:mg "refuse_never"=some (.ref t.Jf)
 nh:Fun K "refuse_never" "refuse_never" Aj t.Jf t.Pf
 aj:mg "turns_to_next_begin"=some (.ref t.ad)
 Yd:Fun K "turns_to_next_begin" "turns_to_next_begin" Zc t.ad t.kd
 iq:mg "refuse_short"=some (.ref t.Nf)
 rh:Fun K "refuse_short" "refuse_short" Nj t.Nf t.Ef
 jm:mg "refuse_clash_of"=some (.ref t.pe)
 pf:Fun K "refuse_clash_of" "refuse_clash_of" Dh t.pe t.me
 Iq:mg "refuse_clash"=some (.ref t.Cf)
 mh:Fun K "refuse_clash" "refuse_clash" Fj t.Cf t.Gf
 Cw:mg "made_plan"=some (.ref t.Qh)
 Bk:Fun K "made_plan" "made_plan" Ek t.Qh t.ai
 Ic:mg "_law_draw"=some (.ref t.Fg)
 rc:Fun K "_law_draw" "_law_draw" qp t.Fg t.yg
 vw:mg "_law_size"=some (.ref t.Uh)
 Ck:Fun K "_law_size" "_law_size" Tp t.Uh t.Zh
 vM:mg "law"=some (.ref t.ZI)
 DM:Fun K "law" "law" rE t.ZI t.jG
 mw:mg "RowReader"=some (.ref t.Cb)
 CA:PySem.W.findIn K (.ref t.Cb) "__init__"=some (some (.ref t.Qd))
 ki:Fun K "__init__" "RowReader.__init__" oi t.Qd t.Ie
 uA:PySem.W.findIn K (.ref t.Cb) "ahead"=some (some (.ref t.gc))
 Jh:Fun K "ahead" "RowReader.ahead" zh t.gc t.Ac
 Uv:PySem.W.findIn K (.ref t.Cb) "has_more"=some (some (.ref t.Mc))
 eg:Fun K "has_more" "RowReader.has_more" fg t.Mc t.zd
 zA:PySem.W.findIn K (.ref t.Cb) "take"=some (some (.ref t.Gc))
 Ai:Fun K "take" "RowReader.take" ui t.Gc t.Xc
 wy:PySem.W.findIn K (.ref t.Cb) "one_of"=some (some (.ref t.Ec))
 Ng:Fun K "one_of" "RowReader.one_of" Xg t.Ec t.gd
 Gw:PySem.W.findIn K (.ref t.Cb) "figures"=some (some (.ref t.fc))
 Kg:Fun K "figures" "RowReader.figures" Hg t.fc t.xc
 jz:PySem.W.findIn K (.ref t.Cb) "finish"=some (some (.ref t.Dc))
 Rg:Fun K "finish" "RowReader.finish" gh t.Dc t.jd
 FI:mg "Way"=some (.ref t.gl)
 nJ:PySem.W.findIn K (.ref t.gl) "__init__"=some (some (.ref t.sf))
 yr:Fun K "__init__" "Way.__init__" Mr t.sf t.qg
 fF:mg "CarWay"=some (.ref t.Nc)
 iF:PySem.W.findIn K (.ref t.Nc) "__init__"=some (some (.ref t.af))
 Ll:Fun K "__init__" "CarWay.__init__" Wk t.af t.kg
 OE:PySem.W.findIn K (.ref t.Nc) "ready"=some (some (.ref t.Af))
 Bj:Fun K "ready" "CarWay.ready" Qj t.Af t.uh
 ZF:PySem.W.findIn K (.ref t.Nc) "fade"=some (some (.ref t.ng))
 Yk:Fun K "fade" "CarWay.fade" Ml t.ng t.Th
 cD:mg "FootWay"=some (.ref t.lc)
 HE:PySem.W.findIn K (.ref t.lc) "__init__"=some (some (.ref t.Fe))
 Gj:Fun K "__init__" "FootWay.__init__" Sj t.Fe t.Df
 OB:PySem.W.findIn K (.ref t.lc) "ready"=some (some (.ref t.gf))
 dj:Fun K "ready" "FootWay.ready" Oi t.gf t.Jg
 IE:PySem.W.findIn K (.ref t.lc) "fade"=some (some (.ref t.Of))
 Wj:Fun K "fade" "FootWay.fade" Jj t.Of t.lh
 AD:mg "TramWay"=some (.ref t.kc)
 FE:PySem.W.findIn K (.ref t.kc) "__init__"=some (some (.ref t.Ge))
 Cj:Fun K "__init__" "TramWay.__init__" zj t.Ge t.Hf
 kC:PySem.W.findIn K (.ref t.kc) "ready"=some (some (.ref t.Ze))
 Ui:Fun K "ready" "TramWay.ready" Wi t.Ze t.Bg
 NE:PySem.W.findIn K (.ref t.kc) "fade"=some (some (.ref t.Mf))
 Xj:Fun K "fade" "TramWay.fade" Ij t.Mf t.qh
 Wz:mg "Crossing"=some (.ref t.Jb)
 xC:PySem.W.findIn K (.ref t.Jb) "__init__"=some (some (.ref t.ie))
 Li:Fun K "__init__" "Crossing.__init__" fj t.ie t.ff
 BA:PySem.W.findIn K (.ref t.Jb) "names"=some (some (.ref t.Jc))
 Fi:Fun K "names" "Crossing.names" Zf t.Jc t.Wc
 Mz:PySem.W.findIn K (.ref t.Jb) "number"=some (some (.ref t.Bd))
 Lh:Fun K "number" "Crossing.number" Bh t.Bd t.ue
 Rz:PySem.W.findIn K (.ref t.Jb) "called"=some (some (.ref t.Hb))
 Fh:Fun K "called" "Crossing.called" Gh t.Hb t.Nb
 yJ:mg "Plan"=some (.ref t.Wd)
 tI:PySem.W.findIn K (.ref t.Wd) "__init__"=some (some (.ref t.Ag))
 Op:Fun K "__init__" "Plan.__init__" bq t.Ag t.Yh
 Ab:Cls K t.Cb
 Xw:Mk K t.Cb t.Qd
 oe:Hs K t.Cb "ahead" t.gc
 wj:Hs K t.Cb "has_more" t.Mc
 ag:Hs K t.Cb "take" t.Gc
 Sg:Hs K t.Cb "one_of" t.Ec
 Bc:Hs K t.Cb "figures" t.fc
 bh:Hs K t.Cb "finish" t.Dc
 xn:Mb K t.Cb "row"
 Hh:Mb K t.Cb "told"
 cf:Mb K t.Cb "place"
 qN:Cls K t.gl
 UH:Mb K t.gl "kind"
 BI:Mb K t.gl "name"
 zG:Mb K t.gl "start"
 oJ:Mb K t.gl "end"
 pJ:Mb K t.gl "off"
 NH:Mb K t.gl "near"
 FH:Mb K t.gl "least"
 Do:Cls K t.Nc
 JF:Mk K t.Nc t.af
 oq:Hs K t.Nc "ready" t.Af
 Cs:Hs K t.Nc "fade" t.ng
 Fq:Mb K t.Nc "kind"
 Lq:Mb K t.Nc "name"
 Bo:Mb K t.Nc "start"
 Tt:Mb K t.Nc "end"
 Xt:Mb K t.Nc "off"
 Oq:Mb K t.Nc "near"
 up:Mb K t.Nc "least"
 dm:Cls K t.lc
 xB:Mk K t.lc t.Fe
 Mo:Hs K t.lc "ready" t.gf
 uq:Hs K t.lc "fade" t.Of
 Fp:Mb K t.lc "kind"
 ip:Mb K t.lc "name"
 En:Mb K t.lc "start"
 Kq:Mb K t.lc "end"
 Xq:Mb K t.lc "off"
 vo:Mb K t.lc "near"
 zn:Mb K t.lc "least"
 Lm:Cls K t.kc
 RB:Mk K t.kc t.Ge
 aq:Hs K t.kc "ready" t.Ze
 Wq:Hs K t.kc "fade" t.Mf
 Jo:Mb K t.kc "kind"
 Gp:Mb K t.kc "name"
 Nn:Mb K t.kc "start"
 pq:Mb K t.kc "end"
 Qq:Mb K t.kc "off"
 Yo:Mb K t.kc "near"
 Hn:Mb K t.kc "least"
 Fb:Cls K t.Jb
 eA:Mk K t.Jb t.ie
 Kd:Hs K t.Jb "names" t.Jc
 rm:Hs K t.Jb "number" t.Bd
 Sb:Hs K t.Jb "called" t.Hb
 Wg:Mb K t.Jb "places"
 zi:Mb K t.Jb "ways"
 Cg:Mb K t.Jb "numbers"
 Ph:Cls K t.Wd
 xJ:Mk K t.Wd t.Ag
 ji:Mb K t.Wd "crossing"
 Vm:Mb K t.Wd "size"
 Ot:Mb K t.Wd "spans"
 Tl:Mb K t.Wd "lamps"
 Zj:Mb K t.Wd "untils"
 Pw:mg "LampError"=some (.ref t.Cp)
 lG:mg "NoText"=some (.ref t.ko)
 jI:mg "NoWay"=some (.ref t.At)
 kI:mg "Never"=some (.ref t.Fs)
 UI:mg "Short"=some (.ref t.Jt)
 vI:mg "Clash"=some (.ref t.Ys)
 lu:mg "TooMany"=some (.ref t.Ib)
 Dm:XB K t.Ib
 Yl:IB K t.Ib
 Em:PySem.W.excIn K t.Ib L2.bmV "ValueError.__new__"=true
 am:PySem.W.keepIn K (.ref t.Ib)=true
 Uk:PySem.W.kitOne K (.ref t.Ib) (.ref t.Ib)=some true
 Xi:PySem.W.kitOne K (.ref t.Ib) (.type "ValueError")=some true
 Cn:PySem.W.kitOne K (.ref t.Ib) (.ref t.Mt)=some false
 Fm:PySem.W.kitOne K (.ref t.Ib) (.ref t.uo)=some false
 tm:PySem.W.kitOne K (.ref t.Ib) (.ref t.ko)=some false
 An:PySem.W.kitOne K (.ref t.Ib) (.ref t.At)=some false
 Jn:PySem.W.kitOne K (.ref t.Ib) (.ref t.Fs)=some false
 Bn:PySem.W.kitOne K (.ref t.Ib) (.ref t.Jt)=some false
 Ln:PySem.W.kitOne K (.ref t.Ib) (.ref t.Ys)=some false
 tj:PySem.W.exmOne K (.ref t.Ib) (.ref t.Cp)=some true
 Wx:PySem.W.exmOne K (.ref t.Ib) (.ref t.Ib)=some true
 uI:mg "NoRow"=some (.ref t.Mt)
 bF:mg "NoName"=some (.ref t.uo)
 nF:t.gl ≠ t.Nc
 ME:t.gl ≠ t.lc
 GE:t.gl ≠ t.kc
 xh:t.Nc ≠ t.lc
 Kh:t.Nc ≠ t.kc
 jh:t.lc ≠ t.kc
 mm:RM K t.gl "__init__" t.sf
 wB:mg "FIGURES"=some t.Lu
 GD:wd (.str (Str.ofString "0123456789")) t.Lu
 Mq:mg "LEAST_PLACES"=some t.Ej
 gq:wd (.int 2) t.Ej
 RD:mg "LETTERS"=some t.Cu
 MC:wd (.str (Str.ofString "abcdefghijklmnopqrstuvwxyz")) t.Cu
 rq:mg "MOST_FIGURES"=some t.Hj
 Gq:wd (.int 3) t.Hj
 nv:mg "MOST_LEAST"=some t.Rm
 Fv:wd (.int 60) t.Rm
 tq:mg "MOST_LETTERS"=some t.Vj
 Nq:wd (.int 8) t.Vj
 Bw:mg "MOST_NEAR"=some t.Xp
 Ow:wd (.int 30) t.Xp
 Fz:mg "MOST_OFF"=some t.mr
 rA:wd (.int 30) t.mr
 Ts:mg "MOST_PLACES"=some t.dl
 Es:wd (.int 99) t.dl
 wu:mg "MOST_TRIED"=some t.Um
 Uu:wd (.int 2000) t.Um
 nw:mg "MOST_WAYS"=some t.Up
 Iw:wd (.int 12) t.Up
 Pu:mg "ValueError"=none
 VL:mg "all"=none
 Ke:mg "enumerate"=none
 HM:mg "int"=none
 fh:mg "isinstance"=none
 di:mg "len"=none
 vi:mg "list"=none
 pK:mg "max"=none
 QF:mg "min"=none
 Ve:mg "range"=none
 xm:mg "reversed"=none
 nM:mg "str"=none
 bM:mg "zip"=none
 fL:∀ (s:Shared) (u:Value),BindsTo s t.jG ⟨[u],[]⟩ [("_law_script",u)]
section
variable {w:World} {K:PySem.W.Frag} {mg:Str→Option Value} {t:Adr} (T:Txt w K mg t)
include T
theorem Txt.FF:Lb K t.Rn q9 []:=T.Ut.binds fun _ _ _ _ _ _=>us3 fun _ _ _=>rfl
theorem Txt.lK:Lb K t.Vx q9 []:=T.DA.binds fun _ _ _ _ _ _=>us3 fun _ _ _=>rfl
theorem Txt.ow:Lb K t.ei q9 []:=T.wk.binds fun _ _ _ _ _ _=>us3 fun _ _ _=>rfl
theorem Txt.SC:Lb K t.xt q18 []:=T.As.binds fun _ _ _ _ _ _=>us2 fun _ _=>rfl
theorem Txt.Yj:Lb K t.Be q11 []:=T.Bf.binds fun _ _ _ _ _ _=>us3 fun _ _ _=>rfl
theorem Txt.Ju:Lb K t.Pk q30 []:=T.ol.binds fun _ _ _ _ _ _=>us3 fun _ _ _=>rfl
theorem Txt.kh:Lb K t.Td q19 []:=T.Ae.binds fun _ _ _ _ _ _=>us3 fun _ _ _=>rfl
theorem Txt.Vk:Lb K t.Ye ["line"] []:=T.jg.binds fun _ _ _ _ _ _=>us1 fun _=>rfl
theorem Txt.xu:Lb K t.Ug q31 []:=T.Qi.binds fun _ _ _ _ _ _=>us4 fun _ _ _ _=>rfl
theorem Txt.pE:Lb K t.Ds ["told"] []:=T.Nt.binds fun _ _ _ _ _ _=>us1 fun _=>rfl
theorem Txt.il:Lb K t.ve q20 []:=T.We.binds fun _ _ _ _ _ _=>us3 fun _ _ _=>rfl
theorem Txt.qG:Lb K t.Yn q11 []:=T.Bt.binds fun _ _ _ _ _ _=>us3 fun _ _ _=>rfl
theorem Txt.fD:Lb K t.Nl q32 []:=T.Ho.binds fun _ _ _ _ _ _=>us4 fun _ _ _ _=>rfl
theorem Txt.pI:Lb K t.Yt ["text"] []:=T.lw.binds fun _ _ _ _ _ _=>us1 fun _=>rfl
theorem Txt.Sm:Lb K t.Vf q15 []:=T.ah.binds fun _ _ _ _ _ _=>us3 fun _ _ _=>rfl
theorem Txt.Zw:Lb K t.Sh q22 []:=T.uk.binds fun _ _ _ _ _ _=>us2 fun _ _=>rfl
theorem Txt.qC:Lb K t.zl q33 []:=T.Wo.binds fun _ _ _ _ _ _=>us3 fun _ _ _=>rfl
theorem Txt.GB:Lb K t.Wl ["word"] []:=T.Ep.binds fun _ _ _ _ _ _=>us1 fun _=>rfl
theorem Txt.DE:Lb K t.yl ["text"] []:=T.Co.binds fun _ _ _ _ _ _=>us1 fun _=>rfl
theorem Txt.Lw:Lb K t.bi ["reader"] []:=T.yk.binds fun _ _ _ _ _ _=>us1 fun _=>rfl
theorem Txt.Go:Lb K t.Xe q34 []:=T.Gg.binds fun _ _ _ _ _ _=>us2 fun _ _=>rfl
theorem Txt.Kz:Lb K t.sj q23 []:=T.Nm.binds fun _ _ _ _ _ _=>us3 fun _ _ _=>rfl
theorem Txt.Bz:Lb K t.rj q24 []:=T.gm.binds fun _ _ _ _ _ _=>us7 fun _ _ _ _ _ _ _=>rfl
theorem Txt.lA:Lb K t.gj q35 []:=T.Cm.binds fun _ _ _ _ _ _=>us3 fun _ _ _=>rfl
theorem Txt.Zo:Lb K t.Re ["text"] []:=T.zg.binds fun _ _ _ _ _ _=>us1 fun _=>rfl
theorem Txt.qy:Lb K t.qo q36 []:=T.oo.binds fun _ _ _ _ _ _=>us3 fun _ _ _=>rfl
theorem Txt.Eu:Lb K t.Qg q25 []:=T.cj.binds fun _ _ _ _ _ _=>us3 fun _ _ _=>rfl
theorem Txt.aL:Lb K t.Uy q13 []:=T.OA.binds fun _ _ _ _ _ _=>us3 fun _ _ _=>rfl
theorem Txt.RL:Lb K t.rF q13 []:=T.HI.binds fun _ _ _ _ _ _=>us3 fun _ _ _=>rfl
theorem Txt.Kj:Lb K t.De ["marks"] []:=T.xf.binds fun _ _ _ _ _ _=>us1 fun _=>rfl
theorem Txt.kq:Lb K t.Kf ["marks"] []:=T.ph.binds fun _ _ _ _ _ _=>us1 fun _=>rfl
theorem Txt.nj:Lb K t.uf q12 []:=T.rg.binds fun _ _ _ _ _ _=>us2 fun _ _=>rfl
theorem Txt.Qm:Lb K t.Uf q26 []:=T.Vg.binds fun _ _ _ _ _ _=>us3 fun _ _ _=>rfl
theorem Txt.wK:Lb K t.iy q37 []:=T.PD.binds fun _ _ _ _ _ _=>us3 fun _ _ _=>rfl
theorem Txt.Hq:Lb K t.Pf q38 []:=T.nh.binds fun _ _ _ _ _ _=>us2 fun _ _=>rfl
theorem Txt.Vi:Lb K t.kd q39 []:=T.Yd.binds fun _ _ _ _ _ _=>us3 fun _ _ _=>rfl
theorem Txt.yq:Lb K t.Ef q14 []:=T.rh.binds fun _ _ _ _ _ _=>us3 fun _ _ _=>rfl
theorem Txt.ym:Lb K t.me q40 []:=T.pf.binds fun _ _ _ _ _ _=>us5 fun _ _ _ _ _=>rfl
theorem Txt.jq:Lb K t.Gf q14 []:=T.mh.binds fun _ _ _ _ _ _=>us3 fun _ _ _=>rfl
theorem Txt.Vv:Lb K t.ai q41 []:=T.Bk.binds fun _ _ _ _ _ _=>us3 fun _ _ _=>rfl
theorem Txt.Hc:Lb K t.yg q27 []:=T.rc.binds fun _ _ _ _ _ _=>us3 fun _ _ _=>rfl
theorem Txt.Mw:Lb K t.Zh q42 []:=T.Ck.binds fun _ _ _ _ _ _=>us3 fun _ _ _=>rfl
theorem Txt.yn:Lb K t.Ie q28 []:=T.ki.binds fun _ _ _ _ _ _=>us3 fun _ _ _=>rfl
theorem Txt.qe:Lb K t.Ac ["self"] []:=T.Jh.binds fun _ _ _ _ _ _=>us1 fun _=>rfl
theorem Txt.xj:Lb K t.zd ["self"] []:=T.eg.binds fun _ _ _ _ _ _=>us1 fun _=>rfl
theorem Txt.bg:Lb K t.Xc q16 []:=T.Ai.binds fun _ _ _ _ _ _=>us2 fun _ _=>rfl
theorem Txt.dh:Lb K t.gd q29 []:=T.Ng.binds fun _ _ _ _ _ _=>us2 fun _ _=>rfl
theorem Txt.yc:Lb K t.xc q21 []:=T.Kg.binds fun _ _ _ _ _ _=>us3 fun _ _ _=>rfl
theorem Txt.Og:Lb K t.jd ["self"] []:=T.Rg.binds fun _ _ _ _ _ _=>us1 fun _=>rfl
theorem Txt.Jm:Lb K t.qg q17 []:=T.yr.binds fun _ _ _ _ _ _=>us8 fun _ _ _ _ _ _ _ _=>rfl
theorem Txt.Ht:Lb K t.kg q10 []:=T.Ll.binds fun _ _ _ _ _ _=>us7 fun _ _ _ _ _ _ _=>rfl
theorem Txt.Uq:Lb K t.uh ["self"] []:=T.Bj.binds fun _ _ _ _ _ _=>us1 fun _=>rfl
theorem Txt.Vs:Lb K t.Th ["self"] []:=T.Yk.binds fun _ _ _ _ _ _=>us1 fun _=>rfl
theorem Txt.Jq:Lb K t.Df q10 []:=T.Gj.binds fun _ _ _ _ _ _=>us7 fun _ _ _ _ _ _ _=>rfl
theorem Txt.Ao:Lb K t.Jg ["self"] []:=T.dj.binds fun _ _ _ _ _ _=>us1 fun _=>rfl
theorem Txt.Vq:Lb K t.lh ["self"] []:=T.Wj.binds fun _ _ _ _ _ _=>us1 fun _=>rfl
theorem Txt.Yq:Lb K t.Hf q10 []:=T.Cj.binds fun _ _ _ _ _ _=>us7 fun _ _ _ _ _ _ _=>rfl
theorem Txt.Vp:Lb K t.Bg ["self"] []:=T.Ui.binds fun _ _ _ _ _ _=>us1 fun _=>rfl
theorem Txt.cq:Lb K t.qh ["self"] []:=T.Xj.binds fun _ _ _ _ _ _=>us1 fun _=>rfl
theorem Txt.Fo:Lb K t.ff q44 []:=T.Li.binds fun _ _ _ _ _ _=>us3 fun _ _ _=>rfl
theorem Txt.Od:Lb K t.Wc ["self"] []:=T.Fi.binds fun _ _ _ _ _ _=>us1 fun _=>rfl
theorem Txt.um:Lb K t.ue q8 []:=T.Lh.binds fun _ _ _ _ _ _=>us2 fun _ _=>rfl
theorem Txt.Rb:Lb K t.Nb q8 []:=T.Fh.binds fun _ _ _ _ _ _=>us2 fun _ _=>rfl
theorem Txt.Fw:Lb K t.Yh q45 []:=T.Op.binds fun _ _ _ _ _ _=>us4 fun _ _ _ _=>rfl
end
noncomputable def rn (ns:List Int) (k m:Int):Int:=
 ((((if 0 < (ns.length:Int) then ns.getD (k % (ns.length:Int)).toNat 0 else 0) % 1000003 + 31 * k * k + 1) * 48271 % 999983 * 7919) % 524287) % m
theorem pk (ns:List Int) (k:Int) {m:Int} (h:0 < m):0 ≤ rn ns k m:=Int.emod_nonneg _ (by omega)
theorem Fk (ns:List Int) (k:Int) {m:Int} (h:0 < m):rn ns k m < m:=Int.emod_lt_of_pos _ h
noncomputable def Qe (K:PySem.W.Frag) (a:Addr) (ns:List Int):Sp:=fun vs H Q _=>∃ k m,vs=[.ref a,.int k,.int m]∧Sc K a ns H∧(0 ≤ k∧k < 1000000)∧0 < m∧Q (.int (rn ns k m)) H
section
variable {P:Program} {w:World} {K:PySem.W.Frag} {mg:Str→Option Value} {base:Heap} {t:Adr}
theorem WB (T:Txt w K mg t) (a:Addr) (ns:List Int) (h63:ns.length ≤ 63):Eb P w K mg base CX0 1 t.Fg t.yg q27 (Qe K a ns):=by
 refine T.rc.ok Pi (fun vs H Q E h=>?_) (fun _ _ _ s H vs Q E hr h=>?_)
 ·obtain ⟨k,m,rfl,_⟩:=h;rfl
 obtain ⟨k,m,rfl,S,⟨h0,h1⟩,hm,q⟩:=h;refine ⟨_,(fb (yb (i:=3) Pi.nd (Us (Zb jv (Pb Gb rfl T.di Tb (cb (pv 0) gb)) rb (Vb _)) (uc Vc (pv 0) (bc gg (pv 1) (Pb Gb rfl T.di Tb (cb (pv 0) gb)))) rb))
   (fb (yb (i:=4) Pi.nd (bc Zd (bc Zd (bc gg (pv 3) rb) (bc zr (bc zr rb (pv 1)) (pv 1))) rb))
   (lb (Db (bc gg (bc gg (bc zr (bc gg (bc zr (pv 4) rb) rb) rb) rb) (pv 2)))))),?_⟩
 walk_at "RD";refine ⟨_,.inl S.seq,?_⟩;rw [List.length_map];have hkk:(0:Int) ≤ k * k∧k * k < 1000000 * 1000000:=⟨Int.mul_nonneg h0 h0,Int.mul_lt_mul' (by omega) h1 h0 (by decide)⟩;have fin:∀ i:Int,(0:Int) < 1000003∧gH 31 k∧gH (31 * k) k∧gH (i % 1000003 + 31 * k * k + 1) 48271∧(0:Int) < 999983∧gH ((i % 1000003 + 31 * k * k + 1) * 48271 % 999983) 7919∧(0:Int) < 524287∧0 < m:=by
  intro i;refine ⟨by decide,.inl (by decide),.inr (by omega),.inr (by decide),by decide,.inr (by decide),by decide,hm⟩
 by_cases c:(0:Int) < (ns.length:Int)
 ·rw [if_pos (decide_eq_true c)];have hk:0 ≤ k % (ns.length:Int)∧k % (ns.length:Int) < (ns.length:Int):=⟨Int.emod_nonneg _ (by omega),Int.emod_lt_of_pos _ c⟩;refine ⟨_,.inl S.seq,by rw [List.length_map];exact c,_,S.seq,?_⟩;rw [List.length_map];have hj:(k % (ns.length:Int)).toNat < ns.length:=by omega
  refine ⟨.int ns[(k % (ns.length:Int)).toNat],?_,_,rfl,?_⟩
  ·have e:=Fc (xs:=ns.map V.int) (j:=(k % (ns.length:Int)).toNat) (v:=.int ns[(k % (ns.length:Int)).toNat]) (by rw [List.getElem?_map,List.getElem?_eq_getElem hj] <;> rfl);rwa [Int.toNat_of_nonneg hk.1] at e
  ·obtain ⟨f1,f2,f3,f4,f5,f6,f7,f8⟩:=fin ns[(k % (ns.length:Int)).toNat];refine ⟨f1,f2,f3,f4,f5,f6,f7,f8,?_⟩;have e:rn ns k m=(((ns[(k % (ns.length:Int)).toNat] % 1000003 + 31 * k * k + 1) * 48271 % 999983 * 7919) % 524287) % m:=by
    unfold rn;rw [if_pos c,List.getD_eq_getElem?_getD,List.getElem?_eq_getElem hj];rfl
   rw [← e];exact q
 ·rw [if_neg (by simpa using c)];obtain ⟨f1,f2,f3,f4,f5,f6,f7,f8⟩:=fin 0;refine ⟨f1,f2,f3,f4,f5,f6,f7,f8,?_⟩;have e:rn ns k m=(((0 % 1000003 + 31 * k * k + 1) * 48271 % 999983 * 7919) % 524287) % m:=by
   unfold rn;rw [if_neg c]
  rw [← e];exact q
end
theorem SL {w:Str}:w=Str.ofString "" ↔ w.length=0:=by
 constructor
 ·rintro rfl;decide +kernel
 ·intro h;have e:w.cps=#[]:=Array.eq_empty_of_size_eq_zero h;have e2:(Str.ofString "").cps=#[]:=by decide +kernel
  cases w;cases h2:Str.ofString "";rw [h2] at e2;simp only at e e2;rw [e,e2]
noncomputable def inL (sg:Str) (c:Nat):Bool:=!(Builtin.Str.occurrences sg (zL c) 0 sg.length 1).isEmpty
theorem uB (sg:Str) (c:Nat):inL sg c=decide (c ∈ sg.cps.toList):=StrLaws.found_one sg c
noncomputable def made (w sg:Str) (m:Int):Bool:=if w=Str.ofString "" then false else if m < (w.length:Int) then false else w.cps.toList.all (inL sg)
noncomputable def Mp:Sp:=fun vs H Q _=>∃ w sg m,vs=[.str w,.str sg,.int m]∧w.length ≤ 1000∧NoT H∧Q (.bl (made w sg m)) H
noncomputable def SF:Sp:=fun vs H Q _=>∃ w sg m,vs=[.str w,.str sg,.int m]∧w.length ≤ 1000∧∀ H',Ob H H'→Q (.bl (made w sg m)) H'
section
variable {P:Program} {w:World} {K:PySem.W.Frag} {mg:Str→Option Value} {base:Heap} {t:Adr}
theorem KD (T:Txt w K mg t):Eb P w K mg base CX0 1 t.Yf t.Vf q15 Mp:=by
 refine Eb.forget (sp:=SF) ?_ fun vs H Q E h=>?_
 ·refine T.ah.ok Zt (fun vs H Q E h=>?_) (fun _ _ _ s H vs Q E hr h=>?_)
  ·obtain ⟨w,sg,m,rfl,_⟩:=h;rfl
  obtain ⟨w,sg,m,rfl,hz,q⟩:=h;have hz':w.length ≤ sizeLine:=Nat.le_trans hz (by decide);refine ⟨_,(fb (Se (PW.pt (yu (Zb vj (pv 0) Vd (Vb _)) (No (Zb jv (Pb Ov rfl T.di Tb (cb (pv 0) gb)) (pv 2) (Vb _))))) (lb (Db qw)) jc)
   (lb (Db (Pb (iG rfl) rfl T.VL Iz (cb (Rh rfl (iK (pv 0)) (Lc (sc:=pb bj) rfl (by decide +kernel)) (N:=["sign","signs"]) (sel:=[none,some 1]) (yd (M:=q15) (by decide +kernel)) (Blk.of (fun _ _ _ _=>(qb (i:=0) (Dg (N:=["sign","signs"]) (by decide +kernel) rfl))) (fun _ _ _ _=>⟨_,rf,by walk_at "B"⟩) (fun _ _ _ _=>⟨_,(je VC (pv 0) (pv 1) (by with_unfolding_all rfl)),by walk_at "B"⟩))) gb))))),?_⟩
  walk_at "RD";refine zc (decide (w=Str.ofString "") || decide (m < (w.length:Int))) (fun Q hQ=>?_) (fun hb=>?_) (fun hb=>?_)
  ·walk_at "RD";by_cases c:w=Str.ofString ""
   ·rw [if_pos (decide_eq_true c)];rw [decide_eq_true c,Bool.true_or] at hQ;exact hQ
   ·rw [if_neg (by simpa using c)];rw [decide_eq_false c,Bool.false_or] at hQ;exact ⟨hz',hQ⟩
  ·walk_at "RD";have e:made w sg m=false:=by
    unfold made;simp only [Bool.or_eq_true,decide_eq_true_eq] at hb;by_cases c:w=Str.ofString ""
    ·rw [if_pos c]
    ·rw [if_neg c,if_pos (hb.resolve_left c)]
   have:=q H (Ob.refl H);rw [e] at this;exact this
  ·walk_at "RD";have e:made w sg m=w.cps.toList.all (inL sg):=by
    unfold made;simp only [Bool.or_eq_false_iff,decide_eq_false_iff_not] at hb;rw [if_neg hb.1,if_neg hb.2]
   refine vd.its_map (fun x=>match x with | .str y=>.bl (!(Builtin.Str.occurrences sg y 0 sg.length 1).isEmpty) | _=>.non) (by rw [Cl];exact hz') (fun i x N hx hN=>?_) (fun p hp=>?_)
   ·unfold yi at hx;rw [List.getElem?_map] at hx;cases hc:w.cps.toList[i]? with
    | none=>rw [hc] at hx;cases hx
    | some c=>
     rw [hc] at hx;have hx':V.str (zL c)=x:=Option.some.inj hx;subst hx';walk_at "RD";exact ⟨Sub.name,hN⟩
   ·refine ⟨p,rfl,w.cps.toList.map (inL sg),SqL.of ?_,?_⟩
    ·rw [db];unfold yi;rw [List.map_map,List.map_map];rfl
    ·have:=q (upd H p (.lst (List.map (fun x=>match x with | .str y=>.bl (!(Builtin.Str.occurrences sg y 0 sg.length 1).isEmpty) | _=>.non) (yi w)))) (jb hp);rw [e] at this;rw [List.all_map];exact this
 ·obtain ⟨w,sg,m,e,hz,nt,q⟩:=h;exact ⟨nt,w,sg,m,e,hz,fun H' sm=>⟨sm,q⟩⟩
end
noncomputable abbrev LH:Str:=Str.ofString "0123456789"
noncomputable def Gn (c:Nat):Bool:=decide (48 ≤ c∧c ≤ 57)
theorem CF (c:Nat):inL LH c=Gn c:=by
 rw [uB,show LH.cps.toList=List.range' 48 10 by decide +kernel];unfold Gn;refine decide_eq_decide.mpr ?_;rw [List.mem_range'_1];exact and_congr_right fun _=>show c < 58↔c ≤ 57 from Nat.lt_succ_iff
noncomputable abbrev cs (w:Str):List Nat:=w.cps.toList
theorem DC (w:Str):(cs w).length=w.length:=by simp [cs,Str.length]
noncomputable def okB (w:Str):Bool:=decide (1 ≤ (cs w).length) && decide ((cs w).length ≤ 3) && (cs w).all Gn && (decide ((cs w).length ≤ 1) || decide ((cs w).headD 0 ≠ 48))
noncomputable abbrev val (w:Str):Int:=((NumText.digitsVal (cs w):Nat):Int)
noncomputable def JE (w:Str) (lo hi:Int):V:=if okB w && !(decide (val w < lo) || decide (hi < val w)) then .int (val w) else .non
theorem UA {w:Str} {c:Nat}:w=⟨#[c]⟩↔cs w=[c]:=by
 constructor
 ·rintro rfl;rfl
 ·intro h;cases w with
  | mk a=>
   have e:a=#[c]:=Array.toList_inj.mp h;rw [e]
theorem ax:Str.ofString "0"=⟨#[48]⟩:=by decide +kernel
theorem Av (w:Str):made w LH 3=(decide (1 ≤ (cs w).length) && decide ((cs w).length ≤ 3) && (cs w).all Gn):=by
 unfold made;have e:(inL LH)=Gn:=funext CF;rw [e];by_cases h1:w=Str.ofString ""
 ·have h2:=SL.mp h1;rw [if_pos h1,DC,h2];rfl
 ·have h2:¬ w.length=0:=fun z=>h1 (SL.mpr z)
  rw [if_neg h1,DC];by_cases h3:(3:Int) < (w.length:Int)
  ·rw [if_pos h3,decide_eq_false (show ¬ w.length ≤ 3 by omega),Bool.and_false,Bool.false_and]
  ·rw [if_neg h3,decide_eq_true (show 1 ≤ w.length by omega),decide_eq_true (show w.length ≤ 3 by omega)];rfl
theorem Wt {l:List Nat} (h:l.all Gn=true):NumText.AllDigits l:=fun c hc=>by
 have:=List.all_eq_true.mp h c hc;simpa [Gn] using this
theorem IK {w:Str} (h:okB w=true):(1 ≤ (cs w).length∧(cs w).length ≤ 3)∧(cs w).all Gn=true:=by
 unfold okB at h;simp only [Bool.and_eq_true,decide_eq_true_eq] at h;exact h.1
noncomputable def IC:Sp:=fun vs H Q _=>∃ w,vs=[.str w,.int 3]∧w.length ≤ 1000∧NoT H∧Q (.bl (okB w)) H
noncomputable def WG:Sp:=fun vs H Q _=>∃ w lo hi,vs=[.str w,.int lo,.int hi]∧w.length ≤ 1000∧NoT H∧Q (JE w lo hi) H
section
variable {P:Program} {w:World} {K:PySem.W.Frag} {mg:Str→Option Value} {base:Heap} {t:Adr}
theorem ZJ (T:Txt w K mg t):Eb P w K mg base CX0 2 t.gi t.Sh q22 IC:=by
 have g16:Eb P w K mg base CX0 1 t.Yf t.Vf q15 Mp:=KD T;refine T.uk.ok Ku (fun vs H Q E h=>?_) (fun _ _ _ s H vs Q E hr h=>?_)
 ·obtain ⟨w,rfl,_⟩:=h;rfl
 obtain ⟨w,rfl,hz,nt,q⟩:=h;have hz':w.length ≤ sizeLine:=Nat.le_trans hz (by decide);refine ⟨_,(fb (Se (Zm (Si (ub g16 hr T.Ym T.ah.kp T.Sm (cb (pv 0) (cb (Jd rfl T.wB T.GD) (cb (pv 1) gb)))))) (lb (Db qw)) jc)
   (lb (Db (RK (je vj (pv 0) Vd (Vb _)) (Wp (je KB (uc OJ (pv 0) rb) Vd (Vb _))))))),?_⟩
 refine zc (!made w LH 3) (fun Q hQ=>?_) (fun hb=>?_) (fun hb=>?_)
 ·(walk_at "RD"; repeat (dsimp only [Mp];walk_at "RD"));exact ⟨hz,nt,hQ⟩
 ·walk_at "RD";have e:okB w=false:=by
   have hb':made w LH 3=false:=by simpa using hb
   rw [Av] at hb';unfold okB;rw [hb'];rfl
  rw [e] at q;exact q
 ·have hb':made w LH 3=true:=by simpa using hb
  rw [Av] at hb';rw [Sn];dsimp only;refine cI (.bl (okB w)) (fun Q hQ=>?_) ?_
  case refine_2=>exact q
  walk_at "RD";have hb2:(1 ≤ (cs w).length∧(cs w).length ≤ 3)∧(cs w).all Gn=true:=by
   simpa only [Bool.and_eq_true,decide_eq_true_eq] using hb'
  obtain ⟨c,r,hcr⟩:∃ c r,cs w=c :: r:=by
   cases h:cs w with
   | nil=>rw [h] at hb2;exact absurd hb2.1.1 (by decide)
   | cons c r=>exact ⟨c,r,rfl⟩
  have ok:okB w=(decide ((cs w).length ≤ 1) || decide ((cs w).headD 0 ≠ 48)):=by
   unfold okB;rw [hb',Bool.true_and]
  by_cases c0:w=Str.ofString "0"
  ·rw [if_pos (decide_eq_true c0)];have e:cs w=[48]:=by rw [c0,ax]
   rw [ok,e] at hQ;exact hQ
  ·rw [if_neg (by simpa using c0)];refine ⟨hz',c,?_,?_⟩
   ·have:=Fc (xs:=cs w) (j:=0) (v:=c) (by rw [hcr];rfl);exact this
   ·have e2:decide ((⟨#[c]⟩:Str)=Str.ofString "0")=decide (c=48):=by
     rw [ax];by_cases h48:c=48
     ·rw [h48];simp
     ·rw [decide_eq_false h48,decide_eq_false];intro z;have z2:=UA.mp z;exact h48 (List.cons.inj z2).1
    rw [e2];have e3:okB w = !decide (c=48):=by
     rw [ok,hcr];show (decide ((c :: r).length ≤ 1) || decide (c ≠ 48))=_;by_cases h48:c=48
     ·have hr:r ≠ []:=fun z=>c0 (by rw [ax];exact UA.mpr (by rw [hcr,z,h48]))
      have:¬ (c :: r).length ≤ 1:=by
       cases r with
       | nil=>exact absurd rfl hr
       | cons d r=>simp
      rw [decide_eq_false this,h48];rfl
     ·rw [decide_eq_true h48,Bool.or_true,decide_eq_false h48];rfl
    rw [← e3];exact hQ
theorem mL (T:Txt w K mg t):Eb P w K mg base CX0 3 t.Vl t.zl q33 WG:=by
 have g28:Eb P w K mg base CX0 2 t.gi t.Sh q22 IC:=ZJ T;refine T.Wo.ok Cr (fun vs H Q E h=>?_) (fun _ _ _ s H vs Q E hr h=>?_)
 ·obtain ⟨w,lo,hi,rfl,_⟩:=h;rfl
 obtain ⟨w,lo,hi,rfl,hz,nt,q⟩:=h;refine ⟨_,(fb (Se (Zm (Si (ub g28 hr T.Nw T.uk.kp T.Zw (cb (pv 0) (cb (Jd rfl T.rq T.Gq) gb))))) (lb (Db Jl)) jc)
   (fb (yb (i:=3) Cr.nd (Nd lC rfl T.HM fA (cb (pv 0) gb)))
   (fb (Se (PW.pt (yu (Zb Bu (pv 3) (pv 1) (Vb _)) (No (Zb jv (pv 3) (pv 2) (Vb _))))) (lb (Db Jl)) jc)
   (lb (Db (pv 3)))))),?_⟩
 refine zc (!okB w) (fun Q hQ=>?_) (fun hb=>?_) (fun hb=>?_)
 ·(walk_at "RD"; repeat (dsimp only [IC];walk_at "RD"));exact ⟨hz,nt,hQ⟩
 ·walk_at "RD";have hb':okB w=false:=by simpa using hb
  have e:JE w lo hi=.non:=by unfold JE;rw [hb'];rfl
  rw [e] at q;exact q
 ·have hb':okB w=true:=by simpa using hb
  have h3:(1 ≤ (cs w).length∧(cs w).length ≤ 3)∧(cs w).all Gn=true:=by
   have:=hb';unfold okB at this;simp only [Bool.and_eq_true,decide_eq_true_eq] at this;exact this.1
  have hl:=DC w;have hi':intText? w=some (val w):=intText_digits (Wt h3.2) (fun z=>by have z':cs w=[]:=z;rw [z'] at h3;exact absurd h3.1.1 (by decide)) (by omega);walk_at "RD";refine ⟨val w,hi',by omega,?_⟩;refine zc (decide (val w < lo) || decide (hi < val w)) (fun Q hQ=>?_) (fun hc=>?_) (fun hc=>?_)
  ·walk_at "RD";by_cases c:val w < lo
   ·rw [if_pos (decide_eq_true c)];rw [decide_eq_true c,Bool.true_or] at hQ;exact hQ
   ·rw [if_neg (by simpa using c)];rw [decide_eq_false c,Bool.false_or] at hQ;exact hQ
  ·walk_at "RD";have e:JE w lo hi=.non:=by unfold JE;rw [hb',hc];rfl
   rw [e] at q;exact q
  ·walk_at "RD";have e:JE w lo hi=.int (val w):=by unfold JE;rw [hb',hc];rfl
   rw [e] at q;exact q
end
theorem pC {n:Nat} (h:n < 1000):n.log2 < 1920:=by
 by_cases h0:n=0
 ·subst h0;decide
 ·rw [Nat.log2_lt h0];exact Nat.lt_of_lt_of_le h (Nat.le_trans (show 1000 ≤ 2 ^ 10 by decide) (Nat.pow_le_pow_right (by decide) (by decide)))
theorem WE:∀ n,n < 1000→(Nat.toDigits 10 n).length ≤ 3:=by decide +kernel
theorem iI {n:Int} (h0:0 ≤ n) (h1:n ≤ 999):(Str.ofString (toString n)).length ≤ 3:=by
 have e:=PySem.W.KIN.signs_num n.toNat;rw [Int.toNat_of_nonneg h0] at e;have l:(Str.ofString (toString n)).length=(Str.ofString (toString n)).cps.toList.length:=by simp [Str.length]
 rw [l,e,List.length_map];exact WE _ (by omega)
noncomputable abbrev qm:Str:=Str.ofString "abcdefghijklmnopqrstuvwxyz"
noncomputable def bE:Sp:=fun vs H Q _=>∃ w,vs=[.str w]∧w.length ≤ 1000∧NoT H∧Q (.bl (made w qm 8)) H
section
variable {P:Program} {w:World} {K:PySem.W.Frag} {mg:Str→Option Value} {base:Heap} {t:Adr}
theorem VI (T:Txt w K mg t):Eb P w K mg base CX0 2 t.Pl t.Wl ["word"] bE:=by
 have g16:Eb P w K mg base CX0 1 t.Yf t.Vf q15 Mp:=KD T;refine T.Ep.ok aA (fun vs H Q E h=>?_) (fun _ _ _ s H vs Q E hr h=>?_)
 ·obtain ⟨w,rfl,_⟩:=h;rfl
 obtain ⟨w,rfl,hz,nt,q⟩:=h;refine ⟨_,(lb (Db (ub g16 hr T.Ym T.ah.kp T.Sm (cb (pv 0) (cb (Jd rfl T.RD T.MC) (cb (Jd rfl T.tq T.Nq) gb)))))),?_⟩;(walk_at "RD"; repeat (dsimp only [Mp];walk_at "RD"));exact ⟨hz,nt,q⟩
end
noncomputable abbrev nl:Str:=Str.ofString "\n"
noncomputable abbrev bk:Str:=Str.ofString " "
theorem lM:nl=⟨#[10]⟩:=by decide +kernel
theorem xM:bk=⟨#[32]⟩:=by decide +kernel
noncomputable def mi (x:Str):List (List Str):=(Txt.split x nl).map fun r=>Txt.split r bk
theorem dr:∀ {ys:List Str} {y:Str},y ∈ ys→y.length ≤ (ys.map (·.length)).sum
 | [],_,h=>nomatch h
 | a :: r,y,h=>by
  rw [List.map_cons,List.sum_cons];rcases List.mem_cons.mp h with rfl | h
  ·omega
  ·have:=dr h;omega
theorem OH {x y r:Str} (hy:1 ≤ y.length) (h:r ∈ Txt.split x y):r.length ≤ x.length + 1:=by
 have h1:=PyProof.Rows.split_weight x y hy;have h2:=dr h;omega
theorem Uo {x y:Str} (hy:1 ≤ y.length):(Txt.split x y).length ≤ x.length + 1:=by
 have h1:=PyProof.Rows.split_weight x y hy;omega
theorem pG (x y:Str):Txt.split x y ≠ []:=by
 unfold Txt.split;split
 ·simp
 ·split
  ·simp
  ·rw [StrLaws.partsBetween_eq];obtain ⟨p,r,e⟩:=StrLaws.partsFrom_ne x y.length 0 (Builtin.Str.occurrences x y 0 x.length (x.length + 1));rw [e];simp
noncomputable def LL (H0 H:Hp) (p:Addr) (rows:List (List Str)):Prop:=∃ qs:List Addr,H p=some (.lst (qs.map V.ref))∧H0 p=none∧p ∉ qs∧qs.length=rows.length∧∀ (i:Nat) (q:Addr) (r:List Str),qs[i]? = some q→rows[i]? = some r→H q=some (.lst (dc r))∧H0 q=none
noncomputable def yy:Sp:=fun vs H Q _=>∃ x,vs=[.str x]∧x.length ≤ 20000∧NoT H∧∀ p H',Ob H H'→NoT H'→LL H H' p (mi x)→Q (.ref p) H'
theorem Ix:nl.length=1:=by decide +kernel
theorem jC:bk.length=1:=by decide +kernel
section
variable {P:Program} {w:World} {K:PySem.W.Frag} {mg:Str→Option Value} {base:Heap} {t:Adr}
theorem nG (T:Txt w K mg t):Eb P w K mg base CX0 1 t.ft t.Yt ["text"] yy:=by
 refine T.lw.ok RE (fun vs H Q E h=>?_) (fun _ _ _ s H vs Q E hr h=>?_)
 ·obtain ⟨x,rfl,_⟩:=h;rfl
 obtain ⟨x,rfl,hz,nt,q⟩:=h;have hzz:∀ n:Nat,n ≤ 40000→n ≤ sizeLine:=fun n h=>Nat.le_trans h (by decide)
 refine ⟨_,(lb (Db (Rh rfl (ce (Tu PySem.F.plainAttrs_str PySem.F.slot_str_split PySem.F.type_str_split Zy (pv 0) (cb Vd gb))) (Lc (sc:=pb jw) rfl (by decide +kernel)) (N:=["row"]) (sel:=[none]) (yd (M:=["text"]) (by decide +kernel)) (Blk.of (fun _ _ _ _=>(qb (i:=0) (Dg (N:=["row"]) (by decide +kernel) rfl))) (fun _ _ _ _=>⟨_,rf,by walk_at "B"⟩) (fun _ _ _ _=>⟨_,(Tu PySem.F.plainAttrs_str PySem.F.slot_str_split PySem.F.type_str_split Zy (pv 0) (cb Vd gb)),by walk_at "B"⟩))))),?_⟩;walk_at "RD";have hy:1 ≤ nl.length:=by rw [Ix];exact Nat.le_refl _
 have hy2:1 ≤ bk.length:=by rw [jC];exact Nat.le_refl _
 have hs:=Uo (x:=x) hy;have hs':(dc (Txt.split x nl)).length ≤ sizeLine:=by unfold dc;rw [List.length_map];exact hzz _ (by omega)
 refine ⟨by rw [Ix];decide,hzz _ (by omega),hzz _ (show (Txt.split x nl).length ≤ 40000 by omega),fun p hp=>⟨⟨_,SqL.of db⟩,?_⟩⟩;refine vd.list_mk (xs:=dc (Txt.split x nl)) (fun v=>match v with | .str r=>.lst (dc (Txt.split r bk)) | _=>.lst []) (SqL.of db) hs' (fun v=>by cases v <;> rfl) (fun i v H1 N hx sm nt1 hN=>?_) (fun qs H1 sm nt1 hl al p2 hp2=>?_)
 ·unfold dc at hx;rw [List.getElem?_map] at hx;cases hr:(Txt.split x nl)[i]? with
  | none=>rw [hr] at hx;cases hx
  | some r=>
   rw [hr] at hx;have e:=Option.some.inj hx;subst e;have hm:=OH hy (List.mem_of_getElem? hr);have hs2:=Uo (x:=r) hy2;walk_at "RD";exact ⟨Sub.name,by rw [jC];decide,hzz _ (by omega),hzz _ (show (Txt.split r bk).length ≤ 40000 by omega),hN⟩
 ·have sm0:Ob H H1:=(jb hp).trans sm;refine q _ _ (sm0.updN (sm0.free hp2)) ((nt1 (nt.upd)).upd) ⟨qs,db,sm0.free hp2,fun hm=>?_,?_,fun i q' r h1 h2=>?_⟩
  ·obtain ⟨j,hj,e⟩:=List.getElem_of_mem hm;have hj2:j < (dc (Txt.split x nl)).length:=by omega
   have:=al j p2 _ (by rw [List.getElem?_eq_getElem hj,e]) (List.getElem?_eq_getElem hj2);rw [hp2] at this;cases this.1
  ·rw [hl];unfold mi dc;rw [List.length_map,List.length_map]
  ·unfold mi at h2;rw [List.getElem?_map] at h2;cases hr:(Txt.split x nl)[i]? with
   | none=>rw [hr] at h2;cases h2
   | some r0=>
    rw [hr] at h2;have e:=Option.some.inj h2;subst e;have z:=al i q' (.str r0) h1 (by unfold dc;rw [List.getElem?_map,hr];rfl);refine ⟨by rw [wb (Bb z.1 hp2)];exact z.1,?_⟩;have:=z.2;by_cases hq:q'=p
    ·rw [hq];exact hp
    ·rwa [wb hq] at this
end
end My
namespace My
open PySem L2
structure WD where
 k:Nat
 name:Str
 start:Int
 fin:Int
 off:Int
 near:Int
 least:Int
noncomputable def wf:Nat→Str
 | 0=>Str.ofString "car"
 | 1=>Str.ofString "foot"
 | _=>Str.ofString "tram"
noncomputable def Adr.cw (t:Adr):Nat→Addr
 | 0=>t.Nc
 | 1=>t.lc
 | _=>t.kc
noncomputable def Dn (d:WD):List (Str × V):=[(Str.ofString "kind",.str (wf d.k)),(Str.ofString "name",.str d.name),(Str.ofString "start",.int d.start),(Str.ofString "end",.int d.fin),(Str.ofString "off",.int d.off),(Str.ofString "near",.int d.near),(Str.ofString "least",.int d.least)]
noncomputable abbrev Dq:List Str:=[Str.ofString "kind",Str.ofString "name",Str.ofString "start",Str.ofString "end",Str.ofString "off",Str.ofString "near",Str.ofString "least"]
theorem Kr (d:WD):(Dn d).map (·.1)=Dq:=rfl
noncomputable def se (t:Adr) (H:Hp) (p:Addr) (d:WD):Prop:=d.k < 3∧∃ dx,H p=some (.ins (t.cw d.k) dx (Dn d))
theorem se.same {t:Adr} {H H':Hp} {p:Addr} {d:WD} (h:se t H p d) (s:Ob H H'):se t H' p d:=⟨h.1,h.2.imp fun dx e=>s _ _ e⟩
noncomputable def isW (t:Adr) (C:Addr):Prop:=∃ k,k < 3∧C=t.cw k
noncomputable def Yc (d:WD):Int:=match d.k with | 0=>1 | 1=>0 | _=>2
noncomputable def qf (d:WD):Int:=match d.k with | 0=>2 | 1=>d.off | _=>1
section
variable {w:World} {K:PySem.W.Frag} {mg:Str→Option Value} {t:Adr}
theorem Txt.clw (T:Txt w K mg t):∀ k,Cls K (t.cw k)
 | 0=>T.Do
 | 1=>T.dm
 | _ + 2=>T.Lm
theorem Txt.naw (T:Txt w K mg t) {f:Str} (hf:f ∈ Dq):∀ k,Mb K (t.cw k) f:=by
 intro k;simp only [Dq,List.mem_cons,List.not_mem_nil,or_false] at hf;rcases hf with rfl | rfl | rfl | rfl | rfl | rfl | rfl
 ·match k with
  | 0=>exact T.Fq
  | 1=>exact T.Fp
  | _ + 2=>exact T.Jo
 ·match k with
  | 0=>exact T.Lq
  | 1=>exact T.ip
  | _ + 2=>exact T.Gp
 ·match k with
  | 0=>exact T.Bo
  | 1=>exact T.En
  | _ + 2=>exact T.Nn
 ·match k with
  | 0=>exact T.Tt
  | 1=>exact T.Kq
  | _ + 2=>exact T.pq
 ·match k with
  | 0=>exact T.Xt
  | 1=>exact T.Xq
  | _ + 2=>exact T.Qq
 ·match k with
  | 0=>exact T.Oq
  | 1=>exact T.vo
  | _ + 2=>exact T.Yo
 ·match k with
  | 0=>exact T.up
  | 1=>exact T.zn
  | _ + 2=>exact T.Hn
theorem Txt.cw_inj (T:Txt w K mg t) {j k:Nat} (hj:j < 3) (hk:k < 3) (e:t.cw j=t.cw k):j=k:=by
 match j,k,hj,hk with
 | 0,0,_,_=>rfl
 | 0,1,_,_=>exact absurd e T.xh
 | 0,2,_,_=>exact absurd e T.Kh
 | 1,0,_,_=>exact absurd e.symm T.xh
 | 1,1,_,_=>rfl
 | 1,2,_,_=>exact absurd e T.jh
 | 2,0,_,_=>exact absurd e.symm T.Kh
 | 2,1,_,_=>exact absurd e.symm T.jh
 | 2,2,_,_=>rfl
 | j + 3,_,h,_=>omega
 | _,k + 3,_,h=>omega
theorem se.fld (T:Txt w K mg t) {H:Hp} {p:Addr} {d:WD} (h:se t H p d) {f:Str} {v:V} (i:Nat) (hi:Dq.findIdx? (· == f)=some i) (hv:(Dn d)[i]? = some (f,v)):Hi K H p f v:=by
 obtain ⟨_,dx,e⟩:=h;have hm:f ∈ Dq:=by
  obtain ⟨hlt,h1,_⟩:=List.findIdx?_eq_some_iff_getElem.mp hi;have:Dq[i]=f:=by simpa using h1
  rw [← this];exact List.getElem_mem hlt
 exact ⟨_,dx,_,e,T.clw _,T.naw hm _,Md Dq i (Kr d) hi hv⟩
theorem se.f_name (T:Txt w K mg t) {H:Hp} {p:Addr} {d:WD} (h:se t H p d):Hi K H p (Str.ofString "name") (.str d.name):=h.fld T 1 (by decide +kernel) rfl
theorem se.f_start (T:Txt w K mg t) {H:Hp} {p:Addr} {d:WD} (h:se t H p d):Hi K H p (Str.ofString "start") (.int d.start):=h.fld T 2 (by decide +kernel) rfl
theorem se.f_end (T:Txt w K mg t) {H:Hp} {p:Addr} {d:WD} (h:se t H p d):Hi K H p (Str.ofString "end") (.int d.fin):=h.fld T 3 (by decide +kernel) rfl
theorem se.f_off (T:Txt w K mg t) {H:Hp} {p:Addr} {d:WD} (h:se t H p d):Hi K H p (Str.ofString "off") (.int d.off):=h.fld T 4 (by decide +kernel) rfl
theorem se.f_near (T:Txt w K mg t) {H:Hp} {p:Addr} {d:WD} (h:se t H p d):Hi K H p (Str.ofString "near") (.int d.near):=h.fld T 5 (by decide +kernel) rfl
theorem se.f_least (T:Txt w K mg t) {H:Hp} {p:Addr} {d:WD} (h:se t H p d):Hi K H p (Str.ofString "least") (.int d.least):=h.fld T 6 (by decide +kernel) rfl
end
noncomputable def au (t:Adr):Sp:=fun vs H Q _=>∃ (p dx:Addr) (d:WD),vs=[.ref p,.str (wf d.k),.str d.name,.int d.start,.int d.fin,.int d.off,.int d.near,.int d.least]∧d.k < 3∧H p=some (.ins (t.cw d.k) dx [])∧Q .non (upd H p (.ins (t.cw d.k) dx (Dn d)))
noncomputable def ij (t:Adr) (k:Nat):Sp:=fun vs H Q _=>∃ (p dx:Addr) (d:WD),vs=[.ref p,.str d.name,.int d.start,.int d.fin,.int d.off,.int d.near,.int d.least]∧d.k=k∧H p=some (.ins (t.cw d.k) dx [])∧Q .non (upd H p (.ins (t.cw d.k) dx (Dn d)))
section
variable {P:Program} {w:World} {K:PySem.W.Frag} {mg:Str→Option Value} {base:Heap} {t:Adr}
theorem sw (T:Txt w K mg t):Eb P w K mg base CX0 1 t.sf t.qg q17 (au t):=by
 refine T.yr.ok wo (fun vs H Q E h=>?_) (fun _ _ _ s H vs Q E hr h=>?_)
 ·obtain ⟨p,dx,d,rfl,_⟩:=h;rfl
 obtain ⟨p,dx,d,rfl,hk,hp,q⟩:=h;refine ⟨_,(fb (lf (pv 0) (pv 1) rfl)
   (fb (lf (pv 0) (pv 2) rfl)
   (fb (lf (pv 0) (pv 3) rfl)
   (fb (lf (pv 0) (pv 4) rfl)
   (fb (lf (pv 0) (pv 5) rfl)
   (fb (lf (pv 0) (pv 6) rfl)
   (lb (lf (pv 0) (pv 7) rfl)))))))),?_⟩
 walk_at "RD";have na:∀ {f:Str},f ∈ Dq→Mb K (t.cw d.k) f:=fun hf=>T.naw hf d.k
 refine ⟨_,_,_,hp,T.clw _,na (by decide +kernel),by decide,?_⟩;refine ⟨_,_,_,db,T.clw _,na (by decide +kernel),Xl (n:=999) (by decide),?_⟩;refine ⟨_,_,_,db,T.clw _,na (by decide +kernel),Xl (n:=999) (Xl (n:=998) (by decide)),?_⟩;refine ⟨_,_,_,db,T.clw _,na (by decide +kernel),Xl (n:=999) (Xl (n:=998) (Xl (n:=997) (by decide))),?_⟩;refine ⟨_,_,_,db,T.clw _,na (by decide +kernel),Xl (n:=999) (Xl (n:=998) (Xl (n:=997) (Xl (n:=996) (by decide)))),?_⟩;refine ⟨_,_,_,db,T.clw _,na (by decide +kernel),Xl (n:=999) (Xl (n:=998) (Xl (n:=997) (Xl (n:=996) (Xl (n:=995) (by decide))))),?_⟩;refine ⟨_,_,_,db,T.clw _,na (by decide +kernel),Xl (n:=999) (Xl (n:=998) (Xl (n:=997) (Xl (n:=996) (Xl (n:=995) (Xl (n:=994) (by decide)))))),?_⟩;simp only [im];rw [show Ih (Str.ofString "kind") (V.str (wf d.k)) ([]:List (Str × V))=[(Str.ofString "kind",V.str (wf d.k))] from ed [] rfl (by decide +kernel),
  show Ih (Str.ofString "name") (V.str d.name) ([(Str.ofString "kind",V.str (wf d.k))]:List (Str × V))=[(Str.ofString "kind",V.str (wf d.k)),(Str.ofString "name",V.str d.name)] from ed [Str.ofString "kind"] rfl (by decide +kernel),
  show Ih (Str.ofString "start") (V.int d.start) ([(Str.ofString "kind",V.str (wf d.k)),(Str.ofString "name",V.str d.name)]:List (Str × V))=[(Str.ofString "kind",V.str (wf d.k)),(Str.ofString "name",V.str d.name),(Str.ofString "start",V.int d.start)] from ed [Str.ofString "kind",Str.ofString "name"] rfl (by decide +kernel),
  show Ih (Str.ofString "end") (V.int d.fin) ([(Str.ofString "kind",V.str (wf d.k)),(Str.ofString "name",V.str d.name),(Str.ofString "start",V.int d.start)]:List (Str × V))=[(Str.ofString "kind",V.str (wf d.k)),(Str.ofString "name",V.str d.name),(Str.ofString "start",V.int d.start),(Str.ofString "end",V.int d.fin)] from ed [Str.ofString "kind",Str.ofString "name",Str.ofString "start"] rfl (by decide +kernel),
  show Ih (Str.ofString "off") (V.int d.off) ([(Str.ofString "kind",V.str (wf d.k)),(Str.ofString "name",V.str d.name),(Str.ofString "start",V.int d.start),(Str.ofString "end",V.int d.fin)]:List (Str × V))=[(Str.ofString "kind",V.str (wf d.k)),(Str.ofString "name",V.str d.name),(Str.ofString "start",V.int d.start),(Str.ofString "end",V.int d.fin),(Str.ofString "off",V.int d.off)] from ed [Str.ofString "kind",Str.ofString "name",Str.ofString "start",Str.ofString "end"] rfl (by decide +kernel),
  show Ih (Str.ofString "near") (V.int d.near) ([(Str.ofString "kind",V.str (wf d.k)),(Str.ofString "name",V.str d.name),(Str.ofString "start",V.int d.start),(Str.ofString "end",V.int d.fin),(Str.ofString "off",V.int d.off)]:List (Str × V))=[(Str.ofString "kind",V.str (wf d.k)),(Str.ofString "name",V.str d.name),(Str.ofString "start",V.int d.start),(Str.ofString "end",V.int d.fin),(Str.ofString "off",V.int d.off),(Str.ofString "near",V.int d.near)] from ed [Str.ofString "kind",Str.ofString "name",Str.ofString "start",Str.ofString "end",Str.ofString "off"] rfl (by decide +kernel),
  show Ih (Str.ofString "least") (V.int d.least) ([(Str.ofString "kind",V.str (wf d.k)),(Str.ofString "name",V.str d.name),(Str.ofString "start",V.int d.start),(Str.ofString "end",V.int d.fin),(Str.ofString "off",V.int d.off),(Str.ofString "near",V.int d.near)]:List (Str × V))=[(Str.ofString "kind",V.str (wf d.k)),(Str.ofString "name",V.str d.name),(Str.ofString "start",V.int d.start),(Str.ofString "end",V.int d.fin),(Str.ofString "off",V.int d.off),(Str.ofString "near",V.int d.near),(Str.ofString "least",V.int d.least)] from ed [Str.ofString "kind",Str.ofString "name",Str.ofString "start",Str.ofString "end",Str.ofString "off",Str.ofString "near"] rfl (by decide +kernel)]
 exact q
theorem DI (T:Txt w K mg t):Eb P w K mg base CX0 2 t.af t.kg q10 (ij t 0):=by
 have g13:Eb P w K mg base CX0 1 t.sf t.qg q17 (au t):=sw T;refine T.Ll.ok Xk (fun vs H Q E h=>?_) (fun _ _ _ s H vs Q E hr h=>?_)
 ·obtain ⟨p,dx,d,rfl,_⟩:=h;rfl
 obtain ⟨p,dx,d,rfl,hk,hp,q⟩:=h;refine ⟨_,(lb (Uc (js rfl T.FI T.mm g13 hr T.Jm .nil Rc (cb (pv 0) (cb Vd (cb (pv 1) (cb (pv 2) (cb (pv 3) (cb (pv 4) (cb (pv 5) (cb (pv 6) gb))))))))))),?_⟩;walk_at "RD";exact ⟨p,dx,d,by rw [hk];rfl,by omega,hp,q⟩
theorem kG (T:Txt w K mg t):Eb P w K mg base CX0 2 t.Fe t.Df q10 (ij t 1):=by
 have g13:Eb P w K mg base CX0 1 t.sf t.qg q17 (au t):=sw T;refine T.Gj.ok xk (fun vs H Q E h=>?_) (fun _ _ _ s H vs Q E hr h=>?_)
 ·obtain ⟨p,dx,d,rfl,_⟩:=h;rfl
 obtain ⟨p,dx,d,rfl,hk,hp,q⟩:=h;refine ⟨_,(lb (Uc (js rfl T.FI T.mm g13 hr T.Jm .nil Rc (cb (pv 0) (cb Vd (cb (pv 1) (cb (pv 2) (cb (pv 3) (cb (pv 4) (cb (pv 5) (cb (pv 6) gb))))))))))),?_⟩;walk_at "RD";exact ⟨p,dx,d,by rw [hk];rfl,by omega,hp,q⟩
theorem sG (T:Txt w K mg t):Eb P w K mg base CX0 2 t.Ge t.Hf q10 (ij t 2):=by
 have g13:Eb P w K mg base CX0 1 t.sf t.qg q17 (au t):=sw T;refine T.Cj.ok Dk (fun vs H Q E h=>?_) (fun _ _ _ s H vs Q E hr h=>?_)
 ·obtain ⟨p,dx,d,rfl,_⟩:=h;rfl
 obtain ⟨p,dx,d,rfl,hk,hp,q⟩:=h;refine ⟨_,(lb (Uc (js rfl T.FI T.mm g13 hr T.Jm .nil Rc (cb (pv 0) (cb Vd (cb (pv 1) (cb (pv 2) (cb (pv 3) (cb (pv 4) (cb (pv 5) (cb (pv 6) gb))))))))))),?_⟩;walk_at "RD";exact ⟨p,dx,d,by rw [hk];rfl,by omega,hp,q⟩
end
noncomputable def Ah (t:Adr) (C:Addr):Sp:=fun vs H Q _=>∃ p d,vs=[.ref p]∧se t H p d∧C=t.cw d.k∧Q (.int (Yc d)) H
noncomputable def oj (t:Adr) (C:Addr):Sp:=fun vs H Q _=>∃ p d,vs=[.ref p]∧se t H p d∧C=t.cw d.k∧Q (.int (qf d)) H
section
variable {P:Program} {w:World} {K:PySem.W.Frag} {mg:Str→Option Value} {base:Heap} {t:Adr}
theorem Ap (T:Txt w K mg t):Eb P w K mg base CX0 1 t.Af t.uh ["self"] (Ah t (t.cw 0)):=by
 refine T.Bj.ok Yp (fun vs H Q E h=>?_) (fun _ _ _ s H vs Q E hr h=>?_)
 ·obtain ⟨p,d,rfl,_⟩:=h;rfl
 obtain ⟨p,d,rfl,W,hC,q⟩:=h;have hk:=(T.cw_inj (by decide) W.1 hC).symm;refine ⟨_,(lb (Db rb)),?_⟩;rw [show Yc d=1 by unfold Yc;simp only [hk]] at q;walk_at "RD";exact q
theorem wn (T:Txt w K mg t):Eb P w K mg base CX0 1 t.gf t.Jg ["self"] (Ah t (t.cw 1)):=by
 refine T.dj.ok Fn (fun vs H Q E h=>?_) (fun _ _ _ s H vs Q E hr h=>?_)
 ·obtain ⟨p,d,rfl,_⟩:=h;rfl
 obtain ⟨p,d,rfl,W,hC,q⟩:=h;have hk:=(T.cw_inj (by decide) W.1 hC).symm;refine ⟨_,(lb (Db rb)),?_⟩;rw [show Yc d=0 by unfold Yc;simp only [hk]] at q;walk_at "RD";exact q
theorem Kn (T:Txt w K mg t):Eb P w K mg base CX0 1 t.Ze t.Bg ["self"] (Ah t (t.cw 2)):=by
 refine T.Ui.ok On (fun vs H Q E h=>?_) (fun _ _ _ s H vs Q E hr h=>?_)
 ·obtain ⟨p,d,rfl,_⟩:=h;rfl
 obtain ⟨p,d,rfl,W,hC,q⟩:=h;have hk:=(T.cw_inj (by decide) W.1 hC).symm;refine ⟨_,(lb (Db rb)),?_⟩;rw [show Yc d=2 by unfold Yc;simp only [hk]] at q;walk_at "RD";exact q
theorem nE (T:Txt w K mg t):XE P w K mg base CX0 1 (isW t) "ready" ["self"] (Ah t):=by
 refine ⟨fun C hC=>?_⟩;obtain ⟨k,hk,rfl⟩:=hC
 match k,hk with
 | 0,_=>exact ⟨_,_,T.Do,T.oq,Ap T,T.Uq⟩
 | 1,_=>exact ⟨_,_,T.dm,T.Mo,wn T,T.Ao⟩
 | 2,_=>exact ⟨_,_,T.Lm,T.aq,Kn T,T.Vp⟩
theorem nq (T:Txt w K mg t):Eb P w K mg base CX0 1 t.ng t.Th ["self"] (oj t (t.cw 0)):=by
 refine T.Yk.ok Bq (fun vs H Q E h=>?_) (fun _ _ _ s H vs Q E hr h=>?_)
 ·obtain ⟨p,d,rfl,_⟩:=h;rfl
 obtain ⟨p,d,rfl,W,hC,q⟩:=h;have hk:=(T.cw_inj (by decide) W.1 hC).symm;refine ⟨_,(lb (Db rb)),?_⟩;rw [show qf d=2 by unfold qf;simp only [hk]] at q;walk_at "RD";exact q
theorem Np (T:Txt w K mg t):Eb P w K mg base CX0 1 t.Of t.lh ["self"] (oj t (t.cw 1)):=by
 refine T.Wj.ok Bp (fun vs H Q E h=>?_) (fun _ _ _ s H vs Q E hr h=>?_)
 ·obtain ⟨p,d,rfl,_⟩:=h;rfl
 obtain ⟨p,d,rfl,W,hC,q⟩:=h;have hk:=(T.cw_inj (by decide) W.1 hC).symm;refine ⟨_,(lb (Db (Ub (pv 0) rfl))),?_⟩;rw [show qf d=d.off by unfold qf;simp only [hk]] at q;walk_at "RD";exact ⟨_,W.f_off T,q⟩
theorem xo (T:Txt w K mg t):Eb P w K mg base CX0 1 t.Mf t.qh ["self"] (oj t (t.cw 2)):=by
 refine T.Xj.ok Rp (fun vs H Q E h=>?_) (fun _ _ _ s H vs Q E hr h=>?_)
 ·obtain ⟨p,d,rfl,_⟩:=h;rfl
 obtain ⟨p,d,rfl,W,hC,q⟩:=h;have hk:=(T.cw_inj (by decide) W.1 hC).symm;refine ⟨_,(lb (Db rb)),?_⟩;rw [show qf d=1 by unfold qf;simp only [hk]] at q;walk_at "RD";exact q
theorem AG (T:Txt w K mg t):XE P w K mg base CX0 1 (isW t) "fade" ["self"] (oj t):=by
 refine ⟨fun C hC=>?_⟩;obtain ⟨k,hk,rfl⟩:=hC
 match k,hk with
 | 0,_=>exact ⟨_,_,T.Do,T.Cs,nq T,T.Vs⟩
 | 1,_=>exact ⟨_,_,T.dm,T.uq,Np T,T.Vq⟩
 | 2,_=>exact ⟨_,_,T.Lm,T.Wq,xo T,T.cq⟩
end
noncomputable def jl (c:Nat):List (List Nat)→List Nat
 | []=>[]
 | [a]=>a
 | a :: b :: r=>a ++ c :: jl c (b :: r)
theorem YB {c:Nat}:∀ {a b X Y:List Nat},c ∉ a→c ∉ b→a ++ c :: X=b ++ c :: Y→a=b∧X=Y
 | [],[],X,Y,_,_,h=>⟨rfl,(List.cons.inj h).2⟩
 | [],d :: b,X,Y,_,hb,h=>absurd (List.cons.inj h).1 (fun z=>hb (by simp [← z]))
 | d :: a,[],X,Y,ha,_,h=>absurd (List.cons.inj h).1 (fun z=>ha (by simp [z]))
 | d :: a,e :: b,X,Y,ha,hb,h=>by
  obtain ⟨h1,h2⟩:=List.cons.inj h;obtain ⟨e1,e2⟩:=YB (fun z=>ha (List.mem_cons_of_mem _ z)) (fun z=>hb (List.mem_cons_of_mem _ z)) h2;exact ⟨by rw [h1,e1],e2⟩
theorem EG {c:Nat}:∀ {ps qs:List (List Nat)},(∀ p ∈ ps,c ∉ p)→(∀ q ∈ qs,c ∉ q)→ps ≠ []→qs ≠ []→jl c ps=jl c qs→ps=qs
 | [a],[b],_,_,_,_,h=>by rw [show a=b from h]
 | [a],b :: b' :: r,ha,_,_,_,h=>absurd (show c ∈ a by rw [show a=b ++ c :: jl c (b' :: r) from h];simp) (ha a (by simp))
 | a :: a' :: r,[b],_,hb,_,_,h=>absurd (show c ∈ b by rw [show b=a ++ c :: jl c (a' :: r) from h.symm];simp) (hb b (by simp))
 | a :: a' :: r,b :: b' :: s,ha,hb,_,_,h=>by
  obtain ⟨e1,e2⟩:=YB (ha a (by simp)) (hb b (by simp)) (show a ++ c :: jl c (a' :: r)=b ++ c :: jl c (b' :: s) from h);rw [e1,EG (fun p hp=>ha p (List.mem_cons_of_mem _ hp)) (fun q hq=>hb q (List.mem_cons_of_mem _ hq)) (by simp) (by simp) e2]
 | [],_,_,_,h,_,_=>absurd rfl h
 | _ :: _,[],_,_,_,h,_=>absurd rfl h
theorem cH {c d:Nat}:∀ {ps:List (List Nat)},d ∈ jl c ps→d=c∨∃ p ∈ ps,d ∈ p
 | [],h=>nomatch h
 | [a],h=>.inr ⟨a,by simp,h⟩
 | a :: b :: r,h=>by
  rcases List.mem_append.mp (show d ∈ a ++ c :: jl c (b :: r) from h) with h | h
  ·exact .inr ⟨a,by simp,h⟩
  ·rcases List.mem_cons.mp h with h | h
   ·exact .inl h
   ·rcases cH h with h | ⟨p,hp,h⟩
    ·exact .inl h
    ·exact .inr ⟨p,List.mem_cons_of_mem _ hp,h⟩
theorem yw (c:Nat):∀ ys:List Str,(Str.join ⟨#[c]⟩ ys).cps.toList=jl c (ys.map (·.cps.toList))
 | []=>rfl
 | [a]=>rfl
 | a :: b :: r=>by
  show (a ++ ⟨#[c]⟩ ++ Str.join ⟨#[c]⟩ (b :: r)).cps.toList=_;rw [Str.cps_append,Array.toList_append,Str.cps_append,Array.toList_append,yw c (b :: r)];simp [jl]
theorem VH {x y:Str} (h:x.cps.toList=y.cps.toList):x=y:=by
 cases x;cases y;exact congrArg Str.mk (Array.toList_inj.mp h)
theorem Zr {c:Nat} {ys:List Str} (hn:ys ≠ []) (hf:∀ y ∈ ys,c ∉ y.cps.toList):Txt.split (Str.join ⟨#[c]⟩ ys) ⟨#[c]⟩=ys:=by
 have e:=congrArg (·.cps.toList) (StrLaws.join_split (Str.join ⟨#[c]⟩ ys) ⟨#[c]⟩);simp only [yw] at e;have e2:=EG (c:=c) (ps:=(Txt.split (Str.join ⟨#[c]⟩ ys) ⟨#[c]⟩).map (·.cps.toList)) (qs:=ys.map (·.cps.toList)) (fun p hp=>by
  obtain ⟨y,hy,rfl⟩:=List.mem_map.mp hp;exact StrLaws.split_free _ c y hy) (fun p hp=>by
  obtain ⟨y,hy,rfl⟩:=List.mem_map.mp hp;exact hf y hy) (by simp [pG]) (by simpa using hn) e
 exact (List.map_inj_right fun x y h=>VH h).mp e2
noncomputable abbrev num (v:Int):Str:=Str.ofString (toString v)
theorem QH:∀ n,n < 1000→(decide (1 ≤ ((Nat.toDigits 10 n).map Char.toNat).length) && decide (((Nat.toDigits 10 n).map Char.toNat).length ≤ 3) && ((Nat.toDigits 10 n).map Char.toNat).all Gn && (decide (((Nat.toDigits 10 n).map Char.toNat).length ≤ 1) || decide (((Nat.toDigits 10 n).map Char.toNat).headD 0 ≠ 48)) &&
  decide (NumText.digitsVal ((Nat.toDigits 10 n).map Char.toNat)=n))=true:=by decide +kernel
theorem Cy {v:Int} (h0:0 ≤ v) (h1:v < 1000):okB (num v)=true∧val (num v)=v:=by
 have e:=PySem.W.KIN.signs_num v.toNat;rw [Int.toNat_of_nonneg h0] at e;have a:=QH v.toNat (by omega);rw [← e,Bool.and_eq_true,decide_eq_true_eq] at a;exact ⟨a.1,by show ((NumText.digitsVal (cs (num v)):Nat):Int)=v;rw [a.2];omega⟩
theorem wm {v lo hi:Int} (h0:0 ≤ v) (h1:v < 1000) (hl:lo ≤ v) (hh:v ≤ hi):JE (num v) lo hi=.int v:=by
 obtain ⟨a,b⟩:=Cy h0 h1;unfold JE;rw [a,b,decide_eq_false (by omega:¬ v < lo),decide_eq_false (by omega:¬ hi < v)];rfl
theorem dI {u v:Int} (h0:0 ≤ u) (h1:u < 1000) (h2:0 ≤ v) (h3:v < 1000) (e:num u=num v):u=v:=by
 rw [← (Cy h0 h1).2,e,(Cy h2 h3).2]
theorem Ky {v:Int} (h0:0 ≤ v) (h1:v < 1000):∀ c ∈ (num v).cps.toList,48 ≤ c∧c ≤ 57:=fun c hc=>by
 have:=List.all_eq_true.mp (IK (Cy h0 h1).1).2 c hc;simpa [Gn] using this
theorem AJ:∀ c ∈ qm.cps.toList,97 ≤ c∧c ≤ 122:=by decide +kernel
theorem Ii {x:Str} (h:made x qm 8=true):(1 ≤ x.length∧x.length ≤ 8)∧∀ c ∈ x.cps.toList,97 ≤ c∧c ≤ 122:=by
 unfold made at h;split at h
 ·cases h
 ·rename_i h1;split at h
  ·cases h
  ·rename_i h2;have h3:¬ x.length=0:=fun z=>h1 (SL.mpr z)
   refine ⟨by omega,fun c hc=>?_⟩;have:=List.all_eq_true.mp h c hc;rw [uB] at this;exact AJ c (of_decide_eq_true this)
structure WOk (n:Int) (d:WD):Prop where
 k:d.k < 3
 nm:made d.name qm 8=true
 st:0 ≤ d.start∧d.start < n
 fi:0 ≤ d.fin∧d.fin < n
 ne:d.start ≠ d.fin
 of:0 ≤ d.off∧d.off ≤ 30
 nr:0 ≤ d.near∧d.near ≤ 30
 le:1 ≤ d.least∧d.least ≤ 60
structure COk (n:Int) (ds:List WD):Prop where
 nn:2 ≤ n∧n ≤ 99
 ln:1 ≤ ds.length∧ds.length ≤ 12
 al:∀ d ∈ ds,WOk n d
 nd:(ds.map (·.name)).Nodup
noncomputable def Wm (d:WD):List Str:=[wf d.k,d.name,num d.start,num d.fin,num d.off,num d.near,num d.least]
noncomputable def Aq (n:Int) (ds:List WD):List (List Str):=[Str.ofString "ring",num n] :: ds.map Wm
noncomputable def ww (n:Int) (ds:List WD):Str:=Str.join nl ((Aq n ds).map (Str.join bk))
noncomputable def qz (x:Str):Prop:=x.length ≤ 8∧(32:Nat) ∉ x.cps.toList∧(10:Nat) ∉ x.cps.toList
theorem iA (k:Nat):qz (wf k):=by
 match k with
 | 0=>exact ⟨by decide +kernel,by decide +kernel,by decide +kernel⟩
 | 1=>exact ⟨by decide +kernel,by decide +kernel,by decide +kernel⟩
 | _ + 2=>exact ⟨show (Str.ofString "tram").length ≤ 8 by decide +kernel,show (32:Nat) ∉ (Str.ofString "tram").cps.toList by decide +kernel,show (10:Nat) ∉ (Str.ofString "tram").cps.toList by decide +kernel⟩
theorem yh {v:Int} (h0:0 ≤ v) (h1:v < 1000):qz (num v):=
 ⟨Nat.le_trans (iI h0 (by omega)) (by decide),fun z=>by have:=Ky h0 h1 _ z;omega,fun z=>by have:=Ky h0 h1 _ z;omega⟩
theorem qA {x:Str} (h:made x qm 8=true):qz x:=
 ⟨(Ii h).1.2,fun z=>by have:=(Ii h).2 _ z;omega,fun z=>by have:=(Ii h).2 _ z;omega⟩
theorem WOk.plain {n:Int} {d:WD} (h:WOk n d) (hn:n ≤ 99):∀ x ∈ Wm d,qz x:=fun x hx=>by
 have h1:=h.st;have h2:=h.fi;have h3:=h.of;have h4:=h.nr;have h5:=h.le;simp only [Wm,List.mem_cons,List.not_mem_nil,or_false] at hx;rcases hx with rfl | rfl | rfl | rfl | rfl | rfl | rfl
 ·exact iA _
 ·exact qA h.nm
 ·exact yh (by omega) (by omega)
 ·exact yh (by omega) (by omega)
 ·exact yh (by omega) (by omega)
 ·exact yh (by omega) (by omega)
 ·exact yh (by omega) (by omega)
theorem COk.plain {n:Int} {ds:List WD} (h:COk n ds):∀ r ∈ Aq n ds,∀ x ∈ r,qz x:=fun r hr x hx=>by
 have hn:=h.nn;rcases List.mem_cons.mp hr with rfl | hr
 ·simp only [List.mem_cons,List.not_mem_nil,or_false] at hx;rcases hx with rfl | rfl
  ·exact ⟨by decide +kernel,by decide +kernel,by decide +kernel⟩
  ·exact yh (by omega) (by omega)
 ·obtain ⟨d,hd,rfl⟩:=List.mem_map.mp hr;exact (h.al d hd).plain hn.2 x hx
theorem kB {rs:List (List Str)} (h0:rs ≠ []) (h1:∀ r ∈ rs,r ≠ []) (h2:∀ r ∈ rs,∀ x ∈ r,qz x):mi (Str.join nl (rs.map (Str.join bk)))=rs:=by
 unfold mi;rw [lM,xM];rw [Zr (by simpa using h0) (fun y hy=>by
  obtain ⟨r,hr,rfl⟩:=List.mem_map.mp hy;rw [yw];intro z;rcases cH z with z | ⟨p,hp,z⟩
  ·cases z
  ·obtain ⟨x,hx,rfl⟩:=List.mem_map.mp hp;exact (h2 r hr x hx).2.2 z)]
 rw [List.map_map];have:∀ r ∈ rs,((fun r=>Txt.split r ⟨#[32]⟩) ∘ Str.join ⟨#[32]⟩) r=r:=fun r hr=>Zr (h1 r hr) fun x hx=>(h2 r hr x hx).2.1
 exact (List.map_congr_left this).trans (List.map_id rs)
theorem Yz {n:Int} {ds:List WD} (h:COk n ds):mi (ww n ds)=Aq n ds:=kB (by simp [Aq]) (fun r hr=>by
 rcases List.mem_cons.mp hr with rfl | hr
 ·simp
 ·obtain ⟨d,hd,rfl⟩:=List.mem_map.mp hr;simp [Wm]) h.plain
theorem Yw (sep:Str) (B:Nat):∀ ys:List Str,(∀ y ∈ ys,y.length ≤ B)→(Str.join sep ys).length ≤ ys.length * (B + sep.length)
 | [],_=>by show (Str.empty).length ≤ _;exact Nat.zero_le _
 | [a],h=>by
  have:=h a (by simp);show a.length ≤ _;simp only [List.length_cons,List.length_nil];omega
 | a :: b :: r,h=>by
  have h1:=h a (by simp);have h2:=Yw sep B (b :: r) fun y hy=>h y (List.mem_cons_of_mem _ hy)
  show (a ++ sep ++ Str.join sep (b :: r)).length ≤ _;rw [yB,yB,List.length_cons,Nat.succ_mul];omega
theorem JB {n:Int} {ds:List WD} (h:COk n ds):(ww n ds).length ≤ 1000:=by
 have h1:∀ y ∈ (Aq n ds).map (Str.join bk),y.length ≤ 63:=fun y hy=>by
  obtain ⟨r,hr,rfl⟩:=List.mem_map.mp hy;have:=Yw bk 8 r fun x hx=>(h.plain r hr x hx).1
  rw [jC] at this;have hl:r.length ≤ 7:=by
   rcases List.mem_cons.mp hr with rfl | hr
   ·simp
   ·obtain ⟨d,hd,rfl⟩:=List.mem_map.mp hr;simp [Wm]
  omega
 have h2:=Yw nl 63 _ h1;rw [Ix] at h2;have h3:((Aq n ds).map (Str.join bk)).length ≤ 13:=by
  have:=h.ln;simp [Aq];omega
 unfold ww;omega
end My
namespace My
open PySem L2
noncomputable abbrev ou:List Str:=[Str.ofString "row",Str.ofString "told",Str.ofString "place"]
noncomputable def rdF (row:Int) (ta:Addr) (pl:Int):List (Str × V):=[(Str.ofString "row",.int row),(Str.ofString "told",.ref ta),(Str.ofString "place",.int pl)]
theorem Hk (row:Int) (ta:Addr) (pl:Int):(rdF row ta pl).map (·.1)=ou:=rfl
theorem iJ (row:Int) (ta:Addr) (pl v:Int):Ih (Str.ofString "place") (.int v) (rdF row ta pl)=rdF row ta v:=by
 unfold rdF;simp only [Ih];rw [if_neg (by decide +kernel),if_neg (by decide +kernel)];rfl
noncomputable def Ig (t:Adr) (H:Hp) (p:Addr) (row:Int) (ws:List Str) (pl:Nat):Prop:=
 (ws.length ≤ 1000∧∀ x ∈ ws,x.length ≤ 1000)∧∃ dx ta,H p=some (.ins t.Cb dx (rdF row ta pl))∧H ta=some (.lst (dc ws))
noncomputable def bd (p:Addr) (H H':Hp):Prop:=∀ b u,b ≠ p→H b=some u→H' b=some u
theorem bd.trans {p:Addr} {H H1 H2:Hp} (a:bd p H H1) (b:bd p H1 H2):bd p H H2:=fun c u n e=>b c u n (a c u n e)
theorem bd.of {p:Addr} {H H1:Hp} (a:Ob H H1):bd p H H1:=fun c u _ e=>a c u e
theorem bd.put {p:Addr} {H:Hp} {o:HO}:bd p H (upd H p o):=fun c u n e=>by rw [wb n];exact e
theorem rp (ws:List Str):(dc ws).length=ws.length:=by unfold dc;rw [List.length_map]
theorem lF {ws:List Str} {i:Nat} {x:Str} (h:ws[i]? = some x):(dc ws)[i]? = some (.str x):=by unfold dc;rw [List.getElem?_map,h];rfl
theorem lr (ws:List Str):(dc ws).all ik=true:=by unfold dc;simp [ik]
theorem Ry (x:Str) (xs:List Str):inV (.str x) (dc xs)=decide (x ∈ xs):=by
 unfold inV dc;rw [List.any_map,Bool.eq_iff_iff];simp only [List.any_eq_true,Function.comp,eqV,beq_iff_eq,decide_eq_true_eq];constructor
 ·rintro ⟨y,hy,rfl⟩;exact hy
 ·intro h;exact ⟨x,h,rfl⟩
section
variable {w:World} {K:PySem.W.Frag} {mg:Str→Option Value} {t:Adr} {H H':Hp} {p:Addr} {row:Int} {ws:List Str} {pl:Nat}
theorem Ig.same (h:Ig t H p row ws pl) (s:Ob H H'):Ig t H' p row ws pl:=by
 obtain ⟨hz,dx,ta,e1,e2⟩:=h;exact ⟨hz,dx,ta,s _ _ e1,s _ _ e2⟩
theorem Ig.sameX {q:Addr} (h:Ig t H p row ws pl) (s:bd q H H') (n:p ≠ q) (k:∃ C dx fs,H q=some (.ins C dx fs)):Ig t H' p row ws pl:=by
 obtain ⟨hz,dx,ta,e1,e2⟩:=h;obtain ⟨C,dq,fs,e3⟩:=k;exact ⟨hz,dx,ta,s _ _ n e1,s _ _ (Mg e2 e3 (by intro z;cases z)) e2⟩
theorem Ig.ins (h:Ig t H p row ws pl):∃ C dx fs,H p=some (.ins C dx fs):=by
 obtain ⟨hz,dx,ta,e1,e2⟩:=h;exact ⟨_,_,_,e1⟩
theorem Ig.no {m:Str} (row:Int) (ta:Addr) (pl:Int) (h:ou.contains m=false):(rdF row ta pl).lookup m=none:=Nk ou (Hk ..) h
theorem Ps (T:Txt w K mg t) {dx ta:Addr} {pl:Int} (e:H p=some (.ins t.Cb dx (rdF row ta pl))):Hi K H p (Str.ofString "place") (.int pl):=
 ⟨_,dx,_,e,T.Ab,T.cf,Md ou 2 (Hk ..) (by decide +kernel) rfl⟩
theorem iw (T:Txt w K mg t) {dx ta:Addr} {pl:Int} (e:H p=some (.ins t.Cb dx (rdF row ta pl))):Hi K H p (Str.ofString "told") (.ref ta):=
 ⟨_,dx,_,e,T.Ab,T.Hh,Md ou 1 (Hk ..) (by decide +kernel) rfl⟩
end
noncomputable def VG (t:Adr):Sp:=fun vs H Q _=>∃ (p dx ta:Addr) (row:Int),vs=[.ref p,.int row,.ref ta]∧H p=some (.ins t.Cb dx [])∧Q .non (upd H p (.ins t.Cb dx (rdF row ta 0)))
noncomputable def Rk (t:Adr):Sp:=fun vs H Q _=>∃ p row ws pl,vs=[.ref p]∧Ig t H p row ws pl∧pl ≤ ws.length∧Q (.str (ws.getD pl (Str.ofString ""))) H
noncomputable def vE (t:Adr):Sp:=fun vs H Q _=>∃ p row ws pl,vs=[.ref p]∧Ig t H p row ws pl∧Q (.bl (decide (pl < ws.length))) H
noncomputable def pM (t:Adr) (H:Hp) (p:Addr) (row:Int) (ws:List Str) (pl:Nat) (R:Hp→Prop):Prop:=∀ H',bd p H H'→(NoT H→NoT H')→Ig t H' p row ws pl→R H'
noncomputable def wt (t:Adr):Sp:=fun vs H Q _=>∃ p row ws pl,vs=[.ref p,.bl true]∧Ig t H p row ws pl∧pM t H p row ws (pl + 1) (Q .non)
noncomputable def Ks (K:PySem.W.Frag) (t:Adr):Sp:=fun vs H Q _=>∃ p row ws pl x c xs,vs=[.ref p,.ref c]∧Ig t H p row ws pl∧ws[pl]? = some x∧SqL K H c (dc xs)∧x ∈ xs∧pM t H p row ws (pl + 1) (Q (.str x))
noncomputable def ut (t:Adr):Sp:=fun vs H Q _=>∃ p row ws pl x lo hi v,vs=[.ref p,.int lo,.int hi]∧Ig t H p row ws pl∧ws[pl]? = some x∧JE x lo hi=.int v∧NoT H∧pM t H p row ws (pl + 1) (Q (.int v))
noncomputable def DD (t:Adr):Sp:=fun vs H Q _=>∃ p row ws pl,vs=[.ref p]∧Ig t H p row ws pl∧pl=ws.length∧Q .non H
section
variable {P:Program} {w:World} {K:PySem.W.Frag} {mg:Str→Option Value} {base:Heap} {t:Adr}
theorem AK (T:Txt w K mg t):Eb P w K mg base CX0 1 t.Qd t.Ie q28 (VG t):=by
 refine T.ki.ok Mi (fun vs H Q E h=>?_) (fun _ _ _ s H vs Q E hr h=>?_)
 ·obtain ⟨p,dx,ta,row,rfl,_⟩:=h;rfl
 obtain ⟨p,dx,ta,row,rfl,hp,q⟩:=h;refine ⟨_,(fb (lf (pv 0) (pv 1) rfl)
   (fb (lf (pv 0) (pv 2) rfl)
   (lb (lf (pv 0) rb rfl)))),?_⟩
 walk_at "RD";refine ⟨_,_,_,hp,T.Ab,T.xn,by decide,?_⟩;refine ⟨_,_,_,db,T.Ab,T.Hh,Xl (n:=999) (by decide),?_⟩;refine ⟨_,_,_,db,T.Ab,T.cf,Xl (n:=999) (Xl (n:=998) (by decide)),?_⟩;simp only [im];rw [show Ih (Str.ofString "row") (V.int row) ([]:List (Str × V))=[(Str.ofString "row",V.int row)] from ed [] rfl (by decide +kernel),
  show Ih (Str.ofString "told") (V.ref ta) ([(Str.ofString "row",V.int row)]:List (Str × V))=[(Str.ofString "row",V.int row),(Str.ofString "told",V.ref ta)] from ed [Str.ofString "row"] rfl (by decide +kernel),
  show Ih (Str.ofString "place") (V.int 0) ([(Str.ofString "row",V.int row),(Str.ofString "told",V.ref ta)]:List (Str × V))=[(Str.ofString "row",V.int row),(Str.ofString "told",V.ref ta),(Str.ofString "place",V.int 0)] from ed [Str.ofString "row",Str.ofString "told"] rfl (by decide +kernel)]
 exact q
theorem io (T:Txt w K mg t):Eb P w K mg base CX0 1 t.gc t.Ac ["self"] (Rk t):=by
 refine T.Jh.ok Gk (fun vs H Q E h=>?_) (fun _ _ _ s H vs Q E hr h=>?_)
 ·obtain ⟨p,row,ws,pl,rfl,_⟩:=h;rfl
 obtain ⟨p,row,ws,pl,rfl,⟨hz,dx,ta,e1,e2⟩,hle,q⟩:=h;refine ⟨_,(fb (Se (Zb vj (Ub (pv 0) rfl) (Pb Gb rfl T.di Tb (cb (Ub (pv 0) rfl) gb)) (Vb _)) (lb (Db Vd)) jc)
   (lb (Db (uc Vc (Ub (pv 0) rfl) (Ub (pv 0) rfl))))),?_⟩
 walk_at "RD";refine zc (decide ((pl:Int)=(ws.length:Int))) (fun Q hQ=>?_) (fun c=>?_) (fun c=>?_)
 ·walk_at "RD";refine ⟨_,Ps T e1,_,iw T e1,_,rfl,_,.inl (SqL.of e2),rfl,?_⟩;rw [rp];walk_at "RD";exact hQ
 ·walk_at "RD";have c':pl=ws.length:=by have:=of_decide_eq_true c;omega
  rw [show ws.getD pl (Str.ofString "")=Str.ofString "" by rw [List.getD_eq_getElem?_getD,List.getElem?_eq_none (by omega)];rfl] at q;exact q
 ·walk_at "RD";have c':pl < ws.length:=by have:=of_decide_eq_false c;omega
  have hx:ws[pl]? = some ws[pl]:=List.getElem?_eq_getElem c';rw [List.getD_eq_getElem?_getD,hx] at q;exact ⟨_,iw T e1,_,Ps T e1,_,rfl,_,_,rfl,SqL.of e2,_,Fc (lF hx),q⟩
theorem zI (T:Txt w K mg t):Eb P w K mg base CX0 1 t.Mc t.zd ["self"] (vE t):=by
 refine T.eg.ok Ki (fun vs H Q E h=>?_) (fun _ _ _ s H vs Q E hr h=>?_)
 ·obtain ⟨p,row,ws,pl,rfl,_⟩:=h;rfl
 obtain ⟨p,row,ws,pl,rfl,⟨hz,dx,ta,e1,e2⟩,q⟩:=h;refine ⟨_,(lb (Db (je Bu (Ub (pv 0) rfl) (Pb Gb rfl T.di Tb (cb (Ub (pv 0) rfl) gb)) (Vb _)))),?_⟩;walk_at "RD";have e:decide (pl < ws.length)=decide ((pl:Int) < (ws.length:Int)):=by rw [Bool.eq_iff_iff];simp
 rw [e] at q;refine ⟨_,Ps T e1,_,iw T e1,_,rfl,_,.inl (SqL.of e2),?_⟩;rw [rp];exact ⟨_,rfl,q⟩
theorem aw (T:Txt w K mg t):Eb P w K mg base CX0 1 t.Gc t.Xc q16 (wt t):=by
 refine T.Ai.ok Hm (fun vs H Q E h=>?_) (fun _ _ _ s H vs Q E hr h=>?_)
 ·obtain ⟨p,row,ws,pl,rfl,_⟩:=h;rfl
 obtain ⟨p,row,ws,pl,rfl,⟨hz,dx,ta,e1,e2⟩,q⟩:=h;refine ⟨_,(fb (Se (Zm (Si (pv 1))) (lb og) jc)
   (lb (AE (pv 0) rb AL))),?_⟩
 walk_at "RD";refine zc false (fun Q hQ=>?_) (fun hc=>nomatch hc) (fun _=>?_)
 ·walk_at "RD";exact hQ
 ·walk_at "RD";refine ⟨_,_,_,e1,T.Ab,T.cf,_,Md ou 2 (Hk ..) (by decide +kernel) rfl,_,rfl,_,_,e1,by rw [← List.length_map (f:=(·.1)),Hk];decide,?_⟩;rw [iJ];exact q _ bd.put (fun n=>n.upd) ⟨hz,dx,ta,db,by rw [wb (Mg e2 e1 (by intro z;cases z))];exact e2⟩
theorem Hx (T:Txt w K mg t):Eb P w K mg base CX0 2 t.Ec t.gd q29 (Ks K t):=by
 have g10:Eb P w K mg base CX0 1 t.gc t.Ac ["self"] (Rk t):=io T;have g14:Eb P w K mg base CX0 1 t.Gc t.Xc q16 (wt t):=aw T;refine T.Ng.ok xg (fun vs H Q E h=>?_) (fun _ _ _ s H vs Q E hr h=>?_)
 ·obtain ⟨p,row,ws,pl,x,c,xs,rfl,_⟩:=h;rfl
 obtain ⟨p,row,ws,pl,x,c,xs,rfl,R,hx,hc,hm,q⟩:=h;refine ⟨_,(fb (yb (i:=2) xg.nd (Je (pv 0) T.Ab T.oe g10 hr T.qe .nil Rc))
   (fb (Uc (qd (pv 0) T.Ab T.ag g14 hr T.bg .nil Rc (cb (je Xo (pv 2) (pv 1) (by with_unfolding_all rfl)) gb)))
   (lb (Db (pv 2))))),?_⟩
 have hlt:pl < ws.length:=(List.getElem?_eq_some_iff.mp hx).1;have hg:ws.getD pl (Str.ofString "")=x:=by rw [List.getD_eq_getElem?_getD,hx];rfl
 obtain ⟨_,dx,ta,e1,e2⟩:=id R;walk_at "RD";refine ⟨_,_,e1,Ig.no _ _ _ (by decide +kernel),⟨p,row,ws,pl,rfl,R,by omega,?_⟩⟩;rw [hg];walk_at "RD";refine ⟨_,_,e1,Ig.no _ _ _ (by decide +kernel),_,.inl hc,rfl,lr xs,?_⟩;rw [Ry,decide_eq_true hm];refine ⟨p,row,ws,pl,rfl,R,fun H' s1 s2 s3=>?_⟩;walk_at "RD";exact q H' s1 s2 s3
theorem Uw (T:Txt w K mg t):Eb P w K mg base CX0 4 t.fc t.xc q21 (ut t):=by
 have g10:Eb P w K mg base CX0 3 t.gc t.Ac ["self"] (Rk t):=(io T).mono (by decide);have g14:Eb P w K mg base CX0 3 t.Gc t.Xc q16 (wt t):=(aw T).mono (by decide);have g29:Eb P w K mg base CX0 3 t.Vl t.zl q33 WG:=mL T;refine T.Kg.ok ig (fun vs H Q E h=>?_) (fun _ _ _ s H vs Q E hr h=>?_)
 ·obtain ⟨p,row,ws,pl,x,lo,hi,v,rfl,_⟩:=h;rfl
 obtain ⟨p,row,ws,pl,x,lo,hi,v,rfl,R,hx,hv,nt,q⟩:=h;refine ⟨_,(fb (yb (i:=3) ig.nd (ub g29 hr T.UD T.Wo.kp T.qC (cb (Je (pv 0) T.Ab T.oe g10 hr T.qe .nil Rc) (cb (pv 1) (cb (pv 2) gb)))))
   (fb (Uc (qd (pv 0) T.Ab T.ag g14 hr T.bg .nil Rc (cb (je LI (pv 3) Jl (Vb _)) gb)))
   (lb (Db (pv 3))))),?_⟩
 have hlt:pl < ws.length:=(List.getElem?_eq_some_iff.mp hx).1;have hg:ws.getD pl (Str.ofString "")=x:=by rw [List.getD_eq_getElem?_getD,hx];rfl
 obtain ⟨hz,dx,ta,e1,e2⟩:=id R;walk_at "RD";refine ⟨_,_,e1,Ig.no _ _ _ (by decide +kernel),⟨p,row,ws,pl,rfl,R,by omega,?_⟩⟩;rw [hg];walk_at "RD";refine ⟨x,lo,hi,rfl,hz.2 x (List.mem_of_getElem? hx),nt,?_⟩;rw [hv];walk_at "RD";refine ⟨_,_,e1,Ig.no _ _ _ (by decide +kernel),?_⟩;refine ⟨p,row,ws,pl,rfl,R,fun H' s1 s2 s3=>?_⟩;walk_at "RD";exact q H' s1 s2 s3
theorem uH (T:Txt w K mg t):Eb P w K mg base CX0 2 t.Dc t.jd ["self"] (DD t):=by
 have g30:Eb P w K mg base CX0 1 t.Mc t.zd ["self"] (vE t):=zI T;refine T.Rg.ok zk (fun vs H Q E h=>?_) (fun _ _ _ s H vs Q E hr h=>?_)
 ·obtain ⟨p,row,ws,pl,rfl,_⟩:=h;rfl
 obtain ⟨p,row,ws,pl,rfl,R,hl,q⟩:=h;obtain ⟨hz,dx,ta,e1,e2⟩:=id R;refine ⟨_,(lb (Se (Si (Je (pv 0) T.Ab T.wj g30 hr T.xj .nil Rc)) (lb og) jc)),?_⟩;walk_at "RD";refine zc false (fun Q hQ=>?_) (fun hc=>nomatch hc) (fun _=>?_)
 ·walk_at "RD";refine ⟨_,_,e1,Ig.no _ _ _ (by decide +kernel),⟨p,row,ws,pl,rfl,R,?_⟩⟩;rw [decide_eq_false (by omega)];exact ⟨_,rfl,hQ⟩
 ·walk_at "RD";exact q
end
end My
namespace My
open PySem L2
theorem Xb {α β:Type} {f:α→β} {l:List α} {i:Nat} {y:β} (h:(l.map f)[i]? = some y):∃ x,l[i]? = some x∧y=f x:=by
 rw [List.getElem?_map] at h;cases e:l[i]? with
 | none=>rw [e] at h;cases h
 | some x=>rw [e] at h;exact ⟨x,rfl,(Option.some.inj h).symm⟩
noncomputable def UL (t:Adr) (H0 H:Hp) (p:Addr) (rows:List (List Str)):Prop:=∃ qs:List Addr,H p=some (.lst (qs.map V.ref))∧H0 p=none∧qs.length=rows.length∧∀ (i:Nat) (q:Addr) (r:List Str),qs[i]? = some q→rows[i]? = some r→Ig t H q i r 0∧H0 q=none
noncomputable def xr (t:Adr):Sp:=fun vs H Q _=>∃ x,vs=[.str x]∧x.length ≤ 20000∧(∀ r ∈ mi x,r.length ≤ 1000∧∀ y ∈ r,y.length ≤ 1000)∧NoT H∧∀ p H',Ob H H'→NoT H'→UL t H H' p (mi x)→Q (.ref p) H'
section
variable {P:Program} {w:World} {K:PySem.W.Frag} {mg:Str→Option Value} {base:Heap} {t:Adr}
theorem zz (T:Txt w K mg t):Eb P w K mg base CX0 3 t.Bl t.yl ["text"] (xr t):=by
 have g31:Eb P w K mg base CX0 2 t.ft t.Yt ["text"] yy:=(nG T).mono (by decide);have g32:Eb P w K mg base CX0 1 t.Qd t.Ie q28 (VG t):=AK T;refine T.Co.ok Ez (fun vs H Q E h=>?_) (fun _ _ _ s H vs Q E hr h=>?_)
 ·obtain ⟨x,rfl,_⟩:=h;rfl
 obtain ⟨x,rfl,hz,hrow,nt,q⟩:=h;refine ⟨_,(lb (Db (Rh rfl (Ak rfl T.Ke (cb (ub g31 hr T.xI T.lw.kp T.pI (cb (pv 0) gb)) gb)) (Lc (sc:=pb jp) rfl (by decide +kernel)) (N:=["row","told"]) (sel:=[none,none]) (yd (M:=["text"]) (by decide +kernel)) (Blk.of (fun _ _ _ _=>(Hd (K:=K) (n:=2) rfl rfl (zb (qb (i:=0) (Dg (N:=["row","told"]) (by decide +kernel) rfl)) (zb (qb (i:=1) (Dg (N:=["row","told"]) (by decide +kernel) rfl)) Ed)))) (fun _ _ _ _=>⟨_,rf,by walk_at "B"⟩) (fun _ _ _ _=>⟨_,(cm T.Xw g32 hr rfl T.mw T.yn .nil Rc (cb (pv 0) (cb (pv 1) gb))),by walk_at "B"⟩))))),?_⟩;walk_at "RD";refine ⟨x,rfl,hz,nt,fun p H1 sm1 nt1 ⟨ps,hp,hp0,hpn,hpl,hpa⟩=>?_⟩;walk_at "RD";refine ⟨⟨_,SqL.of hp⟩,?_⟩;have hlen:ps.length ≤ sizeLine:=by
  rw [hpl];unfold mi;rw [List.length_map];have:=Uo (x:=x) (y:=nl) (by rw [Ix];exact Nat.le_refl _);exact Nat.le_trans (show _ ≤ 40000 by omega) (by decide)
 refine vd.enum (xs:=ps.map V.ref) (fun i ys H2=>Ob H1 H2∧NoT H2∧∃ qs:List Addr,ys=qs.map V.ref∧qs.length=i∧∀ (j:Nat) (q:Addr) (r:List Str),qs[j]? = some q→(mi x)[j]? = some r→Ig t H2 q j r 0∧H1 q=none)
  (by rw [List.length_map];exact hlen) ⟨Ob.refl H1,nt1,[],rfl,rfl,fun j q r h _=>by simp at h⟩ ?_ ?_ ?_
 ·rintro i ys H2 hi zzq;refine zP fun zzM zzh=>?_
  obtain ⟨s2,n2,qs,rfl,hq,_⟩:=zzq;subst zzh;exact ⟨SqL.of (s2 _ _ hp),by rw [List.length_map];omega⟩
 ·rintro i v ys H2 p2 hv ⟨s2,n2,qs,rfl,hq,al⟩ hp2 N hN;rw [List.getElem?_map] at hv;cases hpi:ps[i]? with
  | none=>rw [hpi] at hv;cases hv
  | some pi=>
   rw [hpi] at hv;have e:=(Option.some.inj hv).symm;subst e;refine Xf ?_;walk_at "RD";refine ⟨Sub.name2,fun a dx ha hd hne=>?_⟩;refine ⟨a,dx,pi,i,rfl,db,rfl,?_⟩;rw [im];have s3:Ob H2 (upd (upd (upd H2 p2 (.tup [.int i,.ref pi])) dx (.own a)) a (.ins t.Cb dx (rdF i pi 0))):=by
    have s':Ob H2 (upd H2 p2 (.tup [.int i,.ref pi])):=jb hp2;exact ((Ob.trans s' (jb hd)).updN (s'.free ha))
   obtain ⟨r,hr⟩:∃ r,(mi x)[i]? = some r:=⟨(mi x)[i]'(by rw [← hpl];exact (List.getElem?_eq_some_iff.mp hpi).1),List.getElem?_eq_getElem _⟩;have ha2:H2 a=none:=(jb hp2).free ha;refine hN _ _ ⟨s2.trans s3,((n2.upd).upd).upd,qs ++ [a],by rw [List.map_append];rfl,by rw [List.length_append,hq];rfl,fun j q' r' h1 h2=>?_⟩;by_cases hj:j < qs.length
   ·rw [List.getElem?_append_left hj] at h1;obtain ⟨z1,z2⟩:=al j q' r' h1 h2;exact ⟨z1.same s3,z2⟩
   ·rw [List.getElem?_append_right (by omega)] at h1;have hj0:j - qs.length=0:=by
     cases hh:j - qs.length with
     | zero=>rfl
     | succ n=>rw [hh] at h1;simp at h1
    rw [hj0] at h1;have e3:a=q':=by simpa using h1
    subst e3;have e4:j=i:=by omega
    subst e4;rw [hr] at h2;cases h2;refine ⟨⟨hrow r (List.mem_of_getElem? hr),dx,pi,db,?_⟩,s2.free ha2⟩;exact s3 _ _ (s2 _ _ (hpa j pi r hpi hr).1)
 ·rintro ys H2 ⟨s2,n2,qs,rfl,hq,al⟩ p2 hp2;refine q p2 _ ((sm1.trans s2).updN ((sm1.trans s2).free hp2)) (n2.upd) ⟨qs,db,(sm1.trans s2).free hp2,by rw [hq,List.length_map,hpl],fun i q' r h1 h2=>?_⟩;obtain ⟨z1,z2⟩:=al i q' r h1 h2;exact ⟨z1.same (jb hp2),sm1.free z2⟩
end
noncomputable def yN (q:Addr) (H:Hp) (R:Hp→Prop):Prop:=∀ H',bd q H H'→NoT H'→R H'
noncomputable def LC (t:Adr):Sp:=fun vs H Q _=>∃ q row n,vs=[.ref q]∧Ig t H q row [Str.ofString "ring",num n] 0∧(2 ≤ n∧n ≤ 99)∧NoT H∧yN q H (Q (.int n))
noncomputable def Ti (t:Adr) (H:Hp) (wl:Addr) (ds:List WD):Prop:=∃ as:List Addr,H wl=some (.lst (as.map V.ref))∧as.length=ds.length∧∀ (i:Nat) (a:Addr) (d:WD),as[i]? = some a→ds[i]? = some d→se t H a d
noncomputable def Wr (t:Adr):Sp:=fun vs H Q _=>∃ q row ws pl wl ds x,vs=[.ref q,.ref wl]∧Ig t H q row ws pl∧ws[pl]? = some x∧made x qm 8=true∧Ti t H wl ds∧ds.length ≤ 12∧(∀ d ∈ ds,d.name ≠ x)∧NoT H ∧
 ∀ H',bd q H H'→NoT H'→Ig t H' q row ws (pl + 1)→Q (.str x) H'
noncomputable def IG (t:Adr):Sp:=fun vs H Q _=>∃ q row ws pl n st fi,vs=[.ref q,.int n,.int st]∧Ig t H q row ws pl∧ws[pl]? = some (num fi)∧(0 ≤ st∧st < n)∧(0 ≤ fi∧fi < n)∧st ≠ fi∧n ≤ 99∧NoT H ∧
 ∀ H',bd q H H'→NoT H'→Ig t H' q row ws (pl + 1)→Q (.int fi) H'
noncomputable def Jx (t:Adr):Sp:=fun vs H Q _=>∃ d:WD,vs=[.str (wf d.k),.str d.name,.int d.start,.int d.fin,.int d.off,.int d.near,.int d.least]∧d.k < 3∧∀ x H',Ob H H'→(NoT H→NoT H')→se t H' x d→H x=none→Q (.ref x) H'
noncomputable def CH (t:Adr):Sp:=fun vs H Q _=>∃ q row n wl ds d,vs=[.ref q,.int n,.ref wl]∧Ig t H q row (Wm d) 0∧WOk n d∧(2 ≤ n∧n ≤ 99)∧Ti t H wl ds∧ds.length ≤ 12∧(∀ e ∈ ds,e.name ≠ d.name)∧NoT H ∧
 ∀ x H',bd q H H'→NoT H'→se t H' x d→H x=none→Q (.ref x) H'
theorem Ti.sameX {t:Adr} {H H':Hp} {q wl:Addr} {ds:List WD} {row:Int} {ws:List Str} {pl:Nat} (h:Ti t H wl ds) (s:bd q H H') (r:Ig t H q row ws pl):Ti t H' wl ds:=by
 obtain ⟨as,e1,e2,al⟩:=h;obtain ⟨hz,dx,ta,e3,e4⟩:=r;refine ⟨as,s _ _ (Mg e1 e3 (by intro z;cases z)) e1,e2,fun i a d h1 h2=>?_⟩;obtain ⟨hk,dx',e5⟩:=al i a d h1 h2;refine ⟨hk,dx',s _ _ (fun z=>?_) e5⟩;subst z;rw [e5] at e3;have e6:=Option.some.inj e3;injection e6 with _ _ e8;have e9:(7:Nat)=3:=congrArg List.length e8;omega
theorem Ti.same {t:Adr} {H H':Hp} {wl:Addr} {ds:List WD} (h:Ti t H wl ds) (s:Ob H H'):Ti t H' wl ds:=by
 obtain ⟨as,e1,e2,al⟩:=h;exact ⟨as,s _ _ e1,e2,fun i a d h1 h2=>(al i a d h1 h2).same s⟩
section
variable {P:Program} {w:World} {K:PySem.W.Frag} {mg:Str→Option Value} {base:Heap} {t:Adr}
theorem OI (T:Txt w K mg t):Eb P w K mg base CX0 5 t.Vh t.bi ["reader"] (LC t):=by
 have g17:Eb P w K mg base CX0 4 t.Ec t.gd q29 (Ks K t):=(Hx T).mono (by decide);have g9:Eb P w K mg base CX0 4 t.fc t.xc q21 (ut t):=Uw T;have g18:Eb P w K mg base CX0 4 t.Dc t.jd ["self"] (DD t):=(uH T).mono (by decide);refine T.yk.ok cn (fun vs H Q E h=>?_) (fun _ _ _ s H vs Q E hr h=>?_)
 ·obtain ⟨q,row,n,rfl,_⟩:=h;rfl
 obtain ⟨q,row,n,rfl,R,hn,nt,qq⟩:=h;refine ⟨_,(fb (Uc (qd (pv 0) T.Ab T.Sg g17 hr T.dh .nil Rc (cb (dg (cb Vd gb)) gb)))
   (fb (yb (i:=1) cn.nd (qd (pv 0) T.Ab T.Bc g9 hr T.yc .nil Rc (cb (Jd rfl T.Mq T.gq) (cb (Jd rfl T.Ts T.Es) gb))))
   (fb (Uc (Je (pv 0) T.Ab T.bh g18 hr T.Og .nil Rc))
   (lb (Db (pv 1)))))),?_⟩
 obtain ⟨_,dx,ta,e1,e2⟩:=id R;walk_at "RD";refine ⟨_,_,e1,Ig.no _ _ _ (by decide +kernel),by decide,fun p hp=>?_⟩;have s0:Ob H (upd H p (.lst [V.str (Str.ofString "ring")])):=jb hp;refine ⟨q,row,_,0,Str.ofString "ring",p,[Str.ofString "ring"],rfl,R.same s0,rfl,SqL.of db,by simp,fun H1 s1 n1 R1=>?_⟩;obtain ⟨_,dx1,ta1,f1,f2⟩:=id R1;walk_at "RD";refine ⟨_,_,f1,Ig.no _ _ _ (by decide +kernel),?_⟩;have nt1:=n1 nt.upd;refine ⟨q,row,_,1,num n,2,99,n,rfl,R1,rfl,wm (by omega) (by omega) hn.1 hn.2,nt1,fun H2 s2 n2 R2=>?_⟩;obtain ⟨_,dx2,ta2,g1,g2⟩:=id R2;walk_at "RD";refine ⟨_,_,g1,Ig.no _ _ _ (by decide +kernel),?_⟩;refine ⟨q,row,_,2,rfl,R2,rfl,?_⟩;walk_at "RD";exact qq H2 (((bd.of s0).trans s1).trans s2) (n2 nt1)
theorem vA (T:Txt w K mg t):Eb P w K mg base CX0 3 t.Ue t.Xe q34 (Wr t):=by
 have g10:Eb P w K mg base CX0 2 t.gc t.Ac ["self"] (Rk t):=(io T).mono (by decide);have g14:Eb P w K mg base CX0 2 t.Gc t.Xc q16 (wt t):=(aw T).mono (by decide);have g33:Eb P w K mg base CX0 2 t.Pl t.Wl ["word"] bE:=VI T;refine T.Gg.ok Ci (fun vs H Q E h=>?_) (fun _ _ _ s H vs Q E hr h=>?_)
 ·obtain ⟨q,row,ws,pl,wl,ds,x,rfl,_⟩:=h;rfl
 obtain ⟨q,row,ws,pl,wl,ds,x,rfl,R,hx,hm,hW,hdl,hnew,nt,qq⟩:=h;refine ⟨_,(fb (yb (i:=2) Ci.nd (Je (pv 0) T.Ab T.oe g10 hr T.qe .nil Rc))
   (fb (Uc (qd (pv 0) T.Ab T.ag g14 hr T.bg .nil Rc (cb (Br (ub g33 hr T.dB T.Ep.kp T.GB (cb (pv 2) gb)) (Wp (je Zu (pv 2) (Rh rfl (ce (pv 1)) (Lc (sc:=pb Eg) rfl (by decide +kernel)) (N:=["way"]) (sel:=[none]) (yd (M:=["reader","ways","name"]) (by decide +kernel)) (Blk.of (fun _ _ _ _=>(qb (i:=0) (Dg (N:=["way"]) (by decide +kernel) rfl))) (fun _ _ _ _=>⟨_,rf,by walk_at "B"⟩) (fun _ _ _ _=>⟨_,(Ub (pv 0) rfl),by walk_at "B"⟩))) (by with_unfolding_all rfl)))) gb)))
   (lb (Db (pv 2))))),?_⟩
 have hlt:pl < ws.length:=(List.getElem?_eq_some_iff.mp hx).1;have hg:ws.getD pl (Str.ofString "")=x:=by rw [List.getD_eq_getElem?_getD,hx];rfl
 obtain ⟨hz,dx,ta,e1,e2⟩:=id R;walk_at "RD";refine ⟨_,_,e1,Ig.no _ _ _ (by decide +kernel),⟨q,row,ws,pl,rfl,R,by omega,?_⟩⟩;rw [hg];walk_at "RD";refine ⟨_,_,e1,Ig.no _ _ _ (by decide +kernel),?_⟩;refine ⟨x,rfl,hz.2 x (List.mem_of_getElem? hx),nt,?_⟩;rw [hm];walk_at "RD";obtain ⟨as,w1,w2,al⟩:=hW;refine ⟨⟨_,SqL.of w1⟩,?_⟩;have hle:(as.map V.ref).length ≤ sizeLine:=by rw [List.length_map,w2];exact Nat.le_trans hdl (by decide)
 refine vd.list_zs (xs:=as.map V.ref) (zs:=ds.map fun d=>V.str d.name) (SqL.of w1) hle (by rw [List.length_map,List.length_map,w2]) (fun i v z N hv hz' hN=>?_) (fun p hp=>?_)
 ·obtain ⟨a,ha,rfl⟩:=Xb hv;obtain ⟨d,hd,rfl⟩:=Xb hz';walk_at "RD";exact ⟨Sub.name,_,(al i a d ha hd).f_name T,hN⟩
 ·walk_at "RD";have e0:(ds.map fun d=>V.str d.name)=dc (ds.map (·.name)):=by unfold dc;rw [List.map_map];rfl
  rw [e0];refine ⟨_,.inl (SqL.of db),rfl,lr _,?_⟩;rw [Ry,decide_eq_false (fun z=>by
   obtain ⟨d,hd,e⟩:=List.mem_map.mp z;exact hnew d hd e)]
  have s0:Ob H (upd H p (.lst (dc (ds.map (·.name))))):=jb hp;exact ⟨q,row,ws,pl,rfl,R.same s0,fun H' s1 n1 R1=>qq H' ((bd.of s0).trans s1) (n1 nt.upd) R1⟩
theorem HK (T:Txt w K mg t):Eb P w K mg base CX0 5 t.kj t.sj q23 (IG t):=by
 have g10:Eb P w K mg base CX0 4 t.gc t.Ac ["self"] (Rk t):=(io T).mono (by decide);have g9:Eb P w K mg base CX0 4 t.fc t.xc q21 (ut t):=Uw T;refine T.Nm.ok Tw (fun vs H Q E h=>?_) (fun _ _ _ s H vs Q E hr h=>?_)
 ·obtain ⟨q,row,ws,pl,n,st,fi,rfl,_⟩:=h;rfl
 obtain ⟨q,row,ws,pl,n,st,fi,rfl,R,hx,hst,hfi,hne,hn,nt,qq⟩:=h;refine ⟨_,(fb (Se (Zb vj (Je (pv 0) T.Ab T.oe g10 hr T.qe .nil Rc) (Nd qu rfl T.nM Lz (cb (pv 2) gb)) (Vb _)) (lb og) jc)
   (lb (Db (qd (pv 0) T.Ab T.Bc g9 hr T.yc .nil Rc (cb rb (cb (bc Wf (pv 1) rb) gb)))))),?_⟩
 have hlt:pl < ws.length:=(List.getElem?_eq_some_iff.mp hx).1;have hg:ws.getD pl (Str.ofString "")=num fi:=by rw [List.getD_eq_getElem?_getD,hx];rfl
 obtain ⟨hz,dx,ta,e1,e2⟩:=id R;walk_at "RD";refine zc false (fun Q hQ=>?_) (fun hc=>nomatch hc) (fun _=>?_)
 ·walk_at "RD";refine ⟨_,_,e1,Ig.no _ _ _ (by decide +kernel),⟨q,row,ws,pl,rfl,R,by omega,?_⟩⟩;rw [hg];walk_at "RD";refine ⟨pC (by omega),?_⟩;rw [decide_eq_false (fun z=>hne (dI (by omega) (by omega) (by omega) (by omega) z).symm)];exact hQ
 ·walk_at "RD";refine ⟨_,_,e1,Ig.no _ _ _ (by decide +kernel),⟨q,row,ws,pl,num fi,0,n - 1,fi,rfl,R,hx,wm (by omega) (by omega) (by omega) (by omega),nt,fun H1 s1 n1 R1=>?_⟩⟩;exact qq H1 s1 (n1 nt) R1
theorem qL {t:Adr} {H:Hp} {x dx:Addr} {d:WD} (hx:H x=none) (hd:H dx=none) (hk:d.k < 3) :
  Ob H (upd (upd (upd H dx (.own x)) x (.ins (t.cw d.k) dx [])) x (.ins (t.cw d.k) dx (Dn d)))∧(NoT H→NoT (upd (upd (upd H dx (.own x)) x (.ins (t.cw d.k) dx [])) x (.ins (t.cw d.k) dx (Dn d)))) ∧
   se t (upd (upd (upd H dx (.own x)) x (.ins (t.cw d.k) dx [])) x (.ins (t.cw d.k) dx (Dn d))) x d:=
 ⟨(((Ob.refl H).updN hd).updN hx).updN hx,fun n=>((n.upd).upd).upd,hk,dx,db⟩
theorem dF (T:Txt w K mg t):Eb P w K mg base CX0 4 t.pj t.rj q24 (Jx t):=by
 have g34:Eb P w K mg base CX0 2 t.af t.kg q10 (ij t 0):=DI T;have g35:Eb P w K mg base CX0 2 t.Fe t.Df q10 (ij t 1):=kG T;have g36:Eb P w K mg base CX0 2 t.Ge t.Hf q10 (ij t 2):=sG T;refine T.gm.ok Jw (fun vs H Q E h=>?_) (fun _ _ _ s H vs Q E hr h=>?_)
 ·obtain ⟨d,rfl,_⟩:=h;rfl
 obtain ⟨d,rfl,hk,q⟩:=h;refine ⟨_,(fb (Se (Zb vj (pv 0) Vd (Vb _)) (lb (Db (cm T.JF g34 hr rfl T.fF T.Ht .nil Rc (cb (pv 1) (cb (pv 2) (cb (pv 3) (cb (pv 4) (cb (pv 5) (cb (pv 6) gb))))))))) jc)
   (fb (Se (Zb vj (pv 0) Vd (Vb _)) (lb (Db (cm T.xB g35 hr rfl T.cD T.Jq .nil Rc (cb (pv 1) (cb (pv 2) (cb (pv 3) (cb (pv 4) (cb (pv 5) (cb (pv 6) gb))))))))) jc)
   (lb (Db (cm T.RB g36 hr rfl T.AD T.Yq .nil Rc (cb (pv 1) (cb (pv 2) (cb (pv 3) (cb (pv 4) (cb (pv 5) (cb (pv 6) gb))))))))))),?_⟩
 have fin:∀ (x dx:Addr),H x=none→H dx=none→Q (.ref x) (upd (upd (upd H dx (.own x)) x (.ins (t.cw d.k) dx [])) x (.ins (t.cw d.k) dx (Dn d))):=fun x dx hx hd=>by
  obtain ⟨m1,m2,m3⟩:=qL (t:=t) (d:=d) hx hd hk;exact q x _ m1 m2 m3 hx
 obtain ⟨k,name,start,fi,off,near,least⟩:=d
 match k,hk with
 | 0,_=>
  (walk_at "RD"; repeat (dsimp only [wf];walk_at "RD"));refine zc true (fun Q hQ=>?_) (fun _=>?_) (fun hc=>nomatch hc)
  ·walk_at "RD";exact hQ
  ·walk_at "RD";exact fun x dx hx hd hne=>⟨x,dx,⟨0,name,start,fi,off,near,least⟩,rfl,rfl,db,rfl,fin x dx hx hd⟩
 | 1,_=>
  (walk_at "RD"; repeat (dsimp only [wf];walk_at "RD"));refine zc false (fun Q hQ=>?_) (fun hc=>nomatch hc) (fun _=>?_)
  ·walk_at "RD";rw [decide_eq_false (by decide +kernel)];exact hQ
  ·walk_at "RD";refine zc true (fun Q hQ=>?_) (fun _=>?_) (fun hc=>nomatch hc)
   ·walk_at "RD";exact hQ
   ·walk_at "RD";exact fun x dx hx hd hne=>⟨x,dx,⟨1,name,start,fi,off,near,least⟩,rfl,rfl,db,rfl,fin x dx hx hd⟩
 | 2,_=>
  (walk_at "RD"; repeat (dsimp only [wf];walk_at "RD"));refine zc false (fun Q hQ=>?_) (fun hc=>nomatch hc) (fun _=>?_)
  ·walk_at "RD";rw [decide_eq_false (by decide +kernel)];exact hQ
  ·walk_at "RD";refine zc false (fun Q hQ=>?_) (fun hc=>nomatch hc) (fun _=>?_)
   ·walk_at "RD";rw [decide_eq_false (by decide +kernel)];exact hQ
   ·walk_at "RD";exact fun x dx hx hd hne=>⟨x,dx,⟨2,name,start,fi,off,near,least⟩,rfl,rfl,db,rfl,fin x dx hx hd⟩
theorem FK (T:Txt w K mg t):Eb P w K mg base CX0 6 t.lj t.gj q35 (CH t):=by
 have g17:Eb P w K mg base CX0 5 t.Ec t.gd q29 (Ks K t):=(Hx T).mono (by decide);have g9:Eb P w K mg base CX0 5 t.fc t.xc q21 (ut t):=(Uw T).mono (by decide);have g18:Eb P w K mg base CX0 5 t.Dc t.jd ["self"] (DD t):=(uH T).mono (by decide);have g37:Eb P w K mg base CX0 5 t.Ue t.Xe q34 (Wr t):=(vA T).mono (by decide);have g38:Eb P w K mg base CX0 5 t.kj t.sj q23 (IG t):=HK T;have g39:Eb P w K mg base CX0 5 t.pj t.rj q24 (Jx t):=(dF T).mono (by decide);refine T.Cm.ok ke (fun vs H Q E h=>?_) (fun _ _ _ s H vs Q E hr h=>?_)
 ·obtain ⟨q,row,n,wl,ds,d,rfl,_⟩:=h;rfl
 obtain ⟨q,row,n,wl,ds,d,rfl,R,hd,hn,hW,hdl,hnew,nt,qq⟩:=h;refine ⟨_,(fb (yb (i:=3) ke.nd (qd (pv 0) T.Ab T.Sg g17 hr T.dh .nil Rc (cb (dg (cb Vd (cb Vd (cb Vd gb)))) gb)))
   (fb (yb (i:=4) ke.nd (ub g37 hr T.gp T.Gg.kp T.Go (cb (pv 0) (cb (pv 2) gb))))
   (fb (yb (i:=5) ke.nd (qd (pv 0) T.Ab T.Bc g9 hr T.yc .nil Rc (cb rb (cb (bc Wf (pv 1) rb) gb))))
   (fb (yb (i:=6) ke.nd (ub g38 hr T.Gz T.Nm.kp T.Kz (cb (pv 0) (cb (pv 1) (cb (pv 5) gb)))))
   (fb (yb (i:=7) ke.nd (qd (pv 0) T.Ab T.Bc g9 hr T.yc .nil Rc (cb rb (cb (Jd rfl T.Fz T.rA) gb))))
   (fb (yb (i:=8) ke.nd (qd (pv 0) T.Ab T.Bc g9 hr T.yc .nil Rc (cb rb (cb (Jd rfl T.Bw T.Ow) gb))))
   (fb (yb (i:=9) ke.nd (qd (pv 0) T.Ab T.Bc g9 hr T.yc .nil Rc (cb rb (cb (Jd rfl T.nv T.Fv) gb))))
   (fb (Uc (Je (pv 0) T.Ab T.bh g18 hr T.Og .nil Rc))
   (lb (Db (ub g39 hr T.Az T.gm.kp T.Bz (cb (pv 3) (cb (pv 4) (cb (pv 5) (cb (pv 6) (cb (pv 7) (cb (pv 8) (cb (pv 9) gb)))))))))))))))))),?_⟩
 have b1:=hd.st;have b2:=hd.fi;have b3:=hd.of;have b4:=hd.nr;have b5:=hd.le;obtain ⟨_,dx,ta,e1,e2⟩:=id R;walk_at "RD";refine ⟨_,_,e1,Ig.no _ _ _ (by decide +kernel),by decide,fun p hp=>?_⟩;have s0:Ob H (upd H p (.lst [V.str (Str.ofString "car"),V.str (Str.ofString "foot"),V.str (Str.ofString "tram")])):=jb hp;have hin:wf d.k ∈ [Str.ofString "car",Str.ofString "foot",Str.ofString "tram"]:=by
  have:=hd.k
  match d.k,this with
  | 0,_=>simp [wf]
  | 1,_=>simp [wf]
  | 2,_=>simp [wf]
 refine ⟨q,row,_,0,wf d.k,p,[Str.ofString "car",Str.ofString "foot",Str.ofString "tram"],rfl,R.same s0,rfl,SqL.of db,hin,fun H1 s1 n1 R1=>?_⟩;have x1:bd q H H1:=(bd.of s0).trans s1;have m1:=n1 nt.upd;walk_at "RD";refine ⟨q,row,_,1,wl,ds,d.name,rfl,R1,rfl,hd.nm,hW.sameX x1 R,hdl,hnew,m1,fun H2 s2 m2 R2=>?_⟩;obtain ⟨_,dx2,ta2,f2,g2⟩:=id R2;have x2:=x1.trans s2;walk_at "RD";refine ⟨_,_,f2,Ig.no _ _ _ (by decide +kernel),⟨q,row,_,2,num d.start,0,n - 1,d.start,rfl,R2,rfl,wm (by omega) (by omega) (by omega) (by omega),m2,fun H3 s3 n3 R3=>?_⟩⟩;have x3:=x2.trans s3;have m3:=n3 m2;walk_at "RD";refine ⟨q,row,_,3,n,d.start,d.fin,rfl,R3,rfl,b1,b2,hd.ne,hn.2,m3,fun H4 s4 m4 R4=>?_⟩;obtain ⟨_,dx4,ta4,f4,g4⟩:=id R4;have x4:=x3.trans s4;walk_at "RD";refine ⟨_,_,f4,Ig.no _ _ _ (by decide +kernel),⟨q,row,_,4,num d.off,0,30,d.off,rfl,R4,rfl,wm (by omega) (by omega) (by omega) (by omega),m4,fun H5 s5 n5 R5=>?_⟩⟩;obtain ⟨_,dx5,ta5,f5,g5⟩:=id R5;have x5:=x4.trans s5;have m5:=n5 m4;walk_at "RD";refine ⟨_,_,f5,Ig.no _ _ _ (by decide +kernel),⟨q,row,_,5,num d.near,0,30,d.near,rfl,R5,rfl,wm (by omega) (by omega) (by omega) (by omega),m5,fun H6 s6 n6 R6=>?_⟩⟩;obtain ⟨_,dx6,ta6,f6,g6⟩:=id R6;have x6:=x5.trans s6;have m6:=n6 m5;walk_at "RD";refine ⟨_,_,f6,Ig.no _ _ _ (by decide +kernel),⟨q,row,_,6,num d.least,1,60,d.least,rfl,R6,rfl,wm (by omega) (by omega) (by omega) (by omega),m6,fun H7 s7 n7 R7=>?_⟩⟩;obtain ⟨_,dx7,ta7,f7,g7⟩:=id R7;have x7:=x6.trans s7;have m7:=n7 m6;walk_at "RD";refine ⟨_,_,f7,Ig.no _ _ _ (by decide +kernel),⟨q,row,_,7,rfl,R7,rfl,?_⟩⟩;walk_at "RD";refine ⟨d,rfl,hd.k,fun x H8 s8 n8 w8 hx8=>?_⟩;refine qq x H8 (x7.trans (bd.of s8)) (n8 m7) w8 ?_;cases hH:H x with
 | none=>rfl
 | some u=>
  by_cases hxq:x=q
  ·subst hxq;rw [f7] at hx8;cases hx8
  ·rw [x7 x u hxq hH] at hx8;cases hx8
end
end My
namespace My
open PySem L2
noncomputable abbrev kz:List Str:=[Str.ofString "places",Str.ofString "ways",Str.ofString "numbers"]
noncomputable def cF (n:Int) (wl nd:Addr):List (Str × V):=[(Str.ofString "places",.int n),(Str.ofString "ways",.ref wl),(Str.ofString "numbers",.ref nd)]
theorem kt (n:Int) (wl nd:Addr):(cF n wl nd).map (·.1)=kz:=rfl
noncomputable def nm (ds:List WD) (i:Nat):Str:=((ds[i]?).map (·.name)).getD (Str.ofString "")
noncomputable def xA (ds:List WD) (i:Nat):List (Key × V):=(List.range i).map fun j=>(Sum.inr (nm ds j),V.int j)
theorem Sv {ds:List WD} {i:Nat} {d:WD} (h:ds[i]? = some d):nm ds i=d.name:=by unfold nm;rw [h];rfl
theorem Kx {ds:List WD} (h:(ds.map (·.name)).Nodup) {i j:Nat} (hi:i < ds.length) (hj:j < ds.length) (e:nm ds i=nm ds j):i=j:=by
 rw [Sv (List.getElem?_eq_getElem hi),Sv (List.getElem?_eq_getElem hj)] at e;have:=(List.getElem_inj (xs:=ds.map (·.name)) (i:=i) (j:=j) (h₀:=by rw [List.length_map];exact hi) (h₁:=by rw [List.length_map];exact hj) h).mp (by rw [List.getElem_map,List.getElem_map];exact e);exact this
theorem YF {ds:List WD} (h:(ds.map (·.name)).Nodup) {i:Nat}:∀ {n:Nat},i < n→n ≤ ds.length→du (xA ds n) (Sum.inr (nm ds i))=some (.int i):=by
 intro n
 induction n with
 | zero=>intro hi _;omega
 | succ n ih=>
  intro hi hn;unfold xA du;rw [List.range_succ,List.map_append,List.find?_append];by_cases c:i < n
  ·have:=ih c (by omega);unfold xA du at this;cases e:List.find? (fun kv=>decide (kv.fst=Sum.inr (nm ds i))) (List.map (fun j=>((Sum.inr (nm ds j):Key),V.int j)) (List.range n)) with
   | none=>rw [e] at this;cases this
   | some p=>rw [e] at this;exact this
  ·have e:i=n:=by omega
   subst e;have no:List.find? (fun kv=>decide (kv.fst=Sum.inr (nm ds i))) (List.map (fun j=>((Sum.inr (nm ds j):Key),V.int j)) (List.range i))=none:=by
    rw [List.find?_eq_none];intro p hp;obtain ⟨j,hj,rfl⟩:=List.mem_map.mp hp;have hj':=List.mem_range.mp hj;simp only [decide_eq_true_eq];intro z;have:=Kx h (by omega) (by omega) (Sum.inr.inj z);omega
   rw [no];simp
theorem wG {ds:List WD} (h:(ds.map (·.name)).Nodup) {n:Nat} (hn:n < ds.length):Tv (xA ds n) (Sum.inr (nm ds n)) (.int n)=xA ds (n + 1):=by
 unfold Tv;have no:((xA ds n).any fun kv=>decide (kv.1=Sum.inr (nm ds n)))=false:=by
  rw [List.any_eq_false];intro p hp;obtain ⟨j,hj,rfl⟩:=List.mem_map.mp hp;have hj':=List.mem_range.mp hj;simp only [decide_eq_true_eq];intro z;have:=Kx h (by omega) hn (Sum.inr.inj z);omega
 rw [no];unfold xA;rw [List.range_succ,List.map_append];rfl
theorem Oe {H H1 H2:Hp} {q:Addr} (a:Ob H H1) (b:bd q H1 H2) (n:H q=none):Ob H H2:=fun c u e=>b c u (Bb e n) (a c u e)
theorem NJ {t:Adr} {H:Hp} {p q:Addr} {i j:Int} {ws vs:List Str} {k l:Nat} (a:Ig t H p i ws k) (b:Ig t H q j vs l) (n:i ≠ j):p ≠ q:=fun z=>by
 subst z;obtain ⟨_,dx,ta,e1,_⟩:=a;obtain ⟨_,dx',ta',e2,_⟩:=b;rw [e1] at e2;have e3:=Option.some.inj e2;injection e3 with _ _ e4;unfold rdF at e4;injection e4 with e5 _;injection e5 with _ e6;injection e6 with e7;exact n e7
theorem jD {t:Adr} {H:Hp} {p q:Addr} {d:WD} {j:Int} {vs:List Str} {l:Nat} (a:se t H p d) (b:Ig t H q j vs l):p ≠ q:=fun z=>by
 subst z;obtain ⟨_,dx,e1⟩:=a;obtain ⟨_,dx',ta',e2,_⟩:=b;rw [e1] at e2;have e3:=Option.some.inj e2;injection e3 with _ _ e4;exact absurd (congrArg List.length e4) (by show ¬ (7:Nat)=3;decide)
noncomputable def Oc (t:Adr) (H:Hp) (c:Addr) (n:Int) (ds:List WD):Prop:=
 ((ds.map (·.name)).Nodup∧ds.length ≤ 12)∧∃ dx wl nd,H c=some (.ins t.Jb dx (cF n wl nd))∧Ti t H wl ds∧H nd=some (.dK (xA ds ds.length))
theorem Oc.same {t:Adr} {H H':Hp} {c:Addr} {n:Int} {ds:List WD} (h:Oc t H c n ds) (s:Ob H H'):Oc t H' c n ds:=by
 obtain ⟨h0,dx,wl,nd,e1,e2,e3⟩:=h;exact ⟨h0,dx,wl,nd,s _ _ e1,e2.same s,s _ _ e3⟩
theorem Qw {m:Str} (n:Int) (wl nd:Addr) (h:kz.contains m=false):(cF n wl nd).lookup m=none:=Nk kz (kt ..) h
section
variable {w:World} {K:PySem.W.Frag} {mg:Str→Option Value} {t:Adr} {H:Hp} {c dx wl nd:Addr} {n:Int}
theorem UF (T:Txt w K mg t) (e:H c=some (.ins t.Jb dx (cF n wl nd))):Hi K H c (Str.ofString "places") (.int n):=⟨_,dx,_,e,T.Fb,T.Wg,Md kz 0 (kt ..) (by decide +kernel) rfl⟩
theorem GH (T:Txt w K mg t) (e:H c=some (.ins t.Jb dx (cF n wl nd))):Hi K H c (Str.ofString "ways") (.ref wl):=⟨_,dx,_,e,T.Fb,T.zi,Md kz 1 (kt ..) (by decide +kernel) rfl⟩
theorem yp (T:Txt w K mg t) (e:H c=some (.ins t.Jb dx (cF n wl nd))):Hi K H c (Str.ofString "numbers") (.ref nd):=⟨_,dx,_,e,T.Fb,T.Cg,Md kz 2 (kt ..) (by decide +kernel) rfl⟩
end
noncomputable def vH (t:Adr):Sp:=fun vs H Q _=>∃ c dx n wl ds,vs=[.ref c,.int n,.ref wl]∧H c=some (.ins t.Jb dx [])∧Ti t H wl ds∧(ds.map (·.name)).Nodup∧ds.length ≤ 12∧NoT H ∧
 ∀ H',bd c H H'→NoT H'→Oc t H' c n ds→Q .non H'
noncomputable def MK (t:Adr):Sp:=fun vs H Q _=>∃ n ds,vs=[.str (ww n ds)]∧COk n ds∧NoT H∧∀ c H',Ob H H'→NoT H'→Oc t H' c n ds→Q (.ref c) H'
noncomputable def jo (t:Adr):Sp:=fun vs H Q _=>∃ c n ds,vs=[.ref c]∧Oc t H c n ds∧∀ p,H p=none→Q (.ref p) (upd H p (.lst (dc (ds.map (·.name)))))
noncomputable def eu (t:Adr):Sp:=fun vs H Q _=>∃ c n ds,∃ i:Nat,∃ d,vs=[.ref c,.str d.name]∧Oc t H c n ds∧ds[i]? = some d∧Q (.int (i:Nat)) H
noncomputable def Rf (t:Adr):Sp:=fun vs H Q _=>∃ c n ds,∃ i:Nat,∃ d,vs=[.ref c,.str d.name]∧Oc t H c n ds∧ds[i]? = some d∧∀ a,se t H a d→Q (.ref a) H
section
variable {P:Program} {w:World} {K:PySem.W.Frag} {mg:Str→Option Value} {base:Heap} {t:Adr}
theorem SJ (T:Txt w K mg t):Eb P w K mg base CX0 1 t.ie t.ff q44 (vH t):=by
 refine T.Li.ok ye (fun vs H Q E h=>?_) (fun _ _ _ s H vs Q E hr h=>?_)
 ·obtain ⟨c,dx,n,wl,ds,rfl,_⟩:=h;rfl
 obtain ⟨c,dx,n,wl,ds,rfl,hc,hW,hnd,hdl,nt,q⟩:=h;have hu:=Sw hr;refine ⟨_,(fb (lf (pv 0) (pv 1) rfl)
   (fb (lf (pv 0) (pv 2) rfl)
   (fb (lf (pv 0) mo rfl)
   (lb (fe PassesOwn.never rfl (Ak rfl T.Ke (cb (pv 2) gb)) (Hd (K:=K) (n:=2) rfl rfl (zb (qb (i:=3) ye.nd) (zb (qb (i:=4) ye.nd) Ed))) (lb (jt hu (Ub (pv 0) rfl) (Ub (pv 4) rfl) (pv 3) rfl))))))),?_⟩
 walk_at "RD";refine ⟨_,_,_,hc,T.Fb,T.Wg,by decide,?_⟩;refine ⟨_,_,_,db,T.Fb,T.zi,Xl (n:=999) (by decide),fun nd hn=>?_⟩;simp only [im] at hn ⊢;rw [show Ih (Str.ofString "places") (V.int n) ([]:List (Str × V))=[(Str.ofString "places",V.int n)] from rfl,show Ih (Str.ofString "ways") (V.ref wl) [(Str.ofString "places",V.int n)]=[(Str.ofString "places",V.int n),(Str.ofString "ways",V.ref wl)] from ed [Str.ofString "places"] rfl (by decide +kernel)] at hn ⊢;have hnc:c ≠ nd:=fun z=>by subst z;rw [db] at hn;cases hn
 refine ⟨t.Jb,dx,[(Str.ofString "places",V.int n),(Str.ofString "ways",V.ref wl)],by rw [wb hnc];exact db,T.Fb,T.Cg,show (2:Nat) < 1000 by decide,?_⟩;rw [show Ih (Str.ofString "numbers") (V.ref nd) [(Str.ofString "places",V.int n),(Str.ofString "ways",V.ref wl)]=cF n wl nd from ed [Str.ofString "places",Str.ofString "ways"] rfl (by decide +kernel)];obtain ⟨as,w1,w2,al⟩:=hW;have hHn:H nd=none:=by rw [wb (Ne.symm hnc)] at hn;exact hn
 have sx:bd c H (upd (upd (upd H c (.ins t.Jb dx [(Str.ofString "places",V.int n),(Str.ofString "ways",V.ref wl)])) nd (.dK [])) c (.ins t.Jb dx (cF n wl nd))):=fun b u hb e=>by
  rw [wb hb,wb (Bb e hHn),wb hb];exact e
 have hwc:wl ≠ c:=Mg w1 hc (by intro z;cases z);refine ⟨⟨_,SqL.of (sx _ _ hwc w1)⟩,?_⟩;refine Ei.enum (xs:=as.map V.ref) (fun i σ H'=>(∃ x y,σ=[some (V.ref c),some (V.int n),some (V.ref wl),x,y])∧H' c=some (.ins t.Jb dx (cF n wl nd))∧H' nd=some (.dK (xA ds i))∧bd c H H'∧NoT H') ?_ ?_ ?_ ?_
 ·exact ⟨⟨_,_,rfl⟩,db,by rw [wb (Ne.symm hnc),db];rfl,sx,((nt.upd).upd).upd⟩
 ·rintro i σ H' hi zzq;refine zP fun zzM zzh=>?_
  obtain ⟨_,_,_,sx',_⟩:=zzq;subst zzh;exact SqL.of (sx' _ _ hwc w1)
 ·rintro i v σ H' p hv ⟨⟨x,y,rfl⟩,h1,h2,sx',nt'⟩ hp;obtain ⟨a,ha,rfl⟩:=Xb hv;obtain ⟨hi,_⟩:=List.getElem?_eq_some_iff.mp ha;have hid:i < ds.length:=by omega
  have hd:ds[i]? = some ds[i]:=List.getElem?_eq_getElem hid;have Wa:se t H a ds[i]:=al i a _ ha hd;have hac:a ≠ c:=by
   obtain ⟨_,dx',e⟩:=Wa;intro z;subst z;rw [hc] at e;have e2:=Option.some.inj e;injection e2 with _ _ e3;exact absurd (congrArg List.length e3) (by show ¬ (0:Nat)=7;decide)
  have Wa':se t H' a ds[i]:=⟨Wa.1,Wa.2.imp fun dx' e=>sx' _ _ hac e⟩;have sp:Ob H' (upd H' p (.tup [.int i,.ref a])):=jb hp;refine Xf ?_;walk_at "RD";refine ⟨_,yp T (sp _ _ h1),_,(Wa'.same sp).f_name T,_,rfl,_,qD.k (k:=Sum.inr ds[i].name) (sp _ _ h2) (Nat.lt_of_le_of_lt (show (xA ds i).length ≤ 12 by unfold xA;rw [List.length_map,List.length_range];omega) (by decide)),?_⟩;rw [← Sv hd,wG hnd hid];refine ⟨⟨_,rfl⟩,?_,db,fun b u hb e=>?_,(nt'.upd).upd⟩
  ·rw [wb hnc];exact sp _ _ h1
  ·rw [wb (Bb e hHn)];exact sp _ _ (sx' b u hb e)
 ·rintro σ H' zzq;refine zP fun zzM zzh=>?_
  obtain ⟨⟨x,y,rfl⟩,h1,h2,sx',nt'⟩:=zzq;subst zzh;walk_at "RD";rw [List.length_map,w2] at h2;refine q H' sx' nt' ⟨⟨hnd,hdl⟩,dx,wl,nd,h1,⟨as,sx' _ _ hwc w1,w2,fun i a d h3 h4=>?_⟩,h2⟩;have Wa:=al i a d h3 h4;have hac:a ≠ c:=by
   obtain ⟨_,dx',e⟩:=Wa;intro z;subst z;rw [hc] at e;have e2:=Option.some.inj e;injection e2 with _ _ e3;exact absurd (congrArg List.length e3) (by show ¬ (0:Nat)=7;decide)
  exact ⟨Wa.1,Wa.2.imp fun dx' e=>sx' _ _ hac e⟩
theorem zC (T:Txt w K mg t):Eb P w K mg base CX0 1 t.Bd t.ue q8 (eu t):=by
 refine T.Lh.ok Ol (fun vs H Q E h=>?_) (fun _ _ _ s H vs Q E hr h=>?_)
 ·obtain ⟨c,n,ds,i,d,rfl,_⟩:=h;rfl
 obtain ⟨c,n,ds,i,d,rfl,⟨⟨hnd,hdl⟩,dx,wl,nd,e1,e2,e3⟩,hd,q⟩:=h;have hu:=Sw hr;have hv:du (xA ds ds.length) (Sum.inr d.name)=some (.int i):=by
  rw [← Sv hd];exact YF hnd (List.getElem?_eq_some_iff.mp hd).1 (Nat.le_refl _)
 have hg:Qs H nd (.str d.name) (some (.int i)):=by rw [← hv];exact Qs.k (k:=Sum.inr d.name) e3
 refine ⟨_,(fb (Se (iL (rD hu (pv 1) (Ub (pv 0) rfl))) (lb og) jc)
   (lb (Db (zo hu (Ub (pv 0) rfl) (pv 1) (fun _ _=>rfl))))),?_⟩
 walk_at "RD";refine zc false (fun Q hQ=>?_) (fun hc=>nomatch hc) (fun _=>?_)
 ·walk_at "RD";refine ⟨_,yp T e1,_,rfl,_,hg,?_⟩;exact hQ
 ·walk_at "RD";exact ⟨_,yp T e1,_,rfl,_,hg,q⟩
theorem vg (T:Txt w K mg t):Eb P w K mg base CX0 2 t.Hb t.Nb q8 (Rf t):=by
 have g40:Eb P w K mg base CX0 1 t.Bd t.ue q8 (eu t):=zC T;refine T.Fh.ok Zk (fun vs H Q E h=>?_) (fun _ _ _ s H vs Q E hr h=>?_)
 ·obtain ⟨c,n,ds,i,d,rfl,_⟩:=h;rfl
 obtain ⟨c,n,ds,i,d,rfl,C,hd,q⟩:=h;obtain ⟨⟨hnd,hdl⟩,dx,wl,nd,e1,⟨as,w1,w2,al⟩,e3⟩:=id C;refine ⟨_,(lb (Db (uc Vc (Ub (pv 0) rfl) (qd (pv 0) T.Fb T.rm g40 hr T.um .nil Rc (cb (pv 1) gb))))),?_⟩;walk_at "RD";refine ⟨_,GH T e1,_,_,e1,Qw _ _ _ (by decide +kernel),⟨c,n,ds,i,d,rfl,C,hd,?_⟩⟩;have hi:i < as.length:=by rw [w2];exact (List.getElem?_eq_some_iff.mp hd).1
 have ha:as[i]? = some as[i]:=List.getElem?_eq_getElem hi;walk_at "RD";refine ⟨_,SqL.of w1,_,Fc (show (as.map V.ref)[i]? = some (V.ref as[i]) by rw [List.getElem?_map,ha];rfl),?_⟩;exact q as[i] (al i _ d ha hd)
theorem TL (T:Txt w K mg t):Eb P w K mg base CX0 7 t.df t.Re ["text"] (MK t):=by
 have g41:Eb P w K mg base CX0 6 t.Bl t.yl ["text"] (xr t):=(zz T).mono (by decide);have g42:Eb P w K mg base CX0 6 t.Vh t.bi ["reader"] (LC t):=(OI T).mono (by decide);have g43:Eb P w K mg base CX0 6 t.lj t.gj q35 (CH t):=FK T;have g44:Eb P w K mg base CX0 5 t.ie t.ff q44 (vH t):=(SJ T).mono (by decide);refine T.zg.ok Ld (fun vs H Q E h=>?_) (fun _ _ _ s H vs Q E hr h=>?_)
 ·obtain ⟨n,ds,rfl,_⟩:=h;rfl
 obtain ⟨n,ds,rfl,hC,nt,qq⟩:=h;refine ⟨_,(fb (yb (i:=1) Ld.nd (ub g41 hr T.tD T.Co.kp T.DE (cb (pv 0) gb)))
   (fb (yb (i:=2) Ld.nd (ub g42 hr T.Vw T.yk.kp T.Lw (cb (uc Vc (pv 1) rb) gb)))
   (fb (yb (i:=3) Ld.nd (dg gb))
   (fb (fe PassesOwn.never rfl (ce (Py TC (pv 1) (nD rb) MD)) (qb (i:=4) Ld.nd) (fb (Se (Zb vj (Pb Gb rfl T.di Tb (cb (pv 3) gb)) (Jd rfl T.nw T.Iw) (Vb _)) (lb og) jc)
   (lb (Uc (Tu PySem.F.plainAttrs_list PySem.F.slot_list_append PySem.F.type_list_append Mh (pv 3) (cb (ub g43 hr T.wz T.Cm.kp T.lA (cb (pv 4) (cb (pv 2) (cb (pv 3) gb)))) gb))))))
   (fb (Se (Zm (Yy (pv 3) (fun _=>rfl))) (lb og) jc)
   (lb (Db (cm T.eA g44 hr rfl T.Wz T.Fo .nil Rc (cb (pv 2) (cb (pv 3) gb)))))))))),?_⟩
 have hrow:=Yz hC;have hlen:=JB hC;have hnn:=hC.nn;have hln:=hC.ln;walk_at "RD";refine ⟨ww n ds,rfl,by omega,?_,nt,fun p H1 sm1 nt1 R=>?_⟩
 ·rw [hrow];intro r hr;refine ⟨?_,fun x hx=>Nat.le_trans (hC.plain r hr x hx).1 (by decide)⟩;rcases List.mem_cons.mp hr with rfl | hr
  ·show (2:Nat) ≤ 1000;decide
  ·obtain ⟨d,hd,rfl⟩:=List.mem_map.mp hr;show (7:Nat) ≤ 1000;decide
 rw [hrow] at R;obtain ⟨qs,hp,hp0,hql,hqa⟩:=R;have hql':qs.length=ds.length + 1:=by rw [hql];simp [Aq]
 obtain ⟨q0,qr,rfl⟩:∃ q0 qr,qs=q0 :: qr:=by
  cases qs with
  | nil=>simp at hql'
  | cons a b=>exact ⟨a,b,rfl⟩
 obtain ⟨R0,hq0⟩:=hqa 0 q0 _ rfl rfl;walk_at "RD";refine ⟨_,SqL.of hp,_,Fc (j:=0) rfl,⟨q0,_,n,rfl,R0,hnn,nt1,fun H2 s2 nt2=>⟨Nat.zero_le _,fun wl hwl=>?_⟩⟩⟩;obtain ⟨C0,dq0,fq0,hins⟩:=R0.ins;have hpq:p ≠ q0:=Mg hp hins (by intro z;cases z);have hp2:H2 p=some (.lst ((q0 :: qr).map V.ref)):=s2 _ _ hpq hp;have swl:Ob H2 (upd H2 wl (.lst [])):=jb hwl;have hcut:QE ((q0 :: qr).map V.ref) (some 1) none=qr.map V.ref:=by
  unfold QE;simp [HT.sIx];exact List.take_of_length_le (by rw [List.length_map];exact Nat.le_refl _)
 refine ⟨_,SqL.of (swl _ _ hp2),fun pc hpc=>?_⟩;rw [hcut];have hpw:pc ≠ wl:=fun z=>by subst z;rw [db] at hpc;cases hpc
 have spc:Ob (upd H2 wl (.lst [])) (upd (upd H2 wl (.lst [])) pc (.lst (qr.map V.ref))):=jb hpc;refine ⟨⟨_,SqL.of db⟩,?_⟩;have sH2:Ob H H2:=Oe sm1 s2 hq0;have hqrl:qr.length=ds.length:=by simpa using hql'
 refine Ei.list (xs:=qr.map V.ref) (fun i σ H'=>(∃ x,σ=[some (V.str (ww n ds)),some (V.ref p),some (V.int n),some (V.ref wl),x])∧NoT H'∧Ob H H'∧H' pc=some (.lst (qr.map V.ref))∧H wl=none∧Ti t H' wl (ds.take i) ∧
  ∀ (j:Nat) (q:Addr) (d:WD),i ≤ j→qr[j]? = some q→ds[j]? = some d→Ig t H' q ((j + 1:Nat):Int) (Wm d) 0∧H q=none) ?_ ?_ ?_ ?_
 ·refine ⟨⟨_,rfl⟩,(nt2.upd).upd,(sH2.trans swl).trans spc,db,sH2.free hwl,⟨[],spc _ _ db,rfl,fun j a d h=>by simp at h⟩,fun j q d _ h1 h2=>?_⟩;have hr:(Aq n ds)[j + 1]? = some (Wm d):=by
   unfold Aq;rw [List.getElem?_cons_succ,List.getElem?_map,h2];rfl
  obtain ⟨Rj,hqj⟩:=hqa (j + 1) q _ (by rw [List.getElem?_cons_succ];exact h1) hr;refine ⟨((Rj.sameX s2 (NJ Rj R0 (by omega)) R0.ins).same swl).same spc,hqj⟩
 ·rintro i σ H' hi zzq;refine zP fun zzM zzh=>?_
  obtain ⟨_,_,_,h,_⟩:=zzq;subst zzh;exact SqL.of h
 ·rintro i v σ H' hv zzq;refine zP fun zzM zzh=>?_
  obtain ⟨⟨x,rfl⟩,nt',sm',hpc',hwl0,W,Rs⟩:=zzq;obtain ⟨q,hq,rfl⟩:=Xb hv;obtain ⟨hi,_⟩:=List.getElem?_eq_some_iff.mp hq;have hid:i < ds.length:=by omega
  have hd:ds[i]? = some ds[i]:=List.getElem?_eq_getElem hid;obtain ⟨Rq,hqn⟩:=Rs i q _ (Nat.le_refl _) hq hd;have htl:(ds.take i).length=i:=by rw [List.length_take];omega
  obtain ⟨as,w1,w2,al⟩:=id W;subst zzh;walk_at "RD";refine zc false (fun Q hQ=>?_) (fun hc=>nomatch hc) (fun _=>?_)
  ·walk_at "RD";refine ⟨_,.inl (SqL.of w1),?_⟩;rw [List.length_map,w2,htl];rw [decide_eq_false (by omega)] <;> exact hQ
  ·walk_at "RD";refine ⟨.inl ⟨_,SqL.of w1⟩,?_⟩;refine ⟨q,_,n,wl,ds.take i,ds[i],rfl,Rq,hC.al _ (List.getElem_mem hid),hnn,W,by omega,fun e he z=>?_,nt',fun y H3 s3 nt3 w3 hy3=>?_⟩
   ·obtain ⟨j,hj,rfl⟩:=List.getElem_of_mem he;rw [List.getElem_take] at z;have hj':j < i:=by omega
    have:=Kx hC.nd (i:=j) (j:=i) (by omega) hid (by rw [Sv (List.getElem?_eq_getElem (by omega)),Sv hd];exact z);omega
   ·walk_at "RD";obtain ⟨Cq,dq,fq,hqi⟩:=Rq.ins;have hwq:wl ≠ q:=Mg w1 hqi (by intro z;cases z);have hw3:H3 wl=some (.lst (as.map V.ref)):=s3 _ _ hwq w1;have hsm3:Ob H H3:=Oe sm' s3 hqn;refine ⟨_,hw3,Nat.lt_of_le_of_lt (show (as.map V.ref).length ≤ 12 by rw [List.length_map];omega) (by decide),?_⟩;have hyw:y ≠ wl:=fun z=>by
     subst z;rw [w1] at hy3;cases hy3
    refine ⟨⟨_,rfl⟩,nt3.upd,fun b u e=>?_,?_,hwl0,⟨as ++ [y],by rw [db,List.map_append];rfl,?_,fun j a d h1 h2=>?_⟩,fun j q' d hj h1 h2=>?_⟩
    ·rw [wb (Bb e hwl0)];exact hsm3 _ _ e
    ·rw [wb hpw];exact s3 _ _ (Mg hpc' hqi (by intro z;cases z)) hpc'
    ·rw [List.length_append,w2,htl,List.length_take];show i + 1=_;omega
    ·by_cases hj:j < as.length
     ·rw [List.getElem?_append_left hj] at h1;have h2':(ds.take i)[j]? = some d:=by
       rw [List.getElem?_take_of_lt (by omega)];rw [List.getElem?_take_of_lt (by omega)] at h2;exact h2
      obtain ⟨hk,dx',e⟩:=al j a d h1 h2';have haq:a ≠ q:=jD ⟨hk,dx',e⟩ Rq;have haw:a ≠ wl:=Mg e w1 (by intro z;cases z);exact ⟨hk,dx',by rw [wb haw];exact s3 _ _ haq e⟩
     ·rw [List.getElem?_append_right (by omega)] at h1;have hj0:j - as.length=0:=by
       cases hh:j - as.length with
       | zero=>rfl
       | succ m=>rw [hh] at h1;simp at h1
      rw [hj0] at h1;have e3:y=a:=by simpa using h1
      subst e3;have e4:j=i:=by omega
      subst e4;rw [List.getElem?_take_of_lt (by omega),hd] at h2;cases h2;exact ⟨w3.1,w3.2.imp fun dx' e=>by rw [wb hyw];exact e⟩
    ·obtain ⟨Rj,hqj⟩:=Rs j q' d (by omega) h1 h2;have R3:=Rj.sameX s3 (NJ Rj Rq (by omega)) Rq.ins;refine ⟨?_,hqj⟩;obtain ⟨hz,dx',ta,e1,e2⟩:=R3;refine ⟨hz,dx',ta,by rw [wb (Mg e1 hw3 (by intro z;cases z))];exact e1,?_⟩;rw [wb (fun z=>by
      subst z;rw [hw3] at e2;have e5:=Option.some.inj e2;injection e5 with e6;cases as with
      | nil=>exact absurd (congrArg List.length e6) (by show ¬ (0:Nat)=7;decide)
      | cons a r=>injection e6 with e7 _;cases e7)]
     exact e2
 ·rintro σ H' zzq;refine zP fun zzM zzh=>?_
  obtain ⟨⟨x,rfl⟩,nt',sm',hpc',hwl0,W,Rs⟩:=zzq;subst zzh;rw [List.length_map,hqrl,List.take_length] at W;obtain ⟨as,w1,w2,al⟩:=id W;walk_at "RD";refine zc false (fun Q hQ=>?_) (fun hc=>nomatch hc) (fun _=>?_)
  ·walk_at "RD";refine ⟨true,.inl ⟨_,SqL.of w1,?_⟩,hQ⟩;cases as with
   | nil=>simp at w2;omega
   | cons a r=>rfl
  ·walk_at "RD";intro c dx hc hdx hne;have sc:Ob H' (upd (upd H' dx (.own c)) c (.ins t.Jb dx [])):=((Ob.refl H').updN hdx).updN hc;refine ⟨c,dx,n,wl,ds,rfl,db,W.same sc,hC.nd,hln.2,(nt'.upd).upd,fun H5 s5 nt5 C5=>⟨rfl,?_⟩⟩;exact qq c H5 (Oe (sm'.trans sc) s5 (sm'.free hc)) nt5 C5
end
section
variable {P:Program} {w:World} {K:PySem.W.Frag} {mg:Str→Option Value} {base:Heap} {t:Adr}
theorem Ws (T:Txt w K mg t):Eb P w K mg base CX0 1 t.Jc t.Wc ["self"] (jo t):=by
 refine T.Fi.ok Am (fun vs H Q E h=>?_) (fun _ _ _ s H vs Q E hr h=>?_)
 ·obtain ⟨c,n,ds,rfl,_⟩:=h;rfl
 obtain ⟨c,n,ds,rfl,⟨⟨hnd,hdl⟩,dx,wl,nd,e1,⟨as,w1,w2,al⟩,e3⟩,q⟩:=h;refine ⟨_,(lb (Db (Rh rfl (ce (Ub (pv 0) rfl)) (Lc (sc:=pb Zf) rfl (by decide +kernel)) (N:=["way"]) (sel:=[none]) (yd (M:=["self"]) (by decide +kernel)) (Blk.of (fun _ _ _ _=>(qb (i:=0) (Dg (N:=["way"]) (by decide +kernel) rfl))) (fun _ _ _ _=>⟨_,rf,by walk_at "B"⟩) (fun _ _ _ _=>⟨_,(Ub (pv 0) rfl),by walk_at "B"⟩))))),?_⟩;walk_at "RD";refine ⟨_,GH T e1,_,rfl,⟨_,SqL.of w1⟩,?_⟩;refine vd.list_zs (xs:=as.map V.ref) (zs:=dc (ds.map (·.name))) (SqL.of w1) (by rw [List.length_map,w2];exact Nat.le_trans hdl (by decide)) (by rw [rp,List.length_map,List.length_map,w2]) (fun i v z N hv hz' hN=>?_) (fun p hp=>q p hp);obtain ⟨a,ha,rfl⟩:=Xb hv;obtain ⟨x,hx,rfl⟩:=Xb hz';obtain ⟨d,hd,rfl⟩:=Xb hx;walk_at "RD";exact ⟨Sub.name,_,(al i a d ha hd).f_name T,hN⟩
end
end My
namespace My
open PySem L2
noncomputable def Mn (n s f p:Int):Bool:=decide (0 < (p - s) % n) && decide ((p - s) % n < (f - s) % n)
noncomputable def WL (n s f s2 f2:Int):Bool:=decide (f=f2) || (if (s2=s∨s2=f)∨(f2=s∨f2=f) then false else (Mn n s f s2 != Mn n s f f2))
noncomputable abbrev mt (n:Int) (d e:WD):Bool:=WL n d.start d.fin e.start e.fin
noncomputable def YG (t:Adr):Sp:=fun vs H Q _=>∃ a d n p,vs=[.int n,.ref a,.int p]∧se t H a d∧0 < n∧Q (.bl (Mn n d.start d.fin p)) H
noncomputable def BL (n:Int) (d e:WD):Bool:=if (e.start=d.start∨e.start=d.fin)∨(e.fin=d.start∨e.fin=d.fin) then false else (Mn n d.start d.fin e.start != Mn n d.start d.fin e.fin)
noncomputable def VD (t:Adr):Sp:=fun vs H Q _=>∃ a b d e n,vs=[.int n,.ref a,.ref b]∧se t H a d∧se t H b e∧0 < n∧NoT H∧Q (.bl (BL n d e)) H
noncomputable def bG (t:Adr):Sp:=fun vs H Q _=>∃ a b d e n,vs=[.int n,.ref a,.ref b]∧se t H a d∧se t H b e∧0 < n∧∀ H',Ob H H'→Q (.bl (BL n d e)) H'
noncomputable def EE (t:Adr):Sp:=fun vs H Q _=>∃ c n ds,∃ i j:Nat,∃ d e,vs=[.ref c,.str d.name,.str e.name]∧Oc t H c n ds∧0 < n∧ds[i]? = some d∧ds[j]? = some e∧NoT H∧Q (.bl (mt n d e)) H
section
variable {P:Program} {w:World} {K:PySem.W.Frag} {mg:Str→Option Value} {base:Heap} {t:Adr}
theorem FL (T:Txt w K mg t):Eb P w K mg base CX0 1 t.Vn t.qo q36 (YG t):=by
 refine T.oo.ok bv (fun vs H Q E h=>?_) (fun _ _ _ s H vs Q E hr h=>?_)
 ·obtain ⟨a,d,n,p,rfl,_⟩:=h;rfl
 obtain ⟨a,d,n,p,rfl,W,hn,q⟩:=h;refine ⟨_,(fb (yb (i:=3) bv.nd (bc gg (bc Wf (pv 2) (Ub (pv 1) rfl)) (pv 0)))
   (lb (Db (Br (je Bu rb (pv 3) (Vb _)) (Wp (je Bu (pv 3) (bc gg (bc Wf (Ub (pv 1) rfl) (Ub (pv 1) rfl)) (pv 0)) (Vb _))))))),?_⟩
 walk_at "RD";refine ⟨_,W.f_start T,_,rfl,hn,?_⟩;unfold Mn at q;by_cases c:0 < (p - d.start) % n
 ·rw [if_pos (decide_eq_true c)];rw [decide_eq_true c,Bool.true_and] at q;exact ⟨_,W.f_end T,_,W.f_start T,_,rfl,_,rfl,hn,q⟩
 ·rw [if_neg (by simpa using c)];rw [decide_eq_false c,Bool.false_and] at q;exact q
theorem bN (x a b:Int):inV (.int x) [.int a,.int b]=decide (x=a∨x=b):=by
 unfold inV;simp only [List.any_cons,List.any_nil,eqV,Bool.or_false];rw [Bool.eq_iff_iff];simp only [Bool.or_eq_true,beq_iff_eq,decide_eq_true_eq];omega
theorem jJ (T:Txt w K mg t):Eb P w K mg base CX0 2 t.Pg t.Qg q25 (VD t):=by
 refine Eb.forget (sp:=bG t) ?_ fun vs H Q E h=>?_
 ·have g24:Eb P w K mg base CX0 1 t.Vn t.qo q36 (YG t):=FL T;refine T.cj.ok Ms (fun vs H Q E h=>?_) (fun _ _ _ s H vs Q E hr h=>?_)
  ·obtain ⟨a,b,d,e,n,rfl,_⟩:=h;rfl
  obtain ⟨a,b,d,e,n,rfl,Wa,Wb,hn,q⟩:=h;refine ⟨_,(fb (Se (PW.pt (yu (Zb Xo (Ub (pv 2) rfl) (dg (cb (Ub (pv 1) rfl) (cb (Ub (pv 1) rfl) gb))) (by with_unfolding_all rfl)) (No (Zb Xo (Ub (pv 2) rfl) (dg (cb (Ub (pv 1) rfl) (cb (Ub (pv 1) rfl) gb))) (by with_unfolding_all rfl))))) (lb (Db qw)) jc)
   (lb (Db (je KB (ub g24 hr T.gy T.oo.kp T.qy (cb (pv 0) (cb (pv 1) (cb (Ub (pv 2) rfl) gb)))) (ub g24 hr T.gy T.oo.kp T.qy (cb (pv 0) (cb (pv 1) (cb (Ub (pv 2) rfl) gb)))) (Vb _))))),?_⟩
  walk_at "RD";refine El (fun b H'=>Ob H H'∧b=decide ((e.start=d.start∨e.start=d.fin)∨(e.fin=d.start∨e.fin=d.fin))) (fun Q hQ=>?_) (fun H' ⟨sm,hb⟩=>?_) (fun H' ⟨sm,hb⟩=>?_)
  ·walk_at "RD";refine ⟨_,Wb.f_start T,_,Wa.f_start T,_,Wa.f_end T,by decide,fun p hp=>⟨_,.inl (SqL.of db),rfl,rfl,?_⟩⟩;have s1:Ob H (upd H p (.lst [.int d.start,.int d.fin])):=jb hp;rw [bN];by_cases c1:e.start=d.start∨e.start=d.fin
   ·rw [if_pos (decide_eq_true c1)];exact hQ _ _ ⟨s1,(decide_eq_true (.inl c1)).symm⟩
   ·rw [if_neg (by simpa using c1)];refine ⟨_,(Wb.same s1).f_end T,_,(Wa.same s1).f_start T,_,(Wa.same s1).f_end T,by decide,fun p2 hp2=>⟨_,.inl (SqL.of db),rfl,rfl,?_⟩⟩;rw [bN];refine hQ _ _ ⟨s1.trans (jb hp2),?_⟩;rw [Bool.eq_iff_iff,decide_eq_true_eq,decide_eq_true_eq];exact ⟨.inr,fun z=>z.resolve_left c1⟩
  ·walk_at "RD";have hb':=of_decide_eq_true hb.symm;have:=q H' sm;unfold BL at this;rw [if_pos hb'] at this;exact this
  ·walk_at "RD";have hb':=of_decide_eq_false hb.symm;refine ⟨_,(Wb.same sm).f_start T,⟨a,d,n,_,rfl,Wa.same sm,hn,?_⟩⟩;refine ⟨_,(Wb.same sm).f_end T,⟨a,d,n,_,rfl,Wa.same sm,hn,?_⟩⟩;refine ⟨rfl,?_⟩;have:=q H' sm;unfold BL at this;rw [if_neg hb'] at this;rw [show (!decide (V.bl (Mn n d.start d.fin e.start)=V.bl (Mn n d.start d.fin e.fin)))=(Mn n d.start d.fin e.start != Mn n d.start d.fin e.fin) by
    cases Mn n d.start d.fin e.start <;> cases Mn n d.start d.fin e.fin <;> rfl]
   exact this
 ·obtain ⟨a,b,d,e,n,h1,h2,h3,h4,nt,q⟩:=h;exact ⟨nt,a,b,d,e,n,h1,h2,h3,h4,fun H' sm=>⟨sm,q⟩⟩
theorem kM (n:Int) (d e:WD):mt n d e=(decide (d.fin=e.fin) || BL n d e):=rfl
theorem eI (T:Txt w K mg t):Eb P w K mg base CX0 3 t.ky t.Uy q13 (EE t):=by
 have g0:Eb P w K mg base CX0 2 t.Hb t.Nb q8 (Rf t):=vg T;have g45:Eb P w K mg base CX0 2 t.Pg t.Qg q25 (VD t):=jJ T;refine T.OA.ok Ww (fun vs H Q E h=>?_) (fun _ _ _ s H vs Q E hr h=>?_)
 ·obtain ⟨c,n,ds,i,j,d,e,rfl,_⟩:=h;rfl
 obtain ⟨c,n,ds,i,j,d,e,rfl,C,hn,hd,he,nt,q⟩:=h;obtain ⟨_,dx,wl,nd,e1,e2,e3⟩:=id C;refine ⟨_,(fb (yb (i:=3) Ww.nd (qd (pv 0) T.Fb T.Sb g0 hr T.Rb .nil Rc (cb (pv 1) gb)))
   (fb (yb (i:=4) Ww.nd (qd (pv 0) T.Fb T.Sb g0 hr T.Rb .nil Rc (cb (pv 2) gb)))
   (lb (Db (RK (je vj (Ub (pv 3) rfl) (Ub (pv 4) rfl) (Vb _)) (Wp (ub g45 hr T.Cv T.cj.kp T.Eu (cb (Ub (pv 0) rfl) (cb (pv 3) (cb (pv 4) gb)))))))))),?_⟩
 rw [kM] at q;walk_at "RD";refine ⟨_,_,e1,Qw _ _ _ (by decide +kernel),⟨c,n,ds,i,d,rfl,C,hd,fun a Wa=>?_⟩⟩;walk_at "RD";refine ⟨_,_,e1,Qw _ _ _ (by decide +kernel),⟨c,n,ds,j,e,rfl,C,he,fun b Wb=>?_⟩⟩;walk_at "RD";refine ⟨_,Wa.f_end T,_,Wb.f_end T,rfl,?_⟩;walk_at "RD";by_cases c1:d.fin=e.fin
 ·rw [if_pos (decide_eq_true c1)];rw [decide_eq_true c1,Bool.true_or] at q;exact q
 ·rw [if_neg (by simpa using c1)];rw [decide_eq_false c1,Bool.false_or] at q;exact ⟨_,UF T e1,⟨a,b,d,e,n,rfl,Wa,Wb,hn,nt,q⟩⟩
end
noncomputable def QG (t:Adr):Sp:=fun vs H Q _=>∃ c n ds,∃ i j:Nat,∃ d e,vs=[.ref c,.str d.name,.str e.name]∧Oc t H c n ds∧ds[i]? = some d∧ds[j]? = some e∧Q (.int (if d.off - e.near > 0 then d.off - e.near else 0)) H
section
variable {P:Program} {w:World} {K:PySem.W.Frag} {mg:Str→Option Value} {base:Heap} {t:Adr}
theorem QK (T:Txt w K mg t):Eb P w K mg base CX0 3 t.eG t.rF q13 (QG t):=by
 have g0:Eb P w K mg base CX0 2 t.Hb t.Nb q8 (Rf t):=vg T;refine T.HI.ok YC (fun vs H Q E h=>?_) (fun _ _ _ s H vs Q E hr h=>?_)
 ·obtain ⟨c,n,ds,i,j,d,e,rfl,_⟩:=h;rfl
 obtain ⟨c,n,ds,i,j,d,e,rfl,C,hd,he,q⟩:=h;obtain ⟨_,dx,wl,nd,e1,e2,e3⟩:=id C;refine ⟨_,(fb (yb (i:=3) YC.nd (qd (pv 0) T.Fb T.Sb g0 hr T.Rb .nil Rc (cb (pv 1) gb)))
   (fb (yb (i:=4) YC.nd (qd (pv 0) T.Fb T.Sb g0 hr T.Rb .nil Rc (cb (pv 2) gb)))
   (lb (Db (Pb (fE rfl) rfl T.pK Lr (cb rb (cb (bc Wf (Ub (pv 3) rfl) (Ub (pv 4) rfl)) gb))))))),?_⟩
 walk_at "RD";refine ⟨_,_,e1,Qw _ _ _ (by decide +kernel),⟨c,n,ds,i,d,rfl,C,hd,fun a Wa=>?_⟩⟩;walk_at "RD";refine ⟨_,_,e1,Qw _ _ _ (by decide +kernel),⟨c,n,ds,j,e,rfl,C,he,fun b Wb=>?_⟩⟩;walk_at "RD";refine ⟨_,Wa.f_off T,_,Wb.f_near T,?_⟩;walk_at "RD";exact q
end
end My
namespace My
open PySem L2
structure SD where
 name:Str
 b:Int
 n:Int
noncomputable def sdO (d:SD):HO:=.tup [.str d.name,.int d.b,.int d.n]
noncomputable def prO (p:Int × Int):HO:=.tup [.int p.1,.int p.2]
noncomputable def ofN (x:Str) (sp:List SD):List (Int × Int):=(sp.filter fun d=>decide (d.name=x)).map fun d=>(d.b,d.n)
noncomputable def LQ (H:Hp) (qs:List Addr) (os:List HO):Prop:=qs.length=os.length∧∀ (i:Nat) (q:Addr) (o:HO),qs[i]? = some q→os[i]? = some o→H q=some o
noncomputable def LO (H:Hp) (p:Addr) (os:List HO):Prop:=∃ qs:List Addr,H p=some (.lst (qs.map V.ref))∧LQ H qs os
theorem LQ.same {H H':Hp} {qs:List Addr} {os:List HO} (h:LQ H qs os) (s:Ob H H'):LQ H' qs os:=⟨h.1,fun i q o h1 h2=>s _ _ (h.2 i q o h1 h2)⟩
theorem LO.same {H H':Hp} {p:Addr} {os:List HO} (h:LO H p os) (s:Ob H H'):LO H' p os:=by
 obtain ⟨qs,e,q⟩:=h;exact ⟨qs,s _ _ e,q.same s⟩
theorem LQ.nil (H:Hp):LQ H [] []:=⟨rfl,fun i q o h _=>by simp at h⟩
theorem LQ.app {H:Hp} {qs qs':List Addr} {os os':List HO} (h:LQ H qs os) (h':LQ H qs' os'):LQ H (qs ++ qs') (os ++ os'):=by
 refine ⟨by rw [List.length_append,List.length_append,h.1,h'.1],fun i q r h1 h2=>?_⟩;rw [List.getElem?_append] at h1 h2;rw [h.1] at h1;by_cases c:i < os.length
 ·rw [if_pos c] at h1 h2;exact h.2 i q r h1 h2
 ·rw [if_neg c] at h1 h2;exact h'.2 _ q r h1 h2
theorem LQ.one {H:Hp} {p:Addr} {o:HO} (e:H p=some o):LQ H [p] [o]:=⟨rfl,fun i q r' h1 h2=>by
 match i,h1,h2 with
 | 0,h1,h2=>cases h1;cases h2;exact e
 | i + 1,h1,_=>simp at h1⟩
theorem LQ.at {H:Hp} {qs:List Addr} {os:List HO} (h:LQ H qs os) {i:Nat} {q:Addr} (hq:qs[i]? = some q):∃ o,os[i]? = some o∧H q=some o:=by
 have hi:i < os.length:=by rw [← h.1];exact (List.getElem?_eq_some_iff.mp hq).1
 exact ⟨_,List.getElem?_eq_getElem hi,h.2 i q _ hq (List.getElem?_eq_getElem hi)⟩
theorem tF (x:Str) (sp:List SD) (d:SD):ofN x (sp ++ [d])=ofN x sp ++ if d.name=x then [(d.b,d.n)] else []:=by
 unfold ofN;rw [List.filter_append,List.map_append];congr 1;by_cases c:d.name=x
 ·rw [if_pos c,List.filter_cons_of_pos (by simpa using c)];rfl
 ·rw [if_neg c,List.filter_cons_of_neg (by simpa using c)];rfl
theorem KC (x:Str) (sp:List SD):(ofN x sp).length ≤ sp.length:=by
 unfold ofN;rw [List.length_map];exact List.length_filter_le _ _
theorem Eh {α:Type} {xs:List α} {i:Nat} {x:α} (h:xs[i]? = some x):xs.take (i + 1)=xs.take i ++ [x]:=by
 rw [List.take_add_one,h];rfl
noncomputable def bH {α:Type} (z:Int) (v:α) (l:List α) (i:Int):List α:=l.set (i % z).toNat v
noncomputable def fw {α:Type} (z:Int) (v:α) (b:Int):Nat→List α→List α
 | 0,l=>l
 | k + 1,l=>bH z v (fw z v b k l) (b + k)
noncomputable def Ss {α:Type} (z:Int) (v:α) (b:Int):Nat→List α→List α
 | 0,l=>l
 | k + 1,l=>bH z v (Ss z v b k l) (b - 1 - k)
theorem xx {α:Type} (z:Int) (v:α) (l:List α) (i:Int):(bH z v l i).length=l.length:=by unfold bH;rw [List.length_set]
theorem Ff {α:Type} (z:Int) (v:α) (b:Int) (k:Nat) (l:List α):(fw z v b k l).length=l.length:=by
 induction k with
 | zero=>rfl
 | succ k ih=>unfold fw;rw [xx,ih]
theorem wg {α:Type} (z:Int) (v:α) (b:Int) (k:Nat) (l:List α):(Ss z v b k l).length=l.length:=by
 induction k with
 | zero=>rfl
 | succ k ih=>unfold Ss;rw [xx,ih]
noncomputable def fmF (z:Nat) (ps:List (Int × Int)):List Bool:=ps.foldl (fun l p=>fw z true p.1 p.2.toNat l) (List.replicate z false)
noncomputable def UB (z rd fd:Nat) (l:List Str) (p:Int × Int):List Str:=fw z (Str.ofString "fade") (p.1 + p.2) fd (fw z (Str.ofString "free") p.1 p.2.toNat (Ss z (Str.ofString "ready") p.1 rd l))
noncomputable def ii (z rd fd:Nat) (ps:List (Int × Int)):List Str:=ps.foldl (UB z rd fd) (List.replicate z (Str.ofString "stop"))
theorem SH {z:Nat} {ps:List (Int × Int)} {i:Nat} {p:Int × Int} (h:ps[i]? = some p):fmF z (ps.take (i + 1))=fw z true p.1 p.2.toNat (fmF z (ps.take i)):=by
 unfold fmF;rw [Eh h,List.foldl_append];rfl
theorem wD {z rd fd:Nat} {ps:List (Int × Int)} {i:Nat} {p:Int × Int} (h:ps[i]? = some p):ii z rd fd (ps.take (i + 1))=UB z rd fd (ii z rd fd (ps.take i)) p:=by
 unfold ii;rw [Eh h,List.foldl_append];rfl
theorem Yi (z:Nat) (ps:List (Int × Int)):(fmF z ps).length=z:=by
 unfold fmF
 suffices h:∀ l:List Bool,l.length=z→(ps.foldl (fun l p=>fw z true p.1 p.2.toNat l) l).length=z from h _ (List.length_replicate ..)
 induction ps with
 | nil=>exact fun l h=>h
 | cons p ps ih=>exact fun l h=>ih _ (by rw [Ff];exact h)
theorem Nh (z rd fd:Nat) (ps:List (Int × Int)):(ii z rd fd ps).length=z:=by
 unfold ii
 suffices h:∀ l:List Str,l.length=z→(ps.foldl (UB z rd fd) l).length=z from h _ (List.length_replicate ..)
 induction ps with
 | nil=>exact fun l h=>h
 | cons p ps ih=>exact fun l h=>ih _ (by unfold UB;rw [Ff,Ff,wg];exact h)
noncomputable def lJ (z:Int) (sp:List SD):Prop:=sp.length ≤ 100∧∀ d ∈ sp,0 ≤ d.b∧d.b < 1000∧0 ≤ d.n∧d.n < 1000
theorem zw {x:Str} {sp:List SD} {p:Int × Int} (h:p ∈ ofN x sp):∃ d ∈ sp,d.name=x∧p=(d.b,d.n):=by
 unfold ofN at h;obtain ⟨d,hd,rfl⟩:=List.mem_map.mp h;have:=List.mem_filter.mp hd;exact ⟨d,this.1,by simpa using this.2,rfl⟩
theorem sK {m:Nat} (h:0 < m) (i:Int):ixN m (i % (m:Int))=some (i % (m:Int)).toNat:=by
 have h1:=Int.emod_nonneg i (show (m:Int) ≠ 0 by omega);have h2:=Int.emod_lt_of_pos i (show 0 < (m:Int) by omega);unfold ixN;rw [if_pos h1,if_pos h2]
theorem ay {α β:Type} (f:α→β) {l:List α} {z:Nat} (h:l.length=z) (hz:0 < z) (i:Int):ixN (l.map f).length (i % (z:Int))=some (i % (z:Int)).toNat:=by
 rw [List.length_map,h];exact sK hz i
theorem MA (d:WD):0 ≤ Yc d∧Yc d ≤ 2:=by
 unfold Yc;split <;> omega
theorem gG {d:WD} (h:0 ≤ d.off∧d.off ≤ 1000):0 ≤ qf d∧qf d ≤ 1000:=by
 unfold qf;split <;> omega
theorem KL {d:WD} {m:Str} (h:Dq.contains m=false):(Dn d).lookup m=none:=Nk Dq (Kr _) h
noncomputable def ac (l:List Bool):List V:=l.map V.bl
theorem ao {α β:Type} (f:α→β) (z:Int) (v:α) (l:List α) (i:Int):(l.map f).set (i % z).toNat (f v)=(bH z v l i).map f:=by
 unfold bH;rw [List.map_set]
noncomputable def Po:Sp:=fun vs H Q _=>∃ p x sp,vs=[.ref p,.str x]∧LO H p (List.map sdO sp)∧sp.length ≤ 100∧∀ r H',Ob H H'→(NoT H→NoT H')→LO H' r ((ofN x sp).map prO)→Q (.ref r) H'
noncomputable def GI:Sp:=fun vs H Q _=>∃ (z:Nat) (p:Addr) (x:Str) (sp:List SD),vs=[.int z,.ref p,.str x]∧(0 < z∧z ≤ 1000)∧LO H p (List.map sdO sp)∧lJ z sp∧∀ r H',Ob H H'→(NoT H→NoT H')→H r=none→H' r=some (.lst (ac (fmF z (ofN x sp))))→Q (.ref r) H'
noncomputable def NC (t:Adr):Sp:=fun vs H Q _=>∃ (a:Addr) (d:WD) (z:Nat) (p:Addr) (sp:List SD),vs=[.ref a,.int z,.ref p]∧(0 < z∧z ≤ 1000)∧se t H a d∧LO H p (List.map sdO sp)∧lJ z sp∧(0 ≤ d.off∧d.off ≤ 1000)∧∀ r H',Ob H H'→(NoT H→NoT H')→H r=none→H' r=some (.lst (dc (ii z (Yc d).toNat (qf d).toNat (ofN d.name sp))))→Q (.ref r) H'
noncomputable def Me (m:List Bool):Nat→Int
 | 0=>0
 | k + 1=>if m[(2 * m.length - 1 - k) % m.length]? = some true then 0 else Me m k + 1
noncomputable def Pj (m:List Bool):List Int:=(List.range m.length).map fun t=>Me m (2 * m.length - t)
noncomputable def Xr (m:List Bool) (k:Nat):List Int:=(List.range k).map fun j=>Me m (m.length + j + 1)
theorem wA (m:List Bool):(Xr m m.length).reverse=Pj m:=by
 unfold Xr Pj;refine List.ext_getElem (by simp) (fun i h1 h2=>?_);simp at h1;simp;congr 1;omega
noncomputable def Hr (m:List Bool):List Int:=(Pj m.reverse).reverse
noncomputable def zt:Sp:=fun vs H Q _=>∃ (p:Addr) (m:List Bool),vs=[.ref p]∧H p=some (.lst (ac m))∧(0 < m.length∧m.length ≤ 1000)∧∀ r H',Ob H H'→(NoT H→NoT H')→H r=none→H' r=some (.lst ((Pj m).map V.int))→Q (.ref r) H'
noncomputable def Ay:Sp:=fun vs H Q _=>∃ (p:Addr) (m:List Bool),vs=[.ref p]∧H p=some (.lst (ac m))∧(0 < m.length∧m.length ≤ 1000)∧∀ r H',Ob H H'→(NoT H→NoT H')→H r=none→H' r=some (.lst ((Hr m).map V.int))→Q (.ref r) H'
section
variable {P:Program} {w:World} {K:PySem.W.Frag} {mg:Str→Option Value} {base:Heap} {t:Adr}
theorem Rt (T:Txt w K mg t):Eb P w K mg base CX0 1 t.tf t.uf q12 Po:=by
 refine T.rg.ok uw (fun vs H Q E h=>?_) (fun _ _ _ s H vs Q E hr h=>?_)
 ·obtain ⟨p,x,sp,rfl,_⟩:=h;rfl
 obtain ⟨p,x,sp,rfl,⟨qs,l1,lq⟩,hl,q⟩:=h;refine ⟨_,(lb (Db (Rh rfl (ce (pv 0)) (Lc (sc:=pb km) rfl (by decide +kernel)) (N:=q46) (sel:=[none,none,none,some 1]) (yd (M:=q12) (by decide +kernel)) (Blk.of (fun _ _ _ _=>(Hd (K:=K) (n:=3) rfl rfl (zb (qb (i:=0) (Dg (N:=q46) (by decide +kernel) rfl)) (zb (qb (i:=1) (Dg (N:=q46) (by decide +kernel) rfl)) (zb (qb (i:=2) (Dg (N:=q46) (by decide +kernel) rfl)) Ed))))) (fun _ _ _ _=>⟨_,(bx (Zb vj (pv 0) (pv 3) (Vb _))),by walk_at "B"⟩) (fun _ _ _ _=>⟨_,(Di (cb (pv 1) (cb (pv 2) gb))),by walk_at "B"⟩))))),?_⟩;walk_at "RD";have hql:qs.length=sp.length:=by rw [lq.1,List.length_map]
 refine ⟨⟨_,SqL.of l1⟩,?_⟩;refine vd.list (xs:=qs.map V.ref) (fun i ys H'=>∃ os:List Addr,ys=os.map V.ref∧LQ H' os ((ofN x (sp.take i)).map prO)∧Ob H H'∧(NoT H→NoT H')) (Nat.le_trans (show (qs.map V.ref).length ≤ 100 by rw [List.length_map];omega) (by decide)) ⟨[],rfl,LQ.nil _,Ob.refl _,id⟩ ?_ ?_ ?_
 ·rintro i ys H' hi zzq;refine zP fun zzM zzh=>?_
  obtain ⟨os,rfl,r,sm,_⟩:=zzq;subst zzh;refine ⟨(SqL.of l1).same sm,?_⟩;rw [List.length_map,r.1,List.length_map];exact Nat.le_trans (KC _ _) (by rw [List.length_take];omega)
 ·rintro i v ys H' hv ⟨os,rfl,r,sm,nt⟩ N hN;obtain ⟨qi,hqi,rfl⟩:=Xb hv;obtain ⟨o,ho,e⟩:=lq.at hqi;obtain ⟨d,hd,rfl⟩:=Xb ho;have e':=sm _ _ e;walk_at "RD";refine ⟨_,SqT.of e',rfl,_,_,rfl,_,_,rfl,_,_,rfl,rfl,Sub.name3,rfl,?_⟩;dsimp only at hN;rw [Eh hd,tF,List.map_append] at hN;by_cases c:d.name=x
  ·rw [if_pos c] at hN;rw [if_pos (by rw [c];exact decide_eq_true rfl)];refine ⟨by decide,fun p1 hp1=>hN _ _ ⟨os ++ [p1],by rw [List.map_append];rfl,(r.same (jb hp1)).app (LQ.one db),sm.trans (jb hp1),fun n=>(nt n).upd⟩⟩
  ·rw [if_neg c] at hN;rw [if_neg (by rw [decide_eq_true_eq];intro z;exact c (V.str.inj z))];exact hN _ _ ⟨os,rfl,by rw [List.map_nil,List.append_nil];exact r,sm,nt⟩
 ·rintro ys H' ⟨os,rfl,r,sm,nt⟩ p1 hp1;rw [List.take_of_length_le (by rw [List.length_map];omega)] at r;exact q _ _ (sm.trans (jb hp1)) (fun n=>(nt n).upd) ⟨os,db,r.same (jb hp1)⟩
theorem RJ (T:Txt w K mg t):Eb P w K mg base CX0 2 t.Sf t.Uf q26 GI:=by
 have g11:Eb P w K mg base CX0 1 t.tf t.uf q12 Po:=Rt T;refine T.Vg.ok Pe (fun vs H Q E h=>?_) (fun _ _ _ s H vs Q E hr h=>?_)
 ·obtain ⟨z,p,x,sp,rfl,_⟩:=h;rfl
 obtain ⟨z,p,x,sp,rfl,hz,L,hs,q⟩:=h;refine ⟨_,(fb (vf (i:=3) Pe.nd rfl (Or.inl rfl) rfl (Pd rfl T.Ve (cb (pv 0) gb)) (Lc (sc:=pb Ji) rfl (by decide +kernel)) (N:=["turn"]) (sel:=[none]) (yd (M:=["size","spans","name","marks","begin","turns","step"]) (by decide +kernel)) (Blk.of (fun _ _ _ _=>(qb (i:=0) (Dg (N:=["turn"]) (by decide +kernel) rfl))) (fun _ _ _ _=>⟨_,rf,by walk_at "B"⟩) (fun _ _ _ _=>⟨_,qw,by walk_at "B"⟩)) rfl)
   (fb (fe PassesOwn.never rfl (ce (ub g11 hr T.qj T.rg.kp T.nj (cb (pv 1) (cb (pv 2) gb)))) (Hd (K:=K) (n:=2) rfl rfl (zb (qb (i:=4) Pe.nd) (zb (qb (i:=5) Pe.nd) Ed))) (lb (fe PassesOwn.never rfl (Pd rfl T.Ve (cb (pv 5) gb)) (qb (i:=6) Pe.nd) (lb (Fl qw (Xy (pv 3) (bc gg (bc Zd (pv 4) (pv 6)) (pv 0)) Wn))))))
   (lb (Db (pv 3))))),?_⟩
 walk_at "RD";obtain ⟨hz0,hz1⟩:=hz;obtain ⟨hs1,hs2⟩:=hs;refine ⟨by omega,by omega,?_⟩;refine vd.range_map (fun _=>V.bl false) (Nat.le_trans (show (z:Int).toNat ≤ 1000 by omega) (by decide)) (fun i N hi hN=>?_) (fun mk hmk=>?_)
 ·walk_at "RD";exact ⟨Sub.name,hN⟩
 rw [show (List.range (z:Int).toNat).map (fun _=>V.bl false)=ac (fmF z []) by
  unfold ac fmF;rw [List.foldl_nil,List.map_replicate];exact List.ext_getElem (by simp) (by simp)]
 refine ⟨p,x,sp,rfl,L.same (jb hmk),hs1,fun r H1 s1 nt1 L1=>⟨r,rfl,?_⟩⟩;obtain ⟨qs,l1,lq⟩:=L1;refine ⟨⟨_,SqL.of l1⟩,?_⟩;have hmk1:H1 mk=some (.lst (ac (fmF z []))):=s1 _ _ db;have hrm:r ≠ mk:=fun e=>by
  subst e;rw [l1] at hmk1;injection hmk1 with e1;injection e1 with e2;have e3:=congrArg List.length e2;cases qs with
  | nil=>simp [ac,Yi] at e3;omega
  | cons a qs=>
   have:(ac (fmF z []))[0]? = some (V.ref a):=by rw [← e2];rfl
   unfold ac at this;rw [List.getElem?_map] at this;cases hh:(fmF z [])[0]? with
   | none=>rw [hh] at this;cases this
   | some b=>rw [hh] at this;cases this
 refine Ei.list (xs:=qs.map V.ref) (fun i σ H'=>(∃ a b c,σ=[some (V.int z),some (V.ref p),some (V.str x),some (V.ref mk),a,b,c])∧bd mk H1 H'∧(NoT H→NoT H')∧H' mk=some (.lst (ac (fmF z ((ofN x sp).take i))))) ?_ ?_ ?_ ?_
 ·exact ⟨⟨_,_,_,rfl⟩,fun b u _ e=>e,fun n=>nt1 n.upd,hmk1⟩
 ·rintro i σ H' hi zzq;refine zP fun zzM zzh=>?_
  obtain ⟨_,sx,_,_⟩:=zzq;subst zzh;exact SqL.of (sx _ _ hrm l1)
 ·rintro i v σ H' hv zzq;refine zP fun zzM zzh=>?_
  obtain ⟨⟨a,b,c,rfl⟩,sx,nt',hm⟩:=zzq;obtain ⟨qi,hqi,rfl⟩:=Xb hv;obtain ⟨o,ho,e⟩:=lq.at hqi;obtain ⟨d,hd,rfl⟩:=Xb ho;obtain ⟨sd,hsd,hsn,rfl⟩:=zw (List.mem_of_getElem? hd);have hb:=hs2 sd hsd;have e':=sx _ _ (Mg e hmk1 (by intro z;cases z)) e;subst zzh;walk_at "RD";refine ⟨_,SqT.of e',rfl,_,_,rfl,_,_,rfl,rfl,_,rfl,(by dsimp only;omega),(by dsimp only;omega),?_⟩;rw [SH hd];refine Ei.range (fun k σ H'=>(∃ c,σ=[some (V.int z),some (V.ref p),some (V.str x),some (V.ref mk),some (V.int sd.b),some (V.int sd.n),c])∧bd mk H1 H'∧(NoT H→NoT H')∧H' mk=some (.lst (ac (fw z true sd.b k (fmF z ((ofN x sp).take i)))))) ?_ ?_ ?_
  ·exact ⟨⟨_,rfl⟩,sx,nt',hm⟩
  ·rintro k σ H2 hk zzq;refine zP fun zzM zzh=>?_
   obtain ⟨⟨c,rfl⟩,sx2,nt2,hm2⟩:=zzq;subst zzh;walk_at "RD";refine ⟨by omega,_,hm2,_,ay V.bl (by rw [Ff,Yi]) hz0 _,⟨_,rfl⟩,fun b u hb e=>by rw [wb hb];exact sx2 _ _ hb e,fun n=>(nt2 n).upd,?_⟩;rw [db];unfold ac;rw [ao V.bl];rfl
  ·rintro σ H2 zzq;refine zP fun zzM zzh=>?_
   obtain ⟨⟨c,rfl⟩,sx2,nt2,hm2⟩:=zzq;subst zzh;exact ⟨⟨_,_,_,rfl⟩,sx2,nt2,hm2⟩
 ·rintro σ H' zzq;refine zP fun zzM zzh=>?_
  obtain ⟨⟨a,b,c,rfl⟩,sx,nt',hm⟩:=zzq;subst zzh;walk_at "RD";rw [List.take_of_length_le (by rw [List.length_map,lq.1,List.length_map];exact Nat.le_refl _)] at hm;exact q _ _ (Oe ((jb hmk).trans s1) sx hmk) nt' hmk hm
theorem PH (T:Txt w K mg t):Eb P w K mg base CX0 2 t.Dy t.iy q37 (NC t):=by
 have g11:Eb P w K mg base CX0 1 t.tf t.uf q12 Po:=Rt T;have V_Way_ready:XE P w K mg base CX0 1 (isW t) "ready" ["self"] (Ah t):=nE T;have V_Way_fade:XE P w K mg base CX0 1 (isW t) "fade" ["self"] (oj t):=AG T;refine T.PD.ok rk (fun vs H Q E h=>?_) (fun _ _ _ s H vs Q E hr h=>?_)
 ·obtain ⟨a,d,z,p,sp,rfl,_⟩:=h;rfl
 obtain ⟨a,d,z,p,sp,rfl,⟨hz0,hz1⟩,W,L,⟨hs1,hs2⟩,hoff,q⟩:=h;refine ⟨_,(fb (vf (i:=3) rk.nd rfl (Or.inl rfl) rfl (Pd rfl T.Ve (cb (pv 1) gb)) (Lc (sc:=pb dD) rfl (by decide +kernel)) (N:=["turn"]) (sel:=[none]) (yd (M:=["way","size","spans","shown","begin","turns","step"]) (by decide +kernel)) (Blk.of (fun _ _ _ _=>(qb (i:=0) (Dg (N:=["turn"]) (by decide +kernel) rfl))) (fun _ _ _ _=>⟨_,rf,by walk_at "B"⟩) (fun _ _ _ _=>⟨_,Vd,by walk_at "B"⟩)) rfl)
   (fb (fe PassesOwn.never rfl (ce (ub g11 hr T.qj T.rg.kp T.nj (cb (pv 2) (cb (Ub (pv 0) rfl) gb)))) (Hd (K:=K) (n:=2) rfl rfl (zb (qb (i:=4) rk.nd) (zb (qb (i:=5) rk.nd) Ed))) (fb (fe PassesOwn.never rfl (Pd rfl T.Ve (cb (Il (pv 0) V_Way_ready hr Rc) gb)) (qb (i:=6) rk.nd) (lb (Fl Vd (Xy (pv 3) (bc gg (bc Wf (bc Wf (pv 4) rb) (pv 6)) (pv 1)) Wn))))
   (fb (fe PassesOwn.never rfl (Pd rfl T.Ve (cb (pv 5) gb)) (qb (i:=6) rk.nd) (lb (Fl Vd (Xy (pv 3) (bc gg (bc Zd (pv 4) (pv 6)) (pv 1)) Wn))))
   (lb (fe PassesOwn.never rfl (Pd rfl T.Ve (cb (Il (pv 0) V_Way_fade hr Rc) gb)) (qb (i:=6) rk.nd) (lb (Fl Vd (Xy (pv 3) (bc gg (bc Zd (bc Zd (pv 4) (pv 5)) (pv 6)) (pv 1)) Wn))))))))
   (lb (Db (pv 3))))),?_⟩
 walk_at "RD";refine ⟨by omega,by omega,?_⟩;refine vd.range_map (fun _=>V.str (Str.ofString "stop")) (Nat.le_trans (show (z:Int).toNat ≤ 1000 by omega) (by decide)) (fun i N hi hN=>?_) (fun mk hmk=>?_)
 ·walk_at "RD";exact ⟨Sub.name,hN⟩
 rw [show (List.range (z:Int).toNat).map (fun _=>V.str (Str.ofString "stop"))=dc (ii z (Yc d).toNat (qf d).toNat []) by
  unfold dc ii;rw [List.foldl_nil,List.map_replicate];exact List.ext_getElem (by simp) (by simp)]
 have hrd:=MA d;have hfd:=gG hoff;obtain ⟨dk,dx,hway⟩:=id W;have w0:∀ {H':Hp},bd mk (upd H mk (.lst (dc (ii z (Yc d).toNat (qf d).toNat [])))) H'→H' a=some (.ins (t.cw d.k) dx (Dn d)):=fun sx=>sx _ _ (Bb hway hmk) ((jb hmk) _ _ hway)
 refine ⟨_,(W.same (jb hmk)).f_name T,p,d.name,sp,rfl,L.same (jb hmk),hs1,fun r H1 s1 nt1 L1=>⟨r,rfl,?_⟩⟩;obtain ⟨qs,l1,lq⟩:=L1;refine ⟨⟨_,SqL.of l1⟩,?_⟩;have hmk1:H1 mk=some (.lst (dc (ii z (Yc d).toNat (qf d).toNat []))):=s1 _ _ db;have hrm:r ≠ mk:=fun e=>by
  subst e;rw [l1] at hmk1;injection hmk1 with e1;injection e1 with e2;have e3:=congrArg List.length e2;cases qs with
  | nil=>simp [dc,Nh] at e3;omega
  | cons a qs=>
   have:(dc (ii z (Yc d).toNat (qf d).toNat []))[0]? = some (V.ref a):=by rw [← e2];rfl
   unfold dc at this;rw [List.getElem?_map] at this;cases hh:(ii z (Yc d).toNat (qf d).toNat [])[0]? with
   | none=>rw [hh] at this;cases this
   | some b=>rw [hh] at this;cases this
 have wx:∀ {H':Hp},bd mk H1 H'→se t H' a d:=fun sx=>⟨dk,dx,sx _ _ (Bb hway hmk) (s1 _ _ ((jb hmk) _ _ hway))⟩
 refine Ei.list (xs:=qs.map V.ref) (fun i σ H'=>(∃ a1 b c,σ=[some (V.ref a),some (V.int z),some (V.ref p),some (V.ref mk),a1,b,c])∧bd mk H1 H'∧(NoT H→NoT H')∧H' mk=some (.lst (dc (ii z (Yc d).toNat (qf d).toNat ((ofN d.name sp).take i))))) ?_ ?_ ?_ ?_
 ·exact ⟨⟨_,_,_,rfl⟩,fun b u _ e=>e,fun n=>nt1 n.upd,hmk1⟩
 ·rintro i σ H' hi zzq;refine zP fun zzM zzh=>?_
  obtain ⟨_,sx,_,_⟩:=zzq;subst zzh;exact SqL.of (sx _ _ hrm l1)
 ·rintro i v σ H' hv zzq;refine zP fun zzM zzh=>?_
  obtain ⟨⟨a1,b,c,rfl⟩,sx,nt',hm⟩:=zzq;obtain ⟨qi,hqi,rfl⟩:=Xb hv;obtain ⟨o,ho,e⟩:=lq.at hqi;obtain ⟨dd,hd,rfl⟩:=Xb ho;obtain ⟨sd,hsd,hsn,rfl⟩:=zw (List.mem_of_getElem? hd);have hb:=hs2 sd hsd;have e':=sx _ _ (Mg e hmk1 (by intro z;cases z)) e;have W1:=wx sx;obtain ⟨_,dx1,hw1⟩:=id W1;subst zzh;walk_at "RD";refine ⟨_,SqT.of e',rfl,_,_,rfl,_,_,rfl,rfl,_,_,_,hw1,⟨_,dk,rfl⟩,KL (by decide +kernel),_,d,rfl,W1,rfl,_,rfl,by omega,by omega,?_⟩;rw [wD hd];refine Ei.range (fun k σ H'=>(∃ c,σ=[some (V.ref a),some (V.int z),some (V.ref p),some (V.ref mk),some (V.int sd.b),some (V.int sd.n),c])∧bd mk H1 H'∧(NoT H→NoT H')∧H' mk=some (.lst (dc (Ss z (Str.ofString "ready") sd.b k (ii z (Yc d).toNat (qf d).toNat ((ofN d.name sp).take i)))))) ?_ ?_ ?_
  ·exact ⟨⟨_,rfl⟩,sx,nt',hm⟩
  ·rintro k σ H2 hk zzq;refine zP fun zzM zzh=>?_
   obtain ⟨⟨c,rfl⟩,sx2,nt2,hm2⟩:=zzq;subst zzh;walk_at "RD";refine ⟨by omega,_,hm2,_,ay V.str (by rw [wg,Nh]) hz0 _,⟨_,rfl⟩,fun b u hb e=>by rw [wb hb];exact sx2 _ _ hb e,fun n=>(nt2 n).upd,?_⟩;rw [db];unfold dc;rw [ao V.str];rfl
  rintro σ H2 zzq;refine zP fun zzM zzh=>?_
  obtain ⟨⟨c,rfl⟩,sx2,nt2,hm2⟩:=zzq;subst zzh;walk_at "RD";refine ⟨by omega,by omega,?_⟩;refine Ei.range (fun k σ H'=>(∃ c,σ=[some (V.ref a),some (V.int z),some (V.ref p),some (V.ref mk),some (V.int sd.b),some (V.int sd.n),c])∧bd mk H1 H'∧(NoT H→NoT H')∧H' mk=some (.lst (dc (fw z (Str.ofString "free") sd.b k (Ss z (Str.ofString "ready") sd.b (Yc d).toNat (ii z (Yc d).toNat (qf d).toNat ((ofN d.name sp).take i))))))) ?_ ?_ ?_
  ·exact ⟨⟨_,rfl⟩,sx2,nt2,hm2⟩
  ·rintro k σ H2 hk zzq;refine zP fun zzM zzh=>?_
   obtain ⟨⟨c,rfl⟩,sx2,nt2,hm2⟩:=zzq;subst zzh;walk_at "RD";refine ⟨by omega,_,hm2,_,ay V.str (by rw [Ff,wg,Nh]) hz0 _,⟨_,rfl⟩,fun b u hb e=>by rw [wb hb];exact sx2 _ _ hb e,fun n=>(nt2 n).upd,?_⟩;rw [db];unfold dc;rw [ao V.str];rfl
  rintro σ H3 zzq;refine zP fun zzM zzh=>?_
  obtain ⟨⟨c,rfl⟩,sx3,nt3,hm3⟩:=zzq;have W3:=wx sx3;obtain ⟨_,dx3,hw3⟩:=id W3;subst zzh;walk_at "RD";refine ⟨_,_,_,hw3,⟨_,dk,rfl⟩,KL (by decide +kernel),_,d,rfl,W3,rfl,_,rfl,by omega,by omega,?_⟩;refine Ei.range (fun k σ H'=>(∃ c,σ=[some (V.ref a),some (V.int z),some (V.ref p),some (V.ref mk),some (V.int sd.b),some (V.int sd.n),c])∧bd mk H1 H'∧(NoT H→NoT H')∧H' mk=some (.lst (dc (fw z (Str.ofString "fade") (sd.b + sd.n) k (fw z (Str.ofString "free") sd.b sd.n.toNat (Ss z (Str.ofString "ready") sd.b (Yc d).toNat (ii z (Yc d).toNat (qf d).toNat ((ofN d.name sp).take i)))))))) ?_ ?_ ?_
  ·exact ⟨⟨_,rfl⟩,sx3,nt3,hm3⟩
  ·rintro k σ H2 hk zzq;refine zP fun zzM zzh=>?_
   obtain ⟨⟨c,rfl⟩,sx2,nt2,hm2⟩:=zzq;subst zzh;walk_at "RD";refine ⟨by omega,_,hm2,_,ay V.str (by rw [Ff,Ff,wg,Nh]) hz0 _,⟨_,rfl⟩,fun b u hb e=>by rw [wb hb];exact sx2 _ _ hb e,fun n=>(nt2 n).upd,?_⟩;rw [db];unfold dc;rw [ao V.str];rfl
  ·rintro σ H2 zzq;refine zP fun zzM zzh=>?_
   obtain ⟨⟨c,rfl⟩,sx2,nt2,hm2⟩:=zzq;subst zzh;exact ⟨⟨_,_,_,rfl⟩,sx2,nt2,hm2⟩
 ·rintro σ H' zzq;refine zP fun zzM zzh=>?_
  obtain ⟨⟨a1,b,c,rfl⟩,sx,nt',hm⟩:=zzq;subst zzh;walk_at "RD";rw [List.take_of_length_le (by rw [List.length_map,lq.1,List.length_map];exact Nat.le_refl _)] at hm;exact q _ _ (Oe ((jb hmk).trans s1) sx hmk) nt' hmk hm
theorem By (T:Txt w K mg t):Eb P w K mg base CX0 1 t.Ee t.De ["marks"] zt:=by
 refine T.xf.ok Ad (fun vs H Q E h=>?_) (fun _ _ _ s H vs Q E hr h=>?_)
 ·obtain ⟨p,m,rfl,_⟩:=h;rfl
 obtain ⟨p,m,rfl,hm,hl,q⟩:=h;refine ⟨_,(fb (yb (i:=1) Ad.nd (Pb Gb rfl T.di Tb (cb (pv 0) gb)))
   (fb (yb (i:=2) Ad.nd rb)
   (fb (yb (i:=3) Ad.nd (dg gb))
   (fb (fe PassesOwn.never rfl (qB rfl T.Ve (cb (bc Wf (bc zr rb (pv 1)) rb) (cb (JJ NG rb) (cb (JJ NG rb) gb)))) (qb (i:=4) Ad.nd) (fb (yb (i:=2) Ad.nd (Us (Si (uc Vc (pv 0) (bc gg (pv 4) (pv 1)))) rb (bc Zd (pv 2) rb)))
   (lb (Se (Zb Bu (pv 4) (pv 1) (Vb _)) (lb (Uc (Tu PySem.F.plainAttrs_list PySem.F.slot_list_append PySem.F.type_list_append Mh (pv 3) (cb (pv 2) gb)))) jc))))
   (lb (Db (Zl rfl rfl T.vi rfl T.xm (cb (pv 3) gb)))))))),?_⟩
 walk_at "RD";refine ⟨_,.inl (SqL.of hm),Nat.zero_le _,fun u hu=>?_⟩;have hbl:(ac m).length=m.length:=by unfold ac;rw [List.length_map]
 rw [hbl];refine ⟨by unfold gH;omega,by omega,by omega,by omega,by omega,?_⟩;have hun:p ≠ u:=Bb hm hu;refine Ei.of (n:=2 * m.length) (fun k σ H'=>(∃ x,σ=[some (V.ref p),some (V.int m.length),some (V.int (Me m k)),some (V.ref u),x])∧bd u H H'∧(NoT H→NoT H')∧H' u=some (.lst ((Xr m (k - m.length)).map V.int))) ?_ (fun i σ H' hi _=>?_) (fun σ H' _=>?_) ?_ ?_
 ·exact ⟨⟨_,rfl⟩,fun b o hb e=>by rw [wb hb];exact e,fun n=>n.upd,by rw [db,Nat.zero_sub];rfl⟩
 ·show i < _;omega
 ·show _ ≤ 2 * m.length;omega
 ·rintro k σ H'' v H' hk ⟨⟨x,rfl⟩,sx,nt',hu'⟩ ⟨rfl,rfl⟩;have hjn:(2 * m.length - 1 - k) % m.length < m.length:=Nat.mod_lt _ hl.1;have hmj:m[(2 * m.length - 1 - k) % m.length]? = some m[(2 * m.length - 1 - k) % m.length]:=List.getElem?_eq_getElem hjn;have hj:((2 * m.length - 1 - k:Int)) % (m.length:Int)=(((2 * m.length - 1 - k) % m.length:Nat):Int):=by
   rw [Int.natCast_emod];congr 1;omega
  have hat:atI (ac m) ((2 * m.length - 1 - k:Int) % (m.length:Int))=some (V.bl m[(2 * m.length - 1 - k) % m.length]):=by
   rw [hj];exact Fc (by unfold ac;rw [List.getElem?_map,hmj];rfl)
  have hst:Me m (k + 1)=if m[(2 * m.length - 1 - k) % m.length]=true then 0 else Me m k + 1:=by
   show (if m[(2 * m.length - 1 - k) % m.length]? = some true then 0 else Me m k + 1)=_;rw [hmj];simp
  simp only [Qk,Kb,List.set_cons_succ,List.set_cons_zero];refine zzC (fun σ H4=>H4=H'∧σ=[some (V.ref p),some (V.int m.length),some (V.int (Me m (k + 1))),some (V.ref u),some (V.int (2 * m.length - 1 - k))]) (fun D' hD=>?_) fun zzM zzh=>?_
  ·walk_at "RD";refine ⟨by omega,_,SqL.of (sx _ _ hun hm),_,hat,_,rfl,?_⟩;rw [hst] at hD;by_cases c:m[(2 * m.length - 1 - k) % m.length]=true
   ·rw [if_pos c] at hD ⊢;exact hD _ _ ⟨rfl,rfl⟩
   ·rw [if_neg c] at hD ⊢;exact hD _ _ ⟨rfl,rfl⟩
  rintro σ H4 ⟨rfl,rfl⟩;subst zzh;dsimp only;refine zc (decide ((2 * m.length - 1 - k:Int) < m.length)) (fun Q hQ=>?_) (fun hc=>?_) (fun hc=>?_)
  ·walk_at "RD";exact hQ
  ·walk_at "RD";have hc':=of_decide_eq_true hc;refine ⟨.inl ⟨_,SqL.of hu'⟩,_,hu',Nat.lt_of_le_of_lt (show ((Xr m (k - m.length)).map V.int).length ≤ 1000 by unfold Xr;simp;omega) (by decide),⟨_,rfl⟩,fun b o hb e=>by rw [wb hb];exact sx _ _ hb e,fun n=>(nt' n).upd,?_⟩;rw [db,show k + 1 - m.length=k - m.length + 1 by omega];unfold Xr;rw [List.range_succ,List.map_append,List.map_append];simp only [List.map_cons,List.map_nil];rw [show m.length + (k - m.length) + 1=k + 1 by omega]
  ·walk_at "RD";have hc':=of_decide_eq_false hc;refine ⟨⟨_,rfl⟩,sx,nt',?_⟩;rw [hu',show k - m.length=0 by omega,show k + 1 - m.length=0 by omega]
 ·rintro σ H' zzq;refine zP fun zzM zzh=>?_
  obtain ⟨⟨x,rfl⟩,sx,nt',hu'⟩:=zzq;subst zzh;walk_at "RD";refine ⟨_,SqL.of hu',fun l hl'=>?_⟩;have hlu:l ≠ u:=fun z=>by subst z;rw [hu'] at hl';cases hl'
  refine q _ _ ((Oe (Ob.refl H) sx hu).trans (jb hl')) (fun n=>(nt' n).upd) ((Oe (Ob.refl H) sx hu).free hl') ?_;rw [db,show 2 * m.length - m.length=m.length by omega,← List.map_reverse,wA]
theorem aF (T:Txt w K mg t):Eb P w K mg base CX0 2 t.Lf t.Kf ["marks"] Ay:=by
 have g19:Eb P w K mg base CX0 1 t.Ee t.De ["marks"] zt:=By T;refine T.ph.ok Pp (fun vs H Q E h=>?_) (fun _ _ _ s H vs Q E hr h=>?_)
 ·obtain ⟨p,m,rfl,_⟩:=h;rfl
 obtain ⟨p,m,rfl,hm,hl,q⟩:=h;refine ⟨_,(lb (Db (Zl rfl rfl T.vi rfl T.xm (cb (ub g19 hr T.ck T.xf.kp T.Kj (cb (Zl rfl rfl T.vi rfl T.xm (cb (pv 0) gb)) gb)) gb)))),?_⟩;walk_at "RD";refine ⟨_,SqL.of hm,fun l1 h1=>?_⟩;refine ⟨l1,m.reverse,rfl,by rw [db,ac,ac,List.map_reverse],by rw [List.length_reverse];exact hl,fun r H1 s1 nt1 hr1 hu=>⟨r,rfl,_,SqL.of hu,fun l2 h2=>?_⟩⟩;refine q _ _ (((jb h1).trans s1).trans (jb h2)) (fun n=>(nt1 n.upd).upd) (((jb h1).trans s1).free h2) ?_;rw [db,← List.map_reverse];rfl
end
end My
namespace My
open PySem L2
theorem Wh {α:Type} {l:List α} {a x:α} {i:Nat} (h:(l ++ [a])[i]? = some x):(i < l.length∧l[i]? = some x)∨(i=l.length∧x=a):=by
 by_cases hi:i < l.length
 ·rw [List.getElem?_append_left hi] at h;exact .inl ⟨hi,h⟩
 ·rw [List.getElem?_append_right (by omega)] at h;have h0:i - l.length=0:=by
   cases hh:i - l.length with
   | zero=>rfl
   | succ m=>rw [hh] at h;simp at h
  rw [h0] at h;exact .inr ⟨by omega,(by simpa using h:a=x).symm⟩
noncomputable def DOk (ds:List WD):Prop:=∀ d ∈ ds,0 ≤ d.off∧d.off ≤ 1000
noncomputable def Gu (ds:List WD) (sp:List SD):Option Str:=(ds.map (·.name)).find? fun x=>(ofN x sp).isEmpty
noncomputable def Ou (t:Adr):Sp:=fun vs H Q _=>∃ c n ds p sp,vs=[.ref c,.ref p]∧Oc t H c n ds∧LO H p (List.map sdO sp)∧sp.length ≤ 100∧Gu ds sp=none∧∀ H',Ob H H'→(NoT H→NoT H')→Q .non H'
noncomputable def nz (z:Int) (sp:List SD) (k:Nat) (d:SD):Int:=(((ofN d.name (sp.eraseIdx k)).map fun p=>(p.1 - d.b) % z).min?).getD z
noncomputable def VB:Sp:=fun vs H Q E=>∃ (z:Int) (p:Addr) (sp:List SD) (k:Nat) (d:SD),vs=[.int z,.ref p,.int k]∧0 < z∧LO H p (List.map sdO sp)∧sp.length ≤ 100∧sp[k]? = some d∧∀ H',Ob H H'→(NoT H→NoT H')→Q (.int (nz z sp k d)) H'
theorem Oz {α:Type} (l:List α) (x:α) (k:Nat):(l ++ [x]).eraseIdx k=if k=l.length then l.eraseIdx k else l.eraseIdx k ++ [x]:=by
 by_cases h:k < l.length
 ·rw [if_neg (by omega),List.eraseIdx_append_of_lt_length h]
 ·rw [List.eraseIdx_append_of_length_le (by omega),List.eraseIdx_of_length_le (l:=l) (by omega)];by_cases h2:k=l.length
  ·rw [if_pos h2,h2,Nat.sub_self];simp
  ·rw [if_neg h2,List.eraseIdx_of_length_le (by simp;omega)]
noncomputable def wOf (ds:List WD) (x:Str):Option WD:=ds.find? fun d=>decide (d.name=x)
noncomputable def br (ds:List WD) (z:Int) (sp:List SD) (k:Nat) (s:SD):Bool:=(wOf ds s.name).any fun d=>decide (s.n < d.least) || decide (nz z sp k s < s.n + qf d + Yc d)
noncomputable def qv (ds:List WD) (z:Int) (sp:List SD):Option (SD × Nat):=sp.zipIdx.find? fun e=>br ds z sp e.2 e.1
noncomputable def Xu (t:Adr):Sp:=fun vs H Q _=>∃ (c:Addr) (n:Int) (ds:List WD) (z:Int) (p:Addr) (sp:List SD),vs=[.ref c,.int z,.ref p]∧Oc t H c n ds∧DOk ds∧(0 < z∧z ≤ 1000)∧LO H p (List.map sdO sp)∧lJ z sp∧(∀ s ∈ sp,∃ d,wOf ds s.name=some d)∧qv ds z sp=none∧∀ H',Ob H H'→(NoT H→NoT H')→Q .non H'
theorem xv {P:Program} {w:World} {K:PySem.W.Frag} {mg:Str→Option Value} {base:Heap} {CX:CXT} {j k:Nat} {OK:Addr→Prop} {m:Str} {ps:List Str} {SPV:Addr→Sp} (V:XE P w K mg base CX j OK m ps SPV) (h:j ≤ k):XE P w K mg base CX k OK m ps SPV:=⟨fun C hC=>by
 obtain ⟨f,fd,h1,h2,h3,h4⟩:=V.ok C hC;exact ⟨f,fd,h1,h2,h3.mono h,h4⟩⟩
theorem zH {ds:List WD} {x:Str} {d:WD} (h:wOf ds x=some d):d.name=x∧∃ i:Nat,ds[i]? = some d:=by
 unfold wOf at h;refine ⟨by simpa using List.find?_some h,?_⟩;obtain ⟨i,hi,e⟩:=List.getElem_of_mem (List.mem_of_find?_eq_some h);exact ⟨i,by rw [List.getElem?_eq_getElem hi,e]⟩
noncomputable def JH (d1 d2:WD):Int:=if d1.off - d2.near > 0 then d1.off - d2.near else 0
noncomputable def px (g:Int) (m1 m2:List Int):Option ((Int × Int) × Nat):=(m1.zip m2).zipIdx.find? fun e=>decide (e.1.2=0) && decide (e.1.1 ≤ g)
noncomputable def OG (t:Adr):Sp:=fun vs H Q _=>∃ (c:Addr) (n:Int) (ds:List WD) (d1 d2:WD) (p1 p2:Addr) (m1 m2:List Int),vs=[.ref c,.str d1.name,.str d2.name,.ref p1,.ref p2]∧Oc t H c n ds∧d1 ∈ ds∧d2 ∈ ds∧H p1=some (.lst (m1.map V.int))∧H p2=some (.lst (m2.map V.int))∧m1.length=m2.length∧m1.length ≤ 1000∧px (JH d1 d2) m1 m2=none∧∀ H',Ob H H'→(NoT H→NoT H')→Q .non H'
noncomputable def Kl (z:Nat) (sp:List SD) (x:Str):List Int:=Hr (fmF z (ofN x sp))
noncomputable def Yr (n:Int) (z:Nat) (sp:List SD) (d1 d2:WD):Option Nat:=if d1.name ≠ d2.name∧mt n d1 d2=true then (px (JH d1 d2) (Kl z sp d1.name) (Kl z sp d2.name)).map (·.2) else none
noncomputable def MB (n:Int) (z:Nat) (sp:List SD) (d1:WD) (ds:List WD):Option (WD × WD × Nat):=ds.findSome? fun d2=>(Yr n z sp d1 d2).map fun i=>(d1,d2,i)
noncomputable def vv (n:Int) (z:Nat) (sp:List SD) (ds:List WD):Option (WD × WD × Nat):=ds.findSome? fun d1=>MB n z sp d1 ds
noncomputable def Iu (t:Adr):Sp:=fun vs H Q _=>∃ (c:Addr) (n:Int) (ds:List WD) (z:Nat) (p:Addr) (sp:List SD),vs=[.ref c,.int z,.ref p]∧Oc t H c n ds∧0 < n∧(0 < z∧z ≤ 1000)∧LO H p (List.map sdO sp)∧lJ z sp∧NoT H∧vv n z sp ds=none∧∀ H',Ob H H'→NoT H'→Q .non H'
theorem jj (m:List Bool):(Pj m).length=m.length:=by unfold Pj;simp
theorem om (z:Nat) (sp:List SD) (x:Str):(Kl z sp x).length=z:=by
 unfold Kl Hr;rw [List.length_reverse,jj,List.length_reverse,Yi]
noncomputable def nkv (ds:List WD) (rs:List Addr):List (Key × V):=(ds.zip rs).map fun e=>(Sum.inr e.1.name,V.ref e.2)
noncomputable def NK (H:Hp) (p:Addr) (ds:List WD) (f:WD→HO) (n:Nat):Prop:=∃ rs:List Addr,rs.length=n∧H p=some (.dK (nkv ds rs))∧∀ (i:Nat) (r:Addr) (d:WD),rs[i]? = some r→ds[i]? = some d→H r=some (f d)
theorem qK {ds:List WD} (h:(ds.map (·.name)).Nodup) {i j:Nat} {d e:WD} (hi:ds[i]? = some d) (hj:ds[j]? = some e) (z:d.name=e.name):i=j:=
 Kx h (List.getElem?_eq_some_iff.mp hi).1 (List.getElem?_eq_some_iff.mp hj).1 (by rw [Sv hi,Sv hj];exact z)
theorem Ew {ds:List WD} {rs:List Addr} (h:(ds.map (·.name)).Nodup) {i:Nat} {d:WD} {r:Addr} (hd:ds[i]? = some d) (hr:rs[i]? = some r):du (nkv ds rs) (Sum.inr d.name)=some (.ref r):=by
 obtain ⟨h1,e1⟩:=List.getElem?_eq_some_iff.mp hd;obtain ⟨h2,e2⟩:=List.getElem?_eq_some_iff.mp hr;unfold du;have hf:List.find? (fun kv=>decide (kv.1=(Sum.inr d.name:Key))) (nkv ds rs)=some (Sum.inr d.name,.ref r):=by
  rw [List.find?_eq_some_iff_getElem];refine ⟨by simp,i,by unfold nkv;simp;omega,by unfold nkv;simp [e1,e2],fun j hj=>?_⟩;unfold nkv;simp;intro z;have:=qK h (List.getElem?_eq_getElem (show j < ds.length by omega)) hd z;omega
 rw [hf];rfl
theorem Zv {ds:List WD} {rs:List Addr} (h:(ds.map (·.name)).Nodup) {d:WD} {r:Addr} (hd:ds[rs.length]? = some d):Tv (nkv ds rs) (Sum.inr d.name) (.ref r)=nkv ds (rs ++ [r]):=by
 obtain ⟨h1,e1⟩:=List.getElem?_eq_some_iff.mp hd;unfold Tv;have no:((nkv ds rs).any fun kv=>decide (kv.1=Sum.inr d.name))=false:=by
  rw [List.any_eq_false];intro p hp;unfold nkv at hp;obtain ⟨e,he,rfl⟩:=List.mem_map.mp hp;obtain ⟨j,hj,hje⟩:=List.getElem_of_mem he;simp only [decide_eq_true_eq];intro z;have z:=Sum.inr.inj z;rw [← hje] at z;simp at hj z;have:=qK h (List.getElem?_eq_getElem (show j < ds.length by omega)) hd z;omega
 rw [no,if_neg (by decide)];unfold nkv;refine List.ext_getElem (by simp;omega) (fun i h3 h4=>?_);simp at h3 h4;by_cases c:i < rs.length
 ·simp [List.getElem_append,c,show i < ds.length by omega];rw [dif_pos (by omega)]
 ·have:i=rs.length:=by omega
  subst this;simp [List.getElem_append,Nat.le_of_lt h1,e1]
section
variable {P:Program} {w:World} {K:PySem.W.Frag} {mg:Str→Option Value} {base:Heap} {t:Adr}
theorem ZD (T:Txt w K mg t):Eb P w K mg base CX0 3 t.Jf t.Pf q38 (Ou t):=by
 have g11:Eb P w K mg base CX0 2 t.tf t.uf q12 Po:=(Rt T).mono (by decide);have g12:Eb P w K mg base CX0 2 t.Jc t.Wc ["self"] (jo t):=(Ws T).mono (by decide);refine T.nh.ok Ri (fun vs H Q E h=>?_) (fun _ _ _ s H vs Q E hr h=>?_)
 ·obtain ⟨c,n,ds,p,sp,rfl,_⟩:=h;rfl
 obtain ⟨c,n,ds,p,sp,rfl,C,L,hs,hN,q⟩:=h;refine ⟨_,(lb (fe PassesOwn.never rfl (ce (Je (pv 0) T.Fb T.Kd g12 hr T.Od .nil Rc)) (qb (i:=2) Ri.nd) (lb (Se (Zm (Yy (ub g11 hr T.qj T.rg.kp T.nj (cb (pv 1) (cb (pv 2) gb))) (fun _=>rfl))) (lb og) jc)))),?_⟩;walk_at "RD";obtain ⟨_,dx,wl,nd,e1,_,_⟩:=id C;refine ⟨_,_,e1,Qw _ _ _ (by decide +kernel),c,n,ds,rfl,C,fun pn hpn=>⟨pn,rfl,⟨_,SqL.of db⟩,?_⟩⟩;refine Ei.list (xs:=dc (ds.map (·.name))) (fun i σ H'=>(∃ y,σ=[some (V.ref c),some (V.ref p),y])∧Ob (upd H pn (.lst (dc (ds.map (·.name))))) H'∧(NoT H→NoT H')) ?_ ?_ ?_ ?_
 ·exact ⟨⟨_,rfl⟩,Ob.refl _,fun n=>n.upd⟩
 ·rintro i σ H' hi ⟨_,sm,_⟩;exact SqL.of (sm _ _ db)
 ·rintro i v σ H' hv zzq;refine zP fun zzM zzh=>?_
  obtain ⟨⟨y,rfl⟩,sm,nt⟩:=zzq;obtain ⟨x,hx,rfl⟩:=Xb hv;have smH:Ob H H':=(jb hpn).trans sm;have hne:(ofN x sp).isEmpty=false:=by
   have:=List.find?_eq_none.mp hN x (List.mem_of_getElem? hx);simpa using this
  subst zzh;walk_at "RD";refine El (fun b H2=>b=(ofN x sp).isEmpty∧Ob H' H2∧(NoT H'→NoT H2)) (fun Q hQ=>?_) (fun H2 r=>?_) (fun H2 r=>?_)
  ·walk_at "RD";refine ⟨p,x,sp,rfl,L.same smH,hs,fun r H2 s2 n2 ⟨qs,l1,l2⟩=>⟨!(ofN x sp).isEmpty,.inl ⟨_,SqL.of l1,?_⟩,?_⟩⟩
   ·have hl:=l2.1;cases qs with
    | nil=>cases h:ofN x sp with
     | nil=>rfl
     | cons a r=>rw [h] at hl;simp at hl
    | cons a r=>cases h:ofN x sp with
     | nil=>rw [h] at hl;simp at hl
     | cons a r=>rfl
   ·rw [Bool.not_not];exact hQ _ _ ⟨rfl,s2,n2⟩
  ·exact absurd (r.1.trans hne) (by decide)
  ·obtain ⟨r1,r2,r3⟩:=r;walk_at "RD";exact ⟨⟨_,rfl⟩,sm.trans r2,fun n=>r3 (nt n)⟩
 ·rintro σ H' zzq;refine zP fun zzM zzh=>?_
  obtain ⟨⟨y,rfl⟩,sm,nt⟩:=zzq;subst zzh;exact q _ ((jb hpn).trans sm) nt
theorem aJ (T:Txt w K mg t):Eb P w K mg base CX0 2 t.ad t.kd q39 VB:=by
 have g11:Eb P w K mg base CX0 1 t.tf t.uf q12 Po:=Rt T;refine T.Yd.ok wc (fun vs H Q E h=>?_) (fun _ _ _ s H vs Q E hr h=>?_)
 ·obtain ⟨z,p,sp,k,d,rfl,_⟩:=h;rfl
 obtain ⟨z,p,sp,k,d,rfl,hz,⟨qs,l1,lq⟩,hs,hk,q⟩:=h;refine ⟨_,(fb (Fl (uc Vc (pv 1) (pv 2)) (Hd (K:=K) (n:=3) rfl rfl (zb (qb (i:=3) wc.nd) (zb (BD (i:=4) wc.nd rfl (Or.inr rfl) (.inl rfl)) (zb (qb (i:=5) wc.nd) Ed)))))
   (fb (vf (i:=6) wc.nd rfl (Or.inl rfl) rfl (Ak rfl T.Ke (cb (pv 1) gb)) (Lc (sc:=pb Zc) rfl (by decide +kernel)) (N:=q51) (sel:=[none,none,some 2]) (yd (M:=q49) (by decide +kernel)) (Blk.of (fun _ _ _ _=>(Hd (K:=K) (n:=2) rfl rfl (zb (qb (i:=0) (Dg (N:=q51) (by decide +kernel) rfl)) (zb (qb (i:=1) (Dg (N:=q51) (by decide +kernel) rfl)) Ed)))) (fun _ _ _ _=>⟨_,(bx (Zb KB (pv 0) (pv 2) (Vb _))),by walk_at "B"⟩) (fun _ _ _ _=>⟨_,(pv 1),by walk_at "B"⟩)) rfl)
   (lb (Db (cJ rfl rfl T.QF (cb (Rh rfl (ce (ub g11 hr T.qj T.rg.kp T.nj (cb (pv 6) (cb (pv 3) gb)))) (Lc (sc:=pb Zc) rfl (by decide +kernel)) (N:=q52) (sel:=[none,none,some 4,some 0]) (yd (M:=q49) (by decide +kernel)) (Blk.of (fun _ _ _ _=>(Hd (K:=K) (n:=2) rfl rfl (zb (qb (i:=0) (Dg (N:=q52) (by decide +kernel) rfl)) (zb (qb (i:=1) (Dg (N:=q52) (by decide +kernel) rfl)) Ed)))) (fun _ _ _ _=>⟨_,rf,by walk_at "B"⟩) (fun _ _ _ _=>⟨_,(bc gg (bc Wf (pv 0) (pv 2)) (pv 3)),by walk_at "B"⟩))) gb) (pv 0)))))),?_⟩
 walk_at "RD";have hql:qs.length=sp.length:=by rw [lq.1,List.length_map]
 obtain ⟨hkl,hkd⟩:=List.getElem?_eq_some_iff.mp hk;have hqk:qs[k]? = some qs[k]:=List.getElem?_eq_getElem (by omega);have ek:H qs[k]=some (sdO d):=lq.2 k _ _ hqk (by rw [List.getElem?_map,hk];rfl);refine ⟨_,SqL.of l1,_,Fc (by rw [List.getElem?_map,hqk];rfl),_,rfl,_,SqT.of ek,rfl,_,_,rfl,_,_,rfl,_,_,rfl,rfl,⟨_,SqL.of l1⟩,?_⟩;refine vd.enum (xs:=qs.map V.ref) (fun i ys H'=>∃ os:List Addr,ys=os.map V.ref∧LQ H' os (((sp.take i).eraseIdx k).map sdO)∧Ob H H'∧(NoT H→NoT H')) (Nat.le_trans (show (qs.map V.ref).length ≤ 100 by rw [List.length_map];omega) (by decide)) ⟨[],rfl,by rw [List.take_zero];exact LQ.nil _,Ob.refl _,id⟩ ?_ ?_ ?_
 ·rintro i ys H' hi zzq;refine zP fun zzM zzh=>?_
  obtain ⟨os,rfl,r,sm,_⟩:=zzq;subst zzh;refine ⟨(SqL.of l1).same sm,?_⟩;rw [List.length_map,r.1,List.length_map];exact Nat.le_trans (List.length_eraseIdx_le ..) (by rw [List.length_take];omega)
 ·rintro i v ys H' p1 hv ⟨os,rfl,r,sm,nt⟩ hp1 N hN;obtain ⟨qi,hqi,rfl⟩:=Xb hv;obtain ⟨o,ho,e⟩:=lq.at hqi;obtain ⟨d',hd',rfl⟩:=Xb ho;have e':=sm _ _ e;have s1:Ob H' (upd H' p1 (.tup [.int i,.ref qi])):=jb hp1;refine Xf ?_;dsimp only at hN;have hil:(sp.take i).length=i:=by
   have:=(List.getElem?_eq_some_iff.mp hd').1;rw [List.length_take];omega
  rw [Eh hd',Oz,hil] at hN;walk_at "RD";refine ⟨Sub.name2,?_⟩;by_cases c:k=i
  ·rw [if_pos c] at hN;rw [if_neg (by subst c;simp)];exact hN _ _ ⟨os,rfl,r.same s1,sm.trans s1,fun n=>(nt n).upd⟩
  ·rw [if_neg c] at hN;rw [if_pos (by simp;omega)];refine hN _ _ ⟨os ++ [qi],by rw [List.map_append];rfl,?_,sm.trans s1,fun n=>(nt n).upd⟩;rw [List.map_append];exact (r.same s1).app (LQ.one (s1 _ _ e'))
 ·rintro ys H' ⟨os,rfl,r,sm,nt⟩ p1 hp1;rw [List.take_of_length_le (by rw [List.length_map];omega)] at r;walk_at "RD";have s1:Ob H' (upd H' p1 (.lst (os.map V.ref))):=jb hp1;refine ⟨p1,d.name,sp.eraseIdx k,rfl,⟨os,db,r.same s1⟩,Nat.le_trans (List.length_eraseIdx_le ..) hs,fun r2 H2 s2 n2 ⟨qs2,m1,m2⟩=>⟨r2,rfl,⟨_,SqL.of m1⟩,?_⟩⟩;have hln:(ofN d.name (sp.eraseIdx k)).length ≤ 100:=Nat.le_trans (KC _ _) (Nat.le_trans (List.length_eraseIdx_le ..) hs);have hml:qs2.length=(ofN d.name (sp.eraseIdx k)).length:=by rw [m2.1,List.length_map]
  refine vd.list_zs (zs:=((ofN d.name (sp.eraseIdx k)).map fun p=>(p.1 - d.b) % z).map V.int) (SqL.of m1) (Nat.le_trans (show (qs2.map V.ref).length ≤ 100 by rw [List.length_map];omega) (by decide)) (by simp [hml]) (fun i v z' N hv hz' hN=>?_) (fun l hl=>?_)
  ·obtain ⟨qi,hqi,rfl⟩:=Xb hv;obtain ⟨o,ho,e⟩:=m2.at hqi;obtain ⟨pr,hpr,rfl⟩:=Xb ho;obtain ⟨y,hy,rfl⟩:=Xb hz';obtain ⟨pr',hpr',rfl⟩:=Xb hy;rw [hpr] at hpr';cases hpr';walk_at "RD";exact ⟨_,SqT.of e,rfl,_,_,rfl,_,_,rfl,rfl,Sub.name2,_,rfl,hz,hN⟩
  ·walk_at "RD";refine ⟨_,SqL.of db,?_⟩;have:=q (upd H2 l (.lst (((ofN d.name (sp.eraseIdx k)).map fun p=>(p.1 - d.b) % z).map V.int))) (((sm.trans s1).trans s2).trans (jb hl)) (fun n=>(n2 (nt n).upd).upd);unfold nz at this;cases hm:((ofN d.name (sp.eraseIdx k)).map fun p=>(p.1 - d.b) % z).min? with
   | none=>rw [hm] at this;exact this
   | some m=>rw [hm] at this;exact this
theorem jE (T:Txt w K mg t):Eb P w K mg base CX0 4 t.Nf t.Ef q14 (Xu t):=by
 have g46:Eb P w K mg base CX0 3 t.ad t.kd q39 VB:=(aJ T).mono (by decide);have g0:Eb P w K mg base CX0 3 t.Hb t.Nb q8 (Rf t):=(vg T).mono (by decide);have V_Way_ready:XE P w K mg base CX0 3 (isW t) "ready" ["self"] (Ah t):=xv (nE T) (by decide);have V_Way_fade:XE P w K mg base CX0 3 (isW t) "fade" ["self"] (oj t):=xv (AG T) (by decide);refine T.rh.ok Cc (fun vs H Q E h=>?_) (fun _ _ _ s H vs Q E hr h=>?_)
 ·obtain ⟨c,n,ds,z,p,sp,rfl,_⟩:=h;rfl
 obtain ⟨c,n,ds,z,p,sp,rfl,C,hD,hz,⟨qs,l1,lq⟩,hs,hk,hN,q⟩:=h;refine ⟨_,(lb (fe PassesOwn.never rfl (Ak rfl T.Ke (cb (pv 2) gb)) (Hd (K:=K) (n:=2) rfl rfl (zb (qb (i:=3) Cc.nd) (zb (qb (i:=4) Cc.nd) Ed))) (fb (Fl (pv 4) (Hd (K:=K) (n:=3) rfl rfl (zb (qb (i:=5) Cc.nd) (zb (qb (i:=6) Cc.nd) (zb (qb (i:=7) Cc.nd) Ed)))))
   (fb (yb (i:=8) Cc.nd (qd (pv 0) T.Fb T.Sb g0 hr T.Rb .nil Rc (cb (pv 5) gb)))
   (fb (yb (i:=9) Cc.nd (bc Zd (bc Zd (pv 7) (Il (pv 8) V_Way_fade hr Rc)) (Il (pv 8) V_Way_ready hr Rc)))
   (lb (Se (PW.pt (yu (Zb Bu (pv 7) (Ub (pv 8) rfl) (Vb _)) (No (Zb Bu (ub g46 hr T.aj T.Yd.kp T.Vi (cb (pv 1) (cb (pv 2) (cb (pv 3) gb)))) (pv 9) (Vb _))))) (lb og) jc))))))),?_⟩
 walk_at "RD";have hql:qs.length=sp.length:=by rw [lq.1,List.length_map]
 refine ⟨⟨_,SqL.of l1⟩,?_⟩;refine Ei.enum (xs:=qs.map V.ref) (fun i σ H'=>(∃ a b c1 d e f g,σ=[some (V.ref c),some (V.int z),some (V.ref p),a,b,c1,d,e,f,g])∧Ob H H'∧(NoT H→NoT H')) ?_ ?_ ?_ ?_
 ·exact ⟨⟨_,_,_,_,_,_,_,rfl⟩,Ob.refl _,id⟩
 ·rintro i σ H' hi ⟨_,sm,_⟩;exact SqL.of (sm _ _ l1)
 ·rintro i v σ H0 p1 hv ⟨⟨a1,a2,a3,a4,a5,a6,a7,rfl⟩,sm,nt⟩ hp1;obtain ⟨qi,hqi,rfl⟩:=Xb hv;obtain ⟨o,ho,e⟩:=lq.at hqi;obtain ⟨sd,hsd,rfl⟩:=Xb ho;obtain ⟨hi,hxi⟩:=List.getElem?_eq_some_iff.mp hsd;have hB0:br ds z sp i sd=false:=by
   have:=List.find?_eq_none.mp hN (sd,i) (by rw [List.mem_iff_getElem?];exact ⟨i,by rw [List.getElem?_zipIdx,hsd];simp⟩);simpa using this
  have s1:Ob H0 (upd H0 p1 (.tup [.int i,.ref qi])):=jb hp1;refine Xf ?_;have nt1:NoT H→NoT (upd H0 p1 (.tup [.int i,.ref qi])):=fun n=>(nt n).upd
  generalize upd H0 p1 (.tup [.int i,.ref qi])=H' at s1 nt1 ⊢;have smH:Ob H H':=sm.trans s1;obtain ⟨d,hd⟩:=hk sd (List.mem_of_getElem? hsd);obtain ⟨hdn,j,hj⟩:=zH hd;have C':=C.same smH;obtain ⟨_,dx,wl,nd,e1,_,_⟩:=id C';have hB:br ds z sp i sd=(decide (sd.n < d.least) || decide (nz z sp i sd < sd.n + qf d + Yc d)):=by
   unfold br;rw [hd];rfl
  walk_at "RD";refine ⟨_,SqT.of (smH _ _ e),rfl,_,_,rfl,_,_,rfl,_,_,rfl,rfl,_,_,e1,Qw _ _ _ (by decide +kernel),c,n,ds,j,d,by rw [hdn],C',hj,fun a W=>?_⟩;obtain ⟨dk,dxa,ha⟩:=id W;refine ⟨a,rfl,_,_,_,ha,⟨_,dk,rfl⟩,KL (by decide +kernel),a,d,rfl,W,rfl,_,rfl,_,rfl,a,rfl,_,_,_,ha,⟨_,dk,rfl⟩,KL (by decide +kernel),a,d,rfl,W,rfl,_,rfl,?_⟩;refine El (fun b H2=>b=br ds z sp i sd∧Ob H' H2∧(NoT H'→NoT H2)) (fun Q hQ=>?_) (fun H2 r=>?_) (fun H2 r=>?_)
  ·rw [hB] at hQ;walk_at "RD";refine ⟨_,W.f_least T,_,rfl,?_⟩;by_cases c1:sd.n < d.least
   ·rw [decide_eq_true c1] at hQ;rw [if_pos (decide_eq_true c1)];exact hQ _ _ ⟨rfl,Ob.refl _,id⟩
   ·rw [decide_eq_false c1,Bool.false_or] at hQ;rw [if_neg (by simpa using c1)];exact ⟨z,p,sp,i,sd,rfl,hz.1,⟨qs,smH _ _ l1,lq.same smH⟩,hs.1,hsd,fun H2 s2 n2=>⟨_,rfl,hQ _ _ ⟨rfl,s2,n2⟩⟩⟩
  ·exact absurd (r.1.trans hB0) (by decide)
  ·obtain ⟨r1,r2,r3⟩:=r;exact ⟨⟨_,_,_,_,_,_,_,rfl⟩,smH.trans r2,fun n=>r3 (nt1 n)⟩
 ·rintro σ H' ⟨_,sm,nt⟩;exact q _ sm nt
theorem FJ (T:Txt w K mg t):Eb P w K mg base CX0 4 t.pe t.me q40 (OG t):=by
 have g47:Eb P w K mg base CX0 3 t.eG t.rF q13 (QG t):=QK T;refine T.pf.ok Xd (fun vs H Q E h=>?_) (fun _ _ _ s H vs Q E hr h=>?_)
 ·obtain ⟨c,n,ds,d1,d2,p1,p2,m1,m2,rfl,_⟩:=h;rfl
 obtain ⟨c,n,ds,d1,d2,p1,p2,m1,m2,rfl,C,h1,h2,L1,L2,hl,hm,hN,q⟩:=h;refine ⟨_,(fb (yb (i:=5) Xd.nd (ub g47 hr T.BM T.HI.kp T.RL (cb (pv 0) (cb (pv 1) (cb (pv 2) gb)))))
   (lb (fe PassesOwn.never rfl (Ak rfl T.Ke (cb (pv 3) gb)) (Hd (K:=K) (n:=2) rfl rfl (zb (qb (i:=6) Xd.nd) (zb (qb (i:=7) Xd.nd) Ed))) (lb (Se (PW.pt (jB (Zb vj (uc Vc (pv 4) (pv 6)) rb (Vb _)) (cx (Zb sL (pv 7) (pv 5) (Vb _))))) (lb og) jc))))),?_⟩
 walk_at "RD";obtain ⟨j1,hj1,ej1⟩:=List.getElem_of_mem h1;obtain ⟨j2,hj2,ej2⟩:=List.getElem_of_mem h2;refine ⟨c,n,ds,j1,j2,d1,d2,rfl,C,by rw [List.getElem?_eq_getElem hj1,ej1],by rw [List.getElem?_eq_getElem hj2,ej2],⟨_,SqL.of L1⟩,?_⟩;rw [show (if d1.off - d2.near > 0 then d1.off - d2.near else 0)=JH d1 d2 from rfl];refine Ei.enum (xs:=m1.map V.int) (fun i σ H'=>(∃ a b,σ=[some (V.ref c),some (V.str d1.name),some (V.str d2.name),some (V.ref p1),some (V.ref p2),some (V.int (JH d1 d2)),a,b])∧Ob H H'∧(NoT H→NoT H')) ?_ ?_ ?_ ?_
 ·exact ⟨⟨_,_,rfl⟩,Ob.refl _,id⟩
 ·rintro i σ H' hi ⟨_,sm,_⟩;exact SqL.of (sm _ _ L1)
 ·rintro i v σ H0 p3 hv ⟨⟨a1,a2,rfl⟩,sm,nt⟩ hp3;obtain ⟨x1,hx1,rfl⟩:=Xb hv;obtain ⟨hi,ex1⟩:=List.getElem?_eq_some_iff.mp hx1;have hi2:i < m2.length:=by omega
  have hx2:m2[i]? = some m2[i]:=List.getElem?_eq_getElem hi2;have hB0:(decide (m2[i]=0) && decide (x1 ≤ JH d1 d2))=false:=by
   have:=List.find?_eq_none.mp hN ((x1,m2[i]),i) (by rw [List.mem_iff_getElem?];exact ⟨i,by rw [List.getElem?_zipIdx,List.getElem?_zip_eq_some (z:=(x1,m2[i])) |>.mpr ⟨hx1,hx2⟩];simp⟩);simpa using this
  have s1:Ob H0 (upd H0 p3 (.tup [.int i,.int x1])):=jb hp3;refine Xf ?_;have nt1:NoT H→NoT (upd H0 p3 (.tup [.int i,.int x1])):=fun n=>(nt n).upd
  generalize upd H0 p3 (.tup [.int i,.int x1])=H' at s1 nt1 ⊢;have smH:Ob H H':=sm.trans s1;walk_at "RD";refine zc (decide (m2[i]=0) && decide (x1 ≤ JH d1 d2)) (fun Q hQ=>?_) (fun c1=>?_) (fun c1=>?_)
  ·walk_at "RD";refine ⟨_,SqL.of (smH _ _ L2),_,Fc (by rw [List.getElem?_map,hx2];rfl),rfl,?_⟩;by_cases c0:m2[i]=0
   ·rw [decide_eq_true c0,Bool.true_and] at hQ;rw [if_pos (by rw [c0];exact decide_eq_true rfl)];exact hQ
   ·rw [decide_eq_false c0,Bool.false_and] at hQ;rw [if_neg (by rw [decide_eq_true_eq];exact fun e=>c0 (V.int.inj e))];exact hQ
  ·exact absurd (c1.symm.trans hB0) (by decide)
  ·exact ⟨⟨_,_,rfl⟩,smH,nt1⟩
 ·rintro σ H' ⟨_,sm,nt⟩;exact q _ sm nt
theorem xD (T:Txt w K mg t):Eb P w K mg base CX0 5 t.Cf t.Gf q14 (Iu t):=by
 have g48:Eb P w K mg base CX0 4 t.Lf t.Kf ["marks"] Ay:=(aF T).mono (by decide);have g20:Eb P w K mg base CX0 4 t.Sf t.Uf q26 GI:=(RJ T).mono (by decide);have g12:Eb P w K mg base CX0 4 t.Jc t.Wc ["self"] (jo t):=(Ws T).mono (by decide);have g49:Eb P w K mg base CX0 4 t.ky t.Uy q13 (EE t):=(eI T).mono (by decide);have g50:Eb P w K mg base CX0 4 t.pe t.me q40 (OG t):=FJ T;refine T.mh.ok ae (fun vs H Q E h=>?_) (fun _ _ _ s H vs Q E hr h=>?_)
 ·obtain ⟨c,n,ds,z,p,sp,rfl,_⟩:=h;rfl
 obtain ⟨c,n,ds,z,p,sp,rfl,C,hn,hz,L,hs,nt0,hN,q⟩:=h;have hu:=Sw hr;refine ⟨_,(fb (yb (i:=3) ae.nd mo)
   (fb (fe PassesOwn.never rfl (ce (Je (pv 0) T.Fb T.Kd g12 hr T.Od .nil Rc)) (qb (i:=4) ae.nd) (lb (jt hu (pv 3) (pv 4) (ub g48 hr T.Tq T.ph.kp T.kq (cb (ub g20 hr T.gn T.Vg.kp T.Qm (cb (pv 1) (cb (pv 2) (cb (pv 4) gb)))) gb)) rfl)))
   (lb (fe PassesOwn.never rfl (ce (Je (pv 0) T.Fb T.Kd g12 hr T.Od .nil Rc)) (qb (i:=5) ae.nd) (lb (fe PassesOwn.never rfl (ce (Je (pv 0) T.Fb T.Kd g12 hr T.Od .nil Rc)) (qb (i:=6) ae.nd) (lb (Se (PW.pt (jB (Zb KB (pv 5) (pv 6) (Vb _)) (cx (Si (ub g49 hr T.UK T.OA.kp T.aL (cb (pv 0) (cb (pv 5) (cb (pv 6) gb)))))))) (lb (Uc (ub g50 hr T.jm T.pf.kp T.ym (cb (pv 0) (cb (pv 5) (cb (pv 6) (cb (zo hu (pv 3) (pv 5) (fun _ _=>rfl)) (cb (zo hu (pv 3) (pv 6) (fun _ _=>rfl)) gb)))))))) jc)))))))),?_⟩
 walk_at "RD";intro pd hpd;obtain ⟨⟨hnd,hdl⟩,dx,wl,nd,e1,_,_⟩:=id C;have s0:Ob H (upd H pd (.dK [])):=jb hpd;refine ⟨_,_,s0 _ _ e1,Qw _ _ _ (by decide +kernel),c,n,ds,rfl,C.same s0,fun pn hpn=>⟨pn,rfl,⟨_,SqL.of db⟩,?_⟩⟩;have hpp:pn ≠ pd:=fun e=>by subst e;rw [db] at hpn;cases hpn
 refine Ei.list (xs:=dc (ds.map (·.name))) (fun i σ H'=>(∃ y,σ=[some (V.ref c),some (V.int z),some (V.ref p),some (V.ref pd),y,none,none])∧Ob H H'∧NoT H'∧H' pn=some (.lst (dc (ds.map (·.name))))∧NK H' pd ds (fun d=>.lst ((Kl z sp d.name).map V.int)) i) ?_ ?_ ?_ ?_
 ·exact ⟨⟨_,rfl⟩,s0.trans (jb hpn),(nt0.upd).upd,db,[],rfl,by rw [wb (Ne.symm hpp),db];simp [nkv],fun i r d h=>by simp at h⟩
 ·rintro i σ H' hi zzq;refine zP fun zzM zzh=>?_
  obtain ⟨_,_,_,h,_⟩:=zzq;subst zzh;exact SqL.of h
 ·rintro i v σ H' hv zzq;refine zP fun zzM zzh=>?_
  obtain ⟨⟨y,rfl⟩,sm,nt,hpn',rs,hrl,hpd',hrs⟩:=zzq;obtain ⟨x,hx,rfl⟩:=Xb hv;obtain ⟨d,hd,rfl⟩:=Xb hx;subst zzh;walk_at "RD";refine ⟨z,p,d.name,sp,rfl,hz,L.same sm,hs,fun r1 H1 s1 n1 hr1 h1=>⟨r1,_,rfl,h1,by rw [Yi];exact hz,fun r2 H2 s2 n2 hr2 h2=>?_⟩⟩;have s12:=s1.trans s2;have hp2:=s12 _ _ hpd';refine ⟨_,qD.k (k:=Sum.inr d.name) hp2 (Nat.lt_of_le_of_lt (show (nkv ds rs).length ≤ 12 by unfold nkv;rw [List.length_map,List.length_zip];omega) (by decide)),?_⟩;have hdi:ds[rs.length]? = some d:=by rw [hrl];exact hd
  rw [Zv hnd hdi];have hne:∀ {b:Addr} {ys:List V},H2 b=some (.lst ys)→b ≠ pd:=fun e=>Mg e hp2 (by intro z;cases z)
  refine ⟨⟨_,rfl⟩,fun b u e=>?_,(n2 (n1 nt)).upd,?_,rs ++ [r2],by rw [List.length_append,hrl];rfl,db,fun j r e hj he=>?_⟩
  ·rw [wb (Bb e hpd)];exact s12 _ _ (sm _ _ e)
  ·rw [wb hpp];exact s12 _ _ hpn'
  ·rcases Wh hj with ⟨_,z2⟩ | ⟨z1,rfl⟩
   ·have:=s12 _ _ (hrs j r e z2 he);rw [wb (hne this)];exact this
   ·rw [z1] at he;rw [hdi] at he;cases he;rw [wb (hne h2)];exact h2
 rintro σ H1 zzq;refine zP fun zzM zzh=>?_
 obtain ⟨⟨y,rfl⟩,sm1,nt1,hpn1,N1⟩:=zzq;have hsl:(dc (ds.map (·.name))).length=ds.length:=by unfold dc;simp
 subst zzh;rw [hsl] at N1;obtain ⟨rs,hrl,hpd1,hrs⟩:=N1;have C1:=C.same sm1;walk_at "RD";refine ⟨_,_,sm1 _ _ e1,Qw _ _ _ (by decide +kernel),c,n,ds,rfl,C1,fun p2 hp2=>⟨p2,rfl,⟨_,SqL.of db⟩,?_⟩⟩;refine Ei.list (xs:=dc (ds.map (·.name))) (fun i σ H'=>(∃ y u v,σ=[some (V.ref c),some (V.int z),some (V.ref p),some (V.ref pd),y,u,v])∧Ob H1 H'∧NoT H'∧H' p2=some (.lst (dc (ds.map (·.name))))) ?_ ?_ ?_ ?_
 ·exact ⟨⟨_,_,_,rfl⟩,jb hp2,nt1.upd,db⟩
 ·rintro i σ H' hi zzq;refine zP fun zzM zzh=>?_
  obtain ⟨_,_,_,h⟩:=zzq;subst zzh;exact SqL.of h
 ·rintro i v σ H2 hv zzq;refine zP fun zzM zzh=>?_
  obtain ⟨⟨y,u,v',rfl⟩,sm2,nt2,hpn2⟩:=zzq;obtain ⟨x,hx,rfl⟩:=Xb hv;obtain ⟨d1,hd1,rfl⟩:=Xb hx;obtain ⟨hi,hxi⟩:=List.getElem?_eq_some_iff.mp hd1;have hA:MB n z sp d1 ds=none:=List.findSome?_eq_none_iff.mp hN d1 (List.mem_of_getElem? hd1);have C2:=C1.same sm2;subst zzh;walk_at "RD";refine ⟨_,_,sm2 _ _ (sm1 _ _ e1),Qw _ _ _ (by decide +kernel),c,n,ds,rfl,C2,fun p3 hp3=>⟨p3,rfl,⟨_,SqL.of db⟩,?_⟩⟩;refine Ei.list (xs:=dc (ds.map (·.name))) (fun j σ H'=>(∃ y v,σ=[some (V.ref c),some (V.int z),some (V.ref p),some (V.ref pd),y,some (V.str d1.name),v])∧Ob H2 H'∧NoT H'∧H' p3=some (.lst (dc (ds.map (·.name))))) ?_ ?_ ?_ ?_
  ·exact ⟨⟨_,_,rfl⟩,jb hp3,nt2.upd,db⟩
  ·rintro i σ H' hi zzq;refine zP fun zzM zzh=>?_
   obtain ⟨_,_,_,h⟩:=zzq;subst zzh;exact SqL.of h
  ·rintro j v σ H3 hv zzq;refine zP fun zzM zzh=>?_
   obtain ⟨⟨y,v',rfl⟩,sm3,nt3,hpn3⟩:=zzq;obtain ⟨x,hx,rfl⟩:=Xb hv;obtain ⟨d2,hd2,rfl⟩:=Xb hx;obtain ⟨hj,hxj⟩:=List.getElem?_eq_some_iff.mp hd2;have hB:(Yr n z sp d1 d2).map (fun i=>(d1,d2,i))=none:=List.findSome?_eq_none_iff.mp hA d2 (List.mem_of_getElem? hd2);have hB:Yr n z sp d1 d2=none:=by simpa using hB
   have C3:=C2.same sm3;have sm13:=sm2.trans sm3;subst zzh;walk_at "RD";refine zc (decide (d1.name ≠ d2.name) && mt n d1 d2) (fun Q hQ=>?_) (fun c1=>?_) (fun c1=>?_)
   ·walk_at "RD";by_cases c0:d1.name=d2.name
    ·rw [decide_eq_false (fun z=>z c0),Bool.false_and] at hQ;rw [if_neg (by simp [c0])];exact hQ
    ·rw [decide_eq_true c0,Bool.true_and] at hQ;rw [if_pos (by simp [c0])];exact ⟨c,n,ds,i,j,d1,d2,rfl,C3,hn,hd1,hd2,nt3,_,rfl,hQ⟩
   ·rw [Bool.and_eq_true] at c1;have c2:Yr n z sp d1 d2=(px (JH d1 d2) (Kl z sp d1.name) (Kl z sp d2.name)).map (·.2):=by
     unfold Yr;rw [if_pos ⟨of_decide_eq_true c1.1,c1.2⟩]
    rw [c2] at hB;have hB:px (JH d1 d2) (Kl z sp d1.name) (Kl z sp d2.name)=none:=by simpa using hB
    have hr1:rs[i]? = some rs[i]:=List.getElem?_eq_getElem (by omega);have hr2:rs[j]? = some rs[j]:=List.getElem?_eq_getElem (by omega);have g1:Qs H3 pd (.str d1.name) (some (.ref rs[i])):=by rw [← Ew hnd hd1 hr1];exact Qs.k (k:=Sum.inr d1.name) (sm13 _ _ hpd1)
    have g2:Qs H3 pd (.str d2.name) (some (.ref rs[j])):=by rw [← Ew hnd hd2 hr2];exact Qs.k (k:=Sum.inr d2.name) (sm13 _ _ hpd1)
    walk_at "RD";refine ⟨_,g1,_,g2,c,n,ds,d1,d2,_,_,_,_,rfl,C3,List.mem_of_getElem? hd1,List.mem_of_getElem? hd2,sm13 _ _ (hrs i _ _ hr1 hd1),sm13 _ _ (hrs j _ _ hr2 hd2),by rw [om,om],by rw [om];exact hz.2,hB,fun H4 s4 n4=>⟨(by first | exact ⟨_,_,rfl⟩ | exact ⟨_,rfl⟩ | simp),sm3.trans s4,n4 nt3,s4 _ _ hpn3⟩⟩
   ·exact ⟨⟨_,_,rfl⟩,sm3,nt3,hpn3⟩
  ·rintro σ H' zzq;refine zP fun zzM zzh=>?_
   obtain ⟨⟨y,v',rfl⟩,sm3,nt3,_⟩:=zzq;subst zzh;exact ⟨⟨_,_,_,rfl⟩,sm2.trans sm3,nt3,sm3 _ _ hpn2⟩
 ·rintro σ H' zzq;refine zP fun zzM zzh=>?_
  obtain ⟨_,sm,nt,_⟩:=zzq;subst zzh;exact q _ (sm1.trans sm) nt
end
end My
namespace My
open PySem L2
noncomputable abbrev pB:List Str:=[Str.ofString "crossing",Str.ofString "size",Str.ofString "spans",Str.ofString "lamps",Str.ofString "untils"]
noncomputable def plF (c:Addr) (z:Int) (p lm un:Addr):List (Str × V):=[(Str.ofString "crossing",.ref c),(Str.ofString "size",.int z),(Str.ofString "spans",.ref p),(Str.ofString "lamps",.ref lm),(Str.ofString "untils",.ref un)]
theorem Tn (c:Addr) (z:Int) (p lm un:Addr):(plF c z p lm un).map (·.1)=pB:=rfl
noncomputable def Vt (z:Nat) (sp:List SD) (d:WD):List Str:=ii z (Yc d).toNat (qf d).toNat (ofN d.name sp)
noncomputable def Bi (z:Nat) (sp:List SD) (x:Str):List Int:=Pj (fmF z (ofN x sp))
structure Tg (t:Adr) (H:Hp) (a c:Addr) (n:Int) (ds:List WD) (z:Nat) (sp:List SD):Prop where
 at_:∃ dx p lm un,H a=some (.ins t.Wd dx (plF c z p lm un))∧Oc t H c n ds∧LO H p (List.map sdO sp)∧NK H lm ds (fun d=>.lst (dc (Vt z sp d))) ds.length∧NK H un ds (fun d=>.lst ((Bi z sp d.name).map V.int)) ds.length
noncomputable def MG (t:Adr):Sp:=fun vs H Q _=>∃ (a dx c:Addr) (n:Int) (ds:List WD) (z:Nat) (p:Addr) (sp:List SD),vs=[.ref a,.ref c,.int z,.ref p]∧H a=some (.ins t.Wd dx [])∧Oc t H c n ds∧DOk ds∧(0 < z∧z ≤ 1000)∧LO H p (List.map sdO sp)∧lJ z sp∧NoT H ∧
 ∀ H',bd a H H'→NoT H'→Tg t H' a c n ds z sp→Q .non H'
noncomputable def Ly (t:Adr):Sp:=fun vs H Q _=>∃ (c:Addr) (n:Int) (ds:List WD) (z:Nat) (p:Addr) (sp:List SD),vs=[.ref c,.int z,.ref p]∧Oc t H c n ds∧0 < n∧DOk ds∧(0 < z∧z ≤ 1000)∧LO H p (List.map sdO sp)∧lJ z sp∧(∀ s ∈ sp,∃ d,wOf ds s.name=some d)∧NoT H∧Gu ds sp=none∧qv ds z sp=none∧vv n z sp ds=none ∧
 ∀ a H',Ob H H'→NoT H'→Tg t H' a c n ds z sp→Q (.ref a) H'
section
variable {w:World} {K:PySem.W.Frag} {mg:Str→Option Value} {t:Adr} {H:Hp} {a c dx p lm un:Addr} {z:Int}
theorem Fy (T:Txt w K mg t) (e:H a=some (.ins t.Wd dx (plF c z p lm un))):Hi K H a (Str.ofString "lamps") (.ref lm):=⟨_,dx,_,e,T.Ph,T.Tl,Md pB 3 (Tn ..) (by decide +kernel) rfl⟩
theorem gv (T:Txt w K mg t) (e:H a=some (.ins t.Wd dx (plF c z p lm un))):Hi K H a (Str.ofString "untils") (.ref un):=⟨_,dx,_,e,T.Ph,T.Zj,Md pB 4 (Tn ..) (by decide +kernel) rfl⟩
end
theorem yE {H:Hp} {a b C C' dx dx':Addr} {fs:List (Str × V)} (ha:H a=some (.ins C dx [])) (hb:H b=some (.ins C' dx' fs)) (hf:fs ≠ []):b ≠ a:=fun z=>by
 subst z;rw [hb] at ha;have e:=Option.some.inj ha;injection e with _ _ e3;exact hf e3
theorem Oc.sameX {t:Adr} {H H':Hp} {a c C dx:Addr} {n:Int} {ds:List WD} (h:Oc t H c n ds) (s:bd a H H') (ha:H a=some (.ins C dx [])):Oc t H' c n ds:=by
 obtain ⟨h0,dx',wl,nd,e1,⟨as,w1,w2,al⟩,e3⟩:=h;refine ⟨h0,dx',wl,nd,s _ _ (yE ha e1 (by unfold cF;simp)) e1,⟨as,s _ _ (Mg w1 ha (by intro z;cases z)) w1,w2,fun i b d hb hd=>?_⟩,s _ _ (Mg e3 ha (by intro z;cases z)) e3⟩;obtain ⟨k,dxb,eb⟩:=al i b d hb hd;exact ⟨k,dxb,s _ _ (yE ha eb (by unfold Dn;simp)) eb⟩
theorem LO.sameX {H H':Hp} {a p C dx:Addr} {sp:List SD} (h:LO H p (List.map sdO sp)) (s:bd a H H') (ha:H a=some (.ins C dx [])):LO H' p (List.map sdO sp):=by
 obtain ⟨qs,l1,l2⟩:=h;refine ⟨qs,s _ _ (Mg l1 ha (by intro z;cases z)) l1,l2.1,fun i q o hq ho=>?_⟩;have e:=l2.2 i q o hq ho;refine s _ _ (Mg e ha ?_) e;obtain ⟨d,_,rfl⟩:=Xb ho;intro z;cases z
section
variable {P:Program} {w:World} {K:PySem.W.Frag} {mg:Str→Option Value} {base:Heap} {t:Adr}
theorem HJ (T:Txt w K mg t):Eb P w K mg base CX0 4 t.Ag t.Yh q45 (MG t):=by
 have g51:Eb P w K mg base CX0 3 t.Dy t.iy q37 (NC t):=(PH T).mono (by decide);have g19:Eb P w K mg base CX0 3 t.Ee t.De ["marks"] zt:=(By T).mono (by decide);have g20:Eb P w K mg base CX0 3 t.Sf t.Uf q26 GI:=(RJ T).mono (by decide);have g12:Eb P w K mg base CX0 3 t.Jc t.Wc ["self"] (jo t):=(Ws T).mono (by decide);have g0:Eb P w K mg base CX0 3 t.Hb t.Nb q8 (Rf t):=(vg T).mono (by decide);refine T.Op.ok xi (fun vs H Q E h=>?_) (fun _ _ _ s H vs Q E hr h=>?_)
 ·obtain ⟨a,dx,c,n,ds,z,p,sp,rfl,_⟩:=h;rfl
 obtain ⟨a,dx,c,n,ds,z,p,sp,rfl,ha,C,hD,hz,L,hs,nt0,q⟩:=h;have hu:=Sw hr;refine ⟨_,(fb (lf (pv 0) (pv 1) rfl)
   (fb (lf (pv 0) (pv 2) rfl)
   (fb (lf (pv 0) (pv 3) rfl)
   (fb (lf (pv 0) mo rfl)
   (fb (lf (pv 0) mo rfl)
   (lb (fe PassesOwn.never rfl (ce (Je (pv 1) T.Fb T.Kd g12 hr T.Od .nil Rc)) (qb (i:=4) xi.nd) (fb (jt hu (Ub (pv 0) rfl) (pv 4) (ub g51 hr T.oK T.PD.kp T.wK (cb (qd (pv 1) T.Fb T.Sb g0 hr T.Rb .nil Rc (cb (pv 4) gb)) (cb (pv 2) (cb (pv 3) gb)))) rfl)
   (lb (jt hu (Ub (pv 0) rfl) (pv 4) (ub g19 hr T.ck T.xf.kp T.Kj (cb (ub g20 hr T.gn T.Vg.kp T.Qm (cb (pv 2) (cb (pv 3) (cb (pv 4) gb)))) gb)) rfl)))))))))),?_⟩
 walk_at "RD";refine ⟨_,_,_,ha,T.Ph,T.ji,by decide,?_⟩;refine ⟨_,_,_,db,T.Ph,T.Vm,Xl (n:=999) (by decide),?_⟩;refine ⟨_,_,_,db,T.Ph,T.Ot,Xl (n:=999) (Xl (n:=998) (by decide)),fun lm hlm=>?_⟩;simp only [im] at hlm ⊢;rw [show Ih (Str.ofString "crossing") (V.ref c) ([]:List (Str × V))=[(Str.ofString "crossing",V.ref c)] from rfl,show Ih (Str.ofString "size") (V.int z) [(Str.ofString "crossing",V.ref c)]=[(Str.ofString "crossing",V.ref c),(Str.ofString "size",V.int z)] from ed [Str.ofString "crossing"] rfl (by decide +kernel),show Ih (Str.ofString "spans") (V.ref p) [(Str.ofString "crossing",V.ref c),(Str.ofString "size",V.int z)]=[(Str.ofString "crossing",V.ref c),(Str.ofString "size",V.int z),(Str.ofString "spans",V.ref p)] from ed [Str.ofString "crossing",Str.ofString "size"] rfl (by decide +kernel)] at hlm ⊢;have hla:a ≠ lm:=fun z=>by subst z;rw [db] at hlm;cases hlm
 have hHl:H lm=none:=by rw [wb (Ne.symm hla)] at hlm;exact hlm
 refine ⟨t.Wd,dx,[(Str.ofString "crossing",V.ref c),(Str.ofString "size",V.int z),(Str.ofString "spans",V.ref p)],by rw [wb hla];exact db,T.Ph,T.Tl,show (3:Nat) < 1000 by decide,fun un hun=>?_⟩;rw [show Ih (Str.ofString "lamps") (V.ref lm) [(Str.ofString "crossing",V.ref c),(Str.ofString "size",V.int z),(Str.ofString "spans",V.ref p)]=[(Str.ofString "crossing",V.ref c),(Str.ofString "size",V.int z),(Str.ofString "spans",V.ref p),(Str.ofString "lamps",V.ref lm)] from ed [Str.ofString "crossing",Str.ofString "size",Str.ofString "spans"] rfl (by decide +kernel)] at hun ⊢;have hua:a ≠ un:=fun z=>by subst z;rw [db] at hun;cases hun
 have hul:un ≠ lm:=fun z=>by subst z;rw [wb (Ne.symm hua),db] at hun;cases hun
 have hHu:H un=none:=by rw [wb (Ne.symm hua),wb hul,wb (Ne.symm hua)] at hun;exact hun
 refine ⟨t.Wd,dx,[(Str.ofString "crossing",V.ref c),(Str.ofString "size",V.int z),(Str.ofString "spans",V.ref p),(Str.ofString "lamps",V.ref lm)],by rw [wb hua];exact db,T.Ph,T.Zj,show (4:Nat) < 1000 by decide,?_⟩;rw [show Ih (Str.ofString "untils") (V.ref un) [(Str.ofString "crossing",V.ref c),(Str.ofString "size",V.int z),(Str.ofString "spans",V.ref p),(Str.ofString "lamps",V.ref lm)]=plF c z p lm un from ed [Str.ofString "crossing",Str.ofString "size",Str.ofString "spans",Str.ofString "lamps"] rfl (by decide +kernel)];have hf:∃ H5:Hp,H5=upd (upd (upd (upd (upd H a (.ins t.Wd dx [(Str.ofString "crossing",V.ref c),(Str.ofString "size",V.int z),(Str.ofString "spans",V.ref p)])) lm (.dK [])) a (.ins t.Wd dx [(Str.ofString "crossing",V.ref c),(Str.ofString "size",V.int z),(Str.ofString "spans",V.ref p),(Str.ofString "lamps",V.ref lm)])) un (.dK [])) a (.ins t.Wd dx (plF c z p lm un)):=⟨_,rfl⟩;obtain ⟨H5,h5⟩:=hf;rw [← h5];have g1:H5 a=some (.ins t.Wd dx (plF c z p lm un)):=by rw [h5,db]
 have g2:H5 lm=some (.dK []):=by rw [h5,wb (Ne.symm hla),wb (Ne.symm hul),wb (Ne.symm hla),db]
 have g3:H5 un=some (.dK []):=by rw [h5,wb (Ne.symm hua),db]
 have g4:bd a H H5:=fun b u hb e=>by rw [h5,wb hb,wb (Bb e hHu),wb hb,wb (Bb e hHl),wb hb];exact e
 have g5:NoT H5:=by rw [h5];exact ((((nt0.upd).upd).upd).upd).upd
 clear h5;have C5:=C.sameX g4 ha;obtain ⟨⟨hnd,hdl⟩,dxc,wl,nd,e1,_,_⟩:=id C5;refine ⟨_,_,e1,Qw _ _ _ (by decide +kernel),c,n,ds,rfl,C5,fun pn hpn=>⟨pn,rfl,⟨_,SqL.of db⟩,?_⟩⟩;refine Ei.list (xs:=dc (ds.map (·.name))) (fun i σ H'=>(∃ y,σ=[some (V.ref a),some (V.ref c),some (V.int z),some (V.ref p),y])∧bd a H H'∧NoT H'∧H' a=some (.ins t.Wd dx (plF c z p lm un))∧H' pn=some (.lst (dc (ds.map (·.name))))∧NK H' lm ds (fun d=>.lst (dc (Vt z sp d))) i∧NK H' un ds (fun d=>.lst ((Bi z sp d.name).map V.int)) i) ?_ ?_ ?_ ?_
 ·have sn:=jb (o:=.lst (dc (ds.map (·.name)))) hpn;exact ⟨⟨_,rfl⟩,g4.trans (bd.of sn),g5.upd,sn _ _ g1,db,⟨[],rfl,by rw [sn _ _ g2];simp [nkv],fun i r d h=>by simp at h⟩,⟨[],rfl,by rw [sn _ _ g3];simp [nkv],fun i r d h=>by simp at h⟩⟩
 ·rintro i σ H' hi zzq;refine zP fun zzM zzh=>?_
  obtain ⟨_,_,_,_,h,_⟩:=zzq;subst zzh;exact SqL.of h
 ·rintro i v σ H' hv zzq;refine zP fun zzM zzh=>?_
  obtain ⟨⟨y,rfl⟩,sx,nt,ha',hpn',⟨rl,hrl,hlm',hrs⟩,⟨ru,hru,hun',hus⟩⟩:=zzq;obtain ⟨x,hx,rfl⟩:=Xb hv;obtain ⟨d,hd,rfl⟩:=Xb hx;have C':=C.sameX sx ha;have L':=L.sameX sx ha;obtain ⟨_,dxc',wl',nd',e1',_,_⟩:=id C';subst zzh;walk_at "RD";refine ⟨_,_,e1',Qw _ _ _ (by decide +kernel),c,n,ds,i,d,rfl,C',hd,fun wa W=>?_⟩;have hdi:ds[rl.length]? = some d:=by rw [hrl];exact hd
  have hdj:ds[ru.length]? = some d:=by rw [hru];exact hd
  refine ⟨wa,d,z,p,sp,rfl,hz,W,L',hs,hD d (List.mem_of_getElem? hd),fun r1 H1 s1 n1 hr1 h1=>⟨_,Fy T (s1 _ _ ha'),lm,rfl,_,qD.k (k:=Sum.inr d.name) (s1 _ _ hlm') (Nat.lt_of_le_of_lt (show (nkv ds rl).length ≤ 12 by unfold nkv;rw [List.length_map,List.length_zip];omega) (by decide)),?_⟩⟩;rw [Zv hnd hdi];have kl:∀ {b:Addr} {u:HO},H' b=some u→b ≠ lm→upd H1 lm (.dK (nkv ds (rl ++ [r1]))) b=some u:=fun e h=>by rw [wb h];exact s1 _ _ e
  have k1:bd a H (upd H1 lm (.dK (nkv ds (rl ++ [r1])))):=fun b u hb e=>kl (sx b u hb e) (Bb e hHl)
  refine ⟨z,p,d.name,sp,rfl,hz,L.sameX k1 ha,hs,fun r3 H3 s3 n3 hr3 h3=>⟨r3,_,rfl,h3,by rw [Yi];exact hz,fun r4 H4 s4 n4 hr4 h4=>?_⟩⟩;have s34:=s3.trans s4;have un2:H4 un=some (.dK (nkv ds ru)):=s34 _ _ (kl hun' hul);have a2:H4 a=some (.ins t.Wd dx (plF c z p lm un)):=s34 _ _ (kl ha' hla);refine ⟨_,gv T a2,un,rfl,_,qD.k (k:=Sum.inr d.name) un2 (Nat.lt_of_le_of_lt (show (nkv ds ru).length ≤ 12 by unfold nkv;rw [List.length_map,List.length_zip];omega) (by decide)),?_⟩;rw [Zv hnd hdj];have ku:∀ {b:Addr} {u:HO},upd H1 lm (.dK (nkv ds (rl ++ [r1]))) b=some u→b ≠ un→upd H4 un (.dK (nkv ds (ru ++ [r4]))) b=some u:=fun e h=>by rw [wb h];exact s34 _ _ e
  have nel:∀ {b:Addr} {ys:List V},H' b=some (.lst ys)→b ≠ lm:=fun e=>Mg e hlm' (by intro z;cases z)
  have neu:∀ {b:Addr} {ys:List V},H' b=some (.lst ys)→b ≠ un:=fun e=>Mg e hun' (by intro z;cases z)
  have r1l:r1 ≠ lm:=Mg h1 (s1 _ _ hlm') (by intro z;cases z);have r1u:r1 ≠ un:=Mg h1 (s1 _ _ hun') (by intro z;cases z);have r4u:r4 ≠ un:=Mg h4 un2 (by intro z;cases z);refine ⟨⟨_,rfl⟩,fun b u hb e=>ku (k1 b u hb e) (Bb e hHu),(n4 (n3 (n1 nt).upd)).upd,ku (kl ha' hla) hua,ku (kl hpn' (nel hpn')) (neu hpn'),⟨rl ++ [r1],by rw [List.length_append,hrl];rfl,ku db (Ne.symm hul),fun j r e hj he=>?_⟩,⟨ru ++ [r4],by rw [List.length_append,hru];rfl,db,fun j r e hj he=>?_⟩⟩
  ·rcases Wh hj with ⟨_,z2⟩ | ⟨z1,rfl⟩
   ·have:=hrs j r e z2 he;exact ku (kl this (nel this)) (neu this)
   ·rw [z1,hdi] at he;cases he;exact ku (by rw [wb r1l];exact h1) r1u
  ·rcases Wh hj with ⟨_,z2⟩ | ⟨z1,rfl⟩
   ·have:=hus j r e z2 he;exact ku (kl this (nel this)) (neu this)
   ·rw [z1,hdj] at he;cases he;rw [wb r4u];exact h4
 ·rintro σ H' zzq;refine zP fun zzM zzh=>?_
  obtain ⟨_,sx,nt,ha',_,N1,N2⟩:=zzq;have hsl:(dc (ds.map (·.name))).length=ds.length:=by unfold dc;simp
  subst zzh;rw [hsl] at N1 N2;exact q _ sx nt ⟨dx,p,lm,un,ha',C.sameX sx ha,L.sameX sx ha,N1,N2⟩
theorem SE (T:Txt w K mg t):Eb P w K mg base CX0 6 t.Qh t.ai q41 (Ly t):=by
 have g0:Eb P w K mg base CX0 5 t.Hb t.Nb q8 (Rf t):=(vg T).mono (by decide);have g52:Eb P w K mg base CX0 4 t.Ag t.Yh q45 (MG t):=HJ T;have g53:Eb P w K mg base CX0 5 t.Jf t.Pf q38 (Ou t):=(ZD T).mono (by decide);have g54:Eb P w K mg base CX0 5 t.Nf t.Ef q14 (Xu t):=(jE T).mono (by decide);have g55:Eb P w K mg base CX0 5 t.Cf t.Gf q14 (Iu t):=xD T;refine T.Bk.ok Qf (fun vs H Q E h=>?_) (fun _ _ _ s H vs Q E hr h=>?_)
 ·obtain ⟨c,n,ds,z,p,sp,rfl,_⟩:=h;rfl
 obtain ⟨c,n,ds,z,p,sp,rfl,C,hn,hD,hz,L,hs,hw,nt0,hN,hS,hC,q1⟩:=h;refine ⟨_,(fb (vf (i:=3) Qf.nd rfl (Or.inl rfl) rfl (ce (pv 2)) (Lc (sc:=pb Ek) rfl (by decide +kernel)) (N:=q47) (sel:=[none,none,none]) (yd (M:=["crossing","size","rows","spans","name","begin","turns"]) (by decide +kernel)) (Blk.of (fun _ _ _ _=>(Hd (K:=K) (n:=3) rfl rfl (zb (qb (i:=0) (Dg (N:=q47) (by decide +kernel) rfl)) (zb (qb (i:=1) (Dg (N:=q47) (by decide +kernel) rfl)) (zb (qb (i:=2) (Dg (N:=q47) (by decide +kernel) rfl)) Ed))))) (fun _ _ _ _=>⟨_,rf,by walk_at "B"⟩) (fun _ _ _ _=>⟨_,(Di (cb (pv 0) (cb (pv 1) (cb (pv 2) gb)))),by walk_at "B"⟩)) rfl)
   (fb (fe PassesOwn.never rfl (ce (pv 3)) (Hd (K:=K) (n:=3) rfl rfl (zb (qb (i:=4) Qf.nd) (zb (qb (i:=5) Qf.nd) (zb (qb (i:=6) Qf.nd) Ed)))) (lb (Uc (qd (pv 0) T.Fb T.Sb g0 hr T.Rb .nil Rc (cb (pv 4) gb)))))
   (fb (Uc (ub g53 hr T.vq T.nh.kp T.Hq (cb (pv 0) (cb (pv 3) gb))))
   (fb (Uc (ub g54 hr T.iq T.rh.kp T.yq (cb (pv 0) (cb (pv 1) (cb (pv 3) gb)))))
   (fb (Uc (ub g55 hr T.Iq T.mh.kp T.jq (cb (pv 0) (cb (pv 1) (cb (pv 3) gb)))))
   (lb (Db (cm T.xJ g52 hr rfl T.yJ T.Fw .nil Rc (cb (pv 0) (cb (pv 1) (cb (pv 3) gb))))))))))),?_⟩
 walk_at "RD";obtain ⟨qs,l1,lq⟩:=L;have hql:qs.length=sp.length:=by rw [lq.1,List.length_map]
 have hs1:=hs.1;refine ⟨⟨_,SqL.of l1⟩,?_⟩;refine vd.list (xs:=qs.map V.ref) (fun i ys H'=>∃ os:List Addr,ys=os.map V.ref∧LQ H' os ((sp.take i).map sdO)∧Ob H H'∧NoT H') (Nat.le_trans (show (qs.map V.ref).length ≤ 100 by rw [List.length_map];omega) (by decide)) ⟨[],rfl,by rw [List.take_zero];exact LQ.nil _,Ob.refl _,nt0⟩ ?_ ?_ ?_
 ·rintro i ys H' hi zzq;refine zP fun zzM zzh=>?_
  obtain ⟨os,rfl,r,sm,_⟩:=zzq;subst zzh;refine ⟨(SqL.of l1).same sm,?_⟩;rw [List.length_map,r.1,List.length_map,List.length_take];omega
 ·rintro i v ys H' hv ⟨os,rfl,r,sm,nt⟩ N hN;obtain ⟨qi,hqi,rfl⟩:=Xb hv;obtain ⟨o,ho,e⟩:=lq.at hqi;obtain ⟨d,hd,rfl⟩:=Xb ho;have e':=sm _ _ e;dsimp only at hN;rw [Eh hd,List.map_append] at hN;walk_at "RD";refine ⟨_,SqT.of e',rfl,_,_,rfl,_,_,rfl,_,_,rfl,rfl,Sub.name3,by decide,fun p1 hp1=>?_⟩;exact hN _ _ ⟨os ++ [p1],by rw [List.map_append];rfl,(r.same (jb hp1)).app (LQ.one db),sm.trans (jb hp1),nt.upd⟩
 rintro ys H1 ⟨os,rfl,r,sm1,nt1⟩ p1 hp1;rw [List.take_of_length_le (by rw [List.length_map];omega)] at r;have s2:Ob H1 (upd H1 p1 (.lst (os.map V.ref))):=jb hp1;have nt2:NoT (upd H1 p1 (.lst (os.map V.ref))):=nt1.upd;have L2:LO (upd H1 p1 (.lst (os.map V.ref))) p1 (List.map sdO sp):=⟨os,db,r.same s2⟩;have sm2:=sm1.trans s2;generalize upd H1 p1 (.lst (os.map V.ref))=H2 at s2 nt2 L2 sm2 ⊢;have C2:=C.same sm2;obtain ⟨_,dxc,wl,nd,e1,_,_⟩:=id C2;obtain ⟨qs2,m1,mq⟩:=id L2;have hql2:qs2.length=sp.length:=by rw [mq.1,List.length_map]
 walk_at "RD";refine ⟨⟨_,SqL.of m1⟩,?_⟩;refine Ei.list (xs:=qs2.map V.ref) (fun i σ H'=>(∃ x y z',σ=[some (V.ref c),some (V.int z),some (V.ref p),some (V.ref p1),x,y,z'])∧H'=H2) ?_ ?_ ?_ ?_
 ·exact ⟨⟨_,_,_,rfl⟩,rfl⟩
 ·rintro i σ H' hi ⟨_,rfl⟩;exact SqL.of m1
 ·rintro i v σ H' hv zzq;refine zP fun zzM zzh=>?_
  obtain ⟨⟨x,y,z',rfl⟩,rfl⟩:=zzq;obtain ⟨qi,hqi,rfl⟩:=Xb hv;obtain ⟨o,ho,e⟩:=mq.at hqi;obtain ⟨sd,hsd,rfl⟩:=Xb ho;obtain ⟨d,hd⟩:=hw sd (List.mem_of_getElem? hsd);obtain ⟨hdn,j,hj⟩:=zH hd;subst zzh;walk_at "RD";exact ⟨_,SqT.of e,rfl,_,_,rfl,_,_,rfl,_,_,rfl,rfl,_,_,e1,Qw _ _ _ (by decide +kernel),c,n,ds,j,d,by rw [hdn],C2,hj,fun a W=>⟨(by first | exact ⟨_,_,_,rfl⟩ | exact ⟨_,_,rfl⟩ | exact ⟨_,rfl⟩ | simp),rfl⟩⟩
 rintro σ H' zzq;refine zP fun zzM zzh=>?_
 obtain ⟨⟨x,y,z',rfl⟩,rfl⟩:=zzq;subst zzh;walk_at "RD";refine ⟨c,n,ds,p1,sp,rfl,C2,L2,hs1,hN,fun H3 s3 n3=>?_⟩;have nt3:=n3 nt2;have C3:=C2.same s3;have L3:=L2.same s3;walk_at "RD";refine ⟨c,n,ds,z,p1,sp,rfl,C3,hD,⟨by omega,by omega⟩,L3,hs,hw,hS,fun H4 s4 n4=>?_⟩;have nt4:=n4 nt3;have C4:=C3.same s4;have L4:=L3.same s4;walk_at "RD";refine ⟨c,n,ds,z,p1,sp,rfl,C4,hn,hz,L4,hs,nt4,hC,fun H5 s5 nt5=>?_⟩;have C5:=C4.same s5;have L5:=L4.same s5;walk_at "RD";intro a dx ha hdx hne;have sc:Ob H5 (upd (upd H5 dx (.own a)) a (.ins t.Wd dx [])):=((Ob.refl H5).updN hdx).updN ha;refine ⟨a,dx,c,n,ds,z,p1,sp,rfl,db,C5.same sc,hD,hz,L5.same sc,hs,(nt5.upd).upd,fun H6 s6 nt6 PA=>⟨rfl,?_⟩⟩;have sm5:=((sm2.trans s3).trans s4).trans s5;exact q1 a H6 (Oe (sm5.trans sc) s6 (sm5.free ha)) nt6 PA
end
end My
namespace My
open PySem L2
section
open PySem.Spec PyProof.Rows
structure XN (K:PySem.W.Frag) (C:Addr):Prop where
 b:XB K C
 i:IB K C
 e:PySem.W.excIn K C bmV "ValueError.__new__"=true
 kp:PySem.W.keepIn K (.ref C)=true
theorem Xx {K:PySem.W.Frag} {h:Heap} {C:Addr} (KX:K.In h) (e:PySem.W.excIn K C bmV "ValueError.__new__"=true) :
  ∃ tl N nm q bs hd sn sub ab co dd k0 k1 k2 k3 k5 mN,h.get? C=some (excClassObj nm q C N bs tl hd sn sub ab co dd k0 k1 k2 k3 k5 "ValueError.__new__")∧h.Ns N mN∧mN "__init__"=none∧OwnTail h bmV tl:=by
 unfold PySem.W.excIn at e;split at e
 ·rename_i dd cd sl ho;split at e
  ·rename_i D tl k0 k1 k2 k3 n k5 hm hs;simp only [Bool.and_eq_true,beq_iff_eq,Bool.not_eq_true'] at e;obtain ⟨⟨⟨⟨⟨e1,e2⟩,e3⟩,e5⟩,e6⟩,e7⟩:=e;obtain ⟨nm,bs,mro,ns,qn,hd,sn,sub,ab,co,del⟩:=cd;simp only at hm e3 e6 e7;subst hm e1 e2 e3;obtain ⟨l⟩:=sl;simp only at hs;subst hs;exact ⟨tl,ns,nm,qn,bs,hd,sn,sub,ab,co,dd,k0,k1,k2,k3,k5,h.nsMap ns,KX _ _ ho,.of_isNs (PySem.W.isNs_of_in KX e6),PySem.W.nsMap_none_of_in KX e6 e7,PySem.W.tail_of_in KX e5⟩
  ·cases e
 ·cases e
noncomputable def oB (C:Addr) (t:TA):TE:=fun σ H Q=>t σ H fun vs H1=>vs.length ≤ sizeLine∧∀ x,H1 x=none→Q (.ref x) (upd H1 x (.ext (XF x C none)))
noncomputable def RA (K:PySem.W.Frag) (E:L2.St→XK) (te:TE):TS:=fun D σ H=>te σ H fun v H1=>∃ x C od,v=.ref x∧H1 x=some (.ext (XF x C od))∧XN K C∧E σ (.ref C) od (upd H1 x (.ext (XA x C od)))
theorem Zz (C:Addr) (t:TA) (σ:L2.St) (H:Hp) (Q:VK):oB C t σ H Q=(t σ H fun vs H1=>vs.length ≤ sizeLine∧∀ x,H1 x=none→Q (.ref x) (upd H1 x (.ext (XF x C none)))):=rfl
theorem jA (K:PySem.W.Frag) (E:L2.St→XK) (te:TE) (D:Oh) (σ:L2.St) (H:Hp):RA K E te D σ H=(te σ H fun v H1=>∃ x C od,v=.ref x∧H1 x=some (.ext (XF x C od))∧XN K C∧E σ (.ref C) od (upd H1 x (.ext (XA x C od)))):=rfl
theorem ZB {P:Program} {w:World} {A:Around} {h:Heap} {g:Array GenState} {d:Drawn} {t:Nat} {os:OsState} {K:PySem.W.Frag} {C:Addr} {us:List Value} {Q:Value→Shared→Prop} {E:Value→Shared→Prop} (KX:K.In h) (e:PySem.W.excIn K C bmV "ValueError.__new__"=true) (hz:us.length ≤ sizeLine)
  (hq:∀ h' x vs sl,h.objs.size ≤ x→(∀ b o,h.get? b=some o→h'.get? b=some o)→h'.get? x=some ⟨.ref C,none,.fields vs,sl⟩→1 < vs.size→vs[1]? = some .none→Q (.ref x) ⟨h',g,d,t,os⟩) :
  wpAny (model P w) A (call (.ref C) us) Q E ⟨h,g,d,t,os⟩:=by
 obtain ⟨tl,N,nm,q,bs,hdc,sn,sub,ab,co,dd,k0,k1,k2,k3,k5,mN,hC,hN,hi,T⟩:=Xx KX e;have F:=PySem.F.excBase_ValueError;have f1:=tc_lookup;have f2:=tc_bind (.ref C);have ty:(⟨h,g,d,t,os⟩:Shared).TypeIs (.ref C) "type" := ⟨_,hC,rfl⟩;refine wpAny_call (codeAny_of_tree ?_);show wpAny _ _ (callAny (.ref C) _) _ _ _
 repeat (any_goals (first | assumption | with_reducible refine wpAny_loadPart_at hC ?_ | wp_step))
 refine ⟨rfl,?_⟩;refine codeAny_call_builtin_at (Code.quiet_builtin _ (by decide +kernel)) entry_typeCall (wpAny_check_type_call_sub hC ?_)
 repeat (first | with_reducible refine wpAny_loadPart_at hC ?_ | with_reducible refine wpAny_madeBy_exc hC ?_ | wp_step)
 refine codeAny_call_builtin_code (Code.quiet_builtin _ F.quiet) (wpAny_check_new_subT F T hC ?_);refine codeAny_exc_new_subT (rest:=us) F T hC ?_ hz;show wpAny _ _ _ _ _ _;generalize hh:(h.push { cls:=.type "tuple",data:=.seq us.toArray }).push { cls:=.ref C,data:=.fields #[.ref h.objs.size,.none,.none,.none,.bool false,.none] }=h2;have k:∀ b o,h.get? b=some o→h2.get? b=some o:=fun b o z=>by rw [← hh];exact Heap.get?_push_of_some _ (Heap.get?_push_of_some _ z)
 have hx:h2.get? (h.objs.size + 1)=some { cls:=.ref C,data:=.fields #[.ref h.objs.size,.none,.none,.none,.bool false,.none] }:=by rw [← hh];heap_get
 have cC:(Value.ref C :: tl).contains (.ref C)=true:=by simp
 unfold isInstance
 repeat (first | with_reducible refine wpAny_loadPart_at hx ?_ | wp_step)
 refine wpAny_isSubtype_exc (k _ _ hC) ?_;rw [cC]
 repeat wp_step
 show wpAny _ _ (typeLookup (.ref C) _) _ _ _;refine wpAny_typeLookup_tail (k _ _ hC) (hN.keeps k) (T.keeps k) F.mroIs F.init.lookup ?_;rw [hi];refine wpAny_holding (wpAny_bind (wpAny_of_eq (F.init.bind _) ?_));refine wpAny_bind (wpAny_call (codeAny_call_builtin F.init.plain F.initEntry (wpAny_check_init_subT F (T.keeps k) (k _ _ hC) hx rfl ?_)))
 wp_walk
 have x2:=Heap.get?_update_self (h:=h2.push { cls:=.type "tuple",data:=.seq us.toArray }) (Obj.mapFields (·.setIfInBounds 0 (.ref h2.objs.size))) (Heap.get?_push_of_some _ hx) rfl;refine hq _ _ _ _ (Nat.le_succ _) (fun b o hb=>?_) x2 (by simp) (by simp);rw [Heap.get?_update_other _ _ (Nat.ne_of_gt (Nat.lt_succ_of_lt (Heap.lt_size hb)))];exact Heap.get?_push_of_some _ (k _ _ hb)
section
variable {X:Cx} {C:Addr} {x:Str} {p pos:Pos} {e:Expr} {es:List Expr} {te:TE} {t:TA} {E:L2.St→XK}
theorem yz {pins:List (Addr × Obj)} {σ:L2.St} {H:Hp} {s:Shared} {Q:VK} {us:List Value} {vs:List V} (M:XN X.K C) (I:Inv X pins σ H s) (r:Pc vs us) (hz:vs.length ≤ sizeLine) (h:∀ x,H x=none→Q (.ref x) (upd H x (.ext (XF x C none)))) :
  wpAny (model X.prog X.w) X.A (call (.ref C) us) (EP X pins σ Q) X.xe s:=by
 obtain ⟨hh,g,d,tt,os⟩:=s;refine ZB I.kIn M.e (by rw [← r.length];exact hz) fun h' x ws sl hx hk ox h1 h2=>?_
 have I2:=I.laid (a:=x) (o:=.ext (XF x C none)) (h':=h') (t':=tt) hk hx (XF.ok ⟨_,_,ox,h1,h2⟩);exact ⟨V.ref x,_,I2,rfl,h x (I.hok.fresh hx)⟩
theorem PB (M:XN X.K C) (hg:Gl X x) (hm:X.mg x=some (.ref C)) (ha:PA X (e :: es) t) (hdb:(x == ("__debug__" : Str))=false:=by decide) (he:starEach (e :: es) X.env=(false,eval e X.env) :: starEach es X.env:=by rfl)
  (hpl:(backTo pos (starEach es X.env)).any (·.1)=false:=by rfl):PE X (.Call (.Name x p) (e :: es) [] pos) (oB C t):=by
 intro pins s σ H Q I h;refine wpAny_Call_Name_kw (nk I hg hm ?_ hdb);exact PySem.W.callWith_K (h₀:=X.base) I.ok.mod.kin M.kp (thn (ha pos pins s σ H _ I h) fun us s1 ⟨vs,H1,I1,r,hz,q⟩=>⟨I1.kIn,yz M I1 r hz q⟩) he hpl
theorem aD (he:PE X e te) (hT:iC X E) (hc:X.calm=true:=by rfl):PS X (.Raise (some e) none pos) (RA X.K E te):=by
 intro pins s σ H D I h;rw [arm_exec_Raise];refine wpAny_bind (wpAny_standAt (cA (I.ok.hd hc) ?_));refine wpAny_bind (thn (he pins s σ H _ I h) fun u s1 ⟨v,H1,I1,r,x,C,od,ev,ex,c,q⟩=>wpAny_bind (wpAny_standAt (wpAny_pure ?_)));subst ev;obtain rfl:u=Value.ref x:=r;obtain ⟨vs,sl,hx,z1,z2⟩:=(show Gd X.prog X.w H1 s1.heap x (.ext (XF x C od)) from I1.hok _ _ ex).1;obtain ⟨tl,N,nm,q',bs,hd,sn,sub,ab,co,dd,k0,k1,k2,k3,k5,mN,hC,hN,hi,T⟩:=Xx I1.kIn c.e;exact ⟨x,C,od,vs,sl,nm,q',N,bs,tl,hd,sn,sub,ab,co,dd,k0,k1,k2,k3,k5,_,rfl,L2.OwnTail.has T (by decide),hC,hx,z2,hT pins σ H1 s1 x C od I1 ex q⟩
end
section
variable {prog:Program} {w:World} {A:Around} {E:Value→Shared→Prop} {s:Shared} {K:PySem.W.Frag} {x C:Addr} {vs:Array Value} {sl:Array (Option Value)}
theorem jF {Q:Option Value→Shared→Prop} (c:XN K C) (KX:K.In s.heap) (J:PySem.W.InstAt s.heap x ⟨.ref C,none,.fields vs,sl⟩ C none) (h:Q (some (.ref C)) { s with toks:=s.toks + 1 }) :
  wpAny (model prog w) A (getAttr? (.ref x) "__class__") Q E s:=by
 obtain ⟨cd,hc,hd'⟩:=PySem.W.any_some c.b.hd;obtain ⟨cd',hc',hov⟩:=PySem.W.any_some c.b.ov;rw [hc] at hc';cases hc';have hf:PySem.W.findObj K C none "__class__"=some (.bind (.builtin "getset_descriptor.__get__") (.builtin "object.__class__")):=by
  unfold PySem.W.findObj;rw [hc,Option.bind_some,c.i.ha,Option.bind_some];simp [c.i.hn,c.i.htk]
 have hm:=c.i.hm;have ga:=c.b.ga;have gt:=c.b.gt;obtain ⟨hp,g,d,t,os⟩:=s;have L0:=J.type (M:=model prog w);have L1:=PySem.W.looks_findIn (M:=model prog w) KX ga;have L2:=PySem.W.looks_findIn (M:=model prog w) KX gt;have L3:=PySem.W.looks_find (M:=model prog w) KX J hf;have FB:=PySem.F.excAttr_ValueError;have f3:=FB.ga.bind (.ref x);have hx2:(Value.builtin "BaseException.__getattribute__" == Value.builtin "object.__getattribute__")=false:=by decide +kernel
 have hx1:(onTheHeap (Value.ref C) && Value.builtin "BaseException.__getattribute__" == Value.builtin "object.__getattribute__")=false:=by rw [hx2];rfl
 unfold getAttr? getAttrBy? getAttrBy;refine wpAny_bind (wpAny_mkText (wpAny_bind (wpAny_attempt (wpAny_holding (wpAny_bind (L0.at (wpAny_bind (L1.at ?_))))))));dsimp only;rw [if_neg (by rw [hx1];decide)];unfold getAttrByItsOwn
 repeat (any_goals (first | assumption | with_reducible refine PySem.W.Looks.at (by assumption) ?_ | wp_step))
 have ne:cd.mro.isEmpty=false:=by
  cases q:cd.mro with
  | nil=>rw [q] at hov;cases hov
  | cons _ _=>rfl
 have sub:PySem.W.Looks (model prog w) hp (isInstance (.ref x) (.type "BaseException")) true:=
  L0.andThen (PySem.W.looks_mroIn KX (by unfold PySem.W.mroIn;rw [hc,Option.bind_some,if_neg (by rw [ne];decide),Vu "BaseException" (by decide) hov]))
 refine codeAny_call_builtin FB.ga.plain PySem.F.entry_bexc_ga (@PySem.W.check_slot (model prog w) _ _ ⟨hp,g,d,t + 1,os⟩ "BaseException.__getattribute__" "BaseException" "__getattribute__" (.ref x) [.str "__class__" t] [] _ (by decide +kernel) (by decide +kernel) sub (PySem.F.args_bexc_ga (.ref x) (.str "__class__" t)) ?_);unfold Builtin.«object.__getattribute__»
 repeat (any_goals (first | assumption | with_reducible refine PySem.W.Looks.at (by assumption) ?_ | wp_step))
 refine PySem.W.class_get (s:=⟨hp,g,d,t + 1,os⟩) (ox:=⟨.ref C,none,.fields vs,sl⟩) (od:=none) KX J hm ?_;refine wpAny_pure ?_;show wpAny _ _ (handedOut (.ref C)) _ _ _;exact PySem.W.handed_on rfl (wpAny_pure h)
theorem Io (c:XN K C):PySem.W.KitX K (.ref x) (.ref C) (fun h=>∃ vs sl,PySem.W.InstAt h x ⟨.ref C,none,.fields vs,sl⟩ C none) where
 ty:=fun _ _ _ ⟨_,_,I⟩=>I.type
 it:=fun _ _ X _=>by
  obtain ⟨cdD,hcD,_⟩:=PySem.W.any_some c.b.hd;unfold PySem.W.clsIn at hcD;split at hcD
  ·rename_i c' d' cd' sl' ho;intro A' Q' E' s' k q;unfold isType loadHead;exact wpAny_bind (wpAny_loadPart (k _ _ (X _ _ ho)) (wpAny_pure q))
  ·cases hcD
 ne:=fun h tp dd its n sl X htp=>by
  obtain ⟨cdD,hcD,_⟩:=PySem.W.any_some c.b.hd;refine Bool.eq_false_iff.mpr fun q=>?_
  have e:C=tp:=Value.ref.inj (beq_iff_eq.mp q);subst e;unfold PySem.W.clsIn at hcD;split at hcD
  ·rename_i c' d' cd' sl' ho;have z:=(X _ _ ho).symm.trans htp;cases z
  ·cases hcD
 ca:=fun X ⟨_,_,I⟩ k=>jF c X I k
end
theorem Dw {X:Cx} {pins:List (Addr × Obj)} {σ:L2.St} {H:Hp} {s:Shared} {x C:Addr} (I:Inv X pins σ H s) (e:H x=some (.ext (XA x C none))) :
  ∃ vs sl,PySem.W.InstAt s.heap x ⟨.ref C,none,.fields vs,sl⟩ C none:=by
 obtain ⟨vs,sl,hx⟩:=(show Gd X.prog X.w H s.heap x (.ext (XA x C none)) from I.hok _ _ e).1;exact ⟨vs,sl,hx,rfl,rfl,trivial⟩
theorem zB {X:Cx}:Ni X (.builtin "isinstance") (fun xs H Q=>∃ x C D b,xs=[.ref x,.ref D]∧H x=some (.ext (XA x C none))∧XN X.K C∧PySem.W.kitOne X.K (.ref C) (.ref D)=some b∧Q (.bl b) H):=by
 intro pins s σ H xs us Q I r h;obtain ⟨x,C,D,b,rfl,e,c,hk,q⟩:=h;obtain ⟨u,u2,rfl,rx,r2⟩:=NA r;cases (show u=Value.ref x from rx);cases (show u2=Value.ref D from r2);exact PySem.W.kia_one (Io c) I.kIn (Dw I e) hk (fun z=>nomatch z) fun tk=>⟨.bl b,H,I.tok _,rfl,q⟩
theorem dA {X:Cx}:Ni X (.builtin "isinstance") (fun xs H Q=>∃ x C T b,xs=[.ref x,.ty T]∧H x=some (.ext (XA x C none))∧XN X.K C∧PySem.W.kitOne X.K (.ref C) (.type T)=some b∧Q (.bl b) H):=by
 intro pins s σ H xs us Q I r h;obtain ⟨x,C,T,b,rfl,e,c,hk,q⟩:=h;obtain ⟨u,u2,rfl,rx,r2⟩:=NA r;cases (show u=Value.ref x from rx);cases r2;exact PySem.W.kia_one (Io c) I.kIn (Dw I e) hk (fun z=>nomatch z) fun tk=>⟨.bl b,H,I.tok _,rfl,q⟩
theorem Gr {X:Cx}:Ni X (.builtin "isinstance") (fun xs H Q=>∃ (x C tp:Addr) (cs:List Addr) (b:Bool),xs=[.ref x,.ref tp]∧H x=some (.ext (XA x C none))∧XN X.K C∧H tp=some (.tup (cs.map V.ref))∧PySem.W.kitAny X.K (.ref C) (cs.map Value.ref)=some b∧Q (.bl b) H):=by
 intro pins s σ H xs us Q I r h;obtain ⟨x,C,tp,cs,b,rfl,e,c,et,hk,q⟩:=h;obtain ⟨u,u2,rfl,rx,r2⟩:=NA r;cases (show u=Value.ref x from rx);cases (show u2=Value.ref tp from r2);obtain ⟨_,its,rv,ot,h1,h2,n,h3⟩:=(show Gd X.prog X.w H s.heap tp (.tup (cs.map V.ref)) from I.hok _ _ et);have e1:=ju rv;subst e1;obtain ⟨cl,dd,dt,sl⟩:=ot;cases (show cl=Value.type "tuple" from h2);cases (show dt=Data.seq _ n from h3);exact PySem.W.kia_tup (Io c) I.kIn (Dw I e) h1 hk (fun z=>nomatch z) fun tk=>⟨.bl b,H,I.tok _,rfl,q⟩
section
variable {X:Cx}
theorem av (hc:X.calm=true):Ni X (.builtin "min") (fun xs H Q=>∃ l ks m,xs=[.ref l]∧SqL X.K H l (List.map V.int ks)∧(m ∈ ks∧∀ k ∈ ks,m ≤ k)∧Q (.int m) H):=by
 intro pins s σ H xs us Q I r h;obtain ⟨l,ks,m,rfl,hq,hm,q⟩:=h;obtain ⟨u,rfl,ru⟩:=wp r;cases ru;obtain ⟨its,rv,pl,hz⟩:=I.list hq;obtain ⟨xs,e1,e2⟩:=Er rv;have hil:its.toArray=intItems xs.toArray:=by rw [e1];unfold intItems;simp
 have hls:s.heap.IsList l (intItems xs.toArray):=by rw [← hil];exact pl.isList
 have hxl:xs.length=ks.length:=by rw [← e2,List.length_map]
 have hne:0 < xs.toArray.size:=by
  rw [List.size_toArray,hxl];exact List.length_pos_of_mem hm.1
 refine min_intList (I.ok.hd hc) hls hne fun v h' tk hv hk=>⟨.int m,H,I.kept hk,?_,q⟩
 obtain ⟨tv,rfl⟩:=intItems_at hv;refine ⟨tv,?_⟩;have hb:=argBest_lt (numAt xs.toArray) (xs.toArray.size - 1);generalize argBest (fun i j=>decide (numAt xs.toArray i < numAt xs.toArray j)) (xs.toArray.size - 1)=j at hb ⊢;have hn:∀ i,i < ks.length→ks[i]? = some (numAt xs.toArray i):=fun i hi=>by
  rw [numAt_eq,List.getD_eq_getElem?_getD];show ks[i]? = some (((xs.map (·.1))[i]?).getD 0);rw [e2,List.getElem?_eq_getElem hi];rfl
 rw [List.size_toArray] at hb hne;have h1:=hm.2 _ (List.mem_of_getElem? (hn j (by omega)));obtain ⟨i,hi⟩:=List.getElem?_of_mem hm.1;have hil:i < ks.length:=(List.getElem?_eq_some_iff.mp hi).1;have h2:=hb.2 i (by omega);have h3:m=numAt xs.toArray i:=Option.some.inj (hi.symm.trans (hn i hil));rw [show numAt xs.toArray j=m by omega]
theorem DB (hc:X.calm=true):Ni X (.builtin "max") (fun xs H Q=>∃ l ks m,xs=[.ref l]∧SqT X.K H l (List.map V.int ks)∧(m ∈ ks∧∀ k ∈ ks,k ≤ m)∧Q (.int m) H):=by
 intro pins s σ H xs us Q I r h;obtain ⟨l,ks,m,rfl,hq,hm,q⟩:=h;obtain ⟨u,rfl,ru⟩:=wp r;cases ru;obtain ⟨its,rv,pl,hz⟩:=I.tuple hq;obtain ⟨xs,e1,e2⟩:=Er rv;have hil:its.toArray=intItems xs.toArray:=by rw [e1];unfold intItems;simp
 have hls:s.heap.IsTuple l (intItems xs.toArray):=by rw [← hil];exact pl
 have hlt:l < s.heap.objs.size:=by obtain ⟨_,e,_⟩:=hls;exact Heap.lt_size e
 have hxl:xs.length=ks.length:=by rw [← e2,List.length_map]
 have hne:0 < xs.toArray.size:=by
  rw [List.size_toArray,hxl];exact List.length_pos_of_mem hm.1
 refine call_max_walk (wpAny_pyIter_tuple hls ?_);refine ⟨_,_,_,_,_,_,_,rfl,Walks.tuple (A:=X.A.in1) (I.ok.hd hc) _ l (Nat.ne_of_lt hlt) (intItems xs.toArray),⟨⟨_,Heap.get?_push_size _ rfl,rfl,rfl⟩,hls.push _⟩,?_,by simpa [intItems] using hne,CmpOf.ints_gt (numAt xs.toArray) (fun _ _=>intItems_at),fun v h' tk hP hk=>⟨.int m,H,I.kept fun b o e=>hk b o (fun hb=>?_) (Heap.get?_push_of_some _ e),?_,q⟩⟩
 ·intro b hb;show b < (s.heap.push _).objs.size;rw [Heap.size_push];rcases List.mem_cons.mp hb with rfl | hb
  ·exact Nat.lt_succ_self _
  ·rcases List.mem_cons.mp hb with rfl | hb
   ·exact Nat.lt_succ_of_lt hlt
   ·cases hb
 ·have hb:=List.mem_singleton.mp hb;exact absurd (Heap.lt_size e) (by rw [hb];exact Nat.lt_irrefl _)
 have hv:(intItems xs.toArray)[argBest (fun i j=>decide (numAt xs.toArray i > numAt xs.toArray j)) (xs.toArray.size - 1)]? = some v:=by simpa [intItems] using hP
 obtain ⟨tv,rfl⟩:=intItems_at hv;refine ⟨tv,?_⟩;have hb:=argBest_gt (numAt xs.toArray) (xs.toArray.size - 1);generalize argBest (fun i j=>decide (numAt xs.toArray i > numAt xs.toArray j)) (xs.toArray.size - 1)=j at hb ⊢;have hn:∀ i,i < ks.length→ks[i]? = some (numAt xs.toArray i):=fun i hi=>by
  rw [numAt_eq,List.getD_eq_getElem?_getD];show ks[i]? = some (((xs.map (·.1))[i]?).getD 0);rw [e2,List.getElem?_eq_getElem hi];rfl
 rw [List.size_toArray] at hb hne;have h1:=hm.2 _ (List.mem_of_getElem? (hn j (by omega)));obtain ⟨i,hi⟩:=List.getElem?_of_mem hm.1;have hil:i < ks.length:=(List.getElem?_eq_some_iff.mp hi).1;have h2:=hb.2 i (by omega);have h3:m=numAt xs.toArray i:=Option.some.inj (hi.symm.trans (hn i hil));rw [show numAt xs.toArray j=m by omega]
end
end
end My
namespace My
open PySem L2
section
variable {w:World} {K:PySem.W.Frag} {mg:Str→Option Value} {t:Adr} {H:Hp} {a c dx p lm un:Addr} {z:Int}
theorem Vo (T:Txt w K mg t) (e:H a=some (.ins t.Wd dx (plF c z p lm un))):Hi K H a (Str.ofString "crossing") (.ref c):=⟨_,dx,_,e,T.Ph,T.ji,Md pB 0 (Tn ..) (by decide +kernel) rfl⟩
theorem Qp (T:Txt w K mg t) (e:H a=some (.ins t.Wd dx (plF c z p lm un))):Hi K H a (Str.ofString "size") (.int z):=⟨_,dx,_,e,T.Ph,T.Vm,Md pB 1 (Tn ..) (by decide +kernel) rfl⟩
end
theorem NK.get {H:Hp} {p:Addr} {ds:List WD} {f:WD→HO} (h:NK H p ds f ds.length) (nd:(ds.map (·.name)).Nodup) {i:Nat} {d:WD} (hd:ds[i]? = some d):∃ r,Qs H p (.str d.name) (some (.ref r))∧H r=some (f d):=by
 obtain ⟨rs,hl,hp,al⟩:=h;have hi:i < rs.length:=by rw [hl];exact (List.getElem?_eq_some_iff.mp hd).1
 have hr:rs[i]? = some rs[i]:=List.getElem?_eq_getElem hi;refine ⟨rs[i],?_,al i _ d hr hd⟩;have:=Qs.k (k:=Sum.inr d.name) hp;rw [Ew nd hd hr] at this;exact this
noncomputable def Tm (z:Nat) (sp:List SD) (d:WD) (turn:Int):Str:=((Vt z sp d)[(turn % (z:Int)).toNat]?).getD (Str.ofString "")
noncomputable def jf (z:Nat) (sp:List SD) (d:WD) (turn:Int):Bool:=decide (Tm z sp d turn=Str.ofString "free")
noncomputable def Gv (t:Adr):Sp:=fun vs H Q _=>∃ (pl c:Addr) (n:Int) (ds:List WD) (z:Nat) (sp:List SD) (i:Nat) (d:WD) (turn:Int),vs=[.ref pl,.str d.name,.int turn]∧Tg t H pl c n ds z sp∧0 < z∧ds[i]? = some d∧Q (.str (Tm z sp d turn)) H
noncomputable def zD (t:Adr):Sp:=fun vs H Q _=>∃ (pl c:Addr) (n:Int) (ds:List WD) (z:Nat) (sp:List SD) (i:Nat) (d:WD) (turn:Int),vs=[.ref pl,.str d.name,.int turn]∧Tg t H pl c n ds z sp∧0 < z∧ds[i]? = some d∧Q (.bl (jf z sp d turn)) H
section
variable {P:Program} {w:World} {K:PySem.W.Frag} {mg:Str→Option Value} {base:Heap} {t:Adr}
theorem yC (T:Txt w K mg t):Eb P w K mg base CX0 3 t.so t.Rn q9 (Gv t):=by
 have g0:Eb P w K mg base CX0 2 t.Hb t.Nb q8 (Rf t):=vg T;refine T.Ut.ok ZC (fun vs H Q E h=>?_) (fun _ _ _ s H vs Q E hr h=>?_)
 ·obtain ⟨pl,c,n,ds,z,sp,i,d,turn,rfl,_⟩:=h;rfl
 obtain ⟨pl,c,n,ds,z,sp,i,d,turn,rfl,PA,hz,hd,q⟩:=h;obtain ⟨dx,p,lm,un,hpl,C,_,NL,_⟩:=PA.at_;obtain ⟨⟨hnd,_⟩,dxc,wl,nd,e1,_,_⟩:=id C;have hu:=Sw hr;refine ⟨_,(fb (Uc (qd (Ub (pv 0) rfl) T.Fb T.Sb g0 hr T.Rb .nil Rc (cb (pv 1) gb)))
   (lb (Db (uc Vc (zo hu (Ub (pv 0) rfl) (pv 1) (fun _ _=>rfl)) (bc gg (pv 2) (Ub (pv 0) rfl)))))),?_⟩
 walk_at "RD";refine ⟨_,Vo T hpl,_,rfl,_,_,e1,Qw _ _ _ (by decide +kernel),c,n,ds,i,d,rfl,C,hd,fun a W=>?_⟩;obtain ⟨r,hg,hr'⟩:=NL.get hnd hd;have h0:=Int.emod_nonneg turn (show (z:Int) ≠ 0 by omega);have h1:=Int.emod_lt_of_pos turn (show (0:Int) < z by omega);have hlen:(Vt z sp d).length=z:=Nh _ _ _ _;have hj:(turn % (z:Int)).toNat < (Vt z sp d).length:=by rw [hlen];omega
 walk_at "RD";refine ⟨_,Fy T hpl,_,rfl,_,hg,_,Qp T hpl,_,rfl,by omega,_,rfl,_,SqL.of hr',.str (Tm z sp d turn),?_,q⟩;have e:=Fc (xs:=dc (Vt z sp d)) (j:=(turn % (z:Int)).toNat) (v:=.str (Tm z sp d turn)) (by unfold dc Tm;rw [List.getElem?_map,List.getElem?_eq_getElem hj];rfl);rwa [Int.toNat_of_nonneg h0] at e
theorem MI (T:Txt w K mg t):Eb P w K mg base CX0 4 t.Ex t.Vx q9 (zD t):=by
 have g56:Eb P w K mg base CX0 3 t.so t.Rn q9 (Gv t):=yC T;refine T.DA.ok bJ (fun vs H Q E h=>?_) (fun _ _ _ s H vs Q E hr h=>?_)
 ·obtain ⟨pl,c,n,ds,z,sp,i,d,turn,rfl,_⟩:=h;rfl
 obtain ⟨pl,c,n,ds,z,sp,i,d,turn,rfl,PA,hz,hd,q⟩:=h;refine ⟨_,(lb (Db (je vj (ub g56 hr T.DF T.Ut.kp T.FF (cb (pv 0) (cb (pv 1) (cb (pv 2) gb)))) Vd (Vb _)))),?_⟩;walk_at "RD";refine ⟨pl,c,n,ds,z,sp,i,d,turn,rfl,PA,hz,hd,rfl,?_⟩;rw [show decide (V.str (Tm z sp d turn)=V.str (Str.ofString "free"))=jf z sp d turn by unfold jf;simp];exact q
end
end My
namespace My
open PySem L2
theorem Om (z:Nat) (sp:List SD) (d:WD) (x:Int):jf z sp d (x % (z:Int))=jf z sp d x:=by
 unfold jf Tm;rw [Int.emod_emod]
noncomputable def frB (z:Nat) (sp:List SD) (d:WD):List Bool:=(List.range z).map fun (k:Nat)=>jf z sp d k
theorem sk (z:Nat) (sp:List SD) (d:WD):(frB z sp d).length=z:=by unfold frB;simp
theorem xK {z:Nat} (hz:0 < z) (sp:List SD) (d:WD) (x:Int):(frB z sp d)[(x % (z:Int)).toNat]? = some (jf z sp d x):=by
 have h0:=Int.emod_nonneg x (show (z:Int) ≠ 0 by omega);have h1:=Int.emod_lt_of_pos x (show (0:Int) < z by omega);unfold frB;rw [List.getElem?_map,List.getElem?_range (by omega)];show some (jf z sp d (((x % (z:Int)).toNat:Nat):Int))=_;rw [Int.toNat_of_nonneg h0,Om]
structure LD where
 pl:Addr
 c:Addr
 n:Int
 ds:List WD
 sp:List SD
 d:WD
 e:WD
noncomputable def lO (l:LD):HO:=.tup [.ref l.pl,.str l.d.name,.str l.e.name]
noncomputable def LOk (t:Adr) (H:Hp) (z:Nat) (l:LD):Prop:=Tg t H l.pl l.c l.n l.ds z l.sp∧l.d ∈ l.ds∧l.e ∈ l.ds
noncomputable def Dj (t:Adr) (H:Hp) (z:Nat) (p:Addr) (ls:List LD):Prop:=LO H p (ls.map lO)∧∀ l ∈ ls,LOk t H z l
theorem NK.same {H H':Hp} {p:Addr} {ds:List WD} {f:WD→HO} {n:Nat} (h:NK H p ds f n) (s:Ob H H'):NK H' p ds f n:=by
 obtain ⟨rs,hl,hp,al⟩:=h;exact ⟨rs,hl,s _ _ hp,fun i r d h1 h2=>s _ _ (al i r d h1 h2)⟩
theorem Tg.same {t:Adr} {H H':Hp} {a c:Addr} {n:Int} {ds:List WD} {z:Nat} {sp:List SD} (h:Tg t H a c n ds z sp) (s:Ob H H'):Tg t H' a c n ds z sp:=by
 obtain ⟨dx,p,lm,un,e,C,L,N1,N2⟩:=h.at_;exact ⟨dx,p,lm,un,s _ _ e,C.same s,L.same s,N1.same s,N2.same s⟩
theorem LOk.same {t:Adr} {H H':Hp} {z:Nat} {l:LD} (h:LOk t H z l) (s:Ob H H'):LOk t H' z l:=⟨h.1.same s,h.2⟩
theorem Dj.same {t:Adr} {H H':Hp} {z:Nat} {p:Addr} {ls:List LD} (h:Dj t H z p ls) (s:Ob H H'):Dj t H' z p ls:=⟨h.1.same s,fun l hl=>(h.2 l hl).same s⟩
structure CD where
 f:List Bool
 b:List Bool
 x:Int
 y:Int
noncomputable def qI (H:Hp) (q:Addr) (c:CD):Prop:=∃ f b,H q=some (.tup [.ref f,.ref b,.int c.x,.int c.y])∧H f=some (.lst (ac c.f))∧H b=some (.lst (ac c.b))
theorem qI.same {H H':Hp} {q:Addr} {c:CD} (h:qI H q c) (s:Ob H H'):qI H' q c:=by
 obtain ⟨f,b,e1,e2,e3⟩:=h;exact ⟨f,b,s _ _ e1,s _ _ e2,s _ _ e3⟩
noncomputable def CrN (r:Addr) (H:Hp) (q:Addr) (c:CD):Prop:=∃ f b,(f ≠ r∧b ≠ r∧q ≠ r)∧H q=some (.tup [.ref f,.ref b,.int c.x,.int c.y])∧H f=some (.lst (ac c.f))∧H b=some (.lst (ac c.b))
theorem CrN.at {r:Addr} {H:Hp} {q:Addr} {c:CD} (h:CrN r H q c):qI H q c:=by
 obtain ⟨f,b,_,h⟩:=h;exact ⟨f,b,h⟩
theorem CrN.step {r:Addr} {H H':Hp} {q:Addr} {c:CD} (h:CrN r H q c) (s:bd r H H'):CrN r H' q c:=by
 obtain ⟨f,b,⟨n1,n2,n3⟩,e1,e2,e3⟩:=h;exact ⟨f,b,⟨n1,n2,n3⟩,s _ _ n3 e1,s _ _ n1 e2,s _ _ n2 e3⟩
noncomputable def csK (z:Nat) (fs bs:List Int) (l:LD) (k:Nat):CD:=⟨frB z l.sp l.d,frB z l.sp l.e,(fs.take k).sum,-(bs.take k).sum⟩
noncomputable def II (H:Hp) (r:Addr) (z:Nat) (fs bs:List Int) (ls:List LD):Prop:=∃ qs:List Addr,H r=some (.lst (qs.map V.ref))∧qs.length=ls.length∧∀ (i:Nat) (q:Addr) (l:LD),qs[i]? = some q→ls[i]? = some l→qI H q (csK z fs bs l i)
noncomputable def Yb (l:List Int):List V:=l.map V.int
noncomputable def ts0 (z:Nat):List Int:=(List.range z).map fun (k:Nat)=>(k:Int)
noncomputable def He (ms:List Bool) (x:Int) (ts:List Int):List Int:=ts.filter fun t=>(ms[((t + x) % (ms.length:Int)).toNat]?).getD false
noncomputable def frK (z:Nat) (ls:List LD) (f:LD→WD) (k:Nat) (x:Int):Bool:=(ls[k]?).any fun l=>jf z l.sp (f l) x
noncomputable def gA (fr:Nat→Int→Bool) (off:Nat→Int) (i:Nat) (t:Int):Bool:=(List.range i).all fun k=>fr k (t + off k)
noncomputable def ML (fs sh:List Int) (k:Nat):Int:=(fs.take k).sum - sh.getD k 0
noncomputable def JL (bs sh:List Int) (k:Nat):Int:=-(bs.take k).sum - sh.getD k 0
noncomputable def grF (z:Nat) (ls:List LD) (fs sh:List Int) (i:Nat):List Int:=(ts0 z).filter (gA (frK z ls LD.d) (ML fs sh) i)
noncomputable def grB (z:Nat) (ls:List LD) (bs sh:List Int) (i:Nat):List Int:=(ts0 z).filter (gA (frK z ls LD.e) (JL bs sh) i)
theorem Ul {z:Nat} (hz:0 < z) {fr:Nat→Int→Bool} {off:Nat→Int} {i:Nat} {sp:List SD} {d:WD} (hf:∀ x,fr i x=jf z sp d x):He (frB z sp d) (off i) ((ts0 z).filter (gA fr off i))=(ts0 z).filter (gA fr off (i + 1)):=by
 unfold He;rw [List.filter_filter];refine List.filter_congr fun x _=>?_
 rw [sk,xK hz];show (jf z sp d (x + off i) && gA fr off i x)=gA fr off (i + 1) x;unfold gA;rw [List.range_succ,List.all_append,List.all_cons,List.all_nil,Bool.and_true,hf,Bool.and_comm]
theorem Im (z:Nat):(ts0 z).length=z:=by unfold ts0;simp
structure LIn (t:Adr) (H:Hp) (lp fp bp:Addr) (z:Nat) (ls:List LD) (fs bs:List Int):Prop where
 l:Dj t H z lp ls
 f:H fp=some (.lst (Yb fs))
 b:H bp=some (.lst (Yb bs))
 fl:fs.length + 1=ls.length
 bl:bs.length + 1=ls.length
 ln:1 ≤ ls.length∧ls.length ≤ 10
 z0:0 < z∧z ≤ 1000
theorem LIn.same {t:Adr} {H H':Hp} {lp fp bp:Addr} {z:Nat} {ls:List LD} {fs bs:List Int} (h:LIn t H lp fp bp z ls fs bs) (s:Ob H H'):LIn t H' lp fp bp z ls fs bs:=⟨h.l.same s,s _ _ h.f,s _ _ h.b,h.fl,h.bl,h.ln,h.z0⟩
noncomputable def ny (t:Adr):Sp:=fun vs H Q _=>∃ (pl c:Addr) (n:Int) (ds:List WD) (z:Nat) (sp:List SD) (d:WD),vs=[.ref pl,.str d.name]∧Tg t H pl c n ds z sp∧(0 < z∧z ≤ 1000)∧d ∈ ds∧∀ p,H p=none→Q (.ref p) (upd H p (.lst (ac (frB z sp d))))
noncomputable def WA (t:Adr):Sp:=fun vs H Q _=>∃ lp fp bp z ls fs bs,vs=[.ref lp,.ref fp,.ref bp]∧LIn t H lp fp bp z ls fs bs∧NoT H∧∀ r H',Ob H H'→NoT H'→II H' r z fs bs ls→Q (.ref r) H'
noncomputable def lB:Sp:=fun vs H Q _=>∃ tp mp ts ms x,vs=[.ref tp,.ref mp,.int x]∧H tp=some (.lst (Yb ts))∧H mp=some (.lst (ac ms))∧(0 < ms.length∧ms.length ≤ 1000)∧ts.length ≤ 1000∧∀ p,H p=none→Q (.ref p) (upd H p (.lst (Yb (He ms x ts))))
noncomputable def sv (H:Hp) (p:Addr) (u v:List Int):Prop:=∃ f b,H p=some (.tup [.ref f,.ref b])∧H f=some (.lst (Yb u))∧H b=some (.lst (Yb v))
noncomputable def Qn:Sp:=fun vs H Q _=>∃ bp cp u v c x,vs=[.ref bp,.ref cp,.int x]∧sv H bp u v∧qI H cp c∧(0 < c.f.length∧c.f.length ≤ 1000)∧(0 < c.b.length∧c.b.length ≤ 1000)∧u.length ≤ 1000∧v.length ≤ 1000∧NoT H∧∀ p H',Ob H H'→NoT H'→sv H' p (He c.f (c.x - x) u) (He c.b (c.y - x) v)→Q (.ref p) H'
noncomputable def Kt (t:Adr):Sp:=fun vs H Q _=>∃ lp z ls,vs=[.ref lp]∧Dj t H z lp ls∧1 ≤ ls.length∧(0 < z∧z ≤ 1000)∧NoT H∧∀ p H',Ob H H'→NoT H'→sv H' p (ts0 z) (ts0 z)→Q (.ref p) H'
noncomputable def Gx (t:Adr):Sp:=fun vs H Q _=>∃ lp fp bp sp z ls fs bs sh,vs=[.ref lp,.ref fp,.ref bp,.ref sp]∧LIn t H lp fp bp z ls fs bs∧H sp=some (.lst (Yb sh))∧sh.length=ls.length∧NoT H∧∀ p H',Ob H H'→NoT H'→H' p=some (.tup [.int ((grF z ls fs sh ls.length).length:Nat),.int ((grB z ls bs sh ls.length).length:Nat)])→Q (.ref p) H'
theorem oy {l:List Int} {i:Nat} {x:Int} (h:l[i]? = some x):(l.take (i + 1)).sum=(l.take i).sum + x:=by
 rw [Eh h,List.sum_append];simp
theorem fv (p:Int→Bool):∀ xs:List Int,((xs.map fun x=>if p x=true then some (V.int x) else none).flatMap Option.toList)=Yb (xs.filter p)
 | []=>rfl
 | x :: xs=>by
  rw [List.map_cons,List.flatMap_cons,fv p xs];by_cases c:p x=true
  ·rw [if_pos c,List.filter_cons_of_pos c];rfl
  ·rw [if_neg c,List.filter_cons_of_neg c];rfl
theorem Pn {l:List Int} {i:Nat} {x:Int} (h:l[i]? = some x):(Yb l)[i]? = some (.int x):=by unfold Yb;rw [List.getElem?_map,h];rfl
theorem Cd (l:List Int):(Yb l).length=l.length:=by unfold Yb;rw [List.length_map]
theorem Iv (ms:List Bool) (x:Int) (ts:List Int):(He ms x ts).length ≤ ts.length:=List.length_filter_le ..
section
variable {P:Program} {w:World} {K:PySem.W.Frag} {mg:Str→Option Value} {base:Heap} {t:Adr}
theorem HF (T:Txt w K mg t):Eb P w K mg base CX0 5 t.vt t.xt q18 (ny t):=by
 have g57:Eb P w K mg base CX0 4 t.Ex t.Vx q9 (zD t):=MI T;refine T.As.ok oG (fun vs H Q E h=>?_) (fun _ _ _ s H vs Q E hr h=>?_)
 ·obtain ⟨pl,c,n,ds,z,sp,d,rfl,_⟩:=h;rfl
 obtain ⟨pl,c,n,ds,z,sp,d,rfl,PA,hz,hd,q⟩:=h;obtain ⟨dx,p,lm,un,hpl,_⟩:=PA.at_;obtain ⟨i,hi⟩:=List.getElem?_of_mem hd;refine ⟨_,(lb (Db (Rh rfl (Pd rfl T.Ve (cb (Ub (pv 0) rfl) gb)) (Lc (sc:=pb tw) rfl (by decide +kernel)) (N:=["turn","plan","name"]) (sel:=[none,some 0,some 1]) (yd (M:=q18) (by decide +kernel)) (Blk.of (fun _ _ _ _=>(qb (i:=0) (Dg (N:=["turn","plan","name"]) (by decide +kernel) rfl))) (fun _ _ _ _=>⟨_,rf,by walk_at "B"⟩) (fun _ _ _ _=>⟨_,(ub g57 hr T.UJ T.DA.kp T.lK (cb (pv 1) (cb (pv 2) (cb (pv 0) gb)))),by walk_at "B"⟩))))),?_⟩;walk_at "RD";refine ⟨_,Qp T hpl,_,rfl,by omega,by omega,?_⟩;refine vd.range_map (fun k=>V.bl (jf z sp d k)) (by rw [Int.toNat_natCast];exact Nat.le_trans hz.2 (by decide)) (fun k N hk hN=>?_) (fun p hp=>?_)
 ·walk_at "RD";exact ⟨Sub.name,pl,c,n,ds,z,sp,i,d,_,rfl,PA,hz.1,hi,hN⟩
 ·have:=q p hp;unfold ac frB at this;rw [List.map_map] at this;rw [Int.toNat_natCast];exact this
theorem UG (T:Txt w K mg t):Eb P w K mg base CX0 6 t.Ce t.Be q11 (WA t):=by
 have g25:Eb P w K mg base CX0 5 t.vt t.xt q18 (ny t):=HF T;refine T.Bf.ok Qb (fun vs H Q E h=>?_) (fun _ _ _ s H vs Q E hr h=>?_)
 ·obtain ⟨lp,fp,bp,z,ls,fs,bs,rfl,_⟩:=h;rfl
 obtain ⟨lp,fp,bp,z,ls,fs,bs,rfl,I,nt,q⟩:=h;refine ⟨_,(fb (yb (i:=3) Qb.nd (dg gb))
   (fb (yb (i:=4) Qb.nd rb)
   (fb (yb (i:=5) Qb.nd rb)
   (fb (fe PassesOwn.never rfl (Ak rfl T.Ke (cb (pv 0) gb)) (Hd (K:=K) (n:=2) rfl rfl (zb (qb (i:=6) Qb.nd) (zb (qb (i:=7) Qb.nd) Ed))) (fb (Fl (pv 7) (Hd (K:=K) (n:=3) rfl rfl (zb (qb (i:=8) Qb.nd) (zb (qb (i:=9) Qb.nd) (zb (qb (i:=10) Qb.nd) Ed)))))
   (fb (Uc (Tu PySem.F.plainAttrs_list PySem.F.slot_list_append PySem.F.type_list_append Mh (pv 3) (cb (Di (cb (ub g25 hr T.yD T.As.kp T.SC (cb (pv 8) (cb (pv 9) gb))) (cb (ub g25 hr T.yD T.As.kp T.SC (cb (pv 8) (cb (pv 10) gb))) (cb (pv 4) (cb (pv 5) gb))))) gb)))
   (lb (Se (Zb Bu (bc Zd (pv 6) rb) (Pb Gb rfl T.di Tb (cb (pv 0) gb)) (Vb _)) (fb (YA (i:=4) Qb.nd rfl (Or.inl rfl) (uc Vc (pv 1) (pv 6)) DG)
   (lb (YA (i:=5) Qb.nd rfl (Or.inl rfl) (uc Vc (pv 2) (pv 6)) qJ))) jc)))))
   (lb (Db (pv 3))))))),?_⟩
 walk_at "RD";refine ⟨Nat.zero_le _,fun r hr0=>?_⟩;obtain ⟨⟨qs,l1,lq⟩,al⟩:=I.l;have hql:qs.length=ls.length:=by rw [lq.1,List.length_map]
 have sr:Ob H (upd H r (.lst [])):=jb hr0;have hfl:=I.fl;have hbl:=I.bl;have hln:=I.ln;refine ⟨⟨_,SqL.of (sr _ _ l1)⟩,?_⟩;refine Ei.enum (xs:=qs.map V.ref) (fun i σ H'=>Ob H H'∧NoT H'∧(∃ os:List Addr,H' r=some (.lst (os.map V.ref))∧os.length=i∧∀ (j:Nat) (q:Addr) (l:LD),os[j]? = some q→ls[j]? = some l→CrN r H' q (csK z fs bs l j))∧∃ x6 x7 x8 x9 x10,σ=[some (.ref lp),some (.ref fp),some (.ref bp),some (.ref r),some (.int (fs.take i).sum),some (.int (-(bs.take i).sum)),x6,x7,x8,x9,x10]) ?_ ?_ ?_ ?_
 ·exact ⟨sr,nt.upd,⟨[],db,rfl,fun j q l h=>by simp at h⟩,_,_,_,_,_,rfl⟩
 ·rintro i σ H' hi ⟨sm,_⟩;exact SqL.of (sm _ _ l1)
 ·rintro i v σ H0 p1 hv ⟨sm0,nt0,⟨os,o1,o2,o3⟩,x6,x7,x8,x9,x10,rfl⟩ hp1;obtain ⟨qi,hqi,rfl⟩:=Xb hv;have hil:i < ls.length:=by rw [← hql];exact (List.getElem?_eq_some_iff.mp hqi).1
  have hli:ls[i]? = some ls[i]:=List.getElem?_eq_getElem hil;have eq:H qi=some (lO ls[i]):=lq.2 i _ _ hqi (by rw [List.getElem?_map,hli];rfl);have ok:=al ls[i] (List.mem_of_getElem? hli);have s1:Ob H0 (upd H0 p1 (.tup [.int i,.ref qi])):=jb hp1;have n1:NoT (upd H0 p1 (.tup [.int i,.ref qi])):=nt0.upd;refine Xf ?_;generalize upd H0 p1 (.tup [.int i,.ref qi])=H1 at s1 n1 ⊢;have sm1:=sm0.trans s1;simp only [Kb,List.set_cons_succ,List.set_cons_zero];refine zzC (fun σ' H'=>H'=H1∧σ'=[some (.ref lp),some (.ref fp),some (.ref bp),some (.ref r),some (.int (fs.take i).sum),some (.int (-(bs.take i).sum)),some (.int (i:Nat)),some (.ref qi),some (.ref ls[i].pl),some (.str ls[i].d.name),some (.str ls[i].e.name)]) (fun D' hD=>?_) fun zzM zzh=>?_
  ·walk_at "RD";exact ⟨_,SqT.of (sm1 _ _ eq),rfl,_,_,rfl,_,_,rfl,_,_,rfl,rfl,hD _ _ ⟨rfl,rfl⟩⟩
  rintro σ2 H2 ⟨rfl,rfl⟩;subst zzh;simp only [Kb];refine zzC (fun σ' H'=>Ob H H'∧NoT H'∧(∃ os:List Addr,H' r=some (.lst (os.map V.ref))∧os.length=i + 1∧∀ (j:Nat) (q:Addr) (l:LD),os[j]? = some q→ls[j]? = some l→CrN r H' q (csK z fs bs l j))∧σ'=[some (.ref lp),some (.ref fp),some (.ref bp),some (.ref r),some (.int (fs.take i).sum),some (.int (-(bs.take i).sum)),some (.int (i:Nat)),some (.ref qi),some (.ref ls[i].pl),some (.str ls[i].d.name),some (.str ls[i].e.name)]) (fun D' hD=>?_) fun zzM zzh=>?_
  ·walk_at "RD";refine ⟨.inl ⟨_,SqL.of (s1 _ _ o1)⟩,_,_,_,_,z,_,_,rfl,ok.1.same sm1,I.z0,ok.2.1,fun p2 hp2=>?_⟩;have s2:=jb (o:=.lst (ac (frB z ls[i].sp ls[i].d))) hp2;refine ⟨_,_,_,_,z,_,_,rfl,ok.1.same (sm1.trans s2),I.z0,ok.2.2,fun p3 hp3=>⟨by decide,fun p4 hp4=>?_⟩⟩;have s3:=jb (o:=.lst (ac (frB z ls[i].sp ls[i].e))) hp3;have s4:=jb (o:=.tup [.ref p2,.ref p3,.int (fs.take i).sum,.int (-(bs.take i).sum)]) hp4;have s24:=(s2.trans s3).trans s4;have er:=s24 _ _ (s1 _ _ o1);have c2:=s4 _ _ (s3 _ _ (db (H:=H2) (a:=p2) (o:=.lst (ac (frB z ls[i].sp ls[i].d)))));have c3:=s4 _ _ (db (H:=upd H2 p2 (.lst (ac (frB z ls[i].sp ls[i].d)))) (a:=p3) (o:=.lst (ac (frB z ls[i].sp ls[i].e))));have c4:=db (H:=upd (upd H2 p2 (.lst (ac (frB z ls[i].sp ls[i].d)))) p3 (.lst (ac (frB z ls[i].sp ls[i].e)))) (a:=p4) (o:=.tup [.ref p2,.ref p3,.int (fs.take i).sum,.int (-(bs.take i).sum)]);have n4:NoT (upd (upd (upd H2 p2 (.lst (ac (frB z ls[i].sp ls[i].d)))) p3 (.lst (ac (frB z ls[i].sp ls[i].e)))) p4 (.tup [.ref p2,.ref p3,.int (fs.take i).sum,.int (-(bs.take i).sum)])):=((n1.upd).upd).upd;generalize upd (upd (upd H2 p2 (.lst (ac (frB z ls[i].sp ls[i].d)))) p3 (.lst (ac (frB z ls[i].sp ls[i].e)))) p4 (.tup [.ref p2,.ref p3,.int (fs.take i).sum,.int (-(bs.take i).sum)])=H4 at s24 er c2 c3 c4 n4 ⊢;refine ⟨_,er,Nat.lt_of_le_of_lt (show (os.map V.ref).length ≤ 10 by rw [List.length_map];omega) (by decide),hD _ _ ⟨(sm1.trans s24).updN hr0,n4.upd,⟨os ++ [p4],by rw [db,List.map_append];rfl,by rw [List.length_append,o2];rfl,fun j q l hj hl=>?_⟩,rfl⟩⟩;rcases Wh hj with ⟨_,hj⟩ | ⟨rfl,rfl⟩
   ·exact (o3 j q l hj hl).step ((bd.of (s1.trans s24)).trans bd.put)
   ·rw [o2] at hl ⊢;rw [hli] at hl;cases hl;have k2:p2 ≠ r:=(Bb (s1 _ _ o1) hp2).symm;have k3:p3 ≠ r:=(Bb (s2 _ _ (s1 _ _ o1)) hp3).symm;have k4:q ≠ r:=(Bb (s3 _ _ (s2 _ _ (s1 _ _ o1))) hp4).symm;exact ⟨p2,p3,⟨k2,k3,k4⟩,by rw [wb k4];exact c4,by rw [wb k2];exact c2,by rw [wb k3];exact c3⟩
  rintro σ3 H3 ⟨sm3,n3,O3,rfl⟩;subst zzh;dsimp only;refine zc (decide (i + 1 < ls.length)) (fun Q hQ=>?_) (fun hb=>?_) (fun hb=>?_)
  ·walk_at "RD";refine ⟨_,.inl (SqL.of (sm3 _ _ l1)),?_⟩;rw [List.length_map,hql,show decide ((i:Int) + 1 < (ls.length:Int))=decide (i + 1 < ls.length) by rw [Bool.eq_iff_iff,decide_eq_true_eq,decide_eq_true_eq];omega];exact hQ
  ·have hb:=of_decide_eq_true hb;have hfi:fs[i]? = some (fs[i]'(by omega)):=List.getElem?_eq_getElem _;have hbi:bs[i]? = some (bs[i]'(by omega)):=List.getElem?_eq_getElem _;walk_at "RD";refine ⟨_,SqL.of (sm3 _ _ I.f),_,Fc (Pn hfi),_,_,rfl,rfl,_,SqL.of (sm3 _ _ I.b),_,Fc (Pn hbi),_,_,rfl,rfl,sm3,n3,O3,?_⟩;rw [oy hfi,oy hbi,Int.neg_add]
   repeat (first | exact ⟨_,rfl⟩ | refine ⟨⟨_,rfl⟩,?_⟩ | refine ⟨rfl,?_⟩)
  ·have hb:=of_decide_eq_false hb;walk_at "RD";refine ⟨sm3,n3,O3,?_⟩;rw [List.take_of_length_le (l:=fs) (i:=i + 1) (by omega),List.take_of_length_le (l:=fs) (i:=i) (by omega),List.take_of_length_le (l:=bs) (i:=i + 1) (by omega),List.take_of_length_le (l:=bs) (i:=i) (by omega)]
   repeat (first | exact ⟨_,rfl⟩ | refine ⟨⟨_,rfl⟩,?_⟩ | refine ⟨rfl,?_⟩)
 ·rintro σ H' zzq;refine zP fun zzM zzh=>?_
  obtain ⟨sm,nt',⟨os,o1,o2,o3⟩,x6,x7,x8,x9,x10,rfl⟩:=zzq;subst zzh;walk_at "RD";exact q r H' sm nt' ⟨os,o1,by rw [o2,List.length_map,hql],fun i q l a b=>(o3 i q l a b).at⟩
theorem gJ (T:Txt w K mg t):Eb P w K mg base CX0 1 t.Sk t.Pk q30 lB:=by
 refine T.ol.ok ur (fun vs H Q E h=>?_) (fun _ _ _ s H vs Q E hr h=>?_)
 ·obtain ⟨tp,mp,ts,ms,x,rfl,_⟩:=h;rfl
 obtain ⟨tp,mp,ts,ms,x,rfl,ht,hm,hml,htl,q⟩:=h;refine ⟨_,(fb (FC (i:=3) ur.nd rfl (Or.inr rfl) (Pb Gb rfl T.di Tb (cb (pv 1) gb)))
   (lb (Db (Rh rfl (ce (pv 0)) (Lc (sc:=pb Eo) rfl (by decide +kernel)) (N:=["turn","marks","later","size"]) (sel:=[none,some 1,some 2,some 3]) (yd (M:=["turns","marks","later","size"]) (by decide +kernel)) (Blk.of (fun _ _ _ _=>(qb (i:=0) (Dg (N:=["turn","marks","later","size"]) (by decide +kernel) rfl))) (fun _ _ _ _=>⟨_,(bx (Si (uc Vc (pv 1) (bc gg (bc Zd (pv 0) (pv 2)) (pv 3))))),by walk_at "B"⟩) (fun _ _ _ _=>⟨_,(pv 0),by walk_at "B"⟩)))))),?_⟩
 walk_at "RD";refine ⟨_,.inl (SqL.of hm),⟨_,SqL.of ht⟩,?_⟩;rw [show (ac ms).length=ms.length by unfold ac;simp];refine vd.list_sel (xs:=Yb ts) (ss:=ts.map fun u=>if ((ms[((u + x) % (ms.length:Int)).toNat]?).getD false)=true then some (V.int u) else none) (SqL.of ht) (by rw [Cd];exact Nat.le_trans htl (by decide)) (by rw [Cd,List.length_map]) (fun i v o ys N hv ho hN=>?_) (fun p hp=>?_)
 ·obtain ⟨u,hu,rfl⟩:=Xb hv;obtain ⟨u',hu',rfl⟩:=Xb ho;rw [hu] at hu';cases hu';have h0:=Int.emod_nonneg (u + x) (show (ms.length:Int) ≠ 0 by omega);have h1:=Int.emod_lt_of_pos (u + x) (show (0:Int) < ms.length by omega);have hj:ms[((u + x) % (ms.length:Int)).toNat]? = some (ms[((u + x) % (ms.length:Int)).toNat]'(by omega)):=List.getElem?_eq_getElem _;rw [hj] at hN;have e:=Fc (xs:=ac ms) (j:=((u + x) % (ms.length:Int)).toNat) (by unfold ac;rw [List.getElem?_map,hj];rfl);rw [Int.toNat_of_nonneg h0] at e;generalize ms[((u + x) % (ms.length:Int)).toNat]'(by omega)=bb at hN e;walk_at "RD";refine ⟨Sub.name,by omega,_,SqL.of hm,_,e,_,rfl,?_⟩;cases bb with
  | true=>exact hN
  | false=>
   simp at hN ⊢;exact hN
 ·rw [fv];exact q p hp
theorem Zs (T:Txt w K mg t):Eb P w K mg base CX0 2 t.Ud t.Td q19 Qn:=by
 have g26:Eb P w K mg base CX0 1 t.Sk t.Pk q30 lB:=gJ T;refine T.Ae.ok Qc (fun vs H Q E h=>?_) (fun _ _ _ s H vs Q E hr h=>?_)
 ·obtain ⟨bp,cp,u,v,c,x,rfl,_⟩:=h;rfl
 obtain ⟨bp,cp,u,v,c,x,rfl,⟨f,b,e1,e2,e3⟩,⟨mf,mb,c1,c2,c3⟩,hf,hb,hu,hv,nt,q⟩:=h;refine ⟨_,(fb (Fl (pv 1) (Hd (K:=K) (n:=4) rfl rfl (zb (qb (i:=3) Qc.nd) (zb (qb (i:=4) Qc.nd) (zb (qb (i:=5) Qc.nd) (zb (qb (i:=6) Qc.nd) Ed))))))
   (fb (yb (i:=7) Qc.nd (ub g26 hr T.Fu T.ol.kp T.Ju (cb (uc Lg (pv 0) rb) (cb (pv 3) (cb (bc Wf (pv 5) (pv 2)) gb)))))
   (fb (yb (i:=8) Qc.nd (ub g26 hr T.Fu T.ol.kp T.Ju (cb (uc Lg (pv 0) rb) (cb (pv 4) (cb (bc Wf (pv 6) (pv 2)) gb)))))
   (lb (Db (Di (cb (pv 7) (cb (pv 8) gb)))))))),?_⟩
 walk_at "RD";refine ⟨_,SqT.of c1,rfl,_,_,rfl,_,_,rfl,_,_,rfl,_,_,rfl,rfl,_,SqT.of e1,_,rfl,_,rfl,f,mf,u,c.f,_,rfl,e2,c2,hf,hu,fun p1 hp1=>?_⟩;have s1:Ob H (upd H p1 (.lst (Yb (He c.f (c.x - x) u)))):=jb hp1;refine ⟨_,SqT.of (s1 _ _ e1),_,rfl,_,rfl,b,mb,v,c.b,_,rfl,s1 _ _ e3,s1 _ _ c3,hb,hv,fun p2 hp2=>⟨by decide,fun p hp=>?_⟩⟩;have s2:=jb (o:=.lst (Yb (He c.b (c.y - x) v))) hp2;have s3:=jb (o:=.tup [.ref p1,.ref p2]) hp;exact q p _ ((s1.trans s2).trans s3) ((nt.upd).upd).upd ⟨p1,p2,db,s3 _ _ (s2 _ _ db),s3 _ _ db⟩
theorem lx (T:Txt w K mg t):Eb P w K mg base CX0 1 t.bf t.Ye ["line"] (Kt t):=by
 refine T.jg.ok yj (fun vs H Q E h=>?_) (fun _ _ _ s H vs Q E hr h=>?_)
 ·obtain ⟨lp,z,ls,rfl,_⟩:=h;rfl
 obtain ⟨lp,z,ls,rfl,L,hl,hz,nt,q⟩:=h;refine ⟨_,(fb (yb (i:=1) yj.nd (Nd (Xs rfl) rfl T.vi md (cb (Nd kD rfl T.Ve (by decide +kernel) (cb (Ub (uc Lg (uc Vc (pv 0) rb) rb) rfl) gb)) gb)))
   (lb (Db (Di (cb (pv 1) (cb (pv 1) gb)))))),?_⟩
 obtain ⟨⟨qs,l1,lq⟩,al⟩:=L;have hql:qs.length=ls.length:=by rw [lq.1,List.length_map]
 have hq0:qs[0]? = some (qs[0]'(by omega)):=List.getElem?_eq_getElem _;have hl0:ls[0]? = some ls[0]:=List.getElem?_eq_getElem (by omega);have e0:H (qs[0]'(by omega))=some (lO ls[0]):=lq.2 0 _ _ hq0 (by rw [List.getElem?_map,hl0];rfl);obtain ⟨dx,p,lm,un,hpl,_⟩:=(al ls[0] (List.mem_of_getElem? hl0)).1.at_;walk_at "RD";refine ⟨_,SqL.of l1,_,Fc (j:=0) (by rw [List.getElem?_map,hq0];rfl),_,rfl,_,SqT.of e0,_,rfl,_,rfl,_,Qp T hpl,_,rfl,by omega,by omega,fun p1 hp1=>⟨_,db,by omega,by omega,fun p2 hp2=>⟨by decide,fun p3 hp3=>?_⟩⟩⟩;rw [Int.toNat_natCast] at hp3 ⊢;have s1:=jb (o:=.rng 0 (z:Int)) hp1;have s2:=jb (o:=.lst ((List.range z).map fun i=>V.int ((i:Nat):Int))) hp2;have s3:=jb (o:=.tup [.ref p2,.ref p2]) hp3;have ee:(List.range z).map (fun i=>V.int ((i:Nat):Int))=Yb (ts0 z):=by unfold Yb ts0;rw [List.map_map];rfl
 exact q p3 _ ((s1.trans s2).trans s3) ((nt.upd).upd).upd ⟨p2,p2,db,by rw [← ee];exact s3 _ _ db,by rw [← ee];exact s3 _ _ db⟩
theorem EF (T:Txt w K mg t):Eb P w K mg base CX0 7 t.Zg t.Ug q31 (Gx t):=by
 have g21:Eb P w K mg base CX0 6 t.Ce t.Be q11 (WA t):=UG T;have g15:Eb P w K mg base CX0 6 t.Ud t.Td q19 Qn:=(Zs T).mono (by decide);have g22:Eb P w K mg base CX0 6 t.bf t.Ye ["line"] (Kt t):=(lx T).mono (by decide);refine T.Qi.ok Te (fun vs H Q E h=>?_) (fun _ _ _ s H vs Q E hr h=>?_)
 ·obtain ⟨lp,fp,bp,sp,z,ls,fs,bs,sh,rfl,_⟩:=h;rfl
 obtain ⟨lp,fp,bp,sp,z,ls,fs,bs,sh,rfl,I,hs,hsl,nt,q⟩:=h;refine ⟨_,(fb (yb (i:=4) Te.nd (ub g22 hr T.Ik T.jg.kp T.Vk (cb (pv 0) gb)))
   (fb (fe PassesOwn.never rfl (bL rfl T.bM (cb (ub g21 hr T.Lj T.Bf.kp T.Yj (cb (pv 0) (cb (pv 1) (cb (pv 2) gb)))) (cb (pv 3) gb))) (Hd (K:=K) (n:=2) rfl rfl (zb (qb (i:=5) Te.nd) (zb (qb (i:=6) Te.nd) Ed))) (lb (yb (i:=4) Te.nd (ub g15 hr T.oh T.Ae.kp T.kh (cb (pv 4) (cb (pv 5) (cb (pv 6) gb)))))))
   (lb (Db (Di (cb (Pb Gb rfl T.di Tb (cb (uc Lg (pv 4) rb) gb)) (cb (Pb Gb rfl T.di Tb (cb (uc Lg (pv 4) rb) gb)) gb))))))),?_⟩
 walk_at "RD";refine ⟨lp,z,ls,rfl,I.l,I.ln.1,I.z0,nt,fun p1 H1 s1 n1 B1=>?_⟩;refine ⟨lp,fp,bp,z,ls,fs,bs,rfl,I.same s1,n1,fun r H2 s2 n2 ⟨qs,r1,r2,r3⟩=>?_⟩;have hs2:=(s1.trans s2) _ _ hs;refine ⟨r,rfl,⟨_,SqL.of r1⟩,⟨_,SqL.of hs2⟩,?_⟩;refine Ei.zip (xs:=qs.map V.ref) (ys:=Yb sh) (fun i σ H'=>Ob H2 H'∧NoT H'∧∃ p x5 x6,sv H' p (grF z ls fs sh i) (grB z ls bs sh i)∧σ=[some (.ref lp),some (.ref fp),some (.ref bp),some (.ref sp),some (.ref p),x5,x6]) ?_ ?_ ls.length (by rw [List.length_map,Cd,r2,hsl,Nat.min_self]) ?_ ?_
 ·obtain ⟨f,b,b1,b2,b3⟩:=B1;refine ⟨Ob.refl _,n2,p1,none,none,⟨f,b,s2 _ _ b1,?_,?_⟩,rfl⟩
  ·rw [show grF z ls fs sh 0=ts0 z from List.filter_eq_self.mpr fun _ _=>rfl];exact s2 _ _ b2
  ·rw [show grB z ls bs sh 0=ts0 z from List.filter_eq_self.mpr fun _ _=>rfl];exact s2 _ _ b3
 ·rintro i σ H' hi ⟨sm,_,_⟩;exact ⟨SqL.of (sm _ _ r1),SqL.of (sm _ _ hs2)⟩
 ·rintro i v y σ H0 p3 hv hy ⟨sm,nt',p,x5,x6,B,rfl⟩ hp3;obtain ⟨qi,hqi,rfl⟩:=Xb hv;obtain ⟨si,hsi,rfl⟩:=Xb hy;have hil:i < ls.length:=by rw [← r2];exact (List.getElem?_eq_some_iff.mp hqi).1
  have hli:ls[i]? = some ls[i]:=List.getElem?_eq_getElem hil;have s3:Ob H0 (upd H0 p3 (.tup [.ref qi,.int si])):=jb hp3;have n3:NoT (upd H0 p3 (.tup [.ref qi,.int si])):=nt'.upd;refine Xf ?_;generalize upd H0 p3 (.tup [.ref qi,.int si])=H' at s3 n3 ⊢;have C:=(r3 i qi ls[i] hqi hli).same (sm.trans s3);obtain ⟨f,b,b1,b2,b3⟩:=B;have g1:(grF z ls fs sh i).length ≤ 1000:=Nat.le_trans (List.length_filter_le ..) (by rw [Im];exact I.z0.2);have g2:(grB z ls bs sh i).length ≤ 1000:=Nat.le_trans (List.length_filter_le ..) (by rw [Im];exact I.z0.2);walk_at "RD";refine ⟨p,qi,_,_,csK z fs bs ls[i] i,si,rfl,⟨f,b,s3 _ _ b1,s3 _ _ b2,s3 _ _ b3⟩,C,?_,?_,g1,g2,n3,fun p4 H4 s4 n4 B4=>?_⟩
  ·show 0 < (frB z _ _).length∧(frB z _ _).length ≤ 1000;rw [sk];exact I.z0
  ·show 0 < (frB z _ _).length∧(frB z _ _).length ≤ 1000;rw [sk];exact I.z0
  ·have hsg:sh.getD i 0=si:=by rw [List.getD_eq_getElem?_getD,hsi];rfl
   have e1:He (csK z fs bs ls[i] i).f ((csK z fs bs ls[i] i).x - si) (grF z ls fs sh i)=grF z ls fs sh (i + 1):=by
    have:=Ul (fr:=frK z ls LD.d) (off:=ML fs sh) (i:=i) I.z0.1 (sp:=ls[i].sp) (d:=ls[i].d) (fun x=>by unfold frK;rw [hli];rfl);unfold ML at this;rw [hsg] at this;exact this
   have e2:He (csK z fs bs ls[i] i).b ((csK z fs bs ls[i] i).y - si) (grB z ls bs sh i)=grB z ls bs sh (i + 1):=by
    have:=Ul (fr:=frK z ls LD.e) (off:=JL bs sh) (i:=i) I.z0.1 (sp:=ls[i].sp) (d:=ls[i].e) (fun x=>by unfold frK;rw [hli];rfl);unfold JL at this;rw [hsg] at this;exact this
   rw [e1,e2] at B4;refine ⟨(sm.trans s3).trans s4,n4,p4,?_⟩;exact ⟨B4,rfl,_,rfl⟩
 ·rintro σ H' zzq;refine zP fun zzM zzh=>?_
  obtain ⟨sm,nt',p,x5,x6,⟨f,b,b1,b2,b3⟩,rfl⟩:=zzq;subst zzh;walk_at "RD";refine ⟨_,SqT.of b1,_,rfl,_,rfl,_,.inl (SqL.of b2),_,SqT.of b1,_,rfl,_,rfl,_,.inl (SqL.of b3),by decide,fun p5 hp5=>?_⟩;rw [Cd,Cd];exact q p5 _ (((s1.trans s2).trans sm).trans (jb hp5)) nt'.upd db
end
end My
namespace My
open PySem L2
theorem xl {α:Type} (z:Nat) (v:α) (b:Int) (hz:0 < z) (l:List α) (hl:l.length=z):∀ (k:Nat) (i:Nat),i < z→(fw z v b k l)[i]? = if ∃ j,j < k∧(b + (j:Int)) % (z:Int)=(i:Int) then some v else l[i]?
 | 0,i,hi=>by rw [if_neg (fun ⟨j,hj,_⟩=>by omega)];rfl
 | k + 1,i,hi=>by
  have ih:=xl z v b hz l hl k i hi;have h0:=Int.emod_nonneg (b + (k:Int)) (show (z:Int) ≠ 0 by omega);have h1:=Int.emod_lt_of_pos (b + (k:Int)) (show 0 < (z:Int) by omega);unfold fw bH;by_cases c:(b + (k:Int)) % (z:Int)=(i:Int)
  ·rw [show ((b + (k:Int)) % (z:Int)).toNat=i by omega,List.getElem?_set_self (by rw [Ff,hl];exact hi),if_pos ⟨k,by omega,c⟩]
  ·rw [List.getElem?_set_ne (by omega),ih];by_cases e:∃ j,j < k∧(b + (j:Int)) % (z:Int)=(i:Int)
   ·obtain ⟨j,hj,ej⟩:=e;rw [if_pos ⟨j,hj,ej⟩,if_pos ⟨j,by omega,ej⟩]
   ·rw [if_neg e,if_neg];rintro ⟨j,hj,ej⟩;by_cases hjk:j=k
    ·subst hjk;exact c ej
    ·exact e ⟨j,by omega,ej⟩
theorem eo {z b i:Int} {n:Int} (hz:0 < z) (hi:0 ≤ i∧i < z) (hn:0 ≤ n∧n ≤ z):(∃ j:Nat,j < n.toNat∧(b + (j:Int)) % z=i)↔(i - b) % z < n:=by
 have h0:=Int.emod_nonneg (i - b) (show z ≠ 0 by omega);have h1:=Int.emod_lt_of_pos (i - b) hz;constructor
 ·rintro ⟨j,hj,e⟩;have:(i - b) % z=j:=by
   rw [← e,Int.emod_sub_emod,show b + (j:Int) - b=j by omega];exact Int.emod_eq_of_lt (by omega) (by omega)
  omega
 ·intro h;refine ⟨((i - b) % z).toNat,by omega,?_⟩;rw [Int.toNat_of_nonneg h0,Int.add_emod_emod,show b + (i - b)=i by omega];exact Int.emod_eq_of_lt hi.1 hi.2
theorem HG {z:Nat} (hz:0 < z) {b n:Int} (hn:0 ≤ n∧n ≤ z) {i:Nat} (hi:i < z):(fmF z [(b,n)])[i]? = some (decide (((i:Int) - b) % (z:Int) < n)):=by
 unfold fmF;rw [List.foldl_cons,List.foldl_nil,xl z true b hz _ (List.length_replicate ..) _ _ hi];have:=eo (z:=z) (b:=b) (i:=i) (n:=n) (by omega) ⟨by omega,by omega⟩ hn;by_cases c:((i:Int) - b) % (z:Int) < n
 ·rw [if_pos (this.mpr c),decide_eq_true c]
 ·rw [if_neg (fun e=>c (this.mp e)),decide_eq_false c,List.getElem?_replicate,if_pos hi]
theorem lg (m:List Bool):∀ k,0 ≤ Me m k
 | 0=>by show (0:Int) ≤ 0;decide
 | k + 1=>by
  have:=lg m k;unfold Me;split <;> omega
theorem Au (m:List Bool) (g:Int) (hg:0 ≤ g):∀ k:Nat,Me m k ≤ g↔(∃ j:Nat,(j:Int) ≤ g∧j < k∧m[(2 * m.length - 1 - (k - 1 - j)) % m.length]? = some true)∨(k:Int) ≤ g
 | 0=>by
  constructor
  ·intro _;exact .inr (by omega)
  ·intro _;exact hg
 | k + 1=>by
  by_cases c:m[(2 * m.length - 1 - k) % m.length]? = some true
  ·have e:Me m (k + 1)=0:=by unfold Me;rw [if_pos c]
   rw [e];exact ⟨fun _=>.inl ⟨0,by omega,by omega,by rw [show k + 1 - 1 - 0=k by omega];exact c⟩,fun _=>hg⟩
  ·have e:Me m (k + 1)=Me m k + 1:=by
    show (if m[(2 * m.length - 1 - k) % m.length]? = some true then 0 else Me m k + 1)=_;rw [if_neg c]
   rw [e];by_cases hg1:1 ≤ g
   ·have ih:=Au m (g - 1) (by omega) k;constructor
    ·intro h;rcases ih.mp (by omega) with ⟨j,h1,h2,h3⟩ | h
     ·exact .inl ⟨j + 1,by omega,by omega,by rw [show k + 1 - 1 - (j + 1)=k - 1 - j by omega];exact h3⟩
     ·exact .inr (by omega)
    ·rintro (⟨j,h1,h2,h3⟩ | h)
     ·by_cases hj:j=0
      ·subst hj;rw [show k + 1 - 1 - 0=k by omega] at h3;exact absurd h3 c
      ·have:=ih.mpr (.inl ⟨j - 1,by omega,by omega,by rw [show k - 1 - (j - 1)=k + 1 - 1 - j by omega];exact h3⟩);omega
     ·have:=ih.mpr (.inr (by omega));omega
   ·have:=lg m k;constructor
    ·intro h;omega
    ·rintro (⟨j,h1,h2,h3⟩ | h)
     ·have hj:j=0:=by omega
      subst hj;rw [show k + 1 - 1 - 0=k by omega] at h3;exact absurd h3 c
     ·omega
theorem zy {m:List Bool} {t:Nat} (ht:t < m.length):(Pj m)[t]? = some (Me m (2 * m.length - t)):=by
 unfold Pj;rw [List.getElem?_map,List.getElem?_range ht];rfl
theorem Qy {m:List Bool} (hm:∃ i,i < m.length∧m[i]? = some true) {t:Nat} (ht:t < m.length) (g:Int) (hg:0 ≤ g):Me m (2 * m.length - t) ≤ g↔∃ j:Nat,(j:Int) ≤ g∧m[(t + j) % m.length]? = some true:=by
 have pos:∀ j,j < 2 * m.length - t→(2 * m.length - 1 - (2 * m.length - t - 1 - j))=t + j:=fun j hj=>by omega
 rw [Au m g hg];constructor
 ·rintro (⟨j,h1,h2,h3⟩ | h)
  ·rw [pos j h2] at h3;exact ⟨j,h1,h3⟩
  ·obtain ⟨i,hi,e⟩:=hm;refine ⟨(i + m.length - t) % m.length,?_,?_⟩
   ·have:=Nat.mod_lt (i + m.length - t) (show 0 < m.length by omega);omega
   ·rw [Nat.add_mod_mod,show t + (i + m.length - t)=i + m.length by omega,Nat.add_mod_right,Nat.mod_eq_of_lt hi];exact e
 ·rintro ⟨j,h1,h2⟩;have hj:=Nat.mod_lt j (show 0 < m.length by omega);have hle:=Nat.mod_le j m.length;refine .inl ⟨j % m.length,by omega,by omega,?_⟩;rw [pos _ (by omega),Nat.add_mod_mod];exact h2
theorem KI {m:List Bool} (hm:∃ i,i < m.length∧m[i]? = some true):∃ i,i < m.reverse.length∧m.reverse[i]? = some true:=by
 obtain ⟨i,hi,e⟩:=hm;refine ⟨m.length - 1 - i,by rw [List.length_reverse];omega,?_⟩;rw [List.getElem?_reverse (by omega),show m.length - 1 - (m.length - 1 - i)=i by omega];exact e
theorem rG {m:List Bool} {t:Nat} (ht:t < m.length):∃ v,(Hr m)[t]? = some v∧0 ≤ v∧((∃ i,i < m.length∧m[i]? = some true)→∀ g:Int,0 ≤ g→(v ≤ g↔∃ j:Nat,(j:Int) ≤ g∧m[(((t:Int) - (j:Int)) % (m.length:Int)).toNat]? = some true)):=by
 have hr:m.reverse.length=m.length:=List.length_reverse;have h1:m.length - 1 - t < m.reverse.length:=by omega
 refine ⟨Me m.reverse (2 * m.reverse.length - (m.length - 1 - t)),?_,lg _ _,fun hm g hg=>?_⟩
 ·unfold Hr;rw [List.getElem?_reverse (by rw [jj];omega),jj,hr];have:=zy h1;rw [hr] at this;exact this
 ·rw [Qy (KI hm) h1 g hg];have key:∀ j:Nat,m.reverse[(m.length - 1 - t + j) % m.reverse.length]? = m[(((t:Int) - (j:Int)) % (m.length:Int)).toNat]?:=fun j=>by
   rw [hr];have hlt:=Nat.mod_lt (m.length - 1 - t + j) (show 0 < m.length by omega);rw [List.getElem?_reverse (by omega)];congr 1;have h0:=Int.emod_nonneg ((t:Int) - (j:Int)) (show (m.length:Int) ≠ 0 by omega);have e:((t:Int) - (j:Int)) % (m.length:Int)=((m.length - 1 - (m.length - 1 - t + j) % m.length:Nat):Int):=by
    have d:=Nat.div_add_mod (m.length - 1 - t + j) m.length;generalize (m.length - 1 - t + j) / m.length=q at d;generalize (m.length - 1 - t + j) % m.length=r at d hlt ⊢;have e2:(t:Int) - (j:Int)=((m.length - 1 - r:Nat):Int) + (m.length:Int) * (-(q:Int)):=by
     have d':(m.length:Int) * (q:Int) + (r:Int)=((m.length - 1 - t + j:Nat):Int):=by rw [← d];push_cast;rfl
     rw [Int.mul_neg];omega
    rw [e2,Int.add_mul_emod_self_left];exact Int.emod_eq_of_lt (by omega) (by omega)
   omega
  constructor
  ·rintro ⟨j,h2,h3⟩;exact ⟨j,h2,by rw [← key j];exact h3⟩
  ·rintro ⟨j,h2,h3⟩;exact ⟨j,h2,by rw [key j];exact h3⟩
theorem YJ {z:Nat} (hz:0 < z) {b n:Int} (hn:1 ≤ n∧n ≤ z) {t:Nat} (ht:t < z):∃ v,(Hr (fmF z [(b,n)]))[t]? = some v∧0 ≤ v∧∀ g:Int,0 ≤ g→(v ≤ g↔∃ j:Nat,(j:Int) ≤ g∧((t:Int) - (j:Int) - b) % (z:Int) < n):=by
 have hl:(fmF z [(b,n)]).length=z:=Yi _ _;obtain ⟨v,h1,h2,h3⟩:=rG (m:=fmF z [(b,n)]) (t:=t) (by rw [hl];exact ht);refine ⟨v,h1,h2,fun g hg=>?_⟩;have hb0:=Int.emod_nonneg b (show (z:Int) ≠ 0 by omega);have hb1:=Int.emod_lt_of_pos b (show 0 < (z:Int) by omega);have hm:∃ i,i < (fmF z [(b,n)]).length∧(fmF z [(b,n)])[i]? = some true:=by
  refine ⟨(b % (z:Int)).toNat,by rw [hl];omega,?_⟩;rw [HG hz ⟨by omega,hn.2⟩ (by omega),Int.toNat_of_nonneg hb0,decide_eq_true];rw [Int.emod_sub_emod,Int.sub_self,Int.zero_emod];omega
 rw [h3 hm g hg,hl];have key:∀ j:Nat,(fmF z [(b,n)])[(((t:Int) - (j:Int)) % (z:Int)).toNat]? = some (decide (((t:Int) - (j:Int) - b) % (z:Int) < n)):=fun j=>by
  have c0:=Int.emod_nonneg ((t:Int) - (j:Int)) (show (z:Int) ≠ 0 by omega);have c1:=Int.emod_lt_of_pos ((t:Int) - (j:Int)) (show 0 < (z:Int) by omega);rw [HG hz ⟨by omega,hn.2⟩ (by omega),Int.toNat_of_nonneg c0,Int.emod_sub_emod]
 constructor
 ·rintro ⟨j,g1,g2⟩;rw [key j] at g2;exact ⟨j,g1,of_decide_eq_true (Option.some.inj g2)⟩
 ·rintro ⟨j,g1,g2⟩;exact ⟨j,g1,by rw [key j,decide_eq_true g2]⟩
end My
namespace My
open PySem L2
theorem Ev {α:Type} (z:Nat) (v:α) (b:Int) (hz:0 < z) (l:List α) (hl:l.length=z):∀ (k:Nat) (i:Nat),i < z→(Ss z v b k l)[i]? = if ∃ j,j < k∧(b - 1 - (j:Int)) % (z:Int)=(i:Int) then some v else l[i]?
 | 0,i,hi=>by rw [if_neg (fun ⟨j,hj,_⟩=>by omega)];rfl
 | k + 1,i,hi=>by
  have ih:=Ev z v b hz l hl k i hi;have h0:=Int.emod_nonneg (b - 1 - (k:Int)) (show (z:Int) ≠ 0 by omega);have h1:=Int.emod_lt_of_pos (b - 1 - (k:Int)) (show 0 < (z:Int) by omega);unfold Ss bH;by_cases c:(b - 1 - (k:Int)) % (z:Int)=(i:Int)
  ·rw [show ((b - 1 - (k:Int)) % (z:Int)).toNat=i by omega,List.getElem?_set_self (by rw [wg,hl];exact hi),if_pos ⟨k,by omega,c⟩]
  ·rw [List.getElem?_set_ne (by omega),ih];by_cases e:∃ j,j < k∧(b - 1 - (j:Int)) % (z:Int)=(i:Int)
   ·obtain ⟨j,hj,ej⟩:=e;rw [if_pos ⟨j,hj,ej⟩,if_pos ⟨j,by omega,ej⟩]
   ·rw [if_neg e,if_neg];rintro ⟨j,hj,ej⟩;by_cases hjk:j=k
    ·subst hjk;exact c ej
    ·exact e ⟨j,by omega,ej⟩
theorem NF {z b i:Int} {n:Int} (hz:0 < z) (hi:0 ≤ i∧i < z) (hn:0 ≤ n∧n ≤ z):(∃ j:Nat,j < n.toNat∧(b - 1 - (j:Int)) % z=i)↔z - n ≤ (i - b) % z:=by
 have h0:=Int.emod_nonneg (i - b) (show z ≠ 0 by omega);have h1:=Int.emod_lt_of_pos (i - b) hz;constructor
 ·rintro ⟨j,hj,e⟩;have:(i - b) % z=z - 1 - j:=by
   rw [← e,Int.emod_sub_emod,show b - 1 - (j:Int) - b=(z - 1 - j) + z * (-1) by omega,Int.add_mul_emod_self_left];exact Int.emod_eq_of_lt (by omega) (by omega)
  omega
 ·intro h;refine ⟨(z - 1 - (i - b) % z).toNat,by omega,?_⟩;rw [Int.toNat_of_nonneg (by omega),show b - 1 - (z - 1 - (i - b) % z)=(b + (i - b) % z) + z * (-1) by omega,Int.add_mul_emod_self_left,Int.add_emod_emod,show b + (i - b)=i by omega];exact Int.emod_eq_of_lt hi.1 hi.2
noncomputable def Qo (z rd fd b n t:Int):Str:=if (t - b) % z < n then Str.ofString "free" else if (t - b) % z < n + fd then Str.ofString "fade" else if z - rd ≤ (t - b) % z then Str.ofString "ready" else Str.ofString "stop"
theorem YE {z:Nat} (hz:0 < z) {rd fd:Nat} {b n:Int} (hn:0 ≤ n∧n + fd + rd ≤ z) {i:Nat} (hi:i < z):(ii z rd fd [(b,n)])[i]? = some (Qo z rd fd b n i):=by
 unfold ii UB;rw [List.foldl_cons,List.foldl_nil];have s0:=Int.emod_nonneg ((i:Int) - b) (show (z:Int) ≠ 0 by omega);have s1:=Int.emod_lt_of_pos ((i:Int) - b) (show 0 < (z:Int) by omega);rw [xl z _ _ hz _ (by rw [Ff,wg,List.length_replicate]) _ _ hi,xl z _ _ hz _ (by rw [wg,List.length_replicate]) _ _ hi,Ev z _ _ hz _ (List.length_replicate ..) _ _ hi];have m1:=eo (z:=z) (b:=b + n) (i:=i) (n:=fd) (by omega) ⟨by omega,by omega⟩ ⟨by omega,by omega⟩;have m2:=eo (z:=z) (b:=b) (i:=i) (n:=n) (by omega) ⟨by omega,by omega⟩ ⟨by omega,by omega⟩;have m3:=NF (z:=z) (b:=b) (i:=i) (n:=rd) (by omega) ⟨by omega,by omega⟩ ⟨by omega,by omega⟩;rw [Int.toNat_natCast] at m1 m3;have f1:((i:Int) - (b + n)) % (z:Int) < fd↔n ≤ ((i:Int) - b) % (z:Int)∧((i:Int) - b) % (z:Int) < n + fd:=by
  have e:((i:Int) - (b + n)) % (z:Int)=(((i:Int) - b) % (z:Int) - n) % (z:Int):=by
   rw [Int.emod_sub_emod,show (i:Int) - (b + n)=(i:Int) - b - n by omega]
  rw [e];by_cases c:n ≤ ((i:Int) - b) % (z:Int)
  ·rw [Int.emod_eq_of_lt (by omega) (by omega)];omega
  ·rw [show ((i:Int) - b) % (z:Int) - n=(((i:Int) - b) % (z:Int) - n + z) + (z:Int) * (-1) by omega,Int.add_mul_emod_self_left,Int.emod_eq_of_lt (by omega) (by omega)];omega
 unfold Qo;by_cases c1:((i:Int) - b) % (z:Int) < n
 ·rw [if_neg (fun h=>by have:=f1.mp (m1.mp h);omega),if_pos (m2.mpr c1),if_pos c1]
 ·by_cases c2:((i:Int) - b) % (z:Int) < n + fd
  ·rw [if_pos (m1.mpr (f1.mpr ⟨by omega,c2⟩)),if_neg c1,if_pos c2]
  ·rw [if_neg (fun h=>by have:=f1.mp (m1.mp h);omega),if_neg (fun h=>c1 (m2.mp h)),if_neg c1,if_neg c2];by_cases c3:(z:Int) - rd ≤ ((i:Int) - b) % (z:Int)
   ·rw [if_pos (m3.mpr c3),if_pos c3]
   ·rw [if_neg (fun h=>c3 (m3.mp h)),if_neg c3,List.getElem?_replicate,if_pos hi]
theorem Pz (z rd fd b n t:Int):Qo z rd fd b n (t % z)=Qo z rd fd b n t:=by
 unfold Qo;rw [Int.emod_sub_emod]
theorem rC {z:Int} {ds:List WD} {sp:List SD} (hu:∀ (i j:Nat) (s e:SD),sp[i]? = some s→sp[j]? = some e→s.name=e.name→i=j) (h:∀ s ∈ sp,∃ d,wOf ds s.name=some d∧d.least ≤ s.n∧s.n + qf d + Yc d ≤ z):qv ds z sp=none:=by
 unfold qv;refine List.find?_eq_none.mpr fun e he=>?_
 obtain ⟨s,k⟩:=e;have hk:sp[k]? = some s:=by simpa using List.mem_zipIdx_iff_getElem?.mp he
 obtain ⟨d,hw,hl,hr⟩:=h s (List.mem_of_getElem? hk);intro c;unfold br at c;dsimp only at c;rw [hw] at c;have c:(decide (s.n < d.least) || decide (nz z sp k s < s.n + qf d + Yc d))=true:=c;rw [decide_eq_false (show ¬ s.n < d.least by omega),Bool.false_or,decide_eq_true_eq] at c;have hn:ofN s.name (sp.eraseIdx k)=[]:=by
  cases e:ofN s.name (sp.eraseIdx k) with
  | nil=>rfl
  | cons p ps=>
   have hp:p ∈ ofN s.name (sp.eraseIdx k):=by rw [e];exact List.mem_cons_self ..
   obtain ⟨x,hx,en,_⟩:=zw hp;obtain ⟨j,hj,ej⟩:=List.mem_eraseIdx_iff_getElem?.mp hx;exact absurd (hu j k x s ej hk en) hj
 unfold nz at c;rw [hn] at c;have c:z < s.n + qf d + Yc d:=c;omega
theorem zK {sp:List SD} (hu:∀ (i j:Nat) (s e:SD),sp[i]? = some s→sp[j]? = some e→s.name=e.name→i=j) {i:Nat} {s:SD} (hs:sp[i]? = some s):ofN s.name sp=[(s.b,s.n)]:=by
 have:∀ (l:List SD) (i:Nat),(∀ (a b:Nat) (s e:SD),l[a]? = some s→l[b]? = some e→s.name=e.name→a=b)→l[i]? = some s→l.filter (fun d=>decide (d.name=s.name))=[s]:=fun l=>by
  induction l with
  | nil=>intro i _ h;simp at h
  | cons x l ih=>
   intro i hu h
   match i,h with
   | 0,h=>
    cases (show x=s by simpa using h);rw [List.filter_cons_of_pos (by simp),List.filter_eq_nil_iff.mpr];intro e he z;obtain ⟨j,hj⟩:=List.getElem?_of_mem he;have:=hu (j + 1) 0 e s (by rw [List.getElem?_cons_succ];exact hj) rfl (of_decide_eq_true z);omega
   | i + 1,h=>
    rw [List.getElem?_cons_succ] at h;rw [List.filter_cons_of_neg]
    ·exact ih i (fun a b s e ha hb en=>by have:=hu (a + 1) (b + 1) s e (by rw [List.getElem?_cons_succ];exact ha) (by rw [List.getElem?_cons_succ];exact hb) en;omega) h
    ·intro z;have:=hu 0 (i + 1) x s rfl (by rw [List.getElem?_cons_succ];exact h) (of_decide_eq_true z);omega
 unfold ofN;rw [this sp i hu hs];rfl
theorem uE {z:Nat} (hz:0 < z):∀ (ps:List (Int × Int)),(∀ p ∈ ps,0 ≤ p.2∧p.2 ≤ z)→∀ (l:List Bool),l.length=z→∀ {i:Nat},i < z →
  (ps.foldl (fun l p=>fw z true p.1 p.2.toNat l) l)[i]? = some ((ps.any fun p=>decide (((i:Int) - p.1) % (z:Int) < p.2)) || l[i]?.getD false)
 | [],_,l,hl,i,hi=>by
  rw [List.foldl_nil,List.any_nil,Bool.false_or,List.getElem?_eq_getElem (by omega)];rfl
 | p :: ps,h,l,hl,i,hi=>by
  have hp:=h p (List.mem_cons_self ..);rw [List.foldl_cons,uE hz ps (fun q hq=>h q (List.mem_cons_of_mem _ hq)) _ (by rw [Ff,hl]) hi,xl z true p.1 hz l hl _ _ hi,List.any_cons];have:=eo (z:=z) (b:=p.1) (i:=i) (n:=p.2) (by omega) ⟨by omega,by omega⟩ hp;by_cases c:((i:Int) - p.1) % (z:Int) < p.2
  ·rw [if_pos (this.mpr c),decide_eq_true c];simp
  ·rw [if_neg (fun e=>c (this.mp e)),decide_eq_false c,Bool.false_or]
theorem BJ {z:Nat} (hz:0 < z) {ps:List (Int × Int)} (h:∀ p ∈ ps,0 ≤ p.2∧p.2 ≤ z) {i:Nat} (hi:i < z):(fmF z ps)[i]? = some (ps.any fun p=>decide (((i:Int) - p.1) % (z:Int) < p.2)):=by
 unfold fmF;rw [uE hz ps h _ (List.length_replicate ..) hi,List.getElem?_replicate,if_pos hi];simp
noncomputable def Bm (z t:Int) (p:Int × Int):Int:=if (t - p.1) % z < p.2 then 0 else z - (t - p.1) % z
noncomputable def xz (z t:Int) (ps:List (Int × Int)):Int:=ps.foldl (fun b p=>min b (Bm z t p)) z
theorem Xm {z t:Int} (hz:0 < z) (p:Int × Int):0 ≤ Bm z t p∧Bm z t p ≤ z:=by
 have h0:=Int.emod_nonneg (t - p.1) (show z ≠ 0 by omega);have h1:=Int.emod_lt_of_pos (t - p.1) hz;unfold Bm;split <;> omega
theorem Tx {z t g:Int} (hz:0 < z) {p:Int × Int} (hp:1 ≤ p.2∧p.2 ≤ z) (hg:0 ≤ g):Bm z t p ≤ g↔∃ j:Nat,(j:Int) ≤ g∧(t + (j:Int) - p.1) % z < p.2:=by
 have h0:=Int.emod_nonneg (t - p.1) (show z ≠ 0 by omega);have h1:=Int.emod_lt_of_pos (t - p.1) hz;have step:∀ j:Int,(t + j - p.1) % z=((t - p.1) % z + j) % z:=fun j=>by
  rw [Int.emod_add_emod,show t + j - p.1=t - p.1 + j by omega]
 unfold Bm;by_cases c:(t - p.1) % z < p.2
 ·rw [if_pos c];exact ⟨fun _=>⟨0,by omega,by rw [step,Int.natCast_zero,Int.add_zero,Int.emod_emod_of_dvd _ (Int.dvd_refl _)];exact c⟩,fun _=>hg⟩
 ·rw [if_neg c];constructor
  ·intro h;refine ⟨(z - (t - p.1) % z).toNat,by omega,?_⟩;rw [step,Int.toNat_of_nonneg (by omega),show (t - p.1) % z + (z - (t - p.1) % z)=z by omega,Int.emod_self];omega
  ·rintro ⟨j,hj,h⟩;by_cases d:(t - p.1) % z + j < z
   ·rw [step,Int.emod_eq_of_lt (by omega) d] at h;omega
   ·omega
theorem Js (z t g:Int):∀ (ps:List (Int × Int)) (b:Int),ps.foldl (fun b p=>min b (Bm z t p)) b ≤ g↔b ≤ g∨∃ p ∈ ps,Bm z t p ≤ g
 | [],b=>by simp
 | p :: ps,b=>by
  rw [List.foldl_cons,Js z t g ps];simp only [List.mem_cons,exists_eq_or_imp];rw [show min b (Bm z t p) ≤ g↔b ≤ g∨Bm z t p ≤ g by omega,or_assoc]
theorem Mu {z t:Int} (hz:0 < z) (ps:List (Int × Int)):0 ≤ xz z t ps:=by
 have:¬ xz z t ps ≤ -1:=fun h=>by
  rcases (Js z t (-1) ps z).mp h with h | ⟨p,_,h⟩
  ·omega
  ·have:=Xm (t:=t) hz p;omega
 omega
theorem Hz {z:Nat} (hz:0 < z) {ps:List (Int × Int)} (h:∀ p ∈ ps,1 ≤ p.2∧p.2 ≤ z) (hne:ps ≠ []) {t:Nat} (ht:t < z):(Pj (fmF z ps))[t]? = some (xz z t ps):=by
 have hl:(fmF z ps).length=z:=Yi _ _;have hh:∀ p ∈ ps,0 ≤ p.2∧p.2 ≤ z:=fun p hp=>⟨by have:=h p hp;omega,(h p hp).2⟩
 have key:∀ j:Nat,(fmF z ps)[(t + j) % z]? = some (ps.any fun p=>decide (((t:Int) + (j:Int) - p.1) % (z:Int) < p.2)):=fun j=>by
  rw [BJ hz hh (Nat.mod_lt _ hz)];congr 2;funext p;rw [Int.natCast_emod,Int.emod_sub_emod,Int.natCast_add]
 obtain ⟨p0,r0,rfl⟩:=List.exists_cons_of_ne_nil hne;have hm:∃ i,i < (fmF z (p0 :: r0)).length∧(fmF z (p0 :: r0))[i]? = some true:=by
  have hb0:=Int.emod_nonneg p0.1 (show (z:Int) ≠ 0 by omega);have hb1:=Int.emod_lt_of_pos p0.1 (show 0 < (z:Int) by omega);refine ⟨(p0.1 % (z:Int)).toNat,by rw [hl];omega,?_⟩;rw [BJ hz hh (by omega),List.any_cons,Int.toNat_of_nonneg hb0,Int.emod_sub_emod,Int.sub_self,Int.zero_emod,decide_eq_true (by have:=h p0 (List.mem_cons_self ..);omega),Bool.true_or]
 rw [zy (by rw [hl];exact ht)];congr 1;have ul:=Qy hm (t:=t) (by rw [hl];exact ht);rw [hl] at ul ⊢;have all:∀ g:Int,0 ≤ g→(Me (fmF z (p0 :: r0)) (2 * z - t) ≤ g↔xz z t (p0 :: r0) ≤ g):=fun g hg=>by
  rw [ul g hg];unfold xz;rw [Js];constructor
  ·rintro ⟨j,hj,e⟩;rw [key j,Option.some.injEq,List.any_eq_true] at e;obtain ⟨p,hp,e⟩:=e;exact .inr ⟨p,hp,(Tx (by omega) (h p hp) hg).mpr ⟨j,hj,of_decide_eq_true e⟩⟩
  ·intro e;have e:∃ p ∈ p0 :: r0,Bm z t p ≤ g:=by
    rcases e with e | e
    ·exact ⟨p0,List.mem_cons_self ..,by have:=(Xm (z:=z) (t:=t) (by omega) p0).2;omega⟩
    ·exact e
   obtain ⟨p,hp,e⟩:=e;obtain ⟨j,hj,e⟩:=(Tx (by omega) (h p hp) hg).mp e;exact ⟨j,hj,by rw [key j,Option.some.injEq,List.any_eq_true];exact ⟨p,hp,decide_eq_true e⟩⟩
 have a1:=lg (fmF z (p0 :: r0)) (2 * z - t);have a2:=Mu (z:=z) (t:=t) (by omega) (p0 :: r0);have b1:=(all _ a2).mpr (Int.le_refl _);have b2:=(all _ a1).mp (Int.le_refl _);omega
theorem FN {ds:List WD} {sp:List SD} (h:∀ d ∈ ds,∃ s ∈ sp,s.name=d.name):Gu ds sp=none:=by
 unfold Gu;refine List.find?_eq_none.mpr fun x hx=>?_
 obtain ⟨d,hd,rfl⟩:=List.mem_map.mp hx;obtain ⟨s,hs,e⟩:=h d hd;intro z;have:ofN d.name sp=[]:=by simpa using z
 have m:(s.b,s.n) ∈ ofN d.name sp:=List.mem_map.mpr ⟨s,List.mem_filter.mpr ⟨hs,by simpa using e⟩,rfl⟩;rw [this] at m;cases m
end My
namespace My
open PySem L2
theorem vN {n:Int} {z:Nat} {ds:List WD} {sp:List SD} (h:∀ d ∈ ds,∀ e ∈ ds,d.name ≠ e.name→mt n d e=false):vv n z sp ds=none:=by
 unfold vv;refine List.findSome?_eq_none_iff.mpr fun d hd=>?_
 unfold MB;refine List.findSome?_eq_none_iff.mpr fun e he=>?_
 unfold Yr;rw [if_neg]
 ·rfl
 ·rintro ⟨hn,hm⟩;rw [h d hd e he hn] at hm;cases hm
theorem Kv {z:Nat} {R:Int→Bool} (hR:∀ x,R (x + z)=R x):∀ B:Nat,((ts0 z).filter fun t=>R (t + (B:Int))).length=((ts0 z).filter R).length:=by
 have e0:∀ f:Int→Bool,((ts0 z).filter f).length=((List.range z).filter fun k:Nat=>f (k:Int)).length:=fun f=>by
  unfold ts0;rw [List.filter_map,List.length_map];rfl
 have one:∀ f:Int→Bool,(∀ x,f (x + z)=f x)→((List.range z).filter fun k:Nat=>f ((k:Int) + 1)).length=((List.range z).filter fun k:Nat=>f (k:Int)).length:=fun f hf=>by
  have a:((List.range (z + 1)).filter fun k:Nat=>f (k:Int)).length=((List.range z).filter fun k:Nat=>f (k:Int)).length + (if f 0=true then 1 else 0):=by
   rw [List.range_succ,List.filter_append,List.length_append];have:f (z:Int)=f 0:=by have:=hf 0;rwa [Int.zero_add] at this
   cases h:f 0 <;> simp [this,h]
  have b:((List.range (z + 1)).filter fun k:Nat=>f (k:Int)).length=(if f 0=true then 1 else 0) + ((List.range z).filter fun k:Nat=>f ((k:Int) + 1)).length:=by
   rw [List.range_succ_eq_map,List.filter_cons,List.filter_map];have c:((fun k:Nat=>f (k:Int)) ∘ Nat.succ)=fun k:Nat=>f ((k:Int) + 1):=by
    funext k;show f ((Nat.succ k:Nat):Int)=_;rw [Int.natCast_succ]
   rw [c];cases h:f 0
   ·simp [h]
   ·simp [h];omega
  omega
 intro B
 induction B with
 | zero=>simp
 | succ n ih=>
  rw [← ih,e0,e0];have:=one (fun x=>R (x + (n:Int))) (fun x=>by
   show R (x + z + n)=R (x + n);rw [show x + z + (n:Int)=(x + n) + z by omega,hR])
  rw [← this];congr 1;refine List.filter_congr fun k _=>?_
  rw [show ((k:Int) + ((n + 1:Nat):Int))=(k:Int) + 1 + (n:Int) by omega]
noncomputable def nxF (z:Nat) (l:LD) (x:Int):Int:=x + ((Bi z l.sp l.d.name)[(x % (z:Int)).toNat]?).getD 0
noncomputable def nxK (z:Nat) (ls:List LD) (k:Nat) (x:Int):Int:=((ls[k]?).map fun l=>nxF z l x).getD x
noncomputable def thr (nx:Nat→Int→Int) (fs sh:List Int) (turn:Int):Nat→Int
 | 0=>turn
 | k + 1=>nx k ((if k=0 then turn else thr nx fs sh turn k + fs.getD (k - 1) 0) - sh.getD k 0) + sh.getD k 0
noncomputable def thS (nx:Nat→Int→Int) (fs sh:List Int) (turn:Int) (k:Nat):Int:=if k=0 then turn else thr nx fs sh turn k + fs.getD (k - 1) 0
theorem zF (nx:Nat→Int→Int) (fs sh:List Int) (turn:Int) (k:Nat):thr nx fs sh turn (k + 1)=nx k (thS nx fs sh turn k - sh.getD k 0) + sh.getD k 0:=rfl
noncomputable def thL (nx:Nat→Int→Int) (fs sh:List Int) (turn:Int) (n:Nat):List Int:=(List.range n).map fun k=>thr nx fs sh turn (k + 1)
theorem gF (nx:Nat→Int→Int) (fs sh:List Int) (turn:Int) (n:Nat):thL nx fs sh turn (n + 1)=thL nx fs sh turn n ++ [thr nx fs sh turn (n + 1)]:=by unfold thL;rw [List.range_succ,List.map_append];rfl
theorem iE (nx:Nat→Int→Int) (fs sh:List Int) (turn:Int) (n:Nat):(thL nx fs sh turn n).length=n:=by unfold thL;simp
noncomputable def dW:WD:=⟨1,Str.ofString "way",0,2,0,0,1⟩
noncomputable def Ko (b n:Int):List SD:=[⟨Str.ofString "way",b,n⟩]
theorem Oy (b n:Int):∀ (i j:Nat) (s e:SD),(Ko b n)[i]? = some s→(Ko b n)[j]? = some e→s.name=e.name→i=j:=fun i j s e hi hj _=>by
 have h1:=(List.getElem?_eq_some_iff.mp hi).1;have h2:=(List.getElem?_eq_some_iff.mp hj).1;have l:(Ko b n).length=1:=rfl;omega
theorem of1 (b n:Int):ofN (Str.ofString "way") (Ko b n)=[(b,n)]:=zK (s:=⟨Str.ofString "way",b,n⟩) (Oy b n) (i:=0) rfl
theorem qM {z:Nat} (hz:0 < z) {b n:Int} (hn:1 ≤ n∧n ≤ z) (x:Int):jf z (Ko b n) dW x=decide ((x - b) % (z:Int) < n):=by
 have m0:=Int.emod_nonneg x (show (z:Int) ≠ 0 by omega);have m1:=Int.emod_lt_of_pos x (show (0:Int) < z by omega);have key:=YE (z:=z) (by omega) (rd:=0) (fd:=0) (b:=b) (n:=n) (by omega) (i:=(x % (z:Int)).toNat) (by omega);unfold jf Tm Vt;rw [show dW.name=Str.ofString "way" from rfl,of1,show (Yc dW).toNat=0 from rfl,show (qf dW).toNat=0 from rfl,key,Int.toNat_of_nonneg m0,Pz];show decide (Qo _ _ _ _ _ _=_)=_;unfold Qo;by_cases c:(x - b) % (z:Int) < n
 ·rw [if_pos c,decide_eq_true c,decide_eq_true rfl]
 ·rw [if_neg c,decide_eq_false c];refine decide_eq_false ?_;split
  ·decide
  ·split <;> decide
theorem YK {z:Nat} (hz:0 < z) {b n:Int} (hn:1 ≤ n∧n ≤ z) (x:Int):∃ v,(Bi z (Ko b n) dW.name)[(x % (z:Int)).toNat]? = some v:=by
 have m0:=Int.emod_nonneg x (show (z:Int) ≠ 0 by omega);have m1:=Int.emod_lt_of_pos x (show (0:Int) < z by omega);have hl:(Bi z (Ko b n) dW.name).length=z:=by unfold Bi;rw [jj,Yi]
 exact ⟨_,List.getElem?_eq_getElem (by rw [hl];omega)⟩
theorem fH (n:Nat):∀ z:Nat,n ≤ z→((List.range z).filter fun k=>decide (k < n)).length=n
 | 0,h=>by
  have:n=0:=by omega
  subst this;rfl
 | z + 1,h=>by
  rw [List.range_succ,List.filter_append,List.length_append];by_cases c:n ≤ z
  ·rw [fH n z c,List.filter_cons_of_neg (by simpa using c)];rfl
  ·have e:n=z + 1:=by omega
   subst e;rw [List.filter_eq_self.mpr (fun k hk=>by have:=List.mem_range.mp hk;simp;omega),List.length_range,List.filter_cons_of_pos (by simp)];rfl
theorem YH {z:Nat} (hz:0 < z) {n:Nat} (hn:n ≤ z) (x:Int):((ts0 z).filter fun t=>decide ((t + x) % (z:Int) < n)).length=n:=by
 have h0:=Int.emod_nonneg x (show (z:Int) ≠ 0 by omega);have:=Kv (z:=z) (R:=fun t=>decide (t % (z:Int) < n)) (fun t=>by rw [Int.add_emod_right]) (x % (z:Int)).toNat;rw [Int.toNat_of_nonneg h0] at this;have e:((ts0 z).filter fun t=>decide ((t + x) % (z:Int) < n))=(ts0 z).filter fun t=>decide ((t + x % (z:Int)) % (z:Int) < n):=List.filter_congr fun t _=>by rw [Int.add_emod_emod]
 rw [e,this];unfold ts0;rw [List.filter_map,List.length_map];have e2:((List.range z).filter ((fun t:Int=>decide (t % (z:Int) < n)) ∘ fun k:Nat=>(k:Int)))=(List.range z).filter fun k=>decide (k < n):=List.filter_congr fun k hk=>by
  have hk:=List.mem_range.mp hk;show decide ((k:Int) % (z:Int) < n)=_;rw [Int.emod_eq_of_lt (by omega) (by omega)];exact decide_eq_decide.mpr (by omega)
 rw [e2,fH n z hn]
noncomputable def mJ (z:Nat) (ls:List LD) (bn:List (Int × Int)):Prop:=ls.length=bn.length∧∀ (k:Nat) (l:LD) (p:Int × Int),ls[k]? = some l→bn[k]? = some p→l.sp=Ko p.1 p.2∧l.d=dW∧l.e=dW∧1 ≤ p.2∧p.2 ≤ z
theorem EK {z:Nat} (hz:0 < z) {ls:List LD} {bn:List (Int × Int)} (L:mJ z ls bn) {f:LD→WD} (hf:∀ (k:Nat) (l:LD),ls[k]? = some l→f l=dW) (off:Nat→Int) {k:Nat} {p:Int × Int} (hp:bn[k]? = some p):(((ts0 z).filter (gA (frK z ls f) off ls.length)).length:Int) ≤ p.2:=by
 have hk:k < ls.length:=by rw [L.1];exact (List.getElem?_eq_some_iff.mp hp).1
 have hl:ls[k]? = some ls[k]:=List.getElem?_eq_getElem hk;obtain ⟨e1,e2,e3,n1,n2⟩:=L.2 k _ p hl hp;have c:=YH hz (n:=p.2.toNat) (by omega) (off k - p.1);have h:((ts0 z).filter (gA (frK z ls f) off ls.length)).length ≤ ((ts0 z).filter fun t=>decide ((t + (off k - p.1)) % (z:Int) < (p.2.toNat:Nat))).length:=by
  rw [← List.countP_eq_length_filter,← List.countP_eq_length_filter];refine List.countP_mono_left fun t _ ht=>?_
  have a:=List.all_eq_true.mp (show (List.range ls.length).all (fun k=>frK z ls f k (t + off k))=true from ht) k (List.mem_range.mpr hk);unfold frK at a;rw [hl] at a;have a:jf z ls[k].sp (f ls[k]) (t + off k)=true:=a;rw [e1,hf k _ hl,qM hz ⟨n1,n2⟩] at a;have a:=of_decide_eq_true a;refine decide_eq_true ?_;rw [show t + (off k - p.1)=t + off k - p.1 by omega];omega
 omega
theorem mJ.grF {z:Nat} (hz:0 < z) {ls:List LD} {bn:List (Int × Int)} (L:mJ z ls bn) (fs sh:List Int) {k:Nat} {p:Int × Int} (hp:bn[k]? = some p):((grF z ls fs sh ls.length).length:Int) ≤ p.2:=
 EK hz L (fun k l hl=>(L.2 k l _ hl (List.getElem?_eq_getElem (by rw [← L.1];exact (List.getElem?_eq_some_iff.mp hl).1))).2.1) _ hp
theorem mJ.grB {z:Nat} (hz:0 < z) {ls:List LD} {bn:List (Int × Int)} (L:mJ z ls bn) (bs sh:List Int) {k:Nat} {p:Int × Int} (hp:bn[k]? = some p):((grB z ls bs sh ls.length).length:Int) ≤ p.2:=
 EK hz L (fun k l hl=>(L.2 k l _ hl (List.getElem?_eq_getElem (by rw [← L.1];exact (List.getElem?_eq_some_iff.mp hl).1))).2.2.1) _ hp
theorem uG {xs:List V} {k:Nat} (h:k ≤ xs.length):QE xs (some ((k:Nat):Int)) none=xs.drop k:=by
 unfold QE;rw [HT.sIx_none,HT.sIx_nat,Nat.min_eq_left h];exact List.take_of_length_le (by rw [List.length_drop];exact Nat.le_refl _)
theorem CI {i:Int} (h:i.natAbs < 10 ^ 12):i.natAbs.log2 < 1920:=by
 by_cases h0:i.natAbs=0
 ·rw [h0];decide
 ·exact (Nat.log2_lt h0).mpr (Nat.lt_trans h (by decide))
end My
namespace My
open PySem L2
noncomputable def vL (t:Adr):Sp:=fun vs H Q _=>∃ (pl c:Addr) (n:Int) (ds:List WD) (z:Nat) (sp:List SD) (d:WD) (turn v:Int),vs=[.ref pl,.str d.name,.int turn]∧Tg t H pl c n ds z sp∧0 < z∧d ∈ ds∧(Bi z sp d.name)[(turn % (z:Int)).toNat]? = some v∧Q (.int (turn + v)) H
noncomputable def FG (t:Adr):Sp:=fun vs H Q _=>∃ lp fp hp z ls fs sh turn,vs=[.ref lp,.ref fp,.ref hp,.int turn]∧Dj t H z lp ls∧H fp=some (.lst (Yb fs))∧H hp=some (.lst (Yb sh))∧fs.length + 1=ls.length∧sh.length=ls.length∧ls.length ≤ 10∧0 < z∧(∀ l ∈ ls,∀ x:Int,∃ v,(Bi z l.sp l.d.name)[(x % (z:Int)).toNat]? = some v)∧NoT H∧∀ p H',Ob H H'→NoT H'→H p=none→H' p=some (.lst (Yb (thL (nxK z ls) fs sh turn ls.length)))→Q (.ref p) H'
section
variable {P:Program} {w:World} {K:PySem.W.Frag} {mg:Str→Option Value} {base:Heap} {t:Adr}
theorem zM (T:Txt w K mg t):Eb P w K mg base CX0 3 t.Xh t.ei q9 (vL t):=by
 have g0:Eb P w K mg base CX0 2 t.Hb t.Nb q8 (Rf t):=vg T;refine T.wk.ok yv (fun vs H Q E h=>?_) (fun _ _ _ s H vs Q E hr h=>?_)
 ·obtain ⟨pl,c,n,ds,z,sp,d,turn,v,rfl,_⟩:=h;rfl
 obtain ⟨pl,c,n,ds,z,sp,d,turn,v,rfl,PA,hz,hd,hv,q⟩:=h;obtain ⟨dx,p,lm,un,hpl,C,_,_,NU⟩:=PA.at_;obtain ⟨⟨hnd,_⟩,dxc,wl,nd,e1,_,_⟩:=id C;obtain ⟨i,hi⟩:=List.getElem?_of_mem hd;have hu:=Sw hr;refine ⟨_,(fb (Uc (qd (Ub (pv 0) rfl) T.Fb T.Sb g0 hr T.Rb .nil Rc (cb (pv 1) gb)))
   (lb (Db (bc Zd (pv 2) (uc Vc (zo hu (Ub (pv 0) rfl) (pv 1) (fun _ _=>rfl)) (bc gg (pv 2) (Ub (pv 0) rfl))))))),?_⟩
 walk_at "RD";refine ⟨_,Vo T hpl,_,rfl,_,_,e1,Qw _ _ _ (by decide +kernel),c,n,ds,i,d,rfl,C,hi,fun a W=>?_⟩;obtain ⟨r,hg,hr'⟩:=NU.get hnd hi;have h0:=Int.emod_nonneg turn (show (z:Int) ≠ 0 by omega);walk_at "RD";refine ⟨_,gv T hpl,_,rfl,_,hg,_,Qp T hpl,_,rfl,by omega,_,rfl,_,SqL.of hr',.int v,?_,_,rfl,q⟩;have e:=Fc (xs:=(Bi z sp d.name).map V.int) (j:=(turn % (z:Int)).toNat) (v:=.int v) (by rw [List.getElem?_map,hv];rfl);rwa [Int.toNat_of_nonneg h0] at e
theorem DJ (T:Txt w K mg t):Eb P w K mg base CX0 4 t.Jk t.Nl q32 (FG t):=by
 have g58:Eb P w K mg base CX0 3 t.Xh t.ei q9 (vL t):=zM T;refine T.Ho.ok Sd (fun vs H Q E h=>?_) (fun _ _ _ s H vs Q E hr h=>?_)
 ·obtain ⟨lp,fp,hp,z,ls,fs,sh,turn,rfl,_⟩:=h;rfl
 obtain ⟨lp,fp,hp,z,ls,fs,sh,turn,rfl,⟨⟨qs,l1,lq⟩,al⟩,ef,eh,hfl,hhl,hln,hz,hv,nt,q⟩:=h;have hql:qs.length=ls.length:=by rw [lq.1,List.length_map]
 refine ⟨_,(fb (yb (i:=4) Sd.nd (dg gb))
   (fb (yb (i:=5) Sd.nd (pv 3))
   (fb (fe PassesOwn.never rfl (Ak rfl T.Ke (cb (pv 0) gb)) (Hd (K:=K) (n:=2) rfl rfl (zb (qb (i:=6) Sd.nd) (zb (qb (i:=7) Sd.nd) Ed))) (fb (Fl (pv 7) (Hd (K:=K) (n:=3) rfl rfl (zb (qb (i:=8) Sd.nd) (zb (qb (i:=9) Sd.nd) (zb (qb (i:=10) Sd.nd) Ed)))))
   (fb (Se (Zb jv (pv 6) rb (Vb _)) (lb (YA (i:=5) Sd.nd rfl (Or.inl rfl) (uc Vc (pv 1) (bc Wf (pv 6) rb)) DG)) jc)
   (fb (yb (i:=5) Sd.nd (bc Zd (ub g58 hr T.Rw T.wk.kp T.ow (cb (pv 8) (cb (pv 9) (cb (bc Wf (pv 5) (uc Vc (pv 2) (pv 6))) gb)))) (uc Vc (pv 2) (pv 6))))
   (lb (Uc (Tu PySem.F.plainAttrs_list PySem.F.slot_list_append PySem.F.type_list_append Mh (pv 4) (cb (pv 5) gb))))))))
   (lb (Db (pv 4)))))),?_⟩
 walk_at "RD";refine ⟨Nat.zero_le _,fun r hr0=>?_⟩;have sr:Ob H (upd H r (.lst [])):=jb hr0;refine ⟨⟨_,SqL.of (sr _ _ l1)⟩,?_⟩;refine Ei.enum (xs:=qs.map V.ref) (fun i σ H'=>Ob H H'∧NoT H'∧H' r=some (.lst (Yb (thL (nxK z ls) fs sh turn i)))∧∃ x6 x7 x8 x9 x10,σ=[some (.ref lp),some (.ref fp),some (.ref hp),some (.int turn),some (.ref r),some (.int (thr (nxK z ls) fs sh turn i)),x6,x7,x8,x9,x10]) ?_ ?_ ?_ ?_
 ·exact ⟨sr,nt.upd,db,_,_,_,_,_,rfl⟩
 ·rintro i σ H' hi ⟨sm,_⟩;exact SqL.of (sm _ _ l1)
 ·rintro i v σ H0 p1 hv' ⟨sm0,nt0,o1,x6,x7,x8,x9,x10,rfl⟩ hp1;obtain ⟨qi,hqi,rfl⟩:=Xb hv';have hil:i < ls.length:=by rw [← hql];exact (List.getElem?_eq_some_iff.mp hqi).1
  have hli:ls[i]? = some ls[i]:=List.getElem?_eq_getElem hil;have eq:H qi=some (lO ls[i]):=lq.2 i _ _ hqi (by rw [List.getElem?_map,hli];rfl);have ok:=al ls[i] (List.mem_of_getElem? hli);have s1:Ob H0 (upd H0 p1 (.tup [.int i,.ref qi])):=jb hp1;have n1:NoT (upd H0 p1 (.tup [.int i,.ref qi])):=nt0.upd;refine Xf ?_;generalize upd H0 p1 (.tup [.int i,.ref qi])=H1 at s1 n1 ⊢;have sm1:=sm0.trans s1;have o1':=s1 _ _ o1;simp only [Kb,List.set_cons_succ,List.set_cons_zero];refine zzC (fun σ' H'=>H'=H1∧σ'=[some (.ref lp),some (.ref fp),some (.ref hp),some (.int turn),some (.ref r),some (.int (thr (nxK z ls) fs sh turn i)),some (.int (i:Nat)),some (.ref qi),some (.ref ls[i].pl),some (.str ls[i].d.name),some (.str ls[i].e.name)]) (fun D' hD=>?_) fun zzM zzh=>?_
  ·walk_at "RD";exact ⟨_,SqT.of (sm1 _ _ eq),rfl,_,_,rfl,_,_,rfl,_,_,rfl,rfl,hD _ _ ⟨rfl,rfl⟩⟩
  rintro σ2 H2 ⟨rfl,rfl⟩;subst zzh;simp only [Kb];refine zzC (fun σ' H'=>H'=H2∧σ'=[some (.ref lp),some (.ref fp),some (.ref hp),some (.int turn),some (.ref r),some (.int (thS (nxK z ls) fs sh turn i)),some (.int (i:Nat)),some (.ref qi),some (.ref ls[i].pl),some (.str ls[i].d.name),some (.str ls[i].e.name)]) (fun D' hD=>?_) fun zzM zzh=>?_
  ·refine zc (decide (0 < i)) (fun Q hQ=>?_) (fun hb=>?_) (fun hb=>?_)
   ·walk_at "RD";rw [show decide ((i:Int) > 0)=decide (0 < i) by rw [Bool.eq_iff_iff,decide_eq_true_eq,decide_eq_true_eq];omega];exact hQ
   ·have hb:=of_decide_eq_true hb;have hfi:fs[i - 1]? = some (fs.getD (i - 1) 0):=by rw [List.getD_eq_getElem?_getD,List.getElem?_eq_getElem (by omega)];rfl
    walk_at "RD";refine ⟨_,SqL.of (sm1 _ _ ef),_,by rw [show (i:Int) - 1=((i - 1:Nat):Int) by omega];exact Fc (Pn hfi),_,_,rfl,rfl,hD _ _ ⟨rfl,?_⟩⟩;unfold thS;rw [if_neg (by omega)]
   ·have hb:=of_decide_eq_false hb;have hi0:i=0:=by omega
    subst hi0;walk_at "RD";exact hD _ _ ⟨rfl,rfl⟩
  rintro σ3 H3 ⟨rfl,rfl⟩;have hsi:sh[i]? = some (sh.getD i 0):=by rw [List.getD_eq_getElem?_getD,List.getElem?_eq_getElem (by omega)];rfl
  have hs':=Fc (Pn hsi);obtain ⟨v,hvv⟩:=hv ls[i] (List.mem_of_getElem? hli) (thS (nxK z ls) fs sh turn i - sh.getD i 0);have eth:thr (nxK z ls) fs sh turn (i + 1)=thS (nxK z ls) fs sh turn i - sh.getD i 0 + v + sh.getD i 0:=by
   rw [zF];generalize thS (nxK z ls) fs sh turn i - sh.getD i 0=y at hvv ⊢;have:nxK z ls i y=y + v:=by
    unfold nxK nxF;rw [hli];show y + ((Bi z ls[i].sp ls[i].d.name)[_]?).getD 0=_;rw [hvv];rfl
   rw [this]
  subst zzh;simp only [Kb];refine zzC (fun σ' H'=>H'=H3∧σ'=[some (.ref lp),some (.ref fp),some (.ref hp),some (.int turn),some (.ref r),some (.int (thr (nxK z ls) fs sh turn (i + 1))),some (.int (i:Nat)),some (.ref qi),some (.ref ls[i].pl),some (.str ls[i].d.name),some (.str ls[i].e.name)]) (fun D' hD=>?_) fun zzM zzh=>?_
  ·walk_at "RD";refine ⟨_,SqL.of (sm1 _ _ eh),_,hs',_,rfl,_,_,_,_,z,_,_,_,v,rfl,ok.1.same sm1,hz,ok.2.1,hvv,_,SqL.of (sm1 _ _ eh),_,hs',_,rfl,_,rfl,?_⟩;rw [← eth];exact hD _ _ ⟨rfl,rfl⟩
  rintro σ4 H4 ⟨rfl,rfl⟩;subst zzh;walk_at "RD";refine ⟨.inl ⟨_,SqL.of o1'⟩,_,o1',Nat.lt_of_le_of_lt (show (Yb (thL (nxK z ls) fs sh turn i)).length ≤ 10 by rw [Cd,iE];omega) (by decide),sm1.updN hr0,n1.upd,?_,?_⟩
  ·rw [db,gF];unfold Yb;rw [List.map_append];rfl
  ·exact ⟨_,rfl⟩
 ·rintro σ H' zzq;refine zP fun zzM zzh=>?_
  obtain ⟨sm,nt',o1,x6,x7,x8,x9,x10,rfl⟩:=zzq;subst zzh;rw [List.length_map,hql] at o1;walk_at "RD";exact q r H' sm nt' hr0 o1
end
end My
namespace My
open PySem L2
noncomputable abbrev R3:=Int × Int × List Int
noncomputable def mnI (x y:Int):Int:=if y < x then y else x
noncomputable def gtW (r s:R3):Bool:=HT.lexLt [mnI s.1 s.2.1,s.1 + s.2.1] [mnI r.1 r.2.1,r.1 + r.2.1]
theorem DN (x y x' y':Int):HT.lexLt [x,y] [x',y']=decide (x < x'∨(x=x'∧y < y')):=by
 rw [HT.lexLt_cons,HT.lexLt_cons,HT.lexLt_nil_nil,Bool.eq_iff_iff];split
 ·split
  ·simp;omega
  ·simp;omega
 ·simp;omega
theorem qk (r s:R3):gtW r s=true↔(mnI s.1 s.2.1 < mnI r.1 r.2.1∨(mnI s.1 s.2.1=mnI r.1 r.2.1∧s.1 + s.2.1 < r.1 + r.2.1)):=by
 unfold gtW;rw [DN,decide_eq_true_eq]
noncomputable def ug (f:Nat→R3):Nat→R3
 | 0=>f 0
 | k + 1=>if gtW (f (k + 1)) (ug f k)=true then f (k + 1) else ug f k
theorem Vy (f:Nat→R3):∀ k,∃ j,j ≤ k∧ug f k=f j
 | 0=>⟨0,Nat.le_refl _,rfl⟩
 | k + 1=>by
  unfold ug;split
  ·exact ⟨k + 1,Nat.le_refl _,rfl⟩
  ·obtain ⟨j,hj,e⟩:=Vy f k;exact ⟨j,by omega,e⟩
theorem oH {r s t:R3} (h1:¬ gtW r s=true) (h2:¬ gtW s t=true):¬ gtW r t=true:=by
 rw [qk] at *;omega
theorem iu (f:Nat→R3):∀ k j,j ≤ k→¬ gtW (f j) (ug f k)=true
 | 0,j,hj=>by
  have:j=0:=by omega
  subst this;unfold ug;rw [qk];omega
 | k + 1,j,hj=>by
  unfold ug;by_cases c:j=k + 1
  ·subst c;split
   ·rw [qk];omega
   ·assumption
  ·have ih:=iu f k j (by omega);split
   ·rename_i h;refine oH ih ?_;rw [qk] at *;omega
   ·exact ih
noncomputable def Sl (z:Nat):List CD→List Int→List Int→R3
 | [],u,v=>((u.length:Nat),(v.length:Nat),[])
 | c :: cs,u,v=>ug (fun s=>((Sl z cs (He c.f (c.x - (s:Int)) u) (He c.b (c.y - (s:Int)) v)).1,(Sl z cs (He c.f (c.x - (s:Int)) u) (He c.b (c.y - (s:Int)) v)).2.1,(s:Int) :: (Sl z cs (He c.f (c.x - (s:Int)) u) (He c.b (c.y - (s:Int)) v)).2.2)) (z - 1)
noncomputable def Tf (z:Nat) (c:CD) (cs:List CD) (u v:List Int) (s:Nat):R3:=((Sl z cs (He c.f (c.x - (s:Int)) u) (He c.b (c.y - (s:Int)) v)).1,(Sl z cs (He c.f (c.x - (s:Int)) u) (He c.b (c.y - (s:Int)) v)).2.1,(s:Int) :: (Sl z cs (He c.f (c.x - (s:Int)) u) (He c.b (c.y - (s:Int)) v)).2.2)
theorem Rr (z:Nat) (c:CD) (cs:List CD) (u v:List Int):Sl z (c :: cs) u v=ug (Tf z c cs u v) (z - 1):=rfl
noncomputable def pfF:List CD→List Int→List Int→List Int
 | c :: cs,s :: ss,u=>pfF cs ss (He c.f (c.x - s) u)
 | _,_,u=>u
noncomputable def pfB:List CD→List Int→List Int→List Int
 | c :: cs,s :: ss,u=>pfB cs ss (He c.b (c.y - s) u)
 | _,_,u=>u
noncomputable def InZ (z:Nat) (ss:List Int):Prop:=∀ x ∈ ss,0 ≤ x∧x < (z:Int)
structure DK (z:Nat) (cs:List CD) (u v:List Int) (r:R3):Prop where
 ln:r.2.2.length=cs.length
 iz:InZ z r.2.2
 f:r.1=((pfF cs r.2.2 u).length:Nat)
 b:r.2.1=((pfB cs r.2.2 v).length:Nat)
 mx:∀ ss:List Int,ss.length=cs.length→InZ z ss→¬ gtW (((pfF cs ss u).length:Nat),((pfB cs ss v).length:Nat),ss) r=true
theorem BB {z:Nat} (hz:0 < z):∀ (cs:List CD) (u v:List Int),DK z cs u v (Sl z cs u v)
 | [],u,v=>⟨rfl,fun x hx=>by simp [Sl] at hx,rfl,rfl,fun ss hs _=>by
   rw [qk];show ¬ (_∨(_∧((u.length:Nat):Int) + ((v.length:Nat):Int) < ((pfF [] ss u).length:Nat) + ((pfB [] ss v).length:Nat)));have e1:pfF [] ss u=u:=by cases ss <;> rfl
   have e2:pfB [] ss v=v:=by cases ss <;> rfl
   dsimp only [Sl];rw [e1,e2]
   omega⟩
 | c :: cs,u,v=>by
  rw [Rr];have ih:=fun s:Nat=>BB hz cs (He c.f (c.x - (s:Int)) u) (He c.b (c.y - (s:Int)) v)
  obtain ⟨j,hj,e⟩:=Vy (Tf z c cs u v) (z - 1);have mx:=iu (Tf z c cs u v) (z - 1);rw [e] at mx ⊢;refine ⟨?_,fun x hx=>?_,(ih j).f,(ih j).b,fun ss hs hi=>?_⟩
  ·show (_ :: _:List Int).length=_;rw [List.length_cons,List.length_cons,(ih j).ln]
  ·rcases List.mem_cons.mp (show x ∈ (j:Int) :: _ from hx) with rfl | hx
   ·omega
   ·exact (ih j).iz x hx
  ·cases ss with
   | nil=>simp at hs
   | cons s ss=>
    have hs0:=hi s (List.mem_cons_self ..);obtain ⟨k,rfl⟩:∃ k:Nat,s=(k:Int):=⟨s.toNat,by omega⟩;have a:=(ih k).mx ss (by simpa using hs) (fun x hx=>hi x (List.mem_cons_of_mem _ hx));refine oH (s:=Tf z c cs u v k) ?_ (mx k (by omega));rw [qk] at a ⊢;exact a
noncomputable def csL (z:Nat) (fs bs:List Int) (ls:List LD):List CD:=(List.range ls.length).map fun k=>((ls[k]?).map fun l=>csK z fs bs l k).getD ⟨[],[],0,0⟩
theorem vp (z:Nat) (fs bs:List Int) (ls:List LD):(csL z fs bs ls).length=ls.length:=by unfold csL;simp
theorem sC {z:Nat} {fs bs:List Int} {ls:List LD} {k:Nat} {l:LD} (h:ls[k]? = some l):(csL z fs bs ls)[k]? = some (csK z fs bs l k):=by
 unfold csL;rw [List.getElem?_map,List.getElem?_range (List.getElem?_eq_some_iff.mp h).1];show some (((ls[k]?).map fun l=>csK z fs bs l k).getD _)=_;rw [h];rfl
theorem fz {z:Nat} (hz:0 < z) {ls:List LD} {fs bs sh:List Int} {k:Nat} {l:LD} (h:ls[k]? = some l):He (csK z fs bs l k).f ((csK z fs bs l k).x - sh.getD k 0) (grF z ls fs sh k)=grF z ls fs sh (k + 1):=by
 have:=Ul (fr:=frK z ls LD.d) (off:=ML fs sh) (i:=k) hz (sp:=l.sp) (d:=l.d) (fun x=>by unfold frK;rw [h];rfl);exact this
theorem Qx {z:Nat} (hz:0 < z) {ls:List LD} {fs bs sh:List Int} {k:Nat} {l:LD} (h:ls[k]? = some l):He (csK z fs bs l k).b ((csK z fs bs l k).y - sh.getD k 0) (grB z ls bs sh k)=grB z ls bs sh (k + 1):=by
 have:=Ul (fr:=frK z ls LD.e) (off:=JL bs sh) (i:=k) hz (sp:=l.sp) (d:=l.e) (fun x=>by unfold frK;rw [h];rfl);exact this
theorem xL {z:Nat} (hz:0 < z) {ls:List LD} {fs bs sh:List Int} (hl:sh.length=ls.length):∀ (m k:Nat),k + m=ls.length→pfF ((csL z fs bs ls).drop k) (sh.drop k) (grF z ls fs sh k)=grF z ls fs sh ls.length∧pfB ((csL z fs bs ls).drop k) (sh.drop k) (grB z ls bs sh k)=grB z ls bs sh ls.length
 | 0,k,h=>by
  rw [List.drop_of_length_le (l:=sh) (by omega),List.drop_of_length_le (by rw [vp];omega),show k=ls.length by omega];exact ⟨rfl,rfl⟩
 | m + 1,k,h=>by
  have hk:k < ls.length:=by omega
  have hlk:ls[k]? = some ls[k]:=List.getElem?_eq_getElem hk;have hc:=sC (z:=z) (fs:=fs) (bs:=bs) hlk;have hcl:k < (csL z fs bs ls).length:=by rw [vp];exact hk
  have e1:(csL z fs bs ls)[k]=csK z fs bs ls[k] k:=by rw [List.getElem?_eq_getElem hcl] at hc;exact Option.some.inj hc
  have e2:sh[k]'(by omega)=sh.getD k 0:=by rw [List.getD_eq_getElem?_getD,List.getElem?_eq_getElem (by omega)];rfl
  rw [List.drop_eq_getElem_cons hcl,List.drop_eq_getElem_cons (l:=sh) (i:=k) (by omega),e1,e2];show pfF _ _ (He (csK z fs bs ls[k] k).f ((csK z fs bs ls[k] k).x - sh.getD k 0) _)=_∧pfB _ _ (He (csK z fs bs ls[k] k).b ((csK z fs bs ls[k] k).y - sh.getD k 0) _)=_;rw [fz hz hlk,Qx hz hlk];exact xL hz hl m (k + 1) (by omega)
noncomputable def tz (z:Nat) (fs bs:List Int) (ls:List LD):R3:=Sl z ((csL z fs bs ls).drop 1) (grF z ls fs [0] 1) (grB z ls bs [0] 1)
theorem IH (z:Nat) (ls:List LD) (fs bs:List Int) (s:Int) (ss:List Int):grF z ls fs (s :: ss) 1=grF z ls fs [s] 1∧grB z ls bs (s :: ss) 1=grB z ls bs [s] 1:=by
 unfold grF grB gA;refine ⟨List.filter_congr fun t _=>?_,List.filter_congr fun t _=>?_⟩
 ·rfl
 ·rfl
theorem eD (z:Nat) (ls:List LD) (f:LD→WD) (k:Nat) {x y:Int} (h:x % (z:Int)=y % (z:Int)):frK z ls f k x=frK z ls f k y:=by
 unfold frK;cases ls[k]? with
 | none=>rfl
 | some l=>
  show jf z l.sp (f l) x=jf z l.sp (f l) y;rw [← Om,h,Om]
noncomputable def nI (z:Nat) (sh:List Int):List Int:=sh.map fun x=>(x - sh.getD 0 0) % (z:Int)
theorem mE {z:Nat} (hz:0 < z) {ls:List LD} {f:LD→WD} {n:Nat} {S:Nat→Int} {sh:List Int} (hl:sh.length=n) (h0:0 ≤ sh.getD 0 0):((ts0 z).filter (gA (frK z ls f) (fun k=>S k - sh.getD k 0) n)).length=((ts0 z).filter (gA (frK z ls f) (fun k=>S k - (nI z sh).getD k 0) n)).length:=by
 have per:∀ x,gA (frK z ls f) (fun k=>S k - sh.getD k 0) n (x + z)=gA (frK z ls f) (fun k=>S k - sh.getD k 0) n x:=fun x=>by
  unfold gA;refine List.all_congr rfl fun k=>?_
  refine eD z ls f k ?_;rw [show x + (z:Int) + (S k - sh.getD k 0)=(x + (S k - sh.getD k 0)) + z by omega,Int.add_emod_right]
 rw [← Kv per (sh.getD 0 0).toNat];congr 1;refine List.filter_congr fun t _=>?_
 rw [Int.toNat_of_nonneg h0];unfold gA;rw [Bool.eq_iff_iff,List.all_eq_true,List.all_eq_true];have key:∀ k,k ∈ List.range n→frK z ls f k (t + sh.getD 0 0 + (S k - sh.getD k 0))=frK z ls f k (t + (S k - (nI z sh).getD k 0)):=fun k hk=>by
  have hk:=List.mem_range.mp hk;have e:(nI z sh).getD k 0=(sh.getD k 0 - sh.getD 0 0) % (z:Int):=by
   unfold nI;rw [List.getD_eq_getElem?_getD,List.getElem?_map,List.getElem?_eq_getElem (by omega)];show (_ - sh.getD 0 0) % (z:Int)=_;rw [List.getD_eq_getElem?_getD (l:=sh) (i:=k),List.getElem?_eq_getElem (by omega)];rfl
  refine eD z ls f k ?_;rw [e];rw [show t + (S k - (sh.getD k 0 - sh.getD 0 0) % (z:Int))=(t + S k) - (sh.getD k 0 - sh.getD 0 0) % (z:Int) by omega,Int.sub_emod_emod];congr 1;omega
 exact ⟨fun h k hk=>by rw [← key k hk];exact h k hk,fun h k hk=>by rw [key k hk];exact h k hk⟩
theorem qF {z:Nat} {sh:List Int} (h:0 < sh.length):∃ ss,nI z sh=0 :: ss∧ss.length + 1=sh.length:=by
 cases sh with
 | nil=>simp at h
 | cons a r=>
  refine ⟨r.map fun x=>(x - a) % (z:Int),?_,by rw [List.length_map];rfl⟩;unfold nI;rw [List.map_cons];show ((a - a) % (z:Int)) :: _=_;rw [Int.sub_self,Int.zero_emod];rfl
structure IJ (z:Nat) (ls:List LD) (fs bs:List Int) (r:R3):Prop where
 ln:r.2.2.length + 1=ls.length
 iz:InZ z r.2.2
 f:r.1=((grF z ls fs (0 :: r.2.2) ls.length).length:Nat)
 b:r.2.1=((grB z ls bs (0 :: r.2.2) ls.length).length:Nat)
 mx:∀ sh:List Int,sh.length=ls.length→InZ z sh→¬ gtW (((grF z ls fs sh ls.length).length:Nat),((grB z ls bs sh ls.length).length:Nat),sh) r=true
theorem MH {z:Nat} (hz:0 < z) {ls:List LD} (hl:1 ≤ ls.length) (fs bs:List Int):IJ z ls fs bs (tz z fs bs ls):=by
 have B:=BB hz ((csL z fs bs ls).drop 1) (grF z ls fs [0] 1) (grB z ls bs [0] 1);have hdl:((csL z fs bs ls).drop 1).length=ls.length - 1:=by rw [List.length_drop,vp]
 have key:∀ ss:List Int,ss.length + 1=ls.length→pfF ((csL z fs bs ls).drop 1) ss (grF z ls fs [0] 1)=grF z ls fs (0 :: ss) ls.length∧pfB ((csL z fs bs ls).drop 1) ss (grB z ls bs [0] 1)=grB z ls bs (0 :: ss) ls.length:=fun ss hs=>by
  have:=xL hz (ls:=ls) (fs:=fs) (bs:=bs) (sh:=0 :: ss) (by rw [List.length_cons];exact hs) (ls.length - 1) 1 (by omega);rw [(IH z ls fs bs 0 ss).1,(IH z ls fs bs 0 ss).2] at this;exact this
 have hln:(tz z fs bs ls).2.2.length + 1=ls.length:=by
  have:=B.ln;rw [hdl] at this;show (Sl z _ _ _).2.2.length + 1=_;omega
 refine ⟨hln,B.iz,?_,?_,fun sh hs hi=>?_⟩
 ·rw [← (key _ hln).1];exact B.f
 ·rw [← (key _ hln).2];exact B.b
 ·have h0:0 ≤ sh.getD 0 0:=by
   rw [List.getD_eq_getElem?_getD,List.getElem?_eq_getElem (by omega)];exact (hi _ (List.getElem_mem (by omega))).1
  obtain ⟨ss,e,hss⟩:=qF (z:=z) (sh:=sh) (by omega);have c1:(grF z ls fs sh ls.length).length=(grF z ls fs (0 :: ss) ls.length).length:=by
   rw [← e];exact mE hz hs h0
  have c2:(grB z ls bs sh ls.length).length=(grB z ls bs (0 :: ss) ls.length).length:=by
   rw [← e];exact mE hz hs h0
  have m:=B.mx ss (by rw [hdl];omega) (fun x hx=>by
   have hx':x ∈ nI z sh:=by rw [e];exact List.mem_cons_of_mem _ hx
   obtain ⟨y,_,rfl⟩:=List.mem_map.mp hx';exact ⟨Int.emod_nonneg _ (by omega),Int.emod_lt_of_pos _ (by omega)⟩)
  rw [(key ss (by omega)).1,(key ss (by omega)).2] at m;rw [c1,c2];rw [qk] at m ⊢;exact m
end My
namespace My
open PySem L2
end My
namespace HT
open PySem PyProof.Rows
theorem cG (A:Around) (s:Shared) (a:Int) (t:Tok) (c:Int) (u:Tok) (prog:Program) (w:World) (E:Value→Shared→Prop) (Q:Value→Shared→Prop) (h:Q (.bool (decide (a > c))) s) :
  wpAny (model prog w) A (richCompare .Gt (.int a t) (.int c u)) Q E s:=
 (PyProof.Rows.gt_int h:wpAny (model prog w) A (compareOp .Gt (.int a t) (.int c u)) Q E s)
section
open PySem.SeqAt
open PySem.AutoSeq1 (wpAny_loadPart')
open PySem.MeetsSeq PySem.MeetsSeq2 PySem.MeetsSeq3
theorem Et (l b:Addr) (items items2:Array Value) (n n2:Nat) (dd dd2:Option Addr) (sl sl2:Array (Option Value)) (ns ms:List Int) (hi:IntsAre items.toList ns) (hj:IntsAre items2.toList ms) :
  Meets (Builtin.«tuple.__gt__» ⟨[.ref l,.ref b],[]⟩)
   (fun _ R s=>s.heap.get? l=some { cls:=.type "tuple",dict:=dd,data:=.seq items n,slots:=sl }∧s.heap.get? b=some { cls:=.type "tuple",dict:=dd2,data:=.seq items2 n2,slots:=sl2 } ∧
    R (.ok (.ret (.bool (lexLt ms ns)))) s):=
 .of_wp fun prog w A R s h=>by
  obtain ⟨hp,g,d,tk,os⟩:=s;obtain ⟨hl,hb,h⟩:=h;have f2:=AutoSeq1.sub_tuple_tuple;have z1:items.size=ns.length:=by rw [← hi.length];simp
  have z2:items2.size=ms.length:=by rw [← hj.length];simp
  wp_walk using wpAny_loadPart' hl,wpAny_loadPart' hb,wpAny_forIn_list _ (fun rest b s'=>b.1=none∧s'=⟨hp,g,d,tk,os⟩∧∃ (vs ws:List Value) (ns' ms':List Int),rest=vs.zip ws ∧
   IntsAre vs ns'∧IntsAre ws ms'∧ns'.length + items2.size=ms'.length + items.size∧R (.ok (.ret (.bool (lexLt ms' ns')))) ⟨hp,g,d,tk,os⟩) _
  case turn=>
   rintro ⟨y,x⟩ rest b s' ⟨hb',rfl,vs,ws,ns',ms',hz,hvi,hwi,hlen,hR⟩;cases hvi with
   | nil=>rw [List.zip_nil_left] at hz;cases hz
   | cons a t hvi'=>
    cases hwi with
    | nil=>rw [List.zip_nil_right] at hz;cases hz
    | cons c u hwi'=>
     rw [List.zip_cons_cons] at hz;injection hz with hyx hrest;injection hyx with hy hx;subst hy hx;rw [lexLt_cons] at hR;simp only [List.length_cons] at hlen;obtain ⟨e,he,hiff⟩:=aG A.in1 ⟨hp,g,d,tk,os⟩ a t c u;refine wpAny_bind (he prog w _ _ ?_);cases e with
     | true=>
      rw [if_pos ((hiff.mp rfl).symm)] at hR
      wp_walk
      exact ⟨rfl,rfl,_,_,_,_,hrest,hvi',hwi',by omega,hR⟩
     | false=>
      rw [if_neg (fun q=>absurd (hiff.mpr q.symm) Bool.false_ne_true)] at hR;have hri:=cG A.in1 ⟨hp,g,d,tk,os⟩ a t c u prog w
      wp_walk using hri
      exact ⟨_,rfl,by simpa using hR⟩
  case fin=>
   rintro ⟨b1,b2⟩ s' ⟨hb',rfl,vs,ws,ns',ms',hz,hvi,hwi,hlen,hR⟩;simp only at hb';subst hb';have hv:lexLt ms' ns'=decide (items2.size < items.size):=by
    cases hvi with
    | nil=>
     cases hwi with
     | nil=>
      simp only [List.length_nil] at hlen;rw [lexLt_nil_nil];exact (decide_eq_false (by omega)).symm
     | cons c u hw=>
      simp only [List.length_nil,List.length_cons] at hlen;rw [xq];exact (decide_eq_false (by omega)).symm
    | cons a t hv=>
     cases hwi with
     | nil=>
      simp only [List.length_nil,List.length_cons] at hlen;rw [Pq];exact (decide_eq_true (by omega)).symm
     | cons c u hw=>
      rw [List.zip_cons_cons] at hz;cases hz
   rw [hv] at hR
   wp_walk
   exact ⟨_,rfl,by simpa [Builtin.Tuple.tupleCompareSizes] using hR⟩
  case h=>
   exact ⟨rfl,rfl,items.toList,items2.toList,ns,ms,rfl,hi,hj,by omega,h⟩
end
section
variable {prog:Program} {w:World} {A:Around} {E:Value→Shared→Prop} {s:Shared}
theorem Jz {l b:Addr} {items items2:Array Value} {ns ms:List Int} {Q:Value→Shared→Prop} (hl:IsTup s.heap l items) (hb:IsTup s.heap b items2) (hi:IntsAre items.toList ns) (hj:IntsAre items2.toList ms)
  (hu:A.units < cLine) (h:Q (.bool (lexLt ms ns)) s):wpAny (model prog w) A (compareOp .Gt (.ref l) (.ref b)) Q E s:=by
 obtain ⟨⟨cls,dd,data,sl⟩,ho,hc,n,hd⟩:=id hl;obtain ⟨⟨cls2,dd2,data2,sl2⟩,ho2,hc2,n2,hd2⟩:=id hb;simp only at hc hd hc2 hd2;subst hc hd hc2 hd2;exact richCompare_meets_room (op:=.Gt) ⟨_,ho,rfl⟩ ⟨_,ho2,rfl⟩ PySem.F.slot_tuple_gt PySem.F.entry_tuple_gt (PySem.F.args_tuple_gt_2 _ _) (Et l b items items2 n n2 dd dd2 sl sl2 ns ms hi hj)
  ⟨ho,ho2,show Value.bool (lexLt ms ns) ≠ Value.notImplemented∧Q (.bool (lexLt ms ns)) s from ⟨(fun x=>nomatch x),h⟩⟩ hu
end
end HT
namespace L2
open PySem PySem.Spec PyProof.Rows
section
variable {X:Cx}
noncomputable def wN (K:PySem.W.Frag):R2:=fun x y H Q=>∃ a b ns ms,x=.ref a∧y=.ref b∧SqT K H a (ns.map V.int)∧SqT K H b (ms.map V.int)∧Q (.bl (HT.lexLt ms ns)) H
theorem EJ (hu:X.A.units < cLine):OpR X (compareOp .Gt) (wN X.K):=by
 intro pins s σ H x y v u Q I rx ry h;obtain ⟨a,b,ns,ms,rfl,rfl,ha,hb,q⟩:=h;cases rx;cases ry;obtain ⟨its,r1,p1,_⟩:=I.tuple ha;obtain ⟨its2,r2,p2,_⟩:=I.tuple hb;have i1:IntsAre its.toArray.toList ns:=Ar r1;have i2:IntsAre its2.toArray.toList ms:=Ar r2;exact HT.Jz p1 p2 i1 i2 hu ⟨.bl (HT.lexLt ms ns),H,I,rfl,q⟩
end
end L2
namespace My
open PySem L2
end My
namespace My
open PySem L2
noncomputable def uz (H:Hp) (r:Addr) (cs:List CD):Prop:=∃ qs:List Addr,H r=some (.lst (qs.map V.ref))∧qs.length=cs.length∧∀ (i:Nat) (q:Addr) (c:CD),qs[i]? = some q→cs[i]? = some c→qI H q c
theorem uz.same {H H':Hp} {r:Addr} {cs:List CD} (h:uz H r cs) (s:Ob H H'):uz H' r cs:=by
 obtain ⟨qs,e1,e2,e3⟩:=h;exact ⟨qs,s _ _ e1,e2,fun i q c a b=>(e3 i q c a b).same s⟩
theorem II.cds {H:Hp} {r:Addr} {z:Nat} {fs bs:List Int} {ls:List LD} (h:II H r z fs bs ls):uz H r (csL z fs bs ls):=by
 obtain ⟨qs,e1,e2,e3⟩:=h;refine ⟨qs,e1,by rw [e2,vp],fun i q c hq hc=>?_⟩;have hl:ls[i]? = some (ls[i]'(by rw [← e2];exact (List.getElem?_eq_some_iff.mp hq).1)):=List.getElem?_eq_getElem _;rw [sC hl] at hc;cases hc;exact e3 i q _ hq hl
noncomputable def r3O (r:R3) (s:Addr):HO:=.tup [.int r.1,.int r.2.1,.ref s]
noncomputable def kx:Sp:=fun vs H Q _=>∃ p r s,vs=[.ref p]∧H p=some (r3O r s)∧∀ q,H q=none→Q (.ref q) (upd H q (.tup [.int (mnI r.1 r.2.1),.int (r.1 + r.2.1)]))
structure WIn (H:Hp) (cp shp bp:Addr) (cs:List CD) (sh u v:List Int) (z:Nat):Prop where
 c:uz H cp cs
 s:H shp=some (.lst (Yb sh))
 b:sv H bp u v
 ln:cs.length ≤ 10
 z0:0 < z∧z ≤ 1000
 al:∀ c ∈ cs,c.f.length=z∧c.b.length=z
 ul:u.length ≤ 1000
 vl:v.length ≤ 1000
noncomputable def uF (n:Nat):Sp:=fun vs H Q _=>∃ cp shp bp cs sh u v z,vs=[.ref cp,.ref shp,.ref bp]∧WIn H cp shp bp cs sh u v z∧sh.length + n=cs.length∧NoT H ∧
 ∀ p s H',Ob H H'→NoT H'→H' p=some (r3O (Sl z (cs.drop sh.length) u v) s)→H' s=some (.lst (Yb (sh ++ (Sl z (cs.drop sh.length) u v).2.2)))→(s=shp∨H s=none)→Q (.ref p) H'
noncomputable def yK:Nat→Sp
 | 0=>fun _ _ _ _=>False
 | n + 1=>uF n
noncomputable def cz (t:Adr):Sp:=fun vs H Q E=>∃ lp fp bp z ls fs bs,vs=[.ref lp,.ref fp,.ref bp]∧LIn t H lp fp bp z ls fs bs∧ls.length ≤ 5∧(z:Int) ^ (ls.length - 1) < 10 ^ 12∧NoT H ∧
 ((z:Int) ^ (ls.length - 1) ≤ 2000→∀ p s H',Ob H H'→NoT H'→H' p=some (r3O (tz z fs bs ls) s)→H' s=some (.lst (Yb (0 :: (tz z fs bs ls).2.2)))→H s=none→Q (.ref p) H') ∧
 (2000 < (z:Int) ^ (ls.length - 1)→∀ H',Ob H H'→NoT H'→E (.ref t.Ib) none H')
theorem KK {z:Nat} (hz:0 < z) {i n:Nat} (h:i ≤ n):(z:Int) ^ i ≤ (z:Int) ^ n:=by
 have:=Nat.pow_le_pow_right hz h
 exact_mod_cast this
section
variable {P:Program} {w:World} {K:PySem.W.Frag} {mg:Str→Option Value} {base:Heap} {t:Adr}
theorem pF (T:Txt w K mg t):Eb P w K mg base CX0 1 t.Ft t.Ds ["told"] kx:=by
 refine T.Nt.ok xF (fun vs H Q E h=>?_) (fun _ _ _ s H vs Q E hr h=>?_)
 ·obtain ⟨p,r,s,rfl,_⟩:=h;rfl
 obtain ⟨p,r,s',rfl,hp,q⟩:=h;refine ⟨_,(lb (Db (Di (cb (Pb (fB rfl) rfl T.QF Gm (cb (uc Lg (pv 0) rb) (cb (uc Lg (pv 0) rb) gb))) (cb (bc Zd (uc Lg (pv 0) rb) (uc Lg (pv 0) rb)) gb))))),?_⟩;walk_at "RD";exact ⟨_,SqT.of hp,_,rfl,_,SqT.of hp,_,rfl,_,rfl,_,rfl,_,SqT.of hp,_,rfl,_,SqT.of hp,_,rfl,_,rfl,_,rfl,by decide,q⟩
theorem VA (T:Txt w K mg t) (n:Nat) (g23:Eb P w K mg base CX0 (4 + n) t.re t.ve q20 (yK n)):Eb P w K mg base CX0 (5 + n) t.re t.ve q20 (uF n):=by
 rw [show 5 + n=4 + n + 1 by omega];have g27:Eb P w K mg base CX0 (4 + n) t.Ft t.Ds ["told"] kx:=(pF T).mono (by omega);have g15:Eb P w K mg base CX0 (4 + n) t.Ud t.Td q19 Qn:=(Zs T).mono (by omega);refine T.We.ok ud (fun vs H Q E h=>?_) (fun _ _ _ s H vs Q E hr h=>?_)
 ·obtain ⟨cp,shp,bp,cs,sh,u,v,z,rfl,_⟩:=h;rfl
 obtain ⟨cp,shp,bp,cs,sh,u,v,z,rfl,I,hn,nt,q⟩:=h;have hu:=Sw hr;obtain ⟨qs,c1,c2,c3⟩:=I.c;have hln:=I.ln;refine ⟨_,(fb (Se (Zb vj (Pb Gb rfl T.di Tb (cb (pv 1) gb)) (Pb Gb rfl T.di Tb (cb (pv 0) gb)) (Vb _)) (lb (Db (Di (cb (Pb Gb rfl T.di Tb (cb (uc Lg (pv 2) rb) gb)) (cb (Pb Gb rfl T.di Tb (cb (uc Lg (pv 2) rb) gb)) (cb (pv 1) gb)))))) jc)
   (fb (yb (i:=3) ud.nd (uc Vc (pv 0) (Pb Gb rfl T.di Tb (cb (pv 1) gb))))
   (fb (yb (i:=4) ud.nd Jl)
   (fb (fe PassesOwn.never rfl (Pd rfl T.Ve (cb (Pb Gb rfl T.di Tb (cb (uc Lg (pv 3) rb) gb)) gb)) (qb (i:=5) ud.nd) (fb (yb (i:=6) ud.nd (ub g23 hr T.Rl T.We.kp T.il (cb (pv 0) (cb (bc jK (pv 1) (dg (cb (pv 5) gb))) (cb (ub g15 hr T.oh T.Ae.kp T.kh (cb (pv 2) (cb (pv 3) (cb (pv 5) gb)))) gb)))))
   (lb (Se (PW.pt (yu (Zb wE (pv 4) Jl (Vb _)) (No (Zb (EJ (Nat.lt_of_succ_lt hu)) (ub g27 hr T.bC T.Nt.kp T.pE (cb (pv 6) gb)) (ub g27 hr T.bC T.Nt.kp T.pE (cb (pv 4) gb)) (Vb _))))) (lb (yb (i:=4) ud.nd (pv 6))) jc))))
   (lb (Db (pv 4))))))),?_⟩
 simp only [Kb];refine vc (fun σ' H'=>H'=H∧n ≠ 0∧σ'=[some (.ref cp),some (.ref shp),some (.ref bp),none,none,none,none]) (fun D' hD hrt _ _=>?_) ?_
 ·refine zc (decide (n=0)) (fun Q hQ=>?_) (fun cc=>?_) (fun cc=>?_)
  ·walk_at "RD";refine ⟨_,.inl (SqL.of I.s),_,.inl (SqL.of c1),?_⟩;rw [Cd,List.length_map,c2,show decide ((sh.length:Int)=(cs.length:Int))=decide (n=0) from decide_eq_decide.mpr (by omega)];exact hQ
  ·have cc:=of_decide_eq_true cc;obtain ⟨f,b,b1,b2,b3⟩:=I.b;rw [List.drop_of_length_le (by omega)] at q;walk_at "RD";refine ⟨_,SqT.of b1,_,rfl,_,rfl,_,.inl (SqL.of b2),_,SqT.of b1,_,rfl,_,rfl,_,.inl (SqL.of b3),by decide,fun p hp=>?_⟩;rw [hrt,Cd,Cd];exact q p shp _ (jb hp) nt.upd db (by show _=some (HO.lst (Yb (sh ++ [])));rw [List.append_nil];exact (jb hp) _ _ I.s) (.inl rfl)
  ·walk_at "RD";exact hD _ _ ⟨rfl,of_decide_eq_false cc,rfl⟩
 rintro σ1 H1 ⟨rfl,hn0,rfl⟩;obtain ⟨m,rfl⟩:∃ m,n=m + 1:=⟨n - 1,by omega⟩;have hk:sh.length < cs.length:=by omega
 have hc:cs[sh.length]? = some cs[sh.length]:=List.getElem?_eq_getElem hk;have hq:qs[sh.length]? = some (qs[sh.length]'(by omega)):=List.getElem?_eq_getElem _;have hdr:cs.drop sh.length=cs[sh.length] :: cs.drop (sh.length + 1):=List.drop_eq_getElem_cons hk;have C:=c3 _ _ _ hq hc;have hz2:=I.al _ (List.mem_of_getElem? hc);have hz:=I.z0;generalize cs[sh.length]=c at hc hdr C hz2;generalize qs[sh.length]'(by omega)=qc at hq C;rw [hdr,Rr] at q;simp only [Kb];refine zzC (fun σ' H'=>H'=H1∧σ'=[some (.ref cp),some (.ref shp),some (.ref bp),some (.ref qc),none,none,none]) (fun D' hD=>?_) fun zzM zzh=>?_
 ·walk_at "RD";refine ⟨_,.inl (SqL.of I.s),_,SqL.of c1,_,?_,hD _ _ ⟨rfl,rfl⟩⟩;rw [Cd];exact Fc (by rw [List.getElem?_map,hq];rfl)
 rintro σ2 H2 ⟨rfl,rfl⟩;subst zzh;simp only [Kb];refine zzC (fun σ' H'=>H'=H2∧σ'=[some (.ref cp),some (.ref shp),some (.ref bp),some (.ref qc),some .non,none,none]) (fun D' hD=>?_) fun zzM zzh=>?_
 ·walk_at "RD";exact hD _ _ ⟨rfl,rfl⟩
 rintro σ3 H3 ⟨rfl,rfl⟩;obtain ⟨mf,mb,k1,k2,k3⟩:=id C;subst zzh;simp only [Kb];refine zzC (fun σ' H'=>Ob H3 H'∧NoT H'∧∃ p s x5 x6,H' p=some (r3O (ug (Tf z c (cs.drop (sh.length + 1)) u v) (z - 1)) s)∧H' s=some (.lst (Yb (sh ++ (ug (Tf z c (cs.drop (sh.length + 1)) u v) (z - 1)).2.2)))∧H3 s=none∧σ'=[some (.ref cp),some (.ref shp),some (.ref bp),some (.ref qc),some (.ref p),x5,x6]) (fun D' hD=>?_) fun zzM zzh=>?_
 ·walk_at "RD";refine ⟨_,SqT.of k1,_,rfl,_,rfl,_,.inl (SqL.of k2),?_⟩;rw [show (ac c.f).length=z by unfold ac;rw [List.length_map,hz2.1]];refine ⟨by omega,by omega,?_⟩;refine Ei.range (n:=z) (fun i σ H'=>Ob H3 H'∧NoT H'∧∃ x4 x5 x6,(i=0→x4=some .non)∧(0 < i→∃ p s,x4=some (.ref p)∧H' p=some (r3O (ug (Tf z c (cs.drop (sh.length + 1)) u v) (i - 1)) s)∧H' s=some (.lst (Yb (sh ++ (ug (Tf z c (cs.drop (sh.length + 1)) u v) (i - 1)).2.2)))∧H3 s=none)∧σ=[some (.ref cp),some (.ref shp),some (.ref bp),some (.ref qc),x4,x5,x6]) ⟨Ob.refl _,nt,_,_,_,fun _=>rfl,fun z=>by omega,rfl⟩ ?_ ?_
  ·rintro i σ HA hi zzq;refine zP fun zzM zzh=>?_
   obtain ⟨sA,nA,x4,x5,x6,hx0,hx1,rfl⟩:=zzq;have IA:WIn HA cp shp bp cs sh u v z:=⟨I.c.same sA,sA _ _ I.s,by obtain ⟨f,b,b1,b2,b3⟩:=I.b;exact ⟨f,b,sA _ _ b1,sA _ _ b2,sA _ _ b3⟩,I.ln,I.z0,I.al,I.ul,I.vl⟩;subst zzh;simp only [Qk,Kb,List.set_cons_succ,List.set_cons_zero,Int.zero_add];refine zzC (fun σ' H'=>Ob HA H'∧NoT H'∧∃ p s,H' p=some (r3O (Tf z c (cs.drop (sh.length + 1)) u v i) s)∧H' s=some (.lst (Yb (sh ++ (Tf z c (cs.drop (sh.length + 1)) u v i).2.2)))∧H3 s=none∧σ'=[some (.ref cp),some (.ref shp),some (.ref bp),some (.ref qc),x4,some (.int (i:Nat)),some (.ref p)]) (fun D' hD=>?_) fun zzM zzh=>?_
   ·have hl1:(sh ++ [(i:Int)]).length=sh.length + 1:=by simp
    walk_at "RD";refine ⟨by decide,fun p1 n1=>?_⟩;have t1:=jb (o:=.lst [.int (i:Nat)]) n1;refine ⟨_,t1 _ _ IA.s,_,db,Nat.le_trans (show (Yb sh).length + 1 ≤ 20 by rw [Cd];omega) (by decide),fun p2 n2=>?_⟩;have el:Yb sh ++ [V.int ((i:Nat):Int)]=Yb (sh ++ [(i:Int)]):=by unfold Yb;rw [List.map_append];rfl
    rw [el];have t2:=jb (o:=.lst (Yb (sh ++ [(i:Int)]))) n2;have t12:=t1.trans t2;have N2:NoT (upd (upd HA p1 (.lst [.int (i:Nat)])) p2 (.lst (Yb (sh ++ [(i:Int)])))):=nA.upd.upd;obtain ⟨f,b,b1,b2,b3⟩:=IA.b;refine ⟨bp,qc,u,v,c,i,rfl,⟨f,b,t12 _ _ b1,t12 _ _ b2,t12 _ _ b3⟩,(C.same sA).same t12,by omega,by omega,I.ul,I.vl,N2,fun p3 H4 s4 n4 B4=>?_⟩;have w0:=t12.trans s4;refine ⟨cp,p2,p3,cs,sh ++ [(i:Int)],_,_,z,rfl,⟨IA.c.same w0,s4 _ _ db,B4,I.ln,I.z0,I.al,Nat.le_trans (Iv ..) I.ul,Nat.le_trans (Iv ..) I.vl⟩,by omega,n4,fun p s H' s' n' g1 g2 g3=>?_⟩;rw [hl1] at g1 g2;refine hD _ _ ⟨w0.trans s',n',p,s,g1,?_,?_,rfl⟩
    ·rw [List.append_assoc] at g2;exact g2
    ·rcases g3 with rfl | g3
     ·exact sA.free (t1.free n2)
     ·exact sA.free (w0.free g3)
   rintro σB HB ⟨sB,nB,p,s,ep,es,hs3,rfl⟩;subst zzh;dsimp only;refine El (fun b H2=>Ob HB H2∧NoT H2∧(i=0→b=true)∧(0 < i→b=gtW (Tf z c (cs.drop (sh.length + 1)) u v i) (ug (Tf z c (cs.drop (sh.length + 1)) u v) (i - 1)))) (fun Q hQ=>?_) (fun H2 r=>?_) (fun H2 r=>?_)
   ·by_cases hi0:i=0
    ·obtain rfl:=hx0 hi0;walk_at "RD";exact hQ _ _ ⟨Ob.refl _,nB,fun _=>rfl,fun z=>by omega⟩
    ·obtain ⟨p',s',rfl,ep',es',_⟩:=hx1 (by omega);walk_at "RD";refine ⟨p,_,s,rfl,ep,fun q1 h1=>?_⟩;have t1:=jb (o:=.tup [.int (mnI (Tf z c (cs.drop (sh.length + 1)) u v i).1 (Tf z c (cs.drop (sh.length + 1)) u v i).2.1),.int ((Tf z c (cs.drop (sh.length + 1)) u v i).1 + (Tf z c (cs.drop (sh.length + 1)) u v i).2.1)]) h1;refine ⟨p',_,s',rfl,t1 _ _ (sB _ _ ep'),fun q2 h2=>?_⟩;have t2:=jb (o:=.tup [.int (mnI (ug (Tf z c (cs.drop (sh.length + 1)) u v) (i - 1)).1 (ug (Tf z c (cs.drop (sh.length + 1)) u v) (i - 1)).2.1),.int ((ug (Tf z c (cs.drop (sh.length + 1)) u v) (i - 1)).1 + (ug (Tf z c (cs.drop (sh.length + 1)) u v) (i - 1)).2.1)]) h2;exact ⟨q1,q2,[_,_],[_,_],rfl,rfl,SqT.of (t2 _ _ db),SqT.of db,_,rfl,hQ _ _ ⟨t1.trans t2,nB.upd.upd,fun z=>absurd z hi0,fun _=>rfl⟩⟩
   ·obtain ⟨r1,r2,r3,r4⟩:=r;have epk:ug (Tf z c (cs.drop (sh.length + 1)) u v) (i + 1 - 1)=Tf z c (cs.drop (sh.length + 1)) u v i:=by
     rw [Nat.add_sub_cancel];cases i with
     | zero=>rfl
     | succ j=>
      unfold ug;exact if_pos (r4 (by omega)).symm
    walk_at "RD";refine ⟨(sA.trans sB).trans r1,r2,_,fun z=>z.elim,fun _=>⟨p,rfl,s,?_,?_,hs3⟩,rfl,_,rfl⟩
    ·rw [epk];exact r1 _ _ ep
    ·rw [epk];exact r1 _ _ es
   ·obtain ⟨r1,r2,r3,r4⟩:=r;have hi0:0 < i:=by
     refine Classical.byContradiction fun c=>?_
     cases r3 (by omega)
    have epk:ug (Tf z c (cs.drop (sh.length + 1)) u v) (i + 1 - 1)=ug (Tf z c (cs.drop (sh.length + 1)) u v) (i - 1):=by
     rw [Nat.add_sub_cancel];cases i with
     | zero=>omega
     | succ j=>
      have:=r4 (by omega);show (if gtW _ _=true then _ else _)=_;rw [if_neg (by rw [show gtW (Tf z c (cs.drop (sh.length + 1)) u v (j + 1)) (ug (Tf z c (cs.drop (sh.length + 1)) u v) j)=false from this.symm];decide)];rfl
    obtain ⟨p',s',rfl,ep',es',hs'⟩:=hx1 hi0;have sBr:=sB.trans r1;walk_at "RD";refine ⟨(sA.trans sB).trans r1,r2,_,fun z=>z.elim,fun _=>⟨p',rfl,s',?_,?_,hs'⟩,rfl,_,rfl⟩
    ·rw [epk];exact sBr _ _ ep'
    ·rw [epk];exact sBr _ _ es'
  ·rintro σ H' zzq;refine zP fun zzM zzh=>?_
   obtain ⟨sm,nm,x4,x5,x6,hx0,hx1,rfl⟩:=zzq;obtain ⟨p,s,rfl,e1,e2,e3⟩:=hx1 (by omega);subst zzh;exact hD _ _ ⟨sm,nm,p,s,_,_,e1,e2,e3,rfl⟩
 rintro σ4 H4 ⟨s4,n4,p,s,x5,x6,e1,e2,e3,rfl⟩;subst zzh;walk_at "RD";exact q p s H4 s4 n4 e1 e2 (.inr e3)
theorem mK (T:Txt w K mg t):∀ n,Eb P w K mg base CX0 (5 + n) t.re t.ve q20 (uF n)
 | 0=>VA T 0 (T.We.ok ud (fun vs H Q E h=>h.elim) (fun cdv A outer s H vs Q E hr h=>h.elim))
 | n + 1=>VA T (n + 1) (by rw [show 4 + (n + 1)=5 + n by omega];exact mK T n)
theorem kJ {k:Nat} {f:Addr} {fd:FuncData} {ps:List Str} {sp:Nat→Sp} {m:Nat} (F:∀ n,n ≤ m→Eb P w K mg base CX0 k f fd ps (sp n)):Eb P w K mg base CX0 k f fd ps (fun vs H Q E=>∃ n,n ≤ m∧sp n vs H Q E):=
 ⟨fun vs H Q E ⟨n,hn,h⟩=>(F n hn).len vs H Q E h,fun A outer s H args us vs Q E hr he hb hv ⟨n,hn,h⟩=>(F n hn).run A outer s H args us vs Q E hr he hb hv h⟩
theorem UE (T:Txt w K mg t):Eb P w K mg base (CX1 P w) 10 t.Zn t.Yn q11 (cz t):=by
 have g23:Eb P w K mg base CX0 9 t.re t.ve q20 (fun vs H Q E=>∃ n,n ≤ 4∧uF n vs H Q E):=kJ fun n hn=>(mK T n).mono (by omega)
 have g21:Eb P w K mg base CX0 9 t.Ce t.Be q11 (WA t):=(UG T).mono (by decide);have g15:Eb P w K mg base CX0 9 t.Ud t.Td q19 Qn:=(Zs T).mono (by decide);have g22:Eb P w K mg base CX0 9 t.bf t.Ye ["line"] (Kt t):=(lx T).mono (by decide);refine T.Bt.okX vh (fun vs H Q E h=>?_) (fun _ _ _ s H vs Q E hr h=>?_)
 ·obtain ⟨lp,fp,bp,z,ls,fs,bs,rfl,_⟩:=h;rfl
 obtain ⟨lp,fp,bp,z,ls,fs,bs,rfl,I,hl5,hpw,nt,q,qx⟩:=h;obtain ⟨⟨qs,l1,lq⟩,al⟩:=I.l;have hql:qs.length=ls.length:=by rw [lq.1,List.length_map]
 have hln:=I.ln;have hz:=I.z0;have hq0:qs[0]? = some (qs[0]'(by omega)):=List.getElem?_eq_getElem _;have hl0:ls[0]? = some (ls[0]'(by omega)):=List.getElem?_eq_getElem _;have e0:H (qs[0]'(by omega))=some (lO (ls[0]'(by omega))):=lq.2 0 _ _ hq0 (by rw [List.getElem?_map,hl0];rfl);obtain ⟨dx,pp,lm,un,hpl,_⟩:=(al _ (List.mem_of_getElem? hl0)).1.at_;refine ⟨_,(fb (yb (i:=3) vh.nd (Ub (uc Lg (uc Vc (pv 0) rb) rb) rfl))
   (fb (yb (i:=4) vh.nd rb)
   (fb (fe (dw ⟨rfl,rfl⟩) rfl (ce (Py TC (pv 0) (nD rb) MD)) (qb (i:=5) vh.nd) (lb (yb (i:=4) vh.nd (bc zr (pv 4) (pv 3)))))
   (fb (Se (Zb jv (pv 4) (Jd rfl T.wu T.Uu) (Vb _)) (lb (aD (PB ⟨T.Dm,T.Yl,T.Em,T.am⟩ rfl T.lu (cb (RC (VJ (pv 4) (tG tJ)) (by rw [sizeLine_eq];decide)) gb)) JI)) jc)
   (fb (yb (i:=6) vh.nd (ub g21 hr T.Lj T.Bf.kp T.Yj (cb (pv 0) (cb (pv 1) (cb (pv 2) gb)))))
   (lb (Db (ub g23 hr T.Rl T.We.kp T.il (cb (pv 6) (cb (dg (cb rb gb)) (cb (ub g15 hr T.oh T.Ae.kp T.kh (cb (ub g22 hr T.Ik T.jg.kp T.Vk (cb (pv 0) gb)) (cb (uc Vc (pv 6) rb) (cb rb gb)))) gb))))))))))),?_⟩
 refine zS (fun σ' H'=>H'=H∧σ'=[some (.ref lp),some (.ref fp),some (.ref bp),some (.int (z:Nat)),none,none,none]) (fun D' hD=>?_) fun zzM zzh=>?_
 ·walk_at "RD";exact ⟨_,SqL.of l1,_,Fc (j:=0) (by rw [List.getElem?_map,hq0];rfl),_,rfl,_,SqT.of e0,_,rfl,_,rfl,_,Qp T hpl,hD _ _ ⟨rfl,rfl⟩⟩
 rintro σ1 H1 ⟨rfl,rfl⟩;subst zzh;refine zS (fun σ' H'=>H'=H1∧σ'=[some (.ref lp),some (.ref fp),some (.ref bp),some (.int (z:Nat)),some (.int 1),none,none]) (fun D' hD=>?_) fun zzM zzh=>?_
 ·walk_at "RD";exact hD _ _ ⟨rfl,rfl⟩
 rintro σ2 H2 ⟨rfl,rfl⟩;subst zzh;refine zS (fun σ' H'=>Ob H2 H'∧NoT H'∧∃ x5,σ'=[some (.ref lp),some (.ref fp),some (.ref bp),some (.int (z:Nat)),some (.int ((z:Int) ^ (ls.length - 1))),x5,none]) (fun D' hD=>?_) fun zzM zzh=>?_
 ·walk_at "RD";refine ⟨_,SqL.of l1,fun p hp=>?_⟩;have ec:QE (qs.map V.ref) (some 1) none=(qs.map V.ref).drop 1:=uG (k:=1) (by rw [List.length_map];omega);rw [ec];have hdl:((qs.map V.ref).drop 1).length=ls.length - 1:=by rw [List.length_drop,List.length_map,hql]
  refine ⟨⟨_,SqL.of db⟩,?_⟩;refine Ei.list (xs:=(qs.map V.ref).drop 1) (fun i σ H'=>H'=upd H2 p (.lst ((qs.map V.ref).drop 1))∧∃ x5,σ=[some (.ref lp),some (.ref fp),some (.ref bp),some (.int (z:Nat)),some (.int ((z:Int) ^ i)),x5,none]) ⟨rfl,_,rfl⟩ ?_ ?_ ?_
  ·rintro i σ H' hi ⟨rfl,_⟩;exact SqL.of db
  ·rintro i v σ H' hv ⟨rfl,x5,rfl⟩;have hi:i < ls.length - 1:=by rw [← hdl];exact (List.getElem?_eq_some_iff.mp hv).1
   have h1:=KK hz.1 (show i ≤ ls.length - 1 by omega);have h2:(0:Int) ≤ (z:Int) ^ i:=by rw [← Int.natCast_pow];omega
   walk_at "RD";exact ⟨.inl ⟨by omega,by omega⟩,(Int.pow_succ ..).symm,_,rfl⟩
  ·rintro σ H' ⟨rfl,x5,rfl⟩;rw [hdl];exact hD _ _ ⟨jb hp,nt.upd,_,rfl⟩
 rintro σ3 H3 ⟨s3,n3,x5,rfl⟩;subst zzh;refine zS (fun σ' H'=>H'=H3∧(z:Int) ^ (ls.length - 1) ≤ 2000∧σ'=[some (.ref lp),some (.ref fp),some (.ref bp),some (.int (z:Nat)),some (.int ((z:Int) ^ (ls.length - 1))),x5,none]) (fun D' hD=>?_) fun zzM zzh=>?_
 ·refine zc (decide (2000 < (z:Int) ^ (ls.length - 1))) (fun Q hQ=>?_) (fun c=>?_) (fun c=>?_)
  ·walk_at "RD";exact hQ
  ·have c:=of_decide_eq_true c;simp only [jA,Zz];walk_at "RD";refine ⟨CI (by omega),fun y=>⟨by decide,fun x hx=>⟨_,_,db,⟨T.Dm,T.Yl,T.Em,T.am⟩,?_⟩⟩⟩;exact qx c _ (by rw [im];exact s3.trans (jb hx)) (n3.upd).upd
  ·have c:=of_decide_eq_false c;walk_at "RD";exact hD _ _ ⟨rfl,by omega,rfl⟩
 rintro σ4 H4 ⟨rfl,hpw4,rfl⟩;have q:=q hpw4;have I4:=I.same s3;subst zzh;refine zS (fun σ' H'=>Ob H4 H'∧NoT H'∧∃ r,uz H' r (csL z fs bs ls)∧σ'=[some (.ref lp),some (.ref fp),some (.ref bp),some (.int (z:Nat)),some (.int ((z:Int) ^ (ls.length - 1))),x5,some (.ref r)]) (fun D' hD=>?_) fun zzM zzh=>?_
 ·walk_at "RD";exact ⟨lp,fp,bp,z,ls,fs,bs,rfl,I4,n3,fun r H' s' n' C=>hD _ _ ⟨s',n',r,C.cds,rfl⟩⟩
 rintro σ5 H5 ⟨s5,n5,r,C5,rfl⟩;obtain ⟨qc,d1,d2,d3⟩:=id C5;have hcl:=vp z fs bs ls;have hqc:qc[0]? = some (qc[0]'(by omega)):=List.getElem?_eq_getElem _;have hcs:=sC (z:=z) (fs:=fs) (bs:=bs) hl0;have cr:=d3 0 _ _ hqc hcs;subst zzh;walk_at "RD";refine ⟨by decide,fun p hp=>?_⟩;have t0:=jb (o:=.lst [V.int 0]) hp;refine ⟨lp,z,ls,rfl,((I4.same s5).same t0).l,hln.1,hz,n5.upd,fun bw H6 s6 n6 B6=>?_⟩;have t06:=t0.trans s6;refine ⟨_,SqL.of (t06 _ _ d1),_,Fc (j:=0) (by rw [List.getElem?_map,hqc];rfl),?_⟩;have eF:He (csK z fs bs (ls[0]'(by omega)) 0).f ((csK z fs bs (ls[0]'(by omega)) 0).x - 0) (ts0 z)=grF z ls fs [0] 1:=by
  have:=fz hz.1 (fs:=fs) (bs:=bs) (sh:=[0]) hl0;rwa [show grF z ls fs [0] 0=ts0 z from List.filter_eq_self.mpr fun _ _=>rfl] at this
 have eB:He (csK z fs bs (ls[0]'(by omega)) 0).b ((csK z fs bs (ls[0]'(by omega)) 0).y - 0) (ts0 z)=grB z ls bs [0] 1:=by
  have:=Qx hz.1 (fs:=fs) (bs:=bs) (sh:=[0]) hl0;rwa [show grB z ls bs [0] 0=ts0 z from List.filter_eq_self.mpr fun _ _=>rfl] at this
 refine ⟨bw,_,ts0 z,ts0 z,_,0,rfl,B6,cr.same t06,by show 0 < (frB z _ _).length∧(frB z _ _).length ≤ 1000;rw [sk];exact hz,by show 0 < (frB z _ _).length∧(frB z _ _).length ≤ 1000;rw [sk];exact hz,by rw [Im];exact hz.2,by rw [Im];exact hz.2,n6,fun b2 H7 s7 n7 B7=>?_⟩;rw [eF,eB] at B7;have g1:(grF z ls fs [0] 1).length ≤ 1000:=Nat.le_trans (List.length_filter_le ..) (by rw [Im];exact hz.2);have g2:(grB z ls bs [0] 1).length ≤ 1000:=Nat.le_trans (List.length_filter_le ..) (by rw [Im];exact hz.2);refine ⟨ls.length - 1,by omega,r,p,b2,csL z fs bs ls,[0],_,_,z,rfl,⟨(C5.same t06).same s7,s7 _ _ (s6 _ _ db),B7,by omega,hz,fun c hc=>?_,g1,g2⟩,by show 1 + (ls.length - 1)=_;omega,n7,fun p' s' H' sx nx e1 e2 e3=>?_⟩
 ·obtain ⟨k,hk,rfl⟩:=List.mem_map.mp hc;have hk:=List.mem_range.mp hk;rw [List.getElem?_eq_getElem hk];exact ⟨sk ..,sk ..⟩
 ·have w:=((s3.trans s5).trans t06).trans s7;refine q p' s' H' (w.trans sx) nx e1 e2 ?_;rcases e3 with rfl | e3
  ·exact (s3.trans s5).free hp
  ·exact w.free e3
end
end My
namespace My
open PySem L2
noncomputable def Out (H:Hp) (b:Addr):Prop:=∃ xs,H b=some (.lst xs)∧∀ v ∈ xs,(∃ k:Int,v=.int k∧1 ≤ k)∨∃ q u r,v=.ref q∧H q=some (.tup (.ref u :: r))
theorem Out.ne {H:Hp} {a b:Addr} {ys:List V} (R:Out H b) (e:H a=some (.lst ys)) (h:∃ v ∈ ys,(∀ k,v=.int k→k < 1)∧∀ q u r,v=.ref q→H q ≠ some (.tup (.ref u :: r))):a ≠ b:=fun z=>by
 subst z;obtain ⟨xs,e1,e2⟩:=R;rw [e1] at e;have e:=Option.some.inj e;injection e with e;subst e;obtain ⟨v,hv,h1,h2⟩:=h;rcases e2 v hv with ⟨k,rfl,hk⟩ | ⟨q,u,r,rfl,h3⟩
 ·have:=h1 k rfl;omega
 ·exact h2 q u r rfl h3
theorem Out.no {H:Hp} {a b:Addr} {o:HO} (R:Out H b) (e:H a=some o) (h:∀ xs,o ≠ .lst xs):a ≠ b:=fun z=>by
 subst z;obtain ⟨xs,e1,_⟩:=R;rw [e1] at e;exact h xs (Option.some.inj e).symm
theorem Oc.out {t:Adr} {H:Hp} {b c:Addr} {n:Int} {ds:List WD} {o:HO} (h:Oc t H c n ds) (R:Out H b) (hd:ds ≠ []):Oc t (upd H b o) c n ds:=by
 obtain ⟨h0,dx,wl,nd,e1,⟨as,w1,w2,al⟩,e3⟩:=h;have ne1:=R.no e1 (by intro xs z;cases z);have ne3:=R.no e3 (by intro xs z;cases z);have ne2:wl ≠ b:=R.ne w1 (by
  cases as with
  | nil=>exact absurd (List.length_eq_zero_iff.mp w2.symm) hd
  | cons x r=>
   cases ds with
   | nil=>exact absurd rfl hd
   | cons d ds=>
    refine ⟨.ref x,by simp,fun k e=>(by cases e),fun q u r' e=>?_⟩;cases e;obtain ⟨_,dxb,eb⟩:=al 0 x d rfl rfl;rw [eb];intro z;cases z)
 refine ⟨h0,dx,wl,nd,by rw [wb ne1];exact e1,⟨as,by rw [wb ne2];exact w1,w2,fun i x d hb hd=>?_⟩,by rw [wb ne3];exact e3⟩;obtain ⟨k,dxb,eb⟩:=al i x d hb hd;exact ⟨k,dxb,by rw [wb (R.no eb (by intro xs z;cases z))];exact eb⟩
theorem LO.out {H:Hp} {a b:Addr} {o:HO} {ps:List SD} (h:LO H a (ps.map sdO)) (R:Out H b) (hp:ps ≠ []):LO (upd H b o) a (ps.map sdO):=by
 obtain ⟨qs,l1,l2⟩:=h;have hl:qs.length=ps.length:=by rw [l2.1,List.length_map]
 have ne:a ≠ b:=R.ne l1 (by
  cases qs with
  | nil=>exact absurd (List.length_eq_zero_iff.mp hl.symm) hp
  | cons x r=>
   cases ps with
   | nil=>exact absurd rfl hp
   | cons d ds=>
    refine ⟨.ref x,by simp,fun k e=>(by cases e),fun q u r' e=>?_⟩;cases e;rw [l2.2 0 x (sdO d) rfl rfl];intro z;cases z)
 refine ⟨qs,by rw [wb ne];exact l1,l2.1,fun i q u hq hu=>?_⟩;have e:=l2.2 i q u hq hu;obtain ⟨x,_,rfl⟩:=Xb hu;rw [wb (R.no e (by intro xs z;cases z))];exact e
theorem NK.out {H:Hp} {p b:Addr} {o:HO} {ds:List WD} {f:WD→List V} {n:Nat} (h:NK H p ds (fun d=>.lst (f d)) n) (R:Out H b) (hf:∀ d ∈ ds,∃ v ∈ f d,(∀ q,v ≠ .ref q)∧∀ k,v=.int k→k < 1):NK (upd H b o) p ds (fun d=>.lst (f d)) n:=by
 obtain ⟨rs,hl,hp,al⟩:=h;refine ⟨rs,hl,by rw [wb (R.no hp (by intro xs z;cases z))];exact hp,fun i r d h1 h2=>?_⟩;have e:=al i r d h1 h2;obtain ⟨v,hv,hq,hk⟩:=hf d (List.mem_of_getElem? h2);rw [wb (R.ne e ⟨v,hv,hk,fun q u r' e=>absurd e (hq q)⟩)];exact e
theorem gI {z:Nat} (hz:0 < z) {b n:Int} (hb:0 ≤ b∧b < z) (hn:1 ≤ n∧n ≤ z):(0:Int) ∈ Bi z (Ko b n) dW.name:=by
 have u:=Hz hz (ps:=[(b,n)]) (fun q hq=>by rw [List.mem_singleton.mp hq];exact hn) (by simp) (t:=b.toNat) (by omega);have w:xz z b.toNat [(b,n)]=0:=by
  show min (z:Int) (Bm z b.toNat (b,n))=0;unfold Bm;rw [Int.toNat_of_nonneg hb.1,Int.sub_self,Int.zero_emod,if_pos (by show (0:Int) < n;omega)];omega
 rw [w] at u;unfold Bi;rw [show dW.name=Str.ofString "way" from rfl,of1];exact List.mem_of_getElem? u
theorem Tg.out {t:Adr} {H:Hp} {r a c:Addr} {z:Nat} {b n:Int} {o:HO} (h:Tg t H a c 5 [dW] z (Ko b n)) (R:Out H r) (hz:0 < z) (hb:0 ≤ b∧b < z) (hn:1 ≤ n∧n ≤ z):Tg t (upd H r o) a c 5 [dW] z (Ko b n):=by
 obtain ⟨dx,p,lm,un,e,C,L,N1,N2⟩:=h.at_;refine ⟨dx,p,lm,un,by rw [wb (R.no e (by intro xs z;cases z))];exact e,C.out R (by simp),L.out R (by unfold Ko;simp),N1.out R (fun d _=>?_),N2.out R (fun d hd=>?_)⟩
 ·have hl:(Vt z (Ko b n) d).length=z:=Nh _ _ _ _;obtain ⟨y,hy⟩:=List.exists_mem_of_length_pos (show 0 < (Vt z (Ko b n) d).length by omega);exact ⟨.str y,List.mem_map.mpr ⟨y,hy,rfl⟩,fun q e=>(by cases e),fun q e=>(by cases e)⟩
 ·rw [List.mem_singleton.mp hd];exact ⟨.int 0,List.mem_map.mpr ⟨0,gI hz hb hn,rfl⟩,fun q e=>(by cases e),fun k e=>(by cases e;decide)⟩
structure L1 (t:Adr) (H:Hp) (z:Nat) (q:Addr) (l:LD) (p:Int × Int):Prop where
 e:H q=some (lO l)
 pl:Tg t H l.pl l.c 5 [dW] z (Ko p.1 p.2)
 ln:l.n=5∧l.ds=[dW]∧l.sp=Ko p.1 p.2∧l.d=dW∧l.e=dW
 b:0 ≤ p.1∧p.1 < z
 m:1 ≤ p.2∧p.2 ≤ z
theorem L1.same {t:Adr} {H H':Hp} {z:Nat} {q:Addr} {l:LD} {p:Int × Int} (h:L1 t H z q l p) (s:Ob H H'):L1 t H' z q l p:=⟨s _ _ h.e,h.pl.same s,h.ln,h.b,h.m⟩
theorem L1.out {t:Adr} {H:Hp} {z:Nat} {q r:Addr} {l:LD} {p:Int × Int} {o:HO} (h:L1 t H z q l p) (R:Out H r) (hz:0 < z):L1 t (upd H r o) z q l p:=⟨by rw [wb (R.no h.e (by intro xs z;cases z))];exact h.e,h.pl.out R hz h.b h.m,h.ln,h.b,h.m⟩
structure LF (t:Adr) (H:Hp) (z:Nat) (lp fp:Addr) (qs:List Addr) (ls:List LD) (bn:List (Int × Int)) (ns:List Int):Prop where
 ne:lp ≠ fp
 e1:H lp=some (.lst (qs.map V.ref))
 e2:H fp=some (.lst (ns.map V.int))
 ql:qs.length=ls.length
 bl:bn.length=ls.length
 al:∀ (i:Nat) (q:Addr) (l:LD) (p:Int × Int),qs[i]? = some q→ls[i]? = some l→bn[i]? = some p→L1 t H z q l p
 ns1:∀ k ∈ ns,1 ≤ k
section
variable {t:Adr} {H H':Hp} {z:Nat} {lp fp:Addr} {qs:List Addr} {ls:List LD} {bn:List (Int × Int)} {ns:List Int}
theorem LF.same (h:LF t H z lp fp qs ls bn ns) (s:Ob H H'):LF t H' z lp fp qs ls bn ns:=⟨h.ne,s _ _ h.e1,s _ _ h.e2,h.ql,h.bl,fun i q l p a b c=>(h.al i q l p a b c).same s,h.ns1⟩
theorem LF.o1 (h:LF t H z lp fp qs ls bn ns):Out H lp:=⟨_,h.e1,fun v hv=>by
 obtain ⟨q,hq,rfl⟩:=List.mem_map.mp hv;obtain ⟨i,hi⟩:=List.getElem?_of_mem hq;have hil:=(List.getElem?_eq_some_iff.mp hi).1;have hl:ls[i]? = some (ls[i]'(by rw [← h.ql];exact hil)):=List.getElem?_eq_getElem _;have hb:bn[i]? = some (bn[i]'(by rw [h.bl,← h.ql];exact hil)):=List.getElem?_eq_getElem _;exact .inr ⟨q,_,_,rfl,(h.al i q _ _ hi hl hb).e⟩⟩
theorem LF.o2 (h:LF t H z lp fp qs ls bn ns):Out H fp:=⟨_,h.e2,fun v hv=>by
 obtain ⟨k,hk,rfl⟩:=List.mem_map.mp hv;exact .inl ⟨k,rfl,h.ns1 k hk⟩⟩
theorem LF.pushL (h:LF t H z lp fp qs ls bn ns) (hz:0 < z) {q:Addr} {l:LD} {p:Int × Int} (L:L1 t H z q l p):LF t (upd H lp (.lst (qs.map V.ref ++ [.ref q]))) z lp fp (qs ++ [q]) (ls ++ [l]) (bn ++ [p]) ns:=by
 have R:=h.o1;refine ⟨h.ne,by rw [db,List.map_append];rfl,by rw [wb h.ne.symm];exact h.e2,by rw [List.length_append,List.length_append,h.ql];rfl,by rw [List.length_append,List.length_append,h.bl];rfl,fun i q' l' p' a b c=>?_,h.ns1⟩;have hq:=h.ql;have hb:=h.bl;rcases Wh a with ⟨ia,a⟩ | ⟨ia,rfl⟩
 ·rcases Wh b with ⟨_,b⟩ | ⟨ib,_⟩
  ·rcases Wh c with ⟨_,c⟩ | ⟨ic,_⟩
   ·exact (h.al i q' l' p' a b c).out R hz
   ·omega
  ·omega
 ·rcases Wh b with ⟨ib,_⟩ | ⟨_,rfl⟩
  ·omega
  ·rcases Wh c with ⟨ic,_⟩ | ⟨_,rfl⟩
   ·omega
   ·exact L.out R hz
theorem LF.pushF (h:LF t H z lp fp qs ls bn ns) (hz:0 < z) {k:Int} (hk:1 ≤ k):LF t (upd H fp (.lst (ns.map V.int ++ [.int k]))) z lp fp qs ls bn (ns ++ [k]):=
 ⟨h.ne,by rw [wb h.ne];exact h.e1,by rw [db,List.map_append];rfl,h.ql,h.bl,fun i q l p a b c=>(h.al i q l p a b c).out h.o2 hz,fun x hx=>by
  rcases List.mem_append.mp hx with hx | hx
  ·exact h.ns1 x hx
  ·rw [List.mem_singleton.mp hx];exact hk⟩
theorem LF.line (h:LF t H z lp fp qs ls bn ns):Dj t H z lp ls:=by
 refine ⟨⟨qs,h.e1,by rw [h.ql,List.length_map],fun i q o hq ho=>?_⟩,fun l hl=>?_⟩
 ·obtain ⟨l,hl,rfl⟩:=Xb ho;have hb:bn[i]? = some (bn[i]'(by rw [h.bl];exact (List.getElem?_eq_some_iff.mp hl).1)):=List.getElem?_eq_getElem _;exact (h.al i q l _ hq hl hb).e
 ·obtain ⟨i,hi⟩:=List.getElem?_of_mem hl;have hil:=(List.getElem?_eq_some_iff.mp hi).1;have hq:qs[i]? = some (qs[i]'(by rw [h.ql];exact hil)):=List.getElem?_eq_getElem _;have hb:bn[i]? = some (bn[i]'(by rw [h.bl];exact hil)):=List.getElem?_eq_getElem _;have L:=h.al i _ l _ hq hi hb;obtain ⟨l1,l2,l3,l4,l5⟩:=L.ln;refine ⟨by rw [l1,l2,l3];exact L.pl,by rw [l4,l2];simp,by rw [l5,l2];simp⟩
theorem LF.ln73 (h:LF t H z lp fp qs ls bn ns):mJ z ls bn:=⟨h.bl.symm,fun k l p hl hp=>by
 have hil:=(List.getElem?_eq_some_iff.mp hl).1;have hq:qs[k]? = some (qs[k]'(by rw [h.ql];exact hil)):=List.getElem?_eq_getElem _;have L:=h.al k _ l p hq hl hp;exact ⟨L.ln.2.2.1,L.ln.2.2.2.1,L.ln.2.2.2.2,L.m⟩⟩
end
theorem Dj.copy {t:Adr} {H:Hp} {z:Nat} {p q:Addr} {ls:List LD} {qs:List Addr} (h:Dj t H z p ls) (e:H p=some (.lst (qs.map V.ref))) (e':H q=some (.lst (qs.map V.ref))):Dj t H z q ls:=by
 obtain ⟨⟨qs',l1,l2⟩,al⟩:=h;rw [e] at l1;have e1:=Option.some.inj l1;injection e1 with e1;have e2:qs=qs':=(List.map_inj_right (fun x y h=>by injection h)).mp e1;subst e2;exact ⟨⟨qs,e',l2⟩,al⟩
theorem mH:∀ l:List Int,l ≠ []→∃ m,m ∈ l∧∀ k ∈ l,m ≤ k
 | [],h=>absurd rfl h
 | [x],_=>⟨x,by simp,fun k hk=>by rw [List.mem_singleton.mp hk];exact Int.le_refl _⟩
 | x :: y :: l,_=>by
  obtain ⟨m,hm,al⟩:=mH (y :: l) (by simp);by_cases c:x ≤ m
  ·exact ⟨x,by simp,fun k hk=>by
    rcases List.mem_cons.mp hk with rfl | hk
    ·exact Int.le_refl _
    ·exact Int.le_trans c (al k hk)⟩
  ·exact ⟨m,List.mem_cons_of_mem _ hm,fun k hk=>by
    rcases List.mem_cons.mp hk with rfl | hk
    ·omega
    ·exact al k hk⟩
end My
namespace My
open PySem L2
noncomputable def SM (m:Nat) (g:Bool) (z:Nat):Prop:=(1 ≤ z∧z ≤ 240)∧(g=true→2000 < (z:Int) ^ (m - 1))∧(g=false→(z:Int) ^ (m - 1) ≤ 2000)
theorem TK {m z:Nat} (h:m=3∧45 ≤ z∨m=4∧13 ≤ z∨m=5∧7 ≤ z):2000 < (z:Int) ^ (m - 1):=by
 have:2000 < z ^ (m - 1):=by
  rcases h with ⟨rfl,h⟩ | ⟨rfl,h⟩ | ⟨rfl,h⟩
  ·exact Nat.lt_of_lt_of_le (show 2000 < 45 ^ 2 by decide) (Nat.pow_le_pow_left h 2)
  ·exact Nat.lt_of_lt_of_le (show 2000 < 13 ^ 3 by decide) (Nat.pow_le_pow_left h 3)
  ·exact Nat.lt_of_lt_of_le (show 2000 < 7 ^ 4 by decide) (Nat.pow_le_pow_left h 4)
 exact_mod_cast this
theorem QJ {m z:Nat} (h:m=2∧z ≤ 60∨m=3∧z ≤ 44∨m=4∧z ≤ 12∨m=5∧z ≤ 6):(z:Int) ^ (m - 1) ≤ 2000:=by
 have:z ^ (m - 1) ≤ 2000:=by
  rcases h with ⟨rfl,h⟩ | ⟨rfl,h⟩ | ⟨rfl,h⟩ | ⟨rfl,h⟩
  ·exact Nat.le_trans (Nat.pow_le_pow_left h 1) (by decide)
  ·exact Nat.le_trans (Nat.pow_le_pow_left h 2) (by decide)
  ·exact Nat.le_trans (Nat.pow_le_pow_left h 3) (by decide)
  ·exact Nat.le_trans (Nat.pow_le_pow_left h 4) (by decide)
 exact_mod_cast this
noncomputable def dH (K:PySem.W.Frag) (a:Addr) (ns:List Int):Sp:=fun vs H Q _=>∃ (m:Nat) (g:Bool),vs=[.ref a,.int m,.bl g]∧Sc K a ns H∧(2 ≤ m∧m ≤ 5)∧(g=true→2 < m)∧∀ z H',Ob H H'→Sc K a ns H'→SM m g z→Q (.int z) H'
theorem vC (x0 x1 x2 x3 x4 x5:Int) {m:Nat} (h:2 ≤ m∧m ≤ 5):∃ v,atI [V.int x0,V.int x1,V.int x2,V.int x3,V.int x4,V.int x5] ((m:Nat):Int)=some (.int v)∧(m=2→v=x2)∧(m=3→v=x3)∧(m=4→v=x4)∧(m=5→v=x5):=by
 have:m=2∨m=3∨m=4∨m=5:=by omega
 rcases this with rfl | rfl | rfl | rfl
 ·exact ⟨x2,Fc (j:=2) rfl,by omega,by omega,by omega,by omega⟩
 ·exact ⟨x3,Fc (j:=3) rfl,by omega,by omega,by omega,by omega⟩
 ·exact ⟨x4,Fc (j:=4) rfl,by omega,by omega,by omega,by omega⟩
 ·exact ⟨x5,Fc (j:=5) rfl,by omega,by omega,by omega,by omega⟩
section
variable {P:Program} {w:World} {K:PySem.W.Frag} {mg:Str→Option Value} {base:Heap} {t:Adr}
theorem ZK (T:Txt w K mg t) (a:Addr) (ns:List Int) (h63:ns.length ≤ 63):Eb P w K mg base CX0 2 t.Uh t.Zh q42 (dH K a ns):=by
 have g8:Eb P w K mg base CX0 1 t.Fg t.yg q27 (Qe K a ns):=WB T a ns h63;refine T.Ck.ok dn (fun vs H Q E h=>?_) (fun _ _ _ s H vs Q E hr h=>?_)
 ·obtain ⟨m,g,rfl,_⟩:=h;rfl
 obtain ⟨m,g,rfl,S,hm,hg,q⟩:=h;obtain ⟨v1,a1,b2,b3,b4,b5⟩:=vC 1 1 1 45 13 7 hm;obtain ⟨v2,a2,c2,c3,c4,c5⟩:=vC 0 0 0 44 12 6 hm;obtain ⟨v3,a3,e2,e3,e4,e5⟩:=vC 1 1 60 9 5 3 hm;refine ⟨_,(fb (yb (i:=3) dn.nd (uc Vc (dg (cb rb (cb rb (cb rb (cb rb (cb rb (cb rb gb))))))) (pv 1)))
   (fb (Se (Si (pv 2)) (lb (Db (bc Zd (pv 3) (ub g8 hr T.Ic T.rc.kp T.Hc (cb (pv 0) (cb rb (cb (Us (Zb vj (ub g8 hr T.Ic T.rc.kp T.Hc (cb (pv 0) (cb rb (cb rb gb)))) rb (Vb _)) (bc Wf rb (pv 3)) rb) gb))))))) jc)
   (fb (Se (PW.pt (jB (Zb jv (pv 1) rb (Vb _)) (cx (Zb vj (ub g8 hr T.Ic T.rc.kp T.Hc (cb (pv 0) (cb rb (cb rb gb)))) rb (Vb _))))) (lb (Db (bc Wf (uc Vc (dg (cb rb (cb rb (cb rb (cb rb (cb rb (cb rb gb))))))) (pv 1)) (ub g8 hr T.Ic T.rc.kp T.Hc (cb (pv 0) (cb rb (cb rb gb))))))) jc)
   (lb (Db (bc Zd rb (ub g8 hr T.Ic T.rc.kp T.Hc (cb (pv 0) (cb rb (cb (uc Vc (dg (cb rb (cb rb (cb rb (cb rb (cb rb (cb rb gb))))))) (pv 1)) gb)))))))))),?_⟩
 refine zS (fun σ' H'=>Ob H H'∧Sc K a ns H'∧σ'=[some (.ref a),some (.int (m:Nat)),some (.bl g),some (.int v1)]) (fun D' hD=>?_) fun zzM zzh=>?_
 ·walk_at "RD";exact ⟨by decide,fun p hp=>⟨_,SqL.of db,_,a1,hD _ _ ⟨jb hp,S.new hp,rfl⟩⟩⟩
 rintro σ1 H1 ⟨s1,S1,rfl⟩;subst zzh;simp only [Kb];refine vc (fun σ' H'=>H'=H1∧g=false∧σ'=[some (.ref a),some (.int (m:Nat)),some (.bl g),some (.int v1)]) (fun D' hD hrt _ _=>?_) ?_
 ·refine zc g (fun Q hQ=>?_) (fun c=>?_) (fun c=>?_)
  ·walk_at "RD";exact hQ
  ·subst c;(walk_at "RD"; repeat (dsimp only [Qe];walk_at "RD"));have hm2:=hg rfl;refine ⟨S1,by decide,by decide,by decide,?_⟩;by_cases c:rn ns 4 2=0
   ·rw [if_pos (decide_eq_true c)];have d1:=pk ns 3 (m:=241 - v1) (by omega);have d2:=Fk ns 3 (m:=241 - v1) (by omega);obtain ⟨z,hz⟩:∃ z:Nat,v1 + rn ns 3 (241 - v1)=(z:Int):=⟨(v1 + rn ns 3 (241 - v1)).toNat,by omega⟩;rw [hz,hrt];exact ⟨S1,by decide,by decide,by omega,q z _ s1 S1 ⟨by omega,fun _=>TK (by omega),fun h=>nomatch h⟩⟩
   ·rw [if_neg (by simpa using c)];have d1:=pk ns 3 (m:=2) (by decide);have d2:=Fk ns 3 (m:=2) (by decide);obtain ⟨z,hz⟩:∃ z:Nat,v1 + rn ns 3 2=(z:Int):=⟨(v1 + rn ns 3 2).toNat,by omega⟩;rw [hz,hrt];exact ⟨S1,by decide,by decide,by decide,q z _ s1 S1 ⟨by omega,fun _=>TK (by omega),fun h=>nomatch h⟩⟩
  ·walk_at "RD";exact hD _ _ ⟨rfl,c,rfl⟩
 rintro σ2 H2 ⟨rfl,rfl,rfl⟩;simp only [Kb];refine vc (fun σ' H'=>H'=H2∧σ'=[some (.ref a),some (.int (m:Nat)),some (.bl false),some (.int v1)]) (fun D' hD hrt _ _=>?_) ?_
 ·refine zc (decide (2 < m) && decide (rn ns 4 6=0)) (fun Q hQ=>?_) (fun c=>?_) (fun c=>?_)
  ·(walk_at "RD"; repeat (dsimp only [Qe];walk_at "RD"));by_cases c:2 < m
   ·rw [if_pos (decide_eq_true (by omega))];rw [decide_eq_true c,Bool.true_and] at hQ;exact ⟨S1,by decide,by decide,by decide,hQ⟩
   ·rw [if_neg (by simpa using (show ¬ (2:Int) < m by omega))];rw [decide_eq_false c,Bool.false_and] at hQ;exact hQ
  ·(walk_at "RD"; repeat (dsimp only [Qe];walk_at "RD"));rw [Bool.and_eq_true] at c;have c:=of_decide_eq_true c.1;have d1:=pk ns 5 (m:=2) (by decide);have d2:=Fk ns 5 (m:=2) (by decide);obtain ⟨z,hz⟩:∃ z:Nat,v2 - rn ns 5 2=(z:Int):=⟨(v2 - rn ns 5 2).toNat,by omega⟩;refine ⟨by decide,fun p hp=>⟨_,SqL.of db,_,a2,S1.new hp,by decide,by decide,by decide,_,rfl,?_⟩⟩;rw [hz,hrt];exact q z _ (s1.trans (jb hp)) (S1.new hp) ⟨by omega,fun h=>(nomatch h),fun _=>QJ (by omega)⟩
  ·walk_at "RD";exact hD _ _ ⟨rfl,rfl⟩
 rintro σ3 H3 ⟨rfl,rfl⟩;(walk_at "RD"; repeat (dsimp only [Qe];walk_at "RD"));refine ⟨by decide,fun p hp=>⟨_,SqL.of db,_,a3,_,rfl,S1.new hp,by decide,by decide,by omega,?_⟩⟩;have d1:=pk ns 3 (m:=v3) (by omega);have d2:=Fk ns 3 (m:=v3) (by omega);obtain ⟨z,hz⟩:∃ z:Nat,1 + rn ns 3 v3=(z:Int):=⟨(1 + rn ns 3 v3).toNat,by omega⟩;rw [hz];exact q z _ (s1.trans (jb hp)) (S1.new hp) ⟨by omega,fun h=>(nomatch h),fun _=>QJ (by omega)⟩
end
end My
namespace My
open PySem L2
theorem uM:Str.ofString "ring 5\nfoot way 0 2 0 0 1"=ww 5 [dW]:=by decide +kernel
theorem AM:COk 5 [dW]:=⟨by decide,by decide,fun d hd=>by rw [List.mem_singleton.mp hd];exact ⟨by decide,by decide +kernel,by decide,by decide,by decide,by decide,by decide,by decide⟩,by simp⟩
theorem CN (b n:Int):Gu [dW] (Ko b n)=none:=FN fun d hd=>by
 rw [List.mem_singleton.mp hd];exact ⟨⟨Str.ofString "way",b,n⟩,by unfold Ko;simp,rfl⟩
theorem zJ:wOf [dW] (Str.ofString "way")=some dW:=by
 unfold wOf;rw [List.find?_cons_of_pos (by decide +kernel)]
theorem GN {z:Nat} {b n:Int} (hn:1 ≤ n∧n ≤ z):qv [dW] z (Ko b n)=none:=rC (Oy b n) fun s hs=>by
 rw [List.mem_singleton.mp (show s ∈ [_] from hs)];exact ⟨dW,zJ,hn.1,by show n + 0 + 0 ≤ _;omega⟩
theorem AN {z:Nat} (b n:Int):vv 5 z (Ko b n) [dW]=none:=vN fun d hd e he hne=>by
 rw [List.mem_singleton.mp hd,List.mem_singleton.mp he] at hne;exact absurd rfl hne
section
variable {P:Program} {w:World} {K:PySem.W.Frag} {mg:Str→Option Value} {base:Heap} {t:Adr}
theorem CK (T:Txt w K mg t):Eb P w K mg base CX0 11 t.ZI t.jG ["_law_script"] (gL K):=by
 refine T.DM.ok kf (fun vs H Q E h=>?_) (fun _ _ _ s H vs Q E hr h=>?_)
 ·obtain ⟨a,ns,rfl,_⟩:=h;rfl
 obtain ⟨a,ns,rfl,S0,h63,q⟩:=h;have g8:Eb P w K mg base CX0 10 t.Fg t.yg q27 (Qe K a ns):=(WB T a ns h63).mono (by decide);have g59:Eb P w K mg base CX0 10 t.Uh t.Zh q42 (dH K a ns):=(ZK T a ns h63).mono (by decide);have g60:Eb P w K mg base CX0 10 t.df t.Re ["text"] (MK t):=(TL T).mono (by decide);have g61:Eb P w K mg base CX0 10 t.Qh t.ai q41 (Ly t):=(SE T).mono (by decide);have g62:Eb P w K mg base (CX1 P w) 10 t.Zn t.Yn q11 (cz t):=UE T;have g63:Eb P w K mg base CX0 10 t.Zg t.Ug q31 (Gx t):=(EF T).mono (by decide);have g64:Eb P w K mg base CX0 10 t.Jk t.Nl q32 (FG t):=(DJ T).mono (by decide);refine ⟨_,(fb (yb (i:=1) kf.nd (bc Zd rb (ub g8 hr T.Ic T.rc.kp T.Hc (cb (pv 0) (cb rb (cb rb gb))))))
   (fb (yb (i:=2) kf.nd (Br (je jv (pv 1) rb (Vb _)) (Wp (je vj (ub g8 hr T.Ic T.rc.kp T.Hc (cb (pv 0) (cb rb (cb rb gb)))) rb (Vb _)))))
   (fb (FC (i:=3) kf.nd rfl (Or.inr rfl) (ub g59 hr T.vw T.Ck.kp T.Mw (cb (pv 0) (cb (pv 1) (cb (pv 2) gb)))))
   (fb (yb (i:=4) kf.nd (dg gb))
   (fb (yb (i:=5) kf.nd (dg gb))
   (fb (fe PassesOwn.never rfl (Pd rfl T.Ve (cb (pv 1) gb)) (qb (i:=6) kf.nd) (fb (yb (i:=7) kf.nd (ub g60 hr T.ap T.zg.kp T.Zo (cb Vd gb)))
   (fb (yb (i:=8) kf.nd (bc Zd rb (ub g8 hr T.Ic T.rc.kp T.Hc (cb (pv 0) (cb (bc Zd rb (pv 6)) (cb (pv 3) gb))))))
   (fb (Uc (Tu PySem.F.plainAttrs_list PySem.F.slot_list_append PySem.F.type_list_append Mh (pv 4) (cb (Di (cb (ub g61 hr T.Cw T.Bk.kp T.Vv (cb (pv 7) (cb (pv 3) (cb (dg (cb (Di (cb Vd (cb (ub g8 hr T.Ic T.rc.kp T.Hc (cb (pv 0) (cb (bc Zd rb (pv 6)) (cb (pv 3) gb)))) (cb (pv 8) gb)))) gb)) gb)))) (cb Vd (cb Vd gb)))) gb)))
   (lb (Uc (Tu PySem.F.plainAttrs_list PySem.F.slot_list_append PySem.F.type_list_append Mh (pv 5) (cb (pv 8) gb))))))))
   (fb (vf (i:=9) kf.nd rfl (Or.inl rfl) rfl (Pd rfl T.Ve (cb (bc Wf (pv 1) rb) gb)) (Lc (sc:=pb rE) rfl (by decide +kernel)) (N:=q48) (sel:=[none,some 0]) (yd (M:=q43) (by decide +kernel)) (Blk.of (fun _ _ _ _=>(qb (i:=0) (Dg (N:=q48) (by decide +kernel) rfl))) (fun _ _ _ _=>⟨_,rf,by walk_at "B"⟩) (fun _ _ _ _=>⟨_,(ub g8 hr T.Ic T.rc.kp T.Hc (cb (pv 1) (cb (bc Zd rb (pv 0)) (cb rb gb)))),by walk_at "B"⟩)) rfl)
   (fb (vf (i:=10) kf.nd rfl (Or.inl rfl) rfl (Pd rfl T.Ve (cb (bc Wf (pv 1) rb) gb)) (Lc (sc:=pb rE) rfl (by decide +kernel)) (N:=q48) (sel:=[none,some 0]) (yd (M:=q43) (by decide +kernel)) (Blk.of (fun _ _ _ _=>(qb (i:=0) (Dg (N:=q48) (by decide +kernel) rfl))) (fun _ _ _ _=>⟨_,rf,by walk_at "B"⟩) (fun _ _ _ _=>⟨_,(ub g8 hr T.Ic T.rc.kp T.Hc (cb (pv 1) (cb (bc Zd rb (pv 0)) (cb rb gb)))),by walk_at "B"⟩)) rfl)
   (fb (yb (i:=11) kf.nd Jl)
   (fb (yb (i:=12) kf.nd Jl)
   (fb (XH (i:=13) (fun _ _=>⟨_,(lb (yb (i:=12) kf.nd (VE g62 hr rfl T.yF T.Bt.kp T.qG .nil RI (cb (Nd Dd rfl T.vi md (cb (pv 4) gb)) (cb (Nd Dd rfl T.vi md (cb (pv 9) gb)) (cb (Nd Dd rfl T.vi md (cb (pv 10) gb)) gb)))))),by first | rfl | (dsimp only [Cx.tr,Cx.hn];done) | (dsimp only [Cx.tr,Cx.hn];exact rfl)⟩) rfl T.Pw (fun _=>⟨_,(lb (yb (i:=11) kf.nd (pv 13))),by first | rfl | (dsimp only [Cx.tr,Cx.hn];done) | (dsimp only [Cx.tr,Cx.hn];exact rfl)⟩) kf.nd rfl rfl)
   (fb (vf (i:=14) kf.nd rfl (Or.inl rfl) rfl (Pd rfl T.Ve (cb (pv 1) gb)) (Lc (sc:=pb rE) rfl (by decide +kernel)) (N:=["_law_k","_law_script","_law_size_here"]) (sel:=[none,some 0,some 3]) (yd (M:=q43) (by decide +kernel)) (Blk.of (fun _ _ _ _=>(qb (i:=0) (Dg (N:=["_law_k","_law_script","_law_size_here"]) (by decide +kernel) rfl))) (fun _ _ _ _=>⟨_,rf,by walk_at "B"⟩) (fun _ _ _ _=>⟨_,(ub g8 hr T.Ic T.rc.kp T.Hc (cb (pv 1) (cb (bc Zd rb (pv 0)) (cb (pv 2) gb)))),by walk_at "B"⟩)) rfl)
   (fb (yb (i:=15) kf.nd (ub g63 hr T.fu T.Qi.kp T.xu (cb (Nd Dd rfl T.vi md (cb (pv 4) gb)) (cb (Nd Dd rfl T.vi md (cb (pv 9) gb)) (cb (Nd Dd rfl T.vi md (cb (pv 10) gb)) (cb (pv 14) gb))))))
   (fb (Se (PW.pt (yu (Zb jv (Pb (DB rfl) rfl T.pK Lr (cb (pv 15) gb)) (Pb (av rfl) rfl T.QF Gm (cb (pv 5) gb)) (Vb _)) (No (Zb KB (Pb Gb rfl T.di Tb (cb (ub g64 hr T.EC T.Ho.kp T.fD (cb (Nd Dd rfl T.vi md (cb (pv 4) gb)) (cb (Nd Dd rfl T.vi md (cb (pv 9) gb)) (cb (pv 14) (cb rb gb))))) gb)) (pv 1) (Vb _))))) (lb (Db qw)) jc)
   (fb (Se (Zm (Si (pv 2))) (lb (Db (Br (je wE (pv 11) Jl (Vb _)) (Br (je vj (Pb Gb rfl T.di Tb (cb (uc Lg (pv 12) rb) gb)) (pv 1) (Vb _)) (Wp (je sL (uc Lg (pv 12) rb) (Pb (av rfl) rfl T.QF Gm (cb (pv 5) gb)) (Vb _))))))) jc)
   (fb (Se (PW.pt (yu (Zb wE (pv 11) Jl (Vb _)) (yu (Zm (Si (Pb zB rfl T.fh we (cb (pv 11) (cb (Jd (v:=.ref t.Ib) rfl T.lu rfl) gb))))) (No (Zm (Si (Pb dA rfl T.fh we (cb (pv 11) (cb (WH (v:=.ty "ValueError") rfl T.Pu Mm rfl) gb))))))))) (lb (Db qw)) jc)
   (lb (Db (Br (tH (Pb Gr rfl T.fh we (cb (pv 11) (cb (Di (cb (Jd (v:=.ref t.Mt) rfl T.uI rfl) (cb (Jd (v:=.ref t.uo) rfl T.bF rfl) (cb (Jd (v:=.ref t.ko) rfl T.lG rfl) (cb (Jd (v:=.ref t.At) rfl T.jI rfl) gb))))) gb)))) (Wp (tH (Pb Gr rfl T.fh we (cb (pv 11) (cb (Di (cb (Jd (v:=.ref t.Fs) rfl T.kI rfl) (cb (Jd (v:=.ref t.Jt) rfl T.UI rfl) (cb (Jd (v:=.ref t.Ys) rfl T.vI rfl) gb)))) gb)))))))))))))))))))))))),?_⟩
 refine zS (fun σ' H'=>H'=H∧∃ m:Nat,(2 ≤ m∧m ≤ 5)∧σ'=[some (.ref a),some (.int (m:Nat)),none,none,none,none,none,none,none,none,none,none,none,none,none,none]) (fun D' hD=>?_) fun zzM zzh=>?_
 ·have d1:=pk ns 0 (m:=4) (by decide);have d2:=Fk ns 0 (m:=4) (by decide);obtain ⟨m,hm⟩:∃ m:Nat,2 + rn ns 0 4=(m:Int):=⟨(2 + rn ns 0 4).toNat,by omega⟩;(walk_at "RD"; repeat (dsimp only [Qe];walk_at "RD"));rw [hm];exact ⟨S0,by decide,by decide,by decide,hD _ _ ⟨rfl,m,by omega,rfl⟩⟩
 rintro σ1 H1 ⟨rfl,m,hm,rfl⟩;subst zzh;refine zS (fun σ' H'=>H'=H1∧∃ g:Bool,(g=true→2 < m)∧σ'=[some (.ref a),some (.int (m:Nat)),some (.bl g),none,none,none,none,none,none,none,none,none,none,none,none,none]) (fun D' hD=>?_) fun zzM zzh=>?_
 ·(walk_at "RD"; repeat (dsimp only [Qe];walk_at "RD"));by_cases c:2 < m
  ·rw [if_pos (decide_eq_true (by omega))];exact ⟨S0,by decide,by decide,by decide,hD _ _ ⟨rfl,_,fun _=>c,rfl⟩⟩
  ·rw [if_neg (by simpa using (show ¬ (2:Int) < m by omega))];exact hD _ _ ⟨rfl,false,fun h=>(nomatch h),rfl⟩
 rintro σ2 H2 ⟨rfl,g,hg,rfl⟩;subst zzh;refine zS (fun σ' H'=>Ob H2 H'∧Sc K a ns H'∧∃ z:Nat,SM m g z∧σ'=[some (.ref a),some (.int (m:Nat)),some (.bl g),some (.int (z:Nat)),none,none,none,none,none,none,none,none,none,none,none,none]) (fun D' hD=>?_) fun zzM zzh=>?_
 ·walk_at "RD";exact ⟨m,g,rfl,S0,hm,hg,fun z H' s' S' hz=>hD _ _ ⟨s',S',z,hz,rfl⟩⟩
 rintro σ3 H3 ⟨s3,S3,z,hz,rfl⟩;obtain ⟨hz1,hzg,hzs⟩:=id hz;subst zzh;refine zS (fun σ' H'=>Sc K a ns H'∧∃ lp,H' lp=some (.lst [])∧σ'=[some (.ref a),some (.int (m:Nat)),some (.bl g),some (.int (z:Nat)),some (.ref lp),none,none,none,none,none,none,none,none,none,none,none]) (fun D' hD=>?_) fun zzM zzh=>?_
 ·walk_at "RD";exact ⟨Nat.zero_le _,fun lp hlp=>hD _ _ ⟨S3.new hlp,lp,db,rfl⟩⟩
 rintro σ4 H4 ⟨S4,lp,l4,rfl⟩;subst zzh;refine zS (fun σ' H'=>Sc K a ns H'∧∃ fp,LF t H' z lp fp [] [] [] []∧σ'=[some (.ref a),some (.int (m:Nat)),some (.bl g),some (.int (z:Nat)),some (.ref lp),some (.ref fp),none,none,none,none,none,none,none,none,none,none]) (fun D' hD=>?_) fun zzM zzh=>?_
 ·walk_at "RD";exact ⟨Nat.zero_le _,fun fp hfp=>hD _ _ ⟨S4.new hfp,fp,⟨Bb l4 hfp,(jb hfp) _ _ l4,db,rfl,rfl,fun i q l p h=>by simp at h,fun k h=>by simp at h⟩,rfl⟩⟩
 rintro σ5 H5 ⟨S5,fp,F5,rfl⟩;subst zzh;refine zS (fun σ' H'=>Sc K a ns H'∧∃ qs ls bn x6 x7 x8,LF t H' z lp fp qs ls bn (bn.map (·.2))∧ls.length=m∧σ'=[some (.ref a),some (.int (m:Nat)),some (.bl g),some (.int (z:Nat)),some (.ref lp),some (.ref fp),x6,x7,x8,none,none,none,none,none,none,none]) (fun D' hD=>?_) fun zzM zzh=>?_
 ·walk_at "RD";refine ⟨by omega,by omega,?_⟩;rw [show (m:Int).toNat=m by omega];refine Ei.range (fun i σ H'=>Sc K a ns H'∧∃ qs ls bn x6 x7 x8,LF t H' z lp fp qs ls bn (bn.map (·.2))∧ls.length=i∧σ=[some (.ref a),some (.int (m:Nat)),some (.bl g),some (.int (z:Nat)),some (.ref lp),some (.ref fp),x6,x7,x8,none,none,none,none,none,none,none]) ⟨S5,[],[],[],_,_,_,F5,rfl,rfl⟩ ?_ ?_
  ·rintro i σ H' hi zzq;refine zP fun zzM zzh=>?_
   obtain ⟨SA,qs,ls,bn,x6,x7,x8,FA,hl,rfl⟩:=zzq;subst zzh;simp only [Qk,Kb,List.set_cons_succ,List.set_cons_zero,Int.zero_add];refine zzC (fun σ' H2=>Ob H' H2∧Sc K a ns H2∧∃ c,Oc t H2 c 5 [dW]∧σ'=[some (.ref a),some (.int (m:Nat)),some (.bl g),some (.int (z:Nat)),some (.ref lp),some (.ref fp),some (.int (i:Nat)),some (.ref c),x8,none,none,none,none,none,none,none]) (fun D' hD=>?_) fun zzM zzh=>?_
   ·walk_at "RD";exact ⟨5,[dW],by rw [uM],AM,SA.nt,fun c H2 s2 n2 C2=>hD _ _ ⟨s2,SA.same s2 n2,c,C2,rfl⟩⟩
   rintro σB HB ⟨sB,SB,c,CB,rfl⟩;subst zzh;simp only [Kb];refine zzC (fun σ' H2=>H2=HB∧∃ k:Int,(1 ≤ k∧k ≤ z)∧σ'=[some (.ref a),some (.int (m:Nat)),some (.bl g),some (.int (z:Nat)),some (.ref lp),some (.ref fp),some (.int (i:Nat)),some (.ref c),some (.int k),none,none,none,none,none,none,none]) (fun D' hD=>?_) fun zzM zzh=>?_
   ·have d1:=pk ns (20 + (i:Int)) (m:=z) (by omega);have d2:=Fk ns (20 + (i:Int)) (m:=z) (by omega);(walk_at "RD"; repeat (dsimp only [Qe];walk_at "RD"));exact ⟨SB,by omega,by omega,by omega,hD _ _ ⟨rfl,_,by omega,rfl⟩⟩
   rintro σC HC ⟨rfl,k,hk,rfl⟩;have FB:=FA.same sB;subst zzh;simp only [Kb];refine zzC (fun σ' H2=>Sc K a ns H2∧∃ q l b,LF t H2 z lp fp (qs ++ [q]) (ls ++ [l]) (bn ++ [(b,k)]) (bn.map (·.2))∧σ'=[some (.ref a),some (.int (m:Nat)),some (.bl g),some (.int (z:Nat)),some (.ref lp),some (.ref fp),some (.int (i:Nat)),some (.ref c),some (.int k),none,none,none,none,none,none,none]) (fun D' hD=>?_) fun zzM zzh=>?_
   ·have d1:=pk ns (30 + (i:Int)) (m:=z) (by omega);have d2:=Fk ns (30 + (i:Int)) (m:=z) (by omega);(walk_at "RD"; repeat (dsimp only [Qe];walk_at "RD"));obtain ⟨bb,hbb⟩:∃ bb,bb=rn ns (30 + (i:Int)) z:=⟨_,rfl⟩;rw [← hbb] at d1 d2;rw [← hbb];refine ⟨.inl ⟨_,SqL.of FB.e1⟩,SB,by omega,by omega,by omega,by decide,fun p hp=>⟨by decide,fun p1 hp1=>?_⟩⟩;have sx:=(jb (o:=.tup [.str (Str.ofString "way"),.int bb,.int k]) hp).trans (jb (o:=.lst [.ref p]) hp1);have Sx:=(SB.new (o:=.tup [.str (Str.ofString "way"),.int bb,.int k]) hp).new (o:=.lst [.ref p]) hp1;have L1':LO (upd (upd HC p (.tup [.str (Str.ofString "way"),.int bb,.int k])) p1 (.lst [.ref p])) p1 ((Ko bb k).map sdO):=⟨[p],db,LQ.one ((jb hp1) _ _ db)⟩;generalize upd (upd HC p (.tup [.str (Str.ofString "way"),.int bb,.int k])) p1 (.lst [.ref p])=HX at sx Sx L1' ⊢;refine ⟨c,5,[dW],z,p1,Ko bb k,rfl,CB.same sx,by decide,fun d hd=>by rw [List.mem_singleton.mp hd];exact ⟨by decide,by decide⟩,by omega,L1',⟨by show 1 ≤ 100;decide,fun sd hsd=>by rw [List.mem_singleton.mp (show sd ∈ [_] from hsd)];dsimp only;omega⟩,fun sd hsd=>by rw [List.mem_singleton.mp (show sd ∈ [_] from hsd)];exact ⟨dW,zJ⟩,Sx.nt,CN bb k,GN hk,AN bb k,fun pl H2 s2 n2 PA=>⟨by decide,fun q hq=>?_⟩⟩;have sy:=(sx.trans s2).trans (jb (o:=.tup [.ref pl,.str (Str.ofString "way"),.str (Str.ofString "way")]) hq);have Sy:=(Sx.same s2 n2).new (o:=.tup [.ref pl,.str (Str.ofString "way"),.str (Str.ofString "way")]) hq;have F2:=FB.same sy;have P2:=PA.same (jb (o:=.tup [.ref pl,.str (Str.ofString "way"),.str (Str.ofString "way")]) hq);have hq2:upd H2 q (.tup [.ref pl,.str (Str.ofString "way"),.str (Str.ofString "way")]) q=some (.tup [.ref pl,.str (Str.ofString "way"),.str (Str.ofString "way")]):=db;generalize upd H2 q (.tup [.ref pl,.str (Str.ofString "way"),.str (Str.ofString "way")])=HY at sy Sy F2 P2 hq2 ⊢;refine ⟨_,F2.e1,Nat.lt_of_le_of_lt (show _ ≤ 5 by rw [List.length_map,F2.ql];omega) (by decide),hD _ _ ⟨Sy.set F2.e1 (fun _ _ z=>by cases z),q,⟨pl,c,5,[dW],Ko bb k,dW,dW⟩,bb,F2.pushL (by omega) ⟨hq2,P2,⟨rfl,rfl,rfl,rfl,rfl⟩,by dsimp only;omega,hk⟩,rfl⟩⟩
   rintro σD HD ⟨SD,q',l,b,FD,rfl⟩;subst zzh;walk_at "RD";refine ⟨.inl ⟨_,SqL.of FD.e2⟩,_,FD.e2,Nat.lt_of_le_of_lt (show _ ≤ 5 by have:=FA.bl;rw [List.length_map,List.length_map];omega) (by decide),SD.set FD.e2 (fun _ _ z=>by cases z),qs ++ [q'],ls ++ [l],bn ++ [(b,k)],by rw [List.map_append];exact FD.pushF (by omega) hk.1,by rw [List.length_append,hl];rfl,?_⟩
   repeat (first | exact ⟨_,rfl⟩ | refine ⟨⟨_,rfl⟩,?_⟩)
  ·rintro σ H' zzq;refine zP fun zzM zzh=>?_
   obtain ⟨SA,qs,ls,bn,x6,x7,x8,FA,hl,rfl⟩:=zzq;subst zzh;exact hD _ _ ⟨SA,qs,ls,bn,x6,x7,x8,FA,hl,rfl⟩
 rintro σ6 H6 ⟨S6,qs,ls,bn,x6,x7,x8,F6,hls,rfl⟩;have hbn:=F6.bl;subst zzh;refine zS (fun σ' H'=>Ob H6 H'∧Sc K a ns H'∧∃ a9 fs,H' a9=some (.lst (Yb fs))∧fs.length + 1=m∧σ'=[some (.ref a),some (.int (m:Nat)),some (.bl g),some (.int (z:Nat)),some (.ref lp),some (.ref fp),x6,x7,x8,some (.ref a9),none,none,none,none,none,none]) (fun D' hD=>?_) fun zzM zzh=>?_
 ·walk_at "RD";refine ⟨by omega,by omega,?_⟩;refine vd.range_map (fun i=>V.int (rn ns (40 + (i:Int)) 1000)) (Nat.le_trans (show _ ≤ 5 by omega) (by decide)) (fun i N hi hN=>?_) (fun p hp=>hD _ _ ⟨jb hp,S6.new hp,p,(List.range ((m:Int) - 1).toNat).map fun i:Nat=>rn ns (40 + (i:Int)) 1000,by rw [db];unfold Yb;rw [List.map_map];rfl,by rw [List.length_map,List.length_range];omega,rfl⟩);(walk_at "RD"; repeat (dsimp only [Qe];walk_at "RD"));exact ⟨Sub.name,S6,by omega,by omega,by omega,hN⟩
 rintro σ7 H7 ⟨s7,S7,a9,fs,e9,hfs,rfl⟩;subst zzh;refine zS (fun σ' H'=>Ob H7 H'∧Sc K a ns H'∧∃ a10 bs,H' a10=some (.lst (Yb bs))∧bs.length + 1=m∧σ'=[some (.ref a),some (.int (m:Nat)),some (.bl g),some (.int (z:Nat)),some (.ref lp),some (.ref fp),x6,x7,x8,some (.ref a9),some (.ref a10),none,none,none,none,none]) (fun D' hD=>?_) fun zzM zzh=>?_
 ·walk_at "RD";refine ⟨by omega,by omega,?_⟩;refine vd.range_map (fun i=>V.int (rn ns (50 + (i:Int)) 1000)) (Nat.le_trans (show _ ≤ 5 by omega) (by decide)) (fun i N hi hN=>?_) (fun p hp=>hD _ _ ⟨jb hp,S7.new hp,p,(List.range ((m:Int) - 1).toNat).map fun i:Nat=>rn ns (50 + (i:Int)) 1000,by rw [db];unfold Yb;rw [List.map_map];rfl,by rw [List.length_map,List.length_range];omega,rfl⟩);(walk_at "RD"; repeat (dsimp only [Qe];walk_at "RD"));exact ⟨Sub.name,S7,by omega,by omega,by omega,hN⟩
 rintro σ8 H8 ⟨s8,S8,a10,bs,e10,hbs,rfl⟩;have F8:=(F6.same s7).same s8;have e9:=s8 _ _ e9;subst zzh;refine zS (fun σ' H'=>H'=H8∧σ'=[some (.ref a),some (.int (m:Nat)),some (.bl g),some (.int (z:Nat)),some (.ref lp),some (.ref fp),x6,x7,x8,some (.ref a9),some (.ref a10),some .non,none,none,none,none]) (fun D' hD=>?_) fun zzM zzh=>?_
 ·walk_at "RD";exact hD _ _ ⟨rfl,rfl⟩
 rintro σ9 H9 ⟨rfl,rfl⟩;subst zzh;refine zS (fun σ' H'=>H'=H9∧σ'=[some (.ref a),some (.int (m:Nat)),some (.bl g),some (.int (z:Nat)),some (.ref lp),some (.ref fp),x6,x7,x8,some (.ref a9),some (.ref a10),some .non,some .non,none,none,none]) (fun D' hD=>?_) fun zzM zzh=>?_
 ·walk_at "RD";exact hD _ _ ⟨rfl,rfl⟩
 rintro σ10 H10 ⟨rfl,rfl⟩;subst zzh;simp only [Kb];have hp12:(z:Int) ^ (m - 1) < 10 ^ 12:=by
  have h1:z ^ (m - 1) ≤ 240 ^ 4:=Nat.le_trans (Nat.pow_le_pow_left hz1.2 _) (Nat.pow_le_pow_right (by decide) (by omega));have h2:(240:Nat) ^ 4 < 10 ^ 12:=by decide
  exact_mod_cast Nat.lt_of_le_of_lt h1 h2
 refine zzC (fun σ' H'=>Ob H10 H'∧Sc K a ns H'∧∃ x11 x12 x13,(g=true→∃ x,x11=some (.ref x)∧H' x=some (.ext (XA x t.Ib none)))∧(g=false→x11=some .non∧∃ p s,x12=some (.ref p)∧H' p=some (r3O (tz z fs bs ls) s)∧H' s=some (.lst (Yb (0 :: (tz z fs bs ls).2.2))))∧σ'=[some (.ref a),some (.int (m:Nat)),some (.bl g),some (.int (z:Nat)),some (.ref lp),some (.ref fp),x6,x7,x8,some (.ref a9),some (.ref a10),x11,x12,x13,none,none]) (fun D' hD=>?_) fun zzM zzh=>?_
 ·walk_at "RD";refine ⟨_,.inl (SqL.of F8.e1),fun l hl=>⟨_,.inl (SqL.of ((jb hl) _ _ e9)),fun l1 hl1=>⟨_,.inl (SqL.of (((jb hl).trans (jb hl1)) _ _ e10)),fun l2 hl2=>?_⟩⟩⟩;have sx:=((jb (o:=.lst (qs.map V.ref)) hl).trans (jb (o:=.lst (Yb fs)) hl1)).trans (jb (o:=.lst (Yb bs)) hl2);have Sx:=((S8.new (o:=.lst (qs.map V.ref)) hl).new (o:=.lst (Yb fs)) hl1).new (o:=.lst (Yb bs)) hl2;have I3:LIn t (upd (upd (upd H10 l (.lst (qs.map V.ref))) l1 (.lst (Yb fs))) l2 (.lst (Yb bs))) l l1 l2 z ls fs bs:=⟨(F8.line.same sx).copy (sx _ _ F8.e1) (((jb hl1).trans (jb hl2)) _ _ db),(jb hl2) _ _ db,db,by omega,by omega,by omega,by omega⟩;generalize upd (upd (upd H10 l (.lst (qs.map V.ref))) l1 (.lst (Yb fs))) l2 (.lst (Yb bs))=HX at sx Sx I3 ⊢;refine ⟨l,l1,l2,z,ls,fs,bs,rfl,I3,by omega,by rw [hls];exact hp12,Sx.nt,fun hle p s' H' sH nH ep es _=>?_,fun hgt H' sH nH=>?_⟩
  ·rw [hls] at hle;exact hD _ _ ⟨sx.trans sH,Sx.same sH nH,_,_,_,fun h=>absurd (hzg h) (by omega),fun h=>⟨rfl,p,s',rfl,ep,es⟩,rfl⟩
  ·rw [hls] at hgt;refine ⟨t.Ib,rfl,T.tj,fun x hx=>?_⟩;walk_at "RD";exact hD _ _ ⟨sx.trans sH,Sx.same sH nH,_,_,_,fun _=>⟨x,rfl,hx⟩,fun h=>absurd (hzs h) (by omega),rfl⟩
 rintro σ11 H11 ⟨s11,S11,x11,x12,x13,hg1,hg0,rfl⟩;subst zzh;dsimp only;have F11:=F8.same s11;have e9:=s11 _ _ e9;have e10:=s11 _ _ e10;simp only [Kb];refine zzC (fun σ' H'=>Ob H11 H'∧Sc K a ns H'∧∃ a14 sh,H' a14=some (.lst (Yb sh))∧sh.length=m∧σ'=[some (.ref a),some (.int (m:Nat)),some (.bl g),some (.int (z:Nat)),some (.ref lp),some (.ref fp),x6,x7,x8,some (.ref a9),some (.ref a10),x11,x12,x13,some (.ref a14),none]) (fun D' hD=>?_) fun zzM zzh=>?_
 ·walk_at "RD";refine ⟨by omega,by omega,?_⟩;refine vd.range_map (fun i=>V.int (rn ns (60 + (i:Int)) z)) (Nat.le_trans (show _ ≤ 5 by omega) (by decide)) (fun i N hi hN=>?_) (fun p hp=>hD _ _ ⟨jb hp,S11.new hp,p,(List.range (m:Int).toNat).map fun i:Nat=>rn ns (60 + (i:Int)) z,by rw [db];unfold Yb;rw [List.map_map];rfl,by rw [List.length_map,List.length_range];omega,rfl⟩);(walk_at "RD"; repeat (dsimp only [Qe];walk_at "RD"));exact ⟨Sub.name,S11,by omega,by omega,by omega,hN⟩
 rintro σ12 H12 ⟨s12,S12,a14,sh,e14,hsh,rfl⟩;have F12:=F11.same s12;have e9:=s12 _ _ e9;have e10:=s12 _ _ e10;subst zzh;simp only [Kb];refine zzC (fun σ' H'=>Ob H12 H'∧Sc K a ns H'∧∃ bo,H' bo=some (.tup [.int ((grF z ls fs sh ls.length).length:Nat),.int ((grB z ls bs sh ls.length).length:Nat)])∧σ'=[some (.ref a),some (.int (m:Nat)),some (.bl g),some (.int (z:Nat)),some (.ref lp),some (.ref fp),x6,x7,x8,some (.ref a9),some (.ref a10),x11,x12,x13,some (.ref a14),some (.ref bo)]) (fun D' hD=>?_) fun zzM zzh=>?_
 ·walk_at "RD";refine ⟨_,.inl (SqL.of F12.e1),fun l hl=>⟨_,.inl (SqL.of ((jb hl) _ _ e9)),fun l1 hl1=>⟨_,.inl (SqL.of (((jb hl).trans (jb hl1)) _ _ e10)),fun l2 hl2=>?_⟩⟩⟩;have sx:=((jb (o:=.lst (qs.map V.ref)) hl).trans (jb (o:=.lst (Yb fs)) hl1)).trans (jb (o:=.lst (Yb bs)) hl2);have Sx:=((S12.new (o:=.lst (qs.map V.ref)) hl).new (o:=.lst (Yb fs)) hl1).new (o:=.lst (Yb bs)) hl2;have I3:LIn t (upd (upd (upd H12 l (.lst (qs.map V.ref))) l1 (.lst (Yb fs))) l2 (.lst (Yb bs))) l l1 l2 z ls fs bs:=⟨(F12.line.same sx).copy (sx _ _ F12.e1) (((jb hl1).trans (jb hl2)) _ _ db),(jb hl2) _ _ db,db,by omega,by omega,by omega,by omega⟩;generalize upd (upd (upd H12 l (.lst (qs.map V.ref))) l1 (.lst (Yb fs))) l2 (.lst (Yb bs))=HX at sx Sx I3 ⊢;exact ⟨l,l1,l2,a14,z,ls,fs,bs,sh,rfl,I3,sx _ _ e14,by omega,Sx.nt,fun p H' sH nH ep=>hD _ _ ⟨sx.trans sH,Sx.same sH nH,p,ep,rfl⟩⟩
 rintro σ13 H13 ⟨s13,S13,bo,eb,rfl⟩;have F13:=F12.same s13;have e9:=s13 _ _ e9;have e14:=s13 _ _ e14;obtain ⟨mn,hmn⟩:∃ mn,mn ∈ bn.map (·.2)∧∀ k ∈ bn.map (·.2),mn ≤ k:=mH _ (fun h=>by have h2:=congrArg List.length h;rw [List.length_map] at h2;have h3:bn.length=0:=h2;omega);have hgF:∀ sh',((grF z ls fs sh' ls.length).length:Int) ≤ mn:=fun sh'=>by
  obtain ⟨p,hp,e⟩:=List.mem_map.mp hmn.1;obtain ⟨k,hk⟩:=List.getElem?_of_mem hp;rw [← e];exact F13.ln73.grF (by omega) fs sh' hk
 have hgB:((grB z ls bs sh ls.length).length:Int) ≤ mn:=by
  obtain ⟨p,hp,e⟩:=List.mem_map.mp hmn.1;obtain ⟨k,hk⟩:=List.getElem?_of_mem hp;rw [← e];exact F13.ln73.grB (by omega) bs sh hk
 obtain ⟨mx,hmx,hmx2⟩:∃ mx,(mx ∈ [((grF z ls fs sh ls.length).length:Int),((grB z ls bs sh ls.length).length:Int)]∧∀ k ∈ [((grF z ls fs sh ls.length).length:Int),((grB z ls bs sh ls.length).length:Int)],k ≤ mx)∧mx ≤ mn:=by
  have g1:=hgF sh;by_cases c:((grF z ls fs sh ls.length).length:Int) ≤ (grB z ls bs sh ls.length).length
  ·exact ⟨_,⟨by simp,by simp;omega⟩,hgB⟩
  ·exact ⟨_,⟨by simp,by simp;omega⟩,g1⟩
 subst zzh;simp only [Kb];refine zzC (fun σ' H'=>Ob H13 H'∧Sc K a ns H'∧σ'=[some (.ref a),some (.int (m:Nat)),some (.bl g),some (.int (z:Nat)),some (.ref lp),some (.ref fp),x6,x7,x8,some (.ref a9),some (.ref a10),x11,x12,x13,some (.ref a14),some (.ref bo)]) (fun D' hD=>?_) fun zzM zzh=>?_
 ·refine El (fun b H'=>b=false∧Ob H13 H'∧Sc K a ns H') (fun Q hQ=>?_) (fun H' z=>nomatch z.1) (fun H' z=>?_)
  ·walk_at "RD";refine ⟨[((grF z ls fs sh ls.length).length:Int),((grB z ls bs sh ls.length).length:Int)],SqT.of eb,mx,hmx.1,hmx.2,bn.map (·.2),SqL.of F13.e2,mn,hmn.1,hmn.2,?_⟩;rw [if_neg (by simpa using hmx2)];refine ⟨_,.inl (SqL.of F13.e1),fun l hl=>⟨_,.inl (SqL.of ((jb hl) _ _ e9)),fun l1 hl1=>?_⟩⟩;have sx:=(jb (o:=.lst (qs.map V.ref)) hl).trans (jb (o:=.lst (Yb fs)) hl1);have Sx:=(S13.new (o:=.lst (qs.map V.ref)) hl).new (o:=.lst (Yb fs)) hl1;have Lx:=(F13.line.same sx).copy (q:=l) (sx _ _ F13.e1) ((jb hl1) _ _ db);have ef:upd (upd H13 l (.lst (qs.map V.ref))) l1 (.lst (Yb fs)) l1=some (.lst (Yb fs)):=db;generalize upd (upd H13 l (.lst (qs.map V.ref))) l1 (.lst (Yb fs))=HX at sx Sx Lx ef ⊢;refine ⟨l,l1,a14,z,ls,fs,sh,0,rfl,Lx,ef,sx _ _ e14,by omega,by omega,by omega,by omega,fun l' hl' x=>?_,Sx.nt,fun p H' sH nH _ ep=>⟨p,rfl,_,.inl (SqL.of ep),?_⟩⟩
   ·obtain ⟨i,hi⟩:=List.getElem?_of_mem hl';have hb:bn[i]? = some (bn[i]'(by rw [hbn];exact (List.getElem?_eq_some_iff.mp hi).1)):=List.getElem?_eq_getElem _;obtain ⟨u1,u2,_,u4⟩:=F13.ln73.2 i l' _ hi hb;rw [u1,u2];exact YK (by omega) u4 x
   ·rw [Cd,iE,decide_eq_true (show ((ls.length:Nat):Int)=(m:Int) by rw [hls])];exact hQ _ _ ⟨rfl,sx.trans sH,Sx.same sH nH⟩
  ·simp only [Sn];exact hD _ _ ⟨z.2.1,z.2.2,rfl⟩
 rintro σ14 H14 ⟨s14,S14,rfl⟩;subst zzh;simp only [Kb];refine vc (fun σ' H'=>H'=H14∧g=true∧σ'=[some (.ref a),some (.int (m:Nat)),some (.bl g),some (.int (z:Nat)),some (.ref lp),some (.ref fp),x6,x7,x8,some (.ref a9),some (.ref a10),x11,x12,x13,some (.ref a14),some (.ref bo)]) (fun D' hD hrt _ _=>?_) ?_
 ·refine zc (!g) (fun Q hQ=>?_) (fun c=>?_) (fun c=>?_)
  ·walk_at "RD";exact hQ
  ·have c:g=false:=by simpa using c
   obtain ⟨rfl,p,s',rfl,ep,es⟩:=hg0 c;have ep:=s14 _ _ (s13 _ _ (s12 _ _ ep));have es:=s14 _ _ (s13 _ _ (s12 _ _ es));have WI:=MH (z:=z) (by omega) (ls:=ls) (by omega) fs bs;walk_at "RD";refine ⟨_,SqT.of ep,_,Fc (j:=2) rfl,_,rfl,_,.inl (SqL.of es),?_⟩;rw [if_pos (decide_eq_true (by rw [Cd,List.length_cons,WI.ln,hls]))];refine ⟨_,SqT.of ep,_,Fc (j:=0) rfl,_,SqL.of (F13.same s14).e2,mn,hmn.1,hmn.2,_,rfl,?_⟩;rw [decide_eq_true (by rw [WI.f];exact hgF _),hrt];exact q _
  ·walk_at "RD";exact hD _ _ ⟨rfl,by simpa using c,rfl⟩
 rintro σ15 H15 ⟨rfl,hgt,rfl⟩;obtain ⟨x,rfl,hx⟩:=hg1 hgt;have hx:=s14 _ _ (s13 _ _ (s12 _ _ hx));have XT:XN K t.Ib:=⟨T.Dm,T.Yl,T.Em,T.am⟩;simp only [Kb];refine vc (fun σ' H'=>H'=H15∧σ'=[some (.ref a),some (.int (m:Nat)),some (.bl g),some (.int (z:Nat)),some (.ref lp),some (.ref fp),x6,x7,x8,some (.ref a9),some (.ref a10),some (.ref x),x12,x13,some (.ref a14),some (.ref bo)]) (fun D' hD hrt _ _=>?_) ?_
 ·refine zc false (fun Q hQ=>?_) (fun c=>nomatch c) (fun c=>?_)
  ·walk_at "RD";refine ⟨_,hx,XT,true,T.Uk,?_⟩;rw [if_neg (by decide)];exact ⟨_,hx,XT,true,T.Xi,hQ⟩
  ·walk_at "RD";exact hD _ _ ⟨rfl,rfl⟩
 rintro σ16 H16 ⟨rfl,rfl⟩;walk_at "RD";have kA:∀ {c:Addr} {cs:List Addr},PySem.W.kitOne K (.ref t.Ib) (.ref c)=some false→PySem.W.kitAny K (.ref t.Ib) (cs.map Value.ref)=some false→PySem.W.kitAny K (.ref t.Ib) ((c :: cs).map Value.ref)=some false:=fun h1 h2=>by
  rw [List.map_cons];unfold PySem.W.kitAny;rw [h1];exact h2
 have k0:PySem.W.kitAny K (.ref t.Ib) (([]:List Addr).map Value.ref)=some false:=rfl;refine ⟨by decide,fun p hp=>⟨_,(jb hp) _ _ hx,XT,[t.Mt,t.uo,t.ko,t.At],db,false,kA T.Cn (kA T.Fm (kA T.tm (kA T.An k0))),?_⟩⟩;rw [if_pos (by decide)];exact ⟨by decide,fun p1 hp1=>⟨_,(jb hp1) _ _ ((jb hp) _ _ hx),XT,[t.Fs,t.Jt,t.Ys],db,false,kA T.Jn (kA T.Bn (kA T.Ln k0)),q _⟩⟩
end
end My
structure PySem.W.Fast:Prop where(tw13435827311380312667 tw13997225023312192869 tw5315056024035287741 tw4235722042680117564 tw10282054758160371414 tw83970441502361440 tw2749177686537950877 tw17144075197458814528 tw8033267755853369788 tw9121749161075101186 tw3590798937070954619 tw11842155235063642161 tw5308744297158224347 tw7744369181238230362 tw18353281414106158772 tw6140525273594261035 tw1470558125790912064 tw11714713734830038423 tw18344022197411411486 tw6352052954486755041 tw9284083921668400222 tw9759123587745067358 tw10427827678970258541 tw2847132772834341720 tw1904485078546859047 tw6042740987245767565 tw10507452471092719940 tw2599741846566540009 tw17167588854699992258 tw13181550020741519332 tw5634257665031097399 tw5278500396943442880 tw7430736452155669778 tw11644262652136852641 tw9654365614529350350 tw12618701956137928896 tw6515909453831108129 tw2776466681552254515 tw10136263621910641510 tw16212750856830990102 tw1703143254393775060 tw10220765387547161146 tw9016084572621971651 tw3848334588007472605 tw9844009442813918785 tw16256343767987193473 tw15663132767212576435 tw42250223334092225 tw4480268386483464773 tw14467529448526322847 tw10333390289451654566 tw9890011516210995750 tw5760728975862838078 tw11642578054680342583 tw16375486558294267957 tw8765882108267151777 tw2352238928662401088 tw8550415641889116480 tw531265931441436465 tw7102901727728216143 tw17206540632345066743 tw17339051766373226779 tw18439381479629719443 tw14638747564633578431 tw15723508973652238114 tw99033985713153318 tw8311846265552988518 tw4385032413414936820 tw12583505459391491026 tw3208709019563998945 tw17301592050869581721 tw5367233246853369507 tw12876195219729811708 tw12475877100684300909 tw7321060305578817160 tw1153921267451289610 tw5137010983493913503 tw11168804325753905500 tw4223470292555986737 tw11402947795583026781 tw10060733187917112451 tw6609315343615880830 tw16965430175082490545 tw13320313960065803258 tw1726149957672396807 tw17920568919242682381 tw17268140375276134002 tw15738125958368618328 tw3321770722920692207 tw5068513842399188784 tw15155696197987941570 tw15594163859025305179 tw7367306671784136062 tw14849179227033801190 tw17069451412243991343 tw16118391720334186474 tw14357386798193085470 tw15982887824225693399 tw18020017229027623580 tw569177730657276061 tw6467186331545542405 tw8843000333931517669 tw12847539632837990258 tw1945956708510786627 tw726524718051334351 tw10235617401351054691 tw14867817229162721595 tw16895623525386873727 tw7212135016502907232 tw10781597978214907201 tw17958017486816132919 tw15992826959303561603 tw4969893118313575231 tw12203857147647242040 tw16044358299330875585 tw17252940359692022151 tw5062221481441028837 tw5650938502135350943 tw3590735548956714944 tw14942803539582517128 tw5684441319736048721 tw5159024651325659276 tw10546717330556916747 tw10421905364819040603 tw6662062426226683252 tw8658528980957674698 tw9954331329095425831 tw9098192239162878366 tw4594428828300686 tw3612295417491658235 tw15684513391266672652 tw15251388328758845160 tw15488817770922768965 tw2076279519125434441 tw16196681586967696546 tw15934773758886727257 tw13424467021952063029 tw14418529396831530590 tw7964118211232914856 tw8979960445116898105 tw2196352062664668569 tw159094757358717398 tw10246307241257027312 tw13679912936701594521 tw12054301689078034113 tw9292718331945338185 tw5239396274897747259 tw1533059433380658550 tw13729840402030085222 tw15915664485324918440 tw5910015755854485212 tw13015493126372929062 tw15627851688040719178 tw14610276468649318145 tw16559367044290021569 tw5857021788832947085 tw11238750153580736253 tw16837227338387527399 tw12388083326215379286 tw524890193699564764 tw3382444318016711318 tw13448794505828505890 tw15446160843728378648 tw1283066565201383466 tw12100190153650271400 tw14215240835700550992 tw14992516438753156993 tw18236565215002336491 tw8779649337637168751 tw16949060920973843335 tw17339746233211725211 tw10716122570073669234 tw13665226724262039513 tw15887559272773536572 tw4592290900876514144 tw7017158720407774213 tw17434369422521152611 tw14700631915869181113 tw3460362289137431610 tw2688219957525304318 tw8548595656249117438 tw6757094325812099666 tw11848654685098822053 tw5149920991574371757 tw8083378027018232091 tw17341800546182668494 tw12870924842793741334 tw8714361210144926257 tw13940125986767299874 tw6386729259593383173 tw7357693191999044888 tw5206979317430676887 tw14140993058145563746 tw12422992318183359952 tw5214997091599649327 tw13573629754446452201 tw12916636504716408433 tw13238783228073599767 tw8156652299252303635 tw12256081702254734270 tw14361147616424533853 tw9977025485332972652 tw351599651995531189 tw11004825405397599358 tw9082135502272751774 tw3860335834612622938 tw3522245358173200345 tw10642288579339963655 tw8254273859946895501 tw10751526000142002926 tw11165455575040638822 tw2306352923268376866 tw4754554173738828759 tw4574423344282922396 tw14781440715836054431 tw14503289778591856775 tw3757716940307099654 tw685949304835844369 tw14144692312714175914 tw15075153476434791302 tw2085621694622362156 tw12474966269739142898 tw3169556918480720353 tw13161275577094808346 tw2701427564817649906 tw6780122383241457725 tw7586554359947891631 tw15813394601285758300 tw17759066074055977311 tw4250273997493454889 tw8318242929614162739 tw14725697809038529293 tw10072816230846401066 tw15555038242509251630 tw16395746659085379207 tw10617912060397605895 tw15866663538329195570 tw4163259269262788136 tw6809102788571587879 tw16573872607772379803 tw843062070945813696 tw14484838464521328594 tw9366320992830470572 tw16585367306512437190 tw7745652811783499419 tw4470988506990317287 tw18027516468270640417 tw5354666310407052043 tw13076882801128558593 tw13605943803503370416 tw12522585003437654874 tw5973367781506508939 tw16351535152065892738 tw2505502674116329518 tw8059733721404401671 tw670468570141414306 tw3980586839125819235 tw9270802388824763924 tw17426940883767818369 tw12091519000954218799 tw11551150654412448748 tw16048235031123295538 tw5677190235103816389 tw15147253416489483300 tw17110410225568097341 tw15198806603622675755 tw15104294471476239508 tw9625932083643645759 tw8506649110011531453 tw16266168347147886810 tw12032542823280421233 tw7769044963212645550 tw180800115432295195 tw16873100969125445154 tw10818437390579885119 tw3801382627692875378 tw13066851716408366221 tw17593172398059651590 tw14033778972086970574 tw17761750106558404541 tw2171714319590786768 tw18342481261468772208 tw2335101768498719729 tw11312665424384310005 tw12421487509897798876 tw4243055680242648603 tw15380389262896128089 tw5170574347393313241 tw7840737852311593433 tw13607809069316517896 tw9061821952445417167 tw10426135046120776472 tw6544477094716658471 tw14563568617338467628 tw13134976706710095876 tw16270545707401790549 tw17795998324720270479 tw1517219885837272531 tw24526150790726832 tw17035203003548176526 tw3845726047373609362 tw15154820706616706973 tw7280858814829838724 tw4705432776738141747 tw3561612820794225096 tw11440563954577708134 tw17072257476341459039 tw9071269100349494412 tw6179325604569511039 tw3581916220576587920 tw11990275703164606215 tw17194553518769531837 tw13615607459925305760 tw8060241156284407929 tw17848129656720610329 tw4029134350344745551 tw17801420944235199985 tw10220473469924932685 tw15835306295535723756 tw12440510414696640754 tw10164545237059887147 tw17951200959260213651 tw9912988689495879040 tw16991921644623873254 tw2289424478981646783 tw3469725752185577528 tw16902648980705053124 tw12747521871978146676 tw17780288183637419676 tw783456263946827377 tw6305764185706958101 tw8182267396625204133 tw16080602479281735646 tw11883695312410938406 tw13641800166880135461 tw10754029791579576490 tw8107234278265772441 tw7556986623514742819 tw17323348048082775466 tw16821487379465369331 tw7396884591555331455 tw7025198979125334793 tw11863991838584861774 tw959686524163920565 tw18009957276514066492 tw2552257130760825065 tw12775658955342888537 tw8673345368363686191 tw15694899790597779632 tw10739721599771239094 tw10397394355832184346 tw10022068261599520834 tw7371679853620697524 tw11445019837990644140 tw14366827487885104773 tw2683602147919874644 tw1414928069219197619 tw13335856780553828291 tw16003533945363501999 tw8068061424163236273 tw1906838502522198957 tw3175610601330523006 tw310282288378647007 tw6955493739089132103 tw12873818434467120388 tw4646480381760451601 tw5573476843567590111 tw16169175745643397442 tw10705498429817556679 tw11062059042023043560 tw10423317076174610616 tw6692993116711484153 tw6684452216021090558 tw1197569204958487609 tw341652320715349370 tw6621338449601862260 tw6448264014551007699 tw4280582464357963294 tw9643234613027171606 tw12844996414669711974 tw3290381639151915500 tw7496263833942477840 tw16139006276205156412 tw13146989025601094581 tw9798407016021076164 tw4109603672918520568 tw3641353879174934583 tw11950546773735904096 tw3545663224174704017 tw7990445641091105033 tw12691705290712522763 tw11273248511082995460 tw5839280637435220737 tw16021990672513560877 tw12187440247903817326 tw2433951140514359842 tw12613169037278605583 tw9043828070851464642 tw13007371374254333699 tw16686042494312670030 tw1297816700140530047 tw10069898375637617839 tw8754274833519643830 tw8402442081654105737 tw15613848365194128920 tw14755535083854443972 tw6034759250106836645 tw3832472108812577147 tw16808669901919712940 tw4833851563438576167 tw16431848248980084779 tw14648350409575679371 tw4179491484391829597 tw15991585303414072362 tw3449880751200256849 tw10288706111719244438 tw7179216469279387912 tw16292188648833719292 tw16430312272660178725 tw4390545917356236849 tw9950518000282269351 tw14034313791485673883 tw4484553793688357851 tw751450830042266263 tw11095689041257590152 tw10074982215404992472 tw16387836662385176988 tw10078511439713846891 tw15994275968468764782 tw917837465857063472 tw10633449665355269210 tw18328993572409741191 tw3151266878631579011 tw679133646100967382 tw9794833905774515523 tw8450219863734762569 tw10594471789806947782 tw15334228648799112280 tw5294922924121391817 tw10893761585041682128 tw16178569658239905011 tw8827176244419390899 tw13239508515215424829 tw3938851140171470763 tw15877508066113502193 tw5556214731284794258 tw3999703329901609375 tw13539708194782224230 tw14344695434254823606 tw16961693476466278997 tw13097571432719395406 tw8523717490205676258 tw9953295851634436967 tw2456560039802574755 tw7889791698242398644 tw8643992799100367773 tw8946345296114317842 tw1980933767707585301 tw12705322269169532774 tw17573984440825014743 tw14168728841714112076 tw8067306048271793106 tw4156802347021437668 tw15516811722220776087 tw7899537299109865098 tw7246660879047600962 tw10741608883943310775 tw13843414001383019215 tw8602925058730878165 tw14223200215854148743 tw4923617981657584565 tw1153224590350545031 tw9419385494877761132 tw11383991351953187334 tw8353912776800199853 tw8751628714664612684 tw17437569681200133265 tw10160495190629539399 tw17906010710636137394 tw7569664149893851449 tw18225813581498807201 tw12499402570742812641 tw13392161131056891288 tw12966633200649145334 tw17792391470698366335 tw15023144775707020674 tw5929796593591134157 tw2956230115729300382 tw3631611543670951087 tw1285821828071414758 tw10405207968771989992 tw7301287956721177202 tw966879869737218617 tw4310720924314684096 tw2685486414778615436 tw5219549687064475198 tw3373096544500937471 tw7526379391136826934 tw8420452375561071786 tw853780018636122784 tw8578474671693008495 tw18411195924200023911 tw5089539340875262528 tw294792447649911033 tw7772211337201803052 tw3159019496977968196 tw3597958126246366808 tw4339614903720543430 tw14000264519218213383 tw9677404298327223544 tw17871387645904050986 tw6414403597728205066 tw16471588000974371234 tw9439225056072025012 tw786288591933787167 tw855174335539537276:True)
open PySem PySem.W PyProof.Rows
set_option maxRecDepth 100000 in
set_option maxHeartbeats 0 in
theorem PySem.Challenge.cw_lampway_k73_too_many_shifts_holds : PySem.Challenge.rw_lampway_k73_too_many_shifts.Holds := by
 w_on;o_law;k_head;(case hw=>w_witness2)
 k_fill
 refine L2.xG (l:=PySem.Challenge.rw_lampway_k73_too_many_shifts) (n:=63) (k:=11) (x := "_law_script") (CX:=L2.CX0) (sp:=L2.gL) rfl (by decide) rfl ⟨rfl,by decide,by decide⟩ (fun w h Y=>PySem.W.kIn_of Y) ?F ?S ?C
 case F=>
  intro w mg fa h KX G hmg;have T:∃ t,My.Txt w (L2.KOf KX) mg t:=by
   dsimp only [L2.KOf];refine' ⟨My.Adr.mk,⟨?mqaa,?Fqab,?mqac,?Fqad,?mqae,?Fqaf,?mqag,?Fqah,?mqai,?Fqaj,?mqak,?Fqal,?mqam,?Fqan,?mqao,?Fqap,?mqaq,?Fqar,?mqas,?Fqat,?mqau,?Fqav,?mqaw,?Fqax,?mqay,?Fqaz,?mqba,?Fqbb,?mqbc,?Fqbd,?mqbe,?Fqbf,?mqbg,?Fqbh,?mqbi,?Fqbj,?mqbk,?Fqbl,?mqbm,?Fqbn,?mqbo,?Fqbp,?mqbq,?Fqbr,?mqbs,?Fqbt,?mqbu,?Fqbv,?mqbw,?Fqbx,?mqby,?Fqbz,?mqca,?Fqcb,?mqcc,?Fqcd,?mqce,?Fqcf,?mqcg,?Fqch,?mqci,?Fqcj,?mqck,?Fqcl,?mqcm,?Fqcn,?mqco,?Fqcp,?mqcq,?Fqcr,?mqcs,?Fqct,?mqcu,?Fqcv,?mqcw,?Fqcx,?mqcy,?Fqcz,?mqda,?Fqdb,?mqdc,?Fqdd,?mqde,?Fqdf,?mqdg,?Fqdh,?mqdi,?eqdj,?Fqdk,?eqdl,?Fqdm,?eqdn,?Fqdo,?eqdp,?Fqdq,?eqdr,?Fqds,?eqdt,?Fqdu,?eqdv,?Fqdw,?mqdx,?eqdy,?Fqdz,?mqea,?eqeb,?Fqec,?eqed,?Fqee,?eqef,?Fqeg,?mqeh,?eqei,?Fqej,?eqek,?Fqel,?eqem,?Fqen,?mqeo,?eqep,?Fqeq,?eqer,?Fqes,?eqet,?Fqeu,?mqev,?eqew,?Fqex,?eqey,?Fqez,?eqfa,?Fqfb,?eqfc,?Fqfd,?mqfe,?eqff,?Fqfg,?sqfh,?sqfi,?sqfj,?sqfk,?sqfl,?sqfm,?sqfn,?sqfo,?nqfp,?nqfq,?nqfr,?sqfs,?nqft,?nqfu,?nqfv,?nqfw,?nqfx,?nqfy,?nqfz,?sqga,?sqgb,?sqgc,?sqgd,?nqge,?nqgf,?nqgg,?nqgh,?nqgi,?nqgj,?nqgk,?sqgl,?sqgm,?sqgn,?sqgo,?nqgp,?nqgq,?nqgr,?nqgs,?nqgt,?nqgu,?nqgv,?sqgw,?sqgx,?sqgy,?sqgz,?nqha,?nqhb,?nqhc,?nqhd,?nqhe,?nqhf,?nqhg,?sqhh,?sqhi,?sqhj,?sqhk,?sqhl,?nqhm,?nqhn,?nqho,?sqhp,?sqhq,?nqhr,?nqhs,?nqht,?nqhu,?nqhv,?mqhw,?mqhx,?mqhy,?mqhz,?mqia,?mqib,?mqic,?xqid,?sqie,?rqif,?eqig,?rqih,?rqii,?rqij,?rqik,?rqil,?rqim,?rqin,?rqio,?rqip,?rqiq,?rqir,?mqis,?mqit,?dqiu,?dqiv,?dqiw,?dqix,?dqiy,?dqiz,?sqja,?mqjb,?vqjc,?mqjd,?vqje,?mqjf,?vqjg,?mqjh,?vqji,?mqjj,?vqjk,?mqjl,?vqjm,?mqjn,?vqjo,?mqjp,?vqjq,?mqjr,?vqjs,?mqjt,?vqju,?mqjv,?vqjw,?bqjx,?bqjy,?bqjz,?bqka,?bqkb,?bqkc,?bqkd,?bqke,?bqkf,?bqkg,?bqkh,?bqki,?bqkj,?lqkk⟩⟩
   case mqaa | mqac | mqae | mqag | mqai | mqak | mqam | mqao | mqaq | mqas | mqau | mqaw | mqay | mqba | mqbc | mqbe | mqbg | mqbi | mqbk | mqbm | mqbo | mqbq | mqbs | mqbu | mqbw | mqby | mqca | mqcc | mqce | mqcg | mqci | mqck | mqcm | mqco | mqcq | mqcs | mqcu | mqcw | mqcy | mqda | mqdc | mqde | mqdg | mqdi | mqdx | mqea | mqeh | mqeo | mqev | mqfe | mqhw | mqhx | mqhy | mqhz | mqia | mqib | mqic | mqis | mqit | mqjb | mqjd | mqjf | mqjh | mqjj | mqjl | mqjn | mqjp | mqjr | mqjt | mqjv=>(try dsimp only);refine' PySem.W.mg_of KX G ?z;case z=>k_is
   case eqdj | eqdl | eqdn | eqdp | eqdr | eqdt | eqdv | eqdy | eqeb | eqed | eqef | eqei | eqek | eqem | eqep | eqer | eqet | eqew | eqey | eqfa | eqfc | eqff | eqig=>(try dsimp only);k_is
   case sqfh | sqfi | sqfj | sqfk | sqfl | sqfm | sqfn | sqfo | sqfs | sqga | sqgb | sqgc | sqgd | sqgl | sqgm | sqgn | sqgo | sqgw | sqgx | sqgy | sqgz | sqhh | sqhi | sqhj | sqhk | sqhl | sqhp | sqhq | sqie | sqja=>(try dsimp only);constructor <;> k_is
   case Fqab | Fqad | Fqaf | Fqah | Fqaj | Fqal | Fqan | Fqap | Fqar | Fqat | Fqav | Fqax | Fqaz | Fqbb | Fqbd | Fqbf | Fqbh | Fqbj | Fqbl | Fqbn | Fqbp | Fqbr | Fqbt | Fqbv | Fqbx | Fqbz | Fqcb | Fqcd | Fqcf | Fqch | Fqcj | Fqcl | Fqcn | Fqcp | Fqcr | Fqct | Fqcv | Fqcx | Fqcz | Fqdb | Fqdd | Fqdf | Fqdh | Fqdk | Fqdm | Fqdo | Fqdq | Fqds | Fqdu | Fqdw | Fqdz | Fqec | Fqee | Fqeg | Fqej | Fqel | Fqen | Fqeq | Fqes | Fqeu | Fqex | Fqez | Fqfb | Fqfd | Fqfg=>(try dsimp only);refine' L2.PK ?x ?y ?z;(case x=>k_is);(case y=>k_is);(case z=>k_is)
   case nqfp | nqfq | nqfr | nqft | nqfu | nqfv | nqfw | nqfx | nqfy | nqfz | nqge | nqgf | nqgg | nqgh | nqgi | nqgj | nqgk | nqgp | nqgq | nqgr | nqgs | nqgt | nqgu | nqgv | nqha | nqhb | nqhc | nqhd | nqhe | nqhf | nqhg | nqhm | nqhn | nqho | nqhr | nqhs | nqht | nqhu | nqhv=>(try dsimp only);unfold L2.Mb;k_is
   case rqif | rqih | rqii | rqij | rqik | rqil | rqim | rqin | rqio | rqip | rqiq | rqir=>(try dsimp only);kernel_rfl
   case xqid=>(try dsimp only);refine' ⟨?_,by kernel_rfl,?_,?_,?_⟩ <;> k_is
   case dqiu | dqiv | dqiw | dqix | dqiy | dqiz=>(try dsimp only);decide
   case vqjc | vqje | vqjg | vqji | vqjk | vqjm | vqjo | vqjq | vqjs | vqju | vqjw=>(try dsimp only);exact ⟨_,rfl⟩
   case bqjx | bqjy | bqjz | bqka | bqkb | bqkc | bqkd | bqke | bqkf | bqkg | bqkh | bqki | bqkj=>(try dsimp only);refine' PySem.W.mg_none_of KX G ?z;case z=>k_is
   case lqkk=>(try dsimp only);exact fun _ _=>.of_eq rfl
  obtain ⟨t,T⟩:=T;have e0:=hmg.symm.trans T.vM;cases e0;exact ⟨t.jG,T.fL,fun base kb nb=>My.CK T⟩
 case S=>exact fun K H a ns hl hO hS=>⟨a,ns,rfl,L2.Sc.of_only hO hS,hl,fun _=>rfl⟩
 case C=>exact fun _ _ _ _ z=>z
