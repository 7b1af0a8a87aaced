import PyProof.Rows.All
import Wide.All
import OpenK.AllK
import Wide.FinOn
import Lean
import PyProof.EqAt
import PyProof.EqKinds
import PyProof.TupleCall
import KE.KTryMore
import PyProof.NsDelKeeps
import PySem.Challenge.RW_lampway_k62_whole_no_paper_against_begin
set_option compiler.extract_closed false
set_option Elab.async false
set_option linter.all false
set_option maxRecDepth 100000
namespace L2
open PySem PySem.Spec PyProof.Rows
noncomputable abbrev Key:=Sum Int Str
noncomputable def zB:Key→Value→Bool
 | .inl k,v=>Value.isInt k v
 | .inr x,v=>Value.isStrOf x v
noncomputable def bP (w:World):Key→Int
 | .inl k=>hashInt k
 | .inr x=>hashStr w x
theorem Xd:∀ {k:Key} {v:Value},zB k v=true→(∃ i t,k=Sum.inl i∧v=Value.int i t)∨(∃ x t,k=Sum.inr x∧v=Value.str x t)
 | .inl i,v,h=>by
  obtain ⟨t,e⟩:=Value.isInt_shape (k:=i) (v:=v) h;exact .inl ⟨i,t,rfl,e⟩
 | .inr x,v,h=>by
  obtain ⟨t,e⟩:=Value.isStrOf_shape (x:=x) (v:=v) h;exact .inr ⟨x,t,rfl,e⟩
theorem CC (i:Int) (t:Tok):zB (.inl i) (.int i t)=true:=by simp [zB,Value.isInt]
theorem GD (x:Str) (t:Tok):zB (.inr x) (.str x t)=true:=by simp [zB,Value.isStrOf]
theorem QM (a b:Int):decide ((Sum.inl a:Key)=Sum.inl b)=(a == b):=by
 by_cases e:a=b
 ·subst e;simp
 ·have h:¬ (Sum.inl a:Key)=Sum.inl b:=fun q=>e (Sum.inl.inj q)
  rw [decide_eq_false h];exact (beq_eq_false_iff_ne.mpr e).symm
theorem CM (a b:Str):decide ((Sum.inr a:Key)=Sum.inr b)=decide (a=b):=by
 by_cases e:a=b
 ·subst e;simp
 ·have h:¬ (Sum.inr a:Key)=Sum.inr b:=fun q=>e (Sum.inr.inj q)
  rw [decide_eq_false h,decide_eq_false e]
theorem WL (a:Int) (b:Str):decide ((Sum.inl a:Key)=Sum.inr b)=false:=decide_eq_false (fun q=>nomatch q)
theorem YL (a:Str) (b:Int):decide ((Sum.inr a:Key)=Sum.inl b)=false:=decide_eq_false (fun q=>nomatch q)
noncomputable def ue (prog:Program) (w:World):PySem.KeyKind prog w Key where
 is:=zB
 hash:=bP w
 inj:=fun v a b ha hb=>by
  rcases Xd ha with ⟨i,t,rfl,rfl⟩ | ⟨x,t,rfl,rfl⟩
  ·rcases Xd hb with ⟨j,u,rfl,e⟩ | ⟨y,u,rfl,e⟩
   ·injection e with e1 _;rw [e1]
   ·exact nomatch e
  ·rcases Xd hb with ⟨j,u,rfl,e⟩ | ⟨y,u,rfl,e⟩
   ·exact nomatch e
   ·injection e with e1 _;rw [e1]
 byValue:=fun k v h=>by
  rcases Xd h with ⟨i,t,rfl,rfl⟩ | ⟨x,t,rfl,rfl⟩ <;> rfl
 pyHash:=fun hv h=>by
  rcases Xd hv with ⟨i,t,rfl,rfl⟩ | ⟨x,t,rfl,rfl⟩
  ·exact wpAny_pyHash_int h
  ·exact wpAny_pyHash_str h
 eqBool:=fun hu hv h=>by
  rcases Xd hu with ⟨i,t,rfl,rfl⟩ | ⟨x,t,rfl,rfl⟩
  ·rcases Xd hv with ⟨j,u,rfl,rfl⟩ | ⟨y,u,rfl,rfl⟩
   ·rw [QM] at h;exact wpAny_eqBool_int h
   ·rw [WL] at h;exact SeqAt.EqAt.int_str i t y u _ _ _ _ h
  ·rcases Xd hv with ⟨j,u,rfl,rfl⟩ | ⟨y,u,rfl,rfl⟩
   ·rw [YL] at h;exact SeqAt.EqAt.str_int x t j u _ _ _ _ h
   ·rw [CM] at h;exact wpAny_eqBool_str h
 «strs»:=fun k x t v h=>by
  rcases Xd h with ⟨i,u,rfl,e⟩ | ⟨y,u,rfl,e⟩
  ·exact nomatch e
  ·injection e with e1 _;subst e1;cases v <;> rfl
theorem Nx (prog:Program) (w:World) (i:Int) (t:Tok):(ue prog w).is (.inl i) (.int i t)=true:=CC i t
theorem qx (prog:Program) (w:World) (x:Str) (t:Tok):(ue prog w).is (.inr x) (.str x t)=true:=GD x t
end L2
namespace L2
open PySem PySem.Spec PyProof.Rows
inductive V where
 | non | bl (b:Bool) | int (i:Int) | str (x:Str) | byt (b:Array UInt8) | flt (b:UInt64) | ref (a:Addr) | ty (n:String)
 deriving DecidableEq
noncomputable def Bd:V→Value→Prop
 | .non,u=>u=Value.none
 | .bl b,u=>u=Value.bool b
 | .int i,u=>∃ t,u=Value.int i t
 | .str x,u=>∃ t,u=Value.str x t
 | .byt b,u=>∃ t,u=Value.bytes b t
 | .flt b,u=>∃ t,u=Value.float b t
 | .ref a,u=>u=Value.ref a
 | .ty n,u=>u=Value.type n
noncomputable abbrev md:List V→List Value→Prop:=Paired Bd
theorem md.length {xs:List V} {us:List Value} (r:md xs us):xs.length=us.length:=Paired.length r
theorem md.get:∀ {xs:List V} {us:List Value} {i:Nat} {x:V},md xs us→xs[i]? = some x→∃ u,us[i]? = some u∧Bd x u
 | _,_,_,_,.nil,e=>by simp at e
 | _,_,0,_,.cons r _,e=>by simp at e;subst e;exact ⟨_,rfl,r⟩
 | _,_,i + 1,x,.cons _ t,e=>by
  obtain ⟨u,h1,h2⟩:=md.get (i:=i) (x:=x) t (by simpa using e);exact ⟨u,by simpa using h1,h2⟩
theorem md.set {x:V} {u:Value} (r:Bd x u):∀ {xs:List V} {us:List Value} (i:Nat),md xs us→md (xs.set i x) (us.set i u)
 | _,_,_,.nil=>.nil
 | _,_,0,.cons _ t=>.cons r t
 | _,_,i + 1,.cons q t=>.cons q (md.set r i t)
theorem md.append:∀ {xs ys:List V} {us ws:List Value},md xs us→md ys ws→md (xs ++ ys) (us ++ ws)
 | _,_,_,_,.nil,s=>s
 | _,_,_,_,.cons r t,s=>.cons r (md.append t s)
theorem md.take:∀ {xs:List V} {us:List Value} (n:Nat),md xs us→md (xs.take n) (us.take n)
 | _,_,0,_=>.nil
 | _,_,_ + 1,.nil=>.nil
 | _,_,n + 1,.cons r t=>.cons r (md.take n t)
theorem md.drop:∀ {xs:List V} {us:List Value} (n:Nat),md xs us→md (xs.drop n) (us.drop n)
 | _,_,0,r=>r
 | _,_,_ + 1,.nil=>.nil
 | _,_,n + 1,.cons _ t=>md.drop n t
theorem md.none_of:∀ {xs:List V} {us:List Value} {i:Nat},md xs us→xs[i]? = none→us[i]? = none:=fun {xs us i} r e=>by
 have h1:=r.length;have h2:xs.length ≤ i:=List.getElem?_eq_none_iff.mp e;exact List.getElem?_eq_none_iff.mpr (by omega)
noncomputable def As:Option V→Option Value→Prop
 | some v,some u=>Bd v u
 | none,none=>True
 | _,_=>False
noncomputable def KV {κ:Type}:List (κ × V)→List (κ × Value)→Prop:=Paired fun (p:κ × V) (q:κ × Value)=>p.1=q.1∧Bd p.2 q.2
noncomputable def kV:Key→V
 | .inl i=>.int i
 | .inr x=>.str x
inductive HO where
  | lst (xs:List V)
  | tup (xs:List V)
  | dK (kvs:List (Key × V)) | dT (kvs:List (List Key × V))
  | set (S:Int→Bool) (n:Nat)
  | ins (C dx:Addr) (fs:List (Str × V))
  | own (x:Addr)
  | xd (fs:List (Str × V))
  | met (f x:Addr)
  | rng (lo hi:Int)
  | frz (o:Obj) (u:HO)
  | tbl (ps:Array Value)
  | ext (φ:Heap→Prop)
noncomputable abbrev Hp:=Addr→Option HO
noncomputable def upd (H:Hp) (a:Addr) (o:HO):Hp:=fun b=>if b=a then some o else H b
theorem gb {H:Hp} {a:Addr} {o:HO}:upd H a o a=some o:=by unfold upd;rw [if_pos rfl]
theorem Db {H:Hp} {a b:Addr} {o:HO} (h:b ≠ a):upd H a o b=H b:=by unfold upd;rw [if_neg h]
theorem em {H:Hp} {a:Addr} {o u:HO}:upd (upd H a o) a u=upd H a u:=by
 funext b;unfold upd;split <;> rfl
theorem Ji {H:Hp} {a b:Addr} {o u:HO} (h:H a=some o) (h':H b=some u) (d:o ≠ u):a ≠ b:=by
 intro e;subst e;rw [h] at h';exact d (Option.some.inj h')
theorem Jb {H:Hp} {a b:Addr} {o:HO} (h:H a=some o) (h':H b=none):a ≠ b:=by
 intro e;subst e;rw [h] at h';cases h'
section
variable (P:Program) (w:World)
noncomputable def Zd (H:Hp) (h:Heap) (a:Addr):HO→Prop
 | .lst xs=>xs.length ≤ sizeLine∧∃ (its:List Value) (n:Nat),md xs its∧h.get? a=some { cls:=.type "list",data:=.seq its.toArray n }
 | .tup xs=>(xs.length ≤ sizeLine∧∃ ob,h.get? a=some ob∧ob.dict=none)∧∃ its:List Value,md xs its∧IsTup h a its.toArray
 | .dK kvs=>kvs.length ≤ sizeLine∧(a == sysModules)=false∧∃ vs,KV kvs vs∧h.DictOf (ue P w) a vs
 | .dT kvs=>kvs.length ≤ sizeLine∧(a == sysModules)=false∧∃ xs:List (List Key × Addr × Value),
   Paired (fun (p:List Key × V) (q:List Key × Addr × Value)=>p.1=q.1∧H q.2.1=some (.tup (p.1.map kV))∧Bd p.2 q.2.2) kvs xs ∧
   ∃ o es ep,h.get? a=some o∧o.ExactDict∧o.data=.dict es ep∧es.toList=xs.map (entryOfKey (tupleKind (ue P w)))∧(xs.map (·.1)).Nodup
 | .set S n=>h.SetOf (intKind P w) a S n
 | .ins C dx fs=>H dx=some (.own a)∧fs.length ≤ 1000∧dx ≠ a∧h.get? a=some (PySem.W.instObj C dx) ∧
   ∃ mA,h.Ns1 dx mA∧(∀ f,As (fs.lookup f) (mA f))∧PySem.Within mA (fs.map (·.1))
 | .own _=>∃ o,h.get? a=some o
 | .xd fs=>∃ mA,h.Ns1 a mA∧∀ f,As (fs.lookup f) (mA f)
 | .rng lo hi=>∃ t u v,h.get? a=some { cls:=.type "range",data:=.fields #[.int lo t,.int hi u,.int 1 v] }
 | .frz o u=>h.get? a=some o∧Zd H h a u
 | .tbl ps=>h.get? a=some { cls:=.none,data:=.fields ps }
 | .met f x=>h.get? a=some (PySem.W.methodObj (.ref f) (.ref x))
 | .ext φ=>φ h∧(∃ o,h.get? a=some o)∧∀ h1 h2:Heap,φ h1→(∀ o,h1.get? a=some o→h2.get? a=some o)→φ h2
noncomputable def HOk (H:Hp) (h:Heap):Prop:=∀ a o,H a=some o→Zd P w H h a o
end
section
variable {P:Program} {w:World} {H H':Hp} {h h':Heap} {a:Addr} {o:HO}
theorem Zd.lt (x:Zd P w H h a o):a < h.objs.size:=by
 cases o with
 | lst xs=>obtain ⟨_,_,_,_,e⟩:=x;exact Heap.lt_size e
 | tup xs=>obtain ⟨_,_,_,p⟩:=x;exact p.lt
 | dK kvs=>obtain ⟨_,_,_,_,o,_,_,e,_⟩:=x;exact Heap.lt_size e
 | dT kvs=>obtain ⟨_,_,_,_,o,_,_,e,_⟩:=x;exact Heap.lt_size e
 | set S n=>obtain ⟨o,_,_,_,e,_⟩:=x;exact Heap.lt_size e
 | ins C dx fs=>obtain ⟨_,_,_,e,_⟩:=x;exact Heap.lt_size e
 | own y=>obtain ⟨_,e⟩:=x;exact Heap.lt_size e
 | xd fs=>obtain ⟨_,⟨_,_,_,e,_⟩,_⟩:=x;exact Heap.lt_size e
 | rng lo hi=>obtain ⟨_,_,_,e⟩:=x;exact Heap.lt_size e
 | frz ob u=>obtain ⟨e,_⟩:=x;exact Heap.lt_size e
 | tbl ps=>exact Heap.lt_size (show h.get? a=some _ from x)
 | met f y=>exact Heap.lt_size (show h.get? a=some _ from x)
 | ext φ=>obtain ⟨_,⟨_,e⟩,_⟩:=x;exact Heap.lt_size e
theorem Paired.mapP {α β:Type} {F G:α→β→Prop}:∀ {l₁:List α} {l₂:List β},Paired F l₁ l₂→(∀ a b,F a b→G a b)→Paired G l₁ l₂
 | _,_,.nil,_=>.nil
 | _,_,.cons r t,f=>.cons (f _ _ r) (Paired.mapP t f)
theorem Zd.stay (x:Zd P w H h a o) (k:∀ b u,(b=a∨H b=some (.own a))→h.get? b=some u→h'.get? b=some u)
  (ho:∀ b,H b=some (.own a)→H' b=some (.own a)) (ht:∀ b xs,H b=some (.tup xs)→H' b=some (.tup xs)):Zd P w H' h' a o:=by
 induction o with
 | lst xs=>obtain ⟨z,its,n,r,e⟩:=x;exact ⟨z,its,n,r,k _ _ (.inl rfl) e⟩
 | tup xs=>obtain ⟨⟨z,oz,ez,dz⟩,its,r,ob,e,c⟩:=x;exact ⟨⟨z,oz,k _ _ (.inl rfl) ez,dz⟩,its,r,ob,k _ _ (.inl rfl) e,c⟩
 | dK kvs=>obtain ⟨z,y,vs,r,ob,es,ep,e,c⟩:=x;exact ⟨z,y,vs,r,ob,es,ep,k _ _ (.inl rfl) e,c⟩
 | dT kvs=>
  obtain ⟨z,y,xs,r,ob,es,ep,e,c⟩:=x;exact ⟨z,y,xs,Paired.mapP r fun p q z=>⟨z.1,ht _ _ z.2.1,z.2.2⟩,ob,es,ep,k _ _ (.inl rfl) e,c⟩
 | set S n=>obtain ⟨ob,es,ep,t,e,c⟩:=x;exact ⟨ob,es,ep,t,k _ _ (.inl rfl) e,c⟩
 | ins C dx fs=>
  obtain ⟨d,z,ne,e,mA,⟨od,es,ep,e2,c⟩,r⟩:=x;exact ⟨ho _ d,z,ne,k _ _ (.inl rfl) e,mA,⟨od,es,ep,k _ _ (.inr d) e2,c⟩,r⟩
 | own y=>obtain ⟨ob,e⟩:=x;exact ⟨ob,k _ _ (.inl rfl) e⟩
 | xd fs=>obtain ⟨mA,⟨od,es,ep,e,c⟩,r⟩:=x;exact ⟨mA,⟨od,es,ep,k _ _ (.inl rfl) e,c⟩,r⟩
 | rng lo hi=>obtain ⟨t,u,v,e⟩:=x;exact ⟨t,u,v,k _ _ (.inl rfl) e⟩
 | frz ob u ih=>obtain ⟨e,q⟩:=x;exact ⟨k _ _ (.inl rfl) e,ih q⟩
 | tbl ps=>
  have e:h.get? a=some { cls:=.none,data:=.fields ps }:=x;show h'.get? a=some { cls:=.none,data:=.fields ps };exact k a _ (.inl rfl) e
 | met f y=>
  have e:h.get? a=some (PySem.W.methodObj (.ref f) (.ref y)):=x;show h'.get? a=some (PySem.W.methodObj (.ref f) (.ref y));exact k a _ (.inl rfl) e
 | ext φ=>obtain ⟨p,⟨o,e⟩,st⟩:=x;exact ⟨st _ _ p fun o q=>k _ _ (.inl rfl) q,⟨o,k _ _ (.inl rfl) e⟩,st⟩
theorem HOk.lt (x:HOk P w H h) (e:H a=some o):a < h.objs.size:=(x a o e).lt
theorem HOk.fresh (x:HOk P w H h) (e:h.objs.size ≤ a):H a=none:=by
 cases q:H a with
 | none=>rfl
 | some u=>exact absurd (Nat.lt_of_lt_of_le (x.lt q) e) (Nat.lt_irrefl _)
theorem HOk.kept (x:HOk P w H h) (k:∀ b u,h.get? b=some u→h'.get? b=some u):HOk P w H h':=fun a o e=>
 (x a o e).stay (fun b u _ q=>k b u q) (fun _ q=>q) fun _ _ q=>q
theorem HOk.laid (x:HOk P w H h) (k:∀ b u,h.get? b=some u→h'.get? b=some u) (hp:h.objs.size ≤ a) (new:Zd P w (upd H a o) h' a o):HOk P w (upd H a o) h':=fun b u e=>by
 have hn:=x.fresh hp;by_cases hb:b=a
 ·subst hb;rw [gb] at e;cases e;exact new
 ·rw [Db hb] at e;exact (x b u e).stay (fun c v _ q=>k c v q) (fun c q=>by rw [Db (Jb q hn)];exact q) fun c xs q=>by rw [Db (Jb q hn)];exact q
end
noncomputable def Rd (H:Hp) (a:Addr) (u:HO):Prop:=H a=some u∨∃ o,H a=some (.frz o u)
theorem Rd.of {H:Hp} {a:Addr} {u:HO} (h:H a=some u):Rd H a u:=.inl h
theorem Rd.ok {P:Program} {w:World} {H:Hp} {h:Heap} {a:Addr} {u:HO} (r:Rd H a u) (x:HOk P w H h):Zd P w H h a u:=by
 rcases r with r | ⟨o,r⟩
 ·exact x a u r
 ·obtain ⟨_,q⟩:=x a _ r;exact q
noncomputable def Mut:Option HO→Prop
 | some (.lst _)=>True
 | some (.dK _)=>True
 | some (.dT _)=>True
 | some (.set _ _)=>True
 | some (.ins _ _ _)=>True
 | some (.ext _)=>True
 | _=>False
section
variable {P:Program} {w:World} {H:Hp} {h h':Heap} {x e:Addr} {o':HO}
theorem HOk.write (ok:HOk P w H h) (mu:Mut (H x)) (he:e=x∨H e=some (.own x)) (k:∀ b u,b ≠ e→h.get? b=some u→h'.get? b=some u) (heo:∃ u,h'.get? e=some u)
  (new:Zd P w (upd H x o') h' x o'):HOk P w (upd H x o') h':=fun b u q=>by
 have nown:∀ c y,H c=some (.own y)→c ≠ x:=fun c y r z=>by subst z;rw [r] at mu;exact mu
 have ntup:∀ c xs,H c=some (.tup xs)→c ≠ x:=fun c xs r z=>by subst z;rw [r] at mu;exact mu
 by_cases hb:b=x
 ·subst hb;rw [gb] at q;cases q;exact new
 ·rw [Db hb] at q;by_cases hbe:b=e
  ·have q':H b=some (.own x):=by
    rcases he with z | z
    ·exact absurd (hbe.trans z) hb
    ·rw [hbe];exact z
   rw [q] at q';cases q';obtain ⟨v,hv⟩:=heo;exact ⟨v,by rw [hbe];exact hv⟩
  ·refine (ok b u q).stay (fun c v hc r=>k c v ?_ r) (fun c r=>by rw [Db (nown c b r)];exact r) fun c xs r=>by rw [Db (ntup c xs r)];exact r
   rcases hc with rfl | hc
   ·exact hbe
   ·rintro rfl;rcases he with z | z
    ·exact nown c b hc z
    ·rw [hc] at z;cases z;exact hb rfl
end
structure Un (fs ex:List Addr) (H H':Hp) (h h':Heap):Prop where
 keep:∀ b o,h.get? b=some o→H b=none→b ∉ fs→b ∉ ex→h'.get? b=some o
 slot:∀ b o,h.get? b=some o→H b=none→b ∈ fs→b ∉ ex→∃ sl,h'.get? b=some { o with slots:=sl }
 free:∀ b o,h.get? b=some o→H b=none→b ∉ ex→H' b=none
 there:∀ b o,h.get? b=some o→b ∉ ex→∃ o',h'.get? b=some o'
 tups:∀ b xs,H b=some (.tup xs)→H' b=some (.tup xs)
 frzs:∀ b o u,H b=some (.frz o u)→H' b=some (.frz o u)
 tbls:∀ b ps,H b=some (.tbl ps)→∃ more,H' b=some (.tbl (ps ++ more))
section
variable {fs fs' ex ex':List Addr} {H H1 H2:Hp} {h h1 h2 h':Heap} {a x e:Addr} {o:HO}
theorem Un.any (u:Un fs ex H H1 h h1) {b:Addr} {ob:Obj} (q:h.get? b=some ob) (n:H b=none) (hx:b ∉ ex):∃ sl,h1.get? b=some { ob with slots:=sl }:=by
 by_cases hb:b ∈ fs
 ·exact u.slot b ob q n hb hx
 ·exact ⟨ob.slots,u.keep b ob q n hb hx⟩
theorem Un.trans (a:Un fs ex H H1 h h1) (b:Un fs ex H1 H2 h1 h2):Un fs ex H H2 h h2 where
 keep:=fun c ob q n hc hx=>b.keep c ob (a.keep c ob q n hc hx) (a.free c ob q n hx) hc hx
 slot:=fun c ob q n hc hx=>by
  obtain ⟨sl,e1⟩:=a.slot c ob q n hc hx;obtain ⟨sl',e2⟩:=b.slot c _ e1 (a.free c ob q n hx) hc hx;exact ⟨sl',e2⟩
 free:=fun c ob q n hx=>by
  obtain ⟨o',e1⟩:=a.there c ob q hx;exact b.free c o' e1 (a.free c ob q n hx) hx
 there:=fun c ob q hx=>by
  obtain ⟨o',e1⟩:=a.there c ob q hx;exact b.there c o' e1 hx
 tups:=fun c xs q=>b.tups c xs (a.tups c xs q)
 frzs:=fun c ob xs q=>b.frzs c ob xs (a.frzs c ob xs q)
 tbls:=fun c ps q=>by
  obtain ⟨m1,e1⟩:=a.tbls c ps q;obtain ⟨m2,e2⟩:=b.tbls c _ e1;exact ⟨m1 ++ m2,by rw [e2,Array.append_assoc]⟩
theorem Un.kept (k:∀ b u,h.get? b=some u→h'.get? b=some u):Un fs ex H H h h':=
 ⟨fun b ob q _ _ _=>k b ob q,fun b ob q _ _ _=>⟨ob.slots,k b ob q⟩,fun _ _ _ n _=>n,fun b ob q _=>⟨ob,k b ob q⟩,fun _ _ q=>q,fun _ _ _ q=>q,fun _ ps q=>⟨#[],by rw [q];simp⟩⟩
theorem Un.refl:Un fs ex H H h h:=Un.kept fun _ _ q=>q
theorem Un.laid (k:∀ b u,h.get? b=some u→h'.get? b=some u) (hp:h.objs.size ≤ a) (hn:H a=none):Un fs ex H (upd H a o) h h' where
 keep:=fun b u q _ _ _=>k b u q
 slot:=fun b u q _ _ _=>⟨u.slots,k b u q⟩
 free:=fun b u q n _=>by rw [Db (Nat.ne_of_lt (Nat.lt_of_lt_of_le (Heap.lt_size q) hp))];exact n
 there:=fun b u q _=>⟨u,k b u q⟩
 tups:=fun b xs q=>by rw [Db (Jb q hn)];exact q
 frzs:=fun b u xs q=>by rw [Db (Jb q hn)];exact q
 tbls:=fun b ps q=>⟨#[],by rw [Db (Jb q hn),q];simp⟩
theorem Un.write (mu:Mut (H x)) (he:e=x∨H e=some (.own x)) (k:∀ b u,b ≠ e→h.get? b=some u→h'.get? b=some u) (heo:∃ u,h'.get? e=some u):Un fs ex H (upd H x o) h h':=by
 have hx:∀ b,H b=none→b ≠ x:=fun b n z=>by subst z;rw [n] at mu;exact mu
 have hb:∀ b,H b=none→b ≠ e:=fun b n z=>by
  subst z;rcases he with r | r
  ·exact hx b n r
  ·rw [n] at r;cases r
 have hm:∀ b u,H b=some u→¬ Mut (some u)→b ≠ x:=fun b u q nm z=>by subst z;rw [q] at mu;exact nm mu
 refine ⟨fun b u q n _ _=>k b u (hb b n) q,fun b u q n _ _=>⟨u.slots,k b u (hb b n) q⟩,fun b u q n _=>by rw [Db (hx b n)];exact n,fun b u q _=>?_,
  fun b xs q=>by rw [Db (hm b _ q fun z=>z)];exact q,fun b u xs q=>by rw [Db (hm b _ q fun z=>z)];exact q,fun b ps q=>⟨#[],by rw [Db (hm b _ q fun z=>z),q];simp⟩⟩
 by_cases hbe:b=e
 ·subst hbe;exact heo
 ·exact ⟨u,k b u hbe q⟩
theorem Un.mono (u:Un fs ex H H1 h h1) (hs:∀ b ∈ fs,b ∈ fs') (hx:∀ b ∈ ex,b ∈ ex'):Un fs' ex' H H1 h h1:=
 ⟨fun b ob q n hb he=>u.keep b ob q n (fun z=>hb (hs b z)) fun z=>he (hx b z),fun _ _ q n _ he=>u.any q n fun z=>he (hx _ z),fun b ob q n he=>u.free b ob q n fun z=>he (hx b z),fun b ob q he=>u.there b ob q fun z=>he (hx b z),u.tups,u.frzs,u.tbls⟩
end
noncomputable def trk (h:Heap) (H:Hp):List Addr:=(List.range h.objs.size).filter fun a=>(H a).isSome
noncomputable def pH (h:Heap) (H:Hp):Heap:=PySem.W.hideAll h (trk h H)
theorem oE (h:Heap) (H:Hp):(pH h H).objs.size=h.objs.size:=PySem.W.hideAll_size _ _
theorem NG {h:Heap} {H:Hp} {b:Addr} {o:Obj} (e:h.get? b=some o) (n:H b=none):(pH h H).get? b=some o:=
 PySem.W.hideAll_get _ e fun hm=>by
  have q:(H b).isSome=true:=(List.mem_filter.mp hm).2;rw [n] at q;simp at q
theorem UJ {h:Heap} {H:Hp} {b:Addr} {o:Obj} (e:(pH h H).get? b=some o):h.get? b=some o∧H b=none:=by
 have e':h.get? b=some o:=PySem.W.of_hideAll (trk h H) e;refine ⟨e',?_⟩;cases q:H b with
 | none=>rfl
 | some x=>
  have hm:b ∈ trk h H:=List.mem_filter.mpr ⟨List.mem_range.mpr (Heap.lt_size e'),by simp [q]⟩;have z:(pH h H).get? b=none:=PySem.W.hideAll_none (trk h H) hm;rw [z] at e;cases e
noncomputable def qJ (g h:Heap) (L:Addr):List (Addr × Obj):=(List.range h.objs.size).filterMap fun a=>if a=L∨(g.get? a).isSome=true then none else (h.get? a).map fun o=>(a,o)
noncomputable def Fw (g h:Heap) (L d:Addr):List (Addr × Obj):=(qJ g h L).filter fun p=>decide (p.1 ≠ d)
end L2
namespace L2
open PySem PySem.Spec PyProof.Rows
structure Mod (K:PySem.W.Frag) (mg:Str→Option Value) (base:Heap):Prop where
 kin:K.In base
 glob:base.Ns mainGlobals mg
 blt:∃ mb,base.Ns builtinsNs mb∧∀ x:Str,x ≠ "__name__" → mb x=bootBuiltins x
 nolimit:base.NoLimit
structure Cx where
 prog:Program
 w:World
 K:PySem.W.Frag
 mg:Str→Option Value
 base:Heap
 A:Around
 N:List Str
 s₀:Shared
 H₀:Hp
 env:Env
 outer:List Env
 stack:List Env
 ex:List Addr
 fn:Str→Bool
 calm:Bool
 pn:List (Addr × Obj)
 xe:Value→Shared→Prop
noncomputable def frs (l:List Env):List Addr:=l.filterMap (·.frame)
noncomputable abbrev Cx.fs (X:Cx):List Addr:=frs X.outer
noncomputable def Vis (sc:Scope) (x:Str):Prop:=sc.names.lookup x=some .local∨sc.names.lookup x=some .cell∨sc.names.lookup x=some .free
noncomputable def Loc (sc:Scope) (x:Str):Prop:=sc.names.lookup x=some .local∨sc.names.lookup x=some .cell
noncomputable def cP (env:Env) (h:Heap) (m:Str→Option Value) (x:Str) (u:Value):Prop:=
 (env.kindOf x=some .local∧m x=some u)∨((env.kindOf x=some .cell∨env.kindOf x=some .free)∧∃ c,env.cells.lookup x=some c∧h.IsCell c (some u))
structure Cx.Ok (X:Cx):Prop where
 mod:Mod X.K X.mg X.base
 kind:X.env.scope.kind=.function
 glob:X.env.globals=mainGlobals
 blt:X.env.builtins=builtinsNs
 above:X.s₀.heap.objs.size ≤ X.env.locals
 inj:∀ x y c,X.env.cells.lookup x=some c→X.env.cells.lookup y=some c→x=y
 has:∀ x,(X.env.kindOf x=some .cell∨X.env.kindOf x=some .free)→∃ c,X.env.cells.lookup x=some c
 cab:∀ x c,X.fn x=true→X.env.cells.lookup x=some c→X.s₀.heap.objs.size ≤ c
 hd:X.calm=true→X.A.handled=none
 frames:X.A.frames=some X.stack
 stk:X.stack=X.outer∨(X.stack=X.env :: X.outer∧X.env.frame=some X.env.locals)
 exf:∀ b ∈ X.ex,b ≠ X.env.locals∧∀ x c,X.env.cells.lookup x=some c→c ≠ b
 bs:∀ b o,X.base.get? b=some o→X.s₀.heap.get? b=some o∧X.H₀ b=none
 bsz:X.base.objs.size ≤ X.s₀.heap.objs.size
 noex:∀ b o,X.base.get? b=some o→b ∉ X.ex
 exfs:∀ b ∈ X.ex,b ∉ X.fs
 funs:X.s₀.heap.FunFrames X.base X.outer
 frf:∀ b ∈ X.fs,X.H₀ b=none
structure Inv (X:Cx) (pins:List (Addr × Obj)) (σ:List (Option V)) (H:Hp) (s:Shared):Prop where
 ok:X.Ok
 os:s.os=X.s₀.os
 bare:AllBare s.gens
 base:Un X.fs X.ex X.H₀ H X.s₀.heap s.heap
 loc:∃ m,s.heap.Ns X.env.locals m∧∀ (i:Nat) (x:Str) (v:V),X.N[i]? = some x→σ[i]? = some (some v)→Vis X.env.scope x→∃ u,Bd v u∧cP X.env s.heap m x u
 cell:∀ x c,X.env.cells.lookup x=some c→∃ v,s.heap.IsCell c v
 free:H X.env.locals=none
 freeC:∀ x c,X.env.cells.lookup x=some c→H c=none
 pin:∀ p ∈ X.pn ++ pins,s.heap.get? p.1=some p.2∧H p.1=none∧p.1 ≠ X.env.locals∧p.1 ∉ X.fs∧∀ v,p.2.data ≠ .cell v
 hok:HOk X.prog X.w H s.heap
 len:σ.length=X.N.length
section
variable {X:Cx} {pins:List (Addr × Obj)} {σ:List (Option V)} {H H':Hp} {s:Shared} {h':Heap}
theorem Cx.Ok.nofr (ok:X.Ok) {b:Addr} {o:Obj} (e:X.base.get? b=some o):b ∉ X.fs:=fun hb=>by
 have:=(ok.funs.mem hb).1;rw [e] at this;cases this
theorem Inv.bs (I:Inv X pins σ H s):∀ b o,X.base.get? b=some o→s.heap.get? b=some o∧H b=none:=fun b o e=>
 ⟨I.base.keep b o (I.ok.bs b o e).1 (I.ok.bs b o e).2 (I.ok.nofr e) (I.ok.noex b o e),I.base.free b o (I.ok.bs b o e).1 (I.ok.bs b o e).2 (I.ok.noex b o e)⟩
theorem Inv.bk (I:Inv X pins σ H s):∀ b o,X.base.get? b=some o→s.heap.get? b=some o:=fun b o e=>(I.bs b o e).1
theorem Inv.mod (I:Inv X pins σ H s):Mod X.K X.mg X.base:=I.ok.mod
theorem Inv.kIn (I:Inv X pins σ H s):X.K.In s.heap:=I.ok.mod.kin.keeps I.bk
theorem Inv.nolimit (I:Inv X pins σ H s):s.heap.NoLimit:=I.ok.mod.nolimit.keeps I.bk
theorem Inv.fr (I:Inv X pins σ H s):∃ m,Fr X.base X.env.locals s.heap m:=
 let ⟨m,hn,_⟩:=I.loc
 ⟨m,hn,I.bk,Nat.le_trans I.ok.bsz I.ok.above⟩
theorem Inv.lt (I:Inv X pins σ H s):X.env.locals < s.heap.objs.size:=let ⟨_,hn,_⟩:=I.loc;hn.lt
theorem Inv.sz (I:Inv X pins σ H s):X.s₀.heap.objs.size ≤ s.heap.objs.size:=Nat.le_trans I.ok.above (Nat.le_of_lt I.lt)
theorem Inv.nofs (I:Inv X pins σ H s) {a:Addr} (h:s.heap.objs.size ≤ a):a ∉ X.fs:=fun hb=>by
 obtain ⟨_,o,ho,_⟩:=I.ok.funs.mem hb;exact absurd (Nat.lt_of_lt_of_le (Heap.lt_size ho) (Nat.le_trans I.sz h)) (Nat.lt_irrefl _)
theorem Inv.cne (I:Inv X pins σ H s):∀ x c,X.env.cells.lookup x=some c→c ≠ X.env.locals:=fun x c e z=>by
 obtain ⟨v,o,ho,hd⟩:=I.cell x c e;obtain ⟨m,⟨o',es,ep,ho',hd',_⟩,_⟩:=I.loc;rw [z,ho'] at ho;cases ho;rw [hd'] at hd;cases hd
theorem Inv.funs (I:Inv X pins σ H s):s.heap.FunFrames X.base X.outer:=by
 have all:∀ (l:List Env),(∀ b ∈ frs l,b ∈ X.fs)→X.s₀.heap.FunFrames X.base l→s.heap.FunFrames X.base l:=by
  intro l
  induction l with
  | nil=>intro _ _;trivial
  | cons env r ih=>
   intro hs hl;obtain ⟨hk,⟨L,o,hf,hn,ho,hd⟩,hr⟩:=hl;have hL:L ∈ X.fs:=hs L (by unfold frs;rw [List.filterMap_cons,hf];exact List.mem_cons_self);obtain ⟨sl,e⟩:=I.base.slot L o ho (I.ok.frf L hL) hL fun z=>I.ok.exfs L z hL
   exact ⟨hk,⟨L,_,hf,hn,e,hd⟩,ih (fun b hb=>hs b (by unfold frs;rw [List.filterMap_cons,hf];exact List.mem_cons_of_mem _ hb)) hr⟩
 exact all X.outer (fun _ hb=>hb) I.ok.funs
theorem Inv.stack (I:Inv X pins σ H s):s.heap.FunFrames X.base X.stack:=by
 rcases I.ok.stk with e | ⟨e,hf⟩
 ·rw [e];exact I.funs
 ·rw [e];obtain ⟨m,hn,_⟩:=I.loc;refine .cons (by rw [I.ok.kind];decide) hf hn ?_ I.funs;exact Heap.get?_none_of_le (Nat.le_trans I.ok.bsz I.ok.above)
theorem Inv.stkSub (I:Inv X pins σ H s):∀ b ∈ frs X.stack,b ∈ X.env.locals :: X.fs:=fun b hb=>by
 rcases I.ok.stk with e | ⟨e,hf⟩
 ·rw [e] at hb;exact List.mem_cons_of_mem _ hb
 ·rw [e] at hb;unfold frs at hb;rw [List.filterMap_cons,hf] at hb;exact hb
theorem Inv.stkFree (I:Inv X pins σ H s):∀ b ∈ frs X.stack,H b=none:=fun b hb=>by
 rcases List.mem_cons.mp (I.stkSub b hb) with e | hb
 ·rw [e];exact I.free
 ·obtain ⟨_,o,ho,_⟩:=I.ok.funs.mem hb;exact I.base.free b o ho (I.ok.frf b hb) fun z=>I.ok.exfs b z hb
theorem Inv.step {g':Array GenState} {t':Nat} {d':Drawn} {ch:List Addr} (I:Inv X pins σ H s)
  (hch:∀ b ∈ ch,(b ∈ X.ex∨X.s₀.heap.objs.size ≤ b)∧b ≠ X.env.locals∧(∀ x c,X.env.cells.lookup x=some c→c ≠ b)∧∀ p ∈ X.pn ++ pins,p.1 ≠ b)
  (keep:∀ b o,b ≠ X.env.locals→b ∉ X.fs→b ∉ ch→s.heap.get? b=some o→H b=none→h'.get? b=some o)
  (slot:∀ b o,b ≠ X.env.locals→b ∈ X.fs→b ∉ ch→s.heap.get? b=some o→H b=none→∃ sl,h'.get? b=some { o with slots:=sl }) (free:∀ b o,b ∉ ch→s.heap.get? b=some o→H b=none→H' b=none)
  (there:∀ b o,b ∉ ch→s.heap.get? b=some o→∃ o',h'.get? b=some o')
  (tups:∀ b xs,H b=some (.tup xs)→H' b=some (.tup xs)) (frzs:∀ b o u,H b=some (.frz o u)→H' b=some (.frz o u)) (tbls:∀ b ps,H b=some (.tbl ps)→∃ more,H' b=some (.tbl (ps ++ more)))
  (ns:∀ m,s.heap.Ns X.env.locals m→h'.Ns X.env.locals m) (hok:HOk X.prog X.w H' h') (hg:AllBare g') :
  Inv X pins σ H' { s with heap:=h',gens:=g',drawn:=d',toks:=t' }:=by
 have neL:∀ b o,X.s₀.heap.get? b=some o→b ≠ X.env.locals:=fun b o e=>Nat.ne_of_lt (Nat.lt_of_lt_of_le (Heap.lt_size e) I.ok.above)
 have neC:∀ b o,X.s₀.heap.get? b=some o→b ∉ X.ex→b ∉ ch:=fun b o e hx hb=>by
  rcases (hch b hb).1 with z | z
  ·exact hx z
  ·exact absurd (Nat.lt_of_lt_of_le (Heap.lt_size e) z) (Nat.lt_irrefl _)
 have cellK:∀ x c,X.env.cells.lookup x=some c→∀ v,s.heap.IsCell c v→h'.IsCell c v:=fun x c e v ⟨o,ho,hd⟩=>by
  have nch:c ∉ ch:=fun z=>(hch c z).2.2.1 x c e rfl
  by_cases hc:c ∈ X.fs
  ·obtain ⟨sl,q⟩:=slot c o (I.cne x c e) hc nch ho (I.freeC x c e);exact ⟨_,q,hd⟩
  ·exact ⟨o,keep c o (I.cne x c e) hc nch ho (I.freeC x c e),hd⟩
 refine ⟨I.ok,I.os,hg,⟨fun b o e n hb hx=>?_,fun b o e n hb hx=>?_,fun b o e n hx=>?_,fun b o e hx=>?_,fun b xs e=>tups b xs (I.base.tups b xs e),fun b o xs e=>frzs b o xs (I.base.frzs b o xs e),fun b ps e=>?_⟩,?_,fun x c e=>?_,?_,fun x c e=>?_,fun p hp=>?_,hok,I.len⟩
 ·exact keep b o (neL b o e) hb (neC b o e hx) (I.base.keep b o e n hb hx) (I.base.free b o e n hx)
 ·obtain ⟨sl,e1⟩:=I.base.slot b o e n hb hx;obtain ⟨sl',e2⟩:=slot b _ (neL b o e) hb (neC b o e hx) e1 (I.base.free b o e n hx);exact ⟨sl',e2⟩
 ·obtain ⟨o',e1⟩:=I.base.there b o e hx;exact free b o' (neC b o e hx) e1 (I.base.free b o e n hx)
 ·obtain ⟨o',e1⟩:=I.base.there b o e hx;exact there b o' (neC b o e hx) e1
 ·obtain ⟨m1,e1⟩:=I.base.tbls b ps e;obtain ⟨m2,e2⟩:=tbls b _ e1;exact ⟨m1 ++ m2,by rw [e2,Array.append_assoc]⟩
 ·obtain ⟨m,hn,hl⟩:=I.loc;refine ⟨m,ns m hn,fun i x v e1 e2 e3=>?_⟩;obtain ⟨u,r,l⟩:=hl i x v e1 e2 e3;refine ⟨u,r,?_⟩;rcases l with l | ⟨k,c,e,z⟩
  ·exact .inl l
  ·exact .inr ⟨k,c,e,cellK x c e _ z⟩
 ·obtain ⟨v,z⟩:=I.cell x c e;exact ⟨v,cellK x c e v z⟩
 ·obtain ⟨m,⟨o,_,_,ho,_⟩,_⟩:=I.loc;exact free _ o (fun z=>(hch _ z).2.1 rfl) ho I.free
 ·obtain ⟨v,o,ho,hd⟩:=I.cell x c e;exact free c o (fun z=>(hch c z).2.2.1 x c e rfl) ho (I.freeC x c e)
 ·obtain ⟨e,n,ne,nf,d⟩:=I.pin p hp;have nch:p.1 ∉ ch:=fun z=>(hch p.1 z).2.2.2 p hp rfl
  exact ⟨keep p.1 p.2 ne nf nch e n,free p.1 p.2 nch e n,ne,nf,d⟩
theorem Inv.un {t':Nat} (I:Inv X pins σ H s) (u:Un X.fs [] H H' s.heap h') (hok:HOk X.prog X.w H' h'):Inv X pins σ H' { s with heap:=h',toks:=t' }:=by
 obtain ⟨m,⟨o,es,ep,ho,r⟩,_⟩:=id I.loc;obtain ⟨sl,hL⟩:=u.any ho I.free (by simp);exact I.step (g':=s.gens) (d':=s.drawn) (ch:=[]) (fun _ z=>nomatch z) (fun b o _ hb _ e n=>u.keep b o e n hb (by simp)) (fun b o _ hb _ e n=>u.slot b o e n hb (by simp)) (fun b o _ e n=>u.free b o e n (by simp)) (fun b o _ e=>u.there b o e (by simp)) u.tups u.frzs u.tbls (fun m' hm=>by
  obtain ⟨o',es',ep',ho',r'⟩:=hm;rw [ho] at ho';cases ho';exact ⟨_,es',ep',hL,r'⟩) hok I.bare
theorem Inv.call {g':Array GenState} {t':Nat} {d':Drawn} {ch:List Addr} (I:Inv X pins σ H s) (u:Un (frs X.stack) ch H H' s.heap h') (hok:HOk X.prog X.w H' h') (hg:AllBare g')
  (hch:∀ b ∈ ch,(b ∈ X.ex∨X.s₀.heap.objs.size ≤ b)∧b ≠ X.env.locals∧(∀ x c,X.env.cells.lookup x=some c→c ≠ b)∧∀ p ∈ X.pn ++ pins,p.1 ≠ b) :
  Inv X pins σ H' { s with heap:=h',gens:=g',drawn:=d',toks:=t' }:=by
 obtain ⟨m,⟨o,es,ep,ho,r⟩,_⟩:=id I.loc;obtain ⟨sl,hL⟩:=u.any ho I.free fun z=>(hch _ z).2.1 rfl
 exact I.step (ch:=ch) hch (fun b o hL hb hc e n=>u.keep b o e n (fun z=>(List.mem_cons.mp (I.stkSub b z)).elim hL hb) hc) (fun b o _ _ hc e n=>u.any e n hc) (fun b o hc e n=>u.free b o e n hc) (fun b o hc e=>u.there b o e hc) u.tups u.frzs u.tbls (fun m' hm=>by
  obtain ⟨o',es',ep',ho',r'⟩:=hm;rw [ho] at ho';cases ho';exact ⟨_,es',ep',hL,r'⟩) hok hg
theorem Inv.turned {t':Nat} {it:Addr} (I:Inv X pins σ H s) (k:∀ b o,b ≠ it→s.heap.get? b=some o→h'.get? b=some o) (hn:H it=none) (hL:it ≠ X.env.locals)
  (h1:it ∈ X.ex∨X.s₀.heap.objs.size ≤ it) (h2:∀ x c,X.env.cells.lookup x=some c→c ≠ it) (h3:∀ p ∈ X.pn ++ pins,p.1 ≠ it):Inv X pins σ H { s with heap:=h',toks:=t' }:=by
 have nit:∀ b u,H b=some u→b ≠ it:=fun b u e z=>by rw [z,hn] at e;cases e
 refine I.step (g':=s.gens) (d':=s.drawn) (ch:=[it]) (fun b hb=>?_) (fun b o _ _ hc e _=>k b o (fun z=>hc (by simp [z])) e) (fun b o _ _ hc e _=>⟨o.slots,k b o (fun z=>hc (by simp [z])) e⟩) (fun _ _ _ _ n=>n)
  (fun b o hc e=>⟨o,k b o (fun z=>hc (by simp [z])) e⟩) (fun _ _ e=>e) (fun _ _ _ e=>e) (fun b ps e=>⟨#[],by rw [e];simp⟩) (fun m hm=>?_) (fun b u e=>?_) I.bare
 ·have e:b=it:=by simpa using hb
  subst e;exact ⟨h1,hL,h2,h3⟩
 ·obtain ⟨o,es,ep,ho,r⟩:=hm;exact ⟨o,es,ep,k _ o (Ne.symm hL) ho,r⟩
 ·refine (I.hok b u e).stay (fun c v hc q=>k c v ?_ q) (fun _ q=>q) fun _ _ q=>q
  rcases hc with z | z
  ·rw [z];exact nit b u e
  ·exact nit c _ z
theorem Inv.tok (I:Inv X pins σ H s) (t:Nat):Inv X pins σ H { s with toks:=t }:=I.un (h':=s.heap) (t':=t) Un.refl I.hok
theorem Inv.kept {t':Nat} (I:Inv X pins σ H s) (k:∀ b u,s.heap.get? b=some u→h'.get? b=some u):Inv X pins σ H { s with heap:=h',toks:=t' }:=I.un (Un.kept k) (I.hok.kept k)
theorem Inv.laid {a:Addr} {o:HO} {t':Nat} (I:Inv X pins σ H s) (k:∀ b u,s.heap.get? b=some u→h'.get? b=some u) (hp:s.heap.objs.size ≤ a) (new:Zd X.prog X.w (upd H a o) h' a o) :
  Inv X pins σ (upd H a o) { s with heap:=h',toks:=t' }:=I.un (Un.laid k hp (I.hok.fresh hp)) (I.hok.laid k hp new)
theorem Inv.write {x e:Addr} {o:HO} {t':Nat} (I:Inv X pins σ H s) (mu:Mut (H x)) (he:e=x∨H e=some (.own x)) (k:∀ b u,b ≠ e→s.heap.get? b=some u→h'.get? b=some u) (heo:∃ u,h'.get? e=some u)
  (new:Zd X.prog X.w (upd H x o) h' x o):Inv X pins σ (upd H x o) { s with heap:=h',toks:=t' }:=I.un (Un.write mu he k heo) (I.hok.write mu he k heo new)
theorem Inv.weak {σ':List (Option V)} (I:Inv X pins σ H s) (hl:σ'.length=σ.length) (w:∀ (i:Nat) v,σ'[i]? = some (some v)→σ[i]? = some (some v)):Inv X pins σ' H s:=
 ⟨I.ok,I.os,I.bare,I.base,let ⟨m,hn,hl'⟩:=I.loc;⟨m,hn,fun i x v e1 e2 e3=>hl' i x v e1 (w i v e2) e3⟩,I.cell,I.free,I.freeC,I.pin,I.hok,hl.trans I.len⟩
theorem Inv.pins_of {pins':List (Addr × Obj)} (I:Inv X pins σ H s) (h:∀ p ∈ pins',s.heap.get? p.1=some p.2∧H p.1=none∧p.1 ≠ X.env.locals∧p.1 ∉ X.fs∧∀ v,p.2.data ≠ .cell v):Inv X pins' σ H s:=
 ⟨I.ok,I.os,I.bare,I.base,I.loc,I.cell,I.free,I.freeC,fun p hp=>(List.mem_append.mp hp).elim (fun z=>I.pin p (List.mem_append_left _ z)) (h p),I.hok,I.len⟩
theorem az {N:List Str} (hN:N.Nodup) {i j:Nat} {x:Str} (a:N[i]? = some x) (b:N[j]? = some x):i=j:=by
 obtain ⟨h1,e1⟩:=List.getElem?_eq_some_iff.mp a;obtain ⟨h2,e2⟩:=List.getElem?_eq_some_iff.mp b;exact (List.getElem_inj hN).mp (e1.trans e2.symm)
theorem gw {M:Model} {A:Around} {E:Value→Shared→Prop} {i:Nat} {x:Str} {v:V} {u:Value} {Q:Unit→Shared→Prop} (I:Inv X pins σ H s) (hN:X.N.Nodup) (hi:X.N[i]? = some x) (hx:Loc X.env.scope x) (r:Bd v u)
  (h:∀ s',Inv X pins (σ.set i (some v)) H s'→(∃ a,Heap.SameBut a s.heap s'.heap∧(a=X.env.locals∨X.env.cells.lookup x=some a))→Q () s') (hf:X.fn x=true∨X.env.scope.names.lookup x=some .local:=by first | exact .inl rfl | exact .inr rfl | assumption):wpAny M A (storeName X.env x u) Q E s:=by
 obtain ⟨m,hn,hl⟩:=id I.loc;have hcls:(X.env.scope.kind == .class || (X.env.scope.kind == .module && X.env.locals != X.env.globals))=false:=by rw [I.ok.kind];rfl
 have hiσ:i < σ.length:=by rw [I.len];exact (List.getElem?_eq_some_iff.mp hi).1
 have cne:=I.cne;have tracked:∀ {a:Addr} {h':Heap},(∃ o,s.heap.get? a=some o∧H a=none)→Heap.SameBut a s.heap h'→HOk X.prog X.w H h':=fun {a h'} ha hs b ob e=>by
  obtain ⟨_,_,hfree⟩:=ha;refine (I.hok b ob e).stay (fun c w' hc q=>(hs.2 c ?_).trans q) (fun _ q=>q) fun _ _ q=>q
  rintro rfl;rcases hc with rfl | hc
  ·rw [hfree] at e;cases e
  ·rw [hfree] at hc;cases hc
 rcases hx with hk | hk
 ·refine wpAny_storeName_local hk hn (fun h' hn' hs=>?_) hcls;obtain ⟨oL,_,_,hoL,_⟩:=id hn;refine h _ ⟨I.ok,I.os,I.bare,⟨fun b o e n hb hx=>?_,fun b o e n hb hx=>?_,I.base.free,fun b o e hx=>?_,I.base.tups,I.base.frzs,I.base.tbls⟩,⟨_,hn',fun j y v' e1 e2 e3=>?_⟩,fun y c e=>?_,I.free,I.freeC,fun p hp=>?_,tracked ⟨oL,hoL,I.free⟩ hs,by simpa using I.len⟩ ⟨_,hs,.inl rfl⟩
  ·exact (hs.2 b (Nat.ne_of_lt (Nat.lt_of_lt_of_le (Heap.lt_size e) I.ok.above))).trans (I.base.keep b o e n hb hx)
  ·obtain ⟨sl,e1⟩:=I.base.slot b o e n hb hx;exact ⟨sl,(hs.2 b (Nat.ne_of_lt (Nat.lt_of_lt_of_le (Heap.lt_size e) I.ok.above))).trans e1⟩
  ·obtain ⟨o',e1⟩:=I.base.there b o e hx;exact ⟨o',(hs.2 b (Nat.ne_of_lt (Nat.lt_of_lt_of_le (Heap.lt_size e) I.ok.above))).trans e1⟩
  ·by_cases hj:j=i
   ·subst hj;rw [hi] at e1;cases e1;rw [List.getElem?_set_self hiσ] at e2;cases e2;exact ⟨u,r,.inl ⟨hk,by simp⟩⟩
   ·rw [List.getElem?_set_ne (Ne.symm hj)] at e2;obtain ⟨u',r',q⟩:=hl j y v' e1 e2 e3;refine ⟨u',r',?_⟩;rcases q with ⟨k,e⟩ | ⟨k,c,e,z⟩
    ·refine .inl ⟨k,?_⟩;have:y ≠ x:=fun e=>hj (az hN e1 (e ▸ hi))
     simp [this,e]
    ·exact .inr ⟨k,c,e,z.sameBut hs (cne y c e)⟩
  ·obtain ⟨w',z⟩:=I.cell y c e;exact ⟨w',z.sameBut hs (cne y c e)⟩
  ·obtain ⟨e,n,ne,nf,d⟩:=I.pin p hp;exact ⟨(hs.2 p.1 ne).trans e,n,ne,nf,d⟩
 ·have hfn:X.fn x=true:=by
   rcases hf with z | z
   ·exact z
   ·rw [z] at hk;cases hk
  obtain ⟨c,hc⟩:=I.ok.has x (.inl hk);obtain ⟨w',z⟩:=I.cell x c hc;refine wpAny_storeName_cell I.ok.kind hk hc z (fun h' hc' hs=>?_);obtain ⟨oc,hoc,hocd⟩:=id z;refine h { s with heap:=h' } ⟨I.ok,I.os,I.bare,⟨fun b o e n hb hx=>?_,fun b o e n hb hx=>?_,I.base.free,fun b o e hx=>?_,I.base.tups,I.base.frzs,I.base.tbls⟩,⟨m,hn.sameBut hs (Ne.symm (cne x c hc)),fun j y v' e1 e2 e3=>?_⟩,fun y c' e=>?_,I.free,I.freeC,fun p hp=>?_,tracked ⟨oc,hoc,I.freeC x c hc⟩ hs,by simpa using I.len⟩ ⟨c,hs,.inr hc⟩
  ·exact (hs.2 b (Nat.ne_of_lt (Nat.lt_of_lt_of_le (Heap.lt_size e) (I.ok.cab x c hfn hc)))).trans (I.base.keep b o e n hb hx)
  ·obtain ⟨sl,e1⟩:=I.base.slot b o e n hb hx;exact ⟨sl,(hs.2 b (Nat.ne_of_lt (Nat.lt_of_lt_of_le (Heap.lt_size e) (I.ok.cab x c hfn hc)))).trans e1⟩
  ·obtain ⟨o',e1⟩:=I.base.there b o e hx;exact ⟨o',(hs.2 b (Nat.ne_of_lt (Nat.lt_of_lt_of_le (Heap.lt_size e) (I.ok.cab x c hfn hc)))).trans e1⟩
  ·by_cases hj:j=i
   ·subst hj;rw [hi] at e1;cases e1;rw [List.getElem?_set_self hiσ] at e2;cases e2;exact ⟨u,r,.inr ⟨.inl hk,c,hc,hc'⟩⟩
   ·rw [List.getElem?_set_ne (Ne.symm hj)] at e2;obtain ⟨u',r',q⟩:=hl j y v' e1 e2 e3;refine ⟨u',r',?_⟩;rcases q with q | ⟨k,c',e,z'⟩
    ·exact .inl q
    ·refine .inr ⟨k,c',e,z'.sameBut hs ?_⟩;rintro rfl;exact hj (az hN e1 (I.ok.inj _ _ _ e hc ▸ hi))
  ·by_cases hcc:c'=c
   ·subst hcc;exact ⟨_,hc'⟩
   ·obtain ⟨w2,z2⟩:=I.cell y c' e;exact ⟨w2,z2.sameBut hs hcc⟩
  ·obtain ⟨e,n,ne,nf,d⟩:=I.pin p hp;refine ⟨(hs.2 p.1 ?_).trans e,n,ne,nf,d⟩;intro q;rw [q,hoc] at e;have q':oc=p.2:=Option.some.inj e;exact d w' (by rw [← q'];exact hocd)
theorem Am {M:Model} {A:Around} {E:Value→Shared→Prop} {i:Nat} {x:Str} {v:V} {u:Value} {Q:Unit→Shared→Prop} (I:Inv X pins σ H s) (hN:X.N.Nodup) (hi:X.N[i]? = some x) (hx:Loc X.env.scope x) (r:Bd v u)
  (h:∀ s',Inv X pins (σ.set i (some v)) H s'→Q () s') (hf:X.fn x=true∨X.env.scope.names.lookup x=some .local:=by first | exact .inl rfl | exact .inr rfl | assumption):wpAny M A (storeName X.env x u) Q E s:=
 gw I hN hi hx r (fun s' I' _=>h s' I') hf
theorem Inv.call' {s':Shared} {ch:List Addr} (I:Inv X pins σ H s) (ho:s'.os=s.os) (u:Un (frs X.stack) ch H H' s.heap s'.heap) (hok:HOk X.prog X.w H' s'.heap) (hg:AllBare s'.gens)
  (hch:∀ b ∈ ch,(b ∈ X.ex∨X.s₀.heap.objs.size ≤ b)∧b ≠ X.env.locals∧(∀ x c,X.env.cells.lookup x=some c→c ≠ b)∧∀ p ∈ X.pn ++ pins,p.1 ≠ b):Inv X pins σ H' s':=by
 obtain ⟨h',g',d',t',o'⟩:=s';have e:o'=s.os:=ho;subst e;exact I.call (g':=g') (t':=t') (d':=d') u hok hg hch
end
noncomputable abbrev XK:=Value→Option Addr→Hp→Prop
noncomputable abbrev St:=List (Option V)
noncomputable abbrev VK:=V→Hp→Prop
noncomputable abbrev TE:=St→Hp→VK→Prop
noncomputable abbrev TT:=St→Hp→(Bool→Hp→Prop)→Prop
noncomputable abbrev TA:=St→Hp→(List V→Hp→Prop)→Prop
structure sj where
 nx:St→Hp→Prop
 rt:VK
 bk:St→Hp→Prop:=fun _ _=>False
 ct:St→Hp→Prop:=fun _ _=>False
noncomputable abbrev TS:=sj→St→Hp→Prop
noncomputable def EP (X:Cx) (pins:List (Addr × Obj)) (σ:St) (Q:VK) (u:Value) (s':Shared):Prop:=∃ v H',Inv X pins σ H' s'∧Bd v u∧Q v H'
noncomputable def TP (X:Cx) (pins:List (Addr × Obj)) (σ:St) (Q:Bool→Hp→Prop) (b:Bool) (s':Shared):Prop:=∃ H',Inv X pins σ H' s'∧Q b H'
noncomputable def AP (X:Cx) (pins:List (Addr × Obj)) (σ:St) (Q:List V→Hp→Prop) (us:List Value) (s':Shared):Prop:=∃ vs H',Inv X pins σ H' s'∧md vs us∧Q vs H'
noncomputable def SP (X:Cx) (pins:List (Addr × Obj)) (D:sj) (f:Flow) (s':Shared):Prop:=
 match f with
 | .next=>∃ σ' H',Inv X pins σ' H' s'∧D.nx σ' H'
 | .brk=>∃ σ' H',Inv X pins σ' H' s'∧D.bk σ' H'
 | .cont=>∃ σ' H',Inv X pins σ' H' s'∧D.ct σ' H'
 | .ret u=>∃ v σ' H',Inv X pins σ' H' s'∧Bd v u∧D.rt v H'
noncomputable def PE (X:Cx) (e:Expr) (t:TE):Prop:=
 ∀ (pins:List (Addr × Obj)) (s:Shared) (σ:St) (H:Hp) (Q:VK),Inv X pins σ H s→t σ H Q→wpAny (model X.prog X.w) X.A (eval e X.env) (EP X pins σ Q) X.xe s
noncomputable def PT (X:Cx) (e:Expr) (t:TT):Prop:=
 ∀ (pins:List (Addr × Obj)) (s:Shared) (σ:St) (H:Hp) (Q:Bool→Hp→Prop),Inv X pins σ H s→t σ H Q→wpAny (model X.prog X.w) X.A (isTrue e X.env (eval e X.env)) (TP X pins σ Q) X.xe s
noncomputable def PW (X:Cx) (e:Expr) (t:TT):Prop:=
 ∀ (whole:Sem Value) (pins:List (Addr × Obj)) (s:Shared) (σ:St) (H:Hp) (Q:Bool→Hp→Prop),Inv X pins σ H s→t σ H Q→wpAny (model X.prog X.w) X.A (isTrue e X.env whole) (TP X pins σ Q) X.xe s
theorem PW.pt {X:Cx} {e:Expr} {t:TT} (h:PW X e t):PT X e t:=h _
noncomputable def PA (X:Cx) (es:List Expr) (t:TA):Prop:=
 ∀ (pos:Pos) (pins:List (Addr × Obj)) (s:Shared) (σ:St) (H:Hp) (Q:List V→Hp→Prop),Inv X pins σ H s→t σ H Q→wpAny (model X.prog X.w) X.A (spliced (backTo pos (starEach es X.env))) (AP X pins σ Q) X.xe s
noncomputable def PS (X:Cx) (st:Stmt) (t:TS):Prop:=
 ∀ (pins:List (Addr × Obj)) (s:Shared) (σ:St) (H:Hp) (D:sj),Inv X pins σ H s→t D σ H→wpAny (model X.prog X.w) X.A (exec st X.env) (SP X pins D) X.xe s
noncomputable def PSs (X:Cx) (st:List Stmt) (t:TS):Prop:=
 ∀ (pins:List (Addr × Obj)) (s:Shared) (σ:St) (H:Hp) (D:sj),Inv X pins σ H s→t D σ H→wpAny (model X.prog X.w) X.A (execs st X.env) (SP X pins D) X.xe s
theorem thn {α:Type} {t:Sem α} {Q Q':α→Shared→Prop} {M:Model} {A:Around} {E:Value→Shared→Prop} {s:Shared} (h:wpAny M A t Q E s) (hQ:∀ a s,Q a s→Q' a s):wpAny M A t Q' E s:=wpAny_mono h hQ fun _ _ x=>x
end L2
namespace L2
open PySem PySem.Spec PyProof.Rows
section
variable {X:Cx}
noncomputable def BI (H:Hp) (Q:VK):Option (Option V)→Prop
 | some (some v)=>Q v H
 | _=>False
theorem Tu (H:Hp) (Q:VK) (v:V):BI H Q (some (some v))=Q v H:=rfl
theorem BI.out {H:Hp} {Q:VK}:∀ {o:Option (Option V)},BI H Q o→∃ v,o=some (some v)∧Q v H
 | some (some v),h=>⟨v,rfl,h⟩
 | some none,h=>h.elim
 | none,h=>h.elim
theorem cJ (H:Hp) (Q:VK) (o:Option (Option V)):BI H Q o = ∃ v,o=some (some v)∧Q v H:=propext ⟨BI.out,fun ⟨_,e,h⟩=>e ▸ h⟩
noncomputable def Fj (x:V) (k:Int→Prop):Prop:=match x with
 | .int i=>k i
 | _=>False
theorem Jz (i:Int) (k:Int→Prop):Fj (.int i) k=k i:=rfl
theorem Fj.out {x:V} {k:Int→Prop} (h:Fj x k):∃ i,x=.int i∧k i:=by
 cases x with
 | int i=>exact ⟨i,rfl,h⟩
 | _=>exact h.elim
theorem bK (x:V) (k:Int→Prop):Fj x k = ∃ i,x=.int i∧k i:=propext ⟨Fj.out,fun ⟨_,e,h⟩=>e ▸ h⟩
noncomputable def BlQ (x:V) (k:Bool→Prop):Prop:=match x with
 | .bl i=>k i
 | _=>False
theorem uI (i:Bool) (k:Bool→Prop):BlQ (.bl i) k=k i:=rfl
theorem BlQ.out {x:V} {k:Bool→Prop} (h:BlQ x k):∃ i,x=.bl i∧k i:=by
 cases x with
 | bl i=>exact ⟨i,rfl,h⟩
 | _=>exact h.elim
theorem gL (x:V) (k:Bool→Prop):BlQ x k = ∃ i,x=.bl i∧k i:=propext ⟨BlQ.out,fun ⟨_,e,h⟩=>e ▸ h⟩
noncomputable def mh (x:V) (k:Addr→Prop):Prop:=match x with
 | .ref i=>k i
 | _=>False
theorem ky (i:Addr) (k:Addr→Prop):mh (.ref i) k=k i:=rfl
theorem mh.out {x:V} {k:Addr→Prop} (h:mh x k):∃ i,x=.ref i∧k i:=by
 cases x with
 | ref i=>exact ⟨i,rfl,h⟩
 | _=>exact h.elim
theorem wJ (x:V) (k:Addr→Prop):mh x k = ∃ i,x=.ref i∧k i:=propext ⟨mh.out,fun ⟨_,e,h⟩=>e ▸ h⟩
noncomputable def oA (xs:List V) (k:V→Prop):Prop:=match xs with
 | [y]=>k y
 | _=>False
theorem Pz (y:V) (k:V→Prop):oA [y] k=k y:=rfl
theorem oA.out:∀ {xs:List V} {k:V→Prop},oA xs k→∃ y,xs=[y]∧k y
 | [y],_,h=>⟨y,rfl,h⟩
 | [],_,h=>h.elim
 | _ :: _ :: _,_,h=>h.elim
theorem JK (xs:List V) (k:V→Prop):oA xs k = ∃ y,xs=[y]∧k y:=propext ⟨oA.out,fun ⟨_,e,h⟩=>e ▸ h⟩
noncomputable def wN (i:Nat):TE:=fun σ H Q=>BI H Q σ[i]?
noncomputable def tC (v:V):TE:=fun _ H Q=>Q v H
theorem IM {i:Nat} {x:Str} {pos:Pos} (hN:X.N[i]? = some x) (hv:Vis X.env.scope x) (hd:(x == ("__debug__" : Str))=false:=by decide) (hcd:(x == ("__classdict__" : Str))=false:=by decide):PE X (.Name x pos) (wN i):=by
 intro pins s σ H Q I h;obtain ⟨v,e,h⟩:=BI.out h;obtain ⟨m,hn,hl⟩:=I.loc;obtain ⟨u,r,l⟩:=hl i x v hN e hv;have fin:EP X pins σ Q u s:=⟨v,H,I,r,h⟩;rcases l with ⟨hk,hm⟩ | ⟨hk,c,hc,hcell⟩
 ·exact wpAny_Name (wpAny_loadName_local I.ok.kind hk hn hm fin) hd
 ·rcases hk with hk | hk
  ·exact wpAny_Name (wpAny_loadName_cell I.ok.kind hk hc hcell fin) hd
  ·exact wpAny_Name (wpAny_loadName_free I.ok.kind hk hc hcell fin hcd) hd
theorem jb {i j pos}:PE X (.Constant (.int i) j pos) (tC (.int i)):=fun _ _ _ H _ I h=>wpAny_Constant_int ⟨.int i,H,I.tok _,⟨_,rfl⟩,h⟩
theorem Qj {b j pos}:PE X (.Constant (.bool b) j pos) (tC (.bl b)):=fun _ _ _ H _ I h=>Constant_bool ⟨.bl b,H,I,rfl,h⟩
theorem Jh {j pos}:PE X (.Constant .none j pos) (tC .non):=fun _ _ _ H _ I h=>Constant_none ⟨.non,H,I,rfl,h⟩
theorem xc {x j pos}:PE X (.Constant (.str x) j pos) (tC (.str x)):=fun _ _ _ H _ I h=>Calls.Constant_str ⟨.str x,H,I.tok _,⟨_,rfl⟩,h⟩
noncomputable def Gl (X:Cx) (x:Str):Prop:=X.env.kindOf x=some .globalImplicit
theorem Jt {E:Value→Shared→Prop} {pins:List (Addr × Obj)} {s:Shared} {σ:St} {H:Hp} {x:Str} {u:Value} {pos:Pos} {Q:Value→Shared→Prop} (I:Inv X pins σ H s) (hg:Gl X x) (hm:X.mg x=some u) (h:Q u s)
  (hd:(x == ("__debug__" : Str))=false:=by decide):wpAny (model X.prog X.w) X.A (eval (.Name x pos) X.env) Q E s:=
 Calls.Name_function_global I.ok.kind hg (Calls.loadGlobal_global (by rw [I.ok.glob];exact I.mod.glob.keeps I.bk) hm h) hd
theorem io {E:Value→Shared→Prop} {pins:List (Addr × Obj)} {s:Shared} {σ:St} {H:Hp} {x:Str} {u:Value} {pos:Pos} {Q:Value→Shared→Prop} (I:Inv X pins σ H s) (hg:Gl X x) (hm:X.mg x=none) (hv:bootBuiltins x=some u) (h:Q u s)
  (hn:x ≠ "__name__" := by decide) (hd:(x == ("__debug__" : Str))=false:=by decide):wpAny (model X.prog X.w) X.A (eval (.Name x pos) X.env) Q E s:=by
 obtain ⟨mb,h1,h2⟩:=I.mod.blt;exact Calls.Name_function_global I.ok.kind hg (Calls.loadGlobal_builtin (by rw [I.ok.glob];exact I.mod.glob.keeps I.bk) hm (by rw [I.ok.blt];exact h1.keeps I.bk) ((h2 x hn).trans hv) h) hd
theorem Mh {x:Str} {v:V} {u:Value} {pos:Pos} (hg:Gl X x) (hm:X.mg x=some u) (r:Bd v u) (hd:(x == ("__debug__" : Str))=false:=by decide):PE X (.Name x pos) (tC v):=
 fun _ _ _ H _ I h=>Jt I hg hm ⟨v,H,I,r,h⟩ hd
variable {a b:Expr} {ta tb:TE} {pos:Pos}
noncomputable def PC (X:Cx) (op:CmpOp) (a b:Expr) (t:TE):Prop:=
 ∀ (pins:List (Addr × Obj)) (s:Shared) (σ:St) (H:Hp) (Q:VK),Inv X pins σ H s→t σ H Q →
  wpAny (model X.prog X.w) X.A (eval a X.env) (fun v s₁=>wpAny (model X.prog X.w) X.A (eval b X.env) (fun u s₂=>wpAny (model X.prog X.w) X.A (compareOp op v u) (EP X pins σ Q) X.xe s₂) X.xe s₁) X.xe s
theorem kz (b:Expr) {op:CmpOp} (h:op ≠ .In) (h2:op ≠ .NotIn):behindInMarks op b=false:=by
 have e1:(op == CmpOp.In)=false:=by cases op <;> first | rfl | exact absurd rfl h
 have e2:(op == CmpOp.NotIn)=false:=by cases op <;> first | rfl | exact absurd rfl h2
 cases b <;> simp [behindInMarks,e1,e2]
noncomputable def tB (t:TE):TT:=fun σ H Q=>t σ H fun x H1=>BlQ x fun c=>Q c H1
theorem zI {op:CmpOp} {t:TE} (h:PC X op a b t) (h1:behindInMarks op b=false:=by first | exact kz _ (by decide) (by decide) | rfl):PE X (.Compare a [op] [b] pos) t:=fun pins s σ H Q I hw=>wpAny_Compare1 (h pins s σ H Q I hw) h1
theorem Wr {op:CmpOp} {t:TE} (h:PC X op a b t) (h1:behindInMarks op b=false:=by first | exact kz _ (by decide) (by decide) | rfl):PT X (.Compare a [op] [b] pos) (tB t):=by
 intro pins s σ H Q I hw;refine wpAny_isTrue_Compare1 (thn (h pins s σ H _ I hw) fun v s1 h1=>thn h1 fun u s2 h2=>thn h2 fun c s3 hZ1=>?_) h1;obtain ⟨x,H1,I1,r1,q1⟩:=hZ1;obtain ⟨d,rfl,q⟩:=BlQ.out q1;cases r1;exact wpAny_truthy_bool ⟨H1,I1,q⟩
theorem ol {e:Expr} {t:TE} (h:PE X e t) (he:∀ whole,isTrue e X.env whole=(do let v ← whole;standAt e.pos;holding [v] (truthy v)):=by intro _;rfl):PT X e (tB t):=by
 intro pins s σ H Q I hw;refine isTrue_plain (thn (h pins s σ H _ I hw) fun v s1 hZ1=>?_) (he _);obtain ⟨x,H1,I1,r1,q1⟩:=hZ1;obtain ⟨d,rfl,q⟩:=BlQ.out q1;cases r1;exact wpAny_truthy_bool ⟨H1,I1,q⟩
variable {tA tB':TT} {Fw:List Expr}
noncomputable def UO (t u:TT):TT:=fun σ H Q=>t σ H fun c H1=>if c=true then u σ H1 Q else Q false H1
noncomputable def tOr (t u:TT):TT:=fun σ H Q=>t σ H fun c H1=>if c=true then Q true H1 else u σ H1 Q
noncomputable def tO (t:TT):TT:=fun σ H Q=>t σ H fun c H1=>Q (!c) H1
theorem At (ha:PT X a tA):PW X (.BoolOp .And [a] pos) tA:=by
 intro wh pins s σ H Q I h;refine isTrue_and (thn (ha pins s σ H Q I h) fun c s1 e=>?_);cases c with
 | true=>exact isTrue_and_nil e
 | false=>exact e
theorem uv (ha:PT X a tA):PW X (.BoolOp .Or [a] pos) tA:=by
 intro wh pins s σ H Q I h;refine isTrue_or (thn (ha pins s σ H Q I h) fun c s1 e=>?_);cases c with
 | false=>exact isTrue_or_nil e
 | true=>exact e
theorem Av (ha:PT X a tA) (hb:PW X (.BoolOp .And (b :: Fw) pos) tB'):PW X (.BoolOp .And (a :: b :: Fw) pos) (UO tA tB'):=by
 intro wh pins s σ H Q I h;refine isTrue_and (thn (ha pins s σ H _ I h) fun c s1 hZ1=>?_);obtain ⟨H1,I1,q1⟩:=hZ1;cases c with
 | true=>exact hb wh pins s1 σ H1 Q I1 q1
 | false=>exact ⟨H1,I1,q1⟩
theorem bE (ha:PT X a tA) (hb:PW X (.BoolOp .Or (b :: Fw) pos) tB'):PW X (.BoolOp .Or (a :: b :: Fw) pos) (tOr tA tB'):=by
 intro wh pins s σ H Q I h;refine isTrue_or (thn (ha pins s σ H _ I h) fun c s1 hZ1=>?_);obtain ⟨H1,I1,q1⟩:=hZ1;cases c with
 | true=>exact ⟨H1,I1,q1⟩
 | false=>exact hb wh pins s1 σ H1 Q I1 q1
theorem Mq (ha:PT X a tA):PT X (.UnaryOp .Not a pos) (tO tA):=by
 intro pins s σ H Q I h;exact isTrue_not (ha pins s σ H (fun c H1=>Q (!c) H1) I h)
noncomputable def oM (ta tb:TE):TE:=fun σ H Q=>ta σ H fun x H1=>BlQ x fun c=>if c=true then tb σ H1 Q else Q (.bl false) H1
noncomputable def qO (ta tb:TE):TE:=fun σ H Q=>ta σ H fun x H1=>BlQ x fun c=>if c=true then Q (.bl true) H1 else tb σ H1 Q
theorem fw {op} {t:TE} (h:PE X a t):PE X (.BoolOp op [a] pos) t:=fun pins s σ H Q I hw=>BoolOp_one (h pins s σ H Q I hw)
theorem gI (ha:PE X a ta) (hb:PE X (.BoolOp .And (b :: Fw) pos) tb):PE X (.BoolOp .And (a :: b :: Fw) pos) (oM ta tb):=by
 intro pins s σ H Q I h;refine BoolOp_and (thn (ha pins s σ H _ I h) fun v s1 hZ1=>?_);obtain ⟨x,H1,I1,r1,q1⟩:=hZ1;obtain ⟨c,rfl,zq⟩:=BlQ.out q1;cases r1;refine wpAny_truthy_bool ?_;cases c with
 | true=>exact hb pins s1 σ H1 Q I1 zq
 | false=>exact ⟨.bl false,H1,I1,rfl,zq⟩
theorem CK (ha:PE X a ta) (hb:PE X (.BoolOp .Or (b :: Fw) pos) tb):PE X (.BoolOp .Or (a :: b :: Fw) pos) (qO ta tb):=by
 intro pins s σ H Q I h;refine BoolOp_or (thn (ha pins s σ H _ I h) fun v s1 hZ1=>?_);obtain ⟨x,H1,I1,r1,q1⟩:=hZ1;obtain ⟨c,rfl,zq⟩:=BlQ.out q1;cases r1;refine wpAny_truthy_bool ?_;cases c with
 | false=>exact hb pins s1 σ H1 Q I1 zq
 | true=>exact ⟨.bl true,H1,I1,rfl,zq⟩
noncomputable def tIf (t:TT) (ta tb:TE):TE:=fun σ H Q=>t σ H fun c H1=>if c=true then ta σ H1 Q else tb σ H1 Q
theorem eu {c:Expr} (hc:PT X c tA) (ha:PE X a ta) (hb:PE X b tb):PE X (.IfExp c a b pos) (tIf tA ta tb):=by
 intro pins s σ H Q I h;refine wpAny_IfExp (thn (hc pins s σ H _ I h) fun d s1 hZ1=>?_);obtain ⟨H1,I1,q1⟩:=hZ1;cases d with
 | true=>exact ha pins s1 σ H1 Q I1 q1
 | false=>exact hb pins s1 σ H1 Q I1 q1
end
end L2
namespace L2
open PySem PySem.Spec PyProof.Rows
noncomputable def SqL (K:PySem.W.Frag) (H:Hp) (a:Addr) (xs:List V):Prop:=
 Rd H a (.lst xs) ∨
  ∃ (o:Obj) (its:Array Value) (n:Nat),K.lookup a=some o∧o.cls=.type "list" ∧ o.dict=none∧o.data=.seq its n∧its.size ≤ sizeLine∧md xs its.toList
noncomputable def SqT (K:PySem.W.Frag) (H:Hp) (a:Addr) (xs:List V):Prop:=
 Rd H a (.tup xs) ∨
  ∃ (o:Obj) (its:Array Value) (n:Nat),K.lookup a=some o∧o.cls=.type "tuple" ∧ o.data=.seq its n∧its.size ≤ sizeLine∧md xs its.toList
noncomputable def gP:Value→Option V
 | .none=>some .non
 | .bool b=>some (.bl b)
 | .int i _=>some (.int i)
 | .str x _=>some (.str x)
 | .bytes b _=>some (.byt b)
 | .float b _=>some (.flt b)
 | .ref a=>some (.ref a)
 | .type n=>some (.ty n)
 | _=>none
theorem Bd.abs {x:V} {u:Value} (r:Bd x u):gP u=some x:=by
 cases x with
 | non=>cases r;rfl
 | bl _=>cases r;rfl
 | int _=>obtain ⟨t,rfl⟩:=r;rfl
 | str _=>obtain ⟨t,rfl⟩:=r;rfl
 | byt _=>obtain ⟨t,rfl⟩:=r;rfl
 | flt _=>obtain ⟨t,rfl⟩:=r;rfl
 | ref _=>cases r;rfl
 | ty _=>cases r;rfl
theorem Bd.inj {x y:V} {u:Value} (r:Bd x u) (q:Bd y u):x=y:=Option.some.inj (r.abs.symm.trans q.abs)
theorem md.inj:∀ {xs ys:List V} {us:List Value},md xs us→md ys us→xs=ys
 | _,_,_,.nil,.nil=>rfl
 | _,_,_,.cons r t,.cons r' t'=>by rw [r.inj r',md.inj t t']
section
variable {X:Cx} {pins:List (Addr × Obj)} {σ:St} {H:Hp} {s:Shared} {a:Addr} {xs ys:List V}
theorem SqL.of {K:PySem.W.Frag} (h:H a=some (.lst xs)):SqL K H a xs:=.inl (.inl h)
theorem SqT.of {K:PySem.W.Frag} (h:H a=some (.tup xs)):SqT K H a xs:=.inl (.inl h)
theorem Inv.list (I:Inv X pins σ H s) (h:SqL X.K H a xs):∃ its:List Value,md xs its∧PlainL s.heap a its.toArray∧xs.length ≤ sizeLine:=by
 rcases h with h | ⟨o,its,n,hk,hc,hd,hs,hz,r⟩
 ·obtain ⟨z,its,n,r,e⟩:=h.ok I.hok;exact ⟨its,r,⟨_,n,e,rfl,rfl,rfl⟩,z⟩
 ·refine ⟨its.toList,r,⟨o,n,I.kIn a o hk,hc,hd,by simpa using hs⟩,?_⟩;have e:=r.length;simp only [Array.length_toList] at e;omega
theorem Inv.tuple (I:Inv X pins σ H s) (h:SqT X.K H a xs):∃ its:List Value,md xs its∧IsTup s.heap a its.toArray∧xs.length ≤ sizeLine:=by
 rcases h with h | ⟨o,its,n,hk,hc,hs,hz,r⟩
 ·obtain ⟨z,its,r,p⟩:=h.ok I.hok;exact ⟨its,r,p,z.1⟩
 ·refine ⟨its.toList,r,⟨o,I.kIn a o hk,hc,n,by simpa using hs⟩,?_⟩;have e:=r.length;simp only [Array.length_toList] at e;omega
theorem Inv.list_inj (I:Inv X pins σ H s) (h:SqL X.K H a xs) (h':SqL X.K H a ys):xs=ys:=by
 obtain ⟨its,r,⟨o,n,e,_,_,d⟩,_⟩:=I.list h;obtain ⟨its',r',⟨o',n',e',_,_,d'⟩,_⟩:=I.list h';rw [e] at e';cases e';rw [d] at d';injection d' with d1 _;have:its=its':=by simpa using congrArg Array.toList d1
 subst this;exact r.inj r'
theorem Inv.tuple_inj (I:Inv X pins σ H s) (h:SqT X.K H a xs) (h':SqT X.K H a ys):xs=ys:=by
 obtain ⟨its,r,⟨o,e,_,n,d⟩,_⟩:=I.tuple h;obtain ⟨its',r',⟨o',e',_,n',d'⟩,_⟩:=I.tuple h';rw [e] at e';cases e';rw [d] at d';injection d' with d1 _;have:its=its':=by simpa using congrArg Array.toList d1
 subst this;exact r.inj r'
end
noncomputable abbrev Cx.wish (X:Cx) (E:Value→Shared→Prop):Cx:={ X with xe:=E }
noncomputable abbrev Cx.nox (X:Cx):Cx:=X.wish fun _ _=>False
theorem Cx.Ok.wish {X:Cx} (ok:X.Ok) (E:Value→Shared→Prop):(X.wish E).Ok:=
 ⟨ok.mod,ok.kind,ok.glob,ok.blt,ok.above,ok.inj,ok.has,ok.cab,ok.hd,ok.frames,ok.stk,ok.exf,ok.bs,ok.bsz,ok.noex,ok.exfs,ok.funs,ok.frf⟩
theorem Cx.Ok.unwish {X:Cx} {E:Value→Shared→Prop} (ok:(X.wish E).Ok):X.Ok:=
 ⟨ok.mod,ok.kind,ok.glob,ok.blt,ok.above,ok.inj,ok.has,ok.cab,ok.hd,ok.frames,ok.stk,ok.exf,ok.bs,ok.bsz,ok.noex,ok.exfs,ok.funs,ok.frf⟩
section
variable {X:Cx} {pins:List (Addr × Obj)} {σ:St} {H:Hp} {s:Shared} {E:Value→Shared→Prop}
theorem Inv.wish (I:Inv X pins σ H s) (E:Value→Shared→Prop):Inv (X.wish E) pins σ H s:=⟨I.ok.wish E,I.os,I.bare,I.base,I.loc,I.cell,I.free,I.freeC,I.pin,I.hok,I.len⟩
theorem Inv.unwish (I:Inv (X.wish E) pins σ H s):Inv X pins σ H s:=⟨I.ok.unwish,I.os,I.bare,I.base,I.loc,I.cell,I.free,I.freeC,I.pin,I.hok,I.len⟩
theorem SP.unwish {D:sj} {f:Flow} {s':Shared} (h:SP (X.wish E) pins D f s'):SP X pins D f s':=by
 cases f with
 | next=>obtain ⟨σ',H',I,q⟩:=h;exact ⟨σ',H',I.unwish,q⟩
 | brk=>obtain ⟨σ',H',I,q⟩:=h;exact ⟨σ',H',I.unwish,q⟩
 | cont=>obtain ⟨σ',H',I,q⟩:=h;exact ⟨σ',H',I.unwish,q⟩
 | ret u=>obtain ⟨v,σ',H',I,r,q⟩:=h;exact ⟨v,σ',H',I.unwish,r,q⟩
theorem PE.nox {e:Expr} {t:TE} (h:PE X.nox e t):PE X e t:=fun pins s σ H Q I hw=>
 wpAny_mono (h pins s σ H Q (I.wish _) hw) (fun _ _ ⟨v,H',I',r,q⟩=>⟨v,H',I'.unwish,r,q⟩) fun _ _ z=>False.elim z
theorem PT.nox {e:Expr} {t:TT} (h:PT X.nox e t):PT X e t:=fun pins s σ H Q I hw=>
 wpAny_mono (h pins s σ H Q (I.wish _) hw) (fun _ _ ⟨H',I',q⟩=>⟨H',I'.unwish,q⟩) fun _ _ z=>False.elim z
theorem PSs.nox {st:List Stmt} {t:TS} (h:PSs X.nox st t):PSs X st t:=fun pins s σ H D I hw=>
 wpAny_mono (h pins s σ H D (I.wish _) hw) (fun _ _ q=>q.unwish) fun _ _ z=>False.elim z
end
section
variable {X:Cx} {st:Stmt} {Fw:List Stmt} {t u:TS} {e:Expr} {te:TE} {pos:Pos}
noncomputable def mL:TS:=fun D σ H=>D.nx σ H
noncomputable def hz0:Nat:=0
noncomputable def hz1:Nat:=hz0
noncomputable def hz2:Nat:=hz1
noncomputable def hz3:Nat:=hz2
noncomputable def hz4:Nat:=hz3
noncomputable def hz5:Nat:=hz4
noncomputable def hz6:Nat:=hz5
noncomputable def hz7:Nat:=hz6
noncomputable def hz8:Nat:=hz7
noncomputable def hz9:Nat:=hz8
noncomputable def mP:Nat:=hz9
noncomputable def kP:Nat:=mP
noncomputable def nP:Nat:=kP
noncomputable def wO (t u:TS):TS:=fun D σ H=>(fun _:Nat=>t { D with nx:=u D } σ H) nP
theorem Sb:PSs X [] mL:=fun _ _ σ H _ I h=>wpAny_execs_nil ⟨σ,H,I,h⟩
theorem fb (h1:PS X st t) (h2:PSs X Fw u):PSs X (st :: Fw) (wO t u):=by
 intro pins s σ H D I h;refine wpAny_execs_cons (thn (h1 pins s σ H { D with nx:=u D } I h) fun f s1 q=>?_);cases f with
 | next=>
  obtain ⟨σ',H',I',q⟩:=q;exact h2 pins s1 σ' H' D I' q
 | ret v=>exact q
 | brk=>exact q
 | cont=>exact q
theorem lb (h1:PS X st t):PSs X [st] t:=by
 intro pins s σ H D I h;refine wpAny_execs_cons (thn (h1 pins s σ H D I h) fun f s1 q=>?_);cases f with
 | next=>exact wpAny_execs_nil q
 | ret v=>exact q
 | brk=>exact q
 | cont=>exact q
theorem Inv.quiet {pins:List (Addr × Obj)} {σ:St} {H:Hp} {s:Shared} (I:Inv X pins σ H s):interactive X.env=false:=by simp [interactive,I.ok.kind]
noncomputable def VM (te:TE):TS:=fun D σ H=>te σ H fun _ H1=>D.nx σ H1
theorem we (he:PE X e te) (hs:swapsWith e none pos.line X.env=pure false:=by rfl):PS X (.Expr e pos) (VM te):=by
 intro pins s σ H D I h;exact wpAny_Expr_any (thn (he pins s σ H _ I h) fun v s1 ⟨x,H1,I1,r1,q1⟩=>⟨σ,H1,I1,q1⟩) I.quiet hs
noncomputable def JN (te:TE):TS:=fun D σ H=>te σ H D.rt
theorem Gb (he:PE X e te):PS X (.Return (some e) pos) (JN te):=by
 intro pins s σ H D I h;exact wpAny_Return_some (thn (he pins s σ H _ I h) fun v s1 ⟨x,H1,I1,r1,q1⟩=>⟨x,σ,H1,I1,r1,q1⟩)
noncomputable def bO (c:TT) (t u:TS):TS:=fun D σ H=>c σ H fun b H1=>if b=true then t D σ H1 else u D σ H1
theorem jd {c:Expr} {a b:List Stmt} {tc:TT} (hc:PT X c tc) (ha:PSs X a t) (hb:PSs X b u):PS X (.If c a b pos) (bO tc t u):=by
 intro pins s σ H D I h;refine wpAny_If (thn (hc pins s σ H _ I h) fun d s1 hZ1=>?_);obtain ⟨H1,I1,q1⟩:=hZ1;cases d with
 | true=>exact ha pins s1 σ H1 D I1 q1
 | false=>exact hb pins s1 σ H1 D I1 q1
noncomputable def vI:TS:=fun _ _ _=>False
theorem Sk:PS X st vI:=fun _ _ _ _ _ _ h=>h.elim
end
noncomputable abbrev TG:=V→St→Hp→(St→Hp→Prop)→Prop
noncomputable abbrev TGs:=List V→St→Hp→(St→Hp→Prop)→Prop
noncomputable def PG (X:Cx) (target:Expr) (t:TG):Prop:=
 ∀ (pins:List (Addr × Obj)) (s:Shared) (σ:St) (H:Hp) (v:V) (u:Value) (Q:St→Hp→Prop),Inv X pins σ H s→Bd v u→t v σ H Q →
  wpAny (model X.prog X.w) X.A (assign target X.env u) (fun _ s'=>∃ σ' H',Inv X pins σ' H' s'∧Q σ' H') X.xe s
noncomputable def PGs (X:Cx) (ts:List Expr) (t:TGs):Prop:=
 ∀ (pins:List (Addr × Obj)) (s:Shared) (σ:St) (H:Hp) (vs:List V) (us:List Value) (Q:St→Hp→Prop),Inv X pins σ H s→md vs us→t vs σ H Q →
  wpAny (model X.prog X.w) X.A (assignInOrder ((assignEach ts X.env).map (·.2)) us) (fun _ s'=>∃ σ' H',Inv X pins σ' H' s'∧Q σ' H') X.xe s
noncomputable abbrev nN:=V→V→V→Hp→(Hp→Prop)→Prop
noncomputable def iO (X:Cx) (t:nN):Prop:=
 ∀ (pins:List (Addr × Obj)) (s:Shared) (σ:St) (H:Hp) (o i v:V) (ov iv u:Value) (Q:Hp→Prop),Inv X pins σ H s→Bd o ov→Bd i iv→Bd v u→t o i v H Q →
  wpAny (model X.prog X.w) X.A (setItem ov iv u) (fun _ s'=>∃ H',Inv X pins σ H' s'∧Q H') X.xe s
noncomputable abbrev TIp:=V→V→Hp→VK→Prop
noncomputable def PIp (X:Cx) (op:Operator) (t:TIp):Prop:=
 ∀ (pins:List (Addr × Obj)) (s:Shared) (σ:St) (H:Hp) (x y:V) (v u:Value) (Q:VK),Inv X pins σ H s→Bd x v→Bd y u→t x y H Q →
  wpAny (model X.prog X.w) X.A (inplaceOp op v u) (EP X pins σ Q) X.xe s
section
variable {X:Cx} {pos:Pos}
noncomputable def Xq (i:Nat):TG:=fun v σ H Q=>Q (σ.set i (some v)) H
theorem Gx {i:Nat} {x:Str} (hN:X.N.Nodup) (hi:X.N[i]? = some x) (hx:Loc X.env.scope x) (hf:X.fn x=true∨X.env.scope.names.lookup x=some .local:=by first | exact .inl rfl | exact .inr rfl | assumption):PG X (.Name x pos) (Xq i):=by
 intro pins s σ H v u Q I r h;exact wpAny_assign_Name (Am I hN hi hx r (fun s' I'=>⟨_,H,I',h⟩) hf)
noncomputable def kN:TGs:=fun vs σ H Q=>vs=[]∧Q σ H
noncomputable def GA (t:TG) (u:TGs):TGs:=fun vs σ H Q=>∃ v r,vs=v :: r∧t v σ H fun σ' H'=>u r σ' H' Q
theorem jf:PGs X [] kN:=by
 intro pins s σ H vs us Q I r h;obtain ⟨e,h⟩:=h;subst e;cases r;exact assignInOrder_nil ⟨σ,H,I,h⟩
theorem gc {e:Expr} {es:List Expr} {t:TG} {u:TGs} (h1:PG X e t) (h2:PGs X es u)
  (hs:(assignEach (e :: es) X.env).map (·.2)=assign e X.env :: (assignEach es X.env).map (·.2):=by rfl):PGs X (e :: es) (GA t u):=by
 intro pins s σ H vs us Q I r h;obtain ⟨v,vr,e1,h⟩:=h;subst e1;cases r with
 | cons r rr=>
  rw [hs];refine assignInOrder_cons (thn (h1 pins s σ H _ _ _ I r h) fun _ s1 hZ1=>?_);obtain ⟨σ1,H1,I1,q1⟩:=hZ1;exact h2 pins s1 σ1 H1 _ _ Q I1 rr q1
noncomputable def AM (K:PySem.W.Frag) (n:Nat) (t:TGs):TG:=fun v σ H Q=>∃ a xs,v=.ref a∧SqT K H a xs∧xs.length=n∧t xs σ H Q
theorem jM {es:List Expr} {k:Nat} {t:TGs} {n:Nat} (hc:X.calm=true) (h:PGs X es t)
  (hn:(assignEach es X.env).length=n:=by rfl) (hst:(assignEach es X.env).findIdx? (·.1)=none:=by rfl):PG X (.Tuple es k pos) (AM X.K n t):=by
 intro pins s σ H v u Q I r hw;obtain ⟨a,xs,e1,hq,hl,hw⟩:=hw;subst e1;cases r;obtain ⟨its,rv,ht,hz⟩:=I.tuple hq;refine assign_Tuple_tuple (I.ok.hd hc) ht (by simp [hn,← hl,rv.length]) hst fun h' hx=>?_
 have I1:Inv X pins σ H { s with heap:=h' }:=I.kept (t':=s.toks) fun b o e=>hx b o (Nat.ne_of_lt (Heap.lt_size e)) e
 exact h pins _ σ H xs _ Q I1 (by simpa using rv) hw
noncomputable def mO (to ti:TE) (t:nN):TG:=fun v σ H Q=>to σ H fun o H1=>ti σ H1 fun i H2=>t o i v H2 fun H3=>Q σ H3
theorem XH {o i:Expr} {to ti:TE} {t:nN} (ho:PE X o to) (hi:PE X i ti) (hs:iO X t)
  (ha:∀ v,assign (.Subscript o i pos) X.env v=(do
   let ov ← holding [v] (eval o X.env)
   let iv ← holding [v,ov] (eval i X.env)
   standAt pos
   holding [v,ov,iv] (setItem ov iv v)
   release [v,ov,iv] []):=by intro _;rfl):PG X (.Subscript o i pos) (mO to ti t):=by
 intro pins s σ H v u Q I r h;rw [ha];refine wpAny_bind (wpAny_holding (thn (ho pins s σ H _ I h) fun ov s1 hZ1=>?_));obtain ⟨x,H1,I1,r1,q1⟩:=hZ1;refine wpAny_bind (wpAny_holding (thn (hi pins s1 σ H1 _ I1 q1) fun iv s2 hZ1=>?_));obtain ⟨y,H2,I2,r2,q2⟩:=hZ1;refine wpAny_bind (wpAny_standAt (wpAny_bind (wpAny_holding (thn (hs pins s2 σ H2 x y v ov iv u _ I2 r1 r2 r q2) fun _ s3 hZ1=>?_))));obtain ⟨H3,I3,q3⟩:=hZ1;exact wpAny_release ⟨σ,H3,I3,q3⟩
noncomputable def WK (te:TE) (g:TG):TS:=fun D σ H=>te σ H fun x H1=>g x σ H1 D.nx
theorem Hr {tg e:Expr} {te:TE} {g:TG} (he:PE X e te) (hg:PG X tg g) (hs:swapsWithSole [tg] e pos.line X.env=pure false:=by rfl) (hw:swappedStores [tg] e X.env=pure none:=by rfl)
  (h1:(assignEach [tg] X.env).map (·.2)=[assign tg X.env]:=by rfl):PS X (.Assign [tg] e pos) (WK te g):=by
 intro pins s σ H D I h;refine wpAny_Assign_stores (thn (he pins s σ H _ I h) fun v s1 hZ1=>?_) hs hw;obtain ⟨x,H1,I1,r1,q1⟩:=hZ1;rw [h1];exact thn (hg pins s1 σ H1 x v _ I1 r1 q1) fun _ s2 q=>q
theorem Ox {i:Nat} {x:Str} {e:Expr} {te:TE} {pos':Pos} (hN:X.N.Nodup) (hi:X.N[i]? = some x) (hx:Loc X.env.scope x) (he:PE X e te) (hs:swapsWith e (some (.Name x pos')) pos.line X.env=pure false:=by rfl) (hf:X.fn x=true∨X.env.scope.names.lookup x=some .local:=by first | exact .inl rfl | exact .inr rfl | assumption) :
  PS X (.Assign [.Name x pos'] e pos) (WK te (Xq i)):=by
 intro pins s σ H D I h;refine wpAny_Assign_Name (thn (he pins s σ H _ I h) fun v s1 hZ1=>?_) hs;obtain ⟨y,H1,I1,r1,q1⟩:=hZ1;exact Am I1 hN hi hx r1 (fun s2 I2=>⟨_,H1,I2,q1⟩) hf
noncomputable def DO (i j:Nat) (ta:TA):TS:=fun D σ H=>ta σ H fun vs H1=>∃ v w,vs=[v,w]∧D.nx ((σ.set i (some v)).set j (some w)) H1
theorem vM {i j:Nat} {x y:Str} {a b:Expr} {ta:TA} {px py pt:Pos} {kt k2 pt2} (hc:X.calm=true) (hN:X.N.Nodup) (hi:X.N[i]? = some x) (hj:X.N[j]? = some y) (hij:i ≠ j)
  (hx:X.env.scope.names.lookup x=some .local) (hy:X.env.scope.names.lookup y=some .local) (ha:PA X [a,b] ta)
  (hw:swappedStores [.Tuple [.Name x px,.Name y py] kt pt] (.Tuple [a,b] k2 pt2) X.env=pure (some [x,y]))
  (hs:swapsWithSole [.Tuple [.Name x px,.Name y py] kt pt] (.Tuple [a,b] k2 pt2) pos.line X.env=pure false:=by rfl) :
  PS X (.Assign [.Tuple [.Name x px,.Name y py] kt pt] (.Tuple [a,b] k2 pt2) pos) (DO i j ta):=by
 intro pins s σ H D I h;rw [exec_Assign_arm];refine wpAny_bind (wpAny_standAt ?_);rw [hs];refine wpAny_bind (wpAny_pure ?_);rw [if_neg (by decide)];refine wpAny_bind (Tuple_ (thn (ha _ pins s σ H _ I h) fun us s1 hZ1=>?_));obtain ⟨vs,H1,I1,r1,q1⟩:=hZ1;obtain ⟨v,w,e1,q1⟩:=q1;subst e1;obtain ⟨u1,u2,rfl,rv,rw'⟩:∃ u1 u2,us=[u1,u2]∧Bd v u1∧Bd w u2:=by
  cases r1 with
  | cons p q=>
   cases q with
   | cons p' q'=>
    cases q';exact ⟨_,_,rfl,p,p'⟩
 refine wpAny_newObj_type ?_ (by show 2 ≤ sizeLine;decide);have I2:Inv X pins σ H1 { s1 with heap:=s1.heap.push { cls:=.type "tuple",data:=.seq [u1,u2].toArray } }:=I1.kept (t':=s1.toks) fun b o e=>Heap.get?_push_of_some _ e
 rw [hw];refine wpAny_bind (wpAny_pure ?_);show wpAny (model X.prog X.w) X.A (do rule "assign.swapped-stores"; let items ← unpackItems (.ref s1.heap.objs.size) 2 none;assignInOrder [fun v=>bindName X.env y v,fun v=>bindName X.env x v] items.reverse;pure Flow.next) _ _ _;refine wpAny_bind (wpAny_rule (wpAny_bind (unpackItems_tuple (items:=#[u1,u2]) (I.ok.hd hc) (IsTup.new s1.heap _) fun h' hx'=>?_)));have I3:=I2.kept (h':=h') (t':=s1.toks) fun b o e=>hx' b o (Nat.ne_of_lt (Heap.lt_size e)) e
 show wpAny _ _ (assignInOrder [fun v=>bindName X.env y v,fun v=>bindName X.env x v] [u2,u1] >>= fun _=>pure Flow.next) _ _ _;refine wpAny_bind (assignInOrder_cons (wpAny_bindName (Am I3 hN hj (.inl hy) rw' (fun s2 I4=>?_) (.inr hy))));refine assignInOrder_cons (wpAny_bindName (Am I4 hN hi (.inl hx) rv (fun s3 I5=>assignInOrder_nil (wpAny_pure ?_)) (.inr hx)));rw [List.set_comm _ _ (Ne.symm hij)] at I5;exact ⟨_,H1,I5,q1⟩
noncomputable def MO (i:Nat) (te:TE) (ti:TIp):TS:=fun D σ H=>∃ x,σ[i]? = some (some x)∧te σ H fun y H1=>ti x y H1 fun z H2=>D.nx (σ.set i (some z)) H2
theorem RH {i:Nat} {x:Str} {e:Expr} {te:TE} {op:Operator} {ti:TIp} {pos':Pos} (hN:X.N.Nodup) (hi:X.N[i]? = some x) (hx:Loc X.env.scope x) (he:PE X e te) (ho:PIp X op ti) (hf:X.fn x=true∨X.env.scope.names.lookup x=some .local:=by first | exact .inl rfl | exact .inr rfl | assumption) :
  PS X (.AugAssign (.Name x pos') op e pos) (MO i te ti):=by
 intro pins s σ H D I h;obtain ⟨v,e1,h⟩:=h;obtain ⟨m,hn,hl⟩:=I.loc;have vis:Vis X.env.scope x:=by rcases hx with k | k;exact .inl k;exact .inr (.inl k)
 obtain ⟨u,r,l⟩:=hl i x v hi e1 vis;refine wpAny_AugAssign_Name ?_;have go:wpAny (model X.prog X.w) X.A (eval e X.env) (fun w s₂=>wpAny (model X.prog X.w) X.A (inplaceOp op u w) (fun r s₃=>wpAny (model X.prog X.w) X.A (storeName X.env x r) (fun _=>SP X pins D .next) X.xe s₃) X.xe s₂) X.xe s:=by
  refine thn (he pins s σ H _ I h) fun w s1 hZ1=>?_
  obtain ⟨y,H1,I1,r1,q1⟩:=hZ1;refine thn (ho pins s1 σ H1 v y u w _ I1 r r1 q1) fun z s2 hZ1=>?_
  obtain ⟨zv,H2,I2,r2,q2⟩:=hZ1;exact Am I2 hN hi hx r2 (fun s3 I3=>⟨_,H2,I3,q2⟩) hf
 rcases l with ⟨hk,hm⟩ | ⟨hk,c,hc,hcell⟩
 ·exact wpAny_loadName_local I.ok.kind hk hn hm go
 ·rcases hk with hk | hk
  ·exact wpAny_loadName_cell I.ok.kind hk hc hcell go
  ·rcases hx with k | k
   ·have:X.env.scope.names.lookup x=some .free:=hk;rw [k] at this;cases this
   ·have:X.env.scope.names.lookup x=some .free:=hk;rw [k] at this;cases this
noncomputable def ipI (f:Int→Int→Int):TIp:=fun x y H Q=>∃ i j,x=.int i∧y=.int j∧Q (.int (f i j)) H
theorem dI:PIp X .Add (ipI fun i j=>i + j):=by
 intro pins s σ H x y v u Q I r1 r2 h;obtain ⟨i,j,e1,e2,q⟩:=h;subst e1;subst e2;obtain ⟨t,rfl⟩:=r1;obtain ⟨t',rfl⟩:=r2;exact iadd_int ⟨.int _,H,I.tok _,⟨_,rfl⟩,q⟩
end
section
variable {X:Cx} {pos:Pos}
noncomputable def RL (c:TT) (tb:TS):TS:=fun D σ H=>∃ W:Nat→St→Hp→Prop,(∃ m,W m σ H)∧∀ m σ H,W m σ H →
 c σ H fun b H1=>if b=true then ∃ N:St→Hp→Prop,(∀ σ' H',N σ' H'→∃ m',m' < m∧W m' σ' H')∧tb { D with nx:=N,ct:=N,bk:=D.nx } σ H1 else D.nx σ H1
theorem Dy {c:Expr} {body:List Stmt} {tc:TT} {tb:TS} (hp:PassesOwn (model X.prog X.w) X.A X.env X.xe) (hc:PT X c tc) (hb:PSs X body tb):PS X (.While c body [] pos) (RL tc tb):=by
 intro pins s σ H D I h;obtain ⟨W,⟨m0,w0⟩,turn⟩:=h;refine wpAny_While (codeAny_whileLoop (fun n s'=>∃ σ' H',Inv X pins σ' H' s'∧W n σ' H') ?_ m0 ⟨σ,H,I,w0⟩);rintro n s1 ⟨σ1,H1,I1,w1⟩;refine wpAny_passesOwn hp (thn (hc pins s1 σ1 H1 _ I1 (turn n σ1 H1 w1)) fun b s2 hZ1=>?_);obtain ⟨H2,I2,q2⟩:=hZ1;cases b with
 | true=>
  obtain ⟨N,hN,q2⟩:=q2;rw [if_pos rfl];refine wpAny_passesOwn hp (thn (hb pins s2 σ1 H2 _ I2 q2) fun f s3 q3=>?_);cases f with
  | next=>
   obtain ⟨σ3,H3,I3,n3⟩:=q3;obtain ⟨m',hm,w3⟩:=hN σ3 H3 n3;exact ⟨m',hm,σ3,H3,I3,w3⟩
  | cont=>
   obtain ⟨σ3,H3,I3,n3⟩:=q3;obtain ⟨m',hm,w3⟩:=hN σ3 H3 n3;exact ⟨m',hm,σ3,H3,I3,w3⟩
  | brk=>exact q3
  | ret v=>exact q3
 | false=>
  rw [if_neg Bool.false_ne_true];exact wpAny_execs_nil ⟨σ1,H2,I2,q2⟩
end
structure It where
 go:Nat→Hp→Prop
 yld:Nat→Hp→V→Hp→Prop
 stop:Nat→Hp→Prop
noncomputable def su (X:Cx) (pins:List (Addr × Obj)) (H:Hp) (b:Addr):Prop:=
 H b=none∧b ≠ X.env.locals∧b ∉ X.fs∧(b ∈ X.ex∨X.s₀.heap.objs.size ≤ b)∧(∀ x c,X.env.cells.lookup x=some c→c ≠ b)∧∀ p ∈ X.pn ++ pins,p.1 ≠ b
theorem Inv.fpOk {X:Cx} {pins:List (Addr × Obj)} {σ:St} {H H':Hp} {s:Shared} {b:Addr} (I:Inv X pins σ H s) (hb:s.heap.objs.size ≤ b) (hn:H' b=none):su X pins H' b:=by
 refine ⟨hn,Nat.ne_of_gt (Nat.lt_of_lt_of_le I.lt hb),I.nofs hb,.inr (Nat.le_trans I.sz hb),fun x c e z=>?_,fun p hp z=>?_⟩
 ·obtain ⟨v,q⟩:=I.cell x c e;exact absurd (Nat.lt_of_lt_of_le q.lt (by rw [z];exact hb)) (Nat.lt_irrefl _)
 ·exact absurd (Nat.lt_of_lt_of_le (Heap.lt_size (I.pin p hp).1) (by rw [z];exact hb)) (Nat.lt_irrefl _)
structure MF (P:Program) (w:World) (K:PySem.W.Frag) (tg:Expr) (J:It) (fp:List Addr) (it:Addr) (tn:Nat→Heap→Prop):Prop where
 mem:it ∈ fp
 obj:∀ i h,tn i h→∀ b ∈ fp,∃ o,h.get? b=some o∧∀ v,o.data ≠ .cell v
 keep:∀ i h h',tn i h→(∀ b ∈ fp,∀ o,h.get? b=some o→h'.get? b=some o)→tn i h'
 item:∀ (X:Cx),X.prog=P→X.w=w→X.K=K→X.calm=true→∀ (i:Nat) (pins:List (Addr × Obj)) (s:Shared) (σ:St) (H:Hp) (E:Value→Shared→Prop),Inv X pins σ H s→(∀ b ∈ fp,su X pins H b)→tn i s.heap→J.go i H →
  wpAny (model P w) X.A (pyNext (.ref it)) (fun r s1=>∃ u,r=some u ∧
   wpAny (model P w) X.A (letOwnedTupleGo tg (.ref it) u) (fun _ s2=>∃ x H',Inv X pins σ H' s2∧Bd x u∧J.yld i H x H'∧tn (i + 1) s2.heap∧∀ b ∈ fp,H' b=none) E s1) E s
 done:∀ (X:Cx),X.prog=P→X.w=w→X.K=K→X.calm=true→∀ (i:Nat) (pins:List (Addr × Obj)) (s:Shared) (σ:St) (H:Hp) (E:Value→Shared→Prop),Inv X pins σ H s→(∀ b ∈ fp,su X pins H b)→tn i s.heap→J.stop i H →
  wpAny (model P w) X.A (pyNext (.ref it)) (fun r s1=>r=none∧Inv X pins σ H s1) E s
 self:∀ (A:Around) (i:Nat) (s:Shared) (Q:Value→Shared→Prop) (E:Value→Shared→Prop),tn i s.heap→Q (.ref it) s→wpAny (model P w) A (pyIter (.ref it)) Q E s
noncomputable abbrev TI:=St→Hp→(It→Hp→Prop)→Prop
noncomputable def PIE (X:Cx) (pins:List (Addr × Obj)) (σ:St) (tg:Expr) (R:It→Hp→Prop) (itv:Value) (s2:Shared):Prop:=
 ∃ (it:Addr) (fp:List Addr) (tn:Nat→Heap→Prop) (J:It) (H':Hp),itv=.ref it∧Inv X pins σ H' s2∧MF X.prog X.w X.K tg J fp it tn∧tn 0 s2.heap∧(∀ b ∈ fp,su X pins H' b)∧R J H'
noncomputable def PI (X:Cx) (tg iter:Expr) (wi:TI):Prop:=
 ∀ (pins:List (Addr × Obj)) (s:Shared) (σ:St) (H:Hp) (R:It→Hp→Prop),Inv X pins σ H s→wi σ H R →
  wpAny (model X.prog X.w) X.A (eval iter X.env) (fun v s1=>wpAny (model X.prog X.w) X.A (pyIter v) (PIE X pins σ tg R) X.xe s1) X.xe s
theorem jD {M:Model} {A:Around} {E:Value→Shared→Prop} {s:Shared} {tg:Expr} {it:Addr} {u:Value} {o:Obj} {n:String} {vs:Array Value} {Q:Unit→Shared→Prop} (ho:s.heap.get? it=some o) (hc:o.cls=.type n) (hd:o.data=.fields vs)
    (hn:["enumerate","zip","dict_itemiterator","dict_reverseitemiterator","odict_iterator","itertools.zip_longest","itertools.pairwise"].contains n=false) (hQ:Q () s):wpAny M A (letOwnedTupleGo tg (.ref it) u) Q E s:=by
  unfold letOwnedTupleGo;cases tg <;> first
    | exact wpAny_pure hQ
    | (cases u <;> first
        | exact wpAny_pure hQ
        | (refine wpAny_bind (wpAny_load ho ?_)
           rw [hc,hd];show wpAny M A (if (["enumerate","zip","dict_itemiterator","dict_reverseitemiterator","odict_iterator","itertools.zip_longest","itertools.pairwise"].contains n && vs[0]? == some (rawInt _))=true then _ else _) Q E s;rw [if_neg (by intro h;rw [hn,Bool.false_and] at h;cases h)];exact wpAny_pure hQ))
noncomputable def Itl (K:PySem.W.Frag) (a:Addr):It:=
 ⟨fun i H=>∃ xs x,SqL K H a xs∧xs[i]? = some x,fun i H x H'=>H'=H∧∀ xs,SqL K H a xs→xs[i]? = some x,fun i H=>∃ xs,SqL K H a xs∧xs.length ≤ i⟩
noncomputable def Itt (K:PySem.W.Frag) (a:Addr):It:=
 ⟨fun i H=>∃ xs x,SqT K H a xs∧xs[i]? = some x,fun i H x H'=>H'=H∧∀ xs,SqT K H a xs→xs[i]? = some x,fun i H=>∃ xs,SqT K H a xs∧xs.length ≤ i⟩
noncomputable def Itr (lo:Int) (n:Nat):It:=⟨fun i _=>i < n,fun i H x H'=>H'=H∧x=.int (lo + i),fun i _=>n ≤ i⟩
theorem mD {P:Program} {w:World} {K:PySem.W.Frag} {tg:Expr} (a it:Addr):MF P w K tg (Itl K a) [it] it (fun i h=>h.IsListIter it a i) where
 mem:=by simp
 obj:=fun i h st b hb=>by
  have e:b=it:=by simpa using hb
  subst e;obtain ⟨o,e,c,d⟩:=st;exact ⟨o,e,fun v z=>by rw [d] at z;cases z⟩
 keep:=fun i h h' st k=>st.at fun o e=>k it (by simp) o e
 item:=by
  intro X hP hw hK hc i pins s σ H E I hf st hg;subst hP hw hK;obtain ⟨xs,x,hq,hx⟩:=hg;obtain ⟨its,rv,p,hz⟩:=I.list hq;obtain ⟨u,hu,ru⟩:=rv.get hx;obtain ⟨f0,f1,f2,f3,f4,f5⟩:=hf it (by simp);refine wpAny_pyNext_list_item st p.isList (x:=u) (by simpa using hu) fun h' st' sb=>?_
  have I1:Inv X pins σ H { s with heap:=h' }:=I.turned (t':=s.toks) (fun b o hb e=>(sb.2 b hb).trans e) f0 f1 f3 f4 f5;obtain ⟨o,e,c,d⟩:=id st';exact ⟨u,rfl,jD (s:={ s with heap:=h' }) e c d (by decide) ⟨x,H,I1,ru,⟨rfl,fun ys hy=>by rw [I.list_inj hy hq];exact hx⟩,st',fun b hb=>(hf b hb).1⟩⟩
 done:=by
  intro X hP hw hK hc i pins s σ H E I hf st hg;subst hP hw hK;obtain ⟨xs,hq,hx⟩:=hg;obtain ⟨its,rv,p,hz⟩:=I.list hq;obtain ⟨f0,f1,f2,f3,f4,f5⟩:=hf it (by simp);have hl:=rv.length;exact wpAny_pyNext_list_end (I.ok.hd hc) st p.isList (by simp;omega) fun h' eb=>⟨rfl,I.turned (t':=s.toks) (fun b o hb e=>eb b o hb e) f0 f1 f3 f4 f5⟩
 self:=fun _ _ _ _ _ st h=>wpAny_pyIter_listiter st h
theorem wB {P:Program} {w:World} {K:PySem.W.Frag} {tg:Expr} (a it:Addr):MF P w K tg (Itt K a) [it] it (fun i h=>h.IsTupleIter it a i) where
 mem:=by simp
 obj:=fun i h st b hb=>by
  have e:b=it:=by simpa using hb
  subst e;obtain ⟨o,e,c,d⟩:=st;exact ⟨o,e,fun v z=>by rw [d] at z;cases z⟩
 keep:=fun i h h' st k=>st.at fun o e=>k it (by simp) o e
 item:=by
  intro X hP hw hK hc i pins s σ H E I hf st hg;subst hP hw hK;obtain ⟨xs,x,hq,hx⟩:=hg;obtain ⟨its,rv,p,hz⟩:=I.tuple hq;obtain ⟨u,hu,ru⟩:=rv.get hx;obtain ⟨f0,f1,f2,f3,f4,f5⟩:=hf it (by simp);refine wpAny_pyNext_tuple_item st (show s.heap.IsTuple a its.toArray from p) (x:=u) (by simpa using hu) fun h' st' sb=>?_
  have I1:Inv X pins σ H { s with heap:=h' }:=I.turned (t':=s.toks) (fun b o hb e=>(sb.2 b hb).trans e) f0 f1 f3 f4 f5;obtain ⟨o,e,c,d⟩:=id st';exact ⟨u,rfl,jD (s:={ s with heap:=h' }) e c d (by decide) ⟨x,H,I1,ru,⟨rfl,fun ys hy=>by rw [I.tuple_inj hy hq];exact hx⟩,st',fun b hb=>(hf b hb).1⟩⟩
 done:=by
  intro X hP hw hK hc i pins s σ H E I hf st hg;subst hP hw hK;obtain ⟨xs,hq,hx⟩:=hg;obtain ⟨its,rv,p,hz⟩:=I.tuple hq;obtain ⟨f0,f1,f2,f3,f4,f5⟩:=hf it (by simp);have hl:=rv.length;exact wpAny_pyNext_tuple_end (I.ok.hd hc) st (show s.heap.IsTuple a its.toArray from p) (by simp;omega) fun h' eb=>⟨rfl,I.turned (t':=s.toks) (fun b o hb e=>eb b o hb e) f0 f1 f3 f4 f5⟩
 self:=fun _ _ _ _ _ st h=>wpAny_pyIter_tupleiter st h
theorem EA {P:Program} {w:World} {K:PySem.W.Frag} {tg:Expr} (it:Addr) (lo:Int) (n:Nat):MF P w K tg (Itr lo n) [it] it (fun i h=>IsRangeIter h it (lo + (i:Nat) * 1) ((n:Int) - (i:Nat)) 1) where
 mem:=by simp
 obj:=fun i h st b hb=>by
  have e:b=it:=by simpa using hb
  subst e;exact ⟨_,st,fun v z=>by
   have z':Data.fields _=Data.cell v:=z;cases z'⟩
 keep:=fun i h h' st k=>k it (by simp) _ st
 item:=by
  intro X hP hw hK hc i pins s σ H E I hf st hg;subst hP hw hK;obtain ⟨f0,f1,f2,f3,f4,f5⟩:=hf it (by simp);have W:=Walks.range (prog:=X.prog) (w:=X.w) (I.ok.hd hc) it lo 1 n;refine W.item i s _ _ hg st fun v h' tk hv st' kk=>?_
  obtain ⟨t,rfl⟩:=hv;have I1:Inv X pins σ H { s with heap:=h',toks:=tk }:=I.turned (fun b o hb e=>kk b o (by simpa using hb) e) f0 f1 f3 f4 f5;refine ⟨_,rfl,jD (s:={ s with heap:=h',toks:=tk }) (n := "range_iterator") st' rfl rfl (by decide) ⟨.int (lo + i),H,I1,⟨t,?_⟩,⟨rfl,rfl⟩,st',fun b hb=>(hf b hb).1⟩⟩;rw [Int.mul_one]
 done:=by
  intro X hP hw hK hc i pins s σ H E I hf st hg;subst hP hw hK;obtain ⟨f0,f1,f2,f3,f4,f5⟩:=hf it (by simp);exact wpAny_pyNext_range_end (I.ok.hd hc) st (by have:n ≤ i:=hg;omega) fun h' eb=>⟨rfl,I.turned (t':=s.toks) (fun b o hb e=>eb b o hb e) f0 f1 f3 f4 f5⟩
 self:=fun _ _ _ _ _ st h=>wpAny_pyIter_rangeiter st h
end L2
namespace L2
open PySem PySem.Spec PyProof.Rows
section
variable {X:Cx} {tg:Expr}
noncomputable def bN (K:PySem.W.Frag) (tl:TE):TI:=fun σ H R=>tl σ H fun x H1=>mh x fun a=>(∃ xs,SqL K H1 a xs)∧R (Itl K a) H1
noncomputable def CO (K:PySem.W.Frag) (tl:TE):TI:=fun σ H R=>tl σ H fun x H1=>mh x fun a=>(∃ xs,SqT K H1 a xs)∧R (Itt K a) H1
theorem Of {l:Expr} {tl:TE} (hl:PE X l tl):PI X tg l (bN X.K tl):=by
 intro pins s σ H R I h;refine thn (hl pins s σ H _ I h) fun v s1 hZ1=>?_
 obtain ⟨x,H1,I1,r1,q1⟩:=hZ1;obtain ⟨a,e,⟨xs,hq⟩,q⟩:=mh.out q1;subst e;cases r1;obtain ⟨its,rv,p,hz⟩:=I1.list hq;refine wpAny_pyIter_list p.isList ?_;refine ⟨s1.heap.objs.size,[s1.heap.objs.size],_,_,H1,rfl,I1.kept (t':=s1.toks) fun b o e=>Heap.get?_push_of_some _ e,mD a _,⟨_,Heap.get?_push_size _ rfl,rfl,rfl⟩,fun b hb=>?_,q⟩;have e:b=s1.heap.objs.size:=by simpa using hb
 subst e;exact I1.fpOk (Nat.le_refl _) (I1.hok.fresh (Nat.le_refl _))
theorem FL {l:Expr} {tl:TE} (hl:PE X l tl):PI X tg l (CO X.K tl):=by
 intro pins s σ H R I h;refine thn (hl pins s σ H _ I h) fun v s1 hZ1=>?_
 obtain ⟨x,H1,I1,r1,q1⟩:=hZ1;obtain ⟨a,e,⟨xs,hq⟩,q⟩:=mh.out q1;subst e;cases r1;obtain ⟨its,rv,p,hz⟩:=I1.tuple hq;refine wpAny_pyIter_tuple (show s1.heap.IsTuple a its.toArray from p) ?_;refine ⟨s1.heap.objs.size,[s1.heap.objs.size],_,_,H1,rfl,I1.kept (t':=s1.toks) fun b o e=>Heap.get?_push_of_some _ e,wB a _,⟨_,Heap.get?_push_size _ rfl,rfl,rfl⟩,fun b hb=>?_,q⟩;have e:b=s1.heap.objs.size:=by simpa using hb
 subst e;exact I1.fpOk (Nat.le_refl _) (I1.hok.fresh (Nat.le_refl _))
theorem Ay {pins:List (Addr × Obj)} {σ:St} {H:Hp} {s:Shared} {R:It→Hp→Prop} {E:Value→Shared→Prop} {lo hi:Int} {t u v:Tok} {tk:Nat} (I:Inv X pins σ H s) (h1:-(2 ^ 62) ≤ lo) (h2:lo < 2 ^ 62) (h3:-(2 ^ 62) ≤ hi) (h4:hi < 2 ^ 62)
  (q:R (Itr lo (hi - lo).toNat) H):wpAny (model X.prog X.w) X.A (pyIter (.ref s.heap.objs.size)) (PIE X pins σ tg R) E { s with heap:=s.heap.push { cls:=.type "range",data:=.fields #[.int lo t,.int hi u,.int 1 v] },toks:=tk }:=by
 refine wpAny_pyIter_range (IsRange.new ..) (small_one h1 h2 h3 h4) ?_;have I1:Inv X pins σ H { s with heap:=s.heap.push { cls:=.type "range",data:=.fields #[.int lo t,.int hi u,.int 1 v] },toks:=tk }:=I.kept fun b o e=>Heap.get?_push_of_some _ e
 refine ⟨(s.heap.push { cls:=.type "range",data:=.fields #[.int lo t,.int hi u,.int 1 v] }).objs.size,[(s.heap.push { cls:=.type "range",data:=.fields #[.int lo t,.int hi u,.int 1 v] }).objs.size],_,_,H,rfl,
  I1.kept (t':=tk) fun b o e=>Heap.get?_push_of_some _ e,EA _ lo (hi - lo).toNat,?_,fun b hb=>?_,q⟩
 ·have e1:lo + ((0:Nat):Int) * 1=lo:=by simp
  have e2:(((hi - lo).toNat:Nat):Int) - ((0:Nat):Int)=Builtin.Range.rangeSize lo hi 1:=by rw [rangeSize_one];split <;> omega
  show IsRangeIter _ _ (lo + ((0:Nat):Int) * 1) ((((hi - lo).toNat:Nat):Int) - ((0:Nat):Int)) 1;rw [e1,e2];exact Heap.get?_push_size _ rfl
 ·have e:b=(s.heap.push { cls:=.type "range",data:=.fields #[.int lo t,.int hi u,.int 1 v] }).objs.size:=by simpa using hb
  subst e;exact I1.fpOk (Nat.le_refl _) (I1.hok.fresh (Nat.le_refl _))
noncomputable def DM (ta:TA):TI:=fun σ H R=>ta σ H fun vs H1=>oA vs fun x=>Fj x fun j=>-(2 ^ 62) ≤ j∧j < 2 ^ 62∧R (Itr 0 j.toNat) H1
noncomputable def bM (ta:TA):TI:=fun σ H R=>ta σ H fun vs H1=>∃ i j:Int,vs=[.int i,.int j]∧(-(2 ^ 62) ≤ i∧i < 2 ^ 62∧-(2 ^ 62) ≤ j∧j < 2 ^ 62)∧R (Itr i (j - i).toNat) H1
theorem Ce {a:Expr} {ta:TA} {p pos:Pos} (hg:Gl X "range") (hm:X.mg "range"=none) (ha:PA X [a] ta) (hs:starEach [a] X.env=[(false,eval a X.env)]:=by rfl):PI X tg (.Call (.Name "range" p) [a] [] pos) (DM ta):=by
 intro pins s σ H R I h;refine Call_ (io I hg hm boot_range (PyProof.Rows.callWith_type1 (thn (ha pos pins s σ H _ I h) fun us s1 hZ1=>?_) hs rfl));obtain ⟨vs,H1,I1,r1,q1⟩:=hZ1;obtain ⟨zx,ze,zq⟩:=oA.out q1;obtain ⟨j,zf,zp,q2,q⟩:=Fj.out zq;have e:=ze.trans (congrArg (fun z=>[z]) zf);subst e;cases r1 with
 | cons r rr=>
  cases rr;obtain ⟨t,rfl⟩:=r;exact call_range_1 (Ay I1 (by omega) (by omega) zp q2 (by simpa using q))
theorem Ju {a b:Expr} {ta:TA} {p pos:Pos} (hg:Gl X "range") (hm:X.mg "range"=none) (ha:PA X [a,b] ta) (hs:starEach [a,b] X.env=[(false,eval a X.env),(false,eval b X.env)]:=by rfl) (hs2:starEach [b] X.env=[(false,eval b X.env)]:=by rfl) :
  PI X tg (.Call (.Name "range" p) [a,b] [] pos) (bM ta):=by
 intro pins s σ H R I h;refine Call_ (io I hg hm boot_range (PyProof.Rows.callWith_type1 (thn (ha pos pins s σ H _ I h) fun us s1 hZ1=>?_) (by rw [hs,hs2]) (by rw [hs2];rfl)));obtain ⟨vs,H1,I1,r1,q1⟩:=hZ1;obtain ⟨i,j,e,⟨q1,q2,q3,q4⟩,q⟩:=q1;subst e;cases r1 with
 | cons r rr=>
  cases rr with
  | cons r' rr=>
   cases rr;obtain ⟨t,rfl⟩:=r;obtain ⟨t',rfl⟩:=r';exact call_range_2 (Ay I1 q1 q2 q3 q4 q)
noncomputable def eO (wi:TI) (g:TG) (tb:TS):TS:=fun D σ H=>wi σ H fun J H1=>∃ W:Nat→Nat→St→Hp→Prop,(∃ m,W 0 m σ H1)∧∀ i m σ H,W i m σ H →
 (J.stop i H∧D.nx σ H)∨(J.go i H∧∃ N:St→Hp→Prop,(∀ σ' H',N σ' H'→∃ m',m' < m∧W (i + 1) m' σ' H')∧∀ x H',J.yld i H x H'→g x σ H' fun σ2 H2=>tb { D with nx:=N,ct:=N,bk:=D.nx } σ2 H2)
noncomputable def iw (fp:List Addr) (h:Heap):List (Addr × Obj):=fp.filterMap fun b=>(h.get? b).map fun o=>(b,o)
theorem Gk {fp:List Addr} {h:Heap} {b:Addr} {o:Obj} (hb:b ∈ fp) (e:h.get? b=some o):(b,o) ∈ iw fp h:=List.mem_filterMap.mpr ⟨b,hb,by rw [e];rfl⟩
theorem yD {fp:List Addr} {h:Heap} {p:Addr × Obj} (hp:p ∈ iw fp h):p.1 ∈ fp∧h.get? p.1=some p.2:=by
 obtain ⟨b,hb,e⟩:=List.mem_filterMap.mp hp;cases q:h.get? b with
 | none=>rw [q] at e;cases e
 | some o=>
  rw [q] at e;have e':(b,o)=p:=Option.some.inj e;subst e';exact ⟨hb,q⟩
theorem Inv.pinned {pins:List (Addr × Obj)} {σ:St} {H:Hp} {s:Shared} {fp:List Addr} (I:Inv X pins σ H s) (hf:∀ b ∈ fp,su X pins H b) (ho:∀ b ∈ fp,∃ o,s.heap.get? b=some o∧∀ v,o.data ≠ .cell v):Inv X (pins ++ iw fp s.heap) σ H s:=
 I.pins_of fun p hp=>(List.mem_append.mp hp).elim (fun z=>I.pin p (List.mem_append_right _ z)) fun z=>by
  obtain ⟨hb,e⟩:=yD z;obtain ⟨f0,f1,f2,_⟩:=hf p.1 hb;obtain ⟨o,e',d⟩:=ho p.1 hb;rw [e] at e';cases e';exact ⟨e,f0,f1,f2,d⟩
theorem Inv.unpinned {pins pl:List (Addr × Obj)} {σ:St} {H:Hp} {s:Shared} (I:Inv X (pins ++ pl) σ H s):Inv X pins σ H s:=I.pins_of fun p hp=>I.pin p (List.mem_append_right _ (List.mem_append_left _ hp))
theorem rf {iter:Expr} {body:List Stmt} {wi:TI} {g:TG} {tb:TS} {pos:Pos} (hp:PassesOwn (model X.prog X.w) X.A X.env X.xe) (hc:X.calm=true) (hi:PI X tg iter wi) (hg:PG X tg g) (hb:PSs X body tb)
  (hs:∀ x,foldedSetIterable iter X.env x=pure x:=by intro _;rfl):PS X (.For tg iter body [] pos) (eO wi g tb):=by
 intro pins s σ H D I h;refine wpAny_For (thn (hi pins s σ H _ I h) fun v s1 h1=>thn h1 fun itv s2 h2=>?_) hs;obtain ⟨it,fp,tn,J,H2,e,I2,T,st2,f2,W,⟨m0,w0⟩,turn⟩:=h2;subst e;have stat:∀ {H':Hp},(∀ b ∈ fp,H' b=none)→∀ b ∈ fp,su X pins H' b:=fun hn b hb=>⟨hn b hb,(f2 b hb).2⟩
 refine codeAny_forLoop_any (fun n s'=>∃ i σ' H',Inv X pins σ' H' s'∧tn i s'.heap∧(∀ b ∈ fp,H' b=none)∧W i n σ' H') ?_ m0 ⟨0,σ,H2,I2,st2,fun b hb=>(f2 b hb).1,w0⟩;rintro n s3 ⟨i,σ3,H3,I3,st3,fr3,w3⟩;rcases turn i n σ3 H3 w3 with ⟨stop,qn⟩ | ⟨go,N,hN,step⟩
 ·refine wpAny_passesOwn hp (thn (T.done X rfl rfl rfl hc i pins s3 σ3 H3 X.xe I3 (stat fr3) st3 stop) fun r s4 hZ1=>?_);obtain ⟨hr,I4⟩:=hZ1;subst hr;exact wpAny_execs_nil ⟨σ3,H3,I4,qn⟩
 ·refine wpAny_passesOwn hp (thn (T.item X rfl rfl rfl hc i pins s3 σ3 H3 X.xe I3 (stat fr3) st3 go) fun r s4 hZ1=>?_);obtain ⟨u,hr,h4⟩:=hZ1;subst hr;refine wpAny_passesOwn hp (thn h4 fun _ s5 hZ1=>?_);obtain ⟨x,H5,I5,r5,y5,st5,fr5⟩:=hZ1;have I5':=I5.pinned (stat fr5) (T.obj _ _ st5);refine wpAny_passesOwn hp (thn (hg _ s5 σ3 H5 x u _ I5' r5 (step x H5 y5)) fun _ s6 hZ1=>?_);obtain ⟨σ6,H6,I6,q6⟩:=hZ1;refine wpAny_passesOwn hp (thn (hb _ s6 σ6 H6 _ I6 q6) fun f s7 q7=>?_);have again:∀ {σ7:St} {H7:Hp},Inv X (pins ++ iw fp s5.heap) σ7 H7 s7→N σ7 H7→∃ m,m < n∧∃ i σ' H',Inv X pins σ' H' s7∧tn i s7.heap∧(∀ b ∈ fp,H' b=none)∧W i m σ' H':=fun {σ7 H7} I7 n7=>by
   obtain ⟨m',hm,w7⟩:=hN σ7 H7 n7;refine ⟨m',hm,i + 1,σ7,H7,I7.unpinned,T.keep _ _ _ st5 fun b hb o e=>(I7.pin (b,o) (List.mem_append_right _ (List.mem_append_right _ (Gk hb e)))).1,fun b hb=>?_,w7⟩;obtain ⟨o,e,d⟩:=T.obj _ _ st5 b hb;exact (I7.pin (b,o) (List.mem_append_right _ (List.mem_append_right _ (Gk hb e)))).2.1
  cases f with
  | next=>obtain ⟨σ7,H7,I7,n7⟩:=q7;exact again I7 n7
  | cont=>obtain ⟨σ7,H7,I7,n7⟩:=q7;exact again I7 n7
  | brk=>obtain ⟨σ7,H7,I7,q7⟩:=q7;exact ⟨σ7,H7,I7.unpinned,q7⟩
  | ret v=>obtain ⟨x7,σ7,H7,I7,r7,q7⟩:=q7;exact ⟨x7,σ7,H7,I7.unpinned,r7,q7⟩
end
theorem bG {K:PySem.W.Frag} {a:Addr} {xs:List V} {g:TG} {tb:TS} {D:sj} {σ:St} {H:Hp} (Pv:Nat→St→Hp→Prop) (h0:Pv 0 σ H) (hl:∀ i σ H,i ≤ xs.length→Pv i σ H→SqL K H a xs)
  (hs:∀ i x σ H,xs[i]? = some x→Pv i σ H→g x σ H fun σ2 H2=>tb { D with nx:=Pv (i + 1),ct:=Pv (i + 1),bk:=D.nx } σ2 H2) (hd:∀ σ H,Pv xs.length σ H→D.nx σ H) :
  ∃ W:Nat→Nat→St→Hp→Prop,(∃ m,W 0 m σ H)∧∀ i m σ H,W i m σ H →
   ((Itl K a).stop i H∧D.nx σ H)∨((Itl K a).go i H∧∃ N:St→Hp→Prop,(∀ σ' H',N σ' H'→∃ m',m' < m∧W (i + 1) m' σ' H')∧∀ x H',(Itl K a).yld i H x H'→g x σ H' fun σ2 H2=>tb { D with nx:=N,ct:=N,bk:=D.nx } σ2 H2):=by
 refine ⟨fun i m σ H=>m=xs.length - i∧i ≤ xs.length∧Pv i σ H,⟨xs.length,by simp,Nat.zero_le _,h0⟩,?_⟩;rintro i m σ H ⟨rfl,hi,p⟩;have q:=hl i σ H hi p;by_cases hlt:i < xs.length
 ·refine .inr ⟨⟨xs,xs[i],q,by simp [hlt]⟩,Pv (i + 1),fun σ' H' p'=>⟨xs.length - (i + 1),by omega,rfl,hlt,p'⟩,fun x H' y=>?_⟩;obtain ⟨e,y⟩:=y;subst e;exact hs i x σ _ (y xs q) p
 ·have e:i=xs.length:=by omega
  subst e;exact .inl ⟨⟨xs,q,Nat.le_refl _⟩,hd σ H p⟩
theorem dE {lo:Int} {n:Nat} {g:TG} {tb:TS} {D:sj} {σ:St} {H:Hp} (Pv:Nat→St→Hp→Prop) (h0:Pv 0 σ H)
  (hs:∀ i σ H,i < n→Pv i σ H→g (.int (lo + i)) σ H fun σ2 H2=>tb { D with nx:=Pv (i + 1),ct:=Pv (i + 1),bk:=D.nx } σ2 H2) (hd:∀ σ H,Pv n σ H→D.nx σ H) :
  ∃ W:Nat→Nat→St→Hp→Prop,(∃ m,W 0 m σ H)∧∀ i m σ H,W i m σ H →
   ((Itr lo n).stop i H∧D.nx σ H)∨((Itr lo n).go i H∧∃ N:St→Hp→Prop,(∀ σ' H',N σ' H'→∃ m',m' < m∧W (i + 1) m' σ' H')∧∀ x H',(Itr lo n).yld i H x H'→g x σ H' fun σ2 H2=>tb { D with nx:=N,ct:=N,bk:=D.nx } σ2 H2):=by
 refine ⟨fun i m σ H=>m=n - i∧i ≤ n∧Pv i σ H,⟨n,by simp,Nat.zero_le _,h0⟩,?_⟩;rintro i m σ H ⟨rfl,hi,p⟩;by_cases hlt:i < n
 ·refine .inr ⟨hlt,Pv (i + 1),fun σ' H' p'=>⟨n - (i + 1),by omega,rfl,hlt,p'⟩,fun x H' y=>?_⟩;obtain ⟨e,y⟩:=y;subst e y;exact hs i σ _ hlt p
 ·have e:i=n:=by omega
  subst e;exact .inl ⟨Nat.le_refl _,hd σ H p⟩
end L2
namespace L2
open PySem PySem.Spec PyProof.Rows
noncomputable abbrev R2:=V→V→Hp→VK→Prop
noncomputable def OpR (X:Cx) (f:Value→Value→Sem Value) (r:R2):Prop:=
 ∀ (pins:List (Addr × Obj)) (s:Shared) (σ:St) (H:Hp) (x y:V) (v u:Value) (Q:VK),Inv X pins σ H s→Bd x v→Bd y u→r x y H Q →
  wpAny (model X.prog X.w) X.A (f v u) (EP X pins σ Q) X.xe s
noncomputable def UnR (X:Cx) (f:Value→Sem Value) (r:V→Hp→VK→Prop):Prop:=
 ∀ (pins:List (Addr × Obj)) (s:Shared) (σ:St) (H:Hp) (x:V) (v:Value) (Q:VK),Inv X pins σ H s→Bd x v→r x H Q →
  wpAny (model X.prog X.w) X.A (f v) (EP X pins σ Q) X.xe s
noncomputable def zi (X:Cx) (f:Value) (r:List V→Hp→VK→Prop):Prop:=
 ∀ (pins:List (Addr × Obj)) (s:Shared) (σ:St) (H:Hp) (xs:List V) (us:List Value) (Q:VK),Inv X pins σ H s→md xs us→r xs H Q →
  wpAny (model X.prog X.w) X.A (call f us) (EP X pins σ Q) X.xe s
noncomputable def jP (X:Cx) (r:V→Hp→(Bool→Hp→Prop)→Prop):Prop:=
 ∀ (pins:List (Addr × Obj)) (s:Shared) (σ:St) (H:Hp) (x:V) (v:Value) (Q:Bool→Hp→Prop),Inv X pins σ H s→Bd x v→r x H Q →
  wpAny (model X.prog X.w) X.A (truthy v) (TP X pins σ Q) X.xe s
noncomputable def tOp (r:R2) (ta tb:TE):TE:=fun σ H Q=>ta σ H fun x H1=>tb σ H1 fun y H2=>r x y H2 Q
noncomputable def tUn (r:V→Hp→VK→Prop) (ta:TE):TE:=fun σ H Q=>ta σ H fun x H1=>r x H1 Q
noncomputable def rI (C:Int→Int→Prop) (g:Int→Int→V):R2:=fun x y H Q=>Fj x fun i=>Fj y fun j=>C i j∧Q (g i j) H
noncomputable def rI0 (g:Int→Int→V):R2:=fun x y H Q=>Fj x fun i=>Fj y fun j=>Q (g i j) H
noncomputable def rU (g:Int→V):V→Hp→VK→Prop:=fun x H Q=>Fj x fun i=>Q (g i) H
section
variable {X:Cx} {a b c:Expr} {ta tb tc:TE} {pos:Pos}
theorem zN (ha:PE X a ta) (hb:PE X b tb) {pins:List (Addr × Obj)} {s:Shared} {σ:St} {H:Hp} {R:V→V→Hp→Prop} (I:Inv X pins σ H s)
  (h:ta σ H fun x H1=>tb σ H1 fun y H2=>R x y H2) {Q:Value→Shared→Prop} {f:Value→Value→Sem Value}
  (hf:∀ v u s2 x y H2,Inv X pins σ H2 s2→Bd x v→Bd y u→R x y H2→wpAny (model X.prog X.w) X.A (f v u) Q X.xe s2) :
  wpAny (model X.prog X.w) X.A (eval a X.env) (fun v s₁=>wpAny (model X.prog X.w) X.A (eval b X.env) (fun u s₂=>wpAny (model X.prog X.w) X.A (f v u) Q X.xe s₂) X.xe s₁) X.xe s:=by
 refine thn (ha pins s σ H _ I h) fun v s1 hZ1=>?_
 obtain ⟨x,H1,I1,r1,q1⟩:=hZ1;refine thn (hb pins s1 σ H1 _ I1 q1) fun u s2 hZ1=>?_
 obtain ⟨y,H2,I2,r2,q2⟩:=hZ1;exact hf v u s2 x y H2 I2 r1 r2 q2
theorem Ib {op:Operator} {r:R2} (ho:OpR X (binaryOp op) r) (ha:PE X a ta) (hb:PE X b tb):PE X (.BinOp a op b pos) (tOp r ta tb):=by
 intro pins s σ H Q I h;exact wpAny_BinOp (zN ha hb I h fun v u s2 x y H2 I2 rx ry q=>ho pins s2 σ H2 x y v u Q I2 rx ry q)
theorem wK {op:UnaryOp} {r:V→Hp→VK→Prop} (ho:UnR X (unaryOp op) r) (ha:PE X a ta):PE X (.UnaryOp op a pos) (tUn r ta):=by
 intro pins s σ H Q I h;exact UnaryOp_ (thn (ha pins s σ H _ I h) fun v s1 ⟨x,H1,I1,r1,q1⟩=>ho pins s1 σ H1 x v Q I1 r1 q1)
theorem opI {f:Value→Value→Sem Value} {C:Int→Int→Prop} {g:Int→Int→Int}
  (rule:∀ (i j:Int) (t u:Tok) (s:Shared) (Q:Value→Shared→Prop) (E:Value→Shared→Prop),C i j→Q (.int (g i j) s.toks) { s with toks:=s.toks + 1 }→wpAny (model X.prog X.w) X.A (f (.int i t) (.int j u)) Q E s) :
  OpR X f (rI C fun i j=>.int (g i j)):=by
 intro pins s σ H x y v u Q I rx ry h;obtain ⟨i,rfl,hzz⟩:=Fj.out h;obtain ⟨j,rfl,hc,q⟩:=Fj.out hzz;obtain ⟨t,rfl⟩:=rx;obtain ⟨t',rfl⟩:=ry;exact rule i j t t' s _ _ hc ⟨.int (g i j),H,I.tok _,⟨_,rfl⟩,q⟩
theorem RO {f:Value→Value→Sem Value} {g:Int→Int→Int}
  (rule:∀ (i j:Int) (t u:Tok) (s:Shared) (Q:Value→Shared→Prop) (E:Value→Shared→Prop),Q (.int (g i j) s.toks) { s with toks:=s.toks + 1 }→wpAny (model X.prog X.w) X.A (f (.int i t) (.int j u)) Q E s) :
  OpR X f (rI0 fun i j=>.int (g i j)):=by
 intro pins s σ H x y v u Q I rx ry h;obtain ⟨i,rfl,hzz⟩:=Fj.out h;obtain ⟨j,rfl,q⟩:=Fj.out hzz;obtain ⟨t,rfl⟩:=rx;obtain ⟨t',rfl⟩:=ry;exact rule i j t t' s _ _ ⟨.int (g i j),H,I.tok _,⟨_,rfl⟩,q⟩
theorem VO {f:Value→Value→Sem Value} {g:Int→Int→Bool}
  (rule:∀ (i j:Int) (t u:Tok) (s:Shared) (Q:Value→Shared→Prop) (E:Value→Shared→Prop),Q (.bool (g i j)) s→wpAny (model X.prog X.w) X.A (f (.int i t) (.int j u)) Q E s) :
  OpR X f (rI0 fun i j=>.bl (g i j)):=by
 intro pins s σ H x y v u Q I rx ry h;obtain ⟨i,rfl,hzz⟩:=Fj.out h;obtain ⟨j,rfl,q⟩:=Fj.out hzz;obtain ⟨t,rfl⟩:=rx;obtain ⟨t',rfl⟩:=ry;exact rule i j t t' s _ _ ⟨.bl (g i j),H,I,rfl,q⟩
noncomputable def yO (i j:Int):Prop:=0 < j∧j < 1073741824
noncomputable def kK (i j:Int):Prop:=(-(2 ^ 64) < i∧i < 2 ^ 64)∨(-(2 ^ 64) < j∧j < 2 ^ 64)
theorem kK.ok {i j:Int} (h:kK i j):IntMulOk i j:=by
 rcases h with ⟨h1,h2⟩ | ⟨h1,h2⟩
 ·exact .of_left (intBits_le_64 h1 h2)
 ·exact .of_right (intBits_le_64 h1 h2)
theorem Zb:OpR X (binaryOp .Add) (rI0 fun i j=>.int (i + j)):=RO fun _ _ _ _ _ _ _ q=>add_int q
theorem ij:OpR X (binaryOp .Sub) (rI0 fun i j=>.int (i - j)):=RO fun _ _ _ _ _ _ _ q=>sub_int q
theorem Nd:OpR X (binaryOp .Mult) (rI kK fun i j=>.int (i * j)):=opI fun _ _ _ _ _ _ _ hc q=>mul_int q hc.ok
theorem jJ:OpR X (binaryOp .FloorDiv) (rI yO fun i j=>.int (i / j)):=opI fun i j _ _ _ _ _ hc q=>by
 have h1:(0:Int) < j:=hc.1;have h2:j < 1073741824:=hc.2;exact floordiv_int (by omega) (by rw [Int.fdiv_eq_ediv_of_nonneg i (by omega)];exact q) (.inl (PyProof.noPylong_small (by omega)))
theorem lg:OpR X (binaryOp .Mod) (rI (fun _ j=>0 < j) fun i j=>.int (i % j)):=opI fun i j _ _ _ _ _ hc q=>by
 have h1:(0:Int) < j:=hc;exact mod_int' (by omega) (by rw [Int.fmod_eq_emod_of_nonneg i (by omega)];exact q)
theorem unI {f:Value→Sem Value} {g:Int→Int}
  (rule:∀ (i:Int) (t:Tok) (s:Shared) (Q:Value→Shared→Prop) (E:Value→Shared→Prop),Q (.int (g i) s.toks) { s with toks:=s.toks + 1 }→wpAny (model X.prog X.w) X.A (f (.int i t)) Q E s) :
  UnR X f (rU fun i=>.int (g i)):=by
 intro pins s σ H x v Q I rx h;obtain ⟨i,rfl,q⟩:=Fj.out h;obtain ⟨t,rfl⟩:=rx;exact rule i t s _ _ ⟨.int (g i),H,I.tok _,⟨_,rfl⟩,q⟩
theorem pF:UnR X (unaryOp .USub) (rU fun i=>.int (-i)):=unI fun _ _ _ _ _ q=>neg_int q
end
noncomputable def aM:V→V→Bool
 | .non,.non=>true | .non,.int _=>true | .int _,.non=>true | .non,.bl _=>true | .bl _,.non=>true | .non,.str _=>true | .str _,.non=>true
 | .int _,.int _=>true | .bl _,.bl _=>true | .str _,.str _=>true | .byt _,.byt _=>true
 | .int _,.str _=>true | .str _,.int _=>true | .bl _,.str _=>true | .str _,.bl _=>true
 | _,_=>false
noncomputable def rEq:R2:=fun x y H Q=>aM x y=true∧Q (.bl (decide (x=y))) H
noncomputable def rNe:R2:=fun x y H Q=>aM x y=true∧Q (.bl (!decide (x=y))) H
theorem vE {i j:Int}:decide (V.int i=V.int j)=(i == j):=by
 rw [Bool.eq_iff_iff];simp
theorem pI {i j:Bool}:decide (V.bl i=V.bl j)=(i == j):=by
 rw [Bool.eq_iff_iff];simp
theorem BF {i j:Str}:decide (V.str i=V.str j)=(i == j):=by
 rw [Bool.eq_iff_iff];simp
theorem xE {i j:Array UInt8}:decide (V.byt i=V.byt j)=(i.toList == j.toList):=by
 rw [Bool.eq_iff_iff];cases i;cases j;simp
section
variable {X:Cx} {a b c:Expr} {ta tb tc:TE} {pos:Pos}
theorem Mc {pins:List (Addr × Obj)} {σ:St} {H:Hp} {s:Shared} {Q:VK} {k k':Bool} (I:Inv X pins σ H s) (q:Q (.bl k) H) (e:k=k'):EP X pins σ Q (.bool k') s:=by
 subst e;exact ⟨.bl k,H,I,rfl,q⟩
theorem gg:OpR X (compareOp .Eq) rEq:=by
 intro pins s σ H x y v u Q I rx ry h;obtain ⟨hs,q⟩:=h;cases x with
 | non=>
  cases rx;cases y with
  | non=>cases ry;exact PySem.EqNone.eq_none_none (Mc I q (by simp))
  | bl j=>cases ry;exact PySem.EqNone.eq_none_bool (Mc I q (by simp))
  | int j=>obtain ⟨t',rfl⟩:=ry;exact PySem.EqNone.eq_none_int (Mc I q (by simp))
  | str j=>obtain ⟨t',rfl⟩:=ry;exact PySem.EqNone.eq_none_str (Mc I q (by simp))
  | _=>exact absurd (show false=true from hs) Bool.false_ne_true
 | bl i=>
  cases rx;cases y with
  | non=>cases ry;exact PySem.EqNone.eq_bool_none (Mc I q (by simp))
  | bl j=>cases ry;exact eq_bool (Mc I q pI)
  | str j=>obtain ⟨t',rfl⟩:=ry;exact PySem.EqMixed.eq_bool_str (Mc I q (by simp))
  | _=>exact absurd (show false=true from hs) Bool.false_ne_true
 | int i=>
  obtain ⟨t,rfl⟩:=rx;cases y with
  | non=>cases ry;exact PySem.EqNone.eq_int_none (Mc I q (by simp))
  | int j=>obtain ⟨t',rfl⟩:=ry;exact eq_int (Mc I q vE)
  | str j=>obtain ⟨t',rfl⟩:=ry;exact PySem.EqMixed.eq_int_str (Mc I q (by simp))
  | _=>exact absurd (show false=true from hs) Bool.false_ne_true
 | str i=>
  obtain ⟨t,rfl⟩:=rx;cases y with
  | non=>cases ry;exact PySem.EqNone.eq_str_none (Mc I q (by simp))
  | bl j=>cases ry;exact PySem.EqMixed.eq_str_bool (Mc I q (by simp))
  | int j=>obtain ⟨t',rfl⟩:=ry;exact PySem.EqMixed.eq_str_int (Mc I q (by simp))
  | str j=>obtain ⟨t',rfl⟩:=ry;exact eq_str (Mc I q BF)
  | _=>exact absurd (show false=true from hs) Bool.false_ne_true
 | byt i=>
  obtain ⟨t,rfl⟩:=rx;cases y with
  | byt j=>obtain ⟨t',rfl⟩:=ry;exact PySem.W.eq_bytes (Mc I q xE)
  | _=>exact absurd (show false=true from hs) Bool.false_ne_true
 | _=>cases y <;> exact absurd (show false=true from hs) Bool.false_ne_true
theorem EG:OpR X (compareOp .NotEq) rNe:=by
 intro pins s σ H x y v u Q I rx ry h;obtain ⟨hs,q⟩:=h;cases x with
 | non=>
  cases rx;cases y with
  | non=>cases ry;exact PySem.EqNone.ne_none_none (Mc I q (by simp))
  | bl j=>cases ry;exact PySem.EqNone.ne_none_bool (Mc I q (by simp))
  | int j=>obtain ⟨t',rfl⟩:=ry;exact PySem.EqNone.ne_none_int (Mc I q (by simp))
  | str j=>obtain ⟨t',rfl⟩:=ry;exact PySem.EqNone.ne_none_str (Mc I q (by simp))
  | _=>exact absurd (show false=true from hs) Bool.false_ne_true
 | bl i=>
  cases rx;cases y with
  | non=>cases ry;exact PySem.EqNone.ne_bool_none (Mc I q (by simp))
  | bl j=>cases ry;exact ne_bool (Mc I q (congrArg not pI))
  | str j=>obtain ⟨t',rfl⟩:=ry;exact PySem.EqMixed.ne_bool_str (Mc I q (by simp))
  | _=>exact absurd (show false=true from hs) Bool.false_ne_true
 | int i=>
  obtain ⟨t,rfl⟩:=rx;cases y with
  | non=>cases ry;exact PySem.EqNone.ne_int_none (Mc I q (by simp))
  | int j=>obtain ⟨t',rfl⟩:=ry;exact ne_int (Mc I q (congrArg not vE))
  | str j=>obtain ⟨t',rfl⟩:=ry;exact PySem.EqMixed.ne_int_str (Mc I q (by simp))
  | _=>exact absurd (show false=true from hs) Bool.false_ne_true
 | str i=>
  obtain ⟨t,rfl⟩:=rx;cases y with
  | non=>cases ry;exact PySem.EqNone.ne_str_none (Mc I q (by simp))
  | bl j=>cases ry;exact PySem.EqMixed.ne_str_bool (Mc I q (by simp))
  | int j=>obtain ⟨t',rfl⟩:=ry;exact PySem.EqMixed.ne_str_int (Mc I q (by simp))
  | str j=>obtain ⟨t',rfl⟩:=ry;exact ne_str (Mc I q (congrArg not BF))
  | _=>exact absurd (show false=true from hs) Bool.false_ne_true
 | byt i=>
  obtain ⟨t,rfl⟩:=rx;cases y with
  | byt j=>obtain ⟨t',rfl⟩:=ry;exact PySem.W.ne_bytes (Mc I q (congrArg not xE))
  | _=>exact absurd (show false=true from hs) Bool.false_ne_true
 | _=>cases y <;> exact absurd (show false=true from hs) Bool.false_ne_true
theorem ix:OpR X (compareOp .Lt) (rI0 fun i j=>.bl (decide (i < j))):=VO fun _ _ _ _ _ _ _ q=>lt_int q
theorem yo:OpR X (compareOp .Gt) (rI0 fun i j=>.bl (decide (j < i))):=VO fun _ _ _ _ _ _ _ q=>gt_int q
theorem jF:OpR X (compareOp .In) (fun x y H Q=>∃ i j,x=.str i∧y=.str j∧Q (.bl (!(Builtin.Str.occurrences j i 0 j.length 1).isEmpty)) H):=by
 intro pins s σ H x y v u Q I rx ry h;obtain ⟨i,j,rfl,rfl,q⟩:=h;obtain ⟨t,rfl⟩:=rx;obtain ⟨t',rfl⟩:=ry;exact in_str (Mc I q rfl)
theorem sI:OpR X (compareOp .Is) (fun x y H Q=>y=.non∧Q (.bl (decide (x=.non))) H):=by
 intro pins s σ H x y v u Q I rx ry h;obtain ⟨rfl,q⟩:=h;cases ry;refine is_none_gen (Mc I q ?_);cases x <;> first
  | (cases rx;rfl)
  | (obtain ⟨t,rfl⟩:=rx;rfl)
theorem Uw:OpR X (compareOp .IsNot) (fun x y H Q=>y=.non∧Q (.bl (!decide (x=.non))) H):=by
 intro pins s σ H x y v u Q I rx ry h;obtain ⟨rfl,q⟩:=h;cases ry;refine isnot_none_gen (Mc I q ?_);cases x <;> first
  | (cases rx;rfl)
  | (obtain ⟨t,rfl⟩:=rx;rfl)
theorem OpR.or {f:Value→Value→Sem Value} {r r':R2} (h:OpR X f r) (h':OpR X f r'):OpR X f (fun x y H Q=>r x y H Q∨r' x y H Q):=by
 intro pins s σ H x y v u Q I rx ry q;rcases q with q | q
 ·exact h pins s σ H x y v u Q I rx ry q
 ·exact h' pins s σ H x y v u Q I rx ry q
theorem cc (b:Expr) {op:CmpOp} (h:op ≠ .In:=by decide) (h2:op ≠ .NotIn:=by decide):behindInMarks op b=false:=by
 have e1:(op == CmpOp.In)=false:=by cases op <;> first | rfl | exact absurd rfl h
 have e2:(op == CmpOp.NotIn)=false:=by cases op <;> first | rfl | exact absurd rfl h2
 cases b <;> simp [behindInMarks,e1,e2]
theorem Sf {op:CmpOp} {r:R2} (ho:OpR X (compareOp op) r) (ha:PE X a ta) (hb:PE X b tb) (hm:behindInMarks op b=false):PE X (.Compare a [op] [b] pos) (tOp r ta tb):=by
 intro pins s σ H Q I h;exact wpAny_Compare1 (zN ha hb I h fun v u s2 x y H2 I2 rx ry q=>ho pins s2 σ H2 x y v u Q I2 rx ry q) hm
noncomputable def OL (t:TE):TT:=fun σ H Q=>t σ H fun x H'=>BlQ x fun k=>Q k H'
theorem Qb {op:CmpOp} {r:R2} (ho:OpR X (compareOp op) r) (ha:PE X a ta) (hb:PE X b tb) (hm:behindInMarks op b=false):PT X (.Compare a [op] [b] pos) (OL (tOp r ta tb)):=by
 intro pins s σ H Q I h;refine wpAny_isTrue_Compare1 (thn (ha pins s σ H _ I h) fun v s1 ⟨x,H1,I1,r1,q1⟩=>thn (hb pins s1 σ H1 _ I1 q1) fun u s2 ⟨y,H2,I2,r2,q2⟩=>
  thn (ho pins s2 σ H2 x y v u _ I2 r1 r2 q2) fun c s3 ⟨z,H3,I3,r3,zq⟩=>?_) hm
 obtain ⟨k,e,q3⟩:=BlQ.out zq;subst e;cases r3;exact wpAny_truthy_bool ⟨H3,I3,q3⟩
noncomputable def vO (K:PySem.W.Frag) (x:V) (H:Hp) (k:Bool):Prop:=
 match x with
 | .non=>k=false
 | .bl b=>k=b
 | .int i=>k=(i != 0)
 | .str y=>y.length ≤ sizeLine∧k=((y.length:Int) != 0)
 | .byt y=>y.size ≤ sizeLine∧k=((y.size:Int) != 0)
 | .ref p=>(∃ xs,SqL K H p xs∧k = !xs.isEmpty)∨(∃ xs,SqT K H p xs∧k = !xs.isEmpty)∨∃ kvs,H p=some (.dK kvs)∧k = !kvs.isEmpty
 | _=>False
theorem iA {κ:Type} {kvs:List (κ × V)} {vs:List (κ × Value)} (r:KV kvs vs):(!vs.isEmpty) = !kvs.isEmpty:=by
 cases r <;> rfl
theorem Gs {xs:List V} {its:List Value} (r:md xs its):(!its.toArray.isEmpty) = !xs.isEmpty:=by
 cases r <;> simp
theorem Np:(sizeLine:Nat) < 2 ^ 63:=by rw [sizeLine_eq];decide
theorem YM:jP X (fun x H Q=>∃ k,vO X.K x H k∧Q k H):=by
 intro pins s σ H x v Q I rx h;obtain ⟨k,e,q⟩:=h;have hl:=Np;have hs:sizeLine=16777216:=sizeLine_eq;cases x with
 | non=>
  cases rx;have e':k=false:=e;subst e';exact truthy_none ⟨H,I,q⟩
 | bl b=>
  cases rx;have e':k=b:=e;subst e';exact wpAny_truthy_bool ⟨H,I,q⟩
 | int i=>
  obtain ⟨t,rfl⟩:=rx;have e':k=(i != 0):=e;subst e';exact PySem.P.truthy_int ⟨H,I,q⟩
 | str y=>
  obtain ⟨t,rfl⟩:=rx;obtain ⟨hy,e'⟩:y.length ≤ sizeLine∧k=((y.length:Int) != 0):=e;subst e';exact PySem.P.truthy_str (by omega) ⟨H,I.tok _,q⟩
 | byt y=>
  obtain ⟨t,rfl⟩:=rx;obtain ⟨hy,e'⟩:y.size ≤ sizeLine∧k=((y.size:Int) != 0):=e;subst e';exact PySem.W.truthy_bytes (by omega) ⟨H,I.tok _,q⟩
 | ref p=>
  cases rx;have e':(∃ xs,SqL X.K H p xs∧k = !xs.isEmpty)∨(∃ xs,SqT X.K H p xs∧k = !xs.isEmpty)∨∃ kvs,H p=some (.dK kvs)∧k = !kvs.isEmpty:=e;rcases e' with ⟨xs,hx,e'⟩ | ⟨xs,hx,e'⟩ | ⟨kvs,hx,e'⟩
  ·subst e';obtain ⟨its,r,pl,hz⟩:=I.list hx;have hlen:=r.length;exact wpAny_truthy_list pl.isList (by simp only [List.size_toArray];omega) ⟨H,I.tok _,by rw [Gs r];exact q⟩
  ·subst e';obtain ⟨its,r,pl,hz⟩:=I.tuple hx;have hlen:=r.length;exact truthy_tuple pl (by simp only [List.size_toArray];omega) ⟨H,I.tok _,by rw [Gs r];exact q⟩
  ·subst e';obtain ⟨hz,hS,vs,r,m⟩:kvs.length ≤ sizeLine∧(p == sysModules)=false∧∃ vs,KV kvs vs∧s.heap.DictOf (ue X.prog X.w) p vs:=I.hok p _ hx;have hlen:kvs.length=vs.length:=Paired.length r;exact wpAny_truthy_dict hS m (by omega) ⟨H,I.tok _,by rw [iA r];exact q⟩
 | _=>exact (show False from e).elim
theorem Zy (ha:PE X a ta) (he:∀ whole,isTrue a X.env whole=(do let v ← whole;standAt a.pos;holding [v] (truthy v))) :
  PT X a (fun σ H Q=>ta σ H fun x H'=>∃ k,vO X.K x H' k∧Q k H'):=by
 intro pins s σ H Q I h;exact isTrue_plain (thn (ha pins s σ H _ I h) fun v s1 ⟨x,H1,I1,r1,q1⟩=>YM pins s1 σ H1 x v Q I1 r1 q1) (he _)
theorem Gn:OpR X (binaryOp .Add) (fun x y H Q=>∃ i j,x=.str i∧y=.str j∧i.length + j.length ≤ sizeLine∧Q (.str (i ++ j)) H):=by
 intro pins s σ H x y v u Q I rx ry h;obtain ⟨i,j,rfl,rfl,hz,q⟩:=h;obtain ⟨t,rfl⟩:=rx;obtain ⟨t',rfl⟩:=ry;exact add_str (fun t' tk=>⟨.str (i ++ j),H,I.tok _,⟨_,rfl⟩,q⟩) hz
theorem Mm {x:V} {us:List Value} (r:md [x] us):∃ u,us=[u]∧Bd x u:=by
 cases r with
 | cons r1 r2=>cases r2;exact ⟨_,rfl,r1⟩
theorem nL {x y:V} {us:List Value} (r:md [x,y] us):∃ u w',us=[u,w']∧Bd x u∧Bd y w':=by
 cases r with
 | cons r1 r2=>
  cases r2 with
  | cons r3 r4=>cases r4;exact ⟨_,_,rfl,r1,r3⟩
theorem Mu (hc:X.calm=true):zi X (.builtin "max") (fun xs H Q=>∃ i j,xs=[.int i,.int j]∧Q (.int (if j > i then j else i)) H):=by
 intro pins s σ H xs us Q I r h;obtain ⟨i,j,rfl,q⟩:=h;obtain ⟨u,w',rfl,⟨t,rfl⟩,⟨t',rfl⟩⟩:=nL r;refine max_two_ints (I.ok.hd hc) fun h' tk k=>⟨_,H,I.kept k,?_,q⟩
 by_cases hj:j > i
 ·rw [if_pos hj,if_pos hj];exact ⟨_,rfl⟩
 ·rw [if_neg hj,if_neg hj];exact ⟨_,rfl⟩
theorem Vv (hc:X.calm=true):zi X (.builtin "min") (fun xs H Q=>∃ i j,xs=[.int i,.int j]∧Q (.int (if j < i then j else i)) H):=by
 intro pins s σ H xs us Q I r h;obtain ⟨i,j,rfl,q⟩:=h;obtain ⟨u,w',rfl,⟨t,rfl⟩,⟨t',rfl⟩⟩:=nL r;refine min_two_ints (I.ok.hd hc) fun h' tk k=>⟨_,H,I.kept k,?_,q⟩
 by_cases hj:j < i
 ·rw [if_pos hj,if_pos hj];exact ⟨_,rfl⟩
 ·rw [if_neg hj,if_neg hj];exact ⟨_,rfl⟩
theorem Sj:zi X (.type "str") (fun xs H Q=>∃ i,xs=[.int i]∧i.natAbs.log2 < 1920∧Q (.str (toString i)) H):=by
 intro pins s σ H xs us Q I r h;obtain ⟨i,rfl,hz,q⟩:=h;obtain ⟨u,rfl,t,rfl⟩:=Mm r;exact PySem.P.str_of_int hz ⟨.str _,H,I.tok _,⟨_,rfl⟩,q⟩
end
end L2
namespace L2
open PySem PySem.Spec PyProof.Rows
structure zK (h:Heap) (x dx C:Addr) (mA:Str→Option Value):Prop where
 obj:h.get? x=some (PySem.W.instObj C dx)
 ns:h.Ns1 dx mA
 ne:dx ≠ x
theorem OB {h:Heap} {dx:Addr} {mA:Str→Option Value} (n:h.Ns1 dx mA):∃ od,h.get? dx=some od∧∀ name,PySem.W.lookIn name od=some (mA name):=by
 obtain ⟨o,es,ep,ho,hd,hk,_,hm⟩:=n;refine ⟨o,ho,fun name=>?_⟩;have e:=hm name;unfold nsFind findBy at e;rw [← Array.find?_toList] at e;unfold PySem.W.lookIn;rw [hd];dsimp only;split
 ·rename_i y q;rw [q] at e;exact congrArg some e
 ·rename_i q;rw [q] at e;have a:es.toList.any (·.refKey)=false:=by
   rw [List.any_eq_false];intro y hy;obtain ⟨z,t,hkey⟩:=hk y (Array.mem_toList_iff.mp hy);simp [DictEntry.refKey,hkey]
  have a':¬ es.toList.any (·.refKey)=true:=by rw [a];exact Bool.false_ne_true
  rw [if_neg a'];exact congrArg some e
theorem zK.look {h:Heap} {x dx C:Addr} {mA:Str→Option Value} (I:zK h x dx C mA):∃ od,PySem.W.InstAt h x (PySem.W.instObj C dx) C (some od)∧∀ name,PySem.W.lookIn name od=some (mA name):=
 let ⟨od,ho,hl⟩:=OB I.ns
 ⟨od,⟨I.obj,rfl,rfl,ho⟩,hl⟩
section
variable {prog:Program} {w:World} {A:Around} {E:Value→Shared→Prop} {s:Shared} {K:PySem.W.Frag} {x dx C f:Addr} {mA:Str→Option Value} {name:Str} {v:Value}
theorem QK {expr:Bool} {Q:Value→Shared→Prop} (X:K.In s.heap) (I:zK s.heap x dx C mA) (hg:PySem.W.plainGet K C name=true) (hh:PySem.W.hasDictIn K C=true)
  (ha:PySem.W.findIn K (.ref C) name=some none) (hv:mA name=some v) (hv':PySem.W.handedIn v=true) (h:Q v { s with toks:=s.toks + 1 }) :
  wpAny (model prog w) A (getAttr (.ref x) name expr) Q E s:=by
 obtain ⟨od,J,hl⟩:=I.look;exact PySem.W.get_value X J (PySem.W.plainGet_of hg).1 (PySem.W.findObj_own hh ha rfl (by rw [hl,hv])) hv' h
theorem CH {pl:Sem Bool} {Q:Value × List Value→Shared→Prop} (X:K.In s.heap) (I:zK s.heap x dx C mA) (hg:PySem.W.plainGet K C name=true)
  (hf:PySem.W.findIn K (.ref C) name=some (some (.ref f))) (ht:PySem.W.isFn K (.ref f)=true) (hv:mA name=none) (h:Q (.ref f,[.ref x]) s) :
  wpAny (model prog w) A (getMethod (.ref x) name pl) Q E s:=by
 obtain ⟨od,J,hl⟩:=I.look;exact PySem.W.method_fn X J (PySem.W.plainGet_of hg).1 (PySem.W.plainGet_of hg).2 hf (beq_iff_eq.mp ht) (by show (PySem.W.lookIn name od).map (·.isSome)=some false;rw [hl,hv];rfl) h
theorem GJ {ns:List Str} {Q:Unit→Shared→Prop} (X:K.In s.heap) (I:zK s.heap x dx C mA)
  (hs:PySem.W.findIn K (.ref C) "__setattr__"=some (some (.builtin "object.__setattr__"))) (hp:PySem.W.plainOver K C=true) (ht:PySem.W.takerIn K C name=some none) (hh:PySem.W.hasDictIn K C=true)
  (hw:PySem.Within mA ns) (hsz:ns.length ≤ sizeLine)
  (h:∀ h',zK h' x dx C (fun y=>if y=name then some v else mA y)→Heap.SameBut dx s.heap h'→Q () { s with heap:=h',toks:=s.toks + 2 }) :
  wpAny (model prog w) A (setAttr (.ref x) name v) Q E s:=by
 obtain ⟨od,J,hl⟩:=I.look;refine PySem.W.set_plain X J hs (PySem.W.osa_open (s:={ s with toks:=s.toks + 1 }) (r:=none) X J hp ht fun b=>?_);obtain ⟨cd,hc,hd'⟩:=PySem.W.any_some hh;have hx:s.heap.get? x=some ⟨.ref C,some dx,.plain,#[]⟩:=I.obj;refine wpAny_bind (wpAny_pure (wpAny_bind (wpAny_bind (wpAny_loadPart hx (wpAny_bind (PySem.W.Looks.here (s:={ s with toks:=s.toks + 1 }) (PySem.W.looks_clsIn X hc) ?_))))));rw [hd'];refine wpAny_pure (a:=some dx) (wpAny_bind (wpAny_pure (wpAny_bind ?_)));refine wpAny_nsSet1 (s:={ s with toks:=s.toks + 1 }) I.ns fun h' hn2 hs2=>?_
 obtain ⟨oD,esD,epD,hoD,hdD,hcD⟩:=hn2.count (PySem.Within.cons name v hw);refine wpAny_bind (wpAny_lookBehind hoD (by rw [hdD];exact pastItsLine_dict (Nat.le_trans hcD (by rw [List.length_cons];omega))) ?_);exact wpAny_pure (h _ ⟨(hs2.2 _ (Ne.symm I.ne)).trans I.obj,hn2,I.ne⟩ hs2)
theorem GH {R:Result→Shared→Prop} {vs:List Value} {kw:List (Str × Value)} (X:K.In s.heap) (hm:PySem.W.makesIn K C=true)
  (hi:PySem.W.findIn K (.ref C) "__init__"=some (some (.ref f))) (hf:PySem.W.typeIn K (.ref f)=some (.type "function"))
  (h:codeAny (model prog w) (A.under (.builtin "type.__call__" ⟨.ref C :: vs,kw⟩)) (.call (.ref f) ⟨.ref (s.heap.objs.size + 1) :: vs,kw⟩) (PySem.W.InitBack (s.heap.objs.size + 1) R)
   { s with heap:=(s.heap.push PySem.W.emptyDict).push (PySem.W.instObj C s.heap.objs.size) }) :
  codeAny (model prog w) A (.call (.ref C) ⟨vs,kw⟩) R s:=by
 obtain ⟨hh,g,d,t,os⟩:=s;exact PySem.W.make_core (PySem.W.makes_of X hm) (PySem.W.looks_findIn X hi) (fun self=>PySem.W.bind_fn X self hf) (.inl rfl) h
end
noncomputable def Gi (f:Str) (v:V):List (Str × V)→List (Str × V)
 | []=>[(f,v)]
 | (g,x) :: r=>if g=f then (g,v) :: r else (g,x) :: Gi f v r
theorem Vp (f g:Str) (v:V):∀ fs:List (Str × V),(Gi f v fs).lookup g=if g=f then some v else fs.lookup g
 | []=>by
  show List.lookup g [(f,v)]=_;by_cases h:g=f
  ·have hb:(g == f)=true:=beq_iff_eq.mpr h;simp only [List.lookup,hb,if_pos h]
  ·have hb:(g == f)=false:=beq_eq_false_iff_ne.mpr h;simp only [List.lookup,hb,if_neg h]
 | (k,x) :: r=>by
  have ih:=Vp f g v r;rw [show Gi f v ((k,x) :: r)=(if k=f then (k,v) :: r else (k,x) :: Gi f v r) from rfl];by_cases hk:k=f
  ·rw [if_pos hk];by_cases h:g=k
   ·have hb:(g == k)=true:=beq_iff_eq.mpr h;simp only [List.lookup,hb,if_pos (h.trans hk)]
   ·have hb:(g == k)=false:=beq_eq_false_iff_ne.mpr h;simp only [List.lookup,hb,if_neg (fun e:g=f=>h (e.trans hk.symm))]
  ·rw [if_neg hk];by_cases h:g=k
   ·have hb:(g == k)=true:=beq_iff_eq.mpr h;simp only [List.lookup,hb,if_neg (fun e:g=f=>hk (h.symm.trans e))]
   ·have hb:(g == k)=false:=beq_eq_false_iff_ne.mpr h;simp only [List.lookup,hb];exact ih
theorem Wo (f:Str) (v:V):∀ fs:List (Str × V),f ∈ (Gi f v fs).map (·.1)∧∀ g,g ∈ fs.map (·.1)→g ∈ (Gi f v fs).map (·.1)
 | []=>⟨by simp [Gi],fun g h=>by simp at h⟩
 | (k,x) :: r=>by
  obtain ⟨i1,i2⟩:=Wo f v r;rw [show Gi f v ((k,x) :: r)=(if k=f then (k,v) :: r else (k,x) :: Gi f v r) from rfl];by_cases hk:k=f
  ·rw [if_pos hk];subst hk;exact ⟨by simp,fun g h=>by simpa using h⟩
  ·rw [if_neg hk];refine ⟨?_,fun g h=>?_⟩
   ·rw [List.map_cons];exact List.mem_cons_of_mem _ i1
   ·rw [List.map_cons] at h ⊢;rcases List.mem_cons.mp h with e | e
    ·exact List.mem_cons.mpr (.inl e)
    ·exact List.mem_cons_of_mem _ (i2 g e)
theorem Yl (f:Str) (v:V):∀ fs:List (Str × V),(Gi f v fs).length ≤ fs.length + 1
 | []=>by simp [Gi]
 | (k,x) :: r=>by
  have ih:=Yl f v r;rw [show Gi f v ((k,x) :: r)=(if k=f then (k,v) :: r else (k,x) :: Gi f v r) from rfl];by_cases hk:k=f
  ·rw [if_pos hk,List.length_cons,List.length_cons];omega
  ·rw [if_neg hk,List.length_cons,List.length_cons];omega
theorem As.some_of {v:V} {o:Option Value} (r:As (some v) o):∃ u,o=some u∧Bd v u:=by
 cases o with
 | none=>exact (show False from r).elim
 | some u=>exact ⟨u,rfl,r⟩
theorem As.none_of {o:Option Value} (r:As none o):o=none:=by
 cases o with
 | none=>rfl
 | some u=>exact (show False from r).elim
theorem qD {v:V} {u:Value} (r:Bd v u):PySem.W.handedIn u=true:=by
 cases v with
 | non=>cases (show u=Value.none from r);rfl
 | bl b=>cases (show u=Value.bool b from r);rfl
 | int i=>obtain ⟨t,e⟩:=(show ∃ t,u=Value.int i t from r);cases e;rfl
 | str x=>obtain ⟨t,e⟩:=(show ∃ t,u=Value.str x t from r);cases e;rfl
 | byt b=>obtain ⟨t,e⟩:=(show ∃ t,u=Value.bytes b t from r);cases e;rfl
 | flt b=>obtain ⟨t,e⟩:=(show ∃ t,u=Value.float b t from r);cases e;rfl
 | ref a=>cases (show u=Value.ref a from r);rfl
 | ty n=>cases (show u=Value.type n from r);rfl
section
variable {P:Program} {w:World} {H H':Hp} {h h':Heap} {a C dx:Addr} {fs fs':List (Str × V)}
theorem vw (hok:HOk P w H h) (e:H a=some (.ins C dx fs)):∃ mA,zK h a dx C mA∧(∀ f,As (fs.lookup f) (mA f))∧PySem.Within mA (fs.map (·.1))∧fs.length ≤ 1000∧H dx=some (.own a):=by
 obtain ⟨d,z,ne,ob,mA,n,r,q⟩:=(show Zd P w H h a (.ins C dx fs) from hok a _ e);exact ⟨mA,⟨ob,n,ne⟩,r,q,z,d⟩
end
structure Cls (K:PySem.W.Frag) (C:Addr):Prop where
 pg:PySem.W.plainGet K C Str.empty=true
 hd:PySem.W.hasDictIn K C=true
 po:PySem.W.plainOver K C=true
 sa:PySem.W.findIn K (.ref C) "__setattr__"=some (some (.builtin "object.__setattr__"))
theorem Cls.get {K:PySem.W.Frag} {C:Addr} (c:Cls K C) (f:Str):PySem.W.plainGet K C f=true:=c.pg
noncomputable def kc (K:PySem.W.Frag) (C:Addr) (f:Str):Prop:=PySem.W.findIn K (.ref C) f=some none
theorem kc.taker {K:PySem.W.Frag} {C:Addr} {f:Str} (n:kc K C f):PySem.W.takerIn K C f=some none:=by
 unfold PySem.W.takerIn;rw [show PySem.W.findIn K (.ref C) f=some none from n];rfl
structure Con (K:PySem.W.Frag) (C:Addr) (f:Str) (v:V) (u:Value):Prop where
 at_:PySem.W.findIn K (.ref C) f=some (some u)
 rel:Bd v u
 get:PySem.W.specialIn K u "__get__"=some none
 cp:PySem.W.copiedNames.contains f=false
structure Nt (K:PySem.W.Frag) (C:Addr) (m:Str) (f:Addr):Prop where
 at_:PySem.W.findIn K (.ref C) m=some (some (.ref f))
 fn:PySem.W.isFn K (.ref f)=true
 kp:PySem.W.keepIn K (.ref f)=true
section
variable {X:Cx} {pins:List (Addr × Obj)} {σ:St} {H:Hp} {s:Shared} {a C dx:Addr} {fs:List (Str × V)} {f:Str} {v:V} {A:Around} {E:Value→Shared→Prop}
theorem Yr {b:Bool} {Q:Value→Shared→Prop} (I:Inv X pins σ H s) (e:H a=some (.ins C dx fs)) (c:Cls X.K C) (n:kc X.K C f) (l:fs.lookup f=some v)
  (h:∀ u s',Inv X pins σ H s'→Bd v u→Q u s'):wpAny (model X.prog X.w) A (getAttr (.ref a) f b) Q E s:=by
 obtain ⟨mA,O,r,_,_,_⟩:=vw I.hok e;obtain ⟨u,hu,ru⟩:=As.some_of (v:=v) (o:=mA f) (by rw [← l];exact r f);exact QK I.kIn O (c.get f) c.hd n hu (qD ru) (h u _ (I.tok _) ru)
theorem Fn {m:Str} {g:Addr} {pl:Sem Bool} {Q:Value × List Value→Shared→Prop} (I:Inv X pins σ H s) (e:H a=some (.ins C dx fs)) (c:Cls X.K C) (k:Nt X.K C m g) (l:fs.lookup m=none)
  (h:Q (.ref g,[.ref a]) s):wpAny (model X.prog X.w) A (getMethod (.ref a) m pl) Q E s:=by
 obtain ⟨mA,O,r,_,_,_⟩:=vw I.hok e;have hn:mA m=none:=As.none_of (by rw [← l];exact r m);exact CH I.kIn O (c.get m) k.at_ k.fn hn h
theorem Xs {y:V} {u:Value} {Q:Unit→Shared→Prop} (I:Inv X pins σ H s) (e:H a=some (.ins C dx fs)) (c:Cls X.K C) (n:kc X.K C f) (hl:fs.length < 1000) (ry:Bd y u)
  (h:∀ s',Inv X pins σ (upd H a (.ins C dx (Gi f y fs))) s'→Q () s'):wpAny (model X.prog X.w) A (setAttr (.ref a) f u) Q E s:=by
 obtain ⟨mA,O,r,wi,_,ho⟩:=vw I.hok e;have hz:(fs.map (·.1)).length ≤ sizeLine:=by rw [List.length_map,sizeLine_eq];omega
 refine GJ I.kIn O c.sa c.po n.taker c.hd wi hz fun h' O' sb=>h _ ?_
 have hd:∃ o,h'.get? dx=some o:=let ⟨o,_,_,e',_⟩:=O'.ns;⟨o,e'⟩;refine I.write (x:=a) (e:=dx) (by rw [e];exact True.intro) (.inr ho) (fun b q hb z=>(sb.2 b hb).trans z) hd ?_;refine ⟨by rw [Db O.ne];exact ho,?_,O.ne,O'.obj,_,O'.ns,fun g=>?_,fun g hg=>?_⟩
 ·have:=Yl f y fs;omega
 ·show As ((Gi f y fs).lookup g) (if g=f then some u else mA g);rw [Vp];by_cases q:g=f
  ·rw [if_pos q,if_pos q];exact ry
  ·rw [if_neg q,if_neg q];exact r g
 ·by_cases q:g=f
  ·rw [q];exact (Wo f y fs).1
  ·refine (Wo f y fs).2 g (wi g fun z=>hg ?_);show (if g=f then some u else mA g)=none;rw [if_neg q];exact z
theorem Inv.made (I:Inv X pins σ H s):Inv X pins σ (upd (upd H s.heap.objs.size (.own (s.heap.objs.size + 1))) (s.heap.objs.size + 1) (.ins C s.heap.objs.size []))
  { s with heap:=(s.heap.push PySem.W.emptyDict).push (PySem.W.instObj C s.heap.objs.size) }:=by
 have e1:(s.heap.push PySem.W.emptyDict).get? s.heap.objs.size=some PySem.W.emptyDict:=Heap.get?_push_size s.heap rfl;have e2:((s.heap.push PySem.W.emptyDict).push (PySem.W.instObj C s.heap.objs.size)).get? (s.heap.objs.size + 1)=some (PySem.W.instObj C s.heap.objs.size):=by
  have:=Heap.get?_push_size (s.heap.push PySem.W.emptyDict) (o:=PySem.W.instObj C s.heap.objs.size) rfl;rwa [Heap.size_push] at this
 have e3:(s.heap.push PySem.W.emptyDict).Ns s.heap.objs.size (fun _=>none):=⟨PySem.W.emptyDict,#[],_,e1,rfl,(fun e he=>absurd he (by simp)),fun _=>rfl⟩;have I1:=I.laid (a:=s.heap.objs.size) (o:=.own (s.heap.objs.size + 1)) (h':=s.heap.push PySem.W.emptyDict) (t':=s.toks) (fun b u q=>Heap.get?_push_of_some _ q) (Nat.le_refl _) ⟨_,e1⟩;refine I1.laid (a:=s.heap.objs.size + 1) (o:=.ins C s.heap.objs.size []) (t':=s.toks) (fun b u q=>Heap.get?_push_of_some _ q) (Nat.le_of_eq (Heap.size_push _ _)) ?_;have ne:s.heap.objs.size ≠ s.heap.objs.size + 1:=Nat.ne_of_lt (Nat.lt_succ_self _);refine ⟨by rw [Db ne,gb],Nat.zero_le _,ne,e2,fun _=>none,(Heap.Ns1.of_empty e3).at fun o q=>Heap.get?_push_of_some _ q,fun _=>True.intro,fun y hy=>absurd rfl hy⟩
theorem CJ {prog:Program} {w:World} {env:Env} {e:Expr} {f:Str} {pos:Pos} {s:Shared} {Q:Value→Shared→Prop} (hb:attributeBase e f env (eval e env)=eval e env)
  (h:wpAny (model prog w) A (eval e env) (fun o s₁=>wpAny (model prog w) A (getAttr o f true) Q E s₁) E s):wpAny (model prog w) A (eval (.Attribute e f pos) env) Q E s:=
 Attribute_any_ h (by rw [arm_eval_Attribute,hb])
end
noncomputable def el (K:PySem.W.Frag) (H:Hp) (a:Addr) (f:Str) (v:V):Prop:=∃ C dx fs,H a=some (.ins C dx fs)∧Cls K C∧kc K C f∧fs.lookup f=some v
noncomputable def lO (K:PySem.W.Frag) (ta:TE) (f:Str):TE:=fun σ H Q=>ta σ H fun x H1=>mh x fun a=>∃ v,el K H1 a f v∧Q v H1
noncomputable def EO (K:PySem.W.Frag) (ta tv:TE) (f:Str):TS:=fun D σ H=>tv σ H fun y H1=>ta σ H1 fun x H2=>mh x fun a=>∃ C dx fs,H2 a=some (.ins C dx fs)∧Cls K C∧kc K C f∧fs.length < 1000 ∧
 D.nx σ (upd H2 a (.ins C dx (Gi f y fs)))
noncomputable def xO (X:Cx) (op:Operator) (rd:V→V→Hp→VK→Prop):Prop:=
 ∀ (pins:List (Addr × Obj)) (s:Shared) (σ:St) (H:Hp) (x y:V) (u v:Value) (Q:VK),Inv X pins σ H s→Bd x u→Bd y v→rd x y H Q→wpAny (model X.prog X.w) X.A (inplaceOp op u v) (EP X pins σ Q) X.xe s
noncomputable def tE (K:PySem.W.Frag) (ta tv:TE) (rd:V→V→Hp→VK→Prop) (f:Str):TS:=fun D σ H=>ta σ H fun x H1=>∃ a C dx fs v,x=.ref a∧H1 a=some (.ins C dx fs)∧Cls K C∧kc K C f∧fs.lookup f=some v ∧
 tv σ H1 fun y H2=>rd v y H2 fun z H3=>∃ dx' fs',H3 a=some (.ins C dx' fs')∧fs'.length < 1000∧D.nx σ (upd H3 a (.ins C dx' (Gi f z fs')))
section
variable {X:Cx} {o e value:Expr} {f:Str} {pos pos' tpos:Pos} {ta tv:TE}
theorem fc (he:PE X e ta) (hb:attributeBase e f X.env (eval e X.env)=eval e X.env):PE X (.Attribute e f pos) (lO X.K ta f):=by
 intro pins s σ H Q I h;refine CJ hb (thn (he pins s σ H _ I h) fun u s1 hZ1=>?_);obtain ⟨x,H1,I1,rx,zq⟩:=hZ1;obtain ⟨a,ex,v,⟨C,dx,fs,ea,c,n,l⟩,q⟩:=mh.out zq;subst ex;obtain rfl:u=Value.ref a:=rx;exact Yr I1 ea c n l fun u' s2 I2 ru=>⟨v,H1,I2,ru,q⟩
theorem ug (ha:PE X o ta) (hv:PE X value tv) (hs:swapsWith value (some (.Attribute o f pos')) pos.line X.env=pure false):PS X (.Assign [.Attribute o f pos'] value pos) (EO X.K ta tv f):=by
 intro pins s σ H D I h;refine plainObj_wpAny_Assign_Attribute (thn (hv pins s σ H _ I h) fun u s1 ⟨y,H1,I1,ry,q⟩=>thn (ha pins s1 σ H1 _ I1 q) fun ov s2 hZ1=>?_) hs;obtain ⟨x,H2,I2,rx,zq⟩:=hZ1;obtain ⟨a,ex,C,dx,fs,ea,c,n,l,q2⟩:=mh.out zq;subst ex;obtain rfl:ov=Value.ref a:=rx;exact Xs I2 ea c n l ry fun s3 I3=>⟨σ,_,I3,q2⟩
theorem EC {op:Operator} {rd:V→V→Hp→VK→Prop} (ha:PE X o ta) (hv:PE X value tv) (hop:xO X op rd):PS X (.AugAssign (.Attribute o f tpos) op value pos) (tE X.K ta tv rd f):=by
 intro pins s σ H D I h;refine wpAny_AugAssign_AttributeAny (thn (ha pins s σ H _ I h) fun ov s1 hZ1=>?_);obtain ⟨x,H1,I1,rx,a,C,dx,fs,v,ex,ea,c,n,l,q⟩:=hZ1;subst ex;obtain rfl:ov=Value.ref a:=rx;refine Yr I1 ea c n l fun u s2 I2 ru=>thn (hv pins s2 σ H1 _ I2 q) fun w3 s3 ⟨y,H2,I3,ry,q3⟩=>thn (hop pins s3 σ H2 v y u w3 _ I3 ru ry q3) fun w4 s4 hZ1=>?_
 obtain ⟨z,H3,I4,rz,dx',fs',ea',l',q4⟩:=hZ1;exact Xs I4 ea' c n l' rz fun s5 I5=>⟨σ,_,I5,q4⟩
noncomputable def nO:V→V→Hp→VK→Prop:=fun x y H Q=>∃ i j,x=.int i∧y=.int j∧Q (.int (i + j)) H
theorem dN:xO X .Add nO:=by
 rintro pins s σ H x y u v Q I rx ry ⟨i,j,rfl,rfl,q⟩;obtain ⟨t,rfl⟩:=(show ∃ t,u=Value.int i t from rx);obtain ⟨t',rfl⟩:=(show ∃ t',v=Value.int j t' from ry);exact PyProof.Rows.iadd_int ⟨.int (i + j),H,I.tok _,⟨_,rfl⟩,q⟩
end
section
variable {X:Cx} {pins:List (Addr × Obj)} {σ:St} {H:Hp} {s:Shared} {A:Around} {E:Value→Shared→Prop} {Q:Value→Shared→Prop} {c:Value} {b:Bool}
inductive MB (K:PySem.W.Frag) (H:Hp):V→Value→Prop where
 | non:MB K H .non (.type "NoneType")
 | bl (x:Bool):MB K H (.bl x) (.type "bool")
 | int (i:Int):MB K H (.int i) (.type "int")
 | str (x:Str):MB K H (.str x) (.type "str")
 | flt (x:UInt64):MB K H (.flt x) (.type "float")
 | lst {a:Addr} {xs:List V} (e:H a=some (.lst xs)):MB K H (.ref a) (.type "list")
 | frz {a:Addr} {o:Obj} {xs:List V} (e:H a=some (.frz o (.lst xs))):MB K H (.ref a) (.type "list")
 | tup {a:Addr} {xs:List V} (e:H a=some (.tup xs)):MB K H (.ref a) (.type "tuple")
 | dK {a:Addr} {kvs:List (Key × V)} (e:H a=some (.dK kvs)):MB K H (.ref a) (.type "dict")
 | dT {a:Addr} {kvs:List (List Key × V)} (e:H a=some (.dT kvs)):MB K H (.ref a) (.type "dict")
 | ins {a C dx:Addr} {fs:List (Str × V)} (e:H a=some (.ins C dx fs)) (cl:Cls K C) (ha:PySem.W.findIn K (.ref C) "__class__"=some (some (.builtin "object.__class__")))
   (hn:PySem.W.specialIn K (.builtin "object.__class__") "__get__"=some (some (.builtin "getset_descriptor.__get__"))) (htk:PySem.W.takesIn K (.builtin "object.__class__")=some true)
   (hm:PySem.W.mroIn K C (.type "object")=some true):MB K H (.ref a) (.ref C)
end
end L2
namespace L2
open PySem PySem.Spec PyProof.Rows
structure Gj (k:Nat) (A:Around):Prop where
 hd:A.handled=none
 dp:A.depth + 3 * k + 5 < recursionLimit
 un:A.units + 16 * k + 200 < cLine
theorem Gj.mono {j k:Nat} {A:Around} (r:Gj k A) (h:j ≤ k):Gj j A:=⟨r.hd,by have:=r.dp;omega,by have:=r.un;omega⟩
theorem Gj.deeper {k:Nat} {A:Around} (r:Gj (k + 1) A) (env:Env):Gj k (A.deeper env):=
 ⟨r.hd,by have:=r.dp;show A.depth + 1 + 3 * k + 5 < _;omega,by have:=r.un;show A.units + 3 + 16 * k + 200 < _;omega⟩
theorem Gj.in1 {k:Nat} {A:Around} (r:Gj (k + 1) A):Gj k A.in1:=
 ⟨r.hd,by have:=r.dp;show A.depth + 3 * k + 5 < _;omega,by have:=r.un;show A.units + 1 + 16 * k + 200 < _;omega⟩
theorem lB {A:Around} {C:Addr} {us:List Value} {kw:List (Str × Value)}:(A.under (.builtin "type.__call__" ⟨.ref C :: us,kw⟩)).depth=A.depth + 1:=by
 first | rfl | simp [Around.under,Code.weight,Code.isCreation,Code.isGuard,Code.isCaller,Code.frames,Code.isFrame,guardIds]
theorem NA {A:Around} {C:Addr} {us:List Value} {kw:List (Str × Value)}:(A.under (.builtin "type.__call__" ⟨.ref C :: us,kw⟩)).units=A.units + 1:=by
 first | rfl | simp [Around.under,Code.cUnits,Code.frames,Code.isFrame]
theorem Gj.make {k:Nat} {A:Around} (r:Gj (k + 1) A) (C:Addr) (us:List Value) (kw:List (Str × Value)):Gj k (A.under (.builtin "type.__call__" ⟨.ref C :: us,kw⟩)):=
 ⟨r.hd,by have:=r.dp;rw [lB];omega,by have:=r.un;rw [NA];omega⟩
theorem Gj.depth {k:Nat} {A:Around} (r:Gj k A):A.depth < recursionLimit:=by have:=r.dp;omega
theorem Gj.units {k:Nat} {A:Around} (r:Gj k A):A.units + 64 < cLine:=by have:=r.un;omega
noncomputable def gN:TA:=fun _ H Q=>Q [] H
noncomputable def dM (ta:TE) (tr:TA):TA:=fun σ H Q=>ta σ H fun x H1=>tr σ H1 fun xs H2=>Q (x :: xs) H2
section
variable {X:Cx} {e:Expr} {es:List Expr} {te:TE} {t:TA} {pos:Pos}
theorem ib:PA X [] gN:=fun _ _ _ _ H Q I h=>Calls.spliced_nil ⟨[],H,I,.nil,h⟩
theorem ab (ha:PE X e te) (hr:PA X es t) (hs:starEach (e :: es) X.env=(false,eval e X.env) :: starEach es X.env:=by rfl):PA X (e :: es) (dM te t):=by
 intro pos pins s σ H Q I h;rw [hs];show wpAny _ _ (spliced ((false,eval e X.env) :: backTo pos (starEach es X.env))) _ _ s;refine Calls.spliced_cons (thn (ha pins s σ H _ I h) fun u s1 hZ1=>?_);obtain ⟨x,H1,I1,r1,q1⟩:=hZ1;exact thn (hr pos pins s1 σ H1 _ I1 q1) fun us s2 ⟨xs,H2,I2,r2,q2⟩=>⟨x :: xs,H2,I2,.cons r1 r2,q2⟩
noncomputable def OO (t:TA):TE:=fun σ H Q=>t σ H fun xs H1=>xs.length ≤ sizeLine∧∀ p,H1 p=none→Q (.ref p) (upd H1 p (.tup xs))
noncomputable def AO (t:TA):TE:=fun σ H Q=>t σ H fun xs H1=>xs.length ≤ sizeLine∧∀ p,H1 p=none→Q (.ref p) (upd H1 p (.lst xs))
theorem Ec {x1} (h:PA X es t):PE X (.Tuple es x1 pos) (OO t):=by
 intro pins s σ H Q I hq;refine wpAny_Tuple_spliced (thn (h pos pins s σ H _ I hq) fun us s1 ⟨xs,H1,I1,r,z,q⟩=>⟨by rw [← r.length];exact z,?_⟩);have hf:H1 s1.heap.objs.size=none:=I1.hok.fresh (Nat.le_refl _);refine ⟨.ref s1.heap.objs.size,upd H1 s1.heap.objs.size (.tup xs),I1.laid (t':=s1.toks) (fun b u e=>Heap.get?_push_of_some _ e) (Nat.le_refl _) ?_,rfl,q _ hf⟩;exact ⟨⟨z,_,Heap.get?_push_size _ rfl,rfl⟩,us,r,⟨_,Heap.get?_push_size _ rfl,rfl,_,rfl⟩⟩
theorem wf (h:PA X es t):PE X (.List es pos) (AO t):=by
 intro pins s σ H Q I hq;refine wpAny_List_spliced (thn (h pos pins s σ H _ I hq) fun us s1 ⟨xs,H1,I1,r,z,q⟩=>⟨by rw [← r.length];exact z,?_⟩);have hf:H1 s1.heap.objs.size=none:=I1.hok.fresh (Nat.le_refl _);refine ⟨.ref s1.heap.objs.size,upd H1 s1.heap.objs.size (.lst xs),I1.laid (t':=s1.toks) (fun b u e=>Heap.get?_push_of_some _ e) (Nat.le_refl _) ?_,rfl,q _ hf⟩;exact ⟨z,us,0,r,Heap.get?_push_size _ rfl⟩
end
noncomputable abbrev Sp:=List V→Hp→VK→XK→Prop
noncomputable abbrev CXT:=List Env→Hp→Shared→XK→Value→Shared→Prop
structure BE (P:Program) (w:World) (K:PySem.W.Frag) (mg:Str→Option Value) (base:Heap) (A:Around) (outer:List Env) (s:Shared) (H:Hp):Prop where
 frames:A.frames=some outer
 mod:Mod K mg base
 bs:∀ b o,base.get? b=some o→s.heap.get? b=some o∧H b=none
 bsz:base.objs.size ≤ s.heap.objs.size
 funs:s.heap.FunFrames base outer
 frf:∀ b ∈ frs outer,H b=none
 hok:HOk P w H s.heap
 bare:AllBare s.gens
noncomputable def CE (outer:List Env) (P:Program) (w:World) (H:Hp) (s:Shared) (Q:VK) (u:Value) (s':Shared):Prop:=
 ∃ v H',s'.os=s.os∧AllBare s'.gens∧Un (frs outer) [] H H' s.heap s'.heap∧HOk P w H' s'.heap∧Bd v u∧Q v H'
noncomputable def CR (CX:CXT) (outer:List Env) (P:Program) (w:World) (H:Hp) (s:Shared) (Q:VK) (E:XK) (r:Result) (s':Shared):Prop:=
 match r with
 | .ok (.ret u)=>CE outer P w H s Q u s'
 | .ok _=>False
 | .error e=>CX outer H s E e s'
structure Rb (P:Program) (w:World) (K:PySem.W.Frag) (mg:Str→Option Value) (base:Heap) (CX:CXT) (k:Nat) (f:Addr) (fd:FuncData) (ps:List Str) (sp:Sp):Prop where
 len:∀ vs H Q E,sp vs H Q E→vs.length=ps.length
 run:∀ (A:Around) (outer:List Env) (s:Shared) (H:Hp) (args:Args) (us:List Value) (vs:List V) (Q:VK) (E:XK),Gj k A→BE P w K mg base A outer s H→BindsTo s fd args (ps.zip us)→md vs us→sp vs H Q E →
  codeAny (model P w) A (.call (.ref f) args) (CR CX outer P w H s Q E) s
theorem Rb.mono {P:Program} {w:World} {K:PySem.W.Frag} {mg:Str→Option Value} {base:Heap} {CX:CXT} {j k:Nat} {f:Addr} {fd:FuncData} {ps:List Str} {sp:Sp} (F:Rb P w K mg base CX j f fd ps sp) (h:j ≤ k) :
  Rb P w K mg base CX k f fd ps sp:=⟨F.len,fun A outer s H args us vs Q E hr=>F.run A outer s H args us vs Q E (hr.mono h)⟩
theorem Rb.imp {P:Program} {w:World} {K:PySem.W.Frag} {mg:Str→Option Value} {base:Heap} {CX:CXT} {k:Nat} {f:Addr} {fd:FuncData} {ps:List Str} {sp sp':Sp} (F:Rb P w K mg base CX k f fd ps sp)
  (h:∀ vs H Q E,sp' vs H Q E→sp vs H Q E):Rb P w K mg base CX k f fd ps sp':=
 ⟨fun vs H Q E q=>F.len vs H Q E (h _ _ _ _ q),fun A outer s H args us vs Q E hr he hb hv hs=>F.run A outer s H args us vs Q E hr he hb hv (h _ _ _ _ hs)⟩
theorem BE.make {P:Program} {w:World} {K:PySem.W.Frag} {mg:Str→Option Value} {base:Heap} {A:Around} {outer:List Env} {s:Shared} {H:Hp} (e:BE P w K mg base A outer s H) (C:Addr) (us:List Value) (kw:List (Str × Value)) :
  BE P w K mg base (A.under (.builtin "type.__call__" ⟨.ref C :: us,kw⟩)) outer s H:=⟨by first | exact e.frames | (simpa [Around.under,Code.envs,Code.isFrame,pushEnvs] using e.frames),e.mod,e.bs,e.bsz,e.funs,e.frf,e.hok,e.bare⟩
theorem BE.in1 {P:Program} {w:World} {K:PySem.W.Frag} {mg:Str→Option Value} {base:Heap} {A:Around} {outer:List Env} {s:Shared} {H:Hp} (e:BE P w K mg base A outer s H) :
  BE P w K mg base A.in1 outer s H:=⟨e.frames,e.mod,e.bs,e.bsz,e.funs,e.frf,e.hok,e.bare⟩
section
variable {X:Cx} {pins:List (Addr × Obj)} {σ:St} {H:Hp} {s s':Shared}
theorem Inv.env0 (I:Inv X pins σ H s):BE X.prog X.w X.K X.mg X.base X.A X.stack s H:=
 ⟨I.ok.frames,I.ok.mod,I.bs,Nat.le_trans I.ok.bsz I.sz,I.stack,I.stkFree,I.hok,I.bare⟩
theorem Inv.after {Q:VK} {u:Value} (I:Inv X pins σ H s) (h:CE X.stack X.prog X.w H s Q u s'):EP X pins σ Q u s':=by
 obtain ⟨v,H',os,bare,un,hok,r,q⟩:=h;obtain ⟨hh,g,d,t,os'⟩:=s';obtain rfl:os'=s.os:=os;exact ⟨v,H',I.call (h':=hh) (g':=g) (d':=d) (t':=t) (ch:=[]) un hok bare (fun b z=>absurd z (by simp)),r,q⟩
end
noncomputable def iH (sp:Sp) (dvs:List V) (E:XK) (t:TA):TE:=fun σ H Q=>t σ H fun vs H1=>sp (vs ++ dvs) H1 Q E
noncomputable def NJ (C:Addr) (m:Str) (sp:Sp) (dvs:List V) (E:XK) (ta:TE) (t:TA):TE:=fun σ H Q=>ta σ H fun x H1=>mh x fun a=>∃ dx fs,H1 a=some (.ins C dx fs)∧fs.lookup m=none ∧
 t σ H1 fun vs H2=>sp (x :: (vs ++ dvs)) H2 Q E
noncomputable def tL (C:Addr) (sp:Sp) (dvs:List V) (E:XK) (t:TA):TE:=fun σ H Q=>t σ H fun vs H1=>∀ x dx,H1 x=none→H1 dx=none→dx ≠ x →
 sp (.ref x :: (vs ++ dvs)) (upd (upd H1 dx (.own x)) x (.ins C dx [])) (fun v H2=>v=.non∧Q (.ref x) H2) E
noncomputable def lc (K:PySem.W.Frag) (fd:FuncData) (ps:List Str) (ds:List Value):Prop:=
 ∀ (s:Shared) (us:List Value),K.In s.heap→(us ++ ds).length=ps.length→BindsTo s fd ⟨us,[]⟩ (ps.zip (us ++ ds))
theorem lc.all {K:PySem.W.Frag} {fd:FuncData} {ps:List Str} (h:∀ us:List Value,us.length=ps.length→bindArgs fd ⟨us,[]⟩=pure (ps.zip us)):lc K fd ps []:=fun s us _ hl=>by
 rw [List.append_nil] at hl ⊢;exact .of_eq (h us hl)
noncomputable def Zm (CX:CXT) (X:Cx) (E:XK):Prop:=∀ (pins:List (Addr × Obj)) (σ:St) (H:Hp) (s:Shared) (e:Value) (s':Shared),Inv X pins σ H s→CX X.stack H s E e s'→X.xe e s'
section
variable {X:Cx} {CX:CXT} {k:Nat} {f C:Addr} {fd:FuncData} {ps:List Str} {sp:Sp} {dvs:List V} {ds:List Value} {E:XK} {x m:Str} {p pos apos:Pos} {e o:Expr} {es:List Expr} {ta:TE} {t:TA}
theorem yv {pins:List (Addr × Obj)} {σ:St} {H:Hp} {s:Shared} {Q:VK} {us:List Value} {vs:List V} (F:Rb X.prog X.w X.K X.mg X.base CX k f fd ps sp) (hr:Gj k X.A) (hb:lc X.K fd ps ds) (hd:md dvs ds) (hx:Zm CX X E)
  (I:Inv X pins σ H s) (r:md vs us) (h:sp (vs ++ dvs) H Q E):wpAny (model X.prog X.w) X.A (call (.ref f) us) (EP X pins σ Q) X.xe s:=by
 have r2:md (vs ++ dvs) (us ++ ds):=r.append hd;have hl:(us ++ ds).length=ps.length:=by rw [← r2.length];exact F.len _ _ _ _ h
 refine wpAny_call (codeAny_mono (F.run X.A X.stack s H ⟨us,[]⟩ (us ++ ds) (vs ++ dvs) Q E hr I.env0 (hb s us I.kIn hl) r2 h) fun r s' hq=>?_);cases r with
 | error e=>exact hx pins σ H s e s' I hq
 | ok fl=>
  cases fl with
  | ret u=>exact I.after hq
  | next=>exact False.elim hq
  | brk=>exact False.elim hq
  | cont=>exact False.elim hq
theorem IK (F:Rb X.prog X.w X.K X.mg X.base CX k f fd ps sp) (hr:Gj k X.A) (hg:Gl X x) (hm:X.mg x=some (.ref f)) (hk:PySem.W.keepIn X.K (.ref f)=true) (hb:lc X.K fd ps ds) (hd:md dvs ds) (hx:Zm CX X E)
  (ha:PA X (e :: es) t) (hdb:(x == ("__debug__" : Str))=false:=by decide) (he:starEach (e :: es) X.env=(false,eval e X.env) :: starEach es X.env:=by rfl) (hpl:(backTo pos (starEach es X.env)).any (·.1)=false:=by rfl) :
  PE X (.Call (.Name x p) (e :: es) [] pos) (iH sp dvs E t):=by
 intro pins s σ H Q I h;refine wpAny_Call_Name_kw (Jt I hg hm ?_ hdb);refine PySem.W.callWith_K (h₀:=X.base) I.ok.mod.kin hk (thn (ha pos pins s σ H _ I h) fun us s1 ⟨vs,H1,I1,r,q⟩=>⟨I1.kIn,?_⟩) he hpl;exact yv F hr hb hd hx I1 r q
theorem Ae {pl:Sem Bool} (he:PE X o ta) (c:Cls X.K C) (hm:Nt X.K C m f) (F:Rb X.prog X.w X.K X.mg X.base CX k f fd ps sp) (hr:Gj k X.A) (hb:lc X.K fd ps ds) (hd:md dvs ds) (hx:Zm CX X E) (ha:PA X (e :: es) t)
  (hst:starEach (e :: es) X.env=(false,eval e X.env) :: starEach es X.env:=by rfl) (hpl:(backTo pos (starEach es X.env)).any (·.1)=false:=by rfl)
  (ht:eval (.Call (.Attribute o m apos) (e :: es) [] pos) X.env=(do
   let ov ← eval o X.env
   standAt apos.atName
   let (f,first) ← holding [ov] (getMethod ov m pl)
   callWith pos f first (backTo pos (starEach (e :: es) X.env)) (backToKw pos (keywordEach [] X.env))):=by rfl) :
  PE X (.Call (.Attribute o m apos) (e :: es) [] pos) (NJ C m sp dvs E ta t):=by
 intro pins s σ H Q I h;refine PySem.W.methodCall_KW (pl:=pl) (thn (he pins s σ H _ I h) fun u s1 hZ1=>?_) ht;obtain ⟨x,H1,I1,rx,zq⟩:=hZ1;obtain ⟨a,ex,dx,fs,ea,l,q⟩:=mh.out zq;subst ex;obtain rfl:u=Value.ref a:=rx;refine Fn I1 ea c hm l ?_;refine PySem.W.callWith_K (first:=[.ref a]) (h₀:=X.base) I.ok.mod.kin hm.kp (thn (ha pos pins s1 σ H1 _ I1 q) fun us s2 ⟨vs,H2,I2,r,q2⟩=>⟨I2.kIn,?_⟩) hst hpl;exact yv (us:=.ref a :: us) (vs:=.ref a :: vs) F hr hb hd hx I2 (.cons rfl r) q2
theorem dj {pl:Sem Bool} (he:PE X o ta) (c:Cls X.K C) (hm:Nt X.K C m f) (F:Rb X.prog X.w X.K X.mg X.base CX k f fd ps sp) (hr:Gj k X.A) (hb:lc X.K fd ps ds) (hd:md dvs ds) (hx:Zm CX X E)
  (ht:eval (.Call (.Attribute o m apos) [] [] pos) X.env=(do
   let ov ← eval o X.env
   standAt apos.atName
   let (f,first) ← holding [ov] (getMethod ov m pl)
   callWith pos f first (backTo pos (starEach [] X.env)) (backToKw pos (keywordEach [] X.env))):=by rfl) :
  PE X (.Call (.Attribute o m apos) [] [] pos) (NJ C m sp dvs E ta gN):=by
 intro pins s σ H Q I h;refine PySem.W.methodCall_KW (pl:=pl) (thn (he pins s σ H _ I h) fun u s1 hZ1=>?_) ht;obtain ⟨x,H1,I1,rx,zq⟩:=hZ1;obtain ⟨a,ex,dx,fs,ea,l,q⟩:=mh.out zq;subst ex;obtain rfl:u=Value.ref a:=rx;refine Fn I1 ea c hm l ?_;exact PySem.W.callWith_K0 (first:=[.ref a]) I1.kIn hm.kp (yv (us:=[.ref a]) (vs:=[.ref a]) F hr hb hd hx I1 (.cons rfl .nil) q)
structure Mk (K:PySem.W.Frag) (C f:Addr):Prop where
 makes:PySem.W.makesIn K C=true
 init:PySem.W.findIn K (.ref C) "__init__"=some (some (.ref f))
 fn:PySem.W.isFn K (.ref f)=true
 kp:PySem.W.keepIn K (.ref C)=true
theorem aG {pins:List (Addr × Obj)} {σ:St} {H:Hp} {s:Shared} {Q:VK} {us:List Value} {vs:List V} (M:Mk X.K C f) (F:Rb X.prog X.w X.K X.mg X.base CX k f fd ps sp) (hr:Gj (k + 1) X.A) (hb:lc X.K fd ps ds) (hd:md dvs ds)
  (hx:Zm CX X E) (I:Inv X pins σ H s) (r:md vs us)
  (h:∀ x dx,H x=none→H dx=none→dx ≠ x→sp (.ref x :: (vs ++ dvs)) (upd (upd H dx (.own x)) x (.ins C dx [])) (fun v H2=>v=.non∧Q (.ref x) H2) E) :
  wpAny (model X.prog X.w) X.A (call (.ref C) us) (EP X pins σ Q) X.xe s:=by
 have hq:=h (s.heap.objs.size + 1) s.heap.objs.size (I.hok.fresh (Nat.le_succ _)) (I.hok.fresh (Nat.le_refl _)) (Nat.ne_of_lt (Nat.lt_succ_self _));have I2:=Inv.made (C:=C) I;have r2:md (V.ref (s.heap.objs.size + 1) :: (vs ++ dvs)) (Value.ref (s.heap.objs.size + 1) :: (us ++ ds)):=.cons rfl (r.append hd);have hl:(Value.ref (s.heap.objs.size + 1) :: us ++ ds).length=ps.length:=by
  have e:=r2.length;rw [F.len _ _ _ _ hq] at e;exact e.symm
 refine wpAny_call (GH (f:=f) I.kIn M.makes M.init (beq_iff_eq.mp M.fn) (codeAny_mono (F.run _ X.stack _ _ ⟨Value.ref (s.heap.objs.size + 1) :: us,[]⟩ (Value.ref (s.heap.objs.size + 1) :: (us ++ ds)) _ _ E (hr.make C us [])
  (I2.env0.make C us []) (hb _ (Value.ref (s.heap.objs.size + 1) :: us) I2.kIn hl) r2 hq) fun r s' hq'=>?_))
 cases r with
 | error e=>exact hx pins σ _ _ e s' I2 hq'
 | ok fl=>
  cases fl with
  | ret u=>
   obtain ⟨v,H',I3,rv,ev,q3⟩:=I2.after hq';subst ev;exact ⟨rv,⟨V.ref (s.heap.objs.size + 1),H',I3,rfl,q3⟩⟩
  | next=>exact False.elim hq'
  | brk=>exact False.elim hq'
  | cont=>exact False.elim hq'
theorem fk (M:Mk X.K C f) (F:Rb X.prog X.w X.K X.mg X.base CX k f fd ps sp) (hr:Gj (k + 1) X.A) (hg:Gl X x) (hm:X.mg x=some (.ref C)) (hb:lc X.K fd ps ds) (hd:md dvs ds) (hx:Zm CX X E)
  (ha:PA X (e :: es) t) (hdb:(x == ("__debug__" : Str))=false:=by decide) (he:starEach (e :: es) X.env=(false,eval e X.env) :: starEach es X.env:=by rfl) (hpl:(backTo pos (starEach es X.env)).any (·.1)=false:=by rfl) :
  PE X (.Call (.Name x p) (e :: es) [] pos) (tL C sp dvs E t):=by
 intro pins s σ H Q I h;refine wpAny_Call_Name_kw (Jt I hg hm ?_ hdb);refine PySem.W.callWith_K (h₀:=X.base) I.ok.mod.kin M.kp (thn (ha pos pins s σ H _ I h) fun us s1 ⟨vs,H1,I1,r,q⟩=>⟨I1.kIn,?_⟩) he hpl;exact aG M F hr hb hd hx I1 r q
end
section
variable {X:Cx} {CX:CXT} {k:Nat} {f C:Addr} {fd:FuncData} {ps ks:List Str} {sp:Sp} {E:XK} {x m:Str} {p pos apos kpos:Pos} {e o:Expr} {es:List Expr} {kws:List Keyword} {te ta:TE} {t tk:TA} {nm:Option Str}
structure aP (K:PySem.W.Frag) (fd:FuncData) (ps ks:List Str) (g:List Value→List Value→List Value) (gV:List V→List V→List V):Prop where
 to:∀ (s:Shared) (us ws:List Value),K.In s.heap→(g us ws).length=ps.length→BindsTo s fd ⟨us,ks.zip ws⟩ (ps.zip (g us ws))
 rel:∀ {vs:List V} {us:List Value} {zs:List V} {ws:List Value},md vs us→md zs ws→md (gV vs zs) (g us ws)
variable {g:List Value→List Value→List Value} {gV:List V→List V→List V}
end
structure Fb (N P:List Str) (sc:Scope):Prop where
 kind:sc.kind=.function
 co:sc.isCoroutine=false
 gen:sc.isGenerator=false
 nd:N.Nodup
 pre:N.take P.length=P
 par:∀ x ∈ P,sc.names.lookup x=some .local∨sc.names.lookup x=some .cell
 nofree:∀ y ∈ sc.names,y.2 ≠ .free
theorem Vu {kindOf:Str→Option NameKind} {x:Str}:∀ {binds:List (Str × Value)} {m:Str→Option Value},(∀ v,(x,v) ∉ binds)→bindL kindOf binds m x=m x
 | [],_,_=>rfl
 | (n,v) :: r,m,h=>by
  unfold bindL;rw [Vu fun w hw=>h w (List.mem_cons_of_mem _ hw)];split
  ·have:x ≠ n:=by rintro rfl;exact h v List.mem_cons_self
   simp [this]
  ·rfl
theorem Ru {kindOf:Str→Option NameKind} {x:Str}:∀ {binds:List (Str × Value)} {m:Str→Option Value},(∀ v,(x,v) ∉ binds)→bindC kindOf binds m x=m x
 | [],_,_=>rfl
 | (n,v) :: r,m,h=>by
  unfold bindC;rw [Ru fun w hw=>h w (List.mem_cons_of_mem _ hw)];split
  ·rfl
  ·have:x ≠ n:=by rintro rfl;exact h v List.mem_cons_self
   simp [this]
theorem Bv {kindOf:Str→Option NameKind} {x:Str} {v:Value}:∀ {P:List Str} {vs:List Value} {i:Nat} {m:Str→Option Value},P.Nodup→P[i]? = some x→vs[i]? = some v→kindOf x=some .local →
  bindL kindOf (P.zip vs) m x=some v
 | [],_,_,_,_,h,_,_=>by simp at h
 | _ :: _,[],_,_,_,_,h,_=>by simp at h
 | p :: P,w :: vs,0,m,nd,h1,h2,hk=>by
  simp at h1 h2;subst h1;subst h2;show bindL kindOf ((p,w) :: P.zip vs) m p=_;unfold bindL;rw [Vu fun v hv=>(List.nodup_cons.mp nd).1 (List.of_mem_zip hv).1,if_pos hk];simp
 | p :: P,w :: vs,i + 1,m,nd,h1,h2,hk=>by
  show bindL kindOf ((p,w) :: P.zip vs) m x=_;unfold bindL;exact Bv (i:=i) (List.nodup_cons.mp nd).2 (by simpa using h1) (by simpa using h2) hk
theorem Xu {kindOf:Str→Option NameKind} {x:Str} {v:Value}:∀ {P:List Str} {vs:List Value} {i:Nat} {m:Str→Option Value},P.Nodup→P[i]? = some x→vs[i]? = some v→kindOf x ≠ some .local →
  bindC kindOf (P.zip vs) m x=some v
 | [],_,_,_,_,h,_,_=>by simp at h
 | _ :: _,[],_,_,_,_,h,_=>by simp at h
 | p :: P,w :: vs,0,m,nd,h1,h2,hk=>by
  simp at h1 h2;subst h1;subst h2;show bindC kindOf ((p,w) :: P.zip vs) m p=_;unfold bindC;rw [Ru fun v hv=>(List.nodup_cons.mp nd).1 (List.of_mem_zip hv).1,if_neg hk];simp
 | p :: P,w :: vs,i + 1,m,nd,h1,h2,hk=>by
  show bindC kindOf ((p,w) :: P.zip vs) m x=_;unfold bindC;exact Xu (i:=i) (List.nodup_cons.mp nd).2 (by simpa using h1) (by simpa using h2) hk
noncomputable def start (N:List Str) (vs:List V):St:=vs.map some ++ List.replicate (N.length - vs.length) none
noncomputable def mK (CX:CXT) (P:Program) (w:World) (K:PySem.W.Frag) (mg:Str→Option Value) (base:Heap) (N:List Str) (qual:Str) (scope:Scope) (f:Addr) (cd:Value) (A:Around) (outer:List Env) (s:Shared) (H:Hp) (E:XK):Cx where
 prog:=P
 w:=w
 K:=K
 mg:=mg
 base:=base
 A:=A.deeper (envOfC qual scope s.heap.objs.size f cd)
 N:=N
 s₀:=s
 H₀:=H
 env:=envOfC qual scope s.heap.objs.size f cd
 outer:=outer
 stack:=envOfC qual scope s.heap.objs.size f cd :: outer
 ex:=[]
 calm:=true
 fn:=fun _=>true
 pn:=[]
 xe:=fun e s'=>wpAny (model P w) (A.deeper (envOfC qual scope s.heap.objs.size f cd)) (leaving (envOfC qual scope s.heap.objs.size f cd) e) (fun _ s''=>CX outer H s E e s'') (fun e' s''=>CX outer H s E e' s'') s'
theorem Ky {sc:Scope} {n:Nat} {x:Str} (h:sc.names.lookup x=some .cell):∃ c,(cellsFrom n sc.names []).lookup x=some c:=by
 have q:=PySem.W.cellsFrom_some sc.names n [] (.inl h);exact Option.isSome_iff_exists.mp q
theorem QC {CX:CXT} {P:Program} {w:World} {K:PySem.W.Frag} {mg:Str→Option Value} {base:Heap} {N ps:List Str} {qual:Str} {scope:Scope} {f:Addr} {cd:Value} {A:Around} {outer:List Env} {s s1:Shared} {H:Hp} {E:XK} {us:List Value} {vs:List V}
  (S:Fb N ps scope) (hd:A.handled=none) (e0:BE P w K mg base A outer s H) (hl:vs.length=ps.length) (r:md vs us)
  (x:InCallC s s.heap.objs.size (bindL (envOfC qual scope s.heap.objs.size f cd).kindOf (ps.zip us) fun _=>none) (cellsFrom (s.heap.objs.size + 1) scope.names []) (bindC (envOfC qual scope s.heap.objs.size f cd).kindOf (ps.zip us) fun _=>none) s1) :
  Inv (mK CX P w K mg base N qual scope f cd A outer s H E) [] (start N vs) H s1:=by
 have hpl:ps.length ≤ N.length:=by have:=congrArg List.length S.pre;rw [List.length_take] at this;omega
 obtain ⟨h1,tk,rfl,hk⟩:=x.done;have noA:∀ b:Addr,b ∉ (mK CX P w K mg base N qual scope f cd A outer s H E).ex:=fun b z=>absurd (show b ∈ ([]:List Addr) from z) (by simp)
 refine ⟨⟨e0.mod,S.kind,rfl,rfl,Nat.le_refl _,fun y z c h1 h2=>?_,fun y hy=>?_,fun y c _ h=>?_,fun _=>hd,Around.frames_deeper e0.frames,.inr ⟨rfl,rfl⟩,fun b z=>absurd z (noA b),e0.bs,e0.bsz,fun b _ _=>noA b,fun b z=>absurd z (noA b),e0.funs,e0.frf⟩,
  rfl,e0.bare,Un.kept hk,⟨_,x.toInCall.ns,fun i y v h1 h2 h3=>?_⟩,fun y c h=>⟨_,x.cell y c h⟩,e0.hok.fresh (Nat.le_refl _),fun y c h=>?_,fun p hp=>absurd (show p ∈ ([]:List (Addr × Obj)) from hp) (by simp),e0.hok.kept hk,?_⟩
 ·exact name_of_addr x.apart (PySem.mem_of_lookup h1) (PySem.mem_of_lookup h2)
 ·have hy:scope.names.lookup y=some .cell∨scope.names.lookup y=some .free:=hy;rcases hy with hy | hy
  ·exact Ky hy
  ·exact absurd rfl (S.nofree _ (PySem.mem_of_lookup hy))
 ·exact Nat.le_of_lt (x.above y c (PySem.mem_of_lookup h))
 ·have hi:i < vs.length:=by
   unfold start at h2;by_cases hi:i < vs.length
   ·exact hi
   ·rw [List.getElem?_append_right (by simpa using hi)] at h2;rw [List.getElem?_replicate] at h2;split at h2 <;> cases h2
  have ha:vs[i]? = some v:=by
   unfold start at h2;rw [List.getElem?_append_left (by simpa using hi),List.getElem?_map] at h2;cases e:vs[i]? with
   | none=>rw [e] at h2;cases h2
   | some a=>rw [e] at h2;cases h2;rfl
  obtain ⟨u,hu,rv⟩:=r.get ha;have hp:ps[i]? = some y:=by
   rw [← S.pre,List.getElem?_take_of_lt (by omega)];exact h1
  have ndP:ps.Nodup:=by rw [← S.pre];exact S.nd.sublist (List.take_sublist _ _)
  refine ⟨u,rv,?_⟩;rcases S.par y (List.mem_of_getElem? hp) with k | k
  ·exact .inl ⟨k,Bv ndP hp hu k⟩
  ·obtain ⟨c,e⟩:=Ky (n:=s.heap.objs.size + 1) k;refine .inr ⟨.inl k,c,e,?_⟩;have q:=x.cell y c e;rw [Xu ndP hp hu (by show scope.names.lookup y ≠ _;rw [k];decide)] at q;exact q
 ·exact e0.hok.fresh (Nat.le_of_lt (x.above y c (PySem.mem_of_lookup h)))
 ·unfold start;show _=N.length;rw [List.length_append,List.length_map,List.length_replicate];omega
theorem dO {CX:CXT} {P:Program} {w:World} {K:PySem.W.Frag} {mg:Str→Option Value} {base:Heap} {k:Nat} {f:Addr} {name qual:Str} {params:Arguments} {body:List Stmt} {scope:Scope} {dV kV doc pm cdv ct oc:Value} {an od:Option Addr}
  {osl:Array (Option Value)} {N ps:List Str} {sp:Sp} (lk:K.lookup f=some ⟨oc,od,.func (PySem.W.fnOf name qual params body scope dV kV doc pm an cdv ct),osl⟩) (hcd:PySem.W.codeIn K cdv qual=true) (S:Fb N ps scope)
  (len:∀ vs H Q E,sp vs H Q E→vs.length=ps.length)
  (hbody:∀ (A:Around) (outer:List Env) (s:Shared) (H:Hp) (vs:List V) (Q:VK) (E:XK),Gj k (A.deeper (envOfC qual scope s.heap.objs.size f cdv))→sp vs H Q E →
   ∃ t,PSs (mK CX P w K mg base N qual scope f cdv A outer s H E) body t∧t { nx:=fun _ H'=>Q .non H',rt:=Q } (start N vs) H) :
  Rb P w K mg base CX (k + 1) f (PySem.W.fnOf name qual params body scope dV kV doc pm an cdv ct) ps sp:=by
 refine ⟨len,fun A outer s H args us vs Q E hr e0 hb r hsp=>?_⟩;have hl:=len _ _ _ _ hsp;have KX:K.In s.heap:=e0.mod.kin.keeps fun b o e=>(e0.bs b o e).1
 have lim:s.heap.NoLimit:=e0.mod.nolimit.keeps fun b o e=>(e0.bs b o e).1
 have hkind:∀ y ∈ ps.zip us,scope.names.lookup y.1=some .local∨(scope.names.lookup y.1=some .cell∧((cellsFrom (s.heap.objs.size + 1) scope.names []).lookup y.1).isSome=true):=fun ⟨n,v⟩ hy=>by
  rcases S.par n (List.of_mem_zip hy).1 with q | q
  ·exact .inl q
  ·exact .inr ⟨q,PySem.W.cellsFrom_some _ _ _ (.inl q)⟩
 refine codeAny_call_function hr.depth (KX _ _ lk) rfl S.co S.gen rfl (PySem.W.codeRec_of KX hcd) (hb _ _ _ _ ?_);refine wpAny_newFunctionEnv_cells S.kind hkind fun env he s1 x=>?_
 subst he;refine ⟨lim.keeps x.toInCall.keep,codeAny_func ?_⟩;obtain ⟨t,ht,hq⟩:=hbody A outer s H vs Q E (hr.deeper _) hsp;have I:Inv (mK CX P w K mg base N qual scope f cdv A outer s H E) [] (start N vs) H s1:=QC S hr.hd e0 hl r x;refine wpAny_mono (ht [] s1 (start N vs) H _ I hq) (fun fl s' hs=>?_) fun e s' hs=>hs
 have fin:∀ {σ':St} {H':Hp} {v:V} {u:Value},Inv (mK CX P w K mg base N qual scope f cdv A outer s H E) [] σ' H' s'→Bd v u→Q v H'→CE outer P w H s Q u s':=
  fun {σ' H' v u} J rv q=>⟨v,H',J.os,J.bare,J.base,J.hok,rv,q⟩
 cases fl with
 | ret u=>
  obtain ⟨v,σ',H',J,rv,q⟩:=hs;exact fin J rv q
 | next=>
  obtain ⟨σ',H',J,q⟩:=hs;exact fin (v:=V.non) (u:=Value.none) J rfl q
 | brk=>
  obtain ⟨_,_,_,q⟩:=hs;exact False.elim q
 | cont=>
  obtain ⟨_,_,_,q⟩:=hs;exact False.elim q
end L2
namespace L2
open PySem PySem.Spec PyProof.Rows
section
variable {X:Cx} {x:Str} {p pos:Pos} {e:Expr} {es:List Expr} {t:TA} {id T:String} {r:List V→Hp→VK→Prop}
noncomputable def tCB (r:List V→Hp→VK→Prop) (t:TA):TE:=fun σ H Q=>t σ H fun vs H1=>r vs H1 Q
theorem qc (hc:zi X (.builtin id) r) (hg:Gl X x) (hm:X.mg x=none) (hv:bootBuiltins x=some (.builtin id)) (ha:PA X (e :: es) t) (hn:x ≠ "__name__" := by decide) (hdb:(x == ("__debug__" : Str))=false:=by decide)
  (he:starEach (e :: es) X.env=(false,eval e X.env) :: starEach es X.env:=by rfl) (hpl:(backTo pos (starEach es X.env)).any (·.1)=false:=by rfl):PE X (.Call (.Name x p) (e :: es) [] pos) (tCB r t):=by
 intro pins s σ H Q I h;refine wpAny_Call_Name_kw (io I hg hm hv ?_ hn hdb);exact PyProof.Rows.callWith_builtin1 (thn (ha pos pins s σ H _ I h) fun us s1 ⟨vs,H1,I1,r1,q1⟩=>hc pins s1 σ H1 vs us Q I1 r1 q1) he hpl
theorem af (hc:zi X (.type T) r) (hg:Gl X x) (hm:X.mg x=none) (hv:bootBuiltins x=some (.type T)) (ha:PA X (e :: es) t) (hn:x ≠ "__name__" := by decide) (hdb:(x == ("__debug__" : Str))=false:=by decide)
  (he:starEach (e :: es) X.env=(false,eval e X.env) :: starEach es X.env:=by rfl) (hpl:(backTo pos (starEach es X.env)).any (·.1)=false:=by rfl):PE X (.Call (.Name x p) (e :: es) [] pos) (tCB r t):=by
 intro pins s σ H Q I h;refine wpAny_Call_Name_kw (io I hg hm hv ?_ hn hdb);exact PyProof.Rows.callWith_type1 (thn (ha pos pins s σ H _ I h) fun us s1 ⟨vs,H1,I1,r1,q1⟩=>hc pins s1 σ H1 vs us Q I1 r1 q1) he hpl
end
end L2
namespace HT
open PySem PyProof.Rows
section
open PySem.SeqAt
open PySem.AutoSeq1 (wpAny_loadPart')
open PySem.MeetsSeq PySem.MeetsSeq2 PySem.MeetsSeq3
end
section
variable {prog:Program} {w:World} {A:Around} {E:Value→Shared→Prop} {s:Shared}
theorem cat_tup {t b:Addr} {vs ws:List Value} {Q:Value→Shared→Prop} (ht:IsTup s.heap t vs.toArray) (hb:IsTup s.heap b ws.toArray) (hv:vs ≠ [])
  (h1:ws=[]→Q (.ref t) s) (h2:ws ≠ []→Q (.ref s.heap.objs.size) { s with heap:=s.heap.push { cls:=.type "tuple",data:=.seq (vs ++ ws).toArray } })
  (hsz:vs.length + ws.length ≤ sizeLine):wpAny (model prog w) A (binaryOp .Add (.ref t) (.ref b)) Q E s:=by
 obtain ⟨⟨cls,dd,data,sl⟩,ho,hc,n,hd⟩:=id ht;obtain ⟨⟨cls2,dd2,data2,sl2⟩,ho2,hc2,n2,hd2⟩:=id hb;simp only at hc hd hc2 hd2;subst hc hd hc2 hd2;have e:vs.toArray ++ ws.toArray=(vs ++ ws).toArray:=by simp
 by_cases hw:ws=[]
 ·exact concat_meets ⟨_,ho,rfl⟩ ⟨_,ho2,rfl⟩ noFill_tuple_add seq_tuple_add PySem.F.slot_tuple_add PySem.F.entry_tuple_add (PySem.F.args_tuple_add_2 _ _)
   (tuple_addW1 t b vs.toArray ws.toArray n n2 dd dd2 sl sl2 (by simpa using hv) (by simp [hw])) ⟨ho,ho2,h1 hw⟩
 ·refine concat_meets ⟨_,ho,rfl⟩ ⟨_,ho2,rfl⟩ noFill_tuple_add seq_tuple_add PySem.F.slot_tuple_add PySem.F.entry_tuple_add (PySem.F.args_tuple_add_2 _ _)
   (tuple_addW2 t b vs.toArray ws.toArray n n2 dd dd2 sl sl2 (by simpa using hv) (by simpa using hw) (by rw [List.size_toArray,List.size_toArray];exact hsz)) ⟨ho,ho2,?_⟩
  rw [e];exact h2 hw
noncomputable def sIx (n d:Nat):Option Int→Nat
 | none=>d
 | some v=>if v < 0 then (v + (n:Int)).toNat else min v.toNat n
theorem sIx_nat (n d k:Nat):sIx n d (some (k:Int))=min k n:=by
 show (if (k:Int) < 0 then ((k:Int) + (n:Int)).toNat else min (k:Int).toNat n)=min k n;rw [if_neg (by omega),Int.toNat_natCast]
theorem SL (n d:Nat) (hd:d ≤ n) (o:Option Int):sIx n d o ≤ n:=by
 cases o with
 | none=>exact hd
 | some v=>
  show (if v < 0 then (v + (n:Int)).toNat else min v.toNat n) ≤ n;by_cases hv:v < 0
  ·rw [if_pos hv];omega
  ·rw [if_neg hv];exact Nat.min_le_right _ _
theorem NC (v:Int) (n d:Nat):(if v < 0 then max (v + (n:Int)) 0 else min v (n:Int))=((sIx n d (some v):Nat):Int):=by
 show (if v < 0 then max (v + (n:Int)) 0 else min v (n:Int))=(((if v < 0 then (v + (n:Int)).toNat else min v.toNat n):Nat):Int);by_cases hv:v < 0
 ·simp only [if_pos hv];omega
 ·simp only [if_neg hv];omega
theorem dB (lo hi:Option Int) (n:Nat):Builtin.Slice.sliceAdjust lo hi 1 (n:Int)=(((sIx n 0 lo:Nat):Int),((sIx n n hi:Nat):Int)):=by
 have h1:¬ ((1:Int) < 0):=by omega
 unfold Builtin.Slice.sliceAdjust;simp only [h1,if_false];refine Prod.ext ?_ ?_
 ·cases lo with
  | none=>rfl
  | some v=>exact NC v n 0
 ·cases hi with
  | none=>rfl
  | some v=>exact NC v n n
theorem VA (i j:Nat):Builtin.Slice.slicePlaces (i:Int) (j:Int) 1=j - i:=by
 unfold Builtin.Slice.slicePlaces;have h1:(1:Int) > 0:=by omega
 simp only [h1,if_true,Int.ediv_one];split <;> omega
theorem Js {v:Value} {o:Option Int} {Q:Option Int→Shared→Prop} (p:IsPart v o) (h:Q o s):wpAny (model prog w) A (Builtin.Slice.slicePartIndex v) Q E s:=by
 cases p with
 | none=>exact slicePart_none h
 | int i t=>exact slicePart_int h
theorem Co {sl:Addr} {vl vu:Value} {lo hi:Option Int} {n:Nat} {Q:Int × Int × Nat→Shared→Prop} (hs:s.heap.IsSliceOf sl vl vu .none) (pl:IsPart vl lo) (pu:IsPart vu hi)
  (h:Q (((sIx n 0 lo:Nat):Int),1,sIx n n hi - sIx n 0 lo) s):wpAny (model prog w) A (Builtin.Slice.sliceApplied (.ref sl) (pure (n:Int))) Q E s:=by
 obtain ⟨os,hos,hcs,hds⟩:=id hs;unfold Builtin.Slice.sliceApplied Builtin.Slice.sliceFields;refine wpAny_bind (wpAny_bind (wpAny_field hos hds (x:=vl) rfl (wpAny_bind (wpAny_field hos hds (x:=vu) rfl (wpAny_bind (wpAny_field hos hds (x:=.none) rfl (wpAny_pure ?_)))))));refine wpAny_bind (slicePart_none ?_);show wpAny _ _ (if ((1:Int) == 0)=true then _ else _) _ _ s;rw [if_neg (by decide)];refine wpAny_bind (Js pl (wpAny_bind (Js pu (wpAny_bind (wpAny_pure ?_)))));show wpAny _ _ (match Builtin.Slice.sliceAdjust lo hi 1 (n:Int) with | (lo,hi)=>pure (lo,(1:Int),Builtin.Slice.slicePlaces lo hi 1)) _ _ s;rw [dB lo hi n];show wpAny _ _ (pure (((sIx n 0 lo:Nat):Int),(1:Int),Builtin.Slice.slicePlaces ((sIx n 0 lo:Nat):Int) ((sIx n n hi:Nat):Int) 1)) _ _ s;rw [VA];exact wpAny_pure h
theorem xH (xs:Array Value) (i k:Nat):((List.range k).filterMap fun (m:Nat)=>xs[((i:Int) + (m:Int) * 1).toNat]?).toArray=((xs.toList.drop i).take k).toArray:=by
 have e:(fun (m:Nat)=>xs[((i:Int) + (m:Int) * 1).toNat]?)=fun m=>xs[i + m]?:=by
  funext m;have:((i:Int) + (m:Int) * 1).toNat=i + m:=by omega
  rw [this]
 rw [e];have:=pick_run xs i k;rw [List.filterMap_map] at this;have e2:((fun x=>xs[x]?) ∘ fun x=>i + x)=fun m=>xs[i + m]?:=rfl
 rw [e2] at this;rw [this]
theorem getItem_tuple_cut {t sl:Addr} {items:Array Value} {vl vu:Value} {lo hi:Option Int} {Q:Value→Shared→Prop} (ht:IsTup s.heap t items) (hs:s.heap.IsSliceOf sl vl vu .none) (pl:IsPart vl lo) (pu:IsPart vu hi)
  (hw:¬ (sIx items.size 0 lo=0∧sIx items.size items.size hi=items.size))
  (h:Q (.ref s.heap.objs.size) { s with heap:=s.heap.push { cls:=.type "tuple",data:=.seq ((items.toList.drop (sIx items.size 0 lo)).take (sIx items.size items.size hi - sIx items.size 0 lo)).toArray } })
  (hsz:items.size ≤ sizeLine):wpAny (model prog w) A (getItem (.ref t) (.ref sl)) Q E s:=by
 have htake:sizeOk (.seq ((items.toList.drop (sIx items.size 0 lo)).take (sIx items.size items.size hi - sIx items.size 0 lo)).toArray):=by
  show ((items.toList.drop (sIx items.size 0 lo)).take (sIx items.size items.size hi - sIx items.size 0 lo)).toArray.size ≤ sizeLine;rw [List.size_toArray,List.length_take,List.length_drop,Array.length_toList];omega
 have hj:sIx items.size items.size hi ≤ items.size:=SL _ _ (Nat.le_refl _) hi;obtain ⟨os,hos,hcs,hds⟩:=id hs;have hTs:s.TypeIs (.ref sl) "slice" := ⟨os,hos,hcs⟩;unfold getItem
 try with_reducible refine wpAny_holding ?_
 first | refine wpAny_bind (wpAny_pure ?_) | skip
 refine wpAny_bind (wpAny_sequenceKey ht.typeIs (by decide) ?_);refine wpAny_bind (wpAny_callSpecial?_slot (name:=Str.ofString "__getitem__") ht.typeIs PyProof.Rows.slot_tuple_getitem
  (wpAny_call_entry PyProof.Rows.slot_tuple_getitem ht.typeIs entry_tuple_getitem ?_ (args_tuple_getitem _ _)))
 show wpAny _ _ (Builtin.Tuple.tupleItemsOf (.ref t) >>= _) _ _ s;refine wpAny_bind (tupleItemsOf_ ht ?_);refine wpAny_bind (wpAny_typeOf hTs ?_);rw [if_pos (by decide)];refine wpAny_bind (Co hs pl pu ?_);have hno:¬ ((((sIx items.size 0 lo:Nat):Int) == 0 && (1:Int) == 1 && (sIx items.size items.size hi - sIx items.size 0 lo) == items.size)=true):=by
  intro q;rw [Bool.and_eq_true,Bool.and_eq_true] at q;have q1:((sIx items.size 0 lo:Nat):Int)=0:=eq_of_beq q.1.1;have q2:sIx items.size items.size hi - sIx items.size 0 lo=items.size:=eq_of_beq q.2;exact hw ⟨by omega,by omega⟩
 show wpAny _ _ (if (((sIx items.size 0 lo:Nat):Int) == 0 && (1:Int) == 1 && (sIx items.size items.size hi - sIx items.size 0 lo) == items.size)=true then _ else _) _ _ s;rw [if_neg hno,xH]
 first
  | exact wpAny_bind (m:=Builtin.Tuple.tupleExact _) (wpAny_newObj_type (wpAny_pure ⟨_,rfl,wpAny_pure h⟩) htake)
  | exact wpAny_bind (m:=Builtin.Tuple.tupleExact _) (wpAny_newObj_type (wpAny_bind (wpAny_pure (wpAny_pure ⟨_,rfl,wpAny_pure h⟩))) htake)
  | exact wpAny_bind (wpAny_bind (m:=Builtin.Tuple.tupleExact _) (wpAny_newObj_type (wpAny_pure (wpAny_pure ⟨_,rfl,wpAny_pure h⟩)) htake))
  | exact wpAny_bind (wpAny_bind (m:=Builtin.Tuple.tupleExact _) (wpAny_newObj_type (wpAny_pure ⟨_,rfl,wpAny_pure h⟩) htake))
end
end HT
namespace L2
open PySem PySem.Spec PyProof.Rows
noncomputable abbrev TO:=St→Hp→(Option Int→Hp→Prop)→Prop
noncomputable def PO (X:Cx) (e:Option Expr) (t:TO):Prop:=
 ∀ (pins:List (Addr × Obj)) (s:Shared) (σ:St) (H:Hp) (Q:Option Int→Hp→Prop),Inv X pins σ H s→t σ H Q →
  wpAny (model X.prog X.w) X.A (evalPart e X.env) (fun u s'=>∃ o H',Inv X pins σ H' s'∧IsPart u o∧Q o H') X.xe s
noncomputable def rC:TO:=fun _ H Q=>Q none H
noncomputable def yL (t:TE):TO:=fun σ H Q=>t σ H fun x H1=>Fj x fun i=>Q (some i) H1
theorem zA {ns:List Int}:∀ {us:List Value},md (ns.map V.int) us→IntsAre us ns:=by
 induction ns with
 | nil=>intro us r;rw [List.map_nil] at r;cases r;exact .nil
 | cons n ns ih=>
  intro us r;rw [List.map_cons] at r;cases r with
  | cons r1 r2=>
   obtain ⟨t,e⟩:=r1;subst e;exact .cons n t (ih r2)
section
variable {X:Cx} {e:Expr} {te:TE} {lo hi:Option Expr} {tl th:TO} {pos p2:Pos}
theorem ak:PO X none rC:=by
 intro pins s σ H Q I h;rw [evalPart_none];exact wpAny_pure ⟨none,H,I,.none,h⟩
theorem Oh (h:PE X e te):PO X (some e) (yL te):=by
 intro pins s σ H Q I hw;rw [evalPart_some];refine thn (h pins s σ H _ I hw) fun u s1 hZ1=>?_
 obtain ⟨x,H1,I1,r1,q1⟩:=hZ1;obtain ⟨i,rfl,q⟩:=Fj.out q1;obtain ⟨t,rfl⟩:=r1;exact ⟨some i,H1,I1,.int i t,q⟩
noncomputable def SlR (X:Cx) (r:V→Option Int→Option Int→Hp→VK→Prop):Prop:=
 ∀ (pins:List (Addr × Obj)) (s:Shared) (σ:St) (H:Hp) (x:V) (v vl vu:Value) (lo hi:Option Int) (sl:Addr) (Q:VK),Inv X pins σ H s→Bd x v→s.heap.IsSliceOf sl vl vu .none→IsPart vl lo→IsPart vu hi→r x lo hi H Q →
  ∃ T id,typeLookup (.type T) "__getitem__"=pure (some (.builtin id))∧s.TypeIs v T∧wpAny (model X.prog X.w) X.A (getItem v (.ref sl)) (EP X pins σ Q) X.xe s
theorem SlR.or {r r':V→Option Int→Option Int→Hp→VK→Prop} (h:SlR X r) (h':SlR X r'):SlR X (fun x lo hi H Q=>r x lo hi H Q∨r' x lo hi H Q):=by
 intro pins s σ H x v vl vu lo hi sl Q I rx hs pl pu q;rcases q with q | q
 ·exact h pins s σ H x v vl vu lo hi sl Q I rx hs pl pu q
 ·exact h' pins s σ H x v vl vu lo hi sl Q I rx hs pl pu q
noncomputable def tSl (r:V→Option Int→Option Int→Hp→VK→Prop) (te:TE) (tl th:TO):TE:=fun σ H Q=>te σ H fun x H1=>tl σ H1 fun l H2=>th σ H2 fun u H3=>r x l u H3 Q
theorem Fg {r:V→Option Int→Option Int→Hp→VK→Prop} (hr:SlR X r) (he:PE X e te) (hl:PO X lo tl) (hu:PO X hi th):PE X (.Subscript e (.Slice lo hi none p2) pos) (tSl r te tl th):=by
 intro pins s σ H Q I h;refine Subscript_ (thn (he pins s σ H _ I h) fun v s1 hZ1=>?_);obtain ⟨x,H1,I1,r1,q1⟩:=hZ1;refine wpAny_Slice (thn (hl pins s1 σ H1 _ I1 q1) fun vl s2 ⟨l,H2,I2,pl,q2⟩=>thn (hu pins s2 σ H2 _ I2 q2) fun vu s3 hZ1=>?_);obtain ⟨u,H3,I3,pu,q3⟩:=hZ1;rw [evalPart_none];refine wpAny_pure ?_;have I4:Inv X pins σ H3 { s3 with heap:=s3.heap.push { cls:=.type "slice",data:=.fields #[vl,vu,.none] } }:=I3.kept (t':=s3.toks) fun b ob q=>Heap.get?_push_of_some _ q
 obtain ⟨T,id,hT,ht,hg⟩:=hr pins { s3 with heap:=s3.heap.push { cls:=.type "slice",data:=.fields #[vl,vu,.none] } } σ H3 x v vl vu l u s3.heap.objs.size Q I4 r1 (Heap.IsSliceOf.new ..) pl pu q3;show wpAny (model X.prog X.w) X.A (subscriptTail e (.Slice lo hi none p2) v (.ref s3.heap.objs.size)) (EP X pins σ Q) X.xe { s3 with heap:=s3.heap.push { cls:=.type "slice",data:=.fields #[vl,vu,.none] } };exact tail_any (ops:=[.ref s3.heap.objs.size,v]) ht hT hg (by with_unfolding_all rfl)
noncomputable def jw (xs:List V) (lo hi:Option Int):List V:=(xs.drop (HT.sIx xs.length 0 lo)).take (HT.sIx xs.length xs.length hi - HT.sIx xs.length 0 lo)
theorem Tp (xs:List V) (lo hi:Option Int):(jw xs lo hi).length ≤ xs.length:=by
 unfold jw;rw [List.length_take,List.length_drop];omega
noncomputable def kO (K:PySem.W.Frag):V→Option Int→Option Int→Hp→VK→Prop:=fun x lo hi H Q=>∃ a xs,x=.ref a∧SqT K H a xs ∧
 ¬ (HT.sIx xs.length 0 lo=0∧HT.sIx xs.length xs.length hi=xs.length)∧∀ p,H p=none→Q (.ref p) (upd H p (.tup (jw xs lo hi)))
theorem Nu:SlR X (kO X.K):=by
 intro pins s σ H x v vl vu lo hi sl Q I rx hs pl pu h;obtain ⟨a,xs,rfl,hx,hw,q⟩:=h;cases rx;obtain ⟨its,r,ht,hz⟩:=I.tuple hx;have hlen:its.toArray.size=xs.length:=by rw [List.size_toArray];exact r.length.symm
 refine ⟨"tuple",_,PyProof.Rows.slot_tuple_getitem.lookup,ht.typeIs,?_⟩;refine HT.getItem_tuple_cut ht hs pl pu (by rw [hlen];exact hw) ?_ (by rw [hlen];exact hz);rw [hlen];refine ⟨.ref s.heap.objs.size,_,I.laid (t':=s.toks) (o:=.tup (jw xs lo hi)) (fun b ob q=>Heap.get?_push_of_some _ q) (Nat.le_refl _) ?_,rfl,q _ (I.hok.fresh (Nat.le_refl _))⟩;exact ⟨⟨Nat.le_trans (Tp xs lo hi) hz,_,Heap.get?_push_size _ rfl,rfl⟩,_,(r.drop (HT.sIx xs.length 0 lo)).take (HT.sIx xs.length xs.length hi - HT.sIx xs.length 0 lo),IsTup.new _ _⟩
noncomputable def VL (K:PySem.W.Frag):R2:=fun x y H Q=>∃ a b xs ys,x=.ref a∧y=.ref b∧SqT K H a xs∧SqT K H b ys∧xs ≠ []∧xs.length + ys.length ≤ sizeLine ∧
 (ys=[]→Q (.ref a) H)∧(ys ≠ []→∀ p,H p=none→Q (.ref p) (upd H p (.tup (xs ++ ys))))
theorem md.nil_iff {xs:List V} {us:List Value} (r:md xs us):us=[]↔xs=[]:=by
 cases r with
 | nil=>simp
 | cons _ _=>simp
theorem Tw:OpR X (binaryOp .Add) (VL X.K):=by
 intro pins s σ H x y v u Q I rx ry h;obtain ⟨a,b,xs,ys,rfl,rfl,ha,hb,hx,hz,q1,q2⟩:=h;cases rx;cases ry;obtain ⟨its,r1,p1,_⟩:=I.tuple ha;obtain ⟨its2,r2,p2,_⟩:=I.tuple hb;refine HT.cat_tup p1 p2 (fun z=>hx (r1.nil_iff.mp z)) (fun z=>⟨.ref a,H,I,rfl,q1 (r2.nil_iff.mp z)⟩) (fun z=>?_) (by rw [← r1.length,← r2.length];exact hz);refine ⟨.ref s.heap.objs.size,_,I.laid (t':=s.toks) (o:=.tup (xs ++ ys)) (fun b ob q=>Heap.get?_push_of_some _ q) (Nat.le_refl _) ?_,rfl,q2 (fun w=>z (r2.nil_iff.mpr w)) _ (I.hok.fresh (Nat.le_refl _))⟩;exact ⟨⟨by rw [List.length_append];exact hz,_,Heap.get?_push_size _ rfl,rfl⟩,_,r1.append r2,IsTup.new _ _⟩
end
end L2
namespace L2
open PySem PySem.Spec PyProof.Rows
noncomputable def ixN (n:Nat) (i:Int):Option Nat:=if 0 ≤ i then (if i < n then some i.toNat else none) else if -(n:Int) ≤ i then some (i + n).toNat else none
noncomputable def atI {α:Type} (xs:List α) (i:Int):Option α:=(ixN xs.length i).bind fun j=>xs[j]?
theorem rD {n:Nat} {i:Int} {j:Nat} (h:ixN n i=some j):seqIndex? i n=some j∧j < n∧-(n:Int) ≤ i∧i < n:=by
 unfold ixN at h;by_cases h0:0 ≤ i
 ·rw [if_pos h0] at h;by_cases h1:i < n
  ·rw [if_pos h1] at h;have e:i.toNat=j:=Option.some.inj h;exact ⟨by rw [seqIndex_of h0 h1,e],by omega,by omega,h1⟩
  ·rw [if_neg h1] at h;cases h
 ·rw [if_neg h0] at h;by_cases h1:-(n:Int) ≤ i
  ·rw [if_pos h1] at h;have e:(i + n).toNat=j:=Option.some.inj h;exact ⟨by rw [seqIndex_neg (by omega) h1,e],by omega,h1,by omega⟩
  ·rw [if_neg h1] at h;cases h
theorem Ax {α:Type} {xs:List α} {i:Int} {v:α} (h:atI xs i=some v):∃ j,seqIndex? i xs.length=some j∧xs[j]? = some v∧j < xs.length∧-(xs.length:Int) ≤ i∧i < xs.length:=by
 unfold atI at h;cases e:ixN xs.length i with
 | none=>rw [e] at h;cases h
 | some j=>
  rw [e] at h;obtain ⟨h1,h2,h3,h4⟩:=rD e;exact ⟨j,h1,h,h2,h3,h4⟩
theorem Cb {α:Type} {xs:List α} {j:Nat} {v:α} (h:xs[j]? = some v):atI xs (j:Int)=some v:=by
 have hj:j < xs.length:=(List.getElem?_eq_some_iff.mp h).1;have e:ixN xs.length (j:Int)=some j:=by
  unfold ixN;rw [if_pos (by omega),if_pos (by omega)];simp
 unfold atI;rw [e];exact h
noncomputable def TB (b:Expr):Prop:=∀ o i,subscripted b false o i=operate [o,i] (getItem o i)
noncomputable def IxR (X:Cx) (r:R2):Prop:=
 ∀ (value slice:Expr) (pins:List (Addr × Obj)) (s:Shared) (σ:St) (H:Hp) (x y:V) (v u:Value) (Q:VK),Inv X pins σ H s→Bd x v→Bd y u→r x y H Q →
  subscripted slice false v u=operate [v,u] (getItem v u)→wpAny (model X.prog X.w) X.A (subscriptTail value slice v u) (EP X pins σ Q) X.xe s
noncomputable def MtR (X:Cx) (id:String) (r:V→List V→Hp→VK→Prop):Prop:=
 ∀ (pins:List (Addr × Obj)) (s:Shared) (σ:St) (H:Hp) (x:V) (xs:List V) (v:Value) (us:List Value) (Q:VK),Inv X pins σ H s→Bd x v→md xs us→r x xs H Q →
  wpAny (model X.prog X.w) X.A (call (.builtin id) (v :: us)) (EP X pins σ Q) X.xe s
section
variable {X:Cx} {a b:Expr} {ta tb:TE} {pos:Pos}
theorem IxR.or {r r':R2} (h:IxR X r) (h':IxR X r'):IxR X (fun x y H Q=>r x y H Q∨r' x y H Q):=by
 intro value slice pins s σ H x y v u Q I rx ry q hs;rcases q with q | q
 ·exact h value slice pins s σ H x y v u Q I rx ry q hs
 ·exact h' value slice pins s σ H x y v u Q I rx ry q hs
theorem MtR.or {id:String} {r r':V→List V→Hp→VK→Prop} (h:MtR X id r) (h':MtR X id r'):MtR X id (fun x xs H Q=>r x xs H Q∨r' x xs H Q):=by
 intro pins s σ H x xs v us Q I rx rs q;rcases q with q | q
 ·exact h pins s σ H x xs v us Q I rx rs q
 ·exact h' pins s σ H x xs v us Q I rx rs q
theorem WN {r:R2} (hr:IxR X r) (ha:PE X a ta) (hb:PE X b tb) (hs:TB b):PE X (.Subscript a b pos) (tOp r ta tb):=by
 intro pins s σ H Q I h;exact Subscript_ (zN ha hb I h fun v u s2 x y H2 I2 rx ry q=>hr a b pins s2 σ H2 x y v u Q I2 rx ry q (hs _ _))
noncomputable def KO (K:PySem.W.Frag):R2:=fun x y H Q=>mh x fun p=>∃ xs,Fj y fun i=>SqL K H p xs∧∃ v,atI xs i=some v∧Q v H
noncomputable def QO (K:PySem.W.Frag):R2:=fun x y H Q=>mh x fun p=>∃ xs,Fj y fun i=>SqT K H p xs∧∃ v,atI xs i=some v∧Q v H
noncomputable def fO:R2:=fun x y H Q=>∃ z i c,x=.str z∧y=.int i∧z.length ≤ sizeLine∧atI z.cps.toList i=some c∧Q (.str ⟨#[c]⟩) H
theorem Ye:IxR X (KO X.K):=by
 intro value slice pins s σ H x y v u Q I rx ry h hs;obtain ⟨p,rfl,xs,hzz⟩:=mh.out h;obtain ⟨i,rfl,hq,z,he,q⟩:=Fj.out hzz;cases rx;obtain ⟨t,rfl⟩:=ry;obtain ⟨its,r,pl,hz⟩:=I.list hq;obtain ⟨j,h1,h2,h3,h4,h5⟩:=Ax he;obtain ⟨w,ew,rw'⟩:=r.get h2;have hl:=r.length;have hn:=Np;have fin:EP X pins σ Q w s:=⟨z,H,I,rw',q⟩;by_cases h0:0 ≤ i
 ·have hj:i.toNat=j:=by
   rw [seqIndex_of h0 h5] at h1;exact Option.some.inj h1
  exact item_listR pl.isList h0 (by omega) (by rw [hj];simpa using ew) fin hs
 ·have hj:(i + (its.toArray.size:Int)).toNat=j:=by
   rw [seqIndex_neg (by omega) h4] at h1;rw [List.size_toArray,← hl];exact Option.some.inj h1
  exact subscriptTail_builtinR (x:=w) pl.isList.typeIs slot_list_getitem.lookup
   (wpAny_getItem_list_neg (Q:=fun r s'=>r=w∧EP X pins σ Q r s') pl.isList (by omega) (by rw [List.size_toArray] <;> omega) (by omega) (by rw [hj];simpa using ew) ⟨rfl,fin⟩) hs
theorem ac:IxR X (QO X.K):=by
 intro value slice pins s σ H x y v u Q I rx ry h hs;obtain ⟨p,rfl,xs,hzz⟩:=mh.out h;obtain ⟨i,rfl,hq,z,he,q⟩:=Fj.out hzz;cases rx;obtain ⟨t,rfl⟩:=ry;obtain ⟨its,r,pl,hz⟩:=I.tuple hq;obtain ⟨j,h1,h2,h3,h4,h5⟩:=Ax he;obtain ⟨w,ew,rw'⟩:=r.get h2;have hl:=r.length;have hn:=Np;have fin:EP X pins σ Q w s:=⟨z,H,I,rw',q⟩;exact subscriptTail_builtinR (x:=w) pl.typeIs slot_tuple_getitem.lookup
  (getItem_tuple (j:=j) (Q:=fun r s'=>r=w∧EP X pins σ Q r s') pl (by omega) (by omega) (by rw [List.size_toArray,← hl];exact h1) (by simpa using ew) ⟨rfl,fin⟩) hs
theorem uF:IxR X fO:=by
 intro value slice pins s σ H x y v u Q I rx ry h hs;obtain ⟨z,i,c,rfl,rfl,hz,he,q⟩:=h;obtain ⟨t,rfl⟩:=rx;obtain ⟨t',rfl⟩:=ry;obtain ⟨j,h1,h2,h3,h4,h5⟩:=Ax he;have hl:z.cps.toList.length=z.length:=by simp [Str.length]
 rw [hl] at h1 h4 h5;have hn:=Np;exact tail_any (typeIs_str s z t) slot_str_getitem.lookup (getItem_str (c:=c) (by
  have e1:decide (i < -(2 ^ 63:Int))=false:=decide_eq_false (by omega);have e2:decide (i ≥ 2 ^ 63)=false:=decide_eq_false (by omega);rw [e1,e2,Bool.or_false]) (by rw [h1];simpa using h2) ⟨.str ⟨#[c]⟩,H,I.tok _,⟨_,rfl⟩,q⟩) hs
theorem lA (its:List Value) (n j:Nat) (u:Value):Obj.mapSeq (·.setIfInBounds j u) { cls:=.type "list",data:=.seq its.toArray n } = { cls:=.type "list",data:=.seq (its.set j u).toArray n }:=by
 simp [Obj.mapSeq]
theorem Inv.lst {pins:List (Addr × Obj)} {σ:St} {H:Hp} {s:Shared} {p:Addr} {xs:List V} (I:Inv X pins σ H s) (h:H p=some (.lst xs)) :
  ∃ (its:List Value) (n:Nat),md xs its∧s.heap.get? p=some { cls:=.type "list",data:=.seq its.toArray n }∧xs.length ≤ sizeLine:=by
 obtain ⟨z,its,n,r,e⟩:=I.hok p _ h;exact ⟨its,n,r,e,z⟩
theorem Inv.lstUpd {pins:List (Addr × Obj)} {σ:St} {H:Hp} {s:Shared} {p:Addr} {xs ys:List V} {its its':List Value} {n n':Nat} {f:Obj→Obj} (I:Inv X pins σ H s) (h:H p=some (.lst xs))
  (ho:s.heap.get? p=some { cls:=.type "list",data:=.seq its.toArray n }) (hf:f { cls:=.type "list",data:=.seq its.toArray n } = { cls:=.type "list",data:=.seq its'.toArray n' }) (r:md ys its') (hz:ys.length ≤ sizeLine) (t:Nat) :
  Inv X pins σ (upd H p (.lst ys)) { s with heap:=s.heap.update p f,toks:=t }:=by
 have e:(s.heap.update p f).get? p=some { cls:=.type "list",data:=.seq its'.toArray n' }:=by
  rw [Heap.get?_update_self f ho (by rw [hf] <;> rfl),hf]
 refine I.write (x:=p) (e:=p) (by rw [h];trivial) (.inl rfl) (fun b u hb q=>(Heap.get?_update_other _ _ (Ne.symm hb)).trans q) ⟨_,e⟩ ?_;exact ⟨hz,its',n',r,e⟩
noncomputable def rM:V→V→V→Hp→(Hp→Prop)→Prop:=fun o i v H Q=>mh o fun p=>∃ xs,Fj i fun k=>H p=some (.lst xs)∧∃ j,ixN xs.length k=some j∧Q (upd H p (.lst (xs.set j v)))
theorem aA:iO X rM:=by
 intro pins s σ H o i v ov iv u Q I ro ri rv h;obtain ⟨p,rfl,xs,hzz⟩:=mh.out h;obtain ⟨k,rfl,hp,j,hj,q⟩:=Fj.out hzz;cases ro;obtain ⟨t,rfl⟩:=ri;obtain ⟨its,n,r,ho,hz⟩:=I.lst hp;obtain ⟨h1,h2,h3,h4⟩:=rD hj;have hl:=r.length;have hn:=Np;have I':Inv X pins σ (upd H p (.lst (xs.set j v))) { s with heap:=s.heap.update p (Obj.mapSeq (·.setIfInBounds j u)) }:=
  I.lstUpd hp ho (lA its n j u) (r.set rv j) (by rw [List.length_set];exact hz) s.toks
 by_cases h0:0 ≤ k
 ·have hk:k.toNat=j:=by
   rw [seqIndex_of h0 h4] at h1;exact Option.some.inj h1
  exact PySem.W.ki_setAt ho h0 (by omega) (by rw [List.size_toArray,← hl];exact h4) (by rw [hk];exact ⟨_,I',q⟩)
 ·have hk:(k + (its.toArray.size:Int)).toNat=j:=by
   rw [seqIndex_neg (by omega) h3] at h1;rw [List.size_toArray,← hl];exact Option.some.inj h1
  exact PySem.W.ki_setBack ho (by omega) (by rw [List.size_toArray,← hl];exact h3) (by omega) (by rw [hk];exact ⟨_,I',q⟩)
theorem Iv (lo hi:Option Int) (n:Nat):(sliceBounds lo hi none n).1=((HT.sIx n 0 lo:Nat):Int)∧(sliceBounds lo hi none n).2.1=((HT.sIx n n hi:Nat):Int)∧(sliceBounds lo hi none n).2.2=1:=by
 refine ⟨?_,?_,rfl⟩
 ·cases lo with
  | none=>simp [sliceBounds,HT.sIx]
  | some i=>
   simp only [sliceBounds,HT.sIx,Option.getD_none,show (1:Int) > 0 by decide,if_true];by_cases h:i < 0
   ·simp only [h,if_true] <;> omega
   ·simp only [h,if_false] <;> omega
 ·cases hi with
  | none=>simp [sliceBounds,HT.sIx]
  | some i=>
   simp only [sliceBounds,HT.sIx,Option.getD_none,show (1:Int) > 0 by decide,if_true];by_cases h:i < 0
   ·simp only [h,if_true] <;> omega
   ·simp only [h,if_false] <;> omega
theorem zu (its:List Value) (lo hi:Option Int):slicePick its.toArray lo hi none=((its.drop (HT.sIx its.length 0 lo)).take (HT.sIx its.length its.length hi - HT.sIx its.length 0 lo)).toArray:=by
 obtain ⟨h1,h2,h3⟩:=Iv lo hi its.toArray.size;unfold slicePick;rw [h1,h2,h3];simp only [sliceRange_one,pick_run,List.size_toArray] <;> rfl
noncomputable def uO (K:PySem.W.Frag):V→Option Int→Option Int→Hp→VK→Prop:=fun x lo hi H Q=>∃ a xs,x=.ref a∧SqL K H a xs∧∀ p,H p=none→Q (.ref p) (upd H p (.lst (jw xs lo hi)))
theorem fK:SlR X (uO X.K):=by
 intro pins s σ H x v vl vu lo hi sl Q I rx hs pl pu h;obtain ⟨a,xs,rfl,hx,q⟩:=h;cases rx;obtain ⟨its,r,ht,hz⟩:=I.list hx;have hlen:=r.length;refine ⟨"list",_,slot_list_getitem.lookup,ht.isList.typeIs,?_⟩;refine wpAny_getItem_list_slice ht.isList hs pl pu .none (by simp) ?_ (by rw [List.size_toArray] <;> omega);rw [zu,← hlen];refine ⟨.ref s.heap.objs.size,_,I.laid (t':=s.toks) (o:=.lst (jw xs lo hi)) (fun b ob q=>Heap.get?_push_of_some _ q) (Nat.le_refl _) ?_,rfl,q _ (I.hok.fresh (Nat.le_refl _))⟩;exact ⟨Nat.le_trans (Tp xs lo hi) hz,_,0,(r.drop (HT.sIx xs.length 0 lo)).take (HT.sIx xs.length xs.length hi - HT.sIx xs.length 0 lo),Heap.get?_push_size _ rfl⟩
noncomputable def Vl:V→Bool
 | .non=>true
 | .bl _=>true
 | .int _=>true
 | .str _=>true
 | _=>false
noncomputable def eqV:V→V→Bool
 | .non,.non=>true
 | .bl a,.bl b=>a == b
 | .bl a,.int b=>(if a then 1 else 0) == b
 | .int a,.bl b=>a == (if b then 1 else 0)
 | .int a,.int b=>a == b
 | .str a,.str b=>a == b
 | _,_=>false
theorem FM {A:Around} {s:Shared} {y x:V} {u v:Value} (ry:Bd y u) (rx:Bd x v) (fy:Vl y=true) (fx:Vl x=true):SeqAt.EqAt A s u v (eqV y x):=by
 cases y with
 | non=>
  cases ry;cases x with
  | non=>cases rx;exact SeqAt.EqAt.same _
  | bl b=>cases rx;exact SeqAt.EqAt.none_bool b
  | int b=>obtain ⟨t,rfl⟩:=rx;exact SeqAt.EqAt.none_int b t
  | str b=>obtain ⟨t,rfl⟩:=rx;exact SeqAt.EqAt.none_str b t
  | _=>exact absurd (show false=true from fx) Bool.false_ne_true
 | bl a=>
  cases ry;cases x with
  | non=>cases rx;exact SeqAt.EqAt.bool_none a
  | bl b=>cases rx;exact SeqAt.EqAt.bool_bool a b
  | int b=>obtain ⟨t,rfl⟩:=rx;exact SeqAt.EqAt.bool_int a b t
  | str b=>obtain ⟨t,rfl⟩:=rx;exact SeqAt.EqAt.bool_str a b t
  | _=>exact absurd (show false=true from fx) Bool.false_ne_true
 | int a=>
  obtain ⟨t',rfl⟩:=ry;cases x with
  | non=>cases rx;exact SeqAt.EqAt.int_none a t'
  | bl b=>cases rx;exact SeqAt.EqAt.int_bool a t' b
  | int b=>obtain ⟨t,rfl⟩:=rx;exact SeqAt.EqAt.int_int a t' b t
  | str b=>obtain ⟨t,rfl⟩:=rx;exact SeqAt.EqAt.int_str a t' b t
  | _=>exact absurd (show false=true from fx) Bool.false_ne_true
 | str a=>
  obtain ⟨t',rfl⟩:=ry;cases x with
  | non=>cases rx;exact SeqAt.EqAt.str_none a t'
  | bl b=>cases rx;exact SeqAt.EqAt.str_bool a t' b
  | int b=>obtain ⟨t,rfl⟩:=rx;exact SeqAt.EqAt.str_int a t' b t
  | str b=>obtain ⟨t,rfl⟩:=rx;exact SeqAt.EqAt.str_str a t' b t
  | _=>exact absurd (show false=true from fx) Bool.false_ne_true
 | _=>exact absurd (show false=true from fy) Bool.false_ne_true
noncomputable def eqU (x:V) (u:Value):Bool:=match u with
 | .none=>eqV .non x
 | .bool b=>eqV (.bl b) x
 | .int i _=>eqV (.int i) x
 | .str z _=>eqV (.str z) x
 | _=>false
theorem AI {x y:V} {u:Value} (r:Bd y u) (f:Vl y=true):eqU x u=eqV y x:=by
 cases y with
 | non=>cases r;rfl
 | bl b=>cases r;rfl
 | int i=>obtain ⟨t,rfl⟩:=r;rfl
 | str z=>obtain ⟨t,rfl⟩:=r;rfl
 | _=>exact absurd (show false=true from f) Bool.false_ne_true
theorem uq {x:V}:∀ {xs:List V} {us:List Value},md xs us→xs.all Vl=true→us.any (eqU x)=xs.any fun y=>eqV y x
 | _,_,.nil,_=>rfl
 | y :: xs,u :: us,.cons r t,f=>by
  rw [List.all_cons,Bool.and_eq_true] at f;rw [List.any_cons,List.any_cons,AI r f.1,uq t f.2]
theorem Im {A:Around} {s:Shared} {x:V} {v:Value} (rx:Bd x v) (fx:Vl x=true):∀ {xs:List V} {us:List Value},md xs us→xs.all Vl=true→∀ u ∈ us,SeqAt.EqAt A s u v (eqU x u)
 | _,_,.nil,_=>fun u hu=>by cases hu
 | y :: xs,u :: us,.cons r t,f=>fun u' hu=>by
  rw [List.all_cons,Bool.and_eq_true] at f;rcases List.mem_cons.mp hu with rfl | hu
  ·rw [AI r f.1];exact FM r rx f.1 fx
  ·exact Im rx fx t f.2 u' hu
noncomputable def inV (x:V) (xs:List V):Bool:=xs.any fun y=>eqV y x
noncomputable def rIn (K:PySem.W.Frag) (neg:Bool):R2:=fun x y H Q=>∃ p xs,y=.ref p∧(SqL K H p xs∨SqT K H p xs)∧Vl x=true∧xs.all Vl=true∧Q (.bl (if neg then !inV x xs else inV x xs)) H
theorem Fp:OpR X (compareOp .In) (rIn X.K false):=by
 intro pins s σ H x y v u Q I rx ry h;obtain ⟨p,xs,rfl,hq,fx,fs,q⟩:=h;cases ry;rcases hq with hq | hq
 ·obtain ⟨its,r,pl,hz⟩:=I.list hq;refine SeqAt.in_listAt (eqU x) pl.isList (fun w hw=>Im rx fx r fs w (by simpa using hw)) ⟨.bl _,H,I,rfl,?_⟩;rw [show its.toArray.any (eqU x)=its.any (eqU x) by simp,uq r fs];exact q
 ·obtain ⟨its,r,pl,hz⟩:=I.tuple hq;refine SeqAt.in_tupleAt (eqU x) pl (fun w hw=>Im rx fx r fs w (by simpa using hw)) ⟨.bl _,H,I,rfl,?_⟩;rw [show its.toArray.any (eqU x)=its.any (eqU x) by simp,uq r fs];exact q
theorem jo:OpR X (compareOp .NotIn) (rIn X.K true):=by
 intro pins s σ H x y v u Q I rx ry h;obtain ⟨p,xs,rfl,hq,fx,fs,q⟩:=h;cases ry;rcases hq with hq | hq
 ·obtain ⟨its,r,pl,hz⟩:=I.list hq;refine SeqAt.notIn_listAt (eqU x) pl.isList (fun w hw=>Im rx fx r fs w (by simpa using hw)) ⟨.bl _,H,I,rfl,?_⟩;rw [show its.toArray.any (eqU x)=its.any (eqU x) by simp,uq r fs];exact q
 ·obtain ⟨its,r,pl,hz⟩:=I.tuple hq;refine SeqAt.notIn_tupleAt (eqU x) pl (fun w hw=>Im rx fx r fs w (by simpa using hw)) ⟨.bl _,H,I,rfl,?_⟩;rw [show its.toArray.any (eqU x)=its.any (eqU x) by simp,uq r fs];exact q
theorem Xb:zi X (.builtin "len") (fun xs H Q=>oA xs fun x=>mh x fun p=>∃ ys,(SqL X.K H p ys∨SqT X.K H p ys)∧Q (.int ys.length) H):=by
 intro pins s σ H xs us Q I r h;obtain ⟨zx,rfl,hzz⟩:=oA.out h;obtain ⟨p,rfl,ys,hq,q⟩:=mh.out hzz;obtain ⟨u,rfl,rx⟩:=Mm r;cases rx;have hn:=Np;rcases hq with hq | hq
 ·obtain ⟨its,r',pl,hz⟩:=I.list hq;have hlen:=r'.length;exact Calls.call_len_list pl.isList (by simp only [List.size_toArray] <;> omega) ⟨.int ys.length,H,I.tok _,⟨s.toks + 1,by rw [List.size_toArray,hlen]⟩,q⟩
 ·obtain ⟨its,r',pl,hz⟩:=I.tuple hq;have hlen:=r'.length;exact len_tuple pl (by simp only [List.size_toArray] <;> omega) ⟨.int ys.length,H,I.tok _,⟨s.toks + 1,by rw [List.size_toArray,hlen]⟩,q⟩
theorem Gv:zi X (.builtin "len") (fun xs H Q=>∃ z,xs=[.str z]∧z.length ≤ sizeLine∧Q (.int z.length) H):=by
 intro pins s σ H xs us Q I r h;obtain ⟨z,rfl,hz,q⟩:=h;obtain ⟨u,rfl,t,rfl⟩:=Mm r;have hn:=Np;exact len_str (by omega) ⟨.int z.length,H,I.tok _,⟨_,rfl⟩,q⟩
theorem zi.or {f:Value} {r r':List V→Hp→VK→Prop} (h:zi X f r) (h':zi X f r'):zi X f (fun xs H Q=>r xs H Q∨r' xs H Q):=by
 intro pins s σ H xs us Q I rs q;rcases q with q | q
 ·exact h pins s σ H xs us Q I rs q
 ·exact h' pins s σ H xs us Q I rs q
theorem Pj:zi X (.type "list") (fun xs H Q=>∃ p ys,xs=[.ref p]∧(SqL X.K H p ys∨SqT X.K H p ys)∧∀ l,H l=none→Q (.ref l) (upd H l (.lst ys))):=by
 intro pins s σ H xs us Q I r h;obtain ⟨p,ys,rfl,hq,q⟩:=h;obtain ⟨u,rfl,rx⟩:=Mm r;cases rx;have fin:∀ (its:List Value),md ys its→ys.length ≤ sizeLine→∀ (h':Heap) (c':Nat),(∀ b o',s.heap.get? b=some o'→h'.get? b=some o') →
   h'.get? s.heap.objs.size=some { cls:=.type "list",dict:=none,data:=.seq its.toArray c',slots:=#[] }→EP X pins σ Q (.ref s.heap.objs.size) { s with heap:=h' }:=fun its r' hz h' c' kp e=>
  ⟨.ref s.heap.objs.size,_,I.laid (t':=s.toks) kp (Nat.le_refl _) (show Zd X.prog X.w _ h' _ (.lst ys) from ⟨hz,its,c',r',e⟩),rfl,q _ (I.hok.fresh (Nat.le_refl _))⟩
 rcases hq with hq | hq
 ·obtain ⟨its,r',pl,hz⟩:=I.list hq;have hlen:=r'.length;obtain ⟨o,ho,hc,n,hd⟩:=pl.isList;exact call_list_seq p (.inl rfl) ho hc hd (fun h' c' kp e=>fin its r' hz h' c' kp e) (by simp only [List.size_toArray] <;> omega)
 ·obtain ⟨its,r',pl,hz⟩:=I.tuple hq;have hlen:=r'.length;obtain ⟨o,ho,hc,n,hd⟩:=pl;exact call_list_seq p (.inr rfl) ho hc hd (fun h' c' kp e=>fin its r' hz h' c' kp e) (by simp only [List.size_toArray] <;> omega)
theorem Xt:zi X (.type "tuple") (fun xs H Q=>∃ p ys,xs=[.ref p]∧((SqL X.K H p ys∧∀ l,H l=none→Q (.ref l) (upd H l (.tup ys)))∨(SqT X.K H p ys∧Q (.ref p) H))):=by
 intro pins s σ H xs us Q I r h;obtain ⟨p,ys,rfl,h⟩:=h;obtain ⟨u,rfl,rx⟩:=Mm r;cases rx;rcases h with ⟨hq,q⟩ | ⟨hq,q⟩
 ·obtain ⟨its,r',pl,hz⟩:=I.list hq;have hlen:=r'.length;refine call_tuple_list pl.isList (fun h' kp=>?_) (by simp only [List.size_toArray] <;> omega);have I1:Inv X pins σ H { s with heap:=h' }:=I.kept (t':=s.toks) kp;have I2:Inv X pins σ (upd H h'.objs.size (.tup ys)) { s with heap:=h'.push { cls:=.type "tuple",data:=.seq its.toArray } }:=
   I1.laid (t':=s.toks) (fun b o e=>Heap.get?_push_of_some _ e) (Nat.le_refl _) (show Zd X.prog X.w _ _ _ (.tup ys) from ⟨⟨hz,_,Heap.get?_push_size _ rfl,rfl⟩,its,r',IsTup.new _ _⟩)
  exact ⟨.ref h'.objs.size,_,I2,rfl,q _ (I1.hok.fresh (Nat.le_refl _))⟩
 ·obtain ⟨its,r',pl,hz⟩:=I.tuple hq;exact call_tuple_same pl ⟨.ref p,H,I,rfl,q⟩
noncomputable def tyV (K:PySem.W.Frag) (T:String) (x:V) (H:Hp):Prop:=match x with
 | .str _=>T = "str"
 | .int _=>T = "int"
 | .ref p=>(T = "list" ∧ ∃ xs,SqL K H p xs)∨(T = "tuple" ∧ ∃ o,K.lookup p=some o∧o.cls=.type "tuple" ∧ o.dict=none) ∨
   (T = "dict" ∧ ((∃ kvs,H p=some (.dK kvs))∨∃ kvs,H p=some (.dT kvs)))∨(T = "set" ∧ ∃ S n,H p=some (.set S n))
 | _=>False
theorem ZH {pins:List (Addr × Obj)} {σ:St} {H:Hp} {s:Shared} {T:String} {x:V} {v:Value} (I:Inv X pins σ H s) (r:Bd x v) (ty:tyV X.K T x H) :
  s.TypeIs v T∧∀ a,v=.ref a→∃ ob,s.heap.get? a=some ob∧ob.dict=none:=by
 cases x with
 | str z=>
  obtain ⟨t,rfl⟩:=r;cases (show T = "str" from ty);exact ⟨typeIs_str s z t,fun _ e=>nomatch e⟩
 | int i=>
  obtain ⟨t,rfl⟩:=r;cases (show T = "int" from ty);exact ⟨typeIs_int s i t,fun _ e=>nomatch e⟩
 | ref p=>
  cases r;rcases ty with ⟨rfl,xs,hq⟩ | ⟨rfl,o,hk,hc,hd⟩ | ⟨rfl,hk⟩ | ⟨rfl,S,n,hk⟩
  ·obtain ⟨its,_,pl,_⟩:=I.list hq;refine ⟨pl.isList.typeIs,fun a e=>?_⟩;cases e;obtain ⟨o,n,e,c,hd,_⟩:=pl;exact ⟨o,e,hd⟩
  ·refine ⟨⟨o,I.kIn p o hk,hc⟩,fun a e=>?_⟩;cases e;exact ⟨o,I.kIn _ o hk,hd⟩
  ·have z:∃ o,s.heap.get? p=some o∧o.ExactDict:=by
    rcases hk with ⟨kvs,hk⟩ | ⟨kvs,hk⟩
    ·obtain ⟨_,_,_,_,o,_,_,e,ex,_⟩:=I.hok p _ hk;exact ⟨o,e,ex⟩
    ·obtain ⟨_,_,_,_,o,_,_,e,ex,_⟩:=I.hok p _ hk;exact ⟨o,e,ex⟩
   obtain ⟨o,e,ex⟩:=z;refine ⟨⟨o,e,ex.1⟩,fun a e2=>?_⟩;cases e2;exact ⟨o,e,ex.2.1⟩
  ·obtain ⟨o,_,_,_,e,ex,_⟩:=I.hok p _ hk;refine ⟨⟨o,e,ex.1⟩,fun a e2=>?_⟩;cases e2;exact ⟨o,e,ex.2.1⟩
 | _=>exact False.elim ty
noncomputable def GO (K:PySem.W.Frag) (T:String) (r:V→List V→Hp→VK→Prop) (to:TE):TE:=fun σ H Q=>to σ H fun x H1=>tyV K T x H1∧r x [] H1 Q
noncomputable def tBM (K:PySem.W.Frag) (T:String) (r:V→List V→Hp→VK→Prop) (to:TE) (t:TA):TE:=fun σ H Q=>to σ H fun x H1=>tyV K T x H1∧t σ H1 fun xs H2=>r x xs H2 Q
variable {o e:Expr} {es:List Expr} {to:TE} {t:TA} {name:Str} {apos cpos:Pos} {T id:String} {r:V→List V→Hp→VK→Prop}
theorem gM (pa:PlainAttrs T) (slot:Slot T name id) (hty:typeOf (.builtin id)=pure (.type "method_descriptor")) (hm:MtR X id r) (ho:PE X o to)
  (hbase:attributeBase o name X.env (eval o X.env)=eval o X.env:=by rfl) (hline:(apos.endLine == cpos.line)=true:=by rfl):PE X (.Call (.Attribute o name apos) [] [] cpos) (GO X.K T r to):=by
 intro pins s σ H Q I h;refine wpAny_Call_method0_late hbase hline (thn (ho pins s σ H _ I h) fun v s1 hZ1=>?_);obtain ⟨x,H1,I1,r1,ty,q1⟩:=hZ1;obtain ⟨h1,h2⟩:=ZH I1 r1 ty;exact ⟨T,id,pa,slot,hty,h1,h2,Calls.callWith_builtin rfl (PySem.evalArgs_none (hm pins s1 σ H1 x [] v [] Q I1 r1 .nil q1))⟩
theorem uo (pa:PlainAttrs T) (slot:Slot T name id) (hty:typeOf (.builtin id)=pure (.type "method_descriptor")) (hm:MtR X id r) (ho:PE X o to) (ha:PA X (e :: es) t)
  (hbase:attributeBase o name X.env (eval o X.env)=eval o X.env:=by rfl)
  (hfew:((backTo cpos (starEach (e :: es) X.env)).all (fun x=>!x.1) && (backToKw cpos (keywordEach [] X.env)).all (fun x=>x.1.isSome)
   && decide ((e :: es).length + ([]:List Keyword).length + (if ([]:List Keyword).isEmpty then 0 else 1) < 30))=true:=by rfl)
  (hline:(apos.endLine == cpos.line)=true:=by rfl) (hs:starEach (e :: es) X.env=(false,eval e X.env) :: starEach es X.env:=by rfl) (hplain:(backTo cpos (starEach es X.env)).any (·.1)=false:=by rfl) :
  PE X (.Call (.Attribute o name apos) (e :: es) [] cpos) (tBM X.K T r to t):=by
 intro pins s σ H Q I h;refine wpAny_Call_method_late hbase hfew hline rfl (thn (ho pins s σ H _ I h) fun v s1 hZ1=>?_);obtain ⟨x,H1,I1,r1,ty,q1⟩:=hZ1;obtain ⟨h1,h2⟩:=ZH I1 r1 ty;refine ⟨T,id,pa,slot,hty,h1,h2,?_⟩;have hA:=ha cpos pins s1 σ H1 _ I1 q1;rw [hs] at hA ⊢;refine Calls.callWith_builtin (by show (false || (backTo cpos (starEach es X.env)).any (·.1))=false;rw [hplain] <;> rfl) (Calls.evalArgs_plain ?_);exact thn hA fun us s2 ⟨vs,H2,I2,r2,q2⟩=>hm pins s2 σ H2 x vs v us Q I2 r1 r2 q2
end
end L2
namespace L2
open PySem PySem.Spec PyProof.Rows
noncomputable def MtM (X:Cx) (id:String) (r:V→List V→Hp→VK→Prop):Prop:=
 ∀ (pins:List (Addr × Obj)) (s:Shared) (σ:St) (H:Hp) (x:V) (xs:List V) (v:Value) (us:List Value) (Q:VK),Inv X pins σ H s→Bd x v→md xs us→r x xs H Q →
  wpAny (model X.prog X.w) X.A (call (.builtin id) (v :: us)) (EP X pins σ Q) X.xe s
theorem md.one:∀ {x:V} {us:List Value},md [x] us→∃ u,us=[u]∧Bd x u
 | _,_,.cons r .nil=>⟨_,rfl,r⟩
theorem md.two:∀ {x y:V} {us:List Value},md [x,y] us→∃ u v,us=[u,v]∧Bd x u∧Bd y v
 | _,_,_,.cons r (.cons q .nil)=>⟨_,_,rfl,r,q⟩
theorem md.zero:∀ {us:List Value},md [] us→us=[]
 | _,.nil=>rfl
theorem md.reverse {xs:List V} {us:List Value} (h:md xs us):md xs.reverse us.reverse:=by
 induction h with
 | nil=>exact .nil
 | cons r t ih=>rw [List.reverse_cons,List.reverse_cons];exact md.append ih (.cons r .nil)
theorem md.rep {xs:List V} {us:List Value} (h:md xs us):∀ k:Nat,md (List.replicate k xs).flatten (List.replicate k us).flatten
 | 0=>.nil
 | k + 1=>by
  rw [List.replicate_succ,List.replicate_succ,List.flatten_cons,List.flatten_cons];exact md.append h (md.rep h k)
theorem Pu (its:List Value):∀ (k:Nat) (acc:List Value),
  List.foldl (fun x1 x2=>x1 ++ x2) acc.toArray (List.replicate k its.toArray)=(acc ++ (List.replicate k its).flatten).toArray
 | 0,acc=>by simp
 | k + 1,acc=>by
  have e:acc.toArray ++ its.toArray=(acc ++ its).toArray:=by simp
  have e2:(acc ++ its) ++ (List.replicate k its).flatten=acc ++ (List.replicate (k + 1) its).flatten:=by
   rw [List.replicate_succ,List.flatten_cons,List.append_assoc]
  rw [← e2,← Pu its k (acc ++ its),← e,List.replicate_succ,List.foldl_cons]
section
variable {X:Cx} {pins:List (Addr × Obj)} {σ:St} {H:Hp} {s:Shared} {l b:Addr} {xs ys zs:List V}
theorem Inv.lset {its its':List Value} {n:Nat} {f:Array Value→Array Value} {t':Nat} (I:Inv X pins σ H s) (hH:H l=some (.lst xs))
  (e:s.heap.get? l=some { cls:=.type "list",data:=.seq its.toArray n }) (hf:f its.toArray=its'.toArray) (hv:md ys its') (hz:ys.length ≤ sizeLine) :
  Inv X pins σ (upd H l (.lst ys)) { s with heap:=s.heap.update l (Obj.mapSeq f),toks:=t' }:=by
 have q:=PySem.IsL.update e f;rw [hf] at q;refine I.write (x:=l) (e:=l) (by rw [hH];exact trivial) (.inl rfl) (fun b' u hb hu=>(Heap.get?_update_other s.heap (Obj.mapSeq f) (Ne.symm hb)).trans hu) ⟨_,q⟩ ?_;exact ⟨hz,its',_,hv,q⟩
theorem Inv.lnew {its:List Value} {t':Nat} (I:Inv X pins σ H s) (hv:md ys its) (hz:ys.length ≤ sizeLine) :
  Inv X pins σ (upd H s.heap.objs.size (.lst ys)) { s with heap:=s.heap.push { cls:=.type "list",data:=.seq its.toArray },toks:=t' }:=
 I.laid (fun _ _ q=>Heap.get?_push_of_some _ q) (Nat.le_refl _) ⟨hz,its,0,hv,Heap.get?_push_size _ rfl⟩
theorem Inv.fresh (I:Inv X pins σ H s):H s.heap.objs.size=none:=I.hok.fresh (Nat.le_refl _)
theorem Inv.lstM (I:Inv X pins σ H s) (hH:H l=some (.lst xs)):xs.length ≤ sizeLine∧∃ (its:List Value) (n:Nat),md xs its∧xs.length=its.length∧s.heap.get? l=some { cls:=.type "list",data:=.seq its.toArray n }:=by
 obtain ⟨z,its,n,r,e⟩:=I.hok l _ hH;exact ⟨z,its,n,r,r.length,e⟩
theorem mz {n:Nat} (h:n ≤ sizeLine):Builtin.List.listTooLong n=false:=by
 unfold Builtin.List.listTooLong;exact decide_eq_false (by omega)
end
section
variable {X:Cx}
noncomputable def SD:V→List V→Hp→VK→Prop:=fun x vs H Q=>mh x fun l=>oA vs fun y=>∃ xs,H l=some (.lst xs)∧xs.length < sizeLine∧Q .non (upd H l (.lst (xs ++ [y])))
theorem nk:MtM X "list.append" SD:=by
 intro pins s σ H x vs v us Q I rx rv h;obtain ⟨l,rfl,hzz⟩:=mh.out h;obtain ⟨y,rfl,xs,hH,hz,q⟩:=oA.out hzz;cases rx;obtain ⟨u,rfl,ru⟩:=rv.one;obtain ⟨z,its,n,r,hl,e⟩:=I.lstM hH;refine call_meets F.slot_list_append ⟨_,e,rfl⟩ F.entry_list_append (F.args_list_append_2 _ _) (PySem.list_append l its.toArray n u (by rw [List.size_toArray];omega)) ⟨e,?_⟩;refine ⟨.non,_,I.lset (its':=its ++ [u]) hH e (by simp) (r.append (.cons ru .nil)) ?_,rfl,q⟩;rw [List.length_append,List.length_singleton];omega
noncomputable def OD:V→List V→Hp→VK→Prop:=fun x vs H Q=>∃ l b xs zs,x=.ref l∧vs=[.ref b]∧H l=some (.lst xs)∧H b=some (.lst zs)∧xs.length + zs.length ≤ sizeLine∧Q .non (upd H l (.lst (xs ++ zs)))
theorem Kv:MtM X "list.extend" OD:=by
 intro pins s σ H x vs v us Q I rx rv h;obtain ⟨l,b,xs,zs,rfl,rfl,hH,hB,hz,q⟩:=h;cases rx;obtain ⟨u,rfl,ru⟩:=rv.one;cases ru;obtain ⟨z,its,n,r,hl,e⟩:=I.lstM hH;obtain ⟨z2,its2,n2,r2,hl2,e2⟩:=I.lstM hB;have hsz:its.toArray.size + its2.toArray.size ≤ sizeLine:=by rw [List.size_toArray,List.size_toArray];omega
 have hlong:¬ (!its.toArray.isEmpty && Builtin.List.listTooLong (its.toArray.size + its2.toArray.size))=true:=by
  rw [mz hsz,Bool.and_false];exact Bool.false_ne_true
 refine call_meets F.slot_list_extend ⟨_,e,rfl⟩ F.entry_list_extend (F.args_list_extend_2 _ _)
  (AutoSeq1.list_extend_list_list_0 l its.toArray n b its2.toArray n2 hlong (by rw [List.size_toArray];omega) (by omega)) ⟨e,e2,?_⟩
 refine ⟨.non,_,I.lset (its':=its ++ its2) hH e (by simp) (r.append r2) ?_,rfl,q⟩;rw [List.length_append];omega
noncomputable def Az:V→List V→Hp→VK→Prop:=fun x vs H Q=>∃ l xs,x=.ref l∧vs=[]∧H l=some (.lst xs)∧Q .non (upd H l (.lst xs.reverse))
theorem eB:MtM X "list.reverse" Az:=by
 intro pins s σ H x vs v us Q I rx rv h;obtain ⟨l,xs,rfl,rfl,hH,q⟩:=h;cases rx;have hus:=rv.zero;subst hus;obtain ⟨z,its,n,r,hl,e⟩:=I.lstM hH;refine call_meets F.slot_list_reverse ⟨_,e,rfl⟩ F.entry_list_reverse (F.args_list_reverse_1 _) (AutoSeq1.list_reverse_list_0 l its.toArray n (by rw [List.size_toArray];omega)) ⟨e,?_⟩;refine ⟨.non,_,I.lset (its':=its.reverse) hH e (by simp) r.reverse ?_,rfl,q⟩;rw [List.length_reverse];omega
noncomputable def oO:R2:=fun x y H Q=>∃ l b xs zs,x=.ref l∧y=.ref b∧H l=some (.lst xs)∧H b=some (.lst zs)∧xs.length + zs.length ≤ sizeLine∧∀ p,H p=none→Q (.ref p) (upd H p (.lst (xs ++ zs)))
theorem vC:OpR X (binaryOp .Add) oO:=by
 intro pins s σ H x y v u Q I rx ry h;obtain ⟨l,b,xs,zs,rfl,rfl,hH,hB,hz,q⟩:=h;cases rx;cases ry;obtain ⟨z,its,n,r,hl,e⟩:=I.lstM hH;obtain ⟨z2,its2,n2,r2,hl2,e2⟩:=I.lstM hB;refine PySem.P.add_list e e2 ?_ (by rw [List.size_toArray,List.size_toArray];omega);have ea:its.toArray ++ its2.toArray=(its ++ its2).toArray:=by simp
 rw [ea];exact ⟨.ref _,_,I.lnew (t':=s.toks) (r.append r2) (by rw [List.length_append];omega),rfl,q _ I.fresh⟩
noncomputable def YO:R2:=fun x y H Q=>∃ l k xs,x=.ref l∧y=.int k∧H l=some (.lst xs)∧-(2 ^ 63) ≤ k∧k < 2 ^ 63∧xs.length * k.toNat ≤ sizeLine ∧
 ∀ p,H p=none→Q (.ref p) (upd H p (.lst (List.replicate k.toNat xs).flatten))
theorem MJ {α:Type} (xs:List α) (k:Nat):(List.replicate k xs).flatten.length=k * xs.length:=by
 induction k with
 | zero=>simp
 | succ k ih=>rw [List.replicate_succ,List.flatten_cons,List.length_append,ih,Nat.succ_mul,Nat.add_comm]
theorem QL:OpR X (binaryOp .Mult) YO:=by
 intro pins s σ H x y v u Q I rx ry h;obtain ⟨l,k,xs,rfl,rfl,hH,h1,h2,hz,q⟩:=h;cases rx;obtain ⟨t,rfl⟩:=ry;obtain ⟨z,its,n,r,hl,e⟩:=I.lstM hH;have hlen:its.toArray.size * k.toNat ≤ sizeLine:=by rw [List.size_toArray,← hl];exact hz
 have hcap:¬ its.toArray.size * k.toNat > (2 ^ 63 - 1) / 8:=by
  have:(sizeLine:Nat) ≤ (2 ^ 63 - 1) / 8:=by decide
  omega
 have hfit:¬ (!Builtin.List.listFitsIndex k)=true:=by
  rw [fitsIndex_both h1 h2];exact Bool.false_ne_true
 have hlong:¬ Builtin.List.listTooLong (its.toArray.size * k.toNat)=true:=by
  rw [mz hlen];exact Bool.false_ne_true
 have hnew:List.foldl (fun x1 x2=>x1 ++ x2) #[] (List.replicate (if its.toArray.isEmpty=true then 0 else k.toNat) its.toArray)=(List.replicate k.toNat its).flatten.toArray:=by
  have f0:∀ m:Nat,List.foldl (fun x1 x2=>x1 ++ x2) #[] (List.replicate m its.toArray)=(List.replicate m its).flatten.toArray:=fun m=>by
   have:=Pu its m [];rw [List.nil_append] at this;exact this
  rw [f0];cases its with
  | nil=>simp
  | cons a r'=>rw [if_neg (by simp)]
 refine wpAny_binaryOp_repeat_ref (T := "list") (U := "int") (by decide) ⟨_,e,rfl⟩ (fun s'=>typeIs_int s' k t) noFill_list_mul F.fills_int_mul F.slot_int_rmul repeat_list F.slot_int_index.lookup
  (call_meets F.slot_int_rmul (typeIs_int s k t) F.entry_int_rmul (F.args_int_rmul_2 _ _) (int___rmul___int_list k t l its.toArray n)
   ⟨e,rfl,⟨_,e,rfl⟩,call_meets F.slot_list_mul ⟨_,e,rfl⟩ F.entry_list_mul (F.args_list_mul_2 _ _) (AutoListH.list___mul___list_int_3 l its.toArray n k t hfit hcap hlong) ⟨e,?_⟩⟩)
 rw [hnew];exact ⟨.ref _,_,I.lnew (t':=s.toks) (r.rep k.toNat) (by rw [MJ,Nat.mul_comm];exact hz),rfl,q _ I.fresh⟩
end
section
variable {prog:Program} {w:World} {A:Around} {E:Value→Shared→Prop} {s:Shared}
end
section
variable {X:Cx}
end
end L2
namespace L2
open PySem PySem.Spec PyProof.Rows
section
variable {κ:Type} [DecidableEq κ]
noncomputable def Ej (kvs:List (κ × V)) (k:κ):Option V:=(kvs.find? fun kv=>decide (kv.1=k)).map (·.2)
noncomputable def xq (kvs:List (κ × V)) (k:κ) (v:V):List (κ × V):=
 if (kvs.any fun kv=>decide (kv.1=k))=true then kvs.map (fun kv=>if kv.1=k then (kv.1,v) else kv) else kvs ++ [(k,v)]
noncomputable def aL (kvs:List (κ × V)) (k:κ):List (κ × V):=kvs.filter fun kv=>decide (kv.1 ≠ k)
theorem Tk {p:κ × V} {r:List (κ × V)} {k:κ} (e:p.1=k):Ej (p :: r) k=some p.2:=by simp [Ej,List.find?_cons,e]
theorem Ek {p:κ × V} {r:List (κ × V)} {k:κ} (e:¬ p.1=k):Ej (p :: r) k=Ej r k:=by simp [Ej,List.find?_cons,e]
theorem Vt (k:κ):∀ kvs:List (κ × V),(kvs.any fun kv=>decide (kv.1=k))=(Ej kvs k).isSome
 | []=>rfl
 | p :: r=>by
  rw [List.any_cons];by_cases e:p.1=k
  ·simp only [Tk e,decide_eq_true e,Bool.true_or,Option.isSome_some]
  ·rw [Ek e,decide_eq_false e,Bool.false_or];exact Vt k r
theorem vp (kvs:List (κ × V)) (k:κ) (v:V):(xq kvs k v).length ≤ kvs.length + 1:=by
 unfold xq;split
 ·rw [List.length_map];omega
 ·rw [List.length_append,List.length_cons,List.length_nil];omega
theorem As.isSome_eq {o:Option V} {u:Option Value} (r:As o u):o.isSome=u.isSome:=by
 cases o with
 | none=>cases u with
  | none=>rfl
  | some _=>exact (show False from r).elim
 | some _=>cases u with
  | none=>exact (show False from r).elim
  | some _=>rfl
theorem As.getD {o:Option V} {u:Option Value} {d:V} {d':Value} (r:As o u) (rd:Bd d d'):Bd (o.getD d) (u.getD d'):=by
 cases o with
 | none=>cases u with
  | none=>exact rd
  | some _=>exact (show False from r).elim
 | some _=>cases u with
  | none=>exact (show False from r).elim
  | some _=>exact r
theorem KV.val {kvs:List (κ × V)} {vs:List (κ × Value)} (r:KV kvs vs) (k:κ):As (Ej kvs k) (valueAt vs k):=by
 unfold KV at r
 induction r with
 | nil=>exact True.intro
 | @cons p q ps qs h t ih=>
  obtain ⟨h1,h2⟩:=h;by_cases e:p.1=k
  ·have e':q.1=k:=h1.symm.trans e;have b:valueAt (q :: qs) k=some q.2:=by simp [valueAt,List.find?_cons,e']
   rw [Tk e,b];exact h2
  ·have e':¬ q.1=k:=fun z=>e (h1.trans z)
   have b:valueAt (q :: qs) k=valueAt qs k:=by simp [valueAt,List.find?_cons,e']
   rw [Ek e,b];exact ih
theorem KV.any {kvs:List (κ × V)} {vs:List (κ × Value)} (r:KV kvs vs) (k:κ):(kvs.any fun kv=>decide (kv.1=k))=vs.any fun kv=>decide (kv.1=k):=by
 unfold KV at r
 induction r with
 | nil=>rfl
 | cons h t ih=>rw [List.any_cons,List.any_cons,ih,h.1]
theorem KV.repl {kvs:List (κ × V)} {vs:List (κ × Value)} (r:KV kvs vs) (k:κ) {y:V} {u:Value} (ry:Bd y u) :
  KV (kvs.map fun kv=>if kv.1=k then (kv.1,y) else kv) (vs.map fun kv=>if kv.1=k then (kv.1,u) else kv):=by
 unfold KV at r ⊢
 induction r with
 | nil=>exact .nil
 | @cons p q ps qs h t ih=>
  rw [List.map_cons,List.map_cons];refine .cons ?_ ih;obtain ⟨h1,h2⟩:=h;by_cases e:p.1=k
  ·rw [if_pos e,if_pos (h1.symm.trans e)];exact ⟨h1,ry⟩
  ·rw [if_neg e,if_neg (fun z=>e (h1.trans z))];exact ⟨h1,h2⟩
theorem KV.put {kvs:List (κ × V)} {vs:List (κ × Value)} (r:KV kvs vs) (k:κ) {y:V} {u:Value} (ry:Bd y u):KV (xq kvs k y) (stored vs k u):=by
 unfold xq stored;rw [r.any k];by_cases e:(vs.any fun kv=>decide (kv.1=k))=true
 ·rw [if_pos e,if_pos e];exact r.repl k ry
 ·rw [if_neg e,if_neg e];exact Paired.snoc r ⟨rfl,ry⟩
theorem KV.drop {kvs:List (κ × V)} {vs:List (κ × Value)} (r:KV kvs vs) (k:κ):KV (aL kvs k) (without vs k):=by
 unfold KV at r ⊢;unfold aL without
 induction r with
 | nil=>exact .nil
 | @cons p q ps qs h t ih=>
  obtain ⟨h1,h2⟩:=h;rw [List.filter_cons,List.filter_cons];by_cases e:p.1=k
  ·have a:¬ decide (p.1 ≠ k)=true:=by simp [e]
   have b:¬ decide (q.1 ≠ k)=true:=by simp [h1.symm.trans e]
   rw [if_neg a,if_neg b];exact ih
  ·have e':¬ q.1=k:=fun z=>e (h1.trans z)
   have a:decide (p.1 ≠ k)=true:=by simp [e]
   have b:decide (q.1 ≠ k)=true:=by simp [e']
   rw [if_pos a,if_pos b];exact .cons ⟨h1,h2⟩ ih
theorem KV.keys {kvs:List (κ × V)} {vs:List (κ × Value)} (r:KV kvs vs):kvs.map (·.1)=vs.map (·.1):=by
 unfold KV at r
 induction r with
 | nil=>rfl
 | cons h t ih=>rw [List.map_cons,List.map_cons,ih,h.1]
theorem KV.length {kvs:List (κ × V)} {vs:List (κ × Value)} (r:KV kvs vs):kvs.length=vs.length:=Paired.length r
end
theorem EH {P:Program} {w:World} {k:Key} {u:Value} (r:Bd (kV k) u):(ue P w).is k u=true:=by
 cases k with
 | inl i=>obtain ⟨t,e⟩:=(show ∃ t,u=Value.int i t from r);subst e;exact Nx P w i t
 | inr x=>obtain ⟨t,e⟩:=(show ∃ t,u=Value.str x t from r);subst e;exact qx P w x t
theorem Uu {P:Program} {w:World}:∀ {ks:List Key} {us:List Value},md (ks.map kV) us→ItemsAre (ue P w) ks us
 | [],_,r=>by rw [List.map_nil] at r;cases r;exact .nil
 | k :: ks,_,r=>by
  rw [List.map_cons] at r;cases r with
  | cons h t=>exact .cons (EH h) (Uu t)
noncomputable abbrev KT (H:Hp):List (List Key × V)→List (List Key × Addr × Value)→Prop:=Paired fun p q=>p.1=q.1∧H q.2.1=some (.tup (p.1.map kV))∧Bd p.2 q.2.2
theorem KT.val {H:Hp} {kvs:List (List Key × V)} {xs:List (List Key × Addr × Value)} (r:KT H kvs xs) (k:List Key):As (Ej kvs k) ((atKey xs k).map (·.2)):=by
 induction r with
 | nil=>exact True.intro
 | @cons p q ps qs h t ih=>
  obtain ⟨h1,_,h2⟩:=h;by_cases e:p.1=k
  ·have e':q.1=k:=h1.symm.trans e;have b:atKey (q :: qs) k=some q.2:=by simp [atKey,List.find?_cons,e']
   rw [Tk e,b];exact h2
  ·have e':¬ q.1=k:=fun z=>e (h1.trans z)
   have b:atKey (q :: qs) k=atKey qs k:=by simp [atKey,List.find?_cons,e']
   rw [Ek e,b];exact ih
theorem KT.repl {H:Hp} {kvs:List (List Key × V)} {xs:List (List Key × Addr × Value)} (r:KT H kvs xs) (k:List Key) {y:V} {u:Value} (ry:Bd y u) :
  KT H (kvs.map fun kv=>if kv.1=k then (kv.1,y) else kv) (xs.map (putAt k u)):=by
 induction r with
 | nil=>exact .nil
 | @cons p q ps qs h t ih=>
  rw [List.map_cons,List.map_cons];refine .cons ?_ ih;obtain ⟨h1,h2,h3⟩:=h;unfold putAt;by_cases e:p.1=k
  ·rw [if_pos e,if_pos (h1.symm.trans e)];exact ⟨h1,h2,ry⟩
  ·rw [if_neg e,if_neg (fun z=>e (h1.trans z))];exact ⟨h1,h2,h3⟩
theorem KT.put {H:Hp} {kvs:List (List Key × V)} {xs:List (List Key × Addr × Value)} (r:KT H kvs xs) (k:List Key) {b:Addr} {y:V} {u:Value} (hb:H b=some (.tup (k.map kV))) (ry:Bd y u) :
  KT H (xq kvs k y) (storedH xs k b u):=by
 have e:(kvs.any fun kv=>decide (kv.1=k))=(atKey xs k).isSome:=by
  rw [Vt,(r.val k).isSome_eq,Option.isSome_map]
 unfold xq storedH;rw [e];by_cases q:(atKey xs k).isSome=true
 ·rw [if_pos q,if_pos q];exact r.repl k ry
 ·rw [if_neg q,if_neg q];exact Paired.snoc r ⟨rfl,hb,ry⟩
theorem KT.keeps {H H':Hp} {kvs:List (List Key × V)} {xs:List (List Key × Addr × Value)} (r:KT H kvs xs) (ht:∀ b ys,H b=some (.tup ys)→H' b=some (.tup ys)):KT H' kvs xs:=
 Paired.mapP r fun _ _ z=>⟨z.1,ht _ _ z.2.1,z.2.2⟩
section
variable {P:Program} {w:World} {H:Hp} {h:Heap} {a:Addr}
theorem NM {u:HO} (ok:HOk P w H h) (e:Rd H a u):Zd P w H h a u:=e.ok ok
theorem AG {kvs:List (Key × V)} (ok:HOk P w H h) (e:Rd H a (.dK kvs)):kvs.length ≤ sizeLine∧(a == sysModules)=false∧∃ vs,KV kvs vs∧h.DictOf (ue P w) a vs:=
 show Zd P w H h a (.dK kvs) from NM ok e
theorem yN {kvs:List (Key × V)} (ok:HOk P w H h) (e:H a=some (.dK kvs)):kvs.length ≤ sizeLine∧(a == sysModules)=false∧∃ vs,KV kvs vs∧h.DictOf (ue P w) a vs:=AG ok (.inl e)
theorem Zn {ks:List Key} (ok:HOk P w H h) (e:H a=some (.tup (ks.map kV))):(tupleKind (ue P w)).is h ks a:=by
 obtain ⟨_,its,r,o,h1,h2,n,h3⟩:=(show Zd P w H h a (.tup (ks.map kV)) from ok a _ e);exact ⟨o,its.toArray,n,h1,h2,h3,by simpa using Uu r⟩
theorem dG {kvs:List (List Key × V)} (ok:HOk P w H h) (e:Rd H a (.dT kvs)):kvs.length ≤ sizeLine∧(a == sysModules)=false ∧
  ∃ xs,KT H kvs xs∧h.DictOfH (tupleKind (ue P w)) a xs:=by
 obtain ⟨z,y,xs,r,o,es,ep,h1,h2,h3,h4,h5⟩:=(show Zd P w H h a (.dT kvs) from NM ok e);refine ⟨z,y,xs,r,o,es,ep,h1,h2,h3,h4,fun x hx=>?_,h5⟩;have all:∀ {l:List (List Key × V)} {m:List (List Key × Addr × Value)},KT H l m→∀ x ∈ m,(tupleKind (ue P w)).is h x.1 x.2.1:=by
  intro l m q
  induction q with
  | nil=>intro x hx;exact nomatch hx
  | @cons p q ps qs hq t ih=>
   intro x hx;rcases List.mem_cons.mp hx with e | hx
   ·subst e;exact Zn ok (by rw [← hq.1];exact hq.2.1)
   ·exact ih x hx
 exact all r x hx
theorem UG {kvs:List (List Key × V)} (ok:HOk P w H h) (e:H a=some (.dT kvs)):kvs.length ≤ sizeLine∧(a == sysModules)=false ∧
  ∃ xs,KT H kvs xs∧h.DictOfH (tupleKind (ue P w)) a xs:=dG ok (.inl e)
end
noncomputable def bA (H:Hp) (a:Addr) (y:V) (r:Option V):Prop:=
 (∃ kvs k,Rd H a (.dK kvs)∧y=kV k∧r=Ej kvs k)∨∃ kvs k b,Rd H a (.dT kvs)∧y=.ref b∧H b=some (.tup (k.map kV))∧r=Ej kvs k
noncomputable def DH (H:Hp) (a:Addr) (y v:V) (H':Hp):Prop:=
 (∃ kvs k,H a=some (.dK kvs)∧y=kV k∧kvs.length < sizeLine∧H'=upd H a (.dK (xq kvs k v))) ∨
 ∃ kvs k b,H a=some (.dT kvs)∧y=.ref b∧H b=some (.tup (k.map kV))∧kvs.length < sizeLine∧H'=upd H a (.dT (xq kvs k v))
theorem bA.k {H:Hp} {a:Addr} {kvs:List (Key × V)} {k:Key} (e:H a=some (.dK kvs)):bA H a (kV k) (Ej kvs k):=.inl ⟨kvs,k,.inl e,rfl,rfl⟩
theorem bA.t {H:Hp} {a b:Addr} {kvs:List (List Key × V)} {k:List Key} (e:H a=some (.dT kvs)) (eb:H b=some (.tup (k.map kV))):bA H a (.ref b) (Ej kvs k):=.inr ⟨kvs,k,b,.inl e,rfl,eb,rfl⟩
theorem DH.k {H:Hp} {a:Addr} {kvs:List (Key × V)} {k:Key} {v:V} (e:H a=some (.dK kvs)) (hl:kvs.length < sizeLine):DH H a (kV k) v (upd H a (.dK (xq kvs k v))):=.inl ⟨kvs,k,e,rfl,hl,rfl⟩
theorem DH.t {H:Hp} {a b:Addr} {kvs:List (List Key × V)} {k:List Key} {v:V} (e:H a=some (.dT kvs)) (eb:H b=some (.tup (k.map kV))) (hl:kvs.length < sizeLine) :
  DH H a (.ref b) v (upd H a (.dT (xq kvs k v))):=.inr ⟨kvs,k,b,e,rfl,eb,hl,rfl⟩
section
variable {X:Cx} {pins:List (Addr × Obj)} {σ:St} {H:Hp} {s:Shared} {a:Addr} {y v:V} {u r:Value} {o:Option V} {A:Around} {E:Value→Shared→Prop}
theorem Inv.big (I:Inv X pins σ H s):sysModules < s.heap.objs.size:=by
 have h:mainGlobals < s.heap.objs.size:=(I.mod.glob.keeps I.bk).lt;exact Nat.lt_trans (by decide) h
theorem sF {Q:Value→Shared→Prop} (hu:A.units + 1 < cLine) (I:Inv X pins σ H s) (g:bA H a y (some v)) (ry:Bd y u) (h:∀ w' s',Inv X pins σ H s'→Bd v w'→Q w' s') :
  wpAny (model X.prog X.w) A (getItem (.ref a) u) Q E s:=by
 rcases g with ⟨kvs,k,e,ey,l⟩ | ⟨kvs,k,b,e,ey,eb,l⟩
 ·subst ey;obtain ⟨z,hd,vs,rel,dd⟩:=AG I.hok e;obtain ⟨w',hw,rw'⟩:=As.some_of (v:=v) (o:=valueAt vs k) (by rw [l];exact rel.val k);exact wpAny_getItem_of (EH ry) dd.mapOf hw (h w' _ (I.tok _) rw')
 ·subst ey;cases (show u=Value.ref b from ry);obtain ⟨z,hd,xs,rel,dd⟩:=dG I.hok e;obtain ⟨w',hw,rw'⟩:=As.some_of (v:=v) (o:=(atKey xs k).map (·.2)) (by rw [l];exact rel.val k);obtain ⟨p,hp,hp2⟩:=Option.map_eq_some_iff.mp hw;refine wpAny_getItem_heap (tupleKind_room_in1 hu) (Zn I.hok eb) dd hp ?_;rw [hp2];exact h w' _ (I.tok _) rw'
theorem qK {Q:Value→Shared→Prop} (hu:A.units + 1 < cLine) (I:Inv X pins σ H s) (g:bA H a y o) (ry:Bd y u) (h:∀ s',Inv X pins σ H s'→Q (.bool (!o.isSome)) s') :
  wpAny (model X.prog X.w) A (compareOp .NotIn u (.ref a)) Q E s:=by
 rcases g with ⟨kvs,k,e,ey,l⟩ | ⟨kvs,k,b,e,ey,eb,l⟩
 ·subst ey;obtain ⟨z,hd,vs,rel,dd⟩:=AG I.hok e;refine wpAny_notIn_of (EH ry) hd dd.mapOf ?_;rw [← (rel.val k).isSome_eq,← l];exact h _ (I.tok _)
 ·subst ey;cases (show u=Value.ref b from ry);obtain ⟨z,hd,xs,rel,dd⟩:=dG I.hok e;refine wpAny_notIn_heap (tupleKind_room_in1 hu) (Zn I.hok eb) hd dd ?_;have q:=(rel.val k).isSome_eq;rw [Option.isSome_map] at q;rw [← q,← l];exact h _ (I.tok _)
theorem gD {h':Heap} {t':Nat} {ob:HO} (I:Inv X pins σ H s) (mu:Mut (H a)) (hs:Heap.SameBut a s.heap h') (he:∃ q,h'.get? a=some q) (new:Zd X.prog X.w (upd H a ob) h' a ob) :
  Inv X pins σ (upd H a ob) { s with heap:=h',toks:=t' }:=
 I.write (x:=a) (e:=a) mu (.inl rfl) (fun b q hb z=>(hs.2 b hb).trans z) he new
theorem lM {P:Program} {w:World} {H':Hp} {h':Heap} {kvs:List (Key × V)} {vs:List (Key × Value)} (z:kvs.length ≤ sizeLine) (hd:(a == sysModules)=false) (rel:KV kvs vs) (dd:h'.DictOf (ue P w) a vs) :
  Zd P w H' h' a (.dK kvs):=⟨z,hd,vs,rel,dd⟩
theorem Zu {H':Hp} {Q:Unit→Shared→Prop} (hu:A.units + 1 < cLine) (I:Inv X pins σ H s) (g:DH H a y v H') (ry:Bd y u) (rv:Bd v r) (h:∀ s',Inv X pins σ H' s'→Q () s') :
  wpAny (model X.prog X.w) A (setItem (.ref a) u r) Q E s:=by
 rcases g with ⟨kvs,k,e,ey,l,eH⟩ | ⟨kvs,k,b,e,ey,eb,l,eH⟩
 ·subst ey eH;obtain ⟨z,hd,vs,rel,dd⟩:=yN I.hok e;have hz:vs.length ≤ sizeLine:=by rw [← rel.length];exact z
  have hl:(xq kvs k v).length ≤ sizeLine:=by have:=vp kvs k v;omega
  refine wpAny_setItem_pairs (hsz:=hz) (EH ry) dd fun h' dd' hs=>h _ ?_
  have he:∃ q,h'.get? a=some q:=let ⟨q,_,_,hq,_⟩:=dd';⟨q,hq⟩;exact gD I (by rw [e];exact True.intro) hs he (lM hl hd (rel.put k rv) dd')
 ·subst ey eH;cases (show u=Value.ref b from ry);obtain ⟨z,hd,xs,rel,dd⟩:=UG I.hok e;have hz:xs.length ≤ sizeLine:=by rw [← Paired.length rel];exact z
  have hl:(xq kvs k v).length ≤ sizeLine:=by have:=vp kvs k v;omega
  refine wpAny_setItem_heap (hsz:=hz) (tupleKind_room_in1 hu) (Zn I.hok eb) dd fun h' dd' hs=>h _ ?_
  obtain ⟨q,es,ep,hq,h2,h3,h4,_,h5⟩:=dd';refine gD I (by rw [e];exact True.intro) hs ⟨q,hq⟩ ⟨hl,hd,_,(rel.put k eb rv).keeps fun c ys ec=>?_,q,es,ep,hq,h2,h3,h4,h5⟩;rw [Db (Ji ec e (fun z=>nomatch z))];exact ec
end
section
variable {X:Cx} {pins:List (Addr × Obj)} {σ:St} {H:Hp} {s:Shared} {a:Addr} {kvs:List (Key × V)} {k:Key} {u:Value} {A:Around} {E:Value→Shared→Prop}
end
noncomputable def TN (i:Expr):Prop:=∀ ov iv,subscripted i false ov iv=operate [ov,iv] (getItem ov iv)
theorem lD {prog:Program} {w:World} {A:Around} {E:Value→Shared→Prop} {s:Shared} {env:Env} {value slice:Expr} {pos:Pos} {T id:String} {Q:Value→Shared→Prop}
  (hl:typeLookup (.type T) "__getitem__"=pure (some (.builtin id))) (hs:TN slice)
  (h:wpAny (model prog w) A (eval value env) (fun o s₁=>wpAny (model prog w) A (eval slice env) (fun i s₂=>s₂.TypeIs o T∧wpAny (model prog w) A (getItem o i) Q E s₂) E s₁) E s) :
  wpAny (model prog w) A (eval (.Subscript value slice pos) env) Q E s:=by
 refine Subscript_ (wpAny_mono h (fun o s₁ h₁=>wpAny_mono h₁ (fun i s₂ h₂=>?_) fun _ _ x=>x) fun _ _ x=>x);obtain ⟨hT,h₂⟩:=h₂;unfold subscriptTail;refine wpAny_bind ?_;rw [getitemInPython_of_ne hT.not_modules];refine wpAny_bind (wpAny_specialOf hT hl ?_);have fin:wpAny (model prog w) A (subscripted slice false o i) (fun r s₃=>wpAny (model prog w) A (letTemporaryGo value o r >>= fun _=>pure r) Q E s₃) E s₂:=by
  rw [hs o i];exact wpAny_operating (wpAny_mono h₂ (fun r s₃ h₃=>wpAny_bind (wpAny_letTemporaryGo (wpAny_pure h₃))) fun _ _ x=>x)
 first
  | exact wpAny_pure (wpAny_bind fin)
  | exact wpAny_bind (wpAny_pure (wpAny_bind fin))
  | exact wpAny_bind fin
theorem Qw {X:Cx} {pins:List (Addr × Obj)} {σ:St} {H:Hp} {s:Shared} {a:Addr} {y:V} {o:Option V} (I:Inv X pins σ H s) (g:bA H a y o):s.TypeIs (.ref a) "dict" := by
 rcases g with ⟨kvs,k,e,_,_⟩ | ⟨kvs,k,b,e,_,_,_⟩
 ·obtain ⟨_,_,vs,_,dd⟩:=AG I.hok e;exact dd.typeIs
 ·obtain ⟨_,_,xs,_,dd⟩:=dG I.hok e;exact dd.typeIs
noncomputable def UL (td ty:TE):TE:=fun σ H Q=>td σ H fun x H1=>ty σ H1 fun y H2=>mh x fun a=>∃ v,bA H2 a y (some v)∧Q v H2
noncomputable def SC (ty td:TE):TE:=fun σ H Q=>ty σ H fun y H1=>td σ H1 fun x H2=>mh x fun a=>∃ o,bA H2 a y o∧Q (.bl (!o.isSome)) H2
noncomputable def yM (td ty tv:TE):TS:=fun D σ H=>tv σ H fun v H1=>td σ H1 fun x H2=>ty σ H2 fun y H3=>mh x fun a=>∃ H4,DH H3 a y v H4∧D.nx σ H4
section
variable {X:Cx} {o i e value:Expr} {pos pos' tpos:Pos} {td ty tv:TE}
theorem PK (hu:X.A.units + 1 < cLine) (ho:PE X o td) (hi:PE X i ty) (hs:TN i):PE X (.Subscript o i pos) (UL td ty):=by
 intro pins s σ H Q I h;refine lD PySem.F.slot_dict_getitem.lookup hs (thn (ho pins s σ H _ I h) fun u s1 ⟨x,H1,I1,rx,q1⟩=>thn (hi pins s1 σ H1 _ I1 q1) fun iv s2 hZ1=>?_);obtain ⟨y,H2,I2,ry,zq⟩:=hZ1;obtain ⟨a,ex,v,g,q2⟩:=mh.out zq;subst ex;obtain rfl:u=Value.ref a:=rx;exact ⟨Qw I2 g,sF hu I2 g ry fun w' s3 I3 rw'=>⟨v,H2,I3,rw',q2⟩⟩
theorem vD (hu:X.A.units + 1 < cLine) (hi:PE X i ty) (ho:PE X o td):PC X .NotIn i o (SC ty td):=by
 intro pins s σ H Q I h;refine thn (hi pins s σ H _ I h) fun iv s1 ⟨y,H1,I1,ry,q1⟩=>thn (ho pins s1 σ H1 _ I1 q1) fun u s2 hZ1=>?_
 obtain ⟨x,H2,I2,rx,zq⟩:=hZ1;obtain ⟨a,ex,ov,g,q2⟩:=mh.out zq;subst ex;obtain rfl:u=Value.ref a:=rx;exact qK hu I2 g ry fun s3 I3=>⟨.bl (!ov.isSome),H2,I3,rfl,q2⟩
theorem HK (hu:X.A.units + 1 < cLine) (ho:PE X o td) (hi:PE X i ty) (hv:PE X value tv) (hs:swapsWith value (some (.Subscript o i pos')) pos.line X.env=pure false) :
  PS X (.Assign [.Subscript o i pos'] value pos) (yM td ty tv):=by
 intro pins s σ H D I h;refine wpAny_Assign_Subscript (thn (hv pins s σ H _ I h) fun r s1 ⟨v,H1,I1,rv,q1⟩=>thn (ho pins s1 σ H1 _ I1 q1) fun u s2 ⟨x,H2,I2,rx,q2⟩=>thn (hi pins s2 σ H2 _ I2 q2) fun iv s3 hZ1=>?_) hs;obtain ⟨y,H3,I3,ry,zq⟩:=hZ1;obtain ⟨a,ex,H4,g,q3⟩:=mh.out zq;subst ex;obtain rfl:u=Value.ref a:=rx;exact Zu hu I3 g ry rv fun s4 I4=>⟨σ,H4,I4,q3⟩
end
theorem aH {P:Program} {w:World} {H:Hp} (h:Heap) (hb:sysModules < h.objs.size):Zd P w H (h.push { cls:=.type "dict",data:=.dict #[] }) h.objs.size (.dK []):=
 ⟨Nat.zero_le _,beq_eq_false_iff_ne.mpr (Ne.symm (Nat.ne_of_lt hb)),[],.nil,Heap.DictOf.new h⟩
theorem yG {P:Program} {w:World} {H:Hp} (h:Heap) (hb:sysModules < h.objs.size):Zd P w H (h.push { cls:=.type "dict",data:=.dict #[] }) h.objs.size (.dT []):=
 ⟨Nat.zero_le _,beq_eq_false_iff_ne.mpr (Ne.symm (Nat.ne_of_lt hb)),[],.nil,_,#[],0,Heap.get?_push_size _ rfl,⟨rfl,rfl,rfl⟩,rfl,rfl,List.nodup_nil⟩
noncomputable def cI:TE:=fun _ H Q=>∀ p,H p=none→Q (.ref p) (upd H p (.dK []))
noncomputable def GI:TE:=fun _ H Q=>∀ p,H p=none→Q (.ref p) (upd H p (.dT []))
section
variable {X:Cx} {pos:Pos}
theorem JG:PE X (.Dict [] [] pos) cI:=fun pins s σ H Q I h=>
 wpAny_Dict_empty ⟨.ref s.heap.objs.size,_,I.laid (a:=s.heap.objs.size) (o:=.dK []) (t':=s.toks) (fun _ _ q=>Heap.get?_push_of_some _ q) (Nat.le_refl _) (aH s.heap I.big),rfl,h _ (I.hok.fresh (Nat.le_refl _))⟩
theorem DG:PE X (.Dict [] [] pos) GI:=fun pins s σ H Q I h=>
 wpAny_Dict_empty ⟨.ref s.heap.objs.size,_,I.laid (a:=s.heap.objs.size) (o:=.dT []) (t':=s.toks) (fun _ _ q=>Heap.get?_push_of_some _ q) (Nat.le_refl _) (yG s.heap I.big),rfl,h _ (I.hok.fresh (Nat.le_refl _))⟩
end
noncomputable def xL (kvs more:List (Key × V)):List (Key × V):=more.foldl (fun acc kv=>xq acc kv.1 kv.2) kvs
theorem KV.merge:∀ {more:List (Key × V)} {rs:List (Key × Value)} {kvs:List (Key × V)} {vs:List (Key × Value)},KV more rs→KV kvs vs→KV (xL kvs more) (merged vs rs):=by
 intro more rs kvs vs r;unfold KV at r
 induction r generalizing kvs vs with
 | nil=>intro q;exact q
 | @cons p q ps qs h t ih=>
  intro r0;have e:KV (xq kvs p.1 p.2) (stored vs q.1 q.2):=by
   have:=r0.put p.1 h.2;rw [← h.1];exact this
  exact ih e
structure M1 (X:Cx) (o:Expr) (m:Str) (apos:Pos) (e:Expr) (cpos:Pos):Prop where
 base:attributeBase o m X.env (eval o X.env)=eval o X.env
 few:((backTo cpos (starEach [e] X.env)).all (fun x=>!x.1) && (backToKw cpos (keywordEach [] X.env)).all (fun x=>x.1.isSome)
  && decide (([e]:List Expr).length + ([]:List Keyword).length + (if ([]:List Keyword).isEmpty then 0 else 1) < 30))=true
 line:(apos.endLine == cpos.line)=true
 trees:backTo cpos (starEach [e] X.env)=[(false,eval e X.env)]
structure M2 (X:Cx) (o:Expr) (m:Str) (apos:Pos) (e f:Expr) (cpos:Pos):Prop where
 base:attributeBase o m X.env (eval o X.env)=eval o X.env
 few:((backTo cpos (starEach [e,f] X.env)).all (fun x=>!x.1) && (backToKw cpos (keywordEach [] X.env)).all (fun x=>x.1.isSome)
  && decide (([e,f]:List Expr).length + ([]:List Keyword).length + (if ([]:List Keyword).isEmpty then 0 else 1) < 30))=true
 line:(apos.endLine == cpos.line)=true
 trees:backTo cpos (starEach [e,f] X.env)=[(false,eval e X.env),(false,eval f X.env)]
section
variable {X:Cx} {pins:List (Addr × Obj)} {σ:St} {H:Hp} {s:Shared} {a:Addr} {y d:V} {u r:Value} {o:Option V} {A:Around} {E:Value→Shared→Prop}
end
section
variable {X:Cx} {o e f:Expr} {apos cpos:Pos} {td ty tx:TE}
end
section
variable {X:Cx} {pins:List (Addr × Obj)} {σ:St} {H:Hp} {s:Shared} {a:Addr} {kvs:List (Key × V)} {A:Around} {E:Value→Shared→Prop}
end
section
variable {X:Cx} {pins:List (Addr × Obj)} {σ:St} {H:Hp} {s:Shared} {a:Addr} {y:V} {u:Value} {A:Around} {E:Value→Shared→Prop}
end
end L2
namespace Att
open PySem PySem.W PySem.Calls PyProof.Rows
theorem Cp {P:Params} {h:Heap}:∀ (ns:List Int) (vs:List Value),WellAll P h vs (ns.map WData.int)→IntsAre vs ns:=by
 intro ns
 induction ns with
 | nil=>
  intro vs w;rw [List.map_nil] at w;cases w;exact .nil
 | cons n ns ih=>
  intro vs w;rw [List.map_cons] at w;cases w with
  | cons a b=>
   cases a;exact .cons _ _ (ih _ b)
theorem aF {l:OpenLaw} {n:Nat} (hn:l.most=some n) {P:Params} {h:Heap} {args:List WData} {vals:List Value}
  (hpre:l.row.toRowW.claim.pre args=true) (hwl:WellAll P h vals args) :
  ∃ a vs ns,vals=[Value.ref a]∧args=[WData.list (ns.map WData.int)]∧h.get? a=some { cls:=.type "list",data:=.seq vs.toArray }∧IntsAre vs ns∧ns.length ≤ n:=by
 have hsh:WShape.hasAll [] args [.list .int]=true:=(pre_splitW hpre).1;have hc:l.pre.holds [] { args:=args }=true:=(pre_splitW hpre).2;obtain ⟨d,r,rfl,h1,h2⟩:=hasAllW_cons hsh;obtain rfl:=hasAllW_nil h2;obtain ⟨xs,rfl,h3⟩:=hasW_list h1;obtain ⟨ns,rfl⟩:=items_int h3;have hlen:ns.length ≤ n:=by
  unfold OpenLaw.pre at hc;have h4:(WTm.not (.lt (.lit (.int (n:Int))) (.len (.arg 0)))).holds [] { args:=[.list (ns.map .int)] }=true:=by
   have h4:=(holds_andW hc).1;rw [hn] at h4;exact h4
  have h5:=condW_of h4 (w_not (w_lt w_lit (w_len_list (w_arg rfl))));rw [List.length_map] at h5;refine Nat.le_of_not_lt fun q=>?_
  have q':(n:Int) < ((ns.length:Nat):Int):=by omega
  first
   | (rw [decide_eq_true q'] at h5;exact absurd h5 (by decide))
   | (simp at h5;omega)
 cases hwl with
 | cons w1 w2=>
  cases w2;cases w1 with
  | list ho hall=>exact ⟨_,_,ns,rfl,rfl,ho,Cp ns _ hall,hlen⟩
theorem qC (l:OpenLaw) (args:List WData):l.row.toRowW.claim.post args (.bool true) args=true:=
 postW_of (r:=l.row.toRowW) (X:=(true == true))
  (show WShape.has [] (.bool true) .bool=true by first | rfl | decide | simp [WShape.has,WShape.arms,WShape.armsAll])
  (show (WTm.eq .res (.lit (.bool true))).value [] { args:=args,res:=some (.bool true),after:=args }=some (.bool (true == true)) from w_eq_bool (w_res rfl) w_lit) rfl
theorem attach_call {l:OpenLaw} {n:Nat} {q:Program} {loose:List Str} {XP:(Str→Option Value)→Heap→Prop} {YP:World→Heap→Prop} {d:DefRec}
  (hn:l.most=some n) (hdf:d.params.defaults=[])
  (call:∀ (w:World) (s₀ s₁:Shared) (mg mb:Str→Option Value) (fa:Addr) (o:Obj) (pm cd doc:Value) (a:Addr) (vs:List Value) (ns:List Int),
   Ground q loose [] XP w s₀ mg mb s₁.heap→YP w s₁.heap →
   s₁.heap.get? fa=some o→o.data=.func (docDef d.name d.params d.body d.scope pm cd doc)→s₁.heap.CodeRec cd d.name→mg d.name=some (.ref fa) →
   s₁.heap.get? a=some { cls:=.type "list",data:=.seq vs.toArray }→IntsAre vs ns→ns.length ≤ n→s₁.gens=#[] →
   codeAny (model l.prog w) callerA (.call (.ref fa) ⟨[.ref a],[]⟩) (fun r s'=>r=.ok (.ret (.bool true))∧OldK s₁.heap s'.heap∧s'.os=s₁.os∧AllBare s'.gens) s₁) :
  WalkO q loose XP YP l.row.toRowW d [] (fun f vs=>PySem.call f vs):=by
 intro w s₀ s₁ mg mb G Y fa o pm cd doc dV kV ho hd hcd hD hmg hg args vals as hpre hlay hrd hwl hlo;obtain rfl:dV=.none:=Dflts.none hD hdf;obtain rfl:kV=.none:=Dflts.noKw hD;obtain ⟨a,vs,ns,rfl,rfl,hobj,hints,hlen⟩:=aF hn hpre hwl;refine enter_call (codeAny_mono (call w s₀ s₁ mg mb fa o pm cd doc a vs ns G Y ho (fd_plain hd) hcd hmg hobj hints hlen hg) fun r s' hq=>?_);obtain ⟨rfl,h2,h3,h4⟩:=hq;exact ⟨.inl ⟨.bool true,.bool true,[],rfl,fun _=>rfl,.bool true,qC l _,fun _=>⟨List.Pairwise.nil,fun _ hm=>(nomatch hm)⟩⟩,h2,h3,h4⟩
section
variable {prog:Program} {w:World} {A:Around} {E:Value→Shared→Prop} {s:Shared} {K:Frag}
end
end Att
namespace L2
open PySem PySem.Spec PyProof.Rows
theorem Dv:∀ {vs:List Value} {ns:List Int},IntsAre vs ns→md (ns.map V.int) vs
 | _,_,.nil=>.nil
 | _,_,.cons n t h=>.cons ⟨t,rfl⟩ (Dv h)
noncomputable def jL (H:Hp):Prop:=∀ b,H b=none∨∃ o xs,H b=some (.frz o (.lst xs))
theorem qG {P:Program} {w:World} {K:PySem.W.Frag} {mg mb:Str→Option Value} {CX:CXT} {k:Nat} {fa a:Addr} {fd:FuncData} {x:Str} {sp:Sp} {s₁:Shared} {vs:List Value} {ns:List Int}
  (KX:K.In s₁.heap) (hns:s₁.heap.Ns mainGlobals mg) (hb:s₁.heap.Ns builtinsNs mb) (hbb:∀ x:Str,x ≠ "__name__" → mb x=bootBuiltins x) (hlim:s₁.heap.NoLimit) (hg:s₁.gens=#[])
  (ha:s₁.heap.get? a=some { cls:=.type "list",data:=.seq vs.toArray }) (hi:IntsAre vs ns) (hl:ns.length ≤ sizeLine) (hr:Gj k callerA)
  (F:∀ base:Heap,K.In base→base.Ns mainGlobals mg→Rb P w K mg base CX k fa fd [x] sp) (hbind:∀ (s:Shared) (u:Value),BindsTo s fd ⟨[u],[]⟩ [(x,u)])
  (hsp:∀ H:Hp,jL H→SqL K H a (ns.map V.int)→sp [.ref a] H (fun v _=>v=.bl true) fun _ _ _=>False)
  (hCX:∀ H e s',CX [] H s₁ (fun _ _ _=>False) e s'→False) :
  codeAny (model P w) callerA (.call (.ref fa) ⟨[.ref a],[]⟩) (fun r s'=>r=.ok (.ret (.bool true))∧OldK s₁.heap s'.heap∧s'.os=s₁.os∧AllBare s'.gens) s₁:=by
 have rv:=Dv hi;have lenV:=hi.length;have core:∀ H:Hp,jL H→SqL K H a (ns.map V.int)→HOk P w H s₁.heap→(∀ b,H b ≠ none→b=a)→(H a ≠ none→K.lookup a=none) →
   codeAny (model P w) callerA (.call (.ref fa) ⟨[.ref a],[]⟩) (fun r s'=>r=.ok (.ret (.bool true))∧OldK s₁.heap s'.heap∧s'.os=s₁.os∧AllBare s'.gens) s₁:=by
  intro H hO hS hok hA hK;have base_of:∀ {b:Addr} {o:Obj},s₁.heap.get? b=some o→H b=none→(pH s₁.heap H).get? b=some o:=fun e n=>NG e n
  have noA:∀ {b:Addr} {o:Obj} {es:Array DictEntry} {ep:Nat},s₁.heap.get? b=some o→o.data=.dict es ep→H b=none:=fun {b o es ep} e d=>by
   cases q:H b with
   | none=>rfl
   | some u=>
    have e':b=a:=hA b (by rw [q];simp);subst e';rw [ha] at e;cases e;have d':Data.seq vs.toArray _=Data.dict es ep:=d;cases d'
  have nsK:∀ {b:Addr} {m:Str→Option Value},s₁.heap.Ns b m→(pH s₁.heap H).Ns b m:=fun {b m} ⟨o,es,ep,e,d,r⟩=>⟨o,es,ep,base_of e (noA e d),d,r⟩
  have hKb:K.In (pH s₁.heap H):=fun b o e=>base_of (KX b o e) (by
   cases q:H b with
   | none=>rfl
   | some u=>
    have e':b=a:=hA b (by rw [q];simp);subst e';rw [hK (by rw [q];simp)] at e;cases e)
  have hM:Mod K mg (pH s₁.heap H):=⟨hKb,nsK hns,⟨mb,nsK hb,hbb⟩,let ⟨mc,h1,h2⟩:=hlim;⟨mc,nsK h1,h2⟩⟩;have e0:BE P w K mg (pH s₁.heap H) callerA [] s₁ H:=⟨rfl,hM,fun b o e=>UJ e,Nat.le_of_eq (oE _ _),trivial,fun b hb=>absurd (show b ∈ ([]:List Addr) from hb) (by simp),hok,.of_eq hg⟩;refine codeAny_mono ((F _ hKb (nsK hns)).run callerA [] s₁ H ⟨[.ref a],[]⟩ [.ref a] [.ref a] _ _ hr e0 (hbind s₁ (.ref a)) (.cons rfl .nil) (hsp H hO hS)) fun r s' h=>?_
  cases r with
  | error e=>exact (hCX H e s' h).elim
  | ok fl=>
   cases fl with
   | next=>exact False.elim h
   | brk=>exact False.elim h
   | cont=>exact False.elim h
   | ret u=>
    obtain ⟨v,H',os,bare,un,hok',r',q⟩:=h;have q':v=.bl true:=q;subst q';obtain rfl:u=Value.bool true:=r';refine ⟨rfl,OldK.of_keep fun b o e=>?_,os,bare⟩;cases q:H b with
    | none=>exact un.keep b o e q (by intro z;exact absurd (show b ∈ ([]:List Addr) from z) (by simp)) (by simp)
    | some u=>
     rcases hO b with z | ⟨ob,xs,z⟩
     ·rw [q] at z;cases z
     ·have z2:=un.frzs b ob _ z;obtain ⟨e1,_⟩:=hok b _ z;obtain ⟨e2,_⟩:=hok' b _ z2;rw [e] at e1;cases e1;exact e2
 cases hk:K.lookup a with
 | some o=>
  have e:=KX a o hk;rw [ha] at e;cases e;refine core (fun _=>none) (fun _=>.inl rfl) (.inr ⟨_,vs.toArray,_,hk,rfl,rfl,rfl,by rw [List.size_toArray,lenV];exact hl,by simpa using rv⟩) (fun b u z=>by have z':(none:Option HO)=some u:=z;cases z') (fun b z=>absurd rfl z) fun z=>absurd rfl z
 | none=>
  refine core (fun b=>if b=a then some (.frz { cls:=.type "list",data:=.seq vs.toArray } (.lst (ns.map V.int))) else none) (fun b=>?_) (.inl (.inr ⟨{ cls:=.type "list",data:=.seq vs.toArray },if_pos rfl⟩)) (fun b u z=>?_) (fun b z=>?_) fun _=>hk
  ·by_cases hb:b=a
   ·exact .inr ⟨_,_,if_pos hb⟩
   ·exact .inl (if_neg hb)
  ·by_cases hb:b=a
   ·have z':=(if_pos hb).symm.trans z;cases z';subst hb;exact ⟨ha,by rw [List.length_map];exact hl,vs,_,rv,ha⟩
   ·have z':=(if_neg hb).symm.trans z;cases z'
  ·by_cases hb:b=a
   ·exact hb
   ·exact absurd (if_neg hb) z
end L2
namespace L2
open PySem PySem.Spec PyProof.Rows
noncomputable abbrev KOf {K:PySem.W.Frag} {h:Heap} (_:K.In h):PySem.W.Frag:=K
theorem iJ {l:PySem.W.OpenLaw} {n k:Nat} {q:Program} {loose:List Str} {XP:(Str→Option Value)→Heap→Prop} {YP:World→Heap→Prop} {d:DefRec} {K:Params→PySem.W.Frag} {CX:World→CXT} {sp:World→Sp} {x:Str}
  (hn:l.most=some n) (hn2:n ≤ sizeLine) (hdf:d.params.defaults=[]) (hr:Gj k callerA)
  (hY:∀ (w:World) (h:Heap),YP w h→(K w.params).In h)
  (F:∀ (w:World) (mg:Str→Option Value) (fa:Addr) (h:Heap),(K w.params).In h→h.Ns mainGlobals mg→mg d.name=some (.ref fa) →
   ∃ fd:FuncData,(∀ (s:Shared) (u:Value),BindsTo s fd ⟨[u],[]⟩ [(x,u)]) ∧
    ∀ base:Heap,(K w.params).In base→base.Ns mainGlobals mg→Rb l.prog w (K w.params) mg base (CX w) k fa fd [x] (sp w))
  (hsp:∀ (w:World) (H:Hp) (a:Addr) (ns:List Int),ns.length ≤ n→jL H→SqL (K w.params) H a (ns.map V.int)→sp w [.ref a] H (fun v _=>v=.bl true) fun _ _ _=>False)
  (hCX:∀ (w:World) (H:Hp) (s:Shared) (e:Value) (s':Shared),CX w [] H s (fun _ _ _=>False) e s'→False) :
  PySem.W.WalkO q loose XP YP l.row.toRowW d [] (fun f vs=>PySem.call f vs):=by
 refine Att.attach_call hn hdf fun w s₀ s₁ mg mb fa o pm cd doc a vs ns G Y ho hd hcd hmg hobj hints hlen hg=>?_
 have KX:=hY w _ Y;obtain ⟨fd,hb,hF⟩:=F w mg fa _ KX G.T.g hmg;exact qG KX G.T.g G.T.b G.T.builtins G.T.nolimit hg hobj hints (Nat.le_trans hlen hn2) hr hF hb (fun H hO hS=>hsp w H a ns hlen hO hS) fun H e s'=>hCX w H s₁ e s'
theorem VF {l:PySem.W.OpenLaw} {n k:Nat} {q:Program} {loose:List Str} {XP:(Str→Option Value)→Heap→Prop} {YP:World→Heap→Prop} {d:DefRec} {K:Params→PySem.W.Frag} {CX:CXT} {sp:PySem.W.Frag→Sp} {x:Str}
  (hn:l.most=some n) (hn2:n ≤ sizeLine) (hdf:d.params.defaults=[]) (hr:Gj k callerA)
  (hY:∀ (w:World) (h:Heap),YP w h→(K w.params).In h)
  (F:∀ (w:World) (mg:Str→Option Value) (fa:Addr) (h:Heap),(K w.params).In h→h.Ns mainGlobals mg→mg d.name=some (.ref fa) →
   ∃ fd:FuncData,(∀ (s:Shared) (u:Value),BindsTo s fd ⟨[u],[]⟩ [(x,u)]) ∧
    ∀ base:Heap,(K w.params).In base→base.Ns mainGlobals mg→Rb l.prog w (K w.params) mg base CX k fa fd [x] (sp (K w.params)))
  (hsp:∀ (K:PySem.W.Frag) (H:Hp) (a:Addr) (ns:List Int),ns.length ≤ n→jL H→SqL K H a (ns.map V.int)→sp K [.ref a] H (fun v _=>v=.bl true) fun _ _ _=>False)
  (hCX:∀ (H:Hp) (s:Shared) (e:Value) (s':Shared),CX [] H s (fun _ _ _=>False) e s'→False) :
  PySem.W.WalkO q loose XP YP l.row.toRowW d [] (fun f vs=>PySem.call f vs):=
 iJ (K:=K) (CX:=fun _=>CX) (sp:=fun w=>sp (K w.params)) hn hn2 hdf hr hY F (fun w H a ns h1 h2 h3=>hsp (K w.params) H a ns h1 h2 h3) fun _ H s e s'=>hCX H s e s'
end L2
namespace L2
open PySem PySem.Spec PyProof.Rows
noncomputable def qd (s:Stmt) (j:Nat):Stmt:=match s with
 | .ClassDef _ _ _ body _ _ _ _ _ _ _=>body.getD j (.Pass ⟨0,0,0,0⟩)
 | _=>.Pass ⟨0,0,0,0⟩
noncomputable def Ct (s:Stmt):Arguments:=match s with
 | .FunctionDef _ a _ _ _ _ _ _ _ _=>a
 | _=>{ posonlyargs:=[],args:=[],vararg:=none,kwonlyargs:=[],kw_defaults:=[],kwarg:=none,defaults:=[] }
noncomputable def iq (s:Stmt):List Stmt:=match s with
 | .FunctionDef _ _ b _ _ _ _ _ _ _=>b
 | _=>[]
noncomputable def ub (s:Stmt):Scope:=match s with
 | .FunctionDef _ _ _ _ _ _ sc _ _ _=>sc
 | _=>{ kind:=.function,names:=[],isGenerator:=false,isCoroutine:=false }
noncomputable abbrev CX0:CXT:=fun _ _ _ _ _ _=>False
noncomputable abbrev E0:XK:=fun _ _ _=>False
theorem fe {X:Cx}:Zm CX0 X E0:=fun _ _ _ _ _ _ _ h=>h.elim
structure Fun (K:PySem.W.Frag) (x qual:Str) (st:Stmt) (f:Addr) (fd:FuncData):Prop where
 ex:∃ (oc:Value) (od:Option Addr) (kV doc pm:Value) (an:Option Addr) (cdv ct:Value) (osl:Array (Option Value)),
  fd=PySem.W.fnOf x qual (Ct st) (iq st) (ub st) .none kV doc pm an cdv ct∧K.lookup f=some ⟨oc,od,.func fd,osl⟩∧PySem.W.codeIn K cdv qual=true
 kp:PySem.W.keepIn K (.ref f)=true
section
variable {P:Program} {w:World} {K:PySem.W.Frag} {mg:Str→Option Value} {base:Heap}
theorem Fun.ok {x qual:Str} {st:Stmt} {f:Addr} {fd:FuncData} {N ps:List Str} {k:Nat} {sp:Sp} (F:Fun K x qual st f fd) (S:Fb N ps (ub st)) (len:∀ vs H Q E,sp vs H Q E→vs.length=ps.length)
  (hbody:∀ (cdv:Value) (A:Around) (outer:List Env) (s:Shared) (H:Hp) (vs:List V) (Q:VK) (E:XK),Gj k (A.deeper (envOfC qual (ub st) s.heap.objs.size f cdv))→sp vs H Q E →
   ∃ t,PSs (mK CX0 P w K mg base N qual (ub st) f cdv A outer s H E).nox (iq st) t∧t { nx:=fun _ H'=>Q .non H',rt:=Q } (start N vs) H):Rb P w K mg base CX0 (k + 1) f fd ps sp:=by
 obtain ⟨oc,od,kV,doc,pm,an,cdv,ct,osl,rfl,lk,hcd⟩:=F.ex;refine dO lk hcd S len fun A outer s H vs Q E hr hsp=>?_
 obtain ⟨t,h,q⟩:=hbody cdv A outer s H vs Q E hr hsp;exact ⟨t,h.nox,q⟩
theorem Fun.binds {x qual:Str} {st:Stmt} {f:Addr} {fd:FuncData} {ps:List Str} (F:Fun K x qual st f fd)
  (h:∀ (kV doc pm:Value) (an:Option Addr) (cdv ct:Value) (us:List Value),us.length=ps.length→bindArgs (PySem.W.fnOf x qual (Ct st) (iq st) (ub st) .none kV doc pm an cdv ct) ⟨us,[]⟩=pure (ps.zip us)):lc K fd ps []:=by
 obtain ⟨oc,od,kV,doc,pm,an,cdv,ct,osl,rfl,lk,hcd⟩:=F.ex;exact .all (h kV doc pm an cdv ct)
theorem HL {x qual:Str} {st:Stmt} {f:Addr} {oc:Value} {od an:Option Addr} {osl:Array (Option Value)} {kV doc pm cdv ct:Value} (l:K.lookup f=some ⟨oc,od,.func (PySem.W.fnOf x qual (Ct st) (iq st) (ub st) .none kV doc pm an cdv ct),osl⟩)
  (c:PySem.W.codeIn K cdv qual=true) (k:PySem.W.keepIn K (.ref f)=true):Fun K x qual st f (PySem.W.fnOf x qual (Ct st) (iq st) (ub st) .none kV doc pm an cdv ct):=⟨⟨oc,od,kV,doc,pm,an,cdv,ct,osl,rfl,l,c⟩,k⟩
end
theorem qk {A:Around} {k:Nat} (hr:Gj k A):A.units + 1 < cLine:=Nat.lt_of_le_of_lt (Nat.add_le_add_left (by decide:1 ≤ 64) _) hr.units
section
variable {X:Cx}
theorem pv (i:Nat) {x:Str} {pos:Pos} (hN:X.N[i]? = some x:=by rfl) (hv:Vis X.env.scope x:=by first | exact Or.inl rfl | exact Or.inr (Or.inl rfl) | exact Or.inr (Or.inr rfl)) (hd:(x == ("__debug__" : Str))=false:=by decide)
  (hcd:(x == ("__classdict__" : Str))=false:=by decide):PE X (.Name x pos) (wN i):=IM hN hv hd hcd
end
noncomputable def Tb (H H':Hp):Prop:=∀ b o,H b=some o→H' b=some o
theorem Tb.refl (H:Hp):Tb H H:=fun _ _ h=>h
theorem Tb.trans {H H1 H2:Hp} (a:Tb H H1) (b:Tb H1 H2):Tb H H2:=fun c o h=>b c o (a c o h)
theorem Tb.free {H H':Hp} (e:Tb H H') {l:Addr} (h:H' l=Option.none):H l=Option.none:=by
 cases q:H l with
 | none=>rfl
 | some o=>
  rw [e l o q] at h;cases h
theorem Tb.seq {K:PySem.W.Frag} {H H':Hp} {a:Addr} {xs:List V} (e:Tb H H') (h:SqL K H a xs):SqL K H' a xs:=by
 rcases h with (h | ⟨o,h⟩) | h
 ·exact .inl (.inl (e _ _ h))
 ·exact .inl (.inr ⟨o,e _ _ h⟩)
 ·exact .inr h
section
variable {κ:Type} [DecidableEq κ]
theorem rG {kvs:List (κ × V)} {k:κ} (h:Ej kvs k=none):¬ k ∈ kvs.map (·.1):=by
 intro m;obtain ⟨p,hp,e⟩:=List.mem_map.mp m;have q:(kvs.any fun kv=>decide (kv.1=k))=true:=List.any_eq_true.mpr ⟨p,hp,decide_eq_true e⟩;rw [Vt,h] at q;exact absurd q (by simp)
end
end L2
set_option maxHeartbeats 4000000
namespace L2
open PySem PySem.Spec PyProof.Rows
noncomputable def Eu (cells:List (Str × Addr)):List (Str × NameKind)→List (Str × Addr)→List (Str × Addr)
 | [],acc=>acc
 | (n,k) :: r,acc=>if k == .free then (match cells.lookup n with | some c=>Eu cells r ((n,c) :: acc) | none=>Eu cells r acc) else Eu cells r acc
theorem Gw {env:Env}:∀ (names:List (Str × NameKind)) (acc:List (Str × Addr)),(∀ y ∈ names,y.2=.free→∃ c,env.cells.lookup y.1=some c) →
  (forIn names acc (fun (x:Str × NameKind) (cs:List (Str × Addr))=>(if (x.2 == .free)=true then do let a ← cellOf env x.1;pure (ForInStep.yield ((x.1,a) :: cs)) else pure (ForInStep.yield cs):Sem (ForInStep (List (Str × Addr))))))=pure (Eu env.cells names acc)
 | [],acc,_=>rfl
 | (n,k) :: r,acc,h=>by
  have hr:∀ y ∈ r,y.2=.free→∃ c,env.cells.lookup y.1=some c:=fun y hy=>h y (List.mem_cons_of_mem _ hy)
  rw [List.forIn_cons];by_cases hk:(k == NameKind.free)=true
  ·have e:k=.free:=by simpa using hk
   obtain ⟨c,hc⟩:=h (n,k) List.mem_cons_self e;have hc':env.cells.lookup n=some c:=hc;simp only [Eu,hk,if_true,hc',cellOf];exact Gw r _ hr
  ·simp only [Eu,hk];exact Gw r _ hr
theorem eF {scope:Scope} {env:Env} (h:∀ y ∈ scope.names,y.2=.free→∃ c,env.cells.lookup y.1=some c):closureFor scope env=pure (Eu env.cells scope.names []):=by
 unfold closureFor;exact congrArg (fun t=>t >>= pure) (Gw scope.names [] h)
theorem Po {cells:List (Str × Addr)}:∀ (names:List (Str × NameKind)) (acc:List (Str × Addr)) {x:Str} {c:Addr},(Eu cells names acc).lookup x=some c→acc.lookup x=some c∨cells.lookup x=some c
 | [],acc,x,c,h=>.inl h
 | (n,k) :: r,acc,x,c,h=>by
  unfold Eu at h;split at h
  ·cases q:cells.lookup n with
   | none=>rw [q] at h;exact Po r acc h
   | some d=>
    rw [q] at h;rcases Po r _ h with z | z
    ·rw [List.lookup_cons] at z;by_cases hx:(x == n)=true
     ·rw [hx] at z;have e:x=n:=by simpa using hx
      subst e
      right;rw [q];exact z
     ·have hx':(x == n)=false:=by simpa using hx
      rw [hx'] at z;exact .inl z
    ·exact .inr z
  ·exact Po r acc h
theorem Om {cells:List (Str × Addr)}:∀ (names:List (Str × NameKind)) (acc:List (Str × Addr)) {x:Str} {c:Addr},acc.lookup x=some c→cells.lookup x=some c→(Eu cells names acc).lookup x=some c
 | [],acc,x,c,h,_=>h
 | (n,k) :: r,acc,x,c,h,hc=>by
  unfold Eu;split
  ·cases q:cells.lookup n with
   | none=>exact Om r acc h hc
   | some d=>
    refine Om r _ ?_ hc;rw [List.lookup_cons];by_cases hx:(x == n)=true
    ·have e:x=n:=by simpa using hx
     subst e;rw [hx];rw [q] at hc;exact hc
    ·have hx':(x == n)=false:=by simpa using hx
     rw [hx'];exact h
  ·exact Om r acc h hc
theorem um {cells:List (Str × Addr)}:∀ (names:List (Str × NameKind)) (acc:List (Str × Addr)) {x:Str} {c:Addr},(x,NameKind.free) ∈ names→cells.lookup x=some c→(Eu cells names acc).lookup x=some c
 | [],_,_,_,h,_=>nomatch h
 | (n,k) :: r,acc,x,c,h,hc=>by
  rcases List.mem_cons.mp h with e | h
  ·cases e;unfold Eu;rw [if_pos (by decide),hc];refine Om r _ ?_ hc;rw [List.lookup_cons];simp
  ·unfold Eu;split
   ·cases q:cells.lookup n with
    | none=>exact um r acc h hc
    | some d=>exact um r _ h hc
   ·exact um r acc h hc
theorem Nn {α:Type}:∀ {l:List (Str × α)} {x:Str} {a:α},l.lookup x=some a→(x,a) ∈ l
 | [],_,_,h=>by simp at h
 | (n,b) :: r,x,a,h=>by
  rw [List.lookup_cons] at h;by_cases hx:(x == n)=true
  ·have e:x=n:=by simpa using hx
   subst e;rw [hx] at h;have e2:b=a:=Option.some.inj h;subst e2;exact List.mem_cons_self
  ·have hx':(x == n)=false:=by simpa using hx
   rw [hx'] at h;exact List.mem_cons_of_mem _ (Nn h)
theorem wx {env:Env} {scope:Scope} {x:Str} {k:NameKind} (h:(relabel scope env).names.lookup x=some k) (hk:k=.cell∨k=.free) (hc:∀ y ∈ scope.names,y.2 ≠ .cell):(x,NameKind.free) ∈ scope.names:=by
 have h1:=Nn h;obtain ⟨⟨n,j⟩,hm,e⟩:=List.mem_map.mp h1;have e':(if (j == NameKind.free && env.scope.kind == .function && env.kindOf n == some .cell)=true then (n,NameKind.cell) else (n,j))=(x,k):=e;split at e'
 ·rename_i hcond;have e1:n=x:=(Prod.mk.inj e').1;subst e1;have hj:j=.free:=by
   simp only [Bool.and_eq_true] at hcond;simpa using hcond.1.1
  subst hj;exact hm
 ·have e1:n=x:=(Prod.mk.inj e').1;have e2:j=k:=(Prod.mk.inj e').2;subst e1;subst e2;rcases hk with z | z
  ·exact absurd z (hc _ hm)
  ·subst z;exact hm
theorem Zl {env:Env} {scope:Scope} {x:Str} (h:scope.names.lookup x=some .free):(relabel scope env).names.lookup x=some .cell∨(relabel scope env).names.lookup x=some .free:=by
 have all:∀ (names:List (Str × NameKind)),names.lookup x=some .free →
   (names.map fun (n,k)=>if (k == NameKind.free && env.scope.kind == .function && env.kindOf n == some .cell) then (n,NameKind.cell) else (n,k)).lookup x=some .cell ∨
   (names.map fun (n,k)=>if (k == NameKind.free && env.scope.kind == .function && env.kindOf n == some .cell) then (n,NameKind.cell) else (n,k)).lookup x=some .free:=by
  intro names
  induction names with
  | nil=>intro h;simp at h
  | cons p r ih=>
   obtain ⟨n,k⟩:=p;intro h;rw [List.map_cons];by_cases hx:(x == n)=true
   ·simp only [List.lookup_cons,hx] at h;have hk:k=.free:=Option.some.inj h;subst hk;by_cases hc:(NameKind.free == NameKind.free && env.scope.kind == .function && env.kindOf n == some .cell)=true
    ·left;simp only [if_pos hc,List.lookup_cons,hx]
    ·right;simp only [if_neg hc,List.lookup_cons,hx]
   ·have hx':(x == n)=false:=by simpa using hx
    simp only [List.lookup_cons,hx'] at h;by_cases hc:(k == NameKind.free && env.scope.kind == .function && env.kindOf n == some .cell)=true
    ·simp only [if_pos hc,List.lookup_cons,hx'];exact ih h
    ·simp only [if_neg hc,List.lookup_cons,hx'];exact ih h
 exact all scope.names h
noncomputable abbrev Cx.block (X:Cx) (scope:Scope) (C:Addr) (N:List Str) (s:Shared) (H:Hp) (fp:List Addr):Cx where
 prog:=X.prog
 w:=X.w
 K:=X.K
 mg:=X.mg
 base:=X.base
 A:=X.A
 N:=N
 s₀:=s
 H₀:=H
 env:=compEnvC scope (Eu X.env.cells scope.names []) C X.env
 outer:=X.stack
 stack:=X.stack
 ex:=fp
 fn:=fun _=>false
 calm:=X.calm
 pn:=[]
 xe:=fun _ _=>False
structure bo (env:Env) (scope:Scope):Prop where
 kind:scope.kind=.function
 nocell:∀ y ∈ scope.names,y.2 ≠ .cell
 fr:∀ y ∈ scope.names,y.2=.free→env.kindOf y.1=some .cell∨env.kindOf y.1=some .free
 loc:∀ x ∈ scope.names,x.2=.local→scope.names.lookup x.1=some .local
noncomputable def blk (sel:List (Option Nat)) (σ:St):St:=sel.map fun o=>o.bind fun j=>(σ[j]?).join
noncomputable def PD (M:List Str) (scope:Scope) (N:List Str) (sel:List (Option Nat)):Prop:=
 sel.length=N.length∧∀ (i j:Nat) (x:Str),sel[i]? = some (some j)→N[i]? = some x→M[j]? = some x∧scope.names.lookup x=some .free
section
variable {X:Cx} {pins:List (Addr × Obj)} {σ:St} {H:Hp} {s:Shared} {scope:Scope} {fp:List Addr} {C:Addr} {N:List Str}
theorem bo.cells (S:bo X.env scope) (ok:X.Ok):∀ y ∈ scope.names,y.2=.free→∃ c,X.env.cells.lookup y.1=some c:=fun y hy e=>ok.has y.1 (S.fr y hy e)
theorem Fs {x:Str} {c:Addr} (h:(Eu X.env.cells scope.names []).lookup x=some c):X.env.cells.lookup x=some c:=by
 rcases Po _ _ h with z | z
 ·simp at z
 ·exact z
theorem Bz (I:Inv X pins σ H s) (S:bo X.env scope) (hf:∀ b ∈ fp,su X pins H b) (hs:∀ b ∈ fp,b < s.heap.objs.size) (hC:s.heap.objs.size ≤ C):(X.block scope C N s H fp).Ok where
 mod:=I.ok.mod
 kind:=S.kind
 glob:=I.ok.glob
 blt:=I.ok.blt
 above:=hC
 inj:=fun x y c h1 h2=>I.ok.inj x y c (Fs h1) (Fs h2)
 has:=fun x h=>by
  have hk:∃ k,(relabel scope X.env).names.lookup x=some k∧(k=.cell∨k=.free):=by
   rcases h with h | h
   ·exact ⟨_,h,.inl rfl⟩
   ·exact ⟨_,h,.inr rfl⟩
  obtain ⟨k,h1,h2⟩:=hk;have hm:=wx h1 h2 S.nocell;obtain ⟨c,hc⟩:=S.cells I.ok _ hm rfl;exact ⟨c,um _ _ hm hc⟩
 cab:=fun _ _ h _=>nomatch h
 hd:=I.ok.hd
 frames:=I.ok.frames
 stk:=.inl rfl
 exf:=fun b hb=>⟨Nat.ne_of_lt (Nat.lt_of_lt_of_le (hs b hb) hC),fun x c e=>(hf b hb).2.2.2.2.1 x c (Fs e)⟩
 bs:=I.bs
 bsz:=Nat.le_trans I.ok.bsz I.sz
 noex:=fun b o e hb=>by
  rcases (hf b hb).2.2.2.1 with z | z
  ·exact I.ok.noex b o e z
  ·exact absurd (Nat.lt_of_lt_of_le (Nat.lt_of_lt_of_le (Heap.lt_size e) I.ok.bsz) z) (Nat.lt_irrefl _)
 exfs:=fun b hb hz=>by
  rcases List.mem_cons.mp (I.stkSub b hz) with z | z
  ·exact (hf b hb).2.1 z
  ·exact (hf b hb).2.2.1 z
 funs:=I.stack
 frf:=I.stkFree
theorem xF {h':Heap} {t':Nat} {m:Str→Option Value} {sel:List (Option Nat)} (I:Inv X pins σ H s) (S:bo X.env scope) (hf:∀ b ∈ fp,su X pins H b) (hs:∀ b ∈ fp,b < s.heap.objs.size) (hC:s.heap.objs.size ≤ C)
  (k:∀ b o,s.heap.get? b=some o→h'.get? b=some o) (hn:h'.Ns C m) (hsel:PD X.N scope N sel):Inv (X.block scope C N s H fp) [] (blk sel σ) H { s with heap:=h',toks:=t' } where
 ok:=Bz I S hf hs hC
 os:=rfl
 bare:=I.bare
 base:=Un.kept k
 loc:=by
  refine ⟨m,hn,fun i x v e1 e2 e3=>?_⟩;obtain ⟨m0,hn0,hl⟩:=I.loc;obtain ⟨j,ej,eσ⟩:∃ j,sel[i]? = some (some j)∧σ[j]? = some (some v):=by
   unfold blk at e2;rw [List.getElem?_map] at e2;cases q:sel[i]? with
   | none=>rw [q] at e2;cases e2
   | some o=>
    rw [q] at e2;cases o with
    | none=>cases e2
    | some j=>
     refine ⟨j,rfl,?_⟩;have e2':(σ[j]?).join=some v:=Option.some.inj e2;cases r:σ[j]? with
     | none=>rw [r] at e2';cases e2'
     | some z=>rw [r] at e2';exact congrArg some e2'
  obtain ⟨eN,hfr⟩:=hsel.2 i j x ej e1;have hm:=Nn hfr;have hk:=S.fr _ hm rfl;have hv:Vis X.env.scope x:=hk.elim (fun z=>.inr (.inl z)) fun z=>.inr (.inr z)
  obtain ⟨u,r,l⟩:=hl j x v eN eσ hv;refine ⟨u,r,?_⟩;rcases l with ⟨hloc,_⟩ | ⟨_,c,hc,hcell⟩
  ·rcases hk with z | z <;> (have z':X.env.kindOf x=_:=z;rw [hloc] at z';cases z')
  ·refine .inr ⟨?_,c,um _ _ hm hc,?_⟩
   ·exact Zl hfr
   ·obtain ⟨o,ho,hd⟩:=hcell;exact ⟨o,k _ _ ho,hd⟩
 cell:=fun x c e=>by
  obtain ⟨v,o,ho,hd⟩:=I.cell x c (Fs e);exact ⟨v,o,k _ _ ho,hd⟩
 free:=I.hok.fresh hC
 freeC:=fun x c e=>I.freeC x c (Fs e)
 pin:=fun p hp=>nomatch hp
 hok:=I.hok.kept k
 len:=by unfold blk;rw [List.length_map];exact hsel.1
theorem Inv.adopt {a:Addr} {o:HO} (I:Inv X pins σ H s) (fo:su X pins H a) (new:Zd X.prog X.w (upd H a o) s.heap a o):Inv X pins σ (upd H a o) s:=by
 obtain ⟨hn,hL,hfs,hex,hcl,hpn⟩:=fo;refine I.step (g':=s.gens) (d':=s.drawn) (t':=s.toks) (h':=s.heap) (ch:=[a]) (fun b hb=>?_) (fun b o _ _ _ e _=>e) (fun b o _ _ _ e _=>⟨o.slots,e⟩) (fun b o hb e n=>?_) (fun b o _ e=>⟨o,e⟩)
  (fun b xs e=>?_) (fun b o u e=>?_) (fun b ps e=>⟨#[],?_⟩) (fun m hm=>hm) (fun b u e=>?_) I.bare
 ·have e:b=a:=by simpa using hb
  subst e;exact ⟨hex,hL,hcl,hpn⟩
 ·rw [Db (fun z=>hb (by simp [z]))];exact n
 ·rw [Db (Jb e hn)];exact e
 ·rw [Db (Jb e hn)];exact e
 ·rw [Db (Jb e hn),e];simp
 ·by_cases hb:b=a
  ·subst hb;rw [gb] at e;cases e;exact new
  ·rw [Db hb] at e;exact (I.hok b u e).stay (fun c v _ q=>q) (fun c q=>by rw [Db (Jb q hn)];exact q) fun c xs q=>by rw [Db (Jb q hn)];exact q
end
theorem gl {prog:Program} {w:World} {A:Around} {R:Result→Shared→Prop} {s:Shared} {elt target iter:Expr} {ifs:List Expr} {scope:Scope} {pos:Pos} {it acc:Value} {env:Env} (I:Nat→Shared→Prop)
  (turn:∀ n s,I n s→wpAny (model prog w) A (pyNext it) (fun r s₁=>match r with
   | none=>R (.ok .next) s₁
   | some v=>wpAny (model prog w) A (letOwnedTupleGo target it v) (fun _ s₀=>wpAny (model prog w) A (assign target env v) (fun _ s₂=>
     wpAny (model prog w) A (forIn ifs true fun c r=>if r=true then do let ok ← isTrue c env (eval c env);pure (ForInStep.yield ok) else pure (ForInStep.yield r)) (fun ok s₃=>
      if ok=true then wpAny (model prog w) A (eval elt env) (fun x s₄=>
       wpAny (model prog w) A (call (.builtin "list.append") [acc,x]) (fun _ s₅=>∃ m,m < n∧I m s₅) (fun _ _=>False) s₄) (fun _ _=>False) s₃
      else ∃ m,m < n∧I m s₃) (fun _ _=>False) s₂) (fun _ _=>False) s₀) (fun _ _=>False) s₁) (fun _ _=>False) s)
  (n:Nat) (h:I n s) :
  codeAny (model prog w) A (.compLoop (.ListComp elt [⟨target,iter,ifs,0⟩] scope pos) 0 it acc env) R s:=by
 refine codeAny_loop rfl I (fun n s hI=>?_) n h;show wpAny _ A ((compTurn (.ListComp elt [⟨target,iter,ifs,0⟩] scope pos) 0 it acc env).onRaise (fun x=>do noteFrame x env;theTreesLotGoes x)) _ _ s;refine wpAny_noted (wpAny_noRaise ?_);rw [compTurn_list];refine wpAny_bind (wpAny_standAt (wpAny_bind (wpAny_mono (turn n s hI) (fun r s₁ h₁=>?_) fun _ _ h'=>h')));cases r with
 | none=>exact wpAny_pure h₁
 | some v=>
  refine wpAny_bind (wpAny_mono h₁ (fun _ s₀ h₀=>?_) fun _ _ h'=>h');refine wpAny_bind (wpAny_mono h₀ (fun _ s₂ h₂=>wpAny_bind (wpAny_mono h₂ (fun ok s₃ h₃=>?_) fun _ _ h'=>h')) fun _ _ h'=>h');cases ok with
  | false=>exact wpAny_pure ⟨rfl,h₃⟩
  | true=>
   exact wpAny_bind (wpAny_bind (wpAny_mono h₃ (fun x s₄ h₄=>wpAny_bind (wpAny_mono h₄ (fun _ s₅ h₅=>wpAny_pure (wpAny_pure ⟨rfl,h₅⟩)) fun _ _ h'=>h')) fun _ _ h'=>h'))
noncomputable def PTs (X:Cx) (ifs:List Expr) (t:TT):Prop:=
 ∀ (pins:List (Addr × Obj)) (s:Shared) (σ:St) (H:Hp) (Q:Bool→Hp→Prop),Inv X pins σ H s→t σ H Q →
  wpAny (model X.prog X.w) X.A (forIn ifs true fun c r=>if r=true then do let ok ← isTrue c X.env (eval c X.env);pure (ForInStep.yield ok) else pure (ForInStep.yield r)) (TP X pins σ Q) X.xe s
noncomputable def Ov:TT:=fun _ H Q=>Q true H
theorem gf {X:Cx}:PTs X [] Ov:=fun _ _ _ H _ I h=>wpAny_tests_nil ⟨H,I,h⟩
theorem ut {X:Cx} {c:Expr} {t:TT} (h:PT X c t):PTs X [c] t:=fun pins s σ H Q I q=>wpAny_tests_one (h pins s σ H Q I q)
noncomputable def Sub (σ σ':St):Prop:=σ'.length=σ.length∧∀ (i:Nat) (v:V),σ[i]? = some (some v)→σ'[i]? = some (some v)
theorem Sub.refl (σ:St):Sub σ σ:=⟨rfl,fun _ _ h=>h⟩
theorem Sub.set {σ σ':St} {i:Nat} {x:Option V} (h:Sub σ σ') (e:σ[i]? = some none):Sub σ (σ'.set i x):=by
 refine ⟨by rw [List.length_set];exact h.1,fun j v q=>?_⟩;have hj:i ≠ j:=fun z=>by subst z;rw [e] at q;cases q
 rw [List.getElem?_set_ne hj];exact h.2 j v q
noncomputable def ox (J:It) (g:TG) (tc:TT) (te:TE) (σb:St) (Q:VK) (W:Nat→Nat→List V→Hp→Prop):Prop:=∀ i m ys H,W i m ys H →
 (J.stop i H∧∀ p,H p=none→Q (.ref p) (upd H p (.lst ys))) ∨
 (J.go i H∧ys.length < sizeLine∧∀ x H',J.yld i H x H'→g x σb H' fun σ2 H2=>Sub σb σ2∧tc σ2 H2 fun c H3=>if c=true then te σ2 H3 fun y H4=>∃ m',m' < m∧W (i + 1) m' (ys ++ [y]) H4 else ∃ m',m' < m∧W (i + 1) m' ys H3)
noncomputable def lK (wi:TI) (g:TG) (tc:TT) (te:TE) (sel:List (Option Nat)):TE:=fun σ H Q=>wi σ H fun J H1=>∃ W:Nat→Nat→List V→Hp→Prop,(∃ m,W 0 m [] H1)∧ox J g tc te (blk sel σ) Q W
section
variable {X:Cx} {elt tg iter:Expr} {ifs:List Expr} {scope:Scope} {pos:Pos} {wi:TI} {g:TG} {tc:TT} {te:TE} {N:List Str} {sel:List (Option Nat)}
structure Blk (X:Cx) (scope:Scope) (N:List Str) (tg elt:Expr) (ifs:List Expr) (g:TG) (tc:TT) (te:TE):Prop where
 tgt:∀ C s H fp,PG (X.block scope C N s H fp) tg g
 tests:∀ C s H fp,PTs (X.block scope C N s H fp) ifs tc
 elem:∀ C s H fp,PE (X.block scope C N s H fp) elt te
theorem Blk.of {X:Cx} {scope:Scope} {N:List Str} {tg elt:Expr} {ifs:List Expr} {g:TG} {tc:TT} {te:TE} (h1:∀ C s H fp,PG (X.block scope C N s H fp) tg g)
  (h2:∀ C s H fp,∃ t,PTs (X.block scope C N s H fp) ifs t∧t=tc) (h3:∀ C s H fp,∃ t,PE (X.block scope C N s H fp) elt t∧t=te):Blk X scope N tg elt ifs g tc te:=
 ⟨h1,fun C s H fp=>by obtain ⟨t,h,rfl⟩:=h2 C s H fp;exact h,fun C s H fp=>by obtain ⟨t,h,rfl⟩:=h3 C s H fp;exact h⟩
theorem sv {pins:List (Addr × Obj)} {s₂:Shared} {σ:St} {H₂:Hp} {Q:VK} {it:Addr} {fp:List Addr} {tn:Nat→Heap→Prop} {J:It} {W:Nat→Nat→List V→Hp→Prop} {E:Value→Shared→Prop} {RR:Value→Addr→Result→Shared→Prop}
  (hc:X.calm=true) (S:bo X.env scope) (hsel:PD X.N scope N sel) (B:Blk X scope N tg elt ifs g tc te) (I2:Inv X pins σ H₂ s₂) (T:MF X.prog X.w X.K tg J fp it tn) (st2:tn 0 s₂.heap) (f2:∀ b ∈ fp,su X pins H₂ b)
  (w0:∃ m,W 0 m [] H₂) (hW:ox J g tc te (blk sel σ) Q W)
  (fin:∀ D C ys H' s',Inv X pins σ (upd H' D (.lst ys)) s'→(∃ m,s'.heap.Ns C m)→su X pins (upd H' D (.lst ys)) C→Q (.ref D) (upd H' D (.lst ys))→RR (.ref D) C (.ok .next) s') :
  wpAny (model X.prog X.w) X.A (newList []) (fun acc s₃=>wpAny (model X.prog X.w) X.A (newFunctionEnv scope X.env.globals (Eu X.env.cells scope.names []) [] X.env.qual none .none (some X.env)) (fun cenv s₄=>
   codeAny (model X.prog X.w) X.A (.compStart (.ListComp elt [⟨tg,iter,ifs,0⟩] scope pos) 0 (.ref it) acc { cenv with scope:=relabel scope X.env }) (RR acc cenv.locals) s₄) E s₃) E s₂:=by
 refine wpAny_newObj_type (wpAny_newFunctionEnv S.nocell (by intro y hy;simp at hy) (fun h₁ hns₁ hsb₁=>?_) S.kind);dsimp only at hns₁ hsb₁ ⊢;generalize hH2:s₂.heap.push { cls:=.type "list",dict:=none,data:=.seq ([]:List Value).toArray }=H2 at hns₁ hsb₁ ⊢;have hC:H2.objs.size=s₂.heap.objs.size + 1:=by rw [← hH2,Heap.size_push]
 have hDC:s₂.heap.objs.size ≠ H2.objs.size:=by rw [hC];exact Nat.ne_of_lt (Nat.lt_succ_self _)
 have hCle:s₂.heap.objs.size ≤ H2.objs.size:=by rw [hC];exact Nat.le_succ _
 have below:∀ b,b < s₂.heap.objs.size→b ≠ H2.objs.size∧b ≠ s₂.heap.objs.size:=fun b hb=>⟨by rw [hC];exact Nat.ne_of_lt (Nat.lt_succ_of_lt hb),Nat.ne_of_lt hb⟩
 have old:∀ b o,s₂.heap.get? b=some o→h₁.get? b=some o:=fun b o e=>hsb₁.extBut b o (below b (Heap.lt_size e)).1 (Heap.get?_push_of_some _ (hH2 ▸ Heap.get?_push_of_some _ e))
 have hacc:h₁.get? s₂.heap.objs.size=some { cls:=.type "list",data:=.seq ([]:List Value).toArray }:=hsb₁.extBut _ _ hDC (Heap.get?_push_of_some _ (hH2 ▸ Heap.get?_push_size _ rfl));have fps:∀ b ∈ fp,b < s₂.heap.objs.size:=fun b hb=>by
  obtain ⟨o,e,_⟩:=T.obj _ _ st2 b hb;exact Heap.lt_size e
 generalize hCe:H2.objs.size=C at *;generalize hDe:s₂.heap.objs.size=D at *;have st1:tn 0 h₁:=T.keep _ _ _ st2 fun b _ o e=>old b o e
 have IB0:Inv (X.block scope C N s₂ H₂ fp) [] (blk sel σ) H₂ { s₂ with heap:=h₁,toks:=s₂.toks + ([]:List (Str × Value)).length }:=
  xF I2 S f2 (fun b hb=>by rw [hDe];exact fps b hb) (by rw [hDe];exact hCle) old hns₁ hsel
 have hDfs:D ∉ (X.block scope C N s₂ H₂ fp).fs:=fun z=>by
  have z':=I2.stkSub D z;rcases List.mem_cons.mp z' with e | e
  ·exact absurd I2.lt (by rw [← e,hDe];exact Nat.lt_irrefl _)
  ·exact I2.nofs (by rw [hDe];exact Nat.le_refl _) e
 have loop:∀ s₃:Shared,s₃ = { s₂ with heap:=h₁,toks:=s₂.toks + ([]:List (Str × Value)).length } →
   codeAny (model X.prog X.w) X.A (.compLoop (.ListComp elt [⟨tg,iter,ifs,0⟩] scope pos) 0 (.ref it) (.ref D) (compEnvC scope (Eu X.env.cells scope.names []) C X.env)) (RR (.ref D) C) s₃:=by
  rintro s₃ rfl;obtain ⟨m0,w0⟩:=w0;refine gl (fun k s'=>∃ i ys us n H',Inv (X.block scope C N s₂ H₂ fp) [(D,{ cls:=.type "list",data:=.seq us n })] (blk sel σ) H' s'∧(∃ vs:List Value,us=vs.toArray∧md ys vs)∧ys.length ≤ sizeLine∧tn i s'.heap∧(∀ b ∈ fp,H' b=none)∧W i k ys H') ?_ m0
   ⟨0,[],_,0,H₂,IB0.pins_of fun p hp=>?_,⟨[],rfl,.nil⟩,Nat.zero_le _,st1,fun b hb=>(f2 b hb).1,w0⟩
  ·rintro k s' ⟨i,ys,us,n,H',IB,⟨vs,rfl,rv⟩,hyz,st,fr,w⟩;have fpB:∀ {pl:List (Addr × Obj)} {H'':Hp},(∀ p ∈ pl,p.1=D)→(∀ b ∈ fp,H'' b=none)→∀ b ∈ fp,su (X.block scope C N s₂ H₂ fp) pl H'' b:=fun {pl H''} hp hn b hb=>
    ⟨hn b hb,(below b (fps b hb)).1,(Bz (N:=N) (C:=C) I2 S f2 (fun b hb=>by rw [hDe];exact fps b hb) (by rw [hDe];exact hCle)).exfs b hb,.inl hb,fun x c e=>(f2 b hb).2.2.2.2.1 x c (Fs e),fun p hpp z=>by
     have hpp':p ∈ pl:=by simpa using hpp
     exact (below b (fps b hb)).2 (by rw [← z];exact hp p hpp')⟩
   have hD1:∀ p ∈ [((D,{ cls:=.type "list",data:=.seq vs.toArray n }):Addr × Obj)],p.1=D:=fun p hp=>by
    have e:p=(D,{ cls:=.type "list",data:=.seq vs.toArray n }):=by simpa using hp
    rw [e]
   rcases hW i k ys H' w with ⟨stop,qn⟩ | ⟨go,hlen,step⟩
   ·refine thn (T.done (X.block scope C N s₂ H₂ fp) rfl rfl rfl hc i _ s' _ H' _ IB (fpB hD1 fr) st stop) fun r s4 hZ1=>?_
    obtain ⟨hr,I4⟩:=hZ1;subst hr;have pD:=I4.pin (D,{ cls:=.type "list",data:=.seq vs.toArray n }) (by simp);have hDn:H' D=none:=pD.2.1;have IX:Inv X pins σ H' s4:=I2.call' (ch:=fp) I4.os I4.base I4.hok I4.bare fun b hb=>⟨(f2 b hb).2.2.2.1,(f2 b hb).2.1,(f2 b hb).2.2.2.2.1,(f2 b hb).2.2.2.2.2⟩
    have foD:su X pins H' D:=I2.fpOk (by rw [hDe];exact Nat.le_refl _) hDn;have IA:Inv X pins σ (upd H' D (.lst ys)) s4:=IX.adopt foD ⟨hyz,vs,n,rv,pD.1⟩;obtain ⟨mC,hnC,_⟩:=I4.loc;refine fin D C ys H' s4 IA ⟨mC,hnC⟩ (I2.fpOk (by rw [hDe];exact hCle) ?_) (qn D hDn);rw [Db (Ne.symm hDC)];exact I4.free
   ·refine thn (T.item (X.block scope C N s₂ H₂ fp) rfl rfl rfl hc i _ s' _ H' _ IB (fpB hD1 fr) st go) fun r s4 hZ1=>?_
    obtain ⟨u,hr,h4⟩:=hZ1;subst hr;refine thn h4 fun _ s5 hZ1=>?_
    obtain ⟨x,H5,I5,r5,y5,st5,fr5⟩:=hZ1;have I5':=I5.pinned (fpB hD1 fr5) (T.obj _ _ st5);refine thn (B.tgt C s₂ H₂ fp _ s5 _ H5 x u _ I5' r5 (step x H5 y5)) fun _ s6 hZ1=>?_
    obtain ⟨σ6,H6,I6,sb,q6⟩:=hZ1;refine thn (B.tests C s₂ H₂ fp _ s6 σ6 H6 _ I6 q6) fun c s7 hZ1=>?_
    obtain ⟨H7,I7,q7⟩:=hZ1;have again:∀ {σ8:St} {H8:Hp} {s8:Shared},Inv (X.block scope C N s₂ H₂ fp) ([(D,{ cls:=.type "list",data:=.seq vs.toArray n })] ++ iw fp s5.heap) σ8 H8 s8→tn (i + 1) s8.heap∧(∀ b ∈ fp,H8 b=none):=fun {σ8 H8 s8} I8=>by
     refine ⟨T.keep _ _ _ st5 fun b hb o e=>(I8.pin (b,o) (List.mem_append_right _ (List.mem_append_right _ (Gk hb e)))).1,fun b hb=>?_⟩;obtain ⟨o,e,d⟩:=T.obj _ _ st5 b hb;exact (I8.pin (b,o) (List.mem_append_right _ (List.mem_append_right _ (Gk hb e)))).2.1
    have back:∀ {H8:Hp} {s8:Shared} {pl:List (Addr × Obj)},Inv (X.block scope C N s₂ H₂ fp) pl σ6 H8 s8→Inv (X.block scope C N s₂ H₂ fp) pl (blk sel σ) H8 s8:=fun {H8 s8 pl} I8=>I8.weak sb.1.symm sb.2
    cases c with
    | false=>
     obtain ⟨m',hm,w'⟩:=q7;obtain ⟨t1,t2⟩:=again I7;exact ⟨m',hm,i + 1,ys,_,n,H7,back I7.unpinned,⟨vs,rfl,rv⟩,hyz,t1,t2,w'⟩
    | true=>
     refine thn (B.elem C s₂ H₂ fp _ s7 σ6 H7 _ I7 q7) fun v s8 hZ1=>?_
     obtain ⟨y,H8,I8,r8,m',hm,w'⟩:=hZ1;obtain ⟨t1,t2⟩:=again I8;have pD:=I8.pin (D,{ cls:=.type "list",data:=.seq vs.toArray n }) (by simp);refine append_at (hsz:=by have:=rv.length;rw [List.size_toArray];omega) pD.1 fun h9 hs9 hD9=>?_
     have IB':Inv (X.block scope C N s₂ H₂ fp) [] (blk sel σ) H8 s8:=(back I8).pins_of fun p hp=>nomatch hp
     have foD:su (X.block scope C N s₂ H₂ fp) [] H8 D:=⟨pD.2.1,hDC,hDfs,.inr (by show s₂.heap.objs.size ≤ D;rw [hDe];exact Nat.le_refl _),(fun x c e z=>by
      obtain ⟨cv,o,ho,hd⟩:=I8.cell x c e;rw [z,pD.1] at ho;cases ho;cases hd),(fun p hp=>nomatch hp)⟩
     have I9:Inv (X.block scope C N s₂ H₂ fp) [] (blk sel σ) H8 { s8 with heap:=h9 }:=IB'.turned (t':=s8.toks) (it:=D) (fun b o hb e=>(hs9.2 b hb).trans e) foD.1 foD.2.1 foD.2.2.2.1 foD.2.2.2.2.1 foD.2.2.2.2.2;refine ⟨m',hm,i + 1,ys ++ [y],vs.toArray.push v,n + 1,H8,I9.pins_of fun p hp=>?_,⟨vs ++ [v],by simp,Paired.snoc rv r8⟩,by rw [List.length_append,List.length_singleton];omega,T.keep _ _ _ t1 fun b hb o e=>(hs9.2 b (below b (fps b hb)).2).trans e,t2,w'⟩;have e:p=(D,{ cls:=.type "list",data:=.seq (vs.toArray.push v) (n + 1) }):=by simpa using hp
     subst e;exact ⟨hD9,pD.2.1,hDC,hDfs,fun v z=>by cases z⟩
  ·have e:p=(D,{ cls:=.type "list",data:=.seq ([]:List Value).toArray }):=by simpa using hp
   subst e;exact ⟨hacc,I2.hok.fresh (by rw [hDe];exact Nat.le_refl _),hDC,hDfs,fun v z=>by cases z⟩
 exact codeAny_compStart_list (loop _ rfl) (T.self _ 0 _ _ _ st1 (loop _ rfl))
theorem Og (hc:X.calm=true) (hi:PI X tg iter wi) (S:bo X.env scope) (hsel:PD X.N scope N sel) (B:Blk X scope N tg elt ifs g tc te)
  (hs:∀ x,foldedSetIterable iter X.env x=pure x:=by intro _;rfl):PE X (.ListComp elt [⟨tg,iter,ifs,0⟩] scope pos) (lK wi g tc te sel):=by
 intro pins s σ H Q I h;rw [eval_ListComp];refine wpAny_comprehension_free (use:=none) rfl hs (eF (S.cells I.ok)) S.kind S.loc ?_;refine thn (hi pins s σ H _ I h) fun v s1 h1=>thn h1 fun itv s2 h2=>?_
 obtain ⟨it,fp,tn,J,H2,e,I2,T,st2,f2,W,w0,hW⟩:=h2;subst e;refine sv (RR:=fun acc C=>compPost (model X.prog X.w) X.A X.xe none (EP X pins σ Q) acc C) hc S hsel B I2 T st2 f2 w0 hW fun D C ys H' s' I' ⟨m,hm⟩ fo q=>?_
 exact ⟨m,hm,fun h' hsb=>⟨.ref D,_,I'.turned (t':=s'.toks) (it:=C) (fun b o hb e=>(hsb.2 b hb).trans e) fo.1 fo.2.1 fo.2.2.2.1 fo.2.2.2.2.1 fo.2.2.2.2.2,rfl,q⟩⟩
theorem pf {i:Nat} {y:Str} {py spos:Pos} (hN:X.N.Nodup) (hi:X.N[i]? = some y) (hx:Loc X.env.scope y) (hc:X.calm=true) (hit:PI X tg iter wi) (S:bo X.env scope) (hsel:PD X.N scope N sel) (B:Blk X scope N tg elt ifs g tc te)
  (hsw:swapsWith (.ListComp elt [⟨tg,iter,ifs,0⟩] scope pos) (some (.Name y py)) spos.line X.env=pure true) (hf:X.fn y=true∨X.env.scope.names.lookup y=some .local:=by first | exact .inl rfl | exact .inr rfl | assumption)
  (hs:∀ x,foldedSetIterable iter X.env x=pure x:=by intro _;rfl):PS X (.Assign [.Name y py] (.ListComp elt [⟨tg,iter,ifs,0⟩] scope pos) spos) (WK (lK wi g tc te sel) (Xq i)):=by
 intro pins s σ H D I h;rw [exec_Assign_Name_used _ _ _ _ hsw];refine wpAny_bind (wpAny_standAt (wpAny_bind ?_));show wpAny _ X.A (do let _ ← comprehension (.ListComp elt [⟨tg,iter,ifs,0⟩] scope pos) scope X.env _ (newList []) false (eval iter X.env) (some (assign (.Name y py) X.env))) _ _ s;refine wpAny_bind (wpAny_mono (wpAny_comprehension_free (use:=some (assign (.Name y py) X.env)) (Q:=fun _ s'=>SP X pins D .next s') rfl hs (eF (S.cells I.ok)) S.kind S.loc ?_) (fun _ s' hq=>wpAny_pure (wpAny_pure hq)) fun _ _ e=>e);refine thn (hit pins s σ H _ I h) fun v s1 h1=>thn h1 fun itv s2 h2=>?_
 obtain ⟨it,fp,tn,J,H2,e,I2,T,st2,f2,W,w0,hW⟩:=h2;subst e;refine sv (RR:=fun acc C=>compPost (model X.prog X.w) X.A X.xe (some (assign (.Name y py) X.env)) (fun _ s'=>SP X pins D .next s') acc C) hc S hsel B I2 T st2 f2 w0 hW fun Da C ys H' s' I' ⟨m,hm⟩ fo q=>?_
 show wpAny _ X.A (assign (.Name y py) X.env (.ref Da)) _ _ _;refine wpAny_assign_Name (gw I' hN hi hx (show Bd (.ref Da) (.ref Da) from rfl) (fun s3 I3 hZ1=>?_) hf);obtain ⟨a,hsb,ha⟩:=hZ1;have hCa:C ≠ a:=by
  rcases ha with z | z
  ·rw [z];exact fo.2.1
  ·exact fun w=>fo.2.2.2.2.1 y a z w.symm
 refine ⟨m,hm.sameBut hsb hCa,fun h' hsb'=>⟨_,_,I3.turned (t':=s3.toks) (it:=C) (fun b o hb e=>(hsb'.2 b hb).trans e) fo.1 fo.2.1 fo.2.2.2.1 fo.2.2.2.2.1 fo.2.2.2.2.2,q⟩⟩
end
noncomputable def Xf (Pv:Nat→List V→Hp→Prop) (g:TG) (tc:TT) (te:TE) (σb:St) (i:Nat) (x:V) (ys:List V) (H:Hp):Prop:=
 ∀ N:List V→Hp→Prop,(∀ ys' H',Pv (i + 1) ys' H'→N ys' H')→g x σb H fun σ2 H2=>Sub σb σ2∧tc σ2 H2 fun c H3=>if c=true then te σ2 H3 fun y H4=>N (ys ++ [y]) H4 else N ys H3
theorem aD {K:PySem.W.Frag} {a:Addr} {xs:List V} {g:TG} {tc:TT} {te:TE} {σb:St} {Q:VK} {H:Hp} (Pv:Nat→List V→Hp→Prop) (hz:xs.length ≤ sizeLine) (h0:Pv 0 [] H) (hl:∀ i ys H,i ≤ xs.length→Pv i ys H→SqL K H a xs∧ys.length ≤ i)
  (hs:∀ i x ys H,xs[i]? = some x→Pv i ys H→Xf Pv g tc te σb i x ys H) (hd:∀ ys H,Pv xs.length ys H→∀ p,H p=none→Q (.ref p) (upd H p (.lst ys))) :
  ∃ W:Nat→Nat→List V→Hp→Prop,(∃ m,W 0 m [] H)∧ox (Itl K a) g tc te σb Q W:=by
 refine ⟨fun i m ys H=>m=xs.length - i∧i ≤ xs.length∧Pv i ys H,⟨xs.length,by simp,Nat.zero_le _,h0⟩,?_⟩;rintro i m ys H ⟨rfl,hi,p⟩;have q:=(hl i ys H hi p).1;have hyl:=(hl i ys H hi p).2;by_cases hlt:i < xs.length
 ·refine .inr ⟨⟨xs,xs[i],q,by simp [hlt]⟩,by omega,fun x H' y=>?_⟩;obtain ⟨e,y⟩:=y;subst e;exact hs i x ys _ (y xs q) p (fun ys' H'=>∃ m',m' < xs.length - i∧m'=xs.length - (i + 1)∧i + 1 ≤ xs.length∧Pv (i + 1) ys' H') fun ys' H' r=>⟨xs.length - (i + 1),by omega,rfl,hlt,r⟩
 ·have e:i=xs.length:=by omega
  subst e;exact .inl ⟨⟨xs,q,Nat.le_refl _⟩,hd ys H p⟩
theorem tH {K:PySem.W.Frag} {a:Addr} {xs:List V} {g:TG} {tc:TT} {te:TE} {σb:St} {Q:VK} {H:Hp} (Pv:Nat→List V→Hp→Prop) (hz:xs.length ≤ sizeLine) (h0:Pv 0 [] H) (hl:∀ i ys H,i ≤ xs.length→Pv i ys H→SqT K H a xs∧ys.length ≤ i)
  (hs:∀ i x ys H,xs[i]? = some x→Pv i ys H→Xf Pv g tc te σb i x ys H) (hd:∀ ys H,Pv xs.length ys H→∀ p,H p=none→Q (.ref p) (upd H p (.lst ys))) :
  ∃ W:Nat→Nat→List V→Hp→Prop,(∃ m,W 0 m [] H)∧ox (Itt K a) g tc te σb Q W:=by
 refine ⟨fun i m ys H=>m=xs.length - i∧i ≤ xs.length∧Pv i ys H,⟨xs.length,by simp,Nat.zero_le _,h0⟩,?_⟩;rintro i m ys H ⟨rfl,hi,p⟩;have q:=(hl i ys H hi p).1;have hyl:=(hl i ys H hi p).2;by_cases hlt:i < xs.length
 ·refine .inr ⟨⟨xs,xs[i],q,by simp [hlt]⟩,by omega,fun x H' y=>?_⟩;obtain ⟨e,y⟩:=y;subst e;exact hs i x ys _ (y xs q) p (fun ys' H'=>∃ m',m' < xs.length - i∧m'=xs.length - (i + 1)∧i + 1 ≤ xs.length∧Pv (i + 1) ys' H') fun ys' H' r=>⟨xs.length - (i + 1),by omega,rfl,hlt,r⟩
 ·have e:i=xs.length:=by omega
  subst e;exact .inl ⟨⟨xs,q,Nat.le_refl _⟩,hd ys H p⟩
theorem GB {lo:Int} {n:Nat} {g:TG} {tc:TT} {te:TE} {σb:St} {Q:VK} {H:Hp} (Pv:Nat→List V→Hp→Prop) (hz:n ≤ sizeLine) (h0:Pv 0 [] H) (hl:∀ i ys H,i ≤ n→Pv i ys H→ys.length ≤ i)
  (hs:∀ i ys H,i < n→Pv i ys H→Xf Pv g tc te σb i (.int (lo + i)) ys H) (hd:∀ ys H,Pv n ys H→∀ p,H p=none→Q (.ref p) (upd H p (.lst ys))) :
  ∃ W:Nat→Nat→List V→Hp→Prop,(∃ m,W 0 m [] H)∧ox (Itr lo n) g tc te σb Q W:=by
 refine ⟨fun i m ys H=>m=n - i∧i ≤ n∧Pv i ys H,⟨n,by simp,Nat.zero_le _,h0⟩,?_⟩;rintro i m ys H ⟨rfl,hi,p⟩;have hyl:=hl i ys H hi p;by_cases hlt:i < n
 ·refine .inr ⟨hlt,by omega,fun x H' y=>?_⟩;obtain ⟨e,y⟩:=y;subst e y;exact hs i ys _ hlt p (fun ys' H'=>∃ m',m' < n - i∧m'=n - (i + 1)∧i + 1 ≤ n∧Pv (i + 1) ys' H') fun ys' H' r=>⟨n - (i + 1),by omega,rfl,hlt,r⟩
 ·have e:i=n:=by omega
  subst e;exact .inl ⟨Nat.le_refl _,hd ys H p⟩
end L2
namespace L2
open PySem PySem.Spec PyProof.Rows
noncomputable def Its (xs:List V):It:=⟨fun i _=>i < xs.length,fun i H x H'=>H'=H∧xs[i]? = some x,fun i _=>xs.length ≤ i⟩
theorem Ys {P:Program} {w:World} {K:PySem.W.Frag} {tg:Expr} {it:Addr} {xs:List V} {PV:Nat→Value→Prop} {St:Nat→Heap→Prop} (hW:∀ A:Around,A.handled=none→Walks P w A it [it] [it] xs.length PV St)
  (hP:∀ i v,PV i v→∃ x,xs[i]? = some x∧Bd x v)
  (hgo:∀ i h,St i h→∃ o n vs,h.get? it=some o∧o.cls=.type n∧o.data=.fields vs∧["enumerate","zip","dict_itemiterator","dict_reverseitemiterator","odict_iterator","itertools.zip_longest","itertools.pairwise"].contains n=false)
  (hfr:∀ i h h',St i h→(∀ o,h.get? it=some o→h'.get? it=some o)→St i h')
  (hself:∀ (A:Around) (i:Nat) (s:Shared) (Q:Value→Shared→Prop) (E:Value→Shared→Prop),St i s.heap→Q (.ref it) s→wpAny (model P w) A (pyIter (.ref it)) Q E s) :
  MF P w K tg (Its xs) [it] it (fun i h=>i ≤ xs.length∧St i h) where
 mem:=by simp
 obj:=fun i h st b hb=>by
  have e:b=it:=by simpa using hb
  subst e;obtain ⟨o,n,vs,e,_,d,_⟩:=hgo i h st.2;exact ⟨o,e,fun v z=>by rw [d] at z;cases z⟩
 keep:=fun i h h' st k=>⟨st.1,hfr i h h' st.2 fun o e=>k it (by simp) o e⟩
 item:=by
  intro X hP' hw hK hc i pins s σ H E I hf st hg;subst hP' hw hK;obtain ⟨f0,f1,f2,f3,f4,f5⟩:=hf it (by simp);refine (hW X.A (I.ok.hd hc)).item i s _ _ hg st.2 fun v h' tk hv st' kk=>?_
  obtain ⟨x,hx,rx⟩:=hP i v hv;have I1:Inv X pins σ H { s with heap:=h',toks:=tk }:=I.turned (fun b o hb e=>kk b o (by simpa using hb) e) f0 f1 f3 f4 f5;obtain ⟨o,n,vs,e,c,d,nm⟩:=hgo _ _ st';exact ⟨v,rfl,jD (s:={ s with heap:=h',toks:=tk }) e c d nm ⟨x,H,I1,rx,⟨rfl,hx⟩,⟨hg,st'⟩,fun b hb=>(hf b hb).1⟩⟩
 done:=by
  intro X hP' hw hK hc i pins s σ H E I hf st hg;subst hP' hw hK;obtain ⟨f0,f1,f2,f3,f4,f5⟩:=hf it (by simp);have e:i=xs.length:=Nat.le_antisymm st.1 hg;subst e;exact (hW X.A (I.ok.hd hc)).done s _ _ st.2 fun h' tk kk=>⟨rfl,I.turned (fun b o hb e=>kk b o (by simpa using hb) e) f0 f1 f3 f4 f5⟩
 self:=fun A i s Q E st h=>hself A i s Q E st.2 h
noncomputable def Rv (c:Nat):Str:=⟨#[c]⟩
noncomputable def vj (x:Str):List V:=x.cps.toList.map fun c=>V.str (Rv c)
theorem Bm (x:Str):(vj x).length=x.cps.size:=by unfold vj;simp
theorem mE {x:Str} {i c:Nat} (h:x.cps[i]? = some c):(vj x)[i]? = some (.str (Rv c)):=by
 unfold vj;rw [List.getElem?_map,Array.getElem?_toList,h];rfl
theorem Us {x:Str} {i:Nat} {v:Value} (h:SignAt x i v):∃ y,(vj x)[i]? = some y∧Bd y v:=by
 obtain ⟨c,u,hc,rfl⟩:=h;exact ⟨.str (Rv c),mE hc,u,rfl⟩
section
variable {X:Cx} {tg:Expr}
noncomputable def sO (tl:TE):TI:=fun σ H R=>tl σ H fun x H1=>∃ z,x=.str z∧R (Its (vj z)) H1
theorem eM {l:Expr} {tl:TE} (hl:PE X l tl):PI X tg l (sO tl):=by
 intro pins s σ H R I h;refine thn (hl pins s σ H _ I h) fun v s1 hZ1=>?_
 obtain ⟨x,H1,I1,r1,q1⟩:=hZ1;obtain ⟨z,e,q⟩:=q1;subst e;obtain ⟨t,rfl⟩:=r1;have fo:∀ b ∈ [s1.heap.objs.size],su X pins H1 b:=fun b hb=>by
  have e:b=s1.heap.objs.size:=by simpa using hb
  subst e;exact I1.fpOk (Nat.le_refl _) (I1.hok.fresh (Nat.le_refl _))
 have hz:=Bm z;cases ha:z.cps.all (· < 128) with
 | false=>
  refine wpAny_pyIter_wide ha ⟨s1.heap.objs.size,[s1.heap.objs.size],fun i h=>i ≤ (vj z).length∧h.IsStrIter s1.heap.objs.size "str_iterator" z t i,_,H1,rfl,I1.kept (t':=s1.toks) fun b o e=>Heap.get?_push_of_some _ e,
   Ys (fun A hA=>by rw [hz];exact Walks.strWide hA _ z t) (fun i v=>Us) (fun i h ⟨o,e,c,d⟩=>⟨o,_,_,e,c,d,by decide⟩) (fun i h h' ⟨o,e,r⟩ k=>⟨o,k o e,r⟩) (fun A i s Q E st q=>wpAny_pyIter_striter_wide st q),
   ⟨Nat.zero_le _,_,Heap.get?_push_size _ rfl,rfl,rfl⟩,fo,q⟩
 | true=>
  refine wpAny_pyIter_ascii ha ⟨s1.heap.objs.size,[s1.heap.objs.size],fun i h=>i ≤ (vj z).length∧h.IsStrIter s1.heap.objs.size "str_ascii_iterator" z t i,_,H1,rfl,I1.kept (t':=s1.toks) fun b o e=>Heap.get?_push_of_some _ e,
   Ys (fun A hA=>by rw [hz];exact Walks.strAscii hA _ z t) (fun i v=>Us) (fun i h ⟨o,e,c,d⟩=>⟨o,_,_,e,c,d,by decide⟩) (fun i h h' ⟨o,e,r⟩ k=>⟨o,k o e,r⟩) (fun A i s Q E st q=>wpAny_pyIter_striter_ascii st q),
   ⟨Nat.zero_le _,_,Heap.get?_push_size _ rfl,rfl,rfl⟩,fo,q⟩
end
theorem DK {xs:List V} {g:TG} {tb:TS} {D:sj} {σ:St} {H:Hp} (Pv:Nat→St→Hp→Prop) (h0:Pv 0 σ H)
  (hs:∀ i x σ H,xs[i]? = some x→Pv i σ H→g x σ H fun σ2 H2=>tb { D with nx:=Pv (i + 1),ct:=Pv (i + 1),bk:=D.nx } σ2 H2) (hd:∀ σ H,Pv xs.length σ H→D.nx σ H) :
  ∃ W:Nat→Nat→St→Hp→Prop,(∃ m,W 0 m σ H)∧∀ i m σ H,W i m σ H →
   ((Its xs).stop i H∧D.nx σ H)∨((Its xs).go i H∧∃ N:St→Hp→Prop,(∀ σ' H',N σ' H'→∃ m',m' < m∧W (i + 1) m' σ' H')∧∀ x H',(Its xs).yld i H x H'→g x σ H' fun σ2 H2=>tb { D with nx:=N,ct:=N,bk:=D.nx } σ2 H2):=by
 refine ⟨fun i m σ H=>m=xs.length - i∧i ≤ xs.length∧Pv i σ H,⟨xs.length,by simp,Nat.zero_le _,h0⟩,?_⟩;rintro i m σ H ⟨rfl,hi,p⟩;by_cases hlt:i < xs.length
 ·refine .inr ⟨hlt,Pv (i + 1),fun σ' H' p'=>⟨xs.length - (i + 1),by omega,rfl,hlt,p'⟩,fun x H' y=>?_⟩;obtain ⟨e,y⟩:=y;subst e;exact hs i x σ _ y p
 ·have e:i=xs.length:=by omega
  subst e;exact .inl ⟨Nat.le_refl _,hd σ H p⟩
theorem WG {xs:List V} {g:TG} {tc:TT} {te:TE} {σb:St} {Q:VK} {H:Hp} (Pv:Nat→List V→Hp→Prop) (hz:xs.length ≤ sizeLine) (h0:Pv 0 [] H) (hl:∀ i ys H,i ≤ xs.length→Pv i ys H→ys.length ≤ i)
  (hs:∀ i x ys H,xs[i]? = some x→Pv i ys H→Xf Pv g tc te σb i x ys H) (hd:∀ ys H,Pv xs.length ys H→∀ p,H p=none→Q (.ref p) (upd H p (.lst ys))) :
  ∃ W:Nat→Nat→List V→Hp→Prop,(∃ m,W 0 m [] H)∧ox (Its xs) g tc te σb Q W:=by
 refine ⟨fun i m ys H=>m=xs.length - i∧i ≤ xs.length∧Pv i ys H,⟨xs.length,by simp,Nat.zero_le _,h0⟩,?_⟩;rintro i m ys H ⟨rfl,hi,p⟩;have hyl:=hl i ys H hi p;by_cases hlt:i < xs.length
 ·refine .inr ⟨hlt,by omega,fun x H' y=>?_⟩;obtain ⟨e,y⟩:=y;subst e;exact hs i x ys _ y p (fun ys' H'=>∃ m',m' < xs.length - i∧m'=xs.length - (i + 1)∧i + 1 ≤ xs.length∧Pv (i + 1) ys' H') fun ys' H' r=>⟨xs.length - (i + 1),by omega,rfl,hlt,r⟩
 ·have e:i=xs.length:=by omega
  subst e;exact .inl ⟨Nat.le_refl _,hd ys H p⟩
section
variable {X:Cx}
noncomputable def NO:V→Option Int→Option Int→Hp→VK→Prop:=fun x lo hi H Q=>∃ z,x=.str z∧z.length ≤ sizeLine∧Q (.str (Txt.slice z lo hi)) H
theorem ME:SlR X NO:=by
 intro pins s σ H x v vl vu lo hi sl Q I rx hs pl pu h;obtain ⟨z,rfl,hz,q⟩:=h;obtain ⟨t,rfl⟩:=rx;refine ⟨"str",_,F.slot_str_getitem.lookup,typeIs_str s z t,?_⟩;have fin:∀ t' k,EP X pins σ Q (.str (Txt.slice z lo hi) t') { s with toks:=k }:=fun t' k=>⟨.str _,H,I.tok _,⟨_,rfl⟩,q⟩
 cases pl with
 | none=>
  cases pu with
  | none=>exact wpAny_getItem_str_slice (l:=none) (u:=none) (st:=none) hs rfl (post_val_or_str ⟨Nat.le_trans (Txt.slice_le z _ _) hz,fin⟩)
  | int j uj=>exact wpAny_getItem_str_slice (l:=none) (u:=some (j,uj)) (st:=none) hs rfl (post_val_or_str ⟨Nat.le_trans (Txt.slice_le z _ _) hz,fin⟩)
 | int i ui=>
  cases pu with
  | none=>exact wpAny_getItem_str_slice (l:=some (i,ui)) (u:=none) (st:=none) hs rfl (post_val_or_str ⟨Nat.le_trans (Txt.slice_le z _ _) hz,fin⟩)
  | int j uj=>exact wpAny_getItem_str_slice (l:=some (i,ui)) (u:=some (j,uj)) (st:=none) hs rfl (post_val_or_str ⟨Nat.le_trans (Txt.slice_le z _ _) hz,fin⟩)
noncomputable def Nc (ys:List Str):List V:=ys.map V.str
theorem xA:∀ {ys:List Str} {us:List Value},md (Nc ys) us→StrsAre us ys:=by
 intro ys
 induction ys with
 | nil=>intro us r;cases r;exact .nil
 | cons y ys ih=>
  intro us r;cases r with
  | cons r1 r2=>
   obtain ⟨t,rfl⟩:=r1;exact .cons y t (ih r2)
theorem aw:∀ (l:List (Str × Tok)),md (Nc (l.map (·.1))) (strValues l)
 | []=>.nil
 | (x,t) :: r=>.cons ⟨t,rfl⟩ (aw r)
noncomputable def NL (K:PySem.W.Frag):V→List V→Hp→VK→Prop:=fun x vs H Q=>∃ sep p ys,x=.str sep∧vs=[.ref p]∧SqL K H p (Nc ys)∧(ys.map (·.length)).sum + ys.length * sep.length ≤ 16777216∧Q (.str (Txt.join sep ys)) H
theorem Kx:MtR X "str.join" (NL X.K):=by
 intro pins s σ H x xs v us Q I rx rv h;obtain ⟨sep,p,ys,rfl,rfl,hq,hz,q⟩:=h;obtain ⟨t,rfl⟩:=rx;obtain ⟨u,rfl,ru⟩:=Mm rv;cases ru;obtain ⟨its,r,pl,_⟩:=I.list hq;exact join_list pl.isList (by simpa using xA r) hz fun t' k=>⟨.str _,H,I.tok _,⟨_,rfl⟩,q⟩
end
theorem yB {prog:Program} {w:World} {A:Around} {E:Value→Shared→Prop} {s:Shared} {x y:Str} {t u:Tok} {Q:Value→Shared→Prop} (hy:(y.length == 0)=false)
  (h:∀ l k,l.map (·.1)=Txt.split x y→Q (.ref s.heap.objs.size) { s with heap:=s.heap.push { cls:=.type "list",data:=.seq (strValues l).toArray },toks:=k }) (hsz:x.length + 2 ≤ sizeLine) :
  wpAny (model prog w) A (call (.builtin "str.split") [.str x t,.str y u]) Q E s:=by
 have hn:(Builtin.Str.partsBetween x (Builtin.Str.occurrences x y 0 x.length (x.length + 1)) y.length).length ≤ sizeLine:=by
  have e1:=StrLaws.occ_length_le x y 0 x.length (x.length + 1);rw [length_partsBetween];omega
 cases h1:(decide (x.length < y.length) || decide (Builtin.Str.strKind x < Builtin.Str.strKind y))
 ·cases hf:(Builtin.Str.occurrences x y 0 x.length (x.length + 1)).isEmpty
  ·refine call_meets F.slot_str_split (typeIs_str _ _ _) F.entry_str_split (F.args_str_split_2 _ _) (meets_str_split_sep x y t u h1 hy hf (by omega) hn) ?_;show wants Q E _ { s with toks:=_,heap:=s.heap.push { cls:=.type "list",data:=.seq (strsFrom s.toks (Builtin.Str.partsBetween x (Builtin.Str.occurrences x y 0 x.length (x.length + 1)) y.length)).toArray } };rw [strsFrom_eq];exact h (numbered s.toks _) _ ((numbered_texts _ _).trans ((if_neg (ne_true_of_eq_false h1)).trans (if_neg (ne_true_of_eq_false hf))).symm)
  ·exact call_meets F.slot_str_split (typeIs_str _ _ _) F.entry_str_split (F.args_str_split_2 _ _) (meets_str_split_not_found x y t u h1 hy hf)
    (h [(x,t)] s.toks ((if_neg (ne_true_of_eq_false h1)).trans (if_pos hf)).symm)
 ·exact call_meets F.slot_str_split (typeIs_str _ _ _) F.entry_str_split (F.args_str_split_2 _ _) (meets_str_split_cannot_occur x y t u h1)
   (h [(x,t)] s.toks (if_pos h1).symm)
section
variable {X:Cx}
noncomputable def TH:V→List V→Hp→VK→Prop:=fun x vs H Q=>∃ z y,x=.str z∧vs=[.str y]∧y.length ≠ 0∧z.length + 2 ≤ sizeLine∧(Txt.split z y).length ≤ sizeLine∧∀ p,H p=none→Q (.ref p) (upd H p (.lst (Nc (Txt.split z y))))
theorem yz:MtR X "str.split" TH:=by
 intro pins s σ H x xs v us Q I rx rv h;obtain ⟨z,y,rfl,rfl,hy,hz,hn,q⟩:=h;obtain ⟨t,rfl⟩:=rx;obtain ⟨u,rfl,ru⟩:=Mm rv;obtain ⟨tu,rfl⟩:=ru;refine yB (by simpa using hy) (fun l k hl=>?_) hz;refine ⟨.ref s.heap.objs.size,_,I.laid (t':=k) (o:=.lst (Nc (Txt.split z y))) (fun b o e=>Heap.get?_push_of_some _ e) (Nat.le_refl _) ⟨by unfold Nc;rw [List.length_map];exact hn,strValues l,0,by rw [← hl];exact aw l,Heap.get?_push_size _ rfl⟩,rfl,q _ (I.hok.fresh (Nat.le_refl _))⟩
theorem wF:zi X (.type "int") (fun xs H Q=>∃ z n,xs=[.str z]∧intText? z=some n∧z.length ≤ 640∧Q (.int n) H):=by
 intro pins s σ H xs us Q I r h;obtain ⟨z,n,rfl,hn,hz,q⟩:=h;obtain ⟨u,rfl,t,rfl⟩:=Mm r;exact PySem.W.KIN.call_text hn hz ⟨.int n,H,I.tok _,⟨_,rfl⟩,q⟩
theorem Hv:∀ {bs:List Bool} {us:List Value},md (bs.map V.bl) us→us=bs.map Value.bool
 | [],_,.nil=>rfl
 | b :: bs,_,.cons r t=>by
  have e:_=Value.bool b:=r;rw [e,Hv t];rfl
theorem Lx {A:Around} (bs:List Bool):TruthOf X.prog X.w A (fun i v=>(bs.map Value.bool).toArray[i]? = some v) (fun i=>bs.getD i true):=by
 intro i v s Q E hP hQ;have e:(bs.map Value.bool)[i]? = some v:=by simpa using hP
 rw [List.getElem?_map] at e;cases q:bs[i]? with
 | none=>rw [q] at e;cases e
 | some b=>
  rw [q] at e;have e':Value.bool b=v:=Option.some.inj e;subst e';refine wpAny_truthy_bool ?_;have:bs.getD i true=b:=by simp [List.getD,q]
  have hQ':Q (bs.getD i true) s:=hQ;rw [this] at hQ';exact hQ'
theorem CF (bs:List Bool):(List.range bs.length).all (fun i=>bs.getD i true)=bs.all id:=by
 rw [Bool.eq_iff_iff];simp only [List.all_eq_true,List.mem_range,id];constructor
 ·intro h b hb;obtain ⟨i,hi,e⟩:=List.mem_iff_getElem.mp hb;have:=h i hi;simp [List.getD,hi,e] at this;exact this
 ·intro h i hi;simp [List.getD,hi];exact h _ (List.getElem_mem hi)
theorem mG (hc:X.calm=true):zi X (.builtin "all") (fun xs H Q=>∃ (p:Addr) (bs:List Bool),xs=[.ref p]∧SqL X.K H p (bs.map V.bl)∧Q (.bl (bs.all id)) H):=by
 intro pins s σ H xs us Q I r h;obtain ⟨p,bs,rfl,hq,q⟩:=h;obtain ⟨u,rfl,ru⟩:=Mm r;cases ru;obtain ⟨its,rv,pl,_⟩:=I.list hq;have e:=Hv rv;subst e;refine call_all_walk (wpAny_pyIter_list pl.isList ?_);have hne:p ≠ s.heap.objs.size:=Nat.ne_of_lt (by obtain ⟨o,_,ho,_⟩:=pl;exact Heap.lt_size ho);refine ⟨s.heap.objs.size,_,_,_,_,_,fun i=>bs.getD i true,rfl,Walks.list (show X.A.in1.handled=none from I.ok.hd hc) _ p hne (bs.map Value.bool).toArray,⟨⟨_,Heap.get?_push_size _ rfl,rfl,rfl⟩,pl.isList.at fun o e=>Heap.get?_push_of_some _ e⟩,Lx bs,fun h' tk kk=>?_⟩;refine ⟨.bl (bs.all id),H,I.kept fun b o e=>kk b o (by simpa using Nat.ne_of_lt (Heap.lt_size e)) (Heap.get?_push_of_some _ e),?_,q⟩;show Value.bool _=Value.bool _;rw [show (bs.map Value.bool).toArray.size=bs.length by simp,CF]
end
end L2
namespace L2
open PySem PySem.Spec PyProof.Rows
theorem eh {X:Cx} {N:List Str} (h:N.Nodup) (e:X.N=N):X.N.Nodup:=e ▸ h
noncomputable def DC (sc scope:Scope):Bool:=
 (scope.kind == .function) && scope.names.all (fun y=>y.2 != .cell) && scope.names.all (fun y=>y.2 != .free || sc.names.lookup y.1 == some .cell || sc.names.lookup y.1 == some .free) &&
  scope.names.all (fun y=>y.2 != .local || scope.names.lookup y.1 == some .local)
theorem Dc {env:Env} {sc scope:Scope} (he:env.scope=sc) (h:DC sc scope=true):bo env scope:=by
 subst he;unfold DC at h;simp only [Bool.and_eq_true,List.all_eq_true] at h;obtain ⟨⟨⟨h1,h2⟩,h3⟩,h4⟩:=h;refine ⟨by simpa using h1,fun y hy e=>?_,fun y hy e=>?_,fun y hy e=>?_⟩
 ·have:=h2 y hy;rw [e] at this;exact absurd this (by decide)
 ·have:=h3 y hy;rw [e] at this;simp only [Bool.or_eq_true] at this;rcases this with (z | z) | z
  ·exact absurd z (by decide)
  ·exact .inl (show env.scope.names.lookup y.1=some .cell by simpa using z)
  ·exact .inr (show env.scope.names.lookup y.1=some .free by simpa using z)
 ·have:=h4 y hy;rw [e] at this;simp only [Bool.or_eq_true] at this;rcases this with z | z
  ·exact absurd z (by decide)
  ·simpa using z
noncomputable def jO (M:List Str) (scope:Scope) (N:List Str) (sel:List (Option Nat)):Bool:=
 sel.length == N.length && (sel.zip N).all fun p=>match p.1 with | none=>true | some j=>M[j]? == some p.2 && scope.names.lookup p.2 == some .free
theorem Wc {M:List Str} {scope:Scope} {N:List Str} {sel:List (Option Nat)} (h:jO M scope N sel=true):PD M scope N sel:=by
 unfold jO at h;simp only [Bool.and_eq_true,List.all_eq_true] at h;refine ⟨by simpa using h.1,fun i j x e1 e2=>?_⟩;have hm:(some j,x) ∈ sel.zip N:=by
  rw [List.mem_iff_getElem?];exact ⟨i,by rw [List.getElem?_zip_eq_some];exact ⟨e1,e2⟩⟩
 have:=h.2 _ hm;simp only [Bool.and_eq_true] at this;exact ⟨by simpa using this.1,by simpa using this.2⟩
noncomputable def noT:HO→Bool
 | .dT _=>false
 | .frz _ u=>noT u
 | _=>true
noncomputable def NoT (H:Hp):Prop:=∀ b o,H b=some o→noT o=true
theorem Zd.back {P:Program} {w:World} {H H':Hp} {h h':Heap} {a:Addr}:∀ (o:HO),noT o=true→Zd P w H' h' a o→Zd P w H h a o→Zd P w H h' a o
 | .lst _,_,x,_=>x
 | .tup _,_,x,_=>x
 | .dK _,_,x,_=>x
 | .dT _,e,_,_=>absurd e (by unfold noT;decide)
 | .set _ _,_,x,_=>x
 | .ins _ _ _,_,x,y=>⟨y.1,x.2⟩
 | .own _,_,x,_=>x
 | .xd _,_,x,_=>x
 | .met _ _,_,x,_=>x
 | .rng _ _,_,x,_=>x
 | .frz ob u,e,x,y=>⟨x.1,Zd.back u (by unfold noT at e;exact e) x.2 y.2⟩
 | .tbl _,_,x,_=>x
 | .ext _,_,x,_=>x
section
variable {P:Program} {w:World} {K:PySem.W.Frag} {mg:Str→Option Value} {base:Heap}
theorem Rb.forget {k:Nat} {f:Addr} {fd:FuncData} {ps:List Str} {sp sp':Sp} (F:Rb P w K mg base CX0 k f fd ps sp)
  (h:∀ vs H Q E,sp' vs H Q E→NoT H∧sp vs H (fun v H'=>Tb H H'∧Q v H) E):Rb P w K mg base CX0 k f fd ps sp':=by
 refine ⟨fun vs H Q E q=>F.len vs H _ E (h vs H Q E q).2,fun A outer s H args us vs Q E hr he hb hv hs=>?_⟩;obtain ⟨nt,q⟩:=h vs H Q E hs;refine codeAny_mono (F.run A outer s H args us vs _ E hr he hb hv q) fun r s' hq=>?_
 cases r with
 | error e=>exact hq
 | ok fl=>
  cases fl with
  | next=>exact hq
  | brk=>exact hq
  | cont=>exact hq
  | ret u=>
   obtain ⟨v,H',os,bare,un,hok,rv,sm,q'⟩:=hq;exact ⟨v,H,os,bare,⟨un.keep,un.slot,fun _ _ _ n _=>n,un.there,fun _ _ z=>z,fun _ _ _ z=>z,fun _ ps z=>⟨#[],by rw [z];simp⟩⟩,fun a o e=>(hok a o (sm a o e)).back o (nt a o e) (he.hok a o e),rv,q'⟩
end
theorem db {H:Hp} {p:Addr} {o:HO} (h:H p=none):Tb H (upd H p o):=fun b u q=>by rw [Db (Jb q h)];exact q
theorem Tb.updN {H H1:Hp} {p:Addr} {o:HO} (s:Tb H H1) (h:H p=none):Tb H (upd H1 p o):=fun b u q=>by rw [Db (Jb q h)];exact s b u q
structure Sc (K:PySem.W.Frag) (a:Addr) (ns:List Int) (H:Hp):Prop where
 sq:(∃ o,H a=some (.frz o (.lst (ns.map V.int))))∨∃ (o:Obj) (its:Array Value) (n:Nat),K.lookup a=some o∧o.cls=.type "list" ∧ o.dict=none∧o.data=.seq its n∧its.size ≤ sizeLine∧md (ns.map V.int) its.toList
 nt:NoT H
section
variable {K:PySem.W.Frag} {a p:Addr} {ns:List Int} {H H':Hp} {o:HO}
theorem Sc.seq (s:Sc K a ns H):SqL K H a (ns.map V.int):=by
 rcases s.sq with ⟨o,h⟩ | h
 ·exact .inl (.inr ⟨o,h⟩)
 ·exact .inr h
theorem Sc.new (s:Sc K a ns H) (hp:H p=none) (ho:noT o=true:=by rfl):Sc K a ns (upd H p o):=by
 refine ⟨?_,fun b u e=>?_⟩
 ·rcases s.sq with ⟨ob,h⟩ | h
  ·exact .inl ⟨ob,by rw [Db (Jb h hp)];exact h⟩
  ·exact .inr h
 ·by_cases hb:b=p
  ·subst hb;rw [gb] at e;cases e;exact ho
  ·rw [Db hb] at e;exact s.nt b u e
theorem Sc.set {u:HO} (s:Sc K a ns H) (hp:H p=some u) (hu:∀ ob z,u ≠ .frz ob z) (ho:noT o=true:=by rfl):Sc K a ns (upd H p o):=by
 refine ⟨?_,fun b x e=>?_⟩
 ·rcases s.sq with ⟨ob,h⟩ | h
  ·refine .inl ⟨ob,?_⟩;have hne:a ≠ p:=fun z=>by subst z;rw [hp] at h;exact hu _ _ (Option.some.inj h)
   rw [Db hne];exact h
  ·exact .inr h
 ·by_cases hb:b=p
  ·subst hb;rw [gb] at e;cases e;exact ho
  ·rw [Db hb] at e;exact s.nt b x e
theorem Sc.of_only (hO:jL H) (hS:SqL K H a (ns.map V.int)):Sc K a ns H:=by
 refine ⟨?_,fun b u e=>?_⟩
 ·rcases hS with (h | ⟨o,h⟩) | h
  ·rcases hO a with z | ⟨ob,xs,z⟩
   ·rw [h] at z;cases z
   ·rw [h] at z;cases z
  ·exact .inl ⟨o,h⟩
  ·exact .inr h
 ·rcases hO b with z | ⟨ob,xs,z⟩
  ·rw [e] at z;cases z
  ·rw [e] at z;cases z;rfl
end
noncomputable def XM (K:PySem.W.Frag):Sp:=fun vs H Q _=>∃ (a:Addr) (ns:List Int),vs=[.ref a]∧Sc K a ns H∧ns.length ≤ 63∧∀ H',Q (.bl true) H'
theorem ic:bootBuiltins "len"=some (.builtin "len"):=PySem.boot_len
theorem bB:bootBuiltins "all"=some (.builtin "all"):=by decide +kernel
theorem Mr:bootBuiltins "min"=some (.builtin "min"):=by decide +kernel
theorem wn:bootBuiltins "max"=some (.builtin "max"):=by decide +kernel
theorem nB:bootBuiltins "sum"=some (.builtin "sum"):=by decide +kernel
theorem DB:bootBuiltins "int"=some (.type "int"):=by decide +kernel
theorem Cn:bootBuiltins "str"=some (.type "str"):=by decide +kernel
theorem am:bootBuiltins "list"=some (.type "list"):=by decide +kernel
theorem Sv:bootBuiltins "tuple"=some (.type "tuple"):=by decide +kernel
theorem yx:bootBuiltins "dict"=some (.type "dict"):=by decide +kernel
theorem Rd.same {H H':Hp} {a:Addr} {o:HO} (h:Rd H a o) (s:Tb H H'):Rd H' a o:=by
 rcases h with h | ⟨ob,h⟩
 ·exact .inl (s _ _ h)
 ·exact .inr ⟨ob,s _ _ h⟩
theorem SqL.same {K:PySem.W.Frag} {H H':Hp} {a:Addr} {xs:List V} (h:SqL K H a xs) (s:Tb H H'):SqL K H' a xs:=by
 rcases h with h | h
 ·exact .inl (h.same s)
 ·exact .inr h
theorem SqT.same {K:PySem.W.Frag} {H H':Hp} {a:Addr} {xs:List V} (h:SqT K H a xs) (s:Tb H H'):SqT K H' a xs:=by
 rcases h with h | h
 ·exact .inl (h.same s)
 ·exact .inr h
theorem NoT.upd {H:Hp} {p:Addr} {o:HO} (h:NoT H) (ho:noT o=true:=by rfl):NoT (upd H p o):=fun b u e=>by
 by_cases hb:b=p
 ·subst hb;rw [gb] at e;cases e;exact ho
 ·rw [Db hb] at e;exact h b u e
theorem Sc.same {K:PySem.W.Frag} {a:Addr} {ns:List Int} {H H':Hp} (s:Sc K a ns H) (sm:Tb H H') (nt:NoT H'):Sc K a ns H':=by
 refine ⟨?_,nt⟩;rcases s.sq with ⟨o,h⟩ | h
 ·exact .inl ⟨o,sm _ _ h⟩
 ·exact .inr h
end L2
namespace L2
open PySem PySem.Spec PyProof.Rows
structure WO (K:PySem.W.Frag) (C:Addr) (m:Str) (f:Addr):Prop where
 rd:PySem.W.readsIn K C (.type "type")=true
 fd:PySem.W.findCls K (.ref C) (.type "type") m=some (.val (.ref f))
 ga:PySem.W.specialIn K (.ref C) "__getattribute__"=some (some (.builtin "type.__getattribute__"))
 kp:PySem.W.keepIn K (.ref f)=true
structure KK (P:Program) (w:World) (K:PySem.W.Frag) (mg:Str→Option Value) (base:Heap) (CX:CXT) (k:Nat) (OK:Addr→Prop) (m:Str) (ps:List Str) (SPV:Addr→Sp):Prop where
 ok:∀ C,OK C→∃ f fd,Cls K C∧Nt K C m f∧Rb P w K mg base CX k f fd ps (SPV C)∧lc K fd ps []
noncomputable def aJ (OK:Addr→Prop) (m:Str) (SPV:Addr→Sp) (E:XK) (ta:TE) (t:TA):TE:=fun σ H Q=>ta σ H fun x H1=>∃ a C dx fs,x=.ref a∧H1 a=some (.ins C dx fs)∧OK C∧fs.lookup m=none ∧
 t σ H1 fun vs H2=>SPV C (x :: vs) H2 Q E
section
variable {X:Cx} {CX:CXT} {k:Nat} {f C:Addr} {fd:FuncData} {ps:List Str} {sp:Sp} {dvs:List V} {ds:List Value} {E:XK} {x m:Str} {p pos apos:Pos} {e o:Expr} {es:List Expr} {ta:TE} {t:TA}
theorem lu {pl:Sem Bool} (hg:Gl X x) (hm:X.mg x=some (.ref C)) (c:WO X.K C m f) (F:Rb X.prog X.w X.K X.mg X.base CX k f fd ps sp) (hr:Gj k X.A) (hb:lc X.K fd ps ds) (hd:md dvs ds) (hx:Zm CX X E) (ha:PA X (e :: es) t)
  (hdb:(x == ("__debug__" : Str))=false:=by decide) (hst:starEach (e :: es) X.env=(false,eval e X.env) :: starEach es X.env:=by rfl) (hpl:(backTo pos (starEach es X.env)).any (·.1)=false:=by rfl)
  (ht:eval (.Call (.Attribute (.Name x p) m apos) (e :: es) [] pos) X.env=(do
   let ov ← eval (.Name x p) X.env
   standAt apos.atName
   let (f,first) ← holding [ov] (getMethod ov m pl)
   callWith pos f first (backTo pos (starEach (e :: es) X.env)) (backToKw pos (keywordEach [] X.env))):=by rfl) :
  PE X (.Call (.Attribute (.Name x p) m apos) (e :: es) [] pos) (iH sp dvs E t):=by
 intro pins s σ H Q I h;refine PySem.W.methodCall_KW (pl:=pl) (Jt I hg hm ?_ hdb) ht;refine PySem.W.method_cls I.kIn c.ga (PySem.W.cls_value I.kIn c.rd c.fd rfl ?_);have I1:=I.tok (s.toks + 1);refine PySem.W.callWith_K (first:=[]) (h₀:=X.base) I.ok.mod.kin c.kp (thn (ha pos pins _ σ H _ I1 h) fun us s2 ⟨vs,H2,I2,r,q2⟩=>⟨I2.kIn,?_⟩) hst hpl;exact yv F hr hb hd hx I2 r q2
variable {OK:Addr→Prop} {SPV:Addr→Sp}
theorem Cv {pl:Sem Bool} (he:PE X o ta) (V:KK X.prog X.w X.K X.mg X.base CX k OK m ps SPV) (hr:Gj k X.A) (hx:Zm CX X E)
  (ht:eval (.Call (.Attribute o m apos) [] [] pos) X.env=(do
   let ov ← eval o X.env
   standAt apos.atName
   let (f,first) ← holding [ov] (getMethod ov m pl)
   callWith pos f first (backTo pos (starEach [] X.env)) (backToKw pos (keywordEach [] X.env))):=by rfl) :
  PE X (.Call (.Attribute o m apos) [] [] pos) (aJ OK m SPV E ta gN):=by
 intro pins s σ H Q I h;refine PySem.W.methodCall_KW (pl:=pl) (thn (he pins s σ H _ I h) fun u s1 hZ1=>?_) ht;obtain ⟨x,H1,I1,rx,a,C,dx,fs,ex,ea,ok,l,q⟩:=hZ1;subst ex;obtain rfl:u=Value.ref a:=rx;obtain ⟨f,fd,c,hm,F,hb⟩:=V.ok C ok;refine Fn I1 ea c hm l ?_;exact PySem.W.callWith_K0 (first:=[.ref a]) I1.kIn hm.kp (yv (us:=[.ref a]) (vs:=[.ref a]) (dvs:=[]) F hr hb .nil hx I1 (.cons rfl .nil) q)
end
section
variable {X:Cx} {x:Str} {p pos:Pos} {i:Expr} {ty:TE} {u:Value} {kvs:List (Str × V)}
end
theorem Yd {f:Str} {v:V}:∀ {fs:List (Str × V)} (ks:List Str),fs.map (·.1)=ks→ks.contains f=false→Gi f v fs=fs ++ [(f,v)]
 | [],_,_,_=>rfl
 | (g,y) :: r,ks,e,h=>by
  cases e;rw [List.map_cons,List.contains_cons] at h;have h1:=(Bool.or_eq_false_iff.mp h);have hne:¬ g=f:=fun z=>by
   have:=h1.1;rw [z] at this;simp at this
  show (if g=f then _ else _)=_;rw [if_neg hne,Yd _ rfl h1.2];rfl
theorem zo {f:Str} {v:V} {fs:List (Str × V)} {n:Nat} (h:fs.length < n):(Gi f v fs).length < n + 1:=Nat.lt_of_le_of_lt (Yl f v fs) (by omega)
theorem Be {f:Str} {v:V}:∀ {fs:List (Str × V)} (ks:List Str) (i:Nat),fs.map (·.1)=ks→ks.findIdx? (· == f)=some i→fs[i]? = some (f,v)→fs.lookup f=some v
 | [],_,_,_,_,h=>by simp at h
 | (g,y) :: r,ks,i,e,h,hv=>by
  cases e;rw [List.map_cons,List.findIdx?_cons] at h;rw [List.lookup];by_cases e:g=f
  ·subst e;rw [beq_self_eq_true,if_pos rfl] at h;cases h;have:(g,y)=(g,v):=by simpa using hv
   cases this;rw [beq_self_eq_true]
  ·rw [beq_eq_false_iff_ne.mpr e,if_neg (by decide)] at h;obtain ⟨j,hj,rfl⟩:=Option.map_eq_some_iff.mp h;rw [beq_eq_false_iff_ne.mpr (fun z=>e z.symm)];exact Be _ j rfl hj (by simpa using hv)
theorem Sm {f:Str}:∀ {fs:List (Str × V)} (ks:List Str),fs.map (·.1)=ks→ks.contains f=false→fs.lookup f=none
 | [],_,_,_=>rfl
 | (g,y) :: r,ks,e,h=>by
  cases e;rw [List.map_cons,List.contains_cons] at h;have h1:=(Bool.or_eq_false_iff.mp h);rw [List.lookup,h1.1];exact Sm _ rfl h1.2
end L2
namespace L2
open PySem PySem.Spec PyProof.Rows
theorem Inv.turnedL {X:Cx} {pins:List (Addr × Obj)} {σ:St} {H:Hp} {s:Shared} {h':Heap} {t':Nat} {fp:List Addr} (I:Inv X pins σ H s) (k:∀ b o,b ∉ fp→s.heap.get? b=some o→h'.get? b=some o)
  (hf:∀ b ∈ fp,su X pins H b):Inv X pins σ H { s with heap:=h',toks:=t' }:=by
 have nit:∀ b u,H b=some u→b ∉ fp:=fun b u e z=>by rw [(hf b z).1] at e;cases e
 refine I.step (g':=s.gens) (d':=s.drawn) (ch:=fp) (fun b hb=>?_) (fun b o _ _ hc e _=>k b o hc e) (fun b o _ _ hc e _=>⟨o.slots,k b o hc e⟩) (fun _ _ _ _ n=>n)
  (fun b o hc e=>⟨o,k b o hc e⟩) (fun _ _ e=>e) (fun _ _ _ e=>e) (fun b ps e=>⟨#[],by rw [e];simp⟩) (fun m hm=>?_) (fun b u e=>?_) I.bare
 ·obtain ⟨f0,f1,f2,f3,f4,f5⟩:=hf b hb;exact ⟨f3,f1,f4,f5⟩
 ·obtain ⟨o,es,ep,ho,r⟩:=hm;exact ⟨o,es,ep,k _ o (fun z=>(hf _ z).2.1 rfl) ho,r⟩
 ·refine (I.hok b u e).stay (fun c v hc q=>k c v ?_ q) (fun _ q=>q) fun _ _ q=>q
  rcases hc with z | z
  ·rw [z];exact nit b u e
  ·exact nit c _ z
noncomputable def Ite (K:PySem.W.Frag) (a:Addr):It:=
 ⟨fun i H=>∃ xs x,SqL K H a xs∧xs[i]? = some x,fun i H v H'=>∃ p y,H p=none∧v=.ref p∧(∀ xs,SqL K H a xs→xs[i]? = some y)∧H'=upd H p (.tup [.int i,y]),fun i H=>∃ xs,SqL K H a xs∧xs.length ≤ i⟩
theorem iF {P:Program} {w:World} {K:PySem.W.Frag} {es:List Expr} {k} {pos:Pos} (a e it:Addr) (hne:e ≠ it) :
  MF P w K (.Tuple es k pos) (Ite K a) [e,it] e (fun i h=>∃ old,IsEnum h e it ((i:Nat):Int) old∧h.IsListIter it a i) where
 mem:=by simp
 obj:=fun i h ⟨old,he,hi⟩ b hb=>by
  simp only [List.mem_cons,List.not_mem_nil,or_false] at hb;rcases hb with rfl | rfl
  ·exact ⟨_,he,fun v z=>by
    have z':Data.fields _=Data.cell v:=z;cases z'⟩
  ·obtain ⟨o,q,c,d⟩:=hi;exact ⟨o,q,fun v z=>by rw [d] at z;cases z⟩
 keep:=fun i h h' ⟨old,he,hi⟩ k=>⟨old,k e (by simp) _ he,hi.at fun o q=>k it (by simp) o q⟩
 item:=by
  intro X hP hw hK hc i pins s σ H E I hf ⟨old,he,hi⟩ hg;subst hP hw hK;obtain ⟨xs,x,hq,hx⟩:=hg;obtain ⟨its,rv,p,hz⟩:=I.list hq;obtain ⟨u,hu,ru⟩:=rv.get hx;refine wpAny_pyNext_enum_item he hi p.isList (x:=u) (by simpa using hu) hne fun h1 he1 hi1 ht1 hz1 hk1=>⟨_,rfl,?_⟩
  refine wpAny_letOwnedTupleGo_enum he1 fun h2 he2 hs2=>?_
  replace hs2:Heap.SameBut e h1 h2:=hs2;have hel:e < s.heap.objs.size:=Heap.lt_size he;have hk:∀ b o,b ∉ [e,it]→s.heap.get? b=some o→h2.get? b=some o:=fun b o hb q=>by
   simp only [List.mem_cons,List.not_mem_nil,or_false,not_or] at hb;exact hs2.extBut _ _ hb.1 (hk1 b o hb.1 hb.2 q)
  have I1:Inv X pins σ H { s with heap:=h2,toks:=s.toks + 1 }:=I.turnedL hk hf;have fo:su X pins H s.heap.objs.size:=I.fpOk (Nat.le_refl _) (I.hok.fresh (Nat.le_refl _));have ht2:h2.get? s.heap.objs.size=some { cls:=.type "tuple",data:=.seq #[.int i s.toks,u] }:=(hs2.2 _ (Nat.ne_of_gt hel)).trans ht1;have I2:=I1.adopt (o:=.tup [.int i,x]) fo ⟨⟨by show 2 ≤ sizeLine;decide,_,ht2,rfl⟩,[.int i s.toks,u],.cons ⟨_,rfl⟩ (.cons ru .nil),⟨_,ht2,rfl,_,rfl⟩⟩;refine ⟨.ref s.heap.objs.size,_,I2,rfl,⟨_,x,fo.1,rfl,fun ys hy=>by rw [I.list_inj hy hq];exact hx,rfl⟩,⟨u,?_,?_⟩,fun b hb=>?_⟩
  ·have e1:((i + 1:Nat):Int)=(i:Int) + 1:=by omega
   rw [e1];exact he2
  ·exact hi1.extBut hs2.extBut (Ne.symm hne)
  ·have hlt:b < s.heap.objs.size:=by
    simp only [List.mem_cons,List.not_mem_nil,or_false] at hb;rcases hb with rfl | rfl
    ·exact hel
    ·obtain ⟨o,q,_⟩:=hi;exact Heap.lt_size q
   rw [Db (Nat.ne_of_lt hlt)];exact (hf b hb).1
 done:=by
  intro X hP hw hK hc i pins s σ H E I hf ⟨old,he,hi⟩ hg;subst hP hw hK;obtain ⟨xs,hq,hx⟩:=hg;obtain ⟨its,rv,p,hz⟩:=I.list hq;have hl:=rv.length;exact wpAny_pyNext_enum_end (I.ok.hd hc) he hi p.isList (by simp;omega) fun h' eb=>⟨rfl,I.turnedL (t':=s.toks) (fun b o hb q=>eb b o (fun z=>hb (by simp [z])) q) hf⟩
 self:=fun _ _ _ _ _ ⟨_,he,_⟩ h=>wpAny_pyIter_enum he h
theorem ql:bootBuiltins "enumerate"=some (.type "enumerate"):=by decide +kernel
theorem CG:bootBuiltins "zip"=some (.type "zip"):=by decide +kernel
noncomputable def Itz (K:PySem.W.Frag) (a b:Addr):It:=
  ⟨fun i H=>∃ xs ys x y,SqL K H a xs∧SqL K H b ys∧xs[i]? = some x∧ys[i]? = some y,
   fun i H v H'=>∃ p x y,H p=none∧v=.ref p∧(∀ xs,SqL K H a xs→xs[i]? = some x)∧(∀ ys,SqL K H b ys→ys[i]? = some y)∧H'=upd H p (.tup [x,y]),
   fun i H=>∃ xs ys,SqL K H a xs∧SqL K H b ys∧(xs.length ≤ i∨ys.length ≤ i)⟩
theorem vg {h:Heap} {a b:Addr} {o o':Obj} {c d:String} (ha:h.get? a=some o) (hb:h.get? b=some o') (hc:o.cls=.type c) (hd:o'.cls=.type d) (n:c ≠ d):a ≠ b:=fun z=>by
 subst z;rw [ha] at hb;cases hb;rw [hc] at hd;cases hd;exact n rfl
theorem dw {h:Heap} {z TI TO i1 i2 l1 l2:Addr} {f0 u1 u2 v1 v2:Value} {k1 k2:Nat} {xs ys:Array Value} (hz:IsZip h z TI TO f0) (hTI:IsPair h TI u1 u2) (hTO:IsPair h TO v1 v2) (h1:h.IsListIter i1 l1 k1) (h2:h.IsListIter i2 l2 k2)
  (g1:h.IsList l1 xs) (g2:h.IsList l2 ys) (nT:TI ≠ TO) (ni:i1 ≠ i2):ZipApart z TI TO i1 i2 l1 l2:=by
 obtain ⟨o1,e1,c1,_⟩:=h1;obtain ⟨o2,e2,c2,_⟩:=h2;obtain ⟨p1,f1,d1,_⟩:=g1;obtain ⟨p2,f2,d2,_⟩:=g2;exact ⟨vg hTI hz rfl rfl (by decide),vg hTO hz rfl rfl (by decide),vg e1 hz c1 rfl (by decide),vg e2 hz c2 rfl (by decide),nT,vg hTI e1 rfl c1 (by decide),vg hTI e2 rfl c2 (by decide),
  vg hTO e1 rfl c1 (by decide),vg hTO e2 rfl c2 (by decide),ni,vg f1 hz d1 rfl (by decide),vg f1 hTO d1 rfl (by decide),vg f1 e1 d1 c1 (by decide),vg f1 e2 d1 c2 (by decide),
  vg f2 hz d2 rfl (by decide),vg f2 hTO d2 rfl (by decide),vg f2 e1 d2 c1 (by decide),vg f2 e2 d2 c2 (by decide)⟩
theorem cH {P:Program} {w:World} {K:PySem.W.Frag} {es:List Expr} {k} {pos:Pos} (a b z TI TO i1 i2:Addr) (nT:TI ≠ TO) (ni:i1 ≠ i2) :
  MF P w K (.Tuple es k pos) (Itz K a b) [z,TI,TO,i1,i2] z (fun i h=>IsZip h z TI TO .none∧IsPair h TI (.ref i1) (.ref i2)∧(∃ u v,IsPair h TO u v)∧h.IsListIter i1 a i∧h.IsListIter i2 b i) where
 mem:=by simp
 obj:=fun i h ⟨hz,hTI,⟨u,v,hTO⟩,⟨o1,e1,_,d1⟩,o2,e2,_,d2⟩ c hc=>by
  simp only [List.mem_cons,List.not_mem_nil,or_false] at hc;rcases hc with rfl | rfl | rfl | rfl | rfl
  ·exact ⟨_,hz,fun v z=>by
    have z':Data.fields _=Data.cell v:=z;cases z'⟩
  ·exact ⟨_,hTI,fun v z=>by
    have z':Data.seq _ _=Data.cell v:=z;cases z'⟩
  ·exact ⟨_,hTO,fun v z=>by
    have z':Data.seq _ _=Data.cell v:=z;cases z'⟩
  ·exact ⟨o1,e1,fun v z=>by rw [d1] at z;cases z⟩
  ·exact ⟨o2,e2,fun v z=>by rw [d2] at z;cases z⟩
 keep:=fun i h h' ⟨hz,hTI,⟨u,v,hTO⟩,h1,h2⟩ k=>⟨k z (by simp) _ hz,k TI (by simp) _ hTI,⟨u,v,k TO (by simp) _ hTO⟩,h1.at fun o q=>k i1 (by simp) o q,h2.at fun o q=>k i2 (by simp) o q⟩
 item:=by
  intro X hP hw hK hc i pins s σ H E I hf ⟨hz,hTI,⟨u,v,hTO⟩,h1,h2⟩ hg;subst hP hw hK;obtain ⟨xs,ys,x,y,hq,hr,hx,hy⟩:=hg;obtain ⟨its,rv,p,hz1⟩:=I.list hq;obtain ⟨jts,rw',p',hz2⟩:=I.list hr;obtain ⟨ux,hu,ru⟩:=rv.get hx;obtain ⟨uy,hv,rv'⟩:=rw'.get hy;have D:=dw hz hTI hTO h1 h2 p.isList p'.isList nT ni;refine wpAny_pyNext_zip_item D hz hTI hTO h1 h2 p.isList p'.isList (x:=ux) (y:=uy) (by simpa using hu) (by simpa using hv) fun g gz gTO g1 g2 gT gs gk=>⟨_,rfl,?_⟩
  refine wpAny_letOwnedTupleGo_zip gz fun g' gz' hs'=>?_
  replace hs':Heap.SameBut z g g':=hs';have hzl:z < s.heap.objs.size:=Heap.lt_size hz;have hk:∀ c o,c ∉ [z,TI,TO,i1,i2]→s.heap.get? c=some o→g'.get? c=some o:=fun c o hc q=>by
   simp only [List.mem_cons,List.not_mem_nil,or_false,not_or] at hc;exact hs'.extBut _ _ hc.1 (gk c o hc.1 hc.2.2.1 hc.2.2.2.1 hc.2.2.2.2 q)
  have I1:Inv X pins σ H { s with heap:=g',toks:=s.toks }:=I.turnedL hk hf;have fo:su X pins H s.heap.objs.size:=I.fpOk (Nat.le_refl _) (I.hok.fresh (Nat.le_refl _));have ht2:IsPair g' s.heap.objs.size ux uy:=(hs'.2 _ (Nat.ne_of_gt hzl)).trans gT;have I2:=I1.adopt (o:=.tup [x,y]) fo ⟨⟨by show 2 ≤ sizeLine;decide,_,ht2,rfl⟩,[ux,uy],.cons ru (.cons rv' .nil),⟨_,ht2,rfl,_,rfl⟩⟩;refine ⟨.ref s.heap.objs.size,_,I2,rfl,⟨_,x,y,fo.1,rfl,fun ys hy=>by rw [I.list_inj hy hq];exact hx,fun zs hzs=>by rw [I.list_inj hzs hr];exact hy,rfl⟩,⟨gz',?_,⟨_,_,hs'.extBut _ _ D.TOz gTO⟩,g1.extBut hs'.extBut D.i1z,g2.extBut hs'.extBut D.i2z⟩,fun b hb=>?_⟩
  ·exact hs'.extBut _ _ D.TIz (gk _ _ D.TIz D.TITO D.TIi1 D.TIi2 hTI)
  ·have hlt:b < s.heap.objs.size:=by
    obtain ⟨o1,e1,_⟩:=h1;obtain ⟨o2,e2,_⟩:=h2;simp only [List.mem_cons,List.not_mem_nil,or_false] at hb;rcases hb with rfl | rfl | rfl | rfl | rfl
    ·exact hzl
    ·exact Heap.lt_size hTI
    ·exact Heap.lt_size hTO
    ·exact Heap.lt_size e1
    ·exact Heap.lt_size e2
   rw [Db (Nat.ne_of_lt hlt)];exact (hf b hb).1
 done:=by
  intro X hP hw hK hc i pins s σ H E I hf ⟨hz,hTI,⟨u,v,hTO⟩,h1,h2⟩ hg;subst hP hw hK;obtain ⟨xs,ys,hq,hr,hx⟩:=hg;obtain ⟨its,rv,p,hz1⟩:=I.list hq;obtain ⟨jts,rw',p',hz2⟩:=I.list hr;have hl:=rv.length;have hl':=rw'.length;have D:=dw hz hTI hTO h1 h2 p.isList p'.isList nT ni;exact wpAny_pyNext_zip_end (I.ok.hd hc) D hz hTI hTO h1 h2 p.isList p'.isList (by simp;omega) fun h' eb=>⟨rfl,I.turnedL (t':=s.toks) (fun b o hb q=>eb b o (fun z=>hb (by simp [z])) (fun z=>hb (by simp [z])) (fun z=>hb (by simp [z])) (fun z=>hb (by simp [z])) q) hf⟩
 self:=fun _ _ _ _ _ ⟨hz,_⟩ h=>wpAny_pyIter_zip hz h
section
variable {X:Cx}
noncomputable def uM (K:PySem.W.Frag) (ta:TA):TI:=fun σ H R=>ta σ H fun vs H1=>∃ a,vs=[.ref a]∧(∃ xs,SqL K H1 a xs)∧R (Ite K a) H1
theorem Bp {es:List Expr} {k} {tpos:Pos} {a:Expr} {ta:TA} {p pos:Pos} (hg:Gl X "enumerate") (hm:X.mg "enumerate"=none) (ha:PA X [a] ta) (hs:starEach [a] X.env=[(false,eval a X.env)]:=by rfl) :
  PI X (.Tuple es k tpos) (.Call (.Name "enumerate" p) [a] [] pos) (uM X.K ta):=by
 intro pins s σ H R I h;refine Call_ (io I hg hm ql (PyProof.Rows.callWith_type1 (thn (ha pos pins s σ H _ I h) fun us s1 hZ1=>?_) hs rfl));obtain ⟨vs,H1,I1,r1,q1⟩:=hZ1;obtain ⟨a,e,⟨xs,hq⟩,q⟩:=q1;subst e;cases r1 with
 | cons r rr=>
  cases rr;cases r;obtain ⟨its,rv,pl,hz⟩:=I1.list hq;refine call_enumerate_list pl.isList fun h' hE hI hsz hk=>wpAny_pyIter_enum hE ?_
  refine ⟨s1.heap.objs.size + 1,[s1.heap.objs.size + 1,s1.heap.objs.size],_,_,H1,rfl,I1.kept (t':=s1.toks) hk,iF a _ _ (Nat.succ_ne_self _),⟨_,hE,hI⟩,fun b hb=>?_,q⟩;have hb':s1.heap.objs.size ≤ b:=by
   simp only [List.mem_cons,List.not_mem_nil,or_false] at hb;rcases hb with rfl | rfl
   ·exact Nat.le_succ _
   ·exact Nat.le_refl _
  exact I1.fpOk hb' (I1.hok.fresh hb')
noncomputable def rO (K:PySem.W.Frag) (ta:TA):TI:=fun σ H R=>ta σ H fun vs H1=>∃ a b,vs=[.ref a,.ref b]∧(∃ xs,SqL K H1 a xs)∧(∃ ys,SqL K H1 b ys)∧R (Itz K a b) H1
theorem LM {es:List Expr} {k} {tpos:Pos} {a b:Expr} {ta:TA} {p pos:Pos} (hg:Gl X "zip") (hm:X.mg "zip"=none) (ha:PA X [a,b] ta) (hs:starEach [a,b] X.env=[(false,eval a X.env),(false,eval b X.env)]:=by rfl)
  (hs2:starEach [b] X.env=[(false,eval b X.env)]:=by rfl):PI X (.Tuple es k tpos) (.Call (.Name "zip" p) [a,b] [] pos) (rO X.K ta):=by
 intro pins s σ H R I h;refine Call_ (io I hg hm CG (PyProof.Rows.callWith_type1 (thn (ha pos pins s σ H _ I h) fun us s1 hZ1=>?_) (by rw [hs,hs2]) (by rw [hs2];rfl)));obtain ⟨vs,H1,I1,r1,q1⟩:=hZ1;obtain ⟨a,b,e,⟨xs,hq⟩,⟨ys,hr⟩,q⟩:=q1;subst e;cases r1 with
 | cons r rr=>
  cases rr with
  | cons r' rr=>
   cases rr;cases r;cases r';obtain ⟨its,rv,pl,hz⟩:=I1.list hq;obtain ⟨jts,rv',pl',hz'⟩:=I1.list hr;refine call_zip_2 pl.isList pl'.isList fun h' hz hTI hTO h1 h2 hsz hk=>wpAny_pyIter_zip hz ?_
   refine ⟨s1.heap.objs.size + 4,[s1.heap.objs.size + 4,s1.heap.objs.size + 2,s1.heap.objs.size + 3,s1.heap.objs.size,s1.heap.objs.size + 1],_,_,H1,rfl,I1.kept (t':=s1.toks) hk,
    cH a b _ _ _ _ _ (Nat.ne_of_lt (Nat.lt_succ_self _)) (Nat.ne_of_lt (Nat.lt_succ_self _)),⟨hz,hTI,⟨_,_,hTO⟩,h1,h2⟩,fun c hc=>?_,q⟩
   have hb':s1.heap.objs.size ≤ c:=by
    simp only [List.mem_cons,List.not_mem_nil,or_false] at hc;rcases hc with rfl | rfl | rfl | rfl | rfl
    ·exact Nat.le_add_right _ _
    ·exact Nat.le_add_right _ _
    ·exact Nat.le_add_right _ _
    ·exact Nat.le_refl _
    ·exact Nat.le_add_right _ _
   exact I1.fpOk hb' (I1.hok.fresh hb')
end
theorem lf {X:Cx} {es:List Expr} {k:Nat} {pos:Pos} {t:TGs} {n:Nat} {K:PySem.W.Frag} (hK:X.K=K) (hc:X.calm=true) (h:PGs X es t)
  (hn:(assignEach es X.env).length=n:=by rfl) (hst:(assignEach es X.env).findIdx? (·.1)=none:=by rfl):PG X (.Tuple es k pos) (AM K n t):=by
 subst hK;exact jM hc h hn hst
section
variable {X:Cx}
end
end L2
namespace L2
open PySem PySem.Spec PyProof.Rows
inductive EqH (K:PySem.W.Frag) (H:Hp):Nat→V→V→Bool→Prop
 | flat {k:Nat} {x y:V} (hx:Vl x=true) (hy:Vl y=true):EqH K H k x y (eqV x y)
 | lst {k:Nat} {p q:Addr} {xs ys:List V} {e:Nat→Bool} (hp:SqL K H p xs) (hq:SqL K H q ys) (hl:xs.length=ys.length) (he:∀ (j:Nat) (x y:V),xs[j]? = some x→ys[j]? = some y→EqH K H k x y (e j)):EqH K H (k + 1) (.ref p) (.ref q) ((List.range xs.length).all e)
 | lstN {k:Nat} {p q:Addr} {xs ys:List V} (hp:SqL K H p xs) (hq:SqL K H q ys) (hl:xs.length ≠ ys.length):EqH K H (k + 1) (.ref p) (.ref q) false
 | tup {k:Nat} {p q:Addr} {xs ys:List V} {e:Nat→Bool} (hp:SqT K H p xs) (hq:SqT K H q ys) (he:∀ (j:Nat) (x y:V),xs[j]? = some x→ys[j]? = some y→EqH K H k x y (e j)):EqH K H (k + 1) (.ref p) (.ref q) ((List.range (min xs.length ys.length)).all e && xs.length == ys.length)
theorem RG {x:V} (h:Vl x=true):eqV x x=true:=by
 cases x <;> first | rfl | (simp [eqV];done) | cases h
theorem Hs {n:Nat} {e:Nat→Bool} (h:∀ j,j < n→e j=true):(List.range n).all e=true:=by
 rw [List.all_eq_true];exact fun j hj=>h j (List.mem_range.mp hj)
section
variable {X:Cx} {pins:List (Addr × Obj)} {σ:St} {H:Hp} {s:Shared}
theorem EqH.self (I:Inv X pins σ H s) {k:Nat} {x y:V} {b:Bool} (h:EqH X.K H k x y b) (e:x=y):b=true:=by
 induction h with
 | flat hx hy=>subst e;exact RG hx
 | @lst k p q xs ys f hp hq hl he ih=>
  injection e with e;subst e;have:=I.list_inj hp hq;subst this;refine Hs fun j hj=>?_
  exact ih j xs[j] xs[j] (List.getElem?_eq_getElem hj) (List.getElem?_eq_getElem hj) rfl
 | lstN hp hq hl=>
  injection e with e;subst e;have:=I.list_inj hp hq;subst this;exact absurd rfl hl
 | @tup k p q xs ys f hp hq he ih=>
  injection e with e;subst e;have:=I.tuple_inj hp hq;subst this;rw [Bool.and_eq_true];refine ⟨Hs fun j hj=>?_,by simp⟩;have hj':j < xs.length:=by omega
  exact ih j xs[j] xs[j] (List.getElem?_eq_getElem hj') (List.getElem?_eq_getElem hj') rfl
end
section
variable {X:Cx} {pins:List (Addr × Obj)} {σ:St} {H:Hp} {s:Shared}
end
section
variable {X:Cx}
end
theorem EqH.mono {K:PySem.W.Frag} {H:Hp} {j k:Nat} {x y:V} {b:Bool} (h:EqH K H j x y b):j ≤ k→EqH K H k x y b:=by
 induction h generalizing k with
 | flat hx hy=>exact fun _=>.flat hx hy
 | lst hp hq hl he ih=>
  intro hk;obtain ⟨m,rfl⟩:∃ m,k=m + 1:=⟨k - 1,by omega⟩;exact .lst hp hq hl fun j x y h1 h2=>ih j x y h1 h2 (by omega)
 | lstN hp hq hl=>
  intro hk;obtain ⟨m,rfl⟩:∃ m,k=m + 1:=⟨k - 1,by omega⟩;exact .lstN hp hq hl
 | tup hp hq he ih=>
  intro hk;obtain ⟨m,rfl⟩:∃ m,k=m + 1:=⟨k - 1,by omega⟩;exact .tup hp hq fun j x y h1 h2=>ih j x y h1 h2 (by omega)
end L2
namespace L2
open PySem PySem.Spec PyProof.Rows PySem.Builtin PySem.Builtin.ObjectAttr
noncomputable abbrev bmV:List Value:=[.type "ValueError",.type "Exception",.type "BaseException",.type "object"]
noncomputable def LI (K:PySem.W.Frag) (C fI:Addr):Bool:=
 match K.lookup C with
 | some ⟨.type "type",_,.cls cd,sl⟩=>
  match cd.mro,sl.toList with
  | .ref D :: tl,[_,_,_,_,some (.builtin n),_]=>
   (D == C) && (n == "ValueError.__new__") && (cd.hasDel == false) && (cd.hasDict == true) && PySem.W.tailIn K bmV tl && PySem.W.nsOkIn K cd.ns && (PySem.W.nsIn K cd.ns "__init__" == some (some (.ref fI)))
  | _,_=>false
 | _=>false
section
variable {P:Program} {w:World} {A:Around} {h:Heap} {g:Array GenState} {d:Drawn} {t:Nat} {os:OsState} {K:PySem.W.Frag} {C fI:Addr} {R:Result→Shared→Prop}
end
noncomputable def YJ:List Value→Bool
 | .ref _ :: r=>YJ r
 | l=>l == bmV
structure fP (K:PySem.W.Frag) (C:Addr):Prop where
 hd:PySem.W.hasDictIn K C=true
 ov:((PySem.W.clsIn K C).any fun cd=>YJ cd.mro)=true
 sa:PySem.W.findIn K (.ref C) "__setattr__"=some (some (.builtin "object.__setattr__"))
 ga:PySem.W.findIn K (.ref C) "__getattribute__"=some (some (.builtin "BaseException.__getattribute__"))
 gt:PySem.W.findIn K (.ref C) "__getattr__"=some none
 ex:∃ fI,LI K C fI=true
noncomputable def XF (x C:Addr) (od:Option Addr):Heap→Prop:=fun h=>∃ vs sl,h.get? x=some ⟨.ref C,od,.fields vs,sl⟩∧1 < vs.size∧vs[1]? = some .none
noncomputable def XD (dx:Addr) (fs:List (Str × V)):Heap→Prop:=fun h=>∃ mA,h.Ns1 dx mA∧(∀ f,As (fs.lookup f) (mA f))∧PySem.Within mA (fs.map (·.1))
theorem XF.at {x C:Addr} {od:Option Addr} {h h':Heap} (z:XF x C od h) (k:∀ o,h.get? x=some o→h'.get? x=some o):XF x C od h':=let ⟨vs,sl,e,r⟩:=z;⟨vs,sl,k _ e,r⟩
theorem XD.at {dx:Addr} {fs:List (Str × V)} {h h':Heap} (z:XD dx fs h) (k:∀ o,h.get? dx=some o→h'.get? dx=some o):XD dx fs h':=let ⟨mA,e,r⟩:=z;⟨mA,e.at k,r⟩
theorem XF.ok {P:Program} {w:World} {H:Hp} {h:Heap} {x C:Addr} {od:Option Addr} (z:XF x C od h):Zd P w H h x (.ext (XF x C od)):=by
 obtain ⟨vs,sl,e,r⟩:=id z;exact ⟨z,⟨_,e⟩,fun h1 h2 q k=>q.at k⟩
theorem XD.ok {P:Program} {w:World} {H:Hp} {h:Heap} {dx:Addr} {fs:List (Str × V)} (z:XD dx fs h):Zd P w H h dx (.ext (XD dx fs)):=by
 obtain ⟨mA,⟨o,es,ep,e,_⟩,_⟩:=id z;exact ⟨z,⟨_,e⟩,fun h1 h2 q k=>q.at k⟩
section
variable {prog:Program} {w:World} {A:Around} {E:Value→Shared→Prop} {K:PySem.W.Frag} {C x:Addr} {s:Shared} {R:Result→Shared→Prop}
end
section
variable {X:Cx} {pins:List (Addr × Obj)} {σ:St} {H:Hp} {s:Shared} {x C dx:Addr} {fs:List (Str × V)} {f:Str} {y:V} {u:Value} {A:Around} {E:Value→Shared→Prop} {Q:Unit→Shared→Prop}
noncomputable def XA (x C:Addr) (od:Option Addr):Heap→Prop:=fun h=>∃ vs sl,h.get? x=some ⟨.ref C,od,.fields vs,sl⟩
theorem XA.at {x C:Addr} {od:Option Addr} {h h':Heap} (z:XA x C od h) (k:∀ o,h.get? x=some o→h'.get? x=some o):XA x C od h':=let ⟨vs,sl,e⟩:=z;⟨vs,sl,k _ e⟩
theorem XA.ok {P:Program} {w:World} {H:Hp} {h:Heap} {x C:Addr} {od:Option Addr} (z:XA x C od h):Zd P w H h x (.ext (XA x C od)):=by
 obtain ⟨vs,sl,e⟩:=id z;exact ⟨z,⟨_,e⟩,fun h1 h2 q k=>q.at k⟩
end
noncomputable abbrev TJ:=St→Hp→(Hp→Prop)→Prop
section
variable {X:Cx} {e:Expr} {es:List Expr} {n:Nat} {t:TJ} {te:TE} {pos:Pos}
end
structure tP (K:PySem.W.Frag) (L:Addr) (m:Str):Prop where
 rd:PySem.W.readsIn K L (.type "type")=true
 fd:PySem.W.findCls K (.ref L) (.type "type") m=some (.val (.builtin "ValueError.__init__"))
 ga:PySem.W.specialIn K (.ref L) "__getattribute__"=some (some (.builtin "type.__getattribute__"))
section
variable {X:Cx} {L:Addr} {x:Str} {p pos apos:Pos} {e:Expr} {es:List Expr} {t:TA}
end
structure MkX (K:PySem.W.Frag) (C fI:Addr):Prop where
 e:LI K C fI=true
 fn:PySem.W.typeIn K (.ref fI)=some (.type "function")
 kp:PySem.W.keepIn K (.ref C)=true
section
variable {X:Cx} {k:Nat} {f C:Addr} {fd:FuncData} {ps:List Str} {sp:Sp} {x g:Str} {p pos pos' apos:Pos} {e o value:Expr} {es:List Expr} {ta tv:TE} {t:TA}
end
end L2
namespace L2
open PySem PySem.Spec PyProof.Rows PySem.Builtin PySem.Builtin.ObjectAttr
noncomputable def FlA (x C:Addr) (od:Option Addr) (T:Addr) (fl:Value) (h:Heap):Prop:=
 T ≠ x∧∃ vs sl oT ts,h.get? x=some ⟨.ref C,od,.fields vs,sl⟩∧vs[1]? = some (.ref T)∧h.get? T=some oT∧oT.data=.fields ts∧ts[3]? = some fl
theorem FlA.xa {x C T:Addr} {od:Option Addr} {fl:Value} {h:Heap} (z:FlA x C od T fl h):XA x C od h:=let ⟨_,vs,sl,_,_,e,_⟩:=z;⟨vs,sl,e⟩
structure Kp (fs:List Addr) (x:Addr) (To:Option Addr) (h h':Heap):Prop where
 keep:∀ b o,h.get? b=some o→b ∉ fs→b ≠ x→some b ≠ To→h'.get? b=some o
 slot:∀ b o,h.get? b=some o→b ∈ fs→∃ sl,h'.get? b=some { o with slots:=sl }
 there:∀ b o,h.get? b=some o→∃ o',h'.get? b=some o'
section
variable {M:Model} {A:Around} {E:Value→Shared→Prop} {s:Shared}
theorem nofr {base h:Heap} {l:List Env} {b:Addr} {o:Obj} {vs:Array Value} (hl:h.FunFrames base l) (e:h.get? b=some o) (d:o.data=.fields vs):b ∉ frs l:=fun hm=>by
 obtain ⟨_,o',e',nf⟩:=hl.mem hm;rw [e] at e';cases e';exact nf vs d
end
section
variable {P:Program} {w:World} {H:Hp} {h h':Heap} {fs:List Addr} {x C T:Addr} {od:Option Addr} {fl:Value} {To:Option Addr} {o:HO}
theorem Kp.hok (k:Kp fs x To h h') (ok:HOk P w H h) (hfs:∀ b ∈ fs,H b=none) (hT:∀ t,To=some t→H t=none) (mu:Mut (H x)) (new:XA x C od h'):HOk P w (upd H x (.ext (XA x C od))) h':=fun b u q=>by
 have nown:∀ c y,H c=some (.own y)→c ≠ x:=fun c y r z=>by subst z;rw [r] at mu;exact mu
 have ntup:∀ c xs,H c=some (.tup xs)→c ≠ x:=fun c xs r z=>by subst z;rw [r] at mu;exact mu
 have kk:∀ c v,c ≠ x→H c ≠ none→h.get? c=some v→h'.get? c=some v:=fun c v n1 n2 r=>k.keep c v r (fun z=>n2 (hfs c z)) n1 fun z=>n2 (hT c z.symm)
 by_cases hb:b=x
 ·subst hb;rw [gb] at q;cases q;exact new.ok
 ·rw [Db hb] at q;refine (ok b u q).stay (fun c v hc r=>?_) (fun c r=>by rw [Db (nown c b r)];exact r) fun c xs r=>by rw [Db (ntup c xs r)];exact r
  rcases hc with rfl | hc
  ·exact kk c v hb (by rw [q];exact fun z=>by cases z) r
  ·exact kk c v (nown c b hc) (by rw [hc];exact fun z=>by cases z) r
theorem Kp.un (k:Kp fs x To h h') (hT:∀ t,To=some t→H t=none) (mu:Mut (H x)):Un fs To.toList H (upd H x o) h h':=by
 have hx:∀ b,H b=none→b ≠ x:=fun b n z=>by subst z;rw [n] at mu;exact mu
 have hm:∀ b u,H b=some u→¬ Mut (some u)→b ≠ x:=fun b u q nm z=>by subst z;rw [q] at mu;exact nm mu
 refine ⟨fun b u q n n1 n2=>k.keep b u q n1 (hx b n) fun z=>n2 (by rw [← z];simp),fun b u q n n1 n2=>k.slot b u q n1,fun b u q n _=>by rw [Db (hx b n)];exact n,fun b u q _=>k.there b u q,
  fun b xs q=>by rw [Db (hm b _ q fun z=>z)];exact q,fun b u xs q=>by rw [Db (hm b _ q fun z=>z)];exact q,fun b ps q=>⟨#[],by rw [Db (hm b _ q fun z=>z),q];simp⟩⟩
end
noncomputable def CX1 (P:Program) (w:World):CXT:=fun outer H s E e s'=>
 ∃ x C od H' T,e=.ref x∧s'.os=s.os∧AllBare s'.gens∧Un (frs outer) [] H H' s.heap s'.heap∧HOk P w H' s'.heap∧H' x=some (.ext (XA x C od))∧s.heap.objs.size ≤ T∧H' T=none∧FlA x C od T .none s'.heap∧E (.ref C) od H'
theorem Un.less {fs fs' ex ex':List Addr} {H H':Hp} {h h':Heap} (u:Un fs ex H H' h h') (hs:∀ b o,h.get? b=some o→b ∈ fs→b ∈ fs') (hx:∀ b o,h.get? b=some o→b ∈ ex→b ∈ ex'):Un fs' ex' H H' h h':=
 ⟨fun b o q n n1 n2=>u.keep b o q n (fun z=>n1 (hs b o q z)) fun z=>n2 (hx b o q z),fun b o q n _ n2=>u.any q n fun z=>n2 (hx b o q z),fun b o q n n2=>u.free b o q n fun z=>n2 (hx b o q z),fun b o q n2=>u.there b o q fun z=>n2 (hx b o q z),u.tups,u.frzs,u.tbls⟩
structure Fr1 (X:Cx):Prop where
 st:X.stack=X.env :: X.outer
 fr:X.env.frame=some X.env.locals
noncomputable def pP (X:Cx) (pins:List (Addr × Obj)) (T:Addr):Prop:=(T ∈ X.ex∨X.s₀.heap.objs.size ≤ T)∧T ≠ X.env.locals∧(∀ x c,X.env.cells.lookup x=some c→c ≠ T)∧∀ p ∈ X.pn ++ pins,p.1 ≠ T
section
variable {X:Cx} {pins:List (Addr × Obj)} {σ:St} {H:Hp} {s:Shared} {T x C:Addr} {od:Option Addr} {E:St→XK} {M:Model} {A:Around} {E':Value→Shared→Prop} {Q:Unit→Shared→Prop} {e fl:Value} {h':Heap}
end
section
variable {P:Program} {w:World} {K:PySem.W.Frag} {mg:Str→Option Value} {base:Heap} {N:List Str} {qual:Str} {scope:Scope} {f:Addr} {cd:Value} {A:Around} {outer:List Env} {s:Shared} {H:Hp} {E:XK}
end
section
variable {X:Cx} {CX:CXT} {k:Nat} {f C:Addr} {fd:FuncData} {ps:List Str} {sp:Sp} {dvs:List V} {ds:List Value} {E:St→XK} {x m:Str} {p pos apos:Pos} {e o:Expr} {es:List Expr} {ta:TE} {t:TA}
end
noncomputable abbrev Cx.tr (X:Cx) (pn:List (Addr × Obj)) (E:Value→Shared→Prop):Cx:={ X with pn:=X.pn ++ pn,xe:=E }
noncomputable abbrev Cx.hn (X:Cx) (e:Value):Cx:={ X with A:=X.A.mark (some e),calm:=false,xe:=fun _ _=>False }
section
variable {X:Cx} {pins pins':List (Addr × Obj)} {σ:St} {H:Hp} {s:Shared} {E:Value→Shared→Prop} {e:Value}
theorem Cx.Ok.tr (ok:X.Ok) (pn:List (Addr × Obj)) (E:Value→Shared→Prop):(X.tr pn E).Ok:=
 ⟨ok.mod,ok.kind,ok.glob,ok.blt,ok.above,ok.inj,ok.has,ok.cab,ok.hd,ok.frames,ok.stk,ok.exf,ok.bs,ok.bsz,ok.noex,ok.exfs,ok.funs,ok.frf⟩
theorem Cx.Ok.hn (ok:X.Ok) (e:Value):(X.hn e).Ok:=
 ⟨ok.mod,ok.kind,ok.glob,ok.blt,ok.above,ok.inj,ok.has,ok.cab,(fun z=>Bool.noConfusion z),ok.frames,ok.stk,ok.exf,ok.bs,ok.bsz,ok.noex,ok.exfs,ok.funs,ok.frf⟩
theorem Inv.tr (I:Inv X pins σ H s) (E:Value→Shared→Prop):Inv (X.tr pins E) [] σ H s:=⟨I.ok.tr pins E,I.os,I.bare,I.base,I.loc,I.cell,I.free,I.freeC,fun p hp=>I.pin p (by simpa using hp),I.hok,I.len⟩
theorem Inv.hn (I:Inv X pins σ H s) (e:Value):Inv (X.hn e) pins σ H s:=⟨I.ok.hn e,I.os,I.bare,I.base,I.loc,I.cell,I.free,I.freeC,I.pin,I.hok,I.len⟩
end
noncomputable def sj.gone (D:sj) (i:Nat):sj:={ nx:=fun σ H=>D.nx (σ.set i none) H,rt:=D.rt,bk:=fun σ H=>D.bk (σ.set i none) H,ct:=fun σ H=>D.ct (σ.set i none) H }
section
variable {X:Cx} {body suite:List Stmt} {b0:Stmt} {x n:Str} {c:Addr} {i:Nat} {tb:(St→XK)→TS} {th:TS} {xp hp pos:Pos}
end
theorem dC (D:sj) (i:Nat) (σ:St) (H:Hp):(D.gone i).nx σ H=D.nx (σ.set i none) H:=rfl
theorem sD (D:sj) (i:Nat) (v:V) (H:Hp):(D.gone i).rt v H=D.rt v H:=rfl
theorem OwnTail.has {h:Heap} {bm tl:List Value} {v:Value} (T:OwnTail h bm tl) (e:bm.contains v=true):tl.contains v=true:=by
 induction T with
 | base=>exact e
 | own _ _ _ _ ih=>rw [List.contains_cons,ih,Bool.or_true]
section
variable {X:Cx} {e:Expr} {te:TE} {pos:Pos} {E:St→XK}
theorem PS.nox {X:Cx} {st:Stmt} {t:TS} (h:PS X.nox st t):PS X st t:=fun pins s σ H D I hw=>
 wpAny_mono (h pins s σ H D (I.wish _) hw) (fun _ _ q=>q.unwish) fun _ _ z=>False.elim z
end
noncomputable def xeB (B:Cx) (E:XK) (e:Value) (s':Shared):Prop:=
 ∃ pins fl σ' H' x C od T,e=.ref x∧Inv B pins σ' H' s'∧H' x=some (.ext (XA x C od))∧H' T=none∧pP B pins T∧B.s₀.heap.objs.size ≤ T∧FlA x C od T fl s'.heap∧E (.ref C) od H'
structure FO (X:Cx) (scope:Scope) (N:List Str) (tg elt:Expr) (ifs:List Expr) (g:TG) (tc:TT) (te:XK→TE):Prop where
 tgt:∀ E C s H fp,PG ((X.block scope C N s H fp).wish (xeB (X.block scope C N s H fp) E)) tg g
 tests:∀ E C s H fp,PTs ((X.block scope C N s H fp).wish (xeB (X.block scope C N s H fp) E)) ifs tc
 elem:∀ E C s H fp,PE ((X.block scope C N s H fp).wish (xeB (X.block scope C N s H fp) E)) elt (te E)
theorem FO.of {X:Cx} {scope:Scope} {N:List Str} {tg elt:Expr} {ifs:List Expr} {g:TG} {tc:TT} {te:XK→TE} (h1:∀ E C s H fp,PG ((X.block scope C N s H fp).wish (xeB (X.block scope C N s H fp) E)) tg g)
  (h2:∀ E C s H fp,∃ t,PTs ((X.block scope C N s H fp).wish (xeB (X.block scope C N s H fp) E)) ifs t∧t=tc) (h3:∀ E C s H fp,∃ t,PE ((X.block scope C N s H fp).wish (xeB (X.block scope C N s H fp) E)) elt t∧t=te E):FO X scope N tg elt ifs g tc te:=
 ⟨h1,fun E C s H fp=>by obtain ⟨t,h,rfl⟩:=h2 E C s H fp;exact h,fun E C s H fp=>by obtain ⟨t,h,e⟩:=h3 E C s H fp;rw [← e];exact h⟩
section
variable {X:Cx} {elt tg iter:Expr} {ifs:List Expr} {scope:Scope} {pos:Pos} {wi:TI} {g:TG} {tc:TT} {te:XK→TE} {N:List Str} {sel:List (Option Nat)}
theorem FlA.but {x C T c:Addr} {od:Option Addr} {fl:Value} {h h':Heap} (z:FlA x C od T fl h) (n1:x ≠ c) (n2:T ≠ c) (k:∀ b,b ≠ c→h'.get? b=h.get? b):FlA x C od T fl h':=by
 obtain ⟨ne,vs,sl,oT,ts,he,h1,hT,hd,h3⟩:=z;exact ⟨ne,vs,sl,oT,ts,(k _ n1).trans he,h1,(k _ n2).trans hT,hd,h3⟩
end
structure SO (K:PySem.W.Frag) (C:Addr):Prop where
 cl:Cls K C
 ha:PySem.W.findIn K (.ref C) "__class__"=some (some (.builtin "object.__class__"))
 hn:PySem.W.specialIn K (.builtin "object.__class__") "__get__"=some (some (.builtin "getset_descriptor.__get__"))
 htk:PySem.W.takesIn K (.builtin "object.__class__")=some true
 hm:PySem.W.mroIn K C (.type "object")=some true
theorem SO.ty {K:PySem.W.Frag} {H:Hp} {C a dx:Addr} {fs:List (Str × V)} (c:SO K C) (e:H a=some (.ins C dx fs)):MB K H (.ref a) (.ref C):=.ins e c.cl c.ha c.hn c.htk c.hm
end L2
namespace L2
open PySem PySem.Spec PyProof.Rows
section
variable {X:Cx} {tg:Expr}
end
section
variable {prog:Program} {w:World} {A:Around} {E:Value→Shared→Prop} {s:Shared} {it l:Addr} {items:Array Value}
end
section
variable {X:Cx}
end
section
variable {prog:Program} {w:World} {A:Around} {R:Result→Shared→Prop} {I:Addr} {fp wr:List Addr} {n:Nat} {P:Nat→Value→Prop} {St:Nat→Heap→Prop}
noncomputable def EM (P:Nat→Value→Prop) (bt:Nat→Nat→Bool) (j:Nat) (acc:Array Value):Prop:=(j=0∧acc=#[])∨∃ vb i,j=i + 1∧acc=#[vb,vb]∧P (argBest bt i) vb
end
section
variable {prog:Program} {w:World} {A:Around} {E:Value→Shared→Prop} {s:Shared}
end
section
variable {X:Cx}
end
end L2
namespace L2
open PySem PySem.Spec PyProof.Rows
structure rP (K:PySem.W.Frag) (C:Addr):Prop where
 x:fP K C
 ha:PySem.W.findIn K (.ref C) "__class__"=some (some (.builtin "object.__class__"))
 hn:PySem.W.specialIn K (.builtin "object.__class__") "__get__"=some (some (.builtin "getset_descriptor.__get__"))
 htk:PySem.W.takesIn K (.builtin "object.__class__")=some true
 hm:PySem.W.mroIn K C (.type "object")=some true
section
variable {prog:Program} {w:World} {A:Around} {E:Value→Shared→Prop} {s:Shared} {K:PySem.W.Frag} {x C:Addr} {od:Obj} {dx:Addr} {vs:Array Value} {sl:Array (Option Value)}
end
section
variable {X:Cx}
end
theorem Rb.quiet {P:Program} {w:World} {K:PySem.W.Frag} {mg:Str→Option Value} {base:Heap} {k:Nat} {f:Addr} {fd:FuncData} {ps:List Str} {sp sp':Sp} (F:Rb P w K mg base (CX1 P w) k f fd ps sp)
  (h:∀ vs H Q E,sp' vs H Q E→sp vs H Q (fun _ _ _=>False)):Rb P w K mg base CX0 k f fd ps sp':=by
 refine ⟨fun vs H Q E q=>F.len vs H _ _ (h vs H Q E q),fun A outer s H args us vs Q E hr he hb hv hs=>?_⟩;refine codeAny_mono (F.run A outer s H args us vs Q _ hr he hb hv (h vs H Q E hs)) fun r s' hq=>?_
 cases r with
 | error e=>
  obtain ⟨x,C,od,H',T,_,_,_,_,_,_,_,_,_,z⟩:=hq;exact z.elim
 | ok fl=>cases fl <;> exact hq
end L2
namespace L2
open PySem PySem.Spec PyProof.Rows
structure Dn (k:Nat) (A:Around):Prop where
 dp:A.depth + 3 * k + 5 < recursionLimit
 un:A.units + 16 * k + 200 < cLine
theorem Gj.h {k:Nat} {A:Around} (r:Gj k A):Dn k A:=⟨r.dp,r.un⟩
theorem Dn.mono {j k:Nat} {A:Around} (r:Dn k A) (h:j ≤ k):Dn j A:=⟨by have:=r.dp;omega,by have:=r.un;omega⟩
theorem Dn.deeper {k:Nat} {A:Around} (r:Dn (k + 1) A) (env:Env):Dn k (A.deeper env):=
 ⟨by have:=r.dp;show A.depth + 1 + 3 * k + 5 < _;omega,by have:=r.un;show A.units + 3 + 16 * k + 200 < _;omega⟩
theorem Dn.depth {k:Nat} {A:Around} (r:Dn k A):A.depth < recursionLimit:=by have:=r.dp;omega
theorem Dn.units {k:Nat} {A:Around} (r:Dn k A):A.units + 64 < cLine:=by have:=r.un;omega
theorem Gj.hn {k:Nat} {X:Cx} {e:Value} (r:Gj k X.A):Dn k (X.hn e).A:=⟨r.dp,r.un⟩
structure mJ (P:Program) (w:World) (K:PySem.W.Frag) (mg:Str→Option Value) (base:Heap) (CX:CXT) (k:Nat) (f:Addr) (fd:FuncData) (ps:List Str) (sp:Sp):Prop where
 len:∀ vs H Q E,sp vs H Q E→vs.length=ps.length
 run:∀ (A:Around) (outer:List Env) (s:Shared) (H:Hp) (args:Args) (us:List Value) (vs:List V) (Q:VK) (E:XK),Dn k A→BE P w K mg base A outer s H→BindsTo s fd args (ps.zip us)→md vs us→sp vs H Q E →
  codeAny (model P w) A (.call (.ref f) args) (CR CX outer P w H s Q E) s
theorem mJ.mono {P:Program} {w:World} {K:PySem.W.Frag} {mg:Str→Option Value} {base:Heap} {CX:CXT} {j k:Nat} {f:Addr} {fd:FuncData} {ps:List Str} {sp:Sp} (F:mJ P w K mg base CX j f fd ps sp) (h:j ≤ k) :
  mJ P w K mg base CX k f fd ps sp:=⟨F.len,fun A outer s H args us vs Q E hr=>F.run A outer s H args us vs Q E (hr.mono h)⟩
section
variable {X:Cx} {CX:CXT} {k:Nat} {f C:Addr} {fd:FuncData} {ps:List Str} {sp:Sp} {dvs:List V} {ds:List Value} {E:XK} {x m:Str} {p pos apos:Pos} {e o:Expr} {es:List Expr} {ta:TE} {t:TA}
end
noncomputable def uN (CX:CXT) (P:Program) (w:World) (K:PySem.W.Frag) (mg:Str→Option Value) (base:Heap) (N:List Str) (qual:Str) (scope:Scope) (f:Addr) (cd:Value) (A:Around) (outer:List Env) (s:Shared) (H:Hp) (E:XK):Cx where
 prog:=P
 w:=w
 K:=K
 mg:=mg
 base:=base
 A:=A.deeper (envOfC qual scope s.heap.objs.size f cd)
 N:=N
 s₀:=s
 H₀:=H
 env:=envOfC qual scope s.heap.objs.size f cd
 outer:=outer
 stack:=envOfC qual scope s.heap.objs.size f cd :: outer
 ex:=[]
 calm:=false
 fn:=fun _=>true
 pn:=[]
 xe:=fun e s'=>wpAny (model P w) (A.deeper (envOfC qual scope s.heap.objs.size f cd)) (leaving (envOfC qual scope s.heap.objs.size f cd) e) (fun _ s''=>CX outer H s E e s'') (fun e' s''=>CX outer H s E e' s'') s'
section
variable {P:Program} {w:World} {K:PySem.W.Frag} {mg:Str→Option Value} {base:Heap}
end
end L2
namespace L2
open PySem PySem.Spec PyProof.Rows
section
variable {X:Cx}
end
end L2
namespace L2
open PySem PySem.Spec PyProof.Rows
section
variable {α:Type} {M:List α→Prop}
theorem us1 (h:∀ a,M [a]):∀ us:List α,us.length=1→M us | [a],_=>h a
theorem us2 (h:∀ a b,M [a,b]):∀ us:List α,us.length=2→M us | [a,b],_=>h a b
theorem us3 (h:∀ a b c,M [a,b,c]):∀ us:List α,us.length=3→M us | [a,b,c],_=>h a b c
theorem us4 (h:∀ a b c d,M [a,b,c,d]):∀ us:List α,us.length=4→M us | [a,b,c,d],_=>h a b c d
theorem us5 (h:∀ a b c d e,M [a,b,c,d,e]):∀ us:List α,us.length=5→M us | [a,b,c,d,e],_=>h a b c d e
theorem us7 (h:∀ a b c d e f g,M [a,b,c,d,e,f,g]):∀ us:List α,us.length=7→M us | [a,b,c,d,e,f,g],_=>h a b c d e f g
theorem us8 (h:∀ a b c d e f g i,M [a,b,c,d,e,f,g,i]):∀ us:List α,us.length=8→M us | [a,b,c,d,e,f,g,i],_=>h a b c d e f g i
end
structure XB (K:PySem.W.Frag) (C:Addr):Prop where
 hd:PySem.W.hasDictIn K C=true
 ov:((PySem.W.clsIn K C).any fun cd=>YJ cd.mro)=true
 sa:PySem.W.findIn K (.ref C) "__setattr__"=some (some (.builtin "object.__setattr__"))
 ga:PySem.W.findIn K (.ref C) "__getattribute__"=some (some (.builtin "BaseException.__getattribute__"))
 gt:PySem.W.findIn K (.ref C) "__getattr__"=some none
structure IB (K:PySem.W.Frag) (C:Addr):Prop where
 ha:PySem.W.findIn K (.ref C) "__class__"=some (some (.builtin "object.__class__"))
 hn:PySem.W.specialIn K (.builtin "object.__class__") "__get__"=some (some (.builtin "getset_descriptor.__get__"))
 htk:PySem.W.takesIn K (.builtin "object.__class__")=some true
 hm:PySem.W.mroIn K C (.type "object")=some true
end L2
namespace L2
open PySem PySem.Spec PyProof.Rows
theorem Ds {ks:List Int}:∀ {its:List Value},md (ks.map V.int) its→∃ xs:List (Int × Tok),its=xs.map (fun p=>Value.int p.1 p.2)∧xs.map (·.1)=ks:=by
 induction ks with
 | nil=>intro its r;cases r;exact ⟨[],rfl,rfl⟩
 | cons k ks ih=>
  intro its r;cases r with
  | cons h t=>
   obtain ⟨xs,e1,e2⟩:=ih t;obtain ⟨tk,rfl⟩:=(show ∃ t,_=Value.int k t from h);exact ⟨(k,tk) :: xs,by rw [List.map_cons,← e1],by rw [List.map_cons,e2]⟩
section
variable {X:Cx}
theorem BC (hc:X.calm=true):zi X (.builtin "max") (fun xs H Q=>∃ l ks m,xs=[.ref l]∧SqL X.K H l (List.map V.int ks)∧(m ∈ ks∧∀ k ∈ ks,k ≤ m)∧Q (.int m) H):=by
 intro pins s σ H xs us Q I r h;obtain ⟨l,ks,m,rfl,hq,hm,q⟩:=h;obtain ⟨u,rfl,ru⟩:=Mm r;cases ru;obtain ⟨its,rv,pl,hz⟩:=I.list hq;obtain ⟨xs,e1,e2⟩:=Ds rv;have hil:its.toArray=intItems xs.toArray:=by rw [e1];unfold intItems;simp
 have hls:s.heap.IsList l (intItems xs.toArray):=by rw [← hil];exact pl.isList
 have hxl:xs.length=ks.length:=by rw [← e2,List.length_map]
 have hne:0 < xs.toArray.size:=by
  rw [List.size_toArray,hxl];exact List.length_pos_of_mem hm.1
 refine max_intList (I.ok.hd hc) hls hne fun v h' tk hv hk=>⟨.int m,H,I.kept hk,?_,q⟩
 obtain ⟨tv,rfl⟩:=intItems_at hv;refine ⟨tv,?_⟩;have hb:=argBest_gt (numAt xs.toArray) (xs.toArray.size - 1);generalize argBest (fun i j=>decide (numAt xs.toArray i > numAt xs.toArray j)) (xs.toArray.size - 1)=j at hb ⊢;have hn:∀ i,i < ks.length→ks[i]? = some (numAt xs.toArray i):=fun i hi=>by
  rw [numAt_eq,List.getD_eq_getElem?_getD];show ks[i]? = some (((xs.map (·.1))[i]?).getD 0);rw [e2,List.getElem?_eq_getElem hi];rfl
 rw [List.size_toArray] at hb hne;have h1:=hm.2 _ (List.mem_of_getElem? (hn j (by omega)));obtain ⟨i,hi⟩:=List.getElem?_of_mem hm.1;have hil:i < ks.length:=(List.getElem?_eq_some_iff.mp hi).1;have h2:=hb.2 i (by omega);have h3:m=numAt xs.toArray i:=Option.some.inj (hi.symm.trans (hn i hil));rw [show numAt xs.toArray j=m by omega]
end
end L2
namespace L2
open PySem PySem.Spec PyProof.Rows
noncomputable def EL (p d:Addr):Heap→Prop:=fun h=>PySem.W.KdlKeysView h p d
noncomputable def UN (p d:Addr):Heap→Prop:=fun h=>h.IsValuesView p d
theorem EL.ok {P:Program} {w:World} {H:Hp} {h:Heap} {p d:Addr} (z:EL p d h):Zd P w H h p (.ext (EL p d)):=
 ⟨z,let ⟨o,ho,_⟩:=z;⟨o,ho⟩,fun _ _ z1 k=>let ⟨o,ho,x⟩:=z1;⟨o,k o ho,x⟩⟩
theorem UN.ok {P:Program} {w:World} {H:Hp} {h:Heap} {p d:Addr} (z:UN p d h):Zd P w H h p (.ext (UN p d)):=
 ⟨z,let ⟨o,ho,_⟩:=z;⟨o,ho⟩,fun _ _ z1 k=>let ⟨o,ho,x⟩:=z1;⟨o,k o ho,x⟩⟩
section
variable {X:Cx}
noncomputable def wv:V→List V→Hp→VK→Prop:=fun x vs H Q=>∃ d kvs,x=.ref d∧vs=[]∧H d=some (.dK kvs)∧∀ p,H p=none→Q (.ref p) (upd H p (.ext (EL p d)))
end
end L2
namespace L2
open PySem PySem.Spec PyProof.Rows
noncomputable abbrev TF:=St→Hp→Str→(Str→Hp→Prop)→Prop
section
variable {X:Cx} {e:Expr} {es:List Expr} {t:TF} {te:TE} {pos:Pos}
end
end L2
namespace L2
open PySem PySem.Spec PyProof.Rows
noncomputable def AN (p:Addr) (a b c:Int):Heap→Prop:=fun h=>∃ t u v,IsRange h p a b c t u v
theorem AN.ok {P:Program} {w:World} {H:Hp} {h:Heap} {p:Addr} {a b c:Int} (z:AN p a b c h):Zd P w H h p (.ext (AN p a b c)):=
 ⟨z,let ⟨_,_,_,e⟩:=z;⟨_,e⟩,fun _ _ z1 k=>let ⟨t,u,v,e⟩:=z1;⟨t,u,v,k _ e⟩⟩
section
variable {X:Cx}
end
end L2
namespace L2
open PySem PySem.Spec PyProof.Rows
noncomputable def iP (c:Addr) (qual:Str):Heap→Prop:=fun h=>h.CodeRec (.ref c) qual
noncomputable def Tab (H:Hp) (Pt:Addr) (pos:Pos) (qual:Str):Prop:=
 ∃ ps,H Pt=some (.tbl ps)∧(ps=#[]∨∃ c',ps=#[rawInt pos.line,rawInt pos.col,.ref c']∧H c'=some (.ext (iP c' qual)))
noncomputable def Gu (Pt:Addr) (H H':Hp):Prop:=∀ b o,b ≠ Pt→H b=some o→H' b=some o
theorem Gu.refl (Pt:Addr) (H:Hp):Gu Pt H H:=fun _ _ _ h=>h
theorem Gu.trans {Pt:Addr} {H H1 H2:Hp} (a:Gu Pt H H1) (b:Gu Pt H1 H2):Gu Pt H H2:=fun c o n h=>b c o n (a c o n h)
theorem Tb.p {Pt:Addr} {H H':Hp} (s:Tb H H'):Gu Pt H H':=fun b o _ h=>s b o h
theorem Tab.ne {H:Hp} {Pt b:Addr} {pos:Pos} {qual:Str} {o:HO} (t:Tab H Pt pos qual) (h:H b=some o) (ho:∀ ps,o ≠ .tbl ps):b ≠ Pt:=fun e=>by
 obtain ⟨ps,e1,_⟩:=t;subst e;rw [e1] at h;exact ho ps (Option.some.inj h).symm
theorem Tab.step {H H':Hp} {Pt:Addr} {pos:Pos} {qual:Str} (t:Tab H Pt pos qual) (s:Tb H H'):Tab H' Pt pos qual:=by
 obtain ⟨ps,e,d⟩:=t;refine ⟨ps,s _ _ e,?_⟩;rcases d with d | ⟨c',d,e'⟩
 ·exact .inl d
 ·exact .inr ⟨c',d,s _ _ e'⟩
structure qP (X:Cx) (c Pt:Addr):Prop where
 code:X.env.code=.ref c
 hd:PySem.W.CodeHd X.base c Pt
 bm:X.base.BuiltinsAt X.mg Pt
section
variable {X:Cx} {pins:List (Addr × Obj)} {σ:St} {H:Hp} {s:Shared} {params:Arguments} {body:Expr} {scope:Scope} {pos:Pos} {c Pt:Addr} {clos:List (Str × Addr)} {Q:Value→Shared→Prop}
end
section
variable {P:Program} {w:World} {K:PySem.W.Frag} {mg:Str→Option Value} {base:Heap}
end
structure sP (p y:Str) (sc:Scope):Prop where
 kind:sc.kind=.function
 co:sc.isCoroutine=false
 gen:sc.isGenerator=false
 ne:p ≠ y
 par:sc.names.lookup p=some .local
 yf:sc.names.lookup y=some .free
 nocell:∀ z ∈ sc.names,z.2 ≠ .cell
 one:∀ z ∈ sc.names,z.2=.free→z.1=y
section
variable {X:Cx} {pins:List (Addr × Obj)} {σ:St} {H:Hp} {s:Shared} {k:Nat} {f c' cl:Addr} {q p y:Str} {params:Arguments} {body:Expr} {scope:Scope} {v:V} {t:TE}
end
end L2
namespace L2
open PySem PySem.Spec PyProof.Rows
end L2
namespace L2
open PySem PySem.Spec PyProof.Rows
section
variable {P:Program} {w:World} {A:Around} {E:Value→Shared→Prop} {s:Shared}
structure xI (h:Heap) (d:Addr) (o:Obj) (es:Array DictEntry) (ep:Nat):Prop where
 at_:h.get? d=some o
 ex:o.ExactDict
 dat:o.data=.dict es ep
theorem bD {d:Addr} {o:Obj} {es:Array DictEntry} {ep:Nat} (r:xI s.heap d o es ep):s.TypeIs (.ref d) "dict" := ⟨o,r.at_,r.ex.1⟩
theorem nF {d:Addr} {o:Obj} {es:Array DictEntry} {ep:Nat} {Q:Value→Shared→Prop} (hd:(d == sysModules)=false) (r:xI s.heap d o es ep)
  (hQ:Q (.ref s.heap.objs.size) { s with heap:=s.heap.push { cls:=.type "dict_keyiterator",data:=.fields #[.ref d,.int 0 0,.int es.size 0,.int ep 0] } }) :
  wpAny (model P w) A (pyIter (.ref d)) Q E s:=by
 have hT:=bD r;refine wpAny_pyIter_slot hT F.slot_dict_iter (wpAny_call_entry F.slot_dict_iter hT F.entry_dict_iter ?_ (F.args_dict_iter_1 _));unfold Builtin.«dict.__iter__» Builtin.Dict.dictSlotNone;refine wpAny_bind (wpAny_bind (wpAny_notOrdered_dict hT (wpAny_pure ?_)));show wpAny _ _ (Builtin.Dict.showsAll d >>= _) _ _ s;unfold Builtin.Dict.showsAll;rw [if_neg (by rw [hd];exact Bool.false_ne_true)];refine wpAny_bind (wpAny_pure (wpAny_bind (wpAny_dictEntries r.at_ r.dat (wpAny_bind (wpAny_dictEpoch r.at_ r.dat ?_)))));refine wpAny_bind (wpAny_newObj_type (wpAny_pure ⟨_,rfl,"dict_keyiterator",_,⟨_,Heap.get?_push_size _ rfl,rfl⟩,F.slot_dict_keyiterator_next.lookup,?_⟩));simpa [rawInt] using hQ
theorem gC {it d:Addr} {o:Obj} {i ep:Nat} {es:Array DictEntry} {e:DictEntry} {Q:Option Value→Shared→Prop} (hit:s.heap.IsKeyIter it d i es.size ep) (r:xI s.heap d o es ep) (hx:es[i]? = some e)
  (hQ:∀ h',h'.IsKeyIter it d (i + 1) es.size ep→Heap.SameBut it s.heap h'→Q (some e.key) { s with heap:=h' }):wpAny (model P w) A (pyNext (.ref it)) Q E s:=by
 obtain ⟨oi,ho,hc,hd⟩:=id hit;have hown:Builtin.Dict_items.ownsTuple "dict_keyiterator"=false:=by decide
 have hlt:i < es.size:=by
  rcases Nat.lt_or_ge i es.size with h | h
  ·exact h
  ·rw [Array.getElem?_eq_none h] at hx;cases hx
 unfold pyNext;refine wpAny_bind (wpAny_attempt (wpAny_callSpecial?_slot (name:=Str.ofString "__next__") hit.typeIs F.slot_dict_keyiterator_next
  (wpAny_call_entry F.slot_dict_keyiterator_next hit.typeIs F.entry_dict_keyiterator_next ?_ (F.args_dict_keyiterator_next_1 _))))
 refine wpAny_bind (wpAny_pure (wpAny_bind (wpAny_bind ?_)))
 first | refine wpAny_bind (wpAny_typeNameOfWhole_keyiter hit.typeIs (wpAny_pure ?_)) | refine wpAny_bind (wpAny_typeNameOf_keyiter hit.typeIs (wpAny_pure ?_))
 refine wpAny_bind (wpAny_fieldsOf ho hd ?_);simp only [hown,Bool.false_eq_true,if_false];show wpAny _ _ (if (Value.ref d == Value.none)=true then _ else _) _ _ s;rw [if_neg (show ¬ ((Value.ref d == Value.none)=true) from Bool.false_ne_true)];refine wpAny_bind (wpAny_pure (wpAny_bind (wpAny_dictEntries r.at_ r.dat ?_)));rw [if_neg (by simp)];refine wpAny_bind (wpAny_pure (wpAny_bind (wpAny_dictEpoch r.at_ r.dat ?_)));rw [if_neg (by simp)];refine wpAny_pure ?_;simp only [show ¬ ((i:Int) < 0) from by omega,if_false,Int.toNat_natCast,hx];refine wpAny_bind ?_
 first | refine wpAny_bind (wpAny_typeNameOfWhole_keyiter hit.typeIs (wpAny_pure ?_)) | refine wpAny_bind (wpAny_typeNameOf_keyiter hit.typeIs (wpAny_pure ?_))
 refine wpAny_bind (wpAny_isOneOf_keyiter hit.typeIs ?_);show wpAny _ _ (setField (.ref it) 1 (rawInt ((i:Int) + 1)) >>= _) _ _ s;refine wpAny_bind (wpAny_setField ho hd (by simp) ?_);have hit':(s.heap.update it (Obj.mapFields (·.setIfInBounds 1 (rawInt ((i:Int) + 1))))).IsKeyIter it d (i + 1) es.size ep:=
  ⟨_,Heap.get?_update_self _ ho (Obj.isFreed_of_fields (Obj.data_mapFields hd _)),(Obj.cls_mapFields ..).trans hc,by rw [Obj.data_mapFields hd];simp [rawInt]⟩
 refine wpAny_bind (wpAny_holding (wpAny_bind (wpAny_isOneOf_keyiter (s:={ s with heap:=s.heap.update it (Obj.mapFields (·.setIfInBounds 1 (rawInt ((i:Int) + 1)))) }) hit'.typeIs ?_)));show wpAny _ _ (pure e.key) _ _ _;exact wpAny_pure (wpAny_pure ⟨_,rfl,wpAny_pure (hQ _ hit' (Heap.SameBut.update ..))⟩)
theorem fH {it d:Addr} {o:Obj} {i ep:Nat} {es:Array DictEntry} {Q:Option Value→Shared→Prop} (hh:A.handled=none) (hit:s.heap.IsKeyIter it d i es.size ep) (r:xI s.heap d o es ep) (hx:es.size ≤ i)
  (hQ:∀ h',Heap.ExtBut it s.heap h'→Q none { s with heap:=h' }):wpAny (model P w) A (pyNext (.ref it)) Q E s:=by
 obtain ⟨oi,ho,hc,hd⟩:=id hit;have hown:Builtin.Dict_items.ownsTuple "dict_keyiterator"=false:=by decide
 unfold pyNext;refine wpAny_bind (wpAny_attempt (wpAny_callSpecial?_slot (name:=Str.ofString "__next__") hit.typeIs F.slot_dict_keyiterator_next
  (wpAny_call_entry F.slot_dict_keyiterator_next hit.typeIs F.entry_dict_keyiterator_next ?_ (F.args_dict_keyiterator_next_1 _))))
 refine wpAny_bind (wpAny_pure (wpAny_bind (wpAny_bind ?_)))
 first | refine wpAny_bind (wpAny_typeNameOfWhole_keyiter hit.typeIs (wpAny_pure ?_)) | refine wpAny_bind (wpAny_typeNameOf_keyiter hit.typeIs (wpAny_pure ?_))
 refine wpAny_bind (wpAny_fieldsOf ho hd ?_);simp only [hown,Bool.false_eq_true,if_false];show wpAny _ _ (if (Value.ref d == Value.none)=true then _ else _) _ _ s;rw [if_neg (show ¬ ((Value.ref d == Value.none)=true) from Bool.false_ne_true)];refine wpAny_bind (wpAny_pure (wpAny_bind (wpAny_dictEntries r.at_ r.dat ?_)));rw [if_neg (by simp)];refine wpAny_bind (wpAny_pure (wpAny_bind (wpAny_dictEpoch r.at_ r.dat ?_)));rw [if_neg (by simp)];refine wpAny_pure ?_;simp only [show ¬ ((i:Int) < 0) from by omega,if_false,Int.toNat_natCast,Array.getElem?_eq_none hx];refine wpAny_bind ?_
 first | refine wpAny_bind (wpAny_typeNameOfWhole_keyiter hit.typeIs (wpAny_pure ?_)) | refine wpAny_bind (wpAny_typeNameOf_keyiter hit.typeIs (wpAny_pure ?_))
 show wpAny _ _ (setField (.ref it) 0 .none >>= _) _ _ s;refine wpAny_bind (wpAny_setField ho hd (by simp) ?_);show wpAny _ _ (newExc (.type "StopIteration") [] >>= _) _ _ _;refine wpAny_bind ?_;simp only [newExc,newTuple];refine wpAny_bind (wpAny_newObj_type ?_ (by size_fits));refine wpAny_bind (m:=firstArgMember _ _) (wpAny_of_eq (a:=Value.none) (by first | rfl | (simp only [firstArgMember];rfl)) ?_);refine wpAny_newObj_type ?_ (by size_fits);simp only [raiseNew];refine wpAny_bind (wpAny_handled ?_);rw [show A.in1.handled=none from hh];refine wpAny_bind (wpAny_pure (wpAny_throw ?_));refine wpAny_bind (wpAny_isInstance (T := "StopIteration") (b:=true) ⟨_,Heap.get?_push_size _ rfl,rfl⟩ isSubtype_stop ?_);exact wpAny_pure (hQ _ (((Heap.SameBut.update ..).extBut.push _).push _))
end
noncomputable def AtO (a:Addr) (o:Obj):Heap→Prop:=fun h=>h.get? a=some o
theorem vx {α β:Type} {F:α→β→Prop} {l₁:List α} {l₂:List β} (r:Paired F l₁ l₂):∀ {i:Nat} {a:α},l₁[i]? = some a→∃ b,l₂[i]? = some b∧F a b:=by
 induction r with
 | nil=>intro i a e;cases e
 | cons h _ ih=>
  intro i a e;cases i with
  | zero=>cases e;exact ⟨_,rfl,h⟩
  | succ j=>exact ih (by simpa using e)
theorem Mo {α β:Type} {F:α→β→Prop} {l₁:List α} {l₂:List β} (r:Paired F l₁ l₂):l₁.length=l₂.length:=by
 induction r with
 | nil=>rfl
 | cons _ _ ih=>simp [ih]
structure iN (P:Program) (w:World) (H:Hp) (a:Addr) (kvs:List (List Key × V)) (o:Obj) (es:Array DictEntry) (ep:Nat) (xs:List (List Key × Addr × Value)):Prop where
 at_:H a=some (.ext (AtO a o))
 ex:o.ExactDict
 dat:o.data=.dict es ep
 ent:es.toList=xs.map (entryOfKey (tupleKind (ue P w)))
 nd:(xs.map (·.1)).Nodup
 ks:Paired (fun (p:List Key × V) (q:List Key × Addr × Value)=>p.1=q.1∧H q.2.1=some (.tup (p.1.map kV))∧Bd p.2 q.2.2) kvs xs
 sz:kvs.length ≤ sizeLine
 ns:(a == sysModules)=false
noncomputable def Hk (P:Program) (w:World) (H:Hp) (a:Addr) (kvs:List (List Key × V)):Prop:=∃ o es ep xs,iN P w H a kvs o es ep xs
section
variable {P:Program} {w:World} {H H':Hp} {h:Heap} {a:Addr} {kvs:List (List Key × V)}
theorem Pb (d:Hk P w H a kvs) (s:Tb H H'):Hk P w H' a kvs:=by
 obtain ⟨o,es,ep,xs,r⟩:=d;exact ⟨o,es,ep,xs,s _ _ r.at_,r.ex,r.dat,r.ent,r.nd,Paired.mapP r.ks fun p q z=>⟨z.1,s _ _ z.2.1,z.2.2⟩,r.sz,r.ns⟩
theorem kG {p:Addr} {u:HO} (d:Hk P w H a kvs) (hp:p ≠ a) (ht:∀ xs,H p ≠ some (.tup xs)):Hk P w (upd H p u) a kvs:=by
 obtain ⟨o,es,ep,xs,r⟩:=d;exact ⟨o,es,ep,xs,by rw [Db (Ne.symm hp)];exact r.at_,r.ex,r.dat,r.ent,r.nd,Paired.mapP r.ks fun q q' z=>⟨z.1,by rw [Db (fun e=>ht _ (e ▸ z.2.1))];exact z.2.1,z.2.2⟩,r.sz,r.ns⟩
theorem Ko {o:Obj} {es:Array DictEntry} {ep:Nat} {xs:List (List Key × Addr × Value)} (ok:HOk P w H h) (r:iN P w H a kvs o es ep xs):xI h a o es ep:=
 ⟨(ok a _ r.at_).1,r.ex,r.dat⟩
theorem YC (ok:HOk P w H h) (d:Hk P w H a kvs):Mut (H a)∧(∃ u,h.get? a=some u)∧Zd P w (upd H a (.dT kvs)) h a (.dT kvs):=by
 obtain ⟨o,es,ep,xs,r⟩:=d;have e:=(Ko ok r).at_;refine ⟨by rw [r.at_];exact True.intro,⟨o,e⟩,r.sz,r.ns,xs,Paired.mapP r.ks fun q q' z=>⟨z.1,?_,z.2.2⟩,o,es,ep,e,r.ex,r.dat,r.ent,r.nd⟩;rw [Db (fun e=>by have:=z.2.1;rw [e,r.at_] at this;cases this)];exact z.2.1
theorem mq (ok:HOk P w H h) (d:Hk P w H a kvs):HOk P w (upd H a (.dT kvs)) h:=
 have z:=YC ok d
 ok.write z.1 (.inl rfl) (fun _ _ _ q=>q) z.2.1 z.2.2
theorem IJ {b:Addr} {xs:List V} (d:Hk P w H a kvs) (e:H b=some (.tup xs)):b ≠ a:=fun z=>by
 obtain ⟨o,es,ep,ys,r⟩:=d;have:=r.at_;rw [← z,e] at this;cases this
end
section
variable {X:Cx} {pins:List (Addr × Obj)} {σ:St} {H:Hp} {s:Shared} {a b:Addr} {kvs:List (List Key × V)} {k:List Key} {v:V} {r:Value} {A:Around} {E:Value→Shared→Prop}
theorem Cz {o':HO} (I:Inv X pins σ H s) (mu:Mut (H a)) (ex:∃ u,s.heap.get? a=some u) (new:Zd X.prog X.w (upd H a o') s.heap a o'):Inv X pins σ (upd H a o') s:=
 I.un (t':=s.toks) (h':=s.heap) (Un.write mu (.inl rfl) (fun _ _ _ q=>q) ex) (I.hok.write mu (.inl rfl) (fun _ _ _ q=>q) ex new)
theorem jG (I:Inv X pins σ H s) (d:Hk X.prog X.w H a kvs):Inv X pins σ (upd H a (.dT kvs)) s:=
 have z:=YC I.hok d
 Cz I z.1 z.2.1 z.2.2
theorem Lz (I:Inv X pins σ H s) (e:H a=some (.dT kvs)):∃ o,Inv X pins σ (upd H a (.ext (AtO a o))) s∧Hk X.prog X.w (upd H a (.ext (AtO a o))) a kvs:=by
 obtain ⟨z,y,xs,r,o,es,ep,h1,h2,h3,h4,h5⟩:=(show Zd X.prog X.w H s.heap a (.dT kvs) from I.hok a _ e);refine ⟨o,Cz I (by rw [e];exact True.intro) ⟨o,h1⟩ ⟨h1,⟨o,h1⟩,fun _ _ q k=>k o q⟩,o,es,ep,xs,gb ..,h2,h3,h4,h5,Paired.mapP r fun p q z=>⟨z.1,?_,z.2.2⟩,z,y⟩;rw [Db (fun q=>by have:=z.2.1;rw [q,e] at this;cases this)];exact z.2.1
theorem GM {Q:Value→Shared→Prop} (hu:A.units + 1 < cLine) (I:Inv X pins σ H s) (d:Hk X.prog X.w H a kvs) (eb:H b=some (.tup (k.map kV))) (l:Ej kvs k=some v) (h:∀ w' s',Inv X pins σ H s'→Bd v w'→Q w' s') :
  wpAny (model X.prog X.w) A (getItem (.ref a) (.ref b)) Q E s:=by
 obtain ⟨z,hd,xs,rel,dd⟩:=UG (mq I.hok d) (gb ..);obtain ⟨w',hw,rw'⟩:=As.some_of (v:=v) (o:=(atKey xs k).map (·.2)) (by rw [← l];exact rel.val k);obtain ⟨p,hp,hp2⟩:=Option.map_eq_some_iff.mp hw;refine wpAny_getItem_heap (tupleKind_room_in1 hu) (Zn I.hok eb) dd hp ?_;rw [hp2];exact h w' _ (I.tok _) rw'
theorem cO {Q:Value→Shared→Prop} (hu:A.units + 1 < cLine) (I:Inv X pins σ H s) (d:Hk X.prog X.w H a kvs) (eb:H b=some (.tup (k.map kV))) (h:∀ s',Inv X pins σ H s'→Q (.bool (Ej kvs k).isSome) s') :
  wpAny (model X.prog X.w) A (compareOp .In (.ref b) (.ref a)) Q E s:=by
 obtain ⟨z,hd,xs,rel,dd⟩:=UG (mq I.hok d) (gb ..);refine wpAny_in_heap (tupleKind_room_in1 hu) (Zn I.hok eb) hd dd ?_;have q:=(rel.val k).isSome_eq;rw [Option.isSome_map] at q;rw [← q];exact h _ (I.tok _)
theorem wG {Q:Value→Shared→Prop} (hu:A.units + 1 < cLine) (I:Inv X pins σ H s) (d:Hk X.prog X.w H a kvs) (eb:H b=some (.tup (k.map kV))) (h:∀ s',Inv X pins σ H s'→Q (.bool (!(Ej kvs k).isSome)) s') :
  wpAny (model X.prog X.w) A (compareOp .NotIn (.ref b) (.ref a)) Q E s:=by
 obtain ⟨z,hd,xs,rel,dd⟩:=UG (mq I.hok d) (gb ..);refine wpAny_notIn_heap (tupleKind_room_in1 hu) (Zn I.hok eb) hd dd ?_;have q:=(rel.val k).isSome_eq;rw [Option.isSome_map] at q;rw [← q];exact h _ (I.tok _)
theorem sL {Q:Unit→Shared→Prop} (hu:A.units + 1 < cLine) (I:Inv X pins σ H s) (d:Hk X.prog X.w H a kvs) (eb:H b=some (.tup (k.map kV))) (hl:kvs.length < sizeLine) (rv:Bd v r)
  (h:∀ o s',Inv X pins σ (upd H a (.ext (AtO a o))) s'→Hk X.prog X.w (upd H a (.ext (AtO a o))) a (xq kvs k v)→Q () s'):wpAny (model X.prog X.w) A (setItem (.ref a) (.ref b) r) Q E s:=by
 refine Zu hu (jG I d) (DH.t (gb ..) (by rw [Db (IJ d eb)];exact eb) hl) (show Bd (.ref b) (.ref b) from rfl) rv fun s' I'=>?_
 rw [em] at I';obtain ⟨o,I2,d2⟩:=Lz I' (gb ..);rw [em] at I2 d2;exact h o s' I2 d2
end
noncomputable def aN (P:Program) (w:World) (td ty:TE):TE:=fun σ H Q=>td σ H fun x H1=>ty σ H1 fun y H2=>∃ a b kvs k v,x=.ref a∧y=.ref b∧Hk P w H2 a kvs∧H2 b=some (.tup (k.map kV))∧Ej kvs k=some v∧Q v H2
noncomputable def XO (P:Program) (w:World) (ty td:TE):TE:=fun σ H Q=>ty σ H fun y H1=>td σ H1 fun x H2=>∃ a b kvs k,x=.ref a∧y=.ref b∧Hk P w H2 a kvs∧H2 b=some (.tup (k.map kV))∧Q (.bl (Ej kvs k).isSome) H2
noncomputable def IE (P:Program) (w:World) (ty td:TE):TE:=fun σ H Q=>ty σ H fun y H1=>td σ H1 fun x H2=>∃ a b kvs k,x=.ref a∧y=.ref b∧Hk P w H2 a kvs∧H2 b=some (.tup (k.map kV))∧Q (.bl (!(Ej kvs k).isSome)) H2
noncomputable def ZM (P:Program) (w:World) (td ty tv:TE):TS:=fun D σ H=>tv σ H fun v H1=>td σ H1 fun x H2=>ty σ H2 fun y H3=>∃ a b kvs k,x=.ref a∧y=.ref b∧Hk P w H3 a kvs∧H3 b=some (.tup (k.map kV))∧kvs.length < sizeLine∧∀ o,Hk P w (upd H3 a (.ext (AtO a o))) a (xq kvs k v)→D.nx σ (upd H3 a (.ext (AtO a o)))
noncomputable def CL (P:Program) (w:World):TE:=fun _ H Q=>∀ p o,H p=none→Hk P w (upd H p (.ext (AtO p o))) p []→Q (.ref p) (upd H p (.ext (AtO p o)))
section
variable {X:Cx} {o i e value:Expr} {pos pos' tpos:Pos} {td ty tv:TE}
theorem ax (hu:X.A.units + 1 < cLine) (ho:PE X o td) (hi:PE X i ty) (hs:TN i):PE X (.Subscript o i pos) (aN X.prog X.w td ty):=by
 intro pins s σ H Q I h;refine lD PySem.F.slot_dict_getitem.lookup hs (thn (ho pins s σ H _ I h) fun u s1 ⟨x,H1,I1,rx,q1⟩=>thn (hi pins s1 σ H1 _ I1 q1) fun iv s2 hZ1=>?_);obtain ⟨y,H2,I2,ry,a,b,kvs,k,v,ex,ey,d,eb,l,q2⟩:=hZ1;subst ex ey;obtain rfl:u=Value.ref a:=rx;obtain rfl:iv=Value.ref b:=ry;refine ⟨?_,GM hu I2 d eb l fun w' s3 I3 rw'=>⟨v,H2,I3,rw',q2⟩⟩;obtain ⟨ob,es,ep,xs,r⟩:=d;exact bD (Ko I2.hok r)
theorem Ts (hu:X.A.units + 1 < cLine) (hi:PE X i ty) (ho:PE X o td):PC X .In i o (XO X.prog X.w ty td):=by
 intro pins s σ H Q I h;refine thn (hi pins s σ H _ I h) fun iv s1 ⟨y,H1,I1,ry,q1⟩=>thn (ho pins s1 σ H1 _ I1 q1) fun u s2 hZ1=>?_
 obtain ⟨x,H2,I2,rx,a,b,kvs,k,ex,ey,d,eb,q2⟩:=hZ1;subst ex ey;obtain rfl:u=Value.ref a:=rx;obtain rfl:iv=Value.ref b:=ry;exact cO hu I2 d eb fun s3 I3=>⟨.bl (Ej kvs k).isSome,H2,I3,rfl,q2⟩
theorem JE (hu:X.A.units + 1 < cLine) (hi:PE X i ty) (ho:PE X o td):PC X .NotIn i o (IE X.prog X.w ty td):=by
 intro pins s σ H Q I h;refine thn (hi pins s σ H _ I h) fun iv s1 ⟨y,H1,I1,ry,q1⟩=>thn (ho pins s1 σ H1 _ I1 q1) fun u s2 hZ1=>?_
 obtain ⟨x,H2,I2,rx,a,b,kvs,k,ex,ey,d,eb,q2⟩:=hZ1;subst ex ey;obtain rfl:u=Value.ref a:=rx;obtain rfl:iv=Value.ref b:=ry;exact wG hu I2 d eb fun s3 I3=>⟨.bl (!(Ej kvs k).isSome),H2,I3,rfl,q2⟩
theorem cx (hu:X.A.units + 1 < cLine) (ho:PE X o td) (hi:PE X i ty) (hv:PE X value tv) (hs:swapsWith value (some (.Subscript o i pos')) pos.line X.env=pure false) :
  PS X (.Assign [.Subscript o i pos'] value pos) (ZM X.prog X.w td ty tv):=by
 intro pins s σ H D I h;refine wpAny_Assign_Subscript (thn (hv pins s σ H _ I h) fun r s1 ⟨v,H1,I1,rv,q1⟩=>thn (ho pins s1 σ H1 _ I1 q1) fun u s2 ⟨x,H2,I2,rx,q2⟩=>thn (hi pins s2 σ H2 _ I2 q2) fun iv s3 hZ1=>?_) hs;obtain ⟨y,H3,I3,ry,a,b,kvs,k,ex,ey,d,eb,hl,q3⟩:=hZ1;subst ex ey;obtain rfl:u=Value.ref a:=rx;obtain rfl:iv=Value.ref b:=ry;exact sL hu I3 d eb hl rv fun ob s4 I4 d4=>⟨σ,_,I4,q3 ob d4⟩
theorem FF:PE X (.Dict [] [] pos) (CL X.prog X.w):=fun pins s σ H Q I h=>by
 refine thn (DG pins s σ H (fun x H1=>∃ p,x=.ref p∧H p=none∧H1=upd H p (.dT [])) I fun p hp=>⟨p,rfl,hp,rfl⟩) fun v s1 hZ1=>?_
 obtain ⟨x,H1,I1,r1,p,ex,hp,eH⟩:=hZ1;subst ex eH;obtain ⟨o,I2,d2⟩:=Lz I1 (gb ..);rw [em] at I2 d2;exact ⟨.ref p,_,I2,r1,h p o hp d2⟩
end
noncomputable def Itk (d:Addr) (o:Obj) (kvs:List (List Key × V)) (xs:List (List Key × Addr × Value)):It:=
 ⟨fun i H=>H d=some (.ext (AtO d o))∧i < kvs.length,fun i H x H'=>H'=H∧∃ k b u,xs[i]? = some (k,b,u)∧x=.ref b,fun i H=>H d=some (.ext (AtO d o))∧kvs.length ≤ i⟩
theorem gG {P:Program} {w:World} {K:PySem.W.Frag} {tg:Expr} {d it:Addr} {o:Obj} {es:Array DictEntry} {ep:Nat} {kvs:List (List Key × V)} {xs:List (List Key × Addr × Value)} (ex:o.ExactDict) (ho:o.data=.dict es ep)
  (ent:es.toList=xs.map (entryOfKey (tupleKind (ue P w)))) (hl:kvs.length=xs.length):MF P w K tg (Itk d o kvs xs) [it] it (fun i h=>h.IsKeyIter it d i es.size ep) where
 mem:=by simp
 obj:=fun i h st b hb=>by
  have e:b=it:=by simpa using hb
  subst e;obtain ⟨o,e,c,d⟩:=st;exact ⟨o,e,fun v z=>by rw [d] at z;cases z⟩
 keep:=fun i h h' st k=>st.at fun o e=>k it (by simp) o e
 item:=by
  intro X hP hw hK hc i pins s σ H E I hf st hg;subst hP hw hK;obtain ⟨hq,hx⟩:=hg;have r:xI s.heap d o es ep:=⟨(I.hok d _ hq).1,ex,ho⟩;obtain ⟨f0,f1,f2,f3,f4,f5⟩:=hf it (by simp);obtain ⟨q,hq2⟩:∃ q,xs[i]? = some q:=⟨_,List.getElem?_eq_getElem (by omega)⟩;refine gC st r (e:=entryOfKey (tupleKind (ue X.prog X.w)) q) (by rw [entry_at ent,hq2];rfl) fun h' st' sb=>?_
  have I1:Inv X pins σ H { s with heap:=h' }:=I.turned (t':=s.toks) (fun b o hb e=>(sb.2 b hb).trans e) f0 f1 f3 f4 f5;obtain ⟨o2,e,c,dd⟩:=id st';exact ⟨_,rfl,jD (s:={ s with heap:=h' }) e c dd (by decide) ⟨.ref q.2.1,H,I1,rfl,⟨rfl,q.1,q.2.1,q.2.2,hq2,rfl⟩,st',fun b hb=>(hf b hb).1⟩⟩
 done:=by
  intro X hP hw hK hc i pins s σ H E I hf st hg;subst hP hw hK;obtain ⟨hq,hx⟩:=hg;have r:xI s.heap d o es ep:=⟨(I.hok d _ hq).1,ex,ho⟩;obtain ⟨f0,f1,f2,f3,f4,f5⟩:=hf it (by simp);have hz:es.size=xs.length:=size_of_entries ent;exact fH (I.ok.hd hc) st r (by omega) fun h' eb=>⟨rfl,I.turned (t':=s.toks) (fun b o hb e=>eb b o hb e) f0 f1 f3 f4 f5⟩
 self:=fun _ _ _ _ _ st h=>wpAny_pyIter_keyiter st h
section
variable {X:Cx} {tg:Expr}
noncomputable def pO (P:Program) (w:World) (tl:TE):TI:=fun σ H R=>tl σ H fun x H1=>∃ d kvs,x=.ref d∧Hk P w H1 d kvs∧∀ o es ep xs,iN P w H1 d kvs o es ep xs→R (Itk d o kvs xs) H1
theorem ny {l:Expr} {tl:TE} (hl:PE X l tl):PI X tg l (pO X.prog X.w tl):=by
 intro pins s σ H R I h;refine thn (hl pins s σ H _ I h) fun v s1 hZ1=>?_
 obtain ⟨x,H1,I1,r1,q1⟩:=hZ1;obtain ⟨d,kvs,e,⟨o,es,ep,xs,r⟩,q⟩:=q1;subst e;cases r1;refine nF r.ns (Ko I1.hok r) ?_;refine ⟨s1.heap.objs.size,[s1.heap.objs.size],_,_,_,rfl,I1.kept (t':=s1.toks) fun b o e=>Heap.get?_push_of_some _ e,gG r.ex r.dat r.ent (Mo r.ks),⟨_,Heap.get?_push_size _ rfl,rfl,rfl⟩,fun b hb=>?_,q o es ep xs r⟩;have e:b=s1.heap.objs.size:=by simpa using hb
 subst e;exact I1.fpOk (Nat.le_refl _) (I1.hok.fresh (Nat.le_refl _))
end
end L2
namespace L2
open PySem PySem.Spec PyProof.Rows
noncomputable def CN (p d:Addr):Heap→Prop:=fun h=>h.IsItemsView p d
theorem CN.ok {P:Program} {w:World} {H:Hp} {h:Heap} {p d:Addr} (z:CN p d h):Zd P w H h p (.ext (CN p d)):=
 ⟨z,let ⟨o,ho,_⟩:=z;⟨o,ho⟩,fun _ _ z1 k=>let ⟨o,ho,x⟩:=z1;⟨o,k o ho,x⟩⟩
structure HN (H H':Hp) (l:Addr) (as:List Addr) (kvs:List (Key × V)):Prop where
 same:∀ b o,H b=some o→H' b=some o
 fresh:H l=none
 frAll:∀ a ∈ as,H a=none
 at_:H' l=some (.lst (as.map V.ref))
 len:as.length=kvs.length
 al:∀ (j:Nat) (a:Addr) (q:Key × V),as[j]? = some a→kvs[j]? = some q→H' a=some (.tup [kV q.1,q.2])
 only:∀ b o,H' b=some o→H b=some o∨o=.lst (as.map V.ref)∨∃ q ∈ kvs,o=.tup [kV q.1,q.2]
section
variable {X:Cx}
end
end L2
namespace L2
open PySem PySem.Spec PyProof.Rows
section
open AutoSeq1 (wpAny_loadPart')
open MeetsSeq MeetsSeq2 MeetsSeq3 SeqRoads2
variable {P:Program} {w:World} {l b:Addr} {xs ys:Array Value} {n m:Nat} {dd de:Option Addr} {sl sm:Array (Option Value)}
end
section
variable {X:Cx} {pins:List (Addr × Obj)} {σ:St} {H:Hp} {s:Shared}
structure DL (H:Hp) (p:Addr) (ps:List Addr) (ks:List (List (Key × V))):Prop where
 at_:H p=some (.lst (ps.map V.ref))
 len:ps.length=ks.length
 al:∀ (j:Nat) (a:Addr) (kvs:List (Key × V)),ps[j]? = some a→ks[j]? = some kvs→H a=some (.dK kvs)
end
section
variable {X:Cx}
end
end L2
namespace L2
open PySem PySem.Spec PyProof.Rows
section
variable {X:Cx} {pins:List (Addr × Obj)} {σ:St} {H:Hp} {s:Shared} {d:Addr} {o:Obj} {kvs:List (Key × V)}
end
section
variable {X:Cx} {tg:Expr}
end
end L2
namespace L2
open PySem PySem.Spec PyProof.Rows
structure mN (X:Cx) (pins:List (Addr × Obj)) (H:Hp) (S:Addr):Prop where
 nn:H S=none
 nl:S ≠ X.env.locals
 ge:X.s₀.heap.objs.size ≤ S
 nc:∀ x c,X.env.cells.lookup x=some c→c ≠ S
 np:∀ p ∈ X.pn ++ pins,p.1 ≠ S
 nf:S ∉ X.fs
theorem mN.of {X:Cx} {pins:List (Addr × Obj)} {σ:St} {H:Hp} {s:Shared} {S:Addr} (I:Inv X pins σ H s) (h:s.heap.objs.size ≤ S):mN X pins H S:=
 ⟨I.hok.fresh h,fun z=>absurd (Nat.lt_of_lt_of_le I.lt h) (by rw [z];exact Nat.lt_irrefl _),Nat.le_trans I.sz h,fun x c e z=>by
  obtain ⟨v,o,ho,_⟩:=I.cell x c e;exact absurd (Nat.lt_of_lt_of_le (Heap.lt_size ho) h) (by rw [z];exact Nat.lt_irrefl _),fun p hp z=>by
  have ho:=(I.pin p hp).1;exact absurd (Nat.lt_of_lt_of_le (Heap.lt_size ho) h) (by rw [z];exact Nat.lt_irrefl _),I.nofs h⟩
theorem mN.turn {X:Cx} {pins:List (Addr × Obj)} {σ:St} {H:Hp} {s:Shared} {S:Addr} {h':Heap} {t':Nat} (o:mN X pins H S) (I:Inv X pins σ H s) (k:∀ b o,b ≠ S→s.heap.get? b=some o→h'.get? b=some o):Inv X pins σ H { s with heap:=h',toks:=t' }:=
 I.turned k o.nn o.nl (.inr o.ge) o.nc o.np
section
variable {X:Cx} {A:Around} {pins:List (Addr × Obj)} {σ:St} {H:Hp} {l q I S:Addr} {n:Nat} {P:Nat→Value→Prop} {R:Result→Shared→Prop}
end
end L2
namespace L2
open PySem PySem.Spec PyProof.Rows
structure oP (p y z:Str) (sc:Scope):Prop where
 kind:sc.kind=.function
 co:sc.isCoroutine=false
 gen:sc.isGenerator=false
 ne:y ≠ z
 par:sc.names.lookup p=some .local
 yf:sc.names.lookup y=some .free
 zf:sc.names.lookup z=some .free
 nocell:∀ z ∈ sc.names,z.2 ≠ .cell
 two:∀ b ∈ sc.names,b.2=.free→b.1=y∨b.1=z
section
variable {X:Cx} {A:Around} {pins:List (Addr × Obj)} {σ:St} {H:Hp} {s:Shared} {k:Nat} {f c' c1 c2:Addr} {q p y z:Str} {params:Arguments} {body:Expr} {scope:Scope} {v1 v2:V} {t:TE}
end
end L2
namespace L2
open PySem PySem.Spec PyProof.Rows
theorem SqL.p {K:PySem.W.Frag} {H H':Hp} {a Pt:Addr} {xs:List V} {pos:Pos} {q:Str} (s:Gu Pt H H') (t:Tab H Pt pos q) (h:SqL K H a xs):SqL K H' a xs:=by
 rcases h with (h | ⟨o,h⟩) | h
 ·exact .inl (.inl (s _ _ (t.ne h (fun _ z=>by cases z)) h))
 ·exact .inl (.inr ⟨o,s _ _ (t.ne h (fun _ z=>by cases z)) h⟩)
 ·exact .inr h
end L2
namespace L2
open PySem PySem.Spec PyProof.Rows
end L2
namespace L2
open PySem PySem.Spec PyProof.Rows
end L2
namespace L2
open PySem PySem.Spec PyProof.Rows
end L2
namespace L2
open PySem PySem.Spec PyProof.Rows
end L2
namespace L2
open PySem PySem.Spec PyProof.Rows
theorem GC (i:Nat) (σ:St) (H:Hp) (Q:VK):wN i σ H Q=(BI H Q σ[i]?):=rfl
theorem PM (v:V) (x_0:St) (H:Hp) (Q:VK):tC v x_0 H Q=(Q v H):=rfl
theorem fL (t:TE) (σ:St) (H:Hp) (Q:(Bool→Hp→Prop)):tB t σ H Q=(t σ H fun x H1=>BlQ x fun c=>Q c H1):=rfl
theorem XE (t u:TT) (σ:St) (H:Hp) (Q:(Bool→Hp→Prop)):UO t u σ H Q=(t σ H fun c H1=>if c=true then u σ H1 Q else Q false H1):=rfl
theorem mI (t u:TT) (σ:St) (H:Hp) (Q:(Bool→Hp→Prop)):tOr t u σ H Q=(t σ H fun c H1=>if c=true then Q true H1 else u σ H1 Q):=rfl
theorem GE (t:TT) (σ:St) (H:Hp) (Q:(Bool→Hp→Prop)):tO t σ H Q=(t σ H fun c H1=>Q (!c) H1):=rfl
theorem Yz (ta tb:TE) (σ:St) (H:Hp) (Q:VK):oM ta tb σ H Q=(ta σ H fun x H1=>BlQ x fun c=>if c=true then tb σ H1 Q else Q (.bl false) H1):=rfl
theorem KD (ta tb:TE) (σ:St) (H:Hp) (Q:VK):qO ta tb σ H Q=(ta σ H fun x H1=>BlQ x fun c=>if c=true then Q (.bl true) H1 else tb σ H1 Q):=rfl
theorem wI (t:TT) (ta tb:TE) (σ:St) (H:Hp) (Q:VK):tIf t ta tb σ H Q=(t σ H fun c H1=>if c=true then ta σ H1 Q else tb σ H1 Q):=rfl
theorem bc (D:sj) (σ:St) (H:Hp):mL  D σ H=(D.nx σ H):=rfl
theorem xb (t u:TS) (D:sj) (σ:St) (H:Hp):wO t u D σ H=(t { D with nx:=u D } σ H):=rfl
theorem Qx (te:TE) (D:sj) (σ:St) (H:Hp):VM te D σ H=(te σ H fun _ H1=>D.nx σ H1):=rfl
theorem DE (te:TE) (D:sj) (σ:St) (H:Hp):JN te D σ H=(te σ H D.rt):=rfl
theorem Ku (x_0:sj) (x_1:St) (x_2:Hp):vI  x_0 x_1 x_2=(False):=rfl
theorem Bg (i:Nat) (v:V) (σ:St) (H:Hp) (Q:(St→Hp→Prop)):Xq i v σ H Q=(Q (σ.set i (some v)) H):=rfl
theorem tF (vs:List V) (σ:St) (H:Hp) (Q:(St→Hp→Prop)):kN  vs σ H Q=(vs=[]∧Q σ H):=rfl
theorem Nz (t:TG) (u:TGs) (vs:List V) (σ:St) (H:Hp) (Q:(St→Hp→Prop)):GA t u vs σ H Q=(∃ v r,vs=v :: r∧t v σ H fun σ' H'=>u r σ' H' Q):=rfl
theorem eC (K:PySem.W.Frag) (n:Nat) (t:TGs) (v:V) (σ:St) (H:Hp) (Q:(St→Hp→Prop)):AM K n t v σ H Q=(∃ a xs,v=.ref a∧SqT K H a xs∧xs.length=n∧t xs σ H Q):=rfl
theorem tD (to ti:TE) (t:nN) (v:V) (σ:St) (H:Hp) (Q:(St→Hp→Prop)):mO to ti t v σ H Q=(to σ H fun o H1=>ti σ H1 fun i H2=>t o i v H2 fun H3=>Q σ H3):=rfl
theorem wE (te:TE) (g:TG) (D:sj) (σ:St) (H:Hp):WK te g D σ H=(te σ H fun x H1=>g x σ H1 D.nx):=rfl
theorem VE (i j:Nat) (ta:TA) (D:sj) (σ:St) (H:Hp):DO i j ta D σ H=(ta σ H fun vs H1=>∃ v w,vs=[v,w]∧D.nx ((σ.set i (some v)).set j (some w)) H1):=rfl
theorem jE (i:Nat) (te:TE) (ti:TIp) (D:sj) (σ:St) (H:Hp):MO i te ti D σ H=(∃ x,σ[i]? = some (some x)∧te σ H fun y H1=>ti x y H1 fun z H2=>D.nx (σ.set i (some z)) H2):=rfl
theorem Py (K:PySem.W.Frag) (tl:TE) (σ:St) (H:Hp) (R:(It→Hp→Prop)):bN K tl σ H R=(tl σ H fun x H1=>mh x fun a=>(∃ xs,SqL K H1 a xs)∧R (Itl K a) H1):=rfl
theorem wD (K:PySem.W.Frag) (tl:TE) (σ:St) (H:Hp) (R:(It→Hp→Prop)):CO K tl σ H R=(tl σ H fun x H1=>mh x fun a=>(∃ xs,SqT K H1 a xs)∧R (Itt K a) H1):=rfl
theorem bJ (r:R2) (ta tb:TE) (σ:St) (H:Hp) (Q:VK):tOp r ta tb σ H Q=(ta σ H fun x H1=>tb σ H1 fun y H2=>r x y H2 Q):=rfl
theorem WI (r:V→Hp→VK→Prop) (ta:TE) (σ:St) (H:Hp) (Q:VK):tUn r ta σ H Q=(ta σ H fun x H1=>r x H1 Q):=rfl
theorem pM (C:Int→Int→Prop) (g:Int→Int→V) (x:V) (y:V) (H:Hp) (Q:VK):rI C g x y H Q=(Fj x fun i=>Fj y fun j=>C i j∧Q (g i j) H):=rfl
theorem DI (g:Int→Int→V) (x:V) (y:V) (H:Hp) (Q:VK):rI0 g x y H Q=(Fj x fun i=>Fj y fun j=>Q (g i j) H):=rfl
theorem IL (g:Int→V) (x:V) (H:Hp) (Q:VK):rU g x H Q=(Fj x fun i=>Q (g i) H):=rfl
theorem YI (x:V) (y:V) (H:Hp) (Q:VK):rEq  x y H Q=(aM x y=true∧Q (.bl (decide (x=y))) H):=rfl
theorem FI (x:V) (y:V) (H:Hp) (Q:VK):rNe  x y H Q=(aM x y=true∧Q (.bl (!decide (x=y))) H):=rfl
theorem uz (t:TE) (σ:St) (H:Hp) (Q:(Bool→Hp→Prop)):OL t σ H Q=(t σ H fun x H'=>BlQ x fun k=>Q k H'):=rfl
theorem mF (K:PySem.W.Frag) (ta:TE) (f:Str) (σ:St) (H:Hp) (Q:VK):lO K ta f σ H Q=(ta σ H fun x H1=>mh x fun a=>∃ v,el K H1 a f v∧Q v H1):=rfl
theorem uE (K:PySem.W.Frag) (ta tv:TE) (f:Str) (D:sj) (σ:St) (H:Hp):EO K ta tv f D σ H=(tv σ H fun y H1=>ta σ H1 fun x H2=>mh x fun a=>∃ C dx fs,H2 a=some (.ins C dx fs)∧Cls K C∧kc K C f∧fs.length < 1000 ∧
 D.nx σ (upd H2 a (.ins C dx (Gi f y fs)))):=rfl
theorem jt (K:PySem.W.Frag) (ta tv:TE) (rd:V→V→Hp→VK→Prop) (f:Str) (D:sj) (σ:St) (H:Hp):tE K ta tv rd f D σ H=(ta σ H fun x H1=>∃ a C dx fs v,x=.ref a∧H1 a=some (.ins C dx fs)∧Cls K C∧kc K C f∧fs.lookup f=some v ∧
 tv σ H1 fun y H2=>rd v y H2 fun z H3=>∃ dx' fs',H3 a=some (.ins C dx' fs')∧fs'.length < 1000∧D.nx σ (upd H3 a (.ins C dx' (Gi f z fs')))):=rfl
theorem xD (x:V) (y:V) (H:Hp) (Q:VK):nO  x y H Q=(∃ i j,x=.int i∧y=.int j∧Q (.int (i + j)) H):=rfl
theorem OE (x_0:St) (H:Hp) (Q:(List V→Hp→Prop)):gN  x_0 H Q=(Q [] H):=rfl
theorem Iy (ta:TE) (tr:TA) (σ:St) (H:Hp) (Q:(List V→Hp→Prop)):dM ta tr σ H Q=(ta σ H fun x H1=>tr σ H1 fun xs H2=>Q (x :: xs) H2):=rfl
theorem ID (t:TA) (σ:St) (H:Hp) (Q:VK):OO t σ H Q=(t σ H fun xs H1=>xs.length ≤ sizeLine∧∀ p,H1 p=none→Q (.ref p) (upd H1 p (.tup xs))):=rfl
theorem gE (t:TA) (σ:St) (H:Hp) (Q:VK):AO t σ H Q=(t σ H fun xs H1=>xs.length ≤ sizeLine∧∀ p,H1 p=none→Q (.ref p) (upd H1 p (.lst xs))):=rfl
theorem Sy (sp:Sp) (dvs:List V) (E:XK) (t:TA) (σ:St) (H:Hp) (Q:VK):iH sp dvs E t σ H Q=(t σ H fun vs H1=>sp (vs ++ dvs) H1 Q E):=rfl
theorem iy (C:Addr) (m:Str) (sp:Sp) (dvs:List V) (E:XK) (ta:TE) (t:TA) (σ:St) (H:Hp) (Q:VK):NJ C m sp dvs E ta t σ H Q=(ta σ H fun x H1=>mh x fun a=>∃ dx fs,H1 a=some (.ins C dx fs)∧fs.lookup m=none ∧
 t σ H1 fun vs H2=>sp (x :: (vs ++ dvs)) H2 Q E):=rfl
theorem Zx (C:Addr) (sp:Sp) (dvs:List V) (E:XK) (t:TA) (σ:St) (H:Hp) (Q:VK):tL C sp dvs E t σ H Q=(t σ H fun vs H1=>∀ x dx,H1 x=none→H1 dx=none→dx ≠ x →
 sp (.ref x :: (vs ++ dvs)) (upd (upd H1 dx (.own x)) x (.ins C dx [])) (fun v H2=>v=.non∧Q (.ref x) H2) E):=rfl
theorem yI (r:List V→Hp→VK→Prop) (t:TA) (σ:St) (H:Hp) (Q:VK):tCB r t σ H Q=(t σ H fun vs H1=>r vs H1 Q):=rfl
theorem Er (x_0:St) (H:Hp) (Q:(Option Int→Hp→Prop)):rC  x_0 H Q=(Q none H):=rfl
theorem Hz (t:TE) (σ:St) (H:Hp) (Q:(Option Int→Hp→Prop)):yL t σ H Q=(t σ H fun x H1=>Fj x fun i=>Q (some i) H1):=rfl
theorem UH (r:V→Option Int→Option Int→Hp→VK→Prop) (te:TE) (tl th:TO) (σ:St) (H:Hp) (Q:VK):tSl r te tl th σ H Q=(te σ H fun x H1=>tl σ H1 fun l H2=>th σ H2 fun u H3=>r x l u H3 Q):=rfl
theorem fD (K:PySem.W.Frag) (x:V) (lo:Option Int) (hi:Option Int) (H:Hp) (Q:VK):kO K x lo hi H Q=(∃ a xs,x=.ref a∧SqT K H a xs ∧
 ¬ (HT.sIx xs.length 0 lo=0∧HT.sIx xs.length xs.length hi=xs.length)∧∀ p,H p=none→Q (.ref p) (upd H p (.tup (jw xs lo hi)))):=rfl
theorem Ux (K:PySem.W.Frag) (x:V) (y:V) (H:Hp) (Q:VK):VL K x y H Q=(∃ a b xs ys,x=.ref a∧y=.ref b∧SqT K H a xs∧SqT K H b ys∧xs ≠ []∧xs.length + ys.length ≤ sizeLine ∧
 (ys=[]→Q (.ref a) H)∧(ys ≠ []→∀ p,H p=none→Q (.ref p) (upd H p (.tup (xs ++ ys))))):=rfl
theorem lF (K:PySem.W.Frag) (x:V) (y:V) (H:Hp) (Q:VK):KO K x y H Q=(mh x fun p=>∃ xs,Fj y fun i=>SqL K H p xs∧∃ v,atI xs i=some v∧Q v H):=rfl
theorem RB (K:PySem.W.Frag) (x:V) (y:V) (H:Hp) (Q:VK):QO K x y H Q=(mh x fun p=>∃ xs,Fj y fun i=>SqT K H p xs∧∃ v,atI xs i=some v∧Q v H):=rfl
theorem fC (x:V) (y:V) (H:Hp) (Q:VK):fO  x y H Q=(∃ z i c,x=.str z∧y=.int i∧z.length ≤ sizeLine∧atI z.cps.toList i=some c∧Q (.str ⟨#[c]⟩) H):=rfl
theorem gy (o:V) (i:V) (v:V) (H:Hp) (Q:(Hp→Prop)):rM  o i v H Q=(mh o fun p=>∃ xs,Fj i fun k=>H p=some (.lst xs)∧∃ j,ixN xs.length k=some j∧Q (upd H p (.lst (xs.set j v)))):=rfl
theorem nC (K:PySem.W.Frag) (x:V) (lo:Option Int) (hi:Option Int) (H:Hp) (Q:VK):uO K x lo hi H Q=(∃ a xs,x=.ref a∧SqL K H a xs∧∀ p,H p=none→Q (.ref p) (upd H p (.lst (jw xs lo hi)))):=rfl
theorem RI (K:PySem.W.Frag) (neg:Bool) (x:V) (y:V) (H:Hp) (Q:VK):rIn K neg x y H Q=(∃ p xs,y=.ref p∧(SqL K H p xs∨SqT K H p xs)∧Vl x=true∧xs.all Vl=true∧Q (.bl (if neg then !inV x xs else inV x xs)) H):=rfl
theorem kE (K:PySem.W.Frag) (T:String) (r:V→List V→Hp→VK→Prop) (to:TE) (σ:St) (H:Hp) (Q:VK):GO K T r to σ H Q=(to σ H fun x H1=>tyV K T x H1∧r x [] H1 Q):=rfl
theorem kI (K:PySem.W.Frag) (T:String) (r:V→List V→Hp→VK→Prop) (to:TE) (t:TA) (σ:St) (H:Hp) (Q:VK):tBM K T r to t σ H Q=(to σ H fun x H1=>tyV K T x H1∧t σ H1 fun xs H2=>r x xs H2 Q):=rfl
theorem Vr (x:V) (vs:List V) (H:Hp) (Q:VK):SD  x vs H Q=(mh x fun l=>oA vs fun y=>∃ xs,H l=some (.lst xs)∧xs.length < sizeLine∧Q .non (upd H l (.lst (xs ++ [y])))):=rfl
theorem Vs (x:V) (vs:List V) (H:Hp) (Q:VK):OD  x vs H Q=(∃ l b xs zs,x=.ref l∧vs=[.ref b]∧H l=some (.lst xs)∧H b=some (.lst zs)∧xs.length + zs.length ≤ sizeLine∧Q .non (upd H l (.lst (xs ++ zs)))):=rfl
theorem Lq (x:V) (vs:List V) (H:Hp) (Q:VK):Az  x vs H Q=(∃ l xs,x=.ref l∧vs=[]∧H l=some (.lst xs)∧Q .non (upd H l (.lst xs.reverse))):=rfl
theorem ND (x:V) (y:V) (H:Hp) (Q:VK):oO  x y H Q=(∃ l b xs zs,x=.ref l∧y=.ref b∧H l=some (.lst xs)∧H b=some (.lst zs)∧xs.length + zs.length ≤ sizeLine∧∀ p,H p=none→Q (.ref p) (upd H p (.lst (xs ++ zs)))):=rfl
theorem TC (x:V) (y:V) (H:Hp) (Q:VK):YO  x y H Q=(∃ l k xs,x=.ref l∧y=.int k∧H l=some (.lst xs)∧-(2 ^ 63) ≤ k∧k < 2 ^ 63∧xs.length * k.toNat ≤ sizeLine ∧
 ∀ p,H p=none→Q (.ref p) (upd H p (.lst (List.replicate k.toNat xs).flatten))):=rfl
theorem Xy (td ty:TE) (σ:St) (H:Hp) (Q:VK):UL td ty σ H Q=(td σ H fun x H1=>ty σ H1 fun y H2=>mh x fun a=>∃ v,bA H2 a y (some v)∧Q v H2):=rfl
theorem Ur (ty td:TE) (σ:St) (H:Hp) (Q:VK):SC ty td σ H Q=(ty σ H fun y H1=>td σ H1 fun x H2=>mh x fun a=>∃ o,bA H2 a y o∧Q (.bl (!o.isSome)) H2):=rfl
theorem Sz (td ty tv:TE) (D:sj) (σ:St) (H:Hp):yM td ty tv D σ H=(tv σ H fun v H1=>td σ H1 fun x H2=>ty σ H2 fun y H3=>mh x fun a=>∃ H4,DH H3 a y v H4∧D.nx σ H4):=rfl
theorem sw (x_0:St) (H:Hp) (Q:VK):cI  x_0 H Q=(∀ p,H p=none→Q (.ref p) (upd H p (.dK []))):=rfl
theorem Zv (x_0:St) (H:Hp) (Q:VK):GI  x_0 H Q=(∀ p,H p=none→Q (.ref p) (upd H p (.dT []))):=rfl
theorem Wx (x_0:St) (H:Hp) (Q:(Bool→Hp→Prop)):Ov  x_0 H Q=(Q true H):=rfl
theorem zF (tl:TE) (σ:St) (H:Hp) (R:(It→Hp→Prop)):sO tl σ H R=(tl σ H fun x H1=>∃ z,x=.str z∧R (Its (vj z)) H1):=rfl
theorem uC (x:V) (lo:Option Int) (hi:Option Int) (H:Hp) (Q:VK):NO  x lo hi H Q=(∃ z,x=.str z∧z.length ≤ sizeLine∧Q (.str (Txt.slice z lo hi)) H):=rfl
theorem jy (K:PySem.W.Frag) (x:V) (vs:List V) (H:Hp) (Q:VK):NL K x vs H Q=(∃ sep p ys,x=.str sep∧vs=[.ref p]∧SqL K H p (Nc ys)∧(ys.map (·.length)).sum + ys.length * sep.length ≤ 16777216∧Q (.str (Txt.join sep ys)) H):=rfl
theorem Iu (x:V) (vs:List V) (H:Hp) (Q:VK):TH  x vs H Q=(∃ z y,x=.str z∧vs=[.str y]∧y.length ≠ 0∧z.length + 2 ≤ sizeLine∧(Txt.split z y).length ≤ sizeLine∧∀ p,H p=none→Q (.ref p) (upd H p (.lst (Nc (Txt.split z y))))):=rfl
theorem Su (OK:Addr→Prop) (m:Str) (SPV:Addr→Sp) (E:XK) (ta:TE) (t:TA) (σ:St) (H:Hp) (Q:VK):aJ OK m SPV E ta t σ H Q=(ta σ H fun x H1=>∃ a C dx fs,x=.ref a∧H1 a=some (.ins C dx fs)∧OK C∧fs.lookup m=none ∧
 t σ H1 fun vs H2=>SPV C (x :: vs) H2 Q E):=rfl
theorem fz (K:PySem.W.Frag) (ta:TA) (σ:St) (H:Hp) (R:(It→Hp→Prop)):uM K ta σ H R=(ta σ H fun vs H1=>∃ a,vs=[.ref a]∧(∃ xs,SqL K H1 a xs)∧R (Ite K a) H1):=rfl
theorem qF (K:PySem.W.Frag) (ta:TA) (σ:St) (H:Hp) (R:(It→Hp→Prop)):rO K ta σ H R=(ta σ H fun vs H1=>∃ a b,vs=[.ref a,.ref b]∧(∃ xs,SqL K H1 a xs)∧(∃ ys,SqL K H1 b ys)∧R (Itz K a b) H1):=rfl
theorem ly (x:V) (vs:List V) (H:Hp) (Q:VK):wv  x vs H Q=(∃ d kvs,x=.ref d∧vs=[]∧H d=some (.dK kvs)∧∀ p,H p=none→Q (.ref p) (upd H p (.ext (EL p d)))):=rfl
theorem jz (P:Program) (w:World) (td ty:TE) (σ:St) (H:Hp) (Q:VK):aN P w td ty σ H Q=(td σ H fun x H1=>ty σ H1 fun y H2=>∃ a b kvs k v,x=.ref a∧y=.ref b∧Hk P w H2 a kvs∧H2 b=some (.tup (k.map kV))∧Ej kvs k=some v∧Q v H2):=rfl
theorem FC (P:Program) (w:World) (ty td:TE) (σ:St) (H:Hp) (Q:VK):XO P w ty td σ H Q=(ty σ H fun y H1=>td σ H1 fun x H2=>∃ a b kvs k,x=.ref a∧y=.ref b∧Hk P w H2 a kvs∧H2 b=some (.tup (k.map kV))∧Q (.bl (Ej kvs k).isSome) H2):=rfl
theorem Gr (P:Program) (w:World) (ty td:TE) (σ:St) (H:Hp) (Q:VK):IE P w ty td σ H Q=(ty σ H fun y H1=>td σ H1 fun x H2=>∃ a b kvs k,x=.ref a∧y=.ref b∧Hk P w H2 a kvs∧H2 b=some (.tup (k.map kV))∧Q (.bl (!(Ej kvs k).isSome)) H2):=rfl
theorem Qz (P:Program) (w:World) (td ty tv:TE) (D:sj) (σ:St) (H:Hp):ZM P w td ty tv D σ H=(tv σ H fun v H1=>td σ H1 fun x H2=>ty σ H2 fun y H3=>∃ a b kvs k,x=.ref a∧y=.ref b∧Hk P w H3 a kvs∧H3 b=some (.tup (k.map kV))∧kvs.length < sizeLine∧∀ o,Hk P w (upd H3 a (.ext (AtO a o))) a (xq kvs k v)→D.nx σ (upd H3 a (.ext (AtO a o)))):=rfl
theorem xy (P:Program) (w:World) (x_0:St) (H:Hp) (Q:VK):CL P w x_0 H Q=(∀ p o,H p=none→Hk P w (upd H p (.ext (AtO p o))) p []→Q (.ref p) (upd H p (.ext (AtO p o)))):=rfl
theorem EF (P:Program) (w:World) (tl:TE) (σ:St) (H:Hp) (R:(It→Hp→Prop)):pO P w tl σ H R=(tl σ H fun x H1=>∃ d kvs,x=.ref d∧Hk P w H1 d kvs∧∀ o es ep xs,iN P w H1 d kvs o es ep xs→R (Itk d o kvs xs) H1):=rfl
noncomputable def Hj (J:It) (g:TG) (tb:TS) (D:sj) (σ:St) (H:Hp):Prop:=∃ W:Nat→Nat→St→Hp→Prop,(∃ m,W 0 m σ H)∧∀ i m σ H,W i m σ H →
 (J.stop i H∧D.nx σ H)∨(J.go i H∧∃ N:St→Hp→Prop,(∀ σ' H',N σ' H'→∃ m',m' < m∧W (i + 1) m' σ' H')∧∀ x H',J.yld i H x H'→g x σ H' fun σ2 H2=>tb { D with nx:=N,ct:=N,bk:=D.nx } σ2 H2)
theorem AE (wi:TI) (g:TG) (tb:TS) (D:sj) (σ:St) (H:Hp):eO wi g tb D σ H=wi σ H fun J H1=>Hj J g tb D σ H1:=rfl
noncomputable def ad (J:It) (g:TG) (tc:TT) (te:TE) (σb:St) (Q:VK) (H:Hp):Prop:=∃ W:Nat→Nat→List V→Hp→Prop,(∃ m,W 0 m [] H)∧ox J g tc te σb Q W
theorem Wz (wi:TI) (g:TG) (tc:TT) (te:TE) (sel:List (Option Nat)) (σ:St) (H:Hp) (Q:VK):lK wi g tc te sel σ H Q=wi σ H fun J H1=>ad J g tc te (blk sel σ) Q H1:=rfl
theorem Fz (ta:TA) (σ:St) (H:Hp) (R:It→Hp→Prop):DM ta σ H R=(ta σ H fun vs H1=>oA vs fun x=>Fj x fun j=>-4611686018427387904 ≤ j∧j < 4611686018427387904∧R (Itr 0 j.toNat) H1):=rfl
theorem Iz (ta:TA) (σ:St) (H:Hp) (R:It→Hp→Prop):bM ta σ H R=(ta σ H fun vs H1=>∃ i j:Int,vs=[.int i,.int j]∧(-4611686018427387904 ≤ i∧i < 4611686018427387904∧-4611686018427387904 ≤ j∧j < 4611686018427387904)∧R (Itr i (j - i).toNat) H1):=rfl
theorem XN {α β:Type} (f:α→β):[].map f=[]:=rfl
theorem SN {α β:Type} (f:α→β) (a:α) (l:List α):(a :: l).map f=f a :: l.map f:=rfl
theorem YN {α:Type} (l:List α):[] ++ l=l:=rfl
theorem pN {α:Type} (a:α) (l r:List α):(a :: l) ++ r=a :: (l ++ r):=rfl
theorem VN {α:Type} (a b:α) (l:List α):(a :: l).set 0 b=b :: l:=rfl
theorem EN {α:Type} (a b:α) (l:List α) (n:Nat):(a :: l).set (n + 1) b=a :: l.set n b:=rfl
theorem tN {α:Type} (a:α) (l:List α):(a :: l)[0]? = some a:=rfl
theorem PN {α:Type} (a:α) (l:List α) (n:Nat):(a :: l)[n + 1]? = l[n]?:=rfl
theorem LN {α:Type}:([]:List α).length=0:=rfl
theorem ON {α:Type} (a:α) (l:List α):(a :: l).length=l.length + 1:=rfl
theorem dBn {α β:Type} (f:α→Option β):(none:Option α).bind f=none:=rfl
theorem dBs {α β:Type} (f:α→Option β) (a:α):(some a).bind f=f a:=rfl
theorem dJs {α:Type} (a:Option α):(some a).join=a:=rfl
theorem dJn {α:Type}:(none:Option (Option α)).join=none:=rfl
theorem GF (sel:List (Option Nat)) (σ:St):blk sel σ=sel.map fun o=>o.bind fun j=>(σ[j]?).join:=rfl
theorem Mb {c:TT} {t u:TS} {D:sj} {σ:St} {H:Hp} (b:Bool) (hc:∀ Q:Bool→Hp→Prop,Q b H→c σ H Q) (h1:b=true→t D σ H) (h2:b=false→u D σ H):bO c t u D σ H:=by
 refine hc _ ?_;cases b with
 | true=>exact h1 rfl
 | false=>exact h2 rfl
theorem Ih {c:TT} {t u:TS} {D:sj} {σ:St} {H:Hp} (R:Bool→Hp→Prop) (hc:∀ Q:Bool→Hp→Prop,(∀ b H',R b H'→Q b H')→c σ H Q) (h1:∀ H',R true H'→t D σ H') (h2:∀ H',R false H'→u D σ H'):bO c t u D σ H:=by
 refine hc _ fun b H' r=>?_
 cases b with
 | true=>exact h1 H' r
 | false=>exact h2 H' r
theorem Yb {t:TS} {D:sj} {σ:St} {H:Hp} (R:St→Hp→Prop) (h:∀ D':sj,(∀ σ H,R σ H→D'.nx σ H)→D'.rt=D.rt→D'.bk=D.bk→D'.ct=D.ct→t D' σ H) (hR:∀ σ H,R σ H→D.nx σ H):t D σ H:=h D hR rfl rfl rfl
theorem zzC {t:TS} {D:sj} {σ:St} {H:Hp} (R:St->Hp->Prop) (h:∀ D':sj,(∀ σ H,R σ H->D'.nx σ H)->t D' σ H) (hR:∀ M,M=D.nx->∀ σ H,R σ H->M σ H):t D σ H:=h D (hR _ rfl)
theorem zP {p:Prop} (h:∀ q,q=p->q):p:=h p rfl
theorem zzD {t:TS} {D:sj} {σ:St} {H:Hp} (R:St->Hp->Prop) (h:∀ D':sj,(∀ σ H,R σ H->D'.nx σ H)->t D' σ H) (hR:∀ σ H,R σ H->D.nx σ H):t D σ H:=h D hR
theorem zS {t u:TS} {D:sj} {σ:St} {H:Hp} (R:St->Hp->Prop) (h:∀ D':sj,(∀ σ H,R σ H->D'.nx σ H)->t D' σ H) (hR:∀ M,M=u D->∀ σ H,R σ H->M σ H):wO t u D σ H:=h { D with nx:=u D } (hR _ rfl)
theorem GK {te:TE} {g:TG} {D:sj} {σ:St} {H:Hp} (v:V) (hc:∀ Q:VK,Q v H→te σ H Q) (h:g v σ H D.nx):WK te g D σ H:=hc _ h
theorem tJ {te:TE} {D:sj} {σ:St} {H:Hp} (v:V) (hc:∀ Q:VK,Q v H→te σ H Q) (h:D.rt v H):JN te D σ H:=hc _ h
theorem Jw (x y:Str):(x ++ y).length=x.length + y.length:=by
 show (x.cps ++ y.cps).size=_;rw [Array.size_append];rfl
theorem Hj.range {lo:Int} {n:Nat} {g:TG} {tb:TS} {D:sj} {σ:St} {H:Hp} (Pv:Nat→St→Hp→Prop) (h0:Pv 0 σ H)
  (hs:∀ i σ H,i < n→Pv i σ H→g (.int (lo + i)) σ H fun σ2 H2=>tb { D with nx:=Pv (i + 1),ct:=Pv (i + 1),bk:=D.nx } σ2 H2) (hd:∀ σ H,Pv n σ H→D.nx σ H):Hj (Itr lo n) g tb D σ H:=dE Pv h0 hs hd
theorem Hj.list {K:PySem.W.Frag} {a:Addr} {xs:List V} {g:TG} {tb:TS} {D:sj} {σ:St} {H:Hp} (Pv:Nat→St→Hp→Prop) (h0:Pv 0 σ H) (hl:∀ i σ H,i ≤ xs.length→Pv i σ H→SqL K H a xs)
  (hs:∀ i x σ H,xs[i]? = some x→Pv i σ H→g x σ H fun σ2 H2=>tb { D with nx:=Pv (i + 1),ct:=Pv (i + 1),bk:=D.nx } σ2 H2) (hd:∀ σ H,Pv xs.length σ H→D.nx σ H):Hj (Itl K a) g tb D σ H:=bG Pv h0 hl hs hd
theorem Hj.its {xs:List V} {g:TG} {tb:TS} {D:sj} {σ:St} {H:Hp} (Pv:Nat→St→Hp→Prop) (h0:Pv 0 σ H)
  (hs:∀ i x σ H,xs[i]? = some x→Pv i σ H→g x σ H fun σ2 H2=>tb { D with nx:=Pv (i + 1),ct:=Pv (i + 1),bk:=D.nx } σ2 H2) (hd:∀ σ H,Pv xs.length σ H→D.nx σ H):Hj (Its xs) g tb D σ H:=DK Pv h0 hs hd
theorem ad.list {K:PySem.W.Frag} {a:Addr} {xs:List V} {g:TG} {tc:TT} {te:TE} {σb:St} {Q:VK} {H:Hp} (Pv:Nat→List V→Hp→Prop) (hz:xs.length ≤ sizeLine) (h0:Pv 0 [] H) (hl:∀ i ys H,i ≤ xs.length→Pv i ys H→SqL K H a xs∧ys.length ≤ i)
  (hs:∀ i x ys H,xs[i]? = some x→Pv i ys H→Xf Pv g tc te σb i x ys H) (hd:∀ ys H,Pv xs.length ys H→∀ p,H p=none→Q (.ref p) (upd H p (.lst ys))):ad (Itl K a) g tc te σb Q H:=aD Pv hz h0 hl hs hd
theorem ad.its {xs:List V} {g:TG} {tc:TT} {te:TE} {σb:St} {Q:VK} {H:Hp} (Pv:Nat→List V→Hp→Prop) (hz:xs.length ≤ sizeLine) (h0:Pv 0 [] H) (hl:∀ i ys H,i ≤ xs.length→Pv i ys H→ys.length ≤ i)
  (hs:∀ i x ys H,xs[i]? = some x→Pv i ys H→Xf Pv g tc te σb i x ys H) (hd:∀ ys H,Pv xs.length ys H→∀ p,H p=none→Q (.ref p) (upd H p (.lst ys))):ad (Its xs) g tc te σb Q H:=WG Pv hz h0 hl hs hd
theorem ad.range {lo:Int} {n:Nat} {g:TG} {tc:TT} {te:TE} {σb:St} {Q:VK} {H:Hp} (Pv:Nat→List V→Hp→Prop) (hz:n ≤ sizeLine) (h0:Pv 0 [] H) (hl:∀ i ys H,i ≤ n→Pv i ys H→ys.length ≤ i)
  (hs:∀ i ys H,i < n→Pv i ys H→Xf Pv g tc te σb i (.int (lo + i)) ys H) (hd:∀ ys H,Pv n ys H→∀ p,H p=none→Q (.ref p) (upd H p (.lst ys))):ad (Itr lo n) g tc te σb Q H:=GB Pv hz h0 hl hs hd
theorem Pm {α β:Type} {xs:List α} {i:Nat} {x:α} (f:α→β) (h:xs[i]? = some x):(xs.take (i + 1)).map f=(xs.take i).map f ++ [f x]:=by
 rw [List.take_add_one,h,List.map_append];rfl
theorem ad.its_map {xs:List V} {g:TG} {te:TE} {σb:St} {Q:VK} {H:Hp} (f:V→V) (hz:xs.length ≤ sizeLine) (hs:∀ (i:Nat) (x:V) (N:V→Hp→Prop),xs[i]? = some x→N (f x) H→g x σb H fun σ2 H2=>Sub σb σ2∧te σ2 H2 N)
  (hd:∀ p,H p=none→Q (.ref p) (upd H p (.lst (xs.map f)))):ad (Its xs) g Ov te σb Q H:=by
 refine ad.its (fun i ys H'=>H'=H∧ys=(xs.take i).map f) hz ⟨rfl,rfl⟩ (fun i ys H' hi ⟨_,e⟩=>?_) (fun i x ys H' hx ⟨e1,e2⟩ N hN=>?_) (fun ys H' ⟨e1,e2⟩ p hp=>?_)
 ·rw [e,List.length_map,List.length_take];omega
 ·subst e1;exact hs i x (fun y H4=>N (ys ++ [y]) H4) hx (hN _ _ ⟨rfl,by rw [e2,Pm f hx]⟩)
 ·subst e1;rw [e2,List.take_length];exact hd p hp
theorem ad.list_map {K:PySem.W.Frag} {a:Addr} {xs:List V} {g:TG} {te:TE} {σb:St} {Q:VK} {H:Hp} (f:V→V) (hl:SqL K H a xs) (hz:xs.length ≤ sizeLine) (hs:∀ (i:Nat) (x:V) (N:V→Hp→Prop),xs[i]? = some x→N (f x) H→g x σb H fun σ2 H2=>Sub σb σ2∧te σ2 H2 N)
  (hd:∀ p,H p=none→Q (.ref p) (upd H p (.lst (xs.map f)))):ad (Itl K a) g Ov te σb Q H:=by
 refine ad.list (fun i ys H'=>H'=H∧ys=(xs.take i).map f) hz ⟨rfl,rfl⟩ (fun i ys H' hi ⟨e0,e⟩=>?_) (fun i x ys H' hx ⟨e1,e2⟩ N hN=>?_) (fun ys H' ⟨e1,e2⟩ p hp=>?_)
 ·subst e0;exact ⟨hl,by rw [e,List.length_map,List.length_take];omega⟩
 ·subst e1;exact hs i x (fun y H4=>N (ys ++ [y]) H4) hx (hN _ _ ⟨rfl,by rw [e2,Pm f hx]⟩)
 ·subst e1;rw [e2,List.take_length];exact hd p hp
theorem ad.range_map {lo:Int} {n:Nat} {g:TG} {te:TE} {σb:St} {Q:VK} {H:Hp} (f:Nat→V) (hz:n ≤ sizeLine) (hs:∀ (i:Nat) (N:V→Hp→Prop),i < n→N (f i) H→g (.int (lo + i)) σb H fun σ2 H2=>Sub σb σ2∧te σ2 H2 N)
  (hd:∀ p,H p=none→Q (.ref p) (upd H p (.lst ((List.range n).map f)))):ad (Itr lo n) g Ov te σb Q H:=by
 refine ad.range (fun i ys H'=>H'=H∧ys=(List.range i).map f) hz ⟨rfl,rfl⟩ (fun i ys H' hi ⟨_,e⟩=>?_) (fun i ys H' hi ⟨e1,e2⟩ N hN=>?_) (fun ys H' ⟨e1,e2⟩ p hp=>?_)
 ·rw [e,List.length_map,List.length_range];exact Nat.le_refl _
 ·subst e1;exact hs i (fun y H4=>N (ys ++ [y]) H4) hi (hN _ _ ⟨rfl,by rw [e2,List.range_succ,List.map_append];rfl⟩)
 ·subst e1;rw [e2];exact hd p hp
theorem ad.list_mk {K:PySem.W.Frag} {a:Addr} {xs:List V} {g:TG} {te:TE} {σb:St} {Q:VK} {H:Hp} (f:V→HO) (hl:SqL K H a xs) (hz:xs.length ≤ sizeLine) (hn:∀ x,noT (f x)=true)
  (hs:∀ (i:Nat) (x:V) (H1:Hp) (N:V→Hp→Prop),xs[i]? = some x→Tb H H1→(NoT H→NoT H1)→(∀ q,H1 q=none→N (.ref q) (upd H1 q (f x)))→g x σb H1 fun σ2 H2=>Sub σb σ2∧te σ2 H2 N)
  (hd:∀ (qs:List Addr) (H1:Hp),Tb H H1→(NoT H→NoT H1)→qs.length=xs.length→(∀ (j:Nat) (q:Addr) (x:V),qs[j]? = some q→xs[j]? = some x→H1 q=some (f x)∧H q=none)→∀ p,H1 p=none→Q (.ref p) (upd H1 p (.lst (qs.map V.ref)))):ad (Itl K a) g Ov te σb Q H:=by
 refine ad.list (fun i ys H'=>∃ qs:List Addr,ys=qs.map V.ref∧qs.length=i∧Tb H H'∧(NoT H→NoT H')∧∀ (j:Nat) (q:Addr) (x:V),qs[j]? = some q→xs[j]? = some x→H' q=some (f x)∧H q=none) hz
  ⟨[],rfl,rfl,Tb.refl H,id,fun j q x h _=>by simp at h⟩ ?_ ?_ ?_
 ·rintro i ys H' hi zzq;refine zP fun zzM zzh=>?_
  obtain ⟨qs,e,e2,sm,_,_⟩:=zzq;subst zzh;exact ⟨hl.same sm,by rw [e,List.length_map];omega⟩
 ·rintro i x ys H' hx ⟨qs,e1,e2,sm,nt,al⟩ N hN;refine hs i x H' (fun y H4=>N (ys ++ [y]) H4) hx sm nt fun q hq=>hN _ _ ⟨qs ++ [q],by rw [e1,List.map_append];rfl,by rw [List.length_append,e2];rfl,sm.updN (sm.free hq),fun n=>(nt n).upd (hn x),fun j q' x' h1 h2=>?_⟩
  by_cases hj:j < qs.length
  ·rw [List.getElem?_append_left hj] at h1;obtain ⟨z1,z2⟩:=al j q' x' h1 h2;exact ⟨by rw [Db (Jb z1 hq)];exact z1,z2⟩
  ·rw [List.getElem?_append_right (by omega)] at h1;have hj0:j - qs.length=0:=by
    cases hh:j - qs.length with
    | zero=>rfl
    | succ n=>rw [hh] at h1;simp at h1
   rw [hj0] at h1;have e3:q=q':=by simpa using h1
   subst e3;have e4:j=i:=by omega
   subst e4;rw [hx] at h2;cases h2;exact ⟨gb,sm.free hq⟩
 ·rintro ys H' ⟨qs,e1,e2,sm,nt,al⟩ p hp;subst e1;exact hd qs H' sm nt e2 al p hp
theorem Hj.of {J:It} {n:Nat} {g:TG} {tb:TS} {D:sj} {σ:St} {H:Hp} (Pv:Nat→St→Hp→Prop) (h0:Pv 0 σ H) (hgo:∀ i σ H,i < n→Pv i σ H→J.go i H) (hst:∀ σ H,Pv n σ H→J.stop n H)
  (hs:∀ i σ H x H',i < n→Pv i σ H→J.yld i H x H'→g x σ H' fun σ2 H2=>tb { D with nx:=Pv (i + 1),ct:=Pv (i + 1),bk:=D.nx } σ2 H2) (hd:∀ σ H,Pv n σ H→D.nx σ H):Hj J g tb D σ H:=by
 refine ⟨fun i m σ H=>m=n - i∧i ≤ n∧Pv i σ H,⟨n,by simp,Nat.zero_le _,h0⟩,?_⟩;rintro i m σ H ⟨rfl,hi,p⟩;by_cases hlt:i < n
 ·exact .inr ⟨hgo i σ H hlt p,Pv (i + 1),fun σ' H' p'=>⟨n - (i + 1),by omega,rfl,hlt,p'⟩,fun x H' y=>hs i σ H x H' hlt p y⟩
 ·have e:i=n:=by omega
  subst e;exact .inl ⟨hst σ H p,hd σ H p⟩
theorem ad.of {J:It} {n:Nat} {g:TG} {tc:TT} {te:TE} {σb:St} {Q:VK} {H:Hp} (Pv:Nat→List V→Hp→Prop) (hz:n ≤ sizeLine) (h0:Pv 0 [] H) (hgo:∀ i ys H,i < n→Pv i ys H→J.go i H) (hst:∀ ys H,Pv n ys H→J.stop n H) (hl:∀ i ys H,i < n→Pv i ys H→ys.length ≤ i)
  (hs:∀ i ys H x H',i < n→Pv i ys H→J.yld i H x H'→Xf Pv g tc te σb i x ys H') (hd:∀ ys H,Pv n ys H→∀ p,H p=none→Q (.ref p) (upd H p (.lst ys))):ad J g tc te σb Q H:=by
 refine ⟨fun i m ys H=>m=n - i∧i ≤ n∧Pv i ys H,⟨n,by simp,Nat.zero_le _,h0⟩,?_⟩;rintro i m ys H ⟨rfl,hi,p⟩;by_cases hlt:i < n
 ·have hyl:=hl i ys H hlt p;refine .inr ⟨hgo i ys H hlt p,by omega,fun x H' y=>?_⟩;exact hs i ys H x H' hlt p y (fun ys' H'=>∃ m',m' < n - i∧m'=n - (i + 1)∧i + 1 ≤ n∧Pv (i + 1) ys' H') fun ys' H' r=>⟨n - (i + 1),by omega,rfl,hlt,r⟩
 ·have e:i=n:=by omega
  subst e;exact .inl ⟨hst ys H p,hd ys H p⟩
section
variable {K:PySem.W.Frag} {a b:Addr} {xs ys:List V} {g:TG} {tb:TS} {D:sj} {σ σb:St} {H:Hp} {tc:TT} {te:TE} {Q:VK}
theorem Hj.enum (Pv:Nat→St→Hp→Prop) (h0:Pv 0 σ H) (hl:∀ i σ H,i ≤ xs.length→Pv i σ H→SqL K H a xs)
  (hs:∀ i x σ H p,xs[i]? = some x→Pv i σ H→H p=none→g (.ref p) σ (upd H p (.tup [.int i,x])) fun σ2 H2=>tb { D with nx:=Pv (i + 1),ct:=Pv (i + 1),bk:=D.nx } σ2 H2) (hd:∀ σ H,Pv xs.length σ H→D.nx σ H):Hj (Ite K a) g tb D σ H:=by
 refine Hj.of (n:=xs.length) Pv h0 (fun i σ H hi p=>⟨xs,xs[i],hl i σ H (Nat.le_of_lt hi) p,by simp [hi]⟩) (fun σ H p=>⟨xs,hl _ σ H (Nat.le_refl _) p,Nat.le_refl _⟩) (fun i σ H v H' hi p y=>?_) hd;obtain ⟨q,x,hq,rfl,hx,rfl⟩:=y;exact hs i x σ H q (hx xs (hl i σ H (Nat.le_of_lt hi) p)) p hq
theorem Hj.zip (Pv:Nat→St→Hp→Prop) (h0:Pv 0 σ H) (hl:∀ i σ H,i ≤ xs.length→Pv i σ H→SqL K H a xs∧SqL K H b ys) (n:Nat) (hn:n=min xs.length ys.length)
  (hs:∀ i x y σ H p,xs[i]? = some x→ys[i]? = some y→Pv i σ H→H p=none→g (.ref p) σ (upd H p (.tup [x,y])) fun σ2 H2=>tb { D with nx:=Pv (i + 1),ct:=Pv (i + 1),bk:=D.nx } σ2 H2) (hd:∀ σ H,Pv n σ H→D.nx σ H):Hj (Itz K a b) g tb D σ H:=by
 subst hn;refine Hj.of (n:=min xs.length ys.length) Pv h0 (fun i σ H hi p=>?_) (fun σ H p=>?_) (fun i σ H v H' hi p y=>?_) hd
 ·obtain ⟨z1,z2⟩:=hl i σ H (by omega) p;exact ⟨xs,ys,xs[i],ys[i],z1,z2,by rw [List.getElem?_eq_getElem (by omega)],by rw [List.getElem?_eq_getElem (by omega)]⟩
 ·obtain ⟨z1,z2⟩:=hl _ σ H (by omega) p;exact ⟨xs,ys,z1,z2,by omega⟩
 ·obtain ⟨q,x,y,hq,rfl,hx,hy,rfl⟩:=y;obtain ⟨z1,z2⟩:=hl i σ H (by omega) p;exact hs i x y σ H q (hx xs z1) (hy ys z2) p hq
theorem ad.enum (Pv:Nat→List V→Hp→Prop) (hz:xs.length ≤ sizeLine) (h0:Pv 0 [] H) (hl:∀ i ys H,i ≤ xs.length→Pv i ys H→SqL K H a xs∧ys.length ≤ i)
  (hs:∀ i x ys H p,xs[i]? = some x→Pv i ys H→H p=none→Xf Pv g tc te σb i (.ref p) ys (upd H p (.tup [.int i,x]))) (hd:∀ ys H,Pv xs.length ys H→∀ p,H p=none→Q (.ref p) (upd H p (.lst ys))):ad (Ite K a) g tc te σb Q H:=by
 refine ad.of (n:=xs.length) Pv hz h0 (fun i ys H hi p=>⟨xs,xs[i],(hl i ys H (Nat.le_of_lt hi) p).1,by simp [hi]⟩) (fun ys H p=>⟨xs,(hl _ ys H (Nat.le_refl _) p).1,Nat.le_refl _⟩) (fun i ys H hi p=>(hl i ys H (Nat.le_of_lt hi) p).2) (fun i zs H v H' hi p y=>?_) hd;obtain ⟨q,x,hq,rfl,hx,rfl⟩:=y;exact hs i x zs H q (hx xs (hl i zs H (Nat.le_of_lt hi) p).1) p hq
theorem Lk {i j:Nat} {p:Addr} {x y:V} {R:St→Hp→Prop} (h:SqT K H p [x,y]) (q:R ((σ.set i (some x)).set j (some y)) H):AM K 2 (GA (Xq i) (GA (Xq j) kN)) (.ref p) σ H R:=
 ⟨p,_,rfl,h,rfl,x,_,rfl,y,_,rfl,rfl,q⟩
theorem ah {i j:Nat} {p:Addr} {x y:V} {R:St→Hp→Prop} (q:R ((σ.set i (some x)).set j (some y)) (upd H p (.tup [x,y]))):AM K 2 (GA (Xq i) (GA (Xq j) kN)) (.ref p) σ (upd H p (.tup [x,y])) R:=
 Lk (.inl (.inl gb)) q
end
theorem Sub.name2 {r:St} {v w:Option V}:Sub (none :: none :: r) (v :: w :: r):=by
 refine ⟨rfl,fun i u h=>?_⟩
 match i with
 | 0=>cases h
 | 1=>cases h
 | i + 2=>exact h
theorem ad.list_zs {K:PySem.W.Frag} {a:Addr} {xs zs:List V} {g:TG} {te:TE} {σb:St} {Q:VK} {H:Hp} (hl:SqL K H a xs) (hz:xs.length ≤ sizeLine) (he:zs.length=xs.length)
  (hs:∀ (i:Nat) (x z:V) (N:V→Hp→Prop),xs[i]? = some x→zs[i]? = some z→N z H→g x σb H fun σ2 H2=>Sub σb σ2∧te σ2 H2 N) (hd:∀ p,H p=none→Q (.ref p) (upd H p (.lst zs))):ad (Itl K a) g Ov te σb Q H:=by
 refine ad.list (fun i ys H'=>H'=H∧ys=zs.take i) hz ⟨rfl,rfl⟩ (fun i ys H' hi ⟨e0,e⟩=>?_) (fun i x ys H' hx ⟨e1,e2⟩ N hN=>?_) (fun ys H' ⟨e1,e2⟩ p hp=>?_)
 ·subst e0;exact ⟨hl,by rw [e,List.length_take];omega⟩
 ·subst e1;have hi:i < zs.length:=by rw [he];exact (List.getElem?_eq_some_iff.mp hx).1
  have hz':zs[i]? = some zs[i]:=List.getElem?_eq_getElem hi;exact hs i x zs[i] (fun y H4=>N (ys ++ [y]) H4) hx hz' (hN _ _ ⟨rfl,by rw [e2,List.take_add_one,hz'];rfl⟩)
 ·subst e1;rw [e2,← he,List.take_length];exact hd p hp
theorem ad.tup_zs {K:PySem.W.Frag} {a:Addr} {xs zs:List V} {g:TG} {te:TE} {σb:St} {Q:VK} {H:Hp} (hl:SqT K H a xs) (hz:xs.length ≤ sizeLine) (he:zs.length=xs.length)
  (hs:∀ (i:Nat) (x z:V) (N:V→Hp→Prop),xs[i]? = some x→zs[i]? = some z→N z H→g x σb H fun σ2 H2=>Sub σb σ2∧te σ2 H2 N) (hd:∀ p,H p=none→Q (.ref p) (upd H p (.lst zs))):ad (Itt K a) g Ov te σb Q H:=by
 refine tH (xs:=xs) (fun i ys H'=>H'=H∧ys=zs.take i) hz ⟨rfl,rfl⟩ (fun i ys H' hi ⟨e0,e⟩=>?_) (fun i x ys H' hx ⟨e1,e2⟩ N hN=>?_) (fun ys H' ⟨e1,e2⟩ p hp=>?_)
 ·subst e0;exact ⟨hl,by rw [e,List.length_take];omega⟩
 ·subst e1;have hi:i < zs.length:=by rw [he];exact (List.getElem?_eq_some_iff.mp hx).1
  have hz':zs[i]? = some zs[i]:=List.getElem?_eq_getElem hi;exact hs i x zs[i] (fun y H4=>N (ys ++ [y]) H4) hx hz' (hN _ _ ⟨rfl,by rw [e2,List.take_add_one,hz'];rfl⟩)
 ·subst e1;rw [e2,← he,List.take_length];exact hd p hp
theorem Sub.name {r:St} {v:Option V}:Sub (none :: r) (v :: r):=by
 refine ⟨rfl,fun i w h=>?_⟩;cases i with
 | zero=>cases h
 | succ i=>exact h
end L2
namespace L2
open PySem PySem.Spec PyProof.Rows
theorem wb {X:Cx} {i:Nat} {x:Str} {e:Expr} {te:TE} {pos pos':Pos} (hN:X.N.Nodup) (he:PE X e te) (hi:X.N[i]? = some x:=by rfl) (hx:Loc X.env.scope x:=by exact Or.inl rfl) (hs:swapsWith e (some (.Name x pos')) pos.line X.env=pure false:=by rfl) (hf:X.fn x=true∨X.env.scope.names.lookup x=some .local:=by first | exact .inl rfl | exact .inr rfl | assumption):PS X (.Assign [.Name x pos'] e pos) (WK te (Xq i)):=Ox hN hi hx he hs hf
theorem Eb {X:Cx} {pos:Pos} {i:Nat} {x:Str} (hN:X.N.Nodup) (hi:X.N[i]? = some x:=by rfl) (hx:Loc X.env.scope x:=by exact Or.inl rfl) (hf:X.fn x=true∨X.env.scope.names.lookup x=some .local:=by first | exact .inl rfl | exact .inr rfl | assumption):PG X (.Name x pos) (Xq i):=Gx hN hi hx hf
theorem Kb {X:Cx} {a b:Expr} {ta tb:TE} {pos:Pos} {r:R2} (hr:IxR X r) (ha:PE X a ta) (hb:PE X b tb) (hs:TB b:=by exact fun _ _=>rfl):PE X (.Subscript a b pos) (tOp r ta tb):=WN hr ha hb hs
theorem qb {X:Cx} {k:Nat} {f:Addr} {fd:FuncData} {ps:List Str} {sp:Sp} {x:Str} {p pos:Pos} {e:Expr} {es:List Expr} {t:TA} (F:Rb X.prog X.w X.K X.mg X.base CX0 k f fd ps sp) (hr:Gj k X.A) (hm:X.mg x=some (.ref f)) (hk:PySem.W.keepIn X.K (.ref f)=true) (hb:lc X.K fd ps []) (ha:PA X (e :: es) t) (hg:Gl X x:=by rfl) (hdb:(x == ("__debug__" : Str))=false:=by decide) (he:starEach (e :: es) X.env=(false,eval e X.env) :: starEach es X.env:=by rfl) (hpl:(backTo pos (starEach es X.env)).any (·.1)=false:=by rfl):PE X (.Call (.Name x p) (e :: es) [] pos) (iH sp [] E0 t):=IK F hr hg hm hk hb .nil fe ha hdb he hpl
end L2
local macro_rules | `(tactic| walk_at "RD")=>`(tactic| ((try dsimp only [L2.mK,L2.uN,L2.Cx.nox,L2.Cx.wish,L2.Cx.block,L2.Cx.tr,L2.Cx.hn,L2.GC,L2.PM,L2.fL,L2.XE,L2.mI,L2.GE,L2.Yz,L2.KD,L2.wI,L2.bc,L2.xb,L2.Qx,L2.DE,L2.Ku,L2.Bg,L2.tF,L2.Nz,L2.eC,L2.tD,L2.wE,L2.VE,L2.jE,L2.Py,L2.wD,L2.bJ,L2.WI,L2.pM,L2.DI,L2.IL,L2.YI,L2.FI,L2.uz,L2.mF,L2.uE,L2.jt,L2.xD,L2.OE,L2.Iy,L2.ID,L2.gE,L2.Sy,L2.iy,L2.Zx,L2.yI,L2.Er,L2.Hz,L2.UH,L2.fD,L2.Ux,L2.lF,L2.RB,L2.fC,L2.gy,L2.nC,L2.RI,L2.kE,L2.kI,L2.Vr,L2.Vs,L2.Lq,L2.ND,L2.TC,L2.Xy,L2.Ur,L2.Sz,L2.sw,L2.Zv,L2.Wx,L2.zF,L2.uC,L2.jy,L2.Iu,L2.Su,L2.fz,L2.qF,L2.ly,L2.jz,L2.FC,L2.Gr,L2.Qz,L2.xy,L2.EF,L2.AE,L2.Wz,L2.Fz,L2.Iz,L2.dC,L2.sD,L2.Tu,L2.Jz,L2.uI,L2.ky,L2.Pz,L2.start,L2.GF,L2.XN,L2.SN,L2.YN,L2.pN,L2.VN,L2.EN,L2.tN,L2.PN,L2.LN,L2.ON,L2.dBn,L2.dBs,L2.dJs,L2.dJn,Nat.reduceAdd,Nat.reduceSub,List.replicate]);(try simp only [L2.GC,L2.PM,L2.fL,L2.XE,L2.mI,L2.GE,L2.Yz,L2.KD,L2.wI,L2.bc,L2.xb,L2.Qx,L2.DE,L2.Ku,L2.Bg,L2.tF,L2.Nz,L2.eC,L2.tD,L2.wE,L2.VE,L2.jE,L2.Py,L2.wD,L2.bJ,L2.WI,L2.pM,L2.DI,L2.IL,L2.YI,L2.FI,L2.uz,L2.mF,L2.uE,L2.jt,L2.xD,L2.OE,L2.Iy,L2.ID,L2.gE,L2.Sy,L2.iy,L2.Zx,L2.yI,L2.Er,L2.Hz,L2.UH,L2.fD,L2.Ux,L2.lF,L2.RB,L2.fC,L2.gy,L2.nC,L2.RI,L2.kE,L2.kI,L2.Vr,L2.Vs,L2.Lq,L2.ND,L2.TC,L2.Xy,L2.Ur,L2.Sz,L2.sw,L2.Zv,L2.Wx,L2.zF,L2.uC,L2.jy,L2.Iu,L2.Su,L2.fz,L2.qF,L2.ly,L2.jz,L2.FC,L2.Gr,L2.Qz,L2.xy,L2.EF,L2.AE,L2.Wz,L2.Fz,L2.Iz,L2.dC,L2.sD,L2.Tu,L2.Jz,L2.uI,L2.ky,L2.Pz,L2.cJ,L2.bK,L2.gL,L2.wJ,L2.JK,L2.start,L2.GF,List.map_cons,List.map_nil,Option.bind_none,Option.bind_some,Option.join_some,Option.join_none,List.length_cons,List.length_nil,Nat.reduceAdd,Nat.reduceSub,Nat.zero_add,List.replicate,List.cons_append,List.nil_append,List.append_nil,List.set_cons_zero,List.set_cons_succ,List.getElem?_cons_zero,List.getElem?_cons_succ,Option.some.injEq,L2.V.int.injEq,L2.V.bl.injEq,L2.V.str.injEq,L2.V.ref.injEq,L2.V.ty.injEq,exists_eq_left',exists_eq_left,exists_and_left,List.cons.injEq,and_true,true_and,and_assoc,Int.zero_add,reduceCtorEq,false_and,exists_false,and_false,ite_true,ite_false,if_true,if_false,Bool.false_eq_true,L2.aM,L2.tyV,false_or,or_false,Bool.not_true,Bool.not_false,decide_true,decide_false])))
local macro_rules | `(tactic| walk_at "B")=>`(tactic| first | rfl | (dsimp only [L2.Cx.block];done) | (dsimp only [L2.Cx.block];exact rfl))
local macro_rules | `(tactic| walk_at "F")=>`(tactic| exact ⟨rfl,rfl,rfl,by decide +kernel,rfl,by decide +kernel,by decide +kernel⟩)
namespace My
open PySem L2
noncomputable abbrev q5:List Str:=["self","name","start","end","off","near","least"]
noncomputable abbrev q8:List Str:=["order","one","other"]
noncomputable abbrev q9:List Str:=["self","name"]
noncomputable abbrev q10:List Str:=["wanted","size","order","paper"]
noncomputable abbrev q11:List Str:=["_law_script","_law_k","_law_many"]
noncomputable abbrev q12:List Str:=["crossing","one","other"]
noncomputable abbrev q13:List Str:=["word","signs","most"]
noncomputable abbrev q14:List Str:=["_law_script"]
noncomputable abbrev q15:List Str:=["self","good"]
noncomputable abbrev q16:List Str:=["self","kind","name","start","end","off","near","least"]
noncomputable abbrev q17:List Str:=["wanted","size","order","one","other"]
noncomputable abbrev q18:List Str:=["wanted","size","order","ring"]
noncomputable abbrev q19:List Str:=["wanted","size","rings","order"]
noncomputable abbrev q20:List Str:=["_law_script","_law_k","_law_many","_law_deep"]
noncomputable abbrev q21:List Str:=["_law_script","_law_paper_here","_law_k"]
noncomputable abbrev q22:List Str:=["self","crossing","wants"]
noncomputable abbrev q23:List Str:=["self","low","high"]
noncomputable abbrev q24:List Str:=["places","way","second"]
noncomputable abbrev q25:List Str:=["crossing","wants","size","begins"]
noncomputable abbrev q26:List Str:=["word","most_figures"]
noncomputable abbrev q27:List Str:=["reader","places","start"]
noncomputable abbrev q28:List Str:=["sort","name","start","end","off","near","least"]
noncomputable abbrev q29:List Str:=["self","row","told"]
noncomputable abbrev q30:List Str:=["self","choices"]
noncomputable abbrev q31:List Str:=["places","way","place"]
noncomputable abbrev q32:List Str:=["crossing","wants","size","paper"]
noncomputable abbrev q33:List Str:=["word","low","high"]
noncomputable abbrev q34:List Str:=["reader","ways"]
noncomputable abbrev q35:List Str:=["reader","places","ways"]
noncomputable abbrev q36:List Str:=["wanted","paths"]
noncomputable abbrev q37:List Str:=["wanted","order"]
noncomputable abbrev q38:List Str:=["wanted","size","order"]
noncomputable abbrev q39:List Str:=["wanted","size","rings"]
noncomputable abbrev q40:List Str:=["crossing","wants"]
noncomputable abbrev q41:List Str:=["_law_script","_law_many"]
noncomputable abbrev q42:List Str:=["_law_script","_law_many","_law_places_here"]
noncomputable abbrev q43:List Str:=["_law_places_here","_law_ways_here"]
noncomputable abbrev q44:List Str:=["_law_script","_law_ways_here"]
noncomputable abbrev q45:List Str:=["self","places","ways"]
noncomputable abbrev q46:List Str:=["wanted","paths","found","path","nearby"]
noncomputable abbrev q47:List Str:=["wanted","found","paths"]
noncomputable abbrev q48:List Str:=["wanted","size","order","begins","want","one","other"]
noncomputable abbrev q49:List Str:=["_law_script","_law_k","_law_many","_law_deep","_law_way","_law_i","_law_j","_law_one","_law_ring","_law_first"]
noncomputable abbrev q50:List Str:=["_law_script","_law_places_here","_law_ways_here","_law_crossing","_law_wanted_here","_law_wants","_law_begins","_law_at","_law_k","_law_j","_law_size","_law_told","_law_papers","_law_paper_here"]
noncomputable abbrev q51:List Str:=["self","crossing","wants","ways","one","want","other","second"]
noncomputable abbrev q53:List Str:=["name","turns","crossing"]
noncomputable def top (i:Nat):Stmt:=PySem.Challenge.pw_lampway_k62_whole_no_paper_against_begin.main.body.getD i (.Pass ⟨0,0,0,0⟩)
noncomputable abbrev nz:Stmt:=top 2
theorem Ev:Fb ["places","way","place","steps"] q31 (ub nz):=(by walk_at "F")
noncomputable abbrev Tn:Stmt:=top 3
theorem Tt:Fb q24 q24 (ub Tn):=(by walk_at "F")
noncomputable abbrev VH:Stmt:=top 4
theorem Kw:Fb ["crossing","one","other","way","second"] q12 (ub VH):=(by walk_at "F")
noncomputable abbrev ZL:Stmt:=top 5
theorem fF:Fb ["crossing","one","other","way","second"] q12 (ub ZL):=(by walk_at "F")
noncomputable abbrev yq:Stmt:=top 9
theorem kh:Fb ["crossing","wants","size","begins","wanted","one","other"] q25 (ub yq):=(by walk_at "F")
noncomputable abbrev jj:Stmt:=top 10
theorem Rf:Fb ["wanted","order","other"] ["wanted"] (ub jj):=(by walk_at "F")
noncomputable abbrev vk:Stmt:=top 11
theorem wo:Fb q8 q8 (ub vk):=(by walk_at "F")
noncomputable abbrev ko:Stmt:=top 12
theorem km:Fb ["order","one","other","more"] q8 (ub ko):=(by walk_at "F")
noncomputable abbrev rk:Stmt:=top 13
theorem oj:Fb ["wanted","size","order","one","other","step"] q17 (ub rk):=(by walk_at "F")
noncomputable abbrev eo:Stmt:=top 14
theorem Ue:Fb ["wanted","size","order","ring","total","place","one","other"] q18 (ub eo):=(by walk_at "F")
noncomputable abbrev Xn:Stmt:=top 15
theorem Um:Fb ["wanted","size","order","paper","one","other"] q10 (ub Xn):=(by walk_at "F")
noncomputable abbrev vm:Stmt:=top 16
theorem Bl:Fb q10 q10 (ub vm):=(by walk_at "F")
noncomputable abbrev vF:Stmt:=top 17
theorem Kz:Fb ["crossing","wants","size","paper","wanted"] q32 (ub vF):=(by walk_at "F")
noncomputable abbrev Dw:Stmt:=top 27
theorem tG:Fb ["text"] ["text"] (ub Dw):=(by walk_at "F")
noncomputable abbrev xk:Stmt:=top 28
theorem ku:Fb q13 q13 (ub xk):=(by walk_at "F")
noncomputable abbrev Yo:Stmt:=top 29
theorem Mv:Fb q26 q26 (ub Yo):=(by walk_at "F")
noncomputable abbrev Jv:Stmt:=top 30
theorem Nr:Fb ["word","low","high","number"] q33 (ub Jv):=(by walk_at "F")
noncomputable abbrev Xv:Stmt:=top 31
theorem pB:Fb ["word"] ["word"] (ub Xv):=(by walk_at "F")
noncomputable abbrev Yp:Stmt:=top 34
theorem fB:Fb ["text"] ["text"] (ub Yp):=(by walk_at "F")
noncomputable abbrev bp:Stmt:=top 48
theorem Yn:Fb ["reader","places"] ["reader"] (ub bp):=(by walk_at "F")
noncomputable abbrev Zg:Stmt:=top 49
theorem lj:Fb ["reader","ways","name"] q34 (ub Zg):=(by walk_at "F")
noncomputable abbrev Bs:Stmt:=top 50
theorem lx:Fb q27 q27 (ub Bs):=(by walk_at "F")
noncomputable abbrev Jr:Stmt:=top 51
theorem Bw:Fb q28 q28 (ub Jr):=(by walk_at "F")
noncomputable abbrev Ir:Stmt:=top 52
theorem ve:Fb ["reader","places","ways","sort","name","start","end","off","near","least"] q35 (ub Ir):=(by walk_at "F")
noncomputable abbrev ik:Stmt:=top 53
theorem ce:Fb ["text","rows","places","ways","reader"] ["text"] (ub ik):=(by walk_at "F")
noncomputable abbrev Ed:Stmt:=top 55
theorem pd:Fb q46 q36 (ub Ed):=(by walk_at "F")
noncomputable abbrev Yk:Stmt:=top 56
theorem Ui:Fb q47 ["wanted"] (ub Yk):=(by walk_at "F")
noncomputable abbrev qg:Stmt:=top 57
theorem Fe:Fb ["wanted","order","one","other"] q37 (ub qg):=(by walk_at "F")
noncomputable abbrev Se:Stmt:=top 58
theorem Ad:Fb q48 q38 (ub Se):=(by walk_at "F")
noncomputable abbrev Wv:Stmt:=top 59
theorem me:Fb ["wanted","size","rings","order","ring","pair","one","other","begins","paper","second"] q19 (ub Wv):=(by walk_at "F")
noncomputable abbrev Vm:Stmt:=top 60
theorem Th:Fb ["wanted","size","rings","want","turns"] q39 (ub Vm):=(by walk_at "F")
noncomputable abbrev Xi:Stmt:=top 61
theorem Vf:Fb ["wanted","total","want"] ["wanted"] (ub Xi):=(by walk_at "F")
noncomputable abbrev Qr:Stmt:=top 62
theorem Ac:Fb ["crossing","wants","wanted","rings","low","high","paper","begins","size","found","no_begins"] q40 (ub Qr):=(by walk_at "F")
noncomputable abbrev Pp:Stmt:=top 64
theorem uk:Fb ["_law_script","_law_k","_law_many","_law_cell","_law_seed"] q11 (ub Pp):=(by walk_at "F")
noncomputable abbrev lm:Stmt:=top 65
theorem cr:Fb q14 q14 (ub lm):=(by walk_at "F")
noncomputable abbrev zk:Stmt:=top 66
theorem Fc:Fb ["_law_script","_law_many","_law_letters","_law_word","_law_size","_law_at","_law_first","_law_some","_law_k","_law_name","_law_sign"] q41 (ub zk):=(by walk_at "F")
noncomputable abbrev bq:Stmt:=top 67
theorem rc:Fb ["_law_script","_law_many","_law_places_here","_law_names_here","_law_one_end","_law_ways_here","_law_k","_law_start","_law_end","_law_off","_law_near","_law_sort","_law_least"] q42 (ub bq):=(by walk_at "F")
noncomputable abbrev Ul:Stmt:=top 68
theorem Ck:Fb ["_law_places_here","_law_ways_here","_law_rows","_law_way"] q43 (ub Ul):=(by walk_at "F")
noncomputable abbrev jm:Stmt:=top 69
theorem bd:Fb ["_law_script","_law_ways_here","_law_many","_law_first","_law_wanted_here","_law_k","_law_turns"] q44 (ub jm):=(by walk_at "F")
noncomputable abbrev zh:Stmt:=top 70
theorem Zc:Fb q49 q20 (ub zh):=(by walk_at "F")
noncomputable abbrev yl:Stmt:=top 71
theorem Ud:Fb ["_law_script","_law_paper_here","_law_k","_law_way","_law_some","_law_ring","_law_cut_ring"] q21 (ub yl):=(by walk_at "F")
noncomputable abbrev KG:Stmt:=top 72
theorem kg:Fb q50 q14 (ub KG):=(by walk_at "F")
noncomputable abbrev Eg:Stmt:=qd (top 7) 0
theorem Pc:Fb q51 q22 (ub Eg):=(by walk_at "F")
noncomputable abbrev yj:Stmt:=qd (top 33) 0
theorem Nj:Fb q29 q29 (ub yj):=(by walk_at "F")
noncomputable abbrev ii:Stmt:=qd (top 33) 1
theorem xm:Fb ["self"] ["self"] (ub ii):=(by walk_at "F")
noncomputable abbrev rg:Stmt:=qd (top 33) 2
theorem pk:Fb ["self"] ["self"] (ub rg):=(by walk_at "F")
noncomputable abbrev rm:Stmt:=qd (top 33) 3
noncomputable abbrev Dj:Stmt:=qd (top 33) 4
theorem mn:Fb q15 q15 (ub Dj):=(by walk_at "F")
noncomputable abbrev Ah:Stmt:=qd (top 33) 5
theorem Pg:Fb ["self","choices","found"] q30 (ub Ah):=(by walk_at "F")
noncomputable abbrev Mg:Stmt:=qd (top 33) 6
theorem og:Fb ["self","low","high","found"] q23 (ub Mg):=(by walk_at "F")
noncomputable abbrev Kh:Stmt:=qd (top 33) 7
theorem Tl:Fb ["self"] ["self"] (ub Kh):=(by walk_at "F")
noncomputable abbrev Qs:Stmt:=qd (top 36) 0
theorem jq:Fb q16 q16 (ub Qs):=(by walk_at "F")
noncomputable abbrev Qm:Stmt:=qd (top 37) 0
theorem om:Fb q5 q5 (ub Qm):=(by walk_at "F")
noncomputable abbrev Dl:Stmt:=qd (top 37) 1
theorem jp:Fb ["self"] ["self"] (ub Dl):=(by walk_at "F")
noncomputable abbrev Em:Stmt:=qd (top 37) 2
theorem Uq:Fb ["self"] ["self"] (ub Em):=(by walk_at "F")
noncomputable abbrev El:Stmt:=qd (top 38) 0
theorem Sl:Fb q5 q5 (ub El):=(by walk_at "F")
noncomputable abbrev yk:Stmt:=qd (top 38) 1
theorem Fo:Fb ["self"] ["self"] (ub yk):=(by walk_at "F")
noncomputable abbrev Kl:Stmt:=qd (top 38) 2
theorem Jp:Fb ["self"] ["self"] (ub Kl):=(by walk_at "F")
noncomputable abbrev Jl:Stmt:=qd (top 39) 0
theorem Ql:Fb q5 q5 (ub Jl):=(by walk_at "F")
noncomputable abbrev Lj:Stmt:=qd (top 39) 1
theorem Do:Fb ["self"] ["self"] (ub Lj):=(by walk_at "F")
noncomputable abbrev Ll:Stmt:=qd (top 39) 2
theorem Aq:Fb ["self"] ["self"] (ub Ll):=(by walk_at "F")
noncomputable abbrev Uj:Stmt:=qd (top 47) 0
theorem Xe:Fb ["self","places","ways","number","way"] q45 (ub Uj):=(by walk_at "F")
noncomputable abbrev xi:Stmt:=qd (top 47) 2
theorem qm:Fb q9 q9 (ub xi):=(by walk_at "F")
noncomputable abbrev ci:Stmt:=qd (top 47) 3
theorem Hm:Fb q9 q9 (ub ci):=(by walk_at "F")
set_option genInjectivity false in
set_option genInjectivity false in
structure Adr where
 {Qo qh By oG Lg ke kd dg Vd uf Hh Re uu vt fg Hi Tm bn wm Li Af Kk Fk Vk Lf Dd Rk Jd Le yi wg xg Uk Hd Gg vh cj Yi yg vf qe fJ Wd je vc Vc xf Tc Qc uc Rc Nf Bf Tf Cg bf Jf ag cf Kf Uf ye Pd Hc Vb Nb Cm Yc Cc Bc jc:Addr}
 {No fh vy vH Qg ae ld eg Sd tf Gh Qe nu Kt bg Ei zm Rm mm Zi Cf Jk Ik Nk Ef Fd Xk Kd Pe vi Ig Dg Qk Gd Ag gh Mi Ni Hg mf pe VG Oe ff Ic Ld Ym ud yd Kc zd Jg zg Vh Ii Zf Tg Ph Yf Kg Sh Hf Je gd:FuncData}
 {Qu Hl Lv Al Rn Ol gp Tr Km lq:Value}
structure Txt (w:World) (K:PySem.W.Frag) (mg:Str→Option Value) (t:Adr):Prop where
 Rx:mg "in_bow"=some (.ref t.Qo)
 Lo:Fun K "in_bow" "in_bow" nz t.Qo t.No
 Yv:mg "bows_cross"=some (.ref t.qh)
 Tj:Fun K "bows_cross" "bows_cross" Tn t.qh t.fh
 cL:mg "meet"=some (.ref t.By)
 ZB:Fun K "meet" "meet" VH t.By t.vy
 rN:mg "gap"=some (.ref t.oG)
 rK:Fun K "gap" "gap" ZL t.oG t.vH
 Iw:mg "begins_do"=some (.ref t.Lg)
 Pl:Fun K "begins_do" "begins_do" yq t.Lg t.Qg
 Aj:mg "order_at_first"=some (.ref t.ke)
 df:Fun K "order_at_first" "order_at_first" jj t.ke t.ae
 dh:mg "in_some_order"=some (.ref t.kd)
 De:Fun K "in_some_order" "in_some_order" vk t.kd t.ld
 Bh:mg "with_ahead"=some (.ref t.dg)
 qf:Fun K "with_ahead" "with_ahead" ko t.dg t.eg
 sk:mg "step_in_order"=some (.ref t.Vd)
 Gf:Fun K "step_in_order" "step_in_order" rk t.Vd t.Sd
 Wn:mg "ring_bears"=some (.ref t.uf)
 Eh:Fun K "ring_bears" "ring_bears" eo t.uf t.tf
 nv:mg "case_bears"=some (.ref t.Hh)
 Xj:Fun K "case_bears" "case_bears" Xn t.Hh t.Gh
 Ri:mg "paper_bears"=some (.ref t.Re)
 Ke:Fun K "paper_bears" "paper_bears" vm t.Re t.Qe
 SJ:mg "bears"=some (.ref t.uu)
 Aw:Fun K "bears" "bears" vF t.uu t.nu
 DJ:mg "words"=some (.ref t.vt)
 yw:Fun K "words" "words" Dw t.vt t.Kt
 Vn:mg "is_made_of"=some (.ref t.fg)
 yh:Fun K "is_made_of" "is_made_of" xk t.fg t.bg
 Yw:mg "is_number"=some (.ref t.Hi)
 Xl:Fun K "is_number" "is_number" Yo t.Hi t.Ei
 fE:mg "figured"=some (.ref t.Tm)
 Fq:Fun K "figured" "figured" Jv t.Tm t.zm
 WC:mg "is_name"=some (.ref t.bn)
 vq:Fun K "is_name" "is_name" Xv t.bn t.Rm
 LC:mg "readers"=some (.ref t.wm)
 Bq:Fun K "readers" "readers" Yp t.wm t.mm
 Mw:mg "read_ring"=some (.ref t.Li)
 gm:Fun K "read_ring" "read_ring" bp t.Li t.Zi
 Wp:mg "read_new_name"=some (.ref t.Af)
 Yg:Fun K "read_new_name" "read_new_name" Zg t.Af t.Cf
 YA:mg "read_end"=some (.ref t.Kk)
 rn:Fun K "read_end" "read_end" Bs t.Kk t.Jk
 ZA:mg "made_way"=some (.ref t.Fk)
 Ln:Fun K "made_way" "made_way" Jr t.Fk t.Ik
 CB:mg "read_way"=some (.ref t.Vk)
 jn:Fun K "read_way" "read_way" Ir t.Vk t.Nk
 Xo:mg "read_crossing"=some (.ref t.Lf)
 Rg:Fun K "read_crossing" "read_crossing" ik t.Lf t.Ef
 Yj:mg "paths_longer_by_one"=some (.ref t.Dd)
 Ge:Fun K "paths_longer_by_one" "paths_longer_by_one" Ed t.Dd t.Fd
 jB:mg "rings_of"=some (.ref t.Rk)
 sn:Fun K "rings_of" "rings_of" Yk t.Rk t.Xk
 il:mg "pair_without_order"=some (.ref t.Jd)
 We:Fun K "pair_without_order" "pair_without_order" qg t.Jd t.Kd
 Bn:mg "begins_in_order"=some (.ref t.Le)
 Pf:Fun K "begins_in_order" "begins_in_order" Se t.Le t.Pe
 rq:mg "settled"=some (.ref t.yi)
 Ai:Fun K "settled" "settled" Wv t.yi t.vi
 Pi:mg "settled_for"=some (.ref t.wg)
 Ff:Fun K "settled_for" "settled_for" Vm t.wg t.Ig
 wt:mg "long_enough"=some (.ref t.xg)
 fj:Fun K "long_enough" "long_enough" Xi t.xg t.Dg
 pA:mg "shortest"=some (.ref t.Uk)
 dn:Fun K "shortest" "shortest" Qr t.Uk t.Qk
 Bb:mg "_law_draw"=some (.ref t.Hd)
 yb:Fun K "_law_draw" "_law_draw" Pp t.Hd t.Gd
 Wt:mg "_law_places"=some (.ref t.Gg)
 Si:Fun K "_law_places" "_law_places" lm t.Gg t.Ag
 Lu:mg "_law_names"=some (.ref t.vh)
 Ij:Fun K "_law_names" "_law_names" zk t.vh t.gh
 Jx:mg "_law_ways"=some (.ref t.cj)
 Rl:Fun K "_law_ways" "_law_ways" bq t.cj t.Mi
 Cw:mg "_law_text"=some (.ref t.Yi)
 dm:Fun K "_law_text" "_law_text" Ul t.Yi t.Ni
 gu:mg "_law_wanted"=some (.ref t.yg)
 bj:Fun K "_law_wanted" "_law_wanted" jm t.yg t.Hg
 jh:mg "_law_paper"=some (.ref t.vf)
 Ee:Fun K "_law_paper" "_law_paper" zh t.vf t.mf
 Qh:mg "_law_spoiled"=some (.ref t.qe)
 re:Fun K "_law_spoiled" "_law_spoiled" yl t.qe t.pe
 MN:mg "law"=some (.ref t.fJ)
 IN:Fun K "law" "law" KG t.fJ t.VG
 bu:mg "Wanted"=some (.ref t.Vb)
 GG:PySem.W.findIn K (.ref t.Vb) "__init__"=some (some (.ref t.Wd))
 Xm:Fun K "__init__" "Wanted.__init__" Eg t.Wd t.Oe
 Vw:mg "RowReader"=some (.ref t.Nb)
 JB:PySem.W.findIn K (.ref t.Nb) "__init__"=some (some (.ref t.je))
 Bj:Fun K "__init__" "RowReader.__init__" yj t.je t.ff
 mB:PySem.W.findIn K (.ref t.Nb) "ahead"=some (some (.ref t.vc))
 di:Fun K "ahead" "RowReader.ahead" ii t.vc t.Ic
 uw:PySem.W.findIn K (.ref t.Nb) "has_more"=some (some (.ref t.Vc))
 ng:Fun K "has_more" "RowReader.has_more" rg t.Vc t.Ld
 cy:PySem.W.findIn K (.ref t.Nb) "refuse"=some (some (.ref t.xf))
 Cy:Fun K "refuse" "RowReader.refuse" rm t.xf t.Ym
 NB:PySem.W.findIn K (.ref t.Nb) "take"=some (some (.ref t.Tc))
 rj:Fun K "take" "RowReader.take" Dj t.Tc t.ud
 Vz:PySem.W.findIn K (.ref t.Nb) "one_of"=some (some (.ref t.Qc))
 uh:Fun K "one_of" "RowReader.one_of" Ah t.Qc t.yd
 bx:PySem.W.findIn K (.ref t.Nb) "figures"=some (some (.ref t.uc))
 Sg:Fun K "figures" "RowReader.figures" Mg t.uc t.Kc
 Xz:PySem.W.findIn K (.ref t.Nb) "finish"=some (some (.ref t.Rc))
 sh:Fun K "finish" "RowReader.finish" Kh t.Rc t.zd
 KJ:mg "Way"=some (.ref t.Cm)
 RK:PySem.W.findIn K (.ref t.Cm) "__init__"=some (some (.ref t.Nf))
 Ms:Fun K "__init__" "Way.__init__" Qs t.Nf t.Jg
 AH:mg "CarWay"=some (.ref t.Yc)
 BG:PySem.W.findIn K (.ref t.Yc) "__init__"=some (some (.ref t.Bf))
 Wm:Fun K "__init__" "CarWay.__init__" Qm t.Bf t.zg
 JF:PySem.W.findIn K (.ref t.Yc) "ready"=some (some (.ref t.Tf))
 Ml:Fun K "ready" "CarWay.ready" Dl t.Tf t.Vh
 JH:PySem.W.findIn K (.ref t.Yc) "fade"=some (some (.ref t.Cg))
 Gm:Fun K "fade" "CarWay.fade" Em t.Cg t.Ii
 aC:mg "FootWay"=some (.ref t.Cc)
 NF:PySem.W.findIn K (.ref t.Cc) "__init__"=some (some (.ref t.bf))
 Nl:Fun K "__init__" "FootWay.__init__" El t.bf t.Zf
 dD:PySem.W.findIn K (.ref t.Cc) "ready"=some (some (.ref t.Jf))
 Mj:Fun K "ready" "FootWay.ready" yk t.Jf t.Tg
 KF:PySem.W.findIn K (.ref t.Cc) "fade"=some (some (.ref t.ag))
 xl:Fun K "fade" "FootWay.fade" Kl t.ag t.Ph
 JC:mg "TramWay"=some (.ref t.Bc)
 PF:PySem.W.findIn K (.ref t.Bc) "__init__"=some (some (.ref t.cf))
 ml:Fun K "__init__" "TramWay.__init__" Jl t.cf t.Yf
 kC:PySem.W.findIn K (.ref t.Bc) "ready"=some (some (.ref t.Kf))
 Ak:Fun K "ready" "TramWay.ready" Lj t.Kf t.Kg
 QF:PySem.W.findIn K (.ref t.Bc) "fade"=some (some (.ref t.Uf))
 Fl:Fun K "fade" "TramWay.fade" Ll t.Uf t.Sh
 AB:mg "Crossing"=some (.ref t.jc)
 JD:PySem.W.findIn K (.ref t.jc) "__init__"=some (some (.ref t.ye))
 Bk:Fun K "__init__" "Crossing.__init__" Uj t.ye t.Hf
 kB:PySem.W.findIn K (.ref t.jc) "number"=some (some (.ref t.Pd))
 li:Fun K "number" "Crossing.number" xi t.Pd t.Je
 FB:PySem.W.findIn K (.ref t.jc) "called"=some (some (.ref t.Hc))
 Xh:Fun K "called" "Crossing.called" ci t.Hc t.gd
 Di:Cls K t.Vb
 iu:Mk K t.Vb t.Wd
 Cl:kc K t.Vb "many"
 Cj:kc K t.Vb "alones"
 Vj:kc K t.Vb "steps"
 Lb:Cls K t.Nb
 Lw:Mk K t.Nb t.je
 Te:Nt K t.Nb "ahead" t.vc
 dl:Nt K t.Nb "has_more" t.Vc
 qz:Nt K t.Nb "refuse" t.xf
 ig:Nt K t.Nb "take" t.Tc
 xh:Nt K t.Nb "one_of" t.Qc
 Lc:Nt K t.Nb "figures" t.uc
 Lh:Nt K t.Nb "finish" t.Rc
 Eo:kc K t.Nb "row"
 si:kc K t.Nb "told"
 Df:kc K t.Nb "place"
 JO:Cls K t.Cm
 gK:kc K t.Cm "kind"
 WJ:kc K t.Cm "name"
 KI:kc K t.Cm "start"
 YK:kc K t.Cm "end"
 UK:kc K t.Cm "off"
 JJ:kc K t.Cm "near"
 NH:kc K t.Cm "least"
 qp:Cls K t.Yc
 mH:Mk K t.Yc t.Bf
 lr:Nt K t.Yc "ready" t.Tf
 ou:Nt K t.Yc "fade" t.Cg
 ir:kc K t.Yc "kind"
 Br:kc K t.Yc "name"
 Hq:kc K t.Yc "start"
 fu:kc K t.Yc "end"
 Rt:kc K t.Yc "off"
 xr:kc K t.Yc "near"
 Xp:kc K t.Yc "least"
 yn:Cls K t.Cc
 RC:Mk K t.Cc t.bf
 ip:Nt K t.Cc "ready" t.Jf
 Sq:Nt K t.Cc "fade" t.ag
 Ip:kc K t.Cc "kind"
 Uo:kc K t.Cc "name"
 Io:kc K t.Cc "start"
 mr:kc K t.Cc "end"
 ur:kc K t.Cc "off"
 aq:kc K t.Cc "near"
 xo:kc K t.Cc "least"
 An:Cls K t.Bc
 YB:Mk K t.Bc t.cf
 Up:Nt K t.Bc "ready" t.Kf
 br:Nt K t.Bc "fade" t.Uf
 Kq:kc K t.Bc "kind"
 cq:kc K t.Bc "name"
 Bo:kc K t.Bc "start"
 Yq:kc K t.Bc "end"
 Qq:kc K t.Bc "off"
 Gq:kc K t.Bc "near"
 oo:kc K t.Bc "least"
 Uc:Cls K t.jc
 BA:Mk K t.jc t.ye
 En:Nt K t.jc "number" t.Pd
 Td:Nt K t.jc "called" t.Hc
 lh:kc K t.jc "places"
 xj:kc K t.jc "ways"
 Wg:kc K t.jc "numbers"
 nG:t.Cm ≠ t.Yc
 LF:t.Cm ≠ t.Cc
 OF:t.Cm ≠ t.Bc
 Bi:t.Yc ≠ t.Cc
 ji:t.Yc ≠ t.Bc
 rh:t.Cc ≠ t.Bc
 Mn:WO K t.Cm "__init__" t.Nf
 DD:mg "FIGURES"=some t.Qu
 YD:Bd (.str (Str.ofString "0123456789")) t.Qu
 jr:mg "LEAST_PLACES"=some t.Hl
 Nq:Bd (.int 2) t.Hl
 yC:mg "LETTERS"=some t.Lv
 QD:Bd (.str (Str.ofString "abcdefghijklmnopqrstuvwxyz")) t.Lv
 Pq:mg "MOST_FIGURES"=some t.Al
 Ar:Bd (.int 3) t.Al
 av:mg "MOST_LEAST"=some t.Rn
 gv:Bd (.int 60) t.Rn
 Oq:mg "MOST_LETTERS"=some t.Ol
 zr:Bd (.int 8) t.Ol
 gx:mg "MOST_NEAR"=some t.gp
 Rw:Bd (.int 30) t.gp
 dA:mg "MOST_OFF"=some t.Tr
 uB:Bd (.int 30) t.Tr
 yt:mg "MOST_PLACES"=some t.Km
 Ot:Bd (.int 99) t.Km
 xx:mg "MOST_WAYS"=some t.lq
 Hx:Bd (.int 12) t.lq
 RN:mg "all"=none
 sM:mg "dict"=none
 Qf:mg "enumerate"=none
 QN:mg "int"=none
 Uh:mg "len"=none
 VD:mg "list"=none
 LG:mg "max"=none
 qL:mg "min"=none
 Mf:mg "range"=none
 GN:mg "set"=none
 PJ:mg "str"=none
 ZN:mg "sum"=none
 ZJ:mg "tuple"=none
 FN:mg "zip"=none
 lL:∀ (s:Shared) (u:Value),BindsTo s t.VG ⟨[u],[]⟩ [("_law_script",u)]
section
variable {w:World} {K:PySem.W.Frag} {mg:Str→Option Value} {t:Adr} (T:Txt w K mg t)
include T
theorem Txt.Sx:lc K t.No q31 []:=T.Lo.binds fun _ _ _ _ _ _=>us3 fun _ _ _=>rfl
theorem Txt.Fu:lc K t.fh q24 []:=T.Tj.binds fun _ _ _ _ _ _=>us3 fun _ _ _=>rfl
theorem Txt.TM:lc K t.vy q12 []:=T.ZB.binds fun _ _ _ _ _ _=>us3 fun _ _ _=>rfl
theorem Txt.qN:lc K t.vH q12 []:=T.rK.binds fun _ _ _ _ _ _=>us3 fun _ _ _=>rfl
theorem Txt.ww:lc K t.Qg q25 []:=T.Pl.binds fun _ _ _ _ _ _=>us4 fun _ _ _ _=>rfl
theorem Txt.tj:lc K t.ae ["wanted"] []:=T.df.binds fun _ _ _ _ _ _=>us1 fun _=>rfl
theorem Txt.Ug:lc K t.ld q8 []:=T.De.binds fun _ _ _ _ _ _=>us3 fun _ _ _=>rfl
theorem Txt.nh:lc K t.eg q8 []:=T.qf.binds fun _ _ _ _ _ _=>us3 fun _ _ _=>rfl
theorem Txt.Kj:lc K t.Sd q17 []:=T.Gf.binds fun _ _ _ _ _ _=>us5 fun _ _ _ _ _=>rfl
theorem Txt.Qn:lc K t.tf q18 []:=T.Eh.binds fun _ _ _ _ _ _=>us4 fun _ _ _ _=>rfl
theorem Txt.lv:lc K t.Gh q10 []:=T.Xj.binds fun _ _ _ _ _ _=>us4 fun _ _ _ _=>rfl
theorem Txt.Vi:lc K t.Qe q10 []:=T.Ke.binds fun _ _ _ _ _ _=>us4 fun _ _ _ _=>rfl
theorem Txt.jK:lc K t.nu q32 []:=T.Aw.binds fun _ _ _ _ _ _=>us4 fun _ _ _ _=>rfl
theorem Txt.eJ:lc K t.Kt ["text"] []:=T.yw.binds fun _ _ _ _ _ _=>us1 fun _=>rfl
theorem Txt.ao:lc K t.bg q13 []:=T.yh.binds fun _ _ _ _ _ _=>us3 fun _ _ _=>rfl
theorem Txt.Ww:lc K t.Ei q26 []:=T.Xl.binds fun _ _ _ _ _ _=>us2 fun _ _=>rfl
theorem Txt.KC:lc K t.zm q33 []:=T.Fq.binds fun _ _ _ _ _ _=>us3 fun _ _ _=>rfl
theorem Txt.PB:lc K t.Rm ["word"] []:=T.vq.binds fun _ _ _ _ _ _=>us1 fun _=>rfl
theorem Txt.ED:lc K t.mm ["text"] []:=T.Bq.binds fun _ _ _ _ _ _=>us1 fun _=>rfl
theorem Txt.Sw:lc K t.Zi ["reader"] []:=T.gm.binds fun _ _ _ _ _ _=>us1 fun _=>rfl
theorem Txt.yp:lc K t.Cf q34 []:=T.Yg.binds fun _ _ _ _ _ _=>us2 fun _ _=>rfl
theorem Txt.CA:lc K t.Jk q27 []:=T.rn.binds fun _ _ _ _ _ _=>us3 fun _ _ _=>rfl
theorem Txt.gA:lc K t.Ik q28 []:=T.Ln.binds fun _ _ _ _ _ _=>us7 fun _ _ _ _ _ _ _=>rfl
theorem Txt.OA:lc K t.Nk q35 []:=T.jn.binds fun _ _ _ _ _ _=>us3 fun _ _ _=>rfl
theorem Txt.Iq:lc K t.Ef ["text"] []:=T.Rg.binds fun _ _ _ _ _ _=>us1 fun _=>rfl
theorem Txt.Zj:lc K t.Fd q36 []:=T.Ge.binds fun _ _ _ _ _ _=>us2 fun _ _=>rfl
theorem Txt.aB:lc K t.Xk ["wanted"] []:=T.sn.binds fun _ _ _ _ _ _=>us1 fun _=>rfl
theorem Txt.Zk:lc K t.Kd q37 []:=T.We.binds fun _ _ _ _ _ _=>us2 fun _ _=>rfl
theorem Txt.Kn:lc K t.Pe q38 []:=T.Pf.binds fun _ _ _ _ _ _=>us3 fun _ _ _=>rfl
theorem Txt.pp:lc K t.vi q19 []:=T.Ai.binds fun _ _ _ _ _ _=>us4 fun _ _ _ _=>rfl
theorem Txt.Ti:lc K t.Ig q39 []:=T.Ff.binds fun _ _ _ _ _ _=>us3 fun _ _ _=>rfl
theorem Txt.cu:lc K t.Dg ["wanted"] []:=T.fj.binds fun _ _ _ _ _ _=>us1 fun _=>rfl
theorem Txt.wA:lc K t.Qk q40 []:=T.dn.binds fun _ _ _ _ _ _=>us2 fun _ _=>rfl
theorem Txt.Ab:lc K t.Gd q11 []:=T.yb.binds fun _ _ _ _ _ _=>us3 fun _ _ _=>rfl
theorem Txt.du:lc K t.Ag q14 []:=T.Si.binds fun _ _ _ _ _ _=>us1 fun _=>rfl
theorem Txt.mv:lc K t.gh q41 []:=T.Ij.binds fun _ _ _ _ _ _=>us2 fun _ _=>rfl
theorem Txt.Bx:lc K t.Mi q42 []:=T.Rl.binds fun _ _ _ _ _ _=>us3 fun _ _ _=>rfl
theorem Txt.Nw:lc K t.Ni q43 []:=T.dm.binds fun _ _ _ _ _ _=>us2 fun _ _=>rfl
theorem Txt.Bt:lc K t.Hg q44 []:=T.bj.binds fun _ _ _ _ _ _=>us2 fun _ _=>rfl
theorem Txt.Fh:lc K t.mf q20 []:=T.Ee.binds fun _ _ _ _ _ _=>us4 fun _ _ _ _=>rfl
theorem Txt.Rh:lc K t.pe q21 []:=T.re.binds fun _ _ _ _ _ _=>us3 fun _ _ _=>rfl
theorem Txt.Oi:lc K t.Oe q22 []:=T.Xm.binds fun _ _ _ _ _ _=>us3 fun _ _ _=>rfl
theorem Txt.qo:lc K t.ff q29 []:=T.Bj.binds fun _ _ _ _ _ _=>us3 fun _ _ _=>rfl
theorem Txt.He:lc K t.Ic ["self"] []:=T.di.binds fun _ _ _ _ _ _=>us1 fun _=>rfl
theorem Txt.kl:lc K t.Ld ["self"] []:=T.ng.binds fun _ _ _ _ _ _=>us1 fun _=>rfl
theorem Txt.jg:lc K t.ud q15 []:=T.rj.binds fun _ _ _ _ _ _=>us2 fun _ _=>rfl
theorem Txt.oh:lc K t.yd q30 []:=T.uh.binds fun _ _ _ _ _ _=>us2 fun _ _=>rfl
theorem Txt.Gc:lc K t.Kc q23 []:=T.Sg.binds fun _ _ _ _ _ _=>us3 fun _ _ _=>rfl
theorem Txt.ph:lc K t.zd ["self"] []:=T.sh.binds fun _ _ _ _ _ _=>us1 fun _=>rfl
theorem Txt.Pn:lc K t.Jg q16 []:=T.Ms.binds fun _ _ _ _ _ _=>us8 fun _ _ _ _ _ _ _ _=>rfl
theorem Txt.Ht:lc K t.zg q5 []:=T.Wm.binds fun _ _ _ _ _ _=>us7 fun _ _ _ _ _ _ _=>rfl
theorem Txt.gr:lc K t.Vh ["self"] []:=T.Ml.binds fun _ _ _ _ _ _=>us1 fun _=>rfl
theorem Txt.xt:lc K t.Ii ["self"] []:=T.Gm.binds fun _ _ _ _ _ _=>us1 fun _=>rfl
theorem Txt.yr:lc K t.Zf q5 []:=T.Nl.binds fun _ _ _ _ _ _=>us7 fun _ _ _ _ _ _ _=>rfl
theorem Txt.pq:lc K t.Tg ["self"] []:=T.Mj.binds fun _ _ _ _ _ _=>us1 fun _=>rfl
theorem Txt.Tq:lc K t.Ph ["self"] []:=T.xl.binds fun _ _ _ _ _ _=>us1 fun _=>rfl
theorem Txt.Cr:lc K t.Yf q5 []:=T.ml.binds fun _ _ _ _ _ _=>us7 fun _ _ _ _ _ _ _=>rfl
theorem Txt.Zo:lc K t.Kg ["self"] []:=T.Ak.binds fun _ _ _ _ _ _=>us1 fun _=>rfl
theorem Txt.kr:lc K t.Sh ["self"] []:=T.Fl.binds fun _ _ _ _ _ _=>us1 fun _=>rfl
theorem Txt.Dp:lc K t.Hf q45 []:=T.Bk.binds fun _ _ _ _ _ _=>us3 fun _ _ _=>rfl
theorem Txt.xn:lc K t.Je q9 []:=T.li.binds fun _ _ _ _ _ _=>us2 fun _ _=>rfl
theorem Txt.Md:lc K t.gd q9 []:=T.Xh.binds fun _ _ _ _ _ _=>us2 fun _ _=>rfl
end
noncomputable def Wf (ns:List Int) (k m:Int):Int:=
 ((((if 0 < (ns.length:Int) then ns.getD (k % (ns.length:Int)).toNat 0 else 0) % 1000003 + 31 * k * k + 1) * 48271 % 999983 * 7919) % 524287) % m
theorem yc (ns:List Int) (k:Int) {m:Int} (h:0 < m):0 ≤ Wf ns k m:=Int.emod_nonneg _ (by omega)
theorem zc (ns:List Int) (k:Int) {m:Int} (h:0 < m):Wf ns k m < m:=Int.emod_lt_of_pos _ h
noncomputable def Jc (K:PySem.W.Frag) (a:Addr) (ns:List Int):Sp:=fun vs H Q _=>∃ k m,vs=[.ref a,.int k,.int m]∧Sc K a ns H∧(0 ≤ k∧k < 1000000)∧0 < m∧Q (.int (Wf ns k m)) H
section
variable {P:Program} {w:World} {K:PySem.W.Frag} {mg:Str→Option Value} {base:Heap} {t:Adr}
theorem Wl (T:Txt w K mg t) (a:Addr) (ns:List Int) (h63:ns.length ≤ 63):Rb P w K mg base CX0 1 t.Hd t.Gd q11 (Jc K a ns):=by
 refine T.yb.ok uk (fun vs H Q E h=>?_) (fun _ _ _ s H vs Q E hr h=>?_)
 ·obtain ⟨k,m,rfl,_⟩:=h;rfl
 obtain ⟨k,m,rfl,S,⟨h0,h1⟩,hm,q⟩:=h;refine ⟨_,(fb (wb (i:=3) uk.nd (eu (Qb yo (qc Xb rfl T.Uh ic (ab (pv 0) ib)) jb (cc _)) (Kb Ye (pv 0) (Ib lg (pv 1) (qc Xb rfl T.Uh ic (ab (pv 0) ib)))) jb))
   (fb (wb (i:=4) uk.nd (Ib Zb (Ib Zb (Ib lg (pv 3) jb) (Ib Nd (Ib Nd jb (pv 1)) (pv 1))) jb))
   (lb (Gb (Ib lg (Ib lg (Ib Nd (Ib lg (Ib Nd (pv 4) jb) jb) jb) jb) (pv 2)))))),?_⟩
 walk_at "RD";refine ⟨_,.inl S.seq,?_⟩;rw [List.length_map];have hkk:(0:Int) ≤ k * k∧k * k < 1000000 * 1000000:=⟨Int.mul_nonneg h0 h0,Int.mul_lt_mul' (by omega) h1 h0 (by decide)⟩;have fin:∀ i:Int,(0:Int) < 1000003∧kK 31 k∧kK (31 * k) k∧kK (i % 1000003 + 31 * k * k + 1) 48271∧(0:Int) < 999983∧kK ((i % 1000003 + 31 * k * k + 1) * 48271 % 999983) 7919∧(0:Int) < 524287∧0 < m:=by
  intro i;refine ⟨by decide,.inl (by decide),.inr (by omega),.inr (by decide),by decide,.inr (by decide),by decide,hm⟩
 by_cases c:(0:Int) < (ns.length:Int)
 ·rw [if_pos (decide_eq_true c)];have hk:0 ≤ k % (ns.length:Int)∧k % (ns.length:Int) < (ns.length:Int):=⟨Int.emod_nonneg _ (by omega),Int.emod_lt_of_pos _ c⟩;refine ⟨_,.inl S.seq,by rw [List.length_map];exact c,_,S.seq,?_⟩;rw [List.length_map];have hj:(k % (ns.length:Int)).toNat < ns.length:=by omega
  refine ⟨.int ns[(k % (ns.length:Int)).toNat],?_,_,rfl,?_⟩
  ·have e:=Cb (xs:=ns.map V.int) (j:=(k % (ns.length:Int)).toNat) (v:=.int ns[(k % (ns.length:Int)).toNat]) (by rw [List.getElem?_map,List.getElem?_eq_getElem hj] <;> rfl);rwa [Int.toNat_of_nonneg hk.1] at e
  ·obtain ⟨f1,f2,f3,f4,f5,f6,f7,f8⟩:=fin ns[(k % (ns.length:Int)).toNat];refine ⟨f1,f2,f3,f4,f5,f6,f7,f8,?_⟩;have e:Wf ns k m=(((ns[(k % (ns.length:Int)).toNat] % 1000003 + 31 * k * k + 1) * 48271 % 999983 * 7919) % 524287) % m:=by
    unfold Wf;rw [if_pos c,List.getD_eq_getElem?_getD,List.getElem?_eq_getElem hj];rfl
   rw [← e];exact q
 ·rw [if_neg (by simpa using c)];obtain ⟨f1,f2,f3,f4,f5,f6,f7,f8⟩:=fin 0;refine ⟨f1,f2,f3,f4,f5,f6,f7,f8,?_⟩;have e:Wf ns k m=(((0 % 1000003 + 31 * k * k + 1) * 48271 % 999983 * 7919) % 524287) % m:=by
   unfold Wf;rw [if_neg c]
  rw [← e];exact q
end
theorem lN {w:Str}:w=Str.ofString "" ↔ w.length=0:=by
 constructor
 ·rintro rfl;decide +kernel
 ·intro h;have e:w.cps=#[]:=Array.eq_empty_of_size_eq_zero h;have e2:(Str.ofString "").cps=#[]:=by decide +kernel
  cases w;cases h2:Str.ofString "";rw [h2] at e2;simp only at e e2;rw [e,e2]
noncomputable def inL (sg:Str) (c:Nat):Bool:=!(Builtin.Str.occurrences sg (Rv c) 0 sg.length 1).isEmpty
theorem Hw (sg:Str) (c:Nat):inL sg c=decide (c ∈ sg.cps.toList):=StrLaws.found_one sg c
noncomputable def made (w sg:Str) (m:Int):Bool:=if w=Str.ofString "" then false else if m < (w.length:Int) then false else w.cps.toList.all (inL sg)
noncomputable def Qp:Sp:=fun vs H Q _=>∃ w sg m,vs=[.str w,.str sg,.int m]∧w.length ≤ 1000∧NoT H∧Q (.bl (made w sg m)) H
noncomputable def zH:Sp:=fun vs H Q _=>∃ w sg m,vs=[.str w,.str sg,.int m]∧w.length ≤ 1000∧∀ H',Tb H H'→Q (.bl (made w sg m)) H'
section
variable {P:Program} {w:World} {K:PySem.W.Frag} {mg:Str→Option Value} {base:Heap} {t:Adr}
theorem wC (T:Txt w K mg t):Rb P w K mg base CX0 1 t.fg t.bg q13 Qp:=by
 refine Rb.forget (sp:=zH) ?_ fun vs H Q E h=>?_
 ·refine T.yh.ok ku (fun vs H Q E h=>?_) (fun _ _ _ s H vs Q E hr h=>?_)
  ·obtain ⟨w,sg,m,rfl,_⟩:=h;rfl
  obtain ⟨w,sg,m,rfl,hz,q⟩:=h;have hz':w.length ≤ sizeLine:=Nat.le_trans hz (by decide);refine ⟨_,(fb (jd (PW.pt (bE (Qb gg (pv 0) xc (cc _)) (uv (Qb yo (qc Gv rfl T.Uh ic (ab (pv 0) ib)) (pv 2) (cc _))))) (lb (Gb Qj)) Sb)
   (lb (Gb (qc (mG rfl) rfl T.RN bB (ab (Og rfl (eM (pv 0)) (Dc (sc:=ub xk) rfl (by decide +kernel)) (N:=["sign","signs"]) (sel:=[none,some 1]) (Wc (M:=q13) (by decide +kernel)) (Blk.of (fun _ _ _ _=>(Eb (i:=0) (eh (N:=["sign","signs"]) (by decide +kernel) rfl))) (fun _ _ _ _=>⟨_,gf,by walk_at "B"⟩) (fun _ _ _ _=>⟨_,(Sf jF (pv 0) (pv 1) (by with_unfolding_all rfl)),by walk_at "B"⟩))) ib))))),?_⟩
  walk_at "RD";refine Mb (decide (w=Str.ofString "") || decide (m < (w.length:Int))) (fun Q hQ=>?_) (fun hb=>?_) (fun hb=>?_)
  ·walk_at "RD";by_cases c:w=Str.ofString ""
   ·rw [if_pos (decide_eq_true c)];rw [decide_eq_true c,Bool.true_or] at hQ;exact hQ
   ·rw [if_neg (by simpa using c)];rw [decide_eq_false c,Bool.false_or] at hQ;exact ⟨hz',hQ⟩
  ·walk_at "RD";have e:made w sg m=false:=by
    unfold made;simp only [Bool.or_eq_true,decide_eq_true_eq] at hb;by_cases c:w=Str.ofString ""
    ·rw [if_pos c]
    ·rw [if_neg c,if_pos (hb.resolve_left c)]
   have:=q H (Tb.refl H);rw [e] at this;exact this
  ·walk_at "RD";have e:made w sg m=w.cps.toList.all (inL sg):=by
    unfold made;simp only [Bool.or_eq_false_iff,decide_eq_false_iff_not] at hb;rw [if_neg hb.1,if_neg hb.2]
   refine ad.its_map (fun x=>match x with | .str y=>.bl (!(Builtin.Str.occurrences sg y 0 sg.length 1).isEmpty) | _=>.non) (by rw [Bm];exact hz') (fun i x N hx hN=>?_) (fun p hp=>?_)
   ·unfold vj at hx;rw [List.getElem?_map] at hx;cases hc:w.cps.toList[i]? with
    | none=>rw [hc] at hx;cases hx
    | some c=>
     rw [hc] at hx;have hx':V.str (Rv c)=x:=Option.some.inj hx;subst hx';walk_at "RD";exact ⟨Sub.name,hN⟩
   ·refine ⟨p,rfl,w.cps.toList.map (inL sg),SqL.of ?_,?_⟩
    ·rw [gb];unfold vj;rw [List.map_map,List.map_map];rfl
    ·have:=q (upd H p (.lst (List.map (fun x=>match x with | .str y=>.bl (!(Builtin.Str.occurrences sg y 0 sg.length 1).isEmpty) | _=>.non) (vj w)))) (db hp);rw [e] at this;rw [List.all_map];exact this
 ·obtain ⟨w,sg,m,e,hz,nt,q⟩:=h;exact ⟨nt,w,sg,m,e,hz,fun H' sm=>⟨sm,q⟩⟩
end
noncomputable abbrev BJ:Str:=Str.ofString "0123456789"
noncomputable def Go (c:Nat):Bool:=decide (48 ≤ c∧c ≤ 57)
theorem QG (c:Nat):inL BJ c=Go c:=by
 rw [Hw,show BJ.cps.toList=List.range' 48 10 by decide +kernel];unfold Go;refine decide_eq_decide.mpr ?_;rw [List.mem_range'_1];exact and_congr_right fun _=>show c < 58↔c ≤ 57 from Nat.lt_succ_iff
noncomputable abbrev cs (w:Str):List Nat:=w.cps.toList
theorem zE (w:Str):(cs w).length=w.length:=by simp [cs,Str.length]
noncomputable def okB (w:Str):Bool:=decide (1 ≤ (cs w).length) && decide ((cs w).length ≤ 3) && (cs w).all Go && (decide ((cs w).length ≤ 1) || decide ((cs w).headD 0 ≠ 48))
noncomputable abbrev val (w:Str):Int:=((NumText.digitsVal (cs w):Nat):Int)
noncomputable def RF (w:Str) (lo hi:Int):V:=if okB w && !(decide (val w < lo) || decide (hi < val w)) then .int (val w) else .non
theorem VB {w:Str} {c:Nat}:w=⟨#[c]⟩↔cs w=[c]:=by
 constructor
 ·rintro rfl;rfl
 ·intro h;cases w with
  | mk a=>
   have e:a=#[c]:=Array.toList_inj.mp h;rw [e]
theorem kx:Str.ofString "0"=⟨#[48]⟩:=by decide +kernel
theorem qv (w:Str):made w BJ 3=(decide (1 ≤ (cs w).length) && decide ((cs w).length ≤ 3) && (cs w).all Go):=by
 unfold made;have e:(inL BJ)=Go:=funext QG;rw [e];by_cases h1:w=Str.ofString ""
 ·have h2:=lN.mp h1;rw [if_pos h1,zE,h2];rfl
 ·have h2:¬ w.length=0:=fun z=>h1 (lN.mpr z)
  rw [if_neg h1,zE];by_cases h3:(3:Int) < (w.length:Int)
  ·rw [if_pos h3,decide_eq_false (show ¬ w.length ≤ 3 by omega),Bool.and_false,Bool.false_and]
  ·rw [if_neg h3,decide_eq_true (show 1 ≤ w.length by omega),decide_eq_true (show w.length ≤ 3 by omega)];rfl
theorem Cu {l:List Nat} (h:l.all Go=true):NumText.AllDigits l:=fun c hc=>by
 have:=List.all_eq_true.mp h c hc;simpa [Go] using this
theorem iM {w:Str} (h:okB w=true):(1 ≤ (cs w).length∧(cs w).length ≤ 3)∧(cs w).all Go=true:=by
 unfold okB at h;simp only [Bool.and_eq_true,decide_eq_true_eq] at h;exact h.1
noncomputable def SB:Sp:=fun vs H Q _=>∃ w,vs=[.str w,.int 3]∧w.length ≤ 1000∧NoT H∧Q (.bl (okB w)) H
noncomputable def MI:Sp:=fun vs H Q _=>∃ w lo hi,vs=[.str w,.int lo,.int hi]∧w.length ≤ 1000∧NoT H∧Q (RF w lo hi) H
section
variable {P:Program} {w:World} {K:PySem.W.Frag} {mg:Str→Option Value} {base:Heap} {t:Adr}
theorem xM (T:Txt w K mg t):Rb P w K mg base CX0 2 t.Hi t.Ei q26 SB:=by
 have g20:Rb P w K mg base CX0 1 t.fg t.bg q13 Qp:=wC T;refine T.Xl.ok Mv (fun vs H Q E h=>?_) (fun _ _ _ s H vs Q E hr h=>?_)
 ·obtain ⟨w,rfl,_⟩:=h;rfl
 obtain ⟨w,rfl,hz,nt,q⟩:=h;have hz':w.length ≤ sizeLine:=Nat.le_trans hz (by decide);refine ⟨_,(fb (jd (Mq (ol (qb g20 hr T.Vn T.yh.kp T.ao (ab (pv 0) (ab (Mh rfl T.DD T.YD) (ab (pv 1) ib)))))) (lb (Gb Qj)) Sb)
   (lb (Gb (CK (Sf gg (pv 0) xc (cc _)) (fw (Sf EG (Kb uF (pv 0) jb) xc (cc _))))))),?_⟩
 refine Mb (!made w BJ 3) (fun Q hQ=>?_) (fun hb=>?_) (fun hb=>?_)
 ·(walk_at "RD"; repeat (dsimp only [Qp];walk_at "RD"));exact ⟨hz,nt,hQ⟩
 ·walk_at "RD";have e:okB w=false:=by
   have hb':made w BJ 3=false:=by simpa using hb
   rw [qv] at hb';unfold okB;rw [hb'];rfl
  rw [e] at q;exact q
 ·have hb':made w BJ 3=true:=by simpa using hb
  rw [qv] at hb';rw [bc];dsimp only;refine tJ (.bl (okB w)) (fun Q hQ=>?_) ?_
  case refine_2=>exact q
  walk_at "RD";have hb2:(1 ≤ (cs w).length∧(cs w).length ≤ 3)∧(cs w).all Go=true:=by
   simpa only [Bool.and_eq_true,decide_eq_true_eq] using hb'
  obtain ⟨c,r,hcr⟩:∃ c r,cs w=c :: r:=by
   cases h:cs w with
   | nil=>rw [h] at hb2;exact absurd hb2.1.1 (by decide)
   | cons c r=>exact ⟨c,r,rfl⟩
  have ok:okB w=(decide ((cs w).length ≤ 1) || decide ((cs w).headD 0 ≠ 48)):=by
   unfold okB;rw [hb',Bool.true_and]
  by_cases c0:w=Str.ofString "0"
  ·rw [if_pos (decide_eq_true c0)];have e:cs w=[48]:=by rw [c0,kx]
   rw [ok,e] at hQ;exact hQ
  ·rw [if_neg (by simpa using c0)];refine ⟨hz',c,?_,?_⟩
   ·have:=Cb (xs:=cs w) (j:=0) (v:=c) (by rw [hcr];rfl);exact this
   ·have e2:decide ((⟨#[c]⟩:Str)=Str.ofString "0")=decide (c=48):=by
     rw [kx];by_cases h48:c=48
     ·rw [h48];simp
     ·rw [decide_eq_false h48,decide_eq_false];intro z;have z2:=VB.mp z;exact h48 (List.cons.inj z2).1
    rw [e2];have e3:okB w = !decide (c=48):=by
     rw [ok,hcr];show (decide ((c :: r).length ≤ 1) || decide (c ≠ 48))=_;by_cases h48:c=48
     ·have hr:r ≠ []:=fun z=>c0 (by rw [kx];exact VB.mpr (by rw [hcr,z,h48]))
      have:¬ (c :: r).length ≤ 1:=by
       cases r with
       | nil=>exact absurd rfl hr
       | cons d r=>simp
      rw [decide_eq_false this,h48];rfl
     ·rw [decide_eq_true h48,Bool.or_true,decide_eq_false h48];rfl
    rw [← e3];exact hQ
theorem SM (T:Txt w K mg t):Rb P w K mg base CX0 3 t.Tm t.zm q33 MI:=by
 have g28:Rb P w K mg base CX0 2 t.Hi t.Ei q26 SB:=xM T;refine T.Fq.ok Nr (fun vs H Q E h=>?_) (fun _ _ _ s H vs Q E hr h=>?_)
 ·obtain ⟨w,lo,hi,rfl,_⟩:=h;rfl
 obtain ⟨w,lo,hi,rfl,hz,nt,q⟩:=h;refine ⟨_,(fb (jd (Mq (ol (qb g28 hr T.Yw T.Xl.kp T.Ww (ab (pv 0) (ab (Mh rfl T.Pq T.Ar) ib))))) (lb (Gb Jh)) Sb)
   (fb (wb (i:=3) Nr.nd (af wF rfl T.QN DB (ab (pv 0) ib)))
   (fb (jd (PW.pt (bE (Qb ix (pv 3) (pv 1) (cc _)) (uv (Qb yo (pv 3) (pv 2) (cc _))))) (lb (Gb Jh)) Sb)
   (lb (Gb (pv 3)))))),?_⟩
 refine Mb (!okB w) (fun Q hQ=>?_) (fun hb=>?_) (fun hb=>?_)
 ·(walk_at "RD"; repeat (dsimp only [SB];walk_at "RD"));exact ⟨hz,nt,hQ⟩
 ·walk_at "RD";have hb':okB w=false:=by simpa using hb
  have e:RF w lo hi=.non:=by unfold RF;rw [hb'];rfl
  rw [e] at q;exact q
 ·have hb':okB w=true:=by simpa using hb
  have h3:(1 ≤ (cs w).length∧(cs w).length ≤ 3)∧(cs w).all Go=true:=by
   have:=hb';unfold okB at this;simp only [Bool.and_eq_true,decide_eq_true_eq] at this;exact this.1
  have hl:=zE w;have hi':intText? w=some (val w):=intText_digits (Cu h3.2) (fun z=>by have z':cs w=[]:=z;rw [z'] at h3;exact absurd h3.1.1 (by decide)) (by omega);walk_at "RD";refine ⟨val w,hi',by omega,?_⟩;refine Mb (decide (val w < lo) || decide (hi < val w)) (fun Q hQ=>?_) (fun hc=>?_) (fun hc=>?_)
  ·walk_at "RD";by_cases c:val w < lo
   ·rw [if_pos (decide_eq_true c)];rw [decide_eq_true c,Bool.true_or] at hQ;exact hQ
   ·rw [if_neg (by simpa using c)];rw [decide_eq_false c,Bool.false_or] at hQ;exact hQ
  ·walk_at "RD";have e:RF w lo hi=.non:=by unfold RF;rw [hb',hc];rfl
   rw [e] at q;exact q
  ·walk_at "RD";have e:RF w lo hi=.int (val w):=by unfold RF;rw [hb',hc];rfl
   rw [e] at q;exact q
end
theorem kq {n:Nat} (h:n < 1000):n.log2 < 1920:=by
 by_cases h0:n=0
 ·subst h0;decide
 ·rw [Nat.log2_lt h0];exact Nat.lt_of_lt_of_le h (Nat.le_trans (show 1000 ≤ 2 ^ 10 by decide) (Nat.pow_le_pow_right (by decide) (by decide)))
theorem vG:∀ n,n < 1000→(Nat.toDigits 10 n).length ≤ 3:=by decide +kernel
theorem AJ {n:Int} (h0:0 ≤ n) (h1:n ≤ 999):(Str.ofString (toString n)).length ≤ 3:=by
 have e:=PySem.W.KIN.signs_num n.toNat;rw [Int.toNat_of_nonneg h0] at e;have l:(Str.ofString (toString n)).length=(Str.ofString (toString n)).cps.toList.length:=by simp [Str.length]
 rw [l,e,List.length_map];exact vG _ (by omega)
noncomputable abbrev Nh:Str:=Str.ofString "abcdefghijklmnopqrstuvwxyz"
noncomputable def kF:Sp:=fun vs H Q _=>∃ w,vs=[.str w]∧w.length ≤ 1000∧NoT H∧Q (.bl (made w Nh 8)) H
section
variable {P:Program} {w:World} {K:PySem.W.Frag} {mg:Str→Option Value} {base:Heap} {t:Adr}
theorem FJ (T:Txt w K mg t):Rb P w K mg base CX0 2 t.bn t.Rm ["word"] kF:=by
 have g20:Rb P w K mg base CX0 1 t.fg t.bg q13 Qp:=wC T;refine T.vq.ok pB (fun vs H Q E h=>?_) (fun _ _ _ s H vs Q E hr h=>?_)
 ·obtain ⟨w,rfl,_⟩:=h;rfl
 obtain ⟨w,rfl,hz,nt,q⟩:=h;refine ⟨_,(lb (Gb (qb g20 hr T.Vn T.yh.kp T.ao (ab (pv 0) (ab (Mh rfl T.yC T.QD) (ab (Mh rfl T.Oq T.zr) ib)))))),?_⟩;(walk_at "RD"; repeat (dsimp only [Qp];walk_at "RD"));exact ⟨hz,nt,q⟩
end
noncomputable abbrev nl:Str:=Str.ofString "\n"
noncomputable abbrev bk:Str:=Str.ofString " "
theorem DN:nl=⟨#[10]⟩:=by decide +kernel
theorem pL:bk=⟨#[32]⟩:=by decide +kernel
noncomputable def zj (x:Str):List (List Str):=(Txt.split x nl).map fun r=>Txt.split r bk
theorem js:∀ {ys:List Str} {y:Str},y ∈ ys→y.length ≤ (ys.map (·.length)).sum
 | [],_,h=>nomatch h
 | a :: r,y,h=>by
  rw [List.map_cons,List.sum_cons];rcases List.mem_cons.mp h with rfl | h
  ·omega
  ·have:=js h;omega
theorem gJ {x y r:Str} (hy:1 ≤ y.length) (h:r ∈ Txt.split x y):r.length ≤ x.length + 1:=by
 have h1:=PyProof.Rows.split_weight x y hy;have h2:=js h;omega
theorem Gp {x y:Str} (hy:1 ≤ y.length):(Txt.split x y).length ≤ x.length + 1:=by
 have h1:=PyProof.Rows.split_weight x y hy;omega
theorem qH (x y:Str):Txt.split x y ≠ []:=by
 unfold Txt.split;split
 ·simp
 ·split
  ·simp
  ·rw [StrLaws.partsBetween_eq];obtain ⟨p,r,e⟩:=StrLaws.partsFrom_ne x y.length 0 (Builtin.Str.occurrences x y 0 x.length (x.length + 1));rw [e];simp
noncomputable def LL (H0 H:Hp) (p:Addr) (rows:List (List Str)):Prop:=∃ qs:List Addr,H p=some (.lst (qs.map V.ref))∧H0 p=none∧p ∉ qs∧qs.length=rows.length∧∀ (i:Nat) (q:Addr) (r:List Str),qs[i]? = some q→rows[i]? = some r→H q=some (.lst (Nc r))∧H0 q=none
noncomputable def Vy:Sp:=fun vs H Q _=>∃ x,vs=[.str x]∧x.length ≤ 20000∧NoT H∧∀ p H',Tb H H'→NoT H'→LL H H' p (zj x)→Q (.ref p) H'
theorem Ly:nl.length=1:=by decide +kernel
theorem Tx:bk.length=1:=by decide +kernel
section
variable {P:Program} {w:World} {K:PySem.W.Frag} {mg:Str→Option Value} {base:Heap} {t:Adr}
theorem jH (T:Txt w K mg t):Rb P w K mg base CX0 1 t.vt t.Kt ["text"] Vy:=by
 refine T.yw.ok tG (fun vs H Q E h=>?_) (fun _ _ _ s H vs Q E hr h=>?_)
 ·obtain ⟨x,rfl,_⟩:=h;rfl
 obtain ⟨x,rfl,hz,nt,q⟩:=h;have hzz:∀ n:Nat,n ≤ 40000→n ≤ sizeLine:=fun n h=>Nat.le_trans h (by decide)
 refine ⟨_,(lb (Gb (Og rfl (Of (uo PySem.F.plainAttrs_str PySem.F.slot_str_split PySem.F.type_str_split yz (pv 0) (ab xc ib))) (Dc (sc:=ub Dw) rfl (by decide +kernel)) (N:=["row"]) (sel:=[none]) (Wc (M:=["text"]) (by decide +kernel)) (Blk.of (fun _ _ _ _=>(Eb (i:=0) (eh (N:=["row"]) (by decide +kernel) rfl))) (fun _ _ _ _=>⟨_,gf,by walk_at "B"⟩) (fun _ _ _ _=>⟨_,(uo PySem.F.plainAttrs_str PySem.F.slot_str_split PySem.F.type_str_split yz (pv 0) (ab xc ib)),by walk_at "B"⟩))))),?_⟩;walk_at "RD";have hy:1 ≤ nl.length:=by rw [Ly];exact Nat.le_refl _
 have hy2:1 ≤ bk.length:=by rw [Tx];exact Nat.le_refl _
 have hs:=Gp (x:=x) hy;have hs':(Nc (Txt.split x nl)).length ≤ sizeLine:=by unfold Nc;rw [List.length_map];exact hzz _ (by omega)
 refine ⟨by rw [Ly];decide,hzz _ (by omega),hzz _ (show (Txt.split x nl).length ≤ 40000 by omega),fun p hp=>⟨⟨_,SqL.of gb⟩,?_⟩⟩;refine ad.list_mk (xs:=Nc (Txt.split x nl)) (fun v=>match v with | .str r=>.lst (Nc (Txt.split r bk)) | _=>.lst []) (SqL.of gb) hs' (fun v=>by cases v <;> rfl) (fun i v H1 N hx sm nt1 hN=>?_) (fun qs H1 sm nt1 hl al p2 hp2=>?_)
 ·unfold Nc at hx;rw [List.getElem?_map] at hx;cases hr:(Txt.split x nl)[i]? with
  | none=>rw [hr] at hx;cases hx
  | some r=>
   rw [hr] at hx;have e:=Option.some.inj hx;subst e;have hm:=gJ hy (List.mem_of_getElem? hr);have hs2:=Gp (x:=r) hy2;walk_at "RD";exact ⟨Sub.name,by rw [Tx];decide,hzz _ (by omega),hzz _ (show (Txt.split r bk).length ≤ 40000 by omega),hN⟩
 ·have sm0:Tb H H1:=(db hp).trans sm;refine q _ _ (sm0.updN (sm0.free hp2)) ((nt1 (nt.upd)).upd) ⟨qs,gb,sm0.free hp2,fun hm=>?_,?_,fun i q' r h1 h2=>?_⟩
  ·obtain ⟨j,hj,e⟩:=List.getElem_of_mem hm;have hj2:j < (Nc (Txt.split x nl)).length:=by omega
   have:=al j p2 _ (by rw [List.getElem?_eq_getElem hj,e]) (List.getElem?_eq_getElem hj2);rw [hp2] at this;cases this.1
  ·rw [hl];unfold zj Nc;rw [List.length_map,List.length_map]
  ·unfold zj at h2;rw [List.getElem?_map] at h2;cases hr:(Txt.split x nl)[i]? with
   | none=>rw [hr] at h2;cases h2
   | some r0=>
    rw [hr] at h2;have e:=Option.some.inj h2;subst e;have z:=al i q' (.str r0) h1 (by unfold Nc;rw [List.getElem?_map,hr];rfl);refine ⟨by rw [Db (Jb z.1 hp2)];exact z.1,?_⟩;have:=z.2;by_cases hq:q'=p
    ·rw [hq];exact hp
    ·rwa [Db hq] at this
end
end My
namespace My
open PySem L2
structure WD where
 k:Nat
 name:Str
 start:Int
 fin:Int
 off:Int
 near:Int
 least:Int
noncomputable def se:Nat→Str
 | 0=>Str.ofString "car"
 | 1=>Str.ofString "foot"
 | _=>Str.ofString "tram"
noncomputable def Adr.cw (t:Adr):Nat→Addr
 | 0=>t.Yc
 | 1=>t.Cc
 | _=>t.Bc
noncomputable def Vq (d:WD):List (Str × V):=[(Str.ofString "kind",.str (se d.k)),(Str.ofString "name",.str d.name),(Str.ofString "start",.int d.start),(Str.ofString "end",.int d.fin),(Str.ofString "off",.int d.off),(Str.ofString "near",.int d.near),(Str.ofString "least",.int d.least)]
noncomputable abbrev Zq:List Str:=[Str.ofString "kind",Str.ofString "name",Str.ofString "start",Str.ofString "end",Str.ofString "off",Str.ofString "near",Str.ofString "least"]
theorem Pr (d:WD):(Vq d).map (·.1)=Zq:=rfl
noncomputable def Me (t:Adr) (H:Hp) (p:Addr) (d:WD):Prop:=d.k < 3∧∃ dx,H p=some (.ins (t.cw d.k) dx (Vq d))
theorem Me.same {t:Adr} {H H':Hp} {p:Addr} {d:WD} (h:Me t H p d) (s:Tb H H'):Me t H' p d:=⟨h.1,h.2.imp fun dx e=>s _ _ e⟩
noncomputable def isW (t:Adr) (C:Addr):Prop:=∃ k,k < 3∧C=t.cw k
noncomputable def Zh (d:WD):Int:=match d.k with | 0=>1 | 1=>0 | _=>2
noncomputable def On (d:WD):Int:=match d.k with | 0=>2 | 1=>d.off | _=>1
section
variable {w:World} {K:PySem.W.Frag} {mg:Str→Option Value} {t:Adr}
theorem Txt.clw (T:Txt w K mg t):∀ k,Cls K (t.cw k)
 | 0=>T.qp
 | 1=>T.yn
 | _ + 2=>T.An
theorem Txt.naw (T:Txt w K mg t) {f:Str} (hf:f ∈ Zq):∀ k,kc K (t.cw k) f:=by
 intro k;simp only [Zq,List.mem_cons,List.not_mem_nil,or_false] at hf;rcases hf with rfl | rfl | rfl | rfl | rfl | rfl | rfl
 ·match k with
  | 0=>exact T.ir
  | 1=>exact T.Ip
  | _ + 2=>exact T.Kq
 ·match k with
  | 0=>exact T.Br
  | 1=>exact T.Uo
  | _ + 2=>exact T.cq
 ·match k with
  | 0=>exact T.Hq
  | 1=>exact T.Io
  | _ + 2=>exact T.Bo
 ·match k with
  | 0=>exact T.fu
  | 1=>exact T.mr
  | _ + 2=>exact T.Yq
 ·match k with
  | 0=>exact T.Rt
  | 1=>exact T.ur
  | _ + 2=>exact T.Qq
 ·match k with
  | 0=>exact T.xr
  | 1=>exact T.aq
  | _ + 2=>exact T.Gq
 ·match k with
  | 0=>exact T.Xp
  | 1=>exact T.xo
  | _ + 2=>exact T.oo
theorem Txt.cw_inj (T:Txt w K mg t) {j k:Nat} (hj:j < 3) (hk:k < 3) (e:t.cw j=t.cw k):j=k:=by
 match j,k,hj,hk with
 | 0,0,_,_=>rfl
 | 0,1,_,_=>exact absurd e T.Bi
 | 0,2,_,_=>exact absurd e T.ji
 | 1,0,_,_=>exact absurd e.symm T.Bi
 | 1,1,_,_=>rfl
 | 1,2,_,_=>exact absurd e T.rh
 | 2,0,_,_=>exact absurd e.symm T.ji
 | 2,1,_,_=>exact absurd e.symm T.rh
 | 2,2,_,_=>rfl
 | j + 3,_,h,_=>omega
 | _,k + 3,_,h=>omega
theorem Me.fld (T:Txt w K mg t) {H:Hp} {p:Addr} {d:WD} (h:Me t H p d) {f:Str} {v:V} (i:Nat) (hi:Zq.findIdx? (· == f)=some i) (hv:(Vq d)[i]? = some (f,v)):el K H p f v:=by
 obtain ⟨_,dx,e⟩:=h;have hm:f ∈ Zq:=by
  obtain ⟨hlt,h1,_⟩:=List.findIdx?_eq_some_iff_getElem.mp hi;have:Zq[i]=f:=by simpa using h1
  rw [← this];exact List.getElem_mem hlt
 exact ⟨_,dx,_,e,T.clw _,T.naw hm _,Be Zq i (Pr d) hi hv⟩
theorem Me.f_name (T:Txt w K mg t) {H:Hp} {p:Addr} {d:WD} (h:Me t H p d):el K H p (Str.ofString "name") (.str d.name):=h.fld T 1 (by decide +kernel) rfl
theorem Me.f_start (T:Txt w K mg t) {H:Hp} {p:Addr} {d:WD} (h:Me t H p d):el K H p (Str.ofString "start") (.int d.start):=h.fld T 2 (by decide +kernel) rfl
theorem Me.f_end (T:Txt w K mg t) {H:Hp} {p:Addr} {d:WD} (h:Me t H p d):el K H p (Str.ofString "end") (.int d.fin):=h.fld T 3 (by decide +kernel) rfl
theorem Me.f_off (T:Txt w K mg t) {H:Hp} {p:Addr} {d:WD} (h:Me t H p d):el K H p (Str.ofString "off") (.int d.off):=h.fld T 4 (by decide +kernel) rfl
theorem Me.f_near (T:Txt w K mg t) {H:Hp} {p:Addr} {d:WD} (h:Me t H p d):el K H p (Str.ofString "near") (.int d.near):=h.fld T 5 (by decide +kernel) rfl
end
noncomputable def xu (t:Adr):Sp:=fun vs H Q _=>∃ (p dx:Addr) (d:WD),vs=[.ref p,.str (se d.k),.str d.name,.int d.start,.int d.fin,.int d.off,.int d.near,.int d.least]∧d.k < 3∧H p=some (.ins (t.cw d.k) dx [])∧Q .non (upd H p (.ins (t.cw d.k) dx (Vq d)))
noncomputable def Pk (t:Adr) (k:Nat):Sp:=fun vs H Q _=>∃ (p dx:Addr) (d:WD),vs=[.ref p,.str d.name,.int d.start,.int d.fin,.int d.off,.int d.near,.int d.least]∧d.k=k∧H p=some (.ins (t.cw d.k) dx [])∧Q .non (upd H p (.ins (t.cw d.k) dx (Vq d)))
section
variable {P:Program} {w:World} {K:PySem.W.Frag} {mg:Str→Option Value} {base:Heap} {t:Adr}
theorem Mx (T:Txt w K mg t):Rb P w K mg base CX0 1 t.Nf t.Jg q16 (xu t):=by
 refine T.Ms.ok jq (fun vs H Q E h=>?_) (fun _ _ _ s H vs Q E hr h=>?_)
 ·obtain ⟨p,dx,d,rfl,_⟩:=h;rfl
 obtain ⟨p,dx,d,rfl,hk,hp,q⟩:=h;refine ⟨_,(fb (ug (pv 0) (pv 1) rfl)
   (fb (ug (pv 0) (pv 2) rfl)
   (fb (ug (pv 0) (pv 3) rfl)
   (fb (ug (pv 0) (pv 4) rfl)
   (fb (ug (pv 0) (pv 5) rfl)
   (fb (ug (pv 0) (pv 6) rfl)
   (lb (ug (pv 0) (pv 7) rfl)))))))),?_⟩
 walk_at "RD";have na:∀ {f:Str},f ∈ Zq→kc K (t.cw d.k) f:=fun hf=>T.naw hf d.k
 refine ⟨_,_,_,hp,T.clw _,na (by decide +kernel),by decide,?_⟩;refine ⟨_,_,_,gb,T.clw _,na (by decide +kernel),zo (n:=999) (by decide),?_⟩;refine ⟨_,_,_,gb,T.clw _,na (by decide +kernel),zo (n:=999) (zo (n:=998) (by decide)),?_⟩;refine ⟨_,_,_,gb,T.clw _,na (by decide +kernel),zo (n:=999) (zo (n:=998) (zo (n:=997) (by decide))),?_⟩;refine ⟨_,_,_,gb,T.clw _,na (by decide +kernel),zo (n:=999) (zo (n:=998) (zo (n:=997) (zo (n:=996) (by decide)))),?_⟩;refine ⟨_,_,_,gb,T.clw _,na (by decide +kernel),zo (n:=999) (zo (n:=998) (zo (n:=997) (zo (n:=996) (zo (n:=995) (by decide))))),?_⟩;refine ⟨_,_,_,gb,T.clw _,na (by decide +kernel),zo (n:=999) (zo (n:=998) (zo (n:=997) (zo (n:=996) (zo (n:=995) (zo (n:=994) (by decide)))))),?_⟩;simp only [em];rw [show Gi (Str.ofString "kind") (V.str (se d.k)) ([]:List (Str × V))=[(Str.ofString "kind",V.str (se d.k))] from Yd [] rfl (by decide +kernel),
  show Gi (Str.ofString "name") (V.str d.name) ([(Str.ofString "kind",V.str (se d.k))]:List (Str × V))=[(Str.ofString "kind",V.str (se d.k)),(Str.ofString "name",V.str d.name)] from Yd [Str.ofString "kind"] rfl (by decide +kernel),
  show Gi (Str.ofString "start") (V.int d.start) ([(Str.ofString "kind",V.str (se d.k)),(Str.ofString "name",V.str d.name)]:List (Str × V))=[(Str.ofString "kind",V.str (se d.k)),(Str.ofString "name",V.str d.name),(Str.ofString "start",V.int d.start)] from Yd [Str.ofString "kind",Str.ofString "name"] rfl (by decide +kernel),
  show Gi (Str.ofString "end") (V.int d.fin) ([(Str.ofString "kind",V.str (se d.k)),(Str.ofString "name",V.str d.name),(Str.ofString "start",V.int d.start)]:List (Str × V))=[(Str.ofString "kind",V.str (se d.k)),(Str.ofString "name",V.str d.name),(Str.ofString "start",V.int d.start),(Str.ofString "end",V.int d.fin)] from Yd [Str.ofString "kind",Str.ofString "name",Str.ofString "start"] rfl (by decide +kernel),
  show Gi (Str.ofString "off") (V.int d.off) ([(Str.ofString "kind",V.str (se d.k)),(Str.ofString "name",V.str d.name),(Str.ofString "start",V.int d.start),(Str.ofString "end",V.int d.fin)]:List (Str × V))=[(Str.ofString "kind",V.str (se d.k)),(Str.ofString "name",V.str d.name),(Str.ofString "start",V.int d.start),(Str.ofString "end",V.int d.fin),(Str.ofString "off",V.int d.off)] from Yd [Str.ofString "kind",Str.ofString "name",Str.ofString "start",Str.ofString "end"] rfl (by decide +kernel),
  show Gi (Str.ofString "near") (V.int d.near) ([(Str.ofString "kind",V.str (se d.k)),(Str.ofString "name",V.str d.name),(Str.ofString "start",V.int d.start),(Str.ofString "end",V.int d.fin),(Str.ofString "off",V.int d.off)]:List (Str × V))=[(Str.ofString "kind",V.str (se d.k)),(Str.ofString "name",V.str d.name),(Str.ofString "start",V.int d.start),(Str.ofString "end",V.int d.fin),(Str.ofString "off",V.int d.off),(Str.ofString "near",V.int d.near)] from Yd [Str.ofString "kind",Str.ofString "name",Str.ofString "start",Str.ofString "end",Str.ofString "off"] rfl (by decide +kernel),
  show Gi (Str.ofString "least") (V.int d.least) ([(Str.ofString "kind",V.str (se d.k)),(Str.ofString "name",V.str d.name),(Str.ofString "start",V.int d.start),(Str.ofString "end",V.int d.fin),(Str.ofString "off",V.int d.off),(Str.ofString "near",V.int d.near)]:List (Str × V))=[(Str.ofString "kind",V.str (se d.k)),(Str.ofString "name",V.str d.name),(Str.ofString "start",V.int d.start),(Str.ofString "end",V.int d.fin),(Str.ofString "off",V.int d.off),(Str.ofString "near",V.int d.near),(Str.ofString "least",V.int d.least)] from Yd [Str.ofString "kind",Str.ofString "name",Str.ofString "start",Str.ofString "end",Str.ofString "off",Str.ofString "near"] rfl (by decide +kernel)]
 exact q
theorem FK (T:Txt w K mg t):Rb P w K mg base CX0 2 t.Bf t.zg q5 (Pk t 0):=by
 have g11:Rb P w K mg base CX0 1 t.Nf t.Jg q16 (xu t):=Mx T;refine T.Wm.ok om (fun vs H Q E h=>?_) (fun _ _ _ s H vs Q E hr h=>?_)
 ·obtain ⟨p,dx,d,rfl,_⟩:=h;rfl
 obtain ⟨p,dx,d,rfl,hk,hp,q⟩:=h;refine ⟨_,(lb (we (lu rfl T.KJ T.Mn g11 hr T.Pn .nil fe (ab (pv 0) (ab xc (ab (pv 1) (ab (pv 2) (ab (pv 3) (ab (pv 4) (ab (pv 5) (ab (pv 6) ib))))))))))),?_⟩;walk_at "RD";exact ⟨p,dx,d,by rw [hk];rfl,by omega,hp,q⟩
theorem oH (T:Txt w K mg t):Rb P w K mg base CX0 2 t.bf t.Zf q5 (Pk t 1):=by
 have g11:Rb P w K mg base CX0 1 t.Nf t.Jg q16 (xu t):=Mx T;refine T.Nl.ok Sl (fun vs H Q E h=>?_) (fun _ _ _ s H vs Q E hr h=>?_)
 ·obtain ⟨p,dx,d,rfl,_⟩:=h;rfl
 obtain ⟨p,dx,d,rfl,hk,hp,q⟩:=h;refine ⟨_,(lb (we (lu rfl T.KJ T.Mn g11 hr T.Pn .nil fe (ab (pv 0) (ab xc (ab (pv 1) (ab (pv 2) (ab (pv 3) (ab (pv 4) (ab (pv 5) (ab (pv 6) ib))))))))))),?_⟩;walk_at "RD";exact ⟨p,dx,d,by rw [hk];rfl,by omega,hp,q⟩
theorem BH (T:Txt w K mg t):Rb P w K mg base CX0 2 t.cf t.Yf q5 (Pk t 2):=by
 have g11:Rb P w K mg base CX0 1 t.Nf t.Jg q16 (xu t):=Mx T;refine T.ml.ok Ql (fun vs H Q E h=>?_) (fun _ _ _ s H vs Q E hr h=>?_)
 ·obtain ⟨p,dx,d,rfl,_⟩:=h;rfl
 obtain ⟨p,dx,d,rfl,hk,hp,q⟩:=h;refine ⟨_,(lb (we (lu rfl T.KJ T.Mn g11 hr T.Pn .nil fe (ab (pv 0) (ab xc (ab (pv 1) (ab (pv 2) (ab (pv 3) (ab (pv 4) (ab (pv 5) (ab (pv 6) ib))))))))))),?_⟩;walk_at "RD";exact ⟨p,dx,d,by rw [hk];rfl,by omega,hp,q⟩
end
noncomputable def Wj (t:Adr) (C:Addr):Sp:=fun vs H Q _=>∃ p d,vs=[.ref p]∧Me t H p d∧C=t.cw d.k∧Q (.int (Zh d)) H
noncomputable def Dm (t:Adr) (C:Addr):Sp:=fun vs H Q _=>∃ p d,vs=[.ref p]∧Me t H p d∧C=t.cw d.k∧Q (.int (On d)) H
section
variable {P:Program} {w:World} {K:PySem.W.Frag} {mg:Str→Option Value} {base:Heap} {t:Adr}
theorem Dq (T:Txt w K mg t):Rb P w K mg base CX0 1 t.Tf t.Vh ["self"] (Wj t (t.cw 0)):=by
 refine T.Ml.ok jp (fun vs H Q E h=>?_) (fun _ _ _ s H vs Q E hr h=>?_)
 ·obtain ⟨p,d,rfl,_⟩:=h;rfl
 obtain ⟨p,d,rfl,W,hC,q⟩:=h;have hk:=(T.cw_inj (by decide) W.1 hC).symm;refine ⟨_,(lb (Gb jb)),?_⟩;rw [show Zh d=1 by unfold Zh;simp only [hk]] at q;walk_at "RD";exact q
theorem Ho (T:Txt w K mg t):Rb P w K mg base CX0 1 t.Jf t.Tg ["self"] (Wj t (t.cw 1)):=by
 refine T.Mj.ok Fo (fun vs H Q E h=>?_) (fun _ _ _ s H vs Q E hr h=>?_)
 ·obtain ⟨p,d,rfl,_⟩:=h;rfl
 obtain ⟨p,d,rfl,W,hC,q⟩:=h;have hk:=(T.cw_inj (by decide) W.1 hC).symm;refine ⟨_,(lb (Gb jb)),?_⟩;rw [show Zh d=0 by unfold Zh;simp only [hk]] at q;walk_at "RD";exact q
theorem Ao (T:Txt w K mg t):Rb P w K mg base CX0 1 t.Kf t.Kg ["self"] (Wj t (t.cw 2)):=by
 refine T.Ak.ok Do (fun vs H Q E h=>?_) (fun _ _ _ s H vs Q E hr h=>?_)
 ·obtain ⟨p,d,rfl,_⟩:=h;rfl
 obtain ⟨p,d,rfl,W,hC,q⟩:=h;have hk:=(T.cw_inj (by decide) W.1 hC).symm;refine ⟨_,(lb (Gb jb)),?_⟩;rw [show Zh d=2 by unfold Zh;simp only [hk]] at q;walk_at "RD";exact q
theorem kJ (T:Txt w K mg t):KK P w K mg base CX0 1 (isW t) "ready" ["self"] (Wj t):=by
 refine ⟨fun C hC=>?_⟩;obtain ⟨k,hk,rfl⟩:=hC
 match k,hk with
 | 0,_=>exact ⟨_,_,T.qp,T.lr,Dq T,T.gr⟩
 | 1,_=>exact ⟨_,_,T.yn,T.ip,Ho T,T.pq⟩
 | 2,_=>exact ⟨_,_,T.An,T.Up,Ao T,T.Zo⟩
theorem Wq (T:Txt w K mg t):Rb P w K mg base CX0 1 t.Cg t.Ii ["self"] (Dm t (t.cw 0)):=by
 refine T.Gm.ok Uq (fun vs H Q E h=>?_) (fun _ _ _ s H vs Q E hr h=>?_)
 ·obtain ⟨p,d,rfl,_⟩:=h;rfl
 obtain ⟨p,d,rfl,W,hC,q⟩:=h;have hk:=(T.cw_inj (by decide) W.1 hC).symm;refine ⟨_,(lb (Gb jb)),?_⟩;rw [show On d=2 by unfold On;simp only [hk]] at q;walk_at "RD";exact q
theorem Op (T:Txt w K mg t):Rb P w K mg base CX0 1 t.ag t.Ph ["self"] (Dm t (t.cw 1)):=by
 refine T.xl.ok Jp (fun vs H Q E h=>?_) (fun _ _ _ s H vs Q E hr h=>?_)
 ·obtain ⟨p,d,rfl,_⟩:=h;rfl
 obtain ⟨p,d,rfl,W,hC,q⟩:=h;have hk:=(T.cw_inj (by decide) W.1 hC).symm;refine ⟨_,(lb (Gb (fc (pv 0) rfl))),?_⟩;rw [show On d=d.off by unfold On;simp only [hk]] at q;walk_at "RD";exact ⟨_,W.f_off T,q⟩
theorem Rp (T:Txt w K mg t):Rb P w K mg base CX0 1 t.Uf t.Sh ["self"] (Dm t (t.cw 2)):=by
 refine T.Fl.ok Aq (fun vs H Q E h=>?_) (fun _ _ _ s H vs Q E hr h=>?_)
 ·obtain ⟨p,d,rfl,_⟩:=h;rfl
 obtain ⟨p,d,rfl,W,hC,q⟩:=h;have hk:=(T.cw_inj (by decide) W.1 hC).symm;refine ⟨_,(lb (Gb jb)),?_⟩;rw [show On d=1 by unfold On;simp only [hk]] at q;walk_at "RD";exact q
theorem PL (T:Txt w K mg t):KK P w K mg base CX0 1 (isW t) "fade" ["self"] (Dm t):=by
 refine ⟨fun C hC=>?_⟩;obtain ⟨k,hk,rfl⟩:=hC
 match k,hk with
 | 0,_=>exact ⟨_,_,T.qp,T.ou,Wq T,T.xt⟩
 | 1,_=>exact ⟨_,_,T.yn,T.Sq,Op T,T.Tq⟩
 | 2,_=>exact ⟨_,_,T.An,T.br,Rp T,T.kr⟩
end
noncomputable def jl (c:Nat):List (List Nat)→List Nat
 | []=>[]
 | [a]=>a
 | a :: b :: r=>a ++ c :: jl c (b :: r)
theorem aE {c:Nat}:∀ {a b X Y:List Nat},c ∉ a→c ∉ b→a ++ c :: X=b ++ c :: Y→a=b∧X=Y
 | [],[],X,Y,_,_,h=>⟨rfl,(List.cons.inj h).2⟩
 | [],d :: b,X,Y,_,hb,h=>absurd (List.cons.inj h).1 (fun z=>hb (by simp [← z]))
 | d :: a,[],X,Y,ha,_,h=>absurd (List.cons.inj h).1 (fun z=>ha (by simp [z]))
 | d :: a,e :: b,X,Y,ha,hb,h=>by
  obtain ⟨h1,h2⟩:=List.cons.inj h;obtain ⟨e1,e2⟩:=aE (fun z=>ha (List.mem_cons_of_mem _ z)) (fun z=>hb (List.mem_cons_of_mem _ z)) h2;exact ⟨by rw [h1,e1],e2⟩
theorem iI {c:Nat}:∀ {ps qs:List (List Nat)},(∀ p ∈ ps,c ∉ p)→(∀ q ∈ qs,c ∉ q)→ps ≠ []→qs ≠ []→jl c ps=jl c qs→ps=qs
 | [a],[b],_,_,_,_,h=>by rw [show a=b from h]
 | [a],b :: b' :: r,ha,_,_,_,h=>absurd (show c ∈ a by rw [show a=b ++ c :: jl c (b' :: r) from h];simp) (ha a (by simp))
 | a :: a' :: r,[b],_,hb,_,_,h=>absurd (show c ∈ b by rw [show b=a ++ c :: jl c (a' :: r) from h.symm];simp) (hb b (by simp))
 | a :: a' :: r,b :: b' :: s,ha,hb,_,_,h=>by
  obtain ⟨e1,e2⟩:=aE (ha a (by simp)) (hb b (by simp)) (show a ++ c :: jl c (a' :: r)=b ++ c :: jl c (b' :: s) from h);rw [e1,iI (fun p hp=>ha p (List.mem_cons_of_mem _ hp)) (fun q hq=>hb q (List.mem_cons_of_mem _ hq)) (by simp) (by simp) e2]
 | [],_,_,_,h,_,_=>absurd rfl h
 | _ :: _,[],_,_,_,h,_=>absurd rfl h
theorem VI {c d:Nat}:∀ {ps:List (List Nat)},d ∈ jl c ps→d=c∨∃ p ∈ ps,d ∈ p
 | [],h=>nomatch h
 | [a],h=>.inr ⟨a,by simp,h⟩
 | a :: b :: r,h=>by
  rcases List.mem_append.mp (show d ∈ a ++ c :: jl c (b :: r) from h) with h | h
  ·exact .inr ⟨a,by simp,h⟩
  ·rcases List.mem_cons.mp h with h | h
   ·exact .inl h
   ·rcases VI h with h | ⟨p,hp,h⟩
    ·exact .inl h
    ·exact .inr ⟨p,List.mem_cons_of_mem _ hp,h⟩
theorem tt (c:Nat):∀ ys:List Str,(Str.join ⟨#[c]⟩ ys).cps.toList=jl c (ys.map (·.cps.toList))
 | []=>rfl
 | [a]=>rfl
 | a :: b :: r=>by
  show (a ++ ⟨#[c]⟩ ++ Str.join ⟨#[c]⟩ (b :: r)).cps.toList=_;rw [Str.cps_append,Array.toList_append,Str.cps_append,Array.toList_append,tt c (b :: r)];simp [jl]
theorem gF {x y:Str} (h:x.cps.toList=y.cps.toList):x=y:=by
 cases x;cases y;exact congrArg Str.mk (Array.toList_inj.mp h)
theorem Sr {c:Nat} {ys:List Str} (hn:ys ≠ []) (hf:∀ y ∈ ys,c ∉ y.cps.toList):Txt.split (Str.join ⟨#[c]⟩ ys) ⟨#[c]⟩=ys:=by
 have e:=congrArg (·.cps.toList) (StrLaws.join_split (Str.join ⟨#[c]⟩ ys) ⟨#[c]⟩);simp only [tt] at e;have e2:=iI (c:=c) (ps:=(Txt.split (Str.join ⟨#[c]⟩ ys) ⟨#[c]⟩).map (·.cps.toList)) (qs:=ys.map (·.cps.toList)) (fun p hp=>by
  obtain ⟨y,hy,rfl⟩:=List.mem_map.mp hp;exact StrLaws.split_free _ c y hy) (fun p hp=>by
  obtain ⟨y,hy,rfl⟩:=List.mem_map.mp hp;exact hf y hy) (by simp [qH]) (by simpa using hn) e
 exact (List.map_inj_right fun x y h=>gF h).mp e2
noncomputable abbrev num (v:Int):Str:=Str.ofString (toString v)
theorem sK:∀ n,n < 1000→(decide (1 ≤ ((Nat.toDigits 10 n).map Char.toNat).length) && decide (((Nat.toDigits 10 n).map Char.toNat).length ≤ 3) && ((Nat.toDigits 10 n).map Char.toNat).all Go && (decide (((Nat.toDigits 10 n).map Char.toNat).length ≤ 1) || decide (((Nat.toDigits 10 n).map Char.toNat).headD 0 ≠ 48)) &&
  decide (NumText.digitsVal ((Nat.toDigits 10 n).map Char.toNat)=n))=true:=by decide +kernel
theorem Ty {v:Int} (h0:0 ≤ v) (h1:v < 1000):okB (num v)=true∧val (num v)=v:=by
 have e:=PySem.W.KIN.signs_num v.toNat;rw [Int.toNat_of_nonneg h0] at e;have a:=sK v.toNat (by omega);rw [← e,Bool.and_eq_true,decide_eq_true_eq] at a;exact ⟨a.1,by show ((NumText.digitsVal (cs (num v)):Nat):Int)=v;rw [a.2];omega⟩
theorem vn {v lo hi:Int} (h0:0 ≤ v) (h1:v < 1000) (hl:lo ≤ v) (hh:v ≤ hi):RF (num v) lo hi=.int v:=by
 obtain ⟨a,b⟩:=Ty h0 h1;unfold RF;rw [a,b,decide_eq_false (by omega:¬ v < lo),decide_eq_false (by omega:¬ hi < v)];rfl
theorem vK {u v:Int} (h0:0 ≤ u) (h1:u < 1000) (h2:0 ≤ v) (h3:v < 1000) (e:num u=num v):u=v:=by
 rw [← (Ty h0 h1).2,e,(Ty h2 h3).2]
theorem bz {v:Int} (h0:0 ≤ v) (h1:v < 1000):∀ c ∈ (num v).cps.toList,48 ≤ c∧c ≤ 57:=fun c hc=>by
 have:=List.all_eq_true.mp (iM (Ty h0 h1).1).2 c hc;simpa [Go] using this
theorem nM:∀ c ∈ Nh.cps.toList,97 ≤ c∧c ≤ 122:=by decide +kernel
theorem rL:∀ k,k < 26→97 + k ∈ Nh.cps.toList:=by decide +kernel
theorem ck {x:Str} (h:made x Nh 8=true):(1 ≤ x.length∧x.length ≤ 8)∧∀ c ∈ x.cps.toList,97 ≤ c∧c ≤ 122:=by
 unfold made at h;split at h
 ·cases h
 ·rename_i h1;split at h
  ·cases h
  ·rename_i h2;have h3:¬ x.length=0:=fun z=>h1 (lN.mpr z)
   refine ⟨by omega,fun c hc=>?_⟩;have:=List.all_eq_true.mp h c hc;rw [Hw] at this;exact nM c (of_decide_eq_true this)
theorem ow {x:Str} (h0:1 ≤ x.length) (h1:x.length ≤ 8) (h:∀ c ∈ x.cps.toList,97 ≤ c∧c ≤ 122):made x Nh 8=true:=by
 unfold made;rw [if_neg (fun z=>by have:=lN.mp z;omega),if_neg (by omega)];refine List.all_eq_true.mpr fun c hc=>?_
 have:=h c hc;rw [Hw];have e:=rL (c - 97) (by omega);rw [show 97 + (c - 97)=c by omega] at e;exact decide_eq_true e
structure WOk (n:Int) (d:WD):Prop where
 k:d.k < 3
 nm:made d.name Nh 8=true
 st:0 ≤ d.start∧d.start < n
 fi:0 ≤ d.fin∧d.fin < n
 ne:d.start ≠ d.fin
 of:0 ≤ d.off∧d.off ≤ 30
 nr:0 ≤ d.near∧d.near ≤ 30
 le:1 ≤ d.least∧d.least ≤ 60
structure COk (n:Int) (ds:List WD):Prop where
 nn:2 ≤ n∧n ≤ 99
 ln:1 ≤ ds.length∧ds.length ≤ 12
 al:∀ d ∈ ds,WOk n d
 nd:(ds.map (·.name)).Nodup
noncomputable def ei (d:WD):List Str:=[se d.k,d.name,num d.start,num d.fin,num d.off,num d.near,num d.least]
noncomputable def Wh (n:Int) (ds:List WD):List (List Str):=[Str.ofString "ring",num n] :: ds.map ei
noncomputable def yu (n:Int) (ds:List WD):Str:=Str.join nl ((Wh n ds).map (Str.join bk))
noncomputable def Ow (x:Str):Prop:=x.length ≤ 8∧(32:Nat) ∉ x.cps.toList∧(10:Nat) ∉ x.cps.toList
theorem Rr (k:Nat):Ow (se k):=by
 match k with
 | 0=>exact ⟨by decide +kernel,by decide +kernel,by decide +kernel⟩
 | 1=>exact ⟨by decide +kernel,by decide +kernel,by decide +kernel⟩
 | _ + 2=>exact ⟨show (Str.ofString "tram").length ≤ 8 by decide +kernel,show (32:Nat) ∉ (Str.ofString "tram").cps.toList by decide +kernel,show (10:Nat) ∉ (Str.ofString "tram").cps.toList by decide +kernel⟩
theorem ie {v:Int} (h0:0 ≤ v) (h1:v < 1000):Ow (num v):=
 ⟨Nat.le_trans (AJ h0 (by omega)) (by decide),fun z=>by have:=bz h0 h1 _ z;omega,fun z=>by have:=bz h0 h1 _ z;omega⟩
theorem Kr {x:Str} (h:made x Nh 8=true):Ow x:=
 ⟨(ck h).1.2,fun z=>by have:=(ck h).2 _ z;omega,fun z=>by have:=(ck h).2 _ z;omega⟩
theorem WOk.plain {n:Int} {d:WD} (h:WOk n d) (hn:n ≤ 99):∀ x ∈ ei d,Ow x:=fun x hx=>by
 have h1:=h.st;have h2:=h.fi;have h3:=h.of;have h4:=h.nr;have h5:=h.le;simp only [ei,List.mem_cons,List.not_mem_nil,or_false] at hx;rcases hx with rfl | rfl | rfl | rfl | rfl | rfl | rfl
 ·exact Rr _
 ·exact Kr h.nm
 ·exact ie (by omega) (by omega)
 ·exact ie (by omega) (by omega)
 ·exact ie (by omega) (by omega)
 ·exact ie (by omega) (by omega)
 ·exact ie (by omega) (by omega)
theorem COk.plain {n:Int} {ds:List WD} (h:COk n ds):∀ r ∈ Wh n ds,∀ x ∈ r,Ow x:=fun r hr x hx=>by
 have hn:=h.nn;rcases List.mem_cons.mp hr with rfl | hr
 ·simp only [List.mem_cons,List.not_mem_nil,or_false] at hx;rcases hx with rfl | rfl
  ·exact ⟨by decide +kernel,by decide +kernel,by decide +kernel⟩
  ·exact ie (by omega) (by omega)
 ·obtain ⟨d,hd,rfl⟩:=List.mem_map.mp hr;exact (h.al d hd).plain hn.2 x hx
theorem EE {rs:List (List Str)} (h0:rs ≠ []) (h1:∀ r ∈ rs,r ≠ []) (h2:∀ r ∈ rs,∀ x ∈ r,Ow x):zj (Str.join nl (rs.map (Str.join bk)))=rs:=by
 unfold zj;rw [DN,pL];rw [Sr (by simpa using h0) (fun y hy=>by
  obtain ⟨r,hr,rfl⟩:=List.mem_map.mp hy;rw [tt];intro z;rcases VI z with z | ⟨p,hp,z⟩
  ·cases z
  ·obtain ⟨x,hx,rfl⟩:=List.mem_map.mp hp;exact (h2 r hr x hx).2.2 z)]
 rw [List.map_map];have:∀ r ∈ rs,((fun r=>Txt.split r ⟨#[32]⟩) ∘ Str.join ⟨#[32]⟩) r=r:=fun r hr=>Sr (h1 r hr) fun x hx=>(h2 r hr x hx).2.1
 exact (List.map_congr_left this).trans (List.map_id rs)
theorem BB {n:Int} {ds:List WD} (h:COk n ds):zj (yu n ds)=Wh n ds:=EE (by simp [Wh]) (fun r hr=>by
 rcases List.mem_cons.mp hr with rfl | hr
 ·simp
 ·obtain ⟨d,hd,rfl⟩:=List.mem_map.mp hr;simp [ei]) h.plain
theorem Dt (sep:Str) (B:Nat):∀ ys:List Str,(∀ y ∈ ys,y.length ≤ B)→(Str.join sep ys).length ≤ ys.length * (B + sep.length)
 | [],_=>by show (Str.empty).length ≤ _;exact Nat.zero_le _
 | [a],h=>by
  have:=h a (by simp);show a.length ≤ _;simp only [List.length_cons,List.length_nil];omega
 | a :: b :: r,h=>by
  have h1:=h a (by simp);have h2:=Dt sep B (b :: r) fun y hy=>h y (List.mem_cons_of_mem _ hy)
  show (a ++ sep ++ Str.join sep (b :: r)).length ≤ _;rw [Jw,Jw,List.length_cons,Nat.succ_mul];omega
theorem yF {n:Int} {ds:List WD} (h:COk n ds):(yu n ds).length ≤ 1000:=by
 have h1:∀ y ∈ (Wh n ds).map (Str.join bk),y.length ≤ 63:=fun y hy=>by
  obtain ⟨r,hr,rfl⟩:=List.mem_map.mp hy;have:=Dt bk 8 r fun x hx=>(h.plain r hr x hx).1
  rw [Tx] at this;have hl:r.length ≤ 7:=by
   rcases List.mem_cons.mp hr with rfl | hr
   ·simp
   ·obtain ⟨d,hd,rfl⟩:=List.mem_map.mp hr;simp [ei]
  omega
 have h2:=Dt nl 63 _ h1;rw [Ly] at h2;have h3:((Wh n ds).map (Str.join bk)).length ≤ 13:=by
  have:=h.ln;simp [Wh];omega
 unfold yu;omega
end My
namespace My
open PySem L2
noncomputable abbrev wv:List Str:=[Str.ofString "row",Str.ofString "told",Str.ofString "place"]
noncomputable def rdF (row:Int) (ta:Addr) (pl:Int):List (Str × V):=[(Str.ofString "row",.int row),(Str.ofString "told",.ref ta),(Str.ofString "place",.int pl)]
theorem cn (row:Int) (ta:Addr) (pl:Int):(rdF row ta pl).map (·.1)=wv:=rfl
theorem AK (row:Int) (ta:Addr) (pl v:Int):Gi (Str.ofString "place") (.int v) (rdF row ta pl)=rdF row ta v:=by
 unfold rdF;simp only [Gi];rw [if_neg (by decide +kernel),if_neg (by decide +kernel)];rfl
noncomputable def Ng (t:Adr) (H:Hp) (p:Addr) (row:Int) (ws:List Str) (pl:Nat):Prop:=
 (ws.length ≤ 1000∧∀ x ∈ ws,x.length ≤ 1000)∧∃ dx ta,H p=some (.ins t.Nb dx (rdF row ta pl))∧H ta=some (.lst (Nc ws))
noncomputable def ee (p:Addr) (H H':Hp):Prop:=∀ b u,b ≠ p→H b=some u→H' b=some u
theorem ee.trans {p:Addr} {H H1 H2:Hp} (a:ee p H H1) (b:ee p H1 H2):ee p H H2:=fun c u n e=>b c u n (a c u n e)
theorem ee.of {p:Addr} {H H1:Hp} (a:Tb H H1):ee p H H1:=fun c u _ e=>a c u e
theorem ee.put {p:Addr} {H:Hp} {o:HO}:ee p H (upd H p o):=fun c u n e=>by rw [Db n];exact e
theorem Vo (ws:List Str):(Nc ws).length=ws.length:=by unfold Nc;rw [List.length_map]
theorem hG {ws:List Str} {i:Nat} {x:Str} (h:ws[i]? = some x):(Nc ws)[i]? = some (.str x):=by unfold Nc;rw [List.getElem?_map,h];rfl
theorem Ls (ws:List Str):(Nc ws).all Vl=true:=by unfold Nc;simp [Vl]
theorem Tz (x:Str) (xs:List Str):inV (.str x) (Nc xs)=decide (x ∈ xs):=by
 unfold inV Nc;rw [List.any_map,Bool.eq_iff_iff];simp only [List.any_eq_true,Function.comp,eqV,beq_iff_eq,decide_eq_true_eq];constructor
 ·rintro ⟨y,hy,rfl⟩;exact hy
 ·intro h;exact ⟨x,h,rfl⟩
section
variable {w:World} {K:PySem.W.Frag} {mg:Str→Option Value} {t:Adr} {H H':Hp} {p:Addr} {row:Int} {ws:List Str} {pl:Nat}
theorem Ng.same (h:Ng t H p row ws pl) (s:Tb H H'):Ng t H' p row ws pl:=by
 obtain ⟨hz,dx,ta,e1,e2⟩:=h;exact ⟨hz,dx,ta,s _ _ e1,s _ _ e2⟩
theorem Ng.sameX {q:Addr} (h:Ng t H p row ws pl) (s:ee q H H') (n:p ≠ q) (k:∃ C dx fs,H q=some (.ins C dx fs)):Ng t H' p row ws pl:=by
 obtain ⟨hz,dx,ta,e1,e2⟩:=h;obtain ⟨C,dq,fs,e3⟩:=k;exact ⟨hz,dx,ta,s _ _ n e1,s _ _ (Ji e2 e3 (by intro z;cases z)) e2⟩
theorem Ng.ins (h:Ng t H p row ws pl):∃ C dx fs,H p=some (.ins C dx fs):=by
 obtain ⟨hz,dx,ta,e1,e2⟩:=h;exact ⟨_,_,_,e1⟩
theorem Ng.no {m:Str} (row:Int) (ta:Addr) (pl:Int) (h:wv.contains m=false):(rdF row ta pl).lookup m=none:=Sm wv (cn ..) h
theorem au (T:Txt w K mg t) {dx ta:Addr} {pl:Int} (e:H p=some (.ins t.Nb dx (rdF row ta pl))):el K H p (Str.ofString "place") (.int pl):=
 ⟨_,dx,_,e,T.Lb,T.Df,Be wv 2 (cn ..) (by decide +kernel) rfl⟩
theorem Ix (T:Txt w K mg t) {dx ta:Addr} {pl:Int} (e:H p=some (.ins t.Nb dx (rdF row ta pl))):el K H p (Str.ofString "told") (.ref ta):=
 ⟨_,dx,_,e,T.Lb,T.si,Be wv 1 (cn ..) (by decide +kernel) rfl⟩
end
noncomputable def OH (t:Adr):Sp:=fun vs H Q _=>∃ (p dx ta:Addr) (row:Int),vs=[.ref p,.int row,.ref ta]∧H p=some (.ins t.Nb dx [])∧Q .non (upd H p (.ins t.Nb dx (rdF row ta 0)))
noncomputable def tm (t:Adr):Sp:=fun vs H Q _=>∃ p row ws pl,vs=[.ref p]∧Ng t H p row ws pl∧pl ≤ ws.length∧Q (.str (ws.getD pl (Str.ofString ""))) H
noncomputable def rF (t:Adr):Sp:=fun vs H Q _=>∃ p row ws pl,vs=[.ref p]∧Ng t H p row ws pl∧Q (.bl (decide (pl < ws.length))) H
noncomputable def aO (t:Adr) (H:Hp) (p:Addr) (row:Int) (ws:List Str) (pl:Nat) (R:Hp→Prop):Prop:=∀ H',ee p H H'→(NoT H→NoT H')→Ng t H' p row ws pl→R H'
noncomputable def ju (t:Adr):Sp:=fun vs H Q _=>∃ p row ws pl,vs=[.ref p,.bl true]∧Ng t H p row ws pl∧aO t H p row ws (pl + 1) (Q .non)
noncomputable def wu (K:PySem.W.Frag) (t:Adr):Sp:=fun vs H Q _=>∃ p row ws pl x c xs,vs=[.ref p,.ref c]∧Ng t H p row ws pl∧ws[pl]? = some x∧SqL K H c (Nc xs)∧x ∈ xs∧aO t H p row ws (pl + 1) (Q (.str x))
noncomputable def Mt (t:Adr):Sp:=fun vs H Q _=>∃ p row ws pl x lo hi v,vs=[.ref p,.int lo,.int hi]∧Ng t H p row ws pl∧ws[pl]? = some x∧RF x lo hi=.int v∧NoT H∧aO t H p row ws (pl + 1) (Q (.int v))
noncomputable def UD (t:Adr):Sp:=fun vs H Q _=>∃ p row ws pl,vs=[.ref p]∧Ng t H p row ws pl∧pl=ws.length∧Q .non H
section
variable {P:Program} {w:World} {K:PySem.W.Frag} {mg:Str→Option Value} {base:Heap} {t:Adr}
theorem OM (T:Txt w K mg t):Rb P w K mg base CX0 1 t.je t.ff q29 (OH t):=by
 refine T.Bj.ok Nj (fun vs H Q E h=>?_) (fun _ _ _ s H vs Q E hr h=>?_)
 ·obtain ⟨p,dx,ta,row,rfl,_⟩:=h;rfl
 obtain ⟨p,dx,ta,row,rfl,hp,q⟩:=h;refine ⟨_,(fb (ug (pv 0) (pv 1) rfl)
   (fb (ug (pv 0) (pv 2) rfl)
   (lb (ug (pv 0) jb rfl)))),?_⟩
 walk_at "RD";refine ⟨_,_,_,hp,T.Lb,T.Eo,by decide,?_⟩;refine ⟨_,_,_,gb,T.Lb,T.si,zo (n:=999) (by decide),?_⟩;refine ⟨_,_,_,gb,T.Lb,T.Df,zo (n:=999) (zo (n:=998) (by decide)),?_⟩;simp only [em];rw [show Gi (Str.ofString "row") (V.int row) ([]:List (Str × V))=[(Str.ofString "row",V.int row)] from Yd [] rfl (by decide +kernel),
  show Gi (Str.ofString "told") (V.ref ta) ([(Str.ofString "row",V.int row)]:List (Str × V))=[(Str.ofString "row",V.int row),(Str.ofString "told",V.ref ta)] from Yd [Str.ofString "row"] rfl (by decide +kernel),
  show Gi (Str.ofString "place") (V.int 0) ([(Str.ofString "row",V.int row),(Str.ofString "told",V.ref ta)]:List (Str × V))=[(Str.ofString "row",V.int row),(Str.ofString "told",V.ref ta),(Str.ofString "place",V.int 0)] from Yd [Str.ofString "row",Str.ofString "told"] rfl (by decide +kernel)]
 exact q
theorem Ro (T:Txt w K mg t):Rb P w K mg base CX0 1 t.vc t.Ic ["self"] (tm t):=by
 refine T.di.ok xm (fun vs H Q E h=>?_) (fun _ _ _ s H vs Q E hr h=>?_)
 ·obtain ⟨p,row,ws,pl,rfl,_⟩:=h;rfl
 obtain ⟨p,row,ws,pl,rfl,⟨hz,dx,ta,e1,e2⟩,hle,q⟩:=h;refine ⟨_,(fb (jd (Qb gg (fc (pv 0) rfl) (qc Xb rfl T.Uh ic (ab (fc (pv 0) rfl) ib)) (cc _)) (lb (Gb xc)) Sb)
   (lb (Gb (Kb Ye (fc (pv 0) rfl) (fc (pv 0) rfl))))),?_⟩
 walk_at "RD";refine Mb (decide ((pl:Int)=(ws.length:Int))) (fun Q hQ=>?_) (fun c=>?_) (fun c=>?_)
 ·walk_at "RD";refine ⟨_,au T e1,_,Ix T e1,_,rfl,_,.inl (SqL.of e2),rfl,?_⟩;rw [Vo];walk_at "RD";exact hQ
 ·walk_at "RD";have c':pl=ws.length:=by have:=of_decide_eq_true c;omega
  rw [show ws.getD pl (Str.ofString "")=Str.ofString "" by rw [List.getD_eq_getElem?_getD,List.getElem?_eq_none (by omega)];rfl] at q;exact q
 ·walk_at "RD";have c':pl < ws.length:=by have:=of_decide_eq_false c;omega
  have hx:ws[pl]? = some ws[pl]:=List.getElem?_eq_getElem c';rw [List.getD_eq_getElem?_getD,hx] at q;exact ⟨_,Ix T e1,_,au T e1,_,rfl,_,_,rfl,SqL.of e2,_,Cb (hG hx),q⟩
theorem nK (T:Txt w K mg t):Rb P w K mg base CX0 1 t.Vc t.Ld ["self"] (rF t):=by
 refine T.ng.ok pk (fun vs H Q E h=>?_) (fun _ _ _ s H vs Q E hr h=>?_)
 ·obtain ⟨p,row,ws,pl,rfl,_⟩:=h;rfl
 obtain ⟨p,row,ws,pl,rfl,⟨hz,dx,ta,e1,e2⟩,q⟩:=h;refine ⟨_,(lb (Gb (Sf ix (fc (pv 0) rfl) (qc Xb rfl T.Uh ic (ab (fc (pv 0) rfl) ib)) (cc _)))),?_⟩;walk_at "RD";have e:decide (pl < ws.length)=decide ((pl:Int) < (ws.length:Int)):=by rw [Bool.eq_iff_iff];simp
 rw [e] at q;refine ⟨_,au T e1,_,Ix T e1,_,rfl,_,.inl (SqL.of e2),?_⟩;rw [Vo];exact ⟨_,rfl,q⟩
theorem Pw (T:Txt w K mg t):Rb P w K mg base CX0 1 t.Tc t.ud q15 (ju t):=by
 refine T.rj.ok mn (fun vs H Q E h=>?_) (fun _ _ _ s H vs Q E hr h=>?_)
 ·obtain ⟨p,row,ws,pl,rfl,_⟩:=h;rfl
 obtain ⟨p,row,ws,pl,rfl,⟨hz,dx,ta,e1,e2⟩,q⟩:=h;refine ⟨_,(fb (jd (Mq (ol (pv 1))) (lb Sk) Sb)
   (lb (EC (pv 0) jb dN))),?_⟩
 walk_at "RD";refine Mb false (fun Q hQ=>?_) (fun hc=>nomatch hc) (fun _=>?_)
 ·walk_at "RD";exact hQ
 ·walk_at "RD";refine ⟨_,_,_,e1,T.Lb,T.Df,_,Be wv 2 (cn ..) (by decide +kernel) rfl,_,rfl,_,_,e1,by rw [← List.length_map (f:=(·.1)),cn];decide,?_⟩;rw [AK];exact q _ ee.put (fun n=>n.upd) ⟨hz,dx,ta,gb,by rw [Db (Ji e2 e1 (by intro z;cases z))];exact e2⟩
theorem Jy (T:Txt w K mg t):Rb P w K mg base CX0 2 t.Qc t.yd q30 (wu K t):=by
 have g9:Rb P w K mg base CX0 1 t.vc t.Ic ["self"] (tm t):=Ro T;have g12:Rb P w K mg base CX0 1 t.Tc t.ud q15 (ju t):=Pw T;refine T.uh.ok Pg (fun vs H Q E h=>?_) (fun _ _ _ s H vs Q E hr h=>?_)
 ·obtain ⟨p,row,ws,pl,x,c,xs,rfl,_⟩:=h;rfl
 obtain ⟨p,row,ws,pl,x,c,xs,rfl,R,hx,hc,hm,q⟩:=h;refine ⟨_,(fb (wb (i:=2) Pg.nd (dj (pv 0) T.Lb T.Te g9 hr T.He .nil fe))
   (fb (we (Ae (pv 0) T.Lb T.ig g12 hr T.jg .nil fe (ab (Sf Fp (pv 2) (pv 1) (by with_unfolding_all rfl)) ib)))
   (lb (Gb (pv 2))))),?_⟩
 have hlt:pl < ws.length:=(List.getElem?_eq_some_iff.mp hx).1;have hg:ws.getD pl (Str.ofString "")=x:=by rw [List.getD_eq_getElem?_getD,hx];rfl
 obtain ⟨_,dx,ta,e1,e2⟩:=id R;walk_at "RD";refine ⟨_,_,e1,Ng.no _ _ _ (by decide +kernel),⟨p,row,ws,pl,rfl,R,by omega,?_⟩⟩;rw [hg];walk_at "RD";refine ⟨_,_,e1,Ng.no _ _ _ (by decide +kernel),_,.inl hc,rfl,Ls xs,?_⟩;rw [Tz,decide_eq_true hm];refine ⟨p,row,ws,pl,rfl,R,fun H' s1 s2 s3=>?_⟩;walk_at "RD";exact q H' s1 s2 s3
theorem Zw (T:Txt w K mg t):Rb P w K mg base CX0 4 t.uc t.Kc q23 (Mt t):=by
 have g9:Rb P w K mg base CX0 3 t.vc t.Ic ["self"] (tm t):=(Ro T).mono (by decide);have g12:Rb P w K mg base CX0 3 t.Tc t.ud q15 (ju t):=(Pw T).mono (by decide);have g29:Rb P w K mg base CX0 3 t.Tm t.zm q33 MI:=SM T;refine T.Sg.ok og (fun vs H Q E h=>?_) (fun _ _ _ s H vs Q E hr h=>?_)
 ·obtain ⟨p,row,ws,pl,x,lo,hi,v,rfl,_⟩:=h;rfl
 obtain ⟨p,row,ws,pl,x,lo,hi,v,rfl,R,hx,hv,nt,q⟩:=h;refine ⟨_,(fb (wb (i:=3) og.nd (qb g29 hr T.fE T.Fq.kp T.KC (ab (dj (pv 0) T.Lb T.Te g9 hr T.He .nil fe) (ab (pv 1) (ab (pv 2) ib)))))
   (fb (we (Ae (pv 0) T.Lb T.ig g12 hr T.jg .nil fe (ab (Sf Uw (pv 3) Jh (cc _)) ib)))
   (lb (Gb (pv 3))))),?_⟩
 have hlt:pl < ws.length:=(List.getElem?_eq_some_iff.mp hx).1;have hg:ws.getD pl (Str.ofString "")=x:=by rw [List.getD_eq_getElem?_getD,hx];rfl
 obtain ⟨hz,dx,ta,e1,e2⟩:=id R;walk_at "RD";refine ⟨_,_,e1,Ng.no _ _ _ (by decide +kernel),⟨p,row,ws,pl,rfl,R,by omega,?_⟩⟩;rw [hg];walk_at "RD";refine ⟨x,lo,hi,rfl,hz.2 x (List.mem_of_getElem? hx),nt,?_⟩;rw [hv];walk_at "RD";refine ⟨_,_,e1,Ng.no _ _ _ (by decide +kernel),?_⟩;refine ⟨p,row,ws,pl,rfl,R,fun H' s1 s2 s3=>?_⟩;walk_at "RD";exact q H' s1 s2 s3
theorem II (T:Txt w K mg t):Rb P w K mg base CX0 2 t.Rc t.zd ["self"] (UD t):=by
 have g30:Rb P w K mg base CX0 1 t.Vc t.Ld ["self"] (rF t):=nK T;refine T.sh.ok Tl (fun vs H Q E h=>?_) (fun _ _ _ s H vs Q E hr h=>?_)
 ·obtain ⟨p,row,ws,pl,rfl,_⟩:=h;rfl
 obtain ⟨p,row,ws,pl,rfl,R,hl,q⟩:=h;obtain ⟨hz,dx,ta,e1,e2⟩:=id R;refine ⟨_,(lb (jd (ol (dj (pv 0) T.Lb T.dl g30 hr T.kl .nil fe)) (lb Sk) Sb)),?_⟩;walk_at "RD";refine Mb false (fun Q hQ=>?_) (fun hc=>nomatch hc) (fun _=>?_)
 ·walk_at "RD";refine ⟨_,_,e1,Ng.no _ _ _ (by decide +kernel),⟨p,row,ws,pl,rfl,R,?_⟩⟩;rw [decide_eq_false (by omega)];exact ⟨_,rfl,hQ⟩
 ·walk_at "RD";exact q
end
end My
namespace My
open PySem L2
theorem sf {α β:Type} {f:α→β} {l:List α} {i:Nat} {y:β} (h:(l.map f)[i]? = some y):∃ x,l[i]? = some x∧y=f x:=by
 rw [List.getElem?_map] at h;cases e:l[i]? with
 | none=>rw [e] at h;cases h
 | some x=>rw [e] at h;exact ⟨x,rfl,(Option.some.inj h).symm⟩
noncomputable def BN (t:Adr) (H0 H:Hp) (p:Addr) (rows:List (List Str)):Prop:=∃ qs:List Addr,H p=some (.lst (qs.map V.ref))∧H0 p=none∧qs.length=rows.length∧∀ (i:Nat) (q:Addr) (r:List Str),qs[i]? = some q→rows[i]? = some r→Ng t H q i r 0∧H0 q=none
noncomputable def Xr (t:Adr):Sp:=fun vs H Q _=>∃ x,vs=[.str x]∧x.length ≤ 20000∧(∀ r ∈ zj x,r.length ≤ 1000∧∀ y ∈ r,y.length ≤ 1000)∧NoT H∧∀ p H',Tb H H'→NoT H'→BN t H H' p (zj x)→Q (.ref p) H'
section
variable {P:Program} {w:World} {K:PySem.W.Frag} {mg:Str→Option Value} {base:Heap} {t:Adr}
theorem rB (T:Txt w K mg t):Rb P w K mg base CX0 3 t.wm t.mm ["text"] (Xr t):=by
 have g31:Rb P w K mg base CX0 2 t.vt t.Kt ["text"] Vy:=(jH T).mono (by decide);have g32:Rb P w K mg base CX0 1 t.je t.ff q29 (OH t):=OM T;refine T.Bq.ok fB (fun vs H Q E h=>?_) (fun _ _ _ s H vs Q E hr h=>?_)
 ·obtain ⟨x,rfl,_⟩:=h;rfl
 obtain ⟨x,rfl,hz,hrow,nt,q⟩:=h;refine ⟨_,(lb (Gb (Og rfl (Bp rfl T.Qf (ab (qb g31 hr T.DJ T.yw.kp T.eJ (ab (pv 0) ib)) ib)) (Dc (sc:=ub Yp) rfl (by decide +kernel)) (N:=["row","told"]) (sel:=[none,none]) (Wc (M:=["text"]) (by decide +kernel)) (Blk.of (fun _ _ _ _=>(lf (K:=K) (n:=2) rfl rfl (gc (Eb (i:=0) (eh (N:=["row","told"]) (by decide +kernel) rfl)) (gc (Eb (i:=1) (eh (N:=["row","told"]) (by decide +kernel) rfl)) jf)))) (fun _ _ _ _=>⟨_,gf,by walk_at "B"⟩) (fun _ _ _ _=>⟨_,(fk T.Lw g32 hr rfl T.Vw T.qo .nil fe (ab (pv 0) (ab (pv 1) ib))),by walk_at "B"⟩))))),?_⟩;walk_at "RD";refine ⟨x,rfl,hz,nt,fun p H1 sm1 nt1 ⟨ps,hp,hp0,hpn,hpl,hpa⟩=>?_⟩;walk_at "RD";refine ⟨⟨_,SqL.of hp⟩,?_⟩;have hlen:ps.length ≤ sizeLine:=by
  rw [hpl];unfold zj;rw [List.length_map];have:=Gp (x:=x) (y:=nl) (by rw [Ly];exact Nat.le_refl _);exact Nat.le_trans (show _ ≤ 40000 by omega) (by decide)
 refine ad.enum (xs:=ps.map V.ref) (fun i ys H2=>Tb H1 H2∧NoT H2∧∃ qs:List Addr,ys=qs.map V.ref∧qs.length=i∧∀ (j:Nat) (q:Addr) (r:List Str),qs[j]? = some q→(zj x)[j]? = some r→Ng t H2 q j r 0∧H1 q=none)
  (by rw [List.length_map];exact hlen) ⟨Tb.refl H1,nt1,[],rfl,rfl,fun j q r h _=>by simp at h⟩ ?_ ?_ ?_
 ·rintro i ys H2 hi zzq;refine zP fun zzM zzh=>?_
  obtain ⟨s2,n2,qs,rfl,hq,_⟩:=zzq;subst zzh;exact ⟨SqL.of (s2 _ _ hp),by rw [List.length_map];omega⟩
 ·rintro i v ys H2 p2 hv ⟨s2,n2,qs,rfl,hq,al⟩ hp2 N hN;rw [List.getElem?_map] at hv;cases hpi:ps[i]? with
  | none=>rw [hpi] at hv;cases hv
  | some pi=>
   rw [hpi] at hv;have e:=(Option.some.inj hv).symm;subst e;refine ah ?_;walk_at "RD";refine ⟨Sub.name2,fun a dx ha hd hne=>?_⟩;refine ⟨a,dx,pi,i,rfl,gb,rfl,?_⟩;rw [em];have s3:Tb H2 (upd (upd (upd H2 p2 (.tup [.int i,.ref pi])) dx (.own a)) a (.ins t.Nb dx (rdF i pi 0))):=by
    have s':Tb H2 (upd H2 p2 (.tup [.int i,.ref pi])):=db hp2;exact ((Tb.trans s' (db hd)).updN (s'.free ha))
   obtain ⟨r,hr⟩:∃ r,(zj x)[i]? = some r:=⟨(zj x)[i]'(by rw [← hpl];exact (List.getElem?_eq_some_iff.mp hpi).1),List.getElem?_eq_getElem _⟩;have ha2:H2 a=none:=(db hp2).free ha;refine hN _ _ ⟨s2.trans s3,((n2.upd).upd).upd,qs ++ [a],by rw [List.map_append];rfl,by rw [List.length_append,hq];rfl,fun j q' r' h1 h2=>?_⟩;by_cases hj:j < qs.length
   ·rw [List.getElem?_append_left hj] at h1;obtain ⟨z1,z2⟩:=al j q' r' h1 h2;exact ⟨z1.same s3,z2⟩
   ·rw [List.getElem?_append_right (by omega)] at h1;have hj0:j - qs.length=0:=by
     cases hh:j - qs.length with
     | zero=>rfl
     | succ n=>rw [hh] at h1;simp at h1
    rw [hj0] at h1;have e3:a=q':=by simpa using h1
    subst e3;have e4:j=i:=by omega
    subst e4;rw [hr] at h2;cases h2;refine ⟨⟨hrow r (List.mem_of_getElem? hr),dx,pi,gb,?_⟩,s2.free ha2⟩;exact s3 _ _ (s2 _ _ (hpa j pi r hpi hr).1)
 ·rintro ys H2 ⟨s2,n2,qs,rfl,hq,al⟩ p2 hp2;refine q p2 _ ((sm1.trans s2).updN ((sm1.trans s2).free hp2)) (n2.upd) ⟨qs,gb,(sm1.trans s2).free hp2,by rw [hq,List.length_map,hpl],fun i q' r h1 h2=>?_⟩;obtain ⟨z1,z2⟩:=al i q' r h1 h2;exact ⟨z1.same (db hp2),sm1.free z2⟩
end
noncomputable def lP (q:Addr) (H:Hp) (R:Hp→Prop):Prop:=∀ H',ee q H H'→NoT H'→R H'
noncomputable def cC (t:Adr):Sp:=fun vs H Q _=>∃ q row n,vs=[.ref q]∧Ng t H q row [Str.ofString "ring",num n] 0∧(2 ≤ n∧n ≤ 99)∧NoT H∧lP q H (Q (.int n))
noncomputable def jk (t:Adr) (H:Hp) (wl:Addr) (ds:List WD):Prop:=∃ as:List Addr,H wl=some (.lst (as.map V.ref))∧as.length=ds.length∧∀ (i:Nat) (a:Addr) (d:WD),as[i]? = some a→ds[i]? = some d→Me t H a d
noncomputable def Ps (t:Adr):Sp:=fun vs H Q _=>∃ q row ws pl wl ds x,vs=[.ref q,.ref wl]∧Ng t H q row ws pl∧ws[pl]? = some x∧made x Nh 8=true∧jk t H wl ds∧ds.length ≤ 12∧(∀ d ∈ ds,d.name ≠ x)∧NoT H ∧
 ∀ H',ee q H H'→NoT H'→Ng t H' q row ws (pl + 1)→Q (.str x) H'
noncomputable def qI (t:Adr):Sp:=fun vs H Q _=>∃ q row ws pl n st fi,vs=[.ref q,.int n,.int st]∧Ng t H q row ws pl∧ws[pl]? = some (num fi)∧(0 ≤ st∧st < n)∧(0 ≤ fi∧fi < n)∧st ≠ fi∧n ≤ 99∧NoT H ∧
 ∀ H',ee q H H'→NoT H'→Ng t H' q row ws (pl + 1)→Q (.int fi) H'
noncomputable def iz (t:Adr):Sp:=fun vs H Q _=>∃ d:WD,vs=[.str (se d.k),.str d.name,.int d.start,.int d.fin,.int d.off,.int d.near,.int d.least]∧d.k < 3∧∀ x H',Tb H H'→(NoT H→NoT H')→Me t H' x d→H x=none→Q (.ref x) H'
noncomputable def YH (t:Adr):Sp:=fun vs H Q _=>∃ q row n wl ds d,vs=[.ref q,.int n,.ref wl]∧Ng t H q row (ei d) 0∧WOk n d∧(2 ≤ n∧n ≤ 99)∧jk t H wl ds∧ds.length ≤ 12∧(∀ e ∈ ds,e.name ≠ d.name)∧NoT H ∧
 ∀ x H',ee q H H'→NoT H'→Me t H' x d→H x=none→Q (.ref x) H'
theorem jk.sameX {t:Adr} {H H':Hp} {q wl:Addr} {ds:List WD} {row:Int} {ws:List Str} {pl:Nat} (h:jk t H wl ds) (s:ee q H H') (r:Ng t H q row ws pl):jk t H' wl ds:=by
 obtain ⟨as,e1,e2,al⟩:=h;obtain ⟨hz,dx,ta,e3,e4⟩:=r;refine ⟨as,s _ _ (Ji e1 e3 (by intro z;cases z)) e1,e2,fun i a d h1 h2=>?_⟩;obtain ⟨hk,dx',e5⟩:=al i a d h1 h2;refine ⟨hk,dx',s _ _ (fun z=>?_) e5⟩;subst z;rw [e5] at e3;have e6:=Option.some.inj e3;injection e6 with _ _ e8;have e9:(7:Nat)=3:=congrArg List.length e8;omega
theorem jk.same {t:Adr} {H H':Hp} {wl:Addr} {ds:List WD} (h:jk t H wl ds) (s:Tb H H'):jk t H' wl ds:=by
 obtain ⟨as,e1,e2,al⟩:=h;exact ⟨as,s _ _ e1,e2,fun i a d h1 h2=>(al i a d h1 h2).same s⟩
section
variable {P:Program} {w:World} {K:PySem.W.Frag} {mg:Str→Option Value} {base:Heap} {t:Adr}
theorem XJ (T:Txt w K mg t):Rb P w K mg base CX0 5 t.Li t.Zi ["reader"] (cC t):=by
 have g21:Rb P w K mg base CX0 4 t.Qc t.yd q30 (wu K t):=(Jy T).mono (by decide);have g8:Rb P w K mg base CX0 4 t.uc t.Kc q23 (Mt t):=Zw T;have g22:Rb P w K mg base CX0 4 t.Rc t.zd ["self"] (UD t):=(II T).mono (by decide);refine T.gm.ok Yn (fun vs H Q E h=>?_) (fun _ _ _ s H vs Q E hr h=>?_)
 ·obtain ⟨q,row,n,rfl,_⟩:=h;rfl
 obtain ⟨q,row,n,rfl,R,hn,nt,qq⟩:=h;refine ⟨_,(fb (we (Ae (pv 0) T.Lb T.xh g21 hr T.oh .nil fe (ab (wf (ab xc ib)) ib)))
   (fb (wb (i:=1) Yn.nd (Ae (pv 0) T.Lb T.Lc g8 hr T.Gc .nil fe (ab (Mh rfl T.jr T.Nq) (ab (Mh rfl T.yt T.Ot) ib))))
   (fb (we (dj (pv 0) T.Lb T.Lh g22 hr T.ph .nil fe))
   (lb (Gb (pv 1)))))),?_⟩
 obtain ⟨_,dx,ta,e1,e2⟩:=id R;walk_at "RD";refine ⟨_,_,e1,Ng.no _ _ _ (by decide +kernel),by decide,fun p hp=>?_⟩;have s0:Tb H (upd H p (.lst [V.str (Str.ofString "ring")])):=db hp;refine ⟨q,row,_,0,Str.ofString "ring",p,[Str.ofString "ring"],rfl,R.same s0,rfl,SqL.of gb,by simp,fun H1 s1 n1 R1=>?_⟩;obtain ⟨_,dx1,ta1,f1,f2⟩:=id R1;walk_at "RD";refine ⟨_,_,f1,Ng.no _ _ _ (by decide +kernel),?_⟩;have nt1:=n1 nt.upd;refine ⟨q,row,_,1,num n,2,99,n,rfl,R1,rfl,vn (by omega) (by omega) hn.1 hn.2,nt1,fun H2 s2 n2 R2=>?_⟩;obtain ⟨_,dx2,ta2,g1,g2⟩:=id R2;walk_at "RD";refine ⟨_,_,g1,Ng.no _ _ _ (by decide +kernel),?_⟩;refine ⟨q,row,_,2,rfl,R2,rfl,?_⟩;walk_at "RD";exact qq H2 (((ee.of s0).trans s1).trans s2) (n2 nt1)
theorem DA (T:Txt w K mg t):Rb P w K mg base CX0 3 t.Af t.Cf q34 (Ps t):=by
 have g9:Rb P w K mg base CX0 2 t.vc t.Ic ["self"] (tm t):=(Ro T).mono (by decide);have g12:Rb P w K mg base CX0 2 t.Tc t.ud q15 (ju t):=(Pw T).mono (by decide);have g33:Rb P w K mg base CX0 2 t.bn t.Rm ["word"] kF:=FJ T;refine T.Yg.ok lj (fun vs H Q E h=>?_) (fun _ _ _ s H vs Q E hr h=>?_)
 ·obtain ⟨q,row,ws,pl,wl,ds,x,rfl,_⟩:=h;rfl
 obtain ⟨q,row,ws,pl,wl,ds,x,rfl,R,hx,hm,hW,hdl,hnew,nt,qq⟩:=h;refine ⟨_,(fb (wb (i:=2) lj.nd (dj (pv 0) T.Lb T.Te g9 hr T.He .nil fe))
   (fb (we (Ae (pv 0) T.Lb T.ig g12 hr T.jg .nil fe (ab (gI (qb g33 hr T.WC T.vq.kp T.PB (ab (pv 2) ib)) (fw (Sf jo (pv 2) (Og rfl (Of (pv 1)) (Dc (sc:=ub Zg) rfl (by decide +kernel)) (N:=["way"]) (sel:=[none]) (Wc (M:=["reader","ways","name"]) (by decide +kernel)) (Blk.of (fun _ _ _ _=>(Eb (i:=0) (eh (N:=["way"]) (by decide +kernel) rfl))) (fun _ _ _ _=>⟨_,gf,by walk_at "B"⟩) (fun _ _ _ _=>⟨_,(fc (pv 0) rfl),by walk_at "B"⟩))) (by with_unfolding_all rfl)))) ib)))
   (lb (Gb (pv 2))))),?_⟩
 have hlt:pl < ws.length:=(List.getElem?_eq_some_iff.mp hx).1;have hg:ws.getD pl (Str.ofString "")=x:=by rw [List.getD_eq_getElem?_getD,hx];rfl
 obtain ⟨hz,dx,ta,e1,e2⟩:=id R;walk_at "RD";refine ⟨_,_,e1,Ng.no _ _ _ (by decide +kernel),⟨q,row,ws,pl,rfl,R,by omega,?_⟩⟩;rw [hg];walk_at "RD";refine ⟨_,_,e1,Ng.no _ _ _ (by decide +kernel),?_⟩;refine ⟨x,rfl,hz.2 x (List.mem_of_getElem? hx),nt,?_⟩;rw [hm];walk_at "RD";obtain ⟨as,w1,w2,al⟩:=hW;refine ⟨⟨_,SqL.of w1⟩,?_⟩;have hle:(as.map V.ref).length ≤ sizeLine:=by rw [List.length_map,w2];exact Nat.le_trans hdl (by decide)
 refine ad.list_zs (xs:=as.map V.ref) (zs:=ds.map fun d=>V.str d.name) (SqL.of w1) hle (by rw [List.length_map,List.length_map,w2]) (fun i v z N hv hz' hN=>?_) (fun p hp=>?_)
 ·obtain ⟨a,ha,rfl⟩:=sf hv;obtain ⟨d,hd,rfl⟩:=sf hz';walk_at "RD";exact ⟨Sub.name,_,(al i a d ha hd).f_name T,hN⟩
 ·walk_at "RD";have e0:(ds.map fun d=>V.str d.name)=Nc (ds.map (·.name)):=by unfold Nc;rw [List.map_map];rfl
  rw [e0];refine ⟨_,.inl (SqL.of gb),rfl,Ls _,?_⟩;rw [Tz,decide_eq_false (fun z=>by
   obtain ⟨d,hd,e⟩:=List.mem_map.mp z;exact hnew d hd e)]
  have s0:Tb H (upd H p (.lst (Nc (ds.map (·.name))))):=db hp;exact ⟨q,row,ws,pl,rfl,R.same s0,fun H' s1 n1 R1=>qq H' ((ee.of s0).trans s1) (n1 nt.upd) R1⟩
theorem wM (T:Txt w K mg t):Rb P w K mg base CX0 5 t.Kk t.Jk q27 (qI t):=by
 have g9:Rb P w K mg base CX0 4 t.vc t.Ic ["self"] (tm t):=(Ro T).mono (by decide);have g8:Rb P w K mg base CX0 4 t.uc t.Kc q23 (Mt t):=Zw T;refine T.rn.ok lx (fun vs H Q E h=>?_) (fun _ _ _ s H vs Q E hr h=>?_)
 ·obtain ⟨q,row,ws,pl,n,st,fi,rfl,_⟩:=h;rfl
 obtain ⟨q,row,ws,pl,n,st,fi,rfl,R,hx,hst,hfi,hne,hn,nt,qq⟩:=h;refine ⟨_,(fb (jd (Qb gg (dj (pv 0) T.Lb T.Te g9 hr T.He .nil fe) (af Sj rfl T.PJ Cn (ab (pv 2) ib)) (cc _)) (lb Sk) Sb)
   (lb (Gb (Ae (pv 0) T.Lb T.Lc g8 hr T.Gc .nil fe (ab jb (ab (Ib ij (pv 1) jb) ib)))))),?_⟩
 have hlt:pl < ws.length:=(List.getElem?_eq_some_iff.mp hx).1;have hg:ws.getD pl (Str.ofString "")=num fi:=by rw [List.getD_eq_getElem?_getD,hx];rfl
 obtain ⟨hz,dx,ta,e1,e2⟩:=id R;walk_at "RD";refine Mb false (fun Q hQ=>?_) (fun hc=>nomatch hc) (fun _=>?_)
 ·walk_at "RD";refine ⟨_,_,e1,Ng.no _ _ _ (by decide +kernel),⟨q,row,ws,pl,rfl,R,by omega,?_⟩⟩;rw [hg];walk_at "RD";refine ⟨kq (by omega),?_⟩;rw [decide_eq_false (fun z=>hne (vK (by omega) (by omega) (by omega) (by omega) z).symm)];exact hQ
 ·walk_at "RD";refine ⟨_,_,e1,Ng.no _ _ _ (by decide +kernel),⟨q,row,ws,pl,num fi,0,n - 1,fi,rfl,R,hx,vn (by omega) (by omega) (by omega) (by omega),nt,fun H1 s1 n1 R1=>?_⟩⟩;exact qq H1 s1 (n1 nt) R1
theorem fM {t:Adr} {H:Hp} {x dx:Addr} {d:WD} (hx:H x=none) (hd:H dx=none) (hk:d.k < 3) :
  Tb H (upd (upd (upd H dx (.own x)) x (.ins (t.cw d.k) dx [])) x (.ins (t.cw d.k) dx (Vq d)))∧(NoT H→NoT (upd (upd (upd H dx (.own x)) x (.ins (t.cw d.k) dx [])) x (.ins (t.cw d.k) dx (Vq d)))) ∧
   Me t (upd (upd (upd H dx (.own x)) x (.ins (t.cw d.k) dx [])) x (.ins (t.cw d.k) dx (Vq d))) x d:=
 ⟨(((Tb.refl H).updN hd).updN hx).updN hx,fun n=>((n.upd).upd).upd,hk,dx,gb⟩
theorem SG (T:Txt w K mg t):Rb P w K mg base CX0 4 t.Fk t.Ik q28 (iz t):=by
 have g34:Rb P w K mg base CX0 2 t.Bf t.zg q5 (Pk t 0):=FK T;have g35:Rb P w K mg base CX0 2 t.bf t.Zf q5 (Pk t 1):=oH T;have g36:Rb P w K mg base CX0 2 t.cf t.Yf q5 (Pk t 2):=BH T;refine T.Ln.ok Bw (fun vs H Q E h=>?_) (fun _ _ _ s H vs Q E hr h=>?_)
 ·obtain ⟨d,rfl,_⟩:=h;rfl
 obtain ⟨d,rfl,hk,q⟩:=h;refine ⟨_,(fb (jd (Qb gg (pv 0) xc (cc _)) (lb (Gb (fk T.mH g34 hr rfl T.AH T.Ht .nil fe (ab (pv 1) (ab (pv 2) (ab (pv 3) (ab (pv 4) (ab (pv 5) (ab (pv 6) ib))))))))) Sb)
   (fb (jd (Qb gg (pv 0) xc (cc _)) (lb (Gb (fk T.RC g35 hr rfl T.aC T.yr .nil fe (ab (pv 1) (ab (pv 2) (ab (pv 3) (ab (pv 4) (ab (pv 5) (ab (pv 6) ib))))))))) Sb)
   (lb (Gb (fk T.YB g36 hr rfl T.JC T.Cr .nil fe (ab (pv 1) (ab (pv 2) (ab (pv 3) (ab (pv 4) (ab (pv 5) (ab (pv 6) ib))))))))))),?_⟩
 have fin:∀ (x dx:Addr),H x=none→H dx=none→Q (.ref x) (upd (upd (upd H dx (.own x)) x (.ins (t.cw d.k) dx [])) x (.ins (t.cw d.k) dx (Vq d))):=fun x dx hx hd=>by
  obtain ⟨m1,m2,m3⟩:=fM (t:=t) (d:=d) hx hd hk;exact q x _ m1 m2 m3 hx
 obtain ⟨k,name,start,fi,off,near,least⟩:=d
 match k,hk with
 | 0,_=>
  (walk_at "RD"; repeat (dsimp only [se];walk_at "RD"));refine Mb true (fun Q hQ=>?_) (fun _=>?_) (fun hc=>nomatch hc)
  ·walk_at "RD";exact hQ
  ·walk_at "RD";exact fun x dx hx hd hne=>⟨x,dx,⟨0,name,start,fi,off,near,least⟩,rfl,rfl,gb,rfl,fin x dx hx hd⟩
 | 1,_=>
  (walk_at "RD"; repeat (dsimp only [se];walk_at "RD"));refine Mb false (fun Q hQ=>?_) (fun hc=>nomatch hc) (fun _=>?_)
  ·walk_at "RD";rw [decide_eq_false (by decide +kernel)];exact hQ
  ·walk_at "RD";refine Mb true (fun Q hQ=>?_) (fun _=>?_) (fun hc=>nomatch hc)
   ·walk_at "RD";exact hQ
   ·walk_at "RD";exact fun x dx hx hd hne=>⟨x,dx,⟨1,name,start,fi,off,near,least⟩,rfl,rfl,gb,rfl,fin x dx hx hd⟩
 | 2,_=>
  (walk_at "RD"; repeat (dsimp only [se];walk_at "RD"));refine Mb false (fun Q hQ=>?_) (fun hc=>nomatch hc) (fun _=>?_)
  ·walk_at "RD";rw [decide_eq_false (by decide +kernel)];exact hQ
  ·walk_at "RD";refine Mb false (fun Q hQ=>?_) (fun hc=>nomatch hc) (fun _=>?_)
   ·walk_at "RD";rw [decide_eq_false (by decide +kernel)];exact hQ
   ·walk_at "RD";exact fun x dx hx hd hne=>⟨x,dx,⟨2,name,start,fi,off,near,least⟩,rfl,rfl,gb,rfl,fin x dx hx hd⟩
theorem kL (T:Txt w K mg t):Rb P w K mg base CX0 6 t.Vk t.Nk q35 (YH t):=by
 have g21:Rb P w K mg base CX0 5 t.Qc t.yd q30 (wu K t):=(Jy T).mono (by decide);have g8:Rb P w K mg base CX0 5 t.uc t.Kc q23 (Mt t):=(Zw T).mono (by decide);have g22:Rb P w K mg base CX0 5 t.Rc t.zd ["self"] (UD t):=(II T).mono (by decide);have g37:Rb P w K mg base CX0 5 t.Af t.Cf q34 (Ps t):=(DA T).mono (by decide);have g38:Rb P w K mg base CX0 5 t.Kk t.Jk q27 (qI t):=wM T;have g39:Rb P w K mg base CX0 5 t.Fk t.Ik q28 (iz t):=(SG T).mono (by decide);refine T.jn.ok ve (fun vs H Q E h=>?_) (fun _ _ _ s H vs Q E hr h=>?_)
 ·obtain ⟨q,row,n,wl,ds,d,rfl,_⟩:=h;rfl
 obtain ⟨q,row,n,wl,ds,d,rfl,R,hd,hn,hW,hdl,hnew,nt,qq⟩:=h;refine ⟨_,(fb (wb (i:=3) ve.nd (Ae (pv 0) T.Lb T.xh g21 hr T.oh .nil fe (ab (wf (ab xc (ab xc (ab xc ib)))) ib)))
   (fb (wb (i:=4) ve.nd (qb g37 hr T.Wp T.Yg.kp T.yp (ab (pv 0) (ab (pv 2) ib))))
   (fb (wb (i:=5) ve.nd (Ae (pv 0) T.Lb T.Lc g8 hr T.Gc .nil fe (ab jb (ab (Ib ij (pv 1) jb) ib))))
   (fb (wb (i:=6) ve.nd (qb g38 hr T.YA T.rn.kp T.CA (ab (pv 0) (ab (pv 1) (ab (pv 5) ib)))))
   (fb (wb (i:=7) ve.nd (Ae (pv 0) T.Lb T.Lc g8 hr T.Gc .nil fe (ab jb (ab (Mh rfl T.dA T.uB) ib))))
   (fb (wb (i:=8) ve.nd (Ae (pv 0) T.Lb T.Lc g8 hr T.Gc .nil fe (ab jb (ab (Mh rfl T.gx T.Rw) ib))))
   (fb (wb (i:=9) ve.nd (Ae (pv 0) T.Lb T.Lc g8 hr T.Gc .nil fe (ab jb (ab (Mh rfl T.av T.gv) ib))))
   (fb (we (dj (pv 0) T.Lb T.Lh g22 hr T.ph .nil fe))
   (lb (Gb (qb g39 hr T.ZA T.Ln.kp T.gA (ab (pv 3) (ab (pv 4) (ab (pv 5) (ab (pv 6) (ab (pv 7) (ab (pv 8) (ab (pv 9) ib)))))))))))))))))),?_⟩
 have b1:=hd.st;have b2:=hd.fi;have b3:=hd.of;have b4:=hd.nr;have b5:=hd.le;obtain ⟨_,dx,ta,e1,e2⟩:=id R;walk_at "RD";refine ⟨_,_,e1,Ng.no _ _ _ (by decide +kernel),by decide,fun p hp=>?_⟩;have s0:Tb H (upd H p (.lst [V.str (Str.ofString "car"),V.str (Str.ofString "foot"),V.str (Str.ofString "tram")])):=db hp;have hin:se d.k ∈ [Str.ofString "car",Str.ofString "foot",Str.ofString "tram"]:=by
  have:=hd.k
  match d.k,this with
  | 0,_=>simp [se]
  | 1,_=>simp [se]
  | 2,_=>simp [se]
 refine ⟨q,row,_,0,se d.k,p,[Str.ofString "car",Str.ofString "foot",Str.ofString "tram"],rfl,R.same s0,rfl,SqL.of gb,hin,fun H1 s1 n1 R1=>?_⟩;have x1:ee q H H1:=(ee.of s0).trans s1;have m1:=n1 nt.upd;walk_at "RD";refine ⟨q,row,_,1,wl,ds,d.name,rfl,R1,rfl,hd.nm,hW.sameX x1 R,hdl,hnew,m1,fun H2 s2 m2 R2=>?_⟩;obtain ⟨_,dx2,ta2,f2,g2⟩:=id R2;have x2:=x1.trans s2;walk_at "RD";refine ⟨_,_,f2,Ng.no _ _ _ (by decide +kernel),⟨q,row,_,2,num d.start,0,n - 1,d.start,rfl,R2,rfl,vn (by omega) (by omega) (by omega) (by omega),m2,fun H3 s3 n3 R3=>?_⟩⟩;have x3:=x2.trans s3;have m3:=n3 m2;walk_at "RD";refine ⟨q,row,_,3,n,d.start,d.fin,rfl,R3,rfl,b1,b2,hd.ne,hn.2,m3,fun H4 s4 m4 R4=>?_⟩;obtain ⟨_,dx4,ta4,f4,g4⟩:=id R4;have x4:=x3.trans s4;walk_at "RD";refine ⟨_,_,f4,Ng.no _ _ _ (by decide +kernel),⟨q,row,_,4,num d.off,0,30,d.off,rfl,R4,rfl,vn (by omega) (by omega) (by omega) (by omega),m4,fun H5 s5 n5 R5=>?_⟩⟩;obtain ⟨_,dx5,ta5,f5,g5⟩:=id R5;have x5:=x4.trans s5;have m5:=n5 m4;walk_at "RD";refine ⟨_,_,f5,Ng.no _ _ _ (by decide +kernel),⟨q,row,_,5,num d.near,0,30,d.near,rfl,R5,rfl,vn (by omega) (by omega) (by omega) (by omega),m5,fun H6 s6 n6 R6=>?_⟩⟩;obtain ⟨_,dx6,ta6,f6,g6⟩:=id R6;have x6:=x5.trans s6;have m6:=n6 m5;walk_at "RD";refine ⟨_,_,f6,Ng.no _ _ _ (by decide +kernel),⟨q,row,_,6,num d.least,1,60,d.least,rfl,R6,rfl,vn (by omega) (by omega) (by omega) (by omega),m6,fun H7 s7 n7 R7=>?_⟩⟩;obtain ⟨_,dx7,ta7,f7,g7⟩:=id R7;have x7:=x6.trans s7;have m7:=n7 m6;walk_at "RD";refine ⟨_,_,f7,Ng.no _ _ _ (by decide +kernel),⟨q,row,_,7,rfl,R7,rfl,?_⟩⟩;walk_at "RD";refine ⟨d,rfl,hd.k,fun x H8 s8 n8 w8 hx8=>?_⟩;refine qq x H8 (x7.trans (ee.of s8)) (n8 m7) w8 ?_;cases hH:H x with
 | none=>rfl
 | some u=>
  by_cases hxq:x=q
  ·subst hxq;rw [f7] at hx8;cases hx8
  ·rw [x7 x u hxq hH] at hx8;cases hx8
end
end My
namespace My
open PySem L2
noncomputable abbrev rA:List Str:=[Str.ofString "places",Str.ofString "ways",Str.ofString "numbers"]
noncomputable def cF (n:Int) (wl nd:Addr):List (Str × V):=[(Str.ofString "places",.int n),(Str.ofString "ways",.ref wl),(Str.ofString "numbers",.ref nd)]
theorem zt (n:Int) (wl nd:Addr):(cF n wl nd).map (·.1)=rA:=rfl
noncomputable def nm (ds:List WD) (i:Nat):Str:=((ds[i]?).map (·.name)).getD (Str.ofString "")
noncomputable def LB (ds:List WD) (i:Nat):List (Key × V):=(List.range i).map fun j=>(Sum.inr (nm ds j),V.int j)
theorem MA {ds:List WD} {i:Nat} {d:WD} (h:ds[i]? = some d):nm ds i=d.name:=by unfold nm;rw [h];rfl
theorem eD {ds:List WD} (h:(ds.map (·.name)).Nodup) {i j:Nat} (hi:i < ds.length) (hj:j < ds.length) (e:nm ds i=nm ds j):i=j:=by
 rw [MA (List.getElem?_eq_getElem hi),MA (List.getElem?_eq_getElem hj)] at e;have:=(List.getElem_inj (xs:=ds.map (·.name)) (i:=i) (j:=j) (h₀:=by rw [List.length_map];exact hi) (h₁:=by rw [List.length_map];exact hj) h).mp (by rw [List.getElem_map,List.getElem_map];exact e);exact this
theorem yH {ds:List WD} (h:(ds.map (·.name)).Nodup) {i:Nat}:∀ {n:Nat},i < n→n ≤ ds.length→Ej (LB ds n) (Sum.inr (nm ds i))=some (.int i):=by
 intro n
 induction n with
 | zero=>intro hi _;omega
 | succ n ih=>
  intro hi hn;unfold LB Ej;rw [List.range_succ,List.map_append,List.find?_append];by_cases c:i < n
  ·have:=ih c (by omega);unfold LB Ej at this;cases e:List.find? (fun kv=>decide (kv.fst=Sum.inr (nm ds i))) (List.map (fun j=>((Sum.inr (nm ds j):Key),V.int j)) (List.range n)) with
   | none=>rw [e] at this;cases this
   | some p=>rw [e] at this;exact this
  ·have e:i=n:=by omega
   subst e;have no:List.find? (fun kv=>decide (kv.fst=Sum.inr (nm ds i))) (List.map (fun j=>((Sum.inr (nm ds j):Key),V.int j)) (List.range i))=none:=by
    rw [List.find?_eq_none];intro p hp;obtain ⟨j,hj,rfl⟩:=List.mem_map.mp hp;have hj':=List.mem_range.mp hj;simp only [decide_eq_true_eq];intro z;have:=eD h (by omega) (by omega) (Sum.inr.inj z);omega
   rw [no];simp
theorem XG {ds:List WD} (h:(ds.map (·.name)).Nodup) {n:Nat} (hn:n < ds.length):xq (LB ds n) (Sum.inr (nm ds n)) (.int n)=LB ds (n + 1):=by
 unfold xq;have no:((LB ds n).any fun kv=>decide (kv.1=Sum.inr (nm ds n)))=false:=by
  rw [List.any_eq_false];intro p hp;obtain ⟨j,hj,rfl⟩:=List.mem_map.mp hp;have hj':=List.mem_range.mp hj;simp only [decide_eq_true_eq];intro z;have:=eD h (by omega) hn (Sum.inr.inj z);omega
 rw [no];unfold LB;rw [List.range_succ,List.map_append];rfl
theorem Hn {H H1 H2:Hp} {q:Addr} (a:Tb H H1) (b:ee q H1 H2) (n:H q=none):Tb H H2:=fun c u e=>b c u (Jb e n) (a c u e)
theorem eL {t:Adr} {H:Hp} {p q:Addr} {i j:Int} {ws vs:List Str} {k l:Nat} (a:Ng t H p i ws k) (b:Ng t H q j vs l) (n:i ≠ j):p ≠ q:=fun z=>by
 subst z;obtain ⟨_,dx,ta,e1,_⟩:=a;obtain ⟨_,dx',ta',e2,_⟩:=b;rw [e1] at e2;have e3:=Option.some.inj e2;injection e3 with _ _ e4;unfold rdF at e4;injection e4 with e5 _;injection e5 with _ e6;injection e6 with e7;exact n e7
theorem zC {t:Adr} {H:Hp} {p q:Addr} {d:WD} {j:Int} {vs:List Str} {l:Nat} (a:Me t H p d) (b:Ng t H q j vs l):p ≠ q:=fun z=>by
 subst z;obtain ⟨_,dx,e1⟩:=a;obtain ⟨_,dx',ta',e2,_⟩:=b;rw [e1] at e2;have e3:=Option.some.inj e2;injection e3 with _ _ e4;exact absurd (congrArg List.length e4) (by show ¬ (7:Nat)=3;decide)
noncomputable def Ze (t:Adr) (H:Hp) (c:Addr) (n:Int) (ds:List WD):Prop:=
 ((ds.map (·.name)).Nodup∧ds.length ≤ 12)∧∃ dx wl nd,H c=some (.ins t.jc dx (cF n wl nd))∧jk t H wl ds∧H nd=some (.dK (LB ds ds.length))
theorem Ze.same {t:Adr} {H H':Hp} {c:Addr} {n:Int} {ds:List WD} (h:Ze t H c n ds) (s:Tb H H'):Ze t H' c n ds:=by
 obtain ⟨h0,dx,wl,nd,e1,e2,e3⟩:=h;exact ⟨h0,dx,wl,nd,s _ _ e1,e2.same s,s _ _ e3⟩
theorem ZK {m:Str} (n:Int) (wl nd:Addr) (h:rA.contains m=false):(cF n wl nd).lookup m=none:=Sm rA (zt ..) h
section
variable {w:World} {K:PySem.W.Frag} {mg:Str→Option Value} {t:Adr} {H:Hp} {c dx wl nd:Addr} {n:Int}
theorem WF (T:Txt w K mg t) (e:H c=some (.ins t.jc dx (cF n wl nd))):el K H c (Str.ofString "places") (.int n):=⟨_,dx,_,e,T.Uc,T.lh,Be rA 0 (zt ..) (by decide +kernel) rfl⟩
theorem AL (T:Txt w K mg t) (e:H c=some (.ins t.jc dx (cF n wl nd))):el K H c (Str.ofString "ways") (.ref wl):=⟨_,dx,_,e,T.Uc,T.xj,Be rA 1 (zt ..) (by decide +kernel) rfl⟩
theorem Ep (T:Txt w K mg t) (e:H c=some (.ins t.jc dx (cF n wl nd))):el K H c (Str.ofString "numbers") (.ref nd):=⟨_,dx,_,e,T.Uc,T.Wg,Be rA 2 (zt ..) (by decide +kernel) rfl⟩
end
noncomputable def JI (t:Adr):Sp:=fun vs H Q _=>∃ c dx n wl ds,vs=[.ref c,.int n,.ref wl]∧H c=some (.ins t.jc dx [])∧jk t H wl ds∧(ds.map (·.name)).Nodup∧ds.length ≤ 12∧NoT H ∧
 ∀ H',ee c H H'→NoT H'→Ze t H' c n ds→Q .non H'
noncomputable def iL (t:Adr):Sp:=fun vs H Q _=>∃ n ds,vs=[.str (yu n ds)]∧COk n ds∧NoT H∧∀ c H',Tb H H'→NoT H'→Ze t H' c n ds→Q (.ref c) H'
noncomputable def Yu (t:Adr):Sp:=fun vs H Q _=>∃ c n ds,∃ i:Nat,∃ d,vs=[.ref c,.str d.name]∧Ze t H c n ds∧ds[i]? = some d∧Q (.int (i:Nat)) H
noncomputable def ym (t:Adr):Sp:=fun vs H Q _=>∃ c n ds,∃ i:Nat,∃ d,vs=[.ref c,.str d.name]∧Ze t H c n ds∧ds[i]? = some d∧∀ a,Me t H a d→Q (.ref a) H
section
variable {P:Program} {w:World} {K:PySem.W.Frag} {mg:Str→Option Value} {base:Heap} {t:Adr}
theorem kM (T:Txt w K mg t):Rb P w K mg base CX0 1 t.ye t.Hf q45 (JI t):=by
 refine T.Bk.ok Xe (fun vs H Q E h=>?_) (fun _ _ _ s H vs Q E hr h=>?_)
 ·obtain ⟨c,dx,n,wl,ds,rfl,_⟩:=h;rfl
 obtain ⟨c,dx,n,wl,ds,rfl,hc,hW,hnd,hdl,nt,q⟩:=h;have hu:=qk hr;refine ⟨_,(fb (ug (pv 0) (pv 1) rfl)
   (fb (ug (pv 0) (pv 2) rfl)
   (fb (ug (pv 0) JG rfl)
   (lb (rf PassesOwn.never rfl (Bp rfl T.Qf (ab (pv 2) ib)) (lf (K:=K) (n:=2) rfl rfl (gc (Eb (i:=3) Xe.nd) (gc (Eb (i:=4) Xe.nd) jf))) (lb (HK hu (fc (pv 0) rfl) (fc (pv 4) rfl) (pv 3) rfl))))))),?_⟩
 walk_at "RD";refine ⟨_,_,_,hc,T.Uc,T.lh,by decide,?_⟩;refine ⟨_,_,_,gb,T.Uc,T.xj,zo (n:=999) (by decide),fun nd hn=>?_⟩;simp only [em] at hn ⊢;rw [show Gi (Str.ofString "places") (V.int n) ([]:List (Str × V))=[(Str.ofString "places",V.int n)] from rfl,show Gi (Str.ofString "ways") (V.ref wl) [(Str.ofString "places",V.int n)]=[(Str.ofString "places",V.int n),(Str.ofString "ways",V.ref wl)] from Yd [Str.ofString "places"] rfl (by decide +kernel)] at hn ⊢;have hnc:c ≠ nd:=fun z=>by subst z;rw [gb] at hn;cases hn
 refine ⟨t.jc,dx,[(Str.ofString "places",V.int n),(Str.ofString "ways",V.ref wl)],by rw [Db hnc];exact gb,T.Uc,T.Wg,show (2:Nat) < 1000 by decide,?_⟩;rw [show Gi (Str.ofString "numbers") (V.ref nd) [(Str.ofString "places",V.int n),(Str.ofString "ways",V.ref wl)]=cF n wl nd from Yd [Str.ofString "places",Str.ofString "ways"] rfl (by decide +kernel)];obtain ⟨as,w1,w2,al⟩:=hW;have hHn:H nd=none:=by rw [Db (Ne.symm hnc)] at hn;exact hn
 have sx:ee c H (upd (upd (upd H c (.ins t.jc dx [(Str.ofString "places",V.int n),(Str.ofString "ways",V.ref wl)])) nd (.dK [])) c (.ins t.jc dx (cF n wl nd))):=fun b u hb e=>by
  rw [Db hb,Db (Jb e hHn),Db hb];exact e
 have hwc:wl ≠ c:=Ji w1 hc (by intro z;cases z);refine ⟨⟨_,SqL.of (sx _ _ hwc w1)⟩,?_⟩;refine Hj.enum (xs:=as.map V.ref) (fun i σ H'=>(∃ x y,σ=[some (V.ref c),some (V.int n),some (V.ref wl),x,y])∧H' c=some (.ins t.jc dx (cF n wl nd))∧H' nd=some (.dK (LB ds i))∧ee c H H'∧NoT H') ?_ ?_ ?_ ?_
 ·exact ⟨⟨_,_,rfl⟩,gb,by rw [Db (Ne.symm hnc),gb];rfl,sx,((nt.upd).upd).upd⟩
 ·rintro i σ H' hi zzq;refine zP fun zzM zzh=>?_
  obtain ⟨_,_,_,sx',_⟩:=zzq;subst zzh;exact SqL.of (sx' _ _ hwc w1)
 ·rintro i v σ H' p hv ⟨⟨x,y,rfl⟩,h1,h2,sx',nt'⟩ hp;obtain ⟨a,ha,rfl⟩:=sf hv;obtain ⟨hi,_⟩:=List.getElem?_eq_some_iff.mp ha;have hid:i < ds.length:=by omega
  have hd:ds[i]? = some ds[i]:=List.getElem?_eq_getElem hid;have Wa:Me t H a ds[i]:=al i a _ ha hd;have hac:a ≠ c:=by
   obtain ⟨_,dx',e⟩:=Wa;intro z;subst z;rw [hc] at e;have e2:=Option.some.inj e;injection e2 with _ _ e3;exact absurd (congrArg List.length e3) (by show ¬ (0:Nat)=7;decide)
  have Wa':Me t H' a ds[i]:=⟨Wa.1,Wa.2.imp fun dx' e=>sx' _ _ hac e⟩;have sp:Tb H' (upd H' p (.tup [.int i,.ref a])):=db hp;refine ah ?_;walk_at "RD";refine ⟨_,Ep T (sp _ _ h1),_,(Wa'.same sp).f_name T,_,rfl,_,DH.k (k:=Sum.inr ds[i].name) (sp _ _ h2) (Nat.lt_of_le_of_lt (show (LB ds i).length ≤ 12 by unfold LB;rw [List.length_map,List.length_range];omega) (by decide)),?_⟩;rw [← MA hd,XG hnd hid];refine ⟨⟨_,rfl⟩,?_,gb,fun b u hb e=>?_,(nt'.upd).upd⟩
  ·rw [Db hnc];exact sp _ _ h1
  ·rw [Db (Jb e hHn)];exact sp _ _ (sx' b u hb e)
 ·rintro σ H' zzq;refine zP fun zzM zzh=>?_
  obtain ⟨⟨x,y,rfl⟩,h1,h2,sx',nt'⟩:=zzq;subst zzh;walk_at "RD";rw [List.length_map,w2] at h2;refine q H' sx' nt' ⟨⟨hnd,hdl⟩,dx,wl,nd,h1,⟨as,sx' _ _ hwc w1,w2,fun i a d h3 h4=>?_⟩,h2⟩;have Wa:=al i a d h3 h4;have hac:a ≠ c:=by
   obtain ⟨_,dx',e⟩:=Wa;intro z;subst z;rw [hc] at e;have e2:=Option.some.inj e;injection e2 with _ _ e3;exact absurd (congrArg List.length e3) (by show ¬ (0:Nat)=7;decide)
  exact ⟨Wa.1,Wa.2.imp fun dx' e=>sx' _ _ hac e⟩
theorem cE (T:Txt w K mg t):Rb P w K mg base CX0 1 t.Pd t.Je q9 (Yu t):=by
 refine T.li.ok qm (fun vs H Q E h=>?_) (fun _ _ _ s H vs Q E hr h=>?_)
 ·obtain ⟨c,n,ds,i,d,rfl,_⟩:=h;rfl
 obtain ⟨c,n,ds,i,d,rfl,⟨⟨hnd,hdl⟩,dx,wl,nd,e1,e2,e3⟩,hd,q⟩:=h;have hu:=qk hr;have hv:Ej (LB ds ds.length) (Sum.inr d.name)=some (.int i):=by
  rw [← MA hd];exact yH hnd (List.getElem?_eq_some_iff.mp hd).1 (Nat.le_refl _)
 have hg:bA H nd (.str d.name) (some (.int i)):=by rw [← hv];exact bA.k (k:=Sum.inr d.name) e3
 refine ⟨_,(fb (jd (Wr (vD hu (pv 1) (fc (pv 0) rfl))) (lb Sk) Sb)
   (lb (Gb (PK hu (fc (pv 0) rfl) (pv 1) (fun _ _=>rfl))))),?_⟩
 walk_at "RD";refine Mb false (fun Q hQ=>?_) (fun hc=>nomatch hc) (fun _=>?_)
 ·walk_at "RD";refine ⟨_,Ep T e1,_,rfl,_,hg,?_⟩;exact hQ
 ·walk_at "RD";exact ⟨_,Ep T e1,_,rfl,_,hg,q⟩
theorem Mp (T:Txt w K mg t):Rb P w K mg base CX0 2 t.Hc t.gd q9 (ym t):=by
 have g40:Rb P w K mg base CX0 1 t.Pd t.Je q9 (Yu t):=cE T;refine T.Xh.ok Hm (fun vs H Q E h=>?_) (fun _ _ _ s H vs Q E hr h=>?_)
 ·obtain ⟨c,n,ds,i,d,rfl,_⟩:=h;rfl
 obtain ⟨c,n,ds,i,d,rfl,C,hd,q⟩:=h;obtain ⟨⟨hnd,hdl⟩,dx,wl,nd,e1,⟨as,w1,w2,al⟩,e3⟩:=id C;refine ⟨_,(lb (Gb (Kb Ye (fc (pv 0) rfl) (Ae (pv 0) T.Uc T.En g40 hr T.xn .nil fe (ab (pv 1) ib))))),?_⟩;walk_at "RD";refine ⟨_,AL T e1,_,_,e1,ZK _ _ _ (by decide +kernel),⟨c,n,ds,i,d,rfl,C,hd,?_⟩⟩;have hi:i < as.length:=by rw [w2];exact (List.getElem?_eq_some_iff.mp hd).1
 have ha:as[i]? = some as[i]:=List.getElem?_eq_getElem hi;walk_at "RD";refine ⟨_,SqL.of w1,_,Cb (show (as.map V.ref)[i]? = some (V.ref as[i]) by rw [List.getElem?_map,ha];rfl),?_⟩;exact q as[i] (al i _ d ha hd)
theorem NN (T:Txt w K mg t):Rb P w K mg base CX0 7 t.Lf t.Ef ["text"] (iL t):=by
 have g41:Rb P w K mg base CX0 6 t.wm t.mm ["text"] (Xr t):=(rB T).mono (by decide);have g42:Rb P w K mg base CX0 6 t.Li t.Zi ["reader"] (cC t):=(XJ T).mono (by decide);have g43:Rb P w K mg base CX0 6 t.Vk t.Nk q35 (YH t):=kL T;have g44:Rb P w K mg base CX0 5 t.ye t.Hf q45 (JI t):=(kM T).mono (by decide);refine T.Rg.ok ce (fun vs H Q E h=>?_) (fun _ _ _ s H vs Q E hr h=>?_)
 ·obtain ⟨n,ds,rfl,_⟩:=h;rfl
 obtain ⟨n,ds,rfl,hC,nt,qq⟩:=h;refine ⟨_,(fb (wb (i:=1) ce.nd (qb g41 hr T.LC T.Bq.kp T.ED (ab (pv 0) ib)))
   (fb (wb (i:=2) ce.nd (qb g42 hr T.Mw T.gm.kp T.Sw (ab (Kb Ye (pv 1) jb) ib)))
   (fb (wb (i:=3) ce.nd (wf ib))
   (fb (rf PassesOwn.never rfl (Of (Fg fK (pv 1) (Oh jb) ak)) (Eb (i:=4) ce.nd) (fb (jd (Qb gg (qc Xb rfl T.Uh ic (ab (pv 3) ib)) (Mh rfl T.xx T.Hx) (cc _)) (lb Sk) Sb)
   (lb (we (uo PySem.F.plainAttrs_list PySem.F.slot_list_append PySem.F.type_list_append nk (pv 3) (ab (qb g43 hr T.CB T.jn.kp T.OA (ab (pv 4) (ab (pv 2) (ab (pv 3) ib)))) ib))))))
   (fb (jd (Mq (Zy (pv 3) (fun _=>rfl))) (lb Sk) Sb)
   (lb (Gb (fk T.BA g44 hr rfl T.AB T.Dp .nil fe (ab (pv 2) (ab (pv 3) ib)))))))))),?_⟩
 have hrow:=BB hC;have hlen:=yF hC;have hnn:=hC.nn;have hln:=hC.ln;walk_at "RD";refine ⟨yu n ds,rfl,by omega,?_,nt,fun p H1 sm1 nt1 R=>?_⟩
 ·rw [hrow];intro r hr;refine ⟨?_,fun x hx=>Nat.le_trans (hC.plain r hr x hx).1 (by decide)⟩;rcases List.mem_cons.mp hr with rfl | hr
  ·show (2:Nat) ≤ 1000;decide
  ·obtain ⟨d,hd,rfl⟩:=List.mem_map.mp hr;show (7:Nat) ≤ 1000;decide
 rw [hrow] at R;obtain ⟨qs,hp,hp0,hql,hqa⟩:=R;have hql':qs.length=ds.length + 1:=by rw [hql];simp [Wh]
 obtain ⟨q0,qr,rfl⟩:∃ q0 qr,qs=q0 :: qr:=by
  cases qs with
  | nil=>simp at hql'
  | cons a b=>exact ⟨a,b,rfl⟩
 obtain ⟨R0,hq0⟩:=hqa 0 q0 _ rfl rfl;walk_at "RD";refine ⟨_,SqL.of hp,_,Cb (j:=0) rfl,⟨q0,_,n,rfl,R0,hnn,nt1,fun H2 s2 nt2=>⟨Nat.zero_le _,fun wl hwl=>?_⟩⟩⟩;obtain ⟨C0,dq0,fq0,hins⟩:=R0.ins;have hpq:p ≠ q0:=Ji hp hins (by intro z;cases z);have hp2:H2 p=some (.lst ((q0 :: qr).map V.ref)):=s2 _ _ hpq hp;have swl:Tb H2 (upd H2 wl (.lst [])):=db hwl;have hcut:jw ((q0 :: qr).map V.ref) (some 1) none=qr.map V.ref:=by
  unfold jw;simp [HT.sIx];exact List.take_of_length_le (by rw [List.length_map];exact Nat.le_refl _)
 refine ⟨_,SqL.of (swl _ _ hp2),fun pc hpc=>?_⟩;rw [hcut];have hpw:pc ≠ wl:=fun z=>by subst z;rw [gb] at hpc;cases hpc
 have spc:Tb (upd H2 wl (.lst [])) (upd (upd H2 wl (.lst [])) pc (.lst (qr.map V.ref))):=db hpc;refine ⟨⟨_,SqL.of gb⟩,?_⟩;have sH2:Tb H H2:=Hn sm1 s2 hq0;have hqrl:qr.length=ds.length:=by simpa using hql'
 refine Hj.list (xs:=qr.map V.ref) (fun i σ H'=>(∃ x,σ=[some (V.str (yu n ds)),some (V.ref p),some (V.int n),some (V.ref wl),x])∧NoT H'∧Tb H H'∧H' pc=some (.lst (qr.map V.ref))∧H wl=none∧jk t H' wl (ds.take i) ∧
  ∀ (j:Nat) (q:Addr) (d:WD),i ≤ j→qr[j]? = some q→ds[j]? = some d→Ng t H' q ((j + 1:Nat):Int) (ei d) 0∧H q=none) ?_ ?_ ?_ ?_
 ·refine ⟨⟨_,rfl⟩,(nt2.upd).upd,(sH2.trans swl).trans spc,gb,sH2.free hwl,⟨[],spc _ _ gb,rfl,fun j a d h=>by simp at h⟩,fun j q d _ h1 h2=>?_⟩;have hr:(Wh n ds)[j + 1]? = some (ei d):=by
   unfold Wh;rw [List.getElem?_cons_succ,List.getElem?_map,h2];rfl
  obtain ⟨Rj,hqj⟩:=hqa (j + 1) q _ (by rw [List.getElem?_cons_succ];exact h1) hr;refine ⟨((Rj.sameX s2 (eL Rj R0 (by omega)) R0.ins).same swl).same spc,hqj⟩
 ·rintro i σ H' hi zzq;refine zP fun zzM zzh=>?_
  obtain ⟨_,_,_,h,_⟩:=zzq;subst zzh;exact SqL.of h
 ·rintro i v σ H' hv zzq;refine zP fun zzM zzh=>?_
  obtain ⟨⟨x,rfl⟩,nt',sm',hpc',hwl0,W,Rs⟩:=zzq;obtain ⟨q,hq,rfl⟩:=sf hv;obtain ⟨hi,_⟩:=List.getElem?_eq_some_iff.mp hq;have hid:i < ds.length:=by omega
  have hd:ds[i]? = some ds[i]:=List.getElem?_eq_getElem hid;obtain ⟨Rq,hqn⟩:=Rs i q _ (Nat.le_refl _) hq hd;have htl:(ds.take i).length=i:=by rw [List.length_take];omega
  obtain ⟨as,w1,w2,al⟩:=id W;subst zzh;walk_at "RD";refine Mb false (fun Q hQ=>?_) (fun hc=>nomatch hc) (fun _=>?_)
  ·walk_at "RD";refine ⟨_,.inl (SqL.of w1),?_⟩;rw [List.length_map,w2,htl];rw [decide_eq_false (by omega)] <;> exact hQ
  ·walk_at "RD";refine ⟨.inl ⟨_,SqL.of w1⟩,?_⟩;refine ⟨q,_,n,wl,ds.take i,ds[i],rfl,Rq,hC.al _ (List.getElem_mem hid),hnn,W,by omega,fun e he z=>?_,nt',fun y H3 s3 nt3 w3 hy3=>?_⟩
   ·obtain ⟨j,hj,rfl⟩:=List.getElem_of_mem he;rw [List.getElem_take] at z;have hj':j < i:=by omega
    have:=eD hC.nd (i:=j) (j:=i) (by omega) hid (by rw [MA (List.getElem?_eq_getElem (by omega)),MA hd];exact z);omega
   ·walk_at "RD";obtain ⟨Cq,dq,fq,hqi⟩:=Rq.ins;have hwq:wl ≠ q:=Ji w1 hqi (by intro z;cases z);have hw3:H3 wl=some (.lst (as.map V.ref)):=s3 _ _ hwq w1;have hsm3:Tb H H3:=Hn sm' s3 hqn;refine ⟨_,hw3,Nat.lt_of_le_of_lt (show (as.map V.ref).length ≤ 12 by rw [List.length_map];omega) (by decide),?_⟩;have hyw:y ≠ wl:=fun z=>by
     subst z;rw [w1] at hy3;cases hy3
    refine ⟨⟨_,rfl⟩,nt3.upd,fun b u e=>?_,?_,hwl0,⟨as ++ [y],by rw [gb,List.map_append];rfl,?_,fun j a d h1 h2=>?_⟩,fun j q' d hj h1 h2=>?_⟩
    ·rw [Db (Jb e hwl0)];exact hsm3 _ _ e
    ·rw [Db hpw];exact s3 _ _ (Ji hpc' hqi (by intro z;cases z)) hpc'
    ·rw [List.length_append,w2,htl,List.length_take];show i + 1=_;omega
    ·by_cases hj:j < as.length
     ·rw [List.getElem?_append_left hj] at h1;have h2':(ds.take i)[j]? = some d:=by
       rw [List.getElem?_take_of_lt (by omega)];rw [List.getElem?_take_of_lt (by omega)] at h2;exact h2
      obtain ⟨hk,dx',e⟩:=al j a d h1 h2';have haq:a ≠ q:=zC ⟨hk,dx',e⟩ Rq;have haw:a ≠ wl:=Ji e w1 (by intro z;cases z);exact ⟨hk,dx',by rw [Db haw];exact s3 _ _ haq e⟩
     ·rw [List.getElem?_append_right (by omega)] at h1;have hj0:j - as.length=0:=by
       cases hh:j - as.length with
       | zero=>rfl
       | succ m=>rw [hh] at h1;simp at h1
      rw [hj0] at h1;have e3:y=a:=by simpa using h1
      subst e3;have e4:j=i:=by omega
      subst e4;rw [List.getElem?_take_of_lt (by omega),hd] at h2;cases h2;exact ⟨w3.1,w3.2.imp fun dx' e=>by rw [Db hyw];exact e⟩
    ·obtain ⟨Rj,hqj⟩:=Rs j q' d (by omega) h1 h2;have R3:=Rj.sameX s3 (eL Rj Rq (by omega)) Rq.ins;refine ⟨?_,hqj⟩;obtain ⟨hz,dx',ta,e1,e2⟩:=R3;refine ⟨hz,dx',ta,by rw [Db (Ji e1 hw3 (by intro z;cases z))];exact e1,?_⟩;rw [Db (fun z=>by
      subst z;rw [hw3] at e2;have e5:=Option.some.inj e2;injection e5 with e6;cases as with
      | nil=>exact absurd (congrArg List.length e6) (by show ¬ (0:Nat)=7;decide)
      | cons a r=>injection e6 with e7 _;cases e7)]
     exact e2
 ·rintro σ H' zzq;refine zP fun zzM zzh=>?_
  obtain ⟨⟨x,rfl⟩,nt',sm',hpc',hwl0,W,Rs⟩:=zzq;subst zzh;rw [List.length_map,hqrl,List.take_length] at W;obtain ⟨as,w1,w2,al⟩:=id W;walk_at "RD";refine Mb false (fun Q hQ=>?_) (fun hc=>nomatch hc) (fun _=>?_)
  ·walk_at "RD";refine ⟨true,.inl ⟨_,SqL.of w1,?_⟩,hQ⟩;cases as with
   | nil=>simp at w2;omega
   | cons a r=>rfl
  ·walk_at "RD";intro c dx hc hdx hne;have sc:Tb H' (upd (upd H' dx (.own c)) c (.ins t.jc dx [])):=((Tb.refl H').updN hdx).updN hc;refine ⟨c,dx,n,wl,ds,rfl,gb,W.same sc,hC.nd,hln.2,(nt'.upd).upd,fun H5 s5 nt5 C5=>⟨rfl,?_⟩⟩;exact qq c H5 (Hn (sm'.trans sc) s5 (sm'.free hc)) nt5 C5
end
end My
namespace My
open PySem L2
theorem MH {n s p:Int} (h0:0 ≤ s) (h1:s < n) (h2:0 ≤ p) (h3:p < n):(p - s) % n=if s ≤ p then p - s else p - s + n:=by
 split
 ·rename_i h;exact Int.emod_eq_of_lt (by omega) (by omega)
 ·rename_i h;have e:(p - s) % n=(p - s + n) % n:=(Int.add_emod_right ..).symm;rw [e];exact Int.emod_eq_of_lt (by omega) (by omega)
noncomputable def Jm (n s f p:Int):Bool:=decide (0 < (p - s) % n) && decide ((p - s) % n < (f - s) % n)
noncomputable def IH (n s f s2 f2:Int):Bool:=decide (f=f2) || (if (s2=s∨s2=f)∨(f2=s∨f2=f) then false else (Jm n s f s2 != Jm n s f f2))
theorem iG {s f p:Int} (h1:p ≠ s) (h2:p ≠ f) (h3:s ≠ f):((decide (s < f) && decide (f < p) && !decide (s < p)) || (!decide (s < f) && !decide (f < p) && decide (s < p)))=false:=by
 by_cases a:s < f <;> by_cases b:f < p
 ·rw [decide_eq_true a,decide_eq_true b,decide_eq_true (show s < p by omega)];rfl
 ·rw [decide_eq_true a,decide_eq_false b];rfl
 ·rw [decide_eq_false a,decide_eq_true b];rfl
 ·rw [decide_eq_false a,decide_eq_false b,decide_eq_false (show ¬ s < p by omega)];rfl
theorem QA {s p:Int} (h:s ≠ p):decide (p < s) = !decide (s < p):=by
 by_cases a:s < p
 ·rw [decide_eq_true a,decide_eq_false (by omega)];rfl
 ·rw [decide_eq_false a,decide_eq_true (by omega)];rfl
theorem Bu {n s f p:Int} (hs:0 ≤ s∧s < n) (hf:0 ≤ f∧f < n) (hp:0 ≤ p∧p < n) (h1:p ≠ s) (h2:p ≠ f) (h3:s ≠ f):Jm n s f p=((decide (s < p) && decide (p < f)) || (decide (p < f) && decide (f < s)) || (decide (f < s) && decide (s < p))):=by
 unfold Jm;rw [MH hs.1 hs.2 hp.1 hp.2,MH hs.1 hs.2 hf.1 hf.2,decide_eq_true (show 0 < (if s ≤ p then p - s else p - s + n) by split <;> omega),Bool.true_and,QA h3];by_cases a:s < p <;> by_cases b:s < f
 ·rw [if_pos (by omega),if_pos (by omega),decide_eq_true a,decide_eq_true b,show decide (p - s < f - s)=decide (p < f) from decide_eq_decide.mpr (by omega)];cases decide (p < f) <;> rfl
 ·rw [if_pos (by omega),if_neg (by omega),decide_eq_true a,decide_eq_false b,decide_eq_true (show p - s < f - s + n by omega)];cases decide (p < f) <;> rfl
 ·rw [if_neg (by omega),if_pos (by omega),decide_eq_false a,decide_eq_true b,decide_eq_false (show ¬ p - s + n < f - s by omega)];cases decide (p < f) <;> rfl
 ·rw [if_neg (by omega),if_neg (by omega),decide_eq_false a,decide_eq_false b,show decide (p - s + n < f - s + n)=decide (p < f) from decide_eq_decide.mpr (by omega)];cases decide (p < f) <;> rfl
theorem vN:∀ a b c d e g:Bool,((a && d && !b) || (!a && !d && b))=false→((a && e && !c) || (!a && !e && c))=false→((b && g && !c) || (!b && !g && c))=false→((d && g && !e) || (!d && !g && e))=false →
  (((b && !d) || (!d && !a) || (!a && b)) != ((c && !e) || (!e && !a) || (!a && c)))=(((!b && c) || (c && !g) || (!g && !b)) != ((!d && e) || (e && !g) || (!g && !d))):=by decide +kernel
theorem vB {n s f s2 f2:Int} (hs:0 ≤ s∧s < n) (hf:0 ≤ f∧f < n) (hs2:0 ≤ s2∧s2 < n) (hf2:0 ≤ f2∧f2 < n) (hne:s ≠ f) (hne2:s2 ≠ f2):IH n s f s2 f2=IH n s2 f2 s f:=by
 unfold IH;by_cases e:f=f2
 ·rw [decide_eq_true e,decide_eq_true e.symm];rfl
 ·rw [decide_eq_false e,decide_eq_false (Ne.symm e)];by_cases c:(s2=s∨s2=f)∨(f2=s∨f2=f)
  ·have c':(s=s2∨s=f2)∨(f=s2∨f=f2):=by omega
   rw [if_pos c,if_pos c']
  ·have c':¬ ((s=s2∨s=f2)∨(f=s2∨f=f2)):=by omega
   rw [if_neg c,if_neg c'];have n1:s2 ≠ s:=by omega
   have n2:s2 ≠ f:=by omega
   have n3:f2 ≠ s:=by omega
   have n4:f2 ≠ f:=by omega
   rw [Bool.false_or,Bool.false_or,Bu hs hf hs2 n1 n2 hne,Bu hs hf hf2 n3 n4 hne,Bu hs2 hf2 hs n1.symm n3.symm hne2,Bu hs2 hf2 hf n2.symm n4.symm hne2,QA n1.symm,QA n2.symm,QA n4.symm,QA hne,QA hne2];exact vN _ _ _ _ _ _ (iG n1 n2 hne) (iG n3 n4 hne) (iG n3 hne2.symm n1.symm) (iG n4 hne2.symm n2.symm)
noncomputable def fN:List Bool→Nat
 | []=>0
 | b :: r=>(if b then 1 else 0) + 2 * fN r
noncomputable abbrev mt (n:Int) (d e:WD):Bool:=IH n d.start d.fin e.start e.fin
noncomputable def bI (t:Adr):Sp:=fun vs H Q _=>∃ a d n p,vs=[.int n,.ref a,.int p]∧Me t H a d∧0 < n∧Q (.bl (Jm n d.start d.fin p)) H
noncomputable def dL (n:Int) (d e:WD):Bool:=if (e.start=d.start∨e.start=d.fin)∨(e.fin=d.start∨e.fin=d.fin) then false else (Jm n d.start d.fin e.start != Jm n d.start d.fin e.fin)
noncomputable def bF (t:Adr):Sp:=fun vs H Q _=>∃ a b d e n,vs=[.int n,.ref a,.ref b]∧Me t H a d∧Me t H b e∧0 < n∧NoT H∧Q (.bl (dL n d e)) H
noncomputable def fG (t:Adr):Sp:=fun vs H Q _=>∃ a b d e n,vs=[.int n,.ref a,.ref b]∧Me t H a d∧Me t H b e∧0 < n∧∀ H',Tb H H'→Q (.bl (dL n d e)) H'
noncomputable def VC (t:Adr):Sp:=fun vs H Q _=>∃ c n ds,∃ i j:Nat,∃ d e,vs=[.ref c,.str d.name,.str e.name]∧Ze t H c n ds∧0 < n∧ds[i]? = some d∧ds[j]? = some e∧NoT H∧Q (.bl (mt n d e)) H
section
variable {P:Program} {w:World} {K:PySem.W.Frag} {mg:Str→Option Value} {base:Heap} {t:Adr}
theorem KM (T:Txt w K mg t):Rb P w K mg base CX0 1 t.Qo t.No q31 (bI t):=by
 refine T.Lo.ok Ev (fun vs H Q E h=>?_) (fun _ _ _ s H vs Q E hr h=>?_)
 ·obtain ⟨a,d,n,p,rfl,_⟩:=h;rfl
 obtain ⟨a,d,n,p,rfl,W,hn,q⟩:=h;refine ⟨_,(fb (wb (i:=3) Ev.nd (Ib lg (Ib ij (pv 2) (fc (pv 1) rfl)) (pv 0)))
   (lb (Gb (gI (Sf ix jb (pv 3) (cc _)) (fw (Sf ix (pv 3) (Ib lg (Ib ij (fc (pv 1) rfl) (fc (pv 1) rfl)) (pv 0)) (cc _))))))),?_⟩
 walk_at "RD";refine ⟨_,W.f_start T,_,rfl,hn,?_⟩;unfold Jm at q;by_cases c:0 < (p - d.start) % n
 ·rw [if_pos (decide_eq_true c)];rw [decide_eq_true c,Bool.true_and] at q;exact ⟨_,W.f_end T,_,W.f_start T,_,rfl,_,rfl,hn,q⟩
 ·rw [if_neg (by simpa using c)];rw [decide_eq_false c,Bool.false_and] at q;exact q
theorem ZO (x a b:Int):inV (.int x) [.int a,.int b]=decide (x=a∨x=b):=by
 unfold inV;simp only [List.any_cons,List.any_nil,eqV,Bool.or_false];rw [Bool.eq_iff_iff];simp only [Bool.or_eq_true,beq_iff_eq,decide_eq_true_eq];omega
theorem VJ (T:Txt w K mg t):Rb P w K mg base CX0 2 t.qh t.fh q24 (bF t):=by
 refine Rb.forget (sp:=fG t) ?_ fun vs H Q E h=>?_
 ·have g27:Rb P w K mg base CX0 1 t.Qo t.No q31 (bI t):=KM T;refine T.Tj.ok Tt (fun vs H Q E h=>?_) (fun _ _ _ s H vs Q E hr h=>?_)
  ·obtain ⟨a,b,d,e,n,rfl,_⟩:=h;rfl
  obtain ⟨a,b,d,e,n,rfl,Wa,Wb,hn,q⟩:=h;refine ⟨_,(fb (jd (PW.pt (bE (Qb Fp (fc (pv 2) rfl) (wf (ab (fc (pv 1) rfl) (ab (fc (pv 1) rfl) ib))) (by with_unfolding_all rfl)) (uv (Qb Fp (fc (pv 2) rfl) (wf (ab (fc (pv 1) rfl) (ab (fc (pv 1) rfl) ib))) (by with_unfolding_all rfl))))) (lb (Gb Qj)) Sb)
   (lb (Gb (Sf EG (qb g27 hr T.Rx T.Lo.kp T.Sx (ab (pv 0) (ab (pv 1) (ab (fc (pv 2) rfl) ib)))) (qb g27 hr T.Rx T.Lo.kp T.Sx (ab (pv 0) (ab (pv 1) (ab (fc (pv 2) rfl) ib)))) (cc _))))),?_⟩
  walk_at "RD";refine Ih (fun b H'=>Tb H H'∧b=decide ((e.start=d.start∨e.start=d.fin)∨(e.fin=d.start∨e.fin=d.fin))) (fun Q hQ=>?_) (fun H' ⟨sm,hb⟩=>?_) (fun H' ⟨sm,hb⟩=>?_)
  ·walk_at "RD";refine ⟨_,Wb.f_start T,_,Wa.f_start T,_,Wa.f_end T,by decide,fun p hp=>⟨_,.inl (SqL.of gb),rfl,rfl,?_⟩⟩;have s1:Tb H (upd H p (.lst [.int d.start,.int d.fin])):=db hp;rw [ZO];by_cases c1:e.start=d.start∨e.start=d.fin
   ·rw [if_pos (decide_eq_true c1)];exact hQ _ _ ⟨s1,(decide_eq_true (.inl c1)).symm⟩
   ·rw [if_neg (by simpa using c1)];refine ⟨_,(Wb.same s1).f_end T,_,(Wa.same s1).f_start T,_,(Wa.same s1).f_end T,by decide,fun p2 hp2=>⟨_,.inl (SqL.of gb),rfl,rfl,?_⟩⟩;rw [ZO];refine hQ _ _ ⟨s1.trans (db hp2),?_⟩;rw [Bool.eq_iff_iff,decide_eq_true_eq,decide_eq_true_eq];exact ⟨.inr,fun z=>z.resolve_left c1⟩
  ·walk_at "RD";have hb':=of_decide_eq_true hb.symm;have:=q H' sm;unfold dL at this;rw [if_pos hb'] at this;exact this
  ·walk_at "RD";have hb':=of_decide_eq_false hb.symm;refine ⟨_,(Wb.same sm).f_start T,⟨a,d,n,_,rfl,Wa.same sm,hn,?_⟩⟩;refine ⟨_,(Wb.same sm).f_end T,⟨a,d,n,_,rfl,Wa.same sm,hn,?_⟩⟩;refine ⟨rfl,?_⟩;have:=q H' sm;unfold dL at this;rw [if_neg hb'] at this;rw [show (!decide (V.bl (Jm n d.start d.fin e.start)=V.bl (Jm n d.start d.fin e.fin)))=(Jm n d.start d.fin e.start != Jm n d.start d.fin e.fin) by
    cases Jm n d.start d.fin e.start <;> cases Jm n d.start d.fin e.fin <;> rfl]
   exact this
 ·obtain ⟨a,b,d,e,n,h1,h2,h3,h4,nt,q⟩:=h;exact ⟨nt,a,b,d,e,n,h1,h2,h3,h4,fun H' sm=>⟨sm,q⟩⟩
theorem KN (n:Int) (d e:WD):mt n d e=(decide (d.fin=e.fin) || dL n d e):=rfl
theorem eK (T:Txt w K mg t):Rb P w K mg base CX0 3 t.By t.vy q12 (VC t):=by
 have g10:Rb P w K mg base CX0 2 t.Hc t.gd q9 (ym t):=Mp T;have g45:Rb P w K mg base CX0 2 t.qh t.fh q24 (bF t):=VJ T;refine T.ZB.ok Kw (fun vs H Q E h=>?_) (fun _ _ _ s H vs Q E hr h=>?_)
 ·obtain ⟨c,n,ds,i,j,d,e,rfl,_⟩:=h;rfl
 obtain ⟨c,n,ds,i,j,d,e,rfl,C,hn,hd,he,nt,q⟩:=h;obtain ⟨_,dx,wl,nd,e1,e2,e3⟩:=id C;refine ⟨_,(fb (wb (i:=3) Kw.nd (Ae (pv 0) T.Uc T.Td g10 hr T.Md .nil fe (ab (pv 1) ib)))
   (fb (wb (i:=4) Kw.nd (Ae (pv 0) T.Uc T.Td g10 hr T.Md .nil fe (ab (pv 2) ib)))
   (lb (Gb (CK (Sf gg (fc (pv 3) rfl) (fc (pv 4) rfl) (cc _)) (fw (qb g45 hr T.Yv T.Tj.kp T.Fu (ab (fc (pv 0) rfl) (ab (pv 3) (ab (pv 4) ib)))))))))),?_⟩
 rw [KN] at q;walk_at "RD";refine ⟨_,_,e1,ZK _ _ _ (by decide +kernel),⟨c,n,ds,i,d,rfl,C,hd,fun a Wa=>?_⟩⟩;walk_at "RD";refine ⟨_,_,e1,ZK _ _ _ (by decide +kernel),⟨c,n,ds,j,e,rfl,C,he,fun b Wb=>?_⟩⟩;walk_at "RD";refine ⟨_,Wa.f_end T,_,Wb.f_end T,rfl,?_⟩;walk_at "RD";by_cases c1:d.fin=e.fin
 ·rw [if_pos (decide_eq_true c1)];rw [decide_eq_true c1,Bool.true_or] at q;exact q
 ·rw [if_neg (by simpa using c1)];rw [decide_eq_false c1,Bool.false_or] at q;exact ⟨_,WF T e1,⟨a,b,d,e,n,rfl,Wa,Wb,hn,nt,q⟩⟩
end
noncomputable def jI (t:Adr):Sp:=fun vs H Q _=>∃ c n ds,∃ i j:Nat,∃ d e,vs=[.ref c,.str d.name,.str e.name]∧Ze t H c n ds∧ds[i]? = some d∧ds[j]? = some e∧Q (.int (if d.off - e.near > 0 then d.off - e.near else 0)) H
section
variable {P:Program} {w:World} {K:PySem.W.Frag} {mg:Str→Option Value} {base:Heap} {t:Adr}
theorem BL (T:Txt w K mg t):Rb P w K mg base CX0 3 t.oG t.vH q12 (jI t):=by
 have g10:Rb P w K mg base CX0 2 t.Hc t.gd q9 (ym t):=Mp T;refine T.rK.ok fF (fun vs H Q E h=>?_) (fun _ _ _ s H vs Q E hr h=>?_)
 ·obtain ⟨c,n,ds,i,j,d,e,rfl,_⟩:=h;rfl
 obtain ⟨c,n,ds,i,j,d,e,rfl,C,hd,he,q⟩:=h;obtain ⟨_,dx,wl,nd,e1,e2,e3⟩:=id C;refine ⟨_,(fb (wb (i:=3) fF.nd (Ae (pv 0) T.Uc T.Td g10 hr T.Md .nil fe (ab (pv 1) ib)))
   (fb (wb (i:=4) fF.nd (Ae (pv 0) T.Uc T.Td g10 hr T.Md .nil fe (ab (pv 2) ib)))
   (lb (Gb (qc (Mu rfl) rfl T.LG wn (ab jb (ab (Ib ij (fc (pv 3) rfl) (fc (pv 4) rfl)) ib))))))),?_⟩
 walk_at "RD";refine ⟨_,_,e1,ZK _ _ _ (by decide +kernel),⟨c,n,ds,i,d,rfl,C,hd,fun a Wa=>?_⟩⟩;walk_at "RD";refine ⟨_,_,e1,ZK _ _ _ (by decide +kernel),⟨c,n,ds,j,e,rfl,C,he,fun b Wb=>?_⟩⟩;walk_at "RD";refine ⟨_,Wa.f_off T,_,Wb.f_near T,?_⟩;walk_at "RD";exact q
end
end My
namespace My
open PySem L2
theorem Ki {α:Type} {l:List α} {a x:α} {i:Nat} (h:(l ++ [a])[i]? = some x):(i < l.length∧l[i]? = some x)∨(i=l.length∧x=a):=by
 by_cases hi:i < l.length
 ·rw [List.getElem?_append_left hi] at h;exact .inl ⟨hi,h⟩
 ·rw [List.getElem?_append_right (by omega)] at h;have h0:i - l.length=0:=by
   cases hh:i - l.length with
   | zero=>rfl
   | succ m=>rw [hh] at h;simp at h
  rw [h0] at h;exact .inr ⟨by omega,(by simpa using h:a=x).symm⟩
noncomputable def mo (H:Hp) (wl:Addr) (ws:List (WD × Int)):Prop:=∃ qs:List Addr,H wl=some (.lst (qs.map V.ref))∧qs.length=ws.length∧∀ (i:Nat) (q:Addr) (p:WD × Int),qs[i]? = some q→ws[i]? = some p→H q=some (.tup [.str p.1.name,.int p.2])
noncomputable def Ve (i j:Nat):List Key:=[Sum.inl (i:Int),Sum.inl (j:Int)]
noncomputable def Et (d e:WD):Int:=if d.off - e.near > 0 then d.off - e.near else 0
noncomputable def gi (n:Int) (ws:List (WD × Int)) (i m:Nat):List (List Key × V):=
 (List.range m).filterMap fun j=>match ws[i]?,ws[j]? with
  | some p,some q=>if i ≠ j∧mt n p.1 q.1=true then some (Ve i j,V.int (p.2 + Et p.1 q.1)) else none
  | _,_=>none
noncomputable def Ie (n:Int) (ws:List (WD × Int)) (i:Nat):List (List Key × V):=(List.range i).flatMap fun k=>gi n ws k ws.length
theorem EB (n:Int) (ws:List (WD × Int)) (i:Nat):gi n ws i 0=[]:=rfl
theorem Au {n:Int} {ws:List (WD × Int)} {i m:Nat} {p q:WD × Int} (hi:ws[i]? = some p) (hm:ws[m]? = some q) (h:¬ (i ≠ m∧mt n p.1 q.1=true)):gi n ws i (m + 1)=gi n ws i m:=by
 unfold gi;rw [List.range_succ,List.filterMap_append];simp only [List.filterMap_cons,List.filterMap_nil,hi,hm,if_neg h,List.append_nil]
theorem fv {n:Int} {ws:List (WD × Int)} {i m:Nat} {p q:WD × Int} (hi:ws[i]? = some p) (hm:ws[m]? = some q) (h:i ≠ m∧mt n p.1 q.1=true):gi n ws i (m + 1)=gi n ws i m ++ [(Ve i m,V.int (p.2 + Et p.1 q.1))]:=by
 unfold gi;rw [List.range_succ,List.filterMap_append];simp only [List.filterMap_cons,List.filterMap_nil,hi,hm,if_pos h]
theorem Es (n:Int) (ws:List (WD × Int)) (i:Nat):Ie n ws (i + 1)=Ie n ws i ++ gi n ws i ws.length:=by
 unfold Ie;rw [List.range_succ,List.flatMap_append];simp
theorem im {n:Int} {ws:List (WD × Int)} {i m:Nat} {x:List Key × V} (h:x ∈ gi n ws i m):∃ j p q,j < m∧ws[i]? = some p∧ws[j]? = some q∧i ≠ j∧mt n p.1 q.1=true∧x=(Ve i j,V.int (p.2 + Et p.1 q.1)):=by
 unfold gi at h;obtain ⟨j,hj,e⟩:=List.mem_filterMap.mp h;have hj':=List.mem_range.mp hj;cases hp:ws[i]? with
 | none=>simp [hp] at e
 | some p=>
  cases hq:ws[j]? with
  | none=>simp [hp,hq] at e
  | some q=>
   simp only [hp,hq] at e;split at e
   ·rename_i c;exact ⟨j,p,q,hj',rfl,hq,c.1,c.2,(Option.some.inj e).symm⟩
   ·cases e
theorem gq {n:Int} {ws:List (WD × Int)} {i:Nat} {x:List Key × V} (h:x ∈ Ie n ws i):∃ k,k < i∧x ∈ gi n ws k ws.length:=by
 unfold Ie at h;obtain ⟨k,hk,e⟩:=List.mem_flatMap.mp h;exact ⟨k,List.mem_range.mp hk,e⟩
theorem Vg {i j i' j':Nat} (h:Ve i j=Ve i' j'):i=i'∧j=j':=by
 unfold Ve at h;simp only [List.cons.injEq,Sum.inl.injEq,and_true] at h;omega
theorem ms {kvs:List (List Key × V)} {k:List Key} {v:V} (h:∀ x ∈ kvs,x.1 ≠ k):xq kvs k v=kvs ++ [(k,v)]:=by
 unfold xq;rw [if_neg];intro z;obtain ⟨x,hx,e⟩:=List.any_eq_true.mp z;exact h x hx (of_decide_eq_true e)
theorem lH {n:Int} {ws:List (WD × Int)} {i m:Nat} {p q:WD × Int} (hi:ws[i]? = some p) (hm:ws[m]? = some q) (h:i ≠ m∧mt n p.1 q.1=true) :
  xq (Ie n ws i ++ gi n ws i m) (Ve i m) (V.int (p.2 + Et p.1 q.1))=Ie n ws i ++ gi n ws i (m + 1):=by
 rw [fv hi hm h,ms,List.append_assoc];intro x hx e;rcases List.mem_append.mp hx with z | z
 ·obtain ⟨k,hk,z⟩:=gq z;obtain ⟨j,p',q',_,_,_,_,_,rfl⟩:=im z;have:=Vg e;omega
 ·obtain ⟨j,p',q',hj,_,_,_,_,rfl⟩:=im z;have:=Vg e;omega
theorem nw (n:Int) (ws:List (WD × Int)) (i m:Nat):(gi n ws i m).length ≤ m:=by
 unfold gi;exact Nat.le_trans (List.length_filterMap_le _ _) (by simp)
theorem bw (n:Int) (ws:List (WD × Int)) (i:Nat):(Ie n ws i).length ≤ i * ws.length:=by
 induction i with
 | zero=>simp [Ie]
 | succ i ih=>
  rw [Es,List.length_append,Nat.succ_mul];have:=nw n ws i ws.length;omega
noncomputable def Oc (p:WD × Int):Int:=p.2 + On p.1 + Zh p.1
noncomputable def cm (m:Int) (al sd:Addr):List (Str × V):=[(Str.ofString "many",.int m),(Str.ofString "alones",.ref al),(Str.ofString "steps",.ref sd)]
theorem aI {d:WD} {m:Str} (h:Zq.contains m=false):(Vq d).lookup m=none:=Sm Zq (Pr _) h
theorem oC {P:Program} {w:World} {K:PySem.W.Frag} {mg:Str→Option Value} {base:Heap} {CX:CXT} {j k:Nat} {OK:Addr→Prop} {m:Str} {ps:List Str} {SPV:Addr→Sp} (V:KK P w K mg base CX j OK m ps SPV) (h:j ≤ k):KK P w K mg base CX k OK m ps SPV:=⟨fun C hC=>by
 obtain ⟨f,fd,h1,h2,h3,h4⟩:=V.ok C hC;exact ⟨f,fd,h1,h2,h3.mono h,h4⟩⟩
theorem vv {H:Hp} {p b C D dx dy:Addr} {x:Str × V} {fs:List (Str × V)} (hp:H p=some (.ins C dx [])) (hb:H b=some (.ins D dy (x :: fs))):b ≠ p:=fun z=>by
 subst z;rw [hp] at hb;cases hb
theorem cN {t:Adr} {H H':Hp} {p a C dx:Addr} {d:WD} (hp:H p=some (.ins C dx [])) (sx:ee p H H') (h:Me t H a d):Me t H' a d:=by
 obtain ⟨h1,dy,e⟩:=h;exact ⟨h1,dy,sx _ _ (vv hp e) e⟩
theorem IC {t:Adr} {H H':Hp} {p c C dx:Addr} {n:Int} {ds:List WD} (hp:H p=some (.ins C dx [])) (sx:ee p H H') (h:Ze t H c n ds):Ze t H' c n ds:=by
 obtain ⟨h0,dy,wl,nd,e1,⟨as,w1,w2,w3⟩,e3⟩:=h;exact ⟨h0,dy,wl,nd,sx _ _ (vv hp e1) e1,⟨as,sx _ _ (Ji w1 hp (by intro z;cases z)) w1,w2,fun i a d h1 h2=>cN hp sx (w3 i a d h1 h2)⟩,sx _ _ (Ji e3 hp (by intro z;cases z)) e3⟩
theorem uH {K:PySem.W.Frag} {a b:Addr} {xs ys:List V} {g:TG} {σb:St} {H:Hp} {tc:TT} {te:TE} {Q:VK} (Pv:Nat→List V→Hp→Prop) (n:Nat) (hn:n=min xs.length ys.length) (hz:n ≤ sizeLine) (h0:Pv 0 [] H) (hl:∀ i zs H,i ≤ n→Pv i zs H→(SqL K H a xs∧SqL K H b ys)∧zs.length ≤ i)
  (hs:∀ i x y zs H p,xs[i]? = some x→ys[i]? = some y→Pv i zs H→H p=none→Xf Pv g tc te σb i (.ref p) zs (upd H p (.tup [x,y]))) (hd:∀ zs H,Pv n zs H→∀ p,H p=none→Q (.ref p) (upd H p (.lst zs))):ad (Itz K a b) g tc te σb Q H:=by
 refine ad.of (n:=n) Pv hz h0 (fun i zs H hi p=>?_) (fun zs H p=>?_) (fun i zs H hi p=>(hl i zs H (Nat.le_of_lt hi) p).2) (fun i zs H v H' hi p y=>?_) hd
 ·obtain ⟨⟨z1,z2⟩,_⟩:=hl i zs H (Nat.le_of_lt hi) p;exact ⟨xs,ys,xs[i],ys[i],z1,z2,by rw [List.getElem?_eq_getElem (by omega)],by rw [List.getElem?_eq_getElem (by omega)]⟩
 ·obtain ⟨⟨z1,z2⟩,_⟩:=hl n zs H (Nat.le_refl _) p;exact ⟨xs,ys,z1,z2,by omega⟩
 ·obtain ⟨q,x,y,hq,rfl,hx,hy,rfl⟩:=y;obtain ⟨⟨z1,z2⟩,_⟩:=hl i zs H (Nat.le_of_lt hi) p;exact hs i x y zs H q (hx xs z1) (hy ys z2) p hq
section
variable (P:Program) (w:World)
noncomputable def Xc (t:Adr) (H:Hp) (p:Addr) (n:Int) (ws:List (WD × Int)):Prop:=∃ dx al sd,H p=some (.ins t.Vb dx (cm ws.length al sd))∧H al=some (.lst (ws.map fun p=>V.int (Oc p)))∧Hk P w H sd (Ie n ws ws.length)
noncomputable def Oo (t:Adr):Sp:=fun vs H Q _=>∃ p dx c wl n ds ws,vs=[.ref p,.ref c,.ref wl]∧H p=some (.ins t.Vb dx [])∧Ze t H c n ds∧0 < n∧mo H wl ws∧(∀ q ∈ ws,∃ i:Nat,ds[i]? = some q.1)∧ws.length ≤ 20∧(∀ q ∈ ws,0 ≤ q.2∧q.2 ≤ 100000)∧NoT H ∧
 ∀ H',ee p H H'→NoT H'→Xc P w t H' p n ws→Q .non H'
end
noncomputable def So:List Str:=[Str.ofString "many",Str.ofString "alones",Str.ofString "steps"]
theorem zn (m:Int) (al sd:Addr):(cm m al sd).map (·.1)=So:=rfl
section
variable {P:Program} {w:World} {K:PySem.W.Frag} {mg:Str→Option Value} {base:Heap} {t:Adr}
theorem vd (T:Txt w K mg t) {H:Hp} {p dx al sd:Addr} {m:Int} (e:H p=some (.ins t.Vb dx (cm m al sd))):el K H p (Str.ofString "steps") (.ref sd):=⟨_,dx,_,e,T.Di,T.Vj,Be So 2 (zn ..) (by decide +kernel) rfl⟩
theorem Wi (T:Txt w K mg t) {H:Hp} {p dx al sd:Addr} {m:Int} (e:H p=some (.ins t.Vb dx (cm m al sd))):el K H p (Str.ofString "alones") (.ref al):=⟨_,dx,_,e,T.Di,T.Cj,Be So 1 (zn ..) (by decide +kernel) rfl⟩
theorem Zt (T:Txt w K mg t):Rb P w K mg base CX0 4 t.Wd t.Oe q22 (Oo P w t):=by
 have g10:Rb P w K mg base CX0 3 t.Hc t.gd q9 (ym t):=(Mp T).mono (by decide);have V_Way_ready:KK P w K mg base CX0 3 (isW t) "ready" ["self"] (Wj t):=oC (kJ T) (by decide);have V_Way_fade:KK P w K mg base CX0 3 (isW t) "fade" ["self"] (Dm t):=oC (PL T) (by decide);have g46:Rb P w K mg base CX0 3 t.By t.vy q12 (VC t):=eK T;have g47:Rb P w K mg base CX0 3 t.oG t.vH q12 (jI t):=BL T;refine T.Xm.ok Pc (fun vs H Q E h=>?_) (fun _ _ _ s H vs Q E hr h=>?_)
 ·obtain ⟨p,dx,c,wl,n,ds,ws,rfl,_⟩:=h;rfl
 obtain ⟨p,dx,c,wl,n,ds,ws,rfl,hp,C,hn,W,hds,hlen,hb,nt,q⟩:=h;have hu:=qk hr;refine ⟨_,(fb (pf (i:=3) Pc.nd rfl (Or.inl rfl) rfl (Of (pv 2)) (Dc (sc:=ub Eg) rfl (by decide +kernel)) (N:=q53) (sel:=[none,none,some 1]) (Wc (M:=q51) (by decide +kernel)) (Blk.of (fun _ _ _ _=>(lf (K:=K) (n:=2) rfl rfl (gc (Eb (i:=0) (eh (N:=q53) (by decide +kernel) rfl)) (gc (Eb (i:=1) (eh (N:=q53) (by decide +kernel) rfl)) jf)))) (fun _ _ _ _=>⟨_,gf,by walk_at "B"⟩) (fun _ _ _ _=>⟨_,(Ae (pv 2) T.Uc T.Td g10 hr T.Md .nil fe (ab (pv 0) ib)),by walk_at "B"⟩)) rfl)
   (fb (ug (pv 0) (qc Xb rfl T.Uh ic (ab (pv 2) ib)) rfl)
   (fb (ug (pv 0) (Og rfl (LM rfl T.FN (ab (pv 2) (ab (pv 3) ib))) (Dc (sc:=ub Eg) rfl (by decide +kernel)) (N:=["want","way"]) (sel:=[none,none]) (Wc (M:=q51) (by decide +kernel)) (Blk.of (fun _ _ _ _=>(lf (K:=K) (n:=2) rfl rfl (gc (Eb (i:=0) (eh (N:=["want","way"]) (by decide +kernel) rfl)) (gc (Eb (i:=1) (eh (N:=["want","way"]) (by decide +kernel) rfl)) jf)))) (fun _ _ _ _=>⟨_,gf,by walk_at "B"⟩) (fun _ _ _ _=>⟨_,(Ib Zb (Ib Zb (Kb ac (pv 0) jb) (Cv (pv 1) V_Way_fade hr fe)) (Cv (pv 1) V_Way_ready hr fe)),by walk_at "B"⟩))) rfl)
   (fb (ug (pv 0) FF rfl)
   (lb (rf PassesOwn.never rfl (Bp rfl T.Qf (ab (pv 2) ib)) (lf (K:=K) (n:=2) rfl rfl (gc (Eb (i:=4) Pc.nd) (gc (Eb (i:=5) Pc.nd) jf))) (lb (rf PassesOwn.never rfl (Bp rfl T.Qf (ab (pv 2) ib)) (lf (K:=K) (n:=2) rfl rfl (gc (Eb (i:=6) Pc.nd) (gc (Eb (i:=7) Pc.nd) jf))) (lb (jd (PW.pt (Av (Qb EG (pv 4) (pv 6) (cc _)) (At (ol (qb g46 hr T.cL T.ZB.kp T.TM (ab (pv 1) (ab (Kb ac (pv 5) jb) (ab (Kb ac (pv 7) jb) ib)))))))) (lb (cx hu (fc (pv 0) rfl) (Ec (ab (pv 4) (ab (pv 6) ib))) (Ib Zb (Kb ac (pv 5) jb) (qb g47 hr T.rN T.rK.kp T.qN (ab (pv 1) (ab (Kb ac (pv 5) jb) (ab (Kb ac (pv 7) jb) ib))))) rfl)) Sb)))))))))),?_⟩
 obtain ⟨qs,w1,w2,al⟩:=id W;have hql:(qs.map V.ref).length ≤ sizeLine:=Nat.le_trans (show (qs.map V.ref).length ≤ 20 by rw [List.length_map,w2];exact hlen) (by decide);obtain ⟨_,dxc,wlc,ndc,ec1,ec2,ec3⟩:=id C;walk_at "RD";refine ⟨⟨_,SqL.of w1⟩,?_⟩;refine ad.list (xs:=qs.map V.ref) (fun i ys H'=>H'=H∧∃ as:List Addr,ys=as.map V.ref∧as.length=i∧∀ (j:Nat) (a:Addr) (q:WD × Int),as[j]? = some a→ws[j]? = some q→Me t H a q.1) hql ⟨rfl,[],rfl,rfl,fun j a q h=>by simp at h⟩ (fun i ys H' _ ⟨e,as,e1,e2,_⟩=>by subst e e1;exact ⟨SqL.of w1,by rw [List.length_map,e2];exact Nat.le_refl _⟩) ?_ ?_
 ·rintro i x ys H' hx ⟨rfl,as,rfl,e2,e3⟩ N hN;obtain ⟨qi,hqi,rfl⟩:=sf hx;have hi:i < ws.length:=by rw [← w2];exact (List.getElem?_eq_some_iff.mp hqi).1
  have hwi:ws[i]? = some ws[i]:=List.getElem?_eq_getElem hi;have hq:=al i qi _ hqi hwi;obtain ⟨k,hk⟩:=hds _ (List.mem_of_getElem? hwi);refine Lk (SqT.of hq) ?_;walk_at "RD";refine ⟨Sub.name2,_,_,ec1,ZK _ _ _ (by decide +kernel),⟨c,n,ds,k,_,rfl,C,hk,fun a Wa=>?_⟩⟩;show N (as.map V.ref ++ [V.ref a]) H';rw [show as.map V.ref ++ [V.ref a]=(as ++ [a]).map V.ref by rw [List.map_append];rfl];refine hN _ _ ⟨rfl,as ++ [a],rfl,by rw [List.length_append,e2];rfl,fun j b q h1 h2=>?_⟩;rcases Ki h1 with z | z
  ·exact e3 j b q z.2 h2
  ·obtain ⟨z1,rfl⟩:=z;rw [z1,e2,hwi] at h2;cases h2;exact Wa
 ·rintro ys H' ⟨rfl,as,rfl,e2,e3⟩ pw hpw;rw [List.length_map,w2] at e2;walk_at "RD";have s1:Tb H' (upd H' pw (.lst (as.map V.ref))):=db hpw;have hpp:pw ≠ p:=fun z=>by subst z;rw [hp] at hpw;cases hpw
  refine ⟨_,.inl (SqL.of (s1 _ _ w1)),_,_,_,s1 _ _ hp,T.Di,T.Cl,by decide,?_⟩;have sx2:ee p H' (upd (upd H' pw (.lst (as.map V.ref))) p (.ins t.Vb dx [(Str.ofString "many",V.int (ws.length:Int))])):=fun b u hb e=>by rw [Db hb];exact s1 _ _ e
  have e2p:(upd (upd H' pw (.lst (as.map V.ref))) p (.ins t.Vb dx [(Str.ofString "many",V.int (ws.length:Int))])) p=some (.ins t.Vb dx [(Str.ofString "many",V.int (ws.length:Int))]):=gb;have e2w:(upd (upd H' pw (.lst (as.map V.ref))) p (.ins t.Vb dx [(Str.ofString "many",V.int (ws.length:Int))])) pw=some (.lst (as.map V.ref)):=by rw [Db hpp];exact gb
  have nt2:NoT (upd (upd H' pw (.lst (as.map V.ref))) p (.ins t.Vb dx [(Str.ofString "many",V.int (ws.length:Int))])):=(nt.upd).upd;rw [show Gi (Str.ofString "many") (V.int ((qs.map V.ref).length:Int)) ([]:List (Str × V))=[(Str.ofString "many",V.int (ws.length:Int))] by rw [List.length_map,w2];rfl];generalize upd (upd H' pw (.lst (as.map V.ref))) p (.ins t.Vb dx [(Str.ofString "many",V.int (ws.length:Int))])=H2 at sx2 e2p e2w nt2 ⊢;have wl2:H2 wl=some (.lst (qs.map V.ref)):=sx2 _ _ (Ji w1 hp (by intro z;cases z)) w1;refine ⟨⟨_,SqL.of wl2⟩,⟨_,SqL.of e2w⟩,?_⟩;refine uH (xs:=qs.map V.ref) (ys:=as.map V.ref) (fun i zs H3=>Tb H2 H3∧NoT H3∧zs=(ws.take i).map fun p=>V.int (Oc p)) ws.length (by rw [List.length_map,List.length_map,w2,e2];simp) (Nat.le_trans hlen (by decide)) ⟨Tb.refl _,nt2,rfl⟩ (fun i zs H3 hi ⟨sm,_,e⟩=>⟨⟨(SqL.of wl2).same sm,(SqL.of e2w).same sm⟩,by rw [e,List.length_map,List.length_take];omega⟩) ?_ ?_
  ·rintro i x y zs H3 r hx hy ⟨sm,nt3,rfl⟩ hr3 N hN;obtain ⟨qi,hqi,rfl⟩:=sf hx;obtain ⟨ai,hai,rfl⟩:=sf hy;have hi:i < ws.length:=by rw [← w2];exact (List.getElem?_eq_some_iff.mp hqi).1
   have hwi:ws[i]? = some ws[i]:=List.getElem?_eq_getElem hi;have hq:H2 qi=some (.tup [.str ws[i].1.name,.int ws[i].2]):=sx2 _ _ (Ji (al i qi _ hqi hwi) hp (by intro z;cases z)) (al i qi _ hqi hwi);have Wa:Me t H3 ai ws[i].1:=(cN hp sx2 (e3 i ai _ hai hwi)).same sm;have sm4:Tb H3 (upd H3 r (.tup [.ref qi,.ref ai])):=db hr3;have Wb:=Wa.same sm4;refine ah ?_;walk_at "RD";obtain ⟨dk,dxw,hway⟩:=id Wb;refine ⟨Sub.name2,_,SqT.of (sm4 _ _ (sm _ _ hq)),_,Cb (j:=1) rfl,_,_,_,hway,⟨_,dk,rfl⟩,aI (by decide +kernel),_,_,rfl,Wb,rfl,_,rfl,_,rfl,_,_,_,hway,⟨_,dk,rfl⟩,aI (by decide +kernel),_,_,rfl,Wb,rfl,_,rfl,?_⟩;refine hN _ _ ⟨sm.trans sm4,nt3.upd,?_⟩;rw [List.take_add_one,hwi,List.map_append];rfl
  ·rintro zs H3 ⟨sm,nt3,rfl⟩ pa hpa;rw [List.take_length];walk_at "RD";have s4:Tb H3 (upd H3 pa (.lst (ws.map fun p=>V.int (Oc p)))):=db hpa;have hpap:pa ≠ p:=fun z=>by subst z;rw [sm _ _ e2p] at hpa;cases hpa
   refine ⟨_,_,_,s4 _ _ (sm _ _ e2p),T.Di,T.Cj,(show (1:Nat) < 1000 by decide),fun sd o hsd hD=>?_⟩;rw [show Gi (Str.ofString "alones") (V.ref pa) [(Str.ofString "many",V.int (ws.length:Int))]=[(Str.ofString "many",V.int (ws.length:Int)),(Str.ofString "alones",V.ref pa)] from Yd [Str.ofString "many"] rfl (by decide +kernel)] at hsd hD ⊢;have hsp:sd ≠ p:=fun z=>by subst z;rw [gb] at hsd;cases hsd
   have hsn:H3 sd=none:=by
    rw [Db hsp] at hsd;by_cases z:sd=pa
    ·subst z;exact hpa
    ·rw [Db z] at hsd;exact hsd
   have hsa:sd ≠ pa:=fun z=>by subst z;rw [Db hsp,gb] at hsd;cases hsd
   refine ⟨t.Vb,dx,[(Str.ofString "many",V.int (ws.length:Int)),(Str.ofString "alones",V.ref pa)],by rw [Db (Ne.symm hsp)];exact gb,T.Di,T.Vj,show (2:Nat) < 1000 by decide,?_⟩;rw [show Gi (Str.ofString "steps") (V.ref sd) [(Str.ofString "many",V.int (ws.length:Int)),(Str.ofString "alones",V.ref pa)]=cm ws.length pa sd from Yd [Str.ofString "many",Str.ofString "alones"] rfl (by decide +kernel)];have sx7:ee p H' (upd (upd (upd (upd H3 pa (.lst (ws.map fun p=>V.int (Oc p)))) p (.ins t.Vb dx [(Str.ofString "many",V.int (ws.length:Int)),(Str.ofString "alones",V.ref pa)])) sd (.ext (AtO sd o))) p (.ins t.Vb dx (cm ws.length pa sd))):=fun b u hb e=>by
    have e4:=sm _ _ (sx2 _ _ hb e);rw [Db hb,Db (Jb e4 hsn),Db hb];exact s4 _ _ e4
   have e7p:(upd (upd (upd (upd H3 pa (.lst (ws.map fun p=>V.int (Oc p)))) p (.ins t.Vb dx [(Str.ofString "many",V.int (ws.length:Int)),(Str.ofString "alones",V.ref pa)])) sd (.ext (AtO sd o))) p (.ins t.Vb dx (cm ws.length pa sd))) p=some (.ins t.Vb dx (cm ws.length pa sd)):=gb;have e7a:(upd (upd (upd (upd H3 pa (.lst (ws.map fun p=>V.int (Oc p)))) p (.ins t.Vb dx [(Str.ofString "many",V.int (ws.length:Int)),(Str.ofString "alones",V.ref pa)])) sd (.ext (AtO sd o))) p (.ins t.Vb dx (cm ws.length pa sd))) pa=some (.lst (ws.map fun p=>V.int (Oc p))):=by
    rw [Db hpap,Db (Ne.symm hsa),Db hpap];exact gb
   have nt7:NoT (upd (upd (upd (upd H3 pa (.lst (ws.map fun p=>V.int (Oc p)))) p (.ins t.Vb dx [(Str.ofString "many",V.int (ws.length:Int)),(Str.ofString "alones",V.ref pa)])) sd (.ext (AtO sd o))) p (.ins t.Vb dx (cm ws.length pa sd))):=(((nt3.upd).upd).upd).upd;have D7:=kG (u:=.ins t.Vb dx (cm ws.length pa sd)) hD (Ne.symm hsp) (fun xs z=>by rw [Db (Ne.symm hsp),gb] at z;cases z);generalize upd (upd (upd (upd H3 pa (.lst (ws.map fun p=>V.int (Oc p)))) p (.ins t.Vb dx [(Str.ofString "many",V.int (ws.length:Int)),(Str.ofString "alones",V.ref pa)])) sd (.ext (AtO sd o))) p (.ins t.Vb dx (cm ws.length pa sd))=H7 at sx7 e7p e7a nt7 D7 ⊢;have hwp:wl ≠ p:=Ji w1 hp (by intro z;cases z);have hpsn:H' sd=none:=by
    cases e:H' sd with
    | none=>rfl
    | some u=>
     have:=sm _ _ (sx2 _ _ hsp e);rw [hsn] at this;cases this
   refine ⟨⟨_,SqL.of (sx7 _ _ hwp w1)⟩,?_⟩;refine Hj.enum (xs:=qs.map V.ref) (fun i σ H8=>(∃ a b c' d,σ=[some (V.ref p),some (V.ref c),some (V.ref wl),some (V.ref pw),a,b,c',d])∧ee p H' H8∧NoT H8∧H8 p=some (.ins t.Vb dx (cm ws.length pa sd))∧H8 pa=some (.lst (ws.map fun p=>V.int (Oc p)))∧Hk P w H8 sd (Ie n ws i)) ?_ ?_ ?_ ?_
   ·exact ⟨⟨_,_,_,_,rfl⟩,sx7,nt7,e7p,e7a,D7⟩
   ·rintro i σ H8 hi ⟨_,sx8,_⟩;exact SqL.of (sx8 _ _ hwp w1)
   ·rintro i v σ H8 r hv ⟨⟨a,b,c',d,rfl⟩,sx8,nt8,e8p,e8a,D8⟩ hr8;obtain ⟨qi,hqi,rfl⟩:=sf hv;have hi:i < ws.length:=by rw [← w2];exact (List.getElem?_eq_some_iff.mp hqi).1
    have hwi:ws[i]? = some ws[i]:=List.getElem?_eq_getElem hi;have eqi:∀ {H9:Hp},ee p H' H9→H9 qi=some (.tup [.str ws[i].1.name,.int ws[i].2]):=fun sx=>sx _ _ (Ji (al i qi _ hqi hwi) hp (by intro z;cases z)) (al i qi _ hqi hwi)
    obtain ⟨ki,hki⟩:=hds _ (List.mem_of_getElem? hwi);refine ah ?_;walk_at "RD";have s9:Tb H8 (upd H8 r (.tup [.int i,.ref qi])):=db hr8;refine ⟨⟨_,SqL.of (s9 _ _ (sx8 _ _ hwp w1))⟩,?_⟩;refine Hj.enum (xs:=qs.map V.ref) (fun j σ H9=>(∃ c' d,σ=[some (V.ref p),some (V.ref c),some (V.ref wl),some (V.ref pw),some (V.int (i:Int)),some (V.ref qi),c',d])∧ee p H' H9∧NoT H9∧H9 p=some (.ins t.Vb dx (cm ws.length pa sd))∧H9 pa=some (.lst (ws.map fun p=>V.int (Oc p)))∧Hk P w H9 sd (Ie n ws i ++ gi n ws i j)) ?_ ?_ ?_ ?_
    ·exact ⟨⟨_,_,rfl⟩,sx8.trans (ee.of s9),nt8.upd,s9 _ _ e8p,s9 _ _ e8a,by rw [EB,List.append_nil];exact Pb D8 s9⟩
    ·rintro j σ H9 hj ⟨_,sx9,_⟩;exact SqL.of (sx9 _ _ hwp w1)
    ·rintro j v σ H9 r2 hv ⟨⟨c2,d2,rfl⟩,sx9,nt9,e9p,e9a,D9⟩ hr9;obtain ⟨qj,hqj,rfl⟩:=sf hv;have hj:j < ws.length:=by rw [← w2];exact (List.getElem?_eq_some_iff.mp hqj).1
     have hwj:ws[j]? = some ws[j]:=List.getElem?_eq_getElem hj;obtain ⟨kj,hkj⟩:=hds _ (List.mem_of_getElem? hwj);have s10:Tb H9 (upd H9 r2 (.tup [.int j,.ref qj])):=db hr9;have sx10:=sx9.trans (ee.of (p:=p) s10);have eqj:∀ {H9:Hp},ee p H' H9→H9 qj=some (.tup [.str ws[j].1.name,.int ws[j].2]):=fun sx=>sx _ _ (Ji (al j qj _ hqj hwj) hp (by intro z;cases z)) (al j qj _ hqj hwj)
     have nt10:NoT (upd H9 r2 (.tup [.int j,.ref qj])):=nt9.upd;have e10p:=s10 _ _ e9p;have e10a:=s10 _ _ e9a;have D10:=Pb D9 s10;refine ah ?_;simp only [List.set_cons_succ,List.set_cons_zero];generalize upd H9 r2 (.tup [.int j,.ref qj])=H10 at sx10 nt10 e10p e10a D10 ⊢;by_cases hij:i=j
     ·refine Mb false (fun Q hQ=>?_) (fun z=>nomatch z) (fun _=>?_)
      ·walk_at "RD";rw [if_neg (by simp [hij])];exact hQ
      ·simp only [bc];exact ⟨⟨_,_,rfl⟩,sx10,nt10,e10p,e10a,by rw [Au hwi hwj (fun z=>z.1 hij)];exact D10⟩
     refine Mb (mt n ws[i].1 ws[j].1) (fun Q hQ=>?_) (fun hm=>?_) (fun hm=>?_)
     ·walk_at "RD";rw [if_pos (by simp;omega)];exact ⟨_,SqT.of (eqi sx10),_,Cb (j:=0) rfl,_,SqT.of (eqj sx10),_,Cb (j:=0) rfl,c,n,ds,ki,kj,_,_,rfl,IC hp sx10 C,hn,hki,hkj,nt10,_,rfl,hQ⟩
     ·walk_at "RD";refine ⟨_,SqT.of (eqi sx10),_,Cb (j:=1) rfl,_,SqT.of (eqi sx10),_,Cb (j:=0) rfl,_,SqT.of (eqj sx10),_,Cb (j:=0) rfl,c,n,ds,ki,kj,_,_,rfl,IC hp sx10 C,hki,hkj,_,rfl,_,rfl,_,vd T e10p,by decide,fun tp htp=>⟨sd,rfl,_,Pb D10 (db htp),Ve i j,(show upd H10 tp (.tup [V.int (i:Int),V.int (j:Int)]) tp=some (HO.tup [V.int (i:Int),V.int (j:Int)]) from gb),?_,fun o hD2=>⟨⟨_,rfl⟩,?_,(nt10.upd).upd,?_,?_,?_⟩⟩⟩
      ·have a1:=bw n ws i;have a2:=nw n ws i j;have a3:=Nat.mul_le_mul (show i ≤ 20 by omega) hlen;exact Nat.lt_of_le_of_lt (show (Ie n ws i ++ gi n ws i j).length ≤ 420 by rw [List.length_append];omega) (by decide)
      ·intro b u hb e;have e1:=sx10 _ _ hb e;rw [Db (Jb e hpsn),Db (Jb e1 htp)];exact e1
      ·rw [Db (Ne.symm hsp),Db (Jb e10p htp)];exact e10p
      ·rw [Db (Ne.symm hsa),Db (Jb e10a htp)];exact e10a
      ·rw [← lH hwi hwj ⟨hij,hm⟩];exact hD2
     ·simp only [bc];exact ⟨⟨_,_,rfl⟩,sx10,nt10,e10p,e10a,by rw [Au hwi hwj (fun z=>by rw [hm] at z;exact nomatch z.2)];exact D10⟩
    ·rintro σ H9 zzq;refine zP fun zzM zzh=>?_
     obtain ⟨⟨c2,d2,rfl⟩,sx9,nt9,e9p,e9a,D9⟩:=zzq;subst zzh;rw [List.length_map,w2,← Es] at D9;exact ⟨⟨_,_,_,_,rfl⟩,sx9,nt9,e9p,e9a,D9⟩
   ·rintro σ H8 zzq;refine zP fun zzM zzh=>?_
    obtain ⟨⟨a,b,c',d,rfl⟩,sx8,nt8,e8p,e8a,D8⟩:=zzq;subst zzh;rw [List.length_map,w2] at D8;walk_at "RD";exact q _ sx8 nt8 ⟨dx,pa,sd,e8p,e8a,D8⟩
end
theorem Jq {H H':Hp} {wl:Addr} {ws:List (WD × Int)} (h:mo H wl ws) (s:Tb H H'):mo H' wl ws:=by
 obtain ⟨qs,w1,w2,w3⟩:=h;exact ⟨qs,s _ _ w1,w2,fun i q p h1 h2=>s _ _ (w3 i q p h1 h2)⟩
theorem EI:∀ ks:List Int,ks ≠ []→∃ m,m ∈ ks∧∀ k ∈ ks,k ≤ m
 | [],h=>absurd rfl h
 | [k],_=>⟨k,by simp,by simp⟩
 | k :: k2 :: ks,_=>by
  obtain ⟨m,h1,h2⟩:=EI (k2 :: ks) (by simp);by_cases h:k ≤ m
  ·exact ⟨m,List.mem_cons_of_mem _ h1,fun x hx=>(List.mem_cons.mp hx).elim (fun e=>by rw [e];exact h) (h2 x)⟩
  ·exact ⟨k,List.mem_cons_self ..,fun x hx=>(List.mem_cons.mp hx).elim (fun e=>by rw [e];exact Int.le_refl _) (fun z=>by have:=h2 x z;omega)⟩
theorem QE {H:Hp} {kvs:List (List Key × V)} {xs:List (List Key × Addr × Value)} (r:Paired (fun (p:List Key × V) (q:List Key × Addr × Value)=>p.1=q.1∧H q.2.1=some (.tup (p.1.map kV))∧Bd p.2 q.2.2) kvs xs):kvs.map (·.1)=xs.map (·.1):=by
 induction r with
 | nil=>rfl
 | cons h _ ih=>rw [List.map_cons,List.map_cons,ih,h.1]
theorem QB {k:List Key} {v:V}:∀ {kvs:List (List Key × V)},(kvs.map (·.1)).Nodup→(k,v) ∈ kvs→Ej kvs k=some v
 | [],_,h=>nomatch h
 | p :: r,nd,h=>by
  rw [List.map_cons,List.nodup_cons] at nd;rcases List.mem_cons.mp h with e | e
  ·rw [← e];exact Tk rfl
  ·rw [Ek (fun z=>nd.1 (by rw [z];exact List.mem_map_of_mem (f:=(·.1)) e))];exact QB nd.2 e
noncomputable def DoB (n:Int) (ws:List (WD × Int)) (size:Int) (bs:List Int):Prop:=(∀ p ∈ ws,Oc p ≤ size)∧∀ (i j:Nat) (p q:WD × Int) (x y:Int),ws[i]? = some p→ws[j]? = some q→i ≠ j→mt n p.1 q.1=true→bs[i]? = some x→bs[j]? = some y→p.2 + Et p.1 q.1 ≤ (y - x) % size
noncomputable def xN (ws:List (WD × Int)) (size:Int) (bs:List Int) (kv:List Key × V):Prop:=∀ (i j:Nat) (p q:WD × Int) (x y:Int),kv=(Ve i j,V.int (p.2 + Et p.1 q.1))→ws[i]? = some p→ws[j]? = some q→bs[i]? = some x→bs[j]? = some y→p.2 + Et p.1 q.1 ≤ (y - x) % size
theorem zy {n:Int} {ws:List (WD × Int)} {i j:Nat} {p q:WD × Int} (hi:ws[i]? = some p) (hj:ws[j]? = some q) (hij:i ≠ j) (hm:mt n p.1 q.1=true):(Ve i j,V.int (p.2 + Et p.1 q.1)) ∈ Ie n ws ws.length:=by
 unfold Ie;refine List.mem_flatMap.mpr ⟨i,List.mem_range.mpr (List.getElem?_eq_some_iff.mp hi).1,?_⟩;unfold gi;refine List.mem_filterMap.mpr ⟨j,List.mem_range.mpr (List.getElem?_eq_some_iff.mp hj).1,?_⟩;simp only [hi,hj,if_pos (And.intro hij hm)]
noncomputable def BO (t:Adr) (H:Hp) (vs:List V) (n:Int) (ws:List (WD × Int)) (size:Int) (bs:List Int):Prop:=∃ c wl bl ds,vs=[.ref c,.ref wl,.int size,.ref bl]∧Ze t H c n ds∧0 < n∧mo H wl ws∧(∀ q ∈ ws,∃ i:Nat,ds[i]? = some q.1)∧(0 < ws.length∧ws.length ≤ 20)∧(∀ q ∈ ws,0 ≤ q.2∧q.2 ≤ 100000)∧H bl=some (.lst (bs.map V.int))∧bs.length=ws.length∧0 < size∧NoT H
noncomputable def zJ (t:Adr):Sp:=fun vs H Q _=>∃ n ws size bs,BO t H vs n ws size bs∧∀ r H',Tb H H'→(r=true↔DoB n ws size bs)→Q (.bl r) H'
noncomputable def QH (t:Adr):Sp:=fun vs H Q _=>∃ n ws size bs,BO t H vs n ws size bs∧∀ r,(r=true↔DoB n ws size bs)→Q (.bl r) H
section
variable {P:Program} {w:World} {K:PySem.W.Frag} {mg:Str→Option Value} {base:Heap} {t:Adr}
theorem LK (T:Txt w K mg t):Rb P w K mg base CX0 6 t.Lg t.Qg q25 (zJ t):=by
 have g13:Rb P w K mg base CX0 4 t.Wd t.Oe q22 (Oo P w t):=Zt T;refine T.Pl.ok kh (fun vs H Q E h=>?_) (fun _ _ _ s H vs Q E hr h=>?_)
 ·obtain ⟨n,ws,size,bs,⟨c,wl,bl,ds,rfl,_⟩,_⟩:=h;rfl
 obtain ⟨n,ws,size,bs,⟨c,wl,bl,ds,rfl,C,hn,W,hds,⟨hl0,hlen⟩,hb,eb,hbl,hsz,nt⟩,q⟩:=h;have hu:=qk hr;refine ⟨_,(fb (wb (i:=4) kh.nd (fk T.iu g13 hr rfl T.bu T.Oi .nil fe (ab (pv 0) (ab (pv 1) ib))))
   (fb (jd (Qb yo (qc (BC rfl) rfl T.LG wn (ab (fc (pv 4) rfl) ib)) (pv 2) (cc _)) (lb (Gb Qj)) Sb)
   (fb (rf PassesOwn.never rfl (ny (fc (pv 4) rfl)) (lf (K:=K) (n:=2) rfl rfl (gc (Eb (i:=5) kh.nd) (gc (Eb (i:=6) kh.nd) jf))) (lb (jd (Qb ix (Ib lg (Ib ij (Kb Ye (pv 3) (pv 6)) (Kb Ye (pv 3) (pv 5))) (pv 2)) (ax hu (fc (pv 4) rfl) (Ec (ab (pv 5) (ab (pv 6) ib))) (fun _ _=>rfl)) (cc _)) (lb (Gb Qj)) Sb)))
   (lb (Gb Qj))))),?_⟩
 walk_at "RD";intro x dx hx hdx hne;have s1:Tb H (upd (upd H dx (.own x)) x (.ins t.Vb dx [])):=(db hdx).trans (db (by rw [Db (Ne.symm hne)];exact hx));refine ⟨x,dx,c,wl,n,ds,ws,rfl,gb,C.same s1,hn,Jq W s1,hds,hlen,hb,(nt.upd).upd,fun H2 sx2 nt2 WA=>⟨rfl,?_⟩⟩;have s2:Tb H H2:=fun b u e=>sx2 b u (Jb e hx) (s1 _ _ e)
 obtain ⟨dx',al,sd,e1,e2,D⟩:=WA;obtain ⟨m,hm1,hm2⟩:=EI (ws.map Oc) (by intro z;rw [List.map_eq_nil_iff] at z;rw [z] at hl0;exact absurd hl0 (by decide));have e2':H2 al=some (.lst ((ws.map Oc).map V.int)):=by rw [List.map_map];exact e2
 refine Mb (decide (size < m)) (fun Q hQ=>?_) (fun h=>?_) (fun h=>?_)
 ·walk_at "RD";exact ⟨_,Wi T e1,_,rfl,_,SqL.of e2',m,hm1,hm2,hQ⟩
 ·have h':=of_decide_eq_true h;walk_at "RD";refine q false H2 s2 ⟨(fun z=>by cases z),fun z=>?_⟩;obtain ⟨p,hp,rfl⟩:=List.mem_map.mp hm1;have:=z.1 p hp;omega
 have h':=of_decide_eq_false h;walk_at "RD";refine ⟨_,vd T e1,_,rfl,_,D,fun o es ep xs r=>?_⟩;have nd:((Ie n ws ws.length).map (·.1)).Nodup:=by rw [QE r.ks];exact r.nd
 refine Hj.of (n:=(Ie n ws ws.length).length) (fun i σ H3=>(∃ a b,σ=[some (V.ref c),some (V.ref wl),some (V.int size),some (V.ref bl),some (V.ref x),a,b])∧Tb H2 H3∧∀ (l:Nat) (kv:List Key × V),l < i→(Ie n ws ws.length)[l]? = some kv→xN ws size bs kv) ?_ ?_ ?_ ?_ ?_
 ·exact ⟨⟨_,_,rfl⟩,Tb.refl _,fun l kv hl=>absurd hl (Nat.not_lt_zero _)⟩
 ·rintro i σ H3 hi ⟨_,s3,_⟩;exact ⟨s3 _ _ r.at_,hi⟩
 ·rintro σ H3 ⟨_,s3,_⟩;exact ⟨s3 _ _ r.at_,Nat.le_refl _⟩
 ·rintro i σ H3 v H4 hi ⟨⟨a,b,rfl⟩,s3,hpass⟩ ⟨rfl,k,bb,u,hxs,rfl⟩;have hkv:(Ie n ws ws.length)[i]? = some (Ie n ws ws.length)[i]:=List.getElem?_eq_getElem hi;have hmem:=List.mem_of_getElem? hkv;generalize (Ie n ws ws.length)[i]=kv at hkv hmem;obtain ⟨q',hq',z1,z2,z3⟩:=vx r.ks hkv;rw [hxs] at hq';cases hq';obtain ⟨k0,hk0,z⟩:=gq hmem;obtain ⟨j0,p,q',hj0,hp0,hq0,hne0,hmt,rfl⟩:=im z;have z4:H4 bb=some (.tup [.int (k0:Int),.int (j0:Int)]):=s3 _ _ z2;have hk1:k0 < bs.length:=by omega
  have hj1:j0 < bs.length:=by omega
  have hx0:bs[k0]? = some bs[k0]:=List.getElem?_eq_getElem hk1;have hy0:bs[j0]? = some bs[j0]:=List.getElem?_eq_getElem hj1;refine Lk (SqT.of z4) ?_;simp only [List.set_cons_succ,List.set_cons_zero];refine Ih (fun b H5=>Tb H2 H5∧(b=true↔(bs[j0] - bs[k0]) % size < p.2 + Et p.1 q'.1)) (fun Q hQ=>?_) (fun H5 r5=>?_) (fun H5 r5=>?_)
  ·have ebl:H4 bl=some (.lst (bs.map V.int)):=s3 _ _ (s2 _ _ eb);walk_at "RD";exact ⟨_,SqL.of ebl,_,Cb (j:=j0) (by rw [List.getElem?_map,hy0];rfl),_,SqL.of ebl,_,Cb (j:=k0) (by rw [List.getElem?_map,hx0];rfl),_,rfl,_,rfl,hsz,_,vd T (s3 _ _ e1),by decide,fun tp htp=>⟨sd,rfl,_,Pb (Pb D s3) (db htp),Ve k0 j0,(show upd H4 tp (.tup [V.int (k0:Int),V.int (j0:Int)]) tp=some (HO.tup [V.int (k0:Int),V.int (j0:Int)]) from gb),_,QB nd hmem,_,rfl,hQ _ _ ⟨s3.trans (db htp),decide_eq_true_iff⟩⟩⟩
  ·walk_at "RD";refine q false H5 (s2.trans r5.1) ⟨(fun z=>by cases z),fun z=>?_⟩;have a1:=z.2 k0 j0 p q' _ _ hp0 hq0 hne0 hmt hx0 hy0;have a2:=r5.2.mp rfl;omega
  ·simp only [bc];refine ⟨⟨_,_,rfl⟩,r5.1,fun l kv' hl hkv'=>?_⟩;by_cases hli:l < i
   ·exact hpass l kv' hli hkv'
   ·have e:l=i:=by omega
    subst e;rw [hkv] at hkv';cases hkv';intro i' j' p2 q2 x2 y2 ek e5 e6 e7 e8;have ek1:=Vg (congrArg Prod.fst ek);obtain ⟨rfl,rfl⟩:=ek1;rw [hp0] at e5;cases e5;rw [hq0] at e6;cases e6;rw [hx0] at e7;cases e7;rw [hy0] at e8;cases e8;by_cases g:(bs[j0] - bs[k0]) % size < p.2 + Et p.1 q'.1
    ·exact absurd (r5.2.mpr g) (by decide)
    ·omega
 ·rintro σ H3 zzq;refine zP fun zzM zzh=>?_
  obtain ⟨⟨a,b,rfl⟩,s3,hpass⟩:=zzq;subst zzh;walk_at "RD";refine q true H3 (s2.trans s3) ⟨fun _=>⟨fun p hp=>?_,fun i j p q' x y hi hj hij hmt hx hy=>?_⟩,fun _=>rfl⟩
  ·have:=hm2 _ (List.mem_map_of_mem hp);omega
  ·obtain ⟨l,hl⟩:=List.getElem?_of_mem (zy hi hj hij hmt);exact hpass l _ (List.getElem?_eq_some_iff.mp hl).1 hl i j p q' x y rfl hi hj hx hy
theorem qM (T:Txt w K mg t):Rb P w K mg base CX0 6 t.Lg t.Qg q25 (QH t):=
 (LK T).forget fun vs H Q E h=>by
  obtain ⟨n,ws,size,bs,D,q⟩:=h;obtain ⟨c,wl,bl,ds,_,_,_,_,_,_,_,_,_,_,nt⟩:=id D;exact ⟨nt,n,ws,size,bs,D,fun r H' sm hr=>⟨sm,q r hr⟩⟩
end
end My
namespace My
open PySem L2
section
open PySem.Spec PyProof.Rows
section
variable {prog:Program} {w:World} {A:Around} {R:Result→Shared→Prop} {I:Addr} {fp wr:List Addr} {n:Nat} {P:Nat→Value→Prop} {St:Nat→Heap→Prop}
theorem ZD (W:Walks prog w A.in1 I fp wr n P St) (bt:Nat→Nat→Bool) (hcmp:CmpOf prog w A.in1 .Gt P bt) (S:Addr) (hSf:S ∉ fp) (dv:Value) (kn:Str) :
  ∀ (k j:Nat) (s:Shared) (acc:Array Value) (c:Nat),n - j=k→j ≤ n→St j s.heap→EM P bt j acc →
  s.heap.get? S=some { cls:=.type "list",dict:=none,data:=.seq acc c,slots:=#[] } →
  (∀ v h' tk,(n=0∧v=dv)∨(0 < n∧P (argBest bt (n - 1)) v)→(∀ b o,b ∉ wr→b ≠ S→s.heap.get? b=some o→h'.get? b=some o)→R (.ok (.ret v)) { s with heap:=h',toks:=tk }) →
  codeAny (model prog w) A (.builtin "max.loop" ⟨[.ref I,.none,.ref S],[(kn,dv)]⟩) R s:=by
 have hSw:S ∉ wr:=fun h=>hSf (W.sub _ h)
 have hname:(toString "max" ++ toString ".loop" : String) = "max.loop" := by decide
 intro k
 induction k with
 | zero=>
  intro j s acc c hk hj hst hB hS hR;have hin:j=n:=by omega
  refine codeAny_builtin PySem.F.entry_max_loop ?_;rw [Around.under_plainId PySem.F.plain_max_loop _];show wpAny _ A.in1 (seqItems? (.ref S) >>= _) _ _ s;refine wpAny_bind (wpAny_seqItems hS rfl ?_);show wpAny _ A.in1 (tryCatch (pyNext (.ref I)) _ >>= _) _ _ s;refine wpAny_bind (wpAny_tryCatch (W.done s _ _ (hin ▸ hst) fun h' tk hk'=>?_));have hS':=hk' S _ hSw hS;rcases hB with ⟨h0,rfl⟩ | ⟨vb,i,hi,rfl,hP⟩
  ·show wpAny _ A.in1 (rule _ >>= _) _ _ _;refine wpAny_bind (wpAny_rule (wpAny_pure ?_));exact hR dv h' tk (.inl ⟨by omega,rfl⟩) fun b o hbw hbS e=>hk' b o hbw e
  ·show wpAny _ A.in1 (updateSeq S (fun _=>#[]) >>= _) _ _ _;refine wpAny_bind ?_;refine wpAny_updateSeq hS' rfl (wpAny_bind (wpAny_letGo (wpAny_pure ?_)));refine hR vb _ tk (.inr ⟨by omega,by rw [show n - 1=i by omega];exact hP⟩) fun b o hbw hbS e=>(Heap.get?_update_other _ _ (Ne.symm hbS)).trans (hk' b o hbw e)
 | succ k ih=>
  intro j s acc c hk hj hst hB hS hR;have hlt:j < n:=by omega
  refine codeAny_builtin PySem.F.entry_max_loop ?_;rw [Around.under_plainId PySem.F.plain_max_loop _];show wpAny _ A.in1 (seqItems? (.ref S) >>= _) _ _ s;refine wpAny_bind (wpAny_seqItems hS rfl ?_);show wpAny _ A.in1 (tryCatch (pyNext (.ref I)) _ >>= _) _ _ s;refine wpAny_bind (wpAny_tryCatch (W.item j s _ _ hlt hst fun v h' tk hP hst' hk'=>?_));have hS':=hk' S _ hSw hS;have put:∀ h'':Heap,h''=h'.update S (Obj.mapSeq (fun _=>#[v,v]))→St (j + 1) h'':=fun h'' e=>by
   subst e;exact W.frame _ _ _ hst' fun b hbf o e=>(Heap.get?_update_other _ _ (fun h:S=b=>hSf (by rw [h];exact hbf))).trans e
  rcases hB with ⟨h0,rfl⟩ | ⟨vb,i,hi,rfl,hPb⟩
  ·show wpAny _ A.in1 (updateSeq S (fun _=>#[v,v]) >>= _) _ _ _;refine wpAny_bind ?_;refine wpAny_updateSeq hS' rfl ?_;rw [hname];refine wpAny_pure ⟨plainId_quiet PySem.F.plain_max_loop _,ih (j + 1) _ #[v,v] _ (by omega) hlt (put _ rfl) (.inr ⟨v,j,rfl,rfl,by subst h0;exact hP⟩) (Heap.get?_update_self _ hS' rfl) fun v' h'' tk'' hP' hk''=>?_⟩;exact hR v' h'' tk'' hP' fun b o hbw hbS e=>hk'' b o hbw hbS ((Heap.get?_update_other _ _ (Ne.symm hbS)).trans (hk' b o hbw e))
  ·subst hi;show wpAny _ A.in1 (tryCatch (holding [v,v] (richCompare .Gt v vb >>= _)) _ >>= _) _ _ _;refine wpAny_bind (wpAny_tryCatch (wpAny_holding (wpAny_bind (hcmp (i + 1) (argBest bt i) v vb _ _ _ hP hPb ?_))));refine wpAny_bind (wpAny_holding (wpAny_truthy_bool ?_));refine wpAny_bind (wpAny_letGo (wpAny_pure ?_));cases hb:bt (i + 1) (argBest bt i) with
   | true=>
    simp only [if_true];refine wpAny_bind ?_;refine wpAny_updateSeq hS' rfl (wpAny_bind (wpAny_letGo ?_));rw [hname];refine wpAny_pure ⟨plainId_quiet PySem.F.plain_max_loop _,ih (i + 1 + 1) _ #[v,v] _ (by omega) hlt (put _ rfl) (.inr ⟨v,i + 1,rfl,rfl,by simp only [argBest,hb,if_true];exact hP⟩) (Heap.get?_update_self _ hS' rfl) fun v' h'' tk'' hP' hk''=>?_⟩;exact hR v' h'' tk'' hP' fun b o hbw hbS e=>hk'' b o hbw hbS ((Heap.get?_update_other _ _ (Ne.symm hbS)).trans (hk' b o hbw e))
   | false=>
    simp only [Bool.false_eq_true,if_false];refine wpAny_bind (wpAny_letGo ?_);rw [hname];refine wpAny_pure ⟨plainId_quiet PySem.F.plain_max_loop _,ih (i + 1 + 1) _ #[vb,vb] c (by omega) hlt hst' (.inr ⟨vb,i + 1,rfl,rfl,by simp only [argBest,hb,Bool.false_eq_true,if_false];exact hPb⟩) hS' fun v' h'' tk'' hP' hk''=>?_⟩;exact hR v' h'' tk'' hP' fun b o hbw hbS e=>hk'' b o hbw hbS (hk' b o hbw e)
end
section
variable {prog:Program} {w:World} {A:Around} {E:Value→Shared→Prop} {s:Shared}
theorem oF (a d:Value):argsOk "max" ⟨[a],[(Str.ofString "default",d)]⟩:=by unfold argsOk;kernel_rfl
theorem iC {l:Addr} {its:Array Value} {dv:Value} {Q:Value→Shared→Prop} (hh:A.handled=none) (hl:s.heap.IsList l its) (ks:List Int) (hk:its.size=ks.length) (hv:∀ (i:Nat) (v:Value),its[i]? = some v→∃ t,v=Value.int (ks.getD i 0) t)
  (hQ:∀ v h' tk,(ks=[]∧v=dv)∨(∃ m t,ks.max? = some m∧v=.int m t)→(∀ b o,s.heap.get? b=some o→h'.get? b=some o)→Q v { s with heap:=h',toks:=tk }) :
  wpAny (model prog w) A (call (.builtin "max") [.ref l] [(Str.ofString "default",dv)]) Q E s:=by
 have hname:(toString "max" ++ toString ".loop" : String) = "max.loop" := by decide
 have hlt:l < s.heap.objs.size:=by obtain ⟨_,e,_⟩:=hl;exact Heap.lt_size e
 refine wpAny_call (codeAny_call_builtin PySem.F.plain_max PySem.F.entry_max ?_);simp only [checkBuiltinCall,PySem.F.kind_max];have key:wpAny (model prog w) A.in1 (Builtin.«max» ⟨[.ref l],[(Str.ofString "default",dv)]⟩) (fun fin s'=>match fin with
   | .done f=>(match (Except.ok f:Result) with | .ok (.ret v)=>Q v s' | .ok _=>False | .error e=>E e s')
   | .again c'=>c'.quiet=true∧codeAny (model prog w) A c' (fun r s'=>match r with | .ok (.ret v)=>Q v s' | .ok _=>False | .error e=>E e s') s') E s:=by
  show wpAny _ A.in1 (Builtin.Builtins.bindParams "max" ["key","default"] 0 ⟨[],[(Str.ofString "default",dv)]⟩ >>= _) _ _ s;refine wpAny_bind (wpAny_of_eq (show Builtin.Builtins.bindParams "max" ["key","default"] 0 ⟨[],[(Str.ofString "default",dv)]⟩=pure [none,some dv] from rfl) ?_);refine wpAny_bind (wpAny_pure ?_);refine wpAny_bind (wpAny_pyIter_list hl ?_);refine wpAny_bind (wpAny_newObj_type ?_);rw [hname];have W:=Walks.list (prog:=prog) (w:=w) (A:=A.in1) hh s.heap.objs.size l (Nat.ne_of_lt hlt) its;have hz1:(s.heap.push { cls:=.type "list_iterator",data:=.fields #[.ref l,.int 0 0] }).objs.size=s.heap.objs.size + 1:=Heap.size_push ..;refine wpAny_pure ⟨plainId_quiet PySem.F.plain_max_loop _,ZD W _ (CmpOf.ints_gt (fun i=>ks.getD i 0) fun i v h=>hv i v h) _ ?_ dv _ its.size 0 _ #[] _ rfl (Nat.zero_le _) ?_ (.inl ⟨rfl,rfl⟩) (Heap.get?_push_size _ rfl) fun v h' tk hP hk'=>?_⟩
  ·show (s.heap.push _).objs.size ∉ _;rw [hz1];simp only [List.mem_cons,List.not_mem_nil,or_false,not_or];exact ⟨Nat.succ_ne_self _,Ne.symm (Nat.ne_of_lt (Nat.lt_succ_of_lt hlt))⟩
  ·exact W.frame 0 (s.heap.push { cls:=.type "list_iterator",data:=.fields #[.ref l,.int 0 0] }) _ ⟨⟨_,Heap.get?_push_size _ rfl,rfl,rfl⟩,hl.push _⟩ fun b _ o e=>Heap.get?_push_of_some _ e
  ·refine hQ v h' tk ?_ fun b o e=>hk' b o (fun hm=>?_) ?_ (Heap.get?_push_of_some _ (Heap.get?_push_of_some _ e))
   ·rcases hP with ⟨h0,h1⟩ | ⟨h0,h1⟩
    ·exact .inl ⟨List.length_eq_zero_iff.mp (by omega),h1⟩
    ·obtain ⟨t,e⟩:=hv _ v h1;have hb:=argBest_gt (fun i=>ks.getD i 0) (its.size - 1);refine .inr ⟨_,t,?_,e⟩;rw [List.max?_eq_some_iff];have hi:argBest (fun i j=>decide (ks.getD i 0 > ks.getD j 0)) (its.size - 1) < ks.length:=by omega
     refine ⟨?_,fun b hb'=>?_⟩
     ·rw [List.getD_eq_getElem?_getD,List.getElem?_eq_getElem hi];exact List.getElem_mem hi
     ·obtain ⟨j,hj,rfl⟩:=List.getElem_of_mem hb';have:=hb.2 j (by omega);rw [List.getD_eq_getElem?_getD (i:=j),List.getElem?_eq_getElem hj] at this;exact this
   ·rw [List.mem_singleton.mp hm] at e;exact absurd (Heap.lt_size e) (Nat.lt_irrefl _)
   ·rw [hz1];exact Nat.ne_of_lt (Nat.lt_succ_of_lt (Heap.lt_size e))
 cases hsig:Manifest.signature? "max" with
 | none=>exact wpAny_pure key
 | some sig=>
  have ha:=oF (.ref l) dv;have ha':Bind.checkArgs "max" sig ⟨[.ref l],[(Str.ofString "default",dv)]⟩=pure ():=by simpa only [argsOk,hsig] using ha
  simp only [ha'];exact wpAny_pure key
end
section
variable {X:Cx}
noncomputable def bL (K:PySem.W.Frag) (ta:TA) (td:TE):TE:=fun σ H Q=>ta σ H fun vs H1=>td σ H1 fun y H2=>∃ l ks,vs=[.ref l]∧SqL K H2 l (List.map V.int ks)∧Q (match ks.max? with | some m=>.int m | none=>y) H2
theorem OJ {a d:Expr} {ta:TA} {td:TE} {p kp pos:Pos} (hc:X.calm=true) (hg:Gl X "max") (hm:X.mg "max"=none) (ha:PA X [a] ta) (hd:PE X d td)
  (he:∀ pos,backTo pos (starEach [a] X.env)=(false,eval a X.env) :: backTo pos (starEach [] X.env):=by intro _;rfl) (hpl:∀ pos,(backTo pos (starEach [a] X.env)).any (·.1)=false:=by intro _;rfl) :
  PE X (.Call (.Name "max" p) [a] [⟨some "default",d,kp⟩] pos) (bL X.K ta td):=by
 intro pins s σ H Q I h;refine wpAny_Call_Name_kw (io I hg hm (show bootBuiltins "max"=some (.builtin "max") by decide +kernel) ?_);refine callWith_kw (id := "max") (thn (ha pos pins s σ H _ I h) fun us s1 ⟨vs,H1,I1,r1,q1⟩=>?_) (he:=he pos) (hplain:=hpl pos);refine kws_cons (thn (hd pins s1 σ H1 _ I1 q1) fun v s2 ⟨y,H2,I2,r2,q2⟩=>kws_nil ?_);obtain ⟨l,ks,rfl,hq,q⟩:=q2;cases r1 with
 | cons r rr=>
  cases rr;cases r;obtain ⟨its,rv,pl,hz⟩:=I2.list hq;have hl:=rv.length;rw [List.length_map] at hl;refine iC (I2.ok.hd hc) pl.isList ks (by rw [List.size_toArray];omega) (fun i v hv=>?_) fun v' h' tk hv' hk=>⟨_,H2,I2.kept hk,?_,q⟩
  ·rw [List.getElem?_toArray] at hv;have hi:i < ks.length:=by have:=(List.getElem?_eq_some_iff.mp hv).1;omega
   obtain ⟨w,hw,rw'⟩:=rv.get (show (ks.map V.int)[i]? = some (.int ks[i]) by rw [List.getElem?_map,List.getElem?_eq_getElem hi];rfl);rw [hv] at hw;cases hw;rw [List.getD_eq_getElem?_getD,List.getElem?_eq_getElem hi];exact rw'
  ·rcases hv' with ⟨rfl,rfl⟩ | ⟨m,t,hm,rfl⟩
   ·exact r2
   ·rw [hm];exact ⟨t,rfl⟩
end
end
section
open PySem.Spec PyProof.Rows
variable {prog:Program} {w:World} {A:Around} {E:Value→Shared→Prop} {s:Shared}
theorem SE {it t:Addr} {i:Nat} {its:Array Value} {Q:Value→Shared→Prop} (hh:A.handled=none) (hi:s.heap.IsTupleIter it t i) (ht:s.heap.IsTuple t its)
  (h1:∀ x h',its[i]? = some x→h'.IsTupleIter it t (i + 1)→Heap.SameBut it s.heap h'→Q x { s with heap:=h' })
  (h2:∀ h' e,its[i]? = none→Heap.ExtBut it s.heap h'→(∃ o,h'.get? e=some o∧o.cls=.type "StopIteration")→E (.ref e) { s with heap:=h' }) :
  wpAny (model prog w) A (Builtin.SmallTypes.nextOf (.ref it)) Q E s:=by
 have ty:=hi.typeIs;obtain ⟨⟨c1,d1,dt1,sl1⟩,e1,c1',f1⟩:=id hi;obtain ⟨⟨c2,d2,dt2,sl2⟩,e2,c2',n2,f2⟩:=id ht;simp only at c1' f1 c2' f2;subst c1' f1 c2' f2;obtain ⟨hp,g,d,tk,os⟩:=s;refine wpAny_bind (wpAny_callSpecial?_slot (name:=Str.ofString "__next__") ty PySem.F.slot_tuple_iterator_next (wpAny_call_entry PySem.F.slot_tuple_iterator_next ty PySem.F.entry_tuple_iterator_next ?_ (PySem.F.args_tuple_iterator_next_1 _)));unfold Builtin.«tuple_iterator.__next__»;have key:∀ y,its[i]? = y→its[(i:Int).toNat]? = y:=fun y z=>z
 cases hx:its[i]? with
 | some x=>
  wp_walk
  rw [key _ hx]
  wp_walk
  refine ⟨x,rfl,wpAny_pure (h1 x _ hx ⟨_,Heap.get?_update_self _ e1 rfl,rfl,rfl⟩ (Heap.SameBut.update ..))⟩
 | none=>
  wp_walk
  rw [key _ hx];have hh1:A.in1.handled=none:=hh;unfold Builtin.SmallTypes.stopIteration
  wp_walk
  exact wpAny_raiseNew_none hh1 (h2 _ _ hx (((Heap.SameBut.update ..).extBut.push _).push _) ⟨_,Heap.get?_push_size _ rfl,rfl⟩)
theorem UI (hh:A.handled=none) {it l:Addr} (ne:l ≠ it) (its:Array Value):Draws prog w A it [it,l] its.size (fun i v=>its[i]? = some v) (fun i h=>h.IsTuple l its∧h.IsTupleIter it l i):=by
 refine { live:=?_,frame:=?_,item:=?_,done:=?_ }
 ·rintro i h zzq;refine zP fun zzM zzh=>?_
  obtain ⟨_,o,ho,_⟩:=zzq;subst zzh;exact ⟨o,ho⟩
 ·rintro i h h' ⟨a,b⟩ k;refine ⟨a.at ?_,b.at ?_⟩
  ·exact k l (by simp)
  ·exact k it (by simp)
 ·rintro i s Q E lt ⟨a,b⟩ q;refine SE hh b a (fun x h' ex b' sb=>q x h' s.toks ex ⟨a.extBut sb.extBut ne,b'⟩ sb) fun h' e en=>?_
  rw [Array.getElem?_eq_getElem lt] at en;cases en
 ·rintro s Q E ⟨a,b⟩ q;refine SE hh b a (fun x h' ex=>?_) fun h' e _=>q h' e
  rw [Array.getElem?_eq_none (Nat.le_refl _)] at ex;cases ex
theorem OG (l:Addr) (o:Obj) (its:Array Value) (n:Nat) (hc:o.cls=.type "tuple") (hd:o.data=.seq its n) :
  Meets (Builtin.«enumerate.__new__» ⟨[.type "enumerate",.ref l],[]⟩) (fun _ R s=>s.heap.get? l=some o∧∀ hq,hq=(s.heap.push { cls:=.type "tuple_iterator",data:=.fields #[.ref l,.int 0 0] }) →
   R (.ok (.ret (.ref hq.objs.size))) { s with heap:=hq.push { cls:=.type "enumerate",data:=.fields #[.none,.bool false,.ref s.heap.objs.size,rawInt 0,.none,.none] } }):=by
 refine .of_wp fun prog w A R s ⟨e,q⟩=>?_
 have T:s.heap.IsTuple l its:=⟨o,e,hc,n,hd⟩;replace q:=q _ rfl;obtain ⟨c,dc,dt,sl⟩:=o;simp only at hc hd;subst hc hd;obtain ⟨hp,g,d,tk,os⟩:=s;have sb:=sub_enumerate;have go:∀ {A:Around} {E:Value→Shared→Prop} {Q:Value→Shared→Prop},Q (.ref hp.objs.size) ⟨hp.push { cls:=.type "tuple_iterator",data:=.fields #[.ref l,.int 0 0] },g,d,tk,os⟩→wpAny (model prog w) A (pyIter (.ref l)) Q E ⟨hp,g,d,tk,os⟩:=fun h=>wpAny_pyIter_tuple T h
 wp_walk using AutoSeq1.wpAny_loadPart' e
 refine wpAny_stack_any fun st=>wpAny_pure ?_
 generalize hb:List.drop 1 st=b;dsimp only;split
 ·split
  all_goals wp_walk using AutoSeq1.wpAny_loadPart' e,go
  all_goals exact ⟨_,rfl,q⟩
 ·wp_walk using AutoSeq1.wpAny_loadPart' e,go
  exact ⟨_,rfl,q⟩
theorem FD {l:Addr} {its:Array Value} {Q:Value→Shared→Prop} (T:s.heap.IsTuple l its)
  (h:∀ h',IsEnum h' (s.heap.objs.size + 1) s.heap.objs.size 0 .none→h'.IsTupleIter s.heap.objs.size l 0→(∀ b o,s.heap.get? b=some o→h'.get? b=some o)→Q (.ref (s.heap.objs.size + 1)) { s with heap:=h' }) :
  wpAny (model prog w) A (call (.type "enumerate") [.ref l]) Q E s:=by
 obtain ⟨o,e,c,n,d⟩:=T;refine callType_new PySem.F.called_enumerate (by decide) (PySem.F.typeCall_enumerate_1 _) (PySem.F.newCall_enumerate_1 _) (fun obj=>PySem.F.args_object_init_2 obj _) PySem.F.entry_enumerate_new (OG l o its n c d) ⟨e,fun hq eq=>?_⟩;have sz:hq.objs.size=s.heap.objs.size + 1:=by rw [eq];exact Heap.size_push ..
 have at1:hq.get? s.heap.objs.size=some { cls:=.type "tuple_iterator",data:=.fields #[.ref l,.int 0 0] }:=by rw [eq];exact Heap.get?_push_size _ rfl
 have up:∀ b o,s.heap.get? b=some o→hq.get? b=some o:=fun b o z=>by rw [eq];exact Heap.get?_push_of_some _ z
 have at2:=Heap.get?_push_size hq (o:={ cls:=.type "enumerate",data:=.fields #[.none,.bool false,.ref s.heap.objs.size,rawInt 0,.none,.none] }) rfl;show _∧_;rw [sz] at at2 ⊢;exact ⟨⟨_,at2,rfl⟩,h _ at2 ⟨_,Heap.get?_push_of_some _ at1,rfl,rfl⟩ fun b o z=>Heap.get?_push_of_some _ (up b o z)⟩
theorem gH {l a:Addr} {its:Array Value} {ns:List Int} {led:Bool} {Q:Value→Shared→Prop} (hh:A.handled=none) (T:s.heap.IsTuple l its) (hi:IntsAre its.toList ns) (hb:its.size + 1 < scanBound) (la:l ≠ a)
  (ha:s.heap.get? a=some { cls:=.type "set",dict:=none,data:=.set #[] 0 (.fresh 0 0 led) })
  (h:∀ (h':Heap) (tk:Nat),h'.SetOf (intKind prog w) a (fun k=>(firstMet (fun i=>ns.getD i 0) its.size).any (· == k)) (firstMet (fun i=>ns.getD i 0) its.size).length→(∀ b o,b ≠ a→s.heap.get? b=some o→h'.get? b=some o)→Q .none { s with heap:=h',toks:=tk }) :
  codeAny (model prog w) A (.call (.builtin "set.__init__") ⟨[.ref a,.ref l],[]⟩) (wants Q E) s:=by
 refine codeAny_call_builtin PySem.F.called_set.init.plain PySem.F.entry_set_init (check_set_init_1 ⟨_,ha,rfl⟩ ?_);have lt:l < s.heap.objs.size:=by obtain ⟨o,e,_⟩:=T;exact Heap.lt_size e
 have lt2:=Heap.lt_size ha;obtain ⟨⟨c,dc,dt,sl⟩,e,hc,n,hd⟩:=id T;simp only at hc hd;subst hc hd;obtain ⟨hp,g,d,tk,os⟩:=s;have s0:(Value.type "tuple" == Value.type "dict")=false:=by decide
 have s1:isSubtype (.type "tuple") (.type "set")=pure false:=by rw [isSubtype_type];kernel_rfl
 have s2:isSubtype (.type "tuple") (.type "frozenset")=pure false:=by rw [isSubtype_type];kernel_rfl
 have go:∀ {A:Around} {E:Value→Shared→Prop} {Q:Value→Shared→Prop},Q (.ref hp.objs.size) ⟨hp.push { cls:=.type "tuple_iterator",data:=.fields #[.ref l,.int 0 0] },g,d,tk,os⟩→wpAny (model prog w) A (pyIter (.ref l)) Q E ⟨hp,g,d,tk,os⟩:=fun h=>wpAny_pyIter_tuple T h
 have k2:A.in1.in1.handled=none:=by simp [hh]
 have nl:l ≠ hp.objs.size:=Nat.ne_of_lt lt;have nS:a ∉ [hp.objs.size,l]:=by
  simp only [List.mem_cons,List.not_mem_nil,or_false,not_or];exact ⟨Nat.ne_of_lt lt2,Ne.symm la⟩
 unfold Builtin.«set.__init__» noKeywords Builtin.Frozenset.updateFrom
 wp_walk using go
 refine codeAny_set_update_loopS ((Walks.tuple k2 _ l nl its).toS) _ nS (fun i=>ns.getD i 0) (fun i v z=>hi.int_at i v (by rw [Array.getElem?_toList];exact z)) hb _ 0 _ rfl (Nat.zero_le _) ⟨⟨_,Heap.get?_push_size _ rfl,rfl,rfl⟩,T.push _⟩ ?_ fun s' m S'=>?_
 ·refine SetOf_congr ((setObjOf_fresh (knd:=intKind prog w) led).setOf (Heap.get?_push_of_some _ ha) (by unfold scanBound;omega)) (fun _=>rfl) rfl
 ·obtain ⟨h',g',d',tk',os'⟩:=s';obtain rfl:g'=g:=m.gens;obtain rfl:d'=d:=m.drawn;obtain rfl:os'=os:=m.os;refine wpAny_pure (wpAny_pure (h h' tk' S' fun b o nb z=>m.heap b o ?_ (Heap.get?_push_of_some _ z)));simp only [List.mem_cons,List.not_mem_nil,or_false,not_or];exact ⟨nb,Nat.ne_of_lt (Heap.lt_size z)⟩
theorem dH {l:Addr} {its:Array Value} {ns:List Int} {Q:Value→Shared→Prop} (hh:A.handled=none) (T:s.heap.IsTuple l its) (hi:IntsAre its.toList ns) (hb:its.size + 1 < scanBound)
  (h:∀ (h':Heap) (tk:Nat),h'.SetOf (intKind prog w) s.heap.objs.size (fun k=>(firstMet (fun i=>ns.getD i 0) its.size).any (· == k)) (firstMet (fun i=>ns.getD i 0) its.size).length→(∀ b o,s.heap.get? b=some o→h'.get? b=some o)→Q (.ref s.heap.objs.size) { s with heap:=h',toks:=tk }) :
  wpAny (model prog w) A (call (.type "set") [.ref l]) Q E s:=by
 have lt:l < s.heap.objs.size:=by obtain ⟨o,e,_⟩:=T;exact Heap.lt_size e
 have ft:=PySem.F.called_set;have f0:=PySem.F.typeCall_set_1 (.ref l);have f1:=ft.made;have f2:=ft.sub;have f3:=ft.notType;have f4:=ft.canCreate;have f5:=ft.init.lookup;obtain ⟨mc,mt,f6⟩:=ft.mro;refine wpAny_call (codeAny_of_tree (wpAny_pure ⟨Code.quiet_builtin _ (by decide +kernel),codeAny_builtin PySem.F.entry_type_call ?_⟩));rw [Around.under_plain (weight_type_call_type _ _ _) rfl]
 wp_walk
 refine codeAny_mono (code_set_new_1 (.ref l) (E:=E) (Q₁:=fun o s1=>∃ led:Bool,o=.ref s.heap.objs.size∧s1 = { s with heap:=s.heap.push { cls:=.type "set",dict:=none,data:=.set #[] 0 (.fresh 0 0 led) } }) fun led=>⟨led,rfl,rfl⟩) ?_;rintro (er | (_ | _ | _ | v)) s1 z
 ·exact z
 ·exact z.elim
 ·exact z.elim
 ·exact z.elim
 obtain ⟨led,rfl,rfl⟩:=z;have at0:(s.heap.push { cls:=.type "set",dict:=none,data:=.set #[] 0 (.fresh 0 0 led) }).get? s.heap.objs.size=some { cls:=.type "set",dict:=none,data:=.set #[] 0 (.fresh 0 0 led) }:=Heap.get?_push_size _ rfl;have f7:=ft.init.bind (.ref s.heap.objs.size);have ty:Shared.TypeIs { s with heap:=s.heap.push { cls:=.type "set",dict:=none,data:=.set #[] 0 (.fresh 0 0 led) } } (.ref s.heap.objs.size) "set" := ⟨_,at0,rfl⟩
 wp_walk
 refine codeAny_mono (gH (E:=E) (Q:=fun v s2=>v=.none∧Q (.ref s.heap.objs.size) s2) (show A.in1.handled=none by simp [hh]) (T.push _) hi hb (Nat.ne_of_lt lt) at0 fun h' tk S' k=>⟨rfl,h h' tk S' fun b o z=>k b o (Nat.ne_of_lt (Heap.lt_size z)) (Heap.get?_push_of_some _ z)⟩) ?_;rintro (er | (_ | _ | _ | v)) s2 z
 ·exact z
 ·exact z.elim
 ·exact z.elim
 ·exact z.elim
 obtain ⟨rfl,z⟩:=z;exact wpAny_pure (wpAny_pure z)
end
section
open PySem.Spec PyProof.Rows
noncomputable def Iet (K:PySem.W.Frag) (a:Addr):It:=
 ⟨fun i H=>∃ xs x,SqT K H a xs∧xs[i]? = some x,fun i H v H'=>∃ p y,H p=none∧v=.ref p∧(∀ xs,SqT K H a xs→xs[i]? = some y)∧H'=upd H p (.tup [.int i,y]),fun i H=>∃ xs,SqT K H a xs∧xs.length=i⟩
theorem KA {P:Program} {w:World} {K:PySem.W.Frag} {es:List Expr} {k} {pos:Pos} (a e it:Addr) (hne:e ≠ it) (hea:e ≠ a) (hai:a ≠ it) :
  MF P w K (.Tuple es k pos) (Iet K a) [e,it] e (fun i h=>∃ old,IsEnum h e it ((i:Nat):Int) old∧h.IsTupleIter it a i) where
 mem:=by simp
 obj:=fun i h ⟨old,he,hi⟩ b hb=>by
  simp only [List.mem_cons,List.not_mem_nil,or_false] at hb;rcases hb with rfl | rfl
  ·exact ⟨_,he,fun v z=>by
    have z':Data.fields _=Data.cell v:=z;cases z'⟩
  ·obtain ⟨o,q,c,d⟩:=hi;exact ⟨o,q,fun v z=>by rw [d] at z;cases z⟩
 keep:=fun i h h' ⟨old,he,hi⟩ k=>⟨old,k e (by simp) _ he,hi.at fun o q=>k it (by simp) o q⟩
 item:=by
  intro X hP hw hK hc i pins s σ H E I hf ⟨old,he,hi⟩ hg;subst hP hw hK;obtain ⟨xs,x,hq,hx⟩:=hg;obtain ⟨its,rv,p,hz⟩:=I.tuple hq;obtain ⟨u,hu,ru⟩:=rv.get hx;have hlt:i < its.toArray.size:=by
   rw [List.size_toArray];exact (List.getElem?_eq_some_iff.mp hu).1
  refine wpAny_pyNext_enum_itemD (UI (A:=X.A.in1) (it:=it) (I.ok.hd hc) hai its.toArray) he ⟨p,hi⟩ hlt hne (by simp [hne,hea]) fun y h1 tk hy he1 hi1 ht1 hz1 hk1=>⟨_,rfl,?_⟩
  obtain rfl:y=u:=by
   rw [List.getElem?_toArray,hu] at hy;exact (Option.some.inj hy).symm
  refine wpAny_letOwnedTupleGo_enum he1 fun h2 he2 hs2=>?_
  replace hs2:Heap.SameBut e h1 h2:=hs2;have hel:e < s.heap.objs.size:=Heap.lt_size he;have hk:∀ b o,b ∉ [e,it]→s.heap.get? b=some o→h2.get? b=some o:=fun b o hb q=>by
   simp only [List.mem_cons,List.not_mem_nil,or_false,not_or] at hb;exact hs2.extBut _ _ hb.1 (hk1 b o hb.1 hb.2 q)
  have I1:Inv X pins σ H { s with heap:=h2,toks:=tk + 1 }:=I.turnedL hk hf;have fo:su X pins H s.heap.objs.size:=I.fpOk (Nat.le_refl _) (I.hok.fresh (Nat.le_refl _));have ht2:h2.get? s.heap.objs.size=some { cls:=.type "tuple",data:=.seq #[.int i tk,y] }:=(hs2.2 _ (Nat.ne_of_gt hel)).trans ht1;have I2:=I1.adopt (o:=.tup [.int i,x]) fo ⟨⟨by show 2 ≤ sizeLine;decide,_,ht2,rfl⟩,[.int i tk,y],.cons ⟨_,rfl⟩ (.cons ru .nil),⟨_,ht2,rfl,_,rfl⟩⟩;refine ⟨.ref s.heap.objs.size,_,I2,rfl,⟨_,x,fo.1,rfl,fun ys hy=>by rw [I.tuple_inj hy hq];exact hx,rfl⟩,⟨y,?_,?_⟩,fun b hb=>?_⟩
  ·have e1:((i + 1:Nat):Int)=(i:Int) + 1:=by omega
   rw [e1];exact he2
  ·exact hi1.2.extBut hs2.extBut (Ne.symm hne)
  ·have hlt:b < s.heap.objs.size:=by
    simp only [List.mem_cons,List.not_mem_nil,or_false] at hb;rcases hb with rfl | rfl
    ·exact hel
    ·obtain ⟨o,q,_⟩:=hi;exact Heap.lt_size q
   rw [Db (Nat.ne_of_lt hlt)];exact (hf b hb).1
 done:=by
  intro X hP hw hK hc i pins s σ H E I hf ⟨old,he,hi⟩ hg;subst hP hw hK;obtain ⟨xs,hq,hx⟩:=hg;obtain ⟨its,rv,p,hz⟩:=I.tuple hq;have hl:=rv.length;obtain rfl:i=its.toArray.size:=by rw [List.size_toArray];omega
  exact wpAny_pyNext_enum_endD (UI (A:=X.A.in1) (it:=it) (I.ok.hd hc) hai its.toArray) he ⟨p,hi⟩ fun h' eb=>⟨rfl,I.turnedL (t':=s.toks) (fun b o hb q=>eb b o (fun z=>hb (by simp [z])) q) hf⟩
 self:=fun _ _ _ _ _ ⟨_,he,_⟩ h=>wpAny_pyIter_enum he h
variable {X:Cx}
noncomputable def OI (K:PySem.W.Frag) (ta:TA):TI:=fun σ H R=>ta σ H fun vs H1=>∃ a,vs=[.ref a]∧(∃ xs,SqT K H1 a xs)∧R (Iet K a) H1
theorem UF {es:List Expr} {k} {tpos:Pos} {a:Expr} {ta:TA} {p pos:Pos} (hg:Gl X "enumerate") (hm:X.mg "enumerate"=none) (ha:PA X [a] ta) (hs:starEach [a] X.env=[(false,eval a X.env)]:=by rfl) :
  PI X (.Tuple es k tpos) (.Call (.Name "enumerate" p) [a] [] pos) (OI X.K ta):=by
 intro pins s σ H R I h;refine Call_ (io I hg hm L2.ql (PyProof.Rows.callWith_type1 (thn (ha pos pins s σ H _ I h) fun us s1 ⟨vs,H1,I1,r1,q1⟩=>?_) hs rfl));obtain ⟨a,e,⟨xs,hq⟩,q⟩:=q1;subst e;cases r1 with
 | cons r rr=>
  cases rr;cases r;obtain ⟨its,rv,pl,hz⟩:=I1.tuple hq;have hal:a < s1.heap.objs.size:=by obtain ⟨_,e,_⟩:=pl;exact Heap.lt_size e
  refine FD pl fun h' hE hI hk=>wpAny_pyIter_enum hE ?_
  refine ⟨s1.heap.objs.size + 1,[s1.heap.objs.size + 1,s1.heap.objs.size],_,_,H1,rfl,I1.kept (t':=s1.toks) hk,KA a _ _ (Nat.succ_ne_self _) (Nat.ne_of_gt (Nat.lt_succ_of_lt hal)) (Nat.ne_of_lt hal),⟨_,hE,hI⟩,fun b hb=>?_,q⟩;have hb':s1.heap.objs.size ≤ b:=by
   simp only [List.mem_cons,List.not_mem_nil,or_false] at hb;rcases hb with rfl | rfl
   ·exact Nat.le_succ _
   ·exact Nat.le_refl _
  exact I1.fpOk hb' (I1.hok.fresh hb')
end
section
open PySem.Spec PyProof.Rows
theorem IF {ns:List Int}:∀ {σ:List Int},(ns.foldl step_dedup σ).length=σ.length + ns.length↔ns.Nodup∧∀ x ∈ ns,x ∉ σ:=by
 induction ns with
 | nil=>intro σ;simp
 | cons x ns ih=>
  intro σ;rw [List.foldl_cons,show step_dedup σ x=if σ.any (· == x) then σ else σ ++ [x] from rfl];by_cases hx:x ∈ σ
  ·rw [if_pos (by simpa using hx)];have:=foldl_step_dedup_length_le σ ns;constructor
   ·intro h;rw [List.length_cons] at h;omega
   ·intro h;exact absurd hx (h.2 x (List.mem_cons_self ..))
  ·rw [if_neg (by simpa using hx)];have e:=@ih (σ ++ [x]);rw [List.length_append,List.length_singleton] at e;rw [List.length_cons,show σ.length + (ns.length + 1)=σ.length + 1 + ns.length by omega,List.nodup_cons];refine e.trans ⟨fun h=>⟨⟨fun hm=>h.2 x hm (by simp),h.1⟩,fun y hy=>?_⟩,fun h=>⟨h.1.2,fun y hy hm=>?_⟩⟩
   ·rcases List.mem_cons.mp hy with rfl | hy
    ·exact hx
    ·exact fun z=>h.2 y hy (by simp [z])
   ·rcases List.mem_append.mp hm with z | z
    ·exact h.2 y (List.mem_cons_of_mem _ hy) z
    ·rw [List.mem_singleton.mp z] at hy;exact h.1.1 hy
theorem Ex (ns:List Int):(firstMet (fun i=>ns.getD i 0) ns.length).length < ns.length↔¬ ns.Nodup:=by
 have e:firstMet (fun i=>ns.getD i 0) ns.length=ns.foldl step_dedup []:=by
  unfold firstMet;congr 1;refine List.ext_getElem? fun i=>?_
  rw [List.getElem?_map];by_cases hi:i < ns.length
  ·rw [List.getElem?_range hi];show some (ns.getD i 0)=_;rw [List.getD_eq_getElem?_getD,List.getElem?_eq_getElem hi];rfl
  ·rw [List.getElem?_eq_none (by simpa using hi),List.getElem?_eq_none (by omega)];rfl
 have h1:=@IF ns [];have h2:=foldl_step_dedup_length_le [] ns;rw [e];simp only [List.length_nil,Nat.zero_add,List.not_mem_nil,not_false_eq_true,implies_true,and_true] at h1 h2;rw [← h1];omega
variable {prog:Program} {w:World} {A:Around} {E:Value→Shared→Prop} {s:Shared}
theorem qA {α:Type} {f:α→Int} {c:Int} {l:List α} (h:(l.map f).Nodup):(l.filter fun x=>f x == c).length ≤ 1:=by
 induction l with
 | nil=>simp
 | cons x l ih=>
  rw [List.map_cons,List.nodup_cons] at h;rw [List.filter_cons];split
  ·rename_i hx;have hx':f x=c:=by simpa using hx
   rw [List.filter_eq_nil_iff.mpr (fun y hy z=>h.1 (by rw [hx',← (show f y=c by simpa using z)];exact List.mem_map_of_mem hy))];exact Nat.le_refl _
  ·exact ih h.2
theorem ZF {a:Addr} {o:Obj} {es:Array DictEntry} {ep:Nat} {Q:Value→Shared→Prop} (ha:(a == sysModules)=false) (r:xI s.heap a o es ep) (hk:∀ e ∈ es,∃ b,e.key=.ref b∧s.TypeIs (.ref b) "tuple") (hh:(es.toList.map (·.hash)).Nodup) (hz:es.size ≤ sizeLine)
  (h:∀ h' o' ep',h'.get? s.heap.objs.size=some o'→o'.ExactDict→o'.data=.dict es ep'→(∀ b q,s.heap.get? b=some q→h'.get? b=some q)→Q (.ref s.heap.objs.size) { s with heap:=h' }) :
  wpAny (model prog w) A (call (.type "dict") [.ref a]) Q E s:=by
 refine callType_codes (Q₁:=fun obj s₁=>obj=.ref s.heap.objs.size∧s₁ = { s with heap:=s.heap.push { cls:=.type "dict",data:=.dict #[] } }) PySem.F.kt_called_dict (PySem.F.kt_typeCall_dict_1 _) PySem.F.entry_dict_init (kt_code_dict_new _ ⟨rfl,rfl⟩) ?_;rintro obj s₁ ⟨rfl,rfl⟩;have hn:(s.heap.push { cls:=.type "dict",data:=.dict #[] }).get? s.heap.objs.size=some { cls:=.type "dict",data:=.dict #[] }:=Heap.get?_push_size _ rfl;have ho:(s.heap.push { cls:=.type "dict",data:=.dict #[] }).get? a=some o:=Heap.get?_push_of_some _ r.at_;have tn:Shared.TypeIs { s with heap:=s.heap.push { cls:=.type "dict",data:=.dict #[] } } (.ref s.heap.objs.size) "dict" := ⟨_,hn,rfl⟩;have to:Shared.TypeIs { s with heap:=s.heap.push { cls:=.type "dict",data:=.dict #[] } } (.ref a) "dict" := ⟨_,ho,r.ex.1⟩;have hne:s.heap.objs.size ≠ a:=fun e=>absurd (Heap.lt_size r.at_) (by rw [e];exact Nat.lt_irrefl _)
 refine ⟨tn,PySem.F.args_dict_init_2 _ _,?_⟩;unfold Builtin.«dict.__init__»;refine wpAny_bind ?_;unfold Builtin.Dict.selfAndRest;refine wpAny_bind (wpAny_notOrdered_dict tn ?_);show wpAny _ _ (pure (s.heap.objs.size,[Value.ref a])) _ _ _;refine wpAny_pure ?_;show wpAny _ _ (Builtin.Dict.updateFrom "dict.__init__" s.heap.objs.size (.ref a) [] .none) _ _ _;unfold Builtin.Dict.updateFrom;refine wpAny_bind (wpAny_typeOf to ?_);rw [if_neg (by decide)];refine wpAny_bind ?_;unfold Builtin.Dict.merge;refine wpAny_bind ?_;unfold Builtin.Dict.readDirectly;refine wpAny_bind (wpAny_isInstance to isSubtype_dict_dict ?_);simp only [Bool.not_true,Bool.false_eq_true,if_false];refine wpAny_bind (wpAny_specialOf to PySem.F.slot_dict_iter.lookup (wpAny_pure ?_));simp only [beq_self_eq_true,if_true];refine wpAny_bind (wpAny_pure ?_);unfold Builtin.Dict.mergeDict;rw [if_neg (by simpa using hne)];unfold Builtin.Dict.showsAll;rw [if_neg (by rw [ha];exact Bool.false_ne_true)];refine wpAny_bind (wpAny_pure (wpAny_bind (wpAny_dictEntries ho r.dat ?_)));by_cases he:es=#[]
 ·subst he;dsimp only;rw [if_neg (by simp)];refine wpAny_bind (wpAny_dictEpoch ho r.dat (wpAny_bind (wpAny_dictEntries ho r.dat (wpAny_bind ?_))));rw [Std.Legacy.Range.forIn_eq_forIn_range'];refine wpAny_pure (wpAny_pure ?_);exact wpAny_bind (wpAny_pure (wpAny_pure ⟨rfl,h _ _ _ hn ⟨rfl,rfl,rfl⟩ rfl fun b q e=>Heap.get?_push_of_some _ e⟩))
 ·have hf:(decide (es.size ≤ 8) && es.all fun e=>(keyPart e.key).isSome)=false:=by
   rw [Bool.and_eq_false_iff];refine .inr (Bool.eq_false_iff.mpr fun z=>?_);rw [Array.all_eq_true_iff_forall_mem] at z;have h0:0 < es.size:=Nat.pos_of_ne_zero fun q=>he (Array.eq_empty_of_size_eq_zero q)
   obtain ⟨b,hb,_⟩:=hk _ (Array.getElem_mem h0);have:=z _ (Array.getElem_mem h0);rw [hb] at this;cases this
  dsimp only;rw [hf,if_pos (show (!false)=true from rfl)];refine wpAny_bind (wpAny_dictEntries hn rfl ?_);rw [if_pos (show Array.isEmpty (#[]:Array DictEntry)=true from rfl)];refine wpAny_bind ?_;unfold Builtin.Dict.entriesForEmpty;refine wpAny_bind (wpAny_dictEntries ho r.dat (wpAny_bind ?_));rw [← Array.forIn_toList];refine wpAny_forIn_list _ (fun Fw _ s'=>s' = { s with heap:=s.heap.push { cls:=.type "dict",data:=.dict #[] } }∧∀ e ∈ Fw,e ∈ es) _ ?_ ?_ _ _ ⟨rfl,fun e he=>Array.mem_toList_iff.mp he⟩
  ·rintro e Fw u s' ⟨rfl,hm⟩;obtain ⟨b,hb,ob,hob,hoc⟩:=hk e (hm e (List.mem_cons_self ..));have tb:Shared.TypeIs { s with heap:=s.heap.push { cls:=.type "dict",data:=.dict #[] } } (.ref b) "tuple" := ⟨ob,Heap.get?_push_of_some _ hob,hoc⟩;unfold Builtin.Dict.quietEq;rw [hb];refine wpAny_bind (wpAny_bind (wpAny_specialOf tb PySem.F.slot_tuple_eq.lookup (wpAny_pure ?_)));rw [if_pos (by decide +kernel),if_neg (Nat.not_lt.mpr ?_)]
   ·exact wpAny_pure ⟨rfl,fun e he=>hm e (List.mem_cons_of_mem _ he)⟩
   ·rw [← Array.length_toList,Array.toList_filter];exact qA hh
  ·rintro u s' ⟨rfl,_⟩;refine wpAny_pure ?_;rw [if_pos (by simp [he])];refine wpAny_bind (wpAny_updateDictKeysTo hn rfl (wpAny_pure ?_) (by omega));refine wpAny_bind (wpAny_pure (wpAny_pure ⟨rfl,?_⟩));refine h _ _ _ (Heap.get?_update_self _ hn (Obj.isFreed_of_dict (Obj.data_mapDictKeys rfl _))) ((show Obj.ExactDict { cls:=.type "dict",data:=.dict #[] } from ⟨rfl,rfl,rfl⟩).mapDictKeys _) (Obj.data_mapDictKeys rfl _) fun b q e=>?_
   exact (Heap.get?_update_other _ _ (fun z=>absurd (Heap.lt_size e) (by rw [← z];exact Nat.lt_irrefl _))).trans (Heap.get?_push_of_some _ e)
end
section
open PySem.Spec PyProof.Rows
variable {X:Cx}
noncomputable def vJ (P:Program) (w:World) (k:List Key):Int:=(tupleKind (ue P w)).hash k
theorem AD (hc:X.calm=true):zi X (.type "set") (fun xs H Q=>∃ r ns,xs=[.ref r]∧H r=some (.tup (List.map V.int ns))∧ns.length ≤ 1000∧∀ p S n,(n < ns.length↔¬ ns.Nodup)→n ≤ 1000→H p=none→Q (.ref p) (upd H p (.set S n))):=by
 intro pins s σ H xs us Q I r h;obtain ⟨t,ns,rfl,et,hl,q⟩:=h;obtain ⟨u,rfl,ru⟩:=Mm r;cases ru;obtain ⟨its,rv,pl,hz⟩:=I.tuple (SqT.of et);have hi:=zA rv;have hlen:=hi.length;have hb:its.toArray.size=ns.length:=by rw [List.size_toArray,hlen]
 refine dH (I.ok.hd hc) pl (by simpa using hi) (by rw [hb];show ns.length + 1 < 4096;omega) fun h' tk hS hk=>?_
 rw [hb] at hS;refine ⟨.ref s.heap.objs.size,_,I.laid (a:=s.heap.objs.size) (o:=.set _ _) (t':=tk) hk (Nat.le_refl _) hS,rfl,q _ _ _ (Ex ns) (Nat.le_trans (firstMet_length_le _ _) hl) (I.hok.fresh (Nat.le_refl _))⟩
theorem UA:bootBuiltins "set"=some (.type "set"):=by decide +kernel
theorem RE:zi X (.builtin "len") (fun xs H Q=>∃ p S n,xs=[.ref p]∧H p=some (.set S n)∧n ≤ 1000∧Q (.int (n:Nat)) H):=by
 intro pins s σ H xs us Q I r h;obtain ⟨p,S,n,rfl,e,hn,q⟩:=h;obtain ⟨u,rfl,ru⟩:=Mm r;cases ru;obtain ⟨o,es,ep,t,h1,h2,h3,_,_,_,h4,h5⟩:=(show s.heap.SetOf (intKind X.prog X.w) p S n from I.hok p _ e);refine call_len_set h1 h2 h3 h4 (by omega) ⟨.int (n:Nat),H,I.tok _,⟨_,by rw [h5]⟩,q⟩
theorem cD {R:(List Key × V)→(List Key × Addr × Value)→Prop} {kvs:List (List Key × V)} {xs:List (List Key × Addr × Value)} (h:Paired (fun p q=>p.1=q.1∧R p q) kvs xs) (f:List Key→Int):(kvs.map fun p=>f p.1)=xs.map fun x=>f x.1:=by
 induction h with
 | nil=>rfl
 | cons z _ ih=>rw [List.map_cons,List.map_cons,ih,z.1]
theorem RA:zi X (.type "dict") (fun xs H Q=>∃ d kvs,xs=[.ref d]∧Hk X.prog X.w H d kvs∧(kvs.map fun p=>vJ X.prog X.w p.1).Nodup∧∀ p o,H p=none→Hk X.prog X.w (upd H p (.ext (AtO p o))) p kvs→Q (.ref p) (upd H p (.ext (AtO p o)))):=by
 intro pins s σ H xs us Q I r h;obtain ⟨d,kvs,rfl,⟨o,es,ep,xs,D⟩,hn,q⟩:=h;obtain ⟨u,rfl,ru⟩:=Mm r;cases ru;have hlen:=Mo D.ks;have hsz:es.size=xs.length:=size_of_entries D.ent;refine ZF D.ns (Ko I.hok D) (fun e he=>?_) ?_ (by have:=D.sz;omega) fun h' o' ep' g1 g2 g3 g4=>?_
 ·obtain ⟨x,hx,rfl⟩:=List.mem_map.mp (D.ent ▸ Array.mem_toList_iff.mpr he);obtain ⟨i,hi⟩:=List.getElem?_of_mem hx;have hi':i < kvs.length:=by rw [hlen];exact (List.getElem?_eq_some_iff.mp hi).1
  obtain ⟨y,hy,z⟩:=vx D.ks (List.getElem?_eq_getElem hi');rw [hi] at hy;cases hy;obtain ⟨ob,its,n,h1,h2,_⟩:=Zn I.hok z.2.1;exact ⟨x.2.1,rfl,ob,h1,h2⟩
 ·rw [D.ent,List.map_map];rw [cD D.ks (fun k=>vJ X.prog X.w k)] at hn;exact hn
 ·have hp:H s.heap.objs.size=none:=I.hok.fresh (Nat.le_refl _);have S1:Tb H (upd H s.heap.objs.size (.ext (AtO s.heap.objs.size o'))):=db hp;refine ⟨.ref s.heap.objs.size,_,I.laid (a:=s.heap.objs.size) (o:=.ext (AtO s.heap.objs.size o')) (t':=s.toks) g4 (Nat.le_refl _) ⟨g1,⟨o',g1⟩,fun _ _ q k=>k o' q⟩,rfl,q _ _ hp ⟨o',es,ep',xs,gb,g2,g3,D.ent,D.nd,Paired.mapP D.ks fun p q z=>⟨z.1,S1 _ _ z.2.1,z.2.2⟩,D.sz,beq_eq_false_iff_ne.mpr (Ne.symm (Nat.ne_of_lt I.big))⟩⟩
end
noncomputable def hsh (p:Nat × Nat):Int:=reduceHash (Builtin.Tuple.tupleHashOf [hashInt (p.1:Int),hashInt (p.2:Int)])
noncomputable def prs:List (Nat × Nat):=(List.range 6).flatMap fun i=>(List.range 6).map fun j=>(i,j)
theorem cM:(prs.map hsh).Nodup:=by decide +kernel
theorem iE {p:Nat × Nat} (h1:p.1 < 6) (h2:p.2 < 6):p ∈ prs:=List.mem_flatMap.mpr ⟨p.1,List.mem_range.mpr h1,List.mem_map.mpr ⟨p.2,List.mem_range.mpr h2,rfl⟩⟩
theorem uK {α:Type} {f:α→Int} {l:List α} (h:(l.map f).Nodup):∀ x ∈ l,∀ y ∈ l,f x=f y→x=y:=by
 induction l with
 | nil=>intro x hx;cases hx
 | cons a l ih=>
  rw [List.map_cons,List.nodup_cons] at h;intro x hx y hy e;rcases List.mem_cons.mp hx with hx | hx <;> rcases List.mem_cons.mp hy with hy | hy
  ·rw [hx,hy]
  ·rw [hx] at e;exact absurd (e ▸ List.mem_map_of_mem hy) h.1
  ·rw [hy] at e;exact absurd (e ▸ List.mem_map_of_mem hx) h.1
  ·exact ih h.2 x hx y hy e
end My
namespace My
open PySem L2
structure Sys where
 m:Nat
 e:Nat→Nat→Bool
 st:Nat→Nat→Int
 al:Nat→Int
structure Sys.Ok (S:Sys):Prop where
 lt:∀ {i j},S.e i j=true→i < S.m∧j < S.m∧i ≠ j
 sy:∀ {i j},S.e i j=true→S.e j i=true
 s1:∀ {i j},S.e i j=true→1 ≤ S.st i j
 a1:∀ {i},i < S.m→1 ≤ S.al i
noncomputable abbrev Od:=List (Nat × Nat)
noncomputable def inO (o:Od) (i j:Nat):Bool:=decide ((i,j) ∈ o) || decide ((j,i) ∈ o)
noncomputable def wtO (S:Sys) (z:Int) (o:Od) (i j:Nat):Int:=if (j,i) ∈ o then S.st i j - z else S.st i j
noncomputable def pwO (S:Sys) (z:Int) (o:Od):List Nat→Int
 | []=>0
 | [_]=>0
 | x :: y :: r=>wtO S z o x y + pwO S z o (y :: r)
noncomputable def Cs (o:Od):List Nat→Bool
 | []=>true
 | [_]=>true
 | x :: y :: r=>inO o x y && Cs o (y :: r)
noncomputable def Qi (S:Sys) (z:Int) (o:Od) (r:List Nat):Bool:=decide (2 ≤ r.length) && decide r.Nodup && Cs o (r ++ r.take 1) && decide (0 < pwO S z o (r ++ r.take 1))
inductive Pap where
 | alone (k:Nat)
 | ring (r:List Nat)
 | case (i j:Nat) (p q:Pap)
noncomputable def Qd (S:Sys) (z:Int) (o:Od):Pap→Bool
 | .alone k=>decide (z < S.al k)
 | .ring r=>Qi S z o r
 | .case i j p q=>S.e i j && !inO o i j && Qd S z (o ++ [(i,j)]) p && Qd S z (o ++ [(j,i)]) q
noncomputable def Yh (m:Nat):Nat→Pap→Prop
 | _,.alone k=>k < m
 | _,.ring r=>∀ k ∈ r,k < m
 | 0,.case _ _ _ _=>False
 | d + 1,.case i j p q=>i < m∧j < m∧Yh m d p∧Yh m d q
noncomputable def fm (S:Sys) (z:Int) (b:Nat→Int):Prop:=(∀ k,k < S.m→S.al k ≤ z)∧∀ i j,S.e i j=true→S.st i j ≤ (b j - b i) % z
noncomputable def cB (z:Int) (b:Nat→Int) (i:Nat):Int:=(b i - b 0) % z
noncomputable def nJ (S:Sys) (z:Int) (b:Nat→Int) (o:Od):Prop:=∀ q ∈ o,S.e q.1 q.2=true∧cB z b q.1 < cB z b q.2
section
variable {S:Sys} {z:Int} {b:Nat→Int} {o:Od}
theorem xv (hz:0 < z) (i:Nat):0 ≤ cB z b i∧cB z b i < z:=⟨Int.emod_nonneg _ (by omega),Int.emod_lt_of_pos _ hz⟩
theorem tz (i j:Nat):(b j - b i) % z=(cB z b j - cB z b i) % z:=by
 unfold cB;rw [show b j - b i=(b j - b 0) - (b i - b 0) by omega,Int.sub_emod]
theorem mdU {x y:Int} (h:x ≤ y) (hx:0 ≤ x) (hy:y < z):(y - x) % z=y - x:=Int.emod_eq_of_lt (by omega) (by omega)
theorem mdD {x y:Int} (h:y < x) (hx:x < z) (hy:0 ≤ y):(y - x) % z=y - x + z:=by
 rw [← Int.add_emod_right];exact Int.emod_eq_of_lt (by omega) (by omega)
theorem fm.ne (k:S.Ok) (D:fm S z b) {i j:Nat} (h:S.e i j=true):cB z b i ≠ cB z b j:=fun q=>by
 have h1:=D.2 i j h;have h2:=k.s1 h;rw [tz,q,Int.sub_self,Int.zero_emod] at h1;omega
theorem fm.step (k:S.Ok) (hz:0 < z) (D:fm S z b) (C:nJ S z b o) {i j:Nat} (h:inO o i j=true):wtO S z o i j ≤ cB z b j - cB z b i:=by
 have r1:=xv (b:=b) hz i;have r2:=xv (b:=b) hz j;unfold wtO;split
 ·rename_i hm;obtain ⟨e,l⟩:S.e j i=true∧cB z b j < cB z b i:=C _ hm;have:=D.2 i j (k.sy e);rw [tz,mdD l r1.2 r2.1] at this;omega
 ·rename_i hm;have hm':(i,j) ∈ o:=by simpa [inO,hm] using h
  obtain ⟨e,l⟩:S.e i j=true∧cB z b i < cB z b j:=C _ hm';have:=D.2 i j e;rw [tz,mdU (Int.le_of_lt l) r1.1 r2.2] at this;exact this
theorem fm.path (k:S.Ok) (hz:0 < z) (D:fm S z b) (C:nJ S z b o):∀ (r:List Nat) (x y:Nat),Cs o (x :: r ++ [y])=true→pwO S z o (x :: r ++ [y]) ≤ cB z b y - cB z b x:=by
 intro r
 induction r with
 | nil=>
  intro x y h;have h':inO o x y=true:=by simpa [Cs] using h
  have:=D.step k hz C h';show wtO S z o x y + 0 ≤ _;omega
 | cons u r ih=>
  intro x y h;have h':inO o x u=true∧Cs o (u :: r ++ [y])=true:=by simpa [Cs] using h
  have h1:=D.step k hz C h'.1;have h2:=ih u y h'.2;show wtO S z o x u + pwO S z o (u :: r ++ [y]) ≤ _;omega
theorem fm.no_ring (k:S.Ok) (hz:0 < z) (D:fm S z b) (C:nJ S z b o) (r:List Nat):Qi S z o r=false:=by
 rw [Bool.eq_false_iff];intro h;cases r with
 | nil=>simp [Qi] at h
 | cons x r=>
  unfold Qi at h;simp only [Bool.and_eq_true,decide_eq_true_eq] at h;have:=D.path k hz C r x x h.1.2;have h2:=h.2;rw [show (x :: r) ++ (x :: r).take 1=x :: r ++ [x] from rfl] at h2;omega
theorem fm.cons (C:nJ S z b o) {i j:Nat} (h:S.e i j=true) (hl:cB z b i < cB z b j):nJ S z b (o ++ [(i,j)]):=fun q hq=>by
 rcases List.mem_append.mp hq with hq | hq
 ·exact C q hq
 ·rw [List.mem_singleton.mp hq];exact ⟨h,hl⟩
theorem fm.sound (k:S.Ok) (hz:0 < z) (D:fm S z b) (hk:∀ i,S.m ≤ i→S.al i ≤ z):∀ (p:Pap) (o:Od),nJ S z b o→Qd S z o p=false:=by
 intro p
 induction p with
 | alone i=>
  intro o _;have:S.al i ≤ z:=by
   by_cases h:i < S.m
   ·exact D.1 i h
   ·exact hk i (by omega)
  simp [Qd];omega
 | ring r=>exact fun o C=>D.no_ring k hz C r
 | case i j p q ihp ihq=>
  intro o C;unfold Qd;cases he:S.e i j with
  | false=>rfl
  | true=>
   rcases Int.lt_or_lt_of_ne (D.ne k he) with h | h
   ·rw [ihp _ (fm.cons C he h),Bool.and_false,Bool.false_and]
   ·rw [ihq _ (fm.cons C (k.sy he) h),Bool.and_false]
noncomputable def qB (S:Sys):Nat→Od
 | 0=>[]
 | k + 1=>qB S k ++ (if S.e 0 (k + 1) then [(0,k + 1)] else [])
noncomputable def ar (S:Sys):Od:=qB S (S.m - 1)
theorem Dk {k:Nat} {q:Nat × Nat} (h:q ∈ qB S k):q.1=0∧0 < q.2∧q.2 ≤ k∧S.e 0 q.2=true:=by
 induction k with
 | zero=>cases h
 | succ k ih=>
  unfold qB at h;rcases List.mem_append.mp h with h | h
  ·have:=ih h;exact ⟨this.1,this.2.1,by omega,this.2.2.2⟩
  ·split at h
   ·rename_i he;rw [List.mem_singleton.mp h];exact ⟨rfl,Nat.succ_pos _,Nat.le_refl _,he⟩
   ·cases h
theorem oK:∀ k,(qB S k).Nodup:=by
 intro k
 induction k with
 | zero=>exact List.nodup_nil
 | succ k ih=>
  unfold qB;split
  ·rw [List.nodup_append];refine ⟨ih,by simp,fun x hx y hy e=>?_⟩;have:=Dk hx;rw [List.mem_singleton.mp hy] at e;rw [e] at this;omega
  ·simpa using ih
theorem fm.cons0 (k:S.Ok) (hz:0 < z) (D:fm S z b):nJ S z b (ar S):=fun q hq=>by
 obtain ⟨h1,h2,h3,h4⟩:=Dk hq;rw [h1];refine ⟨h4,?_⟩;have hn:=D.ne k h4;have h0:cB z b 0=0:=by unfold cB;rw [Int.sub_self,Int.zero_emod]
 have:=xv (b:=b) hz q.2;omega
theorem fm.more (hz:0 < z) (D:fm S z b) {y:Int} (h:z ≤ y):fm S y (cB z b):=by
 refine ⟨fun i hi=>Int.le_trans (D.1 i hi) h,fun i j e=>?_⟩;have r1:=xv (b:=b) hz i;have r2:=xv (b:=b) hz j;have:=D.2 i j e;rw [tz] at this;rcases Int.lt_or_le (cB z b j) (cB z b i) with q | q
 ·rw [mdD q r1.2 r2.1] at this;rw [mdD q (by omega) r2.1];omega
 ·rw [mdU q r1.1 r2.2] at this;rw [mdU q r1.1 (by omega)];exact this
theorem lC (k:S.Ok) (hk:∀ i,S.m ≤ i→S.al i ≤ z) {y:Int} {p:Pap} (h:Qd S z (ar S) p=true) (hy:0 < y) (hl:y ≤ z):¬ fm S y b:=fun D=>by
 have D2:=D.more hy hl;rw [D2.sound k (by omega) hk p _ (D2.cons0 k (by omega))] at h;cases h
end
section
variable {S:Sys} {z:Int} {o:Od}
noncomputable def chF (S:Sys):List Nat→Prop
 | []=>True
 | [_]=>True
 | x :: y :: r=>S.e x y=true∧chF S (y :: r)
theorem wj:∀ (a:List Nat) (x:Nat) (r:List Nat),pwO S z o (a ++ x :: r)=pwO S z o (a ++ [x]) + pwO S z o (x :: r):=by
 intro a
 induction a with
 | nil=>intro x r;simp [pwO]
 | cons u a ih=>
  intro x r;cases a with
  | nil=>simp [pwO]
  | cons v a=>
   have:=ih x r;simp only [List.cons_append,pwO] at this ⊢;omega
theorem Ch:∀ (a:List Nat) (x:Nat) (r:List Nat),chF S (a ++ x :: r)↔chF S (a ++ [x])∧chF S (x :: r):=by
 intro a
 induction a with
 | nil=>intro x r;simp [chF]
 | cons u a ih=>
  intro x r;cases a with
  | nil=>simp [chF]
  | cons v a=>
   have:=ih x r;simp only [List.cons_append,chF] at this ⊢;rw [this,and_assoc]
theorem Qv:∀ {l:List Nat},¬ l.Nodup→∃ a x b c,l=a ++ x :: (b ++ x :: c):=by
 intro l
 induction l with
 | nil=>intro h;exact absurd List.nodup_nil h
 | cons y t ih=>
  intro h;by_cases hy:y ∈ t
  ·obtain ⟨b,c,rfl⟩:=List.append_of_mem hy;exact ⟨[],y,b,c,rfl⟩
  ·obtain ⟨a,x,b,c,rfl⟩:=ih (fun q=>h (List.nodup_cons.mpr ⟨hy,q⟩));exact ⟨y :: a,x,b,c,rfl⟩
theorem YF:∀ {l:List Nat},l ≠ []→∃ y ∈ l,∀ x ∈ l,y ≤ x:=by
 intro l
 induction l with
 | nil=>intro h;exact absurd rfl h
 | cons x l ih=>
  intro _;by_cases hl:l=[]
  ·subst hl;exact ⟨x,by simp,by simp⟩
  ·obtain ⟨y,hy,h⟩:=ih hl;by_cases q:x ≤ y
   ·refine ⟨x,List.mem_cons_self ..,fun u hu=>?_⟩;rcases List.mem_cons.mp hu with rfl | hu
    ·exact Nat.le_refl _
    ·exact Nat.le_trans q (h u hu)
   ·refine ⟨y,List.mem_cons_of_mem _ hy,fun u hu=>?_⟩;rcases List.mem_cons.mp hu with rfl | hu
    ·omega
    ·exact h u hu
noncomputable def Sn (S:Sys) (z:Int) (o:Od):Prop:=∀ x t,(x :: t).Nodup→(∀ y ∈ t,x < y)→t ≠ []→chF S (x :: t ++ [x])→pwO S z o (x :: t ++ [x]) ≤ 0
theorem Sn.simple (k:S.Ok) (R:Sn S z o) {x:Nat} {t:List Nat} (nd:(x :: t).Nodup) (h:chF S (x :: t ++ [x])):pwO S z o (x :: t ++ [x]) ≤ 0:=by
 have ht:t ≠ []:=fun q=>by
  subst q;exact (k.lt h.1).2.2 rfl
 obtain ⟨y,hy,hl⟩:=YF (l:=x :: t) (by simp);obtain ⟨a,c,e⟩:=List.append_of_mem hy;cases a with
 | nil=>
  cases e;refine R x t nd (fun u hu=>?_) ht h;have:=hl u (List.mem_cons_of_mem _ hu);have:u ≠ x:=fun q=>(List.nodup_cons.mp nd).1 (q ▸ hu)
  omega
 | cons x' a=>
  rw [List.cons_append,List.cons.injEq] at e;obtain ⟨rfl,rfl⟩:=e;have e1:x :: (a ++ y :: c) ++ [x]=(x :: a) ++ y :: (c ++ [x]):=by simp
  have e2:y :: (c ++ x :: a) ++ [y]=(y :: c) ++ x :: (a ++ [y]):=by simp
  rw [e1,Ch] at h;have nd':(y :: (c ++ x :: a)).Nodup:=by
   have:=(List.perm_append_comm (l₁:=x :: a) (l₂:=y :: c)).nodup_iff.mp nd;simpa using this
  have:=R y (c ++ x :: a) nd' (fun u hu=>by
   have h1:=hl u (by
    rcases List.mem_append.mp hu with q | q
    ·simp [q]
    ·rcases List.mem_cons.mp q with rfl | q
     ·simp
     ·simp [q])
   have h2:u ≠ y:=fun q=>(List.nodup_cons.mp nd').1 (q ▸ hu)
   omega) (by simp) (by rw [e2,Ch];exact ⟨by simpa using h.2,by simpa using h.1⟩)
  rw [e2,wj] at this;rw [e1,wj];simp only [List.cons_append] at this ⊢;omega
theorem Sn.closed (k:S.Ok) (R:Sn S z o):∀ (n:Nat) (x:Nat) (t:List Nat),t.length ≤ n→chF S (x :: t ++ [x])→pwO S z o (x :: t ++ [x]) ≤ 0:=by
 intro n
 induction n with
 | zero=>
  intro x t hn h;have:t=[]:=List.length_eq_zero_iff.mp (by omega);subst this;exact absurd rfl (k.lt h.1).2.2
 | succ n ih=>
  intro x t hn h;by_cases nd:(x :: t).Nodup
  ·exact R.simple k nd h
  ·obtain ⟨a,y,b,c,e⟩:=Qv nd;have hlen:=congrArg List.length e;simp only [List.length_cons,List.length_append] at hlen;rw [e,show a ++ y :: (b ++ y :: c) ++ [x]=a ++ y :: (b ++ y :: (c ++ [x])) by simp,Ch] at h;obtain ⟨h1,h2⟩:=h;rw [show y :: (b ++ y :: (c ++ [x]))=(y :: b) ++ y :: (c ++ [x]) by simp,Ch] at h2;obtain ⟨h2,h3⟩:=h2;have i1:=ih y b (by omega) h2;rw [e,show a ++ y :: (b ++ y :: c) ++ [x]=a ++ y :: (b ++ y :: (c ++ [x])) by simp,wj,show y :: (b ++ y :: (c ++ [x]))=(y :: b) ++ y :: (c ++ [x]) by simp,wj (y :: b)];have i2:pwO S z o (a ++ [y]) + pwO S z o (y :: (c ++ [x])) ≤ 0:=by
    rw [← wj];cases a with
    | nil=>
     cases e;exact ih x c (by simp at hn;omega) h3
    | cons x' a=>
     rw [List.cons_append,List.cons.injEq] at e;obtain ⟨rfl,rfl⟩:=e;refine ih x (a ++ y :: c) (by simp at hn ⊢;omega) ?_ |> fun q=>by simpa using q
     rw [show x :: (a ++ y :: c) ++ [x]=(x :: a) ++ y :: (c ++ [x]) by simp,Ch];exact ⟨h1,h3⟩
   omega
theorem Sn.cut (k:S.Ok) (R:Sn S z o) (v:Nat):∀ (n:Nat) (l:List Nat),l.length ≤ n→chF S (l ++ [v])→∃ l',chF S (l' ++ [v])∧(l' ++ [v]).Nodup∧pwO S z o (l ++ [v]) ≤ pwO S z o (l' ++ [v]):=by
 intro n
 induction n with
 | zero=>
  intro l hn h;have:l=[]:=List.length_eq_zero_iff.mp (by omega);subst this;exact ⟨[],h,by simp,Int.le_refl _⟩
 | succ n ih=>
  intro l hn h;by_cases nd:(l ++ [v]).Nodup
  ·exact ⟨l,h,nd,Int.le_refl _⟩
  ·obtain ⟨a,y,b,c,e⟩:=Qv nd;have hlen:=congrArg List.length e;simp only [List.length_cons,List.length_append,List.length_nil] at hlen;rw [e,Ch] at h;obtain ⟨h1,h2⟩:=h;rw [show y :: (b ++ y :: c)=(y :: b) ++ y :: c by simp,Ch] at h2;obtain ⟨h2,h3⟩:=h2;have i1:=R.closed k b.length y b (Nat.le_refl _) h2;obtain ⟨d,ed⟩:∃ d,a ++ y :: c=d ++ [v]:=by
    rcases List.eq_nil_or_concat c with rfl | ⟨c',u,rfl⟩
    ·have:l ++ [v]=(a ++ y :: b) ++ [y]:=by rw [e];simp
     have:=(List.append_inj' this rfl).2;cases this;exact ⟨a,by simp⟩
    ·have:l ++ [v]=(a ++ y :: (b ++ y :: c')) ++ [u]:=by rw [e];simp
     have:=(List.append_inj' this rfl).2;cases this;exact ⟨a ++ y :: c',by simp⟩
   have hd:=congrArg List.length ed;simp only [List.length_cons,List.length_append,List.length_nil] at hd;obtain ⟨l',g1,g2,g3⟩:=ih d (by omega) (by rw [← ed,Ch];exact ⟨h1,h3⟩);refine ⟨l',g1,g2,Int.le_trans ?_ g3⟩;rw [← ed,e,wj,show y :: (b ++ y :: c)=(y :: b) ++ y :: c by simp,wj (y :: b),wj a y c];simp only [List.cons_append] at i1 ⊢;omega
noncomputable def relax (S:Sys) (z:Int) (o:Od) (b:Nat→Int) (p:Nat × Nat):Nat→Int:=fun v=>if v=p.2 then max (b p.2) (b p.1 + wtO S z o p.1 p.2) else b v
theorem Rz (b:Nat→Int) (p:Nat × Nat) (v:Nat):b v ≤ relax S z o b p v:=by
 unfold relax;split
 ·rename_i h;rw [h];exact Int.le_max_left ..
 ·exact Int.le_refl _
theorem MD:∀ (E:Od) (b:Nat→Int) (v:Nat),b v ≤ E.foldl (relax S z o) b v:=by
 intro E
 induction E with
 | nil=>intro b v;exact Int.le_refl _
 | cons p E ih=>intro b v;exact Int.le_trans (Rz b p v) (ih _ v)
theorem HJ:∀ (E:Od) (b:Nat→Int) {u v:Nat},(u,v) ∈ E→b u + wtO S z o u v ≤ E.foldl (relax S z o) b v:=by
 intro E
 induction E with
 | nil=>intro b u v h;cases h
 | cons p E ih=>
  intro b u v h;rcases List.mem_cons.mp h with rfl | h
  ·refine Int.le_trans ?_ (MD E _ v);show _ ≤ relax S z o b (u,v) v;unfold relax;rw [if_pos rfl];exact Int.le_max_right ..
  ·have:=Rz (S:=S) (z:=z) (o:=o) b p u;exact Int.le_trans (by omega) (ih _ h)
noncomputable def Wk (S:Sys) (z:Int) (o:Od) (b:Nat→Int):Prop:=∀ v,∃ l,chF S (l ++ [v])∧pwO S z o (l ++ [v])=b v
theorem Wk.relax {b:Nat→Int} (h:Wk S z o b) {p:Nat × Nat} (hp:S.e p.1 p.2=true):Wk S z o (relax S z o b p):=fun v=>by
 unfold My.relax;split
 ·rename_i hv;rcases Int.le_total (b p.1 + wtO S z o p.1 p.2) (b p.2) with q | q
  ·rw [Int.max_eq_left q,hv];exact h _
  ·rw [Int.max_eq_right q,hv];obtain ⟨l,h1,h2⟩:=h p.1;refine ⟨l ++ [p.1],?_,?_⟩
   ·rw [show l ++ [p.1] ++ [p.2]=l ++ p.1 :: [p.2] by simp,Ch];exact ⟨h1,hp,trivial⟩
   ·rw [show l ++ [p.1] ++ [p.2]=l ++ p.1 :: [p.2] by simp,wj,h2];simp [pwO]
 ·exact h v
theorem Wk.fold:∀ (E:Od) {b:Nat→Int},Wk S z o b→(∀ p ∈ E,S.e p.1 p.2=true)→Wk S z o (E.foldl (My.relax S z o) b):=by
 intro E
 induction E with
 | nil=>intro b h _;exact h
 | cons p E ih=>intro b h hE;exact ih (h.relax (hE p (List.mem_cons_self ..))) fun q hq=>hE q (List.mem_cons_of_mem _ hq)
noncomputable def lp (S:Sys) (z:Int) (o:Od) (E:Od):Nat→Nat→Int
 | 0=>fun _=>0
 | k + 1=>E.foldl (relax S z o) (lp S z o E k)
theorem lG {E:Od} (hE:∀ p ∈ E,S.e p.1 p.2=true):∀ k,Wk S z o (lp S z o E k):=by
 intro k
 induction k with
 | zero=>exact fun v=>⟨[],trivial,rfl⟩
 | succ k ih=>exact ih.fold E hE
theorem nH {E:Od} (hE:∀ i j,S.e i j=true→(i,j) ∈ E):∀ (k:Nat) (v:Nat) (l:List Nat),l.length ≤ k→chF S (l ++ [v])→pwO S z o (l ++ [v]) ≤ lp S z o E k v:=by
 intro k
 induction k with
 | zero=>
  intro v l hl h;have:l=[]:=List.length_eq_zero_iff.mp (by omega);subst this;exact Int.le_refl _
 | succ k ih=>
  intro v l hl h;rcases List.eq_nil_or_concat l with rfl | ⟨l',u,rfl⟩
  ·exact Int.le_trans (ih v [] (Nat.zero_le _) h) (MD E _ v)
  ·rw [show l'.concat u ++ [v]=l' ++ u :: [v] by simp,Ch] at h;have h1:=ih u l' (by simpa using hl) h.1;have h2:=HJ (S:=S) (z:=z) (o:=o) E (lp S z o E k) (hE u v h.2.1);rw [show l'.concat u ++ [v]=l' ++ u :: [v] by simp,wj];show _ ≤ E.foldl (relax S z o) (lp S z o E k) v;simp only [pwO];omega
theorem WM (k:S.Ok) {v:Nat} (hv:v < S.m):∀ {l:List Nat},chF S (l ++ [v])→∀ x ∈ l ++ [v],x < S.m:=by
 intro l
 induction l with
 | nil=>intro _ x hx;rw [List.mem_singleton.mp hx];exact hv
 | cons u l ih=>
  intro h x hx;have h':S.e u ((l ++ [v]).headD 0)=true∧chF S (l ++ [v]):=by
   cases l with
   | nil=>exact h
   | cons y l=>exact h
  rcases List.mem_cons.mp hx with rfl | hx
  ·exact (k.lt h'.1).1
  ·exact ih h'.2 x hx
theorem Px {m:Nat} {l:List Nat} (nd:l.Nodup) (h:∀ x ∈ l,x < m):l.length ≤ m:=by
 induction m generalizing l with
 | zero=>
  cases l with
  | nil=>exact Nat.le_refl _
  | cons x l=>exact absurd (h x (List.mem_cons_self ..)) (Nat.not_lt_zero _)
 | succ m ih=>
  by_cases q:m ∈ l
  ·have:=ih (nd.erase m) fun x hx=>by
    have h1:=h x (List.mem_of_mem_erase hx);have h2:=(nd.mem_erase_iff.mp hx).1;omega
   rw [List.length_erase_of_mem q] at this;omega
  ·have:=ih nd fun x hx=>by
    have h1:=h x hx;have h2:x ≠ m:=fun e=>q (e ▸ hx)
    omega
   omega
theorem xB (k:S.Ok) {E:Od} (hE:∀ p ∈ E,S.e p.1 p.2=true) (hF:∀ i j,S.e i j=true→(i,j) ∈ E) (R:Sn S z o) {i j:Nat} (h:S.e i j=true):lp S z o E S.m i + wtO S z o i j ≤ lp S z o E S.m j:=by
 obtain ⟨l,h1,h2⟩:=lG (z:=z) (o:=o) hE S.m i;have c1:chF S ((l ++ [i]) ++ [j]):=by
  rw [show l ++ [i] ++ [j]=l ++ i :: [j] by simp,Ch];exact ⟨h1,h,trivial⟩
 obtain ⟨l',g1,g2,g3⟩:=R.cut k j _ (l ++ [i]) (Nat.le_refl _) c1;have hn:=Px g2 (WM k (k.lt h).2.1 g1);have:=nH (z:=z) (o:=o) hF S.m j l' (by simp at hn;omega) g1;rw [show l ++ [i] ++ [j]=l ++ i :: [j] by simp,wj,h2] at g3;simp only [pwO] at g3;omega
theorem Ou (k:S.Ok) (hz:0 < z) (ha:∀ i,i < S.m→S.al i ≤ z) {b:Nat→Int} (ho:∀ i j,S.e i j=true→inO o i j=true) (hs:∀ i j,(i,j) ∈ o→(j,i) ∉ o) (h:∀ i j,S.e i j=true→b i + wtO S z o i j ≤ b j):fm S z b:=by
 refine ⟨ha,fun i j e=>?_⟩;have h1:=h i j e;have h2:=h j i (k.sy e);have s1:=k.s1 e;have s2:=k.s1 (k.sy e);unfold wtO at h1 h2;by_cases q:(j,i) ∈ o
 ·rw [if_pos q] at h1;rw [if_neg (hs _ _ q)] at h2;rw [← Int.add_emod_right,Int.emod_eq_of_lt (by omega) (by omega)];omega
 ·have q':(i,j) ∈ o:=by simpa [inO,q] using ho i j e
  rw [if_neg q] at h1;rw [if_pos q'] at h2;rw [Int.emod_eq_of_lt (by omega) (by omega)];omega
end
noncomputable def ll (p:List Nat):Nat:=p.getLast?.getD 0
noncomputable def JA (S:Sys) (p:List Nat):List (List Nat):=((((List.range (S.m - (p.headD 0 + 1))).map fun k=>p.headD 0 + 1 + k).filter fun v=>S.e (ll p) v).filter fun v=>decide (v ∉ p)).map fun v=>p ++ [v]
noncomputable def lev (S:Sys):Nat→List (List Nat)
 | 0=>(List.range S.m).map fun k=>[k]
 | k + 1=>(lev S k).flatMap (JA S)
noncomputable def clR (S:Sys) (p:List Nat):Bool:=S.e (ll p) (p.headD 0)
noncomputable def Xg (S:Sys):Nat→List (List Nat)
 | 0=>[]
 | k + 1=>Xg S k ++ (lev S (k + 1)).filter (clR S)
section
variable {S:Sys} {z:Int} {o:Od}
theorem Ws (a:List Nat) (u:Nat):ll (a ++ [u])=u:=by unfold ll;simp
theorem Qy {p q:List Nat}:q ∈ JA S p↔∃ v,q=p ++ [v]∧p.headD 0 < v∧v < S.m∧S.e (ll p) v=true∧v ∉ p:=by
 unfold JA;constructor
 ·intro h;obtain ⟨v,hv,rfl⟩:=List.mem_map.mp h;obtain ⟨hv,h2⟩:=List.mem_filter.mp hv;obtain ⟨hv,h1⟩:=List.mem_filter.mp hv;obtain ⟨k,hk,rfl⟩:=List.mem_map.mp hv;have:=List.mem_range.mp hk;exact ⟨_,rfl,by omega,by omega,h1,of_decide_eq_true h2⟩
 ·rintro ⟨v,rfl,h1,h2,h3,h4⟩;refine List.mem_map.mpr ⟨v,List.mem_filter.mpr ⟨List.mem_filter.mpr ⟨List.mem_map.mpr ⟨v - (p.headD 0 + 1),List.mem_range.mpr (by omega),by omega⟩,h3⟩,decide_eq_true h4⟩,rfl⟩
theorem Oy:∀ (k:Nat) (p:List Nat),p ∈ lev S k→p.length=k + 1∧p.Nodup∧∀ x ∈ p,x < S.m:=by
 intro k
 induction k with
 | zero=>
  intro p h;obtain ⟨v,hv,rfl⟩:=List.mem_map.mp h;exact ⟨rfl,by simp,fun x hx=>by rw [List.mem_singleton.mp hx];exact List.mem_range.mp hv⟩
 | succ k ih=>
  intro p h;obtain ⟨q,hq,h⟩:=List.mem_flatMap.mp h;obtain ⟨v,rfl,h1,h2,h3,h4⟩:=Qy.mp h;obtain ⟨i1,i2,i3⟩:=ih q hq;refine ⟨by rw [List.length_append,i1];rfl,?_,fun x hx=>?_⟩
  ·rw [List.nodup_append];exact ⟨i2,by simp,fun x hx y hy e=>h4 (by rw [← List.mem_singleton.mp hy,← e];exact hx)⟩
  ·rcases List.mem_append.mp hx with hx | hx
   ·exact i3 x hx
   ·rw [List.mem_singleton.mp hx];exact h2
theorem aK:lev S S.m=[]:=by
 refine List.eq_nil_iff_forall_not_mem.mpr fun p hp=>?_
 obtain ⟨h1,h2,h3⟩:=Oy _ p hp;have:=Px h2 h3;omega
theorem qy {k:Nat} (h:lev S k=[]):∀ i,lev S (k + i)=[]:=by
 intro i
 induction i with
 | zero=>exact h
 | succ i ih=>show (lev S (k + i)).flatMap (JA S)=[];rw [ih];rfl
theorem XC {p:List Nat} {v:Nat} (hp:p ≠ []) (h:chF S (p ++ [v])):S.e (ll p) v=true:=by
 rcases List.eq_nil_or_concat p with rfl | ⟨a,u,rfl⟩
 ·exact absurd rfl hp
 ·rw [List.concat_eq_append,List.append_assoc] at h;rw [List.concat_eq_append,Ws];exact ((Ch a u [v]).mp h).2.1
theorem yJ:∀ (n:Nat) (x:Nat) (t:List Nat),t.length=n→(x :: t).Nodup→(∀ y ∈ t,x < y)→chF S (x :: t)→(∀ y ∈ x :: t,y < S.m)→x :: t ∈ lev S n:=by
 intro n
 induction n with
 | zero=>
  intro x t hn _ _ _ h;have:t=[]:=List.length_eq_zero_iff.mp hn;subst this;exact List.mem_map.mpr ⟨x,List.mem_range.mpr (h x (List.mem_cons_self ..)),rfl⟩
 | succ n ih=>
  intro x t hn nd hl hc hm;rcases List.eq_nil_or_concat t with rfl | ⟨a,v,rfl⟩
  ·cases hn
  ·rw [List.concat_eq_append] at *;rw [← List.cons_append] at nd hc hm ⊢;rw [List.nodup_append] at nd;have hc':chF S (x :: a):=by
    rcases List.eq_nil_or_concat a with rfl | ⟨b,u,rfl⟩
    ·exact trivial
    ·rw [List.concat_eq_append,← List.cons_append] at hc ⊢;rw [List.append_assoc] at hc;exact ((Ch (x :: b) u [v]).mp hc).1
   refine List.mem_flatMap.mpr ⟨x :: a,ih x a (by simpa using hn) nd.1 (fun y hy=>hl y (by simp [hy])) hc' (fun y hy=>hm y (by simp only [List.mem_append];exact .inl hy)),Qy.mpr ⟨v,rfl,hl v (by simp),hm v (by simp),XC (by simp) hc,fun h=>nd.2.2 v h v (by simp) rfl⟩⟩
theorem AA {r:List Nat}:∀ {k:Nat},r ∈ Xg S k→∃ i,i < k∧r ∈ lev S (i + 1):=by
 intro k
 induction k with
 | zero=>intro h;cases h
 | succ k ih=>
  intro h;rcases List.mem_append.mp h with h | h
  ·obtain ⟨i,hi,h⟩:=ih h;exact ⟨i,by omega,h⟩
  ·exact ⟨k,by omega,(List.mem_filter.mp h).1⟩
theorem ZE {r:List Nat} {i k:Nat} (hi:i < k) (h:r ∈ lev S (i + 1)) (hc:clR S r=true):r ∈ Xg S k:=by
 induction k with
 | zero=>omega
 | succ k ih=>
  by_cases q:i < k
  ·exact List.mem_append_left _ (ih q)
  ·have:i=k:=by omega
   subst this;exact List.mem_append_right _ (List.mem_filter.mpr ⟨h,hc⟩)
theorem BD (k:S.Ok) {K:Nat} (hK:lev S K=[]) {x:Nat} {t:List Nat} (nd:(x :: t).Nodup) (hl:∀ y ∈ t,x < y) (ht:t ≠ []) (hc:chF S (x :: t ++ [x])):x :: t ∈ Xg S K:=by
 obtain ⟨a,u,e⟩:∃ a u,t=a ++ [u]:=by
  rcases List.eq_nil_or_concat t with q | ⟨a,u,q⟩
  ·exact absurd q ht
  ·exact ⟨a,u,by rw [q,List.concat_eq_append]⟩
 have hlast:=XC (p:=x :: t) (by simp) hc;have hx:=(k.lt hlast).2.1;have hc':chF S (x :: t):=by
  rw [e,← List.cons_append] at hc ⊢;rw [List.append_assoc] at hc;exact ((Ch (x :: a) u [x]).mp hc).1
 have hm:x :: t ∈ lev S t.length:=yJ _ x t rfl nd hl hc' (fun y hy=>WM k hx hc y (List.mem_append_left _ hy));have h1:t.length < K:=by
  rcases Nat.lt_or_ge t.length K with q | q
  ·exact q
  ·have:=qy hK (t.length - K);rw [show K + (t.length - K)=t.length by omega] at this;rw [this] at hm;cases hm
 have h0:0 < t.length:=List.length_pos_iff.mpr ht;refine ZE (i:=t.length - 1) (by omega) (by rw [show t.length - 1 + 1=t.length by omega];exact hm) hlast
theorem nE (ho:∀ i j,S.e i j=true→inO o i j=true):∀ (l:List Nat),chF S l→Cs o l=true:=by
 intro l
 induction l with
 | nil=>intro _;rfl
 | cons x l ih=>
  intro h;cases l with
  | nil=>rfl
  | cons y l=>
   have h':S.e x y=true∧chF S (y :: l):=h;show (inO o x y && Cs o (y :: l))=true;rw [ho _ _ h'.1,ih h'.2];rfl
theorem uA (k:S.Ok) {K:Nat} (hK:lev S K=[]) (ho:∀ i j,S.e i j=true→inO o i j=true) (h:∀ r ∈ Xg S K,Qi S z o r=false):Sn S z o:=fun x t nd hl ht hc=>by
 have hb:=h _ (BD k hK nd hl ht hc);have h0:0 < t.length:=List.length_pos_iff.mpr ht;unfold Qi at hb;rw [show (x :: t) ++ (x :: t).take 1=x :: t ++ [x] from rfl,nE ho _ hc,decide_eq_true (show 2 ≤ (x :: t).length by rw [List.length_cons];omega),decide_eq_true nd] at hb;simpa using hb
theorem Ey (p:List Nat):(JA S p).length ≤ S.m:=by
 unfold JA;rw [List.length_map];refine Nat.le_trans (List.length_filter_le ..) (Nat.le_trans (List.length_filter_le ..) ?_);rw [List.length_map,List.length_range];omega
theorem yy {f:List Nat→List (List Nat)} {c:Nat} (h:∀ p,(f p).length ≤ c):∀ l:List (List Nat),(l.flatMap f).length ≤ l.length * c:=by
 intro l
 induction l with
 | nil=>simp
 | cons p l ih=>
  rw [List.flatMap_cons,List.length_append,List.length_cons,Nat.succ_mul];have:=h p;omega
theorem kD:∀ k,(lev S k).length ≤ S.m ^ (k + 1):=by
 intro k
 induction k with
 | zero=>simp [lev]
 | succ k ih=>
  show ((lev S k).flatMap (JA S)).length ≤ _;refine Nat.le_trans (yy Ey _) ?_;rw [Nat.pow_succ];exact Nat.mul_le_mul_right _ ih
end
structure jA (S:Sys) (o:Od):Prop where
 e:∀ p ∈ o,S.e p.1 p.2=true
 nd:o.Nodup
 as:∀ i j,(i,j) ∈ o→(j,i) ∉ o
theorem jA.len {S:Sys} {o:Od} (h:jA S o) (k:S.Ok) (hm:S.m ≤ 6):o.length ≤ 36:=by
 have h1:(o.map fun p=>p.1 * 6 + p.2).Nodup:=by
  have:∀ l:Od,l.Nodup→(∀ p ∈ l,p.1 < 6∧p.2 < 6)→(l.map fun p=>p.1 * 6 + p.2).Nodup:=by
   intro l
   induction l with
   | nil=>intro _ _;exact List.nodup_nil
   | cons p l ih=>
    intro nd hl;rw [List.nodup_cons] at nd;rw [List.map_cons,List.nodup_cons];refine ⟨fun hx=>?_,ih nd.2 fun q hq=>hl q (List.mem_cons_of_mem _ hq)⟩;obtain ⟨q,hq,e⟩:=List.mem_map.mp hx;have a1:=hl p (List.mem_cons_self ..);have a2:=hl q (List.mem_cons_of_mem _ hq);exact nd.1 (by rw [show p=q from Prod.ext (by omega) (by omega)];exact hq)
  exact this o h.nd fun p hp=>by have:=k.lt (h.e p hp);omega
 have:=Px (m:=36) h1 fun x hx=>by
  obtain ⟨p,hp,rfl⟩:=List.mem_map.mp hx;have:=k.lt (h.e p hp);omega
 rw [List.length_map] at this;exact this
theorem jA.in_e {S:Sys} {o:Od} (h:jA S o) (k:S.Ok) {i j:Nat} (q:inO o i j=true):S.e i j=true:=by
 unfold inO at q;rcases Bool.or_eq_true_iff.mp q with q | q
 ·exact h.e _ (of_decide_eq_true q)
 ·exact k.sy (h.e _ (of_decide_eq_true q))
theorem jA.put {S:Sys} {o:Od} (h:jA S o) (k:S.Ok) {i j:Nat} (he:S.e i j=true) (hn:inO o i j=false):jA S (o ++ [(i,j)]):=by
 unfold inO at hn;rw [Bool.or_eq_false_iff,decide_eq_false_iff_not,decide_eq_false_iff_not] at hn;refine ⟨fun p hp=>?_,?_,fun a b hab hba=>?_⟩
 ·rcases List.mem_append.mp hp with hp | hp
  ·exact h.e p hp
  ·rw [List.mem_singleton.mp hp];exact he
 ·rw [List.nodup_append];exact ⟨h.nd,by simp,fun x hx y hy e=>hn.1 (by rw [← List.mem_singleton.mp hy,← e];exact hx)⟩
 ·have hne:=(k.lt he).2.2;rcases List.mem_append.mp hab with x | x <;> rcases List.mem_append.mp hba with y | y
  ·exact h.as a b x y
  ·cases List.mem_singleton.mp y;exact hn.2 x
  ·cases List.mem_singleton.mp x;exact hn.2 y
  ·cases List.mem_singleton.mp x;cases List.mem_singleton.mp y;exact hne rfl
theorem Jo (o:Od) (i j:Nat):inO o i j=inO o j i:=Bool.or_comm ..
noncomputable def vL (m:Nat):Od:=(List.range m).flatMap fun j=>(List.range j).map fun i=>(i,j)
theorem Dz {m i j:Nat} (h:i < j) (hj:j < m):(i,j) ∈ vL m:=List.mem_flatMap.mpr ⟨j,List.mem_range.mpr hj,List.mem_map.mpr ⟨i,List.mem_range.mpr h,rfl⟩⟩
noncomputable def unO (S:Sys) (o:Od):Nat:=(vL S.m).countP fun p=>S.e p.1 p.2 && !inO o p.1 p.2
theorem vz {α:Type} {p q:α→Bool} (h:∀ x,q x=true→p x=true):∀ {l:List α} {y:α},y ∈ l→p y=true→q y=false→l.countP q < l.countP p:=by
 intro l
 induction l with
 | nil=>intro y hy;cases hy
 | cons x l ih=>
  intro y hy h1 h2;rw [List.countP_cons,List.countP_cons];have hle:l.countP q ≤ l.countP p:=List.countP_mono_left fun x _=>h x
  rcases List.mem_cons.mp hy with rfl | hy
  ·rw [h1,h2];simp;omega
  ·have:=ih hy h1 h2;by_cases hq:q x=true
   ·rw [h x hq,hq];simp;exact this
   ·rw [Bool.not_eq_true] at hq;rw [hq];simp;omega
section
variable {S:Sys} {o:Od}
theorem yK (i j a b:Nat) (h:inO o a b=true):inO (o ++ [(i,j)]) a b=true:=by
 unfold inO at h ⊢;simp only [Bool.or_eq_true,decide_eq_true_eq,List.mem_append] at h ⊢;exact h.imp .inl .inl
theorem NE (i j:Nat):inO (o ++ [(i,j)]) i j=true:=by
 unfold inO;simp
theorem zw (k:S.Ok) {i j:Nat} (he:S.e i j=true) (hn:inO o i j=false):unO S (o ++ [(i,j)]) < unO S o:=by
 have hl:=k.lt he;unfold unO;have hmono:∀ p:Nat × Nat,(S.e p.1 p.2 && !inO (o ++ [(i,j)]) p.1 p.2)=true→(S.e p.1 p.2 && !inO o p.1 p.2)=true:=fun p h=>by
  rw [Bool.and_eq_true,Bool.not_eq_true'] at h ⊢;refine ⟨h.1,?_⟩;rw [Bool.eq_false_iff];intro q;rw [yK i j _ _ q] at h;cases h.2
 rcases Nat.lt_or_gt_of_ne hl.2.2 with q | q
 ·exact vz hmono (Dz q hl.2.1) (by simp [he,hn]) (by simp [NE])
 ·refine vz hmono (Dz q hl.1) (by simp [k.sy he,Jo o j i,hn]) (by simp [Jo _ j i,NE])
theorem pJ (k:S.Ok) {i j:Nat} (he:S.e i j=true) (hn:inO o i j=false):0 < unO S o:=Nat.lt_of_le_of_lt (Nat.zero_le _) (zw k he hn)
theorem YG:∀ k,(qB S k).length ≤ k:=by
 intro k
 induction k with
 | zero=>exact Nat.le_refl _
 | succ k ih=>
  unfold qB;rw [List.length_append];split <;> simp <;> omega
theorem dJ {k j:Nat} (h0:0 < j) (hj:j ≤ k) (he:S.e 0 j=true):(0,j) ∈ qB S k:=by
 induction k with
 | zero=>omega
 | succ k ih=>
  unfold qB;by_cases q:j ≤ k
  ·exact List.mem_append_left _ (ih q)
  ·have:j=k + 1:=by omega
   subst this;rw [if_pos he];exact List.mem_append_right _ (by simp)
theorem wz (k:S.Ok) (hm:S.m ≤ 6):unO S (ar S) ≤ 10∧(S.m ≤ 5→unO S (ar S) ≤ 6):=by
 have h:unO S (ar S) ≤ (vL S.m).countP fun p=>decide (p.1 ≠ 0):=by
  refine List.countP_mono_left fun p _ hp=>?_
  rw [Bool.and_eq_true,Bool.not_eq_true'] at hp;refine decide_eq_true fun q=>?_
  rw [q] at hp;have hl:=k.lt hp.1;have:inO (ar S) 0 p.2=true:=by
   unfold inO;rw [decide_eq_true (show (0,p.2) ∈ ar S from dJ (by omega) (by omega) hp.1)];rfl
  rw [this] at hp;cases hp.2
 have h6:∀ m,m ≤ 6→((vL m).countP fun p=>decide (p.1 ≠ 0)) ≤ 10∧(m ≤ 5→((vL m).countP fun p=>decide (p.1 ≠ 0)) ≤ 6):=by decide +kernel
 exact ⟨Nat.le_trans h (h6 _ hm).1,fun q=>Nat.le_trans h ((h6 _ hm).2 q)⟩
theorem pE:jA S (ar S) where
 e:=fun p hp=>by
  obtain ⟨h1,h2,h3,h4⟩:=Dk hp;rw [h1];exact h4
 nd:=oK _
 as:=fun i j h1 h2=>by
  have a:=Dk h1;have b:=Dk h2;have:i=0:=a.1;have:0 < i:=b.2.1;omega
noncomputable def vo (f:Nat→Int):Nat→Int
 | 0=>0
 | k + 1=>vo f k + f k
theorem RD {f:Nat→Int} {m:Nat} (h:∀ i,i < m→0 ≤ f i):∀ (d i:Nat),i + d ≤ m→vo f i ≤ vo f (i + d):=by
 intro d
 induction d with
 | zero=>intro i _;exact Int.le_refl _
 | succ d ih=>
  intro i hi;have h1:=ih i (by omega);have h2:=h (i + d) (by omega);show _ ≤ vo f (i + d) + f (i + d);omega
theorem Fm {f:Nat→Int} {m:Nat} (h:∀ i,i < m→0 ≤ f i) {i j:Nat} (hij:i < j) (hj:j ≤ m):vo f i + f i ≤ vo f j:=by
 have:=RD h (j - (i + 1)) (i + 1) (by omega);rw [show i + 1 + (j - (i + 1))=j by omega] at this;exact this
theorem uJ (k:S.Ok) {mx:Nat→Int} (h0:∀ i,0 ≤ mx i) (h:∀ i j,S.e i j=true→S.st i j ≤ mx i):fm S (vo (fun i=>S.al i + mx i) S.m) (vo fun i=>S.al i + mx i):=by
 have hf:∀ i,i < S.m→0 ≤ S.al i + mx i:=fun i hi=>by have:=k.a1 hi;have:=h0 i;omega
 have hs:∀ i,0 + i ≤ S.m→0 ≤ vo (fun i=>S.al i + mx i) i:=fun i hi=>by
  have:=RD hf i 0 hi;simpa [vo] using this
 refine ⟨fun i hi=>?_,fun i j e=>?_⟩
 ·have h1:=Fm hf (i:=i) (j:=S.m) hi (Nat.le_refl _);have h2:=hs i (by omega);have h3:=h0 i;omega
 ·have hl:=k.lt e;have hi:=Fm hf (i:=i) (j:=S.m) hl.1 (Nat.le_refl _);have hj:=Fm hf (i:=j) (j:=S.m) hl.2.1 (Nat.le_refl _);have ai:=k.a1 hl.1;have aj:=k.a1 hl.2.1;have mi:=h0 i;have mj:=h0 j;have hs':=h i j e;have pi:=hs i (by omega);have pj:=hs j (by omega);rcases Nat.lt_or_gt_of_ne hl.2.2 with q | q
  ·have g:=Fm hf q (by omega);rw [mdU (by omega) pi (by omega)];omega
  ·have g:=Fm hf q (by omega);rw [mdD (by omega) (by omega) pj];omega
end
end My
namespace My
open PySem L2
noncomputable def Ob (n:Int) (ws:List (WD × Int)):Sys where
 m:=ws.length
 e:=fun i j=>match ws[i]?,ws[j]? with
  | some p,some q=>decide (i ≠ j) && mt n p.1 q.1
  | _,_=>false
 st:=fun i j=>match ws[i]?,ws[j]? with
  | some p,some q=>p.2 + Et p.1 q.1
  | _,_=>0
 al:=fun i=>match ws[i]? with
  | some p=>Oc p
  | none=>0
theorem Dr {n:Int} {ws:List (WD × Int)} {i j:Nat} (h:(Ob n ws).e i j=true):∃ p q,ws[i]? = some p∧ws[j]? = some q∧i ≠ j∧mt n p.1 q.1=true:=by
 unfold Ob at h;cases hp:ws[i]? with
 | none=>simp [hp] at h
 | some p=>
  cases hq:ws[j]? with
  | none=>simp [hp,hq] at h
  | some q=>exact ⟨p,q,rfl,rfl,by simpa [hp,hq] using h⟩
theorem Fi {n:Int} {ws:List (WD × Int)} {i j:Nat} {p q:WD × Int} (hi:ws[i]? = some p) (hj:ws[j]? = some q):(Ob n ws).e i j=(decide (i ≠ j) && mt n p.1 q.1)∧(Ob n ws).st i j=p.2 + Et p.1 q.1:=by
 refine ⟨?_,?_⟩ <;> simp only [Ob,hi,hj]
noncomputable def tw (n:Int) (ws:List (WD × Int)):Prop:=(∀ p ∈ ws,WOk n p.1∧1 ≤ p.2∧p.2 ≤ 1000)∧ws.length ≤ 6∧ws ≠ []
theorem pK (d e:WD):0 ≤ Et d e:=by unfold Et;split <;> omega
theorem Ry {n:Int} {d:WD} (o:WOk n d):0 ≤ On d + Zh d:=by
 have h:=o.of;unfold On Zh;rcases d with ⟨k,_⟩
 match k with
 | 0=>simp
 | 1=>simpa using h.1
 | k + 2=>simp
theorem tw.ok {n:Int} {ws:List (WD × Int)} (h:tw n ws):(Ob n ws).Ok where
 lt:=fun e=>by
  obtain ⟨p,q,h1,h2,h3,_⟩:=Dr e;exact ⟨(List.getElem?_eq_some_iff.mp h1).1,(List.getElem?_eq_some_iff.mp h2).1,h3⟩
 sy:=fun e=>by
  obtain ⟨p,q,h1,h2,h3,h4⟩:=Dr e;obtain ⟨op,_⟩:=h.1 p (List.mem_of_getElem? h1);obtain ⟨oq,_⟩:=h.1 q (List.mem_of_getElem? h2);have hm':mt n q.1 p.1=true:=by rw [← h4];exact (vB op.st op.fi oq.st oq.fi op.ne oq.ne).symm
  rw [(Fi h2 h1).1,hm'];simp [Ne.symm h3]
 s1:=fun e=>by
  obtain ⟨p,q,h1,h2,h3,h4⟩:=Dr e;rw [(Fi h1 h2).2];have:=(h.1 p (List.mem_of_getElem? h1)).2.1;have:=pK p.1 q.1;omega
 a1:=fun {i} hi=>by
  have hp:ws[i]? = some ws[i]:=List.getElem?_eq_getElem hi;obtain ⟨o,l,_⟩:=h.1 _ (List.mem_of_getElem? hp);have e:(Ob n ws).al i=Oc ws[i]:=by
   show (match ws[i]? with | some p=>Oc p | none=>0)=_;rw [hp]
  rw [e];have h1:=Ry o;unfold Oc;omega
noncomputable def Ft (o:Od):List (List Key × V):=o.map fun p=>(Ve p.1 p.2,V.bl true)
theorem Hu (o:Od):(Ft o).length=o.length:=List.length_map ..
theorem Zp (o:Od) (i j:Nat):(Ej (Ft o) (Ve i j)).isSome=decide ((i,j) ∈ o):=by
 induction o with
 | nil=>rfl
 | cons p o ih=>
  unfold Ft at ih ⊢;rw [List.map_cons];by_cases h:p=(i,j)
  ·subst h;rw [Tk rfl];simp
  ·rw [Ek fun e=>h (Prod.ext (Vg e).1 (Vg e).2),ih];simp [Ne.symm h]
theorem Wu {o:Od} {i j:Nat} (h:(i,j) ∉ o):xq (Ft o) (Ve i j) (V.bl true)=Ft (o ++ [(i,j)]):=by
 rw [ms]
 ·unfold Ft;rw [List.map_append];rfl
 ·intro x hx e;obtain ⟨p,hp,rfl⟩:=List.mem_map.mp hx;obtain ⟨e1,e2⟩:=Vg e;subst e1 e2;exact h hp
theorem kA (P:Program) (w:World) {o:Od} (nd:o.Nodup) (h:∀ p ∈ o,p.1 < 6∧p.2 < 6):((Ft o).map fun p=>vJ P w p.1).Nodup:=by
 unfold Ft;rw [List.map_map];show (o.map hsh).Nodup
 induction o with
 | nil=>exact List.nodup_nil
 | cons p o ih=>
  rw [List.nodup_cons] at nd;rw [List.map_cons,List.nodup_cons];refine ⟨fun hm=>?_,ih nd.2 fun q hq=>h q (List.mem_cons_of_mem _ hq)⟩;obtain ⟨q,hq,e⟩:=List.mem_map.mp hm;have h1:=h p (List.mem_cons_self ..);have h2:=h q (List.mem_cons_of_mem _ hq);have:=uK cM q (iE h2.1 h2.2) p (iE h1.1 h1.2) e;exact nd.1 (this ▸ hq)
theorem ay {k:List Key} {v:V}:∀ {kvs:List (List Key × V)},Ej kvs k=some v→(k,v) ∈ kvs
 | [],h=>nomatch h
 | p :: r,h=>by
  by_cases e:p.1=k
  ·rw [Tk e] at h;cases h;rw [← e];exact List.mem_cons_self ..
  ·rw [Ek e] at h;exact List.mem_cons_of_mem _ (ay h)
theorem Mz {n:Int} {ws:List (WD × Int)} (i j:Nat):Ej (Ie n ws ws.length) (Ve i j)=if (Ob n ws).e i j then some (V.int ((Ob n ws).st i j)) else none:=by
 have key:∀ v,Ej (Ie n ws ws.length) (Ve i j)=some v→(Ob n ws).e i j=true∧v=V.int ((Ob n ws).st i j):=fun v h=>by
  obtain ⟨k,_,hx⟩:=gq (ay h);obtain ⟨j',p,q,_,h1,h2,h3,h4,e⟩:=im hx;obtain ⟨rfl,rfl⟩:=Vg (congrArg Prod.fst e);have e2:v=V.int (p.2 + Et p.1 q.1):=congrArg Prod.snd e;rw [(Fi h1 h2).1,(Fi h1 h2).2,h4,e2];simp [h3]
 cases he:(Ob n ws).e i j with
 | true=>
  obtain ⟨p,q,h1,h2,h3,h4⟩:=Dr he;have hm:=zy h1 h2 h3 h4;cases hv:Ej (Ie n ws ws.length) (Ve i j) with
  | none=>exact absurd (List.mem_map_of_mem (f:=(·.1)) hm) (rG hv)
  | some v=>rw [(key v hv).2];rfl
 | false=>
  cases hv:Ej (Ie n ws ws.length) (Ve i j) with
  | none=>rfl
  | some v=>rw [(key v hv).1] at he;cases he
theorem Vx {n:Int} {ws:List (WD × Int)} {i j:Nat} (h:(Ob n ws).e i j=true):Ej (Ie n ws ws.length) (Ve i j)=some (V.int ((Ob n ws).st i j)):=by rw [Mz,h];rfl
theorem Yt {n:Int} {ws:List (WD × Int)} (i j:Nat):(Ej (Ie n ws ws.length) (Ve i j)).isSome=(Ob n ws).e i j:=by
 rw [Mz];cases (Ob n ws).e i j <;> rfl
noncomputable def Oj (P:Program) (w:World) (H:Hp) (a:Addr) (o:Od):Prop:=Hk P w H a (Ft o)
section
variable (P:Program) (w:World)
noncomputable def my:Sp:=fun vs H Q _=>∃ a i j o,vs=[.ref a,.int (i:Nat),.int (j:Nat)]∧Oj P w H a o∧NoT H∧Q (.bl (inO o i j)) H
noncomputable def OC (S:Sys):Sp:=fun vs H Q _=>∃ a i j o,vs=[.ref a,.int (i:Nat),.int (j:Nat)]∧Oj P w H a o∧jA S o∧S.Ok∧S.m ≤ 6∧(i,j) ∉ o∧NoT H ∧
 ∀ r H',Tb H H'→NoT H'→Oj P w H' r (o ++ [(i,j)])→Q (.ref r) H'
noncomputable def yE (t:Adr):Sp:=fun vs H Q _=>∃ wp z a i j o n ws,vs=[.ref wp,.int z,.ref a,.int (i:Nat),.int (j:Nat)]∧Xc P w t H wp n ws∧Oj P w H a o∧(Ob n ws).e i j=true∧NoT H∧Q (.int (wtO (Ob n ws) z o i j)) H
noncomputable def bC (t:Adr):Sp:=fun vs H Q _=>∃ wp n ws,vs=[.ref wp]∧Xc P w t H wp n ws∧tw n ws∧NoT H ∧
 ∀ r H',Tb H H'→NoT H'→Oj P w H' r (ar (Ob n ws))→Q (.ref r) H'
end
theorem Xc.same {P:Program} {w:World} {t:Adr} {H H':Hp} {p:Addr} {n:Int} {ws:List (WD × Int)} (h:Xc P w t H p n ws) (s:Tb H H'):Xc P w t H' p n ws:=by
 obtain ⟨dx,al,sd,e1,e2,e3⟩:=h;exact ⟨dx,al,sd,s _ _ e1,s _ _ e2,Pb e3 s⟩
section
variable {P:Program} {w:World} {K:PySem.W.Frag} {mg:Str→Option Value} {base:Heap} {t:Adr}
theorem bi (T:Txt w K mg t) {H:Hp} {p dx al sd:Addr} {m:Int} (e:H p=some (.ins t.Vb dx (cm m al sd))):el K H p (Str.ofString "many") (.int m):=⟨_,dx,_,e,T.Di,T.Cl,Be So 0 (zn ..) (by decide +kernel) rfl⟩
theorem uD (T:Txt w K mg t):Rb P w K mg base CX0 1 t.kd t.ld q8 (my P w):=by
 have key:Rb P w K mg base CX0 1 t.kd t.ld q8 (fun vs H Q _=>∃ a i j o,vs=[.ref a,.int (i:Nat),.int (j:Nat)]∧Oj P w H a o∧∀ H',Tb H H'→Q (.bl (inO o i j)) H'):=by
  refine T.De.ok wo (fun vs H Q E h=>?_) (fun _ _ _ s H vs Q E hr h=>?_)
  ·obtain ⟨a,i,j,o,rfl,_⟩:=h;rfl
  obtain ⟨a,i,j,o,rfl,D,q⟩:=h;have hu:=qk hr;refine ⟨_,(lb (Gb (CK (zI (Ts hu (Ec (ab (pv 1) (ab (pv 2) ib))) (pv 0))) (fw (zI (Ts hu (Ec (ab (pv 2) (ab (pv 1) ib))) (pv 0))))))),?_⟩;walk_at "RD";refine ⟨by decide,fun p hp=>⟨_,Pb D (db hp),Ve i j,gb,?_⟩⟩;rw [Zp];by_cases h:(i,j) ∈ o
  ·rw [if_pos (decide_eq_true h)];have:=q _ (db (o:=.tup [V.int (i:Int),V.int (j:Int)]) hp);rw [show inO o i j=true by unfold inO;rw [decide_eq_true h];rfl] at this;exact this
  ·rw [if_neg (by rw [decide_eq_false h];exact Bool.false_ne_true)];refine ⟨by decide,fun p2 hp2=>⟨_,Pb (Pb D (db hp)) (db hp2),Ve j i,gb,?_⟩⟩;rw [Zp];have:=q _ ((db (o:=.tup [V.int (i:Int),V.int (j:Int)]) hp).trans (db (o:=.tup [V.int (j:Int),V.int (i:Int)]) hp2));rw [show inO o i j=decide ((j,i) ∈ o) by unfold inO;rw [decide_eq_false h];rfl] at this;exact this
 exact key.forget fun vs H Q E h=>by
  obtain ⟨a,i,j,o,e,D,nt,q⟩:=h;exact ⟨nt,a,i,j,o,e,D,fun H' sm=>⟨sm,q⟩⟩
theorem tI (T:Txt w K mg t):Rb P w K mg base CX0 1 t.Vd t.Sd q17 (yE P w t):=by
 have key:Rb P w K mg base CX0 1 t.Vd t.Sd q17 (fun vs H Q _=>∃ wp z a i j o n ws,vs=[.ref wp,.int z,.ref a,.int (i:Nat),.int (j:Nat)]∧Xc P w t H wp n ws∧Oj P w H a o∧(Ob n ws).e i j=true∧∀ H',Tb H H'→Q (.int (wtO (Ob n ws) z o i j)) H'):=by
  refine T.Gf.ok oj (fun vs H Q E h=>?_) (fun _ _ _ s H vs Q E hr h=>?_)
  ·obtain ⟨wp,z,a,i,j,o,n,ws,rfl,_⟩:=h;rfl
  obtain ⟨wp,z,a,i,j,o,n,ws,rfl,⟨dx,al,sd,e1,e2,D⟩,O,he,q⟩:=h;have hu:=qk hr;refine ⟨_,(fb (wb (i:=5) oj.nd (ax hu (fc (pv 0) rfl) (Ec (ab (pv 3) (ab (pv 4) ib))) (fun _ _=>rfl)))
   (lb (Gb (eu (Wr (Ts hu (Ec (ab (pv 4) (ab (pv 3) ib))) (pv 2))) (Ib ij (pv 5) (pv 1)) (pv 5))))),?_⟩
  walk_at "RD";refine ⟨_,vd T e1,by decide,fun p hp=>⟨sd,rfl,_,Pb D (db hp),Ve i j,gb,_,Vx he,by decide,fun p2 hp2=>⟨_,Pb (Pb O (db hp)) (db hp2),Ve j i,gb,?_⟩⟩⟩;rw [Zp];have:=q _ ((db (o:=.tup [V.int (i:Int),V.int (j:Int)]) hp).trans (db (o:=.tup [V.int (j:Int),V.int (i:Int)]) hp2));unfold wtO at this;by_cases h:(j,i) ∈ o
  ·rw [if_pos (decide_eq_true h)];rw [if_pos h] at this;exact ⟨_,rfl,this⟩
  ·rw [if_neg (by rw [decide_eq_false h];exact Bool.false_ne_true)];rw [if_neg h] at this;exact this
 exact key.forget fun vs H Q E h=>by
  obtain ⟨wp,z,a,i,j,o,n,ws,e,W,O,he,nt,q⟩:=h;exact ⟨nt,wp,z,a,i,j,o,n,ws,e,W,O,he,fun H' sm=>⟨sm,q⟩⟩
theorem lI (T:Txt w K mg t) (S:Sys):Rb P w K mg base CX0 1 t.dg t.eg q8 (OC P w S):=by
 refine T.qf.ok km (fun vs H Q E h=>?_) (fun _ _ _ s H vs Q E hr h=>?_)
 ·obtain ⟨a,i,j,o,rfl,_⟩:=h;rfl
 obtain ⟨a,i,j,o,rfl,O,ok,k,hm,hn,nt,q⟩:=h;have hu:=qk hr;refine ⟨_,(fb (wb (i:=3) km.nd (af RA rfl T.sM yx (ab (pv 0) ib)))
   (fb (cx hu (pv 3) (Ec (ab (pv 1) (ab (pv 2) ib))) Qj rfl)
   (lb (Gb (pv 3))))),?_⟩
 walk_at "RD";refine ⟨_,O,kA P w ok.nd (fun p hp=>by have:=k.lt (ok.e p hp);omega),fun p ob hp D1=>⟨by decide,fun p2 hp2=>⟨_,Pb D1 (db hp2),Ve i j,gb,?_,fun o2 D2=>?_⟩⟩⟩
 ·rw [Hu];exact Nat.lt_of_le_of_lt (ok.len k hm) (by decide)
 ·rw [Wu hn] at D2;exact q _ _ (fun b u e=>by rw [Db (Jb e hp)];exact db hp2 _ _ (db hp _ _ e)) ((nt.upd).upd).upd D2
theorem ZI (T:Txt w K mg t):Rb P w K mg base CX0 1 t.ke t.ae ["wanted"] (bC P w t):=by
 refine T.df.ok Rf (fun vs H Q E h=>?_) (fun _ _ _ s H vs Q E hr h=>?_)
 ·obtain ⟨wp,n,ws,rfl,_⟩:=h;rfl
 obtain ⟨wp,n,ws,rfl,W,ok,nt,q⟩:=h;obtain ⟨dx,al,sd,e1,e2,D⟩:=id W;have hu:=qk hr;refine ⟨_,(fb (wb (i:=1) Rf.nd FF)
   (fb (rf PassesOwn.never rfl (Ju rfl T.Mf (ab jb (ab (fc (pv 0) rfl) ib))) (Eb (i:=2) Rf.nd) (lb (jd (Wr (Ts hu (Ec (ab jb (ab (pv 2) ib))) (fc (pv 0) rfl))) (lb (cx hu (pv 1) (Ec (ab jb (ab (pv 2) ib))) Qj rfl)) Sb)))
   (lb (Gb (pv 1))))),?_⟩
 walk_at "RD";intro p ob hp D0;have hl:=ok.2.1;have sA:Tb H (upd H p (.ext (AtO p ob))):=db hp;refine ⟨_,bi T (sA _ _ e1),_,rfl,by decide,by decide,by omega,by omega,?_⟩;rw [show ((ws.length:Int) - 1).toNat=ws.length - 1 by omega];refine Hj.range (fun i σ H'=>Tb H H'∧NoT H'∧Oj P w H' p (qB (Ob n ws) i)∧∃ x,σ=[some (.ref wp),some (.ref p),x]) ⟨sA,nt.upd,D0,_,rfl⟩ ?_ ?_
 ·rintro i σ H1 hi zzq;refine zP fun zzM zzh=>?_
  obtain ⟨s1,n1,O1,x,rfl⟩:=zzq;subst zzh;simp only [Bg,List.set_cons_succ,List.set_cons_zero];rw [show (1:Int) + (i:Nat)=((i + 1:Nat):Int) by omega];refine Ih (fun b H2=>b=(Ob n ws).e 0 (i + 1)∧Tb H1 H2∧NoT H2) (fun Q hQ=>?_) (fun H2 r2=>?_) (fun H2 r2=>?_)
  ·walk_at "RD";refine ⟨by decide,fun p2 hp2=>⟨_,vd T (db hp2 _ _ (s1 _ _ e1)),sd,rfl,_,Pb (Pb D s1) (db hp2),Ve 0 (i + 1),gb,?_⟩⟩;rw [Yt];exact hQ _ _ ⟨rfl,db hp2,n1.upd⟩
  ·obtain ⟨r1,r2,r3⟩:=r2;walk_at "RD";refine ⟨by decide,fun p2 hp2=>⟨_,Pb (Pb O1 r2) (db hp2),Ve 0 (i + 1),gb,?_,fun o2 D2=>⟨?_,(r3.upd).upd,?_⟩⟩⟩
   ·rw [Hu];have:=YG (S:=Ob n ws) i;exact Nat.lt_of_le_of_lt (show _ ≤ 6 by omega) (by decide)
   ·exact fun b u e=>by rw [Db (Jb e hp)];exact db hp2 _ _ (r2 _ _ (s1 _ _ e))
   ·rw [Wu (fun hm=>by have:=(Dk hm).2.2.1;simp only at this;omega)] at D2;refine ⟨?_,_,rfl⟩;show Oj P w _ p (qB (Ob n ws) i ++ _);rw [← r1,if_pos rfl];exact D2
  ·obtain ⟨r1,r2,r3⟩:=r2;simp only [bc];refine ⟨s1.trans r2,r3,?_,_,rfl⟩;show Oj P w H2 p (qB (Ob n ws) i ++ _);rw [← r1];rw [if_neg Bool.false_ne_true,List.append_nil];exact Pb O1 r2
 ·rintro σ H1 zzq;refine zP fun zzM zzh=>?_
  obtain ⟨s1,n1,O1,x,rfl⟩:=zzq;subst zzh;walk_at "RD";exact q _ _ s1 n1 O1
end
end My
namespace My
open PySem L2
noncomputable def Ub (r:List Nat):List V:=r.map fun k:Nat=>V.int (k:Int)
theorem wc (r:List Nat):(Ub r).length=r.length:=List.length_map ..
theorem LA (r:List Nat):Ub r=List.map V.int (r.map fun k:Nat=>(k:Int)):=by unfold Ub;rw [List.map_map];rfl
theorem uG (r:List Nat):(r.map fun k:Nat=>(k:Int)).Nodup↔r.Nodup:=by
 induction r with
 | nil=>simp
 | cons x r ih=>
  rw [List.map_cons,List.nodup_cons,List.nodup_cons,ih];refine and_congr_left fun _=>not_congr ⟨fun h=>?_,fun h=>List.mem_map.mpr ⟨x,h,rfl⟩⟩
  obtain ⟨y,hy,e⟩:=List.mem_map.mp h;rw [← Int.ofNat.inj e];exact hy
theorem Oz {r:List Nat} {i:Nat} {v:V} (h:(Ub r)[i]? = some v):∃ k,r[i]? = some k∧v=V.int (k:Int):=by
 unfold Ub at h;rw [List.getElem?_map] at h;cases hr:r[i]? with
 | none=>rw [hr] at h;cases h
 | some k=>rw [hr] at h;exact ⟨k,rfl,(Option.some.inj h).symm⟩
noncomputable def FE (r:List Nat) (i:Nat):Nat:=(r[(i + 1) % r.length]?).getD 0
noncomputable def KB (r:List Nat) (i:Nat):List Nat:=(r ++ r.take 1).take (i + 1)
theorem MC {r:List Nat} (h:r ≠ []):KB r 0=[r.headD 0]:=by
 cases r with
 | nil=>exact absurd rfl h
 | cons x r=>rfl
theorem Xx {r:List Nat} (h:r ≠ []):KB r r.length=r ++ r.take 1:=by
 unfold KB;rw [List.take_of_length_le];cases r with
 | nil=>exact absurd rfl h
 | cons x r=>simp
theorem MM {r:List Nat} {i:Nat} (hi:i < r.length):(r ++ r.take 1)[i + 1]? = some (FE r i):=by
 unfold FE;by_cases h:i + 1 < r.length
 ·rw [List.getElem?_append_left h,Nat.mod_eq_of_lt h,List.getElem?_eq_getElem h];rfl
 ·have e:i + 1=r.length:=by omega
  rw [List.getElem?_append_right (by omega),e,Nat.mod_self,Nat.sub_self];cases r with
  | nil=>simp at hi
  | cons x r=>rfl
theorem pG {l:List Nat} {i a b:Nat} (h1:l[i]? = some a) (h2:l[i + 1]? = some b):l.take (i + 2)=l.take i ++ a :: [b]∧l.take (i + 1)=l.take i ++ [a]:=by
 have e1:l.take (i + 1)=l.take i ++ [a]:=by rw [List.take_add_one,h1];rfl
 refine ⟨?_,e1⟩;rw [show i + 2=(i + 1) + 1 from rfl,List.take_add_one,h2,e1];simp
theorem zD {r:List Nat} {i k:Nat} (h:r[i]? = some k):∃ a,KB r i=a ++ [k]∧KB r (i + 1)=a ++ k :: [FE r i]:=by
 have hi:=(List.getElem?_eq_some_iff.mp h).1;have h1:(r ++ r.take 1)[i]? = some k:=by rw [List.getElem?_append_left hi];exact h
 obtain ⟨e1,e2⟩:=pG h1 (MM hi);exact ⟨_,e2,e1⟩
theorem xC (o:Od):∀ (a:List Nat) (x:Nat) (r:List Nat),Cs o (a ++ x :: r)=(Cs o (a ++ [x]) && Cs o (x :: r)):=by
 intro a
 induction a with
 | nil=>intro x r;simp [Cs]
 | cons u a ih=>
  intro x r;cases a with
  | nil=>simp [Cs]
  | cons v a=>
   have:=ih x r;simp only [List.cons_append,Cs] at this ⊢;rw [this,Bool.and_assoc]
theorem sG (o:Od) {r:List Nat} {i:Nat} (hi:i ≤ r.length) (h:Cs o (KB r i)=false):Cs o (r ++ r.take 1)=false:=by
 unfold KB at h;cases hx:(r ++ r.take 1)[i]? with
 | none=>
  rw [List.take_of_length_le (by have:=List.getElem?_eq_none_iff.mp hx;omega)] at h;exact h
 | some x=>
  have hl:=(List.getElem?_eq_some_iff.mp hx).1;rw [List.take_add_one,hx] at h;have e:r ++ r.take 1=(r ++ r.take 1).take i ++ x :: (r ++ r.take 1).drop (i + 1):=by
   conv=>lhs;rw [← List.take_append_drop i (r ++ r.take 1)]
   rw [List.drop_eq_getElem_cons hl];rw [(List.getElem?_eq_some_iff.mp hx).2]
  rw [e,xC];have h':Cs o ((r ++ r.take 1).take i ++ [x])=false:=h;rw [h',Bool.false_and]
section
variable (P:Program) (w:World)
noncomputable def iK (t:Adr):Sp:=fun vs H Q _=>∃ wp z a rp o r n ws,vs=[.ref wp,.int z,.ref a,.ref rp]∧Xc P w t H wp n ws∧Oj P w H a o∧H rp=some (.tup (Ub r))∧r.length ≤ 12∧jA (Ob n ws) o∧tw n ws∧NoT H∧Q (.bl (Qi (Ob n ws) z o r)) H
end
section
variable {P:Program} {w:World} {K:PySem.W.Frag} {mg:Str→Option Value} {base:Heap} {t:Adr}
theorem mM (T:Txt w K mg t):Rb P w K mg base CX0 2 t.uf t.tf q18 (iK P w t):=by
 have key:Rb P w K mg base CX0 2 t.uf t.tf q18 (fun vs H Q _=>∃ wp z a rp o r n ws,vs=[.ref wp,.int z,.ref a,.ref rp]∧Xc P w t H wp n ws∧Oj P w H a o∧H rp=some (.tup (Ub r))∧r.length ≤ 12∧jA (Ob n ws) o∧tw n ws∧NoT H∧∀ H',Tb H H'→Q (.bl (Qi (Ob n ws) z o r)) H'):=by
  have g14:Rb P w K mg base CX0 1 t.kd t.ld q8 (my P w):=uD T;have g23:Rb P w K mg base CX0 1 t.Vd t.Sd q17 (yE P w t):=tI T;refine T.Eh.ok Ue (fun vs H Q E h=>?_) (fun _ _ _ s H vs Q E hr h=>?_)
  ·obtain ⟨wp,z,a,rp,o,r,n,ws,rfl,_⟩:=h;rfl
  obtain ⟨wp,z,a,rp,o,r,n,ws,rfl,W,O,hrp,hlen,ok,wk,nt,q⟩:=h;refine ⟨_,(fb (jd (PW.pt (bE (Qb ix (qc Xb rfl T.Uh ic (ab (pv 3) ib)) jb (cc _)) (uv (Qb ix (qc RE rfl T.Uh ic (ab (af (AD rfl) rfl T.GN UA (ab (pv 3) ib)) ib)) (qc Xb rfl T.Uh ic (ab (pv 3) ib)) (cc _))))) (lb (Gb Qj)) Sb)
   (fb (wb (i:=4) Ue.nd jb)
   (fb (rf PassesOwn.never rfl (UF rfl T.Qf (ab (pv 3) ib)) (lf (K:=K) (n:=2) rfl rfl (gc (Eb (i:=5) Ue.nd) (gc (Eb (i:=6) Ue.nd) jf))) (fb (wb (i:=7) Ue.nd (Kb ac (pv 3) (Ib lg (Ib Zb (pv 5) jb) (qc Xb rfl T.Uh ic (ab (pv 3) ib)))))
   (fb (jd (Mq (ol (qb g14 hr T.dh T.De.kp T.Ug (ab (pv 2) (ab (pv 6) (ab (pv 7) ib)))))) (lb (Gb Qj)) Sb)
   (lb (RH (i:=4) Ue.nd rfl (Or.inl rfl) (qb g23 hr T.sk T.Gf.kp T.Kj (ab (pv 0) (ab (pv 1) (ab (pv 2) (ab (pv 6) (ab (pv 7) ib)))))) dI)))))
   (lb (Gb (Sf yo (pv 4) jb (cc _))))))),?_⟩
  have hlen2:(Ub r).length ≤ 1000:=by rw [wc];omega
  simp only [xb];refine Ih (fun b H'=>Tb H H'∧NoT H'∧b = !(decide (2 ≤ r.length) && decide r.Nodup)) (fun Q hQ=>?_) (fun H1 zz=>?_) (fun H1 zz=>?_)
  ·walk_at "RD";refine ⟨_,.inr (SqT.of hrp),?_⟩;rw [wc];by_cases h2:2 ≤ r.length
   ·rw [if_neg (by rw [decide_eq_true_eq];omega)];refine ⟨_,(LA r) ▸ hrp,by rw [List.length_map];omega,fun p S k hk hk2 hp=>⟨S,k,gb,hk2,_,.inr ((SqT.of hrp).same (db hp)),hQ _ _ ⟨db hp,nt.upd,?_⟩⟩⟩;rw [List.length_map,uG] at hk;rw [wc,decide_eq_true h2,Bool.true_and];by_cases hd:r.Nodup
    ·rw [decide_eq_true hd];exact decide_eq_false fun g=>hk.mp (by omega) hd
    ·rw [decide_eq_false hd];have:=hk.mpr hd;exact decide_eq_true (by omega)
   ·rw [if_pos (by rw [decide_eq_true_eq];omega)];refine hQ _ _ ⟨Tb.refl _,nt,?_⟩;rw [decide_eq_false h2];rfl
  ·obtain ⟨s1,n1,zb⟩:=zz;walk_at "RD";have hc:(decide (2 ≤ r.length) && decide r.Nodup)=false:=by rw [← Bool.not_not (decide (2 ≤ r.length) && decide r.Nodup),← zb];rfl
   have:=q H1 s1;rw [show Qi (Ob n ws) z o r=false by unfold Qi;rw [hc];rfl] at this;exact this
  obtain ⟨s1,n1,zb⟩:=zz;have hc:(decide (2 ≤ r.length) && decide r.Nodup)=true:=by rw [← Bool.not_not (decide (2 ≤ r.length) && decide r.Nodup),← zb];rfl
  rw [Bool.and_eq_true,decide_eq_true_eq,decide_eq_true_eq] at hc;have hne:r ≠ []:=fun g=>by rw [g] at hc;exact absurd hc.1 (by decide)
  simp only [bc,xb];(walk_at "RD"; repeat (dsimp only [OI];walk_at "RD"));have rp1:=s1 _ _ hrp;refine ⟨⟨_,SqT.of rp1⟩,?_⟩;refine Hj.of (n:=r.length) (fun i σ H'=>Tb H1 H'∧NoT H'∧Cs o (KB r i)=true∧∃ x y u,σ=[some (.ref wp),some (.int z),some (.ref a),some (.ref rp),some (.int (pwO (Ob n ws) z o (KB r i))),x,y,u]) ?_ ?_ ?_ ?_ ?_
  ·rw [MC hne];exact ⟨Tb.refl _,n1,rfl,_,_,_,rfl⟩
  ·rintro i σ H2 hi ⟨s2,_⟩;exact ⟨_,_,SqT.of (s2 _ _ rp1),List.getElem?_eq_getElem (by rw [wc];exact hi)⟩
  ·rintro σ H2 ⟨s2,_⟩;exact ⟨_,SqT.of (s2 _ _ rp1),wc r⟩
  ·rintro i σ H2 v H3 hi ⟨s2,n2,al,x,y,u,rfl⟩ ⟨p,y',hp,rfl,hy,rfl⟩;have hy':=hy _ (SqT.of (s2 _ _ rp1));obtain ⟨k,hk,rfl⟩:=Oz hy';obtain ⟨pr,ep1,ep2⟩:=zD hk;have s3:=s2.trans (db (o:=.tup [.int i,.int (k:Int)]) hp);have n3:NoT (upd H2 p (.tup [.int i,.int (k:Int)])):=n2.upd;refine ah ?_;simp only [xb,List.set_cons_succ,List.set_cons_zero];generalize upd H2 p (.tup [.int i,.int (k:Int)])=H4 at s3 n3 ⊢;have rp4:=s3 _ _ rp1;have W4:=W.same (s1.trans s3);have O4:Oj P w H4 a o:=Pb O (s1.trans s3);have hm:(i + 1) % r.length < r.length:=Nat.mod_lt _ (by omega);walk_at "RD";refine ⟨_,.inr (SqT.of rp4),by rw [wc];omega,_,SqT.of rp4,V.int (FE r i:Nat),?_,?_⟩
   ·rw [wc,show ((i:Int) + 1) % (r.length:Int)=(((i + 1) % r.length:Nat):Int) by rw [Int.natCast_emod];rfl];refine Cb ?_;unfold Ub FE;rw [List.getElem?_map,List.getElem?_eq_getElem hm];rfl
   have eA:Cs o (KB r (i + 1))=inO o k (FE r i):=by rw [ep2,xC,← ep1,al];simp [Cs]
   have eP:pwO (Ob n ws) z o (KB r (i + 1))=pwO (Ob n ws) z o (KB r i) + wtO (Ob n ws) z o k (FE r i):=by rw [ep2,wj,← ep1];simp [pwO]
   refine Mb (!inO o k (FE r i)) (fun Q hQ=>?_) (fun hb=>?_) (fun hb=>?_)
   ·walk_at "RD";exact ⟨a,k,FE r i,o,rfl,O4,n3,_,rfl,hQ⟩
   ·walk_at "RD";have:=q H4 (s1.trans s3);rw [show Qi (Ob n ws) z o r=false by unfold Qi;rw [sG o (i:=i + 1) (by omega) (by rw [eA];simpa using hb),Bool.and_false,Bool.false_and]] at this;exact this
   ·have hb':inO o k (FE r i)=true:=by simpa using hb
    simp only [bc];walk_at "RD";refine ⟨wp,z,a,k,FE r i,o,n,ws,rfl,W4,O4,ok.in_e wk.ok hb',n3,?_⟩;exact ⟨_,_,rfl,rfl,s3,n3,by rw [eA];exact hb',by rw [eP],_,rfl⟩
  ·rintro σ H2 zzq;refine zP fun zzM zzh=>?_
   obtain ⟨s2,n2,al,x,y,u,rfl⟩:=zzq;subst zzh;rw [Xx hne] at al;walk_at "RD";have:=q H2 (s1.trans s2);rw [show Qi (Ob n ws) z o r=decide (0 < pwO (Ob n ws) z o (r ++ r.take 1)) by unfold Qi;rw [decide_eq_true hc.1,decide_eq_true hc.2,al];rfl] at this;rw [Xx hne];exact this
 exact key.forget fun vs H Q E h=>by
  obtain ⟨wp,z,a,rp,o,r,n,ws,e,W,O,hrp,hlen,ok,wk,nt,q⟩:=h;exact ⟨nt,wp,z,a,rp,o,r,n,ws,e,W,O,hrp,hlen,ok,wk,nt,fun H' sm=>⟨sm,q⟩⟩
end
end My
namespace My
open PySem L2
noncomputable def Cd (H:Hp) (qs:List Addr) (ps:List (List Nat)):Prop:=qs.length=ps.length∧∀ (i:Nat) (q:Addr) (p:List Nat),qs[i]? = some q→ps[i]? = some p→H q=some (.tup (Ub p))
noncomputable def Dx (H:Hp) (l:Addr) (ps:List (List Nat)):Prop:=∃ qs:List Addr,H l=some (.lst (qs.map V.ref))∧Cd H qs ps
theorem Cd.same {H H':Hp} {qs:List Addr} {ps:List (List Nat)} (h:Cd H qs ps) (s:Tb H H'):Cd H' qs ps:=⟨h.1,fun i q p h1 h2=>s _ _ (h.2 i q p h1 h2)⟩
theorem Cd.nil (H:Hp):Cd H [] []:=⟨rfl,fun i q p h=>by simp at h⟩
theorem Cd.app {H:Hp} {qs rs:List Addr} {ps us:List (List Nat)} (h:Cd H qs ps) (g:Cd H rs us):Cd H (qs ++ rs) (ps ++ us):=by
 refine ⟨by rw [List.length_append,List.length_append,h.1,g.1],fun i q p h1 h2=>?_⟩;by_cases hi:i < qs.length
 ·rw [List.getElem?_append_left hi] at h1;rw [List.getElem?_append_left (by rw [← h.1];exact hi)] at h2;exact h.2 i q p h1 h2
 ·rw [List.getElem?_append_right (by omega)] at h1;rw [List.getElem?_append_right (by rw [← h.1];omega),← h.1] at h2;exact g.2 _ q p h1 h2
theorem Cd.one {H:Hp} {q:Addr} {p:List Nat} (h:H q=some (.tup (Ub p))):Cd H [q] [p]:=by
 refine ⟨rfl,fun i q' p' h1 h2=>?_⟩;cases i with
 | zero=>cases h1;cases h2;exact h
 | succ i=>simp at h1
theorem Cd.put {H:Hp} {qs:List Addr} {ps:List (List Nat)} {f:Addr} {xs:List V} {o:HO} (h:Cd H qs ps) (hf:H f=some (.lst xs)):Cd (upd H f o) qs ps:=
 ⟨h.1,fun i q p h1 h2=>by
  have e:=h.2 i q p h1 h2;rw [Db (fun z=>by rw [z,hf] at e;cases e)];exact e⟩
theorem Dx.same {H H':Hp} {l:Addr} {ps:List (List Nat)} (h:Dx H l ps) (s:Tb H H'):Dx H' l ps:=by
 obtain ⟨qs,e,t⟩:=h;exact ⟨qs,s _ _ e,t.same s⟩
noncomputable def gn (S:Sys) (p:List Nat) (i:Nat):List Nat:=((List.range i).map fun k=>p.headD 0 + 1 + k).filter fun v=>S.e (ll p) v
theorem Os (S:Sys) (p:List Nat) (i:Nat):gn S p (i + 1)=gn S p i ++ (if S.e (ll p) (p.headD 0 + 1 + i) then [p.headD 0 + 1 + i] else []):=by
 unfold gn;rw [List.range_succ,List.map_append,List.filter_append,List.map_cons,List.map_nil,List.filter_cons,List.filter_nil]
theorem mw (S:Sys) (p:List Nat) (i:Nat):(gn S p i).length ≤ i:=by
 unfold gn;refine Nat.le_trans (List.length_filter_le ..) ?_;rw [List.length_map,List.length_range];exact Nat.le_refl _
theorem Ss {p:List Nat} (h:p ≠ []):atI (Ub p) (-1)=some (.int (ll p:Nat)):=by
 have h0:0 < p.length:=List.length_pos_iff.mpr h;obtain ⟨a,u,rfl⟩:∃ a u,p=a ++ [u]:=by
  rcases List.eq_nil_or_concat p with q | ⟨a,u,q⟩
  ·exact absurd q h
  ·exact ⟨a,u,by rw [q,List.concat_eq_append]⟩
 rw [Ws];unfold atI ixN;rw [wc,if_neg (by decide),if_pos (by omega)];rw [List.length_append] at h0 ⊢;rw [show ((-1:Int) + ((a.length + [u].length:Nat):Int)).toNat=a.length by simp;omega];unfold Ub;rw [Option.bind_some,List.getElem?_map,List.getElem?_append_right (Nat.le_refl _),Nat.sub_self];rfl
theorem rE (b:Nat) (l:List Nat):inV (.int (b:Int)) (Ub l)=decide (b ∈ l):=by
 unfold inV Ub;rw [List.any_map,Bool.eq_iff_iff];simp only [List.any_eq_true,Function.comp,eqV,beq_iff_eq,decide_eq_true_eq];constructor
 ·rintro ⟨y,hy,e⟩;rw [← Int.ofNat.inj e];exact hy
 ·intro h;exact ⟨b,h,rfl⟩
theorem eE {S:Sys} {ps:List (List Nat)} {i:Nat} {p:List Nat} (h:ps[i]? = some p):(ps.take (i + 1)).flatMap (JA S)=(ps.take i).flatMap (JA S) ++ JA S p:=by
 rw [List.take_add_one,h,List.flatMap_append];simp
section
variable (P:Program) (w:World)
noncomputable def PH (t:Adr):Sp:=fun vs H Q _=>∃ wp pl n ws ps,vs=[.ref wp,.ref pl]∧Xc P w t H wp n ws∧Dx H pl ps∧(∀ p ∈ ps,p ≠ []∧p.length ≤ 6∧∀ x ∈ p,x < ws.length)∧ps.length ≤ 280000∧tw n ws∧NoT H ∧
 ∀ r H',Tb H H'→NoT H'→H r=none→Dx H' r (ps.flatMap (JA (Ob n ws)))→Q (.ref r) H'
end
section
variable {P:Program} {w:World} {K:PySem.W.Frag} {mg:Str→Option Value} {base:Heap} {t:Adr}
theorem zL (T:Txt w K mg t):Rb P w K mg base CX0 1 t.Dd t.Fd q36 (PH P w t):=by
 refine T.Ge.ok pd (fun vs H Q E h=>?_) (fun _ _ _ s H vs Q E hr h=>?_)
 ·obtain ⟨wp,pl,n,ws,ps,rfl,_⟩:=h;rfl
 obtain ⟨wp,pl,n,ws,ps,rfl,W,L,hps,hpl,wk,nt,q⟩:=h;obtain ⟨dx,al,sd,e1,e2,D⟩:=id W;obtain ⟨qs,l1,l2,l3⟩:=id L;have hu:=qk hr;have hws:=wk.2.1;refine ⟨_,(fb (wb (i:=2) pd.nd (wf ib))
   (fb (rf PassesOwn.never rfl (Of (pv 1)) (Gx (i:=3) pd.nd rfl (Or.inr rfl)) (fb (pf (i:=4) pd.nd rfl (Or.inl rfl) rfl (Ju rfl T.Mf (ab (Ib Zb (Kb ac (pv 3) jb) jb) (ab (fc (pv 0) rfl) ib))) (Dc (sc:=ub Ed) rfl (by decide +kernel)) (N:=["want","path","wanted"]) (sel:=[none,some 3,some 0]) (Wc (M:=q46) (by decide +kernel)) (Blk.of (fun _ _ _ _=>(Eb (i:=0) (eh (N:=["want","path","wanted"]) (by decide +kernel) rfl))) (fun _ _ _ _=>⟨_,(ut (Wr (Ts hu (Ec (ab (Kb ac (pv 1) (wK pF jb)) (ab (pv 0) ib))) (fc (pv 2) rfl)))),by walk_at "B"⟩) (fun _ _ _ _=>⟨_,(pv 0),by walk_at "B"⟩)) rfl)
   (lb (we (uo PySem.F.plainAttrs_list PySem.F.slot_list_extend PySem.F.type_list_extend Kv (pv 2) (ab (Og rfl (Of (pv 4)) (Dc (sc:=ub Ed) rfl (by decide +kernel)) (N:=["want","path"]) (sel:=[none,some 3]) (Wc (M:=q46) (by decide +kernel)) (Blk.of (fun _ _ _ _=>(Eb (i:=0) (eh (N:=["want","path"]) (by decide +kernel) rfl))) (fun _ _ _ _=>⟨_,(ut (Qb jo (pv 0) (pv 1) (by with_unfolding_all rfl))),by walk_at "B"⟩) (fun _ _ _ _=>⟨_,(Ib Tw (pv 1) (Ec (ab (pv 0) ib))),by walk_at "B"⟩))) ib))))))
   (lb (Gb (pv 2))))),?_⟩
 walk_at "RD";refine ⟨by decide,fun f hf=>⟨⟨_,SqL.of ((db hf) _ _ l1)⟩,?_⟩⟩;refine Hj.list (xs:=qs.map V.ref) (fun i σ H'=>Tb H H'∧NoT H'∧Dx H' f ((ps.take i).flatMap (JA (Ob n ws)))∧∃ x y,σ=[some (.ref wp),some (.ref pl),some (.ref f),x,y]) ?_ ?_ ?_ ?_
 ·exact ⟨db hf,nt.upd,⟨[],gb,Cd.nil _⟩,_,_,rfl⟩
 ·rintro i σ H' hi ⟨s1,_⟩;exact SqL.of (s1 _ _ l1)
 ·rintro i v σ H1 hv zzq;refine zP fun zzM zzh=>?_
  obtain ⟨s1,n1,⟨fs,f1,f2⟩,x,y,rfl⟩:=zzq;obtain ⟨qi,hqi,rfl⟩:=sf hv;have hi:i < ps.length:=by rw [← l2];exact (List.getElem?_eq_some_iff.mp hqi).1
  have hpi:ps[i]? = some ps[i]:=List.getElem?_eq_getElem hi;have hq:=l3 i qi _ hqi hpi;obtain ⟨hne,hp6,hpw⟩:=hps _ (List.mem_of_getElem? hpi);subst zzh;generalize ps[i]=p at hpi hq hne hp6 hpw;have D1:=Pb D s1;simp only [xb];walk_at "RD";have hh:p.headD 0 < ws.length:=by
   cases p with
   | nil=>exact absurd rfl hne
   | cons x p=>exact hpw x (List.mem_cons_self ..)
  refine ⟨_,SqT.of (s1 _ _ hq),V.int (p.headD 0:Nat),?_,_,rfl,_,bi T (s1 _ _ e1),_,rfl,by omega,by omega,by omega,by omega,?_⟩
  ·cases p with
   | nil=>exact absurd rfl hne
   | cons x p=>exact Cb (j:=0) rfl
  rw [show ((ws.length:Int) - ((p.headD 0:Nat) + 1)).toNat=ws.length - (p.headD 0 + 1) by omega];refine ad.range (fun i ys H'=>Tb H1 H'∧NoT H'∧ys=Ub (gn (Ob n ws) p i)) (Nat.le_trans (show ws.length - (p.headD 0 + 1) ≤ 6 by omega) (by decide)) ⟨Tb.refl _,n1,rfl⟩ (fun i ys H' hi ⟨_,_,e⟩=>by rw [e,wc];exact mw ..) ?_ ?_
  ·rintro k ys H2 hk ⟨s2,n2,rfl⟩ N hN;walk_at "RD";rw [show (p.headD 0:Int) + 1 + (k:Int)=((p.headD 0 + 1 + k:Nat):Int) by omega];refine ⟨Sub.name,_,SqT.of ((s1.trans s2) _ _ hq),_,Ss hne,by decide,fun tp htp=>⟨_,vd T (db htp _ _ ((s1.trans s2) _ _ e1)),sd,rfl,_,Pb (Pb D (s1.trans s2)) (db htp),Ve (ll p) (p.headD 0 + 1 + k),gb,?_⟩⟩;rw [Yt];have s4:=s2.trans (db (o:=.tup [V.int ((ll p:Nat):Int),V.int ((p.headD 0 + 1 + k:Nat):Int)]) htp);cases he:(Ob n ws).e (ll p) (p.headD 0 + 1 + k) with
   | true=>
    refine hN _ _ ⟨s4,n2.upd,?_⟩;rw [Os,he];unfold Ub;rw [if_pos rfl,List.map_append];rfl
   | false=>
    refine hN _ _ ⟨s4,n2.upd,?_⟩;rw [Os,he,if_neg Bool.false_ne_true,List.append_nil]
  ·rintro ys H2 ⟨s2,n2,rfl⟩ nr hnr;have s3:=s2.trans (db (o:=.lst (Ub (gn (Ob n ws) p (ws.length - (p.headD 0 + 1))))) hnr);have n3:NoT (upd H2 nr (.lst (Ub (gn (Ob n ws) p (ws.length - (p.headD 0 + 1)))))):=n2.upd;have e3:(upd H2 nr (.lst (Ub (gn (Ob n ws) p (ws.length - (p.headD 0 + 1)))))) nr=some (.lst (Ub (gn (Ob n ws) p (ws.length - (p.headD 0 + 1))))):=gb;generalize upd H2 nr (.lst (Ub (gn (Ob n ws) p (ws.length - (p.headD 0 + 1)))))=H3 at s3 n3 e3 ⊢;have hnl:=mw (Ob n ws) p (ws.length - (p.headD 0 + 1));rw [eE hpi];refine ⟨.inl ⟨_,SqL.of (s3 _ _ f1)⟩,nr,rfl,⟨_,SqL.of e3⟩,?_⟩;rw [show JA (Ob n ws) p=((gn (Ob n ws) p (ws.length - (p.headD 0 + 1))).filter fun v=>decide (v ∉ p)).map fun v=>p ++ [v] from rfl];generalize gn (Ob n ws) p (ws.length - (p.headD 0 + 1))=nr at e3 hnl ⊢;refine ad.list (xs:=Ub nr) (fun i ys H'=>Tb H3 H'∧NoT H'∧∃ rs:List Addr,ys=rs.map V.ref∧Cd H' rs (((nr.take i).filter fun v=>decide (v ∉ p)).map fun v=>p ++ [v])) (by rw [wc];exact Nat.le_trans (show nr.length ≤ 6 by omega) (by decide)) ⟨Tb.refl _,n3,[],rfl,Cd.nil _⟩ ?_ ?_ ?_
   ·rintro i ys H' hi zzq;refine zP fun zzM zzh=>?_
    obtain ⟨s4,n4,rs,rfl,t4⟩:=zzq;subst zzh;refine ⟨SqL.of (s4 _ _ e3),?_⟩;rw [List.length_map,t4.1,List.length_map];refine Nat.le_trans (List.length_filter_le ..) ?_;rw [List.length_take];omega
   ·rintro k v ys H4 hv ⟨s4,n4,rs,rfl,t4⟩ N hN;obtain ⟨u,hu',rfl⟩:=Oz hv;walk_at "RD";have q4:=(s1.trans (s3.trans s4)) _ _ hq;refine ⟨Sub.name,_,.inr (SqT.of q4),rfl,?_,?_⟩
    ·refine List.all_eq_true.mpr fun x hx=>?_
     obtain ⟨y,_,rfl⟩:=List.mem_map.mp hx;rfl
    have et:nr.take (k + 1)=nr.take k ++ [u]:=by rw [List.take_add_one,hu'];rfl
    rw [rE];by_cases hup:u ∈ p
    ·rw [decide_eq_true hup,if_neg (by decide)];refine hN _ _ ⟨s4,n4,rs,rfl,?_⟩;rw [et,List.filter_append,List.filter_cons,decide_eq_false (fun z=>z hup),if_neg Bool.false_ne_true,List.filter_nil,List.append_nil];exact t4
    ·rw [decide_eq_false hup,if_pos (by decide)];refine ⟨by decide,fun tp htp=>⟨_,SqT.of (db htp _ _ q4),_,SqT.of gb,(fun z=>hne (by unfold Ub at z;exact List.map_eq_nil_iff.mp z)),Nat.le_trans (show (Ub p).length + 1 ≤ 7 by rw [wc];omega) (by decide),(fun z=>by cases z),fun _ tq htq=>hN _ _ ⟨?_,?_,rs ++ [tq],by rw [List.map_append];rfl,?_⟩⟩⟩
     ·exact (s4.trans (db htp)).trans (db htq)
     ·exact (n4.upd).upd
     ·rw [et,List.filter_append,List.filter_cons,decide_eq_true hup,if_pos rfl,List.filter_nil,List.map_append];refine (t4.same ((db htp).trans (db htq))).app (Cd.one ?_);rw [gb];unfold Ub;rw [List.map_append];rfl
   ·rintro ys H4 ⟨s4,n4,rs,rfl,t4⟩ rl hrl;have s5:=(s3.trans s4).trans (db (o:=.lst (rs.map V.ref)) hrl);have f5:=s5 _ _ f1;rw [wc,List.take_length] at t4;have hfl:fs.length ≤ 280000 * 6:=by
     rw [f2.1];refine Nat.le_trans (yy (c:=6) (fun p=>Nat.le_trans (Ey p) hws) _) (Nat.mul_le_mul_right _ ?_);rw [List.length_take];omega
    have hrs:rs.length ≤ 6:=by
     rw [t4.1,List.length_map];exact Nat.le_trans (List.length_filter_le ..) (by omega)
    refine ⟨_,rfl,_,f5,_,gb,?_,?_,?_,⟨fs ++ rs,by rw [gb,List.map_append],?_⟩,_,rfl⟩
    ·rw [List.length_map,List.length_map];exact Nat.le_trans (show fs.length + rs.length ≤ 1680006 by omega) (by decide)
    ·exact (s1.trans s5).updN hf
    ·exact (n4.upd).upd
    ·exact ((f2.same s5).app (t4.same (db hrl))).put f5
 ·rintro σ H1 zzq;refine zP fun zzM zzh=>?_
  obtain ⟨s1,n1,L1,x,y,rfl⟩:=zzq;subst zzh;walk_at "RD";rw [List.length_map,l2,List.take_length] at L1;exact q f H1 s1 n1 hf L1
end
theorem cA {S:Sys} (hm:S.m ≤ 6):∀ k,k ≤ 6→(Xg S k).length ≤ k * 279936:=by
 intro k
 induction k with
 | zero=>intro _;exact Nat.le_refl _
 | succ k ih=>
  intro hk;unfold Xg;rw [List.length_append];have h1:=ih (by omega);have h2:=Nat.le_trans (List.length_filter_le (clR S) (lev S (k + 1))) (kD (S:=S) (k + 1));have h3:S.m ^ (k + 1 + 1) ≤ 6 ^ 7:=Nat.le_trans (Nat.pow_le_pow_left hm _) (Nat.pow_le_pow_right (by decide) (by omega));omega
theorem Cd.at {H:Hp} {qs:List Addr} {ps:List (List Nat)} (h:Cd H qs ps) {i:Nat} {q:Addr} (hq:qs[i]? = some q):∃ p,ps[i]? = some p∧H q=some (.tup (Ub p)):=by
 have hi:i < ps.length:=by rw [← h.1];exact (List.getElem?_eq_some_iff.mp hq).1
 exact ⟨_,List.getElem?_eq_getElem hi,h.2 i q _ hq (List.getElem?_eq_getElem hi)⟩
section
variable (P:Program) (w:World)
noncomputable def XI (t:Adr):Sp:=fun vs H Q _=>∃ wp n ws,vs=[.ref wp]∧Xc P w t H wp n ws∧tw n ws∧NoT H ∧
 ∀ r H' k,Tb H H'→NoT H'→lev (Ob n ws) k=[]→k ≤ 6→Dx H' r (Xg (Ob n ws) k)→Q (.ref r) H'
end
section
variable {P:Program} {w:World} {K:PySem.W.Frag} {mg:Str→Option Value} {base:Heap} {t:Adr}
theorem RM (T:Txt w K mg t):Rb P w K mg base CX0 2 t.Rk t.Xk ["wanted"] (XI P w t):=by
 have g48:Rb P w K mg base CX0 1 t.Dd t.Fd q36 (PH P w t):=zL T;refine T.sn.ok Ui (fun vs H Q E h=>?_) (fun _ _ _ s H vs Q E hr h=>?_)
 ·obtain ⟨wp,n,ws,rfl,_⟩:=h;rfl
 obtain ⟨wp,n,ws,rfl,W,wk,nt,q⟩:=h;obtain ⟨dx,al,sd,e1,e2,D⟩:=id W;have hu:=qk hr;have hws:=wk.2.1;have hm:(Ob n ws).m ≤ 6:=hws;refine ⟨_,(fb (wb (i:=1) Ui.nd (wf ib))
   (fb (pf (i:=2) Ui.nd rfl (Or.inl rfl) rfl (Ce rfl T.Mf (ab (fc (pv 0) rfl) ib)) (Dc (sc:=ub Yk) rfl (by decide +kernel)) (N:=["want"]) (sel:=[none]) (Wc (M:=q47) (by decide +kernel)) (Blk.of (fun _ _ _ _=>(Eb (i:=0) (eh (N:=["want"]) (by decide +kernel) rfl))) (fun _ _ _ _=>⟨_,gf,by walk_at "B"⟩) (fun _ _ _ _=>⟨_,(Ec (ab (pv 0) ib)),by walk_at "B"⟩)) rfl)
   (fb (Dy PassesOwn.never (Zy (pv 2) (fun _=>rfl)) (fb (wb (i:=2) Ui.nd (qb g48 hr T.Yj T.Ge.kp T.Zj (ab (pv 0) (ab (pv 2) ib))))
   (lb (we (uo PySem.F.plainAttrs_list PySem.F.slot_list_extend PySem.F.type_list_extend Kv (pv 1) (ab (Og rfl (Of (pv 2)) (Dc (sc:=ub Yk) rfl (by decide +kernel)) (N:=["path","wanted"]) (sel:=[none,some 0]) (Wc (M:=q47) (by decide +kernel)) (Blk.of (fun _ _ _ _=>(Eb (i:=0) (eh (N:=["path","wanted"]) (by decide +kernel) rfl))) (fun _ _ _ _=>⟨_,(ut (Wr (Ts hu (Ec (ab (Kb ac (pv 0) (wK pF jb)) (ab (Kb ac (pv 0) jb) ib))) (fc (pv 1) rfl)))),by walk_at "B"⟩) (fun _ _ _ _=>⟨_,(pv 0),by walk_at "B"⟩))) ib))))))
   (lb (Gb (pv 1)))))),?_⟩
 walk_at "RD";refine ⟨by decide,fun f hf=>⟨_,bi T ((db hf) _ _ e1),_,rfl,by omega,by omega,?_⟩⟩;rw [show ((ws.length:Int)).toNat=ws.length by omega];have sA:Tb H (upd H f (.lst [])):=db hf;have nA:NoT (upd H f (.lst [])):=nt.upd;have fA:(upd H f (.lst [])) f=some (.lst []):=gb;generalize upd H f (.lst [])=HA at sA nA fA ⊢;refine ad.range (fun i ys H'=>Tb HA H'∧NoT H'∧∃ rs:List Addr,ys=rs.map V.ref∧Cd H' rs ((List.range i).map fun k=>[k])) (Nat.le_trans hws (by decide)) ⟨Tb.refl _,nA,[],rfl,Cd.nil _⟩ (fun i ys H' hi ⟨_,_,rs,e,t'⟩=>by rw [e,List.length_map,t'.1,List.length_map,List.length_range];exact Nat.le_refl _) ?_ ?_
 ·rintro i ys H1 hi ⟨s1,n1,rs,rfl,t1⟩ N hN;walk_at "RD";refine ⟨Sub.name,by decide,fun tp htp=>hN _ _ ⟨s1.trans (db htp),n1.upd,rs ++ [tp],by rw [List.map_append];rfl,?_⟩⟩;rw [List.range_succ,List.map_append];refine (t1.same (db htp)).app (Cd.one ?_);rw [gb];rfl
 rintro ys H1 ⟨s1,n1,rs,rfl,t1⟩ pl hpl;have s2:=s1.trans (db (o:=.lst (rs.map V.ref)) hpl);have n2:NoT (upd H1 pl (.lst (rs.map V.ref))):=n1.upd;have L2':Dx (upd H1 pl (.lst (rs.map V.ref))) pl (lev (Ob n ws) 0):=⟨rs,gb,t1.same (db hpl)⟩;generalize upd H1 pl (.lst (rs.map V.ref))=H2 at s2 n2 L2' ⊢;refine ⟨fun j σ H'=>∃ k pl',j=6 - k∧k ≤ 6∧Tb H H'∧NoT H'∧Dx H' f (Xg (Ob n ws) k)∧Dx H' pl' (lev (Ob n ws) k)∧pl' ≠ f∧σ=[some (.ref wp),some (.ref f),some (.ref pl')],⟨6,0,pl,rfl,Nat.zero_le _,sA.trans s2,n2,⟨[],s2 _ _ fA,Cd.nil _⟩,L2',Ne.symm (Jb (s1 _ _ fA) hpl),rfl⟩,?_⟩;rintro j σ H3 zzq;refine zP fun zzM zzh=>?_
 obtain ⟨k,pl',rfl,hk,s3,n3,F3,L3,hne,rfl⟩:=zzq;obtain ⟨qs,q1,q2⟩:=id L3;obtain ⟨fs,f1,f2⟩:=id F3;subst zzh;walk_at "RD";refine ⟨!(qs.map V.ref).isEmpty,.inl ⟨_,SqL.of q1,rfl⟩,?_⟩;by_cases he:lev (Ob n ws) k=[]
 ·have hq0:qs=[]:=List.length_eq_zero_iff.mp (by rw [q2.1,he];rfl);rw [hq0,if_neg (by decide)];exact q f H3 k s3 n3 he hk F3
 have hq0:qs ≠ []:=fun z=>by
  have:=q2.1;rw [z] at this;exact he (List.length_eq_zero_iff.mp this.symm)
 have hk6:k < 6:=by
  rcases Nat.lt_or_ge k 6 with z | z
  ·exact z
  ·have:=qy (aK (S:=Ob n ws)) (k - (Ob n ws).m);rw [show (Ob n ws).m + (k - (Ob n ws).m)=k by omega] at this;exact absurd this he
 rw [if_pos (by cases qs with | nil=>exact absurd rfl hq0 | cons x l=>rfl)];have hlen:∀ k,k ≤ 6→(lev (Ob n ws) k).length ≤ 279936:=fun k hk=>Nat.le_trans (kD k) (Nat.le_trans (Nat.pow_le_pow_left hm _) (Nat.pow_le_pow_right (n:=6) (by decide) (show k + 1 ≤ 7 by omega)))
 refine ⟨fun σ' H'=>∃ x,Tb H H'∧NoT H'∧Dx H' f (Xg (Ob n ws) (k + 1))∧Dx H' x (lev (Ob n ws) (k + 1))∧x ≠ f∧σ'=[some (.ref wp),some (.ref f),some (.ref x)],fun σ' H' z=>?_,?_⟩
 ·obtain ⟨x,z1,z2,z3,z4,z5,z6⟩:=z;exact ⟨6 - (k + 1),by omega,k + 1,rfl,by omega,z1,z2,z3,x,z4,z5,z6⟩
 refine ⟨wp,pl',n,ws,lev (Ob n ws) k,rfl,W.same s3,L3,fun p hp=>?_,?_,wk,n3,fun r H4 s4 n4 hr4 L4=>?_⟩
 ·obtain ⟨g1,g2,g3⟩:=Oy _ _ hp;refine ⟨?_,by omega,g3⟩;intro z;rw [z] at g1;cases g1
 ·have:=hlen k hk;omega
 obtain ⟨us,u1,u2⟩:=id L4;have f4:=s4 _ _ f1;have hrf:r ≠ f:=fun z=>by rw [z,f1] at hr4;cases hr4
 refine ⟨.inl ⟨_,SqL.of f4⟩,r,rfl,⟨_,SqL.of u1⟩,?_⟩;have L4':Cd H4 us (lev (Ob n ws) (k + 1)):=u2;have hul:us.length ≤ 279936:=by rw [L4'.1];exact hlen _ (by omega)
 refine ad.list (xs:=us.map V.ref) (fun i ys H'=>Tb H4 H'∧NoT H'∧∃ rs:List Addr,ys=rs.map V.ref∧Cd H' rs (((lev (Ob n ws) (k + 1)).take i).filter (clR (Ob n ws)))) (by rw [List.length_map];exact Nat.le_trans hul (by decide)) ⟨Tb.refl _,n4,[],rfl,Cd.nil _⟩ ?_ ?_ ?_
 ·rintro i ys H' hi zzq;refine zP fun zzM zzh=>?_
  obtain ⟨s5,n5,rs',rfl,t5⟩:=zzq;subst zzh;refine ⟨SqL.of (s5 _ _ u1),?_⟩;rw [List.length_map,t5.1];refine Nat.le_trans (List.length_filter_le ..) ?_;rw [List.length_take];omega
 ·rintro i v ys H5 hv ⟨s5,n5,rs',rfl,t5⟩ N hN;obtain ⟨qi,hqi,rfl⟩:=sf hv;obtain ⟨p,hp,hpq⟩:=L4'.at hqi;obtain ⟨g1,g2,g3⟩:=Oy _ _ (List.mem_of_getElem? hp);have hpne:p ≠ []:=fun z=>by rw [z] at g1;cases g1
  have hp5:=s5 _ _ hpq;have s45:=s3.trans (s4.trans s5);have ef:((lev (Ob n ws) (k + 1)).take (i + 1)).filter (clR (Ob n ws))=((lev (Ob n ws) (k + 1)).take i).filter (clR (Ob n ws)) ++ (if clR (Ob n ws) p then [p] else []):=by
   rw [List.take_add_one,hp,List.filter_append];show _ ++ List.filter _ [p]=_;rw [List.filter_cons,List.filter_nil]
  walk_at "RD";refine ⟨Sub.name,_,SqT.of hp5,_,Ss hpne,_,SqT.of hp5,V.int (p.headD 0:Nat),?_,by decide,fun tp htp=>⟨_,vd T (db htp _ _ (s45 _ _ e1)),sd,rfl,_,Pb (Pb D s45) (db htp),Ve (ll p) (p.headD 0),gb,?_⟩⟩
  ·cases p with
   | nil=>exact absurd rfl hpne
   | cons x p=>exact Cb (j:=0) rfl
  rw [Yt];have s6:=s5.trans (db (o:=.tup [V.int ((ll p:Nat):Int),V.int ((p.headD 0:Nat):Int)]) htp);have t6:=t5.same (db (o:=.tup [V.int ((ll p:Nat):Int),V.int ((p.headD 0:Nat):Int)]) htp);cases hc:(Ob n ws).e (ll p) (p.headD 0) with
  | true=>
   refine hN _ _ ⟨s6,n5.upd,rs' ++ [qi],by rw [List.map_append];rfl,?_⟩;rw [ef,show clR (Ob n ws) p=true from hc,if_pos rfl];exact t6.app (Cd.one (s6 _ _ hpq))
  | false=>
   refine hN _ _ ⟨s6,n5.upd,rs',rfl,?_⟩;rw [ef,show clR (Ob n ws) p=false from hc,if_neg Bool.false_ne_true,List.append_nil];exact t6
 ·rintro ys H5 ⟨s5,n5,rs',rfl,t5⟩ rl hrl;rw [List.length_map,L4'.1,List.take_length] at t5;have sr:=db (o:=.lst (rs'.map V.ref)) hrl;have f5:=sr _ _ (s5 _ _ f4);have hfl:fs.length ≤ 6 * 279936:=by rw [f2.1];exact Nat.le_trans (cA hm k hk) (Nat.mul_le_mul_right _ hk)
  have hrs:rs'.length ≤ 279936:=by
   rw [t5.1];exact Nat.le_trans (List.length_filter_le ..) (hlen _ (by omega))
  refine ⟨_,rfl,_,f5,_,gb,?_,r,?_,(n5.upd).upd,⟨fs ++ rs',by rw [gb,List.map_append],?_⟩,⟨us,?_,?_⟩,hrf,rfl⟩
  ·rw [List.length_map,List.length_map];exact Nat.le_trans (show fs.length + rs'.length ≤ 1959552 by omega) (by decide)
  ·exact (((s3.trans s4).trans s5).trans sr).updN hf
  ·exact ((f2.same ((s4.trans s5).trans sr)).app (t5.same sr)).put f5
  ·rw [Db hrf];exact sr _ _ (s5 _ _ u1)
  ·exact ((L4'.same s5).same sr).put f5
end
end My
namespace My
open PySem L2
noncomputable def kf (S:Sys):Od:=(List.range S.m).flatMap fun i=>((List.range S.m).filter fun j=>S.e i j).map fun j=>(i,j)
theorem Jj {S:Sys} {i j:Nat} (h:(i,j) ∈ kf S):S.e i j=true:=by
 obtain ⟨k,_,h⟩:=List.mem_flatMap.mp h;obtain ⟨l,hl,e⟩:=List.mem_map.mp h;cases e;exact (List.mem_filter.mp hl).2
theorem qu {S:Sys} (k:S.Ok) {i j:Nat} (h:S.e i j=true):(i,j) ∈ kf S:=
 List.mem_flatMap.mpr ⟨i,List.mem_range.mpr (k.lt h).1,List.mem_map.mpr ⟨j,List.mem_filter.mpr ⟨List.mem_range.mpr (k.lt h).2.1,h⟩,rfl⟩⟩
theorem cK {n:Int} {ws:List (WD × Int)} {i:Nat} (hi:i < ws.length):∀ k,k ≤ ws.length→gi n ws i k=((List.range k).filter fun j=>(Ob n ws).e i j).map fun j=>(Ve i j,V.int ((Ob n ws).st i j)):=by
 have hp:ws[i]? = some ws[i]:=List.getElem?_eq_getElem hi;intro k
 induction k with
 | zero=>intro _;rfl
 | succ k ih=>
  intro hk;have hq:ws[k]? = some ws[k]:=List.getElem?_eq_getElem (by omega);have hs:=Fi (n:=n) hp hq;rw [List.range_succ,List.filter_append,List.map_append,← ih (by omega),List.filter_cons,List.filter_nil];by_cases h:i ≠ k∧mt n ws[i].1 ws[k].1=true
  ·rw [fv hp hq h,hs.1,decide_eq_true h.1,h.2,if_pos (by rfl),List.map_cons,List.map_nil,hs.2]
  ·rw [Au hp hq h,hs.1,if_neg (by simpa using h),List.map_nil,List.append_nil]
theorem sC {α β:Type} {f g:α→List β}:∀ {l:List α},(∀ x ∈ l,f x=g x)→l.flatMap f=l.flatMap g:=by
 intro l
 induction l with
 | nil=>intro _;rfl
 | cons x l ih=>intro h;rw [List.flatMap_cons,List.flatMap_cons,h x (List.mem_cons_self ..),ih fun y hy=>h y (List.mem_cons_of_mem _ hy)]
theorem Jn (n:Int) (ws:List (WD × Int)):Ie n ws ws.length=(kf (Ob n ws)).map fun p=>(Ve p.1 p.2,V.int ((Ob n ws).st p.1 p.2)):=by
 unfold Ie kf;rw [List.map_flatMap];refine sC fun i hi=>?_
 rw [cK (List.mem_range.mp hi) _ (Nat.le_refl _),List.map_map];rfl
theorem TD {n:Int} {ws:List (WD × Int)} (h:ws.length ≤ 6):(kf (Ob n ws)).length ≤ 36:=by
 have:=bw n ws ws.length;rw [Jn,List.length_map] at this;exact Nat.le_trans this (Nat.mul_le_mul h h)
theorem Ut {H:Hp} {n:Int} {ws:List (WD × Int)} {xs:List (List Key × Addr × Value)} (r:Paired (fun (p:List Key × V) (q:List Key × Addr × Value)=>p.1=q.1∧H q.2.1=some (.tup (p.1.map kV))∧Bd p.2 q.2.2) (Ie n ws ws.length) xs) {i:Nat} {k:List Key} {b:Addr} {u:Value} (hx:xs[i]? = some (k,b,u)):∃ x y,(kf (Ob n ws))[i]? = some (x,y)∧H b=some (.tup [.int (x:Nat),.int (y:Nat)]):=by
 rw [Jn] at r;have hi:i < ((kf (Ob n ws)).map fun p=>(Ve p.1 p.2,V.int ((Ob n ws).st p.1 p.2))).length:=by rw [Mo r];exact (List.getElem?_eq_some_iff.mp hx).1
 obtain ⟨q,hq,z1,z2,z3⟩:=vx r (List.getElem?_eq_getElem hi);rw [hx] at hq;cases hq;rw [List.length_map] at hi;refine ⟨(kf (Ob n ws))[i].1,(kf (Ob n ws))[i].2,List.getElem?_eq_getElem hi,?_⟩;rw [List.getElem_map] at z2;exact z2
section
variable (P:Program) (w:World)
noncomputable def CI (t:Adr):Sp:=fun vs H Q _=>∃ wp a n ws o,vs=[.ref wp,.ref a]∧Xc P w t H wp n ws∧Oj P w H a o∧tw n ws∧NoT H ∧
 (∀ r i j H',Tb H H'→NoT H'→H' r=some (.tup [.int (i:Nat),.int (j:Nat)])→(Ob n ws).e i j=true→inO o i j=false→Q (.ref r) H')∧((∀ i j,(Ob n ws).e i j=true→inO o i j=true)→Q .non H)
noncomputable def Du (S:Sys) (b:Nat→Int):List V:=(List.range S.m).map fun v=>V.int (b v)
noncomputable def NI (t:Adr):Sp:=fun vs H Q _=>∃ wp z a n ws o,vs=[.ref wp,.int z,.ref a]∧Xc P w t H wp n ws∧Oj P w H a o∧tw n ws∧0 < z∧NoT H ∧
 ∀ r H',Tb H H'→NoT H'→H r=none→H' r=some (.lst (Du (Ob n ws) fun v=>lp (Ob n ws) z o (kf (Ob n ws)) ws.length v % z))→Q (.ref r) H'
end
theorem pC {S:Sys} {b:Nat→Int} {i:Nat} (h:i < S.m):(Du S b)[i]? = some (V.int (b i)):=by
 unfold Du;rw [List.getElem?_map,List.getElem?_range h];rfl
theorem rH {S:Sys} {b c:Nat→Int} {i:Nat} {x:Int} (h1:c i=x) (h2:∀ j,j ≠ i→c j=b j):(Du S b).set i (V.int x)=Du S c:=by
 refine List.ext_getElem? fun j=>?_
 unfold Du;rw [List.getElem?_set];by_cases hj:i=j
 ·subst hj;rw [if_pos rfl,List.length_map,List.length_range];by_cases hl:i < S.m
  ·rw [if_pos hl,List.getElem?_map,List.getElem?_range hl,← h1];rfl
  ·rw [if_neg hl,List.getElem?_map,List.getElem?_eq_none (by rw [List.length_range];omega)];rfl
 ·rw [if_neg hj,List.getElem?_map,List.getElem?_map];by_cases hl:j < S.m
  ·rw [List.getElem?_range hl];show some (V.int (b j))=some (V.int (c j));rw [h2 j (Ne.symm hj)]
  ·rw [List.getElem?_eq_none (by rw [List.length_range];omega)];rfl
theorem KH {n j:Nat} (h:j < n):ixN n (j:Int)=some j:=by unfold ixN;simp;omega
theorem UC {S:Sys} {z:Int} {o:Od} (b:Nat→Int) (i j:Nat):relax S z o b (i,j) j=if b i + wtO S z o i j > b j then b i + wtO S z o i j else b j:=by
 have e:relax S z o b (i,j) j=max (b j) (b i + wtO S z o i j):=if_pos rfl;rw [e,Int.max_def];split <;> split <;> omega
theorem vA {S:Sys} {z:Int} {o:Od} (b:Nat→Int) (i j:Nat) {k:Nat} (h:k ≠ j):relax S z o b (i,j) k=b k:=if_neg h
noncomputable def zO (z:Int):V→V
 | .int x=>.int (x % z)
 | v=>v
theorem zG (S:Sys) (b:Nat→Int) (z:Int):(Du S b).map (zO z)=Du S fun v=>b v % z:=by
 unfold Du;rw [List.map_map];rfl
section
variable {P:Program} {w:World} {K:PySem.W.Frag} {mg:Str→Option Value} {base:Heap} {t:Adr}
theorem GL (T:Txt w K mg t):Rb P w K mg base CX0 2 t.Jd t.Kd q37 (CI P w t):=by
 have g14:Rb P w K mg base CX0 1 t.kd t.ld q8 (my P w):=uD T;refine T.We.ok Fe (fun vs H Q E h=>?_) (fun _ _ _ s H vs Q E hr h=>?_)
 ·obtain ⟨wp,a,n,ws,o,rfl,_⟩:=h;rfl
 obtain ⟨wp,a,n,ws,o,rfl,W,O,wk,nt,q1,q2⟩:=h;obtain ⟨dx,al,sd,e1,e2,D⟩:=id W;have hu:=qk hr;refine ⟨_,(fb (rf PassesOwn.never rfl (ny (fc (pv 0) rfl)) (lf (K:=K) (n:=2) rfl rfl (gc (Eb (i:=2) Fe.nd) (gc (Eb (i:=3) Fe.nd) jf))) (lb (jd (Mq (ol (qb g14 hr T.dh T.De.kp T.Ug (ab (pv 1) (ab (pv 2) (ab (pv 3) ib)))))) (lb (Gb (Ec (ab (pv 2) (ab (pv 3) ib))))) Sb)))
   (lb (Gb Jh))),?_⟩
 walk_at "RD";refine ⟨_,vd T e1,_,rfl,_,D,fun ob es ep xs r=>?_⟩;have hxl:xs.length=(kf (Ob n ws)).length:=by rw [← Mo r.ks,Jn,List.length_map]
 refine Hj.of (n:=(Ie n ws ws.length).length) (fun i σ H'=>H'=H∧(∀ l p,l < i→(kf (Ob n ws))[l]? = some p→inO o p.1 p.2=true)∧∃ x y,σ=[some (.ref wp),some (.ref a),x,y]) ?_ ?_ ?_ ?_ ?_
 ·exact ⟨rfl,fun l p hl=>absurd hl (Nat.not_lt_zero _),_,_,rfl⟩
 ·rintro i σ H' hi ⟨rfl,_⟩;exact ⟨r.at_,hi⟩
 ·rintro σ H' ⟨rfl,_⟩;exact ⟨r.at_,Nat.le_refl _⟩
 ·rintro i σ H' v H2 hi ⟨rfl,hin,x,y,rfl⟩ ⟨rfl,k,b,u,hxs,rfl⟩;obtain ⟨i1,j1,hp,hb⟩:=Ut r.ks hxs;refine Lk (SqT.of hb) ?_;simp only [List.set_cons_succ,List.set_cons_zero];refine Mb (!inO o i1 j1) (fun Q hQ=>?_) (fun hb=>?_) (fun hb=>?_)
  ·walk_at "RD";exact ⟨a,i1,j1,o,rfl,O,nt,_,rfl,hQ⟩
  ·walk_at "RD";refine ⟨by decide,fun tp htp=>q1 tp i1 j1 _ (db htp) nt.upd gb (Jj (List.mem_of_getElem? hp)) (by simpa using hb)⟩
  ·simp only [bc];refine ⟨trivial,fun l p hl hlp=>?_,_,_,rfl⟩;rcases Nat.lt_or_ge l i with z | z
   ·exact hin l p z hlp
   ·have:l=i:=by omega
    subst this;rw [hp] at hlp;cases hlp;simpa using hb
 ·rintro σ H' zzq;refine zP fun zzM zzh=>?_
  obtain ⟨rfl,hin,x,y,rfl⟩:=zzq;subst zzh;walk_at "RD";refine q2 fun i j he=>?_
  obtain ⟨l,hl⟩:=List.getElem?_of_mem (qu wk.ok he);refine hin l _ ?_ hl;rw [Jn,List.length_map];exact (List.getElem?_eq_some_iff.mp hl).1
theorem zM (T:Txt w K mg t):Rb P w K mg base CX0 2 t.Le t.Pe q38 (NI P w t):=by
 have g23:Rb P w K mg base CX0 1 t.Vd t.Sd q17 (yE P w t):=tI T;refine T.Pf.ok Ad (fun vs H Q E h=>?_) (fun _ _ _ s H vs Q E hr h=>?_)
 ·obtain ⟨wp,z,a,n,ws,o,rfl,_⟩:=h;rfl
 obtain ⟨wp,z,a,n,ws,o,rfl,W,O,wk,hz,nt,q⟩:=h;obtain ⟨dx,al,sd,e1,e2,D⟩:=id W;have hu:=qk hr;have hws:=wk.2.1;refine ⟨_,(fb (pf (i:=3) Ad.nd rfl (Or.inl rfl) rfl (Ce rfl T.Mf (ab (fc (pv 0) rfl) ib)) (Dc (sc:=ub Se) rfl (by decide +kernel)) (N:=["want"]) (sel:=[none]) (Wc (M:=q48) (by decide +kernel)) (Blk.of (fun _ _ _ _=>(Eb (i:=0) (eh (N:=["want"]) (by decide +kernel) rfl))) (fun _ _ _ _=>⟨_,gf,by walk_at "B"⟩) (fun _ _ _ _=>⟨_,jb,by walk_at "B"⟩)) rfl)
   (fb (rf PassesOwn.never rfl (Ce rfl T.Mf (ab (fc (pv 0) rfl) ib)) (Eb (i:=4) Ad.nd) (lb (rf PassesOwn.never rfl (ny (fc (pv 0) rfl)) (lf (K:=K) (n:=2) rfl rfl (gc (Eb (i:=5) Ad.nd) (gc (Eb (i:=6) Ad.nd) jf))) (lb (Hr (qc (Mu rfl) rfl T.LG wn (ab (Kb Ye (pv 3) (pv 6)) (ab (Ib Zb (Kb Ye (pv 3) (pv 5)) (qb g23 hr T.sk T.Gf.kp T.Kj (ab (pv 0) (ab (pv 1) (ab (pv 2) (ab (pv 5) (ab (pv 6) ib))))))) ib))) (XH (pv 3) (pv 6) aA))))))
   (lb (Gb (Og rfl (Of (pv 3)) (Dc (sc:=ub Se) rfl (by decide +kernel)) (N:=["begin","size"]) (sel:=[none,some 1]) (Wc (M:=q48) (by decide +kernel)) (Blk.of (fun _ _ _ _=>(Eb (i:=0) (eh (N:=["begin","size"]) (by decide +kernel) rfl))) (fun _ _ _ _=>⟨_,gf,by walk_at "B"⟩) (fun _ _ _ _=>⟨_,(Ib lg (pv 0) (pv 1)),by walk_at "B"⟩))))))),?_⟩
 walk_at "RD";refine ⟨_,bi T e1,_,rfl,by omega,by omega,?_⟩;rw [show ((ws.length:Int)).toNat=ws.length by omega];refine ad.range_map (fun _=>V.int 0) (Nat.le_trans hws (by decide)) (fun i N hi hN=>?_) (fun b hb=>?_)
 ·walk_at "RD";exact ⟨Sub.name,hN⟩
 walk_at "RD";have sb:=db (o:=.lst ((List.range ws.length).map fun _=>V.int 0)) hb;refine ⟨_,bi T (sb _ _ e1),_,rfl,by omega,by omega,?_⟩;rw [show ((ws.length:Int)).toNat=ws.length by omega];refine Hj.range (fun i σ H'=>Tb H H'∧NoT H'∧H' b=some (.lst (Du (Ob n ws) (lp (Ob n ws) z o (kf (Ob n ws)) i)))∧∃ x y u,σ=[some (.ref wp),some (.int z),some (.ref a),some (.ref b),x,y,u]) ⟨sb,nt.upd,gb,_,_,_,rfl⟩ ?_ ?_
 ·rintro i σ H1 hi zzq;refine zP fun zzM zzh=>?_
  obtain ⟨s1,n1,b1,x,y,u,rfl⟩:=zzq;subst zzh;walk_at "RD";refine ⟨_,vd T (s1 _ _ e1),_,rfl,_,Pb D s1,fun ob es ep xs r=>?_⟩;have hsd:sd ≠ b:=fun z=>by have g:=r.at_;rw [z,b1] at g;cases g
  refine Hj.of (n:=(Ie n ws ws.length).length) (fun j σ H'=>ee b H1 H'∧Tb H H'∧NoT H'∧H' b=some (.lst (Du (Ob n ws) (((kf (Ob n ws)).take j).foldl (relax (Ob n ws) z o) (lp (Ob n ws) z o (kf (Ob n ws)) i))))∧∃ x y u,σ=[some (.ref wp),some (.int z),some (.ref a),some (.ref b),x,y,u]) ?_ ?_ ?_ ?_ ?_
  ·exact ⟨ee.of (Tb.refl _),s1,n1,b1,_,_,_,rfl⟩
  ·rintro j σ H' hj ⟨sx,_⟩;exact ⟨sx _ _ hsd r.at_,hj⟩
  ·rintro σ H' ⟨sx,_⟩;exact ⟨sx _ _ hsd r.at_,Nat.le_refl _⟩
  ·rintro j σ H' v H2 hj ⟨sx,s2,n2,b2,x,y,u,rfl⟩ ⟨rfl,k,bb,u',hxs,rfl⟩;obtain ⟨i1,j1,hp,hbb⟩:=Ut r.ks hxs;have he:=Jj (List.mem_of_getElem? hp);have hlt:=wk.ok.lt he;refine Lk (SqT.of (sx _ _ (fun z=>by rw [z,b1] at hbb;cases hbb) hbb)) ?_;simp only [List.set_cons_succ,List.set_cons_zero];walk_at "RD";have hj1:j1 < (Du (Ob n ws) (((kf (Ob n ws)).take j).foldl (relax (Ob n ws) z o) (lp (Ob n ws) z o (kf (Ob n ws)) i))).length:=by unfold Du;rw [List.length_map,List.length_range];exact hlt.2.1
   refine ⟨_,SqL.of b2,_,Cb (j:=j1) (pC hlt.2.1),_,SqL.of b2,_,Cb (j:=i1) (pC hlt.1),wp,z,a,i1,j1,o,n,ws,rfl,W.same s2,Pb O s2,he,n2,_,rfl,_,rfl,_,rfl,_,b2,j1,KH hj1,fun c u hc e=>by rw [Db hc];exact sx _ _ hc e,s2.updN hb,n2.upd,?_,?_⟩
   ·rw [gb];refine congrArg (fun l=>some (HO.lst l)) (rH ?_ fun k hk=>?_)
    ·rw [List.take_add_one,hp,List.foldl_append];exact UC _ i1 j1
    ·rw [List.take_add_one,hp,List.foldl_append];exact vA _ i1 j1 hk
   ·exact ⟨_,rfl⟩
  ·rintro σ H' zzq;refine zP fun zzM zzh=>?_
   obtain ⟨sx,s2,n2,b2,x,y,u,rfl⟩:=zzq;subst zzh;rw [Jn,List.length_map,List.take_length] at b2;exact ⟨s2,n2,b2,_,_,_,rfl⟩
 ·rintro σ H1 zzq;refine zP fun zzM zzh=>?_
  obtain ⟨s1,n1,b1,x,y,u,rfl⟩:=zzq;subst zzh;walk_at "RD";refine ⟨⟨_,SqL.of b1⟩,?_⟩;refine ad.list_map (zO z) (SqL.of b1) (by unfold Du;rw [List.length_map,List.length_range];exact Nat.le_trans hws (by decide)) (fun i x N hx hN=>?_) (fun p hp=>?_)
  ·unfold Du at hx;obtain ⟨y,_,rfl⟩:=List.mem_map.mp (List.mem_of_getElem? hx);walk_at "RD";exact ⟨Sub.name,hz,hN⟩
  ·rw [zG];exact q p _ (s1.trans (db hp)) n1.upd (s1.free hp) gb
end
end My
namespace My
open PySem L2
section
open PySem.Spec PyProof.Rows
theorem bH {X:Cx} (hc:X.calm=true):zi X (.builtin "sum") (fun xs H Q=>∃ l ks,xs=[.ref l]∧SqL X.K H l (List.map V.int ks)∧(∀ k ∈ ks,0 ≤ k∧k ≤ 1000000000)∧ks.length ≤ 1000∧Q (.int ks.sum) H):=by
 intro pins s σ H xs us Q I r h;obtain ⟨l,ks,rfl,hq,hk,hl,q⟩:=h;obtain ⟨u,rfl,ru⟩:=Mm r;cases ru;obtain ⟨its,rv,pl,hz⟩:=I.list hq;obtain ⟨xs,e1,e2⟩:=Ds rv;have hil:its.toArray=intItems xs.toArray:=by rw [e1];unfold intItems;simp
 have hls:s.heap.IsList l (intItems xs.toArray):=by rw [← hil];exact pl.isList
 have hxl:xs.length=ks.length:=by rw [← e2,List.length_map]
 have hn:∀ i,i < ks.length→ks[i]? = some (numAt xs.toArray i):=fun i hi=>by
  rw [numAt_eq,List.getD_eq_getElem?_getD];show ks[i]? = some (((xs.map (·.1))[i]?).getD 0);rw [e2,List.getElem?_eq_getElem hi];rfl
 have hps:∀ n,n ≤ ks.length→preSum (numAt xs.toArray) n=(ks.take n).sum∧0 ≤ (ks.take n).sum∧(ks.take n).sum ≤ 1000000000 * (n:Int):=fun n=>by
  induction n with
  | zero=>intro _;exact ⟨by simp [preSum],by simp,by simp⟩
  | succ n ih=>
   intro hn';obtain ⟨i1,i2,i3⟩:=ih (by omega);have e:=hn n (by omega);have hv:=hk _ (List.mem_of_getElem? e);have es:(ks.take (n + 1)).sum=(ks.take n).sum + numAt xs.toArray n:=by
    rw [List.take_add_one,e,List.sum_append];simp
   refine ⟨?_,by omega,by omega⟩;show preSum (numAt xs.toArray) n + numAt xs.toArray n=_;rw [i1,es]
 have hsz:xs.toArray.size=ks.length:=by rw [List.size_toArray,hxl]
 refine sum_intList (I.ok.hd hc) hls (fun j hj=>?_) fun h' tk t' k=>⟨.int ks.sum,H,I.kept k,⟨t',?_⟩,q⟩
 ·rw [hsz] at hj;have e:=hn j hj;have hv:=hk _ (List.mem_of_getElem? e);obtain ⟨p1,p2,p3⟩:=hps (j + 1) (by omega);unfold InLong;rw [p1];omega
 ·rw [hsz,(hps _ (Nat.le_refl _)).1,List.take_length]
end
noncomputable def gj (H:Hp):Pap→Addr→Prop
 | .alone k,a=>H a=some (.tup [.str (Str.ofString "alone"),.int (k:Nat)])
 | .ring r,a=>∃ b,H a=some (.tup [.str (Str.ofString "ring"),.ref b])∧H b=some (.tup (Ub r))
 | .case i j p q,a=>∃ b c,H a=some (.tup [.str (Str.ofString "case"),.int (i:Nat),.int (j:Nat),.ref b,.ref c])∧gj H p b∧gj H q c
theorem gj.same {H H':Hp} (s:Tb H H'):∀ {p:Pap} {a:Addr},gj H p a→gj H' p a:=by
 intro p
 induction p with
 | alone k=>intro a h;exact s _ _ h
 | ring r=>intro a ⟨b,h1,h2⟩;exact ⟨b,s _ _ h1,s _ _ h2⟩
 | case i j p q ihp ihq=>intro a ⟨b,c,h1,h2,h3⟩;exact ⟨b,c,s _ _ h1,ihp h2,ihq h3⟩
theorem fm.mod {S:Sys} {z:Int} {b:Nat→Int} (D:fm S z b):fm S z fun v=>b v % z:=⟨D.1,fun i j e=>by
 have:=D.2 i j e;show _ ≤ (b j % z - b i % z) % z;rw [← Int.sub_emod];exact this⟩
noncomputable def jN (S:Sys) (z:Int) (o:Od) (d:Nat) (H H':Hp) (bv pv:V):Prop:=(∃ b pb,bv=.ref pb∧pv=.non∧H pb=none∧H' pb=some (.lst (Du S b))∧(∀ v,0 ≤ b v∧b v < z)∧fm S z b)∨(∃ p pa,bv=.non∧pv=.ref pa∧gj H' p pa∧Qd S z o p=true∧Yh S.m d p)
section
variable (P:Program) (w:World)
noncomputable def oN (t:Adr) (d:Nat) (vs:List V) (H:Hp) (z:Int) (n:Int) (ws:List (WD × Int)) (o:Od):Prop:=∃ wp rl a k,vs=[.ref wp,.int z,.ref rl,.ref a]∧Xc P w t H wp n ws∧Dx H rl (Xg (Ob n ws) k)∧lev (Ob n ws) k=[]∧k ≤ 6∧Oj P w H a o∧jA (Ob n ws) o∧tw n ws∧unO (Ob n ws) o ≤ d∧(∀ i,i < ws.length→(Ob n ws).al i ≤ z)∧NoT H
noncomputable def Gz (t:Adr) (d:Nat):Sp:=fun vs H Q _=>∃ z n ws o,oN P w t d vs H z n ws o∧∀ r bv pv H',Tb H H'→NoT H'→H' r=some (.tup [bv,pv])→jN (Ob n ws) z o d H H' bv pv→Q (.ref r) H'
noncomputable def sJ (t:Adr):Nat→Sp
 | 0=>fun _ _ _ _=>False
 | d + 1=>Gz P w t d
end
section
variable {P:Program} {w:World} {K:PySem.W.Frag} {mg:Str→Option Value} {base:Heap} {t:Adr}
theorem Yx (T:Txt w K mg t) (d:Nat) (g17:Rb P w K mg base CX0 (d + 2) t.yi t.vi q19 (sJ P w t d)):Rb P w K mg base CX0 (d + 3) t.yi t.vi q19 (Gz P w t d):=by
 refine T.Ai.ok me (fun vs H Q E h=>?_) (fun _ _ _ s H vs Q E hr h=>?_)
 ·obtain ⟨z,n,ws,o,⟨wp,rl,a,k,rfl,_⟩,_⟩:=h;rfl
 obtain ⟨z,n,ws,o,⟨wp,rl,a,k,rfl,W,R,hk0,hk6,O,od,wk,hd,ha,nt⟩,q⟩:=h;have hu:=qk hr;have hws:=wk.2.1;have hm:(Ob n ws).m ≤ 6:=hws;have hz:0 < z:=by
  have h0:0 < ws.length:=List.length_pos_iff.mpr wk.2.2;have:=ha 0 h0;have:=wk.ok.a1 (i:=0) h0;omega
 obtain ⟨qs,r1,r2⟩:=id R;have g24:Rb P w K mg base CX0 (d + 2) t.uf t.tf q18 (iK P w t):=(mM T).mono (by omega);have g49:Rb P w K mg base CX0 (d + 2) t.Jd t.Kd q37 (CI P w t):=(GL T).mono (by omega);have g50:Rb P w K mg base CX0 (d + 2) t.Le t.Pe q38 (NI P w t):=(zM T).mono (by omega);have g15:Rb P w K mg base CX0 (d + 2) t.dg t.eg q8 (OC P w (Ob n ws)):=(lI T _).mono (by omega);refine ⟨_,(fb (rf PassesOwn.never rfl (Of (pv 2)) (Eb (i:=4) me.nd) (lb (jd (ol (qb g24 hr T.Wn T.Eh.kp T.Qn (ab (pv 0) (ab (pv 1) (ab (pv 3) (ab (pv 4) ib)))))) (lb (Gb (Ec (ab Jh (ab (Ec (ab xc (ab (pv 4) ib))) ib))))) Sb)))
   (fb (wb (i:=5) me.nd (qb g49 hr T.il T.We.kp T.Zk (ab (pv 0) (ab (pv 3) ib))))
   (fb (jd (Qb sI (pv 5) Jh (cc _)) (lb (Gb (Ec (ab (qb g50 hr T.Bn T.Pf.kp T.Kn (ab (pv 0) (ab (pv 1) (ab (pv 3) ib)))) (ab Jh ib))))) Sb)
   (fb (Hr (pv 5) (lf (K:=K) (n:=2) rfl rfl (gc (Eb (i:=6) me.nd) (gc (Eb (i:=7) me.nd) jf))))
   (fb (Hr (qb g17 hr T.rq T.Ai.kp T.pp (ab (pv 0) (ab (pv 1) (ab (pv 2) (ab (qb g15 hr T.Bh T.qf.kp T.nh (ab (pv 3) (ab (pv 6) (ab (pv 7) ib)))) ib))))) (lf (K:=K) (n:=2) rfl rfl (gc (Eb (i:=8) me.nd) (gc (Eb (i:=9) me.nd) jf))))
   (fb (jd (Qb Uw (pv 8) Jh (cc _)) (lb (Gb (Ec (ab (pv 8) (ab Jh ib))))) Sb)
   (fb (Hr (qb g17 hr T.rq T.Ai.kp T.pp (ab (pv 0) (ab (pv 1) (ab (pv 2) (ab (qb g15 hr T.Bh T.qf.kp T.nh (ab (pv 3) (ab (pv 7) (ab (pv 6) ib)))) ib))))) (lf (K:=K) (n:=2) rfl rfl (gc (Eb (i:=8) me.nd) (gc (Eb (i:=10) me.nd) jf))))
   (fb (jd (Qb Uw (pv 8) Jh (cc _)) (lb (Gb (Ec (ab (pv 8) (ab Jh ib))))) Sb)
   (lb (Gb (Ec (ab Jh (ab (Ec (ab xc (ab (pv 6) (ab (pv 7) (ab (pv 9) (ab (pv 10) ib)))))) ib))))))))))))),?_⟩
 simp only [xb];refine Yb (fun σ' H'=>H'=H∧(∀ r ∈ Xg (Ob n ws) k,Qi (Ob n ws) z o r=false)∧∃ x,σ'=[some (.ref wp),some (.int z),some (.ref rl),some (.ref a),x,none,none,none,none,none,none]) (fun D' hD hrt _ _=>?_) ?_
 ·walk_at "RD";refine ⟨⟨_,SqL.of r1⟩,?_⟩;refine Hj.list (xs:=qs.map V.ref) (fun i σ H'=>H'=H∧(∀ (l:Nat) r,l < i→(Xg (Ob n ws) k)[l]? = some r→Qi (Ob n ws) z o r=false)∧∃ x,σ=[some (.ref wp),some (.int z),some (.ref rl),some (.ref a),x,none,none,none,none,none,none]) ⟨rfl,fun l r hl=>absurd hl (Nat.not_lt_zero _),_,rfl⟩ (fun i σ H' _ z=>by rw [z.1];exact SqL.of r1) ?_ ?_
  ·rintro i v σ H1 hv zzq;refine zP fun zzM zzh=>?_
   obtain ⟨rfl,hno,x,rfl⟩:=zzq;obtain ⟨qi,hqi,rfl⟩:=sf hv;obtain ⟨r,hr1,hr2⟩:=r2.at hqi;obtain ⟨l,hl,hlev⟩:=AA (List.mem_of_getElem? hr1);obtain ⟨g1,g2,g3⟩:=Oy _ _ hlev;subst zzh;simp only [Bg,List.set_cons_succ,List.set_cons_zero];refine Mb (Qi (Ob n ws) z o r) (fun Q hQ=>?_) (fun hb=>?_) (fun hb=>?_)
   ·walk_at "RD";exact ⟨wp,z,a,qi,o,r,n,ws,rfl,W,O,hr2,by omega,od,wk,nt,_,rfl,hQ⟩
   ·walk_at "RD";rw [hrt];refine ⟨by decide,fun p1 hp1=>⟨by decide,fun p2 hp2=>?_⟩⟩;have s2:=(db (o:=.tup [.str (Str.ofString "ring"),.ref qi]) hp1).trans (db (o:=.tup [V.non,.ref p1]) hp2);exact q p2 .non (.ref p1) _ s2 ((nt.upd).upd) gb (.inr ⟨.ring r,p1,rfl,rfl,⟨qi,db hp2 _ _ gb,s2 _ _ hr2⟩,hb,by cases d <;> exact g3⟩)
   ·simp only [bc];refine ⟨trivial,fun l' r' hl' hr'=>?_,_,rfl⟩;rcases Nat.lt_or_ge l' i with y | y
    ·exact hno l' r' y hr'
    ·have:l'=i:=by omega
     subst this;rw [hr1] at hr';cases hr';exact hb
  ·rintro σ H1 zzq;refine zP fun zzM zzh=>?_
   obtain ⟨rfl,hno,x,rfl⟩:=zzq;subst zzh;refine hD _ _ ⟨rfl,fun r hr=>?_,x,rfl⟩;obtain ⟨l,hl⟩:=List.getElem?_of_mem hr;refine hno l r ?_ hl;rw [List.length_map,r2.1];exact (List.getElem?_eq_some_iff.mp hl).1
 rintro σ1 H1 zzq;refine zP fun zzM zzh=>?_
 obtain ⟨rfl,hno,x,rfl⟩:=zzq;subst zzh;simp only [xb];refine Yb (fun σ' H'=>Tb H1 H'∧NoT H'∧((H'=H1∧(∀ i j,(Ob n ws).e i j=true→inO o i j=true)∧σ'=[some (.ref wp),some (.int z),some (.ref rl),some (.ref a),x,some .non,none,none,none,none,none])∨∃ pr i j,H' pr=some (.tup [.int (i:Nat),.int (j:Nat)])∧(Ob n ws).e i j=true∧inO o i j=false∧σ'=[some (.ref wp),some (.int z),some (.ref rl),some (.ref a),x,some (.ref pr),none,none,none,none,none])) (fun D' hD hrt _ _=>?_) ?_
 ·walk_at "RD";exact ⟨wp,a,n,ws,o,rfl,W,O,wk,nt,fun r i j H' s2 n2 e he hi=>hD _ _ ⟨s2,n2,.inr ⟨r,i,j,e,he,hi,rfl⟩⟩,fun hi=>hD _ _ ⟨Tb.refl _,nt,.inl ⟨rfl,hi,rfl⟩⟩⟩
 rintro σ2 H2 ⟨s2,n2,(⟨rfl,hall,rfl⟩ | ⟨pr,i,j,hpr,he,hio,rfl⟩)⟩
 ·simp only [xb];refine Mb true (fun Q hQ=>?_) (fun _=>?_) (fun z=>nomatch z)
  ·walk_at "RD";exact hQ
  ·walk_at "RD";refine ⟨wp,z,a,n,ws,o,rfl,W,O,wk,hz,nt,fun r H3 s3 n3 hr3 e3=>⟨by decide,fun p hp=>q p (.ref r) .non _ (s3.trans (db hp)) n3.upd gb (.inl ⟨_,r,rfl,rfl,hr3,db hp _ _ e3,fun v=>⟨Int.emod_nonneg _ (by omega),Int.emod_lt_of_pos _ hz⟩,?_⟩)⟩⟩;exact (Ou wk.ok hz ha hall od.as fun i j e=>xB wk.ok (fun p hp=>Jj hp) (fun i j h=>qu wk.ok h) (uA wk.ok hk0 hall hno) e).mod
 simp only [xb];refine Mb false (fun Q hQ=>?_) (fun z=>nomatch z) (fun _=>?_)
 ·walk_at "RD";exact hQ
 simp only [bc,xb];obtain ⟨d',rfl⟩:∃ d',d=d' + 1:=⟨d - 1,by have:=pJ wk.ok he hio;omega⟩;have hio':=hio;unfold inO at hio';rw [Bool.or_eq_false_iff,decide_eq_false_iff_not,decide_eq_false_iff_not] at hio';have hio2:inO o j i=false:=by rw [Jo];exact hio
 refine GK (.ref pr) (fun Q hQ=>by walk_at "RD";exact hQ) (Lk (SqT.of hpr) ?_);simp only [xb,List.set_cons_succ,List.set_cons_zero];refine Yb (fun σ' H'=>∃ Ha bv pv,Tb H2 Ha∧Tb Ha H'∧NoT H'∧jN (Ob n ws) z (o ++ [(i,j)]) d' Ha H' bv pv∧σ'=[some (.ref wp),some (.int z),some (.ref rl),some (.ref a),x,some (.ref pr),some (.int (i:Nat)),some (.int (j:Nat)),some bv,some pv,none]) (fun D' hD hrt _ _=>?_) ?_
 ·walk_at "RD";refine ⟨a,i,j,o,rfl,Pb O s2,od,wk.ok,hm,hio'.1,n2,fun r3 H3 s3 n3 O3=>?_⟩;have s23:=s2.trans s3;refine ⟨z,n,ws,o ++ [(i,j)],⟨wp,rl,r3,k,rfl,W.same s23,R.same s23,hk0,hk6,O3,od.put wk.ok he hio,wk,by have:=zw (o:=o) wk.ok he hio;omega,ha,n3⟩,fun r4 bv pv H4 s4 n4 e4 SP=>?_⟩;exact ⟨r4,rfl,_,SqT.of e4,rfl,_,_,rfl,_,_,rfl,rfl,hD _ _ ⟨H3,bv,pv,s3,s4,n4,SP,rfl⟩⟩
 rintro σ3 H4 zzq;refine zP fun zzM zzh=>?_
 obtain ⟨Ha,bv,pv,sa,s4,n4,SP,rfl⟩:=zzq;subst zzh;simp only [xb];have s24:=s2.trans (sa.trans s4);rcases SP with ⟨b,pb,rfl,rfl,hb0,hb1,hb2,hb3⟩ | ⟨p1,pa,rfl,rfl,hp1,hp2,hp3⟩
 ·refine Mb true (fun Q hQ=>?_) (fun _=>?_) (fun z=>nomatch z)
  ·walk_at "RD";exact hQ
  ·walk_at "RD";exact ⟨by decide,fun p hp=>q p _ _ _ (s24.trans (db hp)) n4.upd gb (.inl ⟨b,pb,rfl,rfl,(s2.trans sa).free hb0,db hp _ _ hb1,hb2,hb3⟩)⟩
 refine Mb false (fun Q hQ=>?_) (fun z=>nomatch z) (fun _=>?_)
 ·walk_at "RD";exact hQ
 simp only [bc,xb];refine Yb (fun σ' H'=>∃ Hb bv pv,Tb H4 Hb∧Tb Hb H'∧NoT H'∧jN (Ob n ws) z (o ++ [(j,i)]) d' Hb H' bv pv∧σ'=[some (.ref wp),some (.int z),some (.ref rl),some (.ref a),x,some (.ref pr),some (.int (i:Nat)),some (.int (j:Nat)),some bv,some (.ref pa),some pv]) (fun D' hD hrt _ _=>?_) ?_
 ·walk_at "RD";refine ⟨a,j,i,o,rfl,Pb O s24,od,wk.ok,hm,hio'.2,n4,fun r5 H5 s5 n5 O5=>?_⟩;have s25:=s24.trans s5;have hei:=wk.ok.sy he;refine ⟨z,n,ws,o ++ [(j,i)],⟨wp,rl,r5,k,rfl,W.same s25,R.same s25,hk0,hk6,O5,od.put wk.ok hei hio2,wk,by have:=zw (o:=o) wk.ok hei hio2;omega,ha,n5⟩,fun r6 bv pv H6 s6 n6 e6 SP=>?_⟩;exact ⟨r6,rfl,_,SqT.of e6,rfl,_,_,rfl,_,_,rfl,rfl,hD _ _ ⟨H5,bv,pv,s5,s6,n6,SP,rfl⟩⟩
 rintro σ5 H6 zzq;refine zP fun zzM zzh=>?_
 obtain ⟨Hb,bv,pv,sb,s6,n6,SP,rfl⟩:=zzq;subst zzh;simp only [xb];have s46:=sb.trans s6;have s26:=s24.trans s46;rcases SP with ⟨b,pb,rfl,rfl,hb0,hb1,hb2,hb3⟩ | ⟨p2,pa2,rfl,rfl,hq1,hq2,hq3⟩
 ·refine Mb true (fun Q hQ=>?_) (fun _=>?_) (fun z=>nomatch z)
  ·walk_at "RD";exact hQ
  ·walk_at "RD";exact ⟨by decide,fun p hp=>q p _ _ _ (s26.trans (db hp)) n6.upd gb (.inl ⟨b,pb,rfl,rfl,(s24.trans sb).free hb0,db hp _ _ hb1,hb2,hb3⟩)⟩
 refine Mb false (fun Q hQ=>?_) (fun z=>nomatch z) (fun _=>?_)
 ·walk_at "RD";exact hQ
 simp only [bc];walk_at "RD";refine ⟨by decide,fun p3 hp3'=>⟨by decide,fun p4 hp4=>?_⟩⟩;have t1:=db (o:=.tup [.str (Str.ofString "case"),.int (i:Nat),.int (j:Nat),.ref pa,.ref pa2]) hp3';have t2:=db (o:=.tup [V.non,.ref p3]) hp4;have hl:=wk.ok.lt he;refine q p4 .non (.ref p3) _ (s26.trans (t1.trans t2)) ((n6.upd).upd) gb (.inr ⟨.case i j p1 p2,p3,rfl,rfl,⟨pa,pa2,t2 _ _ gb,(hp1.same s46).same (t1.trans t2),hq1.same (t1.trans t2)⟩,?_,hl.1,hl.2.1,hp3,hq3⟩);show ((Ob n ws).e i j && !inO o i j && Qd (Ob n ws) z (o ++ [(i,j)]) p1 && Qd (Ob n ws) z (o ++ [(j,i)]) p2)=true;rw [he,hio,hp2,hq2];rfl
theorem SI (T:Txt w K mg t):∀ d,Rb P w K mg base CX0 (d + 3) t.yi t.vi q19 (Gz P w t d)
 | 0=>Yx T 0 (T.Ai.ok me (fun vs H Q E h=>h.elim) (fun cdv A outer s H vs Q E hr h=>h.elim))
 | d + 1=>Yx T (d + 1) (SI T d)
end
section
variable (P:Program) (w:World)
noncomputable def WB (t:Adr):Sp:=fun vs H Q _=>∃ wp z rl k n ws,vs=[.ref wp,.int z,.ref rl]∧Xc P w t H wp n ws∧Dx H rl (Xg (Ob n ws) k)∧lev (Ob n ws) k=[]∧k ≤ 6∧tw n ws∧NoT H ∧
 ∀ r bv pv H',Tb H H'→NoT H'→H' r=some (.tup [bv,pv])→jN (Ob n ws) z (ar (Ob n ws)) (unO (Ob n ws) (ar (Ob n ws))) H H' bv pv→Q (.ref r) H'
noncomputable def sE (t:Adr):Sp:=fun vs H Q _=>∃ wp n ws,vs=[.ref wp]∧Xc P w t H wp n ws∧tw n ws∧NoT H∧∀ z b H',Tb H H'→NoT H'→fm (Ob n ws) z b→z ≤ 20000→Q (.int z) H'
end
section
variable {P:Program} {w:World} {K:PySem.W.Frag} {mg:Str→Option Value} {base:Heap} {t:Adr}
theorem Qt {k:Nat} {f:Addr} {fd:FuncData} {ps:List Str} {sp:Nat→Sp} {m:Nat} (F:∀ n,n ≤ m→Rb P w K mg base CX0 k f fd ps (sp n)):Rb P w K mg base CX0 k f fd ps (fun vs H Q E=>∃ n,n ≤ m∧sp n vs H Q E):=
 ⟨fun vs H Q E ⟨n,hn,h⟩=>(F n hn).len vs H Q E h,fun A outer s H args us vs Q E hr he hb hv ⟨n,hn,h⟩=>(F n hn).run A outer s H args us vs Q E hr he hb hv h⟩
theorem FA {n:Int} {ws:List (WD × Int)} {i:Nat} {p:WD × Int} (h:ws[i]? = some p):(Ob n ws).al i=Oc p:=by
 show (match ws[i]? with | some p=>Oc p | none=>0)=_;rw [h]
theorem rJ (T:Txt w K mg t):Rb P w K mg base CX0 14 t.wg t.Ig q39 (WB P w t):=by
 have g17:Rb P w K mg base CX0 13 t.yi t.vi q19 (fun vs H Q E=>∃ n,n ≤ 10∧Gz P w t n vs H Q E):=Qt fun n hn=>(SI T n).mono (by omega)
 have g25:Rb P w K mg base CX0 13 t.ke t.ae ["wanted"] (bC P w t):=(ZI T).mono (by decide);refine T.Ff.ok Th (fun vs H Q E h=>?_) (fun _ _ _ s H vs Q E hr h=>?_)
 ·obtain ⟨wp,z,rl,k,n,ws,rfl,_⟩:=h;rfl
 obtain ⟨wp,z,rl,k,n,ws,rfl,W,R,hk0,hk6,wk,nt,q⟩:=h;obtain ⟨dx,al,sd,e1,e2,D⟩:=id W;have hu:=qk hr;have hws:=wk.2.1;refine ⟨_,(fb (rf PassesOwn.never rfl (Bp rfl T.Qf (ab (fc (pv 0) rfl) ib)) (lf (K:=K) (n:=2) rfl rfl (gc (Eb (i:=3) Th.nd) (gc (Eb (i:=4) Th.nd) jf))) (lb (jd (Qb yo (pv 4) (pv 1) (cc _)) (lb (Gb (Ec (ab Jh (ab (Ec (ab xc (ab (pv 3) ib))) ib))))) Sb)))
   (lb (Gb (qb g17 hr T.rq T.Ai.kp T.pp (ab (pv 0) (ab (pv 1) (ab (pv 2) (ab (qb g25 hr T.Aj T.df.kp T.tj (ab (pv 0) ib)) ib)))))))),?_⟩
 walk_at "RD";refine ⟨_,Wi T e1,_,rfl,⟨_,SqL.of e2⟩,?_⟩;refine Hj.enum (xs:=ws.map fun p=>V.int (Oc p)) (fun i σ H'=>Tb H H'∧NoT H'∧(∀ l,l < i→(Ob n ws).al l ≤ z)∧∃ x y,σ=[some (.ref wp),some (.int z),some (.ref rl),x,y]) ⟨Tb.refl _,nt,fun l hl=>absurd hl (Nat.not_lt_zero _),_,_,rfl⟩ (fun i σ H' _ ⟨s1,_⟩=>SqL.of (s1 _ _ e2)) ?_ ?_
 ·rintro i v σ H1 tp hv ⟨s1,n1,hal,x,y,rfl⟩ htp;obtain ⟨p,hp,rfl⟩:=sf hv;have hai:=FA (n:=n) hp;have hil:=(List.getElem?_eq_some_iff.mp hp).1;refine ah ?_;simp only [List.set_cons_succ,List.set_cons_zero];have s2:=s1.trans (db (o:=.tup [.int i,.int (Oc p)]) htp);have n2:NoT (upd H1 tp (.tup [.int i,.int (Oc p)])):=n1.upd;generalize upd H1 tp (.tup [.int i,.int (Oc p)])=H2 at s2 n2 ⊢;refine Mb (decide (z < Oc p)) (fun Q hQ=>?_) (fun hb=>?_) (fun hb=>?_)
  ·walk_at "RD";exact hQ
  ·walk_at "RD";refine ⟨by decide,fun p1 hp1=>⟨by decide,fun p2 hp2=>?_⟩⟩;have t1:=db (o:=.tup [.str (Str.ofString "alone"),.int (i:Nat)]) hp1;have t2:=db (o:=.tup [V.non,.ref p1]) hp2;refine q p2 .non (.ref p1) _ (s2.trans (t1.trans t2)) ((n2.upd).upd) gb (.inr ⟨.alone i,p1,rfl,rfl,t2 _ _ gb,?_,?_⟩)
   ·show decide (z < (Ob n ws).al i)=true;rw [hai];exact hb
   ·unfold Yh;exact hil
  ·simp only [bc];refine ⟨s2,n2,fun l hl=>?_,_,_,rfl⟩;rcases Nat.lt_or_ge l i with y | y
   ·exact hal l y
   ·have:l=i:=by omega
    subst this;rw [hai];have:=of_decide_eq_false hb;omega
 ·rintro σ H1 zzq;refine zP fun zzM zzh=>?_
  obtain ⟨s1,n1,hal,x,y,rfl⟩:=zzq;subst zzh;rw [List.length_map] at hal;walk_at "RD";refine ⟨wp,n,ws,rfl,W.same s1,wk,n1,fun r H2 s2 n2 O2=>?_⟩;have s12:=s1.trans s2;refine ⟨unO (Ob n ws) (ar (Ob n ws)),(wz wk.ok hws).1,z,n,ws,ar (Ob n ws),⟨wp,rl,r,k,rfl,W.same s12,R.same s12,hk0,hk6,O2,pE,wk,Nat.le_refl _,hal,n2⟩,fun r3 bv pv H3 s3 n3 e3 SP=>q r3 bv pv H3 (s12.trans s3) n3 e3 ?_⟩;rcases SP with ⟨b,pb,h1,h2,h3,h4⟩ | h
  ·exact .inl ⟨b,pb,h1,h2,s12.free h3,h4⟩
  ·exact .inr h
noncomputable def yA:List Int→Int
 | []=>0
 | x :: l=>max x (yA l)
theorem cz:∀ l,0 ≤ yA l
 | []=>Int.le_refl _
 | x :: l=>Int.le_trans (cz l) (Int.le_max_right ..)
theorem AF:∀ {l:List Int} {x:Int},x ∈ l→x ≤ yA l
 | y :: l,x,h=>by
  rcases List.mem_cons.mp h with rfl | h
  ·exact Int.le_max_left ..
  ·exact Int.le_trans (AF h) (Int.le_max_right ..)
theorem UB:∀ {l:List Int} {m:Int},0 ≤ m→(∀ x ∈ l,x ≤ m)→yA l ≤ m
 | [],m,h,_=>h
 | x :: l,m,h,g=>Int.max_le.mpr ⟨g x (List.mem_cons_self ..),UB h fun y hy=>g y (List.mem_cons_of_mem _ hy)⟩
theorem Fv:∀ (l:List Int) (x:Int),0 ≤ x→l.foldl max x=max x (yA l)
 | [],x,h=>(Int.max_eq_left h).symm
 | y :: l,x,h=>by
  rw [List.foldl_cons,Fv l _ (Int.le_trans h (Int.le_max_left ..))];exact Int.max_assoc ..
theorem MK (l:List Int) (h:∀ x ∈ l,0 ≤ x):(l.max? = none∧yA l=0)∨l.max? = some (yA l):=by
 cases l with
 | nil=>exact .inl ⟨rfl,rfl⟩
 | cons x l=>
  rw [List.max?_cons',Fv l x (h x (List.mem_cons_self ..))];exact .inr rfl
noncomputable def stL (S:Sys) (i:Nat) (l:Od):List Int:=(l.filter fun p=>decide (p.1=i)).map fun p=>S.st p.1 p.2
theorem tM {S:Sys} (k:S.Ok) {i j:Nat} (h:S.e i j=true):S.st i j ∈ stL S i (kf S):=List.mem_map.mpr ⟨(i,j),List.mem_filter.mpr ⟨qu k h,decide_eq_true rfl⟩,rfl⟩
theorem iD {S:Sys} {i:Nat} {x:Int} (h:x ∈ stL S i (kf S)):∃ j,S.e i j=true∧x=S.st i j:=by
 obtain ⟨⟨a,b⟩,hp,rfl⟩:=List.mem_map.mp h;obtain ⟨h1,h2⟩:=List.mem_filter.mp hp;have:a=i:=of_decide_eq_true h2;subst this;exact ⟨b,Jj h1,rfl⟩
theorem cG {f:Nat→Int} {c:Int} (hc:0 ≤ c):∀ {m:Nat},(∀ i,i < m→f i ≤ c)→vo f m ≤ m * c:=by
 intro m
 induction m with
 | zero=>intro _;simp [vo]
 | succ m ih=>
  intro h;have h1:=ih fun i hi=>h i (by omega)
  have h2:=h m (by omega);show vo f m + f m ≤ _;rw [show ((m + 1:Nat):Int) * c=m * c + c by rw [Int.natCast_add,Int.add_mul];simp];omega
theorem Uy (f g:Nat→Int):∀ m,vo (fun i=>f i + g i) m=vo f m + vo g m:=by
 intro m
 induction m with
 | zero=>rfl
 | succ m ih=>
  show vo _ m + (f m + g m)=(vo f m + f m) + (vo g m + g m);rw [ih];omega
theorem uL {n:Int} {ws:List (WD × Int)}:∀ k,k ≤ ws.length→((ws.take k).map Oc).sum=vo (Ob n ws).al k:=by
 intro k
 induction k with
 | zero=>intro _;rfl
 | succ k ih=>
  intro hk;have hp:ws[k]? = some ws[k]:=List.getElem?_eq_getElem (by omega);show _=vo (Ob n ws).al k + (Ob n ws).al k;rw [List.take_add_one,hp,List.map_append,List.sum_append,ih (by omega),FA hp];simp
theorem ZC {n:Int} {d:WD} (o:WOk n d):On d + Zh d ≤ 100:=by
 have h:=o.of;unfold On Zh;rcases d with ⟨k,_⟩
 match k with
 | 0=>simp
 | 1=>simp at h ⊢;omega
 | k + 2=>simp
theorem HM {n:Int} {d e:WD} (o:WOk n d) (p:WOk n e):Et d e ≤ 100:=by
 have h1:=o.of;have h2:=p.nr;unfold Et;split <;> omega
theorem tK (T:Txt w K mg t):Rb P w K mg base CX0 2 t.xg t.Dg ["wanted"] (sE P w t):=by
 refine T.fj.ok Vf (fun vs H Q E h=>?_) (fun _ _ _ s H vs Q E hr h=>?_)
 ·obtain ⟨wp,n,ws,rfl,_⟩:=h;rfl
 obtain ⟨wp,n,ws,rfl,W,wk,nt,q⟩:=h;obtain ⟨dx,al,sd,e1,e2,D⟩:=id W;have hu:=qk hr;have hws:=wk.2.1;refine ⟨_,(fb (wb (i:=1) Vf.nd (qc (bH rfl) rfl T.ZN nB (ab (fc (pv 0) rfl) ib)))
   (fb (rf PassesOwn.never rfl (Ce rfl T.Mf (ab (fc (pv 0) rfl) ib)) (Gx (i:=2) Vf.nd rfl (Or.inr rfl)) (lb (RH (i:=1) Vf.nd rfl (Or.inl rfl) (OJ rfl rfl T.LG (ab (Og rfl (ny (fc (pv 0) rfl)) (Dc (sc:=ub Xi) rfl (by decide +kernel)) (N:=["pair","wanted","want"]) (sel:=[none,some 0,some 2]) (Wc (M:=["wanted","total","want"]) (by decide +kernel)) (Blk.of (fun _ _ _ _=>(Eb (i:=0) (eh (N:=["pair","wanted","want"]) (by decide +kernel) rfl))) (fun _ _ _ _=>⟨_,(ut (Qb gg (Kb ac (pv 0) jb) (pv 2) (cc _))),by walk_at "B"⟩) (fun _ _ _ _=>⟨_,(ax hu (fc (pv 1) rfl) (pv 0) (fun _ _=>rfl)),by walk_at "B"⟩))) ib) jb) dI)))
   (lb (Gb (pv 1))))),?_⟩
 walk_at "RD";have e2':H al=some (.lst ((ws.map Oc).map V.int)):=by rw [List.map_map];exact e2
 refine ⟨_,Wi T e1,_,rfl,_,SqL.of e2',?_,by rw [List.length_map];omega,_,bi T e1,_,rfl,by omega,by omega,?_⟩
 ·intro k hk;obtain ⟨p,hp,rfl⟩:=List.mem_map.mp hk;obtain ⟨h1,h2,h3⟩:=wk.1 p hp;have h4:=Ry h1;have h5:=ZC h1;unfold Oc;omega
 rw [show ((ws.length:Int)).toNat=ws.length by omega];refine Hj.range (fun i σ H'=>Tb H H'∧NoT H'∧∃ x,σ=[some (.ref wp),some (.int ((ws.map Oc).sum + vo (fun i=>yA (stL (Ob n ws) i (kf (Ob n ws)))) i)),x]) ⟨Tb.refl _,nt,_,by rw [show vo _ 0=0 from rfl,Int.add_zero]⟩ ?_ ?_
 ·rintro i σ H1 hi zzq;refine zP fun zzM zzh=>?_
  obtain ⟨s1,n1,x,rfl⟩:=zzq;subst zzh;(walk_at "RD"; repeat (dsimp only [bL];walk_at "RD"));refine ⟨_,vd T (s1 _ _ e1),sd,rfl,_,Pb D s1,fun ob es ep xs r=>?_⟩;have hsl:(kf (Ob n ws)).length ≤ 36:=TD hws;have hal:(Ie n ws ws.length).length=(kf (Ob n ws)).length:=by rw [Jn,List.length_map]
  refine ad.of (n:=(Ie n ws ws.length).length) (fun j ys H'=>H'=H1∧ys=(stL (Ob n ws) i ((kf (Ob n ws)).take j)).map V.int) (by rw [hal];exact Nat.le_trans hsl (by decide)) ⟨rfl,rfl⟩ ?_ ?_ ?_ ?_ ?_
  ·rintro j ys H' hj ⟨rfl,_⟩;exact ⟨r.at_,hj⟩
  ·rintro ys H' ⟨rfl,_⟩;exact ⟨r.at_,Nat.le_refl _⟩
  ·rintro j ys H' hj ⟨_,rfl⟩;unfold stL;rw [List.length_map,List.length_map];refine Nat.le_trans (List.length_filter_le ..) ?_;rw [List.length_take];omega
  ·rintro j ys H' v H2 hj ⟨rfl,rfl⟩ ⟨rfl,k,bb,u',hxs,rfl⟩ N hN;obtain ⟨i1,j1,hp,hbb⟩:=Ut r.ks hxs;have he:=Jj (List.mem_of_getElem? hp);have ef:stL (Ob n ws) i ((kf (Ob n ws)).take (j + 1))=stL (Ob n ws) i ((kf (Ob n ws)).take j) ++ (if i1=i then [(Ob n ws).st i1 j1] else []):=by
    unfold stL;rw [List.take_add_one,hp,List.filter_append,List.map_append];show _ ++ List.map _ (List.filter _ [(i1,j1)])=_;rw [List.filter_cons,List.filter_nil];by_cases h:i1=i
    ·rw [if_pos h,if_pos (decide_eq_true h)];rfl
    ·rw [if_neg h,if_neg (by simpa using h)];rfl
   walk_at "RD";refine ⟨Sub.name,_,SqT.of hbb,_,Cb (j:=0) rfl,rfl,?_⟩;by_cases h:i1=i
   ·rw [if_pos (by rw [h];exact decide_eq_true rfl)];refine ⟨_,vd T (s1 _ _ e1),sd,rfl,_,Pb D s1,Ve i1 j1,hbb,_,Vx he,hN _ _ ⟨rfl,?_⟩⟩;rw [ef,if_pos h,List.map_append];rfl
   ·rw [if_neg (by rw [decide_eq_true_eq];exact fun g=>h (Int.ofNat.inj (V.int.inj g)))];refine hN _ _ ⟨rfl,?_⟩;rw [ef,if_neg h,List.append_nil]
  ·rintro ys H' ⟨rfl,rfl⟩ l hl;rw [hal,List.take_length];refine ⟨l,rfl,_,SqL.of gb,?_⟩;have hS:vo (fun i=>yA (stL (Ob n ws) i (kf (Ob n ws)))) (i + 1)=vo (fun i=>yA (stL (Ob n ws) i (kf (Ob n ws)))) i + yA (stL (Ob n ws) i (kf (Ob n ws))):=rfl;rcases MK (stL (Ob n ws) i (kf (Ob n ws))) (fun x hx=>by
    obtain ⟨j,he,rfl⟩:=iD hx;have:=wk.ok.s1 he
    omega) with ⟨g1,g2⟩ | g1
   ·rw [g1];exact ⟨_,_,rfl,rfl,s1.trans (db hl),n1.upd,by rw [hS,g2,← Int.add_assoc],_,rfl⟩
   ·rw [g1];exact ⟨_,_,rfl,rfl,s1.trans (db hl),n1.upd,by rw [hS,← Int.add_assoc],_,rfl⟩
 ·rintro σ H1 zzq;refine zP fun zzM zzh=>?_
  obtain ⟨s1,n1,x,rfl⟩:=zzq;subst zzh;walk_at "RD";have hT:=uJ wk.ok (mx:=fun i=>yA (stL (Ob n ws) i (kf (Ob n ws)))) (fun i=>cz _) fun i j e=>AF (tM wk.ok e)
  rw [Uy] at hT;have hs:=uL (n:=n) (ws:=ws) ws.length (Nat.le_refl _);rw [List.take_length] at hs;rw [hs];refine q _ _ H1 s1 n1 hT ?_;rw [← Uy];refine Int.le_trans (cG (c:=3000) (by decide) fun i hi=>?_) (show (ws.length:Int) * 3000 ≤ 20000 by omega);have hp:ws[i]? = some ws[i]:=List.getElem?_eq_getElem hi;obtain ⟨h1,h2,h3⟩:=wk.1 _ (List.mem_of_getElem? hp);have h5:=ZC h1;have h6:(Ob n ws).al i ≤ 1100:=by
   rw [FA hp];unfold Oc;omega
  have h7:yA (stL (Ob n ws) i (kf (Ob n ws))) ≤ 1100:=by
   refine UB (by decide) fun x hx=>?_
   obtain ⟨j,he,rfl⟩:=iD hx;obtain ⟨p,p',g1,g2,_⟩:=Dr he;rw [(Fi g1 g2).2];have g3:=wk.1 p (List.mem_of_getElem? g1);have g4:=wk.1 p' (List.mem_of_getElem? g2);have:=HM g3.1 g4.1;omega
  omega
end
end My
namespace My
open PySem L2
theorem dF {n:Int} {ws:List (WD × Int)} {z:Int} (hz:0 ≤ z):∀ i,(Ob n ws).m ≤ i→(Ob n ws).al i ≤ z:=fun i hi=>by
 have e:(Ob n ws).al i=0:=by
  show (match ws[i]? with | some p=>Oc p | none=>0)=0;rw [List.getElem?_eq_none hi]
 rw [e];exact hz
structure Fx (S:Sys) (H H':Hp) (z:Int) (pb pa:Addr) (b:Nat→Int) (p:Pap):Prop where
 z1:1 ≤ z
 zl:z ≤ 20000
 nb:H pb=none
 eb:H' pb=some (.lst (Du S b))
 rb:∀ v,0 ≤ b v∧b v < z
 does:fm S z b
 pap:gj H' p pa
 bear:Qd S (z - 1) (ar S) p=true
 form:Yh S.m (unO S (ar S)) p
theorem Fx.least {n:Int} {ws:List (WD × Int)} (k:(Ob n ws).Ok) {H H':Hp} {z:Int} {pb pa:Addr} {b:Nat→Int} {p:Pap} (h:Fx (Ob n ws) H H' z pb pa b p) {y:Int} (hy:0 < y) (hl:y < z) (c:Nat→Int):¬ fm (Ob n ws) y c:=
 lC k (dF (by have:=h.z1;omega)) h.bear hy (by omega)
noncomputable def ShI (n:Int) (ws:List (WD × Int)) (H H3:Hp) (c wl x rl:Addr) (j:Nat) (σ:St) (H':Hp):Prop:=∃ lo hi pa pb p b y1 y2 y3,j=(hi - lo).toNat∧0 ≤ lo∧lo < hi∧hi ≤ 20000∧Tb H3 H'∧NoT H'∧H pb=none∧H' pb=some (.lst (Du (Ob n ws) b))∧(∀ v,0 ≤ b v∧b v < hi)∧fm (Ob n ws) hi b∧gj H' p pa∧Qd (Ob n ws) lo (ar (Ob n ws)) p=true∧Yh (Ob n ws).m (unO (Ob n ws) (ar (Ob n ws))) p∧σ=[some (.ref c),some (.ref wl),some (.ref x),some (.ref rl),some (.int lo),some (.int hi),some (.ref pa),some (.ref pb),y1,y2,y3]
section
variable (P:Program) (w:World)
noncomputable def EK (t:Adr) (vs:List V) (H:Hp) (n:Int) (ws:List (WD × Int)):Prop:=∃ c wl ds,vs=[.ref c,.ref wl]∧Ze t H c n ds∧0 < n∧mo H wl ws∧(∀ q ∈ ws,∃ i:Nat,ds[i]? = some q.1)∧tw n ws∧NoT H
noncomputable def Zz (t:Adr):Sp:=fun vs H Q _=>∃ n ws,EK t vs H n ws∧∀ r z pb pa b p H',Tb H H'→NoT H'→H' r=some (.tup [.int z,.ref pb,.ref pa])→Fx (Ob n ws) H H' z pb pa b p→Q (.ref r) H'
end
section
variable {P:Program} {w:World} {K:PySem.W.Frag} {mg:Str→Option Value} {base:Heap} {t:Adr}
theorem kH (T:Txt w K mg t):Rb P w K mg base CX0 15 t.Uk t.Qk q40 (Zz t):=by
 have g13:Rb P w K mg base CX0 13 t.Wd t.Oe q22 (Oo P w t):=(Zt T).mono (by decide);have g51:Rb P w K mg base CX0 14 t.Rk t.Xk ["wanted"] (XI P w t):=(RM T).mono (by decide);have g52:Rb P w K mg base CX0 14 t.xg t.Dg ["wanted"] (sE P w t):=(tK T).mono (by decide);have g26:Rb P w K mg base CX0 14 t.wg t.Ig q39 (WB P w t):=rJ T;refine T.dn.ok Ac (fun vs H Q E h=>?_) (fun _ _ _ s H vs Q E hr h=>?_)
 ·obtain ⟨n,ws,⟨c,wl,ds,rfl,_⟩,_⟩:=h;rfl
 obtain ⟨n,ws,⟨c,wl,ds,rfl,C,hn,W,hds,wk,nt⟩,q⟩:=h;have hu:=qk hr;have hlen:ws.length ≤ 20:=by have:=wk.2.1;omega
 have hb:∀ q ∈ ws,0 ≤ q.2∧q.2 ≤ 100000:=fun q hq=>by have:=wk.1 q hq;omega
 have h0:0 < ws.length:=List.length_pos_iff.mpr wk.2.2;refine ⟨_,(fb (wb (i:=2) Ac.nd (fk T.iu g13 hr rfl T.bu T.Oi .nil fe (ab (pv 0) (ab (pv 1) ib))))
   (fb (wb (i:=3) Ac.nd (qb g51 hr T.jB T.sn.kp T.aB (ab (pv 2) ib)))
   (fb (wb (i:=4) Ac.nd jb)
   (fb (wb (i:=5) Ac.nd (qb g52 hr T.wt T.fj.kp T.cu (ab (pv 2) ib)))
   (fb (wb (i:=6) Ac.nd (Kb ac (qb g26 hr T.Pi T.Ff.kp T.Ti (ab (pv 2) (ab (pv 4) (ab (pv 3) ib)))) jb))
   (fb (wb (i:=7) Ac.nd (Kb ac (qb g26 hr T.Pi T.Ff.kp T.Ti (ab (pv 2) (ab (pv 5) (ab (pv 3) ib)))) jb))
   (fb (Dy PassesOwn.never (Qb yo (Ib ij (pv 5) (pv 4)) jb (cc _)) (fb (wb (i:=8) Ac.nd (Ib jJ (Ib Zb (pv 4) (pv 5)) jb))
   (fb (Hr (qb g26 hr T.Pi T.Ff.kp T.Ti (ab (pv 2) (ab (pv 8) (ab (pv 3) ib)))) (lf (K:=K) (n:=2) rfl rfl (gc (Eb (i:=9) Ac.nd) (gc (Eb (i:=10) Ac.nd) jf))))
   (lb (jd (Qb sI (pv 9) Jh (cc _)) (fb (wb (i:=4) Ac.nd (pv 8))
   (lb (wb (i:=6) Ac.nd (pv 10)))) (fb (wb (i:=5) Ac.nd (pv 8))
   (lb (wb (i:=7) Ac.nd (pv 9)))))))))
   (lb (Gb (Ec (ab (pv 5) (ab (pv 7) (ab (pv 6) ib))))))))))))),?_⟩
 refine zS (fun σ' H'=>∃ x,Tb H H'∧NoT H'∧Xc P w t H' x n ws∧σ'=[some (.ref c),some (.ref wl),some (.ref x),none,none,none,none,none,none,none,none]) (fun D' hD=>?_) fun zzM zzh=>?_
 ·walk_at "RD";intro x dx hx hdx hne;have s1:Tb H (upd (upd H dx (.own x)) x (.ins t.Vb dx [])):=(db hdx).trans (db (by rw [Db (Ne.symm hne)];exact hx));refine ⟨x,dx,c,wl,n,ds,ws,rfl,gb,C.same s1,hn,Jq W s1,hds,hlen,hb,(nt.upd).upd,fun H2 sx2 nt2 WA=>⟨rfl,?_⟩⟩;exact hD _ _ ⟨x,fun b u e=>sx2 b u (Jb e hx) (s1 _ _ e),nt2,WA,rfl⟩
 rintro σ1 H1 ⟨x,s1,n1,W1,rfl⟩;subst zzh;refine zS (fun σ' H'=>∃ rl k,Tb H1 H'∧NoT H'∧lev (Ob n ws) k=[]∧k ≤ 6∧Dx H' rl (Xg (Ob n ws) k)∧σ'=[some (.ref c),some (.ref wl),some (.ref x),some (.ref rl),none,none,none,none,none,none,none]) (fun D' hD=>?_) fun zzM zzh=>?_
 ·walk_at "RD";exact ⟨x,n,ws,rfl,W1,wk,n1,fun r H' k s2 n2 hk0 hk6 L=>hD _ _ ⟨r,k,s2,n2,hk0,hk6,L,rfl⟩⟩
 rintro σ2 H2 ⟨rl,k,s2,n2,hk0,hk6,R,rfl⟩;have W2:=W1.same s2;subst zzh;simp only [xb];walk_at "RD";refine ⟨x,n,ws,rfl,W2,wk,n2,fun hi bh H3 s3 n3 Dh hhi=>?_⟩;have W3:=W2.same s3;have R3:=R.same s3;have h1:1 ≤ hi:=by
  have:=Dh.1 0 h0;have:=wk.ok.a1 (i:=0) h0;omega
 refine ⟨x,0,rl,k,n,ws,rfl,W3,R3,hk0,hk6,wk,n3,fun r4 bv pv H4 s4 n4 e4 SP=>?_⟩;rcases SP with ⟨b,pb,_,_,_,_,_,hb3⟩ | ⟨p0,pa0,rfl,rfl,hp1,hp2,hp3⟩
 ·have g1:=hb3.1 0 h0;have g2:=wk.ok.a1 (i:=0) h0;omega
 refine ⟨r4,rfl,_,SqT.of e4,_,Cb (j:=1) rfl,?_⟩;refine ⟨x,hi,rl,k,n,ws,rfl,W3.same s4,R3.same s4,hk0,hk6,wk,n4,fun r5 bv pv H5 s5 n5 e5 SP=>?_⟩;rcases SP with ⟨b0,pb0,rfl,rfl,hb0,hb1,hb2,hb3⟩ | ⟨p1,pa1,_,_,_,g2,_⟩
 case inr=>exact absurd Dh (lC wk.ok (dF (by omega)) g2 (by omega) (Int.le_refl _))
 refine ⟨r5,rfl,_,SqT.of e5,_,Cb (j:=0) rfl,?_⟩;have s35:=s4.trans s5;have s03:=s1.trans (s2.trans s3);refine ⟨ShI n ws H H3 c wl x rl,⟨_,0,hi,pa0,pb0,p0,b0,_,_,_,rfl,Int.le_refl _,by omega,hhi,s35,n5,(s03.trans s4).free hb0,hb1,hb2,hb3,hp1.same s5,hp2,hp3,rfl⟩,?_⟩;rintro j σ H6 zzq;refine zP fun zzM zzh=>?_
 obtain ⟨lo,hi',pa,pb,p,b,y1,y2,y3,rfl,hlo,hlt,hh,s6,n6,c1,c2,c3,c4,c5,c6,c7,rfl⟩:=zzq;have s06:=s03.trans s6;subst zzh;walk_at "RD";by_cases hw:1 < hi' - lo
 ·rw [if_pos (decide_eq_true hw)];have d1:=Int.ediv_mul_le (lo + hi') (show (2:Int) ≠ 0 by decide);have d2:=Int.lt_ediv_add_one_mul_self (lo + hi') (show (0:Int) < 2 by decide);generalize hsz:(lo + hi') / 2=sz at d1 d2 ⊢;have hs1:lo < sz:=by omega
  have hs2:sz < hi':=by omega
  refine ⟨fun σ' H'=>∃ m',m' < (hi' - lo).toNat∧ShI n ws H H3 c wl x rl m' σ' H',fun σ' H' g=>g,?_⟩;walk_at "RD";refine ⟨by unfold yO;omega,x,sz,rl,k,n,ws,rfl,W3.same s6,R3.same s6,hk0,hk6,wk,n6,fun r7 bv pv H7 s7 n7 e7 SP=>⟨r7,rfl,_,SqT.of e7,rfl,_,_,rfl,_,_,rfl,rfl,?_⟩⟩;have s37:=s6.trans s7;rcases SP with ⟨b7,pb7,rfl,rfl,f0,f1,f2,f3⟩ | ⟨p7,pa7,rfl,rfl,f1,f2,f3⟩
  ·refine Mb false (fun Q hQ=>?_) (fun z=>nomatch z) (fun _=>?_)
   ·walk_at "RD";exact hQ
   ·walk_at "RD";exact ⟨(sz - lo).toNat,by omega,lo,sz,pa,pb7,p,b7,_,_,_,rfl,hlo,hs1,by omega,s37,n7,s06.free f0,f1,f2,f3,c5.same s7,c6,c7,rfl⟩
  ·refine Mb true (fun Q hQ=>?_) (fun _=>?_) (fun z=>nomatch z)
   ·walk_at "RD";exact hQ
   ·walk_at "RD";exact ⟨(hi' - sz).toNat,by omega,sz,hi',pa7,pb,p7,b,_,_,_,rfl,by omega,hs2,hh,s37,n7,c1,s7 _ _ c2,c3,c4,f1,f2,f3,rfl⟩
 ·rw [if_neg (by simpa using hw)];walk_at "RD";refine ⟨by decide,fun r hr=>q r hi' pb pa b p _ (s06.trans (db hr)) n6.upd gb ⟨by omega,hh,c1,db hr _ _ c2,c3,c4,c5.same (db hr),?_,c7⟩⟩;rw [show hi' - 1=lo by omega];exact c6
end
end My
namespace My
open PySem L2
noncomputable def Il:Pap→Prop
 | .alone _=>True
 | .ring r=>r.length ≤ 12
 | .case _ _ p q=>Il p∧Il q
section
variable (P:Program) (w:World)
noncomputable def gO (t:Adr) (d:Nat) (vs:List V) (H:Hp) (z:Int) (n:Int) (ws:List (WD × Int)) (o:Od) (p:Pap):Prop:=∃ wp a pa,vs=[.ref wp,.int z,.ref a,.ref pa]∧Xc P w t H wp n ws∧Oj P w H a o∧jA (Ob n ws) o∧tw n ws∧gj H p pa∧Yh ws.length d p∧Il p∧NoT H
noncomputable def xG (t:Adr) (d:Nat):Sp:=fun vs H Q _=>∃ z n ws o p,gO P w t d vs H z n ws o p∧∀ H',Tb H H'→NoT H'→Q (.bl (Qd (Ob n ws) z o p)) H'
noncomputable def XL (t:Adr):Nat→Sp
 | 0=>fun _ _ _ _=>False
 | d + 1=>xG P w t d
noncomputable def wL (t:Adr) (d:Nat):Sp:=fun vs H Q _=>∃ z n ws o i j p1 p2,gO P w t d vs H z n ws o (.case i j p1 p2)∧∀ H',Tb H H'→NoT H'→Q (.bl (Qd (Ob n ws) z o (.case i j p1 p2))) H'
noncomputable def Uz (t:Adr):Sp:=fun vs H Q _=>∃ c wl z pa n ds ws p d,vs=[.ref c,.ref wl,.int z,.ref pa]∧Ze t H c n ds∧0 < n∧mo H wl ws∧(∀ q ∈ ws,∃ i:Nat,ds[i]? = some q.1)∧tw n ws∧gj H p pa∧Yh ws.length d p∧d ≤ 10∧Il p∧NoT H∧∀ H',Tb H H'→NoT H'→Q (.bl (Qd (Ob n ws) z (ar (Ob n ws)) p)) H'
end
section
variable {P:Program} {w:World} {K:PySem.W.Frag} {mg:Str→Option Value} {base:Heap} {t:Adr}
theorem jC (T:Txt w K mg t) (d:Nat) (g18:Rb P w K mg base CX0 (2 * d + 2) t.Re t.Qe q10 (XL P w t d)):Rb P w K mg base CX0 (2 * d + 3) t.Hh t.Gh q10 (wL P w t d):=by
 refine T.Xj.ok Um (fun vs H Q E h=>?_) (fun _ _ _ s H vs Q E hr h=>?_)
 ·obtain ⟨z,n,ws,o,i,j,p1,p2,⟨wp,a,pa,rfl,_⟩,_⟩:=h;rfl
 obtain ⟨z,n,ws,o,i,j,p1,p2,⟨wp,a,pa,rfl,W,O,od,wk,⟨b,c,h1,h2,h3⟩,hF,hS,nt⟩,q⟩:=h;obtain ⟨dx,al,sd,e1,e2,D⟩:=id W;have hu:=qk hr;have hm:(Ob n ws).m ≤ 6:=wk.2.1;have g14:Rb P w K mg base CX0 (2 * d + 2) t.kd t.ld q8 (my P w):=(uD T).mono (by omega);have g15:Rb P w K mg base CX0 (2 * d + 2) t.dg t.eg q8 (OC P w (Ob n ws)):=(lI T _).mono (by omega);obtain ⟨d',rfl⟩:∃ d',d=d' + 1:=by
  cases d with
  | zero=>exact hF.elim
  | succ d=>exact ⟨d,rfl⟩
 obtain ⟨f1,f2,f3,f4⟩:=hF;refine ⟨_,(fb (vM (i:=4) (j:=5) rfl Um.nd rfl rfl (by decide) rfl rfl (ab (Kb ac (pv 3) jb) (ab (Kb ac (pv 3) jb) ib)) rfl)
   (fb (jd (PW.pt (bE (Wr (JE hu (Ec (ab (pv 4) (ab (pv 5) ib))) (fc (pv 0) rfl))) (uv (ol (qb g14 hr T.dh T.De.kp T.Ug (ab (pv 2) (ab (pv 4) (ab (pv 5) ib)))))))) (lb (Gb Qj)) Sb)
   (fb (jd (Mq (ol (qb g18 hr T.Ri T.Ke.kp T.Vi (ab (pv 0) (ab (pv 1) (ab (qb g15 hr T.Bh T.qf.kp T.nh (ab (pv 2) (ab (pv 4) (ab (pv 5) ib)))) (ab (Kb ac (pv 3) jb) ib))))))) (lb (Gb Qj)) Sb)
   (lb (Gb (qb g18 hr T.Ri T.Ke.kp T.Vi (ab (pv 0) (ab (pv 1) (ab (qb g15 hr T.Bh T.qf.kp T.nh (ab (pv 2) (ab (pv 5) (ab (pv 4) ib)))) (ab (Kb ac (pv 3) jb) ib)))))))))),?_⟩
 refine zS (fun σ' H'=>Tb H H'∧NoT H'∧σ'=[some (.ref wp),some (.int z),some (.ref a),some (.ref pa),some (.int (i:Int)),some (.int (j:Int))]) (fun D' hD=>?_) fun zzM zzh=>?_
 ·walk_at "RD";exact ⟨_,SqT.of h1,_,Cb (j:=1) rfl,_,SqT.of h1,_,Cb (j:=2) rfl,hD _ _ ⟨Tb.refl _,nt,rfl⟩⟩
 rintro σ1 H1 ⟨s1,n1,rfl⟩;have hBv:Qd (Ob n ws) z o (.case i j p1 p2)=((Ob n ws).e i j && !inO o i j && Qd (Ob n ws) z (o ++ [(i,j)]) p1 && Qd (Ob n ws) z (o ++ [(j,i)]) p2):=rfl;subst zzh;simp only [xb];refine Ih (fun b H'=>Tb H H'∧NoT H'∧b = !((Ob n ws).e i j && !inO o i j)) (fun Q hQ=>?_) (fun H2 zz=>?_) (fun H2 zz=>?_)
 ·walk_at "RD";refine ⟨by decide,fun p hp=>⟨_,vd T ((s1.trans (db hp)) _ _ e1),sd,rfl,_,Pb D (s1.trans (db hp)),Ve i j,gb,?_⟩⟩;rw [Yt];have sp:=s1.trans (db (o:=.tup [V.int (i:Int),V.int (j:Int)]) hp);cases he:(Ob n ws).e i j with
  | true=>
   rw [if_neg (by simp)];refine ⟨a,i,j,o,rfl,Pb O sp,n1.upd,_,rfl,hQ _ _ ⟨sp,n1.upd,?_⟩⟩;rw [he,Bool.true_and,Bool.not_not]
  | false=>
   rw [if_pos (by simp)];exact hQ _ _ ⟨sp,n1.upd,by rw [he];rfl⟩
 ·obtain ⟨s2,n2,zb⟩:=zz;have hb:((Ob n ws).e i j && !inO o i j)=false:=by rw [← Bool.not_not ((Ob n ws).e i j && _),← zb];rfl
  walk_at "RD";have:=q H2 s2 n2;rw [hBv,hb] at this;exact this
 obtain ⟨s2,n2,zb⟩:=zz;have hb:((Ob n ws).e i j && !inO o i j)=true:=by rw [← Bool.not_not ((Ob n ws).e i j && _),← zb];rfl
 have hb':=hb;rw [Bool.and_eq_true,Bool.not_eq_true'] at hb';obtain ⟨g1,g2⟩:=hb';have g2':=g2;unfold inO at g2';rw [Bool.or_eq_false_iff,decide_eq_false_iff_not,decide_eq_false_iff_not] at g2';rw [hBv,hb,Bool.true_and] at q;simp only [bc,xb];refine Ih (fun b H'=>Tb H H'∧NoT H'∧b = !Qd (Ob n ws) z (o ++ [(i,j)]) p1) (fun Q hQ=>?_) (fun H3 zz=>?_) (fun H3 zz=>?_)
 ·walk_at "RD";refine ⟨a,i,j,o,rfl,Pb O s2,od,wk.ok,hm,g2'.1,n2,fun r3 H3 s3 n3 O3=>?_⟩;have s23:=s2.trans s3;exact ⟨_,SqT.of (s23 _ _ h1),_,Cb (j:=3) rfl,z,n,ws,o ++ [(i,j)],p1,⟨wp,r3,b,rfl,W.same s23,O3,od.put wk.ok g1 g2,wk,h2.same s23,f3,hS.1,n3⟩,fun H' s' n'=>⟨_,rfl,hQ _ _ ⟨s23.trans s',n',rfl⟩⟩⟩
 ·obtain ⟨s3,n3,zb3⟩:=zz;have hb3:Qd (Ob n ws) z (o ++ [(i,j)]) p1=false:=by rw [← Bool.not_not (Qd _ _ _ _),← zb3];rfl
  walk_at "RD";have:=q H3 s3 n3;rw [hb3] at this;exact this
 obtain ⟨s3,n3,zb3⟩:=zz;have hb3:Qd (Ob n ws) z (o ++ [(i,j)]) p1=true:=by rw [← Bool.not_not (Qd _ _ _ _),← zb3];rfl
 rw [hb3,Bool.true_and] at q;simp only [bc];walk_at "RD";refine ⟨a,j,i,o,rfl,Pb O s3,od,wk.ok,hm,g2'.2,n3,fun r4 H4 s4 n4 O4=>?_⟩;have s34:=s3.trans s4;exact ⟨_,SqT.of (s34 _ _ h1),_,Cb (j:=4) rfl,z,n,ws,o ++ [(j,i)],p2,⟨wp,r4,c,rfl,W.same s34,O4,od.put wk.ok (wk.ok.sy g1) (by rw [Jo];exact g2),wk,h3.same s34,f4,hS.2,n4⟩,fun H' s' n'=>q _ (s34.trans s') n'⟩
theorem DF (T:Txt w K mg t) (d:Nat) (g53:Rb P w K mg base CX0 (2 * d + 3) t.Hh t.Gh q10 (wL P w t d)):Rb P w K mg base CX0 (2 * d + 4) t.Re t.Qe q10 (xG P w t d):=by
 have g24:Rb P w K mg base CX0 (2 * d + 3) t.uf t.tf q18 (iK P w t):=(mM T).mono (by omega);refine T.Ke.ok Bl (fun vs H Q E h=>?_) (fun _ _ _ s H vs Q E hr h=>?_)
 ·obtain ⟨z,n,ws,o,p,⟨wp,a,pa,rfl,_⟩,_⟩:=h;rfl
 obtain ⟨z,n,ws,o,p,⟨wp,a,pa,rfl,W,O,od,wk,hP,hF,hS,nt⟩,q⟩:=h;obtain ⟨dx,al,sd,e1,e2,D⟩:=id W;refine ⟨_,(fb (jd (Qb gg (Kb ac (pv 3) jb) xc (cc _)) (lb (Gb (Sf yo (Kb Ye (fc (pv 0) rfl) (Kb ac (pv 3) jb)) (pv 1) (cc _)))) Sb)
   (fb (jd (Qb gg (Kb ac (pv 3) jb) xc (cc _)) (lb (Gb (qb g24 hr T.Wn T.Eh.kp T.Qn (ab (pv 0) (ab (pv 1) (ab (pv 2) (ab (Kb ac (pv 3) jb) ib))))))) Sb)
   (lb (Gb (qb g53 hr T.nv T.Xj.kp T.lv (ab (pv 0) (ab (pv 1) (ab (pv 2) (ab (pv 3) ib))))))))),?_⟩
 simp only [xb];cases p with
 | alone k=>
  have hk:k < ws.length:=by cases d <;> exact hF
  have hwk:ws[k]? = some ws[k]:=List.getElem?_eq_getElem hk;refine Mb true (fun Q hQ=>?_) (fun _=>?_) (fun z=>nomatch z)
  ·walk_at "RD";exact ⟨_,SqT.of hP,_,Cb (j:=0) rfl,rfl,by rw [decide_eq_true rfl];exact hQ⟩
  ·walk_at "RD";refine ⟨_,Wi T e1,_,SqT.of hP,_,Cb (j:=1) rfl,_,rfl,_,_,rfl,SqL.of e2,_,Cb (by rw [List.getElem?_map,hwk];rfl),_,rfl,?_⟩;have:=q _ (Tb.refl _) nt;rw [show Qd (Ob n ws) z o (.alone k)=decide (z < Oc ws[k]) by show decide (z < (Ob n ws).al k)=_;rw [FA hwk]] at this;exact this
 | ring r=>
  obtain ⟨b,h1,h2⟩:=hP;refine Mb false (fun Q hQ=>?_) (fun z=>nomatch z) (fun _=>?_)
  ·walk_at "RD";exact ⟨_,SqT.of h1,_,Cb (j:=0) rfl,rfl,by rw [show decide (V.str (Str.ofString "ring")=V.str (Str.ofString "alone"))=false by decide +kernel];exact hQ⟩
  simp only [bc,xb];refine Mb true (fun Q hQ=>?_) (fun _=>?_) (fun z=>nomatch z)
  ·walk_at "RD";exact ⟨_,SqT.of h1,_,Cb (j:=0) rfl,rfl,by rw [decide_eq_true rfl];exact hQ⟩
  ·walk_at "RD";exact ⟨_,SqT.of h1,_,Cb (j:=1) rfl,wp,z,a,b,o,r,n,ws,rfl,W,O,h2,hS,od,wk,nt,q _ (Tb.refl _) nt⟩
 | case i j p1 p2=>
  obtain ⟨b,c,h1,h2,h3⟩:=id hP;refine Mb false (fun Q hQ=>?_) (fun z=>nomatch z) (fun _=>?_)
  ·walk_at "RD";exact ⟨_,SqT.of h1,_,Cb (j:=0) rfl,rfl,by rw [show decide (V.str (Str.ofString "case")=V.str (Str.ofString "alone"))=false by decide +kernel];exact hQ⟩
  simp only [bc,xb];refine Mb false (fun Q hQ=>?_) (fun z=>nomatch z) (fun _=>?_)
  ·walk_at "RD";exact ⟨_,SqT.of h1,_,Cb (j:=0) rfl,rfl,by rw [show decide (V.str (Str.ofString "case")=V.str (Str.ofString "ring"))=false by decide +kernel];exact hQ⟩
  simp only [bc];walk_at "RD";exact ⟨z,n,ws,o,i,j,p1,p2,⟨wp,a,pa,rfl,W,O,od,wk,hP,hF,hS,nt⟩,q⟩
theorem JL (T:Txt w K mg t):∀ d,Rb P w K mg base CX0 (2 * d + 4) t.Re t.Qe q10 (xG P w t d)
 | 0=>DF T 0 (jC T 0 (T.Ke.ok Bl (fun vs H Q E h=>h.elim) (fun cdv A outer s H vs Q E hr h=>h.elim)))
 | d + 1=>DF T (d + 1) (jC T (d + 1) (JL T d))
theorem ZG (T:Txt w K mg t):Rb P w K mg base CX0 25 t.uu t.nu q32 (Uz t):=by
 have g13:Rb P w K mg base CX0 23 t.Wd t.Oe q22 (Oo P w t):=(Zt T).mono (by decide);have g25:Rb P w K mg base CX0 24 t.ke t.ae ["wanted"] (bC P w t):=(ZI T).mono (by decide);have g18:Rb P w K mg base CX0 24 t.Re t.Qe q10 (fun vs H Q E=>∃ n,n ≤ 10∧xG P w t n vs H Q E):=Qt fun n hn=>(JL T n).mono (by omega)
 refine T.Aw.ok Kz (fun vs H Q E h=>?_) (fun _ _ _ s H vs Q E hr h=>?_)
 ·obtain ⟨c,wl,z,pa,n,ds,ws,p,d,rfl,_⟩:=h;rfl
 obtain ⟨c,wl,z,pa,n,ds,ws,p,d,rfl,C,hn,W,hds,wk,hP,hF,hd,hS,nt,q⟩:=h;have hlen:ws.length ≤ 20:=by have:=wk.2.1;omega
 have hb:∀ q ∈ ws,0 ≤ q.2∧q.2 ≤ 100000:=fun q hq=>by have:=wk.1 q hq;omega
 refine ⟨_,(fb (wb (i:=4) Kz.nd (fk T.iu g13 hr rfl T.bu T.Oi .nil fe (ab (pv 0) (ab (pv 1) ib))))
   (lb (Gb (qb g18 hr T.Ri T.Ke.kp T.Vi (ab (pv 4) (ab (pv 2) (ab (qb g25 hr T.Aj T.df.kp T.tj (ab (pv 4) ib)) (ab (pv 3) ib)))))))),?_⟩
 refine zS (fun σ' H'=>∃ x,Tb H H'∧NoT H'∧Xc P w t H' x n ws∧σ'=[some (.ref c),some (.ref wl),some (.int z),some (.ref pa),some (.ref x)]) (fun D' hD=>?_) fun zzM zzh=>?_
 ·walk_at "RD";intro x dx hx hdx hne;have s1:Tb H (upd (upd H dx (.own x)) x (.ins t.Vb dx [])):=(db hdx).trans (db (by rw [Db (Ne.symm hne)];exact hx));refine ⟨x,dx,c,wl,n,ds,ws,rfl,gb,C.same s1,hn,Jq W s1,hds,hlen,hb,(nt.upd).upd,fun H2 sx2 nt2 WA=>⟨rfl,?_⟩⟩;exact hD _ _ ⟨x,fun b u e=>sx2 b u (Jb e hx) (s1 _ _ e),nt2,WA,rfl⟩
 rintro σ1 H1 ⟨x,s1,n1,W1,rfl⟩;subst zzh;walk_at "RD";exact ⟨x,n,ws,rfl,W1,wk,n1,fun r H2 s2 n2 O2=>⟨d,hd,z,n,ws,ar (Ob n ws),p,⟨x,r,pa,rfl,W1.same s2,O2,pE,wk,hP.same (s1.trans s2),hF,hS,n2⟩,fun H' s' n'=>q _ ((s1.trans s2).trans s') n'⟩⟩
end
end My
namespace My
open PySem L2
section
open PySem.Spec PyProof.Rows
variable {X:Cx}
end
section
open PySem.Spec PyProof.Rows PyProof HT
variable {prog:Program} {w:World} {A:Around} {E:Value→Shared→Prop} {s:Shared}
theorem jx (n:Nat):Builtin.Slice.sliceAdjust none none (-1) (n:Int)=((n:Int) - 1,-1):=by
 unfold Builtin.Slice.sliceAdjust;simp
theorem Ew (n:Nat):Builtin.Slice.slicePlaces ((n:Int) - 1) (-1) (-1)=n:=by
 unfold Builtin.Slice.slicePlaces;rw [if_neg (by decide)];split
 ·rw [show (- -1:Int)=1 by decide,Int.ediv_one];omega
 ·omega
theorem lE {sl:Addr} {n:Nat} {tk:Tok} {Q:Int × Int × Nat→Shared→Prop} (hs:s.heap.IsSliceOf sl .none .none (.int (-1) tk)) (h:Q ((n:Int) - 1,-1,n) s):wpAny (model prog w) A (Builtin.Slice.sliceApplied (.ref sl) (pure (n:Int))) Q E s:=by
 obtain ⟨os,hos,hcs,hds⟩:=id hs;unfold Builtin.Slice.sliceApplied Builtin.Slice.sliceFields;refine wpAny_bind (wpAny_bind (wpAny_field hos hds (x:=.none) rfl (wpAny_bind (wpAny_field hos hds (x:=.none) rfl (wpAny_bind (wpAny_field hos hds (x:=.int (-1) tk) rfl (wpAny_pure ?_)))))));refine wpAny_bind (slicePart_int ?_);show wpAny _ _ (if ((-1:Int) == 0)=true then _ else _) _ _ s;rw [if_neg (by decide)];refine wpAny_bind (slicePart_none (wpAny_bind (slicePart_none (wpAny_bind (wpAny_pure ?_)))));show wpAny _ _ (match Builtin.Slice.sliceAdjust none none (-1) (n:Int) with | (lo,hi)=>pure (lo,(-1:Int),Builtin.Slice.slicePlaces lo hi (-1))) _ _ s;rw [jx n];show wpAny _ _ (pure ((n:Int) - 1,(-1:Int),Builtin.Slice.slicePlaces ((n:Int) - 1) (-1) (-1))) _ _ s;rw [Ew];exact wpAny_pure h
theorem QI {α β:Type} {f:α→Option β} {g:α→β}:∀ {l:List α},(∀ x ∈ l,f x=some (g x))→l.filterMap f=l.map g
 | [],_=>rfl
 | x :: l,h=>by rw [List.filterMap_cons,h x (List.mem_cons_self ..),List.map_cons,QI fun y hy=>h y (List.mem_cons_of_mem _ hy)]
theorem CD (xs:Array Value):((List.range xs.size).filterMap fun (m:Nat)=>xs[(((xs.size:Int) - 1) + (m:Int) * (-1)).toNat]?).toArray=xs.toList.reverse.toArray:=by
 congr 1;refine List.ext_getElem? fun i=>?_
 have e:(List.range xs.size).filterMap (fun (m:Nat)=>xs[(((xs.size:Int) - 1) + (m:Int) * (-1)).toNat]?)=(List.range xs.size).map (fun m=>xs.toList.reverse.getD m .none):=by
  refine QI fun m hm=>?_
  have hm':=List.mem_range.mp hm;rw [show (((xs.size:Int) - 1) + (m:Int) * (-1)).toNat=xs.size - 1 - m by omega];have hl:xs.size - 1 - m < xs.size:=by omega
  rw [Array.getElem?_eq_getElem hl,List.getD_eq_getElem?_getD,List.getElem?_reverse (by rw [Array.length_toList];exact hm'),Array.length_toList,Array.getElem?_toList,Array.getElem?_eq_getElem hl];rfl
 rw [e,List.getElem?_map];by_cases hi:i < xs.size
 ·rw [List.getElem?_range hi];show some (xs.toList.reverse.getD i .none)=_;rw [List.getD_eq_getElem?_getD,List.getElem?_eq_getElem (by rw [List.length_reverse,Array.length_toList];exact hi)];rfl
 ·rw [List.getElem?_eq_none (by rw [List.length_range];omega),List.getElem?_eq_none (by rw [List.length_reverse,Array.length_toList];omega)];rfl
theorem Nv {t sl:Addr} {items:Array Value} {tk:Tok} {Q:Value→Shared→Prop} (ht:IsTup s.heap t items) (hs:s.heap.IsSliceOf sl .none .none (.int (-1) tk))
  (h:Q (.ref s.heap.objs.size) { s with heap:=s.heap.push { cls:=.type "tuple",data:=.seq items.toList.reverse.toArray } })
  (hsz:items.size ≤ sizeLine):wpAny (model prog w) A (getItem (.ref t) (.ref sl)) Q E s:=by
 have htake:sizeOk (.seq items.toList.reverse.toArray):=by
  show items.toList.reverse.toArray.size ≤ sizeLine;rw [List.size_toArray,List.length_reverse,Array.length_toList];exact hsz
 obtain ⟨os,hos,hcs,hds⟩:=id hs;have hTs:s.TypeIs (.ref sl) "slice" := ⟨os,hos,hcs⟩;unfold getItem
 try with_reducible refine wpAny_holding ?_
 first | refine wpAny_bind (wpAny_pure ?_) | skip
 refine wpAny_bind (wpAny_sequenceKey ht.typeIs (by decide) ?_);refine wpAny_bind (wpAny_callSpecial?_slot (name:=Str.ofString "__getitem__") ht.typeIs PyProof.Rows.slot_tuple_getitem
  (wpAny_call_entry PyProof.Rows.slot_tuple_getitem ht.typeIs entry_tuple_getitem ?_ (args_tuple_getitem _ _)))
 show wpAny _ _ (Builtin.Tuple.tupleItemsOf (.ref t) >>= _) _ _ s;refine wpAny_bind (tupleItemsOf_ ht ?_);refine wpAny_bind (wpAny_typeOf hTs ?_);rw [if_pos (by decide)];refine wpAny_bind (lE hs ?_);have hno:¬ ((((items.size:Int) - 1) == 0 && (-1:Int) == 1 && items.size == items.size)=true):=by
  intro q;rw [Bool.and_eq_true,Bool.and_eq_true] at q;exact absurd q.1.2 (by decide)
 show wpAny _ _ (if (((items.size:Int) - 1) == 0 && (-1:Int) == 1 && items.size == items.size)=true then _ else _) _ _ s;rw [if_neg hno,CD]
 first
  | exact wpAny_bind (m:=Builtin.Tuple.tupleExact _) (wpAny_newObj_type (wpAny_pure ⟨_,rfl,wpAny_pure h⟩) htake)
  | exact wpAny_bind (m:=Builtin.Tuple.tupleExact _) (wpAny_newObj_type (wpAny_bind (wpAny_pure (wpAny_pure ⟨_,rfl,wpAny_pure h⟩))) htake)
  | exact wpAny_bind (wpAny_bind (m:=Builtin.Tuple.tupleExact _) (wpAny_newObj_type (wpAny_pure (wpAny_pure ⟨_,rfl,wpAny_pure h⟩)) htake))
  | exact wpAny_bind (wpAny_bind (m:=Builtin.Tuple.tupleExact _) (wpAny_newObj_type (wpAny_pure ⟨_,rfl,wpAny_pure h⟩) htake))
end
section
open PySem.Spec PyProof.Rows
variable {X:Cx} {e:Expr} {te:TE} {st:Expr} {ts:TE} {pos p2:Pos}
theorem Fy:∀ {xs:List V} {us:List Value},md xs us→md xs.reverse us.reverse
 | [],_,.nil=>.nil
 | x :: xs,_,.cons r t=>by
  rw [List.reverse_cons,List.reverse_cons];exact (Fy t).append (.cons r .nil)
noncomputable def ML (K:PySem.W.Frag) (te ts:TE):TE:=fun σ H Q=>te σ H fun x H1=>ts σ H1 fun y H2=>∃ a xs,x=.ref a∧y=.int (-1)∧SqT K H2 a xs∧∀ p,H2 p=none→Q (.ref p) (upd H2 p (.tup xs.reverse))
theorem RJ (he:PE X e te) (hst:PE X st ts):PE X (.Subscript e (.Slice none none (some st) p2) pos) (ML X.K te ts):=by
 intro pins s σ H Q I h;refine Subscript_ (thn (he pins s σ H _ I h) fun v s1 ⟨x,H1,I1,r1,q1⟩=>?_);refine wpAny_Slice ?_;rw [evalPart_none];refine wpAny_pure (wpAny_pure ?_);rw [evalPart_some];refine thn (hst pins s1 σ H1 _ I1 q1) fun u s2 ⟨y,H2,I2,r2,a,xs,ex,ey,hx,q2⟩=>?_
 subst ex ey;obtain ⟨tk,rfl⟩:=r2;cases (show v=Value.ref a from r1);have I4:Inv X pins σ H2 { s2 with heap:=s2.heap.push { cls:=.type "slice",data:=.fields #[.none,.none,.int (-1) tk] } }:=I2.kept (t':=s2.toks) fun b ob q=>Heap.get?_push_of_some _ q
 obtain ⟨its,r,ht,hz⟩:=I4.tuple hx;have hlen:its.toArray.size=xs.length:=by rw [List.size_toArray];exact r.length.symm
 show wpAny (model X.prog X.w) X.A (subscriptTail e (.Slice none none (some st) p2) (.ref a) (.ref s2.heap.objs.size)) (EP X pins σ Q) X.xe { s2 with heap:=s2.heap.push { cls:=.type "slice",data:=.fields #[.none,.none,.int (-1) tk] } };refine tail_any (ops:=_) ht.typeIs PyProof.Rows.slot_tuple_getitem.lookup (Nv ht (Heap.IsSliceOf.new ..) ?_ (by rw [hlen];exact hz)) (by with_unfolding_all rfl);refine ⟨.ref _,_,I4.laid (t':=s2.toks) (o:=.tup xs.reverse) (fun b ob q=>Heap.get?_push_of_some _ q) (Nat.le_refl _) ?_,rfl,q2 _ (I4.hok.fresh (Nat.le_refl _))⟩;exact ⟨⟨by rw [List.length_reverse];exact hz,_,Heap.get?_push_size _ rfl,rfl⟩,_,Fy r,IsTup.new _ _⟩
end
section
open PySem.Spec PyProof.Rows
variable {X:Cx}
theorem nD:OpR X (compareOp .IsNot) (fun x y H Q=>∃ a b,x=.bl a∧y=.bl b∧Q (.bl (a != b)) H):=by
 intro pins s σ H x y v u Q I rx ry h;obtain ⟨a,b,rfl,rfl,q⟩:=h;cases (show v=Value.bool a from rx);cases (show u=Value.bool b from ry);cases a <;> cases b <;> (unfold compareOp;first | exact wpAny_pure (Mc I q rfl) | (wp_walk;exact Mc I q rfl) | (simp;exact wpAny_pure (Mc I q rfl)))
end
end My
namespace My
open PySem L2
noncomputable def pz (K:PySem.W.Frag) (a:Addr) (ns:List Int) (d:Nat):Sp:=fun vs H Q _=>∃ k m:Nat,vs=[.ref a,.int (k:Int),.int (m:Int),.int (d:Int)]∧(k + 2) * 2 ^ d ≤ 2000∧(1 ≤ m∧m ≤ 6)∧Sc K a ns H∧∀ r p H',Tb H H'→Sc K a ns H'→gj H' p r→Yh m d p→Il p→Q (.ref r) H'
noncomputable def lJ (K:PySem.W.Frag) (a:Addr) (ns:List Int):Nat→Sp
 | 0=>fun _ _ _ _=>False
 | d + 1=>pz K a ns d
theorem Nm {m d:Nat} {r:List Nat} (h:∀ k ∈ r,k < m):Yh m d (.ring r):=by cases d <;> exact h
theorem ot {m d k:Nat} (h:k < m):Yh m d (.alone k):=by cases d <;> exact h
section
variable {P:Program} {w:World} {K:PySem.W.Frag} {mg:Str→Option Value} {base:Heap} {t:Adr}
theorem Gy (T:Txt w K mg t) (a:Addr) (ns:List Int) (h63:ns.length ≤ 63) (d:Nat) (g16:Rb P w K mg base CX0 (d + 2) t.vf t.mf q20 (lJ K a ns d)):Rb P w K mg base CX0 (d + 3) t.vf t.mf q20 (pz K a ns d):=by
 have g0:Rb P w K mg base CX0 (d + 2) t.Hd t.Gd q11 (Jc K a ns):=(Wl T a ns h63).mono (by omega);refine T.Ee.ok Zc (fun vs H Q E h=>?_) (fun _ _ _ s H vs Q E hr h=>?_)
 ·obtain ⟨k,m,rfl,_⟩:=h;rfl
 obtain ⟨k,m,rfl,hk,hm,S,q⟩:=h;have hk2:k ≤ 2000:=by
  have:=Nat.mul_le_mul_left (k + 2) (Nat.one_le_two_pow (n:=d));omega
 refine ⟨_,(fb (wb (i:=4) Zc.nd (qb g0 hr T.Bb T.yb.kp T.Ab (ab (pv 0) (ab (Ib Zb jb (Ib Nd jb (pv 1))) (ab jb ib)))))
   (fb (jd (PW.pt (Av (Qb yo (pv 3) jb (cc _)) (Av (Qb yo (pv 4) jb (cc _)) (At (Qb yo (pv 2) jb (cc _)))))) (fb (wb (i:=5) Zc.nd (qb g0 hr T.Bb T.yb.kp T.Ab (ab (pv 0) (ab (Ib Zb jb (Ib Nd jb (pv 1))) (ab (pv 2) ib)))))
   (fb (wb (i:=6) Zc.nd (qb g0 hr T.Bb T.yb.kp T.Ab (ab (pv 0) (ab (Ib Zb jb (Ib Nd jb (pv 1))) (ab (pv 2) ib)))))
   (fb (wb (i:=7) Zc.nd (qb g16 hr T.jh T.Ee.kp T.Fh (ab (pv 0) (ab (Ib Zb (Ib Nd jb (pv 1)) jb) (ab (pv 2) (ab (Ib ij (pv 3) jb) ib))))))
   (lb (Gb (Ec (ab xc (ab (pv 5) (ab (pv 6) (ab (pv 7) (ab (qb g16 hr T.jh T.Ee.kp T.Fh (ab (pv 0) (ab (Ib Zb (Ib Nd jb (pv 1)) jb) (ab (pv 2) (ab (Ib ij (pv 3) jb) ib))))) ib))))))))))) Sb)
   (fb (jd (Qb gg (pv 4) jb (cc _)) (lb (Gb (Ec (ab xc (ab (qb g0 hr T.Bb T.yb.kp T.Ab (ab (pv 0) (ab (Ib Zb jb (Ib Nd jb (pv 1))) (ab (pv 2) ib)))) ib))))) Sb)
   (fb (pf (i:=8) Zc.nd rfl (Or.inl rfl) rfl (Ce rfl T.Mf (ab (qb g0 hr T.Bb T.yb.kp T.Ab (ab (pv 0) (ab (Ib Zb jb (Ib Nd jb (pv 1))) (ab jb ib)))) ib)) (Dc (sc:=ub zh) rfl (by decide +kernel)) (N:=["_law_n","_law_script","_law_k","_law_many"]) (sel:=[none,some 0,some 1,some 2]) (Wc (M:=q49) (by decide +kernel)) (Blk.of (fun _ _ _ _=>(Eb (i:=0) (eh (N:=["_law_n","_law_script","_law_k","_law_many"]) (by decide +kernel) rfl))) (fun _ _ _ _=>⟨_,gf,by walk_at "B"⟩) (fun _ _ _ _=>⟨_,(qb g0 hr T.Bb T.yb.kp T.Ab (ab (pv 1) (ab (Ib Zb (Ib Zb jb (Ib Nd jb (pv 2))) (pv 0)) (ab (pv 3) ib)))),by walk_at "B"⟩)) rfl)
   (fb (jd (Qb gg (pv 4) jb (cc _)) (fb (Ox (i:=9) Zc.nd rfl (Or.inr rfl) (qb g0 hr T.Bb T.yb.kp T.Ab (ab (pv 0) (ab (Ib Zb jb (Ib Nd jb (pv 1))) (ab (pv 2) ib)))))
   (lb (pf (i:=8) Zc.nd rfl (Or.inl rfl) rfl (Ce rfl T.Mf (ab (qc (Vv rfl) rfl T.qL Mr (ab (pv 2) (ab (Ib Zb jb (qb g0 hr T.Bb T.yb.kp T.Ab (ab (pv 0) (ab (Ib Zb jb (Ib Nd jb (pv 1))) (ab jb ib))))) ib))) ib)) (Dc (sc:=ub zh) rfl (by decide +kernel)) (N:=["_law_n","_law_first","_law_many"]) (sel:=[none,some 9,some 2]) (Wc (M:=q49) (by decide +kernel)) (Blk.of (fun _ _ _ _=>(Eb (i:=0) (eh (N:=["_law_n","_law_first","_law_many"]) (by decide +kernel) rfl))) (fun _ _ _ _=>⟨_,gf,by walk_at "B"⟩) (fun _ _ _ _=>⟨_,(Ib lg (Ib Zb (pv 1) (pv 0)) (pv 2)),by walk_at "B"⟩)) rfl))) Sb)
   (lb (Gb (Ec (ab xc (ab (af Xt rfl T.ZJ Sv (ab (pv 8) ib)) ib)))))))))),?_⟩
 refine zS (fun σ' H'=>H'=H∧∃ wy:Int,σ'=[some (.ref a),some (.int (k:Int)),some (.int (m:Int)),some (.int (d:Int)),some (.int wy),none,none,none,none,none]) (fun D' hD=>?_) fun zzM zzh=>?_
 ·walk_at "RD";exact ⟨.inl (by decide),_,_,rfl,S,by omega,by decide,hD _ _ ⟨rfl,_,rfl⟩⟩
 rintro σ1 H1 ⟨rfl,wy,rfl⟩;subst zzh;simp only [xb];refine Mb (decide (0 < d) && decide (2 < wy) && decide (1 < m)) (fun Q hQ=>?_) (fun hb=>?_) (fun hb=>?_)
 ·walk_at "RD";by_cases c1:0 < d
  ·rw [if_pos (decide_eq_true (by omega))];rw [decide_eq_true c1,Bool.true_and] at hQ;by_cases c2:2 < wy
   ·rw [if_pos (decide_eq_true c2)];rw [decide_eq_true c2,Bool.true_and] at hQ;rw [show decide ((1:Int) < (m:Int))=decide (1 < m) from decide_eq_decide.mpr (by omega)];exact hQ
   ·rw [if_neg (by simpa using c2)];rw [decide_eq_false c2,Bool.false_and] at hQ;exact hQ
  ·rw [if_neg (by rw [decide_eq_true_eq];omega)];rw [decide_eq_false c1,Bool.false_and,Bool.false_and] at hQ;exact hQ
 ·simp only [Bool.and_eq_true,decide_eq_true_eq] at hb;obtain ⟨d',rfl⟩:∃ d',d=d' + 1:=⟨d - 1,by omega⟩;have hk3:(2 * k + 1 + 2) * 2 ^ d' ≤ 2000∧(2 * k + 2 + 2) * 2 ^ d' ≤ 2000:=by
   rw [Nat.pow_succ] at hk;have e1:(k + 2) * (2 ^ d' * 2)=(2 * k + 4) * 2 ^ d':=by rw [Nat.mul_comm (2 ^ d') 2,← Nat.mul_assoc];congr 1;omega
   rw [e1] at hk;exact ⟨Nat.le_trans (Nat.mul_le_mul_right _ (by omega)) hk,Nat.le_trans (Nat.mul_le_mul_right _ (by omega)) hk⟩
  have i1:=yc ns (201 + 11 * (k:Int)) (m:=(m:Int)) (by omega);have i2:=zc ns (201 + 11 * (k:Int)) (m:=(m:Int)) (by omega);have j1:=yc ns (202 + 11 * (k:Int)) (m:=(m:Int)) (by omega);have j2:=zc ns (202 + 11 * (k:Int)) (m:=(m:Int)) (by omega);obtain ⟨i,hi⟩:∃ i:Nat,Wf ns (201 + 11 * (k:Int)) (m:Int)=(i:Int):=⟨_,(Int.toNat_of_nonneg i1).symm⟩;obtain ⟨j,hj⟩:∃ j:Nat,Wf ns (202 + 11 * (k:Int)) (m:Int)=(j:Int):=⟨_,(Int.toNat_of_nonneg j1).symm⟩;rw [hi] at i2;rw [hj] at j2;simp only [xb];refine zzC (fun σ' H'=>H'=H1∧σ'=[some (.ref a),some (.int (k:Int)),some (.int (m:Int)),some (.int ((d' + 1:Nat):Int)),some (.int wy),some (.int (i:Int)),none,none,none,none]) (fun D' hD=>?_) fun zzM zzh=>?_
  ·walk_at "RD";exact ⟨.inl (by decide),_,_,rfl,S,by omega,by omega,by rw [hi];exact hD _ _ ⟨rfl,rfl⟩⟩
  rintro σ2 H2 ⟨rfl,rfl⟩;subst zzh;simp only [xb];refine zzC (fun σ' H'=>H'=H2∧σ'=[some (.ref a),some (.int (k:Int)),some (.int (m:Int)),some (.int ((d' + 1:Nat):Int)),some (.int wy),some (.int (i:Int)),some (.int (j:Int)),none,none,none]) (fun D' hD=>?_) fun zzM zzh=>?_
  ·walk_at "RD";exact ⟨.inl (by decide),_,_,rfl,S,by omega,by omega,by rw [hj];exact hD _ _ ⟨rfl,rfl⟩⟩
  rintro σ3 H3 ⟨rfl,rfl⟩;subst zzh;simp only [xb];walk_at "RD";have ed:((d' + 1:Nat):Int) - 1=(d':Int):=by omega
  refine ⟨.inl (by decide),2 * k + 1,m,by rw [ed,show 2 * (k:Int) + 1=((2 * k + 1:Nat):Int) by omega],hk3.1,hm,S,fun r1 p1 H4 s4 S4 P1 F1 Sh1=>⟨.inl (by decide),2 * k + 2,m,by rw [ed,show 2 * (k:Int) + 2=((2 * k + 2:Nat):Int) by omega],hk3.2,hm,S4,fun r2 p2 H5 s5 S5 P2 F2 Sh2=>⟨by decide,fun r hr=>?_⟩⟩⟩;exact q r (.case i j p1 p2) _ ((s4.trans s5).trans (db hr)) (S5.new hr) ⟨r1,r2,gb,(P1.same s5).same (db hr),P2.same (db hr)⟩ ⟨by omega,by omega,F1,F2⟩ ⟨Sh1,Sh2⟩
 have i1:=yc ns (201 + 11 * (k:Int)) (m:=(m:Int)) (by omega);have i2:=zc ns (201 + 11 * (k:Int)) (m:=(m:Int)) (by omega);obtain ⟨i,hi⟩:∃ i:Nat,Wf ns (201 + 11 * (k:Int)) (m:Int)=(i:Int):=⟨_,(Int.toNat_of_nonneg i1).symm⟩;rw [hi] at i2;simp only [bc,xb];refine Mb (decide (wy=0)) (fun Q hQ=>?_) (fun hb=>?_) (fun hb=>?_)
 ·walk_at "RD";exact hQ
 ·walk_at "RD";refine ⟨.inl (by decide),_,_,rfl,S,by omega,by omega,by decide,fun r hr=>?_⟩;exact q r (.alone i) _ (db hr) (S.new hr) (by show _=_;rw [gb,hi]) (ot (by omega)) trivial
 simp only [bc,xb];refine zzC (fun σ' H'=>Tb H1 H'∧Sc K a ns H'∧∃ (rl:Addr) (r:List Nat),H' rl=some (.lst (Ub r))∧(∀ x ∈ r,x < m)∧r.length ≤ 12∧σ'=[some (.ref a),some (.int (k:Int)),some (.int (m:Int)),some (.int (d:Int)),some (.int wy),none,none,none,some (.ref rl),none]) (fun D' hD=>?_) fun zzM zzh=>?_
 ·have l1:=yc ns (203 + 11 * (k:Int)) (m:=5) (by decide);have l2:=zc ns (203 + 11 * (k:Int)) (m:=5) (by decide);walk_at "RD";refine ⟨.inl (by decide),_,_,rfl,S,by omega,by decide,_,rfl,by omega,by omega,?_⟩;have hN:(Wf ns (203 + 11 * (k:Int)) 5).toNat ≤ 5:=by omega
  generalize (Wf ns (203 + 11 * (k:Int)) 5).toNat=N at hN;refine ad.range_map (fun n=>V.int (Wf ns (204 + 11 * (k:Int) + n) m)) (Nat.le_trans hN (by decide)) (fun n N' hn hN'=>?_) (fun p hp=>?_)
  ·walk_at "RD";exact ⟨Sub.name,.inl (by decide),_,_,rfl,S,by omega,by omega,hN'⟩
  ·refine hD _ _ ⟨db hp,S.new hp,p,(List.range N).map (fun n:Nat=>(Wf ns (204 + 11 * (k:Int) + (n:Int)) (m:Int)).toNat),?_,fun x hx=>?_,by rw [List.length_map,List.length_range];omega,rfl⟩
   ·rw [gb];unfold Ub;rw [List.map_map];refine congrArg (fun l=>some (HO.lst l)) (List.map_congr_left fun n _=>?_);show V.int _=V.int _;rw [Int.toNat_of_nonneg (yc ns _ (by omega))]
   ·obtain ⟨n,_,rfl⟩:=List.mem_map.mp hx;have:=yc ns (204 + 11 * (k:Int) + n) (m:=(m:Int)) (by omega);have:=zc ns (204 + 11 * (k:Int) + n) (m:=(m:Int)) (by omega);omega
 rintro σ2 H2 ⟨s2,S2,rl,r,e2,hr1,hr2,rfl⟩;subst zzh;simp only [xb];refine zzC (fun σ' H'=>Tb H1 H'∧Sc K a ns H'∧∃ (rl:Addr) (r:List Nat) (x:Option V),H' rl=some (.lst (Ub r))∧(∀ x ∈ r,x < m)∧r.length ≤ 12∧σ'=[some (.ref a),some (.int (k:Int)),some (.int (m:Int)),some (.int (d:Int)),some (.int wy),none,none,none,some (.ref rl),x]) (fun D' hD=>?_) fun zzM zzh=>?_
 ·refine Mb (decide (wy=1)) (fun Q hQ=>?_) (fun hb=>?_) (fun hb=>?_)
  ·walk_at "RD";exact hQ
  ·have l1:=yc ns (203 + 11 * (k:Int)) (m:=3) (by decide);have l2:=zc ns (203 + 11 * (k:Int)) (m:=3) (by decide);walk_at "RD";refine ⟨.inl (by decide),_,_,rfl,S2,by omega,by omega,.inl (by decide),_,_,rfl,S2,by omega,by decide,_,rfl,by split <;> omega,by split <;> omega,?_⟩;rw [hi];have hN:(if 2 + Wf ns (203 + 11 * (k:Int)) 3 < (m:Int) then 2 + Wf ns (203 + 11 * (k:Int)) 3 else (m:Int)).toNat ≤ 6:=by split <;> omega
   generalize (if 2 + Wf ns (203 + 11 * (k:Int)) 3 < (m:Int) then 2 + Wf ns (203 + 11 * (k:Int)) 3 else (m:Int)).toNat=N at hN;refine ad.range_map (fun n=>V.int (((i + n) % m:Nat):Int)) (Nat.le_trans hN (by decide)) (fun n N' hn hN'=>?_) (fun p hp=>?_)
   ·walk_at "RD";refine ⟨Sub.name,by omega,?_⟩;rw [show ((i:Int) + (n:Int)) % (m:Int)=(((i + n) % m:Nat):Int) by rw [Int.natCast_emod];rfl];exact hN'
   ·refine hD _ _ ⟨s2.trans (db hp),S2.new hp,p,(List.range N).map (fun n=>(i + n) % m),_,?_,fun x hx=>?_,by rw [List.length_map,List.length_range];omega,rfl⟩
    ·rw [gb];unfold Ub;rw [List.map_map];rfl
    ·obtain ⟨n,_,rfl⟩:=List.mem_map.mp hx;exact Nat.mod_lt _ (by omega)
  ·simp only [bc];exact hD _ _ ⟨s2,S2,rl,r,_,e2,hr1,hr2,rfl⟩
 rintro σ3 H3 ⟨s3,S3,rl,r,x,e3,hr1,hr2,rfl⟩;subst zzh;dsimp only;walk_at "RD";refine ⟨_,.inl ⟨SqL.of e3,fun l hl=>⟨by decide,fun p hp=>?_⟩⟩⟩;exact q p (.ring r) _ ((s3.trans (db hl)).trans (db hp)) ((S3.new hl).new hp) ⟨l,gb,db hp _ _ gb⟩ (Nm hr1) hr2
theorem nI (T:Txt w K mg t) (a:Addr) (ns:List Int) (h63:ns.length ≤ 63):∀ d,Rb P w K mg base CX0 (d + 3) t.vf t.mf q20 (pz K a ns d)
 | 0=>Gy T a ns h63 0 (T.Ee.ok Zc (fun vs H Q E h=>h.elim) (fun cdv A outer s H vs Q E hr h=>h.elim))
 | d + 1=>Gy T a ns h63 (d + 1) (nI T a ns h63 d)
end
noncomputable def Lr:Pap→Prop
 | .alone _=>True
 | .ring r=>2 ≤ r.length∧r.length ≤ 6
 | .case _ _ p q=>Lr p∧Lr q
theorem cg:∀ {p:Pap},Lr p→Il p:=by
 intro p
 induction p with
 | alone k=>intro _;trivial
 | ring r=>intro h;show r.length ≤ 12;have:=h.2;omega
 | case i j p q ihp ihq=>intro h;exact ⟨ihp h.1,ihq h.2⟩
theorem Tv {S:Sys} {z:Int} (hm:S.m ≤ 6):∀ (p:Pap) (d:Nat) (o:Od),Yh S.m d p→Qd S z o p=true→Lr p:=by
 intro p
 induction p with
 | alone k=>intro _ _ _ _;trivial
 | ring r=>
  intro d o hf hb;have hf':∀ k ∈ r,k < S.m:=by cases d <;> exact hf
  have hb':Qi S z o r=true:=hb;unfold Qi at hb';simp only [Bool.and_eq_true,decide_eq_true_eq] at hb';have:=Px hb'.1.1.2 hf';exact ⟨hb'.1.1.1,by omega⟩
 | case i j p q ihp ihq=>
  intro d o hf hb;cases d with
  | zero=>exact hf.elim
  | succ d=>
   obtain ⟨_,_,h1,h2⟩:=hf;have hb':(S.e i j && !inO o i j && Qd S z (o ++ [(i,j)]) p && Qd S z (o ++ [(j,i)]) q)=true:=hb;simp only [Bool.and_eq_true] at hb';exact ⟨ihp d _ h1 hb'.1.2,ihq d _ h2 hb'.2⟩
noncomputable def lz (K:PySem.W.Frag) (a:Addr) (ns:List Int) (d:Nat):Sp:=fun vs H Q _=>∃ (k m:Nat) (pa:Addr) (p:Pap),vs=[.ref a,.ref pa,.int (k:Int)]∧k + d ≤ 100∧(1 ≤ m∧m ≤ 6)∧gj H p pa∧Yh m d p∧Lr p∧Sc K a ns H∧∀ r p' H',Tb H H'→Sc K a ns H'→gj H' p' r→Yh m d p'→Il p'→Q (.ref r) H'
noncomputable def xJ (K:PySem.W.Frag) (a:Addr) (ns:List Int):Nat→Sp
 | 0=>fun _ _ _ _=>False
 | d + 1=>lz K a ns d
theorem LO {xs:List V} {j:Nat} (h:j ≤ xs.length):jw xs none (some (j:Int))=xs.take j:=by
 unfold jw;rw [HT.sIx_nat,Nat.min_eq_left h];show (xs.drop 0).take (j - 0)=_;rw [List.drop_zero,Nat.sub_zero]
theorem dP {xs:List V} {j:Nat} (h:j ≤ xs.length):jw xs (some (j:Int)) none=xs.drop j:=by
 unfold jw;rw [HT.sIx_nat,Nat.min_eq_left h];show (xs.drop j).take (xs.length - j)=_;rw [List.take_of_length_le (by rw [List.length_drop];exact Nat.le_refl _)]
theorem Ks (r:List Nat) (j:Nat):(Ub r).take j=Ub (r.take j):=by unfold Ub;rw [List.map_take]
theorem gB (r:List Nat) (j:Nat):(Ub r).drop j=Ub (r.drop j):=by unfold Ub;rw [List.map_drop]
theorem WE (r:List Nat):(Ub r).reverse=Ub r.reverse:=by unfold Ub;rw [List.map_reverse]
theorem Uv (r u:List Nat):Ub r ++ Ub u=Ub (r ++ u):=by unfold Ub;rw [List.map_append]
theorem Lm {r:List Nat} (h:r ≠ []):Ub r ≠ []:=fun z=>h (by unfold Ub at z;exact List.map_eq_nil_iff.mp z)
theorem BK {m:Nat}:∀ {p:Pap} {d:Nat},Yh m d p→Yh m (d + 1) p:=by
 intro p
 induction p with
 | alone k=>intro d h;exact ot (by cases d <;> exact h)
 | ring r=>intro d h;exact Nm (by cases d <;> exact h)
 | case i j p q ihp ihq=>
  intro d h;cases d with
  | zero=>exact h.elim
  | succ d=>exact ⟨h.1,h.2.1,ihp h.2.2.1,ihq h.2.2.2⟩
section
variable {P:Program} {w:World} {K:PySem.W.Frag} {mg:Str→Option Value} {base:Heap} {t:Adr}
theorem Yy (T:Txt w K mg t) (a:Addr) (ns:List Int) (h63:ns.length ≤ 63) (d:Nat) (g19:Rb P w K mg base CX0 (d + 2) t.qe t.pe q21 (xJ K a ns d)):Rb P w K mg base CX0 (d + 3) t.qe t.pe q21 (lz K a ns d):=by
 have g0:Rb P w K mg base CX0 (d + 2) t.Hd t.Gd q11 (Jc K a ns):=(Wl T a ns h63).mono (by omega);refine T.re.ok Ud (fun vs H Q E h=>?_) (fun _ _ _ s H vs Q E hr h=>?_)
 ·obtain ⟨k,m,pa,p,rfl,_⟩:=h;rfl
 obtain ⟨k,m,pa,p,rfl,hk,hm,hP,hF,hR,S,q⟩:=h;have w1:=yc ns (402 + 5 * (k:Int)) (m:=4) (by decide);have w2:=zc ns (402 + 5 * (k:Int)) (m:=4) (by decide);refine ⟨_,(fb (jd (PW.pt (Av (Qb gg (Kb ac (pv 1) jb) xc (cc _)) (At (Qb yo (qb g0 hr T.Bb T.yb.kp T.Ab (ab (pv 0) (ab (Ib Zb jb (Ib Nd jb (pv 2))) (ab jb ib)))) jb (cc _))))) (fb (jd (Qb gg (qb g0 hr T.Bb T.yb.kp T.Ab (ab (pv 0) (ab (Ib Zb jb (Ib Nd jb (pv 2))) (ab jb ib)))) jb (cc _)) (lb (Gb (Ec (ab xc (ab (Kb ac (pv 1) jb) (ab (Kb ac (pv 1) jb) (ab (qb g19 hr T.Qh T.re.kp T.Rh (ab (pv 0) (ab (Kb ac (pv 1) jb) (ab (Ib Zb (pv 2) jb) ib)))) (ab (Kb ac (pv 1) jb) ib)))))))) Sb)
   (lb (Gb (Ec (ab xc (ab (Kb ac (pv 1) jb) (ab (Kb ac (pv 1) jb) (ab (Kb ac (pv 1) jb) (ab (qb g19 hr T.Qh T.re.kp T.Rh (ab (pv 0) (ab (Kb ac (pv 1) jb) (ab (Ib Zb (pv 2) jb) ib)))) ib))))))))) Sb)
   (fb (wb (i:=3) Ud.nd (qb g0 hr T.Bb T.yb.kp T.Ab (ab (pv 0) (ab (Ib Zb jb (Ib Nd jb (pv 2))) (ab jb ib)))))
   (fb (jd (Qb gg (Kb ac (pv 1) jb) xc (cc _)) (fb (wb (i:=4) Ud.nd (wf (ab (Ec (ab xc (ab (Kb ac (pv 1) jb) (ab (Kb ac (pv 1) jb) (ab (Kb ac (pv 1) jb) (ab (Kb ac (pv 1) jb) ib)))))) (ab (Ec (ab xc (ab (Kb ac (pv 1) jb) (ab (Kb ac (pv 1) jb) (ab (Kb ac (pv 1) jb) (ab (Kb ac (pv 1) jb) ib)))))) ib))))
   (lb (Gb (Kb Ye (Ib vC (pv 4) (wf (ab (Ec (ab xc (ab (Kb ac (pv 1) jb) (ab (Kb ac (pv 1) jb) (ab (Kb ac (pv 1) jb) (ab (Kb ac (pv 1) jb) ib)))))) (ab (Kb ac (pv 1) jb) ib)))) (pv 3))))) Sb)
   (fb (jd (Qb gg (Kb ac (pv 1) jb) xc (cc _)) (fb (wb (i:=5) Ud.nd (Kb ac (pv 1) jb))
   (fb (wb (i:=6) Ud.nd (Fg Nu (pv 5) ak (Oh (Ib ij (qc Xb rfl T.Uh ic (ab (pv 5) ib)) jb))))
   (lb (Gb (Ec (ab xc (ab (Kb Ye (wf (ab (RJ (pv 5) (wK pF jb)) (ab (Ib Tw (Fg Nu (pv 5) (Oh jb) ak) (Fg Nu (pv 5) ak (Oh jb))) (ab (pv 6) (ab (Ib Tw (pv 5) (Fg Nu (pv 5) ak (Oh jb))) ib))))) (pv 3)) ib))))))) Sb)
   (lb (Gb (Ec (ab xc (ab (Ec (ab (Kb ac (pv 1) jb) ib)) ib))))))))),?_⟩
 simp only [xb];cases p with
 | alone i=>
  have hi:i < m:=by cases d <;> exact hF
  refine Mb false (fun Q hQ=>?_) (fun z=>nomatch z) (fun _=>?_)
  ·walk_at "RD";refine ⟨_,SqT.of hP,_,Cb (j:=0) rfl,rfl,?_⟩;rw [show decide (V.str (Str.ofString "alone")=V.str (Str.ofString "case"))=false by decide +kernel,if_neg Bool.false_ne_true];exact hQ
  simp only [bc,xb];refine zzC (fun σ' H'=>H'=H∧∃ x,σ'=[some (.ref a),some (.ref pa),some (.int (k:Int)),x,none,none,none]) (fun D' hD=>?_) fun zzM zzh=>?_
  ·walk_at "RD";exact ⟨.inl (by decide),_,_,rfl,S,by omega,by decide,hD _ _ ⟨rfl,_,rfl⟩⟩
  rintro σ1 H1 ⟨rfl,x,rfl⟩;subst zzh;simp only [xb];refine Mb false (fun Q hQ=>?_) (fun z=>nomatch z) (fun _=>?_)
  ·walk_at "RD";exact ⟨_,SqT.of hP,_,Cb (j:=0) rfl,rfl,by rw [show decide (V.str (Str.ofString "alone")=V.str (Str.ofString "case"))=false by decide +kernel];exact hQ⟩
  simp only [bc,xb];refine Mb false (fun Q hQ=>?_) (fun z=>nomatch z) (fun _=>?_)
  ·walk_at "RD";exact ⟨_,SqT.of hP,_,Cb (j:=0) rfl,rfl,by rw [show decide (V.str (Str.ofString "alone")=V.str (Str.ofString "ring"))=false by decide +kernel];exact hQ⟩
  simp only [bc];walk_at "RD";refine ⟨_,SqT.of hP,_,Cb (j:=1) rfl,by decide,fun l hl=>⟨by decide,fun p hp=>?_⟩⟩;exact q p (.ring [i]) _ ((db hl).trans (db hp)) ((S.new hl).new hp) ⟨l,gb,db hp _ _ gb⟩ (Nm (by simpa using hi)) (by show 1 ≤ 12;decide)
 | ring r=>
  obtain ⟨b,h1,h2⟩:=hP;have hR':2 ≤ r.length∧r.length ≤ 6:=hR;have hk':∀ x ∈ r,x < m:=by cases d <;> exact hF
  refine Mb false (fun Q hQ=>?_) (fun z=>nomatch z) (fun _=>?_)
  ·walk_at "RD";refine ⟨_,SqT.of h1,_,Cb (j:=0) rfl,rfl,?_⟩;rw [show decide (V.str (Str.ofString "ring")=V.str (Str.ofString "case"))=false by decide +kernel,if_neg Bool.false_ne_true];exact hQ
  simp only [bc,xb];refine zzC (fun σ' H'=>H'=H∧∃ wy:Nat,wy < 4∧σ'=[some (.ref a),some (.ref pa),some (.int (k:Int)),some (.int (wy:Int)),none,none,none]) (fun D' hD=>?_) fun zzM zzh=>?_
  ·walk_at "RD";exact ⟨.inl (by decide),_,_,rfl,S,by omega,by decide,hD _ _ ⟨rfl,(Wf ns (402 + 5 * (k:Int)) 4).toNat,by omega,by rw [Int.toNat_of_nonneg w1]⟩⟩
  rintro σ1 H1 ⟨rfl,wy,hwy,rfl⟩;subst zzh;simp only [xb];refine Mb false (fun Q hQ=>?_) (fun z=>nomatch z) (fun _=>?_)
  ·walk_at "RD";exact ⟨_,SqT.of h1,_,Cb (j:=0) rfl,rfl,by rw [show decide (V.str (Str.ofString "ring")=V.str (Str.ofString "case"))=false by decide +kernel];exact hQ⟩
  simp only [bc,xb];refine Mb true (fun Q hQ=>?_) (fun _=>?_) (fun z=>nomatch z)
  ·walk_at "RD";exact ⟨_,SqT.of h1,_,Cb (j:=0) rfl,rfl,by rw [decide_eq_true rfl];exact hQ⟩
  simp only [xb];refine zzC (fun σ' H'=>H'=H1∧σ'=[some (.ref a),some (.ref pa),some (.int (k:Int)),some (.int (wy:Int)),none,some (.ref b),none]) (fun D' hD=>?_) fun zzM zzh=>?_
  ·walk_at "RD";exact ⟨_,SqT.of h1,_,Cb (j:=1) rfl,hD _ _ ⟨rfl,rfl⟩⟩
  rintro σ2 H2 ⟨rfl,rfl⟩;subst zzh;simp only [xb];refine zzC (fun σ' H'=>Tb H2 H'∧Sc K a ns H'∧∃ cb,H' cb=some (.tup (Ub (r.take (r.length - 1))))∧σ'=[some (.ref a),some (.ref pa),some (.int (k:Int)),some (.int (wy:Int)),none,some (.ref b),some (.ref cb)]) (fun D' hD=>?_) fun zzM zzh=>?_
  ·walk_at "RD";refine ⟨_,.inr (SqT.of h2),_,SqT.of h2,?_,fun u hu=>?_⟩
   ·rw [wc,show ((r.length:Nat):Int) - 1=((r.length - 1:Nat):Int) by omega,HT.sIx_nat];omega
   ·rw [wc,show ((r.length:Nat):Int) - 1=((r.length - 1:Nat):Int) by omega,LO (by rw [wc];omega),Ks];exact hD _ _ ⟨db hu,S.new hu,u,gb,rfl⟩
  rintro σ3 H3 ⟨s3,S3,cb,hcb,rfl⟩;have hrl:(Ub r).length=r.length:=wc r;have hn1:¬ (HT.sIx (Ub r).length 0 (some ((1:Nat):Int))=0∧HT.sIx (Ub r).length (Ub r).length none=(Ub r).length):=by rw [HT.sIx_nat,hrl];omega
  have hn2:¬ (HT.sIx (Ub r).length 0 none=0∧HT.sIx (Ub r).length (Ub r).length (some ((1:Nat):Int))=(Ub r).length):=by rw [HT.sIx_nat,hrl];omega
  have hd1:r.drop 1 ≠ []:=fun z=>by have:=congrArg List.length z;rw [List.length_drop,List.length_nil] at this;omega
  have ht1:r.take 1 ≠ []:=fun z=>by have:=congrArg List.length z;rw [List.length_take,List.length_nil] at this;omega
  have hr0:r ≠ []:=fun z=>by rw [z] at hR;exact absurd hR.1 (by decide)
  subst zzh;dsimp only;(walk_at "RD"; repeat (dsimp only [ML];walk_at "RD"));have b3:=s3 _ _ h2;refine ⟨_,SqT.of b3,fun u1 hu1=>?_⟩;rw [WE];have t1:=db (o:=.tup (Ub r.reverse)) hu1;have x1:(upd H3 u1 (.tup (Ub r.reverse))) u1=some (.tup (Ub r.reverse)):=gb;have S4:=S3.new (o:=.tup (Ub r.reverse)) hu1;have b4:=t1 _ _ b3;have c4:=t1 _ _ hcb;have s4:=s3.trans t1;generalize upd H3 u1 (.tup (Ub r.reverse))=H4 at t1 x1 S4 b4 c4 s4 ⊢;have k1:jw (Ub r) (some 1) none=Ub (r.drop 1):=by rw [← gB];exact dP (j:=1) (by rw [hrl];omega)
  have k2:jw (Ub r) none (some 1)=Ub (r.take 1):=by rw [← Ks];exact LO (j:=1) (by rw [hrl];omega)
  refine ⟨_,SqT.of b4,hn1,fun u2 hu2=>?_⟩;rw [k1];have t5:=db (o:=.tup (Ub (r.drop 1))) hu2;have x5:(upd H4 u2 (.tup (Ub (r.drop 1)))) u2=some (.tup (Ub (r.drop 1))):=gb;have S5:=S4.new (o:=.tup (Ub (r.drop 1))) hu2;have b5:=t5 _ _ b4;have c5:=t5 _ _ c4;have s5:=s4.trans t5;have y5:=t5 _ _ x1;generalize upd H4 u2 (.tup (Ub (r.drop 1)))=H5 at t5 x5 S5 b5 c5 s5 y5 ⊢;refine ⟨_,SqT.of b5,hn2,fun u3 hu3=>?_⟩;rw [k2];have t6:=db (o:=.tup (Ub (r.take 1))) hu3;have x6:(upd H5 u3 (.tup (Ub (r.take 1)))) u3=some (.tup (Ub (r.take 1))):=gb;have S6:=S5.new (o:=.tup (Ub (r.take 1))) hu3;have b6:=t6 _ _ b5;have c6:=t6 _ _ c5;have s6:=s5.trans t6;have y6:=t6 _ _ y5;have z6:=t6 _ _ x5;generalize upd H5 u3 (.tup (Ub (r.take 1)))=H6 at t6 x6 S6 b6 c6 s6 y6 z6 ⊢;have hsz:sizeLine ≥ 100:=by decide
  refine ⟨_,SqT.of z6,_,SqT.of x6,Lm hd1,by rw [wc,wc,List.length_drop,List.length_take];omega,fun z=>absurd z (Lm ht1),fun _ u4 hu4=>?_⟩;rw [Uv];have t7:=db (o:=.tup (Ub (r.drop 1 ++ r.take 1))) hu4;have x7:(upd H6 u4 (.tup (Ub (r.drop 1 ++ r.take 1)))) u4=some (.tup (Ub (r.drop 1 ++ r.take 1))):=gb;have S7:=S6.new (o:=.tup (Ub (r.drop 1 ++ r.take 1))) hu4;have b7:=t7 _ _ b6;have c7:=t7 _ _ c6;have s7:=s6.trans t7;have y7:=t7 _ _ y6;generalize upd H6 u4 (.tup (Ub (r.drop 1 ++ r.take 1)))=H7 at t7 x7 S7 b7 c7 s7 y7 ⊢;refine ⟨_,SqT.of b7,hn2,fun u5 hu5=>?_⟩;rw [k2];have t8:=db (o:=.tup (Ub (r.take 1))) hu5;have z8:(upd H7 u5 (.tup (Ub (r.take 1)))) u5=some (.tup (Ub (r.take 1))):=gb;have S8:=S7.new (o:=.tup (Ub (r.take 1))) hu5;have b8:=t8 _ _ b7;have c8:=t8 _ _ c7;have s8:=s7.trans t8;have y8:=t8 _ _ y7;have x8:=t8 _ _ x7;generalize upd H7 u5 (.tup (Ub (r.take 1)))=H8 at t8 z8 S8 b8 c8 s8 y8 x8 ⊢;refine ⟨_,SqT.of b8,_,SqT.of z8,Lm hr0,by rw [wc,wc,List.length_take];omega,fun z=>absurd z (Lm ht1),fun _ u6 hu6=>?_⟩;rw [Uv];have t9:=db (o:=.tup (Ub (r ++ r.take 1))) hu6;have z9:(upd H8 u6 (.tup (Ub (r ++ r.take 1)))) u6=some (.tup (Ub (r ++ r.take 1))):=gb;have S9:=S8.new (o:=.tup (Ub (r ++ r.take 1))) hu6;have c9:=t9 _ _ c8;have s9:=s8.trans t9;have y9:=t9 _ _ y8;have x9:=t9 _ _ x8;generalize upd H8 u6 (.tup (Ub (r ++ r.take 1)))=H9 at t9 z9 S9 c9 s9 y9 x9 ⊢;refine ⟨by decide,fun ls hls=>?_⟩;have fin:∀ (u:Addr) (r':List Nat),H9 u=some (.tup (Ub r'))→(∀ x ∈ r',x < m)→r'.length ≤ 12→atI [V.ref u1,V.ref u4,V.ref cb,V.ref u6] (wy:Int)=some (.ref u)→∃ v,atI [V.ref u1,V.ref u4,V.ref cb,V.ref u6] (wy:Int)=some v∧2 ≤ sizeLine∧∀ p_4:Addr,(upd H9 ls (HO.lst [V.ref u1,V.ref u4,V.ref cb,V.ref u6])) p_4=none→Q (V.ref p_4) (upd (upd H9 ls (HO.lst [V.ref u1,V.ref u4,V.ref cb,V.ref u6])) p_4 (HO.tup [V.str (Str.ofString "ring"),v])):=by
   intro u r' e1 e2 e3 e4;refine ⟨_,e4,by decide,fun p hp=>?_⟩;exact q p (.ring r') _ ((s9.trans (db hls)).trans (db hp)) ((S9.new hls).new hp) ⟨u,gb,db hp _ _ (db hls _ _ e1)⟩ (Nm e2) e3
  refine ⟨_,SqL.of gb,?_⟩
  match wy,hwy with
  | 0,_=>exact fin u1 _ y9 (fun x hx=>hk' x (List.mem_reverse.mp hx)) (by rw [List.length_reverse];omega) rfl
  | 1,_=>exact fin u4 _ x9 (fun x hx=>hk' x ((List.mem_append.mp hx).elim List.mem_of_mem_drop List.mem_of_mem_take)) (by rw [List.length_append,List.length_drop,List.length_take];omega) rfl
  | 2,_=>exact fin cb _ c9 (fun x hx=>hk' x (List.mem_of_mem_take hx)) (by rw [List.length_take];omega) rfl
  | 3,_=>exact fin u6 _ z9 (fun x hx=>hk' x ((List.mem_append.mp hx).elim id List.mem_of_mem_take)) (by rw [List.length_append,List.length_take];omega) rfl
 | case i j p1 p2=>
  obtain ⟨b,c,h1,h2,h3⟩:=hP;obtain ⟨d',rfl⟩:∃ d',d=d' + 1:=by
   cases d with
   | zero=>exact hF.elim
   | succ d=>exact ⟨d,rfl⟩
  obtain ⟨f1,f2,f3,f4⟩:=hF;refine Mb (decide (0 < Wf ns (400 + 5 * (k:Int)) 3)) (fun Q hQ=>?_) (fun _=>?_) (fun _=>?_)
  ·walk_at "RD";refine ⟨_,SqT.of h1,_,Cb (j:=0) rfl,rfl,?_⟩;rw [decide_eq_true rfl,if_pos rfl];exact ⟨.inl (by decide),_,_,rfl,S,by omega,by decide,_,rfl,hQ⟩
  ·simp only [xb];refine Mb (decide (Wf ns (401 + 5 * (k:Int)) 2=0)) (fun Q hQ=>?_) (fun _=>?_) (fun _=>?_)
   ·walk_at "RD";refine ⟨.inl (by decide),_,_,rfl,S,by omega,by decide,rfl,?_⟩;rw [show decide (V.int (Wf ns (401 + 5 * (k:Int)) 2)=V.int 0)=decide (Wf ns (401 + 5 * (k:Int)) 2=0) from decide_eq_decide.mpr ⟨fun z=>V.int.inj z,fun z=>by rw [z]⟩];exact hQ
   ·walk_at "RD";refine ⟨_,SqT.of h1,_,Cb (j:=1) rfl,_,SqT.of h1,_,Cb (j:=2) rfl,_,SqT.of h1,_,Cb (j:=3) rfl,?_⟩;refine ⟨k + 1,m,b,p1,by rw [show (k:Int) + 1=((k + 1:Nat):Int) by omega],by omega,hm,h2,f3,hR.1,S,fun r p' H' s' S' P' F' Sh'=>⟨_,SqT.of (s' _ _ h1),_,Cb (j:=4) rfl,by decide,fun u hu=>?_⟩⟩;exact q u (.case i j p' p2) _ (s'.trans (db hu)) (S'.new hu) ⟨r,c,gb,P'.same (db hu),(h3.same s').same (db hu)⟩ ⟨f1,f2,F',f4⟩ ⟨Sh',cg hR.2⟩
   ·walk_at "RD";refine ⟨_,SqT.of h1,_,Cb (j:=1) rfl,_,SqT.of h1,_,Cb (j:=2) rfl,_,SqT.of h1,_,Cb (j:=3) rfl,_,SqT.of h1,_,Cb (j:=4) rfl,?_⟩;refine ⟨k + 1,m,c,p2,by rw [show (k:Int) + 1=((k + 1:Nat):Int) by omega],by omega,hm,h3,f4,hR.2,S,fun r p' H' s' S' P' F' Sh'=>⟨by decide,fun u hu=>?_⟩⟩;exact q u (.case i j p1 p') _ (s'.trans (db hu)) (S'.new hu) ⟨b,r,gb,(h2.same s').same (db hu),P'.same (db hu)⟩ ⟨f1,f2,f3,F'⟩ ⟨cg hR.1,Sh'⟩
  simp only [bc,xb];refine zzC (fun σ' H'=>H'=H∧∃ wy:Nat,wy < 4∧σ'=[some (.ref a),some (.ref pa),some (.int (k:Int)),some (.int (wy:Int)),none,none,none]) (fun D' hD=>?_) fun zzM zzh=>?_
  ·walk_at "RD";exact ⟨.inl (by decide),_,_,rfl,S,by omega,by decide,hD _ _ ⟨rfl,(Wf ns (402 + 5 * (k:Int)) 4).toNat,by omega,by rw [Int.toNat_of_nonneg w1]⟩⟩
  rintro σ1 H1 ⟨rfl,wy,hwy,rfl⟩;subst zzh;simp only [xb];refine Mb true (fun Q hQ=>?_) (fun _=>?_) (fun z=>nomatch z)
  ·walk_at "RD";exact ⟨_,SqT.of h1,_,Cb (j:=0) rfl,rfl,by rw [decide_eq_true rfl];exact hQ⟩
  simp only [xb];refine zzC (fun σ' H'=>Tb H1 H'∧Sc K a ns H'∧∃ so u1 u2,H' so=some (.lst [.ref u1,.ref u2])∧gj H' (.case j i p1 p2) u1∧gj H' (.case i j p2 p1) u2∧σ'=[some (.ref a),some (.ref pa),some (.int (k:Int)),some (.int (wy:Int)),some (.ref so),none,none]) (fun D' hD=>?_) fun zzM zzh=>?_
  ·walk_at "RD";refine ⟨_,SqT.of h1,_,Cb (j:=2) rfl,_,SqT.of h1,_,Cb (j:=1) rfl,_,SqT.of h1,_,Cb (j:=3) rfl,_,SqT.of h1,_,Cb (j:=4) rfl,by decide,fun u1 hu1=>?_⟩;have g1:=db (o:=.tup [.str (Str.ofString "case"),.int (j:Int),.int (i:Int),.ref b,.ref c]) hu1 _ _ h1;refine ⟨_,SqT.of g1,_,Cb (j:=1) rfl,_,SqT.of g1,_,Cb (j:=2) rfl,_,SqT.of g1,_,Cb (j:=4) rfl,_,SqT.of g1,_,Cb (j:=3) rfl,by decide,fun u2 hu2=>⟨by decide,fun so hso=>?_⟩⟩;have z2:=(db (o:=.tup [.str (Str.ofString "case"),.int (i:Int),.int (j:Int),.ref c,.ref b]) hu2).trans (db (o:=.lst [.ref u1,.ref u2]) hso);have z1:=(db (o:=.tup [.str (Str.ofString "case"),.int (j:Int),.int (i:Int),.ref b,.ref c]) hu1).trans z2;exact hD _ _ ⟨z1,((S.new hu1).new hu2).new hso,so,u1,u2,gb,⟨b,c,z2 _ _ gb,h2.same z1,h3.same z1⟩,⟨c,b,db hso _ _ gb,h3.same z1,h2.same z1⟩,rfl⟩
  rintro σ2 H2 ⟨s2,S2,so,u1,u2,e2,P1,P2,rfl⟩;have g1:=s2 _ _ h1;subst zzh;dsimp only;walk_at "RD";refine ⟨_,SqT.of g1,_,Cb (j:=1) rfl,_,SqT.of g1,_,Cb (j:=1) rfl,_,SqT.of g1,_,Cb (j:=3) rfl,_,SqT.of g1,_,Cb (j:=4) rfl,by decide,fun u3 hu3=>?_⟩;refine ⟨_,SqT.of (db hu3 _ _ g1),_,Cb (j:=3) rfl,by decide,fun l hl=>?_⟩;refine ⟨_,db hl _ _ (db hu3 _ _ e2),_,gb,by show 4 ≤ sizeLine;decide,fun l2 hl2=>⟨_,SqL.of gb,?_⟩⟩;have z2:=(db hu3 (o:=.tup [.str (Str.ofString "case"),.int (i:Int),.int (i:Int),.ref b,.ref c])).trans ((db hl (o:=.lst [.ref u3,.ref b])).trans (db hl2 (o:=.lst [.ref u1,.ref u2,.ref u3,.ref b])));have z3:=(db hl (o:=.lst [.ref u3,.ref b])).trans (db hl2 (o:=.lst [.ref u1,.ref u2,.ref u3,.ref b]));have Z:=((S2.new hu3 (o:=.tup [.str (Str.ofString "case"),.int (i:Int),.int (i:Int),.ref b,.ref c])).new hl (o:=.lst [.ref u3,.ref b])).new hl2 (o:=.lst [.ref u1,.ref u2,.ref u3,.ref b]);have q1:=(h2.same s2).same z2;have q2:=(h3.same s2).same z2;have shp:=cg hR.1;have shq:=cg hR.2
  match wy,hwy with
  | 0,_=>exact ⟨.ref u1,rfl,q u1 (.case j i p1 p2) _ (s2.trans z2) Z (P1.same z2) ⟨f2,f1,f3,f4⟩ ⟨shp,shq⟩⟩
  | 1,_=>exact ⟨.ref u2,rfl,q u2 (.case i j p2 p1) _ (s2.trans z2) Z (P2.same z2) ⟨f1,f2,f4,f3⟩ ⟨shq,shp⟩⟩
  | 2,_=>exact ⟨.ref u3,rfl,q u3 (.case i i p1 p2) _ (s2.trans z2) Z ⟨b,c,z3 _ _ gb,q1,q2⟩ ⟨f1,f1,f3,f4⟩ ⟨shp,shq⟩⟩
  | 3,_=>exact ⟨.ref b,rfl,q b p1 _ (s2.trans z2) Z q1 (BK f3) shp⟩
theorem oI (T:Txt w K mg t) (a:Addr) (ns:List Int) (h63:ns.length ≤ 63):∀ d,Rb P w K mg base CX0 (d + 3) t.qe t.pe q21 (lz K a ns d)
 | 0=>Yy T a ns h63 0 (T.re.ok Ud (fun vs H Q E h=>h.elim) (fun cdv A outer s H vs Q E hr h=>h.elim))
 | d + 1=>Yy T a ns h63 (d + 1) (oI T a ns h63 d)
end
end My
namespace My
open PySem L2
theorem lw (x:Str) {a b:Nat} (hab:a ≤ b) (hb:b ≤ x.cps.toList.length):(Txt.slice x (some (a:Int)) (some (b:Int))).cps.toList=(x.cps.toList.drop a).take (b - a):=by
 have hx:x.length=x.cps.toList.length:=by simp [Str.length]
 have e:=StrLaws.sliceText_nat x hab (by rw [hx];exact hb);rw [show Txt.slice x (some (a:Int)) (some (b:Int))=StrLaws.sliceText x (some (a:Int)) (some (b:Int)) from rfl,e]
theorem Wy (x:Str) {b:Nat} (hb:b ≤ x.cps.toList.length):(Txt.slice x none (some (b:Int))).cps.toList=x.cps.toList.take b:=by
 have:Txt.slice x none (some (b:Int))=Txt.slice x (some ((0:Nat):Int)) (some (b:Int)):=by
  show StrLaws.sliceText x none (some (b:Int))=StrLaws.sliceText x (some ((0:Nat):Int)) (some (b:Int));unfold StrLaws.sliceText;rw [StrLaws.sliceIdx_none_lo];rfl
 rw [this,lw x (Nat.zero_le _) hb,List.drop_zero,Nat.sub_zero]
noncomputable def nmA (l:List Nat) (k:Nat):List Nat:=l.take (k + 1)
noncomputable def nmB (l:List Nat) (at_ size f k:Nat):List Nat:=l.take at_ ++ [97 + (f + 7 * k) % 26] ++ (l.drop (at_ + 1)).take (size - (at_ + 1))
theorem UE {l:List Nat} (hl:l.length=8) (al:∀ c ∈ l,97 ≤ c∧c ≤ 122) {k:Nat} (hk:k < 8):(nmA l k).length=k + 1∧∀ c ∈ nmA l k,97 ≤ c∧c ≤ 122:=by
 unfold nmA;exact ⟨by rw [List.length_take];omega,fun c hc=>al c (List.mem_of_mem_take hc)⟩
theorem BM {l:List Nat} (hl:l.length=8) (al:∀ c ∈ l,97 ≤ c∧c ≤ 122) {a z f k:Nat} (ha:a < z) (hz:z ≤ 8):(nmB l a z f k).length=z∧∀ c ∈ nmB l a z f k,97 ≤ c∧c ≤ 122:=by
 unfold nmB;refine ⟨by rw [List.length_append,List.length_append,List.length_take,List.length_take,List.length_drop,List.length_singleton];omega,fun c hc=>?_⟩;rcases List.mem_append.mp hc with hc | hc
 ·rcases List.mem_append.mp hc with hc | hc
  ·exact al c (List.mem_of_mem_take hc)
  ·rw [List.mem_singleton.mp hc];omega
 ·exact al c (List.mem_of_mem_drop (List.mem_of_mem_take hc))
theorem LJ {l:List Nat} (hl:l.length=8) {a z f i j:Nat} (ha:a < z) (hz:z ≤ 8) (hi:i < 8) (hj:j < 8) (e:nmB l a z f i=nmB l a z f j):i=j:=by
 have h1:∀ k,(nmB l a z f k)[a]? = some (97 + (f + 7 * k) % 26):=fun k=>by
  unfold nmB;rw [List.append_assoc,List.getElem?_append_right (by rw [List.length_take];omega),List.length_take,show a - min a l.length=0 by omega];rfl
 have h2:=h1 i;rw [e,h1 j] at h2;have:=Option.some.inj h2;omega
theorem xK {x:Str} {l:List Nat} (e:x.cps.toList=l) (h0:1 ≤ l.length) (h1:l.length ≤ 8) (al:∀ c ∈ l,97 ≤ c∧c ≤ 122):made x Nh 8=true:=by
 have hx:x.length=x.cps.toList.length:=by simp [Str.length]
 exact ow (by rw [hx,e];exact h0) (by rw [hx,e];exact h1) (by rw [e];exact al)
noncomputable def Nms (m:Nat) (xs:List Str):Prop:=xs.length=m∧xs.Nodup∧∀ x ∈ xs,made x Nh 8=true
theorem WH {i:Int} (h0:0 ≤ i) (h1:i < 26):∃ c:Nat,atI (Str.ofString "abcdefghijklmnopqrstuvwxyz").cps.toList i=some c∧c=97 + i.toNat:=by
 have:∀ k,k < 26→atI (Str.ofString "abcdefghijklmnopqrstuvwxyz").cps.toList ((k:Nat):Int)=some (97 + k):=by decide +kernel
 refine ⟨97 + i.toNat,?_,rfl⟩;have e:=this i.toNat (by omega);rwa [Int.toNat_of_nonneg h0] at e
theorem UM:∀ ys:List Str,(Str.join ⟨#[]⟩ ys).cps.toList=(ys.map (·.cps.toList)).flatten
 | []=>rfl
 | [a]=>by
  show a.cps.toList=_;simp
 | a :: b :: r=>by
  show (a ++ ⟨#[]⟩ ++ Str.join ⟨#[]⟩ (b :: r)).cps.toList=_;rw [Str.cps_append,Array.toList_append,Str.cps_append,Array.toList_append,UM (b :: r)];simp
theorem ss (f:Nat→Nat) (n:Nat):(Txt.join (Str.ofString "") ((List.range n).map fun i=>Rv (f i))).cps.toList=(List.range n).map f:=by
 rw [show Txt.join (Str.ofString "") ((List.range n).map fun i=>Rv (f i))=Str.join ⟨#[]⟩ ((List.range n).map fun i=>Rv (f i)) from StrLaws.glued_eq_join _ _,UM,List.map_map];have:((fun x:Str=>x.cps.toList) ∘ fun i=>Rv (f i))=fun i=>[f i]:=rfl
 rw [this]
 induction (List.range n) with
 | nil=>rfl
 | cons a l ih=>rw [List.map_cons,List.flatten_cons,ih];rfl
noncomputable def jv (K:PySem.W.Frag) (a:Addr) (ns:List Int):Sp:=fun vs H Q _=>∃ m:Nat,vs=[.ref a,.int m]∧Sc K a ns H∧(1 ≤ m∧m ≤ 8)∧∀ p xs H',Tb H H'→Sc K a ns H'→H p=none→H' p=some (.lst (Nc xs))→Nms m xs→Q (.ref p) H'
section
variable {P:Program} {w:World} {K:PySem.W.Frag} {mg:Str→Option Value} {base:Heap} {t:Adr}
theorem YE (T:Txt w K mg t) (a:Addr) (ns:List Int) (h63:ns.length ≤ 63):Rb P w K mg base CX0 2 t.vh t.gh q41 (jv K a ns):=by
 have g0:Rb P w K mg base CX0 1 t.Hd t.Gd q11 (Jc K a ns):=Wl T a ns h63;refine T.Ij.ok Fc (fun vs H Q E h=>?_) (fun _ _ _ s H vs Q E hr h=>?_)
 ·obtain ⟨m,rfl,_⟩:=h;rfl
 obtain ⟨m,rfl,S,hm,q⟩:=h;have hL:(Str.ofString "abcdefghijklmnopqrstuvwxyz").length=26:=by decide +kernel
 refine ⟨_,(fb (Ox (i:=2) Fc.nd rfl (Or.inr rfl) xc)
   (fb (wb (i:=3) Fc.nd (uo PySem.F.plainAttrs_str PySem.F.slot_str_join PySem.F.type_str_join Kx xc (ab (Og rfl (Ce rfl T.Mf (ab jb ib)) (Dc (sc:=ub zk) rfl (by decide +kernel)) (N:=["_law_k","_law_letters","_law_script"]) (sel:=[none,some 2,some 0]) (Wc (M:=["_law_script","_law_many","_law_letters","_law_word","_law_size","_law_at","_law_first","_law_some","_law_k","_law_name","_law_sign"]) (by decide +kernel)) (Blk.of (fun _ _ _ _=>(Eb (i:=0) (eh (N:=["_law_k","_law_letters","_law_script"]) (by decide +kernel) rfl))) (fun _ _ _ _=>⟨_,gf,by walk_at "B"⟩) (fun _ _ _ _=>⟨_,(Kb uF (pv 1) (qb g0 hr T.Bb T.yb.kp T.Ab (ab (pv 2) (ab (Ib Zb jb (pv 0)) (ab jb ib))))),by walk_at "B"⟩))) ib)))
   (fb (wb (i:=4) Fc.nd (Ib Zb jb (qb g0 hr T.Bb T.yb.kp T.Ab (ab (pv 0) (ab jb (ab jb ib))))))
   (fb (wb (i:=5) Fc.nd (qb g0 hr T.Bb T.yb.kp T.Ab (ab (pv 0) (ab jb (ab (pv 4) ib)))))
   (fb (wb (i:=6) Fc.nd (qb g0 hr T.Bb T.yb.kp T.Ab (ab (pv 0) (ab jb (ab jb ib)))))
   (fb (wb (i:=7) Fc.nd (wf ib))
   (fb (rf PassesOwn.never rfl (Ce rfl T.Mf (ab (pv 1) ib)) (Eb (i:=8) Fc.nd) (fb (wb (i:=9) Fc.nd (Fg ME (pv 3) ak (Oh (Ib Zb (pv 8) jb))))
   (fb (jd (Qb gg (qb g0 hr T.Bb T.yb.kp T.Ab (ab (pv 0) (ab jb (ab jb ib)))) jb (cc _)) (fb (wb (i:=10) Fc.nd (Kb uF (pv 2) (Ib lg (Ib Zb (pv 6) (Ib Nd jb (pv 8))) jb)))
   (lb (wb (i:=9) Fc.nd (Ib Gn (Ib Gn (Fg ME (pv 3) ak (Oh (pv 5))) (pv 10)) (Fg ME (pv 3) (Oh (Ib Zb (pv 5) jb)) (Oh (pv 4))))))) Sb)
   (lb (we (uo PySem.F.plainAttrs_list PySem.F.slot_list_append PySem.F.type_list_append nk (pv 7) (ab (pv 9) ib)))))))
   (fb (jd (Qb gg (qb g0 hr T.Bb T.yb.kp T.Ab (ab (pv 0) (ab jb (ab jb ib)))) jb (cc _)) (lb (we (gM PySem.F.plainAttrs_list PySem.F.slot_list_reverse PySem.F.type_list_reverse eB (pv 7)))) Sb)
   (lb (Gb (pv 7))))))))))),?_⟩
 refine zS (fun σ' H'=>H'=H∧σ'=[some (.ref a),some (.int m),some (.str (Str.ofString "abcdefghijklmnopqrstuvwxyz")),none,none,none,none,none,none,none,none]) (fun D' hD=>?_) fun zzM zzh=>?_
 ·walk_at "RD";exact hD _ _ ⟨rfl,rfl⟩
 rintro σ1 H1 ⟨rfl,rfl⟩;subst zzh;refine zS (fun σ' H'=>Tb H1 H'∧Sc K a ns H'∧∃ wd:Str,wd.cps.toList.length=8∧(∀ c ∈ wd.cps.toList,97 ≤ c∧c ≤ 122)∧σ'=[some (.ref a),some (.int m),some (.str (Str.ofString "abcdefghijklmnopqrstuvwxyz")),some (.str wd),none,none,none,none,none,none,none]) (fun D' hD=>?_) fun zzM zzh=>?_
 ·walk_at "RD";refine ⟨by decide,by decide,?_⟩;refine ad.range_map (n:=8) (fun i=>V.str (Rv (97 + (Wf ns (100 + (i:Int)) 26).toNat))) (by decide) (fun i N hi hN=>?_) (fun p hp=>?_)
  ·have d1:=yc ns (100 + (i:Int)) (m:=26) (by decide);have d2:=zc ns (100 + (i:Int)) (m:=26) (by decide);obtain ⟨c,hc,rfl⟩:=WH d1 d2;(walk_at "RD"; repeat (dsimp only [Jc];walk_at "RD"));exact ⟨Sub.name,S,by omega,by omega,by decide,by rw [hL];decide,_,hc,hN⟩
  ·have e:(List.range 8).map (fun i:Nat=>V.str (Rv (97 + (Wf ns (100 + (i:Int)) 26).toNat)))=Nc ((List.range 8).map fun i:Nat=>Rv (97 + (Wf ns (100 + (i:Int)) 26).toNat)):=by unfold Nc;rw [List.map_map];rfl
   refine ⟨p,rfl,(List.range 8).map fun i:Nat=>Rv (97 + (Wf ns (100 + (i:Int)) 26).toNat),by rw [← e];exact SqL.of gb,?_,?_⟩
   ·have h1:(List.map (fun x:Str=>x.length) ((List.range 8).map fun i:Nat=>Rv (97 + (Wf ns (100 + (i:Int)) 26).toNat))).sum=8:=by
     rw [List.map_map];rfl
    rw [h1,List.length_map,List.length_range];decide +kernel
   ·refine hD _ _ ⟨db hp,S.new hp,_,?_,fun c hc=>?_,rfl⟩
    ·rw [ss (fun i:Nat=>97 + (Wf ns (100 + (i:Int)) 26).toNat) 8,List.length_map,List.length_range]
    ·rw [ss (fun i:Nat=>97 + (Wf ns (100 + (i:Int)) 26).toNat) 8] at hc;obtain ⟨i,_,rfl⟩:=List.mem_map.mp hc;have d1:=yc ns (100 + (i:Int)) (m:=26) (by decide);have d2:=zc ns (100 + (i:Int)) (m:=26) (by decide);omega
 rintro σ2 H2 ⟨s2,S2,wd,hwl,hwa,rfl⟩;have hwn:wd.length=8:=by
  have:wd.length=wd.cps.toList.length:=by simp [Str.length]
  omega
 obtain ⟨z,hzz,hz1⟩:∃ z:Nat,1 + Wf ns 112 8=(z:Nat)∧(1 ≤ z∧z ≤ 8):=by
  have d1:=yc ns 112 (m:=8) (by decide);have d2:=zc ns 112 (m:=8) (by decide);exact ⟨(1 + Wf ns 112 8).toNat,by omega,by omega⟩
 subst zzh;refine zS (fun σ' H'=>H'=H2∧σ'=[some (.ref a),some (.int m),some (.str (Str.ofString "abcdefghijklmnopqrstuvwxyz")),some (.str wd),some (.int (z:Nat)),none,none,none,none,none,none]) (fun D' hD=>?_) fun zzM zzh=>?_
 ·(walk_at "RD"; repeat (dsimp only [Jc];walk_at "RD"));rw [hzz];exact ⟨S2,by omega,by omega,by decide,hD _ _ ⟨rfl,rfl⟩⟩
 rintro σ3 H3 ⟨rfl,rfl⟩;obtain ⟨at_,hat,hat1⟩:∃ at_:Nat,Wf ns 113 (z:Int)=(at_:Nat)∧at_ < z:=by
  have d1:=yc ns 113 (m:=(z:Int)) (by omega);have d2:=zc ns 113 (m:=(z:Int)) (by omega);exact ⟨(Wf ns 113 (z:Int)).toNat,by omega,by omega⟩
 subst zzh;refine zS (fun σ' H'=>H'=H3∧σ'=[some (.ref a),some (.int m),some (.str (Str.ofString "abcdefghijklmnopqrstuvwxyz")),some (.str wd),some (.int (z:Nat)),some (.int (at_:Nat)),none,none,none,none,none]) (fun D' hD=>?_) fun zzM zzh=>?_
 ·(walk_at "RD"; repeat (dsimp only [Jc];walk_at "RD"));rw [hat];exact ⟨S2,by omega,by omega,by omega,hD _ _ ⟨rfl,rfl⟩⟩
 rintro σ4 H4 ⟨rfl,rfl⟩;obtain ⟨f,hf,hf1⟩:∃ f:Nat,Wf ns 114 26=(f:Nat)∧f < 26:=by
  have d1:=yc ns 114 (m:=26) (by decide);have d2:=zc ns 114 (m:=26) (by decide);exact ⟨(Wf ns 114 26).toNat,by omega,by omega⟩
 subst zzh;refine zS (fun σ' H'=>H'=H4∧σ'=[some (.ref a),some (.int m),some (.str (Str.ofString "abcdefghijklmnopqrstuvwxyz")),some (.str wd),some (.int (z:Nat)),some (.int (at_:Nat)),some (.int (f:Nat)),none,none,none,none]) (fun D' hD=>?_) fun zzM zzh=>?_
 ·(walk_at "RD"; repeat (dsimp only [Jc];walk_at "RD"));rw [hf];exact ⟨S2,by omega,by omega,by decide,hD _ _ ⟨rfl,rfl⟩⟩
 rintro σ5 H5 ⟨rfl,rfl⟩;subst zzh;refine zS (fun σ' H'=>Sc K a ns H'∧Tb H5 H'∧∃ rl,H5 rl=none∧H' rl=some (.lst [])∧σ'=[some (.ref a),some (.int m),some (.str (Str.ofString "abcdefghijklmnopqrstuvwxyz")),some (.str wd),some (.int (z:Nat)),some (.int (at_:Nat)),some (.int (f:Nat)),some (.ref rl),none,none,none]) (fun D' hD=>?_) fun zzM zzh=>?_
 ·walk_at "RD";exact ⟨Nat.zero_le _,fun rl hrl=>hD _ _ ⟨S2.new hrl,db hrl,rl,hrl,gb,rfl⟩⟩
 rintro σ6 H6 ⟨S6,s6,rl,hrl,w6,rfl⟩;obtain ⟨b,hb⟩:∃ b:Bool,decide (Wf ns 110 2=1)=b:=⟨_,rfl⟩;subst zzh;obtain ⟨g,hg⟩:∃ g:Nat→List Nat,g=fun k=>if b=true then nmB wd.cps.toList at_ z f k else nmA wd.cps.toList k:=⟨_,rfl⟩
 refine zS (fun σ' H'=>Sc K a ns H'∧Tb H5 H'∧(∃ xs:List Str,H' rl=some (.lst (Nc xs))∧xs.map (·.cps.toList)=(List.range m).map g)∧∃ x8 x9 x10,σ'=[some (.ref a),some (.int m),some (.str (Str.ofString "abcdefghijklmnopqrstuvwxyz")),some (.str wd),some (.int (z:Nat)),some (.int (at_:Nat)),some (.int (f:Nat)),some (.ref rl),x8,x9,x10]) (fun D' hD=>?_) fun zzM zzh=>?_
 ·walk_at "RD";refine ⟨by omega,by omega,?_⟩;refine Hj.range (fun i σ H'=>Sc K a ns H'∧Tb H5 H'∧(∃ xs:List Str,H' rl=some (.lst (Nc xs))∧xs.map (·.cps.toList)=(List.range i).map g)∧∃ x8 x9 x10,σ=[some (.ref a),some (.int m),some (.str (Str.ofString "abcdefghijklmnopqrstuvwxyz")),some (.str wd),some (.int (z:Nat)),some (.int (at_:Nat)),some (.int (f:Nat)),some (.ref rl),x8,x9,x10]) ⟨S6,s6,⟨[],w6,rfl⟩,_,_,_,rfl⟩ ?_ ?_
  ·rintro i σ H' hi zzq;refine zP fun zzM zzh=>?_
   obtain ⟨S7,s7,⟨xs,w7,hxs⟩,x8,x9,x10,rfl⟩:=zzq;have hi8:i < 8:=by have:i < (m:Int).toNat:=hi;omega
   have hxl:xs.length=i:=by have:=congrArg List.length hxs;rwa [List.length_map,List.length_map,List.length_range] at this
   subst zzh;simp only [Bg,xb,List.set_cons_succ,List.set_cons_zero,Int.zero_add];refine zzC (fun σ' H''=>H''=H'∧σ'=[some (.ref a),some (.int m),some (.str (Str.ofString "abcdefghijklmnopqrstuvwxyz")),some (.str wd),some (.int (z:Nat)),some (.int (at_:Nat)),some (.int (f:Nat)),some (.ref rl),some (.int (i:Nat)),some (.str (Txt.slice wd none (some ((i + 1:Nat):Int)))),x10]) (fun D' hD=>?_) fun zzM zzh=>?_
   ·walk_at "RD";exact ⟨by rw [hwn];decide,hD _ _ ⟨rfl,by rw [Int.natCast_add];rfl⟩⟩
   rintro σA HA ⟨rfl,rfl⟩;subst zzh;simp only [xb];refine zzC (fun σ' H''=>H''=HA∧∃ nm:Str,nm.cps.toList=g i∧∃ x10,σ'=[some (.ref a),some (.int m),some (.str (Str.ofString "abcdefghijklmnopqrstuvwxyz")),some (.str wd),some (.int (z:Nat)),some (.int (at_:Nat)),some (.int (f:Nat)),some (.ref rl),some (.int (i:Nat)),some (.str nm),x10]) (fun D' hD=>?_) fun zzM zzh=>?_
   ·refine Mb b (fun Q hQ=>?_) (fun hbt=>?_) (fun hbf=>?_)
    ·(walk_at "RD"; repeat (dsimp only [Jc];walk_at "RD"));rw [hb];exact ⟨S7,by omega,by omega,by decide,hQ⟩
    ·have hgi:g i=nmB wd.cps.toList at_ z f i:=by rw [hg];exact if_pos hbt
     obtain ⟨c,hc,rfl⟩:=WH (i:=((f:Int) + 7 * (i:Int)) % 26) (Int.emod_nonneg _ (by decide)) (Int.emod_lt_of_pos _ (by decide));have hbig:∀ k:Nat,k ≤ 1000→k ≤ sizeLine:=fun k h=>Nat.le_trans h (by decide)
     have l1:=Txt.slice_le wd none (some (at_:Int));have l2:=Txt.slice_le wd (some ((at_:Int) + 1)) (some (z:Int));have l3:(Rv (97 + (((f:Int) + 7 * (i:Int)) % 26).toNat)).length=1:=rfl;walk_at "RD";refine ⟨.inl ⟨by decide,by decide⟩,by decide,by rw [hL];decide,_,hc,by rw [hwn];decide,hbig _ (by show _ + (Rv (97 + (((f:Int) + 7 * (i:Int)) % 26).toNat)).length ≤ 1000;omega),by rw [hwn];decide,hbig _ (by show (_ ++ Rv (97 + (((f:Int) + 7 * (i:Int)) % 26).toNat)).length + _ ≤ 1000;rw [Jw];omega),?_⟩;refine hD _ _ ⟨rfl,_,?_,_,rfl⟩;rw [hgi];unfold nmB;rw [Str.cps_append,Array.toList_append,Str.cps_append,Array.toList_append,Wy wd (by omega),show ((at_:Int) + 1)=((at_ + 1:Nat):Int) by omega,lw wd (by omega) (by omega),show (((f:Int) + 7 * (i:Int)) % 26).toNat=(f + 7 * i) % 26 by omega]
    ·have hgi:g i=nmA wd.cps.toList i:=by rw [hg];exact if_neg (by rw [hbf];decide)
     walk_at "RD";exact hD _ _ ⟨rfl,_,by rw [hgi,Wy wd (by omega)];rfl,_,rfl⟩
   rintro σB HB ⟨rfl,nm,hnm,x10,rfl⟩;subst zzh;walk_at "RD";refine ⟨.inl ⟨_,SqL.of w7⟩,_,w7,Nat.lt_of_le_of_lt (show (Nc xs).length ≤ 8 by unfold Nc;rw [List.length_map];omega) (by decide),S7.set w7 (fun _ _ z=>by cases z),s7.updN hrl,⟨xs ++ [nm],?_,?_⟩,?_⟩
   ·rw [gb];unfold Nc;rw [List.map_append];rfl
   ·rw [List.map_append,hxs,List.range_succ,List.map_append,List.map_cons,List.map_nil,hnm];rfl
   ·repeat (first | exact ⟨_,rfl⟩ | refine ⟨⟨_,rfl⟩,?_⟩)
  ·rintro σ H' zzq;refine zP fun zzM zzh=>?_
   obtain ⟨S7,s7,⟨xs,w7,hxs⟩,x8,x9,x10,rfl⟩:=zzq;subst zzh;exact hD _ _ ⟨S7,s7,⟨xs,w7,by rw [hxs,show (m:Int).toNat=m by omega]⟩,x8,x9,x10,rfl⟩
 rintro σ7 H7 ⟨S7,s7,⟨xs,w7,hxs⟩,x8,x9,x10,rfl⟩;have hxl:xs.length=m:=by have:=congrArg List.length hxs;rwa [List.length_map,List.length_map,List.length_range] at this
 have gok:∀ k,k < m→(1 ≤ (g k).length∧(g k).length ≤ 8)∧∀ c ∈ g k,97 ≤ c∧c ≤ 122:=fun k hk=>by
  rw [hg];dsimp only;split
  ·have:=BM hwl hwa (f:=f) (k:=k) hat1 hz1.2;exact ⟨by omega,this.2⟩
  ·have:=UE hwl hwa (k:=k) (by omega);exact ⟨by omega,this.2⟩
 have ginj:∀ i j,i < m→j < m→g i=g j→i=j:=fun i j hi hj e=>by
  rw [hg] at e
  try dsimp only at e
  split at e
  ·exact LJ hwl hat1 hz1.2 (by omega) (by omega) e
  ·have h1:=UE hwl hwa (k:=i) (by omega);have h2:=UE hwl hwa (k:=j) (by omega);rw [e] at h1;omega
 have hat':∀ (i:Nat) (x:Str),xs[i]? = some x→i < m∧x.cps.toList=g i:=fun i x hx=>by
  have hi:i < m:=by rw [← hxl];exact (List.getElem?_eq_some_iff.mp hx).1
  have e:=congrArg (fun l=>l[i]?) hxs
  try dsimp only at e
  rw [List.getElem?_map,hx,List.getElem?_map,List.getElem?_range hi] at e;exact ⟨hi,Option.some.inj e⟩
 have N:Nms m xs:=by
  refine ⟨hxl,List.pairwise_iff_getElem.mpr fun i j hi hj hij e=>?_,fun x hx=>?_⟩
  ·obtain ⟨a1,a2⟩:=hat' i _ (List.getElem?_eq_getElem hi);obtain ⟨b1,b2⟩:=hat' j _ (List.getElem?_eq_getElem hj);rw [e,b2] at a2;have:=ginj i j a1 b1 a2.symm;omega
  ·obtain ⟨i,hi⟩:=List.getElem?_of_mem hx;obtain ⟨a1,a2⟩:=hat' i _ hi;have:=gok i a1;exact xK a2 this.1.1 this.1.2 this.2
 subst zzh;refine zS (fun σ' H'=>Sc K a ns H'∧Tb H5 H'∧(∃ xs:List Str,H' rl=some (.lst (Nc xs))∧Nms m xs)∧∃ x8 x9 x10,σ'=[some (.ref a),some (.int m),some (.str (Str.ofString "abcdefghijklmnopqrstuvwxyz")),some (.str wd),some (.int (z:Nat)),some (.int (at_:Nat)),some (.int (f:Nat)),some (.ref rl),x8,x9,x10]) (fun D' hD=>?_) fun zzM zzh=>?_
 ·refine Mb (decide (Wf ns 111 2=1)) (fun Q hQ=>?_) (fun _=>?_) (fun _=>?_)
  ·(walk_at "RD"; repeat (dsimp only [Jc];walk_at "RD"));exact ⟨S7,by omega,by omega,by decide,hQ⟩
  ·walk_at "RD";refine ⟨.inl ⟨_,SqL.of w7⟩,_,w7,hD _ _ ⟨S7.set w7 (fun _ _ z=>by cases z),s7.updN hrl,⟨xs.reverse,by rw [gb];unfold Nc;rw [List.map_reverse],by rw [List.length_reverse];exact N.1,List.pairwise_reverse.mpr (N.2.1.imp fun h=>Ne.symm h),fun x hx=>N.2.2 x (List.mem_reverse.mp hx)⟩,_,_,_,rfl⟩⟩
  ·walk_at "RD";exact hD _ _ ⟨S7,s7,⟨xs,w7,N⟩,_,_,_,rfl⟩
 rintro σ8 H8 ⟨S8,s8,⟨ys,w8,N8⟩,y8,y9,y10,rfl⟩;subst zzh;walk_at "RD";exact q rl ys H8 (s2.trans s8) S8 (s2.free hrl) w8 N8
end
end My
namespace My
open PySem L2
noncomputable abbrev wH (d:WD):List V:=[.str (se d.k),.str d.name,.int d.start,.int d.fin,.int d.off,.int d.near,.int d.least]
noncomputable def LW (H:Hp) (wl:Addr) (ds:List WD):Prop:=∃ qs:List Addr,H wl=some (.lst (qs.map V.ref))∧qs.length=ds.length∧∀ (i:Nat) (q:Addr) (d:WD),qs[i]? = some q→ds[i]? = some d→H q=some (.tup (wH d))
theorem LW.same {H H':Hp} {wl:Addr} {ds:List WD} (h:LW H wl ds) (s:Tb H H'):LW H' wl ds:=by
 obtain ⟨qs,e1,e2,al⟩:=h;exact ⟨qs,s _ _ e1,e2,fun i q d h1 h2=>s _ _ (al i q d h1 h2)⟩
theorem LW.snoc {H:Hp} {wl p:Addr} {ds:List WD} {d:WD} {qs:List Addr} (l1:H wl=some (.lst (qs.map V.ref))) (l2:qs.length=ds.length)
  (al:∀ (i:Nat) (q:Addr) (d:WD),qs[i]? = some q→ds[i]? = some d→H q=some (.tup (wH d))) (hp:H p=none) :
  LW (upd (upd H p (.tup (wH d))) wl (.lst (qs.map V.ref ++ [.ref p]))) wl (ds ++ [d]):=by
 have hpw:p ≠ wl:=(Jb l1 hp).symm;refine ⟨qs ++ [p],by rw [gb,List.map_append];rfl,by rw [List.length_append,List.length_append,l2];rfl,fun i q e h1 h2=>?_⟩;rcases Ki h1 with ⟨z1,z2⟩ | ⟨z1,rfl⟩
 ·rcases Ki h2 with ⟨y1,y2⟩ | ⟨y1,_⟩
  ·have:=al i q e z2 y2;rw [Db (Ji this l1 (by intro z;cases z)),Db (Jb this hp)];exact this
  ·omega
 ·rcases Ki h2 with ⟨y1,y2⟩ | ⟨y1,rfl⟩
  ·omega
  ·rw [Db hpw,gb]
theorem KL {n s j:Int} (h0:0 ≤ s) (h1:s < n) (h2:0 ≤ j) (h3:j < n - 1):s ≠ (s + 1 + j) % n:=by
 by_cases c:s + 1 + j < n
 ·rw [Int.emod_eq_of_lt (by omega) c];omega
 ·rw [show s + 1 + j=(s + 1 + j - n) + n * 1 by omega,Int.add_mul_emod_self_left,Int.emod_eq_of_lt (by omega) (by omega)];omega
theorem EJ {i:Int} (h0:0 ≤ i) (h1:i < 3):atI [V.str (Str.ofString "car"),V.str (Str.ofString "foot"),V.str (Str.ofString "tram")] i=some (.str (se i.toNat)):=by
 have:i=0∨i=1∨i=2:=by omega
 rcases this with rfl | rfl | rfl
 ·exact Cb (j:=0) rfl
 ·exact Cb (j:=1) rfl
 ·exact Cb (j:=2) rfl
structure TK (n:Int) (ds:List WD):Prop where
 al:∀ d ∈ ds,WOk n d∧True
 nd:(ds.map (·.name)).Nodup
theorem TK.cok {n:Int} {ds:List WD} (h:TK n ds) (hn:2 ≤ n∧n ≤ 99) (hl:1 ≤ ds.length∧ds.length ≤ 12):COk n ds:=⟨hn,hl,fun d hd=>(h.al d hd).1,h.nd⟩
noncomputable def xz (K:PySem.W.Frag) (a:Addr) (ns:List Int):Sp:=fun vs H Q _=>∃ (m:Nat) (n:Int),vs=[.ref a,.int m,.int n]∧Sc K a ns H∧(1 ≤ m∧m ≤ 8)∧(4 ≤ n∧n ≤ 99)∧∀ p ds H',Tb H H'→Sc K a ns H'→H p=none→LW H' p ds→ds.length=m→TK n ds→Q (.ref p) H'
section
variable {P:Program} {w:World} {K:PySem.W.Frag} {mg:Str→Option Value} {base:Heap} {t:Adr}
theorem IG (T:Txt w K mg t) (a:Addr) (ns:List Int) (h63:ns.length ≤ 63):Rb P w K mg base CX0 3 t.cj t.Mi q42 (xz K a ns):=by
 have g0:Rb P w K mg base CX0 2 t.Hd t.Gd q11 (Jc K a ns):=(Wl T a ns h63).mono (by decide);have g54:Rb P w K mg base CX0 2 t.vh t.gh q41 (jv K a ns):=YE T a ns h63;refine T.Rl.ok rc (fun vs H Q E h=>?_) (fun _ _ _ s H vs Q E hr h=>?_)
 ·obtain ⟨m,n,rfl,_⟩:=h;rfl
 obtain ⟨m,n,rfl,S,hm,hn,q⟩:=h;refine ⟨_,(fb (wb (i:=3) rc.nd (qb g54 hr T.Lu T.Ij.kp T.mv (ab (pv 0) (ab (pv 1) ib))))
   (fb (wb (i:=4) rc.nd (qb g0 hr T.Bb T.yb.kp T.Ab (ab (pv 0) (ab jb (ab (pv 2) ib)))))
   (fb (wb (i:=5) rc.nd (wf ib))
   (fb (rf PassesOwn.never rfl (Ce rfl T.Mf (ab (pv 1) ib)) (Eb (i:=6) rc.nd) (fb (wb (i:=7) rc.nd (qb g0 hr T.Bb T.yb.kp T.Ab (ab (pv 0) (ab (Ib Zb jb (Ib Nd jb (pv 6))) (ab (pv 2) ib)))))
   (fb (wb (i:=8) rc.nd (Ib lg (Ib Zb (Ib Zb (pv 7) jb) (qb g0 hr T.Bb T.yb.kp T.Ab (ab (pv 0) (ab (Ib Zb jb (Ib Nd jb (pv 6))) (ab (Ib ij (pv 2) jb) ib))))) (pv 2)))
   (fb (jd (PW.pt (Av (Qb gg (qb g0 hr T.Bb T.yb.kp T.Ab (ab (pv 0) (ab jb (ab jb ib)))) jb (cc _)) (At (Qb EG (pv 7) (pv 4) (cc _))))) (lb (wb (i:=8) rc.nd (pv 4))) Sb)
   (fb (wb (i:=9) rc.nd (qb g0 hr T.Bb T.yb.kp T.Ab (ab (pv 0) (ab (Ib Zb jb (Ib Nd jb (pv 6))) (ab jb ib)))))
   (fb (wb (i:=10) rc.nd (qb g0 hr T.Bb T.yb.kp T.Ab (ab (pv 0) (ab (Ib Zb jb (Ib Nd jb (pv 6))) (ab jb ib)))))
   (fb (jd (Qb gg (qb g0 hr T.Bb T.yb.kp T.Ab (ab (pv 0) (ab (Ib Zb jb (pv 6)) (ab jb ib)))) jb (cc _)) (lb (wb (i:=9) rc.nd (qb g0 hr T.Bb T.yb.kp T.Ab (ab (pv 0) (ab (Ib Zb jb (Ib Nd jb (pv 6))) (ab jb ib)))))) Sb)
   (fb (jd (Qb gg (qb g0 hr T.Bb T.yb.kp T.Ab (ab (pv 0) (ab (Ib Zb jb (Ib Nd jb (pv 6))) (ab jb ib)))) jb (cc _)) (lb (wb (i:=10) rc.nd (qb g0 hr T.Bb T.yb.kp T.Ab (ab (pv 0) (ab (Ib Zb jb (Ib Nd jb (pv 6))) (ab jb ib)))))) Sb)
   (fb (wb (i:=11) rc.nd (Kb Ye (wf (ab xc (ab xc (ab xc ib)))) (qb g0 hr T.Bb T.yb.kp T.Ab (ab (pv 0) (ab (Ib Zb jb (Ib Nd jb (pv 6))) (ab jb ib))))))
   (fb (wb (i:=12) rc.nd (Ib Zb jb (qb g0 hr T.Bb T.yb.kp T.Ab (ab (pv 0) (ab (Ib Zb jb (Ib Nd jb (pv 6))) (ab jb ib))))))
   (lb (we (uo PySem.F.plainAttrs_list PySem.F.slot_list_append PySem.F.type_list_append nk (pv 5) (ab (Ec (ab (pv 11) (ab (Kb Ye (pv 3) (pv 6)) (ab (pv 7) (ab (pv 8) (ab (pv 9) (ab (pv 10) (ab (pv 12) ib)))))))) ib))))))))))))))
   (lb (Gb (pv 5))))))),?_⟩
 refine zS (fun σ' H'=>Tb H H'∧Sc K a ns H'∧∃ nl xs,H' nl=some (.lst (Nc xs))∧Nms m xs∧σ'=[some (.ref a),some (.int m),some (.int n),some (.ref nl),none,none,none,none,none,none,none,none,none]) (fun D' hD=>?_) fun zzM zzh=>?_
 ·walk_at "RD";exact ⟨m,rfl,S,hm,fun p xs H' s1 S1 _ e N=>hD _ _ ⟨s1,S1,p,xs,e,N,rfl⟩⟩
 rintro σ1 H1 ⟨s1,S1,nl,xs,en,N,rfl⟩;subst zzh;refine zS (fun σ' H'=>H'=H1∧∃ oe:Int,(0 ≤ oe∧oe < n)∧σ'=[some (.ref a),some (.int m),some (.int n),some (.ref nl),some (.int oe),none,none,none,none,none,none,none,none]) (fun D' hD=>?_) fun zzM zzh=>?_
 ·have d1:=yc ns 115 (m:=n) (by omega);have d2:=zc ns 115 (m:=n) (by omega);(walk_at "RD"; repeat (dsimp only [Jc];walk_at "RD"));exact ⟨S1,by omega,by omega,by omega,hD _ _ ⟨rfl,_,⟨d1,d2⟩,rfl⟩⟩
 rintro σ2 H2 ⟨rfl,oe,hoe,rfl⟩;subst zzh;refine zS (fun σ' H'=>Sc K a ns H'∧Tb H2 H'∧∃ wl,H2 wl=none∧H' wl=some (.lst [])∧σ'=[some (.ref a),some (.int m),some (.int n),some (.ref nl),some (.int oe),some (.ref wl),none,none,none,none,none,none,none]) (fun D' hD=>?_) fun zzM zzh=>?_
 ·walk_at "RD";exact ⟨Nat.zero_le _,fun wl hwl=>hD _ _ ⟨S1.new hwl,db hwl,wl,hwl,gb,rfl⟩⟩
 rintro σ3 H3 ⟨S3,s3,wl,hwl,w3,rfl⟩;subst zzh;walk_at "RD";refine ⟨by omega,by omega,?_⟩;refine Hj.range (fun i σ H'=>Sc K a ns H'∧Tb H2 H'∧(∃ ds,LW H' wl ds∧ds.length=i∧(∀ d ∈ ds,WOk n d)∧∀ (j:Nat) (d:WD),ds[j]? = some d→xs[j]? = some d.name)∧∃ x6 x7 x8 x9 x10 x11 x12,σ=[some (.ref a),some (.int m),some (.int n),some (.ref nl),some (.int oe),some (.ref wl),x6,x7,x8,x9,x10,x11,x12]) ⟨S3,s3,⟨[],⟨[],w3,rfl,fun i q d h=>by simp at h⟩,rfl,fun d h=>by simp at h,fun j d h=>by simp at h⟩,_,_,_,_,_,_,_,rfl⟩ ?_ ?_
 ·rintro i σ H' hi zzq;refine zP fun zzM zzh=>?_
  obtain ⟨S4,s4,⟨ds,L4,hdl,hok,hnm⟩,x6,x7,x8,x9,x10,x11,x12,rfl⟩:=zzq;have him:i < m:=by have:i < (m:Int).toNat:=hi;omega
  have hxi:xs[i]? = some (xs[i]'(by rw [N.1];exact him)):=List.getElem?_eq_getElem _;subst zzh;generalize xs[i]'(by rw [N.1];exact him)=nm at hxi;have en4:=s4 _ _ en;have hnat:atI (Nc xs) ((i:Nat):Int)=some (.str nm):=Cb (by unfold Nc;rw [List.getElem?_map,hxi];rfl);simp only [Bg,xb,List.set_cons_succ,List.set_cons_zero,Int.zero_add];refine zzC (fun σ' H''=>H''=H'∧∃ st:Int,(0 ≤ st∧st < n)∧σ'=[some (.ref a),some (.int m),some (.int n),some (.ref nl),some (.int oe),some (.ref wl),some (.int (i:Nat)),some (.int st),x8,x9,x10,x11,x12]) (fun D' hD=>?_) fun zzM zzh=>?_
  ·have d1:=yc ns (120 + 7 * (i:Int)) (m:=n) (by omega);have d2:=zc ns (120 + 7 * (i:Int)) (m:=n) (by omega);(walk_at "RD"; repeat (dsimp only [Jc];walk_at "RD"));exact ⟨.inl ⟨by decide,by decide⟩,S4,by omega,by omega,by omega,hD _ _ ⟨rfl,_,⟨d1,d2⟩,rfl⟩⟩
  rintro σA HA ⟨rfl,st,hst,rfl⟩;subst zzh;simp only [xb];refine zzC (fun σ' H''=>H''=HA∧∃ fi:Int,(0 ≤ fi∧fi < n)∧st ≠ fi∧σ'=[some (.ref a),some (.int m),some (.int n),some (.ref nl),some (.int oe),some (.ref wl),some (.int (i:Nat)),some (.int st),some (.int fi),x9,x10,x11,x12]) (fun D' hD=>?_) fun zzM zzh=>?_
  ·have d1:=yc ns (121 + 7 * (i:Int)) (m:=n - 1) (by omega);have d2:=zc ns (121 + 7 * (i:Int)) (m:=n - 1) (by omega);have m0:=Int.emod_nonneg (st + 1 + Wf ns (121 + 7 * (i:Int)) (n - 1)) (show n ≠ 0 by omega);have m1:=Int.emod_lt_of_pos (st + 1 + Wf ns (121 + 7 * (i:Int)) (n - 1)) (show 0 < n by omega);(walk_at "RD"; repeat (dsimp only [Jc];walk_at "RD"));exact ⟨.inl ⟨by decide,by decide⟩,S4,by omega,by omega,by omega,by omega,hD _ _ ⟨rfl,_,⟨m0,m1⟩,KL hst.1 hst.2 d1 (by omega),rfl⟩⟩
  rintro σB HB ⟨rfl,fi,hfi,hne,rfl⟩;subst zzh;simp only [xb];refine zzC (fun σ' H''=>H''=HB∧∃ fi:Int,(0 ≤ fi∧fi < n)∧st ≠ fi∧σ'=[some (.ref a),some (.int m),some (.int n),some (.ref nl),some (.int oe),some (.ref wl),some (.int (i:Nat)),some (.int st),some (.int fi),x9,x10,x11,x12]) (fun D' hD=>?_) fun zzM zzh=>?_
  ·refine Mb (decide (Wf ns 116 3=0) && decide (st ≠ oe)) (fun Q hQ=>?_) (fun hb=>?_) (fun hb=>?_)
   ·(walk_at "RD"; repeat (dsimp only [Jc];walk_at "RD"));refine ⟨S4,by omega,by omega,by decide,?_⟩;by_cases c0:Wf ns 116 3=0
    ·rw [if_pos (decide_eq_true c0)];rw [decide_eq_true c0,Bool.true_and,show decide (st ≠ oe) = !decide (st=oe) from decide_not] at hQ;exact hQ
    ·rw [if_neg (by simpa using c0)];rw [decide_eq_false c0,Bool.false_and] at hQ;exact hQ
   ·rw [Bool.and_eq_true] at hb;walk_at "RD";exact hD _ _ ⟨rfl,oe,hoe,of_decide_eq_true hb.2,rfl⟩
   ·walk_at "RD";exact hD _ _ ⟨rfl,fi,hfi,hne,rfl⟩
  rintro σC HC ⟨rfl,fi2,hfi2,hne2,rfl⟩;subst zzh;simp only [xb];refine zzC (fun σ' H''=>H''=HC∧∃ of_:Int,(0 ≤ of_∧of_ ≤ 30)∧σ'=[some (.ref a),some (.int m),some (.int n),some (.ref nl),some (.int oe),some (.ref wl),some (.int (i:Nat)),some (.int st),some (.int fi2),some (.int of_),x10,x11,x12]) (fun D' hD=>?_) fun zzM zzh=>?_
  ·have d1:=yc ns (123 + 7 * (i:Int)) (m:=9) (by decide);have d2:=zc ns (123 + 7 * (i:Int)) (m:=9) (by decide);(walk_at "RD"; repeat (dsimp only [Jc];walk_at "RD"));exact ⟨.inl ⟨by decide,by decide⟩,S4,by omega,by omega,by decide,hD _ _ ⟨rfl,_,by omega,rfl⟩⟩
  rintro σD HD ⟨rfl,of1,hof1,rfl⟩;subst zzh;simp only [xb];refine zzC (fun σ' H''=>H''=HD∧∃ ne_:Int,(0 ≤ ne_∧ne_ ≤ 30)∧σ'=[some (.ref a),some (.int m),some (.int n),some (.ref nl),some (.int oe),some (.ref wl),some (.int (i:Nat)),some (.int st),some (.int fi2),some (.int of1),some (.int ne_),x11,x12]) (fun D' hD=>?_) fun zzM zzh=>?_
  ·have d1:=yc ns (125 + 7 * (i:Int)) (m:=6) (by decide);have d2:=zc ns (125 + 7 * (i:Int)) (m:=6) (by decide);(walk_at "RD"; repeat (dsimp only [Jc];walk_at "RD"));exact ⟨.inl ⟨by decide,by decide⟩,S4,by omega,by omega,by decide,hD _ _ ⟨rfl,_,by omega,rfl⟩⟩
  rintro σE HE ⟨rfl,ne1,hne1,rfl⟩;subst zzh;simp only [xb];refine zzC (fun σ' H''=>H''=HE∧∃ of_:Int,(0 ≤ of_∧of_ ≤ 30)∧σ'=[some (.ref a),some (.int m),some (.int n),some (.ref nl),some (.int oe),some (.ref wl),some (.int (i:Nat)),some (.int st),some (.int fi2),some (.int of_),some (.int ne1),x11,x12]) (fun D' hD=>?_) fun zzM zzh=>?_
  ·refine Mb (decide (Wf ns (117 + (i:Int)) 6=0)) (fun Q hQ=>?_) (fun _=>?_) (fun _=>?_)
   ·(walk_at "RD"; repeat (dsimp only [Jc];walk_at "RD"));exact ⟨S4,by omega,by omega,by decide,hQ⟩
   ·have d1:=yc ns (123 + 7 * (i:Int)) (m:=31) (by decide);have d2:=zc ns (123 + 7 * (i:Int)) (m:=31) (by decide);(walk_at "RD"; repeat (dsimp only [Jc];walk_at "RD"));exact ⟨.inl ⟨by decide,by decide⟩,S4,by omega,by omega,by decide,hD _ _ ⟨rfl,_,by omega,rfl⟩⟩
   ·walk_at "RD";exact hD _ _ ⟨rfl,of1,hof1,rfl⟩
  rintro σF HF ⟨rfl,of2,hof2,rfl⟩;subst zzh;simp only [xb];refine zzC (fun σ' H''=>H''=HF∧∃ ne_:Int,(0 ≤ ne_∧ne_ ≤ 30)∧σ'=[some (.ref a),some (.int m),some (.int n),some (.ref nl),some (.int oe),some (.ref wl),some (.int (i:Nat)),some (.int st),some (.int fi2),some (.int of2),some (.int ne_),x11,x12]) (fun D' hD=>?_) fun zzM zzh=>?_
  ·refine Mb (decide (Wf ns (124 + 7 * (i:Int)) 8=0)) (fun Q hQ=>?_) (fun _=>?_) (fun _=>?_)
   ·(walk_at "RD"; repeat (dsimp only [Jc];walk_at "RD"));exact ⟨.inl ⟨by decide,by decide⟩,S4,by omega,by omega,by decide,hQ⟩
   ·have d1:=yc ns (125 + 7 * (i:Int)) (m:=31) (by decide);have d2:=zc ns (125 + 7 * (i:Int)) (m:=31) (by decide);(walk_at "RD"; repeat (dsimp only [Jc];walk_at "RD"));exact ⟨.inl ⟨by decide,by decide⟩,S4,by omega,by omega,by decide,hD _ _ ⟨rfl,_,by omega,rfl⟩⟩
   ·walk_at "RD";exact hD _ _ ⟨rfl,ne1,hne1,rfl⟩
  rintro σG HG ⟨rfl,ne2,hne2',rfl⟩;subst zzh;simp only [xb];refine zzC (fun σ' H''=>Tb HG H''∧Sc K a ns H''∧∃ k:Nat,k < 3∧σ'=[some (.ref a),some (.int m),some (.int n),some (.ref nl),some (.int oe),some (.ref wl),some (.int (i:Nat)),some (.int st),some (.int fi2),some (.int of2),some (.int ne2),some (.str (se k)),x12]) (fun D' hD=>?_) fun zzM zzh=>?_
  ·have d1:=yc ns (122 + 7 * (i:Int)) (m:=3) (by decide);have d2:=zc ns (122 + 7 * (i:Int)) (m:=3) (by decide);(walk_at "RD"; repeat (dsimp only [Jc];walk_at "RD"));exact ⟨by decide,fun p hp=>⟨.inl ⟨by decide,by decide⟩,S4.new hp,by omega,by omega,by decide,_,SqL.of gb,_,EJ d1 d2,hD _ _ ⟨db hp,S4.new hp,_,by omega,rfl⟩⟩⟩
  rintro σH HH ⟨sH,SH,k,hk,rfl⟩;have enH:=sH _ _ en4;have LH:=L4.same sH;subst zzh;simp only [xb];refine zzC (fun σ' H''=>H''=HH∧∃ le_:Int,(1 ≤ le_∧le_ ≤ 4)∧σ'=[some (.ref a),some (.int m),some (.int n),some (.ref nl),some (.int oe),some (.ref wl),some (.int (i:Nat)),some (.int st),some (.int fi2),some (.int of2),some (.int ne2),some (.str (se k)),some (.int le_)]) (fun D' hD=>?_) fun zzM zzh=>?_
  ·have d1:=yc ns (126 + 7 * (i:Int)) (m:=4) (by decide);have d2:=zc ns (126 + 7 * (i:Int)) (m:=4) (by decide);(walk_at "RD"; repeat (dsimp only [Jc];walk_at "RD"));exact ⟨.inl ⟨by decide,by decide⟩,SH,by omega,by omega,by decide,hD _ _ ⟨rfl,_,by omega,rfl⟩⟩
  rintro σI HI ⟨rfl,le_,hle,rfl⟩;obtain ⟨qs,l1,l2,al⟩:=LH;subst zzh;walk_at "RD";refine ⟨.inl ⟨_,SqL.of l1⟩,_,SqL.of enH,_,hnat,by decide,fun p hp=>?_⟩;have hwp:wl ≠ p:=Jb l1 hp;have L':=LW.snoc (d:=⟨k,nm,st,fi2,of2,ne2,le_⟩) l1 l2 al hp;refine ⟨_,by rw [Db hwp];exact l1,Nat.lt_of_le_of_lt (show (qs.map V.ref).length ≤ 8 by rw [List.length_map];omega) (by decide),(SH.new hp).set (by rw [Db hwp];exact l1) (fun _ _ z=>by cases z),((s4.trans sH).trans (db hp)).updN hwl,⟨ds ++ [⟨k,nm,st,fi2,of2,ne2,le_⟩],L',by rw [List.length_append,hdl];rfl,fun d hd=>?_,fun j d hd=>?_⟩,?_⟩
  ·rcases List.mem_append.mp hd with hd | hd
   ·exact hok d hd
   ·rw [List.mem_singleton.mp hd];exact ⟨hk,N.2.2 nm (List.mem_of_getElem? hxi),⟨hst.1,hst.2⟩,⟨hfi2.1,hfi2.2⟩,hne2,hof2,hne2',⟨hle.1,by dsimp only;omega⟩⟩
  ·rcases Ki hd with ⟨_,z⟩ | ⟨z,rfl⟩
   ·exact hnm j d z
   ·rw [z,hdl];exact hxi
  ·repeat (first | exact ⟨_,rfl⟩ | refine ⟨⟨_,rfl⟩,?_⟩)
 ·rintro σ H' zzq;refine zP fun zzM zzh=>?_
  obtain ⟨S4,s4,⟨ds,L4,hdl,hok,hnm⟩,x6,x7,x8,x9,x10,x11,x12,rfl⟩:=zzq;subst zzh;rw [show (m:Int).toNat=m by omega] at hdl;walk_at "RD";refine q wl ds H' (s1.trans s4) S4 (s1.free hwl) L4 hdl ⟨fun d hd=>⟨hok d hd,trivial⟩,?_⟩;have e:ds.map (·.name)=xs:=by
   refine List.ext_getElem? fun j=>?_
   rw [List.getElem?_map];cases h:ds[j]? with
   | some d=>exact (hnm j d h).symm
   | none=>
    have:ds.length ≤ j:=List.getElem?_eq_none_iff.mp h;exact (List.getElem?_eq_none_iff.mpr (by rw [N.1];omega)).symm
  rw [e];exact N.2.1
end
end My
namespace My
open PySem L2
noncomputable def Xw (H:Hp) (wl:Addr) (ws:List (WD × Int)):Prop:=∃ qs:List Addr,H wl=some (.lst (qs.map V.ref))∧qs.length=ws.length∧∀ (i:Nat) (q:Addr) (p:WD × Int),qs[i]? = some q→ws[i]? = some p→∃ wq,H q=some (.tup [.ref wq,.int p.2])∧H wq=some (.tup (wH p.1))
theorem Zr {H H':Hp} {wl:Addr} {ws:List (WD × Int)} (h:Xw H wl ws) (s:Tb H H'):Xw H' wl ws:=by
 obtain ⟨qs,e1,e2,al⟩:=h;refine ⟨qs,s _ _ e1,e2,fun i q p h1 h2=>?_⟩;obtain ⟨wq,a1,a2⟩:=al i q p h1 h2;exact ⟨wq,s _ _ a1,s _ _ a2⟩
theorem eG {K:PySem.W.Frag} {H:Hp} {wl:Addr} {ws:List (WD × Int)} (h:Xw H wl ws) {i:Nat} {p:WD × Int} (hp:ws[i]? = some p):∃ xs q wq,SqL K H wl xs∧atI xs (i:Int)=some (.ref q)∧SqT K H q [.ref wq,.int p.2]∧SqT K H wq (wH p.1):=by
 obtain ⟨qs,e1,e2,al⟩:=h;have hi:i < qs.length:=by rw [e2];exact (List.getElem?_eq_some_iff.mp hp).1
 have hq:qs[i]? = some qs[i]:=List.getElem?_eq_getElem hi;obtain ⟨wq,a1,a2⟩:=al i _ p hq hp;exact ⟨_,qs[i],wq,SqL.of e1,Cb (by rw [List.getElem?_map,hq];rfl),SqT.of a1,SqT.of a2⟩
theorem LD {K:PySem.W.Frag} {H:Hp} {wl:Addr} {ws:List (WD × Int)} (h:Xw H wl ws):∃ xs,SqL K H wl xs∧xs.length=ws.length:=by
 obtain ⟨qs,e1,e2,al⟩:=h;exact ⟨_,SqL.of e1,by rw [List.length_map,e2]⟩
noncomputable def bvL (bs:List Int) (i:Nat):Int:=(bs[i]?).getD 0
theorem Ny {bs:List Int} {i:Nat} {x:Int} (h:bs[i]? = some x):bvL bs i=x:=by unfold bvL;rw [h];rfl
theorem QJ {n:Int} {ws:List (WD × Int)} {z:Int} {bs:List Int} (hl:bs.length=ws.length):DoB n ws z bs↔fm (Ob n ws) z (bvL bs):=by
 constructor
 ·rintro ⟨h1,h2⟩;refine ⟨fun k hk=>?_,fun i j e=>?_⟩
  ·have hp:ws[k]? = some ws[k]:=List.getElem?_eq_getElem hk;rw [FA hp];exact h1 _ (List.mem_of_getElem? hp)
  ·obtain ⟨p,q,g1,g2,g3,g4⟩:=Dr e;have l1:=(List.getElem?_eq_some_iff.mp g1).1;have l2:=(List.getElem?_eq_some_iff.mp g2).1;have b1:bs[i]? = some (bs[i]'(by omega)):=List.getElem?_eq_getElem (by omega);have b2:bs[j]? = some (bs[j]'(by omega)):=List.getElem?_eq_getElem (by omega);rw [(Fi g1 g2).2,Ny b1,Ny b2];exact h2 i j p q _ _ g1 g2 g3 g4 b1 b2
 ·rintro ⟨h1,h2⟩;refine ⟨fun p hp=>?_,fun i j p q x y g1 g2 g3 g4 b1 b2=>?_⟩
  ·obtain ⟨k,hk⟩:=List.getElem?_of_mem hp;rw [← FA (n:=n) hk];exact h1 k (List.getElem?_eq_some_iff.mp hk).1
  ·have:=h2 i j (by rw [(Fi g1 g2).1,g4,decide_eq_true g3];rfl);rw [(Fi g1 g2).2,Ny b1,Ny b2] at this;exact this
noncomputable def Zs (K:PySem.W.Frag) (a:Addr) (ns:List Int):Sp:=fun vs H Q _=>vs=[.ref a]∧Sc K a ns H∧∀ n:Int,(4 ≤ n∧n ≤ 99)→Q (.int n) H
noncomputable def Hy (K:PySem.W.Frag) (a:Addr) (ns:List Int):Sp:=fun vs H Q _=>∃ wl ds,vs=[.ref a,.ref wl]∧Sc K a ns H∧LW H wl ds∧(0 < ds.length∧ds.length ≤ 12) ∧
 ∀ p H' ws,Tb H H'→Sc K a ns H'→Xw H' p ws→(0 < ws.length∧ws.length ≤ 5)→(∀ x ∈ ws,x.1 ∈ ds∧1 ≤ x.2∧x.2 ≤ 60)→Q (.ref p) H'
section
variable {P:Program} {w:World} {K:PySem.W.Frag} {mg:Str→Option Value} {base:Heap} {t:Adr}
theorem iB (T:Txt w K mg t) (a:Addr) (ns:List Int) (h63:ns.length ≤ 63):Rb P w K mg base CX0 2 t.Gg t.Ag q14 (Zs K a ns):=by
 have g0:Rb P w K mg base CX0 1 t.Hd t.Gd q11 (Jc K a ns):=Wl T a ns h63;refine T.Si.ok cr (fun vs H Q E h=>?_) (fun _ _ _ s H vs Q E hr h=>?_)
 ·obtain ⟨rfl,_⟩:=h;rfl
 obtain ⟨rfl,S,q⟩:=h;have d1:=yc ns 0 (m:=13) (by decide);have d2:=zc ns 0 (m:=13) (by decide);refine ⟨_,(lb (Gb (eu (Qb gg (qb g0 hr T.Bb T.yb.kp T.Ab (ab (pv 0) (ab jb (ab jb ib)))) jb (cc _)) jb (Ib Zb jb (qb g0 hr T.Bb T.yb.kp T.Ab (ab (pv 0) (ab jb (ab jb ib)))))))),?_⟩;walk_at "RD";refine ⟨_,_,rfl,S,by decide,by decide,?_⟩;refine ⟨rfl,?_⟩;by_cases z:Wf ns 1 6=0
 ·rw [if_pos (by rw [z];rfl)];exact q 99 (by decide)
 ·rw [if_neg (by simpa using z)];exact ⟨_,_,rfl,S,by decide,by decide,_,rfl,q _ (by omega)⟩
theorem MG (T:Txt w K mg t) (a:Addr) (ns:List Int) (h63:ns.length ≤ 63):Rb P w K mg base CX0 2 t.yg t.Hg q44 (Hy K a ns):=by
 have g0:Rb P w K mg base CX0 1 t.Hd t.Gd q11 (Jc K a ns):=Wl T a ns h63;refine T.bj.ok bd (fun vs H Q E h=>?_) (fun _ _ _ s H vs Q E hr h=>?_)
 ·obtain ⟨wl,ds,rfl,_⟩:=h;rfl
 obtain ⟨wl,ds,rfl,S,⟨qs,w1,w2,w3⟩,⟨hl0,hl1⟩,q⟩:=h;refine ⟨_,(fb (wb (i:=2) bd.nd (Ib Zb jb (qb g0 hr T.Bb T.yb.kp T.Ab (ab (pv 0) (ab jb (ab jb ib))))))
   (fb (jd (Qb gg (qb g0 hr T.Bb T.yb.kp T.Ab (ab (pv 0) (ab jb (ab jb ib)))) jb (cc _)) (lb (wb (i:=2) bd.nd jb)) Sb)
   (fb (wb (i:=3) bd.nd (qb g0 hr T.Bb T.yb.kp T.Ab (ab (pv 0) (ab jb (ab (qc Xb rfl T.Uh ic (ab (pv 1) ib)) ib)))))
   (fb (wb (i:=4) bd.nd (wf ib))
   (fb (rf PassesOwn.never rfl (Ce rfl T.Mf (ab (qc (Vv rfl) rfl T.qL Mr (ab (pv 2) (ab (qc Xb rfl T.Uh ic (ab (pv 1) ib)) ib))) ib)) (Eb (i:=5) bd.nd) (fb (wb (i:=6) bd.nd (Ib Zb jb (qb g0 hr T.Bb T.yb.kp T.Ab (ab (pv 0) (ab (Ib Zb jb (pv 5)) (ab jb ib))))))
   (fb (jd (Qb gg (qb g0 hr T.Bb T.yb.kp T.Ab (ab (pv 0) (ab jb (ab jb ib)))) jb (cc _)) (lb (wb (i:=6) bd.nd (Ib Zb jb (qb g0 hr T.Bb T.yb.kp T.Ab (ab (pv 0) (ab (Ib Zb jb (pv 5)) (ab jb ib))))))) Sb)
   (lb (we (uo PySem.F.plainAttrs_list PySem.F.slot_list_append PySem.F.type_list_append nk (pv 4) (ab (Ec (ab (Kb Ye (pv 1) (Ib lg (Ib Zb (pv 3) (pv 5)) (qc Xb rfl T.Uh ic (ab (pv 1) ib)))) (ab (pv 6) ib))) ib)))))))
   (lb (Gb (pv 4)))))))),?_⟩
 have d1:=yc ns 3 (m:=4) (by decide);have d2:=zc ns 3 (m:=4) (by decide);refine zS (fun σ' H'=>H'=H∧∃ m:Int,(1 ≤ m∧m ≤ 4)∧σ'=[some (.ref a),some (.ref wl),some (.int m),none,none,none,none]) (fun D' hD'=>?_) fun zzM zzh=>?_
 ·walk_at "RD";exact ⟨_,_,rfl,S,by decide,by decide,_,rfl,hD' _ _ ⟨rfl,_,by omega,rfl⟩⟩
 rintro σ0 H0 ⟨rfl,m0,hm0,rfl⟩;subst zzh;refine zS (fun σ' H'=>H'=H0∧∃ m:Int,(1 ≤ m∧m ≤ 5)∧σ'=[some (.ref a),some (.ref wl),some (.int m),none,none,none,none]) (fun D' hD'=>?_) fun zzM zzh=>?_
 ·refine Mb (decide (Wf ns 4 4=0)) (fun Q hQ=>?_) (fun h=>?_) (fun h=>?_)
  ·walk_at "RD";refine ⟨_,_,rfl,S,by decide,by decide,rfl,?_⟩;walk_at "RD";exact hQ
  ·walk_at "RD";exact hD' _ _ ⟨rfl,5,by decide,rfl⟩
  ·simp only [bc];exact hD' _ _ ⟨rfl,_,by omega,rfl⟩
 rintro σ' H' ⟨rfl,m,hm,rfl⟩;subst zzh;simp only [xb];have d3:=yc ns 5 (m:=(ds.length:Int)) (by omega);have d4:=zc ns 5 (m:=(ds.length:Int)) (by omega);have hqn:(qs.map V.ref).length=ds.length:=by rw [List.length_map,w2]
 refine zzC (fun σ' H2=>H2=H'∧σ'=[some (.ref a),some (.ref wl),some (.int m),some (.int (Wf ns 5 (ds.length:Int))),none,none,none]) (fun D' hD'=>?_) fun zzM zzh=>?_
 ·walk_at "RD";refine ⟨_,.inl (SqL.of w1),?_⟩;rw [hqn];exact ⟨_,_,rfl,S,by decide,by omega,hD' _ _ ⟨rfl,rfl⟩⟩
 rintro σ1 H1 ⟨rfl,rfl⟩;subst zzh;simp only [xb];generalize hdr:Wf ns 5 (ds.length:Int)=dr at d3 d4 ⊢;walk_at "RD";refine ⟨by decide,fun p hp=>?_⟩;have s1:Tb H1 (upd H1 p (.lst [])):=db hp;refine ⟨_,.inl (SqL.of (s1 _ _ w1)),?_⟩;rw [hqn];refine ⟨by split <;> omega,by split <;> omega,?_⟩;have hN1:0 < (if (ds.length:Int) < m then (ds.length:Int) else m).toNat∧(if (ds.length:Int) < m then (ds.length:Int) else m).toNat ≤ 5:=by split <;> omega
 generalize (if (ds.length:Int) < m then (ds.length:Int) else m).toNat=N at hN1 ⊢;refine Hj.range (fun i σ H2=>(∃ x y,σ=[some (V.ref a),some (V.ref wl),some (V.int m),some (V.int (dr)),some (V.ref p),x,y])∧Tb H1 H2∧Sc K a ns H2∧∃ ws,Xw H2 p ws∧ws.length=i∧∀ x ∈ ws,x.1 ∈ ds∧1 ≤ x.2∧x.2 ≤ 60) ?_ ?_ ?_
 ·exact ⟨⟨_,_,rfl⟩,s1,S.new hp,[],⟨[],gb,rfl,fun i q p h=>by simp at h⟩,rfl,fun x h=>by simp at h⟩
 ·rintro i σ H2 hi zzq;refine zP fun zzM zzh=>?_
  obtain ⟨⟨x,y,rfl⟩,s2,S2,ws,⟨qw,l1,l2,l3⟩,hl,hx⟩:=zzq;have e1:=yc ns (60 + i) (m:=12) (by decide);have e2:=zc ns (60 + i) (m:=12) (by decide);have e3:=yc ns (60 + i) (m:=60) (by decide);have e4:=zc ns (60 + i) (m:=60) (by decide);subst zzh;simp only [Bg,xb,List.set_cons_succ,List.set_cons_zero];rw [Int.zero_add];refine zzC (fun σ' H3=>H3=H2∧∃ tn:Int,(1 ≤ tn∧tn ≤ 60)∧σ'=[some (V.ref a),some (V.ref wl),some (V.int m),some (V.int dr),some (V.ref p),some (V.int (i:Int)),some (V.int tn)]) (fun D' hD'=>?_) fun zzM zzh=>?_
  ·walk_at "RD";exact ⟨_,_,rfl,S2,by omega,by decide,_,rfl,hD' _ _ ⟨rfl,_,by omega,rfl⟩⟩
  rintro σ0 H0 ⟨rfl,tn0,htn0,rfl⟩;subst zzh;simp only [xb];refine zzC (fun σ' H3=>H3=H0∧∃ tn:Int,(1 ≤ tn∧tn ≤ 60)∧σ'=[some (V.ref a),some (V.ref wl),some (V.int m),some (V.int (dr)),some (V.ref p),some (V.int (i:Int)),some (V.int tn)]) (fun D' hD'=>?_) fun zzM zzh=>?_
  ·refine Mb (decide (Wf ns 70 6=0)) (fun Q hQ=>?_) (fun h=>?_) (fun h=>?_)
   ·walk_at "RD";refine ⟨_,_,rfl,S2,by decide,by decide,rfl,?_⟩;walk_at "RD";exact hQ
   ·walk_at "RD";refine ⟨_,_,rfl,S2,by omega,by decide,_,rfl,?_⟩;exact hD' _ _ ⟨rfl,_,by omega,rfl⟩
   ·simp only [bc];exact hD' _ _ ⟨rfl,_,by omega,rfl⟩
  rintro σ' H3 ⟨rfl,tn,htn,rfl⟩;have z0:=Int.emod_nonneg (dr + i) (show (ds.length:Int) ≠ 0 by omega);have z1:=Int.emod_lt_of_pos (dr + i) (show (0:Int) < ds.length by omega);obtain ⟨k,hk⟩:∃ k:Nat,(dr + i) % (ds.length:Int)=(k:Int):=⟨_,(Int.toNat_of_nonneg z0).symm⟩;have hkl:k < ds.length:=by omega
  have hdk:ds[k]? = some ds[k]:=List.getElem?_eq_getElem hkl;have hqk:qs[k]? = some (qs[k]'(by omega)):=List.getElem?_eq_getElem (by omega);have ewk:=w3 k _ _ hqk hdk;subst zzh;walk_at "RD";refine ⟨.inl ⟨_,SqL.of l1⟩,_,.inl (SqL.of (s2 _ _ w1)),by rw [hqn];omega,_,SqL.of (s2 _ _ w1),V.ref (qs[k]'(by omega)),by rw [hqn,hk];exact Cb (by rw [List.getElem?_map,hqk];rfl),by decide,fun tp htp=>?_⟩;have s3:Tb H3 (upd H3 tp (.tup [V.ref (qs[k]'(by omega)),V.int tn])):=db htp;have htn':(upd H3 tp (.tup [V.ref (qs[k]'(by omega)),V.int tn])) tp=some (.tup [V.ref (qs[k]'(by omega)),V.int tn]):=gb;have S3:=S2.new (o:=.tup [V.ref (qs[k]'(by omega)),V.int tn]) htp;have hsn:=s2.trans s3;generalize upd H3 tp (.tup [V.ref (qs[k]'(by omega)),V.int tn])=H4 at s3 htn' S3 hsn ⊢;have l4:=s3 _ _ l1;refine ⟨_,l4,Nat.lt_of_le_of_lt (show (qw.map V.ref).length ≤ 5 by rw [List.length_map,l2,hl];omega) (by decide),⟨_,rfl⟩,hsn.updN hp,S3.set l4 (by intro ob z h;cases h),ws ++ [(ds[k],tn)],⟨qw ++ [tp],by rw [gb,List.map_append];rfl,by rw [List.length_append,List.length_append,l2];rfl,fun j q x h1 h2=>?_⟩,by rw [List.length_append,hl];rfl,fun x hm=>?_⟩
  ·have keep:∀ {b:Addr} {xs:List V},H4 b=some (.tup xs)→upd H4 p (.lst (qw.map V.ref ++ [V.ref tp])) b=some (.tup xs):=fun e=>by rw [Db (Ji e l4 (by intro z;cases z))];exact e
   rcases Ki h1 with ⟨g1,g2⟩ | ⟨g1,g2⟩
   ·rcases Ki h2 with ⟨g3,g4⟩ | ⟨g3,g4⟩
    ·obtain ⟨wq,v1,v2⟩:=l3 j q x g2 g4;exact ⟨wq,keep (s3 _ _ v1),keep (s3 _ _ v2)⟩
    ·omega
   ·rcases Ki h2 with ⟨g3,g4⟩ | ⟨g3,g4⟩
    ·omega
    ·subst g2 g4;exact ⟨_,keep htn',keep (hsn _ _ ewk)⟩
  ·rcases List.mem_append.mp hm with g | g
   ·exact hx x g
   ·rw [List.mem_singleton.mp g];exact ⟨List.mem_of_getElem? hdk,htn.1,htn.2⟩
 ·rintro σ H2 zzq;refine zP fun zzM zzh=>?_
  obtain ⟨⟨x,y,rfl⟩,s2,S2,ws,L,hl,hx⟩:=zzq;subst zzh;walk_at "RD";exact q _ _ _ s2 S2 L (by omega) hx
end
theorem NK (n:Int):Str.ofString "ring " ++ num n=Str.join bk [Str.ofString "ring",num n]:=by
 apply gF;have e1:(Str.ofString "ring ").cps.toList=[114,105,110,103,32]:=by decide +kernel
 have e2:(Str.ofString "ring").cps.toList=[114,105,110,103]:=by decide +kernel
 rw [pL,tt];simp only [Str.cps_append,Array.toList_append,List.map_cons,List.map_nil,jl,e1,e2,List.cons_append,List.nil_append]
theorem eI {B:Nat}:∀ {ys:List Str},(∀ y ∈ ys,y.length ≤ B)→(ys.map (·.length)).sum ≤ ys.length * B
 | [],_=>by simp
 | a :: r,h=>by
  have h1:=h a (by simp);have h2:=eI (B:=B) (ys:=r) fun y hy=>h y (List.mem_cons_of_mem _ hy)
  rw [List.map_cons,List.sum_cons,List.length_cons,Nat.succ_mul];omega
theorem oJ {n:Int} {ds:List WD} (h:COk n ds):∀ y ∈ (Wh n ds).map (Str.join bk),y.length ≤ 63:=fun y hy=>by
 obtain ⟨r,hr,rfl⟩:=List.mem_map.mp hy;have:=Dt bk 8 r fun x hx=>(h.plain r hr x hx).1
 rw [Tx] at this;have hl:r.length ≤ 7:=by
  rcases List.mem_cons.mp hr with rfl | hr
  ·simp
  ·obtain ⟨d,hd,rfl⟩:=List.mem_map.mp hr;simp [ei]
 omega
noncomputable def oy (K:PySem.W.Frag):Sp:=fun vs H Q _=>∃ n wl ds,vs=[.int n,.ref wl]∧LW H wl ds∧TK n ds∧(2 ≤ n∧n ≤ 99)∧(1 ≤ ds.length∧ds.length ≤ 12)∧NoT H∧Q (.str (yu n ds)) H
noncomputable def AC (K:PySem.W.Frag):Sp:=fun vs H Q _=>∃ n wl ds,vs=[.int n,.ref wl]∧LW H wl ds∧TK n ds∧(2 ≤ n∧n ≤ 99)∧(1 ≤ ds.length∧ds.length ≤ 12)∧∀ H',Tb H H'→Q (.str (yu n ds)) H'
section
variable {P:Program} {w:World} {K:PySem.W.Frag} {mg:Str→Option Value} {base:Heap} {t:Adr}
theorem FG (T:Txt w K mg t):Rb P w K mg base CX0 1 t.Yi t.Ni q43 (oy K):=by
 refine Rb.forget (sp:=AC K) ?_ fun vs H Q E h=>?_
 ·refine T.dm.ok Ck (fun vs H Q E h=>?_) (fun _ _ _ s H vs Q E hr h=>?_)
  ·obtain ⟨n,wl,ds,rfl,_⟩:=h;rfl
  obtain ⟨n,wl,ds,rfl,L,D,hn,hl,q⟩:=h;refine ⟨_,(fb (wb (i:=2) Ck.nd (wf (ab (Ib Gn xc (af Sj rfl T.PJ Cn (ab (pv 0) ib))) ib)))
   (fb (rf PassesOwn.never rfl (Of (pv 1)) (Eb (i:=3) Ck.nd) (lb (we (uo PySem.F.plainAttrs_list PySem.F.slot_list_append PySem.F.type_list_append nk (pv 2) (ab (uo PySem.F.plainAttrs_str PySem.F.slot_str_join PySem.F.type_str_join Kx xc (ab (Ib vC (wf (ab (Kb ac (pv 3) jb) (ab (Kb ac (pv 3) jb) ib))) (Og rfl (FL (Fg Nu (pv 3) (Oh jb) ak)) (Dc (sc:=ub Ul) rfl (by decide +kernel)) (N:=["_law_number"]) (sel:=[none]) (Wc (M:=["_law_places_here","_law_ways_here","_law_rows","_law_way"]) (by decide +kernel)) (Blk.of (fun _ _ _ _=>(Eb (i:=0) (eh (N:=["_law_number"]) (by decide +kernel) rfl))) (fun _ _ _ _=>⟨_,gf,by walk_at "B"⟩) (fun _ _ _ _=>⟨_,(af Sj rfl T.PJ Cn (ab (pv 0) ib)),by walk_at "B"⟩)))) ib)) ib)))))
   (lb (Gb (uo PySem.F.plainAttrs_str PySem.F.slot_str_join PySem.F.type_str_join Kx xc (ab (pv 2) ib)))))),?_⟩
  have hC:=D.cok hn hl;obtain ⟨qs,l1,l2,al⟩:=L;have hlen:∀ x:Str,Ow x→x.length ≤ 8:=fun x h=>h.1
  have hbig:∀ k:Nat,k ≤ 1000→k ≤ sizeLine:=fun k h=>Nat.le_trans h (by decide)
  have hr5:(Str.ofString "ring ").length=5:=by decide +kernel
  have hb1:(Str.ofString " ").length=1:=by decide +kernel
  walk_at "RD";have hn8:(Str.ofString (toString n)).length ≤ 8:=(ie (v:=n) (by omega) (by omega)).1;refine ⟨kq (by omega),hbig _ (by rw [hr5];omega),by decide,fun rl hrl'=>?_⟩;rw [NK];have s0:Tb H (upd H rl (.lst [V.str (Str.join bk [Str.ofString "ring",num n])])):=db hrl';refine ⟨⟨_,SqL.of (s0 _ _ l1)⟩,?_⟩;refine Hj.list (xs:=qs.map V.ref) (fun i σ H'=>Tb H H'∧H' rl=some (.lst (Nc ((Wh n (ds.take i)).map (Str.join bk))))∧∃ x,σ=[some (.int n),some (.ref wl),some (.ref rl),x]) ?_ ?_ ?_ ?_
  ·exact ⟨s0,gb,none,rfl⟩
  ·rintro i σ H' hi ⟨sm,_,_⟩;exact SqL.of (sm _ _ l1)
  ·rintro i v σ H' hv zzq;refine zP fun zzM zzh=>?_
   obtain ⟨sm,hr,x,rfl⟩:=zzq;obtain ⟨q',hq,rfl⟩:=sf hv;have hid:i < ds.length:=by rw [← l2];exact (List.getElem?_eq_some_iff.mp hq).1
   have hd:ds[i]? = some ds[i]:=List.getElem?_eq_getElem hid;have hT:SqT K H' q' (wH ds[i]):=SqT.of (sm _ _ (al i q' _ hq hd));have hw:=(D.al _ (List.mem_of_getElem? hd)).1;have b1:=hw.st;have b2:=hw.fi;have b3:=hw.of;have b4:=hw.nr;have b5:=hw.le;have z1:=hlen _ (Rr ds[i].k);have z2:=hlen _ (Kr hw.nm);have z3:(num ds[i].start).length ≤ 8:=hlen _ (ie (v:=ds[i].start) (by omega) (by omega));have z4:(num ds[i].fin).length ≤ 8:=hlen _ (ie (v:=ds[i].fin) (by omega) (by omega));have z5:(num ds[i].off).length ≤ 8:=hlen _ (ie (v:=ds[i].off) (by omega) (by omega));have z7:(num ds[i].least).length ≤ 8:=hlen _ (ie (v:=ds[i].least) (by omega) (by omega));have z6:(num ds[i].near).length ≤ 8:=hlen _ (ie (v:=ds[i].near) (by omega) (by omega));subst zzh;walk_at "RD";refine ⟨.inl ⟨_,SqL.of hr⟩,?_⟩;have at0:atI (wH ds[i]) 0=some (.str (se ds[i].k)):=Cb (j:=0) rfl;have at1:atI (wH ds[i]) 1=some (.str ds[i].name):=Cb (j:=1) rfl;have hcut:jw (wH ds[i]) (some 2) none=[.int ds[i].start,.int ds[i].fin,.int ds[i].off,.int ds[i].near,.int ds[i].least]:=rfl;refine ⟨_,hT,_,at0,_,hT,_,at1,by decide,fun p0 hp0=>?_⟩;have s1:Tb H' (upd H' p0 (.lst [.str (se ds[i].k),.str ds[i].name])):=db hp0;have hr1:=s1 _ _ hr;have hp01:(upd H' p0 (.lst [.str (se ds[i].k),.str ds[i].name])) p0=some (.lst [.str (se ds[i].k),.str ds[i].name]):=gb;have sm1:=sm.trans s1;have hT1:=hT.same s1;generalize upd H' p0 (.lst [.str (se ds[i].k),.str ds[i].name])=H1 at hr1 hp01 sm1 hT1 ⊢;refine ⟨_,hT1,(show ¬ (HT.sIx 7 0 (some 2)=0∧HT.sIx 7 7 none=7) by decide),fun p hp=>⟨⟨_,SqT.of gb⟩,?_⟩⟩;rw [hcut];refine ad.tup_zs (xs:=[.int ds[i].start,.int ds[i].fin,.int ds[i].off,.int ds[i].near,.int ds[i].least]) (zs:=Nc [num ds[i].start,num ds[i].fin,num ds[i].off,num ds[i].near,num ds[i].least]) (SqT.of gb) (hbig _ (show 5 ≤ 1000 by decide)) rfl (fun j v z N hv hz hN=>?_) (fun p2 hp2=>?_)
   ·have key:∃ a:Int,v=.int a∧z=.str (num a)∧0 ≤ a∧a < 100:=by
     match j,hv,hz with
     | 0,hv,hz=>cases hv;cases hz;exact ⟨_,rfl,rfl,b1.1,by omega⟩
     | 1,hv,hz=>cases hv;cases hz;exact ⟨_,rfl,rfl,b2.1,by omega⟩
     | 2,hv,hz=>cases hv;cases hz;exact ⟨_,rfl,rfl,b3.1,by omega⟩
     | 3,hv,hz=>cases hv;cases hz;exact ⟨_,rfl,rfl,b4.1,by omega⟩
     | 4,hv,hz=>cases hv;cases hz;exact ⟨_,rfl,rfl,by omega,by omega⟩
     | k + 5,hv,hz=>simp at hv
    obtain ⟨a,rfl,rfl,ha0,ha1⟩:=key;walk_at "RD";exact ⟨Sub.name,kq (by omega),hN⟩
   ·have s2:Tb H1 (upd (upd H1 p (.tup [.int ds[i].start,.int ds[i].fin,.int ds[i].off,.int ds[i].near,.int ds[i].least])) p2 (.lst (Nc [num ds[i].start,num ds[i].fin,num ds[i].off,num ds[i].near,num ds[i].least]))):=(db hp).trans (db hp2);have e2:(upd (upd H1 p (.tup [.int ds[i].start,.int ds[i].fin,.int ds[i].off,.int ds[i].near,.int ds[i].least])) p2 (.lst (Nc [num ds[i].start,num ds[i].fin,num ds[i].off,num ds[i].near,num ds[i].least]))) p2=some (.lst (Nc [num ds[i].start,num ds[i].fin,num ds[i].off,num ds[i].near,num ds[i].least])):=gb;generalize upd (upd H1 p (.tup [.int ds[i].start,.int ds[i].fin,.int ds[i].off,.int ds[i].near,.int ds[i].least])) p2 (.lst (Nc [num ds[i].start,num ds[i].fin,num ds[i].off,num ds[i].near,num ds[i].least]))=H2 at s2 e2 ⊢;refine ⟨_,rfl,_,s2 _ _ hp01,_,e2,hbig _ (show 2 + 5 ≤ 1000 by decide),fun p3 hp3=>?_⟩;have hr3:(upd H2 p3 (.lst ([V.str (se ds[i].k),V.str ds[i].name] ++ Nc [num ds[i].start,num ds[i].fin,num ds[i].off,num ds[i].near,num ds[i].least]))) rl=some (.lst (Nc ((Wh n (ds.take i)).map (Str.join bk)))):=by
     rw [Db (Jb (s2 _ _ hr1) hp3)];exact s2 _ _ hr1
    refine ⟨ei ds[i],SqL.of gb,?_,_,hr3,?_,?_,?_,_,rfl⟩
    ·rw [hb1];simp only [ei,List.map_cons,List.map_nil,List.sum_cons,List.sum_nil,List.length_cons,List.length_nil];omega
    ·rw [Vo,List.length_map];exact Nat.lt_of_le_of_lt (show (Wh n (ds.take i)).length ≤ 13 by unfold Wh;rw [List.length_cons,List.length_map,List.length_take];omega) (by decide)
    ·exact fun b u e=>by rw [Db (Jb e hrl')];exact (db hp3) _ _ (s2 _ _ (sm1 _ _ e))
    ·rw [gb,show Txt.join (Str.ofString " ") (ei ds[i])=Str.join bk (ei ds[i]) from StrLaws.glued_eq_join _ _];congr 2;unfold Wh Nc;simp;rw [List.take_add_one,List.getElem?_map,hd];rfl
  ·rintro σ H' zzq;refine zP fun zzM zzh=>?_
   obtain ⟨sm,hr,x,rfl⟩:=zzq;subst zzh;walk_at "RD";rw [List.length_map,l2,List.take_length] at hr;refine ⟨_,SqL.of hr,?_,?_⟩
   ·have h63:∀ y ∈ (Wh n ds).map (Str.join bk),y.length ≤ 63:=oJ hC;have h13:((Wh n ds).map (Str.join bk)).length ≤ 13:=by
     unfold Wh;rw [List.length_map,List.length_cons,List.length_map];omega
    have:=eI h63;rw [show (Str.ofString "\n").length=1 by decide +kernel];omega
   ·have:=q H' sm;unfold yu at this;rw [show Txt.join (Str.ofString "\n") ((Wh n ds).map (Str.join bk))=Str.join nl ((Wh n ds).map (Str.join bk)) from StrLaws.glued_eq_join _ _];exact this
 ·obtain ⟨n,wl,ds,h1,h2,h3,h4,h5,nt,q⟩:=h;exact ⟨nt,n,wl,ds,h1,h2,h3,h4,h5,fun H' sm=>⟨sm,q⟩⟩
end
end My
namespace My
open PySem L2
noncomputable def Ci (p:WD × Int):Int:=p.2 + p.1.off + 3
structure SK (ws:List (WD × Int)) (D:Nat→Prop) (z:Int) (bs:List Int):Prop where
 lo:∀ i p x,D i→ws[i]? = some p→bs[i]? = some x→0 ≤ x∧x + Ci p ≤ z
 ap:∀ i j p q x y,D i→D j→i ≠ j→ws[i]? = some p→ws[j]? = some q→bs[i]? = some x→bs[j]? = some y→x + Ci p ≤ y∨y + Ci q ≤ x
theorem SK.put {ws:List (WD × Int)} {D:Nat→Prop} {z:Int} {bs:List Int} (L:SK ws D z bs) (hz:0 ≤ z) {j:Nat} {q:WD × Int} (hj:ws[j]? = some q) (hl:bs.length=ws.length) (hn:¬ D j) (hq:0 ≤ Ci q):SK ws (fun i=>D i∨i=j) (z + Ci q) (bs.set j z):=by
 have hjl:j < bs.length:=by rw [hl];exact (List.getElem?_eq_some_iff.mp hj).1
 have at1:∀ {x},(bs.set j z)[j]? = some x→x=z:=fun h=>by rw [List.getElem?_set_self hjl] at h;cases h;rfl
 have at2:∀ {i x},D i→(bs.set j z)[i]? = some x→bs[i]? = some x:=fun {i x} hi h=>by
  rwa [List.getElem?_set_ne (show j ≠ i from fun e=>hn (by rw [e];exact hi))] at h
 refine ⟨fun i p x hi hp hx=>?_,fun i k p r x y hi hk hik hp hr hx hy=>?_⟩
 ·rcases hi with hi | rfl
  ·have:=L.lo i p x hi hp (at2 hi hx);omega
  ·rw [hj] at hp;cases hp;rw [at1 hx];omega
 ·rcases hi with hi | rfl
  ·rcases hk with hk | rfl
   ·exact L.ap i k p r x y hi hk hik hp hr (at2 hi hx) (at2 hk hy)
   ·rw [at1 hy];exact .inl (L.lo i p x hi hp (at2 hi hx)).2
  ·rcases hk with hk | rfl
   ·rw [at1 hx];exact .inr (L.lo k r y hk hr (at2 hk hy)).2
   ·exact absurd rfl hik
theorem oB {n:Int} {p:WD × Int} (h:WOk n p.1):Oc p ≤ Ci p:=by
 have hk:=h.k;have ho:=h.of;unfold Ci;obtain hk0 | hk0 | hk0:p.1.k=0∨p.1.k=1∨p.1.k=2:=by omega
 all_goals (simp only [Oc,On,Zh,hk0];omega)
theorem SF {n:Int} {p q:WD × Int} (h:WOk n p.1) (h':WOk n q.1):p.2 + Et p.1 q.1 ≤ Ci p:=by
 have ho:=h.of;have hn:=h'.nr;unfold Ci Et;split <;> omega
theorem SK.dob {n:Int} {ws:List (WD × Int)} {D:Nat→Prop} {z s:Int} {bs:List Int} (L:SK ws D z bs) (ha:∀ i,i < ws.length→D i) (hw:∀ p ∈ ws,WOk n p.1∧1 ≤ p.2) (hs:z ≤ s) (hl:bs.length=ws.length) (d:Int):DoB n ws s (bs.map fun b=>(b + d) % s):=by
 refine ⟨fun p hp=>?_,fun i j p q x y hi hj hij _ hx hy=>?_⟩
 ·obtain ⟨i,hi⟩:=List.getElem?_of_mem hp;have hil:=(List.getElem?_eq_some_iff.mp hi).1;have:=L.lo i p _ (ha i hil) hi (List.getElem?_eq_getElem (by omega));have:=oB (hw p hp).1;omega
 ·obtain ⟨u,hu,rfl⟩:=sf hx;obtain ⟨v,hv,rfl⟩:=sf hy;have hil:=(List.getElem?_eq_some_iff.mp hi).1;have hjl:=(List.getElem?_eq_some_iff.mp hj).1;have g:=SF (hw p (List.mem_of_getElem? hi)).1 (hw q (List.mem_of_getElem? hj)).1;have a1:=L.lo i p u (ha i hil) hi hu;have a2:=L.lo j q v (ha j hjl) hj hv;have n1:1 ≤ Ci p:=by have:=(hw p (List.mem_of_getElem? hi));have:=this.1.of;unfold Ci;omega
  have n2:1 ≤ Ci q:=by have:=(hw q (List.mem_of_getElem? hj));have:=this.1.of;unfold Ci;omega
  rw [← Int.sub_emod,show v + d - (u + d)=v - u by omega];rcases L.ap i j p q u v (ha i hil) (ha j hjl) hij hi hj hu hv with h | h
  ·rw [Int.emod_eq_of_lt (by omega) (by omega)];omega
  ·rw [← Int.add_emod_right,Int.emod_eq_of_lt (by omega) (by omega)];omega
theorem Ez {f m k:Nat} (hf:f < m) (hk:k < m):(f + k) % m=if f + k < m then f + k else f + k - m:=by
 split
 ·exact Nat.mod_eq_of_lt (by assumption)
 ·rw [Nat.mod_eq_sub_mod (by omega),Nat.mod_eq_of_lt (by omega)]
theorem JM {f m i k:Nat} (hf:f < m) (hi:i < m) (hk:k < i):(f + i) % m ≠ (f + k) % m:=by
 rw [Ez hf hi,Ez hf (by omega)];split <;> split <;> omega
theorem qE {f m j:Nat} (hf:f < m) (hj:j < m):∃ k,k < m∧j=(f + k) % m:=by
 by_cases h:f ≤ j
 ·exact ⟨j - f,by omega,by rw [Ez hf (by omega)];split <;> omega⟩
 ·exact ⟨j + m - f,by omega,by rw [Ez hf (by omega)];split <;> omega⟩
theorem hJ {f m i j i':Nat} (hj:j=(f + i) % m) (h:∃ k,k < i + 1∧i'=(f + k) % m):(∃ k,k < i∧i'=(f + k) % m)∨i'=j:=by
 obtain ⟨k,h1,h2⟩:=h;by_cases e:k=i
 ·exact .inr (by rw [h2,hj,e])
 ·exact .inl ⟨k,by omega,h2⟩
theorem FH (m:Nat) (x:V):(List.replicate m [x]).flatten=List.replicate m x:=by
 induction m with
 | zero=>rfl
 | succ m ih=>rw [List.replicate_succ,List.flatten_cons,ih];rfl
theorem Ap {H H':Hp} {p:Addr} {qs:List Addr} {ws:List (WD × Int)} (s:Tb H H') (hp:H' p=some (.lst (qs.map V.ref))) (hl:qs.length=ws.length) (al:∀ (i:Nat) (q:Addr) (p:WD × Int),qs[i]? = some q→ws[i]? = some p→H q=some (.tup [.str p.1.name,.int p.2])):mo H' p ws:=
 ⟨qs,hp,hl,fun i q p h1 h2=>s _ _ (al i q p h1 h2)⟩
section
variable {P:Program} {w:World} {K:PySem.W.Frag} {mg:Str→Option Value} {base:Heap} {t:Adr}
theorem TL (T:Txt w K mg t):Rb P w K mg base CX0 26 t.fJ t.VG q14 (XM K):=by
 refine T.IN.ok kg (fun vs H Q E h=>?_) (fun _ _ _ s H vs Q E hr h=>?_)
 ·obtain ⟨a,ns,rfl,_⟩:=h;rfl
 obtain ⟨a,ns,rfl,S0,h63,q⟩:=h;have hU:=hr.units;have g0:Rb P w K mg base CX0 25 t.Hd t.Gd q11 (Jc K a ns):=(Wl T a ns h63).mono (by decide);have g55:Rb P w K mg base CX0 25 t.Gg t.Ag q14 (Zs K a ns):=(iB T a ns h63).mono (by decide);have g56:Rb P w K mg base CX0 25 t.cj t.Mi q42 (xz K a ns):=(IG T a ns h63).mono (by decide);have g57:Rb P w K mg base CX0 25 t.Yi t.Ni q43 (oy K):=(FG T).mono (by decide);have g58:Rb P w K mg base CX0 25 t.Lf t.Ef ["text"] (iL t):=(NN T).mono (by decide);have g59:Rb P w K mg base CX0 25 t.yg t.Hg q44 (Hy K a ns):=(MG T a ns h63).mono (by decide);have g60:Rb P w K mg base CX0 25 t.Lg t.Qg q25 (QH t):=(qM T).mono (by decide);have g61:Rb P w K mg base CX0 25 t.Uk t.Qk q40 (Zz t):=(kH T).mono (by decide);have g16:Rb P w K mg base CX0 25 t.vf t.mf q20 (pz K a ns 3):=(nI T a ns h63 3).mono (by decide);have g19:Rb P w K mg base CX0 25 t.qe t.pe q21 (fun vs H Q E=>∃ d,d ≤ 10∧lz K a ns d vs H Q E):=Qt fun d hd=>(oI T a ns h63 d).mono (by omega)
 have g62:Rb P w K mg base CX0 25 t.uu t.nu q32 (Uz t):=ZG T;refine ⟨_,(fb (wb (i:=1) kg.nd (qb g55 hr T.Wt T.Si.kp T.du (ab (pv 0) ib)))
   (fb (wb (i:=2) kg.nd (qb g56 hr T.Jx T.Rl.kp T.Bx (ab (pv 0) (ab (Ib Zb jb (qb g0 hr T.Bb T.yb.kp T.Ab (ab (pv 0) (ab jb (ab jb ib))))) (ab (pv 1) ib)))))
   (fb (wb (i:=3) kg.nd (qb g58 hr T.Xo T.Rg.kp T.Iq (ab (qb g57 hr T.Cw T.dm.kp T.Nw (ab (pv 1) (ab (pv 2) ib))) ib)))
   (fb (wb (i:=4) kg.nd (qb g59 hr T.gu T.bj.kp T.Bt (ab (pv 0) (ab (pv 2) ib))))
   (fb (pf (i:=5) kg.nd rfl (Or.inl rfl) rfl (Of (pv 4)) (Dc (sc:=ub KG) rfl (by decide +kernel)) (N:=["_law_one"]) (sel:=[none]) (Wc (M:=q50) (by decide +kernel)) (Blk.of (fun _ _ _ _=>(Eb (i:=0) (eh (N:=["_law_one"]) (by decide +kernel) rfl))) (fun _ _ _ _=>⟨_,gf,by walk_at "B"⟩) (fun _ _ _ _=>⟨_,(Ec (ab (Kb ac (Kb ac (pv 0) jb) jb) (ab (Kb ac (pv 0) jb) ib))),by walk_at "B"⟩)) rfl)
   (fb (wb (i:=6) kg.nd (Ib QL (wf (ab jb ib)) (qc Xb rfl T.Uh ic (ab (pv 4) ib))))
   (fb (wb (i:=7) kg.nd jb)
   (fb (rf PassesOwn.never rfl (Ce rfl T.Mf (ab (qc Xb rfl T.Uh ic (ab (pv 4) ib)) ib)) (Eb (i:=8) kg.nd) (fb (wb (i:=9) kg.nd (Ib lg (Ib Zb (qb g0 hr T.Bb T.yb.kp T.Ab (ab (pv 0) (ab jb (ab (qc Xb rfl T.Uh ic (ab (pv 4) ib)) ib)))) (pv 8)) (qc Xb rfl T.Uh ic (ab (pv 4) ib))))
   (fb (Hr (pv 7) (XH (pv 6) (pv 9) aA))
   (lb (wb (i:=7) kg.nd (Ib Zb (Ib Zb (Ib Zb (pv 7) (Kb ac (Kb Ye (pv 5) (pv 9)) jb)) (Kb ac (Kb ac (Kb Ye (pv 4) (pv 9)) jb) jb)) jb))))))
   (fb (Ox (i:=10) kg.nd rfl (Or.inr rfl) (Ib Zb (pv 7) (qb g0 hr T.Bb T.yb.kp T.Ab (ab (pv 0) (ab jb (ab jb ib))))))
   (fb (pf (i:=6) kg.nd rfl (Or.inl rfl) rfl (Of (pv 6)) (Dc (sc:=ub KG) rfl (by decide +kernel)) (N:=["_law_begin","_law_script","_law_size"]) (sel:=[none,some 0,some 10]) (Wc (M:=q50) (by decide +kernel)) (Blk.of (fun _ _ _ _=>(Eb (i:=0) (eh (N:=["_law_begin","_law_script","_law_size"]) (by decide +kernel) rfl))) (fun _ _ _ _=>⟨_,gf,by walk_at "B"⟩) (fun _ _ _ _=>⟨_,(Ib lg (Ib Zb (pv 0) (qb g0 hr T.Bb T.yb.kp T.Ab (ab (pv 1) (ab jb (ab (pv 2) ib))))) (pv 2)),by walk_at "B"⟩)) rfl)
   (fb (jd (Qb nD (qb g60 hr T.Iw T.Pl.kp T.ww (ab (pv 3) (ab (af Pj rfl T.VD am (ab (pv 5) ib)) (ab (pv 10) (ab (pv 6) ib))))) Qj (cc _)) (lb (Gb Qj)) Sb)
   (fb (wb (i:=11) kg.nd (qb g61 hr T.pA T.dn.kp T.wA (ab (pv 3) (ab (af Pj rfl T.VD am (ab (pv 5) ib)) ib))))
   (fb (wb (i:=12) kg.nd (wf (ab (qb g16 hr T.jh T.Ee.kp T.Fh (ab (pv 0) (ab jb (ab (qc Xb rfl T.Uh ic (ab (pv 5) ib)) (ab jb ib))))) (ab (qb g16 hr T.jh T.Ee.kp T.Fh (ab (pv 0) (ab jb (ab (qc Xb rfl T.Uh ic (ab (pv 5) ib)) (ab jb ib))))) ib))))
   (fb (rf PassesOwn.never rfl (Of (Ib vC (pv 12) (wf (ab (Kb ac (pv 11) jb) (ab (qb g19 hr T.Qh T.re.kp T.Rh (ab (pv 0) (ab (Kb ac (pv 11) jb) (ab jb ib)))) ib))))) (Eb (i:=13) kg.nd) (lb (jd (Qb nD (qb g62 hr T.SJ T.Aw.kp T.jK (ab (pv 3) (ab (af Pj rfl T.VD am (ab (pv 5) ib)) (ab (pv 10) (ab (pv 13) ib))))) Qj (cc _)) (lb (Gb Qj)) Sb)))
   (lb (Gb Qj)))))))))))))))),?_⟩
 refine zS (fun σ' H'=>H'=H∧∃ n:Int,(4 ≤ n∧n ≤ 99)∧σ'=[some (.ref a),some (.int n),none,none,none,none,none,none,none,none,none,none,none,none]) (fun D' hD=>?_) fun zzM zzh=>?_
 ·walk_at "RD";exact ⟨rfl,S0,fun n hn=>hD _ _ ⟨rfl,n,hn,rfl⟩⟩
 rintro σ1 H1 ⟨rfl,n,hn,rfl⟩;subst zzh;refine zS (fun σ' H'=>Tb H1 H'∧Sc K a ns H'∧∃ wl ds,LW H' wl ds∧(1 ≤ ds.length∧ds.length ≤ 6)∧TK n ds∧σ'=[some (.ref a),some (.int n),some (.ref wl),none,none,none,none,none,none,none,none,none,none,none]) (fun D' hD=>?_) fun zzM zzh=>?_
 ·have d1:=yc ns 2 (m:=6) (by decide);have d2:=zc ns 2 (m:=6) (by decide);(walk_at "RD"; repeat (dsimp only [Jc];walk_at "RD"));obtain ⟨m,hm⟩:∃ m:Nat,1 + Wf ns 2 6=(m:Int):=⟨(1 + Wf ns 2 6).toNat,by omega⟩;rw [hm];exact ⟨S0,by decide,by decide,by decide,m,n,rfl,S0,by omega,by omega,fun p ds H' s2 S2 _ L hl D=>hD _ _ ⟨s2,S2,p,ds,L,by omega,D,rfl⟩⟩
 rintro σ2 H2 ⟨s2,S2,wl,ds,hW,hdl,D,rfl⟩;subst zzh;refine zS (fun σ' H'=>Tb H2 H'∧Sc K a ns H'∧∃ c,Ze t H' c n ds∧σ'=[some (.ref a),some (.int n),some (.ref wl),some (.ref c),none,none,none,none,none,none,none,none,none,none]) (fun D' hD=>?_) fun zzM zzh=>?_
 ·walk_at "RD";refine ⟨n,wl,ds,rfl,hW,D,by omega,by omega,S2.nt,n,ds,rfl,D.cok (by omega) (by omega),S2.nt,fun c H' s3 n3 C3=>hD _ _ ⟨s3,S2.same s3 n3,c,C3,rfl⟩⟩
 rintro σ3 H3 ⟨s3,S3,c,C3,rfl⟩;subst zzh;refine zS (fun σ' H'=>Tb H3 H'∧Sc K a ns H'∧∃ ul ws,Xw H' ul ws∧(0 < ws.length∧ws.length ≤ 5)∧(∀ x ∈ ws,x.1 ∈ ds∧1 ≤ x.2∧x.2 ≤ 60)∧σ'=[some (.ref a),some (.int n),some (.ref wl),some (.ref c),some (.ref ul),none,none,none,none,none,none,none,none,none]) (fun D' hD=>?_) fun zzM zzh=>?_
 ·walk_at "RD";exact ⟨wl,ds,rfl,S3,hW.same s3,by omega,fun p H' ws s4 S4 L hl hx=>hD _ _ ⟨s4,S4,p,ws,L,hl,hx,rfl⟩⟩
 rintro σ4 H4 ⟨s4,S4,ul,ws,hL,hwl,hwx,rfl⟩;obtain ⟨qs,w1,w2,w3⟩:=id hL;have hqn:(qs.map V.ref).length=ws.length:=by rw [List.length_map,w2]
 have hok:∀ p ∈ ws,WOk n p.1:=fun p hp=>(D.al _ (hwx p hp).1).1
 have wk:tw n ws:=⟨fun p hp=>⟨hok p hp,by have:=(hwx p hp).2;omega⟩,by omega,List.length_pos_iff.mp hwl.1⟩;have hin:∀ q ∈ ws,∃ i:Nat,ds[i]? = some q.1:=fun p hp=>List.getElem?_of_mem (hwx p hp).1
 have hab:∀ q ∈ ws,0 ≤ q.2∧q.2 ≤ 100000:=fun p hp=>by have:=(hwx p hp).2;omega
 subst zzh;refine zS (fun σ' H'=>Tb H4 H'∧Sc K a ns H'∧∃ tl,mo H' tl ws∧σ'=[some (.ref a),some (.int n),some (.ref wl),some (.ref c),some (.ref ul),some (.ref tl),none,none,none,none,none,none,none,none]) (fun D' hD=>?_) fun zzM zzh=>?_
 ·walk_at "RD";refine ⟨⟨_,SqL.of w1⟩,?_⟩;refine ad.list (xs:=qs.map V.ref) (fun i ys H'=>Tb H4 H'∧Sc K a ns H'∧∃ qw:List Addr,ys=qw.map V.ref∧qw.length=i∧∀ (j:Nat) (q:Addr) (p:WD × Int),qw[j]? = some q→ws[j]? = some p→H' q=some (.tup [.str p.1.name,.int p.2])) (by rw [hqn];exact Nat.le_trans hwl.2 (by decide)) ⟨Tb.refl _,S4,[],rfl,rfl,fun j q p h=>by simp at h⟩ ?_ ?_ ?_
  ·rintro i ys H' hi zzq;refine zP fun zzM zzh=>?_
   obtain ⟨s5,_,qw,rfl,hq,_⟩:=zzq;subst zzh;exact ⟨SqL.of (s5 _ _ w1),by rw [List.length_map,hq];exact Nat.le_refl _⟩
  ·rintro i v ys H' hv zzq;refine zP fun zzM zzh=>?_
   obtain ⟨s5,S5,qw,rfl,hq,al⟩:=zzq;obtain ⟨qi,hqi,rfl⟩:=sf hv;have hi:i < ws.length:=by rw [← w2];exact (List.getElem?_eq_some_iff.mp hqi).1
   have hwi:ws[i]? = some ws[i]:=List.getElem?_eq_getElem hi;obtain ⟨wq,e1,e2⟩:=w3 i qi _ hqi hwi;subst zzh;intro N hN;walk_at "RD";refine ⟨Sub.name,_,SqT.of (s5 _ _ e1),_,Cb (j:=0) rfl,_,rfl,_,SqT.of (s5 _ _ e2),_,Cb (j:=1) rfl,_,SqT.of (s5 _ _ e1),_,Cb (j:=1) rfl,by decide,fun p hp=>hN _ _ ⟨s5.trans (db hp),S5.new hp,qw ++ [p],by rw [List.map_append];rfl,by rw [List.length_append,hq];rfl,fun j q x h1 h2=>?_⟩⟩;rcases Ki h1 with ⟨g1,g2⟩ | ⟨g1,g2⟩
   ·exact (db hp) _ _ (al j q x g2 h2)
   ·rw [g1,hq,hwi] at h2;cases h2;rw [g2];exact gb
  ·rintro ys H' ⟨s5,S5,qw,rfl,hq,al⟩ p hp;refine hD _ _ ⟨s5.trans (db hp),S5.new hp,p,⟨qw,gb,by rw [hq,hqn],fun j q x h1 h2=>(db hp) _ _ (al j q x h1 h2)⟩,rfl⟩
 rintro σ5 H5 ⟨s5,S5,tl,hT,rfl⟩;obtain ⟨qt,t1,t2,t3⟩:=id hT;have C5:=C3.same (s4.trans s5);have hw2:∀ p ∈ ws,WOk n p.1∧1 ≤ p.2:=fun p hp=>⟨hok p hp,(hwx p hp).2.1⟩
 have s45:=s5;have L5:=Zr hL s5;have hlw:∃ xs,SqL K H5 ul xs∧xs.length=ws.length:=LD L5;obtain ⟨xw,L1,L2'⟩:=hlw;have d0:(0:Int) < ws.length:=by omega
 subst zzh;refine zS (fun σ' H'=>∃ bl,Tb H5 H'∧Sc K a ns H'∧H5 bl=none∧H' bl=some (.lst ((List.replicate ws.length 0).map V.int))∧σ'=[some (.ref a),some (.int n),some (.ref wl),some (.ref c),some (.ref ul),some (.ref tl),some (.ref bl),none,none,none,none,none,none,none]) (fun D' hD=>?_) fun zzM zzh=>?_
 ·walk_at "RD";refine ⟨by decide,fun p1 hp1=>⟨_,.inl (L1.same (db hp1)),_,gb,by omega,by rw [L2'];exact Int.lt_of_le_of_lt (show (ws.length:Int) ≤ 5 by omega) (by decide),?_,fun p2 hp2=>?_⟩⟩
  ·rw [L2'];exact Nat.le_trans (show 1 * ws.length ≤ 5 by omega) (by decide)
  ·rw [L2',show ((ws.length:Nat):Int).toNat=ws.length by rfl,show (List.replicate ws.length [V.int 0]).flatten=(List.replicate ws.length 0).map V.int by rw [List.map_replicate];exact FH _ _];exact hD _ _ ⟨p2,(db hp1).trans (db hp2),(S5.new hp1).new hp2,(db hp1).free hp2,gb,rfl⟩
 rintro σ6 H6 ⟨bl,s6,S6,hb0,hb1,rfl⟩;have f1:=yc ns 6 (m:=(ws.length:Int)) d0;have f2:=zc ns 6 (m:=(ws.length:Int)) d0;obtain ⟨f,hf⟩:∃ f:Nat,Wf ns 6 (ws.length:Int)=(f:Int):=⟨_,(Int.toNat_of_nonneg f1).symm⟩;subst zzh;rw [hf] at f2;have hfl:f < ws.length:=by omega
 simp only [xb];walk_at "RD";refine ⟨_,.inl (L1.same s6),by omega,by rw [L2'];exact Int.lt_of_le_of_lt (show (ws.length:Int) ≤ 5 by omega) (by decide),?_⟩;rw [L2',show ((ws.length:Nat):Int).toNat=ws.length by rfl];refine Hj.range (fun i σ H'=>Tb H5 H'∧Sc K a ns H'∧∃ (at_:Int) (bs:List Int),(0 ≤ at_∧at_ ≤ 93 * i)∧H' bl=some (.lst (bs.map V.int))∧bs.length=ws.length∧SK ws (fun j=>∃ k,k < i∧j=(f + k) % ws.length) at_ bs∧∃ x1 x2,σ=[some (.ref a),some (.int n),some (.ref wl),some (.ref c),some (.ref ul),some (.ref tl),some (.ref bl),some (.int at_),x1,x2,none,none,none,none]) ?_ ?_ ?_
 ·exact ⟨s6,S6,0,_,by omega,hb1,by rw [List.length_replicate],⟨fun i p x ⟨k,hk,_⟩=>absurd hk (by omega),fun i j p q x y ⟨k,hk,_⟩=>absurd hk (by omega)⟩,_,_,rfl⟩
 ·rintro i σ H7 hi zzq;refine zP fun zzM zzh=>?_
  obtain ⟨s7,S7,at_,bs,hat,hb7,hbs,La,x1,x2,rfl⟩:=zzq;subst zzh;simp only [Bg,xb,List.set_cons_succ,List.set_cons_zero];rw [Int.zero_add];obtain ⟨j,hj⟩:∃ j,j=(f + i) % ws.length:=⟨_,rfl⟩;have hjl:j < ws.length:=by rw [hj];exact Nat.mod_lt _ (by omega)
  have hwj:ws[j]? = some ws[j]:=List.getElem?_eq_getElem hjl;refine zzC (fun σ' H'=>H'=H7∧σ'=[some (.ref a),some (.int n),some (.ref wl),some (.ref c),some (.ref ul),some (.ref tl),some (.ref bl),some (.int at_),some (.int (i:Int)),some (.int (j:Int)),none,none,none,none]) (fun D' hD=>?_) fun zzM zzh=>?_
  ·walk_at "RD";refine ⟨_,.inl (L1.same s7),_,_,rfl,S7,by decide,by rw [L2'];exact d0,_,rfl,_,.inl (L1.same s7),by rw [L2'];exact d0,?_⟩;rw [L2',hf,show ((f:Int) + (i:Int)) % (ws.length:Int)=((j:Nat):Int) by rw [hj,Int.natCast_emod];rfl];exact hD _ _ ⟨rfl,rfl⟩
  rintro σ8 H8 ⟨rfl,rfl⟩;subst zzh;simp only [xb];refine zzC (fun σ' H'=>Tb H5 H'∧Sc K a ns H'∧H' bl=some (.lst ((bs.set j at_).map V.int))∧σ'=[some (.ref a),some (.int n),some (.ref wl),some (.ref c),some (.ref ul),some (.ref tl),some (.ref bl),some (.int at_),some (.int (i:Int)),some (.int (j:Int)),none,none,none,none]) (fun D' hD=>?_) fun zzM zzh=>?_
  ·walk_at "RD";refine ⟨_,hb7,j,KH (by rw [List.length_map];omega),?_⟩;exact hD _ _ ⟨s7.updN hb0,S7.set hb7 (by intro ob z h;cases h),by rw [gb,List.map_set],rfl⟩
  rintro σ9 H9 ⟨s9,S9,hb9,rfl⟩;have nj:=hw2 _ (List.mem_of_getElem? hwj);have nb:=hwx _ (List.mem_of_getElem? hwj);have no:=nj.1.of;have nq:0 ≤ Ci ws[j]∧Ci ws[j] ≤ 93:=by unfold Ci;omega
  obtain ⟨xs1,q1,wq1,u1,u2,u3,u4⟩:=eG (K:=K) (Zr L5 s9) hwj;have hqj:qt[j]? = some (qt[j]'(by omega)):=List.getElem?_eq_getElem (by omega);subst zzh;dsimp only;refine zzC (fun σ' H'=>H'=H9∧σ'=[some (.ref a),some (.int n),some (.ref wl),some (.ref c),some (.ref ul),some (.ref tl),some (.ref bl),some (.int (at_ + Ci ws[j])),some (.int (i:Int)),some (.int (j:Int)),none,none,none,none]) (fun D' hD=>?_) fun zzM zzh=>?_
  ·walk_at "RD";refine ⟨_,SqL.of (s9 _ _ t1),_,Cb (by rw [List.getElem?_map,hqj];rfl),_,rfl,_,SqT.of (s9 _ _ (t3 j _ _ hqj hwj)),_,Cb (j:=1) rfl,_,rfl,_,u1,_,u2,_,rfl,_,u3,_,Cb (j:=0) rfl,_,rfl,_,u4,_,Cb (j:=4) rfl,_,rfl,?_⟩;exact hD _ _ ⟨rfl,by unfold Ci;rw [show at_ + ws[j].2 + ws[j].1.off + 3=at_ + (ws[j].2 + ws[j].1.off + 3) by omega]⟩
  rintro σ10 H10 ⟨rfl,rfl⟩;subst zzh;refine ⟨s9,S9,_,_,⟨by omega,by have:=Int.natCast_add i 1;omega⟩,hb9,by rw [List.length_set,hbs],?_,_,_,rfl⟩;have Lp:=La.put hat.1 hwj hbs (fun ⟨k,hk,e⟩=>JM hfl hi hk (hj ▸ e)) nq.1;exact ⟨fun i' p x h=>Lp.lo i' p x (hJ hj h),fun i' j' p q x y h1 h2=>Lp.ap i' j' p q x y (hJ hj h1) (hJ hj h2)⟩
 ·rintro σ H7 zzq;refine zP fun zzM zzh=>?_
  obtain ⟨s7,S7,at_,bs,hat,hb7,hbs,La,x1,x2,rfl⟩:=zzq;have z1:=yc ns 7 (m:=4) (by decide);have z2:=zc ns 7 (m:=4) (by decide);have n0:=La.lo 0 ws[0] (bs[0]'(by omega)) (qE hfl (by omega)) (List.getElem?_eq_getElem (by omega)) (List.getElem?_eq_getElem (by omega));have n1:1 ≤ Ci ws[0]:=by have:=hw2 ws[0] (List.getElem_mem _);have:=this.1.of;unfold Ci;omega
  subst zzh;simp only [xb];refine zzC (fun σ' H'=>H'=H7∧∃ z:Int,(at_ ≤ z∧0 < z)∧σ'=[some (.ref a),some (.int n),some (.ref wl),some (.ref c),some (.ref ul),some (.ref tl),some (.ref bl),some (.int at_),x1,x2,some (.int z),none,none,none]) (fun D' hD=>?_) fun zzM zzh=>?_
  ·walk_at "RD";exact ⟨_,_,rfl,S7,by decide,by decide,_,rfl,hD _ _ ⟨rfl,_,by omega,rfl⟩⟩
  rintro σ8 H8 ⟨rfl,z,⟨hz1,hz0⟩,rfl⟩;subst zzh;simp only [xb];refine zzC (fun σ' H'=>Tb H8 H'∧Sc K a ns H'∧∃ (b2:Addr) (bs':List Int),H' b2=some (.lst (bs'.map V.int))∧bs'.length=ws.length∧DoB n ws z bs'∧σ'=[some (.ref a),some (.int n),some (.ref wl),some (.ref c),some (.ref ul),some (.ref tl),some (.ref b2),some (.int at_),x1,x2,some (.int z),none,none,none]) (fun D' hD=>?_) fun zzM zzh=>?_
  ·walk_at "RD";refine ⟨⟨_,SqL.of hb7⟩,?_⟩;refine ad.list_zs (xs:=bs.map V.int) (zs:=(bs.map fun b=>(b + Wf ns 8 z) % z).map V.int) (SqL.of hb7) (Nat.le_trans (show (bs.map V.int).length ≤ 5 by rw [List.length_map];omega) (by decide)) (by rw [List.length_map,List.length_map,List.length_map]) (fun j v y N hv hy hN=>?_) (fun pl hpl=>?_)
   ·obtain ⟨b1,hb1,rfl⟩:=sf hv;obtain ⟨c1,hc1,rfl⟩:=sf hy;obtain ⟨x1,hx1,rfl⟩:=sf hc1;rw [hb1] at hx1;cases hx1;walk_at "RD";exact ⟨Sub.name,_,_,rfl,S7,by decide,by omega,_,rfl,by omega,hN⟩
   ·exact hD _ _ ⟨db hpl,S7.new hpl,pl,_,gb,by rw [List.length_map,hbs],La.dob (fun i hi=>qE hfl hi) hw2 hz1 hbs _,rfl⟩
  rintro σ9 H9 ⟨s9,S9,b2,bs',hb9,hbl9,hdo,rfl⟩;have s59:=s7.trans s9;have dob:fm (Ob n ws) z (bvL bs'):=(QJ hbl9).mp hdo;have bears0:∀ p:Pap,Qd (Ob n ws) z (ar (Ob n ws)) p=false:=fun p=>dob.sound wk.ok hz0 (dF (by omega)) p _ (dob.cons0 wk.ok hz0)
  subst zzh;simp only [xb];refine Ih (fun b H'=>b=false∧Tb H9 H'∧Sc K a ns H') (fun Q hQ=>?_) (fun H' z=>nomatch z.1) (fun H9b z9=>?_)
  ·walk_at "RD";refine ⟨_,.inl (SqL.of (s59 _ _ t1)),fun l1 hl1=>?_⟩;have sN:=db (o:=.lst (qt.map V.ref)) hl1;refine ⟨n,ws,z,bs',⟨c,l1,b2,ds,rfl,(C5.same s59).same sN,by omega,Ap (s59.trans sN) gb t2 t3,hin,by omega,hab,sN _ _ hb9,hbl9,hz0,(S9.new hl1).nt⟩,fun r hr=>?_⟩;rw [show r=true from hr.mpr hdo];exact ⟨_,rfl,hQ _ _ ⟨rfl,sN,S9.new hl1⟩⟩
  obtain ⟨_,s9b,S9b⟩:=z9;have hb9b:=s9b _ _ hb9;have s59b:=s59.trans s9b;clear S9 hb9 s59 s9;simp only [bc,xb];refine zzC (fun σ' H'=>Tb H9b H'∧Sc K a ns H'∧∃ (rt pb pa:Addr) (y:Int) (p:Pap),H' rt=some (.tup [.int y,.ref pb,.ref pa])∧gj H' p pa∧Yh ws.length (unO (Ob n ws) (ar (Ob n ws))) p∧Lr p∧σ'=[some (.ref a),some (.int n),some (.ref wl),some (.ref c),some (.ref ul),some (.ref tl),some (.ref b2),some (.int at_),x1,x2,some (.int z),some (.ref rt),none,none]) (fun D' hD=>?_) fun zzM zzh=>?_
  ·walk_at "RD";refine ⟨_,.inl (SqL.of (s59b _ _ t1)),fun l hl=>⟨n,ws,⟨c,l,ds,rfl,(C5.same s59b).same (db hl),by omega,Ap (s59b.trans (db hl)) gb t2 t3,hin,wk,S9b.nt.upd⟩,fun r y pb pa b p H' s10 n10 e10 SA=>?_⟩⟩;have s9a:=(db hl).trans s10;exact hD _ _ ⟨s9a,S9b.same s9a n10,r,pb,pa,y,p,e10,SA.pap,SA.form,Tv (by show ws.length ≤ 6;omega) p _ _ SA.form SA.bear,rfl⟩
  rintro σ10 H10 ⟨s10,S10,rt,pb,pa,y,p3,e10,P3,F3,R3,rfl⟩;have hun:=(wz wk.ok (by show ws.length ≤ 6;omega)).1;have s5a:=s59b.trans s10;subst zzh;simp only [xb];refine zzC (fun σ' H'=>Tb H10 H'∧Sc K a ns H'∧∃ (pl r1 r2:Addr) (p1 p2:Pap),H' pl=some (.lst [.ref r1,.ref r2])∧gj H' p1 r1∧gj H' p2 r2∧Yh ws.length 3 p1∧Yh ws.length 3 p2∧Il p1∧Il p2∧σ'=[some (.ref a),some (.int n),some (.ref wl),some (.ref c),some (.ref ul),some (.ref tl),some (.ref b2),some (.int at_),x1,x2,some (.int z),some (.ref rt),some (.ref pl),none]) (fun D' hD=>?_) fun zzM zzh=>?_
  ·walk_at "RD";refine ⟨_,.inl (SqL.of (s5a _ _ t1)),0,ws.length,by rw [List.length_map,t2];rfl,by decide,by omega,S10,fun r1 p1 H11 s11 S11 P1 F1 Sh1=>?_⟩;refine ⟨_,.inl (SqL.of (s11 _ _ (s5a _ _ t1))),20,ws.length,by rw [List.length_map,t2];rfl,by decide,by omega,S11,fun r2 p2 H12 s12 S12 P2 F2 Sh2=>⟨by decide,fun pl hpl=>?_⟩⟩;exact hD _ _ ⟨(s11.trans s12).trans (db hpl),S12.new hpl,pl,r1,r2,p1,p2,gb,(P1.same s12).same (db hpl),P2.same (db hpl),F1,F2,Sh1,Sh2,rfl⟩
  rintro σ11 H11 ⟨s11,S11,pl,r1,r2,p1,p2,e11,P1,P2,F1,F2,Sh1,Sh2,rfl⟩;have P3':=P3.same s11;have e11':=s11 _ _ e10;have s5b:=s5a.trans s11;subst zzh;simp only [xb];walk_at "RD";refine ⟨_,SqT.of e11',_,Cb (j:=2) rfl,_,SqT.of e11',_,Cb (j:=2) rfl,_,hun,0,ws.length,pa,p3,rfl,by omega,by omega,P3',F3,R3,S11,fun r4 p4 H12 s12 S12 P4 F4 Sh4=>⟨by decide,fun l1 hl1=>⟨_,db hl1 _ _ (s12 _ _ e11),_,gb,by show 4 ≤ sizeLine;decide,fun l2 hl2=>⟨⟨_,SqL.of gb⟩,?_⟩⟩⟩⟩;have sA:=(db (o:=.lst [.ref pa,.ref r4]) hl1).trans (db (o:=.lst [.ref r1,.ref r2,.ref pa,.ref r4]) hl2);have SA:=(S12.new (o:=.lst [.ref pa,.ref r4]) hl1).new (o:=.lst [.ref r1,.ref r2,.ref pa,.ref r4]) hl2;have eA:(upd (upd H12 l1 (.lst [.ref pa,.ref r4])) l2 (.lst [.ref r1,.ref r2,.ref pa,.ref r4])) l2=some (.lst [.ref r1,.ref r2,.ref pa,.ref r4]):=gb;have sB:=s12.trans sA;have s5c:=s5b.trans sB;have all4:∀ v ∈ [V.ref r1,V.ref r2,V.ref pa,V.ref r4],∃ (x:Addr) (p:Pap) (d:Nat),v=.ref x∧gj (upd (upd H12 l1 (.lst [.ref pa,.ref r4])) l2 (.lst [.ref r1,.ref r2,.ref pa,.ref r4])) p x∧Yh ws.length d p∧d ≤ 10∧Il p:=by
   intro v hv;simp only [List.mem_cons,List.not_mem_nil,or_false] at hv;rcases hv with rfl | rfl | rfl | rfl
   ·exact ⟨r1,p1,3,rfl,P1.same sB,F1,by decide,Sh1⟩
   ·exact ⟨r2,p2,3,rfl,P2.same sB,F2,by decide,Sh2⟩
   ·exact ⟨pa,p3,_,rfl,P3'.same sB,F3,hun,cg R3⟩
   ·exact ⟨r4,p4,_,rfl,P4.same sA,F4,hun,Sh4⟩
  show Hj _ _ _ _ _ (upd (upd H12 l1 (.lst [.ref pa,.ref r4])) l2 (.lst [.ref r1,.ref r2,.ref pa,.ref r4]));generalize upd (upd H12 l1 (.lst [.ref pa,.ref r4])) l2 (.lst [.ref r1,.ref r2,.ref pa,.ref r4])=HF at sA SA eA sB s5c all4 ⊢;refine Hj.list (xs:=[V.ref r1,V.ref r2,V.ref pa,V.ref r4]) (fun i σ H'=>Tb HF H'∧Sc K a ns H'∧∃ x,σ=[some (.ref a),some (.int n),some (.ref wl),some (.ref c),some (.ref ul),some (.ref tl),some (.ref b2),some (.int at_),x1,x2,some (.int z),some (.ref rt),some (.ref pl),x]) ?_ ?_ ?_ ?_
  ·exact ⟨Tb.refl _,SA,_,rfl⟩
  ·rintro i σ H' hi ⟨s13,_⟩;exact SqL.of (s13 _ _ eA)
  ·rintro i v σ H' hv zzq;refine zP fun zzM zzh=>?_
   obtain ⟨s13,S13,x,rfl⟩:=zzq;obtain ⟨xa,xp,xd,rfl,q1,q2,q3,q4⟩:=all4 v (List.mem_of_getElem? hv);subst zzh;simp only [Bg,List.set_cons_succ,List.set_cons_zero];refine Ih (fun b H''=>b=false∧Tb H' H''∧Sc K a ns H'') (fun Q hQ=>?_) (fun H'' z=>nomatch z.1) (fun H'' z=>?_)
   ·walk_at "RD";refine ⟨_,.inl (SqL.of (s13 _ _ (s5c _ _ t1))),fun l hl=>?_⟩;have sN:=db (o:=.lst (qt.map V.ref)) hl;refine ⟨c,l,z,xa,n,ds,ws,xp,xd,rfl,((C5.same s5c).same s13).same sN,by omega,Ap ((s5c.trans s13).trans sN) gb t2 t3,hin,wk,(q1.same s13).same sN,q2,q3,q4,(S13.new hl).nt,fun H3 s3 n3=>?_⟩;rw [bears0 xp];exact ⟨_,rfl,hQ _ _ ⟨rfl,sN.trans s3,S13.same (sN.trans s3) n3⟩⟩
   ·simp only [bc];exact ⟨s13.trans z.2.1,z.2.2,_,rfl⟩
  ·rintro σ H' zzq;refine zP fun zzM zzh=>?_
   obtain ⟨s13,S13,x,rfl⟩:=zzq;subst zzh;walk_at "RD";exact q _
end
end My
structure PySem.W.Fast:Prop where(tw9207606561655498531 tw1422942976581776859 tw16199129584714552646 tw17043145496316446347 tw9334564586911707960 tw462711984134945771 tw3641555163818412139 tw3896848655465523064 tw2512004941295853409 tw6899568116730276211 tw6375931017062636437 tw18380862855698816658 tw15975396134123843599 tw3953613704848346787 tw8202863088820235532 tw1609279574775262131 tw15378777497193343561 tw10561450492203958041 tw16083355404875848354 tw11488050946242604970 tw14531473666884751423 tw9070706983158972299 tw4886675232594578942 tw15011657787765550061 tw8845163847425568876 tw12141015355074777504 tw14777520257889084703 tw13031959696340302430 tw5555050940925391668 tw10613515933749188351 tw3003886697203452249 tw17694942304133685237 tw365111259824329377 tw2141633025572870464 tw15472602628145026619 tw10184015179274934396 tw14061931859714487389 tw85526404467834176 tw3285092702546657673 tw10594876232803752696 tw15899427009319186757 tw9006584742205350656 tw16746542763410862404 tw6002835107719797667 tw6925153402015510103 tw17679588351056139010 tw17593987374616525350 tw8938061264439449726 tw1171385077537886875 tw10831757490637693832 tw12979991737868813449 tw9966407334842680724 tw11972317588909807497 tw4868022320721357681 tw8270587907905576231 tw3137520871668527961 tw14286751514305674243 tw9317793208032651751 tw11179279797408627507 tw5267223160771135718 tw14589610125473621368 tw14373428311092177928 tw11912590452828285077 tw17228654689738219929 tw2572455888940488004 tw9291910960249835454 tw4753280772137522165 tw1139119110947270321 tw14817292904611553485 tw15342643163161537563 tw14212962059299562293 tw4315821223011791946 tw14156088480536982038 tw7789344656246866146 tw18011735743701513184 tw9810983863876373785 tw15758035720810909574 tw11204246077552508838 tw12979800489545472315 tw6799664526346132997 tw18160693401097915783 tw2141007391649436237 tw2474547507522198258 tw3835995821592065768 tw13070906077832833679 tw10233243229702231046 tw7814235291391842037 tw3028508318947973381 tw8690986962518011696 tw3470575031327341176 tw1914550743823620374 tw1301514952984574524 tw9871186700691488044 tw13413503715642746189 tw4842879198245572268 tw15336040562302498630 tw18180844504046347495 tw1493576469114475017 tw7732170206786596706 tw5577676795153742519 tw17872892213570157660 tw5461859042095722905 tw572988123064150768 tw3629593413493168502 tw1188396398443614452 tw6238684565546455228 tw1610775944790659320 tw3329150826978153472 tw11018978378382545842 tw7625433668052606178 tw5746535489490055159 tw14642793860959537945 tw1204518785200297548 tw8927283656808861565 tw10607629083064965683 tw6956602510061426563 tw2641438747424776823 tw7700422425618457631 tw11746336512915257629 tw15218517194428666310 tw2697244827040289806 tw10062225153582958906 tw791304572997244517 tw14244708493848218044 tw861420763306650638 tw11064125983688735456 tw6983155737259936147 tw8580983679917939020 tw9975237967312674843 tw9014798180653493970 tw16233279358484363711 tw10996855769863645456 tw13248512265741516101 tw10185063326586182858 tw15508071510616716631 tw4409667588419267986 tw9781408296631123903 tw9353896240235815405 tw8629431941234611512 tw2033054034034480165 tw7811822345144413501 tw15466926298037628574 tw7024504885902822874 tw11720551899285191061 tw6681965641072046046 tw15708689060205408062 tw14563671814291165643 tw16255395755060852571 tw1400399230767059667 tw15440391960398581957 tw9394784365186641698 tw15276182916341155054 tw10960411985883433671 tw10605468323909857296 tw4595246717926216748 tw15006093305479046174 tw5417076597490553117 tw6270310318625751468 tw17009692061558901494 tw14538943328529251088 tw15194031265388366211 tw4514358239796967534 tw14427024292788925274 tw11086212435850877811 tw16720975580796907362 tw11540200714005817796 tw12617097375609438612 tw17097347650990938980 tw6244541877556098875 tw10038808246484993247 tw18179604293776638112 tw3676767015701748026 tw12131578567413820935 tw3076182208860106745 tw12342540661253120368 tw13115225867542902451 tw4364228759321072387 tw3430810927462593598 tw11569809664795615432 tw2359890152714487501 tw3383348486291857826 tw11933114131496278350 tw14532042576397262654 tw1356214747566192070 tw4218835762855929411 tw8842713407866449524 tw13569944901263081273 tw7900421857200722750 tw14540592842192998019 tw8427900441342668685 tw11527067923266380967 tw10416806255467674471 tw15616159807994188101 tw7263376339591517166 tw13620267144619019249 tw501510825589525090 tw5353672567650091237 tw10645367543049527283 tw5959001040955228212 tw1064492203212506902 tw2394605037388030937 tw15844317478196234382 tw7641273565174270477 tw15776022077052412625 tw9696185519406617456 tw13270138161765272570 tw6902857874871336576 tw13234261655298083852 tw10325185494319700822 tw4531846371910428313 tw14752315231411087269 tw3460547319613331776 tw16937343317637421681 tw5067132273450926702 tw14491512388320952872 tw10291357158392831365 tw9703776239278881396 tw11985532946603352452 tw3122609229055251602 tw18142017433343057280 tw2493827925794922879 tw7527202958059267422 tw17669361617152582237 tw9678098024456530360 tw11201722874580007157 tw8949687802037289742 tw6156912192227009524 tw15376281741504330400 tw356027196921397846 tw10534346271666060580 tw14044407850939261482 tw3351266040876262906 tw18206171065779175796 tw3005709614223703033 tw4049333488373405037 tw15840066519035945363 tw1125136805767298958 tw14012604008039053748 tw15906824511203019010 tw8442123352705609232 tw4515778442155475300 tw6002218109686119592 tw17021284299445096536 tw6884356753152138398 tw3471354566221889234 tw5386595103629544232 tw1041588644393605349 tw17840619630500557118 tw738908772908946452 tw15674874712635393091 tw14710112847522731856 tw16268210275115820540 tw7023533070905291542 tw11300155448880882291 tw16881765571903250212 tw15570512978214137631 tw3462526212553056170 tw5707450833797295242 tw363141005685532081 tw7714137837232023120 tw15317270553821340441 tw14082853914558762673 tw5237516626294122083 tw14768685304100189593 tw12713785172548335943 tw11511878270758942606 tw13843114362331801831 tw15157286037842179030 tw6857065058777686447 tw4635882754924475059 tw8949565526634471524 tw17792369161093759727 tw11842407410788832040 tw17783632883293807448 tw10051828120029971409 tw6232221382749172673 tw7781361918210383400 tw166579057503124345 tw1442907578123478821 tw9935265577966951887 tw8574048521904592393 tw6350605118046383106 tw7892123499691953629 tw15064299224617609492 tw18083704813680963066 tw7317310196335699302 tw16377587686425453938 tw5394467332101689616 tw1393206832609834541 tw2870477484984044931 tw5739640012041460697 tw15446191280762642109 tw8036806888862644364 tw16661191993448563495 tw7373398302136799844 tw589210069981842460 tw6837489580146232291 tw2194196764469523561 tw3115022416077200906 tw7993622674333671719 tw18426454286745866528 tw366108897817237897 tw13865738913990742986 tw8392504649414343768 tw13224273535498047135 tw7081250351907408942 tw4054210768390409726 tw10194888259922344697 tw715412402209905765 tw17108727450238193502 tw12448759476558912372 tw7878094080279314781 tw11172313125741913236 tw15890482692974240517 tw16469170667433008377 tw12047207333360347342 tw17848245492690140119 tw17735814135290514262 tw10188788034307789604 tw16647322422553234512 tw7683448607844304612 tw3154856476872013801 tw8738270774095238552 tw4984486521710522132 tw6958918842592727903 tw14184185072554738547 tw17682717303064695941 tw12081789220680553902 tw6249847960777817587 tw15679188160686821789 tw3072346420946045322 tw10663492633525862239 tw11941810397411740848 tw7038760587925599688 tw15292404938966615676 tw11740009603442592550 tw13782589233197851919 tw17258256631972101685 tw16152982198593848369 tw3577073753220747009 tw14352345287105500613 tw2107009077406953944 tw12097415708387167055 tw16420853568931138436 tw16637875426675686226 tw14561438729143074097 tw8648513627141427623 tw16047253146560402392 tw18246966397576036508 tw195971062365712939 tw13978637440330500271 tw16627466190727468909 tw1536390650425054916 tw14229649019920825318 tw12631778900238716468 tw3013402334189121454 tw14429702182424993870 tw6516791319809895389 tw17813909841274327391 tw8339169403659572273 tw5874281883762744394 tw13292906705942519583 tw13567316630097491462 tw1150564568530675437 tw11789489313908540050 tw6368389639719192158 tw17256893407484259201 tw16296838694216921625 tw13307028950117866736 tw8384362407732690866 tw18317294093224875649 tw2231638502823860444 tw13794141210333854909 tw9359227073479483126 tw4868945229991491547 tw12829694254817673980 tw14983706374430967531 tw7459766335665299148 tw18239889457703649173 tw10951657229435023826 tw6003799335645495024 tw379080287619762391 tw6284854571414670252 tw16846981139257385115 tw11480865574385230705 tw15287431908114541340 tw5787605700816851292 tw11281786562465750706 tw16688284050384415915 tw10952122106287778987 tw4489862163445627932 tw8749699279206638340 tw7612987363447581405 tw17015223134177436473 tw8474565026873590156 tw1089863153917111762 tw13845844440422426316 tw3231306390064679949 tw5912885694639878904 tw15647922600552400905 tw5861565478617056359 tw10289898137053829671 tw7469855680876838805 tw9571640469761334535 tw5510820950965138322 tw15200283178251488723 tw15260235317516365467 tw860683716590970828 tw16140367340876782011 tw15113363151313951596 tw17092554129428514053 tw17921258845415428995 tw2356651389686008171 tw10698234456098203649 tw4387595012430857834 tw7910604973526432627 tw6285805904685524971 tw14461507498302953645 tw4963168564369268001 tw15253703574139718678 tw1289406112382039475 tw14741130274308121974 tw6381348851496111555 tw7495500508784421876 tw10638847567801148934 tw400199758479825045:True)
open PySem PySem.W PyProof.Rows
set_option maxRecDepth 100000 in
set_option maxHeartbeats 0 in
theorem PySem.Challenge.cw_lampway_k62_whole_no_paper_against_begin_holds : PySem.Challenge.rw_lampway_k62_whole_no_paper_against_begin.Holds := by
 w_on;o_law;k_head;(case hw=>w_witness2)
 k_fill
 refine L2.VF (l:=PySem.Challenge.rw_lampway_k62_whole_no_paper_against_begin) (n:=63) (k:=26) (x := "_law_script") (CX:=L2.CX0) (sp:=L2.XM) rfl (by decide) rfl ⟨rfl,by decide,by decide⟩ (fun w h Y=>PySem.W.kIn_of Y) ?F ?S ?C
 case F=>
  intro w mg fa h KX G hmg;have T:∃ t,My.Txt w (L2.KOf KX) mg t:=by
   dsimp only [L2.KOf];refine' ⟨My.Adr.mk,⟨?mqaa,?Fqab,?mqac,?Fqad,?mqae,?Fqaf,?mqag,?Fqah,?mqai,?Fqaj,?mqak,?Fqal,?mqam,?Fqan,?mqao,?Fqap,?mqaq,?Fqar,?mqas,?Fqat,?mqau,?Fqav,?mqaw,?Fqax,?mqay,?Fqaz,?mqba,?Fqbb,?mqbc,?Fqbd,?mqbe,?Fqbf,?mqbg,?Fqbh,?mqbi,?Fqbj,?mqbk,?Fqbl,?mqbm,?Fqbn,?mqbo,?Fqbp,?mqbq,?Fqbr,?mqbs,?Fqbt,?mqbu,?Fqbv,?mqbw,?Fqbx,?mqby,?Fqbz,?mqca,?Fqcb,?mqcc,?Fqcd,?mqce,?Fqcf,?mqcg,?Fqch,?mqci,?Fqcj,?mqck,?Fqcl,?mqcm,?Fqcn,?mqco,?Fqcp,?mqcq,?Fqcr,?mqcs,?Fqct,?mqcu,?Fqcv,?mqcw,?Fqcx,?mqcy,?Fqcz,?mqda,?Fqdb,?mqdc,?Fqdd,?mqde,?Fqdf,?mqdg,?eqdh,?Fqdi,?mqdj,?eqdk,?Fqdl,?eqdm,?Fqdn,?eqdo,?Fqdp,?eqdq,?Fqdr,?eqds,?Fqdt,?eqdu,?Fqdv,?eqdw,?Fqdx,?eqdy,?Fqdz,?mqea,?eqeb,?Fqec,?mqed,?eqee,?Fqef,?eqeg,?Fqeh,?eqei,?Fqej,?mqek,?eqel,?Fqem,?eqen,?Fqeo,?eqep,?Fqeq,?mqer,?eqes,?Fqet,?eqeu,?Fqev,?eqew,?Fqex,?mqey,?eqez,?Fqfa,?eqfb,?Fqfc,?eqfd,?Fqfe,?sqff,?sqfg,?nqfh,?nqfi,?nqfj,?sqfk,?sqfl,?sqfm,?sqfn,?sqfo,?sqfp,?sqfq,?sqfr,?sqfs,?nqft,?nqfu,?nqfv,?sqfw,?nqfx,?nqfy,?nqfz,?nqga,?nqgb,?nqgc,?nqgd,?sqge,?sqgf,?sqgg,?sqgh,?nqgi,?nqgj,?nqgk,?nqgl,?nqgm,?nqgn,?nqgo,?sqgp,?sqgq,?sqgr,?sqgs,?nqgt,?nqgu,?nqgv,?nqgw,?nqgx,?nqgy,?nqgz,?sqha,?sqhb,?sqhc,?sqhd,?nqhe,?nqhf,?nqhg,?nqhh,?nqhi,?nqhj,?nqhk,?sqhl,?sqhm,?sqhn,?sqho,?nqhp,?nqhq,?nqhr,?dqhs,?dqht,?dqhu,?dqhv,?dqhw,?dqhx,?sqhy,?mqhz,?vqia,?mqib,?vqic,?mqid,?vqie,?mqif,?vqig,?mqih,?vqii,?mqij,?vqik,?mqil,?vqim,?mqin,?vqio,?mqip,?vqiq,?mqir,?vqis,?bqit,?bqiu,?bqiv,?bqiw,?bqix,?bqiy,?bqiz,?bqja,?bqjb,?bqjc,?bqjd,?bqje,?bqjf,?bqjg,?lqjh⟩⟩
   case mqaa | mqac | mqae | mqag | mqai | mqak | mqam | mqao | mqaq | mqas | mqau | mqaw | mqay | mqba | mqbc | mqbe | mqbg | mqbi | mqbk | mqbm | mqbo | mqbq | mqbs | mqbu | mqbw | mqby | mqca | mqcc | mqce | mqcg | mqci | mqck | mqcm | mqco | mqcq | mqcs | mqcu | mqcw | mqcy | mqda | mqdc | mqde | mqdg | mqdj | mqea | mqed | mqek | mqer | mqey | mqhz | mqib | mqid | mqif | mqih | mqij | mqil | mqin | mqip | mqir=>(try dsimp only);refine' PySem.W.mg_of KX G ?z;case z=>k_is
   case eqdh | eqdk | eqdm | eqdo | eqdq | eqds | eqdu | eqdw | eqdy | eqeb | eqee | eqeg | eqei | eqel | eqen | eqep | eqes | eqeu | eqew | eqez | eqfb | eqfd=>(try dsimp only);k_is
   case sqff | sqfg | sqfk | sqfl | sqfm | sqfn | sqfo | sqfp | sqfq | sqfr | sqfs | sqfw | sqge | sqgf | sqgg | sqgh | sqgp | sqgq | sqgr | sqgs | sqha | sqhb | sqhc | sqhd | sqhl | sqhm | sqhn | sqho | sqhy=>(try dsimp only);constructor <;> k_is
   case Fqab | Fqad | Fqaf | Fqah | Fqaj | Fqal | Fqan | Fqap | Fqar | Fqat | Fqav | Fqax | Fqaz | Fqbb | Fqbd | Fqbf | Fqbh | Fqbj | Fqbl | Fqbn | Fqbp | Fqbr | Fqbt | Fqbv | Fqbx | Fqbz | Fqcb | Fqcd | Fqcf | Fqch | Fqcj | Fqcl | Fqcn | Fqcp | Fqcr | Fqct | Fqcv | Fqcx | Fqcz | Fqdb | Fqdd | Fqdf | Fqdi | Fqdl | Fqdn | Fqdp | Fqdr | Fqdt | Fqdv | Fqdx | Fqdz | Fqec | Fqef | Fqeh | Fqej | Fqem | Fqeo | Fqeq | Fqet | Fqev | Fqex | Fqfa | Fqfc | Fqfe=>(try dsimp only);refine' L2.HL ?x ?y ?z;(case x=>k_is);(case y=>k_is);(case z=>k_is)
   case nqfh | nqfi | nqfj | nqft | nqfu | nqfv | nqfx | nqfy | nqfz | nqga | nqgb | nqgc | nqgd | nqgi | nqgj | nqgk | nqgl | nqgm | nqgn | nqgo | nqgt | nqgu | nqgv | nqgw | nqgx | nqgy | nqgz | nqhe | nqhf | nqhg | nqhh | nqhi | nqhj | nqhk | nqhp | nqhq | nqhr=>(try dsimp only);unfold L2.kc;k_is
   case dqhs | dqht | dqhu | dqhv | dqhw | dqhx=>(try dsimp only);decide
   case vqia | vqic | vqie | vqig | vqii | vqik | vqim | vqio | vqiq | vqis=>(try dsimp only);exact ⟨_,rfl⟩
   case bqit | bqiu | bqiv | bqiw | bqix | bqiy | bqiz | bqja | bqjb | bqjc | bqjd | bqje | bqjf | bqjg=>(try dsimp only);refine' PySem.W.mg_none_of KX G ?z;case z=>k_is
   case lqjh=>(try dsimp only);exact fun _ _=>.of_eq rfl
  obtain ⟨t,T⟩:=T;have e0:=hmg.symm.trans T.MN;cases e0;exact ⟨t.VG,T.lL,fun base kb nb=>My.TL T⟩
 case S=>exact fun K H a ns hl hO hS=>⟨a,ns,rfl,L2.Sc.of_only hO hS,hl,fun _=>rfl⟩
 case C=>exact fun _ _ _ _ z=>z
