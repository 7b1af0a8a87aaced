import PyProof.Rows.All
import Wide.All
import OpenK.AllK
import Wide.FinOn
import Lean
import PyProof.EqAt
import PyProof.EqKinds
import PyProof.TupleCall
import KE.KTryMore
import PyProof.NsDelKeeps
import PySem.Challenge.RW_lampway_k17_next_free_and_longest
set_option Elab.async false
set_option linter.all false
set_option maxRecDepth 100000
namespace L2
open PySem PySem.Spec PyProof.Rows
noncomputable abbrev Key:=Sum Int Str
noncomputable def gy:Key→Value→Bool
 | .inl k,v=>Value.isInt k v
 | .inr x,v=>Value.isStrOf x v
noncomputable def ZM (w:World):Key→Int
 | .inl k=>hashInt k
 | .inr x=>hashStr w x
theorem md:∀ {k:Key} {v:Value},gy k v=true→(∃ i t,k=Sum.inl i∧v=Value.int i t)∨(∃ x t,k=Sum.inr x∧v=Value.str x t)
 | .inl i,v,h=>by
  obtain ⟨t,e⟩:=Value.isInt_shape (k:=i) (v:=v) h
  exact .inl ⟨i,t,rfl,e⟩
 | .inr x,v,h=>by
  obtain ⟨t,e⟩:=Value.isStrOf_shape (x:=x) (v:=v) h
  exact .inr ⟨x,t,rfl,e⟩
theorem iz (i:Int) (t:Tok):gy (.inl i) (.int i t)=true:=by simp [gy,Value.isInt]
theorem Wy (x:Str) (t:Tok):gy (.inr x) (.str x t)=true:=by simp [gy,Value.isStrOf]
theorem LJ (a b:Int):decide ((Sum.inl a:Key)=Sum.inl b)=(a == b):=by
 by_cases e:a=b
 ·subst e;simp
 ·have h:¬ (Sum.inl a:Key)=Sum.inl b:=fun q=>e (Sum.inl.inj q)
  rw [decide_eq_false h]
  exact (beq_eq_false_iff_ne.mpr e).symm
theorem xJ (a b:Str):decide ((Sum.inr a:Key)=Sum.inr b)=decide (a=b):=by
 by_cases e:a=b
 ·subst e;simp
 ·have h:¬ (Sum.inr a:Key)=Sum.inr b:=fun q=>e (Sum.inr.inj q)
  rw [decide_eq_false h,decide_eq_false e]
theorem LI (a:Int) (b:Str):decide ((Sum.inl a:Key)=Sum.inr b)=false:=decide_eq_false (fun q=>nomatch q)
theorem NJ (a:Str) (b:Int):decide ((Sum.inr a:Key)=Sum.inl b)=false:=decide_eq_false (fun q=>nomatch q)
noncomputable def Ie (prog:Program) (w:World):PySem.KeyKind prog w Key where
 is:=gy
 hash:=ZM w
 inj:=fun v a b ha hb=>by
  rcases md ha with ⟨i,t,rfl,rfl⟩ | ⟨x,t,rfl,rfl⟩
  ·rcases md hb with ⟨j,u,rfl,e⟩ | ⟨y,u,rfl,e⟩
   ·injection e with e1 _;rw [e1]
   ·exact nomatch e
  ·rcases md hb with ⟨j,u,rfl,e⟩ | ⟨y,u,rfl,e⟩
   ·exact nomatch e
   ·injection e with e1 _;rw [e1]
 byValue:=fun k v h=>by
  rcases md h with ⟨i,t,rfl,rfl⟩ | ⟨x,t,rfl,rfl⟩ <;> rfl
 pyHash:=fun hv h=>by
  rcases md hv with ⟨i,t,rfl,rfl⟩ | ⟨x,t,rfl,rfl⟩
  ·exact wpAny_pyHash_int h
  ·exact wpAny_pyHash_str h
 eqBool:=fun hu hv h=>by
  rcases md hu with ⟨i,t,rfl,rfl⟩ | ⟨x,t,rfl,rfl⟩
  ·rcases md hv with ⟨j,u,rfl,rfl⟩ | ⟨y,u,rfl,rfl⟩
   ·rw [LJ] at h;exact wpAny_eqBool_int h
   ·rw [LI] at h;exact SeqAt.EqAt.int_str i t y u _ _ _ _ h
  ·rcases md hv with ⟨j,u,rfl,rfl⟩ | ⟨y,u,rfl,rfl⟩
   ·rw [NJ] at h;exact SeqAt.EqAt.str_int x t j u _ _ _ _ h
   ·rw [xJ] at h;exact wpAny_eqBool_str h
 «strs»:=fun k x t v h=>by
  rcases md h with ⟨i,u,rfl,e⟩ | ⟨y,u,rfl,e⟩
  ·exact nomatch e
  ·injection e with e1 _
   subst e1
   cases v <;> rfl
theorem Wu (prog:Program) (w:World) (i:Int) (t:Tok):(Ie prog w).is (.inl i) (.int i t)=true:=iz i t
theorem wv (prog:Program) (w:World) (x:Str) (t:Tok):(Ie prog w).is (.inr x) (.str x t)=true:=Wy x t
end L2
namespace L2
open PySem PySem.Spec PyProof.Rows
inductive V where
 | non | bl (b:Bool) | int (i:Int) | str (x:Str) | byt (b:Array UInt8) | flt (b:UInt64) | ref (a:Addr) | ty (n:String)
 deriving DecidableEq
noncomputable def Zc:V→Value→Prop
 | .non,u=>u=Value.none
 | .bl b,u=>u=Value.bool b
 | .int i,u=>∃ t,u=Value.int i t
 | .str x,u=>∃ t,u=Value.str x t
 | .byt b,u=>∃ t,u=Value.bytes b t
 | .flt b,u=>∃ t,u=Value.float b t
 | .ref a,u=>u=Value.ref a
 | .ty n,u=>u=Value.type n
noncomputable abbrev Kc:List V→List Value→Prop:=Paired Zc
theorem Kc.length {xs:List V} {us:List Value} (r:Kc xs us):xs.length=us.length:=Paired.length r
theorem Kc.get:∀ {xs:List V} {us:List Value} {i:Nat} {x:V},Kc xs us→xs[i]? = some x→∃ u,us[i]? = some u∧Zc x u
 | _,_,_,_,.nil,e=>by simp at e
 | _,_,0,_,.cons r _,e=>by simp at e;subst e;exact ⟨_,rfl,r⟩
 | _,_,i + 1,x,.cons _ t,e=>by
  obtain ⟨u,h1,h2⟩:=Kc.get (i:=i) (x:=x) t (by simpa using e)
  exact ⟨u,by simpa using h1,h2⟩
theorem Kc.set {x:V} {u:Value} (r:Zc x u):∀ {xs:List V} {us:List Value} (i:Nat),Kc xs us→Kc (xs.set i x) (us.set i u)
 | _,_,_,.nil=>.nil
 | _,_,0,.cons _ t=>.cons r t
 | _,_,i + 1,.cons q t=>.cons q (Kc.set r i t)
theorem Kc.append:∀ {xs ys:List V} {us ws:List Value},Kc xs us→Kc ys ws→Kc (xs ++ ys) (us ++ ws)
 | _,_,_,_,.nil,s=>s
 | _,_,_,_,.cons r t,s=>.cons r (Kc.append t s)
theorem Kc.take:∀ {xs:List V} {us:List Value} (n:Nat),Kc xs us→Kc (xs.take n) (us.take n)
 | _,_,0,_=>.nil
 | _,_,_ + 1,.nil=>.nil
 | _,_,n + 1,.cons r t=>.cons r (Kc.take n t)
theorem Kc.drop:∀ {xs:List V} {us:List Value} (n:Nat),Kc xs us→Kc (xs.drop n) (us.drop n)
 | _,_,0,r=>r
 | _,_,_ + 1,.nil=>.nil
 | _,_,n + 1,.cons _ t=>Kc.drop n t
theorem Kc.none_of:∀ {xs:List V} {us:List Value} {i:Nat},Kc xs us→xs[i]? = none→us[i]? = none:=fun {xs us i} r e=>by
 have h1:=r.length
 have h2:xs.length ≤ i:=List.getElem?_eq_none_iff.mp e
 exact List.getElem?_eq_none_iff.mpr (by omega)
noncomputable def Cp:Option V→Option Value→Prop
 | some v,some u=>Zc v u
 | none,none=>True
 | _,_=>False
noncomputable def KV {κ:Type}:List (κ × V)→List (κ × Value)→Prop:=Paired fun (p:κ × V) (q:κ × Value)=>p.1=q.1∧Zc p.2 q.2
noncomputable def kV:Key→V
 | .inl i=>.int i
 | .inr x=>.str x
inductive HO where
  | lst (xs:List V)
  | tup (xs:List V)
  | dK (kvs:List (Key × V)) | dT (kvs:List (List Key × V))
  | set (S:Int→Bool) (n:Nat)
  | ins (C dx:Addr) (fs:List (Str × V))
  | own (x:Addr)
  | xd (fs:List (Str × V))
  | met (f x:Addr)
  | rng (lo hi:Int)
  | frz (o:Obj) (u:HO)
  | tbl (ps:Array Value)
  | ext (φ:Heap→Prop)
noncomputable abbrev Hp:=Addr→Option HO
noncomputable def upd (H:Hp) (a:Addr) (o:HO):Hp:=fun b=>if b=a then some o else H b
theorem db {H:Hp} {a:Addr} {o:HO}:upd H a o a=some o:=by unfold upd;rw [if_pos rfl]
theorem jb {H:Hp} {a b:Addr} {o:HO} (h:b ≠ a):upd H a o b=H b:=by unfold upd;rw [if_neg h]
theorem Li {H:Hp} {a:Addr} {o u:HO}:upd (upd H a o) a u=upd H a u:=by
 funext b;unfold upd;split <;> rfl
theorem Yf {H:Hp} {a b:Addr} {o u:HO} (h:H a=some o) (h':H b=some u) (d:o ≠ u):a ≠ b:=by
 intro e;subst e;rw [h] at h';exact d (Option.some.inj h')
theorem lb {H:Hp} {a b:Addr} {o:HO} (h:H a=some o) (h':H b=none):a ≠ b:=by
 intro e;subst e;rw [h] at h';cases h'
section
variable (P:Program) (w:World)
noncomputable def Xc (H:Hp) (h:Heap) (a:Addr):HO→Prop
 | .lst xs=>xs.length ≤ sizeLine∧∃ (its:List Value) (n:Nat),Kc xs its∧h.get? a=some { cls:=.type "list",data:=.seq its.toArray n }
 | .tup xs=>xs.length ≤ sizeLine∧∃ its:List Value,Kc xs its∧IsTup h a its.toArray
 | .dK kvs=>kvs.length ≤ sizeLine∧(a == sysModules)=false∧∃ vs,KV kvs vs∧h.DictOf (Ie P w) a vs
 | .dT kvs=>kvs.length ≤ sizeLine∧(a == sysModules)=false∧∃ xs:List (List Key × Addr × Value),
   Paired (fun (p:List Key × V) (q:List Key × Addr × Value)=>p.1=q.1∧H q.2.1=some (.tup (p.1.map kV))∧Zc p.2 q.2.2) kvs xs ∧
   ∃ o es ep,h.get? a=some o∧o.ExactDict∧o.data=.dict es ep∧es.toList=xs.map (entryOfKey (tupleKind (Ie P w)))∧(xs.map (·.1)).Nodup
 | .set S n=>h.SetOf (intKind P w) a S n
 | .ins C dx fs=>H dx=some (.own a)∧fs.length ≤ 1000∧dx ≠ a∧h.get? a=some (PySem.W.instObj C dx) ∧
   ∃ mA,h.Ns1 dx mA∧(∀ f,Cp (fs.lookup f) (mA f))∧PySem.Within mA (fs.map (·.1))
 | .own _=>∃ o,h.get? a=some o
 | .xd fs=>∃ mA,h.Ns1 a mA∧∀ f,Cp (fs.lookup f) (mA f)
 | .rng lo hi=>∃ t u v,h.get? a=some { cls:=.type "range",data:=.fields #[.int lo t,.int hi u,.int 1 v] }
 | .frz o u=>h.get? a=some o∧Xc H h a u
 | .tbl ps=>h.get? a=some { cls:=.none,data:=.fields ps }
 | .met f x=>h.get? a=some (PySem.W.methodObj (.ref f) (.ref x))
 | .ext φ=>φ h∧(∃ o,h.get? a=some o)∧∀ h1 h2:Heap,φ h1→(∀ o,h1.get? a=some o→h2.get? a=some o)→φ h2
noncomputable def HOk (H:Hp) (h:Heap):Prop:=∀ a o,H a=some o→Xc P w H h a o
end
section
variable {P:Program} {w:World} {H H':Hp} {h h':Heap} {a:Addr} {o:HO}
theorem Xc.lt (x:Xc P w H h a o):a < h.objs.size:=by
 cases o with
 | lst xs=>obtain ⟨_,_,_,_,e⟩:=x;exact Heap.lt_size e
 | tup xs=>obtain ⟨_,_,_,p⟩:=x;exact p.lt
 | dK kvs=>obtain ⟨_,_,_,_,o,_,_,e,_⟩:=x;exact Heap.lt_size e
 | dT kvs=>obtain ⟨_,_,_,_,o,_,_,e,_⟩:=x;exact Heap.lt_size e
 | set S n=>obtain ⟨o,_,_,_,e,_⟩:=x;exact Heap.lt_size e
 | ins C dx fs=>obtain ⟨_,_,_,e,_⟩:=x;exact Heap.lt_size e
 | own y=>obtain ⟨_,e⟩:=x;exact Heap.lt_size e
 | xd fs=>obtain ⟨_,⟨_,_,_,e,_⟩,_⟩:=x;exact Heap.lt_size e
 | rng lo hi=>obtain ⟨_,_,_,e⟩:=x;exact Heap.lt_size e
 | frz ob u=>obtain ⟨e,_⟩:=x;exact Heap.lt_size e
 | tbl ps=>exact Heap.lt_size (show h.get? a=some _ from x)
 | met f y=>exact Heap.lt_size (show h.get? a=some _ from x)
 | ext φ=>obtain ⟨_,⟨_,e⟩,_⟩:=x;exact Heap.lt_size e
theorem Paired.mapP {α β:Type} {F G:α→β→Prop}:∀ {l₁:List α} {l₂:List β},Paired F l₁ l₂→(∀ a b,F a b→G a b)→Paired G l₁ l₂
 | _,_,.nil,_=>.nil
 | _,_,.cons r t,f=>.cons (f _ _ r) (Paired.mapP t f)
theorem Xc.stay (x:Xc P w H h a o) (k:∀ b u,(b=a∨H b=some (.own a))→h.get? b=some u→h'.get? b=some u)
  (ho:∀ b,H b=some (.own a)→H' b=some (.own a)) (ht:∀ b xs,H b=some (.tup xs)→H' b=some (.tup xs)):Xc P w H' h' a o:=by
 induction o with
 | lst xs=>obtain ⟨z,its,n,r,e⟩:=x;exact ⟨z,its,n,r,k _ _ (.inl rfl) e⟩
 | tup xs=>obtain ⟨z,its,r,ob,e,c⟩:=x;exact ⟨z,its,r,ob,k _ _ (.inl rfl) e,c⟩
 | dK kvs=>obtain ⟨z,y,vs,r,ob,es,ep,e,c⟩:=x;exact ⟨z,y,vs,r,ob,es,ep,k _ _ (.inl rfl) e,c⟩
 | dT kvs=>
  obtain ⟨z,y,xs,r,ob,es,ep,e,c⟩:=x
  exact ⟨z,y,xs,Paired.mapP r fun p q z=>⟨z.1,ht _ _ z.2.1,z.2.2⟩,ob,es,ep,k _ _ (.inl rfl) e,c⟩
 | set S n=>obtain ⟨ob,es,ep,t,e,c⟩:=x;exact ⟨ob,es,ep,t,k _ _ (.inl rfl) e,c⟩
 | ins C dx fs=>
  obtain ⟨d,z,ne,e,mA,⟨od,es,ep,e2,c⟩,r⟩:=x
  exact ⟨ho _ d,z,ne,k _ _ (.inl rfl) e,mA,⟨od,es,ep,k _ _ (.inr d) e2,c⟩,r⟩
 | own y=>obtain ⟨ob,e⟩:=x;exact ⟨ob,k _ _ (.inl rfl) e⟩
 | xd fs=>obtain ⟨mA,⟨od,es,ep,e,c⟩,r⟩:=x;exact ⟨mA,⟨od,es,ep,k _ _ (.inl rfl) e,c⟩,r⟩
 | rng lo hi=>obtain ⟨t,u,v,e⟩:=x;exact ⟨t,u,v,k _ _ (.inl rfl) e⟩
 | frz ob u ih=>obtain ⟨e,q⟩:=x;exact ⟨k _ _ (.inl rfl) e,ih q⟩
 | tbl ps=>
  have e:h.get? a=some { cls:=.none,data:=.fields ps }:=x
  show h'.get? a=some { cls:=.none,data:=.fields ps }
  exact k a _ (.inl rfl) e
 | met f y=>
  have e:h.get? a=some (PySem.W.methodObj (.ref f) (.ref y)):=x
  show h'.get? a=some (PySem.W.methodObj (.ref f) (.ref y))
  exact k a _ (.inl rfl) e
 | ext φ=>obtain ⟨p,⟨o,e⟩,st⟩:=x;exact ⟨st _ _ p fun o q=>k _ _ (.inl rfl) q,⟨o,k _ _ (.inl rfl) e⟩,st⟩
theorem HOk.lt (x:HOk P w H h) (e:H a=some o):a < h.objs.size:=(x a o e).lt
theorem HOk.fresh (x:HOk P w H h) (e:h.objs.size ≤ a):H a=none:=by
 cases q:H a with
 | none=>rfl
 | some u=>exact absurd (Nat.lt_of_lt_of_le (x.lt q) e) (Nat.lt_irrefl _)
theorem HOk.kept (x:HOk P w H h) (k:∀ b u,h.get? b=some u→h'.get? b=some u):HOk P w H h':=fun a o e=>
 (x a o e).stay (fun b u _ q=>k b u q) (fun _ q=>q) fun _ _ q=>q
theorem HOk.laid (x:HOk P w H h) (k:∀ b u,h.get? b=some u→h'.get? b=some u) (hp:h.objs.size ≤ a) (new:Xc P w (upd H a o) h' a o):HOk P w (upd H a o) h':=fun b u e=>by
 have hn:=x.fresh hp
 by_cases hb:b=a
 ·subst hb;rw [db] at e;cases e;exact new
 ·rw [jb hb] at e
  exact (x b u e).stay (fun c v _ q=>k c v q) (fun c q=>by rw [jb (lb q hn)];exact q) fun c xs q=>by rw [jb (lb q hn)];exact q
end
noncomputable def Rd (H:Hp) (a:Addr) (u:HO):Prop:=H a=some u∨∃ o,H a=some (.frz o u)
theorem Rd.of {H:Hp} {a:Addr} {u:HO} (h:H a=some u):Rd H a u:=.inl h
theorem Rd.ok {P:Program} {w:World} {H:Hp} {h:Heap} {a:Addr} {u:HO} (r:Rd H a u) (x:HOk P w H h):Xc P w H h a u:=by
 rcases r with r | ⟨o,r⟩
 ·exact x a u r
 ·obtain ⟨_,q⟩:=x a _ r
  exact q
noncomputable def Mut:Option HO→Prop
 | some (.lst _)=>True
 | some (.dK _)=>True
 | some (.dT _)=>True
 | some (.set _ _)=>True
 | some (.ins _ _ _)=>True
 | some (.ext _)=>True
 | _=>False
section
variable {P:Program} {w:World} {H:Hp} {h h':Heap} {x e:Addr} {o':HO}
theorem HOk.write (ok:HOk P w H h) (mu:Mut (H x)) (he:e=x∨H e=some (.own x)) (k:∀ b u,b ≠ e→h.get? b=some u→h'.get? b=some u) (heo:∃ u,h'.get? e=some u)
  (new:Xc P w (upd H x o') h' x o'):HOk P w (upd H x o') h':=fun b u q=>by
 have nown:∀ c y,H c=some (.own y)→c ≠ x:=fun c y r z=>by subst z;rw [r] at mu;exact mu
 have ntup:∀ c xs,H c=some (.tup xs)→c ≠ x:=fun c xs r z=>by subst z;rw [r] at mu;exact mu
 by_cases hb:b=x
 ·subst hb;rw [db] at q;cases q;exact new
 ·rw [jb hb] at q
  by_cases hbe:b=e
  ·have q':H b=some (.own x):=by
    rcases he with z | z
    ·exact absurd (hbe.trans z) hb
    ·rw [hbe];exact z
   rw [q] at q';cases q'
   obtain ⟨v,hv⟩:=heo
   exact ⟨v,by rw [hbe];exact hv⟩
  ·refine (ok b u q).stay (fun c v hc r=>k c v ?_ r) (fun c r=>by rw [jb (nown c b r)];exact r) fun c xs r=>by rw [jb (ntup c xs r)];exact r
   rcases hc with rfl | hc
   ·exact hbe
   ·rintro rfl
    rcases he with z | z
    ·exact nown c b hc z
    ·rw [hc] at z;cases z;exact hb rfl
end
structure Un (fs ex:List Addr) (H H':Hp) (h h':Heap):Prop where
 keep:∀ b o,h.get? b=some o→H b=none→b ∉ fs→b ∉ ex→h'.get? b=some o
 slot:∀ b o,h.get? b=some o→H b=none→b ∈ fs→b ∉ ex→∃ sl,h'.get? b=some { o with slots:=sl }
 free:∀ b o,h.get? b=some o→H b=none→b ∉ ex→H' b=none
 there:∀ b o,h.get? b=some o→b ∉ ex→∃ o',h'.get? b=some o'
 tups:∀ b xs,H b=some (.tup xs)→H' b=some (.tup xs)
 frzs:∀ b o u,H b=some (.frz o u)→H' b=some (.frz o u)
 tbls:∀ b ps,H b=some (.tbl ps)→∃ more,H' b=some (.tbl (ps ++ more))
section
variable {fs fs' ex ex':List Addr} {H H1 H2:Hp} {h h1 h2 h':Heap} {a x e:Addr} {o:HO}
theorem Un.any (u:Un fs ex H H1 h h1) {b:Addr} {ob:Obj} (q:h.get? b=some ob) (n:H b=none) (hx:b ∉ ex):∃ sl,h1.get? b=some { ob with slots:=sl }:=by
 by_cases hb:b ∈ fs
 ·exact u.slot b ob q n hb hx
 ·exact ⟨ob.slots,u.keep b ob q n hb hx⟩
theorem Un.trans (a:Un fs ex H H1 h h1) (b:Un fs ex H1 H2 h1 h2):Un fs ex H H2 h h2 where
 keep:=fun c ob q n hc hx=>b.keep c ob (a.keep c ob q n hc hx) (a.free c ob q n hx) hc hx
 slot:=fun c ob q n hc hx=>by
  obtain ⟨sl,e1⟩:=a.slot c ob q n hc hx
  obtain ⟨sl',e2⟩:=b.slot c _ e1 (a.free c ob q n hx) hc hx
  exact ⟨sl',e2⟩
 free:=fun c ob q n hx=>by
  obtain ⟨o',e1⟩:=a.there c ob q hx
  exact b.free c o' e1 (a.free c ob q n hx) hx
 there:=fun c ob q hx=>by
  obtain ⟨o',e1⟩:=a.there c ob q hx
  exact b.there c o' e1 hx
 tups:=fun c xs q=>b.tups c xs (a.tups c xs q)
 frzs:=fun c ob xs q=>b.frzs c ob xs (a.frzs c ob xs q)
 tbls:=fun c ps q=>by
  obtain ⟨m1,e1⟩:=a.tbls c ps q
  obtain ⟨m2,e2⟩:=b.tbls c _ e1
  exact ⟨m1 ++ m2,by rw [e2,Array.append_assoc]⟩
theorem Un.kept (k:∀ b u,h.get? b=some u→h'.get? b=some u):Un fs ex H H h h':=
 ⟨fun b ob q _ _ _=>k b ob q,fun b ob q _ _ _=>⟨ob.slots,k b ob q⟩,fun _ _ _ n _=>n,fun b ob q _=>⟨ob,k b ob q⟩,fun _ _ q=>q,fun _ _ _ q=>q,fun _ ps q=>⟨#[],by rw [q];simp⟩⟩
theorem Un.refl:Un fs ex H H h h:=Un.kept fun _ _ q=>q
theorem Un.laid (k:∀ b u,h.get? b=some u→h'.get? b=some u) (hp:h.objs.size ≤ a) (hn:H a=none):Un fs ex H (upd H a o) h h' where
 keep:=fun b u q _ _ _=>k b u q
 slot:=fun b u q _ _ _=>⟨u.slots,k b u q⟩
 free:=fun b u q n _=>by rw [jb (Nat.ne_of_lt (Nat.lt_of_lt_of_le (Heap.lt_size q) hp))];exact n
 there:=fun b u q _=>⟨u,k b u q⟩
 tups:=fun b xs q=>by rw [jb (lb q hn)];exact q
 frzs:=fun b u xs q=>by rw [jb (lb q hn)];exact q
 tbls:=fun b ps q=>⟨#[],by rw [jb (lb q hn),q];simp⟩
theorem Un.write (mu:Mut (H x)) (he:e=x∨H e=some (.own x)) (k:∀ b u,b ≠ e→h.get? b=some u→h'.get? b=some u) (heo:∃ u,h'.get? e=some u):Un fs ex H (upd H x o) h h':=by
 have hx:∀ b,H b=none→b ≠ x:=fun b n z=>by subst z;rw [n] at mu;exact mu
 have hb:∀ b,H b=none→b ≠ e:=fun b n z=>by
  subst z
  rcases he with r | r
  ·exact hx b n r
  ·rw [n] at r;cases r
 have hm:∀ b u,H b=some u→¬ Mut (some u)→b ≠ x:=fun b u q nm z=>by subst z;rw [q] at mu;exact nm mu
 refine ⟨fun b u q n _ _=>k b u (hb b n) q,fun b u q n _ _=>⟨u.slots,k b u (hb b n) q⟩,fun b u q n _=>by rw [jb (hx b n)];exact n,fun b u q _=>?_,
  fun b xs q=>by rw [jb (hm b _ q fun z=>z)];exact q,fun b u xs q=>by rw [jb (hm b _ q fun z=>z)];exact q,fun b ps q=>⟨#[],by rw [jb (hm b _ q fun z=>z),q];simp⟩⟩
 by_cases hbe:b=e
 ·subst hbe;exact heo
 ·exact ⟨u,k b u hbe q⟩
theorem Un.mono (u:Un fs ex H H1 h h1) (hs:∀ b ∈ fs,b ∈ fs') (hx:∀ b ∈ ex,b ∈ ex'):Un fs' ex' H H1 h h1:=
 ⟨fun b ob q n hb he=>u.keep b ob q n (fun z=>hb (hs b z)) fun z=>he (hx b z),fun _ _ q n _ he=>u.any q n fun z=>he (hx _ z),fun b ob q n he=>u.free b ob q n fun z=>he (hx b z),fun b ob q he=>u.there b ob q fun z=>he (hx b z),u.tups,u.frzs,u.tbls⟩
end
noncomputable def trk (h:Heap) (H:Hp):List Addr:=(List.range h.objs.size).filter fun a=>(H a).isSome
noncomputable def kD (h:Heap) (H:Hp):Heap:=PySem.W.hideAll h (trk h H)
theorem rA (h:Heap) (H:Hp):(kD h H).objs.size=h.objs.size:=PySem.W.hideAll_size _ _
theorem xD {h:Heap} {H:Hp} {b:Addr} {o:Obj} (e:h.get? b=some o) (n:H b=none):(kD h H).get? b=some o:=
 PySem.W.hideAll_get _ e fun hm=>by
  have q:(H b).isSome=true:=(List.mem_filter.mp hm).2
  rw [n] at q;simp at q
theorem QG {h:Heap} {H:Hp} {b:Addr} {o:Obj} (e:(kD h H).get? b=some o):h.get? b=some o∧H b=none:=by
 have e':h.get? b=some o:=PySem.W.of_hideAll (trk h H) e
 refine ⟨e',?_⟩
 cases q:H b with
 | none=>rfl
 | some x=>
  have hm:b ∈ trk h H:=List.mem_filter.mpr ⟨List.mem_range.mpr (Heap.lt_size e'),by simp [q]⟩
  have z:(kD h H).get? b=none:=PySem.W.hideAll_none (trk h H) hm
  rw [z] at e;cases e
noncomputable def jG (g h:Heap) (L:Addr):List (Addr × Obj):=(List.range h.objs.size).filterMap fun a=>if a=L∨(g.get? a).isSome=true then none else (h.get? a).map fun o=>(a,o)
noncomputable def rest (g h:Heap) (L d:Addr):List (Addr × Obj):=(jG g h L).filter fun p=>decide (p.1 ≠ d)
end L2
namespace L2
open PySem PySem.Spec PyProof.Rows
structure Mod (K:PySem.W.Frag) (mg:Str→Option Value) (base:Heap):Prop where
 kin:K.In base
 glob:base.Ns mainGlobals mg
 blt:∃ mb,base.Ns builtinsNs mb∧∀ x:Str,x ≠ "__name__" → mb x=bootBuiltins x
 nolimit:base.NoLimit
structure Cx where
 prog:Program
 w:World
 K:PySem.W.Frag
 mg:Str→Option Value
 base:Heap
 A:Around
 N:List Str
 s₀:Shared
 H₀:Hp
 env:Env
 outer:List Env
 stack:List Env
 ex:List Addr
 fn:Str→Bool
 calm:Bool
 pn:List (Addr × Obj)
 xe:Value→Shared→Prop
noncomputable def frs (l:List Env):List Addr:=l.filterMap (·.frame)
noncomputable abbrev Cx.fs (X:Cx):List Addr:=frs X.outer
noncomputable def Vis (sc:Scope) (x:Str):Prop:=sc.names.lookup x=some .local∨sc.names.lookup x=some .cell∨sc.names.lookup x=some .free
noncomputable def Loc (sc:Scope) (x:Str):Prop:=sc.names.lookup x=some .local∨sc.names.lookup x=some .cell
noncomputable def SM (env:Env) (h:Heap) (m:Str→Option Value) (x:Str) (u:Value):Prop:=
 (env.kindOf x=some .local∧m x=some u)∨((env.kindOf x=some .cell∨env.kindOf x=some .free)∧∃ c,env.cells.lookup x=some c∧h.IsCell c (some u))
structure Cx.Ok (X:Cx):Prop where
 mod:Mod X.K X.mg X.base
 kind:X.env.scope.kind=.function
 glob:X.env.globals=mainGlobals
 blt:X.env.builtins=builtinsNs
 above:X.s₀.heap.objs.size ≤ X.env.locals
 inj:∀ x y c,X.env.cells.lookup x=some c→X.env.cells.lookup y=some c→x=y
 has:∀ x,(X.env.kindOf x=some .cell∨X.env.kindOf x=some .free)→∃ c,X.env.cells.lookup x=some c
 cab:∀ x c,X.fn x=true→X.env.cells.lookup x=some c→X.s₀.heap.objs.size ≤ c
 hd:X.calm=true→X.A.handled=none
 frames:X.A.frames=some X.stack
 stk:X.stack=X.outer∨(X.stack=X.env :: X.outer∧X.env.frame=some X.env.locals)
 exf:∀ b ∈ X.ex,b ≠ X.env.locals∧∀ x c,X.env.cells.lookup x=some c→c ≠ b
 bs:∀ b o,X.base.get? b=some o→X.s₀.heap.get? b=some o∧X.H₀ b=none
 bsz:X.base.objs.size ≤ X.s₀.heap.objs.size
 noex:∀ b o,X.base.get? b=some o→b ∉ X.ex
 exfs:∀ b ∈ X.ex,b ∉ X.fs
 funs:X.s₀.heap.FunFrames X.base X.outer
 frf:∀ b ∈ X.fs,X.H₀ b=none
structure Inv (X:Cx) (pins:List (Addr × Obj)) (σ:List (Option V)) (H:Hp) (s:Shared):Prop where
 ok:X.Ok
 os:s.os=X.s₀.os
 bare:AllBare s.gens
 base:Un X.fs X.ex X.H₀ H X.s₀.heap s.heap
 loc:∃ m,s.heap.Ns X.env.locals m∧∀ (i:Nat) (x:Str) (v:V),X.N[i]? = some x→σ[i]? = some (some v)→Vis X.env.scope x→∃ u,Zc v u∧SM X.env s.heap m x u
 cell:∀ x c,X.env.cells.lookup x=some c→∃ v,s.heap.IsCell c v
 free:H X.env.locals=none
 freeC:∀ x c,X.env.cells.lookup x=some c→H c=none
 pin:∀ p ∈ X.pn ++ pins,s.heap.get? p.1=some p.2∧H p.1=none∧p.1 ≠ X.env.locals∧p.1 ∉ X.fs∧∀ v,p.2.data ≠ .cell v
 hok:HOk X.prog X.w H s.heap
 len:σ.length=X.N.length
section
variable {X:Cx} {pins:List (Addr × Obj)} {σ:List (Option V)} {H H':Hp} {s:Shared} {h':Heap}
theorem Cx.Ok.nofr (ok:X.Ok) {b:Addr} {o:Obj} (e:X.base.get? b=some o):b ∉ X.fs:=fun hb=>by
 have:=(ok.funs.mem hb).1
 rw [e] at this;cases this
theorem Inv.bs (I:Inv X pins σ H s):∀ b o,X.base.get? b=some o→s.heap.get? b=some o∧H b=none:=fun b o e=>
 ⟨I.base.keep b o (I.ok.bs b o e).1 (I.ok.bs b o e).2 (I.ok.nofr e) (I.ok.noex b o e),I.base.free b o (I.ok.bs b o e).1 (I.ok.bs b o e).2 (I.ok.noex b o e)⟩
theorem Inv.bk (I:Inv X pins σ H s):∀ b o,X.base.get? b=some o→s.heap.get? b=some o:=fun b o e=>(I.bs b o e).1
theorem Inv.mod (I:Inv X pins σ H s):Mod X.K X.mg X.base:=I.ok.mod
theorem Inv.kIn (I:Inv X pins σ H s):X.K.In s.heap:=I.ok.mod.kin.keeps I.bk
theorem Inv.nolimit (I:Inv X pins σ H s):s.heap.NoLimit:=I.ok.mod.nolimit.keeps I.bk
theorem Inv.fr (I:Inv X pins σ H s):∃ m,Fr X.base X.env.locals s.heap m:=
 let ⟨m,hn,_⟩:=I.loc
 ⟨m,hn,I.bk,Nat.le_trans I.ok.bsz I.ok.above⟩
theorem Inv.lt (I:Inv X pins σ H s):X.env.locals < s.heap.objs.size:=let ⟨_,hn,_⟩:=I.loc;hn.lt
theorem Inv.sz (I:Inv X pins σ H s):X.s₀.heap.objs.size ≤ s.heap.objs.size:=Nat.le_trans I.ok.above (Nat.le_of_lt I.lt)
theorem Inv.nofs (I:Inv X pins σ H s) {a:Addr} (h:s.heap.objs.size ≤ a):a ∉ X.fs:=fun hb=>by
 obtain ⟨_,o,ho,_⟩:=I.ok.funs.mem hb
 exact absurd (Nat.lt_of_lt_of_le (Heap.lt_size ho) (Nat.le_trans I.sz h)) (Nat.lt_irrefl _)
theorem Inv.cne (I:Inv X pins σ H s):∀ x c,X.env.cells.lookup x=some c→c ≠ X.env.locals:=fun x c e z=>by
 obtain ⟨v,o,ho,hd⟩:=I.cell x c e
 obtain ⟨m,⟨o',es,ep,ho',hd',_⟩,_⟩:=I.loc
 rw [z,ho'] at ho;cases ho;rw [hd'] at hd;cases hd
theorem Inv.funs (I:Inv X pins σ H s):s.heap.FunFrames X.base X.outer:=by
 have all:∀ (l:List Env),(∀ b ∈ frs l,b ∈ X.fs)→X.s₀.heap.FunFrames X.base l→s.heap.FunFrames X.base l:=by
  intro l
  induction l with
  | nil=>intro _ _;trivial
  | cons env r ih=>
   intro hs hl
   obtain ⟨hk,⟨L,o,hf,hn,ho,hd⟩,hr⟩:=hl
   have hL:L ∈ X.fs:=hs L (by unfold frs;rw [List.filterMap_cons,hf];exact List.mem_cons_self)
   obtain ⟨sl,e⟩:=I.base.slot L o ho (I.ok.frf L hL) hL fun z=>I.ok.exfs L z hL
   exact ⟨hk,⟨L,_,hf,hn,e,hd⟩,ih (fun b hb=>hs b (by unfold frs;rw [List.filterMap_cons,hf];exact List.mem_cons_of_mem _ hb)) hr⟩
 exact all X.outer (fun _ hb=>hb) I.ok.funs
theorem Inv.stack (I:Inv X pins σ H s):s.heap.FunFrames X.base X.stack:=by
 rcases I.ok.stk with e | ⟨e,hf⟩
 ·rw [e];exact I.funs
 ·rw [e]
  obtain ⟨m,hn,_⟩:=I.loc
  refine .cons (by rw [I.ok.kind];decide) hf hn ?_ I.funs
  exact Heap.get?_none_of_le (Nat.le_trans I.ok.bsz I.ok.above)
theorem Inv.stkSub (I:Inv X pins σ H s):∀ b ∈ frs X.stack,b ∈ X.env.locals :: X.fs:=fun b hb=>by
 rcases I.ok.stk with e | ⟨e,hf⟩
 ·rw [e] at hb;exact List.mem_cons_of_mem _ hb
 ·rw [e] at hb
  unfold frs at hb
  rw [List.filterMap_cons,hf] at hb
  exact hb
theorem Inv.stkFree (I:Inv X pins σ H s):∀ b ∈ frs X.stack,H b=none:=fun b hb=>by
 rcases List.mem_cons.mp (I.stkSub b hb) with e | hb
 ·rw [e];exact I.free
 ·obtain ⟨_,o,ho,_⟩:=I.ok.funs.mem hb
  exact I.base.free b o ho (I.ok.frf b hb) fun z=>I.ok.exfs b z hb
theorem Inv.step {g':Array GenState} {t':Nat} {d':Drawn} {ch:List Addr} (I:Inv X pins σ H s)
  (hch:∀ b ∈ ch,(b ∈ X.ex∨X.s₀.heap.objs.size ≤ b)∧b ≠ X.env.locals∧(∀ x c,X.env.cells.lookup x=some c→c ≠ b)∧∀ p ∈ X.pn ++ pins,p.1 ≠ b)
  (keep:∀ b o,b ≠ X.env.locals→b ∉ X.fs→b ∉ ch→s.heap.get? b=some o→H b=none→h'.get? b=some o)
  (slot:∀ b o,b ≠ X.env.locals→b ∈ X.fs→b ∉ ch→s.heap.get? b=some o→H b=none→∃ sl,h'.get? b=some { o with slots:=sl }) (free:∀ b o,b ∉ ch→s.heap.get? b=some o→H b=none→H' b=none)
  (there:∀ b o,b ∉ ch→s.heap.get? b=some o→∃ o',h'.get? b=some o')
  (tups:∀ b xs,H b=some (.tup xs)→H' b=some (.tup xs)) (frzs:∀ b o u,H b=some (.frz o u)→H' b=some (.frz o u)) (tbls:∀ b ps,H b=some (.tbl ps)→∃ more,H' b=some (.tbl (ps ++ more)))
  (ns:∀ m,s.heap.Ns X.env.locals m→h'.Ns X.env.locals m) (hok:HOk X.prog X.w H' h') (hg:AllBare g') :
  Inv X pins σ H' { s with heap:=h',gens:=g',drawn:=d',toks:=t' }:=by
 have neL:∀ b o,X.s₀.heap.get? b=some o→b ≠ X.env.locals:=fun b o e=>Nat.ne_of_lt (Nat.lt_of_lt_of_le (Heap.lt_size e) I.ok.above)
 have neC:∀ b o,X.s₀.heap.get? b=some o→b ∉ X.ex→b ∉ ch:=fun b o e hx hb=>by
  rcases (hch b hb).1 with z | z
  ·exact hx z
  ·exact absurd (Nat.lt_of_lt_of_le (Heap.lt_size e) z) (Nat.lt_irrefl _)
 have cellK:∀ x c,X.env.cells.lookup x=some c→∀ v,s.heap.IsCell c v→h'.IsCell c v:=fun x c e v ⟨o,ho,hd⟩=>by
  have nch:c ∉ ch:=fun z=>(hch c z).2.2.1 x c e rfl
  by_cases hc:c ∈ X.fs
  ·obtain ⟨sl,q⟩:=slot c o (I.cne x c e) hc nch ho (I.freeC x c e)
   exact ⟨_,q,hd⟩
  ·exact ⟨o,keep c o (I.cne x c e) hc nch ho (I.freeC x c e),hd⟩
 refine ⟨I.ok,I.os,hg,⟨fun b o e n hb hx=>?_,fun b o e n hb hx=>?_,fun b o e n hx=>?_,fun b o e hx=>?_,fun b xs e=>tups b xs (I.base.tups b xs e),fun b o xs e=>frzs b o xs (I.base.frzs b o xs e),fun b ps e=>?_⟩,?_,fun x c e=>?_,?_,fun x c e=>?_,fun p hp=>?_,hok,I.len⟩
 ·exact keep b o (neL b o e) hb (neC b o e hx) (I.base.keep b o e n hb hx) (I.base.free b o e n hx)
 ·obtain ⟨sl,e1⟩:=I.base.slot b o e n hb hx
  obtain ⟨sl',e2⟩:=slot b _ (neL b o e) hb (neC b o e hx) e1 (I.base.free b o e n hx)
  exact ⟨sl',e2⟩
 ·obtain ⟨o',e1⟩:=I.base.there b o e hx
  exact free b o' (neC b o e hx) e1 (I.base.free b o e n hx)
 ·obtain ⟨o',e1⟩:=I.base.there b o e hx
  exact there b o' (neC b o e hx) e1
 ·obtain ⟨m1,e1⟩:=I.base.tbls b ps e
  obtain ⟨m2,e2⟩:=tbls b _ e1
  exact ⟨m1 ++ m2,by rw [e2,Array.append_assoc]⟩
 ·obtain ⟨m,hn,hl⟩:=I.loc
  refine ⟨m,ns m hn,fun i x v e1 e2 e3=>?_⟩
  obtain ⟨u,r,l⟩:=hl i x v e1 e2 e3
  refine ⟨u,r,?_⟩
  rcases l with l | ⟨k,c,e,z⟩
  ·exact .inl l
  ·exact .inr ⟨k,c,e,cellK x c e _ z⟩
 ·obtain ⟨v,z⟩:=I.cell x c e
  exact ⟨v,cellK x c e v z⟩
 ·obtain ⟨m,⟨o,_,_,ho,_⟩,_⟩:=I.loc
  exact free _ o (fun z=>(hch _ z).2.1 rfl) ho I.free
 ·obtain ⟨v,o,ho,hd⟩:=I.cell x c e
  exact free c o (fun z=>(hch c z).2.2.1 x c e rfl) ho (I.freeC x c e)
 ·obtain ⟨e,n,ne,nf,d⟩:=I.pin p hp
  have nch:p.1 ∉ ch:=fun z=>(hch p.1 z).2.2.2 p hp rfl
  exact ⟨keep p.1 p.2 ne nf nch e n,free p.1 p.2 nch e n,ne,nf,d⟩
theorem Inv.un {t':Nat} (I:Inv X pins σ H s) (u:Un X.fs [] H H' s.heap h') (hok:HOk X.prog X.w H' h'):Inv X pins σ H' { s with heap:=h',toks:=t' }:=by
 obtain ⟨m,⟨o,es,ep,ho,r⟩,_⟩:=id I.loc
 obtain ⟨sl,hL⟩:=u.any ho I.free (by simp)
 exact I.step (g':=s.gens) (d':=s.drawn) (ch:=[]) (fun _ z=>nomatch z) (fun b o _ hb _ e n=>u.keep b o e n hb (by simp)) (fun b o _ hb _ e n=>u.slot b o e n hb (by simp)) (fun b o _ e n=>u.free b o e n (by simp)) (fun b o _ e=>u.there b o e (by simp)) u.tups u.frzs u.tbls (fun m' hm=>by
  obtain ⟨o',es',ep',ho',r'⟩:=hm
  rw [ho] at ho';cases ho'
  exact ⟨_,es',ep',hL,r'⟩) hok I.bare
theorem Inv.call {g':Array GenState} {t':Nat} {d':Drawn} {ch:List Addr} (I:Inv X pins σ H s) (u:Un (frs X.stack) ch H H' s.heap h') (hok:HOk X.prog X.w H' h') (hg:AllBare g')
  (hch:∀ b ∈ ch,(b ∈ X.ex∨X.s₀.heap.objs.size ≤ b)∧b ≠ X.env.locals∧(∀ x c,X.env.cells.lookup x=some c→c ≠ b)∧∀ p ∈ X.pn ++ pins,p.1 ≠ b) :
  Inv X pins σ H' { s with heap:=h',gens:=g',drawn:=d',toks:=t' }:=by
 obtain ⟨m,⟨o,es,ep,ho,r⟩,_⟩:=id I.loc
 obtain ⟨sl,hL⟩:=u.any ho I.free fun z=>(hch _ z).2.1 rfl
 exact I.step (ch:=ch) hch (fun b o hL hb hc e n=>u.keep b o e n (fun z=>(List.mem_cons.mp (I.stkSub b z)).elim hL hb) hc) (fun b o _ _ hc e n=>u.any e n hc) (fun b o hc e n=>u.free b o e n hc) (fun b o hc e=>u.there b o e hc) u.tups u.frzs u.tbls (fun m' hm=>by
  obtain ⟨o',es',ep',ho',r'⟩:=hm
  rw [ho] at ho';cases ho'
  exact ⟨_,es',ep',hL,r'⟩) hok hg
theorem Inv.turned {t':Nat} {it:Addr} (I:Inv X pins σ H s) (k:∀ b o,b ≠ it→s.heap.get? b=some o→h'.get? b=some o) (hn:H it=none) (hL:it ≠ X.env.locals)
  (h1:it ∈ X.ex∨X.s₀.heap.objs.size ≤ it) (h2:∀ x c,X.env.cells.lookup x=some c→c ≠ it) (h3:∀ p ∈ X.pn ++ pins,p.1 ≠ it):Inv X pins σ H { s with heap:=h',toks:=t' }:=by
 have nit:∀ b u,H b=some u→b ≠ it:=fun b u e z=>by rw [z,hn] at e;cases e
 refine I.step (g':=s.gens) (d':=s.drawn) (ch:=[it]) (fun b hb=>?_) (fun b o _ _ hc e _=>k b o (fun z=>hc (by simp [z])) e) (fun b o _ _ hc e _=>⟨o.slots,k b o (fun z=>hc (by simp [z])) e⟩) (fun _ _ _ _ n=>n)
  (fun b o hc e=>⟨o,k b o (fun z=>hc (by simp [z])) e⟩) (fun _ _ e=>e) (fun _ _ _ e=>e) (fun b ps e=>⟨#[],by rw [e];simp⟩) (fun m hm=>?_) (fun b u e=>?_) I.bare
 ·have e:b=it:=by simpa using hb
  subst e
  exact ⟨h1,hL,h2,h3⟩
 ·obtain ⟨o,es,ep,ho,r⟩:=hm
  exact ⟨o,es,ep,k _ o (Ne.symm hL) ho,r⟩
 ·refine (I.hok b u e).stay (fun c v hc q=>k c v ?_ q) (fun _ q=>q) fun _ _ q=>q
  rcases hc with z | z
  ·rw [z];exact nit b u e
  ·exact nit c _ z
theorem Inv.tok (I:Inv X pins σ H s) (t:Nat):Inv X pins σ H { s with toks:=t }:=I.un (h':=s.heap) (t':=t) Un.refl I.hok
theorem Inv.kept {t':Nat} (I:Inv X pins σ H s) (k:∀ b u,s.heap.get? b=some u→h'.get? b=some u):Inv X pins σ H { s with heap:=h',toks:=t' }:=I.un (Un.kept k) (I.hok.kept k)
theorem Inv.laid {a:Addr} {o:HO} {t':Nat} (I:Inv X pins σ H s) (k:∀ b u,s.heap.get? b=some u→h'.get? b=some u) (hp:s.heap.objs.size ≤ a) (new:Xc X.prog X.w (upd H a o) h' a o) :
  Inv X pins σ (upd H a o) { s with heap:=h',toks:=t' }:=I.un (Un.laid k hp (I.hok.fresh hp)) (I.hok.laid k hp new)
theorem Inv.write {x e:Addr} {o:HO} {t':Nat} (I:Inv X pins σ H s) (mu:Mut (H x)) (he:e=x∨H e=some (.own x)) (k:∀ b u,b ≠ e→s.heap.get? b=some u→h'.get? b=some u) (heo:∃ u,h'.get? e=some u)
  (new:Xc X.prog X.w (upd H x o) h' x o):Inv X pins σ (upd H x o) { s with heap:=h',toks:=t' }:=I.un (Un.write mu he k heo) (I.hok.write mu he k heo new)
theorem Inv.weak {σ':List (Option V)} (I:Inv X pins σ H s) (hl:σ'.length=σ.length) (w:∀ (i:Nat) v,σ'[i]? = some (some v)→σ[i]? = some (some v)):Inv X pins σ' H s:=
 ⟨I.ok,I.os,I.bare,I.base,let ⟨m,hn,hl'⟩:=I.loc;⟨m,hn,fun i x v e1 e2 e3=>hl' i x v e1 (w i v e2) e3⟩,I.cell,I.free,I.freeC,I.pin,I.hok,hl.trans I.len⟩
theorem Inv.pins_of {pins':List (Addr × Obj)} (I:Inv X pins σ H s) (h:∀ p ∈ pins',s.heap.get? p.1=some p.2∧H p.1=none∧p.1 ≠ X.env.locals∧p.1 ∉ X.fs∧∀ v,p.2.data ≠ .cell v):Inv X pins' σ H s:=
 ⟨I.ok,I.os,I.bare,I.base,I.loc,I.cell,I.free,I.freeC,fun p hp=>(List.mem_append.mp hp).elim (fun z=>I.pin p (List.mem_append_left _ z)) (h p),I.hok,I.len⟩
theorem ls {N:List Str} (hN:N.Nodup) {i j:Nat} {x:Str} (a:N[i]? = some x) (b:N[j]? = some x):i=j:=by
 obtain ⟨h1,e1⟩:=List.getElem?_eq_some_iff.mp a
 obtain ⟨h2,e2⟩:=List.getElem?_eq_some_iff.mp b
 exact (List.getElem_inj hN).mp (e1.trans e2.symm)
theorem ou {M:Model} {A:Around} {E:Value→Shared→Prop} {i:Nat} {x:Str} {v:V} {u:Value} {Q:Unit→Shared→Prop} (I:Inv X pins σ H s) (hN:X.N.Nodup) (hi:X.N[i]? = some x) (hx:Loc X.env.scope x) (r:Zc v u)
  (h:∀ s',Inv X pins (σ.set i (some v)) H s'→(∃ a,Heap.SameBut a s.heap s'.heap∧(a=X.env.locals∨X.env.cells.lookup x=some a))→Q () s') (hf:X.fn x=true∨X.env.scope.names.lookup x=some .local:=by first | exact .inl rfl | exact .inr rfl | assumption):wpAny M A (storeName X.env x u) Q E s:=by
 obtain ⟨m,hn,hl⟩:=id I.loc
 have hcls:(X.env.scope.kind == .class || (X.env.scope.kind == .module && X.env.locals != X.env.globals))=false:=by rw [I.ok.kind];rfl
 have hiσ:i < σ.length:=by rw [I.len];exact (List.getElem?_eq_some_iff.mp hi).1
 have cne:=I.cne
 have tracked:∀ {a:Addr} {h':Heap},(∃ o,s.heap.get? a=some o∧H a=none)→Heap.SameBut a s.heap h'→HOk X.prog X.w H h':=fun {a h'} ha hs b ob e=>by
  obtain ⟨_,_,hfree⟩:=ha
  refine (I.hok b ob e).stay (fun c w' hc q=>(hs.2 c ?_).trans q) (fun _ q=>q) fun _ _ q=>q
  rintro rfl
  rcases hc with rfl | hc
  ·rw [hfree] at e;cases e
  ·rw [hfree] at hc;cases hc
 rcases hx with hk | hk
 ·refine wpAny_storeName_local hk hn (fun h' hn' hs=>?_) hcls
  obtain ⟨oL,_,_,hoL,_⟩:=id hn
  refine h _ ⟨I.ok,I.os,I.bare,⟨fun b o e n hb hx=>?_,fun b o e n hb hx=>?_,I.base.free,fun b o e hx=>?_,I.base.tups,I.base.frzs,I.base.tbls⟩,⟨_,hn',fun j y v' e1 e2 e3=>?_⟩,fun y c e=>?_,I.free,I.freeC,fun p hp=>?_,tracked ⟨oL,hoL,I.free⟩ hs,by simpa using I.len⟩ ⟨_,hs,.inl rfl⟩
  ·exact (hs.2 b (Nat.ne_of_lt (Nat.lt_of_lt_of_le (Heap.lt_size e) I.ok.above))).trans (I.base.keep b o e n hb hx)
  ·obtain ⟨sl,e1⟩:=I.base.slot b o e n hb hx
   exact ⟨sl,(hs.2 b (Nat.ne_of_lt (Nat.lt_of_lt_of_le (Heap.lt_size e) I.ok.above))).trans e1⟩
  ·obtain ⟨o',e1⟩:=I.base.there b o e hx
   exact ⟨o',(hs.2 b (Nat.ne_of_lt (Nat.lt_of_lt_of_le (Heap.lt_size e) I.ok.above))).trans e1⟩
  ·by_cases hj:j=i
   ·subst hj
    rw [hi] at e1;cases e1
    rw [List.getElem?_set_self hiσ] at e2
    cases e2
    exact ⟨u,r,.inl ⟨hk,by simp⟩⟩
   ·rw [List.getElem?_set_ne (Ne.symm hj)] at e2
    obtain ⟨u',r',q⟩:=hl j y v' e1 e2 e3
    refine ⟨u',r',?_⟩
    rcases q with ⟨k,e⟩ | ⟨k,c,e,z⟩
    ·refine .inl ⟨k,?_⟩
     have:y ≠ x:=fun e=>hj (ls hN e1 (e ▸ hi))
     simp [this,e]
    ·exact .inr ⟨k,c,e,z.sameBut hs (cne y c e)⟩
  ·obtain ⟨w',z⟩:=I.cell y c e
   exact ⟨w',z.sameBut hs (cne y c e)⟩
  ·obtain ⟨e,n,ne,nf,d⟩:=I.pin p hp
   exact ⟨(hs.2 p.1 ne).trans e,n,ne,nf,d⟩
 ·have hfn:X.fn x=true:=by
   rcases hf with z | z
   ·exact z
   ·rw [z] at hk;cases hk
  obtain ⟨c,hc⟩:=I.ok.has x (.inl hk)
  obtain ⟨w',z⟩:=I.cell x c hc
  refine wpAny_storeName_cell I.ok.kind hk hc z (fun h' hc' hs=>?_)
  obtain ⟨oc,hoc,hocd⟩:=id z
  refine h { s with heap:=h' } ⟨I.ok,I.os,I.bare,⟨fun b o e n hb hx=>?_,fun b o e n hb hx=>?_,I.base.free,fun b o e hx=>?_,I.base.tups,I.base.frzs,I.base.tbls⟩,⟨m,hn.sameBut hs (Ne.symm (cne x c hc)),fun j y v' e1 e2 e3=>?_⟩,fun y c' e=>?_,I.free,I.freeC,fun p hp=>?_,tracked ⟨oc,hoc,I.freeC x c hc⟩ hs,by simpa using I.len⟩ ⟨c,hs,.inr hc⟩
  ·exact (hs.2 b (Nat.ne_of_lt (Nat.lt_of_lt_of_le (Heap.lt_size e) (I.ok.cab x c hfn hc)))).trans (I.base.keep b o e n hb hx)
  ·obtain ⟨sl,e1⟩:=I.base.slot b o e n hb hx
   exact ⟨sl,(hs.2 b (Nat.ne_of_lt (Nat.lt_of_lt_of_le (Heap.lt_size e) (I.ok.cab x c hfn hc)))).trans e1⟩
  ·obtain ⟨o',e1⟩:=I.base.there b o e hx
   exact ⟨o',(hs.2 b (Nat.ne_of_lt (Nat.lt_of_lt_of_le (Heap.lt_size e) (I.ok.cab x c hfn hc)))).trans e1⟩
  ·by_cases hj:j=i
   ·subst hj
    rw [hi] at e1;cases e1
    rw [List.getElem?_set_self hiσ] at e2
    cases e2
    exact ⟨u,r,.inr ⟨.inl hk,c,hc,hc'⟩⟩
   ·rw [List.getElem?_set_ne (Ne.symm hj)] at e2
    obtain ⟨u',r',q⟩:=hl j y v' e1 e2 e3
    refine ⟨u',r',?_⟩
    rcases q with q | ⟨k,c',e,z'⟩
    ·exact .inl q
    ·refine .inr ⟨k,c',e,z'.sameBut hs ?_⟩
     rintro rfl
     exact hj (ls hN e1 (I.ok.inj _ _ _ e hc ▸ hi))
  ·by_cases hcc:c'=c
   ·subst hcc;exact ⟨_,hc'⟩
   ·obtain ⟨w2,z2⟩:=I.cell y c' e
    exact ⟨w2,z2.sameBut hs hcc⟩
  ·obtain ⟨e,n,ne,nf,d⟩:=I.pin p hp
   refine ⟨(hs.2 p.1 ?_).trans e,n,ne,nf,d⟩
   intro q
   rw [q,hoc] at e
   have q':oc=p.2:=Option.some.inj e
   exact d w' (by rw [← q'];exact hocd)
theorem Hn {M:Model} {A:Around} {E:Value→Shared→Prop} {i:Nat} {x:Str} {v:V} {u:Value} {Q:Unit→Shared→Prop} (I:Inv X pins σ H s) (hN:X.N.Nodup) (hi:X.N[i]? = some x) (hx:Loc X.env.scope x) (r:Zc v u)
  (h:∀ s',Inv X pins (σ.set i (some v)) H s'→Q () s') (hf:X.fn x=true∨X.env.scope.names.lookup x=some .local:=by first | exact .inl rfl | exact .inr rfl | assumption):wpAny M A (storeName X.env x u) Q E s:=
 ou I hN hi hx r (fun s' I' _=>h s' I') hf
theorem Inv.call' {s':Shared} {ch:List Addr} (I:Inv X pins σ H s) (ho:s'.os=s.os) (u:Un (frs X.stack) ch H H' s.heap s'.heap) (hok:HOk X.prog X.w H' s'.heap) (hg:AllBare s'.gens)
  (hch:∀ b ∈ ch,(b ∈ X.ex∨X.s₀.heap.objs.size ≤ b)∧b ≠ X.env.locals∧(∀ x c,X.env.cells.lookup x=some c→c ≠ b)∧∀ p ∈ X.pn ++ pins,p.1 ≠ b):Inv X pins σ H' s':=by
 obtain ⟨h',g',d',t',o'⟩:=s'
 have e:o'=s.os:=ho
 subst e
 exact I.call (g':=g') (t':=t') (d':=d') u hok hg hch
end
noncomputable abbrev XK:=Value→Option Addr→Hp→Prop
noncomputable abbrev St:=List (Option V)
noncomputable abbrev VK:=V→Hp→Prop
noncomputable abbrev TE:=St→Hp→VK→Prop
noncomputable abbrev TT:=St→Hp→(Bool→Hp→Prop)→Prop
noncomputable abbrev TA:=St→Hp→(List V→Hp→Prop)→Prop
structure Uf where
 nx:St→Hp→Prop
 rt:VK
 bk:St→Hp→Prop:=fun _ _=>False
 ct:St→Hp→Prop:=fun _ _=>False
noncomputable abbrev TS:=Uf→St→Hp→Prop
noncomputable def EP (X:Cx) (pins:List (Addr × Obj)) (σ:St) (Q:VK) (u:Value) (s':Shared):Prop:=∃ v H',Inv X pins σ H' s'∧Zc v u∧Q v H'
noncomputable def TP (X:Cx) (pins:List (Addr × Obj)) (σ:St) (Q:Bool→Hp→Prop) (b:Bool) (s':Shared):Prop:=∃ H',Inv X pins σ H' s'∧Q b H'
noncomputable def AP (X:Cx) (pins:List (Addr × Obj)) (σ:St) (Q:List V→Hp→Prop) (us:List Value) (s':Shared):Prop:=∃ vs H',Inv X pins σ H' s'∧Kc vs us∧Q vs H'
noncomputable def SP (X:Cx) (pins:List (Addr × Obj)) (D:Uf) (f:Flow) (s':Shared):Prop:=
 match f with
 | .next=>∃ σ' H',Inv X pins σ' H' s'∧D.nx σ' H'
 | .brk=>∃ σ' H',Inv X pins σ' H' s'∧D.bk σ' H'
 | .cont=>∃ σ' H',Inv X pins σ' H' s'∧D.ct σ' H'
 | .ret u=>∃ v σ' H',Inv X pins σ' H' s'∧Zc v u∧D.rt v H'
noncomputable def PE (X:Cx) (e:Expr) (t:TE):Prop:=
 ∀ (pins:List (Addr × Obj)) (s:Shared) (σ:St) (H:Hp) (Q:VK),Inv X pins σ H s→t σ H Q→wpAny (model X.prog X.w) X.A (eval e X.env) (EP X pins σ Q) X.xe s
noncomputable def PT (X:Cx) (e:Expr) (t:TT):Prop:=
 ∀ (pins:List (Addr × Obj)) (s:Shared) (σ:St) (H:Hp) (Q:Bool→Hp→Prop),Inv X pins σ H s→t σ H Q→wpAny (model X.prog X.w) X.A (isTrue e X.env (eval e X.env)) (TP X pins σ Q) X.xe s
noncomputable def PW (X:Cx) (e:Expr) (t:TT):Prop:=
 ∀ (whole:Sem Value) (pins:List (Addr × Obj)) (s:Shared) (σ:St) (H:Hp) (Q:Bool→Hp→Prop),Inv X pins σ H s→t σ H Q→wpAny (model X.prog X.w) X.A (isTrue e X.env whole) (TP X pins σ Q) X.xe s
theorem PW.pt {X:Cx} {e:Expr} {t:TT} (h:PW X e t):PT X e t:=h _
noncomputable def PA (X:Cx) (es:List Expr) (t:TA):Prop:=
 ∀ (pos:Pos) (pins:List (Addr × Obj)) (s:Shared) (σ:St) (H:Hp) (Q:List V→Hp→Prop),Inv X pins σ H s→t σ H Q→wpAny (model X.prog X.w) X.A (spliced (backTo pos (starEach es X.env))) (AP X pins σ Q) X.xe s
noncomputable def PS (X:Cx) (st:Stmt) (t:TS):Prop:=
 ∀ (pins:List (Addr × Obj)) (s:Shared) (σ:St) (H:Hp) (D:Uf),Inv X pins σ H s→t D σ H→wpAny (model X.prog X.w) X.A (exec st X.env) (SP X pins D) X.xe s
noncomputable def PSs (X:Cx) (st:List Stmt) (t:TS):Prop:=
 ∀ (pins:List (Addr × Obj)) (s:Shared) (σ:St) (H:Hp) (D:Uf),Inv X pins σ H s→t D σ H→wpAny (model X.prog X.w) X.A (execs st X.env) (SP X pins D) X.xe s
theorem thn {α:Type} {t:Sem α} {Q Q':α→Shared→Prop} {M:Model} {A:Around} {E:Value→Shared→Prop} {s:Shared} (h:wpAny M A t Q E s) (hQ:∀ a s,Q a s→Q' a s):wpAny M A t Q' E s:=wpAny_mono h hQ fun _ _ x=>x
end L2
namespace L2
open PySem PySem.Spec PyProof.Rows
section
variable {X:Cx}
noncomputable def NL (i:Nat):TE:=fun σ H Q=>∃ v,σ[i]? = some (some v)∧Q v H
noncomputable def tC (v:V):TE:=fun _ H Q=>Q v H
theorem SI {i:Nat} {x:Str} {pos:Pos} (hN:X.N[i]? = some x) (hv:Vis X.env.scope x) (hd:(x == ("__debug__" : Str))=false:=by decide) (hcd:(x == ("__classdict__" : Str))=false:=by decide):PE X (.Name x pos) (NL i):=by
 intro pins s σ H Q I h
 obtain ⟨v,e,h⟩:=h
 obtain ⟨m,hn,hl⟩:=I.loc
 obtain ⟨u,r,l⟩:=hl i x v hN e hv
 have fin:EP X pins σ Q u s:=⟨v,H,I,r,h⟩
 rcases l with ⟨hk,hm⟩ | ⟨hk,c,hc,hcell⟩
 ·exact wpAny_Name (wpAny_loadName_local I.ok.kind hk hn hm fin) hd
 ·rcases hk with hk | hk
  ·exact wpAny_Name (wpAny_loadName_cell I.ok.kind hk hc hcell fin) hd
  ·exact wpAny_Name (wpAny_loadName_free I.ok.kind hk hc hcell fin hcd) hd
theorem pb {i j pos}:PE X (.Constant (.int i) j pos) (tC (.int i)):=fun _ _ _ H _ I h=>wpAny_Constant_int ⟨.int i,H,I.tok _,⟨_,rfl⟩,h⟩
theorem yq {b j pos}:PE X (.Constant (.bool b) j pos) (tC (.bl b)):=fun _ _ _ H _ I h=>Constant_bool ⟨.bl b,H,I,rfl,h⟩
theorem ix {j pos}:PE X (.Constant .none j pos) (tC .non):=fun _ _ _ H _ I h=>Constant_none ⟨.non,H,I,rfl,h⟩
theorem Cc {x j pos}:PE X (.Constant (.str x) j pos) (tC (.str x)):=fun _ _ _ H _ I h=>Calls.Constant_str ⟨.str x,H,I.tok _,⟨_,rfl⟩,h⟩
noncomputable def Gl (X:Cx) (x:Str):Prop:=X.env.kindOf x=some .globalImplicit
theorem Ti {E:Value→Shared→Prop} {pins:List (Addr × Obj)} {s:Shared} {σ:St} {H:Hp} {x:Str} {u:Value} {pos:Pos} {Q:Value→Shared→Prop} (I:Inv X pins σ H s) (hg:Gl X x) (hm:X.mg x=some u) (h:Q u s)
  (hd:(x == ("__debug__" : Str))=false:=by decide):wpAny (model X.prog X.w) X.A (eval (.Name x pos) X.env) Q E s:=
 Calls.Name_function_global I.ok.kind hg (Calls.loadGlobal_global (by rw [I.ok.glob];exact I.mod.glob.keeps I.bk) hm h) hd
theorem ol {E:Value→Shared→Prop} {pins:List (Addr × Obj)} {s:Shared} {σ:St} {H:Hp} {x:Str} {u:Value} {pos:Pos} {Q:Value→Shared→Prop} (I:Inv X pins σ H s) (hg:Gl X x) (hm:X.mg x=none) (hv:bootBuiltins x=some u) (h:Q u s)
  (hn:x ≠ "__name__" := by decide) (hd:(x == ("__debug__" : Str))=false:=by decide):wpAny (model X.prog X.w) X.A (eval (.Name x pos) X.env) Q E s:=by
 obtain ⟨mb,h1,h2⟩:=I.mod.blt
 exact Calls.Name_function_global I.ok.kind hg (Calls.loadGlobal_builtin (by rw [I.ok.glob];exact I.mod.glob.keeps I.bk) hm (by rw [I.ok.blt];exact h1.keeps I.bk) ((h2 x hn).trans hv) h) hd
theorem jh {x:Str} {v:V} {u:Value} {pos:Pos} (hg:Gl X x) (hm:X.mg x=some u) (r:Zc v u) (hd:(x == ("__debug__" : Str))=false:=by decide):PE X (.Name x pos) (tC v):=
 fun _ _ _ H _ I h=>Ti I hg hm ⟨v,H,I,r,h⟩ hd
theorem Uu {x:Str} {v:V} {u:Value} {pos:Pos} (hg:Gl X x) (hm:X.mg x=none) (hv:bootBuiltins x=some u) (r:Zc v u) (hn:x ≠ "__name__" := by decide) (hd:(x == ("__debug__" : Str))=false:=by decide):PE X (.Name x pos) (tC v):=
 fun _ _ _ H _ I h=>ol I hg hm hv ⟨v,H,I,r,h⟩ hn hd
noncomputable def t2I (ta tb:TE) (k:Int→Int→Hp→Prop):St→Hp→Prop:=fun σ H=>ta σ H fun x H1=>tb σ H1 fun y H2=>∃ i j,x=.int i∧y=.int j∧k i j H2
noncomputable def CM (ta tb:TE):TE:=fun σ H Q=>t2I ta tb (fun i j H2=>Q (.int (i + j)) H2) σ H
noncomputable def LM (ta tb:TE):TE:=fun σ H Q=>t2I ta tb (fun i j H2=>Q (.int (i - j)) H2) σ H
noncomputable def vM (ta tb:TE):TE:=fun σ H Q=>t2I ta tb (fun i j H2=>(-(2 ^ 64) < i∧i < 2 ^ 64)∧Q (.int (i * j)) H2) σ H
variable {a b:Expr} {ta tb:TE} {pos:Pos}
noncomputable def PC (X:Cx) (op:CmpOp) (a b:Expr) (t:TE):Prop:=
 ∀ (pins:List (Addr × Obj)) (s:Shared) (σ:St) (H:Hp) (Q:VK),Inv X pins σ H s→t σ H Q →
  wpAny (model X.prog X.w) X.A (eval a X.env) (fun v s₁=>wpAny (model X.prog X.w) X.A (eval b X.env) (fun u s₂=>wpAny (model X.prog X.w) X.A (compareOp op v u) (EP X pins σ Q) X.xe s₂) X.xe s₁) X.xe s
theorem JC (b:Expr) {op:CmpOp} (h:op ≠ .In) (h2:op ≠ .NotIn):behindInMarks op b=false:=by
 have e1:(op == CmpOp.In)=false:=by cases op <;> first | rfl | exact absurd rfl h
 have e2:(op == CmpOp.NotIn)=false:=by cases op <;> first | rfl | exact absurd rfl h2
 cases b <;> simp [behindInMarks,e1,e2]
noncomputable def dN (p:Int→Int→Bool) (ta tb:TE):TE:=fun σ H Q=>t2I ta tb (fun i j H2=>Q (.bl (p i j)) H2) σ H
noncomputable def NM (ta:TE):TE:=fun σ H Q=>ta σ H fun x H1=>Q (.bl (decide (x=.non))) H1
noncomputable def eL (ta:TE):TE:=fun σ H Q=>ta σ H fun x H1=>Q (.bl (!decide (x=.non))) H1
noncomputable def tB (t:TE):TT:=fun σ H Q=>t σ H fun x H1=>∃ c,x=.bl c∧Q c H1
theorem JE {op:CmpOp} {t:TE} (h:PC X op a b t) (h1:behindInMarks op b=false:=by first | exact JC _ (by decide) (by decide) | rfl):PT X (.Compare a [op] [b] pos) (tB t):=by
 intro pins s σ H Q I hw
 refine wpAny_isTrue_Compare1 (thn (h pins s σ H _ I hw) fun v s1 h1=>thn h1 fun u s2 h2=>thn h2 fun c s3 ⟨x,H1,I1,r1,q1⟩=>?_) h1
 obtain ⟨d,rfl,q⟩:=q1
 cases r1
 exact wpAny_truthy_bool ⟨H1,I1,q⟩
theorem ph {e:Expr} {t:TE} (h:PE X e t) (he:∀ whole,isTrue e X.env whole=(do let v ← whole;standAt e.pos;holding [v] (truthy v)):=by intro _;rfl):PT X e (tB t):=by
 intro pins s σ H Q I hw
 refine isTrue_plain (thn (h pins s σ H _ I hw) fun v s1 ⟨x,H1,I1,r1,q1⟩=>?_) (he _)
 obtain ⟨d,rfl,q⟩:=q1
 cases r1
 exact wpAny_truthy_bool ⟨H1,I1,q⟩
variable {tA tB':TT} {rest:List Expr}
noncomputable def fM (t u:TT):TT:=fun σ H Q=>t σ H fun c H1=>if c=true then u σ H1 Q else Q false H1
noncomputable def tOr (t u:TT):TT:=fun σ H Q=>t σ H fun c H1=>if c=true then Q true H1 else u σ H1 Q
noncomputable def jM (t:TT):TT:=fun σ H Q=>t σ H fun c H1=>Q (!c) H1
theorem Ss (ha:PT X a tA):PW X (.BoolOp .And [a] pos) tA:=by
 intro wh pins s σ H Q I h
 refine isTrue_and (thn (ha pins s σ H Q I h) fun c s1 e=>?_)
 cases c with
 | true=>exact isTrue_and_nil e
 | false=>exact e
theorem uo (ha:PT X a tA):PW X (.BoolOp .Or [a] pos) tA:=by
 intro wh pins s σ H Q I h
 refine isTrue_or (thn (ha pins s σ H Q I h) fun c s1 e=>?_)
 cases c with
 | false=>exact isTrue_or_nil e
 | true=>exact e
theorem Fw (ha:PT X a tA) (hb:PW X (.BoolOp .And (b :: rest) pos) tB'):PW X (.BoolOp .And (a :: b :: rest) pos) (fM tA tB'):=by
 intro wh pins s σ H Q I h
 refine isTrue_and (thn (ha pins s σ H _ I h) fun c s1 ⟨H1,I1,q1⟩=>?_)
 cases c with
 | true=>exact hb wh pins s1 σ H1 Q I1 q1
 | false=>exact ⟨H1,I1,q1⟩
theorem sv (ha:PT X a tA) (hb:PW X (.BoolOp .Or (b :: rest) pos) tB'):PW X (.BoolOp .Or (a :: b :: rest) pos) (tOr tA tB'):=by
 intro wh pins s σ H Q I h
 refine isTrue_or (thn (ha pins s σ H _ I h) fun c s1 ⟨H1,I1,q1⟩=>?_)
 cases c with
 | true=>exact ⟨H1,I1,q1⟩
 | false=>exact hb wh pins s1 σ H1 Q I1 q1
theorem ql (ha:PT X a tA):PT X (.UnaryOp .Not a pos) (jM tA):=by
 intro pins s σ H Q I h
 exact isTrue_not (ha pins s σ H (fun c H1=>Q (!c) H1) I h)
noncomputable def GK (ta tb:TE):TE:=fun σ H Q=>ta σ H fun x H1=>∃ c,x=.bl c∧if c=true then tb σ H1 Q else Q (.bl false) H1
noncomputable def sM (ta tb:TE):TE:=fun σ H Q=>ta σ H fun x H1=>∃ c,x=.bl c∧if c=true then Q (.bl true) H1 else tb σ H1 Q
noncomputable def vJ (ta:TE):TE:=fun σ H Q=>ta σ H fun x H1=>∃ c,x=.bl c∧Q (.bl (!c)) H1
theorem ir {op} {t:TE} (h:PE X a t):PE X (.BoolOp op [a] pos) t:=fun pins s σ H Q I hw=>BoolOp_one (h pins s σ H Q I hw)
theorem Zs (ha:PE X a ta) (hb:PE X (.BoolOp .And (b :: rest) pos) tb):PE X (.BoolOp .And (a :: b :: rest) pos) (GK ta tb):=by
 intro pins s σ H Q I h
 refine BoolOp_and (thn (ha pins s σ H _ I h) fun v s1 ⟨x,H1,I1,r1,q1⟩=>?_)
 obtain ⟨c,rfl,q1⟩:=q1
 cases r1
 refine wpAny_truthy_bool ?_
 cases c with
 | true=>exact hb pins s1 σ H1 Q I1 q1
 | false=>exact ⟨.bl false,H1,I1,rfl,q1⟩
theorem pK (ha:PE X a ta) (hb:PE X (.BoolOp .Or (b :: rest) pos) tb):PE X (.BoolOp .Or (a :: b :: rest) pos) (sM ta tb):=by
 intro pins s σ H Q I h
 refine BoolOp_or (thn (ha pins s σ H _ I h) fun v s1 ⟨x,H1,I1,r1,q1⟩=>?_)
 obtain ⟨c,rfl,q1⟩:=q1
 cases r1
 refine wpAny_truthy_bool ?_
 cases c with
 | false=>exact hb pins s1 σ H1 Q I1 q1
 | true=>exact ⟨.bl true,H1,I1,rfl,q1⟩
theorem BI (ha:PE X a ta):PE X (.UnaryOp .Not a pos) (vJ ta):=by
 intro pins s σ H Q I h
 refine UnaryOp_ (thn (ha pins s σ H _ I h) fun v s1 ⟨x,H1,I1,r1,q1⟩=>?_)
 obtain ⟨c,rfl,q1⟩:=q1
 cases r1
 exact not_of (wpAny_truthy_bool ⟨.bl (!c),H1,I1,rfl,q1⟩)
noncomputable def tIf (t:TT) (ta tb:TE):TE:=fun σ H Q=>t σ H fun c H1=>if c=true then ta σ H1 Q else tb σ H1 Q
theorem Wr {c:Expr} (hc:PT X c tA) (ha:PE X a ta) (hb:PE X b tb):PE X (.IfExp c a b pos) (tIf tA ta tb):=by
 intro pins s σ H Q I h
 refine wpAny_IfExp (thn (hc pins s σ H _ I h) fun d s1 ⟨H1,I1,q1⟩=>?_)
 cases d with
 | true=>exact ha pins s1 σ H1 Q I1 q1
 | false=>exact hb pins s1 σ H1 Q I1 q1
end
end L2
namespace L2
open PySem PySem.Spec PyProof.Rows
noncomputable def SqL (K:PySem.W.Frag) (H:Hp) (a:Addr) (xs:List V):Prop:=
 Rd H a (.lst xs) ∨
  ∃ (o:Obj) (its:Array Value) (n:Nat),K.lookup a=some o∧o.cls=.type "list" ∧ o.dict=none∧o.data=.seq its n∧its.size ≤ sizeLine∧Kc xs its.toList
noncomputable def SqT (K:PySem.W.Frag) (H:Hp) (a:Addr) (xs:List V):Prop:=
 Rd H a (.tup xs) ∨
  ∃ (o:Obj) (its:Array Value) (n:Nat),K.lookup a=some o∧o.cls=.type "tuple" ∧ o.data=.seq its n∧its.size ≤ sizeLine∧Kc xs its.toList
noncomputable def AM:Value→Option V
 | .none=>some .non
 | .bool b=>some (.bl b)
 | .int i _=>some (.int i)
 | .str x _=>some (.str x)
 | .bytes b _=>some (.byt b)
 | .float b _=>some (.flt b)
 | .ref a=>some (.ref a)
 | .type n=>some (.ty n)
 | _=>none
theorem Zc.abs {x:V} {u:Value} (r:Zc x u):AM u=some x:=by
 cases x with
 | non=>cases r;rfl
 | bl _=>cases r;rfl
 | int _=>obtain ⟨t,rfl⟩:=r;rfl
 | str _=>obtain ⟨t,rfl⟩:=r;rfl
 | byt _=>obtain ⟨t,rfl⟩:=r;rfl
 | flt _=>obtain ⟨t,rfl⟩:=r;rfl
 | ref _=>cases r;rfl
 | ty _=>cases r;rfl
theorem Zc.inj {x y:V} {u:Value} (r:Zc x u) (q:Zc y u):x=y:=Option.some.inj (r.abs.symm.trans q.abs)
theorem Kc.inj:∀ {xs ys:List V} {us:List Value},Kc xs us→Kc ys us→xs=ys
 | _,_,_,.nil,.nil=>rfl
 | _,_,_,.cons r t,.cons r' t'=>by rw [r.inj r',Kc.inj t t']
section
variable {X:Cx} {pins:List (Addr × Obj)} {σ:St} {H:Hp} {s:Shared} {a:Addr} {xs ys:List V}
theorem SqL.of {K:PySem.W.Frag} (h:H a=some (.lst xs)):SqL K H a xs:=.inl (.inl h)
theorem SqT.of {K:PySem.W.Frag} (h:H a=some (.tup xs)):SqT K H a xs:=.inl (.inl h)
theorem Inv.list (I:Inv X pins σ H s) (h:SqL X.K H a xs):∃ its:List Value,Kc xs its∧PlainL s.heap a its.toArray∧xs.length ≤ sizeLine:=by
 rcases h with h | ⟨o,its,n,hk,hc,hd,hs,hz,r⟩
 ·obtain ⟨z,its,n,r,e⟩:=h.ok I.hok
  exact ⟨its,r,⟨_,n,e,rfl,rfl,rfl⟩,z⟩
 ·refine ⟨its.toList,r,⟨o,n,I.kIn a o hk,hc,hd,by simpa using hs⟩,?_⟩
  have e:=r.length
  simp only [Array.length_toList] at e
  omega
theorem Inv.tuple (I:Inv X pins σ H s) (h:SqT X.K H a xs):∃ its:List Value,Kc xs its∧IsTup s.heap a its.toArray∧xs.length ≤ sizeLine:=by
 rcases h with h | ⟨o,its,n,hk,hc,hs,hz,r⟩
 ·obtain ⟨z,its,r,p⟩:=h.ok I.hok
  exact ⟨its,r,p,z⟩
 ·refine ⟨its.toList,r,⟨o,I.kIn a o hk,hc,n,by simpa using hs⟩,?_⟩
  have e:=r.length
  simp only [Array.length_toList] at e
  omega
theorem Inv.list_inj (I:Inv X pins σ H s) (h:SqL X.K H a xs) (h':SqL X.K H a ys):xs=ys:=by
 obtain ⟨its,r,⟨o,n,e,_,_,d⟩,_⟩:=I.list h
 obtain ⟨its',r',⟨o',n',e',_,_,d'⟩,_⟩:=I.list h'
 rw [e] at e';cases e'
 rw [d] at d'
 injection d' with d1 _
 have:its=its':=by simpa using congrArg Array.toList d1
 subst this
 exact r.inj r'
theorem Inv.tuple_inj (I:Inv X pins σ H s) (h:SqT X.K H a xs) (h':SqT X.K H a ys):xs=ys:=by
 obtain ⟨its,r,⟨o,e,_,n,d⟩,_⟩:=I.tuple h
 obtain ⟨its',r',⟨o',e',_,n',d'⟩,_⟩:=I.tuple h'
 rw [e] at e';cases e'
 rw [d] at d'
 injection d' with d1 _
 have:its=its':=by simpa using congrArg Array.toList d1
 subst this
 exact r.inj r'
end
noncomputable abbrev Cx.wish (X:Cx) (E:Value→Shared→Prop):Cx:={ X with xe:=E }
noncomputable abbrev Cx.nox (X:Cx):Cx:=X.wish fun _ _=>False
theorem Cx.Ok.wish {X:Cx} (ok:X.Ok) (E:Value→Shared→Prop):(X.wish E).Ok:=
 ⟨ok.mod,ok.kind,ok.glob,ok.blt,ok.above,ok.inj,ok.has,ok.cab,ok.hd,ok.frames,ok.stk,ok.exf,ok.bs,ok.bsz,ok.noex,ok.exfs,ok.funs,ok.frf⟩
theorem Cx.Ok.unwish {X:Cx} {E:Value→Shared→Prop} (ok:(X.wish E).Ok):X.Ok:=
 ⟨ok.mod,ok.kind,ok.glob,ok.blt,ok.above,ok.inj,ok.has,ok.cab,ok.hd,ok.frames,ok.stk,ok.exf,ok.bs,ok.bsz,ok.noex,ok.exfs,ok.funs,ok.frf⟩
section
variable {X:Cx} {pins:List (Addr × Obj)} {σ:St} {H:Hp} {s:Shared} {E:Value→Shared→Prop}
theorem Inv.wish (I:Inv X pins σ H s) (E:Value→Shared→Prop):Inv (X.wish E) pins σ H s:=⟨I.ok.wish E,I.os,I.bare,I.base,I.loc,I.cell,I.free,I.freeC,I.pin,I.hok,I.len⟩
theorem Inv.unwish (I:Inv (X.wish E) pins σ H s):Inv X pins σ H s:=⟨I.ok.unwish,I.os,I.bare,I.base,I.loc,I.cell,I.free,I.freeC,I.pin,I.hok,I.len⟩
theorem SP.unwish {D:Uf} {f:Flow} {s':Shared} (h:SP (X.wish E) pins D f s'):SP X pins D f s':=by
 cases f with
 | next=>obtain ⟨σ',H',I,q⟩:=h;exact ⟨σ',H',I.unwish,q⟩
 | brk=>obtain ⟨σ',H',I,q⟩:=h;exact ⟨σ',H',I.unwish,q⟩
 | cont=>obtain ⟨σ',H',I,q⟩:=h;exact ⟨σ',H',I.unwish,q⟩
 | ret u=>obtain ⟨v,σ',H',I,r,q⟩:=h;exact ⟨v,σ',H',I.unwish,r,q⟩
theorem PE.nox {e:Expr} {t:TE} (h:PE X.nox e t):PE X e t:=fun pins s σ H Q I hw=>
 wpAny_mono (h pins s σ H Q (I.wish _) hw) (fun _ _ ⟨v,H',I',r,q⟩=>⟨v,H',I'.unwish,r,q⟩) fun _ _ z=>False.elim z
theorem PT.nox {e:Expr} {t:TT} (h:PT X.nox e t):PT X e t:=fun pins s σ H Q I hw=>
 wpAny_mono (h pins s σ H Q (I.wish _) hw) (fun _ _ ⟨H',I',q⟩=>⟨H',I'.unwish,q⟩) fun _ _ z=>False.elim z
theorem PSs.nox {st:List Stmt} {t:TS} (h:PSs X.nox st t):PSs X st t:=fun pins s σ H D I hw=>
 wpAny_mono (h pins s σ H D (I.wish _) hw) (fun _ _ q=>q.unwish) fun _ _ z=>False.elim z
end
section
variable {X:Cx} {st:Stmt} {rest:List Stmt} {t u:TS} {e:Expr} {te:TE} {pos:Pos}
noncomputable def QJ:TS:=fun D σ H=>D.nx σ H
noncomputable def XL (t u:TS):TS:=fun D σ H=>t { D with nx:=u D } σ H
theorem fc:PSs X [] QJ:=fun _ _ σ H _ I h=>wpAny_execs_nil ⟨σ,H,I,h⟩
theorem cb (h1:PS X st t) (h2:PSs X rest u):PSs X (st :: rest) (XL t u):=by
 intro pins s σ H D I h
 refine wpAny_execs_cons (thn (h1 pins s σ H { D with nx:=u D } I h) fun f s1 q=>?_)
 cases f with
 | next=>
  obtain ⟨σ',H',I',q⟩:=q
  exact h2 pins s1 σ' H' D I' q
 | ret v=>exact q
 | brk=>exact q
 | cont=>exact q
theorem gb (h1:PS X st t):PSs X [st] t:=by
 intro pins s σ H D I h
 refine wpAny_execs_cons (thn (h1 pins s σ H D I h) fun f s1 q=>?_)
 cases f with
 | next=>exact wpAny_execs_nil q
 | ret v=>exact q
 | brk=>exact q
 | cont=>exact q
noncomputable def VJ:TS:=fun D σ H=>D.bk σ H
noncomputable def vL:TS:=fun D σ H=>D.ct σ H
theorem Inv.quiet {pins:List (Addr × Obj)} {σ:St} {H:Hp} {s:Shared} (I:Inv X pins σ H s):interactive X.env=false:=by simp [interactive,I.ok.kind]
noncomputable def RI (te:TE):TS:=fun D σ H=>te σ H fun _ H1=>D.nx σ H1
theorem kc (he:PE X e te) (hs:swapsWith e none pos.line X.env=pure false:=by rfl):PS X (.Expr e pos) (RI te):=by
 intro pins s σ H D I h
 exact wpAny_Expr_any (thn (he pins s σ H _ I h) fun v s1 ⟨x,H1,I1,r1,q1⟩=>⟨σ,H1,I1,q1⟩) I.quiet hs
noncomputable def pL (te:TE):TS:=fun D σ H=>te σ H D.rt
theorem Fb (he:PE X e te):PS X (.Return (some e) pos) (pL te):=by
 intro pins s σ H D I h
 exact wpAny_Return_some (thn (he pins s σ H _ I h) fun v s1 ⟨x,H1,I1,r1,q1⟩=>⟨x,σ,H1,I1,r1,q1⟩)
noncomputable def CL:TS:=fun D _ H=>D.rt .non H
noncomputable def EL (c:TT) (t u:TS):TS:=fun D σ H=>c σ H fun b H1=>if b=true then t D σ H1 else u D σ H1
theorem re {c:Expr} {a b:List Stmt} {tc:TT} (hc:PT X c tc) (ha:PSs X a t) (hb:PSs X b u):PS X (.If c a b pos) (EL tc t u):=by
 intro pins s σ H D I h
 refine wpAny_If (thn (hc pins s σ H _ I h) fun d s1 ⟨H1,I1,q1⟩=>?_)
 cases d with
 | true=>exact ha pins s1 σ H1 D I1 q1
 | false=>exact hb pins s1 σ H1 D I1 q1
noncomputable def BF:TS:=fun _ _ _=>False
theorem kj:PS X st BF:=fun _ _ _ _ _ _ h=>h.elim
end
noncomputable abbrev TG:=V→St→Hp→(St→Hp→Prop)→Prop
noncomputable abbrev TGs:=List V→St→Hp→(St→Hp→Prop)→Prop
noncomputable def PG (X:Cx) (target:Expr) (t:TG):Prop:=
 ∀ (pins:List (Addr × Obj)) (s:Shared) (σ:St) (H:Hp) (v:V) (u:Value) (Q:St→Hp→Prop),Inv X pins σ H s→Zc v u→t v σ H Q →
  wpAny (model X.prog X.w) X.A (assign target X.env u) (fun _ s'=>∃ σ' H',Inv X pins σ' H' s'∧Q σ' H') X.xe s
noncomputable def PGs (X:Cx) (ts:List Expr) (t:TGs):Prop:=
 ∀ (pins:List (Addr × Obj)) (s:Shared) (σ:St) (H:Hp) (vs:List V) (us:List Value) (Q:St→Hp→Prop),Inv X pins σ H s→Kc vs us→t vs σ H Q →
  wpAny (model X.prog X.w) X.A (assignInOrder ((assignEach ts X.env).map (·.2)) us) (fun _ s'=>∃ σ' H',Inv X pins σ' H' s'∧Q σ' H') X.xe s
noncomputable abbrev kI:=V→V→V→Hp→(Hp→Prop)→Prop
noncomputable def lM (X:Cx) (t:kI):Prop:=
 ∀ (pins:List (Addr × Obj)) (s:Shared) (σ:St) (H:Hp) (o i v:V) (ov iv u:Value) (Q:Hp→Prop),Inv X pins σ H s→Zc o ov→Zc i iv→Zc v u→t o i v H Q →
  wpAny (model X.prog X.w) X.A (setItem ov iv u) (fun _ s'=>∃ H',Inv X pins σ H' s'∧Q H') X.xe s
noncomputable abbrev TIp:=V→V→Hp→VK→Prop
section
variable {X:Cx} {pos:Pos}
noncomputable def xu (i:Nat):TG:=fun v σ H Q=>Q (σ.set i (some v)) H
theorem wb {i:Nat} {x:Str} (hN:X.N.Nodup) (hi:X.N[i]? = some x) (hx:Loc X.env.scope x) (hf:X.fn x=true∨X.env.scope.names.lookup x=some .local:=by first | exact .inl rfl | exact .inr rfl | assumption):PG X (.Name x pos) (xu i):=by
 intro pins s σ H v u Q I r h
 exact wpAny_assign_Name (Hn I hN hi hx r (fun s' I'=>⟨_,H,I',h⟩) hf)
noncomputable def PK:TGs:=fun vs σ H Q=>vs=[]∧Q σ H
noncomputable def kx (t:TG) (u:TGs):TGs:=fun vs σ H Q=>∃ v r,vs=v :: r∧t v σ H fun σ' H'=>u r σ' H' Q
theorem We:PGs X [] PK:=by
 intro pins s σ H vs us Q I r h
 obtain ⟨e,h⟩:=h
 subst e
 cases r
 exact assignInOrder_nil ⟨σ,H,I,h⟩
theorem Jb {e:Expr} {es:List Expr} {t:TG} {u:TGs} (h1:PG X e t) (h2:PGs X es u)
  (hs:(assignEach (e :: es) X.env).map (·.2)=assign e X.env :: (assignEach es X.env).map (·.2):=by rfl):PGs X (e :: es) (kx t u):=by
 intro pins s σ H vs us Q I r h
 obtain ⟨v,vr,e1,h⟩:=h
 subst e1
 cases r with
 | cons r rr=>
  rw [hs]
  refine assignInOrder_cons (thn (h1 pins s σ H _ _ _ I r h) fun _ s1 ⟨σ1,H1,I1,q1⟩=>?_)
  exact h2 pins s1 σ1 H1 _ _ Q I1 rr q1
noncomputable def AK (K:PySem.W.Frag) (n:Nat) (t:TGs):TG:=fun v σ H Q=>∃ a xs,v=.ref a∧SqT K H a xs∧xs.length=n∧t xs σ H Q
theorem AI {es:List Expr} {k:Nat} {t:TGs} {n:Nat} (hc:X.calm=true) (h:PGs X es t)
  (hn:(assignEach es X.env).length=n:=by rfl) (hst:(assignEach es X.env).findIdx? (·.1)=none:=by rfl):PG X (.Tuple es k pos) (AK X.K n t):=by
 intro pins s σ H v u Q I r hw
 obtain ⟨a,xs,e1,hq,hl,hw⟩:=hw
 subst e1
 cases r
 obtain ⟨its,rv,ht,hz⟩:=I.tuple hq
 refine assign_Tuple_tuple (I.ok.hd hc) ht (by simp [hn,← hl,rv.length]) hst fun h' hx=>?_
 have I1:Inv X pins σ H { s with heap:=h' }:=I.kept (t':=s.toks) fun b o e=>hx b o (Nat.ne_of_lt (Heap.lt_size e)) e
 exact h pins _ σ H xs _ Q I1 (by simpa using rv) hw
noncomputable def ZL (to ti:TE) (t:kI):TG:=fun v σ H Q=>to σ H fun o H1=>ti σ H1 fun i H2=>t o i v H2 fun H3=>Q σ H3
theorem gu {o i:Expr} {to ti:TE} {t:kI} (ho:PE X o to) (hi:PE X i ti) (hs:lM X t)
  (ha:∀ v,assign (.Subscript o i pos) X.env v=(do
   let ov ← holding [v] (eval o X.env)
   let iv ← holding [v,ov] (eval i X.env)
   standAt pos
   holding [v,ov,iv] (setItem ov iv v)
   release [v,ov,iv] []):=by intro _;rfl):PG X (.Subscript o i pos) (ZL to ti t):=by
 intro pins s σ H v u Q I r h
 rw [ha]
 refine wpAny_bind (wpAny_holding (thn (ho pins s σ H _ I h) fun ov s1 ⟨x,H1,I1,r1,q1⟩=>?_))
 refine wpAny_bind (wpAny_holding (thn (hi pins s1 σ H1 _ I1 q1) fun iv s2 ⟨y,H2,I2,r2,q2⟩=>?_))
 refine wpAny_bind (wpAny_standAt (wpAny_bind (wpAny_holding (thn (hs pins s2 σ H2 x y v ov iv u _ I2 r1 r2 r q2) fun _ s3 ⟨H3,I3,q3⟩=>?_))))
 exact wpAny_release ⟨σ,H3,I3,q3⟩
noncomputable def RK (te:TE) (g:TG):TS:=fun D σ H=>te σ H fun x H1=>g x σ H1 D.nx
theorem jo {tg e:Expr} {te:TE} {g:TG} (he:PE X e te) (hg:PG X tg g) (hs:swapsWithSole [tg] e pos.line X.env=pure false:=by rfl) (hw:swappedStores [tg] e X.env=pure none:=by rfl)
  (h1:(assignEach [tg] X.env).map (·.2)=[assign tg X.env]:=by rfl):PS X (.Assign [tg] e pos) (RK te g):=by
 intro pins s σ H D I h
 refine wpAny_Assign_stores (thn (he pins s σ H _ I h) fun v s1 ⟨x,H1,I1,r1,q1⟩=>?_) hs hw
 rw [h1]
 exact thn (hg pins s1 σ H1 x v _ I1 r1 q1) fun _ s2 q=>q
theorem Db {i:Nat} {x:Str} {e:Expr} {te:TE} {pos':Pos} (hN:X.N.Nodup) (hi:X.N[i]? = some x) (hx:Loc X.env.scope x) (he:PE X e te) (hs:swapsWith e (some (.Name x pos')) pos.line X.env=pure false:=by rfl) (hf:X.fn x=true∨X.env.scope.names.lookup x=some .local:=by first | exact .inl rfl | exact .inr rfl | assumption) :
  PS X (.Assign [.Name x pos'] e pos) (RK te (xu i)):=by
 intro pins s σ H D I h
 refine wpAny_Assign_Name (thn (he pins s σ H _ I h) fun v s1 ⟨y,H1,I1,r1,q1⟩=>?_) hs
 exact Hn I1 hN hi hx r1 (fun s2 I2=>⟨_,H1,I2,q1⟩) hf
noncomputable def XM (i j:Nat) (ta:TA):TS:=fun D σ H=>ta σ H fun vs H1=>∃ v w,vs=[v,w]∧D.nx ((σ.set i (some v)).set j (some w)) H1
noncomputable def yM (i:Nat) (te:TE) (ti:TIp):TS:=fun D σ H=>∃ x,σ[i]? = some (some x)∧te σ H fun y H1=>ti x y H1 fun z H2=>D.nx (σ.set i (some z)) H2
noncomputable def bL (to ti te:TE) (tget:V→V→Hp→VK→Prop) (tip:TIp) (tset:kI):TS:=fun D σ H=>to σ H fun o H1=>ti σ H1 fun i H2=>tget o i H2 fun x H3=>te σ H3 fun y H4=>tip x y H4 fun z H5=>tset o i z H5 fun H6=>D.nx σ H6
end
section
variable {X:Cx} {pos:Pos}
end
structure It where
 go:Nat→Hp→Prop
 yld:Nat→Hp→V→Hp→Prop
 stop:Nat→Hp→Prop
noncomputable def Jt (X:Cx) (pins:List (Addr × Obj)) (H:Hp) (b:Addr):Prop:=
 H b=none∧b ≠ X.env.locals∧b ∉ X.fs∧(b ∈ X.ex∨X.s₀.heap.objs.size ≤ b)∧(∀ x c,X.env.cells.lookup x=some c→c ≠ b)∧∀ p ∈ X.pn ++ pins,p.1 ≠ b
theorem Inv.fpOk {X:Cx} {pins:List (Addr × Obj)} {σ:St} {H H':Hp} {s:Shared} {b:Addr} (I:Inv X pins σ H s) (hb:s.heap.objs.size ≤ b) (hn:H' b=none):Jt X pins H' b:=by
 refine ⟨hn,Nat.ne_of_gt (Nat.lt_of_lt_of_le I.lt hb),I.nofs hb,.inr (Nat.le_trans I.sz hb),fun x c e z=>?_,fun p hp z=>?_⟩
 ·obtain ⟨v,q⟩:=I.cell x c e
  exact absurd (Nat.lt_of_lt_of_le q.lt (by rw [z];exact hb)) (Nat.lt_irrefl _)
 ·exact absurd (Nat.lt_of_lt_of_le (Heap.lt_size (I.pin p hp).1) (by rw [z];exact hb)) (Nat.lt_irrefl _)
structure nG (P:Program) (w:World) (K:PySem.W.Frag) (tg:Expr) (J:It) (fp:List Addr) (it:Addr) (tn:Nat→Heap→Prop):Prop where
 mem:it ∈ fp
 obj:∀ i h,tn i h→∀ b ∈ fp,∃ o,h.get? b=some o∧∀ v,o.data ≠ .cell v
 keep:∀ i h h',tn i h→(∀ b ∈ fp,∀ o,h.get? b=some o→h'.get? b=some o)→tn i h'
 item:∀ (X:Cx),X.prog=P→X.w=w→X.K=K→X.calm=true→∀ (i:Nat) (pins:List (Addr × Obj)) (s:Shared) (σ:St) (H:Hp) (E:Value→Shared→Prop),Inv X pins σ H s→(∀ b ∈ fp,Jt X pins H b)→tn i s.heap→J.go i H →
  wpAny (model P w) X.A (pyNext (.ref it)) (fun r s1=>∃ u,r=some u ∧
   wpAny (model P w) X.A (letOwnedTupleGo tg (.ref it) u) (fun _ s2=>∃ x H',Inv X pins σ H' s2∧Zc x u∧J.yld i H x H'∧tn (i + 1) s2.heap∧∀ b ∈ fp,H' b=none) E s1) E s
 done:∀ (X:Cx),X.prog=P→X.w=w→X.K=K→X.calm=true→∀ (i:Nat) (pins:List (Addr × Obj)) (s:Shared) (σ:St) (H:Hp) (E:Value→Shared→Prop),Inv X pins σ H s→(∀ b ∈ fp,Jt X pins H b)→tn i s.heap→J.stop i H →
  wpAny (model P w) X.A (pyNext (.ref it)) (fun r s1=>r=none∧Inv X pins σ H s1) E s
 self:∀ (A:Around) (i:Nat) (s:Shared) (Q:Value→Shared→Prop) (E:Value→Shared→Prop),tn i s.heap→Q (.ref it) s→wpAny (model P w) A (pyIter (.ref it)) Q E s
noncomputable abbrev TI:=St→Hp→(It→Hp→Prop)→Prop
noncomputable def PIE (X:Cx) (pins:List (Addr × Obj)) (σ:St) (tg:Expr) (R:It→Hp→Prop) (itv:Value) (s2:Shared):Prop:=
 ∃ (it:Addr) (fp:List Addr) (tn:Nat→Heap→Prop) (J:It) (H':Hp),itv=.ref it∧Inv X pins σ H' s2∧nG X.prog X.w X.K tg J fp it tn∧tn 0 s2.heap∧(∀ b ∈ fp,Jt X pins H' b)∧R J H'
noncomputable def PI (X:Cx) (tg iter:Expr) (wi:TI):Prop:=
 ∀ (pins:List (Addr × Obj)) (s:Shared) (σ:St) (H:Hp) (R:It→Hp→Prop),Inv X pins σ H s→wi σ H R →
  wpAny (model X.prog X.w) X.A (eval iter X.env) (fun v s1=>wpAny (model X.prog X.w) X.A (pyIter v) (PIE X pins σ tg R) X.xe s1) X.xe s
theorem KD {M:Model} {A:Around} {E:Value→Shared→Prop} {s:Shared} {tg:Expr} {it:Addr} {u:Value} {o:Obj} {n:String} {vs:Array Value} {Q:Unit→Shared→Prop} (ho:s.heap.get? it=some o) (hc:o.cls=.type n) (hd:o.data=.fields vs)
    (hn:["enumerate","zip","dict_itemiterator","dict_reverseitemiterator","odict_iterator","itertools.zip_longest","itertools.pairwise"].contains n=false) (hQ:Q () s):wpAny M A (letOwnedTupleGo tg (.ref it) u) Q E s:=by
  unfold letOwnedTupleGo
  cases tg <;> first
    | exact wpAny_pure hQ
    | (cases u <;> first
        | exact wpAny_pure hQ
        | (refine wpAny_bind (wpAny_load ho ?_)
           rw [hc,hd]
           show wpAny M A (if (["enumerate","zip","dict_itemiterator","dict_reverseitemiterator","odict_iterator","itertools.zip_longest","itertools.pairwise"].contains n && vs[0]? == some (rawInt _))=true then _ else _) Q E s
           rw [if_neg (by intro h;rw [hn,Bool.false_and] at h;cases h)]
           exact wpAny_pure hQ))
noncomputable def Itl (K:PySem.W.Frag) (a:Addr):It:=
 ⟨fun i H=>∃ xs x,SqL K H a xs∧xs[i]? = some x,fun i H x H'=>H'=H∧∀ xs,SqL K H a xs→xs[i]? = some x,fun i H=>∃ xs,SqL K H a xs∧xs.length ≤ i⟩
noncomputable def Itt (K:PySem.W.Frag) (a:Addr):It:=
 ⟨fun i H=>∃ xs x,SqT K H a xs∧xs[i]? = some x,fun i H x H'=>H'=H∧∀ xs,SqT K H a xs→xs[i]? = some x,fun i H=>∃ xs,SqT K H a xs∧xs.length ≤ i⟩
noncomputable def Itr (lo:Int) (n:Nat):It:=⟨fun i _=>i < n,fun i H x H'=>H'=H∧x=.int (lo + i),fun i _=>n ≤ i⟩
theorem OA {P:Program} {w:World} {K:PySem.W.Frag} {tg:Expr} (a it:Addr):nG P w K tg (Itl K a) [it] it (fun i h=>h.IsListIter it a i) where
 mem:=by simp
 obj:=fun i h st b hb=>by
  have e:b=it:=by simpa using hb
  subst e
  obtain ⟨o,e,c,d⟩:=st
  exact ⟨o,e,fun v z=>by rw [d] at z;cases z⟩
 keep:=fun i h h' st k=>st.at fun o e=>k it (by simp) o e
 item:=by
  intro X hP hw hK hc i pins s σ H E I hf st hg
  subst hP hw hK
  obtain ⟨xs,x,hq,hx⟩:=hg
  obtain ⟨its,rv,p,hz⟩:=I.list hq
  obtain ⟨u,hu,ru⟩:=rv.get hx
  obtain ⟨f0,f1,f2,f3,f4,f5⟩:=hf it (by simp)
  refine wpAny_pyNext_list_item st p.isList (x:=u) (by simpa using hu) fun h' st' sb=>?_
  have I1:Inv X pins σ H { s with heap:=h' }:=I.turned (t':=s.toks) (fun b o hb e=>(sb.2 b hb).trans e) f0 f1 f3 f4 f5
  obtain ⟨o,e,c,d⟩:=id st'
  exact ⟨u,rfl,KD (s:={ s with heap:=h' }) e c d (by decide) ⟨x,H,I1,ru,⟨rfl,fun ys hy=>by rw [I.list_inj hy hq];exact hx⟩,st',fun b hb=>(hf b hb).1⟩⟩
 done:=by
  intro X hP hw hK hc i pins s σ H E I hf st hg
  subst hP hw hK
  obtain ⟨xs,hq,hx⟩:=hg
  obtain ⟨its,rv,p,hz⟩:=I.list hq
  obtain ⟨f0,f1,f2,f3,f4,f5⟩:=hf it (by simp)
  have hl:=rv.length
  exact wpAny_pyNext_list_end (I.ok.hd hc) st p.isList (by simp;omega) fun h' eb=>⟨rfl,I.turned (t':=s.toks) (fun b o hb e=>eb b o hb e) f0 f1 f3 f4 f5⟩
 self:=fun _ _ _ _ _ st h=>wpAny_pyIter_listiter st h
theorem Ax {P:Program} {w:World} {K:PySem.W.Frag} {tg:Expr} (it:Addr) (lo:Int) (n:Nat):nG P w K tg (Itr lo n) [it] it (fun i h=>IsRangeIter h it (lo + (i:Nat) * 1) ((n:Int) - (i:Nat)) 1) where
 mem:=by simp
 obj:=fun i h st b hb=>by
  have e:b=it:=by simpa using hb
  subst e
  exact ⟨_,st,fun v z=>by
   have z':Data.fields _=Data.cell v:=z
   cases z'⟩
 keep:=fun i h h' st k=>k it (by simp) _ st
 item:=by
  intro X hP hw hK hc i pins s σ H E I hf st hg
  subst hP hw hK
  obtain ⟨f0,f1,f2,f3,f4,f5⟩:=hf it (by simp)
  have W:=Walks.range (prog:=X.prog) (w:=X.w) (I.ok.hd hc) it lo 1 n
  refine W.item i s _ _ hg st fun v h' tk hv st' kk=>?_
  obtain ⟨t,rfl⟩:=hv
  have I1:Inv X pins σ H { s with heap:=h',toks:=tk }:=I.turned (fun b o hb e=>kk b o (by simpa using hb) e) f0 f1 f3 f4 f5
  refine ⟨_,rfl,KD (s:={ s with heap:=h',toks:=tk }) (n := "range_iterator") st' rfl rfl (by decide) ⟨.int (lo + i),H,I1,⟨t,?_⟩,⟨rfl,rfl⟩,st',fun b hb=>(hf b hb).1⟩⟩
  rw [Int.mul_one]
 done:=by
  intro X hP hw hK hc i pins s σ H E I hf st hg
  subst hP hw hK
  obtain ⟨f0,f1,f2,f3,f4,f5⟩:=hf it (by simp)
  exact wpAny_pyNext_range_end (I.ok.hd hc) st (by have:n ≤ i:=hg;omega) fun h' eb=>⟨rfl,I.turned (t':=s.toks) (fun b o hb e=>eb b o hb e) f0 f1 f3 f4 f5⟩
 self:=fun _ _ _ _ _ st h=>wpAny_pyIter_rangeiter st h
end L2
namespace L2
open PySem PySem.Spec PyProof.Rows
section
variable {X:Cx} {tg:Expr}
noncomputable def FK (K:PySem.W.Frag) (tl:TE):TI:=fun σ H R=>tl σ H fun x H1=>∃ a,x=.ref a∧(∃ xs,SqL K H1 a xs)∧R (Itl K a) H1
noncomputable def bN (K:PySem.W.Frag) (tl:TE):TI:=fun σ H R=>tl σ H fun x H1=>∃ a,x=.ref a∧(∃ xs,SqT K H1 a xs)∧R (Itt K a) H1
theorem Sd {l:Expr} {tl:TE} (hl:PE X l tl):PI X tg l (FK X.K tl):=by
 intro pins s σ H R I h
 refine thn (hl pins s σ H _ I h) fun v s1 ⟨x,H1,I1,r1,q1⟩=>?_
 obtain ⟨a,e,⟨xs,hq⟩,q⟩:=q1
 subst e
 cases r1
 obtain ⟨its,rv,p,hz⟩:=I1.list hq
 refine wpAny_pyIter_list p.isList ?_
 refine ⟨s1.heap.objs.size,[s1.heap.objs.size],_,_,H1,rfl,I1.kept (t':=s1.toks) fun b o e=>Heap.get?_push_of_some _ e,OA a _,⟨_,Heap.get?_push_size _ rfl,rfl,rfl⟩,fun b hb=>?_,q⟩
 have e:b=s1.heap.objs.size:=by simpa using hb
 subst e
 exact I1.fpOk (Nat.le_refl _) (I1.hok.fresh (Nat.le_refl _))
theorem kE {pins:List (Addr × Obj)} {σ:St} {H:Hp} {s:Shared} {R:It→Hp→Prop} {E:Value→Shared→Prop} {lo hi:Int} {t u v:Tok} {tk:Nat} (I:Inv X pins σ H s) (h1:-(2 ^ 62) ≤ lo) (h2:lo < 2 ^ 62) (h3:-(2 ^ 62) ≤ hi) (h4:hi < 2 ^ 62)
  (q:R (Itr lo (hi - lo).toNat) H):wpAny (model X.prog X.w) X.A (pyIter (.ref s.heap.objs.size)) (PIE X pins σ tg R) E { s with heap:=s.heap.push { cls:=.type "range",data:=.fields #[.int lo t,.int hi u,.int 1 v] },toks:=tk }:=by
 refine wpAny_pyIter_range (IsRange.new ..) (small_one h1 h2 h3 h4) ?_
 have I1:Inv X pins σ H { s with heap:=s.heap.push { cls:=.type "range",data:=.fields #[.int lo t,.int hi u,.int 1 v] },toks:=tk }:=I.kept fun b o e=>Heap.get?_push_of_some _ e
 refine ⟨(s.heap.push { cls:=.type "range",data:=.fields #[.int lo t,.int hi u,.int 1 v] }).objs.size,[(s.heap.push { cls:=.type "range",data:=.fields #[.int lo t,.int hi u,.int 1 v] }).objs.size],_,_,H,rfl,
  I1.kept (t':=tk) fun b o e=>Heap.get?_push_of_some _ e,Ax _ lo (hi - lo).toNat,?_,fun b hb=>?_,q⟩
 ·have e1:lo + ((0:Nat):Int) * 1=lo:=by simp
  have e2:(((hi - lo).toNat:Nat):Int) - ((0:Nat):Int)=Builtin.Range.rangeSize lo hi 1:=by rw [rangeSize_one];split <;> omega
  show IsRangeIter _ _ (lo + ((0:Nat):Int) * 1) ((((hi - lo).toNat:Nat):Int) - ((0:Nat):Int)) 1
  rw [e1,e2]
  exact Heap.get?_push_size _ rfl
 ·have e:b=(s.heap.push { cls:=.type "range",data:=.fields #[.int lo t,.int hi u,.int 1 v] }).objs.size:=by simpa using hb
  subst e
  exact I1.fpOk (Nat.le_refl _) (I1.hok.fresh (Nat.le_refl _))
noncomputable def uI (ta:TA):TI:=fun σ H R=>ta σ H fun vs H1=>∃ j:Int,vs=[.int j]∧-(2 ^ 62) ≤ j∧j < 2 ^ 62∧R (Itr 0 j.toNat) H1
noncomputable def BL (ta:TA):TI:=fun σ H R=>ta σ H fun vs H1=>∃ i j:Int,vs=[.int i,.int j]∧(-(2 ^ 62) ≤ i∧i < 2 ^ 62∧-(2 ^ 62) ≤ j∧j < 2 ^ 62)∧R (Itr i (j - i).toNat) H1
theorem Id {a:Expr} {ta:TA} {p pos:Pos} (hg:Gl X "range") (hm:X.mg "range"=none) (ha:PA X [a] ta) (hs:starEach [a] X.env=[(false,eval a X.env)]:=by rfl):PI X tg (.Call (.Name "range" p) [a] [] pos) (uI ta):=by
 intro pins s σ H R I h
 refine Call_ (ol I hg hm boot_range (PyProof.Rows.callWith_type1 (thn (ha pos pins s σ H _ I h) fun us s1 ⟨vs,H1,I1,r1,q1⟩=>?_) hs rfl))
 obtain ⟨j,e,q1,q2,q⟩:=q1
 subst e
 cases r1 with
 | cons r rr=>
  cases rr
  obtain ⟨t,rfl⟩:=r
  exact call_range_1 (kE I1 (by omega) (by omega) q1 q2 (by simpa using q))
noncomputable def UL (wi:TI) (g:TG) (tb:TS):TS:=fun D σ H=>wi σ H fun J H1=>∃ W:Nat→Nat→St→Hp→Prop,(∃ m,W 0 m σ H1)∧∀ i m σ H,W i m σ H →
 (J.stop i H∧D.nx σ H)∨(J.go i H∧∃ N:St→Hp→Prop,(∀ σ' H',N σ' H'→∃ m',m' < m∧W (i + 1) m' σ' H')∧∀ x H',J.yld i H x H'→g x σ H' fun σ2 H2=>tb { D with nx:=N,ct:=N,bk:=D.nx } σ2 H2)
noncomputable def ft (fp:List Addr) (h:Heap):List (Addr × Obj):=fp.filterMap fun b=>(h.get? b).map fun o=>(b,o)
theorem mj {fp:List Addr} {h:Heap} {b:Addr} {o:Obj} (hb:b ∈ fp) (e:h.get? b=some o):(b,o) ∈ ft fp h:=List.mem_filterMap.mpr ⟨b,hb,by rw [e];rfl⟩
theorem uA {fp:List Addr} {h:Heap} {p:Addr × Obj} (hp:p ∈ ft fp h):p.1 ∈ fp∧h.get? p.1=some p.2:=by
 obtain ⟨b,hb,e⟩:=List.mem_filterMap.mp hp
 cases q:h.get? b with
 | none=>rw [q] at e;cases e
 | some o=>
  rw [q] at e
  have e':(b,o)=p:=Option.some.inj e
  subst e'
  exact ⟨hb,q⟩
theorem Inv.pinned {pins:List (Addr × Obj)} {σ:St} {H:Hp} {s:Shared} {fp:List Addr} (I:Inv X pins σ H s) (hf:∀ b ∈ fp,Jt X pins H b) (ho:∀ b ∈ fp,∃ o,s.heap.get? b=some o∧∀ v,o.data ≠ .cell v):Inv X (pins ++ ft fp s.heap) σ H s:=
 I.pins_of fun p hp=>(List.mem_append.mp hp).elim (fun z=>I.pin p (List.mem_append_right _ z)) fun z=>by
  obtain ⟨hb,e⟩:=uA z
  obtain ⟨f0,f1,f2,_⟩:=hf p.1 hb
  obtain ⟨o,e',d⟩:=ho p.1 hb
  rw [e] at e';cases e'
  exact ⟨e,f0,f1,f2,d⟩
theorem Inv.unpinned {pins pl:List (Addr × Obj)} {σ:St} {H:Hp} {s:Shared} (I:Inv X (pins ++ pl) σ H s):Inv X pins σ H s:=I.pins_of fun p hp=>I.pin p (List.mem_append_right _ (List.mem_append_left _ hp))
theorem wd {iter:Expr} {body:List Stmt} {wi:TI} {g:TG} {tb:TS} {pos:Pos} (hp:PassesOwn (model X.prog X.w) X.A X.env X.xe) (hc:X.calm=true) (hi:PI X tg iter wi) (hg:PG X tg g) (hb:PSs X body tb)
  (hs:∀ x,foldedSetIterable iter X.env x=pure x:=by intro _;rfl):PS X (.For tg iter body [] pos) (UL wi g tb):=by
 intro pins s σ H D I h
 refine wpAny_For (thn (hi pins s σ H _ I h) fun v s1 h1=>thn h1 fun itv s2 h2=>?_) hs
 obtain ⟨it,fp,tn,J,H2,e,I2,T,st2,f2,W,⟨m0,w0⟩,turn⟩:=h2
 subst e
 -- what stays true of the iterator's objects through the loop
 have stat:∀ {H':Hp},(∀ b ∈ fp,H' b=none)→∀ b ∈ fp,Jt X pins H' b:=fun hn b hb=>⟨hn b hb,(f2 b hb).2⟩
 refine codeAny_forLoop_any (fun n s'=>∃ i σ' H',Inv X pins σ' H' s'∧tn i s'.heap∧(∀ b ∈ fp,H' b=none)∧W i n σ' H') ?_ m0 ⟨0,σ,H2,I2,st2,fun b hb=>(f2 b hb).1,w0⟩
 rintro n s3 ⟨i,σ3,H3,I3,st3,fr3,w3⟩
 rcases turn i n σ3 H3 w3 with ⟨stop,qn⟩ | ⟨go,N,hN,step⟩
 ·refine wpAny_passesOwn hp (thn (T.done X rfl rfl rfl hc i pins s3 σ3 H3 X.xe I3 (stat fr3) st3 stop) fun r s4 ⟨hr,I4⟩=>?_)
  subst hr
  exact wpAny_execs_nil ⟨σ3,H3,I4,qn⟩
 ·refine wpAny_passesOwn hp (thn (T.item X rfl rfl rfl hc i pins s3 σ3 H3 X.xe I3 (stat fr3) st3 go) fun r s4 ⟨u,hr,h4⟩=>?_)
  subst hr
  refine wpAny_passesOwn hp (thn h4 fun _ s5 ⟨x,H5,I5,r5,y5,st5,fr5⟩=>?_)
  have I5':=I5.pinned (stat fr5) (T.obj _ _ st5)
  refine wpAny_passesOwn hp (thn (hg _ s5 σ3 H5 x u _ I5' r5 (step x H5 y5)) fun _ s6 ⟨σ6,H6,I6,q6⟩=>?_)
  refine wpAny_passesOwn hp (thn (hb _ s6 σ6 H6 _ I6 q6) fun f s7 q7=>?_)
  have again:∀ {σ7:St} {H7:Hp},Inv X (pins ++ ft fp s5.heap) σ7 H7 s7→N σ7 H7→∃ m,m < n∧∃ i σ' H',Inv X pins σ' H' s7∧tn i s7.heap∧(∀ b ∈ fp,H' b=none)∧W i m σ' H':=fun {σ7 H7} I7 n7=>by
   obtain ⟨m',hm,w7⟩:=hN σ7 H7 n7
   refine ⟨m',hm,i + 1,σ7,H7,I7.unpinned,T.keep _ _ _ st5 fun b hb o e=>(I7.pin (b,o) (List.mem_append_right _ (List.mem_append_right _ (mj hb e)))).1,fun b hb=>?_,w7⟩
   obtain ⟨o,e,d⟩:=T.obj _ _ st5 b hb
   exact (I7.pin (b,o) (List.mem_append_right _ (List.mem_append_right _ (mj hb e)))).2.1
  cases f with
  | next=>obtain ⟨σ7,H7,I7,n7⟩:=q7;exact again I7 n7
  | cont=>obtain ⟨σ7,H7,I7,n7⟩:=q7;exact again I7 n7
  | brk=>obtain ⟨σ7,H7,I7,q7⟩:=q7;exact ⟨σ7,H7,I7.unpinned,q7⟩
  | ret v=>obtain ⟨x7,σ7,H7,I7,r7,q7⟩:=q7;exact ⟨x7,σ7,H7,I7.unpinned,r7,q7⟩
end
theorem OD {K:PySem.W.Frag} {a:Addr} {xs:List V} {g:TG} {tb:TS} {D:Uf} {σ:St} {H:Hp} (Pv:Nat→St→Hp→Prop) (h0:Pv 0 σ H) (hl:∀ i σ H,i ≤ xs.length→Pv i σ H→SqL K H a xs)
  (hs:∀ i x σ H,xs[i]? = some x→Pv i σ H→g x σ H fun σ2 H2=>tb { D with nx:=Pv (i + 1),ct:=Pv (i + 1),bk:=D.nx } σ2 H2) (hd:∀ σ H,Pv xs.length σ H→D.nx σ H) :
  ∃ W:Nat→Nat→St→Hp→Prop,(∃ m,W 0 m σ H)∧∀ i m σ H,W i m σ H →
   ((Itl K a).stop i H∧D.nx σ H)∨((Itl K a).go i H∧∃ N:St→Hp→Prop,(∀ σ' H',N σ' H'→∃ m',m' < m∧W (i + 1) m' σ' H')∧∀ x H',(Itl K a).yld i H x H'→g x σ H' fun σ2 H2=>tb { D with nx:=N,ct:=N,bk:=D.nx } σ2 H2):=by
 refine ⟨fun i m σ H=>m=xs.length - i∧i ≤ xs.length∧Pv i σ H,⟨xs.length,by simp,Nat.zero_le _,h0⟩,?_⟩
 rintro i m σ H ⟨rfl,hi,p⟩
 have q:=hl i σ H hi p
 by_cases hlt:i < xs.length
 ·refine .inr ⟨⟨xs,xs[i],q,by simp [hlt]⟩,Pv (i + 1),fun σ' H' p'=>⟨xs.length - (i + 1),by omega,rfl,hlt,p'⟩,fun x H' y=>?_⟩
  obtain ⟨e,y⟩:=y
  subst e
  exact hs i x σ _ (y xs q) p
 ·have e:i=xs.length:=by omega
  subst e
  exact .inl ⟨⟨xs,q,Nat.le_refl _⟩,hd σ H p⟩
theorem az {lo:Int} {n:Nat} {g:TG} {tb:TS} {D:Uf} {σ:St} {H:Hp} (Pv:Nat→St→Hp→Prop) (h0:Pv 0 σ H)
  (hs:∀ i σ H,i < n→Pv i σ H→g (.int (lo + i)) σ H fun σ2 H2=>tb { D with nx:=Pv (i + 1),ct:=Pv (i + 1),bk:=D.nx } σ2 H2) (hd:∀ σ H,Pv n σ H→D.nx σ H) :
  ∃ W:Nat→Nat→St→Hp→Prop,(∃ m,W 0 m σ H)∧∀ i m σ H,W i m σ H →
   ((Itr lo n).stop i H∧D.nx σ H)∨((Itr lo n).go i H∧∃ N:St→Hp→Prop,(∀ σ' H',N σ' H'→∃ m',m' < m∧W (i + 1) m' σ' H')∧∀ x H',(Itr lo n).yld i H x H'→g x σ H' fun σ2 H2=>tb { D with nx:=N,ct:=N,bk:=D.nx } σ2 H2):=by
 refine ⟨fun i m σ H=>m=n - i∧i ≤ n∧Pv i σ H,⟨n,by simp,Nat.zero_le _,h0⟩,?_⟩
 rintro i m σ H ⟨rfl,hi,p⟩
 by_cases hlt:i < n
 ·refine .inr ⟨hlt,Pv (i + 1),fun σ' H' p'=>⟨n - (i + 1),by omega,rfl,hlt,p'⟩,fun x H' y=>?_⟩
  obtain ⟨e,y⟩:=y
  subst e y
  exact hs i σ _ hlt p
 ·have e:i=n:=by omega
  subst e
  exact .inl ⟨Nat.le_refl _,hd σ H p⟩
end L2
namespace L2
open PySem PySem.Spec PyProof.Rows
noncomputable abbrev R2:=V→V→Hp→VK→Prop
noncomputable def OpR (X:Cx) (f:Value→Value→Sem Value) (r:R2):Prop:=
 ∀ (pins:List (Addr × Obj)) (s:Shared) (σ:St) (H:Hp) (x y:V) (v u:Value) (Q:VK),Inv X pins σ H s→Zc x v→Zc y u→r x y H Q →
  wpAny (model X.prog X.w) X.A (f v u) (EP X pins σ Q) X.xe s
noncomputable def UnR (X:Cx) (f:Value→Sem Value) (r:V→Hp→VK→Prop):Prop:=
 ∀ (pins:List (Addr × Obj)) (s:Shared) (σ:St) (H:Hp) (x:V) (v:Value) (Q:VK),Inv X pins σ H s→Zc x v→r x H Q →
  wpAny (model X.prog X.w) X.A (f v) (EP X pins σ Q) X.xe s
noncomputable def Rn (X:Cx) (f:Value) (r:List V→Hp→VK→Prop):Prop:=
 ∀ (pins:List (Addr × Obj)) (s:Shared) (σ:St) (H:Hp) (xs:List V) (us:List Value) (Q:VK),Inv X pins σ H s→Kc xs us→r xs H Q →
  wpAny (model X.prog X.w) X.A (call f us) (EP X pins σ Q) X.xe s
noncomputable def xM (X:Cx) (r:V→Hp→(Bool→Hp→Prop)→Prop):Prop:=
 ∀ (pins:List (Addr × Obj)) (s:Shared) (σ:St) (H:Hp) (x:V) (v:Value) (Q:Bool→Hp→Prop),Inv X pins σ H s→Zc x v→r x H Q →
  wpAny (model X.prog X.w) X.A (truthy v) (TP X pins σ Q) X.xe s
noncomputable def tOp (r:R2) (ta tb:TE):TE:=fun σ H Q=>ta σ H fun x H1=>tb σ H1 fun y H2=>r x y H2 Q
noncomputable def tUn (r:V→Hp→VK→Prop) (ta:TE):TE:=fun σ H Q=>ta σ H fun x H1=>r x H1 Q
noncomputable def rI (C:Int→Int→Prop) (g:Int→Int→V):R2:=fun x y H Q=>∃ i j,x=.int i∧y=.int j∧C i j∧Q (g i j) H
noncomputable def rI0 (g:Int→Int→V):R2:=fun x y H Q=>∃ i j,x=.int i∧y=.int j∧Q (g i j) H
noncomputable def rU (g:Int→V):V→Hp→VK→Prop:=fun x H Q=>∃ i,x=.int i∧Q (g i) H
section
variable {X:Cx} {a b c:Expr} {ta tb tc:TE} {pos:Pos}
theorem wL (ha:PE X a ta) (hb:PE X b tb) {pins:List (Addr × Obj)} {s:Shared} {σ:St} {H:Hp} {R:V→V→Hp→Prop} (I:Inv X pins σ H s)
  (h:ta σ H fun x H1=>tb σ H1 fun y H2=>R x y H2) {Q:Value→Shared→Prop} {f:Value→Value→Sem Value}
  (hf:∀ v u s2 x y H2,Inv X pins σ H2 s2→Zc x v→Zc y u→R x y H2→wpAny (model X.prog X.w) X.A (f v u) Q X.xe s2) :
  wpAny (model X.prog X.w) X.A (eval a X.env) (fun v s₁=>wpAny (model X.prog X.w) X.A (eval b X.env) (fun u s₂=>wpAny (model X.prog X.w) X.A (f v u) Q X.xe s₂) X.xe s₁) X.xe s:=by
 refine thn (ha pins s σ H _ I h) fun v s1 ⟨x,H1,I1,r1,q1⟩=>?_
 refine thn (hb pins s1 σ H1 _ I1 q1) fun u s2 ⟨y,H2,I2,r2,q2⟩=>?_
 exact hf v u s2 x y H2 I2 r1 r2 q2
theorem Ib {op:Operator} {r:R2} (ho:OpR X (binaryOp op) r) (ha:PE X a ta) (hb:PE X b tb):PE X (.BinOp a op b pos) (tOp r ta tb):=by
 intro pins s σ H Q I h
 exact wpAny_BinOp (wL ha hb I h fun v u s2 x y H2 I2 rx ry q=>ho pins s2 σ H2 x y v u Q I2 rx ry q)
theorem TD {op:UnaryOp} {r:V→Hp→VK→Prop} (ho:UnR X (unaryOp op) r) (ha:PE X a ta):PE X (.UnaryOp op a pos) (tUn r ta):=by
 intro pins s σ H Q I h
 exact UnaryOp_ (thn (ha pins s σ H _ I h) fun v s1 ⟨x,H1,I1,r1,q1⟩=>ho pins s1 σ H1 x v Q I1 r1 q1)
theorem opI {f:Value→Value→Sem Value} {C:Int→Int→Prop} {g:Int→Int→Int}
  (rule:∀ (i j:Int) (t u:Tok) (s:Shared) (Q:Value→Shared→Prop) (E:Value→Shared→Prop),C i j→Q (.int (g i j) s.toks) { s with toks:=s.toks + 1 }→wpAny (model X.prog X.w) X.A (f (.int i t) (.int j u)) Q E s) :
  OpR X f (rI C fun i j=>.int (g i j)):=by
 intro pins s σ H x y v u Q I rx ry h
 obtain ⟨i,j,rfl,rfl,hc,q⟩:=h
 obtain ⟨t,rfl⟩:=rx
 obtain ⟨t',rfl⟩:=ry
 exact rule i j t t' s _ _ hc ⟨.int (g i j),H,I.tok _,⟨_,rfl⟩,q⟩
theorem pM {f:Value→Value→Sem Value} {g:Int→Int→Int}
  (rule:∀ (i j:Int) (t u:Tok) (s:Shared) (Q:Value→Shared→Prop) (E:Value→Shared→Prop),Q (.int (g i j) s.toks) { s with toks:=s.toks + 1 }→wpAny (model X.prog X.w) X.A (f (.int i t) (.int j u)) Q E s) :
  OpR X f (rI0 fun i j=>.int (g i j)):=by
 intro pins s σ H x y v u Q I rx ry h
 obtain ⟨i,j,rfl,rfl,q⟩:=h
 obtain ⟨t,rfl⟩:=rx
 obtain ⟨t',rfl⟩:=ry
 exact rule i j t t' s _ _ ⟨.int (g i j),H,I.tok _,⟨_,rfl⟩,q⟩
theorem SK {f:Value→Value→Sem Value} {g:Int→Int→Bool}
  (rule:∀ (i j:Int) (t u:Tok) (s:Shared) (Q:Value→Shared→Prop) (E:Value→Shared→Prop),Q (.bool (g i j)) s→wpAny (model X.prog X.w) X.A (f (.int i t) (.int j u)) Q E s) :
  OpR X f (rI0 fun i j=>.bl (g i j)):=by
 intro pins s σ H x y v u Q I rx ry h
 obtain ⟨i,j,rfl,rfl,q⟩:=h
 obtain ⟨t,rfl⟩:=rx
 obtain ⟨t',rfl⟩:=ry
 exact rule i j t t' s _ _ ⟨.bl (g i j),H,I,rfl,q⟩
noncomputable def uM (i j:Int):Prop:=0 < j∧j < 1073741824
noncomputable def JM (i j:Int):Prop:=0 ≤ j∧j ≤ 1000000∧i.natAbs < 2 ^ 64
noncomputable def wE (i j:Int):Prop:=(-(2 ^ 64) < i∧i < 2 ^ 64)∨(-(2 ^ 64) < j∧j < 2 ^ 64)
theorem wE.ok {i j:Int} (h:wE i j):IntMulOk i j:=by
 rcases h with ⟨h1,h2⟩ | ⟨h1,h2⟩
 ·exact .of_left (intBits_le_64 h1 h2)
 ·exact .of_right (intBits_le_64 h1 h2)
theorem kd:OpR X (binaryOp .Add) (rI0 fun i j=>.int (i + j)):=pM fun _ _ _ _ _ _ _ q=>add_int q
theorem uh:OpR X (binaryOp .Sub) (rI0 fun i j=>.int (i - j)):=pM fun _ _ _ _ _ _ _ q=>sub_int q
theorem Nm:OpR X (binaryOp .Mult) (rI wE fun i j=>.int (i * j)):=opI fun _ _ _ _ _ _ _ hc q=>mul_int q hc.ok
theorem xz:OpR X (binaryOp .FloorDiv) (rI uM fun i j=>.int (i / j)):=opI fun i j _ _ _ _ _ hc q=>by
 have h1:(0:Int) < j:=hc.1
 have h2:j < 1073741824:=hc.2
 exact floordiv_int (by omega) (by rw [Int.fdiv_eq_ediv_of_nonneg i (by omega)];exact q) (.inl (PyProof.noPylong_small (by omega)))
theorem Ae:OpR X (binaryOp .Mod) (rI (fun _ j=>0 < j) fun i j=>.int (i % j)):=opI fun i j _ _ _ _ _ hc q=>by
 have h1:(0:Int) < j:=hc
 exact mod_int' (by omega) (by rw [Int.fmod_eq_emod_of_nonneg i (by omega)];exact q)
theorem lK:OpR X (binaryOp .Pow) (rI JM fun i j=>.int (i ^ j.toNat)):=opI fun _ _ _ _ _ _ _ hc q=>pow_int_small hc.1 hc.2.1 hc.2.2 q
theorem unI {f:Value→Sem Value} {g:Int→Int}
  (rule:∀ (i:Int) (t:Tok) (s:Shared) (Q:Value→Shared→Prop) (E:Value→Shared→Prop),Q (.int (g i) s.toks) { s with toks:=s.toks + 1 }→wpAny (model X.prog X.w) X.A (f (.int i t)) Q E s) :
  UnR X f (rU fun i=>.int (g i)):=by
 intro pins s σ H x v Q I rx h
 obtain ⟨i,rfl,q⟩:=h
 obtain ⟨t,rfl⟩:=rx
 exact rule i t s _ _ ⟨.int (g i),H,I.tok _,⟨_,rfl⟩,q⟩
theorem bw:UnR X (unaryOp .USub) (rU fun i=>.int (-i)):=unI fun _ _ _ _ _ q=>neg_int q
end
noncomputable def HI:V→V→Bool
 | .non,.non=>true | .non,.int _=>true | .int _,.non=>true | .non,.bl _=>true | .bl _,.non=>true | .non,.str _=>true | .str _,.non=>true
 | .int _,.int _=>true | .bl _,.bl _=>true | .str _,.str _=>true | .byt _,.byt _=>true
 | .int _,.str _=>true | .str _,.int _=>true | .bl _,.str _=>true | .str _,.bl _=>true
 | _,_=>false
noncomputable def rEq:R2:=fun x y H Q=>HI x y=true∧Q (.bl (decide (x=y))) H
noncomputable def rNe:R2:=fun x y H Q=>HI x y=true∧Q (.bl (!decide (x=y))) H
theorem NB {i j:Int}:decide (V.int i=V.int j)=(i == j):=by
 rw [Bool.eq_iff_iff]
 simp
theorem dF {i j:Bool}:decide (V.bl i=V.bl j)=(i == j):=by
 rw [Bool.eq_iff_iff]
 simp
theorem iA {i j:Str}:decide (V.str i=V.str j)=(i == j):=by
 rw [Bool.eq_iff_iff]
 simp
theorem KB {i j:Array UInt8}:decide (V.byt i=V.byt j)=(i.toList == j.toList):=by
 rw [Bool.eq_iff_iff]
 cases i
 cases j
 simp
section
variable {X:Cx} {a b c:Expr} {ta tb tc:TE} {pos:Pos}
theorem Ic {pins:List (Addr × Obj)} {σ:St} {H:Hp} {s:Shared} {Q:VK} {k k':Bool} (I:Inv X pins σ H s) (q:Q (.bl k) H) (e:k=k'):EP X pins σ Q (.bool k') s:=by
 subst e
 exact ⟨.bl k,H,I,rfl,q⟩
theorem Di:OpR X (compareOp .Eq) rEq:=by
 intro pins s σ H x y v u Q I rx ry h
 obtain ⟨hs,q⟩:=h
 cases x with
 | non=>
  cases rx
  cases y with
  | non=>cases ry;exact PySem.EqNone.eq_none_none (Ic I q (by simp))
  | bl j=>cases ry;exact PySem.EqNone.eq_none_bool (Ic I q (by simp))
  | int j=>obtain ⟨t',rfl⟩:=ry;exact PySem.EqNone.eq_none_int (Ic I q (by simp))
  | str j=>obtain ⟨t',rfl⟩:=ry;exact PySem.EqNone.eq_none_str (Ic I q (by simp))
  | _=>exact absurd (show false=true from hs) Bool.false_ne_true
 | bl i=>
  cases rx
  cases y with
  | non=>cases ry;exact PySem.EqNone.eq_bool_none (Ic I q (by simp))
  | bl j=>cases ry;exact eq_bool (Ic I q dF)
  | str j=>obtain ⟨t',rfl⟩:=ry;exact PySem.EqMixed.eq_bool_str (Ic I q (by simp))
  | _=>exact absurd (show false=true from hs) Bool.false_ne_true
 | int i=>
  obtain ⟨t,rfl⟩:=rx
  cases y with
  | non=>cases ry;exact PySem.EqNone.eq_int_none (Ic I q (by simp))
  | int j=>obtain ⟨t',rfl⟩:=ry;exact eq_int (Ic I q NB)
  | str j=>obtain ⟨t',rfl⟩:=ry;exact PySem.EqMixed.eq_int_str (Ic I q (by simp))
  | _=>exact absurd (show false=true from hs) Bool.false_ne_true
 | str i=>
  obtain ⟨t,rfl⟩:=rx
  cases y with
  | non=>cases ry;exact PySem.EqNone.eq_str_none (Ic I q (by simp))
  | bl j=>cases ry;exact PySem.EqMixed.eq_str_bool (Ic I q (by simp))
  | int j=>obtain ⟨t',rfl⟩:=ry;exact PySem.EqMixed.eq_str_int (Ic I q (by simp))
  | str j=>obtain ⟨t',rfl⟩:=ry;exact eq_str (Ic I q iA)
  | _=>exact absurd (show false=true from hs) Bool.false_ne_true
 | byt i=>
  obtain ⟨t,rfl⟩:=rx
  cases y with
  | byt j=>obtain ⟨t',rfl⟩:=ry;exact PySem.W.eq_bytes (Ic I q KB)
  | _=>exact absurd (show false=true from hs) Bool.false_ne_true
 | _=>cases y <;> exact absurd (show false=true from hs) Bool.false_ne_true
theorem dA:OpR X (compareOp .NotEq) rNe:=by
 intro pins s σ H x y v u Q I rx ry h
 obtain ⟨hs,q⟩:=h
 cases x with
 | non=>
  cases rx
  cases y with
  | non=>cases ry;exact PySem.EqNone.ne_none_none (Ic I q (by simp))
  | bl j=>cases ry;exact PySem.EqNone.ne_none_bool (Ic I q (by simp))
  | int j=>obtain ⟨t',rfl⟩:=ry;exact PySem.EqNone.ne_none_int (Ic I q (by simp))
  | str j=>obtain ⟨t',rfl⟩:=ry;exact PySem.EqNone.ne_none_str (Ic I q (by simp))
  | _=>exact absurd (show false=true from hs) Bool.false_ne_true
 | bl i=>
  cases rx
  cases y with
  | non=>cases ry;exact PySem.EqNone.ne_bool_none (Ic I q (by simp))
  | bl j=>cases ry;exact ne_bool (Ic I q (congrArg not dF))
  | str j=>obtain ⟨t',rfl⟩:=ry;exact PySem.EqMixed.ne_bool_str (Ic I q (by simp))
  | _=>exact absurd (show false=true from hs) Bool.false_ne_true
 | int i=>
  obtain ⟨t,rfl⟩:=rx
  cases y with
  | non=>cases ry;exact PySem.EqNone.ne_int_none (Ic I q (by simp))
  | int j=>obtain ⟨t',rfl⟩:=ry;exact ne_int (Ic I q (congrArg not NB))
  | str j=>obtain ⟨t',rfl⟩:=ry;exact PySem.EqMixed.ne_int_str (Ic I q (by simp))
  | _=>exact absurd (show false=true from hs) Bool.false_ne_true
 | str i=>
  obtain ⟨t,rfl⟩:=rx
  cases y with
  | non=>cases ry;exact PySem.EqNone.ne_str_none (Ic I q (by simp))
  | bl j=>cases ry;exact PySem.EqMixed.ne_str_bool (Ic I q (by simp))
  | int j=>obtain ⟨t',rfl⟩:=ry;exact PySem.EqMixed.ne_str_int (Ic I q (by simp))
  | str j=>obtain ⟨t',rfl⟩:=ry;exact ne_str (Ic I q (congrArg not iA))
  | _=>exact absurd (show false=true from hs) Bool.false_ne_true
 | byt i=>
  obtain ⟨t,rfl⟩:=rx
  cases y with
  | byt j=>obtain ⟨t',rfl⟩:=ry;exact PySem.W.ne_bytes (Ic I q (congrArg not KB))
  | _=>exact absurd (show false=true from hs) Bool.false_ne_true
 | _=>cases y <;> exact absurd (show false=true from hs) Bool.false_ne_true
theorem bu:OpR X (compareOp .Lt) (rI0 fun i j=>.bl (decide (i < j))):=SK fun _ _ _ _ _ _ _ q=>lt_int q
theorem fL:OpR X (compareOp .LtE) (rI0 fun i j=>.bl (decide (i ≤ j))):=SK fun _ _ _ _ _ _ _ q=>le_int q
theorem Oy:OpR X (compareOp .Gt) (rI0 fun i j=>.bl (decide (j < i))):=SK fun _ _ _ _ _ _ _ q=>gt_int q
theorem mL:OpR X (compareOp .GtE) (rI0 fun i j=>.bl (decide (j ≤ i))):=SK fun _ _ _ _ _ _ _ q=>ge_int q
theorem Ny:OpR X (compareOp .In) (fun x y H Q=>∃ i j,x=.str i∧y=.str j∧Q (.bl (!(Builtin.Str.occurrences j i 0 j.length 1).isEmpty)) H):=by
 intro pins s σ H x y v u Q I rx ry h
 obtain ⟨i,j,rfl,rfl,q⟩:=h
 obtain ⟨t,rfl⟩:=rx
 obtain ⟨t',rfl⟩:=ry
 exact in_str (Ic I q rfl)
theorem HF:OpR X (compareOp .IsNot) (fun x y H Q=>y=.non∧Q (.bl (!decide (x=.non))) H):=by
 intro pins s σ H x y v u Q I rx ry h
 obtain ⟨rfl,q⟩:=h
 cases ry
 refine isnot_none_gen (Ic I q ?_)
 cases x <;> first
  | (cases rx;rfl)
  | (obtain ⟨t,rfl⟩:=rx;rfl)
theorem dc (b:Expr) {op:CmpOp} (h:op ≠ .In:=by decide) (h2:op ≠ .NotIn:=by decide):behindInMarks op b=false:=by
 have e1:(op == CmpOp.In)=false:=by cases op <;> first | rfl | exact absurd rfl h
 have e2:(op == CmpOp.NotIn)=false:=by cases op <;> first | rfl | exact absurd rfl h2
 cases b <;> simp [behindInMarks,e1,e2]
theorem Ke {op:CmpOp} {r:R2} (ho:OpR X (compareOp op) r) (ha:PE X a ta) (hb:PE X b tb) (hm:behindInMarks op b=false):PE X (.Compare a [op] [b] pos) (tOp r ta tb):=by
 intro pins s σ H Q I h
 exact wpAny_Compare1 (wL ha hb I h fun v u s2 x y H2 I2 rx ry q=>ho pins s2 σ H2 x y v u Q I2 rx ry q) hm
noncomputable def qI (t:TE):TT:=fun σ H Q=>t σ H fun x H'=>∃ k,x=.bl k∧Q k H'
theorem Xb {op:CmpOp} {r:R2} (ho:OpR X (compareOp op) r) (ha:PE X a ta) (hb:PE X b tb) (hm:behindInMarks op b=false):PT X (.Compare a [op] [b] pos) (qI (tOp r ta tb)):=by
 intro pins s σ H Q I h
 refine wpAny_isTrue_Compare1 (thn (ha pins s σ H _ I h) fun v s1 ⟨x,H1,I1,r1,q1⟩=>thn (hb pins s1 σ H1 _ I1 q1) fun u s2 ⟨y,H2,I2,r2,q2⟩=>
  thn (ho pins s2 σ H2 x y v u _ I2 r1 r2 q2) fun c s3 ⟨z,H3,I3,r3,k,e,q3⟩=>?_) hm
 subst e
 cases r3
 exact wpAny_truthy_bool ⟨H3,I3,q3⟩
noncomputable def jJ (r r':R2) (ta tb tc:TE):TE:=fun σ H Q=>ta σ H fun x H1=>tb σ H1 fun y H2=>r x y H2 fun z H3=>∃ k,z=.bl k ∧
 (if k=true then tc σ H3 fun w' H4=>r' y w' H4 Q else Q (.bl false) H3)
noncomputable def dM (K:PySem.W.Frag) (x:V) (H:Hp) (k:Bool):Prop:=
 match x with
 | .non=>k=false
 | .bl b=>k=b
 | .int i=>k=(i != 0)
 | .str y=>y.length ≤ sizeLine∧k=((y.length:Int) != 0)
 | .byt y=>y.size ≤ sizeLine∧k=((y.size:Int) != 0)
 | .ref p=>(∃ xs,SqL K H p xs∧k = !xs.isEmpty)∨(∃ xs,SqT K H p xs∧k = !xs.isEmpty)∨∃ kvs,H p=some (.dK kvs)∧k = !kvs.isEmpty
 | _=>False
theorem Tx {κ:Type} {kvs:List (κ × V)} {vs:List (κ × Value)} (r:KV kvs vs):(!vs.isEmpty) = !kvs.isEmpty:=by
 cases r <;> rfl
theorem Wq {xs:List V} {its:List Value} (r:Kc xs its):(!its.toArray.isEmpty) = !xs.isEmpty:=by
 cases r <;> simp
theorem Fo:(sizeLine:Nat) < 2 ^ 63:=by rw [sizeLine_eq];decide
theorem GJ:xM X (fun x H Q=>∃ k,dM X.K x H k∧Q k H):=by
 intro pins s σ H x v Q I rx h
 obtain ⟨k,e,q⟩:=h
 have hl:=Fo
 have hs:sizeLine=16777216:=sizeLine_eq
 cases x with
 | non=>
  cases rx
  have e':k=false:=e
  subst e'
  exact truthy_none ⟨H,I,q⟩
 | bl b=>
  cases rx
  have e':k=b:=e
  subst e'
  exact wpAny_truthy_bool ⟨H,I,q⟩
 | int i=>
  obtain ⟨t,rfl⟩:=rx
  have e':k=(i != 0):=e
  subst e'
  exact PySem.P.truthy_int ⟨H,I,q⟩
 | str y=>
  obtain ⟨t,rfl⟩:=rx
  obtain ⟨hy,e'⟩:y.length ≤ sizeLine∧k=((y.length:Int) != 0):=e
  subst e'
  exact PySem.P.truthy_str (by omega) ⟨H,I.tok _,q⟩
 | byt y=>
  obtain ⟨t,rfl⟩:=rx
  obtain ⟨hy,e'⟩:y.size ≤ sizeLine∧k=((y.size:Int) != 0):=e
  subst e'
  exact PySem.W.truthy_bytes (by omega) ⟨H,I.tok _,q⟩
 | ref p=>
  cases rx
  have e':(∃ xs,SqL X.K H p xs∧k = !xs.isEmpty)∨(∃ xs,SqT X.K H p xs∧k = !xs.isEmpty)∨∃ kvs,H p=some (.dK kvs)∧k = !kvs.isEmpty:=e
  rcases e' with ⟨xs,hx,e'⟩ | ⟨xs,hx,e'⟩ | ⟨kvs,hx,e'⟩
  ·subst e'
   obtain ⟨its,r,pl,hz⟩:=I.list hx
   have hlen:=r.length
   exact wpAny_truthy_list pl.isList (by simp only [List.size_toArray];omega) ⟨H,I.tok _,by rw [Wq r];exact q⟩
  ·subst e'
   obtain ⟨its,r,pl,hz⟩:=I.tuple hx
   have hlen:=r.length
   exact truthy_tuple pl (by simp only [List.size_toArray];omega) ⟨H,I.tok _,by rw [Wq r];exact q⟩
  ·subst e'
   obtain ⟨hz,hS,vs,r,m⟩:kvs.length ≤ sizeLine∧(p == sysModules)=false∧∃ vs,KV kvs vs∧s.heap.DictOf (Ie X.prog X.w) p vs:=I.hok p _ hx
   have hlen:kvs.length=vs.length:=Paired.length r
   exact wpAny_truthy_dict hS m (by omega) ⟨H,I.tok _,by rw [Tx r];exact q⟩
 | _=>exact (show False from e).elim
theorem qw (ha:PE X a ta) (he:∀ whole,isTrue a X.env whole=(do let v ← whole;standAt a.pos;holding [v] (truthy v))) :
  PT X a (fun σ H Q=>ta σ H fun x H'=>∃ k,dM X.K x H' k∧Q k H'):=by
 intro pins s σ H Q I h
 exact isTrue_plain (thn (ha pins s σ H _ I h) fun v s1 ⟨x,H1,I1,r1,q1⟩=>GJ pins s1 σ H1 x v Q I1 r1 q1) (he _)
theorem Dd:OpR X (binaryOp .Add) (fun x y H Q=>∃ i j,x=.str i∧y=.str j∧i.length + j.length ≤ sizeLine∧Q (.str (i ++ j)) H):=by
 intro pins s σ H x y v u Q I rx ry h
 obtain ⟨i,j,rfl,rfl,hz,q⟩:=h
 obtain ⟨t,rfl⟩:=rx
 obtain ⟨t',rfl⟩:=ry
 exact add_str (fun t' tk=>⟨.str (i ++ j),H,I.tok _,⟨_,rfl⟩,q⟩) hz
theorem zu {x:V} {us:List Value} (r:Kc [x] us):∃ u,us=[u]∧Zc x u:=by
 cases r with
 | cons r1 r2=>cases r2;exact ⟨_,rfl,r1⟩
theorem dE {x y:V} {us:List Value} (r:Kc [x,y] us):∃ u w',us=[u,w']∧Zc x u∧Zc y w':=by
 cases r with
 | cons r1 r2=>
  cases r2 with
  | cons r3 r4=>cases r4;exact ⟨_,_,rfl,r1,r3⟩
theorem lu (hc:X.calm=true):Rn X (.builtin "max") (fun xs H Q=>∃ i j,xs=[.int i,.int j]∧Q (.int (if j > i then j else i)) H):=by
 intro pins s σ H xs us Q I r h
 obtain ⟨i,j,rfl,q⟩:=h
 obtain ⟨u,w',rfl,⟨t,rfl⟩,⟨t',rfl⟩⟩:=dE r
 refine max_two_ints (I.ok.hd hc) fun h' tk k=>⟨_,H,I.kept k,?_,q⟩
 by_cases hj:j > i
 ·rw [if_pos hj,if_pos hj];exact ⟨_,rfl⟩
 ·rw [if_neg hj,if_neg hj];exact ⟨_,rfl⟩
theorem vt (hc:X.calm=true):Rn X (.builtin "min") (fun xs H Q=>∃ i j,xs=[.int i,.int j]∧Q (.int (if j < i then j else i)) H):=by
 intro pins s σ H xs us Q I r h
 obtain ⟨i,j,rfl,q⟩:=h
 obtain ⟨u,w',rfl,⟨t,rfl⟩,⟨t',rfl⟩⟩:=dE r
 refine min_two_ints (I.ok.hd hc) fun h' tk k=>⟨_,H,I.kept k,?_,q⟩
 by_cases hj:j < i
 ·rw [if_pos hj,if_pos hj];exact ⟨_,rfl⟩
 ·rw [if_neg hj,if_neg hj];exact ⟨_,rfl⟩
theorem Gi:Rn X (.type "str") (fun xs H Q=>∃ i,xs=[.int i]∧i.natAbs.log2 < 1920∧Q (.str (toString i)) H):=by
 intro pins s σ H xs us Q I r h
 obtain ⟨i,rfl,hz,q⟩:=h
 obtain ⟨u,rfl,t,rfl⟩:=zu r
 exact PySem.P.str_of_int hz ⟨.str _,H,I.tok _,⟨_,rfl⟩,q⟩
end
end L2
namespace L2
open PySem PySem.Spec PyProof.Rows
structure mH (h:Heap) (x dx C:Addr) (mA:Str→Option Value):Prop where
 obj:h.get? x=some (PySem.W.instObj C dx)
 ns:h.Ns1 dx mA
 ne:dx ≠ x
theorem Io {h:Heap} {dx:Addr} {mA:Str→Option Value} (n:h.Ns1 dx mA):∃ od,h.get? dx=some od∧∀ name,PySem.W.lookIn name od=some (mA name):=by
 obtain ⟨o,es,ep,ho,hd,hk,_,hm⟩:=n
 refine ⟨o,ho,fun name=>?_⟩
 have e:=hm name
 unfold nsFind findBy at e
 rw [← Array.find?_toList] at e
 unfold PySem.W.lookIn
 rw [hd]
 dsimp only
 split
 ·rename_i y q
  rw [q] at e
  exact congrArg some e
 ·rename_i q
  rw [q] at e
  have a:es.toList.any (·.refKey)=false:=by
   rw [List.any_eq_false]
   intro y hy
   obtain ⟨z,t,hkey⟩:=hk y (Array.mem_toList_iff.mp hy)
   simp [DictEntry.refKey,hkey]
  have a':¬ es.toList.any (·.refKey)=true:=by rw [a];exact Bool.false_ne_true
  rw [if_neg a']
  exact congrArg some e
theorem mH.look {h:Heap} {x dx C:Addr} {mA:Str→Option Value} (I:mH h x dx C mA):∃ od,PySem.W.InstAt h x (PySem.W.instObj C dx) C (some od)∧∀ name,PySem.W.lookIn name od=some (mA name):=
 let ⟨od,ho,hl⟩:=Io I.ns
 ⟨od,⟨I.obj,rfl,rfl,ho⟩,hl⟩
section
variable {prog:Program} {w:World} {A:Around} {E:Value→Shared→Prop} {s:Shared} {K:PySem.W.Frag} {x dx C f:Addr} {mA:Str→Option Value} {name:Str} {v:Value}
theorem TH {expr:Bool} {Q:Value→Shared→Prop} (X:K.In s.heap) (I:mH s.heap x dx C mA) (hg:PySem.W.plainGet K C name=true) (hh:PySem.W.hasDictIn K C=true)
  (ha:PySem.W.findIn K (.ref C) name=some none) (hv:mA name=some v) (hv':PySem.W.handedIn v=true) (h:Q v { s with toks:=s.toks + 1 }) :
  wpAny (model prog w) A (getAttr (.ref x) name expr) Q E s:=by
 obtain ⟨od,J,hl⟩:=I.look
 exact PySem.W.get_value X J (PySem.W.plainGet_of hg).1 (PySem.W.findObj_own hh ha rfl (by rw [hl,hv])) hv' h
theorem ZC {pl:Sem Bool} {Q:Value × List Value→Shared→Prop} (X:K.In s.heap) (I:mH s.heap x dx C mA) (hg:PySem.W.plainGet K C name=true)
  (hf:PySem.W.findIn K (.ref C) name=some (some (.ref f))) (ht:PySem.W.isFn K (.ref f)=true) (hv:mA name=none) (h:Q (.ref f,[.ref x]) s) :
  wpAny (model prog w) A (getMethod (.ref x) name pl) Q E s:=by
 obtain ⟨od,J,hl⟩:=I.look
 exact PySem.W.method_fn X J (PySem.W.plainGet_of hg).1 (PySem.W.plainGet_of hg).2 hf (beq_iff_eq.mp ht) (by show (PySem.W.lookIn name od).map (·.isSome)=some false;rw [hl,hv];rfl) h
theorem LG {ns:List Str} {Q:Unit→Shared→Prop} (X:K.In s.heap) (I:mH s.heap x dx C mA)
  (hs:PySem.W.findIn K (.ref C) "__setattr__"=some (some (.builtin "object.__setattr__"))) (hp:PySem.W.plainOver K C=true) (ht:PySem.W.takerIn K C name=some none) (hh:PySem.W.hasDictIn K C=true)
  (hw:PySem.Within mA ns) (hsz:ns.length ≤ sizeLine)
  (h:∀ h',mH h' x dx C (fun y=>if y=name then some v else mA y)→Heap.SameBut dx s.heap h'→Q () { s with heap:=h',toks:=s.toks + 2 }) :
  wpAny (model prog w) A (setAttr (.ref x) name v) Q E s:=by
 obtain ⟨od,J,hl⟩:=I.look
 refine PySem.W.set_plain X J hs (PySem.W.osa_open (s:={ s with toks:=s.toks + 1 }) (r:=none) X J hp ht fun b=>?_)
 obtain ⟨cd,hc,hd'⟩:=PySem.W.any_some hh
 have hx:s.heap.get? x=some ⟨.ref C,some dx,.plain,#[]⟩:=I.obj
 refine wpAny_bind (wpAny_pure (wpAny_bind (wpAny_bind (wpAny_loadPart hx (wpAny_bind (PySem.W.Looks.here (s:={ s with toks:=s.toks + 1 }) (PySem.W.looks_clsIn X hc) ?_))))))
 rw [hd']
 refine wpAny_pure (a:=some dx) (wpAny_bind (wpAny_pure (wpAny_bind ?_)))
 refine wpAny_nsSet1 (s:={ s with toks:=s.toks + 1 }) I.ns fun h' hn2 hs2=>?_
 obtain ⟨oD,esD,epD,hoD,hdD,hcD⟩:=hn2.count (PySem.Within.cons name v hw)
 refine wpAny_bind (wpAny_lookBehind hoD (by rw [hdD];exact pastItsLine_dict (Nat.le_trans hcD (by rw [List.length_cons];omega))) ?_)
 exact wpAny_pure (h _ ⟨(hs2.2 _ (Ne.symm I.ne)).trans I.obj,hn2,I.ne⟩ hs2)
theorem ED {R:Result→Shared→Prop} {vs:List Value} {kw:List (Str × Value)} (X:K.In s.heap) (hm:PySem.W.makesIn K C=true)
  (hi:PySem.W.findIn K (.ref C) "__init__"=some (some (.ref f))) (hf:PySem.W.typeIn K (.ref f)=some (.type "function"))
  (h:codeAny (model prog w) (A.under (.builtin "type.__call__" ⟨.ref C :: vs,kw⟩)) (.call (.ref f) ⟨.ref (s.heap.objs.size + 1) :: vs,kw⟩) (PySem.W.InitBack (s.heap.objs.size + 1) R)
   { s with heap:=(s.heap.push PySem.W.emptyDict).push (PySem.W.instObj C s.heap.objs.size) }) :
  codeAny (model prog w) A (.call (.ref C) ⟨vs,kw⟩) R s:=by
 obtain ⟨hh,g,d,t,os⟩:=s
 exact PySem.W.make_core (PySem.W.makes_of X hm) (PySem.W.looks_findIn X hi) (fun self=>PySem.W.bind_fn X self hf) (.inl rfl) h
end
noncomputable def ag (f:Str) (v:V):List (Str × V)→List (Str × V)
 | []=>[(f,v)]
 | (g,x) :: r=>if g=f then (g,v) :: r else (g,x) :: ag f v r
theorem vk (f g:Str) (v:V):∀ fs:List (Str × V),(ag f v fs).lookup g=if g=f then some v else fs.lookup g
 | []=>by
  show List.lookup g [(f,v)]=_
  by_cases h:g=f
  ·have hb:(g == f)=true:=beq_iff_eq.mpr h
   simp only [List.lookup,hb,if_pos h]
  ·have hb:(g == f)=false:=beq_eq_false_iff_ne.mpr h
   simp only [List.lookup,hb,if_neg h]
 | (k,x) :: r=>by
  have ih:=vk f g v r
  rw [show ag f v ((k,x) :: r)=(if k=f then (k,v) :: r else (k,x) :: ag f v r) from rfl]
  by_cases hk:k=f
  ·rw [if_pos hk]
   by_cases h:g=k
   ·have hb:(g == k)=true:=beq_iff_eq.mpr h
    simp only [List.lookup,hb,if_pos (h.trans hk)]
   ·have hb:(g == k)=false:=beq_eq_false_iff_ne.mpr h
    simp only [List.lookup,hb,if_neg (fun e:g=f=>h (e.trans hk.symm))]
  ·rw [if_neg hk]
   by_cases h:g=k
   ·have hb:(g == k)=true:=beq_iff_eq.mpr h
    simp only [List.lookup,hb,if_neg (fun e:g=f=>hk (h.symm.trans e))]
   ·have hb:(g == k)=false:=beq_eq_false_iff_ne.mpr h
    simp only [List.lookup,hb]
    exact ih
theorem Ji (f:Str) (v:V):∀ fs:List (Str × V),f ∈ (ag f v fs).map (·.1)∧∀ g,g ∈ fs.map (·.1)→g ∈ (ag f v fs).map (·.1)
 | []=>⟨by simp [ag],fun g h=>by simp at h⟩
 | (k,x) :: r=>by
  obtain ⟨i1,i2⟩:=Ji f v r
  rw [show ag f v ((k,x) :: r)=(if k=f then (k,v) :: r else (k,x) :: ag f v r) from rfl]
  by_cases hk:k=f
  ·rw [if_pos hk]
   subst hk
   exact ⟨by simp,fun g h=>by simpa using h⟩
  ·rw [if_neg hk]
   refine ⟨?_,fun g h=>?_⟩
   ·rw [List.map_cons]
    exact List.mem_cons_of_mem _ i1
   ·rw [List.map_cons] at h ⊢
    rcases List.mem_cons.mp h with e | e
    ·exact List.mem_cons.mpr (.inl e)
    ·exact List.mem_cons_of_mem _ (i2 g e)
theorem uk (f:Str) (v:V):∀ fs:List (Str × V),(ag f v fs).length ≤ fs.length + 1
 | []=>by simp [ag]
 | (k,x) :: r=>by
  have ih:=uk f v r
  rw [show ag f v ((k,x) :: r)=(if k=f then (k,v) :: r else (k,x) :: ag f v r) from rfl]
  by_cases hk:k=f
  ·rw [if_pos hk,List.length_cons,List.length_cons];omega
  ·rw [if_neg hk,List.length_cons,List.length_cons];omega
theorem Cp.some_of {v:V} {o:Option Value} (r:Cp (some v) o):∃ u,o=some u∧Zc v u:=by
 cases o with
 | none=>exact (show False from r).elim
 | some u=>exact ⟨u,rfl,r⟩
theorem Cp.none_of {o:Option Value} (r:Cp none o):o=none:=by
 cases o with
 | none=>rfl
 | some u=>exact (show False from r).elim
theorem nu {v:V} {u:Value} (r:Zc v u):PySem.W.handedIn u=true:=by
 cases v with
 | non=>cases (show u=Value.none from r);rfl
 | bl b=>cases (show u=Value.bool b from r);rfl
 | int i=>obtain ⟨t,e⟩:=(show ∃ t,u=Value.int i t from r);cases e;rfl
 | str x=>obtain ⟨t,e⟩:=(show ∃ t,u=Value.str x t from r);cases e;rfl
 | byt b=>obtain ⟨t,e⟩:=(show ∃ t,u=Value.bytes b t from r);cases e;rfl
 | flt b=>obtain ⟨t,e⟩:=(show ∃ t,u=Value.float b t from r);cases e;rfl
 | ref a=>cases (show u=Value.ref a from r);rfl
 | ty n=>cases (show u=Value.type n from r);rfl
section
variable {P:Program} {w:World} {H H':Hp} {h h':Heap} {a C dx:Addr} {fs fs':List (Str × V)}
theorem Ls (hok:HOk P w H h) (e:H a=some (.ins C dx fs)):∃ mA,mH h a dx C mA∧(∀ f,Cp (fs.lookup f) (mA f))∧PySem.Within mA (fs.map (·.1))∧fs.length ≤ 1000∧H dx=some (.own a):=by
 obtain ⟨d,z,ne,ob,mA,n,r,q⟩:=(show Xc P w H h a (.ins C dx fs) from hok a _ e)
 exact ⟨mA,⟨ob,n,ne⟩,r,q,z,d⟩
end
structure Cls (K:PySem.W.Frag) (C:Addr):Prop where
 pg:PySem.W.plainGet K C Str.empty=true
 hd:PySem.W.hasDictIn K C=true
 po:PySem.W.plainOver K C=true
 sa:PySem.W.findIn K (.ref C) "__setattr__"=some (some (.builtin "object.__setattr__"))
theorem Cls.get {K:PySem.W.Frag} {C:Addr} (c:Cls K C) (f:Str):PySem.W.plainGet K C f=true:=c.pg
noncomputable def zb (K:PySem.W.Frag) (C:Addr) (f:Str):Prop:=PySem.W.findIn K (.ref C) f=some none
theorem zb.taker {K:PySem.W.Frag} {C:Addr} {f:Str} (n:zb K C f):PySem.W.takerIn K C f=some none:=by
 unfold PySem.W.takerIn
 rw [show PySem.W.findIn K (.ref C) f=some none from n]
 rfl
structure Con (K:PySem.W.Frag) (C:Addr) (f:Str) (v:V) (u:Value):Prop where
 at_:PySem.W.findIn K (.ref C) f=some (some u)
 rel:Zc v u
 get:PySem.W.specialIn K u "__get__"=some none
 cp:PySem.W.copiedNames.contains f=false
structure kr (K:PySem.W.Frag) (C:Addr) (m:Str) (f:Addr):Prop where
 at_:PySem.W.findIn K (.ref C) m=some (some (.ref f))
 fn:PySem.W.isFn K (.ref f)=true
 kp:PySem.W.keepIn K (.ref f)=true
section
variable {X:Cx} {pins:List (Addr × Obj)} {σ:St} {H:Hp} {s:Shared} {a C dx:Addr} {fs:List (Str × V)} {f:Str} {v:V} {A:Around} {E:Value→Shared→Prop}
theorem Xq {b:Bool} {Q:Value→Shared→Prop} (I:Inv X pins σ H s) (e:H a=some (.ins C dx fs)) (c:Cls X.K C) (n:zb X.K C f) (l:fs.lookup f=some v)
  (h:∀ u s',Inv X pins σ H s'→Zc v u→Q u s'):wpAny (model X.prog X.w) A (getAttr (.ref a) f b) Q E s:=by
 obtain ⟨mA,O,r,_,_,_⟩:=Ls I.hok e
 obtain ⟨u,hu,ru⟩:=Cp.some_of (v:=v) (o:=mA f) (by rw [← l];exact r f)
 exact TH I.kIn O (c.get f) c.hd n hu (nu ru) (h u _ (I.tok _) ru)
theorem am {m:Str} {g:Addr} {pl:Sem Bool} {Q:Value × List Value→Shared→Prop} (I:Inv X pins σ H s) (e:H a=some (.ins C dx fs)) (c:Cls X.K C) (k:kr X.K C m g) (l:fs.lookup m=none)
  (h:Q (.ref g,[.ref a]) s):wpAny (model X.prog X.w) A (getMethod (.ref a) m pl) Q E s:=by
 obtain ⟨mA,O,r,_,_,_⟩:=Ls I.hok e
 have hn:mA m=none:=Cp.none_of (by rw [← l];exact r m)
 exact ZC I.kIn O (c.get m) k.at_ k.fn hn h
theorem Oq {y:V} {u:Value} {Q:Unit→Shared→Prop} (I:Inv X pins σ H s) (e:H a=some (.ins C dx fs)) (c:Cls X.K C) (n:zb X.K C f) (hl:fs.length < 1000) (ry:Zc y u)
  (h:∀ s',Inv X pins σ (upd H a (.ins C dx (ag f y fs))) s'→Q () s'):wpAny (model X.prog X.w) A (setAttr (.ref a) f u) Q E s:=by
 obtain ⟨mA,O,r,wi,_,ho⟩:=Ls I.hok e
 have hz:(fs.map (·.1)).length ≤ sizeLine:=by rw [List.length_map,sizeLine_eq];omega
 refine LG I.kIn O c.sa c.po n.taker c.hd wi hz fun h' O' sb=>h _ ?_
 have hd:∃ o,h'.get? dx=some o:=let ⟨o,_,_,e',_⟩:=O'.ns;⟨o,e'⟩
 refine I.write (x:=a) (e:=dx) (by rw [e];exact True.intro) (.inr ho) (fun b q hb z=>(sb.2 b hb).trans z) hd ?_
 refine ⟨by rw [jb O.ne];exact ho,?_,O.ne,O'.obj,_,O'.ns,fun g=>?_,fun g hg=>?_⟩
 ·have:=uk f y fs;omega
 ·show Cp ((ag f y fs).lookup g) (if g=f then some u else mA g)
  rw [vk]
  by_cases q:g=f
  ·rw [if_pos q,if_pos q];exact ry
  ·rw [if_neg q,if_neg q];exact r g
 ·by_cases q:g=f
  ·rw [q];exact (Ji f y fs).1
  ·refine (Ji f y fs).2 g (wi g fun z=>hg ?_)
   show (if g=f then some u else mA g)=none
   rw [if_neg q];exact z
theorem Inv.made (I:Inv X pins σ H s):Inv X pins σ (upd (upd H s.heap.objs.size (.own (s.heap.objs.size + 1))) (s.heap.objs.size + 1) (.ins C s.heap.objs.size []))
  { s with heap:=(s.heap.push PySem.W.emptyDict).push (PySem.W.instObj C s.heap.objs.size) }:=by
 have e1:(s.heap.push PySem.W.emptyDict).get? s.heap.objs.size=some PySem.W.emptyDict:=Heap.get?_push_size s.heap rfl
 have e2:((s.heap.push PySem.W.emptyDict).push (PySem.W.instObj C s.heap.objs.size)).get? (s.heap.objs.size + 1)=some (PySem.W.instObj C s.heap.objs.size):=by
  have:=Heap.get?_push_size (s.heap.push PySem.W.emptyDict) (o:=PySem.W.instObj C s.heap.objs.size) rfl
  rwa [Heap.size_push] at this
 have e3:(s.heap.push PySem.W.emptyDict).Ns s.heap.objs.size (fun _=>none):=⟨PySem.W.emptyDict,#[],_,e1,rfl,(fun e he=>absurd he (by simp)),fun _=>rfl⟩
 have I1:=I.laid (a:=s.heap.objs.size) (o:=.own (s.heap.objs.size + 1)) (h':=s.heap.push PySem.W.emptyDict) (t':=s.toks) (fun b u q=>Heap.get?_push_of_some _ q) (Nat.le_refl _) ⟨_,e1⟩
 refine I1.laid (a:=s.heap.objs.size + 1) (o:=.ins C s.heap.objs.size []) (t':=s.toks) (fun b u q=>Heap.get?_push_of_some _ q) (Nat.le_of_eq (Heap.size_push _ _)) ?_
 have ne:s.heap.objs.size ≠ s.heap.objs.size + 1:=Nat.ne_of_lt (Nat.lt_succ_self _)
 refine ⟨by rw [jb ne,db],Nat.zero_le _,ne,e2,fun _=>none,(Heap.Ns1.of_empty e3).at fun o q=>Heap.get?_push_of_some _ q,fun _=>True.intro,fun y hy=>absurd rfl hy⟩
theorem Uy {prog:Program} {w:World} {env:Env} {e:Expr} {f:Str} {pos:Pos} {s:Shared} {Q:Value→Shared→Prop} (hb:attributeBase e f env (eval e env)=eval e env)
  (h:wpAny (model prog w) A (eval e env) (fun o s₁=>wpAny (model prog w) A (getAttr o f true) Q E s₁) E s):wpAny (model prog w) A (eval (.Attribute e f pos) env) Q E s:=
 Attribute_any_ h (by rw [arm_eval_Attribute,hb])
end
noncomputable def AL (K:PySem.W.Frag) (ta:TE) (f:Str):TE:=fun σ H Q=>ta σ H fun x H1=>∃ a C dx fs v,x=.ref a∧H1 a=some (.ins C dx fs)∧Cls K C∧zb K C f∧fs.lookup f=some v∧Q v H1
noncomputable def BM (K:PySem.W.Frag) (ta:TE) (f:Str):TE:=fun σ H Q=>ta σ H fun x H1=>∃ a C dx fs v u,x=.ref a∧H1 a=some (.ins C dx fs)∧Cls K C∧Con K C f v u∧fs.lookup f=none∧Q v H1
noncomputable def VL (K:PySem.W.Frag) (ta tv:TE) (f:Str):TS:=fun D σ H=>tv σ H fun y H1=>ta σ H1 fun x H2=>∃ a C dx fs,x=.ref a∧H2 a=some (.ins C dx fs)∧Cls K C∧zb K C f∧fs.length < 1000 ∧
 D.nx σ (upd H2 a (.ins C dx (ag f y fs)))
noncomputable def qM (X:Cx) (op:Operator) (rd:V→V→Hp→VK→Prop):Prop:=
 ∀ (pins:List (Addr × Obj)) (s:Shared) (σ:St) (H:Hp) (x y:V) (u v:Value) (Q:VK),Inv X pins σ H s→Zc x u→Zc y v→rd x y H Q→wpAny (model X.prog X.w) X.A (inplaceOp op u v) (EP X pins σ Q) X.xe s
noncomputable def zz (K:PySem.W.Frag) (ta tv:TE) (rd:V→V→Hp→VK→Prop) (f:Str):TS:=fun D σ H=>ta σ H fun x H1=>∃ a C dx fs v,x=.ref a∧H1 a=some (.ins C dx fs)∧Cls K C∧zb K C f∧fs.lookup f=some v ∧
 tv σ H1 fun y H2=>rd v y H2 fun z H3=>∃ dx' fs',H3 a=some (.ins C dx' fs')∧fs'.length < 1000∧D.nx σ (upd H3 a (.ins C dx' (ag f z fs')))
section
variable {X:Cx} {o e value:Expr} {f:Str} {pos pos' tpos:Pos} {ta tv:TE}
theorem Nb (he:PE X e ta) (hb:attributeBase e f X.env (eval e X.env)=eval e X.env):PE X (.Attribute e f pos) (AL X.K ta f):=by
 intro pins s σ H Q I h
 refine Uy hb (thn (he pins s σ H _ I h) fun u s1 ⟨x,H1,I1,rx,a,C,dx,fs,v,ex,ea,c,n,l,q⟩=>?_)
 subst ex
 obtain rfl:u=Value.ref a:=rx
 exact Xq I1 ea c n l fun u' s2 I2 ru=>⟨v,H1,I2,ru,q⟩
theorem Oe (ha:PE X o ta) (hv:PE X value tv) (hs:swapsWith value (some (.Attribute o f pos')) pos.line X.env=pure false):PS X (.Assign [.Attribute o f pos'] value pos) (VL X.K ta tv f):=by
 intro pins s σ H D I h
 refine plainObj_wpAny_Assign_Attribute (thn (hv pins s σ H _ I h) fun u s1 ⟨y,H1,I1,ry,q⟩=>thn (ha pins s1 σ H1 _ I1 q) fun ov s2 ⟨x,H2,I2,rx,a,C,dx,fs,ex,ea,c,n,l,q2⟩=>?_) hs
 subst ex
 obtain rfl:ov=Value.ref a:=rx
 exact Oq I2 ea c n l ry fun s3 I3=>⟨σ,_,I3,q2⟩
theorem JA {op:Operator} {rd:V→V→Hp→VK→Prop} (ha:PE X o ta) (hv:PE X value tv) (hop:qM X op rd):PS X (.AugAssign (.Attribute o f tpos) op value pos) (zz X.K ta tv rd f):=by
 intro pins s σ H D I h
 refine wpAny_AugAssign_AttributeAny (thn (ha pins s σ H _ I h) fun ov s1 ⟨x,H1,I1,rx,a,C,dx,fs,v,ex,ea,c,n,l,q⟩=>?_)
 subst ex
 obtain rfl:ov=Value.ref a:=rx
 refine Xq I1 ea c n l fun u s2 I2 ru=>thn (hv pins s2 σ H1 _ I2 q) fun w3 s3 ⟨y,H2,I3,ry,q3⟩=>thn (hop pins s3 σ H2 v y u w3 _ I3 ru ry q3) fun w4 s4 ⟨z,H3,I4,rz,dx',fs',ea',l',q4⟩=>?_
 exact Oq I4 ea' c n l' rz fun s5 I5=>⟨σ,_,I5,q4⟩
noncomputable def PL:V→V→Hp→VK→Prop:=fun x y H Q=>∃ i j,x=.int i∧y=.int j∧Q (.int (i + j)) H
noncomputable def EM:V→V→Hp→VK→Prop:=fun x y H Q=>∃ i j,x=.int i∧y=.int j∧Q (.int (i - j)) H
theorem nK:qM X .Add PL:=by
 rintro pins s σ H x y u v Q I rx ry ⟨i,j,rfl,rfl,q⟩
 obtain ⟨t,rfl⟩:=(show ∃ t,u=Value.int i t from rx)
 obtain ⟨t',rfl⟩:=(show ∃ t',v=Value.int j t' from ry)
 exact PyProof.Rows.iadd_int ⟨.int (i + j),H,I.tok _,⟨_,rfl⟩,q⟩
end
section
variable {X:Cx} {pins:List (Addr × Obj)} {σ:St} {H:Hp} {s:Shared} {A:Around} {E:Value→Shared→Prop} {Q:Value→Shared→Prop} {c:Value} {b:Bool}
inductive dw (K:PySem.W.Frag) (H:Hp):V→Value→Prop where
 | non:dw K H .non (.type "NoneType")
 | bl (x:Bool):dw K H (.bl x) (.type "bool")
 | int (i:Int):dw K H (.int i) (.type "int")
 | str (x:Str):dw K H (.str x) (.type "str")
 | flt (x:UInt64):dw K H (.flt x) (.type "float")
 | lst {a:Addr} {xs:List V} (e:H a=some (.lst xs)):dw K H (.ref a) (.type "list")
 | frz {a:Addr} {o:Obj} {xs:List V} (e:H a=some (.frz o (.lst xs))):dw K H (.ref a) (.type "list")
 | tup {a:Addr} {xs:List V} (e:H a=some (.tup xs)):dw K H (.ref a) (.type "tuple")
 | dK {a:Addr} {kvs:List (Key × V)} (e:H a=some (.dK kvs)):dw K H (.ref a) (.type "dict")
 | dT {a:Addr} {kvs:List (List Key × V)} (e:H a=some (.dT kvs)):dw K H (.ref a) (.type "dict")
 | ins {a C dx:Addr} {fs:List (Str × V)} (e:H a=some (.ins C dx fs)) (cl:Cls K C) (ha:PySem.W.findIn K (.ref C) "__class__"=some (some (.builtin "object.__class__")))
   (hn:PySem.W.specialIn K (.builtin "object.__class__") "__get__"=some (some (.builtin "getset_descriptor.__get__"))) (htk:PySem.W.takesIn K (.builtin "object.__class__")=some true)
   (hm:PySem.W.mroIn K C (.type "object")=some true):dw K H (.ref a) (.ref C)
theorem Hz {x:V} {u t:Value} (I:Inv X pins σ H s) (rx:Zc x u) (ty:dw X.K H x t) (e:PySem.W.kitOne X.K t c=some b) (h:∀ tk,Q (.bool b) { s with toks:=tk }) :
  wpAny (model X.prog X.w) A (call (.builtin "isinstance") [u,c]) Q E s:=by
 cases ty with
 | non=>cases (show u=Value.none from rx);exact PySem.W.kia_one PySem.W.kitx_none I.kIn True.intro e (fun z=>nomatch z) h
 | bl y=>cases (show u=Value.bool y from rx);exact PySem.W.kia_one PySem.W.kitx_bool I.kIn True.intro e (fun z=>nomatch z) h
 | int i=>obtain ⟨t,q⟩:=(show ∃ t,u=Value.int i t from rx);cases q;exact PySem.W.kia_one PySem.W.kitx_int I.kIn True.intro e (fun z=>nomatch z) h
 | str y=>obtain ⟨t,q⟩:=(show ∃ t,u=Value.str y t from rx);cases q;exact PySem.W.kia_one PySem.W.kitx_str I.kIn True.intro e (fun z=>nomatch z) h
 | flt y=>obtain ⟨t,q⟩:=(show ∃ t,u=Value.float y t from rx);cases q;exact PySem.W.kia_one PySem.W.kitx_float I.kIn True.intro e (fun z=>nomatch z) h
 | @lst a xs ea=>
  cases (show u=Value.ref a from rx)
  obtain ⟨_,_,n,_,h1⟩:=(show Xc X.prog X.w H s.heap a (.lst xs) from I.hok a _ ea)
  exact PySem.W.kia_one PySem.W.kitx_list I.kIn ⟨_,h1,rfl⟩ e (fun z=>nomatch z) h
 | @frz a ob xs ea=>
  cases (show u=Value.ref a from rx)
  obtain ⟨_,_,_,n,_,h1⟩:=(show Xc X.prog X.w H s.heap a (.frz ob (.lst xs)) from I.hok a _ ea)
  exact PySem.W.kia_one PySem.W.kitx_list I.kIn ⟨_,h1,rfl⟩ e (fun z=>nomatch z) h
 | @tup a xs ea=>
  cases (show u=Value.ref a from rx)
  obtain ⟨_,_,_,p⟩:=(show Xc X.prog X.w H s.heap a (.tup xs) from I.hok a _ ea)
  obtain ⟨o,h1,h2,_⟩:=p
  exact PySem.W.kia_one PySem.W.kitx_tuple I.kIn ⟨o,h1,h2⟩ e (fun z=>nomatch z) h
 | @dK a kvs ea=>
  cases (show u=Value.ref a from rx)
  obtain ⟨_,_,vs,_,p⟩:=(show Xc X.prog X.w H s.heap a (.dK kvs) from I.hok a _ ea)
  obtain ⟨o,es,ep,h1,h2,_⟩:=p
  exact PySem.W.kia_one PySem.W.kitx_dict I.kIn ⟨o,h1,h2.1⟩ e (fun z=>nomatch z) h
 | @dT a kvs ea=>
  cases (show u=Value.ref a from rx)
  obtain ⟨_,_,xs,_,o,es,ep,h1,h2,_⟩:=(show Xc X.prog X.w H s.heap a (.dT kvs) from I.hok a _ ea)
  exact PySem.W.kia_one PySem.W.kitx_dict I.kIn ⟨o,h1,h2.1⟩ e (fun z=>nomatch z) h
 | @ins a C dx fs ea cl ha hn htk hm=>
  cases (show u=Value.ref a from rx)
  obtain ⟨mA,O,_⟩:=Ls I.hok ea
  obtain ⟨od,J,_⟩:=O.look
  exact PySem.W.kia_one (PySem.W.kitx_own (cl.get _) cl.hd ha hn htk hm) I.kIn J e (fun z=>nomatch z) h
end
end L2
namespace L2
open PySem PySem.Spec PyProof.Rows
structure Ih (k:Nat) (A:Around):Prop where
 hd:A.handled=none
 dp:A.depth + 3 * k + 5 < recursionLimit
 un:A.units + 16 * k + 200 < cLine
theorem Ih.mono {j k:Nat} {A:Around} (r:Ih k A) (h:j ≤ k):Ih j A:=⟨r.hd,by have:=r.dp;omega,by have:=r.un;omega⟩
theorem Ih.deeper {k:Nat} {A:Around} (r:Ih (k + 1) A) (env:Env):Ih k (A.deeper env):=
 ⟨r.hd,by have:=r.dp;show A.depth + 1 + 3 * k + 5 < _;omega,by have:=r.un;show A.units + 3 + 16 * k + 200 < _;omega⟩
theorem Ih.in1 {k:Nat} {A:Around} (r:Ih (k + 1) A):Ih k A.in1:=
 ⟨r.hd,by have:=r.dp;show A.depth + 3 * k + 5 < _;omega,by have:=r.un;show A.units + 1 + 16 * k + 200 < _;omega⟩
theorem wy {A:Around} {C:Addr} {us:List Value} {kw:List (Str × Value)}:(A.under (.builtin "type.__call__" ⟨.ref C :: us,kw⟩)).depth=A.depth + 1:=by
 first | rfl | simp [Around.under,Code.weight,Code.isCreation,Code.isGuard,Code.isCaller,Code.frames,Code.isFrame,guardIds]
theorem vy {A:Around} {C:Addr} {us:List Value} {kw:List (Str × Value)}:(A.under (.builtin "type.__call__" ⟨.ref C :: us,kw⟩)).units=A.units + 1:=by
 first | rfl | simp [Around.under,Code.cUnits,Code.frames,Code.isFrame]
theorem Ih.make {k:Nat} {A:Around} (r:Ih (k + 1) A) (C:Addr) (us:List Value) (kw:List (Str × Value)):Ih k (A.under (.builtin "type.__call__" ⟨.ref C :: us,kw⟩)):=
 ⟨r.hd,by have:=r.dp;rw [wy];omega,by have:=r.un;rw [vy];omega⟩
theorem Ih.depth {k:Nat} {A:Around} (r:Ih k A):A.depth < recursionLimit:=by have:=r.dp;omega
theorem Ih.units {k:Nat} {A:Around} (r:Ih k A):A.units + 64 < cLine:=by have:=r.un;omega
noncomputable def QK:TA:=fun _ H Q=>Q [] H
noncomputable def aJ (ta:TE) (tr:TA):TA:=fun σ H Q=>ta σ H fun x H1=>tr σ H1 fun xs H2=>Q (x :: xs) H2
section
variable {X:Cx} {e:Expr} {es:List Expr} {te:TE} {t:TA} {pos:Pos}
theorem fb:PA X [] QK:=fun _ _ _ _ H Q I h=>Calls.spliced_nil ⟨[],H,I,.nil,h⟩
theorem bb (ha:PE X e te) (hr:PA X es t) (hs:starEach (e :: es) X.env=(false,eval e X.env) :: starEach es X.env:=by rfl):PA X (e :: es) (aJ te t):=by
 intro pos pins s σ H Q I h
 rw [hs]
 show wpAny _ _ (spliced ((false,eval e X.env) :: backTo pos (starEach es X.env))) _ _ s
 refine Calls.spliced_cons (thn (ha pins s σ H _ I h) fun u s1 ⟨x,H1,I1,r1,q1⟩=>?_)
 exact thn (hr pos pins s1 σ H1 _ I1 q1) fun us s2 ⟨xs,H2,I2,r2,q2⟩=>⟨x :: xs,H2,I2,.cons r1 r2,q2⟩
noncomputable def mM (t:TA):TE:=fun σ H Q=>t σ H fun xs H1=>xs.length ≤ sizeLine∧∀ p,H1 p=none→Q (.ref p) (upd H1 p (.tup xs))
noncomputable def rM (t:TA):TE:=fun σ H Q=>t σ H fun xs H1=>xs.length ≤ sizeLine∧∀ p,H1 p=none→Q (.ref p) (upd H1 p (.lst xs))
theorem Rk {x1} (h:PA X es t):PE X (.Tuple es x1 pos) (mM t):=by
 intro pins s σ H Q I hq
 refine wpAny_Tuple_spliced (thn (h pos pins s σ H _ I hq) fun us s1 ⟨xs,H1,I1,r,z,q⟩=>⟨by rw [← r.length];exact z,?_⟩)
 have hf:H1 s1.heap.objs.size=none:=I1.hok.fresh (Nat.le_refl _)
 refine ⟨.ref s1.heap.objs.size,upd H1 s1.heap.objs.size (.tup xs),I1.laid (t':=s1.toks) (fun b u e=>Heap.get?_push_of_some _ e) (Nat.le_refl _) ?_,rfl,q _ hf⟩
 exact ⟨z,us,r,⟨_,Heap.get?_push_size _ rfl,rfl,_,rfl⟩⟩
theorem ck (h:PA X es t):PE X (.List es pos) (rM t):=by
 intro pins s σ H Q I hq
 refine wpAny_List_spliced (thn (h pos pins s σ H _ I hq) fun us s1 ⟨xs,H1,I1,r,z,q⟩=>⟨by rw [← r.length];exact z,?_⟩)
 have hf:H1 s1.heap.objs.size=none:=I1.hok.fresh (Nat.le_refl _)
 refine ⟨.ref s1.heap.objs.size,upd H1 s1.heap.objs.size (.lst xs),I1.laid (t':=s1.toks) (fun b u e=>Heap.get?_push_of_some _ e) (Nat.le_refl _) ?_,rfl,q _ hf⟩
 exact ⟨z,us,0,r,Heap.get?_push_size _ rfl⟩
end
noncomputable abbrev Sp:=List V→Hp→VK→XK→Prop
noncomputable abbrev CXT:=List Env→Hp→Shared→XK→Value→Shared→Prop
structure QA (P:Program) (w:World) (K:PySem.W.Frag) (mg:Str→Option Value) (base:Heap) (A:Around) (outer:List Env) (s:Shared) (H:Hp):Prop where
 frames:A.frames=some outer
 mod:Mod K mg base
 bs:∀ b o,base.get? b=some o→s.heap.get? b=some o∧H b=none
 bsz:base.objs.size ≤ s.heap.objs.size
 funs:s.heap.FunFrames base outer
 frf:∀ b ∈ frs outer,H b=none
 hok:HOk P w H s.heap
 bare:AllBare s.gens
noncomputable def CE (outer:List Env) (P:Program) (w:World) (H:Hp) (s:Shared) (Q:VK) (u:Value) (s':Shared):Prop:=
 ∃ v H',s'.os=s.os∧AllBare s'.gens∧Un (frs outer) [] H H' s.heap s'.heap∧HOk P w H' s'.heap∧Zc v u∧Q v H'
noncomputable def CR (CX:CXT) (outer:List Env) (P:Program) (w:World) (H:Hp) (s:Shared) (Q:VK) (E:XK) (r:Result) (s':Shared):Prop:=
 match r with
 | .ok (.ret u)=>CE outer P w H s Q u s'
 | .ok _=>False
 | .error e=>CX outer H s E e s'
structure Bb (P:Program) (w:World) (K:PySem.W.Frag) (mg:Str→Option Value) (base:Heap) (CX:CXT) (k:Nat) (f:Addr) (fd:FuncData) (ps:List Str) (sp:Sp):Prop where
 len:∀ vs H Q E,sp vs H Q E→vs.length=ps.length
 run:∀ (A:Around) (outer:List Env) (s:Shared) (H:Hp) (args:Args) (us:List Value) (vs:List V) (Q:VK) (E:XK),Ih k A→QA P w K mg base A outer s H→BindsTo s fd args (ps.zip us)→Kc vs us→sp vs H Q E →
  codeAny (model P w) A (.call (.ref f) args) (CR CX outer P w H s Q E) s
theorem Bb.mono {P:Program} {w:World} {K:PySem.W.Frag} {mg:Str→Option Value} {base:Heap} {CX:CXT} {j k:Nat} {f:Addr} {fd:FuncData} {ps:List Str} {sp:Sp} (F:Bb P w K mg base CX j f fd ps sp) (h:j ≤ k) :
  Bb P w K mg base CX k f fd ps sp:=⟨F.len,fun A outer s H args us vs Q E hr=>F.run A outer s H args us vs Q E (hr.mono h)⟩
theorem Bb.imp {P:Program} {w:World} {K:PySem.W.Frag} {mg:Str→Option Value} {base:Heap} {CX:CXT} {k:Nat} {f:Addr} {fd:FuncData} {ps:List Str} {sp sp':Sp} (F:Bb P w K mg base CX k f fd ps sp)
  (h:∀ vs H Q E,sp' vs H Q E→sp vs H Q E):Bb P w K mg base CX k f fd ps sp':=
 ⟨fun vs H Q E q=>F.len vs H Q E (h _ _ _ _ q),fun A outer s H args us vs Q E hr he hb hv hs=>F.run A outer s H args us vs Q E hr he hb hv (h _ _ _ _ hs)⟩
theorem QA.make {P:Program} {w:World} {K:PySem.W.Frag} {mg:Str→Option Value} {base:Heap} {A:Around} {outer:List Env} {s:Shared} {H:Hp} (e:QA P w K mg base A outer s H) (C:Addr) (us:List Value) (kw:List (Str × Value)) :
  QA P w K mg base (A.under (.builtin "type.__call__" ⟨.ref C :: us,kw⟩)) outer s H:=⟨by first | exact e.frames | (simpa [Around.under,Code.envs,Code.isFrame,pushEnvs] using e.frames),e.mod,e.bs,e.bsz,e.funs,e.frf,e.hok,e.bare⟩
theorem QA.in1 {P:Program} {w:World} {K:PySem.W.Frag} {mg:Str→Option Value} {base:Heap} {A:Around} {outer:List Env} {s:Shared} {H:Hp} (e:QA P w K mg base A outer s H) :
  QA P w K mg base A.in1 outer s H:=⟨e.frames,e.mod,e.bs,e.bsz,e.funs,e.frf,e.hok,e.bare⟩
section
variable {X:Cx} {pins:List (Addr × Obj)} {σ:St} {H:Hp} {s s':Shared}
theorem Inv.env0 (I:Inv X pins σ H s):QA X.prog X.w X.K X.mg X.base X.A X.stack s H:=
 ⟨I.ok.frames,I.ok.mod,I.bs,Nat.le_trans I.ok.bsz I.sz,I.stack,I.stkFree,I.hok,I.bare⟩
theorem Inv.after {Q:VK} {u:Value} (I:Inv X pins σ H s) (h:CE X.stack X.prog X.w H s Q u s'):EP X pins σ Q u s':=by
 obtain ⟨v,H',os,bare,un,hok,r,q⟩:=h
 obtain ⟨hh,g,d,t,os'⟩:=s'
 obtain rfl:os'=s.os:=os
 exact ⟨v,H',I.call (h':=hh) (g':=g) (d':=d) (t':=t) (ch:=[]) un hok bare (fun b z=>absurd z (by simp)),r,q⟩
end
noncomputable def JH (sp:Sp) (dvs:List V) (E:XK) (t:TA):TE:=fun σ H Q=>t σ H fun vs H1=>sp (vs ++ dvs) H1 Q E
noncomputable def KG (C:Addr) (m:Str) (sp:Sp) (dvs:List V) (E:XK) (ta:TE) (t:TA):TE:=fun σ H Q=>ta σ H fun x H1=>∃ a dx fs,x=.ref a∧H1 a=some (.ins C dx fs)∧fs.lookup m=none ∧
 t σ H1 fun vs H2=>sp (x :: (vs ++ dvs)) H2 Q E
noncomputable def CK (C:Addr) (sp:Sp) (dvs:List V) (E:XK) (t:TA):TE:=fun σ H Q=>t σ H fun vs H1=>∀ x dx,H1 x=none→H1 dx=none→dx ≠ x →
 sp (.ref x :: (vs ++ dvs)) (upd (upd H1 dx (.own x)) x (.ins C dx [])) (fun v H2=>v=.non∧Q (.ref x) H2) E
noncomputable def Kb (K:PySem.W.Frag) (fd:FuncData) (ps:List Str) (ds:List Value):Prop:=
 ∀ (s:Shared) (us:List Value),K.In s.heap→(us ++ ds).length=ps.length→BindsTo s fd ⟨us,[]⟩ (ps.zip (us ++ ds))
theorem Kb.all {K:PySem.W.Frag} {fd:FuncData} {ps:List Str} (h:∀ us:List Value,us.length=ps.length→bindArgs fd ⟨us,[]⟩=pure (ps.zip us)):Kb K fd ps []:=fun s us _ hl=>by
 rw [List.append_nil] at hl ⊢
 exact .of_eq (h us hl)
noncomputable def pk (CX:CXT) (X:Cx) (E:XK):Prop:=∀ (pins:List (Addr × Obj)) (σ:St) (H:Hp) (s:Shared) (e:Value) (s':Shared),Inv X pins σ H s→CX X.stack H s E e s'→X.xe e s'
section
variable {X:Cx} {CX:CXT} {k:Nat} {f C:Addr} {fd:FuncData} {ps:List Str} {sp:Sp} {dvs:List V} {ds:List Value} {E:XK} {x m:Str} {p pos apos:Pos} {e o:Expr} {es:List Expr} {ta:TE} {t:TA}
theorem Et {pins:List (Addr × Obj)} {σ:St} {H:Hp} {s:Shared} {Q:VK} {us:List Value} {vs:List V} (F:Bb X.prog X.w X.K X.mg X.base CX k f fd ps sp) (hr:Ih k X.A) (hb:Kb X.K fd ps ds) (hd:Kc dvs ds) (hx:pk CX X E)
  (I:Inv X pins σ H s) (r:Kc vs us) (h:sp (vs ++ dvs) H Q E):wpAny (model X.prog X.w) X.A (call (.ref f) us) (EP X pins σ Q) X.xe s:=by
 have r2:Kc (vs ++ dvs) (us ++ ds):=r.append hd
 have hl:(us ++ ds).length=ps.length:=by rw [← r2.length];exact F.len _ _ _ _ h
 refine wpAny_call (codeAny_mono (F.run X.A X.stack s H ⟨us,[]⟩ (us ++ ds) (vs ++ dvs) Q E hr I.env0 (hb s us I.kIn hl) r2 h) fun r s' hq=>?_)
 cases r with
 | error e=>exact hx pins σ H s e s' I hq
 | ok fl=>
  cases fl with
  | ret u=>exact I.after hq
  | next=>exact False.elim hq
  | brk=>exact False.elim hq
  | cont=>exact False.elim hq
theorem ub (F:Bb X.prog X.w X.K X.mg X.base CX k f fd ps sp) (hr:Ih k X.A) (hg:Gl X x) (hm:X.mg x=some (.ref f)) (hk:PySem.W.keepIn X.K (.ref f)=true) (hb:Kb X.K fd ps ds) (hd:Kc dvs ds) (hx:pk CX X E)
  (ha:PA X (e :: es) t) (hdb:(x == ("__debug__" : Str))=false:=by decide) (he:starEach (e :: es) X.env=(false,eval e X.env) :: starEach es X.env:=by rfl) (hpl:(backTo pos (starEach es X.env)).any (·.1)=false:=by rfl) :
  PE X (.Call (.Name x p) (e :: es) [] pos) (JH sp dvs E t):=by
 intro pins s σ H Q I h
 refine wpAny_Call_Name_kw (Ti I hg hm ?_ hdb)
 refine PySem.W.callWith_K (h₀:=X.base) I.ok.mod.kin hk (thn (ha pos pins s σ H _ I h) fun us s1 ⟨vs,H1,I1,r,q⟩=>⟨I1.kIn,?_⟩) he hpl
 exact Et F hr hb hd hx I1 r q
theorem Nc {pl:Sem Bool} (he:PE X o ta) (c:Cls X.K C) (hm:kr X.K C m f) (F:Bb X.prog X.w X.K X.mg X.base CX k f fd ps sp) (hr:Ih k X.A) (hb:Kb X.K fd ps ds) (hd:Kc dvs ds) (hx:pk CX X E) (ha:PA X (e :: es) t)
  (hst:starEach (e :: es) X.env=(false,eval e X.env) :: starEach es X.env:=by rfl) (hpl:(backTo pos (starEach es X.env)).any (·.1)=false:=by rfl)
  (ht:eval (.Call (.Attribute o m apos) (e :: es) [] pos) X.env=(do
   let ov ← eval o X.env
   standAt apos.atName
   let (f,first) ← holding [ov] (getMethod ov m pl)
   callWith pos f first (backTo pos (starEach (e :: es) X.env)) (backToKw pos (keywordEach [] X.env))):=by rfl) :
  PE X (.Call (.Attribute o m apos) (e :: es) [] pos) (KG C m sp dvs E ta t):=by
 intro pins s σ H Q I h
 refine PySem.W.methodCall_KW (pl:=pl) (thn (he pins s σ H _ I h) fun u s1 ⟨x,H1,I1,rx,a,dx,fs,ex,ea,l,q⟩=>?_) ht
 subst ex
 obtain rfl:u=Value.ref a:=rx
 refine am I1 ea c hm l ?_
 refine PySem.W.callWith_K (first:=[.ref a]) (h₀:=X.base) I.ok.mod.kin hm.kp (thn (ha pos pins s1 σ H1 _ I1 q) fun us s2 ⟨vs,H2,I2,r,q2⟩=>⟨I2.kIn,?_⟩) hst hpl
 exact Et (us:=.ref a :: us) (vs:=.ref a :: vs) F hr hb hd hx I2 (.cons rfl r) q2
theorem je {pl:Sem Bool} (he:PE X o ta) (c:Cls X.K C) (hm:kr X.K C m f) (F:Bb X.prog X.w X.K X.mg X.base CX k f fd ps sp) (hr:Ih k X.A) (hb:Kb X.K fd ps ds) (hd:Kc dvs ds) (hx:pk CX X E)
  (ht:eval (.Call (.Attribute o m apos) [] [] pos) X.env=(do
   let ov ← eval o X.env
   standAt apos.atName
   let (f,first) ← holding [ov] (getMethod ov m pl)
   callWith pos f first (backTo pos (starEach [] X.env)) (backToKw pos (keywordEach [] X.env))):=by rfl) :
  PE X (.Call (.Attribute o m apos) [] [] pos) (KG C m sp dvs E ta QK):=by
 intro pins s σ H Q I h
 refine PySem.W.methodCall_KW (pl:=pl) (thn (he pins s σ H _ I h) fun u s1 ⟨x,H1,I1,rx,a,dx,fs,ex,ea,l,q⟩=>?_) ht
 subst ex
 obtain rfl:u=Value.ref a:=rx
 refine am I1 ea c hm l ?_
 exact PySem.W.callWith_K0 (first:=[.ref a]) I1.kIn hm.kp (Et (us:=[.ref a]) (vs:=[.ref a]) F hr hb hd hx I1 (.cons rfl .nil) q)
structure Mk (K:PySem.W.Frag) (C f:Addr):Prop where
 makes:PySem.W.makesIn K C=true
 init:PySem.W.findIn K (.ref C) "__init__"=some (some (.ref f))
 fn:PySem.W.isFn K (.ref f)=true
 kp:PySem.W.keepIn K (.ref C)=true
theorem GD {pins:List (Addr × Obj)} {σ:St} {H:Hp} {s:Shared} {Q:VK} {us:List Value} {vs:List V} (M:Mk X.K C f) (F:Bb X.prog X.w X.K X.mg X.base CX k f fd ps sp) (hr:Ih (k + 1) X.A) (hb:Kb X.K fd ps ds) (hd:Kc dvs ds)
  (hx:pk CX X E) (I:Inv X pins σ H s) (r:Kc vs us)
  (h:∀ x dx,H x=none→H dx=none→dx ≠ x→sp (.ref x :: (vs ++ dvs)) (upd (upd H dx (.own x)) x (.ins C dx [])) (fun v H2=>v=.non∧Q (.ref x) H2) E) :
  wpAny (model X.prog X.w) X.A (call (.ref C) us) (EP X pins σ Q) X.xe s:=by
 have hq:=h (s.heap.objs.size + 1) s.heap.objs.size (I.hok.fresh (Nat.le_succ _)) (I.hok.fresh (Nat.le_refl _)) (Nat.ne_of_lt (Nat.lt_succ_self _))
 have I2:=Inv.made (C:=C) I
 have r2:Kc (V.ref (s.heap.objs.size + 1) :: (vs ++ dvs)) (Value.ref (s.heap.objs.size + 1) :: (us ++ ds)):=.cons rfl (r.append hd)
 have hl:(Value.ref (s.heap.objs.size + 1) :: us ++ ds).length=ps.length:=by
  have e:=r2.length
  rw [F.len _ _ _ _ hq] at e
  exact e.symm
 refine wpAny_call (ED (f:=f) I.kIn M.makes M.init (beq_iff_eq.mp M.fn) (codeAny_mono (F.run _ X.stack _ _ ⟨Value.ref (s.heap.objs.size + 1) :: us,[]⟩ (Value.ref (s.heap.objs.size + 1) :: (us ++ ds)) _ _ E (hr.make C us [])
  (I2.env0.make C us []) (hb _ (Value.ref (s.heap.objs.size + 1) :: us) I2.kIn hl) r2 hq) fun r s' hq'=>?_))
 cases r with
 | error e=>exact hx pins σ _ _ e s' I2 hq'
 | ok fl=>
  cases fl with
  | ret u=>
   obtain ⟨v,H',I3,rv,ev,q3⟩:=I2.after hq'
   subst ev
   exact ⟨rv,⟨V.ref (s.heap.objs.size + 1),H',I3,rfl,q3⟩⟩
  | next=>exact False.elim hq'
  | brk=>exact False.elim hq'
  | cont=>exact False.elim hq'
theorem dm (M:Mk X.K C f) (F:Bb X.prog X.w X.K X.mg X.base CX k f fd ps sp) (hr:Ih (k + 1) X.A) (hg:Gl X x) (hm:X.mg x=some (.ref C)) (hb:Kb X.K fd ps ds) (hd:Kc dvs ds) (hx:pk CX X E)
  (ha:PA X (e :: es) t) (hdb:(x == ("__debug__" : Str))=false:=by decide) (he:starEach (e :: es) X.env=(false,eval e X.env) :: starEach es X.env:=by rfl) (hpl:(backTo pos (starEach es X.env)).any (·.1)=false:=by rfl) :
  PE X (.Call (.Name x p) (e :: es) [] pos) (CK C sp dvs E t):=by
 intro pins s σ H Q I h
 refine wpAny_Call_Name_kw (Ti I hg hm ?_ hdb)
 refine PySem.W.callWith_K (h₀:=X.base) I.ok.mod.kin M.kp (thn (ha pos pins s σ H _ I h) fun us s1 ⟨vs,H1,I1,r,q⟩=>⟨I1.kIn,?_⟩) he hpl
 exact GD M F hr hb hd hx I1 r q
end
section
variable {X:Cx} {CX:CXT} {k:Nat} {f C:Addr} {fd:FuncData} {ps ks:List Str} {sp:Sp} {E:XK} {x m:Str} {p pos apos kpos:Pos} {e o:Expr} {es:List Expr} {kws:List Keyword} {te ta:TE} {t tk:TA} {nm:Option Str}
structure WL (K:PySem.W.Frag) (fd:FuncData) (ps ks:List Str) (g:List Value→List Value→List Value) (gV:List V→List V→List V):Prop where
 to:∀ (s:Shared) (us ws:List Value),K.In s.heap→(g us ws).length=ps.length→BindsTo s fd ⟨us,ks.zip ws⟩ (ps.zip (g us ws))
 rel:∀ {vs:List V} {us:List Value} {zs:List V} {ws:List Value},Kc vs us→Kc zs ws→Kc (gV vs zs) (g us ws)
noncomputable def nI (sp:Sp) (gV:List V→List V→List V) (E:XK) (t tk:TA):TE:=fun σ H Q=>t σ H fun vs H1=>tk σ H1 fun zs H2=>sp (gV vs zs) H2 Q E
variable {g:List Value→List Value→List Value} {gV:List V→List V→List V}
end
structure rb (N P:List Str) (sc:Scope):Prop where
 kind:sc.kind=.function
 co:sc.isCoroutine=false
 gen:sc.isGenerator=false
 nd:N.Nodup
 pre:N.take P.length=P
 par:∀ x ∈ P,sc.names.lookup x=some .local∨sc.names.lookup x=some .cell
 nofree:∀ y ∈ sc.names,y.2 ≠ .free
theorem Tt {kindOf:Str→Option NameKind} {x:Str}:∀ {binds:List (Str × Value)} {m:Str→Option Value},(∀ v,(x,v) ∉ binds)→bindL kindOf binds m x=m x
 | [],_,_=>rfl
 | (n,v) :: r,m,h=>by
  unfold bindL
  rw [Tt fun w hw=>h w (List.mem_cons_of_mem _ hw)]
  split
  ·have:x ≠ n:=by rintro rfl;exact h v List.mem_cons_self
   simp [this]
  ·rfl
theorem Yt {kindOf:Str→Option NameKind} {x:Str}:∀ {binds:List (Str × Value)} {m:Str→Option Value},(∀ v,(x,v) ∉ binds)→bindC kindOf binds m x=m x
 | [],_,_=>rfl
 | (n,v) :: r,m,h=>by
  unfold bindC
  rw [Yt fun w hw=>h w (List.mem_cons_of_mem _ hw)]
  split
  ·rfl
  ·have:x ≠ n:=by rintro rfl;exact h v List.mem_cons_self
   simp [this]
theorem Wt {kindOf:Str→Option NameKind} {x:Str} {v:Value}:∀ {P:List Str} {vs:List Value} {i:Nat} {m:Str→Option Value},P.Nodup→P[i]? = some x→vs[i]? = some v→kindOf x=some .local →
  bindL kindOf (P.zip vs) m x=some v
 | [],_,_,_,_,h,_,_=>by simp at h
 | _ :: _,[],_,_,_,_,h,_=>by simp at h
 | p :: P,w :: vs,0,m,nd,h1,h2,hk=>by
  simp at h1 h2;subst h1;subst h2
  show bindL kindOf ((p,w) :: P.zip vs) m p=_
  unfold bindL
  rw [Tt fun v hv=>(List.nodup_cons.mp nd).1 (List.of_mem_zip hv).1,if_pos hk]
  simp
 | p :: P,w :: vs,i + 1,m,nd,h1,h2,hk=>by
  show bindL kindOf ((p,w) :: P.zip vs) m x=_
  unfold bindL
  exact Wt (i:=i) (List.nodup_cons.mp nd).2 (by simpa using h1) (by simpa using h2) hk
theorem Du {kindOf:Str→Option NameKind} {x:Str} {v:Value}:∀ {P:List Str} {vs:List Value} {i:Nat} {m:Str→Option Value},P.Nodup→P[i]? = some x→vs[i]? = some v→kindOf x ≠ some .local →
  bindC kindOf (P.zip vs) m x=some v
 | [],_,_,_,_,h,_,_=>by simp at h
 | _ :: _,[],_,_,_,_,h,_=>by simp at h
 | p :: P,w :: vs,0,m,nd,h1,h2,hk=>by
  simp at h1 h2;subst h1;subst h2
  show bindC kindOf ((p,w) :: P.zip vs) m p=_
  unfold bindC
  rw [Yt fun v hv=>(List.nodup_cons.mp nd).1 (List.of_mem_zip hv).1,if_neg hk]
  simp
 | p :: P,w :: vs,i + 1,m,nd,h1,h2,hk=>by
  show bindC kindOf ((p,w) :: P.zip vs) m x=_
  unfold bindC
  exact Du (i:=i) (List.nodup_cons.mp nd).2 (by simpa using h1) (by simpa using h2) hk
noncomputable def start (N:List Str) (vs:List V):St:=vs.map some ++ List.replicate (N.length - vs.length) none
noncomputable def Lz (CX:CXT) (P:Program) (w:World) (K:PySem.W.Frag) (mg:Str→Option Value) (base:Heap) (N:List Str) (qual:Str) (scope:Scope) (f:Addr) (cd:Value) (A:Around) (outer:List Env) (s:Shared) (H:Hp) (E:XK):Cx where
 prog:=P
 w:=w
 K:=K
 mg:=mg
 base:=base
 A:=A.deeper (envOfC qual scope s.heap.objs.size f cd)
 N:=N
 s₀:=s
 H₀:=H
 env:=envOfC qual scope s.heap.objs.size f cd
 outer:=outer
 stack:=envOfC qual scope s.heap.objs.size f cd :: outer
 ex:=[]
 calm:=true
 fn:=fun _=>true
 pn:=[]
 xe:=fun e s'=>wpAny (model P w) (A.deeper (envOfC qual scope s.heap.objs.size f cd)) (leaving (envOfC qual scope s.heap.objs.size f cd) e) (fun _ s''=>CX outer H s E e s'') (fun e' s''=>CX outer H s E e' s'') s'
theorem tw {sc:Scope} {n:Nat} {x:Str} (h:sc.names.lookup x=some .cell):∃ c,(cellsFrom n sc.names []).lookup x=some c:=by
 have q:=PySem.W.cellsFrom_some sc.names n [] (.inl h)
 exact Option.isSome_iff_exists.mp q
theorem jz {CX:CXT} {P:Program} {w:World} {K:PySem.W.Frag} {mg:Str→Option Value} {base:Heap} {N ps:List Str} {qual:Str} {scope:Scope} {f:Addr} {cd:Value} {A:Around} {outer:List Env} {s s1:Shared} {H:Hp} {E:XK} {us:List Value} {vs:List V}
  (S:rb N ps scope) (hd:A.handled=none) (e0:QA P w K mg base A outer s H) (hl:vs.length=ps.length) (r:Kc vs us)
  (x:InCallC s s.heap.objs.size (bindL (envOfC qual scope s.heap.objs.size f cd).kindOf (ps.zip us) fun _=>none) (cellsFrom (s.heap.objs.size + 1) scope.names []) (bindC (envOfC qual scope s.heap.objs.size f cd).kindOf (ps.zip us) fun _=>none) s1) :
  Inv (Lz CX P w K mg base N qual scope f cd A outer s H E) [] (start N vs) H s1:=by
 have hpl:ps.length ≤ N.length:=by have:=congrArg List.length S.pre;rw [List.length_take] at this;omega
 obtain ⟨h1,tk,rfl,hk⟩:=x.done
 have noA:∀ b:Addr,b ∉ (Lz CX P w K mg base N qual scope f cd A outer s H E).ex:=fun b z=>absurd (show b ∈ ([]:List Addr) from z) (by simp)
 refine ⟨⟨e0.mod,S.kind,rfl,rfl,Nat.le_refl _,fun y z c h1 h2=>?_,fun y hy=>?_,fun y c _ h=>?_,fun _=>hd,Around.frames_deeper e0.frames,.inr ⟨rfl,rfl⟩,fun b z=>absurd z (noA b),e0.bs,e0.bsz,fun b _ _=>noA b,fun b z=>absurd z (noA b),e0.funs,e0.frf⟩,
  rfl,e0.bare,Un.kept hk,⟨_,x.toInCall.ns,fun i y v h1 h2 h3=>?_⟩,fun y c h=>⟨_,x.cell y c h⟩,e0.hok.fresh (Nat.le_refl _),fun y c h=>?_,fun p hp=>absurd (show p ∈ ([]:List (Addr × Obj)) from hp) (by simp),e0.hok.kept hk,?_⟩
 ·exact name_of_addr x.apart (PySem.mem_of_lookup h1) (PySem.mem_of_lookup h2)
 ·have hy:scope.names.lookup y=some .cell∨scope.names.lookup y=some .free:=hy
  rcases hy with hy | hy
  ·exact tw hy
  ·exact absurd rfl (S.nofree _ (PySem.mem_of_lookup hy))
 ·exact Nat.le_of_lt (x.above y c (PySem.mem_of_lookup h))
 ·have hi:i < vs.length:=by
   unfold start at h2
   by_cases hi:i < vs.length
   ·exact hi
   ·rw [List.getElem?_append_right (by simpa using hi)] at h2
    rw [List.getElem?_replicate] at h2
    split at h2 <;> cases h2
  have ha:vs[i]? = some v:=by
   unfold start at h2
   rw [List.getElem?_append_left (by simpa using hi),List.getElem?_map] at h2
   cases e:vs[i]? with
   | none=>rw [e] at h2;cases h2
   | some a=>rw [e] at h2;cases h2;rfl
  obtain ⟨u,hu,rv⟩:=r.get ha
  have hp:ps[i]? = some y:=by
   rw [← S.pre,List.getElem?_take_of_lt (by omega)];exact h1
  have ndP:ps.Nodup:=by rw [← S.pre];exact S.nd.sublist (List.take_sublist _ _)
  refine ⟨u,rv,?_⟩
  rcases S.par y (List.mem_of_getElem? hp) with k | k
  ·exact .inl ⟨k,Wt ndP hp hu k⟩
  ·obtain ⟨c,e⟩:=tw (n:=s.heap.objs.size + 1) k
   refine .inr ⟨.inl k,c,e,?_⟩
   have q:=x.cell y c e
   rw [Du ndP hp hu (by show scope.names.lookup y ≠ _;rw [k];decide)] at q
   exact q
 ·exact e0.hok.fresh (Nat.le_of_lt (x.above y c (PySem.mem_of_lookup h)))
 ·unfold start
  show _=N.length
  rw [List.length_append,List.length_map,List.length_replicate]
  omega
theorem oJ {CX:CXT} {P:Program} {w:World} {K:PySem.W.Frag} {mg:Str→Option Value} {base:Heap} {k:Nat} {f:Addr} {name qual:Str} {params:Arguments} {body:List Stmt} {scope:Scope} {dV kV doc pm cdv ct oc:Value} {an od:Option Addr}
  {osl:Array (Option Value)} {N ps:List Str} {sp:Sp} (lk:K.lookup f=some ⟨oc,od,.func (PySem.W.fnOf name qual params body scope dV kV doc pm an cdv ct),osl⟩) (hcd:PySem.W.codeIn K cdv qual=true) (S:rb N ps scope)
  (len:∀ vs H Q E,sp vs H Q E→vs.length=ps.length)
  (hbody:∀ (A:Around) (outer:List Env) (s:Shared) (H:Hp) (vs:List V) (Q:VK) (E:XK),Ih k (A.deeper (envOfC qual scope s.heap.objs.size f cdv))→sp vs H Q E →
   ∃ t,PSs (Lz CX P w K mg base N qual scope f cdv A outer s H E) body t∧t { nx:=fun _ H'=>Q .non H',rt:=Q } (start N vs) H) :
  Bb P w K mg base CX (k + 1) f (PySem.W.fnOf name qual params body scope dV kV doc pm an cdv ct) ps sp:=by
 refine ⟨len,fun A outer s H args us vs Q E hr e0 hb r hsp=>?_⟩
 have hl:=len _ _ _ _ hsp
 have KX:K.In s.heap:=e0.mod.kin.keeps fun b o e=>(e0.bs b o e).1
 have lim:s.heap.NoLimit:=e0.mod.nolimit.keeps fun b o e=>(e0.bs b o e).1
 have hkind:∀ y ∈ ps.zip us,scope.names.lookup y.1=some .local∨(scope.names.lookup y.1=some .cell∧((cellsFrom (s.heap.objs.size + 1) scope.names []).lookup y.1).isSome=true):=fun ⟨n,v⟩ hy=>by
  rcases S.par n (List.of_mem_zip hy).1 with q | q
  ·exact .inl q
  ·exact .inr ⟨q,PySem.W.cellsFrom_some _ _ _ (.inl q)⟩
 refine codeAny_call_function hr.depth (KX _ _ lk) rfl S.co S.gen rfl (PySem.W.codeRec_of KX hcd) (hb _ _ _ _ ?_)
 refine wpAny_newFunctionEnv_cells S.kind hkind fun env he s1 x=>?_
 subst he
 refine ⟨lim.keeps x.toInCall.keep,codeAny_func ?_⟩
 obtain ⟨t,ht,hq⟩:=hbody A outer s H vs Q E (hr.deeper _) hsp
 have I:Inv (Lz CX P w K mg base N qual scope f cdv A outer s H E) [] (start N vs) H s1:=jz S hr.hd e0 hl r x
 refine wpAny_mono (ht [] s1 (start N vs) H _ I hq) (fun fl s' hs=>?_) fun e s' hs=>hs
 have fin:∀ {σ':St} {H':Hp} {v:V} {u:Value},Inv (Lz CX P w K mg base N qual scope f cdv A outer s H E) [] σ' H' s'→Zc v u→Q v H'→CE outer P w H s Q u s':=
  fun {σ' H' v u} J rv q=>⟨v,H',J.os,J.bare,J.base,J.hok,rv,q⟩
 cases fl with
 | ret u=>
  obtain ⟨v,σ',H',J,rv,q⟩:=hs
  exact fin J rv q
 | next=>
  obtain ⟨σ',H',J,q⟩:=hs
  exact fin (v:=V.non) (u:=Value.none) J rfl q
 | brk=>
  obtain ⟨_,_,_,q⟩:=hs
  exact False.elim q
 | cont=>
  obtain ⟨_,_,_,q⟩:=hs
  exact False.elim q
end L2
namespace L2
open PySem PySem.Spec PyProof.Rows
section
variable {X:Cx} {x:Str} {p pos:Pos} {e:Expr} {es:List Expr} {t:TA} {id T:String} {r:List V→Hp→VK→Prop}
noncomputable def tCB (r:List V→Hp→VK→Prop) (t:TA):TE:=fun σ H Q=>t σ H fun vs H1=>r vs H1 Q
theorem ic (hc:Rn X (.builtin id) r) (hg:Gl X x) (hm:X.mg x=none) (hv:bootBuiltins x=some (.builtin id)) (ha:PA X (e :: es) t) (hn:x ≠ "__name__" := by decide) (hdb:(x == ("__debug__" : Str))=false:=by decide)
  (he:starEach (e :: es) X.env=(false,eval e X.env) :: starEach es X.env:=by rfl) (hpl:(backTo pos (starEach es X.env)).any (·.1)=false:=by rfl):PE X (.Call (.Name x p) (e :: es) [] pos) (tCB r t):=by
 intro pins s σ H Q I h
 refine wpAny_Call_Name_kw (ol I hg hm hv ?_ hn hdb)
 exact PyProof.Rows.callWith_builtin1 (thn (ha pos pins s σ H _ I h) fun us s1 ⟨vs,H1,I1,r1,q1⟩=>hc pins s1 σ H1 vs us Q I1 r1 q1) he hpl
theorem Vk (hc:Rn X (.type T) r) (hg:Gl X x) (hm:X.mg x=none) (hv:bootBuiltins x=some (.type T)) (ha:PA X (e :: es) t) (hn:x ≠ "__name__" := by decide) (hdb:(x == ("__debug__" : Str))=false:=by decide)
  (he:starEach (e :: es) X.env=(false,eval e X.env) :: starEach es X.env:=by rfl) (hpl:(backTo pos (starEach es X.env)).any (·.1)=false:=by rfl):PE X (.Call (.Name x p) (e :: es) [] pos) (tCB r t):=by
 intro pins s σ H Q I h
 refine wpAny_Call_Name_kw (ol I hg hm hv ?_ hn hdb)
 exact PyProof.Rows.callWith_type1 (thn (ha pos pins s σ H _ I h) fun us s1 ⟨vs,H1,I1,r1,q1⟩=>hc pins s1 σ H1 vs us Q I1 r1 q1) he hpl
end
end L2
namespace HT
open PySem PyProof.Rows
noncomputable def lexLt:List Int→List Int→Bool
 | [],[]=>false
 | [],_ :: _=>true
 | _ :: _,[]=>false
 | x :: xs,y :: ys=>if x=y then lexLt xs ys else decide (x < y)
section
open PySem.SeqAt
open PySem.AutoSeq1 (wpAny_loadPart')
open PySem.MeetsSeq PySem.MeetsSeq2 PySem.MeetsSeq3
end
section
variable {prog:Program} {w:World} {A:Around} {E:Value→Shared→Prop} {s:Shared}
noncomputable def sIx (n d:Nat):Option Int→Nat
 | none=>d
 | some v=>if v < 0 then (v + (n:Int)).toNat else min v.toNat n
end
end HT
namespace L2
open PySem PySem.Spec PyProof.Rows
noncomputable abbrev TO:=St→Hp→(Option Int→Hp→Prop)→Prop
noncomputable def PO (X:Cx) (e:Option Expr) (t:TO):Prop:=
 ∀ (pins:List (Addr × Obj)) (s:Shared) (σ:St) (H:Hp) (Q:Option Int→Hp→Prop),Inv X pins σ H s→t σ H Q →
  wpAny (model X.prog X.w) X.A (evalPart e X.env) (fun u s'=>∃ o H',Inv X pins σ H' s'∧IsPart u o∧Q o H') X.xe s
noncomputable def CA:TO:=fun _ H Q=>Q none H
noncomputable def HJ (t:TE):TO:=fun σ H Q=>t σ H fun x H1=>∃ i,x=.int i∧Q (some i) H1
theorem Dy {ns:List Int}:∀ {us:List Value},Kc (ns.map V.int) us→IntsAre us ns:=by
 induction ns with
 | nil=>intro us r;rw [List.map_nil] at r;cases r;exact .nil
 | cons n ns ih=>
  intro us r
  rw [List.map_cons] at r
  cases r with
  | cons r1 r2=>
   obtain ⟨t,e⟩:=r1
   subst e
   exact .cons n t (ih r2)
section
variable {X:Cx} {e:Expr} {te:TE} {lo hi:Option Expr} {tl th:TO} {pos p2:Pos}
theorem RA:PO X none CA:=by
 intro pins s σ H Q I h
 rw [evalPart_none]
 exact wpAny_pure ⟨none,H,I,.none,h⟩
theorem Wz (h:PE X e te):PO X (some e) (HJ te):=by
 intro pins s σ H Q I hw
 rw [evalPart_some]
 refine thn (h pins s σ H _ I hw) fun u s1 ⟨x,H1,I1,r1,q1⟩=>?_
 obtain ⟨i,rfl,q⟩:=q1
 obtain ⟨t,rfl⟩:=r1
 exact ⟨some i,H1,I1,.int i t,q⟩
noncomputable def SlR (X:Cx) (r:V→Option Int→Option Int→Hp→VK→Prop):Prop:=
 ∀ (pins:List (Addr × Obj)) (s:Shared) (σ:St) (H:Hp) (x:V) (v vl vu:Value) (lo hi:Option Int) (sl:Addr) (Q:VK),Inv X pins σ H s→Zc x v→s.heap.IsSliceOf sl vl vu .none→IsPart vl lo→IsPart vu hi→r x lo hi H Q →
  ∃ T id,typeLookup (.type T) "__getitem__"=pure (some (.builtin id))∧s.TypeIs v T∧wpAny (model X.prog X.w) X.A (getItem v (.ref sl)) (EP X pins σ Q) X.xe s
noncomputable def tSl (r:V→Option Int→Option Int→Hp→VK→Prop) (te:TE) (tl th:TO):TE:=fun σ H Q=>te σ H fun x H1=>tl σ H1 fun l H2=>th σ H2 fun u H3=>r x l u H3 Q
theorem Uw {r:V→Option Int→Option Int→Hp→VK→Prop} (hr:SlR X r) (he:PE X e te) (hl:PO X lo tl) (hu:PO X hi th):PE X (.Subscript e (.Slice lo hi none p2) pos) (tSl r te tl th):=by
 intro pins s σ H Q I h
 refine Subscript_ (thn (he pins s σ H _ I h) fun v s1 ⟨x,H1,I1,r1,q1⟩=>?_)
 refine wpAny_Slice (thn (hl pins s1 σ H1 _ I1 q1) fun vl s2 ⟨l,H2,I2,pl,q2⟩=>thn (hu pins s2 σ H2 _ I2 q2) fun vu s3 ⟨u,H3,I3,pu,q3⟩=>?_)
 rw [evalPart_none]
 refine wpAny_pure ?_
 have I4:Inv X pins σ H3 { s3 with heap:=s3.heap.push { cls:=.type "slice",data:=.fields #[vl,vu,.none] } }:=I3.kept (t':=s3.toks) fun b ob q=>Heap.get?_push_of_some _ q
 obtain ⟨T,id,hT,ht,hg⟩:=hr pins { s3 with heap:=s3.heap.push { cls:=.type "slice",data:=.fields #[vl,vu,.none] } } σ H3 x v vl vu l u s3.heap.objs.size Q I4 r1 (Heap.IsSliceOf.new ..) pl pu q3
 show wpAny (model X.prog X.w) X.A (subscriptTail e (.Slice lo hi none p2) v (.ref s3.heap.objs.size)) (EP X pins σ Q) X.xe { s3 with heap:=s3.heap.push { cls:=.type "slice",data:=.fields #[vl,vu,.none] } }
 exact tail_any (ops:=[.ref s3.heap.objs.size,v]) ht hT hg (by with_unfolding_all rfl)
noncomputable def tE (xs:List V) (lo hi:Option Int):List V:=(xs.drop (HT.sIx xs.length 0 lo)).take (HT.sIx xs.length xs.length hi - HT.sIx xs.length 0 lo)
theorem Iv (xs:List V) (lo hi:Option Int):(tE xs lo hi).length ≤ xs.length:=by
 unfold tE
 rw [List.length_take,List.length_drop]
 omega
noncomputable def FM (K:PySem.W.Frag):V→Option Int→Option Int→Hp→VK→Prop:=fun x lo hi H Q=>∃ a xs,x=.ref a∧SqT K H a xs ∧
 ¬ (HT.sIx xs.length 0 lo=0∧HT.sIx xs.length xs.length hi=xs.length)∧∀ p,H p=none→Q (.ref p) (upd H p (.tup (tE xs lo hi)))
noncomputable def YM (K:PySem.W.Frag):R2:=fun x y H Q=>∃ a b ns ms,x=.ref a∧y=.ref b∧SqT K H a (ns.map V.int)∧SqT K H b (ms.map V.int)∧Q (.bl (HT.lexLt ns ms)) H
noncomputable def GL (K:PySem.W.Frag):R2:=fun x y H Q=>∃ a b xs ys,x=.ref a∧y=.ref b∧SqT K H a xs∧SqT K H b ys∧xs ≠ []∧xs.length + ys.length ≤ sizeLine ∧
 (ys=[]→Q (.ref a) H)∧(ys ≠ []→∀ p,H p=none→Q (.ref p) (upd H p (.tup (xs ++ ys))))
end
end L2
namespace L2
open PySem PySem.Spec PyProof.Rows
noncomputable def ixN (n:Nat) (i:Int):Option Nat:=if 0 ≤ i then (if i < n then some i.toNat else none) else if -(n:Int) ≤ i then some (i + n).toNat else none
noncomputable def atI {α:Type} (xs:List α) (i:Int):Option α:=(ixN xs.length i).bind fun j=>xs[j]?
theorem BB {n:Nat} {i:Int} {j:Nat} (h:ixN n i=some j):seqIndex? i n=some j∧j < n∧-(n:Int) ≤ i∧i < n:=by
 unfold ixN at h
 by_cases h0:0 ≤ i
 ·rw [if_pos h0] at h
  by_cases h1:i < n
  ·rw [if_pos h1] at h
   have e:i.toNat=j:=Option.some.inj h
   exact ⟨by rw [seqIndex_of h0 h1,e],by omega,by omega,h1⟩
  ·rw [if_neg h1] at h;cases h
 ·rw [if_neg h0] at h
  by_cases h1:-(n:Int) ≤ i
  ·rw [if_pos h1] at h
   have e:(i + n).toNat=j:=Option.some.inj h
   exact ⟨by rw [seqIndex_neg (by omega) h1,e],by omega,h1,by omega⟩
  ·rw [if_neg h1] at h;cases h
theorem Vv {α:Type} {xs:List α} {i:Int} {v:α} (h:atI xs i=some v):∃ j,seqIndex? i xs.length=some j∧xs[j]? = some v∧j < xs.length∧-(xs.length:Int) ≤ i∧i < xs.length:=by
 unfold atI at h
 cases e:ixN xs.length i with
 | none=>rw [e] at h;cases h
 | some j=>
  rw [e] at h
  obtain ⟨h1,h2,h3,h4⟩:=BB e
  exact ⟨j,h1,h,h2,h3,h4⟩
theorem gc {α:Type} {xs:List α} {j:Nat} {v:α} (h:xs[j]? = some v):atI xs (j:Int)=some v:=by
 have hj:j < xs.length:=(List.getElem?_eq_some_iff.mp h).1
 have e:ixN xs.length (j:Int)=some j:=by
  unfold ixN
  rw [if_pos (by omega),if_pos (by omega)];simp
 unfold atI;rw [e];exact h
noncomputable def HH (b:Expr):Prop:=∀ o i,subscripted b false o i=operate [o,i] (getItem o i)
noncomputable def IxR (X:Cx) (r:R2):Prop:=
 ∀ (value slice:Expr) (pins:List (Addr × Obj)) (s:Shared) (σ:St) (H:Hp) (x y:V) (v u:Value) (Q:VK),Inv X pins σ H s→Zc x v→Zc y u→r x y H Q →
  subscripted slice false v u=operate [v,u] (getItem v u)→wpAny (model X.prog X.w) X.A (subscriptTail value slice v u) (EP X pins σ Q) X.xe s
noncomputable def MtR (X:Cx) (id:String) (r:V→List V→Hp→VK→Prop):Prop:=
 ∀ (pins:List (Addr × Obj)) (s:Shared) (σ:St) (H:Hp) (x:V) (xs:List V) (v:Value) (us:List Value) (Q:VK),Inv X pins σ H s→Zc x v→Kc xs us→r x xs H Q →
  wpAny (model X.prog X.w) X.A (call (.builtin id) (v :: us)) (EP X pins σ Q) X.xe s
section
variable {X:Cx} {a b:Expr} {ta tb:TE} {pos:Pos}
theorem Cd {r:R2} (hr:IxR X r) (ha:PE X a ta) (hb:PE X b tb) (hs:HH b):PE X (.Subscript a b pos) (tOp r ta tb):=by
 intro pins s σ H Q I h
 exact Subscript_ (wL ha hb I h fun v u s2 x y H2 I2 rx ry q=>hr a b pins s2 σ H2 x y v u Q I2 rx ry q (hs _ _))
noncomputable def YK (K:PySem.W.Frag):R2:=fun x y H Q=>∃ p xs i v,x=.ref p∧y=.int i∧SqL K H p xs∧atI xs i=some v∧Q v H
noncomputable def UK (K:PySem.W.Frag):R2:=fun x y H Q=>∃ p xs i v,x=.ref p∧y=.int i∧SqT K H p xs∧atI xs i=some v∧Q v H
noncomputable def MK:R2:=fun x y H Q=>∃ z i c,x=.str z∧y=.int i∧z.length ≤ sizeLine∧atI z.cps.toList i=some c∧Q (.str ⟨#[c]⟩) H
theorem Ld:IxR X (YK X.K):=by
 intro value slice pins s σ H x y v u Q I rx ry h hs
 obtain ⟨p,xs,i,z,rfl,rfl,hq,he,q⟩:=h
 cases rx
 obtain ⟨t,rfl⟩:=ry
 obtain ⟨its,r,pl,hz⟩:=I.list hq
 obtain ⟨j,h1,h2,h3,h4,h5⟩:=Vv he
 obtain ⟨w,ew,rw'⟩:=r.get h2
 have hl:=r.length
 have hn:=Fo
 have fin:EP X pins σ Q w s:=⟨z,H,I,rw',q⟩
 by_cases h0:0 ≤ i
 ·have hj:i.toNat=j:=by
   rw [seqIndex_of h0 h5] at h1
   exact Option.some.inj h1
  exact item_listR pl.isList h0 (by omega) (by rw [hj];simpa using ew) fin hs
 ·have hj:(i + (its.toArray.size:Int)).toNat=j:=by
   rw [seqIndex_neg (by omega) h4] at h1
   rw [List.size_toArray,← hl]
   exact Option.some.inj h1
  exact subscriptTail_builtinR (x:=w) pl.isList.typeIs slot_list_getitem.lookup
   (wpAny_getItem_list_neg (Q:=fun r s'=>r=w∧EP X pins σ Q r s') pl.isList (by omega) (by rw [List.size_toArray] <;> omega) (by omega) (by rw [hj];simpa using ew) ⟨rfl,fin⟩) hs
theorem ve:IxR X (UK X.K):=by
 intro value slice pins s σ H x y v u Q I rx ry h hs
 obtain ⟨p,xs,i,z,rfl,rfl,hq,he,q⟩:=h
 cases rx
 obtain ⟨t,rfl⟩:=ry
 obtain ⟨its,r,pl,hz⟩:=I.tuple hq
 obtain ⟨j,h1,h2,h3,h4,h5⟩:=Vv he
 obtain ⟨w,ew,rw'⟩:=r.get h2
 have hl:=r.length
 have hn:=Fo
 have fin:EP X pins σ Q w s:=⟨z,H,I,rw',q⟩
 exact subscriptTail_builtinR (x:=w) pl.typeIs slot_tuple_getitem.lookup
  (getItem_tuple (j:=j) (Q:=fun r s'=>r=w∧EP X pins σ Q r s') pl (by omega) (by omega) (by rw [List.size_toArray,← hl];exact h1) (by simpa using ew) ⟨rfl,fin⟩) hs
theorem nF:IxR X MK:=by
 intro value slice pins s σ H x y v u Q I rx ry h hs
 obtain ⟨z,i,c,rfl,rfl,hz,he,q⟩:=h
 obtain ⟨t,rfl⟩:=rx
 obtain ⟨t',rfl⟩:=ry
 obtain ⟨j,h1,h2,h3,h4,h5⟩:=Vv he
 have hl:z.cps.toList.length=z.length:=by simp [Str.length]
 rw [hl] at h1 h4 h5
 have hn:=Fo
 exact tail_any (typeIs_str s z t) slot_str_getitem.lookup (getItem_str (c:=c) (by
  have e1:decide (i < -(2 ^ 63:Int))=false:=decide_eq_false (by omega)
  have e2:decide (i ≥ 2 ^ 63)=false:=decide_eq_false (by omega)
  rw [e1,e2,Bool.or_false]) (by rw [h1];simpa using h2) ⟨.str ⟨#[c]⟩,H,I.tok _,⟨_,rfl⟩,q⟩) hs
noncomputable def rIx (K:PySem.W.Frag):R2:=fun x y H Q=>YK K x y H Q∨UK K x y H Q∨MK x y H Q
theorem Kx (its:List Value) (n j:Nat) (u:Value):Obj.mapSeq (·.setIfInBounds j u) { cls:=.type "list",data:=.seq its.toArray n } = { cls:=.type "list",data:=.seq (its.set j u).toArray n }:=by
 simp [Obj.mapSeq]
theorem Inv.lst {pins:List (Addr × Obj)} {σ:St} {H:Hp} {s:Shared} {p:Addr} {xs:List V} (I:Inv X pins σ H s) (h:H p=some (.lst xs)) :
  ∃ (its:List Value) (n:Nat),Kc xs its∧s.heap.get? p=some { cls:=.type "list",data:=.seq its.toArray n }∧xs.length ≤ sizeLine:=by
 obtain ⟨z,its,n,r,e⟩:=I.hok p _ h
 exact ⟨its,n,r,e,z⟩
theorem Inv.lstUpd {pins:List (Addr × Obj)} {σ:St} {H:Hp} {s:Shared} {p:Addr} {xs ys:List V} {its its':List Value} {n n':Nat} {f:Obj→Obj} (I:Inv X pins σ H s) (h:H p=some (.lst xs))
  (ho:s.heap.get? p=some { cls:=.type "list",data:=.seq its.toArray n }) (hf:f { cls:=.type "list",data:=.seq its.toArray n } = { cls:=.type "list",data:=.seq its'.toArray n' }) (r:Kc ys its') (hz:ys.length ≤ sizeLine) (t:Nat) :
  Inv X pins σ (upd H p (.lst ys)) { s with heap:=s.heap.update p f,toks:=t }:=by
 have e:(s.heap.update p f).get? p=some { cls:=.type "list",data:=.seq its'.toArray n' }:=by
  rw [Heap.get?_update_self f ho (by rw [hf] <;> rfl),hf]
 refine I.write (x:=p) (e:=p) (by rw [h];trivial) (.inl rfl) (fun b u hb q=>(Heap.get?_update_other _ _ (Ne.symm hb)).trans q) ⟨_,e⟩ ?_
 exact ⟨hz,its',n',r,e⟩
noncomputable def uK:V→V→V→Hp→(Hp→Prop)→Prop:=fun o i v H Q=>∃ p xs k j,o=.ref p∧i=.int k∧H p=some (.lst xs)∧ixN xs.length k=some j∧Q (upd H p (.lst (xs.set j v)))
theorem Nl:lM X uK:=by
 intro pins s σ H o i v ov iv u Q I ro ri rv h
 obtain ⟨p,xs,k,j,rfl,rfl,hp,hj,q⟩:=h
 cases ro
 obtain ⟨t,rfl⟩:=ri
 obtain ⟨its,n,r,ho,hz⟩:=I.lst hp
 obtain ⟨h1,h2,h3,h4⟩:=BB hj
 have hl:=r.length
 have hn:=Fo
 have I':Inv X pins σ (upd H p (.lst (xs.set j v))) { s with heap:=s.heap.update p (Obj.mapSeq (·.setIfInBounds j u)) }:=
  I.lstUpd hp ho (Kx its n j u) (r.set rv j) (by rw [List.length_set];exact hz) s.toks
 by_cases h0:0 ≤ k
 ·have hk:k.toNat=j:=by
   rw [seqIndex_of h0 h4] at h1
   exact Option.some.inj h1
  exact PySem.W.ki_setAt ho h0 (by omega) (by rw [List.size_toArray,← hl];exact h4) (by rw [hk];exact ⟨_,I',q⟩)
 ·have hk:(k + (its.toArray.size:Int)).toNat=j:=by
   rw [seqIndex_neg (by omega) h3] at h1
   rw [List.size_toArray,← hl]
   exact Option.some.inj h1
  exact PySem.W.ki_setBack ho (by omega) (by rw [List.size_toArray,← hl];exact h3) (by omega) (by rw [hk];exact ⟨_,I',q⟩)
theorem Pt (lo hi:Option Int) (n:Nat):(sliceBounds lo hi none n).1=((HT.sIx n 0 lo:Nat):Int)∧(sliceBounds lo hi none n).2.1=((HT.sIx n n hi:Nat):Int)∧(sliceBounds lo hi none n).2.2=1:=by
 refine ⟨?_,?_,rfl⟩
 ·cases lo with
  | none=>simp [sliceBounds,HT.sIx]
  | some i=>
   simp only [sliceBounds,HT.sIx,Option.getD_none,show (1:Int) > 0 by decide,if_true]
   by_cases h:i < 0
   ·simp only [h,if_true] <;> omega
   ·simp only [h,if_false] <;> omega
 ·cases hi with
  | none=>simp [sliceBounds,HT.sIx]
  | some i=>
   simp only [sliceBounds,HT.sIx,Option.getD_none,show (1:Int) > 0 by decide,if_true]
   by_cases h:i < 0
   ·simp only [h,if_true] <;> omega
   ·simp only [h,if_false] <;> omega
theorem Ks (its:List Value) (lo hi:Option Int):slicePick its.toArray lo hi none=((its.drop (HT.sIx its.length 0 lo)).take (HT.sIx its.length its.length hi - HT.sIx its.length 0 lo)).toArray:=by
 obtain ⟨h1,h2,h3⟩:=Pt lo hi its.toArray.size
 unfold slicePick
 rw [h1,h2,h3]
 simp only [sliceRange_one,pick_run,List.size_toArray] <;> rfl
noncomputable def aM (K:PySem.W.Frag):V→Option Int→Option Int→Hp→VK→Prop:=fun x lo hi H Q=>∃ a xs,x=.ref a∧SqL K H a xs∧∀ p,H p=none→Q (.ref p) (upd H p (.lst (tE xs lo hi)))
theorem aI:SlR X (aM X.K):=by
 intro pins s σ H x v vl vu lo hi sl Q I rx hs pl pu h
 obtain ⟨a,xs,rfl,hx,q⟩:=h
 cases rx
 obtain ⟨its,r,ht,hz⟩:=I.list hx
 have hlen:=r.length
 refine ⟨"list",_,slot_list_getitem.lookup,ht.isList.typeIs,?_⟩
 refine wpAny_getItem_list_slice ht.isList hs pl pu .none (by simp) ?_ (by rw [List.size_toArray] <;> omega)
 rw [Ks,← hlen]
 refine ⟨.ref s.heap.objs.size,_,I.laid (t':=s.toks) (o:=.lst (tE xs lo hi)) (fun b ob q=>Heap.get?_push_of_some _ q) (Nat.le_refl _) ?_,rfl,q _ (I.hok.fresh (Nat.le_refl _))⟩
 exact ⟨Nat.le_trans (Iv xs lo hi) hz,_,0,(r.drop (HT.sIx xs.length 0 lo)).take (HT.sIx xs.length xs.length hi - HT.sIx xs.length 0 lo),Heap.get?_push_size _ rfl⟩
noncomputable def Ak:V→Bool
 | .non=>true
 | .bl _=>true
 | .int _=>true
 | .str _=>true
 | _=>false
noncomputable def eqV:V→V→Bool
 | .non,.non=>true
 | .bl a,.bl b=>a == b
 | .bl a,.int b=>(if a then 1 else 0) == b
 | .int a,.bl b=>a == (if b then 1 else 0)
 | .int a,.int b=>a == b
 | .str a,.str b=>a == b
 | _,_=>false
theorem zK {A:Around} {s:Shared} {y x:V} {u v:Value} (ry:Zc y u) (rx:Zc x v) (fy:Ak y=true) (fx:Ak x=true):SeqAt.EqAt A s u v (eqV y x):=by
 cases y with
 | non=>
  cases ry
  cases x with
  | non=>cases rx;exact SeqAt.EqAt.same _
  | bl b=>cases rx;exact SeqAt.EqAt.none_bool b
  | int b=>obtain ⟨t,rfl⟩:=rx;exact SeqAt.EqAt.none_int b t
  | str b=>obtain ⟨t,rfl⟩:=rx;exact SeqAt.EqAt.none_str b t
  | _=>exact absurd (show false=true from fx) Bool.false_ne_true
 | bl a=>
  cases ry
  cases x with
  | non=>cases rx;exact SeqAt.EqAt.bool_none a
  | bl b=>cases rx;exact SeqAt.EqAt.bool_bool a b
  | int b=>obtain ⟨t,rfl⟩:=rx;exact SeqAt.EqAt.bool_int a b t
  | str b=>obtain ⟨t,rfl⟩:=rx;exact SeqAt.EqAt.bool_str a b t
  | _=>exact absurd (show false=true from fx) Bool.false_ne_true
 | int a=>
  obtain ⟨t',rfl⟩:=ry
  cases x with
  | non=>cases rx;exact SeqAt.EqAt.int_none a t'
  | bl b=>cases rx;exact SeqAt.EqAt.int_bool a t' b
  | int b=>obtain ⟨t,rfl⟩:=rx;exact SeqAt.EqAt.int_int a t' b t
  | str b=>obtain ⟨t,rfl⟩:=rx;exact SeqAt.EqAt.int_str a t' b t
  | _=>exact absurd (show false=true from fx) Bool.false_ne_true
 | str a=>
  obtain ⟨t',rfl⟩:=ry
  cases x with
  | non=>cases rx;exact SeqAt.EqAt.str_none a t'
  | bl b=>cases rx;exact SeqAt.EqAt.str_bool a t' b
  | int b=>obtain ⟨t,rfl⟩:=rx;exact SeqAt.EqAt.str_int a t' b t
  | str b=>obtain ⟨t,rfl⟩:=rx;exact SeqAt.EqAt.str_str a t' b t
  | _=>exact absurd (show false=true from fx) Bool.false_ne_true
 | _=>exact absurd (show false=true from fy) Bool.false_ne_true
noncomputable def eqU (x:V) (u:Value):Bool:=match u with
 | .none=>eqV .non x
 | .bool b=>eqV (.bl b) x
 | .int i _=>eqV (.int i) x
 | .str z _=>eqV (.str z) x
 | _=>false
theorem NE {x y:V} {u:Value} (r:Zc y u) (f:Ak y=true):eqU x u=eqV y x:=by
 cases y with
 | non=>cases r;rfl
 | bl b=>cases r;rfl
 | int i=>obtain ⟨t,rfl⟩:=r;rfl
 | str z=>obtain ⟨t,rfl⟩:=r;rfl
 | _=>exact absurd (show false=true from f) Bool.false_ne_true
theorem Qn {x:V}:∀ {xs:List V} {us:List Value},Kc xs us→xs.all Ak=true→us.any (eqU x)=xs.any fun y=>eqV y x
 | _,_,.nil,_=>rfl
 | y :: xs,u :: us,.cons r t,f=>by
  rw [List.all_cons,Bool.and_eq_true] at f
  rw [List.any_cons,List.any_cons,NE r f.1,Qn t f.2]
theorem Wk {A:Around} {s:Shared} {x:V} {v:Value} (rx:Zc x v) (fx:Ak x=true):∀ {xs:List V} {us:List Value},Kc xs us→xs.all Ak=true→∀ u ∈ us,SeqAt.EqAt A s u v (eqU x u)
 | _,_,.nil,_=>fun u hu=>by cases hu
 | y :: xs,u :: us,.cons r t,f=>fun u' hu=>by
  rw [List.all_cons,Bool.and_eq_true] at f
  rcases List.mem_cons.mp hu with rfl | hu
  ·rw [NE r f.1];exact zK r rx f.1 fx
  ·exact Wk rx fx t f.2 u' hu
noncomputable def inV (x:V) (xs:List V):Bool:=xs.any fun y=>eqV y x
noncomputable def rIn (K:PySem.W.Frag) (neg:Bool):R2:=fun x y H Q=>∃ p xs,y=.ref p∧(SqL K H p xs∨SqT K H p xs)∧Ak x=true∧xs.all Ak=true∧Q (.bl (if neg then !inV x xs else inV x xs)) H
theorem zp:OpR X (compareOp .In) (rIn X.K false):=by
 intro pins s σ H x y v u Q I rx ry h
 obtain ⟨p,xs,rfl,hq,fx,fs,q⟩:=h
 cases ry
 rcases hq with hq | hq
 ·obtain ⟨its,r,pl,hz⟩:=I.list hq
  refine SeqAt.in_listAt (eqU x) pl.isList (fun w hw=>Wk rx fx r fs w (by simpa using hw)) ⟨.bl _,H,I,rfl,?_⟩
  rw [show its.toArray.any (eqU x)=its.any (eqU x) by simp,Qn r fs]
  exact q
 ·obtain ⟨its,r,pl,hz⟩:=I.tuple hq
  refine SeqAt.in_tupleAt (eqU x) pl (fun w hw=>Wk rx fx r fs w (by simpa using hw)) ⟨.bl _,H,I,rfl,?_⟩
  rw [show its.toArray.any (eqU x)=its.any (eqU x) by simp,Qn r fs]
  exact q
theorem Dt:OpR X (compareOp .NotIn) (rIn X.K true):=by
 intro pins s σ H x y v u Q I rx ry h
 obtain ⟨p,xs,rfl,hq,fx,fs,q⟩:=h
 cases ry
 rcases hq with hq | hq
 ·obtain ⟨its,r,pl,hz⟩:=I.list hq
  refine SeqAt.notIn_listAt (eqU x) pl.isList (fun w hw=>Wk rx fx r fs w (by simpa using hw)) ⟨.bl _,H,I,rfl,?_⟩
  rw [show its.toArray.any (eqU x)=its.any (eqU x) by simp,Qn r fs]
  exact q
 ·obtain ⟨its,r,pl,hz⟩:=I.tuple hq
  refine SeqAt.notIn_tupleAt (eqU x) pl (fun w hw=>Wk rx fx r fs w (by simpa using hw)) ⟨.bl _,H,I,rfl,?_⟩
  rw [show its.toArray.any (eqU x)=its.any (eqU x) by simp,Qn r fs]
  exact q
theorem ac:Rn X (.builtin "len") (fun xs H Q=>∃ p ys,xs=[.ref p]∧(SqL X.K H p ys∨SqT X.K H p ys)∧Q (.int ys.length) H):=by
 intro pins s σ H xs us Q I r h
 obtain ⟨p,ys,rfl,hq,q⟩:=h
 obtain ⟨u,rfl,rx⟩:=zu r
 cases rx
 have hn:=Fo
 rcases hq with hq | hq
 ·obtain ⟨its,r',pl,hz⟩:=I.list hq
  have hlen:=r'.length
  exact Calls.call_len_list pl.isList (by simp only [List.size_toArray] <;> omega) ⟨.int ys.length,H,I.tok _,⟨s.toks + 1,by rw [List.size_toArray,hlen]⟩,q⟩
 ·obtain ⟨its,r',pl,hz⟩:=I.tuple hq
  have hlen:=r'.length
  exact len_tuple pl (by simp only [List.size_toArray] <;> omega) ⟨.int ys.length,H,I.tok _,⟨s.toks + 1,by rw [List.size_toArray,hlen]⟩,q⟩
theorem Ht:Rn X (.builtin "len") (fun xs H Q=>∃ z,xs=[.str z]∧z.length ≤ sizeLine∧Q (.int z.length) H):=by
 intro pins s σ H xs us Q I r h
 obtain ⟨z,rfl,hz,q⟩:=h
 obtain ⟨u,rfl,t,rfl⟩:=zu r
 have hn:=Fo
 exact len_str (by omega) ⟨.int z.length,H,I.tok _,⟨_,rfl⟩,q⟩
noncomputable def tyV (K:PySem.W.Frag) (T:String) (x:V) (H:Hp):Prop:=match x with
 | .str _=>T = "str"
 | .int _=>T = "int"
 | .ref p=>(T = "list" ∧ ∃ xs,SqL K H p xs)∨(T = "tuple" ∧ ∃ o,K.lookup p=some o∧o.cls=.type "tuple" ∧ o.dict=none) ∨
   (T = "dict" ∧ ((∃ kvs,H p=some (.dK kvs))∨∃ kvs,H p=some (.dT kvs)))∨(T = "set" ∧ ∃ S n,H p=some (.set S n))
 | _=>False
theorem WI {pins:List (Addr × Obj)} {σ:St} {H:Hp} {s:Shared} {T:String} {x:V} {v:Value} (I:Inv X pins σ H s) (r:Zc x v) (ty:tyV X.K T x H) :
  s.TypeIs v T∧∀ a,v=.ref a→∃ ob,s.heap.get? a=some ob∧ob.dict=none:=by
 cases x with
 | str z=>
  obtain ⟨t,rfl⟩:=r
  cases (show T = "str" from ty)
  exact ⟨typeIs_str s z t,fun _ e=>nomatch e⟩
 | int i=>
  obtain ⟨t,rfl⟩:=r
  cases (show T = "int" from ty)
  exact ⟨typeIs_int s i t,fun _ e=>nomatch e⟩
 | ref p=>
  cases r
  rcases ty with ⟨rfl,xs,hq⟩ | ⟨rfl,o,hk,hc,hd⟩ | ⟨rfl,hk⟩ | ⟨rfl,S,n,hk⟩
  ·obtain ⟨its,_,pl,_⟩:=I.list hq
   refine ⟨pl.isList.typeIs,fun a e=>?_⟩
   cases e
   obtain ⟨o,n,e,c,hd,_⟩:=pl
   exact ⟨o,e,hd⟩
  ·refine ⟨⟨o,I.kIn p o hk,hc⟩,fun a e=>?_⟩
   cases e
   exact ⟨o,I.kIn _ o hk,hd⟩
  ·have z:∃ o,s.heap.get? p=some o∧o.ExactDict:=by
    rcases hk with ⟨kvs,hk⟩ | ⟨kvs,hk⟩
    ·obtain ⟨_,_,_,_,o,_,_,e,ex,_⟩:=I.hok p _ hk
     exact ⟨o,e,ex⟩
    ·obtain ⟨_,_,_,_,o,_,_,e,ex,_⟩:=I.hok p _ hk
     exact ⟨o,e,ex⟩
   obtain ⟨o,e,ex⟩:=z
   refine ⟨⟨o,e,ex.1⟩,fun a e2=>?_⟩
   cases e2
   exact ⟨o,e,ex.2.1⟩
  ·obtain ⟨o,_,_,_,e,ex,_⟩:=I.hok p _ hk
   refine ⟨⟨o,e,ex.1⟩,fun a e2=>?_⟩
   cases e2
   exact ⟨o,e,ex.2.1⟩
 | _=>exact False.elim ty
noncomputable def VM (K:PySem.W.Frag) (T:String) (r:V→List V→Hp→VK→Prop) (to:TE):TE:=fun σ H Q=>to σ H fun x H1=>tyV K T x H1∧r x [] H1 Q
noncomputable def tBM (K:PySem.W.Frag) (T:String) (r:V→List V→Hp→VK→Prop) (to:TE) (t:TA):TE:=fun σ H Q=>to σ H fun x H1=>tyV K T x H1∧t σ H1 fun xs H2=>r x xs H2 Q
variable {o e:Expr} {es:List Expr} {to:TE} {t:TA} {name:Str} {apos cpos:Pos} {T id:String} {r:V→List V→Hp→VK→Prop}
theorem Ft (pa:PlainAttrs T) (slot:Slot T name id) (hty:typeOf (.builtin id)=pure (.type "method_descriptor")) (hm:MtR X id r) (ho:PE X o to) (ha:PA X (e :: es) t)
  (hbase:attributeBase o name X.env (eval o X.env)=eval o X.env:=by rfl)
  (hfew:((backTo cpos (starEach (e :: es) X.env)).all (fun x=>!x.1) && (backToKw cpos (keywordEach [] X.env)).all (fun x=>x.1.isSome)
   && decide ((e :: es).length + ([]:List Keyword).length + (if ([]:List Keyword).isEmpty then 0 else 1) < 30))=true:=by rfl)
  (hline:(apos.endLine == cpos.line)=true:=by rfl) (hs:starEach (e :: es) X.env=(false,eval e X.env) :: starEach es X.env:=by rfl) (hplain:(backTo cpos (starEach es X.env)).any (·.1)=false:=by rfl) :
  PE X (.Call (.Attribute o name apos) (e :: es) [] cpos) (tBM X.K T r to t):=by
 intro pins s σ H Q I h
 refine wpAny_Call_method_late hbase hfew hline rfl (thn (ho pins s σ H _ I h) fun v s1 ⟨x,H1,I1,r1,ty,q1⟩=>?_)
 obtain ⟨h1,h2⟩:=WI I1 r1 ty
 refine ⟨T,id,pa,slot,hty,h1,h2,?_⟩
 have hA:=ha cpos pins s1 σ H1 _ I1 q1
 rw [hs] at hA ⊢
 refine Calls.callWith_builtin (by show (false || (backTo cpos (starEach es X.env)).any (·.1))=false;rw [hplain] <;> rfl) (Calls.evalArgs_plain ?_)
 exact thn hA fun us s2 ⟨vs,H2,I2,r2,q2⟩=>hm pins s2 σ H2 x vs v us Q I2 r1 r2 q2
end
end L2
namespace L2
open PySem PySem.Spec PyProof.Rows
noncomputable def MtM (X:Cx) (id:String) (r:V→List V→Hp→VK→Prop):Prop:=
 ∀ (pins:List (Addr × Obj)) (s:Shared) (σ:St) (H:Hp) (x:V) (xs:List V) (v:Value) (us:List Value) (Q:VK),Inv X pins σ H s→Zc x v→Kc xs us→r x xs H Q →
  wpAny (model X.prog X.w) X.A (call (.builtin id) (v :: us)) (EP X pins σ Q) X.xe s
theorem Kc.one:∀ {x:V} {us:List Value},Kc [x] us→∃ u,us=[u]∧Zc x u
 | _,_,.cons r .nil=>⟨_,rfl,r⟩
theorem Kc.zero:∀ {us:List Value},Kc [] us→us=[]
 | _,.nil=>rfl
theorem Kc.dropLast {xs:List V} {us:List Value} (h:Kc xs us):Kc xs.dropLast us.dropLast:=by
 induction h with
 | nil=>exact .nil
 | cons r t ih=>
  cases t with
  | nil=>exact .nil
  | cons q t'=>exact .cons r ih
theorem Kc.eraseIdx:∀ {xs:List V} {us:List Value} (i:Nat),Kc xs us→Kc (xs.eraseIdx i) (us.eraseIdx i)
 | _,_,_,.nil=>.nil
 | _,_,0,.cons _ t=>t
 | _,_,i + 1,.cons r t=>.cons r (Kc.eraseIdx i t)
theorem Kc.reverse {xs:List V} {us:List Value} (h:Kc xs us):Kc xs.reverse us.reverse:=by
 induction h with
 | nil=>exact .nil
 | cons r t ih=>rw [List.reverse_cons,List.reverse_cons];exact Kc.append ih (.cons r .nil)
section
variable {X:Cx} {pins:List (Addr × Obj)} {σ:St} {H:Hp} {s:Shared} {l b:Addr} {xs ys zs:List V}
theorem Inv.lset {its its':List Value} {n:Nat} {f:Array Value→Array Value} {t':Nat} (I:Inv X pins σ H s) (hH:H l=some (.lst xs))
  (e:s.heap.get? l=some { cls:=.type "list",data:=.seq its.toArray n }) (hf:f its.toArray=its'.toArray) (hv:Kc ys its') (hz:ys.length ≤ sizeLine) :
  Inv X pins σ (upd H l (.lst ys)) { s with heap:=s.heap.update l (Obj.mapSeq f),toks:=t' }:=by
 have q:=PySem.IsL.update e f
 rw [hf] at q
 refine I.write (x:=l) (e:=l) (by rw [hH];exact trivial) (.inl rfl) (fun b' u hb hu=>(Heap.get?_update_other s.heap (Obj.mapSeq f) (Ne.symm hb)).trans hu) ⟨_,q⟩ ?_
 exact ⟨hz,its',_,hv,q⟩
theorem Inv.lnew {its:List Value} {t':Nat} (I:Inv X pins σ H s) (hv:Kc ys its) (hz:ys.length ≤ sizeLine) :
  Inv X pins σ (upd H s.heap.objs.size (.lst ys)) { s with heap:=s.heap.push { cls:=.type "list",data:=.seq its.toArray },toks:=t' }:=
 I.laid (fun _ _ q=>Heap.get?_push_of_some _ q) (Nat.le_refl _) ⟨hz,its,0,hv,Heap.get?_push_size _ rfl⟩
theorem Inv.fresh (I:Inv X pins σ H s):H s.heap.objs.size=none:=I.hok.fresh (Nat.le_refl _)
theorem Inv.lstM (I:Inv X pins σ H s) (hH:H l=some (.lst xs)):xs.length ≤ sizeLine∧∃ (its:List Value) (n:Nat),Kc xs its∧xs.length=its.length∧s.heap.get? l=some { cls:=.type "list",data:=.seq its.toArray n }:=by
 obtain ⟨z,its,n,r,e⟩:=I.hok l _ hH
 exact ⟨z,its,n,r,r.length,e⟩
end
section
variable {X:Cx}
noncomputable def gB:V→List V→Hp→VK→Prop:=fun x vs H Q=>∃ l xs y,x=.ref l∧vs=[y]∧H l=some (.lst xs)∧xs.length < sizeLine∧Q .non (upd H l (.lst (xs ++ [y])))
theorem Oi:MtM X "list.append" gB:=by
 intro pins s σ H x vs v us Q I rx rv h
 obtain ⟨l,xs,y,rfl,rfl,hH,hz,q⟩:=h
 cases rx
 obtain ⟨u,rfl,ru⟩:=rv.one
 obtain ⟨z,its,n,r,hl,e⟩:=I.lstM hH
 refine call_meets F.slot_list_append ⟨_,e,rfl⟩ F.entry_list_append (F.args_list_append_2 _ _) (PySem.list_append l its.toArray n u (by rw [List.size_toArray];omega)) ⟨e,?_⟩
 refine ⟨.non,_,I.lset (its':=its ++ [u]) hH e (by simp) (r.append (.cons ru .nil)) ?_,rfl,q⟩
 rw [List.length_append,List.length_singleton]
 omega
noncomputable def DH:V→List V→Hp→VK→Prop:=fun x vs H Q=>∃ l b xs zs,x=.ref l∧vs=[.ref b]∧H l=some (.lst xs)∧H b=some (.lst zs)∧xs.length + zs.length ≤ sizeLine∧Q .non (upd H l (.lst (xs ++ zs)))
noncomputable def UM:V→List V→Hp→VK→Prop:=fun x vs H Q=>∃ l xs y,x=.ref l∧vs=[]∧H l=some (.lst xs)∧xs[xs.length - 1]? = some y∧Q y (upd H l (.lst xs.dropLast))
noncomputable def CJ:V→List V→Hp→VK→Prop:=fun x vs H Q=>∃ l xs i k y,x=.ref l∧vs=[.int i]∧H l=some (.lst xs)∧-(2 ^ 63) ≤ i∧i < 2 ^ 63∧seqIndex? i xs.length=some k∧xs[k]? = some y∧Q y (upd H l (.lst (xs.eraseIdx k)))
noncomputable def aE:V→List V→Hp→VK→Prop:=fun x vs H Q=>∃ l xs,x=.ref l∧vs=[]∧H l=some (.lst xs)∧Q .non (upd H l (.lst xs.reverse))
noncomputable def cK:V→List V→Hp→VK→Prop:=fun x vs H Q=>∃ l xs,x=.ref l∧vs=[]∧H l=some (.lst xs)∧Q .non (upd H l (.lst []))
noncomputable def QL:R2:=fun x y H Q=>∃ l b xs zs,x=.ref l∧y=.ref b∧H l=some (.lst xs)∧H b=some (.lst zs)∧xs.length + zs.length ≤ sizeLine∧∀ p,H p=none→Q (.ref p) (upd H p (.lst (xs ++ zs)))
theorem aK:OpR X (binaryOp .Add) QL:=by
 intro pins s σ H x y v u Q I rx ry h
 obtain ⟨l,b,xs,zs,rfl,rfl,hH,hB,hz,q⟩:=h
 cases rx
 cases ry
 obtain ⟨z,its,n,r,hl,e⟩:=I.lstM hH
 obtain ⟨z2,its2,n2,r2,hl2,e2⟩:=I.lstM hB
 refine PySem.P.add_list e e2 ?_ (by rw [List.size_toArray,List.size_toArray];omega)
 have ea:its.toArray ++ its2.toArray=(its ++ its2).toArray:=by simp
 rw [ea]
 exact ⟨.ref _,_,I.lnew (t':=s.toks) (r.append r2) (by rw [List.length_append];omega),rfl,q _ I.fresh⟩
noncomputable def IM:R2:=fun x y H Q=>∃ l k xs,x=.ref l∧y=.int k∧H l=some (.lst xs)∧-(2 ^ 63) ≤ k∧k < 2 ^ 63∧xs.length * k.toNat ≤ sizeLine ∧
 ∀ p,H p=none→Q (.ref p) (upd H p (.lst (List.replicate k.toNat xs).flatten))
end
section
variable {prog:Program} {w:World} {A:Around} {E:Value→Shared→Prop} {s:Shared}
end
section
variable {X:Cx}
end
end L2
namespace L2
open PySem PySem.Spec PyProof.Rows
section
variable {κ:Type} [DecidableEq κ]
noncomputable def Jk (kvs:List (κ × V)) (k:κ):Option V:=(kvs.find? fun kv=>decide (kv.1=k)).map (·.2)
noncomputable def kt (kvs:List (κ × V)) (k:κ) (v:V):List (κ × V):=
 if (kvs.any fun kv=>decide (kv.1=k))=true then kvs.map (fun kv=>if kv.1=k then (kv.1,v) else kv) else kvs ++ [(k,v)]
noncomputable def Qt (kvs:List (κ × V)) (k:κ):List (κ × V):=kvs.filter fun kv=>decide (kv.1 ≠ k)
theorem Nr {p:κ × V} {r:List (κ × V)} {k:κ} (e:p.1=k):Jk (p :: r) k=some p.2:=by simp [Jk,List.find?_cons,e]
theorem Ts {p:κ × V} {r:List (κ × V)} {k:κ} (e:¬ p.1=k):Jk (p :: r) k=Jk r k:=by simp [Jk,List.find?_cons,e]
theorem Rw (k:κ):∀ kvs:List (κ × V),(kvs.any fun kv=>decide (kv.1=k))=(Jk kvs k).isSome
 | []=>rfl
 | p :: r=>by
  rw [List.any_cons]
  by_cases e:p.1=k
  ·simp only [Nr e,decide_eq_true e,Bool.true_or,Option.isSome_some]
  ·rw [Ts e,decide_eq_false e,Bool.false_or];exact Rw k r
theorem Yn (kvs:List (κ × V)) (k:κ) (v:V):(kt kvs k v).length ≤ kvs.length + 1:=by
 unfold kt
 split
 ·rw [List.length_map];omega
 ·rw [List.length_append,List.length_cons,List.length_nil];omega
theorem Cp.isSome_eq {o:Option V} {u:Option Value} (r:Cp o u):o.isSome=u.isSome:=by
 cases o with
 | none=>cases u with
  | none=>rfl
  | some _=>exact (show False from r).elim
 | some _=>cases u with
  | none=>exact (show False from r).elim
  | some _=>rfl
theorem Cp.getD {o:Option V} {u:Option Value} {d:V} {d':Value} (r:Cp o u) (rd:Zc d d'):Zc (o.getD d) (u.getD d'):=by
 cases o with
 | none=>cases u with
  | none=>exact rd
  | some _=>exact (show False from r).elim
 | some _=>cases u with
  | none=>exact (show False from r).elim
  | some _=>exact r
theorem KV.val {kvs:List (κ × V)} {vs:List (κ × Value)} (r:KV kvs vs) (k:κ):Cp (Jk kvs k) (valueAt vs k):=by
 unfold KV at r
 induction r with
 | nil=>exact True.intro
 | @cons p q ps qs h t ih=>
  obtain ⟨h1,h2⟩:=h
  by_cases e:p.1=k
  ·have e':q.1=k:=h1.symm.trans e
   have b:valueAt (q :: qs) k=some q.2:=by simp [valueAt,List.find?_cons,e']
   rw [Nr e,b];exact h2
  ·have e':¬ q.1=k:=fun z=>e (h1.trans z)
   have b:valueAt (q :: qs) k=valueAt qs k:=by simp [valueAt,List.find?_cons,e']
   rw [Ts e,b];exact ih
theorem KV.any {kvs:List (κ × V)} {vs:List (κ × Value)} (r:KV kvs vs) (k:κ):(kvs.any fun kv=>decide (kv.1=k))=vs.any fun kv=>decide (kv.1=k):=by
 unfold KV at r
 induction r with
 | nil=>rfl
 | cons h t ih=>rw [List.any_cons,List.any_cons,ih,h.1]
theorem KV.repl {kvs:List (κ × V)} {vs:List (κ × Value)} (r:KV kvs vs) (k:κ) {y:V} {u:Value} (ry:Zc y u) :
  KV (kvs.map fun kv=>if kv.1=k then (kv.1,y) else kv) (vs.map fun kv=>if kv.1=k then (kv.1,u) else kv):=by
 unfold KV at r ⊢
 induction r with
 | nil=>exact .nil
 | @cons p q ps qs h t ih=>
  rw [List.map_cons,List.map_cons]
  refine .cons ?_ ih
  obtain ⟨h1,h2⟩:=h
  by_cases e:p.1=k
  ·rw [if_pos e,if_pos (h1.symm.trans e)];exact ⟨h1,ry⟩
  ·rw [if_neg e,if_neg (fun z=>e (h1.trans z))];exact ⟨h1,h2⟩
theorem KV.put {kvs:List (κ × V)} {vs:List (κ × Value)} (r:KV kvs vs) (k:κ) {y:V} {u:Value} (ry:Zc y u):KV (kt kvs k y) (stored vs k u):=by
 unfold kt stored
 rw [r.any k]
 by_cases e:(vs.any fun kv=>decide (kv.1=k))=true
 ·rw [if_pos e,if_pos e];exact r.repl k ry
 ·rw [if_neg e,if_neg e];exact Paired.snoc r ⟨rfl,ry⟩
theorem KV.drop {kvs:List (κ × V)} {vs:List (κ × Value)} (r:KV kvs vs) (k:κ):KV (Qt kvs k) (without vs k):=by
 unfold KV at r ⊢
 unfold Qt without
 induction r with
 | nil=>exact .nil
 | @cons p q ps qs h t ih=>
  obtain ⟨h1,h2⟩:=h
  rw [List.filter_cons,List.filter_cons]
  by_cases e:p.1=k
  ·have a:¬ decide (p.1 ≠ k)=true:=by simp [e]
   have b:¬ decide (q.1 ≠ k)=true:=by simp [h1.symm.trans e]
   rw [if_neg a,if_neg b];exact ih
  ·have e':¬ q.1=k:=fun z=>e (h1.trans z)
   have a:decide (p.1 ≠ k)=true:=by simp [e]
   have b:decide (q.1 ≠ k)=true:=by simp [e']
   rw [if_pos a,if_pos b];exact .cons ⟨h1,h2⟩ ih
theorem KV.length {kvs:List (κ × V)} {vs:List (κ × Value)} (r:KV kvs vs):kvs.length=vs.length:=Paired.length r
end
theorem lE {P:Program} {w:World} {k:Key} {u:Value} (r:Zc (kV k) u):(Ie P w).is k u=true:=by
 cases k with
 | inl i=>obtain ⟨t,e⟩:=(show ∃ t,u=Value.int i t from r);subst e;exact Wu P w i t
 | inr x=>obtain ⟨t,e⟩:=(show ∃ t,u=Value.str x t from r);subst e;exact wv P w x t
theorem Rt {P:Program} {w:World}:∀ {ks:List Key} {us:List Value},Kc (ks.map kV) us→ItemsAre (Ie P w) ks us
 | [],_,r=>by rw [List.map_nil] at r;cases r;exact .nil
 | k :: ks,_,r=>by
  rw [List.map_cons] at r
  cases r with
  | cons h t=>exact .cons (lE h) (Rt t)
noncomputable abbrev KT (H:Hp):List (List Key × V)→List (List Key × Addr × Value)→Prop:=Paired fun p q=>p.1=q.1∧H q.2.1=some (.tup (p.1.map kV))∧Zc p.2 q.2.2
theorem KT.val {H:Hp} {kvs:List (List Key × V)} {xs:List (List Key × Addr × Value)} (r:KT H kvs xs) (k:List Key):Cp (Jk kvs k) ((atKey xs k).map (·.2)):=by
 induction r with
 | nil=>exact True.intro
 | @cons p q ps qs h t ih=>
  obtain ⟨h1,_,h2⟩:=h
  by_cases e:p.1=k
  ·have e':q.1=k:=h1.symm.trans e
   have b:atKey (q :: qs) k=some q.2:=by simp [atKey,List.find?_cons,e']
   rw [Nr e,b];exact h2
  ·have e':¬ q.1=k:=fun z=>e (h1.trans z)
   have b:atKey (q :: qs) k=atKey qs k:=by simp [atKey,List.find?_cons,e']
   rw [Ts e,b];exact ih
theorem KT.repl {H:Hp} {kvs:List (List Key × V)} {xs:List (List Key × Addr × Value)} (r:KT H kvs xs) (k:List Key) {y:V} {u:Value} (ry:Zc y u) :
  KT H (kvs.map fun kv=>if kv.1=k then (kv.1,y) else kv) (xs.map (putAt k u)):=by
 induction r with
 | nil=>exact .nil
 | @cons p q ps qs h t ih=>
  rw [List.map_cons,List.map_cons]
  refine .cons ?_ ih
  obtain ⟨h1,h2,h3⟩:=h
  unfold putAt
  by_cases e:p.1=k
  ·rw [if_pos e,if_pos (h1.symm.trans e)];exact ⟨h1,h2,ry⟩
  ·rw [if_neg e,if_neg (fun z=>e (h1.trans z))];exact ⟨h1,h2,h3⟩
theorem KT.put {H:Hp} {kvs:List (List Key × V)} {xs:List (List Key × Addr × Value)} (r:KT H kvs xs) (k:List Key) {b:Addr} {y:V} {u:Value} (hb:H b=some (.tup (k.map kV))) (ry:Zc y u) :
  KT H (kt kvs k y) (storedH xs k b u):=by
 have e:(kvs.any fun kv=>decide (kv.1=k))=(atKey xs k).isSome:=by
  rw [Rw,(r.val k).isSome_eq,Option.isSome_map]
 unfold kt storedH
 rw [e]
 by_cases q:(atKey xs k).isSome=true
 ·rw [if_pos q,if_pos q];exact r.repl k ry
 ·rw [if_neg q,if_neg q];exact Paired.snoc r ⟨rfl,hb,ry⟩
theorem KT.keeps {H H':Hp} {kvs:List (List Key × V)} {xs:List (List Key × Addr × Value)} (r:KT H kvs xs) (ht:∀ b ys,H b=some (.tup ys)→H' b=some (.tup ys)):KT H' kvs xs:=
 Paired.mapP r fun _ _ z=>⟨z.1,ht _ _ z.2.1,z.2.2⟩
section
variable {P:Program} {w:World} {H:Hp} {h:Heap} {a:Addr}
theorem SJ {u:HO} (ok:HOk P w H h) (e:Rd H a u):Xc P w H h a u:=e.ok ok
theorem CC {kvs:List (Key × V)} (ok:HOk P w H h) (e:Rd H a (.dK kvs)):kvs.length ≤ sizeLine∧(a == sysModules)=false∧∃ vs,KV kvs vs∧h.DictOf (Ie P w) a vs:=
 show Xc P w H h a (.dK kvs) from SJ ok e
theorem FL {kvs:List (Key × V)} (ok:HOk P w H h) (e:H a=some (.dK kvs)):kvs.length ≤ sizeLine∧(a == sysModules)=false∧∃ vs,KV kvs vs∧h.DictOf (Ie P w) a vs:=CC ok (.inl e)
theorem Yw {ks:List Key} (ok:HOk P w H h) (e:H a=some (.tup (ks.map kV))):(tupleKind (Ie P w)).is h ks a:=by
 obtain ⟨_,its,r,o,h1,h2,n,h3⟩:=(show Xc P w H h a (.tup (ks.map kV)) from ok a _ e)
 exact ⟨o,its.toArray,n,h1,h2,h3,by simpa using Rt r⟩
theorem VC {kvs:List (List Key × V)} (ok:HOk P w H h) (e:Rd H a (.dT kvs)):kvs.length ≤ sizeLine∧(a == sysModules)=false ∧
  ∃ xs,KT H kvs xs∧h.DictOfH (tupleKind (Ie P w)) a xs:=by
 obtain ⟨z,y,xs,r,o,es,ep,h1,h2,h3,h4,h5⟩:=(show Xc P w H h a (.dT kvs) from SJ ok e)
 refine ⟨z,y,xs,r,o,es,ep,h1,h2,h3,h4,fun x hx=>?_,h5⟩
 have all:∀ {l:List (List Key × V)} {m:List (List Key × Addr × Value)},KT H l m→∀ x ∈ m,(tupleKind (Ie P w)).is h x.1 x.2.1:=by
  intro l m q
  induction q with
  | nil=>intro x hx;exact nomatch hx
  | @cons p q ps qs hq t ih=>
   intro x hx
   rcases List.mem_cons.mp hx with e | hx
   ·subst e
    exact Yw ok (by rw [← hq.1];exact hq.2.1)
   ·exact ih x hx
 exact all r x hx
theorem OL {kvs:List (List Key × V)} (ok:HOk P w H h) (e:H a=some (.dT kvs)):kvs.length ≤ sizeLine∧(a == sysModules)=false ∧
  ∃ xs,KT H kvs xs∧h.DictOfH (tupleKind (Ie P w)) a xs:=VC ok (.inl e)
end
noncomputable def Bk (H:Hp) (a:Addr) (y:V) (r:Option V):Prop:=
 (∃ kvs k,Rd H a (.dK kvs)∧y=kV k∧r=Jk kvs k)∨∃ kvs k b,Rd H a (.dT kvs)∧y=.ref b∧H b=some (.tup (k.map kV))∧r=Jk kvs k
noncomputable def By (H:Hp) (a:Addr) (y v:V) (H':Hp):Prop:=
 (∃ kvs k,H a=some (.dK kvs)∧y=kV k∧kvs.length < sizeLine∧H'=upd H a (.dK (kt kvs k v))) ∨
 ∃ kvs k b,H a=some (.dT kvs)∧y=.ref b∧H b=some (.tup (k.map kV))∧kvs.length < sizeLine∧H'=upd H a (.dT (kt kvs k v))
theorem Bk.k {H:Hp} {a:Addr} {kvs:List (Key × V)} {k:Key} (e:H a=some (.dK kvs)):Bk H a (kV k) (Jk kvs k):=.inl ⟨kvs,k,.inl e,rfl,rfl⟩
theorem Bk.t {H:Hp} {a b:Addr} {kvs:List (List Key × V)} {k:List Key} (e:H a=some (.dT kvs)) (eb:H b=some (.tup (k.map kV))):Bk H a (.ref b) (Jk kvs k):=.inr ⟨kvs,k,b,.inl e,rfl,eb,rfl⟩
theorem By.k {H:Hp} {a:Addr} {kvs:List (Key × V)} {k:Key} {v:V} (e:H a=some (.dK kvs)) (hl:kvs.length < sizeLine):By H a (kV k) v (upd H a (.dK (kt kvs k v))):=.inl ⟨kvs,k,e,rfl,hl,rfl⟩
theorem By.t {H:Hp} {a b:Addr} {kvs:List (List Key × V)} {k:List Key} {v:V} (e:H a=some (.dT kvs)) (eb:H b=some (.tup (k.map kV))) (hl:kvs.length < sizeLine) :
  By H a (.ref b) v (upd H a (.dT (kt kvs k v))):=.inr ⟨kvs,k,b,e,rfl,eb,hl,rfl⟩
section
variable {X:Cx} {pins:List (Addr × Obj)} {σ:St} {H:Hp} {s:Shared} {a:Addr} {y v:V} {u r:Value} {o:Option V} {A:Around} {E:Value→Shared→Prop}
theorem Inv.big (I:Inv X pins σ H s):sysModules < s.heap.objs.size:=by
 have h:mainGlobals < s.heap.objs.size:=(I.mod.glob.keeps I.bk).lt
 exact Nat.lt_trans (by decide) h
theorem vz {Q:Value→Shared→Prop} (hu:A.units + 1 < cLine) (I:Inv X pins σ H s) (g:Bk H a y (some v)) (ry:Zc y u) (h:∀ w' s',Inv X pins σ H s'→Zc v w'→Q w' s') :
  wpAny (model X.prog X.w) A (getItem (.ref a) u) Q E s:=by
 rcases g with ⟨kvs,k,e,ey,l⟩ | ⟨kvs,k,b,e,ey,eb,l⟩
 ·subst ey
  obtain ⟨z,hd,vs,rel,dd⟩:=CC I.hok e
  obtain ⟨w',hw,rw'⟩:=Cp.some_of (v:=v) (o:=valueAt vs k) (by rw [l];exact rel.val k)
  exact wpAny_getItem_of (lE ry) dd.mapOf hw (h w' _ (I.tok _) rw')
 ·subst ey
  cases (show u=Value.ref b from ry)
  obtain ⟨z,hd,xs,rel,dd⟩:=VC I.hok e
  obtain ⟨w',hw,rw'⟩:=Cp.some_of (v:=v) (o:=(atKey xs k).map (·.2)) (by rw [l];exact rel.val k)
  obtain ⟨p,hp,hp2⟩:=Option.map_eq_some_iff.mp hw
  refine wpAny_getItem_heap (tupleKind_room_in1 hu) (Yw I.hok eb) dd hp ?_
  rw [hp2]
  exact h w' _ (I.tok _) rw'
theorem eI {Q:Value→Shared→Prop} (hu:A.units + 1 < cLine) (I:Inv X pins σ H s) (g:Bk H a y o) (ry:Zc y u) (h:∀ s',Inv X pins σ H s'→Q (.bool (!o.isSome)) s') :
  wpAny (model X.prog X.w) A (compareOp .NotIn u (.ref a)) Q E s:=by
 rcases g with ⟨kvs,k,e,ey,l⟩ | ⟨kvs,k,b,e,ey,eb,l⟩
 ·subst ey
  obtain ⟨z,hd,vs,rel,dd⟩:=CC I.hok e
  refine wpAny_notIn_of (lE ry) hd dd.mapOf ?_
  rw [← (rel.val k).isSome_eq,← l]
  exact h _ (I.tok _)
 ·subst ey
  cases (show u=Value.ref b from ry)
  obtain ⟨z,hd,xs,rel,dd⟩:=VC I.hok e
  refine wpAny_notIn_heap (tupleKind_room_in1 hu) (Yw I.hok eb) hd dd ?_
  have q:=(rel.val k).isSome_eq
  rw [Option.isSome_map] at q
  rw [← q,← l]
  exact h _ (I.tok _)
theorem xB {h':Heap} {t':Nat} {ob:HO} (I:Inv X pins σ H s) (mu:Mut (H a)) (hs:Heap.SameBut a s.heap h') (he:∃ q,h'.get? a=some q) (new:Xc X.prog X.w (upd H a ob) h' a ob) :
  Inv X pins σ (upd H a ob) { s with heap:=h',toks:=t' }:=
 I.write (x:=a) (e:=a) mu (.inl rfl) (fun b q hb z=>(hs.2 b hb).trans z) he new
theorem pI {P:Program} {w:World} {H':Hp} {h':Heap} {kvs:List (Key × V)} {vs:List (Key × Value)} (z:kvs.length ≤ sizeLine) (hd:(a == sysModules)=false) (rel:KV kvs vs) (dd:h'.DictOf (Ie P w) a vs) :
  Xc P w H' h' a (.dK kvs):=⟨z,hd,vs,rel,dd⟩
theorem Xz {H':Hp} {Q:Unit→Shared→Prop} (hu:A.units + 1 < cLine) (I:Inv X pins σ H s) (g:By H a y v H') (ry:Zc y u) (rv:Zc v r) (h:∀ s',Inv X pins σ H' s'→Q () s') :
  wpAny (model X.prog X.w) A (setItem (.ref a) u r) Q E s:=by
 rcases g with ⟨kvs,k,e,ey,l,eH⟩ | ⟨kvs,k,b,e,ey,eb,l,eH⟩
 ·subst ey eH
  obtain ⟨z,hd,vs,rel,dd⟩:=FL I.hok e
  have hz:vs.length ≤ sizeLine:=by rw [← rel.length];exact z
  have hl:(kt kvs k v).length ≤ sizeLine:=by have:=Yn kvs k v;omega
  refine wpAny_setItem_pairs (hsz:=hz) (lE ry) dd fun h' dd' hs=>h _ ?_
  have he:∃ q,h'.get? a=some q:=let ⟨q,_,_,hq,_⟩:=dd';⟨q,hq⟩
  exact xB I (by rw [e];exact True.intro) hs he (pI hl hd (rel.put k rv) dd')
 ·subst ey eH
  cases (show u=Value.ref b from ry)
  obtain ⟨z,hd,xs,rel,dd⟩:=OL I.hok e
  have hz:xs.length ≤ sizeLine:=by rw [← Paired.length rel];exact z
  have hl:(kt kvs k v).length ≤ sizeLine:=by have:=Yn kvs k v;omega
  refine wpAny_setItem_heap (hsz:=hz) (tupleKind_room_in1 hu) (Yw I.hok eb) dd fun h' dd' hs=>h _ ?_
  obtain ⟨q,es,ep,hq,h2,h3,h4,_,h5⟩:=dd'
  refine xB I (by rw [e];exact True.intro) hs ⟨q,hq⟩ ⟨hl,hd,_,(rel.put k eb rv).keeps fun c ys ec=>?_,q,es,ep,hq,h2,h3,h4,h5⟩
  rw [jb (Yf ec e (fun z=>nomatch z))]
  exact ec
end
section
variable {X:Cx} {pins:List (Addr × Obj)} {σ:St} {H:Hp} {s:Shared} {a:Addr} {kvs:List (Key × V)} {k:Key} {u:Value} {A:Around} {E:Value→Shared→Prop}
end
noncomputable def oM (i:Expr):Prop:=∀ ov iv,subscripted i false ov iv=operate [ov,iv] (getItem ov iv)
theorem KH {prog:Program} {w:World} {A:Around} {E:Value→Shared→Prop} {s:Shared} {env:Env} {value slice:Expr} {pos:Pos} {T id:String} {Q:Value→Shared→Prop}
  (hl:typeLookup (.type T) "__getitem__"=pure (some (.builtin id))) (hs:oM slice)
  (h:wpAny (model prog w) A (eval value env) (fun o s₁=>wpAny (model prog w) A (eval slice env) (fun i s₂=>s₂.TypeIs o T∧wpAny (model prog w) A (getItem o i) Q E s₂) E s₁) E s) :
  wpAny (model prog w) A (eval (.Subscript value slice pos) env) Q E s:=by
 refine Subscript_ (wpAny_mono h (fun o s₁ h₁=>wpAny_mono h₁ (fun i s₂ h₂=>?_) fun _ _ x=>x) fun _ _ x=>x)
 obtain ⟨hT,h₂⟩:=h₂
 unfold subscriptTail
 refine wpAny_bind ?_
 rw [getitemInPython_of_ne hT.not_modules]
 refine wpAny_bind (wpAny_specialOf hT hl ?_)
 have fin:wpAny (model prog w) A (subscripted slice false o i) (fun r s₃=>wpAny (model prog w) A (letTemporaryGo value o r >>= fun _=>pure r) Q E s₃) E s₂:=by
  rw [hs o i]
  exact wpAny_operating (wpAny_mono h₂ (fun r s₃ h₃=>wpAny_bind (wpAny_letTemporaryGo (wpAny_pure h₃))) fun _ _ x=>x)
 first
  | exact wpAny_pure (wpAny_bind fin)
  | exact wpAny_bind (wpAny_pure (wpAny_bind fin))
  | exact wpAny_bind fin
theorem Sv {X:Cx} {pins:List (Addr × Obj)} {σ:St} {H:Hp} {s:Shared} {a:Addr} {y:V} {o:Option V} (I:Inv X pins σ H s) (g:Bk H a y o):s.TypeIs (.ref a) "dict" := by
 rcases g with ⟨kvs,k,e,_,_⟩ | ⟨kvs,k,b,e,_,_,_⟩
 ·obtain ⟨_,_,vs,_,dd⟩:=CC I.hok e
  exact dd.typeIs
 ·obtain ⟨_,_,xs,_,dd⟩:=VC I.hok e
  exact dd.typeIs
noncomputable def eJ (td ty:TE):TE:=fun σ H Q=>td σ H fun x H1=>ty σ H1 fun y H2=>∃ a v,x=.ref a∧Bk H2 a y (some v)∧Q v H2
noncomputable def GM (ty td:TE):TE:=fun σ H Q=>ty σ H fun y H1=>td σ H1 fun x H2=>∃ a o,x=.ref a∧Bk H2 a y o∧Q (.bl o.isSome) H2
noncomputable def Nz (ty td:TE):TE:=fun σ H Q=>ty σ H fun y H1=>td σ H1 fun x H2=>∃ a o,x=.ref a∧Bk H2 a y o∧Q (.bl (!o.isSome)) H2
noncomputable def rK (td ty tv:TE):TS:=fun D σ H=>tv σ H fun v H1=>td σ H1 fun x H2=>ty σ H2 fun y H3=>∃ a H4,x=.ref a∧By H3 a y v H4∧D.nx σ H4
noncomputable def xL (td ty tv:TE) (rd:V→V→Hp→VK→Prop):TS:=fun D σ H=>td σ H fun x H1=>ty σ H1 fun y H2=>∃ a v,x=.ref a∧Bk H2 a y (some v) ∧
 tv σ H2 fun y2 H3=>rd v y2 H3 fun z H4=>∃ H5,By H4 a y z H5∧D.nx σ H5
noncomputable def kL (td ty:TE):TS:=fun D σ H=>td σ H fun x H1=>ty σ H1 fun y H2=>∃ a kvs k,x=.ref a∧H2 a=some (.dK kvs)∧y=kV k∧(Jk kvs k).isSome=true∧D.nx σ (upd H2 a (.dK (Qt kvs k)))
section
variable {X:Cx} {o i e value:Expr} {pos pos' tpos:Pos} {td ty tv:TE}
theorem sk (hu:X.A.units + 1 < cLine) (ho:PE X o td) (hi:PE X i ty) (hs:oM i):PE X (.Subscript o i pos) (eJ td ty):=by
 intro pins s σ H Q I h
 refine KH PySem.F.slot_dict_getitem.lookup hs (thn (ho pins s σ H _ I h) fun u s1 ⟨x,H1,I1,rx,q1⟩=>thn (hi pins s1 σ H1 _ I1 q1) fun iv s2 ⟨y,H2,I2,ry,a,v,ex,g,q2⟩=>?_)
 subst ex
 obtain rfl:u=Value.ref a:=rx
 exact ⟨Sv I2 g,vz hu I2 g ry fun w' s3 I3 rw'=>⟨v,H2,I3,rw',q2⟩⟩
theorem ju (hu:X.A.units + 1 < cLine) (hi:PE X i ty) (ho:PE X o td):PC X .NotIn i o (Nz ty td):=by
 intro pins s σ H Q I h
 refine thn (hi pins s σ H _ I h) fun iv s1 ⟨y,H1,I1,ry,q1⟩=>thn (ho pins s1 σ H1 _ I1 q1) fun u s2 ⟨x,H2,I2,rx,a,ov,ex,g,q2⟩=>?_
 subst ex
 obtain rfl:u=Value.ref a:=rx
 exact eI hu I2 g ry fun s3 I3=>⟨.bl (!ov.isSome),H2,I3,rfl,q2⟩
theorem Gr (hu:X.A.units + 1 < cLine) (ho:PE X o td) (hi:PE X i ty) (hv:PE X value tv) (hs:swapsWith value (some (.Subscript o i pos')) pos.line X.env=pure false) :
  PS X (.Assign [.Subscript o i pos'] value pos) (rK td ty tv):=by
 intro pins s σ H D I h
 refine wpAny_Assign_Subscript (thn (hv pins s σ H _ I h) fun r s1 ⟨v,H1,I1,rv,q1⟩=>thn (ho pins s1 σ H1 _ I1 q1) fun u s2 ⟨x,H2,I2,rx,q2⟩=>thn (hi pins s2 σ H2 _ I2 q2) fun iv s3 ⟨y,H3,I3,ry,a,H4,ex,g,q3⟩=>?_) hs
 subst ex
 obtain rfl:u=Value.ref a:=rx
 exact Xz hu I3 g ry rv fun s4 I4=>⟨σ,H4,I4,q3⟩
end
theorem nD {P:Program} {w:World} {H:Hp} (h:Heap) (hb:sysModules < h.objs.size):Xc P w H (h.push { cls:=.type "dict",data:=.dict #[] }) h.objs.size (.dK []):=
 ⟨Nat.zero_le _,beq_eq_false_iff_ne.mpr (Ne.symm (Nat.ne_of_lt hb)),[],.nil,Heap.DictOf.new h⟩
noncomputable def XE:TE:=fun _ H Q=>∀ p,H p=none→Q (.ref p) (upd H p (.dK []))
noncomputable def BK:TE:=fun _ H Q=>∀ p,H p=none→Q (.ref p) (upd H p (.dT []))
section
variable {X:Cx} {pos:Pos}
theorem En:PE X (.Dict [] [] pos) XE:=fun pins s σ H Q I h=>
 wpAny_Dict_empty ⟨.ref s.heap.objs.size,_,I.laid (a:=s.heap.objs.size) (o:=.dK []) (t':=s.toks) (fun _ _ q=>Heap.get?_push_of_some _ q) (Nat.le_refl _) (nD s.heap I.big),rfl,h _ (I.hok.fresh (Nat.le_refl _))⟩
end
noncomputable def zB:List (TE × TE)→St→Hp→(List (V × V)→Hp→Prop)→Prop
 | [],_,H,Q=>Q [] H
 | (tk,tv) :: r,σ,H,Q=>tk σ H fun x H1=>tv σ H1 fun y H2=>zB r σ H2 fun ps H3=>Q ((x,y) :: ps) H3
noncomputable def qF (kvs more:List (Key × V)):List (Key × V):=more.foldl (fun acc kv=>kt acc kv.1 kv.2) kvs
noncomputable def uL (trs:List (TE × TE)):TE:=fun σ H Q=>∀ p,H p=none→zB trs σ (upd H p (.dK [])) fun ps H2=>H2 p=some (.dK [])∧∃ kvs:List (Key × V),ps=kvs.map (fun kv=>(kV kv.1,kv.2))∧kvs.length ≤ 15∧Q (.ref p) (upd H2 p (.dK (qF [] kvs)))
structure M1 (X:Cx) (o:Expr) (m:Str) (apos:Pos) (e:Expr) (cpos:Pos):Prop where
 base:attributeBase o m X.env (eval o X.env)=eval o X.env
 few:((backTo cpos (starEach [e] X.env)).all (fun x=>!x.1) && (backToKw cpos (keywordEach [] X.env)).all (fun x=>x.1.isSome)
  && decide (([e]:List Expr).length + ([]:List Keyword).length + (if ([]:List Keyword).isEmpty then 0 else 1) < 30))=true
 line:(apos.endLine == cpos.line)=true
 trees:backTo cpos (starEach [e] X.env)=[(false,eval e X.env)]
structure M2 (X:Cx) (o:Expr) (m:Str) (apos:Pos) (e f:Expr) (cpos:Pos):Prop where
 base:attributeBase o m X.env (eval o X.env)=eval o X.env
 few:((backTo cpos (starEach [e,f] X.env)).all (fun x=>!x.1) && (backToKw cpos (keywordEach [] X.env)).all (fun x=>x.1.isSome)
  && decide (([e,f]:List Expr).length + ([]:List Keyword).length + (if ([]:List Keyword).isEmpty then 0 else 1) < 30))=true
 line:(apos.endLine == cpos.line)=true
 trees:backTo cpos (starEach [e,f] X.env)=[(false,eval e X.env),(false,eval f X.env)]
noncomputable def IsD (H:Hp) (a:Addr):Prop:=(∃ kvs,Rd H a (.dK kvs))∨∃ kvs,Rd H a (.dT kvs)
section
variable {X:Cx} {pins:List (Addr × Obj)} {σ:St} {H:Hp} {s:Shared} {a:Addr} {y d:V} {u r:Value} {o:Option V} {A:Around} {E:Value→Shared→Prop}
end
noncomputable def bK (td ty:TE):TE:=fun σ H Q=>td σ H fun x H1=>∃ a,x=.ref a∧IsD H1 a∧ty σ H1 fun y H2=>∃ o,Bk H2 a y o∧Q (o.getD .non) H2
noncomputable def bJ (td ty tx:TE):TE:=fun σ H Q=>td σ H fun x H1=>∃ a,x=.ref a∧IsD H1 a∧ty σ H1 fun y H2=>tx σ H2 fun z H3=>∃ o,Bk H3 a y o∧Q (o.getD z) H3
noncomputable def hJ (td ty:TE):TE:=fun σ H Q=>td σ H fun x H1=>∃ a,x=.ref a∧IsD H1 a∧ty σ H1 fun y H2=>∃ kvs k v,H2 a=some (.dK kvs)∧y=kV k∧Jk kvs k=some v∧Q v (upd H2 a (.dK (Qt kvs k)))
noncomputable def nJ (td ty tx:TE):TE:=fun σ H Q=>td σ H fun x H1=>∃ a,x=.ref a∧IsD H1 a∧ty σ H1 fun y H2=>tx σ H2 fun z H3=>∃ kvs k,H3 a=some (.dK kvs)∧y=kV k ∧
 (∀ v,Jk kvs k=some v→Q v (upd H3 a (.dK (Qt kvs k))))∧(Jk kvs k=none→Q z H3)
section
variable {X:Cx} {o e f:Expr} {apos cpos:Pos} {td ty tx:TE}
end
section
variable {X:Cx} {pins:List (Addr × Obj)} {σ:St} {H:Hp} {s:Shared} {a:Addr} {kvs:List (Key × V)} {A:Around} {E:Value→Shared→Prop}
end
section
variable {X:Cx} {pins:List (Addr × Obj)} {σ:St} {H:Hp} {s:Shared} {a:Addr} {y:V} {u:Value} {A:Around} {E:Value→Shared→Prop}
end
end L2
namespace Att
open PySem PySem.W PySem.Calls PyProof.Rows
theorem Bo {P:Params} {h:Heap}:∀ (ns:List Int) (vs:List Value),WellAll P h vs (ns.map WData.int)→IntsAre vs ns:=by
 intro ns
 induction ns with
 | nil=>
  intro vs w
  rw [List.map_nil] at w
  cases w
  exact .nil
 | cons n ns ih=>
  intro vs w
  rw [List.map_cons] at w
  cases w with
  | cons a b=>
   cases a
   exact .cons _ _ (ih _ b)
theorem MB {l:OpenLaw} {n:Nat} (hn:l.most=some n) {P:Params} {h:Heap} {args:List WData} {vals:List Value}
  (hpre:l.row.toRowW.claim.pre args=true) (hwl:WellAll P h vals args) :
  ∃ a vs ns,vals=[Value.ref a]∧args=[WData.list (ns.map WData.int)]∧h.get? a=some { cls:=.type "list",data:=.seq vs.toArray }∧IntsAre vs ns∧ns.length ≤ n:=by
 have hsh:WShape.hasAll [] args [.list .int]=true:=(pre_splitW hpre).1
 have hc:l.pre.holds [] { args:=args }=true:=(pre_splitW hpre).2
 obtain ⟨d,r,rfl,h1,h2⟩:=hasAllW_cons hsh
 obtain rfl:=hasAllW_nil h2
 obtain ⟨xs,rfl,h3⟩:=hasW_list h1
 obtain ⟨ns,rfl⟩:=items_int h3
 have hlen:ns.length ≤ n:=by
  unfold OpenLaw.pre at hc
  have h4:(WTm.not (.lt (.lit (.int (n:Int))) (.len (.arg 0)))).holds [] { args:=[.list (ns.map .int)] }=true:=by
   have h4:=(holds_andW hc).1
   rw [hn] at h4
   exact h4
  have h5:=condW_of h4 (w_not (w_lt w_lit (w_len_list (w_arg rfl))))
  rw [List.length_map] at h5
  refine Nat.le_of_not_lt fun q=>?_
  have q':(n:Int) < ((ns.length:Nat):Int):=by omega
  first
   | (rw [decide_eq_true q'] at h5;exact absurd h5 (by decide))
   | (simp at h5;omega)
 cases hwl with
 | cons w1 w2=>
  cases w2
  cases w1 with
  | list ho hall=>exact ⟨_,_,ns,rfl,rfl,ho,Bo ns _ hall,hlen⟩
theorem Qz (l:OpenLaw) (args:List WData):l.row.toRowW.claim.post args (.bool true) args=true:=
 postW_of (r:=l.row.toRowW) (X:=(true == true))
  (show WShape.has [] (.bool true) .bool=true by first | rfl | decide | simp [WShape.has,WShape.arms,WShape.armsAll])
  (show (WTm.eq .res (.lit (.bool true))).value [] { args:=args,res:=some (.bool true),after:=args }=some (.bool (true == true)) from w_eq_bool (w_res rfl) w_lit) rfl
theorem attach_call {l:OpenLaw} {n:Nat} {q:Program} {loose:List Str} {XP:(Str→Option Value)→Heap→Prop} {YP:World→Heap→Prop} {d:DefRec}
  (hn:l.most=some n) (hdf:d.params.defaults=[])
  (call:∀ (w:World) (s₀ s₁:Shared) (mg mb:Str→Option Value) (fa:Addr) (o:Obj) (pm cd doc:Value) (a:Addr) (vs:List Value) (ns:List Int),
   Ground q loose [] XP w s₀ mg mb s₁.heap→YP w s₁.heap →
   s₁.heap.get? fa=some o→o.data=.func (docDef d.name d.params d.body d.scope pm cd doc)→s₁.heap.CodeRec cd d.name→mg d.name=some (.ref fa) →
   s₁.heap.get? a=some { cls:=.type "list",data:=.seq vs.toArray }→IntsAre vs ns→ns.length ≤ n→s₁.gens=#[] →
   codeAny (model l.prog w) callerA (.call (.ref fa) ⟨[.ref a],[]⟩) (fun r s'=>r=.ok (.ret (.bool true))∧OldK s₁.heap s'.heap∧s'.os=s₁.os∧AllBare s'.gens) s₁) :
  WalkO q loose XP YP l.row.toRowW d [] (fun f vs=>PySem.call f vs):=by
 intro w s₀ s₁ mg mb G Y fa o pm cd doc dV kV ho hd hcd hD hmg hg args vals as hpre hlay hrd hwl hlo
 obtain rfl:dV=.none:=Dflts.none hD hdf
 obtain rfl:kV=.none:=Dflts.noKw hD
 obtain ⟨a,vs,ns,rfl,rfl,hobj,hints,hlen⟩:=MB hn hpre hwl
 refine enter_call (codeAny_mono (call w s₀ s₁ mg mb fa o pm cd doc a vs ns G Y ho (fd_plain hd) hcd hmg hobj hints hlen hg) fun r s' hq=>?_)
 obtain ⟨rfl,h2,h3,h4⟩:=hq
 exact ⟨.inl ⟨.bool true,.bool true,[],rfl,fun _=>rfl,.bool true,Qz l _,fun _=>⟨List.Pairwise.nil,fun _ hm=>(nomatch hm)⟩⟩,h2,h3,h4⟩
section
variable {prog:Program} {w:World} {A:Around} {E:Value→Shared→Prop} {s:Shared} {K:Frag}
end
end Att
namespace L2
open PySem PySem.Spec PyProof.Rows
theorem wt:∀ {vs:List Value} {ns:List Int},IntsAre vs ns→Kc (ns.map V.int) vs
 | _,_,.nil=>.nil
 | _,_,.cons n t h=>.cons ⟨t,rfl⟩ (wt h)
noncomputable def yK (H:Hp):Prop:=∀ b,H b=none∨∃ o xs,H b=some (.frz o (.lst xs))
theorem AC {P:Program} {w:World} {K:PySem.W.Frag} {mg mb:Str→Option Value} {CX:CXT} {k:Nat} {fa a:Addr} {fd:FuncData} {x:Str} {sp:Sp} {s₁:Shared} {vs:List Value} {ns:List Int}
  (KX:K.In s₁.heap) (hns:s₁.heap.Ns mainGlobals mg) (hb:s₁.heap.Ns builtinsNs mb) (hbb:∀ x:Str,x ≠ "__name__" → mb x=bootBuiltins x) (hlim:s₁.heap.NoLimit) (hg:s₁.gens=#[])
  (ha:s₁.heap.get? a=some { cls:=.type "list",data:=.seq vs.toArray }) (hi:IntsAre vs ns) (hl:ns.length ≤ sizeLine) (hr:Ih k callerA)
  (F:∀ base:Heap,K.In base→base.Ns mainGlobals mg→Bb P w K mg base CX k fa fd [x] sp) (hbind:∀ (s:Shared) (u:Value),BindsTo s fd ⟨[u],[]⟩ [(x,u)])
  (hsp:∀ H:Hp,yK H→SqL K H a (ns.map V.int)→sp [.ref a] H (fun v _=>v=.bl true) fun _ _ _=>False)
  (hCX:∀ H e s',CX [] H s₁ (fun _ _ _=>False) e s'→False) :
  codeAny (model P w) callerA (.call (.ref fa) ⟨[.ref a],[]⟩) (fun r s'=>r=.ok (.ret (.bool true))∧OldK s₁.heap s'.heap∧s'.os=s₁.os∧AllBare s'.gens) s₁:=by
 have rv:=wt hi
 have lenV:=hi.length
 -- from an abstract heap in which nothing but the script may be tracked
 have core:∀ H:Hp,yK H→SqL K H a (ns.map V.int)→HOk P w H s₁.heap→(∀ b,H b ≠ none→b=a)→(H a ≠ none→K.lookup a=none) →
   codeAny (model P w) callerA (.call (.ref fa) ⟨[.ref a],[]⟩) (fun r s'=>r=.ok (.ret (.bool true))∧OldK s₁.heap s'.heap∧s'.os=s₁.os∧AllBare s'.gens) s₁:=by
  intro H hO hS hok hA hK
  have base_of:∀ {b:Addr} {o:Obj},s₁.heap.get? b=some o→H b=none→(kD s₁.heap H).get? b=some o:=fun e n=>xD e n
  have noA:∀ {b:Addr} {o:Obj} {es:Array DictEntry} {ep:Nat},s₁.heap.get? b=some o→o.data=.dict es ep→H b=none:=fun {b o es ep} e d=>by
   cases q:H b with
   | none=>rfl
   | some u=>
    have e':b=a:=hA b (by rw [q];simp)
    subst e'
    rw [ha] at e;cases e
    have d':Data.seq vs.toArray _=Data.dict es ep:=d
    cases d'
  have nsK:∀ {b:Addr} {m:Str→Option Value},s₁.heap.Ns b m→(kD s₁.heap H).Ns b m:=fun {b m} ⟨o,es,ep,e,d,r⟩=>⟨o,es,ep,base_of e (noA e d),d,r⟩
  have hKb:K.In (kD s₁.heap H):=fun b o e=>base_of (KX b o e) (by
   cases q:H b with
   | none=>rfl
   | some u=>
    have e':b=a:=hA b (by rw [q];simp)
    subst e'
    rw [hK (by rw [q];simp)] at e;cases e)
  have hM:Mod K mg (kD s₁.heap H):=⟨hKb,nsK hns,⟨mb,nsK hb,hbb⟩,let ⟨mc,h1,h2⟩:=hlim;⟨mc,nsK h1,h2⟩⟩
  have e0:QA P w K mg (kD s₁.heap H) callerA [] s₁ H:=⟨rfl,hM,fun b o e=>QG e,Nat.le_of_eq (rA _ _),trivial,fun b hb=>absurd (show b ∈ ([]:List Addr) from hb) (by simp),hok,.of_eq hg⟩
  refine codeAny_mono ((F _ hKb (nsK hns)).run callerA [] s₁ H ⟨[.ref a],[]⟩ [.ref a] [.ref a] _ _ hr e0 (hbind s₁ (.ref a)) (.cons rfl .nil) (hsp H hO hS)) fun r s' h=>?_
  cases r with
  | error e=>exact (hCX H e s' h).elim
  | ok fl=>
   cases fl with
   | next=>exact False.elim h
   | brk=>exact False.elim h
   | cont=>exact False.elim h
   | ret u=>
    obtain ⟨v,H',os,bare,un,hok',r',q⟩:=h
    have q':v=.bl true:=q
    subst q'
    obtain rfl:u=Value.bool true:=r'
    refine ⟨rfl,OldK.of_keep fun b o e=>?_,os,bare⟩
    cases q:H b with
    | none=>exact un.keep b o e q (by intro z;exact absurd (show b ∈ ([]:List Addr) from z) (by simp)) (by simp)
    | some u=>
     rcases hO b with z | ⟨ob,xs,z⟩
     ·rw [q] at z;cases z
     ·have z2:=un.frzs b ob _ z
      obtain ⟨e1,_⟩:=hok b _ z
      obtain ⟨e2,_⟩:=hok' b _ z2
      rw [e] at e1;cases e1
      exact e2
 cases hk:K.lookup a with
 | some o=>
  -- the script is one of the module's own objects
  have e:=KX a o hk
  rw [ha] at e
  cases e
  refine core (fun _=>none) (fun _=>.inl rfl) (.inr ⟨_,vs.toArray,_,hk,rfl,rfl,rfl,by rw [List.size_toArray,lenV];exact hl,by simpa using rv⟩) (fun b u z=>by have z':(none:Option HO)=some u:=z;cases z') (fun b z=>absurd rfl z) fun z=>absurd rfl z
 | none=>
  refine core (fun b=>if b=a then some (.frz { cls:=.type "list",data:=.seq vs.toArray } (.lst (ns.map V.int))) else none) (fun b=>?_) (.inl (.inr ⟨{ cls:=.type "list",data:=.seq vs.toArray },if_pos rfl⟩)) (fun b u z=>?_) (fun b z=>?_) fun _=>hk
  ·by_cases hb:b=a
   ·exact .inr ⟨_,_,if_pos hb⟩
   ·exact .inl (if_neg hb)
  ·by_cases hb:b=a
   ·have z':=(if_pos hb).symm.trans z
    cases z'
    subst hb
    exact ⟨ha,by rw [List.length_map];exact hl,vs,_,rv,ha⟩
   ·have z':=(if_neg hb).symm.trans z
    cases z'
  ·by_cases hb:b=a
   ·exact hb
   ·exact absurd (if_neg hb) z
end L2
namespace L2
open PySem PySem.Spec PyProof.Rows
noncomputable abbrev KOf {K:PySem.W.Frag} {h:Heap} (_:K.In h):PySem.W.Frag:=K
theorem XH {l:PySem.W.OpenLaw} {n k:Nat} {q:Program} {loose:List Str} {XP:(Str→Option Value)→Heap→Prop} {YP:World→Heap→Prop} {d:DefRec} {K:Params→PySem.W.Frag} {CX:World→CXT} {sp:World→Sp} {x:Str}
  (hn:l.most=some n) (hn2:n ≤ sizeLine) (hdf:d.params.defaults=[]) (hr:Ih k callerA)
  (hY:∀ (w:World) (h:Heap),YP w h→(K w.params).In h)
  (F:∀ (w:World) (mg:Str→Option Value) (fa:Addr) (h:Heap),(K w.params).In h→h.Ns mainGlobals mg→mg d.name=some (.ref fa) →
   ∃ fd:FuncData,(∀ (s:Shared) (u:Value),BindsTo s fd ⟨[u],[]⟩ [(x,u)]) ∧
    ∀ base:Heap,(K w.params).In base→base.Ns mainGlobals mg→Bb l.prog w (K w.params) mg base (CX w) k fa fd [x] (sp w))
  (hsp:∀ (w:World) (H:Hp) (a:Addr) (ns:List Int),ns.length ≤ n→yK H→SqL (K w.params) H a (ns.map V.int)→sp w [.ref a] H (fun v _=>v=.bl true) fun _ _ _=>False)
  (hCX:∀ (w:World) (H:Hp) (s:Shared) (e:Value) (s':Shared),CX w [] H s (fun _ _ _=>False) e s'→False) :
  PySem.W.WalkO q loose XP YP l.row.toRowW d [] (fun f vs=>PySem.call f vs):=by
 refine Att.attach_call hn hdf fun w s₀ s₁ mg mb fa o pm cd doc a vs ns G Y ho hd hcd hmg hobj hints hlen hg=>?_
 have KX:=hY w _ Y
 obtain ⟨fd,hb,hF⟩:=F w mg fa _ KX G.T.g hmg
 exact AC KX G.T.g G.T.b G.T.builtins G.T.nolimit hg hobj hints (Nat.le_trans hlen hn2) hr hF hb (fun H hO hS=>hsp w H a ns hlen hO hS) fun H e s'=>hCX w H s₁ e s'
theorem EC {l:PySem.W.OpenLaw} {n k:Nat} {q:Program} {loose:List Str} {XP:(Str→Option Value)→Heap→Prop} {YP:World→Heap→Prop} {d:DefRec} {K:Params→PySem.W.Frag} {CX:CXT} {sp:PySem.W.Frag→Sp} {x:Str}
  (hn:l.most=some n) (hn2:n ≤ sizeLine) (hdf:d.params.defaults=[]) (hr:Ih k callerA)
  (hY:∀ (w:World) (h:Heap),YP w h→(K w.params).In h)
  (F:∀ (w:World) (mg:Str→Option Value) (fa:Addr) (h:Heap),(K w.params).In h→h.Ns mainGlobals mg→mg d.name=some (.ref fa) →
   ∃ fd:FuncData,(∀ (s:Shared) (u:Value),BindsTo s fd ⟨[u],[]⟩ [(x,u)]) ∧
    ∀ base:Heap,(K w.params).In base→base.Ns mainGlobals mg→Bb l.prog w (K w.params) mg base CX k fa fd [x] (sp (K w.params)))
  (hsp:∀ (K:PySem.W.Frag) (H:Hp) (a:Addr) (ns:List Int),ns.length ≤ n→yK H→SqL K H a (ns.map V.int)→sp K [.ref a] H (fun v _=>v=.bl true) fun _ _ _=>False)
  (hCX:∀ (H:Hp) (s:Shared) (e:Value) (s':Shared),CX [] H s (fun _ _ _=>False) e s'→False) :
  PySem.W.WalkO q loose XP YP l.row.toRowW d [] (fun f vs=>PySem.call f vs):=
 XH (K:=K) (CX:=fun _=>CX) (sp:=fun w=>sp (K w.params)) hn hn2 hdf hr hY F (fun w H a ns h1 h2 h3=>hsp (K w.params) H a ns h1 h2 h3) fun _ H s e s'=>hCX H s e s'
end L2
namespace L2
open PySem PySem.Spec PyProof.Rows
noncomputable def lc (s:Stmt) (j:Nat):Stmt:=match s with
 | .ClassDef _ _ _ body _ _ _ _ _ _ _=>body.getD j (.Pass ⟨0,0,0,0⟩)
 | _=>.Pass ⟨0,0,0,0⟩
noncomputable def Xr (s:Stmt):Arguments:=match s with
 | .FunctionDef _ a _ _ _ _ _ _ _ _=>a
 | _=>{ posonlyargs:=[],args:=[],vararg:=none,kwonlyargs:=[],kw_defaults:=[],kwarg:=none,defaults:=[] }
noncomputable def im (s:Stmt):List Stmt:=match s with
 | .FunctionDef _ _ b _ _ _ _ _ _ _=>b
 | _=>[]
noncomputable def ib (s:Stmt):Scope:=match s with
 | .FunctionDef _ _ _ _ _ _ sc _ _ _=>sc
 | _=>{ kind:=.function,names:=[],isGenerator:=false,isCoroutine:=false }
noncomputable abbrev CX0:CXT:=fun _ _ _ _ _ _=>False
noncomputable abbrev E0:XK:=fun _ _ _=>False
theorem Ab {X:Cx}:pk CX0 X E0:=fun _ _ _ _ _ _ _ h=>h.elim
structure Fun (K:PySem.W.Frag) (x qual:Str) (st:Stmt) (f:Addr) (fd:FuncData):Prop where
 ex:∃ (oc:Value) (od:Option Addr) (kV doc pm:Value) (an:Option Addr) (cdv ct:Value) (osl:Array (Option Value)),
  fd=PySem.W.fnOf x qual (Xr st) (im st) (ib st) .none kV doc pm an cdv ct∧K.lookup f=some ⟨oc,od,.func fd,osl⟩∧PySem.W.codeIn K cdv qual=true
 kp:PySem.W.keepIn K (.ref f)=true
section
variable {P:Program} {w:World} {K:PySem.W.Frag} {mg:Str→Option Value} {base:Heap}
theorem Fun.ok {x qual:Str} {st:Stmt} {f:Addr} {fd:FuncData} {N ps:List Str} {k:Nat} {sp:Sp} (F:Fun K x qual st f fd) (S:rb N ps (ib st)) (len:∀ vs H Q E,sp vs H Q E→vs.length=ps.length)
  (hbody:∀ (cdv:Value) (A:Around) (outer:List Env) (s:Shared) (H:Hp) (vs:List V) (Q:VK) (E:XK),Ih k (A.deeper (envOfC qual (ib st) s.heap.objs.size f cdv))→sp vs H Q E →
   ∃ t,PSs (Lz CX0 P w K mg base N qual (ib st) f cdv A outer s H E).nox (im st) t∧t { nx:=fun _ H'=>Q .non H',rt:=Q } (start N vs) H):Bb P w K mg base CX0 (k + 1) f fd ps sp:=by
 obtain ⟨oc,od,kV,doc,pm,an,cdv,ct,osl,rfl,lk,hcd⟩:=F.ex
 refine oJ lk hcd S len fun A outer s H vs Q E hr hsp=>?_
 obtain ⟨t,h,q⟩:=hbody cdv A outer s H vs Q E hr hsp
 exact ⟨t,h.nox,q⟩
theorem Fun.binds {x qual:Str} {st:Stmt} {f:Addr} {fd:FuncData} {ps:List Str} (F:Fun K x qual st f fd)
  (h:∀ (kV doc pm:Value) (an:Option Addr) (cdv ct:Value) (us:List Value),us.length=ps.length→bindArgs (PySem.W.fnOf x qual (Xr st) (im st) (ib st) .none kV doc pm an cdv ct) ⟨us,[]⟩=pure (ps.zip us)):Kb K fd ps []:=by
 obtain ⟨oc,od,kV,doc,pm,an,cdv,ct,osl,rfl,lk,hcd⟩:=F.ex
 exact .all (h kV doc pm an cdv ct)
theorem OJ {x qual:Str} {st:Stmt} {f:Addr} {oc:Value} {od an:Option Addr} {osl:Array (Option Value)} {kV doc pm cdv ct:Value} (l:K.lookup f=some ⟨oc,od,.func (PySem.W.fnOf x qual (Xr st) (im st) (ib st) .none kV doc pm an cdv ct),osl⟩)
  (c:PySem.W.codeIn K cdv qual=true) (k:PySem.W.keepIn K (.ref f)=true):Fun K x qual st f (PySem.W.fnOf x qual (Xr st) (im st) (ib st) .none kV doc pm an cdv ct):=⟨⟨oc,od,kV,doc,pm,an,cdv,ct,osl,rfl,l,c⟩,k⟩
end
theorem Mv {A:Around} {k:Nat} (hr:Ih k A):A.units + 1 < cLine:=Nat.lt_of_le_of_lt (Nat.add_le_add_left (by decide:1 ≤ 64) _) hr.units
section
variable {X:Cx}
theorem pv (i:Nat) {x:Str} {pos:Pos} (hN:X.N[i]? = some x:=by rfl) (hv:Vis X.env.scope x:=by first | exact Or.inl rfl | exact Or.inr (Or.inl rfl) | exact Or.inr (Or.inr rfl)) (hd:(x == ("__debug__" : Str))=false:=by decide)
  (hcd:(x == ("__classdict__" : Str))=false:=by decide):PE X (.Name x pos) (NL i):=SI hN hv hd hcd
end
noncomputable def Rb (H H':Hp):Prop:=∀ b o,H b=some o→H' b=some o
theorem Rb.refl (H:Hp):Rb H H:=fun _ _ h=>h
theorem Rb.trans {H H1 H2:Hp} (a:Rb H H1) (b:Rb H1 H2):Rb H H2:=fun c o h=>b c o (a c o h)
theorem Rb.free {H H':Hp} (e:Rb H H') {l:Addr} (h:H' l=Option.none):H l=Option.none:=by
 cases q:H l with
 | none=>rfl
 | some o=>
  rw [e l o q] at h
  cases h
theorem Rb.seq {K:PySem.W.Frag} {H H':Hp} {a:Addr} {xs:List V} (e:Rb H H') (h:SqL K H a xs):SqL K H' a xs:=by
 rcases h with (h | ⟨o,h⟩) | h
 ·exact .inl (.inl (e _ _ h))
 ·exact .inl (.inr ⟨o,e _ _ h⟩)
 ·exact .inr h
section
variable {κ:Type} [DecidableEq κ]
end
end L2
set_option maxHeartbeats 4000000
namespace L2
open PySem PySem.Spec PyProof.Rows
noncomputable def Vs (cells:List (Str × Addr)):List (Str × NameKind)→List (Str × Addr)→List (Str × Addr)
 | [],acc=>acc
 | (n,k) :: r,acc=>if k == .free then (match cells.lookup n with | some c=>Vs cells r ((n,c) :: acc) | none=>Vs cells r acc) else Vs cells r acc
theorem Lu {env:Env}:∀ (names:List (Str × NameKind)) (acc:List (Str × Addr)),(∀ y ∈ names,y.2=.free→∃ c,env.cells.lookup y.1=some c) →
  (forIn names acc (fun (x:Str × NameKind) (cs:List (Str × Addr))=>(if (x.2 == .free)=true then do let a ← cellOf env x.1;pure (ForInStep.yield ((x.1,a) :: cs)) else pure (ForInStep.yield cs):Sem (ForInStep (List (Str × Addr))))))=pure (Vs env.cells names acc)
 | [],acc,_=>rfl
 | (n,k) :: r,acc,h=>by
  have hr:∀ y ∈ r,y.2=.free→∃ c,env.cells.lookup y.1=some c:=fun y hy=>h y (List.mem_cons_of_mem _ hy)
  rw [List.forIn_cons]
  by_cases hk:(k == NameKind.free)=true
  ·have e:k=.free:=by simpa using hk
   obtain ⟨c,hc⟩:=h (n,k) List.mem_cons_self e
   have hc':env.cells.lookup n=some c:=hc
   simp only [Vs,hk,if_true,hc',cellOf]
   exact Lu r _ hr
  ·simp only [Vs,hk]
   exact Lu r _ hr
theorem Ty {scope:Scope} {env:Env} (h:∀ y ∈ scope.names,y.2=.free→∃ c,env.cells.lookup y.1=some c):closureFor scope env=pure (Vs env.cells scope.names []):=by
 unfold closureFor
 exact congrArg (fun t=>t >>= pure) (Lu scope.names [] h)
theorem Dn {cells:List (Str × Addr)}:∀ (names:List (Str × NameKind)) (acc:List (Str × Addr)) {x:Str} {c:Addr},(Vs cells names acc).lookup x=some c→acc.lookup x=some c∨cells.lookup x=some c
 | [],acc,x,c,h=>.inl h
 | (n,k) :: r,acc,x,c,h=>by
  unfold Vs at h
  split at h
  ·cases q:cells.lookup n with
   | none=>rw [q] at h;exact Dn r acc h
   | some d=>
    rw [q] at h
    rcases Dn r _ h with z | z
    ·rw [List.lookup_cons] at z
     by_cases hx:(x == n)=true
     ·rw [hx] at z
      have e:x=n:=by simpa using hx
      subst e
      right;rw [q];exact z
     ·have hx':(x == n)=false:=by simpa using hx
      rw [hx'] at z;exact .inl z
    ·exact .inr z
  ·exact Dn r acc h
theorem Hl {cells:List (Str × Addr)}:∀ (names:List (Str × NameKind)) (acc:List (Str × Addr)) {x:Str} {c:Addr},acc.lookup x=some c→cells.lookup x=some c→(Vs cells names acc).lookup x=some c
 | [],acc,x,c,h,_=>h
 | (n,k) :: r,acc,x,c,h,hc=>by
  unfold Vs
  split
  ·cases q:cells.lookup n with
   | none=>exact Hl r acc h hc
   | some d=>
    refine Hl r _ ?_ hc
    rw [List.lookup_cons]
    by_cases hx:(x == n)=true
    ·have e:x=n:=by simpa using hx
     subst e
     rw [hx];rw [q] at hc;exact hc
    ·have hx':(x == n)=false:=by simpa using hx
     rw [hx'];exact h
  ·exact Hl r acc h hc
theorem ml {cells:List (Str × Addr)}:∀ (names:List (Str × NameKind)) (acc:List (Str × Addr)) {x:Str} {c:Addr},(x,NameKind.free) ∈ names→cells.lookup x=some c→(Vs cells names acc).lookup x=some c
 | [],_,_,_,h,_=>nomatch h
 | (n,k) :: r,acc,x,c,h,hc=>by
  rcases List.mem_cons.mp h with e | h
  ·cases e
   unfold Vs
   rw [if_pos (by decide),hc]
   refine Hl r _ ?_ hc
   rw [List.lookup_cons];simp
  ·unfold Vs
   split
   ·cases q:cells.lookup n with
    | none=>exact ml r acc h hc
    | some d=>exact ml r _ h hc
   ·exact ml r acc h hc
theorem fm {α:Type}:∀ {l:List (Str × α)} {x:Str} {a:α},l.lookup x=some a→(x,a) ∈ l
 | [],_,_,h=>by simp at h
 | (n,b) :: r,x,a,h=>by
  rw [List.lookup_cons] at h
  by_cases hx:(x == n)=true
  ·have e:x=n:=by simpa using hx
   subst e
   rw [hx] at h
   have e2:b=a:=Option.some.inj h
   subst e2
   exact List.mem_cons_self
  ·have hx':(x == n)=false:=by simpa using hx
   rw [hx'] at h
   exact List.mem_cons_of_mem _ (fm h)
theorem Pu {env:Env} {scope:Scope} {x:Str} {k:NameKind} (h:(relabel scope env).names.lookup x=some k) (hk:k=.cell∨k=.free) (hc:∀ y ∈ scope.names,y.2 ≠ .cell):(x,NameKind.free) ∈ scope.names:=by
 have h1:=fm h
 obtain ⟨⟨n,j⟩,hm,e⟩:=List.mem_map.mp h1
 have e':(if (j == NameKind.free && env.scope.kind == .function && env.kindOf n == some .cell)=true then (n,NameKind.cell) else (n,j))=(x,k):=e
 split at e'
 ·rename_i hcond
  have e1:n=x:=(Prod.mk.inj e').1
  subst e1
  have hj:j=.free:=by
   simp only [Bool.and_eq_true] at hcond
   simpa using hcond.1.1
  subst hj
  exact hm
 ·have e1:n=x:=(Prod.mk.inj e').1
  have e2:j=k:=(Prod.mk.inj e').2
  subst e1;subst e2
  rcases hk with z | z
  ·exact absurd z (hc _ hm)
  ·subst z;exact hm
theorem Dk {env:Env} {scope:Scope} {x:Str} (h:scope.names.lookup x=some .free):(relabel scope env).names.lookup x=some .cell∨(relabel scope env).names.lookup x=some .free:=by
 have all:∀ (names:List (Str × NameKind)),names.lookup x=some .free →
   (names.map fun (n,k)=>if (k == NameKind.free && env.scope.kind == .function && env.kindOf n == some .cell) then (n,NameKind.cell) else (n,k)).lookup x=some .cell ∨
   (names.map fun (n,k)=>if (k == NameKind.free && env.scope.kind == .function && env.kindOf n == some .cell) then (n,NameKind.cell) else (n,k)).lookup x=some .free:=by
  intro names
  induction names with
  | nil=>intro h;simp at h
  | cons p r ih=>
   obtain ⟨n,k⟩:=p
   intro h
   rw [List.map_cons]
   by_cases hx:(x == n)=true
   ·simp only [List.lookup_cons,hx] at h
    have hk:k=.free:=Option.some.inj h
    subst hk
    by_cases hc:(NameKind.free == NameKind.free && env.scope.kind == .function && env.kindOf n == some .cell)=true
    ·left;simp only [if_pos hc,List.lookup_cons,hx]
    ·right;simp only [if_neg hc,List.lookup_cons,hx]
   ·have hx':(x == n)=false:=by simpa using hx
    simp only [List.lookup_cons,hx'] at h
    by_cases hc:(k == NameKind.free && env.scope.kind == .function && env.kindOf n == some .cell)=true
    ·simp only [if_pos hc,List.lookup_cons,hx'];exact ih h
    ·simp only [if_neg hc,List.lookup_cons,hx'];exact ih h
 exact all scope.names h
noncomputable abbrev Cx.block (X:Cx) (scope:Scope) (C:Addr) (N:List Str) (s:Shared) (H:Hp) (fp:List Addr):Cx where
 prog:=X.prog
 w:=X.w
 K:=X.K
 mg:=X.mg
 base:=X.base
 A:=X.A
 N:=N
 s₀:=s
 H₀:=H
 env:=compEnvC scope (Vs X.env.cells scope.names []) C X.env
 outer:=X.stack
 stack:=X.stack
 ex:=fp
 fn:=fun _=>false
 calm:=X.calm
 pn:=[]
 xe:=fun _ _=>False
structure Wm (env:Env) (scope:Scope):Prop where
 kind:scope.kind=.function
 nocell:∀ y ∈ scope.names,y.2 ≠ .cell
 fr:∀ y ∈ scope.names,y.2=.free→env.kindOf y.1=some .cell∨env.kindOf y.1=some .free
 loc:∀ x ∈ scope.names,x.2=.local→scope.names.lookup x.1=some .local
noncomputable def blk (sel:List (Option Nat)) (σ:St):St:=sel.map fun o=>o.bind fun j=>(σ[j]?).join
noncomputable def rB (M:List Str) (scope:Scope) (N:List Str) (sel:List (Option Nat)):Prop:=
 sel.length=N.length∧∀ (i j:Nat) (x:Str),sel[i]? = some (some j)→N[i]? = some x→M[j]? = some x∧scope.names.lookup x=some .free
section
variable {X:Cx} {pins:List (Addr × Obj)} {σ:St} {H:Hp} {s:Shared} {scope:Scope} {fp:List Addr} {C:Addr} {N:List Str}
theorem Wm.cells (S:Wm X.env scope) (ok:X.Ok):∀ y ∈ scope.names,y.2=.free→∃ c,X.env.cells.lookup y.1=some c:=fun y hy e=>ok.has y.1 (S.fr y hy e)
theorem dr {x:Str} {c:Addr} (h:(Vs X.env.cells scope.names []).lookup x=some c):X.env.cells.lookup x=some c:=by
 rcases Dn _ _ h with z | z
 ·simp at z
 ·exact z
theorem Cw (I:Inv X pins σ H s) (S:Wm X.env scope) (hf:∀ b ∈ fp,Jt X pins H b) (hs:∀ b ∈ fp,b < s.heap.objs.size) (hC:s.heap.objs.size ≤ C):(X.block scope C N s H fp).Ok where
 mod:=I.ok.mod
 kind:=S.kind
 glob:=I.ok.glob
 blt:=I.ok.blt
 above:=hC
 inj:=fun x y c h1 h2=>I.ok.inj x y c (dr h1) (dr h2)
 has:=fun x h=>by
  have hk:∃ k,(relabel scope X.env).names.lookup x=some k∧(k=.cell∨k=.free):=by
   rcases h with h | h
   ·exact ⟨_,h,.inl rfl⟩
   ·exact ⟨_,h,.inr rfl⟩
  obtain ⟨k,h1,h2⟩:=hk
  have hm:=Pu h1 h2 S.nocell
  obtain ⟨c,hc⟩:=S.cells I.ok _ hm rfl
  exact ⟨c,ml _ _ hm hc⟩
 cab:=fun _ _ h _=>nomatch h
 hd:=I.ok.hd
 frames:=I.ok.frames
 stk:=.inl rfl
 exf:=fun b hb=>⟨Nat.ne_of_lt (Nat.lt_of_lt_of_le (hs b hb) hC),fun x c e=>(hf b hb).2.2.2.2.1 x c (dr e)⟩
 bs:=I.bs
 bsz:=Nat.le_trans I.ok.bsz I.sz
 noex:=fun b o e hb=>by
  rcases (hf b hb).2.2.2.1 with z | z
  ·exact I.ok.noex b o e z
  ·exact absurd (Nat.lt_of_lt_of_le (Nat.lt_of_lt_of_le (Heap.lt_size e) I.ok.bsz) z) (Nat.lt_irrefl _)
 exfs:=fun b hb hz=>by
  rcases List.mem_cons.mp (I.stkSub b hz) with z | z
  ·exact (hf b hb).2.1 z
  ·exact (hf b hb).2.2.1 z
 funs:=I.stack
 frf:=I.stkFree
theorem Cz {h':Heap} {t':Nat} {m:Str→Option Value} {sel:List (Option Nat)} (I:Inv X pins σ H s) (S:Wm X.env scope) (hf:∀ b ∈ fp,Jt X pins H b) (hs:∀ b ∈ fp,b < s.heap.objs.size) (hC:s.heap.objs.size ≤ C)
  (k:∀ b o,s.heap.get? b=some o→h'.get? b=some o) (hn:h'.Ns C m) (hsel:rB X.N scope N sel):Inv (X.block scope C N s H fp) [] (blk sel σ) H { s with heap:=h',toks:=t' } where
 ok:=Cw I S hf hs hC
 os:=rfl
 bare:=I.bare
 base:=Un.kept k
 loc:=by
  refine ⟨m,hn,fun i x v e1 e2 e3=>?_⟩
  obtain ⟨m0,hn0,hl⟩:=I.loc
  obtain ⟨j,ej,eσ⟩:∃ j,sel[i]? = some (some j)∧σ[j]? = some (some v):=by
   unfold blk at e2
   rw [List.getElem?_map] at e2
   cases q:sel[i]? with
   | none=>rw [q] at e2;cases e2
   | some o=>
    rw [q] at e2
    cases o with
    | none=>cases e2
    | some j=>
     refine ⟨j,rfl,?_⟩
     have e2':(σ[j]?).join=some v:=Option.some.inj e2
     cases r:σ[j]? with
     | none=>rw [r] at e2';cases e2'
     | some z=>rw [r] at e2';exact congrArg some e2'
  obtain ⟨eN,hfr⟩:=hsel.2 i j x ej e1
  have hm:=fm hfr
  have hk:=S.fr _ hm rfl
  have hv:Vis X.env.scope x:=hk.elim (fun z=>.inr (.inl z)) fun z=>.inr (.inr z)
  obtain ⟨u,r,l⟩:=hl j x v eN eσ hv
  refine ⟨u,r,?_⟩
  rcases l with ⟨hloc,_⟩ | ⟨_,c,hc,hcell⟩
  ·rcases hk with z | z <;> (have z':X.env.kindOf x=_:=z;rw [hloc] at z';cases z')
  ·refine .inr ⟨?_,c,ml _ _ hm hc,?_⟩
   ·exact Dk hfr
   ·obtain ⟨o,ho,hd⟩:=hcell
    exact ⟨o,k _ _ ho,hd⟩
 cell:=fun x c e=>by
  obtain ⟨v,o,ho,hd⟩:=I.cell x c (dr e)
  exact ⟨v,o,k _ _ ho,hd⟩
 free:=I.hok.fresh hC
 freeC:=fun x c e=>I.freeC x c (dr e)
 pin:=fun p hp=>nomatch hp
 hok:=I.hok.kept k
 len:=by unfold blk;rw [List.length_map];exact hsel.1
theorem Inv.adopt {a:Addr} {o:HO} (I:Inv X pins σ H s) (fo:Jt X pins H a) (new:Xc X.prog X.w (upd H a o) s.heap a o):Inv X pins σ (upd H a o) s:=by
 obtain ⟨hn,hL,hfs,hex,hcl,hpn⟩:=fo
 refine I.step (g':=s.gens) (d':=s.drawn) (t':=s.toks) (h':=s.heap) (ch:=[a]) (fun b hb=>?_) (fun b o _ _ _ e _=>e) (fun b o _ _ _ e _=>⟨o.slots,e⟩) (fun b o hb e n=>?_) (fun b o _ e=>⟨o,e⟩)
  (fun b xs e=>?_) (fun b o u e=>?_) (fun b ps e=>⟨#[],?_⟩) (fun m hm=>hm) (fun b u e=>?_) I.bare
 ·have e:b=a:=by simpa using hb
  subst e
  exact ⟨hex,hL,hcl,hpn⟩
 ·rw [jb (fun z=>hb (by simp [z]))];exact n
 ·rw [jb (lb e hn)];exact e
 ·rw [jb (lb e hn)];exact e
 ·rw [jb (lb e hn),e];simp
 ·by_cases hb:b=a
  ·subst hb;rw [db] at e;cases e;exact new
  ·rw [jb hb] at e
   exact (I.hok b u e).stay (fun c v _ q=>q) (fun c q=>by rw [jb (lb q hn)];exact q) fun c xs q=>by rw [jb (lb q hn)];exact q
end
theorem Aj {prog:Program} {w:World} {A:Around} {R:Result→Shared→Prop} {s:Shared} {elt target iter:Expr} {ifs:List Expr} {scope:Scope} {pos:Pos} {it acc:Value} {env:Env} (I:Nat→Shared→Prop)
  (turn:∀ n s,I n s→wpAny (model prog w) A (pyNext it) (fun r s₁=>match r with
   | none=>R (.ok .next) s₁
   | some v=>wpAny (model prog w) A (letOwnedTupleGo target it v) (fun _ s₀=>wpAny (model prog w) A (assign target env v) (fun _ s₂=>
     wpAny (model prog w) A (forIn ifs true fun c r=>if r=true then do let ok ← isTrue c env (eval c env);pure (ForInStep.yield ok) else pure (ForInStep.yield r)) (fun ok s₃=>
      if ok=true then wpAny (model prog w) A (eval elt env) (fun x s₄=>
       wpAny (model prog w) A (call (.builtin "list.append") [acc,x]) (fun _ s₅=>∃ m,m < n∧I m s₅) (fun _ _=>False) s₄) (fun _ _=>False) s₃
      else ∃ m,m < n∧I m s₃) (fun _ _=>False) s₂) (fun _ _=>False) s₀) (fun _ _=>False) s₁) (fun _ _=>False) s)
  (n:Nat) (h:I n s) :
  codeAny (model prog w) A (.compLoop (.ListComp elt [⟨target,iter,ifs,0⟩] scope pos) 0 it acc env) R s:=by
 refine codeAny_loop rfl I (fun n s hI=>?_) n h
 show wpAny _ A ((compTurn (.ListComp elt [⟨target,iter,ifs,0⟩] scope pos) 0 it acc env).onRaise (fun x=>do noteFrame x env;theTreesLotGoes x)) _ _ s
 refine wpAny_noted (wpAny_noRaise ?_)
 rw [compTurn_list]
 refine wpAny_bind (wpAny_standAt (wpAny_bind (wpAny_mono (turn n s hI) (fun r s₁ h₁=>?_) fun _ _ h'=>h')))
 cases r with
 | none=>exact wpAny_pure h₁
 | some v=>
  refine wpAny_bind (wpAny_mono h₁ (fun _ s₀ h₀=>?_) fun _ _ h'=>h')
  refine wpAny_bind (wpAny_mono h₀ (fun _ s₂ h₂=>wpAny_bind (wpAny_mono h₂ (fun ok s₃ h₃=>?_) fun _ _ h'=>h')) fun _ _ h'=>h')
  cases ok with
  | false=>exact wpAny_pure ⟨rfl,h₃⟩
  | true=>
   exact wpAny_bind (wpAny_bind (wpAny_mono h₃ (fun x s₄ h₄=>wpAny_bind (wpAny_mono h₄ (fun _ s₅ h₅=>wpAny_pure (wpAny_pure ⟨rfl,h₅⟩)) fun _ _ h'=>h')) fun _ _ h'=>h'))
noncomputable def PTs (X:Cx) (ifs:List Expr) (t:TT):Prop:=
 ∀ (pins:List (Addr × Obj)) (s:Shared) (σ:St) (H:Hp) (Q:Bool→Hp→Prop),Inv X pins σ H s→t σ H Q →
  wpAny (model X.prog X.w) X.A (forIn ifs true fun c r=>if r=true then do let ok ← isTrue c X.env (eval c X.env);pure (ForInStep.yield ok) else pure (ForInStep.yield r)) (TP X pins σ Q) X.xe s
noncomputable def Bx:TT:=fun _ H Q=>Q true H
theorem di {X:Cx}:PTs X [] Bx:=fun _ _ _ H _ I h=>wpAny_tests_nil ⟨H,I,h⟩
theorem bz {X:Cx} {c:Expr} {t:TT} (h:PT X c t):PTs X [c] t:=fun pins s σ H Q I q=>wpAny_tests_one (h pins s σ H Q I q)
noncomputable def Sub (σ σ':St):Prop:=σ'.length=σ.length∧∀ (i:Nat) (v:V),σ[i]? = some (some v)→σ'[i]? = some (some v)
theorem Sub.refl (σ:St):Sub σ σ:=⟨rfl,fun _ _ h=>h⟩
theorem Sub.set {σ σ':St} {i:Nat} {x:Option V} (h:Sub σ σ') (e:σ[i]? = some none):Sub σ (σ'.set i x):=by
 refine ⟨by rw [List.length_set];exact h.1,fun j v q=>?_⟩
 have hj:i ≠ j:=fun z=>by subst z;rw [e] at q;cases q
 rw [List.getElem?_set_ne hj]
 exact h.2 j v q
noncomputable def Vu (J:It) (g:TG) (tc:TT) (te:TE) (σb:St) (Q:VK) (W:Nat→Nat→List V→Hp→Prop):Prop:=∀ i m ys H,W i m ys H →
 (J.stop i H∧∀ p,H p=none→Q (.ref p) (upd H p (.lst ys))) ∨
 (J.go i H∧ys.length < sizeLine∧∀ x H',J.yld i H x H'→g x σb H' fun σ2 H2=>Sub σb σ2∧tc σ2 H2 fun c H3=>if c=true then te σ2 H3 fun y H4=>∃ m',m' < m∧W (i + 1) m' (ys ++ [y]) H4 else ∃ m',m' < m∧W (i + 1) m' ys H3)
noncomputable def nH (wi:TI) (g:TG) (tc:TT) (te:TE) (sel:List (Option Nat)):TE:=fun σ H Q=>wi σ H fun J H1=>∃ W:Nat→Nat→List V→Hp→Prop,(∃ m,W 0 m [] H1)∧Vu J g tc te (blk sel σ) Q W
section
variable {X:Cx} {elt tg iter:Expr} {ifs:List Expr} {scope:Scope} {pos:Pos} {wi:TI} {g:TG} {tc:TT} {te:TE} {N:List Str} {sel:List (Option Nat)}
structure Blk (X:Cx) (scope:Scope) (N:List Str) (tg elt:Expr) (ifs:List Expr) (g:TG) (tc:TT) (te:TE):Prop where
 tgt:∀ C s H fp,PG (X.block scope C N s H fp) tg g
 tests:∀ C s H fp,PTs (X.block scope C N s H fp) ifs tc
 elem:∀ C s H fp,PE (X.block scope C N s H fp) elt te
theorem Blk.of {X:Cx} {scope:Scope} {N:List Str} {tg elt:Expr} {ifs:List Expr} {g:TG} {tc:TT} {te:TE} (h1:∀ C s H fp,PG (X.block scope C N s H fp) tg g)
  (h2:∀ C s H fp,∃ t,PTs (X.block scope C N s H fp) ifs t∧t=tc) (h3:∀ C s H fp,∃ t,PE (X.block scope C N s H fp) elt t∧t=te):Blk X scope N tg elt ifs g tc te:=
 ⟨h1,fun C s H fp=>by obtain ⟨t,h,rfl⟩:=h2 C s H fp;exact h,fun C s H fp=>by obtain ⟨t,h,rfl⟩:=h3 C s H fp;exact h⟩
theorem ut {pins:List (Addr × Obj)} {s₂:Shared} {σ:St} {H₂:Hp} {Q:VK} {it:Addr} {fp:List Addr} {tn:Nat→Heap→Prop} {J:It} {W:Nat→Nat→List V→Hp→Prop} {E:Value→Shared→Prop} {RR:Value→Addr→Result→Shared→Prop}
  (hc:X.calm=true) (S:Wm X.env scope) (hsel:rB X.N scope N sel) (B:Blk X scope N tg elt ifs g tc te) (I2:Inv X pins σ H₂ s₂) (T:nG X.prog X.w X.K tg J fp it tn) (st2:tn 0 s₂.heap) (f2:∀ b ∈ fp,Jt X pins H₂ b)
  (w0:∃ m,W 0 m [] H₂) (hW:Vu J g tc te (blk sel σ) Q W)
  (fin:∀ D C ys H' s',Inv X pins σ (upd H' D (.lst ys)) s'→(∃ m,s'.heap.Ns C m)→Jt X pins (upd H' D (.lst ys)) C→Q (.ref D) (upd H' D (.lst ys))→RR (.ref D) C (.ok .next) s') :
  wpAny (model X.prog X.w) X.A (newList []) (fun acc s₃=>wpAny (model X.prog X.w) X.A (newFunctionEnv scope X.env.globals (Vs X.env.cells scope.names []) [] X.env.qual none .none (some X.env)) (fun cenv s₄=>
   codeAny (model X.prog X.w) X.A (.compStart (.ListComp elt [⟨tg,iter,ifs,0⟩] scope pos) 0 (.ref it) acc { cenv with scope:=relabel scope X.env }) (RR acc cenv.locals) s₄) E s₃) E s₂:=by
 refine wpAny_newObj_type (wpAny_newFunctionEnv S.nocell (by intro y hy;simp at hy) (fun h₁ hns₁ hsb₁=>?_) S.kind)
 dsimp only at hns₁ hsb₁ ⊢
 generalize hH2:s₂.heap.push { cls:=.type "list",dict:=none,data:=.seq ([]:List Value).toArray }=H2 at hns₁ hsb₁ ⊢
 have hC:H2.objs.size=s₂.heap.objs.size + 1:=by rw [← hH2,Heap.size_push]
 have hDC:s₂.heap.objs.size ≠ H2.objs.size:=by rw [hC];exact Nat.ne_of_lt (Nat.lt_succ_self _)
 have hCle:s₂.heap.objs.size ≤ H2.objs.size:=by rw [hC];exact Nat.le_succ _
 have below:∀ b,b < s₂.heap.objs.size→b ≠ H2.objs.size∧b ≠ s₂.heap.objs.size:=fun b hb=>⟨by rw [hC];exact Nat.ne_of_lt (Nat.lt_succ_of_lt hb),Nat.ne_of_lt hb⟩
 have old:∀ b o,s₂.heap.get? b=some o→h₁.get? b=some o:=fun b o e=>hsb₁.extBut b o (below b (Heap.lt_size e)).1 (Heap.get?_push_of_some _ (hH2 ▸ Heap.get?_push_of_some _ e))
 have hacc:h₁.get? s₂.heap.objs.size=some { cls:=.type "list",data:=.seq ([]:List Value).toArray }:=hsb₁.extBut _ _ hDC (Heap.get?_push_of_some _ (hH2 ▸ Heap.get?_push_size _ rfl))
 have fps:∀ b ∈ fp,b < s₂.heap.objs.size:=fun b hb=>by
  obtain ⟨o,e,_⟩:=T.obj _ _ st2 b hb
  exact Heap.lt_size e
 generalize hCe:H2.objs.size=C at *
 generalize hDe:s₂.heap.objs.size=D at *
 have st1:tn 0 h₁:=T.keep _ _ _ st2 fun b _ o e=>old b o e
 have IB0:Inv (X.block scope C N s₂ H₂ fp) [] (blk sel σ) H₂ { s₂ with heap:=h₁,toks:=s₂.toks + ([]:List (Str × Value)).length }:=
  Cz I2 S f2 (fun b hb=>by rw [hDe];exact fps b hb) (by rw [hDe];exact hCle) old hns₁ hsel
 have hDfs:D ∉ (X.block scope C N s₂ H₂ fp).fs:=fun z=>by
  have z':=I2.stkSub D z
  rcases List.mem_cons.mp z' with e | e
  ·exact absurd I2.lt (by rw [← e,hDe];exact Nat.lt_irrefl _)
  ·exact I2.nofs (by rw [hDe];exact Nat.le_refl _) e
 have loop:∀ s₃:Shared,s₃ = { s₂ with heap:=h₁,toks:=s₂.toks + ([]:List (Str × Value)).length } →
   codeAny (model X.prog X.w) X.A (.compLoop (.ListComp elt [⟨tg,iter,ifs,0⟩] scope pos) 0 (.ref it) (.ref D) (compEnvC scope (Vs X.env.cells scope.names []) C X.env)) (RR (.ref D) C) s₃:=by
  rintro s₃ rfl
  obtain ⟨m0,w0⟩:=w0
  refine Aj (fun k s'=>∃ i ys us n H',Inv (X.block scope C N s₂ H₂ fp) [(D,{ cls:=.type "list",data:=.seq us n })] (blk sel σ) H' s'∧(∃ vs:List Value,us=vs.toArray∧Kc ys vs)∧ys.length ≤ sizeLine∧tn i s'.heap∧(∀ b ∈ fp,H' b=none)∧W i k ys H') ?_ m0
   ⟨0,[],_,0,H₂,IB0.pins_of fun p hp=>?_,⟨[],rfl,.nil⟩,Nat.zero_le _,st1,fun b hb=>(f2 b hb).1,w0⟩
  ·rintro k s' ⟨i,ys,us,n,H',IB,⟨vs,rfl,rv⟩,hyz,st,fr,w⟩
   have fpB:∀ {pl:List (Addr × Obj)} {H'':Hp},(∀ p ∈ pl,p.1=D)→(∀ b ∈ fp,H'' b=none)→∀ b ∈ fp,Jt (X.block scope C N s₂ H₂ fp) pl H'' b:=fun {pl H''} hp hn b hb=>
    ⟨hn b hb,(below b (fps b hb)).1,(Cw (N:=N) (C:=C) I2 S f2 (fun b hb=>by rw [hDe];exact fps b hb) (by rw [hDe];exact hCle)).exfs b hb,.inl hb,fun x c e=>(f2 b hb).2.2.2.2.1 x c (dr e),fun p hpp z=>by
     have hpp':p ∈ pl:=by simpa using hpp
     exact (below b (fps b hb)).2 (by rw [← z];exact hp p hpp')⟩
   have hD1:∀ p ∈ [((D,{ cls:=.type "list",data:=.seq vs.toArray n }):Addr × Obj)],p.1=D:=fun p hp=>by
    have e:p=(D,{ cls:=.type "list",data:=.seq vs.toArray n }):=by simpa using hp
    rw [e]
   rcases hW i k ys H' w with ⟨stop,qn⟩ | ⟨go,hlen,step⟩
   ·refine thn (T.done (X.block scope C N s₂ H₂ fp) rfl rfl rfl hc i _ s' _ H' _ IB (fpB hD1 fr) st stop) fun r s4 ⟨hr,I4⟩=>?_
    subst hr
    -- the block is left
    have pD:=I4.pin (D,{ cls:=.type "list",data:=.seq vs.toArray n }) (by simp)
    have hDn:H' D=none:=pD.2.1
    have IX:Inv X pins σ H' s4:=I2.call' (ch:=fp) I4.os I4.base I4.hok I4.bare fun b hb=>⟨(f2 b hb).2.2.2.1,(f2 b hb).2.1,(f2 b hb).2.2.2.2.1,(f2 b hb).2.2.2.2.2⟩
    have foD:Jt X pins H' D:=I2.fpOk (by rw [hDe];exact Nat.le_refl _) hDn
    have IA:Inv X pins σ (upd H' D (.lst ys)) s4:=IX.adopt foD ⟨hyz,vs,n,rv,pD.1⟩
    obtain ⟨mC,hnC,_⟩:=I4.loc
    refine fin D C ys H' s4 IA ⟨mC,hnC⟩ (I2.fpOk (by rw [hDe];exact hCle) ?_) (qn D hDn)
    rw [jb (Ne.symm hDC)]
    exact I4.free
   ·refine thn (T.item (X.block scope C N s₂ H₂ fp) rfl rfl rfl hc i _ s' _ H' _ IB (fpB hD1 fr) st go) fun r s4 ⟨u,hr,h4⟩=>?_
    subst hr
    refine thn h4 fun _ s5 ⟨x,H5,I5,r5,y5,st5,fr5⟩=>?_
    have I5':=I5.pinned (fpB hD1 fr5) (T.obj _ _ st5)
    refine thn (B.tgt C s₂ H₂ fp _ s5 _ H5 x u _ I5' r5 (step x H5 y5)) fun _ s6 ⟨σ6,H6,I6,sb,q6⟩=>?_
    refine thn (B.tests C s₂ H₂ fp _ s6 σ6 H6 _ I6 q6) fun c s7 ⟨H7,I7,q7⟩=>?_
    have again:∀ {σ8:St} {H8:Hp} {s8:Shared},Inv (X.block scope C N s₂ H₂ fp) ([(D,{ cls:=.type "list",data:=.seq vs.toArray n })] ++ ft fp s5.heap) σ8 H8 s8→tn (i + 1) s8.heap∧(∀ b ∈ fp,H8 b=none):=fun {σ8 H8 s8} I8=>by
     refine ⟨T.keep _ _ _ st5 fun b hb o e=>(I8.pin (b,o) (List.mem_append_right _ (List.mem_append_right _ (mj hb e)))).1,fun b hb=>?_⟩
     obtain ⟨o,e,d⟩:=T.obj _ _ st5 b hb
     exact (I8.pin (b,o) (List.mem_append_right _ (List.mem_append_right _ (mj hb e)))).2.1
    have back:∀ {H8:Hp} {s8:Shared} {pl:List (Addr × Obj)},Inv (X.block scope C N s₂ H₂ fp) pl σ6 H8 s8→Inv (X.block scope C N s₂ H₂ fp) pl (blk sel σ) H8 s8:=fun {H8 s8 pl} I8=>I8.weak sb.1.symm sb.2
    cases c with
    | false=>
     obtain ⟨m',hm,w'⟩:=q7
     obtain ⟨t1,t2⟩:=again I7
     exact ⟨m',hm,i + 1,ys,_,n,H7,back I7.unpinned,⟨vs,rfl,rv⟩,hyz,t1,t2,w'⟩
    | true=>
     refine thn (B.elem C s₂ H₂ fp _ s7 σ6 H7 _ I7 q7) fun v s8 ⟨y,H8,I8,r8,m',hm,w'⟩=>?_
     obtain ⟨t1,t2⟩:=again I8
     have pD:=I8.pin (D,{ cls:=.type "list",data:=.seq vs.toArray n }) (by simp)
     refine append_at (hsz:=by have:=rv.length;rw [List.size_toArray];omega) pD.1 fun h9 hs9 hD9=>?_
     have IB':Inv (X.block scope C N s₂ H₂ fp) [] (blk sel σ) H8 s8:=(back I8).pins_of fun p hp=>nomatch hp
     have foD:Jt (X.block scope C N s₂ H₂ fp) [] H8 D:=⟨pD.2.1,hDC,hDfs,.inr (by show s₂.heap.objs.size ≤ D;rw [hDe];exact Nat.le_refl _),(fun x c e z=>by
      obtain ⟨cv,o,ho,hd⟩:=I8.cell x c e
      rw [z,pD.1] at ho
      cases ho
      cases hd),(fun p hp=>nomatch hp)⟩
     have I9:Inv (X.block scope C N s₂ H₂ fp) [] (blk sel σ) H8 { s8 with heap:=h9 }:=IB'.turned (t':=s8.toks) (it:=D) (fun b o hb e=>(hs9.2 b hb).trans e) foD.1 foD.2.1 foD.2.2.2.1 foD.2.2.2.2.1 foD.2.2.2.2.2
     refine ⟨m',hm,i + 1,ys ++ [y],vs.toArray.push v,n + 1,H8,I9.pins_of fun p hp=>?_,⟨vs ++ [v],by simp,Paired.snoc rv r8⟩,by rw [List.length_append,List.length_singleton];omega,T.keep _ _ _ t1 fun b hb o e=>(hs9.2 b (below b (fps b hb)).2).trans e,t2,w'⟩
     have e:p=(D,{ cls:=.type "list",data:=.seq (vs.toArray.push v) (n + 1) }):=by simpa using hp
     subst e
     exact ⟨hD9,pD.2.1,hDC,hDfs,fun v z=>by cases z⟩
  ·have e:p=(D,{ cls:=.type "list",data:=.seq ([]:List Value).toArray }):=by simpa using hp
   subst e
   exact ⟨hacc,I2.hok.fresh (by rw [hDe];exact Nat.le_refl _),hDC,hDfs,fun v z=>by cases z⟩
 exact codeAny_compStart_list (loop _ rfl) (T.self _ 0 _ _ _ st1 (loop _ rfl))
theorem Hk (hc:X.calm=true) (hi:PI X tg iter wi) (S:Wm X.env scope) (hsel:rB X.N scope N sel) (B:Blk X scope N tg elt ifs g tc te)
  (hs:∀ x,foldedSetIterable iter X.env x=pure x:=by intro _;rfl):PE X (.ListComp elt [⟨tg,iter,ifs,0⟩] scope pos) (nH wi g tc te sel):=by
 intro pins s σ H Q I h
 rw [eval_ListComp]
 refine wpAny_comprehension_free (use:=none) rfl hs (Ty (S.cells I.ok)) S.kind S.loc ?_
 refine thn (hi pins s σ H _ I h) fun v s1 h1=>thn h1 fun itv s2 h2=>?_
 obtain ⟨it,fp,tn,J,H2,e,I2,T,st2,f2,W,w0,hW⟩:=h2
 subst e
 refine ut (RR:=fun acc C=>compPost (model X.prog X.w) X.A X.xe none (EP X pins σ Q) acc C) hc S hsel B I2 T st2 f2 w0 hW fun D C ys H' s' I' ⟨m,hm⟩ fo q=>?_
 exact ⟨m,hm,fun h' hsb=>⟨.ref D,_,I'.turned (t':=s'.toks) (it:=C) (fun b o hb e=>(hsb.2 b hb).trans e) fo.1 fo.2.1 fo.2.2.2.1 fo.2.2.2.2.1 fo.2.2.2.2.2,rfl,q⟩⟩
theorem wj {i:Nat} {y:Str} {py spos:Pos} (hN:X.N.Nodup) (hi:X.N[i]? = some y) (hx:Loc X.env.scope y) (hc:X.calm=true) (hit:PI X tg iter wi) (S:Wm X.env scope) (hsel:rB X.N scope N sel) (B:Blk X scope N tg elt ifs g tc te)
  (hsw:swapsWith (.ListComp elt [⟨tg,iter,ifs,0⟩] scope pos) (some (.Name y py)) spos.line X.env=pure true) (hf:X.fn y=true∨X.env.scope.names.lookup y=some .local:=by first | exact .inl rfl | exact .inr rfl | assumption)
  (hs:∀ x,foldedSetIterable iter X.env x=pure x:=by intro _;rfl):PS X (.Assign [.Name y py] (.ListComp elt [⟨tg,iter,ifs,0⟩] scope pos) spos) (RK (nH wi g tc te sel) (xu i)):=by
 intro pins s σ H D I h
 rw [exec_Assign_Name_used _ _ _ _ hsw]
 refine wpAny_bind (wpAny_standAt (wpAny_bind ?_))
 show wpAny _ X.A (do let _ ← comprehension (.ListComp elt [⟨tg,iter,ifs,0⟩] scope pos) scope X.env _ (newList []) false (eval iter X.env) (some (assign (.Name y py) X.env))) _ _ s
 refine wpAny_bind (wpAny_mono (wpAny_comprehension_free (use:=some (assign (.Name y py) X.env)) (Q:=fun _ s'=>SP X pins D .next s') rfl hs (Ty (S.cells I.ok)) S.kind S.loc ?_) (fun _ s' hq=>wpAny_pure (wpAny_pure hq)) fun _ _ e=>e)
 refine thn (hit pins s σ H _ I h) fun v s1 h1=>thn h1 fun itv s2 h2=>?_
 obtain ⟨it,fp,tn,J,H2,e,I2,T,st2,f2,W,w0,hW⟩:=h2
 subst e
 refine ut (RR:=fun acc C=>compPost (model X.prog X.w) X.A X.xe (some (assign (.Name y py) X.env)) (fun _ s'=>SP X pins D .next s') acc C) hc S hsel B I2 T st2 f2 w0 hW fun Da C ys H' s' I' ⟨m,hm⟩ fo q=>?_
 show wpAny _ X.A (assign (.Name y py) X.env (.ref Da)) _ _ _
 refine wpAny_assign_Name (ou I' hN hi hx (show Zc (.ref Da) (.ref Da) from rfl) (fun s3 I3 ⟨a,hsb,ha⟩=>?_) hf)
 have hCa:C ≠ a:=by
  rcases ha with z | z
  ·rw [z];exact fo.2.1
  ·exact fun w=>fo.2.2.2.2.1 y a z w.symm
 refine ⟨m,hm.sameBut hsb hCa,fun h' hsb'=>⟨_,_,I3.turned (t':=s3.toks) (it:=C) (fun b o hb e=>(hsb'.2 b hb).trans e) fo.1 fo.2.1 fo.2.2.2.1 fo.2.2.2.2.1 fo.2.2.2.2.2,q⟩⟩
end
noncomputable def Og (Pv:Nat→List V→Hp→Prop) (g:TG) (tc:TT) (te:TE) (σb:St) (i:Nat) (x:V) (ys:List V) (H:Hp):Prop:=
 ∀ N:List V→Hp→Prop,(∀ ys' H',Pv (i + 1) ys' H'→N ys' H')→g x σb H fun σ2 H2=>Sub σb σ2∧tc σ2 H2 fun c H3=>if c=true then te σ2 H3 fun y H4=>N (ys ++ [y]) H4 else N ys H3
theorem GB {K:PySem.W.Frag} {a:Addr} {xs:List V} {g:TG} {tc:TT} {te:TE} {σb:St} {Q:VK} {H:Hp} (Pv:Nat→List V→Hp→Prop) (hz:xs.length ≤ sizeLine) (h0:Pv 0 [] H) (hl:∀ i ys H,i ≤ xs.length→Pv i ys H→SqL K H a xs∧ys.length ≤ i)
  (hs:∀ i x ys H,xs[i]? = some x→Pv i ys H→Og Pv g tc te σb i x ys H) (hd:∀ ys H,Pv xs.length ys H→∀ p,H p=none→Q (.ref p) (upd H p (.lst ys))) :
  ∃ W:Nat→Nat→List V→Hp→Prop,(∃ m,W 0 m [] H)∧Vu (Itl K a) g tc te σb Q W:=by
 refine ⟨fun i m ys H=>m=xs.length - i∧i ≤ xs.length∧Pv i ys H,⟨xs.length,by simp,Nat.zero_le _,h0⟩,?_⟩
 rintro i m ys H ⟨rfl,hi,p⟩
 have q:=(hl i ys H hi p).1
 have hyl:=(hl i ys H hi p).2
 by_cases hlt:i < xs.length
 ·refine .inr ⟨⟨xs,xs[i],q,by simp [hlt]⟩,by omega,fun x H' y=>?_⟩
  obtain ⟨e,y⟩:=y
  subst e
  exact hs i x ys _ (y xs q) p (fun ys' H'=>∃ m',m' < xs.length - i∧m'=xs.length - (i + 1)∧i + 1 ≤ xs.length∧Pv (i + 1) ys' H') fun ys' H' r=>⟨xs.length - (i + 1),by omega,rfl,hlt,r⟩
 ·have e:i=xs.length:=by omega
  subst e
  exact .inl ⟨⟨xs,q,Nat.le_refl _⟩,hd ys H p⟩
theorem Ix {lo:Int} {n:Nat} {g:TG} {tc:TT} {te:TE} {σb:St} {Q:VK} {H:Hp} (Pv:Nat→List V→Hp→Prop) (hz:n ≤ sizeLine) (h0:Pv 0 [] H) (hl:∀ i ys H,i ≤ n→Pv i ys H→ys.length ≤ i)
  (hs:∀ i ys H,i < n→Pv i ys H→Og Pv g tc te σb i (.int (lo + i)) ys H) (hd:∀ ys H,Pv n ys H→∀ p,H p=none→Q (.ref p) (upd H p (.lst ys))) :
  ∃ W:Nat→Nat→List V→Hp→Prop,(∃ m,W 0 m [] H)∧Vu (Itr lo n) g tc te σb Q W:=by
 refine ⟨fun i m ys H=>m=n - i∧i ≤ n∧Pv i ys H,⟨n,by simp,Nat.zero_le _,h0⟩,?_⟩
 rintro i m ys H ⟨rfl,hi,p⟩
 have hyl:=hl i ys H hi p
 by_cases hlt:i < n
 ·refine .inr ⟨hlt,by omega,fun x H' y=>?_⟩
  obtain ⟨e,y⟩:=y
  subst e y
  exact hs i ys _ hlt p (fun ys' H'=>∃ m',m' < n - i∧m'=n - (i + 1)∧i + 1 ≤ n∧Pv (i + 1) ys' H') fun ys' H' r=>⟨n - (i + 1),by omega,rfl,hlt,r⟩
 ·have e:i=n:=by omega
  subst e
  exact .inl ⟨Nat.le_refl _,hd ys H p⟩
end L2
namespace L2
open PySem PySem.Spec PyProof.Rows
noncomputable def Its (xs:List V):It:=⟨fun i _=>i < xs.length,fun i H x H'=>H'=H∧xs[i]? = some x,fun i _=>xs.length ≤ i⟩
theorem Pq {P:Program} {w:World} {K:PySem.W.Frag} {tg:Expr} {it:Addr} {xs:List V} {PV:Nat→Value→Prop} {St:Nat→Heap→Prop} (hW:∀ A:Around,A.handled=none→Walks P w A it [it] [it] xs.length PV St)
  (hP:∀ i v,PV i v→∃ x,xs[i]? = some x∧Zc x v)
  (hgo:∀ i h,St i h→∃ o n vs,h.get? it=some o∧o.cls=.type n∧o.data=.fields vs∧["enumerate","zip","dict_itemiterator","dict_reverseitemiterator","odict_iterator","itertools.zip_longest","itertools.pairwise"].contains n=false)
  (hfr:∀ i h h',St i h→(∀ o,h.get? it=some o→h'.get? it=some o)→St i h')
  (hself:∀ (A:Around) (i:Nat) (s:Shared) (Q:Value→Shared→Prop) (E:Value→Shared→Prop),St i s.heap→Q (.ref it) s→wpAny (model P w) A (pyIter (.ref it)) Q E s) :
  nG P w K tg (Its xs) [it] it (fun i h=>i ≤ xs.length∧St i h) where
 mem:=by simp
 obj:=fun i h st b hb=>by
  have e:b=it:=by simpa using hb
  subst e
  obtain ⟨o,n,vs,e,_,d,_⟩:=hgo i h st.2
  exact ⟨o,e,fun v z=>by rw [d] at z;cases z⟩
 keep:=fun i h h' st k=>⟨st.1,hfr i h h' st.2 fun o e=>k it (by simp) o e⟩
 item:=by
  intro X hP' hw hK hc i pins s σ H E I hf st hg
  subst hP' hw hK
  obtain ⟨f0,f1,f2,f3,f4,f5⟩:=hf it (by simp)
  refine (hW X.A (I.ok.hd hc)).item i s _ _ hg st.2 fun v h' tk hv st' kk=>?_
  obtain ⟨x,hx,rx⟩:=hP i v hv
  have I1:Inv X pins σ H { s with heap:=h',toks:=tk }:=I.turned (fun b o hb e=>kk b o (by simpa using hb) e) f0 f1 f3 f4 f5
  obtain ⟨o,n,vs,e,c,d,nm⟩:=hgo _ _ st'
  exact ⟨v,rfl,KD (s:={ s with heap:=h',toks:=tk }) e c d nm ⟨x,H,I1,rx,⟨rfl,hx⟩,⟨hg,st'⟩,fun b hb=>(hf b hb).1⟩⟩
 done:=by
  intro X hP' hw hK hc i pins s σ H E I hf st hg
  subst hP' hw hK
  obtain ⟨f0,f1,f2,f3,f4,f5⟩:=hf it (by simp)
  have e:i=xs.length:=Nat.le_antisymm st.1 hg
  subst e
  exact (hW X.A (I.ok.hd hc)).done s _ _ st.2 fun h' tk kk=>⟨rfl,I.turned (fun b o hb e=>kk b o (by simpa using hb) e) f0 f1 f3 f4 f5⟩
 self:=fun A i s Q E st h=>hself A i s Q E st.2 h
noncomputable def jI (c:Nat):Str:=⟨#[c]⟩
noncomputable def zi (x:Str):List V:=x.cps.toList.map fun c=>V.str (jI c)
theorem Yk (x:Str):(zi x).length=x.cps.size:=by unfold zi;simp
theorem eA {x:Str} {i c:Nat} (h:x.cps[i]? = some c):(zi x)[i]? = some (.str (jI c)):=by
 unfold zi
 rw [List.getElem?_map,Array.getElem?_toList,h]
 rfl
theorem Nq {x:Str} {i:Nat} {v:Value} (h:SignAt x i v):∃ y,(zi x)[i]? = some y∧Zc y v:=by
 obtain ⟨c,u,hc,rfl⟩:=h
 exact ⟨.str (jI c),eA hc,u,rfl⟩
section
variable {X:Cx} {tg:Expr}
noncomputable def iM (tl:TE):TI:=fun σ H R=>tl σ H fun x H1=>∃ z,x=.str z∧R (Its (zi z)) H1
theorem UJ {l:Expr} {tl:TE} (hl:PE X l tl):PI X tg l (iM tl):=by
 intro pins s σ H R I h
 refine thn (hl pins s σ H _ I h) fun v s1 ⟨x,H1,I1,r1,q1⟩=>?_
 obtain ⟨z,e,q⟩:=q1
 subst e
 obtain ⟨t,rfl⟩:=r1
 have fo:∀ b ∈ [s1.heap.objs.size],Jt X pins H1 b:=fun b hb=>by
  have e:b=s1.heap.objs.size:=by simpa using hb
  subst e
  exact I1.fpOk (Nat.le_refl _) (I1.hok.fresh (Nat.le_refl _))
 have hz:=Yk z
 cases ha:z.cps.all (· < 128) with
 | false=>
  refine wpAny_pyIter_wide ha ⟨s1.heap.objs.size,[s1.heap.objs.size],fun i h=>i ≤ (zi z).length∧h.IsStrIter s1.heap.objs.size "str_iterator" z t i,_,H1,rfl,I1.kept (t':=s1.toks) fun b o e=>Heap.get?_push_of_some _ e,
   Pq (fun A hA=>by rw [hz];exact Walks.strWide hA _ z t) (fun i v=>Nq) (fun i h ⟨o,e,c,d⟩=>⟨o,_,_,e,c,d,by decide⟩) (fun i h h' ⟨o,e,r⟩ k=>⟨o,k o e,r⟩) (fun A i s Q E st q=>wpAny_pyIter_striter_wide st q),
   ⟨Nat.zero_le _,_,Heap.get?_push_size _ rfl,rfl,rfl⟩,fo,q⟩
 | true=>
  refine wpAny_pyIter_ascii ha ⟨s1.heap.objs.size,[s1.heap.objs.size],fun i h=>i ≤ (zi z).length∧h.IsStrIter s1.heap.objs.size "str_ascii_iterator" z t i,_,H1,rfl,I1.kept (t':=s1.toks) fun b o e=>Heap.get?_push_of_some _ e,
   Pq (fun A hA=>by rw [hz];exact Walks.strAscii hA _ z t) (fun i v=>Nq) (fun i h ⟨o,e,c,d⟩=>⟨o,_,_,e,c,d,by decide⟩) (fun i h h' ⟨o,e,r⟩ k=>⟨o,k o e,r⟩) (fun A i s Q E st q=>wpAny_pyIter_striter_ascii st q),
   ⟨Nat.zero_le _,_,Heap.get?_push_size _ rfl,rfl,rfl⟩,fo,q⟩
end
theorem JG {xs:List V} {g:TG} {tb:TS} {D:Uf} {σ:St} {H:Hp} (Pv:Nat→St→Hp→Prop) (h0:Pv 0 σ H)
  (hs:∀ i x σ H,xs[i]? = some x→Pv i σ H→g x σ H fun σ2 H2=>tb { D with nx:=Pv (i + 1),ct:=Pv (i + 1),bk:=D.nx } σ2 H2) (hd:∀ σ H,Pv xs.length σ H→D.nx σ H) :
  ∃ W:Nat→Nat→St→Hp→Prop,(∃ m,W 0 m σ H)∧∀ i m σ H,W i m σ H →
   ((Its xs).stop i H∧D.nx σ H)∨((Its xs).go i H∧∃ N:St→Hp→Prop,(∀ σ' H',N σ' H'→∃ m',m' < m∧W (i + 1) m' σ' H')∧∀ x H',(Its xs).yld i H x H'→g x σ H' fun σ2 H2=>tb { D with nx:=N,ct:=N,bk:=D.nx } σ2 H2):=by
 refine ⟨fun i m σ H=>m=xs.length - i∧i ≤ xs.length∧Pv i σ H,⟨xs.length,by simp,Nat.zero_le _,h0⟩,?_⟩
 rintro i m σ H ⟨rfl,hi,p⟩
 by_cases hlt:i < xs.length
 ·refine .inr ⟨hlt,Pv (i + 1),fun σ' H' p'=>⟨xs.length - (i + 1),by omega,rfl,hlt,p'⟩,fun x H' y=>?_⟩
  obtain ⟨e,y⟩:=y
  subst e
  exact hs i x σ _ y p
 ·have e:i=xs.length:=by omega
  subst e
  exact .inl ⟨Nat.le_refl _,hd σ H p⟩
theorem IC {xs:List V} {g:TG} {tc:TT} {te:TE} {σb:St} {Q:VK} {H:Hp} (Pv:Nat→List V→Hp→Prop) (hz:xs.length ≤ sizeLine) (h0:Pv 0 [] H) (hl:∀ i ys H,i ≤ xs.length→Pv i ys H→ys.length ≤ i)
  (hs:∀ i x ys H,xs[i]? = some x→Pv i ys H→Og Pv g tc te σb i x ys H) (hd:∀ ys H,Pv xs.length ys H→∀ p,H p=none→Q (.ref p) (upd H p (.lst ys))) :
  ∃ W:Nat→Nat→List V→Hp→Prop,(∃ m,W 0 m [] H)∧Vu (Its xs) g tc te σb Q W:=by
 refine ⟨fun i m ys H=>m=xs.length - i∧i ≤ xs.length∧Pv i ys H,⟨xs.length,by simp,Nat.zero_le _,h0⟩,?_⟩
 rintro i m ys H ⟨rfl,hi,p⟩
 have hyl:=hl i ys H hi p
 by_cases hlt:i < xs.length
 ·refine .inr ⟨hlt,by omega,fun x H' y=>?_⟩
  obtain ⟨e,y⟩:=y
  subst e
  exact hs i x ys _ y p (fun ys' H'=>∃ m',m' < xs.length - i∧m'=xs.length - (i + 1)∧i + 1 ≤ xs.length∧Pv (i + 1) ys' H') fun ys' H' r=>⟨xs.length - (i + 1),by omega,rfl,hlt,r⟩
 ·have e:i=xs.length:=by omega
  subst e
  exact .inl ⟨Nat.le_refl _,hd ys H p⟩
section
variable {X:Cx}
noncomputable def cM:V→Option Int→Option Int→Hp→VK→Prop:=fun x lo hi H Q=>∃ z,x=.str z∧z.length ≤ sizeLine∧Q (.str (Txt.slice z lo hi)) H
theorem sJ:SlR X cM:=by
 intro pins s σ H x v vl vu lo hi sl Q I rx hs pl pu h
 obtain ⟨z,rfl,hz,q⟩:=h
 obtain ⟨t,rfl⟩:=rx
 refine ⟨"str",_,F.slot_str_getitem.lookup,typeIs_str s z t,?_⟩
 have fin:∀ t' k,EP X pins σ Q (.str (Txt.slice z lo hi) t') { s with toks:=k }:=fun t' k=>⟨.str _,H,I.tok _,⟨_,rfl⟩,q⟩
 cases pl with
 | none=>
  cases pu with
  | none=>exact wpAny_getItem_str_slice (l:=none) (u:=none) (st:=none) hs rfl (post_val_or_str ⟨Nat.le_trans (Txt.slice_le z _ _) hz,fin⟩)
  | int j uj=>exact wpAny_getItem_str_slice (l:=none) (u:=some (j,uj)) (st:=none) hs rfl (post_val_or_str ⟨Nat.le_trans (Txt.slice_le z _ _) hz,fin⟩)
 | int i ui=>
  cases pu with
  | none=>exact wpAny_getItem_str_slice (l:=some (i,ui)) (u:=none) (st:=none) hs rfl (post_val_or_str ⟨Nat.le_trans (Txt.slice_le z _ _) hz,fin⟩)
  | int j uj=>exact wpAny_getItem_str_slice (l:=some (i,ui)) (u:=some (j,uj)) (st:=none) hs rfl (post_val_or_str ⟨Nat.le_trans (Txt.slice_le z _ _) hz,fin⟩)
noncomputable def Ob (ys:List Str):List V:=ys.map V.str
theorem Fu:∀ (l:List (Str × Tok)),Kc (Ob (l.map (·.1))) (strValues l)
 | []=>.nil
 | (x,t) :: r=>.cons ⟨t,rfl⟩ (Fu r)
noncomputable def cL (K:PySem.W.Frag):V→List V→Hp→VK→Prop:=fun x vs H Q=>∃ sep p ys,x=.str sep∧vs=[.ref p]∧SqL K H p (Ob ys)∧(ys.map (·.length)).sum + ys.length * sep.length ≤ 16777216∧Q (.str (Txt.join sep ys)) H
end
theorem iy {prog:Program} {w:World} {A:Around} {E:Value→Shared→Prop} {s:Shared} {x y:Str} {t u:Tok} {Q:Value→Shared→Prop} (hy:(y.length == 0)=false)
  (h:∀ l k,l.map (·.1)=Txt.split x y→Q (.ref s.heap.objs.size) { s with heap:=s.heap.push { cls:=.type "list",data:=.seq (strValues l).toArray },toks:=k }) (hsz:x.length + 2 ≤ sizeLine) :
  wpAny (model prog w) A (call (.builtin "str.split") [.str x t,.str y u]) Q E s:=by
 have hn:(Builtin.Str.partsBetween x (Builtin.Str.occurrences x y 0 x.length (x.length + 1)) y.length).length ≤ sizeLine:=by
  have e1:=StrLaws.occ_length_le x y 0 x.length (x.length + 1)
  rw [length_partsBetween];omega
 cases h1:(decide (x.length < y.length) || decide (Builtin.Str.strKind x < Builtin.Str.strKind y))
 ·cases hf:(Builtin.Str.occurrences x y 0 x.length (x.length + 1)).isEmpty
  ·refine call_meets F.slot_str_split (typeIs_str _ _ _) F.entry_str_split (F.args_str_split_2 _ _) (meets_str_split_sep x y t u h1 hy hf (by omega) hn) ?_
   show wants Q E _ { s with toks:=_,heap:=s.heap.push { cls:=.type "list",data:=.seq (strsFrom s.toks (Builtin.Str.partsBetween x (Builtin.Str.occurrences x y 0 x.length (x.length + 1)) y.length)).toArray } }
   rw [strsFrom_eq]
   exact h (numbered s.toks _) _ ((numbered_texts _ _).trans ((if_neg (ne_true_of_eq_false h1)).trans (if_neg (ne_true_of_eq_false hf))).symm)
  ·exact call_meets F.slot_str_split (typeIs_str _ _ _) F.entry_str_split (F.args_str_split_2 _ _) (meets_str_split_not_found x y t u h1 hy hf)
    (h [(x,t)] s.toks ((if_neg (ne_true_of_eq_false h1)).trans (if_pos hf)).symm)
 ·exact call_meets F.slot_str_split (typeIs_str _ _ _) F.entry_str_split (F.args_str_split_2 _ _) (meets_str_split_cannot_occur x y t u h1)
   (h [(x,t)] s.toks (if_pos h1).symm)
section
variable {X:Cx}
noncomputable def gF:V→List V→Hp→VK→Prop:=fun x vs H Q=>∃ z y,x=.str z∧vs=[.str y]∧y.length ≠ 0∧z.length + 2 ≤ sizeLine∧(Txt.split z y).length ≤ sizeLine∧∀ p,H p=none→Q (.ref p) (upd H p (.lst (Ob (Txt.split z y))))
theorem Nw:MtR X "str.split" gF:=by
 intro pins s σ H x xs v us Q I rx rv h
 obtain ⟨z,y,rfl,rfl,hy,hz,hn,q⟩:=h
 obtain ⟨t,rfl⟩:=rx
 obtain ⟨u,rfl,ru⟩:=zu rv
 obtain ⟨tu,rfl⟩:=ru
 refine iy (by simpa using hy) (fun l k hl=>?_) hz
 refine ⟨.ref s.heap.objs.size,_,I.laid (t':=k) (o:=.lst (Ob (Txt.split z y))) (fun b o e=>Heap.get?_push_of_some _ e) (Nat.le_refl _) ⟨by unfold Ob;rw [List.length_map];exact hn,strValues l,0,by rw [← hl];exact Fu l,Heap.get?_push_size _ rfl⟩,rfl,q _ (I.hok.fresh (Nat.le_refl _))⟩
noncomputable def NG:V→List V→Hp→VK→Prop:=fun x vs H Q=>∃ z y i rest,x=.str z∧vs=[.str y]∧Builtin.Str.occurrences z y 0 z.length 1=i :: rest∧Q (.int (i:Nat)) H
theorem EB:Rn X (.type "int") (fun xs H Q=>∃ z n,xs=[.str z]∧intText? z=some n∧z.length ≤ 640∧Q (.int n) H):=by
 intro pins s σ H xs us Q I r h
 obtain ⟨z,n,rfl,hn,hz,q⟩:=h
 obtain ⟨u,rfl,t,rfl⟩:=zu r
 exact PySem.W.KIN.call_text hn hz ⟨.int n,H,I.tok _,⟨_,rfl⟩,q⟩
theorem et:∀ {bs:List Bool} {us:List Value},Kc (bs.map V.bl) us→us=bs.map Value.bool
 | [],_,.nil=>rfl
 | b :: bs,_,.cons r t=>by
  have e:_=Value.bool b:=r
  rw [e,et t];rfl
theorem Cv {A:Around} (bs:List Bool):TruthOf X.prog X.w A (fun i v=>(bs.map Value.bool).toArray[i]? = some v) (fun i=>bs.getD i true):=by
 intro i v s Q E hP hQ
 have e:(bs.map Value.bool)[i]? = some v:=by simpa using hP
 rw [List.getElem?_map] at e
 cases q:bs[i]? with
 | none=>rw [q] at e;cases e
 | some b=>
  rw [q] at e
  have e':Value.bool b=v:=Option.some.inj e
  subst e'
  refine wpAny_truthy_bool ?_
  have:bs.getD i true=b:=by simp [List.getD,q]
  have hQ':Q (bs.getD i true) s:=hQ
  rw [this] at hQ'
  exact hQ'
theorem PB (bs:List Bool):(List.range bs.length).all (fun i=>bs.getD i true)=bs.all id:=by
 rw [Bool.eq_iff_iff]
 simp only [List.all_eq_true,List.mem_range,id]
 constructor
 ·intro h b hb
  obtain ⟨i,hi,e⟩:=List.mem_iff_getElem.mp hb
  have:=h i hi
  simp [List.getD,hi,e] at this
  exact this
 ·intro h i hi
  simp [List.getD,hi]
  exact h _ (List.getElem_mem hi)
theorem cD (hc:X.calm=true):Rn X (.builtin "all") (fun xs H Q=>∃ (p:Addr) (bs:List Bool),xs=[.ref p]∧SqL X.K H p (bs.map V.bl)∧Q (.bl (bs.all id)) H):=by
 intro pins s σ H xs us Q I r h
 obtain ⟨p,bs,rfl,hq,q⟩:=h
 obtain ⟨u,rfl,ru⟩:=zu r
 cases ru
 obtain ⟨its,rv,pl,_⟩:=I.list hq
 have e:=et rv
 subst e
 refine call_all_walk (wpAny_pyIter_list pl.isList ?_)
 have hne:p ≠ s.heap.objs.size:=Nat.ne_of_lt (by obtain ⟨o,_,ho,_⟩:=pl;exact Heap.lt_size ho)
 refine ⟨s.heap.objs.size,_,_,_,_,_,fun i=>bs.getD i true,rfl,Walks.list (show X.A.in1.handled=none from I.ok.hd hc) _ p hne (bs.map Value.bool).toArray,⟨⟨_,Heap.get?_push_size _ rfl,rfl,rfl⟩,pl.isList.at fun o e=>Heap.get?_push_of_some _ e⟩,Cv bs,fun h' tk kk=>?_⟩
 refine ⟨.bl (bs.all id),H,I.kept fun b o e=>kk b o (by simpa using Nat.ne_of_lt (Heap.lt_size e)) (Heap.get?_push_of_some _ e),?_,q⟩
 show Value.bool _=Value.bool _
 rw [show (bs.map Value.bool).toArray.size=bs.length by simp,PB]
theorem As:Rn X (.builtin "isinstance") (fun xs H Q=>∃ x T t b,xs=[x,.ty T]∧dw X.K H x t∧PySem.W.kitOne X.K t (.type T)=some b∧Q (.bl b) H):=by
 intro pins s σ H xs us Q I r h
 obtain ⟨x,T,t,b,rfl,ty,e,q⟩:=h
 obtain ⟨u,u2,rfl,rx,r2⟩:=dE r
 cases r2
 exact Hz I rx ty e fun tk=>⟨.bl b,H,I.tok _,rfl,q⟩
end
end L2
namespace L2
open PySem PySem.Spec PyProof.Rows
theorem Ai {X:Cx} {N:List Str} (h:N.Nodup) (e:X.N=N):X.N.Nodup:=e ▸ h
noncomputable def Vy (sc scope:Scope):Bool:=
 (scope.kind == .function) && scope.names.all (fun y=>y.2 != .cell) && scope.names.all (fun y=>y.2 != .free || sc.names.lookup y.1 == some .cell || sc.names.lookup y.1 == some .free) &&
  scope.names.all (fun y=>y.2 != .local || scope.names.lookup y.1 == some .local)
theorem Nd {env:Env} {sc scope:Scope} (he:env.scope=sc) (h:Vy sc scope=true):Wm env scope:=by
 subst he
 unfold Vy at h
 simp only [Bool.and_eq_true,List.all_eq_true] at h
 obtain ⟨⟨⟨h1,h2⟩,h3⟩,h4⟩:=h
 refine ⟨by simpa using h1,fun y hy e=>?_,fun y hy e=>?_,fun y hy e=>?_⟩
 ·have:=h2 y hy
  rw [e] at this
  exact absurd this (by decide)
 ·have:=h3 y hy
  rw [e] at this
  simp only [Bool.or_eq_true] at this
  rcases this with (z | z) | z
  ·exact absurd z (by decide)
  ·exact .inl (show env.scope.names.lookup y.1=some .cell by simpa using z)
  ·exact .inr (show env.scope.names.lookup y.1=some .free by simpa using z)
 ·have:=h4 y hy
  rw [e] at this
  simp only [Bool.or_eq_true] at this
  rcases this with z | z
  ·exact absurd z (by decide)
  ·simpa using z
noncomputable def RL (M:List Str) (scope:Scope) (N:List Str) (sel:List (Option Nat)):Bool:=
 sel.length == N.length && (sel.zip N).all fun p=>match p.1 with | none=>true | some j=>M[j]? == some p.2 && scope.names.lookup p.2 == some .free
theorem He {M:List Str} {scope:Scope} {N:List Str} {sel:List (Option Nat)} (h:RL M scope N sel=true):rB M scope N sel:=by
 unfold RL at h
 simp only [Bool.and_eq_true,List.all_eq_true] at h
 refine ⟨by simpa using h.1,fun i j x e1 e2=>?_⟩
 have hm:(some j,x) ∈ sel.zip N:=by
  rw [List.mem_iff_getElem?]
  exact ⟨i,by rw [List.getElem?_zip_eq_some];exact ⟨e1,e2⟩⟩
 have:=h.2 _ hm
 simp only [Bool.and_eq_true] at this
 exact ⟨by simpa using this.1,by simpa using this.2⟩
noncomputable def noT:HO→Bool
 | .dT _=>false
 | .frz _ u=>noT u
 | _=>true
noncomputable def NoT (H:Hp):Prop:=∀ b o,H b=some o→noT o=true
theorem Xc.back {P:Program} {w:World} {H H':Hp} {h h':Heap} {a:Addr}:∀ (o:HO),noT o=true→Xc P w H' h' a o→Xc P w H h a o→Xc P w H h' a o
 | .lst _,_,x,_=>x
 | .tup _,_,x,_=>x
 | .dK _,_,x,_=>x
 | .dT _,e,_,_=>absurd e (by unfold noT;decide)
 | .set _ _,_,x,_=>x
 | .ins _ _ _,_,x,y=>⟨y.1,x.2⟩
 | .own _,_,x,_=>x
 | .xd _,_,x,_=>x
 | .met _ _,_,x,_=>x
 | .rng _ _,_,x,_=>x
 | .frz ob u,e,x,y=>⟨x.1,Xc.back u (by unfold noT at e;exact e) x.2 y.2⟩
 | .tbl _,_,x,_=>x
 | .ext _,_,x,_=>x
section
variable {P:Program} {w:World} {K:PySem.W.Frag} {mg:Str→Option Value} {base:Heap}
theorem Bb.forget {k:Nat} {f:Addr} {fd:FuncData} {ps:List Str} {sp sp':Sp} (F:Bb P w K mg base CX0 k f fd ps sp)
  (h:∀ vs H Q E,sp' vs H Q E→NoT H∧sp vs H (fun v H'=>Rb H H'∧Q v H) E):Bb P w K mg base CX0 k f fd ps sp':=by
 refine ⟨fun vs H Q E q=>F.len vs H _ E (h vs H Q E q).2,fun A outer s H args us vs Q E hr he hb hv hs=>?_⟩
 obtain ⟨nt,q⟩:=h vs H Q E hs
 refine codeAny_mono (F.run A outer s H args us vs _ E hr he hb hv q) fun r s' hq=>?_
 cases r with
 | error e=>exact hq
 | ok fl=>
  cases fl with
  | next=>exact hq
  | brk=>exact hq
  | cont=>exact hq
  | ret u=>
   obtain ⟨v,H',os,bare,un,hok,rv,sm,q'⟩:=hq
   exact ⟨v,H,os,bare,⟨un.keep,un.slot,fun _ _ _ n _=>n,un.there,fun _ _ z=>z,fun _ _ _ z=>z,fun _ ps z=>⟨#[],by rw [z];simp⟩⟩,fun a o e=>(hok a o (sm a o e)).back o (nt a o e) (he.hok a o e),rv,q'⟩
end
theorem qb {H:Hp} {p:Addr} {o:HO} (h:H p=none):Rb H (upd H p o):=fun b u q=>by rw [jb (lb q h)];exact q
theorem Rb.updN {H H1:Hp} {p:Addr} {o:HO} (s:Rb H H1) (h:H p=none):Rb H (upd H1 p o):=fun b u q=>by rw [jb (lb q h)];exact s b u q
structure Sc (K:PySem.W.Frag) (a:Addr) (ns:List Int) (H:Hp):Prop where
 sq:(∃ o,H a=some (.frz o (.lst (ns.map V.int))))∨∃ (o:Obj) (its:Array Value) (n:Nat),K.lookup a=some o∧o.cls=.type "list" ∧ o.dict=none∧o.data=.seq its n∧its.size ≤ sizeLine∧Kc (ns.map V.int) its.toList
 nt:NoT H
section
variable {K:PySem.W.Frag} {a p:Addr} {ns:List Int} {H H':Hp} {o:HO}
theorem Sc.seq (s:Sc K a ns H):SqL K H a (ns.map V.int):=by
 rcases s.sq with ⟨o,h⟩ | h
 ·exact .inl (.inr ⟨o,h⟩)
 ·exact .inr h
theorem Sc.new (s:Sc K a ns H) (hp:H p=none) (ho:noT o=true:=by rfl):Sc K a ns (upd H p o):=by
 refine ⟨?_,fun b u e=>?_⟩
 ·rcases s.sq with ⟨ob,h⟩ | h
  ·exact .inl ⟨ob,by rw [jb (lb h hp)];exact h⟩
  ·exact .inr h
 ·by_cases hb:b=p
  ·subst hb;rw [db] at e;cases e;exact ho
  ·rw [jb hb] at e;exact s.nt b u e
theorem Sc.set {u:HO} (s:Sc K a ns H) (hp:H p=some u) (hu:∀ ob z,u ≠ .frz ob z) (ho:noT o=true:=by rfl):Sc K a ns (upd H p o):=by
 refine ⟨?_,fun b x e=>?_⟩
 ·rcases s.sq with ⟨ob,h⟩ | h
  ·refine .inl ⟨ob,?_⟩
   have hne:a ≠ p:=fun z=>by subst z;rw [hp] at h;exact hu _ _ (Option.some.inj h)
   rw [jb hne];exact h
  ·exact .inr h
 ·by_cases hb:b=p
  ·subst hb;rw [db] at e;cases e;exact ho
  ·rw [jb hb] at e;exact s.nt b x e
theorem Sc.of_only (hO:yK H) (hS:SqL K H a (ns.map V.int)):Sc K a ns H:=by
 refine ⟨?_,fun b u e=>?_⟩
 ·rcases hS with (h | ⟨o,h⟩) | h
  ·rcases hO a with z | ⟨ob,xs,z⟩
   ·rw [h] at z;cases z
   ·rw [h] at z;cases z
  ·exact .inl ⟨o,h⟩
  ·exact .inr h
 ·rcases hO b with z | ⟨ob,xs,z⟩
  ·rw [e] at z;cases z
  ·rw [e] at z;cases z;rfl
end
noncomputable def EI (K:PySem.W.Frag):Sp:=fun vs H Q _=>∃ (a:Addr) (ns:List Int),vs=[.ref a]∧Sc K a ns H∧ns.length ≤ 63∧∀ H',Q (.bl true) H'
theorem Lc:bootBuiltins "len"=some (.builtin "len"):=PySem.boot_len
theorem Xx:bootBuiltins "all"=some (.builtin "all"):=by decide +kernel
theorem Yq:bootBuiltins "min"=some (.builtin "min"):=by decide +kernel
theorem Ul:bootBuiltins "max"=some (.builtin "max"):=by decide +kernel
theorem Se:bootBuiltins "isinstance"=some (.builtin "isinstance"):=by decide +kernel
theorem cr:bootBuiltins "int"=some (.type "int"):=by decide +kernel
theorem Sl:bootBuiltins "str"=some (.type "str"):=by decide +kernel
theorem fv:bootBuiltins "bool"=some (.type "bool"):=by decide +kernel
theorem Qu:bootBuiltins "list"=some (.type "list"):=by decide +kernel
theorem Ct:bootBuiltins "tuple"=some (.type "tuple"):=by decide +kernel
theorem oF {K:PySem.W.Frag} {T:String}:PySem.W.kitOne K (.type T) (.type T)=some true:=by
 unfold PySem.W.kitOne
 rw [if_pos (by simp)]
theorem OI {K:PySem.W.Frag}:PySem.W.kitOne K (.type "int") (.type "bool")=some false:=by
 unfold PySem.W.kitOne
 rw [if_neg (by decide)]
 with_unfolding_all rfl
theorem Rd.same {H H':Hp} {a:Addr} {o:HO} (h:Rd H a o) (s:Rb H H'):Rd H' a o:=by
 rcases h with h | ⟨ob,h⟩
 ·exact .inl (s _ _ h)
 ·exact .inr ⟨ob,s _ _ h⟩
theorem SqL.same {K:PySem.W.Frag} {H H':Hp} {a:Addr} {xs:List V} (h:SqL K H a xs) (s:Rb H H'):SqL K H' a xs:=by
 rcases h with h | h
 ·exact .inl (h.same s)
 ·exact .inr h
theorem SqT.same {K:PySem.W.Frag} {H H':Hp} {a:Addr} {xs:List V} (h:SqT K H a xs) (s:Rb H H'):SqT K H' a xs:=by
 rcases h with h | h
 ·exact .inl (h.same s)
 ·exact .inr h
theorem NoT.upd {H:Hp} {p:Addr} {o:HO} (h:NoT H) (ho:noT o=true:=by rfl):NoT (upd H p o):=fun b u e=>by
 by_cases hb:b=p
 ·subst hb;rw [db] at e;cases e;exact ho
 ·rw [jb hb] at e;exact h b u e
theorem Sc.same {K:PySem.W.Frag} {a:Addr} {ns:List Int} {H H':Hp} (s:Sc K a ns H) (sm:Rb H H') (nt:NoT H'):Sc K a ns H':=by
 refine ⟨?_,nt⟩
 rcases s.sq with ⟨o,h⟩ | h
 ·exact .inl ⟨o,sm _ _ h⟩
 ·exact .inr h
end L2
namespace L2
open PySem PySem.Spec PyProof.Rows
structure gM (K:PySem.W.Frag) (C:Addr) (m:Str) (f:Addr):Prop where
 rd:PySem.W.readsIn K C (.type "type")=true
 fd:PySem.W.findCls K (.ref C) (.type "type") m=some (.val (.ref f))
 ga:PySem.W.specialIn K (.ref C) "__getattribute__"=some (some (.builtin "type.__getattribute__"))
 kp:PySem.W.keepIn K (.ref f)=true
structure DD (P:Program) (w:World) (K:PySem.W.Frag) (mg:Str→Option Value) (base:Heap) (CX:CXT) (k:Nat) (OK:Addr→Prop) (m:Str) (ps:List Str) (SPV:Addr→Sp):Prop where
 ok:∀ C,OK C→∃ f fd,Cls K C∧kr K C m f∧Bb P w K mg base CX k f fd ps (SPV C)∧Kb K fd ps []
noncomputable def QE (OK:Addr→Prop) (m:Str) (SPV:Addr→Sp) (E:XK) (ta:TE) (t:TA):TE:=fun σ H Q=>ta σ H fun x H1=>∃ a C dx fs,x=.ref a∧H1 a=some (.ins C dx fs)∧OK C∧fs.lookup m=none ∧
 t σ H1 fun vs H2=>SPV C (x :: vs) H2 Q E
section
variable {X:Cx} {CX:CXT} {k:Nat} {f C:Addr} {fd:FuncData} {ps:List Str} {sp:Sp} {dvs:List V} {ds:List Value} {E:XK} {x m:Str} {p pos apos:Pos} {e o:Expr} {es:List Expr} {ta:TE} {t:TA}
theorem Ur {pl:Sem Bool} (hg:Gl X x) (hm:X.mg x=some (.ref C)) (c:gM X.K C m f) (F:Bb X.prog X.w X.K X.mg X.base CX k f fd ps sp) (hr:Ih k X.A) (hb:Kb X.K fd ps ds) (hd:Kc dvs ds) (hx:pk CX X E) (ha:PA X (e :: es) t)
  (hdb:(x == ("__debug__" : Str))=false:=by decide) (hst:starEach (e :: es) X.env=(false,eval e X.env) :: starEach es X.env:=by rfl) (hpl:(backTo pos (starEach es X.env)).any (·.1)=false:=by rfl)
  (ht:eval (.Call (.Attribute (.Name x p) m apos) (e :: es) [] pos) X.env=(do
   let ov ← eval (.Name x p) X.env
   standAt apos.atName
   let (f,first) ← holding [ov] (getMethod ov m pl)
   callWith pos f first (backTo pos (starEach (e :: es) X.env)) (backToKw pos (keywordEach [] X.env))):=by rfl) :
  PE X (.Call (.Attribute (.Name x p) m apos) (e :: es) [] pos) (JH sp dvs E t):=by
 intro pins s σ H Q I h
 refine PySem.W.methodCall_KW (pl:=pl) (Ti I hg hm ?_ hdb) ht
 refine PySem.W.method_cls I.kIn c.ga (PySem.W.cls_value I.kIn c.rd c.fd rfl ?_)
 have I1:=I.tok (s.toks + 1)
 refine PySem.W.callWith_K (first:=[]) (h₀:=X.base) I.ok.mod.kin c.kp (thn (ha pos pins _ σ H _ I1 h) fun us s2 ⟨vs,H2,I2,r,q2⟩=>⟨I2.kIn,?_⟩) hst hpl
 exact Et F hr hb hd hx I2 r q2
variable {OK:Addr→Prop} {SPV:Addr→Sp}
theorem Al {pl:Sem Bool} (he:PE X o ta) (V:DD X.prog X.w X.K X.mg X.base CX k OK m ps SPV) (hr:Ih k X.A) (hx:pk CX X E)
  (ht:eval (.Call (.Attribute o m apos) [] [] pos) X.env=(do
   let ov ← eval o X.env
   standAt apos.atName
   let (f,first) ← holding [ov] (getMethod ov m pl)
   callWith pos f first (backTo pos (starEach [] X.env)) (backToKw pos (keywordEach [] X.env))):=by rfl) :
  PE X (.Call (.Attribute o m apos) [] [] pos) (QE OK m SPV E ta QK):=by
 intro pins s σ H Q I h
 refine PySem.W.methodCall_KW (pl:=pl) (thn (he pins s σ H _ I h) fun u s1 ⟨x,H1,I1,rx,a,C,dx,fs,ex,ea,ok,l,q⟩=>?_) ht
 subst ex
 obtain rfl:u=Value.ref a:=rx
 obtain ⟨f,fd,c,hm,F,hb⟩:=V.ok C ok
 refine am I1 ea c hm l ?_
 exact PySem.W.callWith_K0 (first:=[.ref a]) I1.kIn hm.kp (Et (us:=[.ref a]) (vs:=[.ref a]) (dvs:=[]) F hr hb .nil hx I1 (.cons rfl .nil) q)
end
noncomputable abbrev SVs:=List (Str × V)
noncomputable def RJ (kvs:SVs) (ty:TE):TE:=fun σ H Q=>ty σ H fun y H1=>∃ x v,y=.str x∧kvs.lookup x=some v∧Q v H1
section
variable {X:Cx} {x:Str} {p pos:Pos} {i:Expr} {ty:TE} {u:Value} {kvs:List (Str × V)}
end
noncomputable def Bi (K:PySem.W.Frag) (H:Hp) (a:Addr) (f:Str) (v:V):Prop:=∃ C dx fs,H a=some (.ins C dx fs)∧Cls K C∧zb K C f∧fs.lookup f=some v
theorem zc {f:Str} {v:V}:∀ {fs:List (Str × V)} (ks:List Str),fs.map (·.1)=ks→ks.contains f=false→ag f v fs=fs ++ [(f,v)]
 | [],_,_,_=>rfl
 | (g,y) :: r,ks,e,h=>by
  cases e
  rw [List.map_cons,List.contains_cons] at h
  have h1:=(Bool.or_eq_false_iff.mp h)
  have hne:¬ g=f:=fun z=>by
   have:=h1.1
   rw [z] at this
   simp at this
  show (if g=f then _ else _)=_
  rw [if_neg hne,zc _ rfl h1.2]
  rfl
theorem Pl {f:Str} {v:V} {fs:List (Str × V)} {n:Nat} (h:fs.length < n):(ag f v fs).length < n + 1:=Nat.lt_of_le_of_lt (uk f v fs) (by omega)
theorem Bd {f:Str} {v:V}:∀ {fs:List (Str × V)} (ks:List Str) (i:Nat),fs.map (·.1)=ks→ks.findIdx? (· == f)=some i→fs[i]? = some (f,v)→fs.lookup f=some v
 | [],_,_,_,_,h=>by simp at h
 | (g,y) :: r,ks,i,e,h,hv=>by
  cases e
  rw [List.map_cons,List.findIdx?_cons] at h
  rw [List.lookup]
  by_cases e:g=f
  ·subst e
   rw [beq_self_eq_true,if_pos rfl] at h
   cases h
   have:(g,y)=(g,v):=by simpa using hv
   cases this
   rw [beq_self_eq_true]
  ·rw [beq_eq_false_iff_ne.mpr e,if_neg (by decide)] at h
   obtain ⟨j,hj,rfl⟩:=Option.map_eq_some_iff.mp h
   rw [beq_eq_false_iff_ne.mpr (fun z=>e z.symm)]
   exact Bd _ j rfl hj (by simpa using hv)
theorem dl {f:Str}:∀ {fs:List (Str × V)} (ks:List Str),fs.map (·.1)=ks→ks.contains f=false→fs.lookup f=none
 | [],_,_,_=>rfl
 | (g,y) :: r,ks,e,h=>by
  cases e
  rw [List.map_cons,List.contains_cons] at h
  have h1:=(Bool.or_eq_false_iff.mp h)
  rw [List.lookup,h1.1]
  exact dl _ rfl h1.2
end L2
namespace L2
open PySem PySem.Spec PyProof.Rows
theorem Inv.turnedL {X:Cx} {pins:List (Addr × Obj)} {σ:St} {H:Hp} {s:Shared} {h':Heap} {t':Nat} {fp:List Addr} (I:Inv X pins σ H s) (k:∀ b o,b ∉ fp→s.heap.get? b=some o→h'.get? b=some o)
  (hf:∀ b ∈ fp,Jt X pins H b):Inv X pins σ H { s with heap:=h',toks:=t' }:=by
 have nit:∀ b u,H b=some u→b ∉ fp:=fun b u e z=>by rw [(hf b z).1] at e;cases e
 refine I.step (g':=s.gens) (d':=s.drawn) (ch:=fp) (fun b hb=>?_) (fun b o _ _ hc e _=>k b o hc e) (fun b o _ _ hc e _=>⟨o.slots,k b o hc e⟩) (fun _ _ _ _ n=>n)
  (fun b o hc e=>⟨o,k b o hc e⟩) (fun _ _ e=>e) (fun _ _ _ e=>e) (fun b ps e=>⟨#[],by rw [e];simp⟩) (fun m hm=>?_) (fun b u e=>?_) I.bare
 ·obtain ⟨f0,f1,f2,f3,f4,f5⟩:=hf b hb
  exact ⟨f3,f1,f4,f5⟩
 ·obtain ⟨o,es,ep,ho,r⟩:=hm
  exact ⟨o,es,ep,k _ o (fun z=>(hf _ z).2.1 rfl) ho,r⟩
 ·refine (I.hok b u e).stay (fun c v hc q=>k c v ?_ q) (fun _ q=>q) fun _ _ q=>q
  rcases hc with z | z
  ·rw [z];exact nit b u e
  ·exact nit c _ z
noncomputable def Ite (K:PySem.W.Frag) (a:Addr):It:=
 ⟨fun i H=>∃ xs x,SqL K H a xs∧xs[i]? = some x,fun i H v H'=>∃ p y,H p=none∧v=.ref p∧(∀ xs,SqL K H a xs→xs[i]? = some y)∧H'=upd H p (.tup [.int i,y]),fun i H=>∃ xs,SqL K H a xs∧xs.length ≤ i⟩
theorem SA {P:Program} {w:World} {K:PySem.W.Frag} {es:List Expr} {k} {pos:Pos} (a e it:Addr) (hne:e ≠ it) :
  nG P w K (.Tuple es k pos) (Ite K a) [e,it] e (fun i h=>∃ old,IsEnum h e it ((i:Nat):Int) old∧h.IsListIter it a i) where
 mem:=by simp
 obj:=fun i h ⟨old,he,hi⟩ b hb=>by
  simp only [List.mem_cons,List.not_mem_nil,or_false] at hb
  rcases hb with rfl | rfl
  ·exact ⟨_,he,fun v z=>by
    have z':Data.fields _=Data.cell v:=z
    cases z'⟩
  ·obtain ⟨o,q,c,d⟩:=hi
   exact ⟨o,q,fun v z=>by rw [d] at z;cases z⟩
 keep:=fun i h h' ⟨old,he,hi⟩ k=>⟨old,k e (by simp) _ he,hi.at fun o q=>k it (by simp) o q⟩
 item:=by
  intro X hP hw hK hc i pins s σ H E I hf ⟨old,he,hi⟩ hg
  subst hP hw hK
  obtain ⟨xs,x,hq,hx⟩:=hg
  obtain ⟨its,rv,p,hz⟩:=I.list hq
  obtain ⟨u,hu,ru⟩:=rv.get hx
  refine wpAny_pyNext_enum_item he hi p.isList (x:=u) (by simpa using hu) hne fun h1 he1 hi1 ht1 hz1 hk1=>⟨_,rfl,?_⟩
  refine wpAny_letOwnedTupleGo_enum he1 fun h2 he2 hs2=>?_
  replace hs2:Heap.SameBut e h1 h2:=hs2
  have hel:e < s.heap.objs.size:=Heap.lt_size he
  have hk:∀ b o,b ∉ [e,it]→s.heap.get? b=some o→h2.get? b=some o:=fun b o hb q=>by
   simp only [List.mem_cons,List.not_mem_nil,or_false,not_or] at hb
   exact hs2.extBut _ _ hb.1 (hk1 b o hb.1 hb.2 q)
  have I1:Inv X pins σ H { s with heap:=h2,toks:=s.toks + 1 }:=I.turnedL hk hf
  have fo:Jt X pins H s.heap.objs.size:=I.fpOk (Nat.le_refl _) (I.hok.fresh (Nat.le_refl _))
  have ht2:h2.get? s.heap.objs.size=some { cls:=.type "tuple",data:=.seq #[.int i s.toks,u] }:=(hs2.2 _ (Nat.ne_of_gt hel)).trans ht1
  have I2:=I1.adopt (o:=.tup [.int i,x]) fo ⟨by show 2 ≤ sizeLine;decide,[.int i s.toks,u],.cons ⟨_,rfl⟩ (.cons ru .nil),⟨_,ht2,rfl,_,rfl⟩⟩
  refine ⟨.ref s.heap.objs.size,_,I2,rfl,⟨_,x,fo.1,rfl,fun ys hy=>by rw [I.list_inj hy hq];exact hx,rfl⟩,⟨u,?_,?_⟩,fun b hb=>?_⟩
  ·have e1:((i + 1:Nat):Int)=(i:Int) + 1:=by omega
   rw [e1];exact he2
  ·exact hi1.extBut hs2.extBut (Ne.symm hne)
  ·have hlt:b < s.heap.objs.size:=by
    simp only [List.mem_cons,List.not_mem_nil,or_false] at hb
    rcases hb with rfl | rfl
    ·exact hel
    ·obtain ⟨o,q,_⟩:=hi
     exact Heap.lt_size q
   rw [jb (Nat.ne_of_lt hlt)];exact (hf b hb).1
 done:=by
  intro X hP hw hK hc i pins s σ H E I hf ⟨old,he,hi⟩ hg
  subst hP hw hK
  obtain ⟨xs,hq,hx⟩:=hg
  obtain ⟨its,rv,p,hz⟩:=I.list hq
  have hl:=rv.length
  exact wpAny_pyNext_enum_end (I.ok.hd hc) he hi p.isList (by simp;omega) fun h' eb=>⟨rfl,I.turnedL (t':=s.toks) (fun b o hb q=>eb b o (fun z=>hb (by simp [z])) q) hf⟩
 self:=fun _ _ _ _ _ ⟨_,he,_⟩ h=>wpAny_pyIter_enum he h
theorem Up:bootBuiltins "enumerate"=some (.type "enumerate"):=by decide +kernel
theorem Us:bootBuiltins "reversed"=some (.type "reversed"):=by decide +kernel
noncomputable def Itz (K:PySem.W.Frag) (a b:Addr):It:=
  ⟨fun i H=>∃ xs ys x y,SqL K H a xs∧SqL K H b ys∧xs[i]? = some x∧ys[i]? = some y,
   fun i H v H'=>∃ p x y,H p=none∧v=.ref p∧(∀ xs,SqL K H a xs→xs[i]? = some x)∧(∀ ys,SqL K H b ys→ys[i]? = some y)∧H'=upd H p (.tup [x,y]),
   fun i H=>∃ xs ys,SqL K H a xs∧SqL K H b ys∧(xs.length ≤ i∨ys.length ≤ i)⟩
noncomputable def Itv (K:PySem.W.Frag) (a:Addr) (n:Nat):It:=
 ⟨fun i H=>i < n∧∃ xs,SqL K H a xs∧xs.length=n,fun i H x H'=>H'=H∧∀ xs,SqL K H a xs→xs[n - 1 - i]? = some x,fun i _=>n ≤ i⟩
section
variable {X:Cx}
noncomputable def oI (K:PySem.W.Frag) (ta:TA):TI:=fun σ H R=>ta σ H fun vs H1=>∃ a,vs=[.ref a]∧(∃ xs,SqL K H1 a xs)∧R (Ite K a) H1
theorem oo {es:List Expr} {k} {tpos:Pos} {a:Expr} {ta:TA} {p pos:Pos} (hg:Gl X "enumerate") (hm:X.mg "enumerate"=none) (ha:PA X [a] ta) (hs:starEach [a] X.env=[(false,eval a X.env)]:=by rfl) :
  PI X (.Tuple es k tpos) (.Call (.Name "enumerate" p) [a] [] pos) (oI X.K ta):=by
 intro pins s σ H R I h
 refine Call_ (ol I hg hm Up (PyProof.Rows.callWith_type1 (thn (ha pos pins s σ H _ I h) fun us s1 ⟨vs,H1,I1,r1,q1⟩=>?_) hs rfl))
 obtain ⟨a,e,⟨xs,hq⟩,q⟩:=q1
 subst e
 cases r1 with
 | cons r rr=>
  cases rr
  cases r
  obtain ⟨its,rv,pl,hz⟩:=I1.list hq
  refine call_enumerate_list pl.isList fun h' hE hI hsz hk=>wpAny_pyIter_enum hE ?_
  refine ⟨s1.heap.objs.size + 1,[s1.heap.objs.size + 1,s1.heap.objs.size],_,_,H1,rfl,I1.kept (t':=s1.toks) hk,SA a _ _ (Nat.succ_ne_self _),⟨_,hE,hI⟩,fun b hb=>?_,q⟩
  have hb':s1.heap.objs.size ≤ b:=by
   simp only [List.mem_cons,List.not_mem_nil,or_false] at hb
   rcases hb with rfl | rfl
   ·exact Nat.le_succ _
   ·exact Nat.le_refl _
  exact I1.fpOk hb' (I1.hok.fresh hb')
noncomputable def fN (K:PySem.W.Frag) (ta:TA):TI:=fun σ H R=>ta σ H fun vs H1=>∃ a b,vs=[.ref a,.ref b]∧(∃ xs,SqL K H1 a xs)∧(∃ ys,SqL K H1 b ys)∧R (Itz K a b) H1
noncomputable def tM (K:PySem.W.Frag) (ta:TA):TI:=fun σ H R=>ta σ H fun vs H1=>∃ a xs,vs=[.ref a]∧SqL K H1 a xs∧R (Itv K a xs.length) H1
end
theorem af {X:Cx} {es:List Expr} {k:Nat} {pos:Pos} {t:TGs} {n:Nat} {K:PySem.W.Frag} (hK:X.K=K) (hc:X.calm=true) (h:PGs X es t)
  (hn:(assignEach es X.env).length=n:=by rfl) (hst:(assignEach es X.env).findIdx? (·.1)=none:=by rfl):PG X (.Tuple es k pos) (AK K n t):=by
 subst hK
 exact AI hc h hn hst
section
variable {X:Cx}
noncomputable def eG:V→List V→Hp→VK→Prop:=fun x vs H Q=>∃ l xs i y,x=.ref l∧vs=[.int i,y]∧H l=some (.lst xs)∧0 ≤ i∧i < 2 ^ 62∧i ≤ (xs.length:Int)∧xs.length < sizeLine∧Q .non (upd H l (.lst (xs.take i.toNat ++ y :: xs.drop i.toNat)))
theorem Ws {P:Nat→Value→Prop} {f:Nat→V} (hP:∀ i v,P i v→Zc (f i) v):∀ (l:List Value) (k:Nat),(∀ j v,l[j]? = some v→P (k + j) v)→Kc ((List.range l.length).map fun i=>f (k + i)) l
 | [],_,_=>.nil
 | v :: r,k,h=>by
  rw [List.length_cons,List.range_succ_eq_map,List.map_cons,List.map_map]
  refine .cons (hP _ _ (h 0 v rfl)) ?_
  have:=Ws hP r (k + 1) fun j w hj=>by
   have:=h (j + 1) w (by simpa using hj)
   rwa [show k + 1 + j=k + (j + 1) by omega]
  have e:(fun i=>f (k + 1 + i))=((fun i=>f (k + i)) ∘ Nat.succ):=funext fun i=>by
   show f (k + 1 + i)=f (k + (i + 1))
   rw [show k + 1 + i=k + (i + 1) by omega]
  rwa [e] at this
theorem Cy {P:Nat→Value→Prop} {f:Nat→V} (hP:∀ i v,P i v→Zc (f i) v) {acc:Array Value} {n:Nat} (h:ItemsOf P acc n):Kc ((List.range n).map f) acc.toList:=by
 have:=Ws hP acc.toList 0 fun j v hj=>by
  rw [Nat.zero_add]
  exact h.2 j v (by rw [← Array.getElem?_toList];exact hj)
 rw [show acc.toList.length=n by rw [Array.length_toList];exact h.1] at this
 simpa using this
end
end L2
namespace L2
open PySem PySem.Spec PyProof.Rows
inductive EqH (K:PySem.W.Frag) (H:Hp):Nat→V→V→Bool→Prop
 | flat {k:Nat} {x y:V} (hx:Ak x=true) (hy:Ak y=true):EqH K H k x y (eqV x y)
 | lst {k:Nat} {p q:Addr} {xs ys:List V} {e:Nat→Bool} (hp:SqL K H p xs) (hq:SqL K H q ys) (hl:xs.length=ys.length) (he:∀ (j:Nat) (x y:V),xs[j]? = some x→ys[j]? = some y→EqH K H k x y (e j)):EqH K H (k + 1) (.ref p) (.ref q) ((List.range xs.length).all e)
 | lstN {k:Nat} {p q:Addr} {xs ys:List V} (hp:SqL K H p xs) (hq:SqL K H q ys) (hl:xs.length ≠ ys.length):EqH K H (k + 1) (.ref p) (.ref q) false
 | tup {k:Nat} {p q:Addr} {xs ys:List V} {e:Nat→Bool} (hp:SqT K H p xs) (hq:SqT K H q ys) (he:∀ (j:Nat) (x y:V),xs[j]? = some x→ys[j]? = some y→EqH K H k x y (e j)):EqH K H (k + 1) (.ref p) (.ref q) ((List.range (min xs.length ys.length)).all e && xs.length == ys.length)
theorem mD {x:V} (h:Ak x=true):eqV x x=true:=by
 cases x <;> first | rfl | (simp [eqV];done) | cases h
theorem Tq {n:Nat} {e:Nat→Bool} (h:∀ j,j < n→e j=true):(List.range n).all e=true:=by
 rw [List.all_eq_true]
 exact fun j hj=>h j (List.mem_range.mp hj)
section
variable {X:Cx} {pins:List (Addr × Obj)} {σ:St} {H:Hp} {s:Shared}
theorem EqH.self (I:Inv X pins σ H s) {k:Nat} {x y:V} {b:Bool} (h:EqH X.K H k x y b) (e:x=y):b=true:=by
 induction h with
 | flat hx hy=>subst e;exact mD hx
 | @lst k p q xs ys f hp hq hl he ih=>
  injection e with e
  subst e
  have:=I.list_inj hp hq
  subst this
  refine Tq fun j hj=>?_
  exact ih j xs[j] xs[j] (List.getElem?_eq_getElem hj) (List.getElem?_eq_getElem hj) rfl
 | lstN hp hq hl=>
  injection e with e
  subst e
  have:=I.list_inj hp hq
  subst this
  exact absurd rfl hl
 | @tup k p q xs ys f hp hq he ih=>
  injection e with e
  subst e
  have:=I.tuple_inj hp hq
  subst this
  rw [Bool.and_eq_true]
  refine ⟨Tq fun j hj=>?_,by simp⟩
  have hj':j < xs.length:=by omega
  exact ih j xs[j] xs[j] (List.getElem?_eq_getElem hj') (List.getElem?_eq_getElem hj') rfl
end
section
variable {X:Cx} {pins:List (Addr × Obj)} {σ:St} {H:Hp} {s:Shared}
end
section
variable {X:Cx}
noncomputable def zM (K:PySem.W.Frag):R2:=fun x y H Q=>∃ p q b,x=.ref p∧y=.ref q∧EqH K H 8 (.ref p) (.ref q) b∧Q (.bl (!b)) H
noncomputable def MM (K:PySem.W.Frag):R2:=fun x y H Q=>∃ p q b,x=.ref p∧y=.ref q∧EqH K H 8 (.ref p) (.ref q) b∧Q (.bl b) H
end
theorem EqH.mono {K:PySem.W.Frag} {H:Hp} {j k:Nat} {x y:V} {b:Bool} (h:EqH K H j x y b):j ≤ k→EqH K H k x y b:=by
 induction h generalizing k with
 | flat hx hy=>exact fun _=>.flat hx hy
 | lst hp hq hl he ih=>
  intro hk
  obtain ⟨m,rfl⟩:∃ m,k=m + 1:=⟨k - 1,by omega⟩
  exact .lst hp hq hl fun j x y h1 h2=>ih j x y h1 h2 (by omega)
 | lstN hp hq hl=>
  intro hk
  obtain ⟨m,rfl⟩:∃ m,k=m + 1:=⟨k - 1,by omega⟩
  exact .lstN hp hq hl
 | tup hp hq he ih=>
  intro hk
  obtain ⟨m,rfl⟩:∃ m,k=m + 1:=⟨k - 1,by omega⟩
  exact .tup hp hq fun j x y h1 h2=>ih j x y h1 h2 (by omega)
end L2
namespace L2
open PySem PySem.Spec PyProof.Rows PySem.Builtin PySem.Builtin.ObjectAttr
theorem fF {H:Hp} {a:Addr} {o:HO} (h:H a=some o):upd H a o=H:=by
 funext b
 unfold upd
 by_cases e:b=a
 ·rw [if_pos e,e,h]
 ·rw [if_neg e]
noncomputable abbrev bmV:List Value:=[.type "ValueError",.type "Exception",.type "BaseException",.type "object"]
noncomputable def Gq (K:PySem.W.Frag) (C fI:Addr):Bool:=
 match K.lookup C with
 | some ⟨.type "type",_,.cls cd,sl⟩=>
  match cd.mro,sl.toList with
  | .ref D :: tl,[_,_,_,_,some (.builtin n),_]=>
   (D == C) && (n == "ValueError.__new__") && (cd.hasDel == false) && (cd.hasDict == true) && PySem.W.tailIn K bmV tl && PySem.W.nsOkIn K cd.ns && (PySem.W.nsIn K cd.ns "__init__" == some (some (.ref fI)))
  | _,_=>false
 | _=>false
theorem VF {K:PySem.W.Frag} {h:Heap} {N:Addr} {mN:Str→Option Value} {x:Str} {v:Value} (KX:K.In h) (G:h.Ns N mN) (e:PySem.W.nsIn K N x=some (some v)):mN x=some v:=by
 obtain ⟨ob,rows,ep,e1,e2,_,look⟩:=G
 unfold PySem.W.nsIn at e
 split at e
 ·rename_i ho
  have z:=KX _ _ ho
  rw [e1] at z
  cases z
  cases e2
  split at e
  ·rename_i en he
   cases e
   rw [← look]
   unfold nsFind findBy
   rw [← Array.find?_toList,he];rfl
  ·split at e <;> cases e
 ·cases e
theorem Br {K:PySem.W.Frag} {h:Heap} {C fI:Addr} (KX:K.In h) (e:Gq K C fI=true) :
  ∃ tl N nm q bs sn sub ab co dd k0 k1 k2 k3 k5 mN,h.get? C=some (excClassObj nm q C N bs tl true sn sub ab co dd k0 k1 k2 k3 k5 "ValueError.__new__")∧h.Ns N mN∧mN "__init__"=some (.ref fI)∧OwnTail h bmV tl:=by
 unfold Gq at e
 split at e
 ·rename_i dd cd sl ho
  split at e
  ·rename_i D tl k0 k1 k2 k3 n k5 hm hs
   simp only [Bool.and_eq_true,beq_iff_eq] at e
   obtain ⟨⟨⟨⟨⟨⟨e1,e2⟩,e3⟩,e4⟩,e5⟩,e6⟩,e7⟩:=e
   obtain ⟨nm,bs,mro,ns,qn,hd,sn,sub,ab,co,del⟩:=cd
   simp only at hm e3 e4 e6 e7
   subst hm e1 e2 e3 e4
   obtain ⟨l⟩:=sl
   simp only at hs
   subst hs
   have G:h.Ns ns (h.nsMap ns):=.of_isNs (PySem.W.isNs_of_in KX e6)
   exact ⟨tl,ns,nm,qn,bs,sn,sub,ab,co,dd,k0,k1,k2,k3,k5,h.nsMap ns,KX _ _ ho,G,VF KX G e7,PySem.W.tail_of_in KX e5⟩
  ·cases e
 ·cases e
section
variable {P:Program} {w:World} {A:Around} {h:Heap} {g:Array GenState} {d:Drawn} {t:Nat} {os:OsState} {K:PySem.W.Frag} {C fI:Addr} {R:Result→Shared→Prop}
theorem Pz {us:List Value} (KX:K.In h) (e:Gq K C fI=true) (hf:PySem.W.typeIn K (.ref fI)=some (.type "function")) (hz:us.length ≤ sizeLine)
  (hq:∀ h' x,h.objs.size ≤ x→Heap.MadeExcOf h h' x (.ref C) us→codeAny (model P w) (A.under (.builtin "type.__call__" ⟨.ref C :: us,[]⟩)) (.call (.ref fI) ⟨.ref x :: us,[]⟩) (PySem.W.InitBack x R) ⟨h',g,d,t,os⟩) :
  codeAny (model P w) A (.call (.ref C) ⟨us,[]⟩) R ⟨h,g,d,t,os⟩:=by
 obtain ⟨tl,N,nm,q,bs,sn,sub,ab,co,dd,k0,k1,k2,k3,k5,mN,hC,hN,hi,T⟩:=Br KX e
 have F:=PySem.F.excBase_ValueError
 have f1:=tc_lookup
 have f2:=tc_bind (.ref C)
 have ty:(⟨h,g,d,t,os⟩:Shared).TypeIs (.ref C) "type" := ⟨_,hC,rfl⟩
 refine codeAny_of_tree ?_
 show wpAny _ _ (callAny (.ref C) _) _ _ _
 repeat (any_goals (first | assumption | with_reducible refine wpAny_loadPart_at hC ?_ | wp_step))
 refine ⟨rfl,?_⟩
 refine codeAny_call_builtin_at (Code.quiet_builtin _ (by decide +kernel)) entry_typeCall (wpAny_check_type_call_sub hC ?_)
 repeat (first | with_reducible refine wpAny_loadPart_at hC ?_ | with_reducible refine wpAny_madeBy_exc hC ?_ | wp_step)
 refine codeAny_call_builtin_code (Code.quiet_builtin _ F.quiet) (wpAny_check_new_subT F T hC ?_)
 refine codeAny_exc_new_subT (rest:=us) F T hC ?_ hz
 show wpAny _ _ _ _ _ _
 generalize hh:(h.push { cls:=.type "tuple",data:=.seq us.toArray }).push { cls:=.ref C,data:=.fields #[.ref h.objs.size,.none,.none,.none,.bool false,.none] }=h2
 have k:∀ b o,h.get? b=some o→h2.get? b=some o:=fun b o z=>by rw [← hh];exact Heap.get?_push_of_some _ (Heap.get?_push_of_some _ z)
 have hx:h2.get? (h.objs.size + 1)=some { cls:=.ref C,data:=.fields #[.ref h.objs.size,.none,.none,.none,.bool false,.none] }:=by rw [← hh];heap_get
 have ht:h2.get? h.objs.size=some { cls:=.type "tuple",data:=.seq us.toArray }:=by rw [← hh];exact Heap.get?_push_of_some _ (Heap.get?_push_at rfl rfl)
 have M:Heap.MadeExcOf h h2 (h.objs.size + 1) (.ref C) us:=⟨k,Heap.get?_none_of_le (Nat.le_succ _),h.objs.size,hx,Heap.get?_none_of_le (Nat.le_refl _),ht⟩
 have cC:(Value.ref C :: tl).contains (.ref C)=true:=by simp
 unfold isInstance
 repeat (first | with_reducible refine wpAny_loadPart_at hx ?_ | wp_step)
 refine wpAny_isSubtype_exc (k _ _ hC) ?_
 rw [cC]
 repeat wp_step
 show wpAny _ _ (typeLookup (.ref C) _) _ _ _
 refine wpAny_typeLookup_tail (k _ _ hC) (hN.keeps k) (T.keeps k) F.mroIs F.init.lookup ?_
 rw [hi]
 refine wpAny_holding (wpAny_bind ((PySem.W.bind_fn (KX.keeps k) _ hf).here (wpAny_bind (wpAny_call ?_))))
 refine codeAny_mono (hq h2 _ (Nat.le_succ _) M) fun r s' z=>?_
 rcases r with e | (v | _ | _ | _) <;> first | exact z | exact z.elim | skip
 obtain ⟨rfl,z⟩:=z
 exact wpAny_pure (wpAny_pure z)
end
noncomputable def Kz:List Value→Bool
 | .ref _ :: r=>Kz r
 | l=>l == bmV
theorem Ci (self:Value):refuseLoop self "__setattr__" bmV=pure ():=by kernel_rfl
theorem Tm (self:Value):∀ {l:List Value},Kz l=true→refuseLoop self "__setattr__" l=pure ()
 | .ref c :: r,e=>by rw [refuseLoop_ref];exact Tm self (l:=r) e
 | [],e=>by cases e
 | .type n :: r,e=>by rw [show Value.type n :: r=bmV from beq_iff_eq.mp e];exact Ci self
 | .none :: r,e=>by rw [show Value.none :: r=bmV from beq_iff_eq.mp e];exact Ci self
 | .bool b :: r,e=>by rw [show Value.bool b :: r=bmV from beq_iff_eq.mp e];exact Ci self
 | .int b c :: r,e=>by rw [show Value.int b c :: r=bmV from beq_iff_eq.mp e];exact Ci self
 | .str b c :: r,e=>by rw [show Value.str b c :: r=bmV from beq_iff_eq.mp e];exact Ci self
 | .bytes b c :: r,e=>by rw [show Value.bytes b c :: r=bmV from beq_iff_eq.mp e];exact Ci self
 | .float b c :: r,e=>by rw [show Value.float b c :: r=bmV from beq_iff_eq.mp e];exact Ci self
 | .builtin b :: r,e=>by rw [show Value.builtin b :: r=bmV from beq_iff_eq.mp e];exact Ci self
theorem wo (T:String) (h:bmV.contains (.type T)=true):∀ {l:List Value},Kz l=true→l.contains (.type T)=true
 | .ref c :: r,e=>by rw [List.contains_cons,wo T h (l:=r) e,Bool.or_true]
 | [],e=>by cases e
 | .type n :: r,e=>by rw [show Value.type n :: r=bmV from beq_iff_eq.mp e];exact h
 | .none :: r,e=>by rw [show Value.none :: r=bmV from beq_iff_eq.mp e];exact h
 | .bool b :: r,e=>by rw [show Value.bool b :: r=bmV from beq_iff_eq.mp e];exact h
 | .int b c :: r,e=>by rw [show Value.int b c :: r=bmV from beq_iff_eq.mp e];exact h
 | .str b c :: r,e=>by rw [show Value.str b c :: r=bmV from beq_iff_eq.mp e];exact h
 | .bytes b c :: r,e=>by rw [show Value.bytes b c :: r=bmV from beq_iff_eq.mp e];exact h
 | .float b c :: r,e=>by rw [show Value.float b c :: r=bmV from beq_iff_eq.mp e];exact h
 | .builtin b :: r,e=>by rw [show Value.builtin b :: r=bmV from beq_iff_eq.mp e];exact h
structure Aq (K:PySem.W.Frag) (C:Addr):Prop where
 hd:PySem.W.hasDictIn K C=true
 ov:((PySem.W.clsIn K C).any fun cd=>Kz cd.mro)=true
 sa:PySem.W.findIn K (.ref C) "__setattr__"=some (some (.builtin "object.__setattr__"))
 ga:PySem.W.findIn K (.ref C) "__getattribute__"=some (some (.builtin "BaseException.__getattribute__"))
 gt:PySem.W.findIn K (.ref C) "__getattr__"=some none
 ex:∃ fI,Gq K C fI=true
noncomputable def XF (x C:Addr) (od:Option Addr):Heap→Prop:=fun h=>∃ vs sl,h.get? x=some ⟨.ref C,od,.fields vs,sl⟩∧1 < vs.size∧vs[1]? = some .none
noncomputable def XD (dx:Addr) (fs:List (Str × V)):Heap→Prop:=fun h=>∃ mA,h.Ns1 dx mA∧(∀ f,Cp (fs.lookup f) (mA f))∧PySem.Within mA (fs.map (·.1))
theorem XF.at {x C:Addr} {od:Option Addr} {h h':Heap} (z:XF x C od h) (k:∀ o,h.get? x=some o→h'.get? x=some o):XF x C od h':=let ⟨vs,sl,e,r⟩:=z;⟨vs,sl,k _ e,r⟩
theorem XD.at {dx:Addr} {fs:List (Str × V)} {h h':Heap} (z:XD dx fs h) (k:∀ o,h.get? dx=some o→h'.get? dx=some o):XD dx fs h':=let ⟨mA,e,r⟩:=z;⟨mA,e.at k,r⟩
theorem XF.ok {P:Program} {w:World} {H:Hp} {h:Heap} {x C:Addr} {od:Option Addr} (z:XF x C od h):Xc P w H h x (.ext (XF x C od)):=by
 obtain ⟨vs,sl,e,r⟩:=id z
 exact ⟨z,⟨_,e⟩,fun h1 h2 q k=>q.at k⟩
theorem XD.ok {P:Program} {w:World} {H:Hp} {h:Heap} {dx:Addr} {fs:List (Str × V)} (z:XD dx fs h):Xc P w H h dx (.ext (XD dx fs)):=by
 obtain ⟨mA,⟨o,es,ep,e,_⟩,_⟩:=id z
 exact ⟨z,⟨_,e⟩,fun h1 h2 q k=>q.at k⟩
section
variable {prog:Program} {w:World} {A:Around} {E:Value→Shared→Prop} {K:PySem.W.Frag} {C x:Addr} {s:Shared} {R:Result→Shared→Prop}
theorem nM {ox:Obj} {od:Option Obj} {name:Str} {tk:Tok} {v:Value} (KX:K.In s.heap) (J:PySem.W.InstAt s.heap x ox C od) (c:Aq K C) (ht:zb K C name)
  (h:wpAny (model prog w) A.in1 (storeInOwnDict (.ref x) (.ref C) (.str name tk) name v false)
   (fun fin s'=>match fin with | .done f=>R (.ok f) s' | .again c'=>c'.quiet=true∧codeAny (model prog w) A c' R s') (fun e s'=>R (.error e) s') s) :
  codeAny (model prog w) A (.call (.builtin "object.__setattr__") ⟨[.ref x,.str name tk,v],[]⟩) R s:=by
 have G:=PySem.F.store_object
 obtain ⟨cd,hc,ho⟩:=PySem.W.any_some c.ov
 have ne:cd.mro.isEmpty=false:=by
  cases q:cd.mro with
  | nil=>rw [q] at ho;cases ho
  | cons _ _=>rfl
 have sub:PySem.W.Looks (model prog w) s.heap (isInstance (.ref x) (.type "object")) true:=
  J.type.andThen (PySem.W.looks_mroIn KX (by unfold PySem.W.mroIn;rw [hc,Option.bind_some,if_neg (by rw [ne];decide),wo "object" (by decide) ho]))
 refine codeAny_call_builtin G.slot.plain G.entry (@PySem.W.check_slot (model prog w) _ _ s "object.__setattr__" "object" "__setattr__" (.ref x) [.str name tk,v] [] _ G.kind G.split sub (G.args (.ref x) (.str name tk) v) ?_)
 have hm:PySem.W.Looks (model prog w) s.heap (mroOf (.ref C)) cd.mro:=(PySem.W.looks_clsIn KX hc).andThen .now
 rw [PySem.W.osa_eq,refuse_eq]
 refine wpAny_bind (wpAny_bind (J.type.here (wpAny_bind (hm.here ?_))))
 rw [Tm _ ho]
 exact wpAny_pure (wpAny_bind (J.type.here (wpAny_bind ((PySem.W.looks_findIn KX ht).here (wpAny_bind (wpAny_pure h))))))
end
section
variable {X:Cx} {pins:List (Addr × Obj)} {σ:St} {H:Hp} {s:Shared} {x C dx:Addr} {fs:List (Str × V)} {f:Str} {y:V} {u:Value} {A:Around} {E:Value→Shared→Prop} {Q:Unit→Shared→Prop}
theorem lD (I:Inv X pins σ H s) (e:H x=some (.ext (XF x C none))) (c:Aq X.K C) (n:zb X.K C f) (ry:Zc y u)
  (h:∀ dx s',H dx=none→dx ≠ x→Inv X pins σ (upd (upd H x (.ext (XF x C (some dx)))) dx (.ext (XD dx [(f,y)]))) s'→Q () s'):wpAny (model X.prog X.w) A (setAttr (.ref x) f u) Q E s:=by
 obtain ⟨vs,sl,hx,z1,z2⟩:=(show Xc X.prog X.w H s.heap x (.ext (XF x C none)) from I.hok _ _ e).1
 have J:PySem.W.InstAt s.heap x ⟨.ref C,none,.fields vs,sl⟩ C none:=⟨hx,rfl,rfl,True.intro⟩
 refine PySem.W.set_plain I.kIn J c.sa (nM (s:={ s with toks:=s.toks + 1 }) I.kIn J c n ?_)
 obtain ⟨cd,hc,hd'⟩:=PySem.W.any_some c.hd
 refine wpAny_bind (wpAny_pure (wpAny_bind (wpAny_bind (wpAny_loadPart hx (wpAny_bind (PySem.W.Looks.here (s:={ s with toks:=s.toks + 1 }) (PySem.W.looks_clsIn I.kIn hc) ?_))))))
 rw [hd']
 show wpAny _ _ (alloc PySem.W.emptyDict >>= fun d=>(update x fun o=>{ o with dict:=some d }) >>= fun _=>dictMade (.ref C) x d) _ _ _
 refine wpAny_bind (wpAny_alloc (wpAny_bind ?_))
 have hx1:(s.heap.push PySem.W.emptyDict).get? x=some ⟨.ref C,none,.fields vs,sl⟩:=Heap.get?_push_of_some _ hx
 have lx:x < s.heap.objs.size:=Heap.lt_size hx
 refine wpAny_update hx1 (wpAny_pure ?_)
 have e1:(s.heap.push PySem.W.emptyDict).get? s.heap.objs.size=some PySem.W.emptyDict:=Heap.get?_push_size s.heap rfl
 have e3:(s.heap.push PySem.W.emptyDict).Ns s.heap.objs.size (fun _=>none):=⟨PySem.W.emptyDict,#[],_,e1,rfl,(fun e he=>absurd he (by simp)),fun _=>rfl⟩
 generalize hg2:(s.heap.push PySem.W.emptyDict).update x (fun o=>{ o with dict:=some s.heap.objs.size })=h2
 have nx:s.heap.objs.size ≠ x:=Nat.ne_of_gt lx
 have k2:∀ b,b ≠ x→h2.get? b=(s.heap.push PySem.W.emptyDict).get? b:=fun b hb=>by rw [← hg2];exact Heap.get?_update_other _ _ (Ne.symm hb)
 have x2:h2.get? x=some ⟨.ref C,some s.heap.objs.size,.fields vs,sl⟩:=by rw [← hg2];exact Heap.get?_update_self _ hx1 rfl
 have n2:h2.Ns1 s.heap.objs.size (fun _=>none):=(Heap.Ns1.of_empty e3).at fun o q=>(k2 _ nx).trans q
 refine wpAny_bind (wpAny_pure (wpAny_bind ?_))
 refine wpAny_nsSet1 (s:={ s with heap:=h2,toks:=s.toks + 1 }) n2 fun h3 n3 s3=>?_
 have wi:PySem.Within (fun a=>if a=f then some u else none) [f]:=PySem.Within.cons f u (fun a ha=>absurd rfl ha)
 obtain ⟨oD,esD,epD,hoD,hdD,hcD⟩:=n3.count wi
 refine wpAny_bind (wpAny_lookBehind hoD (by rw [hdD];exact pastItsLine_dict (Nat.le_trans hcD (by rw [sizeLine_eq];show 1 ≤ _;decide))) ?_)
 refine wpAny_pure (h s.heap.objs.size _ (I.hok.fresh (Nat.le_refl _)) nx ?_)
 have k3:∀ b o,b ≠ x→s.heap.get? b=some o→h3.get? b=some o:=fun b o hb q=>
  (s3.2 b (fun z=>by rw [z] at q;exact absurd (Heap.lt_size q) (Nat.lt_irrefl _))).trans ((k2 b hb).trans (Heap.get?_push_of_some _ q))
 have x3:h3.get? x=some ⟨.ref C,some s.heap.objs.size,.fields vs,sl⟩:=(s3.2 x (Ne.symm nx)).trans x2
 generalize hgA:s.heap.update x (fun o=>{ o with dict:=some s.heap.objs.size })=hA
 have kA:∀ b,b ≠ x→hA.get? b=s.heap.get? b:=fun b hb=>by rw [← hgA];exact Heap.get?_update_other _ _ (Ne.symm hb)
 have xA:hA.get? x=some ⟨.ref C,some s.heap.objs.size,.fields vs,sl⟩:=by rw [← hgA];exact Heap.get?_update_self _ hx rfl
 have szA:hA.objs.size=s.heap.objs.size:=by rw [← hgA];exact Heap.size_update _ _ _
 have IA:=I.write (x:=x) (e:=x) (o:=.ext (XF x C (some s.heap.objs.size))) (h':=hA) (t':=s.toks) (by rw [e];exact True.intro) (.inl rfl) (fun b o hb q=>(kA b hb).trans q) ⟨_,xA⟩ (XF.ok ⟨vs,sl,xA,z1,z2⟩)
 refine IA.laid (a:=s.heap.objs.size) (h':=h3) (fun b o q=>?_) (Nat.le_of_eq szA) (XD.ok ⟨_,n3,fun g=>?_,wi⟩)
 ·by_cases hb:b=x
  ·subst hb;rw [xA] at q;rw [x3,← q]
  ·rw [kA b hb] at q;exact k3 b o hb q
 ·show Cp (List.lookup g [(f,y)]) (if g=f then some u else none)
  by_cases hq:g=f
  ·rw [if_pos hq,hq,List.lookup_cons_self];exact ry
  ·rw [if_neg hq,List.lookup_cons,beq_false_of_ne hq];exact True.intro
theorem eB (I:Inv X pins σ H s) (e:H x=some (.ext (XF x C (some dx)))) (ed:H dx=some (.ext (XD dx fs))) (c:Aq X.K C) (n:zb X.K C f) (hl:fs.length < 1000) (ry:Zc y u)
  (h:∀ s',Inv X pins σ (upd H dx (.ext (XD dx (ag f y fs)))) s'→Q () s'):wpAny (model X.prog X.w) A (setAttr (.ref x) f u) Q E s:=by
 obtain ⟨vs,sl,hx,z1,z2⟩:=(show Xc X.prog X.w H s.heap x (.ext (XF x C (some dx))) from I.hok _ _ e).1
 obtain ⟨mA,n1,r,wi⟩:=(show Xc X.prog X.w H s.heap dx (.ext (XD dx fs)) from I.hok _ _ ed).1
 obtain ⟨od,ho,hlk⟩:=Io n1
 have J:PySem.W.InstAt s.heap x ⟨.ref C,some dx,.fields vs,sl⟩ C (some od):=⟨hx,rfl,rfl,ho⟩
 refine PySem.W.set_plain I.kIn J c.sa (nM (s:={ s with toks:=s.toks + 1 }) I.kIn J c n ?_)
 obtain ⟨cd,hc,hd'⟩:=PySem.W.any_some c.hd
 refine wpAny_bind (wpAny_pure (wpAny_bind (wpAny_bind (wpAny_loadPart hx (wpAny_bind (PySem.W.Looks.here (s:={ s with toks:=s.toks + 1 }) (PySem.W.looks_clsIn I.kIn hc) ?_))))))
 rw [hd']
 refine wpAny_pure (a:=some dx) (wpAny_bind (wpAny_pure (wpAny_bind ?_)))
 refine wpAny_nsSet1 (s:={ s with toks:=s.toks + 1 }) n1 fun h3 n3 s3=>?_
 obtain ⟨oD,esD,epD,hoD,hdD,hcD⟩:=n3.count (PySem.Within.cons f u wi)
 refine wpAny_bind (wpAny_lookBehind hoD (by rw [hdD];exact pastItsLine_dict (Nat.le_trans hcD (by rw [List.length_cons,List.length_map,sizeLine_eq];omega))) ?_)
 refine wpAny_pure (h _ ?_)
 refine I.write (x:=dx) (e:=dx) (by rw [ed];exact True.intro) (.inl rfl) (fun b o hb q=>(s3.2 b hb).trans q) ⟨_,hoD⟩ (XD.ok ⟨_,n3,fun g=>?_,fun g hg=>?_⟩)
 ·show Cp ((ag f y fs).lookup g) (if g=f then some u else mA g)
  rw [vk]
  by_cases q:g=f
  ·rw [if_pos q,if_pos q];exact ry
  ·rw [if_neg q,if_neg q];exact r g
 ·by_cases q:g=f
  ·rw [q];exact (Ji f y fs).1
  ·refine (Ji f y fs).2 g (wi g fun z=>hg ?_)
   show (if g=f then some u else mA g)=none
   rw [if_neg q];exact z
noncomputable def XA (x C:Addr) (od:Option Addr):Heap→Prop:=fun h=>∃ vs sl,h.get? x=some ⟨.ref C,od,.fields vs,sl⟩
theorem XA.at {x C:Addr} {od:Option Addr} {h h':Heap} (z:XA x C od h) (k:∀ o,h.get? x=some o→h'.get? x=some o):XA x C od h':=let ⟨vs,sl,e⟩:=z;⟨vs,sl,k _ e⟩
theorem XA.ok {P:Program} {w:World} {H:Hp} {h:Heap} {x C:Addr} {od:Option Addr} (z:XA x C od h):Xc P w H h x (.ext (XA x C od)):=by
 obtain ⟨vs,sl,e⟩:=id z
 exact ⟨z,⟨_,e⟩,fun h1 h2 q k=>q.at k⟩
theorem QM {b:Bool} {Q:Value→Shared→Prop} (I:Inv X pins σ H s) (e:H x=some (.ext (XA x C (some dx)))) (ed:H dx=some (.ext (XD dx fs))) (c:Aq X.K C) (n:zb X.K C f) (l:fs.lookup f=some y)
  (h:∀ u s',Inv X pins σ H s'→Zc y u→Q u s'):wpAny (model X.prog X.w) A (getAttr (.ref x) f b) Q E s:=by
 obtain ⟨vs,sl,hx⟩:=(show Xc X.prog X.w H s.heap x (.ext (XA x C (some dx))) from I.hok _ _ e).1
 obtain ⟨mA,n1,r,wi⟩:=(show Xc X.prog X.w H s.heap dx (.ext (XD dx fs)) from I.hok _ _ ed).1
 obtain ⟨od,ho,hlk⟩:=Io n1
 obtain ⟨u,hu,ru⟩:=Cp.some_of (v:=y) (o:=mA f) (by rw [← l];exact r f)
 have J:PySem.W.InstAt s.heap x ⟨.ref C,some dx,.fields vs,sl⟩ C (some od):=⟨hx,rfl,rfl,ho⟩
 have fin:=h u _ (I.tok (s.toks + 1)) ru
 have KX:=I.kIn
 clear h
 obtain ⟨cd,hc,hd'⟩:=PySem.W.any_some c.hd
 obtain ⟨cd',hc',hov⟩:=PySem.W.any_some c.ov
 rw [hc] at hc'
 cases hc'
 have hh:=nu ru
 obtain ⟨hp,g,d,t,os⟩:=s
 have L0:=J.type (M:=model X.prog X.w)
 have L1:=PySem.W.looks_findIn (M:=model X.prog X.w) KX c.ga
 have L2:=PySem.W.looks_findIn (M:=model X.prog X.w) KX c.gt
 have L3:=PySem.W.looks_findIn (M:=model X.prog X.w) KX n
 have L4:=PySem.W.looks_own (M:=model X.prog X.w) (name:=f) (r:=some u) KX J hc (by unfold PySem.W.ownOf;rw [if_pos hd'];show PySem.W.lookIn f od=_;rw [hlk,hu])
 have FB:=PySem.F.excAttr_ValueError
 have f3:=FB.ga.bind (.ref x)
 have hx0:(b && onTheHeap (Value.builtin "BaseException.__getattribute__"))=false:=by cases b <;> rfl
 have hx2:(Value.builtin "BaseException.__getattribute__" == Value.builtin "object.__getattribute__")=false:=by decide +kernel
 have hx1:(onTheHeap (Value.ref C) && Value.builtin "BaseException.__getattribute__" == Value.builtin "object.__getattribute__")=false:=by rw [hx2];rfl
 unfold getAttr getAttrBy
 refine wpAny_bind (wpAny_mkText (wpAny_holding (wpAny_bind (L0.at (wpAny_bind (L1.at ?_))))))
 dsimp only
 rw [if_neg (by rw [hx1];decide)]
 unfold getAttrByItsOwn
 repeat (any_goals (first | assumption | with_reducible refine PySem.W.Looks.at (by assumption) ?_ | wp_step))
 have ne:cd.mro.isEmpty=false:=by
  cases q:cd.mro with
  | nil=>rw [q] at hov;cases hov
  | cons _ _=>rfl
 have sub:PySem.W.Looks (model X.prog X.w) hp (isInstance (.ref x) (.type "BaseException")) true:=
  L0.andThen (PySem.W.looks_mroIn KX (by unfold PySem.W.mroIn;rw [hc,Option.bind_some,if_neg (by rw [ne];decide),wo "BaseException" (by decide) hov]))
 refine codeAny_call_builtin FB.ga.plain PySem.F.entry_bexc_ga (@PySem.W.check_slot (model X.prog X.w) _ _ ⟨hp,g,d,t + 1,os⟩ "BaseException.__getattribute__" "BaseException" "__getattribute__" (.ref x) [.str f t] [] _ (by decide +kernel) (by decide +kernel) sub (PySem.F.args_bexc_ga (.ref x) (.str f t)) ?_)
 unfold Builtin.«object.__getattribute__»
 repeat (any_goals (first | assumption | with_reducible refine PySem.W.Looks.at (by assumption) ?_ | wp_step))
 show wpAny _ _ (handedOut u) _ _ _
 rw [PySem.W.handedOut_of hh]
 exact wpAny_pure fin
end
noncomputable abbrev TJ:=St→Hp→(Hp→Prop)→Prop
noncomputable def PJ (X:Cx) (es:List Expr) (n:Nat) (t:TJ):Prop:=
 ∀ (pins:List (Addr × Obj)) (s:Shared) (σ:St) (H:Hp) (Q:Hp→Prop) (acc:Str) (R:Str→Shared→Prop),Inv X pins σ H s→acc.length + n ≤ sizeLine→t σ H Q →
  (∀ out H' s',Inv X pins σ H' s'→out.length ≤ sizeLine→Q H'→R out s')→Joins (model X.prog X.w) X.A X.xe (evalEach es X.env) acc R s
noncomputable def tJ0:TJ:=fun _ H Q=>Q H
noncomputable def tJI (te:TE) (t:TJ):TJ:=fun σ H Q=>te σ H fun v H1=>∃ i,v=.int i∧i.natAbs.log2 < 1920∧t σ H1 Q
noncomputable def tJS (te:TE) (t:TJ):TJ:=fun σ H Q=>te σ H fun v H1=>∃ x,v=.str x∧x.length ≤ 1000∧t σ H1 Q
noncomputable def tJR (te:TE) (t:TJ):TJ:=fun σ H Q=>te σ H fun v H1=>∃ x,v=.str x∧x.length ≤ 1000∧(∀ c ∈ x.cps.toList,c < 16 ^ 8)∧t σ H1 Q
noncomputable def Ly (t:TJ):TE:=fun σ H Q=>t σ H fun H1=>∀ y:Str,Q (.str y) H1
section
variable {X:Cx} {e:Expr} {es:List Expr} {n:Nat} {t:TJ} {te:TE} {pos:Pos}
theorem gx:PJ X [] 0 tJ0:=fun pins s σ H Q acc R I hl q h=>h acc H s I hl q
theorem Dg {c:Str} {k:Nat} (h:PJ X es n t):PJ X (.Constant (.str c) k pos :: es) (n + c.length) t:=fun pins s σ H Q acc R I hl q hR=>by
 show wpAny _ _ _ _ _ _
 refine Calls.Constant_str ⟨c,_,rfl,by rw [strLen_append];omega,h pins _ σ H Q _ R (I.tok _) (by rw [strLen_append];omega) q hR⟩
theorem GF (he:PE X e te) (h:PJ X es n t):PJ X (.FormattedValue e (-1) none pos :: es) (n + 2000) (tJI te t):=fun pins s σ H Q acc R I hl q hR=>by
 show wpAny _ _ _ _ _ _
 refine wpAny_FormattedValue_plain (thn (he pins s σ H _ I q) fun u s1 ⟨v,H1,I1,r,i,ev,hi,q1⟩=>?_)
 subst ev
 obtain ⟨tk,rfl⟩:=(show ∃ tk,u=Value.int i tk from r)
 have hz:=int_text_fits hi
 have hz2:(Str.ofString (toString i)).length ≤ 2000:=by
  have e:=int_text_length_le (k:=1920) (by decide) hi
  rw [PySem.ofString_length];omega
 refine wpAny_formatField_int hi ⟨_,_,rfl,by rw [strLen_append];omega,h pins _ σ H1 Q _ R (I1.tok _) (by rw [strLen_append];omega) q1 hR⟩
theorem Go (he:PE X e te) (h:PJ X es n t):PJ X (.FormattedValue e 114 none pos :: es) (n + 11000) (tJR te t):=fun pins s σ H Q acc R I hl q hR=>by
 show wpAny _ _ _ _ _ _
 refine wpAny_FormattedValue_repr (thn (he pins s σ H _ I q) fun u s1 ⟨v,H1,I1,r,x,ev,hx,hc,q1⟩=>?_)
 subst ev
 obtain ⟨tk,rfl⟩:=(show ∃ tk,u=Value.str x tk from r)
 have hz:=PySem.StrLaws.reprText_len x hc
 refine wpAny_pyReprObj_str ?_ (by rw [sizeLine_eq];omega)
 exact formatField_str (fun t' tk'=>⟨_,_,rfl,by rw [strLen_append];omega,h pins _ σ H1 Q _ R ((I1.tok _).tok _) (by rw [strLen_append];omega) q1 hR⟩) (by rw [sizeLine_eq];omega)
theorem el {e2:Expr} (h:PJ X (e :: e2 :: es) n t) (hn:n ≤ sizeLine):PE X (.JoinedStr (e :: e2 :: es) pos) (Ly t):=by
 intro pins s σ H Q I q
 refine wpAny_JoinedStr (h pins s σ H _ _ _ I (by show 0 + n ≤ _;omega) q fun out H' s' I' hl q'=>⟨hl,?_⟩)
 exact ⟨.str out,H',I'.tok _,⟨_,rfl⟩,q' out⟩
end
structure eM (K:PySem.W.Frag) (L:Addr) (m:Str):Prop where
 rd:PySem.W.readsIn K L (.type "type")=true
 fd:PySem.W.findCls K (.ref L) (.type "type") m=some (.val (.builtin "ValueError.__init__"))
 ga:PySem.W.specialIn K (.ref L) "__getattribute__"=some (some (.builtin "type.__getattribute__"))
noncomputable def RE (K:PySem.W.Frag) (t:TA):TE:=fun σ H Q=>t σ H fun vs H1=>∃ x C od v,vs=[.ref x,v]∧H1 x=some (.ext (XF x C od))∧Aq K C∧Q .non H1
section
variable {X:Cx} {L:Addr} {x:Str} {p pos apos:Pos} {e:Expr} {es:List Expr} {t:TA}
theorem MA {pins:List (Addr × Obj)} {σ:St} {H:Hp} {s:Shared} {a C:Addr} {od:Option Addr} {u:Value} {A:Around} {E:Value→Shared→Prop} {Q:Value→Shared→Prop} (I:Inv X pins σ H s) (ea:H a=some (.ext (XF a C od))) (c:Aq X.K C)
  (h:∀ s',Inv X pins σ H s'→Q .none s'):wpAny (model X.prog X.w) A (call (.builtin "ValueError.__init__") [.ref a,u]) Q E s:=by
 obtain ⟨vs,sl,hx,z1,z2⟩:=(show Xc X.prog X.w H s.heap a (.ext (XF a C od)) from I.hok _ _ ea).1
 obtain ⟨fI,hfI⟩:=c.ex
 obtain ⟨tl,N,nm,q,bs,sn,sub,ab,co,dd,k0,k1,k2,k3,k5,mN,hC,hN,hi,T⟩:=Br I.kIn hfI
 have F:=PySem.F.excBase_ValueError
 obtain ⟨v0,h0⟩:∃ v0,vs[0]? = some v0:=⟨vs[0]'(by omega),Array.getElem?_eq_getElem (by omega)⟩
 obtain ⟨hh,g,d,tt,os⟩:=s
 refine wpAny_call (codeAny_call_builtin F.init.plain F.initEntry (wpAny_check_init_subT F T hC hx rfl ?_))
 show wpAny _ _ (newTuple [u] >>= fun tp=>(do
  let old ← field (.ref a) 0
  setField (.ref a) 0 tp
  if let .ref _:=old then letGo [old] []) >>= fun _=>ret .none) _ _ _
 have hx1:(hh.push { cls:=.type "tuple",data:=.seq [u].toArray }).get? a=some ⟨.ref C,od,.fields vs,sl⟩:=Heap.get?_push_of_some _ hx
 refine wpAny_bind (wpAny_newTuple (wpAny_bind (wpAny_bind (wpAny_field hx1 rfl h0 (wpAny_bind (wpAny_setField hx1 rfl (by omega) ?_))))))
 have x2:=Heap.get?_update_self (h:=hh.push { cls:=.type "tuple",data:=.seq [u].toArray }) (Obj.mapFields (·.setIfInBounds 0 (.ref hh.objs.size))) hx1 rfl
 have fin:∀ s',s'=(⟨(hh.push { cls:=.type "tuple",data:=.seq [u].toArray }).update a (Obj.mapFields (·.setIfInBounds 0 (.ref hh.objs.size))),g,d,tt,os⟩:Shared)→Q .none s':=by
  rintro s' rfl
  refine h _ ?_
  have I1:Inv X pins σ H ⟨hh.push { cls:=.type "tuple",data:=.seq [u].toArray },g,d,tt,os⟩:=I.kept (t':=tt) fun b o q=>Heap.get?_push_of_some _ q
  have:=I1.write (x:=a) (e:=a) (o:=.ext (XF a C od)) (h':=(hh.push { cls:=.type "tuple",data:=.seq [u].toArray }).update a (Obj.mapFields (·.setIfInBounds 0 (.ref hh.objs.size)))) (t':=tt) (by rw [ea];exact True.intro) (.inl rfl)
   (fun b o hb q=>(Heap.get?_update_other _ _ (Ne.symm hb)).trans q) ⟨_,x2⟩ (XF.ok ⟨vs.setIfInBounds 0 (.ref hh.objs.size),sl,x2,by simpa using z1,by rw [Array.getElem?_setIfInBounds_ne (by decide)];exact z2⟩)
  rwa [fF ea] at this
 cases v0 with
 | ref b=>exact wpAny_bind (wpAny_holding (wpAny_point (wpAny_pure (wpAny_pure (fin _ rfl)))))
 | _=>exact wpAny_pure (wpAny_pure (fin _ rfl))
theorem Mn {pl:Sem Bool} {m:Str} (hg:Gl X x) (hm:X.mg x=some (.ref L)) (c:eM X.K L m) (ha:PA X (e :: es) t)
  (hdb:(x == ("__debug__" : Str))=false:=by decide) (hst:starEach (e :: es) X.env=(false,eval e X.env) :: starEach es X.env:=by rfl) (hpl:(backTo pos (starEach es X.env)).any (·.1)=false:=by rfl)
  (ht:eval (.Call (.Attribute (.Name x p) m apos) (e :: es) [] pos) X.env=(do
   let ov ← eval (.Name x p) X.env
   standAt apos.atName
   let (f,first) ← holding [ov] (getMethod ov m pl)
   callWith pos f first (backTo pos (starEach (e :: es) X.env)) (backToKw pos (keywordEach [] X.env))):=by rfl) :
  PE X (.Call (.Attribute (.Name x p) m apos) (e :: es) [] pos) (RE X.K t):=by
 intro pins s σ H Q I h
 refine PySem.W.methodCall_KW (pl:=pl) (Ti I hg hm ?_ hdb) ht
 refine PySem.W.method_cls I.kIn c.ga (PySem.W.cls_value I.kIn c.rd c.fd rfl ?_)
 refine PyProof.Rows.callWith_builtin1 (thn (ha pos pins _ σ H _ (I.tok (s.toks + 1)) h) fun us s2 ⟨vs,H2,I2,r,a,C,od,v,ev,ea,cc,q⟩=>?_) hst hpl
 subst ev
 obtain ⟨u1,u2,rfl,r1,r2⟩:=dE r
 obtain rfl:u1=Value.ref a:=r1
 exact MA I2 ea cc fun s3 I3=>⟨.non,H2,I3,rfl,q⟩
end
structure MkX (K:PySem.W.Frag) (C fI:Addr):Prop where
 e:Gq K C fI=true
 fn:PySem.W.typeIn K (.ref fI)=some (.type "function")
 kp:PySem.W.keepIn K (.ref C)=true
noncomputable def kF (C:Addr) (sp:Sp) (t:TA):TE:=fun σ H Q=>t σ H fun vs H1=>vs.length ≤ sizeLine∧∀ x,H1 x=none→sp (.ref x :: vs) (upd H1 x (.ext (XF x C none))) (fun v H2=>v=.non∧Q (.ref x) H2) (fun _ _ _=>False)
noncomputable def yF (K:PySem.W.Frag) (ta tv:TE) (f:Str):TS:=fun D σ H=>tv σ H fun y H1=>ta σ H1 fun x H2=>∃ a C,x=.ref a∧H2 a=some (.ext (XF a C none))∧Aq K C∧zb K C f ∧
 ∀ dx,H2 dx=none→dx ≠ a→D.nx σ (upd (upd H2 a (.ext (XF a C (some dx)))) dx (.ext (XD dx [(f,y)])))
noncomputable def tF (K:PySem.W.Frag) (ta tv:TE) (f:Str):TS:=fun D σ H=>tv σ H fun y H1=>ta σ H1 fun x H2=>∃ a C dx fs,x=.ref a∧H2 a=some (.ext (XF a C (some dx)))∧H2 dx=some (.ext (XD dx fs))∧Aq K C∧zb K C f∧fs.length < 1000 ∧
 D.nx σ (upd H2 dx (.ext (XD dx (ag f y fs))))
noncomputable def mK (K:PySem.W.Frag) (ta:TE) (f:Str):TE:=fun σ H Q=>ta σ H fun x H1=>∃ a C dx fs v,x=.ref a∧H1 a=some (.ext (XA a C (some dx)))∧H1 dx=some (.ext (XD dx fs))∧Aq K C∧zb K C f∧fs.lookup f=some v∧Q v H1
section
variable {X:Cx} {k:Nat} {f C:Addr} {fd:FuncData} {ps:List Str} {sp:Sp} {x g:Str} {p pos pos' apos:Pos} {e o value:Expr} {es:List Expr} {ta tv:TE} {t:TA}
theorem aA {pins:List (Addr × Obj)} {σ:St} {H:Hp} {s:Shared} {Q:VK} {us:List Value} {vs:List V} (M:MkX X.K C f) (F:Bb X.prog X.w X.K X.mg X.base (fun _ _ _ _ _ _=>False) k f fd ps sp) (hr:Ih (k + 1) X.A) (hb:Kb X.K fd ps [])
  (I:Inv X pins σ H s) (r:Kc vs us) (hz:vs.length ≤ sizeLine) (h:∀ x,H x=none→sp (.ref x :: vs) (upd H x (.ext (XF x C none))) (fun v H2=>v=.non∧Q (.ref x) H2) (fun _ _ _=>False)) :
  wpAny (model X.prog X.w) X.A (call (.ref C) us) (EP X pins σ Q) X.xe s:=by
 obtain ⟨hh,g,d,tt,os⟩:=s
 refine wpAny_call (Pz (fI:=f) I.kIn M.e M.fn (by rw [← r.length];exact hz) fun h' x hx Mx=>?_)
 obtain ⟨tp,ox,_,_⟩:=Mx.there
 have I2:=I.laid (a:=x) (o:=.ext (XF x C none)) (h':=h') (t':=tt) Mx.keeps hx (XF.ok ⟨_,_,ox,Nat.lt_of_lt_of_eq (show 1 < 6 by decide) rfl,rfl⟩)
 have hq:=h x (I.hok.fresh hx)
 have r2:Kc (V.ref x :: vs) (Value.ref x :: us):=.cons rfl r
 have hl:((Value.ref x :: us) ++ []).length=ps.length:=by
  rw [List.append_nil,← r2.length]
  exact F.len _ _ _ _ hq
 have hb2:=hb ⟨h',g,d,tt,os⟩ (Value.ref x :: us) I2.kIn hl
 rw [List.append_nil] at hb2
 refine codeAny_mono (F.run _ X.stack _ _ ⟨Value.ref x :: us,[]⟩ (Value.ref x :: us) _ _ _ (hr.make C us []) (I2.env0.make C us []) hb2 r2 hq) fun r s' hq'=>?_
 rcases r with e | (u | _ | _ | _) <;> first | exact False.elim hq' | skip
 obtain ⟨v,H',I3,rv,ev,q3⟩:=I2.after hq'
 subst ev
 exact ⟨rv,⟨V.ref x,H',I3,rfl,q3⟩⟩
theorem Cn (M:MkX X.K C f) (F:Bb X.prog X.w X.K X.mg X.base (fun _ _ _ _ _ _=>False) k f fd ps sp) (hr:Ih (k + 1) X.A) (hg:Gl X x) (hm:X.mg x=some (.ref C)) (hb:Kb X.K fd ps [])
  (ha:PA X (e :: es) t) (hdb:(x == ("__debug__" : Str))=false:=by decide) (he:starEach (e :: es) X.env=(false,eval e X.env) :: starEach es X.env:=by rfl) (hpl:(backTo pos (starEach es X.env)).any (·.1)=false:=by rfl) :
  PE X (.Call (.Name x p) (e :: es) [] pos) (kF C sp t):=by
 intro pins s σ H Q I h
 refine wpAny_Call_Name_kw (Ti I hg hm ?_ hdb)
 exact PySem.W.callWith_K (h₀:=X.base) I.ok.mod.kin M.kp (thn (ha pos pins s σ H _ I h) fun us s1 ⟨vs,H1,I1,r,hz,q⟩=>⟨I1.kIn,aA M F hr hb I1 r hz q⟩) he hpl
theorem Gn (ha:PE X o ta) (hv:PE X value tv) (hs:swapsWith value (some (.Attribute o g pos')) pos.line X.env=pure false):PS X (.Assign [.Attribute o g pos'] value pos) (yF X.K ta tv g):=by
 intro pins s σ H D I h
 refine plainObj_wpAny_Assign_Attribute (thn (hv pins s σ H _ I h) fun u s1 ⟨y,H1,I1,ry,q⟩=>thn (ha pins s1 σ H1 _ I1 q) fun ov s2 ⟨x,H2,I2,rx,a,C,ex,ea,c,n,q2⟩=>?_) hs
 subst ex
 obtain rfl:ov=Value.ref a:=rx
 exact lD I2 ea c n ry fun dx s3 hd hne I3=>⟨σ,_,I3,q2 dx hd hne⟩
theorem Er (ha:PE X o ta) (hv:PE X value tv) (hs:swapsWith value (some (.Attribute o g pos')) pos.line X.env=pure false):PS X (.Assign [.Attribute o g pos'] value pos) (tF X.K ta tv g):=by
 intro pins s σ H D I h
 refine plainObj_wpAny_Assign_Attribute (thn (hv pins s σ H _ I h) fun u s1 ⟨y,H1,I1,ry,q⟩=>thn (ha pins s1 σ H1 _ I1 q) fun ov s2 ⟨x,H2,I2,rx,a,C,dx,fs,ex,ea,ed,c,n,hl,q2⟩=>?_) hs
 subst ex
 obtain rfl:ov=Value.ref a:=rx
 exact eB I2 ea ed c n hl ry fun s3 I3=>⟨σ,_,I3,q2⟩
theorem pH (he:PE X e ta) (hb:attributeBase e g X.env (eval e X.env)=eval e X.env):PE X (.Attribute e g pos) (mK X.K ta g):=by
 intro pins s σ H Q I h
 refine Uy hb (thn (he pins s σ H _ I h) fun u s1 ⟨x,H1,I1,rx,a,C,dx,fs,v,ex,ea,ed,c,n,l,q⟩=>?_)
 subst ex
 obtain rfl:u=Value.ref a:=rx
 exact QM I1 ea ed c n l fun u s2 I2 ru=>⟨v,H1,I2,ru,q⟩
end
end L2
namespace L2
open PySem PySem.Spec PyProof.Rows PySem.Builtin PySem.Builtin.ObjectAttr
noncomputable def FlA (x C:Addr) (od:Option Addr) (T:Addr) (fl:Value) (h:Heap):Prop:=
 T ≠ x∧∃ vs sl oT ts,h.get? x=some ⟨.ref C,od,.fields vs,sl⟩∧vs[1]? = some (.ref T)∧h.get? T=some oT∧oT.data=.fields ts∧ts[3]? = some fl
theorem FlA.xa {x C T:Addr} {od:Option Addr} {fl:Value} {h:Heap} (z:FlA x C od T fl h):XA x C od h:=let ⟨_,vs,sl,_,_,e,_⟩:=z;⟨vs,sl,e⟩
structure Kp (fs:List Addr) (x:Addr) (To:Option Addr) (h h':Heap):Prop where
 keep:∀ b o,h.get? b=some o→b ∉ fs→b ≠ x→some b ≠ To→h'.get? b=some o
 slot:∀ b o,h.get? b=some o→b ∈ fs→∃ sl,h'.get? b=some { o with slots:=sl }
 there:∀ b o,h.get? b=some o→∃ o',h'.get? b=some o'
section
variable {M:Model} {A:Around} {E:Value→Shared→Prop} {s:Shared}
theorem nofr {base h:Heap} {l:List Env} {b:Addr} {o:Obj} {vs:Array Value} (hl:h.FunFrames base l) (e:h.get? b=some o) (d:o.data=.fields vs):b ∉ frs l:=fun hm=>by
 obtain ⟨_,o',e',nf⟩:=hl.mem hm
 rw [e] at e'
 cases e'
 exact nf vs d
theorem rD {env env':Env} {L:Addr} (hf:env.frame=some L) (hf':env'.frame=some L):PySem.frameOf env'=PySem.frameOf env:=by
 unfold PySem.frameOf
 rw [hf',hf]
theorem wF {base:Heap} {env env':Env} {outer:List Env} {L x C:Addr} {od:Option Addr} {vs:Array Value} {sl:Array (Option Value)} {head:Value} {hn:Bool} {Q:Unit→Shared→Prop}
  (hfr:A.frames=some (env :: outer)) (hl:s.heap.FunFrames base (env :: outer)) (hf:env.frame=some L) (hf':env'.frame=some L) (he:s.heap.get? x=some ⟨.ref C,od,.fields vs,sl⟩) (hz:1 < vs.size)
  (h:∀ h' T,Kp (frs (env :: outer)) x none s.heap h'→s.heap.objs.size ≤ T→FlA x C od T (rawInt L) h'→Q () { s with heap:=h' }) :
  wpAny M A (do let a ← PySem.frameOf env';let pl ← entryPlaceOf L hn;let b ← EntryCells.newEntry head a .none (rawInt L) .none pl;setField (.ref x) 1 b) Q E s:=by
 have nx:x ∉ frs (env :: outer):=nofr hl he rfl
 rw [rD hf hf']
 refine wpAny_bind (wpAny_frameOf_fun hfr hl hf fun h1 S=>wpAny_bind (wpAny_entryPlaceOf fun pl hp=>?_))
 unfold EntryCells.newEntry newFields
 refine wpAny_bind (wpAny_newObj_type ?_ (hp.sizeOk5 _ _ _ _ _))
 have e1:h1.get? x=some ⟨.ref C,od,.fields vs,sl⟩:=(S.2.1 x nx).trans he
 obtain ⟨ts,hts,h3⟩:∃ ts:Array Value,([head,.ref L,.none,rawInt L,.none] ++ (if pl.isEmpty then List.replicate 6 Value.none else pl)).toArray=ts∧ts[3]? = some (rawInt L):=⟨_,rfl,by simp⟩
 rw [hts]
 have e2:=Heap.get?_push_of_some (h:=h1) { cls:=.type "traceback",dict:=none,data:=.fields ts } e1
 have ne:h1.objs.size ≠ x:=Nat.ne_of_gt (Heap.lt_size e1)
 have sz:h1.objs.size=s.heap.objs.size:=S.1
 refine wpAny_setField e2 rfl hz (h _ h1.objs.size ⟨fun b o q n1 n2 _=>?_,fun b o q n1=>?_,fun b o q=>?_⟩ (Nat.le_of_eq sz.symm) ⟨ne,vs.setIfInBounds 1 (.ref h1.objs.size),sl,{ cls:=.type "traceback",dict:=none,data:=.fields ts },ts,Heap.get?_update_self _ e2 rfl,by simp [hz],?_,rfl,h3⟩)
 ·rw [Heap.get?_update_other _ _ (Ne.symm n2)]
  exact Heap.get?_push_of_some _ ((S.2.1 b n1).trans q)
 ·obtain ⟨sl',e3⟩:=S.2.2 b o q
  have nb:x ≠ b:=fun z=>nx (by rw [z];exact n1)
  exact ⟨sl',(Heap.get?_update_other _ _ nb).trans (Heap.get?_push_of_some _ e3)⟩
 ·by_cases hb:b=x
  ·rw [hb];exact ⟨_,Heap.get?_update_self _ e2 rfl⟩
  ·obtain ⟨sl',e3⟩:=S.2.2 b o q
   exact ⟨_,by rw [Heap.get?_update_other _ _ (Ne.symm hb)];exact Heap.get?_push_of_some _ e3⟩
 ·exact (Heap.get?_update_other _ _ (Ne.symm ne)).trans (Heap.get?_push_size h1 rfl)
theorem ay {base:Heap} {env env':Env} {outer:List Env} {L x C:Addr} {od:Option Addr} {vs:Array Value} {sl:Array (Option Value)} {Q:Unit→Shared→Prop}
  (hfr:A.frames=some (env :: outer)) (hl:s.heap.FunFrames base (env :: outer)) (hf:env.frame=some L) (hf':env'.frame=some L) (he:s.heap.get? x=some ⟨.ref C,od,.fields vs,sl⟩) (h1:vs[1]? = some .none)
  (h:∀ h' T,Kp (frs (env :: outer)) x none s.heap h'→s.heap.objs.size ≤ T→FlA x C od T (rawInt L) h'→Q () { s with heap:=h' }) :
  wpAny M A (noteFrame (.ref x) env') Q E s:=by
 unfold noteFrame
 simp only [hf']
 refine wpAny_bind (wpAny_field he rfl h1 ?_)
 rw [if_neg (by decide)]
 exact wF hfr hl hf hf' he (Array.getElem?_eq_some_iff.mp h1).1 h
theorem AA {base:Heap} {env env':Env} {outer:List Env} {L x C T:Addr} {od:Option Addr} {fl:Value} {Q:Unit→Shared→Prop}
  (hfr:A.frames=some (env :: outer)) (hl:s.heap.FunFrames base (env :: outer)) (hf:env.frame=some L) (hf':env'.frame=some L) (z:FlA x C od T fl s.heap) (hne:¬ (fl == rawInt L)=true)
  (h:∀ h' T',Kp (frs (env :: outer)) x (some T) s.heap h'→s.heap.objs.size ≤ T'→FlA x C od T' (rawInt L) h'→Q () { s with heap:=h' }) :
  wpAny M A (noteFrame (.ref x) env') Q E s:=by
 obtain ⟨ne,vs,sl,oT,ts,he,h1,hT,hd,h3⟩:=z
 unfold noteFrame
 simp only [hf']
 refine wpAny_bind (wpAny_field he rfl h1 ?_)
 rw [if_pos (show (Value.ref T != Value.none)=true from by simp)]
 refine wpAny_bind (wpAny_field hT hd h3 ?_)
 rw [if_neg hne]
 refine wpAny_bind (wpAny_setField hT hd (Array.getElem?_eq_some_iff.mp h3).1 ?_)
 have nT:T ∉ frs (env :: outer):=nofr hl hT hd
 have oth:∀ b,b ≠ T→(s.heap.update T (Obj.mapFields (·.setIfInBounds 3 Value.none))).get? b=s.heap.get? b:=fun b hb=>Heap.get?_update_other _ _ (Ne.symm hb)
 have tT:∃ o',(s.heap.update T (Obj.mapFields (·.setIfInBounds 3 Value.none))).get? T=some o':=⟨_,Heap.get?_update_self _ hT (Obj.isFreed_of_fields (Obj.data_mapFields hd _))⟩
 have hl2:(s.heap.update T (Obj.mapFields (·.setIfInBounds 3 Value.none))).FunFrames base (env :: outer):=hl.of_keeps fun b o e nf=>⟨o,(oth b fun q=>by rw [q,hT] at e;cases e;exact nf ts hd).trans e,rfl⟩
 refine wF (s:={ s with heap:=s.heap.update T (Obj.mapFields (·.setIfInBounds 3 Value.none)) }) hfr hl2 hf hf' ((oth x (Ne.symm ne)).trans he) (Array.getElem?_eq_some_iff.mp h1).1 fun h' T' k w f=>h h' T' ⟨fun b o q n1 n2 n3=>?_,fun b o q n1=>?_,fun b o q=>?_⟩ ?_ f
 ·exact k.keep b o ((oth b fun y=>n3 (by rw [y])).trans q) n1 n2 (fun y=>by cases y)
 ·exact k.slot b o ((oth b fun y=>nT (y ▸ n1)).trans q) n1
 ·by_cases hb:b=T
  ·subst hb
   obtain ⟨o',e'⟩:=tT
   exact k.there _ _ e'
  ·exact k.there b o ((oth b hb).trans q)
 ·exact Nat.le_trans (Nat.le_of_eq (Heap.size_update _ _ _).symm) w
theorem flight {x C T:Addr} {od:Option Addr} {fl:Value} {fs:List Addr} {Q:Unit→Shared→Prop} (o:Option Addr) (z:FlA x C od T fl s.heap) (nT:T ∉ fs)
  (h:∀ h',Kp fs x (some T) s.heap h'→FlA x C od T (o.elim .none fun f=>rawInt f) h'→Q () { s with heap:=h' }):wpAny M A (setFlight (.ref x) o) Q E s:=by
 obtain ⟨ne,vs,sl,oT,ts,he,h1,hT,hd,h3⟩:=z
 have z3:3 < ts.size:=(Array.getElem?_eq_some_iff.mp h3).1
 have oth:∀ b,b ≠ T→(s.heap.update T (Obj.mapFields (·.setIfInBounds 3 (o.elim Value.none fun f=>rawInt f)))).get? b=s.heap.get? b:=fun b hb=>Heap.get?_update_other _ _ (Ne.symm hb)
 have tT:=Heap.get?_update_self (Obj.mapFields (·.setIfInBounds 3 (o.elim Value.none fun f=>rawInt f))) hT (Obj.isFreed_of_fields (Obj.data_mapFields hd _))
 unfold setFlight
 refine wpAny_bind (wpAny_field he rfl h1 ?_)
 rw [if_pos (show (Value.ref T != Value.none)=true from by simp)]
 refine wpAny_setField hT hd z3 (h _ ⟨fun b o q _ _ n3=>(oth b fun y=>n3 (by rw [y])).trans q,fun b o q n1=>⟨o.slots,(oth b fun y=>nT (y ▸ n1)).trans q⟩,fun b o q=>?_⟩
  ⟨ne,vs,sl,_,_,(oth x (Ne.symm ne)).trans he,h1,tT,Obj.data_mapFields hd _,by simp [z3]⟩)
 by_cases hb:b=T
 ·subst hb;exact ⟨_,tT⟩
 ·exact ⟨o,(oth b hb).trans q⟩
end
section
variable {P:Program} {w:World} {H:Hp} {h h':Heap} {fs:List Addr} {x C T:Addr} {od:Option Addr} {fl:Value} {To:Option Addr} {o:HO}
theorem Kp.hok (k:Kp fs x To h h') (ok:HOk P w H h) (hfs:∀ b ∈ fs,H b=none) (hT:∀ t,To=some t→H t=none) (mu:Mut (H x)) (new:XA x C od h'):HOk P w (upd H x (.ext (XA x C od))) h':=fun b u q=>by
 have nown:∀ c y,H c=some (.own y)→c ≠ x:=fun c y r z=>by subst z;rw [r] at mu;exact mu
 have ntup:∀ c xs,H c=some (.tup xs)→c ≠ x:=fun c xs r z=>by subst z;rw [r] at mu;exact mu
 have kk:∀ c v,c ≠ x→H c ≠ none→h.get? c=some v→h'.get? c=some v:=fun c v n1 n2 r=>k.keep c v r (fun z=>n2 (hfs c z)) n1 fun z=>n2 (hT c z.symm)
 by_cases hb:b=x
 ·subst hb;rw [db] at q;cases q;exact new.ok
 ·rw [jb hb] at q
  refine (ok b u q).stay (fun c v hc r=>?_) (fun c r=>by rw [jb (nown c b r)];exact r) fun c xs r=>by rw [jb (ntup c xs r)];exact r
  rcases hc with rfl | hc
  ·exact kk c v hb (by rw [q];exact fun z=>by cases z) r
  ·exact kk c v (nown c b hc) (by rw [hc];exact fun z=>by cases z) r
theorem Kp.un (k:Kp fs x To h h') (hT:∀ t,To=some t→H t=none) (mu:Mut (H x)):Un fs To.toList H (upd H x o) h h':=by
 have hx:∀ b,H b=none→b ≠ x:=fun b n z=>by subst z;rw [n] at mu;exact mu
 have hm:∀ b u,H b=some u→¬ Mut (some u)→b ≠ x:=fun b u q nm z=>by subst z;rw [q] at mu;exact nm mu
 refine ⟨fun b u q n n1 n2=>k.keep b u q n1 (hx b n) fun z=>n2 (by rw [← z];simp),fun b u q n n1 n2=>k.slot b u q n1,fun b u q n _=>by rw [jb (hx b n)];exact n,fun b u q _=>k.there b u q,
  fun b xs q=>by rw [jb (hm b _ q fun z=>z)];exact q,fun b u xs q=>by rw [jb (hm b _ q fun z=>z)];exact q,fun b ps q=>⟨#[],by rw [jb (hm b _ q fun z=>z),q];simp⟩⟩
end
noncomputable def CX1 (P:Program) (w:World):CXT:=fun outer H s E e s'=>
 ∃ x C od H' T,e=.ref x∧s'.os=s.os∧AllBare s'.gens∧Un (frs outer) [] H H' s.heap s'.heap∧HOk P w H' s'.heap∧H' x=some (.ext (XA x C od))∧s.heap.objs.size ≤ T∧H' T=none∧FlA x C od T .none s'.heap∧E (.ref C) od H'
noncomputable def Yy (X:Cx) (E:St→XK):Prop:=∀ (pins:List (Addr × Obj)) (σ:St) (H:Hp) (s:Shared) (x C:Addr) (od:Option Addr),Inv X pins σ H s→H x=some (.ext (XF x C od))→E σ (.ref C) od (upd H x (.ext (XA x C od)))→X.xe (.ref x) s
noncomputable def qv (CX:CXT) (X:Cx) (E:St→XK):Prop:=∀ (pins:List (Addr × Obj)) (σ:St) (H:Hp) (s:Shared) (e:Value) (s':Shared),Inv X pins σ H s→CX X.stack H s (E σ) e s'→X.xe e s'
structure Fr1 (X:Cx):Prop where
 st:X.stack=X.env :: X.outer
 fr:X.env.frame=some X.env.locals
noncomputable def wI (X:Cx) (pins:List (Addr × Obj)) (T:Addr):Prop:=(T ∈ X.ex∨X.s₀.heap.objs.size ≤ T)∧T ≠ X.env.locals∧(∀ x c,X.env.cells.lookup x=some c→c ≠ T)∧∀ p ∈ X.pn ++ pins,p.1 ≠ T
noncomputable def Gy (X:Cx) (pins:List (Addr × Obj)) (E:St→XK) (fl:Value) (e:Value) (s':Shared):Prop:=
 ∃ σ' H' x C od T,e=.ref x∧Inv X pins σ' H' s'∧H' x=some (.ext (XA x C od))∧H' T=none∧wI X pins T∧FlA x C od T fl s'.heap∧E σ' (.ref C) od H'
noncomputable def xeR (X:Cx) (pins:List (Addr × Obj)) (E:St→XK) (e:Value) (s':Shared):Prop:=
 ∃ σ' H' x C od,e=.ref x∧Inv X pins σ' H' s'∧H' x=some (.ext (XF x C od))∧E σ' (.ref C) od (upd H' x (.ext (XA x C od)))
noncomputable def xeT (X:Cx) (pins:List (Addr × Obj)) (E:St→XK) (e:Value) (s':Shared):Prop:=xeR X pins E e s'∨∃ fl,Gy X pins E fl e s'
noncomputable def xeA (X:Cx) (E:St→XK) (e:Value) (s':Shared):Prop:=∃ pins,xeT X pins E e s'
section
variable {X:Cx} {pins:List (Addr × Obj)} {σ:St} {H:Hp} {s:Shared} {T x C:Addr} {od:Option Addr} {E:St→XK} {M:Model} {A:Around} {E':Value→Shared→Prop} {Q:Unit→Shared→Prop} {e fl:Value} {h':Heap}
theorem LK (I:Inv X pins σ H s) (hT:s.heap.objs.size ≤ T):wI X pins T:=by
 have lt:∀ {b:Addr} {o:Obj},s.heap.get? b=some o→b ≠ T:=fun q z=>by
  subst z
  exact absurd (Nat.lt_of_lt_of_le (Heap.lt_size q) hT) (Nat.lt_irrefl _)
 refine ⟨.inr (Nat.le_trans I.sz hT),fun z=>?_,fun x c e=>?_,fun p hp=>lt (I.pin p hp).1⟩
 ·obtain ⟨m,⟨o,es,ep,ho,_⟩,_⟩:=I.loc
  exact lt ho z.symm
 ·obtain ⟨v,o,ho,_⟩:=I.cell x c e
  exact lt ho
theorem cG (I:Inv X pins σ H s) (k:Kp (frs X.stack) x (some T) s.heap h') (ex:H x=some (.ext (XA x C od))) (eT:H T=none) (nT:wI X pins T) (xa:XA x C od h'):Inv X pins σ H { s with heap:=h' }:=by
 have mu:Mut (H x):=by rw [ex];exact True.intro
 have z:∀ t,some T=some t→H t=none:=fun t z=>by cases z;exact eT
 have u1:=k.un (H:=H) (o:=.ext (XA x C od)) z mu
 have k1:=k.hok I.hok I.stkFree z mu xa
 rw [fF ex] at u1 k1
 exact I.call' (s':={ s with heap:=h' }) (ch:=[T]) rfl u1 k1 I.bare fun b hb=>by
  obtain rfl:b=T:=by simpa using hb
  exact nT
theorem GE (F:Fr1 X) (I:Inv X pins σ H s) (k:Kp (frs (X.env :: X.outer)) x (some T) s.heap h') (ex:H x=some (.ext (XA x C od))) (eT:H T=none) (nT:wI X pins T) (xa:XA x C od h'):Inv X pins σ H { s with heap:=h' }:=
 cG I (by rw [F.st];exact k) ex eT nT xa
theorem Gy.note (F:Fr1 X) (q:Gy X pins E fl e s) (hne:¬ (fl == rawInt X.env.locals)=true) (h:∀ s',Gy X pins E (rawInt X.env.locals) e s'→Q () s'):wpAny M X.A (noteFrame e X.env) Q E' s:=by
 obtain ⟨σ,H,x,C,od,T,rfl,I,ex,eT,nT,f,w⟩:=q
 have fs:s.heap.FunFrames X.base (X.env :: X.outer):=by rw [← F.st];exact I.stack
 exact AA (by rw [← F.st];exact I.ok.frames) fs F.fr F.fr f hne fun h' T' k w' f'=>h _ ⟨σ,H,x,C,od,T',rfl,GE F I k ex eT nT f'.xa,ex,I.hok.fresh w',LK I w',f',w⟩
theorem Gy.noted (F:Fr1 X) (q:Gy X pins E (rawInt X.env.locals) e s) (h:Q () s):wpAny M X.A (noteFrame e X.env) Q E' s:=by
 obtain ⟨σ,H,x,C,od,T,rfl,I,ex,eT,nT,⟨ne,vs,sl,oT,ts,he,h1,hT,hd,h3⟩,w⟩:=q
 unfold noteFrame
 simp only [F.fr]
 refine wpAny_bind (wpAny_field he rfl h1 ?_)
 rw [if_pos (show (Value.ref T != Value.none)=true from by simp)]
 refine wpAny_bind (wpAny_field hT hd h3 ?_)
 rw [if_pos (show (rawInt X.env.locals == rawInt X.env.locals)=true from by simp)]
 exact wpAny_pure h
theorem xeR.note (F:Fr1 X) (q:xeR X pins E e s) (h:∀ s',Gy X pins E (rawInt X.env.locals) e s'→Q () s'):wpAny M X.A (noteFrame e X.env) Q E' s:=by
 obtain ⟨σ,H,x,C,od,rfl,I,ex,w⟩:=q
 have fs:s.heap.FunFrames X.base (X.env :: X.outer):=by rw [← F.st];exact I.stack
 obtain ⟨vs,sl,hx,z1,z2⟩:=(show Xc X.prog X.w H s.heap x (.ext (XF x C od)) from I.hok _ _ ex).1
 have mu:Mut (H x):=by rw [ex];exact True.intro
 refine ay (by rw [← F.st];exact I.ok.frames) fs F.fr F.fr hx z2 fun h' T k w' f=>h _ ?_
 have z:∀ t,none=some t→H t=none:=fun t z=>by cases z
 have u1:=k.un (H:=H) (o:=.ext (XA x C od)) z mu
 have k1:=k.hok I.hok (by rw [← F.st];exact I.stkFree) z mu f.xa
 rw [← F.st] at u1
 have I2:=I.call' (s':={ s with heap:=h' }) (ch:=[]) rfl u1 k1 I.bare fun b hb=>absurd hb (by simp)
 exact ⟨σ,_,x,C,od,T,rfl,I2,db,by rw [jb f.1];exact I.hok.fresh w',LK I w',f,w⟩
theorem xeT.note (F:Fr1 X) (q:xeT X pins E e s) (h:∀ s',Gy X pins E (rawInt X.env.locals) e s'→Q () s'):wpAny M X.A (noteFrame e X.env) Q E' s:=by
 rcases q with q | ⟨fl,q⟩
 ·exact q.note F h
 ·by_cases c:(fl == rawInt X.env.locals)=true
  ·rw [beq_iff_eq] at c
   subst c
   exact q.noted F (h _ q)
  ·exact q.note F c h
theorem Gy.flight (F:Fr1 X) (o:Option Addr) (q:Gy X pins E fl e s) (h:∀ s',Gy X pins E (o.elim .none fun f=>rawInt f) e s'→Q () s'):wpAny M A (setFlight e o) Q E' s:=by
 obtain ⟨σ,H,x,C,od,T,rfl,I,ex,eT,nT,f,w⟩:=q
 have fs:s.heap.FunFrames X.base (X.env :: X.outer):=by rw [← F.st];exact I.stack
 have nf:T ∉ frs (X.env :: X.outer):=by
  obtain ⟨_,_,_,oT,ts,_,_,e,d,_⟩:=id f
  exact nofr fs e d
 exact L2.flight o f nf fun h' k f'=>h _ ⟨σ,H,x,C,od,T,rfl,GE F I k ex eT nT f'.xa,ex,eT,nT,f',w⟩
theorem xeT.leave (F:Fr1 X) (q:xeT X pins E e s) (h:∀ s',Gy X pins E .none e s'→Q () s'):wpAny M X.A (leaving X.env e) Q E' s:=by
 unfold leaving
 exact wpAny_bind (q.note F fun s' q'=>q'.flight F none h)
theorem Nu (F:Fr1 X):PassesOwn M X.A X.env (xeT X pins E):=fun e s' q=>by
 refine q.note F fun s2 q2=>?_
 show wpAny _ _ _ _ _ _
 obtain ⟨σ,H,x,C,od,T,rfl,I,ex,eT,nT,⟨ne,vs,sl,oT,ts,he,h1,hT,hd,h3⟩,w⟩:=id q2
 refine wpAny_bind (wpAny_field he rfl h1 ?_)
 rw [if_neg (show ¬ (Value.ref T == Value.none)=true from by simp)]
 rw [F.fr]
 exact q2.flight F _ fun s3 q3=>.inr ⟨_,q3⟩
theorem ke (F:Fr1 X):PassesOwn M X.A X.env (xeA X E):=fun e s' ⟨pins,q⟩=>by
 have z:=Nu (M:=M) F e s' q
 refine wpAny_mono z (fun _ s2 q2=>?_) fun e2 s2 q2=>?_
 all_goals exact wpAny_mono q2 (fun _ s3 q3=>⟨pins,q3⟩) fun e3 s3 q3=>⟨pins,q3⟩
theorem MG:Yy (X.wish (xeA X E)) E:=fun pins σ H s x C od I ex q=>⟨pins,.inl ⟨σ,H,x,C,od,rfl,I.unwish,ex,q⟩⟩
theorem EH {E0:XK} {s':Shared} (I:Inv X pins σ H s) (hq:CX1 X.prog X.w X.stack H s E0 e s') (h:∀ C od H',E0 C od H'→E σ C od H'):xeT X pins E e s':=by
 obtain ⟨x,C,od,H2,T,rfl,os,bare,un,hok,ex,hT,eT,fl,q⟩:=hq
 exact .inr ⟨_,σ,H2,x,C,od,T,rfl,I.call' os un hok bare (fun b z=>absurd z (by simp)),ex,eT,LK I hT,fl,h _ _ _ q⟩
end
theorem zk {X:Cx} {E:XK}:pk (CX1 X.prog X.w) (X.wish (xeA X fun _=>E)) E:=fun pins σ H s e s' I hq=>⟨pins,EH I.unwish hq fun _ _ _ z=>z⟩
theorem js {X:Cx} {E:XK}:Yy (X.wish (xeA X fun _=>E)) (fun _=>E):=MG
section
variable {P:Program} {w:World} {K:PySem.W.Frag} {mg:Str→Option Value} {base:Heap} {N:List Str} {qual:Str} {scope:Scope} {f:Addr} {cd:Value} {A:Around} {outer:List Env} {s:Shared} {H:Hp} {E:XK}
theorem OF {e:Value} {s':Shared} (q:xeA (Lz (CX1 P w) P w K mg base N qual scope f cd A outer s H E) (fun _=>E) e s'):(Lz (CX1 P w) P w K mg base N qual scope f cd A outer s H E).xe e s':=by
 obtain ⟨pins,q⟩:=q
 refine q.leave ⟨rfl,rfl⟩ fun s2 q2=>?_
 obtain ⟨σ,H2,x,C,od,T,rfl,I,ex,eT,nT,fl,q⟩:=q2
 refine ⟨x,C,od,H2,T,rfl,I.os,I.bare,I.base,I.hok,ex,?_,eT,fl,q⟩
 rcases nT.1 with z | z
 ·exact absurd z (by show T ∉ ([]:List Addr);simp)
 ·exact z
end
noncomputable def EE (sp:Sp) (dvs:List V) (E:St→XK) (t:TA):TE:=fun σ H Q=>t σ H fun vs H1=>sp (vs ++ dvs) H1 Q (E σ)
noncomputable def FJ (C:Addr) (m:Str) (sp:Sp) (dvs:List V) (E:St→XK) (ta:TE) (t:TA):TE:=fun σ H Q=>ta σ H fun x H1=>∃ a dx fs,x=.ref a∧H1 a=some (.ins C dx fs)∧fs.lookup m=none ∧
 t σ H1 fun vs H2=>sp (x :: (vs ++ dvs)) H2 Q (E σ)
section
variable {X:Cx} {CX:CXT} {k:Nat} {f C:Addr} {fd:FuncData} {ps:List Str} {sp:Sp} {dvs:List V} {ds:List Value} {E:St→XK} {x m:Str} {p pos apos:Pos} {e o:Expr} {es:List Expr} {ta:TE} {t:TA}
theorem UH {pins:List (Addr × Obj)} {σ:St} {H:Hp} {s:Shared} {Q:VK} {us:List Value} {vs:List V} (F:Bb X.prog X.w X.K X.mg X.base CX k f fd ps sp) (hr:Ih k X.A) (hb:Kb X.K fd ps ds) (hd:Kc dvs ds) (hx:qv CX X E)
  (I:Inv X pins σ H s) (r:Kc vs us) (h:sp (vs ++ dvs) H Q (E σ)):wpAny (model X.prog X.w) X.A (call (.ref f) us) (EP X pins σ Q) X.xe s:=by
 have r2:Kc (vs ++ dvs) (us ++ ds):=r.append hd
 have hl:(us ++ ds).length=ps.length:=by rw [← r2.length];exact F.len _ _ _ _ h
 refine wpAny_call (codeAny_mono (F.run X.A X.stack s H ⟨us,[]⟩ (us ++ ds) (vs ++ dvs) Q (E σ) hr I.env0 (hb s us I.kIn hl) r2 h) fun r s' hq=>?_)
 rcases r with e | (u | _ | _ | _)
 ·exact hx pins σ H s e s' I hq
 all_goals first | exact I.after hq | exact False.elim hq
theorem Qw (F:Bb X.prog X.w X.K X.mg X.base CX k f fd ps sp) (hr:Ih k X.A) (hg:Gl X x) (hm:X.mg x=some (.ref f)) (hk:PySem.W.keepIn X.K (.ref f)=true) (hb:Kb X.K fd ps ds) (hd:Kc dvs ds) (hx:qv CX X E)
  (ha:PA X (e :: es) t) (hdb:(x == ("__debug__" : Str))=false:=by decide) (he:starEach (e :: es) X.env=(false,eval e X.env) :: starEach es X.env:=by rfl) (hpl:(backTo pos (starEach es X.env)).any (·.1)=false:=by rfl) :
  PE X (.Call (.Name x p) (e :: es) [] pos) (EE sp dvs E t):=by
 intro pins s σ H Q I h
 refine wpAny_Call_Name_kw (Ti I hg hm ?_ hdb)
 exact PySem.W.callWith_K (h₀:=X.base) I.ok.mod.kin hk (thn (ha pos pins s σ H _ I h) fun us s1 ⟨vs,H1,I1,r,q⟩=>⟨I1.kIn,UH F hr hb hd hx I1 r q⟩) he hpl
end
noncomputable abbrev Cx.tr (X:Cx) (pn:List (Addr × Obj)) (E:Value→Shared→Prop):Cx:={ X with pn:=X.pn ++ pn,xe:=E }
noncomputable abbrev Cx.hn (X:Cx) (e:Value):Cx:={ X with A:=X.A.mark (some e),calm:=false,xe:=fun _ _=>False }
section
variable {X:Cx} {pins pins':List (Addr × Obj)} {σ:St} {H:Hp} {s:Shared} {E:Value→Shared→Prop} {e:Value}
theorem Cx.Ok.tr (ok:X.Ok) (pn:List (Addr × Obj)) (E:Value→Shared→Prop):(X.tr pn E).Ok:=
 ⟨ok.mod,ok.kind,ok.glob,ok.blt,ok.above,ok.inj,ok.has,ok.cab,ok.hd,ok.frames,ok.stk,ok.exf,ok.bs,ok.bsz,ok.noex,ok.exfs,ok.funs,ok.frf⟩
theorem Cx.Ok.untr {pn:List (Addr × Obj)} (ok:(X.tr pn E).Ok):X.Ok:=
 ⟨ok.mod,ok.kind,ok.glob,ok.blt,ok.above,ok.inj,ok.has,ok.cab,ok.hd,ok.frames,ok.stk,ok.exf,ok.bs,ok.bsz,ok.noex,ok.exfs,ok.funs,ok.frf⟩
theorem Cx.Ok.hn (ok:X.Ok) (e:Value):(X.hn e).Ok:=
 ⟨ok.mod,ok.kind,ok.glob,ok.blt,ok.above,ok.inj,ok.has,ok.cab,(fun z=>Bool.noConfusion z),ok.frames,ok.stk,ok.exf,ok.bs,ok.bsz,ok.noex,ok.exfs,ok.funs,ok.frf⟩
theorem Inv.tr (I:Inv X pins σ H s) (E:Value→Shared→Prop):Inv (X.tr pins E) [] σ H s:=⟨I.ok.tr pins E,I.os,I.bare,I.base,I.loc,I.cell,I.free,I.freeC,fun p hp=>I.pin p (by simpa using hp),I.hok,I.len⟩
theorem Inv.untr (I:Inv (X.tr pins E) pins' σ H s):Inv X pins σ H s:=⟨I.ok.untr,I.os,I.bare,I.base,I.loc,I.cell,I.free,I.freeC,fun p hp=>I.pin p (List.mem_append_left _ hp),I.hok,I.len⟩
theorem Inv.hn (I:Inv X pins σ H s) (e:Value):Inv (X.hn e) pins σ H s:=⟨I.ok.hn e,I.os,I.bare,I.base,I.loc,I.cell,I.free,I.freeC,I.pin,I.hok,I.len⟩
theorem Inv.unhn (ok:X.Ok) (I:Inv (X.hn e) pins σ H s):Inv X pins σ H s:=⟨ok,I.os,I.bare,I.base,I.loc,I.cell,I.free,I.freeC,I.pin,I.hok,I.len⟩
theorem SP.untr {D:Uf} {f:Flow} {s':Shared} (h:SP (X.tr pins E) pins' D f s'):SP X pins D f s':=by
 cases f with
 | next=>obtain ⟨σ',H',I,q⟩:=h;exact ⟨σ',H',I.untr,q⟩
 | brk=>obtain ⟨σ',H',I,q⟩:=h;exact ⟨σ',H',I.untr,q⟩
 | cont=>obtain ⟨σ',H',I,q⟩:=h;exact ⟨σ',H',I.untr,q⟩
 | ret u=>obtain ⟨v,σ',H',I,r,q⟩:=h;exact ⟨v,σ',H',I.untr,r,q⟩
end
theorem BA {X:Cx} {pins:List (Addr × Obj)} {E:St→XK}:qv (CX1 X.prog X.w) (X.tr pins (xeT X pins E)) E:=by
 intro pins' σ H s e s' I hq
 obtain ⟨x,C,od,H2,T,rfl,os,bare,un,hok,ex,hT,eT,fl,q⟩:=hq
 have I2:=I.call' os un hok bare (fun b z=>absurd z (by simp))
 exact .inr ⟨_,σ,H2,x,C,od,T,rfl,I2.untr,ex,eT,LK I.untr hT,fl,q⟩
theorem Pk {X:Cx} {pins:List (Addr × Obj)} {σ:St} {H:Hp} {s:Shared} {i:Nat} {n:Str} {pos:Pos} {A:Around} {E:Value→Shared→Prop} {Q:Unit→Shared→Prop} (I:Inv X pins σ H s) (hN:X.N.Nodup) (hi:X.N[i]? = some n)
  (hl:X.env.scope.names.lookup n=some .local) (h:∀ s',Inv X pins (σ.set i none) H s'→Q () s'):wpAny (model X.prog X.w) A (do bindName X.env n .none;unbindBehindTheSuite X.env n pos) Q E s:=by
 have hiσ:i < σ.length:=by rw [I.len];exact (List.getElem?_eq_some_iff.mp hi).1
 refine wpAny_bind (wpAny_bindName (Hn I hN hi (.inl hl) (v:=.non) (u:=.none) rfl (fun s1 I1=>?_) (.inr hl)))
 obtain ⟨m,hn,hlk⟩:=I1.loc
 have hk:X.env.kindOf n=some .local:=hl
 obtain ⟨u,ru,lk⟩:=hlk i n .non hi (List.getElem?_set_self hiσ) (.inl hl)
 have hmn:(m n).isSome=true:=by
  rcases lk with ⟨_,e⟩ | ⟨k,_⟩
  ·rw [e];rfl
  ·rcases k with k | k <;> (rw [hk] at k;cases k)
 have hp:(X.env.scope.kind == .class || (X.env.scope.kind == .module && X.env.locals != X.env.globals))=false:=by rw [I.ok.kind];rfl
 unfold unbindBehindTheSuite
 refine wpAny_onRaise ?_
 unfold unbindName
 refine wpAny_bind (wpAny_point (wpAny_bind ?_))
 unfold deleteName
 simp only [hk,hp]
 rw [if_neg (by decide)]
 refine wpAny_bind (wpAny_nsDel_keeps hn fun h2 v2 hn2 hs=>?_)
 rw [hmn]
 refine wpAny_pure (wpAny_point (h _ ?_))
 have neL:∀ b o,X.s₀.heap.get? b=some o→b ≠ X.env.locals:=fun b o e=>Nat.ne_of_lt (Nat.lt_of_lt_of_le (Heap.lt_size e) I1.ok.above)
 refine ⟨I1.ok,I1.os,I1.bare,⟨fun b o e n' hb hx=>(hs.2 b (neL b o e)).trans (I1.base.keep b o e n' hb hx),fun b o e n' hb hx=>?_,I1.base.free,fun b o e hx=>?_,I1.base.tups,I1.base.frzs,I1.base.tbls⟩,⟨_,hn2,fun j y v e1 e2 e3=>?_⟩,fun y c e=>?_,I1.free,I1.freeC,fun p hp=>?_,fun b u' e=>?_,by simpa using I.len⟩
 ·obtain ⟨sl,e1⟩:=I1.base.slot b o e n' hb hx
  exact ⟨sl,(hs.2 b (neL b o e)).trans e1⟩
 ·obtain ⟨o',e1⟩:=I1.base.there b o e hx
  exact ⟨o',(hs.2 b (neL b o e)).trans e1⟩
 ·by_cases hj:j=i
  ·subst hj
   rw [List.getElem?_set_self hiσ] at e2
   cases e2
  ·rw [List.getElem?_set_ne (Ne.symm hj)] at e2
   obtain ⟨u',r',q⟩:=hlk j y v e1 (by rw [List.getElem?_set_ne (Ne.symm hj)];exact e2) e3
   refine ⟨u',r',?_⟩
   rcases q with ⟨k,e⟩ | ⟨k,c,e,z⟩
   ·refine .inl ⟨k,?_⟩
    have:y ≠ n:=fun e=>hj (ls hN e1 (e ▸ hi))
    simp [this,e]
   ·exact .inr ⟨k,c,e,z.sameBut hs (I1.cne y c e)⟩
 ·obtain ⟨w',z⟩:=I1.cell y c e
  exact ⟨w',z.sameBut hs (I1.cne y c e)⟩
 ·obtain ⟨e,n',ne,nf,d⟩:=I1.pin p hp
  exact ⟨(hs.2 p.1 ne).trans e,n',ne,nf,d⟩
 ·have nL:∀ c,H c ≠ none→c ≠ X.env.locals:=fun c q z=>q (by rw [z];exact I1.free)
  refine (I1.hok b u' e).stay (fun c v hc q=>(hs.2 c (nL c ?_)).trans q) (fun _ q=>q) fun _ _ q=>q
  rcases hc with rfl | hc
  ·rw [e];exact fun z=>by cases z
  ·rw [hc];exact fun z=>by cases z
noncomputable def Uf.gone (D:Uf) (i:Nat):Uf:={ nx:=fun σ H=>D.nx (σ.set i none) H,rt:=D.rt,bk:=fun σ H=>D.bk (σ.set i none) H,ct:=fun σ H=>D.ct (σ.set i none) H }
noncomputable def yL (K:PySem.W.Frag) (c:Addr) (i:Nat) (th:TS) (D:Uf):St→XK:=fun σ C od H=>∃ C',C=.ref C'∧PySem.W.exmOne K C (.ref c)=some true∧∀ x,H x=some (.ext (XA x C' od))→th (D.gone i) (σ.set i (some (.ref x))) H
noncomputable def ML (K:PySem.W.Frag) (c:Addr) (i:Nat) (tb:(St→XK)→TS) (th:TS):TS:=fun D σ H=>tb (yL K c i th D) D σ H
section
variable {X:Cx} {body suite:List Stmt} {b0:Stmt} {x n:Str} {c:Addr} {i:Nat} {tb:(St→XK)→TS} {th:TS} {xp hp pos:Pos}
theorem YJ (hb:∀ pins E,PSs (X.tr pins (xeT X pins E)) body (tb E)) (hg:Gl X x) (hm:X.mg x=some (.ref c)) (hh:∀ e,PSs (X.hn e) (b0 :: suite) th) (hN:X.N.Nodup) (hi:X.N[i]? = some n)
  (hl:X.env.scope.names.lookup n=some .local) (F:Fr1 X:=by exact ⟨rfl,rfl⟩) (hdb:(x == ("__debug__" : Str))=false:=by decide) :
  PS X (.Try body [.ExceptHandler (some (.Name x xp)) (some n) (b0 :: suite) hp] [] [] pos) (ML X.K c i tb th):=by
 intro pins s σ H D I h
 refine wpAny_Try_except (wpAny_mono (hb pins _ [] s σ H D (I.tr _) h) (fun f s1 q=>?_) fun e s1 q=>?_)
 ·have q':=q.untr
  cases f with
  | next=>exact wpAny_execs_nil q'
  | brk=>exact q'
  | cont=>exact q'
  | ret u=>exact q'
 ·refine q.note F fun s2 q2=>q2.flight F none fun s3 q3=>?_
  obtain ⟨σ1,H1,a,C,od,T,rfl,I2,ea,eT,nT,fl,C',eC,em,w⟩:=id q3
  cases eC
  refine wpAny_handleBy_cons (codeAny_handlers_test (Ti (I2.hn (.ref a)) hg hm ?_ hdb)) (fun z=>by cases z)
  have LT:PySem.W.Looks (model X.prog X.w) s3.heap (typeOf (.ref a)) (.ref C):=by
   obtain ⟨vs,sl,e⟩:=fl.xa
   exact (PySem.W.Looks.ld e).andThen .now
  refine (PySem.W.exm_one I2.kIn LT em).here ?_
  rw [if_pos rfl]
  refine codeAny_handlers_suite_as (q3.flight F none fun s4 q4=>?_)
  ·obtain ⟨σ1,H1,a',C,od,T,ea',I3,ea,eT,nT,fl,C',eC,em,w⟩:=q4
   cases eC
   cases ea'
   refine Hn (X:=X.hn (.ref a)) (I3.hn (.ref a)) hN hi (.inl hl) (v:=.ref a) (u:=.ref a) rfl (fun s5 I4=>?_) (.inr hl)
   refine wpAny_mono (hh (.ref a) pins s5 _ H1 (D.gone i) I4 (w a ea)) (fun f s5 q5=>?_) fun _ _ z=>False.elim z
   cases f with
   | next=>obtain ⟨σ',H',J,q⟩:=q5;exact Pk (J.unhn I.ok) hN hi hl fun s6 I6=>⟨_,_,I6,q⟩
   | brk=>obtain ⟨σ',H',J,q⟩:=q5;exact Pk (J.unhn I.ok) hN hi hl fun s6 I6=>⟨_,_,I6,q⟩
   | cont=>obtain ⟨σ',H',J,q⟩:=q5;exact Pk (J.unhn I.ok) hN hi hl fun s6 I6=>⟨_,_,I6,q⟩
   | ret u=>obtain ⟨v,σ',H',J,r,q⟩:=q5;exact Pk (J.unhn I.ok) hN hi hl fun s6 I6=>⟨v,_,_,I6,r,q⟩
end
theorem gG {X:Cx} {body suite:List Stmt} {b0:Stmt} {x n:Str} {c:Addr} {i:Nat} {tb:(St→XK)→TS} {th:TS} {xp hp pos:Pos} (hb:∀ pins E,∃ t,PSs (X.tr pins (xeT X pins E)) body t∧t=tb E) (hg:Gl X x) (hm:X.mg x=some (.ref c))
  (hh:∀ e,∃ t,PSs (X.hn e) (b0 :: suite) t∧t=th) (hN:X.N.Nodup) (hi:X.N[i]? = some n) (hl:X.env.scope.names.lookup n=some .local) (F:Fr1 X:=by exact ⟨rfl,rfl⟩)
  (hdb:(x == ("__debug__" : Str))=false:=by decide):PS X (.Try body [.ExceptHandler (some (.Name x xp)) (some n) (b0 :: suite) hp] [] [] pos) (ML X.K c i tb th):=
 YJ (fun pins E=>by obtain ⟨t,h,rfl⟩:=hb pins E;exact h) hg hm (fun e=>by obtain ⟨t,h,rfl⟩:=hh e;exact h) hN hi hl F hdb
theorem HG (K:PySem.W.Frag) (c:Addr) (i:Nat) (tb:(St→XK)→TS) (th:TS) (D:Uf) (σ:St) (H:Hp):ML K c i tb th D σ H=tb (yL K c i th D) D σ H:=rfl
theorem UG (K:PySem.W.Frag) (c:Addr) (i:Nat) (th:TS) (D:Uf) (σ:St) (C:Value) (od:Option Addr) (H:Hp) :
  yL K c i th D σ C od H = ∃ C',C=.ref C'∧PySem.W.exmOne K C (.ref c)=some true∧∀ x,H x=some (.ext (XA x C' od))→th (D.gone i) (σ.set i (some (.ref x))) H:=rfl
theorem WF (D:Uf) (i:Nat) (σ:St) (H:Hp):(D.gone i).nx σ H=D.nx (σ.set i none) H:=rfl
theorem gH (D:Uf) (i:Nat) (v:V) (H:Hp):(D.gone i).rt v H=D.rt v H:=rfl
theorem OwnTail.has {h:Heap} {bm tl:List Value} {v:Value} (T:OwnTail h bm tl) (e:bm.contains v=true):tl.contains v=true:=by
 induction T with
 | base=>exact e
 | own _ _ _ _ ih=>rw [List.contains_cons,ih,Bool.or_true]
noncomputable def zF (K:PySem.W.Frag) (E:St→XK) (te:TE):TS:=fun D σ H=>te σ H fun v H1=>∃ x C od,v=.ref x∧H1 x=some (.ext (XF x C od))∧Aq K C∧E σ (.ref C) od (upd H1 x (.ext (XA x C od)))
theorem qy {M:Model} {A:Around} {E:Value→Shared→Prop} {s:Shared} {env:Env} {x:Sem Value} {Q:Flow→Shared→Prop} (hh:A.handled=none)
  (h:wpAny M A x (fun v s1=>∃ e C od vs sl nm q N bs bm hdct sn sub ab col dd k0 k1 k2 k3 k5 newId,v=.ref e∧bm.contains (.type "BaseException")=true ∧
   s1.heap.get? C=some (excClassObj nm q C N bs bm hdct sn sub ab col dd k0 k1 k2 k3 k5 newId)∧s1.heap.get? e=some ⟨.ref C,od,.fields vs,sl⟩∧vs[1]? = some .none∧E (.ref e) s1) E s) :
  wpAny M A (raiseStmt env (some x) none) Q E s:=by
 unfold raiseStmt
 refine wpAny_bind (wpAny_mono h (fun v s1 h1=>?_) fun _ _ x=>x)
 obtain ⟨e,C,od,vs,sl,nm,q,N,bs,bm,hdct,sn,sub,ab,col,dd,k0,k1,k2,k3,k5,newId,rfl,hb,hC,he,h1,hE⟩:=h1
 have hcB:(Value.ref C :: bm).contains (.type "BaseException")=true:=by rw [List.contains_cons,hb,Bool.or_true]
 obtain ⟨hp,g,d,tk,os⟩:=s1
 repeat (first | with_reducible refine wpAny_loadPart_at he ?_ | with_reducible refine wpAny_loadPart_at hC ?_ | (with_reducible refine wpAny_isSubtype_exc hC ?_;rw [hcB]) | (with_reducible refine wpAny_field he rfl h1 ?_) | wp_step)
 exact wpAny_raiseNew_none hh hE
section
variable {X:Cx} {e:Expr} {te:TE} {pos:Pos} {E:St→XK}
theorem On (he:PE X e te) (hT:Yy X E) (hc:X.calm=true:=by rfl):PS X (.Raise (some e) none pos) (zF X.K E te):=by
 intro pins s σ H D I h
 rw [arm_exec_Raise]
 refine wpAny_bind (wpAny_standAt (qy (I.ok.hd hc) ?_))
 refine wpAny_bind (thn (he pins s σ H _ I h) fun u s1 ⟨v,H1,I1,r,x,C,od,ev,ex,c,q⟩=>wpAny_bind (wpAny_standAt (wpAny_pure ?_)))
 subst ev
 obtain rfl:u=Value.ref x:=r
 obtain ⟨vs,sl,hx,z1,z2⟩:=(show Xc X.prog X.w H1 s1.heap x (.ext (XF x C od)) from I1.hok _ _ ex).1
 obtain ⟨fI,hfI⟩:=c.ex
 obtain ⟨tl,N,nm,q',bs,sn,sub,ab,co,dd,k0,k1,k2,k3,k5,mN,hC,hN,hi,T⟩:=Br I1.kIn hfI
 exact ⟨x,C,od,vs,sl,nm,q',N,bs,tl,true,sn,sub,ab,co,dd,k0,k1,k2,k3,k5,_,rfl,L2.OwnTail.has T (by decide),hC,hx,z2,hT pins σ H1 s1 x C od I1 ex q⟩
theorem PS.nox {X:Cx} {st:Stmt} {t:TS} (h:PS X.nox st t):PS X st t:=fun pins s σ H D I hw=>
 wpAny_mono (h pins s σ H D (I.wish _) hw) (fun _ _ q=>q.unwish) fun _ _ z=>False.elim z
end
theorem Fun.okX {P:Program} {w:World} {K:PySem.W.Frag} {mg:Str→Option Value} {base:Heap} {x qual:Str} {st:Stmt} {f:Addr} {fd:FuncData} {N ps:List Str} {k:Nat} {sp:Sp} (F:Fun K x qual st f fd) (S:rb N ps (ib st))
  (len:∀ vs H Q E,sp vs H Q E→vs.length=ps.length)
  (hbody:∀ (cdv:Value) (A:Around) (outer:List Env) (s:Shared) (H:Hp) (vs:List V) (Q:VK) (E:XK),Ih k (A.deeper (envOfC qual (ib st) s.heap.objs.size f cdv))→sp vs H Q E →
   ∃ t,PSs ((Lz (CX1 P w) P w K mg base N qual (ib st) f cdv A outer s H E).wish (xeA (Lz (CX1 P w) P w K mg base N qual (ib st) f cdv A outer s H E) fun _=>E)) (im st) t∧t { nx:=fun _ H'=>Q .non H',rt:=Q } (start N vs) H):Bb P w K mg base (CX1 P w) (k + 1) f fd ps sp:=by
 obtain ⟨oc,od,kV,doc,pm,an,cdv,ct,osl,rfl,lk,hcd⟩:=F.ex
 refine oJ lk hcd S len fun A outer s H vs Q E hr hsp=>?_
 obtain ⟨t,h,q⟩:=hbody cdv A outer s H vs Q E hr hsp
 exact ⟨t,fun pins s1 σ H1 D I hw=>wpAny_mono (h pins s1 σ H1 D (I.wish _) hw) (fun _ _ q=>q.unwish) fun _ _ z=>OF z,q⟩
noncomputable def xeB (B:Cx) (E:XK) (e:Value) (s':Shared):Prop:=
 ∃ pins fl σ' H' x C od T,e=.ref x∧Inv B pins σ' H' s'∧H' x=some (.ext (XA x C od))∧H' T=none∧wI B pins T∧B.s₀.heap.objs.size ≤ T∧FlA x C od T fl s'.heap∧E (.ref C) od H'
structure YL (X:Cx) (scope:Scope) (N:List Str) (tg elt:Expr) (ifs:List Expr) (g:TG) (tc:TT) (te:XK→TE):Prop where
 tgt:∀ E C s H fp,PG ((X.block scope C N s H fp).wish (xeB (X.block scope C N s H fp) E)) tg g
 tests:∀ E C s H fp,PTs ((X.block scope C N s H fp).wish (xeB (X.block scope C N s H fp) E)) ifs tc
 elem:∀ E C s H fp,PE ((X.block scope C N s H fp).wish (xeB (X.block scope C N s H fp) E)) elt (te E)
theorem YL.of {X:Cx} {scope:Scope} {N:List Str} {tg elt:Expr} {ifs:List Expr} {g:TG} {tc:TT} {te:XK→TE} (h1:∀ E C s H fp,PG ((X.block scope C N s H fp).wish (xeB (X.block scope C N s H fp) E)) tg g)
  (h2:∀ E C s H fp,∃ t,PTs ((X.block scope C N s H fp).wish (xeB (X.block scope C N s H fp) E)) ifs t∧t=tc) (h3:∀ E C s H fp,∃ t,PE ((X.block scope C N s H fp).wish (xeB (X.block scope C N s H fp) E)) elt t∧t=te E):YL X scope N tg elt ifs g tc te:=
 ⟨h1,fun E C s H fp=>by obtain ⟨t,h,rfl⟩:=h2 E C s H fp;exact h,fun E C s H fp=>by obtain ⟨t,h,e⟩:=h3 E C s H fp;rw [← e];exact h⟩
noncomputable def XI (J:It) (g:TG) (tc:TT) (te:TE) (σb:St) (Q:VK) (H:Hp):Prop:=∃ W:Nat→Nat→List V→Hp→Prop,(∃ m,W 0 m [] H)∧Vu J g tc te σb Q W
noncomputable def eK (wi:TI) (g:TG) (tc:TT) (te:XK→TE) (sel:List (Option Nat)) (E:St→XK):TE:=fun σ H Q=>wi σ H fun J H1=>XI J g tc (te (E σ)) (blk sel σ) Q H1
section
variable {X:Cx} {elt tg iter:Expr} {ifs:List Expr} {scope:Scope} {pos:Pos} {wi:TI} {g:TG} {tc:TT} {te:XK→TE} {N:List Str} {sel:List (Option Nat)}
theorem FlA.but {x C T c:Addr} {od:Option Addr} {fl:Value} {h h':Heap} (z:FlA x C od T fl h) (n1:x ≠ c) (n2:T ≠ c) (k:∀ b,b ≠ c→h'.get? b=h.get? b):FlA x C od T fl h':=by
 obtain ⟨ne,vs,sl,oT,ts,he,h1,hT,hd,h3⟩:=z
 exact ⟨ne,vs,sl,oT,ts,(k _ n1).trans he,h1,(k _ n2).trans hT,hd,h3⟩
end
structure bM (K:PySem.W.Frag) (C:Addr):Prop where
 cl:Cls K C
 ha:PySem.W.findIn K (.ref C) "__class__"=some (some (.builtin "object.__class__"))
 hn:PySem.W.specialIn K (.builtin "object.__class__") "__get__"=some (some (.builtin "getset_descriptor.__get__"))
 htk:PySem.W.takesIn K (.builtin "object.__class__")=some true
 hm:PySem.W.mroIn K C (.type "object")=some true
theorem bM.ty {K:PySem.W.Frag} {H:Hp} {C a dx:Addr} {fs:List (Str × V)} (c:bM K C) (e:H a=some (.ins C dx fs)):dw K H (.ref a) (.ref C):=.ins e c.cl c.ha c.hn c.htk c.hm
end L2
namespace L2
open PySem PySem.Spec PyProof.Rows
noncomputable def Itd (hi:Int) (n:Nat):It:=⟨fun i _=>i < n,fun i H x H'=>H'=H∧x=.int (hi - i),fun i _=>n ≤ i⟩
theorem gA {P:Program} {w:World} {K:PySem.W.Frag} {tg:Expr} (it:Addr) (hi:Int) (n:Nat):nG P w K tg (Itd hi n) [it] it (fun i h=>IsRangeIter h it (hi + (i:Nat) * (-1)) ((n:Int) - (i:Nat)) (-1)) where
 mem:=by simp
 obj:=fun i h st b hb=>by
  have e:b=it:=by simpa using hb
  subst e
  exact ⟨_,st,fun v z=>by
   have z':Data.fields _=Data.cell v:=z
   cases z'⟩
 keep:=fun i h h' st k=>k it (by simp) _ st
 item:=by
  intro X hP hw hK hc i pins s σ H E I hf st hg
  subst hP hw hK
  obtain ⟨f0,f1,f2,f3,f4,f5⟩:=hf it (by simp)
  have W:=Walks.range (prog:=X.prog) (w:=X.w) (I.ok.hd hc) it hi (-1) n
  refine W.item i s _ _ hg st fun v h' tk hv st' kk=>?_
  obtain ⟨t,rfl⟩:=hv
  have I1:Inv X pins σ H { s with heap:=h',toks:=tk }:=I.turned (fun b o hb e=>kk b o (by simpa using hb) e) f0 f1 f3 f4 f5
  refine ⟨_,rfl,KD (s:={ s with heap:=h',toks:=tk }) (n := "range_iterator") st' rfl rfl (by decide) ⟨.int (hi - i),H,I1,⟨t,?_⟩,⟨rfl,rfl⟩,st',fun b hb=>(hf b hb).1⟩⟩
  congr 1
  omega
 done:=by
  intro X hP hw hK hc i pins s σ H E I hf st hg
  subst hP hw hK
  obtain ⟨f0,f1,f2,f3,f4,f5⟩:=hf it (by simp)
  exact wpAny_pyNext_range_end (I.ok.hd hc) st (by have:n ≤ i:=hg;omega) fun h' eb=>⟨rfl,I.turned (t':=s.toks) (fun b o hb e=>eb b o hb e) f0 f1 f3 f4 f5⟩
 self:=fun _ _ _ _ _ st h=>wpAny_pyIter_rangeiter st h
theorem Oj (a b:Int):Builtin.Range.rangeSize a b (-1)=if b < a then a - b else 0:=by
 unfold Builtin.Range.rangeSize
 rw [if_neg (show ¬ (-1:Int) > 0 by decide),show (- -1:Int)=1 by decide,Int.ediv_one]
 show (if b < a then a - b - 1 + 1 else 0)=_
 split <;> omega
theorem Ox {a b:Int} (ha:-(2 ^ 62) ≤ a) (ha':a < 2 ^ 62) (hb:-(2 ^ 62) ≤ b) (hb':b < 2 ^ 62):Builtin.Range.small a b (-1)=true:=by
 unfold Builtin.Range.small
 rw [Oj]
 simp only [Builtin.Range.rangeFitsLong,Bool.and_eq_true,Bool.or_eq_true,decide_eq_true_eq,beq_iff_eq,show ¬ (-1:Int) > 0 by decide,if_false]
 split <;> omega
section
variable {X:Cx} {tg:Expr}
noncomputable def yJ (ta:TA):TI:=fun σ H R=>ta σ H fun vs H1=>∃ i j:Int,vs=[.int i,.int j,.int (-1)]∧(-1073741824 ≤ i∧i < 1073741824∧-1073741824 ≤ j∧j < 1073741824)∧R (Itd i (i - j).toNat) H1
theorem Bu {a b c:Expr} {ta:TA} {p pos:Pos} (hg:Gl X "range") (hm:X.mg "range"=none) (ha:PA X [a,b,c] ta) (hs:starEach [a,b,c] X.env=[(false,eval a X.env),(false,eval b X.env),(false,eval c X.env)]:=by rfl) (hs2:starEach [b,c] X.env=[(false,eval b X.env),(false,eval c X.env)]:=by rfl) :
  PI X tg (.Call (.Name "range" p) [a,b,c] [] pos) (yJ ta):=by
 intro pins s σ H R I h
 refine Call_ (ol I hg hm boot_range (PyProof.Rows.callWith_type1 (thn (ha pos pins s σ H _ I h) fun us s1 ⟨vs,H1,I1,r1,q1⟩=>?_) (by rw [hs,hs2]) (by rw [hs2];rfl)))
 obtain ⟨i,j,e,⟨q1,q2,q3,q4⟩,q⟩:=q1
 subst e
 cases r1 with
 | cons r rr=>
  cases rr with
  | cons r' rr=>
   cases rr with
   | cons r'' rr=>
    cases rr
    obtain ⟨t,rfl⟩:=r
    obtain ⟨t',rfl⟩:=r'
    obtain ⟨t'',rfl⟩:=r''
    refine call_range_3 (by decide) ?_ (Or.inl (PyProof.noPylong_small (by omega)))
    refine wpAny_pyIter_range (IsRange.new ..) (Ox (by omega) (by omega) (by omega) (by omega)) ?_
    have I2:Inv X pins σ H1 { s1 with heap:=s1.heap.push { cls:=.type "range",data:=.fields #[.int i t,.int j t',.int (-1) t''] },toks:=s1.toks }:=I1.kept fun b o e=>Heap.get?_push_of_some _ e
    refine ⟨(s1.heap.push { cls:=.type "range",data:=.fields #[.int i t,.int j t',.int (-1) t''] }).objs.size,[(s1.heap.push { cls:=.type "range",data:=.fields #[.int i t,.int j t',.int (-1) t''] }).objs.size],_,_,H1,rfl,
     I2.kept (t':=s1.toks) fun b o e=>Heap.get?_push_of_some _ e,gA _ i (i - j).toNat,?_,fun b hb=>?_,q⟩
    ·have e1:i + ((0:Nat):Int) * (-1)=i:=by simp
     have e2:(((i - j).toNat:Nat):Int) - ((0:Nat):Int)=Builtin.Range.rangeSize i j (-1):=by rw [Oj];split <;> omega
     show IsRangeIter _ _ (i + ((0:Nat):Int) * (-1)) ((((i - j).toNat:Nat):Int) - ((0:Nat):Int)) (-1)
     rw [e1,e2]
     exact Heap.get?_push_size _ rfl
    ·have e:b=(s1.heap.push { cls:=.type "range",data:=.fields #[.int i t,.int j t',.int (-1) t''] }).objs.size:=by simpa using hb
     subst e
     exact I2.fpOk (Nat.le_refl _) (I2.hok.fresh (Nat.le_refl _))
end
theorem yy:typeLookup (.type "list_reverseiterator") "__len__"=pure none:=by rw [typeLookup_type,builtinLookup_eq_fast];kernel_rfl
theorem Nt:typeLookup (.type "list_reverseiterator") "__length_hint__"=pure (some (.builtin "list_reverseiterator.__length_hint__")):=by rw [typeLookup_type,builtinLookup_eq_fast];kernel_rfl
section
variable {prog:Program} {w:World} {A:Around} {E:Value→Shared→Prop} {s:Shared} {it l:Addr} {items:Array Value}
theorem sE (hT:s.TypeIs (.ref it) "list_reverseiterator") {Q:Bool→Shared→Prop} (h:Q false s):wpAny (model prog w) A (Builtin.List.listLengthHint (.ref it)) Q E s:=by
 unfold Builtin.List.listLengthHint
 refine wpAny_bind (wpAny_specialOf hT yy ?_)
 show wpAny _ A (specialOf (Value.ref it) (Str.ofString "__length_hint__") >>= _) _ _ _
 refine wpAny_bind (wpAny_specialOf hT Nt ?_)
 generalize hid:("list_reverseiterator.__length_hint__" : String)=id0
 wp_delta
 rw [show splitId id0=some ("list_reverseiterator","__length_hint__") from by subst hid;decide +kernel]
 subst hid
 refine wpAny_bind (wpAny_isInstance (T := "list_reverseiterator") (b:=true) hT (by rw [isSubtype_type];kernel_rfl) ?_)
 refine wpAny_ite_split (fun hab=>absurd hab (by decide)) (fun _=>?_)
 refine wpAny_ite_split (fun _=>?_) (fun hab=>absurd (by decide +kernel) hab)
 refine wpAny_ite_split (fun hab=>absurd hab (by decide +kernel)) (fun _=>?_)
 exact wpAny_pure h
noncomputable abbrev IK (items:Array Value):Nat→Value→Prop:=fun i v=>items[items.size - 1 - i]? = some v
theorem xx {R:Result→Shared→Prop} (hh:A.handled=none) (hit:s.heap.IsRevIter it l ((items.size:Int) - 1 - ((0:Nat):Int))) (hl:s.heap.IsList l items) (hne:l ≠ it) (S:Addr) (hSi:S ≠ it) (hSl:S ≠ l) (res:Value) (c₀:Nat)
  (hS:s.heap.get? S=some { cls:=.type "list",data:=.seq #[] c₀ }) (hn:items.size ≤ sizeLine)
  (hR:∀ h' tk acc c,(∀ b o,b ≠ S→b ≠ it→s.heap.get? b=some o→h'.get? b=some o)→h'.get? S=some { cls:=.type "list",dict:=none,data:=.seq acc c,slots:=#[] }→ItemsOf (IK items) acc items.size→R (.ok (.ret res)) { s with heap:=h',toks:=tk }) :
  wpAny (model prog w) A.in1 (Builtin.List.listExtendWith (.ref S) (.ref it) res)
   (fun fin s'=>match fin with | .done f=>R (.ok f) s' | .again c'=>c'.quiet=true∧codeAny (model prog w) A c' R s') (fun e s'=>R (.error e) s') s:=by
 unfold Builtin.List.listExtendWith
 refine wpAny_bind (wpAny_typeOf hit.typeIs ?_)
 have h1:Builtin.List.listSameRef (.ref S) (.ref it)=false:=by simp [Builtin.List.listSameRef,hSi]
 have h2:(Value.type "list_reverseiterator" == Value.type "list")=false:=by decide
 have h3:(Value.type "list_reverseiterator" == Value.type "tuple")=false:=by decide
 simp only [h1,h2,h3,Bool.or_false,Bool.false_eq_true,if_false]
 refine wpAny_bind (wpAny_pyIter_revIter hit ?_)
 refine wpAny_bind (wpAny_holding (sE hit.typeIs ?_))
 refine wpAny_ite_split (fun hab=>absurd hab (by decide +kernel)) (fun _=>?_)
 have W:=Walks.listRev (prog:=prog) (w:=w) (A:=A.in1) hh it l hne items
 have hSf:S ∉ [it,l]:=by simp only [List.mem_cons,List.not_mem_nil,or_false,not_or];exact ⟨hSi,hSl⟩
 refine wpAny_pure ⟨plainId_quiet PySem.F.plain_extend_loop _,codeAny_extend_loopS W.toS hn S hSf res items.size 0 s #[] c₀ rfl (Nat.zero_le _) ⟨Nat.zero_le _,hit,hl⟩ hS (ItemsOf.nil _) fun s' acc c hm hS' hacc=>?_⟩
 rw [Moved.eq_with hm]
 refine hR s'.heap s'.toks acc c (fun b o hb hi e=>hm.heap b o (fun hmem=>?_) e) hS' hacc
 rcases List.mem_cons.mp hmem with e' | hmem
 ·exact hb e'
 ·exact hi (List.mem_singleton.mp hmem)
theorem Rr {Q:Value→Shared→Prop} (hh:A.handled=none) (hit:s.heap.IsRevIter it l ((items.size:Int) - 1 - ((0:Nat):Int))) (hl:s.heap.IsList l items) (hne:l ≠ it) (hn:items.size ≤ sizeLine)
  (hQ:∀ h' tk acc c,(∀ b o,b ≠ it→s.heap.get? b=some o→h'.get? b=some o)→h'.get? s.heap.objs.size=some { cls:=.type "list",dict:=none,data:=.seq acc c,slots:=#[] }→ItemsOf (IK items) acc items.size→Q (.ref s.heap.objs.size) { s with heap:=h',toks:=tk }) :
  wpAny (model prog w) A (call (.type "list") [.ref it]) Q E s:=by
 have li:it < s.heap.objs.size:=by obtain ⟨_,e,_⟩:=hit;exact Heap.lt_size e
 have ll:l < s.heap.objs.size:=by obtain ⟨_,e,_⟩:=hl;exact Heap.lt_size e
 refine callType_codes (Q₁:=fun obj s₁=>obj=.ref s.heap.objs.size∧s₁ = { s with heap:=s.heap.push { cls:=.type "list",data:=.seq #[] } }) PySem.F.called_list (PySem.F.typeCall_list_1 _) PySem.F.entry_list_init
  (code_list_new _ ⟨rfl,rfl⟩) fun obj s₁ h₁=>?_
 obtain ⟨rfl,rfl⟩:=h₁
 have hS:(s.heap.push { cls:=.type "list",data:=.seq #[] }).get? s.heap.objs.size=some { cls:=.type "list",data:=.seq #[] }:=Heap.get?_push_size _ rfl
 refine ⟨⟨_,hS,rfl⟩,PySem.F.args_list_init_2 _ _,?_⟩
 show wpAny _ _ (do let old ← Builtin.List.listItems (.ref s.heap.objs.size);Builtin.List.listUpdate (.ref s.heap.objs.size) (fun _=>#[]);letGo old.toList.reverse;Builtin.List.listExtendWith (.ref s.heap.objs.size) (.ref it) .none) _ _ _
 refine wpAny_bind ?_
 unfold Builtin.List.listItems
 refine wpAny_bind (wpAny_seqItems hS rfl (wpAny_pure ?_))
 show wpAny _ _ (updateSeq s.heap.objs.size (fun _=>#[]) >>= fun _=>letGo (#[]:Array Value).toList.reverse >>= fun _=>Builtin.List.listExtendWith (.ref s.heap.objs.size) (.ref it) .none) _ _ _
 refine wpAny_bind (wpAny_updateSeq hS rfl ?_)
 have hS₂:=Heap.get?_update_self (Obj.mapSeq (fun _=>(#[]:Array Value))) hS rfl
 have oth:∀ b o,s.heap.get? b=some o→((s.heap.push { cls:=.type "list",data:=.seq #[] }).update s.heap.objs.size (Obj.mapSeq (fun _=>(#[]:Array Value)))).get? b=some o:=
  fun b o e=>(Heap.get?_update_other _ _ (Ne.symm (Nat.ne_of_lt (Heap.lt_size e)))).trans (Heap.get?_push_of_some _ e)
 refine wpAny_bind (wpAny_letGo ?_)
 refine xx (A:=A.in1) hh (hit.at fun o e=>oth _ o e) (hl.at fun o e=>oth _ o e) hne _ (Ne.symm (Nat.ne_of_lt li)) (Ne.symm (Nat.ne_of_lt ll)) .none _ hS₂ hn fun h' tk acc c hk hS' hacc=>?_
 exact ⟨rfl,hQ h' tk acc c (fun b o hb e=>hk b o (Nat.ne_of_lt (Heap.lt_size e)) hb (oth b o e)) hS' hacc⟩
end
section
variable {X:Cx}
noncomputable def Sw (K:PySem.W.Frag) (ta:TA):TE:=fun σ H Q=>ta σ H fun vs H1=>∃ a xs,vs=[.ref a]∧SqL K H1 a xs∧∀ l,H1 l=none→Q (.ref l) (upd H1 l (.lst xs.reverse))
theorem Am {a:Expr} {ta:TA} {p q pos pos':Pos} (hc:X.calm=true) (hg:Gl X "list") (hm:X.mg "list"=none) (hg':Gl X "reversed") (hm':X.mg "reversed"=none) (ha:PA X [a] ta) (hs:starEach [a] X.env=[(false,eval a X.env)]:=by rfl)
  (hs2:starEach [Expr.Call (.Name "reversed" q) [a] [] pos'] X.env=(false,eval (Expr.Call (.Name "reversed" q) [a] [] pos') X.env) :: starEach [] X.env:=by rfl) :
  PE X (.Call (.Name "list" p) [.Call (.Name "reversed" q) [a] [] pos'] [] pos) (Sw X.K ta):=by
 intro pins s σ H Q I h
 refine wpAny_Call_Name_kw (ol I hg hm Qu ?_)
 refine PyProof.Rows.callWith_type1 ?_ hs2 rfl
 rw [hs2]
 show wpAny _ _ (spliced ((false,eval (Expr.Call (.Name "reversed" q) [a] [] pos') X.env) :: [])) _ _ s
 refine Calls.spliced_cons ?_
 refine Call_ (ol I hg' hm' Us (PyProof.Rows.callWith_type1 (thn (ha pos' pins s σ H _ I h) fun us s1 ⟨vs,H1,I1,r1,q1⟩=>?_) hs rfl))
 obtain ⟨a,xs,e,hq,q⟩:=q1
 subst e
 cases r1 with
 | cons r rr=>
  cases rr
  cases r
  obtain ⟨its,rv,pl,hz⟩:=I1.list hq
  have hl:=rv.length
  have hlt:a < s1.heap.objs.size:=by obtain ⟨_,e,_⟩:=pl.isList;exact Heap.lt_size e
  refine call_reversed_list pl.isList ?_
  refine Calls.spliced_nil ?_
  have hit:(s1.heap.push (revObj a ((its.toArray.size:Int) - 1))).IsRevIter s1.heap.objs.size a ((its.toArray.size:Int) - 1 - ((0:Nat):Int)):=by
   refine ⟨_,Heap.get?_push_size _ rfl,rfl,?_⟩
   simp only [revObj]
   simp
  have kp:∀ b o,s1.heap.get? b=some o→(s1.heap.push (revObj a ((its.toArray.size:Int) - 1))).get? b=some o:=fun b o e=>Heap.get?_push_of_some _ e
  refine Rr (I1.ok.hd hc) hit (pl.isList.at fun o e=>kp _ o e) (Nat.ne_of_lt hlt) (by rw [List.size_toArray];omega) fun h' tk acc c hk e' hacc=>?_
  refine ⟨.ref _,_,I1.laid (o:=.lst xs.reverse) (t':=tk) (fun b u e=>hk b u (Nat.ne_of_lt (Heap.lt_size e)) (kp b u e)) (by rw [Heap.size_push];exact Nat.le_succ _) ⟨by rw [List.length_reverse];omega,acc.toList,c,?_,e'⟩,rfl,q _ (I1.hok.fresh (by rw [Heap.size_push];exact Nat.le_succ _))⟩
  have hv:=Cy (f:=fun i=>xs.getD (xs.length - 1 - i) .non) (fun i v hv=>by
   have hv':its.toArray[its.toArray.size - 1 - i]? = some v:=hv
   rw [List.size_toArray,← hl,List.getElem?_toArray] at hv'
   have hj:=(List.getElem?_eq_some_iff.mp hv').1
   have hx:xs[xs.length - 1 - i]? = some xs[xs.length - 1 - i]:=List.getElem?_eq_getElem (by omega)
   obtain ⟨w,hw,rw'⟩:=rv.get hx
   rw [hv'] at hw
   cases hw
   rw [List.getD_eq_getElem?_getD,hx]
   exact rw') hacc
  have er:(List.range its.toArray.size).map (fun i=>xs.getD (xs.length - 1 - i) .non)=xs.reverse:=by
   rw [List.size_toArray,← hl]
   refine List.ext_getElem (by simp) fun i h1 h2=>?_
   rw [List.getElem_map,List.getElem_range,List.getElem_reverse,List.getD_eq_getElem?_getD,List.getElem?_eq_getElem (by simp at h2;omega)];rfl
  rw [er] at hv
  exact hv
end
section
variable {prog:Program} {w:World} {A:Around} {R:Result→Shared→Prop} {I:Addr} {fp wr:List Addr} {n:Nat} {P:Nat→Value→Prop} {St:Nat→Heap→Prop}
noncomputable def qK (P:Nat→Value→Prop) (bt:Nat→Nat→Bool) (j:Nat) (acc:Array Value):Prop:=(j=0∧acc=#[])∨∃ vb i,j=i + 1∧acc=#[vb,vb]∧P (argBest bt i) vb
theorem cz (W:Walks prog w A.in1 I fp wr n P St) (bt:Nat→Nat→Bool) (hcmp:CmpOf prog w A.in1 .Lt P bt) (S:Addr) (hSf:S ∉ fp) (dv:Value) (kn:Str) :
  ∀ (k j:Nat) (s:Shared) (acc:Array Value) (c:Nat),n - j=k→j ≤ n→St j s.heap→qK P bt j acc →
  s.heap.get? S=some { cls:=.type "list",dict:=none,data:=.seq acc c,slots:=#[] } →
  (∀ v h' tk,(n=0∧v=dv)∨(0 < n∧P (argBest bt (n - 1)) v)→(∀ b o,b ∉ wr→b ≠ S→s.heap.get? b=some o→h'.get? b=some o)→R (.ok (.ret v)) { s with heap:=h',toks:=tk }) →
  codeAny (model prog w) A (.builtin "min.loop" ⟨[.ref I,.none,.ref S],[(kn,dv)]⟩) R s:=by
 have hSw:S ∉ wr:=fun h=>hSf (W.sub _ h)
 have hname:(toString "min" ++ toString ".loop" : String) = "min.loop" := by decide
 intro k
 induction k with
 | zero=>
  intro j s acc c hk hj hst hB hS hR
  have hin:j=n:=by omega
  refine codeAny_builtin PySem.F.entry_min_loop ?_
  rw [Around.under_plainId PySem.F.plain_min_loop _]
  show wpAny _ A.in1 (seqItems? (.ref S) >>= _) _ _ s
  refine wpAny_bind (wpAny_seqItems hS rfl ?_)
  show wpAny _ A.in1 (tryCatch (pyNext (.ref I)) _ >>= _) _ _ s
  refine wpAny_bind (wpAny_tryCatch (W.done s _ _ (hin ▸ hst) fun h' tk hk'=>?_))
  have hS':=hk' S _ hSw hS
  rcases hB with ⟨h0,rfl⟩ | ⟨vb,i,hi,rfl,hP⟩
  ·show wpAny _ A.in1 (rule _ >>= _) _ _ _
   refine wpAny_bind (wpAny_rule (wpAny_pure ?_))
   exact hR dv h' tk (.inl ⟨by omega,rfl⟩) fun b o hbw hbS e=>hk' b o hbw e
  ·show wpAny _ A.in1 (updateSeq S (fun _=>#[]) >>= _) _ _ _
   refine wpAny_bind ?_
   refine wpAny_updateSeq hS' rfl (wpAny_bind (wpAny_letGo (wpAny_pure ?_)))
   refine hR vb _ tk (.inr ⟨by omega,by rw [show n - 1=i by omega];exact hP⟩) fun b o hbw hbS e=>(Heap.get?_update_other _ _ (Ne.symm hbS)).trans (hk' b o hbw e)
 | succ k ih=>
  intro j s acc c hk hj hst hB hS hR
  have hlt:j < n:=by omega
  refine codeAny_builtin PySem.F.entry_min_loop ?_
  rw [Around.under_plainId PySem.F.plain_min_loop _]
  show wpAny _ A.in1 (seqItems? (.ref S) >>= _) _ _ s
  refine wpAny_bind (wpAny_seqItems hS rfl ?_)
  show wpAny _ A.in1 (tryCatch (pyNext (.ref I)) _ >>= _) _ _ s
  refine wpAny_bind (wpAny_tryCatch (W.item j s _ _ hlt hst fun v h' tk hP hst' hk'=>?_))
  have hS':=hk' S _ hSw hS
  have put:∀ h'':Heap,h''=h'.update S (Obj.mapSeq (fun _=>#[v,v]))→St (j + 1) h'':=fun h'' e=>by
   subst e
   exact W.frame _ _ _ hst' fun b hbf o e=>(Heap.get?_update_other _ _ (fun h:S=b=>hSf (by rw [h];exact hbf))).trans e
  rcases hB with ⟨h0,rfl⟩ | ⟨vb,i,hi,rfl,hPb⟩
  ·show wpAny _ A.in1 (updateSeq S (fun _=>#[v,v]) >>= _) _ _ _
   refine wpAny_bind ?_
   refine wpAny_updateSeq hS' rfl ?_
   rw [hname]
   refine wpAny_pure ⟨plainId_quiet PySem.F.plain_min_loop _,ih (j + 1) _ #[v,v] _ (by omega) hlt (put _ rfl) (.inr ⟨v,j,rfl,rfl,by subst h0;exact hP⟩) (Heap.get?_update_self _ hS' rfl) fun v' h'' tk'' hP' hk''=>?_⟩
   exact hR v' h'' tk'' hP' fun b o hbw hbS e=>hk'' b o hbw hbS ((Heap.get?_update_other _ _ (Ne.symm hbS)).trans (hk' b o hbw e))
  ·subst hi
   show wpAny _ A.in1 (tryCatch (holding [v,v] (richCompare .Lt v vb >>= _)) _ >>= _) _ _ _
   refine wpAny_bind (wpAny_tryCatch (wpAny_holding (wpAny_bind (hcmp (i + 1) (argBest bt i) v vb _ _ _ hP hPb ?_))))
   refine wpAny_bind (wpAny_holding (wpAny_truthy_bool ?_))
   refine wpAny_bind (wpAny_letGo (wpAny_pure ?_))
   cases hb:bt (i + 1) (argBest bt i) with
   | true=>
    simp only [if_true]
    refine wpAny_bind ?_
    refine wpAny_updateSeq hS' rfl (wpAny_bind (wpAny_letGo ?_))
    rw [hname]
    refine wpAny_pure ⟨plainId_quiet PySem.F.plain_min_loop _,ih (i + 1 + 1) _ #[v,v] _ (by omega) hlt (put _ rfl) (.inr ⟨v,i + 1,rfl,rfl,by simp only [argBest,hb,if_true];exact hP⟩) (Heap.get?_update_self _ hS' rfl) fun v' h'' tk'' hP' hk''=>?_⟩
    exact hR v' h'' tk'' hP' fun b o hbw hbS e=>hk'' b o hbw hbS ((Heap.get?_update_other _ _ (Ne.symm hbS)).trans (hk' b o hbw e))
   | false=>
    simp only [Bool.false_eq_true,if_false]
    refine wpAny_bind (wpAny_letGo ?_)
    rw [hname]
    refine wpAny_pure ⟨plainId_quiet PySem.F.plain_min_loop _,ih (i + 1 + 1) _ #[vb,vb] c (by omega) hlt hst' (.inr ⟨vb,i + 1,rfl,rfl,by simp only [argBest,hb,Bool.false_eq_true,if_false];exact hPb⟩) hS' fun v' h'' tk'' hP' hk''=>?_⟩
    exact hR v' h'' tk'' hP' fun b o hbw hbS e=>hk'' b o hbw hbS (hk' b o hbw e)
end
section
variable {prog:Program} {w:World} {A:Around} {E:Value→Shared→Prop} {s:Shared}
theorem uB (a d:Value):argsOk "min" ⟨[a],[(Str.ofString "default",d)]⟩:=by unfold argsOk;kernel_rfl
theorem wz {l:Addr} {its:Array Value} {dv:Value} {Q:Value→Shared→Prop} (hh:A.handled=none) (hl:s.heap.IsList l its) (ks:List Int) (hk:its.size=ks.length) (hv:∀ (i:Nat) (v:Value),its[i]? = some v→∃ t,v=Value.int (ks.getD i 0) t)
  (hQ:∀ v h' tk,(ks=[]∧v=dv)∨(∃ m t,ks.min? = some m∧v=.int m t)→(∀ b o,s.heap.get? b=some o→h'.get? b=some o)→Q v { s with heap:=h',toks:=tk }) :
  wpAny (model prog w) A (call (.builtin "min") [.ref l] [(Str.ofString "default",dv)]) Q E s:=by
 have hname:(toString "min" ++ toString ".loop" : String) = "min.loop" := by decide
 have hlt:l < s.heap.objs.size:=by obtain ⟨_,e,_⟩:=hl;exact Heap.lt_size e
 refine wpAny_call (codeAny_call_builtin PySem.F.plain_min PySem.F.entry_min ?_)
 simp only [checkBuiltinCall,PySem.F.kind_min]
 have key:wpAny (model prog w) A.in1 (Builtin.«min» ⟨[.ref l],[(Str.ofString "default",dv)]⟩) (fun fin s'=>match fin with
   | .done f=>(match (Except.ok f:Result) with | .ok (.ret v)=>Q v s' | .ok _=>False | .error e=>E e s')
   | .again c'=>c'.quiet=true∧codeAny (model prog w) A c' (fun r s'=>match r with | .ok (.ret v)=>Q v s' | .ok _=>False | .error e=>E e s') s') E s:=by
  show wpAny _ A.in1 (Builtin.Builtins.bindParams "min" ["key","default"] 0 ⟨[],[(Str.ofString "default",dv)]⟩ >>= _) _ _ s
  refine wpAny_bind (wpAny_of_eq (show Builtin.Builtins.bindParams "min" ["key","default"] 0 ⟨[],[(Str.ofString "default",dv)]⟩=pure [none,some dv] from rfl) ?_)
  refine wpAny_bind (wpAny_pure ?_)
  refine wpAny_bind (wpAny_pyIter_list hl ?_)
  refine wpAny_bind (wpAny_newObj_type ?_)
  rw [hname]
  have W:=Walks.list (prog:=prog) (w:=w) (A:=A.in1) hh s.heap.objs.size l (Nat.ne_of_lt hlt) its
  have hz1:(s.heap.push { cls:=.type "list_iterator",data:=.fields #[.ref l,.int 0 0] }).objs.size=s.heap.objs.size + 1:=Heap.size_push ..
  refine wpAny_pure ⟨plainId_quiet PySem.F.plain_min_loop _,cz W _ (CmpOf.ints_lt (fun i=>ks.getD i 0) fun i v h=>hv i v h) _ ?_ dv _ its.size 0 _ #[] _ rfl (Nat.zero_le _) ?_ (.inl ⟨rfl,rfl⟩) (Heap.get?_push_size _ rfl) fun v h' tk hP hk'=>?_⟩
  ·show (s.heap.push _).objs.size ∉ _
   rw [hz1]
   simp only [List.mem_cons,List.not_mem_nil,or_false,not_or]
   exact ⟨Nat.succ_ne_self _,Ne.symm (Nat.ne_of_lt (Nat.lt_succ_of_lt hlt))⟩
  ·exact W.frame 0 (s.heap.push { cls:=.type "list_iterator",data:=.fields #[.ref l,.int 0 0] }) _ ⟨⟨_,Heap.get?_push_size _ rfl,rfl,rfl⟩,hl.push _⟩ fun b _ o e=>Heap.get?_push_of_some _ e
  ·refine hQ v h' tk ?_ fun b o e=>hk' b o (fun hm=>?_) ?_ (Heap.get?_push_of_some _ (Heap.get?_push_of_some _ e))
   ·rcases hP with ⟨h0,h1⟩ | ⟨h0,h1⟩
    ·exact .inl ⟨List.length_eq_zero_iff.mp (by omega),h1⟩
    ·obtain ⟨t,e⟩:=hv _ v h1
     have hb:=argBest_lt (fun i=>ks.getD i 0) (its.size - 1)
     refine .inr ⟨_,t,?_,e⟩
     rw [List.min?_eq_some_iff]
     have hi:argBest (fun i j=>decide (ks.getD i 0 < ks.getD j 0)) (its.size - 1) < ks.length:=by omega
     refine ⟨?_,fun b hb'=>?_⟩
     ·rw [List.getD_eq_getElem?_getD,List.getElem?_eq_getElem hi]
      exact List.getElem_mem hi
     ·obtain ⟨j,hj,rfl⟩:=List.getElem_of_mem hb'
      have:=hb.2 j (by omega)
      rw [List.getD_eq_getElem?_getD (i:=j),List.getElem?_eq_getElem hj] at this
      exact this
   ·rw [List.mem_singleton.mp hm] at e
    exact absurd (Heap.lt_size e) (Nat.lt_irrefl _)
   ·rw [hz1]
    exact Nat.ne_of_lt (Nat.lt_succ_of_lt (Heap.lt_size e))
 cases hsig:Manifest.signature? "min" with
 | none=>exact wpAny_pure key
 | some sig=>
  have ha:=uB (.ref l) dv
  have ha':Bind.checkArgs "min" sig ⟨[.ref l],[(Str.ofString "default",dv)]⟩=pure ():=by simpa only [argsOk,hsig] using ha
  simp only [ha']
  exact wpAny_pure key
end
section
variable {X:Cx}
noncomputable def fJ (K:PySem.W.Frag) (ta:TA) (td:TE):TE:=fun σ H Q=>ta σ H fun vs H1=>td σ H1 fun y H2=>∃ l ks,vs=[.ref l]∧SqL K H2 l (List.map V.int ks)∧Q (match ks.min? with | some m=>.int m | none=>y) H2
theorem bG {a d:Expr} {ta:TA} {td:TE} {p kp pos:Pos} (hc:X.calm=true) (hg:Gl X "min") (hm:X.mg "min"=none) (ha:PA X [a] ta) (hd:PE X d td)
  (he:∀ pos,backTo pos (starEach [a] X.env)=(false,eval a X.env) :: backTo pos (starEach [] X.env):=by intro _;rfl) (hpl:∀ pos,(backTo pos (starEach [a] X.env)).any (·.1)=false:=by intro _;rfl) :
  PE X (.Call (.Name "min" p) [a] [⟨some "default",d,kp⟩] pos) (fJ X.K ta td):=by
 intro pins s σ H Q I h
 refine wpAny_Call_Name_kw (ol I hg hm (show bootBuiltins "min"=some (.builtin "min") by decide +kernel) ?_)
 refine callWith_kw (id := "min") (thn (ha pos pins s σ H _ I h) fun us s1 ⟨vs,H1,I1,r1,q1⟩=>?_) (he:=he pos) (hplain:=hpl pos)
 refine kws_cons (thn (hd pins s1 σ H1 _ I1 q1) fun v s2 ⟨y,H2,I2,r2,q2⟩=>kws_nil ?_)
 obtain ⟨l,ks,rfl,hq,q⟩:=q2
 cases r1 with
 | cons r rr=>
  cases rr
  cases r
  obtain ⟨its,rv,pl,hz⟩:=I2.list hq
  have hl:=rv.length
  rw [List.length_map] at hl
  refine wz (I2.ok.hd hc) pl.isList ks (by rw [List.size_toArray];omega) (fun i v hv=>?_) fun v' h' tk hv' hk=>⟨_,H2,I2.kept hk,?_,q⟩
  ·rw [List.getElem?_toArray] at hv
   have hi:i < ks.length:=by have:=(List.getElem?_eq_some_iff.mp hv).1;omega
   obtain ⟨w,hw,rw'⟩:=rv.get (show (ks.map V.int)[i]? = some (.int ks[i]) by rw [List.getElem?_map,List.getElem?_eq_getElem hi];rfl)
   rw [hv] at hw
   cases hw
   rw [List.getD_eq_getElem?_getD,List.getElem?_eq_getElem hi]
   exact rw'
  ·rcases hv' with ⟨rfl,rfl⟩ | ⟨m,t,hm,rfl⟩
   ·exact r2
   ·rw [hm];exact ⟨t,rfl⟩
end
end L2
namespace L2
open PySem PySem.Spec PyProof.Rows
structure gN (K:PySem.W.Frag) (C:Addr):Prop where
 x:Aq K C
 ha:PySem.W.findIn K (.ref C) "__class__"=some (some (.builtin "object.__class__"))
 hn:PySem.W.specialIn K (.builtin "object.__class__") "__get__"=some (some (.builtin "getset_descriptor.__get__"))
 htk:PySem.W.takesIn K (.builtin "object.__class__")=some true
 hm:PySem.W.mroIn K C (.type "object")=some true
section
variable {prog:Program} {w:World} {A:Around} {E:Value→Shared→Prop} {s:Shared} {K:PySem.W.Frag} {x C:Addr} {od:Obj} {dx:Addr} {vs:Array Value} {sl:Array (Option Value)}
end
noncomputable def KM (K:PySem.W.Frag) (neg:Bool):R2:=fun x y H Q=>∃ p qs f,y=.ref p∧SqL K H p (List.map V.ref qs)∧(∀ q ∈ qs,EqH K H 8 (.ref q) x (f q))∧Q (.bl (if neg then !(qs.any f) else qs.any f)) H
section
variable {X:Cx}
end
theorem Bb.quiet {P:Program} {w:World} {K:PySem.W.Frag} {mg:Str→Option Value} {base:Heap} {k:Nat} {f:Addr} {fd:FuncData} {ps:List Str} {sp sp':Sp} (F:Bb P w K mg base (CX1 P w) k f fd ps sp)
  (h:∀ vs H Q E,sp' vs H Q E→sp vs H Q (fun _ _ _=>False)):Bb P w K mg base CX0 k f fd ps sp':=by
 refine ⟨fun vs H Q E q=>F.len vs H _ _ (h vs H Q E q),fun A outer s H args us vs Q E hr he hb hv hs=>?_⟩
 refine codeAny_mono (F.run A outer s H args us vs Q _ hr he hb hv (h vs H Q E hs)) fun r s' hq=>?_
 cases r with
 | error e=>
  obtain ⟨x,C,od,H',T,_,_,_,_,_,_,_,_,_,z⟩:=hq
  exact z.elim
 | ok fl=>cases fl <;> exact hq
end L2
namespace L2
open PySem PySem.Spec PyProof.Rows
structure jm (k:Nat) (A:Around):Prop where
 dp:A.depth + 3 * k + 5 < recursionLimit
 un:A.units + 16 * k + 200 < cLine
theorem Ih.h {k:Nat} {A:Around} (r:Ih k A):jm k A:=⟨r.dp,r.un⟩
theorem jm.mono {j k:Nat} {A:Around} (r:jm k A) (h:j ≤ k):jm j A:=⟨by have:=r.dp;omega,by have:=r.un;omega⟩
theorem jm.deeper {k:Nat} {A:Around} (r:jm (k + 1) A) (env:Env):jm k (A.deeper env):=
 ⟨by have:=r.dp;show A.depth + 1 + 3 * k + 5 < _;omega,by have:=r.un;show A.units + 3 + 16 * k + 200 < _;omega⟩
theorem jm.depth {k:Nat} {A:Around} (r:jm k A):A.depth < recursionLimit:=by have:=r.dp;omega
theorem jm.units {k:Nat} {A:Around} (r:jm k A):A.units + 64 < cLine:=by have:=r.un;omega
theorem Ih.hn {k:Nat} {X:Cx} {e:Value} (r:Ih k X.A):jm k (X.hn e).A:=⟨r.dp,r.un⟩
structure lG (P:Program) (w:World) (K:PySem.W.Frag) (mg:Str→Option Value) (base:Heap) (CX:CXT) (k:Nat) (f:Addr) (fd:FuncData) (ps:List Str) (sp:Sp):Prop where
 len:∀ vs H Q E,sp vs H Q E→vs.length=ps.length
 run:∀ (A:Around) (outer:List Env) (s:Shared) (H:Hp) (args:Args) (us:List Value) (vs:List V) (Q:VK) (E:XK),jm k A→QA P w K mg base A outer s H→BindsTo s fd args (ps.zip us)→Kc vs us→sp vs H Q E →
  codeAny (model P w) A (.call (.ref f) args) (CR CX outer P w H s Q E) s
theorem lG.mono {P:Program} {w:World} {K:PySem.W.Frag} {mg:Str→Option Value} {base:Heap} {CX:CXT} {j k:Nat} {f:Addr} {fd:FuncData} {ps:List Str} {sp:Sp} (F:lG P w K mg base CX j f fd ps sp) (h:j ≤ k) :
  lG P w K mg base CX k f fd ps sp:=⟨F.len,fun A outer s H args us vs Q E hr=>F.run A outer s H args us vs Q E (hr.mono h)⟩
section
variable {X:Cx} {CX:CXT} {k:Nat} {f C:Addr} {fd:FuncData} {ps:List Str} {sp:Sp} {dvs:List V} {ds:List Value} {E:XK} {x m:Str} {p pos apos:Pos} {e o:Expr} {es:List Expr} {ta:TE} {t:TA}
end
noncomputable def jL (CX:CXT) (P:Program) (w:World) (K:PySem.W.Frag) (mg:Str→Option Value) (base:Heap) (N:List Str) (qual:Str) (scope:Scope) (f:Addr) (cd:Value) (A:Around) (outer:List Env) (s:Shared) (H:Hp) (E:XK):Cx where
 prog:=P
 w:=w
 K:=K
 mg:=mg
 base:=base
 A:=A.deeper (envOfC qual scope s.heap.objs.size f cd)
 N:=N
 s₀:=s
 H₀:=H
 env:=envOfC qual scope s.heap.objs.size f cd
 outer:=outer
 stack:=envOfC qual scope s.heap.objs.size f cd :: outer
 ex:=[]
 calm:=false
 fn:=fun _=>true
 pn:=[]
 xe:=fun e s'=>wpAny (model P w) (A.deeper (envOfC qual scope s.heap.objs.size f cd)) (leaving (envOfC qual scope s.heap.objs.size f cd) e) (fun _ s''=>CX outer H s E e s'') (fun e' s''=>CX outer H s E e' s'') s'
section
variable {P:Program} {w:World} {K:PySem.W.Frag} {mg:Str→Option Value} {base:Heap}
end
end L2
namespace L2
open PySem PySem.Spec PyProof.Rows
section
variable {X:Cx}
end
end L2
namespace L2
open PySem PySem.Spec PyProof.Rows
section
variable {α:Type} {M:List α→Prop}
theorem us1 (h:∀ a,M [a]):∀ us:List α,us.length=1→M us | [a],_=>h a
theorem us2 (h:∀ a b,M [a,b]):∀ us:List α,us.length=2→M us | [a,b],_=>h a b
theorem us3 (h:∀ a b c,M [a,b,c]):∀ us:List α,us.length=3→M us | [a,b,c],_=>h a b c
theorem us4 (h:∀ a b c d,M [a,b,c,d]):∀ us:List α,us.length=4→M us | [a,b,c,d],_=>h a b c d
theorem us5 (h:∀ a b c d e,M [a,b,c,d,e]):∀ us:List α,us.length=5→M us | [a,b,c,d,e],_=>h a b c d e
theorem us7 (h:∀ a b c d e f g,M [a,b,c,d,e,f,g]):∀ us:List α,us.length=7→M us | [a,b,c,d,e,f,g],_=>h a b c d e f g
theorem us8 (h:∀ a b c d e f g i,M [a,b,c,d,e,f,g,i]):∀ us:List α,us.length=8→M us | [a,b,c,d,e,f,g,i],_=>h a b c d e f g i
end
structure XB (K:PySem.W.Frag) (C:Addr):Prop where
 hd:PySem.W.hasDictIn K C=true
 ov:((PySem.W.clsIn K C).any fun cd=>Kz cd.mro)=true
 sa:PySem.W.findIn K (.ref C) "__setattr__"=some (some (.builtin "object.__setattr__"))
 ga:PySem.W.findIn K (.ref C) "__getattribute__"=some (some (.builtin "BaseException.__getattribute__"))
 gt:PySem.W.findIn K (.ref C) "__getattr__"=some none
theorem Bs {K:PySem.W.Frag} {C f:Addr} (b:XB K C) (m:MkX K C f):Aq K C:=⟨b.hd,b.ov,b.sa,b.ga,b.gt,_,m.e⟩
structure IB (K:PySem.W.Frag) (C:Addr):Prop where
 ha:PySem.W.findIn K (.ref C) "__class__"=some (some (.builtin "object.__class__"))
 hn:PySem.W.specialIn K (.builtin "object.__class__") "__get__"=some (some (.builtin "getset_descriptor.__get__"))
 htk:PySem.W.takesIn K (.builtin "object.__class__")=some true
 hm:PySem.W.mroIn K C (.type "object")=some true
theorem mJ {K:PySem.W.Frag} {C f:Addr} (i:PySem.W.isFn K (.ref f)=true) (e:Gq K C f=true) (k:PySem.W.keepIn K (.ref C)=true):MkX K C f:=⟨e,beq_iff_eq.mp i,k⟩
end L2
namespace L2
open PySem PySem.Spec PyProof.Rows
theorem Px {ks:List Int}:∀ {its:List Value},Kc (ks.map V.int) its→∃ xs:List (Int × Tok),its=xs.map (fun p=>Value.int p.1 p.2)∧xs.map (·.1)=ks:=by
 induction ks with
 | nil=>intro its r;cases r;exact ⟨[],rfl,rfl⟩
 | cons k ks ih=>
  intro its r
  cases r with
  | cons h t=>
   obtain ⟨xs,e1,e2⟩:=ih t
   obtain ⟨tk,rfl⟩:=(show ∃ t,_=Value.int k t from h)
   exact ⟨(k,tk) :: xs,by rw [List.map_cons,← e1],by rw [List.map_cons,e2]⟩
section
variable {X:Cx}
theorem UA (hc:X.calm=true):Rn X (.builtin "max") (fun xs H Q=>∃ l ks m,xs=[.ref l]∧SqL X.K H l (List.map V.int ks)∧(m ∈ ks∧∀ k ∈ ks,k ≤ m)∧Q (.int m) H):=by
 intro pins s σ H xs us Q I r h
 obtain ⟨l,ks,m,rfl,hq,hm,q⟩:=h
 obtain ⟨u,rfl,ru⟩:=zu r
 cases ru
 obtain ⟨its,rv,pl,hz⟩:=I.list hq
 obtain ⟨xs,e1,e2⟩:=Px rv
 have hil:its.toArray=intItems xs.toArray:=by rw [e1];unfold intItems;simp
 have hls:s.heap.IsList l (intItems xs.toArray):=by rw [← hil];exact pl.isList
 have hxl:xs.length=ks.length:=by rw [← e2,List.length_map]
 have hne:0 < xs.toArray.size:=by
  rw [List.size_toArray,hxl]
  exact List.length_pos_of_mem hm.1
 refine max_intList (I.ok.hd hc) hls hne fun v h' tk hv hk=>⟨.int m,H,I.kept hk,?_,q⟩
 obtain ⟨tv,rfl⟩:=intItems_at hv
 refine ⟨tv,?_⟩
 have hb:=argBest_gt (numAt xs.toArray) (xs.toArray.size - 1)
 generalize argBest (fun i j=>decide (numAt xs.toArray i > numAt xs.toArray j)) (xs.toArray.size - 1)=j at hb ⊢
 have hn:∀ i,i < ks.length→ks[i]? = some (numAt xs.toArray i):=fun i hi=>by
  rw [numAt_eq,List.getD_eq_getElem?_getD]
  show ks[i]? = some (((xs.map (·.1))[i]?).getD 0)
  rw [e2,List.getElem?_eq_getElem hi];rfl
 rw [List.size_toArray] at hb hne
 have h1:=hm.2 _ (List.mem_of_getElem? (hn j (by omega)))
 obtain ⟨i,hi⟩:=List.getElem?_of_mem hm.1
 have hil:i < ks.length:=(List.getElem?_eq_some_iff.mp hi).1
 have h2:=hb.2 i (by omega)
 have h3:m=numAt xs.toArray i:=Option.some.inj (hi.symm.trans (hn i hil))
 rw [show numAt xs.toArray j=m by omega]
noncomputable def Py (K:PySem.W.Frag):V→List V→Hp→VK→Prop:=fun x vs H Q=>∃ l ks k,x=.ref l∧vs=[.int k]∧SqL K H l (List.map V.int ks)∧k ∈ ks∧ks.length ≤ 1000∧Q (.int (ks.idxOf k:Nat)) H
theorem kB:MtR X "list.index" (Py X.K):=by
 intro pins s σ H x xs v us Q I rx rv h
 obtain ⟨l,ks,k,rfl,rfl,hq,hk,hl,q⟩:=h
 cases (show v=Value.ref l from rx)
 obtain ⟨u,rfl,ru⟩:=zu rv
 obtain ⟨tu,rfl⟩:=(show ∃ t,u=Value.int k t from ru)
 obtain ⟨its,ri,pl,hz⟩:=I.list hq
 have hi:=Dy ri
 have hlen:=hi.length
 have hj:ks.idxOf k < ks.length:=List.idxOf_lt_length_iff.mpr hk
 obtain ⟨⟨cls,dd,data,sl⟩,ho,hc,n,hd⟩:=id pl.isList
 simp only at hc hd
 subst hc hd
 refine call_meets PySem.F.slot_list_index ⟨_,ho,rfl⟩ PySem.F.entry_list_index (PySem.F.args_list_index_2 _ _)
  (PySem.SeqAt.list_indexAt l its.toArray n dd sl (.int k tu) (isInt k) (ks.idxOf k) (by simpa [hlen] using hj) (by omega) ?_ ?_) ⟨ho,fun y hy=>(eq_isInt k tu hi y (by simpa using hy)).at _ _,.int _,H,I.tok _,⟨_,rfl⟩,q⟩
 ·show isInt k its[ks.idxOf k]=true
  rw [isInt_at k hi _ (by omega) hj]
  simpa using List.getElem_idxOf hj
 ·intro j hjs hlt
  show isInt k its[j]=false
  rw [isInt_at k hi j (by simpa using hjs) (by omega)]
  exact ne_of_lt_idxOf hlt _
end
end L2
namespace L2
open PySem PySem.Spec PyProof.Rows
theorem MH (i:Nat) (σ:St) (H:Hp) (Q:VK):NL i σ H Q=(∃ v,σ[i]? = some (some v)∧Q v H):=rfl
theorem DL (v:V) (x_0:St) (H:Hp) (Q:VK):tC v x_0 H Q=(Q v H):=rfl
theorem ZF (ta tb:TE) (σ:St) (H:Hp) (Q:VK):CM ta tb σ H Q=(t2I ta tb (fun i j H2=>Q (.int (i + j)) H2) σ H):=rfl
theorem ZG (ta tb:TE) (σ:St) (H:Hp) (Q:VK):LM ta tb σ H Q=(t2I ta tb (fun i j H2=>Q (.int (i - j)) H2) σ H):=rfl
theorem PH (ta tb:TE) (σ:St) (H:Hp) (Q:VK):vM ta tb σ H Q=(t2I ta tb (fun i j H2=>(-(2 ^ 64) < i∧i < 2 ^ 64)∧Q (.int (i * j)) H2) σ H):=rfl
theorem dH (p:Int→Int→Bool) (ta tb:TE) (σ:St) (H:Hp) (Q:VK):dN p ta tb σ H Q=(t2I ta tb (fun i j H2=>Q (.bl (p i j)) H2) σ H):=rfl
theorem xH (ta:TE) (σ:St) (H:Hp) (Q:VK):NM ta σ H Q=(ta σ H fun x H1=>Q (.bl (decide (x=.non))) H1):=rfl
theorem HC (ta:TE) (σ:St) (H:Hp) (Q:VK):eL ta σ H Q=(ta σ H fun x H1=>Q (.bl (!decide (x=.non))) H1):=rfl
theorem HL (t:TE) (σ:St) (H:Hp) (Q:(Bool→Hp→Prop)):tB t σ H Q=(t σ H fun x H1=>∃ c,x=.bl c∧Q c H1):=rfl
theorem zG (t u:TT) (σ:St) (H:Hp) (Q:(Bool→Hp→Prop)):fM t u σ H Q=(t σ H fun c H1=>if c=true then u σ H1 Q else Q false H1):=rfl
theorem jK (t u:TT) (σ:St) (H:Hp) (Q:(Bool→Hp→Prop)):tOr t u σ H Q=(t σ H fun c H1=>if c=true then Q true H1 else u σ H1 Q):=rfl
theorem LH (t:TT) (σ:St) (H:Hp) (Q:(Bool→Hp→Prop)):jM t σ H Q=(t σ H fun c H1=>Q (!c) H1):=rfl
theorem zC (ta tb:TE) (σ:St) (H:Hp) (Q:VK):GK ta tb σ H Q=(ta σ H fun x H1=>∃ c,x=.bl c∧if c=true then tb σ H1 Q else Q (.bl false) H1):=rfl
theorem FH (ta tb:TE) (σ:St) (H:Hp) (Q:VK):sM ta tb σ H Q=(ta σ H fun x H1=>∃ c,x=.bl c∧if c=true then Q (.bl true) H1 else tb σ H1 Q):=rfl
theorem qD (ta:TE) (σ:St) (H:Hp) (Q:VK):vJ ta σ H Q=(ta σ H fun x H1=>∃ c,x=.bl c∧Q (.bl (!c)) H1):=rfl
theorem yI (t:TT) (ta tb:TE) (σ:St) (H:Hp) (Q:VK):tIf t ta tb σ H Q=(t σ H fun c H1=>if c=true then ta σ H1 Q else tb σ H1 Q):=rfl
theorem Yv (D:Uf) (σ:St) (H:Hp):QJ  D σ H=(D.nx σ H):=rfl
theorem Tb (t u:TS) (D:Uf) (σ:St) (H:Hp):XL t u D σ H=(t { D with nx:=u D } σ H):=rfl
theorem qz (D:Uf) (σ:St) (H:Hp):VJ  D σ H=(D.bk σ H):=rfl
theorem OC (D:Uf) (σ:St) (H:Hp):vL  D σ H=(D.ct σ H):=rfl
theorem RD (te:TE) (D:Uf) (σ:St) (H:Hp):RI te D σ H=(te σ H fun _ H1=>D.nx σ H1):=rfl
theorem QH (te:TE) (D:Uf) (σ:St) (H:Hp):pL te D σ H=(te σ H D.rt):=rfl
theorem eD (D:Uf) (x_1:St) (H:Hp):CL  D x_1 H=(D.rt .non H):=rfl
theorem Qy (x_0:Uf) (x_1:St) (x_2:Hp):BF  x_0 x_1 x_2=(False):=rfl
theorem ef (i:Nat) (v:V) (σ:St) (H:Hp) (Q:(St→Hp→Prop)):xu i v σ H Q=(Q (σ.set i (some v)) H):=rfl
theorem iG (vs:List V) (σ:St) (H:Hp) (Q:(St→Hp→Prop)):PK  vs σ H Q=(vs=[]∧Q σ H):=rfl
theorem UD (t:TG) (u:TGs) (vs:List V) (σ:St) (H:Hp) (Q:(St→Hp→Prop)):kx t u vs σ H Q=(∃ v r,vs=v :: r∧t v σ H fun σ' H'=>u r σ' H' Q):=rfl
theorem IG (K:PySem.W.Frag) (n:Nat) (t:TGs) (v:V) (σ:St) (H:Hp) (Q:(St→Hp→Prop)):AK K n t v σ H Q=(∃ a xs,v=.ref a∧SqT K H a xs∧xs.length=n∧t xs σ H Q):=rfl
theorem tG (to ti:TE) (t:kI) (v:V) (σ:St) (H:Hp) (Q:(St→Hp→Prop)):ZL to ti t v σ H Q=(to σ H fun o H1=>ti σ H1 fun i H2=>t o i v H2 fun H3=>Q σ H3):=rfl
theorem hG (te:TE) (g:TG) (D:Uf) (σ:St) (H:Hp):RK te g D σ H=(te σ H fun x H1=>g x σ H1 D.nx):=rfl
theorem qH (i j:Nat) (ta:TA) (D:Uf) (σ:St) (H:Hp):XM i j ta D σ H=(ta σ H fun vs H1=>∃ v w,vs=[v,w]∧D.nx ((σ.set i (some v)).set j (some w)) H1):=rfl
theorem RH (i:Nat) (te:TE) (ti:TIp) (D:Uf) (σ:St) (H:Hp):yM i te ti D σ H=(∃ x,σ[i]? = some (some x)∧te σ H fun y H1=>ti x y H1 fun z H2=>D.nx (σ.set i (some z)) H2):=rfl
theorem FD (to ti te:TE) (tget:V→V→Hp→VK→Prop) (tip:TIp) (tset:kI) (D:Uf) (σ:St) (H:Hp):bL to ti te tget tip tset D σ H=(to σ H fun o H1=>ti σ H1 fun i H2=>tget o i H2 fun x H3=>te σ H3 fun y H4=>tip x y H4 fun z H5=>tset o i z H5 fun H6=>D.nx σ H6):=rfl
theorem wD (K:PySem.W.Frag) (tl:TE) (σ:St) (H:Hp) (R:(It→Hp→Prop)):FK K tl σ H R=(tl σ H fun x H1=>∃ a,x=.ref a∧(∃ xs,SqL K H1 a xs)∧R (Itl K a) H1):=rfl
theorem GH (K:PySem.W.Frag) (tl:TE) (σ:St) (H:Hp) (R:(It→Hp→Prop)):bN K tl σ H R=(tl σ H fun x H1=>∃ a,x=.ref a∧(∃ xs,SqT K H1 a xs)∧R (Itt K a) H1):=rfl
theorem IJ (r:R2) (ta tb:TE) (σ:St) (H:Hp) (Q:VK):tOp r ta tb σ H Q=(ta σ H fun x H1=>tb σ H1 fun y H2=>r x y H2 Q):=rfl
theorem zI (r:V→Hp→VK→Prop) (ta:TE) (σ:St) (H:Hp) (Q:VK):tUn r ta σ H Q=(ta σ H fun x H1=>r x H1 Q):=rfl
theorem gL (C:Int→Int→Prop) (g:Int→Int→V) (x:V) (y:V) (H:Hp) (Q:VK):rI C g x y H Q=(∃ i j,x=.int i∧y=.int j∧C i j∧Q (g i j) H):=rfl
theorem ZI (g:Int→Int→V) (x:V) (y:V) (H:Hp) (Q:VK):rI0 g x y H Q=(∃ i j,x=.int i∧y=.int j∧Q (g i j) H):=rfl
theorem dL (g:Int→V) (x:V) (H:Hp) (Q:VK):rU g x H Q=(∃ i,x=.int i∧Q (g i) H):=rfl
theorem sI (x:V) (y:V) (H:Hp) (Q:VK):rEq  x y H Q=(HI x y=true∧Q (.bl (decide (x=y))) H):=rfl
theorem EK (x:V) (y:V) (H:Hp) (Q:VK):rNe  x y H Q=(HI x y=true∧Q (.bl (!decide (x=y))) H):=rfl
theorem HD (t:TE) (σ:St) (H:Hp) (Q:(Bool→Hp→Prop)):qI t σ H Q=(t σ H fun x H'=>∃ k,x=.bl k∧Q k H'):=rfl
theorem Gz (r r':R2) (ta tb tc:TE) (σ:St) (H:Hp) (Q:VK):jJ r r' ta tb tc σ H Q=(ta σ H fun x H1=>tb σ H1 fun y H2=>r x y H2 fun z H3=>∃ k,z=.bl k ∧
 (if k=true then tc σ H3 fun w' H4=>r' y w' H4 Q else Q (.bl false) H3)):=rfl
theorem PF (K:PySem.W.Frag) (ta:TE) (f:Str) (σ:St) (H:Hp) (Q:VK):BM K ta f σ H Q=(ta σ H fun x H1=>∃ a C dx fs v u,x=.ref a∧H1 a=some (.ins C dx fs)∧Cls K C∧Con K C f v u∧fs.lookup f=none∧Q v H1):=rfl
theorem qG (K:PySem.W.Frag) (ta tv:TE) (f:Str) (D:Uf) (σ:St) (H:Hp):VL K ta tv f D σ H=(tv σ H fun y H1=>ta σ H1 fun x H2=>∃ a C dx fs,x=.ref a∧H2 a=some (.ins C dx fs)∧Cls K C∧zb K C f∧fs.length < 1000 ∧
 D.nx σ (upd H2 a (.ins C dx (ag f y fs)))):=rfl
theorem Ex (K:PySem.W.Frag) (ta tv:TE) (rd:V→V→Hp→VK→Prop) (f:Str) (D:Uf) (σ:St) (H:Hp):zz K ta tv rd f D σ H=(ta σ H fun x H1=>∃ a C dx fs v,x=.ref a∧H1 a=some (.ins C dx fs)∧Cls K C∧zb K C f∧fs.lookup f=some v ∧
 tv σ H1 fun y H2=>rd v y H2 fun z H3=>∃ dx' fs',H3 a=some (.ins C dx' fs')∧fs'.length < 1000∧D.nx σ (upd H3 a (.ins C dx' (ag f z fs')))):=rfl
theorem dI (x:V) (y:V) (H:Hp) (Q:VK):PL  x y H Q=(∃ i j,x=.int i∧y=.int j∧Q (.int (i + j)) H):=rfl
theorem EG (x:V) (y:V) (H:Hp) (Q:VK):EM  x y H Q=(∃ i j,x=.int i∧y=.int j∧Q (.int (i - j)) H):=rfl
theorem FG (x_0:St) (H:Hp) (Q:(List V→Hp→Prop)):QK  x_0 H Q=(Q [] H):=rfl
theorem iD (ta:TE) (tr:TA) (σ:St) (H:Hp) (Q:(List V→Hp→Prop)):aJ ta tr σ H Q=(ta σ H fun x H1=>tr σ H1 fun xs H2=>Q (x :: xs) H2):=rfl
theorem CG (t:TA) (σ:St) (H:Hp) (Q:VK):mM t σ H Q=(t σ H fun xs H1=>xs.length ≤ sizeLine∧∀ p,H1 p=none→Q (.ref p) (upd H1 p (.tup xs))):=rfl
theorem cI (t:TA) (σ:St) (H:Hp) (Q:VK):rM t σ H Q=(t σ H fun xs H1=>xs.length ≤ sizeLine∧∀ p,H1 p=none→Q (.ref p) (upd H1 p (.lst xs))):=rfl
theorem JD (sp:Sp) (dvs:List V) (E:XK) (t:TA) (σ:St) (H:Hp) (Q:VK):JH sp dvs E t σ H Q=(t σ H fun vs H1=>sp (vs ++ dvs) H1 Q E):=rfl
theorem bE (C:Addr) (m:Str) (sp:Sp) (dvs:List V) (E:XK) (ta:TE) (t:TA) (σ:St) (H:Hp) (Q:VK):KG C m sp dvs E ta t σ H Q=(ta σ H fun x H1=>∃ a dx fs,x=.ref a∧H1 a=some (.ins C dx fs)∧fs.lookup m=none ∧
 t σ H1 fun vs H2=>sp (x :: (vs ++ dvs)) H2 Q E):=rfl
theorem mE (C:Addr) (sp:Sp) (dvs:List V) (E:XK) (t:TA) (σ:St) (H:Hp) (Q:VK):CK C sp dvs E t σ H Q=(t σ H fun vs H1=>∀ x dx,H1 x=none→H1 dx=none→dx ≠ x →
 sp (.ref x :: (vs ++ dvs)) (upd (upd H1 dx (.own x)) x (.ins C dx [])) (fun v H2=>v=.non∧Q (.ref x) H2) E):=rfl
theorem jA (sp:Sp) (gV:List V→List V→List V) (E:XK) (t tk:TA) (σ:St) (H:Hp) (Q:VK):nI sp gV E t tk σ H Q=(t σ H fun vs H1=>tk σ H1 fun zs H2=>sp (gV vs zs) H2 Q E):=rfl
theorem WJ (r:List V→Hp→VK→Prop) (t:TA) (σ:St) (H:Hp) (Q:VK):tCB r t σ H Q=(t σ H fun vs H1=>r vs H1 Q):=rfl
theorem ux (x_0:St) (H:Hp) (Q:(Option Int→Hp→Prop)):CA  x_0 H Q=(Q none H):=rfl
theorem eE (t:TE) (σ:St) (H:Hp) (Q:(Option Int→Hp→Prop)):HJ t σ H Q=(t σ H fun x H1=>∃ i,x=.int i∧Q (some i) H1):=rfl
theorem VI (r:V→Option Int→Option Int→Hp→VK→Prop) (te:TE) (tl th:TO) (σ:St) (H:Hp) (Q:VK):tSl r te tl th σ H Q=(te σ H fun x H1=>tl σ H1 fun l H2=>th σ H2 fun u H3=>r x l u H3 Q):=rfl
theorem fH (K:PySem.W.Frag) (x:V) (lo:Option Int) (hi:Option Int) (H:Hp) (Q:VK):FM K x lo hi H Q=(∃ a xs,x=.ref a∧SqT K H a xs ∧
 ¬ (HT.sIx xs.length 0 lo=0∧HT.sIx xs.length xs.length hi=xs.length)∧∀ p,H p=none→Q (.ref p) (upd H p (.tup (tE xs lo hi)))):=rfl
theorem ZH (K:PySem.W.Frag) (x:V) (y:V) (H:Hp) (Q:VK):YM K x y H Q=(∃ a b ns ms,x=.ref a∧y=.ref b∧SqT K H a (ns.map V.int)∧SqT K H b (ms.map V.int)∧Q (.bl (HT.lexLt ns ms)) H):=rfl
theorem gD (K:PySem.W.Frag) (x:V) (y:V) (H:Hp) (Q:VK):GL K x y H Q=(∃ a b xs ys,x=.ref a∧y=.ref b∧SqT K H a xs∧SqT K H b ys∧xs ≠ []∧xs.length + ys.length ≤ sizeLine ∧
 (ys=[]→Q (.ref a) H)∧(ys ≠ []→∀ p,H p=none→Q (.ref p) (upd H p (.tup (xs ++ ys))))):=rfl
theorem AG (K:PySem.W.Frag) (x:V) (y:V) (H:Hp) (Q:VK):YK K x y H Q=(∃ p xs i v,x=.ref p∧y=.int i∧SqL K H p xs∧atI xs i=some v∧Q v H):=rfl
theorem BG (K:PySem.W.Frag) (x:V) (y:V) (H:Hp) (Q:VK):UK K x y H Q=(∃ p xs i v,x=.ref p∧y=.int i∧SqT K H p xs∧atI xs i=some v∧Q v H):=rfl
theorem KF (x:V) (y:V) (H:Hp) (Q:VK):MK  x y H Q=(∃ z i c,x=.str z∧y=.int i∧z.length ≤ sizeLine∧atI z.cps.toList i=some c∧Q (.str ⟨#[c]⟩) H):=rfl
theorem DJ (K:PySem.W.Frag) (x:V) (y:V) (H:Hp) (Q:VK):rIx K x y H Q=(YK K x y H Q∨UK K x y H Q∨MK x y H Q):=rfl
theorem QC (o:V) (i:V) (v:V) (H:Hp) (Q:(Hp→Prop)):uK  o i v H Q=(∃ p xs k j,o=.ref p∧i=.int k∧H p=some (.lst xs)∧ixN xs.length k=some j∧Q (upd H p (.lst (xs.set j v)))):=rfl
theorem pG (K:PySem.W.Frag) (x:V) (lo:Option Int) (hi:Option Int) (H:Hp) (Q:VK):aM K x lo hi H Q=(∃ a xs,x=.ref a∧SqL K H a xs∧∀ p,H p=none→Q (.ref p) (upd H p (.lst (tE xs lo hi)))):=rfl
theorem NI (K:PySem.W.Frag) (neg:Bool) (x:V) (y:V) (H:Hp) (Q:VK):rIn K neg x y H Q=(∃ p xs,y=.ref p∧(SqL K H p xs∨SqT K H p xs)∧Ak x=true∧xs.all Ak=true∧Q (.bl (if neg then !inV x xs else inV x xs)) H):=rfl
theorem iH (K:PySem.W.Frag) (T:String) (r:V→List V→Hp→VK→Prop) (to:TE) (σ:St) (H:Hp) (Q:VK):VM K T r to σ H Q=(to σ H fun x H1=>tyV K T x H1∧r x [] H1 Q):=rfl
theorem JJ (K:PySem.W.Frag) (T:String) (r:V→List V→Hp→VK→Prop) (to:TE) (t:TA) (σ:St) (H:Hp) (Q:VK):tBM K T r to t σ H Q=(to σ H fun x H1=>tyV K T x H1∧t σ H1 fun xs H2=>r x xs H2 Q):=rfl
theorem xy (x:V) (vs:List V) (H:Hp) (Q:VK):gB  x vs H Q=(∃ l xs y,x=.ref l∧vs=[y]∧H l=some (.lst xs)∧xs.length < sizeLine∧Q .non (upd H l (.lst (xs ++ [y])))):=rfl
theorem sy (x:V) (vs:List V) (H:Hp) (Q:VK):DH  x vs H Q=(∃ l b xs zs,x=.ref l∧vs=[.ref b]∧H l=some (.lst xs)∧H b=some (.lst zs)∧xs.length + zs.length ≤ sizeLine∧Q .non (upd H l (.lst (xs ++ zs)))):=rfl
theorem uH (x:V) (vs:List V) (H:Hp) (Q:VK):UM  x vs H Q=(∃ l xs y,x=.ref l∧vs=[]∧H l=some (.lst xs)∧xs[xs.length - 1]? = some y∧Q y (upd H l (.lst xs.dropLast))):=rfl
theorem Bz (x:V) (vs:List V) (H:Hp) (Q:VK):CJ  x vs H Q=(∃ l xs i k y,x=.ref l∧vs=[.int i]∧H l=some (.lst xs)∧-(2 ^ 63) ≤ i∧i < 2 ^ 63∧seqIndex? i xs.length=some k∧xs[k]? = some y∧Q y (upd H l (.lst (xs.eraseIdx k)))):=rfl
theorem Ov (x:V) (vs:List V) (H:Hp) (Q:VK):aE  x vs H Q=(∃ l xs,x=.ref l∧vs=[]∧H l=some (.lst xs)∧Q .non (upd H l (.lst xs.reverse))):=rfl
theorem jB (x:V) (vs:List V) (H:Hp) (Q:VK):cK  x vs H Q=(∃ l xs,x=.ref l∧vs=[]∧H l=some (.lst xs)∧Q .non (upd H l (.lst []))):=rfl
theorem SF (x:V) (y:V) (H:Hp) (Q:VK):QL  x y H Q=(∃ l b xs zs,x=.ref l∧y=.ref b∧H l=some (.lst xs)∧H b=some (.lst zs)∧xs.length + zs.length ≤ sizeLine∧∀ p,H p=none→Q (.ref p) (upd H p (.lst (xs ++ zs)))):=rfl
theorem cH (x:V) (y:V) (H:Hp) (Q:VK):IM  x y H Q=(∃ l k xs,x=.ref l∧y=.int k∧H l=some (.lst xs)∧-(2 ^ 63) ≤ k∧k < 2 ^ 63∧xs.length * k.toNat ≤ sizeLine ∧
 ∀ p,H p=none→Q (.ref p) (upd H p (.lst (List.replicate k.toNat xs).flatten))):=rfl
theorem qE (td ty:TE) (σ:St) (H:Hp) (Q:VK):eJ td ty σ H Q=(td σ H fun x H1=>ty σ H1 fun y H2=>∃ a v,x=.ref a∧Bk H2 a y (some v)∧Q v H2):=rfl
theorem OH (ty td:TE) (σ:St) (H:Hp) (Q:VK):GM ty td σ H Q=(ty σ H fun y H1=>td σ H1 fun x H2=>∃ a o,x=.ref a∧Bk H2 a y o∧Q (.bl o.isSome) H2):=rfl
theorem uy (ty td:TE) (σ:St) (H:Hp) (Q:VK):Nz ty td σ H Q=(ty σ H fun y H1=>td σ H1 fun x H2=>∃ a o,x=.ref a∧Bk H2 a y o∧Q (.bl (!o.isSome)) H2):=rfl
theorem WC (td ty tv:TE) (D:Uf) (σ:St) (H:Hp):rK td ty tv D σ H=(tv σ H fun v H1=>td σ H1 fun x H2=>ty σ H2 fun y H3=>∃ a H4,x=.ref a∧By H3 a y v H4∧D.nx σ H4):=rfl
theorem xC (td ty tv:TE) (rd:V→V→Hp→VK→Prop) (D:Uf) (σ:St) (H:Hp):xL td ty tv rd D σ H=(td σ H fun x H1=>ty σ H1 fun y H2=>∃ a v,x=.ref a∧Bk H2 a y (some v) ∧
 tv σ H2 fun y2 H3=>rd v y2 H3 fun z H4=>∃ H5,By H4 a y z H5∧D.nx σ H5):=rfl
theorem TC (td ty:TE) (D:Uf) (σ:St) (H:Hp):kL td ty D σ H=(td σ H fun x H1=>ty σ H1 fun y H2=>∃ a kvs k,x=.ref a∧H2 a=some (.dK kvs)∧y=kV k∧(Jk kvs k).isSome=true∧D.nx σ (upd H2 a (.dK (Qt kvs k)))):=rfl
theorem yz (x_0:St) (H:Hp) (Q:VK):XE  x_0 H Q=(∀ p,H p=none→Q (.ref p) (upd H p (.dK []))):=rfl
theorem aB (x_0:St) (H:Hp) (Q:VK):BK  x_0 H Q=(∀ p,H p=none→Q (.ref p) (upd H p (.dT []))):=rfl
theorem fD (trs:List (TE × TE)) (σ:St) (H:Hp) (Q:VK):uL trs σ H Q=(∀ p,H p=none→zB trs σ (upd H p (.dK [])) fun ps H2=>H2 p=some (.dK [])∧∃ kvs:List (Key × V),ps=kvs.map (fun kv=>(kV kv.1,kv.2))∧kvs.length ≤ 15∧Q (.ref p) (upd H2 p (.dK (qF [] kvs)))):=rfl
theorem vA (td ty:TE) (σ:St) (H:Hp) (Q:VK):bK td ty σ H Q=(td σ H fun x H1=>∃ a,x=.ref a∧IsD H1 a∧ty σ H1 fun y H2=>∃ o,Bk H2 a y o∧Q (o.getD .non) H2):=rfl
theorem ez (td ty tx:TE) (σ:St) (H:Hp) (Q:VK):bJ td ty tx σ H Q=(td σ H fun x H1=>∃ a,x=.ref a∧IsD H1 a∧ty σ H1 fun y H2=>tx σ H2 fun z H3=>∃ o,Bk H3 a y o∧Q (o.getD z) H3):=rfl
theorem wB (td ty:TE) (σ:St) (H:Hp) (Q:VK):hJ td ty σ H Q=(td σ H fun x H1=>∃ a,x=.ref a∧IsD H1 a∧ty σ H1 fun y H2=>∃ kvs k v,H2 a=some (.dK kvs)∧y=kV k∧Jk kvs k=some v∧Q v (upd H2 a (.dK (Qt kvs k)))):=rfl
theorem pA (td ty tx:TE) (σ:St) (H:Hp) (Q:VK):nJ td ty tx σ H Q=(td σ H fun x H1=>∃ a,x=.ref a∧IsD H1 a∧ty σ H1 fun y H2=>tx σ H2 fun z H3=>∃ kvs k,H3 a=some (.dK kvs)∧y=kV k ∧
 (∀ v,Jk kvs k=some v→Q v (upd H3 a (.dK (Qt kvs k))))∧(Jk kvs k=none→Q z H3)):=rfl
theorem cE (x_0:St) (H:Hp) (Q:(Bool→Hp→Prop)):Bx  x_0 H Q=(Q true H):=rfl
theorem bI (tl:TE) (σ:St) (H:Hp) (R:(It→Hp→Prop)):iM tl σ H R=(tl σ H fun x H1=>∃ z,x=.str z∧R (Its (zi z)) H1):=rfl
theorem dG (x:V) (lo:Option Int) (hi:Option Int) (H:Hp) (Q:VK):cM  x lo hi H Q=(∃ z,x=.str z∧z.length ≤ sizeLine∧Q (.str (Txt.slice z lo hi)) H):=rfl
theorem bD (K:PySem.W.Frag) (x:V) (vs:List V) (H:Hp) (Q:VK):cL K x vs H Q=(∃ sep p ys,x=.str sep∧vs=[.ref p]∧SqL K H p (Ob ys)∧(ys.map (·.length)).sum + ys.length * sep.length ≤ 16777216∧Q (.str (Txt.join sep ys)) H):=rfl
theorem DB (x:V) (vs:List V) (H:Hp) (Q:VK):gF  x vs H Q=(∃ z y,x=.str z∧vs=[.str y]∧y.length ≠ 0∧z.length + 2 ≤ sizeLine∧(Txt.split z y).length ≤ sizeLine∧∀ p,H p=none→Q (.ref p) (upd H p (.lst (Ob (Txt.split z y))))):=rfl
theorem ly (x:V) (vs:List V) (H:Hp) (Q:VK):NG  x vs H Q=(∃ z y i rest,x=.str z∧vs=[.str y]∧Builtin.Str.occurrences z y 0 z.length 1=i :: rest∧Q (.int (i:Nat)) H):=rfl
theorem bA (OK:Addr→Prop) (m:Str) (SPV:Addr→Sp) (E:XK) (ta:TE) (t:TA) (σ:St) (H:Hp) (Q:VK):QE OK m SPV E ta t σ H Q=(ta σ H fun x H1=>∃ a C dx fs,x=.ref a∧H1 a=some (.ins C dx fs)∧OK C∧fs.lookup m=none ∧
 t σ H1 fun vs H2=>SPV C (x :: vs) H2 Q E):=rfl
theorem Mz (kvs:SVs) (ty:TE) (σ:St) (H:Hp) (Q:VK):RJ kvs ty σ H Q=(ty σ H fun y H1=>∃ x v,y=.str x∧kvs.lookup x=some v∧Q v H1):=rfl
theorem nE (K:PySem.W.Frag) (ta:TA) (σ:St) (H:Hp) (R:(It→Hp→Prop)):oI K ta σ H R=(ta σ H fun vs H1=>∃ a,vs=[.ref a]∧(∃ xs,SqL K H1 a xs)∧R (Ite K a) H1):=rfl
theorem YF (K:PySem.W.Frag) (ta:TA) (σ:St) (H:Hp) (R:(It→Hp→Prop)):fN K ta σ H R=(ta σ H fun vs H1=>∃ a b,vs=[.ref a,.ref b]∧(∃ xs,SqL K H1 a xs)∧(∃ ys,SqL K H1 b ys)∧R (Itz K a b) H1):=rfl
theorem uG (K:PySem.W.Frag) (ta:TA) (σ:St) (H:Hp) (R:(It→Hp→Prop)):tM K ta σ H R=(ta σ H fun vs H1=>∃ a xs,vs=[.ref a]∧SqL K H1 a xs∧R (Itv K a xs.length) H1):=rfl
theorem oy (x:V) (vs:List V) (H:Hp) (Q:VK):eG  x vs H Q=(∃ l xs i y,x=.ref l∧vs=[.int i,y]∧H l=some (.lst xs)∧0 ≤ i∧i < 2 ^ 62∧i ≤ (xs.length:Int)∧xs.length < sizeLine∧Q .non (upd H l (.lst (xs.take i.toNat ++ y :: xs.drop i.toNat)))):=rfl
theorem sH (K:PySem.W.Frag) (x:V) (y:V) (H:Hp) (Q:VK):zM K x y H Q=(∃ p q b,x=.ref p∧y=.ref q∧EqH K H 8 (.ref p) (.ref q) b∧Q (.bl (!b)) H):=rfl
theorem NF (K:PySem.W.Frag) (x:V) (y:V) (H:Hp) (Q:VK):MM K x y H Q=(∃ p q b,x=.ref p∧y=.ref q∧EqH K H 8 (.ref p) (.ref q) b∧Q (.bl b) H):=rfl
theorem lJ (x_0:St) (H:Hp) (Q:(Hp→Prop)):tJ0  x_0 H Q=(Q H):=rfl
theorem mI (te:TE) (t:TJ) (σ:St) (H:Hp) (Q:(Hp→Prop)):tJI te t σ H Q=(te σ H fun v H1=>∃ i,v=.int i∧i.natAbs.log2 < 1920∧t σ H1 Q):=rfl
theorem EJ (te:TE) (t:TJ) (σ:St) (H:Hp) (Q:(Hp→Prop)):tJS te t σ H Q=(te σ H fun v H1=>∃ x,v=.str x∧x.length ≤ 1000∧t σ H1 Q):=rfl
theorem wJ (te:TE) (t:TJ) (σ:St) (H:Hp) (Q:(Hp→Prop)):tJR te t σ H Q=(te σ H fun v H1=>∃ x,v=.str x∧x.length ≤ 1000∧(∀ c ∈ x.cps.toList,c < 16 ^ 8)∧t σ H1 Q):=rfl
theorem Fx (t:TJ) (σ:St) (H:Hp) (Q:VK):Ly t σ H Q=(t σ H fun H1=>∀ y:Str,Q (.str y) H1):=rfl
theorem kz (K:PySem.W.Frag) (t:TA) (σ:St) (H:Hp) (Q:VK):RE K t σ H Q=(t σ H fun vs H1=>∃ x C od v,vs=[.ref x,v]∧H1 x=some (.ext (XF x C od))∧Aq K C∧Q .non H1):=rfl
theorem Uz (C:Addr) (sp:Sp) (t:TA) (σ:St) (H:Hp) (Q:VK):kF C sp t σ H Q=(t σ H fun vs H1=>vs.length ≤ sizeLine∧∀ x,H1 x=none→sp (.ref x :: vs) (upd H1 x (.ext (XF x C none))) (fun v H2=>v=.non∧Q (.ref x) H2) (fun _ _ _=>False)):=rfl
theorem FA (K:PySem.W.Frag) (ta tv:TE) (f:Str) (D:Uf) (σ:St) (H:Hp):yF K ta tv f D σ H=(tv σ H fun y H1=>ta σ H1 fun x H2=>∃ a C,x=.ref a∧H2 a=some (.ext (XF a C none))∧Aq K C∧zb K C f ∧
 ∀ dx,H2 dx=none→dx ≠ a→D.nx σ (upd (upd H2 a (.ext (XF a C (some dx)))) dx (.ext (XD dx [(f,y)])))):=rfl
theorem qB (K:PySem.W.Frag) (ta tv:TE) (f:Str) (D:Uf) (σ:St) (H:Hp):tF K ta tv f D σ H=(tv σ H fun y H1=>ta σ H1 fun x H2=>∃ a C dx fs,x=.ref a∧H2 a=some (.ext (XF a C (some dx)))∧H2 dx=some (.ext (XD dx fs))∧Aq K C∧zb K C f∧fs.length < 1000 ∧
 D.nx σ (upd H2 dx (.ext (XD dx (ag f y fs))))):=rfl
theorem LD (K:PySem.W.Frag) (ta:TE) (f:Str) (σ:St) (H:Hp) (Q:VK):mK K ta f σ H Q=(ta σ H fun x H1=>∃ a C dx fs v,x=.ref a∧H1 a=some (.ext (XA a C (some dx)))∧H1 dx=some (.ext (XD dx fs))∧Aq K C∧zb K C f∧fs.lookup f=some v∧Q v H1):=rfl
theorem vB (sp:Sp) (dvs:List V) (E:St→XK) (t:TA) (σ:St) (H:Hp) (Q:VK):EE sp dvs E t σ H Q=(t σ H fun vs H1=>sp (vs ++ dvs) H1 Q (E σ)):=rfl
theorem oz (C:Addr) (m:Str) (sp:Sp) (dvs:List V) (E:St→XK) (ta:TE) (t:TA) (σ:St) (H:Hp) (Q:VK):FJ C m sp dvs E ta t σ H Q=(ta σ H fun x H1=>∃ a dx fs,x=.ref a∧H1 a=some (.ins C dx fs)∧fs.lookup m=none ∧
 t σ H1 fun vs H2=>sp (x :: (vs ++ dvs)) H2 Q (E σ)):=rfl
theorem nA (K:PySem.W.Frag) (E:St→XK) (te:TE) (D:Uf) (σ:St) (H:Hp):zF K E te D σ H=(te σ H fun v H1=>∃ x C od,v=.ref x∧H1 x=some (.ext (XF x C od))∧Aq K C∧E σ (.ref C) od (upd H1 x (.ext (XA x C od)))):=rfl
theorem GC (ta:TA) (σ:St) (H:Hp) (R:(It→Hp→Prop)):yJ ta σ H R=(ta σ H fun vs H1=>∃ i j:Int,vs=[.int i,.int j,.int (-1)]∧(-1073741824 ≤ i∧i < 1073741824∧-1073741824 ≤ j∧j < 1073741824)∧R (Itd i (i - j).toNat) H1):=rfl
theorem vv (K:PySem.W.Frag) (ta:TA) (σ:St) (H:Hp) (Q:VK):Sw K ta σ H Q=(ta σ H fun vs H1=>∃ a xs,vs=[.ref a]∧SqL K H1 a xs∧∀ l,H1 l=none→Q (.ref l) (upd H1 l (.lst xs.reverse))):=rfl
theorem yD (K:PySem.W.Frag) (ta:TA) (td:TE) (σ:St) (H:Hp) (Q:VK):fJ K ta td σ H Q=(ta σ H fun vs H1=>td σ H1 fun y H2=>∃ l ks,vs=[.ref l]∧SqL K H2 l (List.map V.int ks)∧Q (match ks.min? with | some m=>.int m | none=>y) H2):=rfl
theorem SH (K:PySem.W.Frag) (neg:Bool) (x:V) (y:V) (H:Hp) (Q:VK):KM K neg x y H Q=(∃ p qs f,y=.ref p∧SqL K H p (List.map V.ref qs)∧(∀ q ∈ qs,EqH K H 8 (.ref q) x (f q))∧Q (.bl (if neg then !(qs.any f) else qs.any f)) H):=rfl
theorem my (K:PySem.W.Frag) (x:V) (vs:List V) (H:Hp) (Q:VK):Py K x vs H Q=(∃ l ks k,x=.ref l∧vs=[.int k]∧SqL K H l (List.map V.int ks)∧k ∈ ks∧ks.length ≤ 1000∧Q (.int (ks.idxOf k:Nat)) H):=rfl
noncomputable def Jh (J:It) (g:TG) (tb:TS) (D:Uf) (σ:St) (H:Hp):Prop:=∃ W:Nat→Nat→St→Hp→Prop,(∃ m,W 0 m σ H)∧∀ i m σ H,W i m σ H →
 (J.stop i H∧D.nx σ H)∨(J.go i H∧∃ N:St→Hp→Prop,(∀ σ' H',N σ' H'→∃ m',m' < m∧W (i + 1) m' σ' H')∧∀ x H',J.yld i H x H'→g x σ H' fun σ2 H2=>tb { D with nx:=N,ct:=N,bk:=D.nx } σ2 H2)
theorem DG (wi:TI) (g:TG) (tb:TS) (D:Uf) (σ:St) (H:Hp):UL wi g tb D σ H=wi σ H fun J H1=>Jh J g tb D σ H1:=rfl
noncomputable def Hd (J:It) (g:TG) (tc:TT) (te:TE) (σb:St) (Q:VK) (H:Hp):Prop:=∃ W:Nat→Nat→List V→Hp→Prop,(∃ m,W 0 m [] H)∧Vu J g tc te σb Q W
theorem XG (K:PySem.W.Frag) (ta:TE) (f:Str) (σ:St) (H:Hp) (Q:VK):AL K ta f σ H Q=(ta σ H fun x H1=>∃ a v,x=.ref a∧Bi K H1 a f v∧Q v H1):=by
 unfold AL Bi
 congr 1
 funext x H1
 apply propext
 constructor
 ·rintro ⟨a,C,dx,fs,v,h1,h2,h3,h4,h5,h6⟩;exact ⟨a,v,h1,⟨C,dx,fs,h2,h3,h4,h5⟩,h6⟩
 ·rintro ⟨a,v,h1,⟨C,dx,fs,h2,h3,h4,h5⟩,h6⟩;exact ⟨a,C,dx,fs,v,h1,h2,h3,h4,h5,h6⟩
theorem EA (wi:TI) (g:TG) (tc:TT) (te:XK→TE) (sel:List (Option Nat)) (E:St→XK) (σ:St) (H:Hp) (Q:VK):eK wi g tc te sel E σ H Q=wi σ H fun J H1=>Hd J g tc (te (E σ)) (blk sel σ) Q H1:=rfl
theorem jD (wi:TI) (g:TG) (tc:TT) (te:TE) (sel:List (Option Nat)) (σ:St) (H:Hp) (Q:VK):nH wi g tc te sel σ H Q=wi σ H fun J H1=>Hd J g tc te (blk sel σ) Q H1:=rfl
theorem BC (ta:TA) (σ:St) (H:Hp) (R:It→Hp→Prop):uI ta σ H R=(ta σ H fun vs H1=>∃ j:Int,vs=[.int j]∧-4611686018427387904 ≤ j∧j < 4611686018427387904∧R (Itr 0 j.toNat) H1):=rfl
theorem AD (ta:TA) (σ:St) (H:Hp) (R:It→Hp→Prop):BL ta σ H R=(ta σ H fun vs H1=>∃ i j:Int,vs=[.int i,.int j]∧(-4611686018427387904 ≤ i∧i < 4611686018427387904∧-4611686018427387904 ≤ j∧j < 4611686018427387904)∧R (Itr i (j - i).toNat) H1):=rfl
theorem RF (sel:List (Option Nat)) (σ:St):blk sel σ=sel.map fun o=>o.bind fun j=>(σ[j]?).join:=rfl
theorem Ub {c:TT} {t u:TS} {D:Uf} {σ:St} {H:Hp} (b:Bool) (hc:∀ Q:Bool→Hp→Prop,Q b H→c σ H Q) (h1:b=true→t D σ H) (h2:b=false→u D σ H):EL c t u D σ H:=by
 refine hc _ ?_
 cases b with
 | true=>exact h1 rfl
 | false=>exact h2 rfl
theorem Jn {c:TT} {t u:TS} {D:Uf} {σ:St} {H:Hp} (R:Bool→Hp→Prop) (hc:∀ Q:Bool→Hp→Prop,(∀ b H',R b H'→Q b H')→c σ H Q) (h1:∀ H',R true H'→t D σ H') (h2:∀ H',R false H'→u D σ H'):EL c t u D σ H:=by
 refine hc _ fun b H' r=>?_
 cases b with
 | true=>exact h1 H' r
 | false=>exact h2 H' r
theorem jd {t:TS} {D:Uf} {σ:St} {H:Hp} (R:St→Hp→Prop) (h:∀ D':Uf,(∀ σ H,R σ H→D'.nx σ H)→D'.rt=D.rt→D'.bk=D.bk→D'.ct=D.ct→t D' σ H) (hR:∀ σ H,R σ H→D.nx σ H):t D σ H:=h D hR rfl rfl rfl
theorem JF {te:TE} {D:Uf} {σ:St} {H:Hp} (v:V) (hc:∀ Q:VK,Q v H→te σ H Q) (h:D.rt v H):pL te D σ H:=hc _ h
theorem kh (x y:Str):(x ++ y).length=x.length + y.length:=by
 show (x.cps ++ y.cps).size=_
 rw [Array.size_append];rfl
theorem NC (c:Nat):(⟨#[c]⟩:Str).length=1:=rfl
theorem Jh.range {lo:Int} {n:Nat} {g:TG} {tb:TS} {D:Uf} {σ:St} {H:Hp} (Pv:Nat→St→Hp→Prop) (h0:Pv 0 σ H)
  (hs:∀ i σ H,i < n→Pv i σ H→g (.int (lo + i)) σ H fun σ2 H2=>tb { D with nx:=Pv (i + 1),ct:=Pv (i + 1),bk:=D.nx } σ2 H2) (hd:∀ σ H,Pv n σ H→D.nx σ H):Jh (Itr lo n) g tb D σ H:=az Pv h0 hs hd
theorem Jh.list {K:PySem.W.Frag} {a:Addr} {xs:List V} {g:TG} {tb:TS} {D:Uf} {σ:St} {H:Hp} (Pv:Nat→St→Hp→Prop) (h0:Pv 0 σ H) (hl:∀ i σ H,i ≤ xs.length→Pv i σ H→SqL K H a xs)
  (hs:∀ i x σ H,xs[i]? = some x→Pv i σ H→g x σ H fun σ2 H2=>tb { D with nx:=Pv (i + 1),ct:=Pv (i + 1),bk:=D.nx } σ2 H2) (hd:∀ σ H,Pv xs.length σ H→D.nx σ H):Jh (Itl K a) g tb D σ H:=OD Pv h0 hl hs hd
theorem Jh.its {xs:List V} {g:TG} {tb:TS} {D:Uf} {σ:St} {H:Hp} (Pv:Nat→St→Hp→Prop) (h0:Pv 0 σ H)
  (hs:∀ i x σ H,xs[i]? = some x→Pv i σ H→g x σ H fun σ2 H2=>tb { D with nx:=Pv (i + 1),ct:=Pv (i + 1),bk:=D.nx } σ2 H2) (hd:∀ σ H,Pv xs.length σ H→D.nx σ H):Jh (Its xs) g tb D σ H:=JG Pv h0 hs hd
theorem Hd.list {K:PySem.W.Frag} {a:Addr} {xs:List V} {g:TG} {tc:TT} {te:TE} {σb:St} {Q:VK} {H:Hp} (Pv:Nat→List V→Hp→Prop) (hz:xs.length ≤ sizeLine) (h0:Pv 0 [] H) (hl:∀ i ys H,i ≤ xs.length→Pv i ys H→SqL K H a xs∧ys.length ≤ i)
  (hs:∀ i x ys H,xs[i]? = some x→Pv i ys H→Og Pv g tc te σb i x ys H) (hd:∀ ys H,Pv xs.length ys H→∀ p,H p=none→Q (.ref p) (upd H p (.lst ys))):Hd (Itl K a) g tc te σb Q H:=GB Pv hz h0 hl hs hd
theorem Hd.its {xs:List V} {g:TG} {tc:TT} {te:TE} {σb:St} {Q:VK} {H:Hp} (Pv:Nat→List V→Hp→Prop) (hz:xs.length ≤ sizeLine) (h0:Pv 0 [] H) (hl:∀ i ys H,i ≤ xs.length→Pv i ys H→ys.length ≤ i)
  (hs:∀ i x ys H,xs[i]? = some x→Pv i ys H→Og Pv g tc te σb i x ys H) (hd:∀ ys H,Pv xs.length ys H→∀ p,H p=none→Q (.ref p) (upd H p (.lst ys))):Hd (Its xs) g tc te σb Q H:=IC Pv hz h0 hl hs hd
theorem Hd.range {lo:Int} {n:Nat} {g:TG} {tc:TT} {te:TE} {σb:St} {Q:VK} {H:Hp} (Pv:Nat→List V→Hp→Prop) (hz:n ≤ sizeLine) (h0:Pv 0 [] H) (hl:∀ i ys H,i ≤ n→Pv i ys H→ys.length ≤ i)
  (hs:∀ i ys H,i < n→Pv i ys H→Og Pv g tc te σb i (.int (lo + i)) ys H) (hd:∀ ys H,Pv n ys H→∀ p,H p=none→Q (.ref p) (upd H p (.lst ys))):Hd (Itr lo n) g tc te σb Q H:=Ix Pv hz h0 hl hs hd
theorem Hr {α β:Type} {xs:List α} {i:Nat} {x:α} (f:α→β) (h:xs[i]? = some x):(xs.take (i + 1)).map f=(xs.take i).map f ++ [f x]:=by
 rw [List.take_add_one,h,List.map_append];rfl
theorem Hd.its_map {xs:List V} {g:TG} {te:TE} {σb:St} {Q:VK} {H:Hp} (f:V→V) (hz:xs.length ≤ sizeLine) (hs:∀ (i:Nat) (x:V) (N:V→Hp→Prop),xs[i]? = some x→N (f x) H→g x σb H fun σ2 H2=>Sub σb σ2∧te σ2 H2 N)
  (hd:∀ p,H p=none→Q (.ref p) (upd H p (.lst (xs.map f)))):Hd (Its xs) g Bx te σb Q H:=by
 refine Hd.its (fun i ys H'=>H'=H∧ys=(xs.take i).map f) hz ⟨rfl,rfl⟩ (fun i ys H' hi ⟨_,e⟩=>?_) (fun i x ys H' hx ⟨e1,e2⟩ N hN=>?_) (fun ys H' ⟨e1,e2⟩ p hp=>?_)
 ·rw [e,List.length_map,List.length_take];omega
 ·subst e1
  exact hs i x (fun y H4=>N (ys ++ [y]) H4) hx (hN _ _ ⟨rfl,by rw [e2,Hr f hx]⟩)
 ·subst e1
  rw [e2,List.take_length]
  exact hd p hp
theorem Hd.range_map {lo:Int} {n:Nat} {g:TG} {te:TE} {σb:St} {Q:VK} {H:Hp} (f:Nat→V) (hz:n ≤ sizeLine) (hs:∀ (i:Nat) (N:V→Hp→Prop),i < n→N (f i) H→g (.int (lo + i)) σb H fun σ2 H2=>Sub σb σ2∧te σ2 H2 N)
  (hd:∀ p,H p=none→Q (.ref p) (upd H p (.lst ((List.range n).map f)))):Hd (Itr lo n) g Bx te σb Q H:=by
 refine Hd.range (fun i ys H'=>H'=H∧ys=(List.range i).map f) hz ⟨rfl,rfl⟩ (fun i ys H' hi ⟨_,e⟩=>?_) (fun i ys H' hi ⟨e1,e2⟩ N hN=>?_) (fun ys H' ⟨e1,e2⟩ p hp=>?_)
 ·rw [e,List.length_map,List.length_range];exact Nat.le_refl _
 ·subst e1
  exact hs i (fun y H4=>N (ys ++ [y]) H4) hi (hN _ _ ⟨rfl,by rw [e2,List.range_succ,List.map_append];rfl⟩)
 ·subst e1
  rw [e2]
  exact hd p hp
theorem Hd.list_mk {K:PySem.W.Frag} {a:Addr} {xs:List V} {g:TG} {te:TE} {σb:St} {Q:VK} {H:Hp} (f:V→HO) (hl:SqL K H a xs) (hz:xs.length ≤ sizeLine) (hn:∀ x,noT (f x)=true)
  (hs:∀ (i:Nat) (x:V) (H1:Hp) (N:V→Hp→Prop),xs[i]? = some x→Rb H H1→(NoT H→NoT H1)→(∀ q,H1 q=none→N (.ref q) (upd H1 q (f x)))→g x σb H1 fun σ2 H2=>Sub σb σ2∧te σ2 H2 N)
  (hd:∀ (qs:List Addr) (H1:Hp),Rb H H1→(NoT H→NoT H1)→qs.length=xs.length→(∀ (j:Nat) (q:Addr) (x:V),qs[j]? = some q→xs[j]? = some x→H1 q=some (f x)∧H q=none)→∀ p,H1 p=none→Q (.ref p) (upd H1 p (.lst (qs.map V.ref)))):Hd (Itl K a) g Bx te σb Q H:=by
 refine Hd.list (fun i ys H'=>∃ qs:List Addr,ys=qs.map V.ref∧qs.length=i∧Rb H H'∧(NoT H→NoT H')∧∀ (j:Nat) (q:Addr) (x:V),qs[j]? = some q→xs[j]? = some x→H' q=some (f x)∧H q=none) hz
  ⟨[],rfl,rfl,Rb.refl H,id,fun j q x h _=>by simp at h⟩ ?_ ?_ ?_
 ·rintro i ys H' hi ⟨qs,e,e2,sm,_,_⟩
  exact ⟨hl.same sm,by rw [e,List.length_map];omega⟩
 ·rintro i x ys H' hx ⟨qs,e1,e2,sm,nt,al⟩ N hN
  refine hs i x H' (fun y H4=>N (ys ++ [y]) H4) hx sm nt fun q hq=>hN _ _ ⟨qs ++ [q],by rw [e1,List.map_append];rfl,by rw [List.length_append,e2];rfl,sm.updN (sm.free hq),fun n=>(nt n).upd (hn x),fun j q' x' h1 h2=>?_⟩
  by_cases hj:j < qs.length
  ·rw [List.getElem?_append_left hj] at h1
   obtain ⟨z1,z2⟩:=al j q' x' h1 h2
   exact ⟨by rw [jb (lb z1 hq)];exact z1,z2⟩
  ·rw [List.getElem?_append_right (by omega)] at h1
   have hj0:j - qs.length=0:=by
    cases hh:j - qs.length with
    | zero=>rfl
    | succ n=>rw [hh] at h1;simp at h1
   rw [hj0] at h1
   have e3:q=q':=by simpa using h1
   subst e3
   have e4:j=i:=by omega
   subst e4
   rw [hx] at h2
   cases h2
   exact ⟨db,sm.free hq⟩
 ·rintro ys H' ⟨qs,e1,e2,sm,nt,al⟩ p hp
  subst e1
  exact hd qs H' sm nt e2 al p hp
theorem Jh.of {J:It} {n:Nat} {g:TG} {tb:TS} {D:Uf} {σ:St} {H:Hp} (Pv:Nat→St→Hp→Prop) (h0:Pv 0 σ H) (hgo:∀ i σ H,i < n→Pv i σ H→J.go i H) (hst:∀ σ H,Pv n σ H→J.stop n H)
  (hs:∀ i σ H x H',i < n→Pv i σ H→J.yld i H x H'→g x σ H' fun σ2 H2=>tb { D with nx:=Pv (i + 1),ct:=Pv (i + 1),bk:=D.nx } σ2 H2) (hd:∀ σ H,Pv n σ H→D.nx σ H):Jh J g tb D σ H:=by
 refine ⟨fun i m σ H=>m=n - i∧i ≤ n∧Pv i σ H,⟨n,by simp,Nat.zero_le _,h0⟩,?_⟩
 rintro i m σ H ⟨rfl,hi,p⟩
 by_cases hlt:i < n
 ·exact .inr ⟨hgo i σ H hlt p,Pv (i + 1),fun σ' H' p'=>⟨n - (i + 1),by omega,rfl,hlt,p'⟩,fun x H' y=>hs i σ H x H' hlt p y⟩
 ·have e:i=n:=by omega
  subst e
  exact .inl ⟨hst σ H p,hd σ H p⟩
theorem Hd.of {J:It} {n:Nat} {g:TG} {tc:TT} {te:TE} {σb:St} {Q:VK} {H:Hp} (Pv:Nat→List V→Hp→Prop) (hz:n ≤ sizeLine) (h0:Pv 0 [] H) (hgo:∀ i ys H,i < n→Pv i ys H→J.go i H) (hst:∀ ys H,Pv n ys H→J.stop n H) (hl:∀ i ys H,i < n→Pv i ys H→ys.length ≤ i)
  (hs:∀ i ys H x H',i < n→Pv i ys H→J.yld i H x H'→Og Pv g tc te σb i x ys H') (hd:∀ ys H,Pv n ys H→∀ p,H p=none→Q (.ref p) (upd H p (.lst ys))):Hd J g tc te σb Q H:=by
 refine ⟨fun i m ys H=>m=n - i∧i ≤ n∧Pv i ys H,⟨n,by simp,Nat.zero_le _,h0⟩,?_⟩
 rintro i m ys H ⟨rfl,hi,p⟩
 by_cases hlt:i < n
 ·have hyl:=hl i ys H hlt p
  refine .inr ⟨hgo i ys H hlt p,by omega,fun x H' y=>?_⟩
  exact hs i ys H x H' hlt p y (fun ys' H'=>∃ m',m' < n - i∧m'=n - (i + 1)∧i + 1 ≤ n∧Pv (i + 1) ys' H') fun ys' H' r=>⟨n - (i + 1),by omega,rfl,hlt,r⟩
 ·have e:i=n:=by omega
  subst e
  exact .inl ⟨hst ys H p,hd ys H p⟩
section
variable {K:PySem.W.Frag} {a b:Addr} {xs ys:List V} {g:TG} {tb:TS} {D:Uf} {σ σb:St} {H:Hp} {tc:TT} {te:TE} {Q:VK}
theorem Jh.enum (Pv:Nat→St→Hp→Prop) (h0:Pv 0 σ H) (hl:∀ i σ H,i ≤ xs.length→Pv i σ H→SqL K H a xs)
  (hs:∀ i x σ H p,xs[i]? = some x→Pv i σ H→H p=none→g (.ref p) σ (upd H p (.tup [.int i,x])) fun σ2 H2=>tb { D with nx:=Pv (i + 1),ct:=Pv (i + 1),bk:=D.nx } σ2 H2) (hd:∀ σ H,Pv xs.length σ H→D.nx σ H):Jh (Ite K a) g tb D σ H:=by
 refine Jh.of (n:=xs.length) Pv h0 (fun i σ H hi p=>⟨xs,xs[i],hl i σ H (Nat.le_of_lt hi) p,by simp [hi]⟩) (fun σ H p=>⟨xs,hl _ σ H (Nat.le_refl _) p,Nat.le_refl _⟩) (fun i σ H v H' hi p y=>?_) hd
 obtain ⟨q,x,hq,rfl,hx,rfl⟩:=y
 exact hs i x σ H q (hx xs (hl i σ H (Nat.le_of_lt hi) p)) p hq
theorem Jh.zip (Pv:Nat→St→Hp→Prop) (h0:Pv 0 σ H) (hl:∀ i σ H,i ≤ xs.length→Pv i σ H→SqL K H a xs∧SqL K H b ys) (n:Nat) (hn:n=min xs.length ys.length)
  (hs:∀ i x y σ H p,xs[i]? = some x→ys[i]? = some y→Pv i σ H→H p=none→g (.ref p) σ (upd H p (.tup [x,y])) fun σ2 H2=>tb { D with nx:=Pv (i + 1),ct:=Pv (i + 1),bk:=D.nx } σ2 H2) (hd:∀ σ H,Pv n σ H→D.nx σ H):Jh (Itz K a b) g tb D σ H:=by
 subst hn
 refine Jh.of (n:=min xs.length ys.length) Pv h0 (fun i σ H hi p=>?_) (fun σ H p=>?_) (fun i σ H v H' hi p y=>?_) hd
 ·obtain ⟨z1,z2⟩:=hl i σ H (by omega) p
  exact ⟨xs,ys,xs[i],ys[i],z1,z2,by rw [List.getElem?_eq_getElem (by omega)],by rw [List.getElem?_eq_getElem (by omega)]⟩
 ·obtain ⟨z1,z2⟩:=hl _ σ H (by omega) p
  exact ⟨xs,ys,z1,z2,by omega⟩
 ·obtain ⟨q,x,y,hq,rfl,hx,hy,rfl⟩:=y
  obtain ⟨z1,z2⟩:=hl i σ H (by omega) p
  exact hs i x y σ H q (hx xs z1) (hy ys z2) p hq
theorem Hd.enum (Pv:Nat→List V→Hp→Prop) (hz:xs.length ≤ sizeLine) (h0:Pv 0 [] H) (hl:∀ i ys H,i ≤ xs.length→Pv i ys H→SqL K H a xs∧ys.length ≤ i)
  (hs:∀ i x ys H p,xs[i]? = some x→Pv i ys H→H p=none→Og Pv g tc te σb i (.ref p) ys (upd H p (.tup [.int i,x]))) (hd:∀ ys H,Pv xs.length ys H→∀ p,H p=none→Q (.ref p) (upd H p (.lst ys))):Hd (Ite K a) g tc te σb Q H:=by
 refine Hd.of (n:=xs.length) Pv hz h0 (fun i ys H hi p=>⟨xs,xs[i],(hl i ys H (Nat.le_of_lt hi) p).1,by simp [hi]⟩) (fun ys H p=>⟨xs,(hl _ ys H (Nat.le_refl _) p).1,Nat.le_refl _⟩) (fun i ys H hi p=>(hl i ys H (Nat.le_of_lt hi) p).2) (fun i zs H v H' hi p y=>?_) hd
 obtain ⟨q,x,hq,rfl,hx,rfl⟩:=y
 exact hs i x zs H q (hx xs (hl i zs H (Nat.le_of_lt hi) p).1) p hq
theorem uD {i j:Nat} {p:Addr} {x y:V} {R:St→Hp→Prop} (h:SqT K H p [x,y]) (q:R ((σ.set i (some x)).set j (some y)) H):AK K 2 (kx (xu i) (kx (xu j) PK)) (.ref p) σ H R:=
 ⟨p,_,rfl,h,rfl,x,_,rfl,y,_,rfl,rfl,q⟩
theorem Zi {i j:Nat} {p:Addr} {x y:V} {R:St→Hp→Prop} (q:R ((σ.set i (some x)).set j (some y)) (upd H p (.tup [x,y]))):AK K 2 (kx (xu i) (kx (xu j) PK)) (.ref p) σ (upd H p (.tup [x,y])) R:=
 uD (.inl (.inl db)) q
end
theorem Sub.name2 {r:St} {v w:Option V}:Sub (none :: none :: r) (v :: w :: r):=by
 refine ⟨rfl,fun i u h=>?_⟩
 match i with
 | 0=>cases h
 | 1=>cases h
 | i + 2=>exact h
theorem Sub.name3 {r:St} {v w z:Option V}:Sub (none :: none :: none :: r) (v :: w :: z :: r):=by
 refine ⟨rfl,fun i u h=>?_⟩
 match i with
 | 0=>cases h
 | 1=>cases h
 | 2=>cases h
 | i + 3=>exact h
theorem Hd.list_zs {K:PySem.W.Frag} {a:Addr} {xs zs:List V} {g:TG} {te:TE} {σb:St} {Q:VK} {H:Hp} (hl:SqL K H a xs) (hz:xs.length ≤ sizeLine) (he:zs.length=xs.length)
  (hs:∀ (i:Nat) (x z:V) (N:V→Hp→Prop),xs[i]? = some x→zs[i]? = some z→N z H→g x σb H fun σ2 H2=>Sub σb σ2∧te σ2 H2 N) (hd:∀ p,H p=none→Q (.ref p) (upd H p (.lst zs))):Hd (Itl K a) g Bx te σb Q H:=by
 refine Hd.list (fun i ys H'=>H'=H∧ys=zs.take i) hz ⟨rfl,rfl⟩ (fun i ys H' hi ⟨e0,e⟩=>?_) (fun i x ys H' hx ⟨e1,e2⟩ N hN=>?_) (fun ys H' ⟨e1,e2⟩ p hp=>?_)
 ·subst e0
  exact ⟨hl,by rw [e,List.length_take];omega⟩
 ·subst e1
  have hi:i < zs.length:=by rw [he];exact (List.getElem?_eq_some_iff.mp hx).1
  have hz':zs[i]? = some zs[i]:=List.getElem?_eq_getElem hi
  exact hs i x zs[i] (fun y H4=>N (ys ++ [y]) H4) hx hz' (hN _ _ ⟨rfl,by rw [e2,List.take_add_one,hz'];rfl⟩)
 ·subst e1
  rw [e2,← he,List.take_length]
  exact hd p hp
theorem Sub.name {r:St} {v:Option V}:Sub (none :: r) (v :: r):=by
 refine ⟨rfl,fun i w h=>?_⟩
 cases i with
 | zero=>cases h
 | succ i=>exact h
end L2
local macro_rules | `(tactic| walk_at "RD")=>`(tactic| ((try dsimp only [L2.Lz,L2.jL,L2.Cx.nox,L2.Cx.wish,L2.Cx.block,L2.Cx.tr,L2.Cx.hn]);(try simp only [L2.MH,L2.DL,L2.ZF,L2.ZG,L2.PH,L2.dH,L2.xH,L2.HC,L2.HL,L2.zG,L2.jK,L2.LH,L2.zC,L2.FH,L2.qD,L2.yI,L2.Yv,L2.Tb,L2.qz,L2.OC,L2.RD,L2.QH,L2.eD,L2.Qy,L2.ef,L2.iG,L2.UD,L2.IG,L2.tG,L2.hG,L2.qH,L2.RH,L2.FD,L2.wD,L2.GH,L2.IJ,L2.zI,L2.gL,L2.ZI,L2.dL,L2.sI,L2.EK,L2.HD,L2.Gz,L2.PF,L2.qG,L2.Ex,L2.dI,L2.EG,L2.FG,L2.iD,L2.CG,L2.cI,L2.JD,L2.bE,L2.mE,L2.jA,L2.WJ,L2.ux,L2.eE,L2.VI,L2.fH,L2.ZH,L2.gD,L2.AG,L2.BG,L2.KF,L2.DJ,L2.QC,L2.pG,L2.NI,L2.iH,L2.JJ,L2.xy,L2.sy,L2.uH,L2.Bz,L2.Ov,L2.jB,L2.SF,L2.cH,L2.qE,L2.OH,L2.uy,L2.WC,L2.xC,L2.TC,L2.yz,L2.aB,L2.fD,L2.vA,L2.ez,L2.wB,L2.pA,L2.cE,L2.bI,L2.dG,L2.bD,L2.DB,L2.ly,L2.bA,L2.Mz,L2.nE,L2.YF,L2.uG,L2.oy,L2.sH,L2.NF,L2.lJ,L2.mI,L2.EJ,L2.wJ,L2.Fx,L2.kz,L2.Uz,L2.FA,L2.qB,L2.LD,L2.vB,L2.oz,L2.nA,L2.GC,L2.vv,L2.yD,L2.SH,L2.my,L2.DG,L2.jD,L2.BC,L2.AD,L2.XG,L2.HG,L2.UG,L2.EA,L2.WF,L2.gH,L2.start,L2.RF,List.map_cons,List.map_nil,Option.bind_none,Option.bind_some,Option.join_some,Option.join_none,List.length_cons,List.length_nil,Nat.reduceAdd,Nat.reduceSub,Nat.zero_add,List.replicate,List.cons_append,List.nil_append,List.append_nil,List.set_cons_zero,List.set_cons_succ,List.getElem?_cons_zero,List.getElem?_cons_succ,Option.some.injEq,L2.V.int.injEq,L2.V.bl.injEq,L2.V.str.injEq,L2.V.ref.injEq,L2.V.ty.injEq,exists_eq_left',exists_eq_left,exists_and_left,List.cons.injEq,and_true,true_and,and_assoc,Int.zero_add,reduceCtorEq,false_and,exists_false,and_false,ite_true,ite_false,if_true,if_false,Bool.false_eq_true,L2.HI,L2.tyV,false_or,or_false,Bool.not_true,Bool.not_false,decide_true,decide_false])))
local macro_rules | `(tactic| walk_at "F")=>`(tactic| exact ⟨rfl,rfl,rfl,by decide +kernel,rfl,by decide +kernel,by decide +kernel⟩)
namespace My
open PySem L2
noncomputable def top (i:Nat):Stmt:=PySem.Challenge.pw_lampway_k17_next_free_and_longest.main.body.getD i (.Pass ⟨0,0,0,0⟩)
noncomputable abbrev qp:Stmt:=top 2
theorem yu:rb ["plan","name","turn"] ["plan","name","turn"] (ib qp):=(by walk_at "F")
noncomputable abbrev iu:Stmt:=top 3
theorem mr:rb ["plan","name","wait"] ["plan","name"] (ib iu):=(by walk_at "F")
noncomputable abbrev bv:Stmt:=top 16
theorem gE:rb ["text"] ["text"] (ib bv):=(by walk_at "F")
noncomputable abbrev ij:Stmt:=top 17
theorem Cr:rb ["word","signs","most"] ["word","signs","most"] (ib ij):=(by walk_at "F")
noncomputable abbrev ko:Stmt:=top 18
theorem jt:rb ["word","most_figures"] ["word","most_figures"] (ib ko):=(by walk_at "F")
noncomputable abbrev su:Stmt:=top 19
theorem yr:rb ["word","low","high","number"] ["word","low","high"] (ib su):=(by walk_at "F")
noncomputable abbrev Kt:Stmt:=top 20
theorem Zx:rb ["word"] ["word"] (ib Kt):=(by walk_at "F")
noncomputable abbrev Ap:Stmt:=top 23
theorem zx:rb ["text"] ["text"] (ib Ap):=(by walk_at "F")
noncomputable abbrev ao:Stmt:=top 37
theorem Vm:rb ["reader","places"] ["reader"] (ib ao):=(by walk_at "F")
noncomputable abbrev ng:Stmt:=top 38
theorem gi:rb ["reader","ways","name"] ["reader","ways"] (ib ng):=(by walk_at "F")
noncomputable abbrev Zq:Stmt:=top 39
theorem xv:rb ["reader","places","start"] ["reader","places","start"] (ib Zq):=(by walk_at "F")
noncomputable abbrev lr:Stmt:=top 40
theorem Dv:rb ["sort","name","start","end","off","near","least"] ["sort","name","start","end","off","near","least"] (ib lr):=(by walk_at "F")
noncomputable abbrev Fq:Stmt:=top 41
theorem Jd:rb ["reader","places","ways","sort","name","start","end","off","near","least"] ["reader","places","ways"] (ib Fq):=(by walk_at "F")
noncomputable abbrev Ki:Stmt:=top 42
theorem yd:rb ["text","rows","places","ways","reader"] ["text"] (ib Ki):=(by walk_at "F")
noncomputable abbrev ax:Stmt:=top 44
theorem zt:rb ["places","way","place","steps"] ["places","way","place"] (ib ax):=(by walk_at "F")
noncomputable abbrev Gm:Stmt:=top 45
theorem Kr:rb ["places","way","second"] ["places","way","second"] (ib Gm):=(by walk_at "F")
noncomputable abbrev DE:Stmt:=top 46
theorem Zu:rb ["crossing","one","other","way","second"] ["crossing","one","other"] (ib DE):=(by walk_at "F")
noncomputable abbrev tJ:Stmt:=top 47
theorem Ky:rb ["crossing","one","other","way","second"] ["crossing","one","other"] (ib tJ):=(by walk_at "F")
noncomputable abbrev Yj:Stmt:=top 49
theorem gd:rb ["marks","size","steps","untils","place"] ["marks"] (ib Yj):=(by walk_at "F")
noncomputable abbrev Tj:Stmt:=top 50
theorem Po:rb ["marks"] ["marks"] (ib Tj):=(by walk_at "F")
noncomputable abbrev wm:Stmt:=top 53
theorem Rv:rb ["spans","name"] ["spans","name"] (ib wm):=(by walk_at "F")
noncomputable abbrev Si:Stmt:=top 54
theorem Fe:rb ["size","spans","name","marks","begin","turns","step"] ["size","spans","name"] (ib Si):=(by walk_at "F")
noncomputable abbrev AB:Stmt:=top 55
theorem Gk:rb ["way","size","spans","shown","begin","turns","step"] ["way","size","spans"] (ib AB):=(by walk_at "F")
noncomputable abbrev Nj:Stmt:=top 56
theorem gj:rb ["crossing","spans","name"] ["crossing","spans"] (ib Nj):=(by walk_at "F")
noncomputable abbrev Qc:Stmt:=top 57
theorem jc:rb ["size","spans","place","name","begin","turns","others"] ["size","spans","place"] (ib Qc):=(by walk_at "F")
noncomputable abbrev Ij:Stmt:=top 58
theorem yc:rb ["crossing","size","spans","place","span","name","begin","turns","way","needed"] ["crossing","size","spans"] (ib Ij):=(by walk_at "F")
noncomputable abbrev Ch:Stmt:=top 59
theorem Fd:rb ["crossing","one","other","since_one","since_other","between","turn","steps"] ["crossing","one","other","since_one","since_other"] (ib Ch):=(by walk_at "F")
noncomputable abbrev Ej:Stmt:=top 60
theorem Qd:rb ["crossing","size","spans","since","name","one","other"] ["crossing","size","spans"] (ib Ej):=(by walk_at "F")
noncomputable abbrev yk:Stmt:=top 61
theorem Gf:rb ["crossing","size","rows","spans","name","begin","turns"] ["crossing","size","rows"] (ib yk):=(by walk_at "F")
noncomputable abbrev xo:Stmt:=top 63
theorem Ri:rb ["_law_script","_law_k","_law_many","_law_cell","_law_seed"] ["_law_script","_law_k","_law_many"] (ib xo):=(by walk_at "F")
noncomputable abbrev Zn:Stmt:=top 64
theorem qe:rb ["_law_script","_law_name","_law_base","_law_size","_law_many","_law_shift","_law_rows_here","_law_i","_law_begin"] ["_law_script","_law_name","_law_base","_law_size"] (ib Zn):=(by walk_at "F")
noncomputable abbrev Tn:Stmt:=top 65
theorem Kf:rb ["_law_size","_law_rows_here","_law_name","_law_turn","_law_best","_law_row","_law_since"] ["_law_size","_law_rows_here","_law_name","_law_turn"] (ib Tn):=(by walk_at "F")
noncomputable abbrev Om:Stmt:=top 66
theorem Gs:rb ["_law_found","_law_due"] ["_law_found","_law_due"] (ib Om):=(by walk_at "F")
noncomputable abbrev Sj:Stmt:=top 67
theorem Pd:rb ["_law_size","_law_rows_here","_law_name","_law_best","_law_turn","_law_wait_here"] ["_law_size","_law_rows_here","_law_name"] (ib Sj):=(by walk_at "F")
noncomputable abbrev Zj:Stmt:=top 68
theorem se:rb ["_law_plan","_law_by_turn","_law_told","e"] ["_law_plan","_law_by_turn"] (ib Zj):=(by walk_at "F")
noncomputable abbrev tK:Stmt:=top 69
theorem Kd:rb ["_law_script","_law_ways","_law_always","_law_k","_law_sort","_law_text","_law_numbers","_law_crossing","_law_size","_law_rows_here","_law_plan","_law_way","_law_found","_law_due","_law_turn","_law_wait_here"] ["_law_script"] (ib tK):=(by walk_at "F")
noncomputable abbrev Km:Stmt:=lc (top 7) 0
theorem Yl:rb ["self","name"] ["self","name"] (ib Km):=(by walk_at "F")
noncomputable abbrev Qm:Stmt:=lc (top 8) 0
theorem Vl:rb ["self","way"] ["self","way"] (ib Qm):=(by walk_at "F")
noncomputable abbrev Mm:Stmt:=lc (top 9) 0
theorem tm:rb ["self","way","at"] ["self","way","at"] (ib Mm):=(by walk_at "F")
noncomputable abbrev Rm:Stmt:=lc (top 10) 0
theorem Zl:rb ["self","way","other","at"] ["self","way","other","at"] (ib Rm):=(by walk_at "F")
noncomputable abbrev ei:Stmt:=lc (top 22) 0
theorem Yi:rb ["self","row","told"] ["self","row","told"] (ib ei):=(by walk_at "F")
noncomputable abbrev Fh:Stmt:=lc (top 22) 1
theorem Tk:rb ["self"] ["self"] (ib Fh):=(by walk_at "F")
noncomputable abbrev Qf:Stmt:=lc (top 22) 2
theorem Xi:rb ["self"] ["self"] (ib Qf):=(by walk_at "F")
noncomputable abbrev Qk:Stmt:=lc (top 22) 3
noncomputable abbrev si:Stmt:=lc (top 22) 4
theorem zm:rb ["self","good"] ["self","good"] (ib si):=(by walk_at "F")
noncomputable abbrev Xg:Stmt:=lc (top 22) 5
theorem cg:rb ["self","choices","found"] ["self","choices"] (ib Xg):=(by walk_at "F")
noncomputable abbrev jg:Stmt:=lc (top 22) 6
theorem Sf:rb ["self","low","high","found"] ["self","low","high"] (ib jg):=(by walk_at "F")
noncomputable abbrev Kg:Stmt:=lc (top 22) 7
theorem wk:rb ["self"] ["self"] (ib Kg):=(by walk_at "F")
noncomputable abbrev Qq:Stmt:=lc (top 25) 0
theorem Xo:rb ["self","kind","name","start","end","off","near","least"] ["self","kind","name","start","end","off","near","least"] (ib Qq):=(by walk_at "F")
noncomputable abbrev gl:Stmt:=lc (top 26) 0
theorem Fl:rb ["self","name","start","end","off","near","least"] ["self","name","start","end","off","near","least"] (ib gl):=(by walk_at "F")
noncomputable abbrev Vj:Stmt:=lc (top 26) 1
theorem gp:rb ["self"] ["self"] (ib Vj):=(by walk_at "F")
noncomputable abbrev Kl:Stmt:=lc (top 26) 2
theorem Jp:rb ["self"] ["self"] (ib Kl):=(by walk_at "F")
noncomputable abbrev Uj:Stmt:=lc (top 27) 0
theorem Ik:rb ["self","name","start","end","off","near","least"] ["self","name","start","end","off","near","least"] (ib Uj):=(by walk_at "F")
noncomputable abbrev Vi:Stmt:=lc (top 27) 1
theorem vn:rb ["self"] ["self"] (ib Vi):=(by walk_at "F")
noncomputable abbrev Wj:Stmt:=lc (top 27) 2
theorem Xn:rb ["self"] ["self"] (ib Wj):=(by walk_at "F")
noncomputable abbrev Xj:Stmt:=lc (top 28) 0
theorem xk:rb ["self","name","start","end","off","near","least"] ["self","name","start","end","off","near","least"] (ib Xj):=(by walk_at "F")
noncomputable abbrev Ii:Stmt:=lc (top 28) 1
theorem gn:rb ["self"] ["self"] (ib Ii):=(by walk_at "F")
noncomputable abbrev Jj:Stmt:=lc (top 28) 2
theorem Wo:rb ["self"] ["self"] (ib Jj):=(by walk_at "F")
noncomputable abbrev Mi:Stmt:=lc (top 36) 0
theorem Zd:rb ["self","places","ways","number","way"] ["self","places","ways"] (ib Mi):=(by walk_at "F")
noncomputable abbrev Pf:Stmt:=lc (top 36) 1
theorem Tl:rb ["self"] ["self"] (ib Pf):=(by walk_at "F")
noncomputable abbrev xh:Stmt:=lc (top 36) 2
theorem Tg:rb ["self","name"] ["self","name"] (ib xh):=(by walk_at "F")
noncomputable abbrev Gh:Stmt:=lc (top 36) 3
theorem Ng:rb ["self","name"] ["self","name"] (ib Gh):=(by walk_at "F")
noncomputable abbrev so:Stmt:=lc (top 52) 0
theorem ii:rb ["self","crossing","size","spans","name"] ["self","crossing","size","spans"] (ib so):=(by walk_at "F")
set_option genInjectivity false in
structure Adr where
 {Pe Ah Hs Mf Th Ml Uk il Mh ze pj sj lj ue An Zg Ow yC de cf Ye Cf Zv vf Uc jf Xd yf dg qg Yh ug Bg lf rf VH Af Hf Bf Jf vd Sb Fc Ce Ec Ac Pb Bc Te Be sf Wf ce Je mf fe Ee gf Od Dc xc Eb kg yb zl Hc Yb Zb Hb Ed Ve ud ad Wc Mc:Addr}
 {Re Hh Ps Ef bi Kk yl Xk Nh De xj rj tj ye Fn Sg pw MD ge df Ze Lf cx tf Rc uf Yd wf gg ig Vh yg Yg zf xf FC Ig Eg Ug Lg ie wc Yc Il Pc Vc qc Tc bg Tf ah Zh qf vg gh kf og mh we Oc Jc Gb ai:FuncData}
 {qt nk qu ak Hm Kj pp xr Nk Yo:Value}
structure Txt (w:World) (K:PySem.W.Frag) (mg:Str→Option Value) (t:Adr):Prop where
 io:mg "next_free"=some (.ref t.Pe)
 Ph:Fun K "next_free" "next_free" qp t.Pe t.Re
 Ys:mg "longest"=some (.ref t.Ah)
 Ll:Fun K "longest" "longest" iu t.Ah t.Hh
 oH:mg "words"=some (.ref t.Hs)
 Fv:Fun K "words" "words" bv t.Hs t.Ps
 Fm:mg "is_made_of"=some (.ref t.Mf)
 Mg:Fun K "is_made_of" "is_made_of" ij t.Mf t.Ef
 Gv:mg "is_number"=some (.ref t.Th)
 qk:Fun K "is_number" "is_number" ko t.Th t.bi
 Vz:mg "figured"=some (.ref t.Ml)
 vo:Fun K "figured" "figured" su t.Ml t.Kk
 HB:mg "is_name"=some (.ref t.Uk)
 up:Fun K "is_name" "is_name" Kt t.Uk t.yl
 dz:mg "readers"=some (.ref t.il)
 zo:Fun K "readers" "readers" Ap t.il t.Xk
 nv:mg "read_ring"=some (.ref t.Mh)
 Ek:Fun K "read_ring" "read_ring" ao t.Mh t.Nh
 Bp:mg "read_new_name"=some (.ref t.ze)
 zg:Fun K "read_new_name" "read_new_name" ng t.ze t.De
 Dx:mg "read_end"=some (.ref t.pj)
 Ql:Fun K "read_end" "read_end" Zq t.pj t.xj
 Yx:mg "made_way"=some (.ref t.sj)
 rm:Fun K "made_way" "made_way" lr t.sj t.rj
 cy:mg "read_way"=some (.ref t.lj)
 gm:Fun K "read_way" "read_way" Fq t.lj t.tj
 yo:mg "read_crossing"=some (.ref t.ue)
 lg:Fun K "read_crossing" "read_crossing" Ki t.ue t.ye
 mw:mg "in_bow"=some (.ref t.An)
 zn:Fun K "in_bow" "in_bow" ax t.An t.Fn
 eu:mg "bows_cross"=some (.ref t.Zg)
 Qi:Fun K "bows_cross" "bows_cross" Gm t.Zg t.Sg
 KI:mg "meet"=some (.ref t.Ow)
 LA:Fun K "meet" "meet" DE t.Ow t.pw
 sL:mg "gap"=some (.ref t.yC)
 kG:Fun K "gap" "gap" tJ t.yC t.MD
 gk:mg "until_marked"=some (.ref t.de)
 pf:Fun K "until_marked" "until_marked" Yj t.de t.ge
 nq:mg "since_marked"=some (.ref t.cf)
 fh:Fun K "since_marked" "since_marked" Tj t.cf t.df
 qj:mg "spans_of"=some (.ref t.Ye)
 Zf:Fun K "spans_of" "spans_of" wm t.Ye t.Ze
 Pm:mg "free_marks"=some (.ref t.Cf)
 Gg:Fun K "free_marks" "free_marks" Si t.Cf t.Lf
 GI:mg "lamp"=some (.ref t.Zv)
 fA:Fun K "lamp" "lamp" AB t.Zv t.cx
 Pp:mg "refuse_never"=some (.ref t.vf)
 dh:Fun K "refuse_never" "refuse_never" Nj t.vf t.tf
 Hi:mg "turns_to_next_begin"=some (.ref t.Uc)
 Md:Fun K "turns_to_next_begin" "turns_to_next_begin" Qc t.Uc t.Rc
 Qp:mg "refuse_short"=some (.ref t.jf)
 bh:Fun K "refuse_short" "refuse_short" Ij t.jf t.uf
 um:mg "refuse_clash_of"=some (.ref t.Xd)
 Ue:Fun K "refuse_clash_of" "refuse_clash_of" Ch t.Xd t.Yd
 Zp:mg "refuse_clash"=some (.ref t.yf)
 eh:Fun K "refuse_clash" "refuse_clash" Ej t.yf t.wf
 Qv:mg "made_plan"=some (.ref t.dg)
 rk:Fun K "made_plan" "made_plan" yk t.dg t.gg
 uc:mg "_law_draw"=some (.ref t.qg)
 Qb:Fun K "_law_draw" "_law_draw" xo t.qg t.ig
 Ju:mg "_law_rows"=some (.ref t.Yh)
 Fk:Fun K "_law_rows" "_law_rows" Zn t.Yh t.Vh
 Jo:mg "_law_wait"=some (.ref t.ug)
 Lh:Fun K "_law_wait" "_law_wait" Tn t.ug t.yg
 Pi:mg "_law_whole"=some (.ref t.Bg)
 Ff:Fun K "_law_whole" "_law_whole" Om t.Bg t.Yg
 Ip:mg "_law_longest"=some (.ref t.lf)
 lh:Fun K "_law_longest" "_law_longest" Sj t.lf t.zf
 Cj:mg "_law_refused"=some (.ref t.rf)
 ff:Fun K "_law_refused" "_law_refused" Zj t.rf t.xf
 zL:mg "law"=some (.ref t.VH)
 tL:Fun K "law" "law" tK t.VH t.FC
 LB:mg "NoWay"=some (.ref t.ud)
 OE:PySem.W.findIn K (.ref t.ud) "__init__"=some (some (.ref t.Af))
 Im:Fun K "__init__" "NoWay.__init__" Km t.Af t.Ig
 bH:mg "Never"=some (.ref t.ad)
 xF:PySem.W.findIn K (.ref t.ad) "__init__"=some (some (.ref t.Hf))
 Um:Fun K "__init__" "Never.__init__" Qm t.Hf t.Eg
 sG:mg "Short"=some (.ref t.Wc)
 uF:PySem.W.findIn K (.ref t.Wc) "__init__"=some (some (.ref t.Bf))
 Lm:Fun K "__init__" "Short.__init__" Mm t.Bf t.Ug
 RG:mg "Clash"=some (.ref t.Mc)
 vF:PySem.W.findIn K (.ref t.Mc) "__init__"=some (some (.ref t.Jf))
 Sm:Fun K "__init__" "Clash.__init__" Rm t.Jf t.Lg
 mv:mg "RowReader"=some (.ref t.yb)
 Fy:PySem.W.findIn K (.ref t.yb) "__init__"=some (some (.ref t.vd))
 mi:Fun K "__init__" "RowReader.__init__" ei t.vd t.ie
 jy:PySem.W.findIn K (.ref t.yb) "ahead"=some (some (.ref t.Sb))
 zh:Fun K "ahead" "RowReader.ahead" Fh t.Sb t.wc
 Hu:PySem.W.findIn K (.ref t.yb) "has_more"=some (some (.ref t.Fc))
 Rf:Fun K "has_more" "RowReader.has_more" Qf t.Fc t.Yc
 Pw:PySem.W.findIn K (.ref t.yb) "refuse"=some (some (.ref t.Ce))
 Wv:Fun K "refuse" "RowReader.refuse" Qk t.Ce t.Il
 Hy:PySem.W.findIn K (.ref t.yb) "take"=some (some (.ref t.Ec))
 xi:Fun K "take" "RowReader.take" si t.Ec t.Pc
 ww:PySem.W.findIn K (.ref t.yb) "one_of"=some (some (.ref t.Ac))
 Fg:Fun K "one_of" "RowReader.one_of" Xg t.Ac t.Vc
 Ru:PySem.W.findIn K (.ref t.yb) "figures"=some (some (.ref t.Pb))
 wg:Fun K "figures" "RowReader.figures" jg t.Pb t.qc
 zw:PySem.W.findIn K (.ref t.yb) "finish"=some (some (.ref t.Bc))
 Pg:Fun K "finish" "RowReader.finish" Kg t.Bc t.Tc
 oG:mg "Way"=some (.ref t.zl)
 gI:PySem.W.findIn K (.ref t.zl) "__init__"=some (some (.ref t.Te))
 ur:Fun K "__init__" "Way.__init__" Qq t.Te t.bg
 ND:mg "CarWay"=some (.ref t.Hc)
 rE:PySem.W.findIn K (.ref t.Hc) "__init__"=some (some (.ref t.Be))
 Dl:Fun K "__init__" "CarWay.__init__" gl t.Be t.Tf
 UB:PySem.W.findIn K (.ref t.Hc) "ready"=some (some (.ref t.sf))
 Dj:Fun K "ready" "CarWay.ready" Vj t.sf t.ah
 sD:PySem.W.findIn K (.ref t.Hc) "fade"=some (some (.ref t.Wf))
 Bl:Fun K "fade" "CarWay.fade" Kl t.Wf t.Zh
 Tz:mg "FootWay"=some (.ref t.Yb)
 ZB:PySem.W.findIn K (.ref t.Yb) "__init__"=some (some (.ref t.ce))
 Hj:Fun K "__init__" "FootWay.__init__" Uj t.ce t.qf
 Az:PySem.W.findIn K (.ref t.Yb) "ready"=some (some (.ref t.Je))
 jj:Fun K "ready" "FootWay.ready" Vi t.Je t.vg
 WB:PySem.W.findIn K (.ref t.Yb) "fade"=some (some (.ref t.mf))
 Qj:Fun K "fade" "FootWay.fade" Wj t.mf t.gh
 YA:mg "TramWay"=some (.ref t.Zb)
 YB:PySem.W.findIn K (.ref t.Zb) "__init__"=some (some (.ref t.fe))
 fk:Fun K "__init__" "TramWay.__init__" Xj t.fe t.kf
 Ez:PySem.W.findIn K (.ref t.Zb) "ready"=some (some (.ref t.Ee))
 Ni:Fun K "ready" "TramWay.ready" Ii t.Ee t.og
 fC:PySem.W.findIn K (.ref t.Zb) "fade"=some (some (.ref t.gf))
 Mj:Fun K "fade" "TramWay.fade" Jj t.gf t.mh
 Hx:mg "Crossing"=some (.ref t.Hb)
 Ry:PySem.W.findIn K (.ref t.Hb) "__init__"=some (some (.ref t.Od))
 Ei:Fun K "__init__" "Crossing.__init__" Mi t.Od t.we
 Jy:PySem.W.findIn K (.ref t.Hb) "names"=some (some (.ref t.Dc))
 ji:Fun K "names" "Crossing.names" Pf t.Dc t.Oc
 vx:PySem.W.findIn K (.ref t.Hb) "number"=some (some (.ref t.xc))
 Xe:Fun K "number" "Crossing.number" xh t.xc t.Jc
 Nx:PySem.W.findIn K (.ref t.Hb) "called"=some (some (.ref t.Eb))
 bf:Fun K "called" "Crossing.called" Gh t.Eb t.Gb
 zJ:mg "Plan"=some (.ref t.Ed)
 VG:PySem.W.findIn K (.ref t.Ed) "__init__"=some (some (.ref t.kg))
 Ho:Fun K "__init__" "Plan.__init__" so t.kg t.ai
 xb:Cls K t.yb
 Xu:Mk K t.yb t.vd
 Vd:kr K t.yb "ahead" t.Sb
 yj:kr K t.yb "has_more" t.Fc
 Iw:kr K t.yb "refuse" t.Ce
 Nf:kr K t.yb "take" t.Ec
 Qg:kr K t.yb "one_of" t.Ac
 rc:kr K t.yb "figures" t.Pb
 Cg:kr K t.yb "finish" t.Bc
 wn:zb K t.yb "row"
 yh:zb K t.yb "told"
 Ge:zb K t.yb "place"
 TL:Cls K t.zl
 OG:zb K t.zl "kind"
 IH:zb K t.zl "name"
 UE:zb K t.zl "start"
 iI:zb K t.zl "end"
 lI:zb K t.zl "off"
 aH:zb K t.zl "near"
 rF:zb K t.zl "least"
 eo:Cls K t.Hc
 KC:Mk K t.Hc t.Be
 kq:kr K t.Hc "ready" t.sf
 Jr:kr K t.Hc "fade" t.Wf
 bq:zb K t.Hc "kind"
 aq:zb K t.Hc "name"
 yp:zb K t.Hc "start"
 Js:zb K t.Hc "end"
 ss:zb K t.Hc "off"
 Np:zb K t.Hc "near"
 Eo:zb K t.Hc "least"
 km:Cls K t.Yb
 HA:Mk K t.Yb t.ce
 vp:kr K t.Yb "ready" t.Je
 zq:kr K t.Yb "fade" t.mf
 ap:zb K t.Yb "kind"
 Pn:zb K t.Yb "name"
 bn:zb K t.Yb "start"
 pq:zb K t.Yb "end"
 iq:zb K t.Yb "off"
 Wn:zb K t.Yb "near"
 xn:zb K t.Yb "least"
 xm:Cls K t.Zb
 nz:Mk K t.Zb t.fe
 Co:kr K t.Zb "ready" t.Ee
 Mp:kr K t.Zb "fade" t.gf
 np:zb K t.Zb "kind"
 mo:zb K t.Zb "name"
 Zm:zb K t.Zb "start"
 Vp:zb K t.Zb "end"
 cq:zb K t.Zb "off"
 Ro:zb K t.Zb "near"
 jn:zb K t.Zb "least"
 Cb:Cls K t.Hb
 Lx:Mk K t.Hb t.Od
 zd:kr K t.Hb "names" t.Dc
 Eh:kr K t.Hb "number" t.xc
 Mb:kr K t.Hb "called" t.Eb
 Jg:zb K t.Hb "places"
 ki:zb K t.Hb "ways"
 Ag:zb K t.Hb "numbers"
 Rh:Cls K t.Ed
 II:Mk K t.Ed t.kg
 vi:zb K t.Ed "crossing"
 Dm:zb K t.Ed "size"
 Dr:zb K t.Ed "spans"
 xl:zb K t.Ed "lamps"
 Lj:zb K t.Ed "untils"
 Qh:mg "LampError"=some (.ref t.Ve)
 Sh:eM K t.Ve "__init__"
 XC:XB K t.ud
 Zw:MkX K t.ud t.Af
 Xh:zb K t.ud "name"
 sw:PySem.W.exmOne K (.ref t.ud) (.ref t.Ve)=some true
 Gj:PySem.W.exmOne K (.ref t.ud) (.ref t.ud)=some true
 rC:PySem.W.exmOne K (.ref t.ud) (.ref t.ad)=some false
 dC:PySem.W.exmOne K (.ref t.ud) (.ref t.Wc)=some false
 uC:PySem.W.exmOne K (.ref t.ud) (.ref t.Mc)=some false
 VD:XB K t.ad
 Gw:MkX K t.ad t.Hf
 Mt:zb K t.ad "way"
 Hw:PySem.W.exmOne K (.ref t.ad) (.ref t.Ve)=some true
 TB:PySem.W.exmOne K (.ref t.ad) (.ref t.ud)=some false
 aC:PySem.W.exmOne K (.ref t.ad) (.ref t.ad)=some true
 jC:PySem.W.exmOne K (.ref t.ad) (.ref t.Wc)=some false
 pC:PySem.W.exmOne K (.ref t.ad) (.ref t.Mc)=some false
 BD:XB K t.Wc
 xw:MkX K t.Wc t.Bf
 Xs:zb K t.Wc "way"
 Yu:zb K t.Wc "at"
 ow:PySem.W.exmOne K (.ref t.Wc) (.ref t.Ve)=some true
 bC:PySem.W.exmOne K (.ref t.Wc) (.ref t.ud)=some false
 oC:PySem.W.exmOne K (.ref t.Wc) (.ref t.ad)=some false
 vC:PySem.W.exmOne K (.ref t.Wc) (.ref t.Wc)=some true
 sC:PySem.W.exmOne K (.ref t.Wc) (.ref t.Mc)=some false
 uE:XB K t.Mc
 nw:MkX K t.Mc t.Jf
 fu:zb K t.Mc "way"
 Gp:zb K t.Mc "other"
 Jv:zb K t.Mc "at"
 Lw:PySem.W.exmOne K (.ref t.Mc) (.ref t.Ve)=some true
 lC:PySem.W.exmOne K (.ref t.Mc) (.ref t.ud)=some false
 gC:PySem.W.exmOne K (.ref t.Mc) (.ref t.ad)=some false
 nC:PySem.W.exmOne K (.ref t.Mc) (.ref t.Wc)=some false
 qC:PySem.W.exmOne K (.ref t.Mc) (.ref t.Mc)=some true
 dD:t.zl ≠ t.Hc
 kC:t.zl ≠ t.Yb
 iC:t.zl ≠ t.Zb
 nh:t.Hc ≠ t.Yb
 Dh:t.Hc ≠ t.Zb
 Vg:t.Yb ≠ t.Zb
 mm:gM K t.zl "__init__" t.Te
 VA:mg "FIGURES"=some t.qt
 Sy:Zc (.str (Str.ofString "0123456789")) t.qt
 Fp:mg "LEAST_PLACES"=some t.nk
 Ep:Zc (.int 2) t.nk
 Jz:mg "LETTERS"=some t.qu
 Dz:Zc (.str (Str.ofString "abcdefghijklmnopqrstuvwxyz")) t.qu
 jq:mg "MOST_FIGURES"=some t.ak
 Op:Zc (.int 3) t.ak
 Vt:mg "MOST_LEAST"=some t.Hm
 At:Zc (.int 60) t.Hm
 Bq:mg "MOST_LETTERS"=some t.Kj
 tq:Zc (.int 8) t.Kj
 uv:mg "MOST_NEAR"=some t.pp
 Kv:Zc (.int 30) t.pp
 ky:mg "MOST_OFF"=some t.xr
 Sx:Zc (.int 30) t.xr
 gs:mg "MOST_PLACES"=some t.Nk
 Ar:Zc (.int 99) t.Nk
 Bv:mg "MOST_WAYS"=some t.Yo
 Uv:Zc (.int 12) t.Yo
 ZK:mg "all"=none
 MJ:mg "bool"=none
 fg:mg "enumerate"=none
 DI:mg "int"=none
 Ui:mg "isinstance"=none
 Wl:mg "len"=none
 KA:mg "list"=none
 fG:mg "max"=none
 WG:mg "min"=none
 Qe:mg "range"=none
 Bm:mg "reversed"=none
 CH:mg "str"=none
 AH:mg "tuple"=none
 AJ:∀ (s:Shared) (u:Value),BindsTo s t.FC ⟨[u],[]⟩ [("_law_script",u)]
section
variable {w:World} {K:PySem.W.Frag} {mg:Str→Option Value} {t:Adr} (T:Txt w K mg t)
include T
theorem Txt.Uo:Kb K t.Re ["plan","name","turn"] []:=T.Ph.binds fun _ _ _ _ _ _=>us3 fun _ _ _=>rfl
theorem Txt.uu:Kb K t.Hh ["plan","name"] []:=T.Ll.binds fun _ _ _ _ _ _=>us2 fun _ _=>rfl
theorem Txt.rG:Kb K t.Ps ["text"] []:=T.Fv.binds fun _ _ _ _ _ _=>us1 fun _=>rfl
theorem Txt.Xm:Kb K t.Ef ["word","signs","most"] []:=T.Mg.binds fun _ _ _ _ _ _=>us3 fun _ _ _=>rfl
theorem Txt.Ou:Kb K t.bi ["word","most_figures"] []:=T.qk.binds fun _ _ _ _ _ _=>us2 fun _ _=>rfl
theorem Txt.oB:Kb K t.Kk ["word","low","high"] []:=T.vo.binds fun _ _ _ _ _ _=>us3 fun _ _ _=>rfl
theorem Txt.CB:Kb K t.yl ["word"] []:=T.up.binds fun _ _ _ _ _ _=>us1 fun _=>rfl
theorem Txt.cB:Kb K t.Xk ["text"] []:=T.zo.binds fun _ _ _ _ _ _=>us1 fun _=>rfl
theorem Txt.Mu:Kb K t.Nh ["reader"] []:=T.Ek.binds fun _ _ _ _ _ _=>us1 fun _=>rfl
theorem Txt.Do:Kb K t.De ["reader","ways"] []:=T.zg.binds fun _ _ _ _ _ _=>us2 fun _ _=>rfl
theorem Txt.Qx:Kb K t.xj ["reader","places","start"] []:=T.Ql.binds fun _ _ _ _ _ _=>us3 fun _ _ _=>rfl
theorem Txt.dy:Kb K t.rj ["sort","name","start","end","off","near","least"] []:=T.rm.binds fun _ _ _ _ _ _=>us7 fun _ _ _ _ _ _ _=>rfl
theorem Txt.Rx:Kb K t.tj ["reader","places","ways"] []:=T.gm.binds fun _ _ _ _ _ _=>us3 fun _ _ _=>rfl
theorem Txt.jp:Kb K t.ye ["text"] []:=T.lg.binds fun _ _ _ _ _ _=>us1 fun _=>rfl
theorem Txt.iw:Kb K t.Fn ["places","way","place"] []:=T.zn.binds fun _ _ _ _ _ _=>us3 fun _ _ _=>rfl
theorem Txt.Zt:Kb K t.Sg ["places","way","second"] []:=T.Qi.binds fun _ _ _ _ _ _=>us3 fun _ _ _=>rfl
theorem Txt.xI:Kb K t.pw ["crossing","one","other"] []:=T.LA.binds fun _ _ _ _ _ _=>us3 fun _ _ _=>rfl
theorem Txt.JL:Kb K t.MD ["crossing","one","other"] []:=T.kG.binds fun _ _ _ _ _ _=>us3 fun _ _ _=>rfl
theorem Txt.Fj:Kb K t.ge ["marks"] []:=T.pf.binds fun _ _ _ _ _ _=>us1 fun _=>rfl
theorem Txt.Dq:Kb K t.df ["marks"] []:=T.fh.binds fun _ _ _ _ _ _=>us1 fun _=>rfl
theorem Txt.oj:Kb K t.Ze ["spans","name"] []:=T.Zf.binds fun _ _ _ _ _ _=>us2 fun _ _=>rfl
theorem Txt.Cm:Kb K t.Lf ["size","spans","name"] []:=T.Gg.binds fun _ _ _ _ _ _=>us3 fun _ _ _=>rfl
theorem Txt.JI:Kb K t.cx ["way","size","spans"] []:=T.fA.binds fun _ _ _ _ _ _=>us3 fun _ _ _=>rfl
theorem Txt.oq:Kb K t.tf ["crossing","spans"] []:=T.dh.binds fun _ _ _ _ _ _=>us2 fun _ _=>rfl
theorem Txt.Wi:Kb K t.Rc ["size","spans","place"] []:=T.Md.binds fun _ _ _ _ _ _=>us3 fun _ _ _=>rfl
theorem Txt.Tp:Kb K t.uf ["crossing","size","spans"] []:=T.bh.binds fun _ _ _ _ _ _=>us3 fun _ _ _=>rfl
theorem Txt.om:Kb K t.Yd ["crossing","one","other","since_one","since_other"] []:=T.Ue.binds fun _ _ _ _ _ _=>us5 fun _ _ _ _ _=>rfl
theorem Txt.Yp:Kb K t.wf ["crossing","size","spans"] []:=T.eh.binds fun _ _ _ _ _ _=>us3 fun _ _ _=>rfl
theorem Txt.Tu:Kb K t.gg ["crossing","size","rows"] []:=T.rk.binds fun _ _ _ _ _ _=>us3 fun _ _ _=>rfl
theorem Txt.nc:Kb K t.ig ["_law_script","_law_k","_law_many"] []:=T.Qb.binds fun _ _ _ _ _ _=>us3 fun _ _ _=>rfl
theorem Txt.Hv:Kb K t.Vh ["_law_script","_law_name","_law_base","_law_size"] []:=T.Fk.binds fun _ _ _ _ _ _=>us4 fun _ _ _ _=>rfl
theorem Txt.So:Kb K t.yg ["_law_size","_law_rows_here","_law_name","_law_turn"] []:=T.Lh.binds fun _ _ _ _ _ _=>us4 fun _ _ _ _=>rfl
theorem Txt.dj:Kb K t.Yg ["_law_found","_law_due"] []:=T.Ff.binds fun _ _ _ _ _ _=>us2 fun _ _=>rfl
theorem Txt.Dp:Kb K t.zf ["_law_size","_law_rows_here","_law_name"] []:=T.lh.binds fun _ _ _ _ _ _=>us3 fun _ _ _=>rfl
theorem Txt.Pj:Kb K t.xf ["_law_plan","_law_by_turn"] []:=T.ff.binds fun _ _ _ _ _ _=>us2 fun _ _=>rfl
theorem Txt.Eu:Kb K t.Ig ["self","name"] []:=T.Im.binds fun _ _ _ _ _ _=>us2 fun _ _=>rfl
theorem Txt.Bt:Kb K t.Eg ["self","way"] []:=T.Um.binds fun _ _ _ _ _ _=>us2 fun _ _=>rfl
theorem Txt.au:Kb K t.Ug ["self","way","at"] []:=T.Lm.binds fun _ _ _ _ _ _=>us3 fun _ _ _=>rfl
theorem Txt.ot:Kb K t.Lg ["self","way","other","at"] []:=T.Sm.binds fun _ _ _ _ _ _=>us4 fun _ _ _ _=>rfl
theorem Txt.rn:Kb K t.ie ["self","row","told"] []:=T.mi.binds fun _ _ _ _ _ _=>us3 fun _ _ _=>rfl
theorem Txt.Ud:Kb K t.wc ["self"] []:=T.zh.binds fun _ _ _ _ _ _=>us1 fun _=>rfl
theorem Txt.zj:Kb K t.Yc ["self"] []:=T.Rf.binds fun _ _ _ _ _ _=>us1 fun _=>rfl
theorem Txt.Of:Kb K t.Pc ["self","good"] []:=T.xi.binds fun _ _ _ _ _ _=>us2 fun _ _=>rfl
theorem Txt.Hg:Kb K t.Vc ["self","choices"] []:=T.Fg.binds fun _ _ _ _ _ _=>us2 fun _ _=>rfl
theorem Txt.vc:Kb K t.qc ["self","low","high"] []:=T.wg.binds fun _ _ _ _ _ _=>us3 fun _ _ _=>rfl
theorem Txt.Rg:Kb K t.Tc ["self"] []:=T.Pg.binds fun _ _ _ _ _ _=>us1 fun _=>rfl
theorem Txt.vm:Kb K t.bg ["self","kind","name","start","end","off","near","least"] []:=T.ur.binds fun _ _ _ _ _ _=>us8 fun _ _ _ _ _ _ _ _=>rfl
theorem Txt.zr:Kb K t.Tf ["self","name","start","end","off","near","least"] []:=T.Dl.binds fun _ _ _ _ _ _=>us7 fun _ _ _ _ _ _ _=>rfl
theorem Txt.xq:Kb K t.ah ["self"] []:=T.Dj.binds fun _ _ _ _ _ _=>us1 fun _=>rfl
theorem Txt.Yr:Kb K t.Zh ["self"] []:=T.Bl.binds fun _ _ _ _ _ _=>us1 fun _=>rfl
theorem Txt.Lp:Kb K t.qf ["self","name","start","end","off","near","least"] []:=T.Hj.binds fun _ _ _ _ _ _=>us7 fun _ _ _ _ _ _ _=>rfl
theorem Txt.Mo:Kb K t.vg ["self"] []:=T.jj.binds fun _ _ _ _ _ _=>us1 fun _=>rfl
theorem Txt.Rp:Kb K t.gh ["self"] []:=T.Qj.binds fun _ _ _ _ _ _=>us1 fun _=>rfl
theorem Txt.Wp:Kb K t.kf ["self","name","start","end","off","near","least"] []:=T.fk.binds fun _ _ _ _ _ _=>us7 fun _ _ _ _ _ _ _=>rfl
theorem Txt.Qo:Kb K t.og ["self"] []:=T.Ni.binds fun _ _ _ _ _ _=>us1 fun _=>rfl
theorem Txt.Xp:Kb K t.mh ["self"] []:=T.Mj.binds fun _ _ _ _ _ _=>us1 fun _=>rfl
theorem Txt.Ko:Kb K t.we ["self","places","ways"] []:=T.Ei.binds fun _ _ _ _ _ _=>us3 fun _ _ _=>rfl
theorem Txt.Ad:Kb K t.Oc ["self"] []:=T.ji.binds fun _ _ _ _ _ _=>us1 fun _=>rfl
theorem Txt.vh:Kb K t.Jc ["self","name"] []:=T.Xe.binds fun _ _ _ _ _ _=>us2 fun _ _=>rfl
theorem Txt.Lb:Kb K t.Gb ["self","name"] []:=T.bf.binds fun _ _ _ _ _ _=>us2 fun _ _=>rfl
theorem Txt.yv:Kb K t.ai ["self","crossing","size","spans"] []:=T.Ho.binds fun _ _ _ _ _ _=>us4 fun _ _ _ _=>rfl
theorem Txt.Ao:Aq K t.ud:=Bs T.XC T.Zw
theorem Txt.Ev:Aq K t.ad:=Bs T.VD T.Gw
theorem Txt.Mr:Aq K t.Wc:=Bs T.BD T.xw
theorem Txt.ip:Aq K t.Mc:=Bs T.uE T.nw
end
noncomputable def uq (ns:List Int) (k m:Int):Int:=
 ((((if 0 < (ns.length:Int) then ns.getD (k % (ns.length:Int)).toNat 0 else 0) % 1000003 + 31 * k * k + 1) * 48271 % 999983 * 7919) % 524287) % m
theorem Oh (ns:List Int) (k:Int) {m:Int} (h:0 < m):0 ≤ uq ns k m:=Int.emod_nonneg _ (by omega)
theorem Uh (ns:List Int) (k:Int) {m:Int} (h:0 < m):uq ns k m < m:=Int.emod_lt_of_pos _ h
noncomputable def me (K:PySem.W.Frag) (a:Addr) (ns:List Int):Sp:=fun vs H Q _=>∃ k m,vs=[.ref a,.int k,.int m]∧Sc K a ns H∧(0 ≤ k∧k < 1000000)∧0 < m∧Q (.int (uq ns k m)) H
section
variable {P:Program} {w:World} {K:PySem.W.Frag} {mg:Str→Option Value} {base:Heap} {t:Adr}
theorem uz (T:Txt w K mg t) (a:Addr) (ns:List Int) (h63:ns.length ≤ 63):Bb P w K mg base CX0 1 t.qg t.ig ["_law_script","_law_k","_law_many"] (me K a ns):=by
 refine T.Qb.ok Ri (fun vs H Q E h=>?_) (fun cdv A outer s H vs Q E hr h=>?_)
 ·obtain ⟨k,m,rfl,_⟩:=h;rfl
 obtain ⟨k,m,rfl,S,⟨h0,h1⟩,hm,q⟩:=h
 refine ⟨_,(cb (Db (i:=3) Ri.nd rfl (Or.inl rfl) (Wr (Xb Oy (ic ac rfl T.Wl Lc (bb (pv 0) fb)) pb (dc _)) (Cd Ld (pv 0) (Ib Ae (pv 1) (ic ac rfl T.Wl Lc (bb (pv 0) fb))) (fun _ _=>rfl)) pb))
   (cb (Db (i:=4) Ri.nd rfl (Or.inl rfl) (Ib kd (Ib kd (Ib Ae (pv 3) pb) (Ib Nm (Ib Nm pb (pv 1)) (pv 1))) pb))
   (gb (Fb (Ib Ae (Ib Ae (Ib Nm (Ib Ae (Ib Nm (pv 4) pb) pb) pb) pb) (pv 2)))))),?_⟩
 (walk_at "RD")
 refine ⟨_,.inl S.seq,?_⟩
 rw [List.length_map]
 have hkk:(0:Int) ≤ k * k∧k * k < 1000000 * 1000000:=⟨Int.mul_nonneg h0 h0,Int.mul_lt_mul' (by omega) h1 h0 (by decide)⟩
 have fin:∀ i:Int,(0:Int) < 1000003∧wE 31 k∧wE (31 * k) k∧wE (i % 1000003 + 31 * k * k + 1) 48271∧(0:Int) < 999983∧wE ((i % 1000003 + 31 * k * k + 1) * 48271 % 999983) 7919∧(0:Int) < 524287∧0 < m:=by
  intro i
  refine ⟨by decide,.inl (by decide),.inr (by omega),.inr (by decide),by decide,.inr (by decide),by decide,hm⟩
 by_cases c:(0:Int) < (ns.length:Int)
 ·rw [if_pos (decide_eq_true c)]
  have hk:0 ≤ k % (ns.length:Int)∧k % (ns.length:Int) < (ns.length:Int):=⟨Int.emod_nonneg _ (by omega),Int.emod_lt_of_pos _ c⟩
  refine ⟨_,.inl S.seq,by rw [List.length_map];exact c,_,S.seq,?_⟩
  rw [List.length_map]
  have hj:(k % (ns.length:Int)).toNat < ns.length:=by omega
  refine ⟨.int ns[(k % (ns.length:Int)).toNat],?_,_,rfl,?_⟩
  ·have e:=gc (xs:=ns.map V.int) (j:=(k % (ns.length:Int)).toNat) (v:=.int ns[(k % (ns.length:Int)).toNat]) (by rw [List.getElem?_map,List.getElem?_eq_getElem hj] <;> rfl)
   rwa [Int.toNat_of_nonneg hk.1] at e
  ·obtain ⟨f1,f2,f3,f4,f5,f6,f7,f8⟩:=fin ns[(k % (ns.length:Int)).toNat]
   refine ⟨f1,f2,f3,f4,f5,f6,f7,f8,?_⟩
   have e:uq ns k m=(((ns[(k % (ns.length:Int)).toNat] % 1000003 + 31 * k * k + 1) * 48271 % 999983 * 7919) % 524287) % m:=by
    unfold uq
    rw [if_pos c,List.getD_eq_getElem?_getD,List.getElem?_eq_getElem hj]
    rfl
   rw [← e];exact q
 ·rw [if_neg (by simpa using c)]
  obtain ⟨f1,f2,f3,f4,f5,f6,f7,f8⟩:=fin 0
  refine ⟨f1,f2,f3,f4,f5,f6,f7,f8,?_⟩
  have e:uq ns k m=(((0 % 1000003 + 31 * k * k + 1) * 48271 % 999983 * 7919) % 524287) % m:=by
   unfold uq
   rw [if_neg c]
  rw [← e];exact q
end
theorem qL {w:Str}:w=Str.ofString "" ↔ w.length=0:=by
 constructor
 ·rintro rfl;decide +kernel
 ·intro h
  have e:w.cps=#[]:=Array.eq_empty_of_size_eq_zero h
  have e2:(Str.ofString "").cps=#[]:=by decide +kernel
  cases w
  cases h2:Str.ofString ""
  rw [h2] at e2
  simp only at e e2
  rw [e,e2]
noncomputable def inL (sg:Str) (c:Nat):Bool:=!(Builtin.Str.occurrences sg (jI c) 0 sg.length 1).isEmpty
theorem dB (sg:Str) (c:Nat):inL sg c=decide (c ∈ sg.cps.toList):=StrLaws.found_one sg c
noncomputable def made (w sg:Str) (m:Int):Bool:=if w=Str.ofString "" then false else if m < (w.length:Int) then false else w.cps.toList.all (inL sg)
noncomputable def bo:Sp:=fun vs H Q _=>∃ w sg m,vs=[.str w,.str sg,.int m]∧w.length ≤ 1000∧NoT H∧Q (.bl (made w sg m)) H
noncomputable def PD:Sp:=fun vs H Q _=>∃ w sg m,vs=[.str w,.str sg,.int m]∧w.length ≤ 1000∧∀ H',Rb H H'→Q (.bl (made w sg m)) H'
section
variable {P:Program} {w:World} {K:PySem.W.Frag} {mg:Str→Option Value} {base:Heap} {t:Adr}
theorem Sz (T:Txt w K mg t):Bb P w K mg base CX0 1 t.Mf t.Ef ["word","signs","most"] bo:=by
 refine Bb.forget (sp:=PD) ?_ fun vs H Q E h=>?_
 ·refine T.Mg.ok Cr (fun vs H Q E h=>?_) (fun cdv A outer s H vs Q E hr h=>?_)
  ·obtain ⟨w,sg,m,rfl,_⟩:=h;rfl
  obtain ⟨w,sg,m,rfl,hz,q⟩:=h
  have hz':w.length ≤ sizeLine:=Nat.le_trans hz (by decide)
  refine ⟨_,(cb (re (PW.pt (sv (Xb Di (pv 0) Cc (dc _)) (uo (Xb Oy (ic Ht rfl T.Wl Lc (bb (pv 0) fb)) (pv 2) (dc _))))) (gb (Fb yq)) fc)
   (gb (Fb (ic (cD rfl) rfl T.ZK Xx (bb (Hk rfl (UJ (pv 0)) (Nd (sc:=ib ij) rfl (by decide +kernel)) (N:=["sign","signs"]) (sel:=[none,some 1]) (He (M:=["word","signs","most"]) (by decide +kernel)) (Blk.of (fun _ _ _ _=>(wb (i:=0) (Ai (N:=["sign","signs"]) (by decide +kernel) rfl) rfl (Or.inl rfl))) (fun _ _ _ _=>⟨_,di,by first | rfl | (dsimp only [Cx.block];done) | (dsimp only [Cx.block];exact rfl)⟩) (fun _ _ _ _=>⟨_,(Ke Ny (pv 0) (pv 1) (by with_unfolding_all rfl)),by first | rfl | (dsimp only [Cx.block];done) | (dsimp only [Cx.block];exact rfl)⟩))) fb))))),?_⟩
  (walk_at "RD")
  refine Ub (decide (w=Str.ofString "") || decide (m < (w.length:Int))) (fun Q hQ=>?_) (fun hb=>?_) (fun hb=>?_)
  ·(walk_at "RD")
   by_cases c:w=Str.ofString ""
   ·rw [if_pos (decide_eq_true c)]
    rw [decide_eq_true c,Bool.true_or] at hQ
    exact hQ
   ·rw [if_neg (by simpa using c)]
    rw [decide_eq_false c,Bool.false_or] at hQ
    exact ⟨hz',hQ⟩
  ·(walk_at "RD")
   have e:made w sg m=false:=by
    unfold made
    simp only [Bool.or_eq_true,decide_eq_true_eq] at hb
    by_cases c:w=Str.ofString ""
    ·rw [if_pos c]
    ·rw [if_neg c,if_pos (hb.resolve_left c)]
   have:=q H (Rb.refl H)
   rw [e] at this
   exact this
  ·(walk_at "RD")
   have e:made w sg m=w.cps.toList.all (inL sg):=by
    unfold made
    simp only [Bool.or_eq_false_iff,decide_eq_false_iff_not] at hb
    rw [if_neg hb.1,if_neg hb.2]
   refine Hd.its_map (fun x=>match x with | .str y=>.bl (!(Builtin.Str.occurrences sg y 0 sg.length 1).isEmpty) | _=>.non) (by rw [Yk];exact hz') (fun i x N hx hN=>?_) (fun p hp=>?_)
   ·unfold zi at hx
    rw [List.getElem?_map] at hx
    cases hc:w.cps.toList[i]? with
    | none=>rw [hc] at hx;cases hx
    | some c=>
     rw [hc] at hx
     have hx':V.str (jI c)=x:=Option.some.inj hx
     subst hx'
     (walk_at "RD")
     exact ⟨Sub.name,hN⟩
   ·refine ⟨p,rfl,w.cps.toList.map (inL sg),SqL.of ?_,?_⟩
    ·rw [db]
     unfold zi
     rw [List.map_map,List.map_map]
     rfl
    ·have:=q (upd H p (.lst (List.map (fun x=>match x with | .str y=>.bl (!(Builtin.Str.occurrences sg y 0 sg.length 1).isEmpty) | _=>.non) (zi w)))) (qb hp)
     rw [e] at this
     rw [List.all_map]
     exact this
 ·obtain ⟨w,sg,m,e,hz,nt,q⟩:=h
  exact ⟨nt,w,sg,m,e,hz,fun H' sm=>⟨sm,q⟩⟩
end
noncomputable abbrev mG:Str:=Str.ofString "0123456789"
noncomputable def mn (c:Nat):Bool:=decide (48 ≤ c∧c ≤ 57)
theorem Iz:mG.cps.toList=[48,49,50,51,52,53,54,55,56,57]:=by decide +kernel
theorem CD (c:Nat):inL mG c=mn c:=by
 rw [dB,Iz]
 unfold mn
 rw [Bool.eq_iff_iff]
 simp only [decide_eq_true_eq,List.mem_cons,List.not_mem_nil,or_false]
 omega
noncomputable abbrev cs (w:Str):List Nat:=w.cps.toList
theorem oA (w:Str):(cs w).length=w.length:=by simp [cs,Str.length]
noncomputable def okB (w:Str):Bool:=decide (1 ≤ (cs w).length) && decide ((cs w).length ≤ 3) && (cs w).all mn && (decide ((cs w).length ≤ 1) || decide ((cs w).headD 0 ≠ 48))
noncomputable abbrev val (w:Str):Int:=((NumText.digitsVal (cs w):Nat):Int)
noncomputable def VB (w:Str) (lo hi:Int):V:=if okB w && !(decide (val w < lo) || decide (hi < val w)) then .int (val w) else .non
theorem lz {w:Str} {c:Nat}:w=⟨#[c]⟩↔cs w=[c]:=by
 constructor
 ·rintro rfl;rfl
 ·intro h
  cases w with
  | mk a=>
   have e:a=#[c]:=Array.toList_inj.mp h
   rw [e]
theorem Nv:Str.ofString "0"=⟨#[48]⟩:=by decide +kernel
theorem yt (w:Str):made w mG 3=(decide (1 ≤ (cs w).length) && decide ((cs w).length ≤ 3) && (cs w).all mn):=by
 unfold made
 have e:(inL mG)=mn:=funext CD
 rw [e]
 by_cases h1:w=Str.ofString ""
 ·have h2:=qL.mp h1
  rw [if_pos h1,oA,h2];rfl
 ·have h2:¬ w.length=0:=fun z=>h1 (qL.mpr z)
  rw [if_neg h1,oA]
  by_cases h3:(3:Int) < (w.length:Int)
  ·rw [if_pos h3,decide_eq_false (show ¬ w.length ≤ 3 by omega),Bool.and_false,Bool.false_and]
  ·rw [if_neg h3,decide_eq_true (show 1 ≤ w.length by omega),decide_eq_true (show w.length ≤ 3 by omega)];rfl
theorem Pr {l:List Nat} (h:l.all mn=true):NumText.AllDigits l:=fun c hc=>by
 have:=List.all_eq_true.mp h c hc
 simpa [mn] using this
theorem cJ {w:Str} (h:okB w=true):(1 ≤ (cs w).length∧(cs w).length ≤ 3)∧(cs w).all mn=true:=by
 unfold okB at h
 simp only [Bool.and_eq_true,decide_eq_true_eq] at h
 exact h.1
noncomputable def iB:Sp:=fun vs H Q _=>∃ w,vs=[.str w,.int 3]∧w.length ≤ 1000∧NoT H∧Q (.bl (okB w)) H
noncomputable def FE:Sp:=fun vs H Q _=>∃ w lo hi,vs=[.str w,.int lo,.int hi]∧w.length ≤ 1000∧NoT H∧Q (VB w lo hi) H
section
variable {P:Program} {w:World} {K:PySem.W.Frag} {mg:Str→Option Value} {base:Heap} {t:Adr}
theorem rJ (T:Txt w K mg t):Bb P w K mg base CX0 2 t.Th t.bi ["word","most_figures"] iB:=by
 have G_is_made_of:Bb P w K mg base CX0 1 t.Mf t.Ef ["word","signs","most"] bo:=Sz T
 refine T.qk.ok jt (fun vs H Q E h=>?_) (fun cdv A outer s H vs Q E hr h=>?_)
 ·obtain ⟨w,rfl,_⟩:=h;rfl
 obtain ⟨w,rfl,hz,nt,q⟩:=h
 have hz':w.length ≤ sizeLine:=Nat.le_trans hz (by decide)
 refine ⟨_,(cb (re (ql (ph (ub G_is_made_of hr rfl T.Fm T.Mg.kp T.Xm .nil Ab (bb (pv 0) (bb (jh rfl T.VA T.Sy) (bb (pv 1) fb)))))) (gb (Fb yq)) fc)
   (gb (Fb (pK (Ke Di (pv 0) Cc (dc _)) (ir (Ke dA (Cd nF (pv 0) pb (fun _ _=>rfl)) Cc (dc _))))))),?_⟩
 refine Ub (!made w mG 3) (fun Q hQ=>?_) (fun hb=>?_) (fun hb=>?_)
 ·(walk_at "RD"; repeat (simp only [bo];walk_at "RD"))
  exact ⟨hz,nt,hQ⟩
 ·(walk_at "RD")
  have e:okB w=false:=by
   have hb':made w mG 3=false:=by simpa using hb
   rw [yt] at hb'
   unfold okB
   rw [hb'];rfl
  rw [e] at q
  exact q
 ·have hb':made w mG 3=true:=by simpa using hb
  rw [yt] at hb'
  rw [Yv]
  dsimp only
  refine JF (.bl (okB w)) (fun Q hQ=>?_) ?_
  case refine_2=>exact q
  (walk_at "RD")
  have hb2:(1 ≤ (cs w).length∧(cs w).length ≤ 3)∧(cs w).all mn=true:=by
   simpa only [Bool.and_eq_true,decide_eq_true_eq] using hb'
  obtain ⟨c,r,hcr⟩:∃ c r,cs w=c :: r:=by
   cases h:cs w with
   | nil=>rw [h] at hb2;exact absurd hb2.1.1 (by decide)
   | cons c r=>exact ⟨c,r,rfl⟩
  have ok:okB w=(decide ((cs w).length ≤ 1) || decide ((cs w).headD 0 ≠ 48)):=by
   unfold okB
   rw [hb',Bool.true_and]
  by_cases c0:w=Str.ofString "0"
  ·rw [if_pos (decide_eq_true c0)]
   have e:cs w=[48]:=by rw [c0,Nv]
   rw [ok,e] at hQ
   exact hQ
  ·rw [if_neg (by simpa using c0)]
   refine ⟨hz',c,?_,?_⟩
   ·have:=gc (xs:=cs w) (j:=0) (v:=c) (by rw [hcr];rfl)
    exact this
   ·have e2:decide ((⟨#[c]⟩:Str)=Str.ofString "0")=decide (c=48):=by
     rw [Nv]
     by_cases h48:c=48
     ·rw [h48];simp
     ·rw [decide_eq_false h48,decide_eq_false]
      intro z
      have z2:=lz.mp z
      exact h48 (List.cons.inj z2).1
    rw [e2]
    have e3:okB w = !decide (c=48):=by
     rw [ok,hcr]
     show (decide ((c :: r).length ≤ 1) || decide (c ≠ 48))=_
     by_cases h48:c=48
     ·have hr:r ≠ []:=fun z=>c0 (by rw [Nv];exact lz.mpr (by rw [hcr,z,h48]))
      have:¬ (c :: r).length ≤ 1:=by
       cases r with
       | nil=>exact absurd rfl hr
       | cons d r=>simp
      rw [decide_eq_false this,h48];rfl
     ·rw [decide_eq_true h48,Bool.or_true,decide_eq_false h48];rfl
    rw [← e3]
    exact hQ
theorem vI (T:Txt w K mg t):Bb P w K mg base CX0 3 t.Ml t.Kk ["word","low","high"] FE:=by
 have G_is_number:Bb P w K mg base CX0 2 t.Th t.bi ["word","most_figures"] iB:=rJ T
 refine T.vo.ok yr (fun vs H Q E h=>?_) (fun cdv A outer s H vs Q E hr h=>?_)
 ·obtain ⟨w,lo,hi,rfl,_⟩:=h;rfl
 obtain ⟨w,lo,hi,rfl,hz,nt,q⟩:=h
 refine ⟨_,(cb (re (ql (ph (ub G_is_number hr rfl T.Gv T.qk.kp T.Ou .nil Ab (bb (pv 0) (bb (jh rfl T.jq T.Op) fb))))) (gb (Fb ix)) fc)
   (cb (Db (i:=3) yr.nd rfl (Or.inl rfl) (Vk EB rfl T.DI cr (bb (pv 0) fb)))
   (cb (re (PW.pt (sv (Xb bu (pv 3) (pv 1) (dc _)) (uo (Xb Oy (pv 3) (pv 2) (dc _))))) (gb (Fb ix)) fc)
   (gb (Fb (pv 3)))))),?_⟩
 refine Ub (!okB w) (fun Q hQ=>?_) (fun hb=>?_) (fun hb=>?_)
 ·(walk_at "RD"; repeat (simp only [iB];walk_at "RD"))
  exact ⟨hz,nt,hQ⟩
 ·(walk_at "RD")
  have hb':okB w=false:=by simpa using hb
  have e:VB w lo hi=.non:=by unfold VB;rw [hb'];rfl
  rw [e] at q;exact q
 ·have hb':okB w=true:=by simpa using hb
  have h3:(1 ≤ (cs w).length∧(cs w).length ≤ 3)∧(cs w).all mn=true:=by
   have:=hb'
   unfold okB at this
   simp only [Bool.and_eq_true,decide_eq_true_eq] at this
   exact this.1
  have hl:=oA w
  have hi':intText? w=some (val w):=intText_digits (Pr h3.2) (fun z=>by have z':cs w=[]:=z;rw [z'] at h3;exact absurd h3.1.1 (by decide)) (by omega)
  (walk_at "RD")
  refine ⟨val w,hi',by omega,?_⟩
  refine Ub (decide (val w < lo) || decide (hi < val w)) (fun Q hQ=>?_) (fun hc=>?_) (fun hc=>?_)
  ·(walk_at "RD")
   by_cases c:val w < lo
   ·rw [if_pos (decide_eq_true c)]
    rw [decide_eq_true c,Bool.true_or] at hQ
    exact hQ
   ·rw [if_neg (by simpa using c)]
    rw [decide_eq_false c,Bool.false_or] at hQ
    exact hQ
  ·(walk_at "RD")
   have e:VB w lo hi=.non:=by unfold VB;rw [hb',hc];rfl
   rw [e] at q;exact q
  ·(walk_at "RD")
   have e:VB w lo hi=.int (val w):=by unfold VB;rw [hb',hc];rfl
   rw [e] at q;exact q
end
theorem Zz {n:Nat} (h:n < 1000):n.log2 < 1920:=by
 by_cases h0:n=0
 ·subst h0;decide
 ·rw [Nat.log2_lt h0]
  exact Nat.lt_of_lt_of_le h (Nat.le_trans (show 1000 ≤ 2 ^ 10 by decide) (Nat.pow_le_pow_right (by decide) (by decide)))
theorem RC:∀ n,n < 1000→(Nat.toDigits 10 n).length ≤ 3:=by decide +kernel
theorem SG {n:Int} (h0:0 ≤ n) (h1:n ≤ 999):(Str.ofString (toString n)).length ≤ 3:=by
 have e:=PySem.W.KIN.signs_num n.toNat
 rw [Int.toNat_of_nonneg h0] at e
 have l:(Str.ofString (toString n)).length=(Str.ofString (toString n)).cps.toList.length:=by simp [Str.length]
 rw [l,e,List.length_map]
 exact RC _ (by omega)
noncomputable abbrev Ck:Str:=Str.ofString "abcdefghijklmnopqrstuvwxyz"
noncomputable def nB:Sp:=fun vs H Q _=>∃ w,vs=[.str w]∧w.length ≤ 1000∧NoT H∧Q (.bl (made w Ck 8)) H
section
variable {P:Program} {w:World} {K:PySem.W.Frag} {mg:Str→Option Value} {base:Heap} {t:Adr}
theorem TF (T:Txt w K mg t):Bb P w K mg base CX0 2 t.Uk t.yl ["word"] nB:=by
 have G_is_made_of:Bb P w K mg base CX0 1 t.Mf t.Ef ["word","signs","most"] bo:=Sz T
 refine T.up.ok Zx (fun vs H Q E h=>?_) (fun cdv A outer s H vs Q E hr h=>?_)
 ·obtain ⟨w,rfl,_⟩:=h;rfl
 obtain ⟨w,rfl,hz,nt,q⟩:=h
 refine ⟨_,(gb (Fb (ub G_is_made_of hr rfl T.Fm T.Mg.kp T.Xm .nil Ab (bb (pv 0) (bb (jh rfl T.Jz T.Dz) (bb (jh rfl T.Bq T.tq) fb)))))),?_⟩
 (walk_at "RD"; repeat (simp only [bo];walk_at "RD"))
 exact ⟨hz,nt,q⟩
end
noncomputable abbrev nl:Str:=Str.ofString "\n"
noncomputable abbrev bk:Str:=Str.ofString " "
theorem FI:nl=⟨#[10]⟩:=by decide +kernel
theorem qJ:bk=⟨#[32]⟩:=by decide +kernel
noncomputable def ni (x:Str):List (List Str):=(Txt.split x nl).map fun r=>Txt.split r bk
theorem Kq:∀ {ys:List Str} {y:Str},y ∈ ys→y.length ≤ (ys.map (·.length)).sum
 | [],_,h=>nomatch h
 | a :: r,y,h=>by
  rw [List.map_cons,List.sum_cons]
  rcases List.mem_cons.mp h with rfl | h
  ·omega
  ·have:=Kq h;omega
theorem aG {x y r:Str} (hy:1 ≤ y.length) (h:r ∈ Txt.split x y):r.length ≤ x.length + 1:=by
 have h1:=PyProof.Rows.split_weight x y hy
 have h2:=Kq h
 omega
theorem Sn {x y:Str} (hy:1 ≤ y.length):(Txt.split x y).length ≤ x.length + 1:=by
 have h1:=PyProof.Rows.split_weight x y hy
 omega
theorem vD (x y:Str):Txt.split x y ≠ []:=by
 unfold Txt.split
 split
 ·simp
 ·split
  ·simp
  ·rw [StrLaws.partsBetween_eq]
   obtain ⟨p,r,e⟩:=StrLaws.partsFrom_ne x y.length 0 (Builtin.Str.occurrences x y 0 x.length (x.length + 1))
   rw [e];simp
noncomputable def LL (H0 H:Hp) (p:Addr) (rows:List (List Str)):Prop:=∃ qs:List Addr,H p=some (.lst (qs.map V.ref))∧H0 p=none∧p ∉ qs∧qs.length=rows.length∧∀ (i:Nat) (q:Addr) (r:List Str),qs[i]? = some q→rows[i]? = some r→H q=some (.lst (Ob r))∧H0 q=none
noncomputable def aw:Sp:=fun vs H Q _=>∃ x,vs=[.str x]∧x.length ≤ 20000∧NoT H∧∀ p H',Rb H H'→NoT H'→LL H H' p (ni x)→Q (.ref p) H'
theorem lw:nl.length=1:=by decide +kernel
theorem cA:bk.length=1:=by decide +kernel
section
variable {P:Program} {w:World} {K:PySem.W.Frag} {mg:Str→Option Value} {base:Heap} {t:Adr}
theorem ZD (T:Txt w K mg t):Bb P w K mg base CX0 1 t.Hs t.Ps ["text"] aw:=by
 refine T.Fv.ok gE (fun vs H Q E h=>?_) (fun cdv A outer s H vs Q E hr h=>?_)
 ·obtain ⟨x,rfl,_⟩:=h;rfl
 obtain ⟨x,rfl,hz,nt,q⟩:=h
 have hzz:∀ n:Nat,n ≤ 40000→n ≤ sizeLine:=fun n h=>Nat.le_trans h (by decide)
 refine ⟨_,(gb (Fb (Hk rfl (Sd (Ft PySem.F.plainAttrs_str PySem.F.slot_str_split PySem.F.type_str_split Nw (pv 0) (bb Cc fb))) (Nd (sc:=ib bv) rfl (by decide +kernel)) (N:=["row"]) (sel:=[none]) (He (M:=["text"]) (by decide +kernel)) (Blk.of (fun _ _ _ _=>(wb (i:=0) (Ai (N:=["row"]) (by decide +kernel) rfl) rfl (Or.inl rfl))) (fun _ _ _ _=>⟨_,di,by first | rfl | (dsimp only [Cx.block];done) | (dsimp only [Cx.block];exact rfl)⟩) (fun _ _ _ _=>⟨_,(Ft PySem.F.plainAttrs_str PySem.F.slot_str_split PySem.F.type_str_split Nw (pv 0) (bb Cc fb)),by first | rfl | (dsimp only [Cx.block];done) | (dsimp only [Cx.block];exact rfl)⟩))))),?_⟩
 (walk_at "RD")
 have hy:1 ≤ nl.length:=by rw [lw];exact Nat.le_refl _
 have hy2:1 ≤ bk.length:=by rw [cA];exact Nat.le_refl _
 have hs:=Sn (x:=x) hy
 have hs':(Ob (Txt.split x nl)).length ≤ sizeLine:=by unfold Ob;rw [List.length_map];exact hzz _ (by omega)
 refine ⟨by rw [lw];decide,hzz _ (by omega),hzz _ (show (Txt.split x nl).length ≤ 40000 by omega),fun p hp=>⟨⟨_,SqL.of db⟩,?_⟩⟩
 refine Hd.list_mk (xs:=Ob (Txt.split x nl)) (fun v=>match v with | .str r=>.lst (Ob (Txt.split r bk)) | _=>.lst []) (SqL.of db) hs' (fun v=>by cases v <;> rfl) (fun i v H1 N hx sm nt1 hN=>?_) (fun qs H1 sm nt1 hl al p2 hp2=>?_)
 ·unfold Ob at hx
  rw [List.getElem?_map] at hx
  cases hr:(Txt.split x nl)[i]? with
  | none=>rw [hr] at hx;cases hx
  | some r=>
   rw [hr] at hx
   have e:=Option.some.inj hx
   subst e
   have hm:=aG hy (List.mem_of_getElem? hr)
   have hs2:=Sn (x:=r) hy2
   (walk_at "RD")
   exact ⟨Sub.name,by rw [cA];decide,hzz _ (by omega),hzz _ (show (Txt.split r bk).length ≤ 40000 by omega),hN⟩
 ·have sm0:Rb H H1:=(qb hp).trans sm
  refine q _ _ (sm0.updN (sm0.free hp2)) ((nt1 (nt.upd)).upd) ⟨qs,db,sm0.free hp2,fun hm=>?_,?_,fun i q' r h1 h2=>?_⟩
  ·obtain ⟨j,hj,e⟩:=List.getElem_of_mem hm
   have hj2:j < (Ob (Txt.split x nl)).length:=by omega
   have:=al j p2 _ (by rw [List.getElem?_eq_getElem hj,e]) (List.getElem?_eq_getElem hj2)
   rw [hp2] at this
   cases this.1
  ·rw [hl];unfold ni Ob;rw [List.length_map,List.length_map]
  ·unfold ni at h2
   rw [List.getElem?_map] at h2
   cases hr:(Txt.split x nl)[i]? with
   | none=>rw [hr] at h2;cases h2
   | some r0=>
    rw [hr] at h2
    have e:=Option.some.inj h2
    subst e
    have z:=al i q' (.str r0) h1 (by unfold Ob;rw [List.getElem?_map,hr];rfl)
    refine ⟨by rw [jb (lb z.1 hp2)];exact z.1,?_⟩
    have:=z.2
    by_cases hq:q'=p
    ·rw [hq];exact hp
    ·rwa [jb hq] at this
end
end My
namespace My
open PySem L2
structure WD where
 k:Nat
 name:Str
 start:Int
 fin:Int
 off:Int
 near:Int
 least:Int
noncomputable def qd:Nat→Str
 | 0=>Str.ofString "car"
 | 1=>Str.ofString "foot"
 | _=>Str.ofString "tram"
noncomputable def Adr.cw (t:Adr):Nat→Addr
 | 0=>t.Hc
 | 1=>t.Yb
 | _=>t.Zb
noncomputable def dn (d:WD):List (Str × V):=[(Str.ofString "kind",.str (qd d.k)),(Str.ofString "name",.str d.name),(Str.ofString "start",.int d.start),(Str.ofString "end",.int d.fin),(Str.ofString "off",.int d.off),(Str.ofString "near",.int d.near),(Str.ofString "least",.int d.least)]
noncomputable abbrev gq:List Str:=[Str.ofString "kind",Str.ofString "name",Str.ofString "start",Str.ofString "end",Str.ofString "off",Str.ofString "near",Str.ofString "least"]
theorem sr (d:WD):(dn d).map (·.1)=gq:=rfl
noncomputable def Td (t:Adr) (H:Hp) (p:Addr) (d:WD):Prop:=d.k < 3∧∃ dx,H p=some (.ins (t.cw d.k) dx (dn d))
theorem Td.same {t:Adr} {H H':Hp} {p:Addr} {d:WD} (h:Td t H p d) (s:Rb H H'):Td t H' p d:=⟨h.1,h.2.imp fun dx e=>s _ _ e⟩
noncomputable def isW (t:Adr) (C:Addr):Prop:=∃ k,k < 3∧C=t.cw k
noncomputable def bc (d:WD):Int:=match d.k with | 0=>1 | 1=>0 | _=>2
noncomputable def Gd (d:WD):Int:=match d.k with | 0=>2 | 1=>d.off | _=>1
section
variable {w:World} {K:PySem.W.Frag} {mg:Str→Option Value} {t:Adr}
theorem Txt.clw (T:Txt w K mg t):∀ k,Cls K (t.cw k)
 | 0=>T.eo
 | 1=>T.km
 | _ + 2=>T.xm
theorem Txt.naw (T:Txt w K mg t) {f:Str} (hf:f ∈ gq):∀ k,zb K (t.cw k) f:=by
 intro k
 simp only [gq,List.mem_cons,List.not_mem_nil,or_false] at hf
 rcases hf with rfl | rfl | rfl | rfl | rfl | rfl | rfl
 ·match k with
  | 0=>exact T.bq
  | 1=>exact T.ap
  | _ + 2=>exact T.np
 ·match k with
  | 0=>exact T.aq
  | 1=>exact T.Pn
  | _ + 2=>exact T.mo
 ·match k with
  | 0=>exact T.yp
  | 1=>exact T.bn
  | _ + 2=>exact T.Zm
 ·match k with
  | 0=>exact T.Js
  | 1=>exact T.pq
  | _ + 2=>exact T.Vp
 ·match k with
  | 0=>exact T.ss
  | 1=>exact T.iq
  | _ + 2=>exact T.cq
 ·match k with
  | 0=>exact T.Np
  | 1=>exact T.Wn
  | _ + 2=>exact T.Ro
 ·match k with
  | 0=>exact T.Eo
  | 1=>exact T.xn
  | _ + 2=>exact T.jn
theorem Txt.cw_inj (T:Txt w K mg t) {j k:Nat} (hj:j < 3) (hk:k < 3) (e:t.cw j=t.cw k):j=k:=by
 match j,k,hj,hk with
 | 0,0,_,_=>rfl
 | 0,1,_,_=>exact absurd e T.nh
 | 0,2,_,_=>exact absurd e T.Dh
 | 1,0,_,_=>exact absurd e.symm T.nh
 | 1,1,_,_=>rfl
 | 1,2,_,_=>exact absurd e T.Vg
 | 2,0,_,_=>exact absurd e.symm T.Dh
 | 2,1,_,_=>exact absurd e.symm T.Vg
 | 2,2,_,_=>rfl
 | j + 3,_,h,_=>omega
 | _,k + 3,_,h=>omega
theorem Td.fld (T:Txt w K mg t) {H:Hp} {p:Addr} {d:WD} (h:Td t H p d) {f:Str} {v:V} (i:Nat) (hi:gq.findIdx? (· == f)=some i) (hv:(dn d)[i]? = some (f,v)):Bi K H p f v:=by
 obtain ⟨_,dx,e⟩:=h
 have hm:f ∈ gq:=by
  obtain ⟨hlt,h1,_⟩:=List.findIdx?_eq_some_iff_getElem.mp hi
  have:gq[i]=f:=by simpa using h1
  rw [← this];exact List.getElem_mem hlt
 exact ⟨_,dx,_,e,T.clw _,T.naw hm _,Bd gq i (sr d) hi hv⟩
theorem Td.f_name (T:Txt w K mg t) {H:Hp} {p:Addr} {d:WD} (h:Td t H p d):Bi K H p (Str.ofString "name") (.str d.name):=h.fld T 1 (by decide +kernel) rfl
theorem Td.f_start (T:Txt w K mg t) {H:Hp} {p:Addr} {d:WD} (h:Td t H p d):Bi K H p (Str.ofString "start") (.int d.start):=h.fld T 2 (by decide +kernel) rfl
theorem Td.f_end (T:Txt w K mg t) {H:Hp} {p:Addr} {d:WD} (h:Td t H p d):Bi K H p (Str.ofString "end") (.int d.fin):=h.fld T 3 (by decide +kernel) rfl
theorem Td.f_off (T:Txt w K mg t) {H:Hp} {p:Addr} {d:WD} (h:Td t H p d):Bi K H p (Str.ofString "off") (.int d.off):=h.fld T 4 (by decide +kernel) rfl
theorem Td.f_near (T:Txt w K mg t) {H:Hp} {p:Addr} {d:WD} (h:Td t H p d):Bi K H p (Str.ofString "near") (.int d.near):=h.fld T 5 (by decide +kernel) rfl
theorem Td.f_least (T:Txt w K mg t) {H:Hp} {p:Addr} {d:WD} (h:Td t H p d):Bi K H p (Str.ofString "least") (.int d.least):=h.fld T 6 (by decide +kernel) rfl
end
noncomputable def Qs (t:Adr):Sp:=fun vs H Q _=>∃ (p dx:Addr) (d:WD),vs=[.ref p,.str (qd d.k),.str d.name,.int d.start,.int d.fin,.int d.off,.int d.near,.int d.least]∧d.k < 3∧H p=some (.ins (t.cw d.k) dx [])∧Q .non (upd H p (.ins (t.cw d.k) dx (dn d)))
noncomputable def vj (t:Adr) (k:Nat):Sp:=fun vs H Q _=>∃ (p dx:Addr) (d:WD),vs=[.ref p,.str d.name,.int d.start,.int d.fin,.int d.off,.int d.near,.int d.least]∧d.k=k∧H p=some (.ins (t.cw d.k) dx [])∧Q .non (upd H p (.ins (t.cw d.k) dx (dn d)))
section
variable {P:Program} {w:World} {K:PySem.W.Frag} {mg:Str→Option Value} {base:Heap} {t:Adr}
theorem lv (T:Txt w K mg t):Bb P w K mg base CX0 1 t.Te t.bg ["self","kind","name","start","end","off","near","least"] (Qs t):=by
 refine T.ur.ok Xo (fun vs H Q E h=>?_) (fun cdv A outer s H vs Q E hr h=>?_)
 ·obtain ⟨p,dx,d,rfl,_⟩:=h;rfl
 obtain ⟨p,dx,d,rfl,hk,hp,q⟩:=h
 refine ⟨_,(cb (Oe (pv 0) (pv 1) rfl)
   (cb (Oe (pv 0) (pv 2) rfl)
   (cb (Oe (pv 0) (pv 3) rfl)
   (cb (Oe (pv 0) (pv 4) rfl)
   (cb (Oe (pv 0) (pv 5) rfl)
   (cb (Oe (pv 0) (pv 6) rfl)
   (gb (Oe (pv 0) (pv 7) rfl)))))))),?_⟩
 (walk_at "RD")
 have na:∀ {f:Str},f ∈ gq→zb K (t.cw d.k) f:=fun hf=>T.naw hf d.k
 refine ⟨_,_,_,hp,T.clw _,na (by decide +kernel),by decide,?_⟩
 refine ⟨_,_,_,db,T.clw _,na (by decide +kernel),Pl (n:=999) (by decide),?_⟩
 refine ⟨_,_,_,db,T.clw _,na (by decide +kernel),Pl (n:=999) (Pl (n:=998) (by decide)),?_⟩
 refine ⟨_,_,_,db,T.clw _,na (by decide +kernel),Pl (n:=999) (Pl (n:=998) (Pl (n:=997) (by decide))),?_⟩
 refine ⟨_,_,_,db,T.clw _,na (by decide +kernel),Pl (n:=999) (Pl (n:=998) (Pl (n:=997) (Pl (n:=996) (by decide)))),?_⟩
 refine ⟨_,_,_,db,T.clw _,na (by decide +kernel),Pl (n:=999) (Pl (n:=998) (Pl (n:=997) (Pl (n:=996) (Pl (n:=995) (by decide))))),?_⟩
 refine ⟨_,_,_,db,T.clw _,na (by decide +kernel),Pl (n:=999) (Pl (n:=998) (Pl (n:=997) (Pl (n:=996) (Pl (n:=995) (Pl (n:=994) (by decide)))))),?_⟩
 simp only [Li]
 rw [show ag (Str.ofString "kind") (V.str (qd d.k)) ([]:List (Str × V))=[(Str.ofString "kind",V.str (qd d.k))] from zc [] rfl (by decide +kernel),
  show ag (Str.ofString "name") (V.str d.name) ([(Str.ofString "kind",V.str (qd d.k))]:List (Str × V))=[(Str.ofString "kind",V.str (qd d.k)),(Str.ofString "name",V.str d.name)] from zc [Str.ofString "kind"] rfl (by decide +kernel),
  show ag (Str.ofString "start") (V.int d.start) ([(Str.ofString "kind",V.str (qd d.k)),(Str.ofString "name",V.str d.name)]:List (Str × V))=[(Str.ofString "kind",V.str (qd d.k)),(Str.ofString "name",V.str d.name),(Str.ofString "start",V.int d.start)] from zc [Str.ofString "kind",Str.ofString "name"] rfl (by decide +kernel),
  show ag (Str.ofString "end") (V.int d.fin) ([(Str.ofString "kind",V.str (qd d.k)),(Str.ofString "name",V.str d.name),(Str.ofString "start",V.int d.start)]:List (Str × V))=[(Str.ofString "kind",V.str (qd d.k)),(Str.ofString "name",V.str d.name),(Str.ofString "start",V.int d.start),(Str.ofString "end",V.int d.fin)] from zc [Str.ofString "kind",Str.ofString "name",Str.ofString "start"] rfl (by decide +kernel),
  show ag (Str.ofString "off") (V.int d.off) ([(Str.ofString "kind",V.str (qd d.k)),(Str.ofString "name",V.str d.name),(Str.ofString "start",V.int d.start),(Str.ofString "end",V.int d.fin)]:List (Str × V))=[(Str.ofString "kind",V.str (qd d.k)),(Str.ofString "name",V.str d.name),(Str.ofString "start",V.int d.start),(Str.ofString "end",V.int d.fin),(Str.ofString "off",V.int d.off)] from zc [Str.ofString "kind",Str.ofString "name",Str.ofString "start",Str.ofString "end"] rfl (by decide +kernel),
  show ag (Str.ofString "near") (V.int d.near) ([(Str.ofString "kind",V.str (qd d.k)),(Str.ofString "name",V.str d.name),(Str.ofString "start",V.int d.start),(Str.ofString "end",V.int d.fin),(Str.ofString "off",V.int d.off)]:List (Str × V))=[(Str.ofString "kind",V.str (qd d.k)),(Str.ofString "name",V.str d.name),(Str.ofString "start",V.int d.start),(Str.ofString "end",V.int d.fin),(Str.ofString "off",V.int d.off),(Str.ofString "near",V.int d.near)] from zc [Str.ofString "kind",Str.ofString "name",Str.ofString "start",Str.ofString "end",Str.ofString "off"] rfl (by decide +kernel),
  show ag (Str.ofString "least") (V.int d.least) ([(Str.ofString "kind",V.str (qd d.k)),(Str.ofString "name",V.str d.name),(Str.ofString "start",V.int d.start),(Str.ofString "end",V.int d.fin),(Str.ofString "off",V.int d.off),(Str.ofString "near",V.int d.near)]:List (Str × V))=[(Str.ofString "kind",V.str (qd d.k)),(Str.ofString "name",V.str d.name),(Str.ofString "start",V.int d.start),(Str.ofString "end",V.int d.fin),(Str.ofString "off",V.int d.off),(Str.ofString "near",V.int d.near),(Str.ofString "least",V.int d.least)] from zc [Str.ofString "kind",Str.ofString "name",Str.ofString "start",Str.ofString "end",Str.ofString "off",Str.ofString "near"] rfl (by decide +kernel)]
 exact q
theorem vG (T:Txt w K mg t):Bb P w K mg base CX0 2 t.Be t.Tf ["self","name","start","end","off","near","least"] (vj t 0):=by
 have G_Way_init:Bb P w K mg base CX0 1 t.Te t.bg ["self","kind","name","start","end","off","near","least"] (Qs t):=lv T
 refine T.Dl.ok Fl (fun vs H Q E h=>?_) (fun cdv A outer s H vs Q E hr h=>?_)
 ·obtain ⟨p,dx,d,rfl,_⟩:=h;rfl
 obtain ⟨p,dx,d,rfl,hk,hp,q⟩:=h
 refine ⟨_,(gb (kc (Ur rfl T.oG T.mm G_Way_init hr T.vm .nil Ab (bb (pv 0) (bb Cc (bb (pv 1) (bb (pv 2) (bb (pv 3) (bb (pv 4) (bb (pv 5) (bb (pv 6) fb))))))))))),?_⟩
 (walk_at "RD")
 exact ⟨p,dx,d,by rw [hk];rfl,by omega,hp,q⟩
theorem ID (T:Txt w K mg t):Bb P w K mg base CX0 2 t.ce t.qf ["self","name","start","end","off","near","least"] (vj t 1):=by
 have G_Way_init:Bb P w K mg base CX0 1 t.Te t.bg ["self","kind","name","start","end","off","near","least"] (Qs t):=lv T
 refine T.Hj.ok Ik (fun vs H Q E h=>?_) (fun cdv A outer s H vs Q E hr h=>?_)
 ·obtain ⟨p,dx,d,rfl,_⟩:=h;rfl
 obtain ⟨p,dx,d,rfl,hk,hp,q⟩:=h
 refine ⟨_,(gb (kc (Ur rfl T.oG T.mm G_Way_init hr T.vm .nil Ab (bb (pv 0) (bb Cc (bb (pv 1) (bb (pv 2) (bb (pv 3) (bb (pv 4) (bb (pv 5) (bb (pv 6) fb))))))))))),?_⟩
 (walk_at "RD")
 exact ⟨p,dx,d,by rw [hk];rfl,by omega,hp,q⟩
theorem pE (T:Txt w K mg t):Bb P w K mg base CX0 2 t.fe t.kf ["self","name","start","end","off","near","least"] (vj t 2):=by
 have G_Way_init:Bb P w K mg base CX0 1 t.Te t.bg ["self","kind","name","start","end","off","near","least"] (Qs t):=lv T
 refine T.fk.ok xk (fun vs H Q E h=>?_) (fun cdv A outer s H vs Q E hr h=>?_)
 ·obtain ⟨p,dx,d,rfl,_⟩:=h;rfl
 obtain ⟨p,dx,d,rfl,hk,hp,q⟩:=h
 refine ⟨_,(gb (kc (Ur rfl T.oG T.mm G_Way_init hr T.vm .nil Ab (bb (pv 0) (bb Cc (bb (pv 1) (bb (pv 2) (bb (pv 3) (bb (pv 4) (bb (pv 5) (bb (pv 6) fb))))))))))),?_⟩
 (walk_at "RD")
 exact ⟨p,dx,d,by rw [hk];rfl,by omega,hp,q⟩
end
noncomputable def qh (t:Adr) (C:Addr):Sp:=fun vs H Q _=>∃ p d,vs=[.ref p]∧Td t H p d∧C=t.cw d.k∧Q (.int (bc d)) H
noncomputable def nj (t:Adr) (C:Addr):Sp:=fun vs H Q _=>∃ p d,vs=[.ref p]∧Td t H p d∧C=t.cw d.k∧Q (.int (Gd d)) H
section
variable {P:Program} {w:World} {K:PySem.W.Frag} {mg:Str→Option Value} {base:Heap} {t:Adr}
theorem Zo (T:Txt w K mg t):Bb P w K mg base CX0 1 t.sf t.ah ["self"] (qh t (t.cw 0)):=by
 refine T.Dj.ok gp (fun vs H Q E h=>?_) (fun cdv A outer s H vs Q E hr h=>?_)
 ·obtain ⟨p,d,rfl,_⟩:=h;rfl
 obtain ⟨p,d,rfl,W,hC,q⟩:=h
 have hk:=(T.cw_inj (by decide) W.1 hC).symm
 refine ⟨_,(gb (Fb pb)),?_⟩
 rw [show bc d=1 by unfold bc;simp only [hk]] at q
 (walk_at "RD")
 exact q
theorem yn (T:Txt w K mg t):Bb P w K mg base CX0 1 t.Je t.vg ["self"] (qh t (t.cw 1)):=by
 refine T.jj.ok vn (fun vs H Q E h=>?_) (fun cdv A outer s H vs Q E hr h=>?_)
 ·obtain ⟨p,d,rfl,_⟩:=h;rfl
 obtain ⟨p,d,rfl,W,hC,q⟩:=h
 have hk:=(T.cw_inj (by decide) W.1 hC).symm
 refine ⟨_,(gb (Fb pb)),?_⟩
 rw [show bc d=0 by unfold bc;simp only [hk]] at q
 (walk_at "RD")
 exact q
theorem cn (T:Txt w K mg t):Bb P w K mg base CX0 1 t.Ee t.og ["self"] (qh t (t.cw 2)):=by
 refine T.Ni.ok gn (fun vs H Q E h=>?_) (fun cdv A outer s H vs Q E hr h=>?_)
 ·obtain ⟨p,d,rfl,_⟩:=h;rfl
 obtain ⟨p,d,rfl,W,hC,q⟩:=h
 have hk:=(T.cw_inj (by decide) W.1 hC).symm
 refine ⟨_,(gb (Fb pb)),?_⟩
 rw [show bc d=2 by unfold bc;simp only [hk]] at q
 (walk_at "RD")
 exact q
theorem Fz (T:Txt w K mg t):DD P w K mg base CX0 1 (isW t) "ready" ["self"] (qh t):=by
 refine ⟨fun C hC=>?_⟩
 obtain ⟨k,hk,rfl⟩:=hC
 match k,hk with
 | 0,_=>exact ⟨_,_,T.eo,T.kq,Zo T,T.xq⟩
 | 1,_=>exact ⟨_,_,T.km,T.vp,yn T,T.Mo⟩
 | 2,_=>exact ⟨_,_,T.xm,T.Co,cn T,T.Qo⟩
theorem wq (T:Txt w K mg t):Bb P w K mg base CX0 1 t.Wf t.Zh ["self"] (nj t (t.cw 0)):=by
 refine T.Bl.ok Jp (fun vs H Q E h=>?_) (fun cdv A outer s H vs Q E hr h=>?_)
 ·obtain ⟨p,d,rfl,_⟩:=h;rfl
 obtain ⟨p,d,rfl,W,hC,q⟩:=h
 have hk:=(T.cw_inj (by decide) W.1 hC).symm
 refine ⟨_,(gb (Fb pb)),?_⟩
 rw [show Gd d=2 by unfold Gd;simp only [hk]] at q
 (walk_at "RD")
 exact q
theorem lp (T:Txt w K mg t):Bb P w K mg base CX0 1 t.mf t.gh ["self"] (nj t (t.cw 1)):=by
 refine T.Qj.ok Xn (fun vs H Q E h=>?_) (fun cdv A outer s H vs Q E hr h=>?_)
 ·obtain ⟨p,d,rfl,_⟩:=h;rfl
 obtain ⟨p,d,rfl,W,hC,q⟩:=h
 have hk:=(T.cw_inj (by decide) W.1 hC).symm
 refine ⟨_,(gb (Fb (Nb (pv 0) rfl))),?_⟩
 rw [show Gd d=d.off by unfold Gd;simp only [hk]] at q
 (walk_at "RD")
 exact ⟨_,W.f_off T,q⟩
theorem Lo (T:Txt w K mg t):Bb P w K mg base CX0 1 t.gf t.mh ["self"] (nj t (t.cw 2)):=by
 refine T.Mj.ok Wo (fun vs H Q E h=>?_) (fun cdv A outer s H vs Q E hr h=>?_)
 ·obtain ⟨p,d,rfl,_⟩:=h;rfl
 obtain ⟨p,d,rfl,W,hC,q⟩:=h
 have hk:=(T.cw_inj (by decide) W.1 hC).symm
 refine ⟨_,(gb (Fb pb)),?_⟩
 rw [show Gd d=1 by unfold Gd;simp only [hk]] at q
 (walk_at "RD")
 exact q
theorem AF (T:Txt w K mg t):DD P w K mg base CX0 1 (isW t) "fade" ["self"] (nj t):=by
 refine ⟨fun C hC=>?_⟩
 obtain ⟨k,hk,rfl⟩:=hC
 match k,hk with
 | 0,_=>exact ⟨_,_,T.eo,T.Jr,wq T,T.Yr⟩
 | 1,_=>exact ⟨_,_,T.km,T.zq,lp T,T.Rp⟩
 | 2,_=>exact ⟨_,_,T.xm,T.Mp,Lo T,T.Xp⟩
end
noncomputable def jl (c:Nat):List (List Nat)→List Nat
 | []=>[]
 | [a]=>a
 | a :: b :: r=>a ++ c :: jl c (b :: r)
theorem lA {c:Nat}:∀ {a b X Y:List Nat},c ∉ a→c ∉ b→a ++ c :: X=b ++ c :: Y→a=b∧X=Y
 | [],[],X,Y,_,_,h=>⟨rfl,(List.cons.inj h).2⟩
 | [],d :: b,X,Y,_,hb,h=>absurd (List.cons.inj h).1 (fun z=>hb (by simp [← z]))
 | d :: a,[],X,Y,ha,_,h=>absurd (List.cons.inj h).1 (fun z=>ha (by simp [z]))
 | d :: a,e :: b,X,Y,ha,hb,h=>by
  obtain ⟨h1,h2⟩:=List.cons.inj h
  obtain ⟨e1,e2⟩:=lA (fun z=>ha (List.mem_cons_of_mem _ z)) (fun z=>hb (List.mem_cons_of_mem _ z)) h2
  exact ⟨by rw [h1,e1],e2⟩
theorem bF {c:Nat}:∀ {ps qs:List (List Nat)},(∀ p ∈ ps,c ∉ p)→(∀ q ∈ qs,c ∉ q)→ps ≠ []→qs ≠ []→jl c ps=jl c qs→ps=qs
 | [a],[b],_,_,_,_,h=>by rw [show a=b from h]
 | [a],b :: b' :: r,ha,_,_,_,h=>absurd (show c ∈ a by rw [show a=b ++ c :: jl c (b' :: r) from h];simp) (ha a (by simp))
 | a :: a' :: r,[b],_,hb,_,_,h=>absurd (show c ∈ b by rw [show b=a ++ c :: jl c (a' :: r) from h.symm];simp) (hb b (by simp))
 | a :: a' :: r,b :: b' :: s,ha,hb,_,_,h=>by
  obtain ⟨e1,e2⟩:=lA (ha a (by simp)) (hb b (by simp)) (show a ++ c :: jl c (a' :: r)=b ++ c :: jl c (b' :: s) from h)
  rw [e1,bF (fun p hp=>ha p (List.mem_cons_of_mem _ hp)) (fun q hq=>hb q (List.mem_cons_of_mem _ hq)) (by simp) (by simp) e2]
 | [],_,_,_,h,_,_=>absurd rfl h
 | _ :: _,[],_,_,_,h,_=>absurd rfl h
theorem LE {c d:Nat}:∀ {ps:List (List Nat)},d ∈ jl c ps→d=c∨∃ p ∈ ps,d ∈ p
 | [],h=>nomatch h
 | [a],h=>.inr ⟨a,by simp,h⟩
 | a :: b :: r,h=>by
  rcases List.mem_append.mp (show d ∈ a ++ c :: jl c (b :: r) from h) with h | h
  ·exact .inr ⟨a,by simp,h⟩
  ·rcases List.mem_cons.mp h with h | h
   ·exact .inl h
   ·rcases LE h with h | ⟨p,hp,h⟩
    ·exact .inl h
    ·exact .inr ⟨p,List.mem_cons_of_mem _ hp,h⟩
theorem cm (c:Nat):∀ ys:List Str,(Str.join ⟨#[c]⟩ ys).cps.toList=jl c (ys.map (·.cps.toList))
 | []=>rfl
 | [a]=>rfl
 | a :: b :: r=>by
  show (a ++ ⟨#[c]⟩ ++ Str.join ⟨#[c]⟩ (b :: r)).cps.toList=_
  rw [Str.cps_append,Array.toList_append,Str.cps_append,Array.toList_append,cm c (b :: r)]
  simp [jl]
theorem fz {x y:Str} (h:x.cps.toList=y.cps.toList):x=y:=by
 cases x;cases y
 exact congrArg Str.mk (Array.toList_inj.mp h)
theorem jr {c:Nat} {ys:List Str} (hn:ys ≠ []) (hf:∀ y ∈ ys,c ∉ y.cps.toList):Txt.split (Str.join ⟨#[c]⟩ ys) ⟨#[c]⟩=ys:=by
 have e:=congrArg (·.cps.toList) (StrLaws.join_split (Str.join ⟨#[c]⟩ ys) ⟨#[c]⟩)
 simp only [cm] at e
 have e2:=bF (c:=c) (ps:=(Txt.split (Str.join ⟨#[c]⟩ ys) ⟨#[c]⟩).map (·.cps.toList)) (qs:=ys.map (·.cps.toList)) (fun p hp=>by
  obtain ⟨y,hy,rfl⟩:=List.mem_map.mp hp
  exact StrLaws.split_free _ c y hy) (fun p hp=>by
  obtain ⟨y,hy,rfl⟩:=List.mem_map.mp hp
  exact hf y hy) (by simp [vD]) (by simpa using hn) e
 exact (List.map_inj_right fun x y h=>fz h).mp e2
noncomputable abbrev num (v:Int):Str:=Str.ofString (toString v)
theorem YG:∀ n,n < 1000→(decide (1 ≤ ((Nat.toDigits 10 n).map Char.toNat).length) && decide (((Nat.toDigits 10 n).map Char.toNat).length ≤ 3) && ((Nat.toDigits 10 n).map Char.toNat).all mn && (decide (((Nat.toDigits 10 n).map Char.toNat).length ≤ 1) || decide (((Nat.toDigits 10 n).map Char.toNat).headD 0 ≠ 48)) &&
  decide (NumText.digitsVal ((Nat.toDigits 10 n).map Char.toNat)=n))=true:=by decide +kernel
theorem Xv {v:Int} (h0:0 ≤ v) (h1:v < 1000):okB (num v)=true∧val (num v)=v:=by
 have e:=PySem.W.KIN.signs_num v.toNat
 rw [Int.toNat_of_nonneg h0] at e
 have a:=YG v.toNat (by omega)
 rw [← e,Bool.and_eq_true,decide_eq_true_eq] at a
 exact ⟨a.1,by show ((NumText.digitsVal (cs (num v)):Nat):Int)=v;rw [a.2];omega⟩
theorem Xl {v lo hi:Int} (h0:0 ≤ v) (h1:v < 1000) (hl:lo ≤ v) (hh:v ≤ hi):VB (num v) lo hi=.int v:=by
 obtain ⟨a,b⟩:=Xv h0 h1
 unfold VB
 rw [a,b,decide_eq_false (by omega:¬ v < lo),decide_eq_false (by omega:¬ hi < v)];rfl
theorem wH {u v:Int} (h0:0 ≤ u) (h1:u < 1000) (h2:0 ≤ v) (h3:v < 1000) (e:num u=num v):u=v:=by
 rw [← (Xv h0 h1).2,e,(Xv h2 h3).2]
theorem jw {v:Int} (h0:0 ≤ v) (h1:v < 1000):∀ c ∈ (num v).cps.toList,48 ≤ c∧c ≤ 57:=fun c hc=>by
 have:=List.all_eq_true.mp (cJ (Xv h0 h1).1).2 c hc
 simpa [mn] using this
theorem Ot:Ck.cps.toList=[97,98,99,100,101,102,103,104,105,106,107,108,109,110,111,112,113,114,115,116,117,118,119,120,121,122]:=by decide +kernel
theorem Wg {x:Str} (h:made x Ck 8=true):(1 ≤ x.length∧x.length ≤ 8)∧∀ c ∈ x.cps.toList,97 ≤ c∧c ≤ 122:=by
 unfold made at h
 split at h
 ·cases h
 ·rename_i h1
  split at h
  ·cases h
  ·rename_i h2
   have h3:¬ x.length=0:=fun z=>h1 (qL.mpr z)
   refine ⟨by omega,fun c hc=>?_⟩
   have:=List.all_eq_true.mp h c hc
   rw [dB,Ot] at this
   simp only [decide_eq_true_eq,List.mem_cons,List.not_mem_nil,or_false] at this
   omega
structure WOk (n:Int) (d:WD):Prop where
 k:d.k < 3
 nm:made d.name Ck 8=true
 st:0 ≤ d.start∧d.start < n
 fi:0 ≤ d.fin∧d.fin < n
 ne:d.start ≠ d.fin
 of:0 ≤ d.off∧d.off ≤ 30
 nr:0 ≤ d.near∧d.near ≤ 30
 le:1 ≤ d.least∧d.least ≤ 60
structure COk (n:Int) (ds:List WD):Prop where
 nn:2 ≤ n∧n ≤ 99
 ln:1 ≤ ds.length∧ds.length ≤ 12
 al:∀ d ∈ ds,WOk n d
 nd:(ds.map (·.name)).Nodup
noncomputable def Bj (d:WD):List Str:=[qd d.k,d.name,num d.start,num d.fin,num d.off,num d.near,num d.least]
noncomputable def Ol (n:Int) (ds:List WD):List (List Str):=[Str.ofString "ring",num n] :: ds.map Bj
noncomputable def Wd (n:Int) (ds:List WD):Str:=Str.join nl ((Ol n ds).map (Str.join bk))
noncomputable def Ay (x:Str):Prop:=x.length ≤ 8∧(32:Nat) ∉ x.cps.toList∧(10:Nat) ∉ x.cps.toList
theorem Hq (k:Nat):Ay (qd k):=by
 match k with
 | 0=>exact ⟨by decide +kernel,by decide +kernel,by decide +kernel⟩
 | 1=>exact ⟨by decide +kernel,by decide +kernel,by decide +kernel⟩
 | _ + 2=>exact ⟨show (Str.ofString "tram").length ≤ 8 by decide +kernel,show (32:Nat) ∉ (Str.ofString "tram").cps.toList by decide +kernel,show (10:Nat) ∉ (Str.ofString "tram").cps.toList by decide +kernel⟩
theorem Df {v:Int} (h0:0 ≤ v) (h1:v < 1000):Ay (num v):=
 ⟨Nat.le_trans (SG h0 (by omega)) (by decide),fun z=>by have:=jw h0 h1 _ z;omega,fun z=>by have:=jw h0 h1 _ z;omega⟩
theorem Lq {x:Str} (h:made x Ck 8=true):Ay x:=
 ⟨(Wg h).1.2,fun z=>by have:=(Wg h).2 _ z;omega,fun z=>by have:=(Wg h).2 _ z;omega⟩
theorem WOk.plain {n:Int} {d:WD} (h:WOk n d) (hn:n ≤ 99):∀ x ∈ Bj d,Ay x:=fun x hx=>by
 have h1:=h.st;have h2:=h.fi;have h3:=h.of;have h4:=h.nr;have h5:=h.le
 simp only [Bj,List.mem_cons,List.not_mem_nil,or_false] at hx
 rcases hx with rfl | rfl | rfl | rfl | rfl | rfl | rfl
 ·exact Hq _
 ·exact Lq h.nm
 ·exact Df (by omega) (by omega)
 ·exact Df (by omega) (by omega)
 ·exact Df (by omega) (by omega)
 ·exact Df (by omega) (by omega)
 ·exact Df (by omega) (by omega)
theorem COk.plain {n:Int} {ds:List WD} (h:COk n ds):∀ r ∈ Ol n ds,∀ x ∈ r,Ay x:=fun r hr x hx=>by
 have hn:=h.nn
 rcases List.mem_cons.mp hr with rfl | hr
 ·simp only [List.mem_cons,List.not_mem_nil,or_false] at hx
  rcases hx with rfl | rfl
  ·exact ⟨by decide +kernel,by decide +kernel,by decide +kernel⟩
  ·exact Df (by omega) (by omega)
 ·obtain ⟨d,hd,rfl⟩:=List.mem_map.mp hr
  exact (h.al d hd).plain hn.2 x hx
theorem DA {rs:List (List Str)} (h0:rs ≠ []) (h1:∀ r ∈ rs,r ≠ []) (h2:∀ r ∈ rs,∀ x ∈ r,Ay x):ni (Str.join nl (rs.map (Str.join bk)))=rs:=by
 unfold ni
 rw [FI,qJ]
 rw [jr (by simpa using h0) (fun y hy=>by
  obtain ⟨r,hr,rfl⟩:=List.mem_map.mp hy
  rw [cm]
  intro z
  rcases LE z with z | ⟨p,hp,z⟩
  ·cases z
  ·obtain ⟨x,hx,rfl⟩:=List.mem_map.mp hp
   exact (h2 r hr x hx).2.2 z)]
 rw [List.map_map]
 have:∀ r ∈ rs,((fun r=>Txt.split r ⟨#[32]⟩) ∘ Str.join ⟨#[32]⟩) r=r:=fun r hr=>jr (h1 r hr) fun x hx=>(h2 r hr x hx).2.1
 exact (List.map_congr_left this).trans (List.map_id rs)
theorem Gx {n:Int} {ds:List WD} (h:COk n ds):ni (Wd n ds)=Ol n ds:=DA (by simp [Ol]) (fun r hr=>by
 rcases List.mem_cons.mp hr with rfl | hr
 ·simp
 ·obtain ⟨d,hd,rfl⟩:=List.mem_map.mp hr
  simp [Bj]) h.plain
theorem jv (sep:Str) (B:Nat):∀ ys:List Str,(∀ y ∈ ys,y.length ≤ B)→(Str.join sep ys).length ≤ ys.length * (B + sep.length)
 | [],_=>by show (Str.empty).length ≤ _;exact Nat.zero_le _
 | [a],h=>by
  have:=h a (by simp)
  show a.length ≤ _
  simp only [List.length_cons,List.length_nil];omega
 | a :: b :: r,h=>by
  have h1:=h a (by simp)
  have h2:=jv sep B (b :: r) fun y hy=>h y (List.mem_cons_of_mem _ hy)
  show (a ++ sep ++ Str.join sep (b :: r)).length ≤ _
  rw [kh,kh,List.length_cons,Nat.succ_mul]
  omega
theorem Oz {n:Int} {ds:List WD} (h:COk n ds):(Wd n ds).length ≤ 1000:=by
 have h1:∀ y ∈ (Ol n ds).map (Str.join bk),y.length ≤ 63:=fun y hy=>by
  obtain ⟨r,hr,rfl⟩:=List.mem_map.mp hy
  have:=jv bk 8 r fun x hx=>(h.plain r hr x hx).1
  rw [cA] at this
  have hl:r.length ≤ 7:=by
   rcases List.mem_cons.mp hr with rfl | hr
   ·simp
   ·obtain ⟨d,hd,rfl⟩:=List.mem_map.mp hr
    simp [Bj]
  omega
 have h2:=jv nl 63 _ h1
 rw [lw] at h2
 have h3:((Ol n ds).map (Str.join bk)).length ≤ 13:=by
  have:=h.ln
  simp [Ol];omega
 unfold Wd
 omega
end My
namespace My
open PySem L2
noncomputable abbrev Ux:List Str:=[Str.ofString "row",Str.ofString "told",Str.ofString "place"]
noncomputable def rdF (row:Int) (ta:Addr) (pl:Int):List (Str × V):=[(Str.ofString "row",.int row),(Str.ofString "told",.ref ta),(Str.ofString "place",.int pl)]
theorem Sk (row:Int) (ta:Addr) (pl:Int):(rdF row ta pl).map (·.1)=Ux:=rfl
theorem zH (row:Int) (ta:Addr) (pl v:Int):ag (Str.ofString "place") (.int v) (rdF row ta pl)=rdF row ta v:=by
 unfold rdF
 simp only [ag]
 rw [if_neg (by decide +kernel),if_neg (by decide +kernel)];rfl
noncomputable def eg (t:Adr) (H:Hp) (p:Addr) (row:Int) (ws:List Str) (pl:Nat):Prop:=
 (ws.length ≤ 1000∧∀ x ∈ ws,x.length ≤ 1000)∧∃ dx ta,H p=some (.ins t.yb dx (rdF row ta pl))∧H ta=some (.lst (Ob ws))
noncomputable def bd (p:Addr) (H H':Hp):Prop:=∀ b u,b ≠ p→H b=some u→H' b=some u
theorem bd.trans {p:Addr} {H H1 H2:Hp} (a:bd p H H1) (b:bd p H1 H2):bd p H H2:=fun c u n e=>b c u n (a c u n e)
theorem bd.of {p:Addr} {H H1:Hp} (a:Rb H H1):bd p H H1:=fun c u _ e=>a c u e
theorem bd.put {p:Addr} {H:Hp} {o:HO}:bd p H (upd H p o):=fun c u n e=>by rw [jb n];exact e
theorem bp (ws:List Str):(Ob ws).length=ws.length:=by unfold Ob;rw [List.length_map]
theorem YD {ws:List Str} {i:Nat} {x:Str} (h:ws[i]? = some x):(Ob ws)[i]? = some (.str x):=by unfold Ob;rw [List.getElem?_map,h];rfl
theorem Iq (ws:List Str):(Ob ws).all Ak=true:=by unfold Ob;simp [Ak]
theorem Mw (x:Str) (xs:List Str):inV (.str x) (Ob xs)=decide (x ∈ xs):=by
 unfold inV Ob
 rw [List.any_map,Bool.eq_iff_iff]
 simp only [List.any_eq_true,Function.comp,eqV,beq_iff_eq,decide_eq_true_eq]
 constructor
 ·rintro ⟨y,hy,rfl⟩;exact hy
 ·intro h;exact ⟨x,h,rfl⟩
section
variable {w:World} {K:PySem.W.Frag} {mg:Str→Option Value} {t:Adr} {H H':Hp} {p:Addr} {row:Int} {ws:List Str} {pl:Nat}
theorem eg.same (h:eg t H p row ws pl) (s:Rb H H'):eg t H' p row ws pl:=by
 obtain ⟨hz,dx,ta,e1,e2⟩:=h
 exact ⟨hz,dx,ta,s _ _ e1,s _ _ e2⟩
theorem eg.sameX {q:Addr} (h:eg t H p row ws pl) (s:bd q H H') (n:p ≠ q) (k:∃ C dx fs,H q=some (.ins C dx fs)):eg t H' p row ws pl:=by
 obtain ⟨hz,dx,ta,e1,e2⟩:=h
 obtain ⟨C,dq,fs,e3⟩:=k
 exact ⟨hz,dx,ta,s _ _ n e1,s _ _ (Yf e2 e3 (by intro z;cases z)) e2⟩
theorem eg.ins (h:eg t H p row ws pl):∃ C dx fs,H p=some (.ins C dx fs):=by
 obtain ⟨hz,dx,ta,e1,e2⟩:=h
 exact ⟨_,_,_,e1⟩
theorem eg.no {m:Str} (row:Int) (ta:Addr) (pl:Int) (h:Ux.contains m=false):(rdF row ta pl).lookup m=none:=dl Ux (Sk ..) h
theorem Es (T:Txt w K mg t) {dx ta:Addr} {pl:Int} (e:H p=some (.ins t.yb dx (rdF row ta pl))):Bi K H p (Str.ofString "place") (.int pl):=
 ⟨_,dx,_,e,T.xb,T.Ge,Bd Ux 2 (Sk ..) (by decide +kernel) rfl⟩
theorem gv (T:Txt w K mg t) {dx ta:Addr} {pl:Int} (e:H p=some (.ins t.yb dx (rdF row ta pl))):Bi K H p (Str.ofString "told") (.ref ta):=
 ⟨_,dx,_,e,T.xb,T.yh,Bd Ux 1 (Sk ..) (by decide +kernel) rfl⟩
end
noncomputable def BE (t:Adr):Sp:=fun vs H Q _=>∃ (p dx ta:Addr) (row:Int),vs=[.ref p,.int row,.ref ta]∧H p=some (.ins t.yb dx [])∧Q .non (upd H p (.ins t.yb dx (rdF row ta 0)))
noncomputable def El (t:Adr):Sp:=fun vs H Q _=>∃ p row ws pl,vs=[.ref p]∧eg t H p row ws pl∧pl ≤ ws.length∧Q (.str (ws.getD pl (Str.ofString ""))) H
noncomputable def gz (t:Adr):Sp:=fun vs H Q _=>∃ p row ws pl,vs=[.ref p]∧eg t H p row ws pl∧Q (.bl (decide (pl < ws.length))) H
noncomputable def lL (t:Adr) (H:Hp) (p:Addr) (row:Int) (ws:List Str) (pl:Nat) (R:Hp→Prop):Prop:=∀ H',bd p H H'→(NoT H→NoT H')→eg t H' p row ws pl→R H'
noncomputable def Qr (t:Adr):Sp:=fun vs H Q _=>∃ p row ws pl,vs=[.ref p,.bl true]∧eg t H p row ws pl∧lL t H p row ws (pl + 1) (Q .non)
noncomputable def Cs (K:PySem.W.Frag) (t:Adr):Sp:=fun vs H Q _=>∃ p row ws pl x c xs,vs=[.ref p,.ref c]∧eg t H p row ws pl∧ws[pl]? = some x∧SqL K H c (Ob xs)∧x ∈ xs∧lL t H p row ws (pl + 1) (Q (.str x))
noncomputable def Ir (t:Adr):Sp:=fun vs H Q _=>∃ p row ws pl x lo hi v,vs=[.ref p,.int lo,.int hi]∧eg t H p row ws pl∧ws[pl]? = some x∧VB x lo hi=.int v∧NoT H∧lL t H p row ws (pl + 1) (Q (.int v))
noncomputable def GA (t:Adr):Sp:=fun vs H Q _=>∃ p row ws pl,vs=[.ref p]∧eg t H p row ws pl∧pl=ws.length∧Q .non H
section
variable {P:Program} {w:World} {K:PySem.W.Frag} {mg:Str→Option Value} {base:Heap} {t:Adr}
theorem KJ (T:Txt w K mg t):Bb P w K mg base CX0 1 t.vd t.ie ["self","row","told"] (BE t):=by
 refine T.mi.ok Yi (fun vs H Q E h=>?_) (fun cdv A outer s H vs Q E hr h=>?_)
 ·obtain ⟨p,dx,ta,row,rfl,_⟩:=h;rfl
 obtain ⟨p,dx,ta,row,rfl,hp,q⟩:=h
 refine ⟨_,(cb (Oe (pv 0) (pv 1) rfl)
   (cb (Oe (pv 0) (pv 2) rfl)
   (gb (Oe (pv 0) pb rfl)))),?_⟩
 (walk_at "RD")
 refine ⟨_,_,_,hp,T.xb,T.wn,by decide,?_⟩
 refine ⟨_,_,_,db,T.xb,T.yh,Pl (n:=999) (by decide),?_⟩
 refine ⟨_,_,_,db,T.xb,T.Ge,Pl (n:=999) (Pl (n:=998) (by decide)),?_⟩
 simp only [Li]
 rw [show ag (Str.ofString "row") (V.int row) ([]:List (Str × V))=[(Str.ofString "row",V.int row)] from zc [] rfl (by decide +kernel),
  show ag (Str.ofString "told") (V.ref ta) ([(Str.ofString "row",V.int row)]:List (Str × V))=[(Str.ofString "row",V.int row),(Str.ofString "told",V.ref ta)] from zc [Str.ofString "row"] rfl (by decide +kernel),
  show ag (Str.ofString "place") (V.int 0) ([(Str.ofString "row",V.int row),(Str.ofString "told",V.ref ta)]:List (Str × V))=[(Str.ofString "row",V.int row),(Str.ofString "told",V.ref ta),(Str.ofString "place",V.int 0)] from zc [Str.ofString "row",Str.ofString "told"] rfl (by decide +kernel)]
 exact q
theorem Bn (T:Txt w K mg t):Bb P w K mg base CX0 1 t.Sb t.wc ["self"] (El t):=by
 refine T.zh.ok Tk (fun vs H Q E h=>?_) (fun cdv A outer s H vs Q E hr h=>?_)
 ·obtain ⟨p,row,ws,pl,rfl,_⟩:=h;rfl
 obtain ⟨p,row,ws,pl,rfl,⟨hz,dx,ta,e1,e2⟩,hle,q⟩:=h
 refine ⟨_,(cb (re (Xb Di (Nb (pv 0) rfl) (ic ac rfl T.Wl Lc (bb (Nb (pv 0) rfl) fb)) (dc _)) (gb (Fb Cc)) fc)
   (gb (Fb (Cd Ld (Nb (pv 0) rfl) (Nb (pv 0) rfl) (fun _ _=>rfl))))),?_⟩
 (walk_at "RD")
 refine Ub (decide ((pl:Int)=(ws.length:Int))) (fun Q hQ=>?_) (fun c=>?_) (fun c=>?_)
 ·(walk_at "RD")
  refine ⟨_,Es T e1,_,gv T e1,_,rfl,_,.inl (SqL.of e2),rfl,?_⟩
  rw [bp]
  (walk_at "RD")
  exact hQ
 ·(walk_at "RD")
  have c':pl=ws.length:=by have:=of_decide_eq_true c;omega
  rw [show ws.getD pl (Str.ofString "")=Str.ofString "" by rw [List.getD_eq_getElem?_getD,List.getElem?_eq_none (by omega)];rfl] at q
  exact q
 ·(walk_at "RD")
  have c':pl < ws.length:=by have:=of_decide_eq_false c;omega
  have hx:ws[pl]? = some ws[pl]:=List.getElem?_eq_getElem c'
  rw [List.getD_eq_getElem?_getD,hx] at q
  exact ⟨_,gv T e1,_,Es T e1,_,rfl,_,_,rfl,SqL.of e2,_,gc (YD hx),q⟩
theorem yG (T:Txt w K mg t):Bb P w K mg base CX0 1 t.Fc t.Yc ["self"] (gz t):=by
 refine T.Rf.ok Xi (fun vs H Q E h=>?_) (fun cdv A outer s H vs Q E hr h=>?_)
 ·obtain ⟨p,row,ws,pl,rfl,_⟩:=h;rfl
 obtain ⟨p,row,ws,pl,rfl,⟨hz,dx,ta,e1,e2⟩,q⟩:=h
 refine ⟨_,(gb (Fb (Ke bu (Nb (pv 0) rfl) (ic ac rfl T.Wl Lc (bb (Nb (pv 0) rfl) fb)) (dc _)))),?_⟩
 (walk_at "RD")
 have e:decide (pl < ws.length)=decide ((pl:Int) < (ws.length:Int)):=by rw [Bool.eq_iff_iff];simp
 rw [e] at q
 refine ⟨_,Es T e1,_,gv T e1,_,rfl,_,.inl (SqL.of e2),?_⟩
 rw [bp]
 exact ⟨_,rfl,q⟩
theorem Tv (T:Txt w K mg t):Bb P w K mg base CX0 1 t.Ec t.Pc ["self","good"] (Qr t):=by
 refine T.xi.ok zm (fun vs H Q E h=>?_) (fun cdv A outer s H vs Q E hr h=>?_)
 ·obtain ⟨p,row,ws,pl,rfl,_⟩:=h;rfl
 obtain ⟨p,row,ws,pl,rfl,⟨hz,dx,ta,e1,e2⟩,q⟩:=h
 refine ⟨_,(cb (re (ql (ph (pv 1))) (gb kj) fc)
   (gb (JA (pv 0) pb nK))),?_⟩
 (walk_at "RD")
 refine Ub false (fun Q hQ=>?_) (fun hc=>nomatch hc) (fun _=>?_)
 ·(walk_at "RD")
  exact hQ
 ·(walk_at "RD")
  refine ⟨_,_,_,e1,T.xb,T.Ge,_,Bd Ux 2 (Sk ..) (by decide +kernel) rfl,_,rfl,_,_,e1,by rw [← List.length_map (f:=(·.1)),Sk];decide,?_⟩
  rw [zH]
  exact q _ bd.put (fun n=>n.upd) ⟨hz,dx,ta,db,by rw [jb (Yf e2 e1 (by intro z;cases z))];exact e2⟩
theorem Jw (T:Txt w K mg t):Bb P w K mg base CX0 2 t.Ac t.Vc ["self","choices"] (Cs K t):=by
 have G_RowReader_ahead:Bb P w K mg base CX0 1 t.Sb t.wc ["self"] (El t):=Bn T
 have G_RowReader_take:Bb P w K mg base CX0 1 t.Ec t.Pc ["self","good"] (Qr t):=Tv T
 refine T.Fg.ok cg (fun vs H Q E h=>?_) (fun cdv A outer s H vs Q E hr h=>?_)
 ·obtain ⟨p,row,ws,pl,x,c,xs,rfl,_⟩:=h;rfl
 obtain ⟨p,row,ws,pl,x,c,xs,rfl,R,hx,hc,hm,q⟩:=h
 refine ⟨_,(cb (Db (i:=2) cg.nd rfl (Or.inl rfl) (je (pv 0) T.xb T.Vd G_RowReader_ahead hr T.Ud .nil Ab))
   (cb (kc (Nc (pv 0) T.xb T.Nf G_RowReader_take hr T.Of .nil Ab (bb (Ke zp (pv 2) (pv 1) (by with_unfolding_all rfl)) fb)))
   (gb (Fb (pv 2))))),?_⟩
 have hlt:pl < ws.length:=(List.getElem?_eq_some_iff.mp hx).1
 have hg:ws.getD pl (Str.ofString "")=x:=by rw [List.getD_eq_getElem?_getD,hx];rfl
 obtain ⟨_,dx,ta,e1,e2⟩:=id R
 (walk_at "RD")
 refine ⟨_,_,e1,eg.no _ _ _ (by decide +kernel),⟨p,row,ws,pl,rfl,R,by omega,?_⟩⟩
 rw [hg]
 (walk_at "RD")
 refine ⟨_,_,e1,eg.no _ _ _ (by decide +kernel),_,.inl hc,rfl,Iq xs,?_⟩
 rw [Mw,decide_eq_true hm]
 refine ⟨p,row,ws,pl,rfl,R,fun H' s1 s2 s3=>?_⟩
 (walk_at "RD")
 exact q H' s1 s2 s3
theorem Ku (T:Txt w K mg t):Bb P w K mg base CX0 4 t.Pb t.qc ["self","low","high"] (Ir t):=by
 have G_RowReader_ahead:Bb P w K mg base CX0 3 t.Sb t.wc ["self"] (El t):=(Bn T).mono (by decide)
 have G_RowReader_take:Bb P w K mg base CX0 3 t.Ec t.Pc ["self","good"] (Qr t):=(Tv T).mono (by decide)
 have G_figured:Bb P w K mg base CX0 3 t.Ml t.Kk ["word","low","high"] FE:=vI T
 refine T.wg.ok Sf (fun vs H Q E h=>?_) (fun cdv A outer s H vs Q E hr h=>?_)
 ·obtain ⟨p,row,ws,pl,x,lo,hi,v,rfl,_⟩:=h;rfl
 obtain ⟨p,row,ws,pl,x,lo,hi,v,rfl,R,hx,hv,nt,q⟩:=h
 refine ⟨_,(cb (Db (i:=3) Sf.nd rfl (Or.inl rfl) (ub G_figured hr rfl T.Vz T.vo.kp T.oB .nil Ab (bb (je (pv 0) T.xb T.Vd G_RowReader_ahead hr T.Ud .nil Ab) (bb (pv 1) (bb (pv 2) fb)))))
   (cb (kc (Nc (pv 0) T.xb T.Nf G_RowReader_take hr T.Of .nil Ab (bb (Ke HF (pv 3) ix (dc _)) fb)))
   (gb (Fb (pv 3))))),?_⟩
 have hlt:pl < ws.length:=(List.getElem?_eq_some_iff.mp hx).1
 have hg:ws.getD pl (Str.ofString "")=x:=by rw [List.getD_eq_getElem?_getD,hx];rfl
 obtain ⟨hz,dx,ta,e1,e2⟩:=id R
 (walk_at "RD")
 refine ⟨_,_,e1,eg.no _ _ _ (by decide +kernel),⟨p,row,ws,pl,rfl,R,by omega,?_⟩⟩
 rw [hg]
 (walk_at "RD")
 refine ⟨x,lo,hi,rfl,hz.2 x (List.mem_of_getElem? hx),nt,?_⟩
 rw [hv]
 (walk_at "RD")
 refine ⟨_,_,e1,eg.no _ _ _ (by decide +kernel),?_⟩
 refine ⟨p,row,ws,pl,rfl,R,fun H' s1 s2 s3=>?_⟩
 (walk_at "RD")
 exact q H' s1 s2 s3
theorem DF (T:Txt w K mg t):Bb P w K mg base CX0 2 t.Bc t.Tc ["self"] (GA t):=by
 have G_RowReader_has_more:Bb P w K mg base CX0 1 t.Fc t.Yc ["self"] (gz t):=yG T
 refine T.Pg.ok wk (fun vs H Q E h=>?_) (fun cdv A outer s H vs Q E hr h=>?_)
 ·obtain ⟨p,row,ws,pl,rfl,_⟩:=h;rfl
 obtain ⟨p,row,ws,pl,rfl,R,hl,q⟩:=h
 obtain ⟨hz,dx,ta,e1,e2⟩:=id R
 refine ⟨_,(gb (re (ph (je (pv 0) T.xb T.yj G_RowReader_has_more hr T.zj .nil Ab)) (gb kj) fc)),?_⟩
 (walk_at "RD")
 refine Ub false (fun Q hQ=>?_) (fun hc=>nomatch hc) (fun _=>?_)
 ·(walk_at "RD")
  refine ⟨_,_,e1,eg.no _ _ _ (by decide +kernel),⟨p,row,ws,pl,rfl,R,?_⟩⟩
  rw [decide_eq_false (by omega)]
  exact ⟨_,rfl,hQ⟩
 ·(walk_at "RD")
  exact q
end
end My
namespace My
open PySem L2
theorem Vb {α β:Type} {f:α→β} {l:List α} {i:Nat} {y:β} (h:(l.map f)[i]? = some y):∃ x,l[i]? = some x∧y=f x:=by
 rw [List.getElem?_map] at h
 cases e:l[i]? with
 | none=>rw [e] at h;cases h
 | some x=>rw [e] at h;exact ⟨x,rfl,(Option.some.inj h).symm⟩
noncomputable def KL (t:Adr) (H0 H:Hp) (p:Addr) (rows:List (List Str)):Prop:=∃ qs:List Addr,H p=some (.lst (qs.map V.ref))∧H0 p=none∧qs.length=rows.length∧∀ (i:Nat) (q:Addr) (r:List Str),qs[i]? = some q→rows[i]? = some r→eg t H q i r 0∧H0 q=none
noncomputable def Uq (t:Adr):Sp:=fun vs H Q _=>∃ x,vs=[.str x]∧x.length ≤ 20000∧(∀ r ∈ ni x,r.length ≤ 1000∧∀ y ∈ r,y.length ≤ 1000)∧NoT H∧∀ p H',Rb H H'→NoT H'→KL t H H' p (ni x)→Q (.ref p) H'
section
variable {P:Program} {w:World} {K:PySem.W.Frag} {mg:Str→Option Value} {base:Heap} {t:Adr}
theorem Ey (T:Txt w K mg t):Bb P w K mg base CX0 3 t.il t.Xk ["text"] (Uq t):=by
 have G_words:Bb P w K mg base CX0 2 t.Hs t.Ps ["text"] aw:=(ZD T).mono (by decide)
 have G_RowReader_init:Bb P w K mg base CX0 1 t.vd t.ie ["self","row","told"] (BE t):=KJ T
 refine T.zo.ok zx (fun vs H Q E h=>?_) (fun cdv A outer s H vs Q E hr h=>?_)
 ·obtain ⟨x,rfl,_⟩:=h;rfl
 obtain ⟨x,rfl,hz,hrow,nt,q⟩:=h
 refine ⟨_,(gb (Fb (Hk rfl (oo rfl T.fg (bb (ub G_words hr rfl T.oH T.Fv.kp T.rG .nil Ab (bb (pv 0) fb)) fb)) (Nd (sc:=ib Ap) rfl (by decide +kernel)) (N:=["row","told"]) (sel:=[none,none]) (He (M:=["text"]) (by decide +kernel)) (Blk.of (fun _ _ _ _=>(af (K:=K) (n:=2) rfl rfl (Jb (wb (i:=0) (Ai (N:=["row","told"]) (by decide +kernel) rfl) rfl (Or.inl rfl) (.inr rfl)) (Jb (wb (i:=1) (Ai (N:=["row","told"]) (by decide +kernel) rfl) rfl (Or.inl rfl) (.inr rfl)) We)))) (fun _ _ _ _=>⟨_,di,by first | rfl | (dsimp only [Cx.block];done) | (dsimp only [Cx.block];exact rfl)⟩) (fun _ _ _ _=>⟨_,(dm T.Xu G_RowReader_init hr rfl T.mv T.rn .nil Ab (bb (pv 0) (bb (pv 1) fb))),by first | rfl | (dsimp only [Cx.block];done) | (dsimp only [Cx.block];exact rfl)⟩))))),?_⟩
 (walk_at "RD")
 refine ⟨x,rfl,hz,nt,fun p H1 sm1 nt1 ⟨ps,hp,hp0,hpn,hpl,hpa⟩=>?_⟩
 (walk_at "RD")
 refine ⟨⟨_,SqL.of hp⟩,?_⟩
 have hlen:ps.length ≤ sizeLine:=by
  rw [hpl]
  unfold ni
  rw [List.length_map]
  have:=Sn (x:=x) (y:=nl) (by rw [lw];exact Nat.le_refl _)
  exact Nat.le_trans (show _ ≤ 40000 by omega) (by decide)
 refine Hd.enum (xs:=ps.map V.ref) (fun i ys H2=>Rb H1 H2∧NoT H2∧∃ qs:List Addr,ys=qs.map V.ref∧qs.length=i∧∀ (j:Nat) (q:Addr) (r:List Str),qs[j]? = some q→(ni x)[j]? = some r→eg t H2 q j r 0∧H1 q=none)
  (by rw [List.length_map];exact hlen) ⟨Rb.refl H1,nt1,[],rfl,rfl,fun j q r h _=>by simp at h⟩ ?_ ?_ ?_
 ·rintro i ys H2 hi ⟨s2,n2,qs,rfl,hq,_⟩
  exact ⟨SqL.of (s2 _ _ hp),by rw [List.length_map];omega⟩
 ·rintro i v ys H2 p2 hv ⟨s2,n2,qs,rfl,hq,al⟩ hp2 N hN
  rw [List.getElem?_map] at hv
  cases hpi:ps[i]? with
  | none=>rw [hpi] at hv;cases hv
  | some pi=>
   rw [hpi] at hv
   have e:=(Option.some.inj hv).symm
   subst e
   refine Zi ?_
   (walk_at "RD")
   refine ⟨Sub.name2,fun a dx ha hd hne=>?_⟩
   refine ⟨a,dx,pi,i,rfl,db,rfl,?_⟩
   rw [Li]
   have s3:Rb H2 (upd (upd (upd H2 p2 (.tup [.int i,.ref pi])) dx (.own a)) a (.ins t.yb dx (rdF i pi 0))):=by
    have s':Rb H2 (upd H2 p2 (.tup [.int i,.ref pi])):=qb hp2
    exact ((Rb.trans s' (qb hd)).updN (s'.free ha))
   obtain ⟨r,hr⟩:∃ r,(ni x)[i]? = some r:=⟨(ni x)[i]'(by rw [← hpl];exact (List.getElem?_eq_some_iff.mp hpi).1),List.getElem?_eq_getElem _⟩
   have ha2:H2 a=none:=(qb hp2).free ha
   refine hN _ _ ⟨s2.trans s3,((n2.upd).upd).upd,qs ++ [a],by rw [List.map_append];rfl,by rw [List.length_append,hq];rfl,fun j q' r' h1 h2=>?_⟩
   by_cases hj:j < qs.length
   ·rw [List.getElem?_append_left hj] at h1
    obtain ⟨z1,z2⟩:=al j q' r' h1 h2
    exact ⟨z1.same s3,z2⟩
   ·rw [List.getElem?_append_right (by omega)] at h1
    have hj0:j - qs.length=0:=by
     cases hh:j - qs.length with
     | zero=>rfl
     | succ n=>rw [hh] at h1;simp at h1
    rw [hj0] at h1
    have e3:a=q':=by simpa using h1
    subst e3
    have e4:j=i:=by omega
    subst e4
    rw [hr] at h2
    cases h2
    refine ⟨⟨hrow r (List.mem_of_getElem? hr),dx,pi,db,?_⟩,s2.free ha2⟩
    exact s3 _ _ (s2 _ _ (hpa j pi r hpi hr).1)
 ·rintro ys H2 ⟨s2,n2,qs,rfl,hq,al⟩ p2 hp2
  refine q p2 _ ((sm1.trans s2).updN ((sm1.trans s2).free hp2)) (n2.upd) ⟨qs,db,(sm1.trans s2).free hp2,by rw [hq,List.length_map,hpl],fun i q' r h1 h2=>?_⟩
  obtain ⟨z1,z2⟩:=al i q' r h1 h2
  exact ⟨z1.same (qb hp2),sm1.free z2⟩
end
noncomputable def HM (q:Addr) (H:Hp) (R:Hp→Prop):Prop:=∀ H',bd q H H'→NoT H'→R H'
noncomputable def Yz (t:Adr):Sp:=fun vs H Q _=>∃ q row n,vs=[.ref q]∧eg t H q row [Str.ofString "ring",num n] 0∧(2 ≤ n∧n ≤ 99)∧NoT H∧HM q H (Q (.int n))
noncomputable def bj (t:Adr) (H:Hp) (wl:Addr) (ds:List WD):Prop:=∃ as:List Addr,H wl=some (.lst (as.map V.ref))∧as.length=ds.length∧∀ (i:Nat) (a:Addr) (d:WD),as[i]? = some a→ds[i]? = some d→Td t H a d
noncomputable def Mq (t:Adr):Sp:=fun vs H Q _=>∃ q row ws pl wl ds x,vs=[.ref q,.ref wl]∧eg t H q row ws pl∧ws[pl]? = some x∧made x Ck 8=true∧bj t H wl ds∧ds.length ≤ 12∧(∀ d ∈ ds,d.name ≠ x)∧NoT H ∧
 ∀ H',bd q H H'→NoT H'→eg t H' q row ws (pl + 1)→Q (.str x) H'
noncomputable def ME (t:Adr):Sp:=fun vs H Q _=>∃ q row ws pl n st fi,vs=[.ref q,.int n,.int st]∧eg t H q row ws pl∧ws[pl]? = some (num fi)∧(0 ≤ st∧st < n)∧(0 ≤ fi∧fi < n)∧st ≠ fi∧n ≤ 99∧NoT H ∧
 ∀ H',bd q H H'→NoT H'→eg t H' q row ws (pl + 1)→Q (.int fi) H'
noncomputable def yw (t:Adr):Sp:=fun vs H Q _=>∃ d:WD,vs=[.str (qd d.k),.str d.name,.int d.start,.int d.fin,.int d.off,.int d.near,.int d.least]∧d.k < 3∧∀ x H',Rb H H'→(NoT H→NoT H')→Td t H' x d→H x=none→Q (.ref x) H'
noncomputable def mF (t:Adr):Sp:=fun vs H Q _=>∃ q row n wl ds d,vs=[.ref q,.int n,.ref wl]∧eg t H q row (Bj d) 0∧WOk n d∧(2 ≤ n∧n ≤ 99)∧bj t H wl ds∧ds.length ≤ 12∧(∀ e ∈ ds,e.name ≠ d.name)∧NoT H ∧
 ∀ x H',bd q H H'→NoT H'→Td t H' x d→H x=none→Q (.ref x) H'
theorem bj.sameX {t:Adr} {H H':Hp} {q wl:Addr} {ds:List WD} {row:Int} {ws:List Str} {pl:Nat} (h:bj t H wl ds) (s:bd q H H') (r:eg t H q row ws pl):bj t H' wl ds:=by
 obtain ⟨as,e1,e2,al⟩:=h
 obtain ⟨hz,dx,ta,e3,e4⟩:=r
 refine ⟨as,s _ _ (Yf e1 e3 (by intro z;cases z)) e1,e2,fun i a d h1 h2=>?_⟩
 obtain ⟨hk,dx',e5⟩:=al i a d h1 h2
 refine ⟨hk,dx',s _ _ (fun z=>?_) e5⟩
 subst z
 rw [e5] at e3
 have e6:=Option.some.inj e3
 injection e6 with _ _ e8
 have e9:(7:Nat)=3:=congrArg List.length e8
 omega
theorem bj.same {t:Adr} {H H':Hp} {wl:Addr} {ds:List WD} (h:bj t H wl ds) (s:Rb H H'):bj t H' wl ds:=by
 obtain ⟨as,e1,e2,al⟩:=h
 exact ⟨as,s _ _ e1,e2,fun i a d h1 h2=>(al i a d h1 h2).same s⟩
section
variable {P:Program} {w:World} {K:PySem.W.Frag} {mg:Str→Option Value} {base:Heap} {t:Adr}
theorem yH (T:Txt w K mg t):Bb P w K mg base CX0 5 t.Mh t.Nh ["reader"] (Yz t):=by
 have G_RowReader_one_of:Bb P w K mg base CX0 4 t.Ac t.Vc ["self","choices"] (Cs K t):=(Jw T).mono (by decide)
 have G_RowReader_figures:Bb P w K mg base CX0 4 t.Pb t.qc ["self","low","high"] (Ir t):=Ku T
 have G_RowReader_finish:Bb P w K mg base CX0 4 t.Bc t.Tc ["self"] (GA t):=(DF T).mono (by decide)
 refine T.Ek.ok Vm (fun vs H Q E h=>?_) (fun cdv A outer s H vs Q E hr h=>?_)
 ·obtain ⟨q,row,n,rfl,_⟩:=h;rfl
 obtain ⟨q,row,n,rfl,R,hn,nt,qq⟩:=h
 refine ⟨_,(cb (kc (Nc (pv 0) T.xb T.Qg G_RowReader_one_of hr T.Hg .nil Ab (bb (ck (bb Cc fb)) fb)))
   (cb (Db (i:=1) Vm.nd rfl (Or.inl rfl) (Nc (pv 0) T.xb T.rc G_RowReader_figures hr T.vc .nil Ab (bb (jh rfl T.Fp T.Ep) (bb (jh rfl T.gs T.Ar) fb))))
   (cb (kc (je (pv 0) T.xb T.Cg G_RowReader_finish hr T.Rg .nil Ab))
   (gb (Fb (pv 1)))))),?_⟩
 obtain ⟨_,dx,ta,e1,e2⟩:=id R
 (walk_at "RD")
 refine ⟨_,_,e1,eg.no _ _ _ (by decide +kernel),by decide,fun p hp=>?_⟩
 have s0:Rb H (upd H p (.lst [V.str (Str.ofString "ring")])):=qb hp
 refine ⟨q,row,_,0,Str.ofString "ring",p,[Str.ofString "ring"],rfl,R.same s0,rfl,SqL.of db,by simp,fun H1 s1 n1 R1=>?_⟩
 obtain ⟨_,dx1,ta1,f1,f2⟩:=id R1
 (walk_at "RD")
 refine ⟨_,_,f1,eg.no _ _ _ (by decide +kernel),?_⟩
 have nt1:=n1 nt.upd
 refine ⟨q,row,_,1,num n,2,99,n,rfl,R1,rfl,Xl (by omega) (by omega) hn.1 hn.2,nt1,fun H2 s2 n2 R2=>?_⟩
 obtain ⟨_,dx2,ta2,g1,g2⟩:=id R2
 (walk_at "RD")
 refine ⟨_,_,g1,eg.no _ _ _ (by decide +kernel),?_⟩
 refine ⟨q,row,_,2,rfl,R2,rfl,?_⟩
 (walk_at "RD")
 exact qq H2 (((bd.of s0).trans s1).trans s2) (n2 nt1)
theorem ny (T:Txt w K mg t):Bb P w K mg base CX0 3 t.ze t.De ["reader","ways"] (Mq t):=by
 have G_RowReader_ahead:Bb P w K mg base CX0 2 t.Sb t.wc ["self"] (El t):=(Bn T).mono (by decide)
 have G_RowReader_take:Bb P w K mg base CX0 2 t.Ec t.Pc ["self","good"] (Qr t):=(Tv T).mono (by decide)
 have G_is_name:Bb P w K mg base CX0 2 t.Uk t.yl ["word"] nB:=TF T
 refine T.zg.ok gi (fun vs H Q E h=>?_) (fun cdv A outer s H vs Q E hr h=>?_)
 ·obtain ⟨q,row,ws,pl,wl,ds,x,rfl,_⟩:=h;rfl
 obtain ⟨q,row,ws,pl,wl,ds,x,rfl,R,hx,hm,hW,hdl,hnew,nt,qq⟩:=h
 refine ⟨_,(cb (Db (i:=2) gi.nd rfl (Or.inl rfl) (je (pv 0) T.xb T.Vd G_RowReader_ahead hr T.Ud .nil Ab))
   (cb (kc (Nc (pv 0) T.xb T.Nf G_RowReader_take hr T.Of .nil Ab (bb (Zs (ub G_is_name hr rfl T.HB T.up.kp T.CB .nil Ab (bb (pv 2) fb)) (ir (Ke Dt (pv 2) (Hk rfl (Sd (pv 1)) (Nd (sc:=ib ng) rfl (by decide +kernel)) (N:=["way"]) (sel:=[none]) (He (M:=["reader","ways","name"]) (by decide +kernel)) (Blk.of (fun _ _ _ _=>(wb (i:=0) (Ai (N:=["way"]) (by decide +kernel) rfl) rfl (Or.inl rfl))) (fun _ _ _ _=>⟨_,di,by first | rfl | (dsimp only [Cx.block];done) | (dsimp only [Cx.block];exact rfl)⟩) (fun _ _ _ _=>⟨_,(Nb (pv 0) rfl),by first | rfl | (dsimp only [Cx.block];done) | (dsimp only [Cx.block];exact rfl)⟩))) (by with_unfolding_all rfl)))) fb)))
   (gb (Fb (pv 2))))),?_⟩
 have hlt:pl < ws.length:=(List.getElem?_eq_some_iff.mp hx).1
 have hg:ws.getD pl (Str.ofString "")=x:=by rw [List.getD_eq_getElem?_getD,hx];rfl
 obtain ⟨hz,dx,ta,e1,e2⟩:=id R
 (walk_at "RD")
 refine ⟨_,_,e1,eg.no _ _ _ (by decide +kernel),⟨q,row,ws,pl,rfl,R,by omega,?_⟩⟩
 rw [hg]
 (walk_at "RD")
 refine ⟨_,_,e1,eg.no _ _ _ (by decide +kernel),?_⟩
 refine ⟨x,rfl,hz.2 x (List.mem_of_getElem? hx),nt,?_⟩
 rw [hm]
 (walk_at "RD")
 obtain ⟨as,w1,w2,al⟩:=hW
 refine ⟨⟨_,SqL.of w1⟩,?_⟩
 have hle:(as.map V.ref).length ≤ sizeLine:=by rw [List.length_map,w2];exact Nat.le_trans hdl (by decide)
 refine Hd.list_zs (xs:=as.map V.ref) (zs:=ds.map fun d=>V.str d.name) (SqL.of w1) hle (by rw [List.length_map,List.length_map,w2]) (fun i v z N hv hz' hN=>?_) (fun p hp=>?_)
 ·obtain ⟨a,ha,rfl⟩:=Vb hv
  obtain ⟨d,hd,rfl⟩:=Vb hz'
  (walk_at "RD")
  exact ⟨Sub.name,_,(al i a d ha hd).f_name T,hN⟩
 ·(walk_at "RD")
  have e0:(ds.map fun d=>V.str d.name)=Ob (ds.map (·.name)):=by unfold Ob;rw [List.map_map];rfl
  rw [e0]
  refine ⟨_,.inl (SqL.of db),rfl,Iq _,?_⟩
  rw [Mw,decide_eq_false (fun z=>by
   obtain ⟨d,hd,e⟩:=List.mem_map.mp z
   exact hnew d hd e)]
  have s0:Rb H (upd H p (.lst (Ob (ds.map (·.name))))):=qb hp
  exact ⟨q,row,ws,pl,rfl,R.same s0,fun H' s1 n1 R1=>qq H' ((bd.of s0).trans s1) (n1 nt.upd) R1⟩
theorem gJ (T:Txt w K mg t):Bb P w K mg base CX0 5 t.pj t.xj ["reader","places","start"] (ME t):=by
 have G_RowReader_ahead:Bb P w K mg base CX0 4 t.Sb t.wc ["self"] (El t):=(Bn T).mono (by decide)
 have G_RowReader_figures:Bb P w K mg base CX0 4 t.Pb t.qc ["self","low","high"] (Ir t):=Ku T
 refine T.Ql.ok xv (fun vs H Q E h=>?_) (fun cdv A outer s H vs Q E hr h=>?_)
 ·obtain ⟨q,row,ws,pl,n,st,fi,rfl,_⟩:=h;rfl
 obtain ⟨q,row,ws,pl,n,st,fi,rfl,R,hx,hst,hfi,hne,hn,nt,qq⟩:=h
 refine ⟨_,(cb (re (Xb Di (je (pv 0) T.xb T.Vd G_RowReader_ahead hr T.Ud .nil Ab) (Vk Gi rfl T.CH Sl (bb (pv 2) fb)) (dc _)) (gb kj) fc)
   (gb (Fb (Nc (pv 0) T.xb T.rc G_RowReader_figures hr T.vc .nil Ab (bb pb (bb (Ib uh (pv 1) pb) fb)))))),?_⟩
 have hlt:pl < ws.length:=(List.getElem?_eq_some_iff.mp hx).1
 have hg:ws.getD pl (Str.ofString "")=num fi:=by rw [List.getD_eq_getElem?_getD,hx];rfl
 obtain ⟨hz,dx,ta,e1,e2⟩:=id R
 (walk_at "RD")
 refine Ub false (fun Q hQ=>?_) (fun hc=>nomatch hc) (fun _=>?_)
 ·(walk_at "RD")
  refine ⟨_,_,e1,eg.no _ _ _ (by decide +kernel),⟨q,row,ws,pl,rfl,R,by omega,?_⟩⟩
  rw [hg]
  (walk_at "RD")
  refine ⟨Zz (by omega),?_⟩
  rw [decide_eq_false (fun z=>hne (wH (by omega) (by omega) (by omega) (by omega) z).symm)]
  exact hQ
 ·(walk_at "RD")
  refine ⟨_,_,e1,eg.no _ _ _ (by decide +kernel),⟨q,row,ws,pl,num fi,0,n - 1,fi,rfl,R,hx,Xl (by omega) (by omega) (by omega) (by omega),nt,fun H1 s1 n1 R1=>?_⟩⟩
  exact qq H1 s1 (n1 nt) R1
theorem JK {t:Adr} {H:Hp} {x dx:Addr} {d:WD} (hx:H x=none) (hd:H dx=none) (hk:d.k < 3) :
  Rb H (upd (upd (upd H dx (.own x)) x (.ins (t.cw d.k) dx [])) x (.ins (t.cw d.k) dx (dn d)))∧(NoT H→NoT (upd (upd (upd H dx (.own x)) x (.ins (t.cw d.k) dx [])) x (.ins (t.cw d.k) dx (dn d)))) ∧
   Td t (upd (upd (upd H dx (.own x)) x (.ins (t.cw d.k) dx [])) x (.ins (t.cw d.k) dx (dn d))) x d:=
 ⟨(((Rb.refl H).updN hd).updN hx).updN hx,fun n=>((n.upd).upd).upd,hk,dx,db⟩
theorem oE (T:Txt w K mg t):Bb P w K mg base CX0 4 t.sj t.rj ["sort","name","start","end","off","near","least"] (yw t):=by
 have G_CarWay_init:Bb P w K mg base CX0 2 t.Be t.Tf ["self","name","start","end","off","near","least"] (vj t 0):=vG T
 have G_FootWay_init:Bb P w K mg base CX0 2 t.ce t.qf ["self","name","start","end","off","near","least"] (vj t 1):=ID T
 have G_TramWay_init:Bb P w K mg base CX0 2 t.fe t.kf ["self","name","start","end","off","near","least"] (vj t 2):=pE T
 refine T.rm.ok Dv (fun vs H Q E h=>?_) (fun cdv A outer s H vs Q E hr h=>?_)
 ·obtain ⟨d,rfl,_⟩:=h;rfl
 obtain ⟨d,rfl,hk,q⟩:=h
 refine ⟨_,(cb (re (Xb Di (pv 0) Cc (dc _)) (gb (Fb (dm T.KC G_CarWay_init hr rfl T.ND T.zr .nil Ab (bb (pv 1) (bb (pv 2) (bb (pv 3) (bb (pv 4) (bb (pv 5) (bb (pv 6) fb))))))))) fc)
   (cb (re (Xb Di (pv 0) Cc (dc _)) (gb (Fb (dm T.HA G_FootWay_init hr rfl T.Tz T.Lp .nil Ab (bb (pv 1) (bb (pv 2) (bb (pv 3) (bb (pv 4) (bb (pv 5) (bb (pv 6) fb))))))))) fc)
   (gb (Fb (dm T.nz G_TramWay_init hr rfl T.YA T.Wp .nil Ab (bb (pv 1) (bb (pv 2) (bb (pv 3) (bb (pv 4) (bb (pv 5) (bb (pv 6) fb))))))))))),?_⟩
 have fin:∀ (x dx:Addr),H x=none→H dx=none→Q (.ref x) (upd (upd (upd H dx (.own x)) x (.ins (t.cw d.k) dx [])) x (.ins (t.cw d.k) dx (dn d))):=fun x dx hx hd=>by
  obtain ⟨m1,m2,m3⟩:=JK (t:=t) (d:=d) hx hd hk
  exact q x _ m1 m2 m3 hx
 obtain ⟨k,name,start,fi,off,near,least⟩:=d
 match k,hk with
 | 0,_=>
  (walk_at "RD"; repeat (simp only [qd];walk_at "RD"))
  refine Ub true (fun Q hQ=>?_) (fun _=>?_) (fun hc=>nomatch hc)
  ·(walk_at "RD")
   exact hQ
  ·(walk_at "RD")
   exact fun x dx hx hd hne=>⟨x,dx,⟨0,name,start,fi,off,near,least⟩,rfl,rfl,db,rfl,fin x dx hx hd⟩
 | 1,_=>
  (walk_at "RD"; repeat (simp only [qd];walk_at "RD"))
  refine Ub false (fun Q hQ=>?_) (fun hc=>nomatch hc) (fun _=>?_)
  ·(walk_at "RD")
   rw [decide_eq_false (by decide +kernel)]
   exact hQ
  ·(walk_at "RD")
   refine Ub true (fun Q hQ=>?_) (fun _=>?_) (fun hc=>nomatch hc)
   ·(walk_at "RD")
    exact hQ
   ·(walk_at "RD")
    exact fun x dx hx hd hne=>⟨x,dx,⟨1,name,start,fi,off,near,least⟩,rfl,rfl,db,rfl,fin x dx hx hd⟩
 | 2,_=>
  (walk_at "RD"; repeat (simp only [qd];walk_at "RD"))
  refine Ub false (fun Q hQ=>?_) (fun hc=>nomatch hc) (fun _=>?_)
  ·(walk_at "RD")
   rw [decide_eq_false (by decide +kernel)]
   exact hQ
  ·(walk_at "RD")
   refine Ub false (fun Q hQ=>?_) (fun hc=>nomatch hc) (fun _=>?_)
   ·(walk_at "RD")
    rw [decide_eq_false (by decide +kernel)]
    exact hQ
   ·(walk_at "RD")
    exact fun x dx hx hd hne=>⟨x,dx,⟨2,name,start,fi,off,near,least⟩,rfl,rfl,db,rfl,fin x dx hx hd⟩
theorem pJ (T:Txt w K mg t):Bb P w K mg base CX0 6 t.lj t.tj ["reader","places","ways"] (mF t):=by
 have G_RowReader_one_of:Bb P w K mg base CX0 5 t.Ac t.Vc ["self","choices"] (Cs K t):=(Jw T).mono (by decide)
 have G_RowReader_figures:Bb P w K mg base CX0 5 t.Pb t.qc ["self","low","high"] (Ir t):=(Ku T).mono (by decide)
 have G_RowReader_finish:Bb P w K mg base CX0 5 t.Bc t.Tc ["self"] (GA t):=(DF T).mono (by decide)
 have G_read_new_name:Bb P w K mg base CX0 5 t.ze t.De ["reader","ways"] (Mq t):=(ny T).mono (by decide)
 have G_read_end:Bb P w K mg base CX0 5 t.pj t.xj ["reader","places","start"] (ME t):=gJ T
 have G_made_way:Bb P w K mg base CX0 5 t.sj t.rj ["sort","name","start","end","off","near","least"] (yw t):=(oE T).mono (by decide)
 refine T.gm.ok Jd (fun vs H Q E h=>?_) (fun cdv A outer s H vs Q E hr h=>?_)
 ·obtain ⟨q,row,n,wl,ds,d,rfl,_⟩:=h;rfl
 obtain ⟨q,row,n,wl,ds,d,rfl,R,hd,hn,hW,hdl,hnew,nt,qq⟩:=h
 refine ⟨_,(cb (Db (i:=3) Jd.nd rfl (Or.inl rfl) (Nc (pv 0) T.xb T.Qg G_RowReader_one_of hr T.Hg .nil Ab (bb (ck (bb Cc (bb Cc (bb Cc fb)))) fb)))
   (cb (Db (i:=4) Jd.nd rfl (Or.inl rfl) (ub G_read_new_name hr rfl T.Bp T.zg.kp T.Do .nil Ab (bb (pv 0) (bb (pv 2) fb))))
   (cb (Db (i:=5) Jd.nd rfl (Or.inl rfl) (Nc (pv 0) T.xb T.rc G_RowReader_figures hr T.vc .nil Ab (bb pb (bb (Ib uh (pv 1) pb) fb))))
   (cb (Db (i:=6) Jd.nd rfl (Or.inl rfl) (ub G_read_end hr rfl T.Dx T.Ql.kp T.Qx .nil Ab (bb (pv 0) (bb (pv 1) (bb (pv 5) fb)))))
   (cb (Db (i:=7) Jd.nd rfl (Or.inl rfl) (Nc (pv 0) T.xb T.rc G_RowReader_figures hr T.vc .nil Ab (bb pb (bb (jh rfl T.ky T.Sx) fb))))
   (cb (Db (i:=8) Jd.nd rfl (Or.inl rfl) (Nc (pv 0) T.xb T.rc G_RowReader_figures hr T.vc .nil Ab (bb pb (bb (jh rfl T.uv T.Kv) fb))))
   (cb (Db (i:=9) Jd.nd rfl (Or.inl rfl) (Nc (pv 0) T.xb T.rc G_RowReader_figures hr T.vc .nil Ab (bb pb (bb (jh rfl T.Vt T.At) fb))))
   (cb (kc (je (pv 0) T.xb T.Cg G_RowReader_finish hr T.Rg .nil Ab))
   (gb (Fb (ub G_made_way hr rfl T.Yx T.rm.kp T.dy .nil Ab (bb (pv 3) (bb (pv 4) (bb (pv 5) (bb (pv 6) (bb (pv 7) (bb (pv 8) (bb (pv 9) fb)))))))))))))))))),?_⟩
 have b1:=hd.st;have b2:=hd.fi;have b3:=hd.of;have b4:=hd.nr;have b5:=hd.le
 obtain ⟨_,dx,ta,e1,e2⟩:=id R
 (walk_at "RD")
 refine ⟨_,_,e1,eg.no _ _ _ (by decide +kernel),by decide,fun p hp=>?_⟩
 have s0:Rb H (upd H p (.lst [V.str (Str.ofString "car"),V.str (Str.ofString "foot"),V.str (Str.ofString "tram")])):=qb hp
 have hin:qd d.k ∈ [Str.ofString "car",Str.ofString "foot",Str.ofString "tram"]:=by
  have:=hd.k
  match d.k,this with
  | 0,_=>simp [qd]
  | 1,_=>simp [qd]
  | 2,_=>simp [qd]
 refine ⟨q,row,_,0,qd d.k,p,[Str.ofString "car",Str.ofString "foot",Str.ofString "tram"],rfl,R.same s0,rfl,SqL.of db,hin,fun H1 s1 n1 R1=>?_⟩
 have x1:bd q H H1:=(bd.of s0).trans s1
 have m1:=n1 nt.upd
 (walk_at "RD")
 refine ⟨q,row,_,1,wl,ds,d.name,rfl,R1,rfl,hd.nm,hW.sameX x1 R,hdl,hnew,m1,fun H2 s2 m2 R2=>?_⟩
 obtain ⟨_,dx2,ta2,f2,g2⟩:=id R2
 have x2:=x1.trans s2
 (walk_at "RD")
 refine ⟨_,_,f2,eg.no _ _ _ (by decide +kernel),⟨q,row,_,2,num d.start,0,n - 1,d.start,rfl,R2,rfl,Xl (by omega) (by omega) (by omega) (by omega),m2,fun H3 s3 n3 R3=>?_⟩⟩
 have x3:=x2.trans s3
 have m3:=n3 m2
 (walk_at "RD")
 refine ⟨q,row,_,3,n,d.start,d.fin,rfl,R3,rfl,b1,b2,hd.ne,hn.2,m3,fun H4 s4 m4 R4=>?_⟩
 obtain ⟨_,dx4,ta4,f4,g4⟩:=id R4
 have x4:=x3.trans s4
 (walk_at "RD")
 refine ⟨_,_,f4,eg.no _ _ _ (by decide +kernel),⟨q,row,_,4,num d.off,0,30,d.off,rfl,R4,rfl,Xl (by omega) (by omega) (by omega) (by omega),m4,fun H5 s5 n5 R5=>?_⟩⟩
 obtain ⟨_,dx5,ta5,f5,g5⟩:=id R5
 have x5:=x4.trans s5
 have m5:=n5 m4
 (walk_at "RD")
 refine ⟨_,_,f5,eg.no _ _ _ (by decide +kernel),⟨q,row,_,5,num d.near,0,30,d.near,rfl,R5,rfl,Xl (by omega) (by omega) (by omega) (by omega),m5,fun H6 s6 n6 R6=>?_⟩⟩
 obtain ⟨_,dx6,ta6,f6,g6⟩:=id R6
 have x6:=x5.trans s6
 have m6:=n6 m5
 (walk_at "RD")
 refine ⟨_,_,f6,eg.no _ _ _ (by decide +kernel),⟨q,row,_,6,num d.least,1,60,d.least,rfl,R6,rfl,Xl (by omega) (by omega) (by omega) (by omega),m6,fun H7 s7 n7 R7=>?_⟩⟩
 obtain ⟨_,dx7,ta7,f7,g7⟩:=id R7
 have x7:=x6.trans s7
 have m7:=n7 m6
 (walk_at "RD")
 refine ⟨_,_,f7,eg.no _ _ _ (by decide +kernel),⟨q,row,_,7,rfl,R7,rfl,?_⟩⟩
 (walk_at "RD")
 refine ⟨d,rfl,hd.k,fun x H8 s8 n8 w8 hx8=>?_⟩
 refine qq x H8 (x7.trans (bd.of s8)) (n8 m7) w8 ?_
 cases hH:H x with
 | none=>rfl
 | some u=>
  by_cases hxq:x=q
  ·subst hxq;rw [f7] at hx8;cases hx8
  ·rw [x7 x u hxq hH] at hx8;cases hx8
end
end My
namespace My
open PySem L2
noncomputable abbrev px:List Str:=[Str.ofString "places",Str.ofString "ways",Str.ofString "numbers"]
noncomputable def cF (n:Int) (wl nd:Addr):List (Str × V):=[(Str.ofString "places",.int n),(Str.ofString "ways",.ref wl),(Str.ofString "numbers",.ref nd)]
theorem Is (n:Int) (wl nd:Addr):(cF n wl nd).map (·.1)=px:=rfl
noncomputable def nm (ds:List WD) (i:Nat):Str:=((ds[i]?).map (·.name)).getD (Str.ofString "")
noncomputable def Iu (ds:List WD) (i:Nat):List (Key × V):=(List.range i).map fun j=>(Sum.inr (nm ds j),V.int j)
theorem vq {ds:List WD} {i:Nat} {d:WD} (h:ds[i]? = some d):nm ds i=d.name:=by unfold nm;rw [h];rfl
theorem Ew {ds:List WD} (h:(ds.map (·.name)).Nodup) {i j:Nat} (hi:i < ds.length) (hj:j < ds.length) (e:nm ds i=nm ds j):i=j:=by
 rw [vq (List.getElem?_eq_getElem hi),vq (List.getElem?_eq_getElem hj)] at e
 have:=(List.getElem_inj (xs:=ds.map (·.name)) (i:=i) (j:=j) (h₀:=by rw [List.length_map];exact hi) (h₁:=by rw [List.length_map];exact hj) h).mp (by rw [List.getElem_map,List.getElem_map];exact e)
 exact this
theorem Aw {ds:List WD} (h:(ds.map (·.name)).Nodup) {i:Nat}:∀ {n:Nat},i < n→n ≤ ds.length→Jk (Iu ds n) (Sum.inr (nm ds i))=some (.int i):=by
 intro n
 induction n with
 | zero=>intro hi _;omega
 | succ n ih=>
  intro hi hn
  unfold Iu Jk
  rw [List.range_succ,List.map_append,List.find?_append]
  by_cases c:i < n
  ·have:=ih c (by omega)
   unfold Iu Jk at this
   cases e:List.find? (fun kv=>decide (kv.fst=Sum.inr (nm ds i))) (List.map (fun j=>((Sum.inr (nm ds j):Key),V.int j)) (List.range n)) with
   | none=>rw [e] at this;cases this
   | some p=>rw [e] at this;exact this
  ·have e:i=n:=by omega
   subst e
   have no:List.find? (fun kv=>decide (kv.fst=Sum.inr (nm ds i))) (List.map (fun j=>((Sum.inr (nm ds j):Key),V.int j)) (List.range i))=none:=by
    rw [List.find?_eq_none]
    intro p hp
    obtain ⟨j,hj,rfl⟩:=List.mem_map.mp hp
    have hj':=List.mem_range.mp hj
    simp only [decide_eq_true_eq]
    intro z
    have:=Ew h (by omega) (by omega) (Sum.inr.inj z)
    omega
   rw [no]
   simp
theorem rH {ds:List WD} {x:Str} (h:∀ d ∈ ds,d.name ≠ x):∀ {n:Nat},n ≤ ds.length→Jk (Iu ds n) (Sum.inr x)=none:=by
 intro n hn
 unfold Jk Iu
 rw [List.find?_eq_none.mpr]
 ·rfl
 intro p hp
 obtain ⟨j,hj,rfl⟩:=List.mem_map.mp hp
 have hj':=List.mem_range.mp hj
 simp only [decide_eq_true_eq]
 intro z
 have hjl:j < ds.length:=by omega
 have e:=Sum.inr.inj z
 rw [vq (List.getElem?_eq_getElem hjl)] at e
 exact h _ (List.getElem_mem hjl) e
theorem zD {ds:List WD} (h:(ds.map (·.name)).Nodup) {n:Nat} (hn:n < ds.length):kt (Iu ds n) (Sum.inr (nm ds n)) (.int n)=Iu ds (n + 1):=by
 unfold kt
 have no:((Iu ds n).any fun kv=>decide (kv.1=Sum.inr (nm ds n)))=false:=by
  rw [List.any_eq_false]
  intro p hp
  obtain ⟨j,hj,rfl⟩:=List.mem_map.mp hp
  have hj':=List.mem_range.mp hj
  simp only [decide_eq_true_eq]
  intro z
  have:=Ew h (by omega) hn (Sum.inr.inj z)
  omega
 rw [no]
 unfold Iu
 rw [List.range_succ,List.map_append]
 rfl
theorem pe {H H1 H2:Hp} {q:Addr} (a:Rb H H1) (b:bd q H1 H2) (n:H q=none):Rb H H2:=fun c u e=>b c u (lb e n) (a c u e)
theorem gK {t:Adr} {H:Hp} {p q:Addr} {i j:Int} {ws vs:List Str} {k l:Nat} (a:eg t H p i ws k) (b:eg t H q j vs l) (n:i ≠ j):p ≠ q:=fun z=>by
 subst z
 obtain ⟨_,dx,ta,e1,_⟩:=a
 obtain ⟨_,dx',ta',e2,_⟩:=b
 rw [e1] at e2
 have e3:=Option.some.inj e2
 injection e3 with _ _ e4
 unfold rdF at e4
 injection e4 with e5 _
 injection e5 with _ e6
 injection e6 with e7
 exact n e7
theorem zA {t:Adr} {H:Hp} {p q:Addr} {d:WD} {j:Int} {vs:List Str} {l:Nat} (a:Td t H p d) (b:eg t H q j vs l):p ≠ q:=fun z=>by
 subst z
 obtain ⟨_,dx,e1⟩:=a
 obtain ⟨_,dx',ta',e2,_⟩:=b
 rw [e1] at e2
 have e3:=Option.some.inj e2
 injection e3 with _ _ e4
 exact absurd (congrArg List.length e4) (by show ¬ (7:Nat)=3;decide)
noncomputable def Gc (t:Adr) (H:Hp) (c:Addr) (n:Int) (ds:List WD):Prop:=
 ((ds.map (·.name)).Nodup∧ds.length ≤ 12)∧∃ dx wl nd,H c=some (.ins t.Hb dx (cF n wl nd))∧bj t H wl ds∧H nd=some (.dK (Iu ds ds.length))
theorem Gc.same {t:Adr} {H H':Hp} {c:Addr} {n:Int} {ds:List WD} (h:Gc t H c n ds) (s:Rb H H'):Gc t H' c n ds:=by
 obtain ⟨h0,dx,wl,nd,e1,e2,e3⟩:=h
 exact ⟨h0,dx,wl,nd,s _ _ e1,e2.same s,s _ _ e3⟩
theorem Gu {m:Str} (n:Int) (wl nd:Addr) (h:px.contains m=false):(cF n wl nd).lookup m=none:=dl px (Is ..) h
section
variable {w:World} {K:PySem.W.Frag} {mg:Str→Option Value} {t:Adr} {H:Hp} {c dx wl nd:Addr} {n:Int}
theorem MC (T:Txt w K mg t) (e:H c=some (.ins t.Hb dx (cF n wl nd))):Bi K H c (Str.ofString "places") (.int n):=⟨_,dx,_,e,T.Cb,T.Jg,Bd px 0 (Is ..) (by decide +kernel) rfl⟩
theorem sB (T:Txt w K mg t) (e:H c=some (.ins t.Hb dx (cF n wl nd))):Bi K H c (Str.ofString "ways") (.ref wl):=⟨_,dx,_,e,T.Cb,T.ki,Bd px 1 (Is ..) (by decide +kernel) rfl⟩
theorem oh (T:Txt w K mg t) (e:H c=some (.ins t.Hb dx (cF n wl nd))):Bi K H c (Str.ofString "numbers") (.ref nd):=⟨_,dx,_,e,T.Cb,T.Ag,Bd px 2 (Is ..) (by decide +kernel) rfl⟩
end
noncomputable def pF (t:Adr):Sp:=fun vs H Q _=>∃ c dx n wl ds,vs=[.ref c,.int n,.ref wl]∧H c=some (.ins t.Hb dx [])∧bj t H wl ds∧(ds.map (·.name)).Nodup∧ds.length ≤ 12∧NoT H ∧
 ∀ H',bd c H H'→NoT H'→Gc t H' c n ds→Q .non H'
noncomputable def dJ (t:Adr):Sp:=fun vs H Q _=>∃ n ds,vs=[.str (Wd n ds)]∧COk n ds∧NoT H∧∀ c H',Rb H H'→NoT H'→Gc t H' c n ds→Q (.ref c) H'
noncomputable def Ln (t:Adr):Sp:=fun vs H Q _=>∃ c n ds,vs=[.ref c]∧Gc t H c n ds∧∀ p,H p=none→Q (.ref p) (upd H p (.lst (Ob (ds.map (·.name)))))
noncomputable def dt (t:Adr):Sp:=fun vs H Q _=>∃ c n ds,∃ i:Nat,∃ d,vs=[.ref c,.str d.name]∧Gc t H c n ds∧ds[i]? = some d∧Q (.int (i:Nat)) H
noncomputable def rh (t:Adr):Sp:=fun vs H Q _=>∃ c n ds,∃ i:Nat,∃ d,vs=[.ref c,.str d.name]∧Gc t H c n ds∧ds[i]? = some d∧∀ a,Td t H a d→Q (.ref a) H
section
variable {P:Program} {w:World} {K:PySem.W.Frag} {mg:Str→Option Value} {base:Heap} {t:Adr}
theorem QI (T:Txt w K mg t):Bb P w K mg base CX0 1 t.Od t.we ["self","places","ways"] (pF t):=by
 refine T.Ei.ok Zd (fun vs H Q E h=>?_) (fun cdv A outer s H vs Q E hr h=>?_)
 ·obtain ⟨c,dx,n,wl,ds,rfl,_⟩:=h;rfl
 obtain ⟨c,dx,n,wl,ds,rfl,hc,hW,hnd,hdl,nt,q⟩:=h
 have hu:=Mv hr
 refine ⟨_,(cb (Oe (pv 0) (pv 1) rfl)
   (cb (Oe (pv 0) (pv 2) rfl)
   (cb (Oe (pv 0) En rfl)
   (gb (wd PassesOwn.never rfl (oo rfl T.fg (bb (pv 2) fb)) (af (K:=K) (n:=2) rfl rfl (Jb (wb (i:=3) Zd.nd rfl (Or.inl rfl) (.inl rfl)) (Jb (wb (i:=4) Zd.nd rfl (Or.inl rfl) (.inl rfl)) We))) (gb (Gr hu (Nb (pv 0) rfl) (Nb (pv 4) rfl) (pv 3) rfl))))))),?_⟩
 (walk_at "RD")
 refine ⟨_,_,_,hc,T.Cb,T.Jg,by decide,?_⟩
 refine ⟨_,_,_,db,T.Cb,T.ki,Pl (n:=999) (by decide),fun nd hn=>?_⟩
 simp only [Li] at hn ⊢
 rw [show ag (Str.ofString "places") (V.int n) ([]:List (Str × V))=[(Str.ofString "places",V.int n)] from rfl,show ag (Str.ofString "ways") (V.ref wl) [(Str.ofString "places",V.int n)]=[(Str.ofString "places",V.int n),(Str.ofString "ways",V.ref wl)] from zc [Str.ofString "places"] rfl (by decide +kernel)] at hn ⊢
 have hnc:c ≠ nd:=fun z=>by subst z;rw [db] at hn;cases hn
 refine ⟨t.Hb,dx,[(Str.ofString "places",V.int n),(Str.ofString "ways",V.ref wl)],by rw [jb hnc];exact db,T.Cb,T.Ag,show (2:Nat) < 1000 by decide,?_⟩
 rw [show ag (Str.ofString "numbers") (V.ref nd) [(Str.ofString "places",V.int n),(Str.ofString "ways",V.ref wl)]=cF n wl nd from zc [Str.ofString "places",Str.ofString "ways"] rfl (by decide +kernel)]
 obtain ⟨as,w1,w2,al⟩:=hW
 have hHn:H nd=none:=by rw [jb (Ne.symm hnc)] at hn;exact hn
 have sx:bd c H (upd (upd (upd H c (.ins t.Hb dx [(Str.ofString "places",V.int n),(Str.ofString "ways",V.ref wl)])) nd (.dK [])) c (.ins t.Hb dx (cF n wl nd))):=fun b u hb e=>by
  rw [jb hb,jb (lb e hHn),jb hb];exact e
 have hwc:wl ≠ c:=Yf w1 hc (by intro z;cases z)
 refine ⟨⟨_,SqL.of (sx _ _ hwc w1)⟩,?_⟩
 refine Jh.enum (xs:=as.map V.ref) (fun i σ H'=>(∃ x y,σ=[some (V.ref c),some (V.int n),some (V.ref wl),x,y])∧H' c=some (.ins t.Hb dx (cF n wl nd))∧H' nd=some (.dK (Iu ds i))∧bd c H H'∧NoT H') ?_ ?_ ?_ ?_
 ·exact ⟨⟨_,_,rfl⟩,db,by rw [jb (Ne.symm hnc),db];rfl,sx,((nt.upd).upd).upd⟩
 ·rintro i σ H' hi ⟨_,_,_,sx',_⟩
  exact SqL.of (sx' _ _ hwc w1)
 ·rintro i v σ H' p hv ⟨⟨x,y,rfl⟩,h1,h2,sx',nt'⟩ hp
  obtain ⟨a,ha,rfl⟩:=Vb hv
  obtain ⟨hi,_⟩:=List.getElem?_eq_some_iff.mp ha
  have hid:i < ds.length:=by omega
  have hd:ds[i]? = some ds[i]:=List.getElem?_eq_getElem hid
  have Wa:Td t H a ds[i]:=al i a _ ha hd
  have hac:a ≠ c:=by
   obtain ⟨_,dx',e⟩:=Wa
   intro z
   subst z
   rw [hc] at e
   have e2:=Option.some.inj e
   injection e2 with _ _ e3
   exact absurd (congrArg List.length e3) (by show ¬ (0:Nat)=7;decide)
  have Wa':Td t H' a ds[i]:=⟨Wa.1,Wa.2.imp fun dx' e=>sx' _ _ hac e⟩
  have sp:Rb H' (upd H' p (.tup [.int i,.ref a])):=qb hp
  refine Zi ?_
  (walk_at "RD")
  refine ⟨_,oh T (sp _ _ h1),_,(Wa'.same sp).f_name T,_,rfl,_,By.k (k:=Sum.inr ds[i].name) (sp _ _ h2) (Nat.lt_of_le_of_lt (show (Iu ds i).length ≤ 12 by unfold Iu;rw [List.length_map,List.length_range];omega) (by decide)),?_⟩
  rw [← vq hd,zD hnd hid]
  refine ⟨⟨_,rfl⟩,?_,db,fun b u hb e=>?_,(nt'.upd).upd⟩
  ·rw [jb hnc];exact sp _ _ h1
  ·rw [jb (lb e hHn)];exact sp _ _ (sx' b u hb e)
 ·rintro σ H' ⟨⟨x,y,rfl⟩,h1,h2,sx',nt'⟩
  (walk_at "RD")
  rw [List.length_map,w2] at h2
  refine q H' sx' nt' ⟨⟨hnd,hdl⟩,dx,wl,nd,h1,⟨as,sx' _ _ hwc w1,w2,fun i a d h3 h4=>?_⟩,h2⟩
  have Wa:=al i a d h3 h4
  have hac:a ≠ c:=by
   obtain ⟨_,dx',e⟩:=Wa
   intro z
   subst z
   rw [hc] at e
   have e2:=Option.some.inj e
   injection e2 with _ _ e3
   exact absurd (congrArg List.length e3) (by show ¬ (0:Nat)=7;decide)
  exact ⟨Wa.1,Wa.2.imp fun dx' e=>sx' _ _ hac e⟩
theorem qA (T:Txt w K mg t):Bb P w K mg base CX0 1 t.xc t.Jc ["self","name"] (dt t):=by
 refine T.Xe.ok Tg (fun vs H Q E h=>?_) (fun cdv A outer s H vs Q E hr h=>?_)
 ·obtain ⟨c,n,ds,i,d,rfl,_⟩:=h;rfl
 obtain ⟨c,n,ds,i,d,rfl,⟨⟨hnd,hdl⟩,dx,wl,nd,e1,e2,e3⟩,hd,q⟩:=h
 have hu:=Mv hr
 have hv:Jk (Iu ds ds.length) (Sum.inr d.name)=some (.int i):=by
  rw [← vq hd]
  exact Aw hnd (List.getElem?_eq_some_iff.mp hd).1 (Nat.le_refl _)
 have hg:Bk H nd (.str d.name) (some (.int i)):=by rw [← hv];exact Bk.k (k:=Sum.inr d.name) e3
 refine ⟨_,(cb (re (JE (ju hu (pv 1) (Nb (pv 0) rfl))) (gb kj) fc)
   (gb (Fb (sk hu (Nb (pv 0) rfl) (pv 1) (fun _ _=>rfl))))),?_⟩
 (walk_at "RD")
 refine Ub false (fun Q hQ=>?_) (fun hc=>nomatch hc) (fun _=>?_)
 ·(walk_at "RD")
  refine ⟨_,oh T e1,_,rfl,_,hg,?_⟩
  exact hQ
 ·(walk_at "RD")
  exact ⟨_,oh T e1,_,rfl,_,hg,q⟩
theorem aj (T:Txt w K mg t):Bb P w K mg base CX0 2 t.Eb t.Gb ["self","name"] (rh t):=by
 have G_Crossing_number:Bb P w K mg base CX0 1 t.xc t.Jc ["self","name"] (dt t):=qA T
 refine T.bf.ok Ng (fun vs H Q E h=>?_) (fun cdv A outer s H vs Q E hr h=>?_)
 ·obtain ⟨c,n,ds,i,d,rfl,_⟩:=h;rfl
 obtain ⟨c,n,ds,i,d,rfl,C,hd,q⟩:=h
 obtain ⟨⟨hnd,hdl⟩,dx,wl,nd,e1,⟨as,w1,w2,al⟩,e3⟩:=id C
 refine ⟨_,(gb (Fb (Cd Ld (Nb (pv 0) rfl) (Nc (pv 0) T.Cb T.Eh G_Crossing_number hr T.vh .nil Ab (bb (pv 1) fb)) (fun _ _=>rfl)))),?_⟩
 (walk_at "RD")
 refine ⟨_,sB T e1,_,_,e1,Gu _ _ _ (by decide +kernel),⟨c,n,ds,i,d,rfl,C,hd,?_⟩⟩
 have hi:i < as.length:=by rw [w2];exact (List.getElem?_eq_some_iff.mp hd).1
 have ha:as[i]? = some as[i]:=List.getElem?_eq_getElem hi
 (walk_at "RD")
 refine ⟨_,SqL.of w1,_,gc (show (as.map V.ref)[i]? = some (V.ref as[i]) by rw [List.getElem?_map,ha];rfl),?_⟩
 exact q as[i] (al i _ d ha hd)
theorem rL (T:Txt w K mg t):Bb P w K mg base CX0 7 t.ue t.ye ["text"] (dJ t):=by
 have G_readers:Bb P w K mg base CX0 6 t.il t.Xk ["text"] (Uq t):=(Ey T).mono (by decide)
 have G_read_ring:Bb P w K mg base CX0 6 t.Mh t.Nh ["reader"] (Yz t):=(yH T).mono (by decide)
 have G_read_way:Bb P w K mg base CX0 6 t.lj t.tj ["reader","places","ways"] (mF t):=pJ T
 have G_Crossing_init:Bb P w K mg base CX0 5 t.Od t.we ["self","places","ways"] (pF t):=(QI T).mono (by decide)
 refine T.lg.ok yd (fun vs H Q E h=>?_) (fun cdv A outer s H vs Q E hr h=>?_)
 ·obtain ⟨n,ds,rfl,_⟩:=h;rfl
 obtain ⟨n,ds,rfl,hC,nt,qq⟩:=h
 refine ⟨_,(cb (Db (i:=1) yd.nd rfl (Or.inl rfl) (ub G_readers hr rfl T.dz T.zo.kp T.cB .nil Ab (bb (pv 0) fb)))
   (cb (Db (i:=2) yd.nd rfl (Or.inl rfl) (ub G_read_ring hr rfl T.nv T.Ek.kp T.Mu .nil Ab (bb (Cd Ld (pv 1) pb (fun _ _=>rfl)) fb)))
   (cb (Db (i:=3) yd.nd rfl (Or.inl rfl) (ck fb))
   (cb (wd PassesOwn.never rfl (Sd (Uw aI (pv 1) (Wz pb) RA)) (wb (i:=4) yd.nd rfl (Or.inl rfl)) (cb (re (Xb Di (ic ac rfl T.Wl Lc (bb (pv 3) fb)) (jh rfl T.Bv T.Uv) (dc _)) (gb kj) fc)
   (gb (kc (Ft PySem.F.plainAttrs_list PySem.F.slot_list_append PySem.F.type_list_append Oi (pv 3) (bb (ub G_read_way hr rfl T.cy T.gm.kp T.Rx .nil Ab (bb (pv 4) (bb (pv 2) (bb (pv 3) fb)))) fb))))))
   (cb (re (ql (qw (pv 3) (fun _=>rfl))) (gb kj) fc)
   (gb (Fb (dm T.Lx G_Crossing_init hr rfl T.Hx T.Ko .nil Ab (bb (pv 2) (bb (pv 3) fb)))))))))),?_⟩
 have hrow:=Gx hC
 have hlen:=Oz hC
 have hnn:=hC.nn
 have hln:=hC.ln
 (walk_at "RD")
 refine ⟨Wd n ds,rfl,by omega,?_,nt,fun p H1 sm1 nt1 R=>?_⟩
 ·rw [hrow]
  intro r hr
  refine ⟨?_,fun x hx=>Nat.le_trans (hC.plain r hr x hx).1 (by decide)⟩
  rcases List.mem_cons.mp hr with rfl | hr
  ·show (2:Nat) ≤ 1000;decide
  ·obtain ⟨d,hd,rfl⟩:=List.mem_map.mp hr
   show (7:Nat) ≤ 1000;decide
 rw [hrow] at R
 obtain ⟨qs,hp,hp0,hql,hqa⟩:=R
 have hql':qs.length=ds.length + 1:=by rw [hql];simp [Ol]
 obtain ⟨q0,qr,rfl⟩:∃ q0 qr,qs=q0 :: qr:=by
  cases qs with
  | nil=>simp at hql'
  | cons a b=>exact ⟨a,b,rfl⟩
 obtain ⟨R0,hq0⟩:=hqa 0 q0 _ rfl rfl
 (walk_at "RD")
 refine ⟨_,SqL.of hp,_,gc (j:=0) rfl,⟨q0,_,n,rfl,R0,hnn,nt1,fun H2 s2 nt2=>⟨Nat.zero_le _,fun wl hwl=>?_⟩⟩⟩
 obtain ⟨C0,dq0,fq0,hins⟩:=R0.ins
 have hpq:p ≠ q0:=Yf hp hins (by intro z;cases z)
 have hp2:H2 p=some (.lst ((q0 :: qr).map V.ref)):=s2 _ _ hpq hp
 have swl:Rb H2 (upd H2 wl (.lst [])):=qb hwl
 have hcut:tE ((q0 :: qr).map V.ref) (some 1) none=qr.map V.ref:=by
  unfold tE
  simp [HT.sIx]
  exact List.take_of_length_le (by rw [List.length_map];exact Nat.le_refl _)
 refine ⟨_,SqL.of (swl _ _ hp2),fun pc hpc=>?_⟩
 rw [hcut]
 have hpw:pc ≠ wl:=fun z=>by subst z;rw [db] at hpc;cases hpc
 have spc:Rb (upd H2 wl (.lst [])) (upd (upd H2 wl (.lst [])) pc (.lst (qr.map V.ref))):=qb hpc
 refine ⟨⟨_,SqL.of db⟩,?_⟩
 have sH2:Rb H H2:=pe sm1 s2 hq0
 have hqrl:qr.length=ds.length:=by simpa using hql'
 refine Jh.list (xs:=qr.map V.ref) (fun i σ H'=>(∃ x,σ=[some (V.str (Wd n ds)),some (V.ref p),some (V.int n),some (V.ref wl),x])∧NoT H'∧Rb H H'∧H' pc=some (.lst (qr.map V.ref))∧H wl=none∧bj t H' wl (ds.take i) ∧
  ∀ (j:Nat) (q:Addr) (d:WD),i ≤ j→qr[j]? = some q→ds[j]? = some d→eg t H' q ((j + 1:Nat):Int) (Bj d) 0∧H q=none) ?_ ?_ ?_ ?_
 ·refine ⟨⟨_,rfl⟩,(nt2.upd).upd,(sH2.trans swl).trans spc,db,sH2.free hwl,⟨[],spc _ _ db,rfl,fun j a d h=>by simp at h⟩,fun j q d _ h1 h2=>?_⟩
  have hr:(Ol n ds)[j + 1]? = some (Bj d):=by
   unfold Ol
   rw [List.getElem?_cons_succ,List.getElem?_map,h2];rfl
  obtain ⟨Rj,hqj⟩:=hqa (j + 1) q _ (by rw [List.getElem?_cons_succ];exact h1) hr
  refine ⟨((Rj.sameX s2 (gK Rj R0 (by omega)) R0.ins).same swl).same spc,hqj⟩
 ·rintro i σ H' hi ⟨_,_,_,h,_⟩
  exact SqL.of h
 ·rintro i v σ H' hv ⟨⟨x,rfl⟩,nt',sm',hpc',hwl0,W,Rs⟩
  obtain ⟨q,hq,rfl⟩:=Vb hv
  obtain ⟨hi,_⟩:=List.getElem?_eq_some_iff.mp hq
  have hid:i < ds.length:=by omega
  have hd:ds[i]? = some ds[i]:=List.getElem?_eq_getElem hid
  obtain ⟨Rq,hqn⟩:=Rs i q _ (Nat.le_refl _) hq hd
  have htl:(ds.take i).length=i:=by rw [List.length_take];omega
  obtain ⟨as,w1,w2,al⟩:=id W
  (walk_at "RD")
  refine Ub false (fun Q hQ=>?_) (fun hc=>nomatch hc) (fun _=>?_)
  ·(walk_at "RD")
   refine ⟨_,.inl (SqL.of w1),?_⟩
   rw [List.length_map,w2,htl]
   rw [decide_eq_false (by omega)] <;> exact hQ
  ·(walk_at "RD")
   refine ⟨.inl ⟨_,SqL.of w1⟩,?_⟩
   refine ⟨q,_,n,wl,ds.take i,ds[i],rfl,Rq,hC.al _ (List.getElem_mem hid),hnn,W,by omega,fun e he z=>?_,nt',fun y H3 s3 nt3 w3 hy3=>?_⟩
   ·obtain ⟨j,hj,rfl⟩:=List.getElem_of_mem he
    rw [List.getElem_take] at z
    have hj':j < i:=by omega
    have:=Ew hC.nd (i:=j) (j:=i) (by omega) hid (by rw [vq (List.getElem?_eq_getElem (by omega)),vq hd];exact z)
    omega
   ·(walk_at "RD")
    obtain ⟨Cq,dq,fq,hqi⟩:=Rq.ins
    have hwq:wl ≠ q:=Yf w1 hqi (by intro z;cases z)
    have hw3:H3 wl=some (.lst (as.map V.ref)):=s3 _ _ hwq w1
    have hsm3:Rb H H3:=pe sm' s3 hqn
    refine ⟨_,hw3,Nat.lt_of_le_of_lt (show (as.map V.ref).length ≤ 12 by rw [List.length_map];omega) (by decide),?_⟩
    have hyw:y ≠ wl:=fun z=>by
     subst z
     rw [w1] at hy3;cases hy3
    refine ⟨⟨_,rfl⟩,nt3.upd,fun b u e=>?_,?_,hwl0,⟨as ++ [y],by rw [db,List.map_append];rfl,?_,fun j a d h1 h2=>?_⟩,fun j q' d hj h1 h2=>?_⟩
    ·rw [jb (lb e hwl0)];exact hsm3 _ _ e
    ·rw [jb hpw]
     exact s3 _ _ (Yf hpc' hqi (by intro z;cases z)) hpc'
    ·rw [List.length_append,w2,htl,List.length_take];show i + 1=_;omega
    ·by_cases hj:j < as.length
     ·rw [List.getElem?_append_left hj] at h1
      have h2':(ds.take i)[j]? = some d:=by
       rw [List.getElem?_take_of_lt (by omega)]
       rw [List.getElem?_take_of_lt (by omega)] at h2
       exact h2
      obtain ⟨hk,dx',e⟩:=al j a d h1 h2'
      have haq:a ≠ q:=zA ⟨hk,dx',e⟩ Rq
      have haw:a ≠ wl:=Yf e w1 (by intro z;cases z)
      exact ⟨hk,dx',by rw [jb haw];exact s3 _ _ haq e⟩
     ·rw [List.getElem?_append_right (by omega)] at h1
      have hj0:j - as.length=0:=by
       cases hh:j - as.length with
       | zero=>rfl
       | succ m=>rw [hh] at h1;simp at h1
      rw [hj0] at h1
      have e3:y=a:=by simpa using h1
      subst e3
      have e4:j=i:=by omega
      subst e4
      rw [List.getElem?_take_of_lt (by omega),hd] at h2
      cases h2
      exact ⟨w3.1,w3.2.imp fun dx' e=>by rw [jb hyw];exact e⟩
    ·obtain ⟨Rj,hqj⟩:=Rs j q' d (by omega) h1 h2
     have R3:=Rj.sameX s3 (gK Rj Rq (by omega)) Rq.ins
     refine ⟨?_,hqj⟩
     obtain ⟨hz,dx',ta,e1,e2⟩:=R3
     refine ⟨hz,dx',ta,by rw [jb (Yf e1 hw3 (by intro z;cases z))];exact e1,?_⟩
     rw [jb (fun z=>by
      subst z
      rw [hw3] at e2
      have e5:=Option.some.inj e2
      injection e5 with e6
      cases as with
      | nil=>exact absurd (congrArg List.length e6) (by show ¬ (0:Nat)=7;decide)
      | cons a r=>injection e6 with e7 _;cases e7)]
     exact e2
 ·rintro σ H' ⟨⟨x,rfl⟩,nt',sm',hpc',hwl0,W,Rs⟩
  rw [List.length_map,hqrl,List.take_length] at W
  obtain ⟨as,w1,w2,al⟩:=id W
  (walk_at "RD")
  refine Ub false (fun Q hQ=>?_) (fun hc=>nomatch hc) (fun _=>?_)
  ·(walk_at "RD")
   refine ⟨true,.inl ⟨_,SqL.of w1,?_⟩,hQ⟩
   cases as with
   | nil=>simp at w2;omega
   | cons a r=>rfl
  ·(walk_at "RD")
   intro c dx hc hdx hne
   have sc:Rb H' (upd (upd H' dx (.own c)) c (.ins t.Hb dx [])):=((Rb.refl H').updN hdx).updN hc
   refine ⟨c,dx,n,wl,ds,rfl,db,W.same sc,hC.nd,hln.2,(nt'.upd).upd,fun H5 s5 nt5 C5=>⟨rfl,?_⟩⟩
   exact qq c H5 (pe (sm'.trans sc) s5 (sm'.free hc)) nt5 C5
end
section
variable {P:Program} {w:World} {K:PySem.W.Frag} {mg:Str→Option Value} {base:Heap} {t:Adr}
theorem Ds (T:Txt w K mg t):Bb P w K mg base CX0 1 t.Dc t.Oc ["self"] (Ln t):=by
 refine T.ji.ok Tl (fun vs H Q E h=>?_) (fun cdv A outer s H vs Q E hr h=>?_)
 ·obtain ⟨c,n,ds,rfl,_⟩:=h;rfl
 obtain ⟨c,n,ds,rfl,⟨⟨hnd,hdl⟩,dx,wl,nd,e1,⟨as,w1,w2,al⟩,e3⟩,q⟩:=h
 refine ⟨_,(gb (Fb (Hk rfl (Sd (Nb (pv 0) rfl)) (Nd (sc:=ib Pf) rfl (by decide +kernel)) (N:=["way"]) (sel:=[none]) (He (M:=["self"]) (by decide +kernel)) (Blk.of (fun _ _ _ _=>(wb (i:=0) (Ai (N:=["way"]) (by decide +kernel) rfl) rfl (Or.inl rfl))) (fun _ _ _ _=>⟨_,di,by first | rfl | (dsimp only [Cx.block];done) | (dsimp only [Cx.block];exact rfl)⟩) (fun _ _ _ _=>⟨_,(Nb (pv 0) rfl),by first | rfl | (dsimp only [Cx.block];done) | (dsimp only [Cx.block];exact rfl)⟩))))),?_⟩
 (walk_at "RD")
 refine ⟨_,sB T e1,_,rfl,⟨_,SqL.of w1⟩,?_⟩
 refine Hd.list_zs (xs:=as.map V.ref) (zs:=Ob (ds.map (·.name))) (SqL.of w1) (by rw [List.length_map,w2];exact Nat.le_trans hdl (by decide)) (by rw [bp,List.length_map,List.length_map,w2]) (fun i v z N hv hz' hN=>?_) (fun p hp=>q p hp)
 obtain ⟨a,ha,rfl⟩:=Vb hv
 obtain ⟨x,hx,rfl⟩:=Vb hz'
 obtain ⟨d,hd,rfl⟩:=Vb hx
 (walk_at "RD")
 exact ⟨Sub.name,_,(al i a d ha hd).f_name T,hN⟩
end
end My
namespace My
open PySem L2
noncomputable def Av (x:Str):Prop:=x.length ≤ 1000∧∀ c ∈ x.cps.toList,c < 16 ^ 8
noncomputable def ym (ds:List WD) (x:Str):Prop:=∀ d ∈ ds,d.name ≠ x
noncomputable def Zr (t:Adr) (x:Str) (H:Hp) (E:XK):Prop:=∀ dx H',Rb H H'→(NoT H→NoT H')→H' dx=some (.ext (XD dx [(Str.ofString "name",.str x)]))→E (.ref t.ud) (some dx) H'
noncomputable def iF (t:Adr):Sp:=fun vs H Q _=>∃ x n,vs=[.ref x,.str n]∧Av n∧H x=some (.ext (XF x t.ud none)) ∧
 ∀ dx,H dx=none→dx ≠ x→Q .non (upd (upd H x (.ext (XF x t.ud (some dx)))) dx (.ext (XD dx [(Str.ofString "name",.str n)])))
noncomputable def ar (t:Adr):Sp:=fun vs H Q E=>∃ c n ds x,vs=[.ref c,.str x]∧Gc t H c n ds∧Av x∧((∃ i:Nat,∃ d,ds[i]? = some d∧x=d.name∧Q (.int (i:Nat)) H)∨(ym ds x∧Zr t x H E))
noncomputable def qm (t:Adr):Sp:=fun vs H Q E=>∃ c n ds x,vs=[.ref c,.str x]∧Gc t H c n ds∧Av x∧((∃ i:Nat,∃ d,ds[i]? = some d∧x=d.name∧∀ a,Td t H a d→Q (.ref a) H)∨(ym ds x∧Zr t x H E))
section
variable {P:Program} {w:World} {K:PySem.W.Frag} {mg:Str→Option Value} {base:Heap} {t:Adr}
theorem ZJ (T:Txt w K mg t):Bb P w K mg base CX0 1 t.Af t.Ig ["self","name"] (iF t):=by
 refine T.Im.ok Yl (fun vs H Q E h=>?_) (fun cdv A outer s H vs Q E hr h=>?_)
 ·obtain ⟨x,n,rfl,_⟩:=h;rfl
 obtain ⟨x,n,rfl,hn,hx,q⟩:=h
 refine ⟨_,(cb (kc (Mn rfl T.Qh T.Sh (bb (pv 0) (bb (el (Dg (Go (pv 1) gx)) (by rw [sizeLine_eq];decide)) fb))))
   (gb (Gn (pv 0) (pv 1) rfl))),?_⟩
 (walk_at "RD")
 refine ⟨hn.1,hn.2,fun y=>⟨_,_,hx,T.Ao,?_⟩⟩
 exact ⟨_,hx,T.Ao,T.Xh,q⟩
theorem mx (T:Txt w K mg t):Bb P w K mg base (CX1 P w) 3 t.xc t.Jc ["self","name"] (ar t):=by
 have G_NoWay_init:Bb P w K mg base CX0 1 t.Af t.Ig ["self","name"] (iF t):=ZJ T
 refine T.Xe.okX Tg (fun vs H Q E h=>?_) (fun cdv A outer s H vs Q E hr h=>?_)
 ·obtain ⟨c,n,ds,x,rfl,_⟩:=h;rfl
 obtain ⟨c,n,ds,x,rfl,⟨⟨hnd,hdl⟩,dx,wl,nd,e1,e2,e3⟩,hsm,hq⟩:=h
 have hu:=Mv hr
 refine ⟨_,(cb (re (JE (ju hu (pv 1) (Nb (pv 0) rfl))) (gb (On (Cn T.Zw G_NoWay_init hr rfl T.LB T.Eu (bb (pv 1) fb)) js)) fc)
   (gb (Fb (sk hu (Nb (pv 0) rfl) (pv 1) (fun _ _=>rfl))))),?_⟩
 rcases hq with ⟨i,d,hd,rfl,q⟩ | ⟨hs,q⟩
 ·have hv:Jk (Iu ds ds.length) (Sum.inr d.name)=some (.int i):=by
   rw [← vq hd]
   exact Aw hnd (List.getElem?_eq_some_iff.mp hd).1 (Nat.le_refl _)
  have hg:Bk H nd (.str d.name) (some (.int i)):=by rw [← hv];exact Bk.k (k:=Sum.inr d.name) e3
  (walk_at "RD")
  refine Ub false (fun Q hQ=>?_) (fun hc=>nomatch hc) (fun _=>?_)
  ·(walk_at "RD")
   refine ⟨_,oh T e1,_,rfl,_,hg,?_⟩
   exact hQ
  ·(walk_at "RD")
   exact ⟨_,oh T e1,_,rfl,_,hg,q⟩
 ·have hv:Jk (Iu ds ds.length) (Sum.inr x)=none:=rH hs (Nat.le_refl _)
  have hg:Bk H nd (.str x) none:=by rw [← hv];exact Bk.k (k:=Sum.inr x) e3
  (walk_at "RD")
  refine Ub true (fun Q hQ=>?_) (fun _=>?_) (fun hc=>nomatch hc)
  ·(walk_at "RD")
   refine ⟨_,oh T e1,_,rfl,_,hg,?_⟩
   exact hQ
  ·(walk_at "RD")
   refine ⟨Nat.le_trans (show 1 ≤ 1000 by decide) (by decide),fun a ha=>⟨a,x,rfl,hsm,db,fun d hd hne=>?_⟩⟩
   have hd0:H d=none:=by rw [jb hne] at hd;exact hd
   refine ⟨rfl,t.ud,some d,by rw [jb (Ne.symm hne),db],T.Ao,q d _ (fun b u e=>?_) (fun nt=>(((nt.upd).upd).upd).upd) (by rw [jb hne,db])⟩
   rw [jb (lb e ha),jb (lb e hd0),jb (lb e ha),jb (lb e ha)]
   exact e
theorem Jq (T:Txt w K mg t):Bb P w K mg base (CX1 P w) 4 t.Eb t.Gb ["self","name"] (qm t):=by
 have GX_Crossing_number:Bb P w K mg base (CX1 P w) 3 t.xc t.Jc ["self","name"] (ar t):=mx T
 refine T.bf.okX Ng (fun vs H Q E h=>?_) (fun cdv A outer s H vs Q E hr h=>?_)
 ·obtain ⟨c,n,ds,x,rfl,_⟩:=h;rfl
 obtain ⟨c,n,ds,x,rfl,C,hsm,hq⟩:=h
 obtain ⟨⟨hnd,hdl⟩,dx,wl,nd,e1,⟨as,w1,w2,al⟩,e3⟩:=id C
 refine ⟨_,(gb (Fb (Cd Ld (Nb (pv 0) rfl) (Nc (pv 0) T.Cb T.Eh GX_Crossing_number hr T.vh .nil zk (bb (pv 1) fb)) (fun _ _=>rfl)))),?_⟩
 (walk_at "RD")
 refine ⟨_,sB T e1,_,_,e1,Gu _ _ _ (by decide +kernel),⟨c,n,ds,x,rfl,C,hsm,?_⟩⟩
 rcases hq with ⟨i,d,hd,ex,q⟩ | ⟨hs,q⟩
 ·refine .inl ⟨i,d,hd,ex,?_⟩
  have hi:i < as.length:=by rw [w2];exact (List.getElem?_eq_some_iff.mp hd).1
  have ha:as[i]? = some as[i]:=List.getElem?_eq_getElem hi
  (walk_at "RD")
  refine ⟨_,SqL.of w1,_,gc (show (as.map V.ref)[i]? = some (V.ref as[i]) by rw [List.getElem?_map,ha];rfl),?_⟩
  exact q as[i] (al i _ d ha hd)
 ·exact .inr ⟨hs,q⟩
end
noncomputable def Ym (n s f p:Int):Bool:=decide (0 < (p - s) % n) && decide ((p - s) % n < (f - s) % n)
noncomputable def LF (n s f s2 f2:Int):Bool:=decide (f=f2) || (if (s2=s∨s2=f)∨(f2=s∨f2=f) then false else (Ym n s f s2 != Ym n s f f2))
noncomputable abbrev mt (n:Int) (d e:WD):Bool:=LF n d.start d.fin e.start e.fin
noncomputable def eF (t:Adr):Sp:=fun vs H Q _=>∃ a d n p,vs=[.int n,.ref a,.int p]∧Td t H a d∧0 < n∧Q (.bl (Ym n d.start d.fin p)) H
noncomputable def UI (n:Int) (d e:WD):Bool:=if (e.start=d.start∨e.start=d.fin)∨(e.fin=d.start∨e.fin=d.fin) then false else (Ym n d.start d.fin e.start != Ym n d.start d.fin e.fin)
noncomputable def RB (t:Adr):Sp:=fun vs H Q _=>∃ a b d e n,vs=[.int n,.ref a,.ref b]∧Td t H a d∧Td t H b e∧0 < n∧NoT H∧Q (.bl (UI n d e)) H
noncomputable def LC (t:Adr):Sp:=fun vs H Q _=>∃ a b d e n,vs=[.int n,.ref a,.ref b]∧Td t H a d∧Td t H b e∧0 < n∧∀ H',Rb H H'→Q (.bl (UI n d e)) H'
noncomputable def Rz (t:Adr):Sp:=fun vs H Q _=>∃ c n ds,∃ i j:Nat,∃ d e,vs=[.ref c,.str d.name,.str e.name]∧Gc t H c n ds∧0 < n∧ds[i]? = some d∧ds[j]? = some e∧NoT H∧Q (.bl (mt n d e)) H
section
variable {P:Program} {w:World} {K:PySem.W.Frag} {mg:Str→Option Value} {base:Heap} {t:Adr}
theorem uJ (T:Txt w K mg t):Bb P w K mg base CX0 1 t.An t.Fn ["places","way","place"] (eF t):=by
 refine T.zn.ok zt (fun vs H Q E h=>?_) (fun cdv A outer s H vs Q E hr h=>?_)
 ·obtain ⟨a,d,n,p,rfl,_⟩:=h;rfl
 obtain ⟨a,d,n,p,rfl,W,hn,q⟩:=h
 refine ⟨_,(cb (Db (i:=3) zt.nd rfl (Or.inl rfl) (Ib Ae (Ib uh (pv 2) (Nb (pv 1) rfl)) (pv 0)))
   (gb (Fb (Zs (Ke bu pb (pv 3) (dc _)) (ir (Ke bu (pv 3) (Ib Ae (Ib uh (Nb (pv 1) rfl) (Nb (pv 1) rfl)) (pv 0)) (dc _))))))),?_⟩
 (walk_at "RD")
 refine ⟨_,W.f_start T,_,rfl,hn,?_⟩
 unfold Ym at q
 by_cases c:0 < (p - d.start) % n
 ·rw [if_pos (decide_eq_true c)]
  rw [decide_eq_true c,Bool.true_and] at q
  exact ⟨_,W.f_end T,_,W.f_start T,_,rfl,_,rfl,hn,q⟩
 ·rw [if_neg (by simpa using c)]
  rw [decide_eq_false c,Bool.false_and] at q
  exact q
theorem kM (x a b:Int):inV (.int x) [.int a,.int b]=decide (x=a∨x=b):=by
 unfold inV
 simp only [List.any_cons,List.any_nil,eqV,Bool.or_false]
 rw [Bool.eq_iff_iff]
 simp only [Bool.or_eq_true,beq_iff_eq,decide_eq_true_eq]
 omega
theorem kH (T:Txt w K mg t):Bb P w K mg base CX0 2 t.Zg t.Sg ["places","way","second"] (RB t):=by
 refine Bb.forget (sp:=LC t) ?_ fun vs H Q E h=>?_
 ·have G_in_bow:Bb P w K mg base CX0 1 t.An t.Fn ["places","way","place"] (eF t):=uJ T
  refine T.Qi.ok Kr (fun vs H Q E h=>?_) (fun cdv A outer s H vs Q E hr h=>?_)
  ·obtain ⟨a,b,d,e,n,rfl,_⟩:=h;rfl
  obtain ⟨a,b,d,e,n,rfl,Wa,Wb,hn,q⟩:=h
  refine ⟨_,(cb (re (PW.pt (sv (Xb zp (Nb (pv 2) rfl) (ck (bb (Nb (pv 1) rfl) (bb (Nb (pv 1) rfl) fb))) (by with_unfolding_all rfl)) (uo (Xb zp (Nb (pv 2) rfl) (ck (bb (Nb (pv 1) rfl) (bb (Nb (pv 1) rfl) fb))) (by with_unfolding_all rfl))))) (gb (Fb yq)) fc)
   (gb (Fb (Ke dA (ub G_in_bow hr rfl T.mw T.zn.kp T.iw .nil Ab (bb (pv 0) (bb (pv 1) (bb (Nb (pv 2) rfl) fb)))) (ub G_in_bow hr rfl T.mw T.zn.kp T.iw .nil Ab (bb (pv 0) (bb (pv 1) (bb (Nb (pv 2) rfl) fb)))) (dc _))))),?_⟩
  (walk_at "RD")
  refine Jn (fun b H'=>Rb H H'∧b=decide ((e.start=d.start∨e.start=d.fin)∨(e.fin=d.start∨e.fin=d.fin))) (fun Q hQ=>?_) (fun H' ⟨sm,hb⟩=>?_) (fun H' ⟨sm,hb⟩=>?_)
  ·(walk_at "RD")
   refine ⟨_,Wb.f_start T,_,Wa.f_start T,_,Wa.f_end T,by decide,fun p hp=>⟨_,.inl (SqL.of db),rfl,rfl,?_⟩⟩
   have s1:Rb H (upd H p (.lst [.int d.start,.int d.fin])):=qb hp
   rw [kM]
   by_cases c1:e.start=d.start∨e.start=d.fin
   ·rw [if_pos (decide_eq_true c1)]
    exact hQ _ _ ⟨s1,(decide_eq_true (.inl c1)).symm⟩
   ·rw [if_neg (by simpa using c1)]
    refine ⟨_,(Wb.same s1).f_end T,_,(Wa.same s1).f_start T,_,(Wa.same s1).f_end T,by decide,fun p2 hp2=>⟨_,.inl (SqL.of db),rfl,rfl,?_⟩⟩
    rw [kM]
    refine hQ _ _ ⟨s1.trans (qb hp2),?_⟩
    rw [Bool.eq_iff_iff,decide_eq_true_eq,decide_eq_true_eq]
    exact ⟨.inr,fun z=>z.resolve_left c1⟩
  ·(walk_at "RD")
   have hb':=of_decide_eq_true hb.symm
   have:=q H' sm
   unfold UI at this
   rw [if_pos hb'] at this
   exact this
  ·(walk_at "RD")
   have hb':=of_decide_eq_false hb.symm
   refine ⟨_,(Wb.same sm).f_start T,⟨a,d,n,_,rfl,Wa.same sm,hn,?_⟩⟩
   refine ⟨_,(Wb.same sm).f_end T,⟨a,d,n,_,rfl,Wa.same sm,hn,?_⟩⟩
   refine ⟨rfl,?_⟩
   have:=q H' sm
   unfold UI at this
   rw [if_neg hb'] at this
   rw [show (!decide (V.bl (Ym n d.start d.fin e.start)=V.bl (Ym n d.start d.fin e.fin)))=(Ym n d.start d.fin e.start != Ym n d.start d.fin e.fin) by
    cases Ym n d.start d.fin e.start <;> cases Ym n d.start d.fin e.fin <;> rfl]
   exact this
 ·obtain ⟨a,b,d,e,n,h1,h2,h3,h4,nt,q⟩:=h
  exact ⟨nt,a,b,d,e,n,h1,h2,h3,h4,fun H' sm=>⟨sm,q⟩⟩
theorem aL (n:Int) (d e:WD):mt n d e=(decide (d.fin=e.fin) || UI n d e):=rfl
theorem QF (T:Txt w K mg t):Bb P w K mg base CX0 3 t.Ow t.pw ["crossing","one","other"] (Rz t):=by
 have G_Crossing_called:Bb P w K mg base CX0 2 t.Eb t.Gb ["self","name"] (rh t):=aj T
 have G_bows_cross:Bb P w K mg base CX0 2 t.Zg t.Sg ["places","way","second"] (RB t):=kH T
 refine T.LA.ok Zu (fun vs H Q E h=>?_) (fun cdv A outer s H vs Q E hr h=>?_)
 ·obtain ⟨c,n,ds,i,j,d,e,rfl,_⟩:=h;rfl
 obtain ⟨c,n,ds,i,j,d,e,rfl,C,hn,hd,he,nt,q⟩:=h
 obtain ⟨_,dx,wl,nd,e1,e2,e3⟩:=id C
 refine ⟨_,(cb (Db (i:=3) Zu.nd rfl (Or.inl rfl) (Nc (pv 0) T.Cb T.Mb G_Crossing_called hr T.Lb .nil Ab (bb (pv 1) fb)))
   (cb (Db (i:=4) Zu.nd rfl (Or.inl rfl) (Nc (pv 0) T.Cb T.Mb G_Crossing_called hr T.Lb .nil Ab (bb (pv 2) fb)))
   (gb (Fb (pK (Ke Di (Nb (pv 3) rfl) (Nb (pv 4) rfl) (dc _)) (ir (ub G_bows_cross hr rfl T.eu T.Qi.kp T.Zt .nil Ab (bb (Nb (pv 0) rfl) (bb (pv 3) (bb (pv 4) fb)))))))))),?_⟩
 rw [aL] at q
 (walk_at "RD")
 refine ⟨_,_,e1,Gu _ _ _ (by decide +kernel),⟨c,n,ds,i,d,rfl,C,hd,fun a Wa=>?_⟩⟩
 (walk_at "RD")
 refine ⟨_,_,e1,Gu _ _ _ (by decide +kernel),⟨c,n,ds,j,e,rfl,C,he,fun b Wb=>?_⟩⟩
 (walk_at "RD")
 refine ⟨_,Wa.f_end T,_,Wb.f_end T,rfl,?_⟩
 (walk_at "RD")
 by_cases c1:d.fin=e.fin
 ·rw [if_pos (decide_eq_true c1)]
  rw [decide_eq_true c1,Bool.true_or] at q
  exact q
 ·rw [if_neg (by simpa using c1)]
  rw [decide_eq_false c1,Bool.false_or] at q
  exact ⟨_,MC T e1,⟨a,b,d,e,n,rfl,Wa,Wb,hn,nt,q⟩⟩
end
noncomputable def SE (t:Adr):Sp:=fun vs H Q _=>∃ c n ds,∃ i j:Nat,∃ d e,vs=[.ref c,.str d.name,.str e.name]∧Gc t H c n ds∧ds[i]? = some d∧ds[j]? = some e∧Q (.int (if d.off - e.near > 0 then d.off - e.near else 0)) H
section
variable {P:Program} {w:World} {K:PySem.W.Frag} {mg:Str→Option Value} {base:Heap} {t:Adr}
theorem vK (T:Txt w K mg t):Bb P w K mg base CX0 3 t.yC t.MD ["crossing","one","other"] (SE t):=by
 have G_Crossing_called:Bb P w K mg base CX0 2 t.Eb t.Gb ["self","name"] (rh t):=aj T
 refine T.kG.ok Ky (fun vs H Q E h=>?_) (fun cdv A outer s H vs Q E hr h=>?_)
 ·obtain ⟨c,n,ds,i,j,d,e,rfl,_⟩:=h;rfl
 obtain ⟨c,n,ds,i,j,d,e,rfl,C,hd,he,q⟩:=h
 obtain ⟨_,dx,wl,nd,e1,e2,e3⟩:=id C
 refine ⟨_,(cb (Db (i:=3) Ky.nd rfl (Or.inl rfl) (Nc (pv 0) T.Cb T.Mb G_Crossing_called hr T.Lb .nil Ab (bb (pv 1) fb)))
   (cb (Db (i:=4) Ky.nd rfl (Or.inl rfl) (Nc (pv 0) T.Cb T.Mb G_Crossing_called hr T.Lb .nil Ab (bb (pv 2) fb)))
   (gb (Fb (ic (lu rfl) rfl T.fG Ul (bb pb (bb (Ib uh (Nb (pv 3) rfl) (Nb (pv 4) rfl)) fb))))))),?_⟩
 (walk_at "RD")
 refine ⟨_,_,e1,Gu _ _ _ (by decide +kernel),⟨c,n,ds,i,d,rfl,C,hd,fun a Wa=>?_⟩⟩
 (walk_at "RD")
 refine ⟨_,_,e1,Gu _ _ _ (by decide +kernel),⟨c,n,ds,j,e,rfl,C,he,fun b Wb=>?_⟩⟩
 (walk_at "RD")
 refine ⟨_,Wa.f_off T,_,Wb.f_near T,?_⟩
 (walk_at "RD")
 exact q
end
end My
namespace My
open PySem L2
structure SD where
 name:Str
 b:Int
 n:Int
noncomputable def sdO (d:SD):HO:=.tup [.str d.name,.int d.b,.int d.n]
noncomputable def prO (p:Int × Int):HO:=.tup [.int p.1,.int p.2]
noncomputable def ofN (x:Str) (sp:List SD):List (Int × Int):=(sp.filter fun d=>decide (d.name=x)).map fun d=>(d.b,d.n)
noncomputable def LQ (H:Hp) (qs:List Addr) (os:List HO):Prop:=qs.length=os.length∧∀ (i:Nat) (q:Addr) (o:HO),qs[i]? = some q→os[i]? = some o→H q=some o
noncomputable def LO (H:Hp) (p:Addr) (os:List HO):Prop:=∃ qs:List Addr,H p=some (.lst (qs.map V.ref))∧LQ H qs os
theorem LQ.same {H H':Hp} {qs:List Addr} {os:List HO} (h:LQ H qs os) (s:Rb H H'):LQ H' qs os:=⟨h.1,fun i q o h1 h2=>s _ _ (h.2 i q o h1 h2)⟩
theorem LO.same {H H':Hp} {p:Addr} {os:List HO} (h:LO H p os) (s:Rb H H'):LO H' p os:=by
 obtain ⟨qs,e,q⟩:=h
 exact ⟨qs,s _ _ e,q.same s⟩
theorem LQ.nil (H:Hp):LQ H [] []:=⟨rfl,fun i q o h _=>by simp at h⟩
theorem LQ.app {H:Hp} {qs qs':List Addr} {os os':List HO} (h:LQ H qs os) (h':LQ H qs' os'):LQ H (qs ++ qs') (os ++ os'):=by
 refine ⟨by rw [List.length_append,List.length_append,h.1,h'.1],fun i q r h1 h2=>?_⟩
 rw [List.getElem?_append] at h1 h2
 rw [h.1] at h1
 by_cases c:i < os.length
 ·rw [if_pos c] at h1 h2;exact h.2 i q r h1 h2
 ·rw [if_neg c] at h1 h2;exact h'.2 _ q r h1 h2
theorem LQ.one {H:Hp} {p:Addr} {o:HO} (e:H p=some o):LQ H [p] [o]:=⟨rfl,fun i q r' h1 h2=>by
 match i,h1,h2 with
 | 0,h1,h2=>cases h1;cases h2;exact e
 | i + 1,h1,_=>simp at h1⟩
theorem LQ.at {H:Hp} {qs:List Addr} {os:List HO} (h:LQ H qs os) {i:Nat} {q:Addr} (hq:qs[i]? = some q):∃ o,os[i]? = some o∧H q=some o:=by
 have hi:i < os.length:=by rw [← h.1];exact (List.getElem?_eq_some_iff.mp hq).1
 exact ⟨_,List.getElem?_eq_getElem hi,h.2 i q _ hq (List.getElem?_eq_getElem hi)⟩
theorem Kw (x:Str) (sp:List SD) (d:SD):ofN x (sp ++ [d])=ofN x sp ++ if d.name=x then [(d.b,d.n)] else []:=by
 unfold ofN
 rw [List.filter_append,List.map_append]
 congr 1
 by_cases c:d.name=x
 ·rw [if_pos c,List.filter_cons_of_pos (by simpa using c)];rfl
 ·rw [if_neg c,List.filter_cons_of_neg (by simpa using c)];rfl
theorem tz (x:Str) (sp:List SD):(ofN x sp).length ≤ sp.length:=by
 unfold ofN
 rw [List.length_map]
 exact List.length_filter_le _ _
theorem xg {α:Type} {xs:List α} {i:Nat} {x:α} (h:xs[i]? = some x):xs.take (i + 1)=xs.take i ++ [x]:=by
 rw [List.take_add_one,h];rfl
noncomputable def xG {α:Type} (z:Int) (v:α) (l:List α) (i:Int):List α:=l.set (i % z).toNat v
noncomputable def zv {α:Type} (z:Int) (v:α) (b:Int):Nat→List α→List α
 | 0,l=>l
 | k + 1,l=>xG z v (zv z v b k l) (b + k)
noncomputable def Su {α:Type} (z:Int) (v:α) (b:Int):Nat→List α→List α
 | 0,l=>l
 | k + 1,l=>xG z v (Su z v b k l) (b - 1 - k)
theorem Vw {α:Type} (z:Int) (v:α) (l:List α) (i:Int):(xG z v l i).length=l.length:=by unfold xG;rw [List.length_set]
theorem Xf {α:Type} (z:Int) (v:α) (b:Int) (k:Nat) (l:List α):(zv z v b k l).length=l.length:=by
 induction k with
 | zero=>rfl
 | succ k ih=>unfold zv;rw [Vw,ih]
theorem Cl {α:Type} (z:Int) (v:α) (b:Int) (k:Nat) (l:List α):(Su z v b k l).length=l.length:=by
 induction k with
 | zero=>rfl
 | succ k ih=>unfold Su;rw [Vw,ih]
noncomputable def fmF (z:Nat) (ps:List (Int × Int)):List Bool:=ps.foldl (fun l p=>zv z true p.1 p.2.toNat l) (List.replicate z false)
noncomputable def tD (z rd fd:Nat) (l:List Str) (p:Int × Int):List Str:=zv z (Str.ofString "fade") (p.1 + p.2) fd (zv z (Str.ofString "free") p.1 p.2.toNat (Su z (Str.ofString "ready") p.1 rd l))
noncomputable def fj (z rd fd:Nat) (ps:List (Int × Int)):List Str:=ps.foldl (tD z rd fd) (List.replicate z (Str.ofString "stop"))
theorem YH {z:Nat} {ps:List (Int × Int)} {i:Nat} {p:Int × Int} (h:ps[i]? = some p):fmF z (ps.take (i + 1))=zv z true p.1 p.2.toNat (fmF z (ps.take i)):=by
 unfold fmF;rw [xg h,List.foldl_append];rfl
theorem ZA {z rd fd:Nat} {ps:List (Int × Int)} {i:Nat} {p:Int × Int} (h:ps[i]? = some p):fj z rd fd (ps.take (i + 1))=tD z rd fd (fj z rd fd (ps.take i)) p:=by
 unfold fj;rw [xg h,List.foldl_append];rfl
theorem Kh (z:Nat) (ps:List (Int × Int)):(fmF z ps).length=z:=by
 unfold fmF
 suffices h:∀ l:List Bool,l.length=z→(ps.foldl (fun l p=>zv z true p.1 p.2.toNat l) l).length=z from h _ (List.length_replicate ..)
 induction ps with
 | nil=>exact fun l h=>h
 | cons p ps ih=>exact fun l h=>ih _ (by rw [Xf];exact h)
theorem Jl (z rd fd:Nat) (ps:List (Int × Int)):(fj z rd fd ps).length=z:=by
 unfold fj
 suffices h:∀ l:List Str,l.length=z→(ps.foldl (tD z rd fd) l).length=z from h _ (List.length_replicate ..)
 induction ps with
 | nil=>exact fun l h=>h
 | cons p ps ih=>exact fun l h=>ih _ (by unfold tD;rw [Xf,Xf,Cl];exact h)
noncomputable def MF (z:Int) (sp:List SD):Prop:=sp.length ≤ 100∧∀ d ∈ sp,0 ≤ d.b∧d.b < 1000∧0 ≤ d.n∧d.n < 1000
theorem Ms {x:Str} {sp:List SD} {p:Int × Int} (h:p ∈ ofN x sp):∃ d ∈ sp,d.name=x∧p=(d.b,d.n):=by
 unfold ofN at h
 obtain ⟨d,hd,rfl⟩:=List.mem_map.mp h
 have:=List.mem_filter.mp hd
 exact ⟨d,this.1,by simpa using this.2,rfl⟩
theorem HK {m:Nat} (h:0 < m) (i:Int):ixN m (i % (m:Int))=some (i % (m:Int)).toNat:=by
 have h1:=Int.emod_nonneg i (show (m:Int) ≠ 0 by omega)
 have h2:=Int.emod_lt_of_pos i (show 0 < (m:Int) by omega)
 unfold ixN
 rw [if_pos h1,if_pos h2]
theorem Bw {α β:Type} (f:α→β) {l:List α} {z:Nat} (h:l.length=z) (hz:0 < z) (i:Int):ixN (l.map f).length (i % (z:Int))=some (i % (z:Int)).toNat:=by
 rw [List.length_map,h];exact HK hz i
theorem QB (d:WD):0 ≤ bc d∧bc d ≤ 2:=by
 unfold bc;split <;> omega
theorem wC {d:WD} (h:0 ≤ d.off∧d.off ≤ 1000):0 ≤ Gd d∧Gd d ≤ 1000:=by
 unfold Gd;split <;> omega
theorem TK {d:WD} {m:Str} (h:gq.contains m=false):(dn d).lookup m=none:=dl gq (sr _) h
noncomputable def Me (l:List Bool):List V:=l.map V.bl
theorem Kn {α β:Type} (f:α→β) (z:Int) (v:α) (l:List α) (i:Int):(l.map f).set (i % z).toNat (f v)=(xG z v l i).map f:=by
 unfold xG;rw [List.map_set]
noncomputable def Vn:Sp:=fun vs H Q _=>∃ p x sp,vs=[.ref p,.str x]∧LO H p (List.map sdO sp)∧sp.length ≤ 100∧∀ r H',Rb H H'→(NoT H→NoT H')→LO H' r ((ofN x sp).map prO)→Q (.ref r) H'
noncomputable def WH:Sp:=fun vs H Q _=>∃ (z:Nat) (p:Addr) (x:Str) (sp:List SD),vs=[.int z,.ref p,.str x]∧(0 < z∧z ≤ 1000)∧LO H p (List.map sdO sp)∧MF z sp∧∀ r H',Rb H H'→(NoT H→NoT H')→H r=none→H' r=some (.lst (Me (fmF z (ofN x sp))))→Q (.ref r) H'
noncomputable def WA (t:Adr):Sp:=fun vs H Q _=>∃ (a:Addr) (d:WD) (z:Nat) (p:Addr) (sp:List SD),vs=[.ref a,.int z,.ref p]∧(0 < z∧z ≤ 1000)∧Td t H a d∧LO H p (List.map sdO sp)∧MF z sp∧(0 ≤ d.off∧d.off ≤ 1000)∧∀ r H',Rb H H'→(NoT H→NoT H')→H r=none→H' r=some (.lst (Ob (fj z (bc d).toNat (Gd d).toNat (ofN d.name sp))))→Q (.ref r) H'
noncomputable def oe (m:List Bool):Nat→Int
 | 0=>0
 | k + 1=>if m[(2 * m.length - 1 - k) % m.length]? = some true then 0 else oe m k + 1
noncomputable def jk (m:List Bool):List Int:=(List.range m.length).map fun t=>oe m (2 * m.length - t)
noncomputable def gr (m:List Bool) (k:Nat):List Int:=(List.range k).map fun j=>oe m (m.length + j + 1)
theorem zy (m:List Bool):(gr m m.length).reverse=jk m:=by
 unfold gr jk
 refine List.ext_getElem (by simp) (fun i h1 h2=>?_)
 simp at h1
 simp
 congr 1
 omega
noncomputable def Vq (m:List Bool):List Int:=(jk m.reverse).reverse
noncomputable def Tr:Sp:=fun vs H Q _=>∃ (p:Addr) (m:List Bool),vs=[.ref p]∧H p=some (.lst (Me m))∧(0 < m.length∧m.length ≤ 1000)∧∀ r H',Rb H H'→(NoT H→NoT H')→H r=none→H' r=some (.lst ((jk m).map V.int))→Q (.ref r) H'
noncomputable def gw:Sp:=fun vs H Q _=>∃ (p:Addr) (m:List Bool),vs=[.ref p]∧H p=some (.lst (Me m))∧(0 < m.length∧m.length ≤ 1000)∧∀ r H',Rb H H'→(NoT H→NoT H')→H r=none→H' r=some (.lst ((Vq m).map V.int))→Q (.ref r) H'
section
variable {P:Program} {w:World} {K:PySem.W.Frag} {mg:Str→Option Value} {base:Heap} {t:Adr}
theorem Os (T:Txt w K mg t):Bb P w K mg base CX0 1 t.Ye t.Ze ["spans","name"] Vn:=by
 refine T.Zf.ok Rv (fun vs H Q E h=>?_) (fun cdv A outer s H vs Q E hr h=>?_)
 ·obtain ⟨p,x,sp,rfl,_⟩:=h;rfl
 obtain ⟨p,x,sp,rfl,⟨qs,l1,lq⟩,hl,q⟩:=h
 refine ⟨_,(gb (Fb (Hk rfl (Sd (pv 0)) (Nd (sc:=ib wm) rfl (by decide +kernel)) (N:=["called","begin","turns","name"]) (sel:=[none,none,none,some 1]) (He (M:=["spans","name"]) (by decide +kernel)) (Blk.of (fun _ _ _ _=>(af (K:=K) (n:=3) rfl rfl (Jb (wb (i:=0) (Ai (N:=["called","begin","turns","name"]) (by decide +kernel) rfl) rfl (Or.inl rfl) (.inr rfl)) (Jb (wb (i:=1) (Ai (N:=["called","begin","turns","name"]) (by decide +kernel) rfl) rfl (Or.inl rfl) (.inr rfl)) (Jb (wb (i:=2) (Ai (N:=["called","begin","turns","name"]) (by decide +kernel) rfl) rfl (Or.inl rfl) (.inr rfl)) We))))) (fun _ _ _ _=>⟨_,(bz (Xb Di (pv 0) (pv 3) (dc _))),by first | rfl | (dsimp only [Cx.block];done) | (dsimp only [Cx.block];exact rfl)⟩) (fun _ _ _ _=>⟨_,(Rk (bb (pv 1) (bb (pv 2) fb))),by first | rfl | (dsimp only [Cx.block];done) | (dsimp only [Cx.block];exact rfl)⟩))))),?_⟩
 (walk_at "RD")
 have hql:qs.length=sp.length:=by rw [lq.1,List.length_map]
 refine ⟨⟨_,SqL.of l1⟩,?_⟩
 refine Hd.list (xs:=qs.map V.ref) (fun i ys H'=>∃ os:List Addr,ys=os.map V.ref∧LQ H' os ((ofN x (sp.take i)).map prO)∧Rb H H'∧(NoT H→NoT H')) (Nat.le_trans (show (qs.map V.ref).length ≤ 100 by rw [List.length_map];omega) (by decide)) ⟨[],rfl,LQ.nil _,Rb.refl _,id⟩ ?_ ?_ ?_
 ·rintro i ys H' hi ⟨os,rfl,r,sm,_⟩
  refine ⟨(SqL.of l1).same sm,?_⟩
  rw [List.length_map,r.1,List.length_map]
  exact Nat.le_trans (tz _ _) (by rw [List.length_take];omega)
 ·rintro i v ys H' hv ⟨os,rfl,r,sm,nt⟩ N hN
  obtain ⟨qi,hqi,rfl⟩:=Vb hv
  obtain ⟨o,ho,e⟩:=lq.at hqi
  obtain ⟨d,hd,rfl⟩:=Vb ho
  have e':=sm _ _ e
  (walk_at "RD")
  refine ⟨_,SqT.of e',rfl,_,_,rfl,_,_,rfl,_,_,rfl,rfl,Sub.name3,rfl,?_⟩
  dsimp only at hN
  rw [xg hd,Kw,List.map_append] at hN
  by_cases c:d.name=x
  ·rw [if_pos c] at hN
   rw [if_pos (by rw [c];exact decide_eq_true rfl)]
   refine ⟨by decide,fun p1 hp1=>hN _ _ ⟨os ++ [p1],by rw [List.map_append];rfl,(r.same (qb hp1)).app (LQ.one db),sm.trans (qb hp1),fun n=>(nt n).upd⟩⟩
  ·rw [if_neg c] at hN
   rw [if_neg (by rw [decide_eq_true_eq];intro z;exact c (V.str.inj z))]
   exact hN _ _ ⟨os,rfl,by rw [List.map_nil,List.append_nil];exact r,sm,nt⟩
 ·rintro ys H' ⟨os,rfl,r,sm,nt⟩ p1 hp1
  rw [List.take_of_length_le (by rw [List.length_map];omega)] at r
  exact q _ _ (sm.trans (qb hp1)) (fun n=>(nt n).upd) ⟨os,db,r.same (qb hp1)⟩
theorem XJ (T:Txt w K mg t):Bb P w K mg base CX0 2 t.Cf t.Lf ["size","spans","name"] WH:=by
 have G_spans_of:Bb P w K mg base CX0 1 t.Ye t.Ze ["spans","name"] Vn:=Os T
 refine T.Gg.ok Fe (fun vs H Q E h=>?_) (fun cdv A outer s H vs Q E hr h=>?_)
 ·obtain ⟨z,p,x,sp,rfl,_⟩:=h;rfl
 obtain ⟨z,p,x,sp,rfl,hz,L,hs,q⟩:=h
 refine ⟨_,(cb (wj (i:=3) Fe.nd rfl (Or.inl rfl) rfl (Id rfl T.Qe (bb (pv 0) fb)) (Nd (sc:=ib Si) rfl (by decide +kernel)) (N:=["turn"]) (sel:=[none]) (He (M:=["size","spans","name","marks","begin","turns","step"]) (by decide +kernel)) (Blk.of (fun _ _ _ _=>(wb (i:=0) (Ai (N:=["turn"]) (by decide +kernel) rfl) rfl (Or.inl rfl))) (fun _ _ _ _=>⟨_,di,by first | rfl | (dsimp only [Cx.block];done) | (dsimp only [Cx.block];exact rfl)⟩) (fun _ _ _ _=>⟨_,yq,by first | rfl | (dsimp only [Cx.block];done) | (dsimp only [Cx.block];exact rfl)⟩)) rfl)
   (cb (wd PassesOwn.never rfl (Sd (ub G_spans_of hr rfl T.qj T.Zf.kp T.oj .nil Ab (bb (pv 1) (bb (pv 2) fb)))) (af (K:=K) (n:=2) rfl rfl (Jb (wb (i:=4) Fe.nd rfl (Or.inl rfl) (.inl rfl)) (Jb (wb (i:=5) Fe.nd rfl (Or.inl rfl) (.inl rfl)) We))) (gb (wd PassesOwn.never rfl (Id rfl T.Qe (bb (pv 5) fb)) (wb (i:=6) Fe.nd rfl (Or.inl rfl)) (gb (jo yq (gu (pv 3) (Ib Ae (Ib kd (pv 4) (pv 6)) (pv 0)) Nl))))))
   (gb (Fb (pv 3))))),?_⟩
 (walk_at "RD")
 obtain ⟨hz0,hz1⟩:=hz
 obtain ⟨hs1,hs2⟩:=hs
 refine ⟨by omega,by omega,?_⟩
 refine Hd.range_map (fun _=>V.bl false) (Nat.le_trans (show (z:Int).toNat ≤ 1000 by omega) (by decide)) (fun i N hi hN=>?_) (fun mk hmk=>?_)
 ·(walk_at "RD")
  exact ⟨Sub.name,hN⟩
 rw [show (List.range (z:Int).toNat).map (fun _=>V.bl false)=Me (fmF z []) by
  unfold Me fmF;rw [List.foldl_nil,List.map_replicate];exact List.ext_getElem (by simp) (by simp)]
 refine ⟨p,x,sp,rfl,L.same (qb hmk),hs1,fun r H1 s1 nt1 L1=>⟨r,rfl,?_⟩⟩
 obtain ⟨qs,l1,lq⟩:=L1
 refine ⟨⟨_,SqL.of l1⟩,?_⟩
 have hmk1:H1 mk=some (.lst (Me (fmF z []))):=s1 _ _ db
 have hrm:r ≠ mk:=fun e=>by
  subst e
  rw [l1] at hmk1
  injection hmk1 with e1
  injection e1 with e2
  have e3:=congrArg List.length e2
  cases qs with
  | nil=>simp [Me,Kh] at e3;omega
  | cons a qs=>
   have:(Me (fmF z []))[0]? = some (V.ref a):=by rw [← e2];rfl
   unfold Me at this
   rw [List.getElem?_map] at this
   cases hh:(fmF z [])[0]? with
   | none=>rw [hh] at this;cases this
   | some b=>rw [hh] at this;cases this
 refine Jh.list (xs:=qs.map V.ref) (fun i σ H'=>(∃ a b c,σ=[some (V.int z),some (V.ref p),some (V.str x),some (V.ref mk),a,b,c])∧bd mk H1 H'∧(NoT H→NoT H')∧H' mk=some (.lst (Me (fmF z ((ofN x sp).take i))))) ?_ ?_ ?_ ?_
 ·exact ⟨⟨_,_,_,rfl⟩,fun b u _ e=>e,fun n=>nt1 n.upd,hmk1⟩
 ·rintro i σ H' hi ⟨_,sx,_,_⟩
  exact SqL.of (sx _ _ hrm l1)
 ·rintro i v σ H' hv ⟨⟨a,b,c,rfl⟩,sx,nt',hm⟩
  obtain ⟨qi,hqi,rfl⟩:=Vb hv
  obtain ⟨o,ho,e⟩:=lq.at hqi
  obtain ⟨d,hd,rfl⟩:=Vb ho
  obtain ⟨sd,hsd,hsn,rfl⟩:=Ms (List.mem_of_getElem? hd)
  have hb:=hs2 sd hsd
  have e':=sx _ _ (Yf e hmk1 (by intro z;cases z)) e
  (walk_at "RD")
  refine ⟨_,SqT.of e',rfl,_,_,rfl,_,_,rfl,rfl,_,rfl,(by dsimp only;omega),(by dsimp only;omega),?_⟩
  rw [YH hd]
  refine Jh.range (fun k σ H'=>(∃ c,σ=[some (V.int z),some (V.ref p),some (V.str x),some (V.ref mk),some (V.int sd.b),some (V.int sd.n),c])∧bd mk H1 H'∧(NoT H→NoT H')∧H' mk=some (.lst (Me (zv z true sd.b k (fmF z ((ofN x sp).take i)))))) ?_ ?_ ?_
  ·exact ⟨⟨_,rfl⟩,sx,nt',hm⟩
  ·rintro k σ H2 hk ⟨⟨c,rfl⟩,sx2,nt2,hm2⟩
   (walk_at "RD")
   refine ⟨by omega,_,hm2,_,Bw V.bl (by rw [Xf,Kh]) hz0 _,⟨_,rfl⟩,fun b u hb e=>by rw [jb hb];exact sx2 _ _ hb e,fun n=>(nt2 n).upd,?_⟩
   rw [db]
   unfold Me
   rw [Kn V.bl]
   rfl
  ·rintro σ H2 ⟨⟨c,rfl⟩,sx2,nt2,hm2⟩
   exact ⟨⟨_,_,_,rfl⟩,sx2,nt2,hm2⟩
 ·rintro σ H' ⟨⟨a,b,c,rfl⟩,sx,nt',hm⟩
  (walk_at "RD")
  rw [List.take_of_length_le (by rw [List.length_map,lq.1,List.length_map];exact Nat.le_refl _)] at hm
  exact q _ _ (pe ((qb hmk).trans s1) sx hmk) nt' hmk hm
theorem GG (T:Txt w K mg t):Bb P w K mg base CX0 2 t.Zv t.cx ["way","size","spans"] (WA t):=by
 have G_spans_of:Bb P w K mg base CX0 1 t.Ye t.Ze ["spans","name"] Vn:=Os T
 have V_Way_ready:DD P w K mg base CX0 1 (isW t) "ready" ["self"] (qh t):=Fz T
 have V_Way_fade:DD P w K mg base CX0 1 (isW t) "fade" ["self"] (nj t):=AF T
 refine T.fA.ok Gk (fun vs H Q E h=>?_) (fun cdv A outer s H vs Q E hr h=>?_)
 ·obtain ⟨a,d,z,p,sp,rfl,_⟩:=h;rfl
 obtain ⟨a,d,z,p,sp,rfl,⟨hz0,hz1⟩,W,L,⟨hs1,hs2⟩,hoff,q⟩:=h
 refine ⟨_,(cb (wj (i:=3) Gk.nd rfl (Or.inl rfl) rfl (Id rfl T.Qe (bb (pv 1) fb)) (Nd (sc:=ib AB) rfl (by decide +kernel)) (N:=["turn"]) (sel:=[none]) (He (M:=["way","size","spans","shown","begin","turns","step"]) (by decide +kernel)) (Blk.of (fun _ _ _ _=>(wb (i:=0) (Ai (N:=["turn"]) (by decide +kernel) rfl) rfl (Or.inl rfl))) (fun _ _ _ _=>⟨_,di,by first | rfl | (dsimp only [Cx.block];done) | (dsimp only [Cx.block];exact rfl)⟩) (fun _ _ _ _=>⟨_,Cc,by first | rfl | (dsimp only [Cx.block];done) | (dsimp only [Cx.block];exact rfl)⟩)) rfl)
   (cb (wd PassesOwn.never rfl (Sd (ub G_spans_of hr rfl T.qj T.Zf.kp T.oj .nil Ab (bb (pv 2) (bb (Nb (pv 0) rfl) fb)))) (af (K:=K) (n:=2) rfl rfl (Jb (wb (i:=4) Gk.nd rfl (Or.inl rfl) (.inl rfl)) (Jb (wb (i:=5) Gk.nd rfl (Or.inl rfl) (.inl rfl)) We))) (cb (wd PassesOwn.never rfl (Id rfl T.Qe (bb (Al (pv 0) V_Way_ready hr Ab) fb)) (wb (i:=6) Gk.nd rfl (Or.inl rfl)) (gb (jo Cc (gu (pv 3) (Ib Ae (Ib uh (Ib uh (pv 4) pb) (pv 6)) (pv 1)) Nl))))
   (cb (wd PassesOwn.never rfl (Id rfl T.Qe (bb (pv 5) fb)) (wb (i:=6) Gk.nd rfl (Or.inl rfl)) (gb (jo Cc (gu (pv 3) (Ib Ae (Ib kd (pv 4) (pv 6)) (pv 1)) Nl))))
   (gb (wd PassesOwn.never rfl (Id rfl T.Qe (bb (Al (pv 0) V_Way_fade hr Ab) fb)) (wb (i:=6) Gk.nd rfl (Or.inl rfl)) (gb (jo Cc (gu (pv 3) (Ib Ae (Ib kd (Ib kd (pv 4) (pv 5)) (pv 6)) (pv 1)) Nl))))))))
   (gb (Fb (pv 3))))),?_⟩
 (walk_at "RD")
 refine ⟨by omega,by omega,?_⟩
 refine Hd.range_map (fun _=>V.str (Str.ofString "stop")) (Nat.le_trans (show (z:Int).toNat ≤ 1000 by omega) (by decide)) (fun i N hi hN=>?_) (fun mk hmk=>?_)
 ·(walk_at "RD")
  exact ⟨Sub.name,hN⟩
 rw [show (List.range (z:Int).toNat).map (fun _=>V.str (Str.ofString "stop"))=Ob (fj z (bc d).toNat (Gd d).toNat []) by
  unfold Ob fj;rw [List.foldl_nil,List.map_replicate];exact List.ext_getElem (by simp) (by simp)]
 have hrd:=QB d
 have hfd:=wC hoff
 obtain ⟨dk,dx,hway⟩:=id W
 have w0:∀ {H':Hp},bd mk (upd H mk (.lst (Ob (fj z (bc d).toNat (Gd d).toNat [])))) H'→H' a=some (.ins (t.cw d.k) dx (dn d)):=fun sx=>sx _ _ (lb hway hmk) ((qb hmk) _ _ hway)
 refine ⟨_,(W.same (qb hmk)).f_name T,p,d.name,sp,rfl,L.same (qb hmk),hs1,fun r H1 s1 nt1 L1=>⟨r,rfl,?_⟩⟩
 obtain ⟨qs,l1,lq⟩:=L1
 refine ⟨⟨_,SqL.of l1⟩,?_⟩
 have hmk1:H1 mk=some (.lst (Ob (fj z (bc d).toNat (Gd d).toNat []))):=s1 _ _ db
 have hrm:r ≠ mk:=fun e=>by
  subst e
  rw [l1] at hmk1
  injection hmk1 with e1
  injection e1 with e2
  have e3:=congrArg List.length e2
  cases qs with
  | nil=>simp [Ob,Jl] at e3;omega
  | cons a qs=>
   have:(Ob (fj z (bc d).toNat (Gd d).toNat []))[0]? = some (V.ref a):=by rw [← e2];rfl
   unfold Ob at this
   rw [List.getElem?_map] at this
   cases hh:(fj z (bc d).toNat (Gd d).toNat [])[0]? with
   | none=>rw [hh] at this;cases this
   | some b=>rw [hh] at this;cases this
 have wx:∀ {H':Hp},bd mk H1 H'→Td t H' a d:=fun sx=>⟨dk,dx,sx _ _ (lb hway hmk) (s1 _ _ ((qb hmk) _ _ hway))⟩
 refine Jh.list (xs:=qs.map V.ref) (fun i σ H'=>(∃ a1 b c,σ=[some (V.ref a),some (V.int z),some (V.ref p),some (V.ref mk),a1,b,c])∧bd mk H1 H'∧(NoT H→NoT H')∧H' mk=some (.lst (Ob (fj z (bc d).toNat (Gd d).toNat ((ofN d.name sp).take i))))) ?_ ?_ ?_ ?_
 ·exact ⟨⟨_,_,_,rfl⟩,fun b u _ e=>e,fun n=>nt1 n.upd,hmk1⟩
 ·rintro i σ H' hi ⟨_,sx,_,_⟩
  exact SqL.of (sx _ _ hrm l1)
 ·rintro i v σ H' hv ⟨⟨a1,b,c,rfl⟩,sx,nt',hm⟩
  obtain ⟨qi,hqi,rfl⟩:=Vb hv
  obtain ⟨o,ho,e⟩:=lq.at hqi
  obtain ⟨dd,hd,rfl⟩:=Vb ho
  obtain ⟨sd,hsd,hsn,rfl⟩:=Ms (List.mem_of_getElem? hd)
  have hb:=hs2 sd hsd
  have e':=sx _ _ (Yf e hmk1 (by intro z;cases z)) e
  have W1:=wx sx
  obtain ⟨_,dx1,hw1⟩:=id W1
  (walk_at "RD")
  refine ⟨_,SqT.of e',rfl,_,_,rfl,_,_,rfl,rfl,_,_,_,hw1,⟨_,dk,rfl⟩,TK (by decide +kernel),_,d,rfl,W1,rfl,_,rfl,by omega,by omega,?_⟩
  rw [ZA hd]
  refine Jh.range (fun k σ H'=>(∃ c,σ=[some (V.ref a),some (V.int z),some (V.ref p),some (V.ref mk),some (V.int sd.b),some (V.int sd.n),c])∧bd mk H1 H'∧(NoT H→NoT H')∧H' mk=some (.lst (Ob (Su z (Str.ofString "ready") sd.b k (fj z (bc d).toNat (Gd d).toNat ((ofN d.name sp).take i)))))) ?_ ?_ ?_
  ·exact ⟨⟨_,rfl⟩,sx,nt',hm⟩
  ·rintro k σ H2 hk ⟨⟨c,rfl⟩,sx2,nt2,hm2⟩
   (walk_at "RD")
   refine ⟨by omega,_,hm2,_,Bw V.str (by rw [Cl,Jl]) hz0 _,⟨_,rfl⟩,fun b u hb e=>by rw [jb hb];exact sx2 _ _ hb e,fun n=>(nt2 n).upd,?_⟩
   rw [db]
   unfold Ob
   rw [Kn V.str]
   rfl
  rintro σ H2 ⟨⟨c,rfl⟩,sx2,nt2,hm2⟩
  (walk_at "RD")
  refine ⟨by omega,by omega,?_⟩
  refine Jh.range (fun k σ H'=>(∃ c,σ=[some (V.ref a),some (V.int z),some (V.ref p),some (V.ref mk),some (V.int sd.b),some (V.int sd.n),c])∧bd mk H1 H'∧(NoT H→NoT H')∧H' mk=some (.lst (Ob (zv z (Str.ofString "free") sd.b k (Su z (Str.ofString "ready") sd.b (bc d).toNat (fj z (bc d).toNat (Gd d).toNat ((ofN d.name sp).take i))))))) ?_ ?_ ?_
  ·exact ⟨⟨_,rfl⟩,sx2,nt2,hm2⟩
  ·rintro k σ H2 hk ⟨⟨c,rfl⟩,sx2,nt2,hm2⟩
   (walk_at "RD")
   refine ⟨by omega,_,hm2,_,Bw V.str (by rw [Xf,Cl,Jl]) hz0 _,⟨_,rfl⟩,fun b u hb e=>by rw [jb hb];exact sx2 _ _ hb e,fun n=>(nt2 n).upd,?_⟩
   rw [db]
   unfold Ob
   rw [Kn V.str]
   rfl
  rintro σ H3 ⟨⟨c,rfl⟩,sx3,nt3,hm3⟩
  have W3:=wx sx3
  obtain ⟨_,dx3,hw3⟩:=id W3
  (walk_at "RD")
  refine ⟨_,_,_,hw3,⟨_,dk,rfl⟩,TK (by decide +kernel),_,d,rfl,W3,rfl,_,rfl,by omega,by omega,?_⟩
  refine Jh.range (fun k σ H'=>(∃ c,σ=[some (V.ref a),some (V.int z),some (V.ref p),some (V.ref mk),some (V.int sd.b),some (V.int sd.n),c])∧bd mk H1 H'∧(NoT H→NoT H')∧H' mk=some (.lst (Ob (zv z (Str.ofString "fade") (sd.b + sd.n) k (zv z (Str.ofString "free") sd.b sd.n.toNat (Su z (Str.ofString "ready") sd.b (bc d).toNat (fj z (bc d).toNat (Gd d).toNat ((ofN d.name sp).take i)))))))) ?_ ?_ ?_
  ·exact ⟨⟨_,rfl⟩,sx3,nt3,hm3⟩
  ·rintro k σ H2 hk ⟨⟨c,rfl⟩,sx2,nt2,hm2⟩
   (walk_at "RD")
   refine ⟨by omega,_,hm2,_,Bw V.str (by rw [Xf,Xf,Cl,Jl]) hz0 _,⟨_,rfl⟩,fun b u hb e=>by rw [jb hb];exact sx2 _ _ hb e,fun n=>(nt2 n).upd,?_⟩
   rw [db]
   unfold Ob
   rw [Kn V.str]
   rfl
  ·rintro σ H2 ⟨⟨c,rfl⟩,sx2,nt2,hm2⟩
   exact ⟨⟨_,_,_,rfl⟩,sx2,nt2,hm2⟩
 ·rintro σ H' ⟨⟨a1,b,c,rfl⟩,sx,nt',hm⟩
  (walk_at "RD")
  rw [List.take_of_length_le (by rw [List.length_map,lq.1,List.length_map];exact Nat.le_refl _)] at hm
  exact q _ _ (pe ((qb hmk).trans s1) sx hmk) nt' hmk hm
theorem fw (T:Txt w K mg t):Bb P w K mg base CX0 1 t.de t.ge ["marks"] Tr:=by
 refine T.pf.ok gd (fun vs H Q E h=>?_) (fun cdv A outer s H vs Q E hr h=>?_)
 ·obtain ⟨p,m,rfl,_⟩:=h;rfl
 obtain ⟨p,m,rfl,hm,hl,q⟩:=h
 refine ⟨_,(cb (Db (i:=1) gd.nd rfl (Or.inl rfl) (ic ac rfl T.Wl Lc (bb (pv 0) fb)))
   (cb (Db (i:=2) gd.nd rfl (Or.inl rfl) pb)
   (cb (Db (i:=3) gd.nd rfl (Or.inl rfl) (ck fb))
   (cb (wd PassesOwn.never rfl (Bu rfl T.Qe (bb (Ib uh (Ib Nm pb (pv 1)) pb) (bb (TD bw pb) (bb (TD bw pb) fb)))) (wb (i:=4) gd.nd rfl (Or.inl rfl)) (cb (Db (i:=2) gd.nd rfl (Or.inl rfl) (Wr (ph (Cd Ld (pv 0) (Ib Ae (pv 4) (pv 1)) (fun _ _=>rfl))) pb (Ib kd (pv 2) pb)))
   (gb (re (Xb bu (pv 4) (pv 1) (dc _)) (gb (kc (Ft PySem.F.plainAttrs_list PySem.F.slot_list_append PySem.F.type_list_append Oi (pv 3) (bb (pv 2) fb)))) fc))))
   (gb (Fb (Am rfl rfl T.KA rfl T.Bm (bb (pv 3) fb)))))))),?_⟩
 (walk_at "RD")
 refine ⟨_,.inl (SqL.of hm),Nat.zero_le _,fun u hu=>?_⟩
 have hbl:(Me m).length=m.length:=by unfold Me;rw [List.length_map]
 rw [hbl]
 refine ⟨by unfold wE;omega,by omega,by omega,by omega,by omega,?_⟩
 have hun:p ≠ u:=lb hm hu
 refine Jh.of (n:=2 * m.length) (fun k σ H'=>(∃ x,σ=[some (V.ref p),some (V.int m.length),some (V.int (oe m k)),some (V.ref u),x])∧bd u H H'∧(NoT H→NoT H')∧H' u=some (.lst ((gr m (k - m.length)).map V.int))) ?_ (fun i σ H' hi _=>?_) (fun σ H' _=>?_) ?_ ?_
 ·exact ⟨⟨_,rfl⟩,fun b o hb e=>by rw [jb hb];exact e,fun n=>n.upd,by rw [db,Nat.zero_sub];rfl⟩
 ·show i < _;omega
 ·show _ ≤ 2 * m.length;omega
 ·rintro k σ H'' v H' hk ⟨⟨x,rfl⟩,sx,nt',hu'⟩ ⟨rfl,rfl⟩
  have hjn:(2 * m.length - 1 - k) % m.length < m.length:=Nat.mod_lt _ hl.1
  have hmj:m[(2 * m.length - 1 - k) % m.length]? = some m[(2 * m.length - 1 - k) % m.length]:=List.getElem?_eq_getElem hjn
  have hj:((2 * m.length - 1 - k:Int)) % (m.length:Int)=(((2 * m.length - 1 - k) % m.length:Nat):Int):=by
   rw [Int.natCast_emod];congr 1;omega
  have hat:atI (Me m) ((2 * m.length - 1 - k:Int) % (m.length:Int))=some (V.bl m[(2 * m.length - 1 - k) % m.length]):=by
   rw [hj];exact gc (by unfold Me;rw [List.getElem?_map,hmj];rfl)
  have hst:oe m (k + 1)=if m[(2 * m.length - 1 - k) % m.length]=true then 0 else oe m k + 1:=by
   show (if m[(2 * m.length - 1 - k) % m.length]? = some true then 0 else oe m k + 1)=_
   rw [hmj]
   simp
  simp only [ef,Tb,List.set_cons_succ,List.set_cons_zero]
  refine jd (fun σ H4=>H4=H'∧σ=[some (V.ref p),some (V.int m.length),some (V.int (oe m (k + 1))),some (V.ref u),some (V.int (2 * m.length - 1 - k))]) (fun D' hD _ _ _=>?_) ?_
  ·(walk_at "RD")
   refine ⟨by omega,_,SqL.of (sx _ _ hun hm),_,hat,_,rfl,?_⟩
   rw [hst] at hD
   by_cases c:m[(2 * m.length - 1 - k) % m.length]=true
   ·rw [if_pos c] at hD ⊢
    exact hD _ _ ⟨rfl,rfl⟩
   ·rw [if_neg c] at hD ⊢
    exact hD _ _ ⟨rfl,rfl⟩
  rintro σ H4 ⟨rfl,rfl⟩
  dsimp only
  refine Ub (decide ((2 * m.length - 1 - k:Int) < m.length)) (fun Q hQ=>?_) (fun hc=>?_) (fun hc=>?_)
  ·(walk_at "RD")
   exact hQ
  ·(walk_at "RD")
   have hc':=of_decide_eq_true hc
   refine ⟨.inl ⟨_,SqL.of hu'⟩,_,hu',Nat.lt_of_le_of_lt (show ((gr m (k - m.length)).map V.int).length ≤ 1000 by unfold gr;simp;omega) (by decide),⟨_,rfl⟩,fun b o hb e=>by rw [jb hb];exact sx _ _ hb e,fun n=>(nt' n).upd,?_⟩
   rw [db,show k + 1 - m.length=k - m.length + 1 by omega]
   unfold gr
   rw [List.range_succ,List.map_append,List.map_append]
   simp only [List.map_cons,List.map_nil]
   rw [show m.length + (k - m.length) + 1=k + 1 by omega]
  ·(walk_at "RD")
   have hc':=of_decide_eq_false hc
   refine ⟨⟨_,rfl⟩,sx,nt',?_⟩
   rw [hu',show k - m.length=0 by omega,show k + 1 - m.length=0 by omega]
 ·rintro σ H' ⟨⟨x,rfl⟩,sx,nt',hu'⟩
  (walk_at "RD")
  refine ⟨_,SqL.of hu',fun l hl'=>?_⟩
  have hlu:l ≠ u:=fun z=>by subst z;rw [hu'] at hl';cases hl'
  refine q _ _ ((pe (Rb.refl H) sx hu).trans (qb hl')) (fun n=>(nt' n).upd) ((pe (Rb.refl H) sx hu).free hl') ?_
  rw [db,show 2 * m.length - m.length=m.length by omega,← List.map_reverse,zy]
theorem SC (T:Txt w K mg t):Bb P w K mg base CX0 2 t.cf t.df ["marks"] gw:=by
 have G_until_marked:Bb P w K mg base CX0 1 t.de t.ge ["marks"] Tr:=fw T
 refine T.fh.ok Po (fun vs H Q E h=>?_) (fun cdv A outer s H vs Q E hr h=>?_)
 ·obtain ⟨p,m,rfl,_⟩:=h;rfl
 obtain ⟨p,m,rfl,hm,hl,q⟩:=h
 refine ⟨_,(gb (Fb (Am rfl rfl T.KA rfl T.Bm (bb (ub G_until_marked hr rfl T.gk T.pf.kp T.Fj .nil Ab (bb (Am rfl rfl T.KA rfl T.Bm (bb (pv 0) fb)) fb)) fb)))),?_⟩
 (walk_at "RD")
 refine ⟨_,SqL.of hm,fun l1 h1=>?_⟩
 refine ⟨l1,m.reverse,rfl,by rw [db,Me,Me,List.map_reverse],by rw [List.length_reverse];exact hl,fun r H1 s1 nt1 hr1 hu=>⟨r,rfl,_,SqL.of hu,fun l2 h2=>?_⟩⟩
 refine q _ _ (((qb h1).trans s1).trans (qb h2)) (fun n=>(nt1 n.upd).upd) (((qb h1).trans s1).free h2) ?_
 rw [db,← List.map_reverse]
 rfl
end
end My
namespace My
open PySem L2
theorem Vr {i:Int} (h:i.natAbs < 100000):i.natAbs.log2 < 1920:=by
 by_cases h0:i.natAbs=0
 ·rw [h0];decide
 ·exact (Nat.log2_lt h0).mpr (Nat.lt_trans h (by decide))
theorem qo {α:Type} {l:List α} {a x:α} {i:Nat} (h:(l ++ [a])[i]? = some x):(i < l.length∧l[i]? = some x)∨(i=l.length∧x=a):=by
 by_cases hi:i < l.length
 ·rw [List.getElem?_append_left hi] at h
  exact .inl ⟨hi,h⟩
 ·rw [List.getElem?_append_right (by omega)] at h
  have h0:i - l.length=0:=by
   cases hh:i - l.length with
   | zero=>rfl
   | succ m=>rw [hh] at h;simp at h
  rw [h0] at h
  exact .inr ⟨by omega,(by simpa using h:a=x).symm⟩
noncomputable def jH (x:Str):Prop:=x.length ≤ 1000∧∀ c ∈ x.cps.toList,c < 16 ^ 8
noncomputable def SB (C:Addr) (fs:List (Str × V)) (H:Hp) (E:XK):Prop:=∀ dx H',Rb H H'→(NoT H→NoT H')→H' dx=some (.ext (XD dx fs))→E (.ref C) (some dx) H'
theorem SB.step {C:Addr} {fs:List (Str × V)} {H H1:Hp} {E:XK} (h:SB C fs H E) (s:Rb H H1) (n:NoT H→NoT H1):SB C fs H1 E:=fun dx H' s' n' e=>h dx H' (s.trans s') (fun z=>n' (n z)) e
noncomputable def DOk (ds:List WD):Prop:=∀ d ∈ ds,jH d.name∧0 ≤ d.off∧d.off ≤ 1000
noncomputable def oi (ds:List WD) (sp:List SD):Option Str:=(ds.map (·.name)).find? fun x=>(ofN x sp).isEmpty
noncomputable def EF (t:Adr):Sp:=fun vs H Q _=>∃ x n,vs=[.ref x,.str n]∧jH n∧H x=some (.ext (XF x t.ad none)) ∧
 ∀ dx,H dx=none→dx ≠ x→Q .non (upd (upd H x (.ext (XF x t.ad (some dx)))) dx (.ext (XD dx [(Str.ofString "way",.str n)])))
noncomputable def AE (t:Adr):Sp:=fun vs H Q _=>∃ x n i,vs=[.ref x,.str n,.int i]∧jH n∧i.natAbs.log2 < 1920∧H x=some (.ext (XF x t.Wc none)) ∧
 ∀ dx,H dx=none→dx ≠ x→Q .non (upd (upd H x (.ext (XF x t.Wc (some dx)))) dx (.ext (XD dx [(Str.ofString "way",.str n),(Str.ofString "at",.int i)])))
noncomputable def lF (t:Adr):Sp:=fun vs H Q _=>∃ x n m i,vs=[.ref x,.str n,.str m,.int i]∧jH n∧jH m∧i.natAbs.log2 < 1920∧H x=some (.ext (XF x t.Mc none)) ∧
 ∀ dx,H dx=none→dx ≠ x→Q .non (upd (upd H x (.ext (XF x t.Mc (some dx)))) dx (.ext (XD dx [(Str.ofString "way",.str n),(Str.ofString "other",.str m),(Str.ofString "at",.int i)])))
noncomputable def Au (t:Adr):Sp:=fun vs H Q E=>∃ c n ds p sp,vs=[.ref c,.ref p]∧Gc t H c n ds∧DOk ds∧LO H p (List.map sdO sp)∧sp.length ≤ 100 ∧
 match oi ds sp with
 | none=>∀ H',Rb H H'→(NoT H→NoT H')→Q .non H'
 | some x=>SB t.ad [(Str.ofString "way",.str x)] H E
noncomputable def qx (z:Int) (sp:List SD) (k:Nat) (d:SD):Int:=(((ofN d.name (sp.eraseIdx k)).map fun p=>(p.1 - d.b) % z).min?).getD z
noncomputable def sA:Sp:=fun vs H Q E=>∃ (z:Int) (p:Addr) (sp:List SD) (k:Nat) (d:SD),vs=[.int z,.ref p,.int k]∧0 < z∧LO H p (List.map sdO sp)∧sp.length ≤ 100∧sp[k]? = some d∧∀ H',Rb H H'→(NoT H→NoT H')→Q (.int (qx z sp k d)) H'
theorem Jx {α:Type} (l:List α) (x:α) (k:Nat):(l ++ [x]).eraseIdx k=if k=l.length then l.eraseIdx k else l.eraseIdx k ++ [x]:=by
 by_cases h:k < l.length
 ·rw [if_neg (by omega),List.eraseIdx_append_of_lt_length h]
 ·rw [List.eraseIdx_append_of_length_le (by omega),List.eraseIdx_of_length_le (l:=l) (by omega)]
  by_cases h2:k=l.length
  ·rw [if_pos h2,h2,Nat.sub_self];simp
  ·rw [if_neg h2,List.eraseIdx_of_length_le (by simp;omega)]
noncomputable def wOf (ds:List WD) (x:Str):Option WD:=ds.find? fun d=>decide (d.name=x)
noncomputable def Sq (ds:List WD) (z:Int) (sp:List SD) (k:Nat) (s:SD):Bool:=(wOf ds s.name).any fun d=>decide (s.n < d.least) || decide (qx z sp k s < s.n + Gd d + bc d)
noncomputable def Fi (ds:List WD) (z:Int) (sp:List SD):Option (SD × Nat):=sp.zipIdx.find? fun e=>Sq ds z sp e.2 e.1
noncomputable def xt (t:Adr):Sp:=fun vs H Q E=>∃ (c:Addr) (n:Int) (ds:List WD) (z:Int) (p:Addr) (sp:List SD),vs=[.ref c,.int z,.ref p]∧Gc t H c n ds∧DOk ds∧(0 < z∧z ≤ 1000)∧LO H p (List.map sdO sp)∧MF z sp∧(∀ s ∈ sp,∃ d,wOf ds s.name=some d) ∧
 match Fi ds z sp with
 | none=>∀ H',Rb H H'→(NoT H→NoT H')→Q .non H'
 | some e=>SB t.Wc [(Str.ofString "way",.str e.1.name),(Str.ofString "at",.int e.1.b)] H E
theorem cu {P:Program} {w:World} {K:PySem.W.Frag} {mg:Str→Option Value} {base:Heap} {CX:CXT} {j k:Nat} {OK:Addr→Prop} {m:Str} {ps:List Str} {SPV:Addr→Sp} (V:DD P w K mg base CX j OK m ps SPV) (h:j ≤ k):DD P w K mg base CX k OK m ps SPV:=⟨fun C hC=>by
 obtain ⟨f,fd,h1,h2,h3,h4⟩:=V.ok C hC
 exact ⟨f,fd,h1,h2,h3.mono h,h4⟩⟩
theorem CF {ds:List WD} {x:Str} {d:WD} (h:wOf ds x=some d):d.name=x∧∃ i:Nat,ds[i]? = some d:=by
 unfold wOf at h
 refine ⟨by simpa using List.find?_some h,?_⟩
 obtain ⟨i,hi,e⟩:=List.getElem_of_mem (List.mem_of_find?_eq_some h)
 exact ⟨i,by rw [List.getElem?_eq_getElem hi,e]⟩
noncomputable def pz (d1 d2:WD):Int:=if d1.off - d2.near > 0 then d1.off - d2.near else 0
noncomputable def Oo (g:Int) (m1 m2:List Int):Option ((Int × Int) × Nat):=(m1.zip m2).zipIdx.find? fun e=>decide (e.1.2=0) && decide (e.1.1 ≤ g)
noncomputable def jF (t:Adr):Sp:=fun vs H Q E=>∃ (c:Addr) (n:Int) (ds:List WD) (d1 d2:WD) (p1 p2:Addr) (m1 m2:List Int),vs=[.ref c,.str d1.name,.str d2.name,.ref p1,.ref p2]∧Gc t H c n ds∧DOk ds∧d1 ∈ ds∧d2 ∈ ds∧H p1=some (.lst (m1.map V.int))∧H p2=some (.lst (m2.map V.int))∧m1.length=m2.length∧m1.length ≤ 1000 ∧
 match Oo (pz d1 d2) m1 m2 with
 | none=>∀ H',Rb H H'→(NoT H→NoT H')→Q .non H'
 | some e=>SB t.Mc [(Str.ofString "way",.str d1.name),(Str.ofString "other",.str d2.name),(Str.ofString "at",.int e.2)] H E
noncomputable def Zk (z:Nat) (sp:List SD) (x:Str):List Int:=Vq (fmF z (ofN x sp))
noncomputable def Vo (n:Int) (z:Nat) (sp:List SD) (d1 d2:WD):Option Nat:=if d1.name ≠ d2.name∧mt n d1 d2=true then (Oo (pz d1 d2) (Zk z sp d1.name) (Zk z sp d2.name)).map (·.2) else none
noncomputable def br (n:Int) (z:Nat) (sp:List SD) (d1:WD) (ds:List WD):Option (WD × WD × Nat):=ds.findSome? fun d2=>(Vo n z sp d1 d2).map fun i=>(d1,d2,i)
noncomputable def ik (n:Int) (z:Nat) (sp:List SD) (ds:List WD):Option (WD × WD × Nat):=ds.findSome? fun d1=>br n z sp d1 ds
noncomputable def wu (t:Adr):Sp:=fun vs H Q E=>∃ (c:Addr) (n:Int) (ds:List WD) (z:Nat) (p:Addr) (sp:List SD),vs=[.ref c,.int z,.ref p]∧Gc t H c n ds∧0 < n∧DOk ds∧(0 < z∧z ≤ 1000)∧LO H p (List.map sdO sp)∧MF z sp∧NoT H ∧
 match ik n z sp ds with
 | none=>∀ H',Rb H H'→NoT H'→Q .non H'
 | some e=>SB t.Mc [(Str.ofString "way",.str e.1.name),(Str.ofString "other",.str e.2.1.name),(Str.ofString "at",.int e.2.2)] H E
theorem Bh (m:List Bool):(jk m).length=m.length:=by unfold jk;simp
theorem Rl (z:Nat) (sp:List SD) (x:Str):(Zk z sp x).length=z:=by
 unfold Zk Vq
 rw [List.length_reverse,Bh,List.length_reverse,Kh]
noncomputable def nkv (ds:List WD) (rs:List Addr):List (Key × V):=(ds.zip rs).map fun e=>(Sum.inr e.1.name,V.ref e.2)
noncomputable def NK (H:Hp) (p:Addr) (ds:List WD) (f:WD→HO) (n:Nat):Prop:=∃ rs:List Addr,rs.length=n∧H p=some (.dK (nkv ds rs))∧∀ (i:Nat) (r:Addr) (d:WD),rs[i]? = some r→ds[i]? = some d→H r=some (f d)
theorem iK {ds:List WD} (h:(ds.map (·.name)).Nodup) {i j:Nat} {d e:WD} (hi:ds[i]? = some d) (hj:ds[j]? = some e) (z:d.name=e.name):i=j:=
 Ew h (List.getElem?_eq_some_iff.mp hi).1 (List.getElem?_eq_some_iff.mp hj).1 (by rw [vq hi,vq hj];exact z)
theorem Lv {ds:List WD} {rs:List Addr} (h:(ds.map (·.name)).Nodup) {i:Nat} {d:WD} {r:Addr} (hd:ds[i]? = some d) (hr:rs[i]? = some r):Jk (nkv ds rs) (Sum.inr d.name)=some (.ref r):=by
 obtain ⟨h1,e1⟩:=List.getElem?_eq_some_iff.mp hd
 obtain ⟨h2,e2⟩:=List.getElem?_eq_some_iff.mp hr
 unfold Jk
 have hf:List.find? (fun kv=>decide (kv.1=(Sum.inr d.name:Key))) (nkv ds rs)=some (Sum.inr d.name,.ref r):=by
  rw [List.find?_eq_some_iff_getElem]
  refine ⟨by simp,i,by unfold nkv;simp;omega,by unfold nkv;simp [e1,e2],fun j hj=>?_⟩
  unfold nkv
  simp
  intro z
  have:=iK h (List.getElem?_eq_getElem (show j < ds.length by omega)) hd z
  omega
 rw [hf];rfl
theorem av {ds:List WD} {rs:List Addr} (h:(ds.map (·.name)).Nodup) {d:WD} {r:Addr} (hd:ds[rs.length]? = some d):kt (nkv ds rs) (Sum.inr d.name) (.ref r)=nkv ds (rs ++ [r]):=by
 obtain ⟨h1,e1⟩:=List.getElem?_eq_some_iff.mp hd
 unfold kt
 have no:((nkv ds rs).any fun kv=>decide (kv.1=Sum.inr d.name))=false:=by
  rw [List.any_eq_false]
  intro p hp
  unfold nkv at hp
  obtain ⟨e,he,rfl⟩:=List.mem_map.mp hp
  obtain ⟨j,hj,hje⟩:=List.getElem_of_mem he
  simp only [decide_eq_true_eq]
  intro z
  have z:=Sum.inr.inj z
  rw [← hje] at z
  simp at hj z
  have:=iK h (List.getElem?_eq_getElem (show j < ds.length by omega)) hd z
  omega
 rw [no,if_neg (by decide)]
 unfold nkv
 refine List.ext_getElem (by simp;omega) (fun i h3 h4=>?_)
 simp at h3 h4
 by_cases c:i < rs.length
 ·simp [List.getElem_append,c,show i < ds.length by omega]
  rw [dif_pos (by omega)]
 ·have:i=rs.length:=by omega
  subst this
  simp [List.getElem_append,Nat.le_of_lt h1,e1]
section
variable {P:Program} {w:World} {K:PySem.W.Frag} {mg:Str→Option Value} {base:Heap} {t:Adr}
theorem sK (T:Txt w K mg t):Bb P w K mg base CX0 1 t.Hf t.Eg ["self","way"] (EF t):=by
 refine T.Um.ok Vl (fun vs H Q E h=>?_) (fun cdv A outer s H vs Q E hr h=>?_)
 ·obtain ⟨x,n,rfl,_⟩:=h;rfl
 obtain ⟨x,n,rfl,hn,hx,q⟩:=h
 refine ⟨_,(cb (kc (Mn rfl T.Qh T.Sh (bb (pv 0) (bb (el (Dg (Go (pv 1) (Dg gx))) (by rw [sizeLine_eq];decide)) fb))))
   (gb (Gn (pv 0) (pv 1) rfl))),?_⟩
 (walk_at "RD")
 refine ⟨hn.1,hn.2,fun y=>⟨_,_,hx,T.Ev,?_⟩⟩
 exact ⟨_,hx,T.Ev,T.Mt,q⟩
theorem tI (T:Txt w K mg t):Bb P w K mg base CX0 1 t.Bf t.Ug ["self","way","at"] (AE t):=by
 refine T.Lm.ok tm (fun vs H Q E h=>?_) (fun cdv A outer s H vs Q E hr h=>?_)
 ·obtain ⟨x,n,i,rfl,_⟩:=h;rfl
 obtain ⟨x,n,i,rfl,hn,hi,hx,q⟩:=h
 refine ⟨_,(cb (kc (Mn rfl T.Qh T.Sh (bb (pv 0) (bb (el (Dg (Go (pv 1) (Dg (GF (pv 2) gx)))) (by rw [sizeLine_eq];decide)) fb))))
   (cb (Gn (pv 0) (pv 1) rfl)
   (gb (Er (pv 0) (pv 2) rfl)))),?_⟩
 (walk_at "RD")
 refine ⟨hn.1,hn.2,hi,fun y=>⟨_,_,hx,T.Mr,?_⟩⟩
 refine ⟨_,hx,T.Mr,T.Xs,fun dx hd hne=>?_⟩
 refine ⟨_,dx,by rw [jb (Ne.symm hne),db],_,db,T.Mr,T.Yu,show 1 < 1000 by decide,?_⟩
 rw [Li,show ag (Str.ofString "at") (V.int i) ([(Str.ofString "way",V.str n)]:List (Str × V))=[(Str.ofString "way",V.str n),(Str.ofString "at",V.int i)] from zc [Str.ofString "way"] rfl (by decide +kernel)]
 exact q dx hd hne
theorem wK (T:Txt w K mg t):Bb P w K mg base CX0 1 t.Jf t.Lg ["self","way","other","at"] (lF t):=by
 refine T.Sm.ok Zl (fun vs H Q E h=>?_) (fun cdv A outer s H vs Q E hr h=>?_)
 ·obtain ⟨x,n,m,i,rfl,_⟩:=h;rfl
 obtain ⟨x,n,m,i,rfl,hn,hm,hi,hx,q⟩:=h
 refine ⟨_,(cb (kc (Mn rfl T.Qh T.Sh (bb (pv 0) (bb (el (Dg (Go (pv 1) (Dg (Go (pv 2) (Dg (GF (pv 3) gx)))))) (by rw [sizeLine_eq];decide)) fb))))
   (cb (Gn (pv 0) (pv 1) rfl)
   (cb (Er (pv 0) (pv 2) rfl)
   (gb (Er (pv 0) (pv 3) rfl))))),?_⟩
 (walk_at "RD")
 refine ⟨hn.1,hn.2,hm.1,hm.2,hi,fun y=>⟨_,_,hx,T.ip,?_⟩⟩
 refine ⟨_,hx,T.ip,T.fu,fun dx hd hne=>?_⟩
 refine ⟨_,dx,by rw [jb (Ne.symm hne),db],_,db,T.ip,T.Gp,show 1 < 1000 by decide,?_⟩
 rw [Li,show ag (Str.ofString "other") (V.str m) ([(Str.ofString "way",V.str n)]:List (Str × V))=[(Str.ofString "way",V.str n),(Str.ofString "other",V.str m)] from zc [Str.ofString "way"] rfl (by decide +kernel)]
 refine ⟨_,dx,by rw [jb (Ne.symm hne),db],_,db,T.ip,T.Jv,show 2 < 1000 by decide,?_⟩
 rw [Li,show ag (Str.ofString "at") (V.int i) ([(Str.ofString "way",V.str n),(Str.ofString "other",V.str m)]:List (Str × V))=[(Str.ofString "way",V.str n),(Str.ofString "other",V.str m),(Str.ofString "at",V.int i)] from zc [Str.ofString "way",Str.ofString "other"] rfl (by decide +kernel)]
 exact q dx hd hne
theorem OB (T:Txt w K mg t):Bb P w K mg base (CX1 P w) 3 t.vf t.tf ["crossing","spans"] (Au t):=by
 have G_Never_init:Bb P w K mg base CX0 1 t.Hf t.Eg ["self","way"] (EF t):=sK T
 have G_spans_of:Bb P w K mg base CX0 2 t.Ye t.Ze ["spans","name"] Vn:=(Os T).mono (by decide)
 have G_Crossing_names:Bb P w K mg base CX0 2 t.Dc t.Oc ["self"] (Ln t):=(Ds T).mono (by decide)
 refine T.dh.okX gj (fun vs H Q E h=>?_) (fun cdv A outer s H vs Q E hr h=>?_)
 ·obtain ⟨c,n,ds,p,sp,rfl,_⟩:=h;rfl
 obtain ⟨c,n,ds,p,sp,rfl,C,hD,L,hs,q⟩:=h
 refine ⟨_,(gb (wd (ke ⟨rfl,rfl⟩) rfl (Sd (je (pv 0) T.Cb T.zd G_Crossing_names hr T.Ad .nil Ab)) (wb (i:=2) gj.nd rfl (Or.inl rfl)) (gb (re (ql (qw (ub G_spans_of hr rfl T.qj T.Zf.kp T.oj .nil Ab (bb (pv 1) (bb (pv 2) fb))) (fun _=>rfl))) (gb (On (Cn T.Gw G_Never_init hr rfl T.bH T.Bt (bb (pv 2) fb)) js)) fc)))),?_⟩
 (walk_at "RD")
 obtain ⟨_,dx,wl,nd,e1,_,_⟩:=id C
 refine ⟨_,_,e1,Gu _ _ _ (by decide +kernel),c,n,ds,rfl,C,fun pn hpn=>⟨pn,rfl,⟨_,SqL.of db⟩,?_⟩⟩
 refine Jh.list (xs:=Ob (ds.map (·.name))) (fun i σ H'=>(∃ y,σ=[some (V.ref c),some (V.ref p),y])∧Rb (upd H pn (.lst (Ob (ds.map (·.name))))) H'∧(NoT H→NoT H')∧oi ds sp=((ds.map (·.name)).drop i).find? fun x=>(ofN x sp).isEmpty) ?_ ?_ ?_ ?_
 ·exact ⟨⟨_,rfl⟩,Rb.refl _,fun n=>n.upd,rfl⟩
 ·rintro i σ H' hi ⟨_,sm,_,_⟩
  exact SqL.of (sm _ _ db)
 ·rintro i v σ H' hv ⟨⟨y,rfl⟩,sm,nt,hf⟩
  obtain ⟨x,hx,rfl⟩:=Vb hv
  have smH:Rb H H':=(qb hpn).trans sm
  obtain ⟨hi,hxi⟩:=List.getElem?_eq_some_iff.mp hx
  rw [List.drop_eq_getElem_cons hi,hxi,List.find?_cons] at hf
  (walk_at "RD")
  refine Jn (fun b H2=>b=(ofN x sp).isEmpty∧Rb H' H2∧(NoT H'→NoT H2)) (fun Q hQ=>?_) (fun H2 r=>?_) (fun H2 r=>?_)
  ·(walk_at "RD")
   refine ⟨p,x,sp,rfl,L.same smH,hs,fun r H2 s2 n2 ⟨qs,l1,l2⟩=>⟨!(ofN x sp).isEmpty,.inl ⟨_,SqL.of l1,?_⟩,?_⟩⟩
   ·have hl:=l2.1
    cases qs with
    | nil=>cases h:ofN x sp with
     | nil=>rfl
     | cons a r=>rw [h] at hl;simp at hl
    | cons a r=>cases h:ofN x sp with
     | nil=>rw [h] at hl;simp at hl
     | cons a r=>rfl
   ·rw [Bool.not_not]
    exact hQ _ _ ⟨rfl,s2,n2⟩
  ·obtain ⟨r1,r2,r3⟩:=r
   rw [← r1] at hf
   have hf:oi ds sp=some x:=hf
   rw [hf] at q
   (walk_at "RD")
   have hn:jH x:=by
    obtain ⟨d,hd,rfl⟩:=Vb hx
    exact (hD d (List.mem_of_getElem? hd)).1
   refine ⟨by decide,fun a ha=>⟨a,x,rfl,hn,db,fun d hd hne=>?_⟩⟩
   have hd0:H2 d=none:=by rw [jb hne] at hd;exact hd
   refine ⟨rfl,t.ad,some d,by rw [jb (Ne.symm hne),db],T.Ev,q d _ (fun b u e=>?_) (fun n=>((((r3 (nt n)).upd).upd).upd).upd) (by rw [jb hne,db])⟩
   have e':=r2 _ _ (smH _ _ e)
   rw [jb (lb e' ha),jb (lb e' hd0),jb (lb e' ha),jb (lb e' ha)]
   exact e'
  ·obtain ⟨r1,r2,r3⟩:=r
   rw [← r1] at hf
   (walk_at "RD")
   exact ⟨⟨_,rfl⟩,sm.trans r2,fun n=>r3 (nt n),hf⟩
 ·rintro σ H' ⟨⟨y,rfl⟩,sm,nt,hf⟩
  rw [List.drop_of_length_le (by unfold Ob;simp)] at hf
  have hf:oi ds sp=none:=hf
  rw [hf] at q
  exact q _ ((qb hpn).trans sm) nt
theorem UF (T:Txt w K mg t):Bb P w K mg base CX0 2 t.Uc t.Rc ["size","spans","place"] sA:=by
 have G_spans_of:Bb P w K mg base CX0 1 t.Ye t.Ze ["spans","name"] Vn:=Os T
 refine T.Md.ok jc (fun vs H Q E h=>?_) (fun cdv A outer s H vs Q E hr h=>?_)
 ·obtain ⟨z,p,sp,k,d,rfl,_⟩:=h;rfl
 obtain ⟨z,p,sp,k,d,rfl,hz,⟨qs,l1,lq⟩,hs,hk,q⟩:=h
 refine ⟨_,(cb (jo (Cd Ld (pv 1) (pv 2) (fun _ _=>rfl)) (af (K:=K) (n:=3) rfl rfl (Jb (wb (i:=3) jc.nd rfl (Or.inl rfl) (.inl rfl)) (Jb (wb (i:=4) jc.nd rfl (Or.inr rfl) (.inl rfl)) (Jb (wb (i:=5) jc.nd rfl (Or.inl rfl) (.inl rfl)) We)))))
   (cb (wj (i:=6) jc.nd rfl (Or.inl rfl) rfl (oo rfl T.fg (bb (pv 1) fb)) (Nd (sc:=ib Qc) rfl (by decide +kernel)) (N:=["at","span","place"]) (sel:=[none,none,some 2]) (He (M:=["size","spans","place","name","begin","turns","others"]) (by decide +kernel)) (Blk.of (fun _ _ _ _=>(af (K:=K) (n:=2) rfl rfl (Jb (wb (i:=0) (Ai (N:=["at","span","place"]) (by decide +kernel) rfl) rfl (Or.inl rfl) (.inr rfl)) (Jb (wb (i:=1) (Ai (N:=["at","span","place"]) (by decide +kernel) rfl) rfl (Or.inl rfl) (.inr rfl)) We)))) (fun _ _ _ _=>⟨_,(bz (Xb dA (pv 0) (pv 2) (dc _))),by first | rfl | (dsimp only [Cx.block];done) | (dsimp only [Cx.block];exact rfl)⟩) (fun _ _ _ _=>⟨_,(pv 1),by first | rfl | (dsimp only [Cx.block];done) | (dsimp only [Cx.block];exact rfl)⟩)) rfl)
   (gb (Fb (bG rfl rfl T.WG (bb (Hk rfl (Sd (ub G_spans_of hr rfl T.qj T.Zf.kp T.oj .nil Ab (bb (pv 6) (bb (pv 3) fb)))) (Nd (sc:=ib Qc) rfl (by decide +kernel)) (N:=["later","many","begin","size"]) (sel:=[none,none,some 4,some 0]) (He (M:=["size","spans","place","name","begin","turns","others"]) (by decide +kernel)) (Blk.of (fun _ _ _ _=>(af (K:=K) (n:=2) rfl rfl (Jb (wb (i:=0) (Ai (N:=["later","many","begin","size"]) (by decide +kernel) rfl) rfl (Or.inl rfl) (.inr rfl)) (Jb (wb (i:=1) (Ai (N:=["later","many","begin","size"]) (by decide +kernel) rfl) rfl (Or.inl rfl) (.inr rfl)) We)))) (fun _ _ _ _=>⟨_,di,by first | rfl | (dsimp only [Cx.block];done) | (dsimp only [Cx.block];exact rfl)⟩) (fun _ _ _ _=>⟨_,(Ib Ae (Ib uh (pv 0) (pv 2)) (pv 3)),by first | rfl | (dsimp only [Cx.block];done) | (dsimp only [Cx.block];exact rfl)⟩))) fb) (pv 0)))))),?_⟩
 (walk_at "RD")
 have hql:qs.length=sp.length:=by rw [lq.1,List.length_map]
 obtain ⟨hkl,hkd⟩:=List.getElem?_eq_some_iff.mp hk
 have hqk:qs[k]? = some qs[k]:=List.getElem?_eq_getElem (by omega)
 have ek:H qs[k]=some (sdO d):=lq.2 k _ _ hqk (by rw [List.getElem?_map,hk];rfl)
 refine ⟨_,SqL.of l1,_,gc (by rw [List.getElem?_map,hqk];rfl),_,rfl,_,SqT.of ek,rfl,_,_,rfl,_,_,rfl,_,_,rfl,rfl,⟨_,SqL.of l1⟩,?_⟩
 refine Hd.enum (xs:=qs.map V.ref) (fun i ys H'=>∃ os:List Addr,ys=os.map V.ref∧LQ H' os (((sp.take i).eraseIdx k).map sdO)∧Rb H H'∧(NoT H→NoT H')) (Nat.le_trans (show (qs.map V.ref).length ≤ 100 by rw [List.length_map];omega) (by decide)) ⟨[],rfl,by rw [List.take_zero];exact LQ.nil _,Rb.refl _,id⟩ ?_ ?_ ?_
 ·rintro i ys H' hi ⟨os,rfl,r,sm,_⟩
  refine ⟨(SqL.of l1).same sm,?_⟩
  rw [List.length_map,r.1,List.length_map]
  exact Nat.le_trans (List.length_eraseIdx_le ..) (by rw [List.length_take];omega)
 ·rintro i v ys H' p1 hv ⟨os,rfl,r,sm,nt⟩ hp1 N hN
  obtain ⟨qi,hqi,rfl⟩:=Vb hv
  obtain ⟨o,ho,e⟩:=lq.at hqi
  obtain ⟨d',hd',rfl⟩:=Vb ho
  have e':=sm _ _ e
  have s1:Rb H' (upd H' p1 (.tup [.int i,.ref qi])):=qb hp1
  refine Zi ?_
  dsimp only at hN
  have hil:(sp.take i).length=i:=by
   have:=(List.getElem?_eq_some_iff.mp hd').1
   rw [List.length_take];omega
  rw [xg hd',Jx,hil] at hN
  (walk_at "RD")
  refine ⟨Sub.name2,?_⟩
  by_cases c:k=i
  ·rw [if_pos c] at hN
   rw [if_neg (by subst c;simp)]
   exact hN _ _ ⟨os,rfl,r.same s1,sm.trans s1,fun n=>(nt n).upd⟩
  ·rw [if_neg c] at hN
   rw [if_pos (by simp;omega)]
   refine hN _ _ ⟨os ++ [qi],by rw [List.map_append];rfl,?_,sm.trans s1,fun n=>(nt n).upd⟩
   rw [List.map_append]
   exact (r.same s1).app (LQ.one (s1 _ _ e'))
 ·rintro ys H' ⟨os,rfl,r,sm,nt⟩ p1 hp1
  rw [List.take_of_length_le (by rw [List.length_map];omega)] at r
  (walk_at "RD")
  have s1:Rb H' (upd H' p1 (.lst (os.map V.ref))):=qb hp1
  refine ⟨p1,d.name,sp.eraseIdx k,rfl,⟨os,db,r.same s1⟩,Nat.le_trans (List.length_eraseIdx_le ..) hs,fun r2 H2 s2 n2 ⟨qs2,m1,m2⟩=>⟨r2,rfl,⟨_,SqL.of m1⟩,?_⟩⟩
  have hln:(ofN d.name (sp.eraseIdx k)).length ≤ 100:=Nat.le_trans (tz _ _) (Nat.le_trans (List.length_eraseIdx_le ..) hs)
  have hml:qs2.length=(ofN d.name (sp.eraseIdx k)).length:=by rw [m2.1,List.length_map]
  refine Hd.list_zs (zs:=((ofN d.name (sp.eraseIdx k)).map fun p=>(p.1 - d.b) % z).map V.int) (SqL.of m1) (Nat.le_trans (show (qs2.map V.ref).length ≤ 100 by rw [List.length_map];omega) (by decide)) (by simp [hml]) (fun i v z' N hv hz' hN=>?_) (fun l hl=>?_)
  ·obtain ⟨qi,hqi,rfl⟩:=Vb hv
   obtain ⟨o,ho,e⟩:=m2.at hqi
   obtain ⟨pr,hpr,rfl⟩:=Vb ho
   obtain ⟨y,hy,rfl⟩:=Vb hz'
   obtain ⟨pr',hpr',rfl⟩:=Vb hy
   rw [hpr] at hpr'
   cases hpr'
   (walk_at "RD")
   exact ⟨_,SqT.of e,rfl,_,_,rfl,_,_,rfl,rfl,Sub.name2,_,rfl,hz,hN⟩
  ·(walk_at "RD")
   refine ⟨_,SqL.of db,?_⟩
   have:=q (upd H2 l (.lst (((ofN d.name (sp.eraseIdx k)).map fun p=>(p.1 - d.b) % z).map V.int))) (((sm.trans s1).trans s2).trans (qb hl)) (fun n=>(n2 (nt n).upd).upd)
   unfold qx at this
   cases hm:((ofN d.name (sp.eraseIdx k)).map fun p=>(p.1 - d.b) % z).min? with
   | none=>rw [hm] at this;exact this
   | some m=>rw [hm] at this;exact this
theorem JB (T:Txt w K mg t):Bb P w K mg base (CX1 P w) 4 t.jf t.uf ["crossing","size","spans"] (xt t):=by
 have G_Short_init:Bb P w K mg base CX0 2 t.Bf t.Ug ["self","way","at"] (AE t):=(tI T).mono (by decide)
 have G_turns_to_next_begin:Bb P w K mg base CX0 3 t.Uc t.Rc ["size","spans","place"] sA:=(UF T).mono (by decide)
 have G_Crossing_called:Bb P w K mg base CX0 3 t.Eb t.Gb ["self","name"] (rh t):=(aj T).mono (by decide)
 have V_Way_ready:DD P w K mg base CX0 3 (isW t) "ready" ["self"] (qh t):=cu (Fz T) (by decide)
 have V_Way_fade:DD P w K mg base CX0 3 (isW t) "fade" ["self"] (nj t):=cu (AF T) (by decide)
 refine T.bh.okX yc (fun vs H Q E h=>?_) (fun cdv A outer s H vs Q E hr h=>?_)
 ·obtain ⟨c,n,ds,z,p,sp,rfl,_⟩:=h;rfl
 obtain ⟨c,n,ds,z,p,sp,rfl,C,hD,hz,⟨qs,l1,lq⟩,hs,hk,q⟩:=h
 refine ⟨_,(gb (wd (ke ⟨rfl,rfl⟩) rfl (oo rfl T.fg (bb (pv 2) fb)) (af (K:=K) (n:=2) rfl rfl (Jb (wb (i:=3) yc.nd rfl (Or.inl rfl) (.inl rfl)) (Jb (wb (i:=4) yc.nd rfl (Or.inl rfl) (.inl rfl)) We))) (cb (jo (pv 4) (af (K:=K) (n:=3) rfl rfl (Jb (wb (i:=5) yc.nd rfl (Or.inl rfl) (.inl rfl)) (Jb (wb (i:=6) yc.nd rfl (Or.inl rfl) (.inl rfl)) (Jb (wb (i:=7) yc.nd rfl (Or.inl rfl) (.inl rfl)) We)))))
   (cb (Db (i:=8) yc.nd rfl (Or.inl rfl) (Nc (pv 0) T.Cb T.Mb G_Crossing_called hr T.Lb .nil Ab (bb (pv 5) fb)))
   (cb (Db (i:=9) yc.nd rfl (Or.inl rfl) (Ib kd (Ib kd (pv 7) (Al (pv 8) V_Way_fade hr Ab)) (Al (pv 8) V_Way_ready hr Ab)))
   (gb (re (PW.pt (sv (Xb bu (pv 7) (Nb (pv 8) rfl) (dc _)) (uo (Xb bu (ub G_turns_to_next_begin hr rfl T.Hi T.Md.kp T.Wi .nil Ab (bb (pv 1) (bb (pv 2) (bb (pv 3) fb)))) (pv 9) (dc _))))) (gb (On (Cn T.xw G_Short_init hr rfl T.sG T.au (bb (pv 5) (bb (pv 6) fb))) js)) fc))))))),?_⟩
 (walk_at "RD")
 have hql:qs.length=sp.length:=by rw [lq.1,List.length_map]
 refine ⟨⟨_,SqL.of l1⟩,?_⟩
 refine Jh.enum (xs:=qs.map V.ref) (fun i σ H'=>(∃ a b c1 d e f g,σ=[some (V.ref c),some (V.int z),some (V.ref p),a,b,c1,d,e,f,g])∧Rb H H'∧(NoT H→NoT H')∧Fi ds z sp=(sp.zipIdx.drop i).find? fun e=>Sq ds z sp e.2 e.1) ?_ ?_ ?_ ?_
 ·exact ⟨⟨_,_,_,_,_,_,_,rfl⟩,Rb.refl _,id,rfl⟩
 ·rintro i σ H' hi ⟨_,sm,_,_⟩
  exact SqL.of (sm _ _ l1)
 ·rintro i v σ H0 p1 hv ⟨⟨a1,a2,a3,a4,a5,a6,a7,rfl⟩,sm,nt,hf⟩ hp1
  obtain ⟨qi,hqi,rfl⟩:=Vb hv
  obtain ⟨o,ho,e⟩:=lq.at hqi
  obtain ⟨sd,hsd,rfl⟩:=Vb ho
  obtain ⟨hi,hxi⟩:=List.getElem?_eq_some_iff.mp hsd
  rw [List.drop_eq_getElem_cons (by simpa using hi),List.find?_cons] at hf
  simp only [List.getElem_zipIdx,Nat.zero_add,hxi] at hf
  have s1:Rb H0 (upd H0 p1 (.tup [.int i,.ref qi])):=qb hp1
  refine Zi ?_
  have nt1:NoT H→NoT (upd H0 p1 (.tup [.int i,.ref qi])):=fun n=>(nt n).upd
  generalize upd H0 p1 (.tup [.int i,.ref qi])=H' at s1 nt1 ⊢
  have smH:Rb H H':=sm.trans s1
  obtain ⟨d,hd⟩:=hk sd (List.mem_of_getElem? hsd)
  obtain ⟨hdn,j,hj⟩:=CF hd
  have C':=C.same smH
  obtain ⟨_,dx,wl,nd,e1,_,_⟩:=id C'
  have hDd:=hD d (List.mem_of_getElem? hj)
  have hB:Sq ds z sp i sd=(decide (sd.n < d.least) || decide (qx z sp i sd < sd.n + Gd d + bc d)):=by
   unfold Sq;rw [hd];rfl
  (walk_at "RD")
  refine ⟨_,SqT.of (smH _ _ e),rfl,_,_,rfl,_,_,rfl,_,_,rfl,rfl,_,_,e1,Gu _ _ _ (by decide +kernel),c,n,ds,j,d,by rw [hdn],C',hj,fun a W=>?_⟩
  obtain ⟨dk,dxa,ha⟩:=id W
  refine ⟨a,rfl,_,_,_,ha,⟨_,dk,rfl⟩,TK (by decide +kernel),a,d,rfl,W,rfl,_,rfl,_,rfl,a,rfl,_,_,_,ha,⟨_,dk,rfl⟩,TK (by decide +kernel),a,d,rfl,W,rfl,_,rfl,?_⟩
  refine Jn (fun b H2=>b=Sq ds z sp i sd∧Rb H' H2∧(NoT H'→NoT H2)) (fun Q hQ=>?_) (fun H2 r=>?_) (fun H2 r=>?_)
  ·rw [hB] at hQ
   (walk_at "RD")
   refine ⟨_,W.f_least T,_,rfl,?_⟩
   by_cases c1:sd.n < d.least
   ·rw [decide_eq_true c1] at hQ
    rw [if_pos (decide_eq_true c1)]
    exact hQ _ _ ⟨rfl,Rb.refl _,id⟩
   ·rw [decide_eq_false c1,Bool.false_or] at hQ
    rw [if_neg (by simpa using c1)]
    exact ⟨z,p,sp,i,sd,rfl,hz.1,⟨qs,smH _ _ l1,lq.same smH⟩,hs.1,hsd,fun H2 s2 n2=>⟨_,rfl,hQ _ _ ⟨rfl,s2,n2⟩⟩⟩
  ·obtain ⟨r1,r2,r3⟩:=r
   rw [← r1] at hf
   have hf:Fi ds z sp=some (sd,i):=hf
   rw [hf] at q
   (walk_at "RD")
   have hn:jH sd.name:=by rw [← hdn];exact hDd.1
   have hsb:=hs.2 sd (List.mem_of_getElem? hsd)
   refine ⟨by decide,fun a ha=>⟨a,sd.name,sd.b,rfl,hn,Vr (by omega),db,fun d hd hne=>?_⟩⟩
   have hd0:H2 d=none:=by rw [jb hne] at hd;exact hd
   refine ⟨rfl,t.Wc,some d,by rw [jb (Ne.symm hne),db],T.Mr,q d _ (fun b u e=>?_) (fun n=>((((r3 (nt1 n)).upd).upd).upd).upd) (by rw [jb hne,db])⟩
   have e':=r2 _ _ (smH _ _ e)
   rw [jb (lb e' ha),jb (lb e' hd0),jb (lb e' ha),jb (lb e' ha)]
   exact e'
  ·obtain ⟨r1,r2,r3⟩:=r
   rw [← r1] at hf
   exact ⟨⟨_,_,_,_,_,_,_,rfl⟩,smH.trans r2,fun n=>r3 (nt1 n),hf⟩
 ·rintro σ H' ⟨_,sm,nt,hf⟩
  rw [List.drop_of_length_le (by simp [hql])] at hf
  have hf:Fi ds z sp=none:=hf
  rw [hf] at q
  exact q _ sm nt
theorem iJ (T:Txt w K mg t):Bb P w K mg base (CX1 P w) 4 t.Xd t.Yd ["crossing","one","other","since_one","since_other"] (jF t):=by
 have G_Clash_init:Bb P w K mg base CX0 2 t.Jf t.Lg ["self","way","other","at"] (lF t):=(wK T).mono (by decide)
 have G_gap:Bb P w K mg base CX0 3 t.yC t.MD ["crossing","one","other"] (SE t):=vK T
 refine T.Ue.okX Fd (fun vs H Q E h=>?_) (fun cdv A outer s H vs Q E hr h=>?_)
 ·obtain ⟨c,n,ds,d1,d2,p1,p2,m1,m2,rfl,_⟩:=h;rfl
 obtain ⟨c,n,ds,d1,d2,p1,p2,m1,m2,rfl,C,hD,h1,h2,L1,L2,hl,hm,q⟩:=h
 refine ⟨_,(cb (Db (i:=5) Fd.nd rfl (Or.inl rfl) (ub G_gap hr rfl T.sL T.kG.kp T.JL .nil Ab (bb (pv 0) (bb (pv 1) (bb (pv 2) fb)))))
   (gb (wd (ke ⟨rfl,rfl⟩) rfl (oo rfl T.fg (bb (pv 3) fb)) (af (K:=K) (n:=2) rfl rfl (Jb (wb (i:=6) Fd.nd rfl (Or.inl rfl) (.inl rfl)) (Jb (wb (i:=7) Fd.nd rfl (Or.inl rfl) (.inl rfl)) We))) (gb (re (PW.pt (Fw (Xb Di (Cd Ld (pv 4) (pv 6) (fun _ _=>rfl)) pb (dc _)) (Ss (Xb fL (pv 7) (pv 5) (dc _))))) (gb (On (Cn T.nw G_Clash_init hr rfl T.RG T.ot (bb (pv 1) (bb (pv 2) (bb (pv 6) fb)))) js)) fc))))),?_⟩
 (walk_at "RD")
 obtain ⟨j1,hj1,ej1⟩:=List.getElem_of_mem h1
 obtain ⟨j2,hj2,ej2⟩:=List.getElem_of_mem h2
 refine ⟨c,n,ds,j1,j2,d1,d2,rfl,C,by rw [List.getElem?_eq_getElem hj1,ej1],by rw [List.getElem?_eq_getElem hj2,ej2],⟨_,SqL.of L1⟩,?_⟩
 rw [show (if d1.off - d2.near > 0 then d1.off - d2.near else 0)=pz d1 d2 from rfl]
 refine Jh.enum (xs:=m1.map V.int) (fun i σ H'=>(∃ a b,σ=[some (V.ref c),some (V.str d1.name),some (V.str d2.name),some (V.ref p1),some (V.ref p2),some (V.int (pz d1 d2)),a,b])∧Rb H H'∧(NoT H→NoT H')∧Oo (pz d1 d2) m1 m2=((m1.zip m2).zipIdx.drop i).find? fun e=>decide (e.1.2=0) && decide (e.1.1 ≤ pz d1 d2)) ?_ ?_ ?_ ?_
 ·exact ⟨⟨_,_,rfl⟩,Rb.refl _,id,rfl⟩
 ·rintro i σ H' hi ⟨_,sm,_,_⟩
  exact SqL.of (sm _ _ L1)
 ·rintro i v σ H0 p3 hv ⟨⟨a1,a2,rfl⟩,sm,nt,hf⟩ hp3
  obtain ⟨x1,hx1,rfl⟩:=Vb hv
  obtain ⟨hi,ex1⟩:=List.getElem?_eq_some_iff.mp hx1
  have hi2:i < m2.length:=by omega
  have hx2:m2[i]? = some m2[i]:=List.getElem?_eq_getElem hi2
  rw [List.drop_eq_getElem_cons (by simp;omega),List.find?_cons] at hf
  simp only [List.getElem_zipIdx,List.getElem_zip,Nat.zero_add,ex1] at hf
  have s1:Rb H0 (upd H0 p3 (.tup [.int i,.int x1])):=qb hp3
  refine Zi ?_
  have nt1:NoT H→NoT (upd H0 p3 (.tup [.int i,.int x1])):=fun n=>(nt n).upd
  generalize upd H0 p3 (.tup [.int i,.int x1])=H' at s1 nt1 ⊢
  have smH:Rb H H':=sm.trans s1
  (walk_at "RD")
  refine Ub (decide (m2[i]=0) && decide (x1 ≤ pz d1 d2)) (fun Q hQ=>?_) (fun c1=>?_) (fun c1=>?_)
  ·(walk_at "RD")
   refine ⟨_,SqL.of (smH _ _ L2),_,gc (by rw [List.getElem?_map,hx2];rfl),rfl,?_⟩
   by_cases c0:m2[i]=0
   ·rw [decide_eq_true c0,Bool.true_and] at hQ
    rw [if_pos (by rw [c0];exact decide_eq_true rfl)]
    exact hQ
   ·rw [decide_eq_false c0,Bool.false_and] at hQ
    rw [if_neg (by rw [decide_eq_true_eq];exact fun e=>c0 (V.int.inj e))]
    exact hQ
  ·rw [c1] at hf
   have hf:Oo (pz d1 d2) m1 m2=some ((x1,m2[i]),i):=hf
   rw [hf] at q
   (walk_at "RD")
   refine ⟨by decide,fun a ha=>⟨a,d1.name,d2.name,i,rfl,(hD _ h1).1,(hD _ h2).1,Vr (by omega),db,fun d hd hne=>?_⟩⟩
   have hd0:H' d=none:=by rw [jb hne] at hd;exact hd
   refine ⟨rfl,t.Mc,some d,by rw [jb (Ne.symm hne),db],T.ip,q d _ (fun b u e=>?_) (fun n=>((((nt1 n).upd).upd).upd).upd) (by rw [jb hne,db])⟩
   have e':=smH _ _ e
   rw [jb (lb e' ha),jb (lb e' hd0),jb (lb e' ha),jb (lb e' ha)]
   exact e'
  ·rw [c1] at hf
   exact ⟨⟨_,_,rfl⟩,smH,nt1,hf⟩
 ·rintro σ H' ⟨_,sm,nt,hf⟩
  rw [List.drop_of_length_le (by simp;omega)] at hf
  have hf:Oo (pz d1 d2) m1 m2=none:=hf
  rw [hf] at q
  exact q _ sm nt
theorem pB (T:Txt w K mg t):Bb P w K mg base (CX1 P w) 5 t.yf t.wf ["crossing","size","spans"] (wu t):=by
 have G_since_marked:Bb P w K mg base CX0 4 t.cf t.df ["marks"] gw:=(SC T).mono (by decide)
 have G_free_marks:Bb P w K mg base CX0 4 t.Cf t.Lf ["size","spans","name"] WH:=(XJ T).mono (by decide)
 have G_Crossing_names:Bb P w K mg base CX0 4 t.Dc t.Oc ["self"] (Ln t):=(Ds T).mono (by decide)
 have G_meet:Bb P w K mg base CX0 4 t.Ow t.pw ["crossing","one","other"] (Rz t):=(QF T).mono (by decide)
 have GX_refuse_clash_of:Bb P w K mg base (CX1 P w) 4 t.Xd t.Yd ["crossing","one","other","since_one","since_other"] (jF t):=iJ T
 refine T.eh.okX Qd (fun vs H Q E h=>?_) (fun cdv A outer s H vs Q E hr h=>?_)
 ·obtain ⟨c,n,ds,z,p,sp,rfl,_⟩:=h;rfl
 obtain ⟨c,n,ds,z,p,sp,rfl,C,hn,hD,hz,L,hs,nt0,q⟩:=h
 have hu:=Mv hr
 refine ⟨_,(cb (Db (i:=3) Qd.nd rfl (Or.inl rfl) En)
   (cb (wd (ke ⟨rfl,rfl⟩) rfl (Sd (je (pv 0) T.Cb T.zd G_Crossing_names hr T.Ad .nil Ab)) (wb (i:=4) Qd.nd rfl (Or.inl rfl)) (gb (Gr hu (pv 3) (pv 4) (ub G_since_marked hr rfl T.nq T.fh.kp T.Dq .nil Ab (bb (ub G_free_marks hr rfl T.Pm T.Gg.kp T.Cm .nil Ab (bb (pv 1) (bb (pv 2) (bb (pv 4) fb)))) fb)) rfl)))
   (gb (wd (ke ⟨rfl,rfl⟩) rfl (Sd (je (pv 0) T.Cb T.zd G_Crossing_names hr T.Ad .nil Ab)) (wb (i:=5) Qd.nd rfl (Or.inl rfl)) (gb (wd (ke ⟨rfl,rfl⟩) rfl (Sd (je (pv 0) T.Cb T.zd G_Crossing_names hr T.Ad .nil Ab)) (wb (i:=6) Qd.nd rfl (Or.inl rfl)) (gb (re (PW.pt (Fw (Xb dA (pv 5) (pv 6) (dc _)) (Ss (ph (ub G_meet hr rfl T.KI T.LA.kp T.xI .nil Ab (bb (pv 0) (bb (pv 5) (bb (pv 6) fb)))))))) (gb (kc (ub GX_refuse_clash_of hr rfl T.um T.Ue.kp T.om .nil zk (bb (pv 0) (bb (pv 5) (bb (pv 6) (bb (sk hu (pv 3) (pv 5) (fun _ _=>rfl)) (bb (sk hu (pv 3) (pv 6) (fun _ _=>rfl)) fb)))))))) fc)))))))),?_⟩
 (walk_at "RD")
 intro pd hpd
 obtain ⟨⟨hnd,hdl⟩,dx,wl,nd,e1,_,_⟩:=id C
 have s0:Rb H (upd H pd (.dK [])):=qb hpd
 refine ⟨_,_,s0 _ _ e1,Gu _ _ _ (by decide +kernel),c,n,ds,rfl,C.same s0,fun pn hpn=>⟨pn,rfl,⟨_,SqL.of db⟩,?_⟩⟩
 have hpp:pn ≠ pd:=fun e=>by subst e;rw [db] at hpn;cases hpn
 refine Jh.list (xs:=Ob (ds.map (·.name))) (fun i σ H'=>(∃ y,σ=[some (V.ref c),some (V.int z),some (V.ref p),some (V.ref pd),y,none,none])∧Rb H H'∧NoT H'∧H' pn=some (.lst (Ob (ds.map (·.name))))∧NK H' pd ds (fun d=>.lst ((Zk z sp d.name).map V.int)) i) ?_ ?_ ?_ ?_
 ·exact ⟨⟨_,rfl⟩,s0.trans (qb hpn),(nt0.upd).upd,db,[],rfl,by rw [jb (Ne.symm hpp),db];simp [nkv],fun i r d h=>by simp at h⟩
 ·rintro i σ H' hi ⟨_,_,_,h,_⟩
  exact SqL.of h
 ·rintro i v σ H' hv ⟨⟨y,rfl⟩,sm,nt,hpn',rs,hrl,hpd',hrs⟩
  obtain ⟨x,hx,rfl⟩:=Vb hv
  obtain ⟨d,hd,rfl⟩:=Vb hx
  (walk_at "RD")
  refine ⟨z,p,d.name,sp,rfl,hz,L.same sm,hs,fun r1 H1 s1 n1 hr1 h1=>⟨r1,_,rfl,h1,by rw [Kh];exact hz,fun r2 H2 s2 n2 hr2 h2=>?_⟩⟩
  have s12:=s1.trans s2
  have hp2:=s12 _ _ hpd'
  refine ⟨_,By.k (k:=Sum.inr d.name) hp2 (Nat.lt_of_le_of_lt (show (nkv ds rs).length ≤ 12 by unfold nkv;rw [List.length_map,List.length_zip];omega) (by decide)),?_⟩
  have hdi:ds[rs.length]? = some d:=by rw [hrl];exact hd
  rw [av hnd hdi]
  have hne:∀ {b:Addr} {ys:List V},H2 b=some (.lst ys)→b ≠ pd:=fun e=>Yf e hp2 (by intro z;cases z)
  refine ⟨⟨_,rfl⟩,fun b u e=>?_,(n2 (n1 nt)).upd,?_,rs ++ [r2],by rw [List.length_append,hrl];rfl,db,fun j r e hj he=>?_⟩
  ·rw [jb (lb e hpd)];exact s12 _ _ (sm _ _ e)
  ·rw [jb hpp];exact s12 _ _ hpn'
  ·rcases qo hj with ⟨_,z2⟩ | ⟨z1,rfl⟩
   ·have:=s12 _ _ (hrs j r e z2 he)
    rw [jb (hne this)];exact this
   ·rw [z1] at he
    rw [hdi] at he
    cases he
    rw [jb (hne h2)];exact h2
 rintro σ H1 ⟨⟨y,rfl⟩,sm1,nt1,hpn1,N1⟩
 have hsl:(Ob (ds.map (·.name))).length=ds.length:=by unfold Ob;simp
 rw [hsl] at N1
 obtain ⟨rs,hrl,hpd1,hrs⟩:=N1
 have C1:=C.same sm1
 (walk_at "RD")
 refine ⟨_,_,sm1 _ _ e1,Gu _ _ _ (by decide +kernel),c,n,ds,rfl,C1,fun p2 hp2=>⟨p2,rfl,⟨_,SqL.of db⟩,?_⟩⟩
 refine Jh.list (xs:=Ob (ds.map (·.name))) (fun i σ H'=>(∃ y u v,σ=[some (V.ref c),some (V.int z),some (V.ref p),some (V.ref pd),y,u,v])∧Rb H1 H'∧NoT H'∧H' p2=some (.lst (Ob (ds.map (·.name))))∧ik n z sp ds=(ds.drop i).findSome? fun d1=>br n z sp d1 ds) ?_ ?_ ?_ ?_
 ·exact ⟨⟨_,_,_,rfl⟩,qb hp2,nt1.upd,db,rfl⟩
 ·rintro i σ H' hi ⟨_,_,_,h,_⟩
  exact SqL.of h
 ·rintro i v σ H2 hv ⟨⟨y,u,v',rfl⟩,sm2,nt2,hpn2,hA⟩
  obtain ⟨x,hx,rfl⟩:=Vb hv
  obtain ⟨d1,hd1,rfl⟩:=Vb hx
  obtain ⟨hi,hxi⟩:=List.getElem?_eq_some_iff.mp hd1
  rw [List.drop_eq_getElem_cons hi,hxi,List.findSome?_cons] at hA
  have C2:=C1.same sm2
  (walk_at "RD")
  refine ⟨_,_,sm2 _ _ (sm1 _ _ e1),Gu _ _ _ (by decide +kernel),c,n,ds,rfl,C2,fun p3 hp3=>⟨p3,rfl,⟨_,SqL.of db⟩,?_⟩⟩
  refine Jh.list (xs:=Ob (ds.map (·.name))) (fun j σ H'=>(∃ y v,σ=[some (V.ref c),some (V.int z),some (V.ref p),some (V.ref pd),y,some (V.str d1.name),v])∧Rb H2 H'∧NoT H'∧H' p3=some (.lst (Ob (ds.map (·.name))))∧br n z sp d1 ds=(ds.drop j).findSome? fun d2=>(Vo n z sp d1 d2).map fun i=>(d1,d2,i)) ?_ ?_ ?_ ?_
  ·exact ⟨⟨_,_,rfl⟩,qb hp3,nt2.upd,db,rfl⟩
  ·rintro i σ H' hi ⟨_,_,_,h,_⟩
   exact SqL.of h
  ·rintro j v σ H3 hv ⟨⟨y,v',rfl⟩,sm3,nt3,hpn3,hB⟩
   obtain ⟨x,hx,rfl⟩:=Vb hv
   obtain ⟨d2,hd2,rfl⟩:=Vb hx
   obtain ⟨hj,hxj⟩:=List.getElem?_eq_some_iff.mp hd2
   rw [List.drop_eq_getElem_cons hj,hxj,List.findSome?_cons] at hB
   have C3:=C2.same sm3
   have sm13:=sm2.trans sm3
   (walk_at "RD")
   refine Ub (decide (d1.name ≠ d2.name) && mt n d1 d2) (fun Q hQ=>?_) (fun c1=>?_) (fun c1=>?_)
   ·(walk_at "RD")
    by_cases c0:d1.name=d2.name
    ·rw [decide_eq_false (fun z=>z c0),Bool.false_and] at hQ
     rw [if_neg (by simp [c0])]
     exact hQ
    ·rw [decide_eq_true c0,Bool.true_and] at hQ
     rw [if_pos (by simp [c0])]
     exact ⟨c,n,ds,i,j,d1,d2,rfl,C3,hn,hd1,hd2,nt3,_,rfl,hQ⟩
   ·rw [Bool.and_eq_true] at c1
    have c2:Vo n z sp d1 d2=(Oo (pz d1 d2) (Zk z sp d1.name) (Zk z sp d2.name)).map (·.2):=by
     unfold Vo;rw [if_pos ⟨of_decide_eq_true c1.1,c1.2⟩]
    rw [c2] at hB
    have hr1:rs[i]? = some rs[i]:=List.getElem?_eq_getElem (by omega)
    have hr2:rs[j]? = some rs[j]:=List.getElem?_eq_getElem (by omega)
    have g1:Bk H3 pd (.str d1.name) (some (.ref rs[i])):=by rw [← Lv hnd hd1 hr1];exact Bk.k (k:=Sum.inr d1.name) (sm13 _ _ hpd1)
    have g2:Bk H3 pd (.str d2.name) (some (.ref rs[j])):=by rw [← Lv hnd hd2 hr2];exact Bk.k (k:=Sum.inr d2.name) (sm13 _ _ hpd1)
    (walk_at "RD")
    refine ⟨_,g1,_,g2,c,n,ds,d1,d2,_,_,_,_,rfl,C3,hD,List.mem_of_getElem? hd1,List.mem_of_getElem? hd2,sm13 _ _ (hrs i _ _ hr1 hd1),sm13 _ _ (hrs j _ _ hr2 hd2),by rw [Rl,Rl],by rw [Rl];exact hz.2,?_⟩
    cases hc:Oo (pz d1 d2) (Zk z sp d1.name) (Zk z sp d2.name) with
    | none=>
     rw [hc] at hB
     exact fun H4 s4 n4=>⟨(by first | exact ⟨_,_,rfl⟩ | exact ⟨_,rfl⟩ | simp),sm3.trans s4,n4 nt3,s4 _ _ hpn3,hB⟩
    | some e=>
     rw [hc] at hB
     have hB:br n z sp d1 ds=some (d1,d2,e.2):=hB
     rw [hB] at hA
     have hA:ik n z sp ds=some (d1,d2,e.2):=hA
     rw [hA] at q
     exact q.step (sm1.trans sm13) fun _=>nt3
   ·have c2:Vo n z sp d1 d2=none:=by
     unfold Vo
     rw [if_neg]
     rintro ⟨z1,z2⟩
     rw [decide_eq_true z1,z2] at c1
     cases c1
    rw [c2] at hB
    exact ⟨⟨_,_,rfl⟩,sm3,nt3,hpn3,hB⟩
  ·rintro σ H' ⟨⟨y,v',rfl⟩,sm3,nt3,_,hB⟩
   rw [hsl,List.drop_of_length_le (Nat.le_refl _)] at hB
   have hB:br n z sp d1 ds=none:=hB
   rw [hB] at hA
   exact ⟨⟨_,_,_,rfl⟩,sm2.trans sm3,nt3,sm3 _ _ hpn2,hA⟩
 ·rintro σ H' ⟨_,sm,nt,_,hA⟩
  rw [hsl,List.drop_of_length_le (Nat.le_refl _)] at hA
  have hA:ik n z sp ds=none:=hA
  rw [hA] at q
  exact q _ (sm1.trans sm) nt
end
end My
namespace My
open PySem L2
noncomputable abbrev yA:List Str:=[Str.ofString "crossing",Str.ofString "size",Str.ofString "spans",Str.ofString "lamps",Str.ofString "untils"]
noncomputable def plF (c:Addr) (z:Int) (p lm un:Addr):List (Str × V):=[(Str.ofString "crossing",.ref c),(Str.ofString "size",.int z),(Str.ofString "spans",.ref p),(Str.ofString "lamps",.ref lm),(Str.ofString "untils",.ref un)]
theorem Nn (c:Addr) (z:Int) (p lm un:Addr):(plF c z p lm un).map (·.1)=yA:=rfl
noncomputable def BJ (z:Nat) (sp:List SD) (d:WD):List Str:=fj z (bc d).toNat (Gd d).toNat (ofN d.name sp)
noncomputable def Le (z:Nat) (sp:List SD) (x:Str):List Int:=jk (fmF z (ofN x sp))
structure yi (t:Adr) (H:Hp) (a c:Addr) (n:Int) (ds:List WD) (z:Nat) (sp:List SD):Prop where
 at_:∃ dx p lm un,H a=some (.ins t.Ed dx (plF c z p lm un))∧Gc t H c n ds∧LO H p (List.map sdO sp)∧NK H lm ds (fun d=>.lst (Ob (BJ z sp d))) ds.length∧NK H un ds (fun d=>.lst ((Le z sp d.name).map V.int)) ds.length
noncomputable def yE (t:Adr):Sp:=fun vs H Q _=>∃ (a dx c:Addr) (n:Int) (ds:List WD) (z:Nat) (p:Addr) (sp:List SD),vs=[.ref a,.ref c,.int z,.ref p]∧H a=some (.ins t.Ed dx [])∧Gc t H c n ds∧DOk ds∧(0 < z∧z ≤ 1000)∧LO H p (List.map sdO sp)∧MF z sp∧NoT H ∧
 ∀ H',bd a H H'→NoT H'→yi t H' a c n ds z sp→Q .non H'
noncomputable def iL (t:Adr) (c:Addr) (n:Int) (ds:List WD) (z:Nat) (sp:List SD) (H:Hp) (Q:VK) (E:XK):Prop:=
 (oi ds sp=none→Fi ds z sp=none→ik n z sp ds=none→∀ a H',Rb H H'→NoT H'→yi t H' a c n ds z sp→Q (.ref a) H') ∧
 (∀ x,oi ds sp=some x→SB t.ad [(Str.ofString "way",.str x)] H E) ∧
 (∀ e,oi ds sp=none→Fi ds z sp=some e→SB t.Wc [(Str.ofString "way",.str e.1.name),(Str.ofString "at",.int e.1.b)] H E) ∧
 (∀ e,oi ds sp=none→Fi ds z sp=none→ik n z sp ds=some e→SB t.Mc [(Str.ofString "way",.str e.1.name),(Str.ofString "other",.str e.2.1.name),(Str.ofString "at",.int e.2.2)] H E)
noncomputable def fE (t:Adr):Sp:=fun vs H Q E=>∃ (c:Addr) (n:Int) (ds:List WD) (z:Nat) (p:Addr) (sp:List SD),vs=[.ref c,.int z,.ref p]∧Gc t H c n ds∧0 < n∧DOk ds∧(0 < z∧z ≤ 1000)∧LO H p (List.map sdO sp)∧MF z sp∧(∀ s ∈ sp,∃ d,wOf ds s.name=some d)∧NoT H ∧
 iL t c n ds z sp H Q E
section
variable {w:World} {K:PySem.W.Frag} {mg:Str→Option Value} {t:Adr} {H:Hp} {a c dx p lm un:Addr} {z:Int}
theorem DC (T:Txt w K mg t) (e:H a=some (.ins t.Ed dx (plF c z p lm un))):Bi K H a (Str.ofString "lamps") (.ref lm):=⟨_,dx,_,e,T.Rh,T.xl,Bd yA 3 (Nn ..) (by decide +kernel) rfl⟩
theorem Lk (T:Txt w K mg t) (e:H a=some (.ins t.Ed dx (plF c z p lm un))):Bi K H a (Str.ofString "untils") (.ref un):=⟨_,dx,_,e,T.Rh,T.Lj,Bd yA 4 (Nn ..) (by decide +kernel) rfl⟩
end
theorem mz {H:Hp} {a b C C' dx dx':Addr} {fs:List (Str × V)} (ha:H a=some (.ins C dx [])) (hb:H b=some (.ins C' dx' fs)) (hf:fs ≠ []):b ≠ a:=fun z=>by
 subst z
 rw [hb] at ha
 have e:=Option.some.inj ha
 injection e with _ _ e3
 exact hf e3
theorem Gc.sameX {t:Adr} {H H':Hp} {a c C dx:Addr} {n:Int} {ds:List WD} (h:Gc t H c n ds) (s:bd a H H') (ha:H a=some (.ins C dx [])):Gc t H' c n ds:=by
 obtain ⟨h0,dx',wl,nd,e1,⟨as,w1,w2,al⟩,e3⟩:=h
 refine ⟨h0,dx',wl,nd,s _ _ (mz ha e1 (by unfold cF;simp)) e1,⟨as,s _ _ (Yf w1 ha (by intro z;cases z)) w1,w2,fun i b d hb hd=>?_⟩,s _ _ (Yf e3 ha (by intro z;cases z)) e3⟩
 obtain ⟨k,dxb,eb⟩:=al i b d hb hd
 exact ⟨k,dxb,s _ _ (mz ha eb (by unfold dn;simp)) eb⟩
theorem LO.sameX {H H':Hp} {a p C dx:Addr} {sp:List SD} (h:LO H p (List.map sdO sp)) (s:bd a H H') (ha:H a=some (.ins C dx [])):LO H' p (List.map sdO sp):=by
 obtain ⟨qs,l1,l2⟩:=h
 refine ⟨qs,s _ _ (Yf l1 ha (by intro z;cases z)) l1,l2.1,fun i q o hq ho=>?_⟩
 have e:=l2.2 i q o hq ho
 refine s _ _ (Yf e ha ?_) e
 obtain ⟨d,_,rfl⟩:=Vb ho
 intro z;cases z
section
variable {P:Program} {w:World} {K:PySem.W.Frag} {mg:Str→Option Value} {base:Heap} {t:Adr}
theorem kK (T:Txt w K mg t):Bb P w K mg base CX0 4 t.kg t.ai ["self","crossing","size","spans"] (yE t):=by
 have G_lamp:Bb P w K mg base CX0 3 t.Zv t.cx ["way","size","spans"] (WA t):=(GG T).mono (by decide)
 have G_until_marked:Bb P w K mg base CX0 3 t.de t.ge ["marks"] Tr:=(fw T).mono (by decide)
 have G_free_marks:Bb P w K mg base CX0 3 t.Cf t.Lf ["size","spans","name"] WH:=(XJ T).mono (by decide)
 have G_Crossing_names:Bb P w K mg base CX0 3 t.Dc t.Oc ["self"] (Ln t):=(Ds T).mono (by decide)
 have G_Crossing_called:Bb P w K mg base CX0 3 t.Eb t.Gb ["self","name"] (rh t):=(aj T).mono (by decide)
 refine T.Ho.ok ii (fun vs H Q E h=>?_) (fun cdv A outer s H vs Q E hr h=>?_)
 ·obtain ⟨a,dx,c,n,ds,z,p,sp,rfl,_⟩:=h;rfl
 obtain ⟨a,dx,c,n,ds,z,p,sp,rfl,ha,C,hD,hz,L,hs,nt0,q⟩:=h
 have hu:=Mv hr
 refine ⟨_,(cb (Oe (pv 0) (pv 1) rfl)
   (cb (Oe (pv 0) (pv 2) rfl)
   (cb (Oe (pv 0) (pv 3) rfl)
   (cb (Oe (pv 0) En rfl)
   (cb (Oe (pv 0) En rfl)
   (gb (wd PassesOwn.never rfl (Sd (je (pv 1) T.Cb T.zd G_Crossing_names hr T.Ad .nil Ab)) (wb (i:=4) ii.nd rfl (Or.inl rfl)) (cb (Gr hu (Nb (pv 0) rfl) (pv 4) (ub G_lamp hr rfl T.GI T.fA.kp T.JI .nil Ab (bb (Nc (pv 1) T.Cb T.Mb G_Crossing_called hr T.Lb .nil Ab (bb (pv 4) fb)) (bb (pv 2) (bb (pv 3) fb)))) rfl)
   (gb (Gr hu (Nb (pv 0) rfl) (pv 4) (ub G_until_marked hr rfl T.gk T.pf.kp T.Fj .nil Ab (bb (ub G_free_marks hr rfl T.Pm T.Gg.kp T.Cm .nil Ab (bb (pv 2) (bb (pv 3) (bb (pv 4) fb)))) fb)) rfl)))))))))),?_⟩
 (walk_at "RD")
 refine ⟨_,_,_,ha,T.Rh,T.vi,by decide,?_⟩
 refine ⟨_,_,_,db,T.Rh,T.Dm,Pl (n:=999) (by decide),?_⟩
 refine ⟨_,_,_,db,T.Rh,T.Dr,Pl (n:=999) (Pl (n:=998) (by decide)),fun lm hlm=>?_⟩
 simp only [Li] at hlm ⊢
 rw [show ag (Str.ofString "crossing") (V.ref c) ([]:List (Str × V))=[(Str.ofString "crossing",V.ref c)] from rfl,show ag (Str.ofString "size") (V.int z) [(Str.ofString "crossing",V.ref c)]=[(Str.ofString "crossing",V.ref c),(Str.ofString "size",V.int z)] from zc [Str.ofString "crossing"] rfl (by decide +kernel),show ag (Str.ofString "spans") (V.ref p) [(Str.ofString "crossing",V.ref c),(Str.ofString "size",V.int z)]=[(Str.ofString "crossing",V.ref c),(Str.ofString "size",V.int z),(Str.ofString "spans",V.ref p)] from zc [Str.ofString "crossing",Str.ofString "size"] rfl (by decide +kernel)] at hlm ⊢
 have hla:a ≠ lm:=fun z=>by subst z;rw [db] at hlm;cases hlm
 have hHl:H lm=none:=by rw [jb (Ne.symm hla)] at hlm;exact hlm
 refine ⟨t.Ed,dx,[(Str.ofString "crossing",V.ref c),(Str.ofString "size",V.int z),(Str.ofString "spans",V.ref p)],by rw [jb hla];exact db,T.Rh,T.xl,show (3:Nat) < 1000 by decide,fun un hun=>?_⟩
 rw [show ag (Str.ofString "lamps") (V.ref lm) [(Str.ofString "crossing",V.ref c),(Str.ofString "size",V.int z),(Str.ofString "spans",V.ref p)]=[(Str.ofString "crossing",V.ref c),(Str.ofString "size",V.int z),(Str.ofString "spans",V.ref p),(Str.ofString "lamps",V.ref lm)] from zc [Str.ofString "crossing",Str.ofString "size",Str.ofString "spans"] rfl (by decide +kernel)] at hun ⊢
 have hua:a ≠ un:=fun z=>by subst z;rw [db] at hun;cases hun
 have hul:un ≠ lm:=fun z=>by subst z;rw [jb (Ne.symm hua),db] at hun;cases hun
 have hHu:H un=none:=by rw [jb (Ne.symm hua),jb hul,jb (Ne.symm hua)] at hun;exact hun
 refine ⟨t.Ed,dx,[(Str.ofString "crossing",V.ref c),(Str.ofString "size",V.int z),(Str.ofString "spans",V.ref p),(Str.ofString "lamps",V.ref lm)],by rw [jb hua];exact db,T.Rh,T.Lj,show (4:Nat) < 1000 by decide,?_⟩
 rw [show ag (Str.ofString "untils") (V.ref un) [(Str.ofString "crossing",V.ref c),(Str.ofString "size",V.int z),(Str.ofString "spans",V.ref p),(Str.ofString "lamps",V.ref lm)]=plF c z p lm un from zc [Str.ofString "crossing",Str.ofString "size",Str.ofString "spans",Str.ofString "lamps"] rfl (by decide +kernel)]
 have hf:∃ H5:Hp,H5=upd (upd (upd (upd (upd H a (.ins t.Ed dx [(Str.ofString "crossing",V.ref c),(Str.ofString "size",V.int z),(Str.ofString "spans",V.ref p)])) lm (.dK [])) a (.ins t.Ed dx [(Str.ofString "crossing",V.ref c),(Str.ofString "size",V.int z),(Str.ofString "spans",V.ref p),(Str.ofString "lamps",V.ref lm)])) un (.dK [])) a (.ins t.Ed dx (plF c z p lm un)):=⟨_,rfl⟩
 obtain ⟨H5,h5⟩:=hf
 rw [← h5]
 have g1:H5 a=some (.ins t.Ed dx (plF c z p lm un)):=by rw [h5,db]
 have g2:H5 lm=some (.dK []):=by rw [h5,jb (Ne.symm hla),jb (Ne.symm hul),jb (Ne.symm hla),db]
 have g3:H5 un=some (.dK []):=by rw [h5,jb (Ne.symm hua),db]
 have g4:bd a H H5:=fun b u hb e=>by rw [h5,jb hb,jb (lb e hHu),jb hb,jb (lb e hHl),jb hb];exact e
 have g5:NoT H5:=by rw [h5];exact ((((nt0.upd).upd).upd).upd).upd
 clear h5
 have C5:=C.sameX g4 ha
 obtain ⟨⟨hnd,hdl⟩,dxc,wl,nd,e1,_,_⟩:=id C5
 refine ⟨_,_,e1,Gu _ _ _ (by decide +kernel),c,n,ds,rfl,C5,fun pn hpn=>⟨pn,rfl,⟨_,SqL.of db⟩,?_⟩⟩
 refine Jh.list (xs:=Ob (ds.map (·.name))) (fun i σ H'=>(∃ y,σ=[some (V.ref a),some (V.ref c),some (V.int z),some (V.ref p),y])∧bd a H H'∧NoT H'∧H' a=some (.ins t.Ed dx (plF c z p lm un))∧H' pn=some (.lst (Ob (ds.map (·.name))))∧NK H' lm ds (fun d=>.lst (Ob (BJ z sp d))) i∧NK H' un ds (fun d=>.lst ((Le z sp d.name).map V.int)) i) ?_ ?_ ?_ ?_
 ·have sn:=qb (o:=.lst (Ob (ds.map (·.name)))) hpn
  exact ⟨⟨_,rfl⟩,g4.trans (bd.of sn),g5.upd,sn _ _ g1,db,⟨[],rfl,by rw [sn _ _ g2];simp [nkv],fun i r d h=>by simp at h⟩,⟨[],rfl,by rw [sn _ _ g3];simp [nkv],fun i r d h=>by simp at h⟩⟩
 ·rintro i σ H' hi ⟨_,_,_,_,h,_⟩
  exact SqL.of h
 ·rintro i v σ H' hv ⟨⟨y,rfl⟩,sx,nt,ha',hpn',⟨rl,hrl,hlm',hrs⟩,⟨ru,hru,hun',hus⟩⟩
  obtain ⟨x,hx,rfl⟩:=Vb hv
  obtain ⟨d,hd,rfl⟩:=Vb hx
  have C':=C.sameX sx ha
  have L':=L.sameX sx ha
  obtain ⟨_,dxc',wl',nd',e1',_,_⟩:=id C'
  (walk_at "RD")
  refine ⟨_,_,e1',Gu _ _ _ (by decide +kernel),c,n,ds,i,d,rfl,C',hd,fun wa W=>?_⟩
  have hdi:ds[rl.length]? = some d:=by rw [hrl];exact hd
  have hdj:ds[ru.length]? = some d:=by rw [hru];exact hd
  refine ⟨wa,d,z,p,sp,rfl,hz,W,L',hs,(hD d (List.mem_of_getElem? hd)).2,fun r1 H1 s1 n1 hr1 h1=>⟨_,DC T (s1 _ _ ha'),lm,rfl,_,By.k (k:=Sum.inr d.name) (s1 _ _ hlm') (Nat.lt_of_le_of_lt (show (nkv ds rl).length ≤ 12 by unfold nkv;rw [List.length_map,List.length_zip];omega) (by decide)),?_⟩⟩
  rw [av hnd hdi]
  have kl:∀ {b:Addr} {u:HO},H' b=some u→b ≠ lm→upd H1 lm (.dK (nkv ds (rl ++ [r1]))) b=some u:=fun e h=>by rw [jb h];exact s1 _ _ e
  have k1:bd a H (upd H1 lm (.dK (nkv ds (rl ++ [r1])))):=fun b u hb e=>kl (sx b u hb e) (lb e hHl)
  refine ⟨z,p,d.name,sp,rfl,hz,L.sameX k1 ha,hs,fun r3 H3 s3 n3 hr3 h3=>⟨r3,_,rfl,h3,by rw [Kh];exact hz,fun r4 H4 s4 n4 hr4 h4=>?_⟩⟩
  have s34:=s3.trans s4
  have un2:H4 un=some (.dK (nkv ds ru)):=s34 _ _ (kl hun' hul)
  have a2:H4 a=some (.ins t.Ed dx (plF c z p lm un)):=s34 _ _ (kl ha' hla)
  refine ⟨_,Lk T a2,un,rfl,_,By.k (k:=Sum.inr d.name) un2 (Nat.lt_of_le_of_lt (show (nkv ds ru).length ≤ 12 by unfold nkv;rw [List.length_map,List.length_zip];omega) (by decide)),?_⟩
  rw [av hnd hdj]
  have ku:∀ {b:Addr} {u:HO},upd H1 lm (.dK (nkv ds (rl ++ [r1]))) b=some u→b ≠ un→upd H4 un (.dK (nkv ds (ru ++ [r4]))) b=some u:=fun e h=>by rw [jb h];exact s34 _ _ e
  have nel:∀ {b:Addr} {ys:List V},H' b=some (.lst ys)→b ≠ lm:=fun e=>Yf e hlm' (by intro z;cases z)
  have neu:∀ {b:Addr} {ys:List V},H' b=some (.lst ys)→b ≠ un:=fun e=>Yf e hun' (by intro z;cases z)
  have r1l:r1 ≠ lm:=Yf h1 (s1 _ _ hlm') (by intro z;cases z)
  have r1u:r1 ≠ un:=Yf h1 (s1 _ _ hun') (by intro z;cases z)
  have r4u:r4 ≠ un:=Yf h4 un2 (by intro z;cases z)
  refine ⟨⟨_,rfl⟩,fun b u hb e=>ku (k1 b u hb e) (lb e hHu),(n4 (n3 (n1 nt).upd)).upd,ku (kl ha' hla) hua,ku (kl hpn' (nel hpn')) (neu hpn'),⟨rl ++ [r1],by rw [List.length_append,hrl];rfl,ku db (Ne.symm hul),fun j r e hj he=>?_⟩,⟨ru ++ [r4],by rw [List.length_append,hru];rfl,db,fun j r e hj he=>?_⟩⟩
  ·rcases qo hj with ⟨_,z2⟩ | ⟨z1,rfl⟩
   ·have:=hrs j r e z2 he
    exact ku (kl this (nel this)) (neu this)
   ·rw [z1,hdi] at he
    cases he
    exact ku (by rw [jb r1l];exact h1) r1u
  ·rcases qo hj with ⟨_,z2⟩ | ⟨z1,rfl⟩
   ·have:=hus j r e z2 he
    exact ku (kl this (nel this)) (neu this)
   ·rw [z1,hdj] at he
    cases he
    rw [jb r4u];exact h4
 ·rintro σ H' ⟨_,sx,nt,ha',_,N1,N2⟩
  have hsl:(Ob (ds.map (·.name))).length=ds.length:=by unfold Ob;simp
  rw [hsl] at N1 N2
  exact q _ sx nt ⟨dx,p,lm,un,ha',C.sameX sx ha,L.sameX sx ha,N1,N2⟩
theorem UC (T:Txt w K mg t):Bb P w K mg base (CX1 P w) 6 t.dg t.gg ["crossing","size","rows"] (fE t):=by
 have G_Crossing_called:Bb P w K mg base CX0 5 t.Eb t.Gb ["self","name"] (rh t):=(aj T).mono (by decide)
 have G_Plan_init:Bb P w K mg base CX0 4 t.kg t.ai ["self","crossing","size","spans"] (yE t):=kK T
 have GX_refuse_never:Bb P w K mg base (CX1 P w) 5 t.vf t.tf ["crossing","spans"] (Au t):=(OB T).mono (by decide)
 have GX_refuse_short:Bb P w K mg base (CX1 P w) 5 t.jf t.uf ["crossing","size","spans"] (xt t):=(JB T).mono (by decide)
 have GX_refuse_clash:Bb P w K mg base (CX1 P w) 5 t.yf t.wf ["crossing","size","spans"] (wu t):=pB T
 refine T.rk.okX Gf (fun vs H Q E h=>?_) (fun cdv A outer s H vs Q E hr h=>?_)
 ·obtain ⟨c,n,ds,z,p,sp,rfl,_⟩:=h;rfl
 obtain ⟨c,n,ds,z,p,sp,rfl,C,hn,hD,hz,L,hs,hw,nt0,q1,q2,q3,q4⟩:=h
 refine ⟨_,(cb (wj (i:=3) Gf.nd rfl (Or.inl rfl) rfl (Sd (pv 2)) (Nd (sc:=ib yk) rfl (by decide +kernel)) (N:=["name","begin","turns"]) (sel:=[none,none,none]) (He (M:=["crossing","size","rows","spans","name","begin","turns"]) (by decide +kernel)) (Blk.of (fun _ _ _ _=>(af (K:=K) (n:=3) rfl rfl (Jb (wb (i:=0) (Ai (N:=["name","begin","turns"]) (by decide +kernel) rfl) rfl (Or.inl rfl) (.inr rfl)) (Jb (wb (i:=1) (Ai (N:=["name","begin","turns"]) (by decide +kernel) rfl) rfl (Or.inl rfl) (.inr rfl)) (Jb (wb (i:=2) (Ai (N:=["name","begin","turns"]) (by decide +kernel) rfl) rfl (Or.inl rfl) (.inr rfl)) We))))) (fun _ _ _ _=>⟨_,di,by first | rfl | (dsimp only [Cx.block];done) | (dsimp only [Cx.block];exact rfl)⟩) (fun _ _ _ _=>⟨_,(Rk (bb (pv 0) (bb (pv 1) (bb (pv 2) fb)))),by first | rfl | (dsimp only [Cx.block];done) | (dsimp only [Cx.block];exact rfl)⟩)) rfl)
   (cb (wd (ke ⟨rfl,rfl⟩) rfl (Sd (pv 3)) (af (K:=K) (n:=3) rfl rfl (Jb (wb (i:=4) Gf.nd rfl (Or.inl rfl) (.inl rfl)) (Jb (wb (i:=5) Gf.nd rfl (Or.inl rfl) (.inl rfl)) (Jb (wb (i:=6) Gf.nd rfl (Or.inl rfl) (.inl rfl)) We)))) (gb (kc (Nc (pv 0) T.Cb T.Mb G_Crossing_called hr T.Lb .nil Ab (bb (pv 4) fb)))))
   (cb (kc (ub GX_refuse_never hr rfl T.Pp T.dh.kp T.oq .nil zk (bb (pv 0) (bb (pv 3) fb))))
   (cb (kc (ub GX_refuse_short hr rfl T.Qp T.bh.kp T.Tp .nil zk (bb (pv 0) (bb (pv 1) (bb (pv 3) fb)))))
   (cb (kc (ub GX_refuse_clash hr rfl T.Zp T.eh.kp T.Yp .nil zk (bb (pv 0) (bb (pv 1) (bb (pv 3) fb)))))
   (gb (Fb (dm T.II G_Plan_init hr rfl T.zJ T.yv .nil Ab (bb (pv 0) (bb (pv 1) (bb (pv 3) fb))))))))))),?_⟩
 (walk_at "RD")
 obtain ⟨qs,l1,lq⟩:=L
 have hql:qs.length=sp.length:=by rw [lq.1,List.length_map]
 have hs1:=hs.1
 refine ⟨⟨_,SqL.of l1⟩,?_⟩
 refine Hd.list (xs:=qs.map V.ref) (fun i ys H'=>∃ os:List Addr,ys=os.map V.ref∧LQ H' os ((sp.take i).map sdO)∧Rb H H'∧NoT H') (Nat.le_trans (show (qs.map V.ref).length ≤ 100 by rw [List.length_map];omega) (by decide)) ⟨[],rfl,by rw [List.take_zero];exact LQ.nil _,Rb.refl _,nt0⟩ ?_ ?_ ?_
 ·rintro i ys H' hi ⟨os,rfl,r,sm,_⟩
  refine ⟨(SqL.of l1).same sm,?_⟩
  rw [List.length_map,r.1,List.length_map,List.length_take];omega
 ·rintro i v ys H' hv ⟨os,rfl,r,sm,nt⟩ N hN
  obtain ⟨qi,hqi,rfl⟩:=Vb hv
  obtain ⟨o,ho,e⟩:=lq.at hqi
  obtain ⟨d,hd,rfl⟩:=Vb ho
  have e':=sm _ _ e
  dsimp only at hN
  rw [xg hd,List.map_append] at hN
  (walk_at "RD")
  refine ⟨_,SqT.of e',rfl,_,_,rfl,_,_,rfl,_,_,rfl,rfl,Sub.name3,by decide,fun p1 hp1=>?_⟩
  exact hN _ _ ⟨os ++ [p1],by rw [List.map_append];rfl,(r.same (qb hp1)).app (LQ.one db),sm.trans (qb hp1),nt.upd⟩
 rintro ys H1 ⟨os,rfl,r,sm1,nt1⟩ p1 hp1
 rw [List.take_of_length_le (by rw [List.length_map];omega)] at r
 have s2:Rb H1 (upd H1 p1 (.lst (os.map V.ref))):=qb hp1
 have nt2:NoT (upd H1 p1 (.lst (os.map V.ref))):=nt1.upd
 have L2:LO (upd H1 p1 (.lst (os.map V.ref))) p1 (List.map sdO sp):=⟨os,db,r.same s2⟩
 have sm2:=sm1.trans s2
 generalize upd H1 p1 (.lst (os.map V.ref))=H2 at s2 nt2 L2 sm2 ⊢
 have C2:=C.same sm2
 obtain ⟨_,dxc,wl,nd,e1,_,_⟩:=id C2
 obtain ⟨qs2,m1,mq⟩:=id L2
 have hql2:qs2.length=sp.length:=by rw [mq.1,List.length_map]
 (walk_at "RD")
 refine ⟨⟨_,SqL.of m1⟩,?_⟩
 refine Jh.list (xs:=qs2.map V.ref) (fun i σ H'=>(∃ x y z',σ=[some (V.ref c),some (V.int z),some (V.ref p),some (V.ref p1),x,y,z'])∧H'=H2) ?_ ?_ ?_ ?_
 ·exact ⟨⟨_,_,_,rfl⟩,rfl⟩
 ·rintro i σ H' hi ⟨_,rfl⟩
  exact SqL.of m1
 ·rintro i v σ H' hv ⟨⟨x,y,z',rfl⟩,rfl⟩
  obtain ⟨qi,hqi,rfl⟩:=Vb hv
  obtain ⟨o,ho,e⟩:=mq.at hqi
  obtain ⟨sd,hsd,rfl⟩:=Vb ho
  obtain ⟨d,hd⟩:=hw sd (List.mem_of_getElem? hsd)
  obtain ⟨hdn,j,hj⟩:=CF hd
  (walk_at "RD")
  exact ⟨_,SqT.of e,rfl,_,_,rfl,_,_,rfl,_,_,rfl,rfl,_,_,e1,Gu _ _ _ (by decide +kernel),c,n,ds,j,d,by rw [hdn],C2,hj,fun a W=>⟨(by first | exact ⟨_,_,_,rfl⟩ | exact ⟨_,_,rfl⟩ | exact ⟨_,rfl⟩ | simp),rfl⟩⟩
 rintro σ H' ⟨⟨x,y,z',rfl⟩,rfl⟩
 (walk_at "RD")
 refine ⟨c,n,ds,p1,sp,rfl,C2,hD,L2,hs1,?_⟩
 cases hN:oi ds sp with
 | some x=>exact (q2 x hN).step sm2 fun _=>nt2
 | none=>
 intro H3 s3 n3
 have nt3:=n3 nt2
 have C3:=C2.same s3
 have L3:=L2.same s3
 (walk_at "RD")
 refine ⟨c,n,ds,z,p1,sp,rfl,C3,hD,⟨by omega,by omega⟩,L3,hs,hw,?_⟩
 cases hS:Fi ds z sp with
 | some e=>exact (q3 e hN hS).step (sm2.trans s3) fun _=>nt3
 | none=>
 intro H4 s4 n4
 have nt4:=n4 nt3
 have C4:=C3.same s4
 have L4:=L3.same s4
 (walk_at "RD")
 refine ⟨c,n,ds,z,p1,sp,rfl,C4,hn,hD,hz,L4,hs,nt4,?_⟩
 cases hC:ik n z sp ds with
 | some e=>exact (q4 e hN hS hC).step ((sm2.trans s3).trans s4) fun _=>nt4
 | none=>
 intro H5 s5 nt5
 have C5:=C4.same s5
 have L5:=L4.same s5
 (walk_at "RD")
 intro a dx ha hdx hne
 have sc:Rb H5 (upd (upd H5 dx (.own a)) a (.ins t.Ed dx [])):=((Rb.refl H5).updN hdx).updN ha
 refine ⟨a,dx,c,n,ds,z,p1,sp,rfl,db,C5.same sc,hD,hz,L5.same sc,hs,(nt5.upd).upd,fun H6 s6 nt6 PA=>⟨rfl,?_⟩⟩
 have sm5:=((sm2.trans s3).trans s4).trans s5
 exact q1 hN hS hC a H6 (pe (sm5.trans sc) s6 (sm5.free ha)) nt6 PA
end
end My
namespace My
open PySem L2
theorem Lr {α:Type} (z:Nat) (v:α) (b:Int) (hz:0 < z) (l:List α) (hl:l.length=z):∀ (k:Nat) (i:Nat),i < z→(zv z v b k l)[i]? = if ∃ j,j < k∧(b + (j:Int)) % (z:Int)=(i:Int) then some v else l[i]?
 | 0,i,hi=>by rw [if_neg (fun ⟨j,hj,_⟩=>by omega)];rfl
 | k + 1,i,hi=>by
  have ih:=Lr z v b hz l hl k i hi
  have h0:=Int.emod_nonneg (b + (k:Int)) (show (z:Int) ≠ 0 by omega)
  have h1:=Int.emod_lt_of_pos (b + (k:Int)) (show 0 < (z:Int) by omega)
  unfold zv xG
  by_cases c:(b + (k:Int)) % (z:Int)=(i:Int)
  ·rw [show ((b + (k:Int)) % (z:Int)).toNat=i by omega,List.getElem?_set_self (by rw [Xf,hl];exact hi),if_pos ⟨k,by omega,c⟩]
  ·rw [List.getElem?_set_ne (by omega),ih]
   by_cases e:∃ j,j < k∧(b + (j:Int)) % (z:Int)=(i:Int)
   ·obtain ⟨j,hj,ej⟩:=e
    rw [if_pos ⟨j,hj,ej⟩,if_pos ⟨j,by omega,ej⟩]
   ·rw [if_neg e,if_neg]
    rintro ⟨j,hj,ej⟩
    by_cases hjk:j=k
    ·subst hjk;exact c ej
    ·exact e ⟨j,by omega,ej⟩
theorem jx {z b i:Int} {n:Int} (hz:0 < z) (hi:0 ≤ i∧i < z) (hn:0 ≤ n∧n ≤ z):(∃ j:Nat,j < n.toNat∧(b + (j:Int)) % z=i)↔(i - b) % z < n:=by
 have h0:=Int.emod_nonneg (i - b) (show z ≠ 0 by omega)
 have h1:=Int.emod_lt_of_pos (i - b) hz
 constructor
 ·rintro ⟨j,hj,e⟩
  have:(i - b) % z=j:=by
   rw [← e,Int.emod_sub_emod,show b + (j:Int) - b=j by omega]
   exact Int.emod_eq_of_lt (by omega) (by omega)
  omega
 ·intro h
  refine ⟨((i - b) % z).toNat,by omega,?_⟩
  rw [Int.toNat_of_nonneg h0,Int.add_emod_emod,show b + (i - b)=i by omega]
  exact Int.emod_eq_of_lt hi.1 hi.2
theorem HE {z:Nat} (hz:0 < z) {b n:Int} (hn:0 ≤ n∧n ≤ z) {i:Nat} (hi:i < z):(fmF z [(b,n)])[i]? = some (decide (((i:Int) - b) % (z:Int) < n)):=by
 unfold fmF
 rw [List.foldl_cons,List.foldl_nil,Lr z true b hz _ (List.length_replicate ..) _ _ hi]
 have:=jx (z:=z) (b:=b) (i:=i) (n:=n) (by omega) ⟨by omega,by omega⟩ hn
 by_cases c:((i:Int) - b) % (z:Int) < n
 ·rw [if_pos (this.mpr c),decide_eq_true c]
 ·rw [if_neg (fun e=>c (this.mp e)),decide_eq_false c,List.getElem?_replicate,if_pos hi]
theorem Vf (m:List Bool):∀ k,0 ≤ oe m k
 | 0=>by show (0:Int) ≤ 0;decide
 | k + 1=>by
  have:=Vf m k
  unfold oe
  split <;> omega
theorem Cu (m:List Bool) (g:Int) (hg:0 ≤ g):∀ k:Nat,oe m k ≤ g↔(∃ j:Nat,(j:Int) ≤ g∧j < k∧m[(2 * m.length - 1 - (k - 1 - j)) % m.length]? = some true)∨(k:Int) ≤ g
 | 0=>by
  constructor
  ·intro _;exact .inr (by omega)
  ·intro _;exact hg
 | k + 1=>by
  by_cases c:m[(2 * m.length - 1 - k) % m.length]? = some true
  ·have e:oe m (k + 1)=0:=by unfold oe;rw [if_pos c]
   rw [e]
   exact ⟨fun _=>.inl ⟨0,by omega,by omega,by rw [show k + 1 - 1 - 0=k by omega];exact c⟩,fun _=>hg⟩
  ·have e:oe m (k + 1)=oe m k + 1:=by
    show (if m[(2 * m.length - 1 - k) % m.length]? = some true then 0 else oe m k + 1)=_
    rw [if_neg c]
   rw [e]
   by_cases hg1:1 ≤ g
   ·have ih:=Cu m (g - 1) (by omega) k
    constructor
    ·intro h
     rcases ih.mp (by omega) with ⟨j,h1,h2,h3⟩ | h
     ·exact .inl ⟨j + 1,by omega,by omega,by rw [show k + 1 - 1 - (j + 1)=k - 1 - j by omega];exact h3⟩
     ·exact .inr (by omega)
    ·rintro (⟨j,h1,h2,h3⟩ | h)
     ·by_cases hj:j=0
      ·subst hj
       rw [show k + 1 - 1 - 0=k by omega] at h3
       exact absurd h3 c
      ·have:=ih.mpr (.inl ⟨j - 1,by omega,by omega,by rw [show k - 1 - (j - 1)=k + 1 - 1 - j by omega];exact h3⟩)
       omega
     ·have:=ih.mpr (.inr (by omega))
      omega
   ·have:=Vf m k
    constructor
    ·intro h;omega
    ·rintro (⟨j,h1,h2,h3⟩ | h)
     ·have hj:j=0:=by omega
      subst hj
      rw [show k + 1 - 1 - 0=k by omega] at h3
      exact absurd h3 c
     ·omega
theorem Ww {m:List Bool} {t:Nat} (ht:t < m.length):(jk m)[t]? = some (oe m (2 * m.length - t)):=by
 unfold jk
 rw [List.getElem?_map,List.getElem?_range ht];rfl
theorem uw {m:List Bool} (hm:∃ i,i < m.length∧m[i]? = some true) {t:Nat} (ht:t < m.length) (g:Int) (hg:0 ≤ g):oe m (2 * m.length - t) ≤ g↔∃ j:Nat,(j:Int) ≤ g∧m[(t + j) % m.length]? = some true:=by
 have pos:∀ j,j < 2 * m.length - t→(2 * m.length - 1 - (2 * m.length - t - 1 - j))=t + j:=fun j hj=>by omega
 rw [Cu m g hg]
 constructor
 ·rintro (⟨j,h1,h2,h3⟩ | h)
  ·rw [pos j h2] at h3
   exact ⟨j,h1,h3⟩
  ·obtain ⟨i,hi,e⟩:=hm
   refine ⟨(i + m.length - t) % m.length,?_,?_⟩
   ·have:=Nat.mod_lt (i + m.length - t) (show 0 < m.length by omega)
    omega
   ·rw [Nat.add_mod_mod,show t + (i + m.length - t)=i + m.length by omega,Nat.add_mod_right,Nat.mod_eq_of_lt hi]
    exact e
 ·rintro ⟨j,h1,h2⟩
  have hj:=Nat.mod_lt j (show 0 < m.length by omega)
  have hle:=Nat.mod_le j m.length
  refine .inl ⟨j % m.length,by omega,by omega,?_⟩
  rw [pos _ (by omega),Nat.add_mod_mod]
  exact h2
theorem IF {m:List Bool} (hm:∃ i,i < m.length∧m[i]? = some true):∃ i,i < m.reverse.length∧m.reverse[i]? = some true:=by
 obtain ⟨i,hi,e⟩:=hm
 refine ⟨m.length - 1 - i,by rw [List.length_reverse];omega,?_⟩
 rw [List.getElem?_reverse (by omega),show m.length - 1 - (m.length - 1 - i)=i by omega]
 exact e
theorem aD {m:List Bool} {t:Nat} (ht:t < m.length):∃ v,(Vq m)[t]? = some v∧0 ≤ v∧((∃ i,i < m.length∧m[i]? = some true)→∀ g:Int,0 ≤ g→(v ≤ g↔∃ j:Nat,(j:Int) ≤ g∧m[(((t:Int) - (j:Int)) % (m.length:Int)).toNat]? = some true)):=by
 have hr:m.reverse.length=m.length:=List.length_reverse
 have h1:m.length - 1 - t < m.reverse.length:=by omega
 refine ⟨oe m.reverse (2 * m.reverse.length - (m.length - 1 - t)),?_,Vf _ _,fun hm g hg=>?_⟩
 ·unfold Vq
  rw [List.getElem?_reverse (by rw [Bh];omega),Bh,hr]
  have:=Ww h1
  rw [hr] at this
  exact this
 ·rw [uw (IF hm) h1 g hg]
  have key:∀ j:Nat,m.reverse[(m.length - 1 - t + j) % m.reverse.length]? = m[(((t:Int) - (j:Int)) % (m.length:Int)).toNat]?:=fun j=>by
   rw [hr]
   have hlt:=Nat.mod_lt (m.length - 1 - t + j) (show 0 < m.length by omega)
   rw [List.getElem?_reverse (by omega)]
   congr 1
   have h0:=Int.emod_nonneg ((t:Int) - (j:Int)) (show (m.length:Int) ≠ 0 by omega)
   have e:((t:Int) - (j:Int)) % (m.length:Int)=((m.length - 1 - (m.length - 1 - t + j) % m.length:Nat):Int):=by
    have d:=Nat.div_add_mod (m.length - 1 - t + j) m.length
    generalize (m.length - 1 - t + j) / m.length=q at d
    generalize (m.length - 1 - t + j) % m.length=r at d hlt ⊢
    have e2:(t:Int) - (j:Int)=((m.length - 1 - r:Nat):Int) + (m.length:Int) * (-(q:Int)):=by
     have d':(m.length:Int) * (q:Int) + (r:Int)=((m.length - 1 - t + j:Nat):Int):=by rw [← d];push_cast;rfl
     rw [Int.mul_neg]
     omega
    rw [e2,Int.add_mul_emod_self_left]
    exact Int.emod_eq_of_lt (by omega) (by omega)
   omega
  constructor
  ·rintro ⟨j,h2,h3⟩
   exact ⟨j,h2,by rw [← key j];exact h3⟩
  ·rintro ⟨j,h2,h3⟩
   exact ⟨j,h2,by rw [key j];exact h3⟩
theorem oK {z:Nat} (hz:0 < z) {b n:Int} (hn:1 ≤ n∧n ≤ z) {t:Nat} (ht:t < z):∃ v,(Vq (fmF z [(b,n)]))[t]? = some v∧0 ≤ v∧∀ g:Int,0 ≤ g→(v ≤ g↔∃ j:Nat,(j:Int) ≤ g∧((t:Int) - (j:Int) - b) % (z:Int) < n):=by
 have hl:(fmF z [(b,n)]).length=z:=Kh _ _
 obtain ⟨v,h1,h2,h3⟩:=aD (m:=fmF z [(b,n)]) (t:=t) (by rw [hl];exact ht)
 refine ⟨v,h1,h2,fun g hg=>?_⟩
 have hb0:=Int.emod_nonneg b (show (z:Int) ≠ 0 by omega)
 have hb1:=Int.emod_lt_of_pos b (show 0 < (z:Int) by omega)
 have hm:∃ i,i < (fmF z [(b,n)]).length∧(fmF z [(b,n)])[i]? = some true:=by
  refine ⟨(b % (z:Int)).toNat,by rw [hl];omega,?_⟩
  rw [HE hz ⟨by omega,hn.2⟩ (by omega),Int.toNat_of_nonneg hb0,decide_eq_true]
  rw [Int.emod_sub_emod,Int.sub_self,Int.zero_emod]
  omega
 rw [h3 hm g hg,hl]
 have key:∀ j:Nat,(fmF z [(b,n)])[(((t:Int) - (j:Int)) % (z:Int)).toNat]? = some (decide (((t:Int) - (j:Int) - b) % (z:Int) < n)):=fun j=>by
  have c0:=Int.emod_nonneg ((t:Int) - (j:Int)) (show (z:Int) ≠ 0 by omega)
  have c1:=Int.emod_lt_of_pos ((t:Int) - (j:Int)) (show 0 < (z:Int) by omega)
  rw [HE hz ⟨by omega,hn.2⟩ (by omega),Int.toNat_of_nonneg c0,Int.emod_sub_emod]
 constructor
 ·rintro ⟨j,g1,g2⟩
  rw [key j] at g2
  exact ⟨j,g1,of_decide_eq_true (Option.some.inj g2)⟩
 ·rintro ⟨j,g1,g2⟩
  exact ⟨j,g1,by rw [key j,decide_eq_true g2]⟩
theorem Xy {z:Nat} (hz:0 < z):∀ (ps:List (Int × Int)),(∀ p ∈ ps,0 ≤ p.2∧p.2 ≤ z)→∀ (l:List Bool),l.length=z→∀ {i:Nat},i < z →
  (ps.foldl (fun l p=>zv z true p.1 p.2.toNat l) l)[i]? = some ((ps.any fun p=>decide (((i:Int) - p.1) % (z:Int) < p.2)) || l[i]?.getD false)
 | [],_,l,hl,i,hi=>by
  rw [List.foldl_nil,List.any_nil,Bool.false_or,List.getElem?_eq_getElem (by omega)];rfl
 | p :: ps,h,l,hl,i,hi=>by
  have hp:=h p (List.mem_cons_self ..)
  rw [List.foldl_cons,Xy hz ps (fun q hq=>h q (List.mem_cons_of_mem _ hq)) _ (by rw [Xf,hl]) hi,Lr z true p.1 hz l hl _ _ hi,List.any_cons]
  have:=jx (z:=z) (b:=p.1) (i:=i) (n:=p.2) (by omega) ⟨by omega,by omega⟩ hp
  by_cases c:((i:Int) - p.1) % (z:Int) < p.2
  ·rw [if_pos (this.mpr c),decide_eq_true c]
   simp
  ·rw [if_neg (fun e=>c (this.mp e)),decide_eq_false c,Bool.false_or]
theorem KK {z:Nat} (hz:0 < z) {ps:List (Int × Int)} (h:∀ p ∈ ps,0 ≤ p.2∧p.2 ≤ z) {i:Nat} (hi:i < z):(fmF z ps)[i]? = some (ps.any fun p=>decide (((i:Int) - p.1) % (z:Int) < p.2)):=by
 unfold fmF
 rw [Xy hz ps h _ (List.length_replicate ..) hi,List.getElem?_replicate,if_pos hi]
 simp
noncomputable def Wh (z t:Int) (p:Int × Int):Int:=if (t - p.1) % z < p.2 then 0 else z - (t - p.1) % z
noncomputable def rg (z t:Int) (ps:List (Int × Int)):Int:=ps.foldl (fun b p=>min b (Wh z t p)) z
theorem Em {z t:Int} (hz:0 < z) (p:Int × Int):0 ≤ Wh z t p∧Wh z t p ≤ z:=by
 have h0:=Int.emod_nonneg (t - p.1) (show z ≠ 0 by omega)
 have h1:=Int.emod_lt_of_pos (t - p.1) hz
 unfold Wh
 split <;> omega
theorem Tw {z t g:Int} (hz:0 < z) {p:Int × Int} (hp:1 ≤ p.2∧p.2 ≤ z) (hg:0 ≤ g):Wh z t p ≤ g↔∃ j:Nat,(j:Int) ≤ g∧(t + (j:Int) - p.1) % z < p.2:=by
 have h0:=Int.emod_nonneg (t - p.1) (show z ≠ 0 by omega)
 have h1:=Int.emod_lt_of_pos (t - p.1) hz
 have step:∀ j:Int,(t + j - p.1) % z=((t - p.1) % z + j) % z:=fun j=>by
  rw [Int.emod_add_emod,show t + j - p.1=t - p.1 + j by omega]
 unfold Wh
 by_cases c:(t - p.1) % z < p.2
 ·rw [if_pos c]
  exact ⟨fun _=>⟨0,by omega,by rw [step,Int.natCast_zero,Int.add_zero,Int.emod_emod_of_dvd _ (Int.dvd_refl _)];exact c⟩,fun _=>hg⟩
 ·rw [if_neg c]
  constructor
  ·intro h
   refine ⟨(z - (t - p.1) % z).toNat,by omega,?_⟩
   rw [step,Int.toNat_of_nonneg (by omega),show (t - p.1) % z + (z - (t - p.1) % z)=z by omega,Int.emod_self]
   omega
  ·rintro ⟨j,hj,h⟩
   by_cases d:(t - p.1) % z + j < z
   ·rw [step,Int.emod_eq_of_lt (by omega) d] at h
    omega
   ·omega
theorem Fs (z t g:Int):∀ (ps:List (Int × Int)) (b:Int),ps.foldl (fun b p=>min b (Wh z t p)) b ≤ g↔b ≤ g∨∃ p ∈ ps,Wh z t p ≤ g
 | [],b=>by simp
 | p :: ps,b=>by
  rw [List.foldl_cons,Fs z t g ps]
  simp only [List.mem_cons,exists_eq_or_imp]
  rw [show min b (Wh z t p) ≤ g↔b ≤ g∨Wh z t p ≤ g by omega,or_assoc]
theorem Jm {z t:Int} (hz:0 < z) (ps:List (Int × Int)):0 ≤ rg z t ps:=by
 have:¬ rg z t ps ≤ -1:=fun h=>by
  rcases (Fs z t (-1) ps z).mp h with h | ⟨p,_,h⟩
  ·omega
  ·have:=Em (t:=t) hz p;omega
 omega
theorem fB {z t:Int} (ps:List (Int × Int)):rg z (t % z) ps=rg z t ps:=by
 have:∀ p:Int × Int,Wh z (t % z) p=Wh z t p:=fun p=>by
  unfold Wh
  rw [Int.emod_sub_emod]
 unfold rg
 simp only [this]
theorem Vx {z:Nat} (hz:0 < z) {ps:List (Int × Int)} (h:∀ p ∈ ps,1 ≤ p.2∧p.2 ≤ z) (hne:ps ≠ []) {t:Nat} (ht:t < z):(jk (fmF z ps))[t]? = some (rg z t ps):=by
 have hl:(fmF z ps).length=z:=Kh _ _
 have hh:∀ p ∈ ps,0 ≤ p.2∧p.2 ≤ z:=fun p hp=>⟨by have:=h p hp;omega,(h p hp).2⟩
 have key:∀ j:Nat,(fmF z ps)[(t + j) % z]? = some (ps.any fun p=>decide (((t:Int) + (j:Int) - p.1) % (z:Int) < p.2)):=fun j=>by
  rw [KK hz hh (Nat.mod_lt _ hz)]
  congr 2
  funext p
  rw [Int.natCast_emod,Int.emod_sub_emod,Int.natCast_add]
 obtain ⟨p0,r0,rfl⟩:=List.exists_cons_of_ne_nil hne
 have hm:∃ i,i < (fmF z (p0 :: r0)).length∧(fmF z (p0 :: r0))[i]? = some true:=by
  have hb0:=Int.emod_nonneg p0.1 (show (z:Int) ≠ 0 by omega)
  have hb1:=Int.emod_lt_of_pos p0.1 (show 0 < (z:Int) by omega)
  refine ⟨(p0.1 % (z:Int)).toNat,by rw [hl];omega,?_⟩
  rw [KK hz hh (by omega),List.any_cons,Int.toNat_of_nonneg hb0,Int.emod_sub_emod,Int.sub_self,Int.zero_emod,decide_eq_true (by have:=h p0 (List.mem_cons_self ..);omega),Bool.true_or]
 rw [Ww (by rw [hl];exact ht)]
 congr 1
 have ul:=uw hm (t:=t) (by rw [hl];exact ht)
 rw [hl] at ul ⊢
 have all:∀ g:Int,0 ≤ g→(oe (fmF z (p0 :: r0)) (2 * z - t) ≤ g↔rg z t (p0 :: r0) ≤ g):=fun g hg=>by
  rw [ul g hg]
  unfold rg
  rw [Fs]
  constructor
  ·rintro ⟨j,hj,e⟩
   rw [key j,Option.some.injEq,List.any_eq_true] at e
   obtain ⟨p,hp,e⟩:=e
   exact .inr ⟨p,hp,(Tw (by omega) (h p hp) hg).mpr ⟨j,hj,of_decide_eq_true e⟩⟩
  ·intro e
   have e:∃ p ∈ p0 :: r0,Wh z t p ≤ g:=by
    rcases e with e | e
    ·exact ⟨p0,List.mem_cons_self ..,by have:=(Em (z:=z) (t:=t) (by omega) p0).2;omega⟩
    ·exact e
   obtain ⟨p,hp,e⟩:=e
   obtain ⟨j,hj,e⟩:=(Tw (by omega) (h p hp) hg).mp e
   exact ⟨j,hj,by rw [key j,Option.some.injEq,List.any_eq_true];exact ⟨p,hp,decide_eq_true e⟩⟩
 have a1:=Vf (fmF z (p0 :: r0)) (2 * z - t)
 have a2:=Jm (z:=z) (t:=t) (by omega) (p0 :: r0)
 have b1:=(all _ a2).mpr (Int.le_refl _)
 have b2:=(all _ a1).mp (Int.le_refl _)
 omega
noncomputable def ae (f:Nat→Int) (z:Nat):Nat→Int × Nat
 | 0=>(0,0)
 | k + 1=>if (ae f z k).1 ≤ f (z - 1 - k) then (f (z - 1 - k),z - 1 - k) else ae f z k
theorem vw {f:Nat→Int} (h0:∀ i,0 ≤ f i) (z:Nat):∀ k,1 ≤ k→k ≤ z→(ae f z k).1=f (ae f z k).2∧z - k ≤ (ae f z k).2∧(ae f z k).2 < z∧(∀ i,z - k ≤ i→i < z→f i ≤ (ae f z k).1)∧(∀ i,z - k ≤ i→i < (ae f z k).2→f i < (ae f z k).1)
 | 1,_,hk=>by
  have e:ae f z 1=(f (z - 1 - 0),z - 1 - 0):=by
   show (if (0:Int) ≤ f (z - 1 - 0) then _ else _)=_
   rw [if_pos (h0 _)]
  rw [e]
  refine ⟨rfl,by omega,by omega,fun i h1 h2=>?_,fun i h1 h2=>by omega⟩
  rw [show i=z - 1 - 0 by omega]
  exact Int.le_refl _
 | k + 2,_,hk=>by
  obtain ⟨i1,i2,i3,i4,i5⟩:=vw h0 z (k + 1) (by omega) (by omega)
  have e:ae f z (k + 2)=if (ae f z (k + 1)).1 ≤ f (z - 1 - (k + 1)) then (f (z - 1 - (k + 1)),z - 1 - (k + 1)) else ae f z (k + 1):=rfl
  rw [e]
  by_cases c:(ae f z (k + 1)).1 ≤ f (z - 1 - (k + 1))
  ·rw [if_pos c]
   refine ⟨rfl,by omega,by omega,fun i h1 h2=>?_,fun i h1 h2=>by omega⟩
   by_cases d:i=z - 1 - (k + 1)
   ·rw [d];exact Int.le_refl _
   ·exact Int.le_trans (i4 i (by omega) h2) c
  ·rw [if_neg c]
   refine ⟨i1,by omega,i3,fun i h1 h2=>?_,fun i h1 h2=>?_⟩
   ·by_cases d:i=z - 1 - (k + 1)
    ·rw [d];omega
    ·exact i4 i (by omega) h2
   ·by_cases d:i=z - 1 - (k + 1)
    ·rw [d];omega
    ·exact i5 i (by omega) h2
theorem yB {l:List Int} {m:Int} {i:Nat} (h:l[i]? = some m) (h2:∀ j,j < i→l[j]? ≠ some m):l.idxOf m=i:=by
 have hm:m ∈ l:=List.mem_of_getElem? h
 have hlt:=List.idxOf_lt_length_iff.mpr hm
 have e:l[l.idxOf m]? = some m:=by rw [List.getElem?_eq_getElem hlt,List.getElem_idxOf]
 by_cases c:l.idxOf m < i
 ·exact absurd e (h2 _ c)
 ·by_cases d:i < l.idxOf m
  ·have:=List.not_of_lt_findIdx (p:=(· == m)) (xs:=l) (i:=i) d
   have hi:=(List.getElem?_eq_some_iff.mp h)
   simp [hi.2] at this
  ·omega
theorem wM {z q sh i j:Int} {m:Int} (hm:m=2∨m=3) (hq:q=z / m) (hi:0 ≤ i∧i < m) (hj:0 ≤ j∧j < m) (hij:i ≠ j) (hz:20 ≤ z):q ≤ ((j * q + sh) % z - (i * q + sh) % z) % z:=by
 rw [← Int.sub_emod,show j * q + sh - (i * q + sh)=(j - i) * q by rw [Int.sub_mul];omega]
 have hq1:1 ≤ q:=by rcases hm with rfl | rfl <;> omega
 have h3:(j - i=1∧q < z)∨(j - i=2∧m=3)∨(j - i = -1)∨(j - i = -2∧m=3):=by
  rcases hm with rfl | rfl <;> omega
 rcases h3 with ⟨e,h⟩ | ⟨e,h⟩ | e | ⟨e,h⟩
 ·rw [e,Int.one_mul,Int.emod_eq_of_lt (by omega) h]
  exact Int.le_refl _
 ·subst h
  rw [e,Int.emod_eq_of_lt (by omega) (by omega)]
  omega
 ·rw [e,show (-1:Int) * q=(z - q) + z * (-1) by omega,Int.add_mul_emod_self_left,Int.emod_eq_of_lt (by rcases hm with rfl | rfl <;> omega) (by omega)]
  rcases hm with rfl | rfl <;> omega
 ·subst h
  rw [e,show (-2:Int) * q=(z - 2 * q) + z * (-1) by omega,Int.add_mul_emod_self_left,Int.emod_eq_of_lt (by omega) (by omega)]
  omega
noncomputable def wA (z:Nat) (x:Str) (sp:List SD):Prop:=∃ (m sh:Int),(1 ≤ m∧m ≤ 3)∧(sp.length:Int)=m∧∀ (i:Nat) (s:SD),sp[i]? = some s→s.name=x∧s.b=((i:Int) * ((z:Int) / m) + sh) % (z:Int)∧1 ≤ s.n∧(s.n ≤ (z:Int) / m - 6∨s.n=1)
structure Iy (z:Nat) (ds:List WD) (sp:List SD):Prop where
 al:∀ s ∈ sp,∃ d,wOf ds s.name=some d∧(0 ≤ s.b∧s.b < z)∧1 ≤ s.n∧s.n + Gd d + bc d ≤ z
 far:∀ (i j:Nat) (s e:SD) (d:WD),i ≠ j→sp[i]? = some s→sp[j]? = some e→e.name=s.name→wOf ds s.name=some d→s.n + Gd d + bc d ≤ (e.b - s.b) % (z:Int)
theorem Iy.nil (z:Nat) (ds:List WD):Iy z ds []:=⟨fun s hs=>absurd hs (by simp),fun i j s e d _ h=>absurd h (by simp)⟩
theorem Iy.app {z:Nat} {ds:List WD} {sp sp':List SD} (h:Iy z ds sp) (h':Iy z ds sp') (hd:∀ s ∈ sp,∀ e ∈ sp',s.name ≠ e.name):Iy z ds (sp ++ sp'):=by
 refine ⟨fun s hs=>?_,fun i j s e d hij hi hj en hw=>?_⟩
 ·rcases List.mem_append.mp hs with hs | hs
  ·exact h.al s hs
  ·exact h'.al s hs
 ·by_cases ci:i < sp.length
  ·rw [List.getElem?_append_left ci] at hi
   by_cases cj:j < sp.length
   ·rw [List.getElem?_append_left cj] at hj
    exact h.far i j s e d hij hi hj en hw
   ·rw [List.getElem?_append_right (by omega)] at hj
    exact absurd en.symm (hd s (List.mem_of_getElem? hi) e (List.mem_of_getElem? hj))
  ·rw [List.getElem?_append_right (by omega)] at hi
   by_cases cj:j < sp.length
   ·rw [List.getElem?_append_left cj] at hj
    exact absurd en (hd e (List.mem_of_getElem? hj) s (List.mem_of_getElem? hi))
   ·rw [List.getElem?_append_right (by omega)] at hj
    exact h'.far (i - sp.length) (j - sp.length) s e d (by omega) hi hj en hw
theorem wA.sp {z:Nat} (hz:20 ≤ z) {ds:List WD} {x:Str} {sp:List SD} (h:wA z x sp) {d:WD} (hw:wOf ds x=some d) (hr:0 ≤ Gd d + bc d∧Gd d + bc d ≤ 4):Iy z ds sp:=by
 obtain ⟨m,sh,hm,hl,al⟩:=h
 have room:∀ (i:Nat) (s:SD),sp[i]? = some s→s.n + Gd d + bc d ≤ (z:Int) / m:=fun i s hs=>by
  have:=(al i s hs).2.2
  have h3:m=1∨m=2∨m=3:=by omega
  rcases h3 with rfl | rfl | rfl <;> omega
 have hdiv:(z:Int) / m ≤ z:=Int.ediv_le_self _ (by omega)
 refine ⟨fun s hs=>?_,fun i j s e d' hij hi hj en hw'=>?_⟩
 ·obtain ⟨i,hi⟩:=List.getElem?_of_mem hs
  have a:=al i s hi
  have r:=room i s hi
  have b0:=Int.emod_nonneg ((i:Int) * ((z:Int) / m) + sh) (show (z:Int) ≠ 0 by omega)
  have b1:=Int.emod_lt_of_pos ((i:Int) * ((z:Int) / m) + sh) (show 0 < (z:Int) by omega)
  rw [← a.2.1] at b0 b1
  exact ⟨d,by rw [a.1];exact hw,⟨b0,b1⟩,a.2.2.1,by omega⟩
 ·have a:=al i s hi
  have b:=al j e hj
  rw [a.1,hw] at hw'
  cases hw'
  have r:=room i s hi
  have i1:(i:Int) < m:=by have:=(List.getElem?_eq_some_iff.mp hi).1;omega
  have j1:(j:Int) < m:=by have:=(List.getElem?_eq_some_iff.mp hj).1;omega
  have:=wM (z:=z) (q:=(z:Int) / m) (sh:=sh) (i:=i) (j:=j) (m:=m) (by omega) rfl (by omega) (by omega) (by omega) (by omega)
  rw [← a.2.1,← b.2.1] at this
  omega
theorem cN {ds:List WD} {sp:List SD} (h:∀ d ∈ ds,∃ s ∈ sp,s.name=d.name):oi ds sp=none:=by
 unfold oi
 refine List.find?_eq_none.mpr fun x hx=>?_
 obtain ⟨d,hd,rfl⟩:=List.mem_map.mp hx
 obtain ⟨s,hs,e⟩:=h d hd
 intro z
 have:ofN d.name sp=[]:=by simpa using z
 have m:(s.b,s.n) ∈ ofN d.name sp:=List.mem_map.mpr ⟨s,List.mem_filter.mpr ⟨hs,by simpa using e⟩,rfl⟩
 rw [this] at m
 cases m
theorem aN {z:Nat} {ds:List WD} {sp:List SD} (S:Iy z ds sp) (hle:∀ d ∈ ds,d.least=1):Fi ds z sp=none:=by
 unfold Fi
 refine List.find?_eq_none.mpr fun e he=>?_
 obtain ⟨s,k⟩:=e
 have hk:sp[k]? = some s:=by simpa using List.mem_zipIdx_iff_getElem?.mp he
 obtain ⟨d,hw,hb,hn,hr⟩:=S.al s (List.mem_of_getElem? hk)
 intro c
 unfold Sq at c
 dsimp only at c
 rw [hw] at c
 have c:(decide (s.n < d.least) || decide (qx z sp k s < s.n + Gd d + bc d))=true:=c
 rw [hle d (List.mem_of_find?_eq_some hw),decide_eq_false (by omega),Bool.false_or,decide_eq_true_eq] at c
 unfold qx at c
 cases hmin:((ofN s.name (sp.eraseIdx k)).map fun p=>(p.1 - s.b) % (z:Int)).min? with
 | none=>
  rw [hmin] at c
  have c:(z:Int) < s.n + Gd d + bc d:=c
  omega
 | some v=>
  rw [hmin] at c
  have c:v < s.n + Gd d + bc d:=c
  obtain ⟨p,hp,rfl⟩:=List.mem_map.mp (List.min?_mem hmin)
  obtain ⟨e,hem,en,rfl⟩:=Ms hp
  obtain ⟨j,hj,ej⟩:=List.mem_eraseIdx_iff_getElem?.mp hem
  have:=S.far k j s e d (Ne.symm hj) hk ej en hw
  dsimp only at c
  omega
theorem RM {z:Nat} {ds:List WD} {sp:List SD} (h:∀ d ∈ ds,∀ e ∈ ds,d.name ≠ e.name→d.start=e.start∧d.fin ≠ e.fin):ik 9 z sp ds=none:=by
 unfold ik
 refine List.findSome?_eq_none_iff.mpr fun d hd=>?_
 unfold br
 refine List.findSome?_eq_none_iff.mpr fun e he=>?_
 unfold Vo
 rw [if_neg]
 ·rfl
 ·rintro ⟨hn,hm⟩
  obtain ⟨h1,h2⟩:=h d hd e he hn
  have:mt 9 d e=false:=by
   show LF 9 d.start d.fin e.start e.fin=false
   unfold LF
   rw [decide_eq_false h2,if_pos (.inl (.inl h1.symm))];rfl
  rw [this] at hm
  cases hm
end My
namespace My
open PySem L2
noncomputable def FF (t:Adr):Sp:=fun vs H Q E=>∃ (pl c:Addr) (n:Int) (ds:List WD) (z:Nat) (sp:List SD) (x:Str) (turn:Int),vs=[.ref pl,.str x,.int turn]∧yi t H pl c n ds z sp∧0 < z∧Av x ∧
 ((∃ (i:Nat) (d:WD) (v:Int),ds[i]? = some d∧x=d.name∧(Le z sp x)[(turn % (z:Int)).toNat]? = some v∧Q (.int (turn + v)) H)∨(ym ds x∧Zr t x H E))
noncomputable def ZE (t:Adr):Sp:=fun vs H Q E=>∃ (pl c:Addr) (n:Int) (ds:List WD) (z:Nat) (sp:List SD) (x:Str),vs=[.ref pl,.str x]∧yi t H pl c n ds z sp∧(0 < z∧z ≤ 1000)∧Av x ∧
 ((∃ (i:Nat) (d:WD) (m:Int),ds[i]? = some d∧x=d.name∧(m ∈ Le z sp x∧∀ k ∈ Le z sp x,k ≤ m)∧∀ p,H p=none→Q (.ref p) (upd H p (.tup [.int m,.int ((Le z sp x).idxOf m:Nat)])))∨(ym ds x∧Zr t x H E))
section
variable {w:World} {K:PySem.W.Frag} {mg:Str→Option Value} {t:Adr} {H:Hp} {a c dx p lm un:Addr} {z:Int}
theorem No (T:Txt w K mg t) (e:H a=some (.ins t.Ed dx (plF c z p lm un))):Bi K H a (Str.ofString "crossing") (.ref c):=⟨_,dx,_,e,T.Rh,T.vi,Bd yA 0 (Nn ..) (by decide +kernel) rfl⟩
theorem NH (T:Txt w K mg t) (e:H a=some (.ins t.Ed dx (plF c z p lm un))):Bi K H a (Str.ofString "size") (.int z):=⟨_,dx,_,e,T.Rh,T.Dm,Bd yA 1 (Nn ..) (by decide +kernel) rfl⟩
end
theorem kJ {z:Nat} {sp:List SD} {x:Str}:(Le z sp x).length=z:=by
 unfold Le
 rw [Bh,Kh]
theorem NK.get {H:Hp} {p:Addr} {ds:List WD} {f:WD→HO} (h:NK H p ds f ds.length) (nd:(ds.map (·.name)).Nodup) {i:Nat} {d:WD} (hd:ds[i]? = some d):∃ r,Bk H p (.str d.name) (some (.ref r))∧H r=some (f d):=by
 obtain ⟨rs,hl,hp,al⟩:=h
 have hi:i < rs.length:=by rw [hl];exact (List.getElem?_eq_some_iff.mp hd).1
 have hr:rs[i]? = some rs[i]:=List.getElem?_eq_getElem hi
 refine ⟨rs[i],?_,al i _ d hr hd⟩
 have:=Bk.k (k:=Sum.inr d.name) hp
 rw [Lv nd hd hr] at this
 exact this
section
variable {P:Program} {w:World} {K:PySem.W.Frag} {mg:Str→Option Value} {base:Heap} {t:Adr}
theorem sF (T:Txt w K mg t):Bb P w K mg base (CX1 P w) 5 t.Pe t.Re ["plan","name","turn"] (FF t):=by
 have GX_Crossing_called:Bb P w K mg base (CX1 P w) 4 t.Eb t.Gb ["self","name"] (qm t):=Jq T
 refine T.Ph.okX yu (fun vs H Q E h=>?_) (fun cdv A outer s H vs Q E hr h=>?_)
 ·obtain ⟨pl,c,n,ds,z,sp,x,turn,rfl,_⟩:=h;rfl
 obtain ⟨pl,c,n,ds,z,sp,x,turn,rfl,PA,hz,sm,hq⟩:=h
 obtain ⟨dx,p,lm,un,hpl,C,_,_,NU⟩:=PA.at_
 obtain ⟨⟨hnd,_⟩,dxc,wl,nd,e1,_,_⟩:=id C
 have hu:=Mv hr
 refine ⟨_,(cb (kc (Nc (Nb (pv 0) rfl) T.Cb T.Mb GX_Crossing_called hr T.Lb .nil zk (bb (pv 1) fb)))
   (gb (Fb (Ib kd (pv 2) (Cd Ld (sk hu (Nb (pv 0) rfl) (pv 1) (fun _ _=>rfl)) (Ib Ae (pv 2) (Nb (pv 0) rfl)) (fun _ _=>rfl)))))),?_⟩
 (walk_at "RD")
 refine ⟨_,No T hpl,_,rfl,_,_,e1,Gu _ _ _ (by decide +kernel),c,n,ds,x,rfl,C,sm,?_⟩
 rcases hq with ⟨i,d,v,hd,rfl,hv,q⟩ | ⟨hs,q⟩
 ·refine .inl ⟨i,d,hd,rfl,fun a W=>?_⟩
  obtain ⟨r,hg,hr'⟩:=NU.get hnd hd
  have h0:=Int.emod_nonneg turn (show (z:Int) ≠ 0 by omega)
  (walk_at "RD")
  refine ⟨_,Lk T hpl,_,rfl,_,hg,_,NH T hpl,_,rfl,by omega,_,rfl,_,SqL.of hr',.int v,?_,_,rfl,q⟩
  have e:=gc (xs:=(Le z sp d.name).map V.int) (j:=(turn % (z:Int)).toNat) (v:=.int v) (by rw [List.getElem?_map,hv];rfl)
  rwa [Int.toNat_of_nonneg h0] at e
 ·exact .inr ⟨hs,q⟩
theorem zE (T:Txt w K mg t):Bb P w K mg base (CX1 P w) 5 t.Ah t.Hh ["plan","name"] (ZE t):=by
 have GX_Crossing_called:Bb P w K mg base (CX1 P w) 4 t.Eb t.Gb ["self","name"] (qm t):=Jq T
 refine T.Ll.okX mr (fun vs H Q E h=>?_) (fun cdv A outer s H vs Q E hr h=>?_)
 ·obtain ⟨pl,c,n,ds,z,sp,x,rfl,_⟩:=h;rfl
 obtain ⟨pl,c,n,ds,z,sp,x,rfl,PA,hz,sm,hq⟩:=h
 obtain ⟨dx,p,lm,un,hpl,C,_,_,NU⟩:=PA.at_
 obtain ⟨⟨hnd,_⟩,dxc,wl,nd,e1,_,_⟩:=id C
 have hu:=Mv hr
 refine ⟨_,(cb (kc (Nc (Nb (pv 0) rfl) T.Cb T.Mb GX_Crossing_called hr T.Lb .nil zk (bb (pv 1) fb)))
   (cb (Db (i:=2) mr.nd rfl (Or.inl rfl) (ic (UA rfl) rfl T.fG Ul (bb (sk hu (Nb (pv 0) rfl) (pv 1) (fun _ _=>rfl)) fb)))
   (gb (Fb (Rk (bb (pv 2) (bb (Ft PySem.F.plainAttrs_list PySem.F.slot_list_index PySem.F.type_list_index kB (sk hu (Nb (pv 0) rfl) (pv 1) (fun _ _=>rfl)) (bb (pv 2) fb)) fb))))))),?_⟩
 (walk_at "RD")
 refine ⟨_,No T hpl,_,rfl,_,_,e1,Gu _ _ _ (by decide +kernel),c,n,ds,x,rfl,C,sm,?_⟩
 rcases hq with ⟨i,d,m,hd,rfl,hm,q⟩ | ⟨hs,q⟩
 ·refine .inl ⟨i,d,hd,rfl,fun a W=>?_⟩
  obtain ⟨r,hg,hr'⟩:=NU.get hnd hd
  (walk_at "RD")
  exact ⟨_,Lk T hpl,_,rfl,_,hg,_,rfl,_,SqL.of hr',m,hm.1,hm.2,_,Lk T hpl,_,rfl,_,hg,.inl ⟨_,SqL.of hr'⟩,_,rfl,_,SqL.of hr',hm.1,by rw [kJ];exact hz.2,by decide,q⟩
 ·exact .inr ⟨hs,q⟩
end
end My
namespace My
open PySem L2
theorem LO.snoc {H:Hp} {wl p:Addr} {os:List HO} {o:HO} {qs:List Addr} (l1:H wl=some (.lst (qs.map V.ref))) (lq:LQ H qs os) (hp:H p=none) (ho:∀ xs,o ≠ .lst xs) (hos:∀ u ∈ os,∀ xs,u ≠ .lst xs) :
  LO (upd (upd H p o) wl (.lst (qs.map V.ref ++ [.ref p]))) wl (os ++ [o]):=by
 have hpw:p ≠ wl:=(lb l1 hp).symm
 refine ⟨qs ++ [p],by rw [db,List.map_append];rfl,LQ.app ⟨lq.1,fun i q u hq hu=>?_⟩ (LQ.one (by rw [jb hpw,db]))⟩
 have e:=lq.2 i q u hq hu
 rw [jb (Yf e l1 (hos u (List.mem_of_getElem? hu) _)),jb (lb e hp)]
 exact e
theorem DM (s:SD):atI [V.str s.name,.int s.b,.int s.n] 0=some (.str s.name):=gc (j:=0) rfl
theorem OM (s:SD):atI [V.str s.name,.int s.b,.int s.n] 1=some (.int s.b):=gc (j:=1) rfl
theorem PM (s:SD):atI [V.str s.name,.int s.b,.int s.n] 2=some (.int s.n):=gc (j:=2) rfl
theorem MI {sp:List SD}:∀ u ∈ List.map sdO sp,∀ xs,u ≠ .lst xs:=fun u hu xs z=>by
 obtain ⟨s,_,rfl⟩:=List.mem_map.mp hu
 cases z
theorem yx (z t:Int) (ps:List (Int × Int)) (p:Int × Int):rg z t (ps ++ [p])=if Wh z t p < rg z t ps then Wh z t p else rg z t ps:=by
 unfold rg
 rw [List.foldl_append,List.foldl_cons,List.foldl_nil]
 split <;> omega
noncomputable def bx (K:PySem.W.Frag) (a:Addr) (ns:List Int):Sp:=fun vs H Q _=>∃ (x:Str) (b:Int) (z:Nat),vs=[.ref a,.str x,.int b,.int z]∧Sc K a ns H∧(0 ≤ b∧b < 1000)∧(20 ≤ z∧z ≤ 1000)∧∀ p sp H',Rb H H'→Sc K a ns H'→LO H' p (List.map sdO sp)→wA z x sp→Q (.ref p) H'
noncomputable def Sr (K:PySem.W.Frag):Sp:=fun vs H Q _=>∃ (z:Nat) (p:Addr) (sp:List SD) (x:Str) (turn:Int),vs=[.int z,.ref p,.str x,.int turn]∧0 < z∧LO H p (List.map sdO sp)∧Q (.int (rg z turn (ofN x sp))) H
noncomputable def wtN (z:Nat) (x:Str) (sp:List SD) (i:Nat):Int:=rg z i (ofN x sp)
noncomputable def Dw (K:PySem.W.Frag):Sp:=fun vs H Q _=>∃ (z:Nat) (p:Addr) (sp:List SD) (x:Str),vs=[.int z,.ref p,.str x]∧(0 < z∧z ≤ 1000)∧LO H p (List.map sdO sp)∧∀ r H',Rb H H'→(NoT H→NoT H')→H' r=some (.tup [.int (ae (wtN z x sp) z z).1,.int ((ae (wtN z x sp) z z).2:Nat)])→Q (.ref r) H'
noncomputable def Ut:Sp:=fun vs H Q _=>∃ u v:Int,vs=[.int u,.int v]∧Q (.bl (decide (u=v))) H
section
variable {P:Program} {w:World} {K:PySem.W.Frag} {mg:Str→Option Value} {base:Heap} {t:Adr}
theorem Zy (T:Txt w K mg t):Bb P w K mg base CX0 1 t.Bg t.Yg ["_law_found","_law_due"] Ut:=by
 refine T.Ff.ok Gs (fun vs H Q E h=>?_) (fun cdv A outer s H vs Q E hr h=>?_)
 ·obtain ⟨u,v,rfl,_⟩:=h;rfl
 obtain ⟨u,v,rfl,q⟩:=h
 refine ⟨_,(gb (Fb (Zs (ic As rfl T.Ui Se (bb (pv 0) (bb (Uu (v:=.ty "int") rfl T.DI cr rfl) fb))) (Zs (BI (ic As rfl T.Ui Se (bb (pv 0) (bb (Uu (v:=.ty "bool") rfl T.MJ fv rfl) fb)))) (ir (Ke Di (pv 0) (pv 1) (dc _))))))),?_⟩
 (walk_at "RD")
 refine ⟨_,.int _,_,oF,?_⟩
 rw [if_pos rfl]
 refine ⟨_,.int _,_,OI,?_⟩
 rw [if_pos (by decide)]
 exact q
theorem Xw (T:Txt w K mg t):Bb P w K mg base CX0 1 t.ug t.yg ["_law_size","_law_rows_here","_law_name","_law_turn"] (Sr K):=by
 refine T.Lh.ok Kf (fun vs H Q E h=>?_) (fun cdv A outer s H vs Q E hr h=>?_)
 ·obtain ⟨z,p,sp,x,turn,rfl,_⟩:=h;rfl
 obtain ⟨z,p,sp,x,turn,rfl,hz,⟨qs,l1,lq⟩,q⟩:=h
 refine ⟨_,(cb (Db (i:=4) Kf.nd rfl (Or.inl rfl) (pv 0))
   (cb (wd PassesOwn.never rfl (Sd (pv 1)) (wb (i:=5) Kf.nd rfl (Or.inl rfl)) (gb (re (Xb Di (Cd ve (pv 5) pb (fun _ _=>rfl)) (pv 2) (dc _)) (cb (Db (i:=6) Kf.nd rfl (Or.inl rfl) (Ib Ae (Ib uh (pv 3) (Cd ve (pv 5) pb (fun _ _=>rfl))) (pv 0)))
   (gb (Db (i:=4) Kf.nd rfl (Or.inl rfl) (ic (vt rfl) rfl T.WG Yq (bb (pv 4) (bb (Wr (Xb bu (pv 6) (Cd ve (pv 5) pb (fun _ _=>rfl)) (dc _)) pb (Ib uh (pv 0) (pv 6))) fb)))))) fc)))
   (gb (Fb (pv 4))))),?_⟩
 (walk_at "RD")
 refine ⟨⟨_,SqL.of l1⟩,?_⟩
 refine Jh.list (xs:=qs.map V.ref) (fun i σ H'=>H'=H∧∃ a b,σ=[some (V.int z),some (V.ref p),some (V.str x),some (V.int turn),some (V.int (rg z turn (ofN x (sp.take i)))),a,b]) ?_ ?_ ?_ ?_
 ·exact ⟨rfl,_,_,rfl⟩
 ·rintro i σ H' hi ⟨rfl,_⟩
  exact SqL.of l1
 ·rintro i v σ H' hv ⟨rfl,a,b,rfl⟩
  obtain ⟨qi,hqi,rfl⟩:=Vb hv
  obtain ⟨o,ho,e⟩:=lq.at hqi
  obtain ⟨d,hd,rfl⟩:=Vb ho
  have hn:rg z turn (ofN x (sp.take (i + 1)))=if d.name=x then (if Wh z turn (d.b,d.n) < rg z turn (ofN x (sp.take i)) then Wh z turn (d.b,d.n) else rg z turn (ofN x (sp.take i))) else rg z turn (ofN x (sp.take i)):=by
   rw [xg hd,Kw]
   by_cases c:d.name=x
   ·rw [if_pos c,if_pos c,yx]
   ·rw [if_neg c,if_neg c,List.append_nil]
  simp only [ef,Tb,List.set_cons_succ,List.set_cons_zero]
  refine Ub (decide (d.name=x)) (fun Q hQ=>?_) (fun c=>?_) (fun c=>?_)
  ·(walk_at "RD")
   refine ⟨_,SqT.of e,_,DM _,rfl,?_⟩
   rw [show decide (V.str d.name=V.str x)=decide (d.name=x) by simp]
   exact hQ
  ·have c:=of_decide_eq_true c
   rw [if_pos c] at hn
   have e':H' qi=some (.tup [.str d.name,.int d.b,.int d.n]):=e
   (walk_at "RD")
   refine ⟨_,SqT.of e',_,OM _,_,rfl,by omega,_,SqT.of e',_,PM _,_,rfl,?_⟩
   unfold Wh at hn
   dsimp only at hn
   by_cases c2:(turn - d.b) % (z:Int) < d.n
   ·rw [if_pos (decide_eq_true c2)]
    rw [if_pos c2] at hn
    exact ⟨hn.symm,_,rfl⟩
   ·rw [if_neg (by simpa using c2)]
    rw [if_neg c2] at hn
    exact ⟨hn.symm,_,rfl⟩
  ·have c:=of_decide_eq_false c
   rw [if_neg c] at hn
   (walk_at "RD")
   exact ⟨hn.symm,_,rfl⟩
 ·rintro σ H' ⟨rfl,a,b,rfl⟩
  (walk_at "RD")
  rw [List.take_of_length_le (by rw [List.length_map,lq.1,List.length_map];exact Nat.le_refl _)]
  exact q
theorem YC (T:Txt w K mg t):Bb P w K mg base CX0 2 t.lf t.zf ["_law_size","_law_rows_here","_law_name"] (Dw K):=by
 have G__law_wait:Bb P w K mg base CX0 1 t.ug t.yg ["_law_size","_law_rows_here","_law_name","_law_turn"] (Sr K):=Xw T
 refine T.lh.ok Pd (fun vs H Q E h=>?_) (fun cdv A outer s H vs Q E hr h=>?_)
 ·obtain ⟨z,p,sp,x,rfl,_⟩:=h;rfl
 obtain ⟨z,p,sp,x,rfl,hz,L,q⟩:=h
 refine ⟨_,(cb (Db (i:=3) Pd.nd rfl (Or.inl rfl) (Rk (bb pb (bb pb fb))))
   (cb (wd PassesOwn.never rfl (Bu rfl T.Qe (bb (Ib uh (pv 0) pb) (bb (TD bw pb) (bb (TD bw pb) fb)))) (wb (i:=4) Pd.nd rfl (Or.inl rfl)) (cb (Db (i:=5) Pd.nd rfl (Or.inl rfl) (ub G__law_wait hr rfl T.Jo T.Lh.kp T.So .nil Ab (bb (pv 0) (bb (pv 1) (bb (pv 2) (bb (pv 4) fb))))))
   (gb (re (Xb mL (pv 5) (Cd ve (pv 3) pb (fun _ _=>rfl)) (dc _)) (gb (Db (i:=3) Pd.nd rfl (Or.inl rfl) (Rk (bb (pv 5) (bb (pv 4) fb))))) fc))))
   (gb (Fb (pv 3))))),?_⟩
 (walk_at "RD")
 refine ⟨by decide,fun b0 hb0=>⟨by omega,by omega,by omega,by omega,?_⟩⟩
 rw [show ((z:Int) - 1 - -1).toNat=z by omega]
 refine Jh.of (n:=z) (fun k σ H'=>Rb H H'∧(NoT H→NoT H')∧∃ b a c,H' b=some (.tup [.int (ae (wtN z x sp) z k).1,.int ((ae (wtN z x sp) z k).2:Nat)])∧σ=[some (V.int z),some (V.ref p),some (V.str x),some (.ref b),a,c]) ?_ (fun i σ H' hi _=>?_) (fun σ H' _=>?_) ?_ ?_
 ·exact ⟨qb hb0,fun n=>n.upd,b0,_,_,db,rfl⟩
 ·show i < _;omega
 ·show _ ≤ z;omega
 ·rintro k σ H'' v H' hk ⟨sm,nt,b,a,c,hb,rfl⟩ ⟨rfl,rfl⟩
  have ek:(z:Int) - 1 - (k:Int)=((z - 1 - k:Nat):Int):=by omega
  rw [ek]
  have hst:ae (wtN z x sp) z (k + 1)=if (ae (wtN z x sp) z k).1 ≤ wtN z x sp (z - 1 - k) then (wtN z x sp (z - 1 - k),z - 1 - k) else ae (wtN z x sp) z k:=rfl
  simp only [ef,Tb,List.set_cons_succ,List.set_cons_zero]
  refine jd (fun σ H4=>H4=H'∧σ=[some (V.int z),some (V.ref p),some (V.str x),some (.ref b),some (V.int ((z - 1 - k:Nat):Int)),some (V.int (wtN z x sp (z - 1 - k)))]) (fun D' hD _ _ _=>?_) ?_
  ·(walk_at "RD")
   exact ⟨z,p,sp,x,_,rfl,hz.1,L.same sm,hD _ _ ⟨rfl,rfl⟩⟩
  rintro σ1 H1 ⟨rfl,rfl⟩
  dsimp only
  refine Ub (decide ((ae (wtN z x sp) z k).1 ≤ wtN z x sp (z - 1 - k))) (fun Q hQ=>?_) (fun cc=>?_) (fun cc=>?_)
  ·(walk_at "RD")
   refine ⟨_,SqT.of hb,_,gc (j:=0) rfl,_,rfl,hQ⟩
  ·have cc:=of_decide_eq_true cc
   rw [if_pos cc] at hst
   (walk_at "RD")
   refine ⟨by decide,fun b1 hb1=>?_⟩
   exact ⟨sm.trans (qb hb1),fun n=>(nt n).upd,b1,by rw [db,hst],rfl,by repeat (first | exact ⟨_,rfl⟩ | refine ⟨⟨_,rfl⟩,?_⟩)⟩
  ·have cc:=of_decide_eq_false cc
   rw [if_neg cc] at hst
   (walk_at "RD")
   exact ⟨sm,nt,b,by rw [hst];exact hb,rfl,by repeat (first | exact ⟨_,rfl⟩ | refine ⟨⟨_,rfl⟩,?_⟩)⟩
 ·rintro σ H' ⟨sm,nt,b,a,c,hb,rfl⟩
  (walk_at "RD")
  exact q b H' sm nt hb
theorem iE (T:Txt w K mg t) (a:Addr) (ns:List Int) (h63:ns.length ≤ 63):Bb P w K mg base CX0 2 t.Yh t.Vh ["_law_script","_law_name","_law_base","_law_size"] (bx K a ns):=by
 have G__law_draw:Bb P w K mg base CX0 1 t.qg t.ig ["_law_script","_law_k","_law_many"] (me K a ns):=uz T a ns h63
 refine T.Fk.ok qe (fun vs H Q E h=>?_) (fun cdv A outer s H vs Q E hr h=>?_)
 ·obtain ⟨x,b,z,rfl,_⟩:=h;rfl
 obtain ⟨x,b,z,rfl,S,hb,hz,q⟩:=h
 refine ⟨_,(cb (Db (i:=4) qe.nd rfl (Or.inl rfl) (Ib kd pb (ub G__law_draw hr rfl T.uc T.Qb.kp T.nc .nil Ab (bb (pv 0) (bb (pv 2) (bb pb fb))))))
   (cb (Db (i:=5) qe.nd rfl (Or.inl rfl) (ub G__law_draw hr rfl T.uc T.Qb.kp T.nc .nil Ab (bb (pv 0) (bb (Ib kd (pv 2) pb) (bb (pv 3) fb)))))
   (cb (Db (i:=6) qe.nd rfl (Or.inl rfl) (ck fb))
   (cb (wd PassesOwn.never rfl (Id rfl T.Qe (bb (pv 4) fb)) (wb (i:=7) qe.nd rfl (Or.inl rfl)) (cb (Db (i:=8) qe.nd rfl (Or.inl rfl) (Ib Ae (Ib kd (Ib Nm (pv 7) (Ib xz (pv 3) (pv 4))) (pv 5)) (pv 3)))
   (gb (kc (Ft PySem.F.plainAttrs_list PySem.F.slot_list_append PySem.F.type_list_append Oi (pv 6) (bb (Rk (bb (pv 1) (bb (pv 8) (bb (Ib kd pb (ub G__law_draw hr rfl T.uc T.Qb.kp T.nc .nil Ab (bb (pv 0) (bb (Ib kd (Ib kd (pv 2) pb) (pv 7)) (bb (ic (lu rfl) rfl T.fG Ul (bb pb (bb (Ib uh (Ib xz (pv 3) (pv 4)) pb) fb))) fb))))) fb)))) fb))))))
   (gb (Fb (pv 6))))))),?_⟩
 have d1:=Oh ns b (m:=3) (by decide)
 have d2:=Uh ns b (m:=3) (by decide)
 obtain ⟨m,hm⟩:∃ m:Nat,1 + uq ns b 3=(m:Nat):=⟨(1 + uq ns b 3).toNat,by omega⟩
 have hm3:1 ≤ m∧m ≤ 3:=by omega
 simp only [Tb]
 refine jd (fun σ' H'=>H'=H∧σ'=[some (.ref a),some (.str x),some (.int b),some (.int z),some (.int m),none,none,none,none]) (fun D hD _ _ _=>?_) ?_
 ·(walk_at "RD"; repeat (simp only [me];walk_at "RD"))
  rw [hm]
  exact ⟨S,by omega,by omega,by decide,hD _ _ ⟨rfl,rfl⟩⟩
 rintro σ1 H1 ⟨rfl,rfl⟩
 simp only [Tb]
 refine jd (fun σ' H'=>H'=H1∧∃ sh:Int,σ'=[some (.ref a),some (.str x),some (.int b),some (.int z),some (.int m),some (.int sh),none,none,none]) (fun D hD _ _ _=>?_) ?_
 ·(walk_at "RD"; repeat (simp only [me];walk_at "RD"))
  exact ⟨S,by omega,by omega,by omega,hD _ _ ⟨rfl,_,rfl⟩⟩
 rintro σ2 H2 ⟨rfl,sh,rfl⟩
 simp only [Tb]
 refine jd (fun σ' H'=>Sc K a ns H'∧Rb H2 H'∧∃ rl,H2 rl=none∧H' rl=some (.lst [])∧σ'=[some (.ref a),some (.str x),some (.int b),some (.int z),some (.int m),some (.int sh),some (.ref rl),none,none]) (fun D hD _ _ _=>?_) ?_
 ·(walk_at "RD")
  exact ⟨Nat.zero_le _,fun rl hrl=>hD _ _ ⟨S.new hrl,qb hrl,rl,hrl,db,rfl⟩⟩
 rintro σ3 H3 ⟨S3,s3,rl,hrl,w3,rfl⟩
 (walk_at "RD")
 refine ⟨by omega,by omega,?_⟩
 rw [Int.toNat_natCast]
 refine Jh.range (fun i σ H'=>Sc K a ns H'∧Rb H2 H'∧(∃ sp:List SD,LO H' rl (List.map sdO sp)∧sp.length=i∧∀ (j:Nat) (s:SD),sp[j]? = some s→s.name=x∧s.b=((j:Int) * ((z:Int) / (m:Int)) + sh) % (z:Int)∧1 ≤ s.n∧(s.n ≤ (z:Int) / (m:Int) - 6∨s.n=1))∧∃ x1 x2,σ=[some (.ref a),some (.str x),some (.int b),some (.int z),some (.int m),some (.int sh),some (.ref rl),x1,x2]) ?_ ?_ ?_
 ·exact ⟨S3,s3,⟨[],⟨[],w3,LQ.nil _⟩,rfl,fun j s h=>by simp at h⟩,_,_,rfl⟩
 ·rintro i σ H' hi ⟨S4,s4,⟨sp,L4,hsl,al⟩,x1,x2,rfl⟩
  simp only [ef,Tb,List.set_cons_succ,List.set_cons_zero,Int.zero_add]
  refine jd (fun σ' H2=>H2=H'∧σ'=[some (.ref a),some (.str x),some (.int b),some (.int z),some (.int m),some (.int sh),some (.ref rl),some (.int (i:Nat)),some (.int (((i:Int) * ((z:Int) / (m:Int)) + sh) % (z:Int)))]) (fun D hD _ _ _=>?_) ?_
  ·(walk_at "RD")
   exact ⟨⟨by omega,by omega⟩,.inl ⟨by omega,by omega⟩,by omega,hD _ _ ⟨rfl,rfl⟩⟩
  rintro σ5 H5 ⟨rfl,rfl⟩
  have hmx:1 ≤ (if (z:Int) / (m:Int) - 6 > 1 then (z:Int) / (m:Int) - 6 else 1):=by split <;> omega
  have g3:=Oh ns (b + 2 + (i:Int)) (m:=if (z:Int) / (m:Int) - 6 > 1 then (z:Int) / (m:Int) - 6 else 1) (by omega)
  have g4:=Uh ns (b + 2 + (i:Int)) (m:=if (z:Int) / (m:Int) - 6 > 1 then (z:Int) / (m:Int) - 6 else 1) (by omega)
  obtain ⟨os,w5,w6⟩:=L4
  have hosl:os.length=i:=by rw [w6.1,List.length_map,hsl]
  (walk_at "RD"; repeat (simp only [me];walk_at "RD"))
  generalize hdd:uq ns (b + 2 + (i:Int)) (if (z:Int) / (m:Int) - 6 > 1 then (z:Int) / (m:Int) - 6 else 1)=tu at g3 g4 ⊢
  refine ⟨.inl ⟨_,SqL.of w5⟩,⟨by omega,by omega⟩,S4,by omega,by omega,by omega,by decide,fun p2 hp2=>?_⟩
  have hwp:rl ≠ p2:=lb w5 hp2
  have L':=LO.snoc (o:=sdO ⟨x,((i:Int) * ((z:Int) / (m:Int)) + sh) % (z:Int),1 + tu⟩) w5 w6 hp2 (fun xs z=>by cases z) MI
  refine ⟨_,by rw [jb hwp];exact w5,Nat.lt_of_le_of_lt (show (os.map V.ref).length ≤ 12 by rw [List.length_map];omega) (by decide),?_,?_,⟨sp ++ [⟨x,((i:Int) * ((z:Int) / (m:Int)) + sh) % (z:Int),1 + tu⟩],by rw [List.map_append];exact L',by rw [List.length_append,hsl];rfl,fun j s hs=>?_⟩,by repeat (first | exact ⟨_,rfl⟩ | refine ⟨⟨_,rfl⟩,?_⟩)⟩
  ·exact (S4.new hp2).set (by rw [jb hwp];exact w5) (fun ob z e=>by cases e)
  ·exact (s4.trans (qb hp2)).updN hrl
  ·rcases qo hs with ⟨_,z'⟩ | ⟨z1,rfl⟩
   ·exact al j s z'
   ·rw [z1,hsl]
    refine ⟨rfl,rfl,by show 1 ≤ 1 + tu;omega,?_⟩
    show 1 + tu ≤ _∨1 + tu=1
    by_cases c6:(z:Int) / (m:Int) - 6 > 1
    ·rw [if_pos c6] at g4;exact .inl (by omega)
    ·rw [if_neg c6] at g4;exact .inr (by omega)
 ·rintro σ H' ⟨S4,s4,⟨sp,L4,hsl,al⟩,x1,x2,rfl⟩
  (walk_at "RD")
  exact q rl sp H' s4 S4 L4 ⟨m,sh,by omega,by omega,al⟩
end
end My
namespace My
open PySem L2
noncomputable def wG (i j:Nat):Str:=jI (97 + i) ++ Txt.slice (Str.ofString "lane") none (some ((j:Nat):Int))
theorem IL:∀ k,k < 2→atI (Str.ofString "ab").cps.toList ((k:Nat):Int)=some (97 + k):=by decide +kernel
theorem ix0 {n:Nat} (h:0 < n):ixN n 0=some 0:=by
 unfold ixN
 simp [h]
theorem NA:∀ i,i < 2→∀ j,j < 5→made (wG i j) Ck 8=true:=by decide +kernel
theorem mB:∀ i,i < 5→∀ j,j < 5→wG 0 i ≠ wG 1 j:=by decide +kernel
theorem jE:∀ i,i < 2→∀ j,j < 5→wG i j ≠ Str.ofString "zebra" := by decide +kernel
theorem BH {i:Int} (h0:0 ≤ i) (h1:i < 3):atI [V.str (Str.ofString "car"),V.str (Str.ofString "foot"),V.str (Str.ofString "tram")] i=some (.str (qd i.toNat)):=by
 have:i=0∨i=1∨i=2:=by omega
 rcases this with rfl | rfl | rfl
 ·exact gc (j:=0) rfl
 ·exact gc (j:=1) rfl
 ·exact gc (j:=2) rfl
noncomputable def W17 (i:Nat) (d:WD):Prop:=∃ k j o:Nat,k < 3∧j < 5∧o < 5∧d=⟨k,wG i j,0,(i:Int) + 1,(o:Int),0,1⟩
noncomputable def D17 (ds:List WD):Prop:=ds.length ≤ 2∧∀ (i:Nat) (d:WD),ds[i]? = some d→W17 i d
theorem W17.ok {i:Nat} {d:WD} (hi:i < 2) (h:W17 i d):WOk 9 d:=by
 obtain ⟨k,j,o,h1,h2,h3,rfl⟩:=h
 exact ⟨h1,NA i hi j h2,⟨by dsimp only;omega,by dsimp only;omega⟩,⟨by dsimp only;omega,by dsimp only;omega⟩,by dsimp only;omega,⟨by dsimp only;omega,by dsimp only;omega⟩,⟨by dsimp only;omega,by dsimp only;omega⟩,⟨by dsimp only;omega,by dsimp only;omega⟩⟩
theorem W17.room {i:Nat} {d:WD} (h:W17 i d):0 ≤ Gd d + bc d∧Gd d + bc d ≤ 4:=by
 obtain ⟨k,j,o,h1,h2,h3,rfl⟩:=h
 unfold Gd bc
 match k,h1 with
 | 0,_=>exact ⟨by show (0:Int) ≤ 2 + 1;decide,by show (2:Int) + 1 ≤ 4;decide⟩
 | 1,_=>exact ⟨by show (0:Int) ≤ (o:Int) + 0;omega,by show (o:Int) + 0 ≤ 4;omega⟩
 | 2,_=>exact ⟨by show (0:Int) ≤ 1 + 2;decide,by show (1:Int) + 2 ≤ 4;decide⟩
theorem D17.at {ds:List WD} (h:D17 ds) {d:WD} (hd:d ∈ ds):∃ i,i < 2∧ds[i]? = some d∧W17 i d:=by
 obtain ⟨i,hi⟩:=List.getElem?_of_mem hd
 have:=(List.getElem?_eq_some_iff.mp hi).1
 have hl:=h.1
 exact ⟨i,by omega,hi,h.2 i d hi⟩
theorem D17.ne {ds:List WD} (h:D17 ds) {i j:Nat} {d e:WD} (hi:ds[i]? = some d) (hj:ds[j]? = some e) (hij:i ≠ j):d.name ≠ e.name:=by
 have i2:=(List.getElem?_eq_some_iff.mp hi).1
 have j2:=(List.getElem?_eq_some_iff.mp hj).1
 have hl:=h.1
 obtain ⟨k,n,o,h1,h2,h3,rfl⟩:=h.2 i d hi
 obtain ⟨k',n',o',h1',h2',h3',rfl⟩:=h.2 j e hj
 have:(i=0∧j=1)∨(i=1∧j=0):=by omega
 rcases this with ⟨rfl,rfl⟩ | ⟨rfl,rfl⟩
 ·exact mB n h2 n' h2'
 ·exact (mB n' h2' n h2).symm
theorem D17.cok {ds:List WD} (h:D17 ds) (h1:1 ≤ ds.length):COk 9 ds:=by
 refine ⟨by decide,⟨h1,by have:=h.1;omega⟩,fun d hd=>?_,?_⟩
 ·obtain ⟨i,hi,_,w⟩:=h.at hd
  exact w.ok hi
 ·refine List.pairwise_iff_getElem.mpr fun i j hi hj hij e=>?_
  have hi':i < ds.length:=by simpa using hi
  have hj':j < ds.length:=by simpa using hj
  rw [List.getElem_map,List.getElem_map] at e
  exact h.ne (List.getElem?_eq_getElem hi') (List.getElem?_eq_getElem hj') (by omega) e
theorem D17.wof {ds:List WD} (h:D17 ds) {i:Nat} {d:WD} (hd:ds[i]? = some d):wOf ds d.name=some d:=by
 unfold wOf
 cases e:ds.find? fun x=>decide (x.name=d.name) with
 | none=>
  have:=List.find?_eq_none.mp e d (List.mem_of_getElem? hd)
  simp at this
 | some x=>
  have h1:x.name=d.name:=by simpa using List.find?_some e
  obtain ⟨j,hj⟩:=List.getElem?_of_mem (List.mem_of_find?_eq_some e)
  by_cases c:j=i
  ·subst c;exact hj.symm.trans hd
  ·exact absurd h1 (h.ne hj hd c)
theorem D17.dok {ds:List WD} (h:D17 ds):DOk ds:=fun d hd=>by
 obtain ⟨i,hi,_,w⟩:=h.at hd
 have o:=w.ok hi
 obtain ⟨h1,h2⟩:=Wg o.nm
 exact ⟨⟨Nat.le_trans h1.2 (by decide),fun c hc=>by have:=h2 c hc;omega⟩,o.of.1,by have:=o.of.2;omega⟩
theorem D17.small {ds:List WD} (h:D17 ds) {d:WD} (hd:d ∈ ds):Av d.name:=(h.dok d hd).1
theorem D17.cl {ds:List WD} (h:D17 ds):∀ d ∈ ds,∀ e ∈ ds,d.name ≠ e.name→d.start=e.start∧d.fin ≠ e.fin:=fun d hd e he hn=>by
 obtain ⟨i,_,hi,k,n,o,_,_,_,ed⟩:=h.at hd
 obtain ⟨j,_,hj,k',n',o',_,_,_,ee⟩:=h.at he
 have:i ≠ j:=fun z=>by
  subst z
  rw [hi] at hj
  exact hn (by rw [Option.some.inj hj])
 rw [ed,ee]
 exact ⟨rfl,by dsimp only;omega⟩
theorem D17.least {ds:List WD} (h:D17 ds):∀ d ∈ ds,d.least=1:=fun d hd=>by
 obtain ⟨i,_,_,k,n,o,_,_,_,rfl⟩:=h.at hd
 rfl
theorem D17.strange {ds:List WD} (h:D17 ds):ym ds (Str.ofString "zebra"):=fun d hd=>by
 obtain ⟨i,hi,_,k,n,o,_,hn,_,rfl⟩:=h.at hd
 exact jE i hi n hn
theorem D17.snoc {ds:List WD} (h:D17 ds) (hl:ds.length < 2) {d:WD} (w:W17 ds.length d):D17 (ds ++ [d]):=by
 refine ⟨by rw [List.length_append,List.length_singleton];omega,fun i e he=>?_⟩
 rcases qo he with ⟨_,z⟩ | ⟨z1,rfl⟩
 ·exact h.2 i e z
 ·rw [z1];exact w
theorem D17.foot {ds:List WD} (h:D17 ds) {d:WD} (h0:ds[0]? = some d):D17 (ds.set 0 ⟨1,d.name,d.start,d.fin,0,d.near,d.least⟩):=by
 refine ⟨by rw [List.length_set];exact h.1,fun i e he=>?_⟩
 by_cases c:i=0
 ·subst c
  rw [List.getElem?_set_self (List.getElem?_eq_some_iff.mp h0).1] at he
  cases he
  obtain ⟨k,n,o,_,hn,_,rfl⟩:=h.2 0 d h0
  exact ⟨1,n,0,by decide,hn,by decide,rfl⟩
 ·rw [List.getElem?_set_ne (fun e=>c e.symm)] at he
  exact h.2 i e he
noncomputable def tW (d:WD):HO:=.tup [.str (qd d.k),.str d.name,.int d.off]
theorem CI {ds:List WD}:∀ u ∈ List.map tW ds,∀ xs,u ≠ .lst xs:=fun u hu xs z=>by
 obtain ⟨s,_,rfl⟩:=List.mem_map.mp hu
 cases z
theorem LW17.at {H:Hp} {p:Addr} {ds:List WD} (L:LO H p (List.map tW ds)) {i:Nat} {d:WD} (h:ds[i]? = some d):∃ (qs:List Addr) (q:Addr),H p=some (.lst (qs.map V.ref))∧atI (qs.map V.ref) ((i:Nat):Int)=some (V.ref q)∧H q=some (.tup [.str (qd d.k),.str d.name,.int d.off])∧qs.length=ds.length:=by
 obtain ⟨qs,l1,l2,al⟩:=L
 rw [List.length_map] at l2
 have hi:i < qs.length:=by rw [l2];exact (List.getElem?_eq_some_iff.mp h).1
 have hq:qs[i]? = some qs[i]:=List.getElem?_eq_getElem hi
 exact ⟨qs,qs[i],l1,gc (by rw [List.getElem?_map,hq];rfl),al i _ (tW d) hq (by rw [List.getElem?_map,h];rfl),l2⟩
theorem TM (d:WD):atI [V.str (qd d.k),.str d.name,.int d.off] 0=some (.str (qd d.k)):=gc (j:=0) rfl
theorem vE (d:WD):atI [V.str (qd d.k),.str d.name,.int d.off] 1=some (.str d.name):=gc (j:=1) rfl
theorem WM (d:WD):atI [V.str (qd d.k),.str d.name,.int d.off] 2=some (.int d.off):=gc (j:=2) rfl
theorem LQ.setq {H:Hp} {qs:List Addr} {os:List HO} (h:LQ H qs os) {i:Nat} {p:Addr} {o:HO} (hp:H p=some o):LQ H (qs.set i p) (os.set i o):=by
 refine ⟨by rw [List.length_set,List.length_set];exact h.1,fun j q u h1 h2=>?_⟩
 rw [List.getElem?_set] at h1 h2
 by_cases c:i=j
 ·rw [if_pos c] at h1 h2
  split at h1
  ·cases h1
   split at h2
   ·cases h2;exact hp
   ·cases h2
  ·cases h1
 ·rw [if_neg c] at h1 h2
  exact h.2 j q u h1 h2
theorem lB (c:Nat):∀ (l:List (List Nat)) (x:List Nat),l ≠ []→jl c (l ++ [x])=jl c l ++ c :: x
 | [],_,h=>absurd rfl h
 | [y],x,_=>by simp [jl]
 | y :: z :: r,x,_=>by
  have:=lB c (z :: r) x (by simp)
  simp only [List.cons_append,jl] at this ⊢
  rw [this];simp
theorem Wx {ys:List Str} (y:Str) (h:ys ≠ []):(Str.join nl (ys ++ [y])).cps.toList=(Str.join nl ys).cps.toList ++ 10 :: y.cps.toList:=by
 rw [FI,cm,cm,List.map_append]
 exact lB _ _ _ (by simpa using h)
theorem tH (ds:List WD) (k:Nat) (x:Str) (m o:Int):Wd 9 (ds ++ [⟨k,x,0,m,o,0,1⟩])=((((Wd 9 ds ++ Str.ofString "\n") ++ qd k) ++ Str.ofString " ") ++ x) ++ ((((Str.ofString " 0 " ++ num m) ++ Str.ofString " ") ++ num o) ++ Str.ofString " 0 1"):=by
 apply fz
 have l0:(Str.ofString "\n").cps.toList=[10]:=by decide +kernel
 have l1:(Str.ofString " ").cps.toList=[32]:=by decide +kernel
 have l2:(Str.ofString " 0 ").cps.toList=[32,48,32]:=by decide +kernel
 have l3:(Str.ofString " 0 1").cps.toList=[32,48,32,49]:=by decide +kernel
 have n0:(num 0).cps.toList=[48]:=by decide +kernel
 have n1:(num 1).cps.toList=[49]:=by decide +kernel
 have e:Wd 9 (ds ++ [⟨k,x,0,m,o,0,1⟩])=Str.join nl ((Ol 9 ds).map (Str.join bk) ++ [Str.join bk (Bj ⟨k,x,0,m,o,0,1⟩)]):=by
  unfold Wd Ol
  simp
 rw [e,Wx _ (by unfold Ol;simp)]
 have e2:Str.join nl ((Ol 9 ds).map (Str.join bk))=Wd 9 ds:=rfl
 rw [e2]
 generalize Wd 9 ds=tx
 simp only [Str.cps_append,Array.toList_append,Bj,qJ,cm,List.map_cons,List.map_nil,jl,l0,l1,l2,l3,n0,n1,List.append_assoc,List.cons_append,List.nil_append]
theorem xE:Wd 9 []=Str.ofString "ring 9" := by decide +kernel
structure R17 (z:Nat) (ds:List WD) (i:Nat) (sp:List SD):Prop where
 s:Iy z ds sp
 len:sp.length ≤ 3 * i
 of:∀ s ∈ sp,∃ j d,j < i∧ds[j]? = some d∧s.name=d.name
 al:∀ j d,j < i→ds[j]? = some d→∃ s ∈ sp,s.name=d.name
theorem R17.nil (z:Nat) (ds:List WD):R17 z ds 0 []:=⟨Iy.nil z ds,Nat.zero_le _,fun s h=>by simp at h,fun j d h=>absurd h (Nat.not_lt_zero _)⟩
theorem R17.app {z:Nat} {ds:List WD} (D:D17 ds) {i:Nat} {sp sp':List SD} (h:R17 z ds i sp) {d:WD} (hd:ds[i]? = some d) (s':Iy z ds sp') (l':1 ≤ sp'.length∧sp'.length ≤ 3) (n':∀ s ∈ sp',s.name=d.name):R17 z ds (i + 1) (sp ++ sp'):=by
 refine ⟨h.s.app s' fun s hs e he z=>?_,by rw [List.length_append];have:=h.len;omega,fun s hs=>?_,fun j e hj he=>?_⟩
 ·obtain ⟨j,d',hj,hd',en⟩:=h.of s hs
  rw [en,n' e he] at z
  exact D.ne hd' hd (by omega) z
 ·rcases List.mem_append.mp hs with hs | hs
  ·obtain ⟨j,d',hj,hd',en⟩:=h.of s hs
   exact ⟨j,d',by omega,hd',en⟩
  ·exact ⟨i,d,by omega,hd,n' s hs⟩
 ·by_cases c:j < i
  ·obtain ⟨s,hs,en⟩:=h.al j e c he
   exact ⟨s,List.mem_append_left _ hs,en⟩
  ·have:j=i:=by omega
   subst this
   rw [hd] at he
   cases he
   obtain ⟨s,hs⟩:=List.exists_mem_of_length_pos (show 0 < sp'.length by omega)
   exact ⟨s,List.mem_append_right _ hs,n' s hs⟩
theorem lH {z:Nat} (hz:20 ≤ z) {ds:List WD} {d:WD} (hw:wOf ds d.name=some d) (h0:d.k=1∧d.off=0) {b:Int} (hb:0 ≤ b∧b < z):Iy z ds [⟨d.name,b,z⟩]:=by
 have e:Gd d=0∧bc d=0:=by
  unfold Gd bc
  rw [h0.1]
  exact ⟨h0.2,rfl⟩
 refine ⟨fun s hs=>?_,fun i j s e d' hij hi hj=>?_⟩
 ·rw [List.mem_singleton.mp hs]
  exact ⟨d,hw,hb,by dsimp only;omega,by dsimp only;omega⟩
 ·have i1:=(List.getElem?_eq_some_iff.mp hi).1
  have j1:=(List.getElem?_eq_some_iff.mp hj).1
  simp at i1 j1
  omega
theorem R17.ok {z:Nat} (hz:20 ≤ z∧z ≤ 240) {ds:List WD} (D:D17 ds) {i:Nat} (hi:i ≤ 2) {sp:List SD} (h:R17 z ds i sp):MF z sp:=by
 refine ⟨by have:=h.len;omega,fun s hs=>?_⟩
 obtain ⟨d,hw,hb,hn,hr⟩:=h.s.al s hs
 obtain ⟨j,d',hj,hd',en⟩:=h.of s hs
 have:wOf ds s.name=some d':=by rw [en];exact D.wof hd'
 have r:=(D.2 j d' hd').room
 rw [hw] at this
 cases this
 omega
theorem wA.one {z:Nat} {x:Str} {sp:List SD} (h:wA z x sp):(1 ≤ sp.length∧sp.length ≤ 3)∧∀ s ∈ sp,s.name=x:=by
 obtain ⟨m,sh,hm,hl,al⟩:=h
 refine ⟨by omega,fun s hs=>?_⟩
 obtain ⟨i,hi⟩:=List.getElem?_of_mem hs
 exact (al i s hi).1
theorem SL {z:Nat} {ds:List WD} (D:D17 ds) {sp:List SD} (h:R17 z ds ds.length sp) {i:Nat} {d:WD} (hd:ds[i]? = some d):(∀ p ∈ ofN d.name sp,1 ≤ p.2∧p.2 ≤ (z:Int))∧ofN d.name sp ≠ []:=by
 refine ⟨fun p hp=>?_,fun e=>?_⟩
 ·obtain ⟨s,hs,en,rfl⟩:=Ms hp
  obtain ⟨d',hw,hb,hn,hr⟩:=h.s.al s hs
  rw [en,D.wof hd] at hw
  cases hw
  have r:=(D.2 i d hd).room
  exact ⟨hn,by show s.n ≤ _;omega⟩
 ·obtain ⟨s,hs,en⟩:=h.al i d (List.getElem?_eq_some_iff.mp hd).1 hd
  have m:(s.b,s.n) ∈ ofN d.name sp:=List.mem_map.mpr ⟨s,List.mem_filter.mpr ⟨hs,by simpa using en⟩,rfl⟩
  rw [e] at m
  cases m
theorem WK {z:Nat} (hz:0 < z) {ds:List WD} (D:D17 ds) {sp:List SD} (h:R17 z ds ds.length sp) {i:Nat} {d:WD} (hd:ds[i]? = some d) {t:Nat} (ht:t < z):(Le z sp d.name)[t]? = some (wtN z d.name sp t):=by
 unfold Le wtN
 exact Vx hz (SL D h hd).1 (SL D h hd).2 ht
theorem QD {z:Nat} {sp:List SD} {x:Str}:(Le z sp x).length=z:=by
 unfold Le
 rw [Bh,Kh]
theorem YE {z:Nat} (hz:0 < z) {ds:List WD} (D:D17 ds) {sp:List SD} (h:R17 z ds ds.length sp) {i:Nat} {d:WD} (hd:ds[i]? = some d) :
  ((ae (wtN z d.name sp) z z).1 ∈ Le z sp d.name∧∀ k ∈ Le z sp d.name,k ≤ (ae (wtN z d.name sp) z z).1)∧(Le z sp d.name).idxOf (ae (wtN z d.name sp) z z).1=(ae (wtN z d.name sp) z z).2:=by
 obtain ⟨b1,_,b3,b4,b5⟩:=vw (f:=wtN z d.name sp) (fun i=>Jm (by omega) _) z z (by omega) (Nat.le_refl _)
 have e:(Le z sp d.name)[(ae (wtN z d.name sp) z z).2]? = some (ae (wtN z d.name sp) z z).1:=by rw [WK hz D h hd b3,← b1]
 refine ⟨⟨List.mem_of_getElem? e,fun k hk=>?_⟩,yB e fun j hj z'=>?_⟩
 ·obtain ⟨j,hj⟩:=List.getElem?_of_mem hk
  have hjl:=(List.getElem?_eq_some_iff.mp hj).1
  rw [QD] at hjl
  rw [WK hz D h hd hjl] at hj
  cases hj
  exact b4 j (by omega) hjl
 ·rw [WK hz D h hd (by omega)] at z'
  have:=b5 j (by omega) hj
  have:=Option.some.inj z'
  omega
theorem VE {z:Nat} (hz:0 < z) {ds:List WD} (D:D17 ds) {sp:List SD} (h:R17 z ds ds.length sp) {i:Nat} {d:WD} (hd:ds[i]? = some d) (turn:Int):(Le z sp d.name)[(turn % (z:Int)).toNat]? = some (rg z turn (ofN d.name sp))∧rg z turn (ofN d.name sp) ≤ (ae (wtN z d.name sp) z z).1:=by
 have h0:=Int.emod_nonneg turn (show (z:Int) ≠ 0 by omega)
 have h1:=Int.emod_lt_of_pos turn (show 0 < (z:Int) by omega)
 have e:=WK hz D h hd (t:=(turn % (z:Int)).toNat) (by omega)
 unfold wtN at e
 rw [Int.toNat_of_nonneg h0,fB] at e
 exact ⟨e,(YE hz D h hd).1.2 _ (List.mem_of_getElem? e)⟩
noncomputable def WE (t:Adr):Sp:=fun vs H Q _=>∃ (c:Addr) (ds:List WD) (z:Nat) (p:Addr) (sp:List SD),vs=[.ref c,.int z,.ref p]∧Gc t H c 9 ds∧D17 ds∧(20 ≤ z∧z ≤ 240)∧LO H p (List.map sdO sp)∧R17 z ds ds.length sp∧NoT H∧∀ a H',Rb H H'→NoT H'→yi t H' a c 9 ds z sp→Q (.ref a) H'
noncomputable def IE (t:Adr):Sp:=fun vs H Q _=>∃ (pl c:Addr) (ds:List WD) (z:Nat) (sp:List SD) (i:Nat) (d:WD) (turn:Int),vs=[.ref pl,.str d.name,.int turn]∧yi t H pl c 9 ds z sp∧D17 ds∧(20 ≤ z∧z ≤ 240)∧R17 z ds ds.length sp∧ds[i]? = some d∧Q (.int (turn + rg z turn (ofN d.name sp))) H
noncomputable def aF (t:Adr):Sp:=fun vs H Q _=>∃ (pl c:Addr) (ds:List WD) (z:Nat) (sp:List SD) (i:Nat) (d:WD),vs=[.ref pl,.str d.name]∧yi t H pl c 9 ds z sp∧D17 ds∧(20 ≤ z∧z ≤ 240)∧R17 z ds ds.length sp∧ds[i]? = some d∧∀ p,H p=none→Q (.ref p) (upd H p (.tup [.int (ae (wtN z d.name sp) z z).1,.int ((ae (wtN z d.name sp) z z).2:Nat)]))
noncomputable def bB (t:Adr):Sp:=fun vs H Q _=>∃ (pl c:Addr) (ds:List WD) (z:Nat) (sp:List SD) (by_:Bool),vs=[.ref pl,.bl by_]∧yi t H pl c 9 ds z sp∧(20 ≤ z∧z ≤ 240)∧ym ds (Str.ofString "zebra")∧∀ H',Rb H H'→Q (.bl true) H'
theorem yi.same {t:Adr} {H H':Hp} {a c:Addr} {n:Int} {ds:List WD} {z:Nat} {sp:List SD} (h:yi t H a c n ds z sp) (s:Rb H H'):yi t H' a c n ds z sp:=by
 obtain ⟨dx,p,lm,un,h1,h2,h3,⟨r1,a1,b1,c1⟩,⟨r2,a2,b2,c2⟩⟩:=h.at_
 exact ⟨dx,p,lm,un,s _ _ h1,h2.same s,h3.same s,⟨r1,a1,s _ _ b1,fun i r d x y=>s _ _ (c1 i r d x y)⟩,⟨r2,a2,s _ _ b2,fun i r d x y=>s _ _ (c2 i r d x y)⟩⟩
theorem Xt:Av (Str.ofString "zebra"):=⟨by decide +kernel,by decide +kernel⟩
section
variable {P:Program} {w:World} {K:PySem.W.Frag} {mg:Str→Option Value} {base:Heap} {t:Adr}
theorem YI (T:Txt w K mg t):Bb P w K mg base CX0 6 t.dg t.gg ["crossing","size","rows"] (WE t):=by
 refine (UC T).quiet fun vs H Q E h=>?_
 obtain ⟨c,ds,z,p,sp,rfl,C,D,hz,L,R,nt,q⟩:=h
 have h1:oi ds sp=none:=cN fun d hd=>by
  obtain ⟨i,_,hi,_⟩:=D.at hd
  exact R.al i d (List.getElem?_eq_some_iff.mp hi).1 hi
 have h2:Fi ds z sp=none:=aN R.s D.least
 have h3:ik 9 z sp ds=none:=RM D.cl
 refine ⟨c,9,ds,z,p,sp,rfl,C,by decide,D.dok,⟨by omega,by omega⟩,L,R.ok hz D D.1,fun s hs=>?_,nt,fun _ _ _=>q,fun x hx=>?_,fun e _ he=>?_,fun e _ _ he=>?_⟩
 ·obtain ⟨d,hw,_⟩:=R.s.al s hs
  exact ⟨d,hw⟩
 ·rw [h1] at hx;cases hx
 ·rw [h2] at he;cases he
 ·rw [h3] at he;cases he
theorem xK (T:Txt w K mg t):Bb P w K mg base CX0 5 t.Pe t.Re ["plan","name","turn"] (IE t):=by
 refine (sF T).quiet fun vs H Q E h=>?_
 obtain ⟨pl,c,ds,z,sp,i,d,turn,rfl,PA,D,hz,R,hd,q⟩:=h
 exact ⟨pl,c,9,ds,z,sp,d.name,turn,rfl,PA,by omega,D.small (List.mem_of_getElem? hd),.inl ⟨i,d,_,hd,rfl,(VE (by omega) D R hd turn).1,q⟩⟩
theorem DK (T:Txt w K mg t):Bb P w K mg base CX0 5 t.Ah t.Hh ["plan","name"] (aF t):=by
 refine (zE T).quiet fun vs H Q E h=>?_
 obtain ⟨pl,c,ds,z,sp,i,d,rfl,PA,D,hz,R,hd,q⟩:=h
 have b:=YE (by omega) D R hd
 refine ⟨pl,c,9,ds,z,sp,d.name,rfl,PA,by omega,D.small (List.mem_of_getElem? hd),.inl ⟨i,d,_,hd,rfl,b.1,?_⟩⟩
 rw [b.2]
 exact q
theorem vH (T:Txt w K mg t):Bb P w K mg base CX0 6 t.rf t.xf ["_law_plan","_law_by_turn"] (bB t):=by
 have GX_next_free:Bb P w K mg base (CX1 P w) 5 t.Pe t.Re ["plan","name","turn"] (FF t):=sF T
 have GX_longest:Bb P w K mg base (CX1 P w) 5 t.Ah t.Hh ["plan","name"] (ZE t):=zE T
 refine T.ff.ok se (fun vs H Q E h=>?_) (fun cdv A outer s H vs Q E hr h=>?_)
 ·obtain ⟨pl,c,ds,z,sp,by_,rfl,_⟩:=h;rfl
 obtain ⟨pl,c,ds,z,sp,by_,rfl,PA,hz,hs,q⟩:=h
 refine ⟨_,(cb (Db (i:=2) se.nd rfl (Or.inl rfl) ix)
   (cb (gG (i:=3) (fun _ _=>⟨_,(gb (re (ph (pv 1)) (gb (kc (Qw GX_next_free hr rfl T.io T.Ph.kp T.Uo .nil BA (bb (pv 0) (bb Cc (bb pb fb)))))) (gb (kc (Qw GX_longest hr rfl T.Ys T.Ll.kp T.uu .nil BA (bb (pv 0) (bb Cc fb))))))),by first | rfl | (dsimp only [Cx.tr,Cx.hn];done) | (dsimp only [Cx.tr,Cx.hn];exact rfl)⟩) rfl T.LB (fun _=>⟨_,(gb (Db (i:=2) se.nd rfl (Or.inl rfl) (pH (pv 3) rfl))),by first | rfl | (dsimp only [Cx.tr,Cx.hn];done) | (dsimp only [Cx.tr,Cx.hn];exact rfl)⟩) se.nd rfl rfl)
   (gb (Fb (Ke Di (pv 2) Cc (dc _)))))),?_⟩
 (walk_at "RD")
 refine Ub by_ (fun Q hQ=>?_) (fun hb=>?_) (fun hb=>?_)
 ·(walk_at "RD")
  exact hQ
 ·(walk_at "RD")
  refine ⟨pl,c,9,ds,z,sp,_,3,rfl,PA,by omega,Xt,.inr ⟨hs,fun dx H' sm _ hd=>?_⟩⟩
  (walk_at "RD")
  refine ⟨_,rfl,T.Gj,fun e he=>?_⟩
  (walk_at "RD")
  refine ⟨_,_,he,_,hd,T.Ao,T.Xh,_,rfl,rfl,?_⟩
  rw [decide_eq_true rfl]
  exact q H' sm
 ·(walk_at "RD")
  refine ⟨pl,c,9,ds,z,sp,_,rfl,PA,by omega,Xt,.inr ⟨hs,fun dx H' sm _ hd=>?_⟩⟩
  (walk_at "RD")
  refine ⟨_,rfl,T.Gj,fun e he=>?_⟩
  (walk_at "RD")
  refine ⟨_,_,he,_,hd,T.Ao,T.Xh,_,rfl,rfl,?_⟩
  rw [decide_eq_true rfl]
  exact q H' sm
end
end My
namespace My
open PySem L2
section
variable {P:Program} {w:World} {K:PySem.W.Frag} {mg:Str→Option Value} {base:Heap} {t:Adr}
theorem fK (T:Txt w K mg t):Bb P w K mg base CX0 8 t.VH t.FC ["_law_script"] (EI K):=by
 refine T.tL.ok Kd (fun vs H Q E h=>?_) (fun cdv A outer s H vs Q E hr h=>?_)
 ·obtain ⟨a,ns,rfl,_⟩:=h;rfl
 obtain ⟨a,ns,rfl,S0,h63,q⟩:=h
 have G__law_draw:Bb P w K mg base CX0 7 t.qg t.ig ["_law_script","_law_k","_law_many"] (me K a ns):=(uz T a ns h63).mono (by decide)
 have G__law_rows:Bb P w K mg base CX0 7 t.Yh t.Vh ["_law_script","_law_name","_law_base","_law_size"] (bx K a ns):=(iE T a ns h63).mono (by decide)
 have G__law_wait:Bb P w K mg base CX0 7 t.ug t.yg ["_law_size","_law_rows_here","_law_name","_law_turn"] (Sr K):=(Xw T).mono (by decide)
 have G__law_whole:Bb P w K mg base CX0 7 t.Bg t.Yg ["_law_found","_law_due"] Ut:=(Zy T).mono (by decide)
 have G__law_longest:Bb P w K mg base CX0 7 t.lf t.zf ["_law_size","_law_rows_here","_law_name"] (Dw K):=(YC T).mono (by decide)
 have G__law_refused:Bb P w K mg base CX0 7 t.rf t.xf ["_law_plan","_law_by_turn"] (bB t):=(vH T).mono (by decide)
 have G_read_crossing:Bb P w K mg base CX0 7 t.ue t.ye ["text"] (dJ t):=rL T
 have G_made_plan:Bb P w K mg base CX0 7 t.dg t.gg ["crossing","size","rows"] (WE t):=(YI T).mono (by decide)
 have G_next_free:Bb P w K mg base CX0 7 t.Pe t.Re ["plan","name","turn"] (IE t):=(xK T).mono (by decide)
 have G_longest:Bb P w K mg base CX0 7 t.Ah t.Hh ["plan","name"] (aF t):=(DK T).mono (by decide)
 refine ⟨_,(cb (Db (i:=1) Kd.nd rfl (Or.inl rfl) (ck fb))
   (cb (Db (i:=2) Kd.nd rfl (Or.inl rfl) (Ke Di (ub G__law_draw hr rfl T.uc T.Qb.kp T.nc .nil Ab (bb (pv 0) (bb pb (bb pb fb)))) pb (dc _)))
   (cb (wd PassesOwn.never rfl (Id rfl T.Qe (bb (Ib kd pb (ub G__law_draw hr rfl T.uc T.Qb.kp T.nc .nil Ab (bb (pv 0) (bb pb (bb pb fb))))) fb)) (wb (i:=3) Kd.nd rfl (Or.inl rfl)) (cb (Db (i:=4) Kd.nd rfl (Or.inl rfl) (Cd Ld (ck (bb Cc (bb Cc (bb Cc fb)))) (ub G__law_draw hr rfl T.uc T.Qb.kp T.nc .nil Ab (bb (pv 0) (bb (Ib kd pb (pv 3)) (bb pb fb)))) (fun _ _=>rfl)))
   (gb (kc (Ft PySem.F.plainAttrs_list PySem.F.slot_list_append PySem.F.type_list_append Oi (pv 1) (bb (Rk (bb (pv 4) (bb (Ib Dd (Cd nF Cc (pv 3) (fun _ _=>rfl)) (Uw sJ Cc RA (Wz (ub G__law_draw hr rfl T.uc T.Qb.kp T.nc .nil Ab (bb (pv 0) (bb pb (bb pb fb))))))) (bb (ub G__law_draw hr rfl T.uc T.Qb.kp T.nc .nil Ab (bb (pv 0) (bb (Ib kd pb (pv 3)) (bb pb fb)))) fb)))) fb))))))
   (cb (re (ph (pv 2)) (gb (jo (Rk (bb Cc (bb (Cd ve (Cd Ld (pv 1) pb (fun _ _=>rfl)) pb (fun _ _=>rfl)) (bb pb fb)))) (gu (pv 1) pb Nl))) fc)
   (cb (Db (i:=5) Kd.nd rfl (Or.inl rfl) Cc)
   (cb (wd PassesOwn.never rfl (Id rfl T.Qe (bb (ic ac rfl T.Wl Lc (bb (pv 1) fb)) fb)) (wb (i:=3) Kd.nd rfl (Or.inl rfl)) (cb (Db (i:=6) Kd.nd rfl (Or.inl rfl) (Ib Dd (Ib Dd (Ib Dd (Ib Dd Cc (Vk Gi rfl T.CH Sl (bb (Ib kd (pv 3) pb) fb))) Cc) (Vk Gi rfl T.CH Sl (bb (Cd ve (Cd Ld (pv 1) (pv 3) (fun _ _=>rfl)) pb (fun _ _=>rfl)) fb))) Cc))
   (gb (Db (i:=5) Kd.nd rfl (Or.inl rfl) (Ib Dd (Ib Dd (Ib Dd (Ib Dd (Ib Dd (pv 5) Cc) (Cd ve (Cd Ld (pv 1) (pv 3) (fun _ _=>rfl)) pb (fun _ _=>rfl))) Cc) (Cd ve (Cd Ld (pv 1) (pv 3) (fun _ _=>rfl)) pb (fun _ _=>rfl))) (pv 6))))))
   (cb (Db (i:=7) Kd.nd rfl (Or.inl rfl) (ub G_read_crossing hr rfl T.yo T.lg.kp T.jp .nil Ab (bb (pv 5) fb)))
   (cb (Db (i:=8) Kd.nd rfl (Or.inl rfl) (Ib kd pb (ub G__law_draw hr rfl T.uc T.Qb.kp T.nc .nil Ab (bb (pv 0) (bb pb (bb pb fb))))))
   (cb (re (Xb Di (ub G__law_draw hr rfl T.uc T.Qb.kp T.nc .nil Ab (bb (pv 0) (bb pb (bb pb fb)))) pb (dc _)) (gb (Db (i:=8) Kd.nd rfl (Or.inl rfl) (Ib kd pb (ub G__law_draw hr rfl T.uc T.Qb.kp T.nc .nil Ab (bb (pv 0) (bb pb (bb pb fb))))))) fc)
   (cb (Db (i:=9) Kd.nd rfl (Or.inl rfl) (ck fb))
   (cb (wd PassesOwn.never rfl (Id rfl T.Qe (bb (ic ac rfl T.Wl Lc (bb (pv 1) fb)) fb)) (wb (i:=3) Kd.nd rfl (Or.inl rfl)) (gb (re (PW.pt (Fw (ph (pv 2)) (Ss (Xb Di (pv 3) pb (dc _))))) (gb (kc (Ft PySem.F.plainAttrs_list PySem.F.slot_list_append PySem.F.type_list_append Oi (pv 9) (bb (Rk (bb (Cd ve (Cd Ld (pv 1) (pv 3) (fun _ _=>rfl)) pb (fun _ _=>rfl)) (bb (ub G__law_draw hr rfl T.uc T.Qb.kp T.nc .nil Ab (bb (pv 0) (bb pb (bb (pv 8) fb)))) (bb (pv 8) fb)))) fb)))) (gb (Db (i:=9) Kd.nd rfl (Or.inl rfl) (Ib aK (pv 9) (ub G__law_rows hr rfl T.Ju T.Fk.kp T.Hv .nil Ab (bb (pv 0) (bb (Cd ve (Cd Ld (pv 1) (pv 3) (fun _ _=>rfl)) pb (fun _ _=>rfl)) (bb (Ib kd pb (Ib Nm pb (pv 3))) (bb (pv 8) fb)))))))))))
   (cb (Db (i:=10) Kd.nd rfl (Or.inl rfl) (ub G_made_plan hr rfl T.Qv T.rk.kp T.Tu .nil Ab (bb (pv 7) (bb (pv 8) (bb (pv 9) fb)))))
   (cb (wd PassesOwn.never rfl (Sd (pv 1)) (wb (i:=11) Kd.nd rfl (Or.inl rfl)) (cb (Db (i:=12) Kd.nd rfl (Or.inl rfl) (ub G_longest hr rfl T.Ys T.Ll.kp T.uu .nil Ab (bb (pv 10) (bb (Cd ve (pv 11) pb (fun _ _=>rfl)) fb))))
   (cb (Db (i:=13) Kd.nd rfl (Or.inl rfl) (ub G__law_longest hr rfl T.Ip T.lh.kp T.Dp .nil Ab (bb (pv 8) (bb (pv 9) (bb (Cd ve (pv 11) pb (fun _ _=>rfl)) fb)))))
   (cb (re (PW.pt (sv (ql (ph (ic As rfl T.Ui Se (bb (pv 12) (bb (Uu (v:=.ty "tuple") rfl T.AH Ct rfl) fb))))) (uo (Xb dA (ic ac rfl T.Wl Lc (bb (pv 12) fb)) pb (dc _))))) (gb (Fb yq)) fc)
   (cb (re (PW.pt (sv (ql (ph (ub G__law_whole hr rfl T.Pi T.Ff.kp T.dj .nil Ab (bb (Cd ve (pv 12) pb (fun _ _=>rfl)) (bb (Cd ve (pv 13) pb (fun _ _=>rfl)) fb))))) (uo (ql (ph (ub G__law_whole hr rfl T.Pi T.Ff.kp T.dj .nil Ab (bb (Cd ve (pv 12) pb (fun _ _=>rfl)) (bb (Cd ve (pv 13) pb (fun _ _=>rfl)) fb)))))))) (gb (Fb yq)) fc)
   (gb (wd PassesOwn.never rfl (Id rfl T.Qe (bb (Ib kd pb (ic (vt rfl) rfl T.WG Yq (bb pb (bb (ic ac rfl T.Wl Lc (bb (pv 0) fb)) fb)))) fb)) (wb (i:=3) Kd.nd rfl (Or.inl rfl)) (cb (Db (i:=14) Kd.nd rfl (Or.inl rfl) (ub G__law_draw hr rfl T.uc T.Qb.kp T.nc .nil Ab (bb (pv 0) (bb (Ib kd pb (pv 3)) (bb (Ib Nm pb (pv 8)) fb)))))
   (cb (re (PW.pt (Fw (Xb Di (Ib Ae (pv 3) pb) pb (dc _)) (Ss (Xb Oy (ic ac rfl T.Wl Lc (bb (pv 0) fb)) pb (dc _))))) (gb (Db (i:=14) Kd.nd rfl (Or.inl rfl) (Ib Ae (Cd Ld (pv 0) (Ib Ae (pv 3) (ic ac rfl T.Wl Lc (bb (pv 0) fb))) (fun _ _=>rfl)) (Ib lK pb pb)))) fc)
   (cb (Db (i:=15) Kd.nd rfl (Or.inl rfl) (ub G__law_wait hr rfl T.Jo T.Lh.kp T.So .nil Ab (bb (pv 8) (bb (pv 9) (bb (Cd ve (pv 11) pb (fun _ _=>rfl)) (bb (pv 14) fb))))))
   (gb (re (PW.pt (sv (ql (ph (ub G__law_whole hr rfl T.Pi T.Ff.kp T.dj .nil Ab (bb (ub G_next_free hr rfl T.io T.Ph.kp T.Uo .nil Ab (bb (pv 10) (bb (Cd ve (pv 11) pb (fun _ _=>rfl)) (bb (pv 14) fb)))) (bb (Ib kd (pv 14) (pv 15)) fb))))) (uo (Xb Oy (pv 15) (Cd ve (pv 13) pb (fun _ _=>rfl)) (dc _))))) (gb (Fb yq)) fc))))))))))))
   (gb (Fb (Zs (ub G__law_refused hr rfl T.Cj T.ff.kp T.Pj .nil Ab (bb (pv 10) (bb yq fb))) (ir (ub G__law_refused hr rfl T.Cj T.ff.kp T.Pj .nil Ab (bb (pv 10) (bb yq fb)))))))))))))))))))),?_⟩
 have hbig:∀ k:Nat,k ≤ 1000→k ≤ sizeLine:=fun k h=>Nat.le_trans h (by decide)
 have hU:=hr.units
 simp only [Tb]
 refine jd (fun σ' H'=>Sc K a ns H'∧∃ wp,H' wp=some (.lst [])∧σ'=[some (.ref a),some (.ref wp),none,none,none,none,none,none,none,none,none,none,none,none,none,none]) (fun D' hD _ _ _=>?_) ?_
 ·(walk_at "RD")
  exact ⟨Nat.zero_le _,fun wp hwp=>hD _ _ ⟨S0.new hwp,wp,db,rfl⟩⟩
 rintro σ1 H1 ⟨S1,wp,hw1,rfl⟩
 obtain ⟨al,hal⟩:∃ al,al=decide (uq ns 11 8=1):=⟨_,rfl⟩
 simp only [Tb]
 refine jd (fun σ' H'=>H'=H1∧σ'=[some (.ref a),some (.ref wp),some (.bl al),none,none,none,none,none,none,none,none,none,none,none,none,none]) (fun D' hD _ _ _=>?_) ?_
 ·(walk_at "RD"; repeat (simp only [me];walk_at "RD"))
  rw [← hal]
  exact ⟨S1,by omega,by omega,by decide,hD _ _ ⟨rfl,rfl⟩⟩
 rintro σ2 H2 ⟨rfl,rfl⟩
 have d1:=Oh ns 1 (m:=2) (by decide)
 have d2:=Uh ns 1 (m:=2) (by decide)
 simp only [Tb]
 refine jd (fun σ' H'=>Sc K a ns H'∧(∃ ds,1 ≤ ds.length∧D17 ds∧LO H' wp (List.map tW ds))∧∃ x3 x4,σ'=[some (.ref a),some (.ref wp),some (.bl al),x3,x4,none,none,none,none,none,none,none,none,none,none,none]) (fun D' hD _ _ _=>?_) ?_
 ·(walk_at "RD"; repeat (simp only [me];walk_at "RD"))
  refine ⟨S1,by omega,by omega,by decide,by omega,by omega,?_⟩
  refine Jh.range (fun i σ H'=>Sc K a ns H'∧(∃ ds,ds.length=i∧D17 ds∧LO H' wp (List.map tW ds))∧∃ x3 x4,σ=[some (.ref a),some (.ref wp),some (.bl al),x3,x4,none,none,none,none,none,none,none,none,none,none,none]) ?_ ?_ ?_
  ·exact ⟨S1,⟨[],rfl,⟨Nat.zero_le _,fun i d h=>by simp at h⟩,⟨[],hw1,LQ.nil _⟩⟩,_,_,rfl⟩
  ·rintro i σ H' hi ⟨S3,⟨ds,hl,D,L⟩,x3,x4,rfl⟩
   have hi2:i < 2:=by omega
   have e1:=Oh ns (2 + (i:Int)) (m:=3) (by decide)
   have e2:=Uh ns (2 + (i:Int)) (m:=3) (by decide)
   have e3:=Oh ns 4 (m:=5) (by decide)
   have e4:=Uh ns 4 (m:=5) (by decide)
   have e5:=Oh ns (5 + (i:Int)) (m:=5) (by decide)
   have e6:=Uh ns (5 + (i:Int)) (m:=5) (by decide)
   simp only [ef,Tb,List.set_cons_succ,List.set_cons_zero,Int.zero_add]
   refine jd (fun σ' H2=>Sc K a ns H2∧Rb H' H2∧∃ k,k < 3∧σ'=[some (.ref a),some (.ref wp),some (.bl al),some (.int (i:Nat)),some (.str (qd k)),none,none,none,none,none,none,none,none,none,none,none]) (fun D' hD _ _ _=>?_) ?_
   ·(walk_at "RD"; repeat (simp only [me];walk_at "RD"))
    exact ⟨by decide,fun p1 hp1=>⟨S3.new hp1,by omega,by omega,by decide,_,SqL.of db,_,BH e1 e2,hD _ _ ⟨S3.new hp1,qb hp1,_,by omega,rfl⟩⟩⟩
   rintro σ4 H4 ⟨S4,s4,k,hk,rfl⟩
   obtain ⟨qs,l1,lq⟩:=L.same s4
   obtain ⟨j,hj⟩:∃ j:Nat,uq ns 4 5=(j:Nat):=⟨(uq ns 4 5).toNat,by omega⟩
   obtain ⟨o,ho⟩:∃ o:Nat,uq ns (5 + (i:Int)) 5=(o:Nat):=⟨(uq ns (5 + (i:Int)) 5).toNat,by omega⟩
   have hsl:∀ j,j < 5→(Txt.slice (Str.ofString "lane") none (some ((j:Nat):Int))).length ≤ 4:=by decide +kernel
   have hsl:=hsl j (by omega)
   (walk_at "RD"; repeat (simp only [me];walk_at "RD"))
   rw [hj,ho]
   refine ⟨.inl ⟨_,SqL.of l1⟩,by decide +kernel,_,IL i hi2,S4,by omega,by omega,by decide,by decide +kernel,hbig _ (by rw [NC];omega),S4,by omega,by omega,by decide,by decide,fun p2 hp2=>?_⟩
   have hwp:wp ≠ p2:=lb l1 hp2
   have L':=LO.snoc (o:=tW ⟨k,wG i j,0,(i:Int) + 1,(o:Int),0,1⟩) l1 lq hp2 (fun xs z=>by cases z) CI
   exact ⟨_,by rw [jb hwp];exact l1,Nat.lt_of_le_of_lt (show (qs.map V.ref).length ≤ 2 by rw [List.length_map,lq.1,List.length_map];omega) (by decide),(S4.new hp2).set (by rw [jb hwp];exact l1) (fun ob z e=>by cases e),⟨ds ++ [⟨k,wG i j,0,(i:Int) + 1,(o:Int),0,1⟩],by rw [List.length_append,hl];rfl,D.snoc (by omega) ⟨k,j,o,hk,by omega,by omega,by rw [hl]⟩,by rw [List.map_append];exact L'⟩,by repeat (first | exact ⟨_,rfl⟩ | refine ⟨⟨_,rfl⟩,?_⟩)⟩
  ·rintro σ H' ⟨S3,⟨ds,hl,D,L⟩,x3,x4,rfl⟩
   exact hD _ _ ⟨S3,⟨ds,by omega,D,L⟩,_,_,rfl⟩
 rintro σ3 H3 ⟨S3,⟨ds,hl,D,L⟩,x3,x4,rfl⟩
 simp only [Tb]
 refine jd (fun σ' H'=>Sc K a ns H'∧(∃ ds,1 ≤ ds.length∧D17 ds∧LO H' wp (List.map tW ds)∧(al=true→∃ d,ds[0]? = some d∧d.k=1∧d.off=0))∧σ'=[some (.ref a),some (.ref wp),some (.bl al),x3,x4,none,none,none,none,none,none,none,none,none,none,none]) (fun D' hD _ _ _=>?_) ?_
 ·refine Ub al (fun Q hQ=>?_) (fun c=>?_) (fun c=>?_)
  ·(walk_at "RD")
   exact hQ
  ·have h0:ds[0]? = some ds[0]:=List.getElem?_eq_getElem (by omega)
   obtain ⟨qs,l1,lq⟩:=id L
   have hql:qs.length=ds.length:=by rw [lq.1,List.length_map]
   have hq0:qs[0]? = some (qs[0]'(by omega)):=List.getElem?_eq_getElem _
   have k3:H3 (qs[0]'(by omega))=some (.tup [.str (qd ds[0].k),.str ds[0].name,.int ds[0].off]):=lq.2 0 _ (tW ds[0]) hq0 (by rw [List.getElem?_map,h0];rfl)
   have k2:atI (qs.map V.ref) ((0:Nat):Int)=some (.ref (qs[0]'(by omega))):=gc (by rw [List.getElem?_map,hq0];rfl)
   generalize qs[0]'(by omega)=q0 at hq0 k3 k2
   (walk_at "RD")
   refine ⟨_,SqL.of l1,_,k2,_,rfl,_,SqT.of k3,_,vE _,by decide,fun p2 hp2=>?_⟩
   have hwp:wp ≠ p2:=lb l1 hp2
   refine ⟨_,by rw [jb hwp];exact l1,0,by rw [List.length_map];exact ix0 (by omega),hD _ _ ⟨(S3.new hp2).set (by rw [jb hwp];exact l1) (fun ob z e=>by cases e),⟨ds.set 0 ⟨1,ds[0].name,ds[0].start,ds[0].fin,0,ds[0].near,ds[0].least⟩,by rw [List.length_set];exact hl,D.foot h0,⟨qs.set 0 p2,?_,?_⟩,fun _=>⟨_,List.getElem?_set_self (by omega),rfl,rfl⟩⟩,rfl⟩⟩
   ·rw [db,List.map_set]
   ·rw [List.map_set]
    refine LQ.setq ⟨lq.1,fun i q u hq hu=>?_⟩ (by rw [jb hwp.symm,db];rfl)
    have e:=lq.2 i q u hq hu
    rw [jb (Yf e l1 (CI u (List.mem_of_getElem? hu) _)),jb (lb e hp2)]
    exact e
  ·(walk_at "RD")
   exact hD _ _ ⟨S3,⟨ds,hl,D,L,fun z=>absurd (c.symm.trans z) (by decide)⟩,rfl⟩
 clear D L hl ds S3
 rintro σ4 H4 ⟨S4,⟨ds,hl,D,L,hal0⟩,rfl⟩
 have hC:=D.cok hl
 have hl2:=D.1
 simp only [Tb]
 refine jd (fun σ' H'=>H'=H4∧σ'=[some (.ref a),some (.ref wp),some (.bl al),x3,x4,some (.str (Str.ofString "ring 9")),none,none,none,none,none,none,none,none,none,none]) (fun D' hD _ _ _=>?_) ?_
 ·(walk_at "RD")
  exact hD _ _ ⟨rfl,rfl⟩
 rintro σ5 H5 ⟨rfl,rfl⟩
 simp only [Tb]
 refine jd (fun σ' H'=>H'=H5∧∃ x3 x6,σ'=[some (.ref a),some (.ref wp),some (.bl al),x3,x4,some (.str (Wd 9 ds)),x6,none,none,none,none,none,none,none,none,none]) (fun D' hD _ _ _=>?_) ?_
 ·obtain ⟨qs,l1,lq⟩:=id L
  have hql:qs.length=ds.length:=by rw [lq.1,List.length_map]
  (walk_at "RD")
  refine ⟨_,.inl (SqL.of l1),?_⟩
  rw [List.length_map,hql]
  refine ⟨by omega,by omega,?_⟩
  refine Jh.range (fun i σ H'=>H'=H5∧(Wd 9 (ds.take i)).length ≤ 10 + 50 * i∧∃ x3 x6,σ=[some (.ref a),some (.ref wp),some (.bl al),x3,x4,some (.str (Wd 9 (ds.take i))),x6,none,none,none,none,none,none,none,none,none]) ?_ ?_ ?_
  ·refine ⟨rfl,?_,x3,none,?_⟩
   ·rw [List.take_zero,xE];decide +kernel
   ·rw [List.take_zero,xE]
  ·rintro i σ H' hi ⟨rfl,hlen,x3,x6,rfl⟩
   have hid:i < ds.length:=by omega
   have hd:ds[i]? = some ds[i]:=List.getElem?_eq_getElem hid
   obtain ⟨qs',q0,k1,k2,k3,k4⟩:=LW17.at L hd
   obtain ⟨k,j,o,g1,g2,g3,ed⟩:=D.2 i _ hd
   have z1:(qd ds[i].k).length ≤ 8:=(Hq ds[i].k).1
   have z2:ds[i].name.length ≤ 8:=(Lq ((D.2 i _ hd).ok (by omega)).nm).1
   have z3:(Str.ofString (toString ((i:Int) + 1))).length ≤ 8:=(Df (v:=(i:Int) + 1) (by omega) (by omega)).1
   have z4:(Str.ofString (toString ds[i].off)).length ≤ 8:=(Df (v:=ds[i].off) (by rw [ed];dsimp only;omega) (by rw [ed];dsimp only;omega)).1
   have z3':(num ((i:Int) + 1)).length ≤ 8:=z3
   have z4':(num ds[i].off).length ≤ 8:=z4
   have hof:0 ≤ ds[i].off∧ds[i].off ≤ 4:=by rw [ed];exact ⟨by dsimp only;omega,by dsimp only;omega⟩
   have y1:(Str.ofString " 0 ").length=3:=by decide +kernel
   have y2:(Str.ofString " ").length=1:=by decide +kernel
   have y3:(Str.ofString " 0 1").length=4:=by decide +kernel
   have y4:(Str.ofString "\n").length=1:=by decide +kernel
   have enx:Wd 9 (ds.take (i + 1))=((((Wd 9 (ds.take i) ++ Str.ofString "\n") ++ qd ds[i].k) ++ Str.ofString " ") ++ ds[i].name) ++ ((((Str.ofString " 0 " ++ num ((i:Int) + 1)) ++ Str.ofString " ") ++ num ds[i].off) ++ Str.ofString " 0 1"):=by
    rw [xg hd,ed]
    exact tH _ _ _ _ _
   simp only [ef,Tb,List.set_cons_succ,List.set_cons_zero,Int.zero_add]
   refine jd (fun σ' H2=>H2=H'∧σ'=[some (.ref a),some (.ref wp),some (.bl al),some (.int (i:Nat)),x4,some (.str (Wd 9 (ds.take i))),some (.str ((((Str.ofString " 0 " ++ num ((i:Int) + 1)) ++ Str.ofString " ") ++ num ds[i].off) ++ Str.ofString " 0 1")),none,none,none,none,none,none,none,none,none]) (fun D' hD _ _ _=>?_) ?_
   ·(walk_at "RD")
    exact ⟨Vr (by omega),hbig _ (by omega),hbig _ (by simp only [kh];omega),_,SqL.of k1,_,k2,_,rfl,_,SqT.of k3,_,WM _,_,rfl,Vr (by omega),hbig _ (by simp only [kh];omega),hbig _ (by simp only [kh];omega),hD _ _ ⟨rfl,rfl⟩⟩
   rintro σ6 H6 ⟨rfl,rfl⟩
   (walk_at "RD")
   refine ⟨hbig _ (by omega),_,SqL.of k1,_,k2,_,rfl,_,SqT.of k3,_,TM _,_,rfl,hbig _ (by simp only [kh];omega),hbig _ (by simp only [kh];omega),_,SqL.of k1,_,k2,_,rfl,_,SqT.of k3,_,vE _,_,rfl,hbig _ (by simp only [kh];omega),hbig _ (by simp only [kh];omega),?_,enx.symm,_,rfl⟩
   rw [enx]
   simp only [kh]
   omega
  ·rintro σ H' ⟨rfl,hlen,x3,x6,rfl⟩
   rw [Int.toNat_natCast,List.take_length]
   exact hD _ _ ⟨rfl,_,_,rfl⟩
 rintro σ6 H6 ⟨rfl,x3,x6,rfl⟩
 simp only [Tb]
 refine jd (fun σ' H'=>Sc K a ns H'∧Rb H6 H'∧∃ c,Gc t H' c 9 ds∧σ'=[some (.ref a),some (.ref wp),some (.bl al),x3,x4,some (.str (Wd 9 ds)),x6,some (.ref c),none,none,none,none,none,none,none,none]) (fun D' hD _ _ _=>?_) ?_
 ·(walk_at "RD")
  exact ⟨9,ds,rfl,hC,S4.nt,fun c H' s1 n1 C=>hD _ _ ⟨S4.same s1 n1,s1,c,C,rfl⟩⟩
 rintro σ7 H7 ⟨S7,s7,c,C,rfl⟩
 have L7:=L.same s7
 have d3:=Oh ns 7 (m:=41) (by decide)
 have d4:=Uh ns 7 (m:=41) (by decide)
 have d5:=Oh ns 9 (m:=61) (by decide)
 have d6:=Uh ns 9 (m:=61) (by decide)
 simp only [Tb]
 refine jd (fun σ' H'=>H'=H7∧σ'=[some (.ref a),some (.ref wp),some (.bl al),x3,x4,some (.str (Wd 9 ds)),x6,some (.ref c),some (.int (20 + uq ns 7 41)),none,none,none,none,none,none,none]) (fun D' hD _ _ _=>?_) ?_
 ·(walk_at "RD"; repeat (simp only [me];walk_at "RD"))
  exact ⟨S7,by omega,by omega,by decide,hD _ _ ⟨rfl,rfl⟩⟩
 rintro σ8 H8 ⟨rfl,rfl⟩
 simp only [Tb]
 refine jd (fun σ' H'=>H'=H8∧∃ z:Nat,(20 ≤ z∧z ≤ 240)∧σ'=[some (.ref a),some (.ref wp),some (.bl al),x3,x4,some (.str (Wd 9 ds)),x6,some (.ref c),some (.int z),none,none,none,none,none,none,none]) (fun D' hD _ _ _=>?_) ?_
 ·refine Ub (decide (uq ns 8 8=1)) (fun Q hQ=>?_) (fun cc=>?_) (fun cc=>?_)
  ·(walk_at "RD"; repeat (simp only [me];walk_at "RD"))
   exact ⟨S7,by omega,by omega,by decide,hQ⟩
  ·(walk_at "RD"; repeat (simp only [me];walk_at "RD"))
   exact ⟨S7,by omega,by omega,by decide,hD _ _ ⟨rfl,(180 + uq ns 9 61).toNat,by omega,by rw [Int.toNat_of_nonneg (by omega)]⟩⟩
  ·(walk_at "RD")
   exact hD _ _ ⟨rfl,(20 + uq ns 7 41).toNat,by omega,by rw [Int.toNat_of_nonneg (by omega)]⟩
 rintro σ9 H9 ⟨rfl,z,hz,rfl⟩
 simp only [Tb]
 refine jd (fun σ' H'=>Sc K a ns H'∧Rb H9 H'∧∃ rp,H9 rp=none∧H' rp=some (.lst [])∧σ'=[some (.ref a),some (.ref wp),some (.bl al),x3,x4,some (.str (Wd 9 ds)),x6,some (.ref c),some (.int z),some (.ref rp),none,none,none,none,none,none]) (fun D' hD _ _ _=>?_) ?_
 ·(walk_at "RD")
  exact ⟨Nat.zero_le _,fun rp hrp=>hD _ _ ⟨S7.new hrp,qb hrp,rp,hrp,db,rfl⟩⟩
 rintro σ10 H10 ⟨S10,s10,rp,hrp,w10,rfl⟩
 simp only [Tb]
 refine jd (fun σ' H'=>Sc K a ns H'∧Rb H9 H'∧∃ rp sp x3,LO H' rp (List.map sdO sp)∧R17 z ds ds.length sp∧σ'=[some (.ref a),some (.ref wp),some (.bl al),x3,x4,some (.str (Wd 9 ds)),x6,some (.ref c),some (.int z),some (.ref rp),none,none,none,none,none,none]) (fun D' hD _ _ _=>?_) ?_
 ·obtain ⟨qs,l1,lq⟩:=id (L7.same s10)
  have hql:qs.length=ds.length:=by rw [lq.1,List.length_map]
  (walk_at "RD")
  refine ⟨_,.inl (SqL.of l1),?_⟩
  rw [List.length_map,hql]
  refine ⟨by omega,by omega,?_⟩
  refine Jh.range (fun i σ H'=>Sc K a ns H'∧Rb H9 H'∧∃ rq sp x3,LO H' rq (List.map sdO sp)∧(i=0→rq=rp∧sp=[])∧R17 z ds i sp∧σ=[some (.ref a),some (.ref wp),some (.bl al),x3,x4,some (.str (Wd 9 ds)),x6,some (.ref c),some (.int z),some (.ref rq),none,none,none,none,none,none]) ?_ ?_ ?_
  ·exact ⟨S10,s10,rp,[],_,⟨[],w10,LQ.nil _⟩,fun _=>⟨rfl,rfl⟩,R17.nil z ds,rfl⟩
  ·rintro i σ H' hi ⟨S11,s11,rq,sp,x3,L11,h0,R,rfl⟩
   have hid:i < ds.length:=by omega
   have hd:ds[i]? = some ds[i]:=List.getElem?_eq_getElem hid
   obtain ⟨qs',q0,k1,k2,k3,k4⟩:=LW17.at (L7.same s11) hd
   have g1:=Oh ns 12 (m:=z) (by omega)
   have g2:=Uh ns 12 (m:=z) (by omega)
   simp only [ef,Tb,List.set_cons_succ,List.set_cons_zero,Int.zero_add]
   refine Ub (al && decide (i=0)) (fun Q hQ=>?_) (fun cc=>?_) (fun cc=>?_)
   ·(walk_at "RD")
    by_cases ca:al=true
    ·rw [if_pos ca,show decide (((i:Nat):Int)=0)=decide (i=0) by rw [Bool.eq_iff_iff,decide_eq_true_eq,decide_eq_true_eq];omega]
     rw [ca,Bool.true_and] at hQ
     exact hQ
    ·rw [if_neg ca]
     rw [show al=false by simpa using ca,Bool.false_and] at hQ
     exact hQ
   ·rw [Bool.and_eq_true,decide_eq_true_eq] at cc
    obtain ⟨c1,rfl⟩:=cc
    obtain ⟨rfl,rfl⟩:=h0 rfl
    obtain ⟨d,hd0,hk0,ho0⟩:=hal0 c1
    rw [hd] at hd0
    cases hd0
    obtain ⟨os,w11,lq11⟩:=L11
    have hos0:os.length=0:=lq11.1
    (walk_at "RD"; repeat (simp only [me];walk_at "RD"))
    refine ⟨.inl ⟨_,SqL.of w11⟩,_,SqL.of k1,_,k2,_,rfl,_,SqT.of k3,_,vE _,S11,by omega,by omega,by omega,by decide,fun p2 hp2=>?_⟩
    have hwp:rq ≠ p2:=lb w11 hp2
    have L':=LO.snoc (o:=sdO ⟨ds[0].name,uq ns 12 z,z⟩) w11 lq11 hp2 (fun xs z=>by cases z) MI
    exact ⟨_,by rw [jb hwp];exact w11,Nat.lt_of_le_of_lt (show (os.map V.ref).length ≤ 2 by rw [List.length_map];omega) (by decide),(S11.new hp2).set (by rw [jb hwp];exact w11) (fun ob z e=>by cases e),(s11.trans (qb hp2)).updN hrp,rq,[⟨ds[0].name,uq ns 12 z,z⟩],L',fun z=>z.elim,R.app D hd (lH hz.1 (D.wof hd) ⟨hk0,ho0⟩ ⟨g1,g2⟩) ⟨by show 1 ≤ 1;decide,by show 1 ≤ 3;decide⟩ (fun s hs=>by rw [List.mem_singleton.mp hs]),rfl⟩
   ·(walk_at "RD")
    refine ⟨_,SqL.of k1,_,k2,_,rfl,_,SqT.of k3,_,vE _,.inl ⟨by omega,by omega⟩,ds[i].name,20 + 10 * (i:Int),z,rfl,S11,by omega,by omega,fun p2 sp2 H2 s2 S2 L2 R2=>?_⟩
    obtain ⟨os,w11,lq11⟩:=L11.same s2
    obtain ⟨os2,w2,lq2⟩:=L2
    have r1:=R.len
    have r2:=R2.one
    have o1:os.length=sp.length:=by rw [lq11.1,List.length_map]
    have o2:os2.length=sp2.length:=by rw [lq2.1,List.length_map]
    refine ⟨_,rfl,_,w11,_,w2,hbig _ (by rw [List.length_map,List.length_map];omega),fun p3 hp3=>⟨S2.new hp3,(s11.trans s2).trans (qb hp3),p3,sp ++ sp2,⟨os ++ os2,by rw [db,List.map_append],by rw [List.map_append];exact (lq11.app lq2).same (qb hp3)⟩,fun z=>z.elim,R.app D hd (R2.sp hz.1 (D.wof hd) (D.2 i _ hd).room) r2.1 r2.2,rfl⟩⟩
  ·rintro σ H' ⟨S11,s11,rq,sp,x3,L11,h0,R,rfl⟩
   rw [Int.toNat_natCast] at R
   exact hD _ _ ⟨S11,s11,rq,sp,_,L11,R,rfl⟩
 clear S10 s10 w10 hrp rp
 rintro σ11 H11 ⟨S11,s11,rp,sp,x3,L11,R,rfl⟩
 have C11:=C.same s11
 have W11:=L7.same s11
 simp only [Tb]
 refine jd (fun σ' H'=>Sc K a ns H'∧Rb H11 H'∧∃ pl,yi t H' pl c 9 ds z sp∧σ'=[some (.ref a),some (.ref wp),some (.bl al),x3,x4,some (.str (Wd 9 ds)),x6,some (.ref c),some (.int z),some (.ref rp),some (.ref pl),none,none,none,none,none]) (fun D' hD _ _ _=>?_) ?_
 ·(walk_at "RD")
  exact ⟨c,ds,z,rp,sp,rfl,C11,D,hz,L11,R,S11.nt,fun pl H' s1 n1 PA=>hD _ _ ⟨S11.same s1 n1,s1,pl,PA,rfl⟩⟩
 rintro σ12 H12 ⟨S12,s12,pl,PA,rfl⟩
 have L12:=L11.same s12
 have W12:=W11.same s12
 simp only [Tb]
 refine jd (fun σ' H'=>Sc K a ns H'∧Rb H12 H'∧∃ x3 x11 x12 x13 x14 x15,σ'=[some (.ref a),some (.ref wp),some (.bl al),x3,x4,some (.str (Wd 9 ds)),x6,some (.ref c),some (.int z),some (.ref rp),some (.ref pl),x11,x12,x13,x14,x15]) (fun D' hD _ _ _=>?_) ?_
 ·obtain ⟨qs,l1,lq⟩:=id W12
  have hql:qs.length=ds.length:=by rw [lq.1,List.length_map]
  (walk_at "RD")
  refine ⟨⟨_,SqL.of l1⟩,?_⟩
  refine Jh.list (xs:=qs.map V.ref) (fun i σ H'=>Sc K a ns H'∧Rb H12 H'∧∃ x3 x11 x12 x13 x14 x15,σ=[some (.ref a),some (.ref wp),some (.bl al),x3,x4,some (.str (Wd 9 ds)),x6,some (.ref c),some (.int z),some (.ref rp),some (.ref pl),x11,x12,x13,x14,x15]) ?_ ?_ ?_ ?_
  ·exact ⟨S12,Rb.refl _,_,_,_,_,_,_,rfl⟩
  ·rintro i σ H' hi ⟨_,sm,_⟩
   exact SqL.of (sm _ _ l1)
  ·rintro i v σ H' hv ⟨S13,s13,x3,x11,x12,x13,x14,x15,rfl⟩
   obtain ⟨qi,hqi,rfl⟩:=Vb hv
   have hid:i < ds.length:=by rw [← hql];exact (List.getElem?_eq_some_iff.mp hqi).1
   have hd:ds[i]? = some ds[i]:=List.getElem?_eq_getElem hid
   have ht:=s13 _ _ (lq.2 i qi (tW ds[i]) hqi (by rw [List.getElem?_map,hd];rfl))
   have PA13:=PA.same s13
   have L13:=L12.same s13
   obtain ⟨bm,hbm⟩:∃ bm,bm=ae (wtN z ds[i].name sp) z z:=⟨_,rfl⟩
   simp only [ef,Tb,List.set_cons_succ,List.set_cons_zero]
   refine jd (fun σ' H2=>Sc K a ns H2∧Rb H' H2∧∃ fo,H2 fo=some (.tup [.int bm.1,.int (bm.2:Nat)])∧σ'=[some (.ref a),some (.ref wp),some (.bl al),x3,x4,some (.str (Wd 9 ds)),x6,some (.ref c),some (.int z),some (.ref rp),some (.ref pl),some (.ref qi),some (.ref fo),x13,x14,x15]) (fun D' hD _ _ _=>?_) ?_
   ·(walk_at "RD")
    refine ⟨_,SqT.of ht,_,vE _,pl,c,ds,z,sp,i,ds[i],rfl,PA13,D,hz,R,hd,fun fo hfo=>?_⟩
    rw [← hbm]
    exact hD _ _ ⟨S13.new hfo,qb hfo,fo,db,rfl⟩
   rintro σ14 H14 ⟨S14,s14,fo,hfo,rfl⟩
   simp only [Tb]
   refine jd (fun σ' H2=>Sc K a ns H2∧Rb H14 H2∧∃ du,H2 du=some (.tup [.int bm.1,.int (bm.2:Nat)])∧σ'=[some (.ref a),some (.ref wp),some (.bl al),x3,x4,some (.str (Wd 9 ds)),x6,some (.ref c),some (.int z),some (.ref rp),some (.ref pl),some (.ref qi),some (.ref fo),some (.ref du),x14,x15]) (fun D' hD _ _ _=>?_) ?_
   ·(walk_at "RD")
    refine ⟨_,SqT.of (s14 _ _ ht),_,vE _,z,rp,sp,_,rfl,by omega,L13.same s14,fun du H2 s2 n2 hdu=>?_⟩
    rw [← hbm] at hdu
    exact hD _ _ ⟨S14.same s2 (n2 S14.nt),s2,du,hdu,rfl⟩
   rintro σ15 H15 ⟨S15,s15,du,hdu,rfl⟩
   have hfo15:=s15 _ _ hfo
   have ht15:=s15 _ _ (s14 _ _ ht)
   have PA15:=(PA13.same s14).same s15
   have L15:=(L13.same s14).same s15
   have s15':=(s13.trans s14).trans s15
   simp only [Tb]
   refine Ub false (fun Q hQ=>?_) (fun cc=>nomatch cc) (fun _=>?_)
   ·(walk_at "RD")
    refine ⟨_,.tup hfo15,_,oF,?_⟩
    rw [if_neg (by decide)]
    exact ⟨_,.inr (SqT.of hfo15),hQ⟩
   (walk_at "RD")
   refine Ub false (fun Q hQ=>?_) (fun cc=>nomatch cc) (fun _=>?_)
   ·(walk_at "RD")
    refine ⟨_,SqT.of hfo15,_,gc (j:=0) rfl,_,SqT.of hdu,_,gc (j:=0) rfl,bm.1,bm.1,rfl,_,rfl,?_⟩
    rw [decide_eq_true rfl,if_neg (by decide)]
    refine ⟨_,SqT.of hfo15,_,gc (j:=1) rfl,_,SqT.of hdu,_,gc (j:=1) rfl,(bm.2:Nat),(bm.2:Nat),rfl,_,rfl,?_⟩
    rw [decide_eq_true rfl]
    exact hQ
   (walk_at "RD")
   refine ⟨_,.inl S15.seq,?_⟩
   rw [List.length_map]
   refine ⟨by split <;> omega,by split <;> omega,?_⟩
   refine Jh.range (fun j σ H'=>Sc K a ns H'∧Rb H15 H'∧∃ x3 x14 x15,σ=[some (.ref a),some (.ref wp),some (.bl al),x3,x4,some (.str (Wd 9 ds)),x6,some (.ref c),some (.int z),some (.ref rp),some (.ref pl),some (.ref qi),some (.ref fo),some (.ref du),x14,x15]) ?_ ?_ ?_
   ·exact ⟨S15,Rb.refl _,_,_,_,rfl⟩
   ·rintro j σ H' hj ⟨S16,s16,x3,x14,x15,rfl⟩
    have hj12:j < 12:=by split at hj <;> omega
    have ht16:=s16 _ _ ht15
    have PA16:=PA15.same s16
    have L16:=L15.same s16
    have hdu16:=s16 _ _ hdu
    simp only [ef,Tb,List.set_cons_succ,List.set_cons_zero,Int.zero_add]
    refine jd (fun σ' H2=>H2=H'∧∃ tn:Int,σ'=[some (.ref a),some (.ref wp),some (.bl al),some (.int (j:Nat)),x4,some (.str (Wd 9 ds)),x6,some (.ref c),some (.int z),some (.ref rp),some (.ref pl),some (.ref qi),some (.ref fo),some (.ref du),some (.int tn),x15]) (fun D' hD _ _ _=>?_) ?_
    ·(walk_at "RD"; repeat (simp only [me];walk_at "RD"))
     exact ⟨.inl ⟨by decide,by decide⟩,S16,by omega,by omega,by omega,hD _ _ ⟨rfl,_,rfl⟩⟩
    rintro σ2 H2 ⟨rfl,tn0,rfl⟩
    simp only [Tb]
    refine jd (fun σ' H3=>H3=H2∧∃ tn:Int,σ'=[some (.ref a),some (.ref wp),some (.bl al),some (.int (j:Nat)),x4,some (.str (Wd 9 ds)),x6,some (.ref c),some (.int z),some (.ref rp),some (.ref pl),some (.ref qi),some (.ref fo),some (.ref du),some (.int tn),x15]) (fun D' hD _ _ _=>?_) ?_
    ·refine Jn (fun b H3=>H3=H2∧(b=true→0 < ns.length)) (fun Q hQ=>?_) (fun H3 r=>?_) (fun H3 r=>?_)
     ·(walk_at "RD")
      refine ⟨by decide,?_⟩
      by_cases c2:(j:Int) % 2=1
      ·rw [if_pos (decide_eq_true c2)]
       exact ⟨_,.inl S16.seq,hQ _ _ ⟨rfl,fun h=>by have:=of_decide_eq_true h;rw [List.length_map] at this;omega⟩⟩
      ·rw [if_neg (by simpa using c2)]
       exact hQ _ _ ⟨rfl,fun h=>by cases h⟩
     ·obtain ⟨rfl,r⟩:=r
      have hns:=r rfl
      have hlt:=Nat.mod_lt j hns
      have hat:atI (ns.map V.int) ((j:Int) % (ns.length:Int))=some (.int (ns[j % ns.length]'hlt)):=by
       rw [← Int.natCast_emod]
       exact gc (by rw [List.getElem?_map,List.getElem?_eq_getElem hlt];rfl)
      (walk_at "RD")
      refine ⟨_,.inl S16.seq,?_⟩
      rw [List.length_map]
      exact ⟨by omega,_,S16.seq,_,hat,⟨by decide,by decide,by decide⟩,_,rfl,Int.pow_pos (by decide),hD _ _ ⟨rfl,_,rfl⟩⟩
     ·obtain ⟨rfl,_⟩:=r
      (walk_at "RD")
      exact hD _ _ ⟨rfl,_,rfl⟩
    rintro σ3 H3 ⟨rfl,tn,rfl⟩
    have w17:=VE (by omega) D R hd tn
    rw [← hbm] at w17
    simp only [Tb]
    refine jd (fun σ' H4=>H4=H3∧σ'=[some (.ref a),some (.ref wp),some (.bl al),some (.int (j:Nat)),x4,some (.str (Wd 9 ds)),x6,some (.ref c),some (.int z),some (.ref rp),some (.ref pl),some (.ref qi),some (.ref fo),some (.ref du),some (.int tn),some (.int (rg z tn (ofN ds[i].name sp)))]) (fun D' hD _ _ _=>?_) ?_
    ·(walk_at "RD")
     exact ⟨_,SqT.of ht16,_,vE _,z,rp,sp,_,tn,rfl,by omega,L16,hD _ _ ⟨rfl,rfl⟩⟩
    rintro σ4 H4 ⟨rfl,rfl⟩
    dsimp only
    refine Ub false (fun Q hQ=>?_) (fun cc=>nomatch cc) (fun _=>?_)
    ·(walk_at "RD")
     refine ⟨_,SqT.of ht16,_,vE _,pl,c,ds,z,sp,i,ds[i],tn,rfl,PA16,D,hz,R,hd,_,_,rfl,_,rfl,?_⟩
     rw [decide_eq_true rfl,if_neg (by decide)]
     refine ⟨_,SqT.of hdu16,_,gc (j:=0) rfl,_,rfl,?_⟩
     rw [decide_eq_false (by have:=w17.2;omega)]
     exact hQ
    ·(walk_at "RD")
     exact ⟨S16,s16,by repeat (first | exact ⟨_,rfl⟩ | refine ⟨⟨_,rfl⟩,?_⟩)⟩
   ·rintro σ H' ⟨S16,s16,x3,x14,x15,rfl⟩
    exact ⟨S16,s15'.trans s16,_,_,_,_,_,_,rfl⟩
  ·rintro σ H' ⟨S13,s13,x3,x11,x12,x13,x14,x15,rfl⟩
   exact hD _ _ ⟨S13,s13,_,_,_,_,_,_,rfl⟩
 rintro σ13 H13 ⟨S13,s13,x3,x11,x12,x13,x14,x15,rfl⟩
 (walk_at "RD")
 refine ⟨pl,c,ds,z,sp,true,rfl,PA.same s13,hz,D.strange,fun H1 s1=>⟨true,rfl,?_⟩⟩
 rw [if_pos rfl]
 exact ⟨pl,c,ds,z,sp,false,rfl,(PA.same s13).same s1,hz,D.strange,fun H2 s2=>q _⟩
end
end My
inductive PySem.W.Fast:Prop
|tw9985872259843498254|tw253661014173705873|tw9293648164653795485|tw534626768873244324|tw7418941741117793289|tw13835375874980192753|tw5754080106550163763|tw14525046427357998695|tw4881213296042950730|tw7948824252301300236|tw5920123424434646575|tw17936797212311862632|tw3323108244579700957|tw13673208004263143030|tw13529905258484068875|tw1804531256808839781|tw16331872303197119404|tw7291129589359065582|tw4733309551240005620|tw844294828949541275|tw13125897383187707567|tw9774901284457386735|tw5833117554597044763|tw7425546566463455984|tw3080139202234844580|tw492616353244485530|tw9610902922459477323|tw13406816325052349466|tw16608989480399257982|tw7195175782780458629|tw17633250787299905944|tw3221361656293193723|tw10220837727566960052|tw363136781899511638|tw11206790130939382114|tw12527752355982598354|tw1881224589327814331|tw13503164487860206158|tw8312741692457937817|tw12145587987031775966|tw9282110579537652830|tw12984184404324526527|tw2891766382317695602|tw6677968591740688524|tw18445965491131365440|tw12614833266625037090|tw17266715871275422842|tw262540211139487459|tw4341214248299675284|tw4812560155519891479|tw7620952564803143540|tw15541192911191651379|tw13760933613254493177|tw12642121449171638231|tw9276512579844971468|tw8800458595315944373|tw115809092231193428|tw4182401168844557054|tw9257247791392719540|tw15116274082469472355|tw4501547784240238708|tw14410043452101490960|tw18380521491706786574|tw9541061940675421265|tw3855883673060381760|tw9223613014050280234|tw7519309257538900776|tw17564167790111526703|tw11617427091770885893|tw2907926769677407092|tw12779773344345721180|tw14602933810582399426|tw75388709033996200|tw16735163888954228510|tw16855731314324633384|tw8355789954911660757|tw12916214280775578416|tw7097432764773195467|tw2858012855426504694|tw2771460961331744583|tw2413868593988988739|tw6707622842400039724|tw7216289402004930188|tw13951815639206918855|tw15157487739357941822|tw15550552839553312046|tw15226419667466401992|tw11431447381390471586|tw7057308052971720227|tw11642598895220969099|tw13200016136154350024|tw17177810462852155957|tw848800975835852289|tw17128038746934381972|tw13693084730564927311|tw10146432391357153120|tw2869487290484218474|tw9836641569437914481|tw823799780702161742|tw1070077416912284331|tw6028189274610348772|tw11370761374991824982|tw2500170797537916362|tw14306388691385554076|tw1888307896176656274|tw12678535824175264414|tw1432479062330673670|tw6734445201981748590|tw2101676156178536114|tw10997225510451352576|tw10338523963528040447|tw15034538292884111466|tw14475737654564198547|tw14981552643307969756|tw15181660702103696305|tw6314024066962023899|tw9629748112037093658|tw4020792273638281754|tw2532770728471888435|tw1957923197529837116|tw15887560589181798814|tw16542650328246776606|tw3495061926469972868|tw8813111598874648716|tw6590419074504687603|tw14087855052640134378|tw15277836407687880612|tw8776461974802266784|tw14044014912544632820|tw1264500687891036365|tw1003395458264558277|tw14316343187950266312|tw6457192765637942699|tw16137688991024894461|tw17488523843825694827|tw16188374485569328207|tw15496007480360246719|tw1767764286622475615|tw17049898659748915742|tw6566943016463013083|tw9444913710077285159|tw6936514030948772166|tw10313407358604167688|tw17480541838442889183|tw11113207345055861255|tw2846543840570380947|tw8948735458203122011|tw8780340384647825337|tw5470521218380837296|tw10010842447460183477|tw16531623054470627189|tw3007846095927816770|tw6681871181790383370|tw1350561908226120378|tw15479681996438220501|tw9749950210622148978|tw8139367828005399939|tw2093926253131295308|tw18310302353656701814|tw15244177604886555219|tw14688088118446022651|tw11388000685977659772|tw14626778968415266196|tw409799491087125033|tw5507229298144271504|tw8778492848752824809|tw1769956864838619171|tw6263953648024160110|tw11051081723309184550|tw16813610296681796731|tw4678093903013453495|tw14434070110199200313|tw12090056992443258176|tw15261795317836879276|tw17875036200818181867|tw12009143082257159019|tw5822950212862597568|tw4459827740819836934|tw2809486203954304652|tw13142406998561621241|tw7068584704404963208|tw9458031094929942401|tw14803862339141105945|tw12375030218405088431|tw12323760346013685002|tw9262759914117750064|tw11856680292628218499|tw17631750898370923094|tw3136553922101326004|tw1015535548460495314|tw9332043904722290968|tw10719747408617374439|tw4513536512930206226|tw730575013448099565|tw15562907272597894539|tw17196556682937717465|tw5848815992021599084|tw13418015581351100476|tw7679317989070429114|tw10005732427149625883|tw13679840169759928816|tw15092687406115489662|tw15008787740150923953|tw8267120105729455328|tw14983286143180375171|tw7220306393942980177|tw11005457868054713682|tw13344012570782052794|tw5738483649606365857|tw2222717820952006996|tw10711965622109841757|tw8943165964113371655|tw7187996769066492395|tw1636980007449630000|tw7663791509629884637|tw6448175203264921377|tw2617457843304495679|tw12908556759526591246|tw2663463673407656530|tw14776002701607300699|tw15169139032126051025|tw17375796755146004438|tw17828673772397971859|tw17868408291464862159|tw1563908951493979328|tw15972230727335714954|tw6548637304791701139|tw266275998897586529|tw13154640096240408737|tw17750448303039832689|tw15521105252084795112|tw4184030619456486680|tw8791696568287843389|tw1581623723479009296|tw11157055810048057521|tw8924144260388929562|tw12308734973829608611|tw13556266412530208042|tw1100592744834369478|tw17253317039624049796|tw15282586146480413876|tw11528961078537439269|tw13372118105918595933|tw15235119246195675126|tw14872749460724992708|tw17720611294660734234|tw1140926440061583761|tw5047761308701167100|tw16428290162059433327|tw10865286221685096048|tw7422533882022969250|tw2174455634906858186|tw7885207392286127013|tw2390226435110432325|tw249064551703008083|tw5814806625227102451|tw17245999395695221813|tw4091900532488866875|tw9873245854132668581|tw4794329590631724349|tw14278654213232743391|tw9910774208956490461|tw155519092590575435|tw7954812196762729251|tw7602843506547221904|tw14841976594075197626|tw13325641093553272912|tw15372572370694570016|tw10035109060751977475|tw16769859805299605032|tw1025850114566754824|tw676037619908892331|tw11389884208155436397|tw9409323798638920179|tw16896813523790660324|tw11052808626017685760|tw16532447192807672284|tw11517669379094216251|tw10264349956638198741|tw15156071520846461833|tw6230040125100566025|tw18177910362505362152|tw16746191856992707217|tw17321387360915230555|tw16388496532676486786|tw17659235989734999554|tw587793669978377208|tw10718676844105976989|tw6209650108399912070|tw10332365598541753531|tw1432016818349177462|tw9424500597749524583|tw16049088405006186248|tw1891260201308064750|tw15158969561459711712|tw10909886679617676997|tw13681415181630212043|tw8303413192847973467|tw7631960743413522264|tw5192637050113875480|tw2017601757123536078|tw10024180338210977283|tw14379611462300747387|tw9107039263984535267|tw3603770526881450019|tw16955007127926110296|tw1759530880149256541|tw11642726712118517334|tw803387018636866246|tw11392607722033195630|tw7285854327290632401|tw613990290670986758|tw18113601179599022716|tw7668313227621356321|tw17264610555266104706|tw8638863705461601934|tw3967777463703115454|tw5857476229113554029|tw15533893128434506994|tw1006523849444991477|tw3912212653146734661|tw7373191387812485857|tw5200799123058272110|tw14779387039713702316|tw12127434049897009811|tw10284497575883655411|tw17089993339460990845|tw12747960906839736258|tw11559236739939501727|tw8546709043828951381|tw13792348538499922770|tw9507287947008391548|tw13027552840317060620|tw16762051438408566414|tw12516644453067582950|tw7446491418033699392|tw6104415028348556473|tw16033510868983665543|tw7001770161628176825|tw15559928691839661257|tw16197735299314294779|tw7204052468342021050|tw17909180784378740732|tw7259951085504811264|tw16999864572130579713|tw18209278860915227783|tw114423995520627854|tw16226296919688703107|tw7321901513928163641|tw5735215440625375225|tw8833720283484772444|tw12505106429795935203|tw3364926037234032578|tw12196644055396296918|tw16736000583569586765|tw7516128840330004891|tw2073975697631447589|tw5671740067815090326|tw3211136923167326373|tw15738089575458939962|tw8805201059941703879|tw4447343563054661210|tw4517531807633203254|tw880162802413147509|tw7638888078840084993|tw7902063119731659088|tw924831384772412750|tw3259950405427023907|tw8231334959283550804|tw8946415410398495286|tw6756647498613869488|tw17364223217013808781|tw17922304388956727786|tw16462617039552244707|tw1923811163353863119|tw12927848992833815541|tw17863369065550639047|tw7246440595991453822|tw16388952600109578663|tw14807455000731802094|tw8427841304033915022|tw8096893948437832497|tw16832543713408846774|tw12485099323890801876|tw5024347309216389454|tw17950134080001677245|tw6380596336256850037|tw642196858729407782|tw10308377380972786161|tw10794950993320580874|tw8046019218801465418|tw17527762176153630949|tw3577570066088199567|tw16002363071601718941|tw2766485579121345076|tw6755524975901657767|tw14269166008563137309|tw10040094008952473967|tw6131049569602193072|tw12441696815099818535|tw2073951248415785479|tw9491231804005074081|tw16758220628172622032|tw7779063572294272636|tw1172381733923761627|tw3228176726566332565|tw14866213328469324349|tw14505184799713216601|tw4282004653683270327|tw18365096462856163315|tw5622024327496061436|tw16578698948310998868|tw7933509050041958330|tw9276344201098333047|tw3042877021388269920|tw14088495334219906480|tw12949218884306614142|tw9082256067671761944|tw2371122375259606994|tw1061017427298526702|tw6045840797009211885|tw101089344550160480|tw14561811884274372670|tw17874123468910774474|tw7623358307711609332|tw18063175260622470141|tw6766866179833045429|tw4073168774975128952|tw16223033599668242217|tw15882400808487256474|tw16842318703250067767|tw17888808912519834058|tw8307090496663323464|tw4578696306222421471|tw13955789853091448579|tw4087776254571390096|tw15036901799152652044|tw295376149651923779|tw13787243326745620598|tw213725636325627258|tw4402907362774333812|tw15327382046296224389|tw4665658189257048151|tw15533650725082942883|tw9010114030442263761|tw11437312065473589434|tw270465682537649869|tw2733311365665559289|tw2977528235361705996|tw11704823498117632986
open PySem PySem.W PyProof.Rows
set_option maxRecDepth 100000 in
set_option maxHeartbeats 0 in
theorem PySem.Challenge.cw_lampway_k17_next_free_and_longest_holds : PySem.Challenge.rw_lampway_k17_next_free_and_longest.Holds := by
 w_on;o_law;k_head;(case hw=>w_witness2)
 k_fill
 refine L2.EC (l:=PySem.Challenge.rw_lampway_k17_next_free_and_longest) (n:=63) (k:=8) (x := "_law_script") (CX:=L2.CX0) (sp:=L2.EI) rfl (by decide) rfl ⟨rfl,by decide,by decide⟩ (fun w h Y=>PySem.W.kIn_of Y) ?F ?S ?C
 case F=>
  intro w mg fa h KX G hmg
  have T:∃ t,My.Txt w (L2.KOf KX) mg t:=by
   dsimp only [L2.KOf]
   refine' ⟨My.Adr.mk,⟨?maa,?Fab,?mac,?Fad,?mae,?Faf,?mag,?Fah,?mai,?Faj,?mak,?Fal,?mam,?Fan,?mao,?Fap,?maq,?Far,?mas,?Fat,?mau,?Fav,?maw,?Fax,?may,?Faz,?mba,?Fbb,?mbc,?Fbd,?mbe,?Fbf,?mbg,?Fbh,?mbi,?Fbj,?mbk,?Fbl,?mbm,?Fbn,?mbo,?Fbp,?mbq,?Fbr,?mbs,?Fbt,?mbu,?Fbv,?mbw,?Fbx,?mby,?Fbz,?mca,?Fcb,?mcc,?Fcd,?mce,?Fcf,?mcg,?Fch,?mci,?Fcj,?mck,?Fcl,?mcm,?Fcn,?mco,?Fcp,?mcq,?Fcr,?mcs,?Fct,?mcu,?ecv,?Fcw,?mcx,?ecy,?Fcz,?mda,?edb,?Fdc,?mdd,?ede,?Fdf,?mdg,?edh,?Fdi,?edj,?Fdk,?edl,?Fdm,?edn,?Fdo,?edp,?Fdq,?edr,?Fds,?edt,?Fdu,?edv,?Fdw,?mdx,?edy,?Fdz,?mea,?eeb,?Fec,?eed,?Fee,?eef,?Feg,?meh,?eei,?Fej,?eek,?Fel,?eem,?Fen,?meo,?eep,?Feq,?eer,?Fes,?eet,?Feu,?mev,?eew,?Fex,?eey,?Fez,?efa,?Ffb,?efc,?Ffd,?mfe,?eff,?Ffg,?sfh,?sfi,?sfj,?sfk,?sfl,?sfm,?sfn,?sfo,?sfp,?nfq,?nfr,?nfs,?sft,?nfu,?nfv,?nfw,?nfx,?nfy,?nfz,?nga,?sgb,?sgc,?sgd,?sge,?ngf,?ngg,?ngh,?ngi,?ngj,?ngk,?ngl,?sgm,?sgn,?sgo,?sgp,?ngq,?ngr,?ngs,?ngt,?ngu,?ngv,?ngw,?sgx,?sgy,?sgz,?sha,?nhb,?nhc,?nhd,?nhe,?nhf,?nhg,?nhh,?shi,?shj,?shk,?shl,?shm,?nhn,?nho,?nhp,?shq,?shr,?nhs,?nht,?nhu,?nhv,?nhw,?mhx,?shy,?xhz,?Xia,?nib,?ric,?rid,?rie,?rif,?rig,?xih,?Xii,?nij,?rik,?ril,?rim,?rin,?rio,?xip,?Xiq,?nir,?nis,?rit,?riu,?riv,?riw,?rix,?xiy,?Xiz,?nja,?njb,?njc,?rjd,?rje,?rjf,?rjg,?rjh,?dji,?djj,?djk,?djl,?djm,?djn,?sjo,?mjp,?vjq,?mjr,?vjs,?mjt,?vju,?mjv,?vjw,?mjx,?vjy,?mjz,?vka,?mkb,?vkc,?mkd,?vke,?mkf,?vkg,?mkh,?vki,?bkj,?bkk,?bkl,?bkm,?bkn,?bko,?bkp,?bkq,?bkr,?bks,?bkt,?bku,?bkv,?lkw⟩⟩
   case maa | mac | mae | mag | mai | mak | mam | mao | maq | mas | mau | maw | may | mba | mbc | mbe | mbg | mbi | mbk | mbm | mbo | mbq | mbs | mbu | mbw | mby | mca | mcc | mce | mcg | mci | mck | mcm | mco | mcq | mcs | mcu | mcx | mda | mdd | mdg | mdx | mea | meh | meo | mev | mfe | mhx | mjp | mjr | mjt | mjv | mjx | mjz | mkb | mkd | mkf | mkh=>(try dsimp only);refine' PySem.W.mg_of KX G ?z;case z=>k_is
   case ecv | ecy | edb | ede | edh | edj | edl | edn | edp | edr | edt | edv | edy | eeb | eed | eef | eei | eek | eem | eep | eer | eet | eew | eey | efa | efc | eff=>(try dsimp only);k_is
   case sfh | sfi | sfj | sfk | sfl | sfm | sfn | sfo | sfp | sft | sgb | sgc | sgd | sge | sgm | sgn | sgo | sgp | sgx | sgy | sgz | sha | shi | shj | shk | shl | shm | shq | shr | shy | sjo=>(try dsimp only);constructor <;> k_is
   case Fab | Fad | Faf | Fah | Faj | Fal | Fan | Fap | Far | Fat | Fav | Fax | Faz | Fbb | Fbd | Fbf | Fbh | Fbj | Fbl | Fbn | Fbp | Fbr | Fbt | Fbv | Fbx | Fbz | Fcb | Fcd | Fcf | Fch | Fcj | Fcl | Fcn | Fcp | Fcr | Fct | Fcw | Fcz | Fdc | Fdf | Fdi | Fdk | Fdm | Fdo | Fdq | Fds | Fdu | Fdw | Fdz | Fec | Fee | Feg | Fej | Fel | Fen | Feq | Fes | Feu | Fex | Fez | Ffb | Ffd | Ffg=>(try dsimp only);refine' L2.OJ ?x ?y ?z;(case x=>k_is);(case y=>k_is);(case z=>k_is)
   case nfq | nfr | nfs | nfu | nfv | nfw | nfx | nfy | nfz | nga | ngf | ngg | ngh | ngi | ngj | ngk | ngl | ngq | ngr | ngs | ngt | ngu | ngv | ngw | nhb | nhc | nhd | nhe | nhf | nhg | nhh | nhn | nho | nhp | nhs | nht | nhu | nhv | nhw | nib | nij | nir | nis | nja | njb | njc=>(try dsimp only);unfold L2.zb;k_is
   case ric | rid | rie | rif | rig | rik | ril | rim | rin | rio | rit | riu | riv | riw | rix | rjd | rje | rjf | rjg | rjh=>(try dsimp only);kernel_rfl
   case xhz | xih | xip | xiy=>(try dsimp only);refine' ⟨?_,by kernel_rfl,?_,?_,?_⟩ <;> k_is
   case Xia | Xii | Xiq | Xiz=>(try dsimp only);refine' L2.mJ ?x (by kernel_rfl) ?y;(case x=>k_is);(case y=>k_is)
   case dji | djj | djk | djl | djm | djn=>(try dsimp only);decide
   case vjq | vjs | vju | vjw | vjy | vka | vkc | vke | vkg | vki=>(try dsimp only);exact ⟨_,rfl⟩
   case bkj | bkk | bkl | bkm | bkn | bko | bkp | bkq | bkr | bks | bkt | bku | bkv=>(try dsimp only);refine' PySem.W.mg_none_of KX G ?z;case z=>k_is
   case lkw=>(try dsimp only);exact fun _ _=>.of_eq rfl
  obtain ⟨t,T⟩:=T
  have e0:=hmg.symm.trans T.zL
  cases e0
  exact ⟨t.FC,T.AJ,fun base kb nb=>My.fK T⟩
 case S=>exact fun K H a ns hl hO hS=>⟨a,ns,rfl,L2.Sc.of_only hO hS,hl,fun _=>rfl⟩
 case C=>exact fun _ _ _ _ z=>z
