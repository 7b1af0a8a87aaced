import PyProof.Rows.All
import Wide.All
import OpenK.AllK
import Wide.FinOn
import Lean
import PyProof.EqAt
import PyProof.EqKinds
import PyProof.TupleCall
import KE.KTryMore
import PyProof.NsDelKeeps
import PySem.Challenge.RW_lampway_k72_whole_widest_shifts
set_option compiler.extract_closed false
set_option Elab.async false
set_option linter.all false
set_option maxRecDepth 100000
namespace L2
open PySem PySem.Spec PyProof.Rows
noncomputable abbrev Key:=Sum Int Str
noncomputable def Xz:Key→Value→Bool
 | .inl k,v=>Value.isInt k v
 | .inr x,v=>Value.isStrOf x v
noncomputable def aO (w:World):Key→Int
 | .inl k=>hashInt k
 | .inr x=>hashStr w x
theorem fe:∀ {k:Key} {v:Value},Xz k v=true→(∃ i t,k=Sum.inl i∧v=Value.int i t)∨(∃ x t,k=Sum.inr x∧v=Value.str x t)
 | .inl i,v,h=>by
  obtain ⟨t,e⟩:=Value.isInt_shape (k:=i) (v:=v) h;exact .inl ⟨i,t,rfl,e⟩
 | .inr x,v,h=>by
  obtain ⟨t,e⟩:=Value.isStrOf_shape (x:=x) (v:=v) h;exact .inr ⟨x,t,rfl,e⟩
theorem KC (i:Int) (t:Tok):Xz (.inl i) (.int i t)=true:=by simp [Xz,Value.isInt]
theorem OC (x:Str) (t:Tok):Xz (.inr x) (.str x t)=true:=by simp [Xz,Value.isStrOf]
theorem uL (a b:Int):decide ((Sum.inl a:Key)=Sum.inl b)=(a == b):=by
 by_cases e:a=b
 ·subst e;simp
 ·have h:¬ (Sum.inl a:Key)=Sum.inl b:=fun q=>e (Sum.inl.inj q)
  rw [decide_eq_false h];exact (beq_eq_false_iff_ne.mpr e).symm
theorem IL (a b:Str):decide ((Sum.inr a:Key)=Sum.inr b)=decide (a=b):=by
 by_cases e:a=b
 ·subst e;simp
 ·have h:¬ (Sum.inr a:Key)=Sum.inr b:=fun q=>e (Sum.inr.inj q)
  rw [decide_eq_false h,decide_eq_false e]
theorem tK (a:Int) (b:Str):decide ((Sum.inl a:Key)=Sum.inr b)=false:=decide_eq_false (fun q=>nomatch q)
theorem ML (a:Str) (b:Int):decide ((Sum.inr a:Key)=Sum.inl b)=false:=decide_eq_false (fun q=>nomatch q)
noncomputable def rf (prog:Program) (w:World):PySem.KeyKind prog w Key where
 is:=Xz
 hash:=aO w
 inj:=fun v a b ha hb=>by
  rcases fe ha with ⟨i,t,rfl,rfl⟩ | ⟨x,t,rfl,rfl⟩
  ·rcases fe hb with ⟨j,u,rfl,e⟩ | ⟨y,u,rfl,e⟩
   ·injection e with e1 _;rw [e1]
   ·exact nomatch e
  ·rcases fe hb with ⟨j,u,rfl,e⟩ | ⟨y,u,rfl,e⟩
   ·exact nomatch e
   ·injection e with e1 _;rw [e1]
 byValue:=fun k v h=>by
  rcases fe h with ⟨i,t,rfl,rfl⟩ | ⟨x,t,rfl,rfl⟩ <;> rfl
 pyHash:=fun hv h=>by
  rcases fe hv with ⟨i,t,rfl,rfl⟩ | ⟨x,t,rfl,rfl⟩
  ·exact wpAny_pyHash_int h
  ·exact wpAny_pyHash_str h
 eqBool:=fun hu hv h=>by
  rcases fe hu with ⟨i,t,rfl,rfl⟩ | ⟨x,t,rfl,rfl⟩
  ·rcases fe hv with ⟨j,u,rfl,rfl⟩ | ⟨y,u,rfl,rfl⟩
   ·rw [uL] at h;exact wpAny_eqBool_int h
   ·rw [tK] at h;exact SeqAt.EqAt.int_str i t y u _ _ _ _ h
  ·rcases fe hv with ⟨j,u,rfl,rfl⟩ | ⟨y,u,rfl,rfl⟩
   ·rw [ML] at h;exact SeqAt.EqAt.str_int x t j u _ _ _ _ h
   ·rw [IL] at h;exact wpAny_eqBool_str h
 «strs»:=fun k x t v h=>by
  rcases fe h with ⟨i,u,rfl,e⟩ | ⟨y,u,rfl,e⟩
  ·exact nomatch e
  ·injection e with e1 _;subst e1;cases v <;> rfl
theorem Fx (prog:Program) (w:World) (i:Int) (t:Tok):(rf prog w).is (.inl i) (.int i t)=true:=KC i t
theorem Lx (prog:Program) (w:World) (x:Str) (t:Tok):(rf prog w).is (.inr x) (.str x t)=true:=OC x t
end L2
namespace L2
open PySem PySem.Spec PyProof.Rows
inductive V where
 | non | bl (b:Bool) | int (i:Int) | str (x:Str) | byt (b:Array UInt8) | flt (b:UInt64) | ref (a:Addr) | ty (n:String)
 deriving DecidableEq
noncomputable def Dd:V→Value→Prop
 | .non,u=>u=Value.none
 | .bl b,u=>u=Value.bool b
 | .int i,u=>∃ t,u=Value.int i t
 | .str x,u=>∃ t,u=Value.str x t
 | .byt b,u=>∃ t,u=Value.bytes b t
 | .flt b,u=>∃ t,u=Value.float b t
 | .ref a,u=>u=Value.ref a
 | .ty n,u=>u=Value.type n
noncomputable abbrev Ad:List V→List Value→Prop:=Paired Dd
theorem Ad.length {xs:List V} {us:List Value} (r:Ad xs us):xs.length=us.length:=Paired.length r
theorem Ad.get:∀ {xs:List V} {us:List Value} {i:Nat} {x:V},Ad xs us→xs[i]? = some x→∃ u,us[i]? = some u∧Dd x u
 | _,_,_,_,.nil,e=>by simp at e
 | _,_,0,_,.cons r _,e=>by simp at e;subst e;exact ⟨_,rfl,r⟩
 | _,_,i + 1,x,.cons _ t,e=>by
  obtain ⟨u,h1,h2⟩:=Ad.get (i:=i) (x:=x) t (by simpa using e);exact ⟨u,by simpa using h1,h2⟩
theorem Ad.set {x:V} {u:Value} (r:Dd x u):∀ {xs:List V} {us:List Value} (i:Nat),Ad xs us→Ad (xs.set i x) (us.set i u)
 | _,_,_,.nil=>.nil
 | _,_,0,.cons _ t=>.cons r t
 | _,_,i + 1,.cons q t=>.cons q (Ad.set r i t)
theorem Ad.append:∀ {xs ys:List V} {us ws:List Value},Ad xs us→Ad ys ws→Ad (xs ++ ys) (us ++ ws)
 | _,_,_,_,.nil,s=>s
 | _,_,_,_,.cons r t,s=>.cons r (Ad.append t s)
theorem Ad.take:∀ {xs:List V} {us:List Value} (n:Nat),Ad xs us→Ad (xs.take n) (us.take n)
 | _,_,0,_=>.nil
 | _,_,_ + 1,.nil=>.nil
 | _,_,n + 1,.cons r t=>.cons r (Ad.take n t)
theorem Ad.drop:∀ {xs:List V} {us:List Value} (n:Nat),Ad xs us→Ad (xs.drop n) (us.drop n)
 | _,_,0,r=>r
 | _,_,_ + 1,.nil=>.nil
 | _,_,n + 1,.cons _ t=>Ad.drop n t
theorem Ad.none_of:∀ {xs:List V} {us:List Value} {i:Nat},Ad xs us→xs[i]? = none→us[i]? = none:=fun {xs us i} r e=>by
 have h1:=r.length;have h2:xs.length ≤ i:=List.getElem?_eq_none_iff.mp e;exact List.getElem?_eq_none_iff.mpr (by omega)
noncomputable def qu:Option V→Option Value→Prop
 | some v,some u=>Dd v u
 | none,none=>True
 | _,_=>False
noncomputable def KV {κ:Type}:List (κ × V)→List (κ × Value)→Prop:=Paired fun (p:κ × V) (q:κ × Value)=>p.1=q.1∧Dd p.2 q.2
noncomputable def kV:Key→V
 | .inl i=>.int i
 | .inr x=>.str x
inductive HO where
  | lst (xs:List V)
  | tup (xs:List V)
  | dK (kvs:List (Key × V)) | dT (kvs:List (List Key × V))
  | set (S:Int→Bool) (n:Nat)
  | ins (C dx:Addr) (fs:List (Str × V))
  | own (x:Addr)
  | xd (fs:List (Str × V))
  | met (f x:Addr)
  | rng (lo hi:Int)
  | frz (o:Obj) (u:HO)
  | tbl (ps:Array Value)
  | ext (φ:Heap→Prop)
noncomputable abbrev Hp:=Addr→Option HO
noncomputable def upd (H:Hp) (a:Addr) (o:HO):Hp:=fun b=>if b=a then some o else H b
theorem cb {H:Hp} {a:Addr} {o:HO}:upd H a o a=some o:=by unfold upd;rw [if_pos rfl]
theorem ub {H:Hp} {a b:Addr} {o:HO} (h:b ≠ a):upd H a o b=H b:=by unfold upd;rw [if_neg h]
theorem Oq {H:Hp} {a:Addr} {o u:HO}:upd (upd H a o) a u=upd H a u:=by
 funext b;unfold upd;split <;> rfl
theorem ue {H:Hp} {a b:Addr} {o u:HO} (h:H a=some o) (h':H b=some u) (d:o ≠ u):a ≠ b:=by
 intro e;subst e;rw [h] at h';exact d (Option.some.inj h')
theorem wb {H:Hp} {a b:Addr} {o:HO} (h:H a=some o) (h':H b=none):a ≠ b:=by
 intro e;subst e;rw [h] at h';cases h'
section
variable (P:Program) (w:World)
noncomputable def Zd (H:Hp) (h:Heap) (a:Addr):HO→Prop
 | .lst xs=>xs.length ≤ sizeLine∧∃ (its:List Value) (n:Nat),Ad xs its∧h.get? a=some { cls:=.type "list",data:=.seq its.toArray n }
 | .tup xs=>xs.length ≤ sizeLine∧∃ its:List Value,Ad xs its∧IsTup h a its.toArray
 | .dK kvs=>kvs.length ≤ sizeLine∧(a == sysModules)=false∧∃ vs,KV kvs vs∧h.DictOf (rf P w) a vs
 | .dT kvs=>kvs.length ≤ sizeLine∧(a == sysModules)=false∧∃ xs:List (List Key × Addr × Value),
   Paired (fun (p:List Key × V) (q:List Key × Addr × Value)=>p.1=q.1∧H q.2.1=some (.tup (p.1.map kV))∧Dd p.2 q.2.2) kvs xs ∧
   ∃ o es ep,h.get? a=some o∧o.ExactDict∧o.data=.dict es ep∧es.toList=xs.map (entryOfKey (tupleKind (rf P w)))∧(xs.map (·.1)).Nodup
 | .set S n=>h.SetOf (intKind P w) a S n
 | .ins C dx fs=>H dx=some (.own a)∧fs.length ≤ 1000∧dx ≠ a∧h.get? a=some (PySem.W.instObj C dx) ∧
   ∃ mA,h.Ns1 dx mA∧(∀ f,qu (fs.lookup f) (mA f))∧PySem.Within mA (fs.map (·.1))
 | .own _=>∃ o,h.get? a=some o
 | .xd fs=>∃ mA,h.Ns1 a mA∧∀ f,qu (fs.lookup f) (mA f)
 | .rng lo hi=>∃ t u v,h.get? a=some { cls:=.type "range",data:=.fields #[.int lo t,.int hi u,.int 1 v] }
 | .frz o u=>h.get? a=some o∧Zd H h a u
 | .tbl ps=>h.get? a=some { cls:=.none,data:=.fields ps }
 | .met f x=>h.get? a=some (PySem.W.methodObj (.ref f) (.ref x))
 | .ext φ=>φ h∧(∃ o,h.get? a=some o)∧∀ h1 h2:Heap,φ h1→(∀ o,h1.get? a=some o→h2.get? a=some o)→φ h2
noncomputable def HOk (H:Hp) (h:Heap):Prop:=∀ a o,H a=some o→Zd P w H h a o
end
section
variable {P:Program} {w:World} {H H':Hp} {h h':Heap} {a:Addr} {o:HO}
theorem Zd.lt (x:Zd P w H h a o):a < h.objs.size:=by
 cases o with
 | lst xs=>obtain ⟨_,_,_,_,e⟩:=x;exact Heap.lt_size e
 | tup xs=>obtain ⟨_,_,_,p⟩:=x;exact p.lt
 | dK kvs=>obtain ⟨_,_,_,_,o,_,_,e,_⟩:=x;exact Heap.lt_size e
 | dT kvs=>obtain ⟨_,_,_,_,o,_,_,e,_⟩:=x;exact Heap.lt_size e
 | set S n=>obtain ⟨o,_,_,_,e,_⟩:=x;exact Heap.lt_size e
 | ins C dx fs=>obtain ⟨_,_,_,e,_⟩:=x;exact Heap.lt_size e
 | own y=>obtain ⟨_,e⟩:=x;exact Heap.lt_size e
 | xd fs=>obtain ⟨_,⟨_,_,_,e,_⟩,_⟩:=x;exact Heap.lt_size e
 | rng lo hi=>obtain ⟨_,_,_,e⟩:=x;exact Heap.lt_size e
 | frz ob u=>obtain ⟨e,_⟩:=x;exact Heap.lt_size e
 | tbl ps=>exact Heap.lt_size (show h.get? a=some _ from x)
 | met f y=>exact Heap.lt_size (show h.get? a=some _ from x)
 | ext φ=>obtain ⟨_,⟨_,e⟩,_⟩:=x;exact Heap.lt_size e
theorem Paired.mapP {α β:Type} {F G:α→β→Prop}:∀ {l₁:List α} {l₂:List β},Paired F l₁ l₂→(∀ a b,F a b→G a b)→Paired G l₁ l₂
 | _,_,.nil,_=>.nil
 | _,_,.cons r t,f=>.cons (f _ _ r) (Paired.mapP t f)
theorem Zd.stay (x:Zd P w H h a o) (k:∀ b u,(b=a∨H b=some (.own a))→h.get? b=some u→h'.get? b=some u)
  (ho:∀ b,H b=some (.own a)→H' b=some (.own a)) (ht:∀ b xs,H b=some (.tup xs)→H' b=some (.tup xs)):Zd P w H' h' a o:=by
 induction o with
 | lst xs=>obtain ⟨z,its,n,r,e⟩:=x;exact ⟨z,its,n,r,k _ _ (.inl rfl) e⟩
 | tup xs=>obtain ⟨z,its,r,ob,e,c⟩:=x;exact ⟨z,its,r,ob,k _ _ (.inl rfl) e,c⟩
 | dK kvs=>obtain ⟨z,y,vs,r,ob,es,ep,e,c⟩:=x;exact ⟨z,y,vs,r,ob,es,ep,k _ _ (.inl rfl) e,c⟩
 | dT kvs=>
  obtain ⟨z,y,xs,r,ob,es,ep,e,c⟩:=x;exact ⟨z,y,xs,Paired.mapP r fun p q z=>⟨z.1,ht _ _ z.2.1,z.2.2⟩,ob,es,ep,k _ _ (.inl rfl) e,c⟩
 | set S n=>obtain ⟨ob,es,ep,t,e,c⟩:=x;exact ⟨ob,es,ep,t,k _ _ (.inl rfl) e,c⟩
 | ins C dx fs=>
  obtain ⟨d,z,ne,e,mA,⟨od,es,ep,e2,c⟩,r⟩:=x;exact ⟨ho _ d,z,ne,k _ _ (.inl rfl) e,mA,⟨od,es,ep,k _ _ (.inr d) e2,c⟩,r⟩
 | own y=>obtain ⟨ob,e⟩:=x;exact ⟨ob,k _ _ (.inl rfl) e⟩
 | xd fs=>obtain ⟨mA,⟨od,es,ep,e,c⟩,r⟩:=x;exact ⟨mA,⟨od,es,ep,k _ _ (.inl rfl) e,c⟩,r⟩
 | rng lo hi=>obtain ⟨t,u,v,e⟩:=x;exact ⟨t,u,v,k _ _ (.inl rfl) e⟩
 | frz ob u ih=>obtain ⟨e,q⟩:=x;exact ⟨k _ _ (.inl rfl) e,ih q⟩
 | tbl ps=>
  have e:h.get? a=some { cls:=.none,data:=.fields ps }:=x;show h'.get? a=some { cls:=.none,data:=.fields ps };exact k a _ (.inl rfl) e
 | met f y=>
  have e:h.get? a=some (PySem.W.methodObj (.ref f) (.ref y)):=x;show h'.get? a=some (PySem.W.methodObj (.ref f) (.ref y));exact k a _ (.inl rfl) e
 | ext φ=>obtain ⟨p,⟨o,e⟩,st⟩:=x;exact ⟨st _ _ p fun o q=>k _ _ (.inl rfl) q,⟨o,k _ _ (.inl rfl) e⟩,st⟩
theorem HOk.lt (x:HOk P w H h) (e:H a=some o):a < h.objs.size:=(x a o e).lt
theorem HOk.fresh (x:HOk P w H h) (e:h.objs.size ≤ a):H a=none:=by
 cases q:H a with
 | none=>rfl
 | some u=>exact absurd (Nat.lt_of_lt_of_le (x.lt q) e) (Nat.lt_irrefl _)
theorem HOk.kept (x:HOk P w H h) (k:∀ b u,h.get? b=some u→h'.get? b=some u):HOk P w H h':=fun a o e=>
 (x a o e).stay (fun b u _ q=>k b u q) (fun _ q=>q) fun _ _ q=>q
theorem HOk.laid (x:HOk P w H h) (k:∀ b u,h.get? b=some u→h'.get? b=some u) (hp:h.objs.size ≤ a) (new:Zd P w (upd H a o) h' a o):HOk P w (upd H a o) h':=fun b u e=>by
 have hn:=x.fresh hp;by_cases hb:b=a
 ·subst hb;rw [cb] at e;cases e;exact new
 ·rw [ub hb] at e;exact (x b u e).stay (fun c v _ q=>k c v q) (fun c q=>by rw [ub (wb q hn)];exact q) fun c xs q=>by rw [ub (wb q hn)];exact q
end
noncomputable def Rd (H:Hp) (a:Addr) (u:HO):Prop:=H a=some u∨∃ o,H a=some (.frz o u)
theorem Rd.of {H:Hp} {a:Addr} {u:HO} (h:H a=some u):Rd H a u:=.inl h
theorem Rd.ok {P:Program} {w:World} {H:Hp} {h:Heap} {a:Addr} {u:HO} (r:Rd H a u) (x:HOk P w H h):Zd P w H h a u:=by
 rcases r with r | ⟨o,r⟩
 ·exact x a u r
 ·obtain ⟨_,q⟩:=x a _ r;exact q
noncomputable def Mut:Option HO→Prop
 | some (.lst _)=>True
 | some (.dK _)=>True
 | some (.dT _)=>True
 | some (.set _ _)=>True
 | some (.ins _ _ _)=>True
 | some (.ext _)=>True
 | _=>False
section
variable {P:Program} {w:World} {H:Hp} {h h':Heap} {x e:Addr} {o':HO}
theorem HOk.write (ok:HOk P w H h) (mu:Mut (H x)) (he:e=x∨H e=some (.own x)) (k:∀ b u,b ≠ e→h.get? b=some u→h'.get? b=some u) (heo:∃ u,h'.get? e=some u)
  (new:Zd P w (upd H x o') h' x o'):HOk P w (upd H x o') h':=fun b u q=>by
 have nown:∀ c y,H c=some (.own y)→c ≠ x:=fun c y r z=>by subst z;rw [r] at mu;exact mu
 have ntup:∀ c xs,H c=some (.tup xs)→c ≠ x:=fun c xs r z=>by subst z;rw [r] at mu;exact mu
 by_cases hb:b=x
 ·subst hb;rw [cb] at q;cases q;exact new
 ·rw [ub hb] at q;by_cases hbe:b=e
  ·have q':H b=some (.own x):=by
    rcases he with z | z
    ·exact absurd (hbe.trans z) hb
    ·rw [hbe];exact z
   rw [q] at q';cases q';obtain ⟨v,hv⟩:=heo;exact ⟨v,by rw [hbe];exact hv⟩
  ·refine (ok b u q).stay (fun c v hc r=>k c v ?_ r) (fun c r=>by rw [ub (nown c b r)];exact r) fun c xs r=>by rw [ub (ntup c xs r)];exact r
   rcases hc with rfl | hc
   ·exact hbe
   ·rintro rfl;rcases he with z | z
    ·exact nown c b hc z
    ·rw [hc] at z;cases z;exact hb rfl
end
structure Un (fs ex:List Addr) (H H':Hp) (h h':Heap):Prop where
 keep:∀ b o,h.get? b=some o→H b=none→b ∉ fs→b ∉ ex→h'.get? b=some o
 slot:∀ b o,h.get? b=some o→H b=none→b ∈ fs→b ∉ ex→∃ sl,h'.get? b=some { o with slots:=sl }
 free:∀ b o,h.get? b=some o→H b=none→b ∉ ex→H' b=none
 there:∀ b o,h.get? b=some o→b ∉ ex→∃ o',h'.get? b=some o'
 tups:∀ b xs,H b=some (.tup xs)→H' b=some (.tup xs)
 frzs:∀ b o u,H b=some (.frz o u)→H' b=some (.frz o u)
 tbls:∀ b ps,H b=some (.tbl ps)→∃ more,H' b=some (.tbl (ps ++ more))
section
variable {fs fs' ex ex':List Addr} {H H1 H2:Hp} {h h1 h2 h':Heap} {a x e:Addr} {o:HO}
theorem Un.any (u:Un fs ex H H1 h h1) {b:Addr} {ob:Obj} (q:h.get? b=some ob) (n:H b=none) (hx:b ∉ ex):∃ sl,h1.get? b=some { ob with slots:=sl }:=by
 by_cases hb:b ∈ fs
 ·exact u.slot b ob q n hb hx
 ·exact ⟨ob.slots,u.keep b ob q n hb hx⟩
theorem Un.trans (a:Un fs ex H H1 h h1) (b:Un fs ex H1 H2 h1 h2):Un fs ex H H2 h h2 where
 keep:=fun c ob q n hc hx=>b.keep c ob (a.keep c ob q n hc hx) (a.free c ob q n hx) hc hx
 slot:=fun c ob q n hc hx=>by
  obtain ⟨sl,e1⟩:=a.slot c ob q n hc hx;obtain ⟨sl',e2⟩:=b.slot c _ e1 (a.free c ob q n hx) hc hx;exact ⟨sl',e2⟩
 free:=fun c ob q n hx=>by
  obtain ⟨o',e1⟩:=a.there c ob q hx;exact b.free c o' e1 (a.free c ob q n hx) hx
 there:=fun c ob q hx=>by
  obtain ⟨o',e1⟩:=a.there c ob q hx;exact b.there c o' e1 hx
 tups:=fun c xs q=>b.tups c xs (a.tups c xs q)
 frzs:=fun c ob xs q=>b.frzs c ob xs (a.frzs c ob xs q)
 tbls:=fun c ps q=>by
  obtain ⟨m1,e1⟩:=a.tbls c ps q;obtain ⟨m2,e2⟩:=b.tbls c _ e1;exact ⟨m1 ++ m2,by rw [e2,Array.append_assoc]⟩
theorem Un.kept (k:∀ b u,h.get? b=some u→h'.get? b=some u):Un fs ex H H h h':=
 ⟨fun b ob q _ _ _=>k b ob q,fun b ob q _ _ _=>⟨ob.slots,k b ob q⟩,fun _ _ _ n _=>n,fun b ob q _=>⟨ob,k b ob q⟩,fun _ _ q=>q,fun _ _ _ q=>q,fun _ ps q=>⟨#[],by rw [q];simp⟩⟩
theorem Un.refl:Un fs ex H H h h:=Un.kept fun _ _ q=>q
theorem Un.laid (k:∀ b u,h.get? b=some u→h'.get? b=some u) (hp:h.objs.size ≤ a) (hn:H a=none):Un fs ex H (upd H a o) h h' where
 keep:=fun b u q _ _ _=>k b u q
 slot:=fun b u q _ _ _=>⟨u.slots,k b u q⟩
 free:=fun b u q n _=>by rw [ub (Nat.ne_of_lt (Nat.lt_of_lt_of_le (Heap.lt_size q) hp))];exact n
 there:=fun b u q _=>⟨u,k b u q⟩
 tups:=fun b xs q=>by rw [ub (wb q hn)];exact q
 frzs:=fun b u xs q=>by rw [ub (wb q hn)];exact q
 tbls:=fun b ps q=>⟨#[],by rw [ub (wb q hn),q];simp⟩
theorem Un.write (mu:Mut (H x)) (he:e=x∨H e=some (.own x)) (k:∀ b u,b ≠ e→h.get? b=some u→h'.get? b=some u) (heo:∃ u,h'.get? e=some u):Un fs ex H (upd H x o) h h':=by
 have hx:∀ b,H b=none→b ≠ x:=fun b n z=>by subst z;rw [n] at mu;exact mu
 have hb:∀ b,H b=none→b ≠ e:=fun b n z=>by
  subst z;rcases he with r | r
  ·exact hx b n r
  ·rw [n] at r;cases r
 have hm:∀ b u,H b=some u→¬ Mut (some u)→b ≠ x:=fun b u q nm z=>by subst z;rw [q] at mu;exact nm mu
 refine ⟨fun b u q n _ _=>k b u (hb b n) q,fun b u q n _ _=>⟨u.slots,k b u (hb b n) q⟩,fun b u q n _=>by rw [ub (hx b n)];exact n,fun b u q _=>?_,
  fun b xs q=>by rw [ub (hm b _ q fun z=>z)];exact q,fun b u xs q=>by rw [ub (hm b _ q fun z=>z)];exact q,fun b ps q=>⟨#[],by rw [ub (hm b _ q fun z=>z),q];simp⟩⟩
 by_cases hbe:b=e
 ·subst hbe;exact heo
 ·exact ⟨u,k b u hbe q⟩
theorem Un.mono (u:Un fs ex H H1 h h1) (hs:∀ b ∈ fs,b ∈ fs') (hx:∀ b ∈ ex,b ∈ ex'):Un fs' ex' H H1 h h1:=
 ⟨fun b ob q n hb he=>u.keep b ob q n (fun z=>hb (hs b z)) fun z=>he (hx b z),fun _ _ q n _ he=>u.any q n fun z=>he (hx _ z),fun b ob q n he=>u.free b ob q n fun z=>he (hx b z),fun b ob q he=>u.there b ob q fun z=>he (hx b z),u.tups,u.frzs,u.tbls⟩
end
noncomputable def trk (h:Heap) (H:Hp):List Addr:=(List.range h.objs.size).filter fun a=>(H a).isSome
noncomputable def xF (h:Heap) (H:Hp):Heap:=PySem.W.hideAll h (trk h H)
theorem xD (h:Heap) (H:Hp):(xF h H).objs.size=h.objs.size:=PySem.W.hideAll_size _ _
theorem IF {h:Heap} {H:Hp} {b:Addr} {o:Obj} (e:h.get? b=some o) (n:H b=none):(xF h H).get? b=some o:=
 PySem.W.hideAll_get _ e fun hm=>by
  have q:(H b).isSome=true:=(List.mem_filter.mp hm).2;rw [n] at q;simp at q
theorem FI {h:Heap} {H:Hp} {b:Addr} {o:Obj} (e:(xF h H).get? b=some o):h.get? b=some o∧H b=none:=by
 have e':h.get? b=some o:=PySem.W.of_hideAll (trk h H) e;refine ⟨e',?_⟩;cases q:H b with
 | none=>rfl
 | some x=>
  have hm:b ∈ trk h H:=List.mem_filter.mpr ⟨List.mem_range.mpr (Heap.lt_size e'),by simp [q]⟩;have z:(xF h H).get? b=none:=PySem.W.hideAll_none (trk h H) hm;rw [z] at e;cases e
noncomputable def YI (g h:Heap) (L:Addr):List (Addr × Obj):=(List.range h.objs.size).filterMap fun a=>if a=L∨(g.get? a).isSome=true then none else (h.get? a).map fun o=>(a,o)
noncomputable def jn (g h:Heap) (L d:Addr):List (Addr × Obj):=(YI g h L).filter fun p=>decide (p.1 ≠ d)
end L2
namespace L2
open PySem PySem.Spec PyProof.Rows
structure Mod (K:PySem.W.Frag) (mg:Str→Option Value) (base:Heap):Prop where
 kin:K.In base
 glob:base.Ns mainGlobals mg
 blt:∃ mb,base.Ns builtinsNs mb∧∀ x:Str,x ≠ "__name__" → mb x=bootBuiltins x
 nolimit:base.NoLimit
structure Cx where
 prog:Program
 w:World
 K:PySem.W.Frag
 mg:Str→Option Value
 base:Heap
 A:Around
 N:List Str
 s₀:Shared
 H₀:Hp
 env:Env
 outer:List Env
 stack:List Env
 ex:List Addr
 fn:Str→Bool
 calm:Bool
 pn:List (Addr × Obj)
 xe:Value→Shared→Prop
noncomputable def frs (l:List Env):List Addr:=l.filterMap (·.frame)
noncomputable abbrev Cx.fs (X:Cx):List Addr:=frs X.outer
noncomputable def Vis (sc:Scope) (x:Str):Prop:=sc.names.lookup x=some .local∨sc.names.lookup x=some .cell∨sc.names.lookup x=some .free
noncomputable def Loc (sc:Scope) (x:Str):Prop:=sc.names.lookup x=some .local∨sc.names.lookup x=some .cell
noncomputable def TN (env:Env) (h:Heap) (m:Str→Option Value) (x:Str) (u:Value):Prop:=
 (env.kindOf x=some .local∧m x=some u)∨((env.kindOf x=some .cell∨env.kindOf x=some .free)∧∃ c,env.cells.lookup x=some c∧h.IsCell c (some u))
structure Cx.Ok (X:Cx):Prop where
 mod:Mod X.K X.mg X.base
 kind:X.env.scope.kind=.function
 glob:X.env.globals=mainGlobals
 blt:X.env.builtins=builtinsNs
 above:X.s₀.heap.objs.size ≤ X.env.locals
 inj:∀ x y c,X.env.cells.lookup x=some c→X.env.cells.lookup y=some c→x=y
 has:∀ x,(X.env.kindOf x=some .cell∨X.env.kindOf x=some .free)→∃ c,X.env.cells.lookup x=some c
 cab:∀ x c,X.fn x=true→X.env.cells.lookup x=some c→X.s₀.heap.objs.size ≤ c
 hd:X.calm=true→X.A.handled=none
 frames:X.A.frames=some X.stack
 stk:X.stack=X.outer∨(X.stack=X.env :: X.outer∧X.env.frame=some X.env.locals)
 exf:∀ b ∈ X.ex,b ≠ X.env.locals∧∀ x c,X.env.cells.lookup x=some c→c ≠ b
 bs:∀ b o,X.base.get? b=some o→X.s₀.heap.get? b=some o∧X.H₀ b=none
 bsz:X.base.objs.size ≤ X.s₀.heap.objs.size
 noex:∀ b o,X.base.get? b=some o→b ∉ X.ex
 exfs:∀ b ∈ X.ex,b ∉ X.fs
 funs:X.s₀.heap.FunFrames X.base X.outer
 frf:∀ b ∈ X.fs,X.H₀ b=none
structure Inv (X:Cx) (pins:List (Addr × Obj)) (σ:List (Option V)) (H:Hp) (s:Shared):Prop where
 ok:X.Ok
 os:s.os=X.s₀.os
 bare:AllBare s.gens
 base:Un X.fs X.ex X.H₀ H X.s₀.heap s.heap
 loc:∃ m,s.heap.Ns X.env.locals m∧∀ (i:Nat) (x:Str) (v:V),X.N[i]? = some x→σ[i]? = some (some v)→Vis X.env.scope x→∃ u,Dd v u∧TN X.env s.heap m x u
 cell:∀ x c,X.env.cells.lookup x=some c→∃ v,s.heap.IsCell c v
 free:H X.env.locals=none
 freeC:∀ x c,X.env.cells.lookup x=some c→H c=none
 pin:∀ p ∈ X.pn ++ pins,s.heap.get? p.1=some p.2∧H p.1=none∧p.1 ≠ X.env.locals∧p.1 ∉ X.fs∧∀ v,p.2.data ≠ .cell v
 hok:HOk X.prog X.w H s.heap
 len:σ.length=X.N.length
section
variable {X:Cx} {pins:List (Addr × Obj)} {σ:List (Option V)} {H H':Hp} {s:Shared} {h':Heap}
theorem Cx.Ok.nofr (ok:X.Ok) {b:Addr} {o:Obj} (e:X.base.get? b=some o):b ∉ X.fs:=fun hb=>by
 have:=(ok.funs.mem hb).1;rw [e] at this;cases this
theorem Inv.bs (I:Inv X pins σ H s):∀ b o,X.base.get? b=some o→s.heap.get? b=some o∧H b=none:=fun b o e=>
 ⟨I.base.keep b o (I.ok.bs b o e).1 (I.ok.bs b o e).2 (I.ok.nofr e) (I.ok.noex b o e),I.base.free b o (I.ok.bs b o e).1 (I.ok.bs b o e).2 (I.ok.noex b o e)⟩
theorem Inv.bk (I:Inv X pins σ H s):∀ b o,X.base.get? b=some o→s.heap.get? b=some o:=fun b o e=>(I.bs b o e).1
theorem Inv.mod (I:Inv X pins σ H s):Mod X.K X.mg X.base:=I.ok.mod
theorem Inv.kIn (I:Inv X pins σ H s):X.K.In s.heap:=I.ok.mod.kin.keeps I.bk
theorem Inv.nolimit (I:Inv X pins σ H s):s.heap.NoLimit:=I.ok.mod.nolimit.keeps I.bk
theorem Inv.fr (I:Inv X pins σ H s):∃ m,Fr X.base X.env.locals s.heap m:=
 let ⟨m,hn,_⟩:=I.loc
 ⟨m,hn,I.bk,Nat.le_trans I.ok.bsz I.ok.above⟩
theorem Inv.lt (I:Inv X pins σ H s):X.env.locals < s.heap.objs.size:=let ⟨_,hn,_⟩:=I.loc;hn.lt
theorem Inv.sz (I:Inv X pins σ H s):X.s₀.heap.objs.size ≤ s.heap.objs.size:=Nat.le_trans I.ok.above (Nat.le_of_lt I.lt)
theorem Inv.nofs (I:Inv X pins σ H s) {a:Addr} (h:s.heap.objs.size ≤ a):a ∉ X.fs:=fun hb=>by
 obtain ⟨_,o,ho,_⟩:=I.ok.funs.mem hb;exact absurd (Nat.lt_of_lt_of_le (Heap.lt_size ho) (Nat.le_trans I.sz h)) (Nat.lt_irrefl _)
theorem Inv.cne (I:Inv X pins σ H s):∀ x c,X.env.cells.lookup x=some c→c ≠ X.env.locals:=fun x c e z=>by
 obtain ⟨v,o,ho,hd⟩:=I.cell x c e;obtain ⟨m,⟨o',es,ep,ho',hd',_⟩,_⟩:=I.loc;rw [z,ho'] at ho;cases ho;rw [hd'] at hd;cases hd
theorem Inv.funs (I:Inv X pins σ H s):s.heap.FunFrames X.base X.outer:=by
 have all:∀ (l:List Env),(∀ b ∈ frs l,b ∈ X.fs)→X.s₀.heap.FunFrames X.base l→s.heap.FunFrames X.base l:=by
  intro l
  induction l with
  | nil=>intro _ _;trivial
  | cons env r ih=>
   intro hs hl;obtain ⟨hk,⟨L,o,hf,hn,ho,hd⟩,hr⟩:=hl;have hL:L ∈ X.fs:=hs L (by unfold frs;rw [List.filterMap_cons,hf];exact List.mem_cons_self);obtain ⟨sl,e⟩:=I.base.slot L o ho (I.ok.frf L hL) hL fun z=>I.ok.exfs L z hL
   exact ⟨hk,⟨L,_,hf,hn,e,hd⟩,ih (fun b hb=>hs b (by unfold frs;rw [List.filterMap_cons,hf];exact List.mem_cons_of_mem _ hb)) hr⟩
 exact all X.outer (fun _ hb=>hb) I.ok.funs
theorem Inv.stack (I:Inv X pins σ H s):s.heap.FunFrames X.base X.stack:=by
 rcases I.ok.stk with e | ⟨e,hf⟩
 ·rw [e];exact I.funs
 ·rw [e];obtain ⟨m,hn,_⟩:=I.loc;refine .cons (by rw [I.ok.kind];decide) hf hn ?_ I.funs;exact Heap.get?_none_of_le (Nat.le_trans I.ok.bsz I.ok.above)
theorem Inv.stkSub (I:Inv X pins σ H s):∀ b ∈ frs X.stack,b ∈ X.env.locals :: X.fs:=fun b hb=>by
 rcases I.ok.stk with e | ⟨e,hf⟩
 ·rw [e] at hb;exact List.mem_cons_of_mem _ hb
 ·rw [e] at hb;unfold frs at hb;rw [List.filterMap_cons,hf] at hb;exact hb
theorem Inv.stkFree (I:Inv X pins σ H s):∀ b ∈ frs X.stack,H b=none:=fun b hb=>by
 rcases List.mem_cons.mp (I.stkSub b hb) with e | hb
 ·rw [e];exact I.free
 ·obtain ⟨_,o,ho,_⟩:=I.ok.funs.mem hb;exact I.base.free b o ho (I.ok.frf b hb) fun z=>I.ok.exfs b z hb
theorem Inv.step {g':Array GenState} {t':Nat} {d':Drawn} {ch:List Addr} (I:Inv X pins σ H s)
  (hch:∀ b ∈ ch,(b ∈ X.ex∨X.s₀.heap.objs.size ≤ b)∧b ≠ X.env.locals∧(∀ x c,X.env.cells.lookup x=some c→c ≠ b)∧∀ p ∈ X.pn ++ pins,p.1 ≠ b)
  (keep:∀ b o,b ≠ X.env.locals→b ∉ X.fs→b ∉ ch→s.heap.get? b=some o→H b=none→h'.get? b=some o)
  (slot:∀ b o,b ≠ X.env.locals→b ∈ X.fs→b ∉ ch→s.heap.get? b=some o→H b=none→∃ sl,h'.get? b=some { o with slots:=sl }) (free:∀ b o,b ∉ ch→s.heap.get? b=some o→H b=none→H' b=none)
  (there:∀ b o,b ∉ ch→s.heap.get? b=some o→∃ o',h'.get? b=some o')
  (tups:∀ b xs,H b=some (.tup xs)→H' b=some (.tup xs)) (frzs:∀ b o u,H b=some (.frz o u)→H' b=some (.frz o u)) (tbls:∀ b ps,H b=some (.tbl ps)→∃ more,H' b=some (.tbl (ps ++ more)))
  (ns:∀ m,s.heap.Ns X.env.locals m→h'.Ns X.env.locals m) (hok:HOk X.prog X.w H' h') (hg:AllBare g') :
  Inv X pins σ H' { s with heap:=h',gens:=g',drawn:=d',toks:=t' }:=by
 have neL:∀ b o,X.s₀.heap.get? b=some o→b ≠ X.env.locals:=fun b o e=>Nat.ne_of_lt (Nat.lt_of_lt_of_le (Heap.lt_size e) I.ok.above)
 have neC:∀ b o,X.s₀.heap.get? b=some o→b ∉ X.ex→b ∉ ch:=fun b o e hx hb=>by
  rcases (hch b hb).1 with z | z
  ·exact hx z
  ·exact absurd (Nat.lt_of_lt_of_le (Heap.lt_size e) z) (Nat.lt_irrefl _)
 have cellK:∀ x c,X.env.cells.lookup x=some c→∀ v,s.heap.IsCell c v→h'.IsCell c v:=fun x c e v ⟨o,ho,hd⟩=>by
  have nch:c ∉ ch:=fun z=>(hch c z).2.2.1 x c e rfl
  by_cases hc:c ∈ X.fs
  ·obtain ⟨sl,q⟩:=slot c o (I.cne x c e) hc nch ho (I.freeC x c e);exact ⟨_,q,hd⟩
  ·exact ⟨o,keep c o (I.cne x c e) hc nch ho (I.freeC x c e),hd⟩
 refine ⟨I.ok,I.os,hg,⟨fun b o e n hb hx=>?_,fun b o e n hb hx=>?_,fun b o e n hx=>?_,fun b o e hx=>?_,fun b xs e=>tups b xs (I.base.tups b xs e),fun b o xs e=>frzs b o xs (I.base.frzs b o xs e),fun b ps e=>?_⟩,?_,fun x c e=>?_,?_,fun x c e=>?_,fun p hp=>?_,hok,I.len⟩
 ·exact keep b o (neL b o e) hb (neC b o e hx) (I.base.keep b o e n hb hx) (I.base.free b o e n hx)
 ·obtain ⟨sl,e1⟩:=I.base.slot b o e n hb hx;obtain ⟨sl',e2⟩:=slot b _ (neL b o e) hb (neC b o e hx) e1 (I.base.free b o e n hx);exact ⟨sl',e2⟩
 ·obtain ⟨o',e1⟩:=I.base.there b o e hx;exact free b o' (neC b o e hx) e1 (I.base.free b o e n hx)
 ·obtain ⟨o',e1⟩:=I.base.there b o e hx;exact there b o' (neC b o e hx) e1
 ·obtain ⟨m1,e1⟩:=I.base.tbls b ps e;obtain ⟨m2,e2⟩:=tbls b _ e1;exact ⟨m1 ++ m2,by rw [e2,Array.append_assoc]⟩
 ·obtain ⟨m,hn,hl⟩:=I.loc;refine ⟨m,ns m hn,fun i x v e1 e2 e3=>?_⟩;obtain ⟨u,r,l⟩:=hl i x v e1 e2 e3;refine ⟨u,r,?_⟩;rcases l with l | ⟨k,c,e,z⟩
  ·exact .inl l
  ·exact .inr ⟨k,c,e,cellK x c e _ z⟩
 ·obtain ⟨v,z⟩:=I.cell x c e;exact ⟨v,cellK x c e v z⟩
 ·obtain ⟨m,⟨o,_,_,ho,_⟩,_⟩:=I.loc;exact free _ o (fun z=>(hch _ z).2.1 rfl) ho I.free
 ·obtain ⟨v,o,ho,hd⟩:=I.cell x c e;exact free c o (fun z=>(hch c z).2.2.1 x c e rfl) ho (I.freeC x c e)
 ·obtain ⟨e,n,ne,nf,d⟩:=I.pin p hp;have nch:p.1 ∉ ch:=fun z=>(hch p.1 z).2.2.2 p hp rfl
  exact ⟨keep p.1 p.2 ne nf nch e n,free p.1 p.2 nch e n,ne,nf,d⟩
theorem Inv.un {t':Nat} (I:Inv X pins σ H s) (u:Un X.fs [] H H' s.heap h') (hok:HOk X.prog X.w H' h'):Inv X pins σ H' { s with heap:=h',toks:=t' }:=by
 obtain ⟨m,⟨o,es,ep,ho,r⟩,_⟩:=id I.loc;obtain ⟨sl,hL⟩:=u.any ho I.free (by simp);exact I.step (g':=s.gens) (d':=s.drawn) (ch:=[]) (fun _ z=>nomatch z) (fun b o _ hb _ e n=>u.keep b o e n hb (by simp)) (fun b o _ hb _ e n=>u.slot b o e n hb (by simp)) (fun b o _ e n=>u.free b o e n (by simp)) (fun b o _ e=>u.there b o e (by simp)) u.tups u.frzs u.tbls (fun m' hm=>by
  obtain ⟨o',es',ep',ho',r'⟩:=hm;rw [ho] at ho';cases ho';exact ⟨_,es',ep',hL,r'⟩) hok I.bare
theorem Inv.call {g':Array GenState} {t':Nat} {d':Drawn} {ch:List Addr} (I:Inv X pins σ H s) (u:Un (frs X.stack) ch H H' s.heap h') (hok:HOk X.prog X.w H' h') (hg:AllBare g')
  (hch:∀ b ∈ ch,(b ∈ X.ex∨X.s₀.heap.objs.size ≤ b)∧b ≠ X.env.locals∧(∀ x c,X.env.cells.lookup x=some c→c ≠ b)∧∀ p ∈ X.pn ++ pins,p.1 ≠ b) :
  Inv X pins σ H' { s with heap:=h',gens:=g',drawn:=d',toks:=t' }:=by
 obtain ⟨m,⟨o,es,ep,ho,r⟩,_⟩:=id I.loc;obtain ⟨sl,hL⟩:=u.any ho I.free fun z=>(hch _ z).2.1 rfl
 exact I.step (ch:=ch) hch (fun b o hL hb hc e n=>u.keep b o e n (fun z=>(List.mem_cons.mp (I.stkSub b z)).elim hL hb) hc) (fun b o _ _ hc e n=>u.any e n hc) (fun b o hc e n=>u.free b o e n hc) (fun b o hc e=>u.there b o e hc) u.tups u.frzs u.tbls (fun m' hm=>by
  obtain ⟨o',es',ep',ho',r'⟩:=hm;rw [ho] at ho';cases ho';exact ⟨_,es',ep',hL,r'⟩) hok hg
theorem Inv.turned {t':Nat} {it:Addr} (I:Inv X pins σ H s) (k:∀ b o,b ≠ it→s.heap.get? b=some o→h'.get? b=some o) (hn:H it=none) (hL:it ≠ X.env.locals)
  (h1:it ∈ X.ex∨X.s₀.heap.objs.size ≤ it) (h2:∀ x c,X.env.cells.lookup x=some c→c ≠ it) (h3:∀ p ∈ X.pn ++ pins,p.1 ≠ it):Inv X pins σ H { s with heap:=h',toks:=t' }:=by
 have nit:∀ b u,H b=some u→b ≠ it:=fun b u e z=>by rw [z,hn] at e;cases e
 refine I.step (g':=s.gens) (d':=s.drawn) (ch:=[it]) (fun b hb=>?_) (fun b o _ _ hc e _=>k b o (fun z=>hc (by simp [z])) e) (fun b o _ _ hc e _=>⟨o.slots,k b o (fun z=>hc (by simp [z])) e⟩) (fun _ _ _ _ n=>n)
  (fun b o hc e=>⟨o,k b o (fun z=>hc (by simp [z])) e⟩) (fun _ _ e=>e) (fun _ _ _ e=>e) (fun b ps e=>⟨#[],by rw [e];simp⟩) (fun m hm=>?_) (fun b u e=>?_) I.bare
 ·have e:b=it:=by simpa using hb
  subst e;exact ⟨h1,hL,h2,h3⟩
 ·obtain ⟨o,es,ep,ho,r⟩:=hm;exact ⟨o,es,ep,k _ o (Ne.symm hL) ho,r⟩
 ·refine (I.hok b u e).stay (fun c v hc q=>k c v ?_ q) (fun _ q=>q) fun _ _ q=>q
  rcases hc with z | z
  ·rw [z];exact nit b u e
  ·exact nit c _ z
theorem Inv.tok (I:Inv X pins σ H s) (t:Nat):Inv X pins σ H { s with toks:=t }:=I.un (h':=s.heap) (t':=t) Un.refl I.hok
theorem Inv.kept {t':Nat} (I:Inv X pins σ H s) (k:∀ b u,s.heap.get? b=some u→h'.get? b=some u):Inv X pins σ H { s with heap:=h',toks:=t' }:=I.un (Un.kept k) (I.hok.kept k)
theorem Inv.laid {a:Addr} {o:HO} {t':Nat} (I:Inv X pins σ H s) (k:∀ b u,s.heap.get? b=some u→h'.get? b=some u) (hp:s.heap.objs.size ≤ a) (new:Zd X.prog X.w (upd H a o) h' a o) :
  Inv X pins σ (upd H a o) { s with heap:=h',toks:=t' }:=I.un (Un.laid k hp (I.hok.fresh hp)) (I.hok.laid k hp new)
theorem Inv.write {x e:Addr} {o:HO} {t':Nat} (I:Inv X pins σ H s) (mu:Mut (H x)) (he:e=x∨H e=some (.own x)) (k:∀ b u,b ≠ e→s.heap.get? b=some u→h'.get? b=some u) (heo:∃ u,h'.get? e=some u)
  (new:Zd X.prog X.w (upd H x o) h' x o):Inv X pins σ (upd H x o) { s with heap:=h',toks:=t' }:=I.un (Un.write mu he k heo) (I.hok.write mu he k heo new)
theorem Inv.weak {σ':List (Option V)} (I:Inv X pins σ H s) (hl:σ'.length=σ.length) (w:∀ (i:Nat) v,σ'[i]? = some (some v)→σ[i]? = some (some v)):Inv X pins σ' H s:=
 ⟨I.ok,I.os,I.bare,I.base,let ⟨m,hn,hl'⟩:=I.loc;⟨m,hn,fun i x v e1 e2 e3=>hl' i x v e1 (w i v e2) e3⟩,I.cell,I.free,I.freeC,I.pin,I.hok,hl.trans I.len⟩
theorem Inv.pins_of {pins':List (Addr × Obj)} (I:Inv X pins σ H s) (h:∀ p ∈ pins',s.heap.get? p.1=some p.2∧H p.1=none∧p.1 ≠ X.env.locals∧p.1 ∉ X.fs∧∀ v,p.2.data ≠ .cell v):Inv X pins' σ H s:=
 ⟨I.ok,I.os,I.bare,I.base,I.loc,I.cell,I.free,I.freeC,fun p hp=>(List.mem_append.mp hp).elim (fun z=>I.pin p (List.mem_append_left _ z)) (h p),I.hok,I.len⟩
theorem tz {N:List Str} (hN:N.Nodup) {i j:Nat} {x:Str} (a:N[i]? = some x) (b:N[j]? = some x):i=j:=by
 obtain ⟨h1,e1⟩:=List.getElem?_eq_some_iff.mp a;obtain ⟨h2,e2⟩:=List.getElem?_eq_some_iff.mp b;exact (List.getElem_inj hN).mp (e1.trans e2.symm)
theorem Bv {M:Model} {A:Around} {E:Value→Shared→Prop} {i:Nat} {x:Str} {v:V} {u:Value} {Q:Unit→Shared→Prop} (I:Inv X pins σ H s) (hN:X.N.Nodup) (hi:X.N[i]? = some x) (hx:Loc X.env.scope x) (r:Dd v u)
  (h:∀ s',Inv X pins (σ.set i (some v)) H s'→(∃ a,Heap.SameBut a s.heap s'.heap∧(a=X.env.locals∨X.env.cells.lookup x=some a))→Q () s') (hf:X.fn x=true∨X.env.scope.names.lookup x=some .local:=by first | exact .inl rfl | exact .inr rfl | assumption):wpAny M A (storeName X.env x u) Q E s:=by
 obtain ⟨m,hn,hl⟩:=id I.loc;have hcls:(X.env.scope.kind == .class || (X.env.scope.kind == .module && X.env.locals != X.env.globals))=false:=by rw [I.ok.kind];rfl
 have hiσ:i < σ.length:=by rw [I.len];exact (List.getElem?_eq_some_iff.mp hi).1
 have cne:=I.cne;have tracked:∀ {a:Addr} {h':Heap},(∃ o,s.heap.get? a=some o∧H a=none)→Heap.SameBut a s.heap h'→HOk X.prog X.w H h':=fun {a h'} ha hs b ob e=>by
  obtain ⟨_,_,hfree⟩:=ha;refine (I.hok b ob e).stay (fun c w' hc q=>(hs.2 c ?_).trans q) (fun _ q=>q) fun _ _ q=>q
  rintro rfl;rcases hc with rfl | hc
  ·rw [hfree] at e;cases e
  ·rw [hfree] at hc;cases hc
 rcases hx with hk | hk
 ·refine wpAny_storeName_local hk hn (fun h' hn' hs=>?_) hcls;obtain ⟨oL,_,_,hoL,_⟩:=id hn;refine h _ ⟨I.ok,I.os,I.bare,⟨fun b o e n hb hx=>?_,fun b o e n hb hx=>?_,I.base.free,fun b o e hx=>?_,I.base.tups,I.base.frzs,I.base.tbls⟩,⟨_,hn',fun j y v' e1 e2 e3=>?_⟩,fun y c e=>?_,I.free,I.freeC,fun p hp=>?_,tracked ⟨oL,hoL,I.free⟩ hs,by simpa using I.len⟩ ⟨_,hs,.inl rfl⟩
  ·exact (hs.2 b (Nat.ne_of_lt (Nat.lt_of_lt_of_le (Heap.lt_size e) I.ok.above))).trans (I.base.keep b o e n hb hx)
  ·obtain ⟨sl,e1⟩:=I.base.slot b o e n hb hx;exact ⟨sl,(hs.2 b (Nat.ne_of_lt (Nat.lt_of_lt_of_le (Heap.lt_size e) I.ok.above))).trans e1⟩
  ·obtain ⟨o',e1⟩:=I.base.there b o e hx;exact ⟨o',(hs.2 b (Nat.ne_of_lt (Nat.lt_of_lt_of_le (Heap.lt_size e) I.ok.above))).trans e1⟩
  ·by_cases hj:j=i
   ·subst hj;rw [hi] at e1;cases e1;rw [List.getElem?_set_self hiσ] at e2;cases e2;exact ⟨u,r,.inl ⟨hk,by simp⟩⟩
   ·rw [List.getElem?_set_ne (Ne.symm hj)] at e2;obtain ⟨u',r',q⟩:=hl j y v' e1 e2 e3;refine ⟨u',r',?_⟩;rcases q with ⟨k,e⟩ | ⟨k,c,e,z⟩
    ·refine .inl ⟨k,?_⟩;have:y ≠ x:=fun e=>hj (tz hN e1 (e ▸ hi))
     simp [this,e]
    ·exact .inr ⟨k,c,e,z.sameBut hs (cne y c e)⟩
  ·obtain ⟨w',z⟩:=I.cell y c e;exact ⟨w',z.sameBut hs (cne y c e)⟩
  ·obtain ⟨e,n,ne,nf,d⟩:=I.pin p hp;exact ⟨(hs.2 p.1 ne).trans e,n,ne,nf,d⟩
 ·have hfn:X.fn x=true:=by
   rcases hf with z | z
   ·exact z
   ·rw [z] at hk;cases hk
  obtain ⟨c,hc⟩:=I.ok.has x (.inl hk);obtain ⟨w',z⟩:=I.cell x c hc;refine wpAny_storeName_cell I.ok.kind hk hc z (fun h' hc' hs=>?_);obtain ⟨oc,hoc,hocd⟩:=id z;refine h { s with heap:=h' } ⟨I.ok,I.os,I.bare,⟨fun b o e n hb hx=>?_,fun b o e n hb hx=>?_,I.base.free,fun b o e hx=>?_,I.base.tups,I.base.frzs,I.base.tbls⟩,⟨m,hn.sameBut hs (Ne.symm (cne x c hc)),fun j y v' e1 e2 e3=>?_⟩,fun y c' e=>?_,I.free,I.freeC,fun p hp=>?_,tracked ⟨oc,hoc,I.freeC x c hc⟩ hs,by simpa using I.len⟩ ⟨c,hs,.inr hc⟩
  ·exact (hs.2 b (Nat.ne_of_lt (Nat.lt_of_lt_of_le (Heap.lt_size e) (I.ok.cab x c hfn hc)))).trans (I.base.keep b o e n hb hx)
  ·obtain ⟨sl,e1⟩:=I.base.slot b o e n hb hx;exact ⟨sl,(hs.2 b (Nat.ne_of_lt (Nat.lt_of_lt_of_le (Heap.lt_size e) (I.ok.cab x c hfn hc)))).trans e1⟩
  ·obtain ⟨o',e1⟩:=I.base.there b o e hx;exact ⟨o',(hs.2 b (Nat.ne_of_lt (Nat.lt_of_lt_of_le (Heap.lt_size e) (I.ok.cab x c hfn hc)))).trans e1⟩
  ·by_cases hj:j=i
   ·subst hj;rw [hi] at e1;cases e1;rw [List.getElem?_set_self hiσ] at e2;cases e2;exact ⟨u,r,.inr ⟨.inl hk,c,hc,hc'⟩⟩
   ·rw [List.getElem?_set_ne (Ne.symm hj)] at e2;obtain ⟨u',r',q⟩:=hl j y v' e1 e2 e3;refine ⟨u',r',?_⟩;rcases q with q | ⟨k,c',e,z'⟩
    ·exact .inl q
    ·refine .inr ⟨k,c',e,z'.sameBut hs ?_⟩;rintro rfl;exact hj (tz hN e1 (I.ok.inj _ _ _ e hc ▸ hi))
  ·by_cases hcc:c'=c
   ·subst hcc;exact ⟨_,hc'⟩
   ·obtain ⟨w2,z2⟩:=I.cell y c' e;exact ⟨w2,z2.sameBut hs hcc⟩
  ·obtain ⟨e,n,ne,nf,d⟩:=I.pin p hp;refine ⟨(hs.2 p.1 ?_).trans e,n,ne,nf,d⟩;intro q;rw [q,hoc] at e;have q':oc=p.2:=Option.some.inj e;exact d w' (by rw [← q'];exact hocd)
theorem Yt {M:Model} {A:Around} {E:Value→Shared→Prop} {i:Nat} {x:Str} {v:V} {u:Value} {Q:Unit→Shared→Prop} (I:Inv X pins σ H s) (hN:X.N.Nodup) (hi:X.N[i]? = some x) (hx:Loc X.env.scope x) (r:Dd v u)
  (h:∀ s',Inv X pins (σ.set i (some v)) H s'→Q () s') (hf:X.fn x=true∨X.env.scope.names.lookup x=some .local:=by first | exact .inl rfl | exact .inr rfl | assumption):wpAny M A (storeName X.env x u) Q E s:=
 Bv I hN hi hx r (fun s' I' _=>h s' I') hf
theorem Inv.call' {s':Shared} {ch:List Addr} (I:Inv X pins σ H s) (ho:s'.os=s.os) (u:Un (frs X.stack) ch H H' s.heap s'.heap) (hok:HOk X.prog X.w H' s'.heap) (hg:AllBare s'.gens)
  (hch:∀ b ∈ ch,(b ∈ X.ex∨X.s₀.heap.objs.size ≤ b)∧b ≠ X.env.locals∧(∀ x c,X.env.cells.lookup x=some c→c ≠ b)∧∀ p ∈ X.pn ++ pins,p.1 ≠ b):Inv X pins σ H' s':=by
 obtain ⟨h',g',d',t',o'⟩:=s';have e:o'=s.os:=ho;subst e;exact I.call (g':=g') (t':=t') (d':=d') u hok hg hch
end
noncomputable abbrev XK:=Value→Option Addr→Hp→Prop
noncomputable abbrev St:=List (Option V)
noncomputable abbrev VK:=V→Hp→Prop
noncomputable abbrev TE:=St→Hp→VK→Prop
noncomputable abbrev TT:=St→Hp→(Bool→Hp→Prop)→Prop
noncomputable abbrev TA:=St→Hp→(List V→Hp→Prop)→Prop
structure Cj where
 nx:St→Hp→Prop
 rt:VK
 bk:St→Hp→Prop:=fun _ _=>False
 ct:St→Hp→Prop:=fun _ _=>False
noncomputable abbrev TS:=Cj→St→Hp→Prop
noncomputable def EP (X:Cx) (pins:List (Addr × Obj)) (σ:St) (Q:VK) (u:Value) (s':Shared):Prop:=∃ v H',Inv X pins σ H' s'∧Dd v u∧Q v H'
noncomputable def TP (X:Cx) (pins:List (Addr × Obj)) (σ:St) (Q:Bool→Hp→Prop) (b:Bool) (s':Shared):Prop:=∃ H',Inv X pins σ H' s'∧Q b H'
noncomputable def AP (X:Cx) (pins:List (Addr × Obj)) (σ:St) (Q:List V→Hp→Prop) (us:List Value) (s':Shared):Prop:=∃ vs H',Inv X pins σ H' s'∧Ad vs us∧Q vs H'
noncomputable def SP (X:Cx) (pins:List (Addr × Obj)) (D:Cj) (f:Flow) (s':Shared):Prop:=
 match f with
 | .next=>∃ σ' H',Inv X pins σ' H' s'∧D.nx σ' H'
 | .brk=>∃ σ' H',Inv X pins σ' H' s'∧D.bk σ' H'
 | .cont=>∃ σ' H',Inv X pins σ' H' s'∧D.ct σ' H'
 | .ret u=>∃ v σ' H',Inv X pins σ' H' s'∧Dd v u∧D.rt v H'
noncomputable def PE (X:Cx) (e:Expr) (t:TE):Prop:=
 ∀ (pins:List (Addr × Obj)) (s:Shared) (σ:St) (H:Hp) (Q:VK),Inv X pins σ H s→t σ H Q→wpAny (model X.prog X.w) X.A (eval e X.env) (EP X pins σ Q) X.xe s
noncomputable def PT (X:Cx) (e:Expr) (t:TT):Prop:=
 ∀ (pins:List (Addr × Obj)) (s:Shared) (σ:St) (H:Hp) (Q:Bool→Hp→Prop),Inv X pins σ H s→t σ H Q→wpAny (model X.prog X.w) X.A (isTrue e X.env (eval e X.env)) (TP X pins σ Q) X.xe s
noncomputable def PW (X:Cx) (e:Expr) (t:TT):Prop:=
 ∀ (whole:Sem Value) (pins:List (Addr × Obj)) (s:Shared) (σ:St) (H:Hp) (Q:Bool→Hp→Prop),Inv X pins σ H s→t σ H Q→wpAny (model X.prog X.w) X.A (isTrue e X.env whole) (TP X pins σ Q) X.xe s
theorem PW.pt {X:Cx} {e:Expr} {t:TT} (h:PW X e t):PT X e t:=h _
noncomputable def PA (X:Cx) (es:List Expr) (t:TA):Prop:=
 ∀ (pos:Pos) (pins:List (Addr × Obj)) (s:Shared) (σ:St) (H:Hp) (Q:List V→Hp→Prop),Inv X pins σ H s→t σ H Q→wpAny (model X.prog X.w) X.A (spliced (backTo pos (starEach es X.env))) (AP X pins σ Q) X.xe s
noncomputable def PS (X:Cx) (st:Stmt) (t:TS):Prop:=
 ∀ (pins:List (Addr × Obj)) (s:Shared) (σ:St) (H:Hp) (D:Cj),Inv X pins σ H s→t D σ H→wpAny (model X.prog X.w) X.A (exec st X.env) (SP X pins D) X.xe s
noncomputable def PSs (X:Cx) (st:List Stmt) (t:TS):Prop:=
 ∀ (pins:List (Addr × Obj)) (s:Shared) (σ:St) (H:Hp) (D:Cj),Inv X pins σ H s→t D σ H→wpAny (model X.prog X.w) X.A (execs st X.env) (SP X pins D) X.xe s
theorem thn {α:Type} {t:Sem α} {Q Q':α→Shared→Prop} {M:Model} {A:Around} {E:Value→Shared→Prop} {s:Shared} (h:wpAny M A t Q E s) (hQ:∀ a s,Q a s→Q' a s):wpAny M A t Q' E s:=wpAny_mono h hQ fun _ _ x=>x
end L2
namespace L2
open PySem PySem.Spec PyProof.Rows
section
variable {X:Cx}
noncomputable def aN (i:Nat):TE:=fun σ H Q=>∃ v,σ[i]? = some (some v)∧Q v H
noncomputable def tC (v:V):TE:=fun _ H Q=>Q v H
theorem qL {i:Nat} {x:Str} {pos:Pos} (hN:X.N[i]? = some x) (hv:Vis X.env.scope x) (hd:(x == ("__debug__" : Str))=false:=by decide) (hcd:(x == ("__classdict__" : Str))=false:=by decide):PE X (.Name x pos) (aN i):=by
 intro pins s σ H Q I h;obtain ⟨v,e,h⟩:=h;obtain ⟨m,hn,hl⟩:=I.loc;obtain ⟨u,r,l⟩:=hl i x v hN e hv;have fin:EP X pins σ Q u s:=⟨v,H,I,r,h⟩;rcases l with ⟨hk,hm⟩ | ⟨hk,c,hc,hcell⟩
 ·exact wpAny_Name (wpAny_loadName_local I.ok.kind hk hn hm fin) hd
 ·rcases hk with hk | hk
  ·exact wpAny_Name (wpAny_loadName_cell I.ok.kind hk hc hcell fin) hd
  ·exact wpAny_Name (wpAny_loadName_free I.ok.kind hk hc hcell fin hcd) hd
theorem pb {i j pos}:PE X (.Constant (.int i) j pos) (tC (.int i)):=fun _ _ _ H _ I h=>wpAny_Constant_int ⟨.int i,H,I.tok _,⟨_,rfl⟩,h⟩
theorem En {b j pos}:PE X (.Constant (.bool b) j pos) (tC (.bl b)):=fun _ _ _ H _ I h=>Constant_bool ⟨.bl b,H,I,rfl,h⟩
theorem Ww {j pos}:PE X (.Constant .none j pos) (tC .non):=fun _ _ _ H _ I h=>Constant_none ⟨.non,H,I,rfl,h⟩
theorem Wc {x j pos}:PE X (.Constant (.str x) j pos) (tC (.str x)):=fun _ _ _ H _ I h=>Calls.Constant_str ⟨.str x,H,I.tok _,⟨_,rfl⟩,h⟩
noncomputable def Gl (X:Cx) (x:Str):Prop:=X.env.kindOf x=some .globalImplicit
theorem Cu {E:Value→Shared→Prop} {pins:List (Addr × Obj)} {s:Shared} {σ:St} {H:Hp} {x:Str} {u:Value} {pos:Pos} {Q:Value→Shared→Prop} (I:Inv X pins σ H s) (hg:Gl X x) (hm:X.mg x=some u) (h:Q u s)
  (hd:(x == ("__debug__" : Str))=false:=by decide):wpAny (model X.prog X.w) X.A (eval (.Name x pos) X.env) Q E s:=
 Calls.Name_function_global I.ok.kind hg (Calls.loadGlobal_global (by rw [I.ok.glob];exact I.mod.glob.keeps I.bk) hm h) hd
theorem Ym {E:Value→Shared→Prop} {pins:List (Addr × Obj)} {s:Shared} {σ:St} {H:Hp} {x:Str} {u:Value} {pos:Pos} {Q:Value→Shared→Prop} (I:Inv X pins σ H s) (hg:Gl X x) (hm:X.mg x=none) (hv:bootBuiltins x=some u) (h:Q u s)
  (hn:x ≠ "__name__" := by decide) (hd:(x == ("__debug__" : Str))=false:=by decide):wpAny (model X.prog X.w) X.A (eval (.Name x pos) X.env) Q E s:=by
 obtain ⟨mb,h1,h2⟩:=I.mod.blt;exact Calls.Name_function_global I.ok.kind hg (Calls.loadGlobal_builtin (by rw [I.ok.glob];exact I.mod.glob.keeps I.bk) hm (by rw [I.ok.blt];exact h1.keeps I.bk) ((h2 x hn).trans hv) h) hd
theorem dg {x:Str} {v:V} {u:Value} {pos:Pos} (hg:Gl X x) (hm:X.mg x=some u) (r:Dd v u) (hd:(x == ("__debug__" : Str))=false:=by decide):PE X (.Name x pos) (tC v):=
 fun _ _ _ H _ I h=>Cu I hg hm ⟨v,H,I,r,h⟩ hd
theorem Hn {x:Str} {v:V} {u:Value} {pos:Pos} (hg:Gl X x) (hm:X.mg x=none) (hv:bootBuiltins x=some u) (r:Dd v u) (hn:x ≠ "__name__" := by decide) (hd:(x == ("__debug__" : Str))=false:=by decide):PE X (.Name x pos) (tC v):=
 fun _ _ _ H _ I h=>Ym I hg hm hv ⟨v,H,I,r,h⟩ hn hd
variable {a b:Expr} {ta tb:TE} {pos:Pos}
noncomputable def PC (X:Cx) (op:CmpOp) (a b:Expr) (t:TE):Prop:=
 ∀ (pins:List (Addr × Obj)) (s:Shared) (σ:St) (H:Hp) (Q:VK),Inv X pins σ H s→t σ H Q →
  wpAny (model X.prog X.w) X.A (eval a X.env) (fun v s₁=>wpAny (model X.prog X.w) X.A (eval b X.env) (fun u s₂=>wpAny (model X.prog X.w) X.A (compareOp op v u) (EP X pins σ Q) X.xe s₂) X.xe s₁) X.xe s
theorem mF (b:Expr) {op:CmpOp} (h:op ≠ .In) (h2:op ≠ .NotIn):behindInMarks op b=false:=by
 have e1:(op == CmpOp.In)=false:=by cases op <;> first | rfl | exact absurd rfl h
 have e2:(op == CmpOp.NotIn)=false:=by cases op <;> first | rfl | exact absurd rfl h2
 cases b <;> simp [behindInMarks,e1,e2]
noncomputable def tB (t:TE):TT:=fun σ H Q=>t σ H fun x H1=>∃ c,x=.bl c∧Q c H1
theorem cM {op:CmpOp} {t:TE} (h:PC X op a b t) (h1:behindInMarks op b=false:=by first | exact mF _ (by decide) (by decide) | rfl):PT X (.Compare a [op] [b] pos) (tB t):=by
 intro pins s σ H Q I hw;refine wpAny_isTrue_Compare1 (thn (h pins s σ H _ I hw) fun v s1 h1=>thn h1 fun u s2 h2=>thn h2 fun c s3 hZ1=>?_) h1;obtain ⟨x,H1,I1,r1,q1⟩:=hZ1;obtain ⟨d,rfl,q⟩:=q1;cases r1;exact wpAny_truthy_bool ⟨H1,I1,q⟩
theorem Ki {e:Expr} {t:TE} (h:PE X e t) (he:∀ whole,isTrue e X.env whole=(do let v ← whole;standAt e.pos;holding [v] (truthy v)):=by intro _;rfl):PT X e (tB t):=by
 intro pins s σ H Q I hw;refine isTrue_plain (thn (h pins s σ H _ I hw) fun v s1 hZ1=>?_) (he _);obtain ⟨x,H1,I1,r1,q1⟩:=hZ1;obtain ⟨d,rfl,q⟩:=q1;cases r1;exact wpAny_truthy_bool ⟨H1,I1,q⟩
variable {tA tB':TT} {jn:List Expr}
noncomputable def zN (t u:TT):TT:=fun σ H Q=>t σ H fun c H1=>if c=true then u σ H1 Q else Q false H1
noncomputable def tOr (t u:TT):TT:=fun σ H Q=>t σ H fun c H1=>if c=true then Q true H1 else u σ H1 Q
noncomputable def fN (t:TT):TT:=fun σ H Q=>t σ H fun c H1=>Q (!c) H1
theorem cy (ha:PT X a tA):PW X (.BoolOp .And [a] pos) tA:=by
 intro wh pins s σ H Q I h;refine isTrue_and (thn (ha pins s σ H Q I h) fun c s1 e=>?_);cases c with
 | true=>exact isTrue_and_nil e
 | false=>exact e
theorem Wm (ha:PT X a tA):PW X (.BoolOp .Or [a] pos) tA:=by
 intro wh pins s σ H Q I h;refine isTrue_or (thn (ha pins s σ H Q I h) fun c s1 e=>?_);cases c with
 | false=>exact isTrue_or_nil e
 | true=>exact e
theorem dC (ha:PT X a tA) (hb:PW X (.BoolOp .And (b :: jn) pos) tB'):PW X (.BoolOp .And (a :: b :: jn) pos) (zN tA tB'):=by
 intro wh pins s σ H Q I h;refine isTrue_and (thn (ha pins s σ H _ I h) fun c s1 hZ1=>?_);obtain ⟨H1,I1,q1⟩:=hZ1;cases c with
 | true=>exact hb wh pins s1 σ H1 Q I1 q1
 | false=>exact ⟨H1,I1,q1⟩
theorem Fm (ha:PT X a tA) (hb:PW X (.BoolOp .Or (b :: jn) pos) tB'):PW X (.BoolOp .Or (a :: b :: jn) pos) (tOr tA tB'):=by
 intro wh pins s σ H Q I h;refine isTrue_or (thn (ha pins s σ H _ I h) fun c s1 hZ1=>?_);obtain ⟨H1,I1,q1⟩:=hZ1;cases c with
 | true=>exact ⟨H1,I1,q1⟩
 | false=>exact hb wh pins s1 σ H1 Q I1 q1
theorem xo (ha:PT X a tA):PT X (.UnaryOp .Not a pos) (fN tA):=by
 intro pins s σ H Q I h;exact isTrue_not (ha pins s σ H (fun c H1=>Q (!c) H1) I h)
noncomputable def WJ (ta tb:TE):TE:=fun σ H Q=>ta σ H fun x H1=>∃ c,x=.bl c∧if c=true then tb σ H1 Q else Q (.bl false) H1
noncomputable def ON (ta tb:TE):TE:=fun σ H Q=>ta σ H fun x H1=>∃ c,x=.bl c∧if c=true then Q (.bl true) H1 else tb σ H1 Q
theorem fw {op} {t:TE} (h:PE X a t):PE X (.BoolOp op [a] pos) t:=fun pins s σ H Q I hw=>BoolOp_one (h pins s σ H Q I hw)
theorem qB (ha:PE X a ta) (hb:PE X (.BoolOp .And (b :: jn) pos) tb):PE X (.BoolOp .And (a :: b :: jn) pos) (WJ ta tb):=by
 intro pins s σ H Q I h;refine BoolOp_and (thn (ha pins s σ H _ I h) fun v s1 hZ1=>?_);obtain ⟨x,H1,I1,r1,q1⟩:=hZ1;obtain ⟨c,rfl,q1⟩:=q1;cases r1;refine wpAny_truthy_bool ?_;cases c with
 | true=>exact hb pins s1 σ H1 Q I1 q1
 | false=>exact ⟨.bl false,H1,I1,rfl,q1⟩
theorem cL (ha:PE X a ta) (hb:PE X (.BoolOp .Or (b :: jn) pos) tb):PE X (.BoolOp .Or (a :: b :: jn) pos) (ON ta tb):=by
 intro pins s σ H Q I h;refine BoolOp_or (thn (ha pins s σ H _ I h) fun v s1 hZ1=>?_);obtain ⟨x,H1,I1,r1,q1⟩:=hZ1;obtain ⟨c,rfl,q1⟩:=q1;cases r1;refine wpAny_truthy_bool ?_;cases c with
 | false=>exact hb pins s1 σ H1 Q I1 q1
 | true=>exact ⟨.bl true,H1,I1,rfl,q1⟩
noncomputable def tIf (t:TT) (ta tb:TE):TE:=fun σ H Q=>t σ H fun c H1=>if c=true then ta σ H1 Q else tb σ H1 Q
theorem up {c:Expr} (hc:PT X c tA) (ha:PE X a ta) (hb:PE X b tb):PE X (.IfExp c a b pos) (tIf tA ta tb):=by
 intro pins s σ H Q I h;refine wpAny_IfExp (thn (hc pins s σ H _ I h) fun d s1 hZ1=>?_);obtain ⟨H1,I1,q1⟩:=hZ1;cases d with
 | true=>exact ha pins s1 σ H1 Q I1 q1
 | false=>exact hb pins s1 σ H1 Q I1 q1
end
end L2
namespace L2
open PySem PySem.Spec PyProof.Rows
noncomputable def SqL (K:PySem.W.Frag) (H:Hp) (a:Addr) (xs:List V):Prop:=
 Rd H a (.lst xs) ∨
  ∃ (o:Obj) (its:Array Value) (n:Nat),K.lookup a=some o∧o.cls=.type "list" ∧ o.dict=none∧o.data=.seq its n∧its.size ≤ sizeLine∧Ad xs its.toList
noncomputable def SqT (K:PySem.W.Frag) (H:Hp) (a:Addr) (xs:List V):Prop:=
 Rd H a (.tup xs) ∨
  ∃ (o:Obj) (its:Array Value) (n:Nat),K.lookup a=some o∧o.cls=.type "tuple" ∧ o.data=.seq its n∧its.size ≤ sizeLine∧Ad xs its.toList
noncomputable def YN:Value→Option V
 | .none=>some .non
 | .bool b=>some (.bl b)
 | .int i _=>some (.int i)
 | .str x _=>some (.str x)
 | .bytes b _=>some (.byt b)
 | .float b _=>some (.flt b)
 | .ref a=>some (.ref a)
 | .type n=>some (.ty n)
 | _=>none
theorem Dd.abs {x:V} {u:Value} (r:Dd x u):YN u=some x:=by
 cases x with
 | non=>cases r;rfl
 | bl _=>cases r;rfl
 | int _=>obtain ⟨t,rfl⟩:=r;rfl
 | str _=>obtain ⟨t,rfl⟩:=r;rfl
 | byt _=>obtain ⟨t,rfl⟩:=r;rfl
 | flt _=>obtain ⟨t,rfl⟩:=r;rfl
 | ref _=>cases r;rfl
 | ty _=>cases r;rfl
theorem Dd.inj {x y:V} {u:Value} (r:Dd x u) (q:Dd y u):x=y:=Option.some.inj (r.abs.symm.trans q.abs)
theorem Ad.inj:∀ {xs ys:List V} {us:List Value},Ad xs us→Ad ys us→xs=ys
 | _,_,_,.nil,.nil=>rfl
 | _,_,_,.cons r t,.cons r' t'=>by rw [r.inj r',Ad.inj t t']
section
variable {X:Cx} {pins:List (Addr × Obj)} {σ:St} {H:Hp} {s:Shared} {a:Addr} {xs ys:List V}
theorem SqL.of {K:PySem.W.Frag} (h:H a=some (.lst xs)):SqL K H a xs:=.inl (.inl h)
theorem SqT.of {K:PySem.W.Frag} (h:H a=some (.tup xs)):SqT K H a xs:=.inl (.inl h)
theorem Inv.list (I:Inv X pins σ H s) (h:SqL X.K H a xs):∃ its:List Value,Ad xs its∧PlainL s.heap a its.toArray∧xs.length ≤ sizeLine:=by
 rcases h with h | ⟨o,its,n,hk,hc,hd,hs,hz,r⟩
 ·obtain ⟨z,its,n,r,e⟩:=h.ok I.hok;exact ⟨its,r,⟨_,n,e,rfl,rfl,rfl⟩,z⟩
 ·refine ⟨its.toList,r,⟨o,n,I.kIn a o hk,hc,hd,by simpa using hs⟩,?_⟩;have e:=r.length;simp only [Array.length_toList] at e;omega
theorem Inv.tuple (I:Inv X pins σ H s) (h:SqT X.K H a xs):∃ its:List Value,Ad xs its∧IsTup s.heap a its.toArray∧xs.length ≤ sizeLine:=by
 rcases h with h | ⟨o,its,n,hk,hc,hs,hz,r⟩
 ·obtain ⟨z,its,r,p⟩:=h.ok I.hok;exact ⟨its,r,p,z⟩
 ·refine ⟨its.toList,r,⟨o,I.kIn a o hk,hc,n,by simpa using hs⟩,?_⟩;have e:=r.length;simp only [Array.length_toList] at e;omega
theorem Inv.list_inj (I:Inv X pins σ H s) (h:SqL X.K H a xs) (h':SqL X.K H a ys):xs=ys:=by
 obtain ⟨its,r,⟨o,n,e,_,_,d⟩,_⟩:=I.list h;obtain ⟨its',r',⟨o',n',e',_,_,d'⟩,_⟩:=I.list h';rw [e] at e';cases e';rw [d] at d';injection d' with d1 _;have:its=its':=by simpa using congrArg Array.toList d1
 subst this;exact r.inj r'
theorem Inv.tuple_inj (I:Inv X pins σ H s) (h:SqT X.K H a xs) (h':SqT X.K H a ys):xs=ys:=by
 obtain ⟨its,r,⟨o,e,_,n,d⟩,_⟩:=I.tuple h;obtain ⟨its',r',⟨o',e',_,n',d'⟩,_⟩:=I.tuple h';rw [e] at e';cases e';rw [d] at d';injection d' with d1 _;have:its=its':=by simpa using congrArg Array.toList d1
 subst this;exact r.inj r'
end
noncomputable abbrev Cx.wish (X:Cx) (E:Value→Shared→Prop):Cx:={ X with xe:=E }
noncomputable abbrev Cx.nox (X:Cx):Cx:=X.wish fun _ _=>False
theorem Cx.Ok.wish {X:Cx} (ok:X.Ok) (E:Value→Shared→Prop):(X.wish E).Ok:=
 ⟨ok.mod,ok.kind,ok.glob,ok.blt,ok.above,ok.inj,ok.has,ok.cab,ok.hd,ok.frames,ok.stk,ok.exf,ok.bs,ok.bsz,ok.noex,ok.exfs,ok.funs,ok.frf⟩
theorem Cx.Ok.unwish {X:Cx} {E:Value→Shared→Prop} (ok:(X.wish E).Ok):X.Ok:=
 ⟨ok.mod,ok.kind,ok.glob,ok.blt,ok.above,ok.inj,ok.has,ok.cab,ok.hd,ok.frames,ok.stk,ok.exf,ok.bs,ok.bsz,ok.noex,ok.exfs,ok.funs,ok.frf⟩
section
variable {X:Cx} {pins:List (Addr × Obj)} {σ:St} {H:Hp} {s:Shared} {E:Value→Shared→Prop}
theorem Inv.wish (I:Inv X pins σ H s) (E:Value→Shared→Prop):Inv (X.wish E) pins σ H s:=⟨I.ok.wish E,I.os,I.bare,I.base,I.loc,I.cell,I.free,I.freeC,I.pin,I.hok,I.len⟩
theorem Inv.unwish (I:Inv (X.wish E) pins σ H s):Inv X pins σ H s:=⟨I.ok.unwish,I.os,I.bare,I.base,I.loc,I.cell,I.free,I.freeC,I.pin,I.hok,I.len⟩
theorem SP.unwish {D:Cj} {f:Flow} {s':Shared} (h:SP (X.wish E) pins D f s'):SP X pins D f s':=by
 cases f with
 | next=>obtain ⟨σ',H',I,q⟩:=h;exact ⟨σ',H',I.unwish,q⟩
 | brk=>obtain ⟨σ',H',I,q⟩:=h;exact ⟨σ',H',I.unwish,q⟩
 | cont=>obtain ⟨σ',H',I,q⟩:=h;exact ⟨σ',H',I.unwish,q⟩
 | ret u=>obtain ⟨v,σ',H',I,r,q⟩:=h;exact ⟨v,σ',H',I.unwish,r,q⟩
theorem PE.nox {e:Expr} {t:TE} (h:PE X.nox e t):PE X e t:=fun pins s σ H Q I hw=>
 wpAny_mono (h pins s σ H Q (I.wish _) hw) (fun _ _ ⟨v,H',I',r,q⟩=>⟨v,H',I'.unwish,r,q⟩) fun _ _ z=>False.elim z
theorem PT.nox {e:Expr} {t:TT} (h:PT X.nox e t):PT X e t:=fun pins s σ H Q I hw=>
 wpAny_mono (h pins s σ H Q (I.wish _) hw) (fun _ _ ⟨H',I',q⟩=>⟨H',I'.unwish,q⟩) fun _ _ z=>False.elim z
theorem PSs.nox {st:List Stmt} {t:TS} (h:PSs X.nox st t):PSs X st t:=fun pins s σ H D I hw=>
 wpAny_mono (h pins s σ H D (I.wish _) hw) (fun _ _ q=>q.unwish) fun _ _ z=>False.elim z
end
section
variable {X:Cx} {st:Stmt} {jn:List Stmt} {t u:TS} {e:Expr} {te:TE} {pos:Pos}
noncomputable def WK:TS:=fun D σ H=>D.nx σ H
noncomputable def pN (t u:TS):TS:=fun D σ H=>t { D with nx:=u D } σ H
theorem vc:PSs X [] WK:=fun _ _ σ H _ I h=>wpAny_execs_nil ⟨σ,H,I,h⟩
theorem db (h1:PS X st t) (h2:PSs X jn u):PSs X (st :: jn) (pN t u):=by
 intro pins s σ H D I h;refine wpAny_execs_cons (thn (h1 pins s σ H { D with nx:=u D } I h) fun f s1 q=>?_);cases f with
 | next=>
  obtain ⟨σ',H',I',q⟩:=q;exact h2 pins s1 σ' H' D I' q
 | ret v=>exact q
 | brk=>exact q
 | cont=>exact q
theorem qb (h1:PS X st t):PSs X [st] t:=by
 intro pins s σ H D I h;refine wpAny_execs_cons (thn (h1 pins s σ H D I h) fun f s1 q=>?_);cases f with
 | next=>exact wpAny_execs_nil q
 | ret v=>exact q
 | brk=>exact q
 | cont=>exact q
theorem Inv.quiet {pins:List (Addr × Obj)} {σ:St} {H:Hp} {s:Shared} (I:Inv X pins σ H s):interactive X.env=false:=by simp [interactive,I.ok.kind]
noncomputable def EK (te:TE):TS:=fun D σ H=>te σ H fun _ H1=>D.nx σ H1
theorem Fc (he:PE X e te) (hs:swapsWith e none pos.line X.env=pure false:=by rfl):PS X (.Expr e pos) (EK te):=by
 intro pins s σ H D I h;exact wpAny_Expr_any (thn (he pins s σ H _ I h) fun v s1 ⟨x,H1,I1,r1,q1⟩=>⟨σ,H1,I1,q1⟩) I.quiet hs
noncomputable def yM (te:TE):TS:=fun D σ H=>te σ H D.rt
theorem Gb (he:PE X e te):PS X (.Return (some e) pos) (yM te):=by
 intro pins s σ H D I h;exact wpAny_Return_some (thn (he pins s σ H _ I h) fun v s1 ⟨x,H1,I1,r1,q1⟩=>⟨x,σ,H1,I1,r1,q1⟩)
noncomputable def uM (c:TT) (t u:TS):TS:=fun D σ H=>c σ H fun b H1=>if b=true then t D σ H1 else u D σ H1
theorem Be {c:Expr} {a b:List Stmt} {tc:TT} (hc:PT X c tc) (ha:PSs X a t) (hb:PSs X b u):PS X (.If c a b pos) (uM tc t u):=by
 intro pins s σ H D I h;refine wpAny_If (thn (hc pins s σ H _ I h) fun d s1 hZ1=>?_);obtain ⟨H1,I1,q1⟩:=hZ1;cases d with
 | true=>exact ha pins s1 σ H1 D I1 q1
 | false=>exact hb pins s1 σ H1 D I1 q1
noncomputable def tH:TS:=fun _ _ _=>False
theorem Dg:PS X st tH:=fun _ _ _ _ _ _ h=>h.elim
end
noncomputable abbrev TG:=V→St→Hp→(St→Hp→Prop)→Prop
noncomputable abbrev TGs:=List V→St→Hp→(St→Hp→Prop)→Prop
noncomputable def PG (X:Cx) (target:Expr) (t:TG):Prop:=
 ∀ (pins:List (Addr × Obj)) (s:Shared) (σ:St) (H:Hp) (v:V) (u:Value) (Q:St→Hp→Prop),Inv X pins σ H s→Dd v u→t v σ H Q →
  wpAny (model X.prog X.w) X.A (assign target X.env u) (fun _ s'=>∃ σ' H',Inv X pins σ' H' s'∧Q σ' H') X.xe s
noncomputable def PGs (X:Cx) (ts:List Expr) (t:TGs):Prop:=
 ∀ (pins:List (Addr × Obj)) (s:Shared) (σ:St) (H:Hp) (vs:List V) (us:List Value) (Q:St→Hp→Prop),Inv X pins σ H s→Ad vs us→t vs σ H Q →
  wpAny (model X.prog X.w) X.A (assignInOrder ((assignEach ts X.env).map (·.2)) us) (fun _ s'=>∃ σ' H',Inv X pins σ' H' s'∧Q σ' H') X.xe s
noncomputable abbrev qM:=V→V→V→Hp→(Hp→Prop)→Prop
noncomputable def DN (X:Cx) (t:qM):Prop:=
 ∀ (pins:List (Addr × Obj)) (s:Shared) (σ:St) (H:Hp) (o i v:V) (ov iv u:Value) (Q:Hp→Prop),Inv X pins σ H s→Dd o ov→Dd i iv→Dd v u→t o i v H Q →
  wpAny (model X.prog X.w) X.A (setItem ov iv u) (fun _ s'=>∃ H',Inv X pins σ H' s'∧Q H') X.xe s
noncomputable abbrev TIp:=V→V→Hp→VK→Prop
noncomputable def PIp (X:Cx) (op:Operator) (t:TIp):Prop:=
 ∀ (pins:List (Addr × Obj)) (s:Shared) (σ:St) (H:Hp) (x y:V) (v u:Value) (Q:VK),Inv X pins σ H s→Dd x v→Dd y u→t x y H Q →
  wpAny (model X.prog X.w) X.A (inplaceOp op v u) (EP X pins σ Q) X.xe s
section
variable {X:Cx} {pos:Pos}
noncomputable def Nw (i:Nat):TG:=fun v σ H Q=>Q (σ.set i (some v)) H
theorem yb {i:Nat} {x:Str} (hN:X.N.Nodup) (hi:X.N[i]? = some x) (hx:Loc X.env.scope x) (hf:X.fn x=true∨X.env.scope.names.lookup x=some .local:=by first | exact .inl rfl | exact .inr rfl | assumption):PG X (.Name x pos) (Nw i):=by
 intro pins s σ H v u Q I r h;exact wpAny_assign_Name (Yt I hN hi hx r (fun s' I'=>⟨_,H,I',h⟩) hf)
noncomputable def lM:TGs:=fun vs σ H Q=>vs=[]∧Q σ H
noncomputable def zA (t:TG) (u:TGs):TGs:=fun vs σ H Q=>∃ v r,vs=v :: r∧t v σ H fun σ' H'=>u r σ' H' Q
theorem Ue:PGs X [] lM:=by
 intro pins s σ H vs us Q I r h;obtain ⟨e,h⟩:=h;subst e;cases r;exact assignInOrder_nil ⟨σ,H,I,h⟩
theorem Nb {e:Expr} {es:List Expr} {t:TG} {u:TGs} (h1:PG X e t) (h2:PGs X es u)
  (hs:(assignEach (e :: es) X.env).map (·.2)=assign e X.env :: (assignEach es X.env).map (·.2):=by rfl):PGs X (e :: es) (zA t u):=by
 intro pins s σ H vs us Q I r h;obtain ⟨v,vr,e1,h⟩:=h;subst e1;cases r with
 | cons r rr=>
  rw [hs];refine assignInOrder_cons (thn (h1 pins s σ H _ _ _ I r h) fun _ s1 hZ1=>?_);obtain ⟨σ1,H1,I1,q1⟩:=hZ1;exact h2 pins s1 σ1 H1 _ _ Q I1 rr q1
noncomputable def KK (K:PySem.W.Frag) (n:Nat) (t:TGs):TG:=fun v σ H Q=>∃ a xs,v=.ref a∧SqT K H a xs∧xs.length=n∧t xs σ H Q
theorem LK {es:List Expr} {k:Nat} {t:TGs} {n:Nat} (hc:X.calm=true) (h:PGs X es t)
  (hn:(assignEach es X.env).length=n:=by rfl) (hst:(assignEach es X.env).findIdx? (·.1)=none:=by rfl):PG X (.Tuple es k pos) (KK X.K n t):=by
 intro pins s σ H v u Q I r hw;obtain ⟨a,xs,e1,hq,hl,hw⟩:=hw;subst e1;cases r;obtain ⟨its,rv,ht,hz⟩:=I.tuple hq;refine assign_Tuple_tuple (I.ok.hd hc) ht (by simp [hn,← hl,rv.length]) hst fun h' hx=>?_
 have I1:Inv X pins σ H { s with heap:=h' }:=I.kept (t':=s.toks) fun b o e=>hx b o (Nat.ne_of_lt (Heap.lt_size e)) e
 exact h pins _ σ H xs _ Q I1 (by simpa using rv) hw
noncomputable def NN (to ti:TE) (t:qM):TG:=fun v σ H Q=>to σ H fun o H1=>ti σ H1 fun i H2=>t o i v H2 fun H3=>Q σ H3
theorem Pq {o i:Expr} {to ti:TE} {t:qM} (ho:PE X o to) (hi:PE X i ti) (hs:DN X t)
  (ha:∀ v,assign (.Subscript o i pos) X.env v=(do
   let ov ← holding [v] (eval o X.env)
   let iv ← holding [v,ov] (eval i X.env)
   standAt pos
   holding [v,ov,iv] (setItem ov iv v)
   release [v,ov,iv] []):=by intro _;rfl):PG X (.Subscript o i pos) (NN to ti t):=by
 intro pins s σ H v u Q I r h;rw [ha];refine wpAny_bind (wpAny_holding (thn (ho pins s σ H _ I h) fun ov s1 hZ1=>?_));obtain ⟨x,H1,I1,r1,q1⟩:=hZ1;refine wpAny_bind (wpAny_holding (thn (hi pins s1 σ H1 _ I1 q1) fun iv s2 hZ1=>?_));obtain ⟨y,H2,I2,r2,q2⟩:=hZ1;refine wpAny_bind (wpAny_standAt (wpAny_bind (wpAny_holding (thn (hs pins s2 σ H2 x y v ov iv u _ I2 r1 r2 r q2) fun _ s3 hZ1=>?_))));obtain ⟨H3,I3,q3⟩:=hZ1;exact wpAny_release ⟨σ,H3,I3,q3⟩
noncomputable def oM (te:TE) (g:TG):TS:=fun D σ H=>te σ H fun x H1=>g x σ H1 D.nx
theorem Vj {tg e:Expr} {te:TE} {g:TG} (he:PE X e te) (hg:PG X tg g) (hs:swapsWithSole [tg] e pos.line X.env=pure false:=by rfl) (hw:swappedStores [tg] e X.env=pure none:=by rfl)
  (h1:(assignEach [tg] X.env).map (·.2)=[assign tg X.env]:=by rfl):PS X (.Assign [tg] e pos) (oM te g):=by
 intro pins s σ H D I h;refine wpAny_Assign_stores (thn (he pins s σ H _ I h) fun v s1 hZ1=>?_) hs hw;obtain ⟨x,H1,I1,r1,q1⟩:=hZ1;rw [h1];exact thn (hg pins s1 σ H1 x v _ I1 r1 q1) fun _ s2 q=>q
theorem Cb {i:Nat} {x:Str} {e:Expr} {te:TE} {pos':Pos} (hN:X.N.Nodup) (hi:X.N[i]? = some x) (hx:Loc X.env.scope x) (he:PE X e te) (hs:swapsWith e (some (.Name x pos')) pos.line X.env=pure false:=by rfl) (hf:X.fn x=true∨X.env.scope.names.lookup x=some .local:=by first | exact .inl rfl | exact .inr rfl | assumption) :
  PS X (.Assign [.Name x pos'] e pos) (oM te (Nw i)):=by
 intro pins s σ H D I h;refine wpAny_Assign_Name (thn (he pins s σ H _ I h) fun v s1 hZ1=>?_) hs;obtain ⟨y,H1,I1,r1,q1⟩:=hZ1;exact Yt I1 hN hi hx r1 (fun s2 I2=>⟨_,H1,I2,q1⟩) hf
noncomputable def mN (i:Nat) (te:TE) (ti:TIp):TS:=fun D σ H=>∃ x,σ[i]? = some (some x)∧te σ H fun y H1=>ti x y H1 fun z H2=>D.nx (σ.set i (some z)) H2
theorem bH {i:Nat} {x:Str} {e:Expr} {te:TE} {op:Operator} {ti:TIp} {pos':Pos} (hN:X.N.Nodup) (hi:X.N[i]? = some x) (hx:Loc X.env.scope x) (he:PE X e te) (ho:PIp X op ti) (hf:X.fn x=true∨X.env.scope.names.lookup x=some .local:=by first | exact .inl rfl | exact .inr rfl | assumption) :
  PS X (.AugAssign (.Name x pos') op e pos) (mN i te ti):=by
 intro pins s σ H D I h;obtain ⟨v,e1,h⟩:=h;obtain ⟨m,hn,hl⟩:=I.loc;have vis:Vis X.env.scope x:=by rcases hx with k | k;exact .inl k;exact .inr (.inl k)
 obtain ⟨u,r,l⟩:=hl i x v hi e1 vis;refine wpAny_AugAssign_Name ?_;have go:wpAny (model X.prog X.w) X.A (eval e X.env) (fun w s₂=>wpAny (model X.prog X.w) X.A (inplaceOp op u w) (fun r s₃=>wpAny (model X.prog X.w) X.A (storeName X.env x r) (fun _=>SP X pins D .next) X.xe s₃) X.xe s₂) X.xe s:=by
  refine thn (he pins s σ H _ I h) fun w s1 hZ1=>?_
  obtain ⟨y,H1,I1,r1,q1⟩:=hZ1;refine thn (ho pins s1 σ H1 v y u w _ I1 r r1 q1) fun z s2 hZ1=>?_
  obtain ⟨zv,H2,I2,r2,q2⟩:=hZ1;exact Yt I2 hN hi hx r2 (fun s3 I3=>⟨_,H2,I3,q2⟩) hf
 rcases l with ⟨hk,hm⟩ | ⟨hk,c,hc,hcell⟩
 ·exact wpAny_loadName_local I.ok.kind hk hn hm go
 ·rcases hk with hk | hk
  ·exact wpAny_loadName_cell I.ok.kind hk hc hcell go
  ·rcases hx with k | k
   ·have:X.env.scope.names.lookup x=some .free:=hk;rw [k] at this;cases this
   ·have:X.env.scope.names.lookup x=some .free:=hk;rw [k] at this;cases this
noncomputable def ipI (f:Int→Int→Int):TIp:=fun x y H Q=>∃ i j,x=.int i∧y=.int j∧Q (.int (f i j)) H
theorem iL:PIp X .Add (ipI fun i j=>i + j):=by
 intro pins s σ H x y v u Q I r1 r2 h;obtain ⟨i,j,e1,e2,q⟩:=h;subst e1;subst e2;obtain ⟨t,rfl⟩:=r1;obtain ⟨t',rfl⟩:=r2;exact iadd_int ⟨.int _,H,I.tok _,⟨_,rfl⟩,q⟩
theorem YL:PIp X .Sub (ipI fun i j=>i - j):=by
 intro pins s σ H x y v u Q I r1 r2 h;obtain ⟨i,j,e1,e2,q⟩:=h;subst e1;subst e2;obtain ⟨t,rfl⟩:=r1;obtain ⟨t',rfl⟩:=r2;exact isub_int ⟨.int _,H,I.tok _,⟨_,rfl⟩,q⟩
end
section
variable {X:Cx} {pos:Pos}
end
structure It where
 go:Nat→Hp→Prop
 yld:Nat→Hp→V→Hp→Prop
 stop:Nat→Hp→Prop
noncomputable def Gw (X:Cx) (pins:List (Addr × Obj)) (H:Hp) (b:Addr):Prop:=
 H b=none∧b ≠ X.env.locals∧b ∉ X.fs∧(b ∈ X.ex∨X.s₀.heap.objs.size ≤ b)∧(∀ x c,X.env.cells.lookup x=some c→c ≠ b)∧∀ p ∈ X.pn ++ pins,p.1 ≠ b
theorem Inv.fpOk {X:Cx} {pins:List (Addr × Obj)} {σ:St} {H H':Hp} {s:Shared} {b:Addr} (I:Inv X pins σ H s) (hb:s.heap.objs.size ≤ b) (hn:H' b=none):Gw X pins H' b:=by
 refine ⟨hn,Nat.ne_of_gt (Nat.lt_of_lt_of_le I.lt hb),I.nofs hb,.inr (Nat.le_trans I.sz hb),fun x c e z=>?_,fun p hp z=>?_⟩
 ·obtain ⟨v,q⟩:=I.cell x c e;exact absurd (Nat.lt_of_lt_of_le q.lt (by rw [z];exact hb)) (Nat.lt_irrefl _)
 ·exact absurd (Nat.lt_of_lt_of_le (Heap.lt_size (I.pin p hp).1) (by rw [z];exact hb)) (Nat.lt_irrefl _)
structure MJ (P:Program) (w:World) (K:PySem.W.Frag) (tg:Expr) (J:It) (fp:List Addr) (it:Addr) (tn:Nat→Heap→Prop):Prop where
 mem:it ∈ fp
 obj:∀ i h,tn i h→∀ b ∈ fp,∃ o,h.get? b=some o∧∀ v,o.data ≠ .cell v
 keep:∀ i h h',tn i h→(∀ b ∈ fp,∀ o,h.get? b=some o→h'.get? b=some o)→tn i h'
 item:∀ (X:Cx),X.prog=P→X.w=w→X.K=K→X.calm=true→∀ (i:Nat) (pins:List (Addr × Obj)) (s:Shared) (σ:St) (H:Hp) (E:Value→Shared→Prop),Inv X pins σ H s→(∀ b ∈ fp,Gw X pins H b)→tn i s.heap→J.go i H →
  wpAny (model P w) X.A (pyNext (.ref it)) (fun r s1=>∃ u,r=some u ∧
   wpAny (model P w) X.A (letOwnedTupleGo tg (.ref it) u) (fun _ s2=>∃ x H',Inv X pins σ H' s2∧Dd x u∧J.yld i H x H'∧tn (i + 1) s2.heap∧∀ b ∈ fp,H' b=none) E s1) E s
 done:∀ (X:Cx),X.prog=P→X.w=w→X.K=K→X.calm=true→∀ (i:Nat) (pins:List (Addr × Obj)) (s:Shared) (σ:St) (H:Hp) (E:Value→Shared→Prop),Inv X pins σ H s→(∀ b ∈ fp,Gw X pins H b)→tn i s.heap→J.stop i H →
  wpAny (model P w) X.A (pyNext (.ref it)) (fun r s1=>r=none∧Inv X pins σ H s1) E s
 self:∀ (A:Around) (i:Nat) (s:Shared) (Q:Value→Shared→Prop) (E:Value→Shared→Prop),tn i s.heap→Q (.ref it) s→wpAny (model P w) A (pyIter (.ref it)) Q E s
noncomputable abbrev TI:=St→Hp→(It→Hp→Prop)→Prop
noncomputable def PIE (X:Cx) (pins:List (Addr × Obj)) (σ:St) (tg:Expr) (R:It→Hp→Prop) (itv:Value) (s2:Shared):Prop:=
 ∃ (it:Addr) (fp:List Addr) (tn:Nat→Heap→Prop) (J:It) (H':Hp),itv=.ref it∧Inv X pins σ H' s2∧MJ X.prog X.w X.K tg J fp it tn∧tn 0 s2.heap∧(∀ b ∈ fp,Gw X pins H' b)∧R J H'
noncomputable def PI (X:Cx) (tg iter:Expr) (wi:TI):Prop:=
 ∀ (pins:List (Addr × Obj)) (s:Shared) (σ:St) (H:Hp) (R:It→Hp→Prop),Inv X pins σ H s→wi σ H R →
  wpAny (model X.prog X.w) X.A (eval iter X.env) (fun v s1=>wpAny (model X.prog X.w) X.A (pyIter v) (PIE X pins σ tg R) X.xe s1) X.xe s
theorem CF {M:Model} {A:Around} {E:Value→Shared→Prop} {s:Shared} {tg:Expr} {it:Addr} {u:Value} {o:Obj} {n:String} {vs:Array Value} {Q:Unit→Shared→Prop} (ho:s.heap.get? it=some o) (hc:o.cls=.type n) (hd:o.data=.fields vs)
    (hn:["enumerate","zip","dict_itemiterator","dict_reverseitemiterator","odict_iterator","itertools.zip_longest","itertools.pairwise"].contains n=false) (hQ:Q () s):wpAny M A (letOwnedTupleGo tg (.ref it) u) Q E s:=by
  unfold letOwnedTupleGo;cases tg <;> first
    | exact wpAny_pure hQ
    | (cases u <;> first
        | exact wpAny_pure hQ
        | (refine wpAny_bind (wpAny_load ho ?_)
           rw [hc,hd];show wpAny M A (if (["enumerate","zip","dict_itemiterator","dict_reverseitemiterator","odict_iterator","itertools.zip_longest","itertools.pairwise"].contains n && vs[0]? == some (rawInt _))=true then _ else _) Q E s;rw [if_neg (by intro h;rw [hn,Bool.false_and] at h;cases h)];exact wpAny_pure hQ))
noncomputable def Itl (K:PySem.W.Frag) (a:Addr):It:=
 ⟨fun i H=>∃ xs x,SqL K H a xs∧xs[i]? = some x,fun i H x H'=>H'=H∧∀ xs,SqL K H a xs→xs[i]? = some x,fun i H=>∃ xs,SqL K H a xs∧xs.length ≤ i⟩
noncomputable def Itr (lo:Int) (n:Nat):It:=⟨fun i _=>i < n,fun i H x H'=>H'=H∧x=.int (lo + i),fun i _=>n ≤ i⟩
theorem JC {P:Program} {w:World} {K:PySem.W.Frag} {tg:Expr} (a it:Addr):MJ P w K tg (Itl K a) [it] it (fun i h=>h.IsListIter it a i) where
 mem:=by simp
 obj:=fun i h st b hb=>by
  have e:b=it:=by simpa using hb
  subst e;obtain ⟨o,e,c,d⟩:=st;exact ⟨o,e,fun v z=>by rw [d] at z;cases z⟩
 keep:=fun i h h' st k=>st.at fun o e=>k it (by simp) o e
 item:=by
  intro X hP hw hK hc i pins s σ H E I hf st hg;subst hP hw hK;obtain ⟨xs,x,hq,hx⟩:=hg;obtain ⟨its,rv,p,hz⟩:=I.list hq;obtain ⟨u,hu,ru⟩:=rv.get hx;obtain ⟨f0,f1,f2,f3,f4,f5⟩:=hf it (by simp);refine wpAny_pyNext_list_item st p.isList (x:=u) (by simpa using hu) fun h' st' sb=>?_
  have I1:Inv X pins σ H { s with heap:=h' }:=I.turned (t':=s.toks) (fun b o hb e=>(sb.2 b hb).trans e) f0 f1 f3 f4 f5;obtain ⟨o,e,c,d⟩:=id st';exact ⟨u,rfl,CF (s:={ s with heap:=h' }) e c d (by decide) ⟨x,H,I1,ru,⟨rfl,fun ys hy=>by rw [I.list_inj hy hq];exact hx⟩,st',fun b hb=>(hf b hb).1⟩⟩
 done:=by
  intro X hP hw hK hc i pins s σ H E I hf st hg;subst hP hw hK;obtain ⟨xs,hq,hx⟩:=hg;obtain ⟨its,rv,p,hz⟩:=I.list hq;obtain ⟨f0,f1,f2,f3,f4,f5⟩:=hf it (by simp);have hl:=rv.length;exact wpAny_pyNext_list_end (I.ok.hd hc) st p.isList (by simp;omega) fun h' eb=>⟨rfl,I.turned (t':=s.toks) (fun b o hb e=>eb b o hb e) f0 f1 f3 f4 f5⟩
 self:=fun _ _ _ _ _ st h=>wpAny_pyIter_listiter st h
theorem wA {P:Program} {w:World} {K:PySem.W.Frag} {tg:Expr} (it:Addr) (lo:Int) (n:Nat):MJ P w K tg (Itr lo n) [it] it (fun i h=>IsRangeIter h it (lo + (i:Nat) * 1) ((n:Int) - (i:Nat)) 1) where
 mem:=by simp
 obj:=fun i h st b hb=>by
  have e:b=it:=by simpa using hb
  subst e;exact ⟨_,st,fun v z=>by
   have z':Data.fields _=Data.cell v:=z;cases z'⟩
 keep:=fun i h h' st k=>k it (by simp) _ st
 item:=by
  intro X hP hw hK hc i pins s σ H E I hf st hg;subst hP hw hK;obtain ⟨f0,f1,f2,f3,f4,f5⟩:=hf it (by simp);have W:=Walks.range (prog:=X.prog) (w:=X.w) (I.ok.hd hc) it lo 1 n;refine W.item i s _ _ hg st fun v h' tk hv st' kk=>?_
  obtain ⟨t,rfl⟩:=hv;have I1:Inv X pins σ H { s with heap:=h',toks:=tk }:=I.turned (fun b o hb e=>kk b o (by simpa using hb) e) f0 f1 f3 f4 f5;refine ⟨_,rfl,CF (s:={ s with heap:=h',toks:=tk }) (n := "range_iterator") st' rfl rfl (by decide) ⟨.int (lo + i),H,I1,⟨t,?_⟩,⟨rfl,rfl⟩,st',fun b hb=>(hf b hb).1⟩⟩;rw [Int.mul_one]
 done:=by
  intro X hP hw hK hc i pins s σ H E I hf st hg;subst hP hw hK;obtain ⟨f0,f1,f2,f3,f4,f5⟩:=hf it (by simp);exact wpAny_pyNext_range_end (I.ok.hd hc) st (by have:n ≤ i:=hg;omega) fun h' eb=>⟨rfl,I.turned (t':=s.toks) (fun b o hb e=>eb b o hb e) f0 f1 f3 f4 f5⟩
 self:=fun _ _ _ _ _ st h=>wpAny_pyIter_rangeiter st h
end L2
namespace L2
open PySem PySem.Spec PyProof.Rows
section
variable {X:Cx} {tg:Expr}
noncomputable def MK (K:PySem.W.Frag) (tl:TE):TI:=fun σ H R=>tl σ H fun x H1=>∃ a,x=.ref a∧(∃ xs,SqL K H1 a xs)∧R (Itl K a) H1
theorem zd {l:Expr} {tl:TE} (hl:PE X l tl):PI X tg l (MK X.K tl):=by
 intro pins s σ H R I h;refine thn (hl pins s σ H _ I h) fun v s1 hZ1=>?_
 obtain ⟨x,H1,I1,r1,q1⟩:=hZ1;obtain ⟨a,e,⟨xs,hq⟩,q⟩:=q1;subst e;cases r1;obtain ⟨its,rv,p,hz⟩:=I1.list hq;refine wpAny_pyIter_list p.isList ?_;refine ⟨s1.heap.objs.size,[s1.heap.objs.size],_,_,H1,rfl,I1.kept (t':=s1.toks) fun b o e=>Heap.get?_push_of_some _ e,JC a _,⟨_,Heap.get?_push_size _ rfl,rfl,rfl⟩,fun b hb=>?_,q⟩;have e:b=s1.heap.objs.size:=by simpa using hb
 subst e;exact I1.fpOk (Nat.le_refl _) (I1.hok.fresh (Nat.le_refl _))
theorem iF {pins:List (Addr × Obj)} {σ:St} {H:Hp} {s:Shared} {R:It→Hp→Prop} {E:Value→Shared→Prop} {lo hi:Int} {t u v:Tok} {tk:Nat} (I:Inv X pins σ H s) (h1:-(2 ^ 62) ≤ lo) (h2:lo < 2 ^ 62) (h3:-(2 ^ 62) ≤ hi) (h4:hi < 2 ^ 62)
  (q:R (Itr lo (hi - lo).toNat) H):wpAny (model X.prog X.w) X.A (pyIter (.ref s.heap.objs.size)) (PIE X pins σ tg R) E { s with heap:=s.heap.push { cls:=.type "range",data:=.fields #[.int lo t,.int hi u,.int 1 v] },toks:=tk }:=by
 refine wpAny_pyIter_range (IsRange.new ..) (small_one h1 h2 h3 h4) ?_;have I1:Inv X pins σ H { s with heap:=s.heap.push { cls:=.type "range",data:=.fields #[.int lo t,.int hi u,.int 1 v] },toks:=tk }:=I.kept fun b o e=>Heap.get?_push_of_some _ e
 refine ⟨(s.heap.push { cls:=.type "range",data:=.fields #[.int lo t,.int hi u,.int 1 v] }).objs.size,[(s.heap.push { cls:=.type "range",data:=.fields #[.int lo t,.int hi u,.int 1 v] }).objs.size],_,_,H,rfl,
  I1.kept (t':=tk) fun b o e=>Heap.get?_push_of_some _ e,wA _ lo (hi - lo).toNat,?_,fun b hb=>?_,q⟩
 ·have e1:lo + ((0:Nat):Int) * 1=lo:=by simp
  have e2:(((hi - lo).toNat:Nat):Int) - ((0:Nat):Int)=Builtin.Range.rangeSize lo hi 1:=by rw [rangeSize_one];split <;> omega
  show IsRangeIter _ _ (lo + ((0:Nat):Int) * 1) ((((hi - lo).toNat:Nat):Int) - ((0:Nat):Int)) 1;rw [e1,e2];exact Heap.get?_push_size _ rfl
 ·have e:b=(s.heap.push { cls:=.type "range",data:=.fields #[.int lo t,.int hi u,.int 1 v] }).objs.size:=by simpa using hb
  subst e;exact I1.fpOk (Nat.le_refl _) (I1.hok.fresh (Nat.le_refl _))
noncomputable def wL (ta:TA):TI:=fun σ H R=>ta σ H fun vs H1=>∃ j:Int,vs=[.int j]∧-(2 ^ 62) ≤ j∧j < 2 ^ 62∧R (Itr 0 j.toNat) H1
theorem uc {a:Expr} {ta:TA} {p pos:Pos} (hg:Gl X "range") (hm:X.mg "range"=none) (ha:PA X [a] ta) (hs:starEach [a] X.env=[(false,eval a X.env)]:=by rfl):PI X tg (.Call (.Name "range" p) [a] [] pos) (wL ta):=by
 intro pins s σ H R I h;refine Call_ (Ym I hg hm boot_range (PyProof.Rows.callWith_type1 (thn (ha pos pins s σ H _ I h) fun us s1 hZ1=>?_) hs rfl));obtain ⟨vs,H1,I1,r1,q1⟩:=hZ1;obtain ⟨j,e,q1,q2,q⟩:=q1;subst e;cases r1 with
 | cons r rr=>
  cases rr;obtain ⟨t,rfl⟩:=r;exact call_range_1 (iF I1 (by omega) (by omega) q1 q2 (by simpa using q))
noncomputable def tN (wi:TI) (g:TG) (tb:TS):TS:=fun D σ H=>wi σ H fun J H1=>∃ W:Nat→Nat→St→Hp→Prop,(∃ m,W 0 m σ H1)∧∀ i m σ H,W i m σ H →
 (J.stop i H∧D.nx σ H)∨(J.go i H∧∃ N:St→Hp→Prop,(∀ σ' H',N σ' H'→∃ m',m' < m∧W (i + 1) m' σ' H')∧∀ x H',J.yld i H x H'→g x σ H' fun σ2 H2=>tb { D with nx:=N,ct:=N,bk:=D.nx } σ2 H2)
noncomputable def Kv (fp:List Addr) (h:Heap):List (Addr × Obj):=fp.filterMap fun b=>(h.get? b).map fun o=>(b,o)
theorem zk {fp:List Addr} {h:Heap} {b:Addr} {o:Obj} (hb:b ∈ fp) (e:h.get? b=some o):(b,o) ∈ Kv fp h:=List.mem_filterMap.mpr ⟨b,hb,by rw [e];rfl⟩
theorem QD {fp:List Addr} {h:Heap} {p:Addr × Obj} (hp:p ∈ Kv fp h):p.1 ∈ fp∧h.get? p.1=some p.2:=by
 obtain ⟨b,hb,e⟩:=List.mem_filterMap.mp hp;cases q:h.get? b with
 | none=>rw [q] at e;cases e
 | some o=>
  rw [q] at e;have e':(b,o)=p:=Option.some.inj e;subst e';exact ⟨hb,q⟩
theorem Inv.pinned {pins:List (Addr × Obj)} {σ:St} {H:Hp} {s:Shared} {fp:List Addr} (I:Inv X pins σ H s) (hf:∀ b ∈ fp,Gw X pins H b) (ho:∀ b ∈ fp,∃ o,s.heap.get? b=some o∧∀ v,o.data ≠ .cell v):Inv X (pins ++ Kv fp s.heap) σ H s:=
 I.pins_of fun p hp=>(List.mem_append.mp hp).elim (fun z=>I.pin p (List.mem_append_right _ z)) fun z=>by
  obtain ⟨hb,e⟩:=QD z;obtain ⟨f0,f1,f2,_⟩:=hf p.1 hb;obtain ⟨o,e',d⟩:=ho p.1 hb;rw [e] at e';cases e';exact ⟨e,f0,f1,f2,d⟩
theorem Inv.unpinned {pins pl:List (Addr × Obj)} {σ:St} {H:Hp} {s:Shared} (I:Inv X (pins ++ pl) σ H s):Inv X pins σ H s:=I.pins_of fun p hp=>I.pin p (List.mem_append_right _ (List.mem_append_left _ hp))
theorem Bd {iter:Expr} {body:List Stmt} {wi:TI} {g:TG} {tb:TS} {pos:Pos} (hp:PassesOwn (model X.prog X.w) X.A X.env X.xe) (hc:X.calm=true) (hi:PI X tg iter wi) (hg:PG X tg g) (hb:PSs X body tb)
  (hs:∀ x,foldedSetIterable iter X.env x=pure x:=by intro _;rfl):PS X (.For tg iter body [] pos) (tN wi g tb):=by
 intro pins s σ H D I h;refine wpAny_For (thn (hi pins s σ H _ I h) fun v s1 h1=>thn h1 fun itv s2 h2=>?_) hs;obtain ⟨it,fp,tn,J,H2,e,I2,T,st2,f2,W,⟨m0,w0⟩,turn⟩:=h2;subst e;have stat:∀ {H':Hp},(∀ b ∈ fp,H' b=none)→∀ b ∈ fp,Gw X pins H' b:=fun hn b hb=>⟨hn b hb,(f2 b hb).2⟩
 refine codeAny_forLoop_any (fun n s'=>∃ i σ' H',Inv X pins σ' H' s'∧tn i s'.heap∧(∀ b ∈ fp,H' b=none)∧W i n σ' H') ?_ m0 ⟨0,σ,H2,I2,st2,fun b hb=>(f2 b hb).1,w0⟩;rintro n s3 ⟨i,σ3,H3,I3,st3,fr3,w3⟩;rcases turn i n σ3 H3 w3 with ⟨stop,qn⟩ | ⟨go,N,hN,step⟩
 ·refine wpAny_passesOwn hp (thn (T.done X rfl rfl rfl hc i pins s3 σ3 H3 X.xe I3 (stat fr3) st3 stop) fun r s4 hZ1=>?_);obtain ⟨hr,I4⟩:=hZ1;subst hr;exact wpAny_execs_nil ⟨σ3,H3,I4,qn⟩
 ·refine wpAny_passesOwn hp (thn (T.item X rfl rfl rfl hc i pins s3 σ3 H3 X.xe I3 (stat fr3) st3 go) fun r s4 hZ1=>?_);obtain ⟨u,hr,h4⟩:=hZ1;subst hr;refine wpAny_passesOwn hp (thn h4 fun _ s5 hZ1=>?_);obtain ⟨x,H5,I5,r5,y5,st5,fr5⟩:=hZ1;have I5':=I5.pinned (stat fr5) (T.obj _ _ st5);refine wpAny_passesOwn hp (thn (hg _ s5 σ3 H5 x u _ I5' r5 (step x H5 y5)) fun _ s6 hZ1=>?_);obtain ⟨σ6,H6,I6,q6⟩:=hZ1;refine wpAny_passesOwn hp (thn (hb _ s6 σ6 H6 _ I6 q6) fun f s7 q7=>?_);have again:∀ {σ7:St} {H7:Hp},Inv X (pins ++ Kv fp s5.heap) σ7 H7 s7→N σ7 H7→∃ m,m < n∧∃ i σ' H',Inv X pins σ' H' s7∧tn i s7.heap∧(∀ b ∈ fp,H' b=none)∧W i m σ' H':=fun {σ7 H7} I7 n7=>by
   obtain ⟨m',hm,w7⟩:=hN σ7 H7 n7;refine ⟨m',hm,i + 1,σ7,H7,I7.unpinned,T.keep _ _ _ st5 fun b hb o e=>(I7.pin (b,o) (List.mem_append_right _ (List.mem_append_right _ (zk hb e)))).1,fun b hb=>?_,w7⟩;obtain ⟨o,e,d⟩:=T.obj _ _ st5 b hb;exact (I7.pin (b,o) (List.mem_append_right _ (List.mem_append_right _ (zk hb e)))).2.1
  cases f with
  | next=>obtain ⟨σ7,H7,I7,n7⟩:=q7;exact again I7 n7
  | cont=>obtain ⟨σ7,H7,I7,n7⟩:=q7;exact again I7 n7
  | brk=>obtain ⟨σ7,H7,I7,q7⟩:=q7;exact ⟨σ7,H7,I7.unpinned,q7⟩
  | ret v=>obtain ⟨x7,σ7,H7,I7,r7,q7⟩:=q7;exact ⟨x7,σ7,H7,I7.unpinned,r7,q7⟩
end
theorem ZE {K:PySem.W.Frag} {a:Addr} {xs:List V} {g:TG} {tb:TS} {D:Cj} {σ:St} {H:Hp} (Pv:Nat→St→Hp→Prop) (h0:Pv 0 σ H) (hl:∀ i σ H,i ≤ xs.length→Pv i σ H→SqL K H a xs)
  (hs:∀ i x σ H,xs[i]? = some x→Pv i σ H→g x σ H fun σ2 H2=>tb { D with nx:=Pv (i + 1),ct:=Pv (i + 1),bk:=D.nx } σ2 H2) (hd:∀ σ H,Pv xs.length σ H→D.nx σ H) :
  ∃ W:Nat→Nat→St→Hp→Prop,(∃ m,W 0 m σ H)∧∀ i m σ H,W i m σ H →
   ((Itl K a).stop i H∧D.nx σ H)∨((Itl K a).go i H∧∃ N:St→Hp→Prop,(∀ σ' H',N σ' H'→∃ m',m' < m∧W (i + 1) m' σ' H')∧∀ x H',(Itl K a).yld i H x H'→g x σ H' fun σ2 H2=>tb { D with nx:=N,ct:=N,bk:=D.nx } σ2 H2):=by
 refine ⟨fun i m σ H=>m=xs.length - i∧i ≤ xs.length∧Pv i σ H,⟨xs.length,by simp,Nat.zero_le _,h0⟩,?_⟩;rintro i m σ H ⟨rfl,hi,p⟩;have q:=hl i σ H hi p;by_cases hlt:i < xs.length
 ·refine .inr ⟨⟨xs,xs[i],q,by simp [hlt]⟩,Pv (i + 1),fun σ' H' p'=>⟨xs.length - (i + 1),by omega,rfl,hlt,p'⟩,fun x H' y=>?_⟩;obtain ⟨e,y⟩:=y;subst e;exact hs i x σ _ (y xs q) p
 ·have e:i=xs.length:=by omega
  subst e;exact .inl ⟨⟨xs,q,Nat.le_refl _⟩,hd σ H p⟩
theorem rD {lo:Int} {n:Nat} {g:TG} {tb:TS} {D:Cj} {σ:St} {H:Hp} (Pv:Nat→St→Hp→Prop) (h0:Pv 0 σ H)
  (hs:∀ i σ H,i < n→Pv i σ H→g (.int (lo + i)) σ H fun σ2 H2=>tb { D with nx:=Pv (i + 1),ct:=Pv (i + 1),bk:=D.nx } σ2 H2) (hd:∀ σ H,Pv n σ H→D.nx σ H) :
  ∃ W:Nat→Nat→St→Hp→Prop,(∃ m,W 0 m σ H)∧∀ i m σ H,W i m σ H →
   ((Itr lo n).stop i H∧D.nx σ H)∨((Itr lo n).go i H∧∃ N:St→Hp→Prop,(∀ σ' H',N σ' H'→∃ m',m' < m∧W (i + 1) m' σ' H')∧∀ x H',(Itr lo n).yld i H x H'→g x σ H' fun σ2 H2=>tb { D with nx:=N,ct:=N,bk:=D.nx } σ2 H2):=by
 refine ⟨fun i m σ H=>m=n - i∧i ≤ n∧Pv i σ H,⟨n,by simp,Nat.zero_le _,h0⟩,?_⟩;rintro i m σ H ⟨rfl,hi,p⟩;by_cases hlt:i < n
 ·refine .inr ⟨hlt,Pv (i + 1),fun σ' H' p'=>⟨n - (i + 1),by omega,rfl,hlt,p'⟩,fun x H' y=>?_⟩;obtain ⟨e,y⟩:=y;subst e y;exact hs i σ _ hlt p
 ·have e:i=n:=by omega
  subst e;exact .inl ⟨Nat.le_refl _,hd σ H p⟩
end L2
namespace L2
open PySem PySem.Spec PyProof.Rows
noncomputable abbrev R2:=V→V→Hp→VK→Prop
noncomputable def OpR (X:Cx) (f:Value→Value→Sem Value) (r:R2):Prop:=
 ∀ (pins:List (Addr × Obj)) (s:Shared) (σ:St) (H:Hp) (x y:V) (v u:Value) (Q:VK),Inv X pins σ H s→Dd x v→Dd y u→r x y H Q →
  wpAny (model X.prog X.w) X.A (f v u) (EP X pins σ Q) X.xe s
noncomputable def UnR (X:Cx) (f:Value→Sem Value) (r:V→Hp→VK→Prop):Prop:=
 ∀ (pins:List (Addr × Obj)) (s:Shared) (σ:St) (H:Hp) (x:V) (v:Value) (Q:VK),Inv X pins σ H s→Dd x v→r x H Q →
  wpAny (model X.prog X.w) X.A (f v) (EP X pins σ Q) X.xe s
noncomputable def bj (X:Cx) (f:Value) (r:List V→Hp→VK→Prop):Prop:=
 ∀ (pins:List (Addr × Obj)) (s:Shared) (σ:St) (H:Hp) (xs:List V) (us:List Value) (Q:VK),Inv X pins σ H s→Ad xs us→r xs H Q →
  wpAny (model X.prog X.w) X.A (call f us) (EP X pins σ Q) X.xe s
noncomputable def bO (X:Cx) (r:V→Hp→(Bool→Hp→Prop)→Prop):Prop:=
 ∀ (pins:List (Addr × Obj)) (s:Shared) (σ:St) (H:Hp) (x:V) (v:Value) (Q:Bool→Hp→Prop),Inv X pins σ H s→Dd x v→r x H Q →
  wpAny (model X.prog X.w) X.A (truthy v) (TP X pins σ Q) X.xe s
noncomputable def tOp (r:R2) (ta tb:TE):TE:=fun σ H Q=>ta σ H fun x H1=>tb σ H1 fun y H2=>r x y H2 Q
noncomputable def tUn (r:V→Hp→VK→Prop) (ta:TE):TE:=fun σ H Q=>ta σ H fun x H1=>r x H1 Q
noncomputable def rI (C:Int→Int→Prop) (g:Int→Int→V):R2:=fun x y H Q=>∃ i j,x=.int i∧y=.int j∧C i j∧Q (g i j) H
noncomputable def rI0 (g:Int→Int→V):R2:=fun x y H Q=>∃ i j,x=.int i∧y=.int j∧Q (g i j) H
noncomputable def rU (g:Int→V):V→Hp→VK→Prop:=fun x H Q=>∃ i,x=.int i∧Q (g i) H
section
variable {X:Cx} {a b c:Expr} {ta tb tc:TE} {pos:Pos}
theorem PM (ha:PE X a ta) (hb:PE X b tb) {pins:List (Addr × Obj)} {s:Shared} {σ:St} {H:Hp} {R:V→V→Hp→Prop} (I:Inv X pins σ H s)
  (h:ta σ H fun x H1=>tb σ H1 fun y H2=>R x y H2) {Q:Value→Shared→Prop} {f:Value→Value→Sem Value}
  (hf:∀ v u s2 x y H2,Inv X pins σ H2 s2→Dd x v→Dd y u→R x y H2→wpAny (model X.prog X.w) X.A (f v u) Q X.xe s2) :
  wpAny (model X.prog X.w) X.A (eval a X.env) (fun v s₁=>wpAny (model X.prog X.w) X.A (eval b X.env) (fun u s₂=>wpAny (model X.prog X.w) X.A (f v u) Q X.xe s₂) X.xe s₁) X.xe s:=by
 refine thn (ha pins s σ H _ I h) fun v s1 hZ1=>?_
 obtain ⟨x,H1,I1,r1,q1⟩:=hZ1;refine thn (hb pins s1 σ H1 _ I1 q1) fun u s2 hZ1=>?_
 obtain ⟨y,H2,I2,r2,q2⟩:=hZ1;exact hf v u s2 x y H2 I2 r1 r2 q2
theorem Fb {op:Operator} {r:R2} (ho:OpR X (binaryOp op) r) (ha:PE X a ta) (hb:PE X b tb):PE X (.BinOp a op b pos) (tOp r ta tb):=by
 intro pins s σ H Q I h;exact wpAny_BinOp (PM ha hb I h fun v u s2 x y H2 I2 rx ry q=>ho pins s2 σ H2 x y v u Q I2 rx ry q)
theorem pL {op:UnaryOp} {r:V→Hp→VK→Prop} (ho:UnR X (unaryOp op) r) (ha:PE X a ta):PE X (.UnaryOp op a pos) (tUn r ta):=by
 intro pins s σ H Q I h;exact UnaryOp_ (thn (ha pins s σ H _ I h) fun v s1 ⟨x,H1,I1,r1,q1⟩=>ho pins s1 σ H1 x v Q I1 r1 q1)
theorem opI {f:Value→Value→Sem Value} {C:Int→Int→Prop} {g:Int→Int→Int}
  (rule:∀ (i j:Int) (t u:Tok) (s:Shared) (Q:Value→Shared→Prop) (E:Value→Shared→Prop),C i j→Q (.int (g i j) s.toks) { s with toks:=s.toks + 1 }→wpAny (model X.prog X.w) X.A (f (.int i t) (.int j u)) Q E s) :
  OpR X f (rI C fun i j=>.int (g i j)):=by
 intro pins s σ H x y v u Q I rx ry h;obtain ⟨i,j,rfl,rfl,hc,q⟩:=h;obtain ⟨t,rfl⟩:=rx;obtain ⟨t',rfl⟩:=ry;exact rule i j t t' s _ _ hc ⟨.int (g i j),H,I.tok _,⟨_,rfl⟩,q⟩
theorem PN {f:Value→Value→Sem Value} {g:Int→Int→Int}
  (rule:∀ (i j:Int) (t u:Tok) (s:Shared) (Q:Value→Shared→Prop) (E:Value→Shared→Prop),Q (.int (g i j) s.toks) { s with toks:=s.toks + 1 }→wpAny (model X.prog X.w) X.A (f (.int i t) (.int j u)) Q E s) :
  OpR X f (rI0 fun i j=>.int (g i j)):=by
 intro pins s σ H x y v u Q I rx ry h;obtain ⟨i,j,rfl,rfl,q⟩:=h;obtain ⟨t,rfl⟩:=rx;obtain ⟨t',rfl⟩:=ry;exact rule i j t t' s _ _ ⟨.int (g i j),H,I.tok _,⟨_,rfl⟩,q⟩
theorem mM {f:Value→Value→Sem Value} {g:Int→Int→Bool}
  (rule:∀ (i j:Int) (t u:Tok) (s:Shared) (Q:Value→Shared→Prop) (E:Value→Shared→Prop),Q (.bool (g i j)) s→wpAny (model X.prog X.w) X.A (f (.int i t) (.int j u)) Q E s) :
  OpR X f (rI0 fun i j=>.bl (g i j)):=by
 intro pins s σ H x y v u Q I rx ry h;obtain ⟨i,j,rfl,rfl,q⟩:=h;obtain ⟨t,rfl⟩:=rx;obtain ⟨t',rfl⟩:=ry;exact rule i j t t' s _ _ ⟨.bl (g i j),H,I,rfl,q⟩
noncomputable def jH (i j:Int):Prop:=(-(2 ^ 64) < i∧i < 2 ^ 64)∨(-(2 ^ 64) < j∧j < 2 ^ 64)
theorem jH.ok {i j:Int} (h:jH i j):IntMulOk i j:=by
 rcases h with ⟨h1,h2⟩ | ⟨h1,h2⟩
 ·exact .of_left (intBits_le_64 h1 h2)
 ·exact .of_right (intBits_le_64 h1 h2)
theorem fc:OpR X (binaryOp .Add) (rI0 fun i j=>.int (i + j)):=PN fun _ _ _ _ _ _ _ q=>add_int q
theorem De:OpR X (binaryOp .Sub) (rI0 fun i j=>.int (i - j)):=PN fun _ _ _ _ _ _ _ q=>sub_int q
theorem wf:OpR X (binaryOp .Mult) (rI jH fun i j=>.int (i * j)):=opI fun _ _ _ _ _ _ _ hc q=>mul_int q hc.ok
theorem Uf:OpR X (binaryOp .Mod) (rI (fun _ j=>0 < j) fun i j=>.int (i % j)):=opI fun i j _ _ _ _ _ hc q=>by
 have h1:(0:Int) < j:=hc;exact mod_int' (by omega) (by rw [Int.fmod_eq_emod_of_nonneg i (by omega)];exact q)
theorem unI {f:Value→Sem Value} {g:Int→Int}
  (rule:∀ (i:Int) (t:Tok) (s:Shared) (Q:Value→Shared→Prop) (E:Value→Shared→Prop),Q (.int (g i) s.toks) { s with toks:=s.toks + 1 }→wpAny (model X.prog X.w) X.A (f (.int i t)) Q E s) :
  UnR X f (rU fun i=>.int (g i)):=by
 intro pins s σ H x v Q I rx h;obtain ⟨i,rfl,q⟩:=h;obtain ⟨t,rfl⟩:=rx;exact rule i t s _ _ ⟨.int (g i),H,I.tok _,⟨_,rfl⟩,q⟩
theorem QG:UnR X (unaryOp .USub) (rU fun i=>.int (-i)):=unI fun _ _ _ _ _ q=>neg_int q
end
noncomputable def jM:V→V→Bool
 | .non,.non=>true | .non,.int _=>true | .int _,.non=>true | .non,.bl _=>true | .bl _,.non=>true | .non,.str _=>true | .str _,.non=>true
 | .int _,.int _=>true | .bl _,.bl _=>true | .str _,.str _=>true | .byt _,.byt _=>true
 | .int _,.str _=>true | .str _,.int _=>true | .bl _,.str _=>true | .str _,.bl _=>true
 | _,_=>false
noncomputable def rEq:R2:=fun x y H Q=>jM x y=true∧Q (.bl (decide (x=y))) H
noncomputable def rNe:R2:=fun x y H Q=>jM x y=true∧Q (.bl (!decide (x=y))) H
theorem ED {i j:Int}:decide (V.int i=V.int j)=(i == j):=by
 rw [Bool.eq_iff_iff];simp
theorem WG {i j:Bool}:decide (V.bl i=V.bl j)=(i == j):=by
 rw [Bool.eq_iff_iff];simp
theorem lE {i j:Str}:decide (V.str i=V.str j)=(i == j):=by
 rw [Bool.eq_iff_iff];simp
theorem kD {i j:Array UInt8}:decide (V.byt i=V.byt j)=(i.toList == j.toList):=by
 rw [Bool.eq_iff_iff];cases i;cases j;simp
section
variable {X:Cx} {a b c:Expr} {ta tb tc:TE} {pos:Pos}
theorem md {pins:List (Addr × Obj)} {σ:St} {H:Hp} {s:Shared} {Q:VK} {k k':Bool} (I:Inv X pins σ H s) (q:Q (.bl k) H) (e:k=k'):EP X pins σ Q (.bool k') s:=by
 subst e;exact ⟨.bl k,H,I,rfl,q⟩
theorem Ji:OpR X (compareOp .Eq) rEq:=by
 intro pins s σ H x y v u Q I rx ry h;obtain ⟨hs,q⟩:=h;cases x with
 | non=>
  cases rx;cases y with
  | non=>cases ry;exact PySem.EqNone.eq_none_none (md I q (by simp))
  | bl j=>cases ry;exact PySem.EqNone.eq_none_bool (md I q (by simp))
  | int j=>obtain ⟨t',rfl⟩:=ry;exact PySem.EqNone.eq_none_int (md I q (by simp))
  | str j=>obtain ⟨t',rfl⟩:=ry;exact PySem.EqNone.eq_none_str (md I q (by simp))
  | _=>exact absurd (show false=true from hs) Bool.false_ne_true
 | bl i=>
  cases rx;cases y with
  | non=>cases ry;exact PySem.EqNone.eq_bool_none (md I q (by simp))
  | bl j=>cases ry;exact eq_bool (md I q WG)
  | str j=>obtain ⟨t',rfl⟩:=ry;exact PySem.EqMixed.eq_bool_str (md I q (by simp))
  | _=>exact absurd (show false=true from hs) Bool.false_ne_true
 | int i=>
  obtain ⟨t,rfl⟩:=rx;cases y with
  | non=>cases ry;exact PySem.EqNone.eq_int_none (md I q (by simp))
  | int j=>obtain ⟨t',rfl⟩:=ry;exact eq_int (md I q ED)
  | str j=>obtain ⟨t',rfl⟩:=ry;exact PySem.EqMixed.eq_int_str (md I q (by simp))
  | _=>exact absurd (show false=true from hs) Bool.false_ne_true
 | str i=>
  obtain ⟨t,rfl⟩:=rx;cases y with
  | non=>cases ry;exact PySem.EqNone.eq_str_none (md I q (by simp))
  | bl j=>cases ry;exact PySem.EqMixed.eq_str_bool (md I q (by simp))
  | int j=>obtain ⟨t',rfl⟩:=ry;exact PySem.EqMixed.eq_str_int (md I q (by simp))
  | str j=>obtain ⟨t',rfl⟩:=ry;exact eq_str (md I q lE)
  | _=>exact absurd (show false=true from hs) Bool.false_ne_true
 | byt i=>
  obtain ⟨t,rfl⟩:=rx;cases y with
  | byt j=>obtain ⟨t',rfl⟩:=ry;exact PySem.W.eq_bytes (md I q kD)
  | _=>exact absurd (show false=true from hs) Bool.false_ne_true
 | _=>cases y <;> exact absurd (show false=true from hs) Bool.false_ne_true
theorem qw:OpR X (compareOp .NotEq) rNe:=by
 intro pins s σ H x y v u Q I rx ry h;obtain ⟨hs,q⟩:=h;cases x with
 | non=>
  cases rx;cases y with
  | non=>cases ry;exact PySem.EqNone.ne_none_none (md I q (by simp))
  | bl j=>cases ry;exact PySem.EqNone.ne_none_bool (md I q (by simp))
  | int j=>obtain ⟨t',rfl⟩:=ry;exact PySem.EqNone.ne_none_int (md I q (by simp))
  | str j=>obtain ⟨t',rfl⟩:=ry;exact PySem.EqNone.ne_none_str (md I q (by simp))
  | _=>exact absurd (show false=true from hs) Bool.false_ne_true
 | bl i=>
  cases rx;cases y with
  | non=>cases ry;exact PySem.EqNone.ne_bool_none (md I q (by simp))
  | bl j=>cases ry;exact ne_bool (md I q (congrArg not WG))
  | str j=>obtain ⟨t',rfl⟩:=ry;exact PySem.EqMixed.ne_bool_str (md I q (by simp))
  | _=>exact absurd (show false=true from hs) Bool.false_ne_true
 | int i=>
  obtain ⟨t,rfl⟩:=rx;cases y with
  | non=>cases ry;exact PySem.EqNone.ne_int_none (md I q (by simp))
  | int j=>obtain ⟨t',rfl⟩:=ry;exact ne_int (md I q (congrArg not ED))
  | str j=>obtain ⟨t',rfl⟩:=ry;exact PySem.EqMixed.ne_int_str (md I q (by simp))
  | _=>exact absurd (show false=true from hs) Bool.false_ne_true
 | str i=>
  obtain ⟨t,rfl⟩:=rx;cases y with
  | non=>cases ry;exact PySem.EqNone.ne_str_none (md I q (by simp))
  | bl j=>cases ry;exact PySem.EqMixed.ne_str_bool (md I q (by simp))
  | int j=>obtain ⟨t',rfl⟩:=ry;exact PySem.EqMixed.ne_str_int (md I q (by simp))
  | str j=>obtain ⟨t',rfl⟩:=ry;exact ne_str (md I q (congrArg not lE))
  | _=>exact absurd (show false=true from hs) Bool.false_ne_true
 | byt i=>
  obtain ⟨t,rfl⟩:=rx;cases y with
  | byt j=>obtain ⟨t',rfl⟩:=ry;exact PySem.W.ne_bytes (md I q (congrArg not kD))
  | _=>exact absurd (show false=true from hs) Bool.false_ne_true
 | _=>cases y <;> exact absurd (show false=true from hs) Bool.false_ne_true
theorem Xo:OpR X (compareOp .Lt) (rI0 fun i j=>.bl (decide (i < j))):=mM fun _ _ _ _ _ _ _ q=>lt_int q
theorem WM:OpR X (compareOp .LtE) (rI0 fun i j=>.bl (decide (i ≤ j))):=mM fun _ _ _ _ _ _ _ q=>le_int q
theorem qF:OpR X (compareOp .Gt) (rI0 fun i j=>.bl (decide (j < i))):=mM fun _ _ _ _ _ _ _ q=>gt_int q
theorem AM:OpR X (compareOp .GtE) (rI0 fun i j=>.bl (decide (j ≤ i))):=mM fun _ _ _ _ _ _ _ q=>ge_int q
theorem vC:OpR X (compareOp .In) (fun x y H Q=>∃ i j,x=.str i∧y=.str j∧Q (.bl (!(Builtin.Str.occurrences j i 0 j.length 1).isEmpty)) H):=by
 intro pins s σ H x y v u Q I rx ry h;obtain ⟨i,j,rfl,rfl,q⟩:=h;obtain ⟨t,rfl⟩:=rx;obtain ⟨t',rfl⟩:=ry;exact in_str (md I q rfl)
theorem eM:OpR X (compareOp .Is) (fun x y H Q=>y=.non∧Q (.bl (decide (x=.non))) H):=by
 intro pins s σ H x y v u Q I rx ry h;obtain ⟨rfl,q⟩:=h;cases ry;refine is_none_gen (md I q ?_);cases x <;> first
  | (cases rx;rfl)
  | (obtain ⟨t,rfl⟩:=rx;rfl)
theorem TH:OpR X (compareOp .IsNot) (fun x y H Q=>y=.non∧Q (.bl (!decide (x=.non))) H):=by
 intro pins s σ H x y v u Q I rx ry h;obtain ⟨rfl,q⟩:=h;cases ry;refine isnot_none_gen (md I q ?_);cases x <;> first
  | (cases rx;rfl)
  | (obtain ⟨t,rfl⟩:=rx;rfl)
theorem OpR.or {f:Value→Value→Sem Value} {r r':R2} (h:OpR X f r) (h':OpR X f r'):OpR X f (fun x y H Q=>r x y H Q∨r' x y H Q):=by
 intro pins s σ H x y v u Q I rx ry q;rcases q with q | q
 ·exact h pins s σ H x y v u Q I rx ry q
 ·exact h' pins s σ H x y v u Q I rx ry q
theorem Xb (b:Expr) {op:CmpOp} (h:op ≠ .In:=by decide) (h2:op ≠ .NotIn:=by decide):behindInMarks op b=false:=by
 have e1:(op == CmpOp.In)=false:=by cases op <;> first | rfl | exact absurd rfl h
 have e2:(op == CmpOp.NotIn)=false:=by cases op <;> first | rfl | exact absurd rfl h2
 cases b <;> simp [behindInMarks,e1,e2]
theorem Ef {op:CmpOp} {r:R2} (ho:OpR X (compareOp op) r) (ha:PE X a ta) (hb:PE X b tb) (hm:behindInMarks op b=false):PE X (.Compare a [op] [b] pos) (tOp r ta tb):=by
 intro pins s σ H Q I h;exact wpAny_Compare1 (PM ha hb I h fun v u s2 x y H2 I2 rx ry q=>ho pins s2 σ H2 x y v u Q I2 rx ry q) hm
noncomputable def CK (t:TE):TT:=fun σ H Q=>t σ H fun x H'=>∃ k,x=.bl k∧Q k H'
theorem Rb {op:CmpOp} {r:R2} (ho:OpR X (compareOp op) r) (ha:PE X a ta) (hb:PE X b tb) (hm:behindInMarks op b=false):PT X (.Compare a [op] [b] pos) (CK (tOp r ta tb)):=by
 intro pins s σ H Q I h;refine wpAny_isTrue_Compare1 (thn (ha pins s σ H _ I h) fun v s1 ⟨x,H1,I1,r1,q1⟩=>thn (hb pins s1 σ H1 _ I1 q1) fun u s2 ⟨y,H2,I2,r2,q2⟩=>
  thn (ho pins s2 σ H2 x y v u _ I2 r1 r2 q2) fun c s3 ⟨z,H3,I3,r3,k,e,q3⟩=>?_) hm
 subst e;cases r3;exact wpAny_truthy_bool ⟨H3,I3,q3⟩
noncomputable def iN (K:PySem.W.Frag) (x:V) (H:Hp) (k:Bool):Prop:=
 match x with
 | .non=>k=false
 | .bl b=>k=b
 | .int i=>k=(i != 0)
 | .str y=>y.length ≤ sizeLine∧k=((y.length:Int) != 0)
 | .byt y=>y.size ≤ sizeLine∧k=((y.size:Int) != 0)
 | .ref p=>(∃ xs,SqL K H p xs∧k = !xs.isEmpty)∨(∃ xs,SqT K H p xs∧k = !xs.isEmpty)∨∃ kvs,H p=some (.dK kvs)∧k = !kvs.isEmpty
 | _=>False
theorem iA {κ:Type} {kvs:List (κ × V)} {vs:List (κ × Value)} (r:KV kvs vs):(!vs.isEmpty) = !kvs.isEmpty:=by
 cases r <;> rfl
theorem Us {xs:List V} {its:List Value} (r:Ad xs its):(!its.toArray.isEmpty) = !xs.isEmpty:=by
 cases r <;> simp
theorem zr:(sizeLine:Nat) < 2 ^ 63:=by rw [sizeLine_eq];decide
theorem aK:bO X (fun x H Q=>∃ k,iN X.K x H k∧Q k H):=by
 intro pins s σ H x v Q I rx h;obtain ⟨k,e,q⟩:=h;have hl:=zr;have hs:sizeLine=16777216:=sizeLine_eq;cases x with
 | non=>
  cases rx;have e':k=false:=e;subst e';exact truthy_none ⟨H,I,q⟩
 | bl b=>
  cases rx;have e':k=b:=e;subst e';exact wpAny_truthy_bool ⟨H,I,q⟩
 | int i=>
  obtain ⟨t,rfl⟩:=rx;have e':k=(i != 0):=e;subst e';exact PySem.P.truthy_int ⟨H,I,q⟩
 | str y=>
  obtain ⟨t,rfl⟩:=rx;obtain ⟨hy,e'⟩:y.length ≤ sizeLine∧k=((y.length:Int) != 0):=e;subst e';exact PySem.P.truthy_str (by omega) ⟨H,I.tok _,q⟩
 | byt y=>
  obtain ⟨t,rfl⟩:=rx;obtain ⟨hy,e'⟩:y.size ≤ sizeLine∧k=((y.size:Int) != 0):=e;subst e';exact PySem.W.truthy_bytes (by omega) ⟨H,I.tok _,q⟩
 | ref p=>
  cases rx;have e':(∃ xs,SqL X.K H p xs∧k = !xs.isEmpty)∨(∃ xs,SqT X.K H p xs∧k = !xs.isEmpty)∨∃ kvs,H p=some (.dK kvs)∧k = !kvs.isEmpty:=e;rcases e' with ⟨xs,hx,e'⟩ | ⟨xs,hx,e'⟩ | ⟨kvs,hx,e'⟩
  ·subst e';obtain ⟨its,r,pl,hz⟩:=I.list hx;have hlen:=r.length;exact wpAny_truthy_list pl.isList (by simp only [List.size_toArray];omega) ⟨H,I.tok _,by rw [Us r];exact q⟩
  ·subst e';obtain ⟨its,r,pl,hz⟩:=I.tuple hx;have hlen:=r.length;exact truthy_tuple pl (by simp only [List.size_toArray];omega) ⟨H,I.tok _,by rw [Us r];exact q⟩
  ·subst e';obtain ⟨hz,hS,vs,r,m⟩:kvs.length ≤ sizeLine∧(p == sysModules)=false∧∃ vs,KV kvs vs∧s.heap.DictOf (rf X.prog X.w) p vs:=I.hok p _ hx;have hlen:kvs.length=vs.length:=Paired.length r;exact wpAny_truthy_dict hS m (by omega) ⟨H,I.tok _,by rw [iA r];exact q⟩
 | _=>exact (show False from e).elim
theorem bz (ha:PE X a ta) (he:∀ whole,isTrue a X.env whole=(do let v ← whole;standAt a.pos;holding [v] (truthy v))) :
  PT X a (fun σ H Q=>ta σ H fun x H'=>∃ k,iN X.K x H' k∧Q k H'):=by
 intro pins s σ H Q I h;exact isTrue_plain (thn (ha pins s σ H _ I h) fun v s1 ⟨x,H1,I1,r1,q1⟩=>aK pins s1 σ H1 x v Q I1 r1 q1) (he _)
theorem Gk:OpR X (binaryOp .Add) (fun x y H Q=>∃ i j,x=.str i∧y=.str j∧i.length + j.length ≤ sizeLine∧Q (.str (i ++ j)) H):=by
 intro pins s σ H x y v u Q I rx ry h;obtain ⟨i,j,rfl,rfl,hz,q⟩:=h;obtain ⟨t,rfl⟩:=rx;obtain ⟨t',rfl⟩:=ry;exact add_str (fun t' tk=>⟨.str (i ++ j),H,I.tok _,⟨_,rfl⟩,q⟩) hz
theorem Xn {x:V} {us:List Value} (r:Ad [x] us):∃ u,us=[u]∧Dd x u:=by
 cases r with
 | cons r1 r2=>cases r2;exact ⟨_,rfl,r1⟩
theorem yI {x y:V} {us:List Value} (r:Ad [x,y] us):∃ u w',us=[u,w']∧Dd x u∧Dd y w':=by
 cases r with
 | cons r1 r2=>
  cases r2 with
  | cons r3 r4=>cases r4;exact ⟨_,_,rfl,r1,r3⟩
theorem bD (hc:X.calm=true):bj X (.builtin "max") (fun xs H Q=>∃ i j,xs=[.int i,.int j]∧Q (.int (if j > i then j else i)) H):=by
 intro pins s σ H xs us Q I r h;obtain ⟨i,j,rfl,q⟩:=h;obtain ⟨u,w',rfl,⟨t,rfl⟩,⟨t',rfl⟩⟩:=yI r;refine max_two_ints (I.ok.hd hc) fun h' tk k=>⟨_,H,I.kept k,?_,q⟩
 by_cases hj:j > i
 ·rw [if_pos hj,if_pos hj];exact ⟨_,rfl⟩
 ·rw [if_neg hj,if_neg hj];exact ⟨_,rfl⟩
theorem Yp (hc:X.calm=true):bj X (.builtin "min") (fun xs H Q=>∃ i j,xs=[.int i,.int j]∧Q (.int (if j < i then j else i)) H):=by
 intro pins s σ H xs us Q I r h;obtain ⟨i,j,rfl,q⟩:=h;obtain ⟨u,w',rfl,⟨t,rfl⟩,⟨t',rfl⟩⟩:=yI r;refine min_two_ints (I.ok.hd hc) fun h' tk k=>⟨_,H,I.kept k,?_,q⟩
 by_cases hj:j < i
 ·rw [if_pos hj,if_pos hj];exact ⟨_,rfl⟩
 ·rw [if_neg hj,if_neg hj];exact ⟨_,rfl⟩
theorem yw:bj X (.type "int") (fun xs H Q=>(∃ i,xs=[.int i]∧Q (.int i) H)∨∃ k,xs=[.bl k]∧Q (.int (if k then 1 else 0)) H):=by
 intro pins s σ H xs us Q I r h;rcases h with ⟨i,rfl,q⟩ | ⟨k,rfl,q⟩
 ·obtain ⟨u,rfl,t,rfl⟩:=Xn r;exact call_int_int ⟨.int i,H,I,⟨_,rfl⟩,q⟩
 ·obtain ⟨u,rfl,r1⟩:=Xn r;cases r1;exact call_int_bool ⟨.int (if k then 1 else 0),H,I.tok _,⟨_,rfl⟩,q⟩
theorem xf:bj X (.type "str") (fun xs H Q=>∃ i,xs=[.int i]∧i.natAbs.log2 < 1920∧Q (.str (toString i)) H):=by
 intro pins s σ H xs us Q I r h;obtain ⟨i,rfl,hz,q⟩:=h;obtain ⟨u,rfl,t,rfl⟩:=Xn r;exact PySem.P.str_of_int hz ⟨.str _,H,I.tok _,⟨_,rfl⟩,q⟩
end
end L2
namespace L2
open PySem PySem.Spec PyProof.Rows
structure VH (h:Heap) (x dx C:Addr) (mA:Str→Option Value):Prop where
 obj:h.get? x=some (PySem.W.instObj C dx)
 ns:h.Ns1 dx mA
 ne:dx ≠ x
theorem UB {h:Heap} {dx:Addr} {mA:Str→Option Value} (n:h.Ns1 dx mA):∃ od,h.get? dx=some od∧∀ name,PySem.W.lookIn name od=some (mA name):=by
 obtain ⟨o,es,ep,ho,hd,hk,_,hm⟩:=n;refine ⟨o,ho,fun name=>?_⟩;have e:=hm name;unfold nsFind findBy at e;rw [← Array.find?_toList] at e;unfold PySem.W.lookIn;rw [hd];dsimp only;split
 ·rename_i y q;rw [q] at e;exact congrArg some e
 ·rename_i q;rw [q] at e;have a:es.toList.any (·.refKey)=false:=by
   rw [List.any_eq_false];intro y hy;obtain ⟨z,t,hkey⟩:=hk y (Array.mem_toList_iff.mp hy);simp [DictEntry.refKey,hkey]
  have a':¬ es.toList.any (·.refKey)=true:=by rw [a];exact Bool.false_ne_true
  rw [if_neg a'];exact congrArg some e
theorem VH.look {h:Heap} {x dx C:Addr} {mA:Str→Option Value} (I:VH h x dx C mA):∃ od,PySem.W.InstAt h x (PySem.W.instObj C dx) C (some od)∧∀ name,PySem.W.lookIn name od=some (mA name):=
 let ⟨od,ho,hl⟩:=UB I.ns
 ⟨od,⟨I.obj,rfl,rfl,ho⟩,hl⟩
section
variable {prog:Program} {w:World} {A:Around} {E:Value→Shared→Prop} {s:Shared} {K:PySem.W.Frag} {x dx C f:Addr} {mA:Str→Option Value} {name:Str} {v:Value}
theorem hJ {expr:Bool} {Q:Value→Shared→Prop} (X:K.In s.heap) (I:VH s.heap x dx C mA) (hg:PySem.W.plainGet K C name=true) (hh:PySem.W.hasDictIn K C=true)
  (ha:PySem.W.findIn K (.ref C) name=some none) (hv:mA name=some v) (hv':PySem.W.handedIn v=true) (h:Q v { s with toks:=s.toks + 1 }) :
  wpAny (model prog w) A (getAttr (.ref x) name expr) Q E s:=by
 obtain ⟨od,J,hl⟩:=I.look;exact PySem.W.get_value X J (PySem.W.plainGet_of hg).1 (PySem.W.findObj_own hh ha rfl (by rw [hl,hv])) hv' h
theorem NE {pl:Sem Bool} {Q:Value × List Value→Shared→Prop} (X:K.In s.heap) (I:VH s.heap x dx C mA) (hg:PySem.W.plainGet K C name=true)
  (hf:PySem.W.findIn K (.ref C) name=some (some (.ref f))) (ht:PySem.W.isFn K (.ref f)=true) (hv:mA name=none) (h:Q (.ref f,[.ref x]) s) :
  wpAny (model prog w) A (getMethod (.ref x) name pl) Q E s:=by
 obtain ⟨od,J,hl⟩:=I.look;exact PySem.W.method_fn X J (PySem.W.plainGet_of hg).1 (PySem.W.plainGet_of hg).2 hf (beq_iff_eq.mp ht) (by show (PySem.W.lookIn name od).map (·.isSome)=some false;rw [hl,hv];rfl) h
theorem wJ {ns:List Str} {Q:Unit→Shared→Prop} (X:K.In s.heap) (I:VH s.heap x dx C mA)
  (hs:PySem.W.findIn K (.ref C) "__setattr__"=some (some (.builtin "object.__setattr__"))) (hp:PySem.W.plainOver K C=true) (ht:PySem.W.takerIn K C name=some none) (hh:PySem.W.hasDictIn K C=true)
  (hw:PySem.Within mA ns) (hsz:ns.length ≤ sizeLine)
  (h:∀ h',VH h' x dx C (fun y=>if y=name then some v else mA y)→Heap.SameBut dx s.heap h'→Q () { s with heap:=h',toks:=s.toks + 2 }) :
  wpAny (model prog w) A (setAttr (.ref x) name v) Q E s:=by
 obtain ⟨od,J,hl⟩:=I.look;refine PySem.W.set_plain X J hs (PySem.W.osa_open (s:={ s with toks:=s.toks + 1 }) (r:=none) X J hp ht fun b=>?_);obtain ⟨cd,hc,hd'⟩:=PySem.W.any_some hh;have hx:s.heap.get? x=some ⟨.ref C,some dx,.plain,#[]⟩:=I.obj;refine wpAny_bind (wpAny_pure (wpAny_bind (wpAny_bind (wpAny_loadPart hx (wpAny_bind (PySem.W.Looks.here (s:={ s with toks:=s.toks + 1 }) (PySem.W.looks_clsIn X hc) ?_))))));rw [hd'];refine wpAny_pure (a:=some dx) (wpAny_bind (wpAny_pure (wpAny_bind ?_)));refine wpAny_nsSet1 (s:={ s with toks:=s.toks + 1 }) I.ns fun h' hn2 hs2=>?_
 obtain ⟨oD,esD,epD,hoD,hdD,hcD⟩:=hn2.count (PySem.Within.cons name v hw);refine wpAny_bind (wpAny_lookBehind hoD (by rw [hdD];exact pastItsLine_dict (Nat.le_trans hcD (by rw [List.length_cons];omega))) ?_);exact wpAny_pure (h _ ⟨(hs2.2 _ (Ne.symm I.ne)).trans I.obj,hn2,I.ne⟩ hs2)
theorem FF {R:Result→Shared→Prop} {vs:List Value} {kw:List (Str × Value)} (X:K.In s.heap) (hm:PySem.W.makesIn K C=true)
  (hi:PySem.W.findIn K (.ref C) "__init__"=some (some (.ref f))) (hf:PySem.W.typeIn K (.ref f)=some (.type "function"))
  (h:codeAny (model prog w) (A.under (.builtin "type.__call__" ⟨.ref C :: vs,kw⟩)) (.call (.ref f) ⟨.ref (s.heap.objs.size + 1) :: vs,kw⟩) (PySem.W.InitBack (s.heap.objs.size + 1) R)
   { s with heap:=(s.heap.push PySem.W.emptyDict).push (PySem.W.instObj C s.heap.objs.size) }) :
  codeAny (model prog w) A (.call (.ref C) ⟨vs,kw⟩) R s:=by
 obtain ⟨hh,g,d,t,os⟩:=s;exact PySem.W.make_core (PySem.W.makes_of X hm) (PySem.W.looks_findIn X hi) (fun self=>PySem.W.bind_fn X self hf) (.inl rfl) h
end
noncomputable def Hi (f:Str) (v:V):List (Str × V)→List (Str × V)
 | []=>[(f,v)]
 | (g,x) :: r=>if g=f then (g,v) :: r else (g,x) :: Hi f v r
theorem cq (f g:Str) (v:V):∀ fs:List (Str × V),(Hi f v fs).lookup g=if g=f then some v else fs.lookup g
 | []=>by
  show List.lookup g [(f,v)]=_;by_cases h:g=f
  ·have hb:(g == f)=true:=beq_iff_eq.mpr h;simp only [List.lookup,hb,if_pos h]
  ·have hb:(g == f)=false:=beq_eq_false_iff_ne.mpr h;simp only [List.lookup,hb,if_neg h]
 | (k,x) :: r=>by
  have ih:=cq f g v r;rw [show Hi f v ((k,x) :: r)=(if k=f then (k,v) :: r else (k,x) :: Hi f v r) from rfl];by_cases hk:k=f
  ·rw [if_pos hk];by_cases h:g=k
   ·have hb:(g == k)=true:=beq_iff_eq.mpr h;simp only [List.lookup,hb,if_pos (h.trans hk)]
   ·have hb:(g == k)=false:=beq_eq_false_iff_ne.mpr h;simp only [List.lookup,hb,if_neg (fun e:g=f=>h (e.trans hk.symm))]
  ·rw [if_neg hk];by_cases h:g=k
   ·have hb:(g == k)=true:=beq_iff_eq.mpr h;simp only [List.lookup,hb,if_neg (fun e:g=f=>hk (h.symm.trans e))]
   ·have hb:(g == k)=false:=beq_eq_false_iff_ne.mpr h;simp only [List.lookup,hb];exact ih
theorem xr (f:Str) (v:V):∀ fs:List (Str × V),f ∈ (Hi f v fs).map (·.1)∧∀ g,g ∈ fs.map (·.1)→g ∈ (Hi f v fs).map (·.1)
 | []=>⟨by simp [Hi],fun g h=>by simp at h⟩
 | (k,x) :: r=>by
  obtain ⟨i1,i2⟩:=xr f v r;rw [show Hi f v ((k,x) :: r)=(if k=f then (k,v) :: r else (k,x) :: Hi f v r) from rfl];by_cases hk:k=f
  ·rw [if_pos hk];subst hk;exact ⟨by simp,fun g h=>by simpa using h⟩
  ·rw [if_neg hk];refine ⟨?_,fun g h=>?_⟩
   ·rw [List.map_cons];exact List.mem_cons_of_mem _ i1
   ·rw [List.map_cons] at h ⊢;rcases List.mem_cons.mp h with e | e
    ·exact List.mem_cons.mpr (.inl e)
    ·exact List.mem_cons_of_mem _ (i2 g e)
theorem Ol (f:Str) (v:V):∀ fs:List (Str × V),(Hi f v fs).length ≤ fs.length + 1
 | []=>by simp [Hi]
 | (k,x) :: r=>by
  have ih:=Ol f v r;rw [show Hi f v ((k,x) :: r)=(if k=f then (k,v) :: r else (k,x) :: Hi f v r) from rfl];by_cases hk:k=f
  ·rw [if_pos hk,List.length_cons,List.length_cons];omega
  ·rw [if_neg hk,List.length_cons,List.length_cons];omega
theorem qu.some_of {v:V} {o:Option Value} (r:qu (some v) o):∃ u,o=some u∧Dd v u:=by
 cases o with
 | none=>exact (show False from r).elim
 | some u=>exact ⟨u,rfl,r⟩
theorem qu.none_of {o:Option Value} (r:qu none o):o=none:=by
 cases o with
 | none=>rfl
 | some u=>exact (show False from r).elim
theorem vB {v:V} {u:Value} (r:Dd v u):PySem.W.handedIn u=true:=by
 cases v with
 | non=>cases (show u=Value.none from r);rfl
 | bl b=>cases (show u=Value.bool b from r);rfl
 | int i=>obtain ⟨t,e⟩:=(show ∃ t,u=Value.int i t from r);cases e;rfl
 | str x=>obtain ⟨t,e⟩:=(show ∃ t,u=Value.str x t from r);cases e;rfl
 | byt b=>obtain ⟨t,e⟩:=(show ∃ t,u=Value.bytes b t from r);cases e;rfl
 | flt b=>obtain ⟨t,e⟩:=(show ∃ t,u=Value.float b t from r);cases e;rfl
 | ref a=>cases (show u=Value.ref a from r);rfl
 | ty n=>cases (show u=Value.type n from r);rfl
section
variable {P:Program} {w:World} {H H':Hp} {h h':Heap} {a C dx:Addr} {fs fs':List (Str × V)}
theorem au (hok:HOk P w H h) (e:H a=some (.ins C dx fs)):∃ mA,VH h a dx C mA∧(∀ f,qu (fs.lookup f) (mA f))∧PySem.Within mA (fs.map (·.1))∧fs.length ≤ 1000∧H dx=some (.own a):=by
 obtain ⟨d,z,ne,ob,mA,n,r,q⟩:=(show Zd P w H h a (.ins C dx fs) from hok a _ e);exact ⟨mA,⟨ob,n,ne⟩,r,q,z,d⟩
end
structure Cls (K:PySem.W.Frag) (C:Addr):Prop where
 pg:PySem.W.plainGet K C Str.empty=true
 hd:PySem.W.hasDictIn K C=true
 po:PySem.W.plainOver K C=true
 sa:PySem.W.findIn K (.ref C) "__setattr__"=some (some (.builtin "object.__setattr__"))
theorem Cls.get {K:PySem.W.Frag} {C:Addr} (c:Cls K C) (f:Str):PySem.W.plainGet K C f=true:=c.pg
noncomputable def gc (K:PySem.W.Frag) (C:Addr) (f:Str):Prop:=PySem.W.findIn K (.ref C) f=some none
theorem gc.taker {K:PySem.W.Frag} {C:Addr} {f:Str} (n:gc K C f):PySem.W.takerIn K C f=some none:=by
 unfold PySem.W.takerIn;rw [show PySem.W.findIn K (.ref C) f=some none from n];rfl
structure Con (K:PySem.W.Frag) (C:Addr) (f:Str) (v:V) (u:Value):Prop where
 at_:PySem.W.findIn K (.ref C) f=some (some u)
 rel:Dd v u
 get:PySem.W.specialIn K u "__get__"=some none
 cp:PySem.W.copiedNames.contains f=false
structure zu (K:PySem.W.Frag) (C:Addr) (m:Str) (f:Addr):Prop where
 at_:PySem.W.findIn K (.ref C) m=some (some (.ref f))
 fn:PySem.W.isFn K (.ref f)=true
 kp:PySem.W.keepIn K (.ref f)=true
section
variable {X:Cx} {pins:List (Addr × Obj)} {σ:St} {H:Hp} {s:Shared} {a C dx:Addr} {fs:List (Str × V)} {f:Str} {v:V} {A:Around} {E:Value→Shared→Prop}
theorem Ft {b:Bool} {Q:Value→Shared→Prop} (I:Inv X pins σ H s) (e:H a=some (.ins C dx fs)) (c:Cls X.K C) (n:gc X.K C f) (l:fs.lookup f=some v)
  (h:∀ u s',Inv X pins σ H s'→Dd v u→Q u s'):wpAny (model X.prog X.w) A (getAttr (.ref a) f b) Q E s:=by
 obtain ⟨mA,O,r,_,_,_⟩:=au I.hok e;obtain ⟨u,hu,ru⟩:=qu.some_of (v:=v) (o:=mA f) (by rw [← l];exact r f);exact hJ I.kIn O (c.get f) c.hd n hu (vB ru) (h u _ (I.tok _) ru)
theorem Vn {m:Str} {g:Addr} {pl:Sem Bool} {Q:Value × List Value→Shared→Prop} (I:Inv X pins σ H s) (e:H a=some (.ins C dx fs)) (c:Cls X.K C) (k:zu X.K C m g) (l:fs.lookup m=none)
  (h:Q (.ref g,[.ref a]) s):wpAny (model X.prog X.w) A (getMethod (.ref a) m pl) Q E s:=by
 obtain ⟨mA,O,r,_,_,_⟩:=au I.hok e;have hn:mA m=none:=qu.none_of (by rw [← l];exact r m);exact NE I.kIn O (c.get m) k.at_ k.fn hn h
theorem Ht {y:V} {u:Value} {Q:Unit→Shared→Prop} (I:Inv X pins σ H s) (e:H a=some (.ins C dx fs)) (c:Cls X.K C) (n:gc X.K C f) (hl:fs.length < 1000) (ry:Dd y u)
  (h:∀ s',Inv X pins σ (upd H a (.ins C dx (Hi f y fs))) s'→Q () s'):wpAny (model X.prog X.w) A (setAttr (.ref a) f u) Q E s:=by
 obtain ⟨mA,O,r,wi,_,ho⟩:=au I.hok e;have hz:(fs.map (·.1)).length ≤ sizeLine:=by rw [List.length_map,sizeLine_eq];omega
 refine wJ I.kIn O c.sa c.po n.taker c.hd wi hz fun h' O' sb=>h _ ?_
 have hd:∃ o,h'.get? dx=some o:=let ⟨o,_,_,e',_⟩:=O'.ns;⟨o,e'⟩;refine I.write (x:=a) (e:=dx) (by rw [e];exact True.intro) (.inr ho) (fun b q hb z=>(sb.2 b hb).trans z) hd ?_;refine ⟨by rw [ub O.ne];exact ho,?_,O.ne,O'.obj,_,O'.ns,fun g=>?_,fun g hg=>?_⟩
 ·have:=Ol f y fs;omega
 ·show qu ((Hi f y fs).lookup g) (if g=f then some u else mA g);rw [cq];by_cases q:g=f
  ·rw [if_pos q,if_pos q];exact ry
  ·rw [if_neg q,if_neg q];exact r g
 ·by_cases q:g=f
  ·rw [q];exact (xr f y fs).1
  ·refine (xr f y fs).2 g (wi g fun z=>hg ?_);show (if g=f then some u else mA g)=none;rw [if_neg q];exact z
theorem Inv.made (I:Inv X pins σ H s):Inv X pins σ (upd (upd H s.heap.objs.size (.own (s.heap.objs.size + 1))) (s.heap.objs.size + 1) (.ins C s.heap.objs.size []))
  { s with heap:=(s.heap.push PySem.W.emptyDict).push (PySem.W.instObj C s.heap.objs.size) }:=by
 have e1:(s.heap.push PySem.W.emptyDict).get? s.heap.objs.size=some PySem.W.emptyDict:=Heap.get?_push_size s.heap rfl;have e2:((s.heap.push PySem.W.emptyDict).push (PySem.W.instObj C s.heap.objs.size)).get? (s.heap.objs.size + 1)=some (PySem.W.instObj C s.heap.objs.size):=by
  have:=Heap.get?_push_size (s.heap.push PySem.W.emptyDict) (o:=PySem.W.instObj C s.heap.objs.size) rfl;rwa [Heap.size_push] at this
 have e3:(s.heap.push PySem.W.emptyDict).Ns s.heap.objs.size (fun _=>none):=⟨PySem.W.emptyDict,#[],_,e1,rfl,(fun e he=>absurd he (by simp)),fun _=>rfl⟩;have I1:=I.laid (a:=s.heap.objs.size) (o:=.own (s.heap.objs.size + 1)) (h':=s.heap.push PySem.W.emptyDict) (t':=s.toks) (fun b u q=>Heap.get?_push_of_some _ q) (Nat.le_refl _) ⟨_,e1⟩;refine I1.laid (a:=s.heap.objs.size + 1) (o:=.ins C s.heap.objs.size []) (t':=s.toks) (fun b u q=>Heap.get?_push_of_some _ q) (Nat.le_of_eq (Heap.size_push _ _)) ?_;have ne:s.heap.objs.size ≠ s.heap.objs.size + 1:=Nat.ne_of_lt (Nat.lt_succ_self _);refine ⟨by rw [ub ne,cb],Nat.zero_le _,ne,e2,fun _=>none,(Heap.Ns1.of_empty e3).at fun o q=>Heap.get?_push_of_some _ q,fun _=>True.intro,fun y hy=>absurd rfl hy⟩
theorem YH {prog:Program} {w:World} {env:Env} {e:Expr} {f:Str} {pos:Pos} {s:Shared} {Q:Value→Shared→Prop} (hb:attributeBase e f env (eval e env)=eval e env)
  (h:wpAny (model prog w) A (eval e env) (fun o s₁=>wpAny (model prog w) A (getAttr o f true) Q E s₁) E s):wpAny (model prog w) A (eval (.Attribute e f pos) env) Q E s:=
 Attribute_any_ h (by rw [arm_eval_Attribute,hb])
end
noncomputable def RM (K:PySem.W.Frag) (ta:TE) (f:Str):TE:=fun σ H Q=>ta σ H fun x H1=>∃ a C dx fs v,x=.ref a∧H1 a=some (.ins C dx fs)∧Cls K C∧gc K C f∧fs.lookup f=some v∧Q v H1
noncomputable def kN (K:PySem.W.Frag) (ta tv:TE) (f:Str):TS:=fun D σ H=>tv σ H fun y H1=>ta σ H1 fun x H2=>∃ a C dx fs,x=.ref a∧H2 a=some (.ins C dx fs)∧Cls K C∧gc K C f∧fs.length < 1000 ∧
 D.nx σ (upd H2 a (.ins C dx (Hi f y fs)))
noncomputable def AN (X:Cx) (op:Operator) (rd:V→V→Hp→VK→Prop):Prop:=
 ∀ (pins:List (Addr × Obj)) (s:Shared) (σ:St) (H:Hp) (x y:V) (u v:Value) (Q:VK),Inv X pins σ H s→Dd x u→Dd y v→rd x y H Q→wpAny (model X.prog X.w) X.A (inplaceOp op u v) (EP X pins σ Q) X.xe s
noncomputable def GC (K:PySem.W.Frag) (ta tv:TE) (rd:V→V→Hp→VK→Prop) (f:Str):TS:=fun D σ H=>ta σ H fun x H1=>∃ a C dx fs v,x=.ref a∧H1 a=some (.ins C dx fs)∧Cls K C∧gc K C f∧fs.lookup f=some v ∧
 tv σ H1 fun y H2=>rd v y H2 fun z H3=>∃ dx' fs',H3 a=some (.ins C dx' fs')∧fs'.length < 1000∧D.nx σ (upd H3 a (.ins C dx' (Hi f z fs')))
section
variable {X:Cx} {o e value:Expr} {f:Str} {pos pos' tpos:Pos} {ta tv:TE}
theorem Ic (he:PE X e ta) (hb:attributeBase e f X.env (eval e X.env)=eval e X.env):PE X (.Attribute e f pos) (RM X.K ta f):=by
 intro pins s σ H Q I h;refine YH hb (thn (he pins s σ H _ I h) fun u s1 hZ1=>?_);obtain ⟨x,H1,I1,rx,a,C,dx,fs,v,ex,ea,c,n,l,q⟩:=hZ1;subst ex;obtain rfl:u=Value.ref a:=rx;exact Ft I1 ea c n l fun u' s2 I2 ru=>⟨v,H1,I2,ru,q⟩
theorem Zf (ha:PE X o ta) (hv:PE X value tv) (hs:swapsWith value (some (.Attribute o f pos')) pos.line X.env=pure false):PS X (.Assign [.Attribute o f pos'] value pos) (kN X.K ta tv f):=by
 intro pins s σ H D I h;refine plainObj_wpAny_Assign_Attribute (thn (hv pins s σ H _ I h) fun u s1 ⟨y,H1,I1,ry,q⟩=>thn (ha pins s1 σ H1 _ I1 q) fun ov s2 hZ1=>?_) hs;obtain ⟨x,H2,I2,rx,a,C,dx,fs,ex,ea,c,n,l,q2⟩:=hZ1;subst ex;obtain rfl:ov=Value.ref a:=rx;exact Ht I2 ea c n l ry fun s3 I3=>⟨σ,_,I3,q2⟩
theorem AB {op:Operator} {rd:V→V→Hp→VK→Prop} (ha:PE X o ta) (hv:PE X value tv) (hop:AN X op rd):PS X (.AugAssign (.Attribute o f tpos) op value pos) (GC X.K ta tv rd f):=by
 intro pins s σ H D I h;refine wpAny_AugAssign_AttributeAny (thn (ha pins s σ H _ I h) fun ov s1 hZ1=>?_);obtain ⟨x,H1,I1,rx,a,C,dx,fs,v,ex,ea,c,n,l,q⟩:=hZ1;subst ex;obtain rfl:ov=Value.ref a:=rx;refine Ft I1 ea c n l fun u s2 I2 ru=>thn (hv pins s2 σ H1 _ I2 q) fun w3 s3 ⟨y,H2,I3,ry,q3⟩=>thn (hop pins s3 σ H2 v y u w3 _ I3 ru ry q3) fun w4 s4 hZ1=>?_
 obtain ⟨z,H3,I4,rz,dx',fs',ea',l',q4⟩:=hZ1;exact Ht I4 ea' c n l' rz fun s5 I5=>⟨σ,_,I5,q4⟩
noncomputable def xN:V→V→Hp→VK→Prop:=fun x y H Q=>∃ i j,x=.int i∧y=.int j∧Q (.int (i + j)) H
theorem TK:AN X .Add xN:=by
 rintro pins s σ H x y u v Q I rx ry ⟨i,j,rfl,rfl,q⟩;obtain ⟨t,rfl⟩:=(show ∃ t,u=Value.int i t from rx);obtain ⟨t',rfl⟩:=(show ∃ t',v=Value.int j t' from ry);exact PyProof.Rows.iadd_int ⟨.int (i + j),H,I.tok _,⟨_,rfl⟩,q⟩
end
section
variable {X:Cx} {pins:List (Addr × Obj)} {σ:St} {H:Hp} {s:Shared} {A:Around} {E:Value→Shared→Prop} {Q:Value→Shared→Prop} {c:Value} {b:Bool}
inductive Rz (K:PySem.W.Frag) (H:Hp):V→Value→Prop where
 | non:Rz K H .non (.type "NoneType")
 | bl (x:Bool):Rz K H (.bl x) (.type "bool")
 | int (i:Int):Rz K H (.int i) (.type "int")
 | str (x:Str):Rz K H (.str x) (.type "str")
 | flt (x:UInt64):Rz K H (.flt x) (.type "float")
 | lst {a:Addr} {xs:List V} (e:H a=some (.lst xs)):Rz K H (.ref a) (.type "list")
 | frz {a:Addr} {o:Obj} {xs:List V} (e:H a=some (.frz o (.lst xs))):Rz K H (.ref a) (.type "list")
 | tup {a:Addr} {xs:List V} (e:H a=some (.tup xs)):Rz K H (.ref a) (.type "tuple")
 | dK {a:Addr} {kvs:List (Key × V)} (e:H a=some (.dK kvs)):Rz K H (.ref a) (.type "dict")
 | dT {a:Addr} {kvs:List (List Key × V)} (e:H a=some (.dT kvs)):Rz K H (.ref a) (.type "dict")
 | ins {a C dx:Addr} {fs:List (Str × V)} (e:H a=some (.ins C dx fs)) (cl:Cls K C) (ha:PySem.W.findIn K (.ref C) "__class__"=some (some (.builtin "object.__class__")))
   (hn:PySem.W.specialIn K (.builtin "object.__class__") "__get__"=some (some (.builtin "getset_descriptor.__get__"))) (htk:PySem.W.takesIn K (.builtin "object.__class__")=some true)
   (hm:PySem.W.mroIn K C (.type "object")=some true):Rz K H (.ref a) (.ref C)
theorem AC {x:V} {u t:Value} (I:Inv X pins σ H s) (rx:Dd x u) (ty:Rz X.K H x t) (e:PySem.W.kitOne X.K t c=some b) (h:∀ tk,Q (.bool b) { s with toks:=tk }) :
  wpAny (model X.prog X.w) A (call (.builtin "isinstance") [u,c]) Q E s:=by
 cases ty with
 | non=>cases (show u=Value.none from rx);exact PySem.W.kia_one PySem.W.kitx_none I.kIn True.intro e (fun z=>nomatch z) h
 | bl y=>cases (show u=Value.bool y from rx);exact PySem.W.kia_one PySem.W.kitx_bool I.kIn True.intro e (fun z=>nomatch z) h
 | int i=>obtain ⟨t,q⟩:=(show ∃ t,u=Value.int i t from rx);cases q;exact PySem.W.kia_one PySem.W.kitx_int I.kIn True.intro e (fun z=>nomatch z) h
 | str y=>obtain ⟨t,q⟩:=(show ∃ t,u=Value.str y t from rx);cases q;exact PySem.W.kia_one PySem.W.kitx_str I.kIn True.intro e (fun z=>nomatch z) h
 | flt y=>obtain ⟨t,q⟩:=(show ∃ t,u=Value.float y t from rx);cases q;exact PySem.W.kia_one PySem.W.kitx_float I.kIn True.intro e (fun z=>nomatch z) h
 | @lst a xs ea=>
  cases (show u=Value.ref a from rx);obtain ⟨_,_,n,_,h1⟩:=(show Zd X.prog X.w H s.heap a (.lst xs) from I.hok a _ ea);exact PySem.W.kia_one PySem.W.kitx_list I.kIn ⟨_,h1,rfl⟩ e (fun z=>nomatch z) h
 | @frz a ob xs ea=>
  cases (show u=Value.ref a from rx);obtain ⟨_,_,_,n,_,h1⟩:=(show Zd X.prog X.w H s.heap a (.frz ob (.lst xs)) from I.hok a _ ea);exact PySem.W.kia_one PySem.W.kitx_list I.kIn ⟨_,h1,rfl⟩ e (fun z=>nomatch z) h
 | @tup a xs ea=>
  cases (show u=Value.ref a from rx);obtain ⟨_,_,_,p⟩:=(show Zd X.prog X.w H s.heap a (.tup xs) from I.hok a _ ea);obtain ⟨o,h1,h2,_⟩:=p;exact PySem.W.kia_one PySem.W.kitx_tuple I.kIn ⟨o,h1,h2⟩ e (fun z=>nomatch z) h
 | @dK a kvs ea=>
  cases (show u=Value.ref a from rx);obtain ⟨_,_,vs,_,p⟩:=(show Zd X.prog X.w H s.heap a (.dK kvs) from I.hok a _ ea);obtain ⟨o,es,ep,h1,h2,_⟩:=p;exact PySem.W.kia_one PySem.W.kitx_dict I.kIn ⟨o,h1,h2.1⟩ e (fun z=>nomatch z) h
 | @dT a kvs ea=>
  cases (show u=Value.ref a from rx);obtain ⟨_,_,xs,_,o,es,ep,h1,h2,_⟩:=(show Zd X.prog X.w H s.heap a (.dT kvs) from I.hok a _ ea);exact PySem.W.kia_one PySem.W.kitx_dict I.kIn ⟨o,h1,h2.1⟩ e (fun z=>nomatch z) h
 | @ins a C dx fs ea cl ha hn htk hm=>
  cases (show u=Value.ref a from rx);obtain ⟨mA,O,_⟩:=au I.hok ea;obtain ⟨od,J,_⟩:=O.look;exact PySem.W.kia_one (PySem.W.kitx_own (cl.get _) cl.hd ha hn htk hm) I.kIn J e (fun z=>nomatch z) h
end
end L2
namespace L2
open PySem PySem.Spec PyProof.Rows
structure Mj (k:Nat) (A:Around):Prop where
 hd:A.handled=none
 dp:A.depth + 3 * k + 5 < recursionLimit
 un:A.units + 16 * k + 200 < cLine
theorem Mj.mono {j k:Nat} {A:Around} (r:Mj k A) (h:j ≤ k):Mj j A:=⟨r.hd,by have:=r.dp;omega,by have:=r.un;omega⟩
theorem Mj.deeper {k:Nat} {A:Around} (r:Mj (k + 1) A) (env:Env):Mj k (A.deeper env):=
 ⟨r.hd,by have:=r.dp;show A.depth + 1 + 3 * k + 5 < _;omega,by have:=r.un;show A.units + 3 + 16 * k + 200 < _;omega⟩
theorem Mj.in1 {k:Nat} {A:Around} (r:Mj (k + 1) A):Mj k A.in1:=
 ⟨r.hd,by have:=r.dp;show A.depth + 3 * k + 5 < _;omega,by have:=r.un;show A.units + 1 + 16 * k + 200 < _;omega⟩
theorem lA {A:Around} {C:Addr} {us:List Value} {kw:List (Str × Value)}:(A.under (.builtin "type.__call__" ⟨.ref C :: us,kw⟩)).depth=A.depth + 1:=by
 first | rfl | simp [Around.under,Code.weight,Code.isCreation,Code.isGuard,Code.isCaller,Code.frames,Code.isFrame,guardIds]
theorem AA {A:Around} {C:Addr} {us:List Value} {kw:List (Str × Value)}:(A.under (.builtin "type.__call__" ⟨.ref C :: us,kw⟩)).units=A.units + 1:=by
 first | rfl | simp [Around.under,Code.cUnits,Code.frames,Code.isFrame]
theorem Mj.make {k:Nat} {A:Around} (r:Mj (k + 1) A) (C:Addr) (us:List Value) (kw:List (Str × Value)):Mj k (A.under (.builtin "type.__call__" ⟨.ref C :: us,kw⟩)):=
 ⟨r.hd,by have:=r.dp;rw [lA];omega,by have:=r.un;rw [AA];omega⟩
theorem Mj.depth {k:Nat} {A:Around} (r:Mj k A):A.depth < recursionLimit:=by have:=r.dp;omega
theorem Mj.units {k:Nat} {A:Around} (r:Mj k A):A.units + 64 < cLine:=by have:=r.un;omega
noncomputable def nM:TA:=fun _ H Q=>Q [] H
noncomputable def XL (ta:TE) (tr:TA):TA:=fun σ H Q=>ta σ H fun x H1=>tr σ H1 fun xs H2=>Q (x :: xs) H2
section
variable {X:Cx} {e:Expr} {es:List Expr} {te:TE} {t:TA} {pos:Pos}
theorem fb:PA X [] nM:=fun _ _ _ _ H Q I h=>Calls.spliced_nil ⟨[],H,I,.nil,h⟩
theorem ab (ha:PE X e te) (hr:PA X es t) (hs:starEach (e :: es) X.env=(false,eval e X.env) :: starEach es X.env:=by rfl):PA X (e :: es) (XL te t):=by
 intro pos pins s σ H Q I h;rw [hs];show wpAny _ _ (spliced ((false,eval e X.env) :: backTo pos (starEach es X.env))) _ _ s;refine Calls.spliced_cons (thn (ha pins s σ H _ I h) fun u s1 hZ1=>?_);obtain ⟨x,H1,I1,r1,q1⟩:=hZ1;exact thn (hr pos pins s1 σ H1 _ I1 q1) fun us s2 ⟨xs,H2,I2,r2,q2⟩=>⟨x :: xs,H2,I2,.cons r1 r2,q2⟩
noncomputable def FN (t:TA):TE:=fun σ H Q=>t σ H fun xs H1=>xs.length ≤ sizeLine∧∀ p,H1 p=none→Q (.ref p) (upd H1 p (.tup xs))
noncomputable def cN (t:TA):TE:=fun σ H Q=>t σ H fun xs H1=>xs.length ≤ sizeLine∧∀ p,H1 p=none→Q (.ref p) (upd H1 p (.lst xs))
theorem Yg {x1} (h:PA X es t):PE X (.Tuple es x1 pos) (FN t):=by
 intro pins s σ H Q I hq;refine wpAny_Tuple_spliced (thn (h pos pins s σ H _ I hq) fun us s1 ⟨xs,H1,I1,r,z,q⟩=>⟨by rw [← r.length];exact z,?_⟩);have hf:H1 s1.heap.objs.size=none:=I1.hok.fresh (Nat.le_refl _);refine ⟨.ref s1.heap.objs.size,upd H1 s1.heap.objs.size (.tup xs),I1.laid (t':=s1.toks) (fun b u e=>Heap.get?_push_of_some _ e) (Nat.le_refl _) ?_,rfl,q _ hf⟩;exact ⟨z,us,r,⟨_,Heap.get?_push_size _ rfl,rfl,_,rfl⟩⟩
theorem Td (h:PA X es t):PE X (.List es pos) (cN t):=by
 intro pins s σ H Q I hq;refine wpAny_List_spliced (thn (h pos pins s σ H _ I hq) fun us s1 ⟨xs,H1,I1,r,z,q⟩=>⟨by rw [← r.length];exact z,?_⟩);have hf:H1 s1.heap.objs.size=none:=I1.hok.fresh (Nat.le_refl _);refine ⟨.ref s1.heap.objs.size,upd H1 s1.heap.objs.size (.lst xs),I1.laid (t':=s1.toks) (fun b u e=>Heap.get?_push_of_some _ e) (Nat.le_refl _) ?_,rfl,q _ hf⟩;exact ⟨z,us,0,r,Heap.get?_push_size _ rfl⟩
end
noncomputable abbrev Sp:=List V→Hp→VK→XK→Prop
noncomputable abbrev CXT:=List Env→Hp→Shared→XK→Value→Shared→Prop
structure wC (P:Program) (w:World) (K:PySem.W.Frag) (mg:Str→Option Value) (base:Heap) (A:Around) (outer:List Env) (s:Shared) (H:Hp):Prop where
 frames:A.frames=some outer
 mod:Mod K mg base
 bs:∀ b o,base.get? b=some o→s.heap.get? b=some o∧H b=none
 bsz:base.objs.size ≤ s.heap.objs.size
 funs:s.heap.FunFrames base outer
 frf:∀ b ∈ frs outer,H b=none
 hok:HOk P w H s.heap
 bare:AllBare s.gens
noncomputable def CE (outer:List Env) (P:Program) (w:World) (H:Hp) (s:Shared) (Q:VK) (u:Value) (s':Shared):Prop:=
 ∃ v H',s'.os=s.os∧AllBare s'.gens∧Un (frs outer) [] H H' s.heap s'.heap∧HOk P w H' s'.heap∧Dd v u∧Q v H'
noncomputable def CR (CX:CXT) (outer:List Env) (P:Program) (w:World) (H:Hp) (s:Shared) (Q:VK) (E:XK) (r:Result) (s':Shared):Prop:=
 match r with
 | .ok (.ret u)=>CE outer P w H s Q u s'
 | .ok _=>False
 | .error e=>CX outer H s E e s'
structure Pb (P:Program) (w:World) (K:PySem.W.Frag) (mg:Str→Option Value) (base:Heap) (CX:CXT) (k:Nat) (f:Addr) (fd:FuncData) (ps:List Str) (sp:Sp):Prop where
 len:∀ vs H Q E,sp vs H Q E→vs.length=ps.length
 run:∀ (A:Around) (outer:List Env) (s:Shared) (H:Hp) (args:Args) (us:List Value) (vs:List V) (Q:VK) (E:XK),Mj k A→wC P w K mg base A outer s H→BindsTo s fd args (ps.zip us)→Ad vs us→sp vs H Q E →
  codeAny (model P w) A (.call (.ref f) args) (CR CX outer P w H s Q E) s
theorem Pb.mono {P:Program} {w:World} {K:PySem.W.Frag} {mg:Str→Option Value} {base:Heap} {CX:CXT} {j k:Nat} {f:Addr} {fd:FuncData} {ps:List Str} {sp:Sp} (F:Pb P w K mg base CX j f fd ps sp) (h:j ≤ k) :
  Pb P w K mg base CX k f fd ps sp:=⟨F.len,fun A outer s H args us vs Q E hr=>F.run A outer s H args us vs Q E (hr.mono h)⟩
theorem Pb.imp {P:Program} {w:World} {K:PySem.W.Frag} {mg:Str→Option Value} {base:Heap} {CX:CXT} {k:Nat} {f:Addr} {fd:FuncData} {ps:List Str} {sp sp':Sp} (F:Pb P w K mg base CX k f fd ps sp)
  (h:∀ vs H Q E,sp' vs H Q E→sp vs H Q E):Pb P w K mg base CX k f fd ps sp':=
 ⟨fun vs H Q E q=>F.len vs H Q E (h _ _ _ _ q),fun A outer s H args us vs Q E hr he hb hv hs=>F.run A outer s H args us vs Q E hr he hb hv (h _ _ _ _ hs)⟩
theorem wC.make {P:Program} {w:World} {K:PySem.W.Frag} {mg:Str→Option Value} {base:Heap} {A:Around} {outer:List Env} {s:Shared} {H:Hp} (e:wC P w K mg base A outer s H) (C:Addr) (us:List Value) (kw:List (Str × Value)) :
  wC P w K mg base (A.under (.builtin "type.__call__" ⟨.ref C :: us,kw⟩)) outer s H:=⟨by first | exact e.frames | (simpa [Around.under,Code.envs,Code.isFrame,pushEnvs] using e.frames),e.mod,e.bs,e.bsz,e.funs,e.frf,e.hok,e.bare⟩
theorem wC.in1 {P:Program} {w:World} {K:PySem.W.Frag} {mg:Str→Option Value} {base:Heap} {A:Around} {outer:List Env} {s:Shared} {H:Hp} (e:wC P w K mg base A outer s H) :
  wC P w K mg base A.in1 outer s H:=⟨e.frames,e.mod,e.bs,e.bsz,e.funs,e.frf,e.hok,e.bare⟩
section
variable {X:Cx} {pins:List (Addr × Obj)} {σ:St} {H:Hp} {s s':Shared}
theorem Inv.env0 (I:Inv X pins σ H s):wC X.prog X.w X.K X.mg X.base X.A X.stack s H:=
 ⟨I.ok.frames,I.ok.mod,I.bs,Nat.le_trans I.ok.bsz I.sz,I.stack,I.stkFree,I.hok,I.bare⟩
theorem Inv.after {Q:VK} {u:Value} (I:Inv X pins σ H s) (h:CE X.stack X.prog X.w H s Q u s'):EP X pins σ Q u s':=by
 obtain ⟨v,H',os,bare,un,hok,r,q⟩:=h;obtain ⟨hh,g,d,t,os'⟩:=s';obtain rfl:os'=s.os:=os;exact ⟨v,H',I.call (h':=hh) (g':=g) (d':=d) (t':=t) (ch:=[]) un hok bare (fun b z=>absurd z (by simp)),r,q⟩
end
noncomputable def oJ (sp:Sp) (dvs:List V) (E:XK) (t:TA):TE:=fun σ H Q=>t σ H fun vs H1=>sp (vs ++ dvs) H1 Q E
noncomputable def JJ (C:Addr) (m:Str) (sp:Sp) (dvs:List V) (E:XK) (ta:TE) (t:TA):TE:=fun σ H Q=>ta σ H fun x H1=>∃ a dx fs,x=.ref a∧H1 a=some (.ins C dx fs)∧fs.lookup m=none ∧
 t σ H1 fun vs H2=>sp (x :: (vs ++ dvs)) H2 Q E
noncomputable def BK (C:Addr) (sp:Sp) (dvs:List V) (E:XK) (t:TA):TE:=fun σ H Q=>t σ H fun vs H1=>∀ x dx,H1 x=none→H1 dx=none→dx ≠ x →
 sp (.ref x :: (vs ++ dvs)) (upd (upd H1 dx (.own x)) x (.ins C dx [])) (fun v H2=>v=.non∧Q (.ref x) H2) E
noncomputable def bc (K:PySem.W.Frag) (fd:FuncData) (ps:List Str) (ds:List Value):Prop:=
 ∀ (s:Shared) (us:List Value),K.In s.heap→(us ++ ds).length=ps.length→BindsTo s fd ⟨us,[]⟩ (ps.zip (us ++ ds))
theorem bc.all {K:PySem.W.Frag} {fd:FuncData} {ps:List Str} (h:∀ us:List Value,us.length=ps.length→bindArgs fd ⟨us,[]⟩=pure (ps.zip us)):bc K fd ps []:=fun s us _ hl=>by
 rw [List.append_nil] at hl ⊢;exact .of_eq (h us hl)
noncomputable def Vm (CX:CXT) (X:Cx) (E:XK):Prop:=∀ (pins:List (Addr × Obj)) (σ:St) (H:Hp) (s:Shared) (e:Value) (s':Shared),Inv X pins σ H s→CX X.stack H s E e s'→X.xe e s'
section
variable {X:Cx} {CX:CXT} {k:Nat} {f C:Addr} {fd:FuncData} {ps:List Str} {sp:Sp} {dvs:List V} {ds:List Value} {E:XK} {x m:Str} {p pos apos:Pos} {e o:Expr} {es:List Expr} {ta:TE} {t:TA}
theorem Iv {pins:List (Addr × Obj)} {σ:St} {H:Hp} {s:Shared} {Q:VK} {us:List Value} {vs:List V} (F:Pb X.prog X.w X.K X.mg X.base CX k f fd ps sp) (hr:Mj k X.A) (hb:bc X.K fd ps ds) (hd:Ad dvs ds) (hx:Vm CX X E)
  (I:Inv X pins σ H s) (r:Ad vs us) (h:sp (vs ++ dvs) H Q E):wpAny (model X.prog X.w) X.A (call (.ref f) us) (EP X pins σ Q) X.xe s:=by
 have r2:Ad (vs ++ dvs) (us ++ ds):=r.append hd;have hl:(us ++ ds).length=ps.length:=by rw [← r2.length];exact F.len _ _ _ _ h
 refine wpAny_call (codeAny_mono (F.run X.A X.stack s H ⟨us,[]⟩ (us ++ ds) (vs ++ dvs) Q E hr I.env0 (hb s us I.kIn hl) r2 h) fun r s' hq=>?_);cases r with
 | error e=>exact hx pins σ H s e s' I hq
 | ok fl=>
  cases fl with
  | ret u=>exact I.after hq
  | next=>exact False.elim hq
  | brk=>exact False.elim hq
  | cont=>exact False.elim hq
theorem xb (F:Pb X.prog X.w X.K X.mg X.base CX k f fd ps sp) (hr:Mj k X.A) (hg:Gl X x) (hm:X.mg x=some (.ref f)) (hk:PySem.W.keepIn X.K (.ref f)=true) (hb:bc X.K fd ps ds) (hd:Ad dvs ds) (hx:Vm CX X E)
  (ha:PA X (e :: es) t) (hdb:(x == ("__debug__" : Str))=false:=by decide) (he:starEach (e :: es) X.env=(false,eval e X.env) :: starEach es X.env:=by rfl) (hpl:(backTo pos (starEach es X.env)).any (·.1)=false:=by rfl) :
  PE X (.Call (.Name x p) (e :: es) [] pos) (oJ sp dvs E t):=by
 intro pins s σ H Q I h;refine wpAny_Call_Name_kw (Cu I hg hm ?_ hdb);refine PySem.W.callWith_K (h₀:=X.base) I.ok.mod.kin hk (thn (ha pos pins s σ H _ I h) fun us s1 ⟨vs,H1,I1,r,q⟩=>⟨I1.kIn,?_⟩) he hpl;exact Iv F hr hb hd hx I1 r q
theorem bd {pl:Sem Bool} (he:PE X o ta) (c:Cls X.K C) (hm:zu X.K C m f) (F:Pb X.prog X.w X.K X.mg X.base CX k f fd ps sp) (hr:Mj k X.A) (hb:bc X.K fd ps ds) (hd:Ad dvs ds) (hx:Vm CX X E) (ha:PA X (e :: es) t)
  (hst:starEach (e :: es) X.env=(false,eval e X.env) :: starEach es X.env:=by rfl) (hpl:(backTo pos (starEach es X.env)).any (·.1)=false:=by rfl)
  (ht:eval (.Call (.Attribute o m apos) (e :: es) [] pos) X.env=(do
   let ov ← eval o X.env
   standAt apos.atName
   let (f,first) ← holding [ov] (getMethod ov m pl)
   callWith pos f first (backTo pos (starEach (e :: es) X.env)) (backToKw pos (keywordEach [] X.env))):=by rfl) :
  PE X (.Call (.Attribute o m apos) (e :: es) [] pos) (JJ C m sp dvs E ta t):=by
 intro pins s σ H Q I h;refine PySem.W.methodCall_KW (pl:=pl) (thn (he pins s σ H _ I h) fun u s1 hZ1=>?_) ht;obtain ⟨x,H1,I1,rx,a,dx,fs,ex,ea,l,q⟩:=hZ1;subst ex;obtain rfl:u=Value.ref a:=rx;refine Vn I1 ea c hm l ?_;refine PySem.W.callWith_K (first:=[.ref a]) (h₀:=X.base) I.ok.mod.kin hm.kp (thn (ha pos pins s1 σ H1 _ I1 q) fun us s2 ⟨vs,H2,I2,r,q2⟩=>⟨I2.kIn,?_⟩) hst hpl;exact Iv (us:=.ref a :: us) (vs:=.ref a :: vs) F hr hb hd hx I2 (.cons rfl r) q2
theorem ae {pl:Sem Bool} (he:PE X o ta) (c:Cls X.K C) (hm:zu X.K C m f) (F:Pb X.prog X.w X.K X.mg X.base CX k f fd ps sp) (hr:Mj k X.A) (hb:bc X.K fd ps ds) (hd:Ad dvs ds) (hx:Vm CX X E)
  (ht:eval (.Call (.Attribute o m apos) [] [] pos) X.env=(do
   let ov ← eval o X.env
   standAt apos.atName
   let (f,first) ← holding [ov] (getMethod ov m pl)
   callWith pos f first (backTo pos (starEach [] X.env)) (backToKw pos (keywordEach [] X.env))):=by rfl) :
  PE X (.Call (.Attribute o m apos) [] [] pos) (JJ C m sp dvs E ta nM):=by
 intro pins s σ H Q I h;refine PySem.W.methodCall_KW (pl:=pl) (thn (he pins s σ H _ I h) fun u s1 hZ1=>?_) ht;obtain ⟨x,H1,I1,rx,a,dx,fs,ex,ea,l,q⟩:=hZ1;subst ex;obtain rfl:u=Value.ref a:=rx;refine Vn I1 ea c hm l ?_;exact PySem.W.callWith_K0 (first:=[.ref a]) I1.kIn hm.kp (Iv (us:=[.ref a]) (vs:=[.ref a]) F hr hb hd hx I1 (.cons rfl .nil) q)
structure Mk (K:PySem.W.Frag) (C f:Addr):Prop where
 makes:PySem.W.makesIn K C=true
 init:PySem.W.findIn K (.ref C) "__init__"=some (some (.ref f))
 fn:PySem.W.isFn K (.ref f)=true
 kp:PySem.W.keepIn K (.ref C)=true
theorem UF {pins:List (Addr × Obj)} {σ:St} {H:Hp} {s:Shared} {Q:VK} {us:List Value} {vs:List V} (M:Mk X.K C f) (F:Pb X.prog X.w X.K X.mg X.base CX k f fd ps sp) (hr:Mj (k + 1) X.A) (hb:bc X.K fd ps ds) (hd:Ad dvs ds)
  (hx:Vm CX X E) (I:Inv X pins σ H s) (r:Ad vs us)
  (h:∀ x dx,H x=none→H dx=none→dx ≠ x→sp (.ref x :: (vs ++ dvs)) (upd (upd H dx (.own x)) x (.ins C dx [])) (fun v H2=>v=.non∧Q (.ref x) H2) E) :
  wpAny (model X.prog X.w) X.A (call (.ref C) us) (EP X pins σ Q) X.xe s:=by
 have hq:=h (s.heap.objs.size + 1) s.heap.objs.size (I.hok.fresh (Nat.le_succ _)) (I.hok.fresh (Nat.le_refl _)) (Nat.ne_of_lt (Nat.lt_succ_self _));have I2:=Inv.made (C:=C) I;have r2:Ad (V.ref (s.heap.objs.size + 1) :: (vs ++ dvs)) (Value.ref (s.heap.objs.size + 1) :: (us ++ ds)):=.cons rfl (r.append hd);have hl:(Value.ref (s.heap.objs.size + 1) :: us ++ ds).length=ps.length:=by
  have e:=r2.length;rw [F.len _ _ _ _ hq] at e;exact e.symm
 refine wpAny_call (FF (f:=f) I.kIn M.makes M.init (beq_iff_eq.mp M.fn) (codeAny_mono (F.run _ X.stack _ _ ⟨Value.ref (s.heap.objs.size + 1) :: us,[]⟩ (Value.ref (s.heap.objs.size + 1) :: (us ++ ds)) _ _ E (hr.make C us [])
  (I2.env0.make C us []) (hb _ (Value.ref (s.heap.objs.size + 1) :: us) I2.kIn hl) r2 hq) fun r s' hq'=>?_))
 cases r with
 | error e=>exact hx pins σ _ _ e s' I2 hq'
 | ok fl=>
  cases fl with
  | ret u=>
   obtain ⟨v,H',I3,rv,ev,q3⟩:=I2.after hq';subst ev;exact ⟨rv,⟨V.ref (s.heap.objs.size + 1),H',I3,rfl,q3⟩⟩
  | next=>exact False.elim hq'
  | brk=>exact False.elim hq'
  | cont=>exact False.elim hq'
theorem Jn (M:Mk X.K C f) (F:Pb X.prog X.w X.K X.mg X.base CX k f fd ps sp) (hr:Mj (k + 1) X.A) (hg:Gl X x) (hm:X.mg x=some (.ref C)) (hb:bc X.K fd ps ds) (hd:Ad dvs ds) (hx:Vm CX X E)
  (ha:PA X (e :: es) t) (hdb:(x == ("__debug__" : Str))=false:=by decide) (he:starEach (e :: es) X.env=(false,eval e X.env) :: starEach es X.env:=by rfl) (hpl:(backTo pos (starEach es X.env)).any (·.1)=false:=by rfl) :
  PE X (.Call (.Name x p) (e :: es) [] pos) (BK C sp dvs E t):=by
 intro pins s σ H Q I h;refine wpAny_Call_Name_kw (Cu I hg hm ?_ hdb);refine PySem.W.callWith_K (h₀:=X.base) I.ok.mod.kin M.kp (thn (ha pos pins s σ H _ I h) fun us s1 ⟨vs,H1,I1,r,q⟩=>⟨I1.kIn,?_⟩) he hpl;exact UF M F hr hb hd hx I1 r q
end
section
variable {X:Cx} {CX:CXT} {k:Nat} {f C:Addr} {fd:FuncData} {ps ks:List Str} {sp:Sp} {E:XK} {x m:Str} {p pos apos kpos:Pos} {e o:Expr} {es:List Expr} {kws:List Keyword} {te ta:TE} {t tk:TA} {nm:Option Str}
structure jN (K:PySem.W.Frag) (fd:FuncData) (ps ks:List Str) (g:List Value→List Value→List Value) (gV:List V→List V→List V):Prop where
 to:∀ (s:Shared) (us ws:List Value),K.In s.heap→(g us ws).length=ps.length→BindsTo s fd ⟨us,ks.zip ws⟩ (ps.zip (g us ws))
 rel:∀ {vs:List V} {us:List Value} {zs:List V} {ws:List Value},Ad vs us→Ad zs ws→Ad (gV vs zs) (g us ws)
variable {g:List Value→List Value→List Value} {gV:List V→List V→List V}
end
structure Bb (N P:List Str) (sc:Scope):Prop where
 kind:sc.kind=.function
 co:sc.isCoroutine=false
 gen:sc.isGenerator=false
 nd:N.Nodup
 pre:N.take P.length=P
 par:∀ x ∈ P,sc.names.lookup x=some .local∨sc.names.lookup x=some .cell
 nofree:∀ y ∈ sc.names,y.2 ≠ .free
theorem Bw {kindOf:Str→Option NameKind} {x:Str}:∀ {binds:List (Str × Value)} {m:Str→Option Value},(∀ v,(x,v) ∉ binds)→bindL kindOf binds m x=m x
 | [],_,_=>rfl
 | (n,v) :: r,m,h=>by
  unfold bindL;rw [Bw fun w hw=>h w (List.mem_cons_of_mem _ hw)];split
  ·have:x ≠ n:=by rintro rfl;exact h v List.mem_cons_self
   simp [this]
  ·rfl
theorem vv {kindOf:Str→Option NameKind} {x:Str}:∀ {binds:List (Str × Value)} {m:Str→Option Value},(∀ v,(x,v) ∉ binds)→bindC kindOf binds m x=m x
 | [],_,_=>rfl
 | (n,v) :: r,m,h=>by
  unfold bindC;rw [vv fun w hw=>h w (List.mem_cons_of_mem _ hw)];split
  ·rfl
  ·have:x ≠ n:=by rintro rfl;exact h v List.mem_cons_self
   simp [this]
theorem Sv {kindOf:Str→Option NameKind} {x:Str} {v:Value}:∀ {P:List Str} {vs:List Value} {i:Nat} {m:Str→Option Value},P.Nodup→P[i]? = some x→vs[i]? = some v→kindOf x=some .local →
  bindL kindOf (P.zip vs) m x=some v
 | [],_,_,_,_,h,_,_=>by simp at h
 | _ :: _,[],_,_,_,_,h,_=>by simp at h
 | p :: P,w :: vs,0,m,nd,h1,h2,hk=>by
  simp at h1 h2;subst h1;subst h2;show bindL kindOf ((p,w) :: P.zip vs) m p=_;unfold bindL;rw [Bw fun v hv=>(List.nodup_cons.mp nd).1 (List.of_mem_zip hv).1,if_pos hk];simp
 | p :: P,w :: vs,i + 1,m,nd,h1,h2,hk=>by
  show bindL kindOf ((p,w) :: P.zip vs) m x=_;unfold bindL;exact Sv (i:=i) (List.nodup_cons.mp nd).2 (by simpa using h1) (by simpa using h2) hk
theorem wv {kindOf:Str→Option NameKind} {x:Str} {v:Value}:∀ {P:List Str} {vs:List Value} {i:Nat} {m:Str→Option Value},P.Nodup→P[i]? = some x→vs[i]? = some v→kindOf x ≠ some .local →
  bindC kindOf (P.zip vs) m x=some v
 | [],_,_,_,_,h,_,_=>by simp at h
 | _ :: _,[],_,_,_,_,h,_=>by simp at h
 | p :: P,w :: vs,0,m,nd,h1,h2,hk=>by
  simp at h1 h2;subst h1;subst h2;show bindC kindOf ((p,w) :: P.zip vs) m p=_;unfold bindC;rw [vv fun v hv=>(List.nodup_cons.mp nd).1 (List.of_mem_zip hv).1,if_neg hk];simp
 | p :: P,w :: vs,i + 1,m,nd,h1,h2,hk=>by
  show bindC kindOf ((p,w) :: P.zip vs) m x=_;unfold bindC;exact wv (i:=i) (List.nodup_cons.mp nd).2 (by simpa using h1) (by simpa using h2) hk
noncomputable def start (N:List Str) (vs:List V):St:=vs.map some ++ List.replicate (N.length - vs.length) none
noncomputable def CJ (CX:CXT) (P:Program) (w:World) (K:PySem.W.Frag) (mg:Str→Option Value) (base:Heap) (N:List Str) (qual:Str) (scope:Scope) (f:Addr) (cd:Value) (A:Around) (outer:List Env) (s:Shared) (H:Hp) (E:XK):Cx where
 prog:=P
 w:=w
 K:=K
 mg:=mg
 base:=base
 A:=A.deeper (envOfC qual scope s.heap.objs.size f cd)
 N:=N
 s₀:=s
 H₀:=H
 env:=envOfC qual scope s.heap.objs.size f cd
 outer:=outer
 stack:=envOfC qual scope s.heap.objs.size f cd :: outer
 ex:=[]
 calm:=true
 fn:=fun _=>true
 pn:=[]
 xe:=fun e s'=>wpAny (model P w) (A.deeper (envOfC qual scope s.heap.objs.size f cd)) (leaving (envOfC qual scope s.heap.objs.size f cd) e) (fun _ s''=>CX outer H s E e s'') (fun e' s''=>CX outer H s E e' s'') s'
theorem Wy {sc:Scope} {n:Nat} {x:Str} (h:sc.names.lookup x=some .cell):∃ c,(cellsFrom n sc.names []).lookup x=some c:=by
 have q:=PySem.W.cellsFrom_some sc.names n [] (.inl h);exact Option.isSome_iff_exists.mp q
theorem JD {CX:CXT} {P:Program} {w:World} {K:PySem.W.Frag} {mg:Str→Option Value} {base:Heap} {N ps:List Str} {qual:Str} {scope:Scope} {f:Addr} {cd:Value} {A:Around} {outer:List Env} {s s1:Shared} {H:Hp} {E:XK} {us:List Value} {vs:List V}
  (S:Bb N ps scope) (hd:A.handled=none) (e0:wC P w K mg base A outer s H) (hl:vs.length=ps.length) (r:Ad vs us)
  (x:InCallC s s.heap.objs.size (bindL (envOfC qual scope s.heap.objs.size f cd).kindOf (ps.zip us) fun _=>none) (cellsFrom (s.heap.objs.size + 1) scope.names []) (bindC (envOfC qual scope s.heap.objs.size f cd).kindOf (ps.zip us) fun _=>none) s1) :
  Inv (CJ CX P w K mg base N qual scope f cd A outer s H E) [] (start N vs) H s1:=by
 have hpl:ps.length ≤ N.length:=by have:=congrArg List.length S.pre;rw [List.length_take] at this;omega
 obtain ⟨h1,tk,rfl,hk⟩:=x.done;have noA:∀ b:Addr,b ∉ (CJ CX P w K mg base N qual scope f cd A outer s H E).ex:=fun b z=>absurd (show b ∈ ([]:List Addr) from z) (by simp)
 refine ⟨⟨e0.mod,S.kind,rfl,rfl,Nat.le_refl _,fun y z c h1 h2=>?_,fun y hy=>?_,fun y c _ h=>?_,fun _=>hd,Around.frames_deeper e0.frames,.inr ⟨rfl,rfl⟩,fun b z=>absurd z (noA b),e0.bs,e0.bsz,fun b _ _=>noA b,fun b z=>absurd z (noA b),e0.funs,e0.frf⟩,
  rfl,e0.bare,Un.kept hk,⟨_,x.toInCall.ns,fun i y v h1 h2 h3=>?_⟩,fun y c h=>⟨_,x.cell y c h⟩,e0.hok.fresh (Nat.le_refl _),fun y c h=>?_,fun p hp=>absurd (show p ∈ ([]:List (Addr × Obj)) from hp) (by simp),e0.hok.kept hk,?_⟩
 ·exact name_of_addr x.apart (PySem.mem_of_lookup h1) (PySem.mem_of_lookup h2)
 ·have hy:scope.names.lookup y=some .cell∨scope.names.lookup y=some .free:=hy;rcases hy with hy | hy
  ·exact Wy hy
  ·exact absurd rfl (S.nofree _ (PySem.mem_of_lookup hy))
 ·exact Nat.le_of_lt (x.above y c (PySem.mem_of_lookup h))
 ·have hi:i < vs.length:=by
   unfold start at h2;by_cases hi:i < vs.length
   ·exact hi
   ·rw [List.getElem?_append_right (by simpa using hi)] at h2;rw [List.getElem?_replicate] at h2;split at h2 <;> cases h2
  have ha:vs[i]? = some v:=by
   unfold start at h2;rw [List.getElem?_append_left (by simpa using hi),List.getElem?_map] at h2;cases e:vs[i]? with
   | none=>rw [e] at h2;cases h2
   | some a=>rw [e] at h2;cases h2;rfl
  obtain ⟨u,hu,rv⟩:=r.get ha;have hp:ps[i]? = some y:=by
   rw [← S.pre,List.getElem?_take_of_lt (by omega)];exact h1
  have ndP:ps.Nodup:=by rw [← S.pre];exact S.nd.sublist (List.take_sublist _ _)
  refine ⟨u,rv,?_⟩;rcases S.par y (List.mem_of_getElem? hp) with k | k
  ·exact .inl ⟨k,Sv ndP hp hu k⟩
  ·obtain ⟨c,e⟩:=Wy (n:=s.heap.objs.size + 1) k;refine .inr ⟨.inl k,c,e,?_⟩;have q:=x.cell y c e;rw [wv ndP hp hu (by show scope.names.lookup y ≠ _;rw [k];decide)] at q;exact q
 ·exact e0.hok.fresh (Nat.le_of_lt (x.above y c (PySem.mem_of_lookup h)))
 ·unfold start;show _=N.length;rw [List.length_append,List.length_map,List.length_replicate];omega
theorem FM {CX:CXT} {P:Program} {w:World} {K:PySem.W.Frag} {mg:Str→Option Value} {base:Heap} {k:Nat} {f:Addr} {name qual:Str} {params:Arguments} {body:List Stmt} {scope:Scope} {dV kV doc pm cdv ct oc:Value} {an od:Option Addr}
  {osl:Array (Option Value)} {N ps:List Str} {sp:Sp} (lk:K.lookup f=some ⟨oc,od,.func (PySem.W.fnOf name qual params body scope dV kV doc pm an cdv ct),osl⟩) (hcd:PySem.W.codeIn K cdv qual=true) (S:Bb N ps scope)
  (len:∀ vs H Q E,sp vs H Q E→vs.length=ps.length)
  (hbody:∀ (A:Around) (outer:List Env) (s:Shared) (H:Hp) (vs:List V) (Q:VK) (E:XK),Mj k (A.deeper (envOfC qual scope s.heap.objs.size f cdv))→sp vs H Q E →
   ∃ t,PSs (CJ CX P w K mg base N qual scope f cdv A outer s H E) body t∧t { nx:=fun _ H'=>Q .non H',rt:=Q } (start N vs) H) :
  Pb P w K mg base CX (k + 1) f (PySem.W.fnOf name qual params body scope dV kV doc pm an cdv ct) ps sp:=by
 refine ⟨len,fun A outer s H args us vs Q E hr e0 hb r hsp=>?_⟩;have hl:=len _ _ _ _ hsp;have KX:K.In s.heap:=e0.mod.kin.keeps fun b o e=>(e0.bs b o e).1
 have lim:s.heap.NoLimit:=e0.mod.nolimit.keeps fun b o e=>(e0.bs b o e).1
 have hkind:∀ y ∈ ps.zip us,scope.names.lookup y.1=some .local∨(scope.names.lookup y.1=some .cell∧((cellsFrom (s.heap.objs.size + 1) scope.names []).lookup y.1).isSome=true):=fun ⟨n,v⟩ hy=>by
  rcases S.par n (List.of_mem_zip hy).1 with q | q
  ·exact .inl q
  ·exact .inr ⟨q,PySem.W.cellsFrom_some _ _ _ (.inl q)⟩
 refine codeAny_call_function hr.depth (KX _ _ lk) rfl S.co S.gen rfl (PySem.W.codeRec_of KX hcd) (hb _ _ _ _ ?_);refine wpAny_newFunctionEnv_cells S.kind hkind fun env he s1 x=>?_
 subst he;refine ⟨lim.keeps x.toInCall.keep,codeAny_func ?_⟩;obtain ⟨t,ht,hq⟩:=hbody A outer s H vs Q E (hr.deeper _) hsp;have I:Inv (CJ CX P w K mg base N qual scope f cdv A outer s H E) [] (start N vs) H s1:=JD S hr.hd e0 hl r x;refine wpAny_mono (ht [] s1 (start N vs) H _ I hq) (fun fl s' hs=>?_) fun e s' hs=>hs
 have fin:∀ {σ':St} {H':Hp} {v:V} {u:Value},Inv (CJ CX P w K mg base N qual scope f cdv A outer s H E) [] σ' H' s'→Dd v u→Q v H'→CE outer P w H s Q u s':=
  fun {σ' H' v u} J rv q=>⟨v,H',J.os,J.bare,J.base,J.hok,rv,q⟩
 cases fl with
 | ret u=>
  obtain ⟨v,σ',H',J,rv,q⟩:=hs;exact fin J rv q
 | next=>
  obtain ⟨σ',H',J,q⟩:=hs;exact fin (v:=V.non) (u:=Value.none) J rfl q
 | brk=>
  obtain ⟨_,_,_,q⟩:=hs;exact False.elim q
 | cont=>
  obtain ⟨_,_,_,q⟩:=hs;exact False.elim q
end L2
namespace L2
open PySem PySem.Spec PyProof.Rows
section
variable {X:Cx} {x:Str} {p pos:Pos} {e:Expr} {es:List Expr} {t:TA} {id T:String} {r:List V→Hp→VK→Prop}
noncomputable def tCB (r:List V→Hp→VK→Prop) (t:TA):TE:=fun σ H Q=>t σ H fun vs H1=>r vs H1 Q
theorem Ib (hc:bj X (.builtin id) r) (hg:Gl X x) (hm:X.mg x=none) (hv:bootBuiltins x=some (.builtin id)) (ha:PA X (e :: es) t) (hn:x ≠ "__name__" := by decide) (hdb:(x == ("__debug__" : Str))=false:=by decide)
  (he:starEach (e :: es) X.env=(false,eval e X.env) :: starEach es X.env:=by rfl) (hpl:(backTo pos (starEach es X.env)).any (·.1)=false:=by rfl):PE X (.Call (.Name x p) (e :: es) [] pos) (tCB r t):=by
 intro pins s σ H Q I h;refine wpAny_Call_Name_kw (Ym I hg hm hv ?_ hn hdb);exact PyProof.Rows.callWith_builtin1 (thn (ha pos pins s σ H _ I h) fun us s1 ⟨vs,H1,I1,r1,q1⟩=>hc pins s1 σ H1 vs us Q I1 r1 q1) he hpl
theorem Vc (hc:bj X (.type T) r) (hg:Gl X x) (hm:X.mg x=none) (hv:bootBuiltins x=some (.type T)) (ha:PA X (e :: es) t) (hn:x ≠ "__name__" := by decide) (hdb:(x == ("__debug__" : Str))=false:=by decide)
  (he:starEach (e :: es) X.env=(false,eval e X.env) :: starEach es X.env:=by rfl) (hpl:(backTo pos (starEach es X.env)).any (·.1)=false:=by rfl):PE X (.Call (.Name x p) (e :: es) [] pos) (tCB r t):=by
 intro pins s σ H Q I h;refine wpAny_Call_Name_kw (Ym I hg hm hv ?_ hn hdb);exact PyProof.Rows.callWith_type1 (thn (ha pos pins s σ H _ I h) fun us s1 ⟨vs,H1,I1,r1,q1⟩=>hc pins s1 σ H1 vs us Q I1 r1 q1) he hpl
end
end L2
namespace HT
open PySem PyProof.Rows
noncomputable def lexLt:List Int→List Int→Bool
 | [],[]=>false
 | [],_ :: _=>true
 | _ :: _,[]=>false
 | x :: xs,y :: ys=>if x=y then lexLt xs ys else decide (x < y)
theorem lexLt_cons (x y:Int) (xs ys:List Int):lexLt (x :: xs) (y :: ys)=if x=y then lexLt xs ys else decide (x < y):=rfl
theorem lexLt_nil_nil:lexLt [] []=false:=rfl
theorem Es (y:Int) (ys:List Int):lexLt [] (y :: ys)=true:=rfl
theorem Rr (x:Int) (xs:List Int):lexLt (x :: xs) []=false:=rfl
theorem gF (A:Around) (s:Shared) (a:Int) (t:Tok) (c:Int) (u:Tok):∃ e,SeqAt.EqAt A s (.int a t) (.int c u) e∧(e=true↔a=c):=
 ⟨(a == c),SeqAt.EqAt.int_int a t c u,by simp⟩
section
open PySem.SeqAt
open PySem.AutoSeq1 (wpAny_loadPart')
open PySem.MeetsSeq PySem.MeetsSeq2 PySem.MeetsSeq3
end
section
variable {prog:Program} {w:World} {A:Around} {E:Value→Shared→Prop} {s:Shared}
noncomputable def sIx (n d:Nat):Option Int→Nat
 | none=>d
 | some v=>if v < 0 then (v + (n:Int)).toNat else min v.toNat n
theorem sIx_none (n d:Nat):sIx n d none=d:=rfl
theorem sIx_nat (n d k:Nat):sIx n d (some (k:Int))=min k n:=by
 show (if (k:Int) < 0 then ((k:Int) + (n:Int)).toNat else min (k:Int).toNat n)=min k n;rw [if_neg (by omega),Int.toNat_natCast]
theorem kL (n d:Nat) (hd:d ≤ n) (o:Option Int):sIx n d o ≤ n:=by
 cases o with
 | none=>exact hd
 | some v=>
  show (if v < 0 then (v + (n:Int)).toNat else min v.toNat n) ≤ n;by_cases hv:v < 0
  ·rw [if_pos hv];omega
  ·rw [if_neg hv];exact Nat.min_le_right _ _
theorem rB (v:Int) (n d:Nat):(if v < 0 then max (v + (n:Int)) 0 else min v (n:Int))=((sIx n d (some v):Nat):Int):=by
 show (if v < 0 then max (v + (n:Int)) 0 else min v (n:Int))=(((if v < 0 then (v + (n:Int)).toNat else min v.toNat n):Nat):Int);by_cases hv:v < 0
 ·simp only [if_pos hv];omega
 ·simp only [if_neg hv];omega
theorem WA (lo hi:Option Int) (n:Nat):Builtin.Slice.sliceAdjust lo hi 1 (n:Int)=(((sIx n 0 lo:Nat):Int),((sIx n n hi:Nat):Int)):=by
 have h1:¬ ((1:Int) < 0):=by omega
 unfold Builtin.Slice.sliceAdjust;simp only [h1,if_false];refine Prod.ext ?_ ?_
 ·cases lo with
  | none=>rfl
  | some v=>exact rB v n 0
 ·cases hi with
  | none=>rfl
  | some v=>exact rB v n n
theorem LA (i j:Nat):Builtin.Slice.slicePlaces (i:Int) (j:Int) 1=j - i:=by
 unfold Builtin.Slice.slicePlaces;have h1:(1:Int) > 0:=by omega
 simp only [h1,if_true,Int.ediv_one];split <;> omega
theorem Jt {v:Value} {o:Option Int} {Q:Option Int→Shared→Prop} (p:IsPart v o) (h:Q o s):wpAny (model prog w) A (Builtin.Slice.slicePartIndex v) Q E s:=by
 cases p with
 | none=>exact slicePart_none h
 | int i t=>exact slicePart_int h
theorem Ho {sl:Addr} {vl vu:Value} {lo hi:Option Int} {n:Nat} {Q:Int × Int × Nat→Shared→Prop} (hs:s.heap.IsSliceOf sl vl vu .none) (pl:IsPart vl lo) (pu:IsPart vu hi)
  (h:Q (((sIx n 0 lo:Nat):Int),1,sIx n n hi - sIx n 0 lo) s):wpAny (model prog w) A (Builtin.Slice.sliceApplied (.ref sl) (pure (n:Int))) Q E s:=by
 obtain ⟨os,hos,hcs,hds⟩:=id hs;unfold Builtin.Slice.sliceApplied Builtin.Slice.sliceFields;refine wpAny_bind (wpAny_bind (wpAny_field hos hds (x:=vl) rfl (wpAny_bind (wpAny_field hos hds (x:=vu) rfl (wpAny_bind (wpAny_field hos hds (x:=.none) rfl (wpAny_pure ?_)))))));refine wpAny_bind (slicePart_none ?_);show wpAny _ _ (if ((1:Int) == 0)=true then _ else _) _ _ s;rw [if_neg (by decide)];refine wpAny_bind (Jt pl (wpAny_bind (Jt pu (wpAny_bind (wpAny_pure ?_)))));show wpAny _ _ (match Builtin.Slice.sliceAdjust lo hi 1 (n:Int) with | (lo,hi)=>pure (lo,(1:Int),Builtin.Slice.slicePlaces lo hi 1)) _ _ s;rw [WA lo hi n];show wpAny _ _ (pure (((sIx n 0 lo:Nat):Int),(1:Int),Builtin.Slice.slicePlaces ((sIx n 0 lo:Nat):Int) ((sIx n n hi:Nat):Int) 1)) _ _ s;rw [LA];exact wpAny_pure h
theorem uG (xs:Array Value) (i k:Nat):((List.range k).filterMap fun (m:Nat)=>xs[((i:Int) + (m:Int) * 1).toNat]?).toArray=((xs.toList.drop i).take k).toArray:=by
 have e:(fun (m:Nat)=>xs[((i:Int) + (m:Int) * 1).toNat]?)=fun m=>xs[i + m]?:=by
  funext m;have:((i:Int) + (m:Int) * 1).toNat=i + m:=by omega
  rw [this]
 rw [e];have:=pick_run xs i k;rw [List.filterMap_map] at this;have e2:((fun x=>xs[x]?) ∘ fun x=>i + x)=fun m=>xs[i + m]?:=rfl
 rw [e2] at this;rw [this]
theorem getItem_tuple_cut {t sl:Addr} {items:Array Value} {vl vu:Value} {lo hi:Option Int} {Q:Value→Shared→Prop} (ht:IsTup s.heap t items) (hs:s.heap.IsSliceOf sl vl vu .none) (pl:IsPart vl lo) (pu:IsPart vu hi)
  (hw:¬ (sIx items.size 0 lo=0∧sIx items.size items.size hi=items.size))
  (h:Q (.ref s.heap.objs.size) { s with heap:=s.heap.push { cls:=.type "tuple",data:=.seq ((items.toList.drop (sIx items.size 0 lo)).take (sIx items.size items.size hi - sIx items.size 0 lo)).toArray } })
  (hsz:items.size ≤ sizeLine):wpAny (model prog w) A (getItem (.ref t) (.ref sl)) Q E s:=by
 have htake:sizeOk (.seq ((items.toList.drop (sIx items.size 0 lo)).take (sIx items.size items.size hi - sIx items.size 0 lo)).toArray):=by
  show ((items.toList.drop (sIx items.size 0 lo)).take (sIx items.size items.size hi - sIx items.size 0 lo)).toArray.size ≤ sizeLine;rw [List.size_toArray,List.length_take,List.length_drop,Array.length_toList];omega
 have hj:sIx items.size items.size hi ≤ items.size:=kL _ _ (Nat.le_refl _) hi;obtain ⟨os,hos,hcs,hds⟩:=id hs;have hTs:s.TypeIs (.ref sl) "slice" := ⟨os,hos,hcs⟩;unfold getItem
 try with_reducible refine wpAny_holding ?_
 first | refine wpAny_bind (wpAny_pure ?_) | skip
 refine wpAny_bind (wpAny_sequenceKey ht.typeIs (by decide) ?_);refine wpAny_bind (wpAny_callSpecial?_slot (name:=Str.ofString "__getitem__") ht.typeIs PyProof.Rows.slot_tuple_getitem
  (wpAny_call_entry PyProof.Rows.slot_tuple_getitem ht.typeIs entry_tuple_getitem ?_ (args_tuple_getitem _ _)))
 show wpAny _ _ (Builtin.Tuple.tupleItemsOf (.ref t) >>= _) _ _ s;refine wpAny_bind (tupleItemsOf_ ht ?_);refine wpAny_bind (wpAny_typeOf hTs ?_);rw [if_pos (by decide)];refine wpAny_bind (Ho hs pl pu ?_);have hno:¬ ((((sIx items.size 0 lo:Nat):Int) == 0 && (1:Int) == 1 && (sIx items.size items.size hi - sIx items.size 0 lo) == items.size)=true):=by
  intro q;rw [Bool.and_eq_true,Bool.and_eq_true] at q;have q1:((sIx items.size 0 lo:Nat):Int)=0:=eq_of_beq q.1.1;have q2:sIx items.size items.size hi - sIx items.size 0 lo=items.size:=eq_of_beq q.2;exact hw ⟨by omega,by omega⟩
 show wpAny _ _ (if (((sIx items.size 0 lo:Nat):Int) == 0 && (1:Int) == 1 && (sIx items.size items.size hi - sIx items.size 0 lo) == items.size)=true then _ else _) _ _ s;rw [if_neg hno,uG]
 first
  | exact wpAny_bind (m:=Builtin.Tuple.tupleExact _) (wpAny_newObj_type (wpAny_pure ⟨_,rfl,wpAny_pure h⟩) htake)
  | exact wpAny_bind (m:=Builtin.Tuple.tupleExact _) (wpAny_newObj_type (wpAny_bind (wpAny_pure (wpAny_pure ⟨_,rfl,wpAny_pure h⟩))) htake)
  | exact wpAny_bind (wpAny_bind (m:=Builtin.Tuple.tupleExact _) (wpAny_newObj_type (wpAny_pure (wpAny_pure ⟨_,rfl,wpAny_pure h⟩)) htake))
  | exact wpAny_bind (wpAny_bind (m:=Builtin.Tuple.tupleExact _) (wpAny_newObj_type (wpAny_pure ⟨_,rfl,wpAny_pure h⟩) htake))
end
end HT
namespace L2
open PySem PySem.Spec PyProof.Rows
noncomputable abbrev TO:=St→Hp→(Option Int→Hp→Prop)→Prop
noncomputable def PO (X:Cx) (e:Option Expr) (t:TO):Prop:=
 ∀ (pins:List (Addr × Obj)) (s:Shared) (σ:St) (H:Hp) (Q:Option Int→Hp→Prop),Inv X pins σ H s→t σ H Q →
  wpAny (model X.prog X.w) X.A (evalPart e X.env) (fun u s'=>∃ o H',Inv X pins σ H' s'∧IsPart u o∧Q o H') X.xe s
noncomputable def kE:TO:=fun _ H Q=>Q none H
noncomputable def vK (t:TE):TO:=fun σ H Q=>t σ H fun x H1=>∃ i,x=.int i∧Q (some i) H1
theorem xt {ns:List Int}:∀ {us:List Value},Ad (ns.map V.int) us→IntsAre us ns:=by
 induction ns with
 | nil=>intro us r;rw [List.map_nil] at r;cases r;exact .nil
 | cons n ns ih=>
  intro us r;rw [List.map_cons] at r;cases r with
  | cons r1 r2=>
   obtain ⟨t,e⟩:=r1;subst e;exact .cons n t (ih r2)
section
variable {X:Cx} {e:Expr} {te:TE} {lo hi:Option Expr} {tl th:TO} {pos p2:Pos}
theorem Ug:PO X none kE:=by
 intro pins s σ H Q I h;rw [evalPart_none];exact wpAny_pure ⟨none,H,I,.none,h⟩
theorem Tf (h:PE X e te):PO X (some e) (vK te):=by
 intro pins s σ H Q I hw;rw [evalPart_some];refine thn (h pins s σ H _ I hw) fun u s1 hZ1=>?_
 obtain ⟨x,H1,I1,r1,q1⟩:=hZ1;obtain ⟨i,rfl,q⟩:=q1;obtain ⟨t,rfl⟩:=r1;exact ⟨some i,H1,I1,.int i t,q⟩
noncomputable def SlR (X:Cx) (r:V→Option Int→Option Int→Hp→VK→Prop):Prop:=
 ∀ (pins:List (Addr × Obj)) (s:Shared) (σ:St) (H:Hp) (x:V) (v vl vu:Value) (lo hi:Option Int) (sl:Addr) (Q:VK),Inv X pins σ H s→Dd x v→s.heap.IsSliceOf sl vl vu .none→IsPart vl lo→IsPart vu hi→r x lo hi H Q →
  ∃ T id,typeLookup (.type T) "__getitem__"=pure (some (.builtin id))∧s.TypeIs v T∧wpAny (model X.prog X.w) X.A (getItem v (.ref sl)) (EP X pins σ Q) X.xe s
theorem SlR.or {r r':V→Option Int→Option Int→Hp→VK→Prop} (h:SlR X r) (h':SlR X r'):SlR X (fun x lo hi H Q=>r x lo hi H Q∨r' x lo hi H Q):=by
 intro pins s σ H x v vl vu lo hi sl Q I rx hs pl pu q;rcases q with q | q
 ·exact h pins s σ H x v vl vu lo hi sl Q I rx hs pl pu q
 ·exact h' pins s σ H x v vl vu lo hi sl Q I rx hs pl pu q
noncomputable def tSl (r:V→Option Int→Option Int→Hp→VK→Prop) (te:TE) (tl th:TO):TE:=fun σ H Q=>te σ H fun x H1=>tl σ H1 fun l H2=>th σ H2 fun u H3=>r x l u H3 Q
theorem Qe {r:V→Option Int→Option Int→Hp→VK→Prop} (hr:SlR X r) (he:PE X e te) (hl:PO X lo tl) (hu:PO X hi th):PE X (.Subscript e (.Slice lo hi none p2) pos) (tSl r te tl th):=by
 intro pins s σ H Q I h;refine Subscript_ (thn (he pins s σ H _ I h) fun v s1 hZ1=>?_);obtain ⟨x,H1,I1,r1,q1⟩:=hZ1;refine wpAny_Slice (thn (hl pins s1 σ H1 _ I1 q1) fun vl s2 ⟨l,H2,I2,pl,q2⟩=>thn (hu pins s2 σ H2 _ I2 q2) fun vu s3 hZ1=>?_);obtain ⟨u,H3,I3,pu,q3⟩:=hZ1;rw [evalPart_none];refine wpAny_pure ?_;have I4:Inv X pins σ H3 { s3 with heap:=s3.heap.push { cls:=.type "slice",data:=.fields #[vl,vu,.none] } }:=I3.kept (t':=s3.toks) fun b ob q=>Heap.get?_push_of_some _ q
 obtain ⟨T,id,hT,ht,hg⟩:=hr pins { s3 with heap:=s3.heap.push { cls:=.type "slice",data:=.fields #[vl,vu,.none] } } σ H3 x v vl vu l u s3.heap.objs.size Q I4 r1 (Heap.IsSliceOf.new ..) pl pu q3;show wpAny (model X.prog X.w) X.A (subscriptTail e (.Slice lo hi none p2) v (.ref s3.heap.objs.size)) (EP X pins σ Q) X.xe { s3 with heap:=s3.heap.push { cls:=.type "slice",data:=.fields #[vl,vu,.none] } };exact tail_any (ops:=[.ref s3.heap.objs.size,v]) ht hT hg (by with_unfolding_all rfl)
noncomputable def zo (xs:List V) (lo hi:Option Int):List V:=(xs.drop (HT.sIx xs.length 0 lo)).take (HT.sIx xs.length xs.length hi - HT.sIx xs.length 0 lo)
theorem ur (xs:List V) (lo hi:Option Int):(zo xs lo hi).length ≤ xs.length:=by
 unfold zo;rw [List.length_take,List.length_drop];omega
noncomputable def BN (K:PySem.W.Frag):V→Option Int→Option Int→Hp→VK→Prop:=fun x lo hi H Q=>∃ a xs,x=.ref a∧SqT K H a xs ∧
 ¬ (HT.sIx xs.length 0 lo=0∧HT.sIx xs.length xs.length hi=xs.length)∧∀ p,H p=none→Q (.ref p) (upd H p (.tup (zo xs lo hi)))
theorem Gz:SlR X (BN X.K):=by
 intro pins s σ H x v vl vu lo hi sl Q I rx hs pl pu h;obtain ⟨a,xs,rfl,hx,hw,q⟩:=h;cases rx;obtain ⟨its,r,ht,hz⟩:=I.tuple hx;have hlen:its.toArray.size=xs.length:=by rw [List.size_toArray];exact r.length.symm
 refine ⟨"tuple",_,PyProof.Rows.slot_tuple_getitem.lookup,ht.typeIs,?_⟩;refine HT.getItem_tuple_cut ht hs pl pu (by rw [hlen];exact hw) ?_ (by rw [hlen];exact hz);rw [hlen];refine ⟨.ref s.heap.objs.size,_,I.laid (t':=s.toks) (o:=.tup (zo xs lo hi)) (fun b ob q=>Heap.get?_push_of_some _ q) (Nat.le_refl _) ?_,rfl,q _ (I.hok.fresh (Nat.le_refl _))⟩;exact ⟨Nat.le_trans (ur xs lo hi) hz,_,(r.drop (HT.sIx xs.length 0 lo)).take (HT.sIx xs.length xs.length hi - HT.sIx xs.length 0 lo),IsTup.new _ _⟩
end
end L2
namespace L2
open PySem PySem.Spec PyProof.Rows
noncomputable def ixN (n:Nat) (i:Int):Option Nat:=if 0 ≤ i then (if i < n then some i.toNat else none) else if -(n:Int) ≤ i then some (i + n).toNat else none
noncomputable def atI {α:Type} (xs:List α) (i:Int):Option α:=(ixN xs.length i).bind fun j=>xs[j]?
theorem OD {n:Nat} {i:Int} {j:Nat} (h:ixN n i=some j):seqIndex? i n=some j∧j < n∧-(n:Int) ≤ i∧i < n:=by
 unfold ixN at h;by_cases h0:0 ≤ i
 ·rw [if_pos h0] at h;by_cases h1:i < n
  ·rw [if_pos h1] at h;have e:i.toNat=j:=Option.some.inj h;exact ⟨by rw [seqIndex_of h0 h1,e],by omega,by omega,h1⟩
  ·rw [if_neg h1] at h;cases h
 ·rw [if_neg h0] at h;by_cases h1:-(n:Int) ≤ i
  ·rw [if_pos h1] at h;have e:(i + n).toNat=j:=Option.some.inj h;exact ⟨by rw [seqIndex_neg (by omega) h1,e],by omega,h1,by omega⟩
  ·rw [if_neg h1] at h;cases h
theorem Hx {α:Type} {xs:List α} {i:Int} {v:α} (h:atI xs i=some v):∃ j,seqIndex? i xs.length=some j∧xs[j]? = some v∧j < xs.length∧-(xs.length:Int) ≤ i∧i < xs.length:=by
 unfold atI at h;cases e:ixN xs.length i with
 | none=>rw [e] at h;cases h
 | some j=>
  rw [e] at h;obtain ⟨h1,h2,h3,h4⟩:=OD e;exact ⟨j,h1,h,h2,h3,h4⟩
theorem Ac {α:Type} {xs:List α} {j:Nat} {v:α} (h:xs[j]? = some v):atI xs (j:Int)=some v:=by
 have hj:j < xs.length:=(List.getElem?_eq_some_iff.mp h).1;have e:ixN xs.length (j:Int)=some j:=by
  unfold ixN;rw [if_pos (by omega),if_pos (by omega)];simp
 unfold atI;rw [e];exact h
noncomputable def HI (b:Expr):Prop:=∀ o i,subscripted b false o i=operate [o,i] (getItem o i)
noncomputable def IxR (X:Cx) (r:R2):Prop:=
 ∀ (value slice:Expr) (pins:List (Addr × Obj)) (s:Shared) (σ:St) (H:Hp) (x y:V) (v u:Value) (Q:VK),Inv X pins σ H s→Dd x v→Dd y u→r x y H Q →
  subscripted slice false v u=operate [v,u] (getItem v u)→wpAny (model X.prog X.w) X.A (subscriptTail value slice v u) (EP X pins σ Q) X.xe s
noncomputable def MtR (X:Cx) (id:String) (r:V→List V→Hp→VK→Prop):Prop:=
 ∀ (pins:List (Addr × Obj)) (s:Shared) (σ:St) (H:Hp) (x:V) (xs:List V) (v:Value) (us:List Value) (Q:VK),Inv X pins σ H s→Dd x v→Ad xs us→r x xs H Q →
  wpAny (model X.prog X.w) X.A (call (.builtin id) (v :: us)) (EP X pins σ Q) X.xe s
section
variable {X:Cx} {a b:Expr} {ta tb:TE} {pos:Pos}
theorem IxR.or {r r':R2} (h:IxR X r) (h':IxR X r'):IxR X (fun x y H Q=>r x y H Q∨r' x y H Q):=by
 intro value slice pins s σ H x y v u Q I rx ry q hs;rcases q with q | q
 ·exact h value slice pins s σ H x y v u Q I rx ry q hs
 ·exact h' value slice pins s σ H x y v u Q I rx ry q hs
theorem MtR.or {id:String} {r r':V→List V→Hp→VK→Prop} (h:MtR X id r) (h':MtR X id r'):MtR X id (fun x xs H Q=>r x xs H Q∨r' x xs H Q):=by
 intro pins s σ H x xs v us Q I rx rs q;rcases q with q | q
 ·exact h pins s σ H x xs v us Q I rx rs q
 ·exact h' pins s σ H x xs v us Q I rx rs q
theorem kc {r:R2} (hr:IxR X r) (ha:PE X a ta) (hb:PE X b tb) (hs:HI b):PE X (.Subscript a b pos) (tOp r ta tb):=by
 intro pins s σ H Q I h;exact Subscript_ (PM ha hb I h fun v u s2 x y H2 I2 rx ry q=>hr a b pins s2 σ H2 x y v u Q I2 rx ry q (hs _ _))
noncomputable def gN (K:PySem.W.Frag):R2:=fun x y H Q=>∃ p xs i v,x=.ref p∧y=.int i∧SqL K H p xs∧atI xs i=some v∧Q v H
noncomputable def yN (K:PySem.W.Frag):R2:=fun x y H Q=>∃ p xs i v,x=.ref p∧y=.int i∧SqT K H p xs∧atI xs i=some v∧Q v H
noncomputable def bN:R2:=fun x y H Q=>∃ z i c,x=.str z∧y=.int i∧z.length ≤ sizeLine∧atI z.cps.toList i=some c∧Q (.str ⟨#[c]⟩) H
theorem Zb:IxR X (gN X.K):=by
 intro value slice pins s σ H x y v u Q I rx ry h hs;obtain ⟨p,xs,i,z,rfl,rfl,hq,he,q⟩:=h;cases rx;obtain ⟨t,rfl⟩:=ry;obtain ⟨its,r,pl,hz⟩:=I.list hq;obtain ⟨j,h1,h2,h3,h4,h5⟩:=Hx he;obtain ⟨w,ew,rw'⟩:=r.get h2;have hl:=r.length;have hn:=zr;have fin:EP X pins σ Q w s:=⟨z,H,I,rw',q⟩;by_cases h0:0 ≤ i
 ·have hj:i.toNat=j:=by
   rw [seqIndex_of h0 h5] at h1;exact Option.some.inj h1
  exact item_listR pl.isList h0 (by omega) (by rw [hj];simpa using ew) fin hs
 ·have hj:(i + (its.toArray.size:Int)).toNat=j:=by
   rw [seqIndex_neg (by omega) h4] at h1;rw [List.size_toArray,← hl];exact Option.some.inj h1
  exact subscriptTail_builtinR (x:=w) pl.isList.typeIs slot_list_getitem.lookup
   (wpAny_getItem_list_neg (Q:=fun r s'=>r=w∧EP X pins σ Q r s') pl.isList (by omega) (by rw [List.size_toArray] <;> omega) (by omega) (by rw [hj];simpa using ew) ⟨rfl,fin⟩) hs
theorem gd:IxR X (yN X.K):=by
 intro value slice pins s σ H x y v u Q I rx ry h hs;obtain ⟨p,xs,i,z,rfl,rfl,hq,he,q⟩:=h;cases rx;obtain ⟨t,rfl⟩:=ry;obtain ⟨its,r,pl,hz⟩:=I.tuple hq;obtain ⟨j,h1,h2,h3,h4,h5⟩:=Hx he;obtain ⟨w,ew,rw'⟩:=r.get h2;have hl:=r.length;have hn:=zr;have fin:EP X pins σ Q w s:=⟨z,H,I,rw',q⟩;exact subscriptTail_builtinR (x:=w) pl.typeIs slot_tuple_getitem.lookup
  (getItem_tuple (j:=j) (Q:=fun r s'=>r=w∧EP X pins σ Q r s') pl (by omega) (by omega) (by rw [List.size_toArray,← hl];exact h1) (by simpa using ew) ⟨rfl,fin⟩) hs
theorem dD:IxR X bN:=by
 intro value slice pins s σ H x y v u Q I rx ry h hs;obtain ⟨z,i,c,rfl,rfl,hz,he,q⟩:=h;obtain ⟨t,rfl⟩:=rx;obtain ⟨t',rfl⟩:=ry;obtain ⟨j,h1,h2,h3,h4,h5⟩:=Hx he;have hl:z.cps.toList.length=z.length:=by simp [Str.length]
 rw [hl] at h1 h4 h5;have hn:=zr;exact tail_any (typeIs_str s z t) slot_str_getitem.lookup (getItem_str (c:=c) (by
  have e1:decide (i < -(2 ^ 63:Int))=false:=decide_eq_false (by omega);have e2:decide (i ≥ 2 ^ 63)=false:=decide_eq_false (by omega);rw [e1,e2,Bool.or_false]) (by rw [h1];simpa using h2) ⟨.str ⟨#[c]⟩,H,I.tok _,⟨_,rfl⟩,q⟩) hs
theorem cA (its:List Value) (n j:Nat) (u:Value):Obj.mapSeq (·.setIfInBounds j u) { cls:=.type "list",data:=.seq its.toArray n } = { cls:=.type "list",data:=.seq (its.set j u).toArray n }:=by
 simp [Obj.mapSeq]
theorem Inv.lst {pins:List (Addr × Obj)} {σ:St} {H:Hp} {s:Shared} {p:Addr} {xs:List V} (I:Inv X pins σ H s) (h:H p=some (.lst xs)) :
  ∃ (its:List Value) (n:Nat),Ad xs its∧s.heap.get? p=some { cls:=.type "list",data:=.seq its.toArray n }∧xs.length ≤ sizeLine:=by
 obtain ⟨z,its,n,r,e⟩:=I.hok p _ h;exact ⟨its,n,r,e,z⟩
theorem Inv.lstUpd {pins:List (Addr × Obj)} {σ:St} {H:Hp} {s:Shared} {p:Addr} {xs ys:List V} {its its':List Value} {n n':Nat} {f:Obj→Obj} (I:Inv X pins σ H s) (h:H p=some (.lst xs))
  (ho:s.heap.get? p=some { cls:=.type "list",data:=.seq its.toArray n }) (hf:f { cls:=.type "list",data:=.seq its.toArray n } = { cls:=.type "list",data:=.seq its'.toArray n' }) (r:Ad ys its') (hz:ys.length ≤ sizeLine) (t:Nat) :
  Inv X pins σ (upd H p (.lst ys)) { s with heap:=s.heap.update p f,toks:=t }:=by
 have e:(s.heap.update p f).get? p=some { cls:=.type "list",data:=.seq its'.toArray n' }:=by
  rw [Heap.get?_update_self f ho (by rw [hf] <;> rfl),hf]
 refine I.write (x:=p) (e:=p) (by rw [h];trivial) (.inl rfl) (fun b u hb q=>(Heap.get?_update_other _ _ (Ne.symm hb)).trans q) ⟨_,e⟩ ?_;exact ⟨hz,its',n',r,e⟩
noncomputable def FK:V→V→V→Hp→(Hp→Prop)→Prop:=fun o i v H Q=>∃ p xs k j,o=.ref p∧i=.int k∧H p=some (.lst xs)∧ixN xs.length k=some j∧Q (upd H p (.lst (xs.set j v)))
theorem Wi:DN X FK:=by
 intro pins s σ H o i v ov iv u Q I ro ri rv h;obtain ⟨p,xs,k,j,rfl,rfl,hp,hj,q⟩:=h;cases ro;obtain ⟨t,rfl⟩:=ri;obtain ⟨its,n,r,ho,hz⟩:=I.lst hp;obtain ⟨h1,h2,h3,h4⟩:=OD hj;have hl:=r.length;have hn:=zr;have I':Inv X pins σ (upd H p (.lst (xs.set j v))) { s with heap:=s.heap.update p (Obj.mapSeq (·.setIfInBounds j u)) }:=
  I.lstUpd hp ho (cA its n j u) (r.set rv j) (by rw [List.length_set];exact hz) s.toks
 by_cases h0:0 ≤ k
 ·have hk:k.toNat=j:=by
   rw [seqIndex_of h0 h4] at h1;exact Option.some.inj h1
  exact PySem.W.ki_setAt ho h0 (by omega) (by rw [List.size_toArray,← hl];exact h4) (by rw [hk];exact ⟨_,I',q⟩)
 ·have hk:(k + (its.toArray.size:Int)).toNat=j:=by
   rw [seqIndex_neg (by omega) h3] at h1;rw [List.size_toArray,← hl];exact Option.some.inj h1
  exact PySem.W.ki_setBack ho (by omega) (by rw [List.size_toArray,← hl];exact h3) (by omega) (by rw [hk];exact ⟨_,I',q⟩)
theorem Dw (lo hi:Option Int) (n:Nat):(sliceBounds lo hi none n).1=((HT.sIx n 0 lo:Nat):Int)∧(sliceBounds lo hi none n).2.1=((HT.sIx n n hi:Nat):Int)∧(sliceBounds lo hi none n).2.2=1:=by
 refine ⟨?_,?_,rfl⟩
 ·cases lo with
  | none=>simp [sliceBounds,HT.sIx]
  | some i=>
   simp only [sliceBounds,HT.sIx,Option.getD_none,show (1:Int) > 0 by decide,if_true];by_cases h:i < 0
   ·simp only [h,if_true] <;> omega
   ·simp only [h,if_false] <;> omega
 ·cases hi with
  | none=>simp [sliceBounds,HT.sIx]
  | some i=>
   simp only [sliceBounds,HT.sIx,Option.getD_none,show (1:Int) > 0 by decide,if_true];by_cases h:i < 0
   ·simp only [h,if_true] <;> omega
   ·simp only [h,if_false] <;> omega
theorem Lu (its:List Value) (lo hi:Option Int):slicePick its.toArray lo hi none=((its.drop (HT.sIx its.length 0 lo)).take (HT.sIx its.length its.length hi - HT.sIx its.length 0 lo)).toArray:=by
 obtain ⟨h1,h2,h3⟩:=Dw lo hi its.toArray.size;unfold slicePick;rw [h1,h2,h3];simp only [sliceRange_one,pick_run,List.size_toArray] <;> rfl
noncomputable def dN (K:PySem.W.Frag):V→Option Int→Option Int→Hp→VK→Prop:=fun x lo hi H Q=>∃ a xs,x=.ref a∧SqL K H a xs∧∀ p,H p=none→Q (.ref p) (upd H p (.lst (zo xs lo hi)))
theorem Tn:SlR X (dN X.K):=by
 intro pins s σ H x v vl vu lo hi sl Q I rx hs pl pu h;obtain ⟨a,xs,rfl,hx,q⟩:=h;cases rx;obtain ⟨its,r,ht,hz⟩:=I.list hx;have hlen:=r.length;refine ⟨"list",_,slot_list_getitem.lookup,ht.isList.typeIs,?_⟩;refine wpAny_getItem_list_slice ht.isList hs pl pu .none (by simp) ?_ (by rw [List.size_toArray] <;> omega);rw [Lu,← hlen];refine ⟨.ref s.heap.objs.size,_,I.laid (t':=s.toks) (o:=.lst (zo xs lo hi)) (fun b ob q=>Heap.get?_push_of_some _ q) (Nat.le_refl _) ?_,rfl,q _ (I.hok.fresh (Nat.le_refl _))⟩;exact ⟨Nat.le_trans (ur xs lo hi) hz,_,0,(r.drop (HT.sIx xs.length 0 lo)).take (HT.sIx xs.length xs.length hi - HT.sIx xs.length 0 lo),Heap.get?_push_size _ rfl⟩
noncomputable def Aj:V→Bool
 | .non=>true
 | .bl _=>true
 | .int _=>true
 | .str _=>true
 | _=>false
noncomputable def eqV:V→V→Bool
 | .non,.non=>true
 | .bl a,.bl b=>a == b
 | .bl a,.int b=>(if a then 1 else 0) == b
 | .int a,.bl b=>a == (if b then 1 else 0)
 | .int a,.int b=>a == b
 | .str a,.str b=>a == b
 | _,_=>false
theorem yH {A:Around} {s:Shared} {y x:V} {u v:Value} (ry:Dd y u) (rx:Dd x v) (fy:Aj y=true) (fx:Aj x=true):SeqAt.EqAt A s u v (eqV y x):=by
 cases y with
 | non=>
  cases ry;cases x with
  | non=>cases rx;exact SeqAt.EqAt.same _
  | bl b=>cases rx;exact SeqAt.EqAt.none_bool b
  | int b=>obtain ⟨t,rfl⟩:=rx;exact SeqAt.EqAt.none_int b t
  | str b=>obtain ⟨t,rfl⟩:=rx;exact SeqAt.EqAt.none_str b t
  | _=>exact absurd (show false=true from fx) Bool.false_ne_true
 | bl a=>
  cases ry;cases x with
  | non=>cases rx;exact SeqAt.EqAt.bool_none a
  | bl b=>cases rx;exact SeqAt.EqAt.bool_bool a b
  | int b=>obtain ⟨t,rfl⟩:=rx;exact SeqAt.EqAt.bool_int a b t
  | str b=>obtain ⟨t,rfl⟩:=rx;exact SeqAt.EqAt.bool_str a b t
  | _=>exact absurd (show false=true from fx) Bool.false_ne_true
 | int a=>
  obtain ⟨t',rfl⟩:=ry;cases x with
  | non=>cases rx;exact SeqAt.EqAt.int_none a t'
  | bl b=>cases rx;exact SeqAt.EqAt.int_bool a t' b
  | int b=>obtain ⟨t,rfl⟩:=rx;exact SeqAt.EqAt.int_int a t' b t
  | str b=>obtain ⟨t,rfl⟩:=rx;exact SeqAt.EqAt.int_str a t' b t
  | _=>exact absurd (show false=true from fx) Bool.false_ne_true
 | str a=>
  obtain ⟨t',rfl⟩:=ry;cases x with
  | non=>cases rx;exact SeqAt.EqAt.str_none a t'
  | bl b=>cases rx;exact SeqAt.EqAt.str_bool a t' b
  | int b=>obtain ⟨t,rfl⟩:=rx;exact SeqAt.EqAt.str_int a t' b t
  | str b=>obtain ⟨t,rfl⟩:=rx;exact SeqAt.EqAt.str_str a t' b t
  | _=>exact absurd (show false=true from fx) Bool.false_ne_true
 | _=>exact absurd (show false=true from fy) Bool.false_ne_true
noncomputable def eqU (x:V) (u:Value):Bool:=match u with
 | .none=>eqV .non x
 | .bool b=>eqV (.bl b) x
 | .int i _=>eqV (.int i) x
 | .str z _=>eqV (.str z) x
 | _=>false
theorem xH {x y:V} {u:Value} (r:Dd y u) (f:Aj y=true):eqU x u=eqV y x:=by
 cases y with
 | non=>cases r;rfl
 | bl b=>cases r;rfl
 | int i=>obtain ⟨t,rfl⟩:=r;rfl
 | str z=>obtain ⟨t,rfl⟩:=r;rfl
 | _=>exact absurd (show false=true from f) Bool.false_ne_true
theorem yr {x:V}:∀ {xs:List V} {us:List Value},Ad xs us→xs.all Aj=true→us.any (eqU x)=xs.any fun y=>eqV y x
 | _,_,.nil,_=>rfl
 | y :: xs,u :: us,.cons r t,f=>by
  rw [List.all_cons,Bool.and_eq_true] at f;rw [List.any_cons,List.any_cons,xH r f.1,yr t f.2]
theorem tm {A:Around} {s:Shared} {x:V} {v:Value} (rx:Dd x v) (fx:Aj x=true):∀ {xs:List V} {us:List Value},Ad xs us→xs.all Aj=true→∀ u ∈ us,SeqAt.EqAt A s u v (eqU x u)
 | _,_,.nil,_=>fun u hu=>by cases hu
 | y :: xs,u :: us,.cons r t,f=>fun u' hu=>by
  rw [List.all_cons,Bool.and_eq_true] at f;rcases List.mem_cons.mp hu with rfl | hu
  ·rw [xH r f.1];exact yH r rx f.1 fx
  ·exact tm rx fx t f.2 u' hu
noncomputable def inV (x:V) (xs:List V):Bool:=xs.any fun y=>eqV y x
noncomputable def rIn (K:PySem.W.Frag) (neg:Bool):R2:=fun x y H Q=>∃ p xs,y=.ref p∧(SqL K H p xs∨SqT K H p xs)∧Aj x=true∧xs.all Aj=true∧Q (.bl (if neg then !inV x xs else inV x xs)) H
theorem Mq:OpR X (compareOp .In) (rIn X.K false):=by
 intro pins s σ H x y v u Q I rx ry h;obtain ⟨p,xs,rfl,hq,fx,fs,q⟩:=h;cases ry;rcases hq with hq | hq
 ·obtain ⟨its,r,pl,hz⟩:=I.list hq;refine SeqAt.in_listAt (eqU x) pl.isList (fun w hw=>tm rx fx r fs w (by simpa using hw)) ⟨.bl _,H,I,rfl,?_⟩;rw [show its.toArray.any (eqU x)=its.any (eqU x) by simp,yr r fs];exact q
 ·obtain ⟨its,r,pl,hz⟩:=I.tuple hq;refine SeqAt.in_tupleAt (eqU x) pl (fun w hw=>tm rx fx r fs w (by simpa using hw)) ⟨.bl _,H,I,rfl,?_⟩;rw [show its.toArray.any (eqU x)=its.any (eqU x) by simp,yr r fs];exact q
theorem Cw:OpR X (compareOp .NotIn) (rIn X.K true):=by
 intro pins s σ H x y v u Q I rx ry h;obtain ⟨p,xs,rfl,hq,fx,fs,q⟩:=h;cases ry;rcases hq with hq | hq
 ·obtain ⟨its,r,pl,hz⟩:=I.list hq;refine SeqAt.notIn_listAt (eqU x) pl.isList (fun w hw=>tm rx fx r fs w (by simpa using hw)) ⟨.bl _,H,I,rfl,?_⟩;rw [show its.toArray.any (eqU x)=its.any (eqU x) by simp,yr r fs];exact q
 ·obtain ⟨its,r,pl,hz⟩:=I.tuple hq;refine SeqAt.notIn_tupleAt (eqU x) pl (fun w hw=>tm rx fx r fs w (by simpa using hw)) ⟨.bl _,H,I,rfl,?_⟩;rw [show its.toArray.any (eqU x)=its.any (eqU x) by simp,yr r fs];exact q
theorem Eb:bj X (.builtin "len") (fun xs H Q=>∃ p ys,xs=[.ref p]∧(SqL X.K H p ys∨SqT X.K H p ys)∧Q (.int ys.length) H):=by
 intro pins s σ H xs us Q I r h;obtain ⟨p,ys,rfl,hq,q⟩:=h;obtain ⟨u,rfl,rx⟩:=Xn r;cases rx;have hn:=zr;rcases hq with hq | hq
 ·obtain ⟨its,r',pl,hz⟩:=I.list hq;have hlen:=r'.length;exact Calls.call_len_list pl.isList (by simp only [List.size_toArray] <;> omega) ⟨.int ys.length,H,I.tok _,⟨s.toks + 1,by rw [List.size_toArray,hlen]⟩,q⟩
 ·obtain ⟨its,r',pl,hz⟩:=I.tuple hq;have hlen:=r'.length;exact len_tuple pl (by simp only [List.size_toArray] <;> omega) ⟨.int ys.length,H,I.tok _,⟨s.toks + 1,by rw [List.size_toArray,hlen]⟩,q⟩
theorem Mv:bj X (.builtin "len") (fun xs H Q=>∃ z,xs=[.str z]∧z.length ≤ sizeLine∧Q (.int z.length) H):=by
 intro pins s σ H xs us Q I r h;obtain ⟨z,rfl,hz,q⟩:=h;obtain ⟨u,rfl,t,rfl⟩:=Xn r;have hn:=zr;exact len_str (by omega) ⟨.int z.length,H,I.tok _,⟨_,rfl⟩,q⟩
theorem bj.or {f:Value} {r r':List V→Hp→VK→Prop} (h:bj X f r) (h':bj X f r'):bj X f (fun xs H Q=>r xs H Q∨r' xs H Q):=by
 intro pins s σ H xs us Q I rs q;rcases q with q | q
 ·exact h pins s σ H xs us Q I rs q
 ·exact h' pins s σ H xs us Q I rs q
theorem Fe:bj X (.type "list") (fun xs H Q=>∃ p ys,xs=[.ref p]∧(SqL X.K H p ys∨SqT X.K H p ys)∧∀ l,H l=none→Q (.ref l) (upd H l (.lst ys))):=by
 intro pins s σ H xs us Q I r h;obtain ⟨p,ys,rfl,hq,q⟩:=h;obtain ⟨u,rfl,rx⟩:=Xn r;cases rx;have fin:∀ (its:List Value),Ad ys its→ys.length ≤ sizeLine→∀ (h':Heap) (c':Nat),(∀ b o',s.heap.get? b=some o'→h'.get? b=some o') →
   h'.get? s.heap.objs.size=some { cls:=.type "list",dict:=none,data:=.seq its.toArray c',slots:=#[] }→EP X pins σ Q (.ref s.heap.objs.size) { s with heap:=h' }:=fun its r' hz h' c' kp e=>
  ⟨.ref s.heap.objs.size,_,I.laid (t':=s.toks) kp (Nat.le_refl _) (show Zd X.prog X.w _ h' _ (.lst ys) from ⟨hz,its,c',r',e⟩),rfl,q _ (I.hok.fresh (Nat.le_refl _))⟩
 rcases hq with hq | hq
 ·obtain ⟨its,r',pl,hz⟩:=I.list hq;have hlen:=r'.length;obtain ⟨o,ho,hc,n,hd⟩:=pl.isList;exact call_list_seq p (.inl rfl) ho hc hd (fun h' c' kp e=>fin its r' hz h' c' kp e) (by simp only [List.size_toArray] <;> omega)
 ·obtain ⟨its,r',pl,hz⟩:=I.tuple hq;have hlen:=r'.length;obtain ⟨o,ho,hc,n,hd⟩:=pl;exact call_list_seq p (.inr rfl) ho hc hd (fun h' c' kp e=>fin its r' hz h' c' kp e) (by simp only [List.size_toArray] <;> omega)
noncomputable def tyV (K:PySem.W.Frag) (T:String) (x:V) (H:Hp):Prop:=match x with
 | .str _=>T = "str"
 | .int _=>T = "int"
 | .ref p=>(T = "list" ∧ ∃ xs,SqL K H p xs)∨(T = "tuple" ∧ ∃ o,K.lookup p=some o∧o.cls=.type "tuple" ∧ o.dict=none) ∨
   (T = "dict" ∧ ((∃ kvs,H p=some (.dK kvs))∨∃ kvs,H p=some (.dT kvs)))∨(T = "set" ∧ ∃ S n,H p=some (.set S n))
 | _=>False
theorem rH {pins:List (Addr × Obj)} {σ:St} {H:Hp} {s:Shared} {T:String} {x:V} {v:Value} (I:Inv X pins σ H s) (r:Dd x v) (ty:tyV X.K T x H) :
  s.TypeIs v T∧∀ a,v=.ref a→∃ ob,s.heap.get? a=some ob∧ob.dict=none:=by
 cases x with
 | str z=>
  obtain ⟨t,rfl⟩:=r;cases (show T = "str" from ty);exact ⟨typeIs_str s z t,fun _ e=>nomatch e⟩
 | int i=>
  obtain ⟨t,rfl⟩:=r;cases (show T = "int" from ty);exact ⟨typeIs_int s i t,fun _ e=>nomatch e⟩
 | ref p=>
  cases r;rcases ty with ⟨rfl,xs,hq⟩ | ⟨rfl,o,hk,hc,hd⟩ | ⟨rfl,hk⟩ | ⟨rfl,S,n,hk⟩
  ·obtain ⟨its,_,pl,_⟩:=I.list hq;refine ⟨pl.isList.typeIs,fun a e=>?_⟩;cases e;obtain ⟨o,n,e,c,hd,_⟩:=pl;exact ⟨o,e,hd⟩
  ·refine ⟨⟨o,I.kIn p o hk,hc⟩,fun a e=>?_⟩;cases e;exact ⟨o,I.kIn _ o hk,hd⟩
  ·have z:∃ o,s.heap.get? p=some o∧o.ExactDict:=by
    rcases hk with ⟨kvs,hk⟩ | ⟨kvs,hk⟩
    ·obtain ⟨_,_,_,_,o,_,_,e,ex,_⟩:=I.hok p _ hk;exact ⟨o,e,ex⟩
    ·obtain ⟨_,_,_,_,o,_,_,e,ex,_⟩:=I.hok p _ hk;exact ⟨o,e,ex⟩
   obtain ⟨o,e,ex⟩:=z;refine ⟨⟨o,e,ex.1⟩,fun a e2=>?_⟩;cases e2;exact ⟨o,e,ex.2.1⟩
  ·obtain ⟨o,_,_,_,e,ex,_⟩:=I.hok p _ hk;refine ⟨⟨o,e,ex.1⟩,fun a e2=>?_⟩;cases e2;exact ⟨o,e,ex.2.1⟩
 | _=>exact False.elim ty
noncomputable def qN (K:PySem.W.Frag) (T:String) (r:V→List V→Hp→VK→Prop) (to:TE):TE:=fun σ H Q=>to σ H fun x H1=>tyV K T x H1∧r x [] H1 Q
noncomputable def tBM (K:PySem.W.Frag) (T:String) (r:V→List V→Hp→VK→Prop) (to:TE) (t:TA):TE:=fun σ H Q=>to σ H fun x H1=>tyV K T x H1∧t σ H1 fun xs H2=>r x xs H2 Q
variable {o e:Expr} {es:List Expr} {to:TE} {t:TA} {name:Str} {apos cpos:Pos} {T id:String} {r:V→List V→Hp→VK→Prop}
theorem PL (pa:PlainAttrs T) (slot:Slot T name id) (hty:typeOf (.builtin id)=pure (.type "method_descriptor")) (hm:MtR X id r) (ho:PE X o to)
  (hbase:attributeBase o name X.env (eval o X.env)=eval o X.env:=by rfl) (hline:(apos.endLine == cpos.line)=true:=by rfl):PE X (.Call (.Attribute o name apos) [] [] cpos) (qN X.K T r to):=by
 intro pins s σ H Q I h;refine wpAny_Call_method0_late hbase hline (thn (ho pins s σ H _ I h) fun v s1 hZ1=>?_);obtain ⟨x,H1,I1,r1,ty,q1⟩:=hZ1;obtain ⟨h1,h2⟩:=rH I1 r1 ty;exact ⟨T,id,pa,slot,hty,h1,h2,Calls.callWith_builtin rfl (PySem.evalArgs_none (hm pins s1 σ H1 x [] v [] Q I1 r1 .nil q1))⟩
theorem Vi (pa:PlainAttrs T) (slot:Slot T name id) (hty:typeOf (.builtin id)=pure (.type "method_descriptor")) (hm:MtR X id r) (ho:PE X o to) (ha:PA X (e :: es) t)
  (hbase:attributeBase o name X.env (eval o X.env)=eval o X.env:=by rfl)
  (hfew:((backTo cpos (starEach (e :: es) X.env)).all (fun x=>!x.1) && (backToKw cpos (keywordEach [] X.env)).all (fun x=>x.1.isSome)
   && decide ((e :: es).length + ([]:List Keyword).length + (if ([]:List Keyword).isEmpty then 0 else 1) < 30))=true:=by rfl)
  (hline:(apos.endLine == cpos.line)=true:=by rfl) (hs:starEach (e :: es) X.env=(false,eval e X.env) :: starEach es X.env:=by rfl) (hplain:(backTo cpos (starEach es X.env)).any (·.1)=false:=by rfl) :
  PE X (.Call (.Attribute o name apos) (e :: es) [] cpos) (tBM X.K T r to t):=by
 intro pins s σ H Q I h;refine wpAny_Call_method_late hbase hfew hline rfl (thn (ho pins s σ H _ I h) fun v s1 hZ1=>?_);obtain ⟨x,H1,I1,r1,ty,q1⟩:=hZ1;obtain ⟨h1,h2⟩:=rH I1 r1 ty;refine ⟨T,id,pa,slot,hty,h1,h2,?_⟩;have hA:=ha cpos pins s1 σ H1 _ I1 q1;rw [hs] at hA ⊢;refine Calls.callWith_builtin (by show (false || (backTo cpos (starEach es X.env)).any (·.1))=false;rw [hplain] <;> rfl) (Calls.evalArgs_plain ?_);exact thn hA fun us s2 ⟨vs,H2,I2,r2,q2⟩=>hm pins s2 σ H2 x vs v us Q I2 r1 r2 q2
end
end L2
namespace L2
open PySem PySem.Spec PyProof.Rows
noncomputable def MtM (X:Cx) (id:String) (r:V→List V→Hp→VK→Prop):Prop:=
 ∀ (pins:List (Addr × Obj)) (s:Shared) (σ:St) (H:Hp) (x:V) (xs:List V) (v:Value) (us:List Value) (Q:VK),Inv X pins σ H s→Dd x v→Ad xs us→r x xs H Q →
  wpAny (model X.prog X.w) X.A (call (.builtin id) (v :: us)) (EP X pins σ Q) X.xe s
theorem Ad.one:∀ {x:V} {us:List Value},Ad [x] us→∃ u,us=[u]∧Dd x u
 | _,_,.cons r .nil=>⟨_,rfl,r⟩
theorem Ad.two:∀ {x y:V} {us:List Value},Ad [x,y] us→∃ u v,us=[u,v]∧Dd x u∧Dd y v
 | _,_,_,.cons r (.cons q .nil)=>⟨_,_,rfl,r,q⟩
theorem Ad.zero:∀ {us:List Value},Ad [] us→us=[]
 | _,.nil=>rfl
theorem Ad.eraseIdx:∀ {xs:List V} {us:List Value} (i:Nat),Ad xs us→Ad (xs.eraseIdx i) (us.eraseIdx i)
 | _,_,_,.nil=>.nil
 | _,_,0,.cons _ t=>t
 | _,_,i + 1,.cons r t=>.cons r (Ad.eraseIdx i t)
theorem Ad.reverse {xs:List V} {us:List Value} (h:Ad xs us):Ad xs.reverse us.reverse:=by
 induction h with
 | nil=>exact .nil
 | cons r t ih=>rw [List.reverse_cons,List.reverse_cons];exact Ad.append ih (.cons r .nil)
section
variable {X:Cx} {pins:List (Addr × Obj)} {σ:St} {H:Hp} {s:Shared} {l b:Addr} {xs ys zs:List V}
theorem Inv.lset {its its':List Value} {n:Nat} {f:Array Value→Array Value} {t':Nat} (I:Inv X pins σ H s) (hH:H l=some (.lst xs))
  (e:s.heap.get? l=some { cls:=.type "list",data:=.seq its.toArray n }) (hf:f its.toArray=its'.toArray) (hv:Ad ys its') (hz:ys.length ≤ sizeLine) :
  Inv X pins σ (upd H l (.lst ys)) { s with heap:=s.heap.update l (Obj.mapSeq f),toks:=t' }:=by
 have q:=PySem.IsL.update e f;rw [hf] at q;refine I.write (x:=l) (e:=l) (by rw [hH];exact trivial) (.inl rfl) (fun b' u hb hu=>(Heap.get?_update_other s.heap (Obj.mapSeq f) (Ne.symm hb)).trans hu) ⟨_,q⟩ ?_;exact ⟨hz,its',_,hv,q⟩
theorem Inv.lnew {its:List Value} {t':Nat} (I:Inv X pins σ H s) (hv:Ad ys its) (hz:ys.length ≤ sizeLine) :
  Inv X pins σ (upd H s.heap.objs.size (.lst ys)) { s with heap:=s.heap.push { cls:=.type "list",data:=.seq its.toArray },toks:=t' }:=
 I.laid (fun _ _ q=>Heap.get?_push_of_some _ q) (Nat.le_refl _) ⟨hz,its,0,hv,Heap.get?_push_size _ rfl⟩
theorem Inv.fresh (I:Inv X pins σ H s):H s.heap.objs.size=none:=I.hok.fresh (Nat.le_refl _)
theorem Inv.lstM (I:Inv X pins σ H s) (hH:H l=some (.lst xs)):xs.length ≤ sizeLine∧∃ (its:List Value) (n:Nat),Ad xs its∧xs.length=its.length∧s.heap.get? l=some { cls:=.type "list",data:=.seq its.toArray n }:=by
 obtain ⟨z,its,n,r,e⟩:=I.hok l _ hH;exact ⟨z,its,n,r,r.length,e⟩
end
section
variable {X:Cx}
noncomputable def tD:V→List V→Hp→VK→Prop:=fun x vs H Q=>∃ l xs y,x=.ref l∧vs=[y]∧H l=some (.lst xs)∧xs.length < sizeLine∧Q .non (upd H l (.lst (xs ++ [y])))
theorem qe:MtM X "list.append" tD:=by
 intro pins s σ H x vs v us Q I rx rv h;obtain ⟨l,xs,y,rfl,rfl,hH,hz,q⟩:=h;cases rx;obtain ⟨u,rfl,ru⟩:=rv.one;obtain ⟨z,its,n,r,hl,e⟩:=I.lstM hH;refine call_meets F.slot_list_append ⟨_,e,rfl⟩ F.entry_list_append (F.args_list_append_2 _ _) (PySem.list_append l its.toArray n u (by rw [List.size_toArray];omega)) ⟨e,?_⟩;refine ⟨.non,_,I.lset (its':=its ++ [u]) hH e (by simp) (r.append (.cons ru .nil)) ?_,rfl,q⟩;rw [List.length_append,List.length_singleton];omega
noncomputable def lz:V→List V→Hp→VK→Prop:=fun x vs H Q=>∃ l xs,x=.ref l∧vs=[]∧H l=some (.lst xs)∧Q .non (upd H l (.lst xs.reverse))
theorem bB:MtM X "list.reverse" lz:=by
 intro pins s σ H x vs v us Q I rx rv h;obtain ⟨l,xs,rfl,rfl,hH,q⟩:=h;cases rx;have hus:=rv.zero;subst hus;obtain ⟨z,its,n,r,hl,e⟩:=I.lstM hH;refine call_meets F.slot_list_reverse ⟨_,e,rfl⟩ F.entry_list_reverse (F.args_list_reverse_1 _) (AutoSeq1.list_reverse_list_0 l its.toArray n (by rw [List.size_toArray];omega)) ⟨e,?_⟩;refine ⟨.non,_,I.lset (its':=its.reverse) hH e (by simp) r.reverse ?_,rfl,q⟩;rw [List.length_reverse];omega
noncomputable def JN:R2:=fun x y H Q=>∃ l b xs zs,x=.ref l∧y=.ref b∧H l=some (.lst xs)∧H b=some (.lst zs)∧xs.length + zs.length ≤ sizeLine∧∀ p,H p=none→Q (.ref p) (upd H p (.lst (xs ++ zs)))
theorem GH:OpR X (binaryOp .Add) JN:=by
 intro pins s σ H x y v u Q I rx ry h;obtain ⟨l,b,xs,zs,rfl,rfl,hH,hB,hz,q⟩:=h;cases rx;cases ry;obtain ⟨z,its,n,r,hl,e⟩:=I.lstM hH;obtain ⟨z2,its2,n2,r2,hl2,e2⟩:=I.lstM hB;refine PySem.P.add_list e e2 ?_ (by rw [List.size_toArray,List.size_toArray];omega);have ea:its.toArray ++ its2.toArray=(its ++ its2).toArray:=by simp
 rw [ea];exact ⟨.ref _,_,I.lnew (t':=s.toks) (r.append r2) (by rw [List.length_append];omega),rfl,q _ I.fresh⟩
end
section
variable {prog:Program} {w:World} {A:Around} {E:Value→Shared→Prop} {s:Shared}
end
section
variable {X:Cx}
end
end L2
namespace L2
open PySem PySem.Spec PyProof.Rows
section
variable {κ:Type} [DecidableEq κ]
noncomputable def qv (kvs:List (κ × V)) (k:κ):Option V:=(kvs.find? fun kv=>decide (kv.1=k)).map (·.2)
noncomputable def Hv (kvs:List (κ × V)) (k:κ) (v:V):List (κ × V):=
 if (kvs.any fun kv=>decide (kv.1=k))=true then kvs.map (fun kv=>if kv.1=k then (kv.1,v) else kv) else kvs ++ [(k,v)]
noncomputable def iM (kvs:List (κ × V)) (k:κ):List (κ × V):=kvs.filter fun kv=>decide (kv.1 ≠ k)
theorem Wu {p:κ × V} {r:List (κ × V)} {k:κ} (e:p.1=k):qv (p :: r) k=some p.2:=by simp [qv,List.find?_cons,e]
theorem ou {p:κ × V} {r:List (κ × V)} {k:κ} (e:¬ p.1=k):qv (p :: r) k=qv r k:=by simp [qv,List.find?_cons,e]
theorem Vy (k:κ):∀ kvs:List (κ × V),(kvs.any fun kv=>decide (kv.1=k))=(qv kvs k).isSome
 | []=>rfl
 | p :: r=>by
  rw [List.any_cons];by_cases e:p.1=k
  ·simp only [Wu e,decide_eq_true e,Bool.true_or,Option.isSome_some]
  ·rw [ou e,decide_eq_false e,Bool.false_or];exact Vy k r
theorem Pp (kvs:List (κ × V)) (k:κ) (v:V):(Hv kvs k v).length ≤ kvs.length + 1:=by
 unfold Hv;split
 ·rw [List.length_map];omega
 ·rw [List.length_append,List.length_cons,List.length_nil];omega
theorem qu.isSome_eq {o:Option V} {u:Option Value} (r:qu o u):o.isSome=u.isSome:=by
 cases o with
 | none=>cases u with
  | none=>rfl
  | some _=>exact (show False from r).elim
 | some _=>cases u with
  | none=>exact (show False from r).elim
  | some _=>rfl
theorem qu.getD {o:Option V} {u:Option Value} {d:V} {d':Value} (r:qu o u) (rd:Dd d d'):Dd (o.getD d) (u.getD d'):=by
 cases o with
 | none=>cases u with
  | none=>exact rd
  | some _=>exact (show False from r).elim
 | some _=>cases u with
  | none=>exact (show False from r).elim
  | some _=>exact r
theorem KV.val {kvs:List (κ × V)} {vs:List (κ × Value)} (r:KV kvs vs) (k:κ):qu (qv kvs k) (valueAt vs k):=by
 unfold KV at r
 induction r with
 | nil=>exact True.intro
 | @cons p q ps qs h t ih=>
  obtain ⟨h1,h2⟩:=h;by_cases e:p.1=k
  ·have e':q.1=k:=h1.symm.trans e;have b:valueAt (q :: qs) k=some q.2:=by simp [valueAt,List.find?_cons,e']
   rw [Wu e,b];exact h2
  ·have e':¬ q.1=k:=fun z=>e (h1.trans z)
   have b:valueAt (q :: qs) k=valueAt qs k:=by simp [valueAt,List.find?_cons,e']
   rw [ou e,b];exact ih
theorem KV.any {kvs:List (κ × V)} {vs:List (κ × Value)} (r:KV kvs vs) (k:κ):(kvs.any fun kv=>decide (kv.1=k))=vs.any fun kv=>decide (kv.1=k):=by
 unfold KV at r
 induction r with
 | nil=>rfl
 | cons h t ih=>rw [List.any_cons,List.any_cons,ih,h.1]
theorem KV.repl {kvs:List (κ × V)} {vs:List (κ × Value)} (r:KV kvs vs) (k:κ) {y:V} {u:Value} (ry:Dd y u) :
  KV (kvs.map fun kv=>if kv.1=k then (kv.1,y) else kv) (vs.map fun kv=>if kv.1=k then (kv.1,u) else kv):=by
 unfold KV at r ⊢
 induction r with
 | nil=>exact .nil
 | @cons p q ps qs h t ih=>
  rw [List.map_cons,List.map_cons];refine .cons ?_ ih;obtain ⟨h1,h2⟩:=h;by_cases e:p.1=k
  ·rw [if_pos e,if_pos (h1.symm.trans e)];exact ⟨h1,ry⟩
  ·rw [if_neg e,if_neg (fun z=>e (h1.trans z))];exact ⟨h1,h2⟩
theorem KV.put {kvs:List (κ × V)} {vs:List (κ × Value)} (r:KV kvs vs) (k:κ) {y:V} {u:Value} (ry:Dd y u):KV (Hv kvs k y) (stored vs k u):=by
 unfold Hv stored;rw [r.any k];by_cases e:(vs.any fun kv=>decide (kv.1=k))=true
 ·rw [if_pos e,if_pos e];exact r.repl k ry
 ·rw [if_neg e,if_neg e];exact Paired.snoc r ⟨rfl,ry⟩
theorem KV.drop {kvs:List (κ × V)} {vs:List (κ × Value)} (r:KV kvs vs) (k:κ):KV (iM kvs k) (without vs k):=by
 unfold KV at r ⊢;unfold iM without
 induction r with
 | nil=>exact .nil
 | @cons p q ps qs h t ih=>
  obtain ⟨h1,h2⟩:=h;rw [List.filter_cons,List.filter_cons];by_cases e:p.1=k
  ·have a:¬ decide (p.1 ≠ k)=true:=by simp [e]
   have b:¬ decide (q.1 ≠ k)=true:=by simp [h1.symm.trans e]
   rw [if_neg a,if_neg b];exact ih
  ·have e':¬ q.1=k:=fun z=>e (h1.trans z)
   have a:decide (p.1 ≠ k)=true:=by simp [e]
   have b:decide (q.1 ≠ k)=true:=by simp [e']
   rw [if_pos a,if_pos b];exact .cons ⟨h1,h2⟩ ih
theorem KV.length {kvs:List (κ × V)} {vs:List (κ × Value)} (r:KV kvs vs):kvs.length=vs.length:=Paired.length r
end
theorem jF {P:Program} {w:World} {k:Key} {u:Value} (r:Dd (kV k) u):(rf P w).is k u=true:=by
 cases k with
 | inl i=>obtain ⟨t,e⟩:=(show ∃ t,u=Value.int i t from r);subst e;exact Fx P w i t
 | inr x=>obtain ⟨t,e⟩:=(show ∃ t,u=Value.str x t from r);subst e;exact Lx P w x t
theorem ix {P:Program} {w:World}:∀ {ks:List Key} {us:List Value},Ad (ks.map kV) us→ItemsAre (rf P w) ks us
 | [],_,r=>by rw [List.map_nil] at r;cases r;exact .nil
 | k :: ks,_,r=>by
  rw [List.map_cons] at r;cases r with
  | cons h t=>exact .cons (jF h) (ix t)
noncomputable abbrev KT (H:Hp):List (List Key × V)→List (List Key × Addr × Value)→Prop:=Paired fun p q=>p.1=q.1∧H q.2.1=some (.tup (p.1.map kV))∧Dd p.2 q.2.2
theorem KT.val {H:Hp} {kvs:List (List Key × V)} {xs:List (List Key × Addr × Value)} (r:KT H kvs xs) (k:List Key):qu (qv kvs k) ((atKey xs k).map (·.2)):=by
 induction r with
 | nil=>exact True.intro
 | @cons p q ps qs h t ih=>
  obtain ⟨h1,_,h2⟩:=h;by_cases e:p.1=k
  ·have e':q.1=k:=h1.symm.trans e;have b:atKey (q :: qs) k=some q.2:=by simp [atKey,List.find?_cons,e']
   rw [Wu e,b];exact h2
  ·have e':¬ q.1=k:=fun z=>e (h1.trans z)
   have b:atKey (q :: qs) k=atKey qs k:=by simp [atKey,List.find?_cons,e']
   rw [ou e,b];exact ih
theorem KT.repl {H:Hp} {kvs:List (List Key × V)} {xs:List (List Key × Addr × Value)} (r:KT H kvs xs) (k:List Key) {y:V} {u:Value} (ry:Dd y u) :
  KT H (kvs.map fun kv=>if kv.1=k then (kv.1,y) else kv) (xs.map (putAt k u)):=by
 induction r with
 | nil=>exact .nil
 | @cons p q ps qs h t ih=>
  rw [List.map_cons,List.map_cons];refine .cons ?_ ih;obtain ⟨h1,h2,h3⟩:=h;unfold putAt;by_cases e:p.1=k
  ·rw [if_pos e,if_pos (h1.symm.trans e)];exact ⟨h1,h2,ry⟩
  ·rw [if_neg e,if_neg (fun z=>e (h1.trans z))];exact ⟨h1,h2,h3⟩
theorem KT.put {H:Hp} {kvs:List (List Key × V)} {xs:List (List Key × Addr × Value)} (r:KT H kvs xs) (k:List Key) {b:Addr} {y:V} {u:Value} (hb:H b=some (.tup (k.map kV))) (ry:Dd y u) :
  KT H (Hv kvs k y) (storedH xs k b u):=by
 have e:(kvs.any fun kv=>decide (kv.1=k))=(atKey xs k).isSome:=by
  rw [Vy,(r.val k).isSome_eq,Option.isSome_map]
 unfold Hv storedH;rw [e];by_cases q:(atKey xs k).isSome=true
 ·rw [if_pos q,if_pos q];exact r.repl k ry
 ·rw [if_neg q,if_neg q];exact Paired.snoc r ⟨rfl,hb,ry⟩
theorem KT.keeps {H H':Hp} {kvs:List (List Key × V)} {xs:List (List Key × Addr × Value)} (r:KT H kvs xs) (ht:∀ b ys,H b=some (.tup ys)→H' b=some (.tup ys)):KT H' kvs xs:=
 Paired.mapP r fun _ _ z=>⟨z.1,ht _ _ z.2.1,z.2.2⟩
section
variable {P:Program} {w:World} {H:Hp} {h:Heap} {a:Addr}
theorem mL {u:HO} (ok:HOk P w H h) (e:Rd H a u):Zd P w H h a u:=e.ok ok
theorem VE {kvs:List (Key × V)} (ok:HOk P w H h) (e:Rd H a (.dK kvs)):kvs.length ≤ sizeLine∧(a == sysModules)=false∧∃ vs,KV kvs vs∧h.DictOf (rf P w) a vs:=
 show Zd P w H h a (.dK kvs) from mL ok e
theorem UM {kvs:List (Key × V)} (ok:HOk P w H h) (e:H a=some (.dK kvs)):kvs.length ≤ sizeLine∧(a == sysModules)=false∧∃ vs,KV kvs vs∧h.DictOf (rf P w) a vs:=VE ok (.inl e)
theorem Cz {ks:List Key} (ok:HOk P w H h) (e:H a=some (.tup (ks.map kV))):(tupleKind (rf P w)).is h ks a:=by
 obtain ⟨_,its,r,o,h1,h2,n,h3⟩:=(show Zd P w H h a (.tup (ks.map kV)) from ok a _ e);exact ⟨o,its.toArray,n,h1,h2,h3,by simpa using ix r⟩
theorem QE {kvs:List (List Key × V)} (ok:HOk P w H h) (e:Rd H a (.dT kvs)):kvs.length ≤ sizeLine∧(a == sysModules)=false ∧
  ∃ xs,KT H kvs xs∧h.DictOfH (tupleKind (rf P w)) a xs:=by
 obtain ⟨z,y,xs,r,o,es,ep,h1,h2,h3,h4,h5⟩:=(show Zd P w H h a (.dT kvs) from mL ok e);refine ⟨z,y,xs,r,o,es,ep,h1,h2,h3,h4,fun x hx=>?_,h5⟩;have all:∀ {l:List (List Key × V)} {m:List (List Key × Addr × Value)},KT H l m→∀ x ∈ m,(tupleKind (rf P w)).is h x.1 x.2.1:=by
  intro l m q
  induction q with
  | nil=>intro x hx;exact nomatch hx
  | @cons p q ps qs hq t ih=>
   intro x hx;rcases List.mem_cons.mp hx with e | hx
   ·subst e;exact Cz ok (by rw [← hq.1];exact hq.2.1)
   ·exact ih x hx
 exact all r x hx
theorem vM {kvs:List (List Key × V)} (ok:HOk P w H h) (e:H a=some (.dT kvs)):kvs.length ≤ sizeLine∧(a == sysModules)=false ∧
  ∃ xs,KT H kvs xs∧h.DictOfH (tupleKind (rf P w)) a xs:=QE ok (.inl e)
end
noncomputable def Oo (H:Hp) (a:Addr) (y:V) (r:Option V):Prop:=
 (∃ kvs k,Rd H a (.dK kvs)∧y=kV k∧r=qv kvs k)∨∃ kvs k b,Rd H a (.dT kvs)∧y=.ref b∧H b=some (.tup (k.map kV))∧r=qv kvs k
noncomputable def mB (H:Hp) (a:Addr) (y v:V) (H':Hp):Prop:=
 (∃ kvs k,H a=some (.dK kvs)∧y=kV k∧kvs.length < sizeLine∧H'=upd H a (.dK (Hv kvs k v))) ∨
 ∃ kvs k b,H a=some (.dT kvs)∧y=.ref b∧H b=some (.tup (k.map kV))∧kvs.length < sizeLine∧H'=upd H a (.dT (Hv kvs k v))
theorem Oo.k {H:Hp} {a:Addr} {kvs:List (Key × V)} {k:Key} (e:H a=some (.dK kvs)):Oo H a (kV k) (qv kvs k):=.inl ⟨kvs,k,.inl e,rfl,rfl⟩
theorem Oo.t {H:Hp} {a b:Addr} {kvs:List (List Key × V)} {k:List Key} (e:H a=some (.dT kvs)) (eb:H b=some (.tup (k.map kV))):Oo H a (.ref b) (qv kvs k):=.inr ⟨kvs,k,b,.inl e,rfl,eb,rfl⟩
theorem mB.k {H:Hp} {a:Addr} {kvs:List (Key × V)} {k:Key} {v:V} (e:H a=some (.dK kvs)) (hl:kvs.length < sizeLine):mB H a (kV k) v (upd H a (.dK (Hv kvs k v))):=.inl ⟨kvs,k,e,rfl,hl,rfl⟩
theorem mB.t {H:Hp} {a b:Addr} {kvs:List (List Key × V)} {k:List Key} {v:V} (e:H a=some (.dT kvs)) (eb:H b=some (.tup (k.map kV))) (hl:kvs.length < sizeLine) :
  mB H a (.ref b) v (upd H a (.dT (Hv kvs k v))):=.inr ⟨kvs,k,b,e,rfl,eb,hl,rfl⟩
section
variable {X:Cx} {pins:List (Addr × Obj)} {σ:St} {H:Hp} {s:Shared} {a:Addr} {y v:V} {u r:Value} {o:Option V} {A:Around} {E:Value→Shared→Prop}
theorem Inv.big (I:Inv X pins σ H s):sysModules < s.heap.objs.size:=by
 have h:mainGlobals < s.heap.objs.size:=(I.mod.glob.keeps I.bk).lt;exact Nat.lt_trans (by decide) h
theorem BD {Q:Value→Shared→Prop} (hu:A.units + 1 < cLine) (I:Inv X pins σ H s) (g:Oo H a y (some v)) (ry:Dd y u) (h:∀ w' s',Inv X pins σ H s'→Dd v w'→Q w' s') :
  wpAny (model X.prog X.w) A (getItem (.ref a) u) Q E s:=by
 rcases g with ⟨kvs,k,e,ey,l⟩ | ⟨kvs,k,b,e,ey,eb,l⟩
 ·subst ey;obtain ⟨z,hd,vs,rel,dd⟩:=VE I.hok e;obtain ⟨w',hw,rw'⟩:=qu.some_of (v:=v) (o:=valueAt vs k) (by rw [l];exact rel.val k);exact wpAny_getItem_of (jF ry) dd.mapOf hw (h w' _ (I.tok _) rw')
 ·subst ey;cases (show u=Value.ref b from ry);obtain ⟨z,hd,xs,rel,dd⟩:=QE I.hok e;obtain ⟨w',hw,rw'⟩:=qu.some_of (v:=v) (o:=(atKey xs k).map (·.2)) (by rw [l];exact rel.val k);obtain ⟨p,hp,hp2⟩:=Option.map_eq_some_iff.mp hw;refine wpAny_getItem_heap (tupleKind_room_in1 hu) (Cz I.hok eb) dd hp ?_;rw [hp2];exact h w' _ (I.tok _) rw'
theorem LI {Q:Value→Shared→Prop} (hu:A.units + 1 < cLine) (I:Inv X pins σ H s) (g:Oo H a y o) (ry:Dd y u) (h:∀ s',Inv X pins σ H s'→Q (.bool (!o.isSome)) s') :
  wpAny (model X.prog X.w) A (compareOp .NotIn u (.ref a)) Q E s:=by
 rcases g with ⟨kvs,k,e,ey,l⟩ | ⟨kvs,k,b,e,ey,eb,l⟩
 ·subst ey;obtain ⟨z,hd,vs,rel,dd⟩:=VE I.hok e;refine wpAny_notIn_of (jF ry) hd dd.mapOf ?_;rw [← (rel.val k).isSome_eq,← l];exact h _ (I.tok _)
 ·subst ey;cases (show u=Value.ref b from ry);obtain ⟨z,hd,xs,rel,dd⟩:=QE I.hok e;refine wpAny_notIn_heap (tupleKind_room_in1 hu) (Cz I.hok eb) hd dd ?_;have q:=(rel.val k).isSome_eq;rw [Option.isSome_map] at q;rw [← q,← l];exact h _ (I.tok _)
theorem YB {h':Heap} {t':Nat} {ob:HO} (I:Inv X pins σ H s) (mu:Mut (H a)) (hs:Heap.SameBut a s.heap h') (he:∃ q,h'.get? a=some q) (new:Zd X.prog X.w (upd H a ob) h' a ob) :
  Inv X pins σ (upd H a ob) { s with heap:=h',toks:=t' }:=
 I.write (x:=a) (e:=a) mu (.inl rfl) (fun b q hb z=>(hs.2 b hb).trans z) he new
theorem uK {P:Program} {w:World} {H':Hp} {h':Heap} {kvs:List (Key × V)} {vs:List (Key × Value)} (z:kvs.length ≤ sizeLine) (hd:(a == sysModules)=false) (rel:KV kvs vs) (dd:h'.DictOf (rf P w) a vs) :
  Zd P w H' h' a (.dK kvs):=⟨z,hd,vs,rel,dd⟩
theorem jE {H':Hp} {Q:Unit→Shared→Prop} (hu:A.units + 1 < cLine) (I:Inv X pins σ H s) (g:mB H a y v H') (ry:Dd y u) (rv:Dd v r) (h:∀ s',Inv X pins σ H' s'→Q () s') :
  wpAny (model X.prog X.w) A (setItem (.ref a) u r) Q E s:=by
 rcases g with ⟨kvs,k,e,ey,l,eH⟩ | ⟨kvs,k,b,e,ey,eb,l,eH⟩
 ·subst ey eH;obtain ⟨z,hd,vs,rel,dd⟩:=UM I.hok e;have hz:vs.length ≤ sizeLine:=by rw [← rel.length];exact z
  have hl:(Hv kvs k v).length ≤ sizeLine:=by have:=Pp kvs k v;omega
  refine wpAny_setItem_pairs (hsz:=hz) (jF ry) dd fun h' dd' hs=>h _ ?_
  have he:∃ q,h'.get? a=some q:=let ⟨q,_,_,hq,_⟩:=dd';⟨q,hq⟩;exact YB I (by rw [e];exact True.intro) hs he (uK hl hd (rel.put k rv) dd')
 ·subst ey eH;cases (show u=Value.ref b from ry);obtain ⟨z,hd,xs,rel,dd⟩:=vM I.hok e;have hz:xs.length ≤ sizeLine:=by rw [← Paired.length rel];exact z
  have hl:(Hv kvs k v).length ≤ sizeLine:=by have:=Pp kvs k v;omega
  refine wpAny_setItem_heap (hsz:=hz) (tupleKind_room_in1 hu) (Cz I.hok eb) dd fun h' dd' hs=>h _ ?_
  obtain ⟨q,es,ep,hq,h2,h3,h4,_,h5⟩:=dd';refine YB I (by rw [e];exact True.intro) hs ⟨q,hq⟩ ⟨hl,hd,_,(rel.put k eb rv).keeps fun c ys ec=>?_,q,es,ep,hq,h2,h3,h4,h5⟩;rw [ub (ue ec e (fun z=>nomatch z))];exact ec
end
section
variable {X:Cx} {pins:List (Addr × Obj)} {σ:St} {H:Hp} {s:Shared} {a:Addr} {kvs:List (Key × V)} {k:Key} {u:Value} {A:Around} {E:Value→Shared→Prop}
end
noncomputable def uN (i:Expr):Prop:=∀ ov iv,subscripted i false ov iv=operate [ov,iv] (getItem ov iv)
theorem UH {prog:Program} {w:World} {A:Around} {E:Value→Shared→Prop} {s:Shared} {env:Env} {value slice:Expr} {pos:Pos} {T id:String} {Q:Value→Shared→Prop}
  (hl:typeLookup (.type T) "__getitem__"=pure (some (.builtin id))) (hs:uN slice)
  (h:wpAny (model prog w) A (eval value env) (fun o s₁=>wpAny (model prog w) A (eval slice env) (fun i s₂=>s₂.TypeIs o T∧wpAny (model prog w) A (getItem o i) Q E s₂) E s₁) E s) :
  wpAny (model prog w) A (eval (.Subscript value slice pos) env) Q E s:=by
 refine Subscript_ (wpAny_mono h (fun o s₁ h₁=>wpAny_mono h₁ (fun i s₂ h₂=>?_) fun _ _ x=>x) fun _ _ x=>x);obtain ⟨hT,h₂⟩:=h₂;unfold subscriptTail;refine wpAny_bind ?_;rw [getitemInPython_of_ne hT.not_modules];refine wpAny_bind (wpAny_specialOf hT hl ?_);have fin:wpAny (model prog w) A (subscripted slice false o i) (fun r s₃=>wpAny (model prog w) A (letTemporaryGo value o r >>= fun _=>pure r) Q E s₃) E s₂:=by
  rw [hs o i];exact wpAny_operating (wpAny_mono h₂ (fun r s₃ h₃=>wpAny_bind (wpAny_letTemporaryGo (wpAny_pure h₃))) fun _ _ x=>x)
 first
  | exact wpAny_pure (wpAny_bind fin)
  | exact wpAny_bind (wpAny_pure (wpAny_bind fin))
  | exact wpAny_bind fin
theorem lx {X:Cx} {pins:List (Addr × Obj)} {σ:St} {H:Hp} {s:Shared} {a:Addr} {y:V} {o:Option V} (I:Inv X pins σ H s) (g:Oo H a y o):s.TypeIs (.ref a) "dict" := by
 rcases g with ⟨kvs,k,e,_,_⟩ | ⟨kvs,k,b,e,_,_,_⟩
 ·obtain ⟨_,_,vs,_,dd⟩:=VE I.hok e;exact dd.typeIs
 ·obtain ⟨_,_,xs,_,dd⟩:=QE I.hok e;exact dd.typeIs
noncomputable def iK (td ty:TE):TE:=fun σ H Q=>td σ H fun x H1=>ty σ H1 fun y H2=>∃ a v,x=.ref a∧Oo H2 a y (some v)∧Q v H2
noncomputable def dE (ty td:TE):TE:=fun σ H Q=>ty σ H fun y H1=>td σ H1 fun x H2=>∃ a o,x=.ref a∧Oo H2 a y o∧Q (.bl (!o.isSome)) H2
noncomputable def bK (td ty tv:TE):TS:=fun D σ H=>tv σ H fun v H1=>td σ H1 fun x H2=>ty σ H2 fun y H3=>∃ a H4,x=.ref a∧mB H3 a y v H4∧D.nx σ H4
section
variable {X:Cx} {o i e value:Expr} {pos pos' tpos:Pos} {td ty tv:TE}
theorem ik (hu:X.A.units + 1 < cLine) (ho:PE X o td) (hi:PE X i ty) (hs:uN i):PE X (.Subscript o i pos) (iK td ty):=by
 intro pins s σ H Q I h;refine UH PySem.F.slot_dict_getitem.lookup hs (thn (ho pins s σ H _ I h) fun u s1 ⟨x,H1,I1,rx,q1⟩=>thn (hi pins s1 σ H1 _ I1 q1) fun iv s2 hZ1=>?_);obtain ⟨y,H2,I2,ry,a,v,ex,g,q2⟩:=hZ1;subst ex;obtain rfl:u=Value.ref a:=rx;exact ⟨lx I2 g,BD hu I2 g ry fun w' s3 I3 rw'=>⟨v,H2,I3,rw',q2⟩⟩
theorem zD (hu:X.A.units + 1 < cLine) (hi:PE X i ty) (ho:PE X o td):PC X .NotIn i o (dE ty td):=by
 intro pins s σ H Q I h;refine thn (hi pins s σ H _ I h) fun iv s1 ⟨y,H1,I1,ry,q1⟩=>thn (ho pins s1 σ H1 _ I1 q1) fun u s2 hZ1=>?_
 obtain ⟨x,H2,I2,rx,a,ov,ex,g,q2⟩:=hZ1;subst ex;obtain rfl:u=Value.ref a:=rx;exact LI hu I2 g ry fun s3 I3=>⟨.bl (!ov.isSome),H2,I3,rfl,q2⟩
theorem Ar (hu:X.A.units + 1 < cLine) (ho:PE X o td) (hi:PE X i ty) (hv:PE X value tv) (hs:swapsWith value (some (.Subscript o i pos')) pos.line X.env=pure false) :
  PS X (.Assign [.Subscript o i pos'] value pos) (bK td ty tv):=by
 intro pins s σ H D I h;refine wpAny_Assign_Subscript (thn (hv pins s σ H _ I h) fun r s1 ⟨v,H1,I1,rv,q1⟩=>thn (ho pins s1 σ H1 _ I1 q1) fun u s2 ⟨x,H2,I2,rx,q2⟩=>thn (hi pins s2 σ H2 _ I2 q2) fun iv s3 hZ1=>?_) hs;obtain ⟨y,H3,I3,ry,a,H4,ex,g,q3⟩:=hZ1;subst ex;obtain rfl:u=Value.ref a:=rx;exact jE hu I3 g ry rv fun s4 I4=>⟨σ,H4,I4,q3⟩
end
theorem tF {P:Program} {w:World} {H:Hp} (h:Heap) (hb:sysModules < h.objs.size):Zd P w H (h.push { cls:=.type "dict",data:=.dict #[] }) h.objs.size (.dK []):=
 ⟨Nat.zero_le _,beq_eq_false_iff_ne.mpr (Ne.symm (Nat.ne_of_lt hb)),[],.nil,Heap.DictOf.new h⟩
noncomputable def FH:TE:=fun _ H Q=>∀ p,H p=none→Q (.ref p) (upd H p (.dK []))
section
variable {X:Cx} {pos:Pos}
theorem qm:PE X (.Dict [] [] pos) FH:=fun pins s σ H Q I h=>
 wpAny_Dict_empty ⟨.ref s.heap.objs.size,_,I.laid (a:=s.heap.objs.size) (o:=.dK []) (t':=s.toks) (fun _ _ q=>Heap.get?_push_of_some _ q) (Nat.le_refl _) (tF s.heap I.big),rfl,h _ (I.hok.fresh (Nat.le_refl _))⟩
end
structure M1 (X:Cx) (o:Expr) (m:Str) (apos:Pos) (e:Expr) (cpos:Pos):Prop where
 base:attributeBase o m X.env (eval o X.env)=eval o X.env
 few:((backTo cpos (starEach [e] X.env)).all (fun x=>!x.1) && (backToKw cpos (keywordEach [] X.env)).all (fun x=>x.1.isSome)
  && decide (([e]:List Expr).length + ([]:List Keyword).length + (if ([]:List Keyword).isEmpty then 0 else 1) < 30))=true
 line:(apos.endLine == cpos.line)=true
 trees:backTo cpos (starEach [e] X.env)=[(false,eval e X.env)]
structure M2 (X:Cx) (o:Expr) (m:Str) (apos:Pos) (e f:Expr) (cpos:Pos):Prop where
 base:attributeBase o m X.env (eval o X.env)=eval o X.env
 few:((backTo cpos (starEach [e,f] X.env)).all (fun x=>!x.1) && (backToKw cpos (keywordEach [] X.env)).all (fun x=>x.1.isSome)
  && decide (([e,f]:List Expr).length + ([]:List Keyword).length + (if ([]:List Keyword).isEmpty then 0 else 1) < 30))=true
 line:(apos.endLine == cpos.line)=true
 trees:backTo cpos (starEach [e,f] X.env)=[(false,eval e X.env),(false,eval f X.env)]
section
variable {X:Cx} {pins:List (Addr × Obj)} {σ:St} {H:Hp} {s:Shared} {a:Addr} {y d:V} {u r:Value} {o:Option V} {A:Around} {E:Value→Shared→Prop}
end
section
variable {X:Cx} {o e f:Expr} {apos cpos:Pos} {td ty tx:TE}
end
section
variable {X:Cx} {pins:List (Addr × Obj)} {σ:St} {H:Hp} {s:Shared} {a:Addr} {kvs:List (Key × V)} {A:Around} {E:Value→Shared→Prop}
end
section
variable {X:Cx} {pins:List (Addr × Obj)} {σ:St} {H:Hp} {s:Shared} {a:Addr} {y:V} {u:Value} {A:Around} {E:Value→Shared→Prop}
end
end L2
namespace Att
open PySem PySem.W PySem.Calls PyProof.Rows
theorem Jp {P:Params} {h:Heap}:∀ (ns:List Int) (vs:List Value),WellAll P h vs (ns.map WData.int)→IntsAre vs ns:=by
 intro ns
 induction ns with
 | nil=>
  intro vs w;rw [List.map_nil] at w;cases w;exact .nil
 | cons n ns ih=>
  intro vs w;rw [List.map_cons] at w;cases w with
  | cons a b=>
   cases a;exact .cons _ _ (ih _ b)
theorem TB {l:OpenLaw} {n:Nat} (hn:l.most=some n) {P:Params} {h:Heap} {args:List WData} {vals:List Value}
  (hpre:l.row.toRowW.claim.pre args=true) (hwl:WellAll P h vals args) :
  ∃ a vs ns,vals=[Value.ref a]∧args=[WData.list (ns.map WData.int)]∧h.get? a=some { cls:=.type "list",data:=.seq vs.toArray }∧IntsAre vs ns∧ns.length ≤ n:=by
 have hsh:WShape.hasAll [] args [.list .int]=true:=(pre_splitW hpre).1;have hc:l.pre.holds [] { args:=args }=true:=(pre_splitW hpre).2;obtain ⟨d,r,rfl,h1,h2⟩:=hasAllW_cons hsh;obtain rfl:=hasAllW_nil h2;obtain ⟨xs,rfl,h3⟩:=hasW_list h1;obtain ⟨ns,rfl⟩:=items_int h3;have hlen:ns.length ≤ n:=by
  unfold OpenLaw.pre at hc;have h4:(WTm.not (.lt (.lit (.int (n:Int))) (.len (.arg 0)))).holds [] { args:=[.list (ns.map .int)] }=true:=by
   have h4:=(holds_andW hc).1;rw [hn] at h4;exact h4
  have h5:=condW_of h4 (w_not (w_lt w_lit (w_len_list (w_arg rfl))));rw [List.length_map] at h5;refine Nat.le_of_not_lt fun q=>?_
  have q':(n:Int) < ((ns.length:Nat):Int):=by omega
  first
   | (rw [decide_eq_true q'] at h5;exact absurd h5 (by decide))
   | (simp at h5;omega)
 cases hwl with
 | cons w1 w2=>
  cases w2;cases w1 with
  | list ho hall=>exact ⟨_,_,ns,rfl,rfl,ho,Jp ns _ hall,hlen⟩
theorem rC (l:OpenLaw) (args:List WData):l.row.toRowW.claim.post args (.bool true) args=true:=
 postW_of (r:=l.row.toRowW) (X:=(true == true))
  (show WShape.has [] (.bool true) .bool=true by first | rfl | decide | simp [WShape.has,WShape.arms,WShape.armsAll])
  (show (WTm.eq .res (.lit (.bool true))).value [] { args:=args,res:=some (.bool true),after:=args }=some (.bool (true == true)) from w_eq_bool (w_res rfl) w_lit) rfl
theorem attach_call {l:OpenLaw} {n:Nat} {q:Program} {loose:List Str} {XP:(Str→Option Value)→Heap→Prop} {YP:World→Heap→Prop} {d:DefRec}
  (hn:l.most=some n) (hdf:d.params.defaults=[])
  (call:∀ (w:World) (s₀ s₁:Shared) (mg mb:Str→Option Value) (fa:Addr) (o:Obj) (pm cd doc:Value) (a:Addr) (vs:List Value) (ns:List Int),
   Ground q loose [] XP w s₀ mg mb s₁.heap→YP w s₁.heap →
   s₁.heap.get? fa=some o→o.data=.func (docDef d.name d.params d.body d.scope pm cd doc)→s₁.heap.CodeRec cd d.name→mg d.name=some (.ref fa) →
   s₁.heap.get? a=some { cls:=.type "list",data:=.seq vs.toArray }→IntsAre vs ns→ns.length ≤ n→s₁.gens=#[] →
   codeAny (model l.prog w) callerA (.call (.ref fa) ⟨[.ref a],[]⟩) (fun r s'=>r=.ok (.ret (.bool true))∧OldK s₁.heap s'.heap∧s'.os=s₁.os∧AllBare s'.gens) s₁) :
  WalkO q loose XP YP l.row.toRowW d [] (fun f vs=>PySem.call f vs):=by
 intro w s₀ s₁ mg mb G Y fa o pm cd doc dV kV ho hd hcd hD hmg hg args vals as hpre hlay hrd hwl hlo;obtain rfl:dV=.none:=Dflts.none hD hdf;obtain rfl:kV=.none:=Dflts.noKw hD;obtain ⟨a,vs,ns,rfl,rfl,hobj,hints,hlen⟩:=TB hn hpre hwl;refine enter_call (codeAny_mono (call w s₀ s₁ mg mb fa o pm cd doc a vs ns G Y ho (fd_plain hd) hcd hmg hobj hints hlen hg) fun r s' hq=>?_);obtain ⟨rfl,h2,h3,h4⟩:=hq;exact ⟨.inl ⟨.bool true,.bool true,[],rfl,fun _=>rfl,.bool true,rC l _,fun _=>⟨List.Pairwise.nil,fun _ hm=>(nomatch hm)⟩⟩,h2,h3,h4⟩
section
variable {prog:Program} {w:World} {A:Around} {E:Value→Shared→Prop} {s:Shared} {K:Frag}
end
end Att
namespace L2
open PySem PySem.Spec PyProof.Rows
theorem Yv:∀ {vs:List Value} {ns:List Int},IntsAre vs ns→Ad (ns.map V.int) vs
 | _,_,.nil=>.nil
 | _,_,.cons n t h=>.cons ⟨t,rfl⟩ (Yv h)
noncomputable def fK (H:Hp):Prop:=∀ b,H b=none∨∃ o xs,H b=some (.frz o (.lst xs))
theorem cG {P:Program} {w:World} {K:PySem.W.Frag} {mg mb:Str→Option Value} {CX:CXT} {k:Nat} {fa a:Addr} {fd:FuncData} {x:Str} {sp:Sp} {s₁:Shared} {vs:List Value} {ns:List Int}
  (KX:K.In s₁.heap) (hns:s₁.heap.Ns mainGlobals mg) (hb:s₁.heap.Ns builtinsNs mb) (hbb:∀ x:Str,x ≠ "__name__" → mb x=bootBuiltins x) (hlim:s₁.heap.NoLimit) (hg:s₁.gens=#[])
  (ha:s₁.heap.get? a=some { cls:=.type "list",data:=.seq vs.toArray }) (hi:IntsAre vs ns) (hl:ns.length ≤ sizeLine) (hr:Mj k callerA)
  (F:∀ base:Heap,K.In base→base.Ns mainGlobals mg→Pb P w K mg base CX k fa fd [x] sp) (hbind:∀ (s:Shared) (u:Value),BindsTo s fd ⟨[u],[]⟩ [(x,u)])
  (hsp:∀ H:Hp,fK H→SqL K H a (ns.map V.int)→sp [.ref a] H (fun v _=>v=.bl true) fun _ _ _=>False)
  (hCX:∀ H e s',CX [] H s₁ (fun _ _ _=>False) e s'→False) :
  codeAny (model P w) callerA (.call (.ref fa) ⟨[.ref a],[]⟩) (fun r s'=>r=.ok (.ret (.bool true))∧OldK s₁.heap s'.heap∧s'.os=s₁.os∧AllBare s'.gens) s₁:=by
 have rv:=Yv hi;have lenV:=hi.length;have core:∀ H:Hp,fK H→SqL K H a (ns.map V.int)→HOk P w H s₁.heap→(∀ b,H b ≠ none→b=a)→(H a ≠ none→K.lookup a=none) →
   codeAny (model P w) callerA (.call (.ref fa) ⟨[.ref a],[]⟩) (fun r s'=>r=.ok (.ret (.bool true))∧OldK s₁.heap s'.heap∧s'.os=s₁.os∧AllBare s'.gens) s₁:=by
  intro H hO hS hok hA hK;have base_of:∀ {b:Addr} {o:Obj},s₁.heap.get? b=some o→H b=none→(xF s₁.heap H).get? b=some o:=fun e n=>IF e n
  have noA:∀ {b:Addr} {o:Obj} {es:Array DictEntry} {ep:Nat},s₁.heap.get? b=some o→o.data=.dict es ep→H b=none:=fun {b o es ep} e d=>by
   cases q:H b with
   | none=>rfl
   | some u=>
    have e':b=a:=hA b (by rw [q];simp);subst e';rw [ha] at e;cases e;have d':Data.seq vs.toArray _=Data.dict es ep:=d;cases d'
  have nsK:∀ {b:Addr} {m:Str→Option Value},s₁.heap.Ns b m→(xF s₁.heap H).Ns b m:=fun {b m} ⟨o,es,ep,e,d,r⟩=>⟨o,es,ep,base_of e (noA e d),d,r⟩
  have hKb:K.In (xF s₁.heap H):=fun b o e=>base_of (KX b o e) (by
   cases q:H b with
   | none=>rfl
   | some u=>
    have e':b=a:=hA b (by rw [q];simp);subst e';rw [hK (by rw [q];simp)] at e;cases e)
  have hM:Mod K mg (xF s₁.heap H):=⟨hKb,nsK hns,⟨mb,nsK hb,hbb⟩,let ⟨mc,h1,h2⟩:=hlim;⟨mc,nsK h1,h2⟩⟩;have e0:wC P w K mg (xF s₁.heap H) callerA [] s₁ H:=⟨rfl,hM,fun b o e=>FI e,Nat.le_of_eq (xD _ _),trivial,fun b hb=>absurd (show b ∈ ([]:List Addr) from hb) (by simp),hok,.of_eq hg⟩;refine codeAny_mono ((F _ hKb (nsK hns)).run callerA [] s₁ H ⟨[.ref a],[]⟩ [.ref a] [.ref a] _ _ hr e0 (hbind s₁ (.ref a)) (.cons rfl .nil) (hsp H hO hS)) fun r s' h=>?_
  cases r with
  | error e=>exact (hCX H e s' h).elim
  | ok fl=>
   cases fl with
   | next=>exact False.elim h
   | brk=>exact False.elim h
   | cont=>exact False.elim h
   | ret u=>
    obtain ⟨v,H',os,bare,un,hok',r',q⟩:=h;have q':v=.bl true:=q;subst q';obtain rfl:u=Value.bool true:=r';refine ⟨rfl,OldK.of_keep fun b o e=>?_,os,bare⟩;cases q:H b with
    | none=>exact un.keep b o e q (by intro z;exact absurd (show b ∈ ([]:List Addr) from z) (by simp)) (by simp)
    | some u=>
     rcases hO b with z | ⟨ob,xs,z⟩
     ·rw [q] at z;cases z
     ·have z2:=un.frzs b ob _ z;obtain ⟨e1,_⟩:=hok b _ z;obtain ⟨e2,_⟩:=hok' b _ z2;rw [e] at e1;cases e1;exact e2
 cases hk:K.lookup a with
 | some o=>
  have e:=KX a o hk;rw [ha] at e;cases e;refine core (fun _=>none) (fun _=>.inl rfl) (.inr ⟨_,vs.toArray,_,hk,rfl,rfl,rfl,by rw [List.size_toArray,lenV];exact hl,by simpa using rv⟩) (fun b u z=>by have z':(none:Option HO)=some u:=z;cases z') (fun b z=>absurd rfl z) fun z=>absurd rfl z
 | none=>
  refine core (fun b=>if b=a then some (.frz { cls:=.type "list",data:=.seq vs.toArray } (.lst (ns.map V.int))) else none) (fun b=>?_) (.inl (.inr ⟨{ cls:=.type "list",data:=.seq vs.toArray },if_pos rfl⟩)) (fun b u z=>?_) (fun b z=>?_) fun _=>hk
  ·by_cases hb:b=a
   ·exact .inr ⟨_,_,if_pos hb⟩
   ·exact .inl (if_neg hb)
  ·by_cases hb:b=a
   ·have z':=(if_pos hb).symm.trans z;cases z';subst hb;exact ⟨ha,by rw [List.length_map];exact hl,vs,_,rv,ha⟩
   ·have z':=(if_neg hb).symm.trans z;cases z'
  ·by_cases hb:b=a
   ·exact hb
   ·exact absurd (if_neg hb) z
end L2
namespace L2
open PySem PySem.Spec PyProof.Rows
noncomputable abbrev KOf {K:PySem.W.Frag} {h:Heap} (_:K.In h):PySem.W.Frag:=K
theorem mJ {l:PySem.W.OpenLaw} {n k:Nat} {q:Program} {loose:List Str} {XP:(Str→Option Value)→Heap→Prop} {YP:World→Heap→Prop} {d:DefRec} {K:Params→PySem.W.Frag} {CX:World→CXT} {sp:World→Sp} {x:Str}
  (hn:l.most=some n) (hn2:n ≤ sizeLine) (hdf:d.params.defaults=[]) (hr:Mj k callerA)
  (hY:∀ (w:World) (h:Heap),YP w h→(K w.params).In h)
  (F:∀ (w:World) (mg:Str→Option Value) (fa:Addr) (h:Heap),(K w.params).In h→h.Ns mainGlobals mg→mg d.name=some (.ref fa) →
   ∃ fd:FuncData,(∀ (s:Shared) (u:Value),BindsTo s fd ⟨[u],[]⟩ [(x,u)]) ∧
    ∀ base:Heap,(K w.params).In base→base.Ns mainGlobals mg→Pb l.prog w (K w.params) mg base (CX w) k fa fd [x] (sp w))
  (hsp:∀ (w:World) (H:Hp) (a:Addr) (ns:List Int),ns.length ≤ n→fK H→SqL (K w.params) H a (ns.map V.int)→sp w [.ref a] H (fun v _=>v=.bl true) fun _ _ _=>False)
  (hCX:∀ (w:World) (H:Hp) (s:Shared) (e:Value) (s':Shared),CX w [] H s (fun _ _ _=>False) e s'→False) :
  PySem.W.WalkO q loose XP YP l.row.toRowW d [] (fun f vs=>PySem.call f vs):=by
 refine Att.attach_call hn hdf fun w s₀ s₁ mg mb fa o pm cd doc a vs ns G Y ho hd hcd hmg hobj hints hlen hg=>?_
 have KX:=hY w _ Y;obtain ⟨fd,hb,hF⟩:=F w mg fa _ KX G.T.g hmg;exact cG KX G.T.g G.T.b G.T.builtins G.T.nolimit hg hobj hints (Nat.le_trans hlen hn2) hr hF hb (fun H hO hS=>hsp w H a ns hlen hO hS) fun H e s'=>hCX w H s₁ e s'
theorem qG {l:PySem.W.OpenLaw} {n k:Nat} {q:Program} {loose:List Str} {XP:(Str→Option Value)→Heap→Prop} {YP:World→Heap→Prop} {d:DefRec} {K:Params→PySem.W.Frag} {CX:CXT} {sp:PySem.W.Frag→Sp} {x:Str}
  (hn:l.most=some n) (hn2:n ≤ sizeLine) (hdf:d.params.defaults=[]) (hr:Mj k callerA)
  (hY:∀ (w:World) (h:Heap),YP w h→(K w.params).In h)
  (F:∀ (w:World) (mg:Str→Option Value) (fa:Addr) (h:Heap),(K w.params).In h→h.Ns mainGlobals mg→mg d.name=some (.ref fa) →
   ∃ fd:FuncData,(∀ (s:Shared) (u:Value),BindsTo s fd ⟨[u],[]⟩ [(x,u)]) ∧
    ∀ base:Heap,(K w.params).In base→base.Ns mainGlobals mg→Pb l.prog w (K w.params) mg base CX k fa fd [x] (sp (K w.params)))
  (hsp:∀ (K:PySem.W.Frag) (H:Hp) (a:Addr) (ns:List Int),ns.length ≤ n→fK H→SqL K H a (ns.map V.int)→sp K [.ref a] H (fun v _=>v=.bl true) fun _ _ _=>False)
  (hCX:∀ (H:Hp) (s:Shared) (e:Value) (s':Shared),CX [] H s (fun _ _ _=>False) e s'→False) :
  PySem.W.WalkO q loose XP YP l.row.toRowW d [] (fun f vs=>PySem.call f vs):=
 mJ (K:=K) (CX:=fun _=>CX) (sp:=fun w=>sp (K w.params)) hn hn2 hdf hr hY F (fun w H a ns h1 h2 h3=>hsp (K w.params) H a ns h1 h2 h3) fun _ H s e s'=>hCX H s e s'
end L2
namespace L2
open PySem PySem.Spec PyProof.Rows
noncomputable def Cd (s:Stmt) (j:Nat):Stmt:=match s with
 | .ClassDef _ _ _ body _ _ _ _ _ _ _=>body.getD j (.Pass ⟨0,0,0,0⟩)
 | _=>.Pass ⟨0,0,0,0⟩
noncomputable def Ku (s:Stmt):Arguments:=match s with
 | .FunctionDef _ a _ _ _ _ _ _ _ _=>a
 | _=>{ posonlyargs:=[],args:=[],vararg:=none,kwonlyargs:=[],kw_defaults:=[],kwarg:=none,defaults:=[] }
noncomputable def Xp (s:Stmt):List Stmt:=match s with
 | .FunctionDef _ _ b _ _ _ _ _ _ _=>b
 | _=>[]
noncomputable def rb (s:Stmt):Scope:=match s with
 | .FunctionDef _ _ _ _ _ _ sc _ _ _=>sc
 | _=>{ kind:=.function,names:=[],isGenerator:=false,isCoroutine:=false }
noncomputable abbrev CX0:CXT:=fun _ _ _ _ _ _=>False
noncomputable abbrev E0:XK:=fun _ _ _=>False
theorem Db {X:Cx}:Vm CX0 X E0:=fun _ _ _ _ _ _ _ h=>h.elim
structure Fun (K:PySem.W.Frag) (x qual:Str) (st:Stmt) (f:Addr) (fd:FuncData):Prop where
 ex:∃ (oc:Value) (od:Option Addr) (kV doc pm:Value) (an:Option Addr) (cdv ct:Value) (osl:Array (Option Value)),
  fd=PySem.W.fnOf x qual (Ku st) (Xp st) (rb st) .none kV doc pm an cdv ct∧K.lookup f=some ⟨oc,od,.func fd,osl⟩∧PySem.W.codeIn K cdv qual=true
 kp:PySem.W.keepIn K (.ref f)=true
section
variable {P:Program} {w:World} {K:PySem.W.Frag} {mg:Str→Option Value} {base:Heap}
theorem Fun.ok {x qual:Str} {st:Stmt} {f:Addr} {fd:FuncData} {N ps:List Str} {k:Nat} {sp:Sp} (F:Fun K x qual st f fd) (S:Bb N ps (rb st)) (len:∀ vs H Q E,sp vs H Q E→vs.length=ps.length)
  (hbody:∀ (cdv:Value) (A:Around) (outer:List Env) (s:Shared) (H:Hp) (vs:List V) (Q:VK) (E:XK),Mj k (A.deeper (envOfC qual (rb st) s.heap.objs.size f cdv))→sp vs H Q E →
   ∃ t,PSs (CJ CX0 P w K mg base N qual (rb st) f cdv A outer s H E).nox (Xp st) t∧t { nx:=fun _ H'=>Q .non H',rt:=Q } (start N vs) H):Pb P w K mg base CX0 (k + 1) f fd ps sp:=by
 obtain ⟨oc,od,kV,doc,pm,an,cdv,ct,osl,rfl,lk,hcd⟩:=F.ex;refine FM lk hcd S len fun A outer s H vs Q E hr hsp=>?_
 obtain ⟨t,h,q⟩:=hbody cdv A outer s H vs Q E hr hsp;exact ⟨t,h.nox,q⟩
theorem Fun.binds {x qual:Str} {st:Stmt} {f:Addr} {fd:FuncData} {ps:List Str} (F:Fun K x qual st f fd)
  (h:∀ (kV doc pm:Value) (an:Option Addr) (cdv ct:Value) (us:List Value),us.length=ps.length→bindArgs (PySem.W.fnOf x qual (Ku st) (Xp st) (rb st) .none kV doc pm an cdv ct) ⟨us,[]⟩=pure (ps.zip us)):bc K fd ps []:=by
 obtain ⟨oc,od,kV,doc,pm,an,cdv,ct,osl,rfl,lk,hcd⟩:=F.ex;exact .all (h kV doc pm an cdv ct)
theorem rL {x qual:Str} {st:Stmt} {f:Addr} {oc:Value} {od an:Option Addr} {osl:Array (Option Value)} {kV doc pm cdv ct:Value} (l:K.lookup f=some ⟨oc,od,.func (PySem.W.fnOf x qual (Ku st) (Xp st) (rb st) .none kV doc pm an cdv ct),osl⟩)
  (c:PySem.W.codeIn K cdv qual=true) (k:PySem.W.keepIn K (.ref f)=true):Fun K x qual st f (PySem.W.fnOf x qual (Ku st) (Xp st) (rb st) .none kV doc pm an cdv ct):=⟨⟨oc,od,kV,doc,pm,an,cdv,ct,osl,rfl,l,c⟩,k⟩
end
theorem Zw {A:Around} {k:Nat} (hr:Mj k A):A.units + 1 < cLine:=Nat.lt_of_le_of_lt (Nat.add_le_add_left (by decide:1 ≤ 64) _) hr.units
section
variable {X:Cx}
theorem pv (i:Nat) {x:Str} {pos:Pos} (hN:X.N[i]? = some x:=by rfl) (hv:Vis X.env.scope x:=by first | exact Or.inl rfl | exact Or.inr (Or.inl rfl) | exact Or.inr (Or.inr rfl)) (hd:(x == ("__debug__" : Str))=false:=by decide)
  (hcd:(x == ("__classdict__" : Str))=false:=by decide):PE X (.Name x pos) (aN i):=qL hN hv hd hcd
end
noncomputable def Jb (H H':Hp):Prop:=∀ b o,H b=some o→H' b=some o
theorem Jb.refl (H:Hp):Jb H H:=fun _ _ h=>h
theorem Jb.trans {H H1 H2:Hp} (a:Jb H H1) (b:Jb H1 H2):Jb H H2:=fun c o h=>b c o (a c o h)
theorem Jb.free {H H':Hp} (e:Jb H H') {l:Addr} (h:H' l=Option.none):H l=Option.none:=by
 cases q:H l with
 | none=>rfl
 | some o=>
  rw [e l o q] at h;cases h
theorem Jb.seq {K:PySem.W.Frag} {H H':Hp} {a:Addr} {xs:List V} (e:Jb H H') (h:SqL K H a xs):SqL K H' a xs:=by
 rcases h with (h | ⟨o,h⟩) | h
 ·exact .inl (.inl (e _ _ h))
 ·exact .inl (.inr ⟨o,e _ _ h⟩)
 ·exact .inr h
section
variable {κ:Type} [DecidableEq κ]
end
end L2
set_option maxHeartbeats 4000000
namespace L2
open PySem PySem.Spec PyProof.Rows
noncomputable def sv (cells:List (Str × Addr)):List (Str × NameKind)→List (Str × Addr)→List (Str × Addr)
 | [],acc=>acc
 | (n,k) :: r,acc=>if k == .free then (match cells.lookup n with | some c=>sv cells r ((n,c) :: acc) | none=>sv cells r acc) else sv cells r acc
theorem Ox {env:Env}:∀ (names:List (Str × NameKind)) (acc:List (Str × Addr)),(∀ y ∈ names,y.2=.free→∃ c,env.cells.lookup y.1=some c) →
  (forIn names acc (fun (x:Str × NameKind) (cs:List (Str × Addr))=>(if (x.2 == .free)=true then do let a ← cellOf env x.1;pure (ForInStep.yield ((x.1,a) :: cs)) else pure (ForInStep.yield cs):Sem (ForInStep (List (Str × Addr))))))=pure (sv env.cells names acc)
 | [],acc,_=>rfl
 | (n,k) :: r,acc,h=>by
  have hr:∀ y ∈ r,y.2=.free→∃ c,env.cells.lookup y.1=some c:=fun y hy=>h y (List.mem_cons_of_mem _ hy)
  rw [List.forIn_cons];by_cases hk:(k == NameKind.free)=true
  ·have e:k=.free:=by simpa using hk
   obtain ⟨c,hc⟩:=h (n,k) List.mem_cons_self e;have hc':env.cells.lookup n=some c:=hc;simp only [sv,hk,if_true,hc',cellOf];exact Ox r _ hr
  ·simp only [sv,hk];exact Ox r _ hr
theorem XC {scope:Scope} {env:Env} (h:∀ y ∈ scope.names,y.2=.free→∃ c,env.cells.lookup y.1=some c):closureFor scope env=pure (sv env.cells scope.names []):=by
 unfold closureFor;exact congrArg (fun t=>t >>= pure) (Ox scope.names [] h)
theorem Ap {cells:List (Str × Addr)}:∀ (names:List (Str × NameKind)) (acc:List (Str × Addr)) {x:Str} {c:Addr},(sv cells names acc).lookup x=some c→acc.lookup x=some c∨cells.lookup x=some c
 | [],acc,x,c,h=>.inl h
 | (n,k) :: r,acc,x,c,h=>by
  unfold sv at h;split at h
  ·cases q:cells.lookup n with
   | none=>rw [q] at h;exact Ap r acc h
   | some d=>
    rw [q] at h;rcases Ap r _ h with z | z
    ·rw [List.lookup_cons] at z;by_cases hx:(x == n)=true
     ·rw [hx] at z;have e:x=n:=by simpa using hx
      subst e
      right;rw [q];exact z
     ·have hx':(x == n)=false:=by simpa using hx
      rw [hx'] at z;exact .inl z
    ·exact .inr z
  ·exact Ap r acc h
theorem Qm {cells:List (Str × Addr)}:∀ (names:List (Str × NameKind)) (acc:List (Str × Addr)) {x:Str} {c:Addr},acc.lookup x=some c→cells.lookup x=some c→(sv cells names acc).lookup x=some c
 | [],acc,x,c,h,_=>h
 | (n,k) :: r,acc,x,c,h,hc=>by
  unfold sv;split
  ·cases q:cells.lookup n with
   | none=>exact Qm r acc h hc
   | some d=>
    refine Qm r _ ?_ hc;rw [List.lookup_cons];by_cases hx:(x == n)=true
    ·have e:x=n:=by simpa using hx
     subst e;rw [hx];rw [q] at hc;exact hc
    ·have hx':(x == n)=false:=by simpa using hx
     rw [hx'];exact h
  ·exact Qm r acc h hc
theorem fm {cells:List (Str × Addr)}:∀ (names:List (Str × NameKind)) (acc:List (Str × Addr)) {x:Str} {c:Addr},(x,NameKind.free) ∈ names→cells.lookup x=some c→(sv cells names acc).lookup x=some c
 | [],_,_,_,h,_=>nomatch h
 | (n,k) :: r,acc,x,c,h,hc=>by
  rcases List.mem_cons.mp h with e | h
  ·cases e;unfold sv;rw [if_pos (by decide),hc];refine Qm r _ ?_ hc;rw [List.lookup_cons];simp
  ·unfold sv;split
   ·cases q:cells.lookup n with
    | none=>exact fm r acc h hc
    | some d=>exact fm r _ h hc
   ·exact fm r acc h hc
theorem zn {α:Type}:∀ {l:List (Str × α)} {x:Str} {a:α},l.lookup x=some a→(x,a) ∈ l
 | [],_,_,h=>by simp at h
 | (n,b) :: r,x,a,h=>by
  rw [List.lookup_cons] at h;by_cases hx:(x == n)=true
  ·have e:x=n:=by simpa using hx
   subst e;rw [hx] at h;have e2:b=a:=Option.some.inj h;subst e2;exact List.mem_cons_self
  ·have hx':(x == n)=false:=by simpa using hx
   rw [hx'] at h;exact List.mem_cons_of_mem _ (zn h)
theorem Dy {env:Env} {scope:Scope} {x:Str} {k:NameKind} (h:(relabel scope env).names.lookup x=some k) (hk:k=.cell∨k=.free) (hc:∀ y ∈ scope.names,y.2 ≠ .cell):(x,NameKind.free) ∈ scope.names:=by
 have h1:=zn h;obtain ⟨⟨n,j⟩,hm,e⟩:=List.mem_map.mp h1;have e':(if (j == NameKind.free && env.scope.kind == .function && env.kindOf n == some .cell)=true then (n,NameKind.cell) else (n,j))=(x,k):=e;split at e'
 ·rename_i hcond;have e1:n=x:=(Prod.mk.inj e').1;subst e1;have hj:j=.free:=by
   simp only [Bool.and_eq_true] at hcond;simpa using hcond.1.1
  subst hj;exact hm
 ·have e1:n=x:=(Prod.mk.inj e').1;have e2:j=k:=(Prod.mk.inj e').2;subst e1;subst e2;rcases hk with z | z
  ·exact absurd z (hc _ hm)
  ·subst z;exact hm
theorem Sl {env:Env} {scope:Scope} {x:Str} (h:scope.names.lookup x=some .free):(relabel scope env).names.lookup x=some .cell∨(relabel scope env).names.lookup x=some .free:=by
 have all:∀ (names:List (Str × NameKind)),names.lookup x=some .free →
   (names.map fun (n,k)=>if (k == NameKind.free && env.scope.kind == .function && env.kindOf n == some .cell) then (n,NameKind.cell) else (n,k)).lookup x=some .cell ∨
   (names.map fun (n,k)=>if (k == NameKind.free && env.scope.kind == .function && env.kindOf n == some .cell) then (n,NameKind.cell) else (n,k)).lookup x=some .free:=by
  intro names
  induction names with
  | nil=>intro h;simp at h
  | cons p r ih=>
   obtain ⟨n,k⟩:=p;intro h;rw [List.map_cons];by_cases hx:(x == n)=true
   ·simp only [List.lookup_cons,hx] at h;have hk:k=.free:=Option.some.inj h;subst hk;by_cases hc:(NameKind.free == NameKind.free && env.scope.kind == .function && env.kindOf n == some .cell)=true
    ·left;simp only [if_pos hc,List.lookup_cons,hx]
    ·right;simp only [if_neg hc,List.lookup_cons,hx]
   ·have hx':(x == n)=false:=by simpa using hx
    simp only [List.lookup_cons,hx'] at h;by_cases hc:(k == NameKind.free && env.scope.kind == .function && env.kindOf n == some .cell)=true
    ·simp only [if_pos hc,List.lookup_cons,hx'];exact ih h
    ·simp only [if_neg hc,List.lookup_cons,hx'];exact ih h
 exact all scope.names h
noncomputable abbrev Cx.block (X:Cx) (scope:Scope) (C:Addr) (N:List Str) (s:Shared) (H:Hp) (fp:List Addr):Cx where
 prog:=X.prog
 w:=X.w
 K:=X.K
 mg:=X.mg
 base:=X.base
 A:=X.A
 N:=N
 s₀:=s
 H₀:=H
 env:=compEnvC scope (sv X.env.cells scope.names []) C X.env
 outer:=X.stack
 stack:=X.stack
 ex:=fp
 fn:=fun _=>false
 calm:=X.calm
 pn:=[]
 xe:=fun _ _=>False
structure uo (env:Env) (scope:Scope):Prop where
 kind:scope.kind=.function
 nocell:∀ y ∈ scope.names,y.2 ≠ .cell
 fr:∀ y ∈ scope.names,y.2=.free→env.kindOf y.1=some .cell∨env.kindOf y.1=some .free
 loc:∀ x ∈ scope.names,x.2=.local→scope.names.lookup x.1=some .local
noncomputable def blk (sel:List (Option Nat)) (σ:St):St:=sel.map fun o=>o.bind fun j=>(σ[j]?).join
noncomputable def uB (M:List Str) (scope:Scope) (N:List Str) (sel:List (Option Nat)):Prop:=
 sel.length=N.length∧∀ (i j:Nat) (x:Str),sel[i]? = some (some j)→N[i]? = some x→M[j]? = some x∧scope.names.lookup x=some .free
section
variable {X:Cx} {pins:List (Addr × Obj)} {σ:St} {H:Hp} {s:Shared} {scope:Scope} {fp:List Addr} {C:Addr} {N:List Str}
theorem uo.cells (S:uo X.env scope) (ok:X.Ok):∀ y ∈ scope.names,y.2=.free→∃ c,X.env.cells.lookup y.1=some c:=fun y hy e=>ok.has y.1 (S.fr y hy e)
theorem vt {x:Str} {c:Addr} (h:(sv X.env.cells scope.names []).lookup x=some c):X.env.cells.lookup x=some c:=by
 rcases Ap _ _ h with z | z
 ·simp at z
 ·exact z
theorem Sy (I:Inv X pins σ H s) (S:uo X.env scope) (hf:∀ b ∈ fp,Gw X pins H b) (hs:∀ b ∈ fp,b < s.heap.objs.size) (hC:s.heap.objs.size ≤ C):(X.block scope C N s H fp).Ok where
 mod:=I.ok.mod
 kind:=S.kind
 glob:=I.ok.glob
 blt:=I.ok.blt
 above:=hC
 inj:=fun x y c h1 h2=>I.ok.inj x y c (vt h1) (vt h2)
 has:=fun x h=>by
  have hk:∃ k,(relabel scope X.env).names.lookup x=some k∧(k=.cell∨k=.free):=by
   rcases h with h | h
   ·exact ⟨_,h,.inl rfl⟩
   ·exact ⟨_,h,.inr rfl⟩
  obtain ⟨k,h1,h2⟩:=hk;have hm:=Dy h1 h2 S.nocell;obtain ⟨c,hc⟩:=S.cells I.ok _ hm rfl;exact ⟨c,fm _ _ hm hc⟩
 cab:=fun _ _ h _=>nomatch h
 hd:=I.ok.hd
 frames:=I.ok.frames
 stk:=.inl rfl
 exf:=fun b hb=>⟨Nat.ne_of_lt (Nat.lt_of_lt_of_le (hs b hb) hC),fun x c e=>(hf b hb).2.2.2.2.1 x c (vt e)⟩
 bs:=I.bs
 bsz:=Nat.le_trans I.ok.bsz I.sz
 noex:=fun b o e hb=>by
  rcases (hf b hb).2.2.2.1 with z | z
  ·exact I.ok.noex b o e z
  ·exact absurd (Nat.lt_of_lt_of_le (Nat.lt_of_lt_of_le (Heap.lt_size e) I.ok.bsz) z) (Nat.lt_irrefl _)
 exfs:=fun b hb hz=>by
  rcases List.mem_cons.mp (I.stkSub b hz) with z | z
  ·exact (hf b hb).2.1 z
  ·exact (hf b hb).2.2.1 z
 funs:=I.stack
 frf:=I.stkFree
theorem EC {h':Heap} {t':Nat} {m:Str→Option Value} {sel:List (Option Nat)} (I:Inv X pins σ H s) (S:uo X.env scope) (hf:∀ b ∈ fp,Gw X pins H b) (hs:∀ b ∈ fp,b < s.heap.objs.size) (hC:s.heap.objs.size ≤ C)
  (k:∀ b o,s.heap.get? b=some o→h'.get? b=some o) (hn:h'.Ns C m) (hsel:uB X.N scope N sel):Inv (X.block scope C N s H fp) [] (blk sel σ) H { s with heap:=h',toks:=t' } where
 ok:=Sy I S hf hs hC
 os:=rfl
 bare:=I.bare
 base:=Un.kept k
 loc:=by
  refine ⟨m,hn,fun i x v e1 e2 e3=>?_⟩;obtain ⟨m0,hn0,hl⟩:=I.loc;obtain ⟨j,ej,eσ⟩:∃ j,sel[i]? = some (some j)∧σ[j]? = some (some v):=by
   unfold blk at e2;rw [List.getElem?_map] at e2;cases q:sel[i]? with
   | none=>rw [q] at e2;cases e2
   | some o=>
    rw [q] at e2;cases o with
    | none=>cases e2
    | some j=>
     refine ⟨j,rfl,?_⟩;have e2':(σ[j]?).join=some v:=Option.some.inj e2;cases r:σ[j]? with
     | none=>rw [r] at e2';cases e2'
     | some z=>rw [r] at e2';exact congrArg some e2'
  obtain ⟨eN,hfr⟩:=hsel.2 i j x ej e1;have hm:=zn hfr;have hk:=S.fr _ hm rfl;have hv:Vis X.env.scope x:=hk.elim (fun z=>.inr (.inl z)) fun z=>.inr (.inr z)
  obtain ⟨u,r,l⟩:=hl j x v eN eσ hv;refine ⟨u,r,?_⟩;rcases l with ⟨hloc,_⟩ | ⟨_,c,hc,hcell⟩
  ·rcases hk with z | z <;> (have z':X.env.kindOf x=_:=z;rw [hloc] at z';cases z')
  ·refine .inr ⟨?_,c,fm _ _ hm hc,?_⟩
   ·exact Sl hfr
   ·obtain ⟨o,ho,hd⟩:=hcell;exact ⟨o,k _ _ ho,hd⟩
 cell:=fun x c e=>by
  obtain ⟨v,o,ho,hd⟩:=I.cell x c (vt e);exact ⟨v,o,k _ _ ho,hd⟩
 free:=I.hok.fresh hC
 freeC:=fun x c e=>I.freeC x c (vt e)
 pin:=fun p hp=>nomatch hp
 hok:=I.hok.kept k
 len:=by unfold blk;rw [List.length_map];exact hsel.1
theorem Inv.adopt {a:Addr} {o:HO} (I:Inv X pins σ H s) (fo:Gw X pins H a) (new:Zd X.prog X.w (upd H a o) s.heap a o):Inv X pins σ (upd H a o) s:=by
 obtain ⟨hn,hL,hfs,hex,hcl,hpn⟩:=fo;refine I.step (g':=s.gens) (d':=s.drawn) (t':=s.toks) (h':=s.heap) (ch:=[a]) (fun b hb=>?_) (fun b o _ _ _ e _=>e) (fun b o _ _ _ e _=>⟨o.slots,e⟩) (fun b o hb e n=>?_) (fun b o _ e=>⟨o,e⟩)
  (fun b xs e=>?_) (fun b o u e=>?_) (fun b ps e=>⟨#[],?_⟩) (fun m hm=>hm) (fun b u e=>?_) I.bare
 ·have e:b=a:=by simpa using hb
  subst e;exact ⟨hex,hL,hcl,hpn⟩
 ·rw [ub (fun z=>hb (by simp [z]))];exact n
 ·rw [ub (wb e hn)];exact e
 ·rw [ub (wb e hn)];exact e
 ·rw [ub (wb e hn),e];simp
 ·by_cases hb:b=a
  ·subst hb;rw [cb] at e;cases e;exact new
  ·rw [ub hb] at e;exact (I.hok b u e).stay (fun c v _ q=>q) (fun c q=>by rw [ub (wb q hn)];exact q) fun c xs q=>by rw [ub (wb q hn)];exact q
end
theorem Ik {prog:Program} {w:World} {A:Around} {R:Result→Shared→Prop} {s:Shared} {elt target iter:Expr} {ifs:List Expr} {scope:Scope} {pos:Pos} {it acc:Value} {env:Env} (I:Nat→Shared→Prop)
  (turn:∀ n s,I n s→wpAny (model prog w) A (pyNext it) (fun r s₁=>match r with
   | none=>R (.ok .next) s₁
   | some v=>wpAny (model prog w) A (letOwnedTupleGo target it v) (fun _ s₀=>wpAny (model prog w) A (assign target env v) (fun _ s₂=>
     wpAny (model prog w) A (forIn ifs true fun c r=>if r=true then do let ok ← isTrue c env (eval c env);pure (ForInStep.yield ok) else pure (ForInStep.yield r)) (fun ok s₃=>
      if ok=true then wpAny (model prog w) A (eval elt env) (fun x s₄=>
       wpAny (model prog w) A (call (.builtin "list.append") [acc,x]) (fun _ s₅=>∃ m,m < n∧I m s₅) (fun _ _=>False) s₄) (fun _ _=>False) s₃
      else ∃ m,m < n∧I m s₃) (fun _ _=>False) s₂) (fun _ _=>False) s₀) (fun _ _=>False) s₁) (fun _ _=>False) s)
  (n:Nat) (h:I n s) :
  codeAny (model prog w) A (.compLoop (.ListComp elt [⟨target,iter,ifs,0⟩] scope pos) 0 it acc env) R s:=by
 refine codeAny_loop rfl I (fun n s hI=>?_) n h;show wpAny _ A ((compTurn (.ListComp elt [⟨target,iter,ifs,0⟩] scope pos) 0 it acc env).onRaise (fun x=>do noteFrame x env;theTreesLotGoes x)) _ _ s;refine wpAny_noted (wpAny_noRaise ?_);rw [compTurn_list];refine wpAny_bind (wpAny_standAt (wpAny_bind (wpAny_mono (turn n s hI) (fun r s₁ h₁=>?_) fun _ _ h'=>h')));cases r with
 | none=>exact wpAny_pure h₁
 | some v=>
  refine wpAny_bind (wpAny_mono h₁ (fun _ s₀ h₀=>?_) fun _ _ h'=>h');refine wpAny_bind (wpAny_mono h₀ (fun _ s₂ h₂=>wpAny_bind (wpAny_mono h₂ (fun ok s₃ h₃=>?_) fun _ _ h'=>h')) fun _ _ h'=>h');cases ok with
  | false=>exact wpAny_pure ⟨rfl,h₃⟩
  | true=>
   exact wpAny_bind (wpAny_bind (wpAny_mono h₃ (fun x s₄ h₄=>wpAny_bind (wpAny_mono h₄ (fun _ s₅ h₅=>wpAny_pure (wpAny_pure ⟨rfl,h₅⟩)) fun _ _ h'=>h')) fun _ _ h'=>h'))
noncomputable def PTs (X:Cx) (ifs:List Expr) (t:TT):Prop:=
 ∀ (pins:List (Addr × Obj)) (s:Shared) (σ:St) (H:Hp) (Q:Bool→Hp→Prop),Inv X pins σ H s→t σ H Q →
  wpAny (model X.prog X.w) X.A (forIn ifs true fun c r=>if r=true then do let ok ← isTrue c X.env (eval c X.env);pure (ForInStep.yield ok) else pure (ForInStep.yield r)) (TP X pins σ Q) X.xe s
noncomputable def OA:TT:=fun _ H Q=>Q true H
theorem Qd {X:Cx}:PTs X [] OA:=fun _ _ _ H _ I h=>wpAny_tests_nil ⟨H,I,h⟩
theorem lv {X:Cx} {c:Expr} {t:TT} (h:PT X c t):PTs X [c] t:=fun pins s σ H Q I q=>wpAny_tests_one (h pins s σ H Q I q)
noncomputable def Sub (σ σ':St):Prop:=σ'.length=σ.length∧∀ (i:Nat) (v:V),σ[i]? = some (some v)→σ'[i]? = some (some v)
theorem Sub.refl (σ:St):Sub σ σ:=⟨rfl,fun _ _ h=>h⟩
theorem Sub.set {σ σ':St} {i:Nat} {x:Option V} (h:Sub σ σ') (e:σ[i]? = some none):Sub σ (σ'.set i x):=by
 refine ⟨by rw [List.length_set];exact h.1,fun j v q=>?_⟩;have hj:i ≠ j:=fun z=>by subst z;rw [e] at q;cases q
 rw [List.getElem?_set_ne hj];exact h.2 j v q
noncomputable def vA (J:It) (g:TG) (tc:TT) (te:TE) (σb:St) (Q:VK) (W:Nat→Nat→List V→Hp→Prop):Prop:=∀ i m ys H,W i m ys H →
 (J.stop i H∧∀ p,H p=none→Q (.ref p) (upd H p (.lst ys))) ∨
 (J.go i H∧ys.length < sizeLine∧∀ x H',J.yld i H x H'→g x σb H' fun σ2 H2=>Sub σb σ2∧tc σ2 H2 fun c H3=>if c=true then te σ2 H3 fun y H4=>∃ m',m' < m∧W (i + 1) m' (ys ++ [y]) H4 else ∃ m',m' < m∧W (i + 1) m' ys H3)
noncomputable def EI (wi:TI) (g:TG) (tc:TT) (te:TE) (sel:List (Option Nat)):TE:=fun σ H Q=>wi σ H fun J H1=>∃ W:Nat→Nat→List V→Hp→Prop,(∃ m,W 0 m [] H1)∧vA J g tc te (blk sel σ) Q W
section
variable {X:Cx} {elt tg iter:Expr} {ifs:List Expr} {scope:Scope} {pos:Pos} {wi:TI} {g:TG} {tc:TT} {te:TE} {N:List Str} {sel:List (Option Nat)}
structure Blk (X:Cx) (scope:Scope) (N:List Str) (tg elt:Expr) (ifs:List Expr) (g:TG) (tc:TT) (te:TE):Prop where
 tgt:∀ C s H fp,PG (X.block scope C N s H fp) tg g
 tests:∀ C s H fp,PTs (X.block scope C N s H fp) ifs tc
 elem:∀ C s H fp,PE (X.block scope C N s H fp) elt te
theorem Blk.of {X:Cx} {scope:Scope} {N:List Str} {tg elt:Expr} {ifs:List Expr} {g:TG} {tc:TT} {te:TE} (h1:∀ C s H fp,PG (X.block scope C N s H fp) tg g)
  (h2:∀ C s H fp,∃ t,PTs (X.block scope C N s H fp) ifs t∧t=tc) (h3:∀ C s H fp,∃ t,PE (X.block scope C N s H fp) elt t∧t=te):Blk X scope N tg elt ifs g tc te:=
 ⟨h1,fun C s H fp=>by obtain ⟨t,h,rfl⟩:=h2 C s H fp;exact h,fun C s H fp=>by obtain ⟨t,h,rfl⟩:=h3 C s H fp;exact h⟩
theorem dw {pins:List (Addr × Obj)} {s₂:Shared} {σ:St} {H₂:Hp} {Q:VK} {it:Addr} {fp:List Addr} {tn:Nat→Heap→Prop} {J:It} {W:Nat→Nat→List V→Hp→Prop} {E:Value→Shared→Prop} {RR:Value→Addr→Result→Shared→Prop}
  (hc:X.calm=true) (S:uo X.env scope) (hsel:uB X.N scope N sel) (B:Blk X scope N tg elt ifs g tc te) (I2:Inv X pins σ H₂ s₂) (T:MJ X.prog X.w X.K tg J fp it tn) (st2:tn 0 s₂.heap) (f2:∀ b ∈ fp,Gw X pins H₂ b)
  (w0:∃ m,W 0 m [] H₂) (hW:vA J g tc te (blk sel σ) Q W)
  (fin:∀ D C ys H' s',Inv X pins σ (upd H' D (.lst ys)) s'→(∃ m,s'.heap.Ns C m)→Gw X pins (upd H' D (.lst ys)) C→Q (.ref D) (upd H' D (.lst ys))→RR (.ref D) C (.ok .next) s') :
  wpAny (model X.prog X.w) X.A (newList []) (fun acc s₃=>wpAny (model X.prog X.w) X.A (newFunctionEnv scope X.env.globals (sv X.env.cells scope.names []) [] X.env.qual none .none (some X.env)) (fun cenv s₄=>
   codeAny (model X.prog X.w) X.A (.compStart (.ListComp elt [⟨tg,iter,ifs,0⟩] scope pos) 0 (.ref it) acc { cenv with scope:=relabel scope X.env }) (RR acc cenv.locals) s₄) E s₃) E s₂:=by
 refine wpAny_newObj_type (wpAny_newFunctionEnv S.nocell (by intro y hy;simp at hy) (fun h₁ hns₁ hsb₁=>?_) S.kind);dsimp only at hns₁ hsb₁ ⊢;generalize hH2:s₂.heap.push { cls:=.type "list",dict:=none,data:=.seq ([]:List Value).toArray }=H2 at hns₁ hsb₁ ⊢;have hC:H2.objs.size=s₂.heap.objs.size + 1:=by rw [← hH2,Heap.size_push]
 have hDC:s₂.heap.objs.size ≠ H2.objs.size:=by rw [hC];exact Nat.ne_of_lt (Nat.lt_succ_self _)
 have hCle:s₂.heap.objs.size ≤ H2.objs.size:=by rw [hC];exact Nat.le_succ _
 have below:∀ b,b < s₂.heap.objs.size→b ≠ H2.objs.size∧b ≠ s₂.heap.objs.size:=fun b hb=>⟨by rw [hC];exact Nat.ne_of_lt (Nat.lt_succ_of_lt hb),Nat.ne_of_lt hb⟩
 have old:∀ b o,s₂.heap.get? b=some o→h₁.get? b=some o:=fun b o e=>hsb₁.extBut b o (below b (Heap.lt_size e)).1 (Heap.get?_push_of_some _ (hH2 ▸ Heap.get?_push_of_some _ e))
 have hacc:h₁.get? s₂.heap.objs.size=some { cls:=.type "list",data:=.seq ([]:List Value).toArray }:=hsb₁.extBut _ _ hDC (Heap.get?_push_of_some _ (hH2 ▸ Heap.get?_push_size _ rfl));have fps:∀ b ∈ fp,b < s₂.heap.objs.size:=fun b hb=>by
  obtain ⟨o,e,_⟩:=T.obj _ _ st2 b hb;exact Heap.lt_size e
 generalize hCe:H2.objs.size=C at *;generalize hDe:s₂.heap.objs.size=D at *;have st1:tn 0 h₁:=T.keep _ _ _ st2 fun b _ o e=>old b o e
 have IB0:Inv (X.block scope C N s₂ H₂ fp) [] (blk sel σ) H₂ { s₂ with heap:=h₁,toks:=s₂.toks + ([]:List (Str × Value)).length }:=
  EC I2 S f2 (fun b hb=>by rw [hDe];exact fps b hb) (by rw [hDe];exact hCle) old hns₁ hsel
 have hDfs:D ∉ (X.block scope C N s₂ H₂ fp).fs:=fun z=>by
  have z':=I2.stkSub D z;rcases List.mem_cons.mp z' with e | e
  ·exact absurd I2.lt (by rw [← e,hDe];exact Nat.lt_irrefl _)
  ·exact I2.nofs (by rw [hDe];exact Nat.le_refl _) e
 have loop:∀ s₃:Shared,s₃ = { s₂ with heap:=h₁,toks:=s₂.toks + ([]:List (Str × Value)).length } →
   codeAny (model X.prog X.w) X.A (.compLoop (.ListComp elt [⟨tg,iter,ifs,0⟩] scope pos) 0 (.ref it) (.ref D) (compEnvC scope (sv X.env.cells scope.names []) C X.env)) (RR (.ref D) C) s₃:=by
  rintro s₃ rfl;obtain ⟨m0,w0⟩:=w0;refine Ik (fun k s'=>∃ i ys us n H',Inv (X.block scope C N s₂ H₂ fp) [(D,{ cls:=.type "list",data:=.seq us n })] (blk sel σ) H' s'∧(∃ vs:List Value,us=vs.toArray∧Ad ys vs)∧ys.length ≤ sizeLine∧tn i s'.heap∧(∀ b ∈ fp,H' b=none)∧W i k ys H') ?_ m0
   ⟨0,[],_,0,H₂,IB0.pins_of fun p hp=>?_,⟨[],rfl,.nil⟩,Nat.zero_le _,st1,fun b hb=>(f2 b hb).1,w0⟩
  ·rintro k s' ⟨i,ys,us,n,H',IB,⟨vs,rfl,rv⟩,hyz,st,fr,w⟩;have fpB:∀ {pl:List (Addr × Obj)} {H'':Hp},(∀ p ∈ pl,p.1=D)→(∀ b ∈ fp,H'' b=none)→∀ b ∈ fp,Gw (X.block scope C N s₂ H₂ fp) pl H'' b:=fun {pl H''} hp hn b hb=>
    ⟨hn b hb,(below b (fps b hb)).1,(Sy (N:=N) (C:=C) I2 S f2 (fun b hb=>by rw [hDe];exact fps b hb) (by rw [hDe];exact hCle)).exfs b hb,.inl hb,fun x c e=>(f2 b hb).2.2.2.2.1 x c (vt e),fun p hpp z=>by
     have hpp':p ∈ pl:=by simpa using hpp
     exact (below b (fps b hb)).2 (by rw [← z];exact hp p hpp')⟩
   have hD1:∀ p ∈ [((D,{ cls:=.type "list",data:=.seq vs.toArray n }):Addr × Obj)],p.1=D:=fun p hp=>by
    have e:p=(D,{ cls:=.type "list",data:=.seq vs.toArray n }):=by simpa using hp
    rw [e]
   rcases hW i k ys H' w with ⟨stop,qn⟩ | ⟨go,hlen,step⟩
   ·refine thn (T.done (X.block scope C N s₂ H₂ fp) rfl rfl rfl hc i _ s' _ H' _ IB (fpB hD1 fr) st stop) fun r s4 hZ1=>?_
    obtain ⟨hr,I4⟩:=hZ1;subst hr;have pD:=I4.pin (D,{ cls:=.type "list",data:=.seq vs.toArray n }) (by simp);have hDn:H' D=none:=pD.2.1;have IX:Inv X pins σ H' s4:=I2.call' (ch:=fp) I4.os I4.base I4.hok I4.bare fun b hb=>⟨(f2 b hb).2.2.2.1,(f2 b hb).2.1,(f2 b hb).2.2.2.2.1,(f2 b hb).2.2.2.2.2⟩
    have foD:Gw X pins H' D:=I2.fpOk (by rw [hDe];exact Nat.le_refl _) hDn;have IA:Inv X pins σ (upd H' D (.lst ys)) s4:=IX.adopt foD ⟨hyz,vs,n,rv,pD.1⟩;obtain ⟨mC,hnC,_⟩:=I4.loc;refine fin D C ys H' s4 IA ⟨mC,hnC⟩ (I2.fpOk (by rw [hDe];exact hCle) ?_) (qn D hDn);rw [ub (Ne.symm hDC)];exact I4.free
   ·refine thn (T.item (X.block scope C N s₂ H₂ fp) rfl rfl rfl hc i _ s' _ H' _ IB (fpB hD1 fr) st go) fun r s4 hZ1=>?_
    obtain ⟨u,hr,h4⟩:=hZ1;subst hr;refine thn h4 fun _ s5 hZ1=>?_
    obtain ⟨x,H5,I5,r5,y5,st5,fr5⟩:=hZ1;have I5':=I5.pinned (fpB hD1 fr5) (T.obj _ _ st5);refine thn (B.tgt C s₂ H₂ fp _ s5 _ H5 x u _ I5' r5 (step x H5 y5)) fun _ s6 hZ1=>?_
    obtain ⟨σ6,H6,I6,sb,q6⟩:=hZ1;refine thn (B.tests C s₂ H₂ fp _ s6 σ6 H6 _ I6 q6) fun c s7 hZ1=>?_
    obtain ⟨H7,I7,q7⟩:=hZ1;have again:∀ {σ8:St} {H8:Hp} {s8:Shared},Inv (X.block scope C N s₂ H₂ fp) ([(D,{ cls:=.type "list",data:=.seq vs.toArray n })] ++ Kv fp s5.heap) σ8 H8 s8→tn (i + 1) s8.heap∧(∀ b ∈ fp,H8 b=none):=fun {σ8 H8 s8} I8=>by
     refine ⟨T.keep _ _ _ st5 fun b hb o e=>(I8.pin (b,o) (List.mem_append_right _ (List.mem_append_right _ (zk hb e)))).1,fun b hb=>?_⟩;obtain ⟨o,e,d⟩:=T.obj _ _ st5 b hb;exact (I8.pin (b,o) (List.mem_append_right _ (List.mem_append_right _ (zk hb e)))).2.1
    have back:∀ {H8:Hp} {s8:Shared} {pl:List (Addr × Obj)},Inv (X.block scope C N s₂ H₂ fp) pl σ6 H8 s8→Inv (X.block scope C N s₂ H₂ fp) pl (blk sel σ) H8 s8:=fun {H8 s8 pl} I8=>I8.weak sb.1.symm sb.2
    cases c with
    | false=>
     obtain ⟨m',hm,w'⟩:=q7;obtain ⟨t1,t2⟩:=again I7;exact ⟨m',hm,i + 1,ys,_,n,H7,back I7.unpinned,⟨vs,rfl,rv⟩,hyz,t1,t2,w'⟩
    | true=>
     refine thn (B.elem C s₂ H₂ fp _ s7 σ6 H7 _ I7 q7) fun v s8 hZ1=>?_
     obtain ⟨y,H8,I8,r8,m',hm,w'⟩:=hZ1;obtain ⟨t1,t2⟩:=again I8;have pD:=I8.pin (D,{ cls:=.type "list",data:=.seq vs.toArray n }) (by simp);refine append_at (hsz:=by have:=rv.length;rw [List.size_toArray];omega) pD.1 fun h9 hs9 hD9=>?_
     have IB':Inv (X.block scope C N s₂ H₂ fp) [] (blk sel σ) H8 s8:=(back I8).pins_of fun p hp=>nomatch hp
     have foD:Gw (X.block scope C N s₂ H₂ fp) [] H8 D:=⟨pD.2.1,hDC,hDfs,.inr (by show s₂.heap.objs.size ≤ D;rw [hDe];exact Nat.le_refl _),(fun x c e z=>by
      obtain ⟨cv,o,ho,hd⟩:=I8.cell x c e;rw [z,pD.1] at ho;cases ho;cases hd),(fun p hp=>nomatch hp)⟩
     have I9:Inv (X.block scope C N s₂ H₂ fp) [] (blk sel σ) H8 { s8 with heap:=h9 }:=IB'.turned (t':=s8.toks) (it:=D) (fun b o hb e=>(hs9.2 b hb).trans e) foD.1 foD.2.1 foD.2.2.2.1 foD.2.2.2.2.1 foD.2.2.2.2.2;refine ⟨m',hm,i + 1,ys ++ [y],vs.toArray.push v,n + 1,H8,I9.pins_of fun p hp=>?_,⟨vs ++ [v],by simp,Paired.snoc rv r8⟩,by rw [List.length_append,List.length_singleton];omega,T.keep _ _ _ t1 fun b hb o e=>(hs9.2 b (below b (fps b hb)).2).trans e,t2,w'⟩;have e:p=(D,{ cls:=.type "list",data:=.seq (vs.toArray.push v) (n + 1) }):=by simpa using hp
     subst e;exact ⟨hD9,pD.2.1,hDC,hDfs,fun v z=>by cases z⟩
  ·have e:p=(D,{ cls:=.type "list",data:=.seq ([]:List Value).toArray }):=by simpa using hp
   subst e;exact ⟨hacc,I2.hok.fresh (by rw [hDe];exact Nat.le_refl _),hDC,hDfs,fun v z=>by cases z⟩
 exact codeAny_compStart_list (loop _ rfl) (T.self _ 0 _ _ _ st1 (loop _ rfl))
theorem ve (hc:X.calm=true) (hi:PI X tg iter wi) (S:uo X.env scope) (hsel:uB X.N scope N sel) (B:Blk X scope N tg elt ifs g tc te)
  (hs:∀ x,foldedSetIterable iter X.env x=pure x:=by intro _;rfl):PE X (.ListComp elt [⟨tg,iter,ifs,0⟩] scope pos) (EI wi g tc te sel):=by
 intro pins s σ H Q I h;rw [eval_ListComp];refine wpAny_comprehension_free (use:=none) rfl hs (XC (S.cells I.ok)) S.kind S.loc ?_;refine thn (hi pins s σ H _ I h) fun v s1 h1=>thn h1 fun itv s2 h2=>?_
 obtain ⟨it,fp,tn,J,H2,e,I2,T,st2,f2,W,w0,hW⟩:=h2;subst e;refine dw (RR:=fun acc C=>compPost (model X.prog X.w) X.A X.xe none (EP X pins σ Q) acc C) hc S hsel B I2 T st2 f2 w0 hW fun D C ys H' s' I' ⟨m,hm⟩ fo q=>?_
 exact ⟨m,hm,fun h' hsb=>⟨.ref D,_,I'.turned (t':=s'.toks) (it:=C) (fun b o hb e=>(hsb.2 b hb).trans e) fo.1 fo.2.1 fo.2.2.2.1 fo.2.2.2.2.1 fo.2.2.2.2.2,rfl,q⟩⟩
theorem bg {i:Nat} {y:Str} {py spos:Pos} (hN:X.N.Nodup) (hi:X.N[i]? = some y) (hx:Loc X.env.scope y) (hc:X.calm=true) (hit:PI X tg iter wi) (S:uo X.env scope) (hsel:uB X.N scope N sel) (B:Blk X scope N tg elt ifs g tc te)
  (hsw:swapsWith (.ListComp elt [⟨tg,iter,ifs,0⟩] scope pos) (some (.Name y py)) spos.line X.env=pure true) (hf:X.fn y=true∨X.env.scope.names.lookup y=some .local:=by first | exact .inl rfl | exact .inr rfl | assumption)
  (hs:∀ x,foldedSetIterable iter X.env x=pure x:=by intro _;rfl):PS X (.Assign [.Name y py] (.ListComp elt [⟨tg,iter,ifs,0⟩] scope pos) spos) (oM (EI wi g tc te sel) (Nw i)):=by
 intro pins s σ H D I h;rw [exec_Assign_Name_used _ _ _ _ hsw];refine wpAny_bind (wpAny_standAt (wpAny_bind ?_));show wpAny _ X.A (do let _ ← comprehension (.ListComp elt [⟨tg,iter,ifs,0⟩] scope pos) scope X.env _ (newList []) false (eval iter X.env) (some (assign (.Name y py) X.env))) _ _ s;refine wpAny_bind (wpAny_mono (wpAny_comprehension_free (use:=some (assign (.Name y py) X.env)) (Q:=fun _ s'=>SP X pins D .next s') rfl hs (XC (S.cells I.ok)) S.kind S.loc ?_) (fun _ s' hq=>wpAny_pure (wpAny_pure hq)) fun _ _ e=>e);refine thn (hit pins s σ H _ I h) fun v s1 h1=>thn h1 fun itv s2 h2=>?_
 obtain ⟨it,fp,tn,J,H2,e,I2,T,st2,f2,W,w0,hW⟩:=h2;subst e;refine dw (RR:=fun acc C=>compPost (model X.prog X.w) X.A X.xe (some (assign (.Name y py) X.env)) (fun _ s'=>SP X pins D .next s') acc C) hc S hsel B I2 T st2 f2 w0 hW fun Da C ys H' s' I' ⟨m,hm⟩ fo q=>?_
 show wpAny _ X.A (assign (.Name y py) X.env (.ref Da)) _ _ _;refine wpAny_assign_Name (Bv I' hN hi hx (show Dd (.ref Da) (.ref Da) from rfl) (fun s3 I3 hZ1=>?_) hf);obtain ⟨a,hsb,ha⟩:=hZ1;have hCa:C ≠ a:=by
  rcases ha with z | z
  ·rw [z];exact fo.2.1
  ·exact fun w=>fo.2.2.2.2.1 y a z w.symm
 refine ⟨m,hm.sameBut hsb hCa,fun h' hsb'=>⟨_,_,I3.turned (t':=s3.toks) (it:=C) (fun b o hb e=>(hsb'.2 b hb).trans e) fo.1 fo.2.1 fo.2.2.2.1 fo.2.2.2.2.1 fo.2.2.2.2.2,q⟩⟩
end
noncomputable def Jh (Pv:Nat→List V→Hp→Prop) (g:TG) (tc:TT) (te:TE) (σb:St) (i:Nat) (x:V) (ys:List V) (H:Hp):Prop:=
 ∀ N:List V→Hp→Prop,(∀ ys' H',Pv (i + 1) ys' H'→N ys' H')→g x σb H fun σ2 H2=>Sub σb σ2∧tc σ2 H2 fun c H3=>if c=true then te σ2 H3 fun y H4=>N (ys ++ [y]) H4 else N ys H3
theorem qC {K:PySem.W.Frag} {a:Addr} {xs:List V} {g:TG} {tc:TT} {te:TE} {σb:St} {Q:VK} {H:Hp} (Pv:Nat→List V→Hp→Prop) (hz:xs.length ≤ sizeLine) (h0:Pv 0 [] H) (hl:∀ i ys H,i ≤ xs.length→Pv i ys H→SqL K H a xs∧ys.length ≤ i)
  (hs:∀ i x ys H,xs[i]? = some x→Pv i ys H→Jh Pv g tc te σb i x ys H) (hd:∀ ys H,Pv xs.length ys H→∀ p,H p=none→Q (.ref p) (upd H p (.lst ys))) :
  ∃ W:Nat→Nat→List V→Hp→Prop,(∃ m,W 0 m [] H)∧vA (Itl K a) g tc te σb Q W:=by
 refine ⟨fun i m ys H=>m=xs.length - i∧i ≤ xs.length∧Pv i ys H,⟨xs.length,by simp,Nat.zero_le _,h0⟩,?_⟩;rintro i m ys H ⟨rfl,hi,p⟩;have q:=(hl i ys H hi p).1;have hyl:=(hl i ys H hi p).2;by_cases hlt:i < xs.length
 ·refine .inr ⟨⟨xs,xs[i],q,by simp [hlt]⟩,by omega,fun x H' y=>?_⟩;obtain ⟨e,y⟩:=y;subst e;exact hs i x ys _ (y xs q) p (fun ys' H'=>∃ m',m' < xs.length - i∧m'=xs.length - (i + 1)∧i + 1 ≤ xs.length∧Pv (i + 1) ys' H') fun ys' H' r=>⟨xs.length - (i + 1),by omega,rfl,hlt,r⟩
 ·have e:i=xs.length:=by omega
  subst e;exact .inl ⟨⟨xs,q,Nat.le_refl _⟩,hd ys H p⟩
theorem cB {lo:Int} {n:Nat} {g:TG} {tc:TT} {te:TE} {σb:St} {Q:VK} {H:Hp} (Pv:Nat→List V→Hp→Prop) (hz:n ≤ sizeLine) (h0:Pv 0 [] H) (hl:∀ i ys H,i ≤ n→Pv i ys H→ys.length ≤ i)
  (hs:∀ i ys H,i < n→Pv i ys H→Jh Pv g tc te σb i (.int (lo + i)) ys H) (hd:∀ ys H,Pv n ys H→∀ p,H p=none→Q (.ref p) (upd H p (.lst ys))) :
  ∃ W:Nat→Nat→List V→Hp→Prop,(∃ m,W 0 m [] H)∧vA (Itr lo n) g tc te σb Q W:=by
 refine ⟨fun i m ys H=>m=n - i∧i ≤ n∧Pv i ys H,⟨n,by simp,Nat.zero_le _,h0⟩,?_⟩;rintro i m ys H ⟨rfl,hi,p⟩;have hyl:=hl i ys H hi p;by_cases hlt:i < n
 ·refine .inr ⟨hlt,by omega,fun x H' y=>?_⟩;obtain ⟨e,y⟩:=y;subst e y;exact hs i ys _ hlt p (fun ys' H'=>∃ m',m' < n - i∧m'=n - (i + 1)∧i + 1 ≤ n∧Pv (i + 1) ys' H') fun ys' H' r=>⟨n - (i + 1),by omega,rfl,hlt,r⟩
 ·have e:i=n:=by omega
  subst e;exact .inl ⟨Nat.le_refl _,hd ys H p⟩
end L2
namespace L2
open PySem PySem.Spec PyProof.Rows
noncomputable def Its (xs:List V):It:=⟨fun i _=>i < xs.length,fun i H x H'=>H'=H∧xs[i]? = some x,fun i _=>xs.length ≤ i⟩
theorem Ts {P:Program} {w:World} {K:PySem.W.Frag} {tg:Expr} {it:Addr} {xs:List V} {PV:Nat→Value→Prop} {St:Nat→Heap→Prop} (hW:∀ A:Around,A.handled=none→Walks P w A it [it] [it] xs.length PV St)
  (hP:∀ i v,PV i v→∃ x,xs[i]? = some x∧Dd x v)
  (hgo:∀ i h,St i h→∃ o n vs,h.get? it=some o∧o.cls=.type n∧o.data=.fields vs∧["enumerate","zip","dict_itemiterator","dict_reverseitemiterator","odict_iterator","itertools.zip_longest","itertools.pairwise"].contains n=false)
  (hfr:∀ i h h',St i h→(∀ o,h.get? it=some o→h'.get? it=some o)→St i h')
  (hself:∀ (A:Around) (i:Nat) (s:Shared) (Q:Value→Shared→Prop) (E:Value→Shared→Prop),St i s.heap→Q (.ref it) s→wpAny (model P w) A (pyIter (.ref it)) Q E s) :
  MJ P w K tg (Its xs) [it] it (fun i h=>i ≤ xs.length∧St i h) where
 mem:=by simp
 obj:=fun i h st b hb=>by
  have e:b=it:=by simpa using hb
  subst e;obtain ⟨o,n,vs,e,_,d,_⟩:=hgo i h st.2;exact ⟨o,e,fun v z=>by rw [d] at z;cases z⟩
 keep:=fun i h h' st k=>⟨st.1,hfr i h h' st.2 fun o e=>k it (by simp) o e⟩
 item:=by
  intro X hP' hw hK hc i pins s σ H E I hf st hg;subst hP' hw hK;obtain ⟨f0,f1,f2,f3,f4,f5⟩:=hf it (by simp);refine (hW X.A (I.ok.hd hc)).item i s _ _ hg st.2 fun v h' tk hv st' kk=>?_
  obtain ⟨x,hx,rx⟩:=hP i v hv;have I1:Inv X pins σ H { s with heap:=h',toks:=tk }:=I.turned (fun b o hb e=>kk b o (by simpa using hb) e) f0 f1 f3 f4 f5;obtain ⟨o,n,vs,e,c,d,nm⟩:=hgo _ _ st';exact ⟨v,rfl,CF (s:={ s with heap:=h',toks:=tk }) e c d nm ⟨x,H,I1,rx,⟨rfl,hx⟩,⟨hg,st'⟩,fun b hb=>(hf b hb).1⟩⟩
 done:=by
  intro X hP' hw hK hc i pins s σ H E I hf st hg;subst hP' hw hK;obtain ⟨f0,f1,f2,f3,f4,f5⟩:=hf it (by simp);have e:i=xs.length:=Nat.le_antisymm st.1 hg;subst e;exact (hW X.A (I.ok.hd hc)).done s _ _ st.2 fun h' tk kk=>⟨rfl,I.turned (fun b o hb e=>kk b o (by simpa using hb) e) f0 f1 f3 f4 f5⟩
 self:=fun A i s Q E st h=>hself A i s Q E st.2 h
noncomputable def Av (c:Nat):Str:=⟨#[c]⟩
noncomputable def sj (x:Str):List V:=x.cps.toList.map fun c=>V.str (Av c)
theorem Em (x:Str):(sj x).length=x.cps.size:=by unfold sj;simp
theorem VD {x:Str} {i c:Nat} (h:x.cps[i]? = some c):(sj x)[i]? = some (.str (Av c)):=by
 unfold sj;rw [List.getElem?_map,Array.getElem?_toList,h];rfl
theorem ft {x:Str} {i:Nat} {v:Value} (h:SignAt x i v):∃ y,(sj x)[i]? = some y∧Dd y v:=by
 obtain ⟨c,u,hc,rfl⟩:=h;exact ⟨.str (Av c),VD hc,u,rfl⟩
section
variable {X:Cx} {tg:Expr}
noncomputable def wN (tl:TE):TI:=fun σ H R=>tl σ H fun x H1=>∃ z,x=.str z∧R (Its (sj z)) H1
theorem vL {l:Expr} {tl:TE} (hl:PE X l tl):PI X tg l (wN tl):=by
 intro pins s σ H R I h;refine thn (hl pins s σ H _ I h) fun v s1 hZ1=>?_
 obtain ⟨x,H1,I1,r1,q1⟩:=hZ1;obtain ⟨z,e,q⟩:=q1;subst e;obtain ⟨t,rfl⟩:=r1;have fo:∀ b ∈ [s1.heap.objs.size],Gw X pins H1 b:=fun b hb=>by
  have e:b=s1.heap.objs.size:=by simpa using hb
  subst e;exact I1.fpOk (Nat.le_refl _) (I1.hok.fresh (Nat.le_refl _))
 have hz:=Em z;cases ha:z.cps.all (· < 128) with
 | false=>
  refine wpAny_pyIter_wide ha ⟨s1.heap.objs.size,[s1.heap.objs.size],fun i h=>i ≤ (sj z).length∧h.IsStrIter s1.heap.objs.size "str_iterator" z t i,_,H1,rfl,I1.kept (t':=s1.toks) fun b o e=>Heap.get?_push_of_some _ e,
   Ts (fun A hA=>by rw [hz];exact Walks.strWide hA _ z t) (fun i v=>ft) (fun i h ⟨o,e,c,d⟩=>⟨o,_,_,e,c,d,by decide⟩) (fun i h h' ⟨o,e,r⟩ k=>⟨o,k o e,r⟩) (fun A i s Q E st q=>wpAny_pyIter_striter_wide st q),
   ⟨Nat.zero_le _,_,Heap.get?_push_size _ rfl,rfl,rfl⟩,fo,q⟩
 | true=>
  refine wpAny_pyIter_ascii ha ⟨s1.heap.objs.size,[s1.heap.objs.size],fun i h=>i ≤ (sj z).length∧h.IsStrIter s1.heap.objs.size "str_ascii_iterator" z t i,_,H1,rfl,I1.kept (t':=s1.toks) fun b o e=>Heap.get?_push_of_some _ e,
   Ts (fun A hA=>by rw [hz];exact Walks.strAscii hA _ z t) (fun i v=>ft) (fun i h ⟨o,e,c,d⟩=>⟨o,_,_,e,c,d,by decide⟩) (fun i h h' ⟨o,e,r⟩ k=>⟨o,k o e,r⟩) (fun A i s Q E st q=>wpAny_pyIter_striter_ascii st q),
   ⟨Nat.zero_le _,_,Heap.get?_push_size _ rfl,rfl,rfl⟩,fo,q⟩
end
theorem uJ {xs:List V} {g:TG} {tb:TS} {D:Cj} {σ:St} {H:Hp} (Pv:Nat→St→Hp→Prop) (h0:Pv 0 σ H)
  (hs:∀ i x σ H,xs[i]? = some x→Pv i σ H→g x σ H fun σ2 H2=>tb { D with nx:=Pv (i + 1),ct:=Pv (i + 1),bk:=D.nx } σ2 H2) (hd:∀ σ H,Pv xs.length σ H→D.nx σ H) :
  ∃ W:Nat→Nat→St→Hp→Prop,(∃ m,W 0 m σ H)∧∀ i m σ H,W i m σ H →
   ((Its xs).stop i H∧D.nx σ H)∨((Its xs).go i H∧∃ N:St→Hp→Prop,(∀ σ' H',N σ' H'→∃ m',m' < m∧W (i + 1) m' σ' H')∧∀ x H',(Its xs).yld i H x H'→g x σ H' fun σ2 H2=>tb { D with nx:=N,ct:=N,bk:=D.nx } σ2 H2):=by
 refine ⟨fun i m σ H=>m=xs.length - i∧i ≤ xs.length∧Pv i σ H,⟨xs.length,by simp,Nat.zero_le _,h0⟩,?_⟩;rintro i m σ H ⟨rfl,hi,p⟩;by_cases hlt:i < xs.length
 ·refine .inr ⟨hlt,Pv (i + 1),fun σ' H' p'=>⟨xs.length - (i + 1),by omega,rfl,hlt,p'⟩,fun x H' y=>?_⟩;obtain ⟨e,y⟩:=y;subst e;exact hs i x σ _ y p
 ·have e:i=xs.length:=by omega
  subst e;exact .inl ⟨Nat.le_refl _,hd σ H p⟩
theorem nG {xs:List V} {g:TG} {tc:TT} {te:TE} {σb:St} {Q:VK} {H:Hp} (Pv:Nat→List V→Hp→Prop) (hz:xs.length ≤ sizeLine) (h0:Pv 0 [] H) (hl:∀ i ys H,i ≤ xs.length→Pv i ys H→ys.length ≤ i)
  (hs:∀ i x ys H,xs[i]? = some x→Pv i ys H→Jh Pv g tc te σb i x ys H) (hd:∀ ys H,Pv xs.length ys H→∀ p,H p=none→Q (.ref p) (upd H p (.lst ys))) :
  ∃ W:Nat→Nat→List V→Hp→Prop,(∃ m,W 0 m [] H)∧vA (Its xs) g tc te σb Q W:=by
 refine ⟨fun i m ys H=>m=xs.length - i∧i ≤ xs.length∧Pv i ys H,⟨xs.length,by simp,Nat.zero_le _,h0⟩,?_⟩;rintro i m ys H ⟨rfl,hi,p⟩;have hyl:=hl i ys H hi p;by_cases hlt:i < xs.length
 ·refine .inr ⟨hlt,by omega,fun x H' y=>?_⟩;obtain ⟨e,y⟩:=y;subst e;exact hs i x ys _ y p (fun ys' H'=>∃ m',m' < xs.length - i∧m'=xs.length - (i + 1)∧i + 1 ≤ xs.length∧Pv (i + 1) ys' H') fun ys' H' r=>⟨xs.length - (i + 1),by omega,rfl,hlt,r⟩
 ·have e:i=xs.length:=by omega
  subst e;exact .inl ⟨Nat.le_refl _,hd ys H p⟩
section
variable {X:Cx}
noncomputable def MN:V→Option Int→Option Int→Hp→VK→Prop:=fun x lo hi H Q=>∃ z,x=.str z∧z.length ≤ sizeLine∧Q (.str (Txt.slice z lo hi)) H
theorem yC:SlR X MN:=by
 intro pins s σ H x v vl vu lo hi sl Q I rx hs pl pu h;obtain ⟨z,rfl,hz,q⟩:=h;obtain ⟨t,rfl⟩:=rx;refine ⟨"str",_,F.slot_str_getitem.lookup,typeIs_str s z t,?_⟩;have fin:∀ t' k,EP X pins σ Q (.str (Txt.slice z lo hi) t') { s with toks:=k }:=fun t' k=>⟨.str _,H,I.tok _,⟨_,rfl⟩,q⟩
 cases pl with
 | none=>
  cases pu with
  | none=>exact wpAny_getItem_str_slice (l:=none) (u:=none) (st:=none) hs rfl (post_val_or_str ⟨Nat.le_trans (Txt.slice_le z _ _) hz,fin⟩)
  | int j uj=>exact wpAny_getItem_str_slice (l:=none) (u:=some (j,uj)) (st:=none) hs rfl (post_val_or_str ⟨Nat.le_trans (Txt.slice_le z _ _) hz,fin⟩)
 | int i ui=>
  cases pu with
  | none=>exact wpAny_getItem_str_slice (l:=some (i,ui)) (u:=none) (st:=none) hs rfl (post_val_or_str ⟨Nat.le_trans (Txt.slice_le z _ _) hz,fin⟩)
  | int j uj=>exact wpAny_getItem_str_slice (l:=some (i,ui)) (u:=some (j,uj)) (st:=none) hs rfl (post_val_or_str ⟨Nat.le_trans (Txt.slice_le z _ _) hz,fin⟩)
noncomputable def Kb (ys:List Str):List V:=ys.map V.str
theorem bA:∀ {ys:List Str} {us:List Value},Ad (Kb ys) us→StrsAre us ys:=by
 intro ys
 induction ys with
 | nil=>intro us r;cases r;exact .nil
 | cons y ys ih=>
  intro us r;cases r with
  | cons r1 r2=>
   obtain ⟨t,rfl⟩:=r1;exact .cons y t (ih r2)
theorem Jv:∀ (l:List (Str × Tok)),Ad (Kb (l.map (·.1))) (strValues l)
 | []=>.nil
 | (x,t) :: r=>.cons ⟨t,rfl⟩ (Jv r)
noncomputable def sL (K:PySem.W.Frag):V→List V→Hp→VK→Prop:=fun x vs H Q=>∃ sep p ys,x=.str sep∧vs=[.ref p]∧SqL K H p (Kb ys)∧(ys.map (·.length)).sum + ys.length * sep.length ≤ 16777216∧Q (.str (Txt.join sep ys)) H
theorem Mp:MtR X "str.join" (sL X.K):=by
 intro pins s σ H x xs v us Q I rx rv h;obtain ⟨sep,p,ys,rfl,rfl,hq,hz,q⟩:=h;obtain ⟨t,rfl⟩:=rx;obtain ⟨u,rfl,ru⟩:=Xn rv;cases ru;obtain ⟨its,r,pl,_⟩:=I.list hq;exact join_list pl.isList (by simpa using bA r) hz fun t' k=>⟨.str _,H,I.tok _,⟨_,rfl⟩,q⟩
end
theorem jA {prog:Program} {w:World} {A:Around} {E:Value→Shared→Prop} {s:Shared} {x y:Str} {t u:Tok} {Q:Value→Shared→Prop} (hy:(y.length == 0)=false)
  (h:∀ l k,l.map (·.1)=Txt.split x y→Q (.ref s.heap.objs.size) { s with heap:=s.heap.push { cls:=.type "list",data:=.seq (strValues l).toArray },toks:=k }) (hsz:x.length + 2 ≤ sizeLine) :
  wpAny (model prog w) A (call (.builtin "str.split") [.str x t,.str y u]) Q E s:=by
 have hn:(Builtin.Str.partsBetween x (Builtin.Str.occurrences x y 0 x.length (x.length + 1)) y.length).length ≤ sizeLine:=by
  have e1:=StrLaws.occ_length_le x y 0 x.length (x.length + 1);rw [length_partsBetween];omega
 cases h1:(decide (x.length < y.length) || decide (Builtin.Str.strKind x < Builtin.Str.strKind y))
 ·cases hf:(Builtin.Str.occurrences x y 0 x.length (x.length + 1)).isEmpty
  ·refine call_meets F.slot_str_split (typeIs_str _ _ _) F.entry_str_split (F.args_str_split_2 _ _) (meets_str_split_sep x y t u h1 hy hf (by omega) hn) ?_;show wants Q E _ { s with toks:=_,heap:=s.heap.push { cls:=.type "list",data:=.seq (strsFrom s.toks (Builtin.Str.partsBetween x (Builtin.Str.occurrences x y 0 x.length (x.length + 1)) y.length)).toArray } };rw [strsFrom_eq];exact h (numbered s.toks _) _ ((numbered_texts _ _).trans ((if_neg (ne_true_of_eq_false h1)).trans (if_neg (ne_true_of_eq_false hf))).symm)
  ·exact call_meets F.slot_str_split (typeIs_str _ _ _) F.entry_str_split (F.args_str_split_2 _ _) (meets_str_split_not_found x y t u h1 hy hf)
    (h [(x,t)] s.toks ((if_neg (ne_true_of_eq_false h1)).trans (if_pos hf)).symm)
 ·exact call_meets F.slot_str_split (typeIs_str _ _ _) F.entry_str_split (F.args_str_split_2 _ _) (meets_str_split_cannot_occur x y t u h1)
   (h [(x,t)] s.toks (if_pos h1).symm)
section
variable {X:Cx}
noncomputable def dH:V→List V→Hp→VK→Prop:=fun x vs H Q=>∃ z y,x=.str z∧vs=[.str y]∧y.length ≠ 0∧z.length + 2 ≤ sizeLine∧(Txt.split z y).length ≤ sizeLine∧∀ p,H p=none→Q (.ref p) (upd H p (.lst (Kb (Txt.split z y))))
theorem Qy:MtR X "str.split" dH:=by
 intro pins s σ H x xs v us Q I rx rv h;obtain ⟨z,y,rfl,rfl,hy,hz,hn,q⟩:=h;obtain ⟨t,rfl⟩:=rx;obtain ⟨u,rfl,ru⟩:=Xn rv;obtain ⟨tu,rfl⟩:=ru;refine jA (by simpa using hy) (fun l k hl=>?_) hz;refine ⟨.ref s.heap.objs.size,_,I.laid (t':=k) (o:=.lst (Kb (Txt.split z y))) (fun b o e=>Heap.get?_push_of_some _ e) (Nat.le_refl _) ⟨by unfold Kb;rw [List.length_map];exact hn,strValues l,0,by rw [← hl];exact Jv l,Heap.get?_push_size _ rfl⟩,rfl,q _ (I.hok.fresh (Nat.le_refl _))⟩
theorem CC:bj X (.type "int") (fun xs H Q=>∃ z n,xs=[.str z]∧intText? z=some n∧z.length ≤ 640∧Q (.int n) H):=by
 intro pins s σ H xs us Q I r h;obtain ⟨z,n,rfl,hn,hz,q⟩:=h;obtain ⟨u,rfl,t,rfl⟩:=Xn r;exact PySem.W.KIN.call_text hn hz ⟨.int n,H,I.tok _,⟨_,rfl⟩,q⟩
theorem Rw:∀ {bs:List Bool} {us:List Value},Ad (bs.map V.bl) us→us=bs.map Value.bool
 | [],_,.nil=>rfl
 | b :: bs,_,.cons r t=>by
  have e:_=Value.bool b:=r;rw [e,Rw t];rfl
theorem Rx {A:Around} (bs:List Bool):TruthOf X.prog X.w A (fun i v=>(bs.map Value.bool).toArray[i]? = some v) (fun i=>bs.getD i true):=by
 intro i v s Q E hP hQ;have e:(bs.map Value.bool)[i]? = some v:=by simpa using hP
 rw [List.getElem?_map] at e;cases q:bs[i]? with
 | none=>rw [q] at e;cases e
 | some b=>
  rw [q] at e;have e':Value.bool b=v:=Option.some.inj e;subst e';refine wpAny_truthy_bool ?_;have:bs.getD i true=b:=by simp [List.getD,q]
  have hQ':Q (bs.getD i true) s:=hQ;rw [this] at hQ';exact hQ'
theorem fE (bs:List Bool):(List.range bs.length).all (fun i=>bs.getD i true)=bs.all id:=by
 rw [Bool.eq_iff_iff];simp only [List.all_eq_true,List.mem_range,id];constructor
 ·intro h b hb;obtain ⟨i,hi,e⟩:=List.mem_iff_getElem.mp hb;have:=h i hi;simp [List.getD,hi,e] at this;exact this
 ·intro h i hi;simp [List.getD,hi];exact h _ (List.getElem_mem hi)
theorem Eu (hc:X.calm=true):bj X (.builtin "all") (fun xs H Q=>∃ (p:Addr) (bs:List Bool),xs=[.ref p]∧SqL X.K H p (bs.map V.bl)∧Q (.bl (bs.all id)) H):=by
 intro pins s σ H xs us Q I r h;obtain ⟨p,bs,rfl,hq,q⟩:=h;obtain ⟨u,rfl,ru⟩:=Xn r;cases ru;obtain ⟨its,rv,pl,_⟩:=I.list hq;have e:=Rw rv;subst e;refine call_all_walk (wpAny_pyIter_list pl.isList ?_);have hne:p ≠ s.heap.objs.size:=Nat.ne_of_lt (by obtain ⟨o,_,ho,_⟩:=pl;exact Heap.lt_size ho);refine ⟨s.heap.objs.size,_,_,_,_,_,fun i=>bs.getD i true,rfl,Walks.list (show X.A.in1.handled=none from I.ok.hd hc) _ p hne (bs.map Value.bool).toArray,⟨⟨_,Heap.get?_push_size _ rfl,rfl,rfl⟩,pl.isList.at fun o e=>Heap.get?_push_of_some _ e⟩,Rx bs,fun h' tk kk=>?_⟩;refine ⟨.bl (bs.all id),H,I.kept fun b o e=>kk b o (by simpa using Nat.ne_of_lt (Heap.lt_size e)) (Heap.get?_push_of_some _ e),?_,q⟩;show Value.bool _=Value.bool _;rw [show (bs.map Value.bool).toArray.size=bs.length by simp,fE]
theorem vk:bj X (.builtin "isinstance") (fun xs H Q=>∃ x T t b,xs=[x,.ty T]∧Rz X.K H x t∧PySem.W.kitOne X.K t (.type T)=some b∧Q (.bl b) H):=by
 intro pins s σ H xs us Q I r h;obtain ⟨x,T,t,b,rfl,ty,e,q⟩:=h;obtain ⟨u,u2,rfl,rx,r2⟩:=yI r;cases r2;exact AC I rx ty e fun tk=>⟨.bl b,H,I.tok _,rfl,q⟩
end
end L2
namespace L2
open PySem PySem.Spec PyProof.Rows
theorem Xe {X:Cx} {N:List Str} (h:N.Nodup) (e:X.N=N):X.N.Nodup:=e ▸ h
noncomputable def kC (sc scope:Scope):Bool:=
 (scope.kind == .function) && scope.names.all (fun y=>y.2 != .cell) && scope.names.all (fun y=>y.2 != .free || sc.names.lookup y.1 == some .cell || sc.names.lookup y.1 == some .free) &&
  scope.names.all (fun y=>y.2 != .local || scope.names.lookup y.1 == some .local)
theorem jc {env:Env} {sc scope:Scope} (he:env.scope=sc) (h:kC sc scope=true):uo env scope:=by
 subst he;unfold kC at h;simp only [Bool.and_eq_true,List.all_eq_true] at h;obtain ⟨⟨⟨h1,h2⟩,h3⟩,h4⟩:=h;refine ⟨by simpa using h1,fun y hy e=>?_,fun y hy e=>?_,fun y hy e=>?_⟩
 ·have:=h2 y hy;rw [e] at this;exact absurd this (by decide)
 ·have:=h3 y hy;rw [e] at this;simp only [Bool.or_eq_true] at this;rcases this with (z | z) | z
  ·exact absurd z (by decide)
  ·exact .inl (show env.scope.names.lookup y.1=some .cell by simpa using z)
  ·exact .inr (show env.scope.names.lookup y.1=some .free by simpa using z)
 ·have:=h4 y hy;rw [e] at this;simp only [Bool.or_eq_true] at this;rcases this with z | z
  ·exact absurd z (by decide)
  ·simpa using z
noncomputable def oN (M:List Str) (scope:Scope) (N:List Str) (sel:List (Option Nat)):Bool:=
 sel.length == N.length && (sel.zip N).all fun p=>match p.1 with | none=>true | some j=>M[j]? == some p.2 && scope.names.lookup p.2 == some .free
theorem Gc {M:List Str} {scope:Scope} {N:List Str} {sel:List (Option Nat)} (h:oN M scope N sel=true):uB M scope N sel:=by
 unfold oN at h;simp only [Bool.and_eq_true,List.all_eq_true] at h;refine ⟨by simpa using h.1,fun i j x e1 e2=>?_⟩;have hm:(some j,x) ∈ sel.zip N:=by
  rw [List.mem_iff_getElem?];exact ⟨i,by rw [List.getElem?_zip_eq_some];exact ⟨e1,e2⟩⟩
 have:=h.2 _ hm;simp only [Bool.and_eq_true] at this;exact ⟨by simpa using this.1,by simpa using this.2⟩
noncomputable def noT:HO→Bool
 | .dT _=>false
 | .frz _ u=>noT u
 | _=>true
noncomputable def NoT (H:Hp):Prop:=∀ b o,H b=some o→noT o=true
theorem Zd.back {P:Program} {w:World} {H H':Hp} {h h':Heap} {a:Addr}:∀ (o:HO),noT o=true→Zd P w H' h' a o→Zd P w H h a o→Zd P w H h' a o
 | .lst _,_,x,_=>x
 | .tup _,_,x,_=>x
 | .dK _,_,x,_=>x
 | .dT _,e,_,_=>absurd e (by unfold noT;decide)
 | .set _ _,_,x,_=>x
 | .ins _ _ _,_,x,y=>⟨y.1,x.2⟩
 | .own _,_,x,_=>x
 | .xd _,_,x,_=>x
 | .met _ _,_,x,_=>x
 | .rng _ _,_,x,_=>x
 | .frz ob u,e,x,y=>⟨x.1,Zd.back u (by unfold noT at e;exact e) x.2 y.2⟩
 | .tbl _,_,x,_=>x
 | .ext _,_,x,_=>x
section
variable {P:Program} {w:World} {K:PySem.W.Frag} {mg:Str→Option Value} {base:Heap}
theorem Pb.forget {k:Nat} {f:Addr} {fd:FuncData} {ps:List Str} {sp sp':Sp} (F:Pb P w K mg base CX0 k f fd ps sp)
  (h:∀ vs H Q E,sp' vs H Q E→NoT H∧sp vs H (fun v H'=>Jb H H'∧Q v H) E):Pb P w K mg base CX0 k f fd ps sp':=by
 refine ⟨fun vs H Q E q=>F.len vs H _ E (h vs H Q E q).2,fun A outer s H args us vs Q E hr he hb hv hs=>?_⟩;obtain ⟨nt,q⟩:=h vs H Q E hs;refine codeAny_mono (F.run A outer s H args us vs _ E hr he hb hv q) fun r s' hq=>?_
 cases r with
 | error e=>exact hq
 | ok fl=>
  cases fl with
  | next=>exact hq
  | brk=>exact hq
  | cont=>exact hq
  | ret u=>
   obtain ⟨v,H',os,bare,un,hok,rv,sm,q'⟩:=hq;exact ⟨v,H,os,bare,⟨un.keep,un.slot,fun _ _ _ n _=>n,un.there,fun _ _ z=>z,fun _ _ _ z=>z,fun _ ps z=>⟨#[],by rw [z];simp⟩⟩,fun a o e=>(hok a o (sm a o e)).back o (nt a o e) (he.hok a o e),rv,q'⟩
end
theorem lb {H:Hp} {p:Addr} {o:HO} (h:H p=none):Jb H (upd H p o):=fun b u q=>by rw [ub (wb q h)];exact q
theorem Jb.updN {H H1:Hp} {p:Addr} {o:HO} (s:Jb H H1) (h:H p=none):Jb H (upd H1 p o):=fun b u q=>by rw [ub (wb q h)];exact s b u q
structure Sc (K:PySem.W.Frag) (a:Addr) (ns:List Int) (H:Hp):Prop where
 sq:(∃ o,H a=some (.frz o (.lst (ns.map V.int))))∨∃ (o:Obj) (its:Array Value) (n:Nat),K.lookup a=some o∧o.cls=.type "list" ∧ o.dict=none∧o.data=.seq its n∧its.size ≤ sizeLine∧Ad (ns.map V.int) its.toList
 nt:NoT H
section
variable {K:PySem.W.Frag} {a p:Addr} {ns:List Int} {H H':Hp} {o:HO}
theorem Sc.seq (s:Sc K a ns H):SqL K H a (ns.map V.int):=by
 rcases s.sq with ⟨o,h⟩ | h
 ·exact .inl (.inr ⟨o,h⟩)
 ·exact .inr h
theorem Sc.new (s:Sc K a ns H) (hp:H p=none) (ho:noT o=true:=by rfl):Sc K a ns (upd H p o):=by
 refine ⟨?_,fun b u e=>?_⟩
 ·rcases s.sq with ⟨ob,h⟩ | h
  ·exact .inl ⟨ob,by rw [ub (wb h hp)];exact h⟩
  ·exact .inr h
 ·by_cases hb:b=p
  ·subst hb;rw [cb] at e;cases e;exact ho
  ·rw [ub hb] at e;exact s.nt b u e
theorem Sc.set {u:HO} (s:Sc K a ns H) (hp:H p=some u) (hu:∀ ob z,u ≠ .frz ob z) (ho:noT o=true:=by rfl):Sc K a ns (upd H p o):=by
 refine ⟨?_,fun b x e=>?_⟩
 ·rcases s.sq with ⟨ob,h⟩ | h
  ·refine .inl ⟨ob,?_⟩;have hne:a ≠ p:=fun z=>by subst z;rw [hp] at h;exact hu _ _ (Option.some.inj h)
   rw [ub hne];exact h
  ·exact .inr h
 ·by_cases hb:b=p
  ·subst hb;rw [cb] at e;cases e;exact ho
  ·rw [ub hb] at e;exact s.nt b x e
theorem Sc.of_only (hO:fK H) (hS:SqL K H a (ns.map V.int)):Sc K a ns H:=by
 refine ⟨?_,fun b u e=>?_⟩
 ·rcases hS with (h | ⟨o,h⟩) | h
  ·rcases hO a with z | ⟨ob,xs,z⟩
   ·rw [h] at z;cases z
   ·rw [h] at z;cases z
  ·exact .inl ⟨o,h⟩
  ·exact .inr h
 ·rcases hO b with z | ⟨ob,xs,z⟩
  ·rw [e] at z;cases z
  ·rw [e] at z;cases z;rfl
end
noncomputable def UL (K:PySem.W.Frag):Sp:=fun vs H Q _=>∃ (a:Addr) (ns:List Int),vs=[.ref a]∧Sc K a ns H∧ns.length ≤ 63∧∀ H',Q (.bl true) H'
theorem Ob:bootBuiltins "len"=some (.builtin "len"):=PySem.boot_len
theorem Bn:bootBuiltins "all"=some (.builtin "all"):=by decide +kernel
theorem Qn:bootBuiltins "min"=some (.builtin "min"):=by decide +kernel
theorem fA:bootBuiltins "max"=some (.builtin "max"):=by decide +kernel
theorem zt:bootBuiltins "sum"=some (.builtin "sum"):=by decide +kernel
theorem vd:bootBuiltins "isinstance"=some (.builtin "isinstance"):=by decide +kernel
theorem wk:bootBuiltins "int"=some (.type "int"):=by decide +kernel
theorem mh:bootBuiltins "str"=some (.type "str"):=by decide +kernel
theorem Wl:bootBuiltins "bool"=some (.type "bool"):=by decide +kernel
theorem Sd:bootBuiltins "list"=some (.type "list"):=by decide +kernel
theorem Mw:bootBuiltins "tuple"=some (.type "tuple"):=by decide +kernel
theorem Zy {K:PySem.W.Frag}:PySem.W.kitOne K (.type "int") (.type "bool")=some false:=by
 unfold PySem.W.kitOne;rw [if_neg (by decide)]
 with_unfolding_all rfl
theorem Rd.same {H H':Hp} {a:Addr} {o:HO} (h:Rd H a o) (s:Jb H H'):Rd H' a o:=by
 rcases h with h | ⟨ob,h⟩
 ·exact .inl (s _ _ h)
 ·exact .inr ⟨ob,s _ _ h⟩
theorem SqL.same {K:PySem.W.Frag} {H H':Hp} {a:Addr} {xs:List V} (h:SqL K H a xs) (s:Jb H H'):SqL K H' a xs:=by
 rcases h with h | h
 ·exact .inl (h.same s)
 ·exact .inr h
theorem SqT.same {K:PySem.W.Frag} {H H':Hp} {a:Addr} {xs:List V} (h:SqT K H a xs) (s:Jb H H'):SqT K H' a xs:=by
 rcases h with h | h
 ·exact .inl (h.same s)
 ·exact .inr h
theorem NoT.upd {H:Hp} {p:Addr} {o:HO} (h:NoT H) (ho:noT o=true:=by rfl):NoT (upd H p o):=fun b u e=>by
 by_cases hb:b=p
 ·subst hb;rw [cb] at e;cases e;exact ho
 ·rw [ub hb] at e;exact h b u e
theorem Sc.same {K:PySem.W.Frag} {a:Addr} {ns:List Int} {H H':Hp} (s:Sc K a ns H) (sm:Jb H H') (nt:NoT H'):Sc K a ns H':=by
 refine ⟨?_,nt⟩;rcases s.sq with ⟨o,h⟩ | h
 ·exact .inl ⟨o,sm _ _ h⟩
 ·exact .inr h
end L2
namespace L2
open PySem PySem.Spec PyProof.Rows
structure KN (K:PySem.W.Frag) (C:Addr) (m:Str) (f:Addr):Prop where
 rd:PySem.W.readsIn K C (.type "type")=true
 fd:PySem.W.findCls K (.ref C) (.type "type") m=some (.val (.ref f))
 ga:PySem.W.specialIn K (.ref C) "__getattribute__"=some (some (.builtin "type.__getattribute__"))
 kp:PySem.W.keepIn K (.ref f)=true
structure eG (P:Program) (w:World) (K:PySem.W.Frag) (mg:Str→Option Value) (base:Heap) (CX:CXT) (k:Nat) (OK:Addr→Prop) (m:Str) (ps:List Str) (SPV:Addr→Sp):Prop where
 ok:∀ C,OK C→∃ f fd,Cls K C∧zu K C m f∧Pb P w K mg base CX k f fd ps (SPV C)∧bc K fd ps []
noncomputable def OG (OK:Addr→Prop) (m:Str) (SPV:Addr→Sp) (E:XK) (ta:TE) (t:TA):TE:=fun σ H Q=>ta σ H fun x H1=>∃ a C dx fs,x=.ref a∧H1 a=some (.ins C dx fs)∧OK C∧fs.lookup m=none ∧
 t σ H1 fun vs H2=>SPV C (x :: vs) H2 Q E
section
variable {X:Cx} {CX:CXT} {k:Nat} {f C:Addr} {fd:FuncData} {ps:List Str} {sp:Sp} {dvs:List V} {ds:List Value} {E:XK} {x m:Str} {p pos apos:Pos} {e o:Expr} {es:List Expr} {ta:TE} {t:TA}
theorem fu {pl:Sem Bool} (hg:Gl X x) (hm:X.mg x=some (.ref C)) (c:KN X.K C m f) (F:Pb X.prog X.w X.K X.mg X.base CX k f fd ps sp) (hr:Mj k X.A) (hb:bc X.K fd ps ds) (hd:Ad dvs ds) (hx:Vm CX X E) (ha:PA X (e :: es) t)
  (hdb:(x == ("__debug__" : Str))=false:=by decide) (hst:starEach (e :: es) X.env=(false,eval e X.env) :: starEach es X.env:=by rfl) (hpl:(backTo pos (starEach es X.env)).any (·.1)=false:=by rfl)
  (ht:eval (.Call (.Attribute (.Name x p) m apos) (e :: es) [] pos) X.env=(do
   let ov ← eval (.Name x p) X.env
   standAt apos.atName
   let (f,first) ← holding [ov] (getMethod ov m pl)
   callWith pos f first (backTo pos (starEach (e :: es) X.env)) (backToKw pos (keywordEach [] X.env))):=by rfl) :
  PE X (.Call (.Attribute (.Name x p) m apos) (e :: es) [] pos) (oJ sp dvs E t):=by
 intro pins s σ H Q I h;refine PySem.W.methodCall_KW (pl:=pl) (Cu I hg hm ?_ hdb) ht;refine PySem.W.method_cls I.kIn c.ga (PySem.W.cls_value I.kIn c.rd c.fd rfl ?_);have I1:=I.tok (s.toks + 1);refine PySem.W.callWith_K (first:=[]) (h₀:=X.base) I.ok.mod.kin c.kp (thn (ha pos pins _ σ H _ I1 h) fun us s2 ⟨vs,H2,I2,r,q2⟩=>⟨I2.kIn,?_⟩) hst hpl;exact Iv F hr hb hd hx I2 r q2
variable {OK:Addr→Prop} {SPV:Addr→Sp}
theorem rm {pl:Sem Bool} (he:PE X o ta) (V:eG X.prog X.w X.K X.mg X.base CX k OK m ps SPV) (hr:Mj k X.A) (hx:Vm CX X E)
  (ht:eval (.Call (.Attribute o m apos) [] [] pos) X.env=(do
   let ov ← eval o X.env
   standAt apos.atName
   let (f,first) ← holding [ov] (getMethod ov m pl)
   callWith pos f first (backTo pos (starEach [] X.env)) (backToKw pos (keywordEach [] X.env))):=by rfl) :
  PE X (.Call (.Attribute o m apos) [] [] pos) (OG OK m SPV E ta nM):=by
 intro pins s σ H Q I h;refine PySem.W.methodCall_KW (pl:=pl) (thn (he pins s σ H _ I h) fun u s1 hZ1=>?_) ht;obtain ⟨x,H1,I1,rx,a,C,dx,fs,ex,ea,ok,l,q⟩:=hZ1;subst ex;obtain rfl:u=Value.ref a:=rx;obtain ⟨f,fd,c,hm,F,hb⟩:=V.ok C ok;refine Vn I1 ea c hm l ?_;exact PySem.W.callWith_K0 (first:=[.ref a]) I1.kIn hm.kp (Iv (us:=[.ref a]) (vs:=[.ref a]) (dvs:=[]) F hr hb .nil hx I1 (.cons rfl .nil) q)
end
section
variable {X:Cx} {x:Str} {p pos:Pos} {i:Expr} {ty:TE} {u:Value} {kvs:List (Str × V)}
end
noncomputable def Bj (K:PySem.W.Frag) (H:Hp) (a:Addr) (f:Str) (v:V):Prop:=∃ C dx fs,H a=some (.ins C dx fs)∧Cls K C∧gc K C f∧fs.lookup f=some v
theorem Ld {f:Str} {v:V}:∀ {fs:List (Str × V)} (ks:List Str),fs.map (·.1)=ks→ks.contains f=false→Hi f v fs=fs ++ [(f,v)]
 | [],_,_,_=>rfl
 | (g,y) :: r,ks,e,h=>by
  cases e;rw [List.map_cons,List.contains_cons] at h;have h1:=(Bool.or_eq_false_iff.mp h);have hne:¬ g=f:=fun z=>by
   have:=h1.1;rw [z] at this;simp at this
  show (if g=f then _ else _)=_;rw [if_neg hne,Ld _ rfl h1.2];rfl
theorem gn {f:Str} {v:V} {fs:List (Str × V)} {n:Nat} (h:fs.length < n):(Hi f v fs).length < n + 1:=Nat.lt_of_le_of_lt (Ol f v fs) (by omega)
theorem pe {f:Str} {v:V}:∀ {fs:List (Str × V)} (ks:List Str) (i:Nat),fs.map (·.1)=ks→ks.findIdx? (· == f)=some i→fs[i]? = some (f,v)→fs.lookup f=some v
 | [],_,_,_,_,h=>by simp at h
 | (g,y) :: r,ks,i,e,h,hv=>by
  cases e;rw [List.map_cons,List.findIdx?_cons] at h;rw [List.lookup];by_cases e:g=f
  ·subst e;rw [beq_self_eq_true,if_pos rfl] at h;cases h;have:(g,y)=(g,v):=by simpa using hv
   cases this;rw [beq_self_eq_true]
  ·rw [beq_eq_false_iff_ne.mpr e,if_neg (by decide)] at h;obtain ⟨j,hj,rfl⟩:=Option.map_eq_some_iff.mp h;rw [beq_eq_false_iff_ne.mpr (fun z=>e z.symm)];exact pe _ j rfl hj (by simpa using hv)
theorem um {f:Str}:∀ {fs:List (Str × V)} (ks:List Str),fs.map (·.1)=ks→ks.contains f=false→fs.lookup f=none
 | [],_,_,_=>rfl
 | (g,y) :: r,ks,e,h=>by
  cases e;rw [List.map_cons,List.contains_cons] at h;have h1:=(Bool.or_eq_false_iff.mp h);rw [List.lookup,h1.1];exact um _ rfl h1.2
end L2
namespace L2
open PySem PySem.Spec PyProof.Rows
theorem Inv.turnedL {X:Cx} {pins:List (Addr × Obj)} {σ:St} {H:Hp} {s:Shared} {h':Heap} {t':Nat} {fp:List Addr} (I:Inv X pins σ H s) (k:∀ b o,b ∉ fp→s.heap.get? b=some o→h'.get? b=some o)
  (hf:∀ b ∈ fp,Gw X pins H b):Inv X pins σ H { s with heap:=h',toks:=t' }:=by
 have nit:∀ b u,H b=some u→b ∉ fp:=fun b u e z=>by rw [(hf b z).1] at e;cases e
 refine I.step (g':=s.gens) (d':=s.drawn) (ch:=fp) (fun b hb=>?_) (fun b o _ _ hc e _=>k b o hc e) (fun b o _ _ hc e _=>⟨o.slots,k b o hc e⟩) (fun _ _ _ _ n=>n)
  (fun b o hc e=>⟨o,k b o hc e⟩) (fun _ _ e=>e) (fun _ _ _ e=>e) (fun b ps e=>⟨#[],by rw [e];simp⟩) (fun m hm=>?_) (fun b u e=>?_) I.bare
 ·obtain ⟨f0,f1,f2,f3,f4,f5⟩:=hf b hb;exact ⟨f3,f1,f4,f5⟩
 ·obtain ⟨o,es,ep,ho,r⟩:=hm;exact ⟨o,es,ep,k _ o (fun z=>(hf _ z).2.1 rfl) ho,r⟩
 ·refine (I.hok b u e).stay (fun c v hc q=>k c v ?_ q) (fun _ q=>q) fun _ _ q=>q
  rcases hc with z | z
  ·rw [z];exact nit b u e
  ·exact nit c _ z
noncomputable def Ite (K:PySem.W.Frag) (a:Addr):It:=
 ⟨fun i H=>∃ xs x,SqL K H a xs∧xs[i]? = some x,fun i H v H'=>∃ p y,H p=none∧v=.ref p∧(∀ xs,SqL K H a xs→xs[i]? = some y)∧H'=upd H p (.tup [.int i,y]),fun i H=>∃ xs,SqL K H a xs∧xs.length ≤ i⟩
theorem LC {P:Program} {w:World} {K:PySem.W.Frag} {es:List Expr} {k} {pos:Pos} (a e it:Addr) (hne:e ≠ it) :
  MJ P w K (.Tuple es k pos) (Ite K a) [e,it] e (fun i h=>∃ old,IsEnum h e it ((i:Nat):Int) old∧h.IsListIter it a i) where
 mem:=by simp
 obj:=fun i h ⟨old,he,hi⟩ b hb=>by
  simp only [List.mem_cons,List.not_mem_nil,or_false] at hb;rcases hb with rfl | rfl
  ·exact ⟨_,he,fun v z=>by
    have z':Data.fields _=Data.cell v:=z;cases z'⟩
  ·obtain ⟨o,q,c,d⟩:=hi;exact ⟨o,q,fun v z=>by rw [d] at z;cases z⟩
 keep:=fun i h h' ⟨old,he,hi⟩ k=>⟨old,k e (by simp) _ he,hi.at fun o q=>k it (by simp) o q⟩
 item:=by
  intro X hP hw hK hc i pins s σ H E I hf ⟨old,he,hi⟩ hg;subst hP hw hK;obtain ⟨xs,x,hq,hx⟩:=hg;obtain ⟨its,rv,p,hz⟩:=I.list hq;obtain ⟨u,hu,ru⟩:=rv.get hx;refine wpAny_pyNext_enum_item he hi p.isList (x:=u) (by simpa using hu) hne fun h1 he1 hi1 ht1 hz1 hk1=>⟨_,rfl,?_⟩
  refine wpAny_letOwnedTupleGo_enum he1 fun h2 he2 hs2=>?_
  replace hs2:Heap.SameBut e h1 h2:=hs2;have hel:e < s.heap.objs.size:=Heap.lt_size he;have hk:∀ b o,b ∉ [e,it]→s.heap.get? b=some o→h2.get? b=some o:=fun b o hb q=>by
   simp only [List.mem_cons,List.not_mem_nil,or_false,not_or] at hb;exact hs2.extBut _ _ hb.1 (hk1 b o hb.1 hb.2 q)
  have I1:Inv X pins σ H { s with heap:=h2,toks:=s.toks + 1 }:=I.turnedL hk hf;have fo:Gw X pins H s.heap.objs.size:=I.fpOk (Nat.le_refl _) (I.hok.fresh (Nat.le_refl _));have ht2:h2.get? s.heap.objs.size=some { cls:=.type "tuple",data:=.seq #[.int i s.toks,u] }:=(hs2.2 _ (Nat.ne_of_gt hel)).trans ht1;have I2:=I1.adopt (o:=.tup [.int i,x]) fo ⟨by show 2 ≤ sizeLine;decide,[.int i s.toks,u],.cons ⟨_,rfl⟩ (.cons ru .nil),⟨_,ht2,rfl,_,rfl⟩⟩;refine ⟨.ref s.heap.objs.size,_,I2,rfl,⟨_,x,fo.1,rfl,fun ys hy=>by rw [I.list_inj hy hq];exact hx,rfl⟩,⟨u,?_,?_⟩,fun b hb=>?_⟩
  ·have e1:((i + 1:Nat):Int)=(i:Int) + 1:=by omega
   rw [e1];exact he2
  ·exact hi1.extBut hs2.extBut (Ne.symm hne)
  ·have hlt:b < s.heap.objs.size:=by
    simp only [List.mem_cons,List.not_mem_nil,or_false] at hb;rcases hb with rfl | rfl
    ·exact hel
    ·obtain ⟨o,q,_⟩:=hi;exact Heap.lt_size q
   rw [ub (Nat.ne_of_lt hlt)];exact (hf b hb).1
 done:=by
  intro X hP hw hK hc i pins s σ H E I hf ⟨old,he,hi⟩ hg;subst hP hw hK;obtain ⟨xs,hq,hx⟩:=hg;obtain ⟨its,rv,p,hz⟩:=I.list hq;have hl:=rv.length;exact wpAny_pyNext_enum_end (I.ok.hd hc) he hi p.isList (by simp;omega) fun h' eb=>⟨rfl,I.turnedL (t':=s.toks) (fun b o hb q=>eb b o (fun z=>hb (by simp [z])) q) hf⟩
 self:=fun _ _ _ _ _ ⟨_,he,_⟩ h=>wpAny_pyIter_enum he h
theorem js:bootBuiltins "enumerate"=some (.type "enumerate"):=by decide +kernel
theorem Ju:bootBuiltins "reversed"=some (.type "reversed"):=by decide +kernel
noncomputable def Itz (K:PySem.W.Frag) (a b:Addr):It:=
  ⟨fun i H=>∃ xs ys x y,SqL K H a xs∧SqL K H b ys∧xs[i]? = some x∧ys[i]? = some y,
   fun i H v H'=>∃ p x y,H p=none∧v=.ref p∧(∀ xs,SqL K H a xs→xs[i]? = some x)∧(∀ ys,SqL K H b ys→ys[i]? = some y)∧H'=upd H p (.tup [x,y]),
   fun i H=>∃ xs ys,SqL K H a xs∧SqL K H b ys∧(xs.length ≤ i∨ys.length ≤ i)⟩
section
variable {X:Cx}
noncomputable def pK (K:PySem.W.Frag) (ta:TA):TI:=fun σ H R=>ta σ H fun vs H1=>∃ a,vs=[.ref a]∧(∃ xs,SqL K H1 a xs)∧R (Ite K a) H1
theorem Gn {es:List Expr} {k} {tpos:Pos} {a:Expr} {ta:TA} {p pos:Pos} (hg:Gl X "enumerate") (hm:X.mg "enumerate"=none) (ha:PA X [a] ta) (hs:starEach [a] X.env=[(false,eval a X.env)]:=by rfl) :
  PI X (.Tuple es k tpos) (.Call (.Name "enumerate" p) [a] [] pos) (pK X.K ta):=by
 intro pins s σ H R I h;refine Call_ (Ym I hg hm js (PyProof.Rows.callWith_type1 (thn (ha pos pins s σ H _ I h) fun us s1 hZ1=>?_) hs rfl));obtain ⟨vs,H1,I1,r1,q1⟩:=hZ1;obtain ⟨a,e,⟨xs,hq⟩,q⟩:=q1;subst e;cases r1 with
 | cons r rr=>
  cases rr;cases r;obtain ⟨its,rv,pl,hz⟩:=I1.list hq;refine call_enumerate_list pl.isList fun h' hE hI hsz hk=>wpAny_pyIter_enum hE ?_
  refine ⟨s1.heap.objs.size + 1,[s1.heap.objs.size + 1,s1.heap.objs.size],_,_,H1,rfl,I1.kept (t':=s1.toks) hk,LC a _ _ (Nat.succ_ne_self _),⟨_,hE,hI⟩,fun b hb=>?_,q⟩;have hb':s1.heap.objs.size ≤ b:=by
   simp only [List.mem_cons,List.not_mem_nil,or_false] at hb;rcases hb with rfl | rfl
   ·exact Nat.le_succ _
   ·exact Nat.le_refl _
  exact I1.fpOk hb' (I1.hok.fresh hb')
end
theorem Ve {X:Cx} {es:List Expr} {k:Nat} {pos:Pos} {t:TGs} {n:Nat} {K:PySem.W.Frag} (hK:X.K=K) (hc:X.calm=true) (h:PGs X es t)
  (hn:(assignEach es X.env).length=n:=by rfl) (hst:(assignEach es X.env).findIdx? (·.1)=none:=by rfl):PG X (.Tuple es k pos) (KK K n t):=by
 subst hK;exact LK hc h hn hst
section
variable {X:Cx}
theorem fD:bj X (.type "range") (fun xs H Q=>∃ j:Int,xs=[.int j]∧-4611686018427387904 ≤ j∧j < 4611686018427387904∧∀ p,H p=none→Q (.ref p) (upd H p (.rng 0 j))):=by
 intro pins s σ H xs us Q I r h;obtain ⟨j,rfl,h1,h2,q⟩:=h;obtain ⟨u,rfl,rx⟩:=Xn r;obtain ⟨t,rfl⟩:=rx;exact call_range_1 ⟨.ref s.heap.objs.size,upd H s.heap.objs.size (.rng 0 j),I.laid (fun b u e=>Heap.get?_push_of_some _ e) (Nat.le_refl _) ⟨_,_,_,Heap.get?_push_size _ rfl⟩,rfl,q _ (I.hok.fresh (Nat.le_refl _))⟩
theorem Fv {P:Nat→Value→Prop} {f:Nat→V} (hP:∀ i v,P i v→Dd (f i) v):∀ (l:List Value) (k:Nat),(∀ j v,l[j]? = some v→P (k + j) v)→Ad ((List.range l.length).map fun i=>f (k + i)) l
 | [],_,_=>.nil
 | v :: r,k,h=>by
  rw [List.length_cons,List.range_succ_eq_map,List.map_cons,List.map_map];refine .cons (hP _ _ (h 0 v rfl)) ?_;have:=Fv hP r (k + 1) fun j w hj=>by
   have:=h (j + 1) w (by simpa using hj);rwa [show k + 1 + j=k + (j + 1) by omega]
  have e:(fun i=>f (k + 1 + i))=((fun i=>f (k + i)) ∘ Nat.succ):=funext fun i=>by
   show f (k + 1 + i)=f (k + (i + 1));rw [show k + 1 + i=k + (i + 1) by omega]
  rwa [e] at this
theorem dt {P:Nat→Value→Prop} {f:Nat→V} (hP:∀ i v,P i v→Dd (f i) v) {acc:Array Value} {n:Nat} (h:ItemsOf P acc n):Ad ((List.range n).map f) acc.toList:=by
 have:=Fv hP acc.toList 0 fun j v hj=>by
  rw [Nat.zero_add];exact h.2 j v (by rw [← Array.getElem?_toList];exact hj)
 rw [show acc.toList.length=n by rw [Array.length_toList];exact h.1] at this;simpa using this
theorem Mu (hc:X.calm=true):bj X (.type "list") (fun xs H Q=>∃ p j,xs=[.ref p]∧H p=some (.rng 0 j)∧-4611686018427387904 ≤ j∧j ≤ 16777216∧∀ l,H l=none→Q (.ref l) (upd H l (.lst ((List.range j.toNat).map fun (i:Nat)=>V.int i)))):=by
 intro pins s σ H xs us Q I r h;obtain ⟨p,j,rfl,hp,h1,h2,q⟩:=h;obtain ⟨u,rfl,rx⟩:=Xn r;cases rx;obtain ⟨t,u,v,e⟩:=(show Zd X.prog X.w H s.heap p (.rng 0 j) from I.hok p _ hp);have hn:Builtin.Range.rangeSize 0 j 1=((j.toNat:Nat):Int):=by rw [rangeSize_one];split <;> omega
 refine call_list_range (I.ok.hd hc) e (small_one (by omega) (by omega) h1 (by omega)) hn (by omega) fun h' tk acc c' hk e' hi=>?_
 refine ⟨.ref s.heap.objs.size,_,I.laid (o:=.lst ((List.range j.toNat).map fun (i:Nat)=>V.int i)) hk (Nat.le_refl _) ⟨?_,acc.toList,c',dt (fun i v ⟨t,ev⟩=>⟨t,by rw [ev];simp⟩) hi,e'⟩,rfl,q _ (I.hok.fresh (Nat.le_refl _))⟩;rw [List.length_map,List.length_range];exact Nat.le_trans (show j.toNat ≤ 16777216 by omega) (by decide)
end
end L2
namespace L2
open PySem PySem.Spec PyProof.Rows
inductive EqH (K:PySem.W.Frag) (H:Hp):Nat→V→V→Bool→Prop
 | flat {k:Nat} {x y:V} (hx:Aj x=true) (hy:Aj y=true):EqH K H k x y (eqV x y)
 | lst {k:Nat} {p q:Addr} {xs ys:List V} {e:Nat→Bool} (hp:SqL K H p xs) (hq:SqL K H q ys) (hl:xs.length=ys.length) (he:∀ (j:Nat) (x y:V),xs[j]? = some x→ys[j]? = some y→EqH K H k x y (e j)):EqH K H (k + 1) (.ref p) (.ref q) ((List.range xs.length).all e)
 | lstN {k:Nat} {p q:Addr} {xs ys:List V} (hp:SqL K H p xs) (hq:SqL K H q ys) (hl:xs.length ≠ ys.length):EqH K H (k + 1) (.ref p) (.ref q) false
 | tup {k:Nat} {p q:Addr} {xs ys:List V} {e:Nat→Bool} (hp:SqT K H p xs) (hq:SqT K H q ys) (he:∀ (j:Nat) (x y:V),xs[j]? = some x→ys[j]? = some y→EqH K H k x y (e j)):EqH K H (k + 1) (.ref p) (.ref q) ((List.range (min xs.length ys.length)).all e && xs.length == ys.length)
theorem Ny {x:V} (h:Aj x=true):eqV x x=true:=by
 cases x <;> first | rfl | (simp [eqV];done) | cases h
theorem yt {n:Nat} {e:Nat→Bool} (h:∀ j,j < n→e j=true):(List.range n).all e=true:=by
 rw [List.all_eq_true];exact fun j hj=>h j (List.mem_range.mp hj)
section
variable {X:Cx} {pins:List (Addr × Obj)} {σ:St} {H:Hp} {s:Shared}
theorem EqH.self (I:Inv X pins σ H s) {k:Nat} {x y:V} {b:Bool} (h:EqH X.K H k x y b) (e:x=y):b=true:=by
 induction h with
 | flat hx hy=>subst e;exact Ny hx
 | @lst k p q xs ys f hp hq hl he ih=>
  injection e with e;subst e;have:=I.list_inj hp hq;subst this;refine yt fun j hj=>?_
  exact ih j xs[j] xs[j] (List.getElem?_eq_getElem hj) (List.getElem?_eq_getElem hj) rfl
 | lstN hp hq hl=>
  injection e with e;subst e;have:=I.list_inj hp hq;subst this;exact absurd rfl hl
 | @tup k p q xs ys f hp hq he ih=>
  injection e with e;subst e;have:=I.tuple_inj hp hq;subst this;rw [Bool.and_eq_true];refine ⟨yt fun j hj=>?_,by simp⟩;have hj':j < xs.length:=by omega
  exact ih j xs[j] xs[j] (List.getElem?_eq_getElem hj') (List.getElem?_eq_getElem hj') rfl
theorem Hm (A:Around):A.in1.units=A.units + 1:=rfl
theorem dz (I:Inv X pins σ H s) {k:Nat} {x y:V} {b:Bool} (h:EqH X.K H k x y b):∀ (A:Around) (v u:Value),A.units + k < cLine→Dd x v→Dd y u →
  SeqAt.EqAt A s v u b∧(∀ p q,x=.ref p→y=.ref q→SeqAt.RcAt A s v u b):=by
 induction h with
 | flat hx hy=>
  intro A v u hu rx ry;refine ⟨yH rx ry hx hy,fun p q e _=>?_⟩;subst e;cases hx
 | @lst k p q xs ys f hp hq hl he ih=>
  intro A v u hu rx ry;cases rx;cases ry;obtain ⟨its,r,pl,hz⟩:=I.list hp;obtain ⟨jts,r',pl',hz'⟩:=I.list hq;have l1:=r.length;have l2:=r'.length;have rc:SeqAt.RcAt A s (.ref p) (.ref q) ((List.range xs.length).all f):=by
   have:=SeqAt.RcAt.lists (A:=A) (e:=f) pl.isList pl'.isList (by simp only [List.size_toArray];omega) (by omega) fun j h1 h2=>by
    simp only [List.size_toArray] at h1 h2;have hj:j < xs.length:=by omega
    have hj':j < ys.length:=by omega
    obtain ⟨a,ha,ra⟩:=r.get (List.getElem?_eq_getElem hj);obtain ⟨c,hc,rc⟩:=r'.get (List.getElem?_eq_getElem hj');have ea:its.toArray[j]=a:=by
     have:=List.getElem?_eq_getElem h1;rw [ha] at this;simpa using (Option.some.inj this).symm
    have ec:jts.toArray[j]=c:=by
     have:=List.getElem?_eq_getElem h2;rw [hc] at this;simpa using (Option.some.inj this).symm
    rw [ea,ec];exact (ih j _ _ (List.getElem?_eq_getElem hj) (List.getElem?_eq_getElem hj') A.in1 a c (by rw [Hm];omega) ra rc).1
   rwa [List.size_toArray,← l1] at this
  refine ⟨?_,fun _ _ _ _=>rc⟩;by_cases hne:p=q
  ·have hb:=(EqH.lst hp hq hl he).self I (congrArg V.ref hne);rw [hb,hne];exact SeqAt.EqAt.same _
  ·exact SeqAt.EqAt.of_refs hne rc
 | @lstN k p q xs ys hp hq hl=>
  intro A v u hu rx ry;cases rx;cases ry;obtain ⟨its,r,pl,hz⟩:=I.list hp;obtain ⟨jts,r',pl',hz'⟩:=I.list hq;have l1:=r.length;have l2:=r'.length;have rc:SeqAt.RcAt A s (.ref p) (.ref q) false:=SeqAt.RcAt.lists_lengths pl.isList pl'.isList (by simp only [List.size_toArray,bne_iff_ne,ne_eq];omega) (by omega);refine ⟨SeqAt.EqAt.of_refs (fun e=>hl ?_) rc,fun _ _ _ _=>rc⟩;subst e;rw [I.list_inj hp hq]
 | @tup k p q xs ys f hp hq he ih=>
  intro A v u hu rx ry;cases rx;cases ry;obtain ⟨its,r,pl,hz⟩:=I.tuple hp;obtain ⟨jts,r',pl',hz'⟩:=I.tuple hq;have l1:=r.length;have l2:=r'.length;have rc:SeqAt.RcAt A s (.ref p) (.ref q) ((List.range (min xs.length ys.length)).all f && xs.length == ys.length):=by
   have:=SeqAt.RcAt.tuples (A:=A) (e:=f) pl pl' (by omega) fun j h1 h2=>by
    simp only [List.size_toArray] at h1 h2;have hj:j < xs.length:=by omega
    have hj':j < ys.length:=by omega
    obtain ⟨a,ha,ra⟩:=r.get (List.getElem?_eq_getElem hj);obtain ⟨c,hc,rc⟩:=r'.get (List.getElem?_eq_getElem hj');have ea:its.toArray[j]=a:=by
     have:=List.getElem?_eq_getElem h1;rw [ha] at this;simpa using (Option.some.inj this).symm
    have ec:jts.toArray[j]=c:=by
     have:=List.getElem?_eq_getElem h2;rw [hc] at this;simpa using (Option.some.inj this).symm
    rw [ea,ec];exact (ih j _ _ (List.getElem?_eq_getElem hj) (List.getElem?_eq_getElem hj') A.in1 a c (by rw [Hm];omega) ra rc).1
   rwa [List.size_toArray,List.size_toArray,← l1,← l2] at this
  refine ⟨?_,fun _ _ _ _=>rc⟩;by_cases hne:p=q
  ·have hb:=(EqH.tup hp hq he).self I (congrArg V.ref hne);rw [hb,hne];exact SeqAt.EqAt.same _
  ·exact SeqAt.EqAt.of_refs hne rc
end
section
variable {X:Cx} {pins:List (Addr × Obj)} {σ:St} {H:Hp} {s:Shared}
theorem Uw (I:Inv X pins σ H s) {k:Nat} {A:Around} {xs ys:List V} {its jts:List Value} {f:Nat→Bool} (hu:A.units + k < cLine) (r:Ad xs its) (r':Ad ys jts)
  (he:∀ (j:Nat) (x y:V),xs[j]? = some x→ys[j]? = some y→EqH X.K H k x y (f j)):∀ j (h1:j < its.toArray.size) (h2:j < jts.toArray.size),SeqAt.EqAt A s its.toArray[j] jts.toArray[j] (f j):=fun j h1 h2=>by
 simp only [List.size_toArray] at h1 h2;have l1:=r.length;have l2:=r'.length;have hj:j < xs.length:=by omega
 have hj':j < ys.length:=by omega
 obtain ⟨a,ha,ra⟩:=r.get (List.getElem?_eq_getElem hj);obtain ⟨c,hc,rc⟩:=r'.get (List.getElem?_eq_getElem hj');have ea:its.toArray[j]=a:=by
  have:=List.getElem?_eq_getElem h1;rw [ha] at this;simpa using (Option.some.inj this).symm
 have ec:jts.toArray[j]=c:=by
  have:=List.getElem?_eq_getElem h2;rw [hc] at this;simpa using (Option.some.inj this).symm
 rw [ea,ec];exact (dz I (he j _ _ (List.getElem?_eq_getElem hj) (List.getElem?_eq_getElem hj')) A a c hu ra rc).1
theorem ZL (I:Inv X pins σ H s) {k:Nat} {p q:Addr} {b:Bool} (h:EqH X.K H k (.ref p) (.ref q) b) (A:Around) (hu:A.units + k < cLine):SeqAt.RcNeAt A s (.ref p) (.ref q) (!b):=by
 cases h with
 | flat hx hy=>cases hx
 | @lst k _ _ xs ys f hp hq hl he=>
  obtain ⟨its,r,pl,hz⟩:=I.list hp;obtain ⟨jts,r',pl',hz'⟩:=I.list hq;have l1:=r.length;have l2:=r'.length;have:=SeqAt.RcNeAt.lists (A:=A) (e:=f) pl.isList pl'.isList (by simp only [List.size_toArray];omega) (by omega) (Uw I (A:=A.in1) (k:=k) (by rw [Hm];omega) r r' he);rwa [List.size_toArray,← l1] at this
 | @lstN k _ _ xs ys hp hq hl=>
  obtain ⟨its,r,pl,hz⟩:=I.list hp;obtain ⟨jts,r',pl',hz'⟩:=I.list hq;have l1:=r.length;have l2:=r'.length;exact SeqAt.RcNeAt.lists_lengths pl.isList pl'.isList (by simp only [List.size_toArray,bne_iff_ne,ne_eq];omega) (by omega)
 | @tup k _ _ xs ys f hp hq he=>
  obtain ⟨its,r,pl,hz⟩:=I.tuple hp;obtain ⟨jts,r',pl',hz'⟩:=I.tuple hq;have l1:=r.length;have l2:=r'.length;have:=SeqAt.RcNeAt.tuples (A:=A) (e:=f) pl pl' (by omega) (Uw I (A:=A.in1) (k:=k) (by rw [Hm];omega) r r' he);rwa [List.size_toArray,List.size_toArray,← l1,← l2] at this
end
section
variable {X:Cx}
noncomputable def GN (K:PySem.W.Frag):R2:=fun x y H Q=>∃ p q b,x=.ref p∧y=.ref q∧EqH K H 8 (.ref p) (.ref q) b∧Q (.bl (!b)) H
theorem JH (hU:X.A.units + 64 < cLine):OpR X (compareOp .NotEq) (GN X.K):=by
 intro pins s σ H x y v u Q I rx ry h;obtain ⟨p,q,b,rfl,rfl,hE,q'⟩:=h;cases rx;cases ry;exact ZL I hE X.A (by omega) _ _ _ _ ⟨.bl (!b),H,I,rfl,q'⟩
noncomputable def IN (K:PySem.W.Frag):R2:=fun x y H Q=>∃ p q b,x=.ref p∧y=.ref q∧EqH K H 8 (.ref p) (.ref q) b∧Q (.bl b) H
theorem VG (hU:X.A.units + 64 < cLine):OpR X (compareOp .Eq) (IN X.K):=by
 intro pins s σ H x y v u Q I rx ry h;obtain ⟨p,q,b,rfl,rfl,hE,q'⟩:=h;exact (dz I hE X.A v u (by omega) rx ry).2 p q rfl rfl _ _ _ _ ⟨.bl b,H,I,rfl,q'⟩
end
theorem EqH.mono {K:PySem.W.Frag} {H:Hp} {j k:Nat} {x y:V} {b:Bool} (h:EqH K H j x y b):j ≤ k→EqH K H k x y b:=by
 induction h generalizing k with
 | flat hx hy=>exact fun _=>.flat hx hy
 | lst hp hq hl he ih=>
  intro hk;obtain ⟨m,rfl⟩:∃ m,k=m + 1:=⟨k - 1,by omega⟩;exact .lst hp hq hl fun j x y h1 h2=>ih j x y h1 h2 (by omega)
 | lstN hp hq hl=>
  intro hk;obtain ⟨m,rfl⟩:∃ m,k=m + 1:=⟨k - 1,by omega⟩;exact .lstN hp hq hl
 | tup hp hq he ih=>
  intro hk;obtain ⟨m,rfl⟩:∃ m,k=m + 1:=⟨k - 1,by omega⟩;exact .tup hp hq fun j x y h1 h2=>ih j x y h1 h2 (by omega)
noncomputable def DM:V→V→Bool
 | .int _,.int _=>true
 | .str _,.str _=>true
 | .bl _,.bl _=>true
 | .non,.non=>true
 | _,_=>false
theorem Gx {x y:V} (h:DM x y=true):Aj x=true∧Aj y=true∧eqV x y=decide (x=y):=by
 cases x <;> cases y <;> first | (exfalso;simp [DM] at h;done) | (refine ⟨rfl,rfl,?_⟩;rfl) | (refine ⟨rfl,rfl,?_⟩;rw [Bool.eq_iff_iff];simp [eqV];done)
theorem EqH.flats {K:PySem.W.Frag} {H:Hp} {k:Nat} {p q:Addr} {xs ys:List V} (hp:SqL K H p xs) (hq:SqL K H q ys) (h:∀ x ∈ xs,∀ y ∈ ys,DM x y=true):EqH K H (k + 1) (.ref p) (.ref q) (decide (xs=ys)):=by
 by_cases hl:xs.length=ys.length
 ·have hd:decide (xs=ys)=(List.range xs.length).all fun j=>eqV (xs.getD j .non) (ys.getD j .non):=by
   rw [Bool.eq_iff_iff,decide_eq_true_eq,List.all_eq_true];constructor
   ·rintro rfl j hj;have hj':=List.mem_range.mp hj;have hm:xs.getD j .non ∈ xs:=by rw [List.getD_eq_getElem?_getD,List.getElem?_eq_getElem hj'];exact List.getElem_mem hj'
    rw [(Gx (h _ hm _ hm)).2.2,decide_eq_true rfl]
   ·intro z;refine List.ext_getElem hl fun j h1 h2=>?_
    have:=z j (List.mem_range.mpr h1);rw [List.getD_eq_getElem?_getD,List.getD_eq_getElem?_getD,List.getElem?_eq_getElem h1,List.getElem?_eq_getElem h2] at this;have w:eqV xs[j] ys[j]=true:=this;rw [(Gx (h _ (List.getElem_mem h1) _ (List.getElem_mem h2))).2.2,decide_eq_true_eq] at w;exact w
  rw [hd];refine .lst hp hq hl fun j x y h1 h2=>?_
  have e:=Gx (h x (List.mem_of_getElem? h1) y (List.mem_of_getElem? h2));rw [List.getD_eq_getElem?_getD,List.getD_eq_getElem?_getD,h1,h2];exact .flat e.1 e.2.1
 ·rw [decide_eq_false (fun z=>hl (by rw [z]))];exact .lstN hp hq hl
end L2
namespace L2
open PySem PySem.Spec PyProof.Rows PySem.Builtin PySem.Builtin.ObjectAttr
noncomputable abbrev bmV:List Value:=[.type "ValueError",.type "Exception",.type "BaseException",.type "object"]
noncomputable def vH (K:PySem.W.Frag) (C fI:Addr):Bool:=
 match K.lookup C with
 | some ⟨.type "type",_,.cls cd,sl⟩=>
  match cd.mro,sl.toList with
  | .ref D :: tl,[_,_,_,_,some (.builtin n),_]=>
   (D == C) && (n == "ValueError.__new__") && (cd.hasDel == false) && (cd.hasDict == true) && PySem.W.tailIn K bmV tl && PySem.W.nsOkIn K cd.ns && (PySem.W.nsIn K cd.ns "__init__" == some (some (.ref fI)))
  | _,_=>false
 | _=>false
section
variable {P:Program} {w:World} {A:Around} {h:Heap} {g:Array GenState} {d:Drawn} {t:Nat} {os:OsState} {K:PySem.W.Frag} {C fI:Addr} {R:Result→Shared→Prop}
end
noncomputable def UI:List Value→Bool
 | .ref _ :: r=>UI r
 | l=>l == bmV
structure ZN (K:PySem.W.Frag) (C:Addr):Prop where
 hd:PySem.W.hasDictIn K C=true
 ov:((PySem.W.clsIn K C).any fun cd=>UI cd.mro)=true
 sa:PySem.W.findIn K (.ref C) "__setattr__"=some (some (.builtin "object.__setattr__"))
 ga:PySem.W.findIn K (.ref C) "__getattribute__"=some (some (.builtin "BaseException.__getattribute__"))
 gt:PySem.W.findIn K (.ref C) "__getattr__"=some none
 ex:∃ fI,vH K C fI=true
noncomputable def XF (x C:Addr) (od:Option Addr):Heap→Prop:=fun h=>∃ vs sl,h.get? x=some ⟨.ref C,od,.fields vs,sl⟩∧1 < vs.size∧vs[1]? = some .none
noncomputable def XD (dx:Addr) (fs:List (Str × V)):Heap→Prop:=fun h=>∃ mA,h.Ns1 dx mA∧(∀ f,qu (fs.lookup f) (mA f))∧PySem.Within mA (fs.map (·.1))
theorem XF.at {x C:Addr} {od:Option Addr} {h h':Heap} (z:XF x C od h) (k:∀ o,h.get? x=some o→h'.get? x=some o):XF x C od h':=let ⟨vs,sl,e,r⟩:=z;⟨vs,sl,k _ e,r⟩
theorem XD.at {dx:Addr} {fs:List (Str × V)} {h h':Heap} (z:XD dx fs h) (k:∀ o,h.get? dx=some o→h'.get? dx=some o):XD dx fs h':=let ⟨mA,e,r⟩:=z;⟨mA,e.at k,r⟩
theorem XF.ok {P:Program} {w:World} {H:Hp} {h:Heap} {x C:Addr} {od:Option Addr} (z:XF x C od h):Zd P w H h x (.ext (XF x C od)):=by
 obtain ⟨vs,sl,e,r⟩:=id z;exact ⟨z,⟨_,e⟩,fun h1 h2 q k=>q.at k⟩
theorem XD.ok {P:Program} {w:World} {H:Hp} {h:Heap} {dx:Addr} {fs:List (Str × V)} (z:XD dx fs h):Zd P w H h dx (.ext (XD dx fs)):=by
 obtain ⟨mA,⟨o,es,ep,e,_⟩,_⟩:=id z;exact ⟨z,⟨_,e⟩,fun h1 h2 q k=>q.at k⟩
section
variable {prog:Program} {w:World} {A:Around} {E:Value→Shared→Prop} {K:PySem.W.Frag} {C x:Addr} {s:Shared} {R:Result→Shared→Prop}
end
section
variable {X:Cx} {pins:List (Addr × Obj)} {σ:St} {H:Hp} {s:Shared} {x C dx:Addr} {fs:List (Str × V)} {f:Str} {y:V} {u:Value} {A:Around} {E:Value→Shared→Prop} {Q:Unit→Shared→Prop}
noncomputable def XA (x C:Addr) (od:Option Addr):Heap→Prop:=fun h=>∃ vs sl,h.get? x=some ⟨.ref C,od,.fields vs,sl⟩
theorem XA.at {x C:Addr} {od:Option Addr} {h h':Heap} (z:XA x C od h) (k:∀ o,h.get? x=some o→h'.get? x=some o):XA x C od h':=let ⟨vs,sl,e⟩:=z;⟨vs,sl,k _ e⟩
theorem XA.ok {P:Program} {w:World} {H:Hp} {h:Heap} {x C:Addr} {od:Option Addr} (z:XA x C od h):Zd P w H h x (.ext (XA x C od)):=by
 obtain ⟨vs,sl,e⟩:=id z;exact ⟨z,⟨_,e⟩,fun h1 h2 q k=>q.at k⟩
end
noncomputable abbrev TJ:=St→Hp→(Hp→Prop)→Prop
section
variable {X:Cx} {e:Expr} {es:List Expr} {n:Nat} {t:TJ} {te:TE} {pos:Pos}
end
structure gO (K:PySem.W.Frag) (L:Addr) (m:Str):Prop where
 rd:PySem.W.readsIn K L (.type "type")=true
 fd:PySem.W.findCls K (.ref L) (.type "type") m=some (.val (.builtin "ValueError.__init__"))
 ga:PySem.W.specialIn K (.ref L) "__getattribute__"=some (some (.builtin "type.__getattribute__"))
section
variable {X:Cx} {L:Addr} {x:Str} {p pos apos:Pos} {e:Expr} {es:List Expr} {t:TA}
end
structure MkX (K:PySem.W.Frag) (C fI:Addr):Prop where
 e:vH K C fI=true
 fn:PySem.W.typeIn K (.ref fI)=some (.type "function")
 kp:PySem.W.keepIn K (.ref C)=true
section
variable {X:Cx} {k:Nat} {f C:Addr} {fd:FuncData} {ps:List Str} {sp:Sp} {x g:Str} {p pos pos' apos:Pos} {e o value:Expr} {es:List Expr} {ta tv:TE} {t:TA}
end
end L2
namespace L2
open PySem PySem.Spec PyProof.Rows PySem.Builtin PySem.Builtin.ObjectAttr
noncomputable def FlA (x C:Addr) (od:Option Addr) (T:Addr) (fl:Value) (h:Heap):Prop:=
 T ≠ x∧∃ vs sl oT ts,h.get? x=some ⟨.ref C,od,.fields vs,sl⟩∧vs[1]? = some (.ref T)∧h.get? T=some oT∧oT.data=.fields ts∧ts[3]? = some fl
structure Kp (fs:List Addr) (x:Addr) (To:Option Addr) (h h':Heap):Prop where
 keep:∀ b o,h.get? b=some o→b ∉ fs→b ≠ x→some b ≠ To→h'.get? b=some o
 slot:∀ b o,h.get? b=some o→b ∈ fs→∃ sl,h'.get? b=some { o with slots:=sl }
 there:∀ b o,h.get? b=some o→∃ o',h'.get? b=some o'
section
variable {M:Model} {A:Around} {E:Value→Shared→Prop} {s:Shared}
theorem nofr {base h:Heap} {l:List Env} {b:Addr} {o:Obj} {vs:Array Value} (hl:h.FunFrames base l) (e:h.get? b=some o) (d:o.data=.fields vs):b ∉ frs l:=fun hm=>by
 obtain ⟨_,o',e',nf⟩:=hl.mem hm;rw [e] at e';cases e';exact nf vs d
end
section
variable {P:Program} {w:World} {H:Hp} {h h':Heap} {fs:List Addr} {x C T:Addr} {od:Option Addr} {fl:Value} {To:Option Addr} {o:HO}
theorem Kp.hok (k:Kp fs x To h h') (ok:HOk P w H h) (hfs:∀ b ∈ fs,H b=none) (hT:∀ t,To=some t→H t=none) (mu:Mut (H x)) (new:XA x C od h'):HOk P w (upd H x (.ext (XA x C od))) h':=fun b u q=>by
 have nown:∀ c y,H c=some (.own y)→c ≠ x:=fun c y r z=>by subst z;rw [r] at mu;exact mu
 have ntup:∀ c xs,H c=some (.tup xs)→c ≠ x:=fun c xs r z=>by subst z;rw [r] at mu;exact mu
 have kk:∀ c v,c ≠ x→H c ≠ none→h.get? c=some v→h'.get? c=some v:=fun c v n1 n2 r=>k.keep c v r (fun z=>n2 (hfs c z)) n1 fun z=>n2 (hT c z.symm)
 by_cases hb:b=x
 ·subst hb;rw [cb] at q;cases q;exact new.ok
 ·rw [ub hb] at q;refine (ok b u q).stay (fun c v hc r=>?_) (fun c r=>by rw [ub (nown c b r)];exact r) fun c xs r=>by rw [ub (ntup c xs r)];exact r
  rcases hc with rfl | hc
  ·exact kk c v hb (by rw [q];exact fun z=>by cases z) r
  ·exact kk c v (nown c b hc) (by rw [hc];exact fun z=>by cases z) r
theorem Kp.un (k:Kp fs x To h h') (hT:∀ t,To=some t→H t=none) (mu:Mut (H x)):Un fs To.toList H (upd H x o) h h':=by
 have hx:∀ b,H b=none→b ≠ x:=fun b n z=>by subst z;rw [n] at mu;exact mu
 have hm:∀ b u,H b=some u→¬ Mut (some u)→b ≠ x:=fun b u q nm z=>by subst z;rw [q] at mu;exact nm mu
 refine ⟨fun b u q n n1 n2=>k.keep b u q n1 (hx b n) fun z=>n2 (by rw [← z];simp),fun b u q n n1 n2=>k.slot b u q n1,fun b u q n _=>by rw [ub (hx b n)];exact n,fun b u q _=>k.there b u q,
  fun b xs q=>by rw [ub (hm b _ q fun z=>z)];exact q,fun b u xs q=>by rw [ub (hm b _ q fun z=>z)];exact q,fun b ps q=>⟨#[],by rw [ub (hm b _ q fun z=>z),q];simp⟩⟩
end
noncomputable def CX1 (P:Program) (w:World):CXT:=fun outer H s E e s'=>
 ∃ x C od H' T,e=.ref x∧s'.os=s.os∧AllBare s'.gens∧Un (frs outer) [] H H' s.heap s'.heap∧HOk P w H' s'.heap∧H' x=some (.ext (XA x C od))∧s.heap.objs.size ≤ T∧H' T=none∧FlA x C od T .none s'.heap∧E (.ref C) od H'
structure Fr1 (X:Cx):Prop where
 st:X.stack=X.env :: X.outer
 fr:X.env.frame=some X.env.locals
noncomputable def RN (X:Cx) (pins:List (Addr × Obj)) (T:Addr):Prop:=(T ∈ X.ex∨X.s₀.heap.objs.size ≤ T)∧T ≠ X.env.locals∧(∀ x c,X.env.cells.lookup x=some c→c ≠ T)∧∀ p ∈ X.pn ++ pins,p.1 ≠ T
section
variable {X:Cx} {pins:List (Addr × Obj)} {σ:St} {H:Hp} {s:Shared} {T x C:Addr} {od:Option Addr} {E:St→XK} {M:Model} {A:Around} {E':Value→Shared→Prop} {Q:Unit→Shared→Prop} {e fl:Value} {h':Heap}
end
section
variable {P:Program} {w:World} {K:PySem.W.Frag} {mg:Str→Option Value} {base:Heap} {N:List Str} {qual:Str} {scope:Scope} {f:Addr} {cd:Value} {A:Around} {outer:List Env} {s:Shared} {H:Hp} {E:XK}
end
section
variable {X:Cx} {CX:CXT} {k:Nat} {f C:Addr} {fd:FuncData} {ps:List Str} {sp:Sp} {dvs:List V} {ds:List Value} {E:St→XK} {x m:Str} {p pos apos:Pos} {e o:Expr} {es:List Expr} {ta:TE} {t:TA}
end
noncomputable abbrev Cx.tr (X:Cx) (pn:List (Addr × Obj)) (E:Value→Shared→Prop):Cx:={ X with pn:=X.pn ++ pn,xe:=E }
noncomputable abbrev Cx.hn (X:Cx) (e:Value):Cx:={ X with A:=X.A.mark (some e),calm:=false,xe:=fun _ _=>False }
section
variable {X:Cx} {pins pins':List (Addr × Obj)} {σ:St} {H:Hp} {s:Shared} {E:Value→Shared→Prop} {e:Value}
theorem Cx.Ok.tr (ok:X.Ok) (pn:List (Addr × Obj)) (E:Value→Shared→Prop):(X.tr pn E).Ok:=
 ⟨ok.mod,ok.kind,ok.glob,ok.blt,ok.above,ok.inj,ok.has,ok.cab,ok.hd,ok.frames,ok.stk,ok.exf,ok.bs,ok.bsz,ok.noex,ok.exfs,ok.funs,ok.frf⟩
theorem Cx.Ok.hn (ok:X.Ok) (e:Value):(X.hn e).Ok:=
 ⟨ok.mod,ok.kind,ok.glob,ok.blt,ok.above,ok.inj,ok.has,ok.cab,(fun z=>Bool.noConfusion z),ok.frames,ok.stk,ok.exf,ok.bs,ok.bsz,ok.noex,ok.exfs,ok.funs,ok.frf⟩
theorem Inv.tr (I:Inv X pins σ H s) (E:Value→Shared→Prop):Inv (X.tr pins E) [] σ H s:=⟨I.ok.tr pins E,I.os,I.bare,I.base,I.loc,I.cell,I.free,I.freeC,fun p hp=>I.pin p (by simpa using hp),I.hok,I.len⟩
theorem Inv.hn (I:Inv X pins σ H s) (e:Value):Inv (X.hn e) pins σ H s:=⟨I.ok.hn e,I.os,I.bare,I.base,I.loc,I.cell,I.free,I.freeC,I.pin,I.hok,I.len⟩
end
noncomputable def Cj.gone (D:Cj) (i:Nat):Cj:={ nx:=fun σ H=>D.nx (σ.set i none) H,rt:=D.rt,bk:=fun σ H=>D.bk (σ.set i none) H,ct:=fun σ H=>D.ct (σ.set i none) H }
section
variable {X:Cx} {body suite:List Stmt} {b0:Stmt} {x n:Str} {c:Addr} {i:Nat} {tb:(St→XK)→TS} {th:TS} {xp hp pos:Pos}
end
theorem eJ (D:Cj) (i:Nat) (σ:St) (H:Hp):(D.gone i).nx σ H=D.nx (σ.set i none) H:=rfl
theorem xI (D:Cj) (i:Nat) (v:V) (H:Hp):(D.gone i).rt v H=D.rt v H:=rfl
theorem OwnTail.has {h:Heap} {bm tl:List Value} {v:Value} (T:OwnTail h bm tl) (e:bm.contains v=true):tl.contains v=true:=by
 induction T with
 | base=>exact e
 | own _ _ _ _ ih=>rw [List.contains_cons,ih,Bool.or_true]
section
variable {X:Cx} {e:Expr} {te:TE} {pos:Pos} {E:St→XK}
theorem PS.nox {X:Cx} {st:Stmt} {t:TS} (h:PS X.nox st t):PS X st t:=fun pins s σ H D I hw=>
 wpAny_mono (h pins s σ H D (I.wish _) hw) (fun _ _ q=>q.unwish) fun _ _ z=>False.elim z
end
noncomputable def xeB (B:Cx) (E:XK) (e:Value) (s':Shared):Prop:=
 ∃ pins fl σ' H' x C od T,e=.ref x∧Inv B pins σ' H' s'∧H' x=some (.ext (XA x C od))∧H' T=none∧RN B pins T∧B.s₀.heap.objs.size ≤ T∧FlA x C od T fl s'.heap∧E (.ref C) od H'
structure vN (X:Cx) (scope:Scope) (N:List Str) (tg elt:Expr) (ifs:List Expr) (g:TG) (tc:TT) (te:XK→TE):Prop where
 tgt:∀ E C s H fp,PG ((X.block scope C N s H fp).wish (xeB (X.block scope C N s H fp) E)) tg g
 tests:∀ E C s H fp,PTs ((X.block scope C N s H fp).wish (xeB (X.block scope C N s H fp) E)) ifs tc
 elem:∀ E C s H fp,PE ((X.block scope C N s H fp).wish (xeB (X.block scope C N s H fp) E)) elt (te E)
theorem vN.of {X:Cx} {scope:Scope} {N:List Str} {tg elt:Expr} {ifs:List Expr} {g:TG} {tc:TT} {te:XK→TE} (h1:∀ E C s H fp,PG ((X.block scope C N s H fp).wish (xeB (X.block scope C N s H fp) E)) tg g)
  (h2:∀ E C s H fp,∃ t,PTs ((X.block scope C N s H fp).wish (xeB (X.block scope C N s H fp) E)) ifs t∧t=tc) (h3:∀ E C s H fp,∃ t,PE ((X.block scope C N s H fp).wish (xeB (X.block scope C N s H fp) E)) elt t∧t=te E):vN X scope N tg elt ifs g tc te:=
 ⟨h1,fun E C s H fp=>by obtain ⟨t,h,rfl⟩:=h2 E C s H fp;exact h,fun E C s H fp=>by obtain ⟨t,h,e⟩:=h3 E C s H fp;rw [← e];exact h⟩
section
variable {X:Cx} {elt tg iter:Expr} {ifs:List Expr} {scope:Scope} {pos:Pos} {wi:TI} {g:TG} {tc:TT} {te:XK→TE} {N:List Str} {sel:List (Option Nat)}
theorem FlA.but {x C T c:Addr} {od:Option Addr} {fl:Value} {h h':Heap} (z:FlA x C od T fl h) (n1:x ≠ c) (n2:T ≠ c) (k:∀ b,b ≠ c→h'.get? b=h.get? b):FlA x C od T fl h':=by
 obtain ⟨ne,vs,sl,oT,ts,he,h1,hT,hd,h3⟩:=z;exact ⟨ne,vs,sl,oT,ts,(k _ n1).trans he,h1,(k _ n2).trans hT,hd,h3⟩
end
structure CN (K:PySem.W.Frag) (C:Addr):Prop where
 cl:Cls K C
 ha:PySem.W.findIn K (.ref C) "__class__"=some (some (.builtin "object.__class__"))
 hn:PySem.W.specialIn K (.builtin "object.__class__") "__get__"=some (some (.builtin "getset_descriptor.__get__"))
 htk:PySem.W.takesIn K (.builtin "object.__class__")=some true
 hm:PySem.W.mroIn K C (.type "object")=some true
theorem CN.ty {K:PySem.W.Frag} {H:Hp} {C a dx:Addr} {fs:List (Str × V)} (c:CN K C) (e:H a=some (.ins C dx fs)):Rz K H (.ref a) (.ref C):=.ins e c.cl c.ha c.hn c.htk c.hm
end L2
namespace L2
open PySem PySem.Spec PyProof.Rows
noncomputable def Itd (hi:Int) (n:Nat):It:=⟨fun i _=>i < n,fun i H x H'=>H'=H∧x=.int (hi - i),fun i _=>n ≤ i⟩
theorem aE {P:Program} {w:World} {K:PySem.W.Frag} {tg:Expr} (it:Addr) (hi:Int) (n:Nat):MJ P w K tg (Itd hi n) [it] it (fun i h=>IsRangeIter h it (hi + (i:Nat) * (-1)) ((n:Int) - (i:Nat)) (-1)) where
 mem:=by simp
 obj:=fun i h st b hb=>by
  have e:b=it:=by simpa using hb
  subst e;exact ⟨_,st,fun v z=>by
   have z':Data.fields _=Data.cell v:=z;cases z'⟩
 keep:=fun i h h' st k=>k it (by simp) _ st
 item:=by
  intro X hP hw hK hc i pins s σ H E I hf st hg;subst hP hw hK;obtain ⟨f0,f1,f2,f3,f4,f5⟩:=hf it (by simp);have W:=Walks.range (prog:=X.prog) (w:=X.w) (I.ok.hd hc) it hi (-1) n;refine W.item i s _ _ hg st fun v h' tk hv st' kk=>?_
  obtain ⟨t,rfl⟩:=hv;have I1:Inv X pins σ H { s with heap:=h',toks:=tk }:=I.turned (fun b o hb e=>kk b o (by simpa using hb) e) f0 f1 f3 f4 f5;refine ⟨_,rfl,CF (s:={ s with heap:=h',toks:=tk }) (n := "range_iterator") st' rfl rfl (by decide) ⟨.int (hi - i),H,I1,⟨t,?_⟩,⟨rfl,rfl⟩,st',fun b hb=>(hf b hb).1⟩⟩;congr 1;omega
 done:=by
  intro X hP hw hK hc i pins s σ H E I hf st hg;subst hP hw hK;obtain ⟨f0,f1,f2,f3,f4,f5⟩:=hf it (by simp);exact wpAny_pyNext_range_end (I.ok.hd hc) st (by have:n ≤ i:=hg;omega) fun h' eb=>⟨rfl,I.turned (t':=s.toks) (fun b o hb e=>eb b o hb e) f0 f1 f3 f4 f5⟩
 self:=fun _ _ _ _ _ st h=>wpAny_pyIter_rangeiter st h
theorem Hl (a b:Int):Builtin.Range.rangeSize a b (-1)=if b < a then a - b else 0:=by
 unfold Builtin.Range.rangeSize;rw [if_neg (show ¬ (-1:Int) > 0 by decide),show (- -1:Int)=1 by decide,Int.ediv_one];show (if b < a then a - b - 1 + 1 else 0)=_;split <;> omega
theorem gB {a b:Int} (ha:-(2 ^ 62) ≤ a) (ha':a < 2 ^ 62) (hb:-(2 ^ 62) ≤ b) (hb':b < 2 ^ 62):Builtin.Range.small a b (-1)=true:=by
 unfold Builtin.Range.small;rw [Hl];simp only [Builtin.Range.rangeFitsLong,Bool.and_eq_true,Bool.or_eq_true,decide_eq_true_eq,beq_iff_eq,show ¬ (-1:Int) > 0 by decide,if_false];split <;> omega
section
variable {X:Cx} {tg:Expr}
noncomputable def gL (ta:TA):TI:=fun σ H R=>ta σ H fun vs H1=>∃ i j:Int,vs=[.int i,.int j,.int (-1)]∧(-1073741824 ≤ i∧i < 1073741824∧-1073741824 ≤ j∧j < 1073741824)∧R (Itd i (i - j).toNat) H1
theorem vD {a b c:Expr} {ta:TA} {p pos:Pos} (hg:Gl X "range") (hm:X.mg "range"=none) (ha:PA X [a,b,c] ta) (hs:starEach [a,b,c] X.env=[(false,eval a X.env),(false,eval b X.env),(false,eval c X.env)]:=by rfl) (hs2:starEach [b,c] X.env=[(false,eval b X.env),(false,eval c X.env)]:=by rfl) :
  PI X tg (.Call (.Name "range" p) [a,b,c] [] pos) (gL ta):=by
 intro pins s σ H R I h;refine Call_ (Ym I hg hm boot_range (PyProof.Rows.callWith_type1 (thn (ha pos pins s σ H _ I h) fun us s1 hZ1=>?_) (by rw [hs,hs2]) (by rw [hs2];rfl)));obtain ⟨vs,H1,I1,r1,q1⟩:=hZ1;obtain ⟨i,j,e,⟨q1,q2,q3,q4⟩,q⟩:=q1;subst e;cases r1 with
 | cons r rr=>
  cases rr with
  | cons r' rr=>
   cases rr with
   | cons r'' rr=>
    cases rr;obtain ⟨t,rfl⟩:=r;obtain ⟨t',rfl⟩:=r';obtain ⟨t'',rfl⟩:=r'';refine call_range_3 (by decide) ?_ (Or.inl (PyProof.noPylong_small (by omega)));refine wpAny_pyIter_range (IsRange.new ..) (gB (by omega) (by omega) (by omega) (by omega)) ?_;have I2:Inv X pins σ H1 { s1 with heap:=s1.heap.push { cls:=.type "range",data:=.fields #[.int i t,.int j t',.int (-1) t''] },toks:=s1.toks }:=I1.kept fun b o e=>Heap.get?_push_of_some _ e
    refine ⟨(s1.heap.push { cls:=.type "range",data:=.fields #[.int i t,.int j t',.int (-1) t''] }).objs.size,[(s1.heap.push { cls:=.type "range",data:=.fields #[.int i t,.int j t',.int (-1) t''] }).objs.size],_,_,H1,rfl,
     I2.kept (t':=s1.toks) fun b o e=>Heap.get?_push_of_some _ e,aE _ i (i - j).toNat,?_,fun b hb=>?_,q⟩
    ·have e1:i + ((0:Nat):Int) * (-1)=i:=by simp
     have e2:(((i - j).toNat:Nat):Int) - ((0:Nat):Int)=Builtin.Range.rangeSize i j (-1):=by rw [Hl];split <;> omega
     show IsRangeIter _ _ (i + ((0:Nat):Int) * (-1)) ((((i - j).toNat:Nat):Int) - ((0:Nat):Int)) (-1);rw [e1,e2];exact Heap.get?_push_size _ rfl
    ·have e:b=(s1.heap.push { cls:=.type "range",data:=.fields #[.int i t,.int j t',.int (-1) t''] }).objs.size:=by simpa using hb
     subst e;exact I2.fpOk (Nat.le_refl _) (I2.hok.fresh (Nat.le_refl _))
end
theorem RA:typeLookup (.type "list_reverseiterator") "__len__"=pure none:=by rw [typeLookup_type,builtinLookup_eq_fast];kernel_rfl
theorem Lw:typeLookup (.type "list_reverseiterator") "__length_hint__"=pure (some (.builtin "list_reverseiterator.__length_hint__")):=by rw [typeLookup_type,builtinLookup_eq_fast];kernel_rfl
section
variable {prog:Program} {w:World} {A:Around} {E:Value→Shared→Prop} {s:Shared} {it l:Addr} {items:Array Value}
theorem UE (hT:s.TypeIs (.ref it) "list_reverseiterator") {Q:Bool→Shared→Prop} (h:Q false s):wpAny (model prog w) A (Builtin.List.listLengthHint (.ref it)) Q E s:=by
 unfold Builtin.List.listLengthHint;refine wpAny_bind (wpAny_specialOf hT RA ?_);show wpAny _ A (specialOf (Value.ref it) (Str.ofString "__length_hint__") >>= _) _ _ _;refine wpAny_bind (wpAny_specialOf hT Lw ?_);generalize hid:("list_reverseiterator.__length_hint__" : String)=id0
 wp_delta
 rw [show splitId id0=some ("list_reverseiterator","__length_hint__") from by subst hid;decide +kernel];subst hid;refine wpAny_bind (wpAny_isInstance (T := "list_reverseiterator") (b:=true) hT (by rw [isSubtype_type];kernel_rfl) ?_);refine wpAny_ite_split (fun hab=>absurd hab (by decide)) (fun _=>?_);refine wpAny_ite_split (fun _=>?_) (fun hab=>absurd (by decide +kernel) hab);refine wpAny_ite_split (fun hab=>absurd hab (by decide +kernel)) (fun _=>?_);exact wpAny_pure h
noncomputable abbrev DK (items:Array Value):Nat→Value→Prop:=fun i v=>items[items.size - 1 - i]? = some v
theorem dB {R:Result→Shared→Prop} (hh:A.handled=none) (hit:s.heap.IsRevIter it l ((items.size:Int) - 1 - ((0:Nat):Int))) (hl:s.heap.IsList l items) (hne:l ≠ it) (S:Addr) (hSi:S ≠ it) (hSl:S ≠ l) (res:Value) (c₀:Nat)
  (hS:s.heap.get? S=some { cls:=.type "list",data:=.seq #[] c₀ }) (hn:items.size ≤ sizeLine)
  (hR:∀ h' tk acc c,(∀ b o,b ≠ S→b ≠ it→s.heap.get? b=some o→h'.get? b=some o)→h'.get? S=some { cls:=.type "list",dict:=none,data:=.seq acc c,slots:=#[] }→ItemsOf (DK items) acc items.size→R (.ok (.ret res)) { s with heap:=h',toks:=tk }) :
  wpAny (model prog w) A.in1 (Builtin.List.listExtendWith (.ref S) (.ref it) res)
   (fun fin s'=>match fin with | .done f=>R (.ok f) s' | .again c'=>c'.quiet=true∧codeAny (model prog w) A c' R s') (fun e s'=>R (.error e) s') s:=by
 unfold Builtin.List.listExtendWith;refine wpAny_bind (wpAny_typeOf hit.typeIs ?_);have h1:Builtin.List.listSameRef (.ref S) (.ref it)=false:=by simp [Builtin.List.listSameRef,hSi]
 have h2:(Value.type "list_reverseiterator" == Value.type "list")=false:=by decide
 have h3:(Value.type "list_reverseiterator" == Value.type "tuple")=false:=by decide
 simp only [h1,h2,h3,Bool.or_false,Bool.false_eq_true,if_false];refine wpAny_bind (wpAny_pyIter_revIter hit ?_);refine wpAny_bind (wpAny_holding (UE hit.typeIs ?_));refine wpAny_ite_split (fun hab=>absurd hab (by decide +kernel)) (fun _=>?_);have W:=Walks.listRev (prog:=prog) (w:=w) (A:=A.in1) hh it l hne items;have hSf:S ∉ [it,l]:=by simp only [List.mem_cons,List.not_mem_nil,or_false,not_or];exact ⟨hSi,hSl⟩
 refine wpAny_pure ⟨plainId_quiet PySem.F.plain_extend_loop _,codeAny_extend_loopS W.toS hn S hSf res items.size 0 s #[] c₀ rfl (Nat.zero_le _) ⟨Nat.zero_le _,hit,hl⟩ hS (ItemsOf.nil _) fun s' acc c hm hS' hacc=>?_⟩;rw [Moved.eq_with hm];refine hR s'.heap s'.toks acc c (fun b o hb hi e=>hm.heap b o (fun hmem=>?_) e) hS' hacc;rcases List.mem_cons.mp hmem with e' | hmem
 ·exact hb e'
 ·exact hi (List.mem_singleton.mp hmem)
theorem gv {Q:Value→Shared→Prop} (hh:A.handled=none) (hit:s.heap.IsRevIter it l ((items.size:Int) - 1 - ((0:Nat):Int))) (hl:s.heap.IsList l items) (hne:l ≠ it) (hn:items.size ≤ sizeLine)
  (hQ:∀ h' tk acc c,(∀ b o,b ≠ it→s.heap.get? b=some o→h'.get? b=some o)→h'.get? s.heap.objs.size=some { cls:=.type "list",dict:=none,data:=.seq acc c,slots:=#[] }→ItemsOf (DK items) acc items.size→Q (.ref s.heap.objs.size) { s with heap:=h',toks:=tk }) :
  wpAny (model prog w) A (call (.type "list") [.ref it]) Q E s:=by
 have li:it < s.heap.objs.size:=by obtain ⟨_,e,_⟩:=hit;exact Heap.lt_size e
 have ll:l < s.heap.objs.size:=by obtain ⟨_,e,_⟩:=hl;exact Heap.lt_size e
 refine callType_codes (Q₁:=fun obj s₁=>obj=.ref s.heap.objs.size∧s₁ = { s with heap:=s.heap.push { cls:=.type "list",data:=.seq #[] } }) PySem.F.called_list (PySem.F.typeCall_list_1 _) PySem.F.entry_list_init
  (code_list_new _ ⟨rfl,rfl⟩) fun obj s₁ h₁=>?_
 obtain ⟨rfl,rfl⟩:=h₁;have hS:(s.heap.push { cls:=.type "list",data:=.seq #[] }).get? s.heap.objs.size=some { cls:=.type "list",data:=.seq #[] }:=Heap.get?_push_size _ rfl;refine ⟨⟨_,hS,rfl⟩,PySem.F.args_list_init_2 _ _,?_⟩;show wpAny _ _ (do let old ← Builtin.List.listItems (.ref s.heap.objs.size);Builtin.List.listUpdate (.ref s.heap.objs.size) (fun _=>#[]);letGo old.toList.reverse;Builtin.List.listExtendWith (.ref s.heap.objs.size) (.ref it) .none) _ _ _;refine wpAny_bind ?_;unfold Builtin.List.listItems;refine wpAny_bind (wpAny_seqItems hS rfl (wpAny_pure ?_));show wpAny _ _ (updateSeq s.heap.objs.size (fun _=>#[]) >>= fun _=>letGo (#[]:Array Value).toList.reverse >>= fun _=>Builtin.List.listExtendWith (.ref s.heap.objs.size) (.ref it) .none) _ _ _;refine wpAny_bind (wpAny_updateSeq hS rfl ?_);have hS₂:=Heap.get?_update_self (Obj.mapSeq (fun _=>(#[]:Array Value))) hS rfl;have oth:∀ b o,s.heap.get? b=some o→((s.heap.push { cls:=.type "list",data:=.seq #[] }).update s.heap.objs.size (Obj.mapSeq (fun _=>(#[]:Array Value)))).get? b=some o:=
  fun b o e=>(Heap.get?_update_other _ _ (Ne.symm (Nat.ne_of_lt (Heap.lt_size e)))).trans (Heap.get?_push_of_some _ e)
 refine wpAny_bind (wpAny_letGo ?_);refine dB (A:=A.in1) hh (hit.at fun o e=>oth _ o e) (hl.at fun o e=>oth _ o e) hne _ (Ne.symm (Nat.ne_of_lt li)) (Ne.symm (Nat.ne_of_lt ll)) .none _ hS₂ hn fun h' tk acc c hk hS' hacc=>?_
 exact ⟨rfl,hQ h' tk acc c (fun b o hb e=>hk b o (Nat.ne_of_lt (Heap.lt_size e)) hb (oth b o e)) hS' hacc⟩
end
section
variable {X:Cx}
noncomputable def Xy (K:PySem.W.Frag) (ta:TA):TE:=fun σ H Q=>ta σ H fun vs H1=>∃ a xs,vs=[.ref a]∧SqL K H1 a xs∧∀ l,H1 l=none→Q (.ref l) (upd H1 l (.lst xs.reverse))
theorem ao {a:Expr} {ta:TA} {p q pos pos':Pos} (hc:X.calm=true) (hg:Gl X "list") (hm:X.mg "list"=none) (hg':Gl X "reversed") (hm':X.mg "reversed"=none) (ha:PA X [a] ta) (hs:starEach [a] X.env=[(false,eval a X.env)]:=by rfl)
  (hs2:starEach [Expr.Call (.Name "reversed" q) [a] [] pos'] X.env=(false,eval (Expr.Call (.Name "reversed" q) [a] [] pos') X.env) :: starEach [] X.env:=by rfl) :
  PE X (.Call (.Name "list" p) [.Call (.Name "reversed" q) [a] [] pos'] [] pos) (Xy X.K ta):=by
 intro pins s σ H Q I h;refine wpAny_Call_Name_kw (Ym I hg hm Sd ?_);refine PyProof.Rows.callWith_type1 ?_ hs2 rfl;rw [hs2];show wpAny _ _ (spliced ((false,eval (Expr.Call (.Name "reversed" q) [a] [] pos') X.env) :: [])) _ _ s;refine Calls.spliced_cons ?_;refine Call_ (Ym I hg' hm' Ju (PyProof.Rows.callWith_type1 (thn (ha pos' pins s σ H _ I h) fun us s1 hZ1=>?_) hs rfl));obtain ⟨vs,H1,I1,r1,q1⟩:=hZ1;obtain ⟨a,xs,e,hq,q⟩:=q1;subst e;cases r1 with
 | cons r rr=>
  cases rr;cases r;obtain ⟨its,rv,pl,hz⟩:=I1.list hq;have hl:=rv.length;have hlt:a < s1.heap.objs.size:=by obtain ⟨_,e,_⟩:=pl.isList;exact Heap.lt_size e
  refine call_reversed_list pl.isList ?_;refine Calls.spliced_nil ?_;have hit:(s1.heap.push (revObj a ((its.toArray.size:Int) - 1))).IsRevIter s1.heap.objs.size a ((its.toArray.size:Int) - 1 - ((0:Nat):Int)):=by
   refine ⟨_,Heap.get?_push_size _ rfl,rfl,?_⟩;simp only [revObj];simp
  have kp:∀ b o,s1.heap.get? b=some o→(s1.heap.push (revObj a ((its.toArray.size:Int) - 1))).get? b=some o:=fun b o e=>Heap.get?_push_of_some _ e
  refine gv (I1.ok.hd hc) hit (pl.isList.at fun o e=>kp _ o e) (Nat.ne_of_lt hlt) (by rw [List.size_toArray];omega) fun h' tk acc c hk e' hacc=>?_
  refine ⟨.ref _,_,I1.laid (o:=.lst xs.reverse) (t':=tk) (fun b u e=>hk b u (Nat.ne_of_lt (Heap.lt_size e)) (kp b u e)) (by rw [Heap.size_push];exact Nat.le_succ _) ⟨by rw [List.length_reverse];omega,acc.toList,c,?_,e'⟩,rfl,q _ (I1.hok.fresh (by rw [Heap.size_push];exact Nat.le_succ _))⟩;have hv:=dt (f:=fun i=>xs.getD (xs.length - 1 - i) .non) (fun i v hv=>by
   have hv':its.toArray[its.toArray.size - 1 - i]? = some v:=hv;rw [List.size_toArray,← hl,List.getElem?_toArray] at hv';have hj:=(List.getElem?_eq_some_iff.mp hv').1;have hx:xs[xs.length - 1 - i]? = some xs[xs.length - 1 - i]:=List.getElem?_eq_getElem (by omega);obtain ⟨w,hw,rw'⟩:=rv.get hx;rw [hv'] at hw;cases hw;rw [List.getD_eq_getElem?_getD,hx];exact rw') hacc
  have er:(List.range its.toArray.size).map (fun i=>xs.getD (xs.length - 1 - i) .non)=xs.reverse:=by
   rw [List.size_toArray,← hl];refine List.ext_getElem (by simp) fun i h1 h2=>?_
   rw [List.getElem_map,List.getElem_range,List.getElem_reverse,List.getD_eq_getElem?_getD,List.getElem?_eq_getElem (by simp at h2;omega)];rfl
  rw [er] at hv;exact hv
end
section
variable {prog:Program} {w:World} {A:Around} {R:Result→Shared→Prop} {I:Addr} {fp wr:List Addr} {n:Nat} {P:Nat→Value→Prop} {St:Nat→Heap→Prop}
noncomputable def zK (P:Nat→Value→Prop) (bt:Nat→Nat→Bool) (j:Nat) (acc:Array Value):Prop:=(j=0∧acc=#[])∨∃ vb i,j=i + 1∧acc=#[vb,vb]∧P (argBest bt i) vb
theorem lC (W:Walks prog w A.in1 I fp wr n P St) (bt:Nat→Nat→Bool) (hcmp:CmpOf prog w A.in1 .Lt P bt) (S:Addr) (hSf:S ∉ fp) (dv:Value) (kn:Str) :
  ∀ (k j:Nat) (s:Shared) (acc:Array Value) (c:Nat),n - j=k→j ≤ n→St j s.heap→zK P bt j acc →
  s.heap.get? S=some { cls:=.type "list",dict:=none,data:=.seq acc c,slots:=#[] } →
  (∀ v h' tk,(n=0∧v=dv)∨(0 < n∧P (argBest bt (n - 1)) v)→(∀ b o,b ∉ wr→b ≠ S→s.heap.get? b=some o→h'.get? b=some o)→R (.ok (.ret v)) { s with heap:=h',toks:=tk }) →
  codeAny (model prog w) A (.builtin "min.loop" ⟨[.ref I,.none,.ref S],[(kn,dv)]⟩) R s:=by
 have hSw:S ∉ wr:=fun h=>hSf (W.sub _ h)
 have hname:(toString "min" ++ toString ".loop" : String) = "min.loop" := by decide
 intro k
 induction k with
 | zero=>
  intro j s acc c hk hj hst hB hS hR;have hin:j=n:=by omega
  refine codeAny_builtin PySem.F.entry_min_loop ?_;rw [Around.under_plainId PySem.F.plain_min_loop _];show wpAny _ A.in1 (seqItems? (.ref S) >>= _) _ _ s;refine wpAny_bind (wpAny_seqItems hS rfl ?_);show wpAny _ A.in1 (tryCatch (pyNext (.ref I)) _ >>= _) _ _ s;refine wpAny_bind (wpAny_tryCatch (W.done s _ _ (hin ▸ hst) fun h' tk hk'=>?_));have hS':=hk' S _ hSw hS;rcases hB with ⟨h0,rfl⟩ | ⟨vb,i,hi,rfl,hP⟩
  ·show wpAny _ A.in1 (rule _ >>= _) _ _ _;refine wpAny_bind (wpAny_rule (wpAny_pure ?_));exact hR dv h' tk (.inl ⟨by omega,rfl⟩) fun b o hbw hbS e=>hk' b o hbw e
  ·show wpAny _ A.in1 (updateSeq S (fun _=>#[]) >>= _) _ _ _;refine wpAny_bind ?_;refine wpAny_updateSeq hS' rfl (wpAny_bind (wpAny_letGo (wpAny_pure ?_)));refine hR vb _ tk (.inr ⟨by omega,by rw [show n - 1=i by omega];exact hP⟩) fun b o hbw hbS e=>(Heap.get?_update_other _ _ (Ne.symm hbS)).trans (hk' b o hbw e)
 | succ k ih=>
  intro j s acc c hk hj hst hB hS hR;have hlt:j < n:=by omega
  refine codeAny_builtin PySem.F.entry_min_loop ?_;rw [Around.under_plainId PySem.F.plain_min_loop _];show wpAny _ A.in1 (seqItems? (.ref S) >>= _) _ _ s;refine wpAny_bind (wpAny_seqItems hS rfl ?_);show wpAny _ A.in1 (tryCatch (pyNext (.ref I)) _ >>= _) _ _ s;refine wpAny_bind (wpAny_tryCatch (W.item j s _ _ hlt hst fun v h' tk hP hst' hk'=>?_));have hS':=hk' S _ hSw hS;have put:∀ h'':Heap,h''=h'.update S (Obj.mapSeq (fun _=>#[v,v]))→St (j + 1) h'':=fun h'' e=>by
   subst e;exact W.frame _ _ _ hst' fun b hbf o e=>(Heap.get?_update_other _ _ (fun h:S=b=>hSf (by rw [h];exact hbf))).trans e
  rcases hB with ⟨h0,rfl⟩ | ⟨vb,i,hi,rfl,hPb⟩
  ·show wpAny _ A.in1 (updateSeq S (fun _=>#[v,v]) >>= _) _ _ _;refine wpAny_bind ?_;refine wpAny_updateSeq hS' rfl ?_;rw [hname];refine wpAny_pure ⟨plainId_quiet PySem.F.plain_min_loop _,ih (j + 1) _ #[v,v] _ (by omega) hlt (put _ rfl) (.inr ⟨v,j,rfl,rfl,by subst h0;exact hP⟩) (Heap.get?_update_self _ hS' rfl) fun v' h'' tk'' hP' hk''=>?_⟩;exact hR v' h'' tk'' hP' fun b o hbw hbS e=>hk'' b o hbw hbS ((Heap.get?_update_other _ _ (Ne.symm hbS)).trans (hk' b o hbw e))
  ·subst hi;show wpAny _ A.in1 (tryCatch (holding [v,v] (richCompare .Lt v vb >>= _)) _ >>= _) _ _ _;refine wpAny_bind (wpAny_tryCatch (wpAny_holding (wpAny_bind (hcmp (i + 1) (argBest bt i) v vb _ _ _ hP hPb ?_))));refine wpAny_bind (wpAny_holding (wpAny_truthy_bool ?_));refine wpAny_bind (wpAny_letGo (wpAny_pure ?_));cases hb:bt (i + 1) (argBest bt i) with
   | true=>
    simp only [if_true];refine wpAny_bind ?_;refine wpAny_updateSeq hS' rfl (wpAny_bind (wpAny_letGo ?_));rw [hname];refine wpAny_pure ⟨plainId_quiet PySem.F.plain_min_loop _,ih (i + 1 + 1) _ #[v,v] _ (by omega) hlt (put _ rfl) (.inr ⟨v,i + 1,rfl,rfl,by simp only [argBest,hb,if_true];exact hP⟩) (Heap.get?_update_self _ hS' rfl) fun v' h'' tk'' hP' hk''=>?_⟩;exact hR v' h'' tk'' hP' fun b o hbw hbS e=>hk'' b o hbw hbS ((Heap.get?_update_other _ _ (Ne.symm hbS)).trans (hk' b o hbw e))
   | false=>
    simp only [Bool.false_eq_true,if_false];refine wpAny_bind (wpAny_letGo ?_);rw [hname];refine wpAny_pure ⟨plainId_quiet PySem.F.plain_min_loop _,ih (i + 1 + 1) _ #[vb,vb] c (by omega) hlt hst' (.inr ⟨vb,i + 1,rfl,rfl,by simp only [argBest,hb,Bool.false_eq_true,if_false];exact hPb⟩) hS' fun v' h'' tk'' hP' hk''=>?_⟩;exact hR v' h'' tk'' hP' fun b o hbw hbS e=>hk'' b o hbw hbS (hk' b o hbw e)
end
section
variable {prog:Program} {w:World} {A:Around} {E:Value→Shared→Prop} {s:Shared}
theorem QB (a d:Value):argsOk "min" ⟨[a],[(Str.ofString "default",d)]⟩:=by unfold argsOk;kernel_rfl
theorem bE {l:Addr} {its:Array Value} {dv:Value} {Q:Value→Shared→Prop} (hh:A.handled=none) (hl:s.heap.IsList l its) (ks:List Int) (hk:its.size=ks.length) (hv:∀ (i:Nat) (v:Value),its[i]? = some v→∃ t,v=Value.int (ks.getD i 0) t)
  (hQ:∀ v h' tk,(ks=[]∧v=dv)∨(∃ m t,ks.min? = some m∧v=.int m t)→(∀ b o,s.heap.get? b=some o→h'.get? b=some o)→Q v { s with heap:=h',toks:=tk }) :
  wpAny (model prog w) A (call (.builtin "min") [.ref l] [(Str.ofString "default",dv)]) Q E s:=by
 have hname:(toString "min" ++ toString ".loop" : String) = "min.loop" := by decide
 have hlt:l < s.heap.objs.size:=by obtain ⟨_,e,_⟩:=hl;exact Heap.lt_size e
 refine wpAny_call (codeAny_call_builtin PySem.F.plain_min PySem.F.entry_min ?_);simp only [checkBuiltinCall,PySem.F.kind_min];have key:wpAny (model prog w) A.in1 (Builtin.«min» ⟨[.ref l],[(Str.ofString "default",dv)]⟩) (fun fin s'=>match fin with
   | .done f=>(match (Except.ok f:Result) with | .ok (.ret v)=>Q v s' | .ok _=>False | .error e=>E e s')
   | .again c'=>c'.quiet=true∧codeAny (model prog w) A c' (fun r s'=>match r with | .ok (.ret v)=>Q v s' | .ok _=>False | .error e=>E e s') s') E s:=by
  show wpAny _ A.in1 (Builtin.Builtins.bindParams "min" ["key","default"] 0 ⟨[],[(Str.ofString "default",dv)]⟩ >>= _) _ _ s;refine wpAny_bind (wpAny_of_eq (show Builtin.Builtins.bindParams "min" ["key","default"] 0 ⟨[],[(Str.ofString "default",dv)]⟩=pure [none,some dv] from rfl) ?_);refine wpAny_bind (wpAny_pure ?_);refine wpAny_bind (wpAny_pyIter_list hl ?_);refine wpAny_bind (wpAny_newObj_type ?_);rw [hname];have W:=Walks.list (prog:=prog) (w:=w) (A:=A.in1) hh s.heap.objs.size l (Nat.ne_of_lt hlt) its;have hz1:(s.heap.push { cls:=.type "list_iterator",data:=.fields #[.ref l,.int 0 0] }).objs.size=s.heap.objs.size + 1:=Heap.size_push ..;refine wpAny_pure ⟨plainId_quiet PySem.F.plain_min_loop _,lC W _ (CmpOf.ints_lt (fun i=>ks.getD i 0) fun i v h=>hv i v h) _ ?_ dv _ its.size 0 _ #[] _ rfl (Nat.zero_le _) ?_ (.inl ⟨rfl,rfl⟩) (Heap.get?_push_size _ rfl) fun v h' tk hP hk'=>?_⟩
  ·show (s.heap.push _).objs.size ∉ _;rw [hz1];simp only [List.mem_cons,List.not_mem_nil,or_false,not_or];exact ⟨Nat.succ_ne_self _,Ne.symm (Nat.ne_of_lt (Nat.lt_succ_of_lt hlt))⟩
  ·exact W.frame 0 (s.heap.push { cls:=.type "list_iterator",data:=.fields #[.ref l,.int 0 0] }) _ ⟨⟨_,Heap.get?_push_size _ rfl,rfl,rfl⟩,hl.push _⟩ fun b _ o e=>Heap.get?_push_of_some _ e
  ·refine hQ v h' tk ?_ fun b o e=>hk' b o (fun hm=>?_) ?_ (Heap.get?_push_of_some _ (Heap.get?_push_of_some _ e))
   ·rcases hP with ⟨h0,h1⟩ | ⟨h0,h1⟩
    ·exact .inl ⟨List.length_eq_zero_iff.mp (by omega),h1⟩
    ·obtain ⟨t,e⟩:=hv _ v h1;have hb:=argBest_lt (fun i=>ks.getD i 0) (its.size - 1);refine .inr ⟨_,t,?_,e⟩;rw [List.min?_eq_some_iff];have hi:argBest (fun i j=>decide (ks.getD i 0 < ks.getD j 0)) (its.size - 1) < ks.length:=by omega
     refine ⟨?_,fun b hb'=>?_⟩
     ·rw [List.getD_eq_getElem?_getD,List.getElem?_eq_getElem hi];exact List.getElem_mem hi
     ·obtain ⟨j,hj,rfl⟩:=List.getElem_of_mem hb';have:=hb.2 j (by omega);rw [List.getD_eq_getElem?_getD (i:=j),List.getElem?_eq_getElem hj] at this;exact this
   ·rw [List.mem_singleton.mp hm] at e;exact absurd (Heap.lt_size e) (Nat.lt_irrefl _)
   ·rw [hz1];exact Nat.ne_of_lt (Nat.lt_succ_of_lt (Heap.lt_size e))
 cases hsig:Manifest.signature? "min" with
 | none=>exact wpAny_pure key
 | some sig=>
  have ha:=QB (.ref l) dv;have ha':Bind.checkArgs "min" sig ⟨[.ref l],[(Str.ofString "default",dv)]⟩=pure ():=by simpa only [argsOk,hsig] using ha
  simp only [ha'];exact wpAny_pure key
end
section
variable {X:Cx}
noncomputable def JK (K:PySem.W.Frag) (ta:TA) (td:TE):TE:=fun σ H Q=>ta σ H fun vs H1=>td σ H1 fun y H2=>∃ l ks,vs=[.ref l]∧SqL K H2 l (List.map V.int ks)∧Q (match ks.min? with | some m=>.int m | none=>y) H2
theorem MH {a d:Expr} {ta:TA} {td:TE} {p kp pos:Pos} (hc:X.calm=true) (hg:Gl X "min") (hm:X.mg "min"=none) (ha:PA X [a] ta) (hd:PE X d td)
  (he:∀ pos,backTo pos (starEach [a] X.env)=(false,eval a X.env) :: backTo pos (starEach [] X.env):=by intro _;rfl) (hpl:∀ pos,(backTo pos (starEach [a] X.env)).any (·.1)=false:=by intro _;rfl) :
  PE X (.Call (.Name "min" p) [a] [⟨some "default",d,kp⟩] pos) (JK X.K ta td):=by
 intro pins s σ H Q I h;refine wpAny_Call_Name_kw (Ym I hg hm (show bootBuiltins "min"=some (.builtin "min") by decide +kernel) ?_);refine callWith_kw (id := "min") (thn (ha pos pins s σ H _ I h) fun us s1 hZ1=>?_) (he:=he pos) (hplain:=hpl pos);obtain ⟨vs,H1,I1,r1,q1⟩:=hZ1;refine kws_cons (thn (hd pins s1 σ H1 _ I1 q1) fun v s2 ⟨y,H2,I2,r2,q2⟩=>kws_nil ?_);obtain ⟨l,ks,rfl,hq,q⟩:=q2;cases r1 with
 | cons r rr=>
  cases rr;cases r;obtain ⟨its,rv,pl,hz⟩:=I2.list hq;have hl:=rv.length;rw [List.length_map] at hl;refine bE (I2.ok.hd hc) pl.isList ks (by rw [List.size_toArray];omega) (fun i v hv=>?_) fun v' h' tk hv' hk=>⟨_,H2,I2.kept hk,?_,q⟩
  ·rw [List.getElem?_toArray] at hv;have hi:i < ks.length:=by have:=(List.getElem?_eq_some_iff.mp hv).1;omega
   obtain ⟨w,hw,rw'⟩:=rv.get (show (ks.map V.int)[i]? = some (.int ks[i]) by rw [List.getElem?_map,List.getElem?_eq_getElem hi];rfl);rw [hv] at hw;cases hw;rw [List.getD_eq_getElem?_getD,List.getElem?_eq_getElem hi];exact rw'
  ·rcases hv' with ⟨rfl,rfl⟩ | ⟨m,t,hm,rfl⟩
   ·exact r2
   ·rw [hm];exact ⟨t,rfl⟩
end
end L2
namespace L2
open PySem PySem.Spec PyProof.Rows
structure cO (K:PySem.W.Frag) (C:Addr):Prop where
 x:ZN K C
 ha:PySem.W.findIn K (.ref C) "__class__"=some (some (.builtin "object.__class__"))
 hn:PySem.W.specialIn K (.builtin "object.__class__") "__get__"=some (some (.builtin "getset_descriptor.__get__"))
 htk:PySem.W.takesIn K (.builtin "object.__class__")=some true
 hm:PySem.W.mroIn K C (.type "object")=some true
section
variable {prog:Program} {w:World} {A:Around} {E:Value→Shared→Prop} {s:Shared} {K:PySem.W.Frag} {x C:Addr} {od:Obj} {dx:Addr} {vs:Array Value} {sl:Array (Option Value)}
end
section
variable {X:Cx}
end
theorem Pb.quiet {P:Program} {w:World} {K:PySem.W.Frag} {mg:Str→Option Value} {base:Heap} {k:Nat} {f:Addr} {fd:FuncData} {ps:List Str} {sp sp':Sp} (F:Pb P w K mg base (CX1 P w) k f fd ps sp)
  (h:∀ vs H Q E,sp' vs H Q E→sp vs H Q (fun _ _ _=>False)):Pb P w K mg base CX0 k f fd ps sp':=by
 refine ⟨fun vs H Q E q=>F.len vs H _ _ (h vs H Q E q),fun A outer s H args us vs Q E hr he hb hv hs=>?_⟩;refine codeAny_mono (F.run A outer s H args us vs Q _ hr he hb hv (h vs H Q E hs)) fun r s' hq=>?_
 cases r with
 | error e=>
  obtain ⟨x,C,od,H',T,_,_,_,_,_,_,_,_,_,z⟩:=hq;exact z.elim
 | ok fl=>cases fl <;> exact hq
end L2
namespace L2
open PySem PySem.Spec PyProof.Rows
structure An (k:Nat) (A:Around):Prop where
 dp:A.depth + 3 * k + 5 < recursionLimit
 un:A.units + 16 * k + 200 < cLine
theorem Mj.h {k:Nat} {A:Around} (r:Mj k A):An k A:=⟨r.dp,r.un⟩
theorem An.mono {j k:Nat} {A:Around} (r:An k A) (h:j ≤ k):An j A:=⟨by have:=r.dp;omega,by have:=r.un;omega⟩
theorem An.deeper {k:Nat} {A:Around} (r:An (k + 1) A) (env:Env):An k (A.deeper env):=
 ⟨by have:=r.dp;show A.depth + 1 + 3 * k + 5 < _;omega,by have:=r.un;show A.units + 3 + 16 * k + 200 < _;omega⟩
theorem An.depth {k:Nat} {A:Around} (r:An k A):A.depth < recursionLimit:=by have:=r.dp;omega
theorem An.units {k:Nat} {A:Around} (r:An k A):A.units + 64 < cLine:=by have:=r.un;omega
theorem Mj.hn {k:Nat} {X:Cx} {e:Value} (r:Mj k X.A):An k (X.hn e).A:=⟨r.dp,r.un⟩
structure gI (P:Program) (w:World) (K:PySem.W.Frag) (mg:Str→Option Value) (base:Heap) (CX:CXT) (k:Nat) (f:Addr) (fd:FuncData) (ps:List Str) (sp:Sp):Prop where
 len:∀ vs H Q E,sp vs H Q E→vs.length=ps.length
 run:∀ (A:Around) (outer:List Env) (s:Shared) (H:Hp) (args:Args) (us:List Value) (vs:List V) (Q:VK) (E:XK),An k A→wC P w K mg base A outer s H→BindsTo s fd args (ps.zip us)→Ad vs us→sp vs H Q E →
  codeAny (model P w) A (.call (.ref f) args) (CR CX outer P w H s Q E) s
theorem gI.mono {P:Program} {w:World} {K:PySem.W.Frag} {mg:Str→Option Value} {base:Heap} {CX:CXT} {j k:Nat} {f:Addr} {fd:FuncData} {ps:List Str} {sp:Sp} (F:gI P w K mg base CX j f fd ps sp) (h:j ≤ k) :
  gI P w K mg base CX k f fd ps sp:=⟨F.len,fun A outer s H args us vs Q E hr=>F.run A outer s H args us vs Q E (hr.mono h)⟩
section
variable {X:Cx} {CX:CXT} {k:Nat} {f C:Addr} {fd:FuncData} {ps:List Str} {sp:Sp} {dvs:List V} {ds:List Value} {E:XK} {x m:Str} {p pos apos:Pos} {e o:Expr} {es:List Expr} {ta:TE} {t:TA}
end
noncomputable def IM (CX:CXT) (P:Program) (w:World) (K:PySem.W.Frag) (mg:Str→Option Value) (base:Heap) (N:List Str) (qual:Str) (scope:Scope) (f:Addr) (cd:Value) (A:Around) (outer:List Env) (s:Shared) (H:Hp) (E:XK):Cx where
 prog:=P
 w:=w
 K:=K
 mg:=mg
 base:=base
 A:=A.deeper (envOfC qual scope s.heap.objs.size f cd)
 N:=N
 s₀:=s
 H₀:=H
 env:=envOfC qual scope s.heap.objs.size f cd
 outer:=outer
 stack:=envOfC qual scope s.heap.objs.size f cd :: outer
 ex:=[]
 calm:=false
 fn:=fun _=>true
 pn:=[]
 xe:=fun e s'=>wpAny (model P w) (A.deeper (envOfC qual scope s.heap.objs.size f cd)) (leaving (envOfC qual scope s.heap.objs.size f cd) e) (fun _ s''=>CX outer H s E e s'') (fun e' s''=>CX outer H s E e' s'') s'
section
variable {P:Program} {w:World} {K:PySem.W.Frag} {mg:Str→Option Value} {base:Heap}
end
end L2
namespace L2
open PySem PySem.Spec PyProof.Rows
section
variable {X:Cx}
end
end L2
namespace L2
open PySem PySem.Spec PyProof.Rows
section
variable {α:Type} {M:List α→Prop}
theorem us1 (h:∀ a,M [a]):∀ us:List α,us.length=1→M us | [a],_=>h a
theorem us2 (h:∀ a b,M [a,b]):∀ us:List α,us.length=2→M us | [a,b],_=>h a b
theorem us3 (h:∀ a b c,M [a,b,c]):∀ us:List α,us.length=3→M us | [a,b,c],_=>h a b c
theorem us4 (h:∀ a b c d,M [a,b,c,d]):∀ us:List α,us.length=4→M us | [a,b,c,d],_=>h a b c d
theorem us5 (h:∀ a b c d e,M [a,b,c,d,e]):∀ us:List α,us.length=5→M us | [a,b,c,d,e],_=>h a b c d e
theorem us7 (h:∀ a b c d e f g,M [a,b,c,d,e,f,g]):∀ us:List α,us.length=7→M us | [a,b,c,d,e,f,g],_=>h a b c d e f g
theorem us8 (h:∀ a b c d e f g i,M [a,b,c,d,e,f,g,i]):∀ us:List α,us.length=8→M us | [a,b,c,d,e,f,g,i],_=>h a b c d e f g i
end
structure XB (K:PySem.W.Frag) (C:Addr):Prop where
 hd:PySem.W.hasDictIn K C=true
 ov:((PySem.W.clsIn K C).any fun cd=>UI cd.mro)=true
 sa:PySem.W.findIn K (.ref C) "__setattr__"=some (some (.builtin "object.__setattr__"))
 ga:PySem.W.findIn K (.ref C) "__getattribute__"=some (some (.builtin "BaseException.__getattribute__"))
 gt:PySem.W.findIn K (.ref C) "__getattr__"=some none
structure IB (K:PySem.W.Frag) (C:Addr):Prop where
 ha:PySem.W.findIn K (.ref C) "__class__"=some (some (.builtin "object.__class__"))
 hn:PySem.W.specialIn K (.builtin "object.__class__") "__get__"=some (some (.builtin "getset_descriptor.__get__"))
 htk:PySem.W.takesIn K (.builtin "object.__class__")=some true
 hm:PySem.W.mroIn K C (.type "object")=some true
end L2
namespace L2
open PySem PySem.Spec PyProof.Rows
theorem KA {ks:List Int}:∀ {its:List Value},Ad (ks.map V.int) its→∃ xs:List (Int × Tok),its=xs.map (fun p=>Value.int p.1 p.2)∧xs.map (·.1)=ks:=by
 induction ks with
 | nil=>intro its r;cases r;exact ⟨[],rfl,rfl⟩
 | cons k ks ih=>
  intro its r;cases r with
  | cons h t=>
   obtain ⟨xs,e1,e2⟩:=ih t;obtain ⟨tk,rfl⟩:=(show ∃ t,_=Value.int k t from h);exact ⟨(k,tk) :: xs,by rw [List.map_cons,← e1],by rw [List.map_cons,e2]⟩
section
variable {X:Cx}
end
end L2
namespace L2
open PySem PySem.Spec PyProof.Rows
noncomputable def GK (p d:Addr):Heap→Prop:=fun h=>PySem.W.KdlKeysView h p d
noncomputable def NM (p d:Addr):Heap→Prop:=fun h=>h.IsValuesView p d
theorem GK.ok {P:Program} {w:World} {H:Hp} {h:Heap} {p d:Addr} (z:GK p d h):Zd P w H h p (.ext (GK p d)):=
 ⟨z,let ⟨o,ho,_⟩:=z;⟨o,ho⟩,fun _ _ z1 k=>let ⟨o,ho,x⟩:=z1;⟨o,k o ho,x⟩⟩
theorem NM.ok {P:Program} {w:World} {H:Hp} {h:Heap} {p d:Addr} (z:NM p d h):Zd P w H h p (.ext (NM p d)):=
 ⟨z,let ⟨o,ho,_⟩:=z;⟨o,ho⟩,fun _ _ z1 k=>let ⟨o,ho,x⟩:=z1;⟨o,k o ho,x⟩⟩
section
variable {X:Cx}
noncomputable def xw:V→List V→Hp→VK→Prop:=fun x vs H Q=>∃ d kvs,x=.ref d∧vs=[]∧H d=some (.dK kvs)∧∀ p,H p=none→Q (.ref p) (upd H p (.ext (GK p d)))
end
end L2
namespace L2
open PySem PySem.Spec PyProof.Rows
noncomputable abbrev TF:=St→Hp→Str→(Str→Hp→Prop)→Prop
section
variable {X:Cx} {e:Expr} {es:List Expr} {t:TF} {te:TE} {pos:Pos}
end
end L2
namespace L2
open PySem PySem.Spec PyProof.Rows
noncomputable def VM (p:Addr) (a b c:Int):Heap→Prop:=fun h=>∃ t u v,IsRange h p a b c t u v
theorem VM.ok {P:Program} {w:World} {H:Hp} {h:Heap} {p:Addr} {a b c:Int} (z:VM p a b c h):Zd P w H h p (.ext (VM p a b c)):=
 ⟨z,let ⟨_,_,_,e⟩:=z;⟨_,e⟩,fun _ _ z1 k=>let ⟨t,u,v,e⟩:=z1;⟨t,u,v,k _ e⟩⟩
section
variable {X:Cx}
end
end L2
namespace L2
open PySem PySem.Spec PyProof.Rows
noncomputable def XN (c:Addr) (qual:Str):Heap→Prop:=fun h=>h.CodeRec (.ref c) qual
noncomputable def Tab (H:Hp) (Pt:Addr) (pos:Pos) (qual:Str):Prop:=
 ∃ ps,H Pt=some (.tbl ps)∧(ps=#[]∨∃ c',ps=#[rawInt pos.line,rawInt pos.col,.ref c']∧H c'=some (.ext (XN c' qual)))
noncomputable def Ay (Pt:Addr) (H H':Hp):Prop:=∀ b o,b ≠ Pt→H b=some o→H' b=some o
theorem Ay.refl (Pt:Addr) (H:Hp):Ay Pt H H:=fun _ _ _ h=>h
theorem Ay.trans {Pt:Addr} {H H1 H2:Hp} (a:Ay Pt H H1) (b:Ay Pt H1 H2):Ay Pt H H2:=fun c o n h=>b c o n (a c o n h)
theorem Jb.p {Pt:Addr} {H H':Hp} (s:Jb H H'):Ay Pt H H':=fun b o _ h=>s b o h
theorem Tab.ne {H:Hp} {Pt b:Addr} {pos:Pos} {qual:Str} {o:HO} (t:Tab H Pt pos qual) (h:H b=some o) (ho:∀ ps,o ≠ .tbl ps):b ≠ Pt:=fun e=>by
 obtain ⟨ps,e1,_⟩:=t;subst e;rw [e1] at h;exact ho ps (Option.some.inj h).symm
theorem Tab.step {H H':Hp} {Pt:Addr} {pos:Pos} {qual:Str} (t:Tab H Pt pos qual) (s:Jb H H'):Tab H' Pt pos qual:=by
 obtain ⟨ps,e,d⟩:=t;refine ⟨ps,s _ _ e,?_⟩;rcases d with d | ⟨c',d,e'⟩
 ·exact .inl d
 ·exact .inr ⟨c',d,s _ _ e'⟩
structure fO (X:Cx) (c Pt:Addr):Prop where
 code:X.env.code=.ref c
 hd:PySem.W.CodeHd X.base c Pt
 bm:X.base.BuiltinsAt X.mg Pt
section
variable {X:Cx} {pins:List (Addr × Obj)} {σ:St} {H:Hp} {s:Shared} {params:Arguments} {body:Expr} {scope:Scope} {pos:Pos} {c Pt:Addr} {clos:List (Str × Addr)} {Q:Value→Shared→Prop}
end
section
variable {P:Program} {w:World} {K:PySem.W.Frag} {mg:Str→Option Value} {base:Heap}
end
structure eO (p y:Str) (sc:Scope):Prop where
 kind:sc.kind=.function
 co:sc.isCoroutine=false
 gen:sc.isGenerator=false
 ne:p ≠ y
 par:sc.names.lookup p=some .local
 yf:sc.names.lookup y=some .free
 nocell:∀ z ∈ sc.names,z.2 ≠ .cell
 one:∀ z ∈ sc.names,z.2=.free→z.1=y
section
variable {X:Cx} {pins:List (Addr × Obj)} {σ:St} {H:Hp} {s:Shared} {k:Nat} {f c' cl:Addr} {q p y:Str} {params:Arguments} {body:Expr} {scope:Scope} {v:V} {t:TE}
end
end L2
namespace L2
open PySem PySem.Spec PyProof.Rows
end L2
namespace L2
open PySem PySem.Spec PyProof.Rows
section
variable {P:Program} {w:World} {A:Around} {E:Value→Shared→Prop} {s:Shared}
structure dO (h:Heap) (d:Addr) (o:Obj) (es:Array DictEntry) (ep:Nat):Prop where
 at_:h.get? d=some o
 ex:o.ExactDict
 dat:o.data=.dict es ep
end
noncomputable def AtO (a:Addr) (o:Obj):Heap→Prop:=fun h=>h.get? a=some o
structure iO (P:Program) (w:World) (H:Hp) (a:Addr) (kvs:List (List Key × V)) (o:Obj) (es:Array DictEntry) (ep:Nat) (xs:List (List Key × Addr × Value)):Prop where
 at_:H a=some (.ext (AtO a o))
 ex:o.ExactDict
 dat:o.data=.dict es ep
 ent:es.toList=xs.map (entryOfKey (tupleKind (rf P w)))
 nd:(xs.map (·.1)).Nodup
 ks:Paired (fun (p:List Key × V) (q:List Key × Addr × Value)=>p.1=q.1∧H q.2.1=some (.tup (p.1.map kV))∧Dd p.2 q.2.2) kvs xs
 sz:kvs.length ≤ sizeLine
 ns:(a == sysModules)=false
section
variable {P:Program} {w:World} {H H':Hp} {h:Heap} {a:Addr} {kvs:List (List Key × V)}
end
section
variable {X:Cx} {pins:List (Addr × Obj)} {σ:St} {H:Hp} {s:Shared} {a b:Addr} {kvs:List (List Key × V)} {k:List Key} {v:V} {r:Value} {A:Around} {E:Value→Shared→Prop}
end
section
variable {X:Cx} {o i e value:Expr} {pos pos' tpos:Pos} {td ty tv:TE}
end
section
variable {X:Cx} {tg:Expr}
end
end L2
namespace L2
open PySem PySem.Spec PyProof.Rows
noncomputable def QM (p d:Addr):Heap→Prop:=fun h=>h.IsItemsView p d
theorem QM.ok {P:Program} {w:World} {H:Hp} {h:Heap} {p d:Addr} (z:QM p d h):Zd P w H h p (.ext (QM p d)):=
 ⟨z,let ⟨o,ho,_⟩:=z;⟨o,ho⟩,fun _ _ z1 k=>let ⟨o,ho,x⟩:=z1;⟨o,k o ho,x⟩⟩
structure GM (H H':Hp) (l:Addr) (as:List Addr) (kvs:List (Key × V)):Prop where
 same:∀ b o,H b=some o→H' b=some o
 fresh:H l=none
 frAll:∀ a ∈ as,H a=none
 at_:H' l=some (.lst (as.map V.ref))
 len:as.length=kvs.length
 al:∀ (j:Nat) (a:Addr) (q:Key × V),as[j]? = some a→kvs[j]? = some q→H' a=some (.tup [kV q.1,q.2])
 only:∀ b o,H' b=some o→H b=some o∨o=.lst (as.map V.ref)∨∃ q ∈ kvs,o=.tup [kV q.1,q.2]
section
variable {X:Cx}
end
end L2
namespace L2
open PySem PySem.Spec PyProof.Rows
section
open AutoSeq1 (wpAny_loadPart')
open MeetsSeq MeetsSeq2 MeetsSeq3 SeqRoads2
variable {P:Program} {w:World} {l b:Addr} {xs ys:Array Value} {n m:Nat} {dd de:Option Addr} {sl sm:Array (Option Value)}
end
section
variable {X:Cx} {pins:List (Addr × Obj)} {σ:St} {H:Hp} {s:Shared}
structure DL (H:Hp) (p:Addr) (ps:List Addr) (ks:List (List (Key × V))):Prop where
 at_:H p=some (.lst (ps.map V.ref))
 len:ps.length=ks.length
 al:∀ (j:Nat) (a:Addr) (kvs:List (Key × V)),ps[j]? = some a→ks[j]? = some kvs→H a=some (.dK kvs)
end
section
variable {X:Cx}
end
end L2
namespace L2
open PySem PySem.Spec PyProof.Rows
section
variable {X:Cx} {pins:List (Addr × Obj)} {σ:St} {H:Hp} {s:Shared} {d:Addr} {o:Obj} {kvs:List (Key × V)}
end
section
variable {X:Cx} {tg:Expr}
end
end L2
namespace L2
open PySem PySem.Spec PyProof.Rows
theorem qJ (i:Nat) (σ:St) (H:Hp) (Q:VK):aN i σ H Q=(∃ v,σ[i]? = some (some v)∧Q v H):=rfl
theorem zM (v:V) (x_0:St) (H:Hp) (Q:VK):tC v x_0 H Q=(Q v H):=rfl
theorem xM (t:TE) (σ:St) (H:Hp) (Q:(Bool→Hp→Prop)):tB t σ H Q=(t σ H fun x H1=>∃ c,x=.bl c∧Q c H1):=rfl
theorem eI (t u:TT) (σ:St) (H:Hp) (Q:(Bool→Hp→Prop)):zN t u σ H Q=(t σ H fun c H1=>if c=true then u σ H1 Q else Q false H1):=rfl
theorem aM (t u:TT) (σ:St) (H:Hp) (Q:(Bool→Hp→Prop)):tOr t u σ H Q=(t σ H fun c H1=>if c=true then Q true H1 else u σ H1 Q):=rfl
theorem AJ (t:TT) (σ:St) (H:Hp) (Q:(Bool→Hp→Prop)):fN t σ H Q=(t σ H fun c H1=>Q (!c) H1):=rfl
theorem JF (ta tb:TE) (σ:St) (H:Hp) (Q:VK):WJ ta tb σ H Q=(ta σ H fun x H1=>∃ c,x=.bl c∧if c=true then tb σ H1 Q else Q (.bl false) H1):=rfl
theorem aJ (ta tb:TE) (σ:St) (H:Hp) (Q:VK):ON ta tb σ H Q=(ta σ H fun x H1=>∃ c,x=.bl c∧if c=true then Q (.bl true) H1 else tb σ H1 Q):=rfl
theorem OL (t:TT) (ta tb:TE) (σ:St) (H:Hp) (Q:VK):tIf t ta tb σ H Q=(t σ H fun c H1=>if c=true then ta σ H1 Q else tb σ H1 Q):=rfl
theorem Az (D:Cj) (σ:St) (H:Hp):WK  D σ H=(D.nx σ H):=rfl
theorem zb (t u:TS) (D:Cj) (σ:St) (H:Hp):pN t u D σ H=(t { D with nx:=u D } σ H):=rfl
theorem xG (te:TE) (D:Cj) (σ:St) (H:Hp):EK te D σ H=(te σ H fun _ H1=>D.nx σ H1):=rfl
theorem sI (te:TE) (D:Cj) (σ:St) (H:Hp):yM te D σ H=(te σ H D.rt):=rfl
theorem WC (x_0:Cj) (x_1:St) (x_2:Hp):tH  x_0 x_1 x_2=(False):=rfl
theorem Rf (i:Nat) (v:V) (σ:St) (H:Hp) (Q:(St→Hp→Prop)):Nw i v σ H Q=(Q (σ.set i (some v)) H):=rfl
theorem bJ (vs:List V) (σ:St) (H:Hp) (Q:(St→Hp→Prop)):lM  vs σ H Q=(vs=[]∧Q σ H):=rfl
theorem EG (t:TG) (u:TGs) (vs:List V) (σ:St) (H:Hp) (Q:(St→Hp→Prop)):zA t u vs σ H Q=(∃ v r,vs=v :: r∧t v σ H fun σ' H'=>u r σ' H' Q):=rfl
theorem tI (K:PySem.W.Frag) (n:Nat) (t:TGs) (v:V) (σ:St) (H:Hp) (Q:(St→Hp→Prop)):KK K n t v σ H Q=(∃ a xs,v=.ref a∧SqT K H a xs∧xs.length=n∧t xs σ H Q):=rfl
theorem HJ (to ti:TE) (t:qM) (v:V) (σ:St) (H:Hp) (Q:(St→Hp→Prop)):NN to ti t v σ H Q=(to σ H fun o H1=>ti σ H1 fun i H2=>t o i v H2 fun H3=>Q σ H3):=rfl
theorem pI (te:TE) (g:TG) (D:Cj) (σ:St) (H:Hp):oM te g D σ H=(te σ H fun x H1=>g x σ H1 D.nx):=rfl
theorem cJ (i:Nat) (te:TE) (ti:TIp) (D:Cj) (σ:St) (H:Hp):mN i te ti D σ H=(∃ x,σ[i]? = some (some x)∧te σ H fun y H1=>ti x y H1 fun z H2=>D.nx (σ.set i (some z)) H2):=rfl
theorem QF (K:PySem.W.Frag) (tl:TE) (σ:St) (H:Hp) (R:(It→Hp→Prop)):MK K tl σ H R=(tl σ H fun x H1=>∃ a,x=.ref a∧(∃ xs,SqL K H1 a xs)∧R (Itl K a) H1):=rfl
theorem rK (r:R2) (ta tb:TE) (σ:St) (H:Hp) (Q:VK):tOp r ta tb σ H Q=(ta σ H fun x H1=>tb σ H1 fun y H2=>r x y H2 Q):=rfl
theorem lK (r:V→Hp→VK→Prop) (ta:TE) (σ:St) (H:Hp) (Q:VK):tUn r ta σ H Q=(ta σ H fun x H1=>r x H1 Q):=rfl
theorem JM (C:Int→Int→Prop) (g:Int→Int→V) (x:V) (y:V) (H:Hp) (Q:VK):rI C g x y H Q=(∃ i j,x=.int i∧y=.int j∧C i j∧Q (g i j) H):=rfl
theorem lL (g:Int→Int→V) (x:V) (y:V) (H:Hp) (Q:VK):rI0 g x y H Q=(∃ i j,x=.int i∧y=.int j∧Q (g i j) H):=rfl
theorem EM (g:Int→V) (x:V) (H:Hp) (Q:VK):rU g x H Q=(∃ i,x=.int i∧Q (g i) H):=rfl
theorem RL (x:V) (y:V) (H:Hp) (Q:VK):rEq  x y H Q=(jM x y=true∧Q (.bl (decide (x=y))) H):=rfl
theorem SJ (x:V) (y:V) (H:Hp) (Q:VK):rNe  x y H Q=(jM x y=true∧Q (.bl (!decide (x=y))) H):=rfl
theorem iG (t:TE) (σ:St) (H:Hp) (Q:(Bool→Hp→Prop)):CK t σ H Q=(t σ H fun x H'=>∃ k,x=.bl k∧Q k H'):=rfl
theorem CI (K:PySem.W.Frag) (ta tv:TE) (f:Str) (D:Cj) (σ:St) (H:Hp):kN K ta tv f D σ H=(tv σ H fun y H1=>ta σ H1 fun x H2=>∃ a C dx fs,x=.ref a∧H2 a=some (.ins C dx fs)∧Cls K C∧gc K C f∧fs.length < 1000 ∧
 D.nx σ (upd H2 a (.ins C dx (Hi f y fs)))):=rfl
theorem Vz (K:PySem.W.Frag) (ta tv:TE) (rd:V→V→Hp→VK→Prop) (f:Str) (D:Cj) (σ:St) (H:Hp):GC K ta tv rd f D σ H=(ta σ H fun x H1=>∃ a C dx fs v,x=.ref a∧H1 a=some (.ins C dx fs)∧Cls K C∧gc K C f∧fs.lookup f=some v ∧
 tv σ H1 fun y H2=>rd v y H2 fun z H3=>∃ dx' fs',H3 a=some (.ins C dx' fs')∧fs'.length < 1000∧D.nx σ (upd H3 a (.ins C dx' (Hi f z fs')))):=rfl
theorem kJ (x:V) (y:V) (H:Hp) (Q:VK):xN  x y H Q=(∃ i j,x=.int i∧y=.int j∧Q (.int (i + j)) H):=rfl
theorem EJ (x_0:St) (H:Hp) (Q:(List V→Hp→Prop)):nM  x_0 H Q=(Q [] H):=rfl
theorem bF (ta:TE) (tr:TA) (σ:St) (H:Hp) (Q:(List V→Hp→Prop)):XL ta tr σ H Q=(ta σ H fun x H1=>tr σ H1 fun xs H2=>Q (x :: xs) H2):=rfl
theorem lJ (t:TA) (σ:St) (H:Hp) (Q:VK):FN t σ H Q=(t σ H fun xs H1=>xs.length ≤ sizeLine∧∀ p,H1 p=none→Q (.ref p) (upd H1 p (.tup xs))):=rfl
theorem II (t:TA) (σ:St) (H:Hp) (Q:VK):cN t σ H Q=(t σ H fun xs H1=>xs.length ≤ sizeLine∧∀ p,H1 p=none→Q (.ref p) (upd H1 p (.lst xs))):=rfl
theorem YF (sp:Sp) (dvs:List V) (E:XK) (t:TA) (σ:St) (H:Hp) (Q:VK):oJ sp dvs E t σ H Q=(t σ H fun vs H1=>sp (vs ++ dvs) H1 Q E):=rfl
theorem DE (C:Addr) (m:Str) (sp:Sp) (dvs:List V) (E:XK) (ta:TE) (t:TA) (σ:St) (H:Hp) (Q:VK):JJ C m sp dvs E ta t σ H Q=(ta σ H fun x H1=>∃ a dx fs,x=.ref a∧H1 a=some (.ins C dx fs)∧fs.lookup m=none ∧
 t σ H1 fun vs H2=>sp (x :: (vs ++ dvs)) H2 Q E):=rfl
theorem jG (C:Addr) (sp:Sp) (dvs:List V) (E:XK) (t:TA) (σ:St) (H:Hp) (Q:VK):BK C sp dvs E t σ H Q=(t σ H fun vs H1=>∀ x dx,H1 x=none→H1 dx=none→dx ≠ x →
 sp (.ref x :: (vs ++ dvs)) (upd (upd H1 dx (.own x)) x (.ins C dx [])) (fun v H2=>v=.non∧Q (.ref x) H2) E):=rfl
theorem QK (r:List V→Hp→VK→Prop) (t:TA) (σ:St) (H:Hp) (Q:VK):tCB r t σ H Q=(t σ H fun vs H1=>r vs H1 Q):=rfl
theorem CA (x_0:St) (H:Hp) (Q:(Option Int→Hp→Prop)):kE  x_0 H Q=(Q none H):=rfl
theorem GG (t:TE) (σ:St) (H:Hp) (Q:(Option Int→Hp→Prop)):vK t σ H Q=(t σ H fun x H1=>∃ i,x=.int i∧Q (some i) H1):=rfl
theorem bL (r:V→Option Int→Option Int→Hp→VK→Prop) (te:TE) (tl th:TO) (σ:St) (H:Hp) (Q:VK):tSl r te tl th σ H Q=(te σ H fun x H1=>tl σ H1 fun l H2=>th σ H2 fun u H3=>r x l u H3 Q):=rfl
theorem ZH (K:PySem.W.Frag) (x:V) (lo:Option Int) (hi:Option Int) (H:Hp) (Q:VK):BN K x lo hi H Q=(∃ a xs,x=.ref a∧SqT K H a xs ∧
 ¬ (HT.sIx xs.length 0 lo=0∧HT.sIx xs.length xs.length hi=xs.length)∧∀ p,H p=none→Q (.ref p) (upd H p (.tup (zo xs lo hi)))):=rfl
theorem BJ (K:PySem.W.Frag) (x:V) (y:V) (H:Hp) (Q:VK):gN K x y H Q=(∃ p xs i v,x=.ref p∧y=.int i∧SqL K H p xs∧atI xs i=some v∧Q v H):=rfl
theorem dJ (K:PySem.W.Frag) (x:V) (y:V) (H:Hp) (Q:VK):yN K x y H Q=(∃ p xs i v,x=.ref p∧y=.int i∧SqT K H p xs∧atI xs i=some v∧Q v H):=rfl
theorem LJ (x:V) (y:V) (H:Hp) (Q:VK):bN  x y H Q=(∃ z i c,x=.str z∧y=.int i∧z.length ≤ sizeLine∧atI z.cps.toList i=some c∧Q (.str ⟨#[c]⟩) H):=rfl
theorem zF (o:V) (i:V) (v:V) (H:Hp) (Q:(Hp→Prop)):FK  o i v H Q=(∃ p xs k j,o=.ref p∧i=.int k∧H p=some (.lst xs)∧ixN xs.length k=some j∧Q (upd H p (.lst (xs.set j v)))):=rfl
theorem oI (K:PySem.W.Frag) (x:V) (lo:Option Int) (hi:Option Int) (H:Hp) (Q:VK):dN K x lo hi H Q=(∃ a xs,x=.ref a∧SqL K H a xs∧∀ p,H p=none→Q (.ref p) (upd H p (.lst (zo xs lo hi)))):=rfl
theorem gK (K:PySem.W.Frag) (neg:Bool) (x:V) (y:V) (H:Hp) (Q:VK):rIn K neg x y H Q=(∃ p xs,y=.ref p∧(SqL K H p xs∨SqT K H p xs)∧Aj x=true∧xs.all Aj=true∧Q (.bl (if neg then !inV x xs else inV x xs)) H):=rfl
theorem zJ (K:PySem.W.Frag) (T:String) (r:V→List V→Hp→VK→Prop) (to:TE) (σ:St) (H:Hp) (Q:VK):qN K T r to σ H Q=(to σ H fun x H1=>tyV K T x H1∧r x [] H1 Q):=rfl
theorem VJ (K:PySem.W.Frag) (T:String) (r:V→List V→Hp→VK→Prop) (to:TE) (t:TA) (σ:St) (H:Hp) (Q:VK):tBM K T r to t σ H Q=(to σ H fun x H1=>tyV K T x H1∧t σ H1 fun xs H2=>r x xs H2 Q):=rfl
theorem MA (x:V) (vs:List V) (H:Hp) (Q:VK):tD  x vs H Q=(∃ l xs y,x=.ref l∧vs=[y]∧H l=some (.lst xs)∧xs.length < sizeLine∧Q .non (upd H l (.lst (xs ++ [y])))):=rfl
theorem yy (x:V) (vs:List V) (H:Hp) (Q:VK):lz  x vs H Q=(∃ l xs,x=.ref l∧vs=[]∧H l=some (.lst xs)∧Q .non (upd H l (.lst xs.reverse))):=rfl
theorem aI (x:V) (y:V) (H:Hp) (Q:VK):JN  x y H Q=(∃ l b xs zs,x=.ref l∧y=.ref b∧H l=some (.lst xs)∧H b=some (.lst zs)∧xs.length + zs.length ≤ sizeLine∧∀ p,H p=none→Q (.ref p) (upd H p (.lst (xs ++ zs)))):=rfl
theorem rF (td ty:TE) (σ:St) (H:Hp) (Q:VK):iK td ty σ H Q=(td σ H fun x H1=>ty σ H1 fun y H2=>∃ a v,x=.ref a∧Oo H2 a y (some v)∧Q v H2):=rfl
theorem yA (ty td:TE) (σ:St) (H:Hp) (Q:VK):dE ty td σ H Q=(ty σ H fun y H1=>td σ H1 fun x H2=>∃ a o,x=.ref a∧Oo H2 a y o∧Q (.bl (!o.isSome)) H2):=rfl
theorem lF (td ty tv:TE) (D:Cj) (σ:St) (H:Hp):bK td ty tv D σ H=(tv σ H fun v H1=>td σ H1 fun x H2=>ty σ H2 fun y H3=>∃ a H4,x=.ref a∧mB H3 a y v H4∧D.nx σ H4):=rfl
theorem nC (x_0:St) (H:Hp) (Q:VK):FH  x_0 H Q=(∀ p,H p=none→Q (.ref p) (upd H p (.dK []))):=rfl
theorem ZF (x_0:St) (H:Hp) (Q:(Bool→Hp→Prop)):OA  x_0 H Q=(Q true H):=rfl
theorem jI (tl:TE) (σ:St) (H:Hp) (R:(It→Hp→Prop)):wN tl σ H R=(tl σ H fun x H1=>∃ z,x=.str z∧R (Its (sj z)) H1):=rfl
theorem QI (x:V) (lo:Option Int) (hi:Option Int) (H:Hp) (Q:VK):MN  x lo hi H Q=(∃ z,x=.str z∧z.length ≤ sizeLine∧Q (.str (Txt.slice z lo hi)) H):=rfl
theorem AE (K:PySem.W.Frag) (x:V) (vs:List V) (H:Hp) (Q:VK):sL K x vs H Q=(∃ sep p ys,x=.str sep∧vs=[.ref p]∧SqL K H p (Kb ys)∧(ys.map (·.length)).sum + ys.length * sep.length ≤ 16777216∧Q (.str (Txt.join sep ys)) H):=rfl
theorem sD (x:V) (vs:List V) (H:Hp) (Q:VK):dH  x vs H Q=(∃ z y,x=.str z∧vs=[.str y]∧y.length ≠ 0∧z.length + 2 ≤ sizeLine∧(Txt.split z y).length ≤ sizeLine∧∀ p,H p=none→Q (.ref p) (upd H p (.lst (Kb (Txt.split z y))))):=rfl
theorem BC (OK:Addr→Prop) (m:Str) (SPV:Addr→Sp) (E:XK) (ta:TE) (t:TA) (σ:St) (H:Hp) (Q:VK):OG OK m SPV E ta t σ H Q=(ta σ H fun x H1=>∃ a C dx fs,x=.ref a∧H1 a=some (.ins C dx fs)∧OK C∧fs.lookup m=none ∧
 t σ H1 fun vs H2=>SPV C (x :: vs) H2 Q E):=rfl
theorem JE (K:PySem.W.Frag) (ta:TA) (σ:St) (H:Hp) (R:(It→Hp→Prop)):pK K ta σ H R=(ta σ H fun vs H1=>∃ a,vs=[.ref a]∧(∃ xs,SqL K H1 a xs)∧R (Ite K a) H1):=rfl
theorem GI (K:PySem.W.Frag) (x:V) (y:V) (H:Hp) (Q:VK):GN K x y H Q=(∃ p q b,x=.ref p∧y=.ref q∧EqH K H 8 (.ref p) (.ref q) b∧Q (.bl (!b)) H):=rfl
theorem GJ (K:PySem.W.Frag) (x:V) (y:V) (H:Hp) (Q:VK):IN K x y H Q=(∃ p q b,x=.ref p∧y=.ref q∧EqH K H 8 (.ref p) (.ref q) b∧Q (.bl b) H):=rfl
theorem bG (ta:TA) (σ:St) (H:Hp) (R:(It→Hp→Prop)):gL ta σ H R=(ta σ H fun vs H1=>∃ i j:Int,vs=[.int i,.int j,.int (-1)]∧(-1073741824 ≤ i∧i < 1073741824∧-1073741824 ≤ j∧j < 1073741824)∧R (Itd i (i - j).toNat) H1):=rfl
theorem ux (K:PySem.W.Frag) (ta:TA) (σ:St) (H:Hp) (Q:VK):Xy K ta σ H Q=(ta σ H fun vs H1=>∃ a xs,vs=[.ref a]∧SqL K H1 a xs∧∀ l,H1 l=none→Q (.ref l) (upd H1 l (.lst xs.reverse))):=rfl
theorem aG (K:PySem.W.Frag) (ta:TA) (td:TE) (σ:St) (H:Hp) (Q:VK):JK K ta td σ H Q=(ta σ H fun vs H1=>td σ H1 fun y H2=>∃ l ks,vs=[.ref l]∧SqL K H2 l (List.map V.int ks)∧Q (match ks.min? with | some m=>.int m | none=>y) H2):=rfl
theorem EF (x:V) (vs:List V) (H:Hp) (Q:VK):xw  x vs H Q=(∃ d kvs,x=.ref d∧vs=[]∧H d=some (.dK kvs)∧∀ p,H p=none→Q (.ref p) (upd H p (.ext (GK p d)))):=rfl
noncomputable def Eh (J:It) (g:TG) (tb:TS) (D:Cj) (σ:St) (H:Hp):Prop:=∃ W:Nat→Nat→St→Hp→Prop,(∃ m,W 0 m σ H)∧∀ i m σ H,W i m σ H →
 (J.stop i H∧D.nx σ H)∨(J.go i H∧∃ N:St→Hp→Prop,(∀ σ' H',N σ' H'→∃ m',m' < m∧W (i + 1) m' σ' H')∧∀ x H',J.yld i H x H'→g x σ H' fun σ2 H2=>tb { D with nx:=N,ct:=N,bk:=D.nx } σ2 H2)
theorem qI (wi:TI) (g:TG) (tb:TS) (D:Cj) (σ:St) (H:Hp):tN wi g tb D σ H=wi σ H fun J H1=>Eh J g tb D σ H1:=rfl
noncomputable def ed (J:It) (g:TG) (tc:TT) (te:TE) (σb:St) (Q:VK) (H:Hp):Prop:=∃ W:Nat→Nat→List V→Hp→Prop,(∃ m,W 0 m [] H)∧vA J g tc te σb Q W
theorem bI (K:PySem.W.Frag) (ta:TE) (f:Str) (σ:St) (H:Hp) (Q:VK):RM K ta f σ H Q=(ta σ H fun x H1=>∃ a v,x=.ref a∧Bj K H1 a f v∧Q v H1):=by
 unfold RM Bj;congr 1;funext x H1;apply propext;constructor
 ·rintro ⟨a,C,dx,fs,v,h1,h2,h3,h4,h5,h6⟩;exact ⟨a,v,h1,⟨C,dx,fs,h2,h3,h4,h5⟩,h6⟩
 ·rintro ⟨a,v,h1,⟨C,dx,fs,h2,h3,h4,h5⟩,h6⟩;exact ⟨a,C,dx,fs,v,h1,h2,h3,h4,h5,h6⟩
theorem wF (wi:TI) (g:TG) (tc:TT) (te:TE) (sel:List (Option Nat)) (σ:St) (H:Hp) (Q:VK):EI wi g tc te sel σ H Q=wi σ H fun J H1=>ed J g tc te (blk sel σ) Q H1:=rfl
theorem FE (ta:TA) (σ:St) (H:Hp) (R:It→Hp→Prop):wL ta σ H R=(ta σ H fun vs H1=>∃ j:Int,vs=[.int j]∧-4611686018427387904 ≤ j∧j < 4611686018427387904∧R (Itr 0 j.toNat) H1):=rfl
theorem FJ (sel:List (Option Nat)) (σ:St):blk sel σ=sel.map fun o=>o.bind fun j=>(σ[j]?).join:=rfl
theorem Dc {c:TT} {t u:TS} {D:Cj} {σ:St} {H:Hp} (b:Bool) (hc:∀ Q:Bool→Hp→Prop,Q b H→c σ H Q) (h1:b=true→t D σ H) (h2:b=false→u D σ H):uM c t u D σ H:=by
 refine hc _ ?_;cases b with
 | true=>exact h1 rfl
 | false=>exact h2 rfl
theorem Pi {c:TT} {t u:TS} {D:Cj} {σ:St} {H:Hp} (R:Bool→Hp→Prop) (hc:∀ Q:Bool→Hp→Prop,(∀ b H',R b H'→Q b H')→c σ H Q) (h1:∀ H',R true H'→t D σ H') (h2:∀ H',R false H'→u D σ H'):uM c t u D σ H:=by
 refine hc _ fun b H' r=>?_
 cases b with
 | true=>exact h1 H' r
 | false=>exact h2 H' r
theorem Hb {t:TS} {D:Cj} {σ:St} {H:Hp} (R:St→Hp→Prop) (h:∀ D':Cj,(∀ σ H,R σ H→D'.nx σ H)→D'.rt=D.rt→D'.bk=D.bk→D'.ct=D.ct→t D' σ H) (hR:∀ σ H,R σ H→D.nx σ H):t D σ H:=h D hR rfl rfl rfl
theorem zzC {t:TS} {D:Cj} {σ:St} {H:Hp} (R:St->Hp->Prop) (h:∀ D':Cj,(∀ σ H,R σ H->D'.nx σ H)->t D' σ H) (hR:∀ M,M=D.nx->∀ σ H,R σ H->M σ H):t D σ H:=h D (hR _ rfl)
theorem zP {p:Prop} (h:∀ q,q=p->q):p:=h p rfl
theorem zzD {t:TS} {D:Cj} {σ:St} {H:Hp} (R:St->Hp->Prop) (h:∀ D':Cj,(∀ σ H,R σ H->D'.nx σ H)->t D' σ H) (hR:∀ σ H,R σ H->D.nx σ H):t D σ H:=h D hR
theorem zS {t u:TS} {D:Cj} {σ:St} {H:Hp} (R:St->Hp->Prop) (h:∀ D':Cj,(∀ σ H,R σ H->D'.nx σ H)->t D' σ H) (hR:∀ M,M=u D->∀ σ H,R σ H->M σ H):pN t u D σ H:=h { D with nx:=u D } (hR _ rfl)
theorem OH {te:TE} {D:Cj} {σ:St} {H:Hp} (v:V) (hc:∀ Q:VK,Q v H→te σ H Q) (h:D.rt v H):yM te D σ H:=hc _ h
theorem Yn (x y:Str):(x ++ y).length=x.length + y.length:=by
 show (x.cps ++ y.cps).size=_;rw [Array.size_append];rfl
theorem Eh.range {lo:Int} {n:Nat} {g:TG} {tb:TS} {D:Cj} {σ:St} {H:Hp} (Pv:Nat→St→Hp→Prop) (h0:Pv 0 σ H)
  (hs:∀ i σ H,i < n→Pv i σ H→g (.int (lo + i)) σ H fun σ2 H2=>tb { D with nx:=Pv (i + 1),ct:=Pv (i + 1),bk:=D.nx } σ2 H2) (hd:∀ σ H,Pv n σ H→D.nx σ H):Eh (Itr lo n) g tb D σ H:=rD Pv h0 hs hd
theorem Eh.list {K:PySem.W.Frag} {a:Addr} {xs:List V} {g:TG} {tb:TS} {D:Cj} {σ:St} {H:Hp} (Pv:Nat→St→Hp→Prop) (h0:Pv 0 σ H) (hl:∀ i σ H,i ≤ xs.length→Pv i σ H→SqL K H a xs)
  (hs:∀ i x σ H,xs[i]? = some x→Pv i σ H→g x σ H fun σ2 H2=>tb { D with nx:=Pv (i + 1),ct:=Pv (i + 1),bk:=D.nx } σ2 H2) (hd:∀ σ H,Pv xs.length σ H→D.nx σ H):Eh (Itl K a) g tb D σ H:=ZE Pv h0 hl hs hd
theorem Eh.its {xs:List V} {g:TG} {tb:TS} {D:Cj} {σ:St} {H:Hp} (Pv:Nat→St→Hp→Prop) (h0:Pv 0 σ H)
  (hs:∀ i x σ H,xs[i]? = some x→Pv i σ H→g x σ H fun σ2 H2=>tb { D with nx:=Pv (i + 1),ct:=Pv (i + 1),bk:=D.nx } σ2 H2) (hd:∀ σ H,Pv xs.length σ H→D.nx σ H):Eh (Its xs) g tb D σ H:=uJ Pv h0 hs hd
theorem ed.list {K:PySem.W.Frag} {a:Addr} {xs:List V} {g:TG} {tc:TT} {te:TE} {σb:St} {Q:VK} {H:Hp} (Pv:Nat→List V→Hp→Prop) (hz:xs.length ≤ sizeLine) (h0:Pv 0 [] H) (hl:∀ i ys H,i ≤ xs.length→Pv i ys H→SqL K H a xs∧ys.length ≤ i)
  (hs:∀ i x ys H,xs[i]? = some x→Pv i ys H→Jh Pv g tc te σb i x ys H) (hd:∀ ys H,Pv xs.length ys H→∀ p,H p=none→Q (.ref p) (upd H p (.lst ys))):ed (Itl K a) g tc te σb Q H:=qC Pv hz h0 hl hs hd
theorem ed.its {xs:List V} {g:TG} {tc:TT} {te:TE} {σb:St} {Q:VK} {H:Hp} (Pv:Nat→List V→Hp→Prop) (hz:xs.length ≤ sizeLine) (h0:Pv 0 [] H) (hl:∀ i ys H,i ≤ xs.length→Pv i ys H→ys.length ≤ i)
  (hs:∀ i x ys H,xs[i]? = some x→Pv i ys H→Jh Pv g tc te σb i x ys H) (hd:∀ ys H,Pv xs.length ys H→∀ p,H p=none→Q (.ref p) (upd H p (.lst ys))):ed (Its xs) g tc te σb Q H:=nG Pv hz h0 hl hs hd
theorem ed.range {lo:Int} {n:Nat} {g:TG} {tc:TT} {te:TE} {σb:St} {Q:VK} {H:Hp} (Pv:Nat→List V→Hp→Prop) (hz:n ≤ sizeLine) (h0:Pv 0 [] H) (hl:∀ i ys H,i ≤ n→Pv i ys H→ys.length ≤ i)
  (hs:∀ i ys H,i < n→Pv i ys H→Jh Pv g tc te σb i (.int (lo + i)) ys H) (hd:∀ ys H,Pv n ys H→∀ p,H p=none→Q (.ref p) (upd H p (.lst ys))):ed (Itr lo n) g tc te σb Q H:=cB Pv hz h0 hl hs hd
theorem Gu {α β:Type} {xs:List α} {i:Nat} {x:α} (f:α→β) (h:xs[i]? = some x):(xs.take (i + 1)).map f=(xs.take i).map f ++ [f x]:=by
 rw [List.take_add_one,h,List.map_append];rfl
theorem ed.its_map {xs:List V} {g:TG} {te:TE} {σb:St} {Q:VK} {H:Hp} (f:V→V) (hz:xs.length ≤ sizeLine) (hs:∀ (i:Nat) (x:V) (N:V→Hp→Prop),xs[i]? = some x→N (f x) H→g x σb H fun σ2 H2=>Sub σb σ2∧te σ2 H2 N)
  (hd:∀ p,H p=none→Q (.ref p) (upd H p (.lst (xs.map f)))):ed (Its xs) g OA te σb Q H:=by
 refine ed.its (fun i ys H'=>H'=H∧ys=(xs.take i).map f) hz ⟨rfl,rfl⟩ (fun i ys H' hi ⟨_,e⟩=>?_) (fun i x ys H' hx ⟨e1,e2⟩ N hN=>?_) (fun ys H' ⟨e1,e2⟩ p hp=>?_)
 ·rw [e,List.length_map,List.length_take];omega
 ·subst e1;exact hs i x (fun y H4=>N (ys ++ [y]) H4) hx (hN _ _ ⟨rfl,by rw [e2,Gu f hx]⟩)
 ·subst e1;rw [e2,List.take_length];exact hd p hp
theorem ed.range_map {lo:Int} {n:Nat} {g:TG} {te:TE} {σb:St} {Q:VK} {H:Hp} (f:Nat→V) (hz:n ≤ sizeLine) (hs:∀ (i:Nat) (N:V→Hp→Prop),i < n→N (f i) H→g (.int (lo + i)) σb H fun σ2 H2=>Sub σb σ2∧te σ2 H2 N)
  (hd:∀ p,H p=none→Q (.ref p) (upd H p (.lst ((List.range n).map f)))):ed (Itr lo n) g OA te σb Q H:=by
 refine ed.range (fun i ys H'=>H'=H∧ys=(List.range i).map f) hz ⟨rfl,rfl⟩ (fun i ys H' hi ⟨_,e⟩=>?_) (fun i ys H' hi ⟨e1,e2⟩ N hN=>?_) (fun ys H' ⟨e1,e2⟩ p hp=>?_)
 ·rw [e,List.length_map,List.length_range];exact Nat.le_refl _
 ·subst e1;exact hs i (fun y H4=>N (ys ++ [y]) H4) hi (hN _ _ ⟨rfl,by rw [e2,List.range_succ,List.map_append];rfl⟩)
 ·subst e1;rw [e2];exact hd p hp
theorem ed.list_mk {K:PySem.W.Frag} {a:Addr} {xs:List V} {g:TG} {te:TE} {σb:St} {Q:VK} {H:Hp} (f:V→HO) (hl:SqL K H a xs) (hz:xs.length ≤ sizeLine) (hn:∀ x,noT (f x)=true)
  (hs:∀ (i:Nat) (x:V) (H1:Hp) (N:V→Hp→Prop),xs[i]? = some x→Jb H H1→(NoT H→NoT H1)→(∀ q,H1 q=none→N (.ref q) (upd H1 q (f x)))→g x σb H1 fun σ2 H2=>Sub σb σ2∧te σ2 H2 N)
  (hd:∀ (qs:List Addr) (H1:Hp),Jb H H1→(NoT H→NoT H1)→qs.length=xs.length→(∀ (j:Nat) (q:Addr) (x:V),qs[j]? = some q→xs[j]? = some x→H1 q=some (f x)∧H q=none)→∀ p,H1 p=none→Q (.ref p) (upd H1 p (.lst (qs.map V.ref)))):ed (Itl K a) g OA te σb Q H:=by
 refine ed.list (fun i ys H'=>∃ qs:List Addr,ys=qs.map V.ref∧qs.length=i∧Jb H H'∧(NoT H→NoT H')∧∀ (j:Nat) (q:Addr) (x:V),qs[j]? = some q→xs[j]? = some x→H' q=some (f x)∧H q=none) hz
  ⟨[],rfl,rfl,Jb.refl H,id,fun j q x h _=>by simp at h⟩ ?_ ?_ ?_
 ·rintro i ys H' hi zzq;refine zP fun zzM zzh=>?_
  obtain ⟨qs,e,e2,sm,_,_⟩:=zzq;subst zzh;exact ⟨hl.same sm,by rw [e,List.length_map];omega⟩
 ·rintro i x ys H' hx ⟨qs,e1,e2,sm,nt,al⟩ N hN;refine hs i x H' (fun y H4=>N (ys ++ [y]) H4) hx sm nt fun q hq=>hN _ _ ⟨qs ++ [q],by rw [e1,List.map_append];rfl,by rw [List.length_append,e2];rfl,sm.updN (sm.free hq),fun n=>(nt n).upd (hn x),fun j q' x' h1 h2=>?_⟩
  by_cases hj:j < qs.length
  ·rw [List.getElem?_append_left hj] at h1;obtain ⟨z1,z2⟩:=al j q' x' h1 h2;exact ⟨by rw [ub (wb z1 hq)];exact z1,z2⟩
  ·rw [List.getElem?_append_right (by omega)] at h1;have hj0:j - qs.length=0:=by
    cases hh:j - qs.length with
    | zero=>rfl
    | succ n=>rw [hh] at h1;simp at h1
   rw [hj0] at h1;have e3:q=q':=by simpa using h1
   subst e3;have e4:j=i:=by omega
   subst e4;rw [hx] at h2;cases h2;exact ⟨cb,sm.free hq⟩
 ·rintro ys H' ⟨qs,e1,e2,sm,nt,al⟩ p hp;subst e1;exact hd qs H' sm nt e2 al p hp
theorem Eh.of {J:It} {n:Nat} {g:TG} {tb:TS} {D:Cj} {σ:St} {H:Hp} (Pv:Nat→St→Hp→Prop) (h0:Pv 0 σ H) (hgo:∀ i σ H,i < n→Pv i σ H→J.go i H) (hst:∀ σ H,Pv n σ H→J.stop n H)
  (hs:∀ i σ H x H',i < n→Pv i σ H→J.yld i H x H'→g x σ H' fun σ2 H2=>tb { D with nx:=Pv (i + 1),ct:=Pv (i + 1),bk:=D.nx } σ2 H2) (hd:∀ σ H,Pv n σ H→D.nx σ H):Eh J g tb D σ H:=by
 refine ⟨fun i m σ H=>m=n - i∧i ≤ n∧Pv i σ H,⟨n,by simp,Nat.zero_le _,h0⟩,?_⟩;rintro i m σ H ⟨rfl,hi,p⟩;by_cases hlt:i < n
 ·exact .inr ⟨hgo i σ H hlt p,Pv (i + 1),fun σ' H' p'=>⟨n - (i + 1),by omega,rfl,hlt,p'⟩,fun x H' y=>hs i σ H x H' hlt p y⟩
 ·have e:i=n:=by omega
  subst e;exact .inl ⟨hst σ H p,hd σ H p⟩
theorem ed.of {J:It} {n:Nat} {g:TG} {tc:TT} {te:TE} {σb:St} {Q:VK} {H:Hp} (Pv:Nat→List V→Hp→Prop) (hz:n ≤ sizeLine) (h0:Pv 0 [] H) (hgo:∀ i ys H,i < n→Pv i ys H→J.go i H) (hst:∀ ys H,Pv n ys H→J.stop n H) (hl:∀ i ys H,i < n→Pv i ys H→ys.length ≤ i)
  (hs:∀ i ys H x H',i < n→Pv i ys H→J.yld i H x H'→Jh Pv g tc te σb i x ys H') (hd:∀ ys H,Pv n ys H→∀ p,H p=none→Q (.ref p) (upd H p (.lst ys))):ed J g tc te σb Q H:=by
 refine ⟨fun i m ys H=>m=n - i∧i ≤ n∧Pv i ys H,⟨n,by simp,Nat.zero_le _,h0⟩,?_⟩;rintro i m ys H ⟨rfl,hi,p⟩;by_cases hlt:i < n
 ·have hyl:=hl i ys H hlt p;refine .inr ⟨hgo i ys H hlt p,by omega,fun x H' y=>?_⟩;exact hs i ys H x H' hlt p y (fun ys' H'=>∃ m',m' < n - i∧m'=n - (i + 1)∧i + 1 ≤ n∧Pv (i + 1) ys' H') fun ys' H' r=>⟨n - (i + 1),by omega,rfl,hlt,r⟩
 ·have e:i=n:=by omega
  subst e;exact .inl ⟨hst ys H p,hd ys H p⟩
section
variable {K:PySem.W.Frag} {a b:Addr} {xs ys:List V} {g:TG} {tb:TS} {D:Cj} {σ σb:St} {H:Hp} {tc:TT} {te:TE} {Q:VK}
theorem Eh.enum (Pv:Nat→St→Hp→Prop) (h0:Pv 0 σ H) (hl:∀ i σ H,i ≤ xs.length→Pv i σ H→SqL K H a xs)
  (hs:∀ i x σ H p,xs[i]? = some x→Pv i σ H→H p=none→g (.ref p) σ (upd H p (.tup [.int i,x])) fun σ2 H2=>tb { D with nx:=Pv (i + 1),ct:=Pv (i + 1),bk:=D.nx } σ2 H2) (hd:∀ σ H,Pv xs.length σ H→D.nx σ H):Eh (Ite K a) g tb D σ H:=by
 refine Eh.of (n:=xs.length) Pv h0 (fun i σ H hi p=>⟨xs,xs[i],hl i σ H (Nat.le_of_lt hi) p,by simp [hi]⟩) (fun σ H p=>⟨xs,hl _ σ H (Nat.le_refl _) p,Nat.le_refl _⟩) (fun i σ H v H' hi p y=>?_) hd;obtain ⟨q,x,hq,rfl,hx,rfl⟩:=y;exact hs i x σ H q (hx xs (hl i σ H (Nat.le_of_lt hi) p)) p hq
theorem Eh.zip (Pv:Nat→St→Hp→Prop) (h0:Pv 0 σ H) (hl:∀ i σ H,i ≤ xs.length→Pv i σ H→SqL K H a xs∧SqL K H b ys) (n:Nat) (hn:n=min xs.length ys.length)
  (hs:∀ i x y σ H p,xs[i]? = some x→ys[i]? = some y→Pv i σ H→H p=none→g (.ref p) σ (upd H p (.tup [x,y])) fun σ2 H2=>tb { D with nx:=Pv (i + 1),ct:=Pv (i + 1),bk:=D.nx } σ2 H2) (hd:∀ σ H,Pv n σ H→D.nx σ H):Eh (Itz K a b) g tb D σ H:=by
 subst hn;refine Eh.of (n:=min xs.length ys.length) Pv h0 (fun i σ H hi p=>?_) (fun σ H p=>?_) (fun i σ H v H' hi p y=>?_) hd
 ·obtain ⟨z1,z2⟩:=hl i σ H (by omega) p;exact ⟨xs,ys,xs[i],ys[i],z1,z2,by rw [List.getElem?_eq_getElem (by omega)],by rw [List.getElem?_eq_getElem (by omega)]⟩
 ·obtain ⟨z1,z2⟩:=hl _ σ H (by omega) p;exact ⟨xs,ys,z1,z2,by omega⟩
 ·obtain ⟨q,x,y,hq,rfl,hx,hy,rfl⟩:=y;obtain ⟨z1,z2⟩:=hl i σ H (by omega) p;exact hs i x y σ H q (hx xs z1) (hy ys z2) p hq
theorem ed.enum (Pv:Nat→List V→Hp→Prop) (hz:xs.length ≤ sizeLine) (h0:Pv 0 [] H) (hl:∀ i ys H,i ≤ xs.length→Pv i ys H→SqL K H a xs∧ys.length ≤ i)
  (hs:∀ i x ys H p,xs[i]? = some x→Pv i ys H→H p=none→Jh Pv g tc te σb i (.ref p) ys (upd H p (.tup [.int i,x]))) (hd:∀ ys H,Pv xs.length ys H→∀ p,H p=none→Q (.ref p) (upd H p (.lst ys))):ed (Ite K a) g tc te σb Q H:=by
 refine ed.of (n:=xs.length) Pv hz h0 (fun i ys H hi p=>⟨xs,xs[i],(hl i ys H (Nat.le_of_lt hi) p).1,by simp [hi]⟩) (fun ys H p=>⟨xs,(hl _ ys H (Nat.le_refl _) p).1,Nat.le_refl _⟩) (fun i ys H hi p=>(hl i ys H (Nat.le_of_lt hi) p).2) (fun i zs H v H' hi p y=>?_) hd;obtain ⟨q,x,hq,rfl,hx,rfl⟩:=y;exact hs i x zs H q (hx xs (hl i zs H (Nat.le_of_lt hi) p).1) p hq
theorem oG {i j:Nat} {p:Addr} {x y:V} {R:St→Hp→Prop} (h:SqT K H p [x,y]) (q:R ((σ.set i (some x)).set j (some y)) H):KK K 2 (zA (Nw i) (zA (Nw j) lM)) (.ref p) σ H R:=
 ⟨p,_,rfl,h,rfl,x,_,rfl,y,_,rfl,rfl,q⟩
theorem Ei {i j:Nat} {p:Addr} {x y:V} {R:St→Hp→Prop} (q:R ((σ.set i (some x)).set j (some y)) (upd H p (.tup [x,y]))):KK K 2 (zA (Nw i) (zA (Nw j) lM)) (.ref p) σ (upd H p (.tup [x,y])) R:=
 oG (.inl (.inl cb)) q
end
theorem Sub.name2 {r:St} {v w:Option V}:Sub (none :: none :: r) (v :: w :: r):=by
 refine ⟨rfl,fun i u h=>?_⟩
 match i with
 | 0=>cases h
 | 1=>cases h
 | i + 2=>exact h
theorem Sub.name3 {r:St} {v w z:Option V}:Sub (none :: none :: none :: r) (v :: w :: z :: r):=by
 refine ⟨rfl,fun i u h=>?_⟩
 match i with
 | 0=>cases h
 | 1=>cases h
 | 2=>cases h
 | i + 3=>exact h
theorem ed.list_zs {K:PySem.W.Frag} {a:Addr} {xs zs:List V} {g:TG} {te:TE} {σb:St} {Q:VK} {H:Hp} (hl:SqL K H a xs) (hz:xs.length ≤ sizeLine) (he:zs.length=xs.length)
  (hs:∀ (i:Nat) (x z:V) (N:V→Hp→Prop),xs[i]? = some x→zs[i]? = some z→N z H→g x σb H fun σ2 H2=>Sub σb σ2∧te σ2 H2 N) (hd:∀ p,H p=none→Q (.ref p) (upd H p (.lst zs))):ed (Itl K a) g OA te σb Q H:=by
 refine ed.list (fun i ys H'=>H'=H∧ys=zs.take i) hz ⟨rfl,rfl⟩ (fun i ys H' hi ⟨e0,e⟩=>?_) (fun i x ys H' hx ⟨e1,e2⟩ N hN=>?_) (fun ys H' ⟨e1,e2⟩ p hp=>?_)
 ·subst e0;exact ⟨hl,by rw [e,List.length_take];omega⟩
 ·subst e1;have hi:i < zs.length:=by rw [he];exact (List.getElem?_eq_some_iff.mp hx).1
  have hz':zs[i]? = some zs[i]:=List.getElem?_eq_getElem hi;exact hs i x zs[i] (fun y H4=>N (ys ++ [y]) H4) hx hz' (hN _ _ ⟨rfl,by rw [e2,List.take_add_one,hz'];rfl⟩)
 ·subst e1;rw [e2,← he,List.take_length];exact hd p hp
theorem ed.list_sel {K:PySem.W.Frag} {a:Addr} {xs:List V} {ss:List (Option V)} {g:TG} {tc:TT} {te:TE} {σb:St} {Q:VK} {H:Hp} (hl:SqL K H a xs) (hz:xs.length ≤ sizeLine) (he:ss.length=xs.length)
  (hs:∀ (i:Nat) (x:V) (o:Option V) (ys:List V) (N:List V→Hp→Prop),xs[i]? = some x→ss[i]? = some o→N (ys ++ o.toList) H→g x σb H fun σ2 H2=>Sub σb σ2∧tc σ2 H2 fun c H3=>if c=true then te σ2 H3 fun y H4=>N (ys ++ [y]) H4 else N ys H3)
  (hd:∀ p,H p=none→Q (.ref p) (upd H p (.lst (ss.flatMap Option.toList)))):ed (Itl K a) g tc te σb Q H:=by
 refine ed.list (fun i ys H'=>H'=H∧ys=(ss.take i).flatMap Option.toList∧ys.length ≤ i) hz ⟨rfl,rfl,Nat.le_refl _⟩ (fun i ys H' hi ⟨e0,e,e'⟩=>?_) (fun i x ys H' hx ⟨e1,e2,e3⟩ N hN=>?_) (fun ys H' ⟨e1,e2,_⟩ p hp=>?_)
 ·subst e0;exact ⟨hl,e'⟩
 ·subst e1;have hi:i < ss.length:=by rw [he];exact (List.getElem?_eq_some_iff.mp hx).1
  have hz':ss[i]? = some ss[i]:=List.getElem?_eq_getElem hi;refine hs i x ss[i] ys N hx hz' (hN _ _ ⟨rfl,by rw [e2,List.take_add_one,hz',List.flatMap_append];simp,?_⟩);rw [List.length_append];cases ss[i] <;> simp <;> omega
 ·subst e1;rw [e2,← he,List.take_length];exact hd p hp
theorem Sub.name {r:St} {v:Option V}:Sub (none :: r) (v :: r):=by
 refine ⟨rfl,fun i w h=>?_⟩;cases i with
 | zero=>cases h
 | succ i=>exact h
end L2
local macro_rules | `(tactic| walk_at "RD")=>`(tactic| ((try dsimp only [L2.CJ,L2.IM,L2.Cx.nox,L2.Cx.wish,L2.Cx.block,L2.Cx.tr,L2.Cx.hn]);(try simp only [L2.qJ,L2.zM,L2.xM,L2.eI,L2.aM,L2.AJ,L2.JF,L2.aJ,L2.OL,L2.Az,L2.zb,L2.xG,L2.sI,L2.WC,L2.Rf,L2.bJ,L2.EG,L2.tI,L2.HJ,L2.pI,L2.cJ,L2.QF,L2.rK,L2.lK,L2.JM,L2.lL,L2.EM,L2.RL,L2.SJ,L2.iG,L2.CI,L2.Vz,L2.kJ,L2.EJ,L2.bF,L2.lJ,L2.II,L2.YF,L2.DE,L2.jG,L2.QK,L2.CA,L2.GG,L2.bL,L2.ZH,L2.BJ,L2.dJ,L2.LJ,L2.zF,L2.oI,L2.gK,L2.zJ,L2.VJ,L2.MA,L2.yy,L2.aI,L2.rF,L2.yA,L2.lF,L2.nC,L2.ZF,L2.jI,L2.QI,L2.AE,L2.sD,L2.BC,L2.JE,L2.GI,L2.GJ,L2.bG,L2.ux,L2.aG,L2.EF,L2.qI,L2.wF,L2.FE,L2.bI,L2.eJ,L2.xI,L2.start,L2.FJ,List.map_cons,List.map_nil,Option.bind_none,Option.bind_some,Option.join_some,Option.join_none,List.length_cons,List.length_nil,Nat.reduceAdd,Nat.reduceSub,Nat.zero_add,List.replicate,List.cons_append,List.nil_append,List.append_nil,List.set_cons_zero,List.set_cons_succ,List.getElem?_cons_zero,List.getElem?_cons_succ,Option.some.injEq,L2.V.int.injEq,L2.V.bl.injEq,L2.V.str.injEq,L2.V.ref.injEq,L2.V.ty.injEq,exists_eq_left',exists_eq_left,exists_and_left,List.cons.injEq,and_true,true_and,and_assoc,Int.zero_add,reduceCtorEq,false_and,exists_false,and_false,ite_true,ite_false,if_true,if_false,Bool.false_eq_true,L2.jM,L2.tyV,false_or,or_false,Bool.not_true,Bool.not_false,decide_true,decide_false])))
local macro_rules | `(tactic| walk_at "B")=>`(tactic| first | rfl | (dsimp only [L2.Cx.block];done) | (dsimp only [L2.Cx.block];exact rfl))
local macro_rules | `(tactic| walk_at "F")=>`(tactic| exact ⟨rfl,rfl,rfl,by decide +kernel,rfl,by decide +kernel,by decide +kernel⟩)
namespace My
open PySem L2
noncomputable abbrev q5:List Str:=["self","name","start","end","off","near","least"]
noncomputable abbrev q8:List Str:=["self","name"]
noncomputable abbrev q9:List Str:=["plan","name","turn"]
noncomputable abbrev q10:List Str:=["spans","name"]
noncomputable abbrev q11:List Str:=["line","forths","backs"]
noncomputable abbrev q12:List Str:=["crossing","one","other"]
noncomputable abbrev q15:List Str:=["crossing","size","spans"]
noncomputable abbrev q16:List Str:=["self","low","high"]
noncomputable abbrev q17:List Str:=["word","signs","most"]
noncomputable abbrev q18:List Str:=["_law_script","_law_k","_law_many"]
noncomputable abbrev q19:List Str:=["self","good"]
noncomputable abbrev q20:List Str:=["self","choices"]
noncomputable abbrev q21:List Str:=["self","kind","name","start","end","off","near","least"]
noncomputable abbrev q22:List Str:=["plan","name"]
noncomputable abbrev q24:List Str:=["crossings","shifts","both"]
noncomputable abbrev q25:List Str:=["_law_script"]
noncomputable abbrev q26:List Str:=["both","crossing","shift"]
noncomputable abbrev q27:List Str:=["word","most_figures"]
noncomputable abbrev q28:List Str:=["reader","places","start"]
noncomputable abbrev q29:List Str:=["sort","name","start","end","off","near","least"]
noncomputable abbrev q30:List Str:=["places","way","second"]
noncomputable abbrev q31:List Str:=["size","spans","name"]
noncomputable abbrev q32:List Str:=["_law_size","_law_spans","_law_forths","_law_backs","_law_shifts","_law_both","_law_last","_law_turn","_law_ahead","_law_behind"]
noncomputable abbrev q33:List Str:=["_law_script","_law_size","_law_many","_law_shifts","_law_others_here","_law_k","_law_other"]
noncomputable abbrev q34:List Str:=["self","row","told"]
noncomputable abbrev q35:List Str:=["turns","marks","later"]
noncomputable abbrev q36:List Str:=["word","low","high"]
noncomputable abbrev q37:List Str:=["reader","ways"]
noncomputable abbrev q38:List Str:=["reader","places","ways"]
noncomputable abbrev q39:List Str:=["places","way","place"]
noncomputable abbrev q40:List Str:=["way","size","spans"]
noncomputable abbrev q41:List Str:=["reader","crossing","size","spans"]
noncomputable abbrev q42:List Str:=["crossing","text"]
noncomputable abbrev q43:List Str:=["crossing","spans"]
noncomputable abbrev q44:List Str:=["size","spans","place"]
noncomputable abbrev q45:List Str:=["crossing","one","other","since_one","since_other"]
noncomputable abbrev q46:List Str:=["crossing","size","rows"]
noncomputable abbrev q47:List Str:=["_law_script","_law_many"]
noncomputable abbrev q48:List Str:=["_law_spans","_law_size","_law_turn"]
noncomputable abbrev q49:List Str:=["_law_size","_law_spans","_law_forths","_law_backs","_law_shifts"]
noncomputable abbrev q50:List Str:=["_law_script","_law_size","_law_many","_law_shifts"]
noncomputable abbrev q51:List Str:=["self","places","ways"]
noncomputable abbrev q52:List Str:=["self","crossing","size","spans"]
noncomputable abbrev q53:List Str:=["called","begin","turns","name"]
noncomputable abbrev q54:List Str:=["name","begin","turns"]
noncomputable abbrev q55:List Str:=["_law_shift"]
noncomputable abbrev q56:List Str:=["_law_k","_law_script","_law_wide"]
noncomputable abbrev q57:List Str:=["size","spans","place","name","begin","turns","others"]
noncomputable abbrev q58:List Str:=["_law_script","_law_made","_law_size","_law_line_here","_law_wide","_law_forths","_law_backs","_law_handed","_law_told","_law_shifts","_law_shift","_law_best","_law_other","_law_both","_law_again"]
noncomputable abbrev q60:List Str:=["at","span","place"]
noncomputable abbrev q61:List Str:=["later","many","begin","size"]
noncomputable def top (i:Nat):Stmt:=PySem.Challenge.pw_lampway_k72_whole_widest_shifts.main.body.getD i (.Pass ⟨0,0,0,0⟩)
noncomputable abbrev wz:Stmt:=top 10
theorem PB:Bb q9 q9 (rb wz):=(by walk_at "F")
noncomputable abbrev pH:Stmt:=top 11
theorem LH:Bb q9 q9 (rb pH):=(by walk_at "F")
noncomputable abbrev Ey:Stmt:=top 14
theorem pF:Bb q22 q22 (rb Ey):=(by walk_at "F")
noncomputable abbrev xl:Stmt:=top 15
theorem wc:Bb ["line","forths","backs","found","forth_turns","back_turns","place","told","plan","forth","back"] q11 (rb xl):=(by walk_at "F")
noncomputable abbrev kr:Stmt:=top 16
theorem Bt:Bb ["turns","marks","later","size"] q35 (rb kr):=(by walk_at "F")
noncomputable abbrev Wk:Stmt:=top 17
theorem yd:Bb ["both","crossing","shift","frees_forth","frees_back","forth_turns","back_turns","forth","back"] q26 (rb Wk):=(by walk_at "F")
noncomputable abbrev Um:Stmt:=top 18
theorem Lk:Bb ["line","turns"] ["line"] (rb Um):=(by walk_at "F")
noncomputable abbrev oE:Stmt:=top 19
theorem GE:Bb ["told"] ["told"] (rb oE):=(by walk_at "F")
noncomputable abbrev Nm:Stmt:=top 20
theorem Od:Bb ["crossings","shifts","both","crossing","best","shift","found"] q24 (rb Nm):=(by walk_at "F")
noncomputable abbrev Hy:Stmt:=top 21
theorem Gi:Bb ["line","forths","backs","size","tried","told","crossings"] q11 (rb Hy):=(by walk_at "F")
noncomputable abbrev Mx:Stmt:=top 27
theorem vF:Bb ["text"] ["text"] (rb Mx):=(by walk_at "F")
noncomputable abbrev Gj:Stmt:=top 28
theorem Su:Bb q17 q17 (rb Gj):=(by walk_at "F")
noncomputable abbrev uq:Stmt:=top 29
theorem Vw:Bb q27 q27 (rb uq):=(by walk_at "F")
noncomputable abbrev uw:Stmt:=top 30
theorem wt:Bb ["word","low","high","number"] q36 (rb uw):=(by walk_at "F")
noncomputable abbrev yv:Stmt:=top 31
theorem JA:Bb ["word"] ["word"] (rb yv):=(by walk_at "F")
noncomputable abbrev Gp:Stmt:=top 34
theorem GA:Bb ["text"] ["text"] (rb Gp):=(by walk_at "F")
noncomputable abbrev Hq:Stmt:=top 48
theorem Do:Bb ["reader","places"] ["reader"] (rb Hq):=(by walk_at "F")
noncomputable abbrev xh:Stmt:=top 49
theorem nj:Bb ["reader","ways","name"] q37 (rb xh):=(by walk_at "F")
noncomputable abbrev ot:Stmt:=top 50
theorem Ix:Bb q28 q28 (rb ot):=(by walk_at "F")
noncomputable abbrev Ut:Stmt:=top 51
theorem Cy:Bb q29 q29 (rb Ut):=(by walk_at "F")
noncomputable abbrev At:Stmt:=top 52
theorem Ee:Bb ["reader","places","ways","sort","name","start","end","off","near","least"] q38 (rb At):=(by walk_at "F")
noncomputable abbrev Wj:Stmt:=top 53
theorem me:Bb ["text","rows","places","ways","reader"] ["text"] (rb Wj):=(by walk_at "F")
noncomputable abbrev Bz:Stmt:=top 55
theorem Xw:Bb ["places","way","place","steps"] q39 (rb Bz):=(by walk_at "F")
noncomputable abbrev yo:Stmt:=top 56
theorem Uu:Bb q30 q30 (rb yo):=(by walk_at "F")
noncomputable abbrev AH:Stmt:=top 57
theorem px:Bb ["crossing","one","other","way","second"] q12 (rb AH):=(by walk_at "F")
noncomputable abbrev oK:Stmt:=top 58
theorem ID:Bb ["crossing","one","other","way","second"] q12 (rb oK):=(by walk_at "F")
noncomputable abbrev Vk:Stmt:=top 60
theorem Yd:Bb ["marks","size","steps","untils","place"] ["marks"] (rb Vk):=(by walk_at "F")
noncomputable abbrev ol:Stmt:=top 61
theorem iq:Bb ["marks"] ["marks"] (rb ol):=(by walk_at "F")
noncomputable abbrev wn:Stmt:=top 66
theorem xy:Bb q10 q10 (rb wn):=(by walk_at "F")
noncomputable abbrev gk:Stmt:=top 67
theorem Lf:Bb ["size","spans","name","marks","begin","turns","step"] q31 (rb gk):=(by walk_at "F")
noncomputable abbrev UC:Stmt:=top 68
theorem cm:Bb ["way","size","spans","shown","begin","turns","step"] q40 (rb UC):=(by walk_at "F")
noncomputable abbrev xq:Stmt:=top 69
theorem wo:Bb ["reader","size"] ["reader"] (rb xq):=(by walk_at "F")
noncomputable abbrev Ml:Stmt:=top 70
theorem Sh:Bb ["reader","crossing","size","spans","name","begin","turns"] q41 (rb Ml):=(by walk_at "F")
noncomputable abbrev Qp:Stmt:=top 71
theorem Og:Bb ["crossing","text","rows","size","spans","reader"] q42 (rb Qp):=(by walk_at "F")
noncomputable abbrev Xk:Stmt:=top 72
theorem jk:Bb ["crossing","spans","name"] q43 (rb Xk):=(by walk_at "F")
noncomputable abbrev Jd:Stmt:=top 73
theorem Uc:Bb q57 q44 (rb Jd):=(by walk_at "F")
noncomputable abbrev Kk:Stmt:=top 74
theorem ad:Bb ["crossing","size","spans","place","span","name","begin","turns","way","needed"] q15 (rb Kk):=(by walk_at "F")
noncomputable abbrev Bi:Stmt:=top 75
theorem Ae:Bb ["crossing","one","other","since_one","since_other","between","turn","steps"] q45 (rb Bi):=(by walk_at "F")
noncomputable abbrev Rk:Stmt:=top 76
theorem He:Bb ["crossing","size","spans","since","name","one","other"] q15 (rb Rk):=(by walk_at "F")
noncomputable abbrev Kl:Stmt:=top 77
theorem Pg:Bb ["crossing","size","rows","spans","name","begin","turns"] q46 (rb Kl):=(by walk_at "F")
noncomputable abbrev Op:Stmt:=top 79
theorem Lj:Bb ["_law_script","_law_k","_law_many","_law_cell","_law_seed"] q18 (rb Op):=(by walk_at "F")
noncomputable abbrev Dj:Stmt:=top 80
theorem Oc:Bb ["_law_script","_law_many","_law_letters","_law_word","_law_size","_law_at","_law_first","_law_some","_law_k","_law_name","_law_sign"] q47 (rb Dj):=(by walk_at "F")
noncomputable abbrev Wp:Stmt:=top 81
theorem Mb:Bb ["_law_script","_law_size","_law_many","_law_line_here","_law_spans","_law_k","_law_names_here","_law_ways","_law_rows","_law_own","_law_n","_law_sort","_law_most","_law_long","_law_begin","_law_more","_law_late","_law_span","_law_crossing","_law_forth","_law_back"] q25 (rb Wp):=(by walk_at "F")
noncomputable abbrev Cl:Stmt:=top 82
theorem Ej:Bb ["_law_spans","_law_size","_law_turn","_law_span"] q48 (rb Cl):=(by walk_at "F")
noncomputable abbrev zf:Stmt:=top 83
theorem Me:Bb q32 q49 (rb zf):=(by walk_at "F")
noncomputable abbrev Le:Stmt:=top 84
theorem af:Bb q33 q50 (rb Le):=(by walk_at "F")
noncomputable abbrev mG:Stmt:=top 85
theorem rh:Bb q58 q25 (rb mG):=(by walk_at "F")
noncomputable abbrev vj:Stmt:=Cd (top 33) 0
theorem Jj:Bb q34 q34 (rb vj):=(by walk_at "F")
noncomputable abbrev Ci:Stmt:=Cd (top 33) 1
theorem Tm:Bb ["self"] ["self"] (rb Ci):=(by walk_at "F")
noncomputable abbrev Zg:Stmt:=Cd (top 33) 2
theorem Sj:Bb ["self"] ["self"] (rb Zg):=(by walk_at "F")
noncomputable abbrev tj:Stmt:=Cd (top 33) 4
theorem Kn:Bb q19 q19 (rb tj):=(by walk_at "F")
noncomputable abbrev Nh:Stmt:=Cd (top 33) 5
theorem vh:Bb ["self","choices","found"] q20 (rb Nh):=(by walk_at "F")
noncomputable abbrev Ah:Stmt:=Cd (top 33) 6
theorem Xg:Bb ["self","low","high","found"] q16 (rb Ah):=(by walk_at "F")
noncomputable abbrev Lh:Stmt:=Cd (top 33) 7
theorem am:Bb ["self"] ["self"] (rb Lh):=(by walk_at "F")
noncomputable abbrev Vs:Stmt:=Cd (top 36) 0
theorem Jq:Bb q21 q21 (rb Vs):=(by walk_at "F")
noncomputable abbrev zm:Stmt:=Cd (top 37) 0
theorem xm:Bb q5 q5 (rb zm):=(by walk_at "F")
noncomputable abbrev Qk:Stmt:=Cd (top 37) 1
theorem zq:Bb ["self"] ["self"] (rb Qk):=(by walk_at "F")
noncomputable abbrev Dm:Stmt:=Cd (top 37) 2
theorem As:Bb ["self"] ["self"] (rb Dm):=(by walk_at "F")
noncomputable abbrev Uk:Stmt:=Cd (top 38) 0
theorem Pl:Bb q5 q5 (rb Uk):=(by walk_at "F")
noncomputable abbrev Qj:Stmt:=Cd (top 38) 1
theorem Lo:Bb ["self"] ["self"] (rb Qj):=(by walk_at "F")
noncomputable abbrev yl:Stmt:=Cd (top 38) 2
theorem Rp:Bb ["self"] ["self"] (rb yl):=(by walk_at "F")
noncomputable abbrev Fl:Stmt:=Cd (top 39) 0
theorem Ul:Bb q5 q5 (rb Fl):=(by walk_at "F")
noncomputable abbrev ck:Stmt:=Cd (top 39) 1
theorem Ko:Bb ["self"] ["self"] (rb ck):=(by walk_at "F")
noncomputable abbrev Dl:Stmt:=Cd (top 39) 2
theorem Fq:Bb ["self"] ["self"] (rb Dl):=(by walk_at "F")
noncomputable abbrev qk:Stmt:=Cd (top 47) 0
theorem We:Bb ["self","places","ways","number","way"] q51 (rb qk):=(by walk_at "F")
noncomputable abbrev Wg:Stmt:=Cd (top 47) 1
theorem ko:Bb ["self"] ["self"] (rb Wg):=(by walk_at "F")
noncomputable abbrev si:Stmt:=Cd (top 47) 2
theorem Sm:Bb q8 q8 (rb si):=(by walk_at "F")
noncomputable abbrev zi:Stmt:=Cd (top 47) 3
theorem Rm:Bb q8 q8 (rb zi):=(by walk_at "F")
noncomputable abbrev kq:Stmt:=Cd (top 65) 0
theorem wj:Bb ["self","crossing","size","spans","name"] q52 (rb kq):=(by walk_at "F")
set_option genInjectivity false in
set_option genInjectivity false in
structure Adr where
 {ap fz Pu Eg ym kf kh Yu Se yp fv Kg cj cn jm Xj Mi Df uk rk Dk Qf Fp Vh xz fF pf ng vf Lg Ky Ri Ui Yi Hg Hd Gg Oe Ig gj tf Ph Qi Cg Ih bh cI oe Kc qd jd Cc ac Bc fg Jf qg jh lf Gf Ag Ze Of rg Ce Tc Xd nc Dh Lb Zm ud Nc Qc Vb ye:Addr}
 {Cp mz Du wg km Ye gh iu Je qp bv Rg Zi em Xm Pj Si Kf Bk Fk Ek Ff jp Kh Uz KG cf xg uf Ng zz mj aj Ni zg Md yg Ke Fg Ti sf Uh dj Bg Rh dh nF qf Xc Ud Fd Pc xc Mc lh eh ci jj jg yh Wh ug ph Zh Vf ld Re zc fj:FuncData}
 {nw Sk Aw Yk Eo Pk ar jt Am bq Go Ao vq:Value}
structure Txt (w:World) (K:PySem.W.Frag) (mg:Str→Option Value) (t:Adr):Prop where
 YE:mg "colour"=some (.ref t.ap)
 Zt:Fun K "colour" "colour" wz t.ap t.Cp
 fM:mg "free"=some (.ref t.fz)
 gE:Fun K "free" "free" pH t.fz t.mz
 PD:mg "frees"=some (.ref t.Pu)
 Xu:Fun K "frees" "frees" Ey t.Pu t.Du
 Wr:mg "crossings_of"=some (.ref t.Eg)
 Xh:Fun K "crossings_of" "crossings_of" xl t.Eg t.wg
 Ev:mg "passing"=some (.ref t.ym)
 dn:Fun K "passing" "passing" kr t.ym t.km
 Nk:mg "passing_both"=some (.ref t.kf)
 kg:Fun K "passing_both" "passing_both" Wk t.kf t.Ye
 av:mg "whole_round"=some (.ref t.kh)
 Xi:Fun K "whole_round" "whole_round" Um t.kh t.gh
 NC:mg "worth"=some (.ref t.Yu)
 wu:Fun K "worth" "worth" oE t.Yu t.iu
 gm:mg "widest_from"=some (.ref t.Se)
 Wf:Fun K "widest_from" "widest_from" Nm t.Se t.Je
 Oz:mg "widest"=some (.ref t.yp)
 gp:Fun K "widest" "widest" Hy t.yp t.qp
 lI:mg "words"=some (.ref t.fv)
 vx:Fun K "words" "words" Mx t.fv t.bv
 qo:mg "is_made_of"=some (.ref t.Kg)
 Gh:Fun K "is_made_of" "is_made_of" Gj t.Kg t.Rg
 my:mg "is_number"=some (.ref t.cj)
 dm:Fun K "is_number" "is_number" uq t.cj t.Zi
 fC:mg "figured"=some (.ref t.cn)
 Kq:Fun K "figured" "figured" uw t.cn t.em
 iC:mg "is_name"=some (.ref t.jm)
 Up:Fun K "is_name" "is_name" yv t.jm t.Xm
 Wv:mg "readers"=some (.ref t.Xj)
 Km:Fun K "readers" "readers" Gp t.Xj t.Pj
 ay:mg "read_ring"=some (.ref t.Mi)
 Zl:Fun K "read_ring" "read_ring" Hq t.Mi t.Si
 Dq:mg "read_new_name"=some (.ref t.Df)
 nh:Fun K "read_new_name" "read_new_name" xh t.Df t.Kf
 xA:mg "read_end"=some (.ref t.uk)
 Ln:Fun K "read_end" "read_end" ot t.uk t.Bk
 YA:mg "made_way"=some (.ref t.rk)
 xn:Fun K "made_way" "made_way" Ut t.rk t.Fk
 rA:mg "read_way"=some (.ref t.Dk)
 On:Fun K "read_way" "read_way" At t.Dk t.Ek
 wq:mg "read_crossing"=some (.ref t.Qf)
 Bh:Fun K "read_crossing" "read_crossing" Wj t.Qf t.Ff
 vz:mg "in_bow"=some (.ref t.Fp)
 ip:Fun K "in_bow" "in_bow" Bz t.Fp t.jp
 Lv:mg "bows_cross"=some (.ref t.Vh)
 ak:Fun K "bows_cross" "bows_cross" yo t.Vh t.Kh
 ZJ:mg "meet"=some (.ref t.xz)
 oC:Fun K "meet" "meet" AH t.xz t.Uz
 YM:mg "gap"=some (.ref t.fF)
 WI:Fun K "gap" "gap" oK t.fF t.KG
 ml:mg "until_marked"=some (.ref t.pf)
 vg:Fun K "until_marked" "until_marked" Vk t.pf t.cf
 Gr:mg "since_marked"=some (.ref t.ng)
 ai:Fun K "since_marked" "since_marked" ol t.ng t.xg
 Ii:mg "spans_of"=some (.ref t.vf)
 gg:Fun K "spans_of" "spans_of" wn t.vf t.uf
 oo:mg "free_marks"=some (.ref t.Lg)
 Fh:Fun K "free_marks" "free_marks" gk t.Lg t.Ng
 gM:mg "lamp"=some (.ref t.Ky)
 cE:Fun K "lamp" "lamp" UC t.Ky t.zz
 zx:mg "read_size"=some (.ref t.Ri)
 Vl:Fun K "read_size" "read_size" xq t.Ri t.mj
 Qx:mg "read_span"=some (.ref t.Ui)
 Xl:Fun K "read_span" "read_span" Ml t.Ui t.aj
 Wx:mg "read_plan"=some (.ref t.Yi)
 Ll:Fun K "read_plan" "read_plan" Qp t.Yi t.Ni
 Ur:mg "refuse_never"=some (.ref t.Hg)
 ii:Fun K "refuse_never" "refuse_never" Xk t.Hg t.zg
 Kj:mg "turns_to_next_begin"=some (.ref t.Hd)
 Ge:Fun K "turns_to_next_begin" "turns_to_next_begin" Jd t.Hd t.Md
 Cs:mg "refuse_short"=some (.ref t.Gg)
 Yh:Fun K "refuse_short" "refuse_short" Kk t.Gg t.yg
 Rn:mg "refuse_clash_of"=some (.ref t.Oe)
 cg:Fun K "refuse_clash_of" "refuse_clash_of" Bi t.Oe t.Ke
 Zr:mg "refuse_clash"=some (.ref t.Ig)
 di:Fun K "refuse_clash" "refuse_clash" Rk t.Ig t.Fg
 ny:mg "made_plan"=some (.ref t.gj)
 Tl:Fun K "made_plan" "made_plan" Kl t.gj t.Ti
 Ub:mg "_law_draw"=some (.ref t.tf)
 Qb:Fun K "_law_draw" "_law_draw" Op t.tf t.sf
 Qv:mg "_law_names"=some (.ref t.Ph)
 nk:Fun K "_law_names" "_law_names" Dj t.Ph t.Uh
 Ex:mg "_law_line"=some (.ref t.Qi)
 Rl:Fun K "_law_line" "_law_line" Wp t.Qi t.dj
 dl:mg "_law_is_free"=some (.ref t.Cg)
 lg:Fun K "_law_is_free" "_law_is_free" Cl t.Cg t.Bg
 Nj:mg "_law_green"=some (.ref t.Ih)
 Qg:Fun K "_law_green" "_law_green" zf t.Ih t.Rh
 Ou:mg "_law_others"=some (.ref t.bh)
 lj:Fun K "_law_others" "_law_others" Le t.bh t.dh
 OM:mg "law"=some (.ref t.cI)
 BM:Fun K "law" "law" mG t.cI t.nF
 Nx:mg "RowReader"=some (.ref t.Lb)
 lB:PySem.W.findIn K (.ref t.Lb) "__init__"=some (some (.ref t.oe))
 pj:Fun K "__init__" "RowReader.__init__" vj t.oe t.qf
 UA:PySem.W.findIn K (.ref t.Lb) "ahead"=some (some (.ref t.Kc))
 Di:Fun K "ahead" "RowReader.ahead" Ci t.Kc t.Xc
 jx:PySem.W.findIn K (.ref t.Lb) "has_more"=some (some (.ref t.qd))
 ah:Fun K "has_more" "RowReader.has_more" Zg t.qd t.Ud
 iB:PySem.W.findIn K (.ref t.Lb) "take"=some (some (.ref t.jd))
 rj:Fun K "take" "RowReader.take" tj t.jd t.Fd
 Kz:PySem.W.findIn K (.ref t.Lb) "one_of"=some (some (.ref t.Cc))
 Qh:Fun K "one_of" "RowReader.one_of" Nh t.Cc t.Pc
 dy:PySem.W.findIn K (.ref t.Lb) "figures"=some (some (.ref t.ac))
 qh:Fun K "figures" "RowReader.figures" Ah t.ac t.xc
 Mz:PySem.W.findIn K (.ref t.Lb) "finish"=some (some (.ref t.Bc))
 Th:Fun K "finish" "RowReader.finish" Lh t.Bc t.Mc
 vJ:mg "Way"=some (.ref t.Zm)
 OJ:PySem.W.findIn K (.ref t.Zm) "__init__"=some (some (.ref t.fg))
 Qt:Fun K "__init__" "Way.__init__" Vs t.fg t.lh
 pG:mg "CarWay"=some (.ref t.ud)
 BG:PySem.W.findIn K (.ref t.ud) "__init__"=some (some (.ref t.Jf))
 im:Fun K "__init__" "CarWay.__init__" zm t.Jf t.eh
 xE:PySem.W.findIn K (.ref t.ud) "ready"=some (some (.ref t.qg))
 El:Fun K "ready" "CarWay.ready" Qk t.qg t.ci
 FG:PySem.W.findIn K (.ref t.ud) "fade"=some (some (.ref t.jh))
 bn:Fun K "fade" "CarWay.fade" Dm t.jh t.jj
 oB:mg "FootWay"=some (.ref t.Nc)
 wE:PySem.W.findIn K (.ref t.Nc) "__init__"=some (some (.ref t.lf))
 Jl:Fun K "__init__" "FootWay.__init__" Uk t.lf t.jg
 TD:PySem.W.findIn K (.ref t.Nc) "ready"=some (some (.ref t.Gf))
 Tj:Fun K "ready" "FootWay.ready" Qj t.Gf t.yh
 yE:PySem.W.findIn K (.ref t.Nc) "fade"=some (some (.ref t.Ag))
 Bl:Fun K "fade" "FootWay.fade" yl t.Ag t.Wh
 WB:mg "TramWay"=some (.ref t.Qc)
 tE:PySem.W.findIn K (.ref t.Qc) "__init__"=some (some (.ref t.Ze))
 zl:Fun K "__init__" "TramWay.__init__" Fl t.Ze t.ug
 wD:PySem.W.findIn K (.ref t.Qc) "ready"=some (some (.ref t.Of))
 Oj:Fun K "ready" "TramWay.ready" ck t.Of t.ph
 uE:PySem.W.findIn K (.ref t.Qc) "fade"=some (some (.ref t.rg))
 Zk:Fun K "fade" "TramWay.fade" Dl t.rg t.Zh
 dA:mg "Crossing"=some (.ref t.Vb)
 JB:PySem.W.findIn K (.ref t.Vb) "__init__"=some (some (.ref t.Ce))
 fk:Fun K "__init__" "Crossing.__init__" qk t.Ce t.Vf
 kB:PySem.W.findIn K (.ref t.Vb) "names"=some (some (.ref t.Tc))
 yj:Fun K "names" "Crossing.names" Wg t.Tc t.ld
 VA:PySem.W.findIn K (.ref t.Vb) "number"=some (some (.ref t.Xd))
 ki:Fun K "number" "Crossing.number" si t.Xd t.Re
 QA:PySem.W.findIn K (.ref t.Vb) "called"=some (some (.ref t.nc))
 mi:Fun K "called" "Crossing.called" zi t.nc t.zc
 AL:mg "Plan"=some (.ref t.ye)
 KJ:PySem.W.findIn K (.ref t.ye) "__init__"=some (some (.ref t.Dh))
 Zp:Fun K "__init__" "Plan.__init__" kq t.Dh t.fj
 Ab:Cls K t.Lb
 Zx:Mk K t.Lb t.oe
 Ie:zu K t.Lb "ahead" t.Kc
 Hk:zu K t.Lb "has_more" t.qd
 Sg:zu K t.Lb "take" t.jd
 Nd:zu K t.Lb "one_of" t.Cc
 Yb:zu K t.Lb "figures" t.ac
 ze:zu K t.Lb "finish" t.Bc
 Ro:gc K t.Lb "row"
 vi:gc K t.Lb "told"
 Mf:gc K t.Lb "place"
 EN:Cls K t.Zm
 yJ:gc K t.Zm "kind"
 DJ:gc K t.Zm "name"
 iH:gc K t.Zm "start"
 NJ:gc K t.Zm "end"
 QJ:gc K t.Zm "off"
 iI:gc K t.Zm "near"
 wH:gc K t.Zm "least"
 Tp:Cls K t.ud
 AF:Mk K t.ud t.Jf
 Xr:zu K t.ud "ready" t.qg
 bu:zu K t.ud "fade" t.jh
 Nr:gc K t.ud "kind"
 Bs:gc K t.ud "name"
 br:gc K t.ud "start"
 du:gc K t.ud "end"
 gu:gc K t.ud "off"
 Dr:gc K t.ud "near"
 yq:gc K t.ud "least"
 Cn:Cls K t.Nc
 FD:Mk K t.Nc t.lf
 Tq:zu K t.Nc "ready" t.Gf
 Mr:zu K t.Nc "fade" t.Ag
 gq:gc K t.Nc "kind"
 Nq:gc K t.Nc "name"
 Io:gc K t.Nc "start"
 Hr:gc K t.Nc "end"
 Gs:gc K t.Nc "off"
 rq:gc K t.Nc "near"
 Uo:gc K t.Nc "least"
 jo:Cls K t.Qc
 NB:Mk K t.Qc t.Ze
 Bq:zu K t.Qc "ready" t.Of
 Cr:zu K t.Qc "fade" t.rg
 nq:gc K t.Qc "kind"
 jr:gc K t.Qc "name"
 So:gc K t.Qc "start"
 Pr:gc K t.Qc "end"
 Os:gc K t.Qc "off"
 Zq:gc K t.Qc "near"
 Wo:gc K t.Qc "least"
 Sb:Cls K t.Vb
 aA:Mk K t.Vb t.Ce
 Ed:zu K t.Vb "names" t.Tc
 mn:zu K t.Vb "number" t.Xd
 Jc:zu K t.Vb "called" t.nc
 Mh:gc K t.Vb "places"
 xj:gc K t.Vb "ways"
 Ch:gc K t.Vb "numbers"
 ij:Cls K t.ye
 tL:Mk K t.ye t.Dh
 zj:gc K t.ye "crossing"
 so:gc K t.ye "size"
 eu:gc K t.ye "spans"
 Om:gc K t.ye "lamps"
 Il:gc K t.ye "untils"
 wG:t.Zm ≠ t.ud
 qE:t.Zm ≠ t.Nc
 vE:t.Zm ≠ t.Qc
 Fi:t.ud ≠ t.Nc
 ni:t.ud ≠ t.Qc
 Hh:t.Nc ≠ t.Qc
 Pn:KN K t.Zm "__init__" t.fg
 yD:mg "FIGURES"=some t.nw
 KB:Dd (.str (Str.ofString "0123456789")) t.nw
 Sr:mg "LEAST_PLACES"=some t.Sk
 Jr:Dd (.int 2) t.Sk
 bC:mg "LETTERS"=some t.Aw
 jC:Dd (.str (Str.ofString "abcdefghijklmnopqrstuvwxyz")) t.Aw
 Qs:mg "MOST_FIGURES"=some t.Yk
 gs:Dd (.int 3) t.Yk
 tw:mg "MOST_LEAST"=some t.Eo
 Ov:Dd (.int 60) t.Eo
 Vr:mg "MOST_LETTERS"=some t.Pk
 Kr:Dd (.int 8) t.Pk
 sy:mg "MOST_NEAR"=some t.ar
 Dx:Dd (.int 30) t.ar
 EA:mg "MOST_OFF"=some t.jt
 Yz:Dd (.int 30) t.jt
 xu:mg "MOST_PLACES"=some t.Am
 Tu:Dd (.int 99) t.Am
 Ax:mg "MOST_SIZE"=some t.bq
 yx:Dd (.int 240) t.bq
 ax:mg "MOST_SPANS"=some t.Go
 Rv:Dd (.int 3) t.Go
 Nv:mg "MOST_TRIED"=some t.Ao
 Xv:Dd (.int 2000) t.Ao
 Px:mg "MOST_WAYS"=some t.vq
 wy:Dd (.int 12) t.vq
 RH:mg "all"=none
 ND:mg "bool"=none
 ig:mg "enumerate"=none
 WF:mg "int"=none
 Af:mg "isinstance"=none
 Yf:mg "len"=none
 oj:mg "list"=none
 MM:mg "max"=none
 DF:mg "min"=none
 Zc:mg "range"=none
 yn:mg "reversed"=none
 Wz:mg "str"=none
 xK:mg "sum"=none
 SI:mg "tuple"=none
 jK:∀ (s:Shared) (u:Value),BindsTo s t.nF ⟨[u],[]⟩ [("_law_script",u)]
section
variable {w:World} {K:PySem.W.Frag} {mg:Str→Option Value} {t:Adr} (T:Txt w K mg t)
include T
theorem Txt.XE:bc K t.Cp q9 []:=T.Zt.binds fun _ _ _ _ _ _=>us3 fun _ _ _=>rfl
theorem Txt.ZK:bc K t.mz q9 []:=T.gE.binds fun _ _ _ _ _ _=>us3 fun _ _ _=>rfl
theorem Txt.VC:bc K t.Du q22 []:=T.Xu.binds fun _ _ _ _ _ _=>us2 fun _ _=>rfl
theorem Txt.Tr:bc K t.wg q11 []:=T.Xh.binds fun _ _ _ _ _ _=>us3 fun _ _ _=>rfl
theorem Txt.cx:bc K t.km q35 []:=T.dn.binds fun _ _ _ _ _ _=>us3 fun _ _ _=>rfl
theorem Txt.gl:bc K t.Ye q26 []:=T.kg.binds fun _ _ _ _ _ _=>us3 fun _ _ _=>rfl
theorem Txt.ju:bc K t.gh ["line"] []:=T.Xi.binds fun _ _ _ _ _ _=>us1 fun _=>rfl
theorem Txt.uC:bc K t.iu ["told"] []:=T.wu.binds fun _ _ _ _ _ _=>us1 fun _=>rfl
theorem Txt.Pm:bc K t.Je q24 []:=T.Wf.binds fun _ _ _ _ _ _=>us3 fun _ _ _=>rfl
theorem Txt.cz:bc K t.qp q11 []:=T.gp.binds fun _ _ _ _ _ _=>us3 fun _ _ _=>rfl
theorem Txt.KI:bc K t.bv ["text"] []:=T.vx.binds fun _ _ _ _ _ _=>us1 fun _=>rfl
theorem Txt.Bo:bc K t.Rg q17 []:=T.Gh.binds fun _ _ _ _ _ _=>us3 fun _ _ _=>rfl
theorem Txt.Kx:bc K t.Zi q27 []:=T.dm.binds fun _ _ _ _ _ _=>us2 fun _ _=>rfl
theorem Txt.xB:bc K t.em q36 []:=T.Kq.binds fun _ _ _ _ _ _=>us3 fun _ _ _=>rfl
theorem Txt.LB:bc K t.Xm ["word"] []:=T.Up.binds fun _ _ _ _ _ _=>us1 fun _=>rfl
theorem Txt.gx:bc K t.Pj ["text"] []:=T.Km.binds fun _ _ _ _ _ _=>us1 fun _=>rfl
theorem Txt.Bx:bc K t.Si ["reader"] []:=T.Zl.binds fun _ _ _ _ _ _=>us1 fun _=>rfl
theorem Txt.Aq:bc K t.Kf q37 []:=T.nh.binds fun _ _ _ _ _ _=>us2 fun _ _=>rfl
theorem Txt.Zz:bc K t.Bk q28 []:=T.Ln.binds fun _ _ _ _ _ _=>us3 fun _ _ _=>rfl
theorem Txt.qA:bc K t.Fk q29 []:=T.xn.binds fun _ _ _ _ _ _=>us7 fun _ _ _ _ _ _ _=>rfl
theorem Txt.pA:bc K t.Ek q38 []:=T.On.binds fun _ _ _ _ _ _=>us3 fun _ _ _=>rfl
theorem Txt.pq:bc K t.Ff ["text"] []:=T.Bh.binds fun _ _ _ _ _ _=>us1 fun _=>rfl
theorem Txt.uz:bc K t.jp q39 []:=T.ip.binds fun _ _ _ _ _ _=>us3 fun _ _ _=>rfl
theorem Txt.xv:bc K t.Kh q30 []:=T.ak.binds fun _ _ _ _ _ _=>us3 fun _ _ _=>rfl
theorem Txt.fL:bc K t.Uz q12 []:=T.oC.binds fun _ _ _ _ _ _=>us3 fun _ _ _=>rfl
theorem Txt.wM:bc K t.KG q12 []:=T.WI.binds fun _ _ _ _ _ _=>us3 fun _ _ _=>rfl
theorem Txt.Tk:bc K t.cf ["marks"] []:=T.vg.binds fun _ _ _ _ _ _=>us1 fun _=>rfl
theorem Txt.Ps:bc K t.xg ["marks"] []:=T.ai.binds fun _ _ _ _ _ _=>us1 fun _=>rfl
theorem Txt.yi:bc K t.uf q10 []:=T.gg.binds fun _ _ _ _ _ _=>us2 fun _ _=>rfl
theorem Txt.vo:bc K t.Ng q31 []:=T.Fh.binds fun _ _ _ _ _ _=>us3 fun _ _ _=>rfl
theorem Txt.mK:bc K t.zz q40 []:=T.cE.binds fun _ _ _ _ _ _=>us3 fun _ _ _=>rfl
theorem Txt.Yx:bc K t.mj ["reader"] []:=T.Vl.binds fun _ _ _ _ _ _=>us1 fun _=>rfl
theorem Txt.uy:bc K t.aj q41 []:=T.Xl.binds fun _ _ _ _ _ _=>us4 fun _ _ _ _=>rfl
theorem Txt.ox:bc K t.Ni q42 []:=T.Ll.binds fun _ _ _ _ _ _=>us2 fun _ _=>rfl
theorem Txt.Ms:bc K t.zg q43 []:=T.ii.binds fun _ _ _ _ _ _=>us2 fun _ _=>rfl
theorem Txt.Fj:bc K t.Md q44 []:=T.Ge.binds fun _ _ _ _ _ _=>us3 fun _ _ _=>rfl
theorem Txt.Ir:bc K t.yg q15 []:=T.Yh.binds fun _ _ _ _ _ _=>us3 fun _ _ _=>rfl
theorem Txt.vn:bc K t.Ke q45 []:=T.cg.binds fun _ _ _ _ _ _=>us5 fun _ _ _ _ _=>rfl
theorem Txt.Fs:bc K t.Fg q15 []:=T.di.binds fun _ _ _ _ _ _=>us3 fun _ _ _=>rfl
theorem Txt.Xx:bc K t.Ti q46 []:=T.Tl.binds fun _ _ _ _ _ _=>us3 fun _ _ _=>rfl
theorem Txt.Tb:bc K t.sf q18 []:=T.Qb.binds fun _ _ _ _ _ _=>us3 fun _ _ _=>rfl
theorem Txt.Dv:bc K t.Uh q47 []:=T.nk.binds fun _ _ _ _ _ _=>us2 fun _ _=>rfl
theorem Txt.jy:bc K t.dj q25 []:=T.Rl.binds fun _ _ _ _ _ _=>us1 fun _=>rfl
theorem Txt.il:bc K t.Bg q48 []:=T.lg.binds fun _ _ _ _ _ _=>us3 fun _ _ _=>rfl
theorem Txt.Hj:bc K t.Rh q49 []:=T.Qg.binds fun _ _ _ _ _ _=>us5 fun _ _ _ _ _=>rfl
theorem Txt.cu:bc K t.dh q50 []:=T.lj.binds fun _ _ _ _ _ _=>us4 fun _ _ _ _=>rfl
theorem Txt.Vo:bc K t.qf q34 []:=T.pj.binds fun _ _ _ _ _ _=>us3 fun _ _ _=>rfl
theorem Txt.Te:bc K t.Xc ["self"] []:=T.Di.binds fun _ _ _ _ _ _=>us1 fun _=>rfl
theorem Txt.Jk:bc K t.Ud ["self"] []:=T.ah.binds fun _ _ _ _ _ _=>us1 fun _=>rfl
theorem Txt.Tg:bc K t.Fd q19 []:=T.rj.binds fun _ _ _ _ _ _=>us2 fun _ _=>rfl
theorem Txt.Kd:bc K t.Pc q20 []:=T.Qh.binds fun _ _ _ _ _ _=>us2 fun _ _=>rfl
theorem Txt.dc:bc K t.xc q16 []:=T.qh.binds fun _ _ _ _ _ _=>us3 fun _ _ _=>rfl
theorem Txt.we:bc K t.Mc ["self"] []:=T.Th.binds fun _ _ _ _ _ _=>us1 fun _=>rfl
theorem Txt.Nn:bc K t.lh q21 []:=T.Qt.binds fun _ _ _ _ _ _=>us8 fun _ _ _ _ _ _ _ _=>rfl
theorem Txt.Nu:bc K t.eh q5 []:=T.im.binds fun _ _ _ _ _ _=>us7 fun _ _ _ _ _ _ _=>rfl
theorem Txt.Qr:bc K t.ci ["self"] []:=T.El.binds fun _ _ _ _ _ _=>us1 fun _=>rfl
theorem Txt.nu:bc K t.jj ["self"] []:=T.bn.binds fun _ _ _ _ _ _=>us1 fun _=>rfl
theorem Txt.Hs:bc K t.jg q5 []:=T.Jl.binds fun _ _ _ _ _ _=>us7 fun _ _ _ _ _ _ _=>rfl
theorem Txt.aq:bc K t.yh ["self"] []:=T.Tj.binds fun _ _ _ _ _ _=>us1 fun _=>rfl
theorem Txt.Er:bc K t.Wh ["self"] []:=T.Bl.binds fun _ _ _ _ _ _=>us1 fun _=>rfl
theorem Txt.Ls:bc K t.ug q5 []:=T.zl.binds fun _ _ _ _ _ _=>us7 fun _ _ _ _ _ _ _=>rfl
theorem Txt.Br:bc K t.ph ["self"] []:=T.Oj.binds fun _ _ _ _ _ _=>us1 fun _=>rfl
theorem Txt.Ds:bc K t.Zh ["self"] []:=T.Zk.binds fun _ _ _ _ _ _=>us1 fun _=>rfl
theorem Txt.dr:bc K t.Vf q51 []:=T.fk.binds fun _ _ _ _ _ _=>us3 fun _ _ _=>rfl
theorem Txt.Gd:bc K t.ld ["self"] []:=T.yj.binds fun _ _ _ _ _ _=>us1 fun _=>rfl
theorem Txt.Sn:bc K t.Re q8 []:=T.ki.binds fun _ _ _ _ _ _=>us2 fun _ _=>rfl
theorem Txt.Lc:bc K t.zc q8 []:=T.mi.binds fun _ _ _ _ _ _=>us2 fun _ _=>rfl
theorem Txt.Ux:bc K t.fj q52 []:=T.Zp.binds fun _ _ _ _ _ _=>us4 fun _ _ _ _=>rfl
end
noncomputable def fh (ns:List Int) (k m:Int):Int:=
 ((((if 0 < (ns.length:Int) then ns.getD (k % (ns.length:Int)).toNat 0 else 0) % 1000003 + 31 * k * k + 1) * 48271 % 999983 * 7919) % 524287) % m
theorem ge (ns:List Int) (k:Int) {m:Int} (h:0 < m):0 ≤ fh ns k m:=Int.emod_nonneg _ (by omega)
theorem ce (ns:List Int) (k:Int) {m:Int} (h:0 < m):fh ns k m < m:=Int.emod_lt_of_pos _ h
noncomputable def kd (K:PySem.W.Frag) (a:Addr) (ns:List Int):Sp:=fun vs H Q _=>∃ k m,vs=[.ref a,.int k,.int m]∧Sc K a ns H∧(0 ≤ k∧k < 1000000)∧0 < m∧Q (.int (fh ns k m)) H
section
variable {P:Program} {w:World} {K:PySem.W.Frag} {mg:Str→Option Value} {base:Heap} {t:Adr}
theorem lu (T:Txt w K mg t) (a:Addr) (ns:List Int) (h63:ns.length ≤ 63):Pb P w K mg base CX0 1 t.tf t.sf q18 (kd K a ns):=by
 refine T.Qb.ok Lj (fun vs H Q E h=>?_) (fun _ _ _ s H vs Q E hr h=>?_)
 ·obtain ⟨k,m,rfl,_⟩:=h;rfl
 obtain ⟨k,m,rfl,S,⟨h0,h1⟩,hm,q⟩:=h;refine ⟨_,(db (Cb (i:=3) Lj.nd rfl (Or.inl rfl) (up (Rb qF (Ib Eb rfl T.Yf Ob (ab (pv 0) fb)) pb (Xb _)) (kc Zb (pv 0) (Fb Uf (pv 1) (Ib Eb rfl T.Yf Ob (ab (pv 0) fb))) (fun _ _=>rfl)) pb))
   (db (Cb (i:=4) Lj.nd rfl (Or.inl rfl) (Fb fc (Fb fc (Fb Uf (pv 3) pb) (Fb wf (Fb wf pb (pv 1)) (pv 1))) pb))
   (qb (Gb (Fb Uf (Fb Uf (Fb wf (Fb Uf (Fb wf (pv 4) pb) pb) pb) pb) (pv 2)))))),?_⟩
 walk_at "RD";refine ⟨_,.inl S.seq,?_⟩;rw [List.length_map];have hkk:(0:Int) ≤ k * k∧k * k < 1000000 * 1000000:=⟨Int.mul_nonneg h0 h0,Int.mul_lt_mul' (by omega) h1 h0 (by decide)⟩;have fin:∀ i:Int,(0:Int) < 1000003∧jH 31 k∧jH (31 * k) k∧jH (i % 1000003 + 31 * k * k + 1) 48271∧(0:Int) < 999983∧jH ((i % 1000003 + 31 * k * k + 1) * 48271 % 999983) 7919∧(0:Int) < 524287∧0 < m:=by
  intro i;refine ⟨by decide,.inl (by decide),.inr (by omega),.inr (by decide),by decide,.inr (by decide),by decide,hm⟩
 by_cases c:(0:Int) < (ns.length:Int)
 ·rw [if_pos (decide_eq_true c)];have hk:0 ≤ k % (ns.length:Int)∧k % (ns.length:Int) < (ns.length:Int):=⟨Int.emod_nonneg _ (by omega),Int.emod_lt_of_pos _ c⟩;refine ⟨_,.inl S.seq,by rw [List.length_map];exact c,_,S.seq,?_⟩;rw [List.length_map];have hj:(k % (ns.length:Int)).toNat < ns.length:=by omega
  refine ⟨.int ns[(k % (ns.length:Int)).toNat],?_,_,rfl,?_⟩
  ·have e:=Ac (xs:=ns.map V.int) (j:=(k % (ns.length:Int)).toNat) (v:=.int ns[(k % (ns.length:Int)).toNat]) (by rw [List.getElem?_map,List.getElem?_eq_getElem hj] <;> rfl);rwa [Int.toNat_of_nonneg hk.1] at e
  ·obtain ⟨f1,f2,f3,f4,f5,f6,f7,f8⟩:=fin ns[(k % (ns.length:Int)).toNat];refine ⟨f1,f2,f3,f4,f5,f6,f7,f8,?_⟩;have e:fh ns k m=(((ns[(k % (ns.length:Int)).toNat] % 1000003 + 31 * k * k + 1) * 48271 % 999983 * 7919) % 524287) % m:=by
    unfold fh;rw [if_pos c,List.getD_eq_getElem?_getD,List.getElem?_eq_getElem hj];rfl
   rw [← e];exact q
 ·rw [if_neg (by simpa using c)];obtain ⟨f1,f2,f3,f4,f5,f6,f7,f8⟩:=fin 0;refine ⟨f1,f2,f3,f4,f5,f6,f7,f8,?_⟩;have e:fh ns k m=(((0 % 1000003 + 31 * k * k + 1) * 48271 % 999983 * 7919) % 524287) % m:=by
   unfold fh;rw [if_neg c]
  rw [← e];exact q
end
theorem kM {w:Str}:w=Str.ofString "" ↔ w.length=0:=by
 constructor
 ·rintro rfl;decide +kernel
 ·intro h;have e:w.cps=#[]:=Array.eq_empty_of_size_eq_zero h;have e2:(Str.ofString "").cps=#[]:=by decide +kernel
  cases w;cases h2:Str.ofString "";rw [h2] at e2;simp only at e e2;rw [e,e2]
noncomputable def inL (sg:Str) (c:Nat):Bool:=!(Builtin.Str.occurrences sg (Av c) 0 sg.length 1).isEmpty
theorem ly (sg:Str) (c:Nat):inL sg c=decide (c ∈ sg.cps.toList):=StrLaws.found_one sg c
noncomputable def made (w sg:Str) (m:Int):Bool:=if w=Str.ofString "" then false else if m < (w.length:Int) then false else w.cps.toList.all (inL sg)
noncomputable def jq:Sp:=fun vs H Q _=>∃ w sg m,vs=[.str w,.str sg,.int m]∧w.length ≤ 1000∧NoT H∧Q (.bl (made w sg m)) H
noncomputable def CG:Sp:=fun vs H Q _=>∃ w sg m,vs=[.str w,.str sg,.int m]∧w.length ≤ 1000∧∀ H',Jb H H'→Q (.bl (made w sg m)) H'
section
variable {P:Program} {w:World} {K:PySem.W.Frag} {mg:Str→Option Value} {base:Heap} {t:Adr}
theorem nE (T:Txt w K mg t):Pb P w K mg base CX0 1 t.Kg t.Rg q17 jq:=by
 refine Pb.forget (sp:=CG) ?_ fun vs H Q E h=>?_
 ·refine T.Gh.ok Su (fun vs H Q E h=>?_) (fun _ _ _ s H vs Q E hr h=>?_)
  ·obtain ⟨w,sg,m,rfl,_⟩:=h;rfl
  obtain ⟨w,sg,m,rfl,hz,q⟩:=h;have hz':w.length ≤ sizeLine:=Nat.le_trans hz (by decide);refine ⟨_,(db (Be (PW.pt (Fm (Rb Ji (pv 0) Wc (Xb _)) (Wm (Rb qF (Ib Mv rfl T.Yf Ob (ab (pv 0) fb)) (pv 2) (Xb _))))) (qb (Gb En)) vc)
   (qb (Gb (Ib (Eu rfl) rfl T.RH Bn (ab (ve rfl (vL (pv 0)) (jc (sc:=rb Gj) rfl (by decide +kernel)) (N:=["sign","signs"]) (sel:=[none,some 1]) (Gc (M:=q17) (by decide +kernel)) (Blk.of (fun _ _ _ _=>(yb (i:=0) (Xe (N:=["sign","signs"]) (by decide +kernel) rfl) rfl (Or.inl rfl))) (fun _ _ _ _=>⟨_,Qd,by walk_at "B"⟩) (fun _ _ _ _=>⟨_,(Ef vC (pv 0) (pv 1) (by with_unfolding_all rfl)),by walk_at "B"⟩))) fb))))),?_⟩
  walk_at "RD";refine Dc (decide (w=Str.ofString "") || decide (m < (w.length:Int))) (fun Q hQ=>?_) (fun hb=>?_) (fun hb=>?_)
  ·walk_at "RD";by_cases c:w=Str.ofString ""
   ·rw [if_pos (decide_eq_true c)];rw [decide_eq_true c,Bool.true_or] at hQ;exact hQ
   ·rw [if_neg (by simpa using c)];rw [decide_eq_false c,Bool.false_or] at hQ;exact ⟨hz',hQ⟩
  ·walk_at "RD";have e:made w sg m=false:=by
    unfold made;simp only [Bool.or_eq_true,decide_eq_true_eq] at hb;by_cases c:w=Str.ofString ""
    ·rw [if_pos c]
    ·rw [if_neg c,if_pos (hb.resolve_left c)]
   have:=q H (Jb.refl H);rw [e] at this;exact this
  ·walk_at "RD";have e:made w sg m=w.cps.toList.all (inL sg):=by
    unfold made;simp only [Bool.or_eq_false_iff,decide_eq_false_iff_not] at hb;rw [if_neg hb.1,if_neg hb.2]
   refine ed.its_map (fun x=>match x with | .str y=>.bl (!(Builtin.Str.occurrences sg y 0 sg.length 1).isEmpty) | _=>.non) (by rw [Em];exact hz') (fun i x N hx hN=>?_) (fun p hp=>?_)
   ·unfold sj at hx;rw [List.getElem?_map] at hx;cases hc:w.cps.toList[i]? with
    | none=>rw [hc] at hx;cases hx
    | some c=>
     rw [hc] at hx;have hx':V.str (Av c)=x:=Option.some.inj hx;subst hx';walk_at "RD";exact ⟨Sub.name,hN⟩
   ·refine ⟨p,rfl,w.cps.toList.map (inL sg),SqL.of ?_,?_⟩
    ·rw [cb];unfold sj;rw [List.map_map,List.map_map];rfl
    ·have:=q (upd H p (.lst (List.map (fun x=>match x with | .str y=>.bl (!(Builtin.Str.occurrences sg y 0 sg.length 1).isEmpty) | _=>.non) (sj w)))) (lb hp);rw [e] at this;rw [List.all_map];exact this
 ·obtain ⟨w,sg,m,e,hz,nt,q⟩:=h;exact ⟨nt,w,sg,m,e,hz,fun H' sm=>⟨sm,q⟩⟩
end
noncomputable abbrev QH:Str:=Str.ofString "0123456789"
noncomputable def Mo (c:Nat):Bool:=decide (48 ≤ c∧c ≤ 57)
theorem AD:QH.cps.toList=[48,49,50,51,52,53,54,55,56,57]:=by decide +kernel
theorem yG (c:Nat):inL QH c=Mo c:=by
 rw [ly,AD];unfold Mo;rw [Bool.eq_iff_iff];simp only [decide_eq_true_eq,List.mem_cons,List.not_mem_nil,or_false];omega
noncomputable abbrev cs (w:Str):List Nat:=w.cps.toList
theorem mE (w:Str):(cs w).length=w.length:=by simp [cs,Str.length]
noncomputable def okB (w:Str):Bool:=decide (1 ≤ (cs w).length) && decide ((cs w).length ≤ 3) && (cs w).all Mo && (decide ((cs w).length ≤ 1) || decide ((cs w).headD 0 ≠ 48))
noncomputable abbrev val (w:Str):Int:=((NumText.digitsVal (cs w):Nat):Int)
noncomputable def rE (w:Str) (lo hi:Int):V:=if okB w && !(decide (val w < lo) || decide (hi < val w)) then .int (val w) else .non
theorem wB {w:Str} {c:Nat}:w=⟨#[c]⟩↔cs w=[c]:=by
 constructor
 ·rintro rfl;rfl
 ·intro h;cases w with
  | mk a=>
   have e:a=#[c]:=Array.toList_inj.mp h;rw [e]
theorem iy:Str.ofString "0"=⟨#[48]⟩:=by decide +kernel
theorem ww (w:Str):made w QH 3=(decide (1 ≤ (cs w).length) && decide ((cs w).length ≤ 3) && (cs w).all Mo):=by
 unfold made;have e:(inL QH)=Mo:=funext yG;rw [e];by_cases h1:w=Str.ofString ""
 ·have h2:=kM.mp h1;rw [if_pos h1,mE,h2];rfl
 ·have h2:¬ w.length=0:=fun z=>h1 (kM.mpr z)
  rw [if_neg h1,mE];by_cases h3:(3:Int) < (w.length:Int)
  ·rw [if_pos h3,decide_eq_false (show ¬ w.length ≤ 3 by omega),Bool.and_false,Bool.false_and]
  ·rw [if_neg h3,decide_eq_true (show 1 ≤ w.length by omega),decide_eq_true (show w.length ≤ 3 by omega)];rfl
theorem Vt {l:List Nat} (h:l.all Mo=true):NumText.AllDigits l:=fun c hc=>by
 have:=List.all_eq_true.mp h c hc;simpa [Mo] using this
theorem aL {w:Str} (h:okB w=true):(1 ≤ (cs w).length∧(cs w).length ≤ 3)∧(cs w).all Mo=true:=by
 unfold okB at h;simp only [Bool.and_eq_true,decide_eq_true_eq] at h;exact h.1
noncomputable def mD:Sp:=fun vs H Q _=>∃ w,vs=[.str w,.int 3]∧w.length ≤ 1000∧NoT H∧Q (.bl (okB w)) H
noncomputable def aH:Sp:=fun vs H Q _=>∃ w lo hi,vs=[.str w,.int lo,.int hi]∧w.length ≤ 1000∧NoT H∧Q (rE w lo hi) H
section
variable {P:Program} {w:World} {K:PySem.W.Frag} {mg:Str→Option Value} {base:Heap} {t:Adr}
theorem BL (T:Txt w K mg t):Pb P w K mg base CX0 2 t.cj t.Zi q27 mD:=by
 have g17:Pb P w K mg base CX0 1 t.Kg t.Rg q17 jq:=nE T;refine T.dm.ok Vw (fun vs H Q E h=>?_) (fun _ _ _ s H vs Q E hr h=>?_)
 ·obtain ⟨w,rfl,_⟩:=h;rfl
 obtain ⟨w,rfl,hz,nt,q⟩:=h;have hz':w.length ≤ sizeLine:=Nat.le_trans hz (by decide);refine ⟨_,(db (Be (xo (Ki (xb g17 hr rfl T.qo T.Gh.kp T.Bo .nil Db (ab (pv 0) (ab (dg rfl T.yD T.KB) (ab (pv 1) fb)))))) (qb (Gb En)) vc)
   (qb (Gb (cL (Ef Ji (pv 0) Wc (Xb _)) (fw (Ef qw (kc dD (pv 0) pb (fun _ _=>rfl)) Wc (Xb _))))))),?_⟩
 refine Dc (!made w QH 3) (fun Q hQ=>?_) (fun hb=>?_) (fun hb=>?_)
 ·(walk_at "RD"; repeat (simp only [jq];walk_at "RD"));exact ⟨hz,nt,hQ⟩
 ·walk_at "RD";have e:okB w=false:=by
   have hb':made w QH 3=false:=by simpa using hb
   rw [ww] at hb';unfold okB;rw [hb'];rfl
  rw [e] at q;exact q
 ·have hb':made w QH 3=true:=by simpa using hb
  rw [ww] at hb';rw [Az];dsimp only;refine OH (.bl (okB w)) (fun Q hQ=>?_) ?_
  case refine_2=>exact q
  walk_at "RD";have hb2:(1 ≤ (cs w).length∧(cs w).length ≤ 3)∧(cs w).all Mo=true:=by
   simpa only [Bool.and_eq_true,decide_eq_true_eq] using hb'
  obtain ⟨c,r,hcr⟩:∃ c r,cs w=c :: r:=by
   cases h:cs w with
   | nil=>rw [h] at hb2;exact absurd hb2.1.1 (by decide)
   | cons c r=>exact ⟨c,r,rfl⟩
  have ok:okB w=(decide ((cs w).length ≤ 1) || decide ((cs w).headD 0 ≠ 48)):=by
   unfold okB;rw [hb',Bool.true_and]
  by_cases c0:w=Str.ofString "0"
  ·rw [if_pos (decide_eq_true c0)];have e:cs w=[48]:=by rw [c0,iy]
   rw [ok,e] at hQ;exact hQ
  ·rw [if_neg (by simpa using c0)];refine ⟨hz',c,?_,?_⟩
   ·have:=Ac (xs:=cs w) (j:=0) (v:=c) (by rw [hcr];rfl);exact this
   ·have e2:decide ((⟨#[c]⟩:Str)=Str.ofString "0")=decide (c=48):=by
     rw [iy];by_cases h48:c=48
     ·rw [h48];simp
     ·rw [decide_eq_false h48,decide_eq_false];intro z;have z2:=wB.mp z;exact h48 (List.cons.inj z2).1
    rw [e2];have e3:okB w = !decide (c=48):=by
     rw [ok,hcr];show (decide ((c :: r).length ≤ 1) || decide (c ≠ 48))=_;by_cases h48:c=48
     ·have hr:r ≠ []:=fun z=>c0 (by rw [iy];exact wB.mpr (by rw [hcr,z,h48]))
      have:¬ (c :: r).length ≤ 1:=by
       cases r with
       | nil=>exact absurd rfl hr
       | cons d r=>simp
      rw [decide_eq_false this,h48];rfl
     ·rw [decide_eq_true h48,Bool.or_true,decide_eq_false h48];rfl
    rw [← e3];exact hQ
theorem jL (T:Txt w K mg t):Pb P w K mg base CX0 3 t.cn t.em q36 aH:=by
 have g30:Pb P w K mg base CX0 2 t.cj t.Zi q27 mD:=BL T;refine T.Kq.ok wt (fun vs H Q E h=>?_) (fun _ _ _ s H vs Q E hr h=>?_)
 ·obtain ⟨w,lo,hi,rfl,_⟩:=h;rfl
 obtain ⟨w,lo,hi,rfl,hz,nt,q⟩:=h;refine ⟨_,(db (Be (xo (Ki (xb g30 hr rfl T.my T.dm.kp T.Kx .nil Db (ab (pv 0) (ab (dg rfl T.Qs T.gs) fb))))) (qb (Gb Ww)) vc)
   (db (Cb (i:=3) wt.nd rfl (Or.inl rfl) (Vc CC rfl T.WF wk (ab (pv 0) fb)))
   (db (Be (PW.pt (Fm (Rb Xo (pv 3) (pv 1) (Xb _)) (Wm (Rb qF (pv 3) (pv 2) (Xb _))))) (qb (Gb Ww)) vc)
   (qb (Gb (pv 3)))))),?_⟩
 refine Dc (!okB w) (fun Q hQ=>?_) (fun hb=>?_) (fun hb=>?_)
 ·(walk_at "RD"; repeat (simp only [mD];walk_at "RD"));exact ⟨hz,nt,hQ⟩
 ·walk_at "RD";have hb':okB w=false:=by simpa using hb
  have e:rE w lo hi=.non:=by unfold rE;rw [hb'];rfl
  rw [e] at q;exact q
 ·have hb':okB w=true:=by simpa using hb
  have h3:(1 ≤ (cs w).length∧(cs w).length ≤ 3)∧(cs w).all Mo=true:=by
   have:=hb';unfold okB at this;simp only [Bool.and_eq_true,decide_eq_true_eq] at this;exact this.1
  have hl:=mE w;have hi':intText? w=some (val w):=intText_digits (Vt h3.2) (fun z=>by have z':cs w=[]:=z;rw [z'] at h3;exact absurd h3.1.1 (by decide)) (by omega);walk_at "RD";refine ⟨val w,hi',by omega,?_⟩;refine Dc (decide (val w < lo) || decide (hi < val w)) (fun Q hQ=>?_) (fun hc=>?_) (fun hc=>?_)
  ·walk_at "RD";by_cases c:val w < lo
   ·rw [if_pos (decide_eq_true c)];rw [decide_eq_true c,Bool.true_or] at hQ;exact hQ
   ·rw [if_neg (by simpa using c)];rw [decide_eq_false c,Bool.false_or] at hQ;exact hQ
  ·walk_at "RD";have e:rE w lo hi=.non:=by unfold rE;rw [hb',hc];rfl
   rw [e] at q;exact q
  ·walk_at "RD";have e:rE w lo hi=.int (val w):=by unfold rE;rw [hb',hc];rfl
   rw [e] at q;exact q
end
theorem gC {n:Nat} (h:n < 1000):n.log2 < 1920:=by
 by_cases h0:n=0
 ·subst h0;decide
 ·rw [Nat.log2_lt h0];exact Nat.lt_of_lt_of_le h (Nat.le_trans (show 1000 ≤ 2 ^ 10 by decide) (Nat.pow_le_pow_right (by decide) (by decide)))
theorem kG:∀ n,n < 1000→(Nat.toDigits 10 n).length ≤ 3:=by decide +kernel
theorem iE {n:Int} (h0:0 ≤ n) (h1:n ≤ 999):(Str.ofString (toString n)).length ≤ 3:=by
 have e:=PySem.W.KIN.signs_num n.toNat;rw [Int.toNat_of_nonneg h0] at e;have l:(Str.ofString (toString n)).length=(Str.ofString (toString n)).cps.toList.length:=by simp [Str.length]
 rw [l,e,List.length_map];exact kG _ (by omega)
noncomputable abbrev Vg:Str:=Str.ofString "abcdefghijklmnopqrstuvwxyz"
noncomputable def KD:Sp:=fun vs H Q _=>∃ w,vs=[.str w]∧w.length ≤ 1000∧NoT H∧Q (.bl (made w Vg 8)) H
section
variable {P:Program} {w:World} {K:PySem.W.Frag} {mg:Str→Option Value} {base:Heap} {t:Adr}
theorem vI (T:Txt w K mg t):Pb P w K mg base CX0 2 t.jm t.Xm ["word"] KD:=by
 have g17:Pb P w K mg base CX0 1 t.Kg t.Rg q17 jq:=nE T;refine T.Up.ok JA (fun vs H Q E h=>?_) (fun _ _ _ s H vs Q E hr h=>?_)
 ·obtain ⟨w,rfl,_⟩:=h;rfl
 obtain ⟨w,rfl,hz,nt,q⟩:=h;refine ⟨_,(qb (Gb (xb g17 hr rfl T.qo T.Gh.kp T.Bo .nil Db (ab (pv 0) (ab (dg rfl T.bC T.jC) (ab (dg rfl T.Vr T.Kr) fb)))))),?_⟩;(walk_at "RD"; repeat (simp only [jq];walk_at "RD"));exact ⟨hz,nt,q⟩
end
noncomputable abbrev nl:Str:=Str.ofString "\n"
noncomputable abbrev bk:Str:=Str.ofString " "
theorem KL:nl=⟨#[10]⟩:=by decide +kernel
theorem IJ:bk=⟨#[32]⟩:=by decide +kernel
noncomputable def ji (x:Str):List (List Str):=(Txt.split x nl).map fun r=>Txt.split r bk
theorem Tt:∀ {ys:List Str} {y:Str},y ∈ ys→y.length ≤ (ys.map (·.length)).sum
 | [],_,h=>nomatch h
 | a :: r,y,h=>by
  rw [List.map_cons,List.sum_cons];rcases List.mem_cons.mp h with rfl | h
  ·omega
  ·have:=Tt h;omega
theorem BI {x y r:Str} (hy:1 ≤ y.length) (h:r ∈ Txt.split x y):r.length ≤ x.length + 1:=by
 have h1:=PyProof.Rows.split_weight x y hy;have h2:=Tt h;omega
theorem Gq {x y:Str} (hy:1 ≤ y.length):(Txt.split x y).length ≤ x.length + 1:=by
 have h1:=PyProof.Rows.split_weight x y hy;omega
theorem uF (x y:Str):Txt.split x y ≠ []:=by
 unfold Txt.split;split
 ·simp
 ·split
  ·simp
  ·rw [StrLaws.partsBetween_eq];obtain ⟨p,r,e⟩:=StrLaws.partsFrom_ne x y.length 0 (Builtin.Str.occurrences x y 0 x.length (x.length + 1));rw [e];simp
noncomputable def LL (H0 H:Hp) (p:Addr) (rows:List (List Str)):Prop:=∃ qs:List Addr,H p=some (.lst (qs.map V.ref))∧H0 p=none∧p ∉ qs∧qs.length=rows.length∧∀ (i:Nat) (q:Addr) (r:List Str),qs[i]? = some q→rows[i]? = some r→H q=some (.lst (Kb r))∧H0 q=none
noncomputable def nz:Sp:=fun vs H Q _=>∃ x,vs=[.str x]∧x.length ≤ 20000∧NoT H∧∀ p H',Jb H H'→NoT H'→LL H H' p (ji x)→Q (.ref p) H'
theorem Tw:nl.length=1:=by decide +kernel
theorem Qz:bk.length=1:=by decide +kernel
section
variable {P:Program} {w:World} {K:PySem.W.Frag} {mg:Str→Option Value} {base:Heap} {t:Adr}
theorem DG (T:Txt w K mg t):Pb P w K mg base CX0 1 t.fv t.bv ["text"] nz:=by
 refine T.vx.ok vF (fun vs H Q E h=>?_) (fun _ _ _ s H vs Q E hr h=>?_)
 ·obtain ⟨x,rfl,_⟩:=h;rfl
 obtain ⟨x,rfl,hz,nt,q⟩:=h;have hzz:∀ n:Nat,n ≤ 40000→n ≤ sizeLine:=fun n h=>Nat.le_trans h (by decide)
 refine ⟨_,(qb (Gb (ve rfl (zd (Vi PySem.F.plainAttrs_str PySem.F.slot_str_split PySem.F.type_str_split Qy (pv 0) (ab Wc fb))) (jc (sc:=rb Mx) rfl (by decide +kernel)) (N:=["row"]) (sel:=[none]) (Gc (M:=["text"]) (by decide +kernel)) (Blk.of (fun _ _ _ _=>(yb (i:=0) (Xe (N:=["row"]) (by decide +kernel) rfl) rfl (Or.inl rfl))) (fun _ _ _ _=>⟨_,Qd,by walk_at "B"⟩) (fun _ _ _ _=>⟨_,(Vi PySem.F.plainAttrs_str PySem.F.slot_str_split PySem.F.type_str_split Qy (pv 0) (ab Wc fb)),by walk_at "B"⟩))))),?_⟩;walk_at "RD";have hy:1 ≤ nl.length:=by rw [Tw];exact Nat.le_refl _
 have hy2:1 ≤ bk.length:=by rw [Qz];exact Nat.le_refl _
 have hs:=Gq (x:=x) hy;have hs':(Kb (Txt.split x nl)).length ≤ sizeLine:=by unfold Kb;rw [List.length_map];exact hzz _ (by omega)
 refine ⟨by rw [Tw];decide,hzz _ (by omega),hzz _ (show (Txt.split x nl).length ≤ 40000 by omega),fun p hp=>⟨⟨_,SqL.of cb⟩,?_⟩⟩;refine ed.list_mk (xs:=Kb (Txt.split x nl)) (fun v=>match v with | .str r=>.lst (Kb (Txt.split r bk)) | _=>.lst []) (SqL.of cb) hs' (fun v=>by cases v <;> rfl) (fun i v H1 N hx sm nt1 hN=>?_) (fun qs H1 sm nt1 hl al p2 hp2=>?_)
 ·unfold Kb at hx;rw [List.getElem?_map] at hx;cases hr:(Txt.split x nl)[i]? with
  | none=>rw [hr] at hx;cases hx
  | some r=>
   rw [hr] at hx;have e:=Option.some.inj hx;subst e;have hm:=BI hy (List.mem_of_getElem? hr);have hs2:=Gq (x:=r) hy2;walk_at "RD";exact ⟨Sub.name,by rw [Qz];decide,hzz _ (by omega),hzz _ (show (Txt.split r bk).length ≤ 40000 by omega),hN⟩
 ·have sm0:Jb H H1:=(lb hp).trans sm;refine q _ _ (sm0.updN (sm0.free hp2)) ((nt1 (nt.upd)).upd) ⟨qs,cb,sm0.free hp2,fun hm=>?_,?_,fun i q' r h1 h2=>?_⟩
  ·obtain ⟨j,hj,e⟩:=List.getElem_of_mem hm;have hj2:j < (Kb (Txt.split x nl)).length:=by omega
   have:=al j p2 _ (by rw [List.getElem?_eq_getElem hj,e]) (List.getElem?_eq_getElem hj2);rw [hp2] at this;cases this.1
  ·rw [hl];unfold ji Kb;rw [List.length_map,List.length_map]
  ·unfold ji at h2;rw [List.getElem?_map] at h2;cases hr:(Txt.split x nl)[i]? with
   | none=>rw [hr] at h2;cases h2
   | some r0=>
    rw [hr] at h2;have e:=Option.some.inj h2;subst e;have z:=al i q' (.str r0) h1 (by unfold Kb;rw [List.getElem?_map,hr];rfl);refine ⟨by rw [ub (wb z.1 hp2)];exact z.1,?_⟩;have:=z.2;by_cases hq:q'=p
    ·rw [hq];exact hp
    ·rwa [ub hq] at this
end
end My
namespace My
open PySem L2
structure WD where
 k:Nat
 name:Str
 start:Int
 fin:Int
 off:Int
 near:Int
 least:Int
noncomputable def Pd:Nat→Str
 | 0=>Str.ofString "car"
 | 1=>Str.ofString "foot"
 | _=>Str.ofString "tram"
noncomputable def Adr.cw (t:Adr):Nat→Addr
 | 0=>t.ud
 | 1=>t.Nc
 | _=>t.Qc
noncomputable def No (d:WD):List (Str × V):=[(Str.ofString "kind",.str (Pd d.k)),(Str.ofString "name",.str d.name),(Str.ofString "start",.int d.start),(Str.ofString "end",.int d.fin),(Str.ofString "off",.int d.off),(Str.ofString "near",.int d.near),(Str.ofString "least",.int d.least)]
noncomputable abbrev Js:List Str:=[Str.ofString "kind",Str.ofString "name",Str.ofString "start",Str.ofString "end",Str.ofString "off",Str.ofString "near",Str.ofString "least"]
theorem Et (d:WD):(No d).map (·.1)=Js:=rfl
noncomputable def Pe (t:Adr) (H:Hp) (p:Addr) (d:WD):Prop:=d.k < 3∧∃ dx,H p=some (.ins (t.cw d.k) dx (No d))
theorem Pe.same {t:Adr} {H H':Hp} {p:Addr} {d:WD} (h:Pe t H p d) (s:Jb H H'):Pe t H' p d:=⟨h.1,h.2.imp fun dx e=>s _ _ e⟩
noncomputable def isW (t:Adr) (C:Addr):Prop:=∃ k,k < 3∧C=t.cw k
noncomputable def Ec (d:WD):Int:=match d.k with | 0=>1 | 1=>0 | _=>2
noncomputable def Wd (d:WD):Int:=match d.k with | 0=>2 | 1=>d.off | _=>1
section
variable {w:World} {K:PySem.W.Frag} {mg:Str→Option Value} {t:Adr}
theorem Txt.clw (T:Txt w K mg t):∀ k,Cls K (t.cw k)
 | 0=>T.Tp
 | 1=>T.Cn
 | _ + 2=>T.jo
theorem Txt.naw (T:Txt w K mg t) {f:Str} (hf:f ∈ Js):∀ k,gc K (t.cw k) f:=by
 intro k;simp only [Js,List.mem_cons,List.not_mem_nil,or_false] at hf;rcases hf with rfl | rfl | rfl | rfl | rfl | rfl | rfl
 ·match k with
  | 0=>exact T.Nr
  | 1=>exact T.gq
  | _ + 2=>exact T.nq
 ·match k with
  | 0=>exact T.Bs
  | 1=>exact T.Nq
  | _ + 2=>exact T.jr
 ·match k with
  | 0=>exact T.br
  | 1=>exact T.Io
  | _ + 2=>exact T.So
 ·match k with
  | 0=>exact T.du
  | 1=>exact T.Hr
  | _ + 2=>exact T.Pr
 ·match k with
  | 0=>exact T.gu
  | 1=>exact T.Gs
  | _ + 2=>exact T.Os
 ·match k with
  | 0=>exact T.Dr
  | 1=>exact T.rq
  | _ + 2=>exact T.Zq
 ·match k with
  | 0=>exact T.yq
  | 1=>exact T.Uo
  | _ + 2=>exact T.Wo
theorem Txt.cw_inj (T:Txt w K mg t) {j k:Nat} (hj:j < 3) (hk:k < 3) (e:t.cw j=t.cw k):j=k:=by
 match j,k,hj,hk with
 | 0,0,_,_=>rfl
 | 0,1,_,_=>exact absurd e T.Fi
 | 0,2,_,_=>exact absurd e T.ni
 | 1,0,_,_=>exact absurd e.symm T.Fi
 | 1,1,_,_=>rfl
 | 1,2,_,_=>exact absurd e T.Hh
 | 2,0,_,_=>exact absurd e.symm T.ni
 | 2,1,_,_=>exact absurd e.symm T.Hh
 | 2,2,_,_=>rfl
 | j + 3,_,h,_=>omega
 | _,k + 3,_,h=>omega
theorem Pe.fld (T:Txt w K mg t) {H:Hp} {p:Addr} {d:WD} (h:Pe t H p d) {f:Str} {v:V} (i:Nat) (hi:Js.findIdx? (· == f)=some i) (hv:(No d)[i]? = some (f,v)):Bj K H p f v:=by
 obtain ⟨_,dx,e⟩:=h;have hm:f ∈ Js:=by
  obtain ⟨hlt,h1,_⟩:=List.findIdx?_eq_some_iff_getElem.mp hi;have:Js[i]=f:=by simpa using h1
  rw [← this];exact List.getElem_mem hlt
 exact ⟨_,dx,_,e,T.clw _,T.naw hm _,pe Js i (Et d) hi hv⟩
theorem Pe.f_name (T:Txt w K mg t) {H:Hp} {p:Addr} {d:WD} (h:Pe t H p d):Bj K H p (Str.ofString "name") (.str d.name):=h.fld T 1 (by decide +kernel) rfl
theorem Pe.f_start (T:Txt w K mg t) {H:Hp} {p:Addr} {d:WD} (h:Pe t H p d):Bj K H p (Str.ofString "start") (.int d.start):=h.fld T 2 (by decide +kernel) rfl
theorem Pe.f_end (T:Txt w K mg t) {H:Hp} {p:Addr} {d:WD} (h:Pe t H p d):Bj K H p (Str.ofString "end") (.int d.fin):=h.fld T 3 (by decide +kernel) rfl
theorem Pe.f_off (T:Txt w K mg t) {H:Hp} {p:Addr} {d:WD} (h:Pe t H p d):Bj K H p (Str.ofString "off") (.int d.off):=h.fld T 4 (by decide +kernel) rfl
theorem Pe.f_near (T:Txt w K mg t) {H:Hp} {p:Addr} {d:WD} (h:Pe t H p d):Bj K H p (Str.ofString "near") (.int d.near):=h.fld T 5 (by decide +kernel) rfl
theorem Pe.f_least (T:Txt w K mg t) {H:Hp} {p:Addr} {d:WD} (h:Pe t H p d):Bj K H p (Str.ofString "least") (.int d.least):=h.fld T 6 (by decide +kernel) rfl
end
noncomputable def yu (t:Adr):Sp:=fun vs H Q _=>∃ (p dx:Addr) (d:WD),vs=[.ref p,.str (Pd d.k),.str d.name,.int d.start,.int d.fin,.int d.off,.int d.near,.int d.least]∧d.k < 3∧H p=some (.ins (t.cw d.k) dx [])∧Q .non (upd H p (.ins (t.cw d.k) dx (No d)))
noncomputable def Ak (t:Adr) (k:Nat):Sp:=fun vs H Q _=>∃ (p dx:Addr) (d:WD),vs=[.ref p,.str d.name,.int d.start,.int d.fin,.int d.off,.int d.near,.int d.least]∧d.k=k∧H p=some (.ins (t.cw d.k) dx [])∧Q .non (upd H p (.ins (t.cw d.k) dx (No d)))
section
variable {P:Program} {w:World} {K:PySem.W.Frag} {mg:Str→Option Value} {base:Heap} {t:Adr}
theorem By (T:Txt w K mg t):Pb P w K mg base CX0 1 t.fg t.lh q21 (yu t):=by
 refine T.Qt.ok Jq (fun vs H Q E h=>?_) (fun _ _ _ s H vs Q E hr h=>?_)
 ·obtain ⟨p,dx,d,rfl,_⟩:=h;rfl
 obtain ⟨p,dx,d,rfl,hk,hp,q⟩:=h;refine ⟨_,(db (Zf (pv 0) (pv 1) rfl)
   (db (Zf (pv 0) (pv 2) rfl)
   (db (Zf (pv 0) (pv 3) rfl)
   (db (Zf (pv 0) (pv 4) rfl)
   (db (Zf (pv 0) (pv 5) rfl)
   (db (Zf (pv 0) (pv 6) rfl)
   (qb (Zf (pv 0) (pv 7) rfl)))))))),?_⟩
 walk_at "RD";have na:∀ {f:Str},f ∈ Js→gc K (t.cw d.k) f:=fun hf=>T.naw hf d.k
 refine ⟨_,_,_,hp,T.clw _,na (by decide +kernel),by decide,?_⟩;refine ⟨_,_,_,cb,T.clw _,na (by decide +kernel),gn (n:=999) (by decide),?_⟩;refine ⟨_,_,_,cb,T.clw _,na (by decide +kernel),gn (n:=999) (gn (n:=998) (by decide)),?_⟩;refine ⟨_,_,_,cb,T.clw _,na (by decide +kernel),gn (n:=999) (gn (n:=998) (gn (n:=997) (by decide))),?_⟩;refine ⟨_,_,_,cb,T.clw _,na (by decide +kernel),gn (n:=999) (gn (n:=998) (gn (n:=997) (gn (n:=996) (by decide)))),?_⟩;refine ⟨_,_,_,cb,T.clw _,na (by decide +kernel),gn (n:=999) (gn (n:=998) (gn (n:=997) (gn (n:=996) (gn (n:=995) (by decide))))),?_⟩;refine ⟨_,_,_,cb,T.clw _,na (by decide +kernel),gn (n:=999) (gn (n:=998) (gn (n:=997) (gn (n:=996) (gn (n:=995) (gn (n:=994) (by decide)))))),?_⟩;simp only [Oq];rw [show Hi (Str.ofString "kind") (V.str (Pd d.k)) ([]:List (Str × V))=[(Str.ofString "kind",V.str (Pd d.k))] from Ld [] rfl (by decide +kernel),
  show Hi (Str.ofString "name") (V.str d.name) ([(Str.ofString "kind",V.str (Pd d.k))]:List (Str × V))=[(Str.ofString "kind",V.str (Pd d.k)),(Str.ofString "name",V.str d.name)] from Ld [Str.ofString "kind"] rfl (by decide +kernel),
  show Hi (Str.ofString "start") (V.int d.start) ([(Str.ofString "kind",V.str (Pd d.k)),(Str.ofString "name",V.str d.name)]:List (Str × V))=[(Str.ofString "kind",V.str (Pd d.k)),(Str.ofString "name",V.str d.name),(Str.ofString "start",V.int d.start)] from Ld [Str.ofString "kind",Str.ofString "name"] rfl (by decide +kernel),
  show Hi (Str.ofString "end") (V.int d.fin) ([(Str.ofString "kind",V.str (Pd d.k)),(Str.ofString "name",V.str d.name),(Str.ofString "start",V.int d.start)]:List (Str × V))=[(Str.ofString "kind",V.str (Pd d.k)),(Str.ofString "name",V.str d.name),(Str.ofString "start",V.int d.start),(Str.ofString "end",V.int d.fin)] from Ld [Str.ofString "kind",Str.ofString "name",Str.ofString "start"] rfl (by decide +kernel),
  show Hi (Str.ofString "off") (V.int d.off) ([(Str.ofString "kind",V.str (Pd d.k)),(Str.ofString "name",V.str d.name),(Str.ofString "start",V.int d.start),(Str.ofString "end",V.int d.fin)]:List (Str × V))=[(Str.ofString "kind",V.str (Pd d.k)),(Str.ofString "name",V.str d.name),(Str.ofString "start",V.int d.start),(Str.ofString "end",V.int d.fin),(Str.ofString "off",V.int d.off)] from Ld [Str.ofString "kind",Str.ofString "name",Str.ofString "start",Str.ofString "end"] rfl (by decide +kernel),
  show Hi (Str.ofString "near") (V.int d.near) ([(Str.ofString "kind",V.str (Pd d.k)),(Str.ofString "name",V.str d.name),(Str.ofString "start",V.int d.start),(Str.ofString "end",V.int d.fin),(Str.ofString "off",V.int d.off)]:List (Str × V))=[(Str.ofString "kind",V.str (Pd d.k)),(Str.ofString "name",V.str d.name),(Str.ofString "start",V.int d.start),(Str.ofString "end",V.int d.fin),(Str.ofString "off",V.int d.off),(Str.ofString "near",V.int d.near)] from Ld [Str.ofString "kind",Str.ofString "name",Str.ofString "start",Str.ofString "end",Str.ofString "off"] rfl (by decide +kernel),
  show Hi (Str.ofString "least") (V.int d.least) ([(Str.ofString "kind",V.str (Pd d.k)),(Str.ofString "name",V.str d.name),(Str.ofString "start",V.int d.start),(Str.ofString "end",V.int d.fin),(Str.ofString "off",V.int d.off),(Str.ofString "near",V.int d.near)]:List (Str × V))=[(Str.ofString "kind",V.str (Pd d.k)),(Str.ofString "name",V.str d.name),(Str.ofString "start",V.int d.start),(Str.ofString "end",V.int d.fin),(Str.ofString "off",V.int d.off),(Str.ofString "near",V.int d.near),(Str.ofString "least",V.int d.least)] from Ld [Str.ofString "kind",Str.ofString "name",Str.ofString "start",Str.ofString "end",Str.ofString "off",Str.ofString "near"] rfl (by decide +kernel)]
 exact q
theorem rJ (T:Txt w K mg t):Pb P w K mg base CX0 2 t.Jf t.eh q5 (Ak t 0):=by
 have g15:Pb P w K mg base CX0 1 t.fg t.lh q21 (yu t):=By T;refine T.im.ok xm (fun vs H Q E h=>?_) (fun _ _ _ s H vs Q E hr h=>?_)
 ·obtain ⟨p,dx,d,rfl,_⟩:=h;rfl
 obtain ⟨p,dx,d,rfl,hk,hp,q⟩:=h;refine ⟨_,(qb (Fc (fu rfl T.vJ T.Pn g15 hr T.Nn .nil Db (ab (pv 0) (ab Wc (ab (pv 1) (ab (pv 2) (ab (pv 3) (ab (pv 4) (ab (pv 5) (ab (pv 6) fb))))))))))),?_⟩;walk_at "RD";exact ⟨p,dx,d,by rw [hk];rfl,by omega,hp,q⟩
theorem oF (T:Txt w K mg t):Pb P w K mg base CX0 2 t.lf t.jg q5 (Ak t 1):=by
 have g15:Pb P w K mg base CX0 1 t.fg t.lh q21 (yu t):=By T;refine T.Jl.ok Pl (fun vs H Q E h=>?_) (fun _ _ _ s H vs Q E hr h=>?_)
 ·obtain ⟨p,dx,d,rfl,_⟩:=h;rfl
 obtain ⟨p,dx,d,rfl,hk,hp,q⟩:=h;refine ⟨_,(qb (Fc (fu rfl T.vJ T.Pn g15 hr T.Nn .nil Db (ab (pv 0) (ab Wc (ab (pv 1) (ab (pv 2) (ab (pv 3) (ab (pv 4) (ab (pv 5) (ab (pv 6) fb))))))))))),?_⟩;walk_at "RD";exact ⟨p,dx,d,by rw [hk];rfl,by omega,hp,q⟩
theorem lG (T:Txt w K mg t):Pb P w K mg base CX0 2 t.Ze t.ug q5 (Ak t 2):=by
 have g15:Pb P w K mg base CX0 1 t.fg t.lh q21 (yu t):=By T;refine T.zl.ok Ul (fun vs H Q E h=>?_) (fun _ _ _ s H vs Q E hr h=>?_)
 ·obtain ⟨p,dx,d,rfl,_⟩:=h;rfl
 obtain ⟨p,dx,d,rfl,hk,hp,q⟩:=h;refine ⟨_,(qb (Fc (fu rfl T.vJ T.Pn g15 hr T.Nn .nil Db (ab (pv 0) (ab Wc (ab (pv 1) (ab (pv 2) (ab (pv 3) (ab (pv 4) (ab (pv 5) (ab (pv 6) fb))))))))))),?_⟩;walk_at "RD";exact ⟨p,dx,d,by rw [hk];rfl,by omega,hp,q⟩
end
noncomputable def xi (t:Adr) (C:Addr):Sp:=fun vs H Q _=>∃ p d,vs=[.ref p]∧Pe t H p d∧C=t.cw d.k∧Q (.int (Ec d)) H
noncomputable def xk (t:Adr) (C:Addr):Sp:=fun vs H Q _=>∃ p d,vs=[.ref p]∧Pe t H p d∧C=t.cw d.k∧Q (.int (Wd d)) H
section
variable {P:Program} {w:World} {K:PySem.W.Frag} {mg:Str→Option Value} {base:Heap} {t:Adr}
theorem Xq (T:Txt w K mg t):Pb P w K mg base CX0 1 t.qg t.ci ["self"] (xi t (t.cw 0)):=by
 refine T.El.ok zq (fun vs H Q E h=>?_) (fun _ _ _ s H vs Q E hr h=>?_)
 ·obtain ⟨p,d,rfl,_⟩:=h;rfl
 obtain ⟨p,d,rfl,W,hC,q⟩:=h;have hk:=(T.cw_inj (by decide) W.1 hC).symm;refine ⟨_,(qb (Gb pb)),?_⟩;rw [show Ec d=1 by unfold Ec;simp only [hk]] at q;walk_at "RD";exact q
theorem Jo (T:Txt w K mg t):Pb P w K mg base CX0 1 t.Gf t.yh ["self"] (xi t (t.cw 1)):=by
 refine T.Tj.ok Lo (fun vs H Q E h=>?_) (fun _ _ _ s H vs Q E hr h=>?_)
 ·obtain ⟨p,d,rfl,_⟩:=h;rfl
 obtain ⟨p,d,rfl,W,hC,q⟩:=h;have hk:=(T.cw_inj (by decide) W.1 hC).symm;refine ⟨_,(qb (Gb pb)),?_⟩;rw [show Ec d=0 by unfold Ec;simp only [hk]] at q;walk_at "RD";exact q
theorem Qo (T:Txt w K mg t):Pb P w K mg base CX0 1 t.Of t.ph ["self"] (xi t (t.cw 2)):=by
 refine T.Oj.ok Ko (fun vs H Q E h=>?_) (fun _ _ _ s H vs Q E hr h=>?_)
 ·obtain ⟨p,d,rfl,_⟩:=h;rfl
 obtain ⟨p,d,rfl,W,hC,q⟩:=h;have hk:=(T.cw_inj (by decide) W.1 hC).symm;refine ⟨_,(qb (Gb pb)),?_⟩;rw [show Ec d=2 by unfold Ec;simp only [hk]] at q;walk_at "RD";exact q
theorem ZB (T:Txt w K mg t):eG P w K mg base CX0 1 (isW t) "ready" ["self"] (xi t):=by
 refine ⟨fun C hC=>?_⟩;obtain ⟨k,hk,rfl⟩:=hC
 match k,hk with
 | 0,_=>exact ⟨_,_,T.Tp,T.Xr,Xq T,T.Qr⟩
 | 1,_=>exact ⟨_,_,T.Cn,T.Tq,Jo T,T.aq⟩
 | 2,_=>exact ⟨_,_,T.jo,T.Bq,Qo T,T.Br⟩
theorem Ks (T:Txt w K mg t):Pb P w K mg base CX0 1 t.jh t.jj ["self"] (xk t (t.cw 0)):=by
 refine T.bn.ok As (fun vs H Q E h=>?_) (fun _ _ _ s H vs Q E hr h=>?_)
 ·obtain ⟨p,d,rfl,_⟩:=h;rfl
 obtain ⟨p,d,rfl,W,hC,q⟩:=h;have hk:=(T.cw_inj (by decide) W.1 hC).symm;refine ⟨_,(qb (Gb pb)),?_⟩;rw [show Wd d=2 by unfold Wd;simp only [hk]] at q;walk_at "RD";exact q
theorem ir (T:Txt w K mg t):Pb P w K mg base CX0 1 t.Ag t.Wh ["self"] (xk t (t.cw 1)):=by
 refine T.Bl.ok Rp (fun vs H Q E h=>?_) (fun _ _ _ s H vs Q E hr h=>?_)
 ·obtain ⟨p,d,rfl,_⟩:=h;rfl
 obtain ⟨p,d,rfl,W,hC,q⟩:=h;have hk:=(T.cw_inj (by decide) W.1 hC).symm;refine ⟨_,(qb (Gb (Ic (pv 0) rfl))),?_⟩;rw [show Wd d=d.off by unfold Wd;simp only [hk]] at q;walk_at "RD";exact ⟨_,W.f_off T,q⟩
theorem Ip (T:Txt w K mg t):Pb P w K mg base CX0 1 t.rg t.Zh ["self"] (xk t (t.cw 2)):=by
 refine T.Zk.ok Fq (fun vs H Q E h=>?_) (fun _ _ _ s H vs Q E hr h=>?_)
 ·obtain ⟨p,d,rfl,_⟩:=h;rfl
 obtain ⟨p,d,rfl,W,hC,q⟩:=h;have hk:=(T.cw_inj (by decide) W.1 hC).symm;refine ⟨_,(qb (Gb pb)),?_⟩;rw [show Wd d=1 by unfold Wd;simp only [hk]] at q;walk_at "RD";exact q
theorem fH (T:Txt w K mg t):eG P w K mg base CX0 1 (isW t) "fade" ["self"] (xk t):=by
 refine ⟨fun C hC=>?_⟩;obtain ⟨k,hk,rfl⟩:=hC
 match k,hk with
 | 0,_=>exact ⟨_,_,T.Tp,T.bu,Ks T,T.nu⟩
 | 1,_=>exact ⟨_,_,T.Cn,T.Mr,ir T,T.Er⟩
 | 2,_=>exact ⟨_,_,T.jo,T.Cr,Ip T,T.Ds⟩
end
noncomputable def jl (c:Nat):List (List Nat)→List Nat
 | []=>[]
 | [a]=>a
 | a :: b :: r=>a ++ c :: jl c (b :: r)
theorem RC {c:Nat}:∀ {a b X Y:List Nat},c ∉ a→c ∉ b→a ++ c :: X=b ++ c :: Y→a=b∧X=Y
 | [],[],X,Y,_,_,h=>⟨rfl,(List.cons.inj h).2⟩
 | [],d :: b,X,Y,_,hb,h=>absurd (List.cons.inj h).1 (fun z=>hb (by simp [← z]))
 | d :: a,[],X,Y,ha,_,h=>absurd (List.cons.inj h).1 (fun z=>ha (by simp [z]))
 | d :: a,e :: b,X,Y,ha,hb,h=>by
  obtain ⟨h1,h2⟩:=List.cons.inj h;obtain ⟨e1,e2⟩:=RC (fun z=>ha (List.mem_cons_of_mem _ z)) (fun z=>hb (List.mem_cons_of_mem _ z)) h2;exact ⟨by rw [h1,e1],e2⟩
theorem uH {c:Nat}:∀ {ps qs:List (List Nat)},(∀ p ∈ ps,c ∉ p)→(∀ q ∈ qs,c ∉ q)→ps ≠ []→qs ≠ []→jl c ps=jl c qs→ps=qs
 | [a],[b],_,_,_,_,h=>by rw [show a=b from h]
 | [a],b :: b' :: r,ha,_,_,_,h=>absurd (show c ∈ a by rw [show a=b ++ c :: jl c (b' :: r) from h];simp) (ha a (by simp))
 | a :: a' :: r,[b],_,hb,_,_,h=>absurd (show c ∈ b by rw [show b=a ++ c :: jl c (a' :: r) from h.symm];simp) (hb b (by simp))
 | a :: a' :: r,b :: b' :: s,ha,hb,_,_,h=>by
  obtain ⟨e1,e2⟩:=RC (ha a (by simp)) (hb b (by simp)) (show a ++ c :: jl c (a' :: r)=b ++ c :: jl c (b' :: s) from h);rw [e1,uH (fun p hp=>ha p (List.mem_cons_of_mem _ hp)) (fun q hq=>hb q (List.mem_cons_of_mem _ hq)) (by simp) (by simp) e2]
 | [],_,_,_,h,_,_=>absurd rfl h
 | _ :: _,[],_,_,_,h,_=>absurd rfl h
theorem gH {c d:Nat}:∀ {ps:List (List Nat)},d ∈ jl c ps→d=c∨∃ p ∈ ps,d ∈ p
 | [],h=>nomatch h
 | [a],h=>.inr ⟨a,by simp,h⟩
 | a :: b :: r,h=>by
  rcases List.mem_append.mp (show d ∈ a ++ c :: jl c (b :: r) from h) with h | h
  ·exact .inr ⟨a,by simp,h⟩
  ·rcases List.mem_cons.mp h with h | h
   ·exact .inl h
   ·rcases gH h with h | ⟨p,hp,h⟩
    ·exact .inl h
    ·exact .inr ⟨p,List.mem_cons_of_mem _ hp,h⟩
theorem Uj (c:Nat):∀ ys:List Str,(Str.join ⟨#[c]⟩ ys).cps.toList=jl c (ys.map (·.cps.toList))
 | []=>rfl
 | [a]=>rfl
 | a :: b :: r=>by
  show (a ++ ⟨#[c]⟩ ++ Str.join ⟨#[c]⟩ (b :: r)).cps.toList=_;rw [Str.cps_append,Array.toList_append,Str.cps_append,Array.toList_append,Uj c (b :: r)];simp [jl]
theorem Fu {x y:Str} (h:x.cps.toList=y.cps.toList):x=y:=by
 cases x;cases y;exact congrArg Str.mk (Array.toList_inj.mp h)
theorem Ss {c:Nat} {ys:List Str} (hn:ys ≠ []) (hf:∀ y ∈ ys,c ∉ y.cps.toList):Txt.split (Str.join ⟨#[c]⟩ ys) ⟨#[c]⟩=ys:=by
 have e:=congrArg (·.cps.toList) (StrLaws.join_split (Str.join ⟨#[c]⟩ ys) ⟨#[c]⟩);simp only [Uj] at e;have e2:=uH (c:=c) (ps:=(Txt.split (Str.join ⟨#[c]⟩ ys) ⟨#[c]⟩).map (·.cps.toList)) (qs:=ys.map (·.cps.toList)) (fun p hp=>by
  obtain ⟨y,hy,rfl⟩:=List.mem_map.mp hp;exact StrLaws.split_free _ c y hy) (fun p hp=>by
  obtain ⟨y,hy,rfl⟩:=List.mem_map.mp hp;exact hf y hy) (by simp [uF]) (by simpa using hn) e
 exact (List.map_inj_right fun x y h=>Fu h).mp e2
noncomputable abbrev num (v:Int):Str:=Str.ofString (toString v)
theorem tJ:∀ n,n < 1000→(decide (1 ≤ ((Nat.toDigits 10 n).map Char.toNat).length) && decide (((Nat.toDigits 10 n).map Char.toNat).length ≤ 3) && ((Nat.toDigits 10 n).map Char.toNat).all Mo && (decide (((Nat.toDigits 10 n).map Char.toNat).length ≤ 1) || decide (((Nat.toDigits 10 n).map Char.toNat).headD 0 ≠ 48)) &&
  decide (NumText.digitsVal ((Nat.toDigits 10 n).map Char.toNat)=n))=true:=by decide +kernel
theorem jz {v:Int} (h0:0 ≤ v) (h1:v < 1000):okB (num v)=true∧val (num v)=v:=by
 have e:=PySem.W.KIN.signs_num v.toNat;rw [Int.toNat_of_nonneg h0] at e;have a:=tJ v.toNat (by omega);rw [← e,Bool.and_eq_true,decide_eq_true_eq] at a;exact ⟨a.1,by show ((NumText.digitsVal (cs (num v)):Nat):Int)=v;rw [a.2];omega⟩
theorem kj {v lo hi:Int} (h0:0 ≤ v) (h1:v < 1000) (hl:lo ≤ v) (hh:v ≤ hi):rE (num v) lo hi=.int v:=by
 obtain ⟨a,b⟩:=jz h0 h1;unfold rE;rw [a,b,decide_eq_false (by omega:¬ v < lo),decide_eq_false (by omega:¬ hi < v)];rfl
theorem VI {u v:Int} (h0:0 ≤ u) (h1:u < 1000) (h2:0 ≤ v) (h3:v < 1000) (e:num u=num v):u=v:=by
 rw [← (jz h0 h1).2,e,(jz h2 h3).2]
theorem Lz {v:Int} (h0:0 ≤ v) (h1:v < 1000):∀ c ∈ (num v).cps.toList,48 ≤ c∧c ≤ 57:=fun c hc=>by
 have:=List.all_eq_true.mp (aL (jz h0 h1).1).2 c hc;simpa [Mo] using this
theorem XJ:∀ c ∈ Vg.cps.toList,97 ≤ c∧c ≤ 122:=by decide +kernel
theorem YK:∀ k,k < 26→97 + k ∈ Vg.cps.toList:=by decide +kernel
theorem Zj {x:Str} (h:made x Vg 8=true):(1 ≤ x.length∧x.length ≤ 8)∧∀ c ∈ x.cps.toList,97 ≤ c∧c ≤ 122:=by
 unfold made at h;split at h
 ·cases h
 ·rename_i h1;split at h
  ·cases h
  ·rename_i h2;have h3:¬ x.length=0:=fun z=>h1 (kM.mpr z)
   refine ⟨by omega,fun c hc=>?_⟩;have:=List.all_eq_true.mp h c hc;rw [ly] at this;exact XJ c (of_decide_eq_true this)
theorem Ew {x:Str} (h0:1 ≤ x.length) (h1:x.length ≤ 8) (h:∀ c ∈ x.cps.toList,97 ≤ c∧c ≤ 122):made x Vg 8=true:=by
 unfold made;rw [if_neg (fun z=>by have:=kM.mp z;omega),if_neg (by omega)];refine List.all_eq_true.mpr fun c hc=>?_
 have:=h c hc;rw [ly];have e:=YK (c - 97) (by omega);rw [show 97 + (c - 97)=c by omega] at e;exact decide_eq_true e
structure WOk (n:Int) (d:WD):Prop where
 k:d.k < 3
 nm:made d.name Vg 8=true
 st:0 ≤ d.start∧d.start < n
 fi:0 ≤ d.fin∧d.fin < n
 ne:d.start ≠ d.fin
 of:0 ≤ d.off∧d.off ≤ 30
 nr:0 ≤ d.near∧d.near ≤ 30
 le:1 ≤ d.least∧d.least ≤ 60
structure COk (n:Int) (ds:List WD):Prop where
 nn:2 ≤ n∧n ≤ 99
 ln:1 ≤ ds.length∧ds.length ≤ 12
 al:∀ d ∈ ds,WOk n d
 nd:(ds.map (·.name)).Nodup
noncomputable def Hf (d:WD):List Str:=[Pd d.k,d.name,num d.start,num d.fin,num d.off,num d.near,num d.least]
noncomputable def Np (n:Int) (ds:List WD):List (List Str):=[Str.ofString "ring",num n] :: ds.map Hf
noncomputable def Iw (n:Int) (ds:List WD):Str:=Str.join nl ((Np n ds).map (Str.join bk))
noncomputable def Tx (x:Str):Prop:=x.length ≤ 8∧(32:Nat) ∉ x.cps.toList∧(10:Nat) ∉ x.cps.toList
theorem Nt (k:Nat):Tx (Pd k):=by
 match k with
 | 0=>exact ⟨by decide +kernel,by decide +kernel,by decide +kernel⟩
 | 1=>exact ⟨by decide +kernel,by decide +kernel,by decide +kernel⟩
 | _ + 2=>exact ⟨show (Str.ofString "tram").length ≤ 8 by decide +kernel,show (32:Nat) ∉ (Str.ofString "tram").cps.toList by decide +kernel,show (10:Nat) ∉ (Str.ofString "tram").cps.toList by decide +kernel⟩
theorem Vd {v:Int} (h0:0 ≤ v) (h1:v < 1000):Tx (num v):=
 ⟨Nat.le_trans (iE h0 (by omega)) (by decide),fun z=>by have:=Lz h0 h1 _ z;omega,fun z=>by have:=Lz h0 h1 _ z;omega⟩
theorem Dn {x:Str} (h:made x Vg 8=true):Tx x:=
 ⟨(Zj h).1.2,fun z=>by have:=(Zj h).2 _ z;omega,fun z=>by have:=(Zj h).2 _ z;omega⟩
theorem WOk.plain {n:Int} {d:WD} (h:WOk n d) (hn:n ≤ 99):∀ x ∈ Hf d,Tx x:=fun x hx=>by
 have h1:=h.st;have h2:=h.fi;have h3:=h.of;have h4:=h.nr;have h5:=h.le;simp only [Hf,List.mem_cons,List.not_mem_nil,or_false] at hx;rcases hx with rfl | rfl | rfl | rfl | rfl | rfl | rfl
 ·exact Nt _
 ·exact Dn h.nm
 ·exact Vd (by omega) (by omega)
 ·exact Vd (by omega) (by omega)
 ·exact Vd (by omega) (by omega)
 ·exact Vd (by omega) (by omega)
 ·exact Vd (by omega) (by omega)
theorem COk.plain {n:Int} {ds:List WD} (h:COk n ds):∀ r ∈ Np n ds,∀ x ∈ r,Tx x:=fun r hr x hx=>by
 have hn:=h.nn;rcases List.mem_cons.mp hr with rfl | hr
 ·simp only [List.mem_cons,List.not_mem_nil,or_false] at hx;rcases hx with rfl | rfl
  ·exact ⟨by decide +kernel,by decide +kernel,by decide +kernel⟩
  ·exact Vd (by omega) (by omega)
 ·obtain ⟨d,hd,rfl⟩:=List.mem_map.mp hr;exact (h.al d hd).plain hn.2 x hx
theorem Qw {rs:List (List Str)} (h0:rs ≠ []) (h1:∀ r ∈ rs,r ≠ []) (h2:∀ r ∈ rs,∀ x ∈ r,Tx x):ji (Str.join nl (rs.map (Str.join bk)))=rs:=by
 unfold ji;rw [KL,IJ];rw [Ss (by simpa using h0) (fun y hy=>by
  obtain ⟨r,hr,rfl⟩:=List.mem_map.mp hy;rw [Uj];intro z;rcases gH z with z | ⟨p,hp,z⟩
  ·cases z
  ·obtain ⟨x,hx,rfl⟩:=List.mem_map.mp hp;exact (h2 r hr x hx).2.2 z)]
 rw [List.map_map];have:∀ r ∈ rs,((fun r=>Txt.split r ⟨#[32]⟩) ∘ Str.join ⟨#[32]⟩) r=r:=fun r hr=>Ss (h1 r hr) fun x hx=>(h2 r hr x hx).2.1
 exact (List.map_congr_left this).trans (List.map_id rs)
theorem NA {n:Int} {ds:List WD} (h:COk n ds):ji (Iw n ds)=Np n ds:=Qw (by simp [Np]) (fun r hr=>by
 rcases List.mem_cons.mp hr with rfl | hr
 ·simp
 ·obtain ⟨d,hd,rfl⟩:=List.mem_map.mp hr;simp [Hf]) h.plain
theorem mr (sep:Str) (B:Nat):∀ ys:List Str,(∀ y ∈ ys,y.length ≤ B)→(Str.join sep ys).length ≤ ys.length * (B + sep.length)
 | [],_=>by show (Str.empty).length ≤ _;exact Nat.zero_le _
 | [a],h=>by
  have:=h a (by simp);show a.length ≤ _;simp only [List.length_cons,List.length_nil];omega
 | a :: b :: r,h=>by
  have h1:=h a (by simp);have h2:=mr sep B (b :: r) fun y hy=>h y (List.mem_cons_of_mem _ hy)
  show (a ++ sep ++ Str.join sep (b :: r)).length ≤ _;rw [Yn,Yn,List.length_cons,Nat.succ_mul];omega
theorem mw {n:Int} {ds:List WD} (h:COk n ds):(Iw n ds).length ≤ 1000:=by
 have h1:∀ y ∈ (Np n ds).map (Str.join bk),y.length ≤ 63:=fun y hy=>by
  obtain ⟨r,hr,rfl⟩:=List.mem_map.mp hy;have:=mr bk 8 r fun x hx=>(h.plain r hr x hx).1
  rw [Qz] at this;have hl:r.length ≤ 7:=by
   rcases List.mem_cons.mp hr with rfl | hr
   ·simp
   ·obtain ⟨d,hd,rfl⟩:=List.mem_map.mp hr;simp [Hf]
  omega
 have h2:=mr nl 63 _ h1;rw [Tw] at h2;have h3:((Np n ds).map (Str.join bk)).length ≤ 13:=by
  have:=h.ln;simp [Np];omega
 unfold Iw;omega
end My
namespace My
open PySem L2
noncomputable abbrev xw:List Str:=[Str.ofString "row",Str.ofString "told",Str.ofString "place"]
noncomputable def rdF (row:Int) (ta:Addr) (pl:Int):List (Str × V):=[(Str.ofString "row",.int row),(Str.ofString "told",.ref ta),(Str.ofString "place",.int pl)]
theorem Gm (row:Int) (ta:Addr) (pl:Int):(rdF row ta pl).map (·.1)=xw:=rfl
theorem uI (row:Int) (ta:Addr) (pl v:Int):Hi (Str.ofString "place") (.int v) (rdF row ta pl)=rdF row ta v:=by
 unfold rdF;simp only [Hi];rw [if_neg (by decide +kernel),if_neg (by decide +kernel)];rfl
noncomputable def Cf (t:Adr) (H:Hp) (p:Addr) (row:Int) (ws:List Str) (pl:Nat):Prop:=
 (ws.length ≤ 1000∧∀ x ∈ ws,x.length ≤ 1000)∧∃ dx ta,H p=some (.ins t.Lb dx (rdF row ta pl))∧H ta=some (.lst (Kb ws))
noncomputable def Yc (p:Addr) (H H':Hp):Prop:=∀ b u,b ≠ p→H b=some u→H' b=some u
theorem Yc.trans {p:Addr} {H H1 H2:Hp} (a:Yc p H H1) (b:Yc p H1 H2):Yc p H H2:=fun c u n e=>b c u n (a c u n e)
theorem Yc.of {p:Addr} {H H1:Hp} (a:Jb H H1):Yc p H H1:=fun c u _ e=>a c u e
theorem Yc.put {p:Addr} {H:Hp} {o:HO}:Yc p H (upd H p o):=fun c u n e=>by rw [ub n];exact e
theorem ff (ws:List Str):(Kb ws).length=ws.length:=by unfold Kb;rw [List.length_map]
theorem Oh {ws:List Str} {i:Nat} {x:Str} (h:ws[i]? = some x):(Kb ws)[i]? = some (.str x):=by unfold Kb;rw [List.getElem?_map,h];rfl
theorem ut (ws:List Str):(Kb ws).all Aj=true:=by unfold Kb;simp [Aj]
theorem Ty (x:Str) (xs:List Str):inV (.str x) (Kb xs)=decide (x ∈ xs):=by
 unfold inV Kb;rw [List.any_map,Bool.eq_iff_iff];simp only [List.any_eq_true,Function.comp,eqV,beq_iff_eq,decide_eq_true_eq];constructor
 ·rintro ⟨y,hy,rfl⟩;exact hy
 ·intro h;exact ⟨x,h,rfl⟩
section
variable {w:World} {K:PySem.W.Frag} {mg:Str→Option Value} {t:Adr} {H H':Hp} {p:Addr} {row:Int} {ws:List Str} {pl:Nat}
theorem Cf.same (h:Cf t H p row ws pl) (s:Jb H H'):Cf t H' p row ws pl:=by
 obtain ⟨hz,dx,ta,e1,e2⟩:=h;exact ⟨hz,dx,ta,s _ _ e1,s _ _ e2⟩
theorem Cf.sameX {q:Addr} (h:Cf t H p row ws pl) (s:Yc q H H') (n:p ≠ q) (k:∃ C dx fs,H q=some (.ins C dx fs)):Cf t H' p row ws pl:=by
 obtain ⟨hz,dx,ta,e1,e2⟩:=h;obtain ⟨C,dq,fs,e3⟩:=k;exact ⟨hz,dx,ta,s _ _ n e1,s _ _ (ue e2 e3 (by intro z;cases z)) e2⟩
theorem Cf.ins (h:Cf t H p row ws pl):∃ C dx fs,H p=some (.ins C dx fs):=by
 obtain ⟨hz,dx,ta,e1,e2⟩:=h;exact ⟨_,_,_,e1⟩
theorem Cf.no {m:Str} (row:Int) (ta:Addr) (pl:Int) (h:xw.contains m=false):(rdF row ta pl).lookup m=none:=um xw (Gm ..) h
theorem Hu (T:Txt w K mg t) {dx ta:Addr} {pl:Int} (e:H p=some (.ins t.Lb dx (rdF row ta pl))):Bj K H p (Str.ofString "place") (.int pl):=
 ⟨_,dx,_,e,T.Ab,T.Mf,pe xw 2 (Gm ..) (by decide +kernel) rfl⟩
theorem kx (T:Txt w K mg t) {dx ta:Addr} {pl:Int} (e:H p=some (.ins t.Lb dx (rdF row ta pl))):Bj K H p (Str.ofString "told") (.ref ta):=
 ⟨_,dx,_,e,T.Ab,T.vi,pe xw 1 (Gm ..) (by decide +kernel) rfl⟩
end
noncomputable def EH (t:Adr):Sp:=fun vs H Q _=>∃ (p dx ta:Addr) (row:Int),vs=[.ref p,.int row,.ref ta]∧H p=some (.ins t.Lb dx [])∧Q .non (upd H p (.ins t.Lb dx (rdF row ta 0)))
noncomputable def om (t:Adr):Sp:=fun vs H Q _=>∃ p row ws pl,vs=[.ref p]∧Cf t H p row ws pl∧pl ≤ ws.length∧Q (.str (ws.getD pl (Str.ofString ""))) H
noncomputable def RB (t:Adr):Sp:=fun vs H Q _=>∃ p row ws pl,vs=[.ref p]∧Cf t H p row ws pl∧Q (.bl (decide (pl < ws.length))) H
noncomputable def CM (t:Adr) (H:Hp) (p:Addr) (row:Int) (ws:List Str) (pl:Nat) (R:Hp→Prop):Prop:=∀ H',Yc p H H'→(NoT H→NoT H')→Cf t H' p row ws pl→R H'
noncomputable def jv (t:Adr):Sp:=fun vs H Q _=>∃ p row ws pl,vs=[.ref p,.bl true]∧Cf t H p row ws pl∧CM t H p row ws (pl + 1) (Q .non)
noncomputable def vm (K:PySem.W.Frag) (t:Adr):Sp:=fun vs H Q _=>∃ p row ws pl x c xs,vs=[.ref p,.ref c]∧Cf t H p row ws pl∧ws[pl]? = some x∧SqL K H c (Kb xs)∧x ∈ xs∧CM t H p row ws (pl + 1) (Q (.str x))
noncomputable def bo (t:Adr):Sp:=fun vs H Q _=>∃ p row ws pl x lo hi v,vs=[.ref p,.int lo,.int hi]∧Cf t H p row ws pl∧ws[pl]? = some x∧rE x lo hi=.int v∧NoT H∧CM t H p row ws (pl + 1) (Q (.int v))
noncomputable def aw (t:Adr):Sp:=fun vs H Q _=>∃ p row ws pl,vs=[.ref p]∧Cf t H p row ws pl∧pl=ws.length∧Q .non H
section
variable {P:Program} {w:World} {K:PySem.W.Frag} {mg:Str→Option Value} {base:Heap} {t:Adr}
theorem cK (T:Txt w K mg t):Pb P w K mg base CX0 1 t.oe t.qf q34 (EH t):=by
 refine T.pj.ok Jj (fun vs H Q E h=>?_) (fun _ _ _ s H vs Q E hr h=>?_)
 ·obtain ⟨p,dx,ta,row,rfl,_⟩:=h;rfl
 obtain ⟨p,dx,ta,row,rfl,hp,q⟩:=h;refine ⟨_,(db (Zf (pv 0) (pv 1) rfl)
   (db (Zf (pv 0) (pv 2) rfl)
   (qb (Zf (pv 0) pb rfl)))),?_⟩
 walk_at "RD";refine ⟨_,_,_,hp,T.Ab,T.Ro,by decide,?_⟩;refine ⟨_,_,_,cb,T.Ab,T.vi,gn (n:=999) (by decide),?_⟩;refine ⟨_,_,_,cb,T.Ab,T.Mf,gn (n:=999) (gn (n:=998) (by decide)),?_⟩;simp only [Oq];rw [show Hi (Str.ofString "row") (V.int row) ([]:List (Str × V))=[(Str.ofString "row",V.int row)] from Ld [] rfl (by decide +kernel),
  show Hi (Str.ofString "told") (V.ref ta) ([(Str.ofString "row",V.int row)]:List (Str × V))=[(Str.ofString "row",V.int row),(Str.ofString "told",V.ref ta)] from Ld [Str.ofString "row"] rfl (by decide +kernel),
  show Hi (Str.ofString "place") (V.int 0) ([(Str.ofString "row",V.int row),(Str.ofString "told",V.ref ta)]:List (Str × V))=[(Str.ofString "row",V.int row),(Str.ofString "told",V.ref ta),(Str.ofString "place",V.int 0)] from Ld [Str.ofString "row",Str.ofString "told"] rfl (by decide +kernel)]
 exact q
theorem Zo (T:Txt w K mg t):Pb P w K mg base CX0 1 t.Kc t.Xc ["self"] (om t):=by
 refine T.Di.ok Tm (fun vs H Q E h=>?_) (fun _ _ _ s H vs Q E hr h=>?_)
 ·obtain ⟨p,row,ws,pl,rfl,_⟩:=h;rfl
 obtain ⟨p,row,ws,pl,rfl,⟨hz,dx,ta,e1,e2⟩,hle,q⟩:=h;refine ⟨_,(db (Be (Rb Ji (Ic (pv 0) rfl) (Ib Eb rfl T.Yf Ob (ab (Ic (pv 0) rfl) fb)) (Xb _)) (qb (Gb Wc)) vc)
   (qb (Gb (kc Zb (Ic (pv 0) rfl) (Ic (pv 0) rfl) (fun _ _=>rfl))))),?_⟩
 walk_at "RD";refine Dc (decide ((pl:Int)=(ws.length:Int))) (fun Q hQ=>?_) (fun c=>?_) (fun c=>?_)
 ·walk_at "RD";refine ⟨_,Hu T e1,_,kx T e1,_,rfl,_,.inl (SqL.of e2),rfl,?_⟩;rw [ff];walk_at "RD";exact hQ
 ·walk_at "RD";have c':pl=ws.length:=by have:=of_decide_eq_true c;omega
  rw [show ws.getD pl (Str.ofString "")=Str.ofString "" by rw [List.getD_eq_getElem?_getD,List.getElem?_eq_none (by omega)];rfl] at q;exact q
 ·walk_at "RD";have c':pl < ws.length:=by have:=of_decide_eq_false c;omega
  have hx:ws[pl]? = some ws[pl]:=List.getElem?_eq_getElem c';rw [List.getD_eq_getElem?_getD,hx] at q;exact ⟨_,kx T e1,_,Hu T e1,_,rfl,_,_,rfl,SqL.of e2,_,Ac (Oh hx),q⟩
theorem pJ (T:Txt w K mg t):Pb P w K mg base CX0 1 t.qd t.Ud ["self"] (RB t):=by
 refine T.ah.ok Sj (fun vs H Q E h=>?_) (fun _ _ _ s H vs Q E hr h=>?_)
 ·obtain ⟨p,row,ws,pl,rfl,_⟩:=h;rfl
 obtain ⟨p,row,ws,pl,rfl,⟨hz,dx,ta,e1,e2⟩,q⟩:=h;refine ⟨_,(qb (Gb (Ef Xo (Ic (pv 0) rfl) (Ib Eb rfl T.Yf Ob (ab (Ic (pv 0) rfl) fb)) (Xb _)))),?_⟩;walk_at "RD";have e:decide (pl < ws.length)=decide ((pl:Int) < (ws.length:Int)):=by rw [Bool.eq_iff_iff];simp
 rw [e] at q;refine ⟨_,Hu T e1,_,kx T e1,_,rfl,_,.inl (SqL.of e2),?_⟩;rw [ff];exact ⟨_,rfl,q⟩
theorem gy (T:Txt w K mg t):Pb P w K mg base CX0 1 t.jd t.Fd q19 (jv t):=by
 refine T.rj.ok Kn (fun vs H Q E h=>?_) (fun _ _ _ s H vs Q E hr h=>?_)
 ·obtain ⟨p,row,ws,pl,rfl,_⟩:=h;rfl
 obtain ⟨p,row,ws,pl,rfl,⟨hz,dx,ta,e1,e2⟩,q⟩:=h;refine ⟨_,(db (Be (xo (Ki (pv 1))) (qb Dg) vc)
   (qb (AB (pv 0) pb TK))),?_⟩
 walk_at "RD";refine Dc false (fun Q hQ=>?_) (fun hc=>nomatch hc) (fun _=>?_)
 ·walk_at "RD";exact hQ
 ·walk_at "RD";refine ⟨_,_,_,e1,T.Ab,T.Mf,_,pe xw 2 (Gm ..) (by decide +kernel) rfl,_,rfl,_,_,e1,by rw [← List.length_map (f:=(·.1)),Gm];decide,?_⟩;rw [uI];exact q _ Yc.put (fun n=>n.upd) ⟨hz,dx,ta,cb,by rw [ub (ue e2 e1 (by intro z;cases z))];exact e2⟩
theorem Dp (T:Txt w K mg t):Pb P w K mg base CX0 2 t.Cc t.Pc q20 (vm K t):=by
 have g13:Pb P w K mg base CX0 1 t.Kc t.Xc ["self"] (om t):=Zo T;have g16:Pb P w K mg base CX0 1 t.jd t.Fd q19 (jv t):=gy T;refine T.Qh.ok vh (fun vs H Q E h=>?_) (fun _ _ _ s H vs Q E hr h=>?_)
 ·obtain ⟨p,row,ws,pl,x,c,xs,rfl,_⟩:=h;rfl
 obtain ⟨p,row,ws,pl,x,c,xs,rfl,R,hx,hc,hm,q⟩:=h;refine ⟨_,(db (Cb (i:=2) vh.nd rfl (Or.inl rfl) (ae (pv 0) T.Ab T.Ie g13 hr T.Te .nil Db))
   (db (Fc (bd (pv 0) T.Ab T.Sg g16 hr T.Tg .nil Db (ab (Ef Mq (pv 2) (pv 1) (by with_unfolding_all rfl)) fb)))
   (qb (Gb (pv 2))))),?_⟩
 have hlt:pl < ws.length:=(List.getElem?_eq_some_iff.mp hx).1;have hg:ws.getD pl (Str.ofString "")=x:=by rw [List.getD_eq_getElem?_getD,hx];rfl
 obtain ⟨_,dx,ta,e1,e2⟩:=id R;walk_at "RD";refine ⟨_,_,e1,Cf.no _ _ _ (by decide +kernel),⟨p,row,ws,pl,rfl,R,by omega,?_⟩⟩;rw [hg];walk_at "RD";refine ⟨_,_,e1,Cf.no _ _ _ (by decide +kernel),_,.inl hc,rfl,ut xs,?_⟩;rw [Ty,decide_eq_true hm];refine ⟨p,row,ws,pl,rfl,R,fun H' s1 s2 s3=>?_⟩;walk_at "RD";exact q H' s1 s2 s3
theorem Yq (T:Txt w K mg t):Pb P w K mg base CX0 4 t.ac t.xc q16 (bo t):=by
 have g13:Pb P w K mg base CX0 3 t.Kc t.Xc ["self"] (om t):=(Zo T).mono (by decide);have g16:Pb P w K mg base CX0 3 t.jd t.Fd q19 (jv t):=(gy T).mono (by decide);have g31:Pb P w K mg base CX0 3 t.cn t.em q36 aH:=jL T;refine T.qh.ok Xg (fun vs H Q E h=>?_) (fun _ _ _ s H vs Q E hr h=>?_)
 ·obtain ⟨p,row,ws,pl,x,lo,hi,v,rfl,_⟩:=h;rfl
 obtain ⟨p,row,ws,pl,x,lo,hi,v,rfl,R,hx,hv,nt,q⟩:=h;refine ⟨_,(db (Cb (i:=3) Xg.nd rfl (Or.inl rfl) (xb g31 hr rfl T.fC T.Kq.kp T.xB .nil Db (ab (ae (pv 0) T.Ab T.Ie g13 hr T.Te .nil Db) (ab (pv 1) (ab (pv 2) fb)))))
   (db (Fc (bd (pv 0) T.Ab T.Sg g16 hr T.Tg .nil Db (ab (Ef TH (pv 3) Ww (Xb _)) fb)))
   (qb (Gb (pv 3))))),?_⟩
 have hlt:pl < ws.length:=(List.getElem?_eq_some_iff.mp hx).1;have hg:ws.getD pl (Str.ofString "")=x:=by rw [List.getD_eq_getElem?_getD,hx];rfl
 obtain ⟨hz,dx,ta,e1,e2⟩:=id R;walk_at "RD";refine ⟨_,_,e1,Cf.no _ _ _ (by decide +kernel),⟨p,row,ws,pl,rfl,R,by omega,?_⟩⟩;rw [hg];walk_at "RD";refine ⟨x,lo,hi,rfl,hz.2 x (List.mem_of_getElem? hx),nt,?_⟩;rw [hv];walk_at "RD";refine ⟨_,_,e1,Cf.no _ _ _ (by decide +kernel),?_⟩;refine ⟨p,row,ws,pl,rfl,R,fun H' s1 s2 s3=>?_⟩;walk_at "RD";exact q H' s1 s2 s3
theorem Hz (T:Txt w K mg t):Pb P w K mg base CX0 2 t.Bc t.Mc ["self"] (aw t):=by
 have g32:Pb P w K mg base CX0 1 t.qd t.Ud ["self"] (RB t):=pJ T;refine T.Th.ok am (fun vs H Q E h=>?_) (fun _ _ _ s H vs Q E hr h=>?_)
 ·obtain ⟨p,row,ws,pl,rfl,_⟩:=h;rfl
 obtain ⟨p,row,ws,pl,rfl,R,hl,q⟩:=h;obtain ⟨hz,dx,ta,e1,e2⟩:=id R;refine ⟨_,(qb (Be (Ki (ae (pv 0) T.Ab T.Hk g32 hr T.Jk .nil Db)) (qb Dg) vc)),?_⟩;walk_at "RD";refine Dc false (fun Q hQ=>?_) (fun hc=>nomatch hc) (fun _=>?_)
 ·walk_at "RD";refine ⟨_,_,e1,Cf.no _ _ _ (by decide +kernel),⟨p,row,ws,pl,rfl,R,?_⟩⟩;rw [decide_eq_false (by omega)];exact ⟨_,rfl,hQ⟩
 ·walk_at "RD";exact q
end
end My
namespace My
open PySem L2
theorem ic {α β:Type} {f:α→β} {l:List α} {i:Nat} {y:β} (h:(l.map f)[i]? = some y):∃ x,l[i]? = some x∧y=f x:=by
 rw [List.getElem?_map] at h;cases e:l[i]? with
 | none=>rw [e] at h;cases h
 | some x=>rw [e] at h;exact ⟨x,rfl,(Option.some.inj h).symm⟩
noncomputable def ZM (t:Adr) (H0 H:Hp) (p:Addr) (rows:List (List Str)):Prop:=∃ qs:List Addr,H p=some (.lst (qs.map V.ref))∧H0 p=none∧qs.length=rows.length∧∀ (i:Nat) (q:Addr) (r:List Str),qs[i]? = some q→rows[i]? = some r→Cf t H q i r 0∧H0 q=none
noncomputable def rn (t:Adr):Sp:=fun vs H Q _=>∃ x,vs=[.str x]∧x.length ≤ 20000∧(∀ r ∈ ji x,r.length ≤ 1000∧∀ y ∈ r,y.length ≤ 1000)∧NoT H∧∀ p H',Jb H H'→NoT H'→ZM t H H' p (ji x)→Q (.ref p) H'
section
variable {P:Program} {w:World} {K:PySem.W.Frag} {mg:Str→Option Value} {base:Heap} {t:Adr}
theorem et (T:Txt w K mg t):Pb P w K mg base CX0 3 t.Xj t.Pj ["text"] (rn t):=by
 have g33:Pb P w K mg base CX0 2 t.fv t.bv ["text"] nz:=(DG T).mono (by decide);have g34:Pb P w K mg base CX0 1 t.oe t.qf q34 (EH t):=cK T;refine T.Km.ok GA (fun vs H Q E h=>?_) (fun _ _ _ s H vs Q E hr h=>?_)
 ·obtain ⟨x,rfl,_⟩:=h;rfl
 obtain ⟨x,rfl,hz,hrow,nt,q⟩:=h;refine ⟨_,(qb (Gb (ve rfl (Gn rfl T.ig (ab (xb g33 hr rfl T.lI T.vx.kp T.KI .nil Db (ab (pv 0) fb)) fb)) (jc (sc:=rb Gp) rfl (by decide +kernel)) (N:=["row","told"]) (sel:=[none,none]) (Gc (M:=["text"]) (by decide +kernel)) (Blk.of (fun _ _ _ _=>(Ve (K:=K) (n:=2) rfl rfl (Nb (yb (i:=0) (Xe (N:=["row","told"]) (by decide +kernel) rfl) rfl (Or.inl rfl) (.inr rfl)) (Nb (yb (i:=1) (Xe (N:=["row","told"]) (by decide +kernel) rfl) rfl (Or.inl rfl) (.inr rfl)) Ue)))) (fun _ _ _ _=>⟨_,Qd,by walk_at "B"⟩) (fun _ _ _ _=>⟨_,(Jn T.Zx g34 hr rfl T.Nx T.Vo .nil Db (ab (pv 0) (ab (pv 1) fb))),by walk_at "B"⟩))))),?_⟩;walk_at "RD";refine ⟨x,rfl,hz,nt,fun p H1 sm1 nt1 ⟨ps,hp,hp0,hpn,hpl,hpa⟩=>?_⟩;walk_at "RD";refine ⟨⟨_,SqL.of hp⟩,?_⟩;have hlen:ps.length ≤ sizeLine:=by
  rw [hpl];unfold ji;rw [List.length_map];have:=Gq (x:=x) (y:=nl) (by rw [Tw];exact Nat.le_refl _);exact Nat.le_trans (show _ ≤ 40000 by omega) (by decide)
 refine ed.enum (xs:=ps.map V.ref) (fun i ys H2=>Jb H1 H2∧NoT H2∧∃ qs:List Addr,ys=qs.map V.ref∧qs.length=i∧∀ (j:Nat) (q:Addr) (r:List Str),qs[j]? = some q→(ji x)[j]? = some r→Cf t H2 q j r 0∧H1 q=none)
  (by rw [List.length_map];exact hlen) ⟨Jb.refl H1,nt1,[],rfl,rfl,fun j q r h _=>by simp at h⟩ ?_ ?_ ?_
 ·rintro i ys H2 hi zzq;refine zP fun zzM zzh=>?_
  obtain ⟨s2,n2,qs,rfl,hq,_⟩:=zzq;subst zzh;exact ⟨SqL.of (s2 _ _ hp),by rw [List.length_map];omega⟩
 ·rintro i v ys H2 p2 hv ⟨s2,n2,qs,rfl,hq,al⟩ hp2 N hN;rw [List.getElem?_map] at hv;cases hpi:ps[i]? with
  | none=>rw [hpi] at hv;cases hv
  | some pi=>
   rw [hpi] at hv;have e:=(Option.some.inj hv).symm;subst e;refine Ei ?_;walk_at "RD";refine ⟨Sub.name2,fun a dx ha hd hne=>?_⟩;refine ⟨a,dx,pi,i,rfl,cb,rfl,?_⟩;rw [Oq];have s3:Jb H2 (upd (upd (upd H2 p2 (.tup [.int i,.ref pi])) dx (.own a)) a (.ins t.Lb dx (rdF i pi 0))):=by
    have s':Jb H2 (upd H2 p2 (.tup [.int i,.ref pi])):=lb hp2;exact ((Jb.trans s' (lb hd)).updN (s'.free ha))
   obtain ⟨r,hr⟩:∃ r,(ji x)[i]? = some r:=⟨(ji x)[i]'(by rw [← hpl];exact (List.getElem?_eq_some_iff.mp hpi).1),List.getElem?_eq_getElem _⟩;have ha2:H2 a=none:=(lb hp2).free ha;refine hN _ _ ⟨s2.trans s3,((n2.upd).upd).upd,qs ++ [a],by rw [List.map_append];rfl,by rw [List.length_append,hq];rfl,fun j q' r' h1 h2=>?_⟩;by_cases hj:j < qs.length
   ·rw [List.getElem?_append_left hj] at h1;obtain ⟨z1,z2⟩:=al j q' r' h1 h2;exact ⟨z1.same s3,z2⟩
   ·rw [List.getElem?_append_right (by omega)] at h1;have hj0:j - qs.length=0:=by
     cases hh:j - qs.length with
     | zero=>rfl
     | succ n=>rw [hh] at h1;simp at h1
    rw [hj0] at h1;have e3:a=q':=by simpa using h1
    subst e3;have e4:j=i:=by omega
    subst e4;rw [hr] at h2;cases h2;refine ⟨⟨hrow r (List.mem_of_getElem? hr),dx,pi,cb,?_⟩,s2.free ha2⟩;exact s3 _ _ (s2 _ _ (hpa j pi r hpi hr).1)
 ·rintro ys H2 ⟨s2,n2,qs,rfl,hq,al⟩ p2 hp2;refine q p2 _ ((sm1.trans s2).updN ((sm1.trans s2).free hp2)) (n2.upd) ⟨qs,cb,(sm1.trans s2).free hp2,by rw [hq,List.length_map,hpl],fun i q' r h1 h2=>?_⟩;obtain ⟨z1,z2⟩:=al i q' r h1 h2;exact ⟨z1.same (lb hp2),sm1.free z2⟩
end
noncomputable def nN (q:Addr) (H:Hp) (R:Hp→Prop):Prop:=∀ H',Yc q H H'→NoT H'→R H'
noncomputable def CB (t:Adr):Sp:=fun vs H Q _=>∃ q row n,vs=[.ref q]∧Cf t H q row [Str.ofString "ring",num n] 0∧(2 ≤ n∧n ≤ 99)∧NoT H∧nN q H (Q (.int n))
noncomputable def Yj (t:Adr) (H:Hp) (wl:Addr) (ds:List WD):Prop:=∃ as:List Addr,H wl=some (.lst (as.map V.ref))∧as.length=ds.length∧∀ (i:Nat) (a:Addr) (d:WD),as[i]? = some a→ds[i]? = some d→Pe t H a d
noncomputable def Ot (t:Adr):Sp:=fun vs H Q _=>∃ q row ws pl wl ds x,vs=[.ref q,.ref wl]∧Cf t H q row ws pl∧ws[pl]? = some x∧made x Vg 8=true∧Yj t H wl ds∧ds.length ≤ 12∧(∀ d ∈ ds,d.name ≠ x)∧NoT H ∧
 ∀ H',Yc q H H'→NoT H'→Cf t H' q row ws (pl + 1)→Q (.str x) H'
noncomputable def kH (t:Adr):Sp:=fun vs H Q _=>∃ q row ws pl n st fi,vs=[.ref q,.int n,.int st]∧Cf t H q row ws pl∧ws[pl]? = some (num fi)∧(0 ≤ st∧st < n)∧(0 ≤ fi∧fi < n)∧st ≠ fi∧n ≤ 99∧NoT H ∧
 ∀ H',Yc q H H'→NoT H'→Cf t H' q row ws (pl + 1)→Q (.int fi) H'
noncomputable def kz (t:Adr):Sp:=fun vs H Q _=>∃ d:WD,vs=[.str (Pd d.k),.str d.name,.int d.start,.int d.fin,.int d.off,.int d.near,.int d.least]∧d.k < 3∧∀ x H',Jb H H'→(NoT H→NoT H')→Pe t H' x d→H x=none→Q (.ref x) H'
noncomputable def mH (t:Adr):Sp:=fun vs H Q _=>∃ q row n wl ds d,vs=[.ref q,.int n,.ref wl]∧Cf t H q row (Hf d) 0∧WOk n d∧(2 ≤ n∧n ≤ 99)∧Yj t H wl ds∧ds.length ≤ 12∧(∀ e ∈ ds,e.name ≠ d.name)∧NoT H ∧
 ∀ x H',Yc q H H'→NoT H'→Pe t H' x d→H x=none→Q (.ref x) H'
theorem Yj.sameX {t:Adr} {H H':Hp} {q wl:Addr} {ds:List WD} {row:Int} {ws:List Str} {pl:Nat} (h:Yj t H wl ds) (s:Yc q H H') (r:Cf t H q row ws pl):Yj t H' wl ds:=by
 obtain ⟨as,e1,e2,al⟩:=h;obtain ⟨hz,dx,ta,e3,e4⟩:=r;refine ⟨as,s _ _ (ue e1 e3 (by intro z;cases z)) e1,e2,fun i a d h1 h2=>?_⟩;obtain ⟨hk,dx',e5⟩:=al i a d h1 h2;refine ⟨hk,dx',s _ _ (fun z=>?_) e5⟩;subst z;rw [e5] at e3;have e6:=Option.some.inj e3;injection e6 with _ _ e8;have e9:(7:Nat)=3:=congrArg List.length e8;omega
theorem Yj.same {t:Adr} {H H':Hp} {wl:Addr} {ds:List WD} (h:Yj t H wl ds) (s:Jb H H'):Yj t H' wl ds:=by
 obtain ⟨as,e1,e2,al⟩:=h;exact ⟨as,s _ _ e1,e2,fun i a d h1 h2=>(al i a d h1 h2).same s⟩
section
variable {P:Program} {w:World} {K:PySem.W.Frag} {mg:Str→Option Value} {base:Heap} {t:Adr}
theorem xJ (T:Txt w K mg t):Pb P w K mg base CX0 5 t.Mi t.Si ["reader"] (CB t):=by
 have g12:Pb P w K mg base CX0 4 t.Cc t.Pc q20 (vm K t):=(Dp T).mono (by decide);have g8:Pb P w K mg base CX0 4 t.ac t.xc q16 (bo t):=Yq T;have g14:Pb P w K mg base CX0 4 t.Bc t.Mc ["self"] (aw t):=(Hz T).mono (by decide);refine T.Zl.ok Do (fun vs H Q E h=>?_) (fun _ _ _ s H vs Q E hr h=>?_)
 ·obtain ⟨q,row,n,rfl,_⟩:=h;rfl
 obtain ⟨q,row,n,rfl,R,hn,nt,qq⟩:=h;refine ⟨_,(db (Fc (bd (pv 0) T.Ab T.Nd g12 hr T.Kd .nil Db (ab (Td (ab Wc fb)) fb)))
   (db (Cb (i:=1) Do.nd rfl (Or.inl rfl) (bd (pv 0) T.Ab T.Yb g8 hr T.dc .nil Db (ab (dg rfl T.Sr T.Jr) (ab (dg rfl T.xu T.Tu) fb))))
   (db (Fc (ae (pv 0) T.Ab T.ze g14 hr T.we .nil Db))
   (qb (Gb (pv 1)))))),?_⟩
 obtain ⟨_,dx,ta,e1,e2⟩:=id R;walk_at "RD";refine ⟨_,_,e1,Cf.no _ _ _ (by decide +kernel),by decide,fun p hp=>?_⟩;have s0:Jb H (upd H p (.lst [V.str (Str.ofString "ring")])):=lb hp;refine ⟨q,row,_,0,Str.ofString "ring",p,[Str.ofString "ring"],rfl,R.same s0,rfl,SqL.of cb,by simp,fun H1 s1 n1 R1=>?_⟩;obtain ⟨_,dx1,ta1,f1,f2⟩:=id R1;walk_at "RD";refine ⟨_,_,f1,Cf.no _ _ _ (by decide +kernel),?_⟩;have nt1:=n1 nt.upd;refine ⟨q,row,_,1,num n,2,99,n,rfl,R1,rfl,kj (by omega) (by omega) hn.1 hn.2,nt1,fun H2 s2 n2 R2=>?_⟩;obtain ⟨_,dx2,ta2,g1,g2⟩:=id R2;walk_at "RD";refine ⟨_,_,g1,Cf.no _ _ _ (by decide +kernel),?_⟩;refine ⟨q,row,_,2,rfl,R2,rfl,?_⟩;walk_at "RD";exact qq H2 (((Yc.of s0).trans s1).trans s2) (n2 nt1)
theorem uA (T:Txt w K mg t):Pb P w K mg base CX0 3 t.Df t.Kf q37 (Ot t):=by
 have g13:Pb P w K mg base CX0 2 t.Kc t.Xc ["self"] (om t):=(Zo T).mono (by decide);have g16:Pb P w K mg base CX0 2 t.jd t.Fd q19 (jv t):=(gy T).mono (by decide);have g35:Pb P w K mg base CX0 2 t.jm t.Xm ["word"] KD:=vI T;refine T.nh.ok nj (fun vs H Q E h=>?_) (fun _ _ _ s H vs Q E hr h=>?_)
 ·obtain ⟨q,row,ws,pl,wl,ds,x,rfl,_⟩:=h;rfl
 obtain ⟨q,row,ws,pl,wl,ds,x,rfl,R,hx,hm,hW,hdl,hnew,nt,qq⟩:=h;refine ⟨_,(db (Cb (i:=2) nj.nd rfl (Or.inl rfl) (ae (pv 0) T.Ab T.Ie g13 hr T.Te .nil Db))
   (db (Fc (bd (pv 0) T.Ab T.Sg g16 hr T.Tg .nil Db (ab (qB (xb g35 hr rfl T.iC T.Up.kp T.LB .nil Db (ab (pv 2) fb)) (fw (Ef Cw (pv 2) (ve rfl (zd (pv 1)) (jc (sc:=rb xh) rfl (by decide +kernel)) (N:=["way"]) (sel:=[none]) (Gc (M:=["reader","ways","name"]) (by decide +kernel)) (Blk.of (fun _ _ _ _=>(yb (i:=0) (Xe (N:=["way"]) (by decide +kernel) rfl) rfl (Or.inl rfl))) (fun _ _ _ _=>⟨_,Qd,by walk_at "B"⟩) (fun _ _ _ _=>⟨_,(Ic (pv 0) rfl),by walk_at "B"⟩))) (by with_unfolding_all rfl)))) fb)))
   (qb (Gb (pv 2))))),?_⟩
 have hlt:pl < ws.length:=(List.getElem?_eq_some_iff.mp hx).1;have hg:ws.getD pl (Str.ofString "")=x:=by rw [List.getD_eq_getElem?_getD,hx];rfl
 obtain ⟨hz,dx,ta,e1,e2⟩:=id R;walk_at "RD";refine ⟨_,_,e1,Cf.no _ _ _ (by decide +kernel),⟨q,row,ws,pl,rfl,R,by omega,?_⟩⟩;rw [hg];walk_at "RD";refine ⟨_,_,e1,Cf.no _ _ _ (by decide +kernel),?_⟩;refine ⟨x,rfl,hz.2 x (List.mem_of_getElem? hx),nt,?_⟩;rw [hm];walk_at "RD";obtain ⟨as,w1,w2,al⟩:=hW;refine ⟨⟨_,SqL.of w1⟩,?_⟩;have hle:(as.map V.ref).length ≤ sizeLine:=by rw [List.length_map,w2];exact Nat.le_trans hdl (by decide)
 refine ed.list_zs (xs:=as.map V.ref) (zs:=ds.map fun d=>V.str d.name) (SqL.of w1) hle (by rw [List.length_map,List.length_map,w2]) (fun i v z N hv hz' hN=>?_) (fun p hp=>?_)
 ·obtain ⟨a,ha,rfl⟩:=ic hv;obtain ⟨d,hd,rfl⟩:=ic hz';walk_at "RD";exact ⟨Sub.name,_,(al i a d ha hd).f_name T,hN⟩
 ·walk_at "RD";have e0:(ds.map fun d=>V.str d.name)=Kb (ds.map (·.name)):=by unfold Kb;rw [List.map_map];rfl
  rw [e0];refine ⟨_,.inl (SqL.of cb),rfl,ut _,?_⟩;rw [Ty,decide_eq_false (fun z=>by
   obtain ⟨d,hd,e⟩:=List.mem_map.mp z;exact hnew d hd e)]
  have s0:Jb H (upd H p (.lst (Kb (ds.map (·.name))))):=lb hp;exact ⟨q,row,ws,pl,rfl,R.same s0,fun H' s1 n1 R1=>qq H' ((Yc.of s0).trans s1) (n1 nt.upd) R1⟩
theorem EL (T:Txt w K mg t):Pb P w K mg base CX0 5 t.uk t.Bk q28 (kH t):=by
 have g13:Pb P w K mg base CX0 4 t.Kc t.Xc ["self"] (om t):=(Zo T).mono (by decide);have g8:Pb P w K mg base CX0 4 t.ac t.xc q16 (bo t):=Yq T;refine T.Ln.ok Ix (fun vs H Q E h=>?_) (fun _ _ _ s H vs Q E hr h=>?_)
 ·obtain ⟨q,row,ws,pl,n,st,fi,rfl,_⟩:=h;rfl
 obtain ⟨q,row,ws,pl,n,st,fi,rfl,R,hx,hst,hfi,hne,hn,nt,qq⟩:=h;refine ⟨_,(db (Be (Rb Ji (ae (pv 0) T.Ab T.Ie g13 hr T.Te .nil Db) (Vc xf rfl T.Wz mh (ab (pv 2) fb)) (Xb _)) (qb Dg) vc)
   (qb (Gb (bd (pv 0) T.Ab T.Yb g8 hr T.dc .nil Db (ab pb (ab (Fb De (pv 1) pb) fb)))))),?_⟩
 have hlt:pl < ws.length:=(List.getElem?_eq_some_iff.mp hx).1;have hg:ws.getD pl (Str.ofString "")=num fi:=by rw [List.getD_eq_getElem?_getD,hx];rfl
 obtain ⟨hz,dx,ta,e1,e2⟩:=id R;walk_at "RD";refine Dc false (fun Q hQ=>?_) (fun hc=>nomatch hc) (fun _=>?_)
 ·walk_at "RD";refine ⟨_,_,e1,Cf.no _ _ _ (by decide +kernel),⟨q,row,ws,pl,rfl,R,by omega,?_⟩⟩;rw [hg];walk_at "RD";refine ⟨gC (by omega),?_⟩;rw [decide_eq_false (fun z=>hne (VI (by omega) (by omega) (by omega) (by omega) z).symm)];exact hQ
 ·walk_at "RD";refine ⟨_,_,e1,Cf.no _ _ _ (by decide +kernel),⟨q,row,ws,pl,num fi,0,n - 1,fi,rfl,R,hx,kj (by omega) (by omega) (by omega) (by omega),nt,fun H1 s1 n1 R1=>?_⟩⟩;exact qq H1 s1 (n1 nt) R1
theorem TL {t:Adr} {H:Hp} {x dx:Addr} {d:WD} (hx:H x=none) (hd:H dx=none) (hk:d.k < 3) :
  Jb H (upd (upd (upd H dx (.own x)) x (.ins (t.cw d.k) dx [])) x (.ins (t.cw d.k) dx (No d)))∧(NoT H→NoT (upd (upd (upd H dx (.own x)) x (.ins (t.cw d.k) dx [])) x (.ins (t.cw d.k) dx (No d)))) ∧
   Pe t (upd (upd (upd H dx (.own x)) x (.ins (t.cw d.k) dx [])) x (.ins (t.cw d.k) dx (No d))) x d:=
 ⟨(((Jb.refl H).updN hd).updN hx).updN hx,fun n=>((n.upd).upd).upd,hk,dx,cb⟩
theorem fG (T:Txt w K mg t):Pb P w K mg base CX0 4 t.rk t.Fk q29 (kz t):=by
 have g36:Pb P w K mg base CX0 2 t.Jf t.eh q5 (Ak t 0):=rJ T;have g37:Pb P w K mg base CX0 2 t.lf t.jg q5 (Ak t 1):=oF T;have g38:Pb P w K mg base CX0 2 t.Ze t.ug q5 (Ak t 2):=lG T;refine T.xn.ok Cy (fun vs H Q E h=>?_) (fun _ _ _ s H vs Q E hr h=>?_)
 ·obtain ⟨d,rfl,_⟩:=h;rfl
 obtain ⟨d,rfl,hk,q⟩:=h;refine ⟨_,(db (Be (Rb Ji (pv 0) Wc (Xb _)) (qb (Gb (Jn T.AF g36 hr rfl T.pG T.Nu .nil Db (ab (pv 1) (ab (pv 2) (ab (pv 3) (ab (pv 4) (ab (pv 5) (ab (pv 6) fb))))))))) vc)
   (db (Be (Rb Ji (pv 0) Wc (Xb _)) (qb (Gb (Jn T.FD g37 hr rfl T.oB T.Hs .nil Db (ab (pv 1) (ab (pv 2) (ab (pv 3) (ab (pv 4) (ab (pv 5) (ab (pv 6) fb))))))))) vc)
   (qb (Gb (Jn T.NB g38 hr rfl T.WB T.Ls .nil Db (ab (pv 1) (ab (pv 2) (ab (pv 3) (ab (pv 4) (ab (pv 5) (ab (pv 6) fb))))))))))),?_⟩
 have fin:∀ (x dx:Addr),H x=none→H dx=none→Q (.ref x) (upd (upd (upd H dx (.own x)) x (.ins (t.cw d.k) dx [])) x (.ins (t.cw d.k) dx (No d))):=fun x dx hx hd=>by
  obtain ⟨m1,m2,m3⟩:=TL (t:=t) (d:=d) hx hd hk;exact q x _ m1 m2 m3 hx
 obtain ⟨k,name,start,fi,off,near,least⟩:=d
 match k,hk with
 | 0,_=>
  (walk_at "RD"; repeat (simp only [Pd];walk_at "RD"));refine Dc true (fun Q hQ=>?_) (fun _=>?_) (fun hc=>nomatch hc)
  ·walk_at "RD";exact hQ
  ·walk_at "RD";exact fun x dx hx hd hne=>⟨x,dx,⟨0,name,start,fi,off,near,least⟩,rfl,rfl,cb,rfl,fin x dx hx hd⟩
 | 1,_=>
  (walk_at "RD"; repeat (simp only [Pd];walk_at "RD"));refine Dc false (fun Q hQ=>?_) (fun hc=>nomatch hc) (fun _=>?_)
  ·walk_at "RD";rw [decide_eq_false (by decide +kernel)];exact hQ
  ·walk_at "RD";refine Dc true (fun Q hQ=>?_) (fun _=>?_) (fun hc=>nomatch hc)
   ·walk_at "RD";exact hQ
   ·walk_at "RD";exact fun x dx hx hd hne=>⟨x,dx,⟨1,name,start,fi,off,near,least⟩,rfl,rfl,cb,rfl,fin x dx hx hd⟩
 | 2,_=>
  (walk_at "RD"; repeat (simp only [Pd];walk_at "RD"));refine Dc false (fun Q hQ=>?_) (fun hc=>nomatch hc) (fun _=>?_)
  ·walk_at "RD";rw [decide_eq_false (by decide +kernel)];exact hQ
  ·walk_at "RD";refine Dc false (fun Q hQ=>?_) (fun hc=>nomatch hc) (fun _=>?_)
   ·walk_at "RD";rw [decide_eq_false (by decide +kernel)];exact hQ
   ·walk_at "RD";exact fun x dx hx hd hne=>⟨x,dx,⟨2,name,start,fi,off,near,least⟩,rfl,rfl,cb,rfl,fin x dx hx hd⟩
theorem dL (T:Txt w K mg t):Pb P w K mg base CX0 6 t.Dk t.Ek q38 (mH t):=by
 have g12:Pb P w K mg base CX0 5 t.Cc t.Pc q20 (vm K t):=(Dp T).mono (by decide);have g8:Pb P w K mg base CX0 5 t.ac t.xc q16 (bo t):=(Yq T).mono (by decide);have g14:Pb P w K mg base CX0 5 t.Bc t.Mc ["self"] (aw t):=(Hz T).mono (by decide);have g39:Pb P w K mg base CX0 5 t.Df t.Kf q37 (Ot t):=(uA T).mono (by decide);have g40:Pb P w K mg base CX0 5 t.uk t.Bk q28 (kH t):=EL T;have g41:Pb P w K mg base CX0 5 t.rk t.Fk q29 (kz t):=(fG T).mono (by decide);refine T.On.ok Ee (fun vs H Q E h=>?_) (fun _ _ _ s H vs Q E hr h=>?_)
 ·obtain ⟨q,row,n,wl,ds,d,rfl,_⟩:=h;rfl
 obtain ⟨q,row,n,wl,ds,d,rfl,R,hd,hn,hW,hdl,hnew,nt,qq⟩:=h;refine ⟨_,(db (Cb (i:=3) Ee.nd rfl (Or.inl rfl) (bd (pv 0) T.Ab T.Nd g12 hr T.Kd .nil Db (ab (Td (ab Wc (ab Wc (ab Wc fb)))) fb)))
   (db (Cb (i:=4) Ee.nd rfl (Or.inl rfl) (xb g39 hr rfl T.Dq T.nh.kp T.Aq .nil Db (ab (pv 0) (ab (pv 2) fb))))
   (db (Cb (i:=5) Ee.nd rfl (Or.inl rfl) (bd (pv 0) T.Ab T.Yb g8 hr T.dc .nil Db (ab pb (ab (Fb De (pv 1) pb) fb))))
   (db (Cb (i:=6) Ee.nd rfl (Or.inl rfl) (xb g40 hr rfl T.xA T.Ln.kp T.Zz .nil Db (ab (pv 0) (ab (pv 1) (ab (pv 5) fb)))))
   (db (Cb (i:=7) Ee.nd rfl (Or.inl rfl) (bd (pv 0) T.Ab T.Yb g8 hr T.dc .nil Db (ab pb (ab (dg rfl T.EA T.Yz) fb))))
   (db (Cb (i:=8) Ee.nd rfl (Or.inl rfl) (bd (pv 0) T.Ab T.Yb g8 hr T.dc .nil Db (ab pb (ab (dg rfl T.sy T.Dx) fb))))
   (db (Cb (i:=9) Ee.nd rfl (Or.inl rfl) (bd (pv 0) T.Ab T.Yb g8 hr T.dc .nil Db (ab pb (ab (dg rfl T.tw T.Ov) fb))))
   (db (Fc (ae (pv 0) T.Ab T.ze g14 hr T.we .nil Db))
   (qb (Gb (xb g41 hr rfl T.YA T.xn.kp T.qA .nil Db (ab (pv 3) (ab (pv 4) (ab (pv 5) (ab (pv 6) (ab (pv 7) (ab (pv 8) (ab (pv 9) fb)))))))))))))))))),?_⟩
 have b1:=hd.st;have b2:=hd.fi;have b3:=hd.of;have b4:=hd.nr;have b5:=hd.le;obtain ⟨_,dx,ta,e1,e2⟩:=id R;walk_at "RD";refine ⟨_,_,e1,Cf.no _ _ _ (by decide +kernel),by decide,fun p hp=>?_⟩;have s0:Jb H (upd H p (.lst [V.str (Str.ofString "car"),V.str (Str.ofString "foot"),V.str (Str.ofString "tram")])):=lb hp;have hin:Pd d.k ∈ [Str.ofString "car",Str.ofString "foot",Str.ofString "tram"]:=by
  have:=hd.k
  match d.k,this with
  | 0,_=>simp [Pd]
  | 1,_=>simp [Pd]
  | 2,_=>simp [Pd]
 refine ⟨q,row,_,0,Pd d.k,p,[Str.ofString "car",Str.ofString "foot",Str.ofString "tram"],rfl,R.same s0,rfl,SqL.of cb,hin,fun H1 s1 n1 R1=>?_⟩;have x1:Yc q H H1:=(Yc.of s0).trans s1;have m1:=n1 nt.upd;walk_at "RD";refine ⟨q,row,_,1,wl,ds,d.name,rfl,R1,rfl,hd.nm,hW.sameX x1 R,hdl,hnew,m1,fun H2 s2 m2 R2=>?_⟩;obtain ⟨_,dx2,ta2,f2,g2⟩:=id R2;have x2:=x1.trans s2;walk_at "RD";refine ⟨_,_,f2,Cf.no _ _ _ (by decide +kernel),⟨q,row,_,2,num d.start,0,n - 1,d.start,rfl,R2,rfl,kj (by omega) (by omega) (by omega) (by omega),m2,fun H3 s3 n3 R3=>?_⟩⟩;have x3:=x2.trans s3;have m3:=n3 m2;walk_at "RD";refine ⟨q,row,_,3,n,d.start,d.fin,rfl,R3,rfl,b1,b2,hd.ne,hn.2,m3,fun H4 s4 m4 R4=>?_⟩;obtain ⟨_,dx4,ta4,f4,g4⟩:=id R4;have x4:=x3.trans s4;walk_at "RD";refine ⟨_,_,f4,Cf.no _ _ _ (by decide +kernel),⟨q,row,_,4,num d.off,0,30,d.off,rfl,R4,rfl,kj (by omega) (by omega) (by omega) (by omega),m4,fun H5 s5 n5 R5=>?_⟩⟩;obtain ⟨_,dx5,ta5,f5,g5⟩:=id R5;have x5:=x4.trans s5;have m5:=n5 m4;walk_at "RD";refine ⟨_,_,f5,Cf.no _ _ _ (by decide +kernel),⟨q,row,_,5,num d.near,0,30,d.near,rfl,R5,rfl,kj (by omega) (by omega) (by omega) (by omega),m5,fun H6 s6 n6 R6=>?_⟩⟩;obtain ⟨_,dx6,ta6,f6,g6⟩:=id R6;have x6:=x5.trans s6;have m6:=n6 m5;walk_at "RD";refine ⟨_,_,f6,Cf.no _ _ _ (by decide +kernel),⟨q,row,_,6,num d.least,1,60,d.least,rfl,R6,rfl,kj (by omega) (by omega) (by omega) (by omega),m6,fun H7 s7 n7 R7=>?_⟩⟩;obtain ⟨_,dx7,ta7,f7,g7⟩:=id R7;have x7:=x6.trans s7;have m7:=n7 m6;walk_at "RD";refine ⟨_,_,f7,Cf.no _ _ _ (by decide +kernel),⟨q,row,_,7,rfl,R7,rfl,?_⟩⟩;walk_at "RD";refine ⟨d,rfl,hd.k,fun x H8 s8 n8 w8 hx8=>?_⟩;refine qq x H8 (x7.trans (Yc.of s8)) (n8 m7) w8 ?_;cases hH:H x with
 | none=>rfl
 | some u=>
  by_cases hxq:x=q
  ·subst hxq;rw [f7] at hx8;cases hx8
  ·rw [x7 x u hxq hH] at hx8;cases hx8
end
end My
namespace My
open PySem L2
noncomputable abbrev BA:List Str:=[Str.ofString "places",Str.ofString "ways",Str.ofString "numbers"]
noncomputable def cF (n:Int) (wl nd:Addr):List (Str × V):=[(Str.ofString "places",.int n),(Str.ofString "ways",.ref wl),(Str.ofString "numbers",.ref nd)]
theorem Ru (n:Int) (wl nd:Addr):(cF n wl nd).map (·.1)=BA:=rfl
noncomputable def nm (ds:List WD) (i:Nat):Str:=((ds[i]?).map (·.name)).getD (Str.ofString "")
noncomputable def jB (ds:List WD) (i:Nat):List (Key × V):=(List.range i).map fun j=>(Sum.inr (nm ds j),V.int j)
theorem Cv {ds:List WD} {i:Nat} {d:WD} (h:ds[i]? = some d):nm ds i=d.name:=by unfold nm;rw [h];rfl
theorem az {ds:List WD} (h:(ds.map (·.name)).Nodup) {i j:Nat} (hi:i < ds.length) (hj:j < ds.length) (e:nm ds i=nm ds j):i=j:=by
 rw [Cv (List.getElem?_eq_getElem hi),Cv (List.getElem?_eq_getElem hj)] at e;have:=(List.getElem_inj (xs:=ds.map (·.name)) (i:=i) (j:=j) (h₀:=by rw [List.length_map];exact hi) (h₁:=by rw [List.length_map];exact hj) h).mp (by rw [List.getElem_map,List.getElem_map];exact e);exact this
theorem rG {ds:List WD} (h:(ds.map (·.name)).Nodup) {i:Nat}:∀ {n:Nat},i < n→n ≤ ds.length→qv (jB ds n) (Sum.inr (nm ds i))=some (.int i):=by
 intro n
 induction n with
 | zero=>intro hi _;omega
 | succ n ih=>
  intro hi hn;unfold jB qv;rw [List.range_succ,List.map_append,List.find?_append];by_cases c:i < n
  ·have:=ih c (by omega);unfold jB qv at this;cases e:List.find? (fun kv=>decide (kv.fst=Sum.inr (nm ds i))) (List.map (fun j=>((Sum.inr (nm ds j):Key),V.int j)) (List.range n)) with
   | none=>rw [e] at this;cases this
   | some p=>rw [e] at this;exact this
  ·have e:i=n:=by omega
   subst e;have no:List.find? (fun kv=>decide (kv.fst=Sum.inr (nm ds i))) (List.map (fun j=>((Sum.inr (nm ds j):Key),V.int j)) (List.range i))=none:=by
    rw [List.find?_eq_none];intro p hp;obtain ⟨j,hj,rfl⟩:=List.mem_map.mp hp;have hj':=List.mem_range.mp hj;simp only [decide_eq_true_eq];intro z;have:=az h (by omega) (by omega) (Sum.inr.inj z);omega
   rw [no];simp
theorem JG {ds:List WD} (h:(ds.map (·.name)).Nodup) {n:Nat} (hn:n < ds.length):Hv (jB ds n) (Sum.inr (nm ds n)) (.int n)=jB ds (n + 1):=by
 unfold Hv;have no:((jB ds n).any fun kv=>decide (kv.1=Sum.inr (nm ds n)))=false:=by
  rw [List.any_eq_false];intro p hp;obtain ⟨j,hj,rfl⟩:=List.mem_map.mp hp;have hj':=List.mem_range.mp hj;simp only [decide_eq_true_eq];intro z;have:=az h (by omega) hn (Sum.inr.inj z);omega
 rw [no];unfold jB;rw [List.range_succ,List.map_append];rfl
theorem re {H H1 H2:Hp} {q:Addr} (a:Jb H H1) (b:Yc q H1 H2) (n:H q=none):Jb H H2:=fun c u e=>b c u (wb e n) (a c u e)
theorem zG {t:Adr} {H:Hp} {p q:Addr} {i j:Int} {ws vs:List Str} {k l:Nat} (a:Cf t H p i ws k) (b:Cf t H q j vs l) (n:i ≠ j):p ≠ q:=fun z=>by
 subst z;obtain ⟨_,dx,ta,e1,_⟩:=a;obtain ⟨_,dx',ta',e2,_⟩:=b;rw [e1] at e2;have e3:=Option.some.inj e2;injection e3 with _ _ e4;unfold rdF at e4;injection e4 with e5 _;injection e5 with _ e6;injection e6 with e7;exact n e7
theorem Vv {t:Adr} {H:Hp} {p q:Addr} {d:WD} {j:Int} {vs:List Str} {l:Nat} (a:Pe t H p d) (b:Cf t H q j vs l):p ≠ q:=fun z=>by
 subst z;obtain ⟨_,dx,e1⟩:=a;obtain ⟨_,dx',ta',e2,_⟩:=b;rw [e1] at e2;have e3:=Option.some.inj e2;injection e3 with _ _ e4;exact absurd (congrArg List.length e4) (by show ¬ (7:Nat)=3;decide)
noncomputable def Rc (t:Adr) (H:Hp) (c:Addr) (n:Int) (ds:List WD):Prop:=
 ((ds.map (·.name)).Nodup∧ds.length ≤ 12)∧∃ dx wl nd,H c=some (.ins t.Vb dx (cF n wl nd))∧Yj t H wl ds∧H nd=some (.dK (jB ds ds.length))
theorem Rc.same {t:Adr} {H H':Hp} {c:Addr} {n:Int} {ds:List WD} (h:Rc t H c n ds) (s:Jb H H'):Rc t H' c n ds:=by
 obtain ⟨h0,dx,wl,nd,e1,e2,e3⟩:=h;exact ⟨h0,dx,wl,nd,s _ _ e1,e2.same s,s _ _ e3⟩
theorem Vx {m:Str} (n:Int) (wl nd:Addr) (h:BA.contains m=false):(cF n wl nd).lookup m=none:=um BA (Ru ..) h
section
variable {w:World} {K:PySem.W.Frag} {mg:Str→Option Value} {t:Adr} {H:Hp} {c dx wl nd:Addr} {n:Int}
theorem KF (T:Txt w K mg t) (e:H c=some (.ins t.Vb dx (cF n wl nd))):Bj K H c (Str.ofString "places") (.int n):=⟨_,dx,_,e,T.Sb,T.Mh,pe BA 0 (Ru ..) (by decide +kernel) rfl⟩
theorem KH (T:Txt w K mg t) (e:H c=some (.ins t.Vb dx (cF n wl nd))):Bj K H c (Str.ofString "ways") (.ref wl):=⟨_,dx,_,e,T.Sb,T.xj,pe BA 1 (Ru ..) (by decide +kernel) rfl⟩
theorem Vp (T:Txt w K mg t) (e:H c=some (.ins t.Vb dx (cF n wl nd))):Bj K H c (Str.ofString "numbers") (.ref nd):=⟨_,dx,_,e,T.Sb,T.Ch,pe BA 2 (Ru ..) (by decide +kernel) rfl⟩
end
noncomputable def MG (t:Adr):Sp:=fun vs H Q _=>∃ c dx n wl ds,vs=[.ref c,.int n,.ref wl]∧H c=some (.ins t.Vb dx [])∧Yj t H wl ds∧(ds.map (·.name)).Nodup∧ds.length ≤ 12∧NoT H ∧
 ∀ H',Yc c H H'→NoT H'→Rc t H' c n ds→Q .non H'
noncomputable def VL (t:Adr):Sp:=fun vs H Q _=>∃ n ds,vs=[.str (Iw n ds)]∧COk n ds∧NoT H∧∀ c H',Jb H H'→NoT H'→Rc t H' c n ds→Q (.ref c) H'
noncomputable def Lm (t:Adr):Sp:=fun vs H Q _=>∃ c n ds,vs=[.ref c]∧Rc t H c n ds∧∀ p,H p=none→Q (.ref p) (upd H p (.lst (Kb (ds.map (·.name)))))
noncomputable def bx (t:Adr):Sp:=fun vs H Q _=>∃ c n ds,∃ i:Nat,∃ d,vs=[.ref c,.str d.name]∧Rc t H c n ds∧ds[i]? = some d∧Q (.int (i:Nat)) H
noncomputable def oh (t:Adr):Sp:=fun vs H Q _=>∃ c n ds,∃ i:Nat,∃ d,vs=[.ref c,.str d.name]∧Rc t H c n ds∧ds[i]? = some d∧∀ a,Pe t H a d→Q (.ref a) H
section
variable {P:Program} {w:World} {K:PySem.W.Frag} {mg:Str→Option Value} {base:Heap} {t:Adr}
theorem JL (T:Txt w K mg t):Pb P w K mg base CX0 1 t.Ce t.Vf q51 (MG t):=by
 refine T.fk.ok We (fun vs H Q E h=>?_) (fun _ _ _ s H vs Q E hr h=>?_)
 ·obtain ⟨c,dx,n,wl,ds,rfl,_⟩:=h;rfl
 obtain ⟨c,dx,n,wl,ds,rfl,hc,hW,hnd,hdl,nt,q⟩:=h;have hu:=Zw hr;refine ⟨_,(db (Zf (pv 0) (pv 1) rfl)
   (db (Zf (pv 0) (pv 2) rfl)
   (db (Zf (pv 0) qm rfl)
   (qb (Bd PassesOwn.never rfl (Gn rfl T.ig (ab (pv 2) fb)) (Ve (K:=K) (n:=2) rfl rfl (Nb (yb (i:=3) We.nd rfl (Or.inl rfl) (.inl rfl)) (Nb (yb (i:=4) We.nd rfl (Or.inl rfl) (.inl rfl)) Ue))) (qb (Ar hu (Ic (pv 0) rfl) (Ic (pv 4) rfl) (pv 3) rfl))))))),?_⟩
 walk_at "RD";refine ⟨_,_,_,hc,T.Sb,T.Mh,by decide,?_⟩;refine ⟨_,_,_,cb,T.Sb,T.xj,gn (n:=999) (by decide),fun nd hn=>?_⟩;simp only [Oq] at hn ⊢;rw [show Hi (Str.ofString "places") (V.int n) ([]:List (Str × V))=[(Str.ofString "places",V.int n)] from rfl,show Hi (Str.ofString "ways") (V.ref wl) [(Str.ofString "places",V.int n)]=[(Str.ofString "places",V.int n),(Str.ofString "ways",V.ref wl)] from Ld [Str.ofString "places"] rfl (by decide +kernel)] at hn ⊢;have hnc:c ≠ nd:=fun z=>by subst z;rw [cb] at hn;cases hn
 refine ⟨t.Vb,dx,[(Str.ofString "places",V.int n),(Str.ofString "ways",V.ref wl)],by rw [ub hnc];exact cb,T.Sb,T.Ch,show (2:Nat) < 1000 by decide,?_⟩;rw [show Hi (Str.ofString "numbers") (V.ref nd) [(Str.ofString "places",V.int n),(Str.ofString "ways",V.ref wl)]=cF n wl nd from Ld [Str.ofString "places",Str.ofString "ways"] rfl (by decide +kernel)];obtain ⟨as,w1,w2,al⟩:=hW;have hHn:H nd=none:=by rw [ub (Ne.symm hnc)] at hn;exact hn
 have sx:Yc c H (upd (upd (upd H c (.ins t.Vb dx [(Str.ofString "places",V.int n),(Str.ofString "ways",V.ref wl)])) nd (.dK [])) c (.ins t.Vb dx (cF n wl nd))):=fun b u hb e=>by
  rw [ub hb,ub (wb e hHn),ub hb];exact e
 have hwc:wl ≠ c:=ue w1 hc (by intro z;cases z);refine ⟨⟨_,SqL.of (sx _ _ hwc w1)⟩,?_⟩;refine Eh.enum (xs:=as.map V.ref) (fun i σ H'=>(∃ x y,σ=[some (V.ref c),some (V.int n),some (V.ref wl),x,y])∧H' c=some (.ins t.Vb dx (cF n wl nd))∧H' nd=some (.dK (jB ds i))∧Yc c H H'∧NoT H') ?_ ?_ ?_ ?_
 ·exact ⟨⟨_,_,rfl⟩,cb,by rw [ub (Ne.symm hnc),cb];rfl,sx,((nt.upd).upd).upd⟩
 ·rintro i σ H' hi zzq;refine zP fun zzM zzh=>?_
  obtain ⟨_,_,_,sx',_⟩:=zzq;subst zzh;exact SqL.of (sx' _ _ hwc w1)
 ·rintro i v σ H' p hv ⟨⟨x,y,rfl⟩,h1,h2,sx',nt'⟩ hp;obtain ⟨a,ha,rfl⟩:=ic hv;obtain ⟨hi,_⟩:=List.getElem?_eq_some_iff.mp ha;have hid:i < ds.length:=by omega
  have hd:ds[i]? = some ds[i]:=List.getElem?_eq_getElem hid;have Wa:Pe t H a ds[i]:=al i a _ ha hd;have hac:a ≠ c:=by
   obtain ⟨_,dx',e⟩:=Wa;intro z;subst z;rw [hc] at e;have e2:=Option.some.inj e;injection e2 with _ _ e3;exact absurd (congrArg List.length e3) (by show ¬ (0:Nat)=7;decide)
  have Wa':Pe t H' a ds[i]:=⟨Wa.1,Wa.2.imp fun dx' e=>sx' _ _ hac e⟩;have sp:Jb H' (upd H' p (.tup [.int i,.ref a])):=lb hp;refine Ei ?_;walk_at "RD";refine ⟨_,Vp T (sp _ _ h1),_,(Wa'.same sp).f_name T,_,rfl,_,mB.k (k:=Sum.inr ds[i].name) (sp _ _ h2) (Nat.lt_of_le_of_lt (show (jB ds i).length ≤ 12 by unfold jB;rw [List.length_map,List.length_range];omega) (by decide)),?_⟩;rw [← Cv hd,JG hnd hid];refine ⟨⟨_,rfl⟩,?_,cb,fun b u hb e=>?_,(nt'.upd).upd⟩
  ·rw [ub hnc];exact sp _ _ h1
  ·rw [ub (wb e hHn)];exact sp _ _ (sx' b u hb e)
 ·rintro σ H' zzq;refine zP fun zzM zzh=>?_
  obtain ⟨⟨x,y,rfl⟩,h1,h2,sx',nt'⟩:=zzq;subst zzh;walk_at "RD";rw [List.length_map,w2] at h2;refine q H' sx' nt' ⟨⟨hnd,hdl⟩,dx,wl,nd,h1,⟨as,sx' _ _ hwc w1,w2,fun i a d h3 h4=>?_⟩,h2⟩;have Wa:=al i a d h3 h4;have hac:a ≠ c:=by
   obtain ⟨_,dx',e⟩:=Wa;intro z;subst z;rw [hc] at e;have e2:=Option.some.inj e;injection e2 with _ _ e3;exact absurd (congrArg List.length e3) (by show ¬ (0:Nat)=7;decide)
  exact ⟨Wa.1,Wa.2.imp fun dx' e=>sx' _ _ hac e⟩
theorem FB (T:Txt w K mg t):Pb P w K mg base CX0 1 t.Xd t.Re q8 (bx t):=by
 refine T.ki.ok Sm (fun vs H Q E h=>?_) (fun _ _ _ s H vs Q E hr h=>?_)
 ·obtain ⟨c,n,ds,i,d,rfl,_⟩:=h;rfl
 obtain ⟨c,n,ds,i,d,rfl,⟨⟨hnd,hdl⟩,dx,wl,nd,e1,e2,e3⟩,hd,q⟩:=h;have hu:=Zw hr;have hv:qv (jB ds ds.length) (Sum.inr d.name)=some (.int i):=by
  rw [← Cv hd];exact rG hnd (List.getElem?_eq_some_iff.mp hd).1 (Nat.le_refl _)
 have hg:Oo H nd (.str d.name) (some (.int i)):=by rw [← hv];exact Oo.k (k:=Sum.inr d.name) e3
 refine ⟨_,(db (Be (cM (zD hu (pv 1) (Ic (pv 0) rfl))) (qb Dg) vc)
   (qb (Gb (ik hu (Ic (pv 0) rfl) (pv 1) (fun _ _=>rfl))))),?_⟩
 walk_at "RD";refine Dc false (fun Q hQ=>?_) (fun hc=>nomatch hc) (fun _=>?_)
 ·walk_at "RD";refine ⟨_,Vp T e1,_,rfl,_,hg,?_⟩;exact hQ
 ·walk_at "RD";exact ⟨_,Vp T e1,_,rfl,_,hg,q⟩
theorem Li (T:Txt w K mg t):Pb P w K mg base CX0 2 t.nc t.zc q8 (oh t):=by
 have g42:Pb P w K mg base CX0 1 t.Xd t.Re q8 (bx t):=FB T;refine T.mi.ok Rm (fun vs H Q E h=>?_) (fun _ _ _ s H vs Q E hr h=>?_)
 ·obtain ⟨c,n,ds,i,d,rfl,_⟩:=h;rfl
 obtain ⟨c,n,ds,i,d,rfl,C,hd,q⟩:=h;obtain ⟨⟨hnd,hdl⟩,dx,wl,nd,e1,⟨as,w1,w2,al⟩,e3⟩:=id C;refine ⟨_,(qb (Gb (kc Zb (Ic (pv 0) rfl) (bd (pv 0) T.Sb T.mn g42 hr T.Sn .nil Db (ab (pv 1) fb)) (fun _ _=>rfl)))),?_⟩;walk_at "RD";refine ⟨_,KH T e1,_,_,e1,Vx _ _ _ (by decide +kernel),⟨c,n,ds,i,d,rfl,C,hd,?_⟩⟩;have hi:i < as.length:=by rw [w2];exact (List.getElem?_eq_some_iff.mp hd).1
 have ha:as[i]? = some as[i]:=List.getElem?_eq_getElem hi;walk_at "RD";refine ⟨_,SqL.of w1,_,Ac (show (as.map V.ref)[i]? = some (V.ref as[i]) by rw [List.getElem?_map,ha];rfl),?_⟩;exact q as[i] (al i _ d ha hd)
theorem XM (T:Txt w K mg t):Pb P w K mg base CX0 7 t.Qf t.Ff ["text"] (VL t):=by
 have g18:Pb P w K mg base CX0 6 t.Xj t.Pj ["text"] (rn t):=(et T).mono (by decide);have g43:Pb P w K mg base CX0 6 t.Mi t.Si ["reader"] (CB t):=(xJ T).mono (by decide);have g44:Pb P w K mg base CX0 6 t.Dk t.Ek q38 (mH t):=dL T;have g45:Pb P w K mg base CX0 5 t.Ce t.Vf q51 (MG t):=(JL T).mono (by decide);refine T.Bh.ok me (fun vs H Q E h=>?_) (fun _ _ _ s H vs Q E hr h=>?_)
 ·obtain ⟨n,ds,rfl,_⟩:=h;rfl
 obtain ⟨n,ds,rfl,hC,nt,qq⟩:=h;refine ⟨_,(db (Cb (i:=1) me.nd rfl (Or.inl rfl) (xb g18 hr rfl T.Wv T.Km.kp T.gx .nil Db (ab (pv 0) fb)))
   (db (Cb (i:=2) me.nd rfl (Or.inl rfl) (xb g43 hr rfl T.ay T.Zl.kp T.Bx .nil Db (ab (kc Zb (pv 1) pb (fun _ _=>rfl)) fb)))
   (db (Cb (i:=3) me.nd rfl (Or.inl rfl) (Td fb))
   (db (Bd PassesOwn.never rfl (zd (Qe Tn (pv 1) (Tf pb) Ug)) (yb (i:=4) me.nd rfl (Or.inl rfl)) (db (Be (Rb Ji (Ib Eb rfl T.Yf Ob (ab (pv 3) fb)) (dg rfl T.Px T.wy) (Xb _)) (qb Dg) vc)
   (qb (Fc (Vi PySem.F.plainAttrs_list PySem.F.slot_list_append PySem.F.type_list_append qe (pv 3) (ab (xb g44 hr rfl T.rA T.On.kp T.pA .nil Db (ab (pv 4) (ab (pv 2) (ab (pv 3) fb)))) fb))))))
   (db (Be (xo (bz (pv 3) (fun _=>rfl))) (qb Dg) vc)
   (qb (Gb (Jn T.aA g45 hr rfl T.dA T.dr .nil Db (ab (pv 2) (ab (pv 3) fb)))))))))),?_⟩
 have hrow:=NA hC;have hlen:=mw hC;have hnn:=hC.nn;have hln:=hC.ln;walk_at "RD";refine ⟨Iw n ds,rfl,by omega,?_,nt,fun p H1 sm1 nt1 R=>?_⟩
 ·rw [hrow];intro r hr;refine ⟨?_,fun x hx=>Nat.le_trans (hC.plain r hr x hx).1 (by decide)⟩;rcases List.mem_cons.mp hr with rfl | hr
  ·show (2:Nat) ≤ 1000;decide
  ·obtain ⟨d,hd,rfl⟩:=List.mem_map.mp hr;show (7:Nat) ≤ 1000;decide
 rw [hrow] at R;obtain ⟨qs,hp,hp0,hql,hqa⟩:=R;have hql':qs.length=ds.length + 1:=by rw [hql];simp [Np]
 obtain ⟨q0,qr,rfl⟩:∃ q0 qr,qs=q0 :: qr:=by
  cases qs with
  | nil=>simp at hql'
  | cons a b=>exact ⟨a,b,rfl⟩
 obtain ⟨R0,hq0⟩:=hqa 0 q0 _ rfl rfl;walk_at "RD";refine ⟨_,SqL.of hp,_,Ac (j:=0) rfl,⟨q0,_,n,rfl,R0,hnn,nt1,fun H2 s2 nt2=>⟨Nat.zero_le _,fun wl hwl=>?_⟩⟩⟩;obtain ⟨C0,dq0,fq0,hins⟩:=R0.ins;have hpq:p ≠ q0:=ue hp hins (by intro z;cases z);have hp2:H2 p=some (.lst ((q0 :: qr).map V.ref)):=s2 _ _ hpq hp;have swl:Jb H2 (upd H2 wl (.lst [])):=lb hwl;have hcut:zo ((q0 :: qr).map V.ref) (some 1) none=qr.map V.ref:=by
  unfold zo;simp [HT.sIx];exact List.take_of_length_le (by rw [List.length_map];exact Nat.le_refl _)
 refine ⟨_,SqL.of (swl _ _ hp2),fun pc hpc=>?_⟩;rw [hcut];have hpw:pc ≠ wl:=fun z=>by subst z;rw [cb] at hpc;cases hpc
 have spc:Jb (upd H2 wl (.lst [])) (upd (upd H2 wl (.lst [])) pc (.lst (qr.map V.ref))):=lb hpc;refine ⟨⟨_,SqL.of cb⟩,?_⟩;have sH2:Jb H H2:=re sm1 s2 hq0;have hqrl:qr.length=ds.length:=by simpa using hql'
 refine Eh.list (xs:=qr.map V.ref) (fun i σ H'=>(∃ x,σ=[some (V.str (Iw n ds)),some (V.ref p),some (V.int n),some (V.ref wl),x])∧NoT H'∧Jb H H'∧H' pc=some (.lst (qr.map V.ref))∧H wl=none∧Yj t H' wl (ds.take i) ∧
  ∀ (j:Nat) (q:Addr) (d:WD),i ≤ j→qr[j]? = some q→ds[j]? = some d→Cf t H' q ((j + 1:Nat):Int) (Hf d) 0∧H q=none) ?_ ?_ ?_ ?_
 ·refine ⟨⟨_,rfl⟩,(nt2.upd).upd,(sH2.trans swl).trans spc,cb,sH2.free hwl,⟨[],spc _ _ cb,rfl,fun j a d h=>by simp at h⟩,fun j q d _ h1 h2=>?_⟩;have hr:(Np n ds)[j + 1]? = some (Hf d):=by
   unfold Np;rw [List.getElem?_cons_succ,List.getElem?_map,h2];rfl
  obtain ⟨Rj,hqj⟩:=hqa (j + 1) q _ (by rw [List.getElem?_cons_succ];exact h1) hr;refine ⟨((Rj.sameX s2 (zG Rj R0 (by omega)) R0.ins).same swl).same spc,hqj⟩
 ·rintro i σ H' hi zzq;refine zP fun zzM zzh=>?_
  obtain ⟨_,_,_,h,_⟩:=zzq;subst zzh;exact SqL.of h
 ·rintro i v σ H' hv zzq;refine zP fun zzM zzh=>?_
  obtain ⟨⟨x,rfl⟩,nt',sm',hpc',hwl0,W,Rs⟩:=zzq;obtain ⟨q,hq,rfl⟩:=ic hv;obtain ⟨hi,_⟩:=List.getElem?_eq_some_iff.mp hq;have hid:i < ds.length:=by omega
  have hd:ds[i]? = some ds[i]:=List.getElem?_eq_getElem hid;obtain ⟨Rq,hqn⟩:=Rs i q _ (Nat.le_refl _) hq hd;have htl:(ds.take i).length=i:=by rw [List.length_take];omega
  obtain ⟨as,w1,w2,al⟩:=id W;subst zzh;walk_at "RD";refine Dc false (fun Q hQ=>?_) (fun hc=>nomatch hc) (fun _=>?_)
  ·walk_at "RD";refine ⟨_,.inl (SqL.of w1),?_⟩;rw [List.length_map,w2,htl];rw [decide_eq_false (by omega)] <;> exact hQ
  ·walk_at "RD";refine ⟨.inl ⟨_,SqL.of w1⟩,?_⟩;refine ⟨q,_,n,wl,ds.take i,ds[i],rfl,Rq,hC.al _ (List.getElem_mem hid),hnn,W,by omega,fun e he z=>?_,nt',fun y H3 s3 nt3 w3 hy3=>?_⟩
   ·obtain ⟨j,hj,rfl⟩:=List.getElem_of_mem he;rw [List.getElem_take] at z;have hj':j < i:=by omega
    have:=az hC.nd (i:=j) (j:=i) (by omega) hid (by rw [Cv (List.getElem?_eq_getElem (by omega)),Cv hd];exact z);omega
   ·walk_at "RD";obtain ⟨Cq,dq,fq,hqi⟩:=Rq.ins;have hwq:wl ≠ q:=ue w1 hqi (by intro z;cases z);have hw3:H3 wl=some (.lst (as.map V.ref)):=s3 _ _ hwq w1;have hsm3:Jb H H3:=re sm' s3 hqn;refine ⟨_,hw3,Nat.lt_of_le_of_lt (show (as.map V.ref).length ≤ 12 by rw [List.length_map];omega) (by decide),?_⟩;have hyw:y ≠ wl:=fun z=>by
     subst z;rw [w1] at hy3;cases hy3
    refine ⟨⟨_,rfl⟩,nt3.upd,fun b u e=>?_,?_,hwl0,⟨as ++ [y],by rw [cb,List.map_append];rfl,?_,fun j a d h1 h2=>?_⟩,fun j q' d hj h1 h2=>?_⟩
    ·rw [ub (wb e hwl0)];exact hsm3 _ _ e
    ·rw [ub hpw];exact s3 _ _ (ue hpc' hqi (by intro z;cases z)) hpc'
    ·rw [List.length_append,w2,htl,List.length_take];show i + 1=_;omega
    ·by_cases hj:j < as.length
     ·rw [List.getElem?_append_left hj] at h1;have h2':(ds.take i)[j]? = some d:=by
       rw [List.getElem?_take_of_lt (by omega)];rw [List.getElem?_take_of_lt (by omega)] at h2;exact h2
      obtain ⟨hk,dx',e⟩:=al j a d h1 h2';have haq:a ≠ q:=Vv ⟨hk,dx',e⟩ Rq;have haw:a ≠ wl:=ue e w1 (by intro z;cases z);exact ⟨hk,dx',by rw [ub haw];exact s3 _ _ haq e⟩
     ·rw [List.getElem?_append_right (by omega)] at h1;have hj0:j - as.length=0:=by
       cases hh:j - as.length with
       | zero=>rfl
       | succ m=>rw [hh] at h1;simp at h1
      rw [hj0] at h1;have e3:y=a:=by simpa using h1
      subst e3;have e4:j=i:=by omega
      subst e4;rw [List.getElem?_take_of_lt (by omega),hd] at h2;cases h2;exact ⟨w3.1,w3.2.imp fun dx' e=>by rw [ub hyw];exact e⟩
    ·obtain ⟨Rj,hqj⟩:=Rs j q' d (by omega) h1 h2;have R3:=Rj.sameX s3 (zG Rj Rq (by omega)) Rq.ins;refine ⟨?_,hqj⟩;obtain ⟨hz,dx',ta,e1,e2⟩:=R3;refine ⟨hz,dx',ta,by rw [ub (ue e1 hw3 (by intro z;cases z))];exact e1,?_⟩;rw [ub (fun z=>by
      subst z;rw [hw3] at e2;have e5:=Option.some.inj e2;injection e5 with e6;cases as with
      | nil=>exact absurd (congrArg List.length e6) (by show ¬ (0:Nat)=7;decide)
      | cons a r=>injection e6 with e7 _;cases e7)]
     exact e2
 ·rintro σ H' zzq;refine zP fun zzM zzh=>?_
  obtain ⟨⟨x,rfl⟩,nt',sm',hpc',hwl0,W,Rs⟩:=zzq;subst zzh;rw [List.length_map,hqrl,List.take_length] at W;obtain ⟨as,w1,w2,al⟩:=id W;walk_at "RD";refine Dc false (fun Q hQ=>?_) (fun hc=>nomatch hc) (fun _=>?_)
  ·walk_at "RD";refine ⟨true,.inl ⟨_,SqL.of w1,?_⟩,hQ⟩;cases as with
   | nil=>simp at w2;omega
   | cons a r=>rfl
  ·walk_at "RD";intro c dx hc hdx hne;have sc:Jb H' (upd (upd H' dx (.own c)) c (.ins t.Vb dx [])):=((Jb.refl H').updN hdx).updN hc;refine ⟨c,dx,n,wl,ds,rfl,cb,W.same sc,hC.nd,hln.2,(nt'.upd).upd,fun H5 s5 nt5 C5=>⟨rfl,?_⟩⟩;exact qq c H5 (re (sm'.trans sc) s5 (sm'.free hc)) nt5 C5
end
section
variable {P:Program} {w:World} {K:PySem.W.Frag} {mg:Str→Option Value} {base:Heap} {t:Adr}
theorem zp (T:Txt w K mg t):Pb P w K mg base CX0 1 t.Tc t.ld ["self"] (Lm t):=by
 refine T.yj.ok ko (fun vs H Q E h=>?_) (fun _ _ _ s H vs Q E hr h=>?_)
 ·obtain ⟨c,n,ds,rfl,_⟩:=h;rfl
 obtain ⟨c,n,ds,rfl,⟨⟨hnd,hdl⟩,dx,wl,nd,e1,⟨as,w1,w2,al⟩,e3⟩,q⟩:=h;refine ⟨_,(qb (Gb (ve rfl (zd (Ic (pv 0) rfl)) (jc (sc:=rb Wg) rfl (by decide +kernel)) (N:=["way"]) (sel:=[none]) (Gc (M:=["self"]) (by decide +kernel)) (Blk.of (fun _ _ _ _=>(yb (i:=0) (Xe (N:=["way"]) (by decide +kernel) rfl) rfl (Or.inl rfl))) (fun _ _ _ _=>⟨_,Qd,by walk_at "B"⟩) (fun _ _ _ _=>⟨_,(Ic (pv 0) rfl),by walk_at "B"⟩))))),?_⟩;walk_at "RD";refine ⟨_,KH T e1,_,rfl,⟨_,SqL.of w1⟩,?_⟩;refine ed.list_zs (xs:=as.map V.ref) (zs:=Kb (ds.map (·.name))) (SqL.of w1) (by rw [List.length_map,w2];exact Nat.le_trans hdl (by decide)) (by rw [ff,List.length_map,List.length_map,w2]) (fun i v z N hv hz' hN=>?_) (fun p hp=>q p hp);obtain ⟨a,ha,rfl⟩:=ic hv;obtain ⟨x,hx,rfl⟩:=ic hz';obtain ⟨d,hd,rfl⟩:=ic hx;walk_at "RD";exact ⟨Sub.name,_,(al i a d ha hd).f_name T,hN⟩
end
end My
namespace My
open PySem L2
noncomputable def Po (n s f p:Int):Bool:=decide (0 < (p - s) % n) && decide ((p - s) % n < (f - s) % n)
noncomputable def QL (n s f s2 f2:Int):Bool:=decide (f=f2) || (if (s2=s∨s2=f)∨(f2=s∨f2=f) then false else (Po n s f s2 != Po n s f f2))
noncomputable abbrev mt (n:Int) (d e:WD):Bool:=QL n d.start d.fin e.start e.fin
noncomputable def UG (t:Adr):Sp:=fun vs H Q _=>∃ a d n p,vs=[.int n,.ref a,.int p]∧Pe t H a d∧0 < n∧Q (.bl (Po n d.start d.fin p)) H
noncomputable def IK (n:Int) (d e:WD):Bool:=if (e.start=d.start∨e.start=d.fin)∨(e.fin=d.start∨e.fin=d.fin) then false else (Po n d.start d.fin e.start != Po n d.start d.fin e.fin)
noncomputable def lD (t:Adr):Sp:=fun vs H Q _=>∃ a b d e n,vs=[.int n,.ref a,.ref b]∧Pe t H a d∧Pe t H b e∧0 < n∧NoT H∧Q (.bl (IK n d e)) H
noncomputable def RE (t:Adr):Sp:=fun vs H Q _=>∃ a b d e n,vs=[.int n,.ref a,.ref b]∧Pe t H a d∧Pe t H b e∧0 < n∧∀ H',Jb H H'→Q (.bl (IK n d e)) H'
noncomputable def aD (t:Adr):Sp:=fun vs H Q _=>∃ c n ds,∃ i j:Nat,∃ d e,vs=[.ref c,.str d.name,.str e.name]∧Rc t H c n ds∧0 < n∧ds[i]? = some d∧ds[j]? = some e∧NoT H∧Q (.bl (mt n d e)) H
section
variable {P:Program} {w:World} {K:PySem.W.Frag} {mg:Str→Option Value} {base:Heap} {t:Adr}
theorem SL (T:Txt w K mg t):Pb P w K mg base CX0 1 t.Fp t.jp q39 (UG t):=by
 refine T.ip.ok Xw (fun vs H Q E h=>?_) (fun _ _ _ s H vs Q E hr h=>?_)
 ·obtain ⟨a,d,n,p,rfl,_⟩:=h;rfl
 obtain ⟨a,d,n,p,rfl,W,hn,q⟩:=h;refine ⟨_,(db (Cb (i:=3) Xw.nd rfl (Or.inl rfl) (Fb Uf (Fb De (pv 2) (Ic (pv 1) rfl)) (pv 0)))
   (qb (Gb (qB (Ef Xo pb (pv 3) (Xb _)) (fw (Ef Xo (pv 3) (Fb Uf (Fb De (Ic (pv 1) rfl) (Ic (pv 1) rfl)) (pv 0)) (Xb _))))))),?_⟩
 walk_at "RD";refine ⟨_,W.f_start T,_,rfl,hn,?_⟩;unfold Po at q;by_cases c:0 < (p - d.start) % n
 ·rw [if_pos (decide_eq_true c)];rw [decide_eq_true c,Bool.true_and] at q;exact ⟨_,W.f_end T,_,W.f_start T,_,rfl,_,rfl,hn,q⟩
 ·rw [if_neg (by simpa using c)];rw [decide_eq_false c,Bool.false_and] at q;exact q
theorem rN (x a b:Int):inV (.int x) [.int a,.int b]=decide (x=a∨x=b):=by
 unfold inV;simp only [List.any_cons,List.any_nil,eqV,Bool.or_false];rw [Bool.eq_iff_iff];simp only [Bool.or_eq_true,beq_iff_eq,decide_eq_true_eq];omega
theorem nJ (T:Txt w K mg t):Pb P w K mg base CX0 2 t.Vh t.Kh q30 (lD t):=by
 refine Pb.forget (sp:=RE t) ?_ fun vs H Q E h=>?_
 ·have g24:Pb P w K mg base CX0 1 t.Fp t.jp q39 (UG t):=SL T;refine T.ak.ok Uu (fun vs H Q E h=>?_) (fun _ _ _ s H vs Q E hr h=>?_)
  ·obtain ⟨a,b,d,e,n,rfl,_⟩:=h;rfl
  obtain ⟨a,b,d,e,n,rfl,Wa,Wb,hn,q⟩:=h;refine ⟨_,(db (Be (PW.pt (Fm (Rb Mq (Ic (pv 2) rfl) (Td (ab (Ic (pv 1) rfl) (ab (Ic (pv 1) rfl) fb))) (by with_unfolding_all rfl)) (Wm (Rb Mq (Ic (pv 2) rfl) (Td (ab (Ic (pv 1) rfl) (ab (Ic (pv 1) rfl) fb))) (by with_unfolding_all rfl))))) (qb (Gb En)) vc)
   (qb (Gb (Ef qw (xb g24 hr rfl T.vz T.ip.kp T.uz .nil Db (ab (pv 0) (ab (pv 1) (ab (Ic (pv 2) rfl) fb)))) (xb g24 hr rfl T.vz T.ip.kp T.uz .nil Db (ab (pv 0) (ab (pv 1) (ab (Ic (pv 2) rfl) fb)))) (Xb _))))),?_⟩
  walk_at "RD";refine Pi (fun b H'=>Jb H H'∧b=decide ((e.start=d.start∨e.start=d.fin)∨(e.fin=d.start∨e.fin=d.fin))) (fun Q hQ=>?_) (fun H' ⟨sm,hb⟩=>?_) (fun H' ⟨sm,hb⟩=>?_)
  ·walk_at "RD";refine ⟨_,Wb.f_start T,_,Wa.f_start T,_,Wa.f_end T,by decide,fun p hp=>⟨_,.inl (SqL.of cb),rfl,rfl,?_⟩⟩;have s1:Jb H (upd H p (.lst [.int d.start,.int d.fin])):=lb hp;rw [rN];by_cases c1:e.start=d.start∨e.start=d.fin
   ·rw [if_pos (decide_eq_true c1)];exact hQ _ _ ⟨s1,(decide_eq_true (.inl c1)).symm⟩
   ·rw [if_neg (by simpa using c1)];refine ⟨_,(Wb.same s1).f_end T,_,(Wa.same s1).f_start T,_,(Wa.same s1).f_end T,by decide,fun p2 hp2=>⟨_,.inl (SqL.of cb),rfl,rfl,?_⟩⟩;rw [rN];refine hQ _ _ ⟨s1.trans (lb hp2),?_⟩;rw [Bool.eq_iff_iff,decide_eq_true_eq,decide_eq_true_eq];exact ⟨.inr,fun z=>z.resolve_left c1⟩
  ·walk_at "RD";have hb':=of_decide_eq_true hb.symm;have:=q H' sm;unfold IK at this;rw [if_pos hb'] at this;exact this
  ·walk_at "RD";have hb':=of_decide_eq_false hb.symm;refine ⟨_,(Wb.same sm).f_start T,⟨a,d,n,_,rfl,Wa.same sm,hn,?_⟩⟩;refine ⟨_,(Wb.same sm).f_end T,⟨a,d,n,_,rfl,Wa.same sm,hn,?_⟩⟩;refine ⟨rfl,?_⟩;have:=q H' sm;unfold IK at this;rw [if_neg hb'] at this;rw [show (!decide (V.bl (Po n d.start d.fin e.start)=V.bl (Po n d.start d.fin e.fin)))=(Po n d.start d.fin e.start != Po n d.start d.fin e.fin) by
    cases Po n d.start d.fin e.start <;> cases Po n d.start d.fin e.fin <;> rfl]
   exact this
 ·obtain ⟨a,b,d,e,n,h1,h2,h3,h4,nt,q⟩:=h;exact ⟨nt,a,b,d,e,n,h1,h2,h3,h4,fun H' sm=>⟨sm,q⟩⟩
theorem TM (n:Int) (d e:WD):mt n d e=(decide (d.fin=e.fin) || IK n d e):=rfl
theorem NI (T:Txt w K mg t):Pb P w K mg base CX0 3 t.xz t.Uz q12 (aD t):=by
 have g9:Pb P w K mg base CX0 2 t.nc t.zc q8 (oh t):=Li T;have g46:Pb P w K mg base CX0 2 t.Vh t.Kh q30 (lD t):=nJ T;refine T.oC.ok px (fun vs H Q E h=>?_) (fun _ _ _ s H vs Q E hr h=>?_)
 ·obtain ⟨c,n,ds,i,j,d,e,rfl,_⟩:=h;rfl
 obtain ⟨c,n,ds,i,j,d,e,rfl,C,hn,hd,he,nt,q⟩:=h;obtain ⟨_,dx,wl,nd,e1,e2,e3⟩:=id C;refine ⟨_,(db (Cb (i:=3) px.nd rfl (Or.inl rfl) (bd (pv 0) T.Sb T.Jc g9 hr T.Lc .nil Db (ab (pv 1) fb)))
   (db (Cb (i:=4) px.nd rfl (Or.inl rfl) (bd (pv 0) T.Sb T.Jc g9 hr T.Lc .nil Db (ab (pv 2) fb)))
   (qb (Gb (cL (Ef Ji (Ic (pv 3) rfl) (Ic (pv 4) rfl) (Xb _)) (fw (xb g46 hr rfl T.Lv T.ak.kp T.xv .nil Db (ab (Ic (pv 0) rfl) (ab (pv 3) (ab (pv 4) fb)))))))))),?_⟩
 rw [TM] at q;walk_at "RD";refine ⟨_,_,e1,Vx _ _ _ (by decide +kernel),⟨c,n,ds,i,d,rfl,C,hd,fun a Wa=>?_⟩⟩;walk_at "RD";refine ⟨_,_,e1,Vx _ _ _ (by decide +kernel),⟨c,n,ds,j,e,rfl,C,he,fun b Wb=>?_⟩⟩;walk_at "RD";refine ⟨_,Wa.f_end T,_,Wb.f_end T,rfl,?_⟩;walk_at "RD";by_cases c1:d.fin=e.fin
 ·rw [if_pos (decide_eq_true c1)];rw [decide_eq_true c1,Bool.true_or] at q;exact q
 ·rw [if_neg (by simpa using c1)];rw [decide_eq_false c1,Bool.false_or] at q;exact ⟨_,KF T e1,⟨a,b,d,e,n,rfl,Wa,Wb,hn,nt,q⟩⟩
end
noncomputable def LG (t:Adr):Sp:=fun vs H Q _=>∃ c n ds,∃ i j:Nat,∃ d e,vs=[.ref c,.str d.name,.str e.name]∧Rc t H c n ds∧ds[i]? = some d∧ds[j]? = some e∧Q (.int (if d.off - e.near > 0 then d.off - e.near else 0)) H
section
variable {P:Program} {w:World} {K:PySem.W.Frag} {mg:Str→Option Value} {base:Heap} {t:Adr}
theorem GL (T:Txt w K mg t):Pb P w K mg base CX0 3 t.fF t.KG q12 (LG t):=by
 have g9:Pb P w K mg base CX0 2 t.nc t.zc q8 (oh t):=Li T;refine T.WI.ok ID (fun vs H Q E h=>?_) (fun _ _ _ s H vs Q E hr h=>?_)
 ·obtain ⟨c,n,ds,i,j,d,e,rfl,_⟩:=h;rfl
 obtain ⟨c,n,ds,i,j,d,e,rfl,C,hd,he,q⟩:=h;obtain ⟨_,dx,wl,nd,e1,e2,e3⟩:=id C;refine ⟨_,(db (Cb (i:=3) ID.nd rfl (Or.inl rfl) (bd (pv 0) T.Sb T.Jc g9 hr T.Lc .nil Db (ab (pv 1) fb)))
   (db (Cb (i:=4) ID.nd rfl (Or.inl rfl) (bd (pv 0) T.Sb T.Jc g9 hr T.Lc .nil Db (ab (pv 2) fb)))
   (qb (Gb (Ib (bD rfl) rfl T.MM fA (ab pb (ab (Fb De (Ic (pv 3) rfl) (Ic (pv 4) rfl)) fb))))))),?_⟩
 walk_at "RD";refine ⟨_,_,e1,Vx _ _ _ (by decide +kernel),⟨c,n,ds,i,d,rfl,C,hd,fun a Wa=>?_⟩⟩;walk_at "RD";refine ⟨_,_,e1,Vx _ _ _ (by decide +kernel),⟨c,n,ds,j,e,rfl,C,he,fun b Wb=>?_⟩⟩;walk_at "RD";refine ⟨_,Wa.f_off T,_,Wb.f_near T,?_⟩;walk_at "RD";exact q
end
end My
namespace My
open PySem L2
structure SD where
 name:Str
 b:Int
 n:Int
noncomputable def sdO (d:SD):HO:=.tup [.str d.name,.int d.b,.int d.n]
noncomputable def prO (p:Int × Int):HO:=.tup [.int p.1,.int p.2]
noncomputable def ofN (x:Str) (sp:List SD):List (Int × Int):=(sp.filter fun d=>decide (d.name=x)).map fun d=>(d.b,d.n)
noncomputable def LQ (H:Hp) (qs:List Addr) (os:List HO):Prop:=qs.length=os.length∧∀ (i:Nat) (q:Addr) (o:HO),qs[i]? = some q→os[i]? = some o→H q=some o
noncomputable def LO (H:Hp) (p:Addr) (os:List HO):Prop:=∃ qs:List Addr,H p=some (.lst (qs.map V.ref))∧LQ H qs os
theorem LQ.same {H H':Hp} {qs:List Addr} {os:List HO} (h:LQ H qs os) (s:Jb H H'):LQ H' qs os:=⟨h.1,fun i q o h1 h2=>s _ _ (h.2 i q o h1 h2)⟩
theorem LO.same {H H':Hp} {p:Addr} {os:List HO} (h:LO H p os) (s:Jb H H'):LO H' p os:=by
 obtain ⟨qs,e,q⟩:=h;exact ⟨qs,s _ _ e,q.same s⟩
theorem LQ.nil (H:Hp):LQ H [] []:=⟨rfl,fun i q o h _=>by simp at h⟩
theorem LQ.app {H:Hp} {qs qs':List Addr} {os os':List HO} (h:LQ H qs os) (h':LQ H qs' os'):LQ H (qs ++ qs') (os ++ os'):=by
 refine ⟨by rw [List.length_append,List.length_append,h.1,h'.1],fun i q r h1 h2=>?_⟩;rw [List.getElem?_append] at h1 h2;rw [h.1] at h1;by_cases c:i < os.length
 ·rw [if_pos c] at h1 h2;exact h.2 i q r h1 h2
 ·rw [if_neg c] at h1 h2;exact h'.2 _ q r h1 h2
theorem LQ.one {H:Hp} {p:Addr} {o:HO} (e:H p=some o):LQ H [p] [o]:=⟨rfl,fun i q r' h1 h2=>by
 match i,h1,h2 with
 | 0,h1,h2=>cases h1;cases h2;exact e
 | i + 1,h1,_=>simp at h1⟩
theorem LQ.at {H:Hp} {qs:List Addr} {os:List HO} (h:LQ H qs os) {i:Nat} {q:Addr} (hq:qs[i]? = some q):∃ o,os[i]? = some o∧H q=some o:=by
 have hi:i < os.length:=by rw [← h.1];exact (List.getElem?_eq_some_iff.mp hq).1
 exact ⟨_,List.getElem?_eq_getElem hi,h.2 i q _ hq (List.getElem?_eq_getElem hi)⟩
theorem MF (x:Str) (sp:List SD) (d:SD):ofN x (sp ++ [d])=ofN x sp ++ if d.name=x then [(d.b,d.n)] else []:=by
 unfold ofN;rw [List.filter_append,List.map_append];congr 1;by_cases c:d.name=x
 ·rw [if_pos c,List.filter_cons_of_pos (by simpa using c)];rfl
 ·rw [if_neg c,List.filter_cons_of_neg (by simpa using c)];rfl
theorem qD (x:Str) (sp:List SD):(ofN x sp).length ≤ sp.length:=by
 unfold ofN;rw [List.length_map];exact List.length_filter_le _ _
theorem df {α:Type} {xs:List α} {i:Nat} {x:α} (h:xs[i]? = some x):xs.take (i + 1)=xs.take i ++ [x]:=by
 rw [List.take_add_one,h];rfl
noncomputable def RG {α:Type} (z:Int) (v:α) (l:List α) (i:Int):List α:=l.set (i % z).toNat v
noncomputable def Uy {α:Type} (z:Int) (v:α) (b:Int):Nat→List α→List α
 | 0,l=>l
 | k + 1,l=>RG z v (Uy z v b k l) (b + k)
noncomputable def Vu {α:Type} (z:Int) (v:α) (b:Int):Nat→List α→List α
 | 0,l=>l
 | k + 1,l=>RG z v (Vu z v b k l) (b - 1 - k)
theorem Jy {α:Type} (z:Int) (v:α) (l:List α) (i:Int):(RG z v l i).length=l.length:=by unfold RG;rw [List.length_set]
theorem Xf {α:Type} (z:Int) (v:α) (b:Int) (k:Nat) (l:List α):(Uy z v b k l).length=l.length:=by
 induction k with
 | zero=>rfl
 | succ k ih=>unfold Uy;rw [Jy,ih]
theorem Mg {α:Type} (z:Int) (v:α) (b:Int) (k:Nat) (l:List α):(Vu z v b k l).length=l.length:=by
 induction k with
 | zero=>rfl
 | succ k ih=>unfold Vu;rw [Jy,ih]
noncomputable def fmF (z:Nat) (ps:List (Int × Int)):List Bool:=ps.foldl (fun l p=>Uy z true p.1 p.2.toNat l) (List.replicate z false)
noncomputable def Yr (z rd fd:Nat) (l:List Str) (p:Int × Int):List Str:=Uy z (Str.ofString "fade") (p.1 + p.2) fd (Uy z (Str.ofString "free") p.1 p.2.toNat (Vu z (Str.ofString "ready") p.1 rd l))
noncomputable def ei (z rd fd:Nat) (ps:List (Int × Int)):List Str:=ps.foldl (Yr z rd fd) (List.replicate z (Str.ofString "stop"))
theorem DI {z:Nat} {ps:List (Int × Int)} {i:Nat} {p:Int × Int} (h:ps[i]? = some p):fmF z (ps.take (i + 1))=Uy z true p.1 p.2.toNat (fmF z (ps.take i)):=by
 unfold fmF;rw [df h,List.foldl_append];rfl
theorem cC {z rd fd:Nat} {ps:List (Int × Int)} {i:Nat} {p:Int × Int} (h:ps[i]? = some p):ei z rd fd (ps.take (i + 1))=Yr z rd fd (ei z rd fd (ps.take i)) p:=by
 unfold ei;rw [df h,List.foldl_append];rfl
theorem Ql (z:Nat) (ps:List (Int × Int)):(fmF z ps).length=z:=by
 unfold fmF
 suffices h:∀ l:List Bool,l.length=z→(ps.foldl (fun l p=>Uy z true p.1 p.2.toNat l) l).length=z from h _ (List.length_replicate ..)
 induction ps with
 | nil=>exact fun l h=>h
 | cons p ps ih=>exact fun l h=>ih _ (by rw [Xf];exact h)
theorem zh (z rd fd:Nat) (ps:List (Int × Int)):(ei z rd fd ps).length=z:=by
 unfold ei
 suffices h:∀ l:List Str,l.length=z→(ps.foldl (Yr z rd fd) l).length=z from h _ (List.length_replicate ..)
 induction ps with
 | nil=>exact fun l h=>h
 | cons p ps ih=>exact fun l h=>ih _ (by unfold Yr;rw [Xf,Xf,Mg];exact h)
noncomputable def JI (z:Int) (sp:List SD):Prop:=sp.length ≤ 100∧∀ d ∈ sp,0 ≤ d.b∧d.b < 1000∧0 ≤ d.n∧d.n < 1000
theorem zy {x:Str} {sp:List SD} {p:Int × Int} (h:p ∈ ofN x sp):∃ d ∈ sp,d.name=x∧p=(d.b,d.n):=by
 unfold ofN at h;obtain ⟨d,hd,rfl⟩:=List.mem_map.mp h;have:=List.mem_filter.mp hd;exact ⟨d,this.1,by simpa using this.2,rfl⟩
theorem DH {m:Nat} (h:0 < m) (i:Int):ixN m (i % (m:Int))=some (i % (m:Int)).toNat:=by
 have h1:=Int.emod_nonneg i (show (m:Int) ≠ 0 by omega);have h2:=Int.emod_lt_of_pos i (show 0 < (m:Int) by omega);unfold ixN;rw [if_pos h1,if_pos h2]
theorem Tz {α β:Type} (f:α→β) {l:List α} {z:Nat} (h:l.length=z) (hz:0 < z) (i:Int):ixN (l.map f).length (i % (z:Int))=some (i % (z:Int)).toNat:=by
 rw [List.length_map,h];exact DH hz i
theorem Vq (d:WD):0 ≤ Ec d∧Ec d ≤ 2:=by
 unfold Ec;split <;> omega
theorem Xt {d:WD} (h:0 ≤ d.off∧d.off ≤ 1000):0 ≤ Wd d∧Wd d ≤ 1000:=by
 unfold Wd;split <;> omega
theorem tM {d:WD} {m:Str} (h:Js.contains m=false):(No d).lookup m=none:=um Js (Et _) h
noncomputable def Hc (l:List Bool):List V:=l.map V.bl
theorem vp {α β:Type} (f:α→β) (z:Int) (v:α) (l:List α) (i:Int):(l.map f).set (i % z).toNat (f v)=(RG z v l i).map f:=by
 unfold RG;rw [List.map_set]
noncomputable def Mn:Sp:=fun vs H Q _=>∃ p x sp,vs=[.ref p,.str x]∧LO H p (List.map sdO sp)∧sp.length ≤ 100∧∀ r H',Jb H H'→(NoT H→NoT H')→LO H' r ((ofN x sp).map prO)→Q (.ref r) H'
noncomputable def kI:Sp:=fun vs H Q _=>∃ (z:Nat) (p:Addr) (x:Str) (sp:List SD),vs=[.int z,.ref p,.str x]∧(0 < z∧z ≤ 1000)∧LO H p (List.map sdO sp)∧JI z sp∧∀ r H',Jb H H'→(NoT H→NoT H')→H r=none→H' r=some (.lst (Hc (fmF z (ofN x sp))))→Q (.ref r) H'
noncomputable def EB (t:Adr):Sp:=fun vs H Q _=>∃ (a:Addr) (d:WD) (z:Nat) (p:Addr) (sp:List SD),vs=[.ref a,.int z,.ref p]∧(0 < z∧z ≤ 1000)∧Pe t H a d∧LO H p (List.map sdO sp)∧JI z sp∧(0 ≤ d.off∧d.off ≤ 1000)∧∀ r H',Jb H H'→(NoT H→NoT H')→H r=none→H' r=some (.lst (Kb (ei z (Ec d).toNat (Wd d).toNat (ofN d.name sp))))→Q (.ref r) H'
noncomputable def Sf (m:List Bool):Nat→Int
 | 0=>0
 | k + 1=>if m[(2 * m.length - 1 - k) % m.length]? = some true then 0 else Sf m k + 1
noncomputable def Im (m:List Bool):List Int:=(List.range m.length).map fun t=>Sf m (2 * m.length - t)
noncomputable def Zs (m:List Bool) (k:Nat):List Int:=(List.range k).map fun j=>Sf m (m.length + j + 1)
theorem fB (m:List Bool):(Zs m m.length).reverse=Im m:=by
 unfold Zs Im;refine List.ext_getElem (by simp) (fun i h1 h2=>?_);simp at h1;simp;congr 1;omega
noncomputable def tt (m:List Bool):List Int:=(Im m.reverse).reverse
noncomputable def mv:Sp:=fun vs H Q _=>∃ (p:Addr) (m:List Bool),vs=[.ref p]∧H p=some (.lst (Hc m))∧(0 < m.length∧m.length ≤ 1000)∧∀ r H',Jb H H'→(NoT H→NoT H')→H r=none→H' r=some (.lst ((Im m).map V.int))→Q (.ref r) H'
noncomputable def qz:Sp:=fun vs H Q _=>∃ (p:Addr) (m:List Bool),vs=[.ref p]∧H p=some (.lst (Hc m))∧(0 < m.length∧m.length ≤ 1000)∧∀ r H',Jb H H'→(NoT H→NoT H')→H r=none→H' r=some (.lst ((tt m).map V.int))→Q (.ref r) H'
section
variable {P:Program} {w:World} {K:PySem.W.Frag} {mg:Str→Option Value} {base:Heap} {t:Adr}
theorem Lp (T:Txt w K mg t):Pb P w K mg base CX0 1 t.vf t.uf q10 Mn:=by
 refine T.gg.ok xy (fun vs H Q E h=>?_) (fun _ _ _ s H vs Q E hr h=>?_)
 ·obtain ⟨p,x,sp,rfl,_⟩:=h;rfl
 obtain ⟨p,x,sp,rfl,⟨qs,l1,lq⟩,hl,q⟩:=h;refine ⟨_,(qb (Gb (ve rfl (zd (pv 0)) (jc (sc:=rb wn) rfl (by decide +kernel)) (N:=q53) (sel:=[none,none,none,some 1]) (Gc (M:=q10) (by decide +kernel)) (Blk.of (fun _ _ _ _=>(Ve (K:=K) (n:=3) rfl rfl (Nb (yb (i:=0) (Xe (N:=q53) (by decide +kernel) rfl) rfl (Or.inl rfl) (.inr rfl)) (Nb (yb (i:=1) (Xe (N:=q53) (by decide +kernel) rfl) rfl (Or.inl rfl) (.inr rfl)) (Nb (yb (i:=2) (Xe (N:=q53) (by decide +kernel) rfl) rfl (Or.inl rfl) (.inr rfl)) Ue))))) (fun _ _ _ _=>⟨_,(lv (Rb Ji (pv 0) (pv 3) (Xb _))),by walk_at "B"⟩) (fun _ _ _ _=>⟨_,(Yg (ab (pv 1) (ab (pv 2) fb))),by walk_at "B"⟩))))),?_⟩;walk_at "RD";have hql:qs.length=sp.length:=by rw [lq.1,List.length_map]
 refine ⟨⟨_,SqL.of l1⟩,?_⟩;refine ed.list (xs:=qs.map V.ref) (fun i ys H'=>∃ os:List Addr,ys=os.map V.ref∧LQ H' os ((ofN x (sp.take i)).map prO)∧Jb H H'∧(NoT H→NoT H')) (Nat.le_trans (show (qs.map V.ref).length ≤ 100 by rw [List.length_map];omega) (by decide)) ⟨[],rfl,LQ.nil _,Jb.refl _,id⟩ ?_ ?_ ?_
 ·rintro i ys H' hi zzq;refine zP fun zzM zzh=>?_
  obtain ⟨os,rfl,r,sm,_⟩:=zzq;subst zzh;refine ⟨(SqL.of l1).same sm,?_⟩;rw [List.length_map,r.1,List.length_map];exact Nat.le_trans (qD _ _) (by rw [List.length_take];omega)
 ·rintro i v ys H' hv ⟨os,rfl,r,sm,nt⟩ N hN;obtain ⟨qi,hqi,rfl⟩:=ic hv;obtain ⟨o,ho,e⟩:=lq.at hqi;obtain ⟨d,hd,rfl⟩:=ic ho;have e':=sm _ _ e;walk_at "RD";refine ⟨_,SqT.of e',rfl,_,_,rfl,_,_,rfl,_,_,rfl,rfl,Sub.name3,rfl,?_⟩;dsimp only at hN;rw [df hd,MF,List.map_append] at hN;by_cases c:d.name=x
  ·rw [if_pos c] at hN;rw [if_pos (by rw [c];exact decide_eq_true rfl)];refine ⟨by decide,fun p1 hp1=>hN _ _ ⟨os ++ [p1],by rw [List.map_append];rfl,(r.same (lb hp1)).app (LQ.one cb),sm.trans (lb hp1),fun n=>(nt n).upd⟩⟩
  ·rw [if_neg c] at hN;rw [if_neg (by rw [decide_eq_true_eq];intro z;exact c (V.str.inj z))];exact hN _ _ ⟨os,rfl,by rw [List.map_nil,List.append_nil];exact r,sm,nt⟩
 ·rintro ys H' ⟨os,rfl,r,sm,nt⟩ p1 hp1;rw [List.take_of_length_le (by rw [List.length_map];omega)] at r;exact q _ _ (sm.trans (lb hp1)) (fun n=>(nt n).upd) ⟨os,cb,r.same (lb hp1)⟩
theorem qK (T:Txt w K mg t):Pb P w K mg base CX0 2 t.Lg t.Ng q31 kI:=by
 have g10:Pb P w K mg base CX0 1 t.vf t.uf q10 Mn:=Lp T;refine T.Fh.ok Lf (fun vs H Q E h=>?_) (fun _ _ _ s H vs Q E hr h=>?_)
 ·obtain ⟨z,p,x,sp,rfl,_⟩:=h;rfl
 obtain ⟨z,p,x,sp,rfl,hz,L,hs,q⟩:=h;refine ⟨_,(db (bg (i:=3) Lf.nd rfl (Or.inl rfl) rfl (uc rfl T.Zc (ab (pv 0) fb)) (jc (sc:=rb gk) rfl (by decide +kernel)) (N:=["turn"]) (sel:=[none]) (Gc (M:=["size","spans","name","marks","begin","turns","step"]) (by decide +kernel)) (Blk.of (fun _ _ _ _=>(yb (i:=0) (Xe (N:=["turn"]) (by decide +kernel) rfl) rfl (Or.inl rfl))) (fun _ _ _ _=>⟨_,Qd,by walk_at "B"⟩) (fun _ _ _ _=>⟨_,En,by walk_at "B"⟩)) rfl)
   (db (Bd PassesOwn.never rfl (zd (xb g10 hr rfl T.Ii T.gg.kp T.yi .nil Db (ab (pv 1) (ab (pv 2) fb)))) (Ve (K:=K) (n:=2) rfl rfl (Nb (yb (i:=4) Lf.nd rfl (Or.inl rfl) (.inl rfl)) (Nb (yb (i:=5) Lf.nd rfl (Or.inl rfl) (.inl rfl)) Ue))) (qb (Bd PassesOwn.never rfl (uc rfl T.Zc (ab (pv 5) fb)) (yb (i:=6) Lf.nd rfl (Or.inl rfl)) (qb (Vj En (Pq (pv 3) (Fb Uf (Fb fc (pv 4) (pv 6)) (pv 0)) Wi))))))
   (qb (Gb (pv 3))))),?_⟩
 walk_at "RD";obtain ⟨hz0,hz1⟩:=hz;obtain ⟨hs1,hs2⟩:=hs;refine ⟨by omega,by omega,?_⟩;refine ed.range_map (fun _=>V.bl false) (Nat.le_trans (show (z:Int).toNat ≤ 1000 by omega) (by decide)) (fun i N hi hN=>?_) (fun mk hmk=>?_)
 ·walk_at "RD";exact ⟨Sub.name,hN⟩
 rw [show (List.range (z:Int).toNat).map (fun _=>V.bl false)=Hc (fmF z []) by
  unfold Hc fmF;rw [List.foldl_nil,List.map_replicate];exact List.ext_getElem (by simp) (by simp)]
 refine ⟨p,x,sp,rfl,L.same (lb hmk),hs1,fun r H1 s1 nt1 L1=>⟨r,rfl,?_⟩⟩;obtain ⟨qs,l1,lq⟩:=L1;refine ⟨⟨_,SqL.of l1⟩,?_⟩;have hmk1:H1 mk=some (.lst (Hc (fmF z []))):=s1 _ _ cb;have hrm:r ≠ mk:=fun e=>by
  subst e;rw [l1] at hmk1;injection hmk1 with e1;injection e1 with e2;have e3:=congrArg List.length e2;cases qs with
  | nil=>simp [Hc,Ql] at e3;omega
  | cons a qs=>
   have:(Hc (fmF z []))[0]? = some (V.ref a):=by rw [← e2];rfl
   unfold Hc at this;rw [List.getElem?_map] at this;cases hh:(fmF z [])[0]? with
   | none=>rw [hh] at this;cases this
   | some b=>rw [hh] at this;cases this
 refine Eh.list (xs:=qs.map V.ref) (fun i σ H'=>(∃ a b c,σ=[some (V.int z),some (V.ref p),some (V.str x),some (V.ref mk),a,b,c])∧Yc mk H1 H'∧(NoT H→NoT H')∧H' mk=some (.lst (Hc (fmF z ((ofN x sp).take i))))) ?_ ?_ ?_ ?_
 ·exact ⟨⟨_,_,_,rfl⟩,fun b u _ e=>e,fun n=>nt1 n.upd,hmk1⟩
 ·rintro i σ H' hi zzq;refine zP fun zzM zzh=>?_
  obtain ⟨_,sx,_,_⟩:=zzq;subst zzh;exact SqL.of (sx _ _ hrm l1)
 ·rintro i v σ H' hv zzq;refine zP fun zzM zzh=>?_
  obtain ⟨⟨a,b,c,rfl⟩,sx,nt',hm⟩:=zzq;obtain ⟨qi,hqi,rfl⟩:=ic hv;obtain ⟨o,ho,e⟩:=lq.at hqi;obtain ⟨d,hd,rfl⟩:=ic ho;obtain ⟨sd,hsd,hsn,rfl⟩:=zy (List.mem_of_getElem? hd);have hb:=hs2 sd hsd;have e':=sx _ _ (ue e hmk1 (by intro z;cases z)) e;subst zzh;walk_at "RD";refine ⟨_,SqT.of e',rfl,_,_,rfl,_,_,rfl,rfl,_,rfl,(by dsimp only;omega),(by dsimp only;omega),?_⟩;rw [DI hd];refine Eh.range (fun k σ H'=>(∃ c,σ=[some (V.int z),some (V.ref p),some (V.str x),some (V.ref mk),some (V.int sd.b),some (V.int sd.n),c])∧Yc mk H1 H'∧(NoT H→NoT H')∧H' mk=some (.lst (Hc (Uy z true sd.b k (fmF z ((ofN x sp).take i)))))) ?_ ?_ ?_
  ·exact ⟨⟨_,rfl⟩,sx,nt',hm⟩
  ·rintro k σ H2 hk zzq;refine zP fun zzM zzh=>?_
   obtain ⟨⟨c,rfl⟩,sx2,nt2,hm2⟩:=zzq;subst zzh;walk_at "RD";refine ⟨by omega,_,hm2,_,Tz V.bl (by rw [Xf,Ql]) hz0 _,⟨_,rfl⟩,fun b u hb e=>by rw [ub hb];exact sx2 _ _ hb e,fun n=>(nt2 n).upd,?_⟩;rw [cb];unfold Hc;rw [vp V.bl];rfl
  ·rintro σ H2 zzq;refine zP fun zzM zzh=>?_
   obtain ⟨⟨c,rfl⟩,sx2,nt2,hm2⟩:=zzq;subst zzh;exact ⟨⟨_,_,_,rfl⟩,sx2,nt2,hm2⟩
 ·rintro σ H' zzq;refine zP fun zzM zzh=>?_
  obtain ⟨⟨a,b,c,rfl⟩,sx,nt',hm⟩:=zzq;subst zzh;walk_at "RD";rw [List.take_of_length_le (by rw [List.length_map,lq.1,List.length_map];exact Nat.le_refl _)] at hm;exact q _ _ (re ((lb hmk).trans s1) sx hmk) nt' hmk hm
theorem jJ (T:Txt w K mg t):Pb P w K mg base CX0 2 t.Ky t.zz q40 (EB t):=by
 have g10:Pb P w K mg base CX0 1 t.vf t.uf q10 Mn:=Lp T;have V_Way_ready:eG P w K mg base CX0 1 (isW t) "ready" ["self"] (xi t):=ZB T;have V_Way_fade:eG P w K mg base CX0 1 (isW t) "fade" ["self"] (xk t):=fH T;refine T.cE.ok cm (fun vs H Q E h=>?_) (fun _ _ _ s H vs Q E hr h=>?_)
 ·obtain ⟨a,d,z,p,sp,rfl,_⟩:=h;rfl
 obtain ⟨a,d,z,p,sp,rfl,⟨hz0,hz1⟩,W,L,⟨hs1,hs2⟩,hoff,q⟩:=h;refine ⟨_,(db (bg (i:=3) cm.nd rfl (Or.inl rfl) rfl (uc rfl T.Zc (ab (pv 1) fb)) (jc (sc:=rb UC) rfl (by decide +kernel)) (N:=["turn"]) (sel:=[none]) (Gc (M:=["way","size","spans","shown","begin","turns","step"]) (by decide +kernel)) (Blk.of (fun _ _ _ _=>(yb (i:=0) (Xe (N:=["turn"]) (by decide +kernel) rfl) rfl (Or.inl rfl))) (fun _ _ _ _=>⟨_,Qd,by walk_at "B"⟩) (fun _ _ _ _=>⟨_,Wc,by walk_at "B"⟩)) rfl)
   (db (Bd PassesOwn.never rfl (zd (xb g10 hr rfl T.Ii T.gg.kp T.yi .nil Db (ab (pv 2) (ab (Ic (pv 0) rfl) fb)))) (Ve (K:=K) (n:=2) rfl rfl (Nb (yb (i:=4) cm.nd rfl (Or.inl rfl) (.inl rfl)) (Nb (yb (i:=5) cm.nd rfl (Or.inl rfl) (.inl rfl)) Ue))) (db (Bd PassesOwn.never rfl (uc rfl T.Zc (ab (rm (pv 0) V_Way_ready hr Db) fb)) (yb (i:=6) cm.nd rfl (Or.inl rfl)) (qb (Vj Wc (Pq (pv 3) (Fb Uf (Fb De (Fb De (pv 4) pb) (pv 6)) (pv 1)) Wi))))
   (db (Bd PassesOwn.never rfl (uc rfl T.Zc (ab (pv 5) fb)) (yb (i:=6) cm.nd rfl (Or.inl rfl)) (qb (Vj Wc (Pq (pv 3) (Fb Uf (Fb fc (pv 4) (pv 6)) (pv 1)) Wi))))
   (qb (Bd PassesOwn.never rfl (uc rfl T.Zc (ab (rm (pv 0) V_Way_fade hr Db) fb)) (yb (i:=6) cm.nd rfl (Or.inl rfl)) (qb (Vj Wc (Pq (pv 3) (Fb Uf (Fb fc (Fb fc (pv 4) (pv 5)) (pv 6)) (pv 1)) Wi))))))))
   (qb (Gb (pv 3))))),?_⟩
 walk_at "RD";refine ⟨by omega,by omega,?_⟩;refine ed.range_map (fun _=>V.str (Str.ofString "stop")) (Nat.le_trans (show (z:Int).toNat ≤ 1000 by omega) (by decide)) (fun i N hi hN=>?_) (fun mk hmk=>?_)
 ·walk_at "RD";exact ⟨Sub.name,hN⟩
 rw [show (List.range (z:Int).toNat).map (fun _=>V.str (Str.ofString "stop"))=Kb (ei z (Ec d).toNat (Wd d).toNat []) by
  unfold Kb ei;rw [List.foldl_nil,List.map_replicate];exact List.ext_getElem (by simp) (by simp)]
 have hrd:=Vq d;have hfd:=Xt hoff;obtain ⟨dk,dx,hway⟩:=id W;have w0:∀ {H':Hp},Yc mk (upd H mk (.lst (Kb (ei z (Ec d).toNat (Wd d).toNat [])))) H'→H' a=some (.ins (t.cw d.k) dx (No d)):=fun sx=>sx _ _ (wb hway hmk) ((lb hmk) _ _ hway)
 refine ⟨_,(W.same (lb hmk)).f_name T,p,d.name,sp,rfl,L.same (lb hmk),hs1,fun r H1 s1 nt1 L1=>⟨r,rfl,?_⟩⟩;obtain ⟨qs,l1,lq⟩:=L1;refine ⟨⟨_,SqL.of l1⟩,?_⟩;have hmk1:H1 mk=some (.lst (Kb (ei z (Ec d).toNat (Wd d).toNat []))):=s1 _ _ cb;have hrm:r ≠ mk:=fun e=>by
  subst e;rw [l1] at hmk1;injection hmk1 with e1;injection e1 with e2;have e3:=congrArg List.length e2;cases qs with
  | nil=>simp [Kb,zh] at e3;omega
  | cons a qs=>
   have:(Kb (ei z (Ec d).toNat (Wd d).toNat []))[0]? = some (V.ref a):=by rw [← e2];rfl
   unfold Kb at this;rw [List.getElem?_map] at this;cases hh:(ei z (Ec d).toNat (Wd d).toNat [])[0]? with
   | none=>rw [hh] at this;cases this
   | some b=>rw [hh] at this;cases this
 have wx:∀ {H':Hp},Yc mk H1 H'→Pe t H' a d:=fun sx=>⟨dk,dx,sx _ _ (wb hway hmk) (s1 _ _ ((lb hmk) _ _ hway))⟩
 refine Eh.list (xs:=qs.map V.ref) (fun i σ H'=>(∃ a1 b c,σ=[some (V.ref a),some (V.int z),some (V.ref p),some (V.ref mk),a1,b,c])∧Yc mk H1 H'∧(NoT H→NoT H')∧H' mk=some (.lst (Kb (ei z (Ec d).toNat (Wd d).toNat ((ofN d.name sp).take i))))) ?_ ?_ ?_ ?_
 ·exact ⟨⟨_,_,_,rfl⟩,fun b u _ e=>e,fun n=>nt1 n.upd,hmk1⟩
 ·rintro i σ H' hi zzq;refine zP fun zzM zzh=>?_
  obtain ⟨_,sx,_,_⟩:=zzq;subst zzh;exact SqL.of (sx _ _ hrm l1)
 ·rintro i v σ H' hv zzq;refine zP fun zzM zzh=>?_
  obtain ⟨⟨a1,b,c,rfl⟩,sx,nt',hm⟩:=zzq;obtain ⟨qi,hqi,rfl⟩:=ic hv;obtain ⟨o,ho,e⟩:=lq.at hqi;obtain ⟨dd,hd,rfl⟩:=ic ho;obtain ⟨sd,hsd,hsn,rfl⟩:=zy (List.mem_of_getElem? hd);have hb:=hs2 sd hsd;have e':=sx _ _ (ue e hmk1 (by intro z;cases z)) e;have W1:=wx sx;obtain ⟨_,dx1,hw1⟩:=id W1;subst zzh;walk_at "RD";refine ⟨_,SqT.of e',rfl,_,_,rfl,_,_,rfl,rfl,_,_,_,hw1,⟨_,dk,rfl⟩,tM (by decide +kernel),_,d,rfl,W1,rfl,_,rfl,by omega,by omega,?_⟩;rw [cC hd];refine Eh.range (fun k σ H'=>(∃ c,σ=[some (V.ref a),some (V.int z),some (V.ref p),some (V.ref mk),some (V.int sd.b),some (V.int sd.n),c])∧Yc mk H1 H'∧(NoT H→NoT H')∧H' mk=some (.lst (Kb (Vu z (Str.ofString "ready") sd.b k (ei z (Ec d).toNat (Wd d).toNat ((ofN d.name sp).take i)))))) ?_ ?_ ?_
  ·exact ⟨⟨_,rfl⟩,sx,nt',hm⟩
  ·rintro k σ H2 hk zzq;refine zP fun zzM zzh=>?_
   obtain ⟨⟨c,rfl⟩,sx2,nt2,hm2⟩:=zzq;subst zzh;walk_at "RD";refine ⟨by omega,_,hm2,_,Tz V.str (by rw [Mg,zh]) hz0 _,⟨_,rfl⟩,fun b u hb e=>by rw [ub hb];exact sx2 _ _ hb e,fun n=>(nt2 n).upd,?_⟩;rw [cb];unfold Kb;rw [vp V.str];rfl
  rintro σ H2 zzq;refine zP fun zzM zzh=>?_
  obtain ⟨⟨c,rfl⟩,sx2,nt2,hm2⟩:=zzq;subst zzh;walk_at "RD";refine ⟨by omega,by omega,?_⟩;refine Eh.range (fun k σ H'=>(∃ c,σ=[some (V.ref a),some (V.int z),some (V.ref p),some (V.ref mk),some (V.int sd.b),some (V.int sd.n),c])∧Yc mk H1 H'∧(NoT H→NoT H')∧H' mk=some (.lst (Kb (Uy z (Str.ofString "free") sd.b k (Vu z (Str.ofString "ready") sd.b (Ec d).toNat (ei z (Ec d).toNat (Wd d).toNat ((ofN d.name sp).take i))))))) ?_ ?_ ?_
  ·exact ⟨⟨_,rfl⟩,sx2,nt2,hm2⟩
  ·rintro k σ H2 hk zzq;refine zP fun zzM zzh=>?_
   obtain ⟨⟨c,rfl⟩,sx2,nt2,hm2⟩:=zzq;subst zzh;walk_at "RD";refine ⟨by omega,_,hm2,_,Tz V.str (by rw [Xf,Mg,zh]) hz0 _,⟨_,rfl⟩,fun b u hb e=>by rw [ub hb];exact sx2 _ _ hb e,fun n=>(nt2 n).upd,?_⟩;rw [cb];unfold Kb;rw [vp V.str];rfl
  rintro σ H3 zzq;refine zP fun zzM zzh=>?_
  obtain ⟨⟨c,rfl⟩,sx3,nt3,hm3⟩:=zzq;have W3:=wx sx3;obtain ⟨_,dx3,hw3⟩:=id W3;subst zzh;walk_at "RD";refine ⟨_,_,_,hw3,⟨_,dk,rfl⟩,tM (by decide +kernel),_,d,rfl,W3,rfl,_,rfl,by omega,by omega,?_⟩;refine Eh.range (fun k σ H'=>(∃ c,σ=[some (V.ref a),some (V.int z),some (V.ref p),some (V.ref mk),some (V.int sd.b),some (V.int sd.n),c])∧Yc mk H1 H'∧(NoT H→NoT H')∧H' mk=some (.lst (Kb (Uy z (Str.ofString "fade") (sd.b + sd.n) k (Uy z (Str.ofString "free") sd.b sd.n.toNat (Vu z (Str.ofString "ready") sd.b (Ec d).toNat (ei z (Ec d).toNat (Wd d).toNat ((ofN d.name sp).take i)))))))) ?_ ?_ ?_
  ·exact ⟨⟨_,rfl⟩,sx3,nt3,hm3⟩
  ·rintro k σ H2 hk zzq;refine zP fun zzM zzh=>?_
   obtain ⟨⟨c,rfl⟩,sx2,nt2,hm2⟩:=zzq;subst zzh;walk_at "RD";refine ⟨by omega,_,hm2,_,Tz V.str (by rw [Xf,Xf,Mg,zh]) hz0 _,⟨_,rfl⟩,fun b u hb e=>by rw [ub hb];exact sx2 _ _ hb e,fun n=>(nt2 n).upd,?_⟩;rw [cb];unfold Kb;rw [vp V.str];rfl
  ·rintro σ H2 zzq;refine zP fun zzM zzh=>?_
   obtain ⟨⟨c,rfl⟩,sx2,nt2,hm2⟩:=zzq;subst zzh;exact ⟨⟨_,_,_,rfl⟩,sx2,nt2,hm2⟩
 ·rintro σ H' zzq;refine zP fun zzM zzh=>?_
  obtain ⟨⟨a1,b,c,rfl⟩,sx,nt',hm⟩:=zzq;subst zzh;walk_at "RD";rw [List.take_of_length_le (by rw [List.length_map,lq.1,List.length_map];exact Nat.le_refl _)] at hm;exact q _ _ (re ((lb hmk).trans s1) sx hmk) nt' hmk hm
theorem pz (T:Txt w K mg t):Pb P w K mg base CX0 1 t.pf t.cf ["marks"] mv:=by
 refine T.vg.ok Yd (fun vs H Q E h=>?_) (fun _ _ _ s H vs Q E hr h=>?_)
 ·obtain ⟨p,m,rfl,_⟩:=h;rfl
 obtain ⟨p,m,rfl,hm,hl,q⟩:=h;refine ⟨_,(db (Cb (i:=1) Yd.nd rfl (Or.inl rfl) (Ib Eb rfl T.Yf Ob (ab (pv 0) fb)))
   (db (Cb (i:=2) Yd.nd rfl (Or.inl rfl) pb)
   (db (Cb (i:=3) Yd.nd rfl (Or.inl rfl) (Td fb))
   (db (Bd PassesOwn.never rfl (vD rfl T.Zc (ab (Fb De (Fb wf pb (pv 1)) pb) (ab (pL QG pb) (ab (pL QG pb) fb)))) (yb (i:=4) Yd.nd rfl (Or.inl rfl)) (db (Cb (i:=2) Yd.nd rfl (Or.inl rfl) (up (Ki (kc Zb (pv 0) (Fb Uf (pv 4) (pv 1)) (fun _ _=>rfl))) pb (Fb fc (pv 2) pb)))
   (qb (Be (Rb Xo (pv 4) (pv 1) (Xb _)) (qb (Fc (Vi PySem.F.plainAttrs_list PySem.F.slot_list_append PySem.F.type_list_append qe (pv 3) (ab (pv 2) fb)))) vc))))
   (qb (Gb (ao rfl rfl T.oj rfl T.yn (ab (pv 3) fb)))))))),?_⟩
 walk_at "RD";refine ⟨_,.inl (SqL.of hm),Nat.zero_le _,fun u hu=>?_⟩;have hbl:(Hc m).length=m.length:=by unfold Hc;rw [List.length_map]
 rw [hbl];refine ⟨by unfold jH;omega,by omega,by omega,by omega,by omega,?_⟩;have hun:p ≠ u:=wb hm hu;refine Eh.of (n:=2 * m.length) (fun k σ H'=>(∃ x,σ=[some (V.ref p),some (V.int m.length),some (V.int (Sf m k)),some (V.ref u),x])∧Yc u H H'∧(NoT H→NoT H')∧H' u=some (.lst ((Zs m (k - m.length)).map V.int))) ?_ (fun i σ H' hi _=>?_) (fun σ H' _=>?_) ?_ ?_
 ·exact ⟨⟨_,rfl⟩,fun b o hb e=>by rw [ub hb];exact e,fun n=>n.upd,by rw [cb,Nat.zero_sub];rfl⟩
 ·show i < _;omega
 ·show _ ≤ 2 * m.length;omega
 ·rintro k σ H'' v H' hk ⟨⟨x,rfl⟩,sx,nt',hu'⟩ ⟨rfl,rfl⟩;have hjn:(2 * m.length - 1 - k) % m.length < m.length:=Nat.mod_lt _ hl.1;have hmj:m[(2 * m.length - 1 - k) % m.length]? = some m[(2 * m.length - 1 - k) % m.length]:=List.getElem?_eq_getElem hjn;have hj:((2 * m.length - 1 - k:Int)) % (m.length:Int)=(((2 * m.length - 1 - k) % m.length:Nat):Int):=by
   rw [Int.natCast_emod];congr 1;omega
  have hat:atI (Hc m) ((2 * m.length - 1 - k:Int) % (m.length:Int))=some (V.bl m[(2 * m.length - 1 - k) % m.length]):=by
   rw [hj];exact Ac (by unfold Hc;rw [List.getElem?_map,hmj];rfl)
  have hst:Sf m (k + 1)=if m[(2 * m.length - 1 - k) % m.length]=true then 0 else Sf m k + 1:=by
   show (if m[(2 * m.length - 1 - k) % m.length]? = some true then 0 else Sf m k + 1)=_;rw [hmj];simp
  simp only [Rf,zb,List.set_cons_succ,List.set_cons_zero];refine zzC (fun σ H4=>H4=H'∧σ=[some (V.ref p),some (V.int m.length),some (V.int (Sf m (k + 1))),some (V.ref u),some (V.int (2 * m.length - 1 - k))]) (fun D' hD=>?_) fun zzM zzh=>?_
  ·walk_at "RD";refine ⟨by omega,_,SqL.of (sx _ _ hun hm),_,hat,_,rfl,?_⟩;rw [hst] at hD;by_cases c:m[(2 * m.length - 1 - k) % m.length]=true
   ·rw [if_pos c] at hD ⊢;exact hD _ _ ⟨rfl,rfl⟩
   ·rw [if_neg c] at hD ⊢;exact hD _ _ ⟨rfl,rfl⟩
  rintro σ H4 ⟨rfl,rfl⟩;subst zzh;dsimp only;refine Dc (decide ((2 * m.length - 1 - k:Int) < m.length)) (fun Q hQ=>?_) (fun hc=>?_) (fun hc=>?_)
  ·walk_at "RD";exact hQ
  ·walk_at "RD";have hc':=of_decide_eq_true hc;refine ⟨.inl ⟨_,SqL.of hu'⟩,_,hu',Nat.lt_of_le_of_lt (show ((Zs m (k - m.length)).map V.int).length ≤ 1000 by unfold Zs;simp;omega) (by decide),⟨_,rfl⟩,fun b o hb e=>by rw [ub hb];exact sx _ _ hb e,fun n=>(nt' n).upd,?_⟩;rw [cb,show k + 1 - m.length=k - m.length + 1 by omega];unfold Zs;rw [List.range_succ,List.map_append,List.map_append];simp only [List.map_cons,List.map_nil];rw [show m.length + (k - m.length) + 1=k + 1 by omega]
  ·walk_at "RD";have hc':=of_decide_eq_false hc;refine ⟨⟨_,rfl⟩,sx,nt',?_⟩;rw [hu',show k - m.length=0 by omega,show k + 1 - m.length=0 by omega]
 ·rintro σ H' zzq;refine zP fun zzM zzh=>?_
  obtain ⟨⟨x,rfl⟩,sx,nt',hu'⟩:=zzq;subst zzh;walk_at "RD";refine ⟨_,SqL.of hu',fun l hl'=>?_⟩;have hlu:l ≠ u:=fun z=>by subst z;rw [hu'] at hl';cases hl'
  refine q _ _ ((re (Jb.refl H) sx hu).trans (lb hl')) (fun n=>(nt' n).upd) ((re (Jb.refl H) sx hu).free hl') ?_;rw [cb,show 2 * m.length - m.length=m.length by omega,← List.map_reverse,fB]
theorem PF (T:Txt w K mg t):Pb P w K mg base CX0 2 t.ng t.xg ["marks"] qz:=by
 have g19:Pb P w K mg base CX0 1 t.pf t.cf ["marks"] mv:=pz T;refine T.ai.ok iq (fun vs H Q E h=>?_) (fun _ _ _ s H vs Q E hr h=>?_)
 ·obtain ⟨p,m,rfl,_⟩:=h;rfl
 obtain ⟨p,m,rfl,hm,hl,q⟩:=h;refine ⟨_,(qb (Gb (ao rfl rfl T.oj rfl T.yn (ab (xb g19 hr rfl T.ml T.vg.kp T.Tk .nil Db (ab (ao rfl rfl T.oj rfl T.yn (ab (pv 0) fb)) fb)) fb)))),?_⟩;walk_at "RD";refine ⟨_,SqL.of hm,fun l1 h1=>?_⟩;refine ⟨l1,m.reverse,rfl,by rw [cb,Hc,Hc,List.map_reverse],by rw [List.length_reverse];exact hl,fun r H1 s1 nt1 hr1 hu=>⟨r,rfl,_,SqL.of hu,fun l2 h2=>?_⟩⟩;refine q _ _ (((lb h1).trans s1).trans (lb h2)) (fun n=>(nt1 n.upd).upd) (((lb h1).trans s1).free h2) ?_;rw [cb,← List.map_reverse];rfl
end
end My
namespace My
open PySem L2
theorem Uq {i:Int} (h:i.natAbs < 100000):i.natAbs.log2 < 1920:=by
 by_cases h0:i.natAbs=0
 ·rw [h0];decide
 ·exact (Nat.log2_lt h0).mpr (Nat.lt_trans h (by decide))
theorem se {α:Type} {l:List α} {a x:α} {i:Nat} (h:(l ++ [a])[i]? = some x):(i < l.length∧l[i]? = some x)∨(i=l.length∧x=a):=by
 by_cases hi:i < l.length
 ·rw [List.getElem?_append_left hi] at h;exact .inl ⟨hi,h⟩
 ·rw [List.getElem?_append_right (by omega)] at h;have h0:i - l.length=0:=by
   cases hh:i - l.length with
   | zero=>rfl
   | succ m=>rw [hh] at h;simp at h
  rw [h0] at h;exact .inr ⟨by omega,(by simpa using h:a=x).symm⟩
noncomputable def DOk (ds:List WD):Prop:=∀ d ∈ ds,0 ≤ d.off∧d.off ≤ 1000
noncomputable def Ws (ds:List WD) (sp:List SD):Option Str:=(ds.map (·.name)).find? fun x=>(ofN x sp).isEmpty
noncomputable def Sw (t:Adr):Sp:=fun vs H Q _=>∃ c n ds p sp,vs=[.ref c,.ref p]∧Rc t H c n ds∧LO H p (List.map sdO sp)∧sp.length ≤ 100∧Ws ds sp=none∧∀ H',Jb H H'→(NoT H→NoT H')→Q .non H'
noncomputable def FA (z:Int) (sp:List SD) (k:Nat) (d:SD):Int:=(((ofN d.name (sp.eraseIdx k)).map fun p=>(p.1 - d.b) % z).min?).getD z
noncomputable def BB:Sp:=fun vs H Q E=>∃ (z:Int) (p:Addr) (sp:List SD) (k:Nat) (d:SD),vs=[.int z,.ref p,.int k]∧0 < z∧LO H p (List.map sdO sp)∧sp.length ≤ 100∧sp[k]? = some d∧∀ H',Jb H H'→(NoT H→NoT H')→Q (.int (FA z sp k d)) H'
theorem ZA {α:Type} (l:List α) (x:α) (k:Nat):(l ++ [x]).eraseIdx k=if k=l.length then l.eraseIdx k else l.eraseIdx k ++ [x]:=by
 by_cases h:k < l.length
 ·rw [if_neg (by omega),List.eraseIdx_append_of_lt_length h]
 ·rw [List.eraseIdx_append_of_length_le (by omega),List.eraseIdx_of_length_le (l:=l) (by omega)];by_cases h2:k=l.length
  ·rw [if_pos h2,h2,Nat.sub_self];simp
  ·rw [if_neg h2,List.eraseIdx_of_length_le (by simp;omega)]
noncomputable def wOf (ds:List WD) (x:Str):Option WD:=ds.find? fun d=>decide (d.name=x)
noncomputable def Ys (ds:List WD) (z:Int) (sp:List SD) (k:Nat) (s:SD):Bool:=(wOf ds s.name).any fun d=>decide (s.n < d.least) || decide (FA z sp k s < s.n + Wd d + Ec d)
noncomputable def Ct (ds:List WD) (z:Int) (sp:List SD):Option (SD × Nat):=sp.zipIdx.find? fun e=>Ys ds z sp e.2 e.1
noncomputable def Jw (t:Adr):Sp:=fun vs H Q _=>∃ (c:Addr) (n:Int) (ds:List WD) (z:Int) (p:Addr) (sp:List SD),vs=[.ref c,.int z,.ref p]∧Rc t H c n ds∧DOk ds∧(0 < z∧z ≤ 1000)∧LO H p (List.map sdO sp)∧JI z sp∧(∀ s ∈ sp,∃ d,wOf ds s.name=some d)∧Ct ds z sp=none∧∀ H',Jb H H'→(NoT H→NoT H')→Q .non H'
theorem Yw {P:Program} {w:World} {K:PySem.W.Frag} {mg:Str→Option Value} {base:Heap} {CX:CXT} {j k:Nat} {OK:Addr→Prop} {m:Str} {ps:List Str} {SPV:Addr→Sp} (V:eG P w K mg base CX j OK m ps SPV) (h:j ≤ k):eG P w K mg base CX k OK m ps SPV:=⟨fun C hC=>by
 obtain ⟨f,fd,h1,h2,h3,h4⟩:=V.ok C hC;exact ⟨f,fd,h1,h2,h3.mono h,h4⟩⟩
theorem ZG {ds:List WD} {x:Str} {d:WD} (h:wOf ds x=some d):d.name=x∧∃ i:Nat,ds[i]? = some d:=by
 unfold wOf at h;refine ⟨by simpa using List.find?_some h,?_⟩;obtain ⟨i,hi,e⟩:=List.getElem_of_mem (List.mem_of_find?_eq_some h);exact ⟨i,by rw [List.getElem?_eq_getElem hi,e]⟩
noncomputable def nH (d1 d2:WD):Int:=if d1.off - d2.near > 0 then d1.off - d2.near else 0
noncomputable def Ry (g:Int) (m1 m2:List Int):Option ((Int × Int) × Nat):=(m1.zip m2).zipIdx.find? fun e=>decide (e.1.2=0) && decide (e.1.1 ≤ g)
noncomputable def CH (t:Adr):Sp:=fun vs H Q _=>∃ (c:Addr) (n:Int) (ds:List WD) (d1 d2:WD) (p1 p2:Addr) (m1 m2:List Int),vs=[.ref c,.str d1.name,.str d2.name,.ref p1,.ref p2]∧Rc t H c n ds∧d1 ∈ ds∧d2 ∈ ds∧H p1=some (.lst (m1.map V.int))∧H p2=some (.lst (m2.map V.int))∧m1.length=m2.length∧m1.length ≤ 1000∧Ry (nH d1 d2) m1 m2=none∧∀ H',Jb H H'→(NoT H→NoT H')→Q .non H'
noncomputable def mm (z:Nat) (sp:List SD) (x:Str):List Int:=tt (fmF z (ofN x sp))
noncomputable def Mt (n:Int) (z:Nat) (sp:List SD) (d1 d2:WD):Option Nat:=if d1.name ≠ d2.name∧mt n d1 d2=true then (Ry (nH d1 d2) (mm z sp d1.name) (mm z sp d2.name)).map (·.2) else none
noncomputable def eE (n:Int) (z:Nat) (sp:List SD) (d1:WD) (ds:List WD):Option (WD × WD × Nat):=ds.findSome? fun d2=>(Mt n z sp d1 d2).map fun i=>(d1,d2,i)
noncomputable def Xs (n:Int) (z:Nat) (sp:List SD) (ds:List WD):Option (WD × WD × Nat):=ds.findSome? fun d1=>eE n z sp d1 ds
noncomputable def Pw (t:Adr):Sp:=fun vs H Q _=>∃ (c:Addr) (n:Int) (ds:List WD) (z:Nat) (p:Addr) (sp:List SD),vs=[.ref c,.int z,.ref p]∧Rc t H c n ds∧0 < n∧(0 < z∧z ≤ 1000)∧LO H p (List.map sdO sp)∧JI z sp∧NoT H∧Xs n z sp ds=none∧∀ H',Jb H H'→NoT H'→Q .non H'
theorem Ck (m:List Bool):(Im m).length=m.length:=by unfold Im;simp
theorem Fn (z:Nat) (sp:List SD) (x:Str):(mm z sp x).length=z:=by
 unfold mm tt;rw [List.length_reverse,Ck,List.length_reverse,Ql]
noncomputable def nkv (ds:List WD) (rs:List Addr):List (Key × V):=(ds.zip rs).map fun e=>(Sum.inr e.1.name,V.ref e.2)
noncomputable def NK (H:Hp) (p:Addr) (ds:List WD) (f:WD→HO) (n:Nat):Prop:=∃ rs:List Addr,rs.length=n∧H p=some (.dK (nkv ds rs))∧∀ (i:Nat) (r:Addr) (d:WD),rs[i]? = some r→ds[i]? = some d→H r=some (f d)
theorem sJ {ds:List WD} (h:(ds.map (·.name)).Nodup) {i j:Nat} {d e:WD} (hi:ds[i]? = some d) (hj:ds[j]? = some e) (z:d.name=e.name):i=j:=
 az h (List.getElem?_eq_some_iff.mp hi).1 (List.getElem?_eq_some_iff.mp hj).1 (by rw [Cv hi,Cv hj];exact z)
theorem Qq {ds:List WD} {rs:List Addr} (h:(ds.map (·.name)).Nodup) {i:Nat} {d:WD} {r:Addr} (hd:ds[i]? = some d) (hr:rs[i]? = some r):qv (nkv ds rs) (Sum.inr d.name)=some (.ref r):=by
 obtain ⟨h1,e1⟩:=List.getElem?_eq_some_iff.mp hd;obtain ⟨h2,e2⟩:=List.getElem?_eq_some_iff.mp hr;unfold qv;have hf:List.find? (fun kv=>decide (kv.1=(Sum.inr d.name:Key))) (nkv ds rs)=some (Sum.inr d.name,.ref r):=by
  rw [List.find?_eq_some_iff_getElem];refine ⟨by simp,i,by unfold nkv;simp;omega,by unfold nkv;simp [e1,e2],fun j hj=>?_⟩;unfold nkv;simp;intro z;have:=sJ h (List.getElem?_eq_getElem (show j < ds.length by omega)) hd z;omega
 rw [hf];rfl
theorem Iu {ds:List WD} {rs:List Addr} (h:(ds.map (·.name)).Nodup) {d:WD} {r:Addr} (hd:ds[rs.length]? = some d):Hv (nkv ds rs) (Sum.inr d.name) (.ref r)=nkv ds (rs ++ [r]):=by
 obtain ⟨h1,e1⟩:=List.getElem?_eq_some_iff.mp hd;unfold Hv;have no:((nkv ds rs).any fun kv=>decide (kv.1=Sum.inr d.name))=false:=by
  rw [List.any_eq_false];intro p hp;unfold nkv at hp;obtain ⟨e,he,rfl⟩:=List.mem_map.mp hp;obtain ⟨j,hj,hje⟩:=List.getElem_of_mem he;simp only [decide_eq_true_eq];intro z;have z:=Sum.inr.inj z;rw [← hje] at z;simp at hj z;have:=sJ h (List.getElem?_eq_getElem (show j < ds.length by omega)) hd z;omega
 rw [no,if_neg (by decide)];unfold nkv;refine List.ext_getElem (by simp;omega) (fun i h3 h4=>?_);simp at h3 h4;by_cases c:i < rs.length
 ·simp [List.getElem_append,c,show i < ds.length by omega];rw [dif_pos (by omega)]
 ·have:i=rs.length:=by omega
  subst this;simp [List.getElem_append,Nat.le_of_lt h1,e1]
section
variable {P:Program} {w:World} {K:PySem.W.Frag} {mg:Str→Option Value} {base:Heap} {t:Adr}
theorem UD (T:Txt w K mg t):Pb P w K mg base CX0 3 t.Hg t.zg q43 (Sw t):=by
 have g10:Pb P w K mg base CX0 2 t.vf t.uf q10 Mn:=(Lp T).mono (by decide);have g11:Pb P w K mg base CX0 2 t.Tc t.ld ["self"] (Lm t):=(zp T).mono (by decide);refine T.ii.ok jk (fun vs H Q E h=>?_) (fun _ _ _ s H vs Q E hr h=>?_)
 ·obtain ⟨c,n,ds,p,sp,rfl,_⟩:=h;rfl
 obtain ⟨c,n,ds,p,sp,rfl,C,L,hs,hN,q⟩:=h;refine ⟨_,(qb (Bd PassesOwn.never rfl (zd (ae (pv 0) T.Sb T.Ed g11 hr T.Gd .nil Db)) (yb (i:=2) jk.nd rfl (Or.inl rfl)) (qb (Be (xo (bz (xb g10 hr rfl T.Ii T.gg.kp T.yi .nil Db (ab (pv 1) (ab (pv 2) fb))) (fun _=>rfl))) (qb Dg) vc)))),?_⟩;walk_at "RD";obtain ⟨_,dx,wl,nd,e1,_,_⟩:=id C;refine ⟨_,_,e1,Vx _ _ _ (by decide +kernel),c,n,ds,rfl,C,fun pn hpn=>⟨pn,rfl,⟨_,SqL.of cb⟩,?_⟩⟩;refine Eh.list (xs:=Kb (ds.map (·.name))) (fun i σ H'=>(∃ y,σ=[some (V.ref c),some (V.ref p),y])∧Jb (upd H pn (.lst (Kb (ds.map (·.name))))) H'∧(NoT H→NoT H')) ?_ ?_ ?_ ?_
 ·exact ⟨⟨_,rfl⟩,Jb.refl _,fun n=>n.upd⟩
 ·rintro i σ H' hi ⟨_,sm,_⟩;exact SqL.of (sm _ _ cb)
 ·rintro i v σ H' hv zzq;refine zP fun zzM zzh=>?_
  obtain ⟨⟨y,rfl⟩,sm,nt⟩:=zzq;obtain ⟨x,hx,rfl⟩:=ic hv;have smH:Jb H H':=(lb hpn).trans sm;have hne:(ofN x sp).isEmpty=false:=by
   have:=List.find?_eq_none.mp hN x (List.mem_of_getElem? hx);simpa using this
  subst zzh;walk_at "RD";refine Pi (fun b H2=>b=(ofN x sp).isEmpty∧Jb H' H2∧(NoT H'→NoT H2)) (fun Q hQ=>?_) (fun H2 r=>?_) (fun H2 r=>?_)
  ·walk_at "RD";refine ⟨p,x,sp,rfl,L.same smH,hs,fun r H2 s2 n2 ⟨qs,l1,l2⟩=>⟨!(ofN x sp).isEmpty,.inl ⟨_,SqL.of l1,?_⟩,?_⟩⟩
   ·have hl:=l2.1;cases qs with
    | nil=>cases h:ofN x sp with
     | nil=>rfl
     | cons a r=>rw [h] at hl;simp at hl
    | cons a r=>cases h:ofN x sp with
     | nil=>rw [h] at hl;simp at hl
     | cons a r=>rfl
   ·rw [Bool.not_not];exact hQ _ _ ⟨rfl,s2,n2⟩
  ·exact absurd (r.1.trans hne) (by decide)
  ·obtain ⟨r1,r2,r3⟩:=r;walk_at "RD";exact ⟨⟨_,rfl⟩,sm.trans r2,fun n=>r3 (nt n)⟩
 ·rintro σ H' zzq;refine zP fun zzM zzh=>?_
  obtain ⟨⟨y,rfl⟩,sm,nt⟩:=zzq;subst zzh;exact q _ ((lb hpn).trans sm) nt
theorem AI (T:Txt w K mg t):Pb P w K mg base CX0 2 t.Hd t.Md q44 BB:=by
 have g10:Pb P w K mg base CX0 1 t.vf t.uf q10 Mn:=Lp T;refine T.Ge.ok Uc (fun vs H Q E h=>?_) (fun _ _ _ s H vs Q E hr h=>?_)
 ·obtain ⟨z,p,sp,k,d,rfl,_⟩:=h;rfl
 obtain ⟨z,p,sp,k,d,rfl,hz,⟨qs,l1,lq⟩,hs,hk,q⟩:=h;refine ⟨_,(db (Vj (kc Zb (pv 1) (pv 2) (fun _ _=>rfl)) (Ve (K:=K) (n:=3) rfl rfl (Nb (yb (i:=3) Uc.nd rfl (Or.inl rfl) (.inl rfl)) (Nb (yb (i:=4) Uc.nd rfl (Or.inr rfl) (.inl rfl)) (Nb (yb (i:=5) Uc.nd rfl (Or.inl rfl) (.inl rfl)) Ue)))))
   (db (bg (i:=6) Uc.nd rfl (Or.inl rfl) rfl (Gn rfl T.ig (ab (pv 1) fb)) (jc (sc:=rb Jd) rfl (by decide +kernel)) (N:=q60) (sel:=[none,none,some 2]) (Gc (M:=q57) (by decide +kernel)) (Blk.of (fun _ _ _ _=>(Ve (K:=K) (n:=2) rfl rfl (Nb (yb (i:=0) (Xe (N:=q60) (by decide +kernel) rfl) rfl (Or.inl rfl) (.inr rfl)) (Nb (yb (i:=1) (Xe (N:=q60) (by decide +kernel) rfl) rfl (Or.inl rfl) (.inr rfl)) Ue)))) (fun _ _ _ _=>⟨_,(lv (Rb qw (pv 0) (pv 2) (Xb _))),by walk_at "B"⟩) (fun _ _ _ _=>⟨_,(pv 1),by walk_at "B"⟩)) rfl)
   (qb (Gb (MH rfl rfl T.DF (ab (ve rfl (zd (xb g10 hr rfl T.Ii T.gg.kp T.yi .nil Db (ab (pv 6) (ab (pv 3) fb)))) (jc (sc:=rb Jd) rfl (by decide +kernel)) (N:=q61) (sel:=[none,none,some 4,some 0]) (Gc (M:=q57) (by decide +kernel)) (Blk.of (fun _ _ _ _=>(Ve (K:=K) (n:=2) rfl rfl (Nb (yb (i:=0) (Xe (N:=q61) (by decide +kernel) rfl) rfl (Or.inl rfl) (.inr rfl)) (Nb (yb (i:=1) (Xe (N:=q61) (by decide +kernel) rfl) rfl (Or.inl rfl) (.inr rfl)) Ue)))) (fun _ _ _ _=>⟨_,Qd,by walk_at "B"⟩) (fun _ _ _ _=>⟨_,(Fb Uf (Fb De (pv 0) (pv 2)) (pv 3)),by walk_at "B"⟩))) fb) (pv 0)))))),?_⟩
 walk_at "RD";have hql:qs.length=sp.length:=by rw [lq.1,List.length_map]
 obtain ⟨hkl,hkd⟩:=List.getElem?_eq_some_iff.mp hk;have hqk:qs[k]? = some qs[k]:=List.getElem?_eq_getElem (by omega);have ek:H qs[k]=some (sdO d):=lq.2 k _ _ hqk (by rw [List.getElem?_map,hk];rfl);refine ⟨_,SqL.of l1,_,Ac (by rw [List.getElem?_map,hqk];rfl),_,rfl,_,SqT.of ek,rfl,_,_,rfl,_,_,rfl,_,_,rfl,rfl,⟨_,SqL.of l1⟩,?_⟩;refine ed.enum (xs:=qs.map V.ref) (fun i ys H'=>∃ os:List Addr,ys=os.map V.ref∧LQ H' os (((sp.take i).eraseIdx k).map sdO)∧Jb H H'∧(NoT H→NoT H')) (Nat.le_trans (show (qs.map V.ref).length ≤ 100 by rw [List.length_map];omega) (by decide)) ⟨[],rfl,by rw [List.take_zero];exact LQ.nil _,Jb.refl _,id⟩ ?_ ?_ ?_
 ·rintro i ys H' hi zzq;refine zP fun zzM zzh=>?_
  obtain ⟨os,rfl,r,sm,_⟩:=zzq;subst zzh;refine ⟨(SqL.of l1).same sm,?_⟩;rw [List.length_map,r.1,List.length_map];exact Nat.le_trans (List.length_eraseIdx_le ..) (by rw [List.length_take];omega)
 ·rintro i v ys H' p1 hv ⟨os,rfl,r,sm,nt⟩ hp1 N hN;obtain ⟨qi,hqi,rfl⟩:=ic hv;obtain ⟨o,ho,e⟩:=lq.at hqi;obtain ⟨d',hd',rfl⟩:=ic ho;have e':=sm _ _ e;have s1:Jb H' (upd H' p1 (.tup [.int i,.ref qi])):=lb hp1;refine Ei ?_;dsimp only at hN;have hil:(sp.take i).length=i:=by
   have:=(List.getElem?_eq_some_iff.mp hd').1;rw [List.length_take];omega
  rw [df hd',ZA,hil] at hN;walk_at "RD";refine ⟨Sub.name2,?_⟩;by_cases c:k=i
  ·rw [if_pos c] at hN;rw [if_neg (by subst c;simp)];exact hN _ _ ⟨os,rfl,r.same s1,sm.trans s1,fun n=>(nt n).upd⟩
  ·rw [if_neg c] at hN;rw [if_pos (by simp;omega)];refine hN _ _ ⟨os ++ [qi],by rw [List.map_append];rfl,?_,sm.trans s1,fun n=>(nt n).upd⟩;rw [List.map_append];exact (r.same s1).app (LQ.one (s1 _ _ e'))
 ·rintro ys H' ⟨os,rfl,r,sm,nt⟩ p1 hp1;rw [List.take_of_length_le (by rw [List.length_map];omega)] at r;walk_at "RD";have s1:Jb H' (upd H' p1 (.lst (os.map V.ref))):=lb hp1;refine ⟨p1,d.name,sp.eraseIdx k,rfl,⟨os,cb,r.same s1⟩,Nat.le_trans (List.length_eraseIdx_le ..) hs,fun r2 H2 s2 n2 ⟨qs2,m1,m2⟩=>⟨r2,rfl,⟨_,SqL.of m1⟩,?_⟩⟩;have hln:(ofN d.name (sp.eraseIdx k)).length ≤ 100:=Nat.le_trans (qD _ _) (Nat.le_trans (List.length_eraseIdx_le ..) hs);have hml:qs2.length=(ofN d.name (sp.eraseIdx k)).length:=by rw [m2.1,List.length_map]
  refine ed.list_zs (zs:=((ofN d.name (sp.eraseIdx k)).map fun p=>(p.1 - d.b) % z).map V.int) (SqL.of m1) (Nat.le_trans (show (qs2.map V.ref).length ≤ 100 by rw [List.length_map];omega) (by decide)) (by simp [hml]) (fun i v z' N hv hz' hN=>?_) (fun l hl=>?_)
  ·obtain ⟨qi,hqi,rfl⟩:=ic hv;obtain ⟨o,ho,e⟩:=m2.at hqi;obtain ⟨pr,hpr,rfl⟩:=ic ho;obtain ⟨y,hy,rfl⟩:=ic hz';obtain ⟨pr',hpr',rfl⟩:=ic hy;rw [hpr] at hpr';cases hpr';walk_at "RD";exact ⟨_,SqT.of e,rfl,_,_,rfl,_,_,rfl,rfl,Sub.name2,_,rfl,hz,hN⟩
  ·walk_at "RD";refine ⟨_,SqL.of cb,?_⟩;have:=q (upd H2 l (.lst (((ofN d.name (sp.eraseIdx k)).map fun p=>(p.1 - d.b) % z).map V.int))) (((sm.trans s1).trans s2).trans (lb hl)) (fun n=>(n2 (nt n).upd).upd);unfold FA at this;cases hm:((ofN d.name (sp.eraseIdx k)).map fun p=>(p.1 - d.b) % z).min? with
   | none=>rw [hm] at this;exact this
   | some m=>rw [hm] at this;exact this
theorem uD (T:Txt w K mg t):Pb P w K mg base CX0 4 t.Gg t.yg q15 (Jw t):=by
 have g47:Pb P w K mg base CX0 3 t.Hd t.Md q44 BB:=(AI T).mono (by decide);have g9:Pb P w K mg base CX0 3 t.nc t.zc q8 (oh t):=(Li T).mono (by decide);have V_Way_ready:eG P w K mg base CX0 3 (isW t) "ready" ["self"] (xi t):=Yw (ZB T) (by decide);have V_Way_fade:eG P w K mg base CX0 3 (isW t) "fade" ["self"] (xk t):=Yw (fH T) (by decide);refine T.Yh.ok ad (fun vs H Q E h=>?_) (fun _ _ _ s H vs Q E hr h=>?_)
 ·obtain ⟨c,n,ds,z,p,sp,rfl,_⟩:=h;rfl
 obtain ⟨c,n,ds,z,p,sp,rfl,C,hD,hz,⟨qs,l1,lq⟩,hs,hk,hN,q⟩:=h;refine ⟨_,(qb (Bd PassesOwn.never rfl (Gn rfl T.ig (ab (pv 2) fb)) (Ve (K:=K) (n:=2) rfl rfl (Nb (yb (i:=3) ad.nd rfl (Or.inl rfl) (.inl rfl)) (Nb (yb (i:=4) ad.nd rfl (Or.inl rfl) (.inl rfl)) Ue))) (db (Vj (pv 4) (Ve (K:=K) (n:=3) rfl rfl (Nb (yb (i:=5) ad.nd rfl (Or.inl rfl) (.inl rfl)) (Nb (yb (i:=6) ad.nd rfl (Or.inl rfl) (.inl rfl)) (Nb (yb (i:=7) ad.nd rfl (Or.inl rfl) (.inl rfl)) Ue)))))
   (db (Cb (i:=8) ad.nd rfl (Or.inl rfl) (bd (pv 0) T.Sb T.Jc g9 hr T.Lc .nil Db (ab (pv 5) fb)))
   (db (Cb (i:=9) ad.nd rfl (Or.inl rfl) (Fb fc (Fb fc (pv 7) (rm (pv 8) V_Way_fade hr Db)) (rm (pv 8) V_Way_ready hr Db)))
   (qb (Be (PW.pt (Fm (Rb Xo (pv 7) (Ic (pv 8) rfl) (Xb _)) (Wm (Rb Xo (xb g47 hr rfl T.Kj T.Ge.kp T.Fj .nil Db (ab (pv 1) (ab (pv 2) (ab (pv 3) fb)))) (pv 9) (Xb _))))) (qb Dg) vc))))))),?_⟩
 walk_at "RD";have hql:qs.length=sp.length:=by rw [lq.1,List.length_map]
 refine ⟨⟨_,SqL.of l1⟩,?_⟩;refine Eh.enum (xs:=qs.map V.ref) (fun i σ H'=>(∃ a b c1 d e f g,σ=[some (V.ref c),some (V.int z),some (V.ref p),a,b,c1,d,e,f,g])∧Jb H H'∧(NoT H→NoT H')) ?_ ?_ ?_ ?_
 ·exact ⟨⟨_,_,_,_,_,_,_,rfl⟩,Jb.refl _,id⟩
 ·rintro i σ H' hi ⟨_,sm,_⟩;exact SqL.of (sm _ _ l1)
 ·rintro i v σ H0 p1 hv ⟨⟨a1,a2,a3,a4,a5,a6,a7,rfl⟩,sm,nt⟩ hp1;obtain ⟨qi,hqi,rfl⟩:=ic hv;obtain ⟨o,ho,e⟩:=lq.at hqi;obtain ⟨sd,hsd,rfl⟩:=ic ho;obtain ⟨hi,hxi⟩:=List.getElem?_eq_some_iff.mp hsd;have hB0:Ys ds z sp i sd=false:=by
   have:=List.find?_eq_none.mp hN (sd,i) (by rw [List.mem_iff_getElem?];exact ⟨i,by rw [List.getElem?_zipIdx,hsd];simp⟩);simpa using this
  have s1:Jb H0 (upd H0 p1 (.tup [.int i,.ref qi])):=lb hp1;refine Ei ?_;have nt1:NoT H→NoT (upd H0 p1 (.tup [.int i,.ref qi])):=fun n=>(nt n).upd
  generalize upd H0 p1 (.tup [.int i,.ref qi])=H' at s1 nt1 ⊢;have smH:Jb H H':=sm.trans s1;obtain ⟨d,hd⟩:=hk sd (List.mem_of_getElem? hsd);obtain ⟨hdn,j,hj⟩:=ZG hd;have C':=C.same smH;obtain ⟨_,dx,wl,nd,e1,_,_⟩:=id C';have hB:Ys ds z sp i sd=(decide (sd.n < d.least) || decide (FA z sp i sd < sd.n + Wd d + Ec d)):=by
   unfold Ys;rw [hd];rfl
  walk_at "RD";refine ⟨_,SqT.of (smH _ _ e),rfl,_,_,rfl,_,_,rfl,_,_,rfl,rfl,_,_,e1,Vx _ _ _ (by decide +kernel),c,n,ds,j,d,by rw [hdn],C',hj,fun a W=>?_⟩;obtain ⟨dk,dxa,ha⟩:=id W;refine ⟨a,rfl,_,_,_,ha,⟨_,dk,rfl⟩,tM (by decide +kernel),a,d,rfl,W,rfl,_,rfl,_,rfl,a,rfl,_,_,_,ha,⟨_,dk,rfl⟩,tM (by decide +kernel),a,d,rfl,W,rfl,_,rfl,?_⟩;refine Pi (fun b H2=>b=Ys ds z sp i sd∧Jb H' H2∧(NoT H'→NoT H2)) (fun Q hQ=>?_) (fun H2 r=>?_) (fun H2 r=>?_)
  ·rw [hB] at hQ;walk_at "RD";refine ⟨_,W.f_least T,_,rfl,?_⟩;by_cases c1:sd.n < d.least
   ·rw [decide_eq_true c1] at hQ;rw [if_pos (decide_eq_true c1)];exact hQ _ _ ⟨rfl,Jb.refl _,id⟩
   ·rw [decide_eq_false c1,Bool.false_or] at hQ;rw [if_neg (by simpa using c1)];exact ⟨z,p,sp,i,sd,rfl,hz.1,⟨qs,smH _ _ l1,lq.same smH⟩,hs.1,hsd,fun H2 s2 n2=>⟨_,rfl,hQ _ _ ⟨rfl,s2,n2⟩⟩⟩
  ·exact absurd (r.1.trans hB0) (by decide)
  ·obtain ⟨r1,r2,r3⟩:=r;exact ⟨⟨_,_,_,_,_,_,_,rfl⟩,smH.trans r2,fun n=>r3 (nt1 n)⟩
 ·rintro σ H' ⟨_,sm,nt⟩;exact q _ sm nt
theorem UK (T:Txt w K mg t):Pb P w K mg base CX0 4 t.Oe t.Ke q45 (CH t):=by
 have g48:Pb P w K mg base CX0 3 t.fF t.KG q12 (LG t):=GL T;refine T.cg.ok Ae (fun vs H Q E h=>?_) (fun _ _ _ s H vs Q E hr h=>?_)
 ·obtain ⟨c,n,ds,d1,d2,p1,p2,m1,m2,rfl,_⟩:=h;rfl
 obtain ⟨c,n,ds,d1,d2,p1,p2,m1,m2,rfl,C,h1,h2,L1,L2,hl,hm,hN,q⟩:=h;refine ⟨_,(db (Cb (i:=5) Ae.nd rfl (Or.inl rfl) (xb g48 hr rfl T.YM T.WI.kp T.wM .nil Db (ab (pv 0) (ab (pv 1) (ab (pv 2) fb)))))
   (qb (Bd PassesOwn.never rfl (Gn rfl T.ig (ab (pv 3) fb)) (Ve (K:=K) (n:=2) rfl rfl (Nb (yb (i:=6) Ae.nd rfl (Or.inl rfl) (.inl rfl)) (Nb (yb (i:=7) Ae.nd rfl (Or.inl rfl) (.inl rfl)) Ue))) (qb (Be (PW.pt (dC (Rb Ji (kc Zb (pv 4) (pv 6) (fun _ _=>rfl)) pb (Xb _)) (cy (Rb WM (pv 7) (pv 5) (Xb _))))) (qb Dg) vc))))),?_⟩
 walk_at "RD";obtain ⟨j1,hj1,ej1⟩:=List.getElem_of_mem h1;obtain ⟨j2,hj2,ej2⟩:=List.getElem_of_mem h2;refine ⟨c,n,ds,j1,j2,d1,d2,rfl,C,by rw [List.getElem?_eq_getElem hj1,ej1],by rw [List.getElem?_eq_getElem hj2,ej2],⟨_,SqL.of L1⟩,?_⟩;rw [show (if d1.off - d2.near > 0 then d1.off - d2.near else 0)=nH d1 d2 from rfl];refine Eh.enum (xs:=m1.map V.int) (fun i σ H'=>(∃ a b,σ=[some (V.ref c),some (V.str d1.name),some (V.str d2.name),some (V.ref p1),some (V.ref p2),some (V.int (nH d1 d2)),a,b])∧Jb H H'∧(NoT H→NoT H')) ?_ ?_ ?_ ?_
 ·exact ⟨⟨_,_,rfl⟩,Jb.refl _,id⟩
 ·rintro i σ H' hi ⟨_,sm,_⟩;exact SqL.of (sm _ _ L1)
 ·rintro i v σ H0 p3 hv ⟨⟨a1,a2,rfl⟩,sm,nt⟩ hp3;obtain ⟨x1,hx1,rfl⟩:=ic hv;obtain ⟨hi,ex1⟩:=List.getElem?_eq_some_iff.mp hx1;have hi2:i < m2.length:=by omega
  have hx2:m2[i]? = some m2[i]:=List.getElem?_eq_getElem hi2;have hB0:(decide (m2[i]=0) && decide (x1 ≤ nH d1 d2))=false:=by
   have:=List.find?_eq_none.mp hN ((x1,m2[i]),i) (by rw [List.mem_iff_getElem?];exact ⟨i,by rw [List.getElem?_zipIdx,List.getElem?_zip_eq_some (z:=(x1,m2[i])) |>.mpr ⟨hx1,hx2⟩];simp⟩);simpa using this
  have s1:Jb H0 (upd H0 p3 (.tup [.int i,.int x1])):=lb hp3;refine Ei ?_;have nt1:NoT H→NoT (upd H0 p3 (.tup [.int i,.int x1])):=fun n=>(nt n).upd
  generalize upd H0 p3 (.tup [.int i,.int x1])=H' at s1 nt1 ⊢;have smH:Jb H H':=sm.trans s1;walk_at "RD";refine Dc (decide (m2[i]=0) && decide (x1 ≤ nH d1 d2)) (fun Q hQ=>?_) (fun c1=>?_) (fun c1=>?_)
  ·walk_at "RD";refine ⟨_,SqL.of (smH _ _ L2),_,Ac (by rw [List.getElem?_map,hx2];rfl),rfl,?_⟩;by_cases c0:m2[i]=0
   ·rw [decide_eq_true c0,Bool.true_and] at hQ;rw [if_pos (by rw [c0];exact decide_eq_true rfl)];exact hQ
   ·rw [decide_eq_false c0,Bool.false_and] at hQ;rw [if_neg (by rw [decide_eq_true_eq];exact fun e=>c0 (V.int.inj e))];exact hQ
  ·exact absurd (c1.symm.trans hB0) (by decide)
  ·exact ⟨⟨_,_,rfl⟩,smH,nt1⟩
 ·rintro σ H' ⟨_,sm,nt⟩;exact q _ sm nt
theorem MC (T:Txt w K mg t):Pb P w K mg base CX0 5 t.Ig t.Fg q15 (Pw t):=by
 have g49:Pb P w K mg base CX0 4 t.ng t.xg ["marks"] qz:=(PF T).mono (by decide);have g20:Pb P w K mg base CX0 4 t.Lg t.Ng q31 kI:=(qK T).mono (by decide);have g11:Pb P w K mg base CX0 4 t.Tc t.ld ["self"] (Lm t):=(zp T).mono (by decide);have g50:Pb P w K mg base CX0 4 t.xz t.Uz q12 (aD t):=(NI T).mono (by decide);have g51:Pb P w K mg base CX0 4 t.Oe t.Ke q45 (CH t):=UK T;refine T.di.ok He (fun vs H Q E h=>?_) (fun _ _ _ s H vs Q E hr h=>?_)
 ·obtain ⟨c,n,ds,z,p,sp,rfl,_⟩:=h;rfl
 obtain ⟨c,n,ds,z,p,sp,rfl,C,hn,hz,L,hs,nt0,hN,q⟩:=h;have hu:=Zw hr;refine ⟨_,(db (Cb (i:=3) He.nd rfl (Or.inl rfl) qm)
   (db (Bd PassesOwn.never rfl (zd (ae (pv 0) T.Sb T.Ed g11 hr T.Gd .nil Db)) (yb (i:=4) He.nd rfl (Or.inl rfl)) (qb (Ar hu (pv 3) (pv 4) (xb g49 hr rfl T.Gr T.ai.kp T.Ps .nil Db (ab (xb g20 hr rfl T.oo T.Fh.kp T.vo .nil Db (ab (pv 1) (ab (pv 2) (ab (pv 4) fb)))) fb)) rfl)))
   (qb (Bd PassesOwn.never rfl (zd (ae (pv 0) T.Sb T.Ed g11 hr T.Gd .nil Db)) (yb (i:=5) He.nd rfl (Or.inl rfl)) (qb (Bd PassesOwn.never rfl (zd (ae (pv 0) T.Sb T.Ed g11 hr T.Gd .nil Db)) (yb (i:=6) He.nd rfl (Or.inl rfl)) (qb (Be (PW.pt (dC (Rb qw (pv 5) (pv 6) (Xb _)) (cy (Ki (xb g50 hr rfl T.ZJ T.oC.kp T.fL .nil Db (ab (pv 0) (ab (pv 5) (ab (pv 6) fb)))))))) (qb (Fc (xb g51 hr rfl T.Rn T.cg.kp T.vn .nil Db (ab (pv 0) (ab (pv 5) (ab (pv 6) (ab (ik hu (pv 3) (pv 5) (fun _ _=>rfl)) (ab (ik hu (pv 3) (pv 6) (fun _ _=>rfl)) fb)))))))) vc)))))))),?_⟩
 walk_at "RD";intro pd hpd;obtain ⟨⟨hnd,hdl⟩,dx,wl,nd,e1,_,_⟩:=id C;have s0:Jb H (upd H pd (.dK [])):=lb hpd;refine ⟨_,_,s0 _ _ e1,Vx _ _ _ (by decide +kernel),c,n,ds,rfl,C.same s0,fun pn hpn=>⟨pn,rfl,⟨_,SqL.of cb⟩,?_⟩⟩;have hpp:pn ≠ pd:=fun e=>by subst e;rw [cb] at hpn;cases hpn
 refine Eh.list (xs:=Kb (ds.map (·.name))) (fun i σ H'=>(∃ y,σ=[some (V.ref c),some (V.int z),some (V.ref p),some (V.ref pd),y,none,none])∧Jb H H'∧NoT H'∧H' pn=some (.lst (Kb (ds.map (·.name))))∧NK H' pd ds (fun d=>.lst ((mm z sp d.name).map V.int)) i) ?_ ?_ ?_ ?_
 ·exact ⟨⟨_,rfl⟩,s0.trans (lb hpn),(nt0.upd).upd,cb,[],rfl,by rw [ub (Ne.symm hpp),cb];simp [nkv],fun i r d h=>by simp at h⟩
 ·rintro i σ H' hi zzq;refine zP fun zzM zzh=>?_
  obtain ⟨_,_,_,h,_⟩:=zzq;subst zzh;exact SqL.of h
 ·rintro i v σ H' hv zzq;refine zP fun zzM zzh=>?_
  obtain ⟨⟨y,rfl⟩,sm,nt,hpn',rs,hrl,hpd',hrs⟩:=zzq;obtain ⟨x,hx,rfl⟩:=ic hv;obtain ⟨d,hd,rfl⟩:=ic hx;subst zzh;walk_at "RD";refine ⟨z,p,d.name,sp,rfl,hz,L.same sm,hs,fun r1 H1 s1 n1 hr1 h1=>⟨r1,_,rfl,h1,by rw [Ql];exact hz,fun r2 H2 s2 n2 hr2 h2=>?_⟩⟩;have s12:=s1.trans s2;have hp2:=s12 _ _ hpd';refine ⟨_,mB.k (k:=Sum.inr d.name) hp2 (Nat.lt_of_le_of_lt (show (nkv ds rs).length ≤ 12 by unfold nkv;rw [List.length_map,List.length_zip];omega) (by decide)),?_⟩;have hdi:ds[rs.length]? = some d:=by rw [hrl];exact hd
  rw [Iu hnd hdi];have hne:∀ {b:Addr} {ys:List V},H2 b=some (.lst ys)→b ≠ pd:=fun e=>ue e hp2 (by intro z;cases z)
  refine ⟨⟨_,rfl⟩,fun b u e=>?_,(n2 (n1 nt)).upd,?_,rs ++ [r2],by rw [List.length_append,hrl];rfl,cb,fun j r e hj he=>?_⟩
  ·rw [ub (wb e hpd)];exact s12 _ _ (sm _ _ e)
  ·rw [ub hpp];exact s12 _ _ hpn'
  ·rcases se hj with ⟨_,z2⟩ | ⟨z1,rfl⟩
   ·have:=s12 _ _ (hrs j r e z2 he);rw [ub (hne this)];exact this
   ·rw [z1] at he;rw [hdi] at he;cases he;rw [ub (hne h2)];exact h2
 rintro σ H1 zzq;refine zP fun zzM zzh=>?_
 obtain ⟨⟨y,rfl⟩,sm1,nt1,hpn1,N1⟩:=zzq;have hsl:(Kb (ds.map (·.name))).length=ds.length:=by unfold Kb;simp
 subst zzh;rw [hsl] at N1;obtain ⟨rs,hrl,hpd1,hrs⟩:=N1;have C1:=C.same sm1;walk_at "RD";refine ⟨_,_,sm1 _ _ e1,Vx _ _ _ (by decide +kernel),c,n,ds,rfl,C1,fun p2 hp2=>⟨p2,rfl,⟨_,SqL.of cb⟩,?_⟩⟩;refine Eh.list (xs:=Kb (ds.map (·.name))) (fun i σ H'=>(∃ y u v,σ=[some (V.ref c),some (V.int z),some (V.ref p),some (V.ref pd),y,u,v])∧Jb H1 H'∧NoT H'∧H' p2=some (.lst (Kb (ds.map (·.name))))) ?_ ?_ ?_ ?_
 ·exact ⟨⟨_,_,_,rfl⟩,lb hp2,nt1.upd,cb⟩
 ·rintro i σ H' hi zzq;refine zP fun zzM zzh=>?_
  obtain ⟨_,_,_,h⟩:=zzq;subst zzh;exact SqL.of h
 ·rintro i v σ H2 hv zzq;refine zP fun zzM zzh=>?_
  obtain ⟨⟨y,u,v',rfl⟩,sm2,nt2,hpn2⟩:=zzq;obtain ⟨x,hx,rfl⟩:=ic hv;obtain ⟨d1,hd1,rfl⟩:=ic hx;obtain ⟨hi,hxi⟩:=List.getElem?_eq_some_iff.mp hd1;have hA:eE n z sp d1 ds=none:=List.findSome?_eq_none_iff.mp hN d1 (List.mem_of_getElem? hd1);have C2:=C1.same sm2;subst zzh;walk_at "RD";refine ⟨_,_,sm2 _ _ (sm1 _ _ e1),Vx _ _ _ (by decide +kernel),c,n,ds,rfl,C2,fun p3 hp3=>⟨p3,rfl,⟨_,SqL.of cb⟩,?_⟩⟩;refine Eh.list (xs:=Kb (ds.map (·.name))) (fun j σ H'=>(∃ y v,σ=[some (V.ref c),some (V.int z),some (V.ref p),some (V.ref pd),y,some (V.str d1.name),v])∧Jb H2 H'∧NoT H'∧H' p3=some (.lst (Kb (ds.map (·.name))))) ?_ ?_ ?_ ?_
  ·exact ⟨⟨_,_,rfl⟩,lb hp3,nt2.upd,cb⟩
  ·rintro i σ H' hi zzq;refine zP fun zzM zzh=>?_
   obtain ⟨_,_,_,h⟩:=zzq;subst zzh;exact SqL.of h
  ·rintro j v σ H3 hv zzq;refine zP fun zzM zzh=>?_
   obtain ⟨⟨y,v',rfl⟩,sm3,nt3,hpn3⟩:=zzq;obtain ⟨x,hx,rfl⟩:=ic hv;obtain ⟨d2,hd2,rfl⟩:=ic hx;obtain ⟨hj,hxj⟩:=List.getElem?_eq_some_iff.mp hd2;have hB:(Mt n z sp d1 d2).map (fun i=>(d1,d2,i))=none:=List.findSome?_eq_none_iff.mp hA d2 (List.mem_of_getElem? hd2);have hB:Mt n z sp d1 d2=none:=by simpa using hB
   have C3:=C2.same sm3;have sm13:=sm2.trans sm3;subst zzh;walk_at "RD";refine Dc (decide (d1.name ≠ d2.name) && mt n d1 d2) (fun Q hQ=>?_) (fun c1=>?_) (fun c1=>?_)
   ·walk_at "RD";by_cases c0:d1.name=d2.name
    ·rw [decide_eq_false (fun z=>z c0),Bool.false_and] at hQ;rw [if_neg (by simp [c0])];exact hQ
    ·rw [decide_eq_true c0,Bool.true_and] at hQ;rw [if_pos (by simp [c0])];exact ⟨c,n,ds,i,j,d1,d2,rfl,C3,hn,hd1,hd2,nt3,_,rfl,hQ⟩
   ·rw [Bool.and_eq_true] at c1;have c2:Mt n z sp d1 d2=(Ry (nH d1 d2) (mm z sp d1.name) (mm z sp d2.name)).map (·.2):=by
     unfold Mt;rw [if_pos ⟨of_decide_eq_true c1.1,c1.2⟩]
    rw [c2] at hB;have hB:Ry (nH d1 d2) (mm z sp d1.name) (mm z sp d2.name)=none:=by simpa using hB
    have hr1:rs[i]? = some rs[i]:=List.getElem?_eq_getElem (by omega);have hr2:rs[j]? = some rs[j]:=List.getElem?_eq_getElem (by omega);have g1:Oo H3 pd (.str d1.name) (some (.ref rs[i])):=by rw [← Qq hnd hd1 hr1];exact Oo.k (k:=Sum.inr d1.name) (sm13 _ _ hpd1)
    have g2:Oo H3 pd (.str d2.name) (some (.ref rs[j])):=by rw [← Qq hnd hd2 hr2];exact Oo.k (k:=Sum.inr d2.name) (sm13 _ _ hpd1)
    walk_at "RD";refine ⟨_,g1,_,g2,c,n,ds,d1,d2,_,_,_,_,rfl,C3,List.mem_of_getElem? hd1,List.mem_of_getElem? hd2,sm13 _ _ (hrs i _ _ hr1 hd1),sm13 _ _ (hrs j _ _ hr2 hd2),by rw [Fn,Fn],by rw [Fn];exact hz.2,hB,fun H4 s4 n4=>⟨(by first | exact ⟨_,_,rfl⟩ | exact ⟨_,rfl⟩ | simp),sm3.trans s4,n4 nt3,s4 _ _ hpn3⟩⟩
   ·exact ⟨⟨_,_,rfl⟩,sm3,nt3,hpn3⟩
  ·rintro σ H' zzq;refine zP fun zzM zzh=>?_
   obtain ⟨⟨y,v',rfl⟩,sm3,nt3,_⟩:=zzq;subst zzh;exact ⟨⟨_,_,_,rfl⟩,sm2.trans sm3,nt3,sm3 _ _ hpn2⟩
 ·rintro σ H' zzq;refine zP fun zzM zzh=>?_
  obtain ⟨_,sm,nt,_⟩:=zzq;subst zzh;exact q _ (sm1.trans sm) nt
end
end My
namespace My
open PySem L2
noncomputable abbrev GD:List Str:=[Str.ofString "crossing",Str.ofString "size",Str.ofString "spans",Str.ofString "lamps",Str.ofString "untils"]
noncomputable def plF (c:Addr) (z:Int) (p lm un:Addr):List (Str × V):=[(Str.ofString "crossing",.ref c),(Str.ofString "size",.int z),(Str.ofString "spans",.ref p),(Str.ofString "lamps",.ref lm),(Str.ofString "untils",.ref un)]
theorem Bp (c:Addr) (z:Int) (p lm un:Addr):(plF c z p lm un).map (·.1)=GD:=rfl
noncomputable def Yl (z:Nat) (sp:List SD) (d:WD):List Str:=ei z (Ec d).toNat (Wd d).toNat (ofN d.name sp)
noncomputable def Gv (z:Nat) (sp:List SD) (x:Str):List Int:=Im (fmF z (ofN x sp))
structure Ai (t:Adr) (H:Hp) (a c:Addr) (n:Int) (ds:List WD) (z:Nat) (sp:List SD):Prop where
 at_:∃ dx p lm un,H a=some (.ins t.ye dx (plF c z p lm un))∧Rc t H c n ds∧LO H p (List.map sdO sp)∧NK H lm ds (fun d=>.lst (Kb (Yl z sp d))) ds.length∧NK H un ds (fun d=>.lst ((Gv z sp d.name).map V.int)) ds.length
noncomputable def oH (t:Adr):Sp:=fun vs H Q _=>∃ (a dx c:Addr) (n:Int) (ds:List WD) (z:Nat) (p:Addr) (sp:List SD),vs=[.ref a,.ref c,.int z,.ref p]∧H a=some (.ins t.ye dx [])∧Rc t H c n ds∧DOk ds∧(0 < z∧z ≤ 1000)∧LO H p (List.map sdO sp)∧JI z sp∧NoT H ∧
 ∀ H',Yc a H H'→NoT H'→Ai t H' a c n ds z sp→Q .non H'
noncomputable def Py (t:Adr):Sp:=fun vs H Q _=>∃ (c:Addr) (n:Int) (ds:List WD) (z:Nat) (p:Addr) (sp:List SD),vs=[.ref c,.int z,.ref p]∧Rc t H c n ds∧0 < n∧DOk ds∧(0 < z∧z ≤ 1000)∧LO H p (List.map sdO sp)∧JI z sp∧(∀ s ∈ sp,∃ d,wOf ds s.name=some d)∧NoT H∧Ws ds sp=none∧Ct ds z sp=none∧Xs n z sp ds=none ∧
 ∀ a H',Jb H H'→NoT H'→Ai t H' a c n ds z sp→Q (.ref a) H'
section
variable {w:World} {K:PySem.W.Frag} {mg:Str→Option Value} {t:Adr} {H:Hp} {a c dx p lm un:Addr} {z:Int}
theorem Yy (T:Txt w K mg t) (e:H a=some (.ins t.ye dx (plF c z p lm un))):Bj K H a (Str.ofString "lamps") (.ref lm):=⟨_,dx,_,e,T.ij,T.Om,pe GD 3 (Bp ..) (by decide +kernel) rfl⟩
theorem GB (T:Txt w K mg t) (e:H a=some (.ins t.ye dx (plF c z p lm un))):Bj K H a (Str.ofString "untils") (.ref un):=⟨_,dx,_,e,T.ij,T.Il,pe GD 4 (Bp ..) (by decide +kernel) rfl⟩
end
theorem iD {H:Hp} {a b C C' dx dx':Addr} {fs:List (Str × V)} (ha:H a=some (.ins C dx [])) (hb:H b=some (.ins C' dx' fs)) (hf:fs ≠ []):b ≠ a:=fun z=>by
 subst z;rw [hb] at ha;have e:=Option.some.inj ha;injection e with _ _ e3;exact hf e3
theorem Rc.sameX {t:Adr} {H H':Hp} {a c C dx:Addr} {n:Int} {ds:List WD} (h:Rc t H c n ds) (s:Yc a H H') (ha:H a=some (.ins C dx [])):Rc t H' c n ds:=by
 obtain ⟨h0,dx',wl,nd,e1,⟨as,w1,w2,al⟩,e3⟩:=h;refine ⟨h0,dx',wl,nd,s _ _ (iD ha e1 (by unfold cF;simp)) e1,⟨as,s _ _ (ue w1 ha (by intro z;cases z)) w1,w2,fun i b d hb hd=>?_⟩,s _ _ (ue e3 ha (by intro z;cases z)) e3⟩;obtain ⟨k,dxb,eb⟩:=al i b d hb hd;exact ⟨k,dxb,s _ _ (iD ha eb (by unfold No;simp)) eb⟩
theorem LO.sameX {H H':Hp} {a p C dx:Addr} {sp:List SD} (h:LO H p (List.map sdO sp)) (s:Yc a H H') (ha:H a=some (.ins C dx [])):LO H' p (List.map sdO sp):=by
 obtain ⟨qs,l1,l2⟩:=h;refine ⟨qs,s _ _ (ue l1 ha (by intro z;cases z)) l1,l2.1,fun i q o hq ho=>?_⟩;have e:=l2.2 i q o hq ho;refine s _ _ (ue e ha ?_) e;obtain ⟨d,_,rfl⟩:=ic ho;intro z;cases z
section
variable {P:Program} {w:World} {K:PySem.W.Frag} {mg:Str→Option Value} {base:Heap} {t:Adr}
theorem CL (T:Txt w K mg t):Pb P w K mg base CX0 4 t.Dh t.fj q52 (oH t):=by
 have g52:Pb P w K mg base CX0 3 t.Ky t.zz q40 (EB t):=(jJ T).mono (by decide);have g19:Pb P w K mg base CX0 3 t.pf t.cf ["marks"] mv:=(pz T).mono (by decide);have g20:Pb P w K mg base CX0 3 t.Lg t.Ng q31 kI:=(qK T).mono (by decide);have g11:Pb P w K mg base CX0 3 t.Tc t.ld ["self"] (Lm t):=(zp T).mono (by decide);have g9:Pb P w K mg base CX0 3 t.nc t.zc q8 (oh t):=(Li T).mono (by decide);refine T.Zp.ok wj (fun vs H Q E h=>?_) (fun _ _ _ s H vs Q E hr h=>?_)
 ·obtain ⟨a,dx,c,n,ds,z,p,sp,rfl,_⟩:=h;rfl
 obtain ⟨a,dx,c,n,ds,z,p,sp,rfl,ha,C,hD,hz,L,hs,nt0,q⟩:=h;have hu:=Zw hr;refine ⟨_,(db (Zf (pv 0) (pv 1) rfl)
   (db (Zf (pv 0) (pv 2) rfl)
   (db (Zf (pv 0) (pv 3) rfl)
   (db (Zf (pv 0) qm rfl)
   (db (Zf (pv 0) qm rfl)
   (qb (Bd PassesOwn.never rfl (zd (ae (pv 1) T.Sb T.Ed g11 hr T.Gd .nil Db)) (yb (i:=4) wj.nd rfl (Or.inl rfl)) (db (Ar hu (Ic (pv 0) rfl) (pv 4) (xb g52 hr rfl T.gM T.cE.kp T.mK .nil Db (ab (bd (pv 1) T.Sb T.Jc g9 hr T.Lc .nil Db (ab (pv 4) fb)) (ab (pv 2) (ab (pv 3) fb)))) rfl)
   (qb (Ar hu (Ic (pv 0) rfl) (pv 4) (xb g19 hr rfl T.ml T.vg.kp T.Tk .nil Db (ab (xb g20 hr rfl T.oo T.Fh.kp T.vo .nil Db (ab (pv 2) (ab (pv 3) (ab (pv 4) fb)))) fb)) rfl)))))))))),?_⟩
 walk_at "RD";refine ⟨_,_,_,ha,T.ij,T.zj,by decide,?_⟩;refine ⟨_,_,_,cb,T.ij,T.so,gn (n:=999) (by decide),?_⟩;refine ⟨_,_,_,cb,T.ij,T.eu,gn (n:=999) (gn (n:=998) (by decide)),fun lm hlm=>?_⟩;simp only [Oq] at hlm ⊢;rw [show Hi (Str.ofString "crossing") (V.ref c) ([]:List (Str × V))=[(Str.ofString "crossing",V.ref c)] from rfl,show Hi (Str.ofString "size") (V.int z) [(Str.ofString "crossing",V.ref c)]=[(Str.ofString "crossing",V.ref c),(Str.ofString "size",V.int z)] from Ld [Str.ofString "crossing"] rfl (by decide +kernel),show Hi (Str.ofString "spans") (V.ref p) [(Str.ofString "crossing",V.ref c),(Str.ofString "size",V.int z)]=[(Str.ofString "crossing",V.ref c),(Str.ofString "size",V.int z),(Str.ofString "spans",V.ref p)] from Ld [Str.ofString "crossing",Str.ofString "size"] rfl (by decide +kernel)] at hlm ⊢;have hla:a ≠ lm:=fun z=>by subst z;rw [cb] at hlm;cases hlm
 have hHl:H lm=none:=by rw [ub (Ne.symm hla)] at hlm;exact hlm
 refine ⟨t.ye,dx,[(Str.ofString "crossing",V.ref c),(Str.ofString "size",V.int z),(Str.ofString "spans",V.ref p)],by rw [ub hla];exact cb,T.ij,T.Om,show (3:Nat) < 1000 by decide,fun un hun=>?_⟩;rw [show Hi (Str.ofString "lamps") (V.ref lm) [(Str.ofString "crossing",V.ref c),(Str.ofString "size",V.int z),(Str.ofString "spans",V.ref p)]=[(Str.ofString "crossing",V.ref c),(Str.ofString "size",V.int z),(Str.ofString "spans",V.ref p),(Str.ofString "lamps",V.ref lm)] from Ld [Str.ofString "crossing",Str.ofString "size",Str.ofString "spans"] rfl (by decide +kernel)] at hun ⊢;have hua:a ≠ un:=fun z=>by subst z;rw [cb] at hun;cases hun
 have hul:un ≠ lm:=fun z=>by subst z;rw [ub (Ne.symm hua),cb] at hun;cases hun
 have hHu:H un=none:=by rw [ub (Ne.symm hua),ub hul,ub (Ne.symm hua)] at hun;exact hun
 refine ⟨t.ye,dx,[(Str.ofString "crossing",V.ref c),(Str.ofString "size",V.int z),(Str.ofString "spans",V.ref p),(Str.ofString "lamps",V.ref lm)],by rw [ub hua];exact cb,T.ij,T.Il,show (4:Nat) < 1000 by decide,?_⟩;rw [show Hi (Str.ofString "untils") (V.ref un) [(Str.ofString "crossing",V.ref c),(Str.ofString "size",V.int z),(Str.ofString "spans",V.ref p),(Str.ofString "lamps",V.ref lm)]=plF c z p lm un from Ld [Str.ofString "crossing",Str.ofString "size",Str.ofString "spans",Str.ofString "lamps"] rfl (by decide +kernel)];have hf:∃ H5:Hp,H5=upd (upd (upd (upd (upd H a (.ins t.ye dx [(Str.ofString "crossing",V.ref c),(Str.ofString "size",V.int z),(Str.ofString "spans",V.ref p)])) lm (.dK [])) a (.ins t.ye dx [(Str.ofString "crossing",V.ref c),(Str.ofString "size",V.int z),(Str.ofString "spans",V.ref p),(Str.ofString "lamps",V.ref lm)])) un (.dK [])) a (.ins t.ye dx (plF c z p lm un)):=⟨_,rfl⟩;obtain ⟨H5,h5⟩:=hf;rw [← h5];have g1:H5 a=some (.ins t.ye dx (plF c z p lm un)):=by rw [h5,cb]
 have g2:H5 lm=some (.dK []):=by rw [h5,ub (Ne.symm hla),ub (Ne.symm hul),ub (Ne.symm hla),cb]
 have g3:H5 un=some (.dK []):=by rw [h5,ub (Ne.symm hua),cb]
 have g4:Yc a H H5:=fun b u hb e=>by rw [h5,ub hb,ub (wb e hHu),ub hb,ub (wb e hHl),ub hb];exact e
 have g5:NoT H5:=by rw [h5];exact ((((nt0.upd).upd).upd).upd).upd
 clear h5;have C5:=C.sameX g4 ha;obtain ⟨⟨hnd,hdl⟩,dxc,wl,nd,e1,_,_⟩:=id C5;refine ⟨_,_,e1,Vx _ _ _ (by decide +kernel),c,n,ds,rfl,C5,fun pn hpn=>⟨pn,rfl,⟨_,SqL.of cb⟩,?_⟩⟩;refine Eh.list (xs:=Kb (ds.map (·.name))) (fun i σ H'=>(∃ y,σ=[some (V.ref a),some (V.ref c),some (V.int z),some (V.ref p),y])∧Yc a H H'∧NoT H'∧H' a=some (.ins t.ye dx (plF c z p lm un))∧H' pn=some (.lst (Kb (ds.map (·.name))))∧NK H' lm ds (fun d=>.lst (Kb (Yl z sp d))) i∧NK H' un ds (fun d=>.lst ((Gv z sp d.name).map V.int)) i) ?_ ?_ ?_ ?_
 ·have sn:=lb (o:=.lst (Kb (ds.map (·.name)))) hpn;exact ⟨⟨_,rfl⟩,g4.trans (Yc.of sn),g5.upd,sn _ _ g1,cb,⟨[],rfl,by rw [sn _ _ g2];simp [nkv],fun i r d h=>by simp at h⟩,⟨[],rfl,by rw [sn _ _ g3];simp [nkv],fun i r d h=>by simp at h⟩⟩
 ·rintro i σ H' hi zzq;refine zP fun zzM zzh=>?_
  obtain ⟨_,_,_,_,h,_⟩:=zzq;subst zzh;exact SqL.of h
 ·rintro i v σ H' hv zzq;refine zP fun zzM zzh=>?_
  obtain ⟨⟨y,rfl⟩,sx,nt,ha',hpn',⟨rl,hrl,hlm',hrs⟩,⟨ru,hru,hun',hus⟩⟩:=zzq;obtain ⟨x,hx,rfl⟩:=ic hv;obtain ⟨d,hd,rfl⟩:=ic hx;have C':=C.sameX sx ha;have L':=L.sameX sx ha;obtain ⟨_,dxc',wl',nd',e1',_,_⟩:=id C';subst zzh;walk_at "RD";refine ⟨_,_,e1',Vx _ _ _ (by decide +kernel),c,n,ds,i,d,rfl,C',hd,fun wa W=>?_⟩;have hdi:ds[rl.length]? = some d:=by rw [hrl];exact hd
  have hdj:ds[ru.length]? = some d:=by rw [hru];exact hd
  refine ⟨wa,d,z,p,sp,rfl,hz,W,L',hs,hD d (List.mem_of_getElem? hd),fun r1 H1 s1 n1 hr1 h1=>⟨_,Yy T (s1 _ _ ha'),lm,rfl,_,mB.k (k:=Sum.inr d.name) (s1 _ _ hlm') (Nat.lt_of_le_of_lt (show (nkv ds rl).length ≤ 12 by unfold nkv;rw [List.length_map,List.length_zip];omega) (by decide)),?_⟩⟩;rw [Iu hnd hdi];have kl:∀ {b:Addr} {u:HO},H' b=some u→b ≠ lm→upd H1 lm (.dK (nkv ds (rl ++ [r1]))) b=some u:=fun e h=>by rw [ub h];exact s1 _ _ e
  have k1:Yc a H (upd H1 lm (.dK (nkv ds (rl ++ [r1])))):=fun b u hb e=>kl (sx b u hb e) (wb e hHl)
  refine ⟨z,p,d.name,sp,rfl,hz,L.sameX k1 ha,hs,fun r3 H3 s3 n3 hr3 h3=>⟨r3,_,rfl,h3,by rw [Ql];exact hz,fun r4 H4 s4 n4 hr4 h4=>?_⟩⟩;have s34:=s3.trans s4;have un2:H4 un=some (.dK (nkv ds ru)):=s34 _ _ (kl hun' hul);have a2:H4 a=some (.ins t.ye dx (plF c z p lm un)):=s34 _ _ (kl ha' hla);refine ⟨_,GB T a2,un,rfl,_,mB.k (k:=Sum.inr d.name) un2 (Nat.lt_of_le_of_lt (show (nkv ds ru).length ≤ 12 by unfold nkv;rw [List.length_map,List.length_zip];omega) (by decide)),?_⟩;rw [Iu hnd hdj];have ku:∀ {b:Addr} {u:HO},upd H1 lm (.dK (nkv ds (rl ++ [r1]))) b=some u→b ≠ un→upd H4 un (.dK (nkv ds (ru ++ [r4]))) b=some u:=fun e h=>by rw [ub h];exact s34 _ _ e
  have nel:∀ {b:Addr} {ys:List V},H' b=some (.lst ys)→b ≠ lm:=fun e=>ue e hlm' (by intro z;cases z)
  have neu:∀ {b:Addr} {ys:List V},H' b=some (.lst ys)→b ≠ un:=fun e=>ue e hun' (by intro z;cases z)
  have r1l:r1 ≠ lm:=ue h1 (s1 _ _ hlm') (by intro z;cases z);have r1u:r1 ≠ un:=ue h1 (s1 _ _ hun') (by intro z;cases z);have r4u:r4 ≠ un:=ue h4 un2 (by intro z;cases z);refine ⟨⟨_,rfl⟩,fun b u hb e=>ku (k1 b u hb e) (wb e hHu),(n4 (n3 (n1 nt).upd)).upd,ku (kl ha' hla) hua,ku (kl hpn' (nel hpn')) (neu hpn'),⟨rl ++ [r1],by rw [List.length_append,hrl];rfl,ku cb (Ne.symm hul),fun j r e hj he=>?_⟩,⟨ru ++ [r4],by rw [List.length_append,hru];rfl,cb,fun j r e hj he=>?_⟩⟩
  ·rcases se hj with ⟨_,z2⟩ | ⟨z1,rfl⟩
   ·have:=hrs j r e z2 he;exact ku (kl this (nel this)) (neu this)
   ·rw [z1,hdi] at he;cases he;exact ku (by rw [ub r1l];exact h1) r1u
  ·rcases se hj with ⟨_,z2⟩ | ⟨z1,rfl⟩
   ·have:=hus j r e z2 he;exact ku (kl this (nel this)) (neu this)
   ·rw [z1,hdj] at he;cases he;rw [ub r4u];exact h4
 ·rintro σ H' zzq;refine zP fun zzM zzh=>?_
  obtain ⟨_,sx,nt,ha',_,N1,N2⟩:=zzq;have hsl:(Kb (ds.map (·.name))).length=ds.length:=by unfold Kb;simp
  subst zzh;rw [hsl] at N1 N2;exact q _ sx nt ⟨dx,p,lm,un,ha',C.sameX sx ha,L.sameX sx ha,N1,N2⟩
theorem dG (T:Txt w K mg t):Pb P w K mg base CX0 6 t.gj t.Ti q46 (Py t):=by
 have g9:Pb P w K mg base CX0 5 t.nc t.zc q8 (oh t):=(Li T).mono (by decide);have g53:Pb P w K mg base CX0 4 t.Dh t.fj q52 (oH t):=CL T;have g54:Pb P w K mg base CX0 5 t.Hg t.zg q43 (Sw t):=(UD T).mono (by decide);have g55:Pb P w K mg base CX0 5 t.Gg t.yg q15 (Jw t):=(uD T).mono (by decide);have g56:Pb P w K mg base CX0 5 t.Ig t.Fg q15 (Pw t):=MC T;refine T.Tl.ok Pg (fun vs H Q E h=>?_) (fun _ _ _ s H vs Q E hr h=>?_)
 ·obtain ⟨c,n,ds,z,p,sp,rfl,_⟩:=h;rfl
 obtain ⟨c,n,ds,z,p,sp,rfl,C,hn,hD,hz,L,hs,hw,nt0,hN,hS,hC,q1⟩:=h;refine ⟨_,(db (bg (i:=3) Pg.nd rfl (Or.inl rfl) rfl (zd (pv 2)) (jc (sc:=rb Kl) rfl (by decide +kernel)) (N:=q54) (sel:=[none,none,none]) (Gc (M:=["crossing","size","rows","spans","name","begin","turns"]) (by decide +kernel)) (Blk.of (fun _ _ _ _=>(Ve (K:=K) (n:=3) rfl rfl (Nb (yb (i:=0) (Xe (N:=q54) (by decide +kernel) rfl) rfl (Or.inl rfl) (.inr rfl)) (Nb (yb (i:=1) (Xe (N:=q54) (by decide +kernel) rfl) rfl (Or.inl rfl) (.inr rfl)) (Nb (yb (i:=2) (Xe (N:=q54) (by decide +kernel) rfl) rfl (Or.inl rfl) (.inr rfl)) Ue))))) (fun _ _ _ _=>⟨_,Qd,by walk_at "B"⟩) (fun _ _ _ _=>⟨_,(Yg (ab (pv 0) (ab (pv 1) (ab (pv 2) fb)))),by walk_at "B"⟩)) rfl)
   (db (Bd PassesOwn.never rfl (zd (pv 3)) (Ve (K:=K) (n:=3) rfl rfl (Nb (yb (i:=4) Pg.nd rfl (Or.inl rfl) (.inl rfl)) (Nb (yb (i:=5) Pg.nd rfl (Or.inl rfl) (.inl rfl)) (Nb (yb (i:=6) Pg.nd rfl (Or.inl rfl) (.inl rfl)) Ue)))) (qb (Fc (bd (pv 0) T.Sb T.Jc g9 hr T.Lc .nil Db (ab (pv 4) fb)))))
   (db (Fc (xb g54 hr rfl T.Ur T.ii.kp T.Ms .nil Db (ab (pv 0) (ab (pv 3) fb))))
   (db (Fc (xb g55 hr rfl T.Cs T.Yh.kp T.Ir .nil Db (ab (pv 0) (ab (pv 1) (ab (pv 3) fb)))))
   (db (Fc (xb g56 hr rfl T.Zr T.di.kp T.Fs .nil Db (ab (pv 0) (ab (pv 1) (ab (pv 3) fb)))))
   (qb (Gb (Jn T.tL g53 hr rfl T.AL T.Ux .nil Db (ab (pv 0) (ab (pv 1) (ab (pv 3) fb))))))))))),?_⟩
 walk_at "RD";obtain ⟨qs,l1,lq⟩:=L;have hql:qs.length=sp.length:=by rw [lq.1,List.length_map]
 have hs1:=hs.1;refine ⟨⟨_,SqL.of l1⟩,?_⟩;refine ed.list (xs:=qs.map V.ref) (fun i ys H'=>∃ os:List Addr,ys=os.map V.ref∧LQ H' os ((sp.take i).map sdO)∧Jb H H'∧NoT H') (Nat.le_trans (show (qs.map V.ref).length ≤ 100 by rw [List.length_map];omega) (by decide)) ⟨[],rfl,by rw [List.take_zero];exact LQ.nil _,Jb.refl _,nt0⟩ ?_ ?_ ?_
 ·rintro i ys H' hi zzq;refine zP fun zzM zzh=>?_
  obtain ⟨os,rfl,r,sm,_⟩:=zzq;subst zzh;refine ⟨(SqL.of l1).same sm,?_⟩;rw [List.length_map,r.1,List.length_map,List.length_take];omega
 ·rintro i v ys H' hv ⟨os,rfl,r,sm,nt⟩ N hN;obtain ⟨qi,hqi,rfl⟩:=ic hv;obtain ⟨o,ho,e⟩:=lq.at hqi;obtain ⟨d,hd,rfl⟩:=ic ho;have e':=sm _ _ e;dsimp only at hN;rw [df hd,List.map_append] at hN;walk_at "RD";refine ⟨_,SqT.of e',rfl,_,_,rfl,_,_,rfl,_,_,rfl,rfl,Sub.name3,by decide,fun p1 hp1=>?_⟩;exact hN _ _ ⟨os ++ [p1],by rw [List.map_append];rfl,(r.same (lb hp1)).app (LQ.one cb),sm.trans (lb hp1),nt.upd⟩
 rintro ys H1 ⟨os,rfl,r,sm1,nt1⟩ p1 hp1;rw [List.take_of_length_le (by rw [List.length_map];omega)] at r;have s2:Jb H1 (upd H1 p1 (.lst (os.map V.ref))):=lb hp1;have nt2:NoT (upd H1 p1 (.lst (os.map V.ref))):=nt1.upd;have L2:LO (upd H1 p1 (.lst (os.map V.ref))) p1 (List.map sdO sp):=⟨os,cb,r.same s2⟩;have sm2:=sm1.trans s2;generalize upd H1 p1 (.lst (os.map V.ref))=H2 at s2 nt2 L2 sm2 ⊢;have C2:=C.same sm2;obtain ⟨_,dxc,wl,nd,e1,_,_⟩:=id C2;obtain ⟨qs2,m1,mq⟩:=id L2;have hql2:qs2.length=sp.length:=by rw [mq.1,List.length_map]
 walk_at "RD";refine ⟨⟨_,SqL.of m1⟩,?_⟩;refine Eh.list (xs:=qs2.map V.ref) (fun i σ H'=>(∃ x y z',σ=[some (V.ref c),some (V.int z),some (V.ref p),some (V.ref p1),x,y,z'])∧H'=H2) ?_ ?_ ?_ ?_
 ·exact ⟨⟨_,_,_,rfl⟩,rfl⟩
 ·rintro i σ H' hi ⟨_,rfl⟩;exact SqL.of m1
 ·rintro i v σ H' hv zzq;refine zP fun zzM zzh=>?_
  obtain ⟨⟨x,y,z',rfl⟩,rfl⟩:=zzq;obtain ⟨qi,hqi,rfl⟩:=ic hv;obtain ⟨o,ho,e⟩:=mq.at hqi;obtain ⟨sd,hsd,rfl⟩:=ic ho;obtain ⟨d,hd⟩:=hw sd (List.mem_of_getElem? hsd);obtain ⟨hdn,j,hj⟩:=ZG hd;subst zzh;walk_at "RD";exact ⟨_,SqT.of e,rfl,_,_,rfl,_,_,rfl,_,_,rfl,rfl,_,_,e1,Vx _ _ _ (by decide +kernel),c,n,ds,j,d,by rw [hdn],C2,hj,fun a W=>⟨(by first | exact ⟨_,_,_,rfl⟩ | exact ⟨_,_,rfl⟩ | exact ⟨_,rfl⟩ | simp),rfl⟩⟩
 rintro σ H' zzq;refine zP fun zzM zzh=>?_
 obtain ⟨⟨x,y,z',rfl⟩,rfl⟩:=zzq;subst zzh;walk_at "RD";refine ⟨c,n,ds,p1,sp,rfl,C2,L2,hs1,hN,fun H3 s3 n3=>?_⟩;have nt3:=n3 nt2;have C3:=C2.same s3;have L3:=L2.same s3;walk_at "RD";refine ⟨c,n,ds,z,p1,sp,rfl,C3,hD,⟨by omega,by omega⟩,L3,hs,hw,hS,fun H4 s4 n4=>?_⟩;have nt4:=n4 nt3;have C4:=C3.same s4;have L4:=L3.same s4;walk_at "RD";refine ⟨c,n,ds,z,p1,sp,rfl,C4,hn,hz,L4,hs,nt4,hC,fun H5 s5 nt5=>?_⟩;have C5:=C4.same s5;have L5:=L4.same s5;walk_at "RD";intro a dx ha hdx hne;have sc:Jb H5 (upd (upd H5 dx (.own a)) a (.ins t.ye dx [])):=((Jb.refl H5).updN hdx).updN ha;refine ⟨a,dx,c,n,ds,z,p1,sp,rfl,cb,C5.same sc,hD,hz,L5.same sc,hs,(nt5.upd).upd,fun H6 s6 nt6 PA=>⟨rfl,?_⟩⟩;have sm5:=((sm2.trans s3).trans s4).trans s5;exact q1 a H6 (re (sm5.trans sc) s6 (sm5.free ha)) nt6 PA
end
end My
namespace My
open PySem L2
noncomputable abbrev S (x:String):Str:=Str.ofString x
noncomputable def Al (s:SD):List Str:=[S "free",s.name,num s.b,num s.n]
noncomputable def Nf (z:Int) (sp:List SD):List (List Str):=[S "round",num z] :: sp.map Al
noncomputable def DC (z:Int) (sp:List SD):Str:=Str.join nl ((Nf z sp).map (Str.join bk))
noncomputable def Mm (ds:List WD) (sp:List SD):List Str:=(ds.map (·.name)).filter fun x=>decide ((ofN x sp).length < 3)
noncomputable def pM (z:Int) (d:SD):Prop:=0 ≤ d.b∧d.b < z∧1 ≤ d.n∧d.n ≤ z
structure qx (z:Int) (ds:List WD) (sp:List SD):Prop where
 ln:sp.length ≤ 40
 nm:∀ s ∈ sp,made s.name Vg 8=true
 kn:∀ (i:Nat) (d:SD),sp[i]? = some d→d.name ∈ Mm ds (sp.take i)
 sd:∀ s ∈ sp,pM z s
noncomputable def zB (t:Adr):Sp:=fun vs H Q _=>∃ q row z,vs=[.ref q]∧Cf t H q row [S "round",num z] 0∧(1 ≤ z∧z ≤ 240)∧NoT H∧nN q H (Q (.int z))
noncomputable def RD (t:Adr):Sp:=fun vs H Q _=>∃ q row c n ds z p sp d,vs=[.ref q,.ref c,.int z,.ref p]∧Cf t H q row (Al d) 0∧Rc t H c n ds∧(1 ≤ z∧z ≤ 240)∧LO H p (List.map sdO sp)∧sp.length ≤ 100∧NoT H∧d.name ∈ Mm ds sp∧pM z d ∧
 ∀ x H',Yc q H H'→NoT H'→H' x=some (sdO d)→H x=none→Q (.ref x) H'
noncomputable def Ly (t:Adr):Sp:=fun vs H Q _=>∃ (c:Addr) (n:Int) (ds:List WD) (z:Nat) (sp:List SD),vs=[.ref c,.str (DC z sp)]∧Rc t H c n ds∧0 < n∧DOk ds∧(1 ≤ z∧z ≤ 240)∧qx z ds sp∧NoT H∧Ws ds sp=none∧Ct ds z sp=none∧Xs n z sp ds=none ∧
 ∀ a H',Jb H H'→NoT H'→Ai t H' a c n ds z sp→Q (.ref a) H'
theorem qx.ok {z:Int} {ds:List WD} {sp:List SD} (h:qx z ds sp) (hz:z ≤ 240):JI z sp:=⟨Nat.le_trans h.ln (by decide),fun d hd=>by have:=h.sd d hd;unfold pM at this;omega⟩
theorem qx.wOf {z:Int} {ds:List WD} {sp:List SD} (h:qx z ds sp):∀ s ∈ sp,∃ d,wOf ds s.name=some d:=fun s hs=>by
 obtain ⟨i,hi⟩:=List.getElem?_of_mem hs;obtain ⟨d,hd,e⟩:=List.mem_map.mp (List.mem_filter.mp (h.kn i s hi)).1;unfold My.wOf;cases hf:ds.find? fun d=>decide (d.name=s.name) with
 | some d'=>exact ⟨d',rfl⟩
 | none=>exact absurd (List.find?_eq_none.mp hf d hd) (by simp [e])
theorem Dt {z:Nat} {ds:List WD} {sp:List SD} (hz:z ≤ 240) (h:qx z ds sp):(ji (DC z sp)=Nf z sp)∧(DC z sp).length ≤ 20000∧∀ r ∈ Nf z sp,r ≠ []∧r.length ≤ 1000∧∀ y ∈ r,y.length ≤ 1000:=by
 have pl:∀ r ∈ Nf z sp,(r ≠ []∧r.length ≤ 4)∧∀ x ∈ r,Tx x:=fun r hr=>by
  rcases List.mem_cons.mp hr with rfl | hr
  ·refine ⟨⟨by simp,by simp⟩,fun x hx=>?_⟩;simp only [List.mem_cons,List.not_mem_nil,or_false] at hx;rcases hx with rfl | rfl
   ·exact ⟨by decide +kernel,by decide +kernel,by decide +kernel⟩
   ·exact Vd (by omega) (by omega)
  ·obtain ⟨s,hs,rfl⟩:=List.mem_map.mp hr;have g:=h.sd s hs;unfold pM at g;refine ⟨⟨by simp [Al],by simp [Al]⟩,fun x hx=>?_⟩;simp only [Al,List.mem_cons,List.not_mem_nil,or_false] at hx;rcases hx with rfl | rfl | rfl | rfl
   ·exact ⟨by decide +kernel,by decide +kernel,by decide +kernel⟩
   ·exact Dn (h.nm s hs)
   ·exact Vd (by omega) (by omega)
   ·exact Vd (by omega) (by omega)
 refine ⟨Qw (by simp [Nf]) (fun r hr=>(pl r hr).1.1) fun r hr=>(pl r hr).2,?_,fun r hr=>⟨(pl r hr).1.1,Nat.le_trans (pl r hr).1.2 (by decide),fun y hy=>Nat.le_trans ((pl r hr).2 y hy).1 (by decide)⟩⟩;have h1:∀ y ∈ (Nf z sp).map (Str.join bk),y.length ≤ 36:=fun y hy=>by
  obtain ⟨r,hr,rfl⟩:=List.mem_map.mp hy;have:=mr bk 8 r fun x hx=>((pl r hr).2 x hx).1
  rw [Qz] at this;have:=(pl r hr).1.2;omega
 have h2:=mr nl 36 _ h1;rw [Tw] at h2;have h3:((Nf z sp).map (Str.join bk)).length ≤ 41:=by
  have:=h.ln;simp [Nf];omega
 unfold DC;omega
theorem Rc.sameR {t:Adr} {H H':Hp} {q c:Addr} {n:Int} {ds:List WD} {row:Int} {ws:List Str} {k:Nat} (h:Rc t H c n ds) (s:Yc q H H') (R:Cf t H q row ws k):Rc t H' c n ds:=by
 obtain ⟨h0,dx',wl,nd,e1,⟨as,w1,w2,al⟩,e3⟩:=h;obtain ⟨_,dq,ta,f1,f2⟩:=id R;refine ⟨h0,dx',wl,nd,s _ _ (fun z=>?_) e1,⟨as,s _ _ (ue w1 f1 (by intro z;cases z)) w1,w2,fun i b d hb hd=>?_⟩,s _ _ (ue e3 f1 (by intro z;cases z)) e3⟩
 ·subst z;rw [e1] at f1;have e:=Option.some.inj f1;injection e with _ _ e4;unfold cF rdF at e4;injection e4 with e5 _;injection e5 with e6 _;exact absurd e6 (by decide +kernel)
 ·have W:=al i b d hb hd;have hn:=Vv W R;exact ⟨W.1,W.2.imp fun dx e=>s _ _ hn e⟩
theorem LO.sameR {t:Adr} {H H':Hp} {q p:Addr} {sp:List SD} {row:Int} {ws:List Str} {k:Nat} (h:LO H p (List.map sdO sp)) (s:Yc q H H') (R:Cf t H q row ws k):LO H' p (List.map sdO sp):=by
 obtain ⟨_,dq,ta,f1,f2⟩:=id R;obtain ⟨qs,l1,l2⟩:=h;refine ⟨qs,s _ _ (ue l1 f1 (by intro z;cases z)) l1,l2.1,fun i q o hq ho=>?_⟩;have e:=l2.2 i q o hq ho;refine s _ _ (ue e f1 ?_) e;obtain ⟨d,_,rfl⟩:=ic ho;intro z;cases z
section
variable {P:Program} {w:World} {K:PySem.W.Frag} {mg:Str→Option Value} {base:Heap} {t:Adr}
theorem PH (T:Txt w K mg t):Pb P w K mg base CX0 5 t.Ri t.mj ["reader"] (zB t):=by
 have g12:Pb P w K mg base CX0 4 t.Cc t.Pc q20 (vm K t):=(Dp T).mono (by decide);have g8:Pb P w K mg base CX0 4 t.ac t.xc q16 (bo t):=Yq T;have g14:Pb P w K mg base CX0 4 t.Bc t.Mc ["self"] (aw t):=(Hz T).mono (by decide);refine T.Vl.ok wo (fun vs H Q E h=>?_) (fun _ _ _ s H vs Q E hr h=>?_)
 ·obtain ⟨q,row,z,rfl,_⟩:=h;rfl
 obtain ⟨q,row,z,rfl,R,hz,nt,qq⟩:=h;refine ⟨_,(db (Fc (bd (pv 0) T.Ab T.Nd g12 hr T.Kd .nil Db (ab (Td (ab Wc fb)) fb)))
   (db (Cb (i:=1) wo.nd rfl (Or.inl rfl) (bd (pv 0) T.Ab T.Yb g8 hr T.dc .nil Db (ab pb (ab (dg rfl T.Ax T.yx) fb))))
   (db (Fc (ae (pv 0) T.Ab T.ze g14 hr T.we .nil Db))
   (qb (Gb (pv 1)))))),?_⟩
 obtain ⟨_,dx,ta,e1,e2⟩:=id R;walk_at "RD";refine ⟨_,_,e1,Cf.no _ _ _ (by decide +kernel),by decide,fun p hp=>?_⟩;have s0:Jb H (upd H p (.lst [V.str (Str.ofString "round")])):=lb hp;refine ⟨q,row,_,0,_,p,[Str.ofString "round"],rfl,R.same s0,rfl,SqL.of cb,by simp,fun H1 s1 n1 R1=>?_⟩;obtain ⟨_,dx1,ta1,f1,f2⟩:=id R1;walk_at "RD";refine ⟨_,_,f1,Cf.no _ _ _ (by decide +kernel),⟨q,row,_,1,_,1,240,z,rfl,R1,rfl,kj (by omega) (by omega) (by omega) (by omega),n1 nt.upd,fun H2 s2 n2 R2=>?_⟩⟩;obtain ⟨_,dx2,ta2,g1,g2⟩:=id R2;walk_at "RD";refine ⟨_,_,g1,Cf.no _ _ _ (by decide +kernel),⟨q,row,_,2,rfl,R2,rfl,?_⟩⟩;exact qq H2 (((Yc.of s0).trans s1).trans s2) (n2 (n1 nt.upd))
theorem gJ (T:Txt w K mg t):Pb P w K mg base CX0 5 t.Ui t.aj q41 (RD t):=by
 have g12:Pb P w K mg base CX0 4 t.Cc t.Pc q20 (vm K t):=(Dp T).mono (by decide);have g8:Pb P w K mg base CX0 4 t.ac t.xc q16 (bo t):=Yq T;have g14:Pb P w K mg base CX0 4 t.Bc t.Mc ["self"] (aw t):=(Hz T).mono (by decide);have g10:Pb P w K mg base CX0 4 t.vf t.uf q10 Mn:=(Lp T).mono (by decide);have g11:Pb P w K mg base CX0 4 t.Tc t.ld ["self"] (Lm t):=(zp T).mono (by decide);refine T.Xl.ok Sh (fun vs H Q E h=>?_) (fun _ _ _ s H vs Q E hr h=>?_)
 ·obtain ⟨q,row,c,n,ds,z,p,sp,d,rfl,_⟩:=h;rfl
 obtain ⟨q,row,c,n,ds,z,p,sp,d,rfl,R,C,hz,L,hsl,nt,hk,⟨b0,b1,n0,n1⟩,qq⟩:=h;refine ⟨_,(db (Fc (bd (pv 0) T.Ab T.Nd g12 hr T.Kd .nil Db (ab (Td (ab Wc fb)) fb)))
   (db (Cb (i:=4) Sh.nd rfl (Or.inl rfl) (bd (pv 0) T.Ab T.Nd g12 hr T.Kd .nil Db (ab (ve rfl (zd (ae (pv 1) T.Sb T.Ed g11 hr T.Gd .nil Db)) (jc (sc:=rb Ml) rfl (by decide +kernel)) (N:=["known","spans"]) (sel:=[none,some 3]) (Gc (M:=["reader","crossing","size","spans","name","begin","turns"]) (by decide +kernel)) (Blk.of (fun _ _ _ _=>(yb (i:=0) (Xe (N:=["known","spans"]) (by decide +kernel) rfl) rfl (Or.inl rfl))) (fun _ _ _ _=>⟨_,(lv (Rb Xo (Ib Eb rfl T.Yf Ob (ab (xb g10 hr rfl T.Ii T.gg.kp T.yi .nil Db (ab (pv 1) (ab (pv 0) fb))) fb)) (dg rfl T.ax T.Rv) (Xb _))),by walk_at "B"⟩) (fun _ _ _ _=>⟨_,(pv 0),by walk_at "B"⟩))) fb)))
   (db (Cb (i:=5) Sh.nd rfl (Or.inl rfl) (bd (pv 0) T.Ab T.Yb g8 hr T.dc .nil Db (ab pb (ab (Fb De (pv 2) pb) fb))))
   (db (Cb (i:=6) Sh.nd rfl (Or.inl rfl) (bd (pv 0) T.Ab T.Yb g8 hr T.dc .nil Db (ab pb (ab (pv 2) fb))))
   (db (Fc (ae (pv 0) T.Ab T.ze g14 hr T.we .nil Db))
   (qb (Gb (Yg (ab (pv 4) (ab (pv 5) (ab (pv 6) fb))))))))))),?_⟩
 obtain ⟨_,dx,ta,e1,e2⟩:=id R;walk_at "RD";refine ⟨_,_,e1,Cf.no _ _ _ (by decide +kernel),by decide,fun p0 hp0=>?_⟩;have s0:Jb H (upd H p0 (.lst [V.str (Str.ofString "free")])):=lb hp0;refine ⟨q,row,_,0,_,p0,[Str.ofString "free"],rfl,R.same s0,rfl,SqL.of cb,by simp,fun H1 s1 n1' R1=>?_⟩;obtain ⟨_,dx1,ta1,f1,f2⟩:=id R1;have nt1:=n1' nt.upd;have x1:Yc q H H1:=(Yc.of s0).trans s1;have C1:=C.sameR x1 R;have L1:=L.sameR x1 R;obtain ⟨⟨_,hdl⟩,dxc,wl,nd,g1,_,_⟩:=id C1;walk_at "RD";refine ⟨_,_,f1,Cf.no _ _ _ (by decide +kernel),_,_,g1,Vx _ _ _ (by decide +kernel),c,n,ds,rfl,C1,fun pn hpn=>⟨pn,rfl,⟨_,SqL.of cb⟩,?_⟩⟩;have sn:Jb H1 (upd H1 pn (.lst (Kb (ds.map (·.name))))):=lb hpn;have hsl':(Kb (ds.map (·.name))).length=ds.length:=by unfold Kb;simp
 refine ed.list (xs:=Kb (ds.map (·.name))) (fun i ys H'=>ys=Kb (((ds.map (·.name)).take i).filter fun x=>decide ((ofN x sp).length < 3))∧Jb (upd H1 pn (.lst (Kb (ds.map (·.name))))) H'∧NoT H') (Nat.le_trans (show _ ≤ 12 by rw [hsl'];omega) (by decide)) ⟨by rw [List.take_zero];rfl,Jb.refl _,nt1.upd⟩ ?_ ?_ ?_
 ·rintro i ys H' hi ⟨rfl,sm,_⟩;refine ⟨SqL.of (sm _ _ cb),?_⟩;unfold Kb;rw [List.length_map];exact Nat.le_trans (List.length_filter_le ..) (by rw [List.length_take];omega)
 ·rintro i v ys H' hv ⟨rfl,sm,nt'⟩ N hN;obtain ⟨x,hx,rfl⟩:=ic hv;dsimp only at hN;rw [df hx,List.filter_append] at hN;walk_at "RD";refine ⟨Sub.name,p,x,sp,rfl,(L1.same sn).same sm,hsl,fun r H2 s2 n2 ⟨qs,m1,m2⟩=>⟨r,rfl,_,.inl (SqL.of m1),?_⟩⟩;have hml:qs.length=(ofN x sp).length:=by rw [m2.1,List.length_map]
  rw [List.length_map,hml];by_cases c0:(ofN x sp).length < 3
  ·rw [if_pos (decide_eq_true (by omega))];refine hN _ _ ⟨?_,sm.trans s2,n2 nt'⟩;rw [List.filter_cons_of_pos (by simpa using c0)];unfold Kb;rw [List.map_append];rfl
  ·rw [if_neg (by rw [decide_eq_true_eq];omega)];refine hN _ _ ⟨?_,sm.trans s2,n2 nt'⟩;rw [List.filter_cons_of_neg (by simpa using c0),List.filter_nil,List.append_nil]
 rintro ys H2 ⟨rfl,sm2,nt2⟩ pk hpk;rw [hsl',List.take_of_length_le (by rw [List.length_map];exact Nat.le_refl _)];rw [show (ds.map (·.name)).filter (fun x=>decide ((ofN x sp).length < 3))=Mm ds sp from rfl];have sk:Jb H1 (upd H2 pk (.lst (Kb (Mm ds sp)))):=(sn.trans sm2).trans (lb hpk);have ntk:NoT (upd H2 pk (.lst (Kb (Mm ds sp)))):=nt2.upd;have hkk:upd H2 pk (.lst (Kb (Mm ds sp))) pk=some (.lst (Kb (Mm ds sp))):=cb;generalize upd H2 pk (.lst (Kb (Mm ds sp)))=H3 at sk ntk hkk ⊢;walk_at "RD";refine ⟨q,row,_,1,_,pk,Mm ds sp,rfl,R1.same sk,rfl,SqL.of hkk,hk,fun H4 s4 n4 R4=>?_⟩;have nt4:=n4 ntk;have x4:Yc q H H4:=(x1.trans (Yc.of sk)).trans s4;obtain ⟨_,dx4,ta4,i1,i2⟩:=id R4;walk_at "RD";refine ⟨_,_,i1,Cf.no _ _ _ (by decide +kernel),⟨q,row,_,2,_,0,z - 1,d.b,rfl,R4,rfl,kj b0 (by omega) b0 (by omega),nt4,fun H5 s5 n5 R5=>?_⟩⟩;have nt5:=n5 nt4;have x5:Yc q H H5:=x4.trans s5;obtain ⟨_,dx5,ta5,j1,j2⟩:=id R5;walk_at "RD";refine ⟨_,_,j1,Cf.no _ _ _ (by decide +kernel),⟨q,row,_,3,_,1,z,d.n,rfl,R5,rfl,kj (by omega) (by omega) n0 n1,nt5,fun H6 s6 n6 R6=>?_⟩⟩;have nt6:=n6 nt5;have x6:Yc q H H6:=x5.trans s6;obtain ⟨_,dx6,ta6,k1,k2⟩:=id R6;walk_at "RD";refine ⟨_,_,k1,Cf.no _ _ _ (by decide +kernel),⟨q,row,_,4,rfl,R6,rfl,by decide,fun x hx=>?_⟩⟩;have hHx:H x=none:=by
  cases e:H x with
  | none=>rfl
  | some u=>
   by_cases hxq:x=q
   ·subst hxq;rw [k1] at hx;cases hx
   ·rw [x6 _ _ hxq e] at hx;cases hx
 exact qq x _ (x6.trans (Yc.of (lb hx))) nt6.upd cb hHx
theorem yF (T:Txt w K mg t):Pb P w K mg base CX0 7 t.Yi t.Ni q42 (Ly t):=by
 have g18:Pb P w K mg base CX0 6 t.Xj t.Pj ["text"] (rn t):=(et T).mono (by decide);have g57:Pb P w K mg base CX0 6 t.Ri t.mj ["reader"] (zB t):=(PH T).mono (by decide);have g58:Pb P w K mg base CX0 6 t.Ui t.aj q41 (RD t):=(gJ T).mono (by decide);have g59:Pb P w K mg base CX0 6 t.gj t.Ti q46 (Py t):=dG T;refine T.Ll.ok Og (fun vs H Q E h=>?_) (fun _ _ _ s H vs Q E hr h=>?_)
 ·obtain ⟨c,n,ds,z,sp,rfl,_⟩:=h;rfl
 obtain ⟨c,n,ds,z,sp,rfl,C,hn,hD,hz,hG,nt,hN,hS,hC,qq⟩:=h;refine ⟨_,(db (Cb (i:=2) Og.nd rfl (Or.inl rfl) (xb g18 hr rfl T.Wv T.Km.kp T.gx .nil Db (ab (pv 1) fb)))
   (db (Cb (i:=3) Og.nd rfl (Or.inl rfl) (xb g57 hr rfl T.zx T.Vl.kp T.Yx .nil Db (ab (kc Zb (pv 2) pb (fun _ _=>rfl)) fb)))
   (db (Cb (i:=4) Og.nd rfl (Or.inl rfl) (Td fb))
   (db (Bd PassesOwn.never rfl (zd (Qe Tn (pv 2) (Tf pb) Ug)) (yb (i:=5) Og.nd rfl (Or.inl rfl)) (qb (Fc (Vi PySem.F.plainAttrs_list PySem.F.slot_list_append PySem.F.type_list_append qe (pv 4) (ab (xb g58 hr rfl T.Qx T.Xl.kp T.uy .nil Db (ab (pv 5) (ab (pv 0) (ab (pv 3) (ab (pv 4) fb))))) fb)))))
   (qb (Gb (xb g59 hr rfl T.ny T.Tl.kp T.Xx .nil Db (ab (pv 0) (ab (pv 3) (ab (pv 4) fb)))))))))),?_⟩
 obtain ⟨hrow,hxl,hall⟩:=Dt hz.2 hG;generalize DC z sp=x at hrow hxl ⊢;walk_at "RD";refine ⟨x,rfl,hxl,?_,nt,fun p H1 sm1 nt1 R=>?_⟩
 ·rw [hrow];exact fun r hr=>(hall r hr).2
 rw [hrow] at R;obtain ⟨qs,hp,hp0,hql,hqa⟩:=R;obtain ⟨q0,qr,rfl⟩:∃ q0 qr,qs=q0 :: qr:=by
  cases qs with
  | nil=>simp [Nf] at hql
  | cons a b=>exact ⟨a,b,rfl⟩
 have hqrl:qr.length=sp.length:=by simpa [Nf] using hql
 have hspl:=hG.ln;obtain ⟨R0,hq0⟩:=hqa 0 q0 _ rfl rfl;walk_at "RD";refine ⟨_,SqL.of hp,_,Ac (j:=0) rfl,⟨q0,_,z,rfl,R0,by omega,nt1,fun H2 s2 nt2=>?_⟩⟩;walk_at "RD";refine ⟨Nat.zero_le _,fun wl hwl=>?_⟩;obtain ⟨C0,dq0,fq0,hins⟩:=R0.ins;have hpq:p ≠ q0:=ue hp hins (by intro z;cases z);have hp2:H2 p=some (.lst ((q0 :: qr).map V.ref)):=s2 _ _ hpq hp;have swl:Jb H2 (upd H2 wl (.lst [])):=lb hwl;have hcut:zo ((q0 :: qr).map V.ref) (some 1) none=qr.map V.ref:=by
  unfold zo;simp [HT.sIx];exact List.take_of_length_le (by rw [List.length_map];exact Nat.le_refl _)
 refine ⟨_,SqL.of (swl _ _ hp2),fun pc hpc=>?_⟩;rw [hcut];have hpw:pc ≠ wl:=fun z=>by subst z;rw [cb] at hpc;cases hpc
 have spc:Jb (upd H2 wl (.lst [])) (upd (upd H2 wl (.lst [])) pc (.lst (qr.map V.ref))):=lb hpc;refine ⟨⟨_,SqL.of cb⟩,?_⟩;have sH2:Jb H H2:=re sm1 s2 hq0;refine Eh.list (xs:=qr.map V.ref) (fun i σ H'=>(∃ y,σ=[some (V.ref c),some (V.str x),some (V.ref p),some (V.int z),some (V.ref wl),y])∧NoT H'∧Jb H H'∧H' pc=some (.lst (qr.map V.ref))∧H wl=none ∧
  LO H' wl (List.map sdO (sp.take i)) ∧
  ∀ (j:Nat) (q:Addr) (s:SD),i ≤ j→qr[j]? = some q→sp[j]? = some s→Cf t H' q ((j + 1:Nat):Int) (Al s) 0∧H q=none) ?_ ?_ ?_ ?_
 ·refine ⟨⟨_,rfl⟩,(nt2.upd).upd,(sH2.trans swl).trans spc,cb,sH2.free hwl,⟨[],spc _ _ cb,LQ.nil _⟩,fun j q s _ h1 h2=>?_⟩;obtain ⟨Rj,hqj⟩:=hqa (j + 1) q (Al s) (by rw [List.getElem?_cons_succ];exact h1) (by unfold Nf;rw [List.getElem?_cons_succ,List.getElem?_map,h2];rfl);exact ⟨((Rj.sameX s2 (zG Rj R0 (by omega)) R0.ins).same swl).same spc,hqj⟩
 ·rintro i σ H' hi zzq;refine zP fun zzM zzh=>?_
  obtain ⟨_,_,_,h,_⟩:=zzq;subst zzh;exact SqL.of h
 ·rintro i v σ H' hv zzq;refine zP fun zzM zzh=>?_
  obtain ⟨⟨y,rfl⟩,nt',sm',hpc',hwl0,L,Rs⟩:=zzq;obtain ⟨q,hq,rfl⟩:=ic hv;obtain ⟨hi,_⟩:=List.getElem?_eq_some_iff.mp hq;have hid:i < sp.length:=by omega
  have hsd:sp[i]? = some sp[i]:=List.getElem?_eq_getElem hid;obtain ⟨Rq,hqn⟩:=Rs i q _ (Nat.le_refl _) hq hsd;obtain ⟨os,w1,w2⟩:=id L;obtain ⟨_,dq,tq,hqi,hqt⟩:=id Rq;have hosl:os.length=i:=by rw [w2.1,List.length_map,List.length_take];omega
  subst zzh;walk_at "RD";refine ⟨.inl ⟨_,SqL.of w1⟩,?_⟩;refine ⟨q,_,c,n,ds,z,wl,sp.take i,sp[i],rfl,Rq,C.same sm',by omega,L,by rw [List.length_take];omega,nt',hG.kn i _ hsd,hG.sd _ (List.mem_of_getElem? hsd),fun y' H3 s3 nt3 w3 hy3=>?_⟩;have hwq:wl ≠ q:=ue w1 hqi (by intro z;cases z);have hw3:H3 wl=some (.lst (os.map V.ref)):=s3 _ _ hwq w1;have hsm3:Jb H H3:=re sm' s3 hqn;refine ⟨_,hw3,Nat.lt_of_le_of_lt (show (os.map V.ref).length ≤ 100 by rw [List.length_map];omega) (by decide),?_⟩;have hyw:y' ≠ wl:=fun z=>by
   subst z;rw [w1] at hy3;cases hy3
  refine ⟨⟨_,rfl⟩,nt3.upd,fun b u e=>?_,?_,hwl0,⟨os ++ [y'],by rw [cb,List.map_append];rfl,?_⟩,fun j q' s hj h1 h2=>?_⟩
  ·rw [ub (wb e hwl0)];exact hsm3 _ _ e
  ·rw [ub hpw];exact s3 _ _ (ue hpc' hqi (by intro z;cases z)) hpc'
  ·rw [df hsd,List.map_append];refine LQ.app ⟨w2.1,fun j b o hb ho=>?_⟩ (LQ.one (by rw [ub hyw];exact w3));have e:=w2.2 j b o hb ho;obtain ⟨s,_,rfl⟩:=ic ho;rw [ub (ue e w1 (by intro z;cases z))];exact s3 _ _ (ue e hqi (by intro z;cases z)) e
  ·obtain ⟨Rj,hqj⟩:=Rs j q' s (by omega) h1 h2;have R3:=Rj.sameX s3 (zG Rj Rq (by omega)) Rq.ins;refine ⟨?_,hqj⟩;obtain ⟨hz,dx',ta,e1,e2⟩:=R3;refine ⟨hz,dx',ta,by rw [ub (ue e1 hw3 (by intro z;cases z))];exact e1,?_⟩;rw [ub (fun z=>by
    subst z;rw [hw3] at e2;have e5:=Option.some.inj e2;injection e5 with e6;cases os with
    | nil=>cases e6
    | cons a r'=>injection e6 with e7 _;cases e7)]
   exact e2
 ·rintro σ H' zzq;refine zP fun zzM zzh=>?_
  obtain ⟨⟨y,rfl⟩,nt',sm',hpc',hwl0,L,Rs⟩:=zzq;subst zzh;rw [List.length_map,hqrl,List.take_length] at L;walk_at "RD";exact ⟨c,n,ds,z,wl,sp,rfl,C.same sm',hn,hD,by omega,L,hG.ok (by omega),hG.wOf,nt',hN,hS,hC,fun a H3 s3 n3 PA=>qq a H3 (sm'.trans s3) n3 PA⟩
end
end My
namespace My
open PySem L2
section
variable {w:World} {K:PySem.W.Frag} {mg:Str→Option Value} {t:Adr} {H:Hp} {a c dx p lm un:Addr} {z:Int}
theorem vy (T:Txt w K mg t) (e:H a=some (.ins t.ye dx (plF c z p lm un))):Bj K H a (Str.ofString "crossing") (.ref c):=⟨_,dx,_,e,T.ij,T.zj,pe GD 0 (Bp ..) (by decide +kernel) rfl⟩
theorem uu (T:Txt w K mg t) (e:H a=some (.ins t.ye dx (plF c z p lm un))):Bj K H a (Str.ofString "size") (.int z):=⟨_,dx,_,e,T.ij,T.so,pe GD 1 (Bp ..) (by decide +kernel) rfl⟩
end
theorem NK.get {H:Hp} {p:Addr} {ds:List WD} {f:WD→HO} (h:NK H p ds f ds.length) (nd:(ds.map (·.name)).Nodup) {i:Nat} {d:WD} (hd:ds[i]? = some d):∃ r,Oo H p (.str d.name) (some (.ref r))∧H r=some (f d):=by
 obtain ⟨rs,hl,hp,al⟩:=h;have hi:i < rs.length:=by rw [hl];exact (List.getElem?_eq_some_iff.mp hd).1
 have hr:rs[i]? = some rs[i]:=List.getElem?_eq_getElem hi;refine ⟨rs[i],?_,al i _ d hr hd⟩;have:=Oo.k (k:=Sum.inr d.name) hp;rw [Qq nd hd hr] at this;exact this
noncomputable def Fo (z:Nat) (sp:List SD) (d:WD) (turn:Int):Str:=((Yl z sp d)[(turn % (z:Int)).toNat]?).getD (Str.ofString "")
noncomputable def Pf (z:Nat) (sp:List SD) (d:WD) (turn:Int):Bool:=decide (Fo z sp d turn=Str.ofString "free")
noncomputable def Fw (t:Adr):Sp:=fun vs H Q _=>∃ (pl c:Addr) (n:Int) (ds:List WD) (z:Nat) (sp:List SD) (i:Nat) (d:WD) (turn:Int),vs=[.ref pl,.str d.name,.int turn]∧Ai t H pl c n ds z sp∧0 < z∧ds[i]? = some d∧Q (.str (Fo z sp d turn)) H
noncomputable def pC (t:Adr):Sp:=fun vs H Q _=>∃ (pl c:Addr) (n:Int) (ds:List WD) (z:Nat) (sp:List SD) (i:Nat) (d:WD) (turn:Int),vs=[.ref pl,.str d.name,.int turn]∧Ai t H pl c n ds z sp∧0 < z∧ds[i]? = some d∧Q (.bl (Pf z sp d turn)) H
section
variable {P:Program} {w:World} {K:PySem.W.Frag} {mg:Str→Option Value} {base:Heap} {t:Adr}
theorem DB (T:Txt w K mg t):Pb P w K mg base CX0 3 t.ap t.Cp q9 (Fw t):=by
 have g9:Pb P w K mg base CX0 2 t.nc t.zc q8 (oh t):=Li T;refine T.Zt.ok PB (fun vs H Q E h=>?_) (fun _ _ _ s H vs Q E hr h=>?_)
 ·obtain ⟨pl,c,n,ds,z,sp,i,d,turn,rfl,_⟩:=h;rfl
 obtain ⟨pl,c,n,ds,z,sp,i,d,turn,rfl,PA,hz,hd,q⟩:=h;obtain ⟨dx,p,lm,un,hpl,C,_,NL,_⟩:=PA.at_;obtain ⟨⟨hnd,_⟩,dxc,wl,nd,e1,_,_⟩:=id C;have hu:=Zw hr;refine ⟨_,(db (Fc (bd (Ic (pv 0) rfl) T.Sb T.Jc g9 hr T.Lc .nil Db (ab (pv 1) fb)))
   (qb (Gb (kc Zb (ik hu (Ic (pv 0) rfl) (pv 1) (fun _ _=>rfl)) (Fb Uf (pv 2) (Ic (pv 0) rfl)) (fun _ _=>rfl))))),?_⟩
 walk_at "RD";refine ⟨_,vy T hpl,_,rfl,_,_,e1,Vx _ _ _ (by decide +kernel),c,n,ds,i,d,rfl,C,hd,fun a W=>?_⟩;obtain ⟨r,hg,hr'⟩:=NL.get hnd hd;have h0:=Int.emod_nonneg turn (show (z:Int) ≠ 0 by omega);have h1:=Int.emod_lt_of_pos turn (show (0:Int) < z by omega);have hlen:(Yl z sp d).length=z:=zh _ _ _ _;have hj:(turn % (z:Int)).toNat < (Yl z sp d).length:=by rw [hlen];omega
 walk_at "RD";refine ⟨_,Yy T hpl,_,rfl,_,hg,_,uu T hpl,_,rfl,by omega,_,rfl,_,SqL.of hr',.str (Fo z sp d turn),?_,q⟩;have e:=Ac (xs:=Kb (Yl z sp d)) (j:=(turn % (z:Int)).toNat) (v:=.str (Fo z sp d turn)) (by unfold Kb Fo;rw [List.getElem?_map,List.getElem?_eq_getElem hj];rfl);rwa [Int.toNat_of_nonneg h0] at e
theorem iJ (T:Txt w K mg t):Pb P w K mg base CX0 4 t.fz t.mz q9 (pC t):=by
 have g60:Pb P w K mg base CX0 3 t.ap t.Cp q9 (Fw t):=DB T;refine T.gE.ok LH (fun vs H Q E h=>?_) (fun _ _ _ s H vs Q E hr h=>?_)
 ·obtain ⟨pl,c,n,ds,z,sp,i,d,turn,rfl,_⟩:=h;rfl
 obtain ⟨pl,c,n,ds,z,sp,i,d,turn,rfl,PA,hz,hd,q⟩:=h;refine ⟨_,(qb (Gb (Ef Ji (xb g60 hr rfl T.YE T.Zt.kp T.XE .nil Db (ab (pv 0) (ab (pv 1) (ab (pv 2) fb)))) Wc (Xb _)))),?_⟩;walk_at "RD";refine ⟨pl,c,n,ds,z,sp,i,d,turn,rfl,PA,hz,hd,rfl,?_⟩;rw [show decide (V.str (Fo z sp d turn)=V.str (Str.ofString "free"))=Pf z sp d turn by unfold Pf;simp];exact q
end
end My
namespace My
open PySem L2
theorem Wn (z:Nat) (sp:List SD) (d:WD) (x:Int):Pf z sp d (x % (z:Int))=Pf z sp d x:=by
 unfold Pf Fo;rw [Int.emod_emod]
noncomputable def frB (z:Nat) (sp:List SD) (d:WD):List Bool:=(List.range z).map fun (k:Nat)=>Pf z sp d k
theorem Wq (z:Nat) (sp:List SD) (d:WD):(frB z sp d).length=z:=by unfold frB;simp
theorem FL {z:Nat} (hz:0 < z) (sp:List SD) (d:WD) (x:Int):(frB z sp d)[(x % (z:Int)).toNat]? = some (Pf z sp d x):=by
 have h0:=Int.emod_nonneg x (show (z:Int) ≠ 0 by omega);have h1:=Int.emod_lt_of_pos x (show (0:Int) < z by omega);unfold frB;rw [List.getElem?_map,List.getElem?_range (by omega)];show some (Pf z sp d (((x % (z:Int)).toNat:Nat):Int))=_;rw [Int.toNat_of_nonneg h0,Wn]
structure LD where
 pl:Addr
 c:Addr
 n:Int
 ds:List WD
 sp:List SD
 d:WD
 e:WD
noncomputable def lO (l:LD):HO:=.tup [.ref l.pl,.str l.d.name,.str l.e.name]
noncomputable def LOk (t:Adr) (H:Hp) (z:Nat) (l:LD):Prop:=Ai t H l.pl l.c l.n l.ds z l.sp∧l.d ∈ l.ds∧l.e ∈ l.ds
noncomputable def Cm (t:Adr) (H:Hp) (z:Nat) (p:Addr) (ls:List LD):Prop:=LO H p (ls.map lO)∧∀ l ∈ ls,LOk t H z l
theorem NK.same {H H':Hp} {p:Addr} {ds:List WD} {f:WD→HO} {n:Nat} (h:NK H p ds f n) (s:Jb H H'):NK H' p ds f n:=by
 obtain ⟨rs,hl,hp,al⟩:=h;exact ⟨rs,hl,s _ _ hp,fun i r d h1 h2=>s _ _ (al i r d h1 h2)⟩
theorem Ai.same {t:Adr} {H H':Hp} {a c:Addr} {n:Int} {ds:List WD} {z:Nat} {sp:List SD} (h:Ai t H a c n ds z sp) (s:Jb H H'):Ai t H' a c n ds z sp:=by
 obtain ⟨dx,p,lm,un,e,C,L,N1,N2⟩:=h.at_;exact ⟨dx,p,lm,un,s _ _ e,C.same s,L.same s,N1.same s,N2.same s⟩
theorem LOk.same {t:Adr} {H H':Hp} {z:Nat} {l:LD} (h:LOk t H z l) (s:Jb H H'):LOk t H' z l:=⟨h.1.same s,h.2⟩
theorem Cm.same {t:Adr} {H H':Hp} {z:Nat} {p:Addr} {ls:List LD} (h:Cm t H z p ls) (s:Jb H H'):Cm t H' z p ls:=⟨h.1.same s,fun l hl=>(h.2 l hl).same s⟩
structure CD where
 f:List Bool
 b:List Bool
 x:Int
 y:Int
noncomputable def mI (H:Hp) (q:Addr) (c:CD):Prop:=∃ f b,H q=some (.tup [.ref f,.ref b,.int c.x,.int c.y])∧H f=some (.lst (Hc c.f))∧H b=some (.lst (Hc c.b))
theorem mI.same {H H':Hp} {q:Addr} {c:CD} (h:mI H q c) (s:Jb H H'):mI H' q c:=by
 obtain ⟨f,b,e1,e2,e3⟩:=h;exact ⟨f,b,s _ _ e1,s _ _ e2,s _ _ e3⟩
noncomputable def CrN (r:Addr) (H:Hp) (q:Addr) (c:CD):Prop:=∃ f b,(f ≠ r∧b ≠ r∧q ≠ r)∧H q=some (.tup [.ref f,.ref b,.int c.x,.int c.y])∧H f=some (.lst (Hc c.f))∧H b=some (.lst (Hc c.b))
theorem CrN.at {r:Addr} {H:Hp} {q:Addr} {c:CD} (h:CrN r H q c):mI H q c:=by
 obtain ⟨f,b,_,h⟩:=h;exact ⟨f,b,h⟩
theorem CrN.step {r:Addr} {H H':Hp} {q:Addr} {c:CD} (h:CrN r H q c) (s:Yc r H H'):CrN r H' q c:=by
 obtain ⟨f,b,⟨n1,n2,n3⟩,e1,e2,e3⟩:=h;exact ⟨f,b,⟨n1,n2,n3⟩,s _ _ n3 e1,s _ _ n1 e2,s _ _ n2 e3⟩
noncomputable def csK (z:Nat) (fs bs:List Int) (l:LD) (k:Nat):CD:=⟨frB z l.sp l.d,frB z l.sp l.e,(fs.take k).sum,-(bs.take k).sum⟩
noncomputable def nI (H:Hp) (r:Addr) (z:Nat) (fs bs:List Int) (ls:List LD):Prop:=∃ qs:List Addr,H r=some (.lst (qs.map V.ref))∧qs.length=ls.length∧∀ (i:Nat) (q:Addr) (l:LD),qs[i]? = some q→ls[i]? = some l→mI H q (csK z fs bs l i)
noncomputable def yc (l:List Int):List V:=l.map V.int
noncomputable def ts0 (z:Nat):List Int:=(List.range z).map fun (k:Nat)=>(k:Int)
noncomputable def Bf (ms:List Bool) (x:Int) (ts:List Int):List Int:=ts.filter fun t=>(ms[((t + x) % (ms.length:Int)).toNat]?).getD false
noncomputable def frK (z:Nat) (ls:List LD) (f:LD→WD) (k:Nat) (x:Int):Bool:=(ls[k]?).any fun l=>Pf z l.sp (f l) x
noncomputable def gA (fr:Nat→Int→Bool) (off:Nat→Int) (i:Nat) (t:Int):Bool:=(List.range i).all fun k=>fr k (t + off k)
noncomputable def Hw (fs sh:List Int) (k:Nat):Int:=(fs.take k).sum - sh.getD k 0
noncomputable def pE (bs sh:List Int) (k:Nat):Int:=-(bs.take k).sum - sh.getD k 0
noncomputable def grF (z:Nat) (ls:List LD) (fs sh:List Int) (i:Nat):List Int:=(ts0 z).filter (gA (frK z ls LD.d) (Hw fs sh) i)
noncomputable def grB (z:Nat) (ls:List LD) (bs sh:List Int) (i:Nat):List Int:=(ts0 z).filter (gA (frK z ls LD.e) (pE bs sh) i)
theorem iw {z:Nat} (hz:0 < z) {fr:Nat→Int→Bool} {off:Nat→Int} {i:Nat} {sp:List SD} {d:WD} (hf:∀ x,fr i x=Pf z sp d x):Bf (frB z sp d) (off i) ((ts0 z).filter (gA fr off i))=(ts0 z).filter (gA fr off (i + 1)):=by
 unfold Bf;rw [List.filter_filter];refine List.filter_congr fun x _=>?_
 rw [Wq,FL hz];show (Pf z sp d (x + off i) && gA fr off i x)=gA fr off (i + 1) x;unfold gA;rw [List.range_succ,List.all_append,List.all_cons,List.all_nil,Bool.and_true,hf,Bool.and_comm]
theorem Bu (z:Nat):(ts0 z).length=z:=by unfold ts0;simp
structure LIn (t:Adr) (H:Hp) (lp fp bp:Addr) (z:Nat) (ls:List LD) (fs bs:List Int):Prop where
 l:Cm t H z lp ls
 f:H fp=some (.lst (yc fs))
 b:H bp=some (.lst (yc bs))
 fl:fs.length + 1=ls.length
 bl:bs.length + 1=ls.length
 ln:1 ≤ ls.length∧ls.length ≤ 10
 z0:0 < z∧z ≤ 1000
theorem LIn.same {t:Adr} {H H':Hp} {lp fp bp:Addr} {z:Nat} {ls:List LD} {fs bs:List Int} (h:LIn t H lp fp bp z ls fs bs) (s:Jb H H'):LIn t H' lp fp bp z ls fs bs:=⟨h.l.same s,s _ _ h.f,s _ _ h.b,h.fl,h.bl,h.ln,h.z0⟩
noncomputable def yz (t:Adr):Sp:=fun vs H Q _=>∃ (pl c:Addr) (n:Int) (ds:List WD) (z:Nat) (sp:List SD) (d:WD),vs=[.ref pl,.str d.name]∧Ai t H pl c n ds z sp∧(0 < z∧z ≤ 1000)∧d ∈ ds∧∀ p,H p=none→Q (.ref p) (upd H p (.lst (Hc (frB z sp d))))
noncomputable def qH (t:Adr):Sp:=fun vs H Q _=>∃ lp fp bp z ls fs bs,vs=[.ref lp,.ref fp,.ref bp]∧LIn t H lp fp bp z ls fs bs∧NoT H∧∀ r H',Jb H H'→NoT H'→nI H' r z fs bs ls→Q (.ref r) H'
noncomputable def nD:Sp:=fun vs H Q _=>∃ tp mp ts ms x,vs=[.ref tp,.ref mp,.int x]∧H tp=some (.lst (yc ts))∧H mp=some (.lst (Hc ms))∧(0 < ms.length∧ms.length ≤ 1000)∧ts.length ≤ 1000∧∀ p,H p=none→Q (.ref p) (upd H p (.lst (yc (Bf ms x ts))))
noncomputable def Iy (H:Hp) (p:Addr) (u v:List Int):Prop:=∃ f b,H p=some (.tup [.ref f,.ref b])∧H f=some (.lst (yc u))∧H b=some (.lst (yc v))
noncomputable def Zu:Sp:=fun vs H Q _=>∃ bp cp u v c x,vs=[.ref bp,.ref cp,.int x]∧Iy H bp u v∧mI H cp c∧(0 < c.f.length∧c.f.length ≤ 1000)∧(0 < c.b.length∧c.b.length ≤ 1000)∧u.length ≤ 1000∧v.length ≤ 1000∧NoT H∧∀ p H',Jb H H'→NoT H'→Iy H' p (Bf c.f (c.x - x) u) (Bf c.b (c.y - x) v)→Q (.ref p) H'
noncomputable def ez (t:Adr):Sp:=fun vs H Q _=>∃ lp z ls,vs=[.ref lp]∧Cm t H z lp ls∧1 ≤ ls.length∧(0 < z∧z ≤ 1000)∧NoT H∧∀ p H',Jb H H'→NoT H'→Iy H' p (ts0 z) (ts0 z)→Q (.ref p) H'
theorem Nz {l:List Int} {i:Nat} {x:Int} (h:l[i]? = some x):(l.take (i + 1)).sum=(l.take i).sum + x:=by
 rw [df h,List.sum_append];simp
theorem zw (p:Int→Bool):∀ xs:List Int,((xs.map fun x=>if p x=true then some (V.int x) else none).flatMap Option.toList)=yc (xs.filter p)
 | []=>rfl
 | x :: xs=>by
  rw [List.map_cons,List.flatMap_cons,zw p xs];by_cases c:p x=true
  ·rw [if_pos c,List.filter_cons_of_pos c];rfl
  ·rw [if_neg c,List.filter_cons_of_neg c];rfl
theorem Jm {l:List Int} {i:Nat} {x:Int} (h:l[i]? = some x):(yc l)[i]? = some (.int x):=by unfold yc;rw [List.getElem?_map,h];rfl
theorem ie (l:List Int):(yc l).length=l.length:=by unfold yc;rw [List.length_map]
theorem Uv (ms:List Bool) (x:Int) (ts:List Int):(Bf ms x ts).length ≤ ts.length:=List.length_filter_le ..
section
variable {P:Program} {w:World} {K:PySem.W.Frag} {mg:Str→Option Value} {base:Heap} {t:Adr}
theorem tG (T:Txt w K mg t):Pb P w K mg base CX0 5 t.Pu t.Du q22 (yz t):=by
 have g61:Pb P w K mg base CX0 4 t.fz t.mz q9 (pC t):=iJ T;refine T.Xu.ok pF (fun vs H Q E h=>?_) (fun _ _ _ s H vs Q E hr h=>?_)
 ·obtain ⟨pl,c,n,ds,z,sp,d,rfl,_⟩:=h;rfl
 obtain ⟨pl,c,n,ds,z,sp,d,rfl,PA,hz,hd,q⟩:=h;obtain ⟨dx,p,lm,un,hpl,_⟩:=PA.at_;obtain ⟨i,hi⟩:=List.getElem?_of_mem hd;refine ⟨_,(qb (Gb (ve rfl (uc rfl T.Zc (ab (Ic (pv 0) rfl) fb)) (jc (sc:=rb Ey) rfl (by decide +kernel)) (N:=["turn","plan","name"]) (sel:=[none,some 0,some 1]) (Gc (M:=q22) (by decide +kernel)) (Blk.of (fun _ _ _ _=>(yb (i:=0) (Xe (N:=["turn","plan","name"]) (by decide +kernel) rfl) rfl (Or.inl rfl))) (fun _ _ _ _=>⟨_,Qd,by walk_at "B"⟩) (fun _ _ _ _=>⟨_,(xb g61 hr rfl T.fM T.gE.kp T.ZK .nil Db (ab (pv 1) (ab (pv 2) (ab (pv 0) fb)))),by walk_at "B"⟩))))),?_⟩;walk_at "RD";refine ⟨_,uu T hpl,_,rfl,by omega,by omega,?_⟩;refine ed.range_map (fun k=>V.bl (Pf z sp d k)) (by rw [Int.toNat_natCast];exact Nat.le_trans hz.2 (by decide)) (fun k N hk hN=>?_) (fun p hp=>?_)
 ·walk_at "RD";exact ⟨Sub.name,pl,c,n,ds,z,sp,i,d,_,rfl,PA,hz.1,hi,hN⟩
 ·have:=q p hp;unfold Hc frB at this;rw [List.map_map] at this;rw [Int.toNat_natCast];exact this
theorem xL (T:Txt w K mg t):Pb P w K mg base CX0 6 t.Eg t.wg q11 (qH t):=by
 have g25:Pb P w K mg base CX0 5 t.Pu t.Du q22 (yz t):=tG T;refine T.Xh.ok wc (fun vs H Q E h=>?_) (fun _ _ _ s H vs Q E hr h=>?_)
 ·obtain ⟨lp,fp,bp,z,ls,fs,bs,rfl,_⟩:=h;rfl
 obtain ⟨lp,fp,bp,z,ls,fs,bs,rfl,I,nt,q⟩:=h;refine ⟨_,(db (Cb (i:=3) wc.nd rfl (Or.inl rfl) (Td fb))
   (db (Cb (i:=4) wc.nd rfl (Or.inl rfl) pb)
   (db (Cb (i:=5) wc.nd rfl (Or.inl rfl) pb)
   (db (Bd PassesOwn.never rfl (Gn rfl T.ig (ab (pv 0) fb)) (Ve (K:=K) (n:=2) rfl rfl (Nb (yb (i:=6) wc.nd rfl (Or.inl rfl) (.inl rfl)) (Nb (yb (i:=7) wc.nd rfl (Or.inl rfl) (.inl rfl)) Ue))) (db (Vj (pv 7) (Ve (K:=K) (n:=3) rfl rfl (Nb (yb (i:=8) wc.nd rfl (Or.inl rfl) (.inl rfl)) (Nb (yb (i:=9) wc.nd rfl (Or.inl rfl) (.inl rfl)) (Nb (yb (i:=10) wc.nd rfl (Or.inl rfl) (.inl rfl)) Ue)))))
   (db (Fc (Vi PySem.F.plainAttrs_list PySem.F.slot_list_append PySem.F.type_list_append qe (pv 3) (ab (Yg (ab (xb g25 hr rfl T.PD T.Xu.kp T.VC .nil Db (ab (pv 8) (ab (pv 9) fb))) (ab (xb g25 hr rfl T.PD T.Xu.kp T.VC .nil Db (ab (pv 8) (ab (pv 10) fb))) (ab (pv 4) (ab (pv 5) fb))))) fb)))
   (qb (Be (Rb Xo (Fb fc (pv 6) pb) (Ib Eb rfl T.Yf Ob (ab (pv 0) fb)) (Xb _)) (db (bH (i:=4) wc.nd rfl (Or.inl rfl) (kc Zb (pv 1) (pv 6) (fun _ _=>rfl)) iL)
   (qb (bH (i:=5) wc.nd rfl (Or.inl rfl) (kc Zb (pv 2) (pv 6) (fun _ _=>rfl)) YL))) vc)))))
   (qb (Gb (pv 3))))))),?_⟩
 walk_at "RD";refine ⟨Nat.zero_le _,fun r hr0=>?_⟩;obtain ⟨⟨qs,l1,lq⟩,al⟩:=I.l;have hql:qs.length=ls.length:=by rw [lq.1,List.length_map]
 have sr:Jb H (upd H r (.lst [])):=lb hr0;have hfl:=I.fl;have hbl:=I.bl;have hln:=I.ln;refine ⟨⟨_,SqL.of (sr _ _ l1)⟩,?_⟩;refine Eh.enum (xs:=qs.map V.ref) (fun i σ H'=>Jb H H'∧NoT H'∧(∃ os:List Addr,H' r=some (.lst (os.map V.ref))∧os.length=i∧∀ (j:Nat) (q:Addr) (l:LD),os[j]? = some q→ls[j]? = some l→CrN r H' q (csK z fs bs l j))∧∃ x6 x7 x8 x9 x10,σ=[some (.ref lp),some (.ref fp),some (.ref bp),some (.ref r),some (.int (fs.take i).sum),some (.int (-(bs.take i).sum)),x6,x7,x8,x9,x10]) ?_ ?_ ?_ ?_
 ·exact ⟨sr,nt.upd,⟨[],cb,rfl,fun j q l h=>by simp at h⟩,_,_,_,_,_,rfl⟩
 ·rintro i σ H' hi ⟨sm,_⟩;exact SqL.of (sm _ _ l1)
 ·rintro i v σ H0 p1 hv ⟨sm0,nt0,⟨os,o1,o2,o3⟩,x6,x7,x8,x9,x10,rfl⟩ hp1;obtain ⟨qi,hqi,rfl⟩:=ic hv;have hil:i < ls.length:=by rw [← hql];exact (List.getElem?_eq_some_iff.mp hqi).1
  have hli:ls[i]? = some ls[i]:=List.getElem?_eq_getElem hil;have eq:H qi=some (lO ls[i]):=lq.2 i _ _ hqi (by rw [List.getElem?_map,hli];rfl);have ok:=al ls[i] (List.mem_of_getElem? hli);have s1:Jb H0 (upd H0 p1 (.tup [.int i,.ref qi])):=lb hp1;have n1:NoT (upd H0 p1 (.tup [.int i,.ref qi])):=nt0.upd;refine Ei ?_;generalize upd H0 p1 (.tup [.int i,.ref qi])=H1 at s1 n1 ⊢;have sm1:=sm0.trans s1;simp only [zb,List.set_cons_succ,List.set_cons_zero];refine zzC (fun σ' H'=>H'=H1∧σ'=[some (.ref lp),some (.ref fp),some (.ref bp),some (.ref r),some (.int (fs.take i).sum),some (.int (-(bs.take i).sum)),some (.int (i:Nat)),some (.ref qi),some (.ref ls[i].pl),some (.str ls[i].d.name),some (.str ls[i].e.name)]) (fun D' hD=>?_) fun zzM zzh=>?_
  ·walk_at "RD";exact ⟨_,SqT.of (sm1 _ _ eq),rfl,_,_,rfl,_,_,rfl,_,_,rfl,rfl,hD _ _ ⟨rfl,rfl⟩⟩
  rintro σ2 H2 ⟨rfl,rfl⟩;subst zzh;simp only [zb];refine zzC (fun σ' H'=>Jb H H'∧NoT H'∧(∃ os:List Addr,H' r=some (.lst (os.map V.ref))∧os.length=i + 1∧∀ (j:Nat) (q:Addr) (l:LD),os[j]? = some q→ls[j]? = some l→CrN r H' q (csK z fs bs l j))∧σ'=[some (.ref lp),some (.ref fp),some (.ref bp),some (.ref r),some (.int (fs.take i).sum),some (.int (-(bs.take i).sum)),some (.int (i:Nat)),some (.ref qi),some (.ref ls[i].pl),some (.str ls[i].d.name),some (.str ls[i].e.name)]) (fun D' hD=>?_) fun zzM zzh=>?_
  ·walk_at "RD";refine ⟨.inl ⟨_,SqL.of (s1 _ _ o1)⟩,_,_,_,_,z,_,_,rfl,ok.1.same sm1,I.z0,ok.2.1,fun p2 hp2=>?_⟩;have s2:=lb (o:=.lst (Hc (frB z ls[i].sp ls[i].d))) hp2;refine ⟨_,_,_,_,z,_,_,rfl,ok.1.same (sm1.trans s2),I.z0,ok.2.2,fun p3 hp3=>⟨by decide,fun p4 hp4=>?_⟩⟩;have s3:=lb (o:=.lst (Hc (frB z ls[i].sp ls[i].e))) hp3;have s4:=lb (o:=.tup [.ref p2,.ref p3,.int (fs.take i).sum,.int (-(bs.take i).sum)]) hp4;have s24:=(s2.trans s3).trans s4;have er:=s24 _ _ (s1 _ _ o1);have c2:=s4 _ _ (s3 _ _ (cb (H:=H2) (a:=p2) (o:=.lst (Hc (frB z ls[i].sp ls[i].d)))));have c3:=s4 _ _ (cb (H:=upd H2 p2 (.lst (Hc (frB z ls[i].sp ls[i].d)))) (a:=p3) (o:=.lst (Hc (frB z ls[i].sp ls[i].e))));have c4:=cb (H:=upd (upd H2 p2 (.lst (Hc (frB z ls[i].sp ls[i].d)))) p3 (.lst (Hc (frB z ls[i].sp ls[i].e)))) (a:=p4) (o:=.tup [.ref p2,.ref p3,.int (fs.take i).sum,.int (-(bs.take i).sum)]);have n4:NoT (upd (upd (upd H2 p2 (.lst (Hc (frB z ls[i].sp ls[i].d)))) p3 (.lst (Hc (frB z ls[i].sp ls[i].e)))) p4 (.tup [.ref p2,.ref p3,.int (fs.take i).sum,.int (-(bs.take i).sum)])):=((n1.upd).upd).upd;generalize upd (upd (upd H2 p2 (.lst (Hc (frB z ls[i].sp ls[i].d)))) p3 (.lst (Hc (frB z ls[i].sp ls[i].e)))) p4 (.tup [.ref p2,.ref p3,.int (fs.take i).sum,.int (-(bs.take i).sum)])=H4 at s24 er c2 c3 c4 n4 ⊢;refine ⟨_,er,Nat.lt_of_le_of_lt (show (os.map V.ref).length ≤ 10 by rw [List.length_map];omega) (by decide),hD _ _ ⟨(sm1.trans s24).updN hr0,n4.upd,⟨os ++ [p4],by rw [cb,List.map_append];rfl,by rw [List.length_append,o2];rfl,fun j q l hj hl=>?_⟩,rfl⟩⟩;rcases se hj with ⟨_,hj⟩ | ⟨rfl,rfl⟩
   ·exact (o3 j q l hj hl).step ((Yc.of (s1.trans s24)).trans Yc.put)
   ·rw [o2] at hl ⊢;rw [hli] at hl;cases hl;have k2:p2 ≠ r:=(wb (s1 _ _ o1) hp2).symm;have k3:p3 ≠ r:=(wb (s2 _ _ (s1 _ _ o1)) hp3).symm;have k4:q ≠ r:=(wb (s3 _ _ (s2 _ _ (s1 _ _ o1))) hp4).symm;exact ⟨p2,p3,⟨k2,k3,k4⟩,by rw [ub k4];exact c4,by rw [ub k2];exact c2,by rw [ub k3];exact c3⟩
  rintro σ3 H3 ⟨sm3,n3,O3,rfl⟩;subst zzh;dsimp only;refine Dc (decide (i + 1 < ls.length)) (fun Q hQ=>?_) (fun hb=>?_) (fun hb=>?_)
  ·walk_at "RD";refine ⟨_,.inl (SqL.of (sm3 _ _ l1)),?_⟩;rw [List.length_map,hql,show decide ((i:Int) + 1 < (ls.length:Int))=decide (i + 1 < ls.length) by rw [Bool.eq_iff_iff,decide_eq_true_eq,decide_eq_true_eq];omega];exact hQ
  ·have hb:=of_decide_eq_true hb;have hfi:fs[i]? = some (fs[i]'(by omega)):=List.getElem?_eq_getElem _;have hbi:bs[i]? = some (bs[i]'(by omega)):=List.getElem?_eq_getElem _;walk_at "RD";refine ⟨_,SqL.of (sm3 _ _ I.f),_,Ac (Jm hfi),_,_,rfl,rfl,_,SqL.of (sm3 _ _ I.b),_,Ac (Jm hbi),_,_,rfl,rfl,sm3,n3,O3,?_⟩;rw [Nz hfi,Nz hbi,Int.neg_add]
   repeat (first | exact ⟨_,rfl⟩ | refine ⟨⟨_,rfl⟩,?_⟩ | refine ⟨rfl,?_⟩)
  ·have hb:=of_decide_eq_false hb;walk_at "RD";refine ⟨sm3,n3,O3,?_⟩;rw [List.take_of_length_le (l:=fs) (i:=i + 1) (by omega),List.take_of_length_le (l:=fs) (i:=i) (by omega),List.take_of_length_le (l:=bs) (i:=i + 1) (by omega),List.take_of_length_le (l:=bs) (i:=i) (by omega)]
   repeat (first | exact ⟨_,rfl⟩ | refine ⟨⟨_,rfl⟩,?_⟩ | refine ⟨rfl,?_⟩)
 ·rintro σ H' zzq;refine zP fun zzM zzh=>?_
  obtain ⟨sm,nt',⟨os,o1,o2,o3⟩,x6,x7,x8,x9,x10,rfl⟩:=zzq;subst zzh;walk_at "RD";exact q r H' sm nt' ⟨os,o1,by rw [o2,List.length_map,hql],fun i q l a b=>(o3 i q l a b).at⟩
theorem ZI (T:Txt w K mg t):Pb P w K mg base CX0 1 t.ym t.km q35 nD:=by
 refine T.dn.ok Bt (fun vs H Q E h=>?_) (fun _ _ _ s H vs Q E hr h=>?_)
 ·obtain ⟨tp,mp,ts,ms,x,rfl,_⟩:=h;rfl
 obtain ⟨tp,mp,ts,ms,x,rfl,ht,hm,hml,htl,q⟩:=h;refine ⟨_,(db (Cb (i:=3) Bt.nd rfl (Or.inr rfl) (Ib Eb rfl T.Yf Ob (ab (pv 1) fb)))
   (qb (Gb (ve rfl (zd (pv 0)) (jc (sc:=rb kr) rfl (by decide +kernel)) (N:=["turn","marks","later","size"]) (sel:=[none,some 1,some 2,some 3]) (Gc (M:=["turns","marks","later","size"]) (by decide +kernel)) (Blk.of (fun _ _ _ _=>(yb (i:=0) (Xe (N:=["turn","marks","later","size"]) (by decide +kernel) rfl) rfl (Or.inl rfl))) (fun _ _ _ _=>⟨_,(lv (Ki (kc Zb (pv 1) (Fb Uf (Fb fc (pv 0) (pv 2)) (pv 3)) (fun _ _=>rfl)))),by walk_at "B"⟩) (fun _ _ _ _=>⟨_,(pv 0),by walk_at "B"⟩)))))),?_⟩
 walk_at "RD";refine ⟨_,.inl (SqL.of hm),⟨_,SqL.of ht⟩,?_⟩;rw [show (Hc ms).length=ms.length by unfold Hc;simp];refine ed.list_sel (xs:=yc ts) (ss:=ts.map fun u=>if ((ms[((u + x) % (ms.length:Int)).toNat]?).getD false)=true then some (V.int u) else none) (SqL.of ht) (by rw [ie];exact Nat.le_trans htl (by decide)) (by rw [ie,List.length_map]) (fun i v o ys N hv ho hN=>?_) (fun p hp=>?_)
 ·obtain ⟨u,hu,rfl⟩:=ic hv;obtain ⟨u',hu',rfl⟩:=ic ho;rw [hu] at hu';cases hu';have h0:=Int.emod_nonneg (u + x) (show (ms.length:Int) ≠ 0 by omega);have h1:=Int.emod_lt_of_pos (u + x) (show (0:Int) < ms.length by omega);have hj:ms[((u + x) % (ms.length:Int)).toNat]? = some (ms[((u + x) % (ms.length:Int)).toNat]'(by omega)):=List.getElem?_eq_getElem _;rw [hj] at hN;have e:=Ac (xs:=Hc ms) (j:=((u + x) % (ms.length:Int)).toNat) (by unfold Hc;rw [List.getElem?_map,hj];rfl);rw [Int.toNat_of_nonneg h0] at e;generalize ms[((u + x) % (ms.length:Int)).toNat]'(by omega)=bb at hN e;walk_at "RD";refine ⟨Sub.name,by omega,_,SqL.of hm,_,e,_,rfl,?_⟩;cases bb with
  | true=>exact hN
  | false=>
   simp at hN ⊢;exact hN
 ·rw [zw];exact q p hp
theorem Fy (T:Txt w K mg t):Pb P w K mg base CX0 2 t.kf t.Ye q26 Zu:=by
 have g26:Pb P w K mg base CX0 1 t.ym t.km q35 nD:=ZI T;refine T.kg.ok yd (fun vs H Q E h=>?_) (fun _ _ _ s H vs Q E hr h=>?_)
 ·obtain ⟨bp,cp,u,v,c,x,rfl,_⟩:=h;rfl
 obtain ⟨bp,cp,u,v,c,x,rfl,⟨f,b,e1,e2,e3⟩,⟨mf,mb,c1,c2,c3⟩,hf,hb,hu,hv,nt,q⟩:=h;refine ⟨_,(db (Vj (pv 1) (Ve (K:=K) (n:=4) rfl rfl (Nb (yb (i:=3) yd.nd rfl (Or.inl rfl) (.inl rfl)) (Nb (yb (i:=4) yd.nd rfl (Or.inl rfl) (.inl rfl)) (Nb (yb (i:=5) yd.nd rfl (Or.inl rfl) (.inl rfl)) (Nb (yb (i:=6) yd.nd rfl (Or.inl rfl) (.inl rfl)) Ue))))))
   (db (Cb (i:=7) yd.nd rfl (Or.inl rfl) (xb g26 hr rfl T.Ev T.dn.kp T.cx .nil Db (ab (kc gd (pv 0) pb (fun _ _=>rfl)) (ab (pv 3) (ab (Fb De (pv 5) (pv 2)) fb)))))
   (db (Cb (i:=8) yd.nd rfl (Or.inl rfl) (xb g26 hr rfl T.Ev T.dn.kp T.cx .nil Db (ab (kc gd (pv 0) pb (fun _ _=>rfl)) (ab (pv 4) (ab (Fb De (pv 6) (pv 2)) fb)))))
   (qb (Gb (Yg (ab (pv 7) (ab (pv 8) fb)))))))),?_⟩
 walk_at "RD";refine ⟨_,SqT.of c1,rfl,_,_,rfl,_,_,rfl,_,_,rfl,_,_,rfl,rfl,_,SqT.of e1,_,rfl,_,rfl,f,mf,u,c.f,_,rfl,e2,c2,hf,hu,fun p1 hp1=>?_⟩;have s1:Jb H (upd H p1 (.lst (yc (Bf c.f (c.x - x) u)))):=lb hp1;refine ⟨_,SqT.of (s1 _ _ e1),_,rfl,_,rfl,b,mb,v,c.b,_,rfl,s1 _ _ e3,s1 _ _ c3,hb,hv,fun p2 hp2=>⟨by decide,fun p hp=>?_⟩⟩;have s2:=lb (o:=.lst (yc (Bf c.b (c.y - x) v))) hp2;have s3:=lb (o:=.tup [.ref p1,.ref p2]) hp;exact q p _ ((s1.trans s2).trans s3) ((nt.upd).upd).upd ⟨p1,p2,cb,s3 _ _ (s2 _ _ cb),s3 _ _ cb⟩
theorem IE (T:Txt w K mg t):Pb P w K mg base CX0 1 t.kh t.gh ["line"] (ez t):=by
 refine T.Xi.ok Lk (fun vs H Q E h=>?_) (fun _ _ _ s H vs Q E hr h=>?_)
 ·obtain ⟨lp,z,ls,rfl,_⟩:=h;rfl
 obtain ⟨lp,z,ls,rfl,L,hl,hz,nt,q⟩:=h;refine ⟨_,(db (Cb (i:=1) Lk.nd rfl (Or.inl rfl) (Vc (Mu rfl) rfl T.oj Sd (ab (Vc fD rfl T.Zc (by decide +kernel) (ab (Ic (kc gd (kc Zb (pv 0) pb (fun _ _=>rfl)) pb (fun _ _=>rfl)) rfl) fb)) fb)))
   (qb (Gb (Yg (ab (pv 1) (ab (pv 1) fb)))))),?_⟩
 obtain ⟨⟨qs,l1,lq⟩,al⟩:=L;have hql:qs.length=ls.length:=by rw [lq.1,List.length_map]
 have hq0:qs[0]? = some (qs[0]'(by omega)):=List.getElem?_eq_getElem _;have hl0:ls[0]? = some ls[0]:=List.getElem?_eq_getElem (by omega);have e0:H (qs[0]'(by omega))=some (lO ls[0]):=lq.2 0 _ _ hq0 (by rw [List.getElem?_map,hl0];rfl);obtain ⟨dx,p,lm,un,hpl,_⟩:=(al ls[0] (List.mem_of_getElem? hl0)).1.at_;walk_at "RD";refine ⟨_,SqL.of l1,_,Ac (j:=0) (by rw [List.getElem?_map,hq0];rfl),_,rfl,_,SqT.of e0,_,rfl,_,rfl,_,uu T hpl,_,rfl,by omega,by omega,fun p1 hp1=>⟨_,cb,by omega,by omega,fun p2 hp2=>⟨by decide,fun p3 hp3=>?_⟩⟩⟩;rw [Int.toNat_natCast] at hp3 ⊢;have s1:=lb (o:=.rng 0 (z:Int)) hp1;have s2:=lb (o:=.lst ((List.range z).map fun i=>V.int ((i:Nat):Int))) hp2;have s3:=lb (o:=.tup [.ref p2,.ref p2]) hp3;have ee:(List.range z).map (fun i=>V.int ((i:Nat):Int))=yc (ts0 z):=by unfold yc ts0;rw [List.map_map];rfl
 exact q p3 _ ((s1.trans s2).trans s3) ((nt.upd).upd).upd ⟨p2,p2,cb,by rw [← ee];exact s3 _ _ cb,by rw [← ee];exact s3 _ _ cb⟩
end
end My
namespace My
open PySem L2
theorem uv (x:Str) {a b:Nat} (hab:a ≤ b) (hb:b ≤ x.cps.toList.length):(Txt.slice x (some (a:Int)) (some (b:Int))).cps.toList=(x.cps.toList.drop a).take (b - a):=by
 have hx:x.length=x.cps.toList.length:=by simp [Str.length]
 have e:=StrLaws.sliceText_nat x hab (by rw [hx];exact hb);rw [show Txt.slice x (some (a:Int)) (some (b:Int))=StrLaws.sliceText x (some (a:Int)) (some (b:Int)) from rfl,e]
theorem oz (x:Str) {b:Nat} (hb:b ≤ x.cps.toList.length):(Txt.slice x none (some (b:Int))).cps.toList=x.cps.toList.take b:=by
 have:Txt.slice x none (some (b:Int))=Txt.slice x (some ((0:Nat):Int)) (some (b:Int)):=by
  show StrLaws.sliceText x none (some (b:Int))=StrLaws.sliceText x (some ((0:Nat):Int)) (some (b:Int));unfold StrLaws.sliceText;rw [StrLaws.sliceIdx_none_lo];rfl
 rw [this,uv x (Nat.zero_le _) hb,List.drop_zero,Nat.sub_zero]
noncomputable def nmA (l:List Nat) (k:Nat):List Nat:=l.take (k + 1)
noncomputable def nmB (l:List Nat) (at_ size f k:Nat):List Nat:=l.take at_ ++ [97 + (f + 7 * k) % 26] ++ (l.drop (at_ + 1)).take (size - (at_ + 1))
theorem yB {l:List Nat} (hl:l.length=8) (al:∀ c ∈ l,97 ≤ c∧c ≤ 122) {k:Nat} (hk:k < 8):(nmA l k).length=k + 1∧∀ c ∈ nmA l k,97 ≤ c∧c ≤ 122:=by
 unfold nmA;exact ⟨by rw [List.length_take];omega,fun c hc=>al c (List.mem_of_mem_take hc)⟩
theorem eL {l:List Nat} (hl:l.length=8) (al:∀ c ∈ l,97 ≤ c∧c ≤ 122) {a z f k:Nat} (ha:a < z) (hz:z ≤ 8):(nmB l a z f k).length=z∧∀ c ∈ nmB l a z f k,97 ≤ c∧c ≤ 122:=by
 unfold nmB;refine ⟨by rw [List.length_append,List.length_append,List.length_take,List.length_take,List.length_drop,List.length_singleton];omega,fun c hc=>?_⟩;rcases List.mem_append.mp hc with hc | hc
 ·rcases List.mem_append.mp hc with hc | hc
  ·exact al c (List.mem_of_mem_take hc)
  ·rw [List.mem_singleton.mp hc];omega
 ·exact al c (List.mem_of_mem_drop (List.mem_of_mem_take hc))
theorem WH {l:List Nat} (hl:l.length=8) {a z f i j:Nat} (ha:a < z) (hz:z ≤ 8) (hi:i < 8) (hj:j < 8) (e:nmB l a z f i=nmB l a z f j):i=j:=by
 have h1:∀ k,(nmB l a z f k)[a]? = some (97 + (f + 7 * k) % 26):=fun k=>by
  unfold nmB;rw [List.append_assoc,List.getElem?_append_right (by rw [List.length_take];omega),List.length_take,show a - min a l.length=0 by omega];rfl
 have h2:=h1 i;rw [e,h1 j] at h2;have:=Option.some.inj h2;omega
theorem XI {x:Str} {l:List Nat} (e:x.cps.toList=l) (h0:1 ≤ l.length) (h1:l.length ≤ 8) (al:∀ c ∈ l,97 ≤ c∧c ≤ 122):made x Vg 8=true:=by
 have hx:x.length=x.cps.toList.length:=by simp [Str.length]
 exact Ew (by rw [hx,e];exact h0) (by rw [hx,e];exact h1) (by rw [e];exact al)
noncomputable def Nms (m:Nat) (xs:List Str):Prop:=xs.length=m∧xs.Nodup∧∀ x ∈ xs,made x Vg 8=true
theorem zH {i:Int} (h0:0 ≤ i) (h1:i < 26):∃ c:Nat,atI (Str.ofString "abcdefghijklmnopqrstuvwxyz").cps.toList i=some c∧c=97 + i.toNat:=by
 have:∀ k,k < 26→atI (Str.ofString "abcdefghijklmnopqrstuvwxyz").cps.toList ((k:Nat):Int)=some (97 + k):=by decide +kernel
 refine ⟨97 + i.toNat,?_,rfl⟩;have e:=this i.toNat (by omega);rwa [Int.toNat_of_nonneg h0] at e
theorem AK:∀ ys:List Str,(Str.join ⟨#[]⟩ ys).cps.toList=(ys.map (·.cps.toList)).flatten
 | []=>rfl
 | [a]=>by
  show a.cps.toList=_;simp
 | a :: b :: r=>by
  show (a ++ ⟨#[]⟩ ++ Str.join ⟨#[]⟩ (b :: r)).cps.toList=_;rw [Str.cps_append,Array.toList_append,Str.cps_append,Array.toList_append,AK (b :: r)];simp
theorem Kt (f:Nat→Nat) (n:Nat):(Txt.join (Str.ofString "") ((List.range n).map fun i=>Av (f i))).cps.toList=(List.range n).map f:=by
 rw [show Txt.join (Str.ofString "") ((List.range n).map fun i=>Av (f i))=Str.join ⟨#[]⟩ ((List.range n).map fun i=>Av (f i)) from StrLaws.glued_eq_join _ _,AK,List.map_map];have:((fun x:Str=>x.cps.toList) ∘ fun i=>Av (f i))=fun i=>[f i]:=rfl
 rw [this]
 induction (List.range n) with
 | nil=>rfl
 | cons a l ih=>rw [List.map_cons,List.flatten_cons,ih];rfl
noncomputable def vw (K:PySem.W.Frag) (a:Addr) (ns:List Int):Sp:=fun vs H Q _=>∃ m:Nat,vs=[.ref a,.int m]∧Sc K a ns H∧(1 ≤ m∧m ≤ 8)∧∀ p xs H',Jb H H'→Sc K a ns H'→H p=none→H' p=some (.lst (Kb xs))→Nms m xs→Q (.ref p) H'
section
variable {P:Program} {w:World} {K:PySem.W.Frag} {mg:Str→Option Value} {base:Heap} {t:Adr}
theorem FC (T:Txt w K mg t) (a:Addr) (ns:List Int) (h63:ns.length ≤ 63):Pb P w K mg base CX0 2 t.Ph t.Uh q47 (vw K a ns):=by
 have g0:Pb P w K mg base CX0 1 t.tf t.sf q18 (kd K a ns):=lu T a ns h63;refine T.nk.ok Oc (fun vs H Q E h=>?_) (fun _ _ _ s H vs Q E hr h=>?_)
 ·obtain ⟨m,rfl,_⟩:=h;rfl
 obtain ⟨m,rfl,S,hm,q⟩:=h;have hL:(Str.ofString "abcdefghijklmnopqrstuvwxyz").length=26:=by decide +kernel
 refine ⟨_,(db (Cb (i:=2) Oc.nd rfl (Or.inr rfl) Wc)
   (db (Cb (i:=3) Oc.nd rfl (Or.inl rfl) (Vi PySem.F.plainAttrs_str PySem.F.slot_str_join PySem.F.type_str_join Mp Wc (ab (ve rfl (uc rfl T.Zc (ab pb fb)) (jc (sc:=rb Dj) rfl (by decide +kernel)) (N:=["_law_k","_law_letters","_law_script"]) (sel:=[none,some 2,some 0]) (Gc (M:=["_law_script","_law_many","_law_letters","_law_word","_law_size","_law_at","_law_first","_law_some","_law_k","_law_name","_law_sign"]) (by decide +kernel)) (Blk.of (fun _ _ _ _=>(yb (i:=0) (Xe (N:=["_law_k","_law_letters","_law_script"]) (by decide +kernel) rfl) rfl (Or.inl rfl))) (fun _ _ _ _=>⟨_,Qd,by walk_at "B"⟩) (fun _ _ _ _=>⟨_,(kc dD (pv 1) (xb g0 hr rfl T.Ub T.Qb.kp T.Tb .nil Db (ab (pv 2) (ab (Fb fc pb (pv 0)) (ab pb fb)))) (fun _ _=>rfl)),by walk_at "B"⟩))) fb)))
   (db (Cb (i:=4) Oc.nd rfl (Or.inl rfl) (Fb fc pb (xb g0 hr rfl T.Ub T.Qb.kp T.Tb .nil Db (ab (pv 0) (ab pb (ab pb fb))))))
   (db (Cb (i:=5) Oc.nd rfl (Or.inl rfl) (xb g0 hr rfl T.Ub T.Qb.kp T.Tb .nil Db (ab (pv 0) (ab pb (ab (pv 4) fb)))))
   (db (Cb (i:=6) Oc.nd rfl (Or.inl rfl) (xb g0 hr rfl T.Ub T.Qb.kp T.Tb .nil Db (ab (pv 0) (ab pb (ab pb fb)))))
   (db (Cb (i:=7) Oc.nd rfl (Or.inl rfl) (Td fb))
   (db (Bd PassesOwn.never rfl (uc rfl T.Zc (ab (pv 1) fb)) (yb (i:=8) Oc.nd rfl (Or.inl rfl)) (db (Cb (i:=9) Oc.nd rfl (Or.inl rfl) (Qe yC (pv 3) Ug (Tf (Fb fc (pv 8) pb))))
   (db (Be (Rb Ji (xb g0 hr rfl T.Ub T.Qb.kp T.Tb .nil Db (ab (pv 0) (ab pb (ab pb fb)))) pb (Xb _)) (db (Cb (i:=10) Oc.nd rfl (Or.inl rfl) (kc dD (pv 2) (Fb Uf (Fb fc (pv 6) (Fb wf pb (pv 8))) pb) (fun _ _=>rfl)))
   (qb (Cb (i:=9) Oc.nd rfl (Or.inl rfl) (Fb Gk (Fb Gk (Qe yC (pv 3) Ug (Tf (pv 5))) (pv 10)) (Qe yC (pv 3) (Tf (Fb fc (pv 5) pb)) (Tf (pv 4))))))) vc)
   (qb (Fc (Vi PySem.F.plainAttrs_list PySem.F.slot_list_append PySem.F.type_list_append qe (pv 7) (ab (pv 9) fb)))))))
   (db (Be (Rb Ji (xb g0 hr rfl T.Ub T.Qb.kp T.Tb .nil Db (ab (pv 0) (ab pb (ab pb fb)))) pb (Xb _)) (qb (Fc (PL PySem.F.plainAttrs_list PySem.F.slot_list_reverse PySem.F.type_list_reverse bB (pv 7)))) vc)
   (qb (Gb (pv 7))))))))))),?_⟩
 refine zS (fun σ' H'=>H'=H∧σ'=[some (.ref a),some (.int m),some (.str (Str.ofString "abcdefghijklmnopqrstuvwxyz")),none,none,none,none,none,none,none,none]) (fun D' hD=>?_) fun zzM zzh=>?_
 ·walk_at "RD";exact hD _ _ ⟨rfl,rfl⟩
 rintro σ1 H1 ⟨rfl,rfl⟩;subst zzh;refine zS (fun σ' H'=>Jb H1 H'∧Sc K a ns H'∧∃ wd:Str,wd.cps.toList.length=8∧(∀ c ∈ wd.cps.toList,97 ≤ c∧c ≤ 122)∧σ'=[some (.ref a),some (.int m),some (.str (Str.ofString "abcdefghijklmnopqrstuvwxyz")),some (.str wd),none,none,none,none,none,none,none]) (fun D' hD=>?_) fun zzM zzh=>?_
 ·walk_at "RD";refine ⟨by decide,by decide,?_⟩;refine ed.range_map (n:=8) (fun i=>V.str (Av (97 + (fh ns (100 + (i:Int)) 26).toNat))) (by decide) (fun i N hi hN=>?_) (fun p hp=>?_)
  ·have d1:=ge ns (100 + (i:Int)) (m:=26) (by decide);have d2:=ce ns (100 + (i:Int)) (m:=26) (by decide);obtain ⟨c,hc,rfl⟩:=zH d1 d2;(walk_at "RD"; repeat (simp only [kd];walk_at "RD"));exact ⟨Sub.name,S,by omega,by omega,by decide,by rw [hL];decide,_,hc,hN⟩
  ·have e:(List.range 8).map (fun i:Nat=>V.str (Av (97 + (fh ns (100 + (i:Int)) 26).toNat)))=Kb ((List.range 8).map fun i:Nat=>Av (97 + (fh ns (100 + (i:Int)) 26).toNat)):=by unfold Kb;rw [List.map_map];rfl
   refine ⟨p,rfl,(List.range 8).map fun i:Nat=>Av (97 + (fh ns (100 + (i:Int)) 26).toNat),by rw [← e];exact SqL.of cb,?_,?_⟩
   ·have h1:(List.map (fun x:Str=>x.length) ((List.range 8).map fun i:Nat=>Av (97 + (fh ns (100 + (i:Int)) 26).toNat))).sum=8:=by
     rw [List.map_map];rfl
    rw [h1,List.length_map,List.length_range];decide +kernel
   ·refine hD _ _ ⟨lb hp,S.new hp,_,?_,fun c hc=>?_,rfl⟩
    ·rw [Kt (fun i:Nat=>97 + (fh ns (100 + (i:Int)) 26).toNat) 8,List.length_map,List.length_range]
    ·rw [Kt (fun i:Nat=>97 + (fh ns (100 + (i:Int)) 26).toNat) 8] at hc;obtain ⟨i,_,rfl⟩:=List.mem_map.mp hc;have d1:=ge ns (100 + (i:Int)) (m:=26) (by decide);have d2:=ce ns (100 + (i:Int)) (m:=26) (by decide);omega
 rintro σ2 H2 ⟨s2,S2,wd,hwl,hwa,rfl⟩;have hwn:wd.length=8:=by
  have:wd.length=wd.cps.toList.length:=by simp [Str.length]
  omega
 obtain ⟨z,hzz,hz1⟩:∃ z:Nat,1 + fh ns 112 8=(z:Nat)∧(1 ≤ z∧z ≤ 8):=by
  have d1:=ge ns 112 (m:=8) (by decide);have d2:=ce ns 112 (m:=8) (by decide);exact ⟨(1 + fh ns 112 8).toNat,by omega,by omega⟩
 subst zzh;refine zS (fun σ' H'=>H'=H2∧σ'=[some (.ref a),some (.int m),some (.str (Str.ofString "abcdefghijklmnopqrstuvwxyz")),some (.str wd),some (.int (z:Nat)),none,none,none,none,none,none]) (fun D' hD=>?_) fun zzM zzh=>?_
 ·(walk_at "RD"; repeat (simp only [kd];walk_at "RD"));rw [hzz];exact ⟨S2,by omega,by omega,by decide,hD _ _ ⟨rfl,rfl⟩⟩
 rintro σ3 H3 ⟨rfl,rfl⟩;obtain ⟨at_,hat,hat1⟩:∃ at_:Nat,fh ns 113 (z:Int)=(at_:Nat)∧at_ < z:=by
  have d1:=ge ns 113 (m:=(z:Int)) (by omega);have d2:=ce ns 113 (m:=(z:Int)) (by omega);exact ⟨(fh ns 113 (z:Int)).toNat,by omega,by omega⟩
 subst zzh;refine zS (fun σ' H'=>H'=H3∧σ'=[some (.ref a),some (.int m),some (.str (Str.ofString "abcdefghijklmnopqrstuvwxyz")),some (.str wd),some (.int (z:Nat)),some (.int (at_:Nat)),none,none,none,none,none]) (fun D' hD=>?_) fun zzM zzh=>?_
 ·(walk_at "RD"; repeat (simp only [kd];walk_at "RD"));rw [hat];exact ⟨S2,by omega,by omega,by omega,hD _ _ ⟨rfl,rfl⟩⟩
 rintro σ4 H4 ⟨rfl,rfl⟩;obtain ⟨f,hf,hf1⟩:∃ f:Nat,fh ns 114 26=(f:Nat)∧f < 26:=by
  have d1:=ge ns 114 (m:=26) (by decide);have d2:=ce ns 114 (m:=26) (by decide);exact ⟨(fh ns 114 26).toNat,by omega,by omega⟩
 subst zzh;refine zS (fun σ' H'=>H'=H4∧σ'=[some (.ref a),some (.int m),some (.str (Str.ofString "abcdefghijklmnopqrstuvwxyz")),some (.str wd),some (.int (z:Nat)),some (.int (at_:Nat)),some (.int (f:Nat)),none,none,none,none]) (fun D' hD=>?_) fun zzM zzh=>?_
 ·(walk_at "RD"; repeat (simp only [kd];walk_at "RD"));rw [hf];exact ⟨S2,by omega,by omega,by decide,hD _ _ ⟨rfl,rfl⟩⟩
 rintro σ5 H5 ⟨rfl,rfl⟩;subst zzh;refine zS (fun σ' H'=>Sc K a ns H'∧Jb H5 H'∧∃ rl,H5 rl=none∧H' rl=some (.lst [])∧σ'=[some (.ref a),some (.int m),some (.str (Str.ofString "abcdefghijklmnopqrstuvwxyz")),some (.str wd),some (.int (z:Nat)),some (.int (at_:Nat)),some (.int (f:Nat)),some (.ref rl),none,none,none]) (fun D' hD=>?_) fun zzM zzh=>?_
 ·walk_at "RD";exact ⟨Nat.zero_le _,fun rl hrl=>hD _ _ ⟨S2.new hrl,lb hrl,rl,hrl,cb,rfl⟩⟩
 rintro σ6 H6 ⟨S6,s6,rl,hrl,w6,rfl⟩;obtain ⟨b,hb⟩:∃ b:Bool,decide (fh ns 110 2=1)=b:=⟨_,rfl⟩;subst zzh;obtain ⟨g,hg⟩:∃ g:Nat→List Nat,g=fun k=>if b=true then nmB wd.cps.toList at_ z f k else nmA wd.cps.toList k:=⟨_,rfl⟩
 refine zS (fun σ' H'=>Sc K a ns H'∧Jb H5 H'∧(∃ xs:List Str,H' rl=some (.lst (Kb xs))∧xs.map (·.cps.toList)=(List.range m).map g)∧∃ x8 x9 x10,σ'=[some (.ref a),some (.int m),some (.str (Str.ofString "abcdefghijklmnopqrstuvwxyz")),some (.str wd),some (.int (z:Nat)),some (.int (at_:Nat)),some (.int (f:Nat)),some (.ref rl),x8,x9,x10]) (fun D' hD=>?_) fun zzM zzh=>?_
 ·walk_at "RD";refine ⟨by omega,by omega,?_⟩;refine Eh.range (fun i σ H'=>Sc K a ns H'∧Jb H5 H'∧(∃ xs:List Str,H' rl=some (.lst (Kb xs))∧xs.map (·.cps.toList)=(List.range i).map g)∧∃ x8 x9 x10,σ=[some (.ref a),some (.int m),some (.str (Str.ofString "abcdefghijklmnopqrstuvwxyz")),some (.str wd),some (.int (z:Nat)),some (.int (at_:Nat)),some (.int (f:Nat)),some (.ref rl),x8,x9,x10]) ⟨S6,s6,⟨[],w6,rfl⟩,_,_,_,rfl⟩ ?_ ?_
  ·rintro i σ H' hi zzq;refine zP fun zzM zzh=>?_
   obtain ⟨S7,s7,⟨xs,w7,hxs⟩,x8,x9,x10,rfl⟩:=zzq;have hi8:i < 8:=by have:i < (m:Int).toNat:=hi;omega
   have hxl:xs.length=i:=by have:=congrArg List.length hxs;rwa [List.length_map,List.length_map,List.length_range] at this
   subst zzh;simp only [Rf,zb,List.set_cons_succ,List.set_cons_zero,Int.zero_add];refine zzC (fun σ' H''=>H''=H'∧σ'=[some (.ref a),some (.int m),some (.str (Str.ofString "abcdefghijklmnopqrstuvwxyz")),some (.str wd),some (.int (z:Nat)),some (.int (at_:Nat)),some (.int (f:Nat)),some (.ref rl),some (.int (i:Nat)),some (.str (Txt.slice wd none (some ((i + 1:Nat):Int)))),x10]) (fun D' hD=>?_) fun zzM zzh=>?_
   ·walk_at "RD";exact ⟨by rw [hwn];decide,hD _ _ ⟨rfl,by rw [Int.natCast_add];rfl⟩⟩
   rintro σA HA ⟨rfl,rfl⟩;subst zzh;simp only [zb];refine zzC (fun σ' H''=>H''=HA∧∃ nm:Str,nm.cps.toList=g i∧∃ x10,σ'=[some (.ref a),some (.int m),some (.str (Str.ofString "abcdefghijklmnopqrstuvwxyz")),some (.str wd),some (.int (z:Nat)),some (.int (at_:Nat)),some (.int (f:Nat)),some (.ref rl),some (.int (i:Nat)),some (.str nm),x10]) (fun D' hD=>?_) fun zzM zzh=>?_
   ·refine Dc b (fun Q hQ=>?_) (fun hbt=>?_) (fun hbf=>?_)
    ·(walk_at "RD"; repeat (simp only [kd];walk_at "RD"));rw [hb];exact ⟨S7,by omega,by omega,by decide,hQ⟩
    ·have hgi:g i=nmB wd.cps.toList at_ z f i:=by rw [hg];exact if_pos hbt
     obtain ⟨c,hc,rfl⟩:=zH (i:=((f:Int) + 7 * (i:Int)) % 26) (Int.emod_nonneg _ (by decide)) (Int.emod_lt_of_pos _ (by decide));have hbig:∀ k:Nat,k ≤ 1000→k ≤ sizeLine:=fun k h=>Nat.le_trans h (by decide)
     have l1:=Txt.slice_le wd none (some (at_:Int));have l2:=Txt.slice_le wd (some ((at_:Int) + 1)) (some (z:Int));have l3:(Av (97 + (((f:Int) + 7 * (i:Int)) % 26).toNat)).length=1:=rfl;walk_at "RD";refine ⟨.inl ⟨by decide,by decide⟩,by decide,by rw [hL];decide,_,hc,by rw [hwn];decide,hbig _ (by show _ + (Av (97 + (((f:Int) + 7 * (i:Int)) % 26).toNat)).length ≤ 1000;omega),by rw [hwn];decide,hbig _ (by show (_ ++ Av (97 + (((f:Int) + 7 * (i:Int)) % 26).toNat)).length + _ ≤ 1000;rw [Yn];omega),?_⟩;refine hD _ _ ⟨rfl,_,?_,_,rfl⟩;rw [hgi];unfold nmB;rw [Str.cps_append,Array.toList_append,Str.cps_append,Array.toList_append,oz wd (by omega),show ((at_:Int) + 1)=((at_ + 1:Nat):Int) by omega,uv wd (by omega) (by omega),show (((f:Int) + 7 * (i:Int)) % 26).toNat=(f + 7 * i) % 26 by omega]
    ·have hgi:g i=nmA wd.cps.toList i:=by rw [hg];exact if_neg (by rw [hbf];decide)
     walk_at "RD";exact hD _ _ ⟨rfl,_,by rw [hgi,oz wd (by omega)];rfl,_,rfl⟩
   rintro σB HB ⟨rfl,nm,hnm,x10,rfl⟩;subst zzh;walk_at "RD";refine ⟨.inl ⟨_,SqL.of w7⟩,_,w7,Nat.lt_of_le_of_lt (show (Kb xs).length ≤ 8 by unfold Kb;rw [List.length_map];omega) (by decide),S7.set w7 (fun _ _ z=>by cases z),s7.updN hrl,⟨xs ++ [nm],?_,?_⟩,?_⟩
   ·rw [cb];unfold Kb;rw [List.map_append];rfl
   ·rw [List.map_append,hxs,List.range_succ,List.map_append,List.map_cons,List.map_nil,hnm];rfl
   ·repeat (first | exact ⟨_,rfl⟩ | refine ⟨⟨_,rfl⟩,?_⟩)
  ·rintro σ H' zzq;refine zP fun zzM zzh=>?_
   obtain ⟨S7,s7,⟨xs,w7,hxs⟩,x8,x9,x10,rfl⟩:=zzq;subst zzh;exact hD _ _ ⟨S7,s7,⟨xs,w7,by rw [hxs,show (m:Int).toNat=m by omega]⟩,x8,x9,x10,rfl⟩
 rintro σ7 H7 ⟨S7,s7,⟨xs,w7,hxs⟩,x8,x9,x10,rfl⟩;have hxl:xs.length=m:=by have:=congrArg List.length hxs;rwa [List.length_map,List.length_map,List.length_range] at this
 have gok:∀ k,k < m→(1 ≤ (g k).length∧(g k).length ≤ 8)∧∀ c ∈ g k,97 ≤ c∧c ≤ 122:=fun k hk=>by
  rw [hg];dsimp only;split
  ·have:=eL hwl hwa (f:=f) (k:=k) hat1 hz1.2;exact ⟨by omega,this.2⟩
  ·have:=yB hwl hwa (k:=k) (by omega);exact ⟨by omega,this.2⟩
 have ginj:∀ i j,i < m→j < m→g i=g j→i=j:=fun i j hi hj e=>by
  rw [hg] at e
  try dsimp only at e
  split at e
  ·exact WH hwl hat1 hz1.2 (by omega) (by omega) e
  ·have h1:=yB hwl hwa (k:=i) (by omega);have h2:=yB hwl hwa (k:=j) (by omega);rw [e] at h1;omega
 have hat':∀ (i:Nat) (x:Str),xs[i]? = some x→i < m∧x.cps.toList=g i:=fun i x hx=>by
  have hi:i < m:=by rw [← hxl];exact (List.getElem?_eq_some_iff.mp hx).1
  have e:=congrArg (fun l=>l[i]?) hxs
  try dsimp only at e
  rw [List.getElem?_map,hx,List.getElem?_map,List.getElem?_range hi] at e;exact ⟨hi,Option.some.inj e⟩
 have N:Nms m xs:=by
  refine ⟨hxl,List.pairwise_iff_getElem.mpr fun i j hi hj hij e=>?_,fun x hx=>?_⟩
  ·obtain ⟨a1,a2⟩:=hat' i _ (List.getElem?_eq_getElem hi);obtain ⟨b1,b2⟩:=hat' j _ (List.getElem?_eq_getElem hj);rw [e,b2] at a2;have:=ginj i j a1 b1 a2.symm;omega
  ·obtain ⟨i,hi⟩:=List.getElem?_of_mem hx;obtain ⟨a1,a2⟩:=hat' i _ hi;have:=gok i a1;exact XI a2 this.1.1 this.1.2 this.2
 subst zzh;refine zS (fun σ' H'=>Sc K a ns H'∧Jb H5 H'∧(∃ xs:List Str,H' rl=some (.lst (Kb xs))∧Nms m xs)∧∃ x8 x9 x10,σ'=[some (.ref a),some (.int m),some (.str (Str.ofString "abcdefghijklmnopqrstuvwxyz")),some (.str wd),some (.int (z:Nat)),some (.int (at_:Nat)),some (.int (f:Nat)),some (.ref rl),x8,x9,x10]) (fun D' hD=>?_) fun zzM zzh=>?_
 ·refine Dc (decide (fh ns 111 2=1)) (fun Q hQ=>?_) (fun _=>?_) (fun _=>?_)
  ·(walk_at "RD"; repeat (simp only [kd];walk_at "RD"));exact ⟨S7,by omega,by omega,by decide,hQ⟩
  ·walk_at "RD";refine ⟨.inl ⟨_,SqL.of w7⟩,_,w7,hD _ _ ⟨S7.set w7 (fun _ _ z=>by cases z),s7.updN hrl,⟨xs.reverse,by rw [cb];unfold Kb;rw [List.map_reverse],by rw [List.length_reverse];exact N.1,List.pairwise_reverse.mpr (N.2.1.imp fun h=>Ne.symm h),fun x hx=>N.2.2 x (List.mem_reverse.mp hx)⟩,_,_,_,rfl⟩⟩
  ·walk_at "RD";exact hD _ _ ⟨S7,s7,⟨xs,w7,N⟩,_,_,_,rfl⟩
 rintro σ8 H8 ⟨S8,s8,⟨ys,w8,N8⟩,y8,y9,y10,rfl⟩;subst zzh;walk_at "RD";exact q rl ys H8 (s2.trans s8) S8 (s2.free hrl) w8 N8
end
end My
namespace My
open PySem L2
theorem Ep {α:Type} (z:Nat) (v:α) (b:Int) (hz:0 < z) (l:List α) (hl:l.length=z):∀ (k:Nat) (i:Nat),i < z→(Uy z v b k l)[i]? = if ∃ j,j < k∧(b + (j:Int)) % (z:Int)=(i:Int) then some v else l[i]?
 | 0,i,hi=>by rw [if_neg (fun ⟨j,hj,_⟩=>by omega)];rfl
 | k + 1,i,hi=>by
  have ih:=Ep z v b hz l hl k i hi;have h0:=Int.emod_nonneg (b + (k:Int)) (show (z:Int) ≠ 0 by omega);have h1:=Int.emod_lt_of_pos (b + (k:Int)) (show 0 < (z:Int) by omega);unfold Uy RG;by_cases c:(b + (k:Int)) % (z:Int)=(i:Int)
  ·rw [show ((b + (k:Int)) % (z:Int)).toNat=i by omega,List.getElem?_set_self (by rw [Xf,hl];exact hi),if_pos ⟨k,by omega,c⟩]
  ·rw [List.getElem?_set_ne (by omega),ih];by_cases e:∃ j,j < k∧(b + (j:Int)) % (z:Int)=(i:Int)
   ·obtain ⟨j,hj,ej⟩:=e;rw [if_pos ⟨j,hj,ej⟩,if_pos ⟨j,by omega,ej⟩]
   ·rw [if_neg e,if_neg];rintro ⟨j,hj,ej⟩;by_cases hjk:j=k
    ·subst hjk;exact c ej
    ·exact e ⟨j,by omega,ej⟩
theorem Wt {z b i:Int} {n:Int} (hz:0 < z) (hi:0 ≤ i∧i < z) (hn:0 ≤ n∧n ≤ z):(∃ j:Nat,j < n.toNat∧(b + (j:Int)) % z=i)↔(i - b) % z < n:=by
 have h0:=Int.emod_nonneg (i - b) (show z ≠ 0 by omega);have h1:=Int.emod_lt_of_pos (i - b) hz;constructor
 ·rintro ⟨j,hj,e⟩;have:(i - b) % z=j:=by
   rw [← e,Int.emod_sub_emod,show b + (j:Int) - b=j by omega];exact Int.emod_eq_of_lt (by omega) (by omega)
  omega
 ·intro h;refine ⟨((i - b) % z).toNat,by omega,?_⟩;rw [Int.toNat_of_nonneg h0,Int.add_emod_emod,show b + (i - b)=i by omega];exact Int.emod_eq_of_lt hi.1 hi.2
theorem XG {z:Nat} (hz:0 < z) {b n:Int} (hn:0 ≤ n∧n ≤ z) {i:Nat} (hi:i < z):(fmF z [(b,n)])[i]? = some (decide (((i:Int) - b) % (z:Int) < n)):=by
 unfold fmF;rw [List.foldl_cons,List.foldl_nil,Ep z true b hz _ (List.length_replicate ..) _ _ hi];have:=Wt (z:=z) (b:=b) (i:=i) (n:=n) (by omega) ⟨by omega,by omega⟩ hn;by_cases c:((i:Int) - b) % (z:Int) < n
 ·rw [if_pos (this.mpr c),decide_eq_true c]
 ·rw [if_neg (fun e=>c (this.mp e)),decide_eq_false c,List.getElem?_replicate,if_pos hi]
theorem Oi (m:List Bool):∀ k,0 ≤ Sf m k
 | 0=>by show (0:Int) ≤ 0;decide
 | k + 1=>by
  have:=Oi m k;unfold Sf;split <;> omega
theorem sw (m:List Bool) (g:Int) (hg:0 ≤ g):∀ k:Nat,Sf m k ≤ g↔(∃ j:Nat,(j:Int) ≤ g∧j < k∧m[(2 * m.length - 1 - (k - 1 - j)) % m.length]? = some true)∨(k:Int) ≤ g
 | 0=>by
  constructor
  ·intro _;exact .inr (by omega)
  ·intro _;exact hg
 | k + 1=>by
  by_cases c:m[(2 * m.length - 1 - k) % m.length]? = some true
  ·have e:Sf m (k + 1)=0:=by unfold Sf;rw [if_pos c]
   rw [e];exact ⟨fun _=>.inl ⟨0,by omega,by omega,by rw [show k + 1 - 1 - 0=k by omega];exact c⟩,fun _=>hg⟩
  ·have e:Sf m (k + 1)=Sf m k + 1:=by
    show (if m[(2 * m.length - 1 - k) % m.length]? = some true then 0 else Sf m k + 1)=_;rw [if_neg c]
   rw [e];by_cases hg1:1 ≤ g
   ·have ih:=sw m (g - 1) (by omega) k;constructor
    ·intro h;rcases ih.mp (by omega) with ⟨j,h1,h2,h3⟩ | h
     ·exact .inl ⟨j + 1,by omega,by omega,by rw [show k + 1 - 1 - (j + 1)=k - 1 - j by omega];exact h3⟩
     ·exact .inr (by omega)
    ·rintro (⟨j,h1,h2,h3⟩ | h)
     ·by_cases hj:j=0
      ·subst hj;rw [show k + 1 - 1 - 0=k by omega] at h3;exact absurd h3 c
      ·have:=ih.mpr (.inl ⟨j - 1,by omega,by omega,by rw [show k - 1 - (j - 1)=k + 1 - 1 - j by omega];exact h3⟩);omega
     ·have:=ih.mpr (.inr (by omega));omega
   ·have:=Oi m k;constructor
    ·intro h;omega
    ·rintro (⟨j,h1,h2,h3⟩ | h)
     ·have hj:j=0:=by omega
      subst hj;rw [show k + 1 - 1 - 0=k by omega] at h3;exact absurd h3 c
     ·omega
theorem BF {m:List Bool} {t:Nat} (ht:t < m.length):(Im m)[t]? = some (Sf m (2 * m.length - t)):=by
 unfold Im;rw [List.getElem?_map,List.getElem?_range ht];rfl
theorem dF {m:List Bool} (hm:∃ i,i < m.length∧m[i]? = some true) {t:Nat} (ht:t < m.length) (g:Int) (hg:0 ≤ g):Sf m (2 * m.length - t) ≤ g↔∃ j:Nat,(j:Int) ≤ g∧m[(t + j) % m.length]? = some true:=by
 have pos:∀ j,j < 2 * m.length - t→(2 * m.length - 1 - (2 * m.length - t - 1 - j))=t + j:=fun j hj=>by omega
 rw [sw m g hg];constructor
 ·rintro (⟨j,h1,h2,h3⟩ | h)
  ·rw [pos j h2] at h3;exact ⟨j,h1,h3⟩
  ·obtain ⟨i,hi,e⟩:=hm;refine ⟨(i + m.length - t) % m.length,?_,?_⟩
   ·have:=Nat.mod_lt (i + m.length - t) (show 0 < m.length by omega);omega
   ·rw [Nat.add_mod_mod,show t + (i + m.length - t)=i + m.length by omega,Nat.add_mod_right,Nat.mod_eq_of_lt hi];exact e
 ·rintro ⟨j,h1,h2⟩;have hj:=Nat.mod_lt j (show 0 < m.length by omega);have hle:=Nat.mod_le j m.length;refine .inl ⟨j % m.length,by omega,by omega,?_⟩;rw [pos _ (by omega),Nat.add_mod_mod];exact h2
theorem dI {m:List Bool} (hm:∃ i,i < m.length∧m[i]? = some true):∃ i,i < m.reverse.length∧m.reverse[i]? = some true:=by
 obtain ⟨i,hi,e⟩:=hm;refine ⟨m.length - 1 - i,by rw [List.length_reverse];omega,?_⟩;rw [List.getElem?_reverse (by omega),show m.length - 1 - (m.length - 1 - i)=i by omega];exact e
theorem RF {m:List Bool} {t:Nat} (ht:t < m.length):∃ v,(tt m)[t]? = some v∧0 ≤ v∧((∃ i,i < m.length∧m[i]? = some true)→∀ g:Int,0 ≤ g→(v ≤ g↔∃ j:Nat,(j:Int) ≤ g∧m[(((t:Int) - (j:Int)) % (m.length:Int)).toNat]? = some true)):=by
 have hr:m.reverse.length=m.length:=List.length_reverse;have h1:m.length - 1 - t < m.reverse.length:=by omega
 refine ⟨Sf m.reverse (2 * m.reverse.length - (m.length - 1 - t)),?_,Oi _ _,fun hm g hg=>?_⟩
 ·unfold tt;rw [List.getElem?_reverse (by rw [Ck];omega),Ck,hr];have:=BF h1;rw [hr] at this;exact this
 ·rw [dF (dI hm) h1 g hg];have key:∀ j:Nat,m.reverse[(m.length - 1 - t + j) % m.reverse.length]? = m[(((t:Int) - (j:Int)) % (m.length:Int)).toNat]?:=fun j=>by
   rw [hr];have hlt:=Nat.mod_lt (m.length - 1 - t + j) (show 0 < m.length by omega);rw [List.getElem?_reverse (by omega)];congr 1;have h0:=Int.emod_nonneg ((t:Int) - (j:Int)) (show (m.length:Int) ≠ 0 by omega);have e:((t:Int) - (j:Int)) % (m.length:Int)=((m.length - 1 - (m.length - 1 - t + j) % m.length:Nat):Int):=by
    have d:=Nat.div_add_mod (m.length - 1 - t + j) m.length;generalize (m.length - 1 - t + j) / m.length=q at d;generalize (m.length - 1 - t + j) % m.length=r at d hlt ⊢;have e2:(t:Int) - (j:Int)=((m.length - 1 - r:Nat):Int) + (m.length:Int) * (-(q:Int)):=by
     have d':(m.length:Int) * (q:Int) + (r:Int)=((m.length - 1 - t + j:Nat):Int):=by rw [← d];push_cast;rfl
     rw [Int.mul_neg];omega
    rw [e2,Int.add_mul_emod_self_left];exact Int.emod_eq_of_lt (by omega) (by omega)
   omega
  constructor
  ·rintro ⟨j,h2,h3⟩;exact ⟨j,h2,by rw [← key j];exact h3⟩
  ·rintro ⟨j,h2,h3⟩;exact ⟨j,h2,by rw [key j];exact h3⟩
theorem yL {z:Nat} (hz:0 < z) {b n:Int} (hn:1 ≤ n∧n ≤ z) {t:Nat} (ht:t < z):∃ v,(tt (fmF z [(b,n)]))[t]? = some v∧0 ≤ v∧∀ g:Int,0 ≤ g→(v ≤ g↔∃ j:Nat,(j:Int) ≤ g∧((t:Int) - (j:Int) - b) % (z:Int) < n):=by
 have hl:(fmF z [(b,n)]).length=z:=Ql _ _;obtain ⟨v,h1,h2,h3⟩:=RF (m:=fmF z [(b,n)]) (t:=t) (by rw [hl];exact ht);refine ⟨v,h1,h2,fun g hg=>?_⟩;have hb0:=Int.emod_nonneg b (show (z:Int) ≠ 0 by omega);have hb1:=Int.emod_lt_of_pos b (show 0 < (z:Int) by omega);have hm:∃ i,i < (fmF z [(b,n)]).length∧(fmF z [(b,n)])[i]? = some true:=by
  refine ⟨(b % (z:Int)).toNat,by rw [hl];omega,?_⟩;rw [XG hz ⟨by omega,hn.2⟩ (by omega),Int.toNat_of_nonneg hb0,decide_eq_true];rw [Int.emod_sub_emod,Int.sub_self,Int.zero_emod];omega
 rw [h3 hm g hg,hl];have key:∀ j:Nat,(fmF z [(b,n)])[(((t:Int) - (j:Int)) % (z:Int)).toNat]? = some (decide (((t:Int) - (j:Int) - b) % (z:Int) < n)):=fun j=>by
  have c0:=Int.emod_nonneg ((t:Int) - (j:Int)) (show (z:Int) ≠ 0 by omega);have c1:=Int.emod_lt_of_pos ((t:Int) - (j:Int)) (show 0 < (z:Int) by omega);rw [XG hz ⟨by omega,hn.2⟩ (by omega),Int.toNat_of_nonneg c0,Int.emod_sub_emod]
 constructor
 ·rintro ⟨j,g1,g2⟩;rw [key j] at g2;exact ⟨j,g1,of_decide_eq_true (Option.some.inj g2)⟩
 ·rintro ⟨j,g1,g2⟩;exact ⟨j,g1,by rw [key j,decide_eq_true g2]⟩
theorem lw {α:Type} (z:Nat) (v:α) (b:Int) (hz:0 < z) (l:List α) (hl:l.length=z):∀ (k:Nat) (i:Nat),i < z→(Vu z v b k l)[i]? = if ∃ j,j < k∧(b - 1 - (j:Int)) % (z:Int)=(i:Int) then some v else l[i]?
 | 0,i,hi=>by rw [if_neg (fun ⟨j,hj,_⟩=>by omega)];rfl
 | k + 1,i,hi=>by
  have ih:=lw z v b hz l hl k i hi;have h0:=Int.emod_nonneg (b - 1 - (k:Int)) (show (z:Int) ≠ 0 by omega);have h1:=Int.emod_lt_of_pos (b - 1 - (k:Int)) (show 0 < (z:Int) by omega);unfold Vu RG;by_cases c:(b - 1 - (k:Int)) % (z:Int)=(i:Int)
  ·rw [show ((b - 1 - (k:Int)) % (z:Int)).toNat=i by omega,List.getElem?_set_self (by rw [Mg,hl];exact hi),if_pos ⟨k,by omega,c⟩]
  ·rw [List.getElem?_set_ne (by omega),ih];by_cases e:∃ j,j < k∧(b - 1 - (j:Int)) % (z:Int)=(i:Int)
   ·obtain ⟨j,hj,ej⟩:=e;rw [if_pos ⟨j,hj,ej⟩,if_pos ⟨j,by omega,ej⟩]
   ·rw [if_neg e,if_neg];rintro ⟨j,hj,ej⟩;by_cases hjk:j=k
    ·subst hjk;exact c ej
    ·exact e ⟨j,by omega,ej⟩
theorem kF {z b i:Int} {n:Int} (hz:0 < z) (hi:0 ≤ i∧i < z) (hn:0 ≤ n∧n ≤ z):(∃ j:Nat,j < n.toNat∧(b - 1 - (j:Int)) % z=i)↔z - n ≤ (i - b) % z:=by
 have h0:=Int.emod_nonneg (i - b) (show z ≠ 0 by omega);have h1:=Int.emod_lt_of_pos (i - b) hz;constructor
 ·rintro ⟨j,hj,e⟩;have:(i - b) % z=z - 1 - j:=by
   rw [← e,Int.emod_sub_emod,show b - 1 - (j:Int) - b=(z - 1 - j) + z * (-1) by omega,Int.add_mul_emod_self_left];exact Int.emod_eq_of_lt (by omega) (by omega)
  omega
 ·intro h;refine ⟨(z - 1 - (i - b) % z).toNat,by omega,?_⟩;rw [Int.toNat_of_nonneg (by omega),show b - 1 - (z - 1 - (i - b) % z)=(b + (i - b) % z) + z * (-1) by omega,Int.add_mul_emod_self_left,Int.add_emod_emod,show b + (i - b)=i by omega];exact Int.emod_eq_of_lt hi.1 hi.2
theorem OE {z:Nat} (hz:0 < z) {rd fd:Nat} {l:List Str} (hl:l.length=z) {p:Int × Int} (hn:0 ≤ p.2∧p.2 + fd + rd ≤ z) {i:Nat} (hi:i < z):(Yr z rd fd l p)[i]? =
  if ((i:Int) - p.1) % (z:Int) < p.2 then some (Str.ofString "free") else if ((i:Int) - p.1) % (z:Int) < p.2 + fd then some (Str.ofString "fade") else if (z:Int) - rd ≤ ((i:Int) - p.1) % (z:Int) then some (Str.ofString "ready") else l[i]?:=by
 obtain ⟨b,n⟩:=p;dsimp only at hn ⊢;unfold Yr;have s0:=Int.emod_nonneg ((i:Int) - b) (show (z:Int) ≠ 0 by omega);have s1:=Int.emod_lt_of_pos ((i:Int) - b) (show 0 < (z:Int) by omega);rw [Ep z _ _ hz _ (by rw [Xf,Mg,hl]) _ _ hi,Ep z _ _ hz _ (by rw [Mg,hl]) _ _ hi,lw z _ _ hz _ hl _ _ hi];dsimp only;have m1:=Wt (z:=z) (b:=b + n) (i:=i) (n:=fd) (by omega) ⟨by omega,by omega⟩ ⟨by omega,by omega⟩;have m2:=Wt (z:=z) (b:=b) (i:=i) (n:=n) (by omega) ⟨by omega,by omega⟩ ⟨by omega,by omega⟩;have m3:=kF (z:=z) (b:=b) (i:=i) (n:=rd) (by omega) ⟨by omega,by omega⟩ ⟨by omega,by omega⟩;rw [Int.toNat_natCast] at m1 m3;have f1:((i:Int) - (b + n)) % (z:Int) < fd↔n ≤ ((i:Int) - b) % (z:Int)∧((i:Int) - b) % (z:Int) < n + fd:=by
  have e:((i:Int) - (b + n)) % (z:Int)=(((i:Int) - b) % (z:Int) - n) % (z:Int):=by
   rw [Int.emod_sub_emod,show (i:Int) - (b + n)=(i:Int) - b - n by omega]
  rw [e];by_cases c:n ≤ ((i:Int) - b) % (z:Int)
  ·rw [Int.emod_eq_of_lt (by omega) (by omega)];omega
  ·rw [show ((i:Int) - b) % (z:Int) - n=(((i:Int) - b) % (z:Int) - n + z) + (z:Int) * (-1) by omega,Int.add_mul_emod_self_left,Int.emod_eq_of_lt (by omega) (by omega)];omega
 by_cases c1:((i:Int) - b) % (z:Int) < n
 ·rw [if_neg (fun h=>by have:=f1.mp (m1.mp h);omega),if_pos (m2.mpr c1),if_pos c1]
 ·by_cases c2:((i:Int) - b) % (z:Int) < n + fd
  ·rw [if_pos (m1.mpr (f1.mpr ⟨by omega,c2⟩)),if_neg c1,if_pos c2]
  ·rw [if_neg (fun h=>by have:=f1.mp (m1.mp h);omega),if_neg (fun h=>c1 (m2.mp h)),if_neg c1,if_neg c2];by_cases c3:(z:Int) - rd ≤ ((i:Int) - b) % (z:Int)
   ·rw [if_pos (m3.mpr c3),if_pos c3]
   ·rw [if_neg (fun h=>c3 (m3.mp h)),if_neg c3]
noncomputable def rM (z:Int) (rd fd:Nat) (p q:Int × Int):Prop:=p.2 + fd + rd ≤ (q.1 - p.1) % z∧q.2 + fd + rd ≤ (p.1 - q.1) % z
theorem OI {z x:Int} (hz:0 < z) (hx:0 < x % z):(-x) % z=z - x % z:=by
 have h1:=Int.emod_lt_of_pos x hz;have e:-x=(z - x % z) + z * (-(x / z) - 1):=by
  have:=Int.mul_ediv_add_emod x z;rw [Int.mul_sub,Int.mul_neg,Int.mul_one];omega
 rw [e,Int.add_mul_emod_self_left,Int.emod_eq_of_lt (by omega) (by omega)]
theorem rM.clear {z:Int} (hz:0 < z) {rd fd:Nat} {p q:Int × Int} (h:rM z rd fd p q) (hq:1 ≤ q.2) {i:Int} (hi:(i - p.1) % z < p.2):q.2 + fd ≤ (i - q.1) % z∧(i - q.1) % z < z - rd:=by
 have h0:=Int.emod_nonneg (i - p.1) (show z ≠ 0 by omega);have hD:0 < (p.1 - q.1) % z:=by have:=h.2;omega
 have hn:=OI hz hD;rw [show -(p.1 - q.1)=q.1 - p.1 by omega] at hn;have e:(i - q.1) % z=((i - p.1) % z + (p.1 - q.1) % z) % z:=by
  rw [← Int.add_emod,show i - p.1 + (p.1 - q.1)=i - q.1 by omega]
 have h1:=h.1;have h2:=h.2;rw [hn] at h1;rw [e,Int.emod_eq_of_lt (by omega) (by omega)];omega
theorem Co {z:Nat} (hz:0 < z) {rd fd:Nat} {i:Nat} (hi:i < z):∀ (ps:List (Int × Int)) (l:List Str),l.length=z→(∀ p ∈ ps,1 ≤ p.2∧p.2 + fd + rd ≤ z)→ps.Pairwise (rM z rd fd) →
  (l[i]? = some (Str.ofString "free")→∀ p ∈ ps,p.2 + fd ≤ ((i:Int) - p.1) % (z:Int)∧((i:Int) - p.1) % (z:Int) < z - rd) →
  ((ps.foldl (Yr z rd fd) l)[i]? = some (Str.ofString "free")↔l[i]? = some (Str.ofString "free")∨∃ p ∈ ps,((i:Int) - p.1) % (z:Int) < p.2)
 | [],l,_,_,_,_=>by simp
 | p :: ps,l,hl,hp,pw,hB=>by
  have hp0:=hp p (List.mem_cons_self ..);obtain ⟨pw1,pw2⟩:=List.pairwise_cons.mp pw;have e:=OE hz hl (p:=p) (rd:=rd) (fd:=fd) ⟨by omega,hp0.2⟩ hi;have ne1:(some (Str.ofString "fade"):Option Str) ≠ some (Str.ofString "free"):=by decide +kernel
  have ne2:(some (Str.ofString "ready"):Option Str) ≠ some (Str.ofString "free"):=by decide +kernel
  have key:(Yr z rd fd l p)[i]? = some (Str.ofString "free")↔l[i]? = some (Str.ofString "free")∨((i:Int) - p.1) % (z:Int) < p.2:=by
   rw [e];by_cases c1:((i:Int) - p.1) % (z:Int) < p.2
   ·rw [if_pos c1];simp [c1]
   ·rw [if_neg c1];by_cases c2:((i:Int) - p.1) % (z:Int) < p.2 + fd
    ·rw [if_pos c2];exact ⟨fun h=>absurd h ne1,fun h=>by
      rcases h with h | h
      ·have:=(hB h p (List.mem_cons_self ..)).1;omega
      ·exact absurd h c1⟩
    ·rw [if_neg c2];by_cases c3:(z:Int) - rd ≤ ((i:Int) - p.1) % (z:Int)
     ·rw [if_pos c3];exact ⟨fun h=>absurd h ne2,fun h=>by
       rcases h with h | h
       ·have:=(hB h p (List.mem_cons_self ..)).2;omega
       ·exact absurd h c1⟩
     ·rw [if_neg c3];simp [c1]
  have hl':(Yr z rd fd l p).length=z:=by unfold Yr;rw [Xf,Xf,Mg,hl]
  rw [List.foldl_cons,Co hz hi ps _ hl' (fun q hq=>hp q (List.mem_cons_of_mem _ hq)) pw2 (fun h q hq=>?_),key]
  ·simp only [List.mem_cons,exists_eq_or_imp,or_assoc]
  ·rcases key.mp h with h | h
   ·exact hB h q (List.mem_cons_of_mem _ hq)
   ·exact (pw1 q hq).clear (by omega) (hp q (List.mem_cons_of_mem _ hq)).1 h
theorem pB {z:Nat} (hz:0 < z) {rd fd:Nat} {ps:List (Int × Int)} (hp:∀ p ∈ ps,1 ≤ p.2∧p.2 + fd + rd ≤ z) (pw:ps.Pairwise (rM z rd fd)) {i:Nat} (hi:i < z) :
  (ei z rd fd ps)[i]? = some (Str.ofString "free")↔∃ p ∈ ps,((i:Int) - p.1) % (z:Int) < p.2:=by
 have hn:¬ (List.replicate z (Str.ofString "stop"))[i]? = some (Str.ofString "free"):=by
  rw [List.getElem?_replicate,if_pos hi];decide +kernel
 unfold ei;rw [Co hz hi ps _ (List.length_replicate ..) hp pw (fun h=>absurd h hn)];exact ⟨fun h=>h.resolve_left hn,.inr⟩
noncomputable def PJ (z:Int) (ds:List WD) (s e:SD):Prop:=e.name=s.name→∀ d,wOf ds s.name=some d→s.n + Wd d + Ec d ≤ (e.b - s.b) % z∧e.n + Wd d + Ec d ≤ (s.b - e.b) % z
theorem PJ.symm {z:Int} {ds:List WD} {s e:SD} (h:PJ z ds s e):PJ z ds e s:=fun hn d hd=>by
 rw [← hn] at hd;exact (h hn.symm d hd).symm
theorem aC {z:Int} {ds:List WD} {sp:List SD} (al:∀ s ∈ sp,∃ d,wOf ds s.name=some d∧d.least ≤ s.n∧s.n + Wd d + Ec d ≤ z) (pw:sp.Pairwise (PJ z ds)):Ct ds z sp=none:=by
 unfold Ct;refine List.find?_eq_none.mpr fun e he=>?_
 obtain ⟨s,k⟩:=e;have hk:sp[k]? = some s:=by simpa using List.mem_zipIdx_iff_getElem?.mp he
 obtain ⟨d,hw,hle,hr⟩:=al s (List.mem_of_getElem? hk);intro c;unfold Ys at c;dsimp only at c;rw [hw] at c;have c:(decide (s.n < d.least) || decide (FA z sp k s < s.n + Wd d + Ec d))=true:=c;rw [decide_eq_false (show ¬ s.n < d.least by omega),Bool.false_or,decide_eq_true_eq] at c;unfold FA at c;cases hmin:((ofN s.name (sp.eraseIdx k)).map fun p=>(p.1 - s.b) % z).min? with
 | none=>
  rw [hmin] at c;have c:z < s.n + Wd d + Ec d:=c;omega
 | some v=>
  rw [hmin] at c;have c:v < s.n + Wd d + Ec d:=c;obtain ⟨p,hp,rfl⟩:=List.mem_map.mp (List.min?_mem hmin);obtain ⟨e,hem,en,rfl⟩:=zy hp;obtain ⟨j,hj,ej⟩:=List.mem_eraseIdx_iff_getElem?.mp hem;have hp:=List.pairwise_iff_getElem.mp pw;obtain ⟨kl,ke⟩:=List.getElem?_eq_some_iff.mp hk;obtain ⟨jl,je⟩:=List.getElem?_eq_some_iff.mp ej;have far:PJ z ds s e:=by
   by_cases c1:k < j
   ·have:=hp k j kl jl c1;rwa [ke,je] at this
   ·have:=hp j k jl kl (by omega);rw [ke,je] at this;exact this.symm
  have:=(far en d hw).1;dsimp only at c;omega
noncomputable def Nl (ps:List (Int × Int)) (z:Nat) (turn:Int):Bool:=ps.any fun p=>decide ((turn - p.1) % (z:Int) < p.2)
theorem UN {ds:List WD} {sp:List SD} (h:∀ d ∈ ds,∃ s ∈ sp,s.name=d.name):Ws ds sp=none:=by
 unfold Ws;refine List.find?_eq_none.mpr fun x hx=>?_
 obtain ⟨d,hd,rfl⟩:=List.mem_map.mp hx;obtain ⟨s,hs,e⟩:=h d hd;intro z;have:ofN d.name sp=[]:=by simpa using z
 have m:(s.b,s.n) ∈ ofN d.name sp:=List.mem_map.mpr ⟨s,List.mem_filter.mpr ⟨hs,by simpa using e⟩,rfl⟩;rw [this] at m;cases m
theorem QN {n:Int} {z:Nat} {ds:List WD} {sp:List SD} (h:∀ d ∈ ds,∀ e ∈ ds,d.name ≠ e.name→mt n d e=false):Xs n z sp ds=none:=by
 unfold Xs;refine List.findSome?_eq_none_iff.mpr fun d hd=>?_
 unfold eE;refine List.findSome?_eq_none_iff.mpr fun e he=>?_
 unfold Mt;rw [if_neg]
 ·rfl
 ·rintro ⟨hn,hm⟩;rw [h d hd e he hn] at hm;cases hm
noncomputable abbrev WE:=WD × List (Int × Int)
noncomputable def Jx (e:WE):List SD:=e.2.map fun p=>⟨e.1.name,p.1,p.2⟩
noncomputable def dsE (es:List WE):List WD:=es.map (·.1)
noncomputable def spE (es:List WE):List SD:=es.flatMap Jx
structure Ow (z:Nat) (d:WD) (ps:List (Int × Int)):Prop where
 ln:1 ≤ ps.length∧ps.length ≤ 2
 al:∀ p ∈ ps,0 ≤ p.1∧p.1 < z∧1 ≤ p.2∧p.2 + Wd d + Ec d ≤ z
 pw:ps.Pairwise fun p q=>p.2 + Wd d + Ec d ≤ (q.1 - p.1) % (z:Int)∧q.2 + Wd d + Ec d ≤ (p.1 - q.1) % (z:Int)
theorem Ow.one {z:Nat} {d:WD} {b n:Int} (hb:0 ≤ b∧b < z) (hn:1 ≤ n∧n + Wd d + Ec d ≤ z):Ow z d [(b,n)]:=
 ⟨⟨Nat.le_refl _,by show 1 ≤ 2;decide⟩,fun p hp=>by rw [List.mem_singleton.mp hp];exact ⟨hb.1,hb.2,hn.1,hn.2⟩,List.pairwise_singleton ..⟩
theorem eK {z b m:Int} (hb:0 ≤ b∧b < z) (hm:1 ≤ m∧m < z):(((b + z - m) % z - b) % z=z - m)∧((b - (b + z - m) % z) % z=m):=by
 have e:(b + z - m) % z=if m ≤ b then b - m else b + z - m:=by
  split
  ·rw [show b + z - m=(b - m) + z by omega,Int.add_emod_right,Int.emod_eq_of_lt (by omega) (by omega)]
  ·rw [Int.emod_eq_of_lt (by omega) (by omega)]
 rw [e];split
 ·refine ⟨?_,?_⟩
  ·rw [show b - m - b=(z - m) + z * (-1) by omega,Int.add_mul_emod_self_left,Int.emod_eq_of_lt (by omega) (by omega)]
  ·rw [show b - (b - m)=m by omega,Int.emod_eq_of_lt (by omega) (by omega)]
 ·refine ⟨?_,?_⟩
  ·rw [show b + z - m - b=z - m by omega,Int.emod_eq_of_lt (by omega) (by omega)]
  ·rw [show b - (b + z - m)=m + z * (-1) by omega,Int.add_mul_emod_self_left,Int.emod_eq_of_lt (by omega) (by omega)]
theorem Ow.two {z:Nat} {d:WD} {b n m:Int} (h0:Wd d=0∧Ec d=0) (hb:0 ≤ b∧b < z) (hn:1 ≤ n∧n < z) (hm:1 ≤ m∧m ≤ z - n):Ow z d [(b,n),((b + z - m) % (z:Int),m)]:=by
 have l:=eK hb (m:=m) (by omega);have l0:=Int.emod_nonneg (b + z - m) (show (z:Int) ≠ 0 by omega);have l1:=Int.emod_lt_of_pos (b + z - m) (show (0:Int) < z by omega);refine ⟨⟨by show 1 ≤ 2;decide,Nat.le_refl _⟩,fun p hp=>?_,?_⟩
 ·rw [h0.1,h0.2];simp only [List.mem_cons,List.not_mem_nil,or_false] at hp;rcases hp with rfl | rfl
  ·exact ⟨hb.1,hb.2,hn.1,by show n + 0 + 0 ≤ _;omega⟩
  ·exact ⟨l0,l1,hm.1,by show m + 0 + 0 ≤ _;omega⟩
 ·rw [h0.1,h0.2];refine List.pairwise_cons.mpr ⟨fun q hq=>?_,List.pairwise_singleton ..⟩;rw [List.mem_singleton.mp hq];dsimp only;rw [l.1,l.2];omega
noncomputable def wK (k i:Nat) (x:Str):WD:=⟨k,x,3 * (i:Int),3 * (i:Int) + 1,0,0,1⟩
structure E70 (z:Nat) (xs:List Str) (es:List WE):Prop where
 ln:es.length ≤ xs.length
 at_:∀ (i:Nat) (e:WE),es[i]? = some e→∃ k x,k < 3∧xs[i]? = some x∧e.1=wK k i x∧Ow z e.1 e.2
theorem E70.nil (z:Nat) (xs:List Str):E70 z xs []:=⟨Nat.zero_le _,fun i e h=>by simp at h⟩
theorem E70.snoc {z:Nat} {xs:List Str} {es:List WE} (h:E70 z xs es) {k:Nat} {x:Str} {ps:List (Int × Int)} (hk:k < 3) (hx:xs[es.length]? = some x) (o:Ow z (wK k es.length x) ps):E70 z xs (es ++ [(wK k es.length x,ps)]):=by
 refine ⟨by rw [List.length_append];exact (List.getElem?_eq_some_iff.mp hx).1,fun i e he=>?_⟩;rcases se he with ⟨_,he⟩ | ⟨rfl,rfl⟩
 ·exact h.at_ i e he
 ·exact ⟨k,x,hk,hx,rfl,o⟩
section
variable {z:Nat} {xs:List Str} {es:List WE}
theorem E70.nm (h:E70 z xs es) {i:Nat} {e:WE} (he:es[i]? = some e):xs[i]? = some e.1.name:=by
 obtain ⟨k,x,_,hx,e1,_⟩:=h.at_ i e he;rw [hx,e1];rfl
theorem E70.nd (h:E70 z xs es) (hx:xs.Nodup):((dsE es).map (·.name)).Nodup:=by
 refine List.pairwise_iff_getElem.mpr fun i j hi hj hij e=>?_
 have hi':i < es.length:=by simpa [dsE] using hi
 have hj':j < es.length:=by simpa [dsE] using hj
 have a:=h.nm (List.getElem?_eq_getElem hi');have b:=h.nm (List.getElem?_eq_getElem hj');have e:es[i].1.name=es[j].1.name:=by simpa [dsE] using e
 rw [e] at a;have:=(List.getElem?_inj (by have:=h.ln;omega) hx).mp (a.trans b.symm);omega
theorem DD {i:Nat} {d:WD} (hd:(dsE es)[i]? = some d):∃ e,es[i]? = some e∧d=e.1:=ic hd
theorem io:(dsE es).length=es.length:=by unfold dsE;simp
theorem E70.cok (h:E70 z xs es) (hx:Nms xs.length xs) (hl:1 ≤ es.length) (hl3:xs.length ≤ 3):COk 12 (dsE es):=by
 refine ⟨by decide,by rw [io];have:=h.ln;omega,fun d hd=>?_,h.nd hx.2.1⟩;obtain ⟨i,hi⟩:=List.getElem?_of_mem hd;obtain ⟨e,he,rfl⟩:=DD hi;obtain ⟨k,x,hk,hxi,e1,_⟩:=h.at_ i e he;have hi3:i < 3:=by have:=(List.getElem?_eq_some_iff.mp hxi).1;omega
 rw [e1];exact ⟨hk,hx.2.2 x (List.mem_of_getElem? hxi),by unfold wK;dsimp only;omega,by unfold wK;dsimp only;omega,by unfold wK;dsimp only;omega,by unfold wK;dsimp only;omega,by unfold wK;dsimp only;omega,by unfold wK;dsimp only;omega⟩
theorem E70.wof (h:E70 z xs es) (hx:xs.Nodup) {e:WE} (he:e ∈ es):wOf (dsE es) e.1.name=some e.1:=by
 obtain ⟨i,hi⟩:=List.getElem?_of_mem he;have hd:(dsE es)[i]? = some e.1:=by unfold dsE;rw [List.getElem?_map,hi];rfl
 unfold wOf;cases hf:(dsE es).find? fun x=>decide (x.name=e.1.name) with
 | none=>
  have:=List.find?_eq_none.mp hf e.1 (List.mem_of_getElem? hd);simp at this
 | some x=>
  have h1:x.name=e.1.name:=by simpa using List.find?_some hf
  obtain ⟨j,hj⟩:=List.getElem?_of_mem (List.mem_of_find?_eq_some hf);have:=sJ (h.nd hx) hj hd h1;subst this;rw [hj] at hd;exact hd
theorem Zn {s:SD} (h:s ∈ spE es):∃ e ∈ es,∃ p ∈ e.2,s=⟨e.1.name,p.1,p.2⟩:=by
 obtain ⟨e,he,hs⟩:=List.mem_flatMap.mp h;obtain ⟨p,hp,rfl⟩:=List.mem_map.mp hs;exact ⟨e,he,p,hp,rfl⟩
theorem gD (x:Str) (a b:List SD):ofN x (a ++ b)=ofN x a ++ ofN x b:=by unfold ofN;rw [List.filter_append,List.map_append]
theorem aF (e:WE):ofN e.1.name (Jx e)=e.2:=by
 unfold ofN Jx;rw [List.filter_eq_self.mpr (fun s hs=>by obtain ⟨p,_,rfl⟩:=List.mem_map.mp hs;exact decide_eq_true rfl),List.map_map];exact List.map_id' _
theorem lH {x:Str} {l:List SD} (h:∀ s ∈ l,s.name ≠ x):ofN x l=[]:=by
 unfold ofN;rw [List.filter_eq_nil_iff.mpr fun s hs=>by simpa using h s hs];rfl
theorem oy:∀ {es:List WE},((dsE es).map (·.name)).Nodup→∀ {e:WE},e ∈ es→ofN e.1.name (spE es)=e.2
 | [],_,_,h=>nomatch h
 | a :: r,nd,e,he=>by
  have nd':=List.nodup_cons.mp (show ((a.1.name) :: (dsE r).map (·.name)).Nodup from nd);show ofN e.1.name (Jx a ++ spE r)=_;rw [gD];rcases List.mem_cons.mp he with rfl | he
  ·rw [aF,lH (fun s hs=>?_),List.append_nil];obtain ⟨b,hb,p,_,rfl⟩:=Zn hs;intro z;exact nd'.1 (by rw [← z];exact List.mem_map.mpr ⟨b.1,List.mem_map.mpr ⟨b,hb,rfl⟩,rfl⟩)
  ·rw [oy nd'.2 he,lH (fun s hs=>?_),List.nil_append];obtain ⟨p,_,rfl⟩:=List.mem_map.mp hs;intro z;exact nd'.1 (by
    have z:a.1.name=e.1.name:=z;rw [z];exact List.mem_map.mpr ⟨e.1,List.mem_map.mpr ⟨e,he,rfl⟩,rfl⟩)
theorem xx:∀ {es:List WE},(∀ e ∈ es,e.2.length ≤ 2)→(spE es).length ≤ 2 * es.length
 | [],_=>Nat.le_refl _
 | a :: r,h=>by
  have h1:=h a (List.mem_cons_self ..);have h2:=xx fun e he=>h e (List.mem_cons_of_mem a he)
  show (Jx a ++ spE r).length ≤ _;rw [List.length_append,List.length_cons];unfold Jx;rw [List.length_map];omega
theorem E70.ow (h:E70 z xs es) {e:WE} (he:e ∈ es):e.1.k < 3∧e.1.off=0∧e.1.least=1∧Ow z e.1 e.2:=by
 obtain ⟨i,hi⟩:=List.getElem?_of_mem he;obtain ⟨k,x,hk,_,e1,o⟩:=h.at_ i e hi;exact ⟨by rw [e1];exact hk,by rw [e1];rfl,by rw [e1];rfl,o⟩
theorem E70.good (h:E70 z xs es) (hx:Nms xs.length xs) (hl3:xs.length ≤ 3):qx z (dsE es) (spE es):=by
 have nd:=h.nd hx.2.1;refine ⟨?_,fun s hs=>?_,fun i s hs=>?_,fun s hs=>?_⟩
 ·have:=xx (es:=es) fun e he=>(h.ow he).2.2.2.ln.2
  have:=h.ln;omega
 ·obtain ⟨e,he,p,hp,rfl⟩:=Zn hs;obtain ⟨i,hi⟩:=List.getElem?_of_mem he;exact hx.2.2 _ (List.mem_of_getElem? (h.nm hi))
 ·obtain ⟨e,he,p,hp,rfl⟩:=Zn (List.mem_of_getElem? hs);refine List.mem_filter.mpr ⟨List.mem_map.mpr ⟨e.1,List.mem_map.mpr ⟨e,he,rfl⟩,rfl⟩,decide_eq_true ?_⟩;have e2:=oy nd he;rw [← List.take_append_drop i (spE es),gD] at e2;have:=congrArg List.length e2;rw [List.length_append] at this;have:=(h.ow he).2.2.2.ln.2;show (ofN e.1.name ((spE es).take i)).length < 3;omega
 ·obtain ⟨e,he,p,hp,rfl⟩:=Zn hs;have:=(h.ow he).2.2.2.al p hp;have r0:=Vq e.1;have f0:=Xt (d:=e.1) (by have:=(h.ow he).2.1;omega);exact ⟨this.1,this.2.1,this.2.2.1,by show p.2 ≤ _;omega⟩
theorem E70.never (h:E70 z xs es):Ws (dsE es) (spE es)=none:=UN fun d hd=>by
 obtain ⟨e,he,rfl⟩:=List.mem_map.mp hd;obtain ⟨p,hp⟩:=List.exists_mem_of_length_pos (show 0 < e.2.length by have:=(h.ow he).2.2.2.ln;omega);exact ⟨⟨e.1.name,p.1,p.2⟩,List.mem_flatMap.mpr ⟨e,he,List.mem_map.mpr ⟨p,hp,rfl⟩⟩,rfl⟩
theorem E70.short (h:E70 z xs es) (hx:xs.Nodup):Ct (dsE es) z (spE es)=none:=by
 refine aC (fun s hs=>?_) ?_
 ·obtain ⟨e,he,p,hp,rfl⟩:=Zn hs;have o:=(h.ow he);have:=o.2.2.2.al p hp;exact ⟨e.1,h.wof hx he,by dsimp only;omega,by dsimp only;omega⟩
 ·have key:∀ {l:List WE},((dsE l).map (·.name)).Nodup→(∀ e ∈ l,wOf (dsE es) e.1.name=some e.1∧Ow z e.1 e.2)→(spE l).Pairwise (PJ z (dsE es)):=by
   intro l
   induction l with
   | nil=>intro _ _;exact List.Pairwise.nil
   | cons a r ih=>
    intro nd al;have nd':=List.nodup_cons.mp (show ((a.1.name) :: (dsE r).map (·.name)).Nodup from nd);refine List.pairwise_append.mpr ⟨?_,ih nd'.2 fun e he=>al e (List.mem_cons_of_mem _ he),fun s hs s' hs'=>?_⟩
    ·refine List.pairwise_map.mpr ((al a (List.mem_cons_self ..)).2.pw.imp fun {p q} hpq=>?_);intro _ d' hd';have hd':wOf (dsE es) a.1.name=some d':=hd';rw [(al a (List.mem_cons_self ..)).1] at hd';cases hd';exact hpq
    ·obtain ⟨p,_,rfl⟩:=List.mem_map.mp hs;obtain ⟨b,hb,p',_,rfl⟩:=Zn hs';intro hn;have hn:b.1.name=a.1.name:=hn;exact absurd (by rw [← hn];exact List.mem_map.mpr ⟨b.1,List.mem_map.mpr ⟨b,hb,rfl⟩,rfl⟩) nd'.1
  exact key (h.nd hx) fun e he=>⟨h.wof hx he,(h.ow he).2.2.2⟩
theorem VN:∀ i:Nat,i < 3→∀ j:Nat,j < 3→i ≠ j→QL 12 (3 * (i:Int)) (3 * (i:Int) + 1) (3 * (j:Int)) (3 * (j:Int) + 1)=false:=by decide
theorem E70.clash (h:E70 z xs es) (hl3:xs.length ≤ 3):Xs 12 z (spE es) (dsE es)=none:=QN fun d hd e he hn=>by
 obtain ⟨i,hi⟩:=List.getElem?_of_mem hd;obtain ⟨j,hj⟩:=List.getElem?_of_mem he;obtain ⟨a,ha,rfl⟩:=DD hi;obtain ⟨b,hb,rfl⟩:=DD hj;obtain ⟨k,x,hk,hxi,e1,_⟩:=h.at_ i a ha;obtain ⟨k',x',hk',hxj,e2,_⟩:=h.at_ j b hb;have hi3:i < 3:=by have:=(List.getElem?_eq_some_iff.mp hxi).1;omega
 have hj3:j < 3:=by have:=(List.getElem?_eq_some_iff.mp hxj).1;omega
 have hij:i ≠ j:=fun z=>hn (by subst z;rw [ha] at hb;cases hb;rfl)
 rw [e1,e2];exact VN i hi3 j hj3 hij
theorem E70.free (h:E70 z xs es) (hx:xs.Nodup) (hz:0 < z) {e:WE} (he:e ∈ es) (turn:Int):Pf z (spE es) e.1 turn=Nl e.2 z turn:=by
 have m0:=Int.emod_nonneg turn (show (z:Int) ≠ 0 by omega);have m1:=Int.emod_lt_of_pos turn (show (0:Int) < z by omega);have o:=(h.ow he);have r0:=Vq e.1;have f0:=Xt (d:=e.1) (by have:=o.2.1;omega);have key:=pB (z:=z) (by omega) (rd:=(Ec e.1).toNat) (fd:=(Wd e.1).toNat) (ps:=e.2) (fun p hp=>by have:=o.2.2.2.al p hp;omega) (o.2.2.2.pw.imp fun {p q} h=>⟨by omega,by omega⟩) (i:=(turn % (z:Int)).toNat) (by omega);have hlen:(Yl z (spE es) e.1).length=z:=zh _ _ _ _;have hj:(turn % (z:Int)).toNat < (Yl z (spE es) e.1).length:=by rw [hlen];omega
 have hl:Yl z (spE es) e.1=ei z (Ec e.1).toNat (Wd e.1).toNat e.2:=by unfold Yl;rw [oy (h.nd hx) he]
 unfold Pf Fo Nl;rw [Bool.eq_iff_iff,decide_eq_true_eq,List.any_eq_true,List.getElem?_eq_getElem hj];show (_:Str)=_↔_;have h2:(Yl z (spE es) e.1)[(turn % (z:Int)).toNat]=Str.ofString "free" ↔ (ei z (Ec e.1).toNat (Wd e.1).toNat e.2)[(turn % (z:Int)).toNat]? = some (Str.ofString "free"):=by
  rw [← hl,List.getElem?_eq_getElem hj];simp
 rw [show (some (Yl z (spE es) e.1)[(turn % (z:Int)).toNat]).getD (Str.ofString "")=(Yl z (spE es) e.1)[(turn % (z:Int)).toNat] from rfl,h2,key];refine ⟨fun ⟨p,hp,h⟩=>⟨p,hp,decide_eq_true ?_⟩,fun ⟨p,hp,h⟩=>⟨p,hp,?_⟩⟩
 ·rw [Int.toNat_of_nonneg m0,Int.emod_sub_emod] at h;exact h
 ·rw [Int.toNat_of_nonneg m0,Int.emod_sub_emod];exact of_decide_eq_true h
end
theorem Tv {z:Nat} {R:Int→Bool} (hR:∀ x,R (x + z)=R x):∀ B:Nat,((ts0 z).filter fun t=>R (t + (B:Int))).length=((ts0 z).filter R).length:=by
 have e0:∀ f:Int→Bool,((ts0 z).filter f).length=((List.range z).filter fun k:Nat=>f (k:Int)).length:=fun f=>by
  unfold ts0;rw [List.filter_map,List.length_map];rfl
 have one:∀ f:Int→Bool,(∀ x,f (x + z)=f x)→((List.range z).filter fun k:Nat=>f ((k:Int) + 1)).length=((List.range z).filter fun k:Nat=>f (k:Int)).length:=fun f hf=>by
  have a:((List.range (z + 1)).filter fun k:Nat=>f (k:Int)).length=((List.range z).filter fun k:Nat=>f (k:Int)).length + (if f 0=true then 1 else 0):=by
   rw [List.range_succ,List.filter_append,List.length_append];have:f (z:Int)=f 0:=by have:=hf 0;rwa [Int.zero_add] at this
   cases h:f 0 <;> simp [this,h]
  have b:((List.range (z + 1)).filter fun k:Nat=>f (k:Int)).length=(if f 0=true then 1 else 0) + ((List.range z).filter fun k:Nat=>f ((k:Int) + 1)).length:=by
   rw [List.range_succ_eq_map,List.filter_cons,List.filter_map];have c:((fun k:Nat=>f (k:Int)) ∘ Nat.succ)=fun k:Nat=>f ((k:Int) + 1):=by
    funext k;show f ((Nat.succ k:Nat):Int)=_;rw [Int.natCast_succ]
   rw [c];cases h:f 0
   ·simp [h]
   ·simp [h];omega
  omega
 intro B
 induction B with
 | zero=>simp
 | succ n ih=>
  rw [← ih,e0,e0];have:=one (fun x=>R (x + (n:Int))) (fun x=>by
   show R (x + z + n)=R (x + n);rw [show x + z + (n:Int)=(x + n) + z by omega,hR])
  rw [← this];congr 1;refine List.filter_congr fun k _=>?_
  rw [show ((k:Int) + ((n + 1:Nat):Int))=(k:Int) + 1 + (n:Int) by omega]
theorem QC (ps:List (Int × Int)) (z:Nat) (x:Int):Nl ps z (x + z)=Nl ps z x:=by
 unfold Nl;congr 1;funext p;rw [show x + (z:Int) - p.1=(x - p.1) + z by omega,Int.add_emod_right]
theorem NG:∀ {l:List Int},(∀ x ∈ l,0 ≤ x)→0 ≤ l.sum
 | [],_=>Int.le_refl _
 | a :: r,h=>by
  rw [List.sum_cons];have:=h a (List.mem_cons_self ..);have:=NG fun x hx=>h x (List.mem_cons_of_mem a hx)
  omega
theorem YC (l:List Int) (k:Nat):(l.take k).sum + (l.drop k).sum=l.sum:=by
 rw [← List.sum_append,List.take_append_drop]
end My
namespace My
open PySem L2
end My
namespace L2
open PySem PySem.Spec PyProof.Rows
theorem Sz {X:Cx} (hc:X.calm=true):bj X (.builtin "sum") (fun xs H Q=>∃ l ks,xs=[.ref l]∧SqL X.K H l (List.map V.int ks)∧(∀ k ∈ ks,0 ≤ k∧k ≤ 1000000000)∧ks.length ≤ 1000∧Q (.int ks.sum) H):=by
 intro pins s σ H xs us Q I r h;obtain ⟨l,ks,rfl,hq,hk,hl,q⟩:=h;obtain ⟨u,rfl,ru⟩:=Xn r;cases ru;obtain ⟨its,rv,pl,hz⟩:=I.list hq;obtain ⟨xs,e1,e2⟩:=KA rv;have hil:its.toArray=intItems xs.toArray:=by rw [e1];unfold intItems;simp
 have hls:s.heap.IsList l (intItems xs.toArray):=by rw [← hil];exact pl.isList
 have hxl:xs.length=ks.length:=by rw [← e2,List.length_map]
 have hn:∀ i,i < ks.length→ks[i]? = some (numAt xs.toArray i):=fun i hi=>by
  rw [numAt_eq,List.getD_eq_getElem?_getD];show ks[i]? = some (((xs.map (·.1))[i]?).getD 0);rw [e2,List.getElem?_eq_getElem hi];rfl
 have hps:∀ n,n ≤ ks.length→preSum (numAt xs.toArray) n=(ks.take n).sum∧0 ≤ (ks.take n).sum∧(ks.take n).sum ≤ 1000000000 * (n:Int):=fun n=>by
  induction n with
  | zero=>intro _;exact ⟨by simp [preSum],by simp,by simp⟩
  | succ n ih=>
   intro hn';obtain ⟨i1,i2,i3⟩:=ih (by omega);have e:=hn n (by omega);have hv:=hk _ (List.mem_of_getElem? e);have es:(ks.take (n + 1)).sum=(ks.take n).sum + numAt xs.toArray n:=by
    rw [List.take_add_one,e,List.sum_append];simp
   refine ⟨?_,by omega,by omega⟩;show preSum (numAt xs.toArray) n + numAt xs.toArray n=_;rw [i1,es]
 have hsz:xs.toArray.size=ks.length:=by rw [List.size_toArray,hxl]
 refine sum_intList (I.ok.hd hc) hls (fun j hj=>?_) fun h' tk t' k=>⟨.int ks.sum,H,I.kept k,⟨t',?_⟩,q⟩
 ·rw [hsz] at hj;have e:=hn j hj;have hv:=hk _ (List.mem_of_getElem? e);obtain ⟨p1,p2,p3⟩:=hps (j + 1) (by omega);unfold InLong;rw [p1];omega
 ·rw [hsz,(hps _ (Nat.le_refl _)).1,List.take_length]
end L2
namespace My
open PySem L2
end My
namespace My
open PySem L2
theorem yK {xs:List V} {k:Nat} (h:k ≤ xs.length):zo xs none (some ((k:Nat):Int))=xs.take k:=by
 unfold zo;rw [HT.sIx_none,HT.sIx_nat,Nat.min_eq_left h,List.drop_zero,Nat.sub_zero]
theorem gz {xs:List V} {k:Nat} (h:k ≤ xs.length):zo xs (some ((k:Nat):Int)) none=xs.drop k:=by
 unfold zo;rw [HT.sIx_none,HT.sIx_nat,Nat.min_eq_left h];exact List.take_of_length_le (by rw [List.length_drop];exact Nat.le_refl _)
noncomputable abbrev PSS:=List (List (Int × Int) × List (Int × Int))
noncomputable def ZC (H:Hp) (p:Addr) (pss:PSS):Prop:=∃ qs:List Addr,H p=some (.lst (qs.map V.ref))∧qs.length=pss.length∧∀ (i:Nat) (q:Addr) (s:List (Int × Int) × List (Int × Int)),qs[i]? = some q→pss[i]? = some s→∃ a b,H q=some (.tup [.ref a,.ref b])∧LO H a (s.1.map prO)∧LO H b (s.2.map prO)
theorem ZC.same {H H':Hp} {p:Addr} {pss:PSS} (h:ZC H p pss) (s:Jb H H'):ZC H' p pss:=by
 obtain ⟨qs,e1,e2,e3⟩:=h;refine ⟨qs,s _ _ e1,e2,fun i q x h1 h2=>?_⟩;obtain ⟨a,b,f1,f2,f3⟩:=e3 i q x h1 h2;exact ⟨a,b,s _ _ f1,f2.same s,f3.same s⟩
noncomputable def frP (z:Nat) (pss:PSS) (f:(List (Int × Int) × List (Int × Int))→List (Int × Int)) (k:Nat) (x:Int):Bool:=(pss[k]?).any fun s=>Nl (f s) z x
noncomputable def qy (bs sh:List Int) (k:Nat):Int:=(bs.drop k).sum - sh.getD k 0
noncomputable def lgF (z:Nat) (pss:PSS) (fs sh:List Int) (i:Nat):List Int:=(ts0 i).filter (gA (frP z pss Prod.fst) (Hw fs sh) pss.length)
noncomputable def lgB (z:Nat) (pss:PSS) (bs sh:List Int) (i:Nat):List Int:=(ts0 i).filter (gA (frP z pss Prod.snd) (qy bs sh) pss.length)
theorem ME (i:Nat):ts0 (i + 1)=ts0 i ++ [(i:Int)]:=by unfold ts0;rw [List.range_succ,List.map_append];rfl
theorem Iz (f:Int→Bool) (i:Nat):(((ts0 (i + 1)).filter f).length:Int)=((ts0 i).filter f).length + (if f (i:Int)=true then 1 else 0):=by
 rw [ME,List.filter_append,List.length_append];cases h:f (i:Int) <;> simp [h]
noncomputable def Gy:Sp:=fun vs H Q _=>∃ (p:Addr) (ps:List (Int × Int)) (z:Nat) (turn:Int),vs=[.ref p,.int z,.int turn]∧LO H p (ps.map prO)∧0 < z∧Q (.bl (Nl ps z turn)) H
structure GIn (H:Hp) (sp fp bp hp:Addr) (z:Nat) (pss:PSS) (fs bs sh:List Int):Prop where
 s:ZC H sp pss
 f:H fp=some (.lst (yc fs))
 b:H bp=some (.lst (yc bs))
 h:H hp=some (.lst (yc sh))
 fl:fs.length + 1=pss.length
 bl:bs.length + 1=pss.length
 hl:sh.length=pss.length
 ln:pss.length ≤ 10
 z0:0 < z∧z ≤ 1000
 fi:∀ x ∈ fs,0 ≤ x∧x ≤ 1000000000
 bi:∀ x ∈ bs,0 ≤ x∧x ≤ 1000000000
theorem GIn.same {H H':Hp} {sp fp bp hp:Addr} {z:Nat} {pss:PSS} {fs bs sh:List Int} (h:GIn H sp fp bp hp z pss fs bs sh) (s:Jb H H'):GIn H' sp fp bp hp z pss fs bs sh:=⟨h.s.same s,s _ _ h.f,s _ _ h.b,s _ _ h.h,h.fl,h.bl,h.hl,h.ln,h.z0,h.fi,h.bi⟩
noncomputable def Kw:Sp:=fun vs H Q _=>∃ sp fp bp hp z pss fs bs sh,vs=[.int (z:Nat),.ref sp,.ref fp,.ref bp,.ref hp]∧GIn H sp fp bp hp z pss fs bs sh∧NoT H∧∀ p H',Jb H H'→NoT H'→H' p=some (.tup [.int ((lgF z pss fs sh z).length:Nat),.int ((lgB z pss bs sh z).length:Nat)])→Q (.ref p) H'
section
variable {P:Program} {w:World} {K:PySem.W.Frag} {mg:Str→Option Value} {base:Heap} {t:Adr}
theorem GF (T:Txt w K mg t):Pb P w K mg base CX0 1 t.Cg t.Bg q48 Gy:=by
 refine T.lg.ok Ej (fun vs H Q E h=>?_) (fun _ _ _ s H vs Q E hr h=>?_)
 ·obtain ⟨p,ps,z,turn,rfl,_⟩:=h;rfl
 obtain ⟨p,ps,z,turn,rfl,⟨qs,l1,lq⟩,hz,q⟩:=h;have hql:qs.length=ps.length:=by rw [lq.1,List.length_map]
 refine ⟨_,(db (Bd PassesOwn.never rfl (zd (pv 0)) (yb (i:=3) Ej.nd rfl (Or.inl rfl)) (qb (Be (Rb Xo (Fb Uf (Fb De (pv 2) (kc gd (pv 3) pb (fun _ _=>rfl))) (pv 1)) (kc gd (pv 3) pb (fun _ _=>rfl)) (Xb _)) (qb (Gb En)) vc)))
   (qb (Gb En))),?_⟩
 walk_at "RD";refine ⟨⟨_,SqL.of l1⟩,?_⟩;refine Eh.list (xs:=qs.map V.ref) (fun i σ H'=>H'=H∧Nl ps z turn=(ps.drop i).any (fun p=>decide ((turn - p.1) % (z:Int) < p.2))∧∃ x3,σ=[some (.ref p),some (.int z),some (.int turn),x3]) ⟨rfl,rfl,_,rfl⟩ ?_ ?_ ?_
 ·rintro i σ H' hi ⟨rfl,_⟩;exact SqL.of l1
 ·rintro i v σ H' hv zzq;refine zP fun zzM zzh=>?_
  obtain ⟨rfl,hf,x3,rfl⟩:=zzq;obtain ⟨qi,hqi,rfl⟩:=ic hv;obtain ⟨o,ho,e⟩:=lq.at hqi;obtain ⟨pr,hpr,rfl⟩:=ic ho;obtain ⟨hi,hxi⟩:=List.getElem?_eq_some_iff.mp hpr;subst zzh;rw [List.drop_eq_getElem_cons hi,hxi,List.any_cons] at hf;simp only [Rf,List.set_cons_succ,List.set_cons_zero];refine Dc (decide ((turn - pr.1) % (z:Int) < pr.2)) (fun Q hQ=>?_) (fun c=>?_) (fun c=>?_)
  ·walk_at "RD";exact ⟨_,SqT.of e,_,rfl,_,rfl,by omega,_,SqT.of e,_,rfl,_,rfl,hQ⟩
  ·rw [c,Bool.true_or] at hf;rw [hf] at q;walk_at "RD";exact q
  ·rw [c,Bool.false_or] at hf;walk_at "RD";exact ⟨hf,_,rfl⟩
 ·rintro σ H' zzq;refine zP fun zzM zzh=>?_
  obtain ⟨rfl,hf,x3,rfl⟩:=zzq;subst zzh;rw [List.drop_of_length_le (by rw [List.length_map,hql];exact Nat.le_refl _)] at hf;have hf:Nl ps z turn=false:=hf;rw [hf] at q;walk_at "RD";exact q
theorem MD (T:Txt w K mg t):Pb P w K mg base CX0 2 t.Ih t.Rh q49 Kw:=by
 have g27:Pb P w K mg base CX0 1 t.Cg t.Bg q48 Gy:=GF T;refine T.Qg.ok Me (fun vs H Q E h=>?_) (fun _ _ _ s H vs Q E hr h=>?_)
 ·obtain ⟨sp,fp,bp,hp,z,pss,fs,bs,sh,rfl,_⟩:=h;rfl
 obtain ⟨sp,fp,bp,hp,z,pss,fs,bs,sh,rfl,I,nt,q⟩:=h;have hfl:=I.fl;have hbl:=I.bl;have hhl:=I.hl;have hln:=I.ln;have hz:=I.z0;obtain ⟨n,hn⟩:∃ n,pss.length=n + 1:=⟨pss.length - 1,by omega⟩;refine ⟨_,(db (Cb (i:=5) Me.nd rfl (Or.inl rfl) (Td (ab pb (ab pb fb))))
   (db (Cb (i:=6) Me.nd rfl (Or.inl rfl) (Fb De (Ib Eb rfl T.Yf Ob (ab (pv 1) fb)) pb))
   (db (Bd PassesOwn.never rfl (uc rfl T.Zc (ab (pv 0) fb)) (yb (i:=7) Me.nd rfl (Or.inr rfl)) (db (Cb (i:=8) Me.nd rfl (Or.inr rfl) (ve rfl (uc rfl T.Zc (ab (Fb fc (pv 6) pb) fb)) (jc (sc:=rb zf) rfl (by decide +kernel)) (N:=["_law_k","_law_turn","_law_forths","_law_shifts"]) (sel:=[none,some 7,some 2,some 4]) (Gc (M:=q32) (by decide +kernel)) (Blk.of (fun _ _ _ _=>(yb (i:=0) (Xe (N:=["_law_k","_law_turn","_law_forths","_law_shifts"]) (by decide +kernel) rfl) rfl (Or.inl rfl))) (fun _ _ _ _=>⟨_,Qd,by walk_at "B"⟩) (fun _ _ _ _=>⟨_,(Fb De (Fb fc (pv 1) (Ib (Sz rfl) rfl T.xK zt (ab (Qe Tn (pv 2) Ug (Tf (pv 0))) fb))) (kc Zb (pv 3) (pv 0) (fun _ _=>rfl))),by walk_at "B"⟩))))
   (db (Cb (i:=9) Me.nd rfl (Or.inr rfl) (ve rfl (uc rfl T.Zc (ab (Fb fc (pv 6) pb) fb)) (jc (sc:=rb zf) rfl (by decide +kernel)) (N:=["_law_k","_law_turn","_law_backs","_law_shifts"]) (sel:=[none,some 7,some 3,some 4]) (Gc (M:=q32) (by decide +kernel)) (Blk.of (fun _ _ _ _=>(yb (i:=0) (Xe (N:=["_law_k","_law_turn","_law_backs","_law_shifts"]) (by decide +kernel) rfl) rfl (Or.inl rfl))) (fun _ _ _ _=>⟨_,Qd,by walk_at "B"⟩) (fun _ _ _ _=>⟨_,(Fb De (Fb fc (pv 1) (Ib (Sz rfl) rfl T.xK zt (ab (Qe Tn (pv 2) (Tf (pv 0)) Ug) fb))) (kc Zb (pv 3) (pv 0) (fun _ _=>rfl))),by walk_at "B"⟩))))
   (db (Vj (Fb fc (kc Zb (pv 5) pb (fun _ _=>rfl)) (Vc yw rfl T.WF wk (ab (Ib (Eu rfl) rfl T.RH Bn (ab (ve rfl (uc rfl T.Zc (ab (Fb fc (pv 6) pb) fb)) (jc (sc:=rb zf) rfl (by decide +kernel)) (N:=["_law_k","_law_spans","_law_size","_law_ahead"]) (sel:=[none,some 1,some 0,some 8]) (Gc (M:=q32) (by decide +kernel)) (Blk.of (fun _ _ _ _=>(yb (i:=0) (Xe (N:=["_law_k","_law_spans","_law_size","_law_ahead"]) (by decide +kernel) rfl) rfl (Or.inl rfl))) (fun _ _ _ _=>⟨_,Qd,by walk_at "B"⟩) (fun _ _ _ _=>⟨_,(xb g27 hr rfl T.dl T.lg.kp T.il .nil Db (ab (kc gd (kc Zb (pv 1) (pv 0) (fun _ _=>rfl)) pb (fun _ _=>rfl)) (ab (pv 2) (ab (kc Zb (pv 3) (pv 0) (fun _ _=>rfl)) fb)))),by walk_at "B"⟩))) fb)) fb))) (Pq (pv 5) pb Wi))
   (qb (Vj (Fb fc (kc Zb (pv 5) pb (fun _ _=>rfl)) (Vc yw rfl T.WF wk (ab (Ib (Eu rfl) rfl T.RH Bn (ab (ve rfl (uc rfl T.Zc (ab (Fb fc (pv 6) pb) fb)) (jc (sc:=rb zf) rfl (by decide +kernel)) (N:=["_law_k","_law_spans","_law_size","_law_behind"]) (sel:=[none,some 1,some 0,some 9]) (Gc (M:=q32) (by decide +kernel)) (Blk.of (fun _ _ _ _=>(yb (i:=0) (Xe (N:=["_law_k","_law_spans","_law_size","_law_behind"]) (by decide +kernel) rfl) rfl (Or.inl rfl))) (fun _ _ _ _=>⟨_,Qd,by walk_at "B"⟩) (fun _ _ _ _=>⟨_,(xb g27 hr rfl T.dl T.lg.kp T.il .nil Db (ab (kc gd (kc Zb (pv 1) (pv 0) (fun _ _=>rfl)) pb (fun _ _=>rfl)) (ab (pv 2) (ab (kc Zb (pv 3) (pv 0) (fun _ _=>rfl)) fb)))),by walk_at "B"⟩))) fb)) fb))) (Pq (pv 5) pb Wi)))))))
   (qb (Gb (Yg (ab (kc Zb (pv 5) pb (fun _ _=>rfl)) (ab (kc Zb (pv 5) pb (fun _ _=>rfl)) fb)))))))),?_⟩
 refine zS (fun σ' H'=>Jb H H'∧NoT H'∧∃ b,H b=none∧H' b=some (.lst [.int 0,.int 0])∧σ'=[some (.int z),some (.ref sp),some (.ref fp),some (.ref bp),some (.ref hp),some (.ref b),none,none,none,none]) (fun D' hD=>?_) fun zzM zzh=>?_
 ·walk_at "RD";exact ⟨by decide,fun b hb=>hD _ _ ⟨lb hb,nt.upd,b,hb,cb,rfl⟩⟩
 rintro σ1 H1 ⟨s1,n1,b,hb,w1,rfl⟩;subst zzh;refine zS (fun σ' H'=>H'=H1∧σ'=[some (.int z),some (.ref sp),some (.ref fp),some (.ref bp),some (.ref hp),some (.ref b),some (.int (n:Nat)),none,none,none]) (fun D' hD=>?_) fun zzM zzh=>?_
 ·obtain ⟨qs,e1,e2,_⟩:=(I.same s1).s;walk_at "RD";refine ⟨_,.inl (SqL.of e1),hD _ _ ⟨rfl,?_⟩⟩;rw [List.length_map,e2,hn,show ((n + 1:Nat):Int) - 1=(n:Int) by omega]
 rintro σ2 H2 ⟨rfl,rfl⟩;subst zzh;walk_at "RD";refine ⟨by omega,by omega,?_⟩;refine Eh.range (fun i σ H'=>Jb H H'∧NoT H'∧H' b=some (.lst [.int ((lgF z pss fs sh i).length:Nat),.int ((lgB z pss bs sh i).length:Nat)])∧∃ x7 x8 x9,σ=[some (.int z),some (.ref sp),some (.ref fp),some (.ref bp),some (.ref hp),some (.ref b),some (.int (n:Nat)),x7,x8,x9]) ⟨s1,n1,w1,_,_,_,rfl⟩ ?_ ?_
 ·rintro i σ H' hi zzq;refine zP fun zzM zzh=>?_
  obtain ⟨sm,nt',hb',x7,x8,x9,rfl⟩:=zzq;have hat:∀ k,k < n + 1→sh[k]? = some (sh.getD k 0):=fun k hk=>by rw [List.getD_eq_getElem?_getD,List.getElem?_eq_getElem (by omega)];rfl
  subst zzh;simp only [Rf,zb,List.set_cons_succ,List.set_cons_zero,Int.zero_add];refine zzC (fun σ' H2=>Jb H' H2∧NoT H2∧∃ a,H2 a=some (.lst ((List.range (n + 1)).map fun (k:Nat)=>V.int ((i:Int) + Hw fs sh k)))∧σ'=[some (.int z),some (.ref sp),some (.ref fp),some (.ref bp),some (.ref hp),some (.ref b),some (.int (n:Nat)),some (.int (i:Nat)),some (.ref a),x9]) (fun D' hD=>?_) fun zzM zzh=>?_
  ·have I':=I.same sm;walk_at "RD";refine ⟨by omega,by omega,?_⟩;refine ed.range (n:=n + 1) (fun k ys H2=>Jb H' H2∧NoT H2∧ys=(List.range k).map fun (k:Nat)=>V.int ((i:Int) + Hw fs sh k)) (Nat.le_trans (show n + 1 ≤ 10 by omega) (by decide)) ⟨Jb.refl _,nt',rfl⟩ ?_ ?_ ?_
   ·rintro k ys H2 hk ⟨_,_,rfl⟩;rw [List.length_map,List.length_range];exact Nat.le_refl _
   ·rintro k ys H2 hk ⟨s2,n2,rfl⟩ N hN;have I2:=I'.same s2;walk_at "RD";refine ⟨Sub.name,_,SqL.of I2.f,fun p3 hp3=>?_⟩;have s3:=lb (o:=.lst (zo (yc fs) none (some (k:Int)))) hp3;have ec:zo (yc fs) none (some (k:Int))=List.map V.int (fs.take k):=by
     rw [yK (by rw [ie];omega)];unfold yc;rw [List.map_take]
    refine ⟨fs.take k,by rw [← ec];exact SqL.of cb,fun x hx=>I.fi x (List.mem_of_mem_take hx),by rw [List.length_take];omega,_,SqL.of (s3 _ _ I2.h),_,Ac (Jm (hat k hk)),_,rfl,?_⟩;refine hN _ _ ⟨s2.trans s3,n2.upd,?_⟩;rw [List.range_succ,List.map_append];show _ ++ [V.int ((i:Int) + (fs.take k).sum - sh.getD k 0)]=_ ++ [V.int ((i:Int) + Hw fs sh k)];unfold Hw;rw [Int.add_sub_assoc]
   ·rintro ys H2 ⟨s2,n2,rfl⟩ p3 hp3;exact hD _ _ ⟨s2.trans (lb hp3),n2.upd,p3,cb,rfl⟩
  rintro σ3 H3 ⟨s3,n3,a,ha,rfl⟩;subst zzh;simp only [zb];refine zzC (fun σ' H2=>Jb H3 H2∧NoT H2∧∃ c,c ≠ b∧H2 c=some (.lst ((List.range (n + 1)).map fun (k:Nat)=>V.int ((i:Int) + qy bs sh k)))∧σ'=[some (.int z),some (.ref sp),some (.ref fp),some (.ref bp),some (.ref hp),some (.ref b),some (.int (n:Nat)),some (.int (i:Nat)),some (.ref a),some (.ref c)]) (fun D' hD=>?_) fun zzM zzh=>?_
  ·have I':=(I.same sm).same s3;walk_at "RD";refine ⟨by omega,by omega,?_⟩;refine ed.range (n:=n + 1) (fun k ys H2=>Jb H3 H2∧NoT H2∧ys=(List.range k).map fun (k:Nat)=>V.int ((i:Int) + qy bs sh k)) (Nat.le_trans (show n + 1 ≤ 10 by omega) (by decide)) ⟨Jb.refl _,n3,rfl⟩ ?_ ?_ ?_
   ·rintro k ys H2 hk ⟨_,_,rfl⟩;rw [List.length_map,List.length_range];exact Nat.le_refl _
   ·rintro k ys H2 hk ⟨s2,n2,rfl⟩ N hN;have I2:=I'.same s2;walk_at "RD";refine ⟨Sub.name,_,SqL.of I2.b,fun p3 hp3=>?_⟩;have s3:=lb (o:=.lst (zo (yc bs) (some (k:Int)) none)) hp3;have ec:zo (yc bs) (some (k:Int)) none=List.map V.int (bs.drop k):=by
     rw [gz (by rw [ie];omega)];unfold yc;rw [List.map_drop]
    refine ⟨bs.drop k,by rw [← ec];exact SqL.of cb,fun x hx=>I.bi x (List.mem_of_mem_drop hx),by rw [List.length_drop];omega,_,SqL.of (s3 _ _ I2.h),_,Ac (Jm (hat k hk)),_,rfl,?_⟩;refine hN _ _ ⟨s2.trans s3,n2.upd,?_⟩;rw [List.range_succ,List.map_append];show _ ++ [V.int ((i:Int) + (bs.drop k).sum - sh.getD k 0)]=_ ++ [V.int ((i:Int) + qy bs sh k)];unfold qy;rw [Int.add_sub_assoc]
   ·rintro ys H2 ⟨s2,n2,rfl⟩ p3 hp3;exact hD _ _ ⟨s2.trans (lb hp3),n2.upd,p3,(wb (s2 _ _ (s3 _ _ hb')) hp3).symm,cb,rfl⟩
  rintro σ4 H4 ⟨s4,n4,c,hcb,hc,rfl⟩;have I4:=((I.same sm).same s3).same s4;have hb4:=s4 _ _ (s3 _ _ hb');have ha4:=s4 _ _ ha;subst zzh;simp only [zb];refine zzC (fun σ' H2=>Jb H H2∧NoT H2∧H2 c=some (.lst ((List.range (n + 1)).map fun (k:Nat)=>V.int ((i:Int) + qy bs sh k)))∧H2 b=some (.lst [.int ((lgF z pss fs sh (i + 1)).length:Nat),.int ((lgB z pss bs sh i).length:Nat)])∧σ'=[some (.int z),some (.ref sp),some (.ref fp),some (.ref bp),some (.ref hp),some (.ref b),some (.int (n:Nat)),some (.int (i:Nat)),some (.ref a),some (.ref c)]) (fun D' hD=>?_) fun zzM zzh=>?_
  ·walk_at "RD";obtain ⟨qs,e1,e2,e3⟩:=I4.s;refine ⟨_,SqL.of hb4,_,rfl,by omega,by omega,?_⟩;refine ed.range_map (n:=n + 1) (fun k=>V.bl (frP z pss Prod.fst k ((i:Int) + Hw fs sh k))) (Nat.le_trans (show n + 1 ≤ 10 by omega) (by decide)) (fun k N hk hN=>?_) (fun p3 hp3=>?_)
   ·have hps:pss[k]? = some (pss[k]'(by omega)):=List.getElem?_eq_getElem _;have hqk:qs[k]? = some (qs[k]'(by omega)):=List.getElem?_eq_getElem _;obtain ⟨a1,b1,f1,f2,f3⟩:=e3 k _ _ hqk hps;have ef:frP z pss Prod.fst k ((i:Int) + Hw fs sh k)=Nl (Prod.fst (pss[k]'(by omega))) z ((i:Int) + Hw fs sh k):=by unfold frP;rw [hps];rfl
    rw [ef] at hN;walk_at "RD";exact ⟨Sub.name,_,SqL.of e1,_,Ac (by rw [List.getElem?_map,hqk];rfl),_,rfl,_,SqT.of f1,_,rfl,_,SqL.of ha4,_,Ac (by rw [List.getElem?_map,List.getElem?_range hk];rfl),a1,_,z,_,rfl,f2,hz.1,hN⟩
   ·have s3':=lb (o:=.lst ((List.range (n + 1)).map fun (k:Nat)=>V.bl (frP z pss Prod.fst k ((i:Int) + Hw fs sh k)))) hp3;have ec:=Iz (gA (frP z pss Prod.fst) (Hw fs sh) pss.length) i;have eg:(List.map (fun (k:Nat)=>frP z pss Prod.fst k ((i:Int) + Hw fs sh k)) (List.range (n + 1))).all id=gA (frP z pss Prod.fst) (Hw fs sh) pss.length i:=by
     unfold gA;rw [List.all_map,hn];rfl
    refine ⟨p3,rfl,(List.range (n + 1)).map fun (k:Nat)=>frP z pss Prod.fst k ((i:Int) + Hw fs sh k),by rw [List.map_map];exact SqL.of cb,_,rfl,_,s3' _ _ hb4,0,rfl,?_⟩;rw [eg];refine hD _ _ ⟨(((sm.trans s3).trans s4).trans s3').updN hb,n4.upd.upd,?_,?_,rfl⟩
    ·rw [ub hcb];exact s3' _ _ hc
    ·rw [cb];show some (HO.lst [V.int (((lgF z pss fs sh i).length:Nat) + _),_])=_;unfold lgF;rw [ec]
  rintro σ5 H5 ⟨s5,n5,hc5,hb5,rfl⟩;have I5:=I.same s5;subst zzh;walk_at "RD";obtain ⟨qs,e1,e2,e3⟩:=I5.s;refine ⟨_,SqL.of hb5,_,rfl,by omega,by omega,?_⟩;refine ed.range_map (n:=n + 1) (fun k=>V.bl (frP z pss Prod.snd k ((i:Int) + qy bs sh k))) (Nat.le_trans (show n + 1 ≤ 10 by omega) (by decide)) (fun k N hk hN=>?_) (fun p3 hp3=>?_)
  ·have hps:pss[k]? = some (pss[k]'(by omega)):=List.getElem?_eq_getElem _;have hqk:qs[k]? = some (qs[k]'(by omega)):=List.getElem?_eq_getElem _;obtain ⟨a1,b1,f1,f2,f3⟩:=e3 k _ _ hqk hps;have ef:frP z pss Prod.snd k ((i:Int) + qy bs sh k)=Nl (Prod.snd (pss[k]'(by omega))) z ((i:Int) + qy bs sh k):=by unfold frP;rw [hps];rfl
   rw [ef] at hN;walk_at "RD";exact ⟨Sub.name,_,SqL.of e1,_,Ac (by rw [List.getElem?_map,hqk];rfl),_,rfl,_,SqT.of f1,_,rfl,_,SqL.of hc5,_,Ac (by rw [List.getElem?_map,List.getElem?_range hk];rfl),b1,_,z,_,rfl,f3,hz.1,hN⟩
  ·have s3':=lb (o:=.lst ((List.range (n + 1)).map fun (k:Nat)=>V.bl (frP z pss Prod.snd k ((i:Int) + qy bs sh k)))) hp3;have ec:=Iz (gA (frP z pss Prod.snd) (qy bs sh) pss.length) i;have eg:(List.map (fun (k:Nat)=>frP z pss Prod.snd k ((i:Int) + qy bs sh k)) (List.range (n + 1))).all id=gA (frP z pss Prod.snd) (qy bs sh) pss.length i:=by
    unfold gA;rw [List.all_map,hn];rfl
   refine ⟨p3,rfl,(List.range (n + 1)).map fun (k:Nat)=>frP z pss Prod.snd k ((i:Int) + qy bs sh k),by rw [List.map_map];exact SqL.of cb,_,rfl,_,s3' _ _ hb5,1,rfl,?_⟩;rw [eg];refine ⟨(s5.trans s3').updN hb,n5.upd.upd,?_,_,rfl⟩;rw [cb];show some (HO.lst [_,V.int (((lgB z pss bs sh i).length:Nat) + _)])=_;unfold lgB;rw [ec]
 ·rintro σ H' zzq;refine zP fun zzM zzh=>?_
  obtain ⟨sm,nt',hb',x7,x8,x9,rfl⟩:=zzq;subst zzh;rw [Int.toNat_natCast] at hb';walk_at "RD";exact ⟨_,SqL.of hb',_,rfl,_,SqL.of hb',_,rfl,by decide,fun p hp=>q p _ (sm.trans (lb hp)) nt'.upd cb⟩
end
end My
namespace My
open PySem L2
theorem NH {i:Int} (h0:0 ≤ i) (h1:i < 3):atI [V.str (Str.ofString "car"),V.str (Str.ofString "foot"),V.str (Str.ofString "tram")] i=some (.str (Pd i.toNat)):=by
 have:i=0∨i=1∨i=2:=by omega
 rcases this with rfl | rfl | rfl
 ·exact Ac (j:=0) rfl
 ·exact Ac (j:=1) rfl
 ·exact Ac (j:=2) rfl
noncomputable def Rt (H:Hp) (b:Addr):Prop:=∃ xs,H b=some (.lst xs)∧∀ v ∈ xs,∃ q u r,v=.ref q∧H q=some (.tup (.ref u :: r))
theorem Rt.ne {H:Hp} {a b:Addr} {ys:List V} (R:Rt H b) (e:H a=some (.lst ys)) (h:∃ v ∈ ys,∀ q u r,v=.ref q→H q ≠ some (.tup (.ref u :: r))):a ≠ b:=fun z=>by
 subst z;obtain ⟨xs,e1,e2⟩:=R;rw [e1] at e;have e:=Option.some.inj e;injection e with e;subst e;obtain ⟨v,hv,h⟩:=h;obtain ⟨q,u,r,rfl,h2⟩:=e2 v hv;exact h q u r rfl h2
theorem Rt.no {H:Hp} {a b:Addr} {o:HO} (R:Rt H b) (e:H a=some o) (h:∀ xs,o ≠ .lst xs):a ≠ b:=fun z=>by
 subst z;obtain ⟨xs,e1,_⟩:=R;rw [e1] at e;exact h xs (Option.some.inj e).symm
theorem Rc.rt {t:Adr} {H:Hp} {b c:Addr} {n:Int} {ds:List WD} {o:HO} (h:Rc t H c n ds) (R:Rt H b) (hd:ds ≠ []):Rc t (upd H b o) c n ds:=by
 obtain ⟨h0,dx,wl,nd,e1,⟨as,w1,w2,al⟩,e3⟩:=h;have ne1:=R.no e1 (by intro xs z;cases z);have ne3:=R.no e3 (by intro xs z;cases z);have ne2:wl ≠ b:=R.ne w1 (by
  cases as with
  | nil=>exact absurd (List.length_eq_zero_iff.mp w2.symm) hd
  | cons x r=>
   cases ds with
   | nil=>exact absurd rfl hd
   | cons d ds=>
    refine ⟨.ref x,by simp,fun q u r' e=>?_⟩;cases e;obtain ⟨_,dxb,eb⟩:=al 0 x d rfl rfl;rw [eb];intro z;cases z)
 refine ⟨h0,dx,wl,nd,by rw [ub ne1];exact e1,⟨as,by rw [ub ne2];exact w1,w2,fun i x d hb hd=>?_⟩,by rw [ub ne3];exact e3⟩;obtain ⟨k,dxb,eb⟩:=al i x d hb hd;exact ⟨k,dxb,by rw [ub (R.no eb (by intro xs z;cases z))];exact eb⟩
theorem LO.rt {H:Hp} {a b:Addr} {o:HO} {α:Type} {f:α→HO} {ps:List α} (h:LO H a (ps.map f)) (R:Rt H b) (hp:ps ≠ []) (hf:∀ x,∀ u r,f x ≠ .tup (.ref u :: r)) (hg:∀ x xs,f x ≠ .lst xs):LO (upd H b o) a (ps.map f):=by
 obtain ⟨qs,l1,l2⟩:=h;have hl:qs.length=ps.length:=by rw [l2.1,List.length_map]
 have ne:a ≠ b:=R.ne l1 (by
  cases qs with
  | nil=>exact absurd (List.length_eq_zero_iff.mp hl.symm) hp
  | cons x r=>
   cases ps with
   | nil=>exact absurd rfl hp
   | cons d ds=>
    refine ⟨.ref x,by simp,fun q u r' e=>?_⟩;cases e;rw [l2.2 0 x (f d) rfl rfl];intro z;exact hf d u r' (Option.some.inj z))
 refine ⟨qs,by rw [ub ne];exact l1,l2.1,fun i q u hq hu=>?_⟩;have e:=l2.2 i q u hq hu;obtain ⟨x,_,rfl⟩:=ic hu;rw [ub (R.no e (hg x))];exact e
theorem NK.rt {H:Hp} {p b:Addr} {o:HO} {ds:List WD} {f:WD→List V} {n:Nat} (h:NK H p ds (fun d=>.lst (f d)) n) (R:Rt H b) (hf:∀ d,∃ v ∈ f d,∀ q,v ≠ .ref q):NK (upd H b o) p ds (fun d=>.lst (f d)) n:=by
 obtain ⟨rs,hl,hp,al⟩:=h;refine ⟨rs,hl,by rw [ub (R.no hp (by intro xs z;cases z))];exact hp,fun i r d h1 h2=>?_⟩;have e:=al i r d h1 h2;obtain ⟨v,hv,hq⟩:=hf d;rw [ub (R.ne e ⟨v,hv,fun q u r' e=>absurd e (hq q)⟩)];exact e
theorem Ai.rt {t:Adr} {H:Hp} {b a c:Addr} {n:Int} {ds:List WD} {z:Nat} {sp:List SD} {o:HO} (h:Ai t H a c n ds z sp) (R:Rt H b) (hz:0 < z) (hd:ds ≠ []) (hs:sp ≠ []):Ai t (upd H b o) a c n ds z sp:=by
 obtain ⟨dx,p,lm,un,e,C,L,N1,N2⟩:=h.at_;refine ⟨dx,p,lm,un,by rw [ub (R.no e (by intro xs z;cases z))];exact e,C.rt R hd,L.rt R hs (fun x u r z=>by cases z) (fun x xs z=>by cases z),N1.rt R (fun d=>?_),N2.rt R (fun d=>?_)⟩
 ·have hl:(Yl z sp d).length=z:=zh _ _ _ _;obtain ⟨y,hy⟩:=List.exists_mem_of_length_pos (show 0 < (Yl z sp d).length by omega);exact ⟨.str y,List.mem_map.mpr ⟨y,hy,rfl⟩,fun q e=>by cases e⟩
 ·have hl:(Gv z sp d.name).length=z:=by unfold Gv;rw [Ck,Ql]
  obtain ⟨y,hy⟩:=List.exists_mem_of_length_pos (show 0 < (Gv z sp d.name).length by omega);exact ⟨.int y,List.mem_map.mpr ⟨y,hy,rfl⟩,fun q e=>by cases e⟩
structure L1 (t:Adr) (H:Hp) (z:Nat) (l:LD):Prop where
 ok:LOk t H z l
 ds:l.ds ≠ []
 sp:l.sp ≠ []
noncomputable def P1 (H:Hp) (r:Addr) (s:List (Int × Int) × List (Int × Int)):Prop:=(s.1 ≠ []∧s.2 ≠ [])∧∃ a b,H r=some (.tup [.ref a,.ref b])∧LO H a (s.1.map prO)∧LO H b (s.2.map prO)
theorem L1.same {t:Adr} {H H':Hp} {z:Nat} {l:LD} (h:L1 t H z l) (s:Jb H H'):L1 t H' z l:=⟨h.ok.same s,h.ds,h.sp⟩
theorem P1.same {H H':Hp} {r:Addr} {x:List (Int × Int) × List (Int × Int)} (h:P1 H r x) (s:Jb H H'):P1 H' r x:=by
 obtain ⟨n,a,b,e1,e2,e3⟩:=h;exact ⟨n,a,b,s _ _ e1,e2.same s,e3.same s⟩
theorem L1.rt {t:Adr} {H:Hp} {b:Addr} {z:Nat} {l:LD} {o:HO} (h:L1 t H z l) (R:Rt H b) (hz:0 < z):L1 t (upd H b o) z l:=⟨⟨h.ok.1.rt R hz h.ds h.sp,h.ok.2⟩,h.ds,h.sp⟩
theorem P1.rt {H:Hp} {b r:Addr} {x:List (Int × Int) × List (Int × Int)} {o:HO} (h:P1 H r x) (R:Rt H b):P1 (upd H b o) r x:=by
 obtain ⟨n,a,c,e1,e2,e3⟩:=h;exact ⟨n,a,c,by rw [ub (R.no e1 (by intro xs z;cases z))];exact e1,e2.rt R n.1 (fun x u r z=>by cases z) (fun x xs z=>by cases z),e3.rt R n.2 (fun x u r z=>by cases z) (fun x xs z=>by cases z)⟩
structure LS (t:Adr) (H:Hp) (z:Nat) (lp sl:Addr) (qs rs:List Addr) (ls:List LD) (pss:PSS):Prop where
 ne:lp ≠ sl
 e1:H lp=some (.lst (qs.map V.ref))
 e2:H sl=some (.lst (rs.map V.ref))
 ql:qs.length=ls.length
 rl:rs.length=pss.length
 ql_:∀ (i:Nat) (q:Addr) (l:LD),qs[i]? = some q→ls[i]? = some l→H q=some (lO l)∧L1 t H z l
 rl_:∀ (i:Nat) (r:Addr) (s:List (Int × Int) × List (Int × Int)),rs[i]? = some r→pss[i]? = some s→P1 H r s
section
variable {t:Adr} {H H':Hp} {z:Nat} {lp sl:Addr} {qs rs:List Addr} {ls:List LD} {pss:PSS}
theorem LS.same (h:LS t H z lp sl qs rs ls pss) (s:Jb H H'):LS t H' z lp sl qs rs ls pss:=
 ⟨h.ne,s _ _ h.e1,s _ _ h.e2,h.ql,h.rl,fun i q l a b=>⟨s _ _ (h.ql_ i q l a b).1,(h.ql_ i q l a b).2.same s⟩,fun i r x a b=>(h.rl_ i r x a b).same s⟩
theorem LS.rt1 (h:LS t H z lp sl qs rs ls pss):Rt H lp:=⟨_,h.e1,fun v hv=>by
 obtain ⟨q,hq,rfl⟩:=List.mem_map.mp hv;obtain ⟨i,hi⟩:=List.getElem?_of_mem hq;have hl:ls[i]? = some (ls[i]'(by rw [← h.ql];exact (List.getElem?_eq_some_iff.mp hi).1)):=List.getElem?_eq_getElem _;exact ⟨q,_,_,rfl,(h.ql_ i q _ hi hl).1⟩⟩
theorem LS.rt2 (h:LS t H z lp sl qs rs ls pss):Rt H sl:=⟨_,h.e2,fun v hv=>by
 obtain ⟨q,hq,rfl⟩:=List.mem_map.mp hv;obtain ⟨i,hi⟩:=List.getElem?_of_mem hq;have hl:pss[i]? = some (pss[i]'(by rw [← h.rl];exact (List.getElem?_eq_some_iff.mp hi).1)):=List.getElem?_eq_getElem _;obtain ⟨_,a,b,e,_⟩:=h.rl_ i q _ hi hl;exact ⟨q,_,_,rfl,e⟩⟩
theorem LS.pushL (h:LS t H z lp sl qs rs ls pss) (hz:0 < z) {q:Addr} {l:LD} (e:H q=some (lO l)) (L:L1 t H z l):LS t (upd H lp (.lst (qs.map V.ref ++ [.ref q]))) z lp sl (qs ++ [q]) rs (ls ++ [l]) pss:=by
 have R:=h.rt1;have kt:∀ {a:Addr} {xs:List V},H a=some (.tup xs)→upd H lp (.lst (qs.map V.ref ++ [.ref q])) a=some (.tup xs):=fun e=>by rw [ub (R.no e (by intro xs z;cases z))];exact e
 refine ⟨h.ne,by rw [cb,List.map_append];rfl,by rw [ub h.ne.symm];exact h.e2,by rw [List.length_append,List.length_append,h.ql];rfl,h.rl,fun i q' l' a b=>?_,fun i r s a b=>(h.rl_ i r s a b).rt R⟩;rcases se a with ⟨_,a⟩ | ⟨ia,rfl⟩
 ·rcases se b with ⟨_,b⟩ | ⟨ib,_⟩
  ·obtain ⟨x1,x2⟩:=h.ql_ i q' l' a b;exact ⟨kt x1,x2.rt R hz⟩
  ·have:=(List.getElem?_eq_some_iff.mp a).1;have:=h.ql;omega
 ·rcases se b with ⟨ib,_⟩ | ⟨_,rfl⟩
  ·have:=h.ql;omega
  ·exact ⟨kt e,L.rt R hz⟩
theorem LS.pushS (h:LS t H z lp sl qs rs ls pss) (hz:0 < z) {r:Addr} {s:List (Int × Int) × List (Int × Int)} (L:P1 H r s):LS t (upd H sl (.lst (rs.map V.ref ++ [.ref r]))) z lp sl qs (rs ++ [r]) ls (pss ++ [s]):=by
 have R:=h.rt2;have kt:∀ {a:Addr} {xs:List V},H a=some (.tup xs)→upd H sl (.lst (rs.map V.ref ++ [.ref r])) a=some (.tup xs):=fun e=>by rw [ub (R.no e (by intro xs z;cases z))];exact e
 refine ⟨h.ne,by rw [ub h.ne];exact h.e1,by rw [cb,List.map_append];rfl,h.ql,by rw [List.length_append,List.length_append,h.rl];rfl,fun i q' l' a b=>⟨kt (h.ql_ i q' l' a b).1,(h.ql_ i q' l' a b).2.rt R hz⟩,fun i r' s' a b=>?_⟩;rcases se a with ⟨_,a⟩ | ⟨ia,rfl⟩
 ·rcases se b with ⟨_,b⟩ | ⟨ib,_⟩
  ·exact (h.rl_ i r' s' a b).rt R
  ·have:=(List.getElem?_eq_some_iff.mp a).1;have:=h.rl;omega
 ·rcases se b with ⟨ib,_⟩ | ⟨_,rfl⟩
  ·have:=h.rl;omega
  ·exact L.rt R
theorem LS.line (h:LS t H z lp sl qs rs ls pss):Cm t H z lp ls:=by
 refine ⟨⟨qs,h.e1,by rw [h.ql,List.length_map],fun i q o hq ho=>?_⟩,fun l hl=>?_⟩
 ·obtain ⟨l,hl,rfl⟩:=ic ho;exact (h.ql_ i q l hq hl).1
 ·obtain ⟨i,hi⟩:=List.getElem?_of_mem hl;have hq:qs[i]? = some (qs[i]'(by rw [h.ql];exact (List.getElem?_eq_some_iff.mp hi).1)):=List.getElem?_eq_getElem _;exact (h.ql_ i _ l hq hi).2.ok
theorem LS.sps (h:LS t H z lp sl qs rs ls pss):ZC H sl pss:=⟨rs,h.e2,h.rl,fun i q s a b=>(h.rl_ i q s a b).2⟩
end
theorem gG (z:Int):Str.ofString "round " ++ num z=Str.join bk [S "round",num z]:=by
 apply Fu;have e1:(Str.ofString "round ").cps.toList=[114,111,117,110,100,32]:=by decide +kernel
 have e2:(Str.ofString "round").cps.toList=[114,111,117,110,100]:=by decide +kernel
 rw [IJ,Uj];simp only [List.map_cons,List.map_nil,jl,Str.cps_append,Array.toList_append,e1,e2,List.cons_append,List.nil_append]
theorem HL (k i:Nat) (x:Str):Str.join bk [Pd k,x,num (3 * (i:Int)),num (3 * (i:Int) + 1),Str.ofString "0 0 1"]=Str.join bk (Hf (wK k i x)):=by
 apply Fu;have e1:(Str.ofString "0 0 1").cps.toList=[48,32,48,32,49]:=by decide +kernel
 have e2:(num 0).cps.toList=[48]:=by decide +kernel
 have e3:(num 1).cps.toList=[49]:=by decide +kernel
 rw [IJ,Uj,Uj];show jl 32 ([Pd k,x,num (3 * (i:Int)),num (3 * (i:Int) + 1),Str.ofString "0 0 1"].map (·.cps.toList))=jl 32 ([Pd k,x,num (3 * (i:Int)),num (3 * (i:Int) + 1),num 0,num 0,num 1].map (·.cps.toList));simp only [List.map_cons,List.map_nil,jl,e1,e2,e3,List.cons_append,List.nil_append]
theorem Ez {ds:List WD} (h:ds ≠ []):Str.ofString "ring 12\n" ++ Str.join nl (ds.map fun d=>Str.join bk (Hf d))=Iw 12 ds:=by
 apply Fu;have e1:(Str.ofString "ring 12\n").cps.toList=[114,105,110,103,32,49,50,10]:=by decide +kernel
 have e2:(Str.join bk [Str.ofString "ring",num 12]).cps.toList=[114,105,110,103,32,49,50]:=by decide +kernel
 unfold Iw Np;rw [KL,Str.cps_append,Array.toList_append,Uj,Uj,List.map_cons,List.map_cons,e1,e2];obtain ⟨d,r,rfl⟩:=List.exists_cons_of_ne_nil h;rw [List.map_cons,List.map_cons,List.map_cons,List.map_cons,List.map_cons];simp only [jl,List.map_map];rfl
theorem wm (sep:Str) (ys:List Str):Txt.join sep ys=Str.join sep ys:=StrLaws.glued_eq_join _ _
theorem YD (k i:Nat) (x:Str) (hk:k < 3):Wd (wK k i x) + Ec (wK k i x)=if k=1 then 0 else 3:=by
 match k,hk with
 | 0,_=>rfl
 | 1,_=>rfl
 | 2,_=>rfl
theorem jw {k:Nat} (hk:k < 3):decide (Pd k=Str.ofString "foot")=decide (k=1):=by
 match k,hk with
 | 0,_=>decide +kernel
 | 1,_=>decide +kernel
 | 2,_=>decide +kernel
end My
namespace My
open PySem L2
noncomputable def oA (z:Nat) (ls:List LD) (pss:PSS):Prop:=∀ (k:Nat) (l:LD) (s:List (Int × Int) × List (Int × Int)),ls[k]? = some l→pss[k]? = some s→(∀ x,Pf z l.sp l.d x=Nl s.1 z x)∧∀ x,Pf z l.sp l.e x=Nl s.2 z x
structure Yo (H G:Hp) (wp rp op:Addr) (U R:List Str) (kv:List (Key × V)):Prop where
 sg:Jb G H
 gw:G wp=none
 gr:G rp=none
 go:G op=none
 w:H wp=some (.lst (Kb U))
 r:H rp=some (.lst (Kb R))
 o:H op=some (.dK kv)
 ne:wp ≠ rp
section
variable {H H' G G':Hp} {wp rp op:Addr} {U R:List Str} {kv:List (Key × V)}
theorem Yo.same (h:Yo H G wp rp op U R kv) (s:Jb H H'):Yo H' G wp rp op U R kv:=⟨h.sg.trans s,h.gw,h.gr,h.go,s _ _ h.w,s _ _ h.r,s _ _ h.o,h.ne⟩
theorem Yo.no1 (h:Yo H G wp rp op U R kv):op ≠ wp:=ue h.o h.w (by intro z;cases z)
theorem Yo.no2 (h:Yo H G wp rp op U R kv):op ≠ rp:=ue h.o h.r (by intro z;cases z)
theorem Yo.putW (h:Yo H G wp rp op U R kv) (y:Str):Yo (upd H wp (.lst (Kb U ++ [.str y]))) G wp rp op (U ++ [y]) R kv:=⟨h.sg.updN h.gw,h.gw,h.gr,h.go,by rw [cb];unfold Kb;rw [List.map_append];rfl,by rw [ub h.ne.symm];exact h.r,by rw [ub h.no1];exact h.o,h.ne⟩
theorem Yo.putR (h:Yo H G wp rp op U R kv) (y:Str):Yo (upd H rp (.lst (Kb R ++ [.str y]))) G wp rp op U (R ++ [y]) kv:=⟨h.sg.updN h.gr,h.gw,h.gr,h.go,by rw [ub h.ne];exact h.w,by rw [cb];unfold Kb;rw [List.map_append];rfl,by rw [ub h.no2];exact h.o,h.ne⟩
theorem Yo.putO (h:Yo H G wp rp op U R kv) (kv':List (Key × V)):Yo (upd H op (.dK kv')) G wp rp op U R kv':=⟨h.sg.updN h.go,h.gw,h.gr,h.go,by rw [ub h.no1.symm];exact h.w,by rw [ub h.no2.symm];exact h.r,cb,h.ne⟩
end
theorem Yo.grow {H G G1:Hp} {wp rp op:Addr} {U R:List Str} {kv:List (Key × V)} (h:Yo H G wp rp op U R kv) (s:Jb G1 H) (a:G1 wp=none) (b:G1 rp=none) (c:G1 op=none):Yo H G1 wp rp op U R kv:=⟨s,a,b,c,h.w,h.r,h.o,h.ne⟩
structure Inn (H G:Hp) (z:Nat) (wp rp op:Addr) (es:List WE) (as:List Addr):Prop where
 g:Yo H G wp rp op ((dsE es).map fun d=>Str.join bk (Hf d)) ((Nf z (spE es)).map (Str.join bk)) (nkv (dsE es) as)
 l:as.length=es.length
 a:∀ (i:Nat) (b:Addr) (e:WE),as[i]? = some b→es[i]? = some e→LO G b (e.2.map prO)
theorem yk (es:List WE) (e:WE):dsE (es ++ [e])=dsE es ++ [e.1]:=by unfold dsE;rw [List.map_append];rfl
theorem AG (es:List WE) (e:WE):spE (es ++ [e])=spE es ++ Jx e:=by unfold spE;rw [List.flatMap_append];simp
theorem BE {ds:List WD} {as:List Addr} (h:as.length=ds.length) (d:WD):nkv (ds ++ [d]) as=nkv ds as:=by
 unfold nkv;have e:(ds ++ [d]).zip as=ds.zip as:=by
  have:=List.zip_append (l₁:=ds) (r₁:=[d]) (l₂:=as) (r₂:=[]) h.symm;rw [List.append_nil] at this;rw [this];simp
 rw [e]
theorem E70.names {z:Nat} {xs:List Str} {es:List WE} (h:E70 z xs es):(dsE es).map (·.name)=xs.take es.length:=by
 refine List.ext_getElem? fun i=>?_
 by_cases c:i < es.length
 ·have he:=List.getElem?_eq_getElem c;rw [List.getElem?_take,if_pos c,h.nm he];unfold dsE;rw [List.getElem?_map,List.getElem?_map,he];rfl
 ·rw [List.getElem?_take,if_neg c,List.getElem?_eq_none];unfold dsE;rw [List.length_map,List.length_map];omega
theorem E70.nd1 {z:Nat} {xs:List Str} {es:List WE} (h:E70 z xs es) (hx:xs.Nodup) {d:WD} (hd:xs[es.length]? = some d.name):((dsE es ++ [d]).map (·.name)).Nodup:=by
 rw [List.map_append,h.names];show (xs.take es.length ++ [d.name]).Nodup;rw [← df hd];exact hx.sublist (List.take_sublist ..)
theorem zC {H:Hp} {op p:Addr} {es:List WE} {as:List Addr} {d:WD} (e:H op=some (.dK (nkv (dsE es ++ [d]) (as ++ [p])))) (nd:((dsE es ++ [d]).map (·.name)).Nodup) (hal:as.length=(dsE es).length):Oo H op (.str d.name) (some (.ref p)):=by
 have key:=Qq (ds:=dsE es ++ [d]) (rs:=as ++ [p]) nd (i:=as.length) (d:=d) (r:=p) (by rw [hal,List.getElem?_append_right (Nat.le_refl _),Nat.sub_self];rfl) (by rw [List.getElem?_append_right (Nat.le_refl _),Nat.sub_self];rfl);have:=Oo.k (k:=Sum.inr d.name) e;rw [key] at this;exact this
theorem DA (z:Int) (sp:List SD) (s:SD):Nf z (sp ++ [s])=Nf z sp ++ [Al s]:=by unfold Nf;rw [List.map_append];rfl
theorem Au (sep:Str):∀ ys:List Str,(ys.map (·.length)).sum ≤ (Str.join sep ys).length
 | []=>Nat.zero_le _
 | [a]=>by
  show a.length + 0 ≤ a.length;omega
 | a :: b :: r=>by
  have:=Au sep (b :: r);show a.length + ((b :: r).map (·.length)).sum ≤ (a ++ sep ++ Str.join sep (b :: r)).length;rw [Yn,Yn];omega
noncomputable def Pz (K:PySem.W.Frag) (t:Adr) (a:Addr) (ns:List Int):Sp:=fun vs H Q _=>vs=[.ref a]∧Sc K a ns H∧∀ r z lp sl qs rs ls pss H',Jb H H'→Sc K a ns H'→H' r=some (.tup [.int (z:Nat),.ref lp,.ref sl])→LS t H' z lp sl qs rs ls pss→(4 ≤ z∧z ≤ 8)→(1 ≤ ls.length∧ls.length ≤ 4)→pss.length=ls.length→oA z ls pss→Q (.ref r) H'
section
variable {P:Program} {w:World} {K:PySem.W.Frag} {mg:Str→Option Value} {base:Heap} {t:Adr}
theorem EE (T:Txt w K mg t) (a:Addr) (ns:List Int) (h63:ns.length ≤ 63):Pb P w K mg base CX0 9 t.Qi t.dj q25 (Pz K t a ns):=by
 have g0:Pb P w K mg base CX0 8 t.tf t.sf q18 (kd K a ns):=(lu T a ns h63).mono (by decide);have g62:Pb P w K mg base CX0 8 t.Ph t.Uh q47 (vw K a ns):=(FC T a ns h63).mono (by decide);have g63:Pb P w K mg base CX0 8 t.Qf t.Ff ["text"] (VL t):=(XM T).mono (by decide);have g64:Pb P w K mg base CX0 8 t.Yi t.Ni q42 (Ly t):=(yF T).mono (by decide);refine T.Rl.ok Mb (fun vs H Q E h=>?_) (fun _ _ _ s H vs Q E hr h=>?_)
 ·obtain ⟨rfl,_⟩:=h;rfl
 obtain ⟨rfl,S0,q⟩:=h;have hu:=Zw hr;refine ⟨_,(db (Cb (i:=1) Mb.nd rfl (Or.inl rfl) (Fb fc pb (xb g0 hr rfl T.Ub T.Qb.kp T.Tb .nil Db (ab (pv 0) (ab pb (ab pb fb))))))
   (db (Cb (i:=2) Mb.nd rfl (Or.inl rfl) (Fb fc pb (xb g0 hr rfl T.Ub T.Qb.kp T.Tb .nil Db (ab (pv 0) (ab pb (ab pb fb))))))
   (db (Cb (i:=3) Mb.nd rfl (Or.inl rfl) (Td fb))
   (db (Cb (i:=4) Mb.nd rfl (Or.inl rfl) (Td fb))
   (db (Bd PassesOwn.never rfl (uc rfl T.Zc (ab (pv 2) fb)) (yb (i:=5) Mb.nd rfl (Or.inl rfl)) (db (Cb (i:=6) Mb.nd rfl (Or.inl rfl) (xb g62 hr rfl T.Qv T.nk.kp T.Dv .nil Db (ab (pv 0) (ab (Fb fc pb (xb g0 hr rfl T.Ub T.Qb.kp T.Tb .nil Db (ab (pv 0) (ab (Fb fc pb (pv 5)) (ab pb fb))))) fb))))
   (db (Cb (i:=7) Mb.nd rfl (Or.inl rfl) (Td fb))
   (db (Cb (i:=8) Mb.nd rfl (Or.inl rfl) (Td (ab (Fb Gk Wc (Vc xf rfl T.Wz mh (ab (pv 1) fb))) fb)))
   (db (Cb (i:=9) Mb.nd rfl (Or.inl rfl) qm)
   (db (Bd PassesOwn.never rfl (uc rfl T.Zc (ab (Ib Eb rfl T.Yf Ob (ab (pv 6) fb)) fb)) (yb (i:=10) Mb.nd rfl (Or.inl rfl)) (db (Cb (i:=11) Mb.nd rfl (Or.inl rfl) (kc Zb (Td (ab Wc (ab Wc (ab Wc fb)))) (xb g0 hr rfl T.Ub T.Qb.kp T.Tb .nil Db (ab (pv 0) (ab (Fb fc (Fb fc pb (Fb wf pb (pv 5))) (Fb wf pb (pv 10))) (ab pb fb)))) (fun _ _=>rfl)))
   (db (Fc (Vi PySem.F.plainAttrs_list PySem.F.slot_list_append PySem.F.type_list_append qe (pv 7) (ab (Vi PySem.F.plainAttrs_str PySem.F.slot_str_join PySem.F.type_str_join Mp Wc (ab (Td (ab (pv 11) (ab (kc Zb (pv 6) (pv 10) (fun _ _=>rfl)) (ab (Vc xf rfl T.Wz mh (ab (Fb wf pb (pv 10)) fb)) (ab (Vc xf rfl T.Wz mh (ab (Fb fc (Fb wf pb (pv 10)) pb) fb)) (ab Wc fb)))))) fb)) fb)))
   (db (Cb (i:=12) Mb.nd rfl (Or.inl rfl) (up (Rb Ji (pv 11) Wc (Xb _)) (pv 1) (Fb De (pv 1) pb)))
   (db (Cb (i:=13) Mb.nd rfl (Or.inl rfl) (Fb fc pb (xb g0 hr rfl T.Ub T.Qb.kp T.Tb .nil Db (ab (pv 0) (ab (Fb fc (Fb fc pb (Fb wf pb (pv 5))) (Fb wf pb (pv 10))) (ab (pv 12) fb))))))
   (db (Cb (i:=14) Mb.nd rfl (Or.inl rfl) (xb g0 hr rfl T.Ub T.Qb.kp T.Tb .nil Db (ab (pv 0) (ab (Fb fc (Fb fc pb (Fb wf pb (pv 5))) (Fb wf pb (pv 10))) (ab (pv 1) fb)))))
   (db (Ar hu (pv 9) (kc Zb (pv 6) (pv 10) (fun _ _=>rfl)) (Td (ab (Yg (ab (pv 14) (ab (pv 13) fb))) fb)) rfl)
   (db (Be (PW.pt (dC (Rb Ji (pv 11) Wc (Xb _)) (cy (Rb Xo (pv 13) (pv 1) (Xb _))))) (db (Cb (i:=14) Mb.nd rfl (Or.inl rfl) (Fb fc (pv 14) (pv 13)))
   (db (Cb (i:=15) Mb.nd rfl (Or.inl rfl) (Fb fc pb (xb g0 hr rfl T.Ub T.Qb.kp T.Tb .nil Db (ab (pv 0) (ab (Fb fc (Fb fc pb (Fb wf pb (pv 5))) (Fb wf pb (pv 10))) (ab (Fb De (pv 1) (pv 13)) fb))))))
   (db (Cb (i:=16) Mb.nd rfl (Or.inl rfl) (Fb Uf (Fb De (Fb De (Fb fc (pv 14) (pv 1)) (pv 13)) (pv 15)) (pv 1)))
   (qb (Fc (Vi PySem.F.plainAttrs_list PySem.F.slot_list_append PySem.F.type_list_append qe (ik hu (pv 9) (kc Zb (pv 6) (pv 10) (fun _ _=>rfl)) (fun _ _=>rfl)) (ab (Yg (ab (pv 16) (ab (pv 15) fb))) fb))))))) vc)
   (qb (Bd PassesOwn.never rfl (zd (ik hu (pv 9) (kc Zb (pv 6) (pv 10) (fun _ _=>rfl)) (fun _ _=>rfl))) (yb (i:=17) Mb.nd rfl (Or.inl rfl)) (qb (Fc (Vi PySem.F.plainAttrs_list PySem.F.slot_list_append PySem.F.type_list_append qe (pv 8) (ab (Vi PySem.F.plainAttrs_str PySem.F.slot_str_join PySem.F.type_str_join Mp Wc (ab (Td (ab Wc (ab (kc Zb (pv 6) (pv 10) (fun _ _=>rfl)) (ab (Vc xf rfl T.Wz mh (ab (kc gd (pv 17) pb (fun _ _=>rfl)) fb)) (ab (Vc xf rfl T.Wz mh (ab (kc gd (pv 17) pb (fun _ _=>rfl)) fb)) fb))))) fb)) fb))))))))))))))
   (db (Cb (i:=18) Mb.nd rfl (Or.inl rfl) (xb g63 hr rfl T.wq T.Bh.kp T.pq .nil Db (ab (Fb Gk Wc (Vi PySem.F.plainAttrs_str PySem.F.slot_str_join PySem.F.type_str_join Mp Wc (ab (pv 7) fb))) fb)))
   (db (Cb (i:=19) Mb.nd rfl (Or.inl rfl) (kc Zb (pv 6) (xb g0 hr rfl T.Ub T.Qb.kp T.Tb .nil Db (ab (pv 0) (ab (Fb fc pb (pv 5)) (ab (Ib Eb rfl T.Yf Ob (ab (pv 6) fb)) fb)))) (fun _ _=>rfl)))
   (db (Cb (i:=20) Mb.nd rfl (Or.inl rfl) (kc Zb (pv 6) (xb g0 hr rfl T.Ub T.Qb.kp T.Tb .nil Db (ab (pv 0) (ab (Fb fc pb (pv 5)) (ab (Ib Eb rfl T.Yf Ob (ab (pv 6) fb)) fb)))) (fun _ _=>rfl)))
   (db (Fc (Vi PySem.F.plainAttrs_list PySem.F.slot_list_append PySem.F.type_list_append qe (pv 3) (ab (Yg (ab (xb g64 hr rfl T.Wx T.Ll.kp T.ox .nil Db (ab (pv 18) (ab (Vi PySem.F.plainAttrs_str PySem.F.slot_str_join PySem.F.type_str_join Mp Wc (ab (pv 8) fb)) fb))) (ab (pv 19) (ab (pv 20) fb)))) fb)))
   (qb (Fc (Vi PySem.F.plainAttrs_list PySem.F.slot_list_append PySem.F.type_list_append qe (pv 4) (ab (Yg (ab (ik hu (pv 9) (pv 19) (fun _ _=>rfl)) (ab (ik hu (pv 9) (pv 20) (fun _ _=>rfl)) fb))) fb))))))))))))))
   (qb (Gb (Yg (ab (pv 1) (ab (pv 3) (ab (pv 4) fb))))))))))),?_⟩
 obtain ⟨z,hz,hz1⟩:∃ z:Nat,4 + fh ns 0 5=(z:Nat)∧(4 ≤ z∧z ≤ 8):=by
  have d1:=ge ns 0 (m:=5) (by decide);have d2:=ce ns 0 (m:=5) (by decide);exact ⟨(4 + fh ns 0 5).toNat,by omega,by omega⟩
 obtain ⟨m,hm,hm1⟩:∃ m:Nat,1 + fh ns 1 4=(m:Nat)∧(1 ≤ m∧m ≤ 4):=by
  have d1:=ge ns 1 (m:=4) (by decide);have d2:=ce ns 1 (m:=4) (by decide);exact ⟨(1 + fh ns 1 4).toNat,by omega,by omega⟩
 refine zS (fun σ' H'=>H'=H∧σ'=[some (.ref a),some (.int (z:Nat)),none,none,none,none,none,none,none,none,none,none,none,none,none,none,none,none,none,none,none]) (fun D' hD=>?_) fun zzM zzh=>?_
 ·(walk_at "RD"; repeat (simp only [kd];walk_at "RD"));rw [hz];exact ⟨S0,by omega,by omega,by decide,hD _ _ ⟨rfl,rfl⟩⟩
 rintro σ1 H1 ⟨rfl,rfl⟩;subst zzh;refine zS (fun σ' H'=>H'=H1∧σ'=[some (.ref a),some (.int (z:Nat)),some (.int (m:Nat)),none,none,none,none,none,none,none,none,none,none,none,none,none,none,none,none,none,none]) (fun D' hD=>?_) fun zzM zzh=>?_
 ·(walk_at "RD"; repeat (simp only [kd];walk_at "RD"));rw [hm];exact ⟨S0,by omega,by omega,by decide,hD _ _ ⟨rfl,rfl⟩⟩
 rintro σ2 H2 ⟨rfl,rfl⟩;subst zzh;refine zS (fun σ' H'=>Jb H2 H'∧Sc K a ns H'∧∃ lp,H2 lp=none∧H' lp=some (.lst [])∧σ'=[some (.ref a),some (.int (z:Nat)),some (.int (m:Nat)),some (.ref lp),none,none,none,none,none,none,none,none,none,none,none,none,none,none,none,none,none]) (fun D' hD=>?_) fun zzM zzh=>?_
 ·walk_at "RD";exact ⟨Nat.zero_le _,fun lp h=>hD _ _ ⟨lb h,S0.new h,lp,h,cb,rfl⟩⟩
 rintro σ3 H3 ⟨s3,S3,lp,hlp,w3,rfl⟩;subst zzh;refine zS (fun σ' H'=>Jb H2 H'∧Sc K a ns H'∧∃ sl,H2 sl=none∧LS t H' z lp sl [] [] [] []∧σ'=[some (.ref a),some (.int (z:Nat)),some (.int (m:Nat)),some (.ref lp),some (.ref sl),none,none,none,none,none,none,none,none,none,none,none,none,none,none,none,none]) (fun D' hD=>?_) fun zzM zzh=>?_
 ·walk_at "RD";refine ⟨Nat.zero_le _,fun sl h=>hD _ _ ⟨s3.trans (lb h),S3.new h,sl,s3.free h,⟨wb w3 h,(lb h) _ _ w3,cb,rfl,rfl,fun i q l z=>by simp at z,fun i q l z=>by simp at z⟩,rfl⟩⟩
 rintro σ4 H4 ⟨s4,S4,sl,hsl,L4,rfl⟩;subst zzh;simp only [zb];refine zzD (fun σ' H'=>Jb H2 H'∧Sc K a ns H'∧(∃ qs rs ls pss,LS t H' z lp sl qs rs ls pss∧ls.length=m∧pss.length=m∧oA z ls pss)∧∃ x5 x6 x7 x8 x9 x10 x11 x12 x13 x14 x15 x16 x17 x18 x19 x20,σ'=[some (.ref a),some (.int (z:Nat)),some (.int (m:Nat)),some (.ref lp),some (.ref sl),x5,x6,x7,x8,x9,x10,x11,x12,x13,x14,x15,x16,x17,x18,x19,x20]) (fun D' hD=>?_) ?_
 ·walk_at "RD";refine ⟨by omega,by omega,?_⟩;refine Eh.range (fun k σ H'=>Jb H2 H'∧Sc K a ns H'∧(∃ qs rs ls pss,LS t H' z lp sl qs rs ls pss∧ls.length=k∧pss.length=k∧oA z ls pss)∧∃ x5 x6 x7 x8 x9 x10 x11 x12 x13 x14 x15 x16 x17 x18 x19 x20,σ=[some (.ref a),some (.int (z:Nat)),some (.int (m:Nat)),some (.ref lp),some (.ref sl),x5,x6,x7,x8,x9,x10,x11,x12,x13,x14,x15,x16,x17,x18,x19,x20]) ⟨s4,S4,⟨[],[],[],[],L4,rfl,rfl,fun k l s h=>by simp at h⟩,by exact ⟨_,_,_,_,_,_,_,_,_,_,_,_,_,_,_,_,rfl⟩⟩ ?_ ?_
  ·rintro k σ H5 hk zzq;refine zP fun zzM zzh=>?_
   obtain ⟨s5,S5,⟨qs,rs,ls,pss,L5,hls,hps,hrel⟩,x5,x6,x7,x8,x9,x10,x11,x12,x13,x14,x15,x16,x17,x18,x19,x20,rfl⟩:=zzq;have hk4:k < 4:=by have:k < (m:Int).toNat:=hk;omega
   subst zzh;simp only [Rf,zb,List.set_cons_succ,List.set_cons_zero,Int.zero_add];obtain ⟨c,hc,hc1⟩:∃ c:Nat,2 + fh ns (6 + (k:Int)) 2=(c:Nat)∧(2 ≤ c∧c ≤ 3):=by
    have d1:=ge ns (6 + (k:Int)) (m:=2) (by decide);have d2:=ce ns (6 + (k:Int)) (m:=2) (by decide);exact ⟨(2 + fh ns (6 + (k:Int)) 2).toNat,by omega,by omega⟩
   refine zzC (fun σ' H'=>Jb H5 H'∧Sc K a ns H'∧∃ np xs,H' np=some (.lst (Kb xs))∧Nms c xs∧σ'=[some (.ref a),some (.int (z:Nat)),some (.int (m:Nat)),some (.ref lp),some (.ref sl),some (.int (k:Nat)),some (.ref np),x7,x8,x9,x10,x11,x12,x13,x14,x15,x16,x17,x18,x19,x20]) (fun D' hD=>?_) fun zzM zzh=>?_
   ·(walk_at "RD"; repeat (simp only [kd];walk_at "RD"));refine ⟨S5,by omega,by omega,by decide,?_⟩;rw [hc];exact ⟨c,rfl,S5,by omega,fun p xs H' s1 S1 _ e N=>hD _ _ ⟨s1,S1,p,xs,e,N,rfl⟩⟩
   rintro σ6 H6 ⟨s6,S6,np,xs,hnp,N,rfl⟩;have hxl:xs.length=c:=N.1;have N':Nms xs.length xs:=by rw [hxl];exact N
   subst zzh;simp only [zb];refine zzC (fun σ' H'=>Jb H6 H'∧Sc K a ns H'∧∃ wp,H6 wp=none∧H' wp=some (.lst [])∧σ'=[some (.ref a),some (.int (z:Nat)),some (.int (m:Nat)),some (.ref lp),some (.ref sl),some (.int (k:Nat)),some (.ref np),some (.ref wp),x8,x9,x10,x11,x12,x13,x14,x15,x16,x17,x18,x19,x20]) (fun D' hD=>?_) fun zzM zzh=>?_
   ·walk_at "RD";exact ⟨Nat.zero_le _,fun wp h=>hD _ _ ⟨lb h,S6.new h,wp,h,cb,rfl⟩⟩
   rintro σ7 H7 ⟨s7,S7,wp,hwp,w7,rfl⟩;subst zzh;simp only [zb];refine zzC (fun σ' H'=>Jb H6 H'∧Sc K a ns H'∧H' wp=some (.lst [])∧∃ rp,H6 rp=none∧wp ≠ rp∧H' rp=some (.lst (Kb [Str.join bk [S "round",num z]]))∧σ'=[some (.ref a),some (.int (z:Nat)),some (.int (m:Nat)),some (.ref lp),some (.ref sl),some (.int (k:Nat)),some (.ref np),some (.ref wp),some (.ref rp),x9,x10,x11,x12,x13,x14,x15,x16,x17,x18,x19,x20]) (fun D' hD=>?_) fun zzM zzh=>?_
   ·walk_at "RD";have hl:(Str.ofString (toString (z:Int))).length ≤ 3:=iE (by omega) (by omega);have h6:(Str.ofString "round ").length=6:=by decide +kernel
    refine ⟨Uq (by omega),Nat.le_trans (show _ ≤ 9 by omega) (by decide),by decide,fun rp h=>hD _ _ ⟨s7.trans (lb h),S7.new h,(lb h) _ _ w7,rp,s7.free h,wb w7 h,?_,rfl⟩⟩;rw [cb,gG];rfl
   rintro σ8 H8 ⟨s8,S8,w8,rp,hrp,hwr,r8,rfl⟩;subst zzh;simp only [zb];refine zzC (fun σ' H'=>Sc K a ns H'∧∃ op,Inn H' H6 z wp rp op [] []∧σ'=[some (.ref a),some (.int (z:Nat)),some (.int (m:Nat)),some (.ref lp),some (.ref sl),some (.int (k:Nat)),some (.ref np),some (.ref wp),some (.ref rp),some (.ref op),x10,x11,x12,x13,x14,x15,x16,x17,x18,x19,x20]) (fun D' hD=>?_) fun zzM zzh=>?_
   ·walk_at "RD";intro op hop;have sn:=lb (o:=.dK []) hop;exact hD _ _ ⟨S8.new hop,op,⟨⟨s8.trans sn,hwp,hrp,s8.free hop,sn _ _ w8,sn _ _ r8,cb,hwr⟩,rfl,fun i b e h=>by simp at h⟩,rfl⟩
   rintro σ9 H9 ⟨S9,op,I9,rfl⟩;subst zzh;simp only [zb];refine zzC (fun σ' H'=>Jb H6 H'∧Sc K a ns H'∧(∃ G es as,Jb H6 G∧es.length=c∧E70 z xs es∧Inn H' G z wp rp op es as)∧∃ x10 x11 x12 x13 x14 x15 x16 x17 x18 x19 x20,σ'=[some (.ref a),some (.int (z:Nat)),some (.int (m:Nat)),some (.ref lp),some (.ref sl),some (.int (k:Nat)),some (.ref np),some (.ref wp),some (.ref rp),some (.ref op),x10,x11,x12,x13,x14,x15,x16,x17,x18,x19,x20]) (fun D' hD=>?_) fun zzM zzh=>?_
   ·walk_at "RD";refine ⟨_,.inl (SqL.of (I9.g.sg _ _ hnp)),?_⟩;rw [ff,hxl];refine ⟨by omega,by omega,?_⟩;refine Eh.range (fun n σ H'=>Jb H6 H'∧Sc K a ns H'∧(∃ G es as,Jb H6 G∧es.length=n∧E70 z xs es∧Inn H' G z wp rp op es as)∧∃ x10 x11 x12 x13 x14 x15 x16 x17 x18 x19 x20,σ=[some (.ref a),some (.int (z:Nat)),some (.int (m:Nat)),some (.ref lp),some (.ref sl),some (.int (k:Nat)),some (.ref np),some (.ref wp),some (.ref rp),some (.ref op),x10,x11,x12,x13,x14,x15,x16,x17,x18,x19,x20]) ⟨I9.g.sg,S9,⟨H6,[],[],Jb.refl _,rfl,E70.nil z xs,I9⟩,by exact ⟨_,_,_,_,_,_,_,_,_,_,_,rfl⟩⟩ ?_ ?_
    ·rintro n σ HA hn zzq;refine zP fun zzM zzh=>?_
     obtain ⟨sA,SA,⟨G,es,as,sG,hel,E,IA⟩,x10,x11,x12,x13,x14,x15,x16,x17,x18,x19,x20,rfl⟩:=zzq;have hnc:n < c:=by have:n < (c:Int).toNat:=hn;omega
     have hx:xs[n]? = some (xs[n]'(by omega)):=List.getElem?_eq_getElem _;subst zzh;generalize xs[n]'(by omega)=x at hx;have hxn:made x Vg 8=true:=N.2.2 x (List.mem_of_getElem? hx);have hxp:=Dn hxn;have hnw:np ≠ wp:=wb (sG _ _ hnp) IA.g.gw;have hnr:np ≠ rp:=wb (sG _ _ hnp) IA.g.gr;have hno:np ≠ op:=wb (sG _ _ hnp) IA.g.go;have hal:as.length=(dsE es).length:=by rw [IA.l,io]
     have hasl:as.length ≤ 3:=by rw [IA.l];omega
     obtain ⟨ky,hky,hk3⟩:∃ ky:Nat,fh ns (200 + 20 * (k:Int) + 5 * (n:Int)) 3=(ky:Nat)∧ky < 3:=by
      have d1:=ge ns (200 + 20 * (k:Int) + 5 * (n:Int)) (m:=3) (by decide);have d2:=ce ns (200 + 20 * (k:Int) + 5 * (n:Int)) (m:=3) (by decide);exact ⟨(fh ns (200 + 20 * (k:Int) + 5 * (n:Int)) 3).toNat,by omega,by omega⟩
     have hnd:((dsE es ++ [wK ky n x]).map (·.name)).Nodup:=E.nd1 N.2.1 (by rw [hel];exact hx);simp only [Rf,zb,List.set_cons_succ,List.set_cons_zero,Int.zero_add];refine zzC (fun σ' H'=>Jb HA H'∧Sc K a ns H'∧σ'=[some (.ref a),some (.int (z:Nat)),some (.int (m:Nat)),some (.ref lp),some (.ref sl),some (.int (k:Nat)),some (.ref np),some (.ref wp),some (.ref rp),some (.ref op),some (.int (n:Nat)),some (.str (Pd ky)),x12,x13,x14,x15,x16,x17,x18,x19,x20]) (fun D' hD=>?_) fun zzM zzh=>?_
     ·(walk_at "RD"; repeat (simp only [kd];walk_at "RD"));refine ⟨by decide,fun p hp=>⟨.inl ⟨by decide,by decide⟩,.inl ⟨by decide,by decide⟩,SA.new hp,by omega,by omega,by decide,_,SqL.of cb,_,?_,hD _ _ ⟨lb hp,SA.new hp,rfl⟩⟩⟩;have:=NH (i:=(ky:Int)) (by omega) (by omega);rw [Int.toNat_natCast] at this;rw [hky];exact this
     rintro σB HB ⟨sB,SB,rfl⟩;have IB:=IA.g.same sB;have hnB:HB np=some (.lst (Kb xs)):=sB _ _ (sA _ _ hnp);subst zzh;simp only [zb];refine zzC (fun σ' H'=>Sc K a ns H'∧H' np=some (.lst (Kb xs))∧Yo H' G wp rp op ((dsE (es ++ [(wK ky n x,[])])).map fun d=>Str.join bk (Hf d)) ((Nf z (spE es)).map (Str.join bk)) (nkv (dsE es) as)∧σ'=[some (.ref a),some (.int (z:Nat)),some (.int (m:Nat)),some (.ref lp),some (.ref sl),some (.int (k:Nat)),some (.ref np),some (.ref wp),some (.ref rp),some (.ref op),some (.int (n:Nat)),some (.str (Pd ky)),x12,x13,x14,x15,x16,x17,x18,x19,x20]) (fun D' hD=>?_) fun zzM zzh=>?_
     ·walk_at "RD";refine ⟨.inl ⟨_,SqL.of IB.w⟩,_,SqL.of hnB,_,Ac (Oh hx),.inl ⟨by decide,by decide⟩,Uq (by omega),.inl ⟨by decide,by decide⟩,Uq (by omega),by decide,fun p hp=>?_⟩;have sn:=lb (o:=.lst [V.str (Pd ky),V.str x,V.str (num (3 * (n:Int))),V.str (num (3 * (n:Int) + 1)),V.str (Str.ofString "0 0 1")]) hp;have l1:=(Nt ky).1;have l2:=hxp.1;have l3:=(Vd (v:=3 * (n:Int)) (by omega) (by omega)).1;have l4:=(Vd (v:=3 * (n:Int) + 1) (by omega) (by omega)).1;have l5:(Str.ofString "0 0 1").length=5:=by decide +kernel
      have l6:(Str.ofString " ").length=1:=by decide +kernel
      refine ⟨[Pd ky,x,num (3 * (n:Int)),num (3 * (n:Int) + 1),Str.ofString "0 0 1"],SqL.of cb,?_,_,sn _ _ IB.w,Nat.lt_of_le_of_lt (show (Kb ((dsE es).map fun d=>Str.join bk (Hf d))).length ≤ 3 by rw [ff,List.length_map,io];omega) (by decide),?_⟩
      ·simp only [List.map_cons,List.map_nil,List.sum_cons,List.sum_nil,List.length_cons,List.length_nil];omega
      ·rw [wm,show Str.join (Str.ofString " ") [Pd ky,x,num (3 * (n:Int)),num (3 * (n:Int) + 1),Str.ofString "0 0 1"]=Str.join bk (Hf (wK ky n x)) from HL ky n x];have:=(IB.same sn).putW (Str.join bk (Hf (wK ky n x)));refine hD _ _ ⟨(SB.new hp).set (sn _ _ IB.w) (fun _ _ z=>by cases z),by rw [ub hnw];exact sn _ _ hnB,?_,rfl⟩;rw [yk,List.map_append];exact this
     rintro σC HC ⟨SC,hnC,IC,rfl⟩;obtain ⟨mo,hmo⟩:∃ mo:Int,mo=(if ky=1 then (z:Int) else (z:Int) - 3):=⟨_,rfl⟩;subst zzh;simp only [zb];refine zzC (fun σ' H'=>H'=HC∧σ'=[some (.ref a),some (.int (z:Nat)),some (.int (m:Nat)),some (.ref lp),some (.ref sl),some (.int (k:Nat)),some (.ref np),some (.ref wp),some (.ref rp),some (.ref op),some (.int (n:Nat)),some (.str (Pd ky)),some (.int mo),x13,x14,x15,x16,x17,x18,x19,x20]) (fun D' hD=>?_) fun zzM zzh=>?_
     ·walk_at "RD";rw [jw hk3];by_cases h1:ky=1
      ·rw [if_pos (decide_eq_true h1)];exact hD _ _ ⟨rfl,by rw [hmo,if_pos h1]⟩
      ·rw [if_neg (by simpa using h1)];exact hD _ _ ⟨rfl,by rw [hmo,if_neg h1]⟩
     rintro σD HD ⟨rfl,rfl⟩;obtain ⟨L,hL,hL1⟩:∃ L:Int,1 + fh ns (201 + 20 * (k:Int) + 5 * (n:Int)) mo=L∧(1 ≤ L∧L ≤ mo):=by
      have d1:=ge ns (201 + 20 * (k:Int) + 5 * (n:Int)) (m:=mo) (by rw [hmo];split <;> omega);have d2:=ce ns (201 + 20 * (k:Int) + 5 * (n:Int)) (m:=mo) (by rw [hmo];split <;> omega);exact ⟨_,rfl,by omega,by omega⟩
     subst zzh;simp only [zb];refine zzC (fun σ' H'=>H'=HD∧σ'=[some (.ref a),some (.int (z:Nat)),some (.int (m:Nat)),some (.ref lp),some (.ref sl),some (.int (k:Nat)),some (.ref np),some (.ref wp),some (.ref rp),some (.ref op),some (.int (n:Nat)),some (.str (Pd ky)),some (.int mo),some (.int L),x14,x15,x16,x17,x18,x19,x20]) (fun D' hD=>?_) fun zzM zzh=>?_
     ·(walk_at "RD"; repeat (simp only [kd];walk_at "RD"));exact ⟨.inl ⟨by decide,by decide⟩,.inl ⟨by decide,by decide⟩,SC,by omega,by omega,by omega,hD _ _ ⟨rfl,by rw [hL]⟩⟩
     rintro σE HE ⟨rfl,rfl⟩;obtain ⟨b,hb,hb1⟩:∃ b:Int,fh ns (202 + 20 * (k:Int) + 5 * (n:Int)) z=b∧(0 ≤ b∧b < z):=by
      have d1:=ge ns (202 + 20 * (k:Int) + 5 * (n:Int)) (m:=z) (by omega);have d2:=ce ns (202 + 20 * (k:Int) + 5 * (n:Int)) (m:=z) (by omega);exact ⟨_,rfl,by omega,by omega⟩
     subst zzh;simp only [zb];refine zzC (fun σ' H'=>H'=HE∧σ'=[some (.ref a),some (.int (z:Nat)),some (.int (m:Nat)),some (.ref lp),some (.ref sl),some (.int (k:Nat)),some (.ref np),some (.ref wp),some (.ref rp),some (.ref op),some (.int (n:Nat)),some (.str (Pd ky)),some (.int mo),some (.int L),some (.int b),x15,x16,x17,x18,x19,x20]) (fun D' hD=>?_) fun zzM zzh=>?_
     ·(walk_at "RD"; repeat (simp only [kd];walk_at "RD"));exact ⟨.inl ⟨by decide,by decide⟩,.inl ⟨by decide,by decide⟩,SC,by omega,by omega,by omega,hD _ _ ⟨rfl,by rw [hb]⟩⟩
     rintro σF HF ⟨rfl,rfl⟩;subst zzh;simp only [zb];refine zzC (fun σ' H'=>Sc K a ns H'∧H' np=some (.lst (Kb xs))∧(∃ p1 p2,(G p1=none∧G p2=none∧p1 ≠ p2)∧(p1 ≠ wp∧p1 ≠ rp∧p1 ≠ op)∧(p2 ≠ wp∧p2 ≠ rp∧p2 ≠ op)∧H' p1=some (.tup [.int b,.int L])∧H' p2=some (.lst [.ref p1])∧Yo H' G wp rp op ((dsE (es ++ [(wK ky n x,[])])).map fun d=>Str.join bk (Hf d)) ((Nf z (spE es)).map (Str.join bk)) (nkv (dsE (es ++ [(wK ky n x,[])])) (as ++ [p2])))∧σ'=[some (.ref a),some (.int (z:Nat)),some (.int (m:Nat)),some (.ref lp),some (.ref sl),some (.int (k:Nat)),some (.ref np),some (.ref wp),some (.ref rp),some (.ref op),some (.int (n:Nat)),some (.str (Pd ky)),some (.int mo),some (.int L),some (.int b),x15,x16,x17,x18,x19,x20]) (fun D' hD=>?_) fun zzM zzh=>?_
     ·walk_at "RD";refine ⟨by decide,fun p1 hp1=>⟨by decide,fun p2 hp2=>?_⟩⟩;have sn1:=lb (o:=.tup [.int b,.int L]) hp1;have sn2:=lb (o:=.lst [.ref p1]) hp2;have sn:=sn1.trans sn2;have I2:=IC.same sn;have q1:p1 ≠ p2:=fun z=>by subst z;rw [cb] at hp2;cases hp2
      refine ⟨_,SqL.of (sn _ _ hnC),_,Ac (Oh hx),_,mB.k (k:=Sum.inr x) I2.o (Nat.lt_of_le_of_lt (show (nkv (dsE es) as).length ≤ 12 by unfold nkv;rw [List.length_map,List.length_zip,io];omega) (by decide)),?_⟩;have ek:Hv (nkv (dsE es) as) (Sum.inr x) (.ref p2)=nkv (dsE (es ++ [(wK ky n x,[])])) (as ++ [p2]):=by
       have hal:as.length=(dsE es).length:=by rw [IA.l,io]
       rw [yk,← BE hal (wK ky n x)];exact Iu (d:=wK ky n x) (E.nd1 N.2.1 (by rw [hel];exact hx)) (by rw [hal,List.getElem?_append_right (Nat.le_refl _),Nat.sub_self];rfl)
      rw [ek];refine hD _ _ ⟨((SC.new hp1).new hp2).set I2.o (fun _ _ z=>by cases z),by rw [ub hno];exact sn _ _ hnC,⟨p1,p2,⟨IC.sg.free hp1,IC.sg.free (sn1.free hp2),q1⟩,⟨(wb IC.w hp1).symm,(wb IC.r hp1).symm,(wb IC.o hp1).symm⟩,⟨(wb (sn1 _ _ IC.w) hp2).symm,(wb (sn1 _ _ IC.r) hp2).symm,(wb (sn1 _ _ IC.o) hp2).symm⟩,?_,?_,I2.putO _⟩,rfl⟩
      ·rw [ub (wb IC.o hp1).symm,ub q1,cb]
      ·rw [ub (wb (sn1 _ _ IC.o) hp2).symm,cb]
     rintro σG HG ⟨SG,hnG,⟨p1,p2,⟨gp1,gp2,p12⟩,np1,np2,e1,e2,IG⟩,rfl⟩;subst zzh;simp only [zb];refine zzC (fun σ' H'=>Sc K a ns H'∧H' np=some (.lst (Kb xs))∧(∃ G1 ps,Jb G G1∧LO G1 p2 (ps.map prO)∧Ow z (wK ky n x) ps∧Yo H' G1 wp rp op ((dsE (es ++ [(wK ky n x,[])])).map fun d=>Str.join bk (Hf d)) ((Nf z (spE es)).map (Str.join bk)) (nkv (dsE (es ++ [(wK ky n x,[])])) (as ++ [p2])))∧∃ x14 x15 x16,σ'=[some (.ref a),some (.int (z:Nat)),some (.int (m:Nat)),some (.ref lp),some (.ref sl),some (.int (k:Nat)),some (.ref np),some (.ref wp),some (.ref rp),some (.ref op),some (.int (n:Nat)),some (.str (Pd ky)),some (.int mo),some (.int L),x14,x15,x16,x17,x18,x19,x20]) (fun D' hD=>?_) fun zzM zzh=>?_
     ·have hfr:Wd (wK ky n x) + Ec (wK ky n x)=if ky=1 then 0 else 3:=YD ky n x hk3;refine Dc (decide (ky=1) && decide (L < z)) (fun Q hQ=>?_) (fun cc=>?_) (fun cc=>?_)
      ·walk_at "RD";rw [jw hk3];by_cases h1:ky=1
       ·rw [if_pos (decide_eq_true h1)];rw [decide_eq_true h1,Bool.true_and] at hQ;exact hQ
       ·rw [if_neg (by simpa using h1)];rw [decide_eq_false h1,Bool.false_and] at hQ;exact hQ
      ·rw [Bool.and_eq_true,decide_eq_true_eq,decide_eq_true_eq] at cc;obtain ⟨M,hM,hM1⟩:∃ M:Int,1 + fh ns (203 + 20 * (k:Int) + 5 * (n:Int)) ((z:Int) - L)=M∧(1 ≤ M∧M ≤ (z:Int) - L):=by
        have d1:=ge ns (203 + 20 * (k:Int) + 5 * (n:Int)) (m:=(z:Int) - L) (by omega);have d2:=ce ns (203 + 20 * (k:Int) + 5 * (n:Int)) (m:=(z:Int) - L) (by omega);exact ⟨_,rfl,by omega,by omega⟩
       obtain ⟨la,hla⟩:∃ la:Int,(b + z - M) % (z:Int)=la:=⟨_,rfl⟩;have ela:(b + L + z - L - M) % (z:Int)=la:=by rw [← hla];congr 1;omega
       have hk2:ky=1:=cc.1;(walk_at "RD"; repeat (simp only [kd];walk_at "RD"));refine ⟨.inl ⟨by decide,by decide⟩,.inl ⟨by decide,by decide⟩,SG,by omega,by omega,by omega,?_⟩;rw [hM,ela];have og:Oo HG op (.str x) (some (.ref p2)):=zC (d:=wK ky n x) (by have:=IG.o;rwa [yk] at this) hnd hal;refine ⟨by omega,_,SqL.of hnG,_,Ac (Oh hx),_,og,.inl ⟨_,SqL.of e2⟩,by decide,fun p3 hp3=>?_⟩;have sn:=lb (o:=.tup [.int la,.int M]) hp3;have q23:p2 ≠ p3:=wb e2 hp3;have q13:p1 ≠ p3:=wb e1 hp3;have k1:p2 ≠ np:=ue e2 hnG (fun z=>by
        injection z with z;cases xs with
        | nil=>cases z
        | cons y r=>injection z with z _;cases z)
       have gp3:G p3=none:=IG.sg.free hp3;refine ⟨p2,rfl,_,sn _ _ e2,by show 1 < sizeLine;decide,hD _ _ ⟨(SG.new hp3).set (sn _ _ e2) (fun _ _ z=>by cases z),by rw [ub k1.symm];exact sn _ _ hnG,⟨upd (upd (upd G p1 (.tup [.int b,.int L])) p3 (.tup [.int la,.int M])) p2 (.lst [.ref p1,.ref p3]),[(b,L),(la,M)],?_,⟨[p1,p3],cb,(LQ.one (o:=prO (b,L)) (by rw [ub p12,ub q13,cb];rfl)).app (LQ.one (o:=prO (la,M)) (by rw [ub q23.symm,cb];rfl))⟩,?_,?_⟩,_,_,_,rfl⟩⟩
       ·exact ((lb gp1).trans (lb (by rw [ub q13.symm];exact gp3))).trans (lb (by rw [ub q23,ub p12.symm];exact gp2))
       ·rw [← hla];exact Ow.two (by subst hk2;exact ⟨rfl,rfl⟩) hb1 ⟨hL1.1,cc.2⟩ hM1
       ·have w3:=(wb IG.w hp3);have r3:=(wb IG.r hp3);have o3:=(wb IG.o hp3);refine ⟨fun u v e=>?_,by rw [ub np2.1.symm,ub w3,ub np1.1.symm];exact IG.gw,by rw [ub np2.2.1.symm,ub r3,ub np1.2.1.symm];exact IG.gr,by rw [ub np2.2.2.symm,ub o3,ub np1.2.2.symm];exact IG.go,by rw [ub np2.1.symm];exact sn _ _ IG.w,by rw [ub np2.2.1.symm];exact sn _ _ IG.r,by rw [ub np2.2.2.symm];exact sn _ _ IG.o,IG.ne⟩;by_cases c2:u=p2
        ·subst c2;rw [cb] at e;rw [cb];exact e
        ·rw [ub c2] at e;rw [ub c2];by_cases c3:u=p3
         ·subst c3;rw [cb] at e;rw [cb];exact e
         ·rw [ub c3] at e;rw [ub c3];by_cases c1:u=p1
          ·subst c1;rw [cb] at e;rw [e1];exact e
          ·rw [ub c1] at e;exact IG.sg _ _ e
      ·walk_at "RD";refine hD _ _ ⟨SG,hnG,⟨upd (upd G p1 (.tup [.int b,.int L])) p2 (.lst [.ref p1]),[(b,L)],?_,⟨[p1],cb,LQ.one (by rw [ub p12,cb];rfl)⟩,Ow.one hb1 ?_,?_⟩,_,_,_,rfl⟩
       ·exact (lb gp1).trans (lb (by rw [ub p12.symm];exact gp2))
       ·rw [show L + Wd (wK ky n x) + Ec (wK ky n x)=L + (if ky=1 then 0 else 3) by rw [← hfr];omega];refine ⟨hL1.1,?_⟩;have:=hL1.2;rw [hmo] at this;split at this <;> simp_all <;> omega
       ·exact IG.grow (fun u v e=>by
         by_cases c2:u=p2
         ·subst c2;rw [cb] at e;rw [e2];exact e
         ·rw [ub c2] at e;by_cases c1:u=p1
          ·subst c1;rw [cb] at e;rw [e1];exact e
          ·rw [ub c1] at e;exact IG.sg _ _ e) (by rw [ub np2.1.symm,ub np1.1.symm];exact IG.gw) (by rw [ub np2.2.1.symm,ub np1.2.1.symm];exact IG.gr) (by rw [ub np2.2.2.symm,ub np1.2.2.symm];exact IG.go)
     rintro σH HH ⟨SH,hnH,⟨G1,ps,sG1,LO1,hOw,IH⟩,x14,x15,x16,rfl⟩;obtain ⟨os,o1,oq⟩:=id LO1;have hol:os.length=ps.length:=by rw [oq.1,List.length_map]
     have hpl:=hOw.ln;have og:Oo HH op (.str x) (some (.ref p2)):=zC (d:=wK ky n x) (by have:=IH.o;rwa [yk] at this) hnd hal;subst zzh;walk_at "RD";refine ⟨_,SqL.of hnH,_,Ac (Oh hx),_,og,p2,rfl,⟨_,SqL.of (IH.sg _ _ o1)⟩,?_⟩;refine Eh.list (xs:=os.map V.ref) (fun j σ H'=>Sc K a ns H'∧H' np=some (.lst (Kb xs))∧Yo H' G1 wp rp op ((dsE (es ++ [(wK ky n x,[])])).map fun d=>Str.join bk (Hf d)) ((Nf z (spE es ++ (ps.take j).map fun p=>⟨x,p.1,p.2⟩)).map (Str.join bk)) (nkv (dsE (es ++ [(wK ky n x,[])])) (as ++ [p2]))∧∃ x17,σ=[some (.ref a),some (.int (z:Nat)),some (.int (m:Nat)),some (.ref lp),some (.ref sl),some (.int (k:Nat)),some (.ref np),some (.ref wp),some (.ref rp),some (.ref op),some (.int (n:Nat)),some (.str (Pd ky)),some (.int mo),some (.int L),x14,x15,x16,x17,x18,x19,x20]) ?_ ?_ ?_ ?_
     ·refine ⟨SH,hnH,?_,_,rfl⟩;rw [List.take_zero,List.map_nil,List.append_nil];exact IH
     ·rintro j σ H' hj zzq;refine zP fun zzM zzh=>?_
      obtain ⟨_,_,I',_⟩:=zzq;subst zzh;exact SqL.of (I'.sg _ _ o1)
     ·rintro j v σ H' hv zzq;refine zP fun zzM zzh=>?_
      obtain ⟨S',hn',I',x17,rfl⟩:=zzq;obtain ⟨qj,hqj,rfl⟩:=ic hv;obtain ⟨o,ho,e⟩:=oq.at hqj;obtain ⟨pr,hpr,rfl⟩:=ic ho;have e':=I'.sg _ _ e;have hin:=hOw.al pr (List.mem_of_getElem? hpr);have f0:=YD ky n x hk3;have f1:0 ≤ Wd (wK ky n x) + Ec (wK ky n x):=by rw [f0];split <;> omega
      subst zzh;walk_at "RD";refine ⟨.inl ⟨_,SqL.of I'.r⟩,_,SqL.of hn',_,Ac (Oh hx),_,SqT.of e',_,rfl,_,rfl,Uq (by omega),_,SqT.of e',_,rfl,_,rfl,Uq (by omega),by decide,fun p hp=>?_⟩;have sn:=lb (o:=.lst [V.str (Str.ofString "free"),V.str x,V.str (num pr.1),V.str (num pr.2)]) hp;have l1:(Str.ofString "free").length=4:=by decide +kernel
      have l2:=hxp.1;have l3:=(Vd (v:=pr.1) (by omega) (by omega)).1;have l4:=(Vd (v:=pr.2) (by omega) (by omega)).1;have l6:(Str.ofString " ").length=1:=by decide +kernel
      have lsp:=xx (es:=es) fun e he=>(E.ow he).2.2.2.ln.2
      refine ⟨[Str.ofString "free",x,num pr.1,num pr.2],SqL.of cb,?_,_,sn _ _ I'.r,Nat.lt_of_le_of_lt (show (Kb ((Nf z (spE es ++ (ps.take j).map fun p=>⟨x,p.1,p.2⟩)).map (Str.join bk))).length ≤ 20 by rw [ff,List.length_map];unfold Nf;rw [List.length_cons,List.length_map,List.length_append,List.length_map,List.length_take];omega) (by decide),(S'.new hp).set (sn _ _ I'.r) (fun _ _ z=>by cases z),by rw [ub hnr];exact sn _ _ hn',?_⟩
      ·simp only [List.map_cons,List.map_nil,List.sum_cons,List.sum_nil,List.length_cons,List.length_nil];omega
      ·rw [wm];have:=(I'.same sn).putR (Str.join bk (Al ⟨x,pr.1,pr.2⟩));have er:(Nf z (spE es ++ (ps.take j).map fun p=>(⟨x,p.1,p.2⟩:SD))).map (Str.join bk) ++ [Str.join bk (Al ⟨x,pr.1,pr.2⟩)]=(Nf z (spE es ++ (ps.take (j + 1)).map fun p=>(⟨x,p.1,p.2⟩:SD))).map (Str.join bk):=by
        rw [df hpr,List.map_append,← List.append_assoc];show _=(Nf z (spE es ++ (ps.take j).map (fun p=>(⟨x,p.1,p.2⟩:SD)) ++ [⟨x,pr.1,pr.2⟩])).map (Str.join bk);rw [DA,List.map_append (l₁:=Nf z _)];rfl
       rw [er] at this;refine ⟨this,?_⟩
       repeat (first | exact ⟨_,rfl⟩ | refine ⟨⟨_,rfl⟩,?_⟩ | refine ⟨rfl,?_⟩)
     ·rintro σ H' zzq;refine zP fun zzM zzh=>?_
      obtain ⟨S',hn',I',x17,rfl⟩:=zzq;subst zzh;rw [List.length_map,hol,List.take_length] at I';have E':=E.snoc hk3 (by rw [hel];exact hx) (ps:=ps) (by rw [hel];exact hOw);rw [hel] at E';refine ⟨(sG.trans sG1).trans I'.sg,S',⟨G1,sG.trans sG1,es ++ [(wK ky n x,ps)],by rw [List.length_append,hel];rfl,E',as ++ [p2],⟨?_,by rw [List.length_append,List.length_append,IA.l];rfl,fun i b e hi he=>?_⟩⟩,by exact ⟨_,_,_,_,_,_,_,_,_,_,_,rfl⟩⟩
      ·rw [yk] at I';rw [yk,AG];exact I'
      ·rcases se hi with ⟨_,hi⟩ | ⟨hi,rfl⟩
       ·rcases se he with ⟨_,he⟩ | ⟨he,_⟩
        ·exact (IA.a i b e hi he).same sG1
        ·have:=(List.getElem?_eq_some_iff.mp hi).1;have:=IA.l;omega
       ·rcases se he with ⟨he,_⟩ | ⟨_,rfl⟩
        ·have:=IA.l;omega
        ·exact LO1
    ·rintro σ H' zzq;refine zP fun zzM zzh=>?_
     obtain ⟨sx,S',⟨G,es,as,g1,g2,g3,g4⟩,x10,x11,x12,x13,x14,x15,x16,x17,x18,x19,x20,rfl⟩:=zzq;subst zzh;exact hD _ _ ⟨sx,S',⟨G,es,as,g1,by rw [g2];omega,g3,g4⟩,by exact ⟨_,_,_,_,_,_,_,_,_,_,_,rfl⟩⟩
   rintro σ10 H10 ⟨s10,S10,⟨G,es,as,sG,hel,E,I10⟩,x10,x11,x12,x13,x14,x15,x16,x17,x18,x19,x20,rfl⟩;have hes:es ≠ []:=fun z=>by rw [z] at hel;simp at hel;omega
   have hds:dsE es ≠ []:=fun z=>hes (by unfold dsE at z;simpa using z)
   have hC:=E.cok N' (by omega) (by omega);have hnG:G np=some (.lst (Kb xs)):=sG _ _ hnp;have L10:=(L5.same s6).same (sG.trans I10.g.sg);subst zzh;simp only [zb];refine zzD (fun σ' H'=>Jb H10 H'∧Sc K a ns H'∧∃ cr,Rc t H' cr 12 (dsE es)∧σ'=[some (.ref a),some (.int (z:Nat)),some (.int (m:Nat)),some (.ref lp),some (.ref sl),some (.int (k:Nat)),some (.ref np),some (.ref wp),some (.ref rp),some (.ref op),x10,x11,x12,x13,x14,x15,x16,x17,some (.ref cr),x19,x20]) (fun D' hD=>?_) ?_
   ·walk_at "RD";have lc:=mw hC;have lr:(Str.ofString "ring 12
").length=8:=by decide +kernel
    rw [← Ez hds,Yn] at lc;have ls:=Au nl ((dsE es).map fun d=>Str.join bk (Hf d));have l1:(Str.ofString "
").length=1:=by decide +kernel
    refine ⟨_,SqL.of I10.g.w,?_,?_,12,dsE es,?_,hC,S10.nt,fun cr H' s' n' C=>hD _ _ ⟨s',S10.same s' n',cr,C,rfl⟩⟩
    ·rw [List.length_map,io,l1];omega
    ·rw [wm];exact Nat.le_trans (show _ ≤ 1000 from lc) (by decide)
    ·rw [wm,← Ez hds]
   rintro σ11 H11 zzq;refine zP fun zzM zzh=>?_
   obtain ⟨s11,S11,cr,C11,rfl⟩:=zzq;have I11:=I10.g.same s11;obtain ⟨jf,hjf,hjf1⟩:∃ jf:Nat,fh ns (30 + (k:Int)) c=(jf:Nat)∧jf < c:=by
    have d1:=ge ns (30 + (k:Int)) (m:=c) (by omega);have d2:=ce ns (30 + (k:Int)) (m:=c) (by omega);exact ⟨(fh ns (30 + (k:Int)) c).toNat,by omega,by omega⟩
   obtain ⟨jb,hjb,hjb1⟩:∃ jb:Nat,fh ns (40 + (k:Int)) c=(jb:Nat)∧jb < c:=by
    have d1:=ge ns (40 + (k:Int)) (m:=c) (by omega);have d2:=ce ns (40 + (k:Int)) (m:=c) (by omega);exact ⟨(fh ns (40 + (k:Int)) c).toNat,by omega,by omega⟩
   obtain ⟨ef,hef⟩:∃ ef,es[jf]? = some ef:=⟨es[jf]'(by omega),List.getElem?_eq_getElem _⟩;obtain ⟨eb,heb⟩:∃ eb,es[jb]? = some eb:=⟨es[jb]'(by omega),List.getElem?_eq_getElem _⟩;have hxf:=E.nm hef;have hxb:=E.nm heb;subst zzh;simp only [zb];refine zzC (fun σ' H'=>H'=H11∧σ'=[some (.ref a),some (.int (z:Nat)),some (.int (m:Nat)),some (.ref lp),some (.ref sl),some (.int (k:Nat)),some (.ref np),some (.ref wp),some (.ref rp),some (.ref op),x10,x11,x12,x13,x14,x15,x16,x17,some (.ref cr),some (.str ef.1.name),x20]) (fun D' hD=>?_) fun zzM zzh=>?_
   ·(walk_at "RD"; repeat (simp only [kd];walk_at "RD"));have hn:=I11.sg _ _ hnG;refine ⟨_,.inl (SqL.of hn),S11,by omega,by omega,by rw [ff];omega,_,SqL.of hn,_,?_,hD _ _ ⟨rfl,rfl⟩⟩;rw [ff,hxl,hjf];exact Ac (Oh hxf)
   rintro σ12 H12 ⟨rfl,rfl⟩;subst zzh;simp only [zb];refine zzC (fun σ' H'=>H'=H12∧σ'=[some (.ref a),some (.int (z:Nat)),some (.int (m:Nat)),some (.ref lp),some (.ref sl),some (.int (k:Nat)),some (.ref np),some (.ref wp),some (.ref rp),some (.ref op),x10,x11,x12,x13,x14,x15,x16,x17,some (.ref cr),some (.str ef.1.name),some (.str eb.1.name)]) (fun D' hD=>?_) fun zzM zzh=>?_
   ·(walk_at "RD"; repeat (simp only [kd];walk_at "RD"));have hn:=I11.sg _ _ hnG;refine ⟨_,.inl (SqL.of hn),S11,by omega,by omega,by rw [ff];omega,_,SqL.of hn,_,?_,hD _ _ ⟨rfl,rfl⟩⟩;rw [ff,hxl,hjb];exact Ac (Oh hxb)
   rintro σ13 H13 ⟨rfl,rfl⟩;subst zzh;simp only [zb];refine zzD (fun σ' H'=>Jb H2 H'∧Sc K a ns H'∧H' op=some (.dK (nkv (dsE es) as))∧(∀ (i:Nat) (b:Addr) (e:WE),as[i]? = some b→es[i]? = some e→LO H' b (e.2.map prO))∧(∃ q pl,LS t H' z lp sl (qs ++ [q]) rs (ls ++ [⟨pl,cr,12,dsE es,spE es,ef.1,eb.1⟩]) pss)∧σ'=[some (.ref a),some (.int (z:Nat)),some (.int (m:Nat)),some (.ref lp),some (.ref sl),some (.int (k:Nat)),some (.ref np),some (.ref wp),some (.ref rp),some (.ref op),x10,x11,x12,x13,x14,x15,x16,x17,some (.ref cr),some (.str ef.1.name),some (.str eb.1.name)]) (fun D' hD=>?_) ?_
   ·walk_at "RD";have L13:=L10.same s11;have hG:=E.good N' (by omega);obtain ⟨_,lt,_⟩:=Dt (z:=z) (by omega) hG;have ls:=Au nl ((Nf z (spE es)).map (Str.join bk));have lt:(Str.join nl ((Nf z (spE es)).map (Str.join bk))).length ≤ 20000:=lt;have l1:(Str.ofString "
").length=1:=by decide +kernel
    have lp:=hG.ln;refine ⟨.inl ⟨_,SqL.of L13.e1⟩,_,SqL.of I11.r,?_,cr,12,dsE es,z,spE es,by rw [wm];rfl,C11,by decide,fun d hd=>?_,by omega,hG,S11.nt,E.never,E.short N.2.1,E.clash (by omega),fun pl H' s' n' PA=>⟨by decide,fun q hq=>?_⟩⟩
    ·rw [l1,List.length_map];unfold Nf;rw [List.length_cons,List.length_map];unfold Nf at ls lt;omega
    ·obtain ⟨e,he,rfl⟩:=List.mem_map.mp hd;have:=(E.ow he).2.1;omega
    have sn:=lb (o:=.tup [.ref pl,.str ef.1.name,.str eb.1.name]) hq;have Lq:=(L13.same s').same sn;have sl1:=Lq.ql;have Sq:=(S11.same s' n').new hq (o:=.tup [.ref pl,.str ef.1.name,.str eb.1.name]);have onl:=Lq.rt1.no (sn _ _ (s' _ _ I11.o)) (by intro xs z;cases z);refine ⟨_,Lq.e1,Nat.lt_of_le_of_lt (show (qs.map V.ref).length ≤ 4 by rw [List.length_map];omega) (by decide),hD _ _ ⟨(((((s5.trans s6).trans (sG.trans I10.g.sg)).trans s11).trans s').trans sn).updN hlp,Sq.set Lq.e1 (fun _ _ z=>by cases z),by rw [ub onl];exact sn _ _ (s' _ _ I11.o),fun i b e hi he=>?_,⟨q,pl,Lq.pushL (by omega) cb ⟨⟨PA.same sn,List.mem_map.mpr ⟨ef,List.mem_of_getElem? hef,rfl⟩,List.mem_map.mpr ⟨eb,List.mem_of_getElem? heb,rfl⟩⟩,hds,?_⟩⟩,rfl⟩⟩
    ·have hn:e.2 ≠ []:=fun z=>by have:=(E.ow (List.mem_of_getElem? he)).2.2.2.ln;rw [z] at this;simp at this
     exact ((((I10.a i b e hi he).same I11.sg).same s').same sn).rt Lq.rt1 hn (fun x u r z=>by cases z) (fun x xs z=>by cases z)
    ·intro z;have:=E.never;obtain ⟨d,r,e⟩:=List.exists_cons_of_ne_nil hds;have hm:=List.find?_eq_none.mp this d.name (by rw [e];simp);rw [show spE es=[] from z] at hm;exact hm rfl
   rintro σ14 H14 zzq;refine zP fun zzM zzh=>?_
   obtain ⟨s14,S14,o14,a14,⟨q14,pl,L14⟩,rfl⟩:=zzq;have lk:∀ {j:Nat} {e:WE},es[j]? = some e→∃ b,as[j]? = some b∧Oo H14 op (.str e.1.name) (some (.ref b)):=fun {j e} he=>by
    have hj:j < as.length:=by rw [I10.l];exact (List.getElem?_eq_some_iff.mp he).1
    refine ⟨as[j],List.getElem?_eq_getElem hj,?_⟩;have:=Oo.k (k:=Sum.inr e.1.name) o14;rw [Qq (E.nd N.2.1) (i:=j) (d:=e.1) (by unfold dsE;rw [List.getElem?_map,he];rfl) (List.getElem?_eq_getElem hj)] at this;exact this
   obtain ⟨bf,hbf,gf⟩:=lk hef;obtain ⟨bb,hbb,gb⟩:=lk heb;have nn:∀ {e:WE},e ∈ es→e.2 ≠ []:=fun {e} he z=>by have:=(E.ow he).2.2.2.ln;rw [z] at this;simp at this
   subst zzh;walk_at "RD";refine ⟨.inl ⟨_,SqL.of L14.e2⟩,_,gf,_,gb,by decide,fun r hr'=>?_⟩;have sn:=lb (o:=.tup [.ref bf,.ref bb]) hr';have Lr:=L14.same sn;have rl1:=Lr.rl;refine ⟨_,Lr.e2,Nat.lt_of_le_of_lt (show (rs.map V.ref).length ≤ 4 by rw [List.length_map];omega) (by decide),(s14.trans sn).updN hsl,(S14.new hr').set Lr.e2 (fun _ _ z=>by cases z),⟨_,_,_,_,Lr.pushS (by omega) (r:=r) (s:=(ef.2,eb.2)) ⟨⟨nn (List.mem_of_getElem? hef),nn (List.mem_of_getElem? heb)⟩,bf,bb,cb,(a14 jf bf ef hbf hef).same sn,(a14 jb bb eb hbb heb).same sn⟩,by rw [List.length_append,hls];rfl,by rw [List.length_append,hps];rfl,fun j l s hl hs=>?_⟩,_,rfl⟩;rcases se hl with ⟨_,hl⟩ | ⟨hj,rfl⟩
   ·rcases se hs with ⟨_,hs⟩ | ⟨hj,_⟩
    ·exact hrel j l s hl hs
    ·have:=(List.getElem?_eq_some_iff.mp hl).1;omega
   ·rcases se hs with ⟨hj,_⟩ | ⟨_,rfl⟩
    ·omega
    ·exact ⟨fun x=>E.free N.2.1 (by omega) (List.mem_of_getElem? hef) x,fun x=>E.free N.2.1 (by omega) (List.mem_of_getElem? heb) x⟩
  ·rintro σ H' zzq;refine zP fun zzM zzh=>?_
   obtain ⟨sx,S',⟨qs,rs,ls,pss,g1,g2,g3,g4⟩,x5,x6,x7,x8,x9,x10,x11,x12,x13,x14,x15,x16,x17,x18,x19,x20,rfl⟩:=zzq;subst zzh;exact hD _ _ ⟨sx,S',⟨qs,rs,ls,pss,g1,by rw [g2];omega,by rw [g3];omega,g4⟩,by exact ⟨_,_,_,_,_,_,_,_,_,_,_,_,_,_,_,_,rfl⟩⟩
 rintro σ5 H5 zzq;refine zP fun zzM zzh=>?_
 obtain ⟨s5,S5,⟨qs,rs,ls,pss,L5,hls,hps,hrel⟩,x5,x6,x7,x8,x9,x10,x11,x12,x13,x14,x15,x16,x17,x18,x19,x20,rfl⟩:=zzq;subst zzh;walk_at "RD";refine ⟨by decide,fun r hr'=>?_⟩;exact q r z lp sl qs rs ls pss _ (s5.trans (lb hr')) (S5.new hr') cb (L5.same (lb hr')) hz1 (by omega) (by omega) hrel
end
end My
namespace My
open PySem L2
end My
namespace HT
open PySem PyProof.Rows
theorem VF (A:Around) (s:Shared) (a:Int) (t:Tok) (c:Int) (u:Tok) (prog:Program) (w:World) (E:Value→Shared→Prop) (Q:Value→Shared→Prop) (h:Q (.bool (decide (a > c))) s) :
  wpAny (model prog w) A (richCompare .Gt (.int a t) (.int c u)) Q E s:=
 (PyProof.Rows.gt_int h:wpAny (model prog w) A (compareOp .Gt (.int a t) (.int c u)) Q E s)
section
open PySem.SeqAt
open PySem.AutoSeq1 (wpAny_loadPart')
open PySem.MeetsSeq PySem.MeetsSeq2 PySem.MeetsSeq3
theorem Qu (l b:Addr) (items items2:Array Value) (n n2:Nat) (dd dd2:Option Addr) (sl sl2:Array (Option Value)) (ns ms:List Int) (hi:IntsAre items.toList ns) (hj:IntsAre items2.toList ms) :
  Meets (Builtin.«tuple.__gt__» ⟨[.ref l,.ref b],[]⟩)
   (fun _ R s=>s.heap.get? l=some { cls:=.type "tuple",dict:=dd,data:=.seq items n,slots:=sl }∧s.heap.get? b=some { cls:=.type "tuple",dict:=dd2,data:=.seq items2 n2,slots:=sl2 } ∧
    R (.ok (.ret (.bool (lexLt ms ns)))) s):=
 .of_wp fun prog w A R s h=>by
  obtain ⟨hp,g,d,tk,os⟩:=s;obtain ⟨hl,hb,h⟩:=h;have f2:=AutoSeq1.sub_tuple_tuple;have z1:items.size=ns.length:=by rw [← hi.length];simp
  have z2:items2.size=ms.length:=by rw [← hj.length];simp
  wp_walk using wpAny_loadPart' hl,wpAny_loadPart' hb,wpAny_forIn_list _ (fun jn b s'=>b.1=none∧s'=⟨hp,g,d,tk,os⟩∧∃ (vs ws:List Value) (ns' ms':List Int),jn=vs.zip ws ∧
   IntsAre vs ns'∧IntsAre ws ms'∧ns'.length + items2.size=ms'.length + items.size∧R (.ok (.ret (.bool (lexLt ms' ns')))) ⟨hp,g,d,tk,os⟩) _
  case turn=>
   rintro ⟨y,x⟩ jn b s' ⟨hb',rfl,vs,ws,ns',ms',hz,hvi,hwi,hlen,hR⟩;cases hvi with
   | nil=>rw [List.zip_nil_left] at hz;cases hz
   | cons a t hvi'=>
    cases hwi with
    | nil=>rw [List.zip_nil_right] at hz;cases hz
    | cons c u hwi'=>
     rw [List.zip_cons_cons] at hz;injection hz with hyx hrest;injection hyx with hy hx;subst hy hx;rw [lexLt_cons] at hR;simp only [List.length_cons] at hlen;obtain ⟨e,he,hiff⟩:=gF A.in1 ⟨hp,g,d,tk,os⟩ a t c u;refine wpAny_bind (he prog w _ _ ?_);cases e with
     | true=>
      rw [if_pos ((hiff.mp rfl).symm)] at hR
      wp_walk
      exact ⟨rfl,rfl,_,_,_,_,hrest,hvi',hwi',by omega,hR⟩
     | false=>
      rw [if_neg (fun q=>absurd (hiff.mpr q.symm) Bool.false_ne_true)] at hR;have hri:=VF A.in1 ⟨hp,g,d,tk,os⟩ a t c u prog w
      wp_walk using hri
      exact ⟨_,rfl,by simpa using hR⟩
  case fin=>
   rintro ⟨b1,b2⟩ s' ⟨hb',rfl,vs,ws,ns',ms',hz,hvi,hwi,hlen,hR⟩;simp only at hb';subst hb';have hv:lexLt ms' ns'=decide (items2.size < items.size):=by
    cases hvi with
    | nil=>
     cases hwi with
     | nil=>
      simp only [List.length_nil] at hlen;rw [lexLt_nil_nil];exact (decide_eq_false (by omega)).symm
     | cons c u hw=>
      simp only [List.length_nil,List.length_cons] at hlen;rw [Rr];exact (decide_eq_false (by omega)).symm
    | cons a t hv=>
     cases hwi with
     | nil=>
      simp only [List.length_nil,List.length_cons] at hlen;rw [Es];exact (decide_eq_true (by omega)).symm
     | cons c u hw=>
      rw [List.zip_cons_cons] at hz;cases hz
   rw [hv] at hR
   wp_walk
   exact ⟨_,rfl,by simpa [Builtin.Tuple.tupleCompareSizes] using hR⟩
  case h=>
   exact ⟨rfl,rfl,items.toList,items2.toList,ns,ms,rfl,hi,hj,by omega,h⟩
end
section
variable {prog:Program} {w:World} {A:Around} {E:Value→Shared→Prop} {s:Shared}
theorem kA {l b:Addr} {items items2:Array Value} {ns ms:List Int} {Q:Value→Shared→Prop} (hl:IsTup s.heap l items) (hb:IsTup s.heap b items2) (hi:IntsAre items.toList ns) (hj:IntsAre items2.toList ms)
  (hu:A.units < cLine) (h:Q (.bool (lexLt ms ns)) s):wpAny (model prog w) A (compareOp .Gt (.ref l) (.ref b)) Q E s:=by
 obtain ⟨⟨cls,dd,data,sl⟩,ho,hc,n,hd⟩:=id hl;obtain ⟨⟨cls2,dd2,data2,sl2⟩,ho2,hc2,n2,hd2⟩:=id hb;simp only at hc hd hc2 hd2;subst hc hd hc2 hd2;exact richCompare_meets_room (op:=.Gt) ⟨_,ho,rfl⟩ ⟨_,ho2,rfl⟩ PySem.F.slot_tuple_gt PySem.F.entry_tuple_gt (PySem.F.args_tuple_gt_2 _ _) (Qu l b items items2 n n2 dd dd2 sl sl2 ns ms hi hj)
  ⟨ho,ho2,show Value.bool (lexLt ms ns) ≠ Value.notImplemented∧Q (.bool (lexLt ms ns)) s from ⟨(fun x=>nomatch x),h⟩⟩ hu
end
end HT
namespace L2
open PySem PySem.Spec PyProof.Rows
section
variable {X:Cx}
noncomputable def WN (K:PySem.W.Frag):R2:=fun x y H Q=>∃ a b ns ms,x=.ref a∧y=.ref b∧SqT K H a (ns.map V.int)∧SqT K H b (ms.map V.int)∧Q (.bl (HT.lexLt ms ns)) H
theorem BH (hu:X.A.units < cLine):OpR X (compareOp .Gt) (WN X.K):=by
 intro pins s σ H x y v u Q I rx ry h;obtain ⟨a,b,ns,ms,rfl,rfl,ha,hb,q⟩:=h;cases rx;cases ry;obtain ⟨its,r1,p1,_⟩:=I.tuple ha;obtain ⟨its2,r2,p2,_⟩:=I.tuple hb;have i1:IntsAre its.toArray.toList ns:=xt r1;have i2:IntsAre its2.toArray.toList ms:=xt r2;exact HT.kA p1 p2 i1 i2 hu ⟨.bl (HT.lexLt ms ns),H,I,rfl,q⟩
end
end L2
namespace My
open PySem L2
end My
namespace My
open PySem L2
noncomputable abbrev R3:=Int × Int × List Int
noncomputable def mnI (x y:Int):Int:=if y < x then y else x
noncomputable def gtW (r s:R3):Bool:=HT.lexLt [mnI s.1 s.2.1,s.1 + s.2.1] [mnI r.1 r.2.1,r.1 + r.2.1]
theorem lN (x y x' y':Int):HT.lexLt [x,y] [x',y']=decide (x < x'∨(x=x'∧y < y')):=by
 rw [HT.lexLt_cons,HT.lexLt_cons,HT.lexLt_nil_nil,Bool.eq_iff_iff];split
 ·split
  ·simp;omega
  ·simp;omega
 ·simp;omega
theorem Ij (r s:R3):gtW r s=true↔(mnI s.1 s.2.1 < mnI r.1 r.2.1∨(mnI s.1 s.2.1=mnI r.1 r.2.1∧s.1 + s.2.1 < r.1 + r.2.1)):=by
 unfold gtW;rw [lN,decide_eq_true_eq]
noncomputable def uh (f:Nat→R3):Nat→R3
 | 0=>f 0
 | k + 1=>if gtW (f (k + 1)) (uh f k)=true then f (k + 1) else uh f k
theorem Oy (f:Nat→R3):∀ k,∃ j,j ≤ k∧uh f k=f j
 | 0=>⟨0,Nat.le_refl _,rfl⟩
 | k + 1=>by
  unfold uh;split
  ·exact ⟨k + 1,Nat.le_refl _,rfl⟩
  ·obtain ⟨j,hj,e⟩:=Oy f k;exact ⟨j,by omega,e⟩
theorem cH {r s t:R3} (h1:¬ gtW r s=true) (h2:¬ gtW s t=true):¬ gtW r t=true:=by
 rw [Ij] at *;omega
theorem Zv (f:Nat→R3):∀ k j,j ≤ k→¬ gtW (f j) (uh f k)=true
 | 0,j,hj=>by
  have:j=0:=by omega
  subst this;unfold uh;rw [Ij];omega
 | k + 1,j,hj=>by
  unfold uh;by_cases c:j=k + 1
  ·subst c;split
   ·rw [Ij];omega
   ·assumption
  ·have ih:=Zv f k j (by omega);split
   ·rename_i h;refine cH ih ?_;rw [Ij] at *;omega
   ·exact ih
noncomputable def Bm (z:Nat):List CD→List Int→List Int→R3
 | [],u,v=>((u.length:Nat),(v.length:Nat),[])
 | c :: cs,u,v=>uh (fun s=>((Bm z cs (Bf c.f (c.x - (s:Int)) u) (Bf c.b (c.y - (s:Int)) v)).1,(Bm z cs (Bf c.f (c.x - (s:Int)) u) (Bf c.b (c.y - (s:Int)) v)).2.1,(s:Int) :: (Bm z cs (Bf c.f (c.x - (s:Int)) u) (Bf c.b (c.y - (s:Int)) v)).2.2)) (z - 1)
noncomputable def Jg (z:Nat) (c:CD) (cs:List CD) (u v:List Int) (s:Nat):R3:=((Bm z cs (Bf c.f (c.x - (s:Int)) u) (Bf c.b (c.y - (s:Int)) v)).1,(Bm z cs (Bf c.f (c.x - (s:Int)) u) (Bf c.b (c.y - (s:Int)) v)).2.1,(s:Int) :: (Bm z cs (Bf c.f (c.x - (s:Int)) u) (Bf c.b (c.y - (s:Int)) v)).2.2)
theorem qt (z:Nat) (c:CD) (cs:List CD) (u v:List Int):Bm z (c :: cs) u v=uh (Jg z c cs u v) (z - 1):=rfl
noncomputable def pfF:List CD→List Int→List Int→List Int
 | c :: cs,s :: ss,u=>pfF cs ss (Bf c.f (c.x - s) u)
 | _,_,u=>u
noncomputable def pfB:List CD→List Int→List Int→List Int
 | c :: cs,s :: ss,u=>pfB cs ss (Bf c.b (c.y - s) u)
 | _,_,u=>u
noncomputable def InZ (z:Nat) (ss:List Int):Prop:=∀ x ∈ ss,0 ≤ x∧x < (z:Int)
structure bM (z:Nat) (cs:List CD) (u v:List Int) (r:R3):Prop where
 ln:r.2.2.length=cs.length
 iz:InZ z r.2.2
 f:r.1=((pfF cs r.2.2 u).length:Nat)
 b:r.2.1=((pfB cs r.2.2 v).length:Nat)
 mx:∀ ss:List Int,ss.length=cs.length→InZ z ss→¬ gtW (((pfF cs ss u).length:Nat),((pfB cs ss v).length:Nat),ss) r=true
theorem cD {z:Nat} (hz:0 < z):∀ (cs:List CD) (u v:List Int),bM z cs u v (Bm z cs u v)
 | [],u,v=>⟨rfl,fun x hx=>by simp [Bm] at hx,rfl,rfl,fun ss hs _=>by
   rw [Ij];show ¬ (_∨(_∧((u.length:Nat):Int) + ((v.length:Nat):Int) < ((pfF [] ss u).length:Nat) + ((pfB [] ss v).length:Nat)));have e1:pfF [] ss u=u:=by cases ss <;> rfl
   have e2:pfB [] ss v=v:=by cases ss <;> rfl
   dsimp only [Bm];rw [e1,e2]
   omega⟩
 | c :: cs,u,v=>by
  rw [qt];have ih:=fun s:Nat=>cD hz cs (Bf c.f (c.x - (s:Int)) u) (Bf c.b (c.y - (s:Int)) v)
  obtain ⟨j,hj,e⟩:=Oy (Jg z c cs u v) (z - 1);have mx:=Zv (Jg z c cs u v) (z - 1);rw [e] at mx ⊢;refine ⟨?_,fun x hx=>?_,(ih j).f,(ih j).b,fun ss hs hi=>?_⟩
  ·show (_ :: _:List Int).length=_;rw [List.length_cons,List.length_cons,(ih j).ln]
  ·rcases List.mem_cons.mp (show x ∈ (j:Int) :: _ from hx) with rfl | hx
   ·omega
   ·exact (ih j).iz x hx
  ·cases ss with
   | nil=>simp at hs
   | cons s ss=>
    have hs0:=hi s (List.mem_cons_self ..);obtain ⟨k,rfl⟩:∃ k:Nat,s=(k:Int):=⟨s.toNat,by omega⟩;have a:=(ih k).mx ss (by simpa using hs) (fun x hx=>hi x (List.mem_cons_of_mem _ hx));refine cH (s:=Jg z c cs u v k) ?_ (mx k (by omega));rw [Ij] at a ⊢;exact a
noncomputable def csL (z:Nat) (fs bs:List Int) (ls:List LD):List CD:=(List.range ls.length).map fun k=>((ls[k]?).map fun l=>csK z fs bs l k).getD ⟨[],[],0,0⟩
theorem Iq (z:Nat) (fs bs:List Int) (ls:List LD):(csL z fs bs ls).length=ls.length:=by unfold csL;simp
theorem xC {z:Nat} {fs bs:List Int} {ls:List LD} {k:Nat} {l:LD} (h:ls[k]? = some l):(csL z fs bs ls)[k]? = some (csK z fs bs l k):=by
 unfold csL;rw [List.getElem?_map,List.getElem?_range (List.getElem?_eq_some_iff.mp h).1];show some (((ls[k]?).map fun l=>csK z fs bs l k).getD _)=_;rw [h];rfl
theorem Dz {z:Nat} (hz:0 < z) {ls:List LD} {fs bs sh:List Int} {k:Nat} {l:LD} (h:ls[k]? = some l):Bf (csK z fs bs l k).f ((csK z fs bs l k).x - sh.getD k 0) (grF z ls fs sh k)=grF z ls fs sh (k + 1):=by
 have:=iw (fr:=frK z ls LD.d) (off:=Hw fs sh) (i:=k) hz (sp:=l.sp) (d:=l.d) (fun x=>by unfold frK;rw [h];rfl);exact this
theorem Jz {z:Nat} (hz:0 < z) {ls:List LD} {fs bs sh:List Int} {k:Nat} {l:LD} (h:ls[k]? = some l):Bf (csK z fs bs l k).b ((csK z fs bs l k).y - sh.getD k 0) (grB z ls bs sh k)=grB z ls bs sh (k + 1):=by
 have:=iw (fr:=frK z ls LD.e) (off:=pE bs sh) (i:=k) hz (sp:=l.sp) (d:=l.e) (fun x=>by unfold frK;rw [h];rfl);exact this
theorem UJ {z:Nat} (hz:0 < z) {ls:List LD} {fs bs sh:List Int} (hl:sh.length=ls.length):∀ (m k:Nat),k + m=ls.length→pfF ((csL z fs bs ls).drop k) (sh.drop k) (grF z ls fs sh k)=grF z ls fs sh ls.length∧pfB ((csL z fs bs ls).drop k) (sh.drop k) (grB z ls bs sh k)=grB z ls bs sh ls.length
 | 0,k,h=>by
  rw [List.drop_of_length_le (l:=sh) (by omega),List.drop_of_length_le (by rw [Iq];omega),show k=ls.length by omega];exact ⟨rfl,rfl⟩
 | m + 1,k,h=>by
  have hk:k < ls.length:=by omega
  have hlk:ls[k]? = some ls[k]:=List.getElem?_eq_getElem hk;have hc:=xC (z:=z) (fs:=fs) (bs:=bs) hlk;have hcl:k < (csL z fs bs ls).length:=by rw [Iq];exact hk
  have e1:(csL z fs bs ls)[k]=csK z fs bs ls[k] k:=by rw [List.getElem?_eq_getElem hcl] at hc;exact Option.some.inj hc
  have e2:sh[k]'(by omega)=sh.getD k 0:=by rw [List.getD_eq_getElem?_getD,List.getElem?_eq_getElem (by omega)];rfl
  rw [List.drop_eq_getElem_cons hcl,List.drop_eq_getElem_cons (l:=sh) (i:=k) (by omega),e1,e2];show pfF _ _ (Bf (csK z fs bs ls[k] k).f ((csK z fs bs ls[k] k).x - sh.getD k 0) _)=_∧pfB _ _ (Bf (csK z fs bs ls[k] k).b ((csK z fs bs ls[k] k).y - sh.getD k 0) _)=_;rw [Dz hz hlk,Jz hz hlk];exact UJ hz hl m (k + 1) (by omega)
noncomputable def VB (z:Nat) (fs bs:List Int) (ls:List LD):R3:=Bm z ((csL z fs bs ls).drop 1) (grF z ls fs [0] 1) (grB z ls bs [0] 1)
theorem YG (z:Nat) (ls:List LD) (fs bs:List Int) (s:Int) (ss:List Int):grF z ls fs (s :: ss) 1=grF z ls fs [s] 1∧grB z ls bs (s :: ss) 1=grB z ls bs [s] 1:=by
 unfold grF grB gA;refine ⟨List.filter_congr fun t _=>?_,List.filter_congr fun t _=>?_⟩
 ·rfl
 ·rfl
theorem TC (z:Nat) (ls:List LD) (f:LD→WD) (k:Nat) {x y:Int} (h:x % (z:Int)=y % (z:Int)):frK z ls f k x=frK z ls f k y:=by
 unfold frK;cases ls[k]? with
 | none=>rfl
 | some l=>
  show Pf z l.sp (f l) x=Pf z l.sp (f l) y;rw [← Wn,h,Wn]
noncomputable def RI (z:Nat) (sh:List Int):List Int:=sh.map fun x=>(x - sh.getD 0 0) % (z:Int)
theorem MB {z:Nat} (hz:0 < z) {ls:List LD} {f:LD→WD} {n:Nat} {S:Nat→Int} {sh:List Int} (hl:sh.length=n) (h0:0 ≤ sh.getD 0 0):((ts0 z).filter (gA (frK z ls f) (fun k=>S k - sh.getD k 0) n)).length=((ts0 z).filter (gA (frK z ls f) (fun k=>S k - (RI z sh).getD k 0) n)).length:=by
 have per:∀ x,gA (frK z ls f) (fun k=>S k - sh.getD k 0) n (x + z)=gA (frK z ls f) (fun k=>S k - sh.getD k 0) n x:=fun x=>by
  unfold gA;refine List.all_congr rfl fun k=>?_
  refine TC z ls f k ?_;rw [show x + (z:Int) + (S k - sh.getD k 0)=(x + (S k - sh.getD k 0)) + z by omega,Int.add_emod_right]
 rw [← Tv per (sh.getD 0 0).toNat];congr 1;refine List.filter_congr fun t _=>?_
 rw [Int.toNat_of_nonneg h0];unfold gA;rw [Bool.eq_iff_iff,List.all_eq_true,List.all_eq_true];have key:∀ k,k ∈ List.range n→frK z ls f k (t + sh.getD 0 0 + (S k - sh.getD k 0))=frK z ls f k (t + (S k - (RI z sh).getD k 0)):=fun k hk=>by
  have hk:=List.mem_range.mp hk;have e:(RI z sh).getD k 0=(sh.getD k 0 - sh.getD 0 0) % (z:Int):=by
   unfold RI;rw [List.getD_eq_getElem?_getD,List.getElem?_map,List.getElem?_eq_getElem (by omega)];show (_ - sh.getD 0 0) % (z:Int)=_;rw [List.getD_eq_getElem?_getD (l:=sh) (i:=k),List.getElem?_eq_getElem (by omega)];rfl
  refine TC z ls f k ?_;rw [e];rw [show t + (S k - (sh.getD k 0 - sh.getD 0 0) % (z:Int))=(t + S k) - (sh.getD k 0 - sh.getD 0 0) % (z:Int) by omega,Int.sub_emod_emod];congr 1;omega
 exact ⟨fun h k hk=>by rw [← key k hk];exact h k hk,fun h k hk=>by rw [key k hk];exact h k hk⟩
theorem NF {z:Nat} {sh:List Int} (h:0 < sh.length):∃ ss,RI z sh=0 :: ss∧ss.length + 1=sh.length:=by
 cases sh with
 | nil=>simp at h
 | cons a r=>
  refine ⟨r.map fun x=>(x - a) % (z:Int),?_,by rw [List.length_map];rfl⟩;unfold RI;rw [List.map_cons];show ((a - a) % (z:Int)) :: _=_;rw [Int.sub_self,Int.zero_emod];rfl
structure zL (z:Nat) (ls:List LD) (fs bs:List Int) (r:R3):Prop where
 ln:r.2.2.length + 1=ls.length
 iz:InZ z r.2.2
 f:r.1=((grF z ls fs (0 :: r.2.2) ls.length).length:Nat)
 b:r.2.1=((grB z ls bs (0 :: r.2.2) ls.length).length:Nat)
 mx:∀ sh:List Int,sh.length=ls.length→InZ z sh→¬ gtW (((grF z ls fs sh ls.length).length:Nat),((grB z ls bs sh ls.length).length:Nat),sh) r=true
theorem wI {z:Nat} (hz:0 < z) {ls:List LD} (hl:1 ≤ ls.length) (fs bs:List Int):zL z ls fs bs (VB z fs bs ls):=by
 have B:=cD hz ((csL z fs bs ls).drop 1) (grF z ls fs [0] 1) (grB z ls bs [0] 1);have hdl:((csL z fs bs ls).drop 1).length=ls.length - 1:=by rw [List.length_drop,Iq]
 have key:∀ ss:List Int,ss.length + 1=ls.length→pfF ((csL z fs bs ls).drop 1) ss (grF z ls fs [0] 1)=grF z ls fs (0 :: ss) ls.length∧pfB ((csL z fs bs ls).drop 1) ss (grB z ls bs [0] 1)=grB z ls bs (0 :: ss) ls.length:=fun ss hs=>by
  have:=UJ hz (ls:=ls) (fs:=fs) (bs:=bs) (sh:=0 :: ss) (by rw [List.length_cons];exact hs) (ls.length - 1) 1 (by omega);rw [(YG z ls fs bs 0 ss).1,(YG z ls fs bs 0 ss).2] at this;exact this
 have hln:(VB z fs bs ls).2.2.length + 1=ls.length:=by
  have:=B.ln;rw [hdl] at this;show (Bm z _ _ _).2.2.length + 1=_;omega
 refine ⟨hln,B.iz,?_,?_,fun sh hs hi=>?_⟩
 ·rw [← (key _ hln).1];exact B.f
 ·rw [← (key _ hln).2];exact B.b
 ·have h0:0 ≤ sh.getD 0 0:=by
   rw [List.getD_eq_getElem?_getD,List.getElem?_eq_getElem (by omega)];exact (hi _ (List.getElem_mem (by omega))).1
  obtain ⟨ss,e,hss⟩:=NF (z:=z) (sh:=sh) (by omega);have c1:(grF z ls fs sh ls.length).length=(grF z ls fs (0 :: ss) ls.length).length:=by
   rw [← e];exact MB hz hs h0
  have c2:(grB z ls bs sh ls.length).length=(grB z ls bs (0 :: ss) ls.length).length:=by
   rw [← e];exact MB hz hs h0
  have m:=B.mx ss (by rw [hdl];omega) (fun x hx=>by
   have hx':x ∈ RI z sh:=by rw [e];exact List.mem_cons_of_mem _ hx
   obtain ⟨y,_,rfl⟩:=List.mem_map.mp hx';exact ⟨Int.emod_nonneg _ (by omega),Int.emod_lt_of_pos _ (by omega)⟩)
  rw [(key ss (by omega)).1,(key ss (by omega)).2] at m;rw [c1,c2];rw [Ij] at m ⊢;exact m
end My
namespace My
open PySem L2
noncomputable def aB (H:Hp) (r:Addr) (cs:List CD):Prop:=∃ qs:List Addr,H r=some (.lst (qs.map V.ref))∧qs.length=cs.length∧∀ (i:Nat) (q:Addr) (c:CD),qs[i]? = some q→cs[i]? = some c→mI H q c
theorem aB.same {H H':Hp} {r:Addr} {cs:List CD} (h:aB H r cs) (s:Jb H H'):aB H' r cs:=by
 obtain ⟨qs,e1,e2,e3⟩:=h;exact ⟨qs,s _ _ e1,e2,fun i q c a b=>(e3 i q c a b).same s⟩
theorem nI.cds {H:Hp} {r:Addr} {z:Nat} {fs bs:List Int} {ls:List LD} (h:nI H r z fs bs ls):aB H r (csL z fs bs ls):=by
 obtain ⟨qs,e1,e2,e3⟩:=h;refine ⟨qs,e1,by rw [e2,Iq],fun i q c hq hc=>?_⟩;have hl:ls[i]? = some (ls[i]'(by rw [← e2];exact (List.getElem?_eq_some_iff.mp hq).1)):=List.getElem?_eq_getElem _;rw [xC hl] at hc;cases hc;exact e3 i q _ hq hl
noncomputable def r3O (r:R3) (s:Addr):HO:=.tup [.int r.1,.int r.2.1,.ref s]
noncomputable def Fz:Sp:=fun vs H Q _=>∃ p r s,vs=[.ref p]∧H p=some (r3O r s)∧∀ q,H q=none→Q (.ref q) (upd H q (.tup [.int (mnI r.1 r.2.1),.int (r.1 + r.2.1)]))
structure WIn (H:Hp) (cp shp bp:Addr) (cs:List CD) (sh u v:List Int) (z:Nat):Prop where
 c:aB H cp cs
 s:H shp=some (.lst (yc sh))
 b:Iy H bp u v
 ln:cs.length ≤ 10
 z0:0 < z∧z ≤ 1000
 al:∀ c ∈ cs,c.f.length=z∧c.b.length=z
 ul:u.length ≤ 1000
 vl:v.length ≤ 1000
noncomputable def OF (n:Nat):Sp:=fun vs H Q _=>∃ cp shp bp cs sh u v z,vs=[.ref cp,.ref shp,.ref bp]∧WIn H cp shp bp cs sh u v z∧sh.length + n=cs.length∧NoT H ∧
 ∀ p s H',Jb H H'→NoT H'→H' p=some (r3O (Bm z (cs.drop sh.length) u v) s)→H' s=some (.lst (yc (sh ++ (Bm z (cs.drop sh.length) u v).2.2)))→(s=shp∨H s=none)→Q (.ref p) H'
noncomputable def WL:Nat→Sp
 | 0=>fun _ _ _ _=>False
 | n + 1=>OF n
noncomputable def jD (t:Adr):Sp:=fun vs H Q _=>∃ lp fp bp z ls fs bs,vs=[.ref lp,.ref fp,.ref bp]∧LIn t H lp fp bp z ls fs bs∧ls.length ≤ 5∧(z:Int) ^ (ls.length - 1) ≤ 2000∧NoT H ∧
 ∀ p s H',Jb H H'→NoT H'→H' p=some (r3O (VB z fs bs ls) s)→H' s=some (.lst (yc (0 :: (VB z fs bs ls).2.2)))→H s=none→Q (.ref p) H'
theorem dM {z:Nat} (hz:0 < z) {i n:Nat} (h:i ≤ n):(z:Int) ^ i ≤ (z:Int) ^ n:=by
 have:=Nat.pow_le_pow_right hz h
 exact_mod_cast this
section
variable {P:Program} {w:World} {K:PySem.W.Frag} {mg:Str→Option Value} {base:Heap} {t:Adr}
theorem zE (T:Txt w K mg t):Pb P w K mg base CX0 1 t.Yu t.iu ["told"] Fz:=by
 refine T.wu.ok GE (fun vs H Q E h=>?_) (fun _ _ _ s H vs Q E hr h=>?_)
 ·obtain ⟨p,r,s,rfl,_⟩:=h;rfl
 obtain ⟨p,r,s',rfl,hp,q⟩:=h;refine ⟨_,(qb (Gb (Yg (ab (Ib (Yp rfl) rfl T.DF Qn (ab (kc gd (pv 0) pb (fun _ _=>rfl)) (ab (kc gd (pv 0) pb (fun _ _=>rfl)) fb))) (ab (Fb fc (kc gd (pv 0) pb (fun _ _=>rfl)) (kc gd (pv 0) pb (fun _ _=>rfl))) fb))))),?_⟩;walk_at "RD";exact ⟨_,SqT.of hp,_,rfl,_,SqT.of hp,_,rfl,_,rfl,_,rfl,_,SqT.of hp,_,rfl,_,SqT.of hp,_,rfl,_,rfl,_,rfl,by decide,q⟩
theorem OB (T:Txt w K mg t) (n:Nat) (g21:Pb P w K mg base CX0 (4 + n) t.Se t.Je q24 (WL n)):Pb P w K mg base CX0 (5 + n) t.Se t.Je q24 (OF n):=by
 rw [show 5 + n=4 + n + 1 by omega];have g28:Pb P w K mg base CX0 (4 + n) t.Yu t.iu ["told"] Fz:=(zE T).mono (by omega);have g22:Pb P w K mg base CX0 (4 + n) t.kf t.Ye q26 Zu:=(Fy T).mono (by omega);refine T.Wf.ok Od (fun vs H Q E h=>?_) (fun _ _ _ s H vs Q E hr h=>?_)
 ·obtain ⟨cp,shp,bp,cs,sh,u,v,z,rfl,_⟩:=h;rfl
 obtain ⟨cp,shp,bp,cs,sh,u,v,z,rfl,I,hn,nt,q⟩:=h;have hu:=Zw hr;obtain ⟨qs,c1,c2,c3⟩:=I.c;have hln:=I.ln;refine ⟨_,(db (Be (Rb Ji (Ib Eb rfl T.Yf Ob (ab (pv 1) fb)) (Ib Eb rfl T.Yf Ob (ab (pv 0) fb)) (Xb _)) (qb (Gb (Yg (ab (Ib Eb rfl T.Yf Ob (ab (kc gd (pv 2) pb (fun _ _=>rfl)) fb)) (ab (Ib Eb rfl T.Yf Ob (ab (kc gd (pv 2) pb (fun _ _=>rfl)) fb)) (ab (pv 1) fb)))))) vc)
   (db (Cb (i:=3) Od.nd rfl (Or.inl rfl) (kc Zb (pv 0) (Ib Eb rfl T.Yf Ob (ab (pv 1) fb)) (fun _ _=>rfl)))
   (db (Cb (i:=4) Od.nd rfl (Or.inl rfl) Ww)
   (db (Bd PassesOwn.never rfl (uc rfl T.Zc (ab (Ib Eb rfl T.Yf Ob (ab (kc gd (pv 3) pb (fun _ _=>rfl)) fb)) fb)) (yb (i:=5) Od.nd rfl (Or.inl rfl)) (db (Cb (i:=6) Od.nd rfl (Or.inl rfl) (xb g21 hr rfl T.gm T.Wf.kp T.Pm .nil Db (ab (pv 0) (ab (Fb GH (pv 1) (Td (ab (pv 5) fb))) (ab (xb g22 hr rfl T.Nk T.kg.kp T.gl .nil Db (ab (pv 2) (ab (pv 3) (ab (pv 5) fb)))) fb)))))
   (qb (Be (PW.pt (Fm (Rb eM (pv 4) Ww (Xb _)) (Wm (Rb (BH (Nat.lt_of_succ_lt hu)) (xb g28 hr rfl T.NC T.wu.kp T.uC .nil Db (ab (pv 6) fb)) (xb g28 hr rfl T.NC T.wu.kp T.uC .nil Db (ab (pv 4) fb)) (Xb _))))) (qb (Cb (i:=4) Od.nd rfl (Or.inl rfl) (pv 6))) vc))))
   (qb (Gb (pv 4))))))),?_⟩
 simp only [zb];refine Hb (fun σ' H'=>H'=H∧n ≠ 0∧σ'=[some (.ref cp),some (.ref shp),some (.ref bp),none,none,none,none]) (fun D' hD hrt _ _=>?_) ?_
 ·refine Dc (decide (n=0)) (fun Q hQ=>?_) (fun cc=>?_) (fun cc=>?_)
  ·walk_at "RD";refine ⟨_,.inl (SqL.of I.s),_,.inl (SqL.of c1),?_⟩;rw [ie,List.length_map,c2,show decide ((sh.length:Int)=(cs.length:Int))=decide (n=0) from decide_eq_decide.mpr (by omega)];exact hQ
  ·have cc:=of_decide_eq_true cc;obtain ⟨f,b,b1,b2,b3⟩:=I.b;rw [List.drop_of_length_le (by omega)] at q;walk_at "RD";refine ⟨_,SqT.of b1,_,rfl,_,rfl,_,.inl (SqL.of b2),_,SqT.of b1,_,rfl,_,rfl,_,.inl (SqL.of b3),by decide,fun p hp=>?_⟩;rw [hrt,ie,ie];exact q p shp _ (lb hp) nt.upd cb (by show _=some (HO.lst (yc (sh ++ [])));rw [List.append_nil];exact (lb hp) _ _ I.s) (.inl rfl)
  ·walk_at "RD";exact hD _ _ ⟨rfl,of_decide_eq_false cc,rfl⟩
 rintro σ1 H1 ⟨rfl,hn0,rfl⟩;obtain ⟨m,rfl⟩:∃ m,n=m + 1:=⟨n - 1,by omega⟩;have hk:sh.length < cs.length:=by omega
 have hc:cs[sh.length]? = some cs[sh.length]:=List.getElem?_eq_getElem hk;have hq:qs[sh.length]? = some (qs[sh.length]'(by omega)):=List.getElem?_eq_getElem _;have hdr:cs.drop sh.length=cs[sh.length] :: cs.drop (sh.length + 1):=List.drop_eq_getElem_cons hk;have C:=c3 _ _ _ hq hc;have hz2:=I.al _ (List.mem_of_getElem? hc);have hz:=I.z0;generalize cs[sh.length]=c at hc hdr C hz2;generalize qs[sh.length]'(by omega)=qc at hq C;rw [hdr,qt] at q;simp only [zb];refine zzC (fun σ' H'=>H'=H1∧σ'=[some (.ref cp),some (.ref shp),some (.ref bp),some (.ref qc),none,none,none]) (fun D' hD=>?_) fun zzM zzh=>?_
 ·walk_at "RD";refine ⟨_,.inl (SqL.of I.s),_,SqL.of c1,_,?_,hD _ _ ⟨rfl,rfl⟩⟩;rw [ie];exact Ac (by rw [List.getElem?_map,hq];rfl)
 rintro σ2 H2 ⟨rfl,rfl⟩;subst zzh;simp only [zb];refine zzC (fun σ' H'=>H'=H2∧σ'=[some (.ref cp),some (.ref shp),some (.ref bp),some (.ref qc),some .non,none,none]) (fun D' hD=>?_) fun zzM zzh=>?_
 ·walk_at "RD";exact hD _ _ ⟨rfl,rfl⟩
 rintro σ3 H3 ⟨rfl,rfl⟩;obtain ⟨mf,mb,k1,k2,k3⟩:=id C;subst zzh;simp only [zb];refine zzC (fun σ' H'=>Jb H3 H'∧NoT H'∧∃ p s x5 x6,H' p=some (r3O (uh (Jg z c (cs.drop (sh.length + 1)) u v) (z - 1)) s)∧H' s=some (.lst (yc (sh ++ (uh (Jg z c (cs.drop (sh.length + 1)) u v) (z - 1)).2.2)))∧H3 s=none∧σ'=[some (.ref cp),some (.ref shp),some (.ref bp),some (.ref qc),some (.ref p),x5,x6]) (fun D' hD=>?_) fun zzM zzh=>?_
 ·walk_at "RD";refine ⟨_,SqT.of k1,_,rfl,_,rfl,_,.inl (SqL.of k2),?_⟩;rw [show (Hc c.f).length=z by unfold Hc;rw [List.length_map,hz2.1]];refine ⟨by omega,by omega,?_⟩;refine Eh.range (n:=z) (fun i σ H'=>Jb H3 H'∧NoT H'∧∃ x4 x5 x6,(i=0→x4=some .non)∧(0 < i→∃ p s,x4=some (.ref p)∧H' p=some (r3O (uh (Jg z c (cs.drop (sh.length + 1)) u v) (i - 1)) s)∧H' s=some (.lst (yc (sh ++ (uh (Jg z c (cs.drop (sh.length + 1)) u v) (i - 1)).2.2)))∧H3 s=none)∧σ=[some (.ref cp),some (.ref shp),some (.ref bp),some (.ref qc),x4,x5,x6]) ⟨Jb.refl _,nt,_,_,_,fun _=>rfl,fun z=>by omega,rfl⟩ ?_ ?_
  ·rintro i σ HA hi zzq;refine zP fun zzM zzh=>?_
   obtain ⟨sA,nA,x4,x5,x6,hx0,hx1,rfl⟩:=zzq;have IA:WIn HA cp shp bp cs sh u v z:=⟨I.c.same sA,sA _ _ I.s,by obtain ⟨f,b,b1,b2,b3⟩:=I.b;exact ⟨f,b,sA _ _ b1,sA _ _ b2,sA _ _ b3⟩,I.ln,I.z0,I.al,I.ul,I.vl⟩;subst zzh;simp only [Rf,zb,List.set_cons_succ,List.set_cons_zero,Int.zero_add];refine zzC (fun σ' H'=>Jb HA H'∧NoT H'∧∃ p s,H' p=some (r3O (Jg z c (cs.drop (sh.length + 1)) u v i) s)∧H' s=some (.lst (yc (sh ++ (Jg z c (cs.drop (sh.length + 1)) u v i).2.2)))∧H3 s=none∧σ'=[some (.ref cp),some (.ref shp),some (.ref bp),some (.ref qc),x4,some (.int (i:Nat)),some (.ref p)]) (fun D' hD=>?_) fun zzM zzh=>?_
   ·have hl1:(sh ++ [(i:Int)]).length=sh.length + 1:=by simp
    walk_at "RD";refine ⟨by decide,fun p1 n1=>?_⟩;have t1:=lb (o:=.lst [.int (i:Nat)]) n1;refine ⟨_,t1 _ _ IA.s,_,cb,Nat.le_trans (show (yc sh).length + 1 ≤ 20 by rw [ie];omega) (by decide),fun p2 n2=>?_⟩;have el:yc sh ++ [V.int ((i:Nat):Int)]=yc (sh ++ [(i:Int)]):=by unfold yc;rw [List.map_append];rfl
    rw [el];have t2:=lb (o:=.lst (yc (sh ++ [(i:Int)]))) n2;have t12:=t1.trans t2;have N2:NoT (upd (upd HA p1 (.lst [.int (i:Nat)])) p2 (.lst (yc (sh ++ [(i:Int)])))):=nA.upd.upd;obtain ⟨f,b,b1,b2,b3⟩:=IA.b;refine ⟨bp,qc,u,v,c,i,rfl,⟨f,b,t12 _ _ b1,t12 _ _ b2,t12 _ _ b3⟩,(C.same sA).same t12,by omega,by omega,I.ul,I.vl,N2,fun p3 H4 s4 n4 B4=>?_⟩;have w0:=t12.trans s4;refine ⟨cp,p2,p3,cs,sh ++ [(i:Int)],_,_,z,rfl,⟨IA.c.same w0,s4 _ _ cb,B4,I.ln,I.z0,I.al,Nat.le_trans (Uv ..) I.ul,Nat.le_trans (Uv ..) I.vl⟩,by omega,n4,fun p s H' s' n' g1 g2 g3=>?_⟩;rw [hl1] at g1 g2;refine hD _ _ ⟨w0.trans s',n',p,s,g1,?_,?_,rfl⟩
    ·rw [List.append_assoc] at g2;exact g2
    ·rcases g3 with rfl | g3
     ·exact sA.free (t1.free n2)
     ·exact sA.free (w0.free g3)
   rintro σB HB ⟨sB,nB,p,s,ep,es,hs3,rfl⟩;subst zzh;dsimp only;refine Pi (fun b H2=>Jb HB H2∧NoT H2∧(i=0→b=true)∧(0 < i→b=gtW (Jg z c (cs.drop (sh.length + 1)) u v i) (uh (Jg z c (cs.drop (sh.length + 1)) u v) (i - 1)))) (fun Q hQ=>?_) (fun H2 r=>?_) (fun H2 r=>?_)
   ·by_cases hi0:i=0
    ·obtain rfl:=hx0 hi0;walk_at "RD";exact hQ _ _ ⟨Jb.refl _,nB,fun _=>rfl,fun z=>by omega⟩
    ·obtain ⟨p',s',rfl,ep',es',_⟩:=hx1 (by omega);walk_at "RD";refine ⟨p,_,s,rfl,ep,fun q1 h1=>?_⟩;have t1:=lb (o:=.tup [.int (mnI (Jg z c (cs.drop (sh.length + 1)) u v i).1 (Jg z c (cs.drop (sh.length + 1)) u v i).2.1),.int ((Jg z c (cs.drop (sh.length + 1)) u v i).1 + (Jg z c (cs.drop (sh.length + 1)) u v i).2.1)]) h1;refine ⟨p',_,s',rfl,t1 _ _ (sB _ _ ep'),fun q2 h2=>?_⟩;have t2:=lb (o:=.tup [.int (mnI (uh (Jg z c (cs.drop (sh.length + 1)) u v) (i - 1)).1 (uh (Jg z c (cs.drop (sh.length + 1)) u v) (i - 1)).2.1),.int ((uh (Jg z c (cs.drop (sh.length + 1)) u v) (i - 1)).1 + (uh (Jg z c (cs.drop (sh.length + 1)) u v) (i - 1)).2.1)]) h2;exact ⟨q1,q2,[_,_],[_,_],rfl,rfl,SqT.of (t2 _ _ cb),SqT.of cb,_,rfl,hQ _ _ ⟨t1.trans t2,nB.upd.upd,fun z=>absurd z hi0,fun _=>rfl⟩⟩
   ·obtain ⟨r1,r2,r3,r4⟩:=r;have epk:uh (Jg z c (cs.drop (sh.length + 1)) u v) (i + 1 - 1)=Jg z c (cs.drop (sh.length + 1)) u v i:=by
     rw [Nat.add_sub_cancel];cases i with
     | zero=>rfl
     | succ j=>
      unfold uh;exact if_pos (r4 (by omega)).symm
    walk_at "RD";refine ⟨(sA.trans sB).trans r1,r2,_,fun z=>z.elim,fun _=>⟨p,rfl,s,?_,?_,hs3⟩,rfl,_,rfl⟩
    ·rw [epk];exact r1 _ _ ep
    ·rw [epk];exact r1 _ _ es
   ·obtain ⟨r1,r2,r3,r4⟩:=r;have hi0:0 < i:=by
     refine Classical.byContradiction fun c=>?_
     cases r3 (by omega)
    have epk:uh (Jg z c (cs.drop (sh.length + 1)) u v) (i + 1 - 1)=uh (Jg z c (cs.drop (sh.length + 1)) u v) (i - 1):=by
     rw [Nat.add_sub_cancel];cases i with
     | zero=>omega
     | succ j=>
      have:=r4 (by omega);show (if gtW _ _=true then _ else _)=_;rw [if_neg (by rw [show gtW (Jg z c (cs.drop (sh.length + 1)) u v (j + 1)) (uh (Jg z c (cs.drop (sh.length + 1)) u v) j)=false from this.symm];decide)];rfl
    obtain ⟨p',s',rfl,ep',es',hs'⟩:=hx1 hi0;have sBr:=sB.trans r1;walk_at "RD";refine ⟨(sA.trans sB).trans r1,r2,_,fun z=>z.elim,fun _=>⟨p',rfl,s',?_,?_,hs'⟩,rfl,_,rfl⟩
    ·rw [epk];exact sBr _ _ ep'
    ·rw [epk];exact sBr _ _ es'
  ·rintro σ H' zzq;refine zP fun zzM zzh=>?_
   obtain ⟨sm,nm,x4,x5,x6,hx0,hx1,rfl⟩:=zzq;obtain ⟨p,s,rfl,e1,e2,e3⟩:=hx1 (by omega);subst zzh;exact hD _ _ ⟨sm,nm,p,s,_,_,e1,e2,e3,rfl⟩
 rintro σ4 H4 ⟨s4,n4,p,s,x5,x6,e1,e2,e3,rfl⟩;subst zzh;walk_at "RD";exact q p s H4 s4 n4 e1 e2 (.inr e3)
theorem RK (T:Txt w K mg t):∀ n,Pb P w K mg base CX0 (5 + n) t.Se t.Je q24 (OF n)
 | 0=>OB T 0 (T.Wf.ok Od (fun vs H Q E h=>h.elim) (fun cdv A outer s H vs Q E hr h=>h.elim))
 | n + 1=>OB T (n + 1) (by rw [show 4 + (n + 1)=5 + n by omega];exact RK T n)
theorem zI {k:Nat} {f:Addr} {fd:FuncData} {ps:List Str} {sp:Nat→Sp} {m:Nat} (F:∀ n,n ≤ m→Pb P w K mg base CX0 k f fd ps (sp n)):Pb P w K mg base CX0 k f fd ps (fun vs H Q E=>∃ n,n ≤ m∧sp n vs H Q E):=
 ⟨fun vs H Q E ⟨n,hn,h⟩=>(F n hn).len vs H Q E h,fun A outer s H args us vs Q E hr he hb hv ⟨n,hn,h⟩=>(F n hn).run A outer s H args us vs Q E hr he hb hv h⟩
theorem fJ (T:Txt w K mg t):Pb P w K mg base CX0 10 t.yp t.qp q11 (jD t):=by
 have g21:Pb P w K mg base CX0 9 t.Se t.Je q24 (fun vs H Q E=>∃ n,n ≤ 4∧OF n vs H Q E):=zI fun n hn=>(RK T n).mono (by omega)
 have g65:Pb P w K mg base CX0 9 t.Eg t.wg q11 (qH t):=(xL T).mono (by decide);have g22:Pb P w K mg base CX0 9 t.kf t.Ye q26 Zu:=(Fy T).mono (by decide);have g66:Pb P w K mg base CX0 9 t.kh t.gh ["line"] (ez t):=(IE T).mono (by decide);refine T.gp.ok Gi (fun vs H Q E h=>?_) (fun _ _ _ s H vs Q E hr h=>?_)
 ·obtain ⟨lp,fp,bp,z,ls,fs,bs,rfl,_⟩:=h;rfl
 obtain ⟨lp,fp,bp,z,ls,fs,bs,rfl,I,hl5,hpw,nt,q⟩:=h;obtain ⟨⟨qs,l1,lq⟩,al⟩:=I.l;have hql:qs.length=ls.length:=by rw [lq.1,List.length_map]
 have hln:=I.ln;have hz:=I.z0;have hq0:qs[0]? = some (qs[0]'(by omega)):=List.getElem?_eq_getElem _;have hl0:ls[0]? = some (ls[0]'(by omega)):=List.getElem?_eq_getElem _;have e0:H (qs[0]'(by omega))=some (lO (ls[0]'(by omega))):=lq.2 0 _ _ hq0 (by rw [List.getElem?_map,hl0];rfl);obtain ⟨dx,pp,lm,un,hpl,_⟩:=(al _ (List.mem_of_getElem? hl0)).1.at_;refine ⟨_,(db (Cb (i:=3) Gi.nd rfl (Or.inl rfl) (Ic (kc gd (kc Zb (pv 0) pb (fun _ _=>rfl)) pb (fun _ _=>rfl)) rfl))
   (db (Cb (i:=4) Gi.nd rfl (Or.inl rfl) pb)
   (db (Bd PassesOwn.never rfl (zd (Qe Tn (pv 0) (Tf pb) Ug)) (yb (i:=5) Gi.nd rfl (Or.inl rfl)) (qb (Cb (i:=4) Gi.nd rfl (Or.inl rfl) (Fb wf (pv 4) (pv 3)))))
   (db (Be (Rb qF (pv 4) (dg rfl T.Nv T.Xv) (Xb _)) (qb Dg) vc)
   (db (Cb (i:=6) Gi.nd rfl (Or.inl rfl) (xb g65 hr rfl T.Wr T.Xh.kp T.Tr .nil Db (ab (pv 0) (ab (pv 1) (ab (pv 2) fb)))))
   (qb (Gb (xb g21 hr rfl T.gm T.Wf.kp T.Pm .nil Db (ab (pv 6) (ab (Td (ab pb fb)) (ab (xb g22 hr rfl T.Nk T.kg.kp T.gl .nil Db (ab (xb g66 hr rfl T.av T.Xi.kp T.ju .nil Db (ab (pv 0) fb)) (ab (kc Zb (pv 6) pb (fun _ _=>rfl)) (ab pb fb)))) fb))))))))))),?_⟩
 refine zS (fun σ' H'=>H'=H∧σ'=[some (.ref lp),some (.ref fp),some (.ref bp),some (.int (z:Nat)),none,none,none]) (fun D' hD=>?_) fun zzM zzh=>?_
 ·walk_at "RD";exact ⟨_,SqL.of l1,_,Ac (j:=0) (by rw [List.getElem?_map,hq0];rfl),_,rfl,_,SqT.of e0,_,rfl,_,rfl,_,uu T hpl,hD _ _ ⟨rfl,rfl⟩⟩
 rintro σ1 H1 ⟨rfl,rfl⟩;subst zzh;refine zS (fun σ' H'=>H'=H1∧σ'=[some (.ref lp),some (.ref fp),some (.ref bp),some (.int (z:Nat)),some (.int 1),none,none]) (fun D' hD=>?_) fun zzM zzh=>?_
 ·walk_at "RD";exact hD _ _ ⟨rfl,rfl⟩
 rintro σ2 H2 ⟨rfl,rfl⟩;subst zzh;refine zS (fun σ' H'=>Jb H2 H'∧NoT H'∧∃ x5,σ'=[some (.ref lp),some (.ref fp),some (.ref bp),some (.int (z:Nat)),some (.int ((z:Int) ^ (ls.length - 1))),x5,none]) (fun D' hD=>?_) fun zzM zzh=>?_
 ·walk_at "RD";refine ⟨_,SqL.of l1,fun p hp=>?_⟩;have ec:zo (qs.map V.ref) (some 1) none=(qs.map V.ref).drop 1:=gz (k:=1) (by rw [List.length_map];omega);rw [ec];have hdl:((qs.map V.ref).drop 1).length=ls.length - 1:=by rw [List.length_drop,List.length_map,hql]
  refine ⟨⟨_,SqL.of cb⟩,?_⟩;refine Eh.list (xs:=(qs.map V.ref).drop 1) (fun i σ H'=>H'=upd H2 p (.lst ((qs.map V.ref).drop 1))∧∃ x5,σ=[some (.ref lp),some (.ref fp),some (.ref bp),some (.int (z:Nat)),some (.int ((z:Int) ^ i)),x5,none]) ⟨rfl,_,rfl⟩ ?_ ?_ ?_
  ·rintro i σ H' hi ⟨rfl,_⟩;exact SqL.of cb
  ·rintro i v σ H' hv ⟨rfl,x5,rfl⟩;have hi:i < ls.length - 1:=by rw [← hdl];exact (List.getElem?_eq_some_iff.mp hv).1
   have h1:=dM hz.1 (show i ≤ ls.length - 1 by omega);have h2:(0:Int) ≤ (z:Int) ^ i:=by rw [← Int.natCast_pow];omega
   walk_at "RD";exact ⟨.inl ⟨by omega,by omega⟩,(Int.pow_succ ..).symm,_,rfl⟩
  ·rintro σ H' ⟨rfl,x5,rfl⟩;rw [hdl];exact hD _ _ ⟨lb hp,nt.upd,_,rfl⟩
 rintro σ3 H3 ⟨s3,n3,x5,rfl⟩;subst zzh;refine zS (fun σ' H'=>H'=H3∧σ'=[some (.ref lp),some (.ref fp),some (.ref bp),some (.int (z:Nat)),some (.int ((z:Int) ^ (ls.length - 1))),x5,none]) (fun D' hD=>?_) fun zzM zzh=>?_
 ·refine Dc false (fun Q hQ=>?_) (fun c=>nomatch c) (fun _=>?_)
  ·walk_at "RD";rw [decide_eq_false (by omega)];exact hQ
  ·walk_at "RD";exact hD _ _ ⟨rfl,rfl⟩
 rintro σ4 H4 ⟨rfl,rfl⟩;have I4:=I.same s3;subst zzh;refine zS (fun σ' H'=>Jb H4 H'∧NoT H'∧∃ r,aB H' r (csL z fs bs ls)∧σ'=[some (.ref lp),some (.ref fp),some (.ref bp),some (.int (z:Nat)),some (.int ((z:Int) ^ (ls.length - 1))),x5,some (.ref r)]) (fun D' hD=>?_) fun zzM zzh=>?_
 ·walk_at "RD";exact ⟨lp,fp,bp,z,ls,fs,bs,rfl,I4,n3,fun r H' s' n' C=>hD _ _ ⟨s',n',r,C.cds,rfl⟩⟩
 rintro σ5 H5 ⟨s5,n5,r,C5,rfl⟩;obtain ⟨qc,d1,d2,d3⟩:=id C5;have hcl:=Iq z fs bs ls;have hqc:qc[0]? = some (qc[0]'(by omega)):=List.getElem?_eq_getElem _;have hcs:=xC (z:=z) (fs:=fs) (bs:=bs) hl0;have cr:=d3 0 _ _ hqc hcs;subst zzh;walk_at "RD";refine ⟨by decide,fun p hp=>?_⟩;have t0:=lb (o:=.lst [V.int 0]) hp;refine ⟨lp,z,ls,rfl,((I4.same s5).same t0).l,hln.1,hz,n5.upd,fun bw H6 s6 n6 B6=>?_⟩;have t06:=t0.trans s6;refine ⟨_,SqL.of (t06 _ _ d1),_,Ac (j:=0) (by rw [List.getElem?_map,hqc];rfl),?_⟩;have eF:Bf (csK z fs bs (ls[0]'(by omega)) 0).f ((csK z fs bs (ls[0]'(by omega)) 0).x - 0) (ts0 z)=grF z ls fs [0] 1:=by
  have:=Dz hz.1 (fs:=fs) (bs:=bs) (sh:=[0]) hl0;rwa [show grF z ls fs [0] 0=ts0 z from List.filter_eq_self.mpr fun _ _=>rfl] at this
 have eB:Bf (csK z fs bs (ls[0]'(by omega)) 0).b ((csK z fs bs (ls[0]'(by omega)) 0).y - 0) (ts0 z)=grB z ls bs [0] 1:=by
  have:=Jz hz.1 (fs:=fs) (bs:=bs) (sh:=[0]) hl0;rwa [show grB z ls bs [0] 0=ts0 z from List.filter_eq_self.mpr fun _ _=>rfl] at this
 refine ⟨bw,_,ts0 z,ts0 z,_,0,rfl,B6,cr.same t06,by show 0 < (frB z _ _).length∧(frB z _ _).length ≤ 1000;rw [Wq];exact hz,by show 0 < (frB z _ _).length∧(frB z _ _).length ≤ 1000;rw [Wq];exact hz,by rw [Bu];exact hz.2,by rw [Bu];exact hz.2,n6,fun b2 H7 s7 n7 B7=>?_⟩;rw [eF,eB] at B7;have g1:(grF z ls fs [0] 1).length ≤ 1000:=Nat.le_trans (List.length_filter_le ..) (by rw [Bu];exact hz.2);have g2:(grB z ls bs [0] 1).length ≤ 1000:=Nat.le_trans (List.length_filter_le ..) (by rw [Bu];exact hz.2);refine ⟨ls.length - 1,by omega,r,p,b2,csL z fs bs ls,[0],_,_,z,rfl,⟨(C5.same t06).same s7,s7 _ _ (s6 _ _ cb),B7,by omega,hz,fun c hc=>?_,g1,g2⟩,by show 1 + (ls.length - 1)=_;omega,n7,fun p' s' H' sx nx e1 e2 e3=>?_⟩
 ·obtain ⟨k,hk,rfl⟩:=List.mem_map.mp hc;have hk:=List.mem_range.mp hk;rw [List.getElem?_eq_getElem hk];exact ⟨Wq ..,Wq ..⟩
 ·have w:=((s3.trans s5).trans t06).trans s7;refine q p' s' H' (w.trans sx) nx e1 e2 ?_;rcases e3 with rfl | e3
  ·exact (s3.trans s5).free hp
  ·exact w.free e3
end
end My
namespace My
open PySem L2
noncomputable def nv (H:Hp) (z m:Nat) (os:List Addr):Prop:=∀ (i:Nat) (o:Addr),os[i]? = some o→∃ ss,H o=some (.lst (yc ss))∧ss.length=m∧InZ z ss
theorem nv.same {H H':Hp} {z m:Nat} {os:List Addr} (h:nv H z m os) (s:Jb H H'):nv H' z m os:=fun i o hi=>by
 obtain ⟨ss,e,r⟩:=h i o hi;exact ⟨ss,s _ _ e,r⟩
theorem nv.snoc {H:Hp} {z m:Nat} {os:List Addr} (h:nv H z m os) {o:Addr} {ss:List Int} (e:H o=some (.lst (yc ss))) (hl:ss.length=m) (hi:InZ z ss):nv H z m (os ++ [o]):=fun i o' hi'=>by
 rcases se hi' with ⟨_,h1⟩ | ⟨_,rfl⟩
 ·exact h i o' h1
 ·exact ⟨ss,e,hl,hi⟩
theorem nv.app {H:Hp} {z m:Nat} {os os':List Addr} (h:nv H z m os) (h':nv H z m os'):nv H z m (os ++ os'):=fun i o hi=>by
 rcases List.mem_append.mp (List.mem_of_getElem? hi) with z | z
 ·obtain ⟨j,hj⟩:=List.getElem?_of_mem z;exact h j o hj
 ·obtain ⟨j,hj⟩:=List.getElem?_of_mem z;exact h' j o hj
theorem nv.upd {H:Hp} {z m:Nat} {os:List Addr} (h:nv H z m os) (hm:0 < m) {p:Addr} {qs:List Addr} {o:HO} (e:H p=some (.lst (qs.map V.ref))):nv (upd H p o) z m os:=fun i b hi=>by
 obtain ⟨ss,e1,l,r⟩:=h i b hi;refine ⟨ss,?_,l,r⟩;rw [ub (ue e1 e (fun z=>by
  injection z with z;have h1:(yc ss)[0]? = (qs.map V.ref)[0]?:=by rw [z]
  rw [Jm (List.getElem?_eq_getElem (show 0 < ss.length by omega)),List.getElem?_map] at h1;cases e:qs[0]? with
  | none=>rw [e] at h1;cases h1
  | some y=>rw [e] at h1;cases h1))]
 exact e1
theorem InZ.one {z:Nat} {x:Int} (h:0 ≤ x∧x < (z:Int)):InZ z [x]:=fun y hy=>by rw [List.mem_singleton.mp hy];exact h
theorem InZ.cons {z:Nat} {x:Int} {ss:List Int} (h:0 ≤ x∧x < (z:Int)) (hs:InZ z ss):InZ z (x :: ss):=fun y hy=>by
 rcases List.mem_cons.mp hy with rfl | hy
 ·exact h
 ·exact hs y hy
noncomputable def ZD (K:PySem.W.Frag) (a:Addr) (ns:List Int):Sp:=fun vs H Q _=>∃ shp z m sh,vs=[.ref a,.int (z:Nat),.int (m:Nat),.ref shp]∧Sc K a ns H∧H shp=some (.lst (yc sh))∧sh.length=m∧InZ z sh∧(1 ≤ m∧m ≤ 4)∧(4 ≤ z∧z ≤ 8)∧∀ p os H',Jb H H'→Sc K a ns H'→H' p=some (.lst (os.map V.ref))→os.length ≤ 20→nv H' z m os→Q (.ref p) H'
section
variable {P:Program} {w:World} {K:PySem.W.Frag} {mg:Str→Option Value} {base:Heap} {t:Adr}
theorem XH (T:Txt w K mg t) (a:Addr) (ns:List Int) (h63:ns.length ≤ 63):Pb P w K mg base CX0 2 t.bh t.dh q50 (ZD K a ns):=by
 have g0:Pb P w K mg base CX0 1 t.tf t.sf q18 (kd K a ns):=lu T a ns h63;refine T.lj.ok af (fun vs H Q E h=>?_) (fun _ _ _ s H vs Q E hr h=>?_)
 ·obtain ⟨shp,z,m,sh,rfl,_⟩:=h;rfl
 obtain ⟨shp,z,m,sh,rfl,S,hs,hsl,hsz,hm,hz,q⟩:=h;have hbig:∀ k:Nat,k ≤ 1000→k ≤ sizeLine:=fun k h=>Nat.le_trans h (by decide)
 refine ⟨_,(db (Be (Rb Ji (pv 2) pb (Xb _)) (qb (Gb (ve rfl (uc rfl T.Zc (ab (pv 1) fb)) (jc (sc:=rb Le) rfl (by decide +kernel)) (N:=q55) (sel:=[none]) (Gc (M:=q33) (by decide +kernel)) (Blk.of (fun _ _ _ _=>(yb (i:=0) (Xe (N:=q55) (by decide +kernel) rfl) rfl (Or.inl rfl))) (fun _ _ _ _=>⟨_,Qd,by walk_at "B"⟩) (fun _ _ _ _=>⟨_,(Td (ab (pv 0) fb)),by walk_at "B"⟩))))) vc)
   (db (Be (Rb Ji (pv 2) pb (Xb _)) (qb (Gb (Fb GH (ve rfl (uc rfl T.Zc (ab (pv 1) fb)) (jc (sc:=rb Le) rfl (by decide +kernel)) (N:=q55) (sel:=[none]) (Gc (M:=q33) (by decide +kernel)) (Blk.of (fun _ _ _ _=>(yb (i:=0) (Xe (N:=q55) (by decide +kernel) rfl) rfl (Or.inl rfl))) (fun _ _ _ _=>⟨_,Qd,by walk_at "B"⟩) (fun _ _ _ _=>⟨_,(Td (ab pb (ab (pv 0) fb))),by walk_at "B"⟩))) (ve rfl (uc rfl T.Zc (ab (pv 1) fb)) (jc (sc:=rb Le) rfl (by decide +kernel)) (N:=["_law_shift","_law_size"]) (sel:=[none,some 1]) (Gc (M:=q33) (by decide +kernel)) (Blk.of (fun _ _ _ _=>(yb (i:=0) (Xe (N:=["_law_shift","_law_size"]) (by decide +kernel) rfl) rfl (Or.inl rfl))) (fun _ _ _ _=>⟨_,Qd,by walk_at "B"⟩) (fun _ _ _ _=>⟨_,(Td (ab (Fb De (pv 1) pb) (ab (pv 0) fb))),by walk_at "B"⟩)))))) vc)
   (db (Cb (i:=4) af.nd rfl (Or.inl rfl) (Td fb))
   (db (Bd PassesOwn.never rfl (uc rfl T.Zc (ab pb fb)) (yb (i:=5) af.nd rfl (Or.inr rfl)) (db (bg (i:=6) af.nd rfl (Or.inl rfl) rfl (uc rfl T.Zc (ab (pv 2) fb)) (jc (sc:=rb Le) rfl (by decide +kernel)) (N:=["_law_n","_law_script","_law_k","_law_size"]) (sel:=[none,some 0,some 5,some 1]) (Gc (M:=q33) (by decide +kernel)) (Blk.of (fun _ _ _ _=>(yb (i:=0) (Xe (N:=["_law_n","_law_script","_law_k","_law_size"]) (by decide +kernel) rfl) rfl (Or.inl rfl))) (fun _ _ _ _=>⟨_,Qd,by walk_at "B"⟩) (fun _ _ _ _=>⟨_,(xb g0 hr rfl T.Ub T.Qb.kp T.Tb .nil Db (ab (pv 1) (ab (Fb fc (Fb fc pb (Fb wf pb (pv 2))) (pv 0)) (ab (pv 3) fb)))),by walk_at "B"⟩)) rfl)
   (db (Be (Rb Ji (Fb Uf (pv 5) pb) pb (Xb _)) (db (Cb (i:=6) af.nd rfl (Or.inl rfl) (Vc Fe rfl T.oj Sd (ab (pv 3) fb)))
   (qb (Vj (xb g0 hr rfl T.Ub T.Qb.kp T.Tb .nil Db (ab (pv 0) (ab (Fb fc pb (Fb wf pb (pv 5))) (ab (pv 1) fb)))) (Pq (pv 6) (xb g0 hr rfl T.Ub T.Qb.kp T.Tb .nil Db (ab (pv 0) (ab (Fb fc pb (Fb wf pb (pv 5))) (ab (pv 2) fb)))) Wi)))) vc)
   (qb (Fc (Vi PySem.F.plainAttrs_list PySem.F.slot_list_append PySem.F.type_list_append qe (pv 4) (ab (pv 6) fb)))))))
   (qb (Gb (pv 4))))))),?_⟩
 simp only [zb];refine Hb (fun σ' H'=>H'=H∧m ≠ 1∧σ'=[some (.ref a),some (.int (z:Nat)),some (.int (m:Nat)),some (.ref shp),none,none,none]) (fun D' hD hrt _ _=>?_) ?_
 ·refine Dc (decide (m=1)) (fun Q hQ=>?_) (fun cc=>?_) (fun cc=>?_)
  ·walk_at "RD";rw [show decide ((m:Int)=1)=decide (m=1) from decide_eq_decide.mpr (by omega)];exact hQ
  ·have cc:=of_decide_eq_true cc;walk_at "RD";refine ⟨by omega,by omega,?_⟩;refine ed.range (n:=z) (fun k ys H2=>Jb H H2∧Sc K a ns H2∧∃ os:List Addr,ys=os.map V.ref∧os.length=k∧nv H2 z m os) (hbig _ (by omega)) ⟨Jb.refl _,S,[],rfl,rfl,fun i o h=>by simp at h⟩ ?_ ?_ ?_
   ·rintro k ys H2 hk zzq;refine zP fun zzM zzh=>?_
    obtain ⟨_,_,os,rfl,ho,_⟩:=zzq;subst zzh;rw [List.length_map,ho];exact Nat.le_refl _
   ·rintro k ys H2 hk ⟨s2,S2,os,rfl,ho,O⟩ N hN;walk_at "RD";refine ⟨Sub.name,by decide,fun p hp=>hN _ _ ⟨s2.trans (lb hp),S2.new hp,os ++ [p],by rw [List.map_append];rfl,by rw [List.length_append,ho];rfl,(O.same (lb hp)).snoc (ss:=[(k:Int)]) cb (by rw [cc];rfl) (InZ.one (by omega))⟩⟩
   ·rintro ys H2 ⟨s2,S2,os,rfl,ho,O⟩ p hp;rw [hrt];exact q p os _ (s2.trans (lb hp)) (S2.new hp) cb (by omega) (O.same (lb hp))
  ·walk_at "RD";exact hD _ _ ⟨rfl,of_decide_eq_false cc,rfl⟩
 rintro σ1 H1 ⟨rfl,hm1,rfl⟩;simp only [zb];refine Hb (fun σ' H'=>H'=H1∧σ'=[some (.ref a),some (.int (z:Nat)),some (.int (m:Nat)),some (.ref shp),none,none,none]) (fun D' hD hrt _ _=>?_) ?_
 ·refine Dc (decide (m=2)) (fun Q hQ=>?_) (fun cc=>?_) (fun cc=>?_)
  ·walk_at "RD";rw [show decide ((m:Int)=2)=decide (m=2) from decide_eq_decide.mpr (by omega)];exact hQ
  ·have cc:=of_decide_eq_true cc;walk_at "RD";refine ⟨by omega,by omega,?_⟩;refine ed.range (n:=z) (fun k ys H2=>Jb H1 H2∧Sc K a ns H2∧∃ os:List Addr,ys=os.map V.ref∧os.length=k∧nv H2 z m os) (hbig _ (by omega)) ⟨Jb.refl _,S,[],rfl,rfl,fun i o h=>by simp at h⟩ ?_ ?_ ?_
   ·rintro k ys H2 hk zzq;refine zP fun zzM zzh=>?_
    obtain ⟨_,_,os,rfl,ho,_⟩:=zzq;subst zzh;rw [List.length_map,ho];exact Nat.le_refl _
   ·rintro k ys H2 hk ⟨s2,S2,os,rfl,ho,O⟩ N hN;walk_at "RD";refine ⟨Sub.name,by decide,fun p hp=>hN _ _ ⟨s2.trans (lb hp),S2.new hp,os ++ [p],by rw [List.map_append];rfl,by rw [List.length_append,ho];rfl,(O.same (lb hp)).snoc (ss:=[0,(k:Int)]) cb (by rw [cc];rfl) (InZ.cons (by omega) (InZ.one (by omega)))⟩⟩
   ·rintro ys H2 ⟨s2,S2,os,rfl,ho,O⟩ p hp;have t2:=lb (o:=.lst (os.map V.ref)) hp;have O2:=O.same t2;have S3:=S2.new hp (o:=.lst (os.map V.ref));have e2:=cb (H:=H2) (a:=p) (o:=.lst (os.map V.ref));have s3:=s2.trans t2;generalize upd H2 p (.lst (os.map V.ref))=H3 at O2 S3 e2 s3 ⊢;walk_at "RD";refine ⟨by omega,by omega,?_⟩;refine ed.range (n:=z) (fun k ys H4=>Jb H3 H4∧Sc K a ns H4∧∃ os:List Addr,ys=os.map V.ref∧os.length=k∧nv H4 z m os) (hbig _ (by omega)) ⟨Jb.refl _,S3,[],rfl,rfl,fun i o h=>by simp at h⟩ ?_ ?_ ?_
    ·rintro k ys H4 hk zzq;refine zP fun zzM zzh=>?_
     obtain ⟨_,_,os,rfl,ho,_⟩:=zzq;subst zzh;rw [List.length_map,ho];exact Nat.le_refl _
    ·rintro k ys H4 hk ⟨s4,S4,os',rfl,ho',O4⟩ N hN;walk_at "RD";refine ⟨Sub.name,by decide,fun p hp=>hN _ _ ⟨s4.trans (lb hp),S4.new hp,os' ++ [p],by rw [List.map_append];rfl,by rw [List.length_append,ho'];rfl,(O4.same (lb hp)).snoc (ss:=[(z:Int) - 1,(k:Int)]) cb (by rw [cc];rfl) (InZ.cons (by omega) (InZ.one (by omega)))⟩⟩
    ·rintro ys H4 ⟨s4,S4,os',rfl,ho',O4⟩ p' hp';have t4:=lb (o:=.lst (os'.map V.ref)) hp';walk_at "RD";refine ⟨_,t4 _ _ (s4 _ _ e2),_,cb,hbig _ (by rw [List.length_map,List.length_map];omega),fun p5 hp5=>?_⟩;rw [hrt];have t5:=lb (o:=.lst (os.map V.ref ++ os'.map V.ref)) hp5;exact q p5 (os ++ os') _ (((s3.trans s4).trans t4).trans t5) ((S4.new hp').new hp5) (by rw [cb,List.map_append]) (by rw [List.length_append];omega) ((((O2.same s4).app O4).same t4).same t5)
  ·walk_at "RD";exact hD _ _ ⟨rfl,rfl⟩
 rintro σ2 H2 ⟨rfl,rfl⟩;simp only [zb];refine zzC (fun σ' H'=>Jb H2 H'∧Sc K a ns H'∧∃ p,H2 p=none∧H' p=some (.lst [])∧σ'=[some (.ref a),some (.int (z:Nat)),some (.int (m:Nat)),some (.ref shp),some (.ref p),none,none]) (fun D' hD=>?_) fun zzM zzh=>?_
 ·walk_at "RD";exact ⟨Nat.zero_le _,fun p hp=>hD _ _ ⟨lb hp,S.new hp,p,hp,cb,rfl⟩⟩
 rintro σ3 H3 ⟨s3,S3,p,hp,w3,rfl⟩;subst zzh;walk_at "RD";refine ⟨by decide,by decide,?_⟩;refine Eh.range (n:=12) (fun k σ H'=>Jb H2 H'∧Sc K a ns H'∧(∃ os:List Addr,H' p=some (.lst (os.map V.ref))∧os.length=k∧nv H' z m os)∧∃ x5 x6,σ=[some (.ref a),some (.int (z:Nat)),some (.int (m:Nat)),some (.ref shp),some (.ref p),x5,x6]) ⟨s3,S3,⟨[],w3,rfl,fun i o h=>by simp at h⟩,_,_,rfl⟩ ?_ ?_
 ·rintro k σ HA hk zzq;refine zP fun zzM zzh=>?_
  obtain ⟨sA,SA,⟨os,eA,ho,O⟩,x5,x6,rfl⟩:=zzq;have hk12:k < 12:=hk;subst zzh;simp only [Rf,zb,List.set_cons_succ,List.set_cons_zero,Int.zero_add];refine zzC (fun σ' H'=>Jb HA H'∧Sc K a ns H'∧∃ o ss,H' o=some (.lst (yc ss))∧ss.length=m∧InZ z ss∧σ'=[some (.ref a),some (.int (z:Nat)),some (.int (m:Nat)),some (.ref shp),some (.ref p),some (.int (k:Nat)),some (.ref o)]) (fun D' hD=>?_) fun zzM zzh=>?_
  ·walk_at "RD";refine ⟨by omega,by omega,?_⟩;refine ed.range_map (n:=m) (fun (j:Nat)=>V.int (fh ns (300 + 7 * (k:Int) + (j:Int)) z)) (hbig _ (by omega)) (fun j N hj hN=>?_) (fun o hp'=>?_)
   ·(walk_at "RD"; repeat (simp only [kd];walk_at "RD"));exact ⟨Sub.name,.inl ⟨by decide,by decide⟩,SA,by omega,by omega,by omega,hN⟩
   ·refine hD _ _ ⟨lb hp',SA.new hp',o,(List.range m).map fun (j:Nat)=>fh ns (300 + 7 * (k:Int) + (j:Int)) z,?_,by simp,fun x hx=>?_,rfl⟩
    ·rw [cb];unfold yc;rw [List.map_map];rfl
    ·obtain ⟨j,_,rfl⟩:=List.mem_map.mp hx;exact ⟨ge ns _ (by omega),ce ns _ (by omega)⟩
  rintro σB HB ⟨sB,SB,o,ss,eo,hl,hi,rfl⟩;subst zzh;simp only [zb];refine zzC (fun σ' H'=>Jb HA H'∧Sc K a ns H'∧∃ o ss,H' o=some (.lst (yc ss))∧ss.length=m∧InZ z ss∧σ'=[some (.ref a),some (.int (z:Nat)),some (.int (m:Nat)),some (.ref shp),some (.ref p),some (.int (k:Nat)),some (.ref o)]) (fun D' hD=>?_) fun zzM zzh=>?_
  ·refine Dc (decide (k % 2=0)) (fun Q hQ=>?_) (fun cc=>?_) (fun cc=>?_)
   ·walk_at "RD";refine ⟨by decide,?_⟩;rw [show decide ((k:Int) % 2=0)=decide (k % 2=0) from decide_eq_decide.mpr (by omega)];exact hQ
   ·have j0:=ge ns (300 + 7 * (k:Int)) (m:=m) (by omega);have j1:=ce ns (300 + 7 * (k:Int)) (m:=m) (by omega);have v0:=ge ns (301 + 7 * (k:Int)) (m:=z) (by omega);have v1:=ce ns (301 + 7 * (k:Int)) (m:=z) (by omega);have hsB:=sB _ _ (sA _ _ hs);(walk_at "RD"; repeat (simp only [kd];walk_at "RD"));refine ⟨_,.inl (SqL.of hsB),fun l n1=>?_⟩;have t1:=lb (o:=.lst (yc sh)) n1;refine ⟨.inl ⟨by decide,by decide⟩,SB.new n1,by omega,by omega,by omega,.inl ⟨by decide,by decide⟩,SB.new n1,by omega,by omega,by omega,_,cb,(fh ns (300 + 7 * (k:Int)) m).toNat,?_,hD _ _ ⟨(sB.trans t1).updN (sB.free n1),(SB.new n1).set cb (fun _ _ z=>by cases z),l,sh.set (fh ns (300 + 7 * (k:Int)) m).toNat (fh ns (301 + 7 * (k:Int)) z),?_,by rw [List.length_set];exact hsl,fun x hx=>?_,rfl⟩⟩
    ·rw [ie,hsl];have:=DH (m:=m) (by omega) (fh ns (300 + 7 * (k:Int)) m);rwa [Int.emod_eq_of_lt j0 j1] at this
    ·rw [cb];unfold yc;rw [List.map_set]
    ·rcases List.mem_or_eq_of_mem_set hx with hx | rfl
     ·exact hsz x hx
     ·exact ⟨v0,v1⟩
   ·walk_at "RD";exact hD _ _ ⟨sB,SB,o,ss,eo,hl,hi,rfl⟩
  rintro σC HC ⟨sC,SC,o',ss',eo',hl',hi',rfl⟩;have eC:=sC _ _ eA;subst zzh;walk_at "RD";refine ⟨.inl ⟨_,SqL.of eC⟩,_,eC,Nat.lt_of_le_of_lt (show (os.map V.ref).length ≤ 20 by rw [List.length_map];omega) (by decide),(sA.trans sC).updN hp,SC.set eC (fun _ _ z=>by cases z),⟨os ++ [o'],by rw [cb,List.map_append];rfl,by rw [List.length_append,ho];rfl,((O.same sC).snoc eo' hl' hi').upd (by omega) eC⟩,?_⟩;exact ⟨_,rfl⟩
 ·rintro σ H' zzq;refine zP fun zzM zzh=>?_
  obtain ⟨sx,S',⟨os,e,ho,O⟩,x5,x6,rfl⟩:=zzq;subst zzh;walk_at "RD";exact q p os H' sx S' e (by rw [ho];decide) O
end
end My
namespace My
open PySem L2
theorem KM {z:Nat} {ls:List LD} {pss:PSS} (hr:oA z ls pss) (hl:pss.length=ls.length) (fs sh:List Int):grF z ls fs sh ls.length=lgF z pss fs sh z:=by
 unfold grF lgF;refine List.filter_congr fun t _=>?_
 unfold gA;rw [hl,Bool.eq_iff_iff,List.all_eq_true,List.all_eq_true];have key:∀ k,k ∈ List.range ls.length→frK z ls LD.d k (t + Hw fs sh k)=frP z pss Prod.fst k (t + Hw fs sh k):=fun k hk=>by
  have hk:=List.mem_range.mp hk;have h1:ls[k]? = some ls[k]:=List.getElem?_eq_getElem hk;have h2:pss[k]? = some (pss[k]'(by omega)):=List.getElem?_eq_getElem _;unfold frK frP;rw [h1,h2];exact (hr k _ _ h1 h2).1 _
 exact ⟨fun h k hk=>by rw [← key k hk];exact h k hk,fun h k hk=>by rw [key k hk];exact h k hk⟩
theorem nK {z:Nat} {ls:List LD} {pss:PSS} (hr:oA z ls pss) (hl:pss.length=ls.length) {bs:List Int} (sh:List Int) (hb:∀ x ∈ bs,0 ≤ x):(grB z ls bs sh ls.length).length=(lgB z pss bs sh z).length:=by
 have key:∀ x k,k ∈ List.range ls.length→frK z ls LD.e k x=frP z pss Prod.snd k x:=fun x k hk=>by
  have hk:=List.mem_range.mp hk;have h1:ls[k]? = some ls[k]:=List.getElem?_eq_getElem hk;have h2:pss[k]? = some (pss[k]'(by omega)):=List.getElem?_eq_getElem _;unfold frK frP;rw [h1,h2];exact (hr k _ _ h1 h2).2 _
 have e1:grB z ls bs sh ls.length=(ts0 z).filter (gA (frP z pss Prod.snd) (pE bs sh) pss.length):=by
  unfold grB;refine List.filter_congr fun t _=>?_
  unfold gA;rw [hl,Bool.eq_iff_iff,List.all_eq_true,List.all_eq_true];exact ⟨fun h k hk=>by rw [← key _ k hk];exact h k hk,fun h k hk=>by rw [key _ k hk];exact h k hk⟩
 have n0:=NG hb;have per:∀ x,gA (frP z pss Prod.snd) (pE bs sh) pss.length (x + z)=gA (frP z pss Prod.snd) (pE bs sh) pss.length x:=fun x=>by
  unfold gA;refine List.all_congr rfl fun k=>?_
  unfold frP;cases pss[k]? with
  | none=>rfl
  | some s=>
   show Nl s.2 z (x + z + pE bs sh k)=Nl s.2 z (x + pE bs sh k);rw [show x + (z:Int) + pE bs sh k=(x + pE bs sh k) + z by omega,QC]
 rw [e1,← Tv per bs.sum.toNat];unfold lgB;congr 1;refine List.filter_congr fun t _=>?_
 unfold gA;refine List.all_congr rfl fun k=>?_
 congr 1;unfold pE qy;have:=YC bs k;rw [Int.toNat_of_nonneg n0];omega
theorem Cm.copy {t:Adr} {H:Hp} {z:Nat} {p q:Addr} {ls:List LD} {qs:List Addr} (h:Cm t H z p ls) (e:H p=some (.lst (qs.map V.ref))) (e':H q=some (.lst (qs.map V.ref))):Cm t H z q ls:=by
 obtain ⟨⟨qs',l1,l2⟩,al⟩:=h;rw [e] at l1;have e1:=Option.some.inj l1;injection e1 with e1;have e2:qs=qs':=(List.map_inj_right (fun x y h=>by injection h)).mp e1;subst e2;exact ⟨⟨qs,e',l2⟩,al⟩
theorem PK {K:PySem.W.Frag}:PySem.W.kitOne K (.type "tuple") (.type "tuple")=some true:=by
 unfold PySem.W.kitOne;rfl
theorem Zy {K:PySem.W.Frag}:PySem.W.kitOne K (.type "int") (.type "bool")=some false:=by
 unfold PySem.W.kitOne;rfl
theorem vG (n:Nat):(List.range n).all (fun _=>true)=true:=List.all_eq_true.mpr fun _ _=>rfl
theorem MI {K:PySem.W.Frag} {H:Hp} {p q:Addr} {x y:Int} (k:Nat) (h:H p=some (.tup [.int x,.int y])) (h':H q=some (.tup [.int x,.int y])):EqH K H (k + 1) (.ref p) (.ref q) true:=by
 have:=EqH.tup (k:=k) (e:=fun _=>true) (SqT.of (K:=K) h) (SqT.of h') (fun j u v h1 h2=>by
  rw [h1] at h2;cases h2;have hf:Aj u=true:=by
   match j,h1 with
   | 0,h1=>cases h1;rfl
   | 1,h1=>cases h1;rfl
  have:=EqH.flat (K:=K) (H:=H) (k:=k) hf hf;rwa [Ny hf] at this)
 exact this
theorem YJ {K:PySem.W.Frag} {H:Hp} {p q:Addr} {l:List Int} (k:Nat) (h:H p=some (.lst (yc l))) (h':H q=some (.lst (yc l))):EqH K H (k + 1) (.ref p) (.ref q) true:=by
 have:=EqH.flats (k:=k) (SqL.of (K:=K) h) (SqL.of h') (fun x hx y hy=>by
  obtain ⟨i,_,rfl⟩:=List.mem_map.mp hx;obtain ⟨j,_,rfl⟩:=List.mem_map.mp hy
  rfl)
 rwa [decide_eq_true rfl] at this
theorem kK {K:PySem.W.Frag}:PySem.W.kitOne K (.type "list") (.type "list")=some true:=by
 unfold PySem.W.kitOne;rfl
theorem su {a b c:V}:¬ (HT.sIx [a,b,c].length 0 none=0∧HT.sIx [a,b,c].length [a,b,c].length (some 2)=[a,b,c].length):=by
 show ¬ (HT.sIx 3 0 none=0∧HT.sIx 3 3 (some 2)=3);decide
theorem nL {K:PySem.W.Frag}:PySem.W.kitOne K (.type "int") (.type "int")=some true:=by
 unfold PySem.W.kitOne;rfl
section
variable {P:Program} {w:World} {K:PySem.W.Frag} {mg:Str→Option Value} {base:Heap} {t:Adr}
theorem RJ (T:Txt w K mg t):Pb P w K mg base CX0 11 t.cI t.nF q25 (UL K):=by
 refine T.BM.ok rh (fun vs H Q E h=>?_) (fun _ _ _ s H vs Q E hr h=>?_)
 ·obtain ⟨a,ns,rfl,_⟩:=h;rfl
 obtain ⟨a,ns,rfl,S0,h63,q⟩:=h;have g0:Pb P w K mg base CX0 10 t.tf t.sf q18 (kd K a ns):=(lu T a ns h63).mono (by decide);have g67:Pb P w K mg base CX0 10 t.Qi t.dj q25 (Pz K t a ns):=(EE T a ns h63).mono (by decide);have g23:Pb P w K mg base CX0 10 t.Ih t.Rh q49 Kw:=(MD T).mono (by decide);have g68:Pb P w K mg base CX0 10 t.bh t.dh q50 (ZD K a ns):=(XH T a ns h63).mono (by decide);have g29:Pb P w K mg base CX0 10 t.yp t.qp q11 (jD t):=fJ T;have hbig:∀ k:Nat,k ≤ 1000→k ≤ sizeLine:=fun k h=>Nat.le_trans h (by decide)
 have hU:=hr.units;have hu:=Zw hr;refine ⟨_,(db (Cb (i:=1) rh.nd rfl (Or.inl rfl) (xb g67 hr rfl T.Ex T.Rl.kp T.jy .nil Db (ab (pv 0) fb)))
   (db (Cb (i:=2) rh.nd rfl (Or.inl rfl) (kc gd (pv 1) pb (fun _ _=>rfl)))
   (db (Cb (i:=3) rh.nd rfl (Or.inl rfl) (kc gd (pv 1) pb (fun _ _=>rfl)))
   (db (Cb (i:=4) rh.nd rfl (Or.inr rfl) (up (Rb Ji (xb g0 hr rfl T.Ub T.Qb.kp T.Tb .nil Db (ab (pv 0) (ab pb (ab pb fb)))) pb (Xb _)) pb pb))
   (db (bg (i:=5) rh.nd rfl (Or.inl rfl) rfl (uc rfl T.Zc (ab (Fb De (Ib Eb rfl T.Yf Ob (ab (pv 3) fb)) pb) fb)) (jc (sc:=rb mG) rfl (by decide +kernel)) (N:=q56) (sel:=[none,some 0,some 4]) (Gc (M:=q58) (by decide +kernel)) (Blk.of (fun _ _ _ _=>(yb (i:=0) (Xe (N:=q56) (by decide +kernel) rfl) rfl (Or.inl rfl))) (fun _ _ _ _=>⟨_,Qd,by walk_at "B"⟩) (fun _ _ _ _=>⟨_,(xb g0 hr rfl T.Ub T.Qb.kp T.Tb .nil Db (ab (pv 1) (ab (Fb fc pb (pv 0)) (ab (pv 2) fb)))),by walk_at "B"⟩)) rfl)
   (db (bg (i:=6) rh.nd rfl (Or.inl rfl) rfl (uc rfl T.Zc (ab (Fb De (Ib Eb rfl T.Yf Ob (ab (pv 3) fb)) pb) fb)) (jc (sc:=rb mG) rfl (by decide +kernel)) (N:=q56) (sel:=[none,some 0,some 4]) (Gc (M:=q58) (by decide +kernel)) (Blk.of (fun _ _ _ _=>(yb (i:=0) (Xe (N:=q56) (by decide +kernel) rfl) rfl (Or.inl rfl))) (fun _ _ _ _=>⟨_,Qd,by walk_at "B"⟩) (fun _ _ _ _=>⟨_,(xb g0 hr rfl T.Ub T.Qb.kp T.Tb .nil Db (ab (pv 1) (ab (Fb fc pb (pv 0)) (ab (pv 2) fb)))),by walk_at "B"⟩)) rfl)
   (db (Cb (i:=7) rh.nd rfl (Or.inl rfl) (Td (ab (Vc Fe rfl T.oj Sd (ab (pv 3) fb)) (ab (Vc Fe rfl T.oj Sd (ab (pv 5) fb)) (ab (Vc Fe rfl T.oj Sd (ab (pv 6) fb)) fb)))))
   (db (Cb (i:=8) rh.nd rfl (Or.inl rfl) (xb g29 hr rfl T.Oz T.gp.kp T.cz .nil Db (ab (kc Zb (pv 7) pb (fun _ _=>rfl)) (ab (kc Zb (pv 7) pb (fun _ _=>rfl)) (ab (kc Zb (pv 7) pb (fun _ _=>rfl)) fb)))))
   (db (Be (PW.pt (Fm (xo (Ki (Ib vk rfl T.Af vd (ab (pv 8) (ab (Hn (v:=.ty "tuple") rfl T.SI Mw rfl) fb))))) (Fm (Rb qw (Ib Eb rfl T.Yf Ob (ab (pv 8) fb)) pb (Xb _)) (Fm (Rb qw (Ib Eb rfl T.Yf Ob (ab (kc Zb (pv 7) pb (fun _ _=>rfl)) fb)) (Ib Eb rfl T.Yf Ob (ab (pv 3) fb)) (Xb _)) (Wm (Rb (JH hU) (Qe Tn (pv 7) (Tf pb) Ug) (Td (ab (pv 5) (ab (pv 6) fb))) (Xb _))))))) (qb (Gb En)) vc)
   (db (Cb (i:=9) rh.nd rfl (Or.inl rfl) (kc gd (pv 8) pb (fun _ _=>rfl)))
   (db (Be (PW.pt (Fm (xo (Ki (Ib vk rfl T.Af vd (ab (pv 9) (ab (Hn (v:=.ty "list") rfl T.oj Sd rfl) fb))))) (Fm (Rb qw (Ib Eb rfl T.Yf Ob (ab (pv 9) fb)) (Ib Eb rfl T.Yf Ob (ab (pv 3) fb)) (Xb _)) (Wm (Rb qw (kc Zb (pv 9) pb (fun _ _=>rfl)) pb (Xb _)))))) (qb (Gb En)) vc)
   (db (Bd PassesOwn.never rfl (zd (pv 9)) (yb (i:=10) rh.nd rfl (Or.inl rfl)) (qb (Be (PW.pt (Fm (xo (Ki (Ib vk rfl T.Af vd (ab (pv 10) (ab (Hn (v:=.ty "int") rfl T.WF wk rfl) fb))))) (Fm (Ki (Ib vk rfl T.Af vd (ab (pv 10) (ab (Hn (v:=.ty "bool") rfl T.ND Wl rfl) fb)))) (Fm (Rb Xo (pv 10) pb (Xb _)) (Wm (Rb AM (pv 10) (pv 2) (Xb _))))))) (qb (Gb En)) vc)))
   (db (Be (PW.pt (Fm (Ki (Ib vk rfl T.Af vd (ab (kc gd (pv 8) pb (fun _ _=>rfl)) (ab (Hn (v:=.ty "bool") rfl T.ND Wl rfl) fb)))) (Wm (Ki (Ib vk rfl T.Af vd (ab (kc gd (pv 8) pb (fun _ _=>rfl)) (ab (Hn (v:=.ty "bool") rfl T.ND Wl rfl) fb))))))) (qb (Gb En)) vc)
   (db (Be (Rb (JH hU) (Qe Gz (pv 8) Ug (Tf pb)) (xb g23 hr rfl T.Nj T.Qg.kp T.Hj .nil Db (ab (pv 2) (ab (kc gd (pv 1) pb (fun _ _=>rfl)) (ab (pv 5) (ab (pv 6) (ab (pv 9) fb)))))) (Xb _)) (qb (Gb En)) vc)
   (db (Cb (i:=11) rh.nd rfl (Or.inl rfl) (Yg (ab (Ib (Yp rfl) rfl T.DF Qn (ab (kc gd (pv 8) pb (fun _ _=>rfl)) (ab (kc gd (pv 8) pb (fun _ _=>rfl)) fb))) (ab (Fb fc (kc gd (pv 8) pb (fun _ _=>rfl)) (kc gd (pv 8) pb (fun _ _=>rfl))) fb))))
   (db (Bd PassesOwn.never rfl (zd (xb g68 hr rfl T.Ou T.lj.kp T.cu .nil Db (ab (pv 0) (ab (pv 2) (ab (Ib Eb rfl T.Yf Ob (ab (pv 3) fb)) (ab (pv 9) fb)))))) (yb (i:=12) rh.nd rfl (Or.inl rfl)) (db (Cb (i:=13) rh.nd rfl (Or.inl rfl) (xb g23 hr rfl T.Nj T.Qg.kp T.Hj .nil Db (ab (pv 2) (ab (kc gd (pv 1) pb (fun _ _=>rfl)) (ab (pv 5) (ab (pv 6) (ab (pv 12) fb)))))))
   (qb (Be (Rb (BH (Nat.lt_of_succ_lt hu)) (Yg (ab (Ib (Yp rfl) rfl T.DF Qn (ab (kc gd (pv 13) pb (fun _ _=>rfl)) (ab (kc gd (pv 13) pb (fun _ _=>rfl)) fb))) (ab (Fb fc (kc gd (pv 13) pb (fun _ _=>rfl)) (kc gd (pv 13) pb (fun _ _=>rfl))) fb))) (pv 11) (Xb _)) (qb (Gb En)) vc))))
   (db (Fc (Vi PySem.F.plainAttrs_list PySem.F.slot_list_append PySem.F.type_list_append qe (pv 9) (ab pb fb)))
   (db (Cb (i:=14) rh.nd rfl (Or.inl rfl) (xb g29 hr rfl T.Oz T.gp.kp T.cz .nil Db (ab (Vc Fe rfl T.oj Sd (ab (pv 3) fb)) (ab (Vc Fe rfl T.oj Sd (ab (pv 5) fb)) (ab (Vc Fe rfl T.oj Sd (ab (pv 6) fb)) fb)))))
   (qb (Gb (qB (Ef (VG hU) (Qe Gz (pv 14) Ug (Tf pb)) (Qe Gz (pv 8) Ug (Tf pb)) (Xb _)) (fw (Ef (VG hU) (xb g23 hr rfl T.Nj T.Qg.kp T.Hj .nil Db (ab (pv 2) (ab (kc gd (pv 1) pb (fun _ _=>rfl)) (ab (pv 5) (ab (pv 6) (ab (kc gd (pv 14) pb (fun _ _=>rfl)) fb)))))) (Qe Gz (pv 8) Ug (Tf pb)) (Xb _)))))))))))))))))))))))),?_⟩
 refine zS (fun σ' H'=>Sc K a ns H'∧(∃ r z lp sl qs rs ls pss,H' r=some (.tup [.int (z:Nat),.ref lp,.ref sl])∧LS t H' z lp sl qs rs ls pss∧(4 ≤ z∧z ≤ 8)∧(1 ≤ ls.length∧ls.length ≤ 4)∧pss.length=ls.length∧oA z ls pss∧σ'=[some (.ref a),some (.ref r),none,none,none,none,none,none,none,none,none,none,none,none,none])) (fun D' hD=>?_) fun zzM zzh=>?_
 ·walk_at "RD";exact ⟨rfl,S0,fun r z lp sl qs rs ls pss H' s1 S1 e L hz hl hp hrl=>hD _ _ ⟨S1,r,z,lp,sl,qs,rs,ls,pss,e,L,hz,hl,hp,hrl,rfl⟩⟩
 rintro σ1 H1 ⟨S1,r,z,lp,sl,qs,rs,ls,pss,e1,L1,hz,hls,hps,hrel,rfl⟩;subst zzh;refine zS (fun σ' H'=>H'=H1∧σ'=[some (.ref a),some (.ref r),some (.int (z:Nat)),none,none,none,none,none,none,none,none,none,none,none,none]) (fun D' hD=>?_) fun zzM zzh=>?_
 ·walk_at "RD";exact ⟨_,SqT.of e1,_,rfl,hD _ _ ⟨rfl,rfl⟩⟩
 rintro σ2 H2 ⟨rfl,rfl⟩;subst zzh;refine zS (fun σ' H'=>H'=H2∧σ'=[some (.ref a),some (.ref r),some (.int (z:Nat)),some (.ref lp),none,none,none,none,none,none,none,none,none,none,none]) (fun D' hD=>?_) fun zzM zzh=>?_
 ·walk_at "RD";exact ⟨_,SqT.of e1,_,rfl,hD _ _ ⟨rfl,rfl⟩⟩
 rintro σ3 H3 ⟨rfl,rfl⟩;obtain ⟨wd,hwd,hwd1⟩:∃ wd:Int,wd=(if fh ns 50 3=0 then 1000 else 21)∧(1 ≤ wd∧wd ≤ 1000):=⟨_,rfl,by split <;> omega,by split <;> omega⟩;subst zzh;refine zS (fun σ' H'=>H'=H3∧σ'=[some (.ref a),some (.ref r),some (.int (z:Nat)),some (.ref lp),some (.int wd),none,none,none,none,none,none,none,none,none,none]) (fun D' hD=>?_) fun zzM zzh=>?_
 ·(walk_at "RD"; repeat (simp only [kd];walk_at "RD"));refine ⟨S1,by omega,by omega,by decide,?_⟩;by_cases h:fh ns 50 3=0
  ·rw [if_pos (decide_eq_true h)];exact hD _ _ ⟨rfl,by rw [hwd,if_pos h]⟩
  ·rw [if_neg (by simpa using h)];exact hD _ _ ⟨rfl,by rw [hwd,if_neg h]⟩
 rintro σ4 H4 ⟨rfl,rfl⟩;obtain ⟨m,hm⟩:∃ m,ls.length=m + 1:=⟨ls.length - 1,by omega⟩;have hql:qs.length=m + 1:=by rw [L1.ql,hm]
 subst zzh;refine zS (fun σ' H'=>Jb H4 H'∧Sc K a ns H'∧∃ fp fs,H' fp=some (.lst (yc fs))∧fs.length=m∧(∀ x ∈ fs,0 ≤ x∧x ≤ 1000000000)∧σ'=[some (.ref a),some (.ref r),some (.int (z:Nat)),some (.ref lp),some (.int wd),some (.ref fp),none,none,none,none,none,none,none,none,none]) (fun D' hD=>?_) fun zzM zzh=>?_
 ·walk_at "RD";refine ⟨_,.inl (SqL.of L1.e1),?_⟩;rw [List.length_map,hql,show ((m + 1:Nat):Int) - 1=(m:Int) by omega];refine ⟨by omega,by omega,?_⟩;refine ed.range_map (n:=m) (fun (k:Nat)=>V.int (fh ns (51 + (k:Int)) wd)) (hbig _ (by omega)) (fun k N hk hN=>?_) (fun p hp=>?_)
  ·(walk_at "RD"; repeat (simp only [kd];walk_at "RD"));exact ⟨Sub.name,S1,by omega,by omega,by omega,hN⟩
  ·refine hD _ _ ⟨lb hp,S1.new hp,p,(List.range m).map fun (k:Nat)=>fh ns (51 + (k:Int)) wd,?_,by simp,fun x hx=>?_,rfl⟩
   ·rw [cb];unfold yc;rw [List.map_map];rfl
   ·obtain ⟨k,_,rfl⟩:=List.mem_map.mp hx;have d1:=ge ns (51 + (k:Int)) (m:=wd) (by omega);have d2:=ce ns (51 + (k:Int)) (m:=wd) (by omega);omega
 rintro σ5 H5 ⟨s5,S5,fp,fs,hfp,hfl,hfi,rfl⟩;subst zzh;refine zS (fun σ' H'=>Jb H5 H'∧Sc K a ns H'∧∃ bp bs,H' bp=some (.lst (yc bs))∧bs.length=m∧(∀ x ∈ bs,0 ≤ x∧x ≤ 1000000000)∧σ'=[some (.ref a),some (.ref r),some (.int (z:Nat)),some (.ref lp),some (.int wd),some (.ref fp),some (.ref bp),none,none,none,none,none,none,none,none]) (fun D' hD=>?_) fun zzM zzh=>?_
 ·walk_at "RD";refine ⟨_,.inl (SqL.of (s5 _ _ L1.e1)),?_⟩;rw [List.length_map,hql,show ((m + 1:Nat):Int) - 1=(m:Int) by omega];refine ⟨by omega,by omega,?_⟩;refine ed.range_map (n:=m) (fun (k:Nat)=>V.int (fh ns (56 + (k:Int)) wd)) (hbig _ (by omega)) (fun k N hk hN=>?_) (fun p hp=>?_)
  ·(walk_at "RD"; repeat (simp only [kd];walk_at "RD"));exact ⟨Sub.name,S5,by omega,by omega,by omega,hN⟩
  ·refine hD _ _ ⟨lb hp,S5.new hp,p,(List.range m).map fun (k:Nat)=>fh ns (56 + (k:Int)) wd,?_,by simp,fun x hx=>?_,rfl⟩
   ·rw [cb];unfold yc;rw [List.map_map];rfl
   ·obtain ⟨k,_,rfl⟩:=List.mem_map.mp hx;have d1:=ge ns (56 + (k:Int)) (m:=wd) (by omega);have d2:=ce ns (56 + (k:Int)) (m:=wd) (by omega);omega
 rintro σ6 H6 ⟨s6,S6,bp,bs,hbp,hbl,hbi,rfl⟩;have L6:=(L1.same s5).same s6;have e6:=s6 _ _ (s5 _ _ e1);have hf6:=s6 _ _ hfp;have hpw:(z:Int) ^ (ls.length - 1) ≤ 2000:=by
  have h1:=Nat.pow_le_pow_left hz.2 (ls.length - 1);have h2:=Nat.pow_le_pow_right (show 0 < 8 by decide) (show ls.length - 1 ≤ 3 by omega);have h3:z ^ (ls.length - 1) ≤ 2000:=Nat.le_trans (Nat.le_trans h1 h2) (by decide)
  exact_mod_cast h3
 have W:=wI (show 0 < z by omega) hls.1 fs bs (ls:=ls);have hgreen:∀ sh:List Int,((lgF z pss fs sh z).length=(grF z ls fs sh ls.length).length)∧((lgB z pss bs sh z).length=(grB z ls bs sh ls.length).length):=fun sh=>⟨by rw [KM hrel hps],(nK hrel hps sh (fun x hx=>(hbi x hx).1)).symm⟩
 obtain ⟨R,hR⟩:∃ R,VB z fs bs ls=R:=⟨_,rfl⟩;subst zzh;rw [hR] at W;obtain ⟨A1,A2,jn⟩:=R;have hrl:jn.length=m:=by have:jn.length + 1=ls.length:=W.ln;omega
 have hiz:InZ z (0 :: jn):=InZ.cons (by omega) W.iz;have hA1:A1=((lgF z pss fs (0 :: jn) z).length:Nat):=by rw [(hgreen _).1];exact W.f
 have hA2:A2=((lgB z pss bs (0 :: jn) z).length:Nat):=by rw [(hgreen _).2];exact W.b
 refine zS (fun σ' H'=>Jb H6 H'∧Sc K a ns H'∧∃ ha h0 h1 h2,H' ha=some (.lst [.ref h0,.ref h1,.ref h2])∧H' h0=some (.lst (qs.map V.ref))∧H' h1=some (.lst (yc fs))∧H' h2=some (.lst (yc bs))∧σ'=[some (.ref a),some (.ref r),some (.int (z:Nat)),some (.ref lp),some (.int wd),some (.ref fp),some (.ref bp),some (.ref ha),none,none,none,none,none,none,none]) (fun D' hD=>?_) fun zzM zzh=>?_
 ·walk_at "RD";refine ⟨_,.inl (SqL.of L6.e1),fun h0 n0=>?_⟩;have t0:=lb (o:=.lst (qs.map V.ref)) n0;refine ⟨_,.inl (SqL.of (t0 _ _ hf6)),fun h1 n1=>?_⟩;have t1:=lb (o:=.lst (yc fs)) n1;refine ⟨_,.inl (SqL.of (t1 _ _ (t0 _ _ hbp))),fun h2 n2=>?_⟩;have t2:=lb (o:=.lst (yc bs)) n2;have t02:=(t0.trans t1).trans t2;have c0:=t2 _ _ (t1 _ _ (cb (H:=H6) (a:=h0) (o:=.lst (qs.map V.ref))));have c1:=t2 _ _ (cb (H:=upd H6 h0 (.lst (qs.map V.ref))) (a:=h1) (o:=.lst (yc fs)));have c2:=cb (H:=upd (upd H6 h0 (.lst (qs.map V.ref))) h1 (.lst (yc fs))) (a:=h2) (o:=.lst (yc bs));refine ⟨by decide,fun ha n3=>?_⟩;have t3:=lb (o:=.lst [.ref h0,.ref h1,.ref h2]) n3;exact hD _ _ ⟨t02.trans t3,((((S6.new n0).new n1).new n2).new n3),ha,h0,h1,h2,cb,t3 _ _ c0,t3 _ _ c1,t3 _ _ c2,rfl⟩
 rintro σ7 H7 ⟨s7,S7,ha,h0,h1,h2,eha,eh0,eh1,eh2,rfl⟩;have L7:=L6.same s7;have hf7:=s7 _ _ hf6;have hb7:=s7 _ _ hbp;have e7:=s7 _ _ e6;subst zzh;refine zS (fun σ' H'=>Jb H7 H'∧Sc K a ns H'∧∃ to sp,H' to=some (.tup [.int A1,.int A2,.ref sp])∧H' sp=some (.lst (yc (0 :: jn)))∧H7 sp=none∧σ'=[some (.ref a),some (.ref r),some (.int (z:Nat)),some (.ref lp),some (.int wd),some (.ref fp),some (.ref bp),some (.ref ha),some (.ref to),none,none,none,none,none,none]) (fun D' hD=>?_) fun zzM zzh=>?_
 ·walk_at "RD";refine ⟨_,SqL.of eha,_,rfl,_,SqL.of eha,_,rfl,_,SqL.of eha,_,rfl,h0,h1,h2,z,ls,fs,bs,rfl,⟨L7.line.copy L7.e1 eh0,eh1,eh2,by omega,by omega,by omega,by omega⟩,by omega,hpw,S7.nt,fun p s' H' sx nx g1 g2 g3=>?_⟩;rw [hR] at g1 g2;exact hD _ _ ⟨sx,S7.same sx nx,p,s',g1,g2,g3,rfl⟩
 rintro σ8 H8 ⟨s8,S8,to,sp,eto,esp,nsp,rfl⟩;subst zzh;refine zS (fun σ' H'=>Jb H8 H'∧Sc K a ns H'∧σ'=[some (.ref a),some (.ref r),some (.int (z:Nat)),some (.ref lp),some (.int wd),some (.ref fp),some (.ref bp),some (.ref ha),some (.ref to),none,none,none,none,none,none]) (fun D' hD=>?_) fun zzM zzh=>?_
 ·refine Pi (fun b H2=>b=false∧Jb H8 H2∧Sc K a ns H2) (fun Q hQ=>?_) (fun H2 r=>absurd r.1 (by decide)) (fun H2 r=>?_)
  ·walk_at "RD";refine ⟨_,.tup eto,true,PK,?_⟩;rw [if_neg (by decide)];refine ⟨_,.inr (SqT.of eto),?_⟩;rw [if_neg (by simp)];refine ⟨_,SqL.of (s8 _ _ eha),_,rfl,_,rfl,_,.inl (SqL.of (s8 _ _ eh0)),_,.inl (SqL.of (s8 _ _ L7.e1)),?_⟩;rw [if_neg (by simp)];refine ⟨_,SqL.of (s8 _ _ eha),fun p1 hp1=>?_⟩;have c1:zo [V.ref h0,V.ref h1,V.ref h2] (some 1) none=[V.ref h1,V.ref h2]:=rfl;rw [c1];have y1:=lb (o:=.lst [V.ref h1,V.ref h2]) hp1;refine ⟨by decide,fun p2 hp2=>⟨true,?_,hQ _ _ ⟨rfl,y1.trans (lb hp2),(S8.new hp1).new hp2⟩⟩⟩;have y2:=lb (o:=.lst [V.ref fp,V.ref bp]) hp2;have y12:=(s8.trans y1).trans y2;have:=EqH.lst (k:=7) (e:=fun _=>true) (SqL.of (K:=K) (y2 _ _ (cb (H:=H8) (a:=p1) (o:=.lst [V.ref h1,V.ref h2])))) (SqL.of (show (upd (upd H8 p1 (.lst [V.ref h1,V.ref h2])) p2 (.lst [V.ref fp,V.ref bp])) p2=some (.lst [V.ref fp,V.ref bp]) from cb)) rfl (fun j x y g1 g2=>by
    match j,g1,g2 with
    | 0,g1,g2=>cases g1;cases g2;exact YJ 6 (y12 _ _ eh1) (y12 _ _ hf7)
    | 1,g1,g2=>cases g1;cases g2;exact YJ 6 (y12 _ _ eh2) (y12 _ _ hb7))
   rwa [vG] at this
  ·walk_at "RD";exact hD _ _ ⟨r.2.1,r.2.2,rfl⟩
 rintro σ9 H9 ⟨s9,S9,rfl⟩;subst zzh;refine zS (fun σ' H'=>H'=H9∧σ'=[some (.ref a),some (.ref r),some (.int (z:Nat)),some (.ref lp),some (.int wd),some (.ref fp),some (.ref bp),some (.ref ha),some (.ref to),some (.ref sp),none,none,none,none,none]) (fun D' hD=>?_) fun zzM zzh=>?_
 ·walk_at "RD";exact ⟨_,SqT.of (s9 _ _ eto),_,rfl,hD _ _ ⟨rfl,rfl⟩⟩
 rintro σ10 HA ⟨rfl,rfl⟩;have etA:=s9 _ _ eto;have esA:=s9 _ _ esp;have s7A:=s8.trans s9;subst zzh;refine zS (fun σ' H'=>H'=HA∧σ'=[some (.ref a),some (.ref r),some (.int (z:Nat)),some (.ref lp),some (.int wd),some (.ref fp),some (.ref bp),some (.ref ha),some (.ref to),some (.ref sp),none,none,none,none,none]) (fun D' hD=>?_) fun zzM zzh=>?_
 ·refine Dc false (fun Q hQ=>?_) (fun c=>nomatch c) (fun _=>?_)
  ·walk_at "RD";refine ⟨_,.lst esA,true,kK,?_⟩;rw [if_neg (by decide)];refine ⟨_,.inl (SqL.of esA),_,.inl (SqL.of (s7A _ _ L7.e1)),?_⟩;rw [if_neg (by rw [ie,List.length_map,List.length_cons,hrl,hql];simp)];refine ⟨_,SqL.of esA,_,Ac (j:=0) rfl,rfl,?_⟩;rw [decide_eq_true rfl];exact hQ
  ·walk_at "RD";exact hD _ _ ⟨rfl,rfl⟩
 rintro σ11 HB ⟨rfl,rfl⟩;subst zzh;simp only [zb];refine Hb (fun σ' H'=>H'=HB∧∃ x10,σ'=[some (.ref a),some (.ref r),some (.int (z:Nat)),some (.ref lp),some (.int wd),some (.ref fp),some (.ref bp),some (.ref ha),some (.ref to),some (.ref sp),x10,none,none,none,none]) (fun D' hD hrt _ _=>?_) ?_
 ·walk_at "RD";refine ⟨⟨_,SqL.of esA⟩,?_⟩;refine Eh.list (xs:=yc (0 :: jn)) (fun i σ H'=>H'=HB∧∃ x10,σ=[some (.ref a),some (.ref r),some (.int (z:Nat)),some (.ref lp),some (.int wd),some (.ref fp),some (.ref bp),some (.ref ha),some (.ref to),some (.ref sp),x10,none,none,none,none]) ⟨rfl,_,rfl⟩ ?_ ?_ ?_
  ·rintro i σ H' hi ⟨rfl,_⟩;exact SqL.of esA
  ·rintro i v σ H' hv ⟨rfl,x10,rfl⟩;obtain ⟨x,hx,rfl⟩:=ic hv;have hxz:=hiz x (List.mem_of_getElem? hx);simp only [Rf,List.set_cons_succ,List.set_cons_zero];refine Dc false (fun Q hQ=>?_) (fun c=>nomatch c) (fun _=>?_)
   ·walk_at "RD";refine ⟨_,.int _,true,nL,?_⟩;rw [if_neg (by decide)];refine ⟨_,.int _,false,Zy,?_⟩;rw [if_neg (by decide),if_neg (by rw [decide_eq_true_eq];omega),decide_eq_false (by omega)];exact hQ
   ·walk_at "RD";exact ⟨_,rfl⟩
  ·rintro σ H' ⟨rfl,x10,rfl⟩;exact hD _ _ ⟨rfl,_,rfl⟩
 rintro σ12 HC ⟨rfl,x10,rfl⟩;simp only [zb];refine zzC (fun σ' H'=>H'=HC∧σ'=[some (.ref a),some (.ref r),some (.int (z:Nat)),some (.ref lp),some (.int wd),some (.ref fp),some (.ref bp),some (.ref ha),some (.ref to),some (.ref sp),x10,none,none,none,none]) (fun D' hD=>?_) fun zzM zzh=>?_
 ·refine Dc false (fun Q hQ=>?_) (fun c=>nomatch c) (fun _=>?_)
  ·walk_at "RD";refine ⟨_,SqT.of etA,_,rfl,_,.int _,false,Zy,?_⟩;rw [if_neg (by decide)];exact ⟨_,SqT.of etA,_,rfl,_,.int _,false,Zy,hQ⟩
  ·walk_at "RD";exact hD _ _ ⟨rfl,rfl⟩
 rintro σ13 HD ⟨rfl,rfl⟩;have LD':=L7.same s7A;have hfD:=s7A _ _ hf7;have hbD:=s7A _ _ hb7;have eD:=s7A _ _ e7;subst zzh;simp only [zb];refine zzC (fun σ' H'=>Jb HD H'∧Sc K a ns H'∧σ'=[some (.ref a),some (.ref r),some (.int (z:Nat)),some (.ref lp),some (.int wd),some (.ref fp),some (.ref bp),some (.ref ha),some (.ref to),some (.ref sp),x10,none,none,none,none]) (fun D' hD=>?_) fun zzM zzh=>?_
 ·refine Pi (fun b H2=>b=false∧Jb HD H2∧Sc K a ns H2) (fun Q hQ=>?_) (fun H2 r=>absurd r.1 (by decide)) (fun H2 r=>?_)
  ·walk_at "RD";refine ⟨_,SqT.of etA,su,fun p hp=>?_⟩;rw [show zo [V.int A1,V.int A2,V.ref sp] none (some 2)=[V.int A1,V.int A2] from rfl];have t1:=lb (o:=.tup [V.int A1,V.int A2]) hp;refine ⟨_,SqT.of (t1 _ _ eD),_,rfl,sl,fp,bp,sp,z,pss,fs,bs,0 :: jn,rfl,⟨(LD'.same t1).sps,t1 _ _ hfD,t1 _ _ hbD,t1 _ _ esA,by omega,by omega,by rw [List.length_cons];omega,by omega,by omega,hfi,hbi⟩,(S9.new hp).nt,fun p2 H' s' n' e=>?_⟩;rw [← hA1,← hA2] at e;exact ⟨p2,rfl,true,MI 7 (s' _ _ cb) e,hQ _ _ ⟨rfl,t1.trans s',(S9.new hp).same s' n'⟩⟩
  ·walk_at "RD";exact hD _ _ ⟨r.2.1,r.2.2,rfl⟩
 rintro σ14 HE ⟨sE,SE,rfl⟩;have etE:=sE _ _ etA;have esE:=sE _ _ esA;subst zzh;simp only [zb];refine zzC (fun σ' H'=>Jb HE H'∧Sc K a ns H'∧∃ be,H' be=some (.tup [.int (mnI A1 A2),.int (A1 + A2)])∧σ'=[some (.ref a),some (.ref r),some (.int (z:Nat)),some (.ref lp),some (.int wd),some (.ref fp),some (.ref bp),some (.ref ha),some (.ref to),some (.ref sp),x10,some (.ref be),none,none,none]) (fun D' hD=>?_) fun zzM zzh=>?_
 ·walk_at "RD";exact ⟨_,SqT.of etE,_,rfl,_,SqT.of etE,_,rfl,_,rfl,_,rfl,_,SqT.of etE,_,rfl,_,SqT.of etE,_,rfl,_,rfl,_,rfl,by decide,fun p hp=>hD _ _ ⟨lb hp,SE.new hp,p,cb,rfl⟩⟩
 rintro σ15 HF ⟨sF,SF,be,ebe,rfl⟩;have s7F:=(s7A.trans sE).trans sF;have LF:=L7.same s7F;have hfF:=s7F _ _ hf7;have hbF:=s7F _ _ hb7;have eF:=s7F _ _ e7;have esF:=sF _ _ esE;have etF:=sF _ _ etE;subst zzh;simp only [zb];refine Hb (fun σ' H'=>Jb HF H'∧Sc K a ns H'∧∃ x12 x13,σ'=[some (.ref a),some (.ref r),some (.int (z:Nat)),some (.ref lp),some (.int wd),some (.ref fp),some (.ref bp),some (.ref ha),some (.ref to),some (.ref sp),x10,some (.ref be),x12,x13,none]) (fun D' hD hrt _ _=>?_) ?_
 ·walk_at "RD";refine ⟨_,.inl (SqL.of LF.e1),?_⟩;rw [List.length_map,hql];refine ⟨sp,z,m + 1,0 :: jn,rfl,SF,esF,by rw [List.length_cons,hrl],hiz,by omega,hz,fun op os HG sG SG eo ho O=>?_⟩;refine ⟨op,rfl,⟨_,SqL.of eo⟩,?_⟩;refine Eh.list (xs:=os.map V.ref) (fun i σ H'=>Jb HG H'∧Sc K a ns H'∧∃ x12 x13,σ=[some (.ref a),some (.ref r),some (.int (z:Nat)),some (.ref lp),some (.int wd),some (.ref fp),some (.ref bp),some (.ref ha),some (.ref to),some (.ref sp),x10,some (.ref be),x12,x13,none]) ⟨Jb.refl _,SG,_,_,rfl⟩ ?_ ?_ ?_
  ·rintro i σ H' hi ⟨sx,_⟩;exact SqL.of (sx _ _ eo)
  ·rintro i v σ H' hv zzq;refine zP fun zzM zzh=>?_
   obtain ⟨sx,Sx,x12,x13,rfl⟩:=zzq;obtain ⟨oi,hoi,rfl⟩:=ic hv;obtain ⟨ss,ess,hssl,hssz⟩:=O i oi hoi;have sGx:=sG.trans sx;have mx:=W.mx ss (by rw [hssl,hm]) hssz;subst zzh;rw [← (hgreen ss).1,← (hgreen ss).2,Ij] at mx;simp only [Rf,zb,List.set_cons_succ,List.set_cons_zero];refine zzC (fun σ' H'=>Jb HG H'∧Sc K a ns H'∧∃ gi,H' gi=some (.tup [.int ((lgF z pss fs ss z).length:Nat),.int ((lgB z pss bs ss z).length:Nat)])∧σ'=[some (.ref a),some (.ref r),some (.int (z:Nat)),some (.ref lp),some (.int wd),some (.ref fp),some (.ref bp),some (.ref ha),some (.ref to),some (.ref sp),x10,some (.ref be),some (.ref oi),some (.ref gi),none]) (fun D' hD=>?_) fun zzM zzh=>?_
   ·walk_at "RD";refine ⟨_,SqT.of (sGx _ _ eF),_,rfl,sl,fp,bp,oi,z,pss,fs,bs,ss,rfl,⟨(LF.same sGx).sps,sGx _ _ hfF,sGx _ _ hbF,sx _ _ ess,by omega,by omega,by omega,by omega,by omega,hfi,hbi⟩,Sx.nt,fun p H'' s' n' e=>hD _ _ ⟨sx.trans s',Sx.same s' n',p,e,rfl⟩⟩
   rintro σH HH ⟨sH,SH,gi,egi,rfl⟩;subst zzh;dsimp only;refine Pi (fun b H2=>b=false∧Jb HG H2∧Sc K a ns H2) (fun Q hQ=>?_) (fun H2 r=>absurd r.1 (by decide)) (fun H2 r=>?_)
   ·have ebH:=sH _ _ (sG _ _ ebe);walk_at "RD";refine ⟨_,SqT.of egi,_,rfl,_,SqT.of egi,_,rfl,_,rfl,_,rfl,_,SqT.of egi,_,rfl,_,SqT.of egi,_,rfl,_,rfl,_,rfl,by decide,fun p hp=>?_⟩;have t1:=lb (o:=.tup [V.int (mnI ((lgF z pss fs ss z).length:Nat) ((lgB z pss bs ss z).length:Nat)),V.int (((lgF z pss fs ss z).length:Nat) + ((lgB z pss bs ss z).length:Nat))]) hp;exact ⟨p,be,[mnI ((lgF z pss fs ss z).length:Nat) ((lgB z pss bs ss z).length:Nat),((lgF z pss fs ss z).length:Nat) + ((lgB z pss bs ss z).length:Nat)],[mnI A1 A2,A1 + A2],rfl,rfl,SqT.of cb,SqT.of (t1 _ _ ebH),_,rfl,hQ _ _ ⟨by rw [lN];exact decide_eq_false mx,sH.trans t1,SH.new hp⟩⟩
   ·walk_at "RD";exact ⟨r.2.1,r.2.2,_,rfl⟩
  ·rintro σ H' zzq;refine zP fun zzM zzh=>?_
   obtain ⟨sx,Sx,x12,x13,rfl⟩:=zzq;subst zzh;exact hD _ _ ⟨sG.trans sx,Sx,_,_,rfl⟩
 rintro σ16 HK zzq;refine zP fun zzM zzh=>?_
 obtain ⟨sK,SK,x12,x13,rfl⟩:=zzq;have esK:=sK _ _ esF;have etK:=sK _ _ etF;have s7K:=s7F.trans sK;subst zzh;simp only [zb];refine zzC (fun σ' H'=>Jb H7 H'∧Sc K a ns H'∧H' to=some (.tup [.int A1,.int A2,.ref sp])∧σ'=[some (.ref a),some (.ref r),some (.int (z:Nat)),some (.ref lp),some (.int wd),some (.ref fp),some (.ref bp),some (.ref ha),some (.ref to),some (.ref sp),x10,some (.ref be),x12,x13,none]) (fun D' hD=>?_) fun zzM zzh=>?_
 ·walk_at "RD";refine ⟨.inl ⟨_,SqL.of esK⟩,_,esK,Nat.lt_of_le_of_lt (show (yc (0 :: jn)).length ≤ 10 by rw [ie,List.length_cons];omega) (by decide),hD _ _ ⟨s7K.updN nsp,SK.set esK (fun _ _ z=>by cases z),by rw [ub (ue etK esK (by intro z;cases z))];exact etK,rfl⟩⟩
 rintro σ17 HM ⟨sM,SM,etM,rfl⟩;have LM:=L7.same sM;have hfM:=sM _ _ hf7;have hbM:=sM _ _ hb7;subst zzh;simp only [zb];refine zzC (fun σ' H'=>Jb HM H'∧Sc K a ns H'∧∃ ag sq,H' ag=some (.tup [.int A1,.int A2,.ref sq])∧H' sq=some (.lst (yc (0 :: jn)))∧σ'=[some (.ref a),some (.ref r),some (.int (z:Nat)),some (.ref lp),some (.int wd),some (.ref fp),some (.ref bp),some (.ref ha),some (.ref to),some (.ref sp),x10,some (.ref be),x12,x13,some (.ref ag)]) (fun D' hD=>?_) fun zzM zzh=>?_
 ·walk_at "RD";refine ⟨_,.inl (SqL.of LM.e1),fun h0 n0=>?_⟩;have t0:=lb (o:=.lst (qs.map V.ref)) n0;refine ⟨_,.inl (SqL.of (t0 _ _ hfM)),fun h1 n1=>?_⟩;have t1:=lb (o:=.lst (yc fs)) n1;refine ⟨_,.inl (SqL.of (t1 _ _ (t0 _ _ hbM))),fun h2 n2=>?_⟩;have t2:=lb (o:=.lst (yc bs)) n2;have t02:=(t0.trans t1).trans t2;have c0:=t2 _ _ (t1 _ _ (cb (H:=HM) (a:=h0) (o:=.lst (qs.map V.ref))));have c1:=t2 _ _ (cb (H:=upd HM h0 (.lst (qs.map V.ref))) (a:=h1) (o:=.lst (yc fs)));have c2:=cb (H:=upd (upd HM h0 (.lst (qs.map V.ref))) h1 (.lst (yc fs))) (a:=h2) (o:=.lst (yc bs));refine ⟨h0,h1,h2,z,ls,fs,bs,rfl,⟨(LM.same t02).line.copy (t02 _ _ LM.e1) c0,c1,c2,by omega,by omega,by omega,by omega⟩,by omega,hpw,(((SM.new n0).new n1).new n2).nt,fun p s' H' sx nx g1 g2 g3=>?_⟩;rw [hR] at g1 g2;exact hD _ _ ⟨t02.trans sx,(((SM.new n0).new n1).new n2).same sx nx,p,s',g1,g2,rfl⟩
 rintro σ18 HN ⟨sN,SN,ag,sq,eag,esq,rfl⟩;have etN:=sN _ _ etM;have s7N:=sM.trans sN;have LN:=L7.same s7N;have eN:=s7N _ _ e7;subst zzh;walk_at "RD";refine ⟨_,SqT.of eag,su,fun p1 n1=>?_⟩;rw [show zo [V.int A1,V.int A2,V.ref sq] none (some 2)=[V.int A1,V.int A2] from rfl];have t1:=lb (o:=.tup [V.int A1,V.int A2]) n1;refine ⟨_,SqT.of (t1 _ _ etN),su,fun p2 n2=>?_⟩;rw [show zo [V.int A1,V.int A2,V.ref sp] none (some 2)=[V.int A1,V.int A2] from rfl];have t2:=lb (o:=.tup [V.int A1,V.int A2]) n2;have t12:=t1.trans t2;refine ⟨true,MI 7 (t2 _ _ cb) cb,?_⟩;rw [if_pos rfl];refine ⟨_,SqT.of (t12 _ _ eN),_,rfl,_,SqT.of (t12 _ _ eag),_,rfl,sl,fp,bp,sq,z,pss,fs,bs,0 :: jn,rfl,⟨(LN.same t12).sps,t12 _ _ (s7N _ _ hf7),t12 _ _ (s7N _ _ hb7),t12 _ _ esq,by omega,by omega,by rw [List.length_cons];omega,by omega,by omega,hfi,hbi⟩,((SN.new n1).new n2).nt,fun p3 H' s' n' e=>?_⟩;rw [← hA1,← hA2] at e;refine ⟨_,SqT.of (s' _ _ (t12 _ _ etN)),su,fun p4 n4=>?_⟩;rw [show zo [V.int A1,V.int A2,V.ref sp] none (some 2)=[V.int A1,V.int A2] from rfl];exact ⟨p3,rfl,true,MI 7 ((lb n4) _ _ e) cb,q _⟩
end
end My
structure PySem.W.Fast:Prop where(tw452448628573239007 tw2332825884851087662 tw11436741188457945727 tw13491637473769261214 tw10063414679414353494 tw7375040768090533997 tw14976040728640714707 tw14727012711519080343 tw11908427907541167662 tw5642442944080865278 tw10847915425809867368 tw7779786942793521816 tw3639913665338347666 tw13375208376000524734 tw10247693982368460842 tw3714400025331180398 tw2035146983154143410 tw14403811877374547632 tw16935032459170017301 tw11767422036196632726 tw7130618901504282569 tw1507683111415419417 tw2718294583870481299 tw7046029416413234909 tw17370852876337129704 tw3480412496226529347 tw3486129825170322769 tw8604514183160526406 tw922727761617084727 tw7212832566076731585 tw4661557778106134294 tw11477632032417681181 tw3423573849840507493 tw11431225348698242020 tw15954186931732719047 tw15062095769130762609 tw11462590947080555375 tw14490531323615992877 tw14892147804136077443 tw2862949129718923789 tw256434833113418539 tw7357993025210033988 tw1206969775334838280 tw13903102095392984392 tw659092852907436584 tw10225978920202463808 tw17271768294359021264 tw913859744437765270 tw3312228507892161951 tw17585199862399844839 tw3088707594676054937 tw9776962421452522857 tw17039535264468174155 tw6750277332883037885 tw2695964312709047179 tw3276224824964310555 tw15133363812995357920 tw1369981011504546859 tw12558116879904133168 tw8715052156569625285 tw14852464610451321712 tw5899248588651600606 tw10598638677627092647 tw3042605018015101428 tw10928170878263172236 tw6201204336622124116 tw3293244150464915716 tw10255359704570774523 tw17406079952137884375 tw10173410147473537579 tw15073590131334031804 tw11768179888074844585 tw12802867340358896183 tw10382117467332810343 tw1870621514964968408 tw5808923324130371528 tw11503868622763226814 tw16851773416965919605 tw13722040127573607932 tw4421067292771354582 tw8079771041699013075 tw5244234795702371471 tw8749872848035544051 tw8109062640766622878 tw1731206651302112149 tw16113987872286361296 tw2979250347795129301 tw7843119703162347040 tw4425748493437162870 tw1882125875505204758 tw6719009534345503607 tw9073996589032699641 tw17158121661720675393 tw2104585320458654508 tw1253826440963150139 tw15242069982686781712 tw2781641581979734564 tw7967336307848020129 tw13141128492095075993 tw7112047206396851463 tw13350056763098084129 tw882707532420838822 tw16837120263135458173 tw12940977657090252303 tw6573621709786093772 tw9008207790107715869 tw14331851204567863891 tw4001293688926723845 tw13214073122133373959 tw6738208629383278228 tw14919071738475633253 tw2688082370903956330 tw6225803151981135047 tw4908615505607517770 tw6964420457055218378 tw2961580465132703673 tw8610125199548309445 tw9004719798735497374 tw3629176858354059910 tw7025705993995313162 tw8138776794381687446 tw9457266209458388217 tw4297752812853223821 tw5019975303845955690 tw2198256496145567714 tw9286219029692503434 tw15067527591226629820 tw17001202014454733194 tw2134263694884367834 tw4278373009945299348 tw2090428987929803936 tw6836531224044480225 tw5200204659212225147 tw7165173844177303457 tw12918043152821851125 tw11791103336730289370 tw13220651232683529007 tw16948440778469849650 tw8512868023185244911 tw11473911658287118521 tw7310477898059604778 tw11707004744501693906 tw3178278737689874391 tw4989427185684856120 tw12865159043501683427 tw5339648695904896453 tw7965525595846075422 tw2723681462202340554 tw4464359989096653826 tw12300657983078660955 tw17366443412441067845 tw15348747074399935251 tw5955731177793978239 tw6450569398366061290 tw17046018893597577614 tw15457402976749043080 tw5649897311571575988 tw18264379574724106520 tw710100992471238115 tw8609214164916368774 tw17818556284064099237 tw7565773561359574883 tw14158062360881384604 tw67115163138714468 tw2081740811302713604 tw7821479122475182999 tw6412652722273776499 tw17004997905636681019 tw11111132555450267658 tw8011625123003920642 tw12361247322641187430 tw15555503531313439000 tw8149398512950167623 tw9475034958752488030 tw12716044150283454481 tw18196164527286750719 tw7550392822168047326 tw4287284089210060532 tw7371096291880887248 tw6854799555546410424 tw8367509585325250028 tw6750621176875333469 tw10439446190070118310 tw12918992678258786080 tw14988756145642451572 tw10872576023296539497 tw7679839296242748000 tw15112728696190681663 tw3882792157227681442 tw17991253307253904472 tw5482283622376105306 tw3356512017991867520 tw16642913362945144371 tw1367429751201372001 tw5521881239343466803 tw1058103296805344264 tw10907289455245643158 tw13237454188598828851 tw7910606324887618592 tw14151106013353541098 tw1271487939023359934 tw16034534795975554271 tw8825829556826662237 tw12981955674196547501 tw13701605284437573123 tw9870918821368998817 tw2068524362450000534 tw7254962316745154563 tw12610862864510040632 tw4146470959483780697 tw17779945069302393890 tw5477702665800705594 tw11916833750749455047 tw16520417452243328437 tw153058802063961469 tw640660727263452779 tw10911542688032028400 tw8184192266412534977 tw17867289916572640837 tw16496210064189760620 tw4496148210962804607 tw12143872768489458422 tw15154061380230488130 tw10154287438918499278 tw13900118440288417830 tw13431432531392582961 tw4671231313013874259 tw1540528593505136767 tw1130601130792414159 tw12063318373305511741 tw16020244577685092117 tw10541091794445333530 tw14754411629366522771 tw8620008176930866653 tw8774195797359097667 tw13938186695319948560 tw15822733831893966735 tw1241756723825259695 tw15822131867479632008 tw13434370387242435177 tw12943800579702369572 tw3505642977009824704 tw12741583070650303191 tw17711118163033958500 tw3071806884394163851 tw7107745580654040890 tw11374161948473338457 tw3452007523349384990 tw3152921894544132105 tw6179734970927751881 tw47566072647209557 tw12205147034619478971 tw2166074577159496274 tw7121040245463414326 tw4663187786927987435 tw6011214638463473525 tw5328191840338398577 tw2454579907843637495 tw16564173927807503199 tw1943798776888566915 tw7206132596117826448 tw8339601652553169406 tw8035025254039137878 tw6022087796115472729 tw4014896284023329645 tw4351127379432955700 tw881336326637500701 tw18099498729233214940 tw14385352653787218147 tw8917088208631637423 tw14153065686032039470 tw9891597365289614618 tw12211148452055593246 tw4752650046283971212 tw4864440672138280844 tw15387895067824932256 tw6727219672894936395 tw567529146575925016 tw3075951819795055820 tw2121578139974169152 tw10664834825095287245 tw10103212635270439236 tw9331240813249779973 tw1921168324830293766 tw11120971985455400256 tw540829760852250836 tw11392427280079261921 tw11215158469147083798 tw2859918908080934323 tw10209507326384692561 tw318056088763366229 tw12092935521583842648 tw9715542476224882564 tw16817421497347705672 tw17171182775562296702 tw16485400429520711351 tw534719070734203504 tw2849445874505090260 tw7215642734792557296 tw13017932685176488883 tw3476655635278268199 tw14185150411465766453 tw15456266273341455535 tw17697887567528878007 tw935190107890859889 tw16311857462599469237 tw11908482340564320797 tw6523874078107463907 tw2095582398942087901 tw18301747326574396944 tw7893499316965376226 tw12018487337266612351 tw12925603589091406596 tw9108133449331921566 tw2336295143091268912 tw12711982822697158823 tw11480280069200519991 tw1133855120409197183 tw14233615963862716018 tw5565278179067496336 tw4994842556348795367 tw7736822736802643825 tw3931615910476514195 tw11826375990817804707 tw8925095054457799232 tw13295060825029310234 tw3253866394215059452 tw8520511431511637489 tw15693849330685143758 tw859371538514598308 tw13700931121110526398 tw17420022597991262534 tw16087019855106769460 tw15563853059025919790 tw12414231759143121083 tw15997824941156990745 tw17959176701391683181 tw12978042273318120610 tw17034839202255373247 tw1505768207320722072 tw12449258817893312025 tw2182095680707469203 tw13774903130892994364 tw14382354553218629767 tw16747709027250996720 tw12442534507051749071 tw6468295562342513480 tw13629169651961279482 tw6008617519437375984 tw11048696884849497448 tw9212936813604254999 tw9547217754961127459 tw57960672964344043 tw13791119179150162186 tw18259548504266289254 tw6101029274339874142 tw13355604842772933637 tw11197562419019636340 tw13022003067985163885 tw2445919723110213150 tw6620034930029906823 tw14677680040586978284 tw599867123274180220 tw1467225273517355115 tw13749814329618999401 tw471984673292757215 tw16012419276052334034 tw3543105971056340919 tw16397979534623619022 tw243730173676431676 tw15892947319746149826 tw9613742291688905833 tw14950396595973293871 tw10651247289508911902 tw3498400559582145953 tw14340779462519127777 tw9486435173380284625 tw17760300258360802213 tw5973784686258036848 tw417890984829462648 tw17402772025021893457 tw4988852695493146701 tw15276095574011679221 tw5049522473625201727 tw7491416266390180093 tw5199540171270119845 tw3314453239377442591 tw16694010079500889697 tw41724861229259717 tw5728585552702104763 tw18121346222057376709 tw11667457112608030496 tw6438184538710029552 tw17594593601078472788 tw11142015698555305490 tw12676917978341128258 tw8813567834947981795 tw15556764559425448464 tw16154497279109155838 tw9644802625594916016 tw10528643378672974168 tw15563481672386308047 tw1621506343044045069 tw5121792691552742537 tw2641231008173292238 tw8010803313598973291 tw10664021490017046489 tw12464270011378878546 tw18017211988375501541 tw8748061219660681252 tw8427369995499273410 tw1763675619179741009 tw2714845072014658390 tw15133049388526256853 tw16968041029678407358 tw8369248493898621736 tw13664482433200885386 tw4774275252281403052 tw13164942135900037557 tw16036642799212579646 tw9130525723491988692 tw3535012674165378521 tw10002987703621656140 tw14975404113255615904 tw9701605090122189744 tw15106668010322718673 tw12328297241261477209 tw11616941416522273639 tw18155270530384612758 tw11194849219728508041 tw3222109226425520571 tw17496247272076567674 tw3864871960909504926 tw6193572784842832093 tw4963368127433919054 tw13754612049849480328 tw8482880295049350501 tw5903527518143870366 tw3088258129289986173 tw6833225421793429043 tw12379340890635859693 tw14848595726329416049 tw2806267865879696158 tw13903109374250556703 tw4833266452787174 tw15129357473087012134 tw7410837933876305031 tw16039186327956391739 tw8160480521213424469 tw4245993994040288946 tw1576159117251257041 tw3452065710761763454 tw3766987154541024061 tw18003129487752740271 tw16442092370082013467 tw7698768522237109062 tw15634225054322193840 tw6942085128185253908 tw4471006255446199746 tw11068214279958798499 tw9396928455112972738 tw12746527302687467842 tw17554084785976546633 tw16136226223591059925 tw4539550888214722959 tw2264093705079285805 tw4262805053787706851 tw5912275276396991131 tw13980864632880976713 tw5670298190551407818 tw6219592219362624774 tw6926368835678728236 tw13454032698220341014 tw12419881209085702607 tw15093737193549049587 tw18087320958697934129 tw532206324575503750 tw909349356183302703 tw17722364314911610503 tw2493012174768899695 tw6068651434674664290 tw6596089805062079112 tw5837593920548544143 tw10243673536830981959 tw8601271958429685503 tw16304469178575501856 tw8496678974538992439 tw7021490960894369072 tw3188611889680445342 tw18062710923889163162 tw3981746599646275511 tw16453416392888776876 tw7975111820201384575 tw11764053853114365536 tw13733781816153191056 tw5600477684905409314 tw16706673120400946403 tw1025932565767876940 tw13478379292647066403 tw13657170793807360197 tw4034987690089448390:True)
open PySem PySem.W PyProof.Rows
set_option maxRecDepth 100000 in
set_option maxHeartbeats 0 in
theorem PySem.Challenge.cw_lampway_k72_whole_widest_shifts_holds : PySem.Challenge.rw_lampway_k72_whole_widest_shifts.Holds := by
 w_on;o_law;k_head;(case hw=>w_witness2)
 k_fill
 refine L2.qG (l:=PySem.Challenge.rw_lampway_k72_whole_widest_shifts) (n:=63) (k:=11) (x := "_law_script") (CX:=L2.CX0) (sp:=L2.UL) rfl (by decide) rfl ⟨rfl,by decide,by decide⟩ (fun w h Y=>PySem.W.kIn_of Y) ?F ?S ?C
 case F=>
  intro w mg fa h KX G hmg;have T:∃ t,My.Txt w (L2.KOf KX) mg t:=by
   dsimp only [L2.KOf];refine' ⟨My.Adr.mk,⟨?maa,?Fab,?mac,?Fad,?mae,?Faf,?mag,?Fah,?mai,?Faj,?mak,?Fal,?mam,?Fan,?mao,?Fap,?maq,?Far,?mas,?Fat,?mau,?Fav,?maw,?Fax,?may,?Faz,?mba,?Fbb,?mbc,?Fbd,?mbe,?Fbf,?mbg,?Fbh,?mbi,?Fbj,?mbk,?Fbl,?mbm,?Fbn,?mbo,?Fbp,?mbq,?Fbr,?mbs,?Fbt,?mbu,?Fbv,?mbw,?Fbx,?mby,?Fbz,?mca,?Fcb,?mcc,?Fcd,?mce,?Fcf,?mcg,?Fch,?mci,?Fcj,?mck,?Fcl,?mcm,?Fcn,?mco,?Fcp,?mcq,?Fcr,?mcs,?Fct,?mcu,?Fcv,?mcw,?Fcx,?mcy,?Fcz,?mda,?Fdb,?mdc,?Fdd,?mde,?Fdf,?mdg,?Fdh,?mdi,?Fdj,?mdk,?Fdl,?mdm,?Fdn,?mdo,?Fdp,?mdq,?edr,?Fds,?edt,?Fdu,?edv,?Fdw,?edx,?Fdy,?edz,?Fea,?eeb,?Fec,?eed,?Fee,?mef,?eeg,?Feh,?mei,?eej,?Fek,?eel,?Fem,?een,?Feo,?mep,?eeq,?Fer,?ees,?Fet,?eeu,?Fev,?mew,?eex,?Fey,?eez,?Ffa,?efb,?Ffc,?mfd,?efe,?Fff,?efg,?Ffh,?efi,?Ffj,?efk,?Ffl,?mfm,?efn,?Ffo,?sfp,?sfq,?sfr,?sfs,?sft,?sfu,?sfv,?sfw,?nfx,?nfy,?nfz,?sga,?ngb,?ngc,?ngd,?nge,?ngf,?ngg,?ngh,?sgi,?sgj,?sgk,?sgl,?ngm,?ngn,?ngo,?ngp,?ngq,?ngr,?ngs,?sgt,?sgu,?sgv,?sgw,?ngx,?ngy,?ngz,?nha,?nhb,?nhc,?nhd,?she,?shf,?shg,?shh,?nhi,?nhj,?nhk,?nhl,?nhm,?nhn,?nho,?shp,?shq,?shr,?shs,?sht,?nhu,?nhv,?nhw,?shx,?shy,?nhz,?nia,?nib,?nic,?nid,?die,?dif,?dig,?dih,?dii,?dij,?sik,?mil,?vim,?min,?vio,?mip,?viq,?mir,?vis,?mit,?viu,?miv,?viw,?mix,?viy,?miz,?vja,?mjb,?vjc,?mjd,?vje,?mjf,?vjg,?mjh,?vji,?mjj,?vjk,?bjl,?bjm,?bjn,?bjo,?bjp,?bjq,?bjr,?bjs,?bjt,?bju,?bjv,?bjw,?bjx,?bjy,?ljz⟩⟩
   case maa | mac | mae | mag | mai | mak | mam | mao | maq | mas | mau | maw | may | mba | mbc | mbe | mbg | mbi | mbk | mbm | mbo | mbq | mbs | mbu | mbw | mby | mca | mcc | mce | mcg | mci | mck | mcm | mco | mcq | mcs | mcu | mcw | mcy | mda | mdc | mde | mdg | mdi | mdk | mdm | mdo | mdq | mef | mei | mep | mew | mfd | mfm | mil | min | mip | mir | mit | miv | mix | miz | mjb | mjd | mjf | mjh | mjj=>(try dsimp only);refine' PySem.W.mg_of KX G ?z;case z=>k_is
   case edr | edt | edv | edx | edz | eeb | eed | eeg | eej | eel | een | eeq | ees | eeu | eex | eez | efb | efe | efg | efi | efk | efn=>(try dsimp only);k_is
   case sfp | sfq | sfr | sfs | sft | sfu | sfv | sfw | sga | sgi | sgj | sgk | sgl | sgt | sgu | sgv | sgw | she | shf | shg | shh | shp | shq | shr | shs | sht | shx | shy | sik=>(try dsimp only);constructor <;> k_is
   case Fab | Fad | Faf | Fah | Faj | Fal | Fan | Fap | Far | Fat | Fav | Fax | Faz | Fbb | Fbd | Fbf | Fbh | Fbj | Fbl | Fbn | Fbp | Fbr | Fbt | Fbv | Fbx | Fbz | Fcb | Fcd | Fcf | Fch | Fcj | Fcl | Fcn | Fcp | Fcr | Fct | Fcv | Fcx | Fcz | Fdb | Fdd | Fdf | Fdh | Fdj | Fdl | Fdn | Fdp | Fds | Fdu | Fdw | Fdy | Fea | Fec | Fee | Feh | Fek | Fem | Feo | Fer | Fet | Fev | Fey | Ffa | Ffc | Fff | Ffh | Ffj | Ffl | Ffo=>(try dsimp only);refine' L2.rL ?x ?y ?z;(case x=>k_is);(case y=>k_is);(case z=>k_is)
   case nfx | nfy | nfz | ngb | ngc | ngd | nge | ngf | ngg | ngh | ngm | ngn | ngo | ngp | ngq | ngr | ngs | ngx | ngy | ngz | nha | nhb | nhc | nhd | nhi | nhj | nhk | nhl | nhm | nhn | nho | nhu | nhv | nhw | nhz | nia | nib | nic | nid=>(try dsimp only);unfold L2.gc;k_is
   case die | dif | dig | dih | dii | dij=>(try dsimp only);decide
   case vim | vio | viq | vis | viu | viw | viy | vja | vjc | vje | vjg | vji | vjk=>(try dsimp only);exact ⟨_,rfl⟩
   case bjl | bjm | bjn | bjo | bjp | bjq | bjr | bjs | bjt | bju | bjv | bjw | bjx | bjy=>(try dsimp only);refine' PySem.W.mg_none_of KX G ?z;case z=>k_is
   case ljz=>(try dsimp only);exact fun _ _=>.of_eq rfl
  obtain ⟨t,T⟩:=T;have e0:=hmg.symm.trans T.OM;cases e0;exact ⟨t.nF,T.jK,fun base kb nb=>My.RJ T⟩
 case S=>exact fun K H a ns hl hO hS=>⟨a,ns,rfl,L2.Sc.of_only hO hS,hl,fun _=>rfl⟩
 case C=>exact fun _ _ _ _ z=>z
