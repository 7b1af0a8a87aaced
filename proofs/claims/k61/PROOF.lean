import PyProof.Rows.All
import Wide.All
import OpenK.AllK
import Wide.FinOn
import Lean
import PyProof.EqAt
import PyProof.EqKinds
import PyProof.TupleCall
import KE.KTryMore
import PyProof.NsDelKeeps
import PySem.Challenge.RW_lampway_k61_papers_read
set_option compiler.extract_closed false
set_option Elab.async false
set_option linter.all false
set_option maxRecDepth 100000
namespace L2
open PySem PySem.Spec PyProof.Rows
noncomputable abbrev Key:=Sum Int Str
noncomputable def eC:Key→Value→Bool
 | .inl k,v=>Value.isInt k v
 | .inr x,v=>Value.isStrOf x v
noncomputable def BQ (w:World):Key→Int
 | .inl k=>hashInt k
 | .inr x=>hashStr w x
theorem fe:∀ {k:Key} {v:Value},eC k v=true→(∃ i t,k=Sum.inl i∧v=Value.int i t)∨(∃ x t,k=Sum.inr x∧v=Value.str x t)
 | .inl i,v,h=>by
  obtain ⟨t,e⟩:=Value.isInt_shape (k:=i) (v:=v) h;exact .inl ⟨i,t,rfl,e⟩
 | .inr x,v,h=>by
  obtain ⟨t,e⟩:=Value.isStrOf_shape (x:=x) (v:=v) h;exact .inr ⟨x,t,rfl,e⟩
theorem YF (i:Int) (t:Tok):eC (.inl i) (.int i t)=true:=by simp [eC,Value.isInt]
theorem DF (x:Str) (t:Tok):eC (.inr x) (.str x t)=true:=by simp [eC,Value.isStrOf]
theorem gN (a b:Int):decide ((Sum.inl a:Key)=Sum.inl b)=(a == b):=by
 by_cases e:a=b
 ·subst e;simp
 ·have h:¬ (Sum.inl a:Key)=Sum.inl b:=fun q=>e (Sum.inl.inj q)
  rw [decide_eq_false h];exact (beq_eq_false_iff_ne.mpr e).symm
theorem JM (a b:Str):decide ((Sum.inr a:Key)=Sum.inr b)=decide (a=b):=by
 by_cases e:a=b
 ·subst e;simp
 ·have h:¬ (Sum.inr a:Key)=Sum.inr b:=fun q=>e (Sum.inr.inj q)
  rw [decide_eq_false h,decide_eq_false e]
theorem RN (a:Int) (b:Str):decide ((Sum.inl a:Key)=Sum.inr b)=false:=decide_eq_false (fun q=>nomatch q)
theorem lO (a:Str) (b:Int):decide ((Sum.inr a:Key)=Sum.inl b)=false:=decide_eq_false (fun q=>nomatch q)
noncomputable def De (prog:Program) (w:World):PySem.KeyKind prog w Key where
 is:=eC
 hash:=BQ w
 inj:=fun v a b ha hb=>by
  rcases fe ha with ⟨i,t,rfl,rfl⟩ | ⟨x,t,rfl,rfl⟩
  ·rcases fe hb with ⟨j,u,rfl,e⟩ | ⟨y,u,rfl,e⟩
   ·injection e with e1 _;rw [e1]
   ·exact nomatch e
  ·rcases fe hb with ⟨j,u,rfl,e⟩ | ⟨y,u,rfl,e⟩
   ·exact nomatch e
   ·injection e with e1 _;rw [e1]
 byValue:=fun k v h=>by
  rcases fe h with ⟨i,t,rfl,rfl⟩ | ⟨x,t,rfl,rfl⟩ <;> rfl
 pyHash:=fun hv h=>by
  rcases fe hv with ⟨i,t,rfl,rfl⟩ | ⟨x,t,rfl,rfl⟩
  ·exact wpAny_pyHash_int h
  ·exact wpAny_pyHash_str h
 eqBool:=fun hu hv h=>by
  rcases fe hu with ⟨i,t,rfl,rfl⟩ | ⟨x,t,rfl,rfl⟩
  ·rcases fe hv with ⟨j,u,rfl,rfl⟩ | ⟨y,u,rfl,rfl⟩
   ·rw [gN] at h;exact wpAny_eqBool_int h
   ·rw [RN] at h;exact SeqAt.EqAt.int_str i t y u _ _ _ _ h
  ·rcases fe hv with ⟨j,u,rfl,rfl⟩ | ⟨y,u,rfl,rfl⟩
   ·rw [lO] at h;exact SeqAt.EqAt.str_int x t j u _ _ _ _ h
   ·rw [JM] at h;exact wpAny_eqBool_str h
 «strs»:=fun k x t v h=>by
  rcases fe h with ⟨i,u,rfl,e⟩ | ⟨y,u,rfl,e⟩
  ·exact nomatch e
  ·injection e with e1 _;subst e1;cases v <;> rfl
theorem jz (prog:Program) (w:World) (i:Int) (t:Tok):(De prog w).is (.inl i) (.int i t)=true:=YF i t
theorem Xx (prog:Program) (w:World) (x:Str) (t:Tok):(De prog w).is (.inr x) (.str x t)=true:=DF x t
end L2
namespace L2
open PySem PySem.Spec PyProof.Rows
inductive V where
 | non | bl (b:Bool) | int (i:Int) | str (x:Str) | byt (b:Array UInt8) | flt (b:UInt64) | ref (a:Addr) | ty (n:String)
 deriving DecidableEq
noncomputable def yd:V→Value→Prop
 | .non,u=>u=Value.none
 | .bl b,u=>u=Value.bool b
 | .int i,u=>∃ t,u=Value.int i t
 | .str x,u=>∃ t,u=Value.str x t
 | .byt b,u=>∃ t,u=Value.bytes b t
 | .flt b,u=>∃ t,u=Value.float b t
 | .ref a,u=>u=Value.ref a
 | .ty n,u=>u=Value.type n
noncomputable abbrev zd:List V→List Value→Prop:=Paired yd
theorem zd.length {xs:List V} {us:List Value} (r:zd xs us):xs.length=us.length:=Paired.length r
theorem zd.get:∀ {xs:List V} {us:List Value} {i:Nat} {x:V},zd xs us→xs[i]? = some x→∃ u,us[i]? = some u∧yd x u
 | _,_,_,_,.nil,e=>by simp at e
 | _,_,0,_,.cons r _,e=>by simp at e;subst e;exact ⟨_,rfl,r⟩
 | _,_,i + 1,x,.cons _ t,e=>by
  obtain ⟨u,h1,h2⟩:=zd.get (i:=i) (x:=x) t (by simpa using e);exact ⟨u,by simpa using h1,h2⟩
theorem zd.set {x:V} {u:Value} (r:yd x u):∀ {xs:List V} {us:List Value} (i:Nat),zd xs us→zd (xs.set i x) (us.set i u)
 | _,_,_,.nil=>.nil
 | _,_,0,.cons _ t=>.cons r t
 | _,_,i + 1,.cons q t=>.cons q (zd.set r i t)
theorem zd.append:∀ {xs ys:List V} {us ws:List Value},zd xs us→zd ys ws→zd (xs ++ ys) (us ++ ws)
 | _,_,_,_,.nil,s=>s
 | _,_,_,_,.cons r t,s=>.cons r (zd.append t s)
theorem zd.take:∀ {xs:List V} {us:List Value} (n:Nat),zd xs us→zd (xs.take n) (us.take n)
 | _,_,0,_=>.nil
 | _,_,_ + 1,.nil=>.nil
 | _,_,n + 1,.cons r t=>.cons r (zd.take n t)
theorem zd.drop:∀ {xs:List V} {us:List Value} (n:Nat),zd xs us→zd (xs.drop n) (us.drop n)
 | _,_,0,r=>r
 | _,_,_ + 1,.nil=>.nil
 | _,_,n + 1,.cons _ t=>zd.drop n t
theorem zd.none_of:∀ {xs:List V} {us:List Value} {i:Nat},zd xs us→xs[i]? = none→us[i]? = none:=fun {xs us i} r e=>by
 have h1:=r.length;have h2:xs.length ≤ i:=List.getElem?_eq_none_iff.mp e;exact List.getElem?_eq_none_iff.mpr (by omega)
noncomputable def qu:Option V→Option Value→Prop
 | some v,some u=>yd v u
 | none,none=>True
 | _,_=>False
noncomputable def KV {κ:Type}:List (κ × V)→List (κ × Value)→Prop:=Paired fun (p:κ × V) (q:κ × Value)=>p.1=q.1∧yd p.2 q.2
noncomputable def kV:Key→V
 | .inl i=>.int i
 | .inr x=>.str x
inductive HO where
  | lst (xs:List V)
  | tup (xs:List V)
  | dK (kvs:List (Key × V)) | dT (kvs:List (List Key × V))
  | set (S:Int→Bool) (n:Nat)
  | ins (C dx:Addr) (fs:List (Str × V))
  | own (x:Addr)
  | xd (fs:List (Str × V))
  | met (f x:Addr)
  | rng (lo hi:Int)
  | frz (o:Obj) (u:HO)
  | tbl (ps:Array Value)
  | ext (φ:Heap→Prop)
noncomputable abbrev Hp:=Addr→Option HO
noncomputable def upd (H:Hp) (a:Addr) (o:HO):Hp:=fun b=>if b=a then some o else H b
theorem ib {H:Hp} {a:Addr} {o:HO}:upd H a o a=some o:=by unfold upd;rw [if_pos rfl]
theorem Eb {H:Hp} {a b:Addr} {o:HO} (h:b ≠ a):upd H a o b=H b:=by unfold upd;rw [if_neg h]
theorem Gm {H:Hp} {a:Addr} {o u:HO}:upd (upd H a o) a u=upd H a u:=by
 funext b;unfold upd;split <;> rfl
theorem Bj {H:Hp} {a b:Addr} {o u:HO} (h:H a=some o) (h':H b=some u) (d:o ≠ u):a ≠ b:=by
 intro e;subst e;rw [h] at h';exact d (Option.some.inj h')
theorem Nb {H:Hp} {a b:Addr} {o:HO} (h:H a=some o) (h':H b=none):a ≠ b:=by
 intro e;subst e;rw [h] at h';cases h'
section
variable (P:Program) (w:World)
noncomputable def Bd (H:Hp) (h:Heap) (a:Addr):HO→Prop
 | .lst xs=>xs.length ≤ sizeLine∧∃ (its:List Value) (n:Nat),zd xs its∧h.get? a=some { cls:=.type "list",data:=.seq its.toArray n }
 | .tup xs=>(xs.length ≤ sizeLine∧∃ ob,h.get? a=some ob∧ob.dict=none)∧∃ its:List Value,zd xs its∧IsTup h a its.toArray
 | .dK kvs=>kvs.length ≤ sizeLine∧(a == sysModules)=false∧∃ vs,KV kvs vs∧h.DictOf (De P w) a vs
 | .dT kvs=>kvs.length ≤ sizeLine∧(a == sysModules)=false∧∃ xs:List (List Key × Addr × Value),
   Paired (fun (p:List Key × V) (q:List Key × Addr × Value)=>p.1=q.1∧H q.2.1=some (.tup (p.1.map kV))∧yd p.2 q.2.2) kvs xs ∧
   ∃ o es ep,h.get? a=some o∧o.ExactDict∧o.data=.dict es ep∧es.toList=xs.map (entryOfKey (tupleKind (De P w)))∧(xs.map (·.1)).Nodup
 | .set S n=>h.SetOf (intKind P w) a S n
 | .ins C dx fs=>H dx=some (.own a)∧fs.length ≤ 1000∧dx ≠ a∧h.get? a=some (PySem.W.instObj C dx) ∧
   ∃ mA,h.Ns1 dx mA∧(∀ f,qu (fs.lookup f) (mA f))∧PySem.Within mA (fs.map (·.1))
 | .own _=>∃ o,h.get? a=some o
 | .xd fs=>∃ mA,h.Ns1 a mA∧∀ f,qu (fs.lookup f) (mA f)
 | .rng lo hi=>∃ t u v,h.get? a=some { cls:=.type "range",data:=.fields #[.int lo t,.int hi u,.int 1 v] }
 | .frz o u=>h.get? a=some o∧Bd H h a u
 | .tbl ps=>h.get? a=some { cls:=.none,data:=.fields ps }
 | .met f x=>h.get? a=some (PySem.W.methodObj (.ref f) (.ref x))
 | .ext φ=>φ h∧(∃ o,h.get? a=some o)∧∀ h1 h2:Heap,φ h1→(∀ o,h1.get? a=some o→h2.get? a=some o)→φ h2
noncomputable def HOk (H:Hp) (h:Heap):Prop:=∀ a o,H a=some o→Bd P w H h a o
end
section
variable {P:Program} {w:World} {H H':Hp} {h h':Heap} {a:Addr} {o:HO}
theorem Bd.lt (x:Bd P w H h a o):a < h.objs.size:=by
 cases o with
 | lst xs=>obtain ⟨_,_,_,_,e⟩:=x;exact Heap.lt_size e
 | tup xs=>obtain ⟨_,_,_,p⟩:=x;exact p.lt
 | dK kvs=>obtain ⟨_,_,_,_,o,_,_,e,_⟩:=x;exact Heap.lt_size e
 | dT kvs=>obtain ⟨_,_,_,_,o,_,_,e,_⟩:=x;exact Heap.lt_size e
 | set S n=>obtain ⟨o,_,_,_,e,_⟩:=x;exact Heap.lt_size e
 | ins C dx fs=>obtain ⟨_,_,_,e,_⟩:=x;exact Heap.lt_size e
 | own y=>obtain ⟨_,e⟩:=x;exact Heap.lt_size e
 | xd fs=>obtain ⟨_,⟨_,_,_,e,_⟩,_⟩:=x;exact Heap.lt_size e
 | rng lo hi=>obtain ⟨_,_,_,e⟩:=x;exact Heap.lt_size e
 | frz ob u=>obtain ⟨e,_⟩:=x;exact Heap.lt_size e
 | tbl ps=>exact Heap.lt_size (show h.get? a=some _ from x)
 | met f y=>exact Heap.lt_size (show h.get? a=some _ from x)
 | ext φ=>obtain ⟨_,⟨_,e⟩,_⟩:=x;exact Heap.lt_size e
theorem Paired.mapP {α β:Type} {F G:α→β→Prop}:∀ {l₁:List α} {l₂:List β},Paired F l₁ l₂→(∀ a b,F a b→G a b)→Paired G l₁ l₂
 | _,_,.nil,_=>.nil
 | _,_,.cons r t,f=>.cons (f _ _ r) (Paired.mapP t f)
theorem Bd.stay (x:Bd P w H h a o) (k:∀ b u,(b=a∨H b=some (.own a))→h.get? b=some u→h'.get? b=some u)
  (ho:∀ b,H b=some (.own a)→H' b=some (.own a)) (ht:∀ b xs,H b=some (.tup xs)→H' b=some (.tup xs)):Bd P w H' h' a o:=by
 induction o with
 | lst xs=>obtain ⟨z,its,n,r,e⟩:=x;exact ⟨z,its,n,r,k _ _ (.inl rfl) e⟩
 | tup xs=>obtain ⟨⟨z,oz,ez,dz⟩,its,r,ob,e,c⟩:=x;exact ⟨⟨z,oz,k _ _ (.inl rfl) ez,dz⟩,its,r,ob,k _ _ (.inl rfl) e,c⟩
 | dK kvs=>obtain ⟨z,y,vs,r,ob,es,ep,e,c⟩:=x;exact ⟨z,y,vs,r,ob,es,ep,k _ _ (.inl rfl) e,c⟩
 | dT kvs=>
  obtain ⟨z,y,xs,r,ob,es,ep,e,c⟩:=x;exact ⟨z,y,xs,Paired.mapP r fun p q z=>⟨z.1,ht _ _ z.2.1,z.2.2⟩,ob,es,ep,k _ _ (.inl rfl) e,c⟩
 | set S n=>obtain ⟨ob,es,ep,t,e,c⟩:=x;exact ⟨ob,es,ep,t,k _ _ (.inl rfl) e,c⟩
 | ins C dx fs=>
  obtain ⟨d,z,ne,e,mA,⟨od,es,ep,e2,c⟩,r⟩:=x;exact ⟨ho _ d,z,ne,k _ _ (.inl rfl) e,mA,⟨od,es,ep,k _ _ (.inr d) e2,c⟩,r⟩
 | own y=>obtain ⟨ob,e⟩:=x;exact ⟨ob,k _ _ (.inl rfl) e⟩
 | xd fs=>obtain ⟨mA,⟨od,es,ep,e,c⟩,r⟩:=x;exact ⟨mA,⟨od,es,ep,k _ _ (.inl rfl) e,c⟩,r⟩
 | rng lo hi=>obtain ⟨t,u,v,e⟩:=x;exact ⟨t,u,v,k _ _ (.inl rfl) e⟩
 | frz ob u ih=>obtain ⟨e,q⟩:=x;exact ⟨k _ _ (.inl rfl) e,ih q⟩
 | tbl ps=>
  have e:h.get? a=some { cls:=.none,data:=.fields ps }:=x;show h'.get? a=some { cls:=.none,data:=.fields ps };exact k a _ (.inl rfl) e
 | met f y=>
  have e:h.get? a=some (PySem.W.methodObj (.ref f) (.ref y)):=x;show h'.get? a=some (PySem.W.methodObj (.ref f) (.ref y));exact k a _ (.inl rfl) e
 | ext φ=>obtain ⟨p,⟨o,e⟩,st⟩:=x;exact ⟨st _ _ p fun o q=>k _ _ (.inl rfl) q,⟨o,k _ _ (.inl rfl) e⟩,st⟩
theorem HOk.lt (x:HOk P w H h) (e:H a=some o):a < h.objs.size:=(x a o e).lt
theorem HOk.fresh (x:HOk P w H h) (e:h.objs.size ≤ a):H a=none:=by
 cases q:H a with
 | none=>rfl
 | some u=>exact absurd (Nat.lt_of_lt_of_le (x.lt q) e) (Nat.lt_irrefl _)
theorem HOk.kept (x:HOk P w H h) (k:∀ b u,h.get? b=some u→h'.get? b=some u):HOk P w H h':=fun a o e=>
 (x a o e).stay (fun b u _ q=>k b u q) (fun _ q=>q) fun _ _ q=>q
theorem HOk.laid (x:HOk P w H h) (k:∀ b u,h.get? b=some u→h'.get? b=some u) (hp:h.objs.size ≤ a) (new:Bd P w (upd H a o) h' a o):HOk P w (upd H a o) h':=fun b u e=>by
 have hn:=x.fresh hp;by_cases hb:b=a
 ·subst hb;rw [ib] at e;cases e;exact new
 ·rw [Eb hb] at e;exact (x b u e).stay (fun c v _ q=>k c v q) (fun c q=>by rw [Eb (Nb q hn)];exact q) fun c xs q=>by rw [Eb (Nb q hn)];exact q
end
noncomputable def Rd (H:Hp) (a:Addr) (u:HO):Prop:=H a=some u∨∃ o,H a=some (.frz o u)
theorem Rd.of {H:Hp} {a:Addr} {u:HO} (h:H a=some u):Rd H a u:=.inl h
theorem Rd.ok {P:Program} {w:World} {H:Hp} {h:Heap} {a:Addr} {u:HO} (r:Rd H a u) (x:HOk P w H h):Bd P w H h a u:=by
 rcases r with r | ⟨o,r⟩
 ·exact x a u r
 ·obtain ⟨_,q⟩:=x a _ r;exact q
noncomputable def Mut:Option HO→Prop
 | some (.lst _)=>True
 | some (.dK _)=>True
 | some (.dT _)=>True
 | some (.set _ _)=>True
 | some (.ins _ _ _)=>True
 | some (.ext _)=>True
 | _=>False
section
variable {P:Program} {w:World} {H:Hp} {h h':Heap} {x e:Addr} {o':HO}
theorem HOk.write (ok:HOk P w H h) (mu:Mut (H x)) (he:e=x∨H e=some (.own x)) (k:∀ b u,b ≠ e→h.get? b=some u→h'.get? b=some u) (heo:∃ u,h'.get? e=some u)
  (new:Bd P w (upd H x o') h' x o'):HOk P w (upd H x o') h':=fun b u q=>by
 have nown:∀ c y,H c=some (.own y)→c ≠ x:=fun c y r z=>by subst z;rw [r] at mu;exact mu
 have ntup:∀ c xs,H c=some (.tup xs)→c ≠ x:=fun c xs r z=>by subst z;rw [r] at mu;exact mu
 by_cases hb:b=x
 ·subst hb;rw [ib] at q;cases q;exact new
 ·rw [Eb hb] at q;by_cases hbe:b=e
  ·have q':H b=some (.own x):=by
    rcases he with z | z
    ·exact absurd (hbe.trans z) hb
    ·rw [hbe];exact z
   rw [q] at q';cases q';obtain ⟨v,hv⟩:=heo;exact ⟨v,by rw [hbe];exact hv⟩
  ·refine (ok b u q).stay (fun c v hc r=>k c v ?_ r) (fun c r=>by rw [Eb (nown c b r)];exact r) fun c xs r=>by rw [Eb (ntup c xs r)];exact r
   rcases hc with rfl | hc
   ·exact hbe
   ·rintro rfl;rcases he with z | z
    ·exact nown c b hc z
    ·rw [hc] at z;cases z;exact hb rfl
end
structure Un (fs ex:List Addr) (H H':Hp) (h h':Heap):Prop where
 keep:∀ b o,h.get? b=some o→H b=none→b ∉ fs→b ∉ ex→h'.get? b=some o
 slot:∀ b o,h.get? b=some o→H b=none→b ∈ fs→b ∉ ex→∃ sl,h'.get? b=some { o with slots:=sl }
 free:∀ b o,h.get? b=some o→H b=none→b ∉ ex→H' b=none
 there:∀ b o,h.get? b=some o→b ∉ ex→∃ o',h'.get? b=some o'
 tups:∀ b xs,H b=some (.tup xs)→H' b=some (.tup xs)
 frzs:∀ b o u,H b=some (.frz o u)→H' b=some (.frz o u)
 tbls:∀ b ps,H b=some (.tbl ps)→∃ more,H' b=some (.tbl (ps ++ more))
section
variable {fs fs' ex ex':List Addr} {H H1 H2:Hp} {h h1 h2 h':Heap} {a x e:Addr} {o:HO}
theorem Un.any (u:Un fs ex H H1 h h1) {b:Addr} {ob:Obj} (q:h.get? b=some ob) (n:H b=none) (hx:b ∉ ex):∃ sl,h1.get? b=some { ob with slots:=sl }:=by
 by_cases hb:b ∈ fs
 ·exact u.slot b ob q n hb hx
 ·exact ⟨ob.slots,u.keep b ob q n hb hx⟩
theorem Un.trans (a:Un fs ex H H1 h h1) (b:Un fs ex H1 H2 h1 h2):Un fs ex H H2 h h2 where
 keep:=fun c ob q n hc hx=>b.keep c ob (a.keep c ob q n hc hx) (a.free c ob q n hx) hc hx
 slot:=fun c ob q n hc hx=>by
  obtain ⟨sl,e1⟩:=a.slot c ob q n hc hx;obtain ⟨sl',e2⟩:=b.slot c _ e1 (a.free c ob q n hx) hc hx;exact ⟨sl',e2⟩
 free:=fun c ob q n hx=>by
  obtain ⟨o',e1⟩:=a.there c ob q hx;exact b.free c o' e1 (a.free c ob q n hx) hx
 there:=fun c ob q hx=>by
  obtain ⟨o',e1⟩:=a.there c ob q hx;exact b.there c o' e1 hx
 tups:=fun c xs q=>b.tups c xs (a.tups c xs q)
 frzs:=fun c ob xs q=>b.frzs c ob xs (a.frzs c ob xs q)
 tbls:=fun c ps q=>by
  obtain ⟨m1,e1⟩:=a.tbls c ps q;obtain ⟨m2,e2⟩:=b.tbls c _ e1;exact ⟨m1 ++ m2,by rw [e2,Array.append_assoc]⟩
theorem Un.kept (k:∀ b u,h.get? b=some u→h'.get? b=some u):Un fs ex H H h h':=
 ⟨fun b ob q _ _ _=>k b ob q,fun b ob q _ _ _=>⟨ob.slots,k b ob q⟩,fun _ _ _ n _=>n,fun b ob q _=>⟨ob,k b ob q⟩,fun _ _ q=>q,fun _ _ _ q=>q,fun _ ps q=>⟨#[],by rw [q];simp⟩⟩
theorem Un.refl:Un fs ex H H h h:=Un.kept fun _ _ q=>q
theorem Un.laid (k:∀ b u,h.get? b=some u→h'.get? b=some u) (hp:h.objs.size ≤ a) (hn:H a=none):Un fs ex H (upd H a o) h h' where
 keep:=fun b u q _ _ _=>k b u q
 slot:=fun b u q _ _ _=>⟨u.slots,k b u q⟩
 free:=fun b u q n _=>by rw [Eb (Nat.ne_of_lt (Nat.lt_of_lt_of_le (Heap.lt_size q) hp))];exact n
 there:=fun b u q _=>⟨u,k b u q⟩
 tups:=fun b xs q=>by rw [Eb (Nb q hn)];exact q
 frzs:=fun b u xs q=>by rw [Eb (Nb q hn)];exact q
 tbls:=fun b ps q=>⟨#[],by rw [Eb (Nb q hn),q];simp⟩
theorem Un.write (mu:Mut (H x)) (he:e=x∨H e=some (.own x)) (k:∀ b u,b ≠ e→h.get? b=some u→h'.get? b=some u) (heo:∃ u,h'.get? e=some u):Un fs ex H (upd H x o) h h':=by
 have hx:∀ b,H b=none→b ≠ x:=fun b n z=>by subst z;rw [n] at mu;exact mu
 have hb:∀ b,H b=none→b ≠ e:=fun b n z=>by
  subst z;rcases he with r | r
  ·exact hx b n r
  ·rw [n] at r;cases r
 have hm:∀ b u,H b=some u→¬ Mut (some u)→b ≠ x:=fun b u q nm z=>by subst z;rw [q] at mu;exact nm mu
 refine ⟨fun b u q n _ _=>k b u (hb b n) q,fun b u q n _ _=>⟨u.slots,k b u (hb b n) q⟩,fun b u q n _=>by rw [Eb (hx b n)];exact n,fun b u q _=>?_,
  fun b xs q=>by rw [Eb (hm b _ q fun z=>z)];exact q,fun b u xs q=>by rw [Eb (hm b _ q fun z=>z)];exact q,fun b ps q=>⟨#[],by rw [Eb (hm b _ q fun z=>z),q];simp⟩⟩
 by_cases hbe:b=e
 ·subst hbe;exact heo
 ·exact ⟨u,k b u hbe q⟩
theorem Un.mono (u:Un fs ex H H1 h h1) (hs:∀ b ∈ fs,b ∈ fs') (hx:∀ b ∈ ex,b ∈ ex'):Un fs' ex' H H1 h h1:=
 ⟨fun b ob q n hb he=>u.keep b ob q n (fun z=>hb (hs b z)) fun z=>he (hx b z),fun _ _ q n _ he=>u.any q n fun z=>he (hx _ z),fun b ob q n he=>u.free b ob q n fun z=>he (hx b z),fun b ob q he=>u.there b ob q fun z=>he (hx b z),u.tups,u.frzs,u.tbls⟩
end
noncomputable def trk (h:Heap) (H:Hp):List Addr:=(List.range h.objs.size).filter fun a=>(H a).isSome
noncomputable def uI (h:Heap) (H:Hp):Heap:=PySem.W.hideAll h (trk h H)
theorem GD (h:Heap) (H:Hp):(uI h H).objs.size=h.objs.size:=PySem.W.hideAll_size _ _
theorem oI {h:Heap} {H:Hp} {b:Addr} {o:Obj} (e:h.get? b=some o) (n:H b=none):(uI h H).get? b=some o:=
 PySem.W.hideAll_get _ e fun hm=>by
  have q:(H b).isSome=true:=(List.mem_filter.mp hm).2;rw [n] at q;simp at q
theorem TL {h:Heap} {H:Hp} {b:Addr} {o:Obj} (e:(uI h H).get? b=some o):h.get? b=some o∧H b=none:=by
 have e':h.get? b=some o:=PySem.W.of_hideAll (trk h H) e;refine ⟨e',?_⟩;cases q:H b with
 | none=>rfl
 | some x=>
  have hm:b ∈ trk h H:=List.mem_filter.mpr ⟨List.mem_range.mpr (Heap.lt_size e'),by simp [q]⟩;have z:(uI h H).get? b=none:=PySem.W.hideAll_none (trk h H) hm;rw [z] at e;cases e
noncomputable def rL (g h:Heap) (L:Addr):List (Addr × Obj):=(List.range h.objs.size).filterMap fun a=>if a=L∨(g.get? a).isSome=true then none else (h.get? a).map fun o=>(a,o)
noncomputable def jy (g h:Heap) (L d:Addr):List (Addr × Obj):=(rL g h L).filter fun p=>decide (p.1 ≠ d)
end L2
namespace L2
open PySem PySem.Spec PyProof.Rows
structure Mod (K:PySem.W.Frag) (mg:Str→Option Value) (base:Heap):Prop where
 kin:K.In base
 glob:base.Ns mainGlobals mg
 blt:∃ mb,base.Ns builtinsNs mb∧∀ x:Str,x ≠ "__name__" → mb x=bootBuiltins x
 nolimit:base.NoLimit
structure Cx where
 prog:Program
 w:World
 K:PySem.W.Frag
 mg:Str→Option Value
 base:Heap
 A:Around
 N:List Str
 s₀:Shared
 H₀:Hp
 env:Env
 outer:List Env
 stack:List Env
 ex:List Addr
 fn:Str→Bool
 calm:Bool
 pn:List (Addr × Obj)
 xe:Value→Shared→Prop
noncomputable def frs (l:List Env):List Addr:=l.filterMap (·.frame)
noncomputable abbrev Cx.fs (X:Cx):List Addr:=frs X.outer
noncomputable def Vis (sc:Scope) (x:Str):Prop:=sc.names.lookup x=some .local∨sc.names.lookup x=some .cell∨sc.names.lookup x=some .free
noncomputable def Loc (sc:Scope) (x:Str):Prop:=sc.names.lookup x=some .local∨sc.names.lookup x=some .cell
noncomputable def CQ (env:Env) (h:Heap) (m:Str→Option Value) (x:Str) (u:Value):Prop:=
 (env.kindOf x=some .local∧m x=some u)∨((env.kindOf x=some .cell∨env.kindOf x=some .free)∧∃ c,env.cells.lookup x=some c∧h.IsCell c (some u))
structure Cx.Ok (X:Cx):Prop where
 mod:Mod X.K X.mg X.base
 kind:X.env.scope.kind=.function
 glob:X.env.globals=mainGlobals
 blt:X.env.builtins=builtinsNs
 above:X.s₀.heap.objs.size ≤ X.env.locals
 inj:∀ x y c,X.env.cells.lookup x=some c→X.env.cells.lookup y=some c→x=y
 has:∀ x,(X.env.kindOf x=some .cell∨X.env.kindOf x=some .free)→∃ c,X.env.cells.lookup x=some c
 cab:∀ x c,X.fn x=true→X.env.cells.lookup x=some c→X.s₀.heap.objs.size ≤ c
 hd:X.calm=true→X.A.handled=none
 frames:X.A.frames=some X.stack
 stk:X.stack=X.outer∨(X.stack=X.env :: X.outer∧X.env.frame=some X.env.locals)
 exf:∀ b ∈ X.ex,b ≠ X.env.locals∧∀ x c,X.env.cells.lookup x=some c→c ≠ b
 bs:∀ b o,X.base.get? b=some o→X.s₀.heap.get? b=some o∧X.H₀ b=none
 bsz:X.base.objs.size ≤ X.s₀.heap.objs.size
 noex:∀ b o,X.base.get? b=some o→b ∉ X.ex
 exfs:∀ b ∈ X.ex,b ∉ X.fs
 funs:X.s₀.heap.FunFrames X.base X.outer
 frf:∀ b ∈ X.fs,X.H₀ b=none
structure Inv (X:Cx) (pins:List (Addr × Obj)) (σ:List (Option V)) (H:Hp) (s:Shared):Prop where
 ok:X.Ok
 os:s.os=X.s₀.os
 bare:AllBare s.gens
 base:Un X.fs X.ex X.H₀ H X.s₀.heap s.heap
 loc:∃ m,s.heap.Ns X.env.locals m∧∀ (i:Nat) (x:Str) (v:V),X.N[i]? = some x→σ[i]? = some (some v)→Vis X.env.scope x→∃ u,yd v u∧CQ X.env s.heap m x u
 cell:∀ x c,X.env.cells.lookup x=some c→∃ v,s.heap.IsCell c v
 free:H X.env.locals=none
 freeC:∀ x c,X.env.cells.lookup x=some c→H c=none
 pin:∀ p ∈ X.pn ++ pins,s.heap.get? p.1=some p.2∧H p.1=none∧p.1 ≠ X.env.locals∧p.1 ∉ X.fs∧∀ v,p.2.data ≠ .cell v
 hok:HOk X.prog X.w H s.heap
 len:σ.length=X.N.length
section
variable {X:Cx} {pins:List (Addr × Obj)} {σ:List (Option V)} {H H':Hp} {s:Shared} {h':Heap}
theorem Cx.Ok.nofr (ok:X.Ok) {b:Addr} {o:Obj} (e:X.base.get? b=some o):b ∉ X.fs:=fun hb=>by
 have:=(ok.funs.mem hb).1;rw [e] at this;cases this
theorem Inv.bs (I:Inv X pins σ H s):∀ b o,X.base.get? b=some o→s.heap.get? b=some o∧H b=none:=fun b o e=>
 ⟨I.base.keep b o (I.ok.bs b o e).1 (I.ok.bs b o e).2 (I.ok.nofr e) (I.ok.noex b o e),I.base.free b o (I.ok.bs b o e).1 (I.ok.bs b o e).2 (I.ok.noex b o e)⟩
theorem Inv.bk (I:Inv X pins σ H s):∀ b o,X.base.get? b=some o→s.heap.get? b=some o:=fun b o e=>(I.bs b o e).1
theorem Inv.mod (I:Inv X pins σ H s):Mod X.K X.mg X.base:=I.ok.mod
theorem Inv.kIn (I:Inv X pins σ H s):X.K.In s.heap:=I.ok.mod.kin.keeps I.bk
theorem Inv.nolimit (I:Inv X pins σ H s):s.heap.NoLimit:=I.ok.mod.nolimit.keeps I.bk
theorem Inv.fr (I:Inv X pins σ H s):∃ m,Fr X.base X.env.locals s.heap m:=
 let ⟨m,hn,_⟩:=I.loc
 ⟨m,hn,I.bk,Nat.le_trans I.ok.bsz I.ok.above⟩
theorem Inv.lt (I:Inv X pins σ H s):X.env.locals < s.heap.objs.size:=let ⟨_,hn,_⟩:=I.loc;hn.lt
theorem Inv.sz (I:Inv X pins σ H s):X.s₀.heap.objs.size ≤ s.heap.objs.size:=Nat.le_trans I.ok.above (Nat.le_of_lt I.lt)
theorem Inv.nofs (I:Inv X pins σ H s) {a:Addr} (h:s.heap.objs.size ≤ a):a ∉ X.fs:=fun hb=>by
 obtain ⟨_,o,ho,_⟩:=I.ok.funs.mem hb;exact absurd (Nat.lt_of_lt_of_le (Heap.lt_size ho) (Nat.le_trans I.sz h)) (Nat.lt_irrefl _)
theorem Inv.cne (I:Inv X pins σ H s):∀ x c,X.env.cells.lookup x=some c→c ≠ X.env.locals:=fun x c e z=>by
 obtain ⟨v,o,ho,hd⟩:=I.cell x c e;obtain ⟨m,⟨o',es,ep,ho',hd',_⟩,_⟩:=I.loc;rw [z,ho'] at ho;cases ho;rw [hd'] at hd;cases hd
theorem Inv.funs (I:Inv X pins σ H s):s.heap.FunFrames X.base X.outer:=by
 have all:∀ (l:List Env),(∀ b ∈ frs l,b ∈ X.fs)→X.s₀.heap.FunFrames X.base l→s.heap.FunFrames X.base l:=by
  intro l
  induction l with
  | nil=>intro _ _;trivial
  | cons env r ih=>
   intro hs hl;obtain ⟨hk,⟨L,o,hf,hn,ho,hd⟩,hr⟩:=hl;have hL:L ∈ X.fs:=hs L (by unfold frs;rw [List.filterMap_cons,hf];exact List.mem_cons_self);obtain ⟨sl,e⟩:=I.base.slot L o ho (I.ok.frf L hL) hL fun z=>I.ok.exfs L z hL
   exact ⟨hk,⟨L,_,hf,hn,e,hd⟩,ih (fun b hb=>hs b (by unfold frs;rw [List.filterMap_cons,hf];exact List.mem_cons_of_mem _ hb)) hr⟩
 exact all X.outer (fun _ hb=>hb) I.ok.funs
theorem Inv.stack (I:Inv X pins σ H s):s.heap.FunFrames X.base X.stack:=by
 rcases I.ok.stk with e | ⟨e,hf⟩
 ·rw [e];exact I.funs
 ·rw [e];obtain ⟨m,hn,_⟩:=I.loc;refine .cons (by rw [I.ok.kind];decide) hf hn ?_ I.funs;exact Heap.get?_none_of_le (Nat.le_trans I.ok.bsz I.ok.above)
theorem Inv.stkSub (I:Inv X pins σ H s):∀ b ∈ frs X.stack,b ∈ X.env.locals :: X.fs:=fun b hb=>by
 rcases I.ok.stk with e | ⟨e,hf⟩
 ·rw [e] at hb;exact List.mem_cons_of_mem _ hb
 ·rw [e] at hb;unfold frs at hb;rw [List.filterMap_cons,hf] at hb;exact hb
theorem Inv.stkFree (I:Inv X pins σ H s):∀ b ∈ frs X.stack,H b=none:=fun b hb=>by
 rcases List.mem_cons.mp (I.stkSub b hb) with e | hb
 ·rw [e];exact I.free
 ·obtain ⟨_,o,ho,_⟩:=I.ok.funs.mem hb;exact I.base.free b o ho (I.ok.frf b hb) fun z=>I.ok.exfs b z hb
theorem Inv.step {g':Array GenState} {t':Nat} {d':Drawn} {ch:List Addr} (I:Inv X pins σ H s)
  (hch:∀ b ∈ ch,(b ∈ X.ex∨X.s₀.heap.objs.size ≤ b)∧b ≠ X.env.locals∧(∀ x c,X.env.cells.lookup x=some c→c ≠ b)∧∀ p ∈ X.pn ++ pins,p.1 ≠ b)
  (keep:∀ b o,b ≠ X.env.locals→b ∉ X.fs→b ∉ ch→s.heap.get? b=some o→H b=none→h'.get? b=some o)
  (slot:∀ b o,b ≠ X.env.locals→b ∈ X.fs→b ∉ ch→s.heap.get? b=some o→H b=none→∃ sl,h'.get? b=some { o with slots:=sl }) (free:∀ b o,b ∉ ch→s.heap.get? b=some o→H b=none→H' b=none)
  (there:∀ b o,b ∉ ch→s.heap.get? b=some o→∃ o',h'.get? b=some o')
  (tups:∀ b xs,H b=some (.tup xs)→H' b=some (.tup xs)) (frzs:∀ b o u,H b=some (.frz o u)→H' b=some (.frz o u)) (tbls:∀ b ps,H b=some (.tbl ps)→∃ more,H' b=some (.tbl (ps ++ more)))
  (ns:∀ m,s.heap.Ns X.env.locals m→h'.Ns X.env.locals m) (hok:HOk X.prog X.w H' h') (hg:AllBare g') :
  Inv X pins σ H' { s with heap:=h',gens:=g',drawn:=d',toks:=t' }:=by
 have neL:∀ b o,X.s₀.heap.get? b=some o→b ≠ X.env.locals:=fun b o e=>Nat.ne_of_lt (Nat.lt_of_lt_of_le (Heap.lt_size e) I.ok.above)
 have neC:∀ b o,X.s₀.heap.get? b=some o→b ∉ X.ex→b ∉ ch:=fun b o e hx hb=>by
  rcases (hch b hb).1 with z | z
  ·exact hx z
  ·exact absurd (Nat.lt_of_lt_of_le (Heap.lt_size e) z) (Nat.lt_irrefl _)
 have cellK:∀ x c,X.env.cells.lookup x=some c→∀ v,s.heap.IsCell c v→h'.IsCell c v:=fun x c e v ⟨o,ho,hd⟩=>by
  have nch:c ∉ ch:=fun z=>(hch c z).2.2.1 x c e rfl
  by_cases hc:c ∈ X.fs
  ·obtain ⟨sl,q⟩:=slot c o (I.cne x c e) hc nch ho (I.freeC x c e);exact ⟨_,q,hd⟩
  ·exact ⟨o,keep c o (I.cne x c e) hc nch ho (I.freeC x c e),hd⟩
 refine ⟨I.ok,I.os,hg,⟨fun b o e n hb hx=>?_,fun b o e n hb hx=>?_,fun b o e n hx=>?_,fun b o e hx=>?_,fun b xs e=>tups b xs (I.base.tups b xs e),fun b o xs e=>frzs b o xs (I.base.frzs b o xs e),fun b ps e=>?_⟩,?_,fun x c e=>?_,?_,fun x c e=>?_,fun p hp=>?_,hok,I.len⟩
 ·exact keep b o (neL b o e) hb (neC b o e hx) (I.base.keep b o e n hb hx) (I.base.free b o e n hx)
 ·obtain ⟨sl,e1⟩:=I.base.slot b o e n hb hx;obtain ⟨sl',e2⟩:=slot b _ (neL b o e) hb (neC b o e hx) e1 (I.base.free b o e n hx);exact ⟨sl',e2⟩
 ·obtain ⟨o',e1⟩:=I.base.there b o e hx;exact free b o' (neC b o e hx) e1 (I.base.free b o e n hx)
 ·obtain ⟨o',e1⟩:=I.base.there b o e hx;exact there b o' (neC b o e hx) e1
 ·obtain ⟨m1,e1⟩:=I.base.tbls b ps e;obtain ⟨m2,e2⟩:=tbls b _ e1;exact ⟨m1 ++ m2,by rw [e2,Array.append_assoc]⟩
 ·obtain ⟨m,hn,hl⟩:=I.loc;refine ⟨m,ns m hn,fun i x v e1 e2 e3=>?_⟩;obtain ⟨u,r,l⟩:=hl i x v e1 e2 e3;refine ⟨u,r,?_⟩;rcases l with l | ⟨k,c,e,z⟩
  ·exact .inl l
  ·exact .inr ⟨k,c,e,cellK x c e _ z⟩
 ·obtain ⟨v,z⟩:=I.cell x c e;exact ⟨v,cellK x c e v z⟩
 ·obtain ⟨m,⟨o,_,_,ho,_⟩,_⟩:=I.loc;exact free _ o (fun z=>(hch _ z).2.1 rfl) ho I.free
 ·obtain ⟨v,o,ho,hd⟩:=I.cell x c e;exact free c o (fun z=>(hch c z).2.2.1 x c e rfl) ho (I.freeC x c e)
 ·obtain ⟨e,n,ne,nf,d⟩:=I.pin p hp;have nch:p.1 ∉ ch:=fun z=>(hch p.1 z).2.2.2 p hp rfl
  exact ⟨keep p.1 p.2 ne nf nch e n,free p.1 p.2 nch e n,ne,nf,d⟩
theorem Inv.un {t':Nat} (I:Inv X pins σ H s) (u:Un X.fs [] H H' s.heap h') (hok:HOk X.prog X.w H' h'):Inv X pins σ H' { s with heap:=h',toks:=t' }:=by
 obtain ⟨m,⟨o,es,ep,ho,r⟩,_⟩:=id I.loc;obtain ⟨sl,hL⟩:=u.any ho I.free (by simp);exact I.step (g':=s.gens) (d':=s.drawn) (ch:=[]) (fun _ z=>nomatch z) (fun b o _ hb _ e n=>u.keep b o e n hb (by simp)) (fun b o _ hb _ e n=>u.slot b o e n hb (by simp)) (fun b o _ e n=>u.free b o e n (by simp)) (fun b o _ e=>u.there b o e (by simp)) u.tups u.frzs u.tbls (fun m' hm=>by
  obtain ⟨o',es',ep',ho',r'⟩:=hm;rw [ho] at ho';cases ho';exact ⟨_,es',ep',hL,r'⟩) hok I.bare
theorem Inv.call {g':Array GenState} {t':Nat} {d':Drawn} {ch:List Addr} (I:Inv X pins σ H s) (u:Un (frs X.stack) ch H H' s.heap h') (hok:HOk X.prog X.w H' h') (hg:AllBare g')
  (hch:∀ b ∈ ch,(b ∈ X.ex∨X.s₀.heap.objs.size ≤ b)∧b ≠ X.env.locals∧(∀ x c,X.env.cells.lookup x=some c→c ≠ b)∧∀ p ∈ X.pn ++ pins,p.1 ≠ b) :
  Inv X pins σ H' { s with heap:=h',gens:=g',drawn:=d',toks:=t' }:=by
 obtain ⟨m,⟨o,es,ep,ho,r⟩,_⟩:=id I.loc;obtain ⟨sl,hL⟩:=u.any ho I.free fun z=>(hch _ z).2.1 rfl
 exact I.step (ch:=ch) hch (fun b o hL hb hc e n=>u.keep b o e n (fun z=>(List.mem_cons.mp (I.stkSub b z)).elim hL hb) hc) (fun b o _ _ hc e n=>u.any e n hc) (fun b o hc e n=>u.free b o e n hc) (fun b o hc e=>u.there b o e hc) u.tups u.frzs u.tbls (fun m' hm=>by
  obtain ⟨o',es',ep',ho',r'⟩:=hm;rw [ho] at ho';cases ho';exact ⟨_,es',ep',hL,r'⟩) hok hg
theorem Inv.turned {t':Nat} {it:Addr} (I:Inv X pins σ H s) (k:∀ b o,b ≠ it→s.heap.get? b=some o→h'.get? b=some o) (hn:H it=none) (hL:it ≠ X.env.locals)
  (h1:it ∈ X.ex∨X.s₀.heap.objs.size ≤ it) (h2:∀ x c,X.env.cells.lookup x=some c→c ≠ it) (h3:∀ p ∈ X.pn ++ pins,p.1 ≠ it):Inv X pins σ H { s with heap:=h',toks:=t' }:=by
 have nit:∀ b u,H b=some u→b ≠ it:=fun b u e z=>by rw [z,hn] at e;cases e
 refine I.step (g':=s.gens) (d':=s.drawn) (ch:=[it]) (fun b hb=>?_) (fun b o _ _ hc e _=>k b o (fun z=>hc (by simp [z])) e) (fun b o _ _ hc e _=>⟨o.slots,k b o (fun z=>hc (by simp [z])) e⟩) (fun _ _ _ _ n=>n)
  (fun b o hc e=>⟨o,k b o (fun z=>hc (by simp [z])) e⟩) (fun _ _ e=>e) (fun _ _ _ e=>e) (fun b ps e=>⟨#[],by rw [e];simp⟩) (fun m hm=>?_) (fun b u e=>?_) I.bare
 ·have e:b=it:=by simpa using hb
  subst e;exact ⟨h1,hL,h2,h3⟩
 ·obtain ⟨o,es,ep,ho,r⟩:=hm;exact ⟨o,es,ep,k _ o (Ne.symm hL) ho,r⟩
 ·refine (I.hok b u e).stay (fun c v hc q=>k c v ?_ q) (fun _ q=>q) fun _ _ q=>q
  rcases hc with z | z
  ·rw [z];exact nit b u e
  ·exact nit c _ z
theorem Inv.tok (I:Inv X pins σ H s) (t:Nat):Inv X pins σ H { s with toks:=t }:=I.un (h':=s.heap) (t':=t) Un.refl I.hok
theorem Inv.kept {t':Nat} (I:Inv X pins σ H s) (k:∀ b u,s.heap.get? b=some u→h'.get? b=some u):Inv X pins σ H { s with heap:=h',toks:=t' }:=I.un (Un.kept k) (I.hok.kept k)
theorem Inv.laid {a:Addr} {o:HO} {t':Nat} (I:Inv X pins σ H s) (k:∀ b u,s.heap.get? b=some u→h'.get? b=some u) (hp:s.heap.objs.size ≤ a) (new:Bd X.prog X.w (upd H a o) h' a o) :
  Inv X pins σ (upd H a o) { s with heap:=h',toks:=t' }:=I.un (Un.laid k hp (I.hok.fresh hp)) (I.hok.laid k hp new)
theorem Inv.write {x e:Addr} {o:HO} {t':Nat} (I:Inv X pins σ H s) (mu:Mut (H x)) (he:e=x∨H e=some (.own x)) (k:∀ b u,b ≠ e→s.heap.get? b=some u→h'.get? b=some u) (heo:∃ u,h'.get? e=some u)
  (new:Bd X.prog X.w (upd H x o) h' x o):Inv X pins σ (upd H x o) { s with heap:=h',toks:=t' }:=I.un (Un.write mu he k heo) (I.hok.write mu he k heo new)
theorem Inv.weak {σ':List (Option V)} (I:Inv X pins σ H s) (hl:σ'.length=σ.length) (w:∀ (i:Nat) v,σ'[i]? = some (some v)→σ[i]? = some (some v)):Inv X pins σ' H s:=
 ⟨I.ok,I.os,I.bare,I.base,let ⟨m,hn,hl'⟩:=I.loc;⟨m,hn,fun i x v e1 e2 e3=>hl' i x v e1 (w i v e2) e3⟩,I.cell,I.free,I.freeC,I.pin,I.hok,hl.trans I.len⟩
theorem Inv.pins_of {pins':List (Addr × Obj)} (I:Inv X pins σ H s) (h:∀ p ∈ pins',s.heap.get? p.1=some p.2∧H p.1=none∧p.1 ≠ X.env.locals∧p.1 ∉ X.fs∧∀ v,p.2.data ≠ .cell v):Inv X pins' σ H s:=
 ⟨I.ok,I.os,I.bare,I.base,I.loc,I.cell,I.free,I.freeC,fun p hp=>(List.mem_append.mp hp).elim (fun z=>I.pin p (List.mem_append_left _ z)) (h p),I.hok,I.len⟩
theorem qA {N:List Str} (hN:N.Nodup) {i j:Nat} {x:Str} (a:N[i]? = some x) (b:N[j]? = some x):i=j:=by
 obtain ⟨h1,e1⟩:=List.getElem?_eq_some_iff.mp a;obtain ⟨h2,e2⟩:=List.getElem?_eq_some_iff.mp b;exact (List.getElem_inj hN).mp (e1.trans e2.symm)
theorem Bw {M:Model} {A:Around} {E:Value→Shared→Prop} {i:Nat} {x:Str} {v:V} {u:Value} {Q:Unit→Shared→Prop} (I:Inv X pins σ H s) (hN:X.N.Nodup) (hi:X.N[i]? = some x) (hx:Loc X.env.scope x) (r:yd v u)
  (h:∀ s',Inv X pins (σ.set i (some v)) H s'→(∃ a,Heap.SameBut a s.heap s'.heap∧(a=X.env.locals∨X.env.cells.lookup x=some a))→Q () s') (hf:X.fn x=true∨X.env.scope.names.lookup x=some .local:=by first | exact .inl rfl | exact .inr rfl | assumption):wpAny M A (storeName X.env x u) Q E s:=by
 obtain ⟨m,hn,hl⟩:=id I.loc;have hcls:(X.env.scope.kind == .class || (X.env.scope.kind == .module && X.env.locals != X.env.globals))=false:=by rw [I.ok.kind];rfl
 have hiσ:i < σ.length:=by rw [I.len];exact (List.getElem?_eq_some_iff.mp hi).1
 have cne:=I.cne;have tracked:∀ {a:Addr} {h':Heap},(∃ o,s.heap.get? a=some o∧H a=none)→Heap.SameBut a s.heap h'→HOk X.prog X.w H h':=fun {a h'} ha hs b ob e=>by
  obtain ⟨_,_,hfree⟩:=ha;refine (I.hok b ob e).stay (fun c w' hc q=>(hs.2 c ?_).trans q) (fun _ q=>q) fun _ _ q=>q
  rintro rfl;rcases hc with rfl | hc
  ·rw [hfree] at e;cases e
  ·rw [hfree] at hc;cases hc
 rcases hx with hk | hk
 ·refine wpAny_storeName_local hk hn (fun h' hn' hs=>?_) hcls;obtain ⟨oL,_,_,hoL,_⟩:=id hn;refine h _ ⟨I.ok,I.os,I.bare,⟨fun b o e n hb hx=>?_,fun b o e n hb hx=>?_,I.base.free,fun b o e hx=>?_,I.base.tups,I.base.frzs,I.base.tbls⟩,⟨_,hn',fun j y v' e1 e2 e3=>?_⟩,fun y c e=>?_,I.free,I.freeC,fun p hp=>?_,tracked ⟨oL,hoL,I.free⟩ hs,by simpa using I.len⟩ ⟨_,hs,.inl rfl⟩
  ·exact (hs.2 b (Nat.ne_of_lt (Nat.lt_of_lt_of_le (Heap.lt_size e) I.ok.above))).trans (I.base.keep b o e n hb hx)
  ·obtain ⟨sl,e1⟩:=I.base.slot b o e n hb hx;exact ⟨sl,(hs.2 b (Nat.ne_of_lt (Nat.lt_of_lt_of_le (Heap.lt_size e) I.ok.above))).trans e1⟩
  ·obtain ⟨o',e1⟩:=I.base.there b o e hx;exact ⟨o',(hs.2 b (Nat.ne_of_lt (Nat.lt_of_lt_of_le (Heap.lt_size e) I.ok.above))).trans e1⟩
  ·by_cases hj:j=i
   ·subst hj;rw [hi] at e1;cases e1;rw [List.getElem?_set_self hiσ] at e2;cases e2;exact ⟨u,r,.inl ⟨hk,by simp⟩⟩
   ·rw [List.getElem?_set_ne (Ne.symm hj)] at e2;obtain ⟨u',r',q⟩:=hl j y v' e1 e2 e3;refine ⟨u',r',?_⟩;rcases q with ⟨k,e⟩ | ⟨k,c,e,z⟩
    ·refine .inl ⟨k,?_⟩;have:y ≠ x:=fun e=>hj (qA hN e1 (e ▸ hi))
     simp [this,e]
    ·exact .inr ⟨k,c,e,z.sameBut hs (cne y c e)⟩
  ·obtain ⟨w',z⟩:=I.cell y c e;exact ⟨w',z.sameBut hs (cne y c e)⟩
  ·obtain ⟨e,n,ne,nf,d⟩:=I.pin p hp;exact ⟨(hs.2 p.1 ne).trans e,n,ne,nf,d⟩
 ·have hfn:X.fn x=true:=by
   rcases hf with z | z
   ·exact z
   ·rw [z] at hk;cases hk
  obtain ⟨c,hc⟩:=I.ok.has x (.inl hk);obtain ⟨w',z⟩:=I.cell x c hc;refine wpAny_storeName_cell I.ok.kind hk hc z (fun h' hc' hs=>?_);obtain ⟨oc,hoc,hocd⟩:=id z;refine h { s with heap:=h' } ⟨I.ok,I.os,I.bare,⟨fun b o e n hb hx=>?_,fun b o e n hb hx=>?_,I.base.free,fun b o e hx=>?_,I.base.tups,I.base.frzs,I.base.tbls⟩,⟨m,hn.sameBut hs (Ne.symm (cne x c hc)),fun j y v' e1 e2 e3=>?_⟩,fun y c' e=>?_,I.free,I.freeC,fun p hp=>?_,tracked ⟨oc,hoc,I.freeC x c hc⟩ hs,by simpa using I.len⟩ ⟨c,hs,.inr hc⟩
  ·exact (hs.2 b (Nat.ne_of_lt (Nat.lt_of_lt_of_le (Heap.lt_size e) (I.ok.cab x c hfn hc)))).trans (I.base.keep b o e n hb hx)
  ·obtain ⟨sl,e1⟩:=I.base.slot b o e n hb hx;exact ⟨sl,(hs.2 b (Nat.ne_of_lt (Nat.lt_of_lt_of_le (Heap.lt_size e) (I.ok.cab x c hfn hc)))).trans e1⟩
  ·obtain ⟨o',e1⟩:=I.base.there b o e hx;exact ⟨o',(hs.2 b (Nat.ne_of_lt (Nat.lt_of_lt_of_le (Heap.lt_size e) (I.ok.cab x c hfn hc)))).trans e1⟩
  ·by_cases hj:j=i
   ·subst hj;rw [hi] at e1;cases e1;rw [List.getElem?_set_self hiσ] at e2;cases e2;exact ⟨u,r,.inr ⟨.inl hk,c,hc,hc'⟩⟩
   ·rw [List.getElem?_set_ne (Ne.symm hj)] at e2;obtain ⟨u',r',q⟩:=hl j y v' e1 e2 e3;refine ⟨u',r',?_⟩;rcases q with q | ⟨k,c',e,z'⟩
    ·exact .inl q
    ·refine .inr ⟨k,c',e,z'.sameBut hs ?_⟩;rintro rfl;exact hj (qA hN e1 (I.ok.inj _ _ _ e hc ▸ hi))
  ·by_cases hcc:c'=c
   ·subst hcc;exact ⟨_,hc'⟩
   ·obtain ⟨w2,z2⟩:=I.cell y c' e;exact ⟨w2,z2.sameBut hs hcc⟩
  ·obtain ⟨e,n,ne,nf,d⟩:=I.pin p hp;refine ⟨(hs.2 p.1 ?_).trans e,n,ne,nf,d⟩;intro q;rw [q,hoc] at e;have q':oc=p.2:=Option.some.inj e;exact d w' (by rw [← q'];exact hocd)
theorem Nn {M:Model} {A:Around} {E:Value→Shared→Prop} {i:Nat} {x:Str} {v:V} {u:Value} {Q:Unit→Shared→Prop} (I:Inv X pins σ H s) (hN:X.N.Nodup) (hi:X.N[i]? = some x) (hx:Loc X.env.scope x) (r:yd v u)
  (h:∀ s',Inv X pins (σ.set i (some v)) H s'→Q () s') (hf:X.fn x=true∨X.env.scope.names.lookup x=some .local:=by first | exact .inl rfl | exact .inr rfl | assumption):wpAny M A (storeName X.env x u) Q E s:=
 Bw I hN hi hx r (fun s' I' _=>h s' I') hf
theorem Inv.call' {s':Shared} {ch:List Addr} (I:Inv X pins σ H s) (ho:s'.os=s.os) (u:Un (frs X.stack) ch H H' s.heap s'.heap) (hok:HOk X.prog X.w H' s'.heap) (hg:AllBare s'.gens)
  (hch:∀ b ∈ ch,(b ∈ X.ex∨X.s₀.heap.objs.size ≤ b)∧b ≠ X.env.locals∧(∀ x c,X.env.cells.lookup x=some c→c ≠ b)∧∀ p ∈ X.pn ++ pins,p.1 ≠ b):Inv X pins σ H' s':=by
 obtain ⟨h',g',d',t',o'⟩:=s';have e:o'=s.os:=ho;subst e;exact I.call (g':=g') (t':=t') (d':=d') u hok hg hch
end
noncomputable abbrev XK:=Value→Option Addr→Hp→Prop
noncomputable abbrev St:=List (Option V)
noncomputable abbrev VK:=V→Hp→Prop
noncomputable abbrev TE:=St→Hp→VK→Prop
noncomputable abbrev TT:=St→Hp→(Bool→Hp→Prop)→Prop
noncomputable abbrev TA:=St→Hp→(List V→Hp→Prop)→Prop
structure Sj where
 nx:St→Hp→Prop
 rt:VK
 bk:St→Hp→Prop:=fun _ _=>False
 ct:St→Hp→Prop:=fun _ _=>False
noncomputable abbrev TS:=Sj→St→Hp→Prop
noncomputable def EP (X:Cx) (pins:List (Addr × Obj)) (σ:St) (Q:VK) (u:Value) (s':Shared):Prop:=∃ v H',Inv X pins σ H' s'∧yd v u∧Q v H'
noncomputable def TP (X:Cx) (pins:List (Addr × Obj)) (σ:St) (Q:Bool→Hp→Prop) (b:Bool) (s':Shared):Prop:=∃ H',Inv X pins σ H' s'∧Q b H'
noncomputable def AP (X:Cx) (pins:List (Addr × Obj)) (σ:St) (Q:List V→Hp→Prop) (us:List Value) (s':Shared):Prop:=∃ vs H',Inv X pins σ H' s'∧zd vs us∧Q vs H'
noncomputable def SP (X:Cx) (pins:List (Addr × Obj)) (D:Sj) (f:Flow) (s':Shared):Prop:=
 match f with
 | .next=>∃ σ' H',Inv X pins σ' H' s'∧D.nx σ' H'
 | .brk=>∃ σ' H',Inv X pins σ' H' s'∧D.bk σ' H'
 | .cont=>∃ σ' H',Inv X pins σ' H' s'∧D.ct σ' H'
 | .ret u=>∃ v σ' H',Inv X pins σ' H' s'∧yd v u∧D.rt v H'
noncomputable def PE (X:Cx) (e:Expr) (t:TE):Prop:=
 ∀ (pins:List (Addr × Obj)) (s:Shared) (σ:St) (H:Hp) (Q:VK),Inv X pins σ H s→t σ H Q→wpAny (model X.prog X.w) X.A (eval e X.env) (EP X pins σ Q) X.xe s
noncomputable def PT (X:Cx) (e:Expr) (t:TT):Prop:=
 ∀ (pins:List (Addr × Obj)) (s:Shared) (σ:St) (H:Hp) (Q:Bool→Hp→Prop),Inv X pins σ H s→t σ H Q→wpAny (model X.prog X.w) X.A (isTrue e X.env (eval e X.env)) (TP X pins σ Q) X.xe s
noncomputable def PW (X:Cx) (e:Expr) (t:TT):Prop:=
 ∀ (whole:Sem Value) (pins:List (Addr × Obj)) (s:Shared) (σ:St) (H:Hp) (Q:Bool→Hp→Prop),Inv X pins σ H s→t σ H Q→wpAny (model X.prog X.w) X.A (isTrue e X.env whole) (TP X pins σ Q) X.xe s
theorem PW.pt {X:Cx} {e:Expr} {t:TT} (h:PW X e t):PT X e t:=h _
noncomputable def PA (X:Cx) (es:List Expr) (t:TA):Prop:=
 ∀ (pos:Pos) (pins:List (Addr × Obj)) (s:Shared) (σ:St) (H:Hp) (Q:List V→Hp→Prop),Inv X pins σ H s→t σ H Q→wpAny (model X.prog X.w) X.A (spliced (backTo pos (starEach es X.env))) (AP X pins σ Q) X.xe s
noncomputable def PS (X:Cx) (st:Stmt) (t:TS):Prop:=
 ∀ (pins:List (Addr × Obj)) (s:Shared) (σ:St) (H:Hp) (D:Sj),Inv X pins σ H s→t D σ H→wpAny (model X.prog X.w) X.A (exec st X.env) (SP X pins D) X.xe s
noncomputable def PSs (X:Cx) (st:List Stmt) (t:TS):Prop:=
 ∀ (pins:List (Addr × Obj)) (s:Shared) (σ:St) (H:Hp) (D:Sj),Inv X pins σ H s→t D σ H→wpAny (model X.prog X.w) X.A (execs st X.env) (SP X pins D) X.xe s
theorem thn {α:Type} {t:Sem α} {Q Q':α→Shared→Prop} {M:Model} {A:Around} {E:Value→Shared→Prop} {s:Shared} (h:wpAny M A t Q E s) (hQ:∀ a s,Q a s→Q' a s):wpAny M A t Q' E s:=wpAny_mono h hQ fun _ _ x=>x
end L2
namespace L2
open PySem PySem.Spec PyProof.Rows
section
variable {X:Cx}
noncomputable def iJ (H:Hp) (Q:VK):Option (Option V)→Prop
 | some (some v)=>Q v H
 | _=>False
theorem ww (H:Hp) (Q:VK) (v:V):iJ H Q (some (some v))=Q v H:=rfl
theorem iJ.out {H:Hp} {Q:VK}:∀ {o:Option (Option V)},iJ H Q o→∃ v,o=some (some v)∧Q v H
 | some (some v),h=>⟨v,rfl,h⟩
 | some none,h=>h.elim
 | none,h=>h.elim
theorem SL (H:Hp) (Q:VK) (o:Option (Option V)):iJ H Q o = ∃ v,o=some (some v)∧Q v H:=propext ⟨iJ.out,fun ⟨_,e,h⟩=>e ▸ h⟩
noncomputable def ik (x:V) (k:Int→Prop):Prop:=match x with
 | .int i=>k i
 | _=>False
theorem Vz (i:Int) (k:Int→Prop):ik (.int i) k=k i:=rfl
theorem ik.out {x:V} {k:Int→Prop} (h:ik x k):∃ i,x=.int i∧k i:=by
 cases x with
 | int i=>exact ⟨i,rfl,h⟩
 | _=>exact h.elim
theorem YL (x:V) (k:Int→Prop):ik x k = ∃ i,x=.int i∧k i:=propext ⟨ik.out,fun ⟨_,e,h⟩=>e ▸ h⟩
noncomputable def BlQ (x:V) (k:Bool→Prop):Prop:=match x with
 | .bl i=>k i
 | _=>False
theorem WJ (i:Bool) (k:Bool→Prop):BlQ (.bl i) k=k i:=rfl
theorem BlQ.out {x:V} {k:Bool→Prop} (h:BlQ x k):∃ i,x=.bl i∧k i:=by
 cases x with
 | bl i=>exact ⟨i,rfl,h⟩
 | _=>exact h.elim
theorem oN (x:V) (k:Bool→Prop):BlQ x k = ∃ i,x=.bl i∧k i:=propext ⟨BlQ.out,fun ⟨_,e,h⟩=>e ▸ h⟩
noncomputable def Jh (x:V) (k:Addr→Prop):Prop:=match x with
 | .ref i=>k i
 | _=>False
theorem LA (i:Addr) (k:Addr→Prop):Jh (.ref i) k=k i:=rfl
theorem Jh.out {x:V} {k:Addr→Prop} (h:Jh x k):∃ i,x=.ref i∧k i:=by
 cases x with
 | ref i=>exact ⟨i,rfl,h⟩
 | _=>exact h.elim
theorem wK (x:V) (k:Addr→Prop):Jh x k = ∃ i,x=.ref i∧k i:=propext ⟨Jh.out,fun ⟨_,e,h⟩=>e ▸ h⟩
noncomputable def yC (xs:List V) (k:V→Prop):Prop:=match xs with
 | [y]=>k y
 | _=>False
theorem lB (y:V) (k:V→Prop):yC [y] k=k y:=rfl
theorem yC.out:∀ {xs:List V} {k:V→Prop},yC xs k→∃ y,xs=[y]∧k y
 | [y],_,h=>⟨y,rfl,h⟩
 | [],_,h=>h.elim
 | _ :: _ :: _,_,h=>h.elim
theorem IK (xs:List V) (k:V→Prop):yC xs k = ∃ y,xs=[y]∧k y:=propext ⟨yC.out,fun ⟨_,e,h⟩=>e ▸ h⟩
noncomputable def XO (i:Nat):TE:=fun σ H Q=>iJ H Q σ[i]?
noncomputable def tC (v:V):TE:=fun _ H Q=>Q v H
theorem BM {i:Nat} {x:Str} {pos:Pos} (hN:X.N[i]? = some x) (hv:Vis X.env.scope x) (hd:(x == ("__debug__" : Str))=false:=by decide) (hcd:(x == ("__classdict__" : Str))=false:=by decide):PE X (.Name x pos) (XO i):=by
 intro pins s σ H Q I h;obtain ⟨v,e,h⟩:=iJ.out h;obtain ⟨m,hn,hl⟩:=I.loc;obtain ⟨u,r,l⟩:=hl i x v hN e hv;have fin:EP X pins σ Q u s:=⟨v,H,I,r,h⟩;rcases l with ⟨hk,hm⟩ | ⟨hk,c,hc,hcell⟩
 ·exact wpAny_Name (wpAny_loadName_local I.ok.kind hk hn hm fin) hd
 ·rcases hk with hk | hk
  ·exact wpAny_Name (wpAny_loadName_cell I.ok.kind hk hc hcell fin) hd
  ·exact wpAny_Name (wpAny_loadName_free I.ok.kind hk hc hcell fin hcd) hd
theorem gb {i j pos}:PE X (.Constant (.int i) j pos) (tC (.int i)):=fun _ _ _ H _ I h=>wpAny_Constant_int ⟨.int i,H,I.tok _,⟨_,rfl⟩,h⟩
theorem Tl {b j pos}:PE X (.Constant (.bool b) j pos) (tC (.bl b)):=fun _ _ _ H _ I h=>Constant_bool ⟨.bl b,H,I,rfl,h⟩
theorem Jg {j pos}:PE X (.Constant .none j pos) (tC .non):=fun _ _ _ H _ I h=>Constant_none ⟨.non,H,I,rfl,h⟩
theorem xc {x j pos}:PE X (.Constant (.str x) j pos) (tC (.str x)):=fun _ _ _ H _ I h=>Calls.Constant_str ⟨.str x,H,I.tok _,⟨_,rfl⟩,h⟩
noncomputable def Gl (X:Cx) (x:Str):Prop:=X.env.kindOf x=some .globalImplicit
theorem Su {E:Value→Shared→Prop} {pins:List (Addr × Obj)} {s:Shared} {σ:St} {H:Hp} {x:Str} {u:Value} {pos:Pos} {Q:Value→Shared→Prop} (I:Inv X pins σ H s) (hg:Gl X x) (hm:X.mg x=some u) (h:Q u s)
  (hd:(x == ("__debug__" : Str))=false:=by decide):wpAny (model X.prog X.w) X.A (eval (.Name x pos) X.env) Q E s:=
 Calls.Name_function_global I.ok.kind hg (Calls.loadGlobal_global (by rw [I.ok.glob];exact I.mod.glob.keeps I.bk) hm h) hd
theorem cn {E:Value→Shared→Prop} {pins:List (Addr × Obj)} {s:Shared} {σ:St} {H:Hp} {x:Str} {u:Value} {pos:Pos} {Q:Value→Shared→Prop} (I:Inv X pins σ H s) (hg:Gl X x) (hm:X.mg x=none) (hv:bootBuiltins x=some u) (h:Q u s)
  (hn:x ≠ "__name__" := by decide) (hd:(x == ("__debug__" : Str))=false:=by decide):wpAny (model X.prog X.w) X.A (eval (.Name x pos) X.env) Q E s:=by
 obtain ⟨mb,h1,h2⟩:=I.mod.blt;exact Calls.Name_function_global I.ok.kind hg (Calls.loadGlobal_builtin (by rw [I.ok.glob];exact I.mod.glob.keeps I.bk) hm (by rw [I.ok.blt];exact h1.keeps I.bk) ((h2 x hn).trans hv) h) hd
theorem Di {x:Str} {v:V} {u:Value} {pos:Pos} (hg:Gl X x) (hm:X.mg x=some u) (r:yd v u) (hd:(x == ("__debug__" : Str))=false:=by decide):PE X (.Name x pos) (tC v):=
 fun _ _ _ H _ I h=>Su I hg hm ⟨v,H,I,r,h⟩ hd
theorem gL {x:Str} {v:V} {u:Value} {pos:Pos} (hg:Gl X x) (hm:X.mg x=none) (hv:bootBuiltins x=some u) (r:yd v u) (hn:x ≠ "__name__" := by decide) (hd:(x == ("__debug__" : Str))=false:=by decide):PE X (.Name x pos) (tC v):=
 fun _ _ _ H _ I h=>cn I hg hm hv ⟨v,H,I,r,h⟩ hn hd
variable {a b:Expr} {ta tb:TE} {pos:Pos}
noncomputable def PC (X:Cx) (op:CmpOp) (a b:Expr) (t:TE):Prop:=
 ∀ (pins:List (Addr × Obj)) (s:Shared) (σ:St) (H:Hp) (Q:VK),Inv X pins σ H s→t σ H Q →
  wpAny (model X.prog X.w) X.A (eval a X.env) (fun v s₁=>wpAny (model X.prog X.w) X.A (eval b X.env) (fun u s₂=>wpAny (model X.prog X.w) X.A (compareOp op v u) (EP X pins σ Q) X.xe s₂) X.xe s₁) X.xe s
theorem vz (b:Expr) {op:CmpOp} (h:op ≠ .In) (h2:op ≠ .NotIn):behindInMarks op b=false:=by
 have e1:(op == CmpOp.In)=false:=by cases op <;> first | rfl | exact absurd rfl h
 have e2:(op == CmpOp.NotIn)=false:=by cases op <;> first | rfl | exact absurd rfl h2
 cases b <;> simp [behindInMarks,e1,e2]
noncomputable def tB (t:TE):TT:=fun σ H Q=>t σ H fun x H1=>BlQ x fun c=>Q c H1
theorem hJ {op:CmpOp} {t:TE} (h:PC X op a b t) (h1:behindInMarks op b=false:=by first | exact vz _ (by decide) (by decide) | rfl):PE X (.Compare a [op] [b] pos) t:=fun pins s σ H Q I hw=>wpAny_Compare1 (h pins s σ H Q I hw) h1
theorem gu {op:CmpOp} {t:TE} (h:PC X op a b t) (h1:behindInMarks op b=false:=by first | exact vz _ (by decide) (by decide) | rfl):PT X (.Compare a [op] [b] pos) (tB t):=by
 intro pins s σ H Q I hw;refine wpAny_isTrue_Compare1 (thn (h pins s σ H _ I hw) fun v s1 h1=>thn h1 fun u s2 h2=>thn h2 fun c s3 hZ1=>?_) h1;obtain ⟨x,H1,I1,r1,q1⟩:=hZ1;obtain ⟨d,rfl,q⟩:=BlQ.out q1;cases r1;exact wpAny_truthy_bool ⟨H1,I1,q⟩
theorem Vh {e:Expr} {t:TE} (h:PE X e t) (he:∀ whole,isTrue e X.env whole=(do let v ← whole;standAt e.pos;holding [v] (truthy v)):=by intro _;rfl):PT X e (tB t):=by
 intro pins s σ H Q I hw;refine isTrue_plain (thn (h pins s σ H _ I hw) fun v s1 hZ1=>?_) (he _);obtain ⟨x,H1,I1,r1,q1⟩:=hZ1;obtain ⟨d,rfl,q⟩:=BlQ.out q1;cases r1;exact wpAny_truthy_bool ⟨H1,I1,q⟩
variable {tA tB':TT} {jy:List Expr}
noncomputable def CP (t u:TT):TT:=fun σ H Q=>t σ H fun c H1=>if c=true then u σ H1 Q else Q false H1
noncomputable def tOr (t u:TT):TT:=fun σ H Q=>t σ H fun c H1=>if c=true then Q true H1 else u σ H1 Q
noncomputable def tQ (t:TT):TT:=fun σ H Q=>t σ H fun c H1=>Q (!c) H1
theorem Yq (ha:PT X a tA):PW X (.BoolOp .And [a] pos) tA:=by
 intro wh pins s σ H Q I h;refine isTrue_and (thn (ha pins s σ H Q I h) fun c s1 e=>?_);cases c with
 | true=>exact isTrue_and_nil e
 | false=>exact e
theorem wn (ha:PT X a tA):PW X (.BoolOp .Or [a] pos) tA:=by
 intro wh pins s σ H Q I h;refine isTrue_or (thn (ha pins s σ H Q I h) fun c s1 e=>?_);cases c with
 | false=>exact isTrue_or_nil e
 | true=>exact e
theorem Et (ha:PT X a tA) (hb:PW X (.BoolOp .And (b :: jy) pos) tB'):PW X (.BoolOp .And (a :: b :: jy) pos) (CP tA tB'):=by
 intro wh pins s σ H Q I h;refine isTrue_and (thn (ha pins s σ H _ I h) fun c s1 hZ1=>?_);obtain ⟨H1,I1,q1⟩:=hZ1;cases c with
 | true=>exact hb wh pins s1 σ H1 Q I1 q1
 | false=>exact ⟨H1,I1,q1⟩
theorem gr (ha:PT X a tA) (hb:PW X (.BoolOp .Or (b :: jy) pos) tB'):PW X (.BoolOp .Or (a :: b :: jy) pos) (tOr tA tB'):=by
 intro wh pins s σ H Q I h;refine isTrue_or (thn (ha pins s σ H _ I h) fun c s1 hZ1=>?_);obtain ⟨H1,I1,q1⟩:=hZ1;cases c with
 | true=>exact ⟨H1,I1,q1⟩
 | false=>exact hb wh pins s1 σ H1 Q I1 q1
theorem Uk (ha:PT X a tA):PT X (.UnaryOp .Not a pos) (tQ tA):=by
 intro pins s σ H Q I h;exact isTrue_not (ha pins s σ H (fun c H1=>Q (!c) H1) I h)
noncomputable def mO (ta tb:TE):TE:=fun σ H Q=>ta σ H fun x H1=>BlQ x fun c=>if c=true then tb σ H1 Q else Q (.bl false) H1
noncomputable def GP (ta tb:TE):TE:=fun σ H Q=>ta σ H fun x H1=>BlQ x fun c=>if c=true then Q (.bl true) H1 else tb σ H1 Q
theorem Mr {op} {t:TE} (h:PE X a t):PE X (.BoolOp op [a] pos) t:=fun pins s σ H Q I hw=>BoolOp_one (h pins s σ H Q I hw)
theorem Sz (ha:PE X a ta) (hb:PE X (.BoolOp .And (b :: jy) pos) tb):PE X (.BoolOp .And (a :: b :: jy) pos) (mO ta tb):=by
 intro pins s σ H Q I h;refine BoolOp_and (thn (ha pins s σ H _ I h) fun v s1 hZ1=>?_);obtain ⟨x,H1,I1,r1,q1⟩:=hZ1;obtain ⟨c,rfl,zq⟩:=BlQ.out q1;cases r1;refine wpAny_truthy_bool ?_;cases c with
 | true=>exact hb pins s1 σ H1 Q I1 zq
 | false=>exact ⟨.bl false,H1,I1,rfl,zq⟩
theorem yL (ha:PE X a ta) (hb:PE X (.BoolOp .Or (b :: jy) pos) tb):PE X (.BoolOp .Or (a :: b :: jy) pos) (GP ta tb):=by
 intro pins s σ H Q I h;refine BoolOp_or (thn (ha pins s σ H _ I h) fun v s1 hZ1=>?_);obtain ⟨x,H1,I1,r1,q1⟩:=hZ1;obtain ⟨c,rfl,zq⟩:=BlQ.out q1;cases r1;refine wpAny_truthy_bool ?_;cases c with
 | false=>exact hb pins s1 σ H1 Q I1 zq
 | true=>exact ⟨.bl true,H1,I1,rfl,zq⟩
noncomputable def tIf (t:TT) (ta tb:TE):TE:=fun σ H Q=>t σ H fun c H1=>if c=true then ta σ H1 Q else tb σ H1 Q
theorem Hv {c:Expr} (hc:PT X c tA) (ha:PE X a ta) (hb:PE X b tb):PE X (.IfExp c a b pos) (tIf tA ta tb):=by
 intro pins s σ H Q I h;refine wpAny_IfExp (thn (hc pins s σ H _ I h) fun d s1 hZ1=>?_);obtain ⟨H1,I1,q1⟩:=hZ1;cases d with
 | true=>exact ha pins s1 σ H1 Q I1 q1
 | false=>exact hb pins s1 σ H1 Q I1 q1
end
end L2
namespace L2
open PySem PySem.Spec PyProof.Rows
noncomputable def SqL (K:PySem.W.Frag) (H:Hp) (a:Addr) (xs:List V):Prop:=
 Rd H a (.lst xs) ∨
  ∃ (o:Obj) (its:Array Value) (n:Nat),K.lookup a=some o∧o.cls=.type "list" ∧ o.dict=none∧o.data=.seq its n∧its.size ≤ sizeLine∧zd xs its.toList
noncomputable def SqT (K:PySem.W.Frag) (H:Hp) (a:Addr) (xs:List V):Prop:=
 Rd H a (.tup xs) ∨
  ∃ (o:Obj) (its:Array Value) (n:Nat),K.lookup a=some o∧o.cls=.type "tuple" ∧ o.data=.seq its n∧its.size ≤ sizeLine∧zd xs its.toList
noncomputable def GQ:Value→Option V
 | .none=>some .non
 | .bool b=>some (.bl b)
 | .int i _=>some (.int i)
 | .str x _=>some (.str x)
 | .bytes b _=>some (.byt b)
 | .float b _=>some (.flt b)
 | .ref a=>some (.ref a)
 | .type n=>some (.ty n)
 | _=>none
theorem yd.abs {x:V} {u:Value} (r:yd x u):GQ u=some x:=by
 cases x with
 | non=>cases r;rfl
 | bl _=>cases r;rfl
 | int _=>obtain ⟨t,rfl⟩:=r;rfl
 | str _=>obtain ⟨t,rfl⟩:=r;rfl
 | byt _=>obtain ⟨t,rfl⟩:=r;rfl
 | flt _=>obtain ⟨t,rfl⟩:=r;rfl
 | ref _=>cases r;rfl
 | ty _=>cases r;rfl
theorem yd.inj {x y:V} {u:Value} (r:yd x u) (q:yd y u):x=y:=Option.some.inj (r.abs.symm.trans q.abs)
theorem zd.inj:∀ {xs ys:List V} {us:List Value},zd xs us→zd ys us→xs=ys
 | _,_,_,.nil,.nil=>rfl
 | _,_,_,.cons r t,.cons r' t'=>by rw [r.inj r',zd.inj t t']
section
variable {X:Cx} {pins:List (Addr × Obj)} {σ:St} {H:Hp} {s:Shared} {a:Addr} {xs ys:List V}
theorem SqL.of {K:PySem.W.Frag} (h:H a=some (.lst xs)):SqL K H a xs:=.inl (.inl h)
theorem SqT.of {K:PySem.W.Frag} (h:H a=some (.tup xs)):SqT K H a xs:=.inl (.inl h)
theorem Inv.list (I:Inv X pins σ H s) (h:SqL X.K H a xs):∃ its:List Value,zd xs its∧PlainL s.heap a its.toArray∧xs.length ≤ sizeLine:=by
 rcases h with h | ⟨o,its,n,hk,hc,hd,hs,hz,r⟩
 ·obtain ⟨z,its,n,r,e⟩:=h.ok I.hok;exact ⟨its,r,⟨_,n,e,rfl,rfl,rfl⟩,z⟩
 ·refine ⟨its.toList,r,⟨o,n,I.kIn a o hk,hc,hd,by simpa using hs⟩,?_⟩;have e:=r.length;simp only [Array.length_toList] at e;omega
theorem Inv.tuple (I:Inv X pins σ H s) (h:SqT X.K H a xs):∃ its:List Value,zd xs its∧IsTup s.heap a its.toArray∧xs.length ≤ sizeLine:=by
 rcases h with h | ⟨o,its,n,hk,hc,hs,hz,r⟩
 ·obtain ⟨z,its,r,p⟩:=h.ok I.hok;exact ⟨its,r,p,z.1⟩
 ·refine ⟨its.toList,r,⟨o,I.kIn a o hk,hc,n,by simpa using hs⟩,?_⟩;have e:=r.length;simp only [Array.length_toList] at e;omega
theorem Inv.list_inj (I:Inv X pins σ H s) (h:SqL X.K H a xs) (h':SqL X.K H a ys):xs=ys:=by
 obtain ⟨its,r,⟨o,n,e,_,_,d⟩,_⟩:=I.list h;obtain ⟨its',r',⟨o',n',e',_,_,d'⟩,_⟩:=I.list h';rw [e] at e';cases e';rw [d] at d';injection d' with d1 _;have:its=its':=by simpa using congrArg Array.toList d1
 subst this;exact r.inj r'
theorem Inv.tuple_inj (I:Inv X pins σ H s) (h:SqT X.K H a xs) (h':SqT X.K H a ys):xs=ys:=by
 obtain ⟨its,r,⟨o,e,_,n,d⟩,_⟩:=I.tuple h;obtain ⟨its',r',⟨o',e',_,n',d'⟩,_⟩:=I.tuple h';rw [e] at e';cases e';rw [d] at d';injection d' with d1 _;have:its=its':=by simpa using congrArg Array.toList d1
 subst this;exact r.inj r'
end
noncomputable abbrev Cx.wish (X:Cx) (E:Value→Shared→Prop):Cx:={ X with xe:=E }
noncomputable abbrev Cx.nox (X:Cx):Cx:=X.wish fun _ _=>False
theorem Cx.Ok.wish {X:Cx} (ok:X.Ok) (E:Value→Shared→Prop):(X.wish E).Ok:=
 ⟨ok.mod,ok.kind,ok.glob,ok.blt,ok.above,ok.inj,ok.has,ok.cab,ok.hd,ok.frames,ok.stk,ok.exf,ok.bs,ok.bsz,ok.noex,ok.exfs,ok.funs,ok.frf⟩
theorem Cx.Ok.unwish {X:Cx} {E:Value→Shared→Prop} (ok:(X.wish E).Ok):X.Ok:=
 ⟨ok.mod,ok.kind,ok.glob,ok.blt,ok.above,ok.inj,ok.has,ok.cab,ok.hd,ok.frames,ok.stk,ok.exf,ok.bs,ok.bsz,ok.noex,ok.exfs,ok.funs,ok.frf⟩
section
variable {X:Cx} {pins:List (Addr × Obj)} {σ:St} {H:Hp} {s:Shared} {E:Value→Shared→Prop}
theorem Inv.wish (I:Inv X pins σ H s) (E:Value→Shared→Prop):Inv (X.wish E) pins σ H s:=⟨I.ok.wish E,I.os,I.bare,I.base,I.loc,I.cell,I.free,I.freeC,I.pin,I.hok,I.len⟩
theorem Inv.unwish (I:Inv (X.wish E) pins σ H s):Inv X pins σ H s:=⟨I.ok.unwish,I.os,I.bare,I.base,I.loc,I.cell,I.free,I.freeC,I.pin,I.hok,I.len⟩
theorem SP.unwish {D:Sj} {f:Flow} {s':Shared} (h:SP (X.wish E) pins D f s'):SP X pins D f s':=by
 cases f with
 | next=>obtain ⟨σ',H',I,q⟩:=h;exact ⟨σ',H',I.unwish,q⟩
 | brk=>obtain ⟨σ',H',I,q⟩:=h;exact ⟨σ',H',I.unwish,q⟩
 | cont=>obtain ⟨σ',H',I,q⟩:=h;exact ⟨σ',H',I.unwish,q⟩
 | ret u=>obtain ⟨v,σ',H',I,r,q⟩:=h;exact ⟨v,σ',H',I.unwish,r,q⟩
theorem PE.nox {e:Expr} {t:TE} (h:PE X.nox e t):PE X e t:=fun pins s σ H Q I hw=>
 wpAny_mono (h pins s σ H Q (I.wish _) hw) (fun _ _ ⟨v,H',I',r,q⟩=>⟨v,H',I'.unwish,r,q⟩) fun _ _ z=>False.elim z
theorem PT.nox {e:Expr} {t:TT} (h:PT X.nox e t):PT X e t:=fun pins s σ H Q I hw=>
 wpAny_mono (h pins s σ H Q (I.wish _) hw) (fun _ _ ⟨H',I',q⟩=>⟨H',I'.unwish,q⟩) fun _ _ z=>False.elim z
theorem PSs.nox {st:List Stmt} {t:TS} (h:PSs X.nox st t):PSs X st t:=fun pins s σ H D I hw=>
 wpAny_mono (h pins s σ H D (I.wish _) hw) (fun _ _ q=>q.unwish) fun _ _ z=>False.elim z
end
section
variable {X:Cx} {st:Stmt} {jy:List Stmt} {t u:TS} {e:Expr} {te:TE} {pos:Pos}
noncomputable def iN:TS:=fun D σ H=>D.nx σ H
noncomputable def hz0:Nat:=0
noncomputable def hz1:Nat:=hz0
noncomputable def hz2:Nat:=hz1
noncomputable def hz3:Nat:=hz2
noncomputable def hz4:Nat:=hz3
noncomputable def hz5:Nat:=hz4
noncomputable def hz6:Nat:=hz5
noncomputable def hz7:Nat:=hz6
noncomputable def hz8:Nat:=hz7
noncomputable def hz9:Nat:=hz8
noncomputable def EQ:Nat:=hz9
noncomputable def IQ:Nat:=EQ
noncomputable def HQ:Nat:=IQ
noncomputable def sQ (t u:TS):TS:=fun D σ H=>(fun _:Nat=>t { D with nx:=u D } σ H) HQ
theorem Rb:PSs X [] iN:=fun _ _ σ H _ I h=>wpAny_execs_nil ⟨σ,H,I,h⟩
theorem fb (h1:PS X st t) (h2:PSs X jy u):PSs X (st :: jy) (sQ t u):=by
 intro pins s σ H D I h;refine wpAny_execs_cons (thn (h1 pins s σ H { D with nx:=u D } I h) fun f s1 q=>?_);cases f with
 | next=>
  obtain ⟨σ',H',I',q⟩:=q;exact h2 pins s1 σ' H' D I' q
 | ret v=>exact q
 | brk=>exact q
 | cont=>exact q
theorem lb (h1:PS X st t):PSs X [st] t:=by
 intro pins s σ H D I h;refine wpAny_execs_cons (thn (h1 pins s σ H D I h) fun f s1 q=>?_);cases f with
 | next=>exact wpAny_execs_nil q
 | ret v=>exact q
 | brk=>exact q
 | cont=>exact q
theorem Inv.quiet {pins:List (Addr × Obj)} {σ:St} {H:Hp} {s:Shared} (I:Inv X pins σ H s):interactive X.env=false:=by simp [interactive,I.ok.kind]
noncomputable def ZN (te:TE):TS:=fun D σ H=>te σ H fun _ H1=>D.nx σ H1
theorem Ge (he:PE X e te) (hs:swapsWith e none pos.line X.env=pure false:=by rfl):PS X (.Expr e pos) (ZN te):=by
 intro pins s σ H D I h;exact wpAny_Expr_any (thn (he pins s σ H _ I h) fun v s1 ⟨x,H1,I1,r1,q1⟩=>⟨σ,H1,I1,q1⟩) I.quiet hs
noncomputable def MO (te:TE):TS:=fun D σ H=>te σ H D.rt
theorem Fb (he:PE X e te):PS X (.Return (some e) pos) (MO te):=by
 intro pins s σ H D I h;exact wpAny_Return_some (thn (he pins s σ H _ I h) fun v s1 ⟨x,H1,I1,r1,q1⟩=>⟨x,σ,H1,I1,r1,q1⟩)
noncomputable def VO (c:TT) (t u:TS):TS:=fun D σ H=>c σ H fun b H1=>if b=true then t D σ H1 else u D σ H1
theorem Pc {c:Expr} {a b:List Stmt} {tc:TT} (hc:PT X c tc) (ha:PSs X a t) (hb:PSs X b u):PS X (.If c a b pos) (VO tc t u):=by
 intro pins s σ H D I h;refine wpAny_If (thn (hc pins s σ H _ I h) fun d s1 hZ1=>?_);obtain ⟨H1,I1,q1⟩:=hZ1;cases d with
 | true=>exact ha pins s1 σ H1 D I1 q1
 | false=>exact hb pins s1 σ H1 D I1 q1
noncomputable def aJ:TS:=fun _ _ _=>False
theorem Ml:PS X st aJ:=fun _ _ _ _ _ _ h=>h.elim
end
noncomputable abbrev TG:=V→St→Hp→(St→Hp→Prop)→Prop
noncomputable abbrev TGs:=List V→St→Hp→(St→Hp→Prop)→Prop
noncomputable def PG (X:Cx) (target:Expr) (t:TG):Prop:=
 ∀ (pins:List (Addr × Obj)) (s:Shared) (σ:St) (H:Hp) (v:V) (u:Value) (Q:St→Hp→Prop),Inv X pins σ H s→yd v u→t v σ H Q →
  wpAny (model X.prog X.w) X.A (assign target X.env u) (fun _ s'=>∃ σ' H',Inv X pins σ' H' s'∧Q σ' H') X.xe s
noncomputable def PGs (X:Cx) (ts:List Expr) (t:TGs):Prop:=
 ∀ (pins:List (Addr × Obj)) (s:Shared) (σ:St) (H:Hp) (vs:List V) (us:List Value) (Q:St→Hp→Prop),Inv X pins σ H s→zd vs us→t vs σ H Q →
  wpAny (model X.prog X.w) X.A (assignInOrder ((assignEach ts X.env).map (·.2)) us) (fun _ s'=>∃ σ' H',Inv X pins σ' H' s'∧Q σ' H') X.xe s
noncomputable abbrev DO:=V→V→V→Hp→(Hp→Prop)→Prop
noncomputable def UP (X:Cx) (t:DO):Prop:=
 ∀ (pins:List (Addr × Obj)) (s:Shared) (σ:St) (H:Hp) (o i v:V) (ov iv u:Value) (Q:Hp→Prop),Inv X pins σ H s→yd o ov→yd i iv→yd v u→t o i v H Q →
  wpAny (model X.prog X.w) X.A (setItem ov iv u) (fun _ s'=>∃ H',Inv X pins σ H' s'∧Q H') X.xe s
noncomputable abbrev TIp:=V→V→Hp→VK→Prop
noncomputable def PIp (X:Cx) (op:Operator) (t:TIp):Prop:=
 ∀ (pins:List (Addr × Obj)) (s:Shared) (σ:St) (H:Hp) (x y:V) (v u:Value) (Q:VK),Inv X pins σ H s→yd x v→yd y u→t x y H Q →
  wpAny (model X.prog X.w) X.A (inplaceOp op v u) (EP X pins σ Q) X.xe s
section
variable {X:Cx} {pos:Pos}
noncomputable def ms (i:Nat):TG:=fun v σ H Q=>Q (σ.set i (some v)) H
theorem bz {i:Nat} {x:Str} (hN:X.N.Nodup) (hi:X.N[i]? = some x) (hx:Loc X.env.scope x) (hf:X.fn x=true∨X.env.scope.names.lookup x=some .local:=by first | exact .inl rfl | exact .inr rfl | assumption):PG X (.Name x pos) (ms i):=by
 intro pins s σ H v u Q I r h;exact wpAny_assign_Name (Nn I hN hi hx r (fun s' I'=>⟨_,H,I',h⟩) hf)
noncomputable def CO:TGs:=fun vs σ H Q=>vs=[]∧Q σ H
noncomputable def jC (t:TG) (u:TGs):TGs:=fun vs σ H Q=>∃ v r,vs=v :: r∧t v σ H fun σ' H'=>u r σ' H' Q
theorem Yf:PGs X [] CO:=by
 intro pins s σ H vs us Q I r h;obtain ⟨e,h⟩:=h;subst e;cases r;exact assignInOrder_nil ⟨σ,H,I,h⟩
theorem vc {e:Expr} {es:List Expr} {t:TG} {u:TGs} (h1:PG X e t) (h2:PGs X es u)
  (hs:(assignEach (e :: es) X.env).map (·.2)=assign e X.env :: (assignEach es X.env).map (·.2):=by rfl):PGs X (e :: es) (jC t u):=by
 intro pins s σ H vs us Q I r h;obtain ⟨v,vr,e1,h⟩:=h;subst e1;cases r with
 | cons r rr=>
  rw [hs];refine assignInOrder_cons (thn (h1 pins s σ H _ _ _ I r h) fun _ s1 hZ1=>?_);obtain ⟨σ1,H1,I1,q1⟩:=hZ1;exact h2 pins s1 σ1 H1 _ _ Q I1 rr q1
noncomputable def qM (K:PySem.W.Frag) (n:Nat) (t:TGs):TG:=fun v σ H Q=>∃ a xs,v=.ref a∧SqT K H a xs∧xs.length=n∧t xs σ H Q
theorem lN {es:List Expr} {k:Nat} {t:TGs} {n:Nat} (hc:X.calm=true) (h:PGs X es t)
  (hn:(assignEach es X.env).length=n:=by rfl) (hst:(assignEach es X.env).findIdx? (·.1)=none:=by rfl):PG X (.Tuple es k pos) (qM X.K n t):=by
 intro pins s σ H v u Q I r hw;obtain ⟨a,xs,e1,hq,hl,hw⟩:=hw;subst e1;cases r;obtain ⟨its,rv,ht,hz⟩:=I.tuple hq;refine assign_Tuple_tuple (I.ok.hd hc) ht (by simp [hn,← hl,rv.length]) hst fun h' hx=>?_
 have I1:Inv X pins σ H { s with heap:=h' }:=I.kept (t':=s.toks) fun b o e=>hx b o (Nat.ne_of_lt (Heap.lt_size e)) e
 exact h pins _ σ H xs _ Q I1 (by simpa using rv) hw
noncomputable def DP (to ti:TE) (t:DO):TG:=fun v σ H Q=>to σ H fun o H1=>ti σ H1 fun i H2=>t o i v H2 fun H3=>Q σ H3
theorem TN {o i:Expr} {to ti:TE} {t:DO} (ho:PE X o to) (hi:PE X i ti) (hs:UP X t)
  (ha:∀ v,assign (.Subscript o i pos) X.env v=(do
   let ov ← holding [v] (eval o X.env)
   let iv ← holding [v,ov] (eval i X.env)
   standAt pos
   holding [v,ov,iv] (setItem ov iv v)
   release [v,ov,iv] []):=by intro _;rfl):PG X (.Subscript o i pos) (DP to ti t):=by
 intro pins s σ H v u Q I r h;rw [ha];refine wpAny_bind (wpAny_holding (thn (ho pins s σ H _ I h) fun ov s1 hZ1=>?_));obtain ⟨x,H1,I1,r1,q1⟩:=hZ1;refine wpAny_bind (wpAny_holding (thn (hi pins s1 σ H1 _ I1 q1) fun iv s2 hZ1=>?_));obtain ⟨y,H2,I2,r2,q2⟩:=hZ1;refine wpAny_bind (wpAny_standAt (wpAny_bind (wpAny_holding (thn (hs pins s2 σ H2 x y v ov iv u _ I2 r1 r2 r q2) fun _ s3 hZ1=>?_))));obtain ⟨H3,I3,q3⟩:=hZ1;exact wpAny_release ⟨σ,H3,I3,q3⟩
noncomputable def mM (te:TE) (g:TG):TS:=fun D σ H=>te σ H fun x H1=>g x σ H1 D.nx
theorem Vv {tg e:Expr} {te:TE} {g:TG} (he:PE X e te) (hg:PG X tg g) (hs:swapsWithSole [tg] e pos.line X.env=pure false:=by rfl) (hw:swappedStores [tg] e X.env=pure none:=by rfl)
  (h1:(assignEach [tg] X.env).map (·.2)=[assign tg X.env]:=by rfl):PS X (.Assign [tg] e pos) (mM te g):=by
 intro pins s σ H D I h;refine wpAny_Assign_stores (thn (he pins s σ H _ I h) fun v s1 hZ1=>?_) hs hw;obtain ⟨x,H1,I1,r1,q1⟩:=hZ1;rw [h1];exact thn (hg pins s1 σ H1 x v _ I1 r1 q1) fun _ s2 q=>q
theorem nG {i:Nat} {x:Str} {e:Expr} {te:TE} {pos':Pos} (hN:X.N.Nodup) (hi:X.N[i]? = some x) (hx:Loc X.env.scope x) (he:PE X e te) (hs:swapsWith e (some (.Name x pos')) pos.line X.env=pure false:=by rfl) (hf:X.fn x=true∨X.env.scope.names.lookup x=some .local:=by first | exact .inl rfl | exact .inr rfl | assumption) :
  PS X (.Assign [.Name x pos'] e pos) (mM te (ms i)):=by
 intro pins s σ H D I h;refine wpAny_Assign_Name (thn (he pins s σ H _ I h) fun v s1 hZ1=>?_) hs;obtain ⟨y,H1,I1,r1,q1⟩:=hZ1;exact Nn I1 hN hi hx r1 (fun s2 I2=>⟨_,H1,I2,q1⟩) hf
noncomputable def iQ (i j:Nat) (ta:TA):TS:=fun D σ H=>ta σ H fun vs H1=>∃ v w,vs=[v,w]∧D.nx ((σ.set i (some v)).set j (some w)) H1
theorem OM {i j:Nat} {x y:Str} {a b:Expr} {ta:TA} {px py pt:Pos} {kt k2 pt2} (hc:X.calm=true) (hN:X.N.Nodup) (hi:X.N[i]? = some x) (hj:X.N[j]? = some y) (hij:i ≠ j)
  (hx:X.env.scope.names.lookup x=some .local) (hy:X.env.scope.names.lookup y=some .local) (ha:PA X [a,b] ta)
  (hw:swappedStores [.Tuple [.Name x px,.Name y py] kt pt] (.Tuple [a,b] k2 pt2) X.env=pure (some [x,y]))
  (hs:swapsWithSole [.Tuple [.Name x px,.Name y py] kt pt] (.Tuple [a,b] k2 pt2) pos.line X.env=pure false:=by rfl) :
  PS X (.Assign [.Tuple [.Name x px,.Name y py] kt pt] (.Tuple [a,b] k2 pt2) pos) (iQ i j ta):=by
 intro pins s σ H D I h;rw [exec_Assign_arm];refine wpAny_bind (wpAny_standAt ?_);rw [hs];refine wpAny_bind (wpAny_pure ?_);rw [if_neg (by decide)];refine wpAny_bind (Tuple_ (thn (ha _ pins s σ H _ I h) fun us s1 hZ1=>?_));obtain ⟨vs,H1,I1,r1,q1⟩:=hZ1;obtain ⟨v,w,e1,q1⟩:=q1;subst e1;obtain ⟨u1,u2,rfl,rv,rw'⟩:∃ u1 u2,us=[u1,u2]∧yd v u1∧yd w u2:=by
  cases r1 with
  | cons p q=>
   cases q with
   | cons p' q'=>
    cases q';exact ⟨_,_,rfl,p,p'⟩
 refine wpAny_newObj_type ?_ (by show 2 ≤ sizeLine;decide);have I2:Inv X pins σ H1 { s1 with heap:=s1.heap.push { cls:=.type "tuple",data:=.seq [u1,u2].toArray } }:=I1.kept (t':=s1.toks) fun b o e=>Heap.get?_push_of_some _ e
 rw [hw];refine wpAny_bind (wpAny_pure ?_);show wpAny (model X.prog X.w) X.A (do rule "assign.swapped-stores"; let items ← unpackItems (.ref s1.heap.objs.size) 2 none;assignInOrder [fun v=>bindName X.env y v,fun v=>bindName X.env x v] items.reverse;pure Flow.next) _ _ _;refine wpAny_bind (wpAny_rule (wpAny_bind (unpackItems_tuple (items:=#[u1,u2]) (I.ok.hd hc) (IsTup.new s1.heap _) fun h' hx'=>?_)));have I3:=I2.kept (h':=h') (t':=s1.toks) fun b o e=>hx' b o (Nat.ne_of_lt (Heap.lt_size e)) e
 show wpAny _ _ (assignInOrder [fun v=>bindName X.env y v,fun v=>bindName X.env x v] [u2,u1] >>= fun _=>pure Flow.next) _ _ _;refine wpAny_bind (assignInOrder_cons (wpAny_bindName (Nn I3 hN hj (.inl hy) rw' (fun s2 I4=>?_) (.inr hy))));refine assignInOrder_cons (wpAny_bindName (Nn I4 hN hi (.inl hx) rv (fun s3 I5=>assignInOrder_nil (wpAny_pure ?_)) (.inr hx)));rw [List.set_comm _ _ (Ne.symm hij)] at I5;exact ⟨_,H1,I5,q1⟩
noncomputable def gQ (i:Nat) (te:TE) (ti:TIp):TS:=fun D σ H=>∃ x,σ[i]? = some (some x)∧te σ H fun y H1=>ti x y H1 fun z H2=>D.nx (σ.set i (some z)) H2
theorem rJ {i:Nat} {x:Str} {e:Expr} {te:TE} {op:Operator} {ti:TIp} {pos':Pos} (hN:X.N.Nodup) (hi:X.N[i]? = some x) (hx:Loc X.env.scope x) (he:PE X e te) (ho:PIp X op ti) (hf:X.fn x=true∨X.env.scope.names.lookup x=some .local:=by first | exact .inl rfl | exact .inr rfl | assumption) :
  PS X (.AugAssign (.Name x pos') op e pos) (gQ i te ti):=by
 intro pins s σ H D I h;obtain ⟨v,e1,h⟩:=h;obtain ⟨m,hn,hl⟩:=I.loc;have vis:Vis X.env.scope x:=by rcases hx with k | k;exact .inl k;exact .inr (.inl k)
 obtain ⟨u,r,l⟩:=hl i x v hi e1 vis;refine wpAny_AugAssign_Name ?_;have go:wpAny (model X.prog X.w) X.A (eval e X.env) (fun w s₂=>wpAny (model X.prog X.w) X.A (inplaceOp op u w) (fun r s₃=>wpAny (model X.prog X.w) X.A (storeName X.env x r) (fun _=>SP X pins D .next) X.xe s₃) X.xe s₂) X.xe s:=by
  refine thn (he pins s σ H _ I h) fun w s1 hZ1=>?_
  obtain ⟨y,H1,I1,r1,q1⟩:=hZ1;refine thn (ho pins s1 σ H1 v y u w _ I1 r r1 q1) fun z s2 hZ1=>?_
  obtain ⟨zv,H2,I2,r2,q2⟩:=hZ1;exact Nn I2 hN hi hx r2 (fun s3 I3=>⟨_,H2,I3,q2⟩) hf
 rcases l with ⟨hk,hm⟩ | ⟨hk,c,hc,hcell⟩
 ·exact wpAny_loadName_local I.ok.kind hk hn hm go
 ·rcases hk with hk | hk
  ·exact wpAny_loadName_cell I.ok.kind hk hc hcell go
  ·rcases hx with k | k
   ·have:X.env.scope.names.lookup x=some .free:=hk;rw [k] at this;cases this
   ·have:X.env.scope.names.lookup x=some .free:=hk;rw [k] at this;cases this
noncomputable def ipI (f:Int→Int→Int):TIp:=fun x y H Q=>∃ i j,x=.int i∧y=.int j∧Q (.int (f i j)) H
theorem iK:PIp X .Add (ipI fun i j=>i + j):=by
 intro pins s σ H x y v u Q I r1 r2 h;obtain ⟨i,j,e1,e2,q⟩:=h;subst e1;subst e2;obtain ⟨t,rfl⟩:=r1;obtain ⟨t',rfl⟩:=r2;exact iadd_int ⟨.int _,H,I.tok _,⟨_,rfl⟩,q⟩
end
section
variable {X:Cx} {pos:Pos}
noncomputable def wM (c:TT) (tb:TS):TS:=fun D σ H=>∃ W:Nat→St→Hp→Prop,(∃ m,W m σ H)∧∀ m σ H,W m σ H →
 c σ H fun b H1=>if b=true then ∃ N:St→Hp→Prop,(∀ σ' H',N σ' H'→∃ m',m' < m∧W m' σ' H')∧tb { D with nx:=N,ct:=N,bk:=D.nx } σ H1 else D.nx σ H1
theorem xB {c:Expr} {body:List Stmt} {tc:TT} {tb:TS} (hp:PassesOwn (model X.prog X.w) X.A X.env X.xe) (hc:PT X c tc) (hb:PSs X body tb):PS X (.While c body [] pos) (wM tc tb):=by
 intro pins s σ H D I h;obtain ⟨W,⟨m0,w0⟩,turn⟩:=h;refine wpAny_While (codeAny_whileLoop (fun n s'=>∃ σ' H',Inv X pins σ' H' s'∧W n σ' H') ?_ m0 ⟨σ,H,I,w0⟩);rintro n s1 ⟨σ1,H1,I1,w1⟩;refine wpAny_passesOwn hp (thn (hc pins s1 σ1 H1 _ I1 (turn n σ1 H1 w1)) fun b s2 hZ1=>?_);obtain ⟨H2,I2,q2⟩:=hZ1;cases b with
 | true=>
  obtain ⟨N,hN,q2⟩:=q2;rw [if_pos rfl];refine wpAny_passesOwn hp (thn (hb pins s2 σ1 H2 _ I2 q2) fun f s3 q3=>?_);cases f with
  | next=>
   obtain ⟨σ3,H3,I3,n3⟩:=q3;obtain ⟨m',hm,w3⟩:=hN σ3 H3 n3;exact ⟨m',hm,σ3,H3,I3,w3⟩
  | cont=>
   obtain ⟨σ3,H3,I3,n3⟩:=q3;obtain ⟨m',hm,w3⟩:=hN σ3 H3 n3;exact ⟨m',hm,σ3,H3,I3,w3⟩
  | brk=>exact q3
  | ret v=>exact q3
 | false=>
  rw [if_neg Bool.false_ne_true];exact wpAny_execs_nil ⟨σ1,H2,I2,q2⟩
end
structure It where
 go:Nat→Hp→Prop
 yld:Nat→Hp→V→Hp→Prop
 stop:Nat→Hp→Prop
noncomputable def mv (X:Cx) (pins:List (Addr × Obj)) (H:Hp) (b:Addr):Prop:=
 H b=none∧b ≠ X.env.locals∧b ∉ X.fs∧(b ∈ X.ex∨X.s₀.heap.objs.size ≤ b)∧(∀ x c,X.env.cells.lookup x=some c→c ≠ b)∧∀ p ∈ X.pn ++ pins,p.1 ≠ b
theorem Inv.fpOk {X:Cx} {pins:List (Addr × Obj)} {σ:St} {H H':Hp} {s:Shared} {b:Addr} (I:Inv X pins σ H s) (hb:s.heap.objs.size ≤ b) (hn:H' b=none):mv X pins H' b:=by
 refine ⟨hn,Nat.ne_of_gt (Nat.lt_of_lt_of_le I.lt hb),I.nofs hb,.inr (Nat.le_trans I.sz hb),fun x c e z=>?_,fun p hp z=>?_⟩
 ·obtain ⟨v,q⟩:=I.cell x c e;exact absurd (Nat.lt_of_lt_of_le q.lt (by rw [z];exact hb)) (Nat.lt_irrefl _)
 ·exact absurd (Nat.lt_of_lt_of_le (Heap.lt_size (I.pin p hp).1) (by rw [z];exact hb)) (Nat.lt_irrefl _)
structure YG (P:Program) (w:World) (K:PySem.W.Frag) (tg:Expr) (J:It) (fp:List Addr) (it:Addr) (tn:Nat→Heap→Prop):Prop where
 mem:it ∈ fp
 obj:∀ i h,tn i h→∀ b ∈ fp,∃ o,h.get? b=some o∧∀ v,o.data ≠ .cell v
 keep:∀ i h h',tn i h→(∀ b ∈ fp,∀ o,h.get? b=some o→h'.get? b=some o)→tn i h'
 item:∀ (X:Cx),X.prog=P→X.w=w→X.K=K→X.calm=true→∀ (i:Nat) (pins:List (Addr × Obj)) (s:Shared) (σ:St) (H:Hp) (E:Value→Shared→Prop),Inv X pins σ H s→(∀ b ∈ fp,mv X pins H b)→tn i s.heap→J.go i H →
  wpAny (model P w) X.A (pyNext (.ref it)) (fun r s1=>∃ u,r=some u ∧
   wpAny (model P w) X.A (letOwnedTupleGo tg (.ref it) u) (fun _ s2=>∃ x H',Inv X pins σ H' s2∧yd x u∧J.yld i H x H'∧tn (i + 1) s2.heap∧∀ b ∈ fp,H' b=none) E s1) E s
 done:∀ (X:Cx),X.prog=P→X.w=w→X.K=K→X.calm=true→∀ (i:Nat) (pins:List (Addr × Obj)) (s:Shared) (σ:St) (H:Hp) (E:Value→Shared→Prop),Inv X pins σ H s→(∀ b ∈ fp,mv X pins H b)→tn i s.heap→J.stop i H →
  wpAny (model P w) X.A (pyNext (.ref it)) (fun r s1=>r=none∧Inv X pins σ H s1) E s
 self:∀ (A:Around) (i:Nat) (s:Shared) (Q:Value→Shared→Prop) (E:Value→Shared→Prop),tn i s.heap→Q (.ref it) s→wpAny (model P w) A (pyIter (.ref it)) Q E s
noncomputable abbrev TI:=St→Hp→(It→Hp→Prop)→Prop
noncomputable def PIE (X:Cx) (pins:List (Addr × Obj)) (σ:St) (tg:Expr) (R:It→Hp→Prop) (itv:Value) (s2:Shared):Prop:=
 ∃ (it:Addr) (fp:List Addr) (tn:Nat→Heap→Prop) (J:It) (H':Hp),itv=.ref it∧Inv X pins σ H' s2∧YG X.prog X.w X.K tg J fp it tn∧tn 0 s2.heap∧(∀ b ∈ fp,mv X pins H' b)∧R J H'
noncomputable def PI (X:Cx) (tg iter:Expr) (wi:TI):Prop:=
 ∀ (pins:List (Addr × Obj)) (s:Shared) (σ:St) (H:Hp) (R:It→Hp→Prop),Inv X pins σ H s→wi σ H R →
  wpAny (model X.prog X.w) X.A (eval iter X.env) (fun v s1=>wpAny (model X.prog X.w) X.A (pyIter v) (PIE X pins σ tg R) X.xe s1) X.xe s
theorem BE {M:Model} {A:Around} {E:Value→Shared→Prop} {s:Shared} {tg:Expr} {it:Addr} {u:Value} {o:Obj} {n:String} {vs:Array Value} {Q:Unit→Shared→Prop} (ho:s.heap.get? it=some o) (hc:o.cls=.type n) (hd:o.data=.fields vs)
    (hn:["enumerate","zip","dict_itemiterator","dict_reverseitemiterator","odict_iterator","itertools.zip_longest","itertools.pairwise"].contains n=false) (hQ:Q () s):wpAny M A (letOwnedTupleGo tg (.ref it) u) Q E s:=by
  unfold letOwnedTupleGo;cases tg <;> first
    | exact wpAny_pure hQ
    | (cases u <;> first
        | exact wpAny_pure hQ
        | (refine wpAny_bind (wpAny_load ho ?_)
           rw [hc,hd];show wpAny M A (if (["enumerate","zip","dict_itemiterator","dict_reverseitemiterator","odict_iterator","itertools.zip_longest","itertools.pairwise"].contains n && vs[0]? == some (rawInt _))=true then _ else _) Q E s;rw [if_neg (by intro h;rw [hn,Bool.false_and] at h;cases h)];exact wpAny_pure hQ))
noncomputable def Itl (K:PySem.W.Frag) (a:Addr):It:=
 ⟨fun i H=>∃ xs x,SqL K H a xs∧xs[i]? = some x,fun i H x H'=>H'=H∧∀ xs,SqL K H a xs→xs[i]? = some x,fun i H=>∃ xs,SqL K H a xs∧xs.length ≤ i⟩
noncomputable def Itt (K:PySem.W.Frag) (a:Addr):It:=
 ⟨fun i H=>∃ xs x,SqT K H a xs∧xs[i]? = some x,fun i H x H'=>H'=H∧∀ xs,SqT K H a xs→xs[i]? = some x,fun i H=>∃ xs,SqT K H a xs∧xs.length ≤ i⟩
noncomputable def Itr (lo:Int) (n:Nat):It:=⟨fun i _=>i < n,fun i H x H'=>H'=H∧x=.int (lo + i),fun i _=>n ≤ i⟩
theorem MF {P:Program} {w:World} {K:PySem.W.Frag} {tg:Expr} (a it:Addr):YG P w K tg (Itl K a) [it] it (fun i h=>h.IsListIter it a i) where
 mem:=by simp
 obj:=fun i h st b hb=>by
  have e:b=it:=by simpa using hb
  subst e;obtain ⟨o,e,c,d⟩:=st;exact ⟨o,e,fun v z=>by rw [d] at z;cases z⟩
 keep:=fun i h h' st k=>st.at fun o e=>k it (by simp) o e
 item:=by
  intro X hP hw hK hc i pins s σ H E I hf st hg;subst hP hw hK;obtain ⟨xs,x,hq,hx⟩:=hg;obtain ⟨its,rv,p,hz⟩:=I.list hq;obtain ⟨u,hu,ru⟩:=rv.get hx;obtain ⟨f0,f1,f2,f3,f4,f5⟩:=hf it (by simp);refine wpAny_pyNext_list_item st p.isList (x:=u) (by simpa using hu) fun h' st' sb=>?_
  have I1:Inv X pins σ H { s with heap:=h' }:=I.turned (t':=s.toks) (fun b o hb e=>(sb.2 b hb).trans e) f0 f1 f3 f4 f5;obtain ⟨o,e,c,d⟩:=id st';exact ⟨u,rfl,BE (s:={ s with heap:=h' }) e c d (by decide) ⟨x,H,I1,ru,⟨rfl,fun ys hy=>by rw [I.list_inj hy hq];exact hx⟩,st',fun b hb=>(hf b hb).1⟩⟩
 done:=by
  intro X hP hw hK hc i pins s σ H E I hf st hg;subst hP hw hK;obtain ⟨xs,hq,hx⟩:=hg;obtain ⟨its,rv,p,hz⟩:=I.list hq;obtain ⟨f0,f1,f2,f3,f4,f5⟩:=hf it (by simp);have hl:=rv.length;exact wpAny_pyNext_list_end (I.ok.hd hc) st p.isList (by simp;omega) fun h' eb=>⟨rfl,I.turned (t':=s.toks) (fun b o hb e=>eb b o hb e) f0 f1 f3 f4 f5⟩
 self:=fun _ _ _ _ _ st h=>wpAny_pyIter_listiter st h
theorem zC {P:Program} {w:World} {K:PySem.W.Frag} {tg:Expr} (a it:Addr):YG P w K tg (Itt K a) [it] it (fun i h=>h.IsTupleIter it a i) where
 mem:=by simp
 obj:=fun i h st b hb=>by
  have e:b=it:=by simpa using hb
  subst e;obtain ⟨o,e,c,d⟩:=st;exact ⟨o,e,fun v z=>by rw [d] at z;cases z⟩
 keep:=fun i h h' st k=>st.at fun o e=>k it (by simp) o e
 item:=by
  intro X hP hw hK hc i pins s σ H E I hf st hg;subst hP hw hK;obtain ⟨xs,x,hq,hx⟩:=hg;obtain ⟨its,rv,p,hz⟩:=I.tuple hq;obtain ⟨u,hu,ru⟩:=rv.get hx;obtain ⟨f0,f1,f2,f3,f4,f5⟩:=hf it (by simp);refine wpAny_pyNext_tuple_item st (show s.heap.IsTuple a its.toArray from p) (x:=u) (by simpa using hu) fun h' st' sb=>?_
  have I1:Inv X pins σ H { s with heap:=h' }:=I.turned (t':=s.toks) (fun b o hb e=>(sb.2 b hb).trans e) f0 f1 f3 f4 f5;obtain ⟨o,e,c,d⟩:=id st';exact ⟨u,rfl,BE (s:={ s with heap:=h' }) e c d (by decide) ⟨x,H,I1,ru,⟨rfl,fun ys hy=>by rw [I.tuple_inj hy hq];exact hx⟩,st',fun b hb=>(hf b hb).1⟩⟩
 done:=by
  intro X hP hw hK hc i pins s σ H E I hf st hg;subst hP hw hK;obtain ⟨xs,hq,hx⟩:=hg;obtain ⟨its,rv,p,hz⟩:=I.tuple hq;obtain ⟨f0,f1,f2,f3,f4,f5⟩:=hf it (by simp);have hl:=rv.length;exact wpAny_pyNext_tuple_end (I.ok.hd hc) st (show s.heap.IsTuple a its.toArray from p) (by simp;omega) fun h' eb=>⟨rfl,I.turned (t':=s.toks) (fun b o hb e=>eb b o hb e) f0 f1 f3 f4 f5⟩
 self:=fun _ _ _ _ _ st h=>wpAny_pyIter_tupleiter st h
theorem VB {P:Program} {w:World} {K:PySem.W.Frag} {tg:Expr} (it:Addr) (lo:Int) (n:Nat):YG P w K tg (Itr lo n) [it] it (fun i h=>IsRangeIter h it (lo + (i:Nat) * 1) ((n:Int) - (i:Nat)) 1) where
 mem:=by simp
 obj:=fun i h st b hb=>by
  have e:b=it:=by simpa using hb
  subst e;exact ⟨_,st,fun v z=>by
   have z':Data.fields _=Data.cell v:=z;cases z'⟩
 keep:=fun i h h' st k=>k it (by simp) _ st
 item:=by
  intro X hP hw hK hc i pins s σ H E I hf st hg;subst hP hw hK;obtain ⟨f0,f1,f2,f3,f4,f5⟩:=hf it (by simp);have W:=Walks.range (prog:=X.prog) (w:=X.w) (I.ok.hd hc) it lo 1 n;refine W.item i s _ _ hg st fun v h' tk hv st' kk=>?_
  obtain ⟨t,rfl⟩:=hv;have I1:Inv X pins σ H { s with heap:=h',toks:=tk }:=I.turned (fun b o hb e=>kk b o (by simpa using hb) e) f0 f1 f3 f4 f5;refine ⟨_,rfl,BE (s:={ s with heap:=h',toks:=tk }) (n := "range_iterator") st' rfl rfl (by decide) ⟨.int (lo + i),H,I1,⟨t,?_⟩,⟨rfl,rfl⟩,st',fun b hb=>(hf b hb).1⟩⟩;rw [Int.mul_one]
 done:=by
  intro X hP hw hK hc i pins s σ H E I hf st hg;subst hP hw hK;obtain ⟨f0,f1,f2,f3,f4,f5⟩:=hf it (by simp);exact wpAny_pyNext_range_end (I.ok.hd hc) st (by have:n ≤ i:=hg;omega) fun h' eb=>⟨rfl,I.turned (t':=s.toks) (fun b o hb e=>eb b o hb e) f0 f1 f3 f4 f5⟩
 self:=fun _ _ _ _ _ st h=>wpAny_pyIter_rangeiter st h
end L2
namespace L2
open PySem PySem.Spec PyProof.Rows
section
variable {X:Cx} {tg:Expr}
noncomputable def nN (K:PySem.W.Frag) (tl:TE):TI:=fun σ H R=>tl σ H fun x H1=>Jh x fun a=>(∃ xs,SqL K H1 a xs)∧R (Itl K a) H1
noncomputable def eQ (K:PySem.W.Frag) (tl:TE):TI:=fun σ H R=>tl σ H fun x H1=>Jh x fun a=>(∃ xs,SqT K H1 a xs)∧R (Itt K a) H1
theorem ng {l:Expr} {tl:TE} (hl:PE X l tl):PI X tg l (nN X.K tl):=by
 intro pins s σ H R I h;refine thn (hl pins s σ H _ I h) fun v s1 hZ1=>?_
 obtain ⟨x,H1,I1,r1,q1⟩:=hZ1;obtain ⟨a,e,⟨xs,hq⟩,q⟩:=Jh.out q1;subst e;cases r1;obtain ⟨its,rv,p,hz⟩:=I1.list hq;refine wpAny_pyIter_list p.isList ?_;refine ⟨s1.heap.objs.size,[s1.heap.objs.size],_,_,H1,rfl,I1.kept (t':=s1.toks) fun b o e=>Heap.get?_push_of_some _ e,MF a _,⟨_,Heap.get?_push_size _ rfl,rfl,rfl⟩,fun b hb=>?_,q⟩;have e:b=s1.heap.objs.size:=by simpa using hb
 subst e;exact I1.fpOk (Nat.le_refl _) (I1.hok.fresh (Nat.le_refl _))
theorem gO {l:Expr} {tl:TE} (hl:PE X l tl):PI X tg l (eQ X.K tl):=by
 intro pins s σ H R I h;refine thn (hl pins s σ H _ I h) fun v s1 hZ1=>?_
 obtain ⟨x,H1,I1,r1,q1⟩:=hZ1;obtain ⟨a,e,⟨xs,hq⟩,q⟩:=Jh.out q1;subst e;cases r1;obtain ⟨its,rv,p,hz⟩:=I1.tuple hq;refine wpAny_pyIter_tuple (show s1.heap.IsTuple a its.toArray from p) ?_;refine ⟨s1.heap.objs.size,[s1.heap.objs.size],_,_,H1,rfl,I1.kept (t':=s1.toks) fun b o e=>Heap.get?_push_of_some _ e,zC a _,⟨_,Heap.get?_push_size _ rfl,rfl,rfl⟩,fun b hb=>?_,q⟩;have e:b=s1.heap.objs.size:=by simpa using hb
 subst e;exact I1.fpOk (Nat.le_refl _) (I1.hok.fresh (Nat.le_refl _))
theorem sB {pins:List (Addr × Obj)} {σ:St} {H:Hp} {s:Shared} {R:It→Hp→Prop} {E:Value→Shared→Prop} {lo hi:Int} {t u v:Tok} {tk:Nat} (I:Inv X pins σ H s) (h1:-(2 ^ 62) ≤ lo) (h2:lo < 2 ^ 62) (h3:-(2 ^ 62) ≤ hi) (h4:hi < 2 ^ 62)
  (q:R (Itr lo (hi - lo).toNat) H):wpAny (model X.prog X.w) X.A (pyIter (.ref s.heap.objs.size)) (PIE X pins σ tg R) E { s with heap:=s.heap.push { cls:=.type "range",data:=.fields #[.int lo t,.int hi u,.int 1 v] },toks:=tk }:=by
 refine wpAny_pyIter_range (IsRange.new ..) (small_one h1 h2 h3 h4) ?_;have I1:Inv X pins σ H { s with heap:=s.heap.push { cls:=.type "range",data:=.fields #[.int lo t,.int hi u,.int 1 v] },toks:=tk }:=I.kept fun b o e=>Heap.get?_push_of_some _ e
 refine ⟨(s.heap.push { cls:=.type "range",data:=.fields #[.int lo t,.int hi u,.int 1 v] }).objs.size,[(s.heap.push { cls:=.type "range",data:=.fields #[.int lo t,.int hi u,.int 1 v] }).objs.size],_,_,H,rfl,
  I1.kept (t':=tk) fun b o e=>Heap.get?_push_of_some _ e,VB _ lo (hi - lo).toNat,?_,fun b hb=>?_,q⟩
 ·have e1:lo + ((0:Nat):Int) * 1=lo:=by simp
  have e2:(((hi - lo).toNat:Nat):Int) - ((0:Nat):Int)=Builtin.Range.rangeSize lo hi 1:=by rw [rangeSize_one];split <;> omega
  show IsRangeIter _ _ (lo + ((0:Nat):Int) * 1) ((((hi - lo).toNat:Nat):Int) - ((0:Nat):Int)) 1;rw [e1,e2];exact Heap.get?_push_size _ rfl
 ·have e:b=(s.heap.push { cls:=.type "range",data:=.fields #[.int lo t,.int hi u,.int 1 v] }).objs.size:=by simpa using hb
  subst e;exact I1.fpOk (Nat.le_refl _) (I1.hok.fresh (Nat.le_refl _))
noncomputable def FN (ta:TA):TI:=fun σ H R=>ta σ H fun vs H1=>yC vs fun x=>ik x fun j=>-(2 ^ 62) ≤ j∧j < 2 ^ 62∧R (Itr 0 j.toNat) H1
noncomputable def sM (ta:TA):TI:=fun σ H R=>ta σ H fun vs H1=>∃ i j:Int,vs=[.int i,.int j]∧(-(2 ^ 62) ≤ i∧i < 2 ^ 62∧-(2 ^ 62) ≤ j∧j < 2 ^ 62)∧R (Itr i (j - i).toNat) H1
theorem me {a:Expr} {ta:TA} {p pos:Pos} (hg:Gl X "range") (hm:X.mg "range"=none) (ha:PA X [a] ta) (hs:starEach [a] X.env=[(false,eval a X.env)]:=by rfl):PI X tg (.Call (.Name "range" p) [a] [] pos) (FN ta):=by
 intro pins s σ H R I h;refine Call_ (cn I hg hm boot_range (PyProof.Rows.callWith_type1 (thn (ha pos pins s σ H _ I h) fun us s1 hZ1=>?_) hs rfl));obtain ⟨vs,H1,I1,r1,q1⟩:=hZ1;obtain ⟨zx,ze,zq⟩:=yC.out q1;obtain ⟨j,zf,zp,q2,q⟩:=ik.out zq;have e:=ze.trans (congrArg (fun z=>[z]) zf);subst e;cases r1 with
 | cons r rr=>
  cases rr;obtain ⟨t,rfl⟩:=r;exact call_range_1 (sB I1 (by omega) (by omega) zp q2 (by simpa using q))
theorem ir {a b:Expr} {ta:TA} {p pos:Pos} (hg:Gl X "range") (hm:X.mg "range"=none) (ha:PA X [a,b] ta) (hs:starEach [a,b] X.env=[(false,eval a X.env),(false,eval b X.env)]:=by rfl) (hs2:starEach [b] X.env=[(false,eval b X.env)]:=by rfl) :
  PI X tg (.Call (.Name "range" p) [a,b] [] pos) (sM ta):=by
 intro pins s σ H R I h;refine Call_ (cn I hg hm boot_range (PyProof.Rows.callWith_type1 (thn (ha pos pins s σ H _ I h) fun us s1 hZ1=>?_) (by rw [hs,hs2]) (by rw [hs2];rfl)));obtain ⟨vs,H1,I1,r1,q1⟩:=hZ1;obtain ⟨i,j,e,⟨q1,q2,q3,q4⟩,q⟩:=q1;subst e;cases r1 with
 | cons r rr=>
  cases rr with
  | cons r' rr=>
   cases rr;obtain ⟨t,rfl⟩:=r;obtain ⟨t',rfl⟩:=r';exact call_range_2 (sB I1 q1 q2 q3 q4 q)
noncomputable def bQ (wi:TI) (g:TG) (tb:TS):TS:=fun D σ H=>wi σ H fun J H1=>∃ W:Nat→Nat→St→Hp→Prop,(∃ m,W 0 m σ H1)∧∀ i m σ H,W i m σ H →
 (J.stop i H∧D.nx σ H)∨(J.go i H∧∃ N:St→Hp→Prop,(∀ σ' H',N σ' H'→∃ m',m' < m∧W (i + 1) m' σ' H')∧∀ x H',J.yld i H x H'→g x σ H' fun σ2 H2=>tb { D with nx:=N,ct:=N,bk:=D.nx } σ2 H2)
noncomputable def Ow (fp:List Addr) (h:Heap):List (Addr × Obj):=fp.filterMap fun b=>(h.get? b).map fun o=>(b,o)
theorem Ll {fp:List Addr} {h:Heap} {b:Addr} {o:Obj} (hb:b ∈ fp) (e:h.get? b=some o):(b,o) ∈ Ow fp h:=List.mem_filterMap.mpr ⟨b,hb,by rw [e];rfl⟩
theorem BG {fp:List Addr} {h:Heap} {p:Addr × Obj} (hp:p ∈ Ow fp h):p.1 ∈ fp∧h.get? p.1=some p.2:=by
 obtain ⟨b,hb,e⟩:=List.mem_filterMap.mp hp;cases q:h.get? b with
 | none=>rw [q] at e;cases e
 | some o=>
  rw [q] at e;have e':(b,o)=p:=Option.some.inj e;subst e';exact ⟨hb,q⟩
theorem Inv.pinned {pins:List (Addr × Obj)} {σ:St} {H:Hp} {s:Shared} {fp:List Addr} (I:Inv X pins σ H s) (hf:∀ b ∈ fp,mv X pins H b) (ho:∀ b ∈ fp,∃ o,s.heap.get? b=some o∧∀ v,o.data ≠ .cell v):Inv X (pins ++ Ow fp s.heap) σ H s:=
 I.pins_of fun p hp=>(List.mem_append.mp hp).elim (fun z=>I.pin p (List.mem_append_right _ z)) fun z=>by
  obtain ⟨hb,e⟩:=BG z;obtain ⟨f0,f1,f2,_⟩:=hf p.1 hb;obtain ⟨o,e',d⟩:=ho p.1 hb;rw [e] at e';cases e';exact ⟨e,f0,f1,f2,d⟩
theorem Inv.unpinned {pins pl:List (Addr × Obj)} {σ:St} {H:Hp} {s:Shared} (I:Inv X (pins ++ pl) σ H s):Inv X pins σ H s:=I.pins_of fun p hp=>I.pin p (List.mem_append_right _ (List.mem_append_left _ hp))
theorem Bf {iter:Expr} {body:List Stmt} {wi:TI} {g:TG} {tb:TS} {pos:Pos} (hp:PassesOwn (model X.prog X.w) X.A X.env X.xe) (hc:X.calm=true) (hi:PI X tg iter wi) (hg:PG X tg g) (hb:PSs X body tb)
  (hs:∀ x,foldedSetIterable iter X.env x=pure x:=by intro _;rfl):PS X (.For tg iter body [] pos) (bQ wi g tb):=by
 intro pins s σ H D I h;refine wpAny_For (thn (hi pins s σ H _ I h) fun v s1 h1=>thn h1 fun itv s2 h2=>?_) hs;obtain ⟨it,fp,tn,J,H2,e,I2,T,st2,f2,W,⟨m0,w0⟩,turn⟩:=h2;subst e;have stat:∀ {H':Hp},(∀ b ∈ fp,H' b=none)→∀ b ∈ fp,mv X pins H' b:=fun hn b hb=>⟨hn b hb,(f2 b hb).2⟩
 refine codeAny_forLoop_any (fun n s'=>∃ i σ' H',Inv X pins σ' H' s'∧tn i s'.heap∧(∀ b ∈ fp,H' b=none)∧W i n σ' H') ?_ m0 ⟨0,σ,H2,I2,st2,fun b hb=>(f2 b hb).1,w0⟩;rintro n s3 ⟨i,σ3,H3,I3,st3,fr3,w3⟩;rcases turn i n σ3 H3 w3 with ⟨stop,qn⟩ | ⟨go,N,hN,step⟩
 ·refine wpAny_passesOwn hp (thn (T.done X rfl rfl rfl hc i pins s3 σ3 H3 X.xe I3 (stat fr3) st3 stop) fun r s4 hZ1=>?_);obtain ⟨hr,I4⟩:=hZ1;subst hr;exact wpAny_execs_nil ⟨σ3,H3,I4,qn⟩
 ·refine wpAny_passesOwn hp (thn (T.item X rfl rfl rfl hc i pins s3 σ3 H3 X.xe I3 (stat fr3) st3 go) fun r s4 hZ1=>?_);obtain ⟨u,hr,h4⟩:=hZ1;subst hr;refine wpAny_passesOwn hp (thn h4 fun _ s5 hZ1=>?_);obtain ⟨x,H5,I5,r5,y5,st5,fr5⟩:=hZ1;have I5':=I5.pinned (stat fr5) (T.obj _ _ st5);refine wpAny_passesOwn hp (thn (hg _ s5 σ3 H5 x u _ I5' r5 (step x H5 y5)) fun _ s6 hZ1=>?_);obtain ⟨σ6,H6,I6,q6⟩:=hZ1;refine wpAny_passesOwn hp (thn (hb _ s6 σ6 H6 _ I6 q6) fun f s7 q7=>?_);have again:∀ {σ7:St} {H7:Hp},Inv X (pins ++ Ow fp s5.heap) σ7 H7 s7→N σ7 H7→∃ m,m < n∧∃ i σ' H',Inv X pins σ' H' s7∧tn i s7.heap∧(∀ b ∈ fp,H' b=none)∧W i m σ' H':=fun {σ7 H7} I7 n7=>by
   obtain ⟨m',hm,w7⟩:=hN σ7 H7 n7;refine ⟨m',hm,i + 1,σ7,H7,I7.unpinned,T.keep _ _ _ st5 fun b hb o e=>(I7.pin (b,o) (List.mem_append_right _ (List.mem_append_right _ (Ll hb e)))).1,fun b hb=>?_,w7⟩;obtain ⟨o,e,d⟩:=T.obj _ _ st5 b hb;exact (I7.pin (b,o) (List.mem_append_right _ (List.mem_append_right _ (Ll hb e)))).2.1
  cases f with
  | next=>obtain ⟨σ7,H7,I7,n7⟩:=q7;exact again I7 n7
  | cont=>obtain ⟨σ7,H7,I7,n7⟩:=q7;exact again I7 n7
  | brk=>obtain ⟨σ7,H7,I7,q7⟩:=q7;exact ⟨σ7,H7,I7.unpinned,q7⟩
  | ret v=>obtain ⟨x7,σ7,H7,I7,r7,q7⟩:=q7;exact ⟨x7,σ7,H7,I7.unpinned,r7,q7⟩
end
theorem uH {K:PySem.W.Frag} {a:Addr} {xs:List V} {g:TG} {tb:TS} {D:Sj} {σ:St} {H:Hp} (Pv:Nat→St→Hp→Prop) (h0:Pv 0 σ H) (hl:∀ i σ H,i ≤ xs.length→Pv i σ H→SqL K H a xs)
  (hs:∀ i x σ H,xs[i]? = some x→Pv i σ H→g x σ H fun σ2 H2=>tb { D with nx:=Pv (i + 1),ct:=Pv (i + 1),bk:=D.nx } σ2 H2) (hd:∀ σ H,Pv xs.length σ H→D.nx σ H) :
  ∃ W:Nat→Nat→St→Hp→Prop,(∃ m,W 0 m σ H)∧∀ i m σ H,W i m σ H →
   ((Itl K a).stop i H∧D.nx σ H)∨((Itl K a).go i H∧∃ N:St→Hp→Prop,(∀ σ' H',N σ' H'→∃ m',m' < m∧W (i + 1) m' σ' H')∧∀ x H',(Itl K a).yld i H x H'→g x σ H' fun σ2 H2=>tb { D with nx:=N,ct:=N,bk:=D.nx } σ2 H2):=by
 refine ⟨fun i m σ H=>m=xs.length - i∧i ≤ xs.length∧Pv i σ H,⟨xs.length,by simp,Nat.zero_le _,h0⟩,?_⟩;rintro i m σ H ⟨rfl,hi,p⟩;have q:=hl i σ H hi p;by_cases hlt:i < xs.length
 ·refine .inr ⟨⟨xs,xs[i],q,by simp [hlt]⟩,Pv (i + 1),fun σ' H' p'=>⟨xs.length - (i + 1),by omega,rfl,hlt,p'⟩,fun x H' y=>?_⟩;obtain ⟨e,y⟩:=y;subst e;exact hs i x σ _ (y xs q) p
 ·have e:i=xs.length:=by omega
  subst e;exact .inl ⟨⟨xs,q,Nat.le_refl _⟩,hd σ H p⟩
theorem gF {lo:Int} {n:Nat} {g:TG} {tb:TS} {D:Sj} {σ:St} {H:Hp} (Pv:Nat→St→Hp→Prop) (h0:Pv 0 σ H)
  (hs:∀ i σ H,i < n→Pv i σ H→g (.int (lo + i)) σ H fun σ2 H2=>tb { D with nx:=Pv (i + 1),ct:=Pv (i + 1),bk:=D.nx } σ2 H2) (hd:∀ σ H,Pv n σ H→D.nx σ H) :
  ∃ W:Nat→Nat→St→Hp→Prop,(∃ m,W 0 m σ H)∧∀ i m σ H,W i m σ H →
   ((Itr lo n).stop i H∧D.nx σ H)∨((Itr lo n).go i H∧∃ N:St→Hp→Prop,(∀ σ' H',N σ' H'→∃ m',m' < m∧W (i + 1) m' σ' H')∧∀ x H',(Itr lo n).yld i H x H'→g x σ H' fun σ2 H2=>tb { D with nx:=N,ct:=N,bk:=D.nx } σ2 H2):=by
 refine ⟨fun i m σ H=>m=n - i∧i ≤ n∧Pv i σ H,⟨n,by simp,Nat.zero_le _,h0⟩,?_⟩;rintro i m σ H ⟨rfl,hi,p⟩;by_cases hlt:i < n
 ·refine .inr ⟨hlt,Pv (i + 1),fun σ' H' p'=>⟨n - (i + 1),by omega,rfl,hlt,p'⟩,fun x H' y=>?_⟩;obtain ⟨e,y⟩:=y;subst e y;exact hs i σ _ hlt p
 ·have e:i=n:=by omega
  subst e;exact .inl ⟨Nat.le_refl _,hd σ H p⟩
end L2
namespace L2
open PySem PySem.Spec PyProof.Rows
noncomputable abbrev R2:=V→V→Hp→VK→Prop
noncomputable def OpR (X:Cx) (f:Value→Value→Sem Value) (r:R2):Prop:=
 ∀ (pins:List (Addr × Obj)) (s:Shared) (σ:St) (H:Hp) (x y:V) (v u:Value) (Q:VK),Inv X pins σ H s→yd x v→yd y u→r x y H Q →
  wpAny (model X.prog X.w) X.A (f v u) (EP X pins σ Q) X.xe s
noncomputable def UnR (X:Cx) (f:Value→Sem Value) (r:V→Hp→VK→Prop):Prop:=
 ∀ (pins:List (Addr × Obj)) (s:Shared) (σ:St) (H:Hp) (x:V) (v:Value) (Q:VK),Inv X pins σ H s→yd x v→r x H Q →
  wpAny (model X.prog X.w) X.A (f v) (EP X pins σ Q) X.xe s
noncomputable def Ri (X:Cx) (f:Value) (r:List V→Hp→VK→Prop):Prop:=
 ∀ (pins:List (Addr × Obj)) (s:Shared) (σ:St) (H:Hp) (xs:List V) (us:List Value) (Q:VK),Inv X pins σ H s→zd xs us→r xs H Q →
  wpAny (model X.prog X.w) X.A (call f us) (EP X pins σ Q) X.xe s
noncomputable def xQ (X:Cx) (r:V→Hp→(Bool→Hp→Prop)→Prop):Prop:=
 ∀ (pins:List (Addr × Obj)) (s:Shared) (σ:St) (H:Hp) (x:V) (v:Value) (Q:Bool→Hp→Prop),Inv X pins σ H s→yd x v→r x H Q →
  wpAny (model X.prog X.w) X.A (truthy v) (TP X pins σ Q) X.xe s
noncomputable def tOp (r:R2) (ta tb:TE):TE:=fun σ H Q=>ta σ H fun x H1=>tb σ H1 fun y H2=>r x y H2 Q
noncomputable def tUn (r:V→Hp→VK→Prop) (ta:TE):TE:=fun σ H Q=>ta σ H fun x H1=>r x H1 Q
noncomputable def rI (C:Int→Int→Prop) (g:Int→Int→V):R2:=fun x y H Q=>ik x fun i=>ik y fun j=>C i j∧Q (g i j) H
noncomputable def rI0 (g:Int→Int→V):R2:=fun x y H Q=>ik x fun i=>ik y fun j=>Q (g i j) H
noncomputable def rU (g:Int→V):V→Hp→VK→Prop:=fun x H Q=>ik x fun i=>Q (g i) H
section
variable {X:Cx} {a b c:Expr} {ta tb tc:TE} {pos:Pos}
theorem RO (ha:PE X a ta) (hb:PE X b tb) {pins:List (Addr × Obj)} {s:Shared} {σ:St} {H:Hp} {R:V→V→Hp→Prop} (I:Inv X pins σ H s)
  (h:ta σ H fun x H1=>tb σ H1 fun y H2=>R x y H2) {Q:Value→Shared→Prop} {f:Value→Value→Sem Value}
  (hf:∀ v u s2 x y H2,Inv X pins σ H2 s2→yd x v→yd y u→R x y H2→wpAny (model X.prog X.w) X.A (f v u) Q X.xe s2) :
  wpAny (model X.prog X.w) X.A (eval a X.env) (fun v s₁=>wpAny (model X.prog X.w) X.A (eval b X.env) (fun u s₂=>wpAny (model X.prog X.w) X.A (f v u) Q X.xe s₂) X.xe s₁) X.xe s:=by
 refine thn (ha pins s σ H _ I h) fun v s1 hZ1=>?_
 obtain ⟨x,H1,I1,r1,q1⟩:=hZ1;refine thn (hb pins s1 σ H1 _ I1 q1) fun u s2 hZ1=>?_
 obtain ⟨y,H2,I2,r2,q2⟩:=hZ1;exact hf v u s2 x y H2 I2 r1 r2 q2
theorem Kb {op:Operator} {r:R2} (ho:OpR X (binaryOp op) r) (ha:PE X a ta) (hb:PE X b tb):PE X (.BinOp a op b pos) (tOp r ta tb):=by
 intro pins s σ H Q I h;exact wpAny_BinOp (RO ha hb I h fun v u s2 x y H2 I2 rx ry q=>ho pins s2 σ H2 x y v u Q I2 rx ry q)
theorem JK {op:UnaryOp} {r:V→Hp→VK→Prop} (ho:UnR X (unaryOp op) r) (ha:PE X a ta):PE X (.UnaryOp op a pos) (tUn r ta):=by
 intro pins s σ H Q I h;exact UnaryOp_ (thn (ha pins s σ H _ I h) fun v s1 ⟨x,H1,I1,r1,q1⟩=>ho pins s1 σ H1 x v Q I1 r1 q1)
theorem opI {f:Value→Value→Sem Value} {C:Int→Int→Prop} {g:Int→Int→Int}
  (rule:∀ (i j:Int) (t u:Tok) (s:Shared) (Q:Value→Shared→Prop) (E:Value→Shared→Prop),C i j→Q (.int (g i j) s.toks) { s with toks:=s.toks + 1 }→wpAny (model X.prog X.w) X.A (f (.int i t) (.int j u)) Q E s) :
  OpR X f (rI C fun i j=>.int (g i j)):=by
 intro pins s σ H x y v u Q I rx ry h;obtain ⟨i,rfl,hzz⟩:=ik.out h;obtain ⟨j,rfl,hc,q⟩:=ik.out hzz;obtain ⟨t,rfl⟩:=rx;obtain ⟨t',rfl⟩:=ry;exact rule i j t t' s _ _ hc ⟨.int (g i j),H,I.tok _,⟨_,rfl⟩,q⟩
theorem fQ {f:Value→Value→Sem Value} {g:Int→Int→Int}
  (rule:∀ (i j:Int) (t u:Tok) (s:Shared) (Q:Value→Shared→Prop) (E:Value→Shared→Prop),Q (.int (g i j) s.toks) { s with toks:=s.toks + 1 }→wpAny (model X.prog X.w) X.A (f (.int i t) (.int j u)) Q E s) :
  OpR X f (rI0 fun i j=>.int (g i j)):=by
 intro pins s σ H x y v u Q I rx ry h;obtain ⟨i,rfl,hzz⟩:=ik.out h;obtain ⟨j,rfl,q⟩:=ik.out hzz;obtain ⟨t,rfl⟩:=rx;obtain ⟨t',rfl⟩:=ry;exact rule i j t t' s _ _ ⟨.int (g i j),H,I.tok _,⟨_,rfl⟩,q⟩
theorem ZP {f:Value→Value→Sem Value} {g:Int→Int→Bool}
  (rule:∀ (i j:Int) (t u:Tok) (s:Shared) (Q:Value→Shared→Prop) (E:Value→Shared→Prop),Q (.bool (g i j)) s→wpAny (model X.prog X.w) X.A (f (.int i t) (.int j u)) Q E s) :
  OpR X f (rI0 fun i j=>.bl (g i j)):=by
 intro pins s σ H x y v u Q I rx ry h;obtain ⟨i,rfl,hzz⟩:=ik.out h;obtain ⟨j,rfl,q⟩:=ik.out hzz;obtain ⟨t,rfl⟩:=rx;obtain ⟨t',rfl⟩:=ry;exact rule i j t t' s _ _ ⟨.bl (g i j),H,I,rfl,q⟩
noncomputable def pQ (i j:Int):Prop:=0 < j∧j < 1073741824
noncomputable def BL (i j:Int):Prop:=(-(2 ^ 64) < i∧i < 2 ^ 64)∨(-(2 ^ 64) < j∧j < 2 ^ 64)
theorem BL.ok {i j:Int} (h:BL i j):IntMulOk i j:=by
 rcases h with ⟨h1,h2⟩ | ⟨h1,h2⟩
 ·exact .of_left (intBits_le_64 h1 h2)
 ·exact .of_right (intBits_le_64 h1 h2)
theorem fc:OpR X (binaryOp .Add) (rI0 fun i j=>.int (i + j)):=fQ fun _ _ _ _ _ _ _ q=>add_int q
theorem Fg:OpR X (binaryOp .Sub) (rI0 fun i j=>.int (i - j)):=fQ fun _ _ _ _ _ _ _ q=>sub_int q
theorem Fd:OpR X (binaryOp .Mult) (rI BL fun i j=>.int (i * j)):=opI fun _ _ _ _ _ _ _ hc q=>mul_int q hc.ok
theorem GK:OpR X (binaryOp .FloorDiv) (rI pQ fun i j=>.int (i / j)):=opI fun i j _ _ _ _ _ hc q=>by
 have h1:(0:Int) < j:=hc.1;have h2:j < 1073741824:=hc.2;exact floordiv_int (by omega) (by rw [Int.fdiv_eq_ediv_of_nonneg i (by omega)];exact q) (.inl (PyProof.noPylong_small (by omega)))
theorem Ig:OpR X (binaryOp .Mod) (rI (fun _ j=>0 < j) fun i j=>.int (i % j)):=opI fun i j _ _ _ _ _ hc q=>by
 have h1:(0:Int) < j:=hc;exact mod_int' (by omega) (by rw [Int.fmod_eq_emod_of_nonneg i (by omega)];exact q)
theorem unI {f:Value→Sem Value} {g:Int→Int}
  (rule:∀ (i:Int) (t:Tok) (s:Shared) (Q:Value→Shared→Prop) (E:Value→Shared→Prop),Q (.int (g i) s.toks) { s with toks:=s.toks + 1 }→wpAny (model X.prog X.w) X.A (f (.int i t)) Q E s) :
  UnR X f (rU fun i=>.int (g i)):=by
 intro pins s σ H x v Q I rx h;obtain ⟨i,rfl,q⟩:=ik.out h;obtain ⟨t,rfl⟩:=rx;exact rule i t s _ _ ⟨.int (g i),H,I.tok _,⟨_,rfl⟩,q⟩
theorem kE:UnR X (unaryOp .USub) (rU fun i=>.int (-i)):=unI fun _ _ _ _ _ q=>neg_int q
end
noncomputable def CM:V→V→Bool
 | .non,.non=>true | .non,.int _=>true | .int _,.non=>true | .non,.bl _=>true | .bl _,.non=>true | .non,.str _=>true | .str _,.non=>true
 | .int _,.int _=>true | .bl _,.bl _=>true | .str _,.str _=>true | .byt _,.byt _=>true
 | .int _,.str _=>true | .str _,.int _=>true | .bl _,.str _=>true | .str _,.bl _=>true
 | _,_=>false
noncomputable def rEq:R2:=fun x y H Q=>CM x y=true∧Q (.bl (decide (x=y))) H
noncomputable def rNe:R2:=fun x y H Q=>CM x y=true∧Q (.bl (!decide (x=y))) H
theorem JF {i j:Int}:decide (V.int i=V.int j)=(i == j):=by
 rw [Bool.eq_iff_iff];simp
theorem uJ {i j:Bool}:decide (V.bl i=V.bl j)=(i == j):=by
 rw [Bool.eq_iff_iff];simp
theorem JG {i j:Str}:decide (V.str i=V.str j)=(i == j):=by
 rw [Bool.eq_iff_iff];simp
theorem tF {i j:Array UInt8}:decide (V.byt i=V.byt j)=(i.toList == j.toList):=by
 rw [Bool.eq_iff_iff];cases i;cases j;simp
section
variable {X:Cx} {a b c:Expr} {ta tb tc:TE} {pos:Pos}
theorem ad {pins:List (Addr × Obj)} {σ:St} {H:Hp} {s:Shared} {Q:VK} {k k':Bool} (I:Inv X pins σ H s) (q:Q (.bl k) H) (e:k=k'):EP X pins σ Q (.bool k') s:=by
 subst e;exact ⟨.bl k,H,I,rfl,q⟩
theorem tf:OpR X (compareOp .Eq) rEq:=by
 intro pins s σ H x y v u Q I rx ry h;obtain ⟨hs,q⟩:=h;cases x with
 | non=>
  cases rx;cases y with
  | non=>cases ry;exact PySem.EqNone.eq_none_none (ad I q (by simp))
  | bl j=>cases ry;exact PySem.EqNone.eq_none_bool (ad I q (by simp))
  | int j=>obtain ⟨t',rfl⟩:=ry;exact PySem.EqNone.eq_none_int (ad I q (by simp))
  | str j=>obtain ⟨t',rfl⟩:=ry;exact PySem.EqNone.eq_none_str (ad I q (by simp))
  | _=>exact absurd (show false=true from hs) Bool.false_ne_true
 | bl i=>
  cases rx;cases y with
  | non=>cases ry;exact PySem.EqNone.eq_bool_none (ad I q (by simp))
  | bl j=>cases ry;exact eq_bool (ad I q uJ)
  | str j=>obtain ⟨t',rfl⟩:=ry;exact PySem.EqMixed.eq_bool_str (ad I q (by simp))
  | _=>exact absurd (show false=true from hs) Bool.false_ne_true
 | int i=>
  obtain ⟨t,rfl⟩:=rx;cases y with
  | non=>cases ry;exact PySem.EqNone.eq_int_none (ad I q (by simp))
  | int j=>obtain ⟨t',rfl⟩:=ry;exact eq_int (ad I q JF)
  | str j=>obtain ⟨t',rfl⟩:=ry;exact PySem.EqMixed.eq_int_str (ad I q (by simp))
  | _=>exact absurd (show false=true from hs) Bool.false_ne_true
 | str i=>
  obtain ⟨t,rfl⟩:=rx;cases y with
  | non=>cases ry;exact PySem.EqNone.eq_str_none (ad I q (by simp))
  | bl j=>cases ry;exact PySem.EqMixed.eq_str_bool (ad I q (by simp))
  | int j=>obtain ⟨t',rfl⟩:=ry;exact PySem.EqMixed.eq_str_int (ad I q (by simp))
  | str j=>obtain ⟨t',rfl⟩:=ry;exact eq_str (ad I q JG)
  | _=>exact absurd (show false=true from hs) Bool.false_ne_true
 | byt i=>
  obtain ⟨t,rfl⟩:=rx;cases y with
  | byt j=>obtain ⟨t',rfl⟩:=ry;exact PySem.W.eq_bytes (ad I q tF)
  | _=>exact absurd (show false=true from hs) Bool.false_ne_true
 | _=>cases y <;> exact absurd (show false=true from hs) Bool.false_ne_true
theorem TD:OpR X (compareOp .NotEq) rNe:=by
 intro pins s σ H x y v u Q I rx ry h;obtain ⟨hs,q⟩:=h;cases x with
 | non=>
  cases rx;cases y with
  | non=>cases ry;exact PySem.EqNone.ne_none_none (ad I q (by simp))
  | bl j=>cases ry;exact PySem.EqNone.ne_none_bool (ad I q (by simp))
  | int j=>obtain ⟨t',rfl⟩:=ry;exact PySem.EqNone.ne_none_int (ad I q (by simp))
  | str j=>obtain ⟨t',rfl⟩:=ry;exact PySem.EqNone.ne_none_str (ad I q (by simp))
  | _=>exact absurd (show false=true from hs) Bool.false_ne_true
 | bl i=>
  cases rx;cases y with
  | non=>cases ry;exact PySem.EqNone.ne_bool_none (ad I q (by simp))
  | bl j=>cases ry;exact ne_bool (ad I q (congrArg not uJ))
  | str j=>obtain ⟨t',rfl⟩:=ry;exact PySem.EqMixed.ne_bool_str (ad I q (by simp))
  | _=>exact absurd (show false=true from hs) Bool.false_ne_true
 | int i=>
  obtain ⟨t,rfl⟩:=rx;cases y with
  | non=>cases ry;exact PySem.EqNone.ne_int_none (ad I q (by simp))
  | int j=>obtain ⟨t',rfl⟩:=ry;exact ne_int (ad I q (congrArg not JF))
  | str j=>obtain ⟨t',rfl⟩:=ry;exact PySem.EqMixed.ne_int_str (ad I q (by simp))
  | _=>exact absurd (show false=true from hs) Bool.false_ne_true
 | str i=>
  obtain ⟨t,rfl⟩:=rx;cases y with
  | non=>cases ry;exact PySem.EqNone.ne_str_none (ad I q (by simp))
  | bl j=>cases ry;exact PySem.EqMixed.ne_str_bool (ad I q (by simp))
  | int j=>obtain ⟨t',rfl⟩:=ry;exact PySem.EqMixed.ne_str_int (ad I q (by simp))
  | str j=>obtain ⟨t',rfl⟩:=ry;exact ne_str (ad I q (congrArg not JG))
  | _=>exact absurd (show false=true from hs) Bool.false_ne_true
 | byt i=>
  obtain ⟨t,rfl⟩:=rx;cases y with
  | byt j=>obtain ⟨t',rfl⟩:=ry;exact PySem.W.ne_bytes (ad I q (congrArg not tF))
  | _=>exact absurd (show false=true from hs) Bool.false_ne_true
 | _=>cases y <;> exact absurd (show false=true from hs) Bool.false_ne_true
theorem av:OpR X (compareOp .Lt) (rI0 fun i j=>.bl (decide (i < j))):=ZP fun _ _ _ _ _ _ _ q=>lt_int q
theorem Pm:OpR X (compareOp .Gt) (rI0 fun i j=>.bl (decide (j < i))):=ZP fun _ _ _ _ _ _ _ q=>gt_int q
theorem qD:OpR X (compareOp .In) (fun x y H Q=>∃ i j,x=.str i∧y=.str j∧Q (.bl (!(Builtin.Str.occurrences j i 0 j.length 1).isEmpty)) H):=by
 intro pins s σ H x y v u Q I rx ry h;obtain ⟨i,j,rfl,rfl,q⟩:=h;obtain ⟨t,rfl⟩:=rx;obtain ⟨t',rfl⟩:=ry;exact in_str (ad I q rfl)
theorem CF:OpR X (compareOp .Is) (fun x y H Q=>y=.non∧Q (.bl (decide (x=.non))) H):=by
 intro pins s σ H x y v u Q I rx ry h;obtain ⟨rfl,q⟩:=h;cases ry;refine is_none_gen (ad I q ?_);cases x <;> first
  | (cases rx;rfl)
  | (obtain ⟨t,rfl⟩:=rx;rfl)
theorem Gv:OpR X (compareOp .IsNot) (fun x y H Q=>y=.non∧Q (.bl (!decide (x=.non))) H):=by
 intro pins s σ H x y v u Q I rx ry h;obtain ⟨rfl,q⟩:=h;cases ry;refine isnot_none_gen (ad I q ?_);cases x <;> first
  | (cases rx;rfl)
  | (obtain ⟨t,rfl⟩:=rx;rfl)
theorem OpR.or {f:Value→Value→Sem Value} {r r':R2} (h:OpR X f r) (h':OpR X f r'):OpR X f (fun x y H Q=>r x y H Q∨r' x y H Q):=by
 intro pins s σ H x y v u Q I rx ry q;rcases q with q | q
 ·exact h pins s σ H x y v u Q I rx ry q
 ·exact h' pins s σ H x y v u Q I rx ry q
theorem Vb (b:Expr) {op:CmpOp} (h:op ≠ .In:=by decide) (h2:op ≠ .NotIn:=by decide):behindInMarks op b=false:=by
 have e1:(op == CmpOp.In)=false:=by cases op <;> first | rfl | exact absurd rfl h
 have e2:(op == CmpOp.NotIn)=false:=by cases op <;> first | rfl | exact absurd rfl h2
 cases b <;> simp [behindInMarks,e1,e2]
theorem ae {op:CmpOp} {r:R2} (ho:OpR X (compareOp op) r) (ha:PE X a ta) (hb:PE X b tb) (hm:behindInMarks op b=false):PE X (.Compare a [op] [b] pos) (tOp r ta tb):=by
 intro pins s σ H Q I h;exact wpAny_Compare1 (RO ha hb I h fun v u s2 x y H2 I2 rx ry q=>ho pins s2 σ H2 x y v u Q I2 rx ry q) hm
noncomputable def XN (t:TE):TT:=fun σ H Q=>t σ H fun x H'=>BlQ x fun k=>Q k H'
theorem Ob {op:CmpOp} {r:R2} (ho:OpR X (compareOp op) r) (ha:PE X a ta) (hb:PE X b tb) (hm:behindInMarks op b=false):PT X (.Compare a [op] [b] pos) (XN (tOp r ta tb)):=by
 intro pins s σ H Q I h;refine wpAny_isTrue_Compare1 (thn (ha pins s σ H _ I h) fun v s1 ⟨x,H1,I1,r1,q1⟩=>thn (hb pins s1 σ H1 _ I1 q1) fun u s2 ⟨y,H2,I2,r2,q2⟩=>
  thn (ho pins s2 σ H2 x y v u _ I2 r1 r2 q2) fun c s3 ⟨z,H3,I3,r3,zq⟩=>?_) hm
 obtain ⟨k,e,q3⟩:=BlQ.out zq;subst e;cases r3;exact wpAny_truthy_bool ⟨H3,I3,q3⟩
noncomputable def QP (K:PySem.W.Frag) (x:V) (H:Hp) (k:Bool):Prop:=
 match x with
 | .non=>k=false
 | .bl b=>k=b
 | .int i=>k=(i != 0)
 | .str y=>y.length ≤ sizeLine∧k=((y.length:Int) != 0)
 | .byt y=>y.size ≤ sizeLine∧k=((y.size:Int) != 0)
 | .ref p=>(∃ xs,SqL K H p xs∧k = !xs.isEmpty)∨(∃ xs,SqT K H p xs∧k = !xs.isEmpty)∨∃ kvs,H p=some (.dK kvs)∧k = !kvs.isEmpty
 | _=>False
theorem WC {κ:Type} {kvs:List (κ × V)} {vs:List (κ × Value)} (r:KV kvs vs):(!vs.isEmpty) = !kvs.isEmpty:=by
 cases r <;> rfl
theorem Nt {xs:List V} {its:List Value} (r:zd xs its):(!its.toArray.isEmpty) = !xs.isEmpty:=by
 cases r <;> simp
theorem mr:(sizeLine:Nat) < 2 ^ 63:=by rw [sizeLine_eq];decide
theorem eO:xQ X (fun x H Q=>∃ k,QP X.K x H k∧Q k H):=by
 intro pins s σ H x v Q I rx h;obtain ⟨k,e,q⟩:=h;have hl:=mr;have hs:sizeLine=16777216:=sizeLine_eq;cases x with
 | non=>
  cases rx;have e':k=false:=e;subst e';exact truthy_none ⟨H,I,q⟩
 | bl b=>
  cases rx;have e':k=b:=e;subst e';exact wpAny_truthy_bool ⟨H,I,q⟩
 | int i=>
  obtain ⟨t,rfl⟩:=rx;have e':k=(i != 0):=e;subst e';exact PySem.P.truthy_int ⟨H,I,q⟩
 | str y=>
  obtain ⟨t,rfl⟩:=rx;obtain ⟨hy,e'⟩:y.length ≤ sizeLine∧k=((y.length:Int) != 0):=e;subst e';exact PySem.P.truthy_str (by omega) ⟨H,I.tok _,q⟩
 | byt y=>
  obtain ⟨t,rfl⟩:=rx;obtain ⟨hy,e'⟩:y.size ≤ sizeLine∧k=((y.size:Int) != 0):=e;subst e';exact PySem.W.truthy_bytes (by omega) ⟨H,I.tok _,q⟩
 | ref p=>
  cases rx;have e':(∃ xs,SqL X.K H p xs∧k = !xs.isEmpty)∨(∃ xs,SqT X.K H p xs∧k = !xs.isEmpty)∨∃ kvs,H p=some (.dK kvs)∧k = !kvs.isEmpty:=e;rcases e' with ⟨xs,hx,e'⟩ | ⟨xs,hx,e'⟩ | ⟨kvs,hx,e'⟩
  ·subst e';obtain ⟨its,r,pl,hz⟩:=I.list hx;have hlen:=r.length;exact wpAny_truthy_list pl.isList (by simp only [List.size_toArray];omega) ⟨H,I.tok _,by rw [Nt r];exact q⟩
  ·subst e';obtain ⟨its,r,pl,hz⟩:=I.tuple hx;have hlen:=r.length;exact truthy_tuple pl (by simp only [List.size_toArray];omega) ⟨H,I.tok _,by rw [Nt r];exact q⟩
  ·subst e';obtain ⟨hz,hS,vs,r,m⟩:kvs.length ≤ sizeLine∧(p == sysModules)=false∧∃ vs,KV kvs vs∧s.heap.DictOf (De X.prog X.w) p vs:=I.hok p _ hx;have hlen:kvs.length=vs.length:=Paired.length r;exact wpAny_truthy_dict hS m (by omega) ⟨H,I.tok _,by rw [WC r];exact q⟩
 | _=>exact (show False from e).elim
theorem Gz (ha:PE X a ta) (he:∀ whole,isTrue a X.env whole=(do let v ← whole;standAt a.pos;holding [v] (truthy v))) :
  PT X a (fun σ H Q=>ta σ H fun x H'=>∃ k,QP X.K x H' k∧Q k H'):=by
 intro pins s σ H Q I h;exact isTrue_plain (thn (ha pins s σ H _ I h) fun v s1 ⟨x,H1,I1,r1,q1⟩=>eO pins s1 σ H1 x v Q I1 r1 q1) (he _)
theorem Ro:OpR X (binaryOp .Add) (fun x y H Q=>∃ i j,x=.str i∧y=.str j∧i.length + j.length ≤ sizeLine∧Q (.str (i ++ j)) H):=by
 intro pins s σ H x y v u Q I rx ry h;obtain ⟨i,j,rfl,rfl,hz,q⟩:=h;obtain ⟨t,rfl⟩:=rx;obtain ⟨t',rfl⟩:=ry;exact add_str (fun t' tk=>⟨.str (i ++ j),H,I.tok _,⟨_,rfl⟩,q⟩) hz
theorem On {x:V} {us:List Value} (r:zd [x] us):∃ u,us=[u]∧yd x u:=by
 cases r with
 | cons r1 r2=>cases r2;exact ⟨_,rfl,r1⟩
theorem yK {x y:V} {us:List Value} (r:zd [x,y] us):∃ u w',us=[u,w']∧yd x u∧yd y w':=by
 cases r with
 | cons r1 r2=>
  cases r2 with
  | cons r3 r4=>cases r4;exact ⟨_,_,rfl,r1,r3⟩
theorem yr (hc:X.calm=true):Ri X (.builtin "max") (fun xs H Q=>∃ i j,xs=[.int i,.int j]∧Q (.int (if j > i then j else i)) H):=by
 intro pins s σ H xs us Q I r h;obtain ⟨i,j,rfl,q⟩:=h;obtain ⟨u,w',rfl,⟨t,rfl⟩,⟨t',rfl⟩⟩:=yK r;refine max_two_ints (I.ok.hd hc) fun h' tk k=>⟨_,H,I.kept k,?_,q⟩
 by_cases hj:j > i
 ·rw [if_pos hj,if_pos hj];exact ⟨_,rfl⟩
 ·rw [if_neg hj,if_neg hj];exact ⟨_,rfl⟩
theorem Hx (hc:X.calm=true):Ri X (.builtin "min") (fun xs H Q=>∃ i j,xs=[.int i,.int j]∧Q (.int (if j < i then j else i)) H):=by
 intro pins s σ H xs us Q I r h;obtain ⟨i,j,rfl,q⟩:=h;obtain ⟨u,w',rfl,⟨t,rfl⟩,⟨t',rfl⟩⟩:=yK r;refine min_two_ints (I.ok.hd hc) fun h' tk k=>⟨_,H,I.kept k,?_,q⟩
 by_cases hj:j < i
 ·rw [if_pos hj,if_pos hj];exact ⟨_,rfl⟩
 ·rw [if_neg hj,if_neg hj];exact ⟨_,rfl⟩
theorem gl:Ri X (.type "str") (fun xs H Q=>∃ i,xs=[.int i]∧i.natAbs.log2 < 1920∧Q (.str (toString i)) H):=by
 intro pins s σ H xs us Q I r h;obtain ⟨i,rfl,hz,q⟩:=h;obtain ⟨u,rfl,t,rfl⟩:=On r;exact PySem.P.str_of_int hz ⟨.str _,H,I.tok _,⟨_,rfl⟩,q⟩
end
end L2
namespace L2
open PySem PySem.Spec PyProof.Rows
structure tL (h:Heap) (x dx C:Addr) (mA:Str→Option Value):Prop where
 obj:h.get? x=some (PySem.W.instObj C dx)
 ns:h.Ns1 dx mA
 ne:dx ≠ x
theorem pF {h:Heap} {dx:Addr} {mA:Str→Option Value} (n:h.Ns1 dx mA):∃ od,h.get? dx=some od∧∀ name,PySem.W.lookIn name od=some (mA name):=by
 obtain ⟨o,es,ep,ho,hd,hk,_,hm⟩:=n;refine ⟨o,ho,fun name=>?_⟩;have e:=hm name;unfold nsFind findBy at e;rw [← Array.find?_toList] at e;unfold PySem.W.lookIn;rw [hd];dsimp only;split
 ·rename_i y q;rw [q] at e;exact congrArg some e
 ·rename_i q;rw [q] at e;have a:es.toList.any (·.refKey)=false:=by
   rw [List.any_eq_false];intro y hy;obtain ⟨z,t,hkey⟩:=hk y (Array.mem_toList_iff.mp hy);simp [DictEntry.refKey,hkey]
  have a':¬ es.toList.any (·.refKey)=true:=by rw [a];exact Bool.false_ne_true
  rw [if_neg a'];exact congrArg some e
theorem tL.look {h:Heap} {x dx C:Addr} {mA:Str→Option Value} (I:tL h x dx C mA):∃ od,PySem.W.InstAt h x (PySem.W.instObj C dx) C (some od)∧∀ name,PySem.W.lookIn name od=some (mA name):=
 let ⟨od,ho,hl⟩:=pF I.ns
 ⟨od,⟨I.obj,rfl,rfl,ho⟩,hl⟩
section
variable {prog:Program} {w:World} {A:Around} {E:Value→Shared→Prop} {s:Shared} {K:PySem.W.Frag} {x dx C f:Addr} {mA:Str→Option Value} {name:Str} {v:Value}
theorem IL {expr:Bool} {Q:Value→Shared→Prop} (X:K.In s.heap) (I:tL s.heap x dx C mA) (hg:PySem.W.plainGet K C name=true) (hh:PySem.W.hasDictIn K C=true)
  (ha:PySem.W.findIn K (.ref C) name=some none) (hv:mA name=some v) (hv':PySem.W.handedIn v=true) (h:Q v { s with toks:=s.toks + 1 }) :
  wpAny (model prog w) A (getAttr (.ref x) name expr) Q E s:=by
 obtain ⟨od,J,hl⟩:=I.look;exact PySem.W.get_value X J (PySem.W.plainGet_of hg).1 (PySem.W.findObj_own hh ha rfl (by rw [hl,hv])) hv' h
theorem BH {pl:Sem Bool} {Q:Value × List Value→Shared→Prop} (X:K.In s.heap) (I:tL s.heap x dx C mA) (hg:PySem.W.plainGet K C name=true)
  (hf:PySem.W.findIn K (.ref C) name=some (some (.ref f))) (ht:PySem.W.isFn K (.ref f)=true) (hv:mA name=none) (h:Q (.ref f,[.ref x]) s) :
  wpAny (model prog w) A (getMethod (.ref x) name pl) Q E s:=by
 obtain ⟨od,J,hl⟩:=I.look;exact PySem.W.method_fn X J (PySem.W.plainGet_of hg).1 (PySem.W.plainGet_of hg).2 hf (beq_iff_eq.mp ht) (by show (PySem.W.lookIn name od).map (·.isSome)=some false;rw [hl,hv];rfl) h
theorem UK {ns:List Str} {Q:Unit→Shared→Prop} (X:K.In s.heap) (I:tL s.heap x dx C mA)
  (hs:PySem.W.findIn K (.ref C) "__setattr__"=some (some (.builtin "object.__setattr__"))) (hp:PySem.W.plainOver K C=true) (ht:PySem.W.takerIn K C name=some none) (hh:PySem.W.hasDictIn K C=true)
  (hw:PySem.Within mA ns) (hsz:ns.length ≤ sizeLine)
  (h:∀ h',tL h' x dx C (fun y=>if y=name then some v else mA y)→Heap.SameBut dx s.heap h'→Q () { s with heap:=h',toks:=s.toks + 2 }) :
  wpAny (model prog w) A (setAttr (.ref x) name v) Q E s:=by
 obtain ⟨od,J,hl⟩:=I.look;refine PySem.W.set_plain X J hs (PySem.W.osa_open (s:={ s with toks:=s.toks + 1 }) (r:=none) X J hp ht fun b=>?_);obtain ⟨cd,hc,hd'⟩:=PySem.W.any_some hh;have hx:s.heap.get? x=some ⟨.ref C,some dx,.plain,#[]⟩:=I.obj;refine wpAny_bind (wpAny_pure (wpAny_bind (wpAny_bind (wpAny_loadPart hx (wpAny_bind (PySem.W.Looks.here (s:={ s with toks:=s.toks + 1 }) (PySem.W.looks_clsIn X hc) ?_))))));rw [hd'];refine wpAny_pure (a:=some dx) (wpAny_bind (wpAny_pure (wpAny_bind ?_)));refine wpAny_nsSet1 (s:={ s with toks:=s.toks + 1 }) I.ns fun h' hn2 hs2=>?_
 obtain ⟨oD,esD,epD,hoD,hdD,hcD⟩:=hn2.count (PySem.Within.cons name v hw);refine wpAny_bind (wpAny_lookBehind hoD (by rw [hdD];exact pastItsLine_dict (Nat.le_trans hcD (by rw [List.length_cons];omega))) ?_);exact wpAny_pure (h _ ⟨(hs2.2 _ (Ne.symm I.ne)).trans I.obj,hn2,I.ne⟩ hs2)
theorem PH {R:Result→Shared→Prop} {vs:List Value} {kw:List (Str × Value)} (X:K.In s.heap) (hm:PySem.W.makesIn K C=true)
  (hi:PySem.W.findIn K (.ref C) "__init__"=some (some (.ref f))) (hf:PySem.W.typeIn K (.ref f)=some (.type "function"))
  (h:codeAny (model prog w) (A.under (.builtin "type.__call__" ⟨.ref C :: vs,kw⟩)) (.call (.ref f) ⟨.ref (s.heap.objs.size + 1) :: vs,kw⟩) (PySem.W.InitBack (s.heap.objs.size + 1) R)
   { s with heap:=(s.heap.push PySem.W.emptyDict).push (PySem.W.instObj C s.heap.objs.size) }) :
  codeAny (model prog w) A (.call (.ref C) ⟨vs,kw⟩) R s:=by
 obtain ⟨hh,g,d,t,os⟩:=s;exact PySem.W.make_core (PySem.W.makes_of X hm) (PySem.W.looks_findIn X hi) (fun self=>PySem.W.bind_fn X self hf) (.inl rfl) h
end
noncomputable def nj (f:Str) (v:V):List (Str × V)→List (Str × V)
 | []=>[(f,v)]
 | (g,x) :: r=>if g=f then (g,v) :: r else (g,x) :: nj f v r
theorem ur (f g:Str) (v:V):∀ fs:List (Str × V),(nj f v fs).lookup g=if g=f then some v else fs.lookup g
 | []=>by
  show List.lookup g [(f,v)]=_;by_cases h:g=f
  ·have hb:(g == f)=true:=beq_iff_eq.mpr h;simp only [List.lookup,hb,if_pos h]
  ·have hb:(g == f)=false:=beq_eq_false_iff_ne.mpr h;simp only [List.lookup,hb,if_neg h]
 | (k,x) :: r=>by
  have ih:=ur f g v r;rw [show nj f v ((k,x) :: r)=(if k=f then (k,v) :: r else (k,x) :: nj f v r) from rfl];by_cases hk:k=f
  ·rw [if_pos hk];by_cases h:g=k
   ·have hb:(g == k)=true:=beq_iff_eq.mpr h;simp only [List.lookup,hb,if_pos (h.trans hk)]
   ·have hb:(g == k)=false:=beq_eq_false_iff_ne.mpr h;simp only [List.lookup,hb,if_neg (fun e:g=f=>h (e.trans hk.symm))]
  ·rw [if_neg hk];by_cases h:g=k
   ·have hb:(g == k)=true:=beq_iff_eq.mpr h;simp only [List.lookup,hb,if_neg (fun e:g=f=>hk (h.symm.trans e))]
   ·have hb:(g == k)=false:=beq_eq_false_iff_ne.mpr h;simp only [List.lookup,hb];exact ih
theorem Bq (f:Str) (v:V):∀ fs:List (Str × V),f ∈ (nj f v fs).map (·.1)∧∀ g,g ∈ fs.map (·.1)→g ∈ (nj f v fs).map (·.1)
 | []=>⟨by simp [nj],fun g h=>by simp at h⟩
 | (k,x) :: r=>by
  obtain ⟨i1,i2⟩:=Bq f v r;rw [show nj f v ((k,x) :: r)=(if k=f then (k,v) :: r else (k,x) :: nj f v r) from rfl];by_cases hk:k=f
  ·rw [if_pos hk];subst hk;exact ⟨by simp,fun g h=>by simpa using h⟩
  ·rw [if_neg hk];refine ⟨?_,fun g h=>?_⟩
   ·rw [List.map_cons];exact List.mem_cons_of_mem _ i1
   ·rw [List.map_cons] at h ⊢;rcases List.mem_cons.mp h with e | e
    ·exact List.mem_cons.mpr (.inl e)
    ·exact List.mem_cons_of_mem _ (i2 g e)
theorem Bm (f:Str) (v:V):∀ fs:List (Str × V),(nj f v fs).length ≤ fs.length + 1
 | []=>by simp [nj]
 | (k,x) :: r=>by
  have ih:=Bm f v r;rw [show nj f v ((k,x) :: r)=(if k=f then (k,v) :: r else (k,x) :: nj f v r) from rfl];by_cases hk:k=f
  ·rw [if_pos hk,List.length_cons,List.length_cons];omega
  ·rw [if_neg hk,List.length_cons,List.length_cons];omega
theorem qu.some_of {v:V} {o:Option Value} (r:qu (some v) o):∃ u,o=some u∧yd v u:=by
 cases o with
 | none=>exact (show False from r).elim
 | some u=>exact ⟨u,rfl,r⟩
theorem qu.none_of {o:Option Value} (r:qu none o):o=none:=by
 cases o with
 | none=>rfl
 | some u=>exact (show False from r).elim
theorem cG {v:V} {u:Value} (r:yd v u):PySem.W.handedIn u=true:=by
 cases v with
 | non=>cases (show u=Value.none from r);rfl
 | bl b=>cases (show u=Value.bool b from r);rfl
 | int i=>obtain ⟨t,e⟩:=(show ∃ t,u=Value.int i t from r);cases e;rfl
 | str x=>obtain ⟨t,e⟩:=(show ∃ t,u=Value.str x t from r);cases e;rfl
 | byt b=>obtain ⟨t,e⟩:=(show ∃ t,u=Value.bytes b t from r);cases e;rfl
 | flt b=>obtain ⟨t,e⟩:=(show ∃ t,u=Value.float b t from r);cases e;rfl
 | ref a=>cases (show u=Value.ref a from r);rfl
 | ty n=>cases (show u=Value.type n from r);rfl
section
variable {P:Program} {w:World} {H H':Hp} {h h':Heap} {a C dx:Addr} {fs fs':List (Str × V)}
theorem Fv (hok:HOk P w H h) (e:H a=some (.ins C dx fs)):∃ mA,tL h a dx C mA∧(∀ f,qu (fs.lookup f) (mA f))∧PySem.Within mA (fs.map (·.1))∧fs.length ≤ 1000∧H dx=some (.own a):=by
 obtain ⟨d,z,ne,ob,mA,n,r,q⟩:=(show Bd P w H h a (.ins C dx fs) from hok a _ e);exact ⟨mA,⟨ob,n,ne⟩,r,q,z,d⟩
end
structure Cls (K:PySem.W.Frag) (C:Addr):Prop where
 pg:PySem.W.plainGet K C Str.empty=true
 hd:PySem.W.hasDictIn K C=true
 po:PySem.W.plainOver K C=true
 sa:PySem.W.findIn K (.ref C) "__setattr__"=some (some (.builtin "object.__setattr__"))
theorem Cls.get {K:PySem.W.Frag} {C:Addr} (c:Cls K C) (f:Str):PySem.W.plainGet K C f=true:=c.pg
noncomputable def kc (K:PySem.W.Frag) (C:Addr) (f:Str):Prop:=PySem.W.findIn K (.ref C) f=some none
theorem kc.taker {K:PySem.W.Frag} {C:Addr} {f:Str} (n:kc K C f):PySem.W.takerIn K C f=some none:=by
 unfold PySem.W.takerIn;rw [show PySem.W.findIn K (.ref C) f=some none from n];rfl
structure Con (K:PySem.W.Frag) (C:Addr) (f:Str) (v:V) (u:Value):Prop where
 at_:PySem.W.findIn K (.ref C) f=some (some u)
 rel:yd v u
 get:PySem.W.specialIn K u "__get__"=some none
 cp:PySem.W.copiedNames.contains f=false
structure Jv (K:PySem.W.Frag) (C:Addr) (m:Str) (f:Addr):Prop where
 at_:PySem.W.findIn K (.ref C) m=some (some (.ref f))
 fn:PySem.W.isFn K (.ref f)=true
 kp:PySem.W.keepIn K (.ref f)=true
section
variable {X:Cx} {pins:List (Addr × Obj)} {σ:St} {H:Hp} {s:Shared} {a C dx:Addr} {fs:List (Str × V)} {f:Str} {v:V} {A:Around} {E:Value→Shared→Prop}
theorem ut {b:Bool} {Q:Value→Shared→Prop} (I:Inv X pins σ H s) (e:H a=some (.ins C dx fs)) (c:Cls X.K C) (n:kc X.K C f) (l:fs.lookup f=some v)
  (h:∀ u s',Inv X pins σ H s'→yd v u→Q u s'):wpAny (model X.prog X.w) A (getAttr (.ref a) f b) Q E s:=by
 obtain ⟨mA,O,r,_,_,_⟩:=Fv I.hok e;obtain ⟨u,hu,ru⟩:=qu.some_of (v:=v) (o:=mA f) (by rw [← l];exact r f);exact IL I.kIn O (c.get f) c.hd n hu (cG ru) (h u _ (I.tok _) ru)
theorem Eo {m:Str} {g:Addr} {pl:Sem Bool} {Q:Value × List Value→Shared→Prop} (I:Inv X pins σ H s) (e:H a=some (.ins C dx fs)) (c:Cls X.K C) (k:Jv X.K C m g) (l:fs.lookup m=none)
  (h:Q (.ref g,[.ref a]) s):wpAny (model X.prog X.w) A (getMethod (.ref a) m pl) Q E s:=by
 obtain ⟨mA,O,r,_,_,_⟩:=Fv I.hok e;have hn:mA m=none:=qu.none_of (by rw [← l];exact r m);exact BH I.kIn O (c.get m) k.at_ k.fn hn h
theorem au {y:V} {u:Value} {Q:Unit→Shared→Prop} (I:Inv X pins σ H s) (e:H a=some (.ins C dx fs)) (c:Cls X.K C) (n:kc X.K C f) (hl:fs.length < 1000) (ry:yd y u)
  (h:∀ s',Inv X pins σ (upd H a (.ins C dx (nj f y fs))) s'→Q () s'):wpAny (model X.prog X.w) A (setAttr (.ref a) f u) Q E s:=by
 obtain ⟨mA,O,r,wi,_,ho⟩:=Fv I.hok e;have hz:(fs.map (·.1)).length ≤ sizeLine:=by rw [List.length_map,sizeLine_eq];omega
 refine UK I.kIn O c.sa c.po n.taker c.hd wi hz fun h' O' sb=>h _ ?_
 have hd:∃ o,h'.get? dx=some o:=let ⟨o,_,_,e',_⟩:=O'.ns;⟨o,e'⟩;refine I.write (x:=a) (e:=dx) (by rw [e];exact True.intro) (.inr ho) (fun b q hb z=>(sb.2 b hb).trans z) hd ?_;refine ⟨by rw [Eb O.ne];exact ho,?_,O.ne,O'.obj,_,O'.ns,fun g=>?_,fun g hg=>?_⟩
 ·have:=Bm f y fs;omega
 ·show qu ((nj f y fs).lookup g) (if g=f then some u else mA g);rw [ur];by_cases q:g=f
  ·rw [if_pos q,if_pos q];exact ry
  ·rw [if_neg q,if_neg q];exact r g
 ·by_cases q:g=f
  ·rw [q];exact (Bq f y fs).1
  ·refine (Bq f y fs).2 g (wi g fun z=>hg ?_);show (if g=f then some u else mA g)=none;rw [if_neg q];exact z
theorem Inv.made (I:Inv X pins σ H s):Inv X pins σ (upd (upd H s.heap.objs.size (.own (s.heap.objs.size + 1))) (s.heap.objs.size + 1) (.ins C s.heap.objs.size []))
  { s with heap:=(s.heap.push PySem.W.emptyDict).push (PySem.W.instObj C s.heap.objs.size) }:=by
 have e1:(s.heap.push PySem.W.emptyDict).get? s.heap.objs.size=some PySem.W.emptyDict:=Heap.get?_push_size s.heap rfl;have e2:((s.heap.push PySem.W.emptyDict).push (PySem.W.instObj C s.heap.objs.size)).get? (s.heap.objs.size + 1)=some (PySem.W.instObj C s.heap.objs.size):=by
  have:=Heap.get?_push_size (s.heap.push PySem.W.emptyDict) (o:=PySem.W.instObj C s.heap.objs.size) rfl;rwa [Heap.size_push] at this
 have e3:(s.heap.push PySem.W.emptyDict).Ns s.heap.objs.size (fun _=>none):=⟨PySem.W.emptyDict,#[],_,e1,rfl,(fun e he=>absurd he (by simp)),fun _=>rfl⟩;have I1:=I.laid (a:=s.heap.objs.size) (o:=.own (s.heap.objs.size + 1)) (h':=s.heap.push PySem.W.emptyDict) (t':=s.toks) (fun b u q=>Heap.get?_push_of_some _ q) (Nat.le_refl _) ⟨_,e1⟩;refine I1.laid (a:=s.heap.objs.size + 1) (o:=.ins C s.heap.objs.size []) (t':=s.toks) (fun b u q=>Heap.get?_push_of_some _ q) (Nat.le_of_eq (Heap.size_push _ _)) ?_;have ne:s.heap.objs.size ≠ s.heap.objs.size + 1:=Nat.ne_of_lt (Nat.lt_succ_self _);refine ⟨by rw [Eb ne,ib],Nat.zero_le _,ne,e2,fun _=>none,(Heap.Ns1.of_empty e3).at fun o q=>Heap.get?_push_of_some _ q,fun _=>True.intro,fun y hy=>absurd rfl hy⟩
theorem UL {prog:Program} {w:World} {env:Env} {e:Expr} {f:Str} {pos:Pos} {s:Shared} {Q:Value→Shared→Prop} (hb:attributeBase e f env (eval e env)=eval e env)
  (h:wpAny (model prog w) A (eval e env) (fun o s₁=>wpAny (model prog w) A (getAttr o f true) Q E s₁) E s):wpAny (model prog w) A (eval (.Attribute e f pos) env) Q E s:=
 Attribute_any_ h (by rw [arm_eval_Attribute,hb])
end
noncomputable def Wl (K:PySem.W.Frag) (H:Hp) (a:Addr) (f:Str) (v:V):Prop:=∃ C dx fs,H a=some (.ins C dx fs)∧Cls K C∧kc K C f∧fs.lookup f=some v
noncomputable def aQ (K:PySem.W.Frag) (ta:TE) (f:Str):TE:=fun σ H Q=>ta σ H fun x H1=>Jh x fun a=>∃ v,Wl K H1 a f v∧Q v H1
noncomputable def jQ (K:PySem.W.Frag) (ta tv:TE) (f:Str):TS:=fun D σ H=>tv σ H fun y H1=>ta σ H1 fun x H2=>Jh x fun a=>∃ C dx fs,H2 a=some (.ins C dx fs)∧Cls K C∧kc K C f∧fs.length < 1000 ∧
 D.nx σ (upd H2 a (.ins C dx (nj f y fs)))
noncomputable def dQ (X:Cx) (op:Operator) (rd:V→V→Hp→VK→Prop):Prop:=
 ∀ (pins:List (Addr × Obj)) (s:Shared) (σ:St) (H:Hp) (x y:V) (u v:Value) (Q:VK),Inv X pins σ H s→yd x u→yd y v→rd x y H Q→wpAny (model X.prog X.w) X.A (inplaceOp op u v) (EP X pins σ Q) X.xe s
noncomputable def pE (K:PySem.W.Frag) (ta tv:TE) (rd:V→V→Hp→VK→Prop) (f:Str):TS:=fun D σ H=>ta σ H fun x H1=>∃ a C dx fs v,x=.ref a∧H1 a=some (.ins C dx fs)∧Cls K C∧kc K C f∧fs.lookup f=some v ∧
 tv σ H1 fun y H2=>rd v y H2 fun z H3=>∃ dx' fs',H3 a=some (.ins C dx' fs')∧fs'.length < 1000∧D.nx σ (upd H3 a (.ins C dx' (nj f z fs')))
section
variable {X:Cx} {o e value:Expr} {f:Str} {pos pos' tpos:Pos} {ta tv:TE}
theorem uc (he:PE X e ta) (hb:attributeBase e f X.env (eval e X.env)=eval e X.env):PE X (.Attribute e f pos) (aQ X.K ta f):=by
 intro pins s σ H Q I h;refine UL hb (thn (he pins s σ H _ I h) fun u s1 hZ1=>?_);obtain ⟨x,H1,I1,rx,zq⟩:=hZ1;obtain ⟨a,ex,v,⟨C,dx,fs,ea,c,n,l⟩,q⟩:=Jh.out zq;subst ex;obtain rfl:u=Value.ref a:=rx;exact ut I1 ea c n l fun u' s2 I2 ru=>⟨v,H1,I2,ru,q⟩
theorem Sg (ha:PE X o ta) (hv:PE X value tv) (hs:swapsWith value (some (.Attribute o f pos')) pos.line X.env=pure false):PS X (.Assign [.Attribute o f pos'] value pos) (jQ X.K ta tv f):=by
 intro pins s σ H D I h;refine plainObj_wpAny_Assign_Attribute (thn (hv pins s σ H _ I h) fun u s1 ⟨y,H1,I1,ry,q⟩=>thn (ha pins s1 σ H1 _ I1 q) fun ov s2 hZ1=>?_) hs;obtain ⟨x,H2,I2,rx,zq⟩:=hZ1;obtain ⟨a,ex,C,dx,fs,ea,c,n,l,q2⟩:=Jh.out zq;subst ex;obtain rfl:ov=Value.ref a:=rx;exact au I2 ea c n l ry fun s3 I3=>⟨σ,_,I3,q2⟩
theorem wF {op:Operator} {rd:V→V→Hp→VK→Prop} (ha:PE X o ta) (hv:PE X value tv) (hop:dQ X op rd):PS X (.AugAssign (.Attribute o f tpos) op value pos) (pE X.K ta tv rd f):=by
 intro pins s σ H D I h;refine wpAny_AugAssign_AttributeAny (thn (ha pins s σ H _ I h) fun ov s1 hZ1=>?_);obtain ⟨x,H1,I1,rx,a,C,dx,fs,v,ex,ea,c,n,l,q⟩:=hZ1;subst ex;obtain rfl:ov=Value.ref a:=rx;refine ut I1 ea c n l fun u s2 I2 ru=>thn (hv pins s2 σ H1 _ I2 q) fun w3 s3 ⟨y,H2,I3,ry,q3⟩=>thn (hop pins s3 σ H2 v y u w3 _ I3 ru ry q3) fun w4 s4 hZ1=>?_
 obtain ⟨z,H3,I4,rz,dx',fs',ea',l',q4⟩:=hZ1;exact au I4 ea' c n l' rz fun s5 I5=>⟨σ,_,I5,q4⟩
noncomputable def WP:V→V→Hp→VK→Prop:=fun x y H Q=>∃ i j,x=.int i∧y=.int j∧Q (.int (i + j)) H
theorem JN:dQ X .Add WP:=by
 rintro pins s σ H x y u v Q I rx ry ⟨i,j,rfl,rfl,q⟩;obtain ⟨t,rfl⟩:=(show ∃ t,u=Value.int i t from rx);obtain ⟨t',rfl⟩:=(show ∃ t',v=Value.int j t' from ry);exact PyProof.Rows.iadd_int ⟨.int (i + j),H,I.tok _,⟨_,rfl⟩,q⟩
end
section
variable {X:Cx} {pins:List (Addr × Obj)} {σ:St} {H:Hp} {s:Shared} {A:Around} {E:Value→Shared→Prop} {Q:Value→Shared→Prop} {c:Value} {b:Bool}
inductive Hz (K:PySem.W.Frag) (H:Hp):V→Value→Prop where
 | non:Hz K H .non (.type "NoneType")
 | bl (x:Bool):Hz K H (.bl x) (.type "bool")
 | int (i:Int):Hz K H (.int i) (.type "int")
 | str (x:Str):Hz K H (.str x) (.type "str")
 | flt (x:UInt64):Hz K H (.flt x) (.type "float")
 | lst {a:Addr} {xs:List V} (e:H a=some (.lst xs)):Hz K H (.ref a) (.type "list")
 | frz {a:Addr} {o:Obj} {xs:List V} (e:H a=some (.frz o (.lst xs))):Hz K H (.ref a) (.type "list")
 | tup {a:Addr} {xs:List V} (e:H a=some (.tup xs)):Hz K H (.ref a) (.type "tuple")
 | dK {a:Addr} {kvs:List (Key × V)} (e:H a=some (.dK kvs)):Hz K H (.ref a) (.type "dict")
 | dT {a:Addr} {kvs:List (List Key × V)} (e:H a=some (.dT kvs)):Hz K H (.ref a) (.type "dict")
 | ins {a C dx:Addr} {fs:List (Str × V)} (e:H a=some (.ins C dx fs)) (cl:Cls K C) (ha:PySem.W.findIn K (.ref C) "__class__"=some (some (.builtin "object.__class__")))
   (hn:PySem.W.specialIn K (.builtin "object.__class__") "__get__"=some (some (.builtin "getset_descriptor.__get__"))) (htk:PySem.W.takesIn K (.builtin "object.__class__")=some true)
   (hm:PySem.W.mroIn K C (.type "object")=some true):Hz K H (.ref a) (.ref C)
theorem VD {x:V} {u t:Value} (I:Inv X pins σ H s) (rx:yd x u) (ty:Hz X.K H x t) (e:PySem.W.kitOne X.K t c=some b) (h:∀ tk,Q (.bool b) { s with toks:=tk }) :
  wpAny (model X.prog X.w) A (call (.builtin "isinstance") [u,c]) Q E s:=by
 cases ty with
 | non=>cases (show u=Value.none from rx);exact PySem.W.kia_one PySem.W.kitx_none I.kIn True.intro e (fun z=>nomatch z) h
 | bl y=>cases (show u=Value.bool y from rx);exact PySem.W.kia_one PySem.W.kitx_bool I.kIn True.intro e (fun z=>nomatch z) h
 | int i=>obtain ⟨t,q⟩:=(show ∃ t,u=Value.int i t from rx);cases q;exact PySem.W.kia_one PySem.W.kitx_int I.kIn True.intro e (fun z=>nomatch z) h
 | str y=>obtain ⟨t,q⟩:=(show ∃ t,u=Value.str y t from rx);cases q;exact PySem.W.kia_one PySem.W.kitx_str I.kIn True.intro e (fun z=>nomatch z) h
 | flt y=>obtain ⟨t,q⟩:=(show ∃ t,u=Value.float y t from rx);cases q;exact PySem.W.kia_one PySem.W.kitx_float I.kIn True.intro e (fun z=>nomatch z) h
 | @lst a xs ea=>
  cases (show u=Value.ref a from rx);obtain ⟨_,_,n,_,h1⟩:=(show Bd X.prog X.w H s.heap a (.lst xs) from I.hok a _ ea);exact PySem.W.kia_one PySem.W.kitx_list I.kIn ⟨_,h1,rfl⟩ e (fun z=>nomatch z) h
 | @frz a ob xs ea=>
  cases (show u=Value.ref a from rx);obtain ⟨_,_,_,n,_,h1⟩:=(show Bd X.prog X.w H s.heap a (.frz ob (.lst xs)) from I.hok a _ ea);exact PySem.W.kia_one PySem.W.kitx_list I.kIn ⟨_,h1,rfl⟩ e (fun z=>nomatch z) h
 | @tup a xs ea=>
  cases (show u=Value.ref a from rx);obtain ⟨_,_,_,p⟩:=(show Bd X.prog X.w H s.heap a (.tup xs) from I.hok a _ ea);obtain ⟨o,h1,h2,_⟩:=p;exact PySem.W.kia_one PySem.W.kitx_tuple I.kIn ⟨o,h1,h2⟩ e (fun z=>nomatch z) h
 | @dK a kvs ea=>
  cases (show u=Value.ref a from rx);obtain ⟨_,_,vs,_,p⟩:=(show Bd X.prog X.w H s.heap a (.dK kvs) from I.hok a _ ea);obtain ⟨o,es,ep,h1,h2,_⟩:=p;exact PySem.W.kia_one PySem.W.kitx_dict I.kIn ⟨o,h1,h2.1⟩ e (fun z=>nomatch z) h
 | @dT a kvs ea=>
  cases (show u=Value.ref a from rx);obtain ⟨_,_,xs,_,o,es,ep,h1,h2,_⟩:=(show Bd X.prog X.w H s.heap a (.dT kvs) from I.hok a _ ea);exact PySem.W.kia_one PySem.W.kitx_dict I.kIn ⟨o,h1,h2.1⟩ e (fun z=>nomatch z) h
 | @ins a C dx fs ea cl ha hn htk hm=>
  cases (show u=Value.ref a from rx);obtain ⟨mA,O,_⟩:=Fv I.hok ea;obtain ⟨od,J,_⟩:=O.look;exact PySem.W.kia_one (PySem.W.kitx_own (cl.get _) cl.hd ha hn htk hm) I.kIn J e (fun z=>nomatch z) h
end
end L2
namespace L2
open PySem PySem.Spec PyProof.Rows
structure pk (k:Nat) (A:Around):Prop where
 hd:A.handled=none
 dp:A.depth + 3 * k + 5 < recursionLimit
 un:A.units + 16 * k + 200 < cLine
theorem pk.mono {j k:Nat} {A:Around} (r:pk k A) (h:j ≤ k):pk j A:=⟨r.hd,by have:=r.dp;omega,by have:=r.un;omega⟩
theorem pk.deeper {k:Nat} {A:Around} (r:pk (k + 1) A) (env:Env):pk k (A.deeper env):=
 ⟨r.hd,by have:=r.dp;show A.depth + 1 + 3 * k + 5 < _;omega,by have:=r.un;show A.units + 3 + 16 * k + 200 < _;omega⟩
theorem pk.in1 {k:Nat} {A:Around} (r:pk (k + 1) A):pk k A.in1:=
 ⟨r.hd,by have:=r.dp;show A.depth + 3 * k + 5 < _;omega,by have:=r.un;show A.units + 1 + 16 * k + 200 < _;omega⟩
theorem oC {A:Around} {C:Addr} {us:List Value} {kw:List (Str × Value)}:(A.under (.builtin "type.__call__" ⟨.ref C :: us,kw⟩)).depth=A.depth + 1:=by
 first | rfl | simp [Around.under,Code.weight,Code.isCreation,Code.isGuard,Code.isCaller,Code.frames,Code.isFrame,guardIds]
theorem iC {A:Around} {C:Addr} {us:List Value} {kw:List (Str × Value)}:(A.under (.builtin "type.__call__" ⟨.ref C :: us,kw⟩)).units=A.units + 1:=by
 first | rfl | simp [Around.under,Code.cUnits,Code.frames,Code.isFrame]
theorem pk.make {k:Nat} {A:Around} (r:pk (k + 1) A) (C:Addr) (us:List Value) (kw:List (Str × Value)):pk k (A.under (.builtin "type.__call__" ⟨.ref C :: us,kw⟩)):=
 ⟨r.hd,by have:=r.dp;rw [oC];omega,by have:=r.un;rw [iC];omega⟩
theorem pk.depth {k:Nat} {A:Around} (r:pk k A):A.depth < recursionLimit:=by have:=r.dp;omega
theorem pk.units {k:Nat} {A:Around} (r:pk k A):A.units + 64 < cLine:=by have:=r.un;omega
noncomputable def yO:TA:=fun _ H Q=>Q [] H
noncomputable def xM (ta:TE) (tr:TA):TA:=fun σ H Q=>ta σ H fun x H1=>tr σ H1 fun xs H2=>Q (x :: xs) H2
section
variable {X:Cx} {e:Expr} {es:List Expr} {te:TE} {t:TA} {pos:Pos}
theorem jb:PA X [] yO:=fun _ _ _ _ H Q I h=>Calls.spliced_nil ⟨[],H,I,.nil,h⟩
theorem ab (ha:PE X e te) (hr:PA X es t) (hs:starEach (e :: es) X.env=(false,eval e X.env) :: starEach es X.env:=by rfl):PA X (e :: es) (xM te t):=by
 intro pos pins s σ H Q I h;rw [hs];show wpAny _ _ (spliced ((false,eval e X.env) :: backTo pos (starEach es X.env))) _ _ s;refine Calls.spliced_cons (thn (ha pins s σ H _ I h) fun u s1 hZ1=>?_);obtain ⟨x,H1,I1,r1,q1⟩:=hZ1;exact thn (hr pos pins s1 σ H1 _ I1 q1) fun us s2 ⟨xs,H2,I2,r2,q2⟩=>⟨x :: xs,H2,I2,.cons r1 r2,q2⟩
noncomputable def kQ (t:TA):TE:=fun σ H Q=>t σ H fun xs H1=>xs.length ≤ sizeLine∧∀ p,H1 p=none→Q (.ref p) (upd H1 p (.tup xs))
noncomputable def qQ (t:TA):TE:=fun σ H Q=>t σ H fun xs H1=>xs.length ≤ sizeLine∧∀ p,H1 p=none→Q (.ref p) (upd H1 p (.lst xs))
theorem wc {x1} (h:PA X es t):PE X (.Tuple es x1 pos) (kQ t):=by
 intro pins s σ H Q I hq;refine wpAny_Tuple_spliced (thn (h pos pins s σ H _ I hq) fun us s1 ⟨xs,H1,I1,r,z,q⟩=>⟨by rw [← r.length];exact z,?_⟩);have hf:H1 s1.heap.objs.size=none:=I1.hok.fresh (Nat.le_refl _);refine ⟨.ref s1.heap.objs.size,upd H1 s1.heap.objs.size (.tup xs),I1.laid (t':=s1.toks) (fun b u e=>Heap.get?_push_of_some _ e) (Nat.le_refl _) ?_,rfl,q _ hf⟩;exact ⟨⟨z,_,Heap.get?_push_size _ rfl,rfl⟩,us,r,⟨_,Heap.get?_push_size _ rfl,rfl,_,rfl⟩⟩
theorem Pf (h:PA X es t):PE X (.List es pos) (qQ t):=by
 intro pins s σ H Q I hq;refine wpAny_List_spliced (thn (h pos pins s σ H _ I hq) fun us s1 ⟨xs,H1,I1,r,z,q⟩=>⟨by rw [← r.length];exact z,?_⟩);have hf:H1 s1.heap.objs.size=none:=I1.hok.fresh (Nat.le_refl _);refine ⟨.ref s1.heap.objs.size,upd H1 s1.heap.objs.size (.lst xs),I1.laid (t':=s1.toks) (fun b u e=>Heap.get?_push_of_some _ e) (Nat.le_refl _) ?_,rfl,q _ hf⟩;exact ⟨z,us,0,r,Heap.get?_push_size _ rfl⟩
end
noncomputable abbrev Sp:=List V→Hp→VK→XK→Prop
noncomputable abbrev CXT:=List Env→Hp→Shared→XK→Value→Shared→Prop
structure KG (P:Program) (w:World) (K:PySem.W.Frag) (mg:Str→Option Value) (base:Heap) (A:Around) (outer:List Env) (s:Shared) (H:Hp):Prop where
 frames:A.frames=some outer
 mod:Mod K mg base
 bs:∀ b o,base.get? b=some o→s.heap.get? b=some o∧H b=none
 bsz:base.objs.size ≤ s.heap.objs.size
 funs:s.heap.FunFrames base outer
 frf:∀ b ∈ frs outer,H b=none
 hok:HOk P w H s.heap
 bare:AllBare s.gens
noncomputable def CE (outer:List Env) (P:Program) (w:World) (H:Hp) (s:Shared) (Q:VK) (u:Value) (s':Shared):Prop:=
 ∃ v H',s'.os=s.os∧AllBare s'.gens∧Un (frs outer) [] H H' s.heap s'.heap∧HOk P w H' s'.heap∧yd v u∧Q v H'
noncomputable def CR (CX:CXT) (outer:List Env) (P:Program) (w:World) (H:Hp) (s:Shared) (Q:VK) (E:XK) (r:Result) (s':Shared):Prop:=
 match r with
 | .ok (.ret u)=>CE outer P w H s Q u s'
 | .ok _=>False
 | .error e=>CX outer H s E e s'
structure Ub (P:Program) (w:World) (K:PySem.W.Frag) (mg:Str→Option Value) (base:Heap) (CX:CXT) (k:Nat) (f:Addr) (fd:FuncData) (ps:List Str) (sp:Sp):Prop where
 len:∀ vs H Q E,sp vs H Q E→vs.length=ps.length
 run:∀ (A:Around) (outer:List Env) (s:Shared) (H:Hp) (args:Args) (us:List Value) (vs:List V) (Q:VK) (E:XK),pk k A→KG P w K mg base A outer s H→BindsTo s fd args (ps.zip us)→zd vs us→sp vs H Q E →
  codeAny (model P w) A (.call (.ref f) args) (CR CX outer P w H s Q E) s
theorem Ub.mono {P:Program} {w:World} {K:PySem.W.Frag} {mg:Str→Option Value} {base:Heap} {CX:CXT} {j k:Nat} {f:Addr} {fd:FuncData} {ps:List Str} {sp:Sp} (F:Ub P w K mg base CX j f fd ps sp) (h:j ≤ k) :
  Ub P w K mg base CX k f fd ps sp:=⟨F.len,fun A outer s H args us vs Q E hr=>F.run A outer s H args us vs Q E (hr.mono h)⟩
theorem Ub.imp {P:Program} {w:World} {K:PySem.W.Frag} {mg:Str→Option Value} {base:Heap} {CX:CXT} {k:Nat} {f:Addr} {fd:FuncData} {ps:List Str} {sp sp':Sp} (F:Ub P w K mg base CX k f fd ps sp)
  (h:∀ vs H Q E,sp' vs H Q E→sp vs H Q E):Ub P w K mg base CX k f fd ps sp':=
 ⟨fun vs H Q E q=>F.len vs H Q E (h _ _ _ _ q),fun A outer s H args us vs Q E hr he hb hv hs=>F.run A outer s H args us vs Q E hr he hb hv (h _ _ _ _ hs)⟩
theorem KG.make {P:Program} {w:World} {K:PySem.W.Frag} {mg:Str→Option Value} {base:Heap} {A:Around} {outer:List Env} {s:Shared} {H:Hp} (e:KG P w K mg base A outer s H) (C:Addr) (us:List Value) (kw:List (Str × Value)) :
  KG P w K mg base (A.under (.builtin "type.__call__" ⟨.ref C :: us,kw⟩)) outer s H:=⟨by first | exact e.frames | (simpa [Around.under,Code.envs,Code.isFrame,pushEnvs] using e.frames),e.mod,e.bs,e.bsz,e.funs,e.frf,e.hok,e.bare⟩
theorem KG.in1 {P:Program} {w:World} {K:PySem.W.Frag} {mg:Str→Option Value} {base:Heap} {A:Around} {outer:List Env} {s:Shared} {H:Hp} (e:KG P w K mg base A outer s H) :
  KG P w K mg base A.in1 outer s H:=⟨e.frames,e.mod,e.bs,e.bsz,e.funs,e.frf,e.hok,e.bare⟩
section
variable {X:Cx} {pins:List (Addr × Obj)} {σ:St} {H:Hp} {s s':Shared}
theorem Inv.env0 (I:Inv X pins σ H s):KG X.prog X.w X.K X.mg X.base X.A X.stack s H:=
 ⟨I.ok.frames,I.ok.mod,I.bs,Nat.le_trans I.ok.bsz I.sz,I.stack,I.stkFree,I.hok,I.bare⟩
theorem Inv.after {Q:VK} {u:Value} (I:Inv X pins σ H s) (h:CE X.stack X.prog X.w H s Q u s'):EP X pins σ Q u s':=by
 obtain ⟨v,H',os,bare,un,hok,r,q⟩:=h;obtain ⟨hh,g,d,t,os'⟩:=s';obtain rfl:os'=s.os:=os;exact ⟨v,H',I.call (h':=hh) (g':=g) (d':=d) (t':=t) (ch:=[]) un hok bare (fun b z=>absurd z (by simp)),r,q⟩
end
noncomputable def zI (sp:Sp) (dvs:List V) (E:XK) (t:TA):TE:=fun σ H Q=>t σ H fun vs H1=>sp (vs ++ dvs) H1 Q E
noncomputable def CL (C:Addr) (m:Str) (sp:Sp) (dvs:List V) (E:XK) (ta:TE) (t:TA):TE:=fun σ H Q=>ta σ H fun x H1=>Jh x fun a=>∃ dx fs,H1 a=some (.ins C dx fs)∧fs.lookup m=none ∧
 t σ H1 fun vs H2=>sp (x :: (vs ++ dvs)) H2 Q E
noncomputable def jN (C:Addr) (sp:Sp) (dvs:List V) (E:XK) (t:TA):TE:=fun σ H Q=>t σ H fun vs H1=>∀ x dx,H1 x=none→H1 dx=none→dx ≠ x →
 sp (.ref x :: (vs ++ dvs)) (upd (upd H1 dx (.own x)) x (.ins C dx [])) (fun v H2=>v=.non∧Q (.ref x) H2) E
noncomputable def gc (K:PySem.W.Frag) (fd:FuncData) (ps:List Str) (ds:List Value):Prop:=
 ∀ (s:Shared) (us:List Value),K.In s.heap→(us ++ ds).length=ps.length→BindsTo s fd ⟨us,[]⟩ (ps.zip (us ++ ds))
theorem gc.all {K:PySem.W.Frag} {fd:FuncData} {ps:List Str} (h:∀ us:List Value,us.length=ps.length→bindArgs fd ⟨us,[]⟩=pure (ps.zip us)):gc K fd ps []:=fun s us _ hl=>by
 rw [List.append_nil] at hl ⊢;exact .of_eq (h us hl)
noncomputable def jn (CX:CXT) (X:Cx) (E:XK):Prop:=∀ (pins:List (Addr × Obj)) (σ:St) (H:Hp) (s:Shared) (e:Value) (s':Shared),Inv X pins σ H s→CX X.stack H s E e s'→X.xe e s'
section
variable {X:Cx} {CX:CXT} {k:Nat} {f C:Addr} {fd:FuncData} {ps:List Str} {sp:Sp} {dvs:List V} {ds:List Value} {E:XK} {x m:Str} {p pos apos:Pos} {e o:Expr} {es:List Expr} {ta:TE} {t:TA}
theorem sw {pins:List (Addr × Obj)} {σ:St} {H:Hp} {s:Shared} {Q:VK} {us:List Value} {vs:List V} (F:Ub X.prog X.w X.K X.mg X.base CX k f fd ps sp) (hr:pk k X.A) (hb:gc X.K fd ps ds) (hd:zd dvs ds) (hx:jn CX X E)
  (I:Inv X pins σ H s) (r:zd vs us) (h:sp (vs ++ dvs) H Q E):wpAny (model X.prog X.w) X.A (call (.ref f) us) (EP X pins σ Q) X.xe s:=by
 have r2:zd (vs ++ dvs) (us ++ ds):=r.append hd;have hl:(us ++ ds).length=ps.length:=by rw [← r2.length];exact F.len _ _ _ _ h
 refine wpAny_call (codeAny_mono (F.run X.A X.stack s H ⟨us,[]⟩ (us ++ ds) (vs ++ dvs) Q E hr I.env0 (hb s us I.kIn hl) r2 h) fun r s' hq=>?_);cases r with
 | error e=>exact hx pins σ H s e s' I hq
 | ok fl=>
  cases fl with
  | ret u=>exact I.after hq
  | next=>exact False.elim hq
  | brk=>exact False.elim hq
  | cont=>exact False.elim hq
theorem wL (F:Ub X.prog X.w X.K X.mg X.base CX k f fd ps sp) (hr:pk k X.A) (hg:Gl X x) (hm:X.mg x=some (.ref f)) (hk:PySem.W.keepIn X.K (.ref f)=true) (hb:gc X.K fd ps ds) (hd:zd dvs ds) (hx:jn CX X E)
  (ha:PA X (e :: es) t) (hdb:(x == ("__debug__" : Str))=false:=by decide) (he:starEach (e :: es) X.env=(false,eval e X.env) :: starEach es X.env:=by rfl) (hpl:(backTo pos (starEach es X.env)).any (·.1)=false:=by rfl) :
  PE X (.Call (.Name x p) (e :: es) [] pos) (zI sp dvs E t):=by
 intro pins s σ H Q I h;refine wpAny_Call_Name_kw (Su I hg hm ?_ hdb);refine PySem.W.callWith_K (h₀:=X.base) I.ok.mod.kin hk (thn (ha pos pins s σ H _ I h) fun us s1 ⟨vs,H1,I1,r,q⟩=>⟨I1.kIn,?_⟩) he hpl;exact sw F hr hb hd hx I1 r q
theorem He {pl:Sem Bool} (he:PE X o ta) (c:Cls X.K C) (hm:Jv X.K C m f) (F:Ub X.prog X.w X.K X.mg X.base CX k f fd ps sp) (hr:pk k X.A) (hb:gc X.K fd ps ds) (hd:zd dvs ds) (hx:jn CX X E) (ha:PA X (e :: es) t)
  (hst:starEach (e :: es) X.env=(false,eval e X.env) :: starEach es X.env:=by rfl) (hpl:(backTo pos (starEach es X.env)).any (·.1)=false:=by rfl)
  (ht:eval (.Call (.Attribute o m apos) (e :: es) [] pos) X.env=(do
   let ov ← eval o X.env
   standAt apos.atName
   let (f,first) ← holding [ov] (getMethod ov m pl)
   callWith pos f first (backTo pos (starEach (e :: es) X.env)) (backToKw pos (keywordEach [] X.env))):=by rfl) :
  PE X (.Call (.Attribute o m apos) (e :: es) [] pos) (CL C m sp dvs E ta t):=by
 intro pins s σ H Q I h;refine PySem.W.methodCall_KW (pl:=pl) (thn (he pins s σ H _ I h) fun u s1 hZ1=>?_) ht;obtain ⟨x,H1,I1,rx,zq⟩:=hZ1;obtain ⟨a,ex,dx,fs,ea,l,q⟩:=Jh.out zq;subst ex;obtain rfl:u=Value.ref a:=rx;refine Eo I1 ea c hm l ?_;refine PySem.W.callWith_K (first:=[.ref a]) (h₀:=X.base) I.ok.mod.kin hm.kp (thn (ha pos pins s1 σ H1 _ I1 q) fun us s2 ⟨vs,H2,I2,r,q2⟩=>⟨I2.kIn,?_⟩) hst hpl;exact sw (us:=.ref a :: us) (vs:=.ref a :: vs) F hr hb hd hx I2 (.cons rfl r) q2
theorem sj {pl:Sem Bool} (he:PE X o ta) (c:Cls X.K C) (hm:Jv X.K C m f) (F:Ub X.prog X.w X.K X.mg X.base CX k f fd ps sp) (hr:pk k X.A) (hb:gc X.K fd ps ds) (hd:zd dvs ds) (hx:jn CX X E)
  (ht:eval (.Call (.Attribute o m apos) [] [] pos) X.env=(do
   let ov ← eval o X.env
   standAt apos.atName
   let (f,first) ← holding [ov] (getMethod ov m pl)
   callWith pos f first (backTo pos (starEach [] X.env)) (backToKw pos (keywordEach [] X.env))):=by rfl) :
  PE X (.Call (.Attribute o m apos) [] [] pos) (CL C m sp dvs E ta yO):=by
 intro pins s σ H Q I h;refine PySem.W.methodCall_KW (pl:=pl) (thn (he pins s σ H _ I h) fun u s1 hZ1=>?_) ht;obtain ⟨x,H1,I1,rx,zq⟩:=hZ1;obtain ⟨a,ex,dx,fs,ea,l,q⟩:=Jh.out zq;subst ex;obtain rfl:u=Value.ref a:=rx;refine Eo I1 ea c hm l ?_;exact PySem.W.callWith_K0 (first:=[.ref a]) I1.kIn hm.kp (sw (us:=[.ref a]) (vs:=[.ref a]) F hr hb hd hx I1 (.cons rfl .nil) q)
structure Mk (K:PySem.W.Frag) (C f:Addr):Prop where
 makes:PySem.W.makesIn K C=true
 init:PySem.W.findIn K (.ref C) "__init__"=some (some (.ref f))
 fn:PySem.W.isFn K (.ref f)=true
 kp:PySem.W.keepIn K (.ref C)=true
theorem WH {pins:List (Addr × Obj)} {σ:St} {H:Hp} {s:Shared} {Q:VK} {us:List Value} {vs:List V} (M:Mk X.K C f) (F:Ub X.prog X.w X.K X.mg X.base CX k f fd ps sp) (hr:pk (k + 1) X.A) (hb:gc X.K fd ps ds) (hd:zd dvs ds)
  (hx:jn CX X E) (I:Inv X pins σ H s) (r:zd vs us)
  (h:∀ x dx,H x=none→H dx=none→dx ≠ x→sp (.ref x :: (vs ++ dvs)) (upd (upd H dx (.own x)) x (.ins C dx [])) (fun v H2=>v=.non∧Q (.ref x) H2) E) :
  wpAny (model X.prog X.w) X.A (call (.ref C) us) (EP X pins σ Q) X.xe s:=by
 have hq:=h (s.heap.objs.size + 1) s.heap.objs.size (I.hok.fresh (Nat.le_succ _)) (I.hok.fresh (Nat.le_refl _)) (Nat.ne_of_lt (Nat.lt_succ_self _));have I2:=Inv.made (C:=C) I;have r2:zd (V.ref (s.heap.objs.size + 1) :: (vs ++ dvs)) (Value.ref (s.heap.objs.size + 1) :: (us ++ ds)):=.cons rfl (r.append hd);have hl:(Value.ref (s.heap.objs.size + 1) :: us ++ ds).length=ps.length:=by
  have e:=r2.length;rw [F.len _ _ _ _ hq] at e;exact e.symm
 refine wpAny_call (PH (f:=f) I.kIn M.makes M.init (beq_iff_eq.mp M.fn) (codeAny_mono (F.run _ X.stack _ _ ⟨Value.ref (s.heap.objs.size + 1) :: us,[]⟩ (Value.ref (s.heap.objs.size + 1) :: (us ++ ds)) _ _ E (hr.make C us [])
  (I2.env0.make C us []) (hb _ (Value.ref (s.heap.objs.size + 1) :: us) I2.kIn hl) r2 hq) fun r s' hq'=>?_))
 cases r with
 | error e=>exact hx pins σ _ _ e s' I2 hq'
 | ok fl=>
  cases fl with
  | ret u=>
   obtain ⟨v,H',I3,rv,ev,q3⟩:=I2.after hq';subst ev;exact ⟨rv,⟨V.ref (s.heap.objs.size + 1),H',I3,rfl,q3⟩⟩
  | next=>exact False.elim hq'
  | brk=>exact False.elim hq'
  | cont=>exact False.elim hq'
theorem xm (M:Mk X.K C f) (F:Ub X.prog X.w X.K X.mg X.base CX k f fd ps sp) (hr:pk (k + 1) X.A) (hg:Gl X x) (hm:X.mg x=some (.ref C)) (hb:gc X.K fd ps ds) (hd:zd dvs ds) (hx:jn CX X E)
  (ha:PA X (e :: es) t) (hdb:(x == ("__debug__" : Str))=false:=by decide) (he:starEach (e :: es) X.env=(false,eval e X.env) :: starEach es X.env:=by rfl) (hpl:(backTo pos (starEach es X.env)).any (·.1)=false:=by rfl) :
  PE X (.Call (.Name x p) (e :: es) [] pos) (jN C sp dvs E t):=by
 intro pins s σ H Q I h;refine wpAny_Call_Name_kw (Su I hg hm ?_ hdb);refine PySem.W.callWith_K (h₀:=X.base) I.ok.mod.kin M.kp (thn (ha pos pins s σ H _ I h) fun us s1 ⟨vs,H1,I1,r,q⟩=>⟨I1.kIn,?_⟩) he hpl;exact WH M F hr hb hd hx I1 r q
end
section
variable {X:Cx} {CX:CXT} {k:Nat} {f C:Addr} {fd:FuncData} {ps ks:List Str} {sp:Sp} {E:XK} {x m:Str} {p pos apos kpos:Pos} {e o:Expr} {es:List Expr} {kws:List Keyword} {te ta:TE} {t tk:TA} {nm:Option Str}
structure VP (K:PySem.W.Frag) (fd:FuncData) (ps ks:List Str) (g:List Value→List Value→List Value) (gV:List V→List V→List V):Prop where
 to:∀ (s:Shared) (us ws:List Value),K.In s.heap→(g us ws).length=ps.length→BindsTo s fd ⟨us,ks.zip ws⟩ (ps.zip (g us ws))
 rel:∀ {vs:List V} {us:List Value} {zs:List V} {ws:List Value},zd vs us→zd zs ws→zd (gV vs zs) (g us ws)
variable {g:List Value→List Value→List Value} {gV:List V→List V→List V}
end
structure Gb (N P:List Str) (sc:Scope):Prop where
 kind:sc.kind=.function
 co:sc.isCoroutine=false
 gen:sc.isGenerator=false
 nd:N.Nodup
 pre:N.take P.length=P
 par:∀ x ∈ P,sc.names.lookup x=some .local∨sc.names.lookup x=some .cell
 nofree:∀ y ∈ sc.names,y.2 ≠ .free
theorem Tw {kindOf:Str→Option NameKind} {x:Str}:∀ {binds:List (Str × Value)} {m:Str→Option Value},(∀ v,(x,v) ∉ binds)→bindL kindOf binds m x=m x
 | [],_,_=>rfl
 | (n,v) :: r,m,h=>by
  unfold bindL;rw [Tw fun w hw=>h w (List.mem_cons_of_mem _ hw)];split
  ·have:x ≠ n:=by rintro rfl;exact h v List.mem_cons_self
   simp [this]
  ·rfl
theorem Nx {kindOf:Str→Option NameKind} {x:Str}:∀ {binds:List (Str × Value)} {m:Str→Option Value},(∀ v,(x,v) ∉ binds)→bindC kindOf binds m x=m x
 | [],_,_=>rfl
 | (n,v) :: r,m,h=>by
  unfold bindC;rw [Nx fun w hw=>h w (List.mem_cons_of_mem _ hw)];split
  ·rfl
  ·have:x ≠ n:=by rintro rfl;exact h v List.mem_cons_self
   simp [this]
theorem Yw {kindOf:Str→Option NameKind} {x:Str} {v:Value}:∀ {P:List Str} {vs:List Value} {i:Nat} {m:Str→Option Value},P.Nodup→P[i]? = some x→vs[i]? = some v→kindOf x=some .local →
  bindL kindOf (P.zip vs) m x=some v
 | [],_,_,_,_,h,_,_=>by simp at h
 | _ :: _,[],_,_,_,_,h,_=>by simp at h
 | p :: P,w :: vs,0,m,nd,h1,h2,hk=>by
  simp at h1 h2;subst h1;subst h2;show bindL kindOf ((p,w) :: P.zip vs) m p=_;unfold bindL;rw [Tw fun v hv=>(List.nodup_cons.mp nd).1 (List.of_mem_zip hv).1,if_pos hk];simp
 | p :: P,w :: vs,i + 1,m,nd,h1,h2,hk=>by
  show bindL kindOf ((p,w) :: P.zip vs) m x=_;unfold bindL;exact Yw (i:=i) (List.nodup_cons.mp nd).2 (by simpa using h1) (by simpa using h2) hk
theorem Uw {kindOf:Str→Option NameKind} {x:Str} {v:Value}:∀ {P:List Str} {vs:List Value} {i:Nat} {m:Str→Option Value},P.Nodup→P[i]? = some x→vs[i]? = some v→kindOf x ≠ some .local →
  bindC kindOf (P.zip vs) m x=some v
 | [],_,_,_,_,h,_,_=>by simp at h
 | _ :: _,[],_,_,_,_,h,_=>by simp at h
 | p :: P,w :: vs,0,m,nd,h1,h2,hk=>by
  simp at h1 h2;subst h1;subst h2;show bindC kindOf ((p,w) :: P.zip vs) m p=_;unfold bindC;rw [Nx fun v hv=>(List.nodup_cons.mp nd).1 (List.of_mem_zip hv).1,if_neg hk];simp
 | p :: P,w :: vs,i + 1,m,nd,h1,h2,hk=>by
  show bindC kindOf ((p,w) :: P.zip vs) m x=_;unfold bindC;exact Uw (i:=i) (List.nodup_cons.mp nd).2 (by simpa using h1) (by simpa using h2) hk
noncomputable def start (N:List Str) (vs:List V):St:=vs.map some ++ List.replicate (N.length - vs.length) none
noncomputable def fM (CX:CXT) (P:Program) (w:World) (K:PySem.W.Frag) (mg:Str→Option Value) (base:Heap) (N:List Str) (qual:Str) (scope:Scope) (f:Addr) (cd:Value) (A:Around) (outer:List Env) (s:Shared) (H:Hp) (E:XK):Cx where
 prog:=P
 w:=w
 K:=K
 mg:=mg
 base:=base
 A:=A.deeper (envOfC qual scope s.heap.objs.size f cd)
 N:=N
 s₀:=s
 H₀:=H
 env:=envOfC qual scope s.heap.objs.size f cd
 outer:=outer
 stack:=envOfC qual scope s.heap.objs.size f cd :: outer
 ex:=[]
 calm:=true
 fn:=fun _=>true
 pn:=[]
 xe:=fun e s'=>wpAny (model P w) (A.deeper (envOfC qual scope s.heap.objs.size f cd)) (leaving (envOfC qual scope s.heap.objs.size f cd) e) (fun _ s''=>CX outer H s E e s'') (fun e' s''=>CX outer H s E e' s'') s'
theorem Pz {sc:Scope} {n:Nat} {x:Str} (h:sc.names.lookup x=some .cell):∃ c,(cellsFrom n sc.names []).lookup x=some c:=by
 have q:=PySem.W.cellsFrom_some sc.names n [] (.inl h);exact Option.isSome_iff_exists.mp q
theorem ZD {CX:CXT} {P:Program} {w:World} {K:PySem.W.Frag} {mg:Str→Option Value} {base:Heap} {N ps:List Str} {qual:Str} {scope:Scope} {f:Addr} {cd:Value} {A:Around} {outer:List Env} {s s1:Shared} {H:Hp} {E:XK} {us:List Value} {vs:List V}
  (S:Gb N ps scope) (hd:A.handled=none) (e0:KG P w K mg base A outer s H) (hl:vs.length=ps.length) (r:zd vs us)
  (x:InCallC s s.heap.objs.size (bindL (envOfC qual scope s.heap.objs.size f cd).kindOf (ps.zip us) fun _=>none) (cellsFrom (s.heap.objs.size + 1) scope.names []) (bindC (envOfC qual scope s.heap.objs.size f cd).kindOf (ps.zip us) fun _=>none) s1) :
  Inv (fM CX P w K mg base N qual scope f cd A outer s H E) [] (start N vs) H s1:=by
 have hpl:ps.length ≤ N.length:=by have:=congrArg List.length S.pre;rw [List.length_take] at this;omega
 obtain ⟨h1,tk,rfl,hk⟩:=x.done;have noA:∀ b:Addr,b ∉ (fM CX P w K mg base N qual scope f cd A outer s H E).ex:=fun b z=>absurd (show b ∈ ([]:List Addr) from z) (by simp)
 refine ⟨⟨e0.mod,S.kind,rfl,rfl,Nat.le_refl _,fun y z c h1 h2=>?_,fun y hy=>?_,fun y c _ h=>?_,fun _=>hd,Around.frames_deeper e0.frames,.inr ⟨rfl,rfl⟩,fun b z=>absurd z (noA b),e0.bs,e0.bsz,fun b _ _=>noA b,fun b z=>absurd z (noA b),e0.funs,e0.frf⟩,
  rfl,e0.bare,Un.kept hk,⟨_,x.toInCall.ns,fun i y v h1 h2 h3=>?_⟩,fun y c h=>⟨_,x.cell y c h⟩,e0.hok.fresh (Nat.le_refl _),fun y c h=>?_,fun p hp=>absurd (show p ∈ ([]:List (Addr × Obj)) from hp) (by simp),e0.hok.kept hk,?_⟩
 ·exact name_of_addr x.apart (PySem.mem_of_lookup h1) (PySem.mem_of_lookup h2)
 ·have hy:scope.names.lookup y=some .cell∨scope.names.lookup y=some .free:=hy;rcases hy with hy | hy
  ·exact Pz hy
  ·exact absurd rfl (S.nofree _ (PySem.mem_of_lookup hy))
 ·exact Nat.le_of_lt (x.above y c (PySem.mem_of_lookup h))
 ·have hi:i < vs.length:=by
   unfold start at h2;by_cases hi:i < vs.length
   ·exact hi
   ·rw [List.getElem?_append_right (by simpa using hi)] at h2;rw [List.getElem?_replicate] at h2;split at h2 <;> cases h2
  have ha:vs[i]? = some v:=by
   unfold start at h2;rw [List.getElem?_append_left (by simpa using hi),List.getElem?_map] at h2;cases e:vs[i]? with
   | none=>rw [e] at h2;cases h2
   | some a=>rw [e] at h2;cases h2;rfl
  obtain ⟨u,hu,rv⟩:=r.get ha;have hp:ps[i]? = some y:=by
   rw [← S.pre,List.getElem?_take_of_lt (by omega)];exact h1
  have ndP:ps.Nodup:=by rw [← S.pre];exact S.nd.sublist (List.take_sublist _ _)
  refine ⟨u,rv,?_⟩;rcases S.par y (List.mem_of_getElem? hp) with k | k
  ·exact .inl ⟨k,Yw ndP hp hu k⟩
  ·obtain ⟨c,e⟩:=Pz (n:=s.heap.objs.size + 1) k;refine .inr ⟨.inl k,c,e,?_⟩;have q:=x.cell y c e;rw [Uw ndP hp hu (by show scope.names.lookup y ≠ _;rw [k];decide)] at q;exact q
 ·exact e0.hok.fresh (Nat.le_of_lt (x.above y c (PySem.mem_of_lookup h)))
 ·unfold start;show _=N.length;rw [List.length_append,List.length_map,List.length_replicate];omega
theorem yP {CX:CXT} {P:Program} {w:World} {K:PySem.W.Frag} {mg:Str→Option Value} {base:Heap} {k:Nat} {f:Addr} {name qual:Str} {params:Arguments} {body:List Stmt} {scope:Scope} {dV kV doc pm cdv ct oc:Value} {an od:Option Addr}
  {osl:Array (Option Value)} {N ps:List Str} {sp:Sp} (lk:K.lookup f=some ⟨oc,od,.func (PySem.W.fnOf name qual params body scope dV kV doc pm an cdv ct),osl⟩) (hcd:PySem.W.codeIn K cdv qual=true) (S:Gb N ps scope)
  (len:∀ vs H Q E,sp vs H Q E→vs.length=ps.length)
  (hbody:∀ (A:Around) (outer:List Env) (s:Shared) (H:Hp) (vs:List V) (Q:VK) (E:XK),pk k (A.deeper (envOfC qual scope s.heap.objs.size f cdv))→sp vs H Q E →
   ∃ t,PSs (fM CX P w K mg base N qual scope f cdv A outer s H E) body t∧t { nx:=fun _ H'=>Q .non H',rt:=Q } (start N vs) H) :
  Ub P w K mg base CX (k + 1) f (PySem.W.fnOf name qual params body scope dV kV doc pm an cdv ct) ps sp:=by
 refine ⟨len,fun A outer s H args us vs Q E hr e0 hb r hsp=>?_⟩;have hl:=len _ _ _ _ hsp;have KX:K.In s.heap:=e0.mod.kin.keeps fun b o e=>(e0.bs b o e).1
 have lim:s.heap.NoLimit:=e0.mod.nolimit.keeps fun b o e=>(e0.bs b o e).1
 have hkind:∀ y ∈ ps.zip us,scope.names.lookup y.1=some .local∨(scope.names.lookup y.1=some .cell∧((cellsFrom (s.heap.objs.size + 1) scope.names []).lookup y.1).isSome=true):=fun ⟨n,v⟩ hy=>by
  rcases S.par n (List.of_mem_zip hy).1 with q | q
  ·exact .inl q
  ·exact .inr ⟨q,PySem.W.cellsFrom_some _ _ _ (.inl q)⟩
 refine codeAny_call_function hr.depth (KX _ _ lk) rfl S.co S.gen rfl (PySem.W.codeRec_of KX hcd) (hb _ _ _ _ ?_);refine wpAny_newFunctionEnv_cells S.kind hkind fun env he s1 x=>?_
 subst he;refine ⟨lim.keeps x.toInCall.keep,codeAny_func ?_⟩;obtain ⟨t,ht,hq⟩:=hbody A outer s H vs Q E (hr.deeper _) hsp;have I:Inv (fM CX P w K mg base N qual scope f cdv A outer s H E) [] (start N vs) H s1:=ZD S hr.hd e0 hl r x;refine wpAny_mono (ht [] s1 (start N vs) H _ I hq) (fun fl s' hs=>?_) fun e s' hs=>hs
 have fin:∀ {σ':St} {H':Hp} {v:V} {u:Value},Inv (fM CX P w K mg base N qual scope f cdv A outer s H E) [] σ' H' s'→yd v u→Q v H'→CE outer P w H s Q u s':=
  fun {σ' H' v u} J rv q=>⟨v,H',J.os,J.bare,J.base,J.hok,rv,q⟩
 cases fl with
 | ret u=>
  obtain ⟨v,σ',H',J,rv,q⟩:=hs;exact fin J rv q
 | next=>
  obtain ⟨σ',H',J,q⟩:=hs;exact fin (v:=V.non) (u:=Value.none) J rfl q
 | brk=>
  obtain ⟨_,_,_,q⟩:=hs;exact False.elim q
 | cont=>
  obtain ⟨_,_,_,q⟩:=hs;exact False.elim q
end L2
namespace L2
open PySem PySem.Spec PyProof.Rows
section
variable {X:Cx} {x:Str} {p pos:Pos} {e:Expr} {es:List Expr} {t:TA} {id T:String} {r:List V→Hp→VK→Prop}
noncomputable def tCB (r:List V→Hp→VK→Prop) (t:TA):TE:=fun σ H Q=>t σ H fun vs H1=>r vs H1 Q
theorem qc (hc:Ri X (.builtin id) r) (hg:Gl X x) (hm:X.mg x=none) (hv:bootBuiltins x=some (.builtin id)) (ha:PA X (e :: es) t) (hn:x ≠ "__name__" := by decide) (hdb:(x == ("__debug__" : Str))=false:=by decide)
  (he:starEach (e :: es) X.env=(false,eval e X.env) :: starEach es X.env:=by rfl) (hpl:(backTo pos (starEach es X.env)).any (·.1)=false:=by rfl):PE X (.Call (.Name x p) (e :: es) [] pos) (tCB r t):=by
 intro pins s σ H Q I h;refine wpAny_Call_Name_kw (cn I hg hm hv ?_ hn hdb);exact PyProof.Rows.callWith_builtin1 (thn (ha pos pins s σ H _ I h) fun us s1 ⟨vs,H1,I1,r1,q1⟩=>hc pins s1 σ H1 vs us Q I1 r1 q1) he hpl
theorem Hg (hc:Ri X (.type T) r) (hg:Gl X x) (hm:X.mg x=none) (hv:bootBuiltins x=some (.type T)) (ha:PA X (e :: es) t) (hn:x ≠ "__name__" := by decide) (hdb:(x == ("__debug__" : Str))=false:=by decide)
  (he:starEach (e :: es) X.env=(false,eval e X.env) :: starEach es X.env:=by rfl) (hpl:(backTo pos (starEach es X.env)).any (·.1)=false:=by rfl):PE X (.Call (.Name x p) (e :: es) [] pos) (tCB r t):=by
 intro pins s σ H Q I h;refine wpAny_Call_Name_kw (cn I hg hm hv ?_ hn hdb);exact PyProof.Rows.callWith_type1 (thn (ha pos pins s σ H _ I h) fun us s1 ⟨vs,H1,I1,r1,q1⟩=>hc pins s1 σ H1 vs us Q I1 r1 q1) he hpl
end
end L2
namespace HT
open PySem PyProof.Rows
section
open PySem.SeqAt
open PySem.AutoSeq1 (wpAny_loadPart')
open PySem.MeetsSeq PySem.MeetsSeq2 PySem.MeetsSeq3
end
section
variable {prog:Program} {w:World} {A:Around} {E:Value→Shared→Prop} {s:Shared}
theorem cat_tup {t b:Addr} {vs ws:List Value} {Q:Value→Shared→Prop} (ht:IsTup s.heap t vs.toArray) (hb:IsTup s.heap b ws.toArray) (hv:vs ≠ [])
  (h1:ws=[]→Q (.ref t) s) (h2:ws ≠ []→Q (.ref s.heap.objs.size) { s with heap:=s.heap.push { cls:=.type "tuple",data:=.seq (vs ++ ws).toArray } })
  (hsz:vs.length + ws.length ≤ sizeLine):wpAny (model prog w) A (binaryOp .Add (.ref t) (.ref b)) Q E s:=by
 obtain ⟨⟨cls,dd,data,sl⟩,ho,hc,n,hd⟩:=id ht;obtain ⟨⟨cls2,dd2,data2,sl2⟩,ho2,hc2,n2,hd2⟩:=id hb;simp only at hc hd hc2 hd2;subst hc hd hc2 hd2;have e:vs.toArray ++ ws.toArray=(vs ++ ws).toArray:=by simp
 by_cases hw:ws=[]
 ·exact concat_meets ⟨_,ho,rfl⟩ ⟨_,ho2,rfl⟩ noFill_tuple_add seq_tuple_add PySem.F.slot_tuple_add PySem.F.entry_tuple_add (PySem.F.args_tuple_add_2 _ _)
   (tuple_addW1 t b vs.toArray ws.toArray n n2 dd dd2 sl sl2 (by simpa using hv) (by simp [hw])) ⟨ho,ho2,h1 hw⟩
 ·refine concat_meets ⟨_,ho,rfl⟩ ⟨_,ho2,rfl⟩ noFill_tuple_add seq_tuple_add PySem.F.slot_tuple_add PySem.F.entry_tuple_add (PySem.F.args_tuple_add_2 _ _)
   (tuple_addW2 t b vs.toArray ws.toArray n n2 dd dd2 sl sl2 (by simpa using hv) (by simpa using hw) (by rw [List.size_toArray,List.size_toArray];exact hsz)) ⟨ho,ho2,?_⟩
  rw [e];exact h2 hw
noncomputable def sIx (n d:Nat):Option Int→Nat
 | none=>d
 | some v=>if v < 0 then (v + (n:Int)).toNat else min v.toNat n
theorem sIx_nat (n d k:Nat):sIx n d (some (k:Int))=min k n:=by
 show (if (k:Int) < 0 then ((k:Int) + (n:Int)).toNat else min (k:Int).toNat n)=min k n;rw [if_neg (by omega),Int.toNat_natCast]
theorem zN (n d:Nat) (hd:d ≤ n) (o:Option Int):sIx n d o ≤ n:=by
 cases o with
 | none=>exact hd
 | some v=>
  show (if v < 0 then (v + (n:Int)).toNat else min v.toNat n) ≤ n;by_cases hv:v < 0
  ·rw [if_pos hv];omega
  ·rw [if_neg hv];exact Nat.min_le_right _ _
theorem nD (v:Int) (n d:Nat):(if v < 0 then max (v + (n:Int)) 0 else min v (n:Int))=((sIx n d (some v):Nat):Int):=by
 show (if v < 0 then max (v + (n:Int)) 0 else min v (n:Int))=(((if v < 0 then (v + (n:Int)).toNat else min v.toNat n):Nat):Int);by_cases hv:v < 0
 ·simp only [if_pos hv];omega
 ·simp only [if_neg hv];omega
theorem fC (lo hi:Option Int) (n:Nat):Builtin.Slice.sliceAdjust lo hi 1 (n:Int)=(((sIx n 0 lo:Nat):Int),((sIx n n hi:Nat):Int)):=by
 have h1:¬ ((1:Int) < 0):=by omega
 unfold Builtin.Slice.sliceAdjust;simp only [h1,if_false];refine Prod.ext ?_ ?_
 ·cases lo with
  | none=>rfl
  | some v=>exact nD v n 0
 ·cases hi with
  | none=>rfl
  | some v=>exact nD v n n
theorem sC (i j:Nat):Builtin.Slice.slicePlaces (i:Int) (j:Int) 1=j - i:=by
 unfold Builtin.Slice.slicePlaces;have h1:(1:Int) > 0:=by omega
 simp only [h1,if_true,Int.ediv_one];split <;> omega
theorem xt {v:Value} {o:Option Int} {Q:Option Int→Shared→Prop} (p:IsPart v o) (h:Q o s):wpAny (model prog w) A (Builtin.Slice.slicePartIndex v) Q E s:=by
 cases p with
 | none=>exact slicePart_none h
 | int i t=>exact slicePart_int h
theorem Tp {sl:Addr} {vl vu:Value} {lo hi:Option Int} {n:Nat} {Q:Int × Int × Nat→Shared→Prop} (hs:s.heap.IsSliceOf sl vl vu .none) (pl:IsPart vl lo) (pu:IsPart vu hi)
  (h:Q (((sIx n 0 lo:Nat):Int),1,sIx n n hi - sIx n 0 lo) s):wpAny (model prog w) A (Builtin.Slice.sliceApplied (.ref sl) (pure (n:Int))) Q E s:=by
 obtain ⟨os,hos,hcs,hds⟩:=id hs;unfold Builtin.Slice.sliceApplied Builtin.Slice.sliceFields;refine wpAny_bind (wpAny_bind (wpAny_field hos hds (x:=vl) rfl (wpAny_bind (wpAny_field hos hds (x:=vu) rfl (wpAny_bind (wpAny_field hos hds (x:=.none) rfl (wpAny_pure ?_)))))));refine wpAny_bind (slicePart_none ?_);show wpAny _ _ (if ((1:Int) == 0)=true then _ else _) _ _ s;rw [if_neg (by decide)];refine wpAny_bind (xt pl (wpAny_bind (xt pu (wpAny_bind (wpAny_pure ?_)))));show wpAny _ _ (match Builtin.Slice.sliceAdjust lo hi 1 (n:Int) with | (lo,hi)=>pure (lo,(1:Int),Builtin.Slice.slicePlaces lo hi 1)) _ _ s;rw [fC lo hi n];show wpAny _ _ (pure (((sIx n 0 lo:Nat):Int),(1:Int),Builtin.Slice.slicePlaces ((sIx n 0 lo:Nat):Int) ((sIx n n hi:Nat):Int) 1)) _ _ s;rw [sC];exact wpAny_pure h
theorem eI (xs:Array Value) (i k:Nat):((List.range k).filterMap fun (m:Nat)=>xs[((i:Int) + (m:Int) * 1).toNat]?).toArray=((xs.toList.drop i).take k).toArray:=by
 have e:(fun (m:Nat)=>xs[((i:Int) + (m:Int) * 1).toNat]?)=fun m=>xs[i + m]?:=by
  funext m;have:((i:Int) + (m:Int) * 1).toNat=i + m:=by omega
  rw [this]
 rw [e];have:=pick_run xs i k;rw [List.filterMap_map] at this;have e2:((fun x=>xs[x]?) ∘ fun x=>i + x)=fun m=>xs[i + m]?:=rfl
 rw [e2] at this;rw [this]
theorem getItem_tuple_cut {t sl:Addr} {items:Array Value} {vl vu:Value} {lo hi:Option Int} {Q:Value→Shared→Prop} (ht:IsTup s.heap t items) (hs:s.heap.IsSliceOf sl vl vu .none) (pl:IsPart vl lo) (pu:IsPart vu hi)
  (hw:¬ (sIx items.size 0 lo=0∧sIx items.size items.size hi=items.size))
  (h:Q (.ref s.heap.objs.size) { s with heap:=s.heap.push { cls:=.type "tuple",data:=.seq ((items.toList.drop (sIx items.size 0 lo)).take (sIx items.size items.size hi - sIx items.size 0 lo)).toArray } })
  (hsz:items.size ≤ sizeLine):wpAny (model prog w) A (getItem (.ref t) (.ref sl)) Q E s:=by
 have htake:sizeOk (.seq ((items.toList.drop (sIx items.size 0 lo)).take (sIx items.size items.size hi - sIx items.size 0 lo)).toArray):=by
  show ((items.toList.drop (sIx items.size 0 lo)).take (sIx items.size items.size hi - sIx items.size 0 lo)).toArray.size ≤ sizeLine;rw [List.size_toArray,List.length_take,List.length_drop,Array.length_toList];omega
 have hj:sIx items.size items.size hi ≤ items.size:=zN _ _ (Nat.le_refl _) hi;obtain ⟨os,hos,hcs,hds⟩:=id hs;have hTs:s.TypeIs (.ref sl) "slice" := ⟨os,hos,hcs⟩;unfold getItem
 try with_reducible refine wpAny_holding ?_
 first | refine wpAny_bind (wpAny_pure ?_) | skip
 refine wpAny_bind (wpAny_sequenceKey ht.typeIs (by decide) ?_);refine wpAny_bind (wpAny_callSpecial?_slot (name:=Str.ofString "__getitem__") ht.typeIs PyProof.Rows.slot_tuple_getitem
  (wpAny_call_entry PyProof.Rows.slot_tuple_getitem ht.typeIs entry_tuple_getitem ?_ (args_tuple_getitem _ _)))
 show wpAny _ _ (Builtin.Tuple.tupleItemsOf (.ref t) >>= _) _ _ s;refine wpAny_bind (tupleItemsOf_ ht ?_);refine wpAny_bind (wpAny_typeOf hTs ?_);rw [if_pos (by decide)];refine wpAny_bind (Tp hs pl pu ?_);have hno:¬ ((((sIx items.size 0 lo:Nat):Int) == 0 && (1:Int) == 1 && (sIx items.size items.size hi - sIx items.size 0 lo) == items.size)=true):=by
  intro q;rw [Bool.and_eq_true,Bool.and_eq_true] at q;have q1:((sIx items.size 0 lo:Nat):Int)=0:=eq_of_beq q.1.1;have q2:sIx items.size items.size hi - sIx items.size 0 lo=items.size:=eq_of_beq q.2;exact hw ⟨by omega,by omega⟩
 show wpAny _ _ (if (((sIx items.size 0 lo:Nat):Int) == 0 && (1:Int) == 1 && (sIx items.size items.size hi - sIx items.size 0 lo) == items.size)=true then _ else _) _ _ s;rw [if_neg hno,eI]
 first
  | exact wpAny_bind (m:=Builtin.Tuple.tupleExact _) (wpAny_newObj_type (wpAny_pure ⟨_,rfl,wpAny_pure h⟩) htake)
  | exact wpAny_bind (m:=Builtin.Tuple.tupleExact _) (wpAny_newObj_type (wpAny_bind (wpAny_pure (wpAny_pure ⟨_,rfl,wpAny_pure h⟩))) htake)
  | exact wpAny_bind (wpAny_bind (m:=Builtin.Tuple.tupleExact _) (wpAny_newObj_type (wpAny_pure (wpAny_pure ⟨_,rfl,wpAny_pure h⟩)) htake))
  | exact wpAny_bind (wpAny_bind (m:=Builtin.Tuple.tupleExact _) (wpAny_newObj_type (wpAny_pure ⟨_,rfl,wpAny_pure h⟩) htake))
end
end HT
namespace L2
open PySem PySem.Spec PyProof.Rows
noncomputable abbrev TO:=St→Hp→(Option Int→Hp→Prop)→Prop
noncomputable def PO (X:Cx) (e:Option Expr) (t:TO):Prop:=
 ∀ (pins:List (Addr × Obj)) (s:Shared) (σ:St) (H:Hp) (Q:Option Int→Hp→Prop),Inv X pins σ H s→t σ H Q →
  wpAny (model X.prog X.w) X.A (evalPart e X.env) (fun u s'=>∃ o H',Inv X pins σ H' s'∧IsPart u o∧Q o H') X.xe s
noncomputable def GG:TO:=fun _ H Q=>Q none H
noncomputable def WM (t:TE):TO:=fun σ H Q=>t σ H fun x H1=>ik x fun i=>Q (some i) H1
theorem yu {ns:List Int}:∀ {us:List Value},zd (ns.map V.int) us→IntsAre us ns:=by
 induction ns with
 | nil=>intro us r;rw [List.map_nil] at r;cases r;exact .nil
 | cons n ns ih=>
  intro us r;rw [List.map_cons] at r;cases r with
  | cons r1 r2=>
   obtain ⟨t,e⟩:=r1;subst e;exact .cons n t (ih r2)
section
variable {X:Cx} {e:Expr} {te:TE} {lo hi:Option Expr} {tl th:TO} {pos p2:Pos}
theorem Em:PO X none GG:=by
 intro pins s σ H Q I h;rw [evalPart_none];exact wpAny_pure ⟨none,H,I,.none,h⟩
theorem lg (h:PE X e te):PO X (some e) (WM te):=by
 intro pins s σ H Q I hw;rw [evalPart_some];refine thn (h pins s σ H _ I hw) fun u s1 hZ1=>?_
 obtain ⟨x,H1,I1,r1,q1⟩:=hZ1;obtain ⟨i,rfl,q⟩:=ik.out q1;obtain ⟨t,rfl⟩:=r1;exact ⟨some i,H1,I1,.int i t,q⟩
noncomputable def SlR (X:Cx) (r:V→Option Int→Option Int→Hp→VK→Prop):Prop:=
 ∀ (pins:List (Addr × Obj)) (s:Shared) (σ:St) (H:Hp) (x:V) (v vl vu:Value) (lo hi:Option Int) (sl:Addr) (Q:VK),Inv X pins σ H s→yd x v→s.heap.IsSliceOf sl vl vu .none→IsPart vl lo→IsPart vu hi→r x lo hi H Q →
  ∃ T id,typeLookup (.type T) "__getitem__"=pure (some (.builtin id))∧s.TypeIs v T∧wpAny (model X.prog X.w) X.A (getItem v (.ref sl)) (EP X pins σ Q) X.xe s
theorem SlR.or {r r':V→Option Int→Option Int→Hp→VK→Prop} (h:SlR X r) (h':SlR X r'):SlR X (fun x lo hi H Q=>r x lo hi H Q∨r' x lo hi H Q):=by
 intro pins s σ H x v vl vu lo hi sl Q I rx hs pl pu q;rcases q with q | q
 ·exact h pins s σ H x v vl vu lo hi sl Q I rx hs pl pu q
 ·exact h' pins s σ H x v vl vu lo hi sl Q I rx hs pl pu q
noncomputable def tSl (r:V→Option Int→Option Int→Hp→VK→Prop) (te:TE) (tl th:TO):TE:=fun σ H Q=>te σ H fun x H1=>tl σ H1 fun l H2=>th σ H2 fun u H3=>r x l u H3 Q
theorem yg {r:V→Option Int→Option Int→Hp→VK→Prop} (hr:SlR X r) (he:PE X e te) (hl:PO X lo tl) (hu:PO X hi th):PE X (.Subscript e (.Slice lo hi none p2) pos) (tSl r te tl th):=by
 intro pins s σ H Q I h;refine Subscript_ (thn (he pins s σ H _ I h) fun v s1 hZ1=>?_);obtain ⟨x,H1,I1,r1,q1⟩:=hZ1;refine wpAny_Slice (thn (hl pins s1 σ H1 _ I1 q1) fun vl s2 ⟨l,H2,I2,pl,q2⟩=>thn (hu pins s2 σ H2 _ I2 q2) fun vu s3 hZ1=>?_);obtain ⟨u,H3,I3,pu,q3⟩:=hZ1;rw [evalPart_none];refine wpAny_pure ?_;have I4:Inv X pins σ H3 { s3 with heap:=s3.heap.push { cls:=.type "slice",data:=.fields #[vl,vu,.none] } }:=I3.kept (t':=s3.toks) fun b ob q=>Heap.get?_push_of_some _ q
 obtain ⟨T,id,hT,ht,hg⟩:=hr pins { s3 with heap:=s3.heap.push { cls:=.type "slice",data:=.fields #[vl,vu,.none] } } σ H3 x v vl vu l u s3.heap.objs.size Q I4 r1 (Heap.IsSliceOf.new ..) pl pu q3;show wpAny (model X.prog X.w) X.A (subscriptTail e (.Slice lo hi none p2) v (.ref s3.heap.objs.size)) (EP X pins σ Q) X.xe { s3 with heap:=s3.heap.push { cls:=.type "slice",data:=.fields #[vl,vu,.none] } };exact tail_any (ops:=[.ref s3.heap.objs.size,v]) ht hT hg (by with_unfolding_all rfl)
noncomputable def Sv (xs:List V) (lo hi:Option Int):List V:=(xs.drop (HT.sIx xs.length 0 lo)).take (HT.sIx xs.length xs.length hi - HT.sIx xs.length 0 lo)
theorem Pq (xs:List V) (lo hi:Option Int):(Sv xs lo hi).length ≤ xs.length:=by
 unfold Sv;rw [List.length_take,List.length_drop];omega
noncomputable def LP (K:PySem.W.Frag):V→Option Int→Option Int→Hp→VK→Prop:=fun x lo hi H Q=>∃ a xs,x=.ref a∧SqT K H a xs ∧
 ¬ (HT.sIx xs.length 0 lo=0∧HT.sIx xs.length xs.length hi=xs.length)∧∀ p,H p=none→Q (.ref p) (upd H p (.tup (Sv xs lo hi)))
theorem vt:SlR X (LP X.K):=by
 intro pins s σ H x v vl vu lo hi sl Q I rx hs pl pu h;obtain ⟨a,xs,rfl,hx,hw,q⟩:=h;cases rx;obtain ⟨its,r,ht,hz⟩:=I.tuple hx;have hlen:its.toArray.size=xs.length:=by rw [List.size_toArray];exact r.length.symm
 refine ⟨"tuple",_,PyProof.Rows.slot_tuple_getitem.lookup,ht.typeIs,?_⟩;refine HT.getItem_tuple_cut ht hs pl pu (by rw [hlen];exact hw) ?_ (by rw [hlen];exact hz);rw [hlen];refine ⟨.ref s.heap.objs.size,_,I.laid (t':=s.toks) (o:=.tup (Sv xs lo hi)) (fun b ob q=>Heap.get?_push_of_some _ q) (Nat.le_refl _) ?_,rfl,q _ (I.hok.fresh (Nat.le_refl _))⟩;exact ⟨⟨Nat.le_trans (Pq xs lo hi) hz,_,Heap.get?_push_size _ rfl,rfl⟩,_,(r.drop (HT.sIx xs.length 0 lo)).take (HT.sIx xs.length xs.length hi - HT.sIx xs.length 0 lo),IsTup.new _ _⟩
noncomputable def vN (K:PySem.W.Frag):R2:=fun x y H Q=>∃ a b xs ys,x=.ref a∧y=.ref b∧SqT K H a xs∧SqT K H b ys∧xs ≠ []∧xs.length + ys.length ≤ sizeLine ∧
 (ys=[]→Q (.ref a) H)∧(ys ≠ []→∀ p,H p=none→Q (.ref p) (upd H p (.tup (xs ++ ys))))
theorem zd.nil_iff {xs:List V} {us:List Value} (r:zd xs us):us=[]↔xs=[]:=by
 cases r with
 | nil=>simp
 | cons _ _=>simp
theorem cz:OpR X (binaryOp .Add) (vN X.K):=by
 intro pins s σ H x y v u Q I rx ry h;obtain ⟨a,b,xs,ys,rfl,rfl,ha,hb,hx,hz,q1,q2⟩:=h;cases rx;cases ry;obtain ⟨its,r1,p1,_⟩:=I.tuple ha;obtain ⟨its2,r2,p2,_⟩:=I.tuple hb;refine HT.cat_tup p1 p2 (fun z=>hx (r1.nil_iff.mp z)) (fun z=>⟨.ref a,H,I,rfl,q1 (r2.nil_iff.mp z)⟩) (fun z=>?_) (by rw [← r1.length,← r2.length];exact hz);refine ⟨.ref s.heap.objs.size,_,I.laid (t':=s.toks) (o:=.tup (xs ++ ys)) (fun b ob q=>Heap.get?_push_of_some _ q) (Nat.le_refl _) ?_,rfl,q2 (fun w=>z (r2.nil_iff.mpr w)) _ (I.hok.fresh (Nat.le_refl _))⟩;exact ⟨⟨by rw [List.length_append];exact hz,_,Heap.get?_push_size _ rfl,rfl⟩,_,r1.append r2,IsTup.new _ _⟩
end
end L2
namespace L2
open PySem PySem.Spec PyProof.Rows
noncomputable def ixN (n:Nat) (i:Int):Option Nat:=if 0 ≤ i then (if i < n then some i.toNat else none) else if -(n:Int) ≤ i then some (i + n).toNat else none
noncomputable def atI {α:Type} (xs:List α) (i:Int):Option α:=(ixN xs.length i).bind fun j=>xs[j]?
theorem vG {n:Nat} {i:Int} {j:Nat} (h:ixN n i=some j):seqIndex? i n=some j∧j < n∧-(n:Int) ≤ i∧i < n:=by
 unfold ixN at h;by_cases h0:0 ≤ i
 ·rw [if_pos h0] at h;by_cases h1:i < n
  ·rw [if_pos h1] at h;have e:i.toNat=j:=Option.some.inj h;exact ⟨by rw [seqIndex_of h0 h1,e],by omega,by omega,h1⟩
  ·rw [if_neg h1] at h;cases h
 ·rw [if_neg h0] at h;by_cases h1:-(n:Int) ≤ i
  ·rw [if_pos h1] at h;have e:(i + n).toNat=j:=Option.some.inj h;exact ⟨by rw [seqIndex_neg (by omega) h1,e],by omega,h1,by omega⟩
  ·rw [if_neg h1] at h;cases h
theorem Ry {α:Type} {xs:List α} {i:Int} {v:α} (h:atI xs i=some v):∃ j,seqIndex? i xs.length=some j∧xs[j]? = some v∧j < xs.length∧-(xs.length:Int) ≤ i∧i < xs.length:=by
 unfold atI at h;cases e:ixN xs.length i with
 | none=>rw [e] at h;cases h
 | some j=>
  rw [e] at h;obtain ⟨h1,h2,h3,h4⟩:=vG e;exact ⟨j,h1,h,h2,h3,h4⟩
theorem wb {α:Type} {xs:List α} {j:Nat} {v:α} (h:xs[j]? = some v):atI xs (j:Int)=some v:=by
 have hj:j < xs.length:=(List.getElem?_eq_some_iff.mp h).1;have e:ixN xs.length (j:Int)=some j:=by
  unfold ixN;rw [if_pos (by omega),if_pos (by omega)];simp
 unfold atI;rw [e];exact h
noncomputable def vE (b:Expr):Prop:=∀ o i,subscripted b false o i=operate [o,i] (getItem o i)
noncomputable def IxR (X:Cx) (r:R2):Prop:=
 ∀ (value slice:Expr) (pins:List (Addr × Obj)) (s:Shared) (σ:St) (H:Hp) (x y:V) (v u:Value) (Q:VK),Inv X pins σ H s→yd x v→yd y u→r x y H Q →
  subscripted slice false v u=operate [v,u] (getItem v u)→wpAny (model X.prog X.w) X.A (subscriptTail value slice v u) (EP X pins σ Q) X.xe s
noncomputable def MtR (X:Cx) (id:String) (r:V→List V→Hp→VK→Prop):Prop:=
 ∀ (pins:List (Addr × Obj)) (s:Shared) (σ:St) (H:Hp) (x:V) (xs:List V) (v:Value) (us:List Value) (Q:VK),Inv X pins σ H s→yd x v→zd xs us→r x xs H Q →
  wpAny (model X.prog X.w) X.A (call (.builtin id) (v :: us)) (EP X pins σ Q) X.xe s
section
variable {X:Cx} {a b:Expr} {ta tb:TE} {pos:Pos}
theorem IxR.or {r r':R2} (h:IxR X r) (h':IxR X r'):IxR X (fun x y H Q=>r x y H Q∨r' x y H Q):=by
 intro value slice pins s σ H x y v u Q I rx ry q hs;rcases q with q | q
 ·exact h value slice pins s σ H x y v u Q I rx ry q hs
 ·exact h' value slice pins s σ H x y v u Q I rx ry q hs
theorem MtR.or {id:String} {r r':V→List V→Hp→VK→Prop} (h:MtR X id r) (h':MtR X id r'):MtR X id (fun x xs H Q=>r x xs H Q∨r' x xs H Q):=by
 intro pins s σ H x xs v us Q I rx rs q;rcases q with q | q
 ·exact h pins s σ H x xs v us Q I rx rs q
 ·exact h' pins s σ H x xs v us Q I rx rs q
theorem LO {r:R2} (hr:IxR X r) (ha:PE X a ta) (hb:PE X b tb) (hs:vE b):PE X (.Subscript a b pos) (tOp r ta tb):=by
 intro pins s σ H Q I h;exact Subscript_ (RO ha hb I h fun v u s2 x y H2 I2 rx ry q=>hr a b pins s2 σ H2 x y v u Q I2 rx ry q (hs _ _))
noncomputable def zP (K:PySem.W.Frag):R2:=fun x y H Q=>Jh x fun p=>∃ xs,ik y fun i=>SqL K H p xs∧∃ v,atI xs i=some v∧Q v H
noncomputable def IP (K:PySem.W.Frag):R2:=fun x y H Q=>Jh x fun p=>∃ xs,ik y fun i=>SqT K H p xs∧∃ v,atI xs i=some v∧Q v H
noncomputable def mQ:R2:=fun x y H Q=>∃ z i c,x=.str z∧y=.int i∧z.length ≤ sizeLine∧atI z.cps.toList i=some c∧Q (.str ⟨#[c]⟩) H
theorem ie:IxR X (zP X.K):=by
 intro value slice pins s σ H x y v u Q I rx ry h hs;obtain ⟨p,rfl,xs,hzz⟩:=Jh.out h;obtain ⟨i,rfl,hq,z,he,q⟩:=ik.out hzz;cases rx;obtain ⟨t,rfl⟩:=ry;obtain ⟨its,r,pl,hz⟩:=I.list hq;obtain ⟨j,h1,h2,h3,h4,h5⟩:=Ry he;obtain ⟨w,ew,rw'⟩:=r.get h2;have hl:=r.length;have hn:=mr;have fin:EP X pins σ Q w s:=⟨z,H,I,rw',q⟩;by_cases h0:0 ≤ i
 ·have hj:i.toNat=j:=by
   rw [seqIndex_of h0 h5] at h1;exact Option.some.inj h1
  exact item_listR pl.isList h0 (by omega) (by rw [hj];simpa using ew) fin hs
 ·have hj:(i + (its.toArray.size:Int)).toNat=j:=by
   rw [seqIndex_neg (by omega) h4] at h1;rw [List.size_toArray,← hl];exact Option.some.inj h1
  exact subscriptTail_builtinR (x:=w) pl.isList.typeIs slot_list_getitem.lookup
   (wpAny_getItem_list_neg (Q:=fun r s'=>r=w∧EP X pins σ Q r s') pl.isList (by omega) (by rw [List.size_toArray] <;> omega) (by omega) (by rw [hj];simpa using ew) ⟨rfl,fin⟩) hs
theorem Jb:IxR X (IP X.K):=by
 intro value slice pins s σ H x y v u Q I rx ry h hs;obtain ⟨p,rfl,xs,hzz⟩:=Jh.out h;obtain ⟨i,rfl,hq,z,he,q⟩:=ik.out hzz;cases rx;obtain ⟨t,rfl⟩:=ry;obtain ⟨its,r,pl,hz⟩:=I.tuple hq;obtain ⟨j,h1,h2,h3,h4,h5⟩:=Ry he;obtain ⟨w,ew,rw'⟩:=r.get h2;have hl:=r.length;have hn:=mr;have fin:EP X pins σ Q w s:=⟨z,H,I,rw',q⟩;exact subscriptTail_builtinR (x:=w) pl.typeIs slot_tuple_getitem.lookup
  (getItem_tuple (j:=j) (Q:=fun r s'=>r=w∧EP X pins σ Q r s') pl (by omega) (by omega) (by rw [List.size_toArray,← hl];exact h1) (by simpa using ew) ⟨rfl,fin⟩) hs
theorem UD:IxR X mQ:=by
 intro value slice pins s σ H x y v u Q I rx ry h hs;obtain ⟨z,i,c,rfl,rfl,hz,he,q⟩:=h;obtain ⟨t,rfl⟩:=rx;obtain ⟨t',rfl⟩:=ry;obtain ⟨j,h1,h2,h3,h4,h5⟩:=Ry he;have hl:z.cps.toList.length=z.length:=by simp [Str.length]
 rw [hl] at h1 h4 h5;have hn:=mr;exact tail_any (typeIs_str s z t) slot_str_getitem.lookup (getItem_str (c:=c) (by
  have e1:decide (i < -(2 ^ 63:Int))=false:=decide_eq_false (by omega);have e2:decide (i ≥ 2 ^ 63)=false:=decide_eq_false (by omega);rw [e1,e2,Bool.or_false]) (by rw [h1];simpa using h2) ⟨.str ⟨#[c]⟩,H,I.tok _,⟨_,rfl⟩,q⟩) hs
theorem uC (its:List Value) (n j:Nat) (u:Value):Obj.mapSeq (·.setIfInBounds j u) { cls:=.type "list",data:=.seq its.toArray n } = { cls:=.type "list",data:=.seq (its.set j u).toArray n }:=by
 simp [Obj.mapSeq]
theorem Inv.lst {pins:List (Addr × Obj)} {σ:St} {H:Hp} {s:Shared} {p:Addr} {xs:List V} (I:Inv X pins σ H s) (h:H p=some (.lst xs)) :
  ∃ (its:List Value) (n:Nat),zd xs its∧s.heap.get? p=some { cls:=.type "list",data:=.seq its.toArray n }∧xs.length ≤ sizeLine:=by
 obtain ⟨z,its,n,r,e⟩:=I.hok p _ h;exact ⟨its,n,r,e,z⟩
theorem Inv.lstUpd {pins:List (Addr × Obj)} {σ:St} {H:Hp} {s:Shared} {p:Addr} {xs ys:List V} {its its':List Value} {n n':Nat} {f:Obj→Obj} (I:Inv X pins σ H s) (h:H p=some (.lst xs))
  (ho:s.heap.get? p=some { cls:=.type "list",data:=.seq its.toArray n }) (hf:f { cls:=.type "list",data:=.seq its.toArray n } = { cls:=.type "list",data:=.seq its'.toArray n' }) (r:zd ys its') (hz:ys.length ≤ sizeLine) (t:Nat) :
  Inv X pins σ (upd H p (.lst ys)) { s with heap:=s.heap.update p f,toks:=t }:=by
 have e:(s.heap.update p f).get? p=some { cls:=.type "list",data:=.seq its'.toArray n' }:=by
  rw [Heap.get?_update_self f ho (by rw [hf] <;> rfl),hf]
 refine I.write (x:=p) (e:=p) (by rw [h];trivial) (.inl rfl) (fun b u hb q=>(Heap.get?_update_other _ _ (Ne.symm hb)).trans q) ⟨_,e⟩ ?_;exact ⟨hz,its',n',r,e⟩
noncomputable def IN:V→V→V→Hp→(Hp→Prop)→Prop:=fun o i v H Q=>Jh o fun p=>∃ xs,ik i fun k=>H p=some (.lst xs)∧∃ j,ixN xs.length k=some j∧Q (upd H p (.lst (xs.set j v)))
theorem QI:UP X IN:=by
 intro pins s σ H o i v ov iv u Q I ro ri rv h;obtain ⟨p,rfl,xs,hzz⟩:=Jh.out h;obtain ⟨k,rfl,hp,j,hj,q⟩:=ik.out hzz;cases ro;obtain ⟨t,rfl⟩:=ri;obtain ⟨its,n,r,ho,hz⟩:=I.lst hp;obtain ⟨h1,h2,h3,h4⟩:=vG hj;have hl:=r.length;have hn:=mr;have I':Inv X pins σ (upd H p (.lst (xs.set j v))) { s with heap:=s.heap.update p (Obj.mapSeq (·.setIfInBounds j u)) }:=
  I.lstUpd hp ho (uC its n j u) (r.set rv j) (by rw [List.length_set];exact hz) s.toks
 by_cases h0:0 ≤ k
 ·have hk:k.toNat=j:=by
   rw [seqIndex_of h0 h4] at h1;exact Option.some.inj h1
  exact PySem.W.ki_setAt ho h0 (by omega) (by rw [List.size_toArray,← hl];exact h4) (by rw [hk];exact ⟨_,I',q⟩)
 ·have hk:(k + (its.toArray.size:Int)).toNat=j:=by
   rw [seqIndex_neg (by omega) h3] at h1;rw [List.size_toArray,← hl];exact Option.some.inj h1
  exact PySem.W.ki_setBack ho (by omega) (by rw [List.size_toArray,← hl];exact h3) (by omega) (by rw [hk];exact ⟨_,I',q⟩)
theorem Lx (lo hi:Option Int) (n:Nat):(sliceBounds lo hi none n).1=((HT.sIx n 0 lo:Nat):Int)∧(sliceBounds lo hi none n).2.1=((HT.sIx n n hi:Nat):Int)∧(sliceBounds lo hi none n).2.2=1:=by
 refine ⟨?_,?_,rfl⟩
 ·cases lo with
  | none=>simp [sliceBounds,HT.sIx]
  | some i=>
   simp only [sliceBounds,HT.sIx,Option.getD_none,show (1:Int) > 0 by decide,if_true];by_cases h:i < 0
   ·simp only [h,if_true] <;> omega
   ·simp only [h,if_false] <;> omega
 ·cases hi with
  | none=>simp [sliceBounds,HT.sIx]
  | some i=>
   simp only [sliceBounds,HT.sIx,Option.getD_none,show (1:Int) > 0 by decide,if_true];by_cases h:i < 0
   ·simp only [h,if_true] <;> omega
   ·simp only [h,if_false] <;> omega
theorem Bv (its:List Value) (lo hi:Option Int):slicePick its.toArray lo hi none=((its.drop (HT.sIx its.length 0 lo)).take (HT.sIx its.length its.length hi - HT.sIx its.length 0 lo)).toArray:=by
 obtain ⟨h1,h2,h3⟩:=Lx lo hi its.toArray.size;unfold slicePick;rw [h1,h2,h3];simp only [sliceRange_one,pick_run,List.size_toArray] <;> rfl
noncomputable def BP (K:PySem.W.Frag):V→Option Int→Option Int→Hp→VK→Prop:=fun x lo hi H Q=>∃ a xs,x=.ref a∧SqL K H a xs∧∀ p,H p=none→Q (.ref p) (upd H p (.lst (Sv xs lo hi)))
theorem NK:SlR X (BP X.K):=by
 intro pins s σ H x v vl vu lo hi sl Q I rx hs pl pu h;obtain ⟨a,xs,rfl,hx,q⟩:=h;cases rx;obtain ⟨its,r,ht,hz⟩:=I.list hx;have hlen:=r.length;refine ⟨"list",_,slot_list_getitem.lookup,ht.isList.typeIs,?_⟩;refine wpAny_getItem_list_slice ht.isList hs pl pu .none (by simp) ?_ (by rw [List.size_toArray] <;> omega);rw [Bv,← hlen];refine ⟨.ref s.heap.objs.size,_,I.laid (t':=s.toks) (o:=.lst (Sv xs lo hi)) (fun b ob q=>Heap.get?_push_of_some _ q) (Nat.le_refl _) ?_,rfl,q _ (I.hok.fresh (Nat.le_refl _))⟩;exact ⟨Nat.le_trans (Pq xs lo hi) hz,_,0,(r.drop (HT.sIx xs.length 0 lo)).take (HT.sIx xs.length xs.length hi - HT.sIx xs.length 0 lo),Heap.get?_push_size _ rfl⟩
noncomputable def Cm:V→Bool
 | .non=>true
 | .bl _=>true
 | .int _=>true
 | .str _=>true
 | _=>false
noncomputable def eqV:V→V→Bool
 | .non,.non=>true
 | .bl a,.bl b=>a == b
 | .bl a,.int b=>(if a then 1 else 0) == b
 | .int a,.bl b=>a == (if b then 1 else 0)
 | .int a,.int b=>a == b
 | .str a,.str b=>a == b
 | _,_=>false
theorem VJ {A:Around} {s:Shared} {y x:V} {u v:Value} (ry:yd y u) (rx:yd x v) (fy:Cm y=true) (fx:Cm x=true):SeqAt.EqAt A s u v (eqV y x):=by
 cases y with
 | non=>
  cases ry;cases x with
  | non=>cases rx;exact SeqAt.EqAt.same _
  | bl b=>cases rx;exact SeqAt.EqAt.none_bool b
  | int b=>obtain ⟨t,rfl⟩:=rx;exact SeqAt.EqAt.none_int b t
  | str b=>obtain ⟨t,rfl⟩:=rx;exact SeqAt.EqAt.none_str b t
  | _=>exact absurd (show false=true from fx) Bool.false_ne_true
 | bl a=>
  cases ry;cases x with
  | non=>cases rx;exact SeqAt.EqAt.bool_none a
  | bl b=>cases rx;exact SeqAt.EqAt.bool_bool a b
  | int b=>obtain ⟨t,rfl⟩:=rx;exact SeqAt.EqAt.bool_int a b t
  | str b=>obtain ⟨t,rfl⟩:=rx;exact SeqAt.EqAt.bool_str a b t
  | _=>exact absurd (show false=true from fx) Bool.false_ne_true
 | int a=>
  obtain ⟨t',rfl⟩:=ry;cases x with
  | non=>cases rx;exact SeqAt.EqAt.int_none a t'
  | bl b=>cases rx;exact SeqAt.EqAt.int_bool a t' b
  | int b=>obtain ⟨t,rfl⟩:=rx;exact SeqAt.EqAt.int_int a t' b t
  | str b=>obtain ⟨t,rfl⟩:=rx;exact SeqAt.EqAt.int_str a t' b t
  | _=>exact absurd (show false=true from fx) Bool.false_ne_true
 | str a=>
  obtain ⟨t',rfl⟩:=ry;cases x with
  | non=>cases rx;exact SeqAt.EqAt.str_none a t'
  | bl b=>cases rx;exact SeqAt.EqAt.str_bool a t' b
  | int b=>obtain ⟨t,rfl⟩:=rx;exact SeqAt.EqAt.str_int a t' b t
  | str b=>obtain ⟨t,rfl⟩:=rx;exact SeqAt.EqAt.str_str a t' b t
  | _=>exact absurd (show false=true from fx) Bool.false_ne_true
 | _=>exact absurd (show false=true from fy) Bool.false_ne_true
noncomputable def eqU (x:V) (u:Value):Bool:=match u with
 | .none=>eqV .non x
 | .bool b=>eqV (.bl b) x
 | .int i _=>eqV (.int i) x
 | .str z _=>eqV (.str z) x
 | _=>false
theorem CJ {x y:V} {u:Value} (r:yd y u) (f:Cm y=true):eqU x u=eqV y x:=by
 cases y with
 | non=>cases r;rfl
 | bl b=>cases r;rfl
 | int i=>obtain ⟨t,rfl⟩:=r;rfl
 | str z=>obtain ⟨t,rfl⟩:=r;rfl
 | _=>exact absurd (show false=true from f) Bool.false_ne_true
theorem Kr {x:V}:∀ {xs:List V} {us:List Value},zd xs us→xs.all Cm=true→us.any (eqU x)=xs.any fun y=>eqV y x
 | _,_,.nil,_=>rfl
 | y :: xs,u :: us,.cons r t,f=>by
  rw [List.all_cons,Bool.and_eq_true] at f;rw [List.any_cons,List.any_cons,CJ r f.1,Kr t f.2]
theorem mo {A:Around} {s:Shared} {x:V} {v:Value} (rx:yd x v) (fx:Cm x=true):∀ {xs:List V} {us:List Value},zd xs us→xs.all Cm=true→∀ u ∈ us,SeqAt.EqAt A s u v (eqU x u)
 | _,_,.nil,_=>fun u hu=>by cases hu
 | y :: xs,u :: us,.cons r t,f=>fun u' hu=>by
  rw [List.all_cons,Bool.and_eq_true] at f;rcases List.mem_cons.mp hu with rfl | hu
  ·rw [CJ r f.1];exact VJ r rx f.1 fx
  ·exact mo rx fx t f.2 u' hu
noncomputable def inV (x:V) (xs:List V):Bool:=xs.any fun y=>eqV y x
noncomputable def rIn (K:PySem.W.Frag) (neg:Bool):R2:=fun x y H Q=>∃ p xs,y=.ref p∧(SqL K H p xs∨SqT K H p xs)∧Cm x=true∧xs.all Cm=true∧Q (.bl (if neg then !inV x xs else inV x xs)) H
theorem ql:OpR X (compareOp .In) (rIn X.K false):=by
 intro pins s σ H x y v u Q I rx ry h;obtain ⟨p,xs,rfl,hq,fx,fs,q⟩:=h;cases ry;rcases hq with hq | hq
 ·obtain ⟨its,r,pl,hz⟩:=I.list hq;refine SeqAt.in_listAt (eqU x) pl.isList (fun w hw=>mo rx fx r fs w (by simpa using hw)) ⟨.bl _,H,I,rfl,?_⟩;rw [show its.toArray.any (eqU x)=its.any (eqU x) by simp,Kr r fs];exact q
 ·obtain ⟨its,r,pl,hz⟩:=I.tuple hq;refine SeqAt.in_tupleAt (eqU x) pl (fun w hw=>mo rx fx r fs w (by simpa using hw)) ⟨.bl _,H,I,rfl,?_⟩;rw [show its.toArray.any (eqU x)=its.any (eqU x) by simp,Kr r fs];exact q
theorem Yo:OpR X (compareOp .NotIn) (rIn X.K true):=by
 intro pins s σ H x y v u Q I rx ry h;obtain ⟨p,xs,rfl,hq,fx,fs,q⟩:=h;cases ry;rcases hq with hq | hq
 ·obtain ⟨its,r,pl,hz⟩:=I.list hq;refine SeqAt.notIn_listAt (eqU x) pl.isList (fun w hw=>mo rx fx r fs w (by simpa using hw)) ⟨.bl _,H,I,rfl,?_⟩;rw [show its.toArray.any (eqU x)=its.any (eqU x) by simp,Kr r fs];exact q
 ·obtain ⟨its,r,pl,hz⟩:=I.tuple hq;refine SeqAt.notIn_tupleAt (eqU x) pl (fun w hw=>mo rx fx r fs w (by simpa using hw)) ⟨.bl _,H,I,rfl,?_⟩;rw [show its.toArray.any (eqU x)=its.any (eqU x) by simp,Kr r fs];exact q
theorem bc:Ri X (.builtin "len") (fun xs H Q=>yC xs fun x=>Jh x fun p=>∃ ys,(SqL X.K H p ys∨SqT X.K H p ys)∧Q (.int ys.length) H):=by
 intro pins s σ H xs us Q I r h;obtain ⟨zx,rfl,hzz⟩:=yC.out h;obtain ⟨p,rfl,ys,hq,q⟩:=Jh.out hzz;obtain ⟨u,rfl,rx⟩:=On r;cases rx;have hn:=mr;rcases hq with hq | hq
 ·obtain ⟨its,r',pl,hz⟩:=I.list hq;have hlen:=r'.length;exact Calls.call_len_list pl.isList (by simp only [List.size_toArray] <;> omega) ⟨.int ys.length,H,I.tok _,⟨s.toks + 1,by rw [List.size_toArray,hlen]⟩,q⟩
 ·obtain ⟨its,r',pl,hz⟩:=I.tuple hq;have hlen:=r'.length;exact len_tuple pl (by simp only [List.size_toArray] <;> omega) ⟨.int ys.length,H,I.tok _,⟨s.toks + 1,by rw [List.size_toArray,hlen]⟩,q⟩
theorem Xv:Ri X (.builtin "len") (fun xs H Q=>∃ z,xs=[.str z]∧z.length ≤ sizeLine∧Q (.int z.length) H):=by
 intro pins s σ H xs us Q I r h;obtain ⟨z,rfl,hz,q⟩:=h;obtain ⟨u,rfl,t,rfl⟩:=On r;have hn:=mr;exact len_str (by omega) ⟨.int z.length,H,I.tok _,⟨_,rfl⟩,q⟩
theorem Ri.or {f:Value} {r r':List V→Hp→VK→Prop} (h:Ri X f r) (h':Ri X f r'):Ri X f (fun xs H Q=>r xs H Q∨r' xs H Q):=by
 intro pins s σ H xs us Q I rs q;rcases q with q | q
 ·exact h pins s σ H xs us Q I rs q
 ·exact h' pins s σ H xs us Q I rs q
theorem Vw:Ri X (.type "list") (fun xs H Q=>∃ p ys,xs=[.ref p]∧(SqL X.K H p ys∨SqT X.K H p ys)∧∀ l,H l=none→Q (.ref l) (upd H l (.lst ys))):=by
 intro pins s σ H xs us Q I r h;obtain ⟨p,ys,rfl,hq,q⟩:=h;obtain ⟨u,rfl,rx⟩:=On r;cases rx;have fin:∀ (its:List Value),zd ys its→ys.length ≤ sizeLine→∀ (h':Heap) (c':Nat),(∀ b o',s.heap.get? b=some o'→h'.get? b=some o') →
   h'.get? s.heap.objs.size=some { cls:=.type "list",dict:=none,data:=.seq its.toArray c',slots:=#[] }→EP X pins σ Q (.ref s.heap.objs.size) { s with heap:=h' }:=fun its r' hz h' c' kp e=>
  ⟨.ref s.heap.objs.size,_,I.laid (t':=s.toks) kp (Nat.le_refl _) (show Bd X.prog X.w _ h' _ (.lst ys) from ⟨hz,its,c',r',e⟩),rfl,q _ (I.hok.fresh (Nat.le_refl _))⟩
 rcases hq with hq | hq
 ·obtain ⟨its,r',pl,hz⟩:=I.list hq;have hlen:=r'.length;obtain ⟨o,ho,hc,n,hd⟩:=pl.isList;exact call_list_seq p (.inl rfl) ho hc hd (fun h' c' kp e=>fin its r' hz h' c' kp e) (by simp only [List.size_toArray] <;> omega)
 ·obtain ⟨its,r',pl,hz⟩:=I.tuple hq;have hlen:=r'.length;obtain ⟨o,ho,hc,n,hd⟩:=pl;exact call_list_seq p (.inr rfl) ho hc hd (fun h' c' kp e=>fin its r' hz h' c' kp e) (by simp only [List.size_toArray] <;> omega)
theorem Iu:Ri X (.type "tuple") (fun xs H Q=>∃ p ys,xs=[.ref p]∧((SqL X.K H p ys∧∀ l,H l=none→Q (.ref l) (upd H l (.tup ys)))∨(SqT X.K H p ys∧Q (.ref p) H))):=by
 intro pins s σ H xs us Q I r h;obtain ⟨p,ys,rfl,h⟩:=h;obtain ⟨u,rfl,rx⟩:=On r;cases rx;rcases h with ⟨hq,q⟩ | ⟨hq,q⟩
 ·obtain ⟨its,r',pl,hz⟩:=I.list hq;have hlen:=r'.length;refine call_tuple_list pl.isList (fun h' kp=>?_) (by simp only [List.size_toArray] <;> omega);have I1:Inv X pins σ H { s with heap:=h' }:=I.kept (t':=s.toks) kp;have I2:Inv X pins σ (upd H h'.objs.size (.tup ys)) { s with heap:=h'.push { cls:=.type "tuple",data:=.seq its.toArray } }:=
   I1.laid (t':=s.toks) (fun b o e=>Heap.get?_push_of_some _ e) (Nat.le_refl _) (show Bd X.prog X.w _ _ _ (.tup ys) from ⟨⟨hz,_,Heap.get?_push_size _ rfl,rfl⟩,its,r',IsTup.new _ _⟩)
  exact ⟨.ref h'.objs.size,_,I2,rfl,q _ (I1.hok.fresh (Nat.le_refl _))⟩
 ·obtain ⟨its,r',pl,hz⟩:=I.tuple hq;exact call_tuple_same pl ⟨.ref p,H,I,rfl,q⟩
noncomputable def tyV (K:PySem.W.Frag) (T:String) (x:V) (H:Hp):Prop:=match x with
 | .str _=>T = "str"
 | .int _=>T = "int"
 | .ref p=>(T = "list" ∧ ∃ xs,SqL K H p xs)∨(T = "tuple" ∧ ∃ o,K.lookup p=some o∧o.cls=.type "tuple" ∧ o.dict=none) ∨
   (T = "dict" ∧ ((∃ kvs,H p=some (.dK kvs))∨∃ kvs,H p=some (.dT kvs)))∨(T = "set" ∧ ∃ S n,H p=some (.set S n))
 | _=>False
theorem LJ {pins:List (Addr × Obj)} {σ:St} {H:Hp} {s:Shared} {T:String} {x:V} {v:Value} (I:Inv X pins σ H s) (r:yd x v) (ty:tyV X.K T x H) :
  s.TypeIs v T∧∀ a,v=.ref a→∃ ob,s.heap.get? a=some ob∧ob.dict=none:=by
 cases x with
 | str z=>
  obtain ⟨t,rfl⟩:=r;cases (show T = "str" from ty);exact ⟨typeIs_str s z t,fun _ e=>nomatch e⟩
 | int i=>
  obtain ⟨t,rfl⟩:=r;cases (show T = "int" from ty);exact ⟨typeIs_int s i t,fun _ e=>nomatch e⟩
 | ref p=>
  cases r;rcases ty with ⟨rfl,xs,hq⟩ | ⟨rfl,o,hk,hc,hd⟩ | ⟨rfl,hk⟩ | ⟨rfl,S,n,hk⟩
  ·obtain ⟨its,_,pl,_⟩:=I.list hq;refine ⟨pl.isList.typeIs,fun a e=>?_⟩;cases e;obtain ⟨o,n,e,c,hd,_⟩:=pl;exact ⟨o,e,hd⟩
  ·refine ⟨⟨o,I.kIn p o hk,hc⟩,fun a e=>?_⟩;cases e;exact ⟨o,I.kIn _ o hk,hd⟩
  ·have z:∃ o,s.heap.get? p=some o∧o.ExactDict:=by
    rcases hk with ⟨kvs,hk⟩ | ⟨kvs,hk⟩
    ·obtain ⟨_,_,_,_,o,_,_,e,ex,_⟩:=I.hok p _ hk;exact ⟨o,e,ex⟩
    ·obtain ⟨_,_,_,_,o,_,_,e,ex,_⟩:=I.hok p _ hk;exact ⟨o,e,ex⟩
   obtain ⟨o,e,ex⟩:=z;refine ⟨⟨o,e,ex.1⟩,fun a e2=>?_⟩;cases e2;exact ⟨o,e,ex.2.1⟩
  ·obtain ⟨o,_,_,_,e,ex,_⟩:=I.hok p _ hk;refine ⟨⟨o,e,ex.1⟩,fun a e2=>?_⟩;cases e2;exact ⟨o,e,ex.2.1⟩
 | _=>exact False.elim ty
noncomputable def JP (K:PySem.W.Frag) (T:String) (r:V→List V→Hp→VK→Prop) (to:TE):TE:=fun σ H Q=>to σ H fun x H1=>tyV K T x H1∧r x [] H1 Q
noncomputable def tBM (K:PySem.W.Frag) (T:String) (r:V→List V→Hp→VK→Prop) (to:TE) (t:TA):TE:=fun σ H Q=>to σ H fun x H1=>tyV K T x H1∧t σ H1 fun xs H2=>r x xs H2 Q
variable {o e:Expr} {es:List Expr} {to:TE} {t:TA} {name:Str} {apos cpos:Pos} {T id:String} {r:V→List V→Hp→VK→Prop}
theorem PN (pa:PlainAttrs T) (slot:Slot T name id) (hty:typeOf (.builtin id)=pure (.type "method_descriptor")) (hm:MtR X id r) (ho:PE X o to)
  (hbase:attributeBase o name X.env (eval o X.env)=eval o X.env:=by rfl) (hline:(apos.endLine == cpos.line)=true:=by rfl):PE X (.Call (.Attribute o name apos) [] [] cpos) (JP X.K T r to):=by
 intro pins s σ H Q I h;refine wpAny_Call_method0_late hbase hline (thn (ho pins s σ H _ I h) fun v s1 hZ1=>?_);obtain ⟨x,H1,I1,r1,ty,q1⟩:=hZ1;obtain ⟨h1,h2⟩:=LJ I1 r1 ty;exact ⟨T,id,pa,slot,hty,h1,h2,Calls.callWith_builtin rfl (PySem.evalArgs_none (hm pins s1 σ H1 x [] v [] Q I1 r1 .nil q1))⟩
theorem Fp (pa:PlainAttrs T) (slot:Slot T name id) (hty:typeOf (.builtin id)=pure (.type "method_descriptor")) (hm:MtR X id r) (ho:PE X o to) (ha:PA X (e :: es) t)
  (hbase:attributeBase o name X.env (eval o X.env)=eval o X.env:=by rfl)
  (hfew:((backTo cpos (starEach (e :: es) X.env)).all (fun x=>!x.1) && (backToKw cpos (keywordEach [] X.env)).all (fun x=>x.1.isSome)
   && decide ((e :: es).length + ([]:List Keyword).length + (if ([]:List Keyword).isEmpty then 0 else 1) < 30))=true:=by rfl)
  (hline:(apos.endLine == cpos.line)=true:=by rfl) (hs:starEach (e :: es) X.env=(false,eval e X.env) :: starEach es X.env:=by rfl) (hplain:(backTo cpos (starEach es X.env)).any (·.1)=false:=by rfl) :
  PE X (.Call (.Attribute o name apos) (e :: es) [] cpos) (tBM X.K T r to t):=by
 intro pins s σ H Q I h;refine wpAny_Call_method_late hbase hfew hline rfl (thn (ho pins s σ H _ I h) fun v s1 hZ1=>?_);obtain ⟨x,H1,I1,r1,ty,q1⟩:=hZ1;obtain ⟨h1,h2⟩:=LJ I1 r1 ty;refine ⟨T,id,pa,slot,hty,h1,h2,?_⟩;have hA:=ha cpos pins s1 σ H1 _ I1 q1;rw [hs] at hA ⊢;refine Calls.callWith_builtin (by show (false || (backTo cpos (starEach es X.env)).any (·.1))=false;rw [hplain] <;> rfl) (Calls.evalArgs_plain ?_);exact thn hA fun us s2 ⟨vs,H2,I2,r2,q2⟩=>hm pins s2 σ H2 x vs v us Q I2 r1 r2 q2
end
end L2
namespace L2
open PySem PySem.Spec PyProof.Rows
noncomputable def MtM (X:Cx) (id:String) (r:V→List V→Hp→VK→Prop):Prop:=
 ∀ (pins:List (Addr × Obj)) (s:Shared) (σ:St) (H:Hp) (x:V) (xs:List V) (v:Value) (us:List Value) (Q:VK),Inv X pins σ H s→yd x v→zd xs us→r x xs H Q →
  wpAny (model X.prog X.w) X.A (call (.builtin id) (v :: us)) (EP X pins σ Q) X.xe s
theorem zd.one:∀ {x:V} {us:List Value},zd [x] us→∃ u,us=[u]∧yd x u
 | _,_,.cons r .nil=>⟨_,rfl,r⟩
theorem zd.two:∀ {x y:V} {us:List Value},zd [x,y] us→∃ u v,us=[u,v]∧yd x u∧yd y v
 | _,_,_,.cons r (.cons q .nil)=>⟨_,_,rfl,r,q⟩
theorem zd.zero:∀ {us:List Value},zd [] us→us=[]
 | _,.nil=>rfl
theorem zd.reverse {xs:List V} {us:List Value} (h:zd xs us):zd xs.reverse us.reverse:=by
 induction h with
 | nil=>exact .nil
 | cons r t ih=>rw [List.reverse_cons,List.reverse_cons];exact zd.append ih (.cons r .nil)
section
variable {X:Cx} {pins:List (Addr × Obj)} {σ:St} {H:Hp} {s:Shared} {l b:Addr} {xs ys zs:List V}
theorem Inv.lset {its its':List Value} {n:Nat} {f:Array Value→Array Value} {t':Nat} (I:Inv X pins σ H s) (hH:H l=some (.lst xs))
  (e:s.heap.get? l=some { cls:=.type "list",data:=.seq its.toArray n }) (hf:f its.toArray=its'.toArray) (hv:zd ys its') (hz:ys.length ≤ sizeLine) :
  Inv X pins σ (upd H l (.lst ys)) { s with heap:=s.heap.update l (Obj.mapSeq f),toks:=t' }:=by
 have q:=PySem.IsL.update e f;rw [hf] at q;refine I.write (x:=l) (e:=l) (by rw [hH];exact trivial) (.inl rfl) (fun b' u hb hu=>(Heap.get?_update_other s.heap (Obj.mapSeq f) (Ne.symm hb)).trans hu) ⟨_,q⟩ ?_;exact ⟨hz,its',_,hv,q⟩
theorem Inv.lnew {its:List Value} {t':Nat} (I:Inv X pins σ H s) (hv:zd ys its) (hz:ys.length ≤ sizeLine) :
  Inv X pins σ (upd H s.heap.objs.size (.lst ys)) { s with heap:=s.heap.push { cls:=.type "list",data:=.seq its.toArray },toks:=t' }:=
 I.laid (fun _ _ q=>Heap.get?_push_of_some _ q) (Nat.le_refl _) ⟨hz,its,0,hv,Heap.get?_push_size _ rfl⟩
theorem Inv.fresh (I:Inv X pins σ H s):H s.heap.objs.size=none:=I.hok.fresh (Nat.le_refl _)
theorem Inv.lstM (I:Inv X pins σ H s) (hH:H l=some (.lst xs)):xs.length ≤ sizeLine∧∃ (its:List Value) (n:Nat),zd xs its∧xs.length=its.length∧s.heap.get? l=some { cls:=.type "list",data:=.seq its.toArray n }:=by
 obtain ⟨z,its,n,r,e⟩:=I.hok l _ hH;exact ⟨z,its,n,r,r.length,e⟩
theorem BI {n:Nat} (h:n ≤ sizeLine):Builtin.List.listTooLong n=false:=by
 unfold Builtin.List.listTooLong;exact decide_eq_false (by omega)
end
section
variable {X:Cx}
noncomputable def MD:V→List V→Hp→VK→Prop:=fun x vs H Q=>Jh x fun l=>yC vs fun y=>∃ xs,H l=some (.lst xs)∧xs.length < sizeLine∧Q .non (upd H l (.lst (xs ++ [y])))
theorem Ak:MtM X "list.append" MD:=by
 intro pins s σ H x vs v us Q I rx rv h;obtain ⟨l,rfl,hzz⟩:=Jh.out h;obtain ⟨y,rfl,xs,hH,hz,q⟩:=yC.out hzz;cases rx;obtain ⟨u,rfl,ru⟩:=rv.one;obtain ⟨z,its,n,r,hl,e⟩:=I.lstM hH;refine call_meets F.slot_list_append ⟨_,e,rfl⟩ F.entry_list_append (F.args_list_append_2 _ _) (PySem.list_append l its.toArray n u (by rw [List.size_toArray];omega)) ⟨e,?_⟩;refine ⟨.non,_,I.lset (its':=its ++ [u]) hH e (by simp) (r.append (.cons ru .nil)) ?_,rfl,q⟩;rw [List.length_append,List.length_singleton];omega
noncomputable def wD:V→List V→Hp→VK→Prop:=fun x vs H Q=>∃ l b xs zs,x=.ref l∧vs=[.ref b]∧H l=some (.lst xs)∧H b=some (.lst zs)∧xs.length + zs.length ≤ sizeLine∧Q .non (upd H l (.lst (xs ++ zs)))
theorem jx:MtM X "list.extend" wD:=by
 intro pins s σ H x vs v us Q I rx rv h;obtain ⟨l,b,xs,zs,rfl,rfl,hH,hB,hz,q⟩:=h;cases rx;obtain ⟨u,rfl,ru⟩:=rv.one;cases ru;obtain ⟨z,its,n,r,hl,e⟩:=I.lstM hH;obtain ⟨z2,its2,n2,r2,hl2,e2⟩:=I.lstM hB;have hsz:its.toArray.size + its2.toArray.size ≤ sizeLine:=by rw [List.size_toArray,List.size_toArray];omega
 have hlong:¬ (!its.toArray.isEmpty && Builtin.List.listTooLong (its.toArray.size + its2.toArray.size))=true:=by
  rw [BI hsz,Bool.and_false];exact Bool.false_ne_true
 refine call_meets F.slot_list_extend ⟨_,e,rfl⟩ F.entry_list_extend (F.args_list_extend_2 _ _)
  (AutoSeq1.list_extend_list_list_0 l its.toArray n b its2.toArray n2 hlong (by rw [List.size_toArray];omega) (by omega)) ⟨e,e2,?_⟩
 refine ⟨.non,_,I.lset (its':=its ++ its2) hH e (by simp) (r.append r2) ?_,rfl,q⟩;rw [List.length_append];omega
noncomputable def Jz:V→List V→Hp→VK→Prop:=fun x vs H Q=>∃ l xs,x=.ref l∧vs=[]∧H l=some (.lst xs)∧Q .non (upd H l (.lst xs.reverse))
theorem WB:MtM X "list.reverse" Jz:=by
 intro pins s σ H x vs v us Q I rx rv h;obtain ⟨l,xs,rfl,rfl,hH,q⟩:=h;cases rx;have hus:=rv.zero;subst hus;obtain ⟨z,its,n,r,hl,e⟩:=I.lstM hH;refine call_meets F.slot_list_reverse ⟨_,e,rfl⟩ F.entry_list_reverse (F.args_list_reverse_1 _) (AutoSeq1.list_reverse_list_0 l its.toArray n (by rw [List.size_toArray];omega)) ⟨e,?_⟩;refine ⟨.non,_,I.lset (its':=its.reverse) hH e (by simp) r.reverse ?_,rfl,q⟩;rw [List.length_reverse];omega
noncomputable def nQ:R2:=fun x y H Q=>∃ l b xs zs,x=.ref l∧y=.ref b∧H l=some (.lst xs)∧H b=some (.lst zs)∧xs.length + zs.length ≤ sizeLine∧∀ p,H p=none→Q (.ref p) (upd H p (.lst (xs ++ zs)))
theorem RA:OpR X (binaryOp .Add) nQ:=by
 intro pins s σ H x y v u Q I rx ry h;obtain ⟨l,b,xs,zs,rfl,rfl,hH,hB,hz,q⟩:=h;cases rx;cases ry;obtain ⟨z,its,n,r,hl,e⟩:=I.lstM hH;obtain ⟨z2,its2,n2,r2,hl2,e2⟩:=I.lstM hB;refine PySem.P.add_list e e2 ?_ (by rw [List.size_toArray,List.size_toArray];omega);have ea:its.toArray ++ its2.toArray=(its ++ its2).toArray:=by simp
 rw [ea];exact ⟨.ref _,_,I.lnew (t':=s.toks) (r.append r2) (by rw [List.length_append];omega),rfl,q _ I.fresh⟩
end
section
variable {prog:Program} {w:World} {A:Around} {E:Value→Shared→Prop} {s:Shared}
end
section
variable {X:Cx}
end
end L2
namespace L2
open PySem PySem.Spec PyProof.Rows
section
variable {κ:Type} [DecidableEq κ]
noncomputable def jk (kvs:List (κ × V)) (k:κ):Option V:=(kvs.find? fun kv=>decide (kv.1=k)).map (·.2)
noncomputable def Uq (kvs:List (κ × V)) (k:κ) (v:V):List (κ × V):=
 if (kvs.any fun kv=>decide (kv.1=k))=true then kvs.map (fun kv=>if kv.1=k then (kv.1,v) else kv) else kvs ++ [(k,v)]
noncomputable def AM (kvs:List (κ × V)) (k:κ):List (κ × V):=kvs.filter fun kv=>decide (kv.1 ≠ k)
theorem An {p:κ × V} {r:List (κ × V)} {k:κ} (e:p.1=k):jk (p :: r) k=some p.2:=by simp [jk,List.find?_cons,e]
theorem Gn {p:κ × V} {r:List (κ × V)} {k:κ} (e:¬ p.1=k):jk (p :: r) k=jk r k:=by simp [jk,List.find?_cons,e]
theorem Bu (k:κ):∀ kvs:List (κ × V),(kvs.any fun kv=>decide (kv.1=k))=(jk kvs k).isSome
 | []=>rfl
 | p :: r=>by
  rw [List.any_cons];by_cases e:p.1=k
  ·simp only [An e,decide_eq_true e,Bool.true_or,Option.isSome_some]
  ·rw [Gn e,decide_eq_false e,Bool.false_or];exact Bu k r
theorem Qr (kvs:List (κ × V)) (k:κ) (v:V):(Uq kvs k v).length ≤ kvs.length + 1:=by
 unfold Uq;split
 ·rw [List.length_map];omega
 ·rw [List.length_append,List.length_cons,List.length_nil];omega
theorem qu.isSome_eq {o:Option V} {u:Option Value} (r:qu o u):o.isSome=u.isSome:=by
 cases o with
 | none=>cases u with
  | none=>rfl
  | some _=>exact (show False from r).elim
 | some _=>cases u with
  | none=>exact (show False from r).elim
  | some _=>rfl
theorem qu.getD {o:Option V} {u:Option Value} {d:V} {d':Value} (r:qu o u) (rd:yd d d'):yd (o.getD d) (u.getD d'):=by
 cases o with
 | none=>cases u with
  | none=>exact rd
  | some _=>exact (show False from r).elim
 | some _=>cases u with
  | none=>exact (show False from r).elim
  | some _=>exact r
theorem KV.val {kvs:List (κ × V)} {vs:List (κ × Value)} (r:KV kvs vs) (k:κ):qu (jk kvs k) (valueAt vs k):=by
 unfold KV at r
 induction r with
 | nil=>exact True.intro
 | @cons p q ps qs h t ih=>
  obtain ⟨h1,h2⟩:=h;by_cases e:p.1=k
  ·have e':q.1=k:=h1.symm.trans e;have b:valueAt (q :: qs) k=some q.2:=by simp [valueAt,List.find?_cons,e']
   rw [An e,b];exact h2
  ·have e':¬ q.1=k:=fun z=>e (h1.trans z)
   have b:valueAt (q :: qs) k=valueAt qs k:=by simp [valueAt,List.find?_cons,e']
   rw [Gn e,b];exact ih
theorem KV.any {kvs:List (κ × V)} {vs:List (κ × Value)} (r:KV kvs vs) (k:κ):(kvs.any fun kv=>decide (kv.1=k))=vs.any fun kv=>decide (kv.1=k):=by
 unfold KV at r
 induction r with
 | nil=>rfl
 | cons h t ih=>rw [List.any_cons,List.any_cons,ih,h.1]
theorem KV.repl {kvs:List (κ × V)} {vs:List (κ × Value)} (r:KV kvs vs) (k:κ) {y:V} {u:Value} (ry:yd y u) :
  KV (kvs.map fun kv=>if kv.1=k then (kv.1,y) else kv) (vs.map fun kv=>if kv.1=k then (kv.1,u) else kv):=by
 unfold KV at r ⊢
 induction r with
 | nil=>exact .nil
 | @cons p q ps qs h t ih=>
  rw [List.map_cons,List.map_cons];refine .cons ?_ ih;obtain ⟨h1,h2⟩:=h;by_cases e:p.1=k
  ·rw [if_pos e,if_pos (h1.symm.trans e)];exact ⟨h1,ry⟩
  ·rw [if_neg e,if_neg (fun z=>e (h1.trans z))];exact ⟨h1,h2⟩
theorem KV.put {kvs:List (κ × V)} {vs:List (κ × Value)} (r:KV kvs vs) (k:κ) {y:V} {u:Value} (ry:yd y u):KV (Uq kvs k y) (stored vs k u):=by
 unfold Uq stored;rw [r.any k];by_cases e:(vs.any fun kv=>decide (kv.1=k))=true
 ·rw [if_pos e,if_pos e];exact r.repl k ry
 ·rw [if_neg e,if_neg e];exact Paired.snoc r ⟨rfl,ry⟩
theorem KV.drop {kvs:List (κ × V)} {vs:List (κ × Value)} (r:KV kvs vs) (k:κ):KV (AM kvs k) (without vs k):=by
 unfold KV at r ⊢;unfold AM without
 induction r with
 | nil=>exact .nil
 | @cons p q ps qs h t ih=>
  obtain ⟨h1,h2⟩:=h;rw [List.filter_cons,List.filter_cons];by_cases e:p.1=k
  ·have a:¬ decide (p.1 ≠ k)=true:=by simp [e]
   have b:¬ decide (q.1 ≠ k)=true:=by simp [h1.symm.trans e]
   rw [if_neg a,if_neg b];exact ih
  ·have e':¬ q.1=k:=fun z=>e (h1.trans z)
   have a:decide (p.1 ≠ k)=true:=by simp [e]
   have b:decide (q.1 ≠ k)=true:=by simp [e']
   rw [if_pos a,if_pos b];exact .cons ⟨h1,h2⟩ ih
theorem KV.keys {kvs:List (κ × V)} {vs:List (κ × Value)} (r:KV kvs vs):kvs.map (·.1)=vs.map (·.1):=by
 unfold KV at r
 induction r with
 | nil=>rfl
 | cons h t ih=>rw [List.map_cons,List.map_cons,ih,h.1]
theorem KV.length {kvs:List (κ × V)} {vs:List (κ × Value)} (r:KV kvs vs):kvs.length=vs.length:=Paired.length r
end
theorem EH {P:Program} {w:World} {k:Key} {u:Value} (r:yd (kV k) u):(De P w).is k u=true:=by
 cases k with
 | inl i=>obtain ⟨t,e⟩:=(show ∃ t,u=Value.int i t from r);subst e;exact jz P w i t
 | inr x=>obtain ⟨t,e⟩:=(show ∃ t,u=Value.str x t from r);subst e;exact Xx P w x t
theorem Ax {P:Program} {w:World}:∀ {ks:List Key} {us:List Value},zd (ks.map kV) us→ItemsAre (De P w) ks us
 | [],_,r=>by rw [List.map_nil] at r;cases r;exact .nil
 | k :: ks,_,r=>by
  rw [List.map_cons] at r;cases r with
  | cons h t=>exact .cons (EH h) (Ax t)
noncomputable abbrev KT (H:Hp):List (List Key × V)→List (List Key × Addr × Value)→Prop:=Paired fun p q=>p.1=q.1∧H q.2.1=some (.tup (p.1.map kV))∧yd p.2 q.2.2
theorem KT.val {H:Hp} {kvs:List (List Key × V)} {xs:List (List Key × Addr × Value)} (r:KT H kvs xs) (k:List Key):qu (jk kvs k) ((atKey xs k).map (·.2)):=by
 induction r with
 | nil=>exact True.intro
 | @cons p q ps qs h t ih=>
  obtain ⟨h1,_,h2⟩:=h;by_cases e:p.1=k
  ·have e':q.1=k:=h1.symm.trans e;have b:atKey (q :: qs) k=some q.2:=by simp [atKey,List.find?_cons,e']
   rw [An e,b];exact h2
  ·have e':¬ q.1=k:=fun z=>e (h1.trans z)
   have b:atKey (q :: qs) k=atKey qs k:=by simp [atKey,List.find?_cons,e']
   rw [Gn e,b];exact ih
theorem KT.repl {H:Hp} {kvs:List (List Key × V)} {xs:List (List Key × Addr × Value)} (r:KT H kvs xs) (k:List Key) {y:V} {u:Value} (ry:yd y u) :
  KT H (kvs.map fun kv=>if kv.1=k then (kv.1,y) else kv) (xs.map (putAt k u)):=by
 induction r with
 | nil=>exact .nil
 | @cons p q ps qs h t ih=>
  rw [List.map_cons,List.map_cons];refine .cons ?_ ih;obtain ⟨h1,h2,h3⟩:=h;unfold putAt;by_cases e:p.1=k
  ·rw [if_pos e,if_pos (h1.symm.trans e)];exact ⟨h1,h2,ry⟩
  ·rw [if_neg e,if_neg (fun z=>e (h1.trans z))];exact ⟨h1,h2,h3⟩
theorem KT.put {H:Hp} {kvs:List (List Key × V)} {xs:List (List Key × Addr × Value)} (r:KT H kvs xs) (k:List Key) {b:Addr} {y:V} {u:Value} (hb:H b=some (.tup (k.map kV))) (ry:yd y u) :
  KT H (Uq kvs k y) (storedH xs k b u):=by
 have e:(kvs.any fun kv=>decide (kv.1=k))=(atKey xs k).isSome:=by
  rw [Bu,(r.val k).isSome_eq,Option.isSome_map]
 unfold Uq storedH;rw [e];by_cases q:(atKey xs k).isSome=true
 ·rw [if_pos q,if_pos q];exact r.repl k ry
 ·rw [if_neg q,if_neg q];exact Paired.snoc r ⟨rfl,hb,ry⟩
theorem KT.keeps {H H':Hp} {kvs:List (List Key × V)} {xs:List (List Key × Addr × Value)} (r:KT H kvs xs) (ht:∀ b ys,H b=some (.tup ys)→H' b=some (.tup ys)):KT H' kvs xs:=
 Paired.mapP r fun _ _ z=>⟨z.1,ht _ _ z.2.1,z.2.2⟩
section
variable {P:Program} {w:World} {H:Hp} {h:Heap} {a:Addr}
theorem LN {u:HO} (ok:HOk P w H h) (e:Rd H a u):Bd P w H h a u:=e.ok ok
theorem dI {kvs:List (Key × V)} (ok:HOk P w H h) (e:Rd H a (.dK kvs)):kvs.length ≤ sizeLine∧(a == sysModules)=false∧∃ vs,KV kvs vs∧h.DictOf (De P w) a vs:=
 show Bd P w H h a (.dK kvs) from LN ok e
theorem xP {kvs:List (Key × V)} (ok:HOk P w H h) (e:H a=some (.dK kvs)):kvs.length ≤ sizeLine∧(a == sysModules)=false∧∃ vs,KV kvs vs∧h.DictOf (De P w) a vs:=dI ok (.inl e)
theorem yp {ks:List Key} (ok:HOk P w H h) (e:H a=some (.tup (ks.map kV))):(tupleKind (De P w)).is h ks a:=by
 obtain ⟨_,its,r,o,h1,h2,n,h3⟩:=(show Bd P w H h a (.tup (ks.map kV)) from ok a _ e);exact ⟨o,its.toArray,n,h1,h2,h3,by simpa using Ax r⟩
theorem GI {kvs:List (List Key × V)} (ok:HOk P w H h) (e:Rd H a (.dT kvs)):kvs.length ≤ sizeLine∧(a == sysModules)=false ∧
  ∃ xs,KT H kvs xs∧h.DictOfH (tupleKind (De P w)) a xs:=by
 obtain ⟨z,y,xs,r,o,es,ep,h1,h2,h3,h4,h5⟩:=(show Bd P w H h a (.dT kvs) from LN ok e);refine ⟨z,y,xs,r,o,es,ep,h1,h2,h3,h4,fun x hx=>?_,h5⟩;have all:∀ {l:List (List Key × V)} {m:List (List Key × Addr × Value)},KT H l m→∀ x ∈ m,(tupleKind (De P w)).is h x.1 x.2.1:=by
  intro l m q
  induction q with
  | nil=>intro x hx;exact nomatch hx
  | @cons p q ps qs hq t ih=>
   intro x hx;rcases List.mem_cons.mp hx with e | hx
   ·subst e;exact yp ok (by rw [← hq.1];exact hq.2.1)
   ·exact ih x hx
 exact all r x hx
theorem EI {kvs:List (List Key × V)} (ok:HOk P w H h) (e:H a=some (.dT kvs)):kvs.length ≤ sizeLine∧(a == sysModules)=false ∧
  ∃ xs,KT H kvs xs∧h.DictOfH (tupleKind (De P w)) a xs:=GI ok (.inl e)
end
noncomputable def cC (H:Hp) (a:Addr) (y:V) (r:Option V):Prop:=
 (∃ kvs k,Rd H a (.dK kvs)∧y=kV k∧r=jk kvs k)∨∃ kvs k b,Rd H a (.dT kvs)∧y=.ref b∧H b=some (.tup (k.map kV))∧r=jk kvs k
noncomputable def jH (H:Hp) (a:Addr) (y v:V) (H':Hp):Prop:=
 (∃ kvs k,H a=some (.dK kvs)∧y=kV k∧kvs.length < sizeLine∧H'=upd H a (.dK (Uq kvs k v))) ∨
 ∃ kvs k b,H a=some (.dT kvs)∧y=.ref b∧H b=some (.tup (k.map kV))∧kvs.length < sizeLine∧H'=upd H a (.dT (Uq kvs k v))
theorem cC.k {H:Hp} {a:Addr} {kvs:List (Key × V)} {k:Key} (e:H a=some (.dK kvs)):cC H a (kV k) (jk kvs k):=.inl ⟨kvs,k,.inl e,rfl,rfl⟩
theorem cC.t {H:Hp} {a b:Addr} {kvs:List (List Key × V)} {k:List Key} (e:H a=some (.dT kvs)) (eb:H b=some (.tup (k.map kV))):cC H a (.ref b) (jk kvs k):=.inr ⟨kvs,k,b,.inl e,rfl,eb,rfl⟩
theorem jH.k {H:Hp} {a:Addr} {kvs:List (Key × V)} {k:Key} {v:V} (e:H a=some (.dK kvs)) (hl:kvs.length < sizeLine):jH H a (kV k) v (upd H a (.dK (Uq kvs k v))):=.inl ⟨kvs,k,e,rfl,hl,rfl⟩
theorem jH.t {H:Hp} {a b:Addr} {kvs:List (List Key × V)} {k:List Key} {v:V} (e:H a=some (.dT kvs)) (eb:H b=some (.tup (k.map kV))) (hl:kvs.length < sizeLine) :
  jH H a (.ref b) v (upd H a (.dT (Uq kvs k v))):=.inr ⟨kvs,k,b,e,rfl,eb,hl,rfl⟩
section
variable {X:Cx} {pins:List (Addr × Obj)} {σ:St} {H:Hp} {s:Shared} {a:Addr} {y v:V} {u r:Value} {o:Option V} {A:Around} {E:Value→Shared→Prop}
theorem Inv.big (I:Inv X pins σ H s):sysModules < s.heap.objs.size:=by
 have h:mainGlobals < s.heap.objs.size:=(I.mod.glob.keeps I.bk).lt;exact Nat.lt_trans (by decide) h
theorem IF {Q:Value→Shared→Prop} (hu:A.units + 1 < cLine) (I:Inv X pins σ H s) (g:cC H a y (some v)) (ry:yd y u) (h:∀ w' s',Inv X pins σ H s'→yd v w'→Q w' s') :
  wpAny (model X.prog X.w) A (getItem (.ref a) u) Q E s:=by
 rcases g with ⟨kvs,k,e,ey,l⟩ | ⟨kvs,k,b,e,ey,eb,l⟩
 ·subst ey;obtain ⟨z,hd,vs,rel,dd⟩:=dI I.hok e;obtain ⟨w',hw,rw'⟩:=qu.some_of (v:=v) (o:=valueAt vs k) (by rw [l];exact rel.val k);exact wpAny_getItem_of (EH ry) dd.mapOf hw (h w' _ (I.tok _) rw')
 ·subst ey;cases (show u=Value.ref b from ry);obtain ⟨z,hd,xs,rel,dd⟩:=GI I.hok e;obtain ⟨w',hw,rw'⟩:=qu.some_of (v:=v) (o:=(atKey xs k).map (·.2)) (by rw [l];exact rel.val k);obtain ⟨p,hp,hp2⟩:=Option.map_eq_some_iff.mp hw;refine wpAny_getItem_heap (tupleKind_room_in1 hu) (yp I.hok eb) dd hp ?_;rw [hp2];exact h w' _ (I.tok _) rw'
theorem pK {Q:Value→Shared→Prop} (hu:A.units + 1 < cLine) (I:Inv X pins σ H s) (g:cC H a y o) (ry:yd y u) (h:∀ s',Inv X pins σ H s'→Q (.bool (!o.isSome)) s') :
  wpAny (model X.prog X.w) A (compareOp .NotIn u (.ref a)) Q E s:=by
 rcases g with ⟨kvs,k,e,ey,l⟩ | ⟨kvs,k,b,e,ey,eb,l⟩
 ·subst ey;obtain ⟨z,hd,vs,rel,dd⟩:=dI I.hok e;refine wpAny_notIn_of (EH ry) hd dd.mapOf ?_;rw [← (rel.val k).isSome_eq,← l];exact h _ (I.tok _)
 ·subst ey;cases (show u=Value.ref b from ry);obtain ⟨z,hd,xs,rel,dd⟩:=GI I.hok e;refine wpAny_notIn_heap (tupleKind_room_in1 hu) (yp I.hok eb) hd dd ?_;have q:=(rel.val k).isSome_eq;rw [Option.isSome_map] at q;rw [← q,← l];exact h _ (I.tok _)
theorem mE {h':Heap} {t':Nat} {ob:HO} (I:Inv X pins σ H s) (mu:Mut (H a)) (hs:Heap.SameBut a s.heap h') (he:∃ q,h'.get? a=some q) (new:Bd X.prog X.w (upd H a ob) h' a ob) :
  Inv X pins σ (upd H a ob) { s with heap:=h',toks:=t' }:=
 I.write (x:=a) (e:=a) mu (.inl rfl) (fun b q hb z=>(hs.2 b hb).trans z) he new
theorem UN {P:Program} {w:World} {H':Hp} {h':Heap} {kvs:List (Key × V)} {vs:List (Key × Value)} (z:kvs.length ≤ sizeLine) (hd:(a == sysModules)=false) (rel:KV kvs vs) (dd:h'.DictOf (De P w) a vs) :
  Bd P w H' h' a (.dK kvs):=⟨z,hd,vs,rel,dd⟩
theorem aw {H':Hp} {Q:Unit→Shared→Prop} (hu:A.units + 1 < cLine) (I:Inv X pins σ H s) (g:jH H a y v H') (ry:yd y u) (rv:yd v r) (h:∀ s',Inv X pins σ H' s'→Q () s') :
  wpAny (model X.prog X.w) A (setItem (.ref a) u r) Q E s:=by
 rcases g with ⟨kvs,k,e,ey,l,eH⟩ | ⟨kvs,k,b,e,ey,eb,l,eH⟩
 ·subst ey eH;obtain ⟨z,hd,vs,rel,dd⟩:=xP I.hok e;have hz:vs.length ≤ sizeLine:=by rw [← rel.length];exact z
  have hl:(Uq kvs k v).length ≤ sizeLine:=by have:=Qr kvs k v;omega
  refine wpAny_setItem_pairs (hsz:=hz) (EH ry) dd fun h' dd' hs=>h _ ?_
  have he:∃ q,h'.get? a=some q:=let ⟨q,_,_,hq,_⟩:=dd';⟨q,hq⟩;exact mE I (by rw [e];exact True.intro) hs he (UN hl hd (rel.put k rv) dd')
 ·subst ey eH;cases (show u=Value.ref b from ry);obtain ⟨z,hd,xs,rel,dd⟩:=EI I.hok e;have hz:xs.length ≤ sizeLine:=by rw [← Paired.length rel];exact z
  have hl:(Uq kvs k v).length ≤ sizeLine:=by have:=Qr kvs k v;omega
  refine wpAny_setItem_heap (hsz:=hz) (tupleKind_room_in1 hu) (yp I.hok eb) dd fun h' dd' hs=>h _ ?_
  obtain ⟨q,es,ep,hq,h2,h3,h4,_,h5⟩:=dd';refine mE I (by rw [e];exact True.intro) hs ⟨q,hq⟩ ⟨hl,hd,_,(rel.put k eb rv).keeps fun c ys ec=>?_,q,es,ep,hq,h2,h3,h4,h5⟩;rw [Eb (Bj ec e (fun z=>nomatch z))];exact ec
end
section
variable {X:Cx} {pins:List (Addr × Obj)} {σ:St} {H:Hp} {s:Shared} {a:Addr} {kvs:List (Key × V)} {k:Key} {u:Value} {A:Around} {E:Value→Shared→Prop}
end
noncomputable def GO (i:Expr):Prop:=∀ ov iv,subscripted i false ov iv=operate [ov,iv] (getItem ov iv)
theorem EF {prog:Program} {w:World} {A:Around} {E:Value→Shared→Prop} {s:Shared} {env:Env} {value slice:Expr} {pos:Pos} {T id:String} {Q:Value→Shared→Prop}
  (hl:typeLookup (.type T) "__getitem__"=pure (some (.builtin id))) (hs:GO slice)
  (h:wpAny (model prog w) A (eval value env) (fun o s₁=>wpAny (model prog w) A (eval slice env) (fun i s₂=>s₂.TypeIs o T∧wpAny (model prog w) A (getItem o i) Q E s₂) E s₁) E s) :
  wpAny (model prog w) A (eval (.Subscript value slice pos) env) Q E s:=by
 refine Subscript_ (wpAny_mono h (fun o s₁ h₁=>wpAny_mono h₁ (fun i s₂ h₂=>?_) fun _ _ x=>x) fun _ _ x=>x);obtain ⟨hT,h₂⟩:=h₂;unfold subscriptTail;refine wpAny_bind ?_;rw [getitemInPython_of_ne hT.not_modules];refine wpAny_bind (wpAny_specialOf hT hl ?_);have fin:wpAny (model prog w) A (subscripted slice false o i) (fun r s₃=>wpAny (model prog w) A (letTemporaryGo value o r >>= fun _=>pure r) Q E s₃) E s₂:=by
  rw [hs o i];exact wpAny_operating (wpAny_mono h₂ (fun r s₃ h₃=>wpAny_bind (wpAny_letTemporaryGo (wpAny_pure h₃))) fun _ _ x=>x)
 first
  | exact wpAny_pure (wpAny_bind fin)
  | exact wpAny_bind (wpAny_pure (wpAny_bind fin))
  | exact wpAny_bind fin
theorem Sx {X:Cx} {pins:List (Addr × Obj)} {σ:St} {H:Hp} {s:Shared} {a:Addr} {y:V} {o:Option V} (I:Inv X pins σ H s) (g:cC H a y o):s.TypeIs (.ref a) "dict" := by
 rcases g with ⟨kvs,k,e,_,_⟩ | ⟨kvs,k,b,e,_,_,_⟩
 ·obtain ⟨_,_,vs,_,dd⟩:=dI I.hok e;exact dd.typeIs
 ·obtain ⟨_,_,xs,_,dd⟩:=GI I.hok e;exact dd.typeIs
noncomputable def KM (td ty:TE):TE:=fun σ H Q=>td σ H fun x H1=>ty σ H1 fun y H2=>Jh x fun a=>∃ v,cC H2 a y (some v)∧Q v H2
noncomputable def XG (ty td:TE):TE:=fun σ H Q=>ty σ H fun y H1=>td σ H1 fun x H2=>Jh x fun a=>∃ o,cC H2 a y o∧Q (.bl (!o.isSome)) H2
noncomputable def DM (td ty tv:TE):TS:=fun D σ H=>tv σ H fun v H1=>td σ H1 fun x H2=>ty σ H2 fun y H3=>Jh x fun a=>∃ H4,jH H3 a y v H4∧D.nx σ H4
section
variable {X:Cx} {o i e value:Expr} {pos pos' tpos:Pos} {td ty tv:TE}
theorem KL (hu:X.A.units + 1 < cLine) (ho:PE X o td) (hi:PE X i ty) (hs:GO i):PE X (.Subscript o i pos) (KM td ty):=by
 intro pins s σ H Q I h;refine EF PySem.F.slot_dict_getitem.lookup hs (thn (ho pins s σ H _ I h) fun u s1 ⟨x,H1,I1,rx,q1⟩=>thn (hi pins s1 σ H1 _ I1 q1) fun iv s2 hZ1=>?_);obtain ⟨y,H2,I2,ry,zq⟩:=hZ1;obtain ⟨a,ex,v,g,q2⟩:=Jh.out zq;subst ex;obtain rfl:u=Value.ref a:=rx;exact ⟨Sx I2 g,IF hu I2 g ry fun w' s3 I3 rw'=>⟨v,H2,I3,rw',q2⟩⟩
theorem yE (hu:X.A.units + 1 < cLine) (hi:PE X i ty) (ho:PE X o td):PC X .NotIn i o (XG ty td):=by
 intro pins s σ H Q I h;refine thn (hi pins s σ H _ I h) fun iv s1 ⟨y,H1,I1,ry,q1⟩=>thn (ho pins s1 σ H1 _ I1 q1) fun u s2 hZ1=>?_
 obtain ⟨x,H2,I2,rx,zq⟩:=hZ1;obtain ⟨a,ex,ov,g,q2⟩:=Jh.out zq;subst ex;obtain rfl:u=Value.ref a:=rx;exact pK hu I2 g ry fun s3 I3=>⟨.bl (!ov.isSome),H2,I3,rfl,q2⟩
theorem ML (hu:X.A.units + 1 < cLine) (ho:PE X o td) (hi:PE X i ty) (hv:PE X value tv) (hs:swapsWith value (some (.Subscript o i pos')) pos.line X.env=pure false) :
  PS X (.Assign [.Subscript o i pos'] value pos) (DM td ty tv):=by
 intro pins s σ H D I h;refine wpAny_Assign_Subscript (thn (hv pins s σ H _ I h) fun r s1 ⟨v,H1,I1,rv,q1⟩=>thn (ho pins s1 σ H1 _ I1 q1) fun u s2 ⟨x,H2,I2,rx,q2⟩=>thn (hi pins s2 σ H2 _ I2 q2) fun iv s3 hZ1=>?_) hs;obtain ⟨y,H3,I3,ry,zq⟩:=hZ1;obtain ⟨a,ex,H4,g,q3⟩:=Jh.out zq;subst ex;obtain rfl:u=Value.ref a:=rx;exact aw hu I3 g ry rv fun s4 I4=>⟨σ,H4,I4,q3⟩
end
theorem SI {P:Program} {w:World} {H:Hp} (h:Heap) (hb:sysModules < h.objs.size):Bd P w H (h.push { cls:=.type "dict",data:=.dict #[] }) h.objs.size (.dK []):=
 ⟨Nat.zero_le _,beq_eq_false_iff_ne.mpr (Ne.symm (Nat.ne_of_lt hb)),[],.nil,Heap.DictOf.new h⟩
theorem bI {P:Program} {w:World} {H:Hp} (h:Heap) (hb:sysModules < h.objs.size):Bd P w H (h.push { cls:=.type "dict",data:=.dict #[] }) h.objs.size (.dT []):=
 ⟨Nat.zero_le _,beq_eq_false_iff_ne.mpr (Ne.symm (Nat.ne_of_lt hb)),[],.nil,_,#[],0,Heap.get?_push_size _ rfl,⟨rfl,rfl,rfl⟩,rfl,rfl,List.nodup_nil⟩
noncomputable def jK:TE:=fun _ H Q=>∀ p,H p=none→Q (.ref p) (upd H p (.dK []))
noncomputable def ZI:TE:=fun _ H Q=>∀ p,H p=none→Q (.ref p) (upd H p (.dT []))
section
variable {X:Cx} {pos:Pos}
theorem JH:PE X (.Dict [] [] pos) jK:=fun pins s σ H Q I h=>
 wpAny_Dict_empty ⟨.ref s.heap.objs.size,_,I.laid (a:=s.heap.objs.size) (o:=.dK []) (t':=s.toks) (fun _ _ q=>Heap.get?_push_of_some _ q) (Nat.le_refl _) (SI s.heap I.big),rfl,h _ (I.hok.fresh (Nat.le_refl _))⟩
theorem DI:PE X (.Dict [] [] pos) ZI:=fun pins s σ H Q I h=>
 wpAny_Dict_empty ⟨.ref s.heap.objs.size,_,I.laid (a:=s.heap.objs.size) (o:=.dT []) (t':=s.toks) (fun _ _ q=>Heap.get?_push_of_some _ q) (Nat.le_refl _) (bI s.heap I.big),rfl,h _ (I.hok.fresh (Nat.le_refl _))⟩
end
noncomputable def pN (kvs more:List (Key × V)):List (Key × V):=more.foldl (fun acc kv=>Uq acc kv.1 kv.2) kvs
theorem KV.merge:∀ {more:List (Key × V)} {rs:List (Key × Value)} {kvs:List (Key × V)} {vs:List (Key × Value)},KV more rs→KV kvs vs→KV (pN kvs more) (merged vs rs):=by
 intro more rs kvs vs r;unfold KV at r
 induction r generalizing kvs vs with
 | nil=>intro q;exact q
 | @cons p q ps qs h t ih=>
  intro r0;have e:KV (Uq kvs p.1 p.2) (stored vs q.1 q.2):=by
   have:=r0.put p.1 h.2;rw [← h.1];exact this
  exact ih e
structure M1 (X:Cx) (o:Expr) (m:Str) (apos:Pos) (e:Expr) (cpos:Pos):Prop where
 base:attributeBase o m X.env (eval o X.env)=eval o X.env
 few:((backTo cpos (starEach [e] X.env)).all (fun x=>!x.1) && (backToKw cpos (keywordEach [] X.env)).all (fun x=>x.1.isSome)
  && decide (([e]:List Expr).length + ([]:List Keyword).length + (if ([]:List Keyword).isEmpty then 0 else 1) < 30))=true
 line:(apos.endLine == cpos.line)=true
 trees:backTo cpos (starEach [e] X.env)=[(false,eval e X.env)]
structure M2 (X:Cx) (o:Expr) (m:Str) (apos:Pos) (e f:Expr) (cpos:Pos):Prop where
 base:attributeBase o m X.env (eval o X.env)=eval o X.env
 few:((backTo cpos (starEach [e,f] X.env)).all (fun x=>!x.1) && (backToKw cpos (keywordEach [] X.env)).all (fun x=>x.1.isSome)
  && decide (([e,f]:List Expr).length + ([]:List Keyword).length + (if ([]:List Keyword).isEmpty then 0 else 1) < 30))=true
 line:(apos.endLine == cpos.line)=true
 trees:backTo cpos (starEach [e,f] X.env)=[(false,eval e X.env),(false,eval f X.env)]
section
variable {X:Cx} {pins:List (Addr × Obj)} {σ:St} {H:Hp} {s:Shared} {a:Addr} {y d:V} {u r:Value} {o:Option V} {A:Around} {E:Value→Shared→Prop}
end
section
variable {X:Cx} {o e f:Expr} {apos cpos:Pos} {td ty tx:TE}
end
section
variable {X:Cx} {pins:List (Addr × Obj)} {σ:St} {H:Hp} {s:Shared} {a:Addr} {kvs:List (Key × V)} {A:Around} {E:Value→Shared→Prop}
end
section
variable {X:Cx} {pins:List (Addr × Obj)} {σ:St} {H:Hp} {s:Shared} {a:Addr} {y:V} {u:Value} {A:Around} {E:Value→Shared→Prop}
end
end L2
namespace Att
open PySem PySem.W PySem.Calls PyProof.Rows
theorem Er {P:Params} {h:Heap}:∀ (ns:List Int) (vs:List Value),WellAll P h vs (ns.map WData.int)→IntsAre vs ns:=by
 intro ns
 induction ns with
 | nil=>
  intro vs w;rw [List.map_nil] at w;cases w;exact .nil
 | cons n ns ih=>
  intro vs w;rw [List.map_cons] at w;cases w with
  | cons a b=>
   cases a;exact .cons _ _ (ih _ b)
theorem vD {l:OpenLaw} {n:Nat} (hn:l.most=some n) {P:Params} {h:Heap} {args:List WData} {vals:List Value}
  (hpre:l.row.toRowW.claim.pre args=true) (hwl:WellAll P h vals args) :
  ∃ a vs ns,vals=[Value.ref a]∧args=[WData.list (ns.map WData.int)]∧h.get? a=some { cls:=.type "list",data:=.seq vs.toArray }∧IntsAre vs ns∧ns.length ≤ n:=by
 have hsh:WShape.hasAll [] args [.list .int]=true:=(pre_splitW hpre).1;have hc:l.pre.holds [] { args:=args }=true:=(pre_splitW hpre).2;obtain ⟨d,r,rfl,h1,h2⟩:=hasAllW_cons hsh;obtain rfl:=hasAllW_nil h2;obtain ⟨xs,rfl,h3⟩:=hasW_list h1;obtain ⟨ns,rfl⟩:=items_int h3;have hlen:ns.length ≤ n:=by
  unfold OpenLaw.pre at hc;have h4:(WTm.not (.lt (.lit (.int (n:Int))) (.len (.arg 0)))).holds [] { args:=[.list (ns.map .int)] }=true:=by
   have h4:=(holds_andW hc).1;rw [hn] at h4;exact h4
  have h5:=condW_of h4 (w_not (w_lt w_lit (w_len_list (w_arg rfl))));rw [List.length_map] at h5;refine Nat.le_of_not_lt fun q=>?_
  have q':(n:Int) < ((ns.length:Nat):Int):=by omega
  first
   | (rw [decide_eq_true q'] at h5;exact absurd h5 (by decide))
   | (simp at h5;omega)
 cases hwl with
 | cons w1 w2=>
  cases w2;cases w1 with
  | list ho hall=>exact ⟨_,_,ns,rfl,rfl,ho,Er ns _ hall,hlen⟩
theorem zF (l:OpenLaw) (args:List WData):l.row.toRowW.claim.post args (.bool true) args=true:=
 postW_of (r:=l.row.toRowW) (X:=(true == true))
  (show WShape.has [] (.bool true) .bool=true by first | rfl | decide | simp [WShape.has,WShape.arms,WShape.armsAll])
  (show (WTm.eq .res (.lit (.bool true))).value [] { args:=args,res:=some (.bool true),after:=args }=some (.bool (true == true)) from w_eq_bool (w_res rfl) w_lit) rfl
theorem attach_call {l:OpenLaw} {n:Nat} {q:Program} {loose:List Str} {XP:(Str→Option Value)→Heap→Prop} {YP:World→Heap→Prop} {d:DefRec}
  (hn:l.most=some n) (hdf:d.params.defaults=[])
  (call:∀ (w:World) (s₀ s₁:Shared) (mg mb:Str→Option Value) (fa:Addr) (o:Obj) (pm cd doc:Value) (a:Addr) (vs:List Value) (ns:List Int),
   Ground q loose [] XP w s₀ mg mb s₁.heap→YP w s₁.heap →
   s₁.heap.get? fa=some o→o.data=.func (docDef d.name d.params d.body d.scope pm cd doc)→s₁.heap.CodeRec cd d.name→mg d.name=some (.ref fa) →
   s₁.heap.get? a=some { cls:=.type "list",data:=.seq vs.toArray }→IntsAre vs ns→ns.length ≤ n→s₁.gens=#[] →
   codeAny (model l.prog w) callerA (.call (.ref fa) ⟨[.ref a],[]⟩) (fun r s'=>r=.ok (.ret (.bool true))∧OldK s₁.heap s'.heap∧s'.os=s₁.os∧AllBare s'.gens) s₁) :
  WalkO q loose XP YP l.row.toRowW d [] (fun f vs=>PySem.call f vs):=by
 intro w s₀ s₁ mg mb G Y fa o pm cd doc dV kV ho hd hcd hD hmg hg args vals as hpre hlay hrd hwl hlo;obtain rfl:dV=.none:=Dflts.none hD hdf;obtain rfl:kV=.none:=Dflts.noKw hD;obtain ⟨a,vs,ns,rfl,rfl,hobj,hints,hlen⟩:=vD hn hpre hwl;refine enter_call (codeAny_mono (call w s₀ s₁ mg mb fa o pm cd doc a vs ns G Y ho (fd_plain hd) hcd hmg hobj hints hlen hg) fun r s' hq=>?_);obtain ⟨rfl,h2,h3,h4⟩:=hq;exact ⟨.inl ⟨.bool true,.bool true,[],rfl,fun _=>rfl,.bool true,zF l _,fun _=>⟨List.Pairwise.nil,fun _ hm=>(nomatch hm)⟩⟩,h2,h3,h4⟩
section
variable {prog:Program} {w:World} {A:Around} {E:Value→Shared→Prop} {s:Shared} {K:Frag}
end
end Att
namespace L2
open PySem PySem.Spec PyProof.Rows
theorem gx:∀ {vs:List Value} {ns:List Int},IntsAre vs ns→zd (ns.map V.int) vs
 | _,_,.nil=>.nil
 | _,_,.cons n t h=>.cons ⟨t,rfl⟩ (gx h)
noncomputable def rN (H:Hp):Prop:=∀ b,H b=none∨∃ o xs,H b=some (.frz o (.lst xs))
theorem pI {P:Program} {w:World} {K:PySem.W.Frag} {mg mb:Str→Option Value} {CX:CXT} {k:Nat} {fa a:Addr} {fd:FuncData} {x:Str} {sp:Sp} {s₁:Shared} {vs:List Value} {ns:List Int}
  (KX:K.In s₁.heap) (hns:s₁.heap.Ns mainGlobals mg) (hb:s₁.heap.Ns builtinsNs mb) (hbb:∀ x:Str,x ≠ "__name__" → mb x=bootBuiltins x) (hlim:s₁.heap.NoLimit) (hg:s₁.gens=#[])
  (ha:s₁.heap.get? a=some { cls:=.type "list",data:=.seq vs.toArray }) (hi:IntsAre vs ns) (hl:ns.length ≤ sizeLine) (hr:pk k callerA)
  (F:∀ base:Heap,K.In base→base.Ns mainGlobals mg→Ub P w K mg base CX k fa fd [x] sp) (hbind:∀ (s:Shared) (u:Value),BindsTo s fd ⟨[u],[]⟩ [(x,u)])
  (hsp:∀ H:Hp,rN H→SqL K H a (ns.map V.int)→sp [.ref a] H (fun v _=>v=.bl true) fun _ _ _=>False)
  (hCX:∀ H e s',CX [] H s₁ (fun _ _ _=>False) e s'→False) :
  codeAny (model P w) callerA (.call (.ref fa) ⟨[.ref a],[]⟩) (fun r s'=>r=.ok (.ret (.bool true))∧OldK s₁.heap s'.heap∧s'.os=s₁.os∧AllBare s'.gens) s₁:=by
 have rv:=gx hi;have lenV:=hi.length;have core:∀ H:Hp,rN H→SqL K H a (ns.map V.int)→HOk P w H s₁.heap→(∀ b,H b ≠ none→b=a)→(H a ≠ none→K.lookup a=none) →
   codeAny (model P w) callerA (.call (.ref fa) ⟨[.ref a],[]⟩) (fun r s'=>r=.ok (.ret (.bool true))∧OldK s₁.heap s'.heap∧s'.os=s₁.os∧AllBare s'.gens) s₁:=by
  intro H hO hS hok hA hK;have base_of:∀ {b:Addr} {o:Obj},s₁.heap.get? b=some o→H b=none→(uI s₁.heap H).get? b=some o:=fun e n=>oI e n
  have noA:∀ {b:Addr} {o:Obj} {es:Array DictEntry} {ep:Nat},s₁.heap.get? b=some o→o.data=.dict es ep→H b=none:=fun {b o es ep} e d=>by
   cases q:H b with
   | none=>rfl
   | some u=>
    have e':b=a:=hA b (by rw [q];simp);subst e';rw [ha] at e;cases e;have d':Data.seq vs.toArray _=Data.dict es ep:=d;cases d'
  have nsK:∀ {b:Addr} {m:Str→Option Value},s₁.heap.Ns b m→(uI s₁.heap H).Ns b m:=fun {b m} ⟨o,es,ep,e,d,r⟩=>⟨o,es,ep,base_of e (noA e d),d,r⟩
  have hKb:K.In (uI s₁.heap H):=fun b o e=>base_of (KX b o e) (by
   cases q:H b with
   | none=>rfl
   | some u=>
    have e':b=a:=hA b (by rw [q];simp);subst e';rw [hK (by rw [q];simp)] at e;cases e)
  have hM:Mod K mg (uI s₁.heap H):=⟨hKb,nsK hns,⟨mb,nsK hb,hbb⟩,let ⟨mc,h1,h2⟩:=hlim;⟨mc,nsK h1,h2⟩⟩;have e0:KG P w K mg (uI s₁.heap H) callerA [] s₁ H:=⟨rfl,hM,fun b o e=>TL e,Nat.le_of_eq (GD _ _),trivial,fun b hb=>absurd (show b ∈ ([]:List Addr) from hb) (by simp),hok,.of_eq hg⟩;refine codeAny_mono ((F _ hKb (nsK hns)).run callerA [] s₁ H ⟨[.ref a],[]⟩ [.ref a] [.ref a] _ _ hr e0 (hbind s₁ (.ref a)) (.cons rfl .nil) (hsp H hO hS)) fun r s' h=>?_
  cases r with
  | error e=>exact (hCX H e s' h).elim
  | ok fl=>
   cases fl with
   | next=>exact False.elim h
   | brk=>exact False.elim h
   | cont=>exact False.elim h
   | ret u=>
    obtain ⟨v,H',os,bare,un,hok',r',q⟩:=h;have q':v=.bl true:=q;subst q';obtain rfl:u=Value.bool true:=r';refine ⟨rfl,OldK.of_keep fun b o e=>?_,os,bare⟩;cases q:H b with
    | none=>exact un.keep b o e q (by intro z;exact absurd (show b ∈ ([]:List Addr) from z) (by simp)) (by simp)
    | some u=>
     rcases hO b with z | ⟨ob,xs,z⟩
     ·rw [q] at z;cases z
     ·have z2:=un.frzs b ob _ z;obtain ⟨e1,_⟩:=hok b _ z;obtain ⟨e2,_⟩:=hok' b _ z2;rw [e] at e1;cases e1;exact e2
 cases hk:K.lookup a with
 | some o=>
  have e:=KX a o hk;rw [ha] at e;cases e;refine core (fun _=>none) (fun _=>.inl rfl) (.inr ⟨_,vs.toArray,_,hk,rfl,rfl,rfl,by rw [List.size_toArray,lenV];exact hl,by simpa using rv⟩) (fun b u z=>by have z':(none:Option HO)=some u:=z;cases z') (fun b z=>absurd rfl z) fun z=>absurd rfl z
 | none=>
  refine core (fun b=>if b=a then some (.frz { cls:=.type "list",data:=.seq vs.toArray } (.lst (ns.map V.int))) else none) (fun b=>?_) (.inl (.inr ⟨{ cls:=.type "list",data:=.seq vs.toArray },if_pos rfl⟩)) (fun b u z=>?_) (fun b z=>?_) fun _=>hk
  ·by_cases hb:b=a
   ·exact .inr ⟨_,_,if_pos hb⟩
   ·exact .inl (if_neg hb)
  ·by_cases hb:b=a
   ·have z':=(if_pos hb).symm.trans z;cases z';subst hb;exact ⟨ha,by rw [List.length_map];exact hl,vs,_,rv,ha⟩
   ·have z':=(if_neg hb).symm.trans z;cases z'
  ·by_cases hb:b=a
   ·exact hb
   ·exact absurd (if_neg hb) z
end L2
namespace L2
open PySem PySem.Spec PyProof.Rows
noncomputable abbrev KOf {K:PySem.W.Frag} {h:Heap} (_:K.In h):PySem.W.Frag:=K
theorem uL {l:PySem.W.OpenLaw} {n k:Nat} {q:Program} {loose:List Str} {XP:(Str→Option Value)→Heap→Prop} {YP:World→Heap→Prop} {d:DefRec} {K:Params→PySem.W.Frag} {CX:World→CXT} {sp:World→Sp} {x:Str}
  (hn:l.most=some n) (hn2:n ≤ sizeLine) (hdf:d.params.defaults=[]) (hr:pk k callerA)
  (hY:∀ (w:World) (h:Heap),YP w h→(K w.params).In h)
  (F:∀ (w:World) (mg:Str→Option Value) (fa:Addr) (h:Heap),(K w.params).In h→h.Ns mainGlobals mg→mg d.name=some (.ref fa) →
   ∃ fd:FuncData,(∀ (s:Shared) (u:Value),BindsTo s fd ⟨[u],[]⟩ [(x,u)]) ∧
    ∀ base:Heap,(K w.params).In base→base.Ns mainGlobals mg→Ub l.prog w (K w.params) mg base (CX w) k fa fd [x] (sp w))
  (hsp:∀ (w:World) (H:Hp) (a:Addr) (ns:List Int),ns.length ≤ n→rN H→SqL (K w.params) H a (ns.map V.int)→sp w [.ref a] H (fun v _=>v=.bl true) fun _ _ _=>False)
  (hCX:∀ (w:World) (H:Hp) (s:Shared) (e:Value) (s':Shared),CX w [] H s (fun _ _ _=>False) e s'→False) :
  PySem.W.WalkO q loose XP YP l.row.toRowW d [] (fun f vs=>PySem.call f vs):=by
 refine Att.attach_call hn hdf fun w s₀ s₁ mg mb fa o pm cd doc a vs ns G Y ho hd hcd hmg hobj hints hlen hg=>?_
 have KX:=hY w _ Y;obtain ⟨fd,hb,hF⟩:=F w mg fa _ KX G.T.g hmg;exact pI KX G.T.g G.T.b G.T.builtins G.T.nolimit hg hobj hints (Nat.le_trans hlen hn2) hr hF hb (fun H hO hS=>hsp w H a ns hlen hO hS) fun H e s'=>hCX w H s₁ e s'
theorem aI {l:PySem.W.OpenLaw} {n k:Nat} {q:Program} {loose:List Str} {XP:(Str→Option Value)→Heap→Prop} {YP:World→Heap→Prop} {d:DefRec} {K:Params→PySem.W.Frag} {CX:CXT} {sp:PySem.W.Frag→Sp} {x:Str}
  (hn:l.most=some n) (hn2:n ≤ sizeLine) (hdf:d.params.defaults=[]) (hr:pk k callerA)
  (hY:∀ (w:World) (h:Heap),YP w h→(K w.params).In h)
  (F:∀ (w:World) (mg:Str→Option Value) (fa:Addr) (h:Heap),(K w.params).In h→h.Ns mainGlobals mg→mg d.name=some (.ref fa) →
   ∃ fd:FuncData,(∀ (s:Shared) (u:Value),BindsTo s fd ⟨[u],[]⟩ [(x,u)]) ∧
    ∀ base:Heap,(K w.params).In base→base.Ns mainGlobals mg→Ub l.prog w (K w.params) mg base CX k fa fd [x] (sp (K w.params)))
  (hsp:∀ (K:PySem.W.Frag) (H:Hp) (a:Addr) (ns:List Int),ns.length ≤ n→rN H→SqL K H a (ns.map V.int)→sp K [.ref a] H (fun v _=>v=.bl true) fun _ _ _=>False)
  (hCX:∀ (H:Hp) (s:Shared) (e:Value) (s':Shared),CX [] H s (fun _ _ _=>False) e s'→False) :
  PySem.W.WalkO q loose XP YP l.row.toRowW d [] (fun f vs=>PySem.call f vs):=
 uL (K:=K) (CX:=fun _=>CX) (sp:=fun w=>sp (K w.params)) hn hn2 hdf hr hY F (fun w H a ns h1 h2 h3=>hsp (K w.params) H a ns h1 h2 h3) fun _ H s e s'=>hCX H s e s'
end L2
namespace L2
open PySem PySem.Spec PyProof.Rows
noncomputable def Ad (s:Stmt) (j:Nat):Stmt:=match s with
 | .ClassDef _ _ _ body _ _ _ _ _ _ _=>body.getD j (.Pass ⟨0,0,0,0⟩)
 | _=>.Pass ⟨0,0,0,0⟩
noncomputable def Au (s:Stmt):Arguments:=match s with
 | .FunctionDef _ a _ _ _ _ _ _ _ _=>a
 | _=>{ posonlyargs:=[],args:=[],vararg:=none,kwonlyargs:=[],kw_defaults:=[],kwarg:=none,defaults:=[] }
noncomputable def Jr (s:Stmt):List Stmt:=match s with
 | .FunctionDef _ _ b _ _ _ _ _ _ _=>b
 | _=>[]
noncomputable def ub (s:Stmt):Scope:=match s with
 | .FunctionDef _ _ _ _ _ _ sc _ _ _=>sc
 | _=>{ kind:=.function,names:=[],isGenerator:=false,isCoroutine:=false }
noncomputable abbrev CX0:CXT:=fun _ _ _ _ _ _=>False
noncomputable abbrev E0:XK:=fun _ _ _=>False
theorem Ce {X:Cx}:jn CX0 X E0:=fun _ _ _ _ _ _ _ h=>h.elim
structure Fun (K:PySem.W.Frag) (x qual:Str) (st:Stmt) (f:Addr) (fd:FuncData):Prop where
 ex:∃ (oc:Value) (od:Option Addr) (kV doc pm:Value) (an:Option Addr) (cdv ct:Value) (osl:Array (Option Value)),
  fd=PySem.W.fnOf x qual (Au st) (Jr st) (ub st) .none kV doc pm an cdv ct∧K.lookup f=some ⟨oc,od,.func fd,osl⟩∧PySem.W.codeIn K cdv qual=true
 kp:PySem.W.keepIn K (.ref f)=true
section
variable {P:Program} {w:World} {K:PySem.W.Frag} {mg:Str→Option Value} {base:Heap}
theorem Fun.ok {x qual:Str} {st:Stmt} {f:Addr} {fd:FuncData} {N ps:List Str} {k:Nat} {sp:Sp} (F:Fun K x qual st f fd) (S:Gb N ps (ub st)) (len:∀ vs H Q E,sp vs H Q E→vs.length=ps.length)
  (hbody:∀ (cdv:Value) (A:Around) (outer:List Env) (s:Shared) (H:Hp) (vs:List V) (Q:VK) (E:XK),pk k (A.deeper (envOfC qual (ub st) s.heap.objs.size f cdv))→sp vs H Q E →
   ∃ t,PSs (fM CX0 P w K mg base N qual (ub st) f cdv A outer s H E).nox (Jr st) t∧t { nx:=fun _ H'=>Q .non H',rt:=Q } (start N vs) H):Ub P w K mg base CX0 (k + 1) f fd ps sp:=by
 obtain ⟨oc,od,kV,doc,pm,an,cdv,ct,osl,rfl,lk,hcd⟩:=F.ex;refine yP lk hcd S len fun A outer s H vs Q E hr hsp=>?_
 obtain ⟨t,h,q⟩:=hbody cdv A outer s H vs Q E hr hsp;exact ⟨t,h.nox,q⟩
theorem Fun.binds {x qual:Str} {st:Stmt} {f:Addr} {fd:FuncData} {ps:List Str} (F:Fun K x qual st f fd)
  (h:∀ (kV doc pm:Value) (an:Option Addr) (cdv ct:Value) (us:List Value),us.length=ps.length→bindArgs (PySem.W.fnOf x qual (Au st) (Jr st) (ub st) .none kV doc pm an cdv ct) ⟨us,[]⟩=pure (ps.zip us)):gc K fd ps []:=by
 obtain ⟨oc,od,kV,doc,pm,an,cdv,ct,osl,rfl,lk,hcd⟩:=F.ex;exact .all (h kV doc pm an cdv ct)
theorem WN {x qual:Str} {st:Stmt} {f:Addr} {oc:Value} {od an:Option Addr} {osl:Array (Option Value)} {kV doc pm cdv ct:Value} (l:K.lookup f=some ⟨oc,od,.func (PySem.W.fnOf x qual (Au st) (Jr st) (ub st) .none kV doc pm an cdv ct),osl⟩)
  (c:PySem.W.codeIn K cdv qual=true) (k:PySem.W.keepIn K (.ref f)=true):Fun K x qual st f (PySem.W.fnOf x qual (Au st) (Jr st) (ub st) .none kV doc pm an cdv ct):=⟨⟨oc,od,kV,doc,pm,an,cdv,ct,osl,rfl,l,c⟩,k⟩
end
theorem Xl {A:Around} {k:Nat} (hr:pk k A):A.units + 1 < cLine:=Nat.lt_of_le_of_lt (Nat.add_le_add_left (by decide:1 ≤ 64) _) hr.units
section
variable {X:Cx}
theorem pv (i:Nat) {x:Str} {pos:Pos} (hN:X.N[i]? = some x:=by rfl) (hv:Vis X.env.scope x:=by first | exact Or.inl rfl | exact Or.inr (Or.inl rfl) | exact Or.inr (Or.inr rfl)) (hd:(x == ("__debug__" : Str))=false:=by decide)
  (hcd:(x == ("__classdict__" : Str))=false:=by decide):PE X (.Name x pos) (XO i):=BM hN hv hd hcd
end
noncomputable def Sb (H H':Hp):Prop:=∀ b o,H b=some o→H' b=some o
theorem Sb.refl (H:Hp):Sb H H:=fun _ _ h=>h
theorem Sb.trans {H H1 H2:Hp} (a:Sb H H1) (b:Sb H1 H2):Sb H H2:=fun c o h=>b c o (a c o h)
theorem Sb.free {H H':Hp} (e:Sb H H') {l:Addr} (h:H' l=Option.none):H l=Option.none:=by
 cases q:H l with
 | none=>rfl
 | some o=>
  rw [e l o q] at h;cases h
theorem Sb.seq {K:PySem.W.Frag} {H H':Hp} {a:Addr} {xs:List V} (e:Sb H H') (h:SqL K H a xs):SqL K H' a xs:=by
 rcases h with (h | ⟨o,h⟩) | h
 ·exact .inl (.inl (e _ _ h))
 ·exact .inl (.inr ⟨o,e _ _ h⟩)
 ·exact .inr h
section
variable {κ:Type} [DecidableEq κ]
theorem mH {kvs:List (κ × V)} {k:κ} (h:jk kvs k=none):¬ k ∈ kvs.map (·.1):=by
 intro m;obtain ⟨p,hp,e⟩:=List.mem_map.mp m;have q:(kvs.any fun kv=>decide (kv.1=k))=true:=List.any_eq_true.mpr ⟨p,hp,decide_eq_true e⟩;rw [Bu,h] at q;exact absurd q (by simp)
end
end L2
set_option maxHeartbeats 4000000
namespace L2
open PySem PySem.Spec PyProof.Rows
noncomputable def Rv (cells:List (Str × Addr)):List (Str × NameKind)→List (Str × Addr)→List (Str × Addr)
 | [],acc=>acc
 | (n,k) :: r,acc=>if k == .free then (match cells.lookup n with | some c=>Rv cells r ((n,c) :: acc) | none=>Rv cells r acc) else Rv cells r acc
theorem ky {env:Env}:∀ (names:List (Str × NameKind)) (acc:List (Str × Addr)),(∀ y ∈ names,y.2=.free→∃ c,env.cells.lookup y.1=some c) →
  (forIn names acc (fun (x:Str × NameKind) (cs:List (Str × Addr))=>(if (x.2 == .free)=true then do let a ← cellOf env x.1;pure (ForInStep.yield ((x.1,a) :: cs)) else pure (ForInStep.yield cs):Sem (ForInStep (List (Str × Addr))))))=pure (Rv env.cells names acc)
 | [],acc,_=>rfl
 | (n,k) :: r,acc,h=>by
  have hr:∀ y ∈ r,y.2=.free→∃ c,env.cells.lookup y.1=some c:=fun y hy=>h y (List.mem_cons_of_mem _ hy)
  rw [List.forIn_cons];by_cases hk:(k == NameKind.free)=true
  ·have e:k=.free:=by simpa using hk
   obtain ⟨c,hc⟩:=h (n,k) List.mem_cons_self e;have hc':env.cells.lookup n=some c:=hc;simp only [Rv,hk,if_true,hc',cellOf];exact ky r _ hr
  ·simp only [Rv,hk];exact ky r _ hr
theorem gD {scope:Scope} {env:Env} (h:∀ y ∈ scope.names,y.2=.free→∃ c,env.cells.lookup y.1=some c):closureFor scope env=pure (Rv env.cells scope.names []):=by
 unfold closureFor;exact congrArg (fun t=>t >>= pure) (ky scope.names [] h)
theorem Zp {cells:List (Str × Addr)}:∀ (names:List (Str × NameKind)) (acc:List (Str × Addr)) {x:Str} {c:Addr},(Rv cells names acc).lookup x=some c→acc.lookup x=some c∨cells.lookup x=some c
 | [],acc,x,c,h=>.inl h
 | (n,k) :: r,acc,x,c,h=>by
  unfold Rv at h;split at h
  ·cases q:cells.lookup n with
   | none=>rw [q] at h;exact Zp r acc h
   | some d=>
    rw [q] at h;rcases Zp r _ h with z | z
    ·rw [List.lookup_cons] at z;by_cases hx:(x == n)=true
     ·rw [hx] at z;have e:x=n:=by simpa using hx
      subst e
      right;rw [q];exact z
     ·have hx':(x == n)=false:=by simpa using hx
      rw [hx'] at z;exact .inl z
    ·exact .inr z
  ·exact Zp r acc h
theorem Mn {cells:List (Str × Addr)}:∀ (names:List (Str × NameKind)) (acc:List (Str × Addr)) {x:Str} {c:Addr},acc.lookup x=some c→cells.lookup x=some c→(Rv cells names acc).lookup x=some c
 | [],acc,x,c,h,_=>h
 | (n,k) :: r,acc,x,c,h,hc=>by
  unfold Rv;split
  ·cases q:cells.lookup n with
   | none=>exact Mn r acc h hc
   | some d=>
    refine Mn r _ ?_ hc;rw [List.lookup_cons];by_cases hx:(x == n)=true
    ·have e:x=n:=by simpa using hx
     subst e;rw [hx];rw [q] at hc;exact hc
    ·have hx':(x == n)=false:=by simpa using hx
     rw [hx'];exact h
  ·exact Mn r acc h hc
theorem En {cells:List (Str × Addr)}:∀ (names:List (Str × NameKind)) (acc:List (Str × Addr)) {x:Str} {c:Addr},(x,NameKind.free) ∈ names→cells.lookup x=some c→(Rv cells names acc).lookup x=some c
 | [],_,_,_,h,_=>nomatch h
 | (n,k) :: r,acc,x,c,h,hc=>by
  rcases List.mem_cons.mp h with e | h
  ·cases e;unfold Rv;rw [if_pos (by decide),hc];refine Mn r _ ?_ hc;rw [List.lookup_cons];simp
  ·unfold Rv;split
   ·cases q:cells.lookup n with
    | none=>exact En r acc h hc
    | some d=>exact En r _ h hc
   ·exact En r acc h hc
theorem yo {α:Type}:∀ {l:List (Str × α)} {x:Str} {a:α},l.lookup x=some a→(x,a) ∈ l
 | [],_,_,h=>by simp at h
 | (n,b) :: r,x,a,h=>by
  rw [List.lookup_cons] at h;by_cases hx:(x == n)=true
  ·have e:x=n:=by simpa using hx
   subst e;rw [hx] at h;have e2:b=a:=Option.some.inj h;subst e2;exact List.mem_cons_self
  ·have hx':(x == n)=false:=by simpa using hx
   rw [hx'] at h;exact List.mem_cons_of_mem _ (yo h)
theorem qy {env:Env} {scope:Scope} {x:Str} {k:NameKind} (h:(relabel scope env).names.lookup x=some k) (hk:k=.cell∨k=.free) (hc:∀ y ∈ scope.names,y.2 ≠ .cell):(x,NameKind.free) ∈ scope.names:=by
 have h1:=yo h;obtain ⟨⟨n,j⟩,hm,e⟩:=List.mem_map.mp h1;have e':(if (j == NameKind.free && env.scope.kind == .function && env.kindOf n == some .cell)=true then (n,NameKind.cell) else (n,j))=(x,k):=e;split at e'
 ·rename_i hcond;have e1:n=x:=(Prod.mk.inj e').1;subst e1;have hj:j=.free:=by
   simp only [Bool.and_eq_true] at hcond;simpa using hcond.1.1
  subst hj;exact hm
 ·have e1:n=x:=(Prod.mk.inj e').1;have e2:j=k:=(Prod.mk.inj e').2;subst e1;subst e2;rcases hk with z | z
  ·exact absurd z (hc _ hm)
  ·subst z;exact hm
theorem Am {env:Env} {scope:Scope} {x:Str} (h:scope.names.lookup x=some .free):(relabel scope env).names.lookup x=some .cell∨(relabel scope env).names.lookup x=some .free:=by
 have all:∀ (names:List (Str × NameKind)),names.lookup x=some .free →
   (names.map fun (n,k)=>if (k == NameKind.free && env.scope.kind == .function && env.kindOf n == some .cell) then (n,NameKind.cell) else (n,k)).lookup x=some .cell ∨
   (names.map fun (n,k)=>if (k == NameKind.free && env.scope.kind == .function && env.kindOf n == some .cell) then (n,NameKind.cell) else (n,k)).lookup x=some .free:=by
  intro names
  induction names with
  | nil=>intro h;simp at h
  | cons p r ih=>
   obtain ⟨n,k⟩:=p;intro h;rw [List.map_cons];by_cases hx:(x == n)=true
   ·simp only [List.lookup_cons,hx] at h;have hk:k=.free:=Option.some.inj h;subst hk;by_cases hc:(NameKind.free == NameKind.free && env.scope.kind == .function && env.kindOf n == some .cell)=true
    ·left;simp only [if_pos hc,List.lookup_cons,hx]
    ·right;simp only [if_neg hc,List.lookup_cons,hx]
   ·have hx':(x == n)=false:=by simpa using hx
    simp only [List.lookup_cons,hx'] at h;by_cases hc:(k == NameKind.free && env.scope.kind == .function && env.kindOf n == some .cell)=true
    ·simp only [if_pos hc,List.lookup_cons,hx'];exact ih h
    ·simp only [if_neg hc,List.lookup_cons,hx'];exact ih h
 exact all scope.names h
noncomputable abbrev Cx.block (X:Cx) (scope:Scope) (C:Addr) (N:List Str) (s:Shared) (H:Hp) (fp:List Addr):Cx where
 prog:=X.prog
 w:=X.w
 K:=X.K
 mg:=X.mg
 base:=X.base
 A:=X.A
 N:=N
 s₀:=s
 H₀:=H
 env:=compEnvC scope (Rv X.env.cells scope.names []) C X.env
 outer:=X.stack
 stack:=X.stack
 ex:=fp
 fn:=fun _=>false
 calm:=X.calm
 pn:=[]
 xe:=fun _ _=>False
structure ap (env:Env) (scope:Scope):Prop where
 kind:scope.kind=.function
 nocell:∀ y ∈ scope.names,y.2 ≠ .cell
 fr:∀ y ∈ scope.names,y.2=.free→env.kindOf y.1=some .cell∨env.kindOf y.1=some .free
 loc:∀ x ∈ scope.names,x.2=.local→scope.names.lookup x.1=some .local
noncomputable def blk (sel:List (Option Nat)) (σ:St):St:=sel.map fun o=>o.bind fun j=>(σ[j]?).join
noncomputable def bF (M:List Str) (scope:Scope) (N:List Str) (sel:List (Option Nat)):Prop:=
 sel.length=N.length∧∀ (i j:Nat) (x:Str),sel[i]? = some (some j)→N[i]? = some x→M[j]? = some x∧scope.names.lookup x=some .free
section
variable {X:Cx} {pins:List (Addr × Obj)} {σ:St} {H:Hp} {s:Shared} {scope:Scope} {fp:List Addr} {C:Addr} {N:List Str}
theorem ap.cells (S:ap X.env scope) (ok:X.Ok):∀ y ∈ scope.names,y.2=.free→∃ c,X.env.cells.lookup y.1=some c:=fun y hy e=>ok.has y.1 (S.fr y hy e)
theorem bu {x:Str} {c:Addr} (h:(Rv X.env.cells scope.names []).lookup x=some c):X.env.cells.lookup x=some c:=by
 rcases Zp _ _ h with z | z
 ·simp at z
 ·exact z
theorem DA (I:Inv X pins σ H s) (S:ap X.env scope) (hf:∀ b ∈ fp,mv X pins H b) (hs:∀ b ∈ fp,b < s.heap.objs.size) (hC:s.heap.objs.size ≤ C):(X.block scope C N s H fp).Ok where
 mod:=I.ok.mod
 kind:=S.kind
 glob:=I.ok.glob
 blt:=I.ok.blt
 above:=hC
 inj:=fun x y c h1 h2=>I.ok.inj x y c (bu h1) (bu h2)
 has:=fun x h=>by
  have hk:∃ k,(relabel scope X.env).names.lookup x=some k∧(k=.cell∨k=.free):=by
   rcases h with h | h
   ·exact ⟨_,h,.inl rfl⟩
   ·exact ⟨_,h,.inr rfl⟩
  obtain ⟨k,h1,h2⟩:=hk;have hm:=qy h1 h2 S.nocell;obtain ⟨c,hc⟩:=S.cells I.ok _ hm rfl;exact ⟨c,En _ _ hm hc⟩
 cab:=fun _ _ h _=>nomatch h
 hd:=I.ok.hd
 frames:=I.ok.frames
 stk:=.inl rfl
 exf:=fun b hb=>⟨Nat.ne_of_lt (Nat.lt_of_lt_of_le (hs b hb) hC),fun x c e=>(hf b hb).2.2.2.2.1 x c (bu e)⟩
 bs:=I.bs
 bsz:=Nat.le_trans I.ok.bsz I.sz
 noex:=fun b o e hb=>by
  rcases (hf b hb).2.2.2.1 with z | z
  ·exact I.ok.noex b o e z
  ·exact absurd (Nat.lt_of_lt_of_le (Nat.lt_of_lt_of_le (Heap.lt_size e) I.ok.bsz) z) (Nat.lt_irrefl _)
 exfs:=fun b hb hz=>by
  rcases List.mem_cons.mp (I.stkSub b hz) with z | z
  ·exact (hf b hb).2.1 z
  ·exact (hf b hb).2.2.1 z
 funs:=I.stack
 frf:=I.stkFree
theorem zD {h':Heap} {t':Nat} {m:Str→Option Value} {sel:List (Option Nat)} (I:Inv X pins σ H s) (S:ap X.env scope) (hf:∀ b ∈ fp,mv X pins H b) (hs:∀ b ∈ fp,b < s.heap.objs.size) (hC:s.heap.objs.size ≤ C)
  (k:∀ b o,s.heap.get? b=some o→h'.get? b=some o) (hn:h'.Ns C m) (hsel:bF X.N scope N sel):Inv (X.block scope C N s H fp) [] (blk sel σ) H { s with heap:=h',toks:=t' } where
 ok:=DA I S hf hs hC
 os:=rfl
 bare:=I.bare
 base:=Un.kept k
 loc:=by
  refine ⟨m,hn,fun i x v e1 e2 e3=>?_⟩;obtain ⟨m0,hn0,hl⟩:=I.loc;obtain ⟨j,ej,eσ⟩:∃ j,sel[i]? = some (some j)∧σ[j]? = some (some v):=by
   unfold blk at e2;rw [List.getElem?_map] at e2;cases q:sel[i]? with
   | none=>rw [q] at e2;cases e2
   | some o=>
    rw [q] at e2;cases o with
    | none=>cases e2
    | some j=>
     refine ⟨j,rfl,?_⟩;have e2':(σ[j]?).join=some v:=Option.some.inj e2;cases r:σ[j]? with
     | none=>rw [r] at e2';cases e2'
     | some z=>rw [r] at e2';exact congrArg some e2'
  obtain ⟨eN,hfr⟩:=hsel.2 i j x ej e1;have hm:=yo hfr;have hk:=S.fr _ hm rfl;have hv:Vis X.env.scope x:=hk.elim (fun z=>.inr (.inl z)) fun z=>.inr (.inr z)
  obtain ⟨u,r,l⟩:=hl j x v eN eσ hv;refine ⟨u,r,?_⟩;rcases l with ⟨hloc,_⟩ | ⟨_,c,hc,hcell⟩
  ·rcases hk with z | z <;> (have z':X.env.kindOf x=_:=z;rw [hloc] at z';cases z')
  ·refine .inr ⟨?_,c,En _ _ hm hc,?_⟩
   ·exact Am hfr
   ·obtain ⟨o,ho,hd⟩:=hcell;exact ⟨o,k _ _ ho,hd⟩
 cell:=fun x c e=>by
  obtain ⟨v,o,ho,hd⟩:=I.cell x c (bu e);exact ⟨v,o,k _ _ ho,hd⟩
 free:=I.hok.fresh hC
 freeC:=fun x c e=>I.freeC x c (bu e)
 pin:=fun p hp=>nomatch hp
 hok:=I.hok.kept k
 len:=by unfold blk;rw [List.length_map];exact hsel.1
theorem Inv.adopt {a:Addr} {o:HO} (I:Inv X pins σ H s) (fo:mv X pins H a) (new:Bd X.prog X.w (upd H a o) s.heap a o):Inv X pins σ (upd H a o) s:=by
 obtain ⟨hn,hL,hfs,hex,hcl,hpn⟩:=fo;refine I.step (g':=s.gens) (d':=s.drawn) (t':=s.toks) (h':=s.heap) (ch:=[a]) (fun b hb=>?_) (fun b o _ _ _ e _=>e) (fun b o _ _ _ e _=>⟨o.slots,e⟩) (fun b o hb e n=>?_) (fun b o _ e=>⟨o,e⟩)
  (fun b xs e=>?_) (fun b o u e=>?_) (fun b ps e=>⟨#[],?_⟩) (fun m hm=>hm) (fun b u e=>?_) I.bare
 ·have e:b=a:=by simpa using hb
  subst e;exact ⟨hex,hL,hcl,hpn⟩
 ·rw [Eb (fun z=>hb (by simp [z]))];exact n
 ·rw [Eb (Nb e hn)];exact e
 ·rw [Eb (Nb e hn)];exact e
 ·rw [Eb (Nb e hn),e];simp
 ·by_cases hb:b=a
  ·subst hb;rw [ib] at e;cases e;exact new
  ·rw [Eb hb] at e;exact (I.hok b u e).stay (fun c v _ q=>q) (fun c q=>by rw [Eb (Nb q hn)];exact q) fun c xs q=>by rw [Eb (Nb q hn)];exact q
end
theorem Vl {prog:Program} {w:World} {A:Around} {R:Result→Shared→Prop} {s:Shared} {elt target iter:Expr} {ifs:List Expr} {scope:Scope} {pos:Pos} {it acc:Value} {env:Env} (I:Nat→Shared→Prop)
  (turn:∀ n s,I n s→wpAny (model prog w) A (pyNext it) (fun r s₁=>match r with
   | none=>R (.ok .next) s₁
   | some v=>wpAny (model prog w) A (letOwnedTupleGo target it v) (fun _ s₀=>wpAny (model prog w) A (assign target env v) (fun _ s₂=>
     wpAny (model prog w) A (forIn ifs true fun c r=>if r=true then do let ok ← isTrue c env (eval c env);pure (ForInStep.yield ok) else pure (ForInStep.yield r)) (fun ok s₃=>
      if ok=true then wpAny (model prog w) A (eval elt env) (fun x s₄=>
       wpAny (model prog w) A (call (.builtin "list.append") [acc,x]) (fun _ s₅=>∃ m,m < n∧I m s₅) (fun _ _=>False) s₄) (fun _ _=>False) s₃
      else ∃ m,m < n∧I m s₃) (fun _ _=>False) s₂) (fun _ _=>False) s₀) (fun _ _=>False) s₁) (fun _ _=>False) s)
  (n:Nat) (h:I n s) :
  codeAny (model prog w) A (.compLoop (.ListComp elt [⟨target,iter,ifs,0⟩] scope pos) 0 it acc env) R s:=by
 refine codeAny_loop rfl I (fun n s hI=>?_) n h;show wpAny _ A ((compTurn (.ListComp elt [⟨target,iter,ifs,0⟩] scope pos) 0 it acc env).onRaise (fun x=>do noteFrame x env;theTreesLotGoes x)) _ _ s;refine wpAny_noted (wpAny_noRaise ?_);rw [compTurn_list];refine wpAny_bind (wpAny_standAt (wpAny_bind (wpAny_mono (turn n s hI) (fun r s₁ h₁=>?_) fun _ _ h'=>h')));cases r with
 | none=>exact wpAny_pure h₁
 | some v=>
  refine wpAny_bind (wpAny_mono h₁ (fun _ s₀ h₀=>?_) fun _ _ h'=>h');refine wpAny_bind (wpAny_mono h₀ (fun _ s₂ h₂=>wpAny_bind (wpAny_mono h₂ (fun ok s₃ h₃=>?_) fun _ _ h'=>h')) fun _ _ h'=>h');cases ok with
  | false=>exact wpAny_pure ⟨rfl,h₃⟩
  | true=>
   exact wpAny_bind (wpAny_bind (wpAny_mono h₃ (fun x s₄ h₄=>wpAny_bind (wpAny_mono h₄ (fun _ s₅ h₅=>wpAny_pure (wpAny_pure ⟨rfl,h₅⟩)) fun _ _ h'=>h')) fun _ _ h'=>h'))
noncomputable def PTs (X:Cx) (ifs:List Expr) (t:TT):Prop:=
 ∀ (pins:List (Addr × Obj)) (s:Shared) (σ:St) (H:Hp) (Q:Bool→Hp→Prop),Inv X pins σ H s→t σ H Q →
  wpAny (model X.prog X.w) X.A (forIn ifs true fun c r=>if r=true then do let ok ← isTrue c X.env (eval c X.env);pure (ForInStep.yield ok) else pure (ForInStep.yield r)) (TP X pins σ Q) X.xe s
noncomputable def Dw:TT:=fun _ H Q=>Q true H
theorem sf {X:Cx}:PTs X [] Dw:=fun _ _ _ H _ I h=>wpAny_tests_nil ⟨H,I,h⟩
theorem Qq {X:Cx} {c:Expr} {t:TT} (h:PT X c t):PTs X [c] t:=fun pins s σ H Q I q=>wpAny_tests_one (h pins s σ H Q I q)
noncomputable def Sub (σ σ':St):Prop:=σ'.length=σ.length∧∀ (i:Nat) (v:V),σ[i]? = some (some v)→σ'[i]? = some (some v)
theorem Sub.refl (σ:St):Sub σ σ:=⟨rfl,fun _ _ h=>h⟩
theorem Sub.set {σ σ':St} {i:Nat} {x:Option V} (h:Sub σ σ') (e:σ[i]? = some none):Sub σ (σ'.set i x):=by
 refine ⟨by rw [List.length_set];exact h.1,fun j v q=>?_⟩;have hj:i ≠ j:=fun z=>by subst z;rw [e] at q;cases q
 rw [List.getElem?_set_ne hj];exact h.2 j v q
noncomputable def Zx (J:It) (g:TG) (tc:TT) (te:TE) (σb:St) (Q:VK) (W:Nat→Nat→List V→Hp→Prop):Prop:=∀ i m ys H,W i m ys H →
 (J.stop i H∧∀ p,H p=none→Q (.ref p) (upd H p (.lst ys))) ∨
 (J.go i H∧ys.length < sizeLine∧∀ x H',J.yld i H x H'→g x σb H' fun σ2 H2=>Sub σb σ2∧tc σ2 H2 fun c H3=>if c=true then te σ2 H3 fun y H4=>∃ m',m' < m∧W (i + 1) m' (ys ++ [y]) H4 else ∃ m',m' < m∧W (i + 1) m' ys H3)
noncomputable def RK (wi:TI) (g:TG) (tc:TT) (te:TE) (sel:List (Option Nat)):TE:=fun σ H Q=>wi σ H fun J H1=>∃ W:Nat→Nat→List V→Hp→Prop,(∃ m,W 0 m [] H1)∧Zx J g tc te (blk sel σ) Q W
section
variable {X:Cx} {elt tg iter:Expr} {ifs:List Expr} {scope:Scope} {pos:Pos} {wi:TI} {g:TG} {tc:TT} {te:TE} {N:List Str} {sel:List (Option Nat)}
structure Blk (X:Cx) (scope:Scope) (N:List Str) (tg elt:Expr) (ifs:List Expr) (g:TG) (tc:TT) (te:TE):Prop where
 tgt:∀ C s H fp,PG (X.block scope C N s H fp) tg g
 tests:∀ C s H fp,PTs (X.block scope C N s H fp) ifs tc
 elem:∀ C s H fp,PE (X.block scope C N s H fp) elt te
theorem Blk.of {X:Cx} {scope:Scope} {N:List Str} {tg elt:Expr} {ifs:List Expr} {g:TG} {tc:TT} {te:TE} (h1:∀ C s H fp,PG (X.block scope C N s H fp) tg g)
  (h2:∀ C s H fp,∃ t,PTs (X.block scope C N s H fp) ifs t∧t=tc) (h3:∀ C s H fp,∃ t,PE (X.block scope C N s H fp) elt t∧t=te):Blk X scope N tg elt ifs g tc te:=
 ⟨h1,fun C s H fp=>by obtain ⟨t,h,rfl⟩:=h2 C s H fp;exact h,fun C s H fp=>by obtain ⟨t,h,rfl⟩:=h3 C s H fp;exact h⟩
theorem Fw {pins:List (Addr × Obj)} {s₂:Shared} {σ:St} {H₂:Hp} {Q:VK} {it:Addr} {fp:List Addr} {tn:Nat→Heap→Prop} {J:It} {W:Nat→Nat→List V→Hp→Prop} {E:Value→Shared→Prop} {RR:Value→Addr→Result→Shared→Prop}
  (hc:X.calm=true) (S:ap X.env scope) (hsel:bF X.N scope N sel) (B:Blk X scope N tg elt ifs g tc te) (I2:Inv X pins σ H₂ s₂) (T:YG X.prog X.w X.K tg J fp it tn) (st2:tn 0 s₂.heap) (f2:∀ b ∈ fp,mv X pins H₂ b)
  (w0:∃ m,W 0 m [] H₂) (hW:Zx J g tc te (blk sel σ) Q W)
  (fin:∀ D C ys H' s',Inv X pins σ (upd H' D (.lst ys)) s'→(∃ m,s'.heap.Ns C m)→mv X pins (upd H' D (.lst ys)) C→Q (.ref D) (upd H' D (.lst ys))→RR (.ref D) C (.ok .next) s') :
  wpAny (model X.prog X.w) X.A (newList []) (fun acc s₃=>wpAny (model X.prog X.w) X.A (newFunctionEnv scope X.env.globals (Rv X.env.cells scope.names []) [] X.env.qual none .none (some X.env)) (fun cenv s₄=>
   codeAny (model X.prog X.w) X.A (.compStart (.ListComp elt [⟨tg,iter,ifs,0⟩] scope pos) 0 (.ref it) acc { cenv with scope:=relabel scope X.env }) (RR acc cenv.locals) s₄) E s₃) E s₂:=by
 refine wpAny_newObj_type (wpAny_newFunctionEnv S.nocell (by intro y hy;simp at hy) (fun h₁ hns₁ hsb₁=>?_) S.kind);dsimp only at hns₁ hsb₁ ⊢;generalize hH2:s₂.heap.push { cls:=.type "list",dict:=none,data:=.seq ([]:List Value).toArray }=H2 at hns₁ hsb₁ ⊢;have hC:H2.objs.size=s₂.heap.objs.size + 1:=by rw [← hH2,Heap.size_push]
 have hDC:s₂.heap.objs.size ≠ H2.objs.size:=by rw [hC];exact Nat.ne_of_lt (Nat.lt_succ_self _)
 have hCle:s₂.heap.objs.size ≤ H2.objs.size:=by rw [hC];exact Nat.le_succ _
 have below:∀ b,b < s₂.heap.objs.size→b ≠ H2.objs.size∧b ≠ s₂.heap.objs.size:=fun b hb=>⟨by rw [hC];exact Nat.ne_of_lt (Nat.lt_succ_of_lt hb),Nat.ne_of_lt hb⟩
 have old:∀ b o,s₂.heap.get? b=some o→h₁.get? b=some o:=fun b o e=>hsb₁.extBut b o (below b (Heap.lt_size e)).1 (Heap.get?_push_of_some _ (hH2 ▸ Heap.get?_push_of_some _ e))
 have hacc:h₁.get? s₂.heap.objs.size=some { cls:=.type "list",data:=.seq ([]:List Value).toArray }:=hsb₁.extBut _ _ hDC (Heap.get?_push_of_some _ (hH2 ▸ Heap.get?_push_size _ rfl));have fps:∀ b ∈ fp,b < s₂.heap.objs.size:=fun b hb=>by
  obtain ⟨o,e,_⟩:=T.obj _ _ st2 b hb;exact Heap.lt_size e
 generalize hCe:H2.objs.size=C at *;generalize hDe:s₂.heap.objs.size=D at *;have st1:tn 0 h₁:=T.keep _ _ _ st2 fun b _ o e=>old b o e
 have IB0:Inv (X.block scope C N s₂ H₂ fp) [] (blk sel σ) H₂ { s₂ with heap:=h₁,toks:=s₂.toks + ([]:List (Str × Value)).length }:=
  zD I2 S f2 (fun b hb=>by rw [hDe];exact fps b hb) (by rw [hDe];exact hCle) old hns₁ hsel
 have hDfs:D ∉ (X.block scope C N s₂ H₂ fp).fs:=fun z=>by
  have z':=I2.stkSub D z;rcases List.mem_cons.mp z' with e | e
  ·exact absurd I2.lt (by rw [← e,hDe];exact Nat.lt_irrefl _)
  ·exact I2.nofs (by rw [hDe];exact Nat.le_refl _) e
 have loop:∀ s₃:Shared,s₃ = { s₂ with heap:=h₁,toks:=s₂.toks + ([]:List (Str × Value)).length } →
   codeAny (model X.prog X.w) X.A (.compLoop (.ListComp elt [⟨tg,iter,ifs,0⟩] scope pos) 0 (.ref it) (.ref D) (compEnvC scope (Rv X.env.cells scope.names []) C X.env)) (RR (.ref D) C) s₃:=by
  rintro s₃ rfl;obtain ⟨m0,w0⟩:=w0;refine Vl (fun k s'=>∃ i ys us n H',Inv (X.block scope C N s₂ H₂ fp) [(D,{ cls:=.type "list",data:=.seq us n })] (blk sel σ) H' s'∧(∃ vs:List Value,us=vs.toArray∧zd ys vs)∧ys.length ≤ sizeLine∧tn i s'.heap∧(∀ b ∈ fp,H' b=none)∧W i k ys H') ?_ m0
   ⟨0,[],_,0,H₂,IB0.pins_of fun p hp=>?_,⟨[],rfl,.nil⟩,Nat.zero_le _,st1,fun b hb=>(f2 b hb).1,w0⟩
  ·rintro k s' ⟨i,ys,us,n,H',IB,⟨vs,rfl,rv⟩,hyz,st,fr,w⟩;have fpB:∀ {pl:List (Addr × Obj)} {H'':Hp},(∀ p ∈ pl,p.1=D)→(∀ b ∈ fp,H'' b=none)→∀ b ∈ fp,mv (X.block scope C N s₂ H₂ fp) pl H'' b:=fun {pl H''} hp hn b hb=>
    ⟨hn b hb,(below b (fps b hb)).1,(DA (N:=N) (C:=C) I2 S f2 (fun b hb=>by rw [hDe];exact fps b hb) (by rw [hDe];exact hCle)).exfs b hb,.inl hb,fun x c e=>(f2 b hb).2.2.2.2.1 x c (bu e),fun p hpp z=>by
     have hpp':p ∈ pl:=by simpa using hpp
     exact (below b (fps b hb)).2 (by rw [← z];exact hp p hpp')⟩
   have hD1:∀ p ∈ [((D,{ cls:=.type "list",data:=.seq vs.toArray n }):Addr × Obj)],p.1=D:=fun p hp=>by
    have e:p=(D,{ cls:=.type "list",data:=.seq vs.toArray n }):=by simpa using hp
    rw [e]
   rcases hW i k ys H' w with ⟨stop,qn⟩ | ⟨go,hlen,step⟩
   ·refine thn (T.done (X.block scope C N s₂ H₂ fp) rfl rfl rfl hc i _ s' _ H' _ IB (fpB hD1 fr) st stop) fun r s4 hZ1=>?_
    obtain ⟨hr,I4⟩:=hZ1;subst hr;have pD:=I4.pin (D,{ cls:=.type "list",data:=.seq vs.toArray n }) (by simp);have hDn:H' D=none:=pD.2.1;have IX:Inv X pins σ H' s4:=I2.call' (ch:=fp) I4.os I4.base I4.hok I4.bare fun b hb=>⟨(f2 b hb).2.2.2.1,(f2 b hb).2.1,(f2 b hb).2.2.2.2.1,(f2 b hb).2.2.2.2.2⟩
    have foD:mv X pins H' D:=I2.fpOk (by rw [hDe];exact Nat.le_refl _) hDn;have IA:Inv X pins σ (upd H' D (.lst ys)) s4:=IX.adopt foD ⟨hyz,vs,n,rv,pD.1⟩;obtain ⟨mC,hnC,_⟩:=I4.loc;refine fin D C ys H' s4 IA ⟨mC,hnC⟩ (I2.fpOk (by rw [hDe];exact hCle) ?_) (qn D hDn);rw [Eb (Ne.symm hDC)];exact I4.free
   ·refine thn (T.item (X.block scope C N s₂ H₂ fp) rfl rfl rfl hc i _ s' _ H' _ IB (fpB hD1 fr) st go) fun r s4 hZ1=>?_
    obtain ⟨u,hr,h4⟩:=hZ1;subst hr;refine thn h4 fun _ s5 hZ1=>?_
    obtain ⟨x,H5,I5,r5,y5,st5,fr5⟩:=hZ1;have I5':=I5.pinned (fpB hD1 fr5) (T.obj _ _ st5);refine thn (B.tgt C s₂ H₂ fp _ s5 _ H5 x u _ I5' r5 (step x H5 y5)) fun _ s6 hZ1=>?_
    obtain ⟨σ6,H6,I6,sb,q6⟩:=hZ1;refine thn (B.tests C s₂ H₂ fp _ s6 σ6 H6 _ I6 q6) fun c s7 hZ1=>?_
    obtain ⟨H7,I7,q7⟩:=hZ1;have again:∀ {σ8:St} {H8:Hp} {s8:Shared},Inv (X.block scope C N s₂ H₂ fp) ([(D,{ cls:=.type "list",data:=.seq vs.toArray n })] ++ Ow fp s5.heap) σ8 H8 s8→tn (i + 1) s8.heap∧(∀ b ∈ fp,H8 b=none):=fun {σ8 H8 s8} I8=>by
     refine ⟨T.keep _ _ _ st5 fun b hb o e=>(I8.pin (b,o) (List.mem_append_right _ (List.mem_append_right _ (Ll hb e)))).1,fun b hb=>?_⟩;obtain ⟨o,e,d⟩:=T.obj _ _ st5 b hb;exact (I8.pin (b,o) (List.mem_append_right _ (List.mem_append_right _ (Ll hb e)))).2.1
    have back:∀ {H8:Hp} {s8:Shared} {pl:List (Addr × Obj)},Inv (X.block scope C N s₂ H₂ fp) pl σ6 H8 s8→Inv (X.block scope C N s₂ H₂ fp) pl (blk sel σ) H8 s8:=fun {H8 s8 pl} I8=>I8.weak sb.1.symm sb.2
    cases c with
    | false=>
     obtain ⟨m',hm,w'⟩:=q7;obtain ⟨t1,t2⟩:=again I7;exact ⟨m',hm,i + 1,ys,_,n,H7,back I7.unpinned,⟨vs,rfl,rv⟩,hyz,t1,t2,w'⟩
    | true=>
     refine thn (B.elem C s₂ H₂ fp _ s7 σ6 H7 _ I7 q7) fun v s8 hZ1=>?_
     obtain ⟨y,H8,I8,r8,m',hm,w'⟩:=hZ1;obtain ⟨t1,t2⟩:=again I8;have pD:=I8.pin (D,{ cls:=.type "list",data:=.seq vs.toArray n }) (by simp);refine append_at (hsz:=by have:=rv.length;rw [List.size_toArray];omega) pD.1 fun h9 hs9 hD9=>?_
     have IB':Inv (X.block scope C N s₂ H₂ fp) [] (blk sel σ) H8 s8:=(back I8).pins_of fun p hp=>nomatch hp
     have foD:mv (X.block scope C N s₂ H₂ fp) [] H8 D:=⟨pD.2.1,hDC,hDfs,.inr (by show s₂.heap.objs.size ≤ D;rw [hDe];exact Nat.le_refl _),(fun x c e z=>by
      obtain ⟨cv,o,ho,hd⟩:=I8.cell x c e;rw [z,pD.1] at ho;cases ho;cases hd),(fun p hp=>nomatch hp)⟩
     have I9:Inv (X.block scope C N s₂ H₂ fp) [] (blk sel σ) H8 { s8 with heap:=h9 }:=IB'.turned (t':=s8.toks) (it:=D) (fun b o hb e=>(hs9.2 b hb).trans e) foD.1 foD.2.1 foD.2.2.2.1 foD.2.2.2.2.1 foD.2.2.2.2.2;refine ⟨m',hm,i + 1,ys ++ [y],vs.toArray.push v,n + 1,H8,I9.pins_of fun p hp=>?_,⟨vs ++ [v],by simp,Paired.snoc rv r8⟩,by rw [List.length_append,List.length_singleton];omega,T.keep _ _ _ t1 fun b hb o e=>(hs9.2 b (below b (fps b hb)).2).trans e,t2,w'⟩;have e:p=(D,{ cls:=.type "list",data:=.seq (vs.toArray.push v) (n + 1) }):=by simpa using hp
     subst e;exact ⟨hD9,pD.2.1,hDC,hDfs,fun v z=>by cases z⟩
  ·have e:p=(D,{ cls:=.type "list",data:=.seq ([]:List Value).toArray }):=by simpa using hp
   subst e;exact ⟨hacc,I2.hok.fresh (by rw [hDe];exact Nat.le_refl _),hDC,hDfs,fun v z=>by cases z⟩
 exact codeAny_compStart_list (loop _ rfl) (T.self _ 0 _ _ _ st1 (loop _ rfl))
theorem cg (hc:X.calm=true) (hi:PI X tg iter wi) (S:ap X.env scope) (hsel:bF X.N scope N sel) (B:Blk X scope N tg elt ifs g tc te)
  (hs:∀ x,foldedSetIterable iter X.env x=pure x:=by intro _;rfl):PE X (.ListComp elt [⟨tg,iter,ifs,0⟩] scope pos) (RK wi g tc te sel):=by
 intro pins s σ H Q I h;rw [eval_ListComp];refine wpAny_comprehension_free (use:=none) rfl hs (gD (S.cells I.ok)) S.kind S.loc ?_;refine thn (hi pins s σ H _ I h) fun v s1 h1=>thn h1 fun itv s2 h2=>?_
 obtain ⟨it,fp,tn,J,H2,e,I2,T,st2,f2,W,w0,hW⟩:=h2;subst e;refine Fw (RR:=fun acc C=>compPost (model X.prog X.w) X.A X.xe none (EP X pins σ Q) acc C) hc S hsel B I2 T st2 f2 w0 hW fun D C ys H' s' I' ⟨m,hm⟩ fo q=>?_
 exact ⟨m,hm,fun h' hsb=>⟨.ref D,_,I'.turned (t':=s'.toks) (it:=C) (fun b o hb e=>(hsb.2 b hb).trans e) fo.1 fo.2.1 fo.2.2.2.1 fo.2.2.2.2.1 fo.2.2.2.2.2,rfl,q⟩⟩
theorem gg {i:Nat} {y:Str} {py spos:Pos} (hN:X.N.Nodup) (hi:X.N[i]? = some y) (hx:Loc X.env.scope y) (hc:X.calm=true) (hit:PI X tg iter wi) (S:ap X.env scope) (hsel:bF X.N scope N sel) (B:Blk X scope N tg elt ifs g tc te)
  (hsw:swapsWith (.ListComp elt [⟨tg,iter,ifs,0⟩] scope pos) (some (.Name y py)) spos.line X.env=pure true) (hf:X.fn y=true∨X.env.scope.names.lookup y=some .local:=by first | exact .inl rfl | exact .inr rfl | assumption)
  (hs:∀ x,foldedSetIterable iter X.env x=pure x:=by intro _;rfl):PS X (.Assign [.Name y py] (.ListComp elt [⟨tg,iter,ifs,0⟩] scope pos) spos) (mM (RK wi g tc te sel) (ms i)):=by
 intro pins s σ H D I h;rw [exec_Assign_Name_used _ _ _ _ hsw];refine wpAny_bind (wpAny_standAt (wpAny_bind ?_));show wpAny _ X.A (do let _ ← comprehension (.ListComp elt [⟨tg,iter,ifs,0⟩] scope pos) scope X.env _ (newList []) false (eval iter X.env) (some (assign (.Name y py) X.env))) _ _ s;refine wpAny_bind (wpAny_mono (wpAny_comprehension_free (use:=some (assign (.Name y py) X.env)) (Q:=fun _ s'=>SP X pins D .next s') rfl hs (gD (S.cells I.ok)) S.kind S.loc ?_) (fun _ s' hq=>wpAny_pure (wpAny_pure hq)) fun _ _ e=>e);refine thn (hit pins s σ H _ I h) fun v s1 h1=>thn h1 fun itv s2 h2=>?_
 obtain ⟨it,fp,tn,J,H2,e,I2,T,st2,f2,W,w0,hW⟩:=h2;subst e;refine Fw (RR:=fun acc C=>compPost (model X.prog X.w) X.A X.xe (some (assign (.Name y py) X.env)) (fun _ s'=>SP X pins D .next s') acc C) hc S hsel B I2 T st2 f2 w0 hW fun Da C ys H' s' I' ⟨m,hm⟩ fo q=>?_
 show wpAny _ X.A (assign (.Name y py) X.env (.ref Da)) _ _ _;refine wpAny_assign_Name (Bw I' hN hi hx (show yd (.ref Da) (.ref Da) from rfl) (fun s3 I3 hZ1=>?_) hf);obtain ⟨a,hsb,ha⟩:=hZ1;have hCa:C ≠ a:=by
  rcases ha with z | z
  ·rw [z];exact fo.2.1
  ·exact fun w=>fo.2.2.2.2.1 y a z w.symm
 refine ⟨m,hm.sameBut hsb hCa,fun h' hsb'=>⟨_,_,I3.turned (t':=s3.toks) (it:=C) (fun b o hb e=>(hsb'.2 b hb).trans e) fo.1 fo.2.1 fo.2.2.2.1 fo.2.2.2.2.1 fo.2.2.2.2.2,q⟩⟩
end
noncomputable def xg (Pv:Nat→List V→Hp→Prop) (g:TG) (tc:TT) (te:TE) (σb:St) (i:Nat) (x:V) (ys:List V) (H:Hp):Prop:=
 ∀ N:List V→Hp→Prop,(∀ ys' H',Pv (i + 1) ys' H'→N ys' H')→g x σb H fun σ2 H2=>Sub σb σ2∧tc σ2 H2 fun c H3=>if c=true then te σ2 H3 fun y H4=>N (ys ++ [y]) H4 else N ys H3
theorem eE {K:PySem.W.Frag} {a:Addr} {xs:List V} {g:TG} {tc:TT} {te:TE} {σb:St} {Q:VK} {H:Hp} (Pv:Nat→List V→Hp→Prop) (hz:xs.length ≤ sizeLine) (h0:Pv 0 [] H) (hl:∀ i ys H,i ≤ xs.length→Pv i ys H→SqL K H a xs∧ys.length ≤ i)
  (hs:∀ i x ys H,xs[i]? = some x→Pv i ys H→xg Pv g tc te σb i x ys H) (hd:∀ ys H,Pv xs.length ys H→∀ p,H p=none→Q (.ref p) (upd H p (.lst ys))) :
  ∃ W:Nat→Nat→List V→Hp→Prop,(∃ m,W 0 m [] H)∧Zx (Itl K a) g tc te σb Q W:=by
 refine ⟨fun i m ys H=>m=xs.length - i∧i ≤ xs.length∧Pv i ys H,⟨xs.length,by simp,Nat.zero_le _,h0⟩,?_⟩;rintro i m ys H ⟨rfl,hi,p⟩;have q:=(hl i ys H hi p).1;have hyl:=(hl i ys H hi p).2;by_cases hlt:i < xs.length
 ·refine .inr ⟨⟨xs,xs[i],q,by simp [hlt]⟩,by omega,fun x H' y=>?_⟩;obtain ⟨e,y⟩:=y;subst e;exact hs i x ys _ (y xs q) p (fun ys' H'=>∃ m',m' < xs.length - i∧m'=xs.length - (i + 1)∧i + 1 ≤ xs.length∧Pv (i + 1) ys' H') fun ys' H' r=>⟨xs.length - (i + 1),by omega,rfl,hlt,r⟩
 ·have e:i=xs.length:=by omega
  subst e;exact .inl ⟨⟨xs,q,Nat.le_refl _⟩,hd ys H p⟩
theorem LI {K:PySem.W.Frag} {a:Addr} {xs:List V} {g:TG} {tc:TT} {te:TE} {σb:St} {Q:VK} {H:Hp} (Pv:Nat→List V→Hp→Prop) (hz:xs.length ≤ sizeLine) (h0:Pv 0 [] H) (hl:∀ i ys H,i ≤ xs.length→Pv i ys H→SqT K H a xs∧ys.length ≤ i)
  (hs:∀ i x ys H,xs[i]? = some x→Pv i ys H→xg Pv g tc te σb i x ys H) (hd:∀ ys H,Pv xs.length ys H→∀ p,H p=none→Q (.ref p) (upd H p (.lst ys))) :
  ∃ W:Nat→Nat→List V→Hp→Prop,(∃ m,W 0 m [] H)∧Zx (Itt K a) g tc te σb Q W:=by
 refine ⟨fun i m ys H=>m=xs.length - i∧i ≤ xs.length∧Pv i ys H,⟨xs.length,by simp,Nat.zero_le _,h0⟩,?_⟩;rintro i m ys H ⟨rfl,hi,p⟩;have q:=(hl i ys H hi p).1;have hyl:=(hl i ys H hi p).2;by_cases hlt:i < xs.length
 ·refine .inr ⟨⟨xs,xs[i],q,by simp [hlt]⟩,by omega,fun x H' y=>?_⟩;obtain ⟨e,y⟩:=y;subst e;exact hs i x ys _ (y xs q) p (fun ys' H'=>∃ m',m' < xs.length - i∧m'=xs.length - (i + 1)∧i + 1 ≤ xs.length∧Pv (i + 1) ys' H') fun ys' H' r=>⟨xs.length - (i + 1),by omega,rfl,hlt,r⟩
 ·have e:i=xs.length:=by omega
  subst e;exact .inl ⟨⟨xs,q,Nat.le_refl _⟩,hd ys H p⟩
theorem nC {lo:Int} {n:Nat} {g:TG} {tc:TT} {te:TE} {σb:St} {Q:VK} {H:Hp} (Pv:Nat→List V→Hp→Prop) (hz:n ≤ sizeLine) (h0:Pv 0 [] H) (hl:∀ i ys H,i ≤ n→Pv i ys H→ys.length ≤ i)
  (hs:∀ i ys H,i < n→Pv i ys H→xg Pv g tc te σb i (.int (lo + i)) ys H) (hd:∀ ys H,Pv n ys H→∀ p,H p=none→Q (.ref p) (upd H p (.lst ys))) :
  ∃ W:Nat→Nat→List V→Hp→Prop,(∃ m,W 0 m [] H)∧Zx (Itr lo n) g tc te σb Q W:=by
 refine ⟨fun i m ys H=>m=n - i∧i ≤ n∧Pv i ys H,⟨n,by simp,Nat.zero_le _,h0⟩,?_⟩;rintro i m ys H ⟨rfl,hi,p⟩;have hyl:=hl i ys H hi p;by_cases hlt:i < n
 ·refine .inr ⟨hlt,by omega,fun x H' y=>?_⟩;obtain ⟨e,y⟩:=y;subst e y;exact hs i ys _ hlt p (fun ys' H'=>∃ m',m' < n - i∧m'=n - (i + 1)∧i + 1 ≤ n∧Pv (i + 1) ys' H') fun ys' H' r=>⟨n - (i + 1),by omega,rfl,hlt,r⟩
 ·have e:i=n:=by omega
  subst e;exact .inl ⟨Nat.le_refl _,hd ys H p⟩
end L2
namespace L2
open PySem PySem.Spec PyProof.Rows
noncomputable def Its (xs:List V):It:=⟨fun i _=>i < xs.length,fun i H x H'=>H'=H∧xs[i]? = some x,fun i _=>xs.length ≤ i⟩
theorem Ut {P:Program} {w:World} {K:PySem.W.Frag} {tg:Expr} {it:Addr} {xs:List V} {PV:Nat→Value→Prop} {St:Nat→Heap→Prop} (hW:∀ A:Around,A.handled=none→Walks P w A it [it] [it] xs.length PV St)
  (hP:∀ i v,PV i v→∃ x,xs[i]? = some x∧yd x v)
  (hgo:∀ i h,St i h→∃ o n vs,h.get? it=some o∧o.cls=.type n∧o.data=.fields vs∧["enumerate","zip","dict_itemiterator","dict_reverseitemiterator","odict_iterator","itertools.zip_longest","itertools.pairwise"].contains n=false)
  (hfr:∀ i h h',St i h→(∀ o,h.get? it=some o→h'.get? it=some o)→St i h')
  (hself:∀ (A:Around) (i:Nat) (s:Shared) (Q:Value→Shared→Prop) (E:Value→Shared→Prop),St i s.heap→Q (.ref it) s→wpAny (model P w) A (pyIter (.ref it)) Q E s) :
  YG P w K tg (Its xs) [it] it (fun i h=>i ≤ xs.length∧St i h) where
 mem:=by simp
 obj:=fun i h st b hb=>by
  have e:b=it:=by simpa using hb
  subst e;obtain ⟨o,n,vs,e,_,d,_⟩:=hgo i h st.2;exact ⟨o,e,fun v z=>by rw [d] at z;cases z⟩
 keep:=fun i h h' st k=>⟨st.1,hfr i h h' st.2 fun o e=>k it (by simp) o e⟩
 item:=by
  intro X hP' hw hK hc i pins s σ H E I hf st hg;subst hP' hw hK;obtain ⟨f0,f1,f2,f3,f4,f5⟩:=hf it (by simp);refine (hW X.A (I.ok.hd hc)).item i s _ _ hg st.2 fun v h' tk hv st' kk=>?_
  obtain ⟨x,hx,rx⟩:=hP i v hv;have I1:Inv X pins σ H { s with heap:=h',toks:=tk }:=I.turned (fun b o hb e=>kk b o (by simpa using hb) e) f0 f1 f3 f4 f5;obtain ⟨o,n,vs,e,c,d,nm⟩:=hgo _ _ st';exact ⟨v,rfl,BE (s:={ s with heap:=h',toks:=tk }) e c d nm ⟨x,H,I1,rx,⟨rfl,hx⟩,⟨hg,st'⟩,fun b hb=>(hf b hb).1⟩⟩
 done:=by
  intro X hP' hw hK hc i pins s σ H E I hf st hg;subst hP' hw hK;obtain ⟨f0,f1,f2,f3,f4,f5⟩:=hf it (by simp);have e:i=xs.length:=Nat.le_antisymm st.1 hg;subst e;exact (hW X.A (I.ok.hd hc)).done s _ _ st.2 fun h' tk kk=>⟨rfl,I.turned (fun b o hb e=>kk b o (by simpa using hb) e) f0 f1 f3 f4 f5⟩
 self:=fun A i s Q E st h=>hself A i s Q E st.2 h
noncomputable def tw (c:Nat):Str:=⟨#[c]⟩
noncomputable def Tj (x:Str):List V:=x.cps.toList.map fun c=>V.str (tw c)
theorem Jn (x:Str):(Tj x).length=x.cps.size:=by unfold Tj;simp
theorem eG {x:Str} {i c:Nat} (h:x.cps[i]? = some c):(Tj x)[i]? = some (.str (tw c)):=by
 unfold Tj;rw [List.getElem?_map,Array.getElem?_toList,h];rfl
theorem yt {x:Str} {i:Nat} {v:Value} (h:SignAt x i v):∃ y,(Tj x)[i]? = some y∧yd y v:=by
 obtain ⟨c,u,hc,rfl⟩:=h;exact ⟨.str (tw c),eG hc,u,rfl⟩
section
variable {X:Cx} {tg:Expr}
noncomputable def uQ (tl:TE):TI:=fun σ H R=>tl σ H fun x H1=>∃ z,x=.str z∧R (Its (Tj z)) H1
theorem ZM {l:Expr} {tl:TE} (hl:PE X l tl):PI X tg l (uQ tl):=by
 intro pins s σ H R I h;refine thn (hl pins s σ H _ I h) fun v s1 hZ1=>?_
 obtain ⟨x,H1,I1,r1,q1⟩:=hZ1;obtain ⟨z,e,q⟩:=q1;subst e;obtain ⟨t,rfl⟩:=r1;have fo:∀ b ∈ [s1.heap.objs.size],mv X pins H1 b:=fun b hb=>by
  have e:b=s1.heap.objs.size:=by simpa using hb
  subst e;exact I1.fpOk (Nat.le_refl _) (I1.hok.fresh (Nat.le_refl _))
 have hz:=Jn z;cases ha:z.cps.all (· < 128) with
 | false=>
  refine wpAny_pyIter_wide ha ⟨s1.heap.objs.size,[s1.heap.objs.size],fun i h=>i ≤ (Tj z).length∧h.IsStrIter s1.heap.objs.size "str_iterator" z t i,_,H1,rfl,I1.kept (t':=s1.toks) fun b o e=>Heap.get?_push_of_some _ e,
   Ut (fun A hA=>by rw [hz];exact Walks.strWide hA _ z t) (fun i v=>yt) (fun i h ⟨o,e,c,d⟩=>⟨o,_,_,e,c,d,by decide⟩) (fun i h h' ⟨o,e,r⟩ k=>⟨o,k o e,r⟩) (fun A i s Q E st q=>wpAny_pyIter_striter_wide st q),
   ⟨Nat.zero_le _,_,Heap.get?_push_size _ rfl,rfl,rfl⟩,fo,q⟩
 | true=>
  refine wpAny_pyIter_ascii ha ⟨s1.heap.objs.size,[s1.heap.objs.size],fun i h=>i ≤ (Tj z).length∧h.IsStrIter s1.heap.objs.size "str_ascii_iterator" z t i,_,H1,rfl,I1.kept (t':=s1.toks) fun b o e=>Heap.get?_push_of_some _ e,
   Ut (fun A hA=>by rw [hz];exact Walks.strAscii hA _ z t) (fun i v=>yt) (fun i h ⟨o,e,c,d⟩=>⟨o,_,_,e,c,d,by decide⟩) (fun i h h' ⟨o,e,r⟩ k=>⟨o,k o e,r⟩) (fun A i s Q E st q=>wpAny_pyIter_striter_ascii st q),
   ⟨Nat.zero_le _,_,Heap.get?_push_size _ rfl,rfl,rfl⟩,fo,q⟩
end
theorem pL {xs:List V} {g:TG} {tb:TS} {D:Sj} {σ:St} {H:Hp} (Pv:Nat→St→Hp→Prop) (h0:Pv 0 σ H)
  (hs:∀ i x σ H,xs[i]? = some x→Pv i σ H→g x σ H fun σ2 H2=>tb { D with nx:=Pv (i + 1),ct:=Pv (i + 1),bk:=D.nx } σ2 H2) (hd:∀ σ H,Pv xs.length σ H→D.nx σ H) :
  ∃ W:Nat→Nat→St→Hp→Prop,(∃ m,W 0 m σ H)∧∀ i m σ H,W i m σ H →
   ((Its xs).stop i H∧D.nx σ H)∨((Its xs).go i H∧∃ N:St→Hp→Prop,(∀ σ' H',N σ' H'→∃ m',m' < m∧W (i + 1) m' σ' H')∧∀ x H',(Its xs).yld i H x H'→g x σ H' fun σ2 H2=>tb { D with nx:=N,ct:=N,bk:=D.nx } σ2 H2):=by
 refine ⟨fun i m σ H=>m=xs.length - i∧i ≤ xs.length∧Pv i σ H,⟨xs.length,by simp,Nat.zero_le _,h0⟩,?_⟩;rintro i m σ H ⟨rfl,hi,p⟩;by_cases hlt:i < xs.length
 ·refine .inr ⟨hlt,Pv (i + 1),fun σ' H' p'=>⟨xs.length - (i + 1),by omega,rfl,hlt,p'⟩,fun x H' y=>?_⟩;obtain ⟨e,y⟩:=y;subst e;exact hs i x σ _ y p
 ·have e:i=xs.length:=by omega
  subst e;exact .inl ⟨Nat.le_refl _,hd σ H p⟩
theorem RI {xs:List V} {g:TG} {tc:TT} {te:TE} {σb:St} {Q:VK} {H:Hp} (Pv:Nat→List V→Hp→Prop) (hz:xs.length ≤ sizeLine) (h0:Pv 0 [] H) (hl:∀ i ys H,i ≤ xs.length→Pv i ys H→ys.length ≤ i)
  (hs:∀ i x ys H,xs[i]? = some x→Pv i ys H→xg Pv g tc te σb i x ys H) (hd:∀ ys H,Pv xs.length ys H→∀ p,H p=none→Q (.ref p) (upd H p (.lst ys))) :
  ∃ W:Nat→Nat→List V→Hp→Prop,(∃ m,W 0 m [] H)∧Zx (Its xs) g tc te σb Q W:=by
 refine ⟨fun i m ys H=>m=xs.length - i∧i ≤ xs.length∧Pv i ys H,⟨xs.length,by simp,Nat.zero_le _,h0⟩,?_⟩;rintro i m ys H ⟨rfl,hi,p⟩;have hyl:=hl i ys H hi p;by_cases hlt:i < xs.length
 ·refine .inr ⟨hlt,by omega,fun x H' y=>?_⟩;obtain ⟨e,y⟩:=y;subst e;exact hs i x ys _ y p (fun ys' H'=>∃ m',m' < xs.length - i∧m'=xs.length - (i + 1)∧i + 1 ≤ xs.length∧Pv (i + 1) ys' H') fun ys' H' r=>⟨xs.length - (i + 1),by omega,rfl,hlt,r⟩
 ·have e:i=xs.length:=by omega
  subst e;exact .inl ⟨Nat.le_refl _,hd ys H p⟩
section
variable {X:Cx}
noncomputable def FP:V→Option Int→Option Int→Hp→VK→Prop:=fun x lo hi H Q=>∃ z,x=.str z∧z.length ≤ sizeLine∧Q (.str (Txt.slice z lo hi)) H
theorem MG:SlR X FP:=by
 intro pins s σ H x v vl vu lo hi sl Q I rx hs pl pu h;obtain ⟨z,rfl,hz,q⟩:=h;obtain ⟨t,rfl⟩:=rx;refine ⟨"str",_,F.slot_str_getitem.lookup,typeIs_str s z t,?_⟩;have fin:∀ t' k,EP X pins σ Q (.str (Txt.slice z lo hi) t') { s with toks:=k }:=fun t' k=>⟨.str _,H,I.tok _,⟨_,rfl⟩,q⟩
 cases pl with
 | none=>
  cases pu with
  | none=>exact wpAny_getItem_str_slice (l:=none) (u:=none) (st:=none) hs rfl (post_val_or_str ⟨Nat.le_trans (Txt.slice_le z _ _) hz,fin⟩)
  | int j uj=>exact wpAny_getItem_str_slice (l:=none) (u:=some (j,uj)) (st:=none) hs rfl (post_val_or_str ⟨Nat.le_trans (Txt.slice_le z _ _) hz,fin⟩)
 | int i ui=>
  cases pu with
  | none=>exact wpAny_getItem_str_slice (l:=some (i,ui)) (u:=none) (st:=none) hs rfl (post_val_or_str ⟨Nat.le_trans (Txt.slice_le z _ _) hz,fin⟩)
  | int j uj=>exact wpAny_getItem_str_slice (l:=some (i,ui)) (u:=some (j,uj)) (st:=none) hs rfl (post_val_or_str ⟨Nat.le_trans (Txt.slice_le z _ _) hz,fin⟩)
noncomputable def Tc (ys:List Str):List V:=ys.map V.str
theorem aC:∀ {ys:List Str} {us:List Value},zd (Tc ys) us→StrsAre us ys:=by
 intro ys
 induction ys with
 | nil=>intro us r;cases r;exact .nil
 | cons y ys ih=>
  intro us r;cases r with
  | cons r1 r2=>
   obtain ⟨t,rfl⟩:=r1;exact .cons y t (ih r2)
theorem Kx:∀ (l:List (Str × Tok)),zd (Tc (l.map (·.1))) (strValues l)
 | []=>.nil
 | (x,t) :: r=>.cons ⟨t,rfl⟩ (Kx r)
noncomputable def dN (K:PySem.W.Frag):V→List V→Hp→VK→Prop:=fun x vs H Q=>∃ sep p ys,x=.str sep∧vs=[.ref p]∧SqL K H p (Tc ys)∧(ys.map (·.length)).sum + ys.length * sep.length ≤ 16777216∧Q (.str (Txt.join sep ys)) H
theorem vy:MtR X "str.join" (dN X.K):=by
 intro pins s σ H x xs v us Q I rx rv h;obtain ⟨sep,p,ys,rfl,rfl,hq,hz,q⟩:=h;obtain ⟨t,rfl⟩:=rx;obtain ⟨u,rfl,ru⟩:=On rv;cases ru;obtain ⟨its,r,pl,_⟩:=I.list hq;exact join_list pl.isList (by simpa using aC r) hz fun t' k=>⟨.str _,H,I.tok _,⟨_,rfl⟩,q⟩
end
theorem AC {prog:Program} {w:World} {A:Around} {E:Value→Shared→Prop} {s:Shared} {x y:Str} {t u:Tok} {Q:Value→Shared→Prop} (hy:(y.length == 0)=false)
  (h:∀ l k,l.map (·.1)=Txt.split x y→Q (.ref s.heap.objs.size) { s with heap:=s.heap.push { cls:=.type "list",data:=.seq (strValues l).toArray },toks:=k }) (hsz:x.length + 2 ≤ sizeLine) :
  wpAny (model prog w) A (call (.builtin "str.split") [.str x t,.str y u]) Q E s:=by
 have hn:(Builtin.Str.partsBetween x (Builtin.Str.occurrences x y 0 x.length (x.length + 1)) y.length).length ≤ sizeLine:=by
  have e1:=StrLaws.occ_length_le x y 0 x.length (x.length + 1);rw [length_partsBetween];omega
 cases h1:(decide (x.length < y.length) || decide (Builtin.Str.strKind x < Builtin.Str.strKind y))
 ·cases hf:(Builtin.Str.occurrences x y 0 x.length (x.length + 1)).isEmpty
  ·refine call_meets F.slot_str_split (typeIs_str _ _ _) F.entry_str_split (F.args_str_split_2 _ _) (meets_str_split_sep x y t u h1 hy hf (by omega) hn) ?_;show wants Q E _ { s with toks:=_,heap:=s.heap.push { cls:=.type "list",data:=.seq (strsFrom s.toks (Builtin.Str.partsBetween x (Builtin.Str.occurrences x y 0 x.length (x.length + 1)) y.length)).toArray } };rw [strsFrom_eq];exact h (numbered s.toks _) _ ((numbered_texts _ _).trans ((if_neg (ne_true_of_eq_false h1)).trans (if_neg (ne_true_of_eq_false hf))).symm)
  ·exact call_meets F.slot_str_split (typeIs_str _ _ _) F.entry_str_split (F.args_str_split_2 _ _) (meets_str_split_not_found x y t u h1 hy hf)
    (h [(x,t)] s.toks ((if_neg (ne_true_of_eq_false h1)).trans (if_pos hf)).symm)
 ·exact call_meets F.slot_str_split (typeIs_str _ _ _) F.entry_str_split (F.args_str_split_2 _ _) (meets_str_split_cannot_occur x y t u h1)
   (h [(x,t)] s.toks (if_pos h1).symm)
section
variable {X:Cx}
noncomputable def OJ:V→List V→Hp→VK→Prop:=fun x vs H Q=>∃ z y,x=.str z∧vs=[.str y]∧y.length ≠ 0∧z.length + 2 ≤ sizeLine∧(Txt.split z y).length ≤ sizeLine∧∀ p,H p=none→Q (.ref p) (upd H p (.lst (Tc (Txt.split z y))))
theorem yA:MtR X "str.split" OJ:=by
 intro pins s σ H x xs v us Q I rx rv h;obtain ⟨z,y,rfl,rfl,hy,hz,hn,q⟩:=h;obtain ⟨t,rfl⟩:=rx;obtain ⟨u,rfl,ru⟩:=On rv;obtain ⟨tu,rfl⟩:=ru;refine AC (by simpa using hy) (fun l k hl=>?_) hz;refine ⟨.ref s.heap.objs.size,_,I.laid (t':=k) (o:=.lst (Tc (Txt.split z y))) (fun b o e=>Heap.get?_push_of_some _ e) (Nat.le_refl _) ⟨by unfold Tc;rw [List.length_map];exact hn,strValues l,0,by rw [← hl];exact Kx l,Heap.get?_push_size _ rfl⟩,rfl,q _ (I.hok.fresh (Nat.le_refl _))⟩
theorem uE:Ri X (.type "int") (fun xs H Q=>∃ z n,xs=[.str z]∧intText? z=some n∧z.length ≤ 640∧Q (.int n) H):=by
 intro pins s σ H xs us Q I r h;obtain ⟨z,n,rfl,hn,hz,q⟩:=h;obtain ⟨u,rfl,t,rfl⟩:=On r;exact PySem.W.KIN.call_text hn hz ⟨.int n,H,I.tok _,⟨_,rfl⟩,q⟩
theorem lx:∀ {bs:List Bool} {us:List Value},zd (bs.map V.bl) us→us=bs.map Value.bool
 | [],_,.nil=>rfl
 | b :: bs,_,.cons r t=>by
  have e:_=Value.bool b:=r;rw [e,lx t];rfl
theorem Zy {A:Around} (bs:List Bool):TruthOf X.prog X.w A (fun i v=>(bs.map Value.bool).toArray[i]? = some v) (fun i=>bs.getD i true):=by
 intro i v s Q E hP hQ;have e:(bs.map Value.bool)[i]? = some v:=by simpa using hP
 rw [List.getElem?_map] at e;cases q:bs[i]? with
 | none=>rw [q] at e;cases e
 | some b=>
  rw [q] at e;have e':Value.bool b=v:=Option.some.inj e;subst e';refine wpAny_truthy_bool ?_;have:bs.getD i true=b:=by simp [List.getD,q]
  have hQ':Q (bs.getD i true) s:=hQ;rw [this] at hQ';exact hQ'
theorem mG (bs:List Bool):(List.range bs.length).all (fun i=>bs.getD i true)=bs.all id:=by
 rw [Bool.eq_iff_iff];simp only [List.all_eq_true,List.mem_range,id];constructor
 ·intro h b hb;obtain ⟨i,hi,e⟩:=List.mem_iff_getElem.mp hb;have:=h i hi;simp [List.getD,hi,e] at this;exact this
 ·intro h i hi;simp [List.getD,hi];exact h _ (List.getElem_mem hi)
theorem CI (hc:X.calm=true):Ri X (.builtin "all") (fun xs H Q=>∃ (p:Addr) (bs:List Bool),xs=[.ref p]∧SqL X.K H p (bs.map V.bl)∧Q (.bl (bs.all id)) H):=by
 intro pins s σ H xs us Q I r h;obtain ⟨p,bs,rfl,hq,q⟩:=h;obtain ⟨u,rfl,ru⟩:=On r;cases ru;obtain ⟨its,rv,pl,_⟩:=I.list hq;have e:=lx rv;subst e;refine call_all_walk (wpAny_pyIter_list pl.isList ?_);have hne:p ≠ s.heap.objs.size:=Nat.ne_of_lt (by obtain ⟨o,_,ho,_⟩:=pl;exact Heap.lt_size ho);refine ⟨s.heap.objs.size,_,_,_,_,_,fun i=>bs.getD i true,rfl,Walks.list (show X.A.in1.handled=none from I.ok.hd hc) _ p hne (bs.map Value.bool).toArray,⟨⟨_,Heap.get?_push_size _ rfl,rfl,rfl⟩,pl.isList.at fun o e=>Heap.get?_push_of_some _ e⟩,Zy bs,fun h' tk kk=>?_⟩;refine ⟨.bl (bs.all id),H,I.kept fun b o e=>kk b o (by simpa using Nat.ne_of_lt (Heap.lt_size e)) (Heap.get?_push_of_some _ e),?_,q⟩;show Value.bool _=Value.bool _;rw [show (bs.map Value.bool).toArray.size=bs.length by simp,mG]
theorem wH:Ri X (.builtin "isinstance") (fun xs H Q=>∃ x T t b,xs=[x,.ty T]∧Hz X.K H x t∧PySem.W.kitOne X.K t (.type T)=some b∧Q (.bl b) H):=by
 intro pins s σ H xs us Q I r h;obtain ⟨x,T,t,b,rfl,ty,e,q⟩:=h;obtain ⟨u,u2,rfl,rx,r2⟩:=yK r;cases r2;exact VD I rx ty e fun tk=>⟨.bl b,H,I.tok _,rfl,q⟩
end
end L2
namespace L2
open PySem PySem.Spec PyProof.Rows
theorem oh {X:Cx} {N:List Str} (h:N.Nodup) (e:X.N=N):X.N.Nodup:=e ▸ h
noncomputable def aG (sc scope:Scope):Bool:=
 (scope.kind == .function) && scope.names.all (fun y=>y.2 != .cell) && scope.names.all (fun y=>y.2 != .free || sc.names.lookup y.1 == some .cell || sc.names.lookup y.1 == some .free) &&
  scope.names.all (fun y=>y.2 != .local || scope.names.lookup y.1 == some .local)
theorem Cc {env:Env} {sc scope:Scope} (he:env.scope=sc) (h:aG sc scope=true):ap env scope:=by
 subst he;unfold aG at h;simp only [Bool.and_eq_true,List.all_eq_true] at h;obtain ⟨⟨⟨h1,h2⟩,h3⟩,h4⟩:=h;refine ⟨by simpa using h1,fun y hy e=>?_,fun y hy e=>?_,fun y hy e=>?_⟩
 ·have:=h2 y hy;rw [e] at this;exact absurd this (by decide)
 ·have:=h3 y hy;rw [e] at this;simp only [Bool.or_eq_true] at this;rcases this with (z | z) | z
  ·exact absurd z (by decide)
  ·exact .inl (show env.scope.names.lookup y.1=some .cell by simpa using z)
  ·exact .inr (show env.scope.names.lookup y.1=some .free by simpa using z)
 ·have:=h4 y hy;rw [e] at this;simp only [Bool.or_eq_true] at this;rcases this with z | z
  ·exact absurd z (by decide)
  ·simpa using z
noncomputable def lQ (M:List Str) (scope:Scope) (N:List Str) (sel:List (Option Nat)):Bool:=
 sel.length == N.length && (sel.zip N).all fun p=>match p.1 with | none=>true | some j=>M[j]? == some p.2 && scope.names.lookup p.2 == some .free
theorem Vc {M:List Str} {scope:Scope} {N:List Str} {sel:List (Option Nat)} (h:lQ M scope N sel=true):bF M scope N sel:=by
 unfold lQ at h;simp only [Bool.and_eq_true,List.all_eq_true] at h;refine ⟨by simpa using h.1,fun i j x e1 e2=>?_⟩;have hm:(some j,x) ∈ sel.zip N:=by
  rw [List.mem_iff_getElem?];exact ⟨i,by rw [List.getElem?_zip_eq_some];exact ⟨e1,e2⟩⟩
 have:=h.2 _ hm;simp only [Bool.and_eq_true] at this;exact ⟨by simpa using this.1,by simpa using this.2⟩
noncomputable def noT:HO→Bool
 | .dT _=>false
 | .frz _ u=>noT u
 | _=>true
noncomputable def NoT (H:Hp):Prop:=∀ b o,H b=some o→noT o=true
theorem Bd.back {P:Program} {w:World} {H H':Hp} {h h':Heap} {a:Addr}:∀ (o:HO),noT o=true→Bd P w H' h' a o→Bd P w H h a o→Bd P w H h' a o
 | .lst _,_,x,_=>x
 | .tup _,_,x,_=>x
 | .dK _,_,x,_=>x
 | .dT _,e,_,_=>absurd e (by unfold noT;decide)
 | .set _ _,_,x,_=>x
 | .ins _ _ _,_,x,y=>⟨y.1,x.2⟩
 | .own _,_,x,_=>x
 | .xd _,_,x,_=>x
 | .met _ _,_,x,_=>x
 | .rng _ _,_,x,_=>x
 | .frz ob u,e,x,y=>⟨x.1,Bd.back u (by unfold noT at e;exact e) x.2 y.2⟩
 | .tbl _,_,x,_=>x
 | .ext _,_,x,_=>x
section
variable {P:Program} {w:World} {K:PySem.W.Frag} {mg:Str→Option Value} {base:Heap}
theorem Ub.forget {k:Nat} {f:Addr} {fd:FuncData} {ps:List Str} {sp sp':Sp} (F:Ub P w K mg base CX0 k f fd ps sp)
  (h:∀ vs H Q E,sp' vs H Q E→NoT H∧sp vs H (fun v H'=>Sb H H'∧Q v H) E):Ub P w K mg base CX0 k f fd ps sp':=by
 refine ⟨fun vs H Q E q=>F.len vs H _ E (h vs H Q E q).2,fun A outer s H args us vs Q E hr he hb hv hs=>?_⟩;obtain ⟨nt,q⟩:=h vs H Q E hs;refine codeAny_mono (F.run A outer s H args us vs _ E hr he hb hv q) fun r s' hq=>?_
 cases r with
 | error e=>exact hq
 | ok fl=>
  cases fl with
  | next=>exact hq
  | brk=>exact hq
  | cont=>exact hq
  | ret u=>
   obtain ⟨v,H',os,bare,un,hok,rv,sm,q'⟩:=hq;exact ⟨v,H,os,bare,⟨un.keep,un.slot,fun _ _ _ n _=>n,un.there,fun _ _ z=>z,fun _ _ _ z=>z,fun _ ps z=>⟨#[],by rw [z];simp⟩⟩,fun a o e=>(hok a o (sm a o e)).back o (nt a o e) (he.hok a o e),rv,q'⟩
end
theorem db {H:Hp} {p:Addr} {o:HO} (h:H p=none):Sb H (upd H p o):=fun b u q=>by rw [Eb (Nb q h)];exact q
theorem Sb.updN {H H1:Hp} {p:Addr} {o:HO} (s:Sb H H1) (h:H p=none):Sb H (upd H1 p o):=fun b u q=>by rw [Eb (Nb q h)];exact s b u q
structure Sc (K:PySem.W.Frag) (a:Addr) (ns:List Int) (H:Hp):Prop where
 sq:(∃ o,H a=some (.frz o (.lst (ns.map V.int))))∨∃ (o:Obj) (its:Array Value) (n:Nat),K.lookup a=some o∧o.cls=.type "list" ∧ o.dict=none∧o.data=.seq its n∧its.size ≤ sizeLine∧zd (ns.map V.int) its.toList
 nt:NoT H
section
variable {K:PySem.W.Frag} {a p:Addr} {ns:List Int} {H H':Hp} {o:HO}
theorem Sc.seq (s:Sc K a ns H):SqL K H a (ns.map V.int):=by
 rcases s.sq with ⟨o,h⟩ | h
 ·exact .inl (.inr ⟨o,h⟩)
 ·exact .inr h
theorem Sc.new (s:Sc K a ns H) (hp:H p=none) (ho:noT o=true:=by rfl):Sc K a ns (upd H p o):=by
 refine ⟨?_,fun b u e=>?_⟩
 ·rcases s.sq with ⟨ob,h⟩ | h
  ·exact .inl ⟨ob,by rw [Eb (Nb h hp)];exact h⟩
  ·exact .inr h
 ·by_cases hb:b=p
  ·subst hb;rw [ib] at e;cases e;exact ho
  ·rw [Eb hb] at e;exact s.nt b u e
theorem Sc.set {u:HO} (s:Sc K a ns H) (hp:H p=some u) (hu:∀ ob z,u ≠ .frz ob z) (ho:noT o=true:=by rfl):Sc K a ns (upd H p o):=by
 refine ⟨?_,fun b x e=>?_⟩
 ·rcases s.sq with ⟨ob,h⟩ | h
  ·refine .inl ⟨ob,?_⟩;have hne:a ≠ p:=fun z=>by subst z;rw [hp] at h;exact hu _ _ (Option.some.inj h)
   rw [Eb hne];exact h
  ·exact .inr h
 ·by_cases hb:b=p
  ·subst hb;rw [ib] at e;cases e;exact ho
  ·rw [Eb hb] at e;exact s.nt b x e
theorem Sc.of_only (hO:rN H) (hS:SqL K H a (ns.map V.int)):Sc K a ns H:=by
 refine ⟨?_,fun b u e=>?_⟩
 ·rcases hS with (h | ⟨o,h⟩) | h
  ·rcases hO a with z | ⟨ob,xs,z⟩
   ·rw [h] at z;cases z
   ·rw [h] at z;cases z
  ·exact .inl ⟨o,h⟩
  ·exact .inr h
 ·rcases hO b with z | ⟨ob,xs,z⟩
  ·rw [e] at z;cases z
  ·rw [e] at z;cases z;rfl
end
noncomputable def yN (K:PySem.W.Frag):Sp:=fun vs H Q _=>∃ (a:Addr) (ns:List Int),vs=[.ref a]∧Sc K a ns H∧ns.length ≤ 63∧∀ H',Q (.bl true) H'
theorem ic:bootBuiltins "len"=some (.builtin "len"):=PySem.boot_len
theorem BC:bootBuiltins "all"=some (.builtin "all"):=by decide +kernel
theorem Jt:bootBuiltins "min"=some (.builtin "min"):=by decide +kernel
theorem Jo:bootBuiltins "max"=some (.builtin "max"):=by decide +kernel
theorem PB:bootBuiltins "sum"=some (.builtin "sum"):=by decide +kernel
theorem So:bootBuiltins "isinstance"=some (.builtin "isinstance"):=by decide +kernel
theorem wC:bootBuiltins "int"=some (.type "int"):=by decide +kernel
theorem wo:bootBuiltins "str"=some (.type "str"):=by decide +kernel
theorem Fy:bootBuiltins "bool"=some (.type "bool"):=by decide +kernel
theorem Xy:bootBuiltins "list"=some (.type "list"):=by decide +kernel
theorem Xw:bootBuiltins "tuple"=some (.type "tuple"):=by decide +kernel
theorem Yy:bootBuiltins "dict"=some (.type "dict"):=by decide +kernel
theorem Rd.same {H H':Hp} {a:Addr} {o:HO} (h:Rd H a o) (s:Sb H H'):Rd H' a o:=by
 rcases h with h | ⟨ob,h⟩
 ·exact .inl (s _ _ h)
 ·exact .inr ⟨ob,s _ _ h⟩
theorem SqL.same {K:PySem.W.Frag} {H H':Hp} {a:Addr} {xs:List V} (h:SqL K H a xs) (s:Sb H H'):SqL K H' a xs:=by
 rcases h with h | h
 ·exact .inl (h.same s)
 ·exact .inr h
theorem SqT.same {K:PySem.W.Frag} {H H':Hp} {a:Addr} {xs:List V} (h:SqT K H a xs) (s:Sb H H'):SqT K H' a xs:=by
 rcases h with h | h
 ·exact .inl (h.same s)
 ·exact .inr h
theorem NoT.upd {H:Hp} {p:Addr} {o:HO} (h:NoT H) (ho:noT o=true:=by rfl):NoT (upd H p o):=fun b u e=>by
 by_cases hb:b=p
 ·subst hb;rw [ib] at e;cases e;exact ho
 ·rw [Eb hb] at e;exact h b u e
theorem Sc.same {K:PySem.W.Frag} {a:Addr} {ns:List Int} {H H':Hp} (s:Sc K a ns H) (sm:Sb H H') (nt:NoT H'):Sc K a ns H':=by
 refine ⟨?_,nt⟩;rcases s.sq with ⟨o,h⟩ | h
 ·exact .inl ⟨o,sm _ _ h⟩
 ·exact .inr h
end L2
namespace L2
open PySem PySem.Spec PyProof.Rows
structure OP (K:PySem.W.Frag) (C:Addr) (m:Str) (f:Addr):Prop where
 rd:PySem.W.readsIn K C (.type "type")=true
 fd:PySem.W.findCls K (.ref C) (.type "type") m=some (.val (.ref f))
 ga:PySem.W.specialIn K (.ref C) "__getattribute__"=some (some (.builtin "type.__getattribute__"))
 kp:PySem.W.keepIn K (.ref f)=true
structure JL (P:Program) (w:World) (K:PySem.W.Frag) (mg:Str→Option Value) (base:Heap) (CX:CXT) (k:Nat) (OK:Addr→Prop) (m:Str) (ps:List Str) (SPV:Addr→Sp):Prop where
 ok:∀ C,OK C→∃ f fd,Cls K C∧Jv K C m f∧Ub P w K mg base CX k f fd ps (SPV C)∧gc K fd ps []
noncomputable def aK (OK:Addr→Prop) (m:Str) (SPV:Addr→Sp) (E:XK) (ta:TE) (t:TA):TE:=fun σ H Q=>ta σ H fun x H1=>∃ a C dx fs,x=.ref a∧H1 a=some (.ins C dx fs)∧OK C∧fs.lookup m=none ∧
 t σ H1 fun vs H2=>SPV C (x :: vs) H2 Q E
section
variable {X:Cx} {CX:CXT} {k:Nat} {f C:Addr} {fd:FuncData} {ps:List Str} {sp:Sp} {dvs:List V} {ds:List Value} {E:XK} {x m:Str} {p pos apos:Pos} {e o:Expr} {es:List Expr} {ta:TE} {t:TA}
theorem Vu {pl:Sem Bool} (hg:Gl X x) (hm:X.mg x=some (.ref C)) (c:OP X.K C m f) (F:Ub X.prog X.w X.K X.mg X.base CX k f fd ps sp) (hr:pk k X.A) (hb:gc X.K fd ps ds) (hd:zd dvs ds) (hx:jn CX X E) (ha:PA X (e :: es) t)
  (hdb:(x == ("__debug__" : Str))=false:=by decide) (hst:starEach (e :: es) X.env=(false,eval e X.env) :: starEach es X.env:=by rfl) (hpl:(backTo pos (starEach es X.env)).any (·.1)=false:=by rfl)
  (ht:eval (.Call (.Attribute (.Name x p) m apos) (e :: es) [] pos) X.env=(do
   let ov ← eval (.Name x p) X.env
   standAt apos.atName
   let (f,first) ← holding [ov] (getMethod ov m pl)
   callWith pos f first (backTo pos (starEach (e :: es) X.env)) (backToKw pos (keywordEach [] X.env))):=by rfl) :
  PE X (.Call (.Attribute (.Name x p) m apos) (e :: es) [] pos) (zI sp dvs E t):=by
 intro pins s σ H Q I h;refine PySem.W.methodCall_KW (pl:=pl) (Su I hg hm ?_ hdb) ht;refine PySem.W.method_cls I.kIn c.ga (PySem.W.cls_value I.kIn c.rd c.fd rfl ?_);have I1:=I.tok (s.toks + 1);refine PySem.W.callWith_K (first:=[]) (h₀:=X.base) I.ok.mod.kin c.kp (thn (ha pos pins _ σ H _ I1 h) fun us s2 ⟨vs,H2,I2,r,q2⟩=>⟨I2.kIn,?_⟩) hst hpl;exact sw F hr hb hd hx I2 r q2
variable {OK:Addr→Prop} {SPV:Addr→Sp}
theorem gw {pl:Sem Bool} (he:PE X o ta) (V:JL X.prog X.w X.K X.mg X.base CX k OK m ps SPV) (hr:pk k X.A) (hx:jn CX X E)
  (ht:eval (.Call (.Attribute o m apos) [] [] pos) X.env=(do
   let ov ← eval o X.env
   standAt apos.atName
   let (f,first) ← holding [ov] (getMethod ov m pl)
   callWith pos f first (backTo pos (starEach [] X.env)) (backToKw pos (keywordEach [] X.env))):=by rfl) :
  PE X (.Call (.Attribute o m apos) [] [] pos) (aK OK m SPV E ta yO):=by
 intro pins s σ H Q I h;refine PySem.W.methodCall_KW (pl:=pl) (thn (he pins s σ H _ I h) fun u s1 hZ1=>?_) ht;obtain ⟨x,H1,I1,rx,a,C,dx,fs,ex,ea,ok,l,q⟩:=hZ1;subst ex;obtain rfl:u=Value.ref a:=rx;obtain ⟨f,fd,c,hm,F,hb⟩:=V.ok C ok;refine Eo I1 ea c hm l ?_;exact PySem.W.callWith_K0 (first:=[.ref a]) I1.kIn hm.kp (sw (us:=[.ref a]) (vs:=[.ref a]) (dvs:=[]) F hr hb .nil hx I1 (.cons rfl .nil) q)
end
section
variable {X:Cx} {x:Str} {p pos:Pos} {i:Expr} {ty:TE} {u:Value} {kvs:List (Str × V)}
end
theorem je {f:Str} {v:V}:∀ {fs:List (Str × V)} (ks:List Str),fs.map (·.1)=ks→ks.contains f=false→nj f v fs=fs ++ [(f,v)]
 | [],_,_,_=>rfl
 | (g,y) :: r,ks,e,h=>by
  cases e;rw [List.map_cons,List.contains_cons] at h;have h1:=(Bool.or_eq_false_iff.mp h);have hne:¬ g=f:=fun z=>by
   have:=h1.1;rw [z] at this;simp at this
  show (if g=f then _ else _)=_;rw [if_neg hne,je _ rfl h1.2];rfl
theorem Jp {f:Str} {v:V} {fs:List (Str × V)} {n:Nat} (h:fs.length < n):(nj f v fs).length < n + 1:=Nat.lt_of_le_of_lt (Bm f v fs) (by omega)
theorem Le {f:Str} {v:V}:∀ {fs:List (Str × V)} (ks:List Str) (i:Nat),fs.map (·.1)=ks→ks.findIdx? (· == f)=some i→fs[i]? = some (f,v)→fs.lookup f=some v
 | [],_,_,_,_,h=>by simp at h
 | (g,y) :: r,ks,i,e,h,hv=>by
  cases e;rw [List.map_cons,List.findIdx?_cons] at h;rw [List.lookup];by_cases e:g=f
  ·subst e;rw [beq_self_eq_true,if_pos rfl] at h;cases h;have:(g,y)=(g,v):=by simpa using hv
   cases this;rw [beq_self_eq_true]
  ·rw [beq_eq_false_iff_ne.mpr e,if_neg (by decide)] at h;obtain ⟨j,hj,rfl⟩:=Option.map_eq_some_iff.mp h;rw [beq_eq_false_iff_ne.mpr (fun z=>e z.symm)];exact Le _ j rfl hj (by simpa using hv)
theorem xn {f:Str}:∀ {fs:List (Str × V)} (ks:List Str),fs.map (·.1)=ks→ks.contains f=false→fs.lookup f=none
 | [],_,_,_=>rfl
 | (g,y) :: r,ks,e,h=>by
  cases e;rw [List.map_cons,List.contains_cons] at h;have h1:=(Bool.or_eq_false_iff.mp h);rw [List.lookup,h1.1];exact xn _ rfl h1.2
end L2
namespace L2
open PySem PySem.Spec PyProof.Rows
theorem Inv.turnedL {X:Cx} {pins:List (Addr × Obj)} {σ:St} {H:Hp} {s:Shared} {h':Heap} {t':Nat} {fp:List Addr} (I:Inv X pins σ H s) (k:∀ b o,b ∉ fp→s.heap.get? b=some o→h'.get? b=some o)
  (hf:∀ b ∈ fp,mv X pins H b):Inv X pins σ H { s with heap:=h',toks:=t' }:=by
 have nit:∀ b u,H b=some u→b ∉ fp:=fun b u e z=>by rw [(hf b z).1] at e;cases e
 refine I.step (g':=s.gens) (d':=s.drawn) (ch:=fp) (fun b hb=>?_) (fun b o _ _ hc e _=>k b o hc e) (fun b o _ _ hc e _=>⟨o.slots,k b o hc e⟩) (fun _ _ _ _ n=>n)
  (fun b o hc e=>⟨o,k b o hc e⟩) (fun _ _ e=>e) (fun _ _ _ e=>e) (fun b ps e=>⟨#[],by rw [e];simp⟩) (fun m hm=>?_) (fun b u e=>?_) I.bare
 ·obtain ⟨f0,f1,f2,f3,f4,f5⟩:=hf b hb;exact ⟨f3,f1,f4,f5⟩
 ·obtain ⟨o,es,ep,ho,r⟩:=hm;exact ⟨o,es,ep,k _ o (fun z=>(hf _ z).2.1 rfl) ho,r⟩
 ·refine (I.hok b u e).stay (fun c v hc q=>k c v ?_ q) (fun _ q=>q) fun _ _ q=>q
  rcases hc with z | z
  ·rw [z];exact nit b u e
  ·exact nit c _ z
noncomputable def Ite (K:PySem.W.Frag) (a:Addr):It:=
 ⟨fun i H=>∃ xs x,SqL K H a xs∧xs[i]? = some x,fun i H v H'=>∃ p y,H p=none∧v=.ref p∧(∀ xs,SqL K H a xs→xs[i]? = some y)∧H'=upd H p (.tup [.int i,y]),fun i H=>∃ xs,SqL K H a xs∧xs.length ≤ i⟩
theorem lF {P:Program} {w:World} {K:PySem.W.Frag} {es:List Expr} {k} {pos:Pos} (a e it:Addr) (hne:e ≠ it) :
  YG P w K (.Tuple es k pos) (Ite K a) [e,it] e (fun i h=>∃ old,IsEnum h e it ((i:Nat):Int) old∧h.IsListIter it a i) where
 mem:=by simp
 obj:=fun i h ⟨old,he,hi⟩ b hb=>by
  simp only [List.mem_cons,List.not_mem_nil,or_false] at hb;rcases hb with rfl | rfl
  ·exact ⟨_,he,fun v z=>by
    have z':Data.fields _=Data.cell v:=z;cases z'⟩
  ·obtain ⟨o,q,c,d⟩:=hi;exact ⟨o,q,fun v z=>by rw [d] at z;cases z⟩
 keep:=fun i h h' ⟨old,he,hi⟩ k=>⟨old,k e (by simp) _ he,hi.at fun o q=>k it (by simp) o q⟩
 item:=by
  intro X hP hw hK hc i pins s σ H E I hf ⟨old,he,hi⟩ hg;subst hP hw hK;obtain ⟨xs,x,hq,hx⟩:=hg;obtain ⟨its,rv,p,hz⟩:=I.list hq;obtain ⟨u,hu,ru⟩:=rv.get hx;refine wpAny_pyNext_enum_item he hi p.isList (x:=u) (by simpa using hu) hne fun h1 he1 hi1 ht1 hz1 hk1=>⟨_,rfl,?_⟩
  refine wpAny_letOwnedTupleGo_enum he1 fun h2 he2 hs2=>?_
  replace hs2:Heap.SameBut e h1 h2:=hs2;have hel:e < s.heap.objs.size:=Heap.lt_size he;have hk:∀ b o,b ∉ [e,it]→s.heap.get? b=some o→h2.get? b=some o:=fun b o hb q=>by
   simp only [List.mem_cons,List.not_mem_nil,or_false,not_or] at hb;exact hs2.extBut _ _ hb.1 (hk1 b o hb.1 hb.2 q)
  have I1:Inv X pins σ H { s with heap:=h2,toks:=s.toks + 1 }:=I.turnedL hk hf;have fo:mv X pins H s.heap.objs.size:=I.fpOk (Nat.le_refl _) (I.hok.fresh (Nat.le_refl _));have ht2:h2.get? s.heap.objs.size=some { cls:=.type "tuple",data:=.seq #[.int i s.toks,u] }:=(hs2.2 _ (Nat.ne_of_gt hel)).trans ht1;have I2:=I1.adopt (o:=.tup [.int i,x]) fo ⟨⟨by show 2 ≤ sizeLine;decide,_,ht2,rfl⟩,[.int i s.toks,u],.cons ⟨_,rfl⟩ (.cons ru .nil),⟨_,ht2,rfl,_,rfl⟩⟩;refine ⟨.ref s.heap.objs.size,_,I2,rfl,⟨_,x,fo.1,rfl,fun ys hy=>by rw [I.list_inj hy hq];exact hx,rfl⟩,⟨u,?_,?_⟩,fun b hb=>?_⟩
  ·have e1:((i + 1:Nat):Int)=(i:Int) + 1:=by omega
   rw [e1];exact he2
  ·exact hi1.extBut hs2.extBut (Ne.symm hne)
  ·have hlt:b < s.heap.objs.size:=by
    simp only [List.mem_cons,List.not_mem_nil,or_false] at hb;rcases hb with rfl | rfl
    ·exact hel
    ·obtain ⟨o,q,_⟩:=hi;exact Heap.lt_size q
   rw [Eb (Nat.ne_of_lt hlt)];exact (hf b hb).1
 done:=by
  intro X hP hw hK hc i pins s σ H E I hf ⟨old,he,hi⟩ hg;subst hP hw hK;obtain ⟨xs,hq,hx⟩:=hg;obtain ⟨its,rv,p,hz⟩:=I.list hq;have hl:=rv.length;exact wpAny_pyNext_enum_end (I.ok.hd hc) he hi p.isList (by simp;omega) fun h' eb=>⟨rfl,I.turnedL (t':=s.toks) (fun b o hb q=>eb b o (fun z=>hb (by simp [z])) q) hf⟩
 self:=fun _ _ _ _ _ ⟨_,he,_⟩ h=>wpAny_pyIter_enum he h
theorem gm:bootBuiltins "enumerate"=some (.type "enumerate"):=by decide +kernel
theorem DH:bootBuiltins "zip"=some (.type "zip"):=by decide +kernel
noncomputable def Itz (K:PySem.W.Frag) (a b:Addr):It:=
  ⟨fun i H=>∃ xs ys x y,SqL K H a xs∧SqL K H b ys∧xs[i]? = some x∧ys[i]? = some y,
   fun i H v H'=>∃ p x y,H p=none∧v=.ref p∧(∀ xs,SqL K H a xs→xs[i]? = some x)∧(∀ ys,SqL K H b ys→ys[i]? = some y)∧H'=upd H p (.tup [x,y]),
   fun i H=>∃ xs ys,SqL K H a xs∧SqL K H b ys∧(xs.length ≤ i∨ys.length ≤ i)⟩
theorem Pg {h:Heap} {a b:Addr} {o o':Obj} {c d:String} (ha:h.get? a=some o) (hb:h.get? b=some o') (hc:o.cls=.type c) (hd:o'.cls=.type d) (n:c ≠ d):a ≠ b:=fun z=>by
 subst z;rw [ha] at hb;cases hb;rw [hc] at hd;cases hd;exact n rfl
theorem Wv {h:Heap} {z TI TO i1 i2 l1 l2:Addr} {f0 u1 u2 v1 v2:Value} {k1 k2:Nat} {xs ys:Array Value} (hz:IsZip h z TI TO f0) (hTI:IsPair h TI u1 u2) (hTO:IsPair h TO v1 v2) (h1:h.IsListIter i1 l1 k1) (h2:h.IsListIter i2 l2 k2)
  (g1:h.IsList l1 xs) (g2:h.IsList l2 ys) (nT:TI ≠ TO) (ni:i1 ≠ i2):ZipApart z TI TO i1 i2 l1 l2:=by
 obtain ⟨o1,e1,c1,_⟩:=h1;obtain ⟨o2,e2,c2,_⟩:=h2;obtain ⟨p1,f1,d1,_⟩:=g1;obtain ⟨p2,f2,d2,_⟩:=g2;exact ⟨Pg hTI hz rfl rfl (by decide),Pg hTO hz rfl rfl (by decide),Pg e1 hz c1 rfl (by decide),Pg e2 hz c2 rfl (by decide),nT,Pg hTI e1 rfl c1 (by decide),Pg hTI e2 rfl c2 (by decide),
  Pg hTO e1 rfl c1 (by decide),Pg hTO e2 rfl c2 (by decide),ni,Pg f1 hz d1 rfl (by decide),Pg f1 hTO d1 rfl (by decide),Pg f1 e1 d1 c1 (by decide),Pg f1 e2 d1 c2 (by decide),
  Pg f2 hz d2 rfl (by decide),Pg f2 hTO d2 rfl (by decide),Pg f2 e1 d2 c1 (by decide),Pg f2 e2 d2 c2 (by decide)⟩
theorem QH {P:Program} {w:World} {K:PySem.W.Frag} {es:List Expr} {k} {pos:Pos} (a b z TI TO i1 i2:Addr) (nT:TI ≠ TO) (ni:i1 ≠ i2) :
  YG P w K (.Tuple es k pos) (Itz K a b) [z,TI,TO,i1,i2] z (fun i h=>IsZip h z TI TO .none∧IsPair h TI (.ref i1) (.ref i2)∧(∃ u v,IsPair h TO u v)∧h.IsListIter i1 a i∧h.IsListIter i2 b i) where
 mem:=by simp
 obj:=fun i h ⟨hz,hTI,⟨u,v,hTO⟩,⟨o1,e1,_,d1⟩,o2,e2,_,d2⟩ c hc=>by
  simp only [List.mem_cons,List.not_mem_nil,or_false] at hc;rcases hc with rfl | rfl | rfl | rfl | rfl
  ·exact ⟨_,hz,fun v z=>by
    have z':Data.fields _=Data.cell v:=z;cases z'⟩
  ·exact ⟨_,hTI,fun v z=>by
    have z':Data.seq _ _=Data.cell v:=z;cases z'⟩
  ·exact ⟨_,hTO,fun v z=>by
    have z':Data.seq _ _=Data.cell v:=z;cases z'⟩
  ·exact ⟨o1,e1,fun v z=>by rw [d1] at z;cases z⟩
  ·exact ⟨o2,e2,fun v z=>by rw [d2] at z;cases z⟩
 keep:=fun i h h' ⟨hz,hTI,⟨u,v,hTO⟩,h1,h2⟩ k=>⟨k z (by simp) _ hz,k TI (by simp) _ hTI,⟨u,v,k TO (by simp) _ hTO⟩,h1.at fun o q=>k i1 (by simp) o q,h2.at fun o q=>k i2 (by simp) o q⟩
 item:=by
  intro X hP hw hK hc i pins s σ H E I hf ⟨hz,hTI,⟨u,v,hTO⟩,h1,h2⟩ hg;subst hP hw hK;obtain ⟨xs,ys,x,y,hq,hr,hx,hy⟩:=hg;obtain ⟨its,rv,p,hz1⟩:=I.list hq;obtain ⟨jts,rw',p',hz2⟩:=I.list hr;obtain ⟨ux,hu,ru⟩:=rv.get hx;obtain ⟨uy,hv,rv'⟩:=rw'.get hy;have D:=Wv hz hTI hTO h1 h2 p.isList p'.isList nT ni;refine wpAny_pyNext_zip_item D hz hTI hTO h1 h2 p.isList p'.isList (x:=ux) (y:=uy) (by simpa using hu) (by simpa using hv) fun g gz gTO g1 g2 gT gs gk=>⟨_,rfl,?_⟩
  refine wpAny_letOwnedTupleGo_zip gz fun g' gz' hs'=>?_
  replace hs':Heap.SameBut z g g':=hs';have hzl:z < s.heap.objs.size:=Heap.lt_size hz;have hk:∀ c o,c ∉ [z,TI,TO,i1,i2]→s.heap.get? c=some o→g'.get? c=some o:=fun c o hc q=>by
   simp only [List.mem_cons,List.not_mem_nil,or_false,not_or] at hc;exact hs'.extBut _ _ hc.1 (gk c o hc.1 hc.2.2.1 hc.2.2.2.1 hc.2.2.2.2 q)
  have I1:Inv X pins σ H { s with heap:=g',toks:=s.toks }:=I.turnedL hk hf;have fo:mv X pins H s.heap.objs.size:=I.fpOk (Nat.le_refl _) (I.hok.fresh (Nat.le_refl _));have ht2:IsPair g' s.heap.objs.size ux uy:=(hs'.2 _ (Nat.ne_of_gt hzl)).trans gT;have I2:=I1.adopt (o:=.tup [x,y]) fo ⟨⟨by show 2 ≤ sizeLine;decide,_,ht2,rfl⟩,[ux,uy],.cons ru (.cons rv' .nil),⟨_,ht2,rfl,_,rfl⟩⟩;refine ⟨.ref s.heap.objs.size,_,I2,rfl,⟨_,x,y,fo.1,rfl,fun ys hy=>by rw [I.list_inj hy hq];exact hx,fun zs hzs=>by rw [I.list_inj hzs hr];exact hy,rfl⟩,⟨gz',?_,⟨_,_,hs'.extBut _ _ D.TOz gTO⟩,g1.extBut hs'.extBut D.i1z,g2.extBut hs'.extBut D.i2z⟩,fun b hb=>?_⟩
  ·exact hs'.extBut _ _ D.TIz (gk _ _ D.TIz D.TITO D.TIi1 D.TIi2 hTI)
  ·have hlt:b < s.heap.objs.size:=by
    obtain ⟨o1,e1,_⟩:=h1;obtain ⟨o2,e2,_⟩:=h2;simp only [List.mem_cons,List.not_mem_nil,or_false] at hb;rcases hb with rfl | rfl | rfl | rfl | rfl
    ·exact hzl
    ·exact Heap.lt_size hTI
    ·exact Heap.lt_size hTO
    ·exact Heap.lt_size e1
    ·exact Heap.lt_size e2
   rw [Eb (Nat.ne_of_lt hlt)];exact (hf b hb).1
 done:=by
  intro X hP hw hK hc i pins s σ H E I hf ⟨hz,hTI,⟨u,v,hTO⟩,h1,h2⟩ hg;subst hP hw hK;obtain ⟨xs,ys,hq,hr,hx⟩:=hg;obtain ⟨its,rv,p,hz1⟩:=I.list hq;obtain ⟨jts,rw',p',hz2⟩:=I.list hr;have hl:=rv.length;have hl':=rw'.length;have D:=Wv hz hTI hTO h1 h2 p.isList p'.isList nT ni;exact wpAny_pyNext_zip_end (I.ok.hd hc) D hz hTI hTO h1 h2 p.isList p'.isList (by simp;omega) fun h' eb=>⟨rfl,I.turnedL (t':=s.toks) (fun b o hb q=>eb b o (fun z=>hb (by simp [z])) (fun z=>hb (by simp [z])) (fun z=>hb (by simp [z])) (fun z=>hb (by simp [z])) q) hf⟩
 self:=fun _ _ _ _ _ ⟨hz,_⟩ h=>wpAny_pyIter_zip hz h
section
variable {X:Cx}
noncomputable def zM (K:PySem.W.Frag) (ta:TA):TI:=fun σ H R=>ta σ H fun vs H1=>∃ a,vs=[.ref a]∧(∃ xs,SqL K H1 a xs)∧R (Ite K a) H1
theorem xq {es:List Expr} {k} {tpos:Pos} {a:Expr} {ta:TA} {p pos:Pos} (hg:Gl X "enumerate") (hm:X.mg "enumerate"=none) (ha:PA X [a] ta) (hs:starEach [a] X.env=[(false,eval a X.env)]:=by rfl) :
  PI X (.Tuple es k tpos) (.Call (.Name "enumerate" p) [a] [] pos) (zM X.K ta):=by
 intro pins s σ H R I h;refine Call_ (cn I hg hm gm (PyProof.Rows.callWith_type1 (thn (ha pos pins s σ H _ I h) fun us s1 hZ1=>?_) hs rfl));obtain ⟨vs,H1,I1,r1,q1⟩:=hZ1;obtain ⟨a,e,⟨xs,hq⟩,q⟩:=q1;subst e;cases r1 with
 | cons r rr=>
  cases rr;cases r;obtain ⟨its,rv,pl,hz⟩:=I1.list hq;refine call_enumerate_list pl.isList fun h' hE hI hsz hk=>wpAny_pyIter_enum hE ?_
  refine ⟨s1.heap.objs.size + 1,[s1.heap.objs.size + 1,s1.heap.objs.size],_,_,H1,rfl,I1.kept (t':=s1.toks) hk,lF a _ _ (Nat.succ_ne_self _),⟨_,hE,hI⟩,fun b hb=>?_,q⟩;have hb':s1.heap.objs.size ≤ b:=by
   simp only [List.mem_cons,List.not_mem_nil,or_false] at hb;rcases hb with rfl | rfl
   ·exact Nat.le_succ _
   ·exact Nat.le_refl _
  exact I1.fpOk hb' (I1.hok.fresh hb')
noncomputable def RP (K:PySem.W.Frag) (ta:TA):TI:=fun σ H R=>ta σ H fun vs H1=>∃ a b,vs=[.ref a,.ref b]∧(∃ xs,SqL K H1 a xs)∧(∃ ys,SqL K H1 b ys)∧R (Itz K a b) H1
theorem pO {es:List Expr} {k} {tpos:Pos} {a b:Expr} {ta:TA} {p pos:Pos} (hg:Gl X "zip") (hm:X.mg "zip"=none) (ha:PA X [a,b] ta) (hs:starEach [a,b] X.env=[(false,eval a X.env),(false,eval b X.env)]:=by rfl)
  (hs2:starEach [b] X.env=[(false,eval b X.env)]:=by rfl):PI X (.Tuple es k tpos) (.Call (.Name "zip" p) [a,b] [] pos) (RP X.K ta):=by
 intro pins s σ H R I h;refine Call_ (cn I hg hm DH (PyProof.Rows.callWith_type1 (thn (ha pos pins s σ H _ I h) fun us s1 hZ1=>?_) (by rw [hs,hs2]) (by rw [hs2];rfl)));obtain ⟨vs,H1,I1,r1,q1⟩:=hZ1;obtain ⟨a,b,e,⟨xs,hq⟩,⟨ys,hr⟩,q⟩:=q1;subst e;cases r1 with
 | cons r rr=>
  cases rr with
  | cons r' rr=>
   cases rr;cases r;cases r';obtain ⟨its,rv,pl,hz⟩:=I1.list hq;obtain ⟨jts,rv',pl',hz'⟩:=I1.list hr;refine call_zip_2 pl.isList pl'.isList fun h' hz hTI hTO h1 h2 hsz hk=>wpAny_pyIter_zip hz ?_
   refine ⟨s1.heap.objs.size + 4,[s1.heap.objs.size + 4,s1.heap.objs.size + 2,s1.heap.objs.size + 3,s1.heap.objs.size,s1.heap.objs.size + 1],_,_,H1,rfl,I1.kept (t':=s1.toks) hk,
    QH a b _ _ _ _ _ (Nat.ne_of_lt (Nat.lt_succ_self _)) (Nat.ne_of_lt (Nat.lt_succ_self _)),⟨hz,hTI,⟨_,_,hTO⟩,h1,h2⟩,fun c hc=>?_,q⟩
   have hb':s1.heap.objs.size ≤ c:=by
    simp only [List.mem_cons,List.not_mem_nil,or_false] at hc;rcases hc with rfl | rfl | rfl | rfl | rfl
    ·exact Nat.le_add_right _ _
    ·exact Nat.le_add_right _ _
    ·exact Nat.le_add_right _ _
    ·exact Nat.le_refl _
    ·exact Nat.le_add_right _ _
   exact I1.fpOk hb' (I1.hok.fresh hb')
end
theorem Xf {X:Cx} {es:List Expr} {k:Nat} {pos:Pos} {t:TGs} {n:Nat} {K:PySem.W.Frag} (hK:X.K=K) (hc:X.calm=true) (h:PGs X es t)
  (hn:(assignEach es X.env).length=n:=by rfl) (hst:(assignEach es X.env).findIdx? (·.1)=none:=by rfl):PG X (.Tuple es k pos) (qM K n t):=by
 subst hK;exact lN hc h hn hst
section
variable {X:Cx}
end
end L2
namespace L2
open PySem PySem.Spec PyProof.Rows
inductive EqH (K:PySem.W.Frag) (H:Hp):Nat→V→V→Bool→Prop
 | flat {k:Nat} {x y:V} (hx:Cm x=true) (hy:Cm y=true):EqH K H k x y (eqV x y)
 | lst {k:Nat} {p q:Addr} {xs ys:List V} {e:Nat→Bool} (hp:SqL K H p xs) (hq:SqL K H q ys) (hl:xs.length=ys.length) (he:∀ (j:Nat) (x y:V),xs[j]? = some x→ys[j]? = some y→EqH K H k x y (e j)):EqH K H (k + 1) (.ref p) (.ref q) ((List.range xs.length).all e)
 | lstN {k:Nat} {p q:Addr} {xs ys:List V} (hp:SqL K H p xs) (hq:SqL K H q ys) (hl:xs.length ≠ ys.length):EqH K H (k + 1) (.ref p) (.ref q) false
 | tup {k:Nat} {p q:Addr} {xs ys:List V} {e:Nat→Bool} (hp:SqT K H p xs) (hq:SqT K H q ys) (he:∀ (j:Nat) (x y:V),xs[j]? = some x→ys[j]? = some y→EqH K H k x y (e j)):EqH K H (k + 1) (.ref p) (.ref q) ((List.range (min xs.length ys.length)).all e && xs.length == ys.length)
theorem xH {x:V} (h:Cm x=true):eqV x x=true:=by
 cases x <;> first | rfl | (simp [eqV];done) | cases h
theorem Zt {n:Nat} {e:Nat→Bool} (h:∀ j,j < n→e j=true):(List.range n).all e=true:=by
 rw [List.all_eq_true];exact fun j hj=>h j (List.mem_range.mp hj)
section
variable {X:Cx} {pins:List (Addr × Obj)} {σ:St} {H:Hp} {s:Shared}
theorem EqH.self (I:Inv X pins σ H s) {k:Nat} {x y:V} {b:Bool} (h:EqH X.K H k x y b) (e:x=y):b=true:=by
 induction h with
 | flat hx hy=>subst e;exact xH hx
 | @lst k p q xs ys f hp hq hl he ih=>
  injection e with e;subst e;have:=I.list_inj hp hq;subst this;refine Zt fun j hj=>?_
  exact ih j xs[j] xs[j] (List.getElem?_eq_getElem hj) (List.getElem?_eq_getElem hj) rfl
 | lstN hp hq hl=>
  injection e with e;subst e;have:=I.list_inj hp hq;subst this;exact absurd rfl hl
 | @tup k p q xs ys f hp hq he ih=>
  injection e with e;subst e;have:=I.tuple_inj hp hq;subst this;rw [Bool.and_eq_true];refine ⟨Zt fun j hj=>?_,by simp⟩;have hj':j < xs.length:=by omega
  exact ih j xs[j] xs[j] (List.getElem?_eq_getElem hj') (List.getElem?_eq_getElem hj') rfl
theorem bn (A:Around):A.in1.units=A.units + 1:=rfl
theorem BB (I:Inv X pins σ H s) {k:Nat} {x y:V} {b:Bool} (h:EqH X.K H k x y b):∀ (A:Around) (v u:Value),A.units + k < cLine→yd x v→yd y u →
  SeqAt.EqAt A s v u b∧(∀ p q,x=.ref p→y=.ref q→SeqAt.RcAt A s v u b):=by
 induction h with
 | flat hx hy=>
  intro A v u hu rx ry;refine ⟨VJ rx ry hx hy,fun p q e _=>?_⟩;subst e;cases hx
 | @lst k p q xs ys f hp hq hl he ih=>
  intro A v u hu rx ry;cases rx;cases ry;obtain ⟨its,r,pl,hz⟩:=I.list hp;obtain ⟨jts,r',pl',hz'⟩:=I.list hq;have l1:=r.length;have l2:=r'.length;have rc:SeqAt.RcAt A s (.ref p) (.ref q) ((List.range xs.length).all f):=by
   have:=SeqAt.RcAt.lists (A:=A) (e:=f) pl.isList pl'.isList (by simp only [List.size_toArray];omega) (by omega) fun j h1 h2=>by
    simp only [List.size_toArray] at h1 h2;have hj:j < xs.length:=by omega
    have hj':j < ys.length:=by omega
    obtain ⟨a,ha,ra⟩:=r.get (List.getElem?_eq_getElem hj);obtain ⟨c,hc,rc⟩:=r'.get (List.getElem?_eq_getElem hj');have ea:its.toArray[j]=a:=by
     have:=List.getElem?_eq_getElem h1;rw [ha] at this;simpa using (Option.some.inj this).symm
    have ec:jts.toArray[j]=c:=by
     have:=List.getElem?_eq_getElem h2;rw [hc] at this;simpa using (Option.some.inj this).symm
    rw [ea,ec];exact (ih j _ _ (List.getElem?_eq_getElem hj) (List.getElem?_eq_getElem hj') A.in1 a c (by rw [bn];omega) ra rc).1
   rwa [List.size_toArray,← l1] at this
  refine ⟨?_,fun _ _ _ _=>rc⟩;by_cases hne:p=q
  ·have hb:=(EqH.lst hp hq hl he).self I (congrArg V.ref hne);rw [hb,hne];exact SeqAt.EqAt.same _
  ·exact SeqAt.EqAt.of_refs hne rc
 | @lstN k p q xs ys hp hq hl=>
  intro A v u hu rx ry;cases rx;cases ry;obtain ⟨its,r,pl,hz⟩:=I.list hp;obtain ⟨jts,r',pl',hz'⟩:=I.list hq;have l1:=r.length;have l2:=r'.length;have rc:SeqAt.RcAt A s (.ref p) (.ref q) false:=SeqAt.RcAt.lists_lengths pl.isList pl'.isList (by simp only [List.size_toArray,bne_iff_ne,ne_eq];omega) (by omega);refine ⟨SeqAt.EqAt.of_refs (fun e=>hl ?_) rc,fun _ _ _ _=>rc⟩;subst e;rw [I.list_inj hp hq]
 | @tup k p q xs ys f hp hq he ih=>
  intro A v u hu rx ry;cases rx;cases ry;obtain ⟨its,r,pl,hz⟩:=I.tuple hp;obtain ⟨jts,r',pl',hz'⟩:=I.tuple hq;have l1:=r.length;have l2:=r'.length;have rc:SeqAt.RcAt A s (.ref p) (.ref q) ((List.range (min xs.length ys.length)).all f && xs.length == ys.length):=by
   have:=SeqAt.RcAt.tuples (A:=A) (e:=f) pl pl' (by omega) fun j h1 h2=>by
    simp only [List.size_toArray] at h1 h2;have hj:j < xs.length:=by omega
    have hj':j < ys.length:=by omega
    obtain ⟨a,ha,ra⟩:=r.get (List.getElem?_eq_getElem hj);obtain ⟨c,hc,rc⟩:=r'.get (List.getElem?_eq_getElem hj');have ea:its.toArray[j]=a:=by
     have:=List.getElem?_eq_getElem h1;rw [ha] at this;simpa using (Option.some.inj this).symm
    have ec:jts.toArray[j]=c:=by
     have:=List.getElem?_eq_getElem h2;rw [hc] at this;simpa using (Option.some.inj this).symm
    rw [ea,ec];exact (ih j _ _ (List.getElem?_eq_getElem hj) (List.getElem?_eq_getElem hj') A.in1 a c (by rw [bn];omega) ra rc).1
   rwa [List.size_toArray,List.size_toArray,← l1,← l2] at this
  refine ⟨?_,fun _ _ _ _=>rc⟩;by_cases hne:p=q
  ·have hb:=(EqH.tup hp hq he).self I (congrArg V.ref hne);rw [hb,hne];exact SeqAt.EqAt.same _
  ·exact SeqAt.EqAt.of_refs hne rc
end
section
variable {X:Cx} {pins:List (Addr × Obj)} {σ:St} {H:Hp} {s:Shared}
end
section
variable {X:Cx}
end
theorem EqH.mono {K:PySem.W.Frag} {H:Hp} {j k:Nat} {x y:V} {b:Bool} (h:EqH K H j x y b):j ≤ k→EqH K H k x y b:=by
 induction h generalizing k with
 | flat hx hy=>exact fun _=>.flat hx hy
 | lst hp hq hl he ih=>
  intro hk;obtain ⟨m,rfl⟩:∃ m,k=m + 1:=⟨k - 1,by omega⟩;exact .lst hp hq hl fun j x y h1 h2=>ih j x y h1 h2 (by omega)
 | lstN hp hq hl=>
  intro hk;obtain ⟨m,rfl⟩:∃ m,k=m + 1:=⟨k - 1,by omega⟩;exact .lstN hp hq hl
 | tup hp hq he ih=>
  intro hk;obtain ⟨m,rfl⟩:∃ m,k=m + 1:=⟨k - 1,by omega⟩;exact .tup hp hq fun j x y h1 h2=>ih j x y h1 h2 (by omega)
end L2
namespace L2
open PySem PySem.Spec PyProof.Rows PySem.Builtin PySem.Builtin.ObjectAttr
noncomputable abbrev bmV:List Value:=[.type "ValueError",.type "Exception",.type "BaseException",.type "object"]
noncomputable def gK (K:PySem.W.Frag) (C fI:Addr):Bool:=
 match K.lookup C with
 | some ⟨.type "type",_,.cls cd,sl⟩=>
  match cd.mro,sl.toList with
  | .ref D :: tl,[_,_,_,_,some (.builtin n),_]=>
   (D == C) && (n == "ValueError.__new__") && (cd.hasDel == false) && (cd.hasDict == true) && PySem.W.tailIn K bmV tl && PySem.W.nsOkIn K cd.ns && (PySem.W.nsIn K cd.ns "__init__" == some (some (.ref fI)))
  | _,_=>false
 | _=>false
section
variable {P:Program} {w:World} {A:Around} {h:Heap} {g:Array GenState} {d:Drawn} {t:Nat} {os:OsState} {K:PySem.W.Frag} {C fI:Addr} {R:Result→Shared→Prop}
end
noncomputable def vL:List Value→Bool
 | .ref _ :: r=>vL r
 | l=>l == bmV
structure AQ (K:PySem.W.Frag) (C:Addr):Prop where
 hd:PySem.W.hasDictIn K C=true
 ov:((PySem.W.clsIn K C).any fun cd=>vL cd.mro)=true
 sa:PySem.W.findIn K (.ref C) "__setattr__"=some (some (.builtin "object.__setattr__"))
 ga:PySem.W.findIn K (.ref C) "__getattribute__"=some (some (.builtin "BaseException.__getattribute__"))
 gt:PySem.W.findIn K (.ref C) "__getattr__"=some none
 ex:∃ fI,gK K C fI=true
noncomputable def XF (x C:Addr) (od:Option Addr):Heap→Prop:=fun h=>∃ vs sl,h.get? x=some ⟨.ref C,od,.fields vs,sl⟩∧1 < vs.size∧vs[1]? = some .none
noncomputable def XD (dx:Addr) (fs:List (Str × V)):Heap→Prop:=fun h=>∃ mA,h.Ns1 dx mA∧(∀ f,qu (fs.lookup f) (mA f))∧PySem.Within mA (fs.map (·.1))
theorem XF.at {x C:Addr} {od:Option Addr} {h h':Heap} (z:XF x C od h) (k:∀ o,h.get? x=some o→h'.get? x=some o):XF x C od h':=let ⟨vs,sl,e,r⟩:=z;⟨vs,sl,k _ e,r⟩
theorem XD.at {dx:Addr} {fs:List (Str × V)} {h h':Heap} (z:XD dx fs h) (k:∀ o,h.get? dx=some o→h'.get? dx=some o):XD dx fs h':=let ⟨mA,e,r⟩:=z;⟨mA,e.at k,r⟩
theorem XF.ok {P:Program} {w:World} {H:Hp} {h:Heap} {x C:Addr} {od:Option Addr} (z:XF x C od h):Bd P w H h x (.ext (XF x C od)):=by
 obtain ⟨vs,sl,e,r⟩:=id z;exact ⟨z,⟨_,e⟩,fun h1 h2 q k=>q.at k⟩
theorem XD.ok {P:Program} {w:World} {H:Hp} {h:Heap} {dx:Addr} {fs:List (Str × V)} (z:XD dx fs h):Bd P w H h dx (.ext (XD dx fs)):=by
 obtain ⟨mA,⟨o,es,ep,e,_⟩,_⟩:=id z;exact ⟨z,⟨_,e⟩,fun h1 h2 q k=>q.at k⟩
section
variable {prog:Program} {w:World} {A:Around} {E:Value→Shared→Prop} {K:PySem.W.Frag} {C x:Addr} {s:Shared} {R:Result→Shared→Prop}
end
section
variable {X:Cx} {pins:List (Addr × Obj)} {σ:St} {H:Hp} {s:Shared} {x C dx:Addr} {fs:List (Str × V)} {f:Str} {y:V} {u:Value} {A:Around} {E:Value→Shared→Prop} {Q:Unit→Shared→Prop}
noncomputable def XA (x C:Addr) (od:Option Addr):Heap→Prop:=fun h=>∃ vs sl,h.get? x=some ⟨.ref C,od,.fields vs,sl⟩
theorem XA.at {x C:Addr} {od:Option Addr} {h h':Heap} (z:XA x C od h) (k:∀ o,h.get? x=some o→h'.get? x=some o):XA x C od h':=let ⟨vs,sl,e⟩:=z;⟨vs,sl,k _ e⟩
theorem XA.ok {P:Program} {w:World} {H:Hp} {h:Heap} {x C:Addr} {od:Option Addr} (z:XA x C od h):Bd P w H h x (.ext (XA x C od)):=by
 obtain ⟨vs,sl,e⟩:=id z;exact ⟨z,⟨_,e⟩,fun h1 h2 q k=>q.at k⟩
end
noncomputable abbrev TJ:=St→Hp→(Hp→Prop)→Prop
section
variable {X:Cx} {e:Expr} {es:List Expr} {n:Nat} {t:TJ} {te:TE} {pos:Pos}
end
structure JQ (K:PySem.W.Frag) (L:Addr) (m:Str):Prop where
 rd:PySem.W.readsIn K L (.type "type")=true
 fd:PySem.W.findCls K (.ref L) (.type "type") m=some (.val (.builtin "ValueError.__init__"))
 ga:PySem.W.specialIn K (.ref L) "__getattribute__"=some (some (.builtin "type.__getattribute__"))
section
variable {X:Cx} {L:Addr} {x:Str} {p pos apos:Pos} {e:Expr} {es:List Expr} {t:TA}
end
structure MkX (K:PySem.W.Frag) (C fI:Addr):Prop where
 e:gK K C fI=true
 fn:PySem.W.typeIn K (.ref fI)=some (.type "function")
 kp:PySem.W.keepIn K (.ref C)=true
section
variable {X:Cx} {k:Nat} {f C:Addr} {fd:FuncData} {ps:List Str} {sp:Sp} {x g:Str} {p pos pos' apos:Pos} {e o value:Expr} {es:List Expr} {ta tv:TE} {t:TA}
end
end L2
namespace L2
open PySem PySem.Spec PyProof.Rows PySem.Builtin PySem.Builtin.ObjectAttr
noncomputable def FlA (x C:Addr) (od:Option Addr) (T:Addr) (fl:Value) (h:Heap):Prop:=
 T ≠ x∧∃ vs sl oT ts,h.get? x=some ⟨.ref C,od,.fields vs,sl⟩∧vs[1]? = some (.ref T)∧h.get? T=some oT∧oT.data=.fields ts∧ts[3]? = some fl
structure Kp (fs:List Addr) (x:Addr) (To:Option Addr) (h h':Heap):Prop where
 keep:∀ b o,h.get? b=some o→b ∉ fs→b ≠ x→some b ≠ To→h'.get? b=some o
 slot:∀ b o,h.get? b=some o→b ∈ fs→∃ sl,h'.get? b=some { o with slots:=sl }
 there:∀ b o,h.get? b=some o→∃ o',h'.get? b=some o'
section
variable {M:Model} {A:Around} {E:Value→Shared→Prop} {s:Shared}
theorem nofr {base h:Heap} {l:List Env} {b:Addr} {o:Obj} {vs:Array Value} (hl:h.FunFrames base l) (e:h.get? b=some o) (d:o.data=.fields vs):b ∉ frs l:=fun hm=>by
 obtain ⟨_,o',e',nf⟩:=hl.mem hm;rw [e] at e';cases e';exact nf vs d
end
section
variable {P:Program} {w:World} {H:Hp} {h h':Heap} {fs:List Addr} {x C T:Addr} {od:Option Addr} {fl:Value} {To:Option Addr} {o:HO}
theorem Kp.hok (k:Kp fs x To h h') (ok:HOk P w H h) (hfs:∀ b ∈ fs,H b=none) (hT:∀ t,To=some t→H t=none) (mu:Mut (H x)) (new:XA x C od h'):HOk P w (upd H x (.ext (XA x C od))) h':=fun b u q=>by
 have nown:∀ c y,H c=some (.own y)→c ≠ x:=fun c y r z=>by subst z;rw [r] at mu;exact mu
 have ntup:∀ c xs,H c=some (.tup xs)→c ≠ x:=fun c xs r z=>by subst z;rw [r] at mu;exact mu
 have kk:∀ c v,c ≠ x→H c ≠ none→h.get? c=some v→h'.get? c=some v:=fun c v n1 n2 r=>k.keep c v r (fun z=>n2 (hfs c z)) n1 fun z=>n2 (hT c z.symm)
 by_cases hb:b=x
 ·subst hb;rw [ib] at q;cases q;exact new.ok
 ·rw [Eb hb] at q;refine (ok b u q).stay (fun c v hc r=>?_) (fun c r=>by rw [Eb (nown c b r)];exact r) fun c xs r=>by rw [Eb (ntup c xs r)];exact r
  rcases hc with rfl | hc
  ·exact kk c v hb (by rw [q];exact fun z=>by cases z) r
  ·exact kk c v (nown c b hc) (by rw [hc];exact fun z=>by cases z) r
theorem Kp.un (k:Kp fs x To h h') (hT:∀ t,To=some t→H t=none) (mu:Mut (H x)):Un fs To.toList H (upd H x o) h h':=by
 have hx:∀ b,H b=none→b ≠ x:=fun b n z=>by subst z;rw [n] at mu;exact mu
 have hm:∀ b u,H b=some u→¬ Mut (some u)→b ≠ x:=fun b u q nm z=>by subst z;rw [q] at mu;exact nm mu
 refine ⟨fun b u q n n1 n2=>k.keep b u q n1 (hx b n) fun z=>n2 (by rw [← z];simp),fun b u q n n1 n2=>k.slot b u q n1,fun b u q n _=>by rw [Eb (hx b n)];exact n,fun b u q _=>k.there b u q,
  fun b xs q=>by rw [Eb (hm b _ q fun z=>z)];exact q,fun b u xs q=>by rw [Eb (hm b _ q fun z=>z)];exact q,fun b ps q=>⟨#[],by rw [Eb (hm b _ q fun z=>z),q];simp⟩⟩
end
noncomputable def CX1 (P:Program) (w:World):CXT:=fun outer H s E e s'=>
 ∃ x C od H' T,e=.ref x∧s'.os=s.os∧AllBare s'.gens∧Un (frs outer) [] H H' s.heap s'.heap∧HOk P w H' s'.heap∧H' x=some (.ext (XA x C od))∧s.heap.objs.size ≤ T∧H' T=none∧FlA x C od T .none s'.heap∧E (.ref C) od H'
theorem Un.less {fs fs' ex ex':List Addr} {H H':Hp} {h h':Heap} (u:Un fs ex H H' h h') (hs:∀ b o,h.get? b=some o→b ∈ fs→b ∈ fs') (hx:∀ b o,h.get? b=some o→b ∈ ex→b ∈ ex'):Un fs' ex' H H' h h':=
 ⟨fun b o q n n1 n2=>u.keep b o q n (fun z=>n1 (hs b o q z)) fun z=>n2 (hx b o q z),fun b o q n _ n2=>u.any q n fun z=>n2 (hx b o q z),fun b o q n n2=>u.free b o q n fun z=>n2 (hx b o q z),fun b o q n2=>u.there b o q fun z=>n2 (hx b o q z),u.tups,u.frzs,u.tbls⟩
structure Fr1 (X:Cx):Prop where
 st:X.stack=X.env :: X.outer
 fr:X.env.frame=some X.env.locals
noncomputable def zQ (X:Cx) (pins:List (Addr × Obj)) (T:Addr):Prop:=(T ∈ X.ex∨X.s₀.heap.objs.size ≤ T)∧T ≠ X.env.locals∧(∀ x c,X.env.cells.lookup x=some c→c ≠ T)∧∀ p ∈ X.pn ++ pins,p.1 ≠ T
section
variable {X:Cx} {pins:List (Addr × Obj)} {σ:St} {H:Hp} {s:Shared} {T x C:Addr} {od:Option Addr} {E:St→XK} {M:Model} {A:Around} {E':Value→Shared→Prop} {Q:Unit→Shared→Prop} {e fl:Value} {h':Heap}
end
section
variable {P:Program} {w:World} {K:PySem.W.Frag} {mg:Str→Option Value} {base:Heap} {N:List Str} {qual:Str} {scope:Scope} {f:Addr} {cd:Value} {A:Around} {outer:List Env} {s:Shared} {H:Hp} {E:XK}
end
section
variable {X:Cx} {CX:CXT} {k:Nat} {f C:Addr} {fd:FuncData} {ps:List Str} {sp:Sp} {dvs:List V} {ds:List Value} {E:St→XK} {x m:Str} {p pos apos:Pos} {e o:Expr} {es:List Expr} {ta:TE} {t:TA}
end
noncomputable abbrev Cx.tr (X:Cx) (pn:List (Addr × Obj)) (E:Value→Shared→Prop):Cx:={ X with pn:=X.pn ++ pn,xe:=E }
noncomputable abbrev Cx.hn (X:Cx) (e:Value):Cx:={ X with A:=X.A.mark (some e),calm:=false,xe:=fun _ _=>False }
section
variable {X:Cx} {pins pins':List (Addr × Obj)} {σ:St} {H:Hp} {s:Shared} {E:Value→Shared→Prop} {e:Value}
theorem Cx.Ok.tr (ok:X.Ok) (pn:List (Addr × Obj)) (E:Value→Shared→Prop):(X.tr pn E).Ok:=
 ⟨ok.mod,ok.kind,ok.glob,ok.blt,ok.above,ok.inj,ok.has,ok.cab,ok.hd,ok.frames,ok.stk,ok.exf,ok.bs,ok.bsz,ok.noex,ok.exfs,ok.funs,ok.frf⟩
theorem Cx.Ok.hn (ok:X.Ok) (e:Value):(X.hn e).Ok:=
 ⟨ok.mod,ok.kind,ok.glob,ok.blt,ok.above,ok.inj,ok.has,ok.cab,(fun z=>Bool.noConfusion z),ok.frames,ok.stk,ok.exf,ok.bs,ok.bsz,ok.noex,ok.exfs,ok.funs,ok.frf⟩
theorem Inv.tr (I:Inv X pins σ H s) (E:Value→Shared→Prop):Inv (X.tr pins E) [] σ H s:=⟨I.ok.tr pins E,I.os,I.bare,I.base,I.loc,I.cell,I.free,I.freeC,fun p hp=>I.pin p (by simpa using hp),I.hok,I.len⟩
theorem Inv.hn (I:Inv X pins σ H s) (e:Value):Inv (X.hn e) pins σ H s:=⟨I.ok.hn e,I.os,I.bare,I.base,I.loc,I.cell,I.free,I.freeC,I.pin,I.hok,I.len⟩
end
noncomputable def Sj.gone (D:Sj) (i:Nat):Sj:={ nx:=fun σ H=>D.nx (σ.set i none) H,rt:=D.rt,bk:=fun σ H=>D.bk (σ.set i none) H,ct:=fun σ H=>D.ct (σ.set i none) H }
section
variable {X:Cx} {body suite:List Stmt} {b0:Stmt} {x n:Str} {c:Addr} {i:Nat} {tb:(St→XK)→TS} {th:TS} {xp hp pos:Pos}
end
theorem fG (D:Sj) (i:Nat) (σ:St) (H:Hp):(D.gone i).nx σ H=D.nx (σ.set i none) H:=rfl
theorem mD (D:Sj) (i:Nat) (v:V) (H:Hp):(D.gone i).rt v H=D.rt v H:=rfl
theorem OwnTail.has {h:Heap} {bm tl:List Value} {v:Value} (T:OwnTail h bm tl) (e:bm.contains v=true):tl.contains v=true:=by
 induction T with
 | base=>exact e
 | own _ _ _ _ ih=>rw [List.contains_cons,ih,Bool.or_true]
section
variable {X:Cx} {e:Expr} {te:TE} {pos:Pos} {E:St→XK}
theorem PS.nox {X:Cx} {st:Stmt} {t:TS} (h:PS X.nox st t):PS X st t:=fun pins s σ H D I hw=>
 wpAny_mono (h pins s σ H D (I.wish _) hw) (fun _ _ q=>q.unwish) fun _ _ z=>False.elim z
end
noncomputable def xeB (B:Cx) (E:XK) (e:Value) (s':Shared):Prop:=
 ∃ pins fl σ' H' x C od T,e=.ref x∧Inv B pins σ' H' s'∧H' x=some (.ext (XA x C od))∧H' T=none∧zQ B pins T∧B.s₀.heap.objs.size ≤ T∧FlA x C od T fl s'.heap∧E (.ref C) od H'
structure PP (X:Cx) (scope:Scope) (N:List Str) (tg elt:Expr) (ifs:List Expr) (g:TG) (tc:TT) (te:XK→TE):Prop where
 tgt:∀ E C s H fp,PG ((X.block scope C N s H fp).wish (xeB (X.block scope C N s H fp) E)) tg g
 tests:∀ E C s H fp,PTs ((X.block scope C N s H fp).wish (xeB (X.block scope C N s H fp) E)) ifs tc
 elem:∀ E C s H fp,PE ((X.block scope C N s H fp).wish (xeB (X.block scope C N s H fp) E)) elt (te E)
theorem PP.of {X:Cx} {scope:Scope} {N:List Str} {tg elt:Expr} {ifs:List Expr} {g:TG} {tc:TT} {te:XK→TE} (h1:∀ E C s H fp,PG ((X.block scope C N s H fp).wish (xeB (X.block scope C N s H fp) E)) tg g)
  (h2:∀ E C s H fp,∃ t,PTs ((X.block scope C N s H fp).wish (xeB (X.block scope C N s H fp) E)) ifs t∧t=tc) (h3:∀ E C s H fp,∃ t,PE ((X.block scope C N s H fp).wish (xeB (X.block scope C N s H fp) E)) elt t∧t=te E):PP X scope N tg elt ifs g tc te:=
 ⟨h1,fun E C s H fp=>by obtain ⟨t,h,rfl⟩:=h2 E C s H fp;exact h,fun E C s H fp=>by obtain ⟨t,h,e⟩:=h3 E C s H fp;rw [← e];exact h⟩
section
variable {X:Cx} {elt tg iter:Expr} {ifs:List Expr} {scope:Scope} {pos:Pos} {wi:TI} {g:TG} {tc:TT} {te:XK→TE} {N:List Str} {sel:List (Option Nat)}
theorem FlA.but {x C T c:Addr} {od:Option Addr} {fl:Value} {h h':Heap} (z:FlA x C od T fl h) (n1:x ≠ c) (n2:T ≠ c) (k:∀ b,b ≠ c→h'.get? b=h.get? b):FlA x C od T fl h':=by
 obtain ⟨ne,vs,sl,oT,ts,he,h1,hT,hd,h3⟩:=z;exact ⟨ne,vs,sl,oT,ts,(k _ n1).trans he,h1,(k _ n2).trans hT,hd,h3⟩
end
structure oQ (K:PySem.W.Frag) (C:Addr):Prop where
 cl:Cls K C
 ha:PySem.W.findIn K (.ref C) "__class__"=some (some (.builtin "object.__class__"))
 hn:PySem.W.specialIn K (.builtin "object.__class__") "__get__"=some (some (.builtin "getset_descriptor.__get__"))
 htk:PySem.W.takesIn K (.builtin "object.__class__")=some true
 hm:PySem.W.mroIn K C (.type "object")=some true
theorem oQ.ty {K:PySem.W.Frag} {H:Hp} {C a dx:Addr} {fs:List (Str × V)} (c:oQ K C) (e:H a=some (.ins C dx fs)):Hz K H (.ref a) (.ref C):=.ins e c.cl c.ha c.hn c.htk c.hm
end L2
namespace L2
open PySem PySem.Spec PyProof.Rows
section
variable {X:Cx} {tg:Expr}
end
section
variable {prog:Program} {w:World} {A:Around} {E:Value→Shared→Prop} {s:Shared} {it l:Addr} {items:Array Value}
end
section
variable {X:Cx}
end
section
variable {prog:Program} {w:World} {A:Around} {R:Result→Shared→Prop} {I:Addr} {fp wr:List Addr} {n:Nat} {P:Nat→Value→Prop} {St:Nat→Heap→Prop}
noncomputable def aO (P:Nat→Value→Prop) (bt:Nat→Nat→Bool) (j:Nat) (acc:Array Value):Prop:=(j=0∧acc=#[])∨∃ vb i,j=i + 1∧acc=#[vb,vb]∧P (argBest bt i) vb
end
section
variable {prog:Program} {w:World} {A:Around} {E:Value→Shared→Prop} {s:Shared}
end
section
variable {X:Cx}
end
end L2
namespace L2
open PySem PySem.Spec PyProof.Rows
structure MQ (K:PySem.W.Frag) (C:Addr):Prop where
 x:AQ K C
 ha:PySem.W.findIn K (.ref C) "__class__"=some (some (.builtin "object.__class__"))
 hn:PySem.W.specialIn K (.builtin "object.__class__") "__get__"=some (some (.builtin "getset_descriptor.__get__"))
 htk:PySem.W.takesIn K (.builtin "object.__class__")=some true
 hm:PySem.W.mroIn K C (.type "object")=some true
section
variable {prog:Program} {w:World} {A:Around} {E:Value→Shared→Prop} {s:Shared} {K:PySem.W.Frag} {x C:Addr} {od:Obj} {dx:Addr} {vs:Array Value} {sl:Array (Option Value)}
end
theorem Nr:∀ {cs:List Addr} {us:List Value},zd (cs.map V.ref) us→us=cs.map Value.ref
 | [],_,.nil=>rfl
 | c :: cs,_,.cons r t=>by
  rw [Nr t];cases (show _=Value.ref c from r);rfl
noncomputable def SO (K:PySem.W.Frag) (neg:Bool):R2:=fun x y H Q=>∃ p qs f,y=.ref p∧SqL K H p (List.map V.ref qs)∧(∀ q ∈ qs,EqH K H 8 (.ref q) x (f q))∧Q (.bl (if neg then !(qs.any f) else qs.any f)) H
noncomputable def eU (f:Addr→Bool):Value→Bool
 | .ref q=>f q
 | _=>false
theorem oJ (f:Addr→Bool) (qs:List Addr):(qs.map Value.ref).toArray.any (eU f)=qs.any f:=by
 rw [List.any_toArray,List.any_map];rfl
section
variable {X:Cx}
theorem Ew (hU:X.A.units + 64 < cLine):OpR X (compareOp .NotIn) (SO X.K true):=by
 intro pins s σ H x y v u Q I rx ry h;obtain ⟨p,qs,f,rfl,hp,he,q⟩:=h;cases ry;obtain ⟨its,r,pl,hz⟩:=I.list hp;have e1:=Nr r;subst e1;refine SeqAt.notIn_listAt (eU f) pl.isList (fun w hw=>?_) ⟨.bl _,H,I,rfl,?_⟩
 ·obtain ⟨q',hq',rfl⟩:=List.mem_map.mp (by simpa using hw:w ∈ qs.map Value.ref);exact (BB I (he q' hq') X.A.in1 (.ref q') v (by rw [bn];omega) rfl rx).1
 ·rw [oJ];exact q
theorem KD (hU:X.A.units + 64 < cLine):OpR X (compareOp .In) (SO X.K false):=by
 intro pins s σ H x y v u Q I rx ry h;obtain ⟨p,qs,f,rfl,hp,he,q⟩:=h;cases ry;obtain ⟨its,r,pl,hz⟩:=I.list hp;have e1:=Nr r;subst e1;refine SeqAt.in_listAt (eU f) pl.isList (fun w hw=>?_) ⟨.bl _,H,I,rfl,?_⟩
 ·obtain ⟨q',hq',rfl⟩:=List.mem_map.mp (by simpa using hw:w ∈ qs.map Value.ref);exact (BB I (he q' hq') X.A.in1 (.ref q') v (by rw [bn];omega) rfl rx).1
 ·rw [oJ];exact q
end
theorem Ub.quiet {P:Program} {w:World} {K:PySem.W.Frag} {mg:Str→Option Value} {base:Heap} {k:Nat} {f:Addr} {fd:FuncData} {ps:List Str} {sp sp':Sp} (F:Ub P w K mg base (CX1 P w) k f fd ps sp)
  (h:∀ vs H Q E,sp' vs H Q E→sp vs H Q (fun _ _ _=>False)):Ub P w K mg base CX0 k f fd ps sp':=by
 refine ⟨fun vs H Q E q=>F.len vs H _ _ (h vs H Q E q),fun A outer s H args us vs Q E hr he hb hv hs=>?_⟩;refine codeAny_mono (F.run A outer s H args us vs Q _ hr he hb hv (h vs H Q E hs)) fun r s' hq=>?_
 cases r with
 | error e=>
  obtain ⟨x,C,od,H',T,_,_,_,_,_,_,_,_,_,z⟩:=hq;exact z.elim
 | ok fl=>cases fl <;> exact hq
end L2
namespace L2
open PySem PySem.Spec PyProof.Rows
structure uo (k:Nat) (A:Around):Prop where
 dp:A.depth + 3 * k + 5 < recursionLimit
 un:A.units + 16 * k + 200 < cLine
theorem pk.h {k:Nat} {A:Around} (r:pk k A):uo k A:=⟨r.dp,r.un⟩
theorem uo.mono {j k:Nat} {A:Around} (r:uo k A) (h:j ≤ k):uo j A:=⟨by have:=r.dp;omega,by have:=r.un;omega⟩
theorem uo.deeper {k:Nat} {A:Around} (r:uo (k + 1) A) (env:Env):uo k (A.deeper env):=
 ⟨by have:=r.dp;show A.depth + 1 + 3 * k + 5 < _;omega,by have:=r.un;show A.units + 3 + 16 * k + 200 < _;omega⟩
theorem uo.depth {k:Nat} {A:Around} (r:uo k A):A.depth < recursionLimit:=by have:=r.dp;omega
theorem uo.units {k:Nat} {A:Around} (r:uo k A):A.units + 64 < cLine:=by have:=r.un;omega
theorem pk.hn {k:Nat} {X:Cx} {e:Value} (r:pk k X.A):uo k (X.hn e).A:=⟨r.dp,r.un⟩
structure iL (P:Program) (w:World) (K:PySem.W.Frag) (mg:Str→Option Value) (base:Heap) (CX:CXT) (k:Nat) (f:Addr) (fd:FuncData) (ps:List Str) (sp:Sp):Prop where
 len:∀ vs H Q E,sp vs H Q E→vs.length=ps.length
 run:∀ (A:Around) (outer:List Env) (s:Shared) (H:Hp) (args:Args) (us:List Value) (vs:List V) (Q:VK) (E:XK),uo k A→KG P w K mg base A outer s H→BindsTo s fd args (ps.zip us)→zd vs us→sp vs H Q E →
  codeAny (model P w) A (.call (.ref f) args) (CR CX outer P w H s Q E) s
theorem iL.mono {P:Program} {w:World} {K:PySem.W.Frag} {mg:Str→Option Value} {base:Heap} {CX:CXT} {j k:Nat} {f:Addr} {fd:FuncData} {ps:List Str} {sp:Sp} (F:iL P w K mg base CX j f fd ps sp) (h:j ≤ k) :
  iL P w K mg base CX k f fd ps sp:=⟨F.len,fun A outer s H args us vs Q E hr=>F.run A outer s H args us vs Q E (hr.mono h)⟩
section
variable {X:Cx} {CX:CXT} {k:Nat} {f C:Addr} {fd:FuncData} {ps:List Str} {sp:Sp} {dvs:List V} {ds:List Value} {E:XK} {x m:Str} {p pos apos:Pos} {e o:Expr} {es:List Expr} {ta:TE} {t:TA}
end
noncomputable def rP (CX:CXT) (P:Program) (w:World) (K:PySem.W.Frag) (mg:Str→Option Value) (base:Heap) (N:List Str) (qual:Str) (scope:Scope) (f:Addr) (cd:Value) (A:Around) (outer:List Env) (s:Shared) (H:Hp) (E:XK):Cx where
 prog:=P
 w:=w
 K:=K
 mg:=mg
 base:=base
 A:=A.deeper (envOfC qual scope s.heap.objs.size f cd)
 N:=N
 s₀:=s
 H₀:=H
 env:=envOfC qual scope s.heap.objs.size f cd
 outer:=outer
 stack:=envOfC qual scope s.heap.objs.size f cd :: outer
 ex:=[]
 calm:=false
 fn:=fun _=>true
 pn:=[]
 xe:=fun e s'=>wpAny (model P w) (A.deeper (envOfC qual scope s.heap.objs.size f cd)) (leaving (envOfC qual scope s.heap.objs.size f cd) e) (fun _ s''=>CX outer H s E e s'') (fun e' s''=>CX outer H s E e' s'') s'
section
variable {P:Program} {w:World} {K:PySem.W.Frag} {mg:Str→Option Value} {base:Heap}
end
end L2
namespace L2
open PySem PySem.Spec PyProof.Rows
section
variable {X:Cx}
end
end L2
namespace L2
open PySem PySem.Spec PyProof.Rows
section
variable {α:Type} {M:List α→Prop}
theorem us1 (h:∀ a,M [a]):∀ us:List α,us.length=1→M us | [a],_=>h a
theorem us2 (h:∀ a b,M [a,b]):∀ us:List α,us.length=2→M us | [a,b],_=>h a b
theorem us3 (h:∀ a b c,M [a,b,c]):∀ us:List α,us.length=3→M us | [a,b,c],_=>h a b c
theorem us4 (h:∀ a b c d,M [a,b,c,d]):∀ us:List α,us.length=4→M us | [a,b,c,d],_=>h a b c d
theorem us5 (h:∀ a b c d e,M [a,b,c,d,e]):∀ us:List α,us.length=5→M us | [a,b,c,d,e],_=>h a b c d e
theorem us7 (h:∀ a b c d e f g,M [a,b,c,d,e,f,g]):∀ us:List α,us.length=7→M us | [a,b,c,d,e,f,g],_=>h a b c d e f g
theorem us8 (h:∀ a b c d e f g i,M [a,b,c,d,e,f,g,i]):∀ us:List α,us.length=8→M us | [a,b,c,d,e,f,g,i],_=>h a b c d e f g i
end
structure XB (K:PySem.W.Frag) (C:Addr):Prop where
 hd:PySem.W.hasDictIn K C=true
 ov:((PySem.W.clsIn K C).any fun cd=>vL cd.mro)=true
 sa:PySem.W.findIn K (.ref C) "__setattr__"=some (some (.builtin "object.__setattr__"))
 ga:PySem.W.findIn K (.ref C) "__getattribute__"=some (some (.builtin "BaseException.__getattribute__"))
 gt:PySem.W.findIn K (.ref C) "__getattr__"=some none
structure IB (K:PySem.W.Frag) (C:Addr):Prop where
 ha:PySem.W.findIn K (.ref C) "__class__"=some (some (.builtin "object.__class__"))
 hn:PySem.W.specialIn K (.builtin "object.__class__") "__get__"=some (some (.builtin "getset_descriptor.__get__"))
 htk:PySem.W.takesIn K (.builtin "object.__class__")=some true
 hm:PySem.W.mroIn K C (.type "object")=some true
end L2
namespace L2
open PySem PySem.Spec PyProof.Rows
theorem xC {ks:List Int}:∀ {its:List Value},zd (ks.map V.int) its→∃ xs:List (Int × Tok),its=xs.map (fun p=>Value.int p.1 p.2)∧xs.map (·.1)=ks:=by
 induction ks with
 | nil=>intro its r;cases r;exact ⟨[],rfl,rfl⟩
 | cons k ks ih=>
  intro its r;cases r with
  | cons h t=>
   obtain ⟨xs,e1,e2⟩:=ih t;obtain ⟨tk,rfl⟩:=(show ∃ t,_=Value.int k t from h);exact ⟨(k,tk) :: xs,by rw [List.map_cons,← e1],by rw [List.map_cons,e2]⟩
section
variable {X:Cx}
end
end L2
namespace L2
open PySem PySem.Spec PyProof.Rows
noncomputable def bO (p d:Addr):Heap→Prop:=fun h=>PySem.W.KdlKeysView h p d
noncomputable def UO (p d:Addr):Heap→Prop:=fun h=>h.IsValuesView p d
theorem bO.ok {P:Program} {w:World} {H:Hp} {h:Heap} {p d:Addr} (z:bO p d h):Bd P w H h p (.ext (bO p d)):=
 ⟨z,let ⟨o,ho,_⟩:=z;⟨o,ho⟩,fun _ _ z1 k=>let ⟨o,ho,x⟩:=z1;⟨o,k o ho,x⟩⟩
theorem UO.ok {P:Program} {w:World} {H:Hp} {h:Heap} {p d:Addr} (z:UO p d h):Bd P w H h p (.ext (UO p d)):=
 ⟨z,let ⟨o,ho,_⟩:=z;⟨o,ho⟩,fun _ _ z1 k=>let ⟨o,ho,x⟩:=z1;⟨o,k o ho,x⟩⟩
section
variable {X:Cx}
noncomputable def Ex:V→List V→Hp→VK→Prop:=fun x vs H Q=>∃ d kvs,x=.ref d∧vs=[]∧H d=some (.dK kvs)∧∀ p,H p=none→Q (.ref p) (upd H p (.ext (bO p d)))
end
end L2
namespace L2
open PySem PySem.Spec PyProof.Rows
noncomputable abbrev TF:=St→Hp→Str→(Str→Hp→Prop)→Prop
section
variable {X:Cx} {e:Expr} {es:List Expr} {t:TF} {te:TE} {pos:Pos}
end
end L2
namespace L2
open PySem PySem.Spec PyProof.Rows
noncomputable def ZO (p:Addr) (a b c:Int):Heap→Prop:=fun h=>∃ t u v,IsRange h p a b c t u v
theorem ZO.ok {P:Program} {w:World} {H:Hp} {h:Heap} {p:Addr} {a b c:Int} (z:ZO p a b c h):Bd P w H h p (.ext (ZO p a b c)):=
 ⟨z,let ⟨_,_,_,e⟩:=z;⟨_,e⟩,fun _ _ z1 k=>let ⟨t,u,v,e⟩:=z1;⟨t,u,v,k _ e⟩⟩
section
variable {X:Cx}
end
end L2
namespace L2
open PySem PySem.Spec PyProof.Rows
noncomputable def yQ (c:Addr) (qual:Str):Heap→Prop:=fun h=>h.CodeRec (.ref c) qual
noncomputable def Tab (H:Hp) (Pt:Addr) (pos:Pos) (qual:Str):Prop:=
 ∃ ps,H Pt=some (.tbl ps)∧(ps=#[]∨∃ c',ps=#[rawInt pos.line,rawInt pos.col,.ref c']∧H c'=some (.ext (yQ c' qual)))
noncomputable def Nw (Pt:Addr) (H H':Hp):Prop:=∀ b o,b ≠ Pt→H b=some o→H' b=some o
theorem Nw.refl (Pt:Addr) (H:Hp):Nw Pt H H:=fun _ _ _ h=>h
theorem Nw.trans {Pt:Addr} {H H1 H2:Hp} (a:Nw Pt H H1) (b:Nw Pt H1 H2):Nw Pt H H2:=fun c o n h=>b c o n (a c o n h)
theorem Sb.p {Pt:Addr} {H H':Hp} (s:Sb H H'):Nw Pt H H':=fun b o _ h=>s b o h
theorem Tab.ne {H:Hp} {Pt b:Addr} {pos:Pos} {qual:Str} {o:HO} (t:Tab H Pt pos qual) (h:H b=some o) (ho:∀ ps,o ≠ .tbl ps):b ≠ Pt:=fun e=>by
 obtain ⟨ps,e1,_⟩:=t;subst e;rw [e1] at h;exact ho ps (Option.some.inj h).symm
theorem Tab.step {H H':Hp} {Pt:Addr} {pos:Pos} {qual:Str} (t:Tab H Pt pos qual) (s:Sb H H'):Tab H' Pt pos qual:=by
 obtain ⟨ps,e,d⟩:=t;refine ⟨ps,s _ _ e,?_⟩;rcases d with d | ⟨c',d,e'⟩
 ·exact .inl d
 ·exact .inr ⟨c',d,s _ _ e'⟩
structure LQ (X:Cx) (c Pt:Addr):Prop where
 code:X.env.code=.ref c
 hd:PySem.W.CodeHd X.base c Pt
 bm:X.base.BuiltinsAt X.mg Pt
section
variable {X:Cx} {pins:List (Addr × Obj)} {σ:St} {H:Hp} {s:Shared} {params:Arguments} {body:Expr} {scope:Scope} {pos:Pos} {c Pt:Addr} {clos:List (Str × Addr)} {Q:Value→Shared→Prop}
end
section
variable {P:Program} {w:World} {K:PySem.W.Frag} {mg:Str→Option Value} {base:Heap}
end
structure KQ (p y:Str) (sc:Scope):Prop where
 kind:sc.kind=.function
 co:sc.isCoroutine=false
 gen:sc.isGenerator=false
 ne:p ≠ y
 par:sc.names.lookup p=some .local
 yf:sc.names.lookup y=some .free
 nocell:∀ z ∈ sc.names,z.2 ≠ .cell
 one:∀ z ∈ sc.names,z.2=.free→z.1=y
section
variable {X:Cx} {pins:List (Addr × Obj)} {σ:St} {H:Hp} {s:Shared} {k:Nat} {f c' cl:Addr} {q p y:Str} {params:Arguments} {body:Expr} {scope:Scope} {v:V} {t:TE}
end
end L2
namespace L2
open PySem PySem.Spec PyProof.Rows
end L2
namespace L2
open PySem PySem.Spec PyProof.Rows
section
variable {P:Program} {w:World} {A:Around} {E:Value→Shared→Prop} {s:Shared}
structure JJ (h:Heap) (d:Addr) (o:Obj) (es:Array DictEntry) (ep:Nat):Prop where
 at_:h.get? d=some o
 ex:o.ExactDict
 dat:o.data=.dict es ep
theorem IE {d:Addr} {o:Obj} {es:Array DictEntry} {ep:Nat} (r:JJ s.heap d o es ep):s.TypeIs (.ref d) "dict" := ⟨o,r.at_,r.ex.1⟩
theorem LD {d:Addr} {o:Obj} {es:Array DictEntry} {ep:Nat} {Q:Value→Shared→Prop} (hd:(d == sysModules)=false) (r:JJ s.heap d o es ep)
  (hQ:Q (.ref s.heap.objs.size) { s with heap:=s.heap.push { cls:=.type "dict_keyiterator",data:=.fields #[.ref d,.int 0 0,.int es.size 0,.int ep 0] } }) :
  wpAny (model P w) A (pyIter (.ref d)) Q E s:=by
 have hT:=IE r;refine wpAny_pyIter_slot hT F.slot_dict_iter (wpAny_call_entry F.slot_dict_iter hT F.entry_dict_iter ?_ (F.args_dict_iter_1 _));unfold Builtin.«dict.__iter__» Builtin.Dict.dictSlotNone;refine wpAny_bind (wpAny_bind (wpAny_notOrdered_dict hT (wpAny_pure ?_)));show wpAny _ _ (Builtin.Dict.showsAll d >>= _) _ _ s;unfold Builtin.Dict.showsAll;rw [if_neg (by rw [hd];exact Bool.false_ne_true)];refine wpAny_bind (wpAny_pure (wpAny_bind (wpAny_dictEntries r.at_ r.dat (wpAny_bind (wpAny_dictEpoch r.at_ r.dat ?_)))));refine wpAny_bind (wpAny_newObj_type (wpAny_pure ⟨_,rfl,"dict_keyiterator",_,⟨_,Heap.get?_push_size _ rfl,rfl⟩,F.slot_dict_keyiterator_next.lookup,?_⟩));simpa [rawInt] using hQ
theorem uF {it d:Addr} {o:Obj} {i ep:Nat} {es:Array DictEntry} {e:DictEntry} {Q:Option Value→Shared→Prop} (hit:s.heap.IsKeyIter it d i es.size ep) (r:JJ s.heap d o es ep) (hx:es[i]? = some e)
  (hQ:∀ h',h'.IsKeyIter it d (i + 1) es.size ep→Heap.SameBut it s.heap h'→Q (some e.key) { s with heap:=h' }):wpAny (model P w) A (pyNext (.ref it)) Q E s:=by
 obtain ⟨oi,ho,hc,hd⟩:=id hit;have hown:Builtin.Dict_items.ownsTuple "dict_keyiterator"=false:=by decide
 have hlt:i < es.size:=by
  rcases Nat.lt_or_ge i es.size with h | h
  ·exact h
  ·rw [Array.getElem?_eq_none h] at hx;cases hx
 unfold pyNext;refine wpAny_bind (wpAny_attempt (wpAny_callSpecial?_slot (name:=Str.ofString "__next__") hit.typeIs F.slot_dict_keyiterator_next
  (wpAny_call_entry F.slot_dict_keyiterator_next hit.typeIs F.entry_dict_keyiterator_next ?_ (F.args_dict_keyiterator_next_1 _))))
 refine wpAny_bind (wpAny_pure (wpAny_bind (wpAny_bind ?_)))
 first | refine wpAny_bind (wpAny_typeNameOfWhole_keyiter hit.typeIs (wpAny_pure ?_)) | refine wpAny_bind (wpAny_typeNameOf_keyiter hit.typeIs (wpAny_pure ?_))
 refine wpAny_bind (wpAny_fieldsOf ho hd ?_);simp only [hown,Bool.false_eq_true,if_false];show wpAny _ _ (if (Value.ref d == Value.none)=true then _ else _) _ _ s;rw [if_neg (show ¬ ((Value.ref d == Value.none)=true) from Bool.false_ne_true)];refine wpAny_bind (wpAny_pure (wpAny_bind (wpAny_dictEntries r.at_ r.dat ?_)));rw [if_neg (by simp)];refine wpAny_bind (wpAny_pure (wpAny_bind (wpAny_dictEpoch r.at_ r.dat ?_)));rw [if_neg (by simp)];refine wpAny_pure ?_;simp only [show ¬ ((i:Int) < 0) from by omega,if_false,Int.toNat_natCast,hx];refine wpAny_bind ?_
 first | refine wpAny_bind (wpAny_typeNameOfWhole_keyiter hit.typeIs (wpAny_pure ?_)) | refine wpAny_bind (wpAny_typeNameOf_keyiter hit.typeIs (wpAny_pure ?_))
 refine wpAny_bind (wpAny_isOneOf_keyiter hit.typeIs ?_);show wpAny _ _ (setField (.ref it) 1 (rawInt ((i:Int) + 1)) >>= _) _ _ s;refine wpAny_bind (wpAny_setField ho hd (by simp) ?_);have hit':(s.heap.update it (Obj.mapFields (·.setIfInBounds 1 (rawInt ((i:Int) + 1))))).IsKeyIter it d (i + 1) es.size ep:=
  ⟨_,Heap.get?_update_self _ ho (Obj.isFreed_of_fields (Obj.data_mapFields hd _)),(Obj.cls_mapFields ..).trans hc,by rw [Obj.data_mapFields hd];simp [rawInt]⟩
 refine wpAny_bind (wpAny_holding (wpAny_bind (wpAny_isOneOf_keyiter (s:={ s with heap:=s.heap.update it (Obj.mapFields (·.setIfInBounds 1 (rawInt ((i:Int) + 1)))) }) hit'.typeIs ?_)));show wpAny _ _ (pure e.key) _ _ _;exact wpAny_pure (wpAny_pure ⟨_,rfl,wpAny_pure (hQ _ hit' (Heap.SameBut.update ..))⟩)
theorem jI {it d:Addr} {o:Obj} {i ep:Nat} {es:Array DictEntry} {Q:Option Value→Shared→Prop} (hh:A.handled=none) (hit:s.heap.IsKeyIter it d i es.size ep) (r:JJ s.heap d o es ep) (hx:es.size ≤ i)
  (hQ:∀ h',Heap.ExtBut it s.heap h'→Q none { s with heap:=h' }):wpAny (model P w) A (pyNext (.ref it)) Q E s:=by
 obtain ⟨oi,ho,hc,hd⟩:=id hit;have hown:Builtin.Dict_items.ownsTuple "dict_keyiterator"=false:=by decide
 unfold pyNext;refine wpAny_bind (wpAny_attempt (wpAny_callSpecial?_slot (name:=Str.ofString "__next__") hit.typeIs F.slot_dict_keyiterator_next
  (wpAny_call_entry F.slot_dict_keyiterator_next hit.typeIs F.entry_dict_keyiterator_next ?_ (F.args_dict_keyiterator_next_1 _))))
 refine wpAny_bind (wpAny_pure (wpAny_bind (wpAny_bind ?_)))
 first | refine wpAny_bind (wpAny_typeNameOfWhole_keyiter hit.typeIs (wpAny_pure ?_)) | refine wpAny_bind (wpAny_typeNameOf_keyiter hit.typeIs (wpAny_pure ?_))
 refine wpAny_bind (wpAny_fieldsOf ho hd ?_);simp only [hown,Bool.false_eq_true,if_false];show wpAny _ _ (if (Value.ref d == Value.none)=true then _ else _) _ _ s;rw [if_neg (show ¬ ((Value.ref d == Value.none)=true) from Bool.false_ne_true)];refine wpAny_bind (wpAny_pure (wpAny_bind (wpAny_dictEntries r.at_ r.dat ?_)));rw [if_neg (by simp)];refine wpAny_bind (wpAny_pure (wpAny_bind (wpAny_dictEpoch r.at_ r.dat ?_)));rw [if_neg (by simp)];refine wpAny_pure ?_;simp only [show ¬ ((i:Int) < 0) from by omega,if_false,Int.toNat_natCast,Array.getElem?_eq_none hx];refine wpAny_bind ?_
 first | refine wpAny_bind (wpAny_typeNameOfWhole_keyiter hit.typeIs (wpAny_pure ?_)) | refine wpAny_bind (wpAny_typeNameOf_keyiter hit.typeIs (wpAny_pure ?_))
 show wpAny _ _ (setField (.ref it) 0 .none >>= _) _ _ s;refine wpAny_bind (wpAny_setField ho hd (by simp) ?_);show wpAny _ _ (newExc (.type "StopIteration") [] >>= _) _ _ _;refine wpAny_bind ?_;simp only [newExc,newTuple];refine wpAny_bind (wpAny_newObj_type ?_ (by size_fits));refine wpAny_bind (m:=firstArgMember _ _) (wpAny_of_eq (a:=Value.none) (by first | rfl | (simp only [firstArgMember];rfl)) ?_);refine wpAny_newObj_type ?_ (by size_fits);simp only [raiseNew];refine wpAny_bind (wpAny_handled ?_);rw [show A.in1.handled=none from hh];refine wpAny_bind (wpAny_pure (wpAny_throw ?_));refine wpAny_bind (wpAny_isInstance (T := "StopIteration") (b:=true) ⟨_,Heap.get?_push_size _ rfl,rfl⟩ isSubtype_stop ?_);exact wpAny_pure (hQ _ (((Heap.SameBut.update ..).extBut.push _).push _))
end
noncomputable def AtO (a:Addr) (o:Obj):Heap→Prop:=fun h=>h.get? a=some o
theorem zE {α β:Type} {F:α→β→Prop} {l₁:List α} {l₂:List β} (r:Paired F l₁ l₂):∀ {i:Nat} {a:α},l₁[i]? = some a→∃ b,l₂[i]? = some b∧F a b:=by
 induction r with
 | nil=>intro i a e;cases e
 | cons h _ ih=>
  intro i a e;cases i with
  | zero=>cases e;exact ⟨_,rfl,h⟩
  | succ j=>exact ih (by simpa using e)
theorem Yp {α β:Type} {F:α→β→Prop} {l₁:List α} {l₂:List β} (r:Paired F l₁ l₂):l₁.length=l₂.length:=by
 induction r with
 | nil=>rfl
 | cons _ _ ih=>simp [ih]
structure zO (P:Program) (w:World) (H:Hp) (a:Addr) (kvs:List (List Key × V)) (o:Obj) (es:Array DictEntry) (ep:Nat) (xs:List (List Key × Addr × Value)):Prop where
 at_:H a=some (.ext (AtO a o))
 ex:o.ExactDict
 dat:o.data=.dict es ep
 ent:es.toList=xs.map (entryOfKey (tupleKind (De P w)))
 nd:(xs.map (·.1)).Nodup
 ks:Paired (fun (p:List Key × V) (q:List Key × Addr × Value)=>p.1=q.1∧H q.2.1=some (.tup (p.1.map kV))∧yd p.2 q.2.2) kvs xs
 sz:kvs.length ≤ sizeLine
 ns:(a == sysModules)=false
noncomputable def Ol (P:Program) (w:World) (H:Hp) (a:Addr) (kvs:List (List Key × V)):Prop:=∃ o es ep xs,zO P w H a kvs o es ep xs
section
variable {P:Program} {w:World} {H H':Hp} {h:Heap} {a:Addr} {kvs:List (List Key × V)}
theorem Yb (d:Ol P w H a kvs) (s:Sb H H'):Ol P w H' a kvs:=by
 obtain ⟨o,es,ep,xs,r⟩:=d;exact ⟨o,es,ep,xs,s _ _ r.at_,r.ex,r.dat,r.ent,r.nd,Paired.mapP r.ks fun p q z=>⟨z.1,s _ _ z.2.1,z.2.2⟩,r.sz,r.ns⟩
theorem nI {p:Addr} {u:HO} (d:Ol P w H a kvs) (hp:p ≠ a) (ht:∀ xs,H p ≠ some (.tup xs)):Ol P w (upd H p u) a kvs:=by
 obtain ⟨o,es,ep,xs,r⟩:=d;exact ⟨o,es,ep,xs,by rw [Eb (Ne.symm hp)];exact r.at_,r.ex,r.dat,r.ent,r.nd,Paired.mapP r.ks fun q q' z=>⟨z.1,by rw [Eb (fun e=>ht _ (e ▸ z.2.1))];exact z.2.1,z.2.2⟩,r.sz,r.ns⟩
theorem cq {o:Obj} {es:Array DictEntry} {ep:Nat} {xs:List (List Key × Addr × Value)} (ok:HOk P w H h) (r:zO P w H a kvs o es ep xs):JJ h a o es ep:=
 ⟨(ok a _ r.at_).1,r.ex,r.dat⟩
theorem pG (ok:HOk P w H h) (d:Ol P w H a kvs):Mut (H a)∧(∃ u,h.get? a=some u)∧Bd P w (upd H a (.dT kvs)) h a (.dT kvs):=by
 obtain ⟨o,es,ep,xs,r⟩:=d;have e:=(cq ok r).at_;refine ⟨by rw [r.at_];exact True.intro,⟨o,e⟩,r.sz,r.ns,xs,Paired.mapP r.ks fun q q' z=>⟨z.1,?_,z.2.2⟩,o,es,ep,e,r.ex,r.dat,r.ent,r.nd⟩;rw [Eb (fun e=>by have:=z.2.1;rw [e,r.at_] at this;cases this)];exact z.2.1
theorem Gq (ok:HOk P w H h) (d:Ol P w H a kvs):HOk P w (upd H a (.dT kvs)) h:=
 have z:=pG ok d
 ok.write z.1 (.inl rfl) (fun _ _ _ q=>q) z.2.1 z.2.2
theorem HL {b:Addr} {xs:List V} (d:Ol P w H a kvs) (e:H b=some (.tup xs)):b ≠ a:=fun z=>by
 obtain ⟨o,es,ep,ys,r⟩:=d;have:=r.at_;rw [← z,e] at this;cases this
end
section
variable {X:Cx} {pins:List (Addr × Obj)} {σ:St} {H:Hp} {s:Shared} {a b:Addr} {kvs:List (List Key × V)} {k:List Key} {v:V} {r:Value} {A:Around} {E:Value→Shared→Prop}
theorem pB {o':HO} (I:Inv X pins σ H s) (mu:Mut (H a)) (ex:∃ u,s.heap.get? a=some u) (new:Bd X.prog X.w (upd H a o') s.heap a o'):Inv X pins σ (upd H a o') s:=
 I.un (t':=s.toks) (h':=s.heap) (Un.write mu (.inl rfl) (fun _ _ _ q=>q) ex) (I.hok.write mu (.inl rfl) (fun _ _ _ q=>q) ex new)
theorem CH (I:Inv X pins σ H s) (d:Ol X.prog X.w H a kvs):Inv X pins σ (upd H a (.dT kvs)) s:=
 have z:=pG I.hok d
 pB I z.1 z.2.1 z.2.2
theorem Uz (I:Inv X pins σ H s) (e:H a=some (.dT kvs)):∃ o,Inv X pins σ (upd H a (.ext (AtO a o))) s∧Ol X.prog X.w (upd H a (.ext (AtO a o))) a kvs:=by
 obtain ⟨z,y,xs,r,o,es,ep,h1,h2,h3,h4,h5⟩:=(show Bd X.prog X.w H s.heap a (.dT kvs) from I.hok a _ e);refine ⟨o,pB I (by rw [e];exact True.intro) ⟨o,h1⟩ ⟨h1,⟨o,h1⟩,fun _ _ q k=>k o q⟩,o,es,ep,xs,ib ..,h2,h3,h4,h5,Paired.mapP r fun p q z=>⟨z.1,?_,z.2.2⟩,z,y⟩;rw [Eb (fun q=>by have:=z.2.1;rw [q,e] at this;cases this)];exact z.2.1
theorem kO {Q:Value→Shared→Prop} (hu:A.units + 1 < cLine) (I:Inv X pins σ H s) (d:Ol X.prog X.w H a kvs) (eb:H b=some (.tup (k.map kV))) (l:jk kvs k=some v) (h:∀ w' s',Inv X pins σ H s'→yd v w'→Q w' s') :
  wpAny (model X.prog X.w) A (getItem (.ref a) (.ref b)) Q E s:=by
 obtain ⟨z,hd,xs,rel,dd⟩:=EI (Gq I.hok d) (ib ..);obtain ⟨w',hw,rw'⟩:=qu.some_of (v:=v) (o:=(atKey xs k).map (·.2)) (by rw [← l];exact rel.val k);obtain ⟨p,hp,hp2⟩:=Option.map_eq_some_iff.mp hw;refine wpAny_getItem_heap (tupleKind_room_in1 hu) (yp I.hok eb) dd hp ?_;rw [hp2];exact h w' _ (I.tok _) rw'
theorem aP {Q:Value→Shared→Prop} (hu:A.units + 1 < cLine) (I:Inv X pins σ H s) (d:Ol X.prog X.w H a kvs) (eb:H b=some (.tup (k.map kV))) (h:∀ s',Inv X pins σ H s'→Q (.bool (jk kvs k).isSome) s') :
  wpAny (model X.prog X.w) A (compareOp .In (.ref b) (.ref a)) Q E s:=by
 obtain ⟨z,hd,xs,rel,dd⟩:=EI (Gq I.hok d) (ib ..);refine wpAny_in_heap (tupleKind_room_in1 hu) (yp I.hok eb) hd dd ?_;have q:=(rel.val k).isSome_eq;rw [Option.isSome_map] at q;rw [← q];exact h _ (I.tok _)
theorem KI {Q:Value→Shared→Prop} (hu:A.units + 1 < cLine) (I:Inv X pins σ H s) (d:Ol X.prog X.w H a kvs) (eb:H b=some (.tup (k.map kV))) (h:∀ s',Inv X pins σ H s'→Q (.bool (!(jk kvs k).isSome)) s') :
  wpAny (model X.prog X.w) A (compareOp .NotIn (.ref b) (.ref a)) Q E s:=by
 obtain ⟨z,hd,xs,rel,dd⟩:=EI (Gq I.hok d) (ib ..);refine wpAny_notIn_heap (tupleKind_room_in1 hu) (yp I.hok eb) hd dd ?_;have q:=(rel.val k).isSome_eq;rw [Option.isSome_map] at q;rw [← q];exact h _ (I.tok _)
theorem VN {Q:Unit→Shared→Prop} (hu:A.units + 1 < cLine) (I:Inv X pins σ H s) (d:Ol X.prog X.w H a kvs) (eb:H b=some (.tup (k.map kV))) (hl:kvs.length < sizeLine) (rv:yd v r)
  (h:∀ o s',Inv X pins σ (upd H a (.ext (AtO a o))) s'→Ol X.prog X.w (upd H a (.ext (AtO a o))) a (Uq kvs k v)→Q () s'):wpAny (model X.prog X.w) A (setItem (.ref a) (.ref b) r) Q E s:=by
 refine aw hu (CH I d) (jH.t (ib ..) (by rw [Eb (HL d eb)];exact eb) hl) (show yd (.ref b) (.ref b) from rfl) rv fun s' I'=>?_
 rw [Gm] at I';obtain ⟨o,I2,d2⟩:=Uz I' (ib ..);rw [Gm] at I2 d2;exact h o s' I2 d2
end
noncomputable def vM (P:Program) (w:World) (td ty:TE):TE:=fun σ H Q=>td σ H fun x H1=>ty σ H1 fun y H2=>∃ a b kvs k v,x=.ref a∧y=.ref b∧Ol P w H2 a kvs∧H2 b=some (.tup (k.map kV))∧jk kvs k=some v∧Q v H2
noncomputable def rQ (P:Program) (w:World) (ty td:TE):TE:=fun σ H Q=>ty σ H fun y H1=>td σ H1 fun x H2=>∃ a b kvs k,x=.ref a∧y=.ref b∧Ol P w H2 a kvs∧H2 b=some (.tup (k.map kV))∧Q (.bl (jk kvs k).isSome) H2
noncomputable def xD (P:Program) (w:World) (ty td:TE):TE:=fun σ H Q=>ty σ H fun y H1=>td σ H1 fun x H2=>∃ a b kvs k,x=.ref a∧y=.ref b∧Ol P w H2 a kvs∧H2 b=some (.tup (k.map kV))∧Q (.bl (!(jk kvs k).isSome)) H2
noncomputable def fO (P:Program) (w:World) (td ty tv:TE):TS:=fun D σ H=>tv σ H fun v H1=>td σ H1 fun x H2=>ty σ H2 fun y H3=>∃ a b kvs k,x=.ref a∧y=.ref b∧Ol P w H3 a kvs∧H3 b=some (.tup (k.map kV))∧kvs.length < sizeLine∧∀ o,Ol P w (upd H3 a (.ext (AtO a o))) a (Uq kvs k v)→D.nx σ (upd H3 a (.ext (AtO a o)))
noncomputable def MM (P:Program) (w:World):TE:=fun _ H Q=>∀ p o,H p=none→Ol P w (upd H p (.ext (AtO p o))) p []→Q (.ref p) (upd H p (.ext (AtO p o)))
section
variable {X:Cx} {o i e value:Expr} {pos pos' tpos:Pos} {td ty tv:TE}
theorem cE (hu:X.A.units + 1 < cLine) (ho:PE X o td) (hi:PE X i ty) (hs:GO i):PE X (.Subscript o i pos) (vM X.prog X.w td ty):=by
 intro pins s σ H Q I h;refine EF PySem.F.slot_dict_getitem.lookup hs (thn (ho pins s σ H _ I h) fun u s1 ⟨x,H1,I1,rx,q1⟩=>thn (hi pins s1 σ H1 _ I1 q1) fun iv s2 hZ1=>?_);obtain ⟨y,H2,I2,ry,a,b,kvs,k,v,ex,ey,d,eb,l,q2⟩:=hZ1;subst ex ey;obtain rfl:u=Value.ref a:=rx;obtain rfl:iv=Value.ref b:=ry;refine ⟨?_,kO hu I2 d eb l fun w' s3 I3 rw'=>⟨v,H2,I3,rw',q2⟩⟩;obtain ⟨ob,es,ep,xs,r⟩:=d;exact IE (cq I2.hok r)
theorem fu (hu:X.A.units + 1 < cLine) (hi:PE X i ty) (ho:PE X o td):PC X .In i o (rQ X.prog X.w ty td):=by
 intro pins s σ H Q I h;refine thn (hi pins s σ H _ I h) fun iv s1 ⟨y,H1,I1,ry,q1⟩=>thn (ho pins s1 σ H1 _ I1 q1) fun u s2 hZ1=>?_
 obtain ⟨x,H2,I2,rx,a,b,kvs,k,ex,ey,d,eb,q2⟩:=hZ1;subst ex ey;obtain rfl:u=Value.ref a:=rx;obtain rfl:iv=Value.ref b:=ry;exact aP hu I2 d eb fun s3 I3=>⟨.bl (jk kvs k).isSome,H2,I3,rfl,q2⟩
theorem qG (hu:X.A.units + 1 < cLine) (hi:PE X i ty) (ho:PE X o td):PC X .NotIn i o (xD X.prog X.w ty td):=by
 intro pins s σ H Q I h;refine thn (hi pins s σ H _ I h) fun iv s1 ⟨y,H1,I1,ry,q1⟩=>thn (ho pins s1 σ H1 _ I1 q1) fun u s2 hZ1=>?_
 obtain ⟨x,H2,I2,rx,a,b,kvs,k,ex,ey,d,eb,q2⟩:=hZ1;subst ex ey;obtain rfl:u=Value.ref a:=rx;obtain rfl:iv=Value.ref b:=ry;exact KI hu I2 d eb fun s3 I3=>⟨.bl (!(jk kvs k).isSome),H2,I3,rfl,q2⟩
theorem xy (hu:X.A.units + 1 < cLine) (ho:PE X o td) (hi:PE X i ty) (hv:PE X value tv) (hs:swapsWith value (some (.Subscript o i pos')) pos.line X.env=pure false) :
  PS X (.Assign [.Subscript o i pos'] value pos) (fO X.prog X.w td ty tv):=by
 intro pins s σ H D I h;refine wpAny_Assign_Subscript (thn (hv pins s σ H _ I h) fun r s1 ⟨v,H1,I1,rv,q1⟩=>thn (ho pins s1 σ H1 _ I1 q1) fun u s2 ⟨x,H2,I2,rx,q2⟩=>thn (hi pins s2 σ H2 _ I2 q2) fun iv s3 hZ1=>?_) hs;obtain ⟨y,H3,I3,ry,a,b,kvs,k,ex,ey,d,eb,hl,q3⟩:=hZ1;subst ex ey;obtain rfl:u=Value.ref a:=rx;obtain rfl:iv=Value.ref b:=ry;exact VN hu I3 d eb hl rv fun ob s4 I4 d4=>⟨σ,_,I4,q3 ob d4⟩
theorem qF:PE X (.Dict [] [] pos) (MM X.prog X.w):=fun pins s σ H Q I h=>by
 refine thn (DI pins s σ H (fun x H1=>∃ p,x=.ref p∧H p=none∧H1=upd H p (.dT [])) I fun p hp=>⟨p,rfl,hp,rfl⟩) fun v s1 hZ1=>?_
 obtain ⟨x,H1,I1,r1,p,ex,hp,eH⟩:=hZ1;subst ex eH;obtain ⟨o,I2,d2⟩:=Uz I1 (ib ..);rw [Gm] at I2 d2;exact ⟨.ref p,_,I2,r1,h p o hp d2⟩
end
noncomputable def Itk (d:Addr) (o:Obj) (kvs:List (List Key × V)) (xs:List (List Key × Addr × Value)):It:=
 ⟨fun i H=>H d=some (.ext (AtO d o))∧i < kvs.length,fun i H x H'=>H'=H∧∃ k b u,xs[i]? = some (k,b,u)∧x=.ref b,fun i H=>H d=some (.ext (AtO d o))∧kvs.length ≤ i⟩
theorem FH {P:Program} {w:World} {K:PySem.W.Frag} {tg:Expr} {d it:Addr} {o:Obj} {es:Array DictEntry} {ep:Nat} {kvs:List (List Key × V)} {xs:List (List Key × Addr × Value)} (ex:o.ExactDict) (ho:o.data=.dict es ep)
  (ent:es.toList=xs.map (entryOfKey (tupleKind (De P w)))) (hl:kvs.length=xs.length):YG P w K tg (Itk d o kvs xs) [it] it (fun i h=>h.IsKeyIter it d i es.size ep) where
 mem:=by simp
 obj:=fun i h st b hb=>by
  have e:b=it:=by simpa using hb
  subst e;obtain ⟨o,e,c,d⟩:=st;exact ⟨o,e,fun v z=>by rw [d] at z;cases z⟩
 keep:=fun i h h' st k=>st.at fun o e=>k it (by simp) o e
 item:=by
  intro X hP hw hK hc i pins s σ H E I hf st hg;subst hP hw hK;obtain ⟨hq,hx⟩:=hg;have r:JJ s.heap d o es ep:=⟨(I.hok d _ hq).1,ex,ho⟩;obtain ⟨f0,f1,f2,f3,f4,f5⟩:=hf it (by simp);obtain ⟨q,hq2⟩:∃ q,xs[i]? = some q:=⟨_,List.getElem?_eq_getElem (by omega)⟩;refine uF st r (e:=entryOfKey (tupleKind (De X.prog X.w)) q) (by rw [entry_at ent,hq2];rfl) fun h' st' sb=>?_
  have I1:Inv X pins σ H { s with heap:=h' }:=I.turned (t':=s.toks) (fun b o hb e=>(sb.2 b hb).trans e) f0 f1 f3 f4 f5;obtain ⟨o2,e,c,dd⟩:=id st';exact ⟨_,rfl,BE (s:={ s with heap:=h' }) e c dd (by decide) ⟨.ref q.2.1,H,I1,rfl,⟨rfl,q.1,q.2.1,q.2.2,hq2,rfl⟩,st',fun b hb=>(hf b hb).1⟩⟩
 done:=by
  intro X hP hw hK hc i pins s σ H E I hf st hg;subst hP hw hK;obtain ⟨hq,hx⟩:=hg;have r:JJ s.heap d o es ep:=⟨(I.hok d _ hq).1,ex,ho⟩;obtain ⟨f0,f1,f2,f3,f4,f5⟩:=hf it (by simp);have hz:es.size=xs.length:=size_of_entries ent;exact jI (I.ok.hd hc) st r (by omega) fun h' eb=>⟨rfl,I.turned (t':=s.toks) (fun b o hb e=>eb b o hb e) f0 f1 f3 f4 f5⟩
 self:=fun _ _ _ _ _ st h=>wpAny_pyIter_keyiter st h
section
variable {X:Cx} {tg:Expr}
noncomputable def KP (P:Program) (w:World) (tl:TE):TI:=fun σ H R=>tl σ H fun x H1=>∃ d kvs,x=.ref d∧Ol P w H1 d kvs∧∀ o es ep xs,zO P w H1 d kvs o es ep xs→R (Itk d o kvs xs) H1
theorem VE {l:Expr} {tl:TE} (hl:PE X l tl):PI X tg l (KP X.prog X.w tl):=by
 intro pins s σ H R I h;refine thn (hl pins s σ H _ I h) fun v s1 hZ1=>?_
 obtain ⟨x,H1,I1,r1,q1⟩:=hZ1;obtain ⟨d,kvs,e,⟨o,es,ep,xs,r⟩,q⟩:=q1;subst e;cases r1;refine LD r.ns (cq I1.hok r) ?_;refine ⟨s1.heap.objs.size,[s1.heap.objs.size],_,_,_,rfl,I1.kept (t':=s1.toks) fun b o e=>Heap.get?_push_of_some _ e,FH r.ex r.dat r.ent (Yp r.ks),⟨_,Heap.get?_push_size _ rfl,rfl,rfl⟩,fun b hb=>?_,q o es ep xs r⟩;have e:b=s1.heap.objs.size:=by simpa using hb
 subst e;exact I1.fpOk (Nat.le_refl _) (I1.hok.fresh (Nat.le_refl _))
end
end L2
namespace L2
open PySem PySem.Spec PyProof.Rows
noncomputable def qP (p d:Addr):Heap→Prop:=fun h=>h.IsItemsView p d
theorem qP.ok {P:Program} {w:World} {H:Hp} {h:Heap} {p d:Addr} (z:qP p d h):Bd P w H h p (.ext (qP p d)):=
 ⟨z,let ⟨o,ho,_⟩:=z;⟨o,ho⟩,fun _ _ z1 k=>let ⟨o,ho,x⟩:=z1;⟨o,k o ho,x⟩⟩
structure tP (H H':Hp) (l:Addr) (as:List Addr) (kvs:List (Key × V)):Prop where
 same:∀ b o,H b=some o→H' b=some o
 fresh:H l=none
 frAll:∀ a ∈ as,H a=none
 at_:H' l=some (.lst (as.map V.ref))
 len:as.length=kvs.length
 al:∀ (j:Nat) (a:Addr) (q:Key × V),as[j]? = some a→kvs[j]? = some q→H' a=some (.tup [kV q.1,q.2])
 only:∀ b o,H' b=some o→H b=some o∨o=.lst (as.map V.ref)∨∃ q ∈ kvs,o=.tup [kV q.1,q.2]
section
variable {X:Cx}
end
end L2
namespace L2
open PySem PySem.Spec PyProof.Rows
section
open AutoSeq1 (wpAny_loadPart')
open MeetsSeq MeetsSeq2 MeetsSeq3 SeqRoads2
variable {P:Program} {w:World} {l b:Addr} {xs ys:Array Value} {n m:Nat} {dd de:Option Addr} {sl sm:Array (Option Value)}
end
section
variable {X:Cx} {pins:List (Addr × Obj)} {σ:St} {H:Hp} {s:Shared}
structure DL (H:Hp) (p:Addr) (ps:List Addr) (ks:List (List (Key × V))):Prop where
 at_:H p=some (.lst (ps.map V.ref))
 len:ps.length=ks.length
 al:∀ (j:Nat) (a:Addr) (kvs:List (Key × V)),ps[j]? = some a→ks[j]? = some kvs→H a=some (.dK kvs)
end
section
variable {X:Cx}
end
end L2
namespace L2
open PySem PySem.Spec PyProof.Rows
section
variable {X:Cx} {pins:List (Addr × Obj)} {σ:St} {H:Hp} {s:Shared} {d:Addr} {o:Obj} {kvs:List (Key × V)}
end
section
variable {X:Cx} {tg:Expr}
end
end L2
namespace L2
open PySem PySem.Spec PyProof.Rows
structure BO (X:Cx) (pins:List (Addr × Obj)) (H:Hp) (S:Addr):Prop where
 nn:H S=none
 nl:S ≠ X.env.locals
 ge:X.s₀.heap.objs.size ≤ S
 nc:∀ x c,X.env.cells.lookup x=some c→c ≠ S
 np:∀ p ∈ X.pn ++ pins,p.1 ≠ S
 nf:S ∉ X.fs
theorem BO.of {X:Cx} {pins:List (Addr × Obj)} {σ:St} {H:Hp} {s:Shared} {S:Addr} (I:Inv X pins σ H s) (h:s.heap.objs.size ≤ S):BO X pins H S:=
 ⟨I.hok.fresh h,fun z=>absurd (Nat.lt_of_lt_of_le I.lt h) (by rw [z];exact Nat.lt_irrefl _),Nat.le_trans I.sz h,fun x c e z=>by
  obtain ⟨v,o,ho,_⟩:=I.cell x c e;exact absurd (Nat.lt_of_lt_of_le (Heap.lt_size ho) h) (by rw [z];exact Nat.lt_irrefl _),fun p hp z=>by
  have ho:=(I.pin p hp).1;exact absurd (Nat.lt_of_lt_of_le (Heap.lt_size ho) h) (by rw [z];exact Nat.lt_irrefl _),I.nofs h⟩
theorem BO.turn {X:Cx} {pins:List (Addr × Obj)} {σ:St} {H:Hp} {s:Shared} {S:Addr} {h':Heap} {t':Nat} (o:BO X pins H S) (I:Inv X pins σ H s) (k:∀ b o,b ≠ S→s.heap.get? b=some o→h'.get? b=some o):Inv X pins σ H { s with heap:=h',toks:=t' }:=
 I.turned k o.nn o.nl (.inr o.ge) o.nc o.np
section
variable {X:Cx} {A:Around} {pins:List (Addr × Obj)} {σ:St} {H:Hp} {l q I S:Addr} {n:Nat} {P:Nat→Value→Prop} {R:Result→Shared→Prop}
end
end L2
namespace L2
open PySem PySem.Spec PyProof.Rows
structure wQ (p y z:Str) (sc:Scope):Prop where
 kind:sc.kind=.function
 co:sc.isCoroutine=false
 gen:sc.isGenerator=false
 ne:y ≠ z
 par:sc.names.lookup p=some .local
 yf:sc.names.lookup y=some .free
 zf:sc.names.lookup z=some .free
 nocell:∀ z ∈ sc.names,z.2 ≠ .cell
 two:∀ b ∈ sc.names,b.2=.free→b.1=y∨b.1=z
section
variable {X:Cx} {A:Around} {pins:List (Addr × Obj)} {σ:St} {H:Hp} {s:Shared} {k:Nat} {f c' c1 c2:Addr} {q p y z:Str} {params:Arguments} {body:Expr} {scope:Scope} {v1 v2:V} {t:TE}
end
end L2
namespace L2
open PySem PySem.Spec PyProof.Rows
theorem SqL.p {K:PySem.W.Frag} {H H':Hp} {a Pt:Addr} {xs:List V} {pos:Pos} {q:Str} (s:Nw Pt H H') (t:Tab H Pt pos q) (h:SqL K H a xs):SqL K H' a xs:=by
 rcases h with (h | ⟨o,h⟩) | h
 ·exact .inl (.inl (s _ _ (t.ne h (fun _ z=>by cases z)) h))
 ·exact .inl (.inr ⟨o,s _ _ (t.ne h (fun _ z=>by cases z)) h⟩)
 ·exact .inr h
end L2
namespace L2
open PySem PySem.Spec PyProof.Rows
end L2
namespace L2
open PySem PySem.Spec PyProof.Rows
end L2
namespace L2
open PySem PySem.Spec PyProof.Rows
end L2
namespace L2
open PySem PySem.Spec PyProof.Rows
end L2
namespace L2
open PySem PySem.Spec PyProof.Rows
theorem GF (i:Nat) (σ:St) (H:Hp) (Q:VK):XO i σ H Q=(iJ H Q σ[i]?):=rfl
theorem aN (v:V) (x_0:St) (H:Hp) (Q:VK):tC v x_0 H Q=(Q v H):=rfl
theorem IM (t:TE) (σ:St) (H:Hp) (Q:(Bool→Hp→Prop)):tB t σ H Q=(t σ H fun x H1=>BlQ x fun c=>Q c H1):=rfl
theorem ID (t u:TT) (σ:St) (H:Hp) (Q:(Bool→Hp→Prop)):CP t u σ H Q=(t σ H fun c H1=>if c=true then u σ H1 Q else Q false H1):=rfl
theorem mJ (t u:TT) (σ:St) (H:Hp) (Q:(Bool→Hp→Prop)):tOr t u σ H Q=(t σ H fun c H1=>if c=true then Q true H1 else u σ H1 Q):=rfl
theorem sE (t:TT) (σ:St) (H:Hp) (Q:(Bool→Hp→Prop)):tQ t σ H Q=(t σ H fun c H1=>Q (!c) H1):=rfl
theorem qz (ta tb:TE) (σ:St) (H:Hp) (Q:VK):mO ta tb σ H Q=(ta σ H fun x H1=>BlQ x fun c=>if c=true then tb σ H1 Q else Q (.bl false) H1):=rfl
theorem RE (ta tb:TE) (σ:St) (H:Hp) (Q:VK):GP ta tb σ H Q=(ta σ H fun x H1=>BlQ x fun c=>if c=true then Q (.bl true) H1 else tb σ H1 Q):=rfl
theorem wJ (t:TT) (ta tb:TE) (σ:St) (H:Hp) (Q:VK):tIf t ta tb σ H Q=(t σ H fun c H1=>if c=true then ta σ H1 Q else tb σ H1 Q):=rfl
theorem Xb (D:Sj) (σ:St) (H:Hp):iN  D σ H=(D.nx σ H):=rfl
theorem xb (t u:TS) (D:Sj) (σ:St) (H:Hp):sQ t u D σ H=(t { D with nx:=u D } σ H):=rfl
theorem UA (te:TE) (D:Sj) (σ:St) (H:Hp):ZN te D σ H=(te σ H fun _ H1=>D.nx σ H1):=rfl
theorem UF (te:TE) (D:Sj) (σ:St) (H:Hp):MO te D σ H=(te σ H D.rt):=rfl
theorem Aw (x_0:Sj) (x_1:St) (x_2:Hp):aJ  x_0 x_1 x_2=(False):=rfl
theorem Rf (i:Nat) (v:V) (σ:St) (H:Hp) (Q:(St→Hp→Prop)):ms i v σ H Q=(Q (σ.set i (some v)) H):=rfl
theorem LG (vs:List V) (σ:St) (H:Hp) (Q:(St→Hp→Prop)):CO  vs σ H Q=(vs=[]∧Q σ H):=rfl
theorem fB (t:TG) (u:TGs) (vs:List V) (σ:St) (H:Hp) (Q:(St→Hp→Prop)):jC t u vs σ H Q=(∃ v r,vs=v :: r∧t v σ H fun σ' H'=>u r σ' H' Q):=rfl
theorem iG (K:PySem.W.Frag) (n:Nat) (t:TGs) (v:V) (σ:St) (H:Hp) (Q:(St→Hp→Prop)):qM K n t v σ H Q=(∃ a xs,v=.ref a∧SqT K H a xs∧xs.length=n∧t xs σ H Q):=rfl
theorem dD (to ti:TE) (t:DO) (v:V) (σ:St) (H:Hp) (Q:(St→Hp→Prop)):DP to ti t v σ H Q=(to σ H fun o H1=>ti σ H1 fun i H2=>t o i v H2 fun H3=>Q σ H3):=rfl
theorem cD (te:TE) (g:TG) (D:Sj) (σ:St) (H:Hp):mM te g D σ H=(te σ H fun x H1=>g x σ H1 D.nx):=rfl
theorem aE (i j:Nat) (ta:TA) (D:Sj) (σ:St) (H:Hp):iQ i j ta D σ H=(ta σ H fun vs H1=>∃ v w,vs=[v,w]∧D.nx ((σ.set i (some v)).set j (some w)) H1):=rfl
theorem UG (i:Nat) (te:TE) (ti:TIp) (D:Sj) (σ:St) (H:Hp):gQ i te ti D σ H=(∃ x,σ[i]? = some (some x)∧te σ H fun y H1=>ti x y H1 fun z H2=>D.nx (σ.set i (some z)) H2):=rfl
theorem cA (K:PySem.W.Frag) (tl:TE) (σ:St) (H:Hp) (R:(It→Hp→Prop)):nN K tl σ H R=(tl σ H fun x H1=>Jh x fun a=>(∃ xs,SqL K H1 a xs)∧R (Itl K a) H1):=rfl
theorem ND (K:PySem.W.Frag) (tl:TE) (σ:St) (H:Hp) (R:(It→Hp→Prop)):eQ K tl σ H R=(tl σ H fun x H1=>Jh x fun a=>(∃ xs,SqT K H1 a xs)∧R (Itt K a) H1):=rfl
theorem cK (r:R2) (ta tb:TE) (σ:St) (H:Hp) (Q:VK):tOp r ta tb σ H Q=(ta σ H fun x H1=>tb σ H1 fun y H2=>r x y H2 Q):=rfl
theorem cJ (r:V→Hp→VK→Prop) (ta:TE) (σ:St) (H:Hp) (Q:VK):tUn r ta σ H Q=(ta σ H fun x H1=>r x H1 Q):=rfl
theorem xN (C:Int→Int→Prop) (g:Int→Int→V) (x:V) (y:V) (H:Hp) (Q:VK):rI C g x y H Q=(ik x fun i=>ik y fun j=>C i j∧Q (g i j) H):=rfl
theorem PJ (g:Int→Int→V) (x:V) (y:V) (H:Hp) (Q:VK):rI0 g x y H Q=(ik x fun i=>ik y fun j=>Q (g i j) H):=rfl
theorem CN (g:Int→V) (x:V) (H:Hp) (Q:VK):rU g x H Q=(ik x fun i=>Q (g i) H):=rfl
theorem dJ (x:V) (y:V) (H:Hp) (Q:VK):rEq  x y H Q=(CM x y=true∧Q (.bl (decide (x=y))) H):=rfl
theorem YJ (x:V) (y:V) (H:Hp) (Q:VK):rNe  x y H Q=(CM x y=true∧Q (.bl (!decide (x=y))) H):=rfl
theorem EB (t:TE) (σ:St) (H:Hp) (Q:(Bool→Hp→Prop)):XN t σ H Q=(t σ H fun x H'=>BlQ x fun k=>Q k H'):=rfl
theorem bE (K:PySem.W.Frag) (ta:TE) (f:Str) (σ:St) (H:Hp) (Q:VK):aQ K ta f σ H Q=(ta σ H fun x H1=>Jh x fun a=>∃ v,Wl K H1 a f v∧Q v H1):=rfl
theorem EE (K:PySem.W.Frag) (ta tv:TE) (f:Str) (D:Sj) (σ:St) (H:Hp):jQ K ta tv f D σ H=(tv σ H fun y H1=>ta σ H1 fun x H2=>Jh x fun a=>∃ C dx fs,H2 a=some (.ins C dx fs)∧Cls K C∧kc K C f∧fs.length < 1000 ∧
 D.nx σ (upd H2 a (.ins C dx (nj f y fs)))):=rfl
theorem wt (K:PySem.W.Frag) (ta tv:TE) (rd:V→V→Hp→VK→Prop) (f:Str) (D:Sj) (σ:St) (H:Hp):pE K ta tv rd f D σ H=(ta σ H fun x H1=>∃ a C dx fs v,x=.ref a∧H1 a=some (.ins C dx fs)∧Cls K C∧kc K C f∧fs.lookup f=some v ∧
 tv σ H1 fun y H2=>rd v y H2 fun z H3=>∃ dx' fs',H3 a=some (.ins C dx' fs')∧fs'.length < 1000∧D.nx σ (upd H3 a (.ins C dx' (nj f z fs')))):=rfl
theorem kF (x:V) (y:V) (H:Hp) (Q:VK):WP  x y H Q=(∃ i j,x=.int i∧y=.int j∧Q (.int (i + j)) H):=rfl
theorem bG (x_0:St) (H:Hp) (Q:(List V→Hp→Prop)):yO  x_0 H Q=(Q [] H):=rfl
theorem xz (ta:TE) (tr:TA) (σ:St) (H:Hp) (Q:(List V→Hp→Prop)):xM ta tr σ H Q=(ta σ H fun x H1=>tr σ H1 fun xs H2=>Q (x :: xs) H2):=rfl
theorem aF (t:TA) (σ:St) (H:Hp) (Q:VK):kQ t σ H Q=(t σ H fun xs H1=>xs.length ≤ sizeLine∧∀ p,H1 p=none→Q (.ref p) (upd H1 p (.tup xs))):=rfl
theorem FF (t:TA) (σ:St) (H:Hp) (Q:VK):qQ t σ H Q=(t σ H fun xs H1=>xs.length ≤ sizeLine∧∀ p,H1 p=none→Q (.ref p) (upd H1 p (.lst xs))):=rfl
theorem FA (sp:Sp) (dvs:List V) (E:XK) (t:TA) (σ:St) (H:Hp) (Q:VK):zI sp dvs E t σ H Q=(t σ H fun vs H1=>sp (vs ++ dvs) H1 Q E):=rfl
theorem kB (C:Addr) (m:Str) (sp:Sp) (dvs:List V) (E:XK) (ta:TE) (t:TA) (σ:St) (H:Hp) (Q:VK):CL C m sp dvs E ta t σ H Q=(ta σ H fun x H1=>Jh x fun a=>∃ dx fs,H1 a=some (.ins C dx fs)∧fs.lookup m=none ∧
 t σ H1 fun vs H2=>sp (x :: (vs ++ dvs)) H2 Q E):=rfl
theorem jA (C:Addr) (sp:Sp) (dvs:List V) (E:XK) (t:TA) (σ:St) (H:Hp) (Q:VK):jN C sp dvs E t σ H Q=(t σ H fun vs H1=>∀ x dx,H1 x=none→H1 dx=none→dx ≠ x →
 sp (.ref x :: (vs ++ dvs)) (upd (upd H1 dx (.own x)) x (.ins C dx [])) (fun v H2=>v=.non∧Q (.ref x) H2) E):=rfl
theorem EJ (r:List V→Hp→VK→Prop) (t:TA) (σ:St) (H:Hp) (Q:VK):tCB r t σ H Q=(t σ H fun vs H1=>r vs H1 Q):=rfl
theorem zu (x_0:St) (H:Hp) (Q:(Option Int→Hp→Prop)):GG  x_0 H Q=(Q none H):=rfl
theorem pz (t:TE) (σ:St) (H:Hp) (Q:(Option Int→Hp→Prop)):WM t σ H Q=(t σ H fun x H1=>ik x fun i=>Q (some i) H1):=rfl
theorem xJ (r:V→Option Int→Option Int→Hp→VK→Prop) (te:TE) (tl th:TO) (σ:St) (H:Hp) (Q:VK):tSl r te tl th σ H Q=(te σ H fun x H1=>tl σ H1 fun l H2=>th σ H2 fun u H3=>r x l u H3 Q):=rfl
theorem oE (K:PySem.W.Frag) (x:V) (lo:Option Int) (hi:Option Int) (H:Hp) (Q:VK):LP K x lo hi H Q=(∃ a xs,x=.ref a∧SqT K H a xs ∧
 ¬ (HT.sIx xs.length 0 lo=0∧HT.sIx xs.length xs.length hi=xs.length)∧∀ p,H p=none→Q (.ref p) (upd H p (.tup (Sv xs lo hi)))):=rfl
theorem Qz (K:PySem.W.Frag) (x:V) (y:V) (H:Hp) (Q:VK):vN K x y H Q=(∃ a b xs ys,x=.ref a∧y=.ref b∧SqT K H a xs∧SqT K H b ys∧xs ≠ []∧xs.length + ys.length ≤ sizeLine ∧
 (ys=[]→Q (.ref a) H)∧(ys ≠ []→∀ p,H p=none→Q (.ref p) (upd H p (.tup (xs ++ ys))))):=rfl
theorem SF (K:PySem.W.Frag) (x:V) (y:V) (H:Hp) (Q:VK):zP K x y H Q=(Jh x fun p=>∃ xs,ik y fun i=>SqL K H p xs∧∃ v,atI xs i=some v∧Q v H):=rfl
theorem oG (K:PySem.W.Frag) (x:V) (y:V) (H:Hp) (Q:VK):IP K x y H Q=(Jh x fun p=>∃ xs,ik y fun i=>SqT K H p xs∧∃ v,atI xs i=some v∧Q v H):=rfl
theorem FD (x:V) (y:V) (H:Hp) (Q:VK):mQ  x y H Q=(∃ z i c,x=.str z∧y=.int i∧z.length ≤ sizeLine∧atI z.cps.toList i=some c∧Q (.str ⟨#[c]⟩) H):=rfl
theorem kA (o:V) (i:V) (v:V) (H:Hp) (Q:(Hp→Prop)):IN  o i v H Q=(Jh o fun p=>∃ xs,ik i fun k=>H p=some (.lst xs)∧∃ j,ixN xs.length k=some j∧Q (upd H p (.lst (xs.set j v)))):=rfl
theorem AG (K:PySem.W.Frag) (x:V) (lo:Option Int) (hi:Option Int) (H:Hp) (Q:VK):BP K x lo hi H Q=(∃ a xs,x=.ref a∧SqL K H a xs∧∀ p,H p=none→Q (.ref p) (upd H p (.lst (Sv xs lo hi)))):=rfl
theorem eK (K:PySem.W.Frag) (neg:Bool) (x:V) (y:V) (H:Hp) (Q:VK):rIn K neg x y H Q=(∃ p xs,y=.ref p∧(SqL K H p xs∨SqT K H p xs)∧Cm x=true∧xs.all Cm=true∧Q (.bl (if neg then !inV x xs else inV x xs)) H):=rfl
theorem lG (K:PySem.W.Frag) (T:String) (r:V→List V→Hp→VK→Prop) (to:TE) (σ:St) (H:Hp) (Q:VK):JP K T r to σ H Q=(to σ H fun x H1=>tyV K T x H1∧r x [] H1 Q):=rfl
theorem QJ (K:PySem.W.Frag) (T:String) (r:V→List V→Hp→VK→Prop) (to:TE) (t:TA) (σ:St) (H:Hp) (Q:VK):tBM K T r to t σ H Q=(to σ H fun x H1=>tyV K T x H1∧t σ H1 fun xs H2=>r x xs H2 Q):=rfl
theorem Kt (x:V) (vs:List V) (H:Hp) (Q:VK):MD  x vs H Q=(Jh x fun l=>yC vs fun y=>∃ xs,H l=some (.lst xs)∧xs.length < sizeLine∧Q .non (upd H l (.lst (xs ++ [y])))):=rfl
theorem ju (x:V) (vs:List V) (H:Hp) (Q:VK):wD  x vs H Q=(∃ l b xs zs,x=.ref l∧vs=[.ref b]∧H l=some (.lst xs)∧H b=some (.lst zs)∧xs.length + zs.length ≤ sizeLine∧Q .non (upd H l (.lst (xs ++ zs)))):=rfl
theorem uq (x:V) (vs:List V) (H:Hp) (Q:VK):Jz  x vs H Q=(∃ l xs,x=.ref l∧vs=[]∧H l=some (.lst xs)∧Q .non (upd H l (.lst xs.reverse))):=rfl
theorem RD (x:V) (y:V) (H:Hp) (Q:VK):nQ  x y H Q=(∃ l b xs zs,x=.ref l∧y=.ref b∧H l=some (.lst xs)∧H b=some (.lst zs)∧xs.length + zs.length ≤ sizeLine∧∀ p,H p=none→Q (.ref p) (upd H p (.lst (xs ++ zs)))):=rfl
theorem AA (td ty:TE) (σ:St) (H:Hp) (Q:VK):KM td ty σ H Q=(td σ H fun x H1=>ty σ H1 fun y H2=>Jh x fun a=>∃ v,cC H2 a y (some v)∧Q v H2):=rfl
theorem Dt (ty td:TE) (σ:St) (H:Hp) (Q:VK):XG ty td σ H Q=(ty σ H fun y H1=>td σ H1 fun x H2=>Jh x fun a=>∃ o,cC H2 a y o∧Q (.bl (!o.isSome)) H2):=rfl
theorem mz (td ty tv:TE) (D:Sj) (σ:St) (H:Hp):DM td ty tv D σ H=(tv σ H fun v H1=>td σ H1 fun x H2=>ty σ H2 fun y H3=>Jh x fun a=>∃ H4,jH H3 a y v H4∧D.nx σ H4):=rfl
theorem Zv (x_0:St) (H:Hp) (Q:VK):jK  x_0 H Q=(∀ p,H p=none→Q (.ref p) (upd H p (.dK []))):=rfl
theorem Iw (x_0:St) (H:Hp) (Q:VK):ZI  x_0 H Q=(∀ p,H p=none→Q (.ref p) (upd H p (.dT []))):=rfl
theorem Dz (x_0:St) (H:Hp) (Q:(Bool→Hp→Prop)):Dw  x_0 H Q=(Q true H):=rfl
theorem eD (tl:TE) (σ:St) (H:Hp) (R:(It→Hp→Prop)):uQ tl σ H R=(tl σ H fun x H1=>∃ z,x=.str z∧R (Its (Tj z)) H1):=rfl
theorem JE (x:V) (lo:Option Int) (hi:Option Int) (H:Hp) (Q:VK):FP  x lo hi H Q=(∃ z,x=.str z∧z.length ≤ sizeLine∧Q (.str (Txt.slice z lo hi)) H):=rfl
theorem Nz (K:PySem.W.Frag) (x:V) (vs:List V) (H:Hp) (Q:VK):dN K x vs H Q=(∃ sep p ys,x=.str sep∧vs=[.ref p]∧SqL K H p (Tc ys)∧(ys.map (·.length)).sum + ys.length * sep.length ≤ 16777216∧Q (.str (Txt.join sep ys)) H):=rfl
theorem yw (x:V) (vs:List V) (H:Hp) (Q:VK):OJ  x vs H Q=(∃ z y,x=.str z∧vs=[.str y]∧y.length ≠ 0∧z.length + 2 ≤ sizeLine∧(Txt.split z y).length ≤ sizeLine∧∀ p,H p=none→Q (.ref p) (upd H p (.lst (Tc (Txt.split z y))))):=rfl
theorem jw (OK:Addr→Prop) (m:Str) (SPV:Addr→Sp) (E:XK) (ta:TE) (t:TA) (σ:St) (H:Hp) (Q:VK):aK OK m SPV E ta t σ H Q=(ta σ H fun x H1=>∃ a C dx fs,x=.ref a∧H1 a=some (.ins C dx fs)∧OK C∧fs.lookup m=none ∧
 t σ H1 fun vs H2=>SPV C (x :: vs) H2 Q E):=rfl
theorem oA (K:PySem.W.Frag) (ta:TA) (σ:St) (H:Hp) (R:(It→Hp→Prop)):zM K ta σ H R=(ta σ H fun vs H1=>∃ a,vs=[.ref a]∧(∃ xs,SqL K H1 a xs)∧R (Ite K a) H1):=rfl
theorem tD (K:PySem.W.Frag) (ta:TA) (σ:St) (H:Hp) (R:(It→Hp→Prop)):RP K ta σ H R=(ta σ H fun vs H1=>∃ a b,vs=[.ref a,.ref b]∧(∃ xs,SqL K H1 a xs)∧(∃ ys,SqL K H1 b ys)∧R (Itz K a b) H1):=rfl
theorem dF (K:PySem.W.Frag) (neg:Bool) (x:V) (y:V) (H:Hp) (Q:VK):SO K neg x y H Q=(∃ p qs f,y=.ref p∧SqL K H p (List.map V.ref qs)∧(∀ q ∈ qs,EqH K H 8 (.ref q) x (f q))∧Q (.bl (if neg then !(qs.any f) else qs.any f)) H):=rfl
theorem Cz (x:V) (vs:List V) (H:Hp) (Q:VK):Ex  x vs H Q=(∃ d kvs,x=.ref d∧vs=[]∧H d=some (.dK kvs)∧∀ p,H p=none→Q (.ref p) (upd H p (.ext (bO p d)))):=rfl
theorem mB (P:Program) (w:World) (td ty:TE) (σ:St) (H:Hp) (Q:VK):vM P w td ty σ H Q=(td σ H fun x H1=>ty σ H1 fun y H2=>∃ a b kvs k v,x=.ref a∧y=.ref b∧Ol P w H2 a kvs∧H2 b=some (.tup (k.map kV))∧jk kvs k=some v∧Q v H2):=rfl
theorem nE (P:Program) (w:World) (ty td:TE) (σ:St) (H:Hp) (Q:VK):rQ P w ty td σ H Q=(ty σ H fun y H1=>td σ H1 fun x H2=>∃ a b kvs k,x=.ref a∧y=.ref b∧Ol P w H2 a kvs∧H2 b=some (.tup (k.map kV))∧Q (.bl (jk kvs k).isSome) H2):=rfl
theorem Rt (P:Program) (w:World) (ty td:TE) (σ:St) (H:Hp) (Q:VK):xD P w ty td σ H Q=(ty σ H fun y H1=>td σ H1 fun x H2=>∃ a b kvs k,x=.ref a∧y=.ref b∧Ol P w H2 a kvs∧H2 b=some (.tup (k.map kV))∧Q (.bl (!(jk kvs k).isSome)) H2):=rfl
theorem Lz (P:Program) (w:World) (td ty tv:TE) (D:Sj) (σ:St) (H:Hp):fO P w td ty tv D σ H=(tv σ H fun v H1=>td σ H1 fun x H2=>ty σ H2 fun y H3=>∃ a b kvs k,x=.ref a∧y=.ref b∧Ol P w H3 a kvs∧H3 b=some (.tup (k.map kV))∧kvs.length < sizeLine∧∀ o,Ol P w (upd H3 a (.ext (AtO a o))) a (Uq kvs k v)→D.nx σ (upd H3 a (.ext (AtO a o)))):=rfl
theorem uA (P:Program) (w:World) (x_0:St) (H:Hp) (Q:VK):MM P w x_0 H Q=(∀ p o,H p=none→Ol P w (upd H p (.ext (AtO p o))) p []→Q (.ref p) (upd H p (.ext (AtO p o)))):=rfl
theorem wG (P:Program) (w:World) (tl:TE) (σ:St) (H:Hp) (R:(It→Hp→Prop)):KP P w tl σ H R=(tl σ H fun x H1=>∃ d kvs,x=.ref d∧Ol P w H1 d kvs∧∀ o es ep xs,zO P w H1 d kvs o es ep xs→R (Itk d o kvs xs) H1):=rfl
noncomputable def nk (J:It) (g:TG) (tb:TS) (D:Sj) (σ:St) (H:Hp):Prop:=∃ W:Nat→Nat→St→Hp→Prop,(∃ m,W 0 m σ H)∧∀ i m σ H,W i m σ H →
 (J.stop i H∧D.nx σ H)∨(J.go i H∧∃ N:St→Hp→Prop,(∀ σ' H',N σ' H'→∃ m',m' < m∧W (i + 1) m' σ' H')∧∀ x H',J.yld i H x H'→g x σ H' fun σ2 H2=>tb { D with nx:=N,ct:=N,bk:=D.nx } σ2 H2)
theorem VG (wi:TI) (g:TG) (tb:TS) (D:Sj) (σ:St) (H:Hp):bQ wi g tb D σ H=wi σ H fun J H1=>nk J g tb D σ H1:=rfl
noncomputable def bd (J:It) (g:TG) (tc:TT) (te:TE) (σb:St) (Q:VK) (H:Hp):Prop:=∃ W:Nat→Nat→List V→Hp→Prop,(∃ m,W 0 m [] H)∧Zx J g tc te σb Q W
theorem Zz (wi:TI) (g:TG) (tc:TT) (te:TE) (sel:List (Option Nat)) (σ:St) (H:Hp) (Q:VK):RK wi g tc te sel σ H Q=wi σ H fun J H1=>bd J g tc te (blk sel σ) Q H1:=rfl
theorem vA (ta:TA) (σ:St) (H:Hp) (R:It→Hp→Prop):FN ta σ H R=(ta σ H fun vs H1=>yC vs fun x=>ik x fun j=>-4611686018427387904 ≤ j∧j < 4611686018427387904∧R (Itr 0 j.toNat) H1):=rfl
theorem CB (ta:TA) (σ:St) (H:Hp) (R:It→Hp→Prop):sM ta σ H R=(ta σ H fun vs H1=>∃ i j:Int,vs=[.int i,.int j]∧(-4611686018427387904 ≤ i∧i < 4611686018427387904∧-4611686018427387904 ≤ j∧j < 4611686018427387904)∧R (Itr i (j - i).toNat) H1):=rfl
theorem KO {α β:Type} (f:α→β):[].map f=[]:=rfl
theorem NO {α β:Type} (f:α→β) (a:α) (l:List α):(a :: l).map f=f a :: l.map f:=rfl
theorem kP {α:Type} (l:List α):[] ++ l=l:=rfl
theorem fP {α:Type} (a:α) (l r:List α):(a :: l) ++ r=a :: (l ++ r):=rfl
theorem JO {α:Type} (a b:α) (l:List α):(a :: l).set 0 b=b :: l:=rfl
theorem QO {α:Type} (a b:α) (l:List α) (n:Nat):(a :: l).set (n + 1) b=a :: l.set n b:=rfl
theorem YO {α:Type} (a:α) (l:List α):(a :: l)[0]? = some a:=rfl
theorem jP {α:Type} (a:α) (l:List α) (n:Nat):(a :: l)[n + 1]? = l[n]?:=rfl
theorem oP {α:Type}:([]:List α).length=0:=rfl
theorem gP {α:Type} (a:α) (l:List α):(a :: l).length=l.length + 1:=rfl
theorem dBn {α β:Type} (f:α→Option β):(none:Option α).bind f=none:=rfl
theorem dBs {α β:Type} (f:α→Option β) (a:α):(some a).bind f=f a:=rfl
theorem dJs {α:Type} (a:Option α):(some a).join=a:=rfl
theorem dJn {α:Type}:(none:Option (Option α)).join=none:=rfl
theorem JD (sel:List (Option Nat)) (σ:St):blk sel σ=sel.map fun o=>o.bind fun j=>(σ[j]?).join:=rfl
theorem Mb {c:TT} {t u:TS} {D:Sj} {σ:St} {H:Hp} (b:Bool) (hc:∀ Q:Bool→Hp→Prop,Q b H→c σ H Q) (h1:b=true→t D σ H) (h2:b=false→u D σ H):VO c t u D σ H:=by
 refine hc _ ?_;cases b with
 | true=>exact h1 rfl
 | false=>exact h2 rfl
theorem qf {c:TT} {t u:TS} {D:Sj} {σ:St} {H:Hp} (R:Bool→Hp→Prop) (hc:∀ Q:Bool→Hp→Prop,(∀ b H',R b H'→Q b H')→c σ H Q) (h1:∀ H',R true H'→t D σ H') (h2:∀ H',R false H'→u D σ H'):VO c t u D σ H:=by
 refine hc _ fun b H' r=>?_
 cases b with
 | true=>exact h1 H' r
 | false=>exact h2 H' r
theorem Zb {t:TS} {D:Sj} {σ:St} {H:Hp} (R:St→Hp→Prop) (h:∀ D':Sj,(∀ σ H,R σ H→D'.nx σ H)→D'.rt=D.rt→D'.bk=D.bk→D'.ct=D.ct→t D' σ H) (hR:∀ σ H,R σ H→D.nx σ H):t D σ H:=h D hR rfl rfl rfl
theorem zzC {t:TS} {D:Sj} {σ:St} {H:Hp} (R:St->Hp->Prop) (h:∀ D':Sj,(∀ σ H,R σ H->D'.nx σ H)->t D' σ H) (hR:∀ M,M=D.nx->∀ σ H,R σ H->M σ H):t D σ H:=h D (hR _ rfl)
theorem zzP {p:Prop} (h:∀ q,q=p->q):p:=h p rfl
theorem zzD {t:TS} {D:Sj} {σ:St} {H:Hp} (R:St->Hp->Prop) (h:∀ D':Sj,(∀ σ H,R σ H->D'.nx σ H)->t D' σ H) (hR:∀ σ H,R σ H->D.nx σ H):t D σ H:=h D hR
theorem zS {t u:TS} {D:Sj} {σ:St} {H:Hp} (R:St->Hp->Prop) (h:∀ D':Sj,(∀ σ H,R σ H->D'.nx σ H)->t D' σ H) (hR:∀ M,M=u D->∀ σ H,R σ H->M σ H):sQ t u D σ H:=h { D with nx:=u D } (hR _ rfl)
theorem PF {te:TE} {g:TG} {D:Sj} {σ:St} {H:Hp} (v:V) (hc:∀ Q:VK,Q v H→te σ H Q) (h:g v σ H D.nx):mM te g D σ H:=hc _ h
theorem ZL {te:TE} {D:Sj} {σ:St} {H:Hp} (v:V) (hc:∀ Q:VK,Q v H→te σ H Q) (h:D.rt v H):MO te D σ H:=hc _ h
theorem Ty (x y:Str):(x ++ y).length=x.length + y.length:=by
 show (x.cps ++ y.cps).size=_;rw [Array.size_append];rfl
theorem nk.range {lo:Int} {n:Nat} {g:TG} {tb:TS} {D:Sj} {σ:St} {H:Hp} (Pv:Nat→St→Hp→Prop) (h0:Pv 0 σ H)
  (hs:∀ i σ H,i < n→Pv i σ H→g (.int (lo + i)) σ H fun σ2 H2=>tb { D with nx:=Pv (i + 1),ct:=Pv (i + 1),bk:=D.nx } σ2 H2) (hd:∀ σ H,Pv n σ H→D.nx σ H):nk (Itr lo n) g tb D σ H:=gF Pv h0 hs hd
theorem nk.list {K:PySem.W.Frag} {a:Addr} {xs:List V} {g:TG} {tb:TS} {D:Sj} {σ:St} {H:Hp} (Pv:Nat→St→Hp→Prop) (h0:Pv 0 σ H) (hl:∀ i σ H,i ≤ xs.length→Pv i σ H→SqL K H a xs)
  (hs:∀ i x σ H,xs[i]? = some x→Pv i σ H→g x σ H fun σ2 H2=>tb { D with nx:=Pv (i + 1),ct:=Pv (i + 1),bk:=D.nx } σ2 H2) (hd:∀ σ H,Pv xs.length σ H→D.nx σ H):nk (Itl K a) g tb D σ H:=uH Pv h0 hl hs hd
theorem nk.its {xs:List V} {g:TG} {tb:TS} {D:Sj} {σ:St} {H:Hp} (Pv:Nat→St→Hp→Prop) (h0:Pv 0 σ H)
  (hs:∀ i x σ H,xs[i]? = some x→Pv i σ H→g x σ H fun σ2 H2=>tb { D with nx:=Pv (i + 1),ct:=Pv (i + 1),bk:=D.nx } σ2 H2) (hd:∀ σ H,Pv xs.length σ H→D.nx σ H):nk (Its xs) g tb D σ H:=pL Pv h0 hs hd
theorem bd.list {K:PySem.W.Frag} {a:Addr} {xs:List V} {g:TG} {tc:TT} {te:TE} {σb:St} {Q:VK} {H:Hp} (Pv:Nat→List V→Hp→Prop) (hz:xs.length ≤ sizeLine) (h0:Pv 0 [] H) (hl:∀ i ys H,i ≤ xs.length→Pv i ys H→SqL K H a xs∧ys.length ≤ i)
  (hs:∀ i x ys H,xs[i]? = some x→Pv i ys H→xg Pv g tc te σb i x ys H) (hd:∀ ys H,Pv xs.length ys H→∀ p,H p=none→Q (.ref p) (upd H p (.lst ys))):bd (Itl K a) g tc te σb Q H:=eE Pv hz h0 hl hs hd
theorem bd.its {xs:List V} {g:TG} {tc:TT} {te:TE} {σb:St} {Q:VK} {H:Hp} (Pv:Nat→List V→Hp→Prop) (hz:xs.length ≤ sizeLine) (h0:Pv 0 [] H) (hl:∀ i ys H,i ≤ xs.length→Pv i ys H→ys.length ≤ i)
  (hs:∀ i x ys H,xs[i]? = some x→Pv i ys H→xg Pv g tc te σb i x ys H) (hd:∀ ys H,Pv xs.length ys H→∀ p,H p=none→Q (.ref p) (upd H p (.lst ys))):bd (Its xs) g tc te σb Q H:=RI Pv hz h0 hl hs hd
theorem bd.range {lo:Int} {n:Nat} {g:TG} {tc:TT} {te:TE} {σb:St} {Q:VK} {H:Hp} (Pv:Nat→List V→Hp→Prop) (hz:n ≤ sizeLine) (h0:Pv 0 [] H) (hl:∀ i ys H,i ≤ n→Pv i ys H→ys.length ≤ i)
  (hs:∀ i ys H,i < n→Pv i ys H→xg Pv g tc te σb i (.int (lo + i)) ys H) (hd:∀ ys H,Pv n ys H→∀ p,H p=none→Q (.ref p) (upd H p (.lst ys))):bd (Itr lo n) g tc te σb Q H:=nC Pv hz h0 hl hs hd
theorem Dn {α β:Type} {xs:List α} {i:Nat} {x:α} (f:α→β) (h:xs[i]? = some x):(xs.take (i + 1)).map f=(xs.take i).map f ++ [f x]:=by
 rw [List.take_add_one,h,List.map_append];rfl
theorem bd.its_map {xs:List V} {g:TG} {te:TE} {σb:St} {Q:VK} {H:Hp} (f:V→V) (hz:xs.length ≤ sizeLine) (hs:∀ (i:Nat) (x:V) (N:V→Hp→Prop),xs[i]? = some x→N (f x) H→g x σb H fun σ2 H2=>Sub σb σ2∧te σ2 H2 N)
  (hd:∀ p,H p=none→Q (.ref p) (upd H p (.lst (xs.map f)))):bd (Its xs) g Dw te σb Q H:=by
 refine bd.its (fun i ys H'=>H'=H∧ys=(xs.take i).map f) hz ⟨rfl,rfl⟩ (fun i ys H' hi ⟨_,e⟩=>?_) (fun i x ys H' hx ⟨e1,e2⟩ N hN=>?_) (fun ys H' ⟨e1,e2⟩ p hp=>?_)
 ·rw [e,List.length_map,List.length_take];omega
 ·subst e1;exact hs i x (fun y H4=>N (ys ++ [y]) H4) hx (hN _ _ ⟨rfl,by rw [e2,Dn f hx]⟩)
 ·subst e1;rw [e2,List.take_length];exact hd p hp
theorem bd.list_map {K:PySem.W.Frag} {a:Addr} {xs:List V} {g:TG} {te:TE} {σb:St} {Q:VK} {H:Hp} (f:V→V) (hl:SqL K H a xs) (hz:xs.length ≤ sizeLine) (hs:∀ (i:Nat) (x:V) (N:V→Hp→Prop),xs[i]? = some x→N (f x) H→g x σb H fun σ2 H2=>Sub σb σ2∧te σ2 H2 N)
  (hd:∀ p,H p=none→Q (.ref p) (upd H p (.lst (xs.map f)))):bd (Itl K a) g Dw te σb Q H:=by
 refine bd.list (fun i ys H'=>H'=H∧ys=(xs.take i).map f) hz ⟨rfl,rfl⟩ (fun i ys H' hi ⟨e0,e⟩=>?_) (fun i x ys H' hx ⟨e1,e2⟩ N hN=>?_) (fun ys H' ⟨e1,e2⟩ p hp=>?_)
 ·subst e0;exact ⟨hl,by rw [e,List.length_map,List.length_take];omega⟩
 ·subst e1;exact hs i x (fun y H4=>N (ys ++ [y]) H4) hx (hN _ _ ⟨rfl,by rw [e2,Dn f hx]⟩)
 ·subst e1;rw [e2,List.take_length];exact hd p hp
theorem bd.range_map {lo:Int} {n:Nat} {g:TG} {te:TE} {σb:St} {Q:VK} {H:Hp} (f:Nat→V) (hz:n ≤ sizeLine) (hs:∀ (i:Nat) (N:V→Hp→Prop),i < n→N (f i) H→g (.int (lo + i)) σb H fun σ2 H2=>Sub σb σ2∧te σ2 H2 N)
  (hd:∀ p,H p=none→Q (.ref p) (upd H p (.lst ((List.range n).map f)))):bd (Itr lo n) g Dw te σb Q H:=by
 refine bd.range (fun i ys H'=>H'=H∧ys=(List.range i).map f) hz ⟨rfl,rfl⟩ (fun i ys H' hi ⟨_,e⟩=>?_) (fun i ys H' hi ⟨e1,e2⟩ N hN=>?_) (fun ys H' ⟨e1,e2⟩ p hp=>?_)
 ·rw [e,List.length_map,List.length_range];exact Nat.le_refl _
 ·subst e1;exact hs i (fun y H4=>N (ys ++ [y]) H4) hi (hN _ _ ⟨rfl,by rw [e2,List.range_succ,List.map_append];rfl⟩)
 ·subst e1;rw [e2];exact hd p hp
theorem bd.list_mk {K:PySem.W.Frag} {a:Addr} {xs:List V} {g:TG} {te:TE} {σb:St} {Q:VK} {H:Hp} (f:V→HO) (hl:SqL K H a xs) (hz:xs.length ≤ sizeLine) (hn:∀ x,noT (f x)=true)
  (hs:∀ (i:Nat) (x:V) (H1:Hp) (N:V→Hp→Prop),xs[i]? = some x→Sb H H1→(NoT H→NoT H1)→(∀ q,H1 q=none→N (.ref q) (upd H1 q (f x)))→g x σb H1 fun σ2 H2=>Sub σb σ2∧te σ2 H2 N)
  (hd:∀ (qs:List Addr) (H1:Hp),Sb H H1→(NoT H→NoT H1)→qs.length=xs.length→(∀ (j:Nat) (q:Addr) (x:V),qs[j]? = some q→xs[j]? = some x→H1 q=some (f x)∧H q=none)→∀ p,H1 p=none→Q (.ref p) (upd H1 p (.lst (qs.map V.ref)))):bd (Itl K a) g Dw te σb Q H:=by
 refine bd.list (fun i ys H'=>∃ qs:List Addr,ys=qs.map V.ref∧qs.length=i∧Sb H H'∧(NoT H→NoT H')∧∀ (j:Nat) (q:Addr) (x:V),qs[j]? = some q→xs[j]? = some x→H' q=some (f x)∧H q=none) hz
  ⟨[],rfl,rfl,Sb.refl H,id,fun j q x h _=>by simp at h⟩ ?_ ?_ ?_
 ·rintro i ys H' hi zzq;refine zzP fun zzM zzh=>?_
  obtain ⟨qs,e,e2,sm,_,_⟩:=zzq;subst zzh;exact ⟨hl.same sm,by rw [e,List.length_map];omega⟩
 ·rintro i x ys H' hx ⟨qs,e1,e2,sm,nt,al⟩ N hN;refine hs i x H' (fun y H4=>N (ys ++ [y]) H4) hx sm nt fun q hq=>hN _ _ ⟨qs ++ [q],by rw [e1,List.map_append];rfl,by rw [List.length_append,e2];rfl,sm.updN (sm.free hq),fun n=>(nt n).upd (hn x),fun j q' x' h1 h2=>?_⟩
  by_cases hj:j < qs.length
  ·rw [List.getElem?_append_left hj] at h1;obtain ⟨z1,z2⟩:=al j q' x' h1 h2;exact ⟨by rw [Eb (Nb z1 hq)];exact z1,z2⟩
  ·rw [List.getElem?_append_right (by omega)] at h1;have hj0:j - qs.length=0:=by
    cases hh:j - qs.length with
    | zero=>rfl
    | succ n=>rw [hh] at h1;simp at h1
   rw [hj0] at h1;have e3:q=q':=by simpa using h1
   subst e3;have e4:j=i:=by omega
   subst e4;rw [hx] at h2;cases h2;exact ⟨ib,sm.free hq⟩
 ·rintro ys H' ⟨qs,e1,e2,sm,nt,al⟩ p hp;subst e1;exact hd qs H' sm nt e2 al p hp
theorem nk.of {J:It} {n:Nat} {g:TG} {tb:TS} {D:Sj} {σ:St} {H:Hp} (Pv:Nat→St→Hp→Prop) (h0:Pv 0 σ H) (hgo:∀ i σ H,i < n→Pv i σ H→J.go i H) (hst:∀ σ H,Pv n σ H→J.stop n H)
  (hs:∀ i σ H x H',i < n→Pv i σ H→J.yld i H x H'→g x σ H' fun σ2 H2=>tb { D with nx:=Pv (i + 1),ct:=Pv (i + 1),bk:=D.nx } σ2 H2) (hd:∀ σ H,Pv n σ H→D.nx σ H):nk J g tb D σ H:=by
 refine ⟨fun i m σ H=>m=n - i∧i ≤ n∧Pv i σ H,⟨n,by simp,Nat.zero_le _,h0⟩,?_⟩;rintro i m σ H ⟨rfl,hi,p⟩;by_cases hlt:i < n
 ·exact .inr ⟨hgo i σ H hlt p,Pv (i + 1),fun σ' H' p'=>⟨n - (i + 1),by omega,rfl,hlt,p'⟩,fun x H' y=>hs i σ H x H' hlt p y⟩
 ·have e:i=n:=by omega
  subst e;exact .inl ⟨hst σ H p,hd σ H p⟩
theorem bd.of {J:It} {n:Nat} {g:TG} {tc:TT} {te:TE} {σb:St} {Q:VK} {H:Hp} (Pv:Nat→List V→Hp→Prop) (hz:n ≤ sizeLine) (h0:Pv 0 [] H) (hgo:∀ i ys H,i < n→Pv i ys H→J.go i H) (hst:∀ ys H,Pv n ys H→J.stop n H) (hl:∀ i ys H,i < n→Pv i ys H→ys.length ≤ i)
  (hs:∀ i ys H x H',i < n→Pv i ys H→J.yld i H x H'→xg Pv g tc te σb i x ys H') (hd:∀ ys H,Pv n ys H→∀ p,H p=none→Q (.ref p) (upd H p (.lst ys))):bd J g tc te σb Q H:=by
 refine ⟨fun i m ys H=>m=n - i∧i ≤ n∧Pv i ys H,⟨n,by simp,Nat.zero_le _,h0⟩,?_⟩;rintro i m ys H ⟨rfl,hi,p⟩;by_cases hlt:i < n
 ·have hyl:=hl i ys H hlt p;refine .inr ⟨hgo i ys H hlt p,by omega,fun x H' y=>?_⟩;exact hs i ys H x H' hlt p y (fun ys' H'=>∃ m',m' < n - i∧m'=n - (i + 1)∧i + 1 ≤ n∧Pv (i + 1) ys' H') fun ys' H' r=>⟨n - (i + 1),by omega,rfl,hlt,r⟩
 ·have e:i=n:=by omega
  subst e;exact .inl ⟨hst ys H p,hd ys H p⟩
section
variable {K:PySem.W.Frag} {a b:Addr} {xs ys:List V} {g:TG} {tb:TS} {D:Sj} {σ σb:St} {H:Hp} {tc:TT} {te:TE} {Q:VK}
theorem nk.enum (Pv:Nat→St→Hp→Prop) (h0:Pv 0 σ H) (hl:∀ i σ H,i ≤ xs.length→Pv i σ H→SqL K H a xs)
  (hs:∀ i x σ H p,xs[i]? = some x→Pv i σ H→H p=none→g (.ref p) σ (upd H p (.tup [.int i,x])) fun σ2 H2=>tb { D with nx:=Pv (i + 1),ct:=Pv (i + 1),bk:=D.nx } σ2 H2) (hd:∀ σ H,Pv xs.length σ H→D.nx σ H):nk (Ite K a) g tb D σ H:=by
 refine nk.of (n:=xs.length) Pv h0 (fun i σ H hi p=>⟨xs,xs[i],hl i σ H (Nat.le_of_lt hi) p,by simp [hi]⟩) (fun σ H p=>⟨xs,hl _ σ H (Nat.le_refl _) p,Nat.le_refl _⟩) (fun i σ H v H' hi p y=>?_) hd;obtain ⟨q,x,hq,rfl,hx,rfl⟩:=y;exact hs i x σ H q (hx xs (hl i σ H (Nat.le_of_lt hi) p)) p hq
theorem nk.zip (Pv:Nat→St→Hp→Prop) (h0:Pv 0 σ H) (hl:∀ i σ H,i ≤ xs.length→Pv i σ H→SqL K H a xs∧SqL K H b ys) (n:Nat) (hn:n=min xs.length ys.length)
  (hs:∀ i x y σ H p,xs[i]? = some x→ys[i]? = some y→Pv i σ H→H p=none→g (.ref p) σ (upd H p (.tup [x,y])) fun σ2 H2=>tb { D with nx:=Pv (i + 1),ct:=Pv (i + 1),bk:=D.nx } σ2 H2) (hd:∀ σ H,Pv n σ H→D.nx σ H):nk (Itz K a b) g tb D σ H:=by
 subst hn;refine nk.of (n:=min xs.length ys.length) Pv h0 (fun i σ H hi p=>?_) (fun σ H p=>?_) (fun i σ H v H' hi p y=>?_) hd
 ·obtain ⟨z1,z2⟩:=hl i σ H (by omega) p;exact ⟨xs,ys,xs[i],ys[i],z1,z2,by rw [List.getElem?_eq_getElem (by omega)],by rw [List.getElem?_eq_getElem (by omega)]⟩
 ·obtain ⟨z1,z2⟩:=hl _ σ H (by omega) p;exact ⟨xs,ys,z1,z2,by omega⟩
 ·obtain ⟨q,x,y,hq,rfl,hx,hy,rfl⟩:=y;obtain ⟨z1,z2⟩:=hl i σ H (by omega) p;exact hs i x y σ H q (hx xs z1) (hy ys z2) p hq
theorem bd.enum (Pv:Nat→List V→Hp→Prop) (hz:xs.length ≤ sizeLine) (h0:Pv 0 [] H) (hl:∀ i ys H,i ≤ xs.length→Pv i ys H→SqL K H a xs∧ys.length ≤ i)
  (hs:∀ i x ys H p,xs[i]? = some x→Pv i ys H→H p=none→xg Pv g tc te σb i (.ref p) ys (upd H p (.tup [.int i,x]))) (hd:∀ ys H,Pv xs.length ys H→∀ p,H p=none→Q (.ref p) (upd H p (.lst ys))):bd (Ite K a) g tc te σb Q H:=by
 refine bd.of (n:=xs.length) Pv hz h0 (fun i ys H hi p=>⟨xs,xs[i],(hl i ys H (Nat.le_of_lt hi) p).1,by simp [hi]⟩) (fun ys H p=>⟨xs,(hl _ ys H (Nat.le_refl _) p).1,Nat.le_refl _⟩) (fun i ys H hi p=>(hl i ys H (Nat.le_of_lt hi) p).2) (fun i zs H v H' hi p y=>?_) hd;obtain ⟨q,x,hq,rfl,hx,rfl⟩:=y;exact hs i x zs H q (hx xs (hl i zs H (Nat.le_of_lt hi) p).1) p hq
theorem Qm {i j:Nat} {p:Addr} {x y:V} {R:St→Hp→Prop} (h:SqT K H p [x,y]) (q:R ((σ.set i (some x)).set j (some y)) H):qM K 2 (jC (ms i) (jC (ms j) CO)) (.ref p) σ H R:=
 ⟨p,_,rfl,h,rfl,x,_,rfl,y,_,rfl,rfl,q⟩
theorem uh {i j:Nat} {p:Addr} {x y:V} {R:St→Hp→Prop} (q:R ((σ.set i (some x)).set j (some y)) (upd H p (.tup [x,y]))):qM K 2 (jC (ms i) (jC (ms j) CO)) (.ref p) σ (upd H p (.tup [x,y])) R:=
 Qm (.inl (.inl ib)) q
end
theorem Sub.name2 {r:St} {v w:Option V}:Sub (none :: none :: r) (v :: w :: r):=by
 refine ⟨rfl,fun i u h=>?_⟩
 match i with
 | 0=>cases h
 | 1=>cases h
 | i + 2=>exact h
theorem bd.list_zs {K:PySem.W.Frag} {a:Addr} {xs zs:List V} {g:TG} {te:TE} {σb:St} {Q:VK} {H:Hp} (hl:SqL K H a xs) (hz:xs.length ≤ sizeLine) (he:zs.length=xs.length)
  (hs:∀ (i:Nat) (x z:V) (N:V→Hp→Prop),xs[i]? = some x→zs[i]? = some z→N z H→g x σb H fun σ2 H2=>Sub σb σ2∧te σ2 H2 N) (hd:∀ p,H p=none→Q (.ref p) (upd H p (.lst zs))):bd (Itl K a) g Dw te σb Q H:=by
 refine bd.list (fun i ys H'=>H'=H∧ys=zs.take i) hz ⟨rfl,rfl⟩ (fun i ys H' hi ⟨e0,e⟩=>?_) (fun i x ys H' hx ⟨e1,e2⟩ N hN=>?_) (fun ys H' ⟨e1,e2⟩ p hp=>?_)
 ·subst e0;exact ⟨hl,by rw [e,List.length_take];omega⟩
 ·subst e1;have hi:i < zs.length:=by rw [he];exact (List.getElem?_eq_some_iff.mp hx).1
  have hz':zs[i]? = some zs[i]:=List.getElem?_eq_getElem hi;exact hs i x zs[i] (fun y H4=>N (ys ++ [y]) H4) hx hz' (hN _ _ ⟨rfl,by rw [e2,List.take_add_one,hz'];rfl⟩)
 ·subst e1;rw [e2,← he,List.take_length];exact hd p hp
theorem bd.tup_zs {K:PySem.W.Frag} {a:Addr} {xs zs:List V} {g:TG} {te:TE} {σb:St} {Q:VK} {H:Hp} (hl:SqT K H a xs) (hz:xs.length ≤ sizeLine) (he:zs.length=xs.length)
  (hs:∀ (i:Nat) (x z:V) (N:V→Hp→Prop),xs[i]? = some x→zs[i]? = some z→N z H→g x σb H fun σ2 H2=>Sub σb σ2∧te σ2 H2 N) (hd:∀ p,H p=none→Q (.ref p) (upd H p (.lst zs))):bd (Itt K a) g Dw te σb Q H:=by
 refine LI (xs:=xs) (fun i ys H'=>H'=H∧ys=zs.take i) hz ⟨rfl,rfl⟩ (fun i ys H' hi ⟨e0,e⟩=>?_) (fun i x ys H' hx ⟨e1,e2⟩ N hN=>?_) (fun ys H' ⟨e1,e2⟩ p hp=>?_)
 ·subst e0;exact ⟨hl,by rw [e,List.length_take];omega⟩
 ·subst e1;have hi:i < zs.length:=by rw [he];exact (List.getElem?_eq_some_iff.mp hx).1
  have hz':zs[i]? = some zs[i]:=List.getElem?_eq_getElem hi;exact hs i x zs[i] (fun y H4=>N (ys ++ [y]) H4) hx hz' (hN _ _ ⟨rfl,by rw [e2,List.take_add_one,hz'];rfl⟩)
 ·subst e1;rw [e2,← he,List.take_length];exact hd p hp
theorem Sub.name {r:St} {v:Option V}:Sub (none :: r) (v :: r):=by
 refine ⟨rfl,fun i w h=>?_⟩;cases i with
 | zero=>cases h
 | succ i=>exact h
end L2
namespace L2
open PySem PySem.Spec PyProof.Rows
theorem yb {X:Cx} {i:Nat} {x:Str} {e:Expr} {te:TE} {pos pos':Pos} (hN:X.N.Nodup) (he:PE X e te) (hi:X.N[i]? = some x:=by rfl) (hx:Loc X.env.scope x:=by exact Or.inl rfl) (hs:swapsWith e (some (.Name x pos')) pos.line X.env=pure false:=by rfl) (hf:X.fn x=true∨X.env.scope.names.lookup x=some .local:=by first | exact .inl rfl | exact .inr rfl | assumption):PS X (.Assign [.Name x pos'] e pos) (mM te (ms i)):=nG hN hi hx he hs hf
theorem Ib {X:Cx} {pos:Pos} {i:Nat} {x:Str} (hN:X.N.Nodup) (hi:X.N[i]? = some x:=by rfl) (hx:Loc X.env.scope x:=by exact Or.inl rfl) (hf:X.fn x=true∨X.env.scope.names.lookup x=some .local:=by first | exact .inl rfl | exact .inr rfl | assumption):PG X (.Name x pos) (ms i):=bz hN hi hx hf
theorem Ab {X:Cx} {a b:Expr} {ta tb:TE} {pos:Pos} {r:R2} (hr:IxR X r) (ha:PE X a ta) (hb:PE X b tb) (hs:vE b:=by exact fun _ _=>rfl):PE X (.Subscript a b pos) (tOp r ta tb):=LO hr ha hb hs
theorem qb {X:Cx} {k:Nat} {f:Addr} {fd:FuncData} {ps:List Str} {sp:Sp} {x:Str} {p pos:Pos} {e:Expr} {es:List Expr} {t:TA} (F:Ub X.prog X.w X.K X.mg X.base CX0 k f fd ps sp) (hr:pk k X.A) (hm:X.mg x=some (.ref f)) (hk:PySem.W.keepIn X.K (.ref f)=true) (hb:gc X.K fd ps []) (ha:PA X (e :: es) t) (hg:Gl X x:=by rfl) (hdb:(x == ("__debug__" : Str))=false:=by decide) (he:starEach (e :: es) X.env=(false,eval e X.env) :: starEach es X.env:=by rfl) (hpl:(backTo pos (starEach es X.env)).any (·.1)=false:=by rfl):PE X (.Call (.Name x p) (e :: es) [] pos) (zI sp [] E0 t):=wL F hr hg hm hk hb .nil Ce ha hdb he hpl
end L2
local macro_rules | `(tactic| walk_at "RD")=>`(tactic| ((try dsimp only [L2.fM,L2.rP,L2.Cx.nox,L2.Cx.wish,L2.Cx.block,L2.Cx.tr,L2.Cx.hn,L2.GF,L2.aN,L2.IM,L2.ID,L2.mJ,L2.sE,L2.qz,L2.RE,L2.wJ,L2.Xb,L2.xb,L2.UA,L2.UF,L2.Aw,L2.Rf,L2.LG,L2.fB,L2.iG,L2.dD,L2.cD,L2.aE,L2.UG,L2.cA,L2.ND,L2.cK,L2.cJ,L2.xN,L2.PJ,L2.CN,L2.dJ,L2.YJ,L2.EB,L2.bE,L2.EE,L2.wt,L2.kF,L2.bG,L2.xz,L2.aF,L2.FF,L2.FA,L2.kB,L2.jA,L2.EJ,L2.zu,L2.pz,L2.xJ,L2.oE,L2.Qz,L2.SF,L2.oG,L2.FD,L2.kA,L2.AG,L2.eK,L2.lG,L2.QJ,L2.Kt,L2.ju,L2.uq,L2.RD,L2.AA,L2.Dt,L2.mz,L2.Zv,L2.Iw,L2.Dz,L2.eD,L2.JE,L2.Nz,L2.yw,L2.jw,L2.oA,L2.tD,L2.dF,L2.Cz,L2.mB,L2.nE,L2.Rt,L2.Lz,L2.uA,L2.wG,L2.VG,L2.Zz,L2.vA,L2.CB,L2.fG,L2.mD,L2.ww,L2.Vz,L2.WJ,L2.LA,L2.lB,L2.start,L2.JD,L2.KO,L2.NO,L2.kP,L2.fP,L2.JO,L2.QO,L2.YO,L2.jP,L2.oP,L2.gP,L2.dBn,L2.dBs,L2.dJs,L2.dJn,Nat.reduceAdd,Nat.reduceSub,List.replicate]);(try simp only [L2.GF,L2.aN,L2.IM,L2.ID,L2.mJ,L2.sE,L2.qz,L2.RE,L2.wJ,L2.Xb,L2.xb,L2.UA,L2.UF,L2.Aw,L2.Rf,L2.LG,L2.fB,L2.iG,L2.dD,L2.cD,L2.aE,L2.UG,L2.cA,L2.ND,L2.cK,L2.cJ,L2.xN,L2.PJ,L2.CN,L2.dJ,L2.YJ,L2.EB,L2.bE,L2.EE,L2.wt,L2.kF,L2.bG,L2.xz,L2.aF,L2.FF,L2.FA,L2.kB,L2.jA,L2.EJ,L2.zu,L2.pz,L2.xJ,L2.oE,L2.Qz,L2.SF,L2.oG,L2.FD,L2.kA,L2.AG,L2.eK,L2.lG,L2.QJ,L2.Kt,L2.ju,L2.uq,L2.RD,L2.AA,L2.Dt,L2.mz,L2.Zv,L2.Iw,L2.Dz,L2.eD,L2.JE,L2.Nz,L2.yw,L2.jw,L2.oA,L2.tD,L2.dF,L2.Cz,L2.mB,L2.nE,L2.Rt,L2.Lz,L2.uA,L2.wG,L2.VG,L2.Zz,L2.vA,L2.CB,L2.fG,L2.mD,L2.ww,L2.Vz,L2.WJ,L2.LA,L2.lB,L2.SL,L2.YL,L2.oN,L2.wK,L2.IK,L2.start,L2.JD,List.map_cons,List.map_nil,Option.bind_none,Option.bind_some,Option.join_some,Option.join_none,List.length_cons,List.length_nil,Nat.reduceAdd,Nat.reduceSub,Nat.zero_add,List.replicate,List.cons_append,List.nil_append,List.append_nil,List.set_cons_zero,List.set_cons_succ,List.getElem?_cons_zero,List.getElem?_cons_succ,Option.some.injEq,L2.V.int.injEq,L2.V.bl.injEq,L2.V.str.injEq,L2.V.ref.injEq,L2.V.ty.injEq,exists_eq_left',exists_eq_left,exists_and_left,List.cons.injEq,and_true,true_and,and_assoc,Int.zero_add,reduceCtorEq,false_and,exists_false,and_false,ite_true,ite_false,if_true,if_false,Bool.false_eq_true,L2.CM,L2.tyV,false_or,or_false,Bool.not_true,Bool.not_false,decide_true,decide_false])))
local macro_rules | `(tactic| walk_at "B")=>`(tactic| first | rfl | (dsimp only [L2.Cx.block];done) | (dsimp only [L2.Cx.block];exact rfl))
local macro_rules | `(tactic| walk_at "F")=>`(tactic| exact ⟨rfl,rfl,rfl,by decide +kernel,rfl,by decide +kernel,by decide +kernel⟩)
namespace My
open PySem L2
noncomputable abbrev q5:List Str:=["self","name","start","end","off","near","least"]
noncomputable abbrev q8:List Str:=["order","one","other"]
noncomputable abbrev q9:List Str:=["self","name"]
noncomputable abbrev q10:List Str:=["wanted","size","order","paper"]
noncomputable abbrev q11:List Str:=["_law_script","_law_k","_law_many"]
noncomputable abbrev q12:List Str:=["crossing","one","other"]
noncomputable abbrev q13:List Str:=["word","signs","most"]
noncomputable abbrev q14:List Str:=["_law_script"]
noncomputable abbrev q15:List Str:=["_law_wanted_here","_law_i","_law_j","_law_places_here"]
noncomputable abbrev q16:List Str:=["self","good"]
noncomputable abbrev q17:List Str:=["self","kind","name","start","end","off","near","least"]
noncomputable abbrev q18:List Str:=["wanted","size","order","one","other"]
noncomputable abbrev q19:List Str:=["wanted","size","order","ring"]
noncomputable abbrev q20:List Str:=["wanted","size","rings","order"]
noncomputable abbrev q21:List Str:=["_law_wanted_here","_law_places_here"]
noncomputable abbrev q22:List Str:=["_law_wanted_here","_law_places_here","_law_size","_law_paper_here","_law_ahead_here"]
noncomputable abbrev q23:List Str:=["_law_script","_law_k","_law_many","_law_deep"]
noncomputable abbrev q24:List Str:=["_law_script","_law_paper_here","_law_k"]
noncomputable abbrev q25:List Str:=["self","low","high"]
noncomputable abbrev q26:List Str:=["places","way","second"]
noncomputable abbrev q27:List Str:=["word","most_figures"]
noncomputable abbrev q28:List Str:=["reader","places","start"]
noncomputable abbrev q29:List Str:=["sort","name","start","end","off","near","least"]
noncomputable abbrev q30:List Str:=["_law_way","_law_turns"]
noncomputable abbrev q31:List Str:=["_law_wanted_here","_law_places_here","_law_size","_law_ring","_law_ahead_here"]
noncomputable abbrev q32:List Str:=["self","crossing","wants"]
noncomputable abbrev q33:List Str:=["self","row","told"]
noncomputable abbrev q34:List Str:=["self","choices"]
noncomputable abbrev q35:List Str:=["places","way","place"]
noncomputable abbrev q36:List Str:=["crossing","wants","size","paper"]
noncomputable abbrev q37:List Str:=["word","low","high"]
noncomputable abbrev q38:List Str:=["reader","ways"]
noncomputable abbrev q39:List Str:=["reader","places","ways"]
noncomputable abbrev q40:List Str:=["wanted","paths"]
noncomputable abbrev q41:List Str:=["wanted","order"]
noncomputable abbrev q42:List Str:=["wanted","size","order"]
noncomputable abbrev q43:List Str:=["wanted","size","rings"]
noncomputable abbrev q44:List Str:=["crossing","wants"]
noncomputable abbrev q45:List Str:=["_law_script","_law_many"]
noncomputable abbrev q46:List Str:=["_law_script","_law_many","_law_places_here"]
noncomputable abbrev q47:List Str:=["_law_places_here","_law_ways_here"]
noncomputable abbrev q48:List Str:=["_law_one","_law_other","_law_places_here"]
noncomputable abbrev q49:List Str:=["_law_script","_law_ways_here"]
noncomputable abbrev q50:List Str:=["_law_crossing","_law_wanted_here","_law_places_here","_law_size","_law_paper_here"]
noncomputable abbrev q51:List Str:=["self","places","ways"]
noncomputable abbrev q53:List Str:=["wanted","paths","found","path","nearby"]
noncomputable abbrev q54:List Str:=["wanted","found","paths"]
noncomputable abbrev q55:List Str:=["wanted","size","order","begins","want","one","other"]
noncomputable abbrev q56:List Str:=["_law_script","_law_k","_law_many","_law_deep","_law_way","_law_i","_law_j","_law_one","_law_ring","_law_first"]
noncomputable abbrev q57:List Str:=["self","crossing","wants","ways","one","want","other","second"]
noncomputable abbrev q59:List Str:=["name","turns","crossing"]
noncomputable def top (i:Nat):Stmt:=PySem.Challenge.pw_lampway_k61_papers_read.main.body.getD i (.Pass ⟨0,0,0,0⟩)
noncomputable abbrev wB:Stmt:=top 2
theorem ix:Gb ["places","way","place","steps"] q35 (ub wB):=(by walk_at "F")
noncomputable abbrev Zo:Stmt:=top 3
theorem Mu:Gb q26 q26 (ub Zo):=(by walk_at "F")
noncomputable abbrev IJ:Stmt:=top 4
theorem Ly:Gb ["crossing","one","other","way","second"] q12 (ub IJ):=(by walk_at "F")
noncomputable abbrev bN:Stmt:=top 5
theorem rG:Gb ["crossing","one","other","way","second"] q12 (ub bN):=(by walk_at "F")
noncomputable abbrev Qj:Stmt:=top 9
theorem dg:Gb ["wanted","order","other"] ["wanted"] (ub Qj):=(by walk_at "F")
noncomputable abbrev Gk:Stmt:=top 10
theorem Lp:Gb q8 q8 (ub Gk):=(by walk_at "F")
noncomputable abbrev Bp:Stmt:=top 11
theorem Kn:Gb ["order","one","other","more"] q8 (ub Bp):=(by walk_at "F")
noncomputable abbrev rk:Stmt:=top 12
theorem ck:Gb ["wanted","size","order","one","other","step"] q18 (ub rk):=(by walk_at "F")
noncomputable abbrev Cp:Stmt:=top 13
theorem Xe:Gb ["wanted","size","order","ring","total","place","one","other"] q19 (ub Cp):=(by walk_at "F")
noncomputable abbrev lp:Stmt:=top 14
theorem Wn:Gb ["wanted","size","order","paper","one","other"] q10 (ub lp):=(by walk_at "F")
noncomputable abbrev Tn:Stmt:=top 15
theorem mm:Gb q10 q10 (ub Tn):=(by walk_at "F")
noncomputable abbrev tG:Stmt:=top 16
theorem zA:Gb ["crossing","wants","size","paper","wanted"] q36 (ub tG):=(by walk_at "F")
noncomputable abbrev Dy:Stmt:=top 26
theorem XH:Gb ["text"] ["text"] (ub Dy):=(by walk_at "F")
noncomputable abbrev Ck:Stmt:=top 27
theorem Lu:Gb q13 q13 (ub Ck):=(by walk_at "F")
noncomputable abbrev Jq:Stmt:=top 28
theorem Sw:Gb q27 q27 (ub Jq):=(by walk_at "F")
noncomputable abbrev Rw:Stmt:=top 29
theorem Ot:Gb ["word","low","high","number"] q37 (ub Rw):=(by walk_at "F")
noncomputable abbrev iw:Stmt:=top 30
theorem XC:Gb ["word"] ["word"] (ub iw):=(by walk_at "F")
noncomputable abbrev Ur:Stmt:=top 33
theorem LB:Gb ["text"] ["text"] (ub Ur):=(by walk_at "F")
noncomputable abbrev jr:Stmt:=top 47
theorem bp:Gb ["reader","places"] ["reader"] (ub jr):=(by walk_at "F")
noncomputable abbrev rh:Stmt:=top 48
theorem Xj:Gb ["reader","ways","name"] q38 (ub rh):=(by walk_at "F")
noncomputable abbrev At:Stmt:=top 49
theorem Cy:Gb q28 q28 (ub At):=(by walk_at "F")
noncomputable abbrev xu:Stmt:=top 50
theorem Ux:Gb q29 q29 (ub xu):=(by walk_at "F")
noncomputable abbrev iu:Stmt:=top 51
theorem Ie:Gb ["reader","places","ways","sort","name","start","end","off","near","least"] q39 (ub iu):=(by walk_at "F")
noncomputable abbrev Xk:Stmt:=top 52
theorem pe:Gb ["text","rows","places","ways","reader"] ["text"] (ub Xk):=(by walk_at "F")
noncomputable abbrev Hd:Stmt:=top 54
theorem vd:Gb q53 q40 (ub Hd):=(by walk_at "F")
noncomputable abbrev Jl:Stmt:=top 55
theorem Fj:Gb q54 ["wanted"] (ub Jl):=(by walk_at "F")
noncomputable abbrev Ug:Stmt:=top 56
theorem Fe:Gb ["wanted","order","one","other"] q41 (ub Ug):=(by walk_at "F")
noncomputable abbrev Ue:Stmt:=top 57
theorem Dd:Gb q55 q42 (ub Ue):=(by walk_at "F")
noncomputable abbrev zw:Stmt:=top 58
theorem Ae:Gb ["wanted","size","rings","order","ring","pair","one","other","begins","paper","second"] q20 (ub zw):=(by walk_at "F")
noncomputable abbrev ko:Stmt:=top 59
theorem Ki:Gb ["wanted","size","rings","want","turns"] q43 (ub ko):=(by walk_at "F")
noncomputable abbrev vj:Stmt:=top 60
theorem zg:Gb ["wanted","total","want"] ["wanted"] (ub vj):=(by walk_at "F")
noncomputable abbrev Qt:Stmt:=top 61
theorem Ec:Gb ["crossing","wants","wanted","rings","low","high","paper","begins","size","found","no_begins"] q44 (ub Qt):=(by walk_at "F")
noncomputable abbrev Gr:Stmt:=top 63
theorem Hk:Gb ["_law_script","_law_k","_law_many","_law_cell","_law_seed"] q11 (ub Gr):=(by walk_at "F")
noncomputable abbrev vn:Stmt:=top 64
theorem Os:Gb q14 q14 (ub vn):=(by walk_at "F")
noncomputable abbrev Vk:Stmt:=top 65
theorem Dc:Gb ["_law_script","_law_many","_law_letters","_law_word","_law_size","_law_at","_law_first","_law_some","_law_k","_law_name","_law_sign"] q45 (ub Vk):=(by walk_at "F")
noncomputable abbrev Tr:Stmt:=top 66
theorem yc:Gb ["_law_script","_law_many","_law_places_here","_law_names_here","_law_one_end","_law_ways_here","_law_k","_law_start","_law_end","_law_off","_law_near","_law_sort","_law_least"] q46 (ub Tr):=(by walk_at "F")
noncomputable abbrev Im:Stmt:=top 67
theorem uk:Gb ["_law_places_here","_law_ways_here","_law_rows","_law_way"] q47 (ub Im):=(by walk_at "F")
noncomputable abbrev Xn:Stmt:=top 68
theorem Gi:Gb ["_law_one","_law_other","_law_places_here","_law_far","_law_is_in"] q48 (ub Xn):=(by walk_at "F")
noncomputable abbrev Tm:Stmt:=top 69
theorem md:Gb ["_law_script","_law_ways_here","_law_many","_law_first","_law_wanted_here","_law_k","_law_turns"] q49 (ub Tm):=(by walk_at "F")
noncomputable abbrev Xo:Stmt:=top 70
theorem wv:Gb q30 q30 (ub Xo):=(by walk_at "F")
noncomputable abbrev Sm:Stmt:=top 71
theorem Ps:Gb q15 q15 (ub Sm):=(by walk_at "F")
noncomputable abbrev ml:Stmt:=top 72
theorem fv:Gb q21 q21 (ub ml):=(by walk_at "F")
noncomputable abbrev Qi:Stmt:=top 73
theorem zc:Gb ["_law_wanted_here","_law_places_here","_law_size","_law_ring","_law_ahead_here","_law_total","_law_rounds","_law_k","_law_i","_law_j"] q31 (ub Qi):=(by walk_at "F")
noncomputable abbrev Wo:Stmt:=top 74
theorem ah:Gb ["_law_wanted_here","_law_places_here","_law_size","_law_paper_here","_law_ahead_here","_law_i","_law_j"] q22 (ub Wo):=(by walk_at "F")
noncomputable abbrev Zh:Stmt:=top 75
theorem ld:Gb q56 q23 (ub Zh):=(by walk_at "F")
noncomputable abbrev cm:Stmt:=top 76
theorem Vd:Gb ["_law_script","_law_paper_here","_law_k","_law_way","_law_some","_law_ring","_law_cut_ring"] q24 (ub cm):=(by walk_at "F")
noncomputable abbrev Ji:Stmt:=top 77
theorem Sf:Gb ["_law_crossing","_law_wanted_here","_law_places_here","_law_size","_law_paper_here","_law_wants","_law_found","_law_due"] q50 (ub Ji):=(by walk_at "F")
noncomputable abbrev qL:Stmt:=top 78
theorem xl:Gb ["_law_script","_law_places_here","_law_ways_here","_law_crossing","_law_wanted_here","_law_size","_law_k","_law_paper_here","_law_told","_law_some","_law_spoiled_here"] q14 (ub qL):=(by walk_at "F")
noncomputable abbrev eh:Stmt:=Ad (top 7) 0
theorem Uc:Gb q57 q32 (ub eh):=(by walk_at "F")
noncomputable abbrev Yj:Stmt:=Ad (top 32) 0
theorem xk:Gb q33 q33 (ub Yj):=(by walk_at "F")
noncomputable abbrev Yi:Stmt:=Ad (top 32) 1
theorem sn:Gb ["self"] ["self"] (ub Yi):=(by walk_at "F")
noncomputable abbrev Qg:Stmt:=Ad (top 32) 2
theorem Bk:Gb ["self"] ["self"] (ub Qg):=(by walk_at "F")
noncomputable abbrev Bn:Stmt:=Ad (top 32) 3
noncomputable abbrev fk:Stmt:=Ad (top 32) 4
theorem Ho:Gb q16 q16 (ub fk):=(by walk_at "F")
noncomputable abbrev Uh:Stmt:=Ad (top 32) 5
theorem zh:Gb ["self","choices","found"] q34 (ub Uh):=(by walk_at "F")
noncomputable abbrev qh:Stmt:=Ad (top 32) 6
theorem Tg:Gb ["self","low","high","found"] q25 (ub qh):=(by walk_at "F")
noncomputable abbrev Yh:Stmt:=Ad (top 32) 7
theorem Nm:Gb ["self"] ["self"] (ub Yh):=(by walk_at "F")
noncomputable abbrev wu:Stmt:=Ad (top 35) 0
theorem Oq:Gb q17 q17 (ub wu):=(by walk_at "F")
noncomputable abbrev Cn:Stmt:=Ad (top 36) 0
theorem bo:Gb q5 q5 (ub Cn):=(by walk_at "F")
noncomputable abbrev fm:Stmt:=Ad (top 36) 1
theorem Wr:Gb ["self"] ["self"] (ub fm):=(by walk_at "F")
noncomputable abbrev Yn:Stmt:=Ad (top 36) 2
theorem Fs:Gb ["self"] ["self"] (ub Yn):=(by walk_at "F")
noncomputable abbrev km:Stmt:=Ad (top 37) 0
theorem Dm:Gb q5 q5 (ub km):=(by walk_at "F")
noncomputable abbrev Ek:Stmt:=Ad (top 37) 1
theorem Np:Gb ["self"] ["self"] (ub Ek):=(by walk_at "F")
noncomputable abbrev um:Stmt:=Ad (top 37) 2
theorem rq:Gb ["self"] ["self"] (ub um):=(by walk_at "F")
noncomputable abbrev lm:Stmt:=Ad (top 38) 0
theorem zm:Gb q5 q5 (ub lm):=(by walk_at "F")
noncomputable abbrev el:Stmt:=Ad (top 38) 1
theorem Ep:Gb ["self"] ["self"] (ub el):=(by walk_at "F")
noncomputable abbrev dm:Stmt:=Ad (top 38) 2
theorem Vq:Gb ["self"] ["self"] (ub dm):=(by walk_at "F")
noncomputable abbrev kl:Stmt:=Ad (top 46) 0
theorem ff:Gb ["self","places","ways","number","way"] q51 (ub kl):=(by walk_at "F")
noncomputable abbrev Li:Stmt:=Ad (top 46) 2
theorem gn:Gb q9 q9 (ub Li):=(by walk_at "F")
noncomputable abbrev bj:Stmt:=Ad (top 46) 3
theorem Pn:Gb q9 q9 (ub bj):=(by walk_at "F")
set_option genInjectivity false in
set_option genInjectivity false in
structure Adr where
 {aq Hh zB WI re ud Gg Xd wf Rh Te Dv Ov Cg Cj Ln zn Xm Jj Tf Dl Il El Kf Ld Kl Qd af ij Zg dh Bl Nd Yg si yj jj fh mh Qh Ve ci Ud xf Ff ye wg OL Re ke Bc gd Nf Zc Xc Ac Wc ig Vf qg kh jf Uf vg kf Mf Bg Ke Wd Oc cc Qb Rm kd Ic Gc jc:Addr}
 {jq Lh rB RH qe qd Dg ce Gf li bf Iv Ju Eg Kj Sn Zm ao Dj Lf Al Cl Hl Hf Gd Ql Sd Ye Oi lh Vg Pl Md Xg ei lj Lj Wg gh Xh We gi Td Df Cf we ug GH Jf mf Lc Pd Vm Cd Jd Kc Kd nh jh Ei rj Ag Bh vi rg Ch Bi Wf Se pd:FuncData}
 {Ix rm Zw im jp jm vq tt mn nq:Value}
structure Txt (w:World) (K:PySem.W.Frag) (mg:Str→Option Value) (t:Adr):Prop where
 uz:mg "in_bow"=some (.ref t.aq)
 kq:Fun K "in_bow" "in_bow" wB t.aq t.jq
 Yv:mg "bows_cross"=some (.ref t.Hh)
 vk:Fun K "bows_cross" "bows_cross" Zo t.Hh t.Lh
 mN:mg "meet"=some (.ref t.zB)
 NG:Fun K "meet" "meet" IJ t.zB t.rB
 wP:mg "gap"=some (.ref t.WI)
 rK:Fun K "gap" "gap" bN t.WI t.RH
 Wj:mg "order_at_first"=some (.ref t.re)
 pf:Fun K "order_at_first" "order_at_first" Qj t.re t.qe
 Fh:mg "in_some_order"=some (.ref t.ud)
 Ee:Fun K "in_some_order" "in_some_order" Gk t.ud t.qd
 Mh:mg "with_ahead"=some (.ref t.Gg)
 vf:Fun K "with_ahead" "with_ahead" Bp t.Gg t.Dg
 yk:mg "step_in_order"=some (.ref t.Xd)
 Zf:Fun K "step_in_order" "step_in_order" rk t.Xd t.ce
 ip:mg "ring_bears"=some (.ref t.wf)
 Wh:Fun K "ring_bears" "ring_bears" Cp t.wf t.Gf
 Gw:mg "case_bears"=some (.ref t.Rh)
 Nk:Fun K "case_bears" "case_bears" lp t.Rh t.li
 Nj:mg "paper_bears"=some (.ref t.Te)
 Oe:Fun K "paper_bears" "paper_bears" Tn t.Te t.bf
 KK:mg "bears"=some (.ref t.Dv)
 Qy:Fun K "bears" "bears" tG t.Dv t.Iv
 DK:mg "words"=some (.ref t.Ov)
 az:Fun K "words" "words" Dy t.Ov t.Ju
 vp:mg "is_made_of"=some (.ref t.Cg)
 Th:Fun K "is_made_of" "is_made_of" Ck t.Cg t.Eg
 Yx:mg "is_number"=some (.ref t.Cj)
 Lm:Fun K "is_number" "is_number" Jq t.Cj t.Kj
 AF:mg "figured"=some (.ref t.Ln)
 Aq:Fun K "figured" "figured" Rw t.Ln t.Sn
 fD:mg "is_name"=some (.ref t.zn)
 Cr:Fun K "is_name" "is_name" iw t.zn t.Zm
 mF:mg "readers"=some (.ref t.Xm)
 Sq:Fun K "readers" "readers" Ur t.Xm t.ao
 ay:mg "read_ring"=some (.ref t.Jj)
 Fm:Fun K "read_ring" "read_ring" jr t.Jj t.Dj
 lr:mg "read_new_name"=some (.ref t.Tf)
 sh:Fun K "read_new_name" "read_new_name" rh t.Tf t.Lf
 OC:mg "read_end"=some (.ref t.Dl)
 Mo:Fun K "read_end" "read_end" At t.Dl t.Al
 dC:mg "made_way"=some (.ref t.Il)
 Ko:Fun K "made_way" "made_way" xu t.Il t.Cl
 RC:mg "read_way"=some (.ref t.El)
 No:Fun K "read_way" "read_way" iu t.El t.Hl
 zr:mg "read_crossing"=some (.ref t.Kf)
 Ah:Fun K "read_crossing" "read_crossing" Xk t.Kf t.Hf
 Lk:mg "paths_longer_by_one"=some (.ref t.Ld)
 Je:Fun K "paths_longer_by_one" "paths_longer_by_one" Hd t.Ld t.Gd
 GB:mg "rings_of"=some (.ref t.Kl)
 Uo:Fun K "rings_of" "rings_of" Jl t.Kl t.Ql
 Yl:mg "pair_without_order"=some (.ref t.Qd)
 df:Fun K "pair_without_order" "pair_without_order" Ug t.Qd t.Sd
 Fo:mg "begins_in_order"=some (.ref t.af)
 kg:Fun K "begins_in_order" "begins_in_order" Ue t.af t.Ye
 lq:mg "settled"=some (.ref t.ij)
 dj:Fun K "settled" "settled" zw t.ij t.Oi
 Ej:mg "settled_for"=some (.ref t.Zg)
 Of:Fun K "settled_for" "settled_for" ko t.Zg t.lh
 Zu:mg "long_enough"=some (.ref t.dh)
 Gj:Fun K "long_enough" "long_enough" vj t.dh t.Vg
 qC:mg "shortest"=some (.ref t.Bl)
 Ao:Fun K "shortest" "shortest" Qt t.Bl t.Pl
 Db:mg "_law_draw"=some (.ref t.Nd)
 Bb:Fun K "_law_draw" "_law_draw" Gr t.Nd t.Md
 Wu:mg "_law_places"=some (.ref t.Yg)
 tj:Fun K "_law_places" "_law_places" vn t.Yg t.Xg
 yx:mg "_law_names"=some (.ref t.si)
 Yk:Fun K "_law_names" "_law_names" Vk t.si t.ei
 Tx:mg "_law_ways"=some (.ref t.yj)
 wm:Fun K "_law_ways" "_law_ways" Tr t.yj t.lj
 Jy:mg "_law_text"=some (.ref t.jj)
 Hm:Fun K "_law_text" "_law_text" Im t.jj t.Lj
 xv:mg "_law_is_met"=some (.ref t.fh)
 Hj:Fun K "_law_is_met" "_law_is_met" Xn t.fh t.Wg
 Ev:mg "_law_wanted"=some (.ref t.mh)
 Ij:Fun K "_law_wanted" "_law_wanted" Tm t.mh t.gh
 nw:mg "_law_alone"=some (.ref t.Qh)
 il:Fun K "_law_alone" "_law_alone" Xo t.Qh t.Xh
 zj:mg "_law_behind"=some (.ref t.Ve)
 ag:Fun K "_law_behind" "_law_behind" Sm t.Ve t.We
 kx:mg "_law_ahead"=some (.ref t.ci)
 Jk:Fun K "_law_ahead" "_law_ahead" ml t.ci t.gi
 Oo:mg "_law_ring_bears"=some (.ref t.Ud)
 jg:Fun K "_law_ring_bears" "_law_ring_bears" Qi t.Ud t.Td
 Pk:mg "_law_bears"=some (.ref t.xf)
 Ef:Fun K "_law_bears" "_law_bears" Wo t.xf t.Df
 Fk:mg "_law_paper"=some (.ref t.Ff)
 Af:Fun K "_law_paper" "_law_paper" Zh t.Ff t.Cf
 zi:mg "_law_spoiled"=some (.ref t.ye)
 Be:Fun K "_law_spoiled" "_law_spoiled" cm t.ye t.we
 Ii:mg "_law_is_read"=some (.ref t.wg)
 gf:Fun K "_law_is_read" "_law_is_read" Ji t.wg t.ug
 pP:mg "law"=some (.ref t.OL)
 OO:Fun K "law" "law" qL t.OL t.GH
 bB:mg "Wanted"=some (.ref t.cc)
 ZH:PySem.W.findIn K (.ref t.cc) "__init__"=some (some (.ref t.Re))
 Vn:Fun K "__init__" "Wanted.__init__" eh t.Re t.Jf
 Hy:mg "RowReader"=some (.ref t.Qb)
 aD:PySem.W.findIn K (.ref t.Qb) "__init__"=some (some (.ref t.ke))
 Zj:Fun K "__init__" "RowReader.__init__" Yj t.ke t.mf
 UB:PySem.W.findIn K (.ref t.Qb) "ahead"=some (some (.ref t.Bc))
 Mi:Fun K "ahead" "RowReader.ahead" Yi t.Bc t.Lc
 Rx:PySem.W.findIn K (.ref t.Qb) "has_more"=some (some (.ref t.gd))
 Rg:Fun K "has_more" "RowReader.has_more" Qg t.gd t.Pd
 iB:PySem.W.findIn K (.ref t.Qb) "refuse"=some (some (.ref t.Nf))
 qB:Fun K "refuse" "RowReader.refuse" Bn t.Nf t.Vm
 ZC:PySem.W.findIn K (.ref t.Qb) "take"=some (some (.ref t.Zc))
 Vj:Fun K "take" "RowReader.take" fk t.Zc t.Cd
 OA:PySem.W.findIn K (.ref t.Qb) "one_of"=some (some (.ref t.Xc))
 di:Fun K "one_of" "RowReader.one_of" Uh t.Xc t.Jd
 yy:PySem.W.findIn K (.ref t.Qb) "figures"=some (some (.ref t.Ac))
 vh:Fun K "figures" "RowReader.figures" qh t.Ac t.Kc
 yB:PySem.W.findIn K (.ref t.Qb) "finish"=some (some (.ref t.Wc))
 Ih:Fun K "finish" "RowReader.finish" Yh t.Wc t.Kd
 QK:mg "Way"=some (.ref t.Rm)
 kM:PySem.W.findIn K (.ref t.Rm) "__init__"=some (some (.ref t.ig))
 lu:Fun K "__init__" "Way.__init__" wu t.ig t.nh
 sI:mg "CarWay"=some (.ref t.kd)
 wI:PySem.W.findIn K (.ref t.kd) "__init__"=some (some (.ref t.Vf))
 Hn:Fun K "__init__" "CarWay.__init__" Cn t.Vf t.jh
 ZG:PySem.W.findIn K (.ref t.kd) "ready"=some (some (.ref t.qg))
 vm:Fun K "ready" "CarWay.ready" fm t.qg t.Ei
 mI:PySem.W.findIn K (.ref t.kd) "fade"=some (some (.ref t.kh))
 dn:Fun K "fade" "CarWay.fade" Yn t.kh t.rj
 CD:mg "FootWay"=some (.ref t.Ic)
 aH:PySem.W.findIn K (.ref t.Ic) "__init__"=some (some (.ref t.jf))
 om:Fun K "__init__" "FootWay.__init__" km t.jf t.Ag
 sD:PySem.W.findIn K (.ref t.Ic) "ready"=some (some (.ref t.Uf))
 dl:Fun K "ready" "FootWay.ready" Ek t.Uf t.Bh
 dH:PySem.W.findIn K (.ref t.Ic) "fade"=some (some (.ref t.vg))
 qm:Fun K "fade" "FootWay.fade" um t.vg t.vi
 BF:mg "TramWay"=some (.ref t.Gc)
 gH:PySem.W.findIn K (.ref t.Gc) "__init__"=some (some (.ref t.kf))
 am:Fun K "__init__" "TramWay.__init__" lm t.kf t.rg
 gG:PySem.W.findIn K (.ref t.Gc) "ready"=some (some (.ref t.Mf))
 Tk:Fun K "ready" "TramWay.ready" el t.Mf t.Ch
 iH:PySem.W.findIn K (.ref t.Gc) "fade"=some (some (.ref t.Bg))
 tm:Fun K "fade" "TramWay.fade" dm t.Bg t.Bi
 TC:mg "Crossing"=some (.ref t.jc)
 rE:PySem.W.findIn K (.ref t.jc) "__init__"=some (some (.ref t.Ke))
 yl:Fun K "__init__" "Crossing.__init__" kl t.Ke t.Wf
 SB:PySem.W.findIn K (.ref t.jc) "number"=some (some (.ref t.Wd))
 fj:Fun K "number" "Crossing.number" Li t.Wd t.Se
 MC:PySem.W.findIn K (.ref t.jc) "called"=some (some (.ref t.Oc))
 Ui:Fun K "called" "Crossing.called" bj t.Oc t.pd
 Pi:Cls K t.cc
 Rz:Mk K t.cc t.Re
 em:kc K t.cc "many"
 Uj:kc K t.cc "alones"
 sk:kc K t.cc "steps"
 Pb:Cls K t.Qb
 gy:Mk K t.Qb t.ke
 Ze:Jv K t.Qb "ahead" t.Bc
 Rl:Jv K t.Qb "has_more" t.gd
 tz:Jv K t.Qb "refuse" t.Nf
 Ng:Jv K t.Qb "take" t.Zc
 Oh:Jv K t.Qb "one_of" t.Xc
 Nc:Jv K t.Qb "figures" t.Ac
 ji:Jv K t.Qb "finish" t.Wc
 Op:kc K t.Qb "row"
 Ni:kc K t.Qb "told"
 Qf:kc K t.Qb "place"
 HP:Cls K t.Rm
 WL:kc K t.Rm "kind"
 HK:kc K t.Rm "name"
 vJ:kc K t.Rm "start"
 gM:kc K t.Rm "end"
 nM:kc K t.Rm "off"
 jL:kc K t.Rm "near"
 kJ:kc K t.Rm "least"
 Hq:Cls K t.kd
 JI:Mk K t.kd t.Vf
 Ds:Jv K t.kd "ready" t.qg
 Hu:Jv K t.kd "fade" t.kh
 Gs:kc K t.kd "kind"
 Ls:kc K t.kd "name"
 Lq:kc K t.kd "start"
 Ou:kc K t.kd "end"
 Uu:kc K t.kd "off"
 Ts:kc K t.kd "near"
 Ar:kc K t.kd "least"
 Go:Cls K t.Ic
 RG:Mk K t.Ic t.jf
 Sr:Jv K t.Ic "ready" t.Uf
 Xr:Jv K t.Ic "fade" t.vg
 Br:kc K t.Ic "kind"
 Hr:kc K t.Ic "name"
 Qp:kc K t.Ic "start"
 Yr:kc K t.Ic "end"
 As:kc K t.Ic "off"
 Nq:kc K t.Ic "near"
 Ip:kc K t.Ic "least"
 zo:Cls K t.Gc
 sG:Mk K t.Gc t.kf
 Dq:Jv K t.Gc "ready" t.Mf
 Ss:Jv K t.Gc "fade" t.Bg
 Iq:kc K t.Gc "kind"
 Dr:kc K t.Gc "name"
 Up:kc K t.Gc "start"
 Ms:kc K t.Gc "end"
 Ws:kc K t.Gc "off"
 Fq:kc K t.Gc "near"
 Dp:kc K t.Gc "least"
 Yc:Cls K t.jc
 gC:Mk K t.jc t.Ke
 xo:Jv K t.jc "number" t.Wd
 Yd:Jv K t.jc "called" t.Oc
 Nh:kc K t.jc "places"
 ek:kc K t.jc "ways"
 xh:kc K t.jc "numbers"
 MH:t.Rm ≠ t.kd
 cH:t.Rm ≠ t.Ic
 fH:t.Rm ≠ t.Gc
 Xi:t.kd ≠ t.Ic
 cj:t.kd ≠ t.Gc
 Kh:t.Ic ≠ t.Gc
 Io:OP K t.Rm "__init__" t.ig
 XE:mg "FIGURES"=some t.Ix
 wE:yd (.str (Str.ofString "0123456789")) t.Ix
 Js:mg "LEAST_PLACES"=some t.rm
 Xs:yd (.int 2) t.rm
 ZE:mg "LETTERS"=some t.Zw
 qE:yd (.str (Str.ofString "abcdefghijklmnopqrstuvwxyz")) t.Zw
 Zs:mg "MOST_FIGURES"=some t.im
 Cs:yd (.int 3) t.im
 wx:mg "MOST_LEAST"=some t.jp
 Jw:yd (.int 60) t.jp
 Hs:mg "MOST_LETTERS"=some t.jm
 Qs:yd (.int 8) t.jm
 Wx:mg "MOST_NEAR"=some t.vq
 oy:yd (.int 30) t.vq
 JB:mg "MOST_OFF"=some t.tt
 IC:yd (.int 30) t.tt
 Nu:mg "MOST_PLACES"=some t.mn
 Kv:yd (.int 99) t.mn
 Oy:mg "MOST_WAYS"=some t.nq
 my:yd (.int 12) t.nq
 vP:mg "all"=none
 jO:mg "bool"=none
 kN:mg "dict"=none
 og:mg "enumerate"=none
 uP:mg "int"=none
 Kw:mg "isinstance"=none
 Ci:mg "len"=none
 sO:mg "list"=none
 zH:mg "max"=none
 BN:mg "min"=none
 uf:mg "range"=none
 sP:mg "set"=none
 uK:mg "str"=none
 WO:mg "sum"=none
 RL:mg "tuple"=none
 FO:mg "zip"=none
 tN:∀ (s:Shared) (u:Value),BindsTo s t.GH ⟨[u],[]⟩ [("_law_script",u)]
section
variable {w:World} {K:PySem.W.Frag} {mg:Str→Option Value} {t:Adr} (T:Txt w K mg t)
include T
theorem Txt.iA:gc K t.jq q35 []:=T.kq.binds fun _ _ _ _ _ _=>us3 fun _ _ _=>rfl
theorem Txt.vx:gc K t.Lh q26 []:=T.vk.binds fun _ _ _ _ _ _=>us3 fun _ _ _=>rfl
theorem Txt.uO:gc K t.rB q12 []:=T.NG.binds fun _ _ _ _ _ _=>us3 fun _ _ _=>rfl
theorem Txt.dP:gc K t.RH q12 []:=T.rK.binds fun _ _ _ _ _ _=>us3 fun _ _ _=>rfl
theorem Txt.Pj:gc K t.qe ["wanted"] []:=T.pf.binds fun _ _ _ _ _ _=>us1 fun _=>rfl
theorem Txt.Eh:gc K t.qd q8 []:=T.Ee.binds fun _ _ _ _ _ _=>us3 fun _ _ _=>rfl
theorem Txt.ii:gc K t.Dg q8 []:=T.vf.binds fun _ _ _ _ _ _=>us3 fun _ _ _=>rfl
theorem Txt.zk:gc K t.ce q18 []:=T.Zf.binds fun _ _ _ _ _ _=>us5 fun _ _ _ _ _=>rfl
theorem Txt.gp:gc K t.Gf q19 []:=T.Wh.binds fun _ _ _ _ _ _=>us4 fun _ _ _ _=>rfl
theorem Txt.lw:gc K t.li q10 []:=T.Nk.binds fun _ _ _ _ _ _=>us4 fun _ _ _ _=>rfl
theorem Txt.xj:gc K t.bf q10 []:=T.Oe.binds fun _ _ _ _ _ _=>us4 fun _ _ _ _=>rfl
theorem Txt.lL:gc K t.Iv q36 []:=T.Qy.binds fun _ _ _ _ _ _=>us4 fun _ _ _ _=>rfl
theorem Txt.QL:gc K t.Ju ["text"] []:=T.az.binds fun _ _ _ _ _ _=>us1 fun _=>rfl
theorem Txt.pp:gc K t.Eg q13 []:=T.Th.binds fun _ _ _ _ _ _=>us3 fun _ _ _=>rfl
theorem Txt.Vx:gc K t.Kj q27 []:=T.Lm.binds fun _ _ _ _ _ _=>us2 fun _ _=>rfl
theorem Txt.lD:gc K t.Sn q37 []:=T.Aq.binds fun _ _ _ _ _ _=>us3 fun _ _ _=>rfl
theorem Txt.AD:gc K t.Zm ["word"] []:=T.Cr.binds fun _ _ _ _ _ _=>us1 fun _=>rfl
theorem Txt.yD:gc K t.ao ["text"] []:=T.Sq.binds fun _ _ _ _ _ _=>us1 fun _=>rfl
theorem Txt.Ny:gc K t.Dj ["reader"] []:=T.Fm.binds fun _ _ _ _ _ _=>us1 fun _=>rfl
theorem Txt.mq:gc K t.Lf q38 []:=T.sh.binds fun _ _ _ _ _ _=>us2 fun _ _=>rfl
theorem Txt.OB:gc K t.Al q28 []:=T.Mo.binds fun _ _ _ _ _ _=>us3 fun _ _ _=>rfl
theorem Txt.FC:gc K t.Cl q29 []:=T.Ko.binds fun _ _ _ _ _ _=>us7 fun _ _ _ _ _ _ _=>rfl
theorem Txt.lC:gc K t.Hl q39 []:=T.No.binds fun _ _ _ _ _ _=>us3 fun _ _ _=>rfl
theorem Txt.Vr:gc K t.Hf ["text"] []:=T.Ah.binds fun _ _ _ _ _ _=>us1 fun _=>rfl
theorem Txt.Zk:gc K t.Gd q40 []:=T.Je.binds fun _ _ _ _ _ _=>us2 fun _ _=>rfl
theorem Txt.NB:gc K t.Ql ["wanted"] []:=T.Uo.binds fun _ _ _ _ _ _=>us1 fun _=>rfl
theorem Txt.Sl:gc K t.Sd q41 []:=T.df.binds fun _ _ _ _ _ _=>us2 fun _ _=>rfl
theorem Txt.Bo:gc K t.Ye q42 []:=T.kg.binds fun _ _ _ _ _ _=>us3 fun _ _ _=>rfl
theorem Txt.cr:gc K t.Oi q20 []:=T.dj.binds fun _ _ _ _ _ _=>us4 fun _ _ _ _=>rfl
theorem Txt.Mj:gc K t.lh q43 []:=T.Of.binds fun _ _ _ _ _ _=>us3 fun _ _ _=>rfl
theorem Txt.Av:gc K t.Vg ["wanted"] []:=T.Gj.binds fun _ _ _ _ _ _=>us1 fun _=>rfl
theorem Txt.KB:gc K t.Pl q44 []:=T.Ao.binds fun _ _ _ _ _ _=>us2 fun _ _=>rfl
theorem Txt.Cb:gc K t.Md q11 []:=T.Bb.binds fun _ _ _ _ _ _=>us3 fun _ _ _=>rfl
theorem Txt.Gu:gc K t.Xg q14 []:=T.tj.binds fun _ _ _ _ _ _=>us1 fun _=>rfl
theorem Txt.Mw:gc K t.ei q45 []:=T.Yk.binds fun _ _ _ _ _ _=>us2 fun _ _=>rfl
theorem Txt.Ey:gc K t.lj q46 []:=T.wm.binds fun _ _ _ _ _ _=>us3 fun _ _ _=>rfl
theorem Txt.By:gc K t.Lj q47 []:=T.Hm.binds fun _ _ _ _ _ _=>us2 fun _ _=>rfl
theorem Txt.Mv:gc K t.Wg q48 []:=T.Hj.binds fun _ _ _ _ _ _=>us3 fun _ _ _=>rfl
theorem Txt.vv:gc K t.gh q49 []:=T.Ij.binds fun _ _ _ _ _ _=>us2 fun _ _=>rfl
theorem Txt.Tv:gc K t.Xh q30 []:=T.il.binds fun _ _ _ _ _ _=>us2 fun _ _=>rfl
theorem Txt.Aj:gc K t.We q15 []:=T.ag.binds fun _ _ _ _ _ _=>us4 fun _ _ _ _=>rfl
theorem Txt.ox:gc K t.gi q21 []:=T.Jk.binds fun _ _ _ _ _ _=>us2 fun _ _=>rfl
theorem Txt.Vo:gc K t.Td q31 []:=T.jg.binds fun _ _ _ _ _ _=>us5 fun _ _ _ _ _=>rfl
theorem Txt.Sk:gc K t.Df q22 []:=T.Ef.binds fun _ _ _ _ _ _=>us5 fun _ _ _ _ _=>rfl
theorem Txt.Ik:gc K t.Cf q23 []:=T.Af.binds fun _ _ _ _ _ _=>us4 fun _ _ _ _=>rfl
theorem Txt.Fi:gc K t.we q24 []:=T.Be.binds fun _ _ _ _ _ _=>us3 fun _ _ _=>rfl
theorem Txt.xi:gc K t.ug q50 []:=T.gf.binds fun _ _ _ _ _ _=>us5 fun _ _ _ _ _=>rfl
theorem Txt.Qn:gc K t.Jf q32 []:=T.Vn.binds fun _ _ _ _ _ _=>us3 fun _ _ _=>rfl
theorem Txt.Gp:gc K t.mf q33 []:=T.Zj.binds fun _ _ _ _ _ _=>us3 fun _ _ _=>rfl
theorem Txt.Qe:gc K t.Lc ["self"] []:=T.Mi.binds fun _ _ _ _ _ _=>us1 fun _=>rfl
theorem Txt.Ul:gc K t.Pd ["self"] []:=T.Rg.binds fun _ _ _ _ _ _=>us1 fun _=>rfl
theorem Txt.Mg:gc K t.Cd q16 []:=T.Vj.binds fun _ _ _ _ _ _=>us2 fun _ _=>rfl
theorem Txt.Ph:gc K t.Jd q34 []:=T.di.binds fun _ _ _ _ _ _=>us2 fun _ _=>rfl
theorem Txt.Qc:gc K t.Kc q25 []:=T.vh.binds fun _ _ _ _ _ _=>us3 fun _ _ _=>rfl
theorem Txt.Sh:gc K t.Kd ["self"] []:=T.Ih.binds fun _ _ _ _ _ _=>us1 fun _=>rfl
theorem Txt.Qo:gc K t.nh q17 []:=T.lu.binds fun _ _ _ _ _ _=>us8 fun _ _ _ _ _ _ _ _=>rfl
theorem Txt.lv:gc K t.jh q5 []:=T.Hn.binds fun _ _ _ _ _ _=>us7 fun _ _ _ _ _ _ _=>rfl
theorem Txt.js:gc K t.Ei ["self"] []:=T.vm.binds fun _ _ _ _ _ _=>us1 fun _=>rfl
theorem Txt.Xu:gc K t.rj ["self"] []:=T.dn.binds fun _ _ _ _ _ _=>us1 fun _=>rfl
theorem Txt.Vs:gc K t.Ag q5 []:=T.om.binds fun _ _ _ _ _ _=>us7 fun _ _ _ _ _ _ _=>rfl
theorem Txt.Xq:gc K t.Bh ["self"] []:=T.dl.binds fun _ _ _ _ _ _=>us1 fun _=>rfl
theorem Txt.Ys:gc K t.vi ["self"] []:=T.qm.binds fun _ _ _ _ _ _=>us1 fun _=>rfl
theorem Txt.Es:gc K t.rg q5 []:=T.am.binds fun _ _ _ _ _ _=>us7 fun _ _ _ _ _ _ _=>rfl
theorem Txt.Zq:gc K t.Ch ["self"] []:=T.Tk.binds fun _ _ _ _ _ _=>us1 fun _=>rfl
theorem Txt.Zr:gc K t.Bi ["self"] []:=T.tm.binds fun _ _ _ _ _ _=>us1 fun _=>rfl
theorem Txt.Wq:gc K t.Wf q51 []:=T.yl.binds fun _ _ _ _ _ _=>us3 fun _ _ _=>rfl
theorem Txt.vo:gc K t.Se q9 []:=T.fj.binds fun _ _ _ _ _ _=>us2 fun _ _=>rfl
theorem Txt.Zd:gc K t.pd q9 []:=T.Ui.binds fun _ _ _ _ _ _=>us2 fun _ _=>rfl
end
noncomputable def Lg (ns:List Int) (k m:Int):Int:=
 ((((if 0 < (ns.length:Int) then ns.getD (k % (ns.length:Int)).toNat 0 else 0) % 1000003 + 31 * k * k + 1) * 48271 % 999983 * 7919) % 524287) % m
theorem Fc (ns:List Int) (k:Int) {m:Int} (h:0 < m):0 ≤ Lg ns k m:=Int.emod_nonneg _ (by omega)
theorem Jc (ns:List Int) (k:Int) {m:Int} (h:0 < m):Lg ns k m < m:=Int.emod_lt_of_pos _ h
noncomputable def Mc (K:PySem.W.Frag) (a:Addr) (ns:List Int):Sp:=fun vs H Q _=>∃ k m,vs=[.ref a,.int k,.int m]∧Sc K a ns H∧(0 ≤ k∧k < 1000000)∧0 < m∧Q (.int (Lg ns k m)) H
section
variable {P:Program} {w:World} {K:PySem.W.Frag} {mg:Str→Option Value} {base:Heap} {t:Adr}
theorem Km (T:Txt w K mg t) (a:Addr) (ns:List Int) (h63:ns.length ≤ 63):Ub P w K mg base CX0 1 t.Nd t.Md q11 (Mc K a ns):=by
 refine T.Bb.ok Hk (fun vs H Q E h=>?_) (fun _ _ _ s H vs Q E hr h=>?_)
 ·obtain ⟨k,m,rfl,_⟩:=h;rfl
 obtain ⟨k,m,rfl,S,⟨h0,h1⟩,hm,q⟩:=h;refine ⟨_,(fb (yb (i:=3) Hk.nd (Hv (Ob Pm (qc bc rfl T.Ci ic (ab (pv 0) jb)) gb (Vb _)) (Ab ie (pv 0) (Kb Ig (pv 1) (qc bc rfl T.Ci ic (ab (pv 0) jb)))) gb))
   (fb (yb (i:=4) Hk.nd (Kb fc (Kb fc (Kb Ig (pv 3) gb) (Kb Fd (Kb Fd gb (pv 1)) (pv 1))) gb))
   (lb (Fb (Kb Ig (Kb Ig (Kb Fd (Kb Ig (Kb Fd (pv 4) gb) gb) gb) gb) (pv 2)))))),?_⟩
 walk_at "RD";refine ⟨_,.inl S.seq,?_⟩;rw [List.length_map];have hkk:(0:Int) ≤ k * k∧k * k < 1000000 * 1000000:=⟨Int.mul_nonneg h0 h0,Int.mul_lt_mul' (by omega) h1 h0 (by decide)⟩;have fin:∀ i:Int,(0:Int) < 1000003∧BL 31 k∧BL (31 * k) k∧BL (i % 1000003 + 31 * k * k + 1) 48271∧(0:Int) < 999983∧BL ((i % 1000003 + 31 * k * k + 1) * 48271 % 999983) 7919∧(0:Int) < 524287∧0 < m:=by
  intro i;refine ⟨by decide,.inl (by decide),.inr (by omega),.inr (by decide),by decide,.inr (by decide),by decide,hm⟩
 by_cases c:(0:Int) < (ns.length:Int)
 ·rw [if_pos (decide_eq_true c)];have hk:0 ≤ k % (ns.length:Int)∧k % (ns.length:Int) < (ns.length:Int):=⟨Int.emod_nonneg _ (by omega),Int.emod_lt_of_pos _ c⟩;refine ⟨_,.inl S.seq,by rw [List.length_map];exact c,_,S.seq,?_⟩;rw [List.length_map];have hj:(k % (ns.length:Int)).toNat < ns.length:=by omega
  refine ⟨.int ns[(k % (ns.length:Int)).toNat],?_,_,rfl,?_⟩
  ·have e:=wb (xs:=ns.map V.int) (j:=(k % (ns.length:Int)).toNat) (v:=.int ns[(k % (ns.length:Int)).toNat]) (by rw [List.getElem?_map,List.getElem?_eq_getElem hj] <;> rfl);rwa [Int.toNat_of_nonneg hk.1] at e
  ·obtain ⟨f1,f2,f3,f4,f5,f6,f7,f8⟩:=fin ns[(k % (ns.length:Int)).toNat];refine ⟨f1,f2,f3,f4,f5,f6,f7,f8,?_⟩;have e:Lg ns k m=(((ns[(k % (ns.length:Int)).toNat] % 1000003 + 31 * k * k + 1) * 48271 % 999983 * 7919) % 524287) % m:=by
    unfold Lg;rw [if_pos c,List.getD_eq_getElem?_getD,List.getElem?_eq_getElem hj];rfl
   rw [← e];exact q
 ·rw [if_neg (by simpa using c)];obtain ⟨f1,f2,f3,f4,f5,f6,f7,f8⟩:=fin 0;refine ⟨f1,f2,f3,f4,f5,f6,f7,f8,?_⟩;have e:Lg ns k m=(((0 % 1000003 + 31 * k * k + 1) * 48271 % 999983 * 7919) % 524287) % m:=by
   unfold Lg;rw [if_neg c]
  rw [← e];exact q
end
theorem AO {w:Str}:w=Str.ofString "" ↔ w.length=0:=by
 constructor
 ·rintro rfl;decide +kernel
 ·intro h;have e:w.cps=#[]:=Array.eq_empty_of_size_eq_zero h;have e2:(Str.ofString "").cps=#[]:=by decide +kernel
  cases w;cases h2:Str.ofString "";rw [h2] at e2;simp only at e e2;rw [e,e2]
noncomputable def inL (sg:Str) (c:Nat):Bool:=!(Builtin.Str.occurrences sg (tw c) 0 sg.length 1).isEmpty
theorem Gy (sg:Str) (c:Nat):inL sg c=decide (c ∈ sg.cps.toList):=StrLaws.found_one sg c
noncomputable def made (w sg:Str) (m:Int):Bool:=if w=Str.ofString "" then false else if m < (w.length:Int) then false else w.cps.toList.all (inL sg)
noncomputable def Pr:Sp:=fun vs H Q _=>∃ w sg m,vs=[.str w,.str sg,.int m]∧w.length ≤ 1000∧NoT H∧Q (.bl (made w sg m)) H
noncomputable def nH:Sp:=fun vs H Q _=>∃ w sg m,vs=[.str w,.str sg,.int m]∧w.length ≤ 1000∧∀ H',Sb H H'→Q (.bl (made w sg m)) H'
section
variable {P:Program} {w:World} {K:PySem.W.Frag} {mg:Str→Option Value} {base:Heap} {t:Adr}
theorem DD (T:Txt w K mg t):Ub P w K mg base CX0 1 t.Cg t.Eg q13 Pr:=by
 refine Ub.forget (sp:=nH) ?_ fun vs H Q E h=>?_
 ·refine T.Th.ok Lu (fun vs H Q E h=>?_) (fun _ _ _ s H vs Q E hr h=>?_)
  ·obtain ⟨w,sg,m,rfl,_⟩:=h;rfl
  obtain ⟨w,sg,m,rfl,hz,q⟩:=h;have hz':w.length ≤ sizeLine:=Nat.le_trans hz (by decide);refine ⟨_,(fb (Pc (PW.pt (gr (Ob tf (pv 0) xc (Vb _)) (wn (Ob Pm (qc Xv rfl T.Ci ic (ab (pv 0) jb)) (pv 2) (Vb _))))) (lb (Fb Tl)) Rb)
   (lb (Fb (qc (CI rfl) rfl T.vP BC (ab (cg rfl (ZM (pv 0)) (Cc (sc:=ub Ck) rfl (by decide +kernel)) (N:=["sign","signs"]) (sel:=[none,some 1]) (Vc (M:=q13) (by decide +kernel)) (Blk.of (fun _ _ _ _=>(Ib (i:=0) (oh (N:=["sign","signs"]) (by decide +kernel) rfl))) (fun _ _ _ _=>⟨_,sf,by walk_at "B"⟩) (fun _ _ _ _=>⟨_,(ae qD (pv 0) (pv 1) (by with_unfolding_all rfl)),by walk_at "B"⟩))) jb))))),?_⟩
  walk_at "RD";refine Mb (decide (w=Str.ofString "") || decide (m < (w.length:Int))) (fun Q hQ=>?_) (fun hb=>?_) (fun hb=>?_)
  ·walk_at "RD";by_cases c:w=Str.ofString ""
   ·rw [if_pos (decide_eq_true c)];rw [decide_eq_true c,Bool.true_or] at hQ;exact hQ
   ·rw [if_neg (by simpa using c)];rw [decide_eq_false c,Bool.false_or] at hQ;exact ⟨hz',hQ⟩
  ·walk_at "RD";have e:made w sg m=false:=by
    unfold made;simp only [Bool.or_eq_true,decide_eq_true_eq] at hb;by_cases c:w=Str.ofString ""
    ·rw [if_pos c]
    ·rw [if_neg c,if_pos (hb.resolve_left c)]
   have:=q H (Sb.refl H);rw [e] at this;exact this
  ·walk_at "RD";have e:made w sg m=w.cps.toList.all (inL sg):=by
    unfold made;simp only [Bool.or_eq_false_iff,decide_eq_false_iff_not] at hb;rw [if_neg hb.1,if_neg hb.2]
   refine bd.its_map (fun x=>match x with | .str y=>.bl (!(Builtin.Str.occurrences sg y 0 sg.length 1).isEmpty) | _=>.non) (by rw [Jn];exact hz') (fun i x N hx hN=>?_) (fun p hp=>?_)
   ·unfold Tj at hx;rw [List.getElem?_map] at hx;cases hc:w.cps.toList[i]? with
    | none=>rw [hc] at hx;cases hx
    | some c=>
     rw [hc] at hx;have hx':V.str (tw c)=x:=Option.some.inj hx;subst hx';walk_at "RD";exact ⟨Sub.name,hN⟩
   ·refine ⟨p,rfl,w.cps.toList.map (inL sg),SqL.of ?_,?_⟩
    ·rw [ib];unfold Tj;rw [List.map_map,List.map_map];rfl
    ·have:=q (upd H p (.lst (List.map (fun x=>match x with | .str y=>.bl (!(Builtin.Str.occurrences sg y 0 sg.length 1).isEmpty) | _=>.non) (Tj w)))) (db hp);rw [e] at this;rw [List.all_map];exact this
 ·obtain ⟨w,sg,m,e,hz,nt,q⟩:=h;exact ⟨nt,w,sg,m,e,hz,fun H' sm=>⟨sm,q⟩⟩
end
noncomputable abbrev qK:Str:=Str.ofString "0123456789"
noncomputable def Mp (c:Nat):Bool:=decide (48 ≤ c∧c ≤ 57)
theorem TH (c:Nat):inL qK c=Mp c:=by
 rw [Gy,show qK.cps.toList=List.range' 48 10 by decide +kernel];unfold Mp;refine decide_eq_decide.mpr ?_;rw [List.mem_range'_1];exact and_congr_right fun _=>show c < 58↔c ≤ 57 from Nat.lt_succ_iff
noncomputable abbrev cs (w:Str):List Nat:=w.cps.toList
theorem SG (w:Str):(cs w).length=w.length:=by simp [cs,Str.length]
noncomputable def okB (w:Str):Bool:=decide (1 ≤ (cs w).length) && decide ((cs w).length ≤ 3) && (cs w).all Mp && (decide ((cs w).length ≤ 1) || decide ((cs w).headD 0 ≠ 48))
noncomputable abbrev val (w:Str):Int:=((NumText.digitsVal (cs w):Nat):Int)
noncomputable def bH (w:Str) (lo hi:Int):V:=if okB w && !(decide (val w < lo) || decide (hi < val w)) then .int (val w) else .non
theorem jD {w:Str} {c:Nat}:w=⟨#[c]⟩↔cs w=[c]:=by
 constructor
 ·rintro rfl;rfl
 ·intro h;cases w with
  | mk a=>
   have e:a=#[c]:=Array.toList_inj.mp h;rw [e]
theorem Py:Str.ofString "0"=⟨#[48]⟩:=by decide +kernel
theorem qx (w:Str):made w qK 3=(decide (1 ≤ (cs w).length) && decide ((cs w).length ≤ 3) && (cs w).all Mp):=by
 unfold made;have e:(inL qK)=Mp:=funext TH;rw [e];by_cases h1:w=Str.ofString ""
 ·have h2:=AO.mp h1;rw [if_pos h1,SG,h2];rfl
 ·have h2:¬ w.length=0:=fun z=>h1 (AO.mpr z)
  rw [if_neg h1,SG];by_cases h3:(3:Int) < (w.length:Int)
  ·rw [if_pos h3,decide_eq_false (show ¬ w.length ≤ 3 by omega),Bool.and_false,Bool.false_and]
  ·rw [if_neg h3,decide_eq_true (show 1 ≤ w.length by omega),decide_eq_true (show w.length ≤ 3 by omega)];rfl
theorem Ku {l:List Nat} (h:l.all Mp=true):NumText.AllDigits l:=fun c hc=>by
 have:=List.all_eq_true.mp h c hc;simpa [Mp] using this
theorem yM {w:Str} (h:okB w=true):(1 ≤ (cs w).length∧(cs w).length ≤ 3)∧(cs w).all Mp=true:=by
 unfold okB at h;simp only [Bool.and_eq_true,decide_eq_true_eq] at h;exact h.1
noncomputable def ED:Sp:=fun vs H Q _=>∃ w,vs=[.str w,.int 3]∧w.length ≤ 1000∧NoT H∧Q (.bl (okB w)) H
noncomputable def SJ:Sp:=fun vs H Q _=>∃ w lo hi,vs=[.str w,.int lo,.int hi]∧w.length ≤ 1000∧NoT H∧Q (bH w lo hi) H
section
variable {P:Program} {w:World} {K:PySem.W.Frag} {mg:Str→Option Value} {base:Heap} {t:Adr}
theorem SN (T:Txt w K mg t):Ub P w K mg base CX0 2 t.Cj t.Kj q27 ED:=by
 have g21:Ub P w K mg base CX0 1 t.Cg t.Eg q13 Pr:=DD T;refine T.Lm.ok Sw (fun vs H Q E h=>?_) (fun _ _ _ s H vs Q E hr h=>?_)
 ·obtain ⟨w,rfl,_⟩:=h;rfl
 obtain ⟨w,rfl,hz,nt,q⟩:=h;have hz':w.length ≤ sizeLine:=Nat.le_trans hz (by decide);refine ⟨_,(fb (Pc (Uk (Vh (qb g21 hr T.vp T.Th.kp T.pp (ab (pv 0) (ab (Di rfl T.XE T.wE) (ab (pv 1) jb)))))) (lb (Fb Tl)) Rb)
   (lb (Fb (yL (ae tf (pv 0) xc (Vb _)) (Mr (ae TD (Ab UD (pv 0) gb) xc (Vb _))))))),?_⟩
 refine Mb (!made w qK 3) (fun Q hQ=>?_) (fun hb=>?_) (fun hb=>?_)
 ·(walk_at "RD"; repeat (dsimp only [Pr];walk_at "RD"));exact ⟨hz,nt,hQ⟩
 ·walk_at "RD";have e:okB w=false:=by
   have hb':made w qK 3=false:=by simpa using hb
   rw [qx] at hb';unfold okB;rw [hb'];rfl
  rw [e] at q;exact q
 ·have hb':made w qK 3=true:=by simpa using hb
  rw [qx] at hb';rw [Xb];dsimp only;refine ZL (.bl (okB w)) (fun Q hQ=>?_) ?_
  case refine_2=>exact q
  walk_at "RD";have hb2:(1 ≤ (cs w).length∧(cs w).length ≤ 3)∧(cs w).all Mp=true:=by
   simpa only [Bool.and_eq_true,decide_eq_true_eq] using hb'
  obtain ⟨c,r,hcr⟩:∃ c r,cs w=c :: r:=by
   cases h:cs w with
   | nil=>rw [h] at hb2;exact absurd hb2.1.1 (by decide)
   | cons c r=>exact ⟨c,r,rfl⟩
  have ok:okB w=(decide ((cs w).length ≤ 1) || decide ((cs w).headD 0 ≠ 48)):=by
   unfold okB;rw [hb',Bool.true_and]
  by_cases c0:w=Str.ofString "0"
  ·rw [if_pos (decide_eq_true c0)];have e:cs w=[48]:=by rw [c0,Py]
   rw [ok,e] at hQ;exact hQ
  ·rw [if_neg (by simpa using c0)];refine ⟨hz',c,?_,?_⟩
   ·have:=wb (xs:=cs w) (j:=0) (v:=c) (by rw [hcr];rfl);exact this
   ·have e2:decide ((⟨#[c]⟩:Str)=Str.ofString "0")=decide (c=48):=by
     rw [Py];by_cases h48:c=48
     ·rw [h48];simp
     ·rw [decide_eq_false h48,decide_eq_false];intro z;have z2:=jD.mp z;exact h48 (List.cons.inj z2).1
    rw [e2];have e3:okB w = !decide (c=48):=by
     rw [ok,hcr];show (decide ((c :: r).length ≤ 1) || decide (c ≠ 48))=_;by_cases h48:c=48
     ·have hr:r ≠ []:=fun z=>c0 (by rw [Py];exact jD.mpr (by rw [hcr,z,h48]))
      have:¬ (c :: r).length ≤ 1:=by
       cases r with
       | nil=>exact absurd rfl hr
       | cons d r=>simp
      rw [decide_eq_false this,h48];rfl
     ·rw [decide_eq_true h48,Bool.or_true,decide_eq_false h48];rfl
    rw [← e3];exact hQ
theorem ON (T:Txt w K mg t):Ub P w K mg base CX0 3 t.Ln t.Sn q37 SJ:=by
 have g31:Ub P w K mg base CX0 2 t.Cj t.Kj q27 ED:=SN T;refine T.Aq.ok Ot (fun vs H Q E h=>?_) (fun _ _ _ s H vs Q E hr h=>?_)
 ·obtain ⟨w,lo,hi,rfl,_⟩:=h;rfl
 obtain ⟨w,lo,hi,rfl,hz,nt,q⟩:=h;refine ⟨_,(fb (Pc (Uk (Vh (qb g31 hr T.Yx T.Lm.kp T.Vx (ab (pv 0) (ab (Di rfl T.Zs T.Cs) jb))))) (lb (Fb Jg)) Rb)
   (fb (yb (i:=3) Ot.nd (Hg uE rfl T.uP wC (ab (pv 0) jb)))
   (fb (Pc (PW.pt (gr (Ob av (pv 3) (pv 1) (Vb _)) (wn (Ob Pm (pv 3) (pv 2) (Vb _))))) (lb (Fb Jg)) Rb)
   (lb (Fb (pv 3)))))),?_⟩
 refine Mb (!okB w) (fun Q hQ=>?_) (fun hb=>?_) (fun hb=>?_)
 ·(walk_at "RD"; repeat (dsimp only [ED];walk_at "RD"));exact ⟨hz,nt,hQ⟩
 ·walk_at "RD";have hb':okB w=false:=by simpa using hb
  have e:bH w lo hi=.non:=by unfold bH;rw [hb'];rfl
  rw [e] at q;exact q
 ·have hb':okB w=true:=by simpa using hb
  have h3:(1 ≤ (cs w).length∧(cs w).length ≤ 3)∧(cs w).all Mp=true:=by
   have:=hb';unfold okB at this;simp only [Bool.and_eq_true,decide_eq_true_eq] at this;exact this.1
  have hl:=SG w;have hi':intText? w=some (val w):=intText_digits (Ku h3.2) (fun z=>by have z':cs w=[]:=z;rw [z'] at h3;exact absurd h3.1.1 (by decide)) (by omega);walk_at "RD";refine ⟨val w,hi',by omega,?_⟩;refine Mb (decide (val w < lo) || decide (hi < val w)) (fun Q hQ=>?_) (fun hc=>?_) (fun hc=>?_)
  ·walk_at "RD";by_cases c:val w < lo
   ·rw [if_pos (decide_eq_true c)];rw [decide_eq_true c,Bool.true_or] at hQ;exact hQ
   ·rw [if_neg (by simpa using c)];rw [decide_eq_false c,Bool.false_or] at hQ;exact hQ
  ·walk_at "RD";have e:bH w lo hi=.non:=by unfold bH;rw [hb',hc];rfl
   rw [e] at q;exact q
  ·walk_at "RD";have e:bH w lo hi=.int (val w):=by unfold bH;rw [hb',hc];rfl
   rw [e] at q;exact q
end
theorem Mq {n:Nat} (h:n < 1000):n.log2 < 1920:=by
 by_cases h0:n=0
 ·subst h0;decide
 ·rw [Nat.log2_lt h0];exact Nat.lt_of_lt_of_le h (Nat.le_trans (show 1000 ≤ 2 ^ 10 by decide) (Nat.pow_le_pow_right (by decide) (by decide)))
theorem IH:∀ n,n < 1000→(Nat.toDigits 10 n).length ≤ 3:=by decide +kernel
theorem vK {n:Int} (h0:0 ≤ n) (h1:n ≤ 999):(Str.ofString (toString n)).length ≤ 3:=by
 have e:=PySem.W.KIN.signs_num n.toNat;rw [Int.toNat_of_nonneg h0] at e;have l:(Str.ofString (toString n)).length=(Str.ofString (toString n)).cps.toList.length:=by simp [Str.length]
 rw [l,e,List.length_map];exact IH _ (by omega)
noncomputable abbrev Ai:Str:=Str.ofString "abcdefghijklmnopqrstuvwxyz"
noncomputable def QG:Sp:=fun vs H Q _=>∃ w,vs=[.str w]∧w.length ≤ 1000∧NoT H∧Q (.bl (made w Ai 8)) H
section
variable {P:Program} {w:World} {K:PySem.W.Frag} {mg:Str→Option Value} {base:Heap} {t:Adr}
theorem aM (T:Txt w K mg t):Ub P w K mg base CX0 2 t.zn t.Zm ["word"] QG:=by
 have g21:Ub P w K mg base CX0 1 t.Cg t.Eg q13 Pr:=DD T;refine T.Cr.ok XC (fun vs H Q E h=>?_) (fun _ _ _ s H vs Q E hr h=>?_)
 ·obtain ⟨w,rfl,_⟩:=h;rfl
 obtain ⟨w,rfl,hz,nt,q⟩:=h;refine ⟨_,(lb (Fb (qb g21 hr T.vp T.Th.kp T.pp (ab (pv 0) (ab (Di rfl T.ZE T.qE) (ab (Di rfl T.Hs T.Qs) jb)))))),?_⟩;(walk_at "RD"; repeat (dsimp only [Pr];walk_at "RD"));exact ⟨hz,nt,q⟩
end
noncomputable abbrev nl:Str:=Str.ofString "\n"
noncomputable abbrev bk:Str:=Str.ofString " "
theorem cP:nl=⟨#[10]⟩:=by decide +kernel
theorem QN:bk=⟨#[32]⟩:=by decide +kernel
noncomputable def Oj (x:Str):List (List Str):=(Txt.split x nl).map fun r=>Txt.split r bk
theorem jt:∀ {ys:List Str} {y:Str},y ∈ ys→y.length ≤ (ys.map (·.length)).sum
 | [],_,h=>nomatch h
 | a :: r,y,h=>by
  rw [List.map_cons,List.sum_cons];rcases List.mem_cons.mp h with rfl | h
  ·omega
  ·have:=jt h;omega
theorem eL {x y r:Str} (hy:1 ≤ y.length) (h:r ∈ Txt.split x y):r.length ≤ x.length + 1:=by
 have h1:=PyProof.Rows.split_weight x y hy;have h2:=jt h;omega
theorem ar {x y:Str} (hy:1 ≤ y.length):(Txt.split x y).length ≤ x.length + 1:=by
 have h1:=PyProof.Rows.split_weight x y hy;omega
theorem qH (x y:Str):Txt.split x y ≠ []:=by
 unfold Txt.split;split
 ·simp
 ·split
  ·simp
  ·rw [StrLaws.partsBetween_eq];obtain ⟨p,r,e⟩:=StrLaws.partsFrom_ne x y.length 0 (Builtin.Str.occurrences x y 0 x.length (x.length + 1));rw [e];simp
noncomputable def LL (H0 H:Hp) (p:Addr) (rows:List (List Str)):Prop:=∃ qs:List Addr,H p=some (.lst (qs.map V.ref))∧H0 p=none∧p ∉ qs∧qs.length=rows.length∧∀ (i:Nat) (q:Addr) (r:List Str),qs[i]? = some q→rows[i]? = some r→H q=some (.lst (Tc r))∧H0 q=none
noncomputable def aB:Sp:=fun vs H Q _=>∃ x,vs=[.str x]∧x.length ≤ 20000∧NoT H∧∀ p H',Sb H H'→NoT H'→LL H H' p (Oj x)→Q (.ref p) H'
theorem Oz:nl.length=1:=by decide +kernel
theorem jB:bk.length=1:=by decide +kernel
section
variable {P:Program} {w:World} {K:PySem.W.Frag} {mg:Str→Option Value} {base:Heap} {t:Adr}
theorem KH (T:Txt w K mg t):Ub P w K mg base CX0 1 t.Ov t.Ju ["text"] aB:=by
 refine T.az.ok XH (fun vs H Q E h=>?_) (fun _ _ _ s H vs Q E hr h=>?_)
 ·obtain ⟨x,rfl,_⟩:=h;rfl
 obtain ⟨x,rfl,hz,nt,q⟩:=h;have hzz:∀ n:Nat,n ≤ 40000→n ≤ sizeLine:=fun n h=>Nat.le_trans h (by decide)
 refine ⟨_,(lb (Fb (cg rfl (ng (Fp PySem.F.plainAttrs_str PySem.F.slot_str_split PySem.F.type_str_split yA (pv 0) (ab xc jb))) (Cc (sc:=ub Dy) rfl (by decide +kernel)) (N:=["row"]) (sel:=[none]) (Vc (M:=["text"]) (by decide +kernel)) (Blk.of (fun _ _ _ _=>(Ib (i:=0) (oh (N:=["row"]) (by decide +kernel) rfl))) (fun _ _ _ _=>⟨_,sf,by walk_at "B"⟩) (fun _ _ _ _=>⟨_,(Fp PySem.F.plainAttrs_str PySem.F.slot_str_split PySem.F.type_str_split yA (pv 0) (ab xc jb)),by walk_at "B"⟩))))),?_⟩;walk_at "RD";have hy:1 ≤ nl.length:=by rw [Oz];exact Nat.le_refl _
 have hy2:1 ≤ bk.length:=by rw [jB];exact Nat.le_refl _
 have hs:=ar (x:=x) hy;have hs':(Tc (Txt.split x nl)).length ≤ sizeLine:=by unfold Tc;rw [List.length_map];exact hzz _ (by omega)
 refine ⟨by rw [Oz];decide,hzz _ (by omega),hzz _ (show (Txt.split x nl).length ≤ 40000 by omega),fun p hp=>⟨⟨_,SqL.of ib⟩,?_⟩⟩;refine bd.list_mk (xs:=Tc (Txt.split x nl)) (fun v=>match v with | .str r=>.lst (Tc (Txt.split r bk)) | _=>.lst []) (SqL.of ib) hs' (fun v=>by cases v <;> rfl) (fun i v H1 N hx sm nt1 hN=>?_) (fun qs H1 sm nt1 hl al p2 hp2=>?_)
 ·unfold Tc at hx;rw [List.getElem?_map] at hx;cases hr:(Txt.split x nl)[i]? with
  | none=>rw [hr] at hx;cases hx
  | some r=>
   rw [hr] at hx;have e:=Option.some.inj hx;subst e;have hm:=eL hy (List.mem_of_getElem? hr);have hs2:=ar (x:=r) hy2;walk_at "RD";exact ⟨Sub.name,by rw [jB];decide,hzz _ (by omega),hzz _ (show (Txt.split r bk).length ≤ 40000 by omega),hN⟩
 ·have sm0:Sb H H1:=(db hp).trans sm;refine q _ _ (sm0.updN (sm0.free hp2)) ((nt1 (nt.upd)).upd) ⟨qs,ib,sm0.free hp2,fun hm=>?_,?_,fun i q' r h1 h2=>?_⟩
  ·obtain ⟨j,hj,e⟩:=List.getElem_of_mem hm;have hj2:j < (Tc (Txt.split x nl)).length:=by omega
   have:=al j p2 _ (by rw [List.getElem?_eq_getElem hj,e]) (List.getElem?_eq_getElem hj2);rw [hp2] at this;cases this.1
  ·rw [hl];unfold Oj Tc;rw [List.length_map,List.length_map]
  ·unfold Oj at h2;rw [List.getElem?_map] at h2;cases hr:(Txt.split x nl)[i]? with
   | none=>rw [hr] at h2;cases h2
   | some r0=>
    rw [hr] at h2;have e:=Option.some.inj h2;subst e;have z:=al i q' (.str r0) h1 (by unfold Tc;rw [List.getElem?_map,hr];rfl);refine ⟨by rw [Eb (Nb z.1 hp2)];exact z.1,?_⟩;have:=z.2;by_cases hq:q'=p
    ·rw [hq];exact hp
    ·rwa [Eb hq] at this
end
end My
namespace My
open PySem L2
structure WD where
 k:Nat
 name:Str
 start:Int
 fin:Int
 off:Int
 near:Int
 least:Int
noncomputable def ee:Nat→Str
 | 0=>Str.ofString "car"
 | 1=>Str.ofString "foot"
 | _=>Str.ofString "tram"
noncomputable def Adr.cw (t:Adr):Nat→Addr
 | 0=>t.kd
 | 1=>t.Ic
 | _=>t.Gc
noncomputable def ss (d:WD):List (Str × V):=[(Str.ofString "kind",.str (ee d.k)),(Str.ofString "name",.str d.name),(Str.ofString "start",.int d.start),(Str.ofString "end",.int d.fin),(Str.ofString "off",.int d.off),(Str.ofString "near",.int d.near),(Str.ofString "least",.int d.least)]
noncomputable abbrev Bs:List Str:=[Str.ofString "kind",Str.ofString "name",Str.ofString "start",Str.ofString "end",Str.ofString "off",Str.ofString "near",Str.ofString "least"]
theorem Ft (d:WD):(ss d).map (·.1)=Bs:=rfl
noncomputable def Pe (t:Adr) (H:Hp) (p:Addr) (d:WD):Prop:=d.k < 3∧∃ dx,H p=some (.ins (t.cw d.k) dx (ss d))
theorem Pe.same {t:Adr} {H H':Hp} {p:Addr} {d:WD} (h:Pe t H p d) (s:Sb H H'):Pe t H' p d:=⟨h.1,h.2.imp fun dx e=>s _ _ e⟩
noncomputable def isW (t:Adr) (C:Addr):Prop:=∃ k,k < 3∧C=t.cw k
noncomputable def Gh (d:WD):Int:=match d.k with | 0=>1 | 1=>0 | _=>2
noncomputable def Rn (d:WD):Int:=match d.k with | 0=>2 | 1=>d.off | _=>1
section
variable {w:World} {K:PySem.W.Frag} {mg:Str→Option Value} {t:Adr}
theorem Txt.clw (T:Txt w K mg t):∀ k,Cls K (t.cw k)
 | 0=>T.Hq
 | 1=>T.Go
 | _ + 2=>T.zo
theorem Txt.naw (T:Txt w K mg t) {f:Str} (hf:f ∈ Bs):∀ k,kc K (t.cw k) f:=by
 intro k;simp only [Bs,List.mem_cons,List.not_mem_nil,or_false] at hf;rcases hf with rfl | rfl | rfl | rfl | rfl | rfl | rfl
 ·match k with
  | 0=>exact T.Gs
  | 1=>exact T.Br
  | _ + 2=>exact T.Iq
 ·match k with
  | 0=>exact T.Ls
  | 1=>exact T.Hr
  | _ + 2=>exact T.Dr
 ·match k with
  | 0=>exact T.Lq
  | 1=>exact T.Qp
  | _ + 2=>exact T.Up
 ·match k with
  | 0=>exact T.Ou
  | 1=>exact T.Yr
  | _ + 2=>exact T.Ms
 ·match k with
  | 0=>exact T.Uu
  | 1=>exact T.As
  | _ + 2=>exact T.Ws
 ·match k with
  | 0=>exact T.Ts
  | 1=>exact T.Nq
  | _ + 2=>exact T.Fq
 ·match k with
  | 0=>exact T.Ar
  | 1=>exact T.Ip
  | _ + 2=>exact T.Dp
theorem Txt.cw_inj (T:Txt w K mg t) {j k:Nat} (hj:j < 3) (hk:k < 3) (e:t.cw j=t.cw k):j=k:=by
 match j,k,hj,hk with
 | 0,0,_,_=>rfl
 | 0,1,_,_=>exact absurd e T.Xi
 | 0,2,_,_=>exact absurd e T.cj
 | 1,0,_,_=>exact absurd e.symm T.Xi
 | 1,1,_,_=>rfl
 | 1,2,_,_=>exact absurd e T.Kh
 | 2,0,_,_=>exact absurd e.symm T.cj
 | 2,1,_,_=>exact absurd e.symm T.Kh
 | 2,2,_,_=>rfl
 | j + 3,_,h,_=>omega
 | _,k + 3,_,h=>omega
theorem Pe.fld (T:Txt w K mg t) {H:Hp} {p:Addr} {d:WD} (h:Pe t H p d) {f:Str} {v:V} (i:Nat) (hi:Bs.findIdx? (· == f)=some i) (hv:(ss d)[i]? = some (f,v)):Wl K H p f v:=by
 obtain ⟨_,dx,e⟩:=h;have hm:f ∈ Bs:=by
  obtain ⟨hlt,h1,_⟩:=List.findIdx?_eq_some_iff_getElem.mp hi;have:Bs[i]=f:=by simpa using h1
  rw [← this];exact List.getElem_mem hlt
 exact ⟨_,dx,_,e,T.clw _,T.naw hm _,Le Bs i (Ft d) hi hv⟩
theorem Pe.f_name (T:Txt w K mg t) {H:Hp} {p:Addr} {d:WD} (h:Pe t H p d):Wl K H p (Str.ofString "name") (.str d.name):=h.fld T 1 (by decide +kernel) rfl
theorem Pe.f_start (T:Txt w K mg t) {H:Hp} {p:Addr} {d:WD} (h:Pe t H p d):Wl K H p (Str.ofString "start") (.int d.start):=h.fld T 2 (by decide +kernel) rfl
theorem Pe.f_end (T:Txt w K mg t) {H:Hp} {p:Addr} {d:WD} (h:Pe t H p d):Wl K H p (Str.ofString "end") (.int d.fin):=h.fld T 3 (by decide +kernel) rfl
theorem Pe.f_off (T:Txt w K mg t) {H:Hp} {p:Addr} {d:WD} (h:Pe t H p d):Wl K H p (Str.ofString "off") (.int d.off):=h.fld T 4 (by decide +kernel) rfl
theorem Pe.f_near (T:Txt w K mg t) {H:Hp} {p:Addr} {d:WD} (h:Pe t H p d):Wl K H p (Str.ofString "near") (.int d.near):=h.fld T 5 (by decide +kernel) rfl
end
noncomputable def Pu (t:Adr):Sp:=fun vs H Q _=>∃ (p dx:Addr) (d:WD),vs=[.ref p,.str (ee d.k),.str d.name,.int d.start,.int d.fin,.int d.off,.int d.near,.int d.least]∧d.k < 3∧H p=some (.ins (t.cw d.k) dx [])∧Q .non (upd H p (.ins (t.cw d.k) dx (ss d)))
noncomputable def Nl (t:Adr) (k:Nat):Sp:=fun vs H Q _=>∃ (p dx:Addr) (d:WD),vs=[.ref p,.str d.name,.int d.start,.int d.fin,.int d.off,.int d.near,.int d.least]∧d.k=k∧H p=some (.ins (t.cw d.k) dx [])∧Q .non (upd H p (.ins (t.cw d.k) dx (ss d)))
section
variable {P:Program} {w:World} {K:PySem.W.Frag} {mg:Str→Option Value} {base:Heap} {t:Adr}
theorem lz (T:Txt w K mg t):Ub P w K mg base CX0 1 t.ig t.nh q17 (Pu t):=by
 refine T.lu.ok Oq (fun vs H Q E h=>?_) (fun _ _ _ s H vs Q E hr h=>?_)
 ·obtain ⟨p,dx,d,rfl,_⟩:=h;rfl
 obtain ⟨p,dx,d,rfl,hk,hp,q⟩:=h;refine ⟨_,(fb (Sg (pv 0) (pv 1) rfl)
   (fb (Sg (pv 0) (pv 2) rfl)
   (fb (Sg (pv 0) (pv 3) rfl)
   (fb (Sg (pv 0) (pv 4) rfl)
   (fb (Sg (pv 0) (pv 5) rfl)
   (fb (Sg (pv 0) (pv 6) rfl)
   (lb (Sg (pv 0) (pv 7) rfl)))))))),?_⟩
 walk_at "RD";have na:∀ {f:Str},f ∈ Bs→kc K (t.cw d.k) f:=fun hf=>T.naw hf d.k
 refine ⟨_,_,_,hp,T.clw _,na (by decide +kernel),by decide,?_⟩;refine ⟨_,_,_,ib,T.clw _,na (by decide +kernel),Jp (n:=999) (by decide),?_⟩;refine ⟨_,_,_,ib,T.clw _,na (by decide +kernel),Jp (n:=999) (Jp (n:=998) (by decide)),?_⟩;refine ⟨_,_,_,ib,T.clw _,na (by decide +kernel),Jp (n:=999) (Jp (n:=998) (Jp (n:=997) (by decide))),?_⟩;refine ⟨_,_,_,ib,T.clw _,na (by decide +kernel),Jp (n:=999) (Jp (n:=998) (Jp (n:=997) (Jp (n:=996) (by decide)))),?_⟩;refine ⟨_,_,_,ib,T.clw _,na (by decide +kernel),Jp (n:=999) (Jp (n:=998) (Jp (n:=997) (Jp (n:=996) (Jp (n:=995) (by decide))))),?_⟩;refine ⟨_,_,_,ib,T.clw _,na (by decide +kernel),Jp (n:=999) (Jp (n:=998) (Jp (n:=997) (Jp (n:=996) (Jp (n:=995) (Jp (n:=994) (by decide)))))),?_⟩;simp only [Gm];rw [show nj (Str.ofString "kind") (V.str (ee d.k)) ([]:List (Str × V))=[(Str.ofString "kind",V.str (ee d.k))] from je [] rfl (by decide +kernel),
  show nj (Str.ofString "name") (V.str d.name) ([(Str.ofString "kind",V.str (ee d.k))]:List (Str × V))=[(Str.ofString "kind",V.str (ee d.k)),(Str.ofString "name",V.str d.name)] from je [Str.ofString "kind"] rfl (by decide +kernel),
  show nj (Str.ofString "start") (V.int d.start) ([(Str.ofString "kind",V.str (ee d.k)),(Str.ofString "name",V.str d.name)]:List (Str × V))=[(Str.ofString "kind",V.str (ee d.k)),(Str.ofString "name",V.str d.name),(Str.ofString "start",V.int d.start)] from je [Str.ofString "kind",Str.ofString "name"] rfl (by decide +kernel),
  show nj (Str.ofString "end") (V.int d.fin) ([(Str.ofString "kind",V.str (ee d.k)),(Str.ofString "name",V.str d.name),(Str.ofString "start",V.int d.start)]:List (Str × V))=[(Str.ofString "kind",V.str (ee d.k)),(Str.ofString "name",V.str d.name),(Str.ofString "start",V.int d.start),(Str.ofString "end",V.int d.fin)] from je [Str.ofString "kind",Str.ofString "name",Str.ofString "start"] rfl (by decide +kernel),
  show nj (Str.ofString "off") (V.int d.off) ([(Str.ofString "kind",V.str (ee d.k)),(Str.ofString "name",V.str d.name),(Str.ofString "start",V.int d.start),(Str.ofString "end",V.int d.fin)]:List (Str × V))=[(Str.ofString "kind",V.str (ee d.k)),(Str.ofString "name",V.str d.name),(Str.ofString "start",V.int d.start),(Str.ofString "end",V.int d.fin),(Str.ofString "off",V.int d.off)] from je [Str.ofString "kind",Str.ofString "name",Str.ofString "start",Str.ofString "end"] rfl (by decide +kernel),
  show nj (Str.ofString "near") (V.int d.near) ([(Str.ofString "kind",V.str (ee d.k)),(Str.ofString "name",V.str d.name),(Str.ofString "start",V.int d.start),(Str.ofString "end",V.int d.fin),(Str.ofString "off",V.int d.off)]:List (Str × V))=[(Str.ofString "kind",V.str (ee d.k)),(Str.ofString "name",V.str d.name),(Str.ofString "start",V.int d.start),(Str.ofString "end",V.int d.fin),(Str.ofString "off",V.int d.off),(Str.ofString "near",V.int d.near)] from je [Str.ofString "kind",Str.ofString "name",Str.ofString "start",Str.ofString "end",Str.ofString "off"] rfl (by decide +kernel),
  show nj (Str.ofString "least") (V.int d.least) ([(Str.ofString "kind",V.str (ee d.k)),(Str.ofString "name",V.str d.name),(Str.ofString "start",V.int d.start),(Str.ofString "end",V.int d.fin),(Str.ofString "off",V.int d.off),(Str.ofString "near",V.int d.near)]:List (Str × V))=[(Str.ofString "kind",V.str (ee d.k)),(Str.ofString "name",V.str d.name),(Str.ofString "start",V.int d.start),(Str.ofString "end",V.int d.fin),(Str.ofString "off",V.int d.off),(Str.ofString "near",V.int d.near),(Str.ofString "least",V.int d.least)] from je [Str.ofString "kind",Str.ofString "name",Str.ofString "start",Str.ofString "end",Str.ofString "off",Str.ofString "near"] rfl (by decide +kernel)]
 exact q
theorem EL (T:Txt w K mg t):Ub P w K mg base CX0 2 t.Vf t.jh q5 (Nl t 0):=by
 have g11:Ub P w K mg base CX0 1 t.ig t.nh q17 (Pu t):=lz T;refine T.Hn.ok bo (fun vs H Q E h=>?_) (fun _ _ _ s H vs Q E hr h=>?_)
 ·obtain ⟨p,dx,d,rfl,_⟩:=h;rfl
 obtain ⟨p,dx,d,rfl,hk,hp,q⟩:=h;refine ⟨_,(lb (Ge (Vu rfl T.QK T.Io g11 hr T.Qo .nil Ce (ab (pv 0) (ab xc (ab (pv 1) (ab (pv 2) (ab (pv 3) (ab (pv 4) (ab (pv 5) (ab (pv 6) jb))))))))))),?_⟩;walk_at "RD";exact ⟨p,dx,d,by rw [hk];rfl,by omega,hp,q⟩
theorem yI (T:Txt w K mg t):Ub P w K mg base CX0 2 t.jf t.Ag q5 (Nl t 1):=by
 have g11:Ub P w K mg base CX0 1 t.ig t.nh q17 (Pu t):=lz T;refine T.om.ok Dm (fun vs H Q E h=>?_) (fun _ _ _ s H vs Q E hr h=>?_)
 ·obtain ⟨p,dx,d,rfl,_⟩:=h;rfl
 obtain ⟨p,dx,d,rfl,hk,hp,q⟩:=h;refine ⟨_,(lb (Ge (Vu rfl T.QK T.Io g11 hr T.Qo .nil Ce (ab (pv 0) (ab xc (ab (pv 1) (ab (pv 2) (ab (pv 3) (ab (pv 4) (ab (pv 5) (ab (pv 6) jb))))))))))),?_⟩;walk_at "RD";exact ⟨p,dx,d,by rw [hk];rfl,by omega,hp,q⟩
theorem YH (T:Txt w K mg t):Ub P w K mg base CX0 2 t.kf t.rg q5 (Nl t 2):=by
 have g11:Ub P w K mg base CX0 1 t.ig t.nh q17 (Pu t):=lz T;refine T.am.ok zm (fun vs H Q E h=>?_) (fun _ _ _ s H vs Q E hr h=>?_)
 ·obtain ⟨p,dx,d,rfl,_⟩:=h;rfl
 obtain ⟨p,dx,d,rfl,hk,hp,q⟩:=h;refine ⟨_,(lb (Ge (Vu rfl T.QK T.Io g11 hr T.Qo .nil Ce (ab (pv 0) (ab xc (ab (pv 1) (ab (pv 2) (ab (pv 3) (ab (pv 4) (ab (pv 5) (ab (pv 6) jb))))))))))),?_⟩;walk_at "RD";exact ⟨p,dx,d,by rw [hk];rfl,by omega,hp,q⟩
end
noncomputable def ol (t:Adr) (C:Addr):Sp:=fun vs H Q _=>∃ p d,vs=[.ref p]∧Pe t H p d∧C=t.cw d.k∧Q (.int (Gh d)) H
noncomputable def Ym (t:Adr) (C:Addr):Sp:=fun vs H Q _=>∃ p d,vs=[.ref p]∧Pe t H p d∧C=t.cw d.k∧Q (.int (Rn d)) H
section
variable {P:Program} {w:World} {K:PySem.W.Frag} {mg:Str→Option Value} {base:Heap} {t:Adr}
theorem xr (T:Txt w K mg t):Ub P w K mg base CX0 1 t.qg t.Ei ["self"] (ol t (t.cw 0)):=by
 refine T.vm.ok Wr (fun vs H Q E h=>?_) (fun _ _ _ s H vs Q E hr h=>?_)
 ·obtain ⟨p,d,rfl,_⟩:=h;rfl
 obtain ⟨p,d,rfl,W,hC,q⟩:=h;have hk:=(T.cw_inj (by decide) W.1 hC).symm;refine ⟨_,(lb (Fb gb)),?_⟩;rw [show Gh d=1 by unfold Gh;simp only [hk]] at q;walk_at "RD";exact q
theorem Wp (T:Txt w K mg t):Ub P w K mg base CX0 1 t.Uf t.Bh ["self"] (ol t (t.cw 1)):=by
 refine T.dl.ok Np (fun vs H Q E h=>?_) (fun _ _ _ s H vs Q E hr h=>?_)
 ·obtain ⟨p,d,rfl,_⟩:=h;rfl
 obtain ⟨p,d,rfl,W,hC,q⟩:=h;have hk:=(T.cw_inj (by decide) W.1 hC).symm;refine ⟨_,(lb (Fb gb)),?_⟩;rw [show Gh d=0 by unfold Gh;simp only [hk]] at q;walk_at "RD";exact q
theorem Vp (T:Txt w K mg t):Ub P w K mg base CX0 1 t.Mf t.Ch ["self"] (ol t (t.cw 2)):=by
 refine T.Tk.ok Ep (fun vs H Q E h=>?_) (fun _ _ _ s H vs Q E hr h=>?_)
 ·obtain ⟨p,d,rfl,_⟩:=h;rfl
 obtain ⟨p,d,rfl,W,hC,q⟩:=h;have hk:=(T.cw_inj (by decide) W.1 hC).symm;refine ⟨_,(lb (Fb gb)),?_⟩;rw [show Gh d=2 by unfold Gh;simp only [hk]] at q;walk_at "RD";exact q
theorem kL (T:Txt w K mg t):JL P w K mg base CX0 1 (isW t) "ready" ["self"] (ol t):=by
 refine ⟨fun C hC=>?_⟩;obtain ⟨k,hk,rfl⟩:=hC
 match k,hk with
 | 0,_=>exact ⟨_,_,T.Hq,T.Ds,xr T,T.js⟩
 | 1,_=>exact ⟨_,_,T.Go,T.Sr,Wp T,T.Xq⟩
 | 2,_=>exact ⟨_,_,T.zo,T.Dq,Vp T,T.Zq⟩
theorem Us (T:Txt w K mg t):Ub P w K mg base CX0 1 t.kh t.rj ["self"] (Ym t (t.cw 0)):=by
 refine T.dn.ok Fs (fun vs H Q E h=>?_) (fun _ _ _ s H vs Q E hr h=>?_)
 ·obtain ⟨p,d,rfl,_⟩:=h;rfl
 obtain ⟨p,d,rfl,W,hC,q⟩:=h;have hk:=(T.cw_inj (by decide) W.1 hC).symm;refine ⟨_,(lb (Fb gb)),?_⟩;rw [show Rn d=2 by unfold Rn;simp only [hk]] at q;walk_at "RD";exact q
theorem Kq (T:Txt w K mg t):Ub P w K mg base CX0 1 t.vg t.vi ["self"] (Ym t (t.cw 1)):=by
 refine T.qm.ok rq (fun vs H Q E h=>?_) (fun _ _ _ s H vs Q E hr h=>?_)
 ·obtain ⟨p,d,rfl,_⟩:=h;rfl
 obtain ⟨p,d,rfl,W,hC,q⟩:=h;have hk:=(T.cw_inj (by decide) W.1 hC).symm;refine ⟨_,(lb (Fb (uc (pv 0) rfl))),?_⟩;rw [show Rn d=d.off by unfold Rn;simp only [hk]] at q;walk_at "RD";exact ⟨_,W.f_off T,q⟩
theorem br (T:Txt w K mg t):Ub P w K mg base CX0 1 t.Bg t.Bi ["self"] (Ym t (t.cw 2)):=by
 refine T.tm.ok Vq (fun vs H Q E h=>?_) (fun _ _ _ s H vs Q E hr h=>?_)
 ·obtain ⟨p,d,rfl,_⟩:=h;rfl
 obtain ⟨p,d,rfl,W,hC,q⟩:=h;have hk:=(T.cw_inj (by decide) W.1 hC).symm;refine ⟨_,(lb (Fb gb)),?_⟩;rw [show Rn d=1 by unfold Rn;simp only [hk]] at q;walk_at "RD";exact q
theorem wN (T:Txt w K mg t):JL P w K mg base CX0 1 (isW t) "fade" ["self"] (Ym t):=by
 refine ⟨fun C hC=>?_⟩;obtain ⟨k,hk,rfl⟩:=hC
 match k,hk with
 | 0,_=>exact ⟨_,_,T.Hq,T.Hu,Us T,T.Xu⟩
 | 1,_=>exact ⟨_,_,T.Go,T.Xr,Kq T,T.Ys⟩
 | 2,_=>exact ⟨_,_,T.zo,T.Ss,br T,T.Zr⟩
end
noncomputable def jl (c:Nat):List (List Nat)→List Nat
 | []=>[]
 | [a]=>a
 | a :: b :: r=>a ++ c :: jl c (b :: r)
theorem EG {c:Nat}:∀ {a b X Y:List Nat},c ∉ a→c ∉ b→a ++ c :: X=b ++ c :: Y→a=b∧X=Y
 | [],[],X,Y,_,_,h=>⟨rfl,(List.cons.inj h).2⟩
 | [],d :: b,X,Y,_,hb,h=>absurd (List.cons.inj h).1 (fun z=>hb (by simp [← z]))
 | d :: a,[],X,Y,ha,_,h=>absurd (List.cons.inj h).1 (fun z=>ha (by simp [z]))
 | d :: a,e :: b,X,Y,ha,hb,h=>by
  obtain ⟨h1,h2⟩:=List.cons.inj h;obtain ⟨e1,e2⟩:=EG (fun z=>ha (List.mem_cons_of_mem _ z)) (fun z=>hb (List.mem_cons_of_mem _ z)) h2;exact ⟨by rw [h1,e1],e2⟩
theorem DJ {c:Nat}:∀ {ps qs:List (List Nat)},(∀ p ∈ ps,c ∉ p)→(∀ q ∈ qs,c ∉ q)→ps ≠ []→qs ≠ []→jl c ps=jl c qs→ps=qs
 | [a],[b],_,_,_,_,h=>by rw [show a=b from h]
 | [a],b :: b' :: r,ha,_,_,_,h=>absurd (show c ∈ a by rw [show a=b ++ c :: jl c (b' :: r) from h];simp) (ha a (by simp))
 | a :: a' :: r,[b],_,hb,_,_,h=>absurd (show c ∈ b by rw [show b=a ++ c :: jl c (a' :: r) from h.symm];simp) (hb b (by simp))
 | a :: a' :: r,b :: b' :: s,ha,hb,_,_,h=>by
  obtain ⟨e1,e2⟩:=EG (ha a (by simp)) (hb b (by simp)) (show a ++ c :: jl c (a' :: r)=b ++ c :: jl c (b' :: s) from h);rw [e1,DJ (fun p hp=>ha p (List.mem_cons_of_mem _ hp)) (fun q hq=>hb q (List.mem_cons_of_mem _ hq)) (by simp) (by simp) e2]
 | [],_,_,_,h,_,_=>absurd rfl h
 | _ :: _,[],_,_,_,h,_=>absurd rfl h
theorem sJ {c d:Nat}:∀ {ps:List (List Nat)},d ∈ jl c ps→d=c∨∃ p ∈ ps,d ∈ p
 | [],h=>nomatch h
 | [a],h=>.inr ⟨a,by simp,h⟩
 | a :: b :: r,h=>by
  rcases List.mem_append.mp (show d ∈ a ++ c :: jl c (b :: r) from h) with h | h
  ·exact .inr ⟨a,by simp,h⟩
  ·rcases List.mem_cons.mp h with h | h
   ·exact .inl h
   ·rcases sJ h with h | ⟨p,hp,h⟩
    ·exact .inl h
    ·exact .inr ⟨p,List.mem_cons_of_mem _ hp,h⟩
theorem nv (c:Nat):∀ ys:List Str,(Str.join ⟨#[c]⟩ ys).cps.toList=jl c (ys.map (·.cps.toList))
 | []=>rfl
 | [a]=>rfl
 | a :: b :: r=>by
  show (a ++ ⟨#[c]⟩ ++ Str.join ⟨#[c]⟩ (b :: r)).cps.toList=_;rw [Str.cps_append,Array.toList_append,Str.cps_append,Array.toList_append,nv c (b :: r)];simp [jl]
theorem QF {x y:Str} (h:x.cps.toList=y.cps.toList):x=y:=by
 cases x;cases y;exact congrArg Str.mk (Array.toList_inj.mp h)
theorem nu {c:Nat} {ys:List Str} (hn:ys ≠ []) (hf:∀ y ∈ ys,c ∉ y.cps.toList):Txt.split (Str.join ⟨#[c]⟩ ys) ⟨#[c]⟩=ys:=by
 have e:=congrArg (·.cps.toList) (StrLaws.join_split (Str.join ⟨#[c]⟩ ys) ⟨#[c]⟩);simp only [nv] at e;have e2:=DJ (c:=c) (ps:=(Txt.split (Str.join ⟨#[c]⟩ ys) ⟨#[c]⟩).map (·.cps.toList)) (qs:=ys.map (·.cps.toList)) (fun p hp=>by
  obtain ⟨y,hy,rfl⟩:=List.mem_map.mp hp;exact StrLaws.split_free _ c y hy) (fun p hp=>by
  obtain ⟨y,hy,rfl⟩:=List.mem_map.mp hp;exact hf y hy) (by simp [qH]) (by simpa using hn) e
 exact (List.map_inj_right fun x y h=>QF h).mp e2
noncomputable abbrev num (v:Int):Str:=Str.ofString (toString v)
theorem dM:∀ n,n < 1000→(decide (1 ≤ ((Nat.toDigits 10 n).map Char.toNat).length) && decide (((Nat.toDigits 10 n).map Char.toNat).length ≤ 3) && ((Nat.toDigits 10 n).map Char.toNat).all Mp && (decide (((Nat.toDigits 10 n).map Char.toNat).length ≤ 1) || decide (((Nat.toDigits 10 n).map Char.toNat).headD 0 ≠ 48)) &&
  decide (NumText.digitsVal ((Nat.toDigits 10 n).map Char.toNat)=n))=true:=by decide +kernel
theorem Wz {v:Int} (h0:0 ≤ v) (h1:v < 1000):okB (num v)=true∧val (num v)=v:=by
 have e:=PySem.W.KIN.signs_num v.toNat;rw [Int.toNat_of_nonneg h0] at e;have a:=dM v.toNat (by omega);rw [← e,Bool.and_eq_true,decide_eq_true_eq] at a;exact ⟨a.1,by show ((NumText.digitsVal (cs (num v)):Nat):Int)=v;rw [a.2];omega⟩
theorem qo {v lo hi:Int} (h0:0 ≤ v) (h1:v < 1000) (hl:lo ≤ v) (hh:v ≤ hi):bH (num v) lo hi=.int v:=by
 obtain ⟨a,b⟩:=Wz h0 h1;unfold bH;rw [a,b,decide_eq_false (by omega:¬ v < lo),decide_eq_false (by omega:¬ hi < v)];rfl
theorem YK {u v:Int} (h0:0 ≤ u) (h1:u < 1000) (h2:0 ≤ v) (h3:v < 1000) (e:num u=num v):u=v:=by
 rw [← (Wz h0 h1).2,e,(Wz h2 h3).2]
theorem CA {v:Int} (h0:0 ≤ v) (h1:v < 1000):∀ c ∈ (num v).cps.toList,48 ≤ c∧c ≤ 57:=fun c hc=>by
 have:=List.all_eq_true.mp (yM (Wz h0 h1).1).2 c hc;simpa [Mp] using this
theorem cO:∀ c ∈ Ai.cps.toList,97 ≤ c∧c ≤ 122:=by decide +kernel
theorem LM:∀ k,k < 26→97 + k ∈ Ai.cps.toList:=by decide +kernel
theorem Dk {x:Str} (h:made x Ai 8=true):(1 ≤ x.length∧x.length ≤ 8)∧∀ c ∈ x.cps.toList,97 ≤ c∧c ≤ 122:=by
 unfold made at h;split at h
 ·cases h
 ·rename_i h1;split at h
  ·cases h
  ·rename_i h2;have h3:¬ x.length=0:=fun z=>h1 (AO.mpr z)
   refine ⟨by omega,fun c hc=>?_⟩;have:=List.all_eq_true.mp h c hc;rw [Gy] at this;exact cO c (of_decide_eq_true this)
theorem Hw {x:Str} (h0:1 ≤ x.length) (h1:x.length ≤ 8) (h:∀ c ∈ x.cps.toList,97 ≤ c∧c ≤ 122):made x Ai 8=true:=by
 unfold made;rw [if_neg (fun z=>by have:=AO.mp z;omega),if_neg (by omega)];refine List.all_eq_true.mpr fun c hc=>?_
 have:=h c hc;rw [Gy];have e:=LM (c - 97) (by omega);rw [show 97 + (c - 97)=c by omega] at e;exact decide_eq_true e
structure WOk (n:Int) (d:WD):Prop where
 k:d.k < 3
 nm:made d.name Ai 8=true
 st:0 ≤ d.start∧d.start < n
 fi:0 ≤ d.fin∧d.fin < n
 ne:d.start ≠ d.fin
 of:0 ≤ d.off∧d.off ≤ 30
 nr:0 ≤ d.near∧d.near ≤ 30
 le:1 ≤ d.least∧d.least ≤ 60
structure COk (n:Int) (ds:List WD):Prop where
 nn:2 ≤ n∧n ≤ 99
 ln:1 ≤ ds.length∧ds.length ≤ 12
 al:∀ d ∈ ds,WOk n d
 nd:(ds.map (·.name)).Nodup
noncomputable def Wi (d:WD):List Str:=[ee d.k,d.name,num d.start,num d.fin,num d.off,num d.near,num d.least]
noncomputable def yi (n:Int) (ds:List WD):List (List Str):=[Str.ofString "ring",num n] :: ds.map Wi
noncomputable def yv (n:Int) (ds:List WD):Str:=Str.join nl ((yi n ds).map (Str.join bk))
noncomputable def ly (x:Str):Prop:=x.length ≤ 8∧(32:Nat) ∉ x.cps.toList∧(10:Nat) ∉ x.cps.toList
theorem su (k:Nat):ly (ee k):=by
 match k with
 | 0=>exact ⟨by decide +kernel,by decide +kernel,by decide +kernel⟩
 | 1=>exact ⟨by decide +kernel,by decide +kernel,by decide +kernel⟩
 | _ + 2=>exact ⟨show (Str.ofString "tram").length ≤ 8 by decide +kernel,show (32:Nat) ∉ (Str.ofString "tram").cps.toList by decide +kernel,show (10:Nat) ∉ (Str.ofString "tram").cps.toList by decide +kernel⟩
theorem se {v:Int} (h0:0 ≤ v) (h1:v < 1000):ly (num v):=
 ⟨Nat.le_trans (vK h0 (by omega)) (by decide),fun z=>by have:=CA h0 h1 _ z;omega,fun z=>by have:=CA h0 h1 _ z;omega⟩
theorem Ht {x:Str} (h:made x Ai 8=true):ly x:=
 ⟨(Dk h).1.2,fun z=>by have:=(Dk h).2 _ z;omega,fun z=>by have:=(Dk h).2 _ z;omega⟩
theorem WOk.plain {n:Int} {d:WD} (h:WOk n d) (hn:n ≤ 99):∀ x ∈ Wi d,ly x:=fun x hx=>by
 have h1:=h.st;have h2:=h.fi;have h3:=h.of;have h4:=h.nr;have h5:=h.le;simp only [Wi,List.mem_cons,List.not_mem_nil,or_false] at hx;rcases hx with rfl | rfl | rfl | rfl | rfl | rfl | rfl
 ·exact su _
 ·exact Ht h.nm
 ·exact se (by omega) (by omega)
 ·exact se (by omega) (by omega)
 ·exact se (by omega) (by omega)
 ·exact se (by omega) (by omega)
 ·exact se (by omega) (by omega)
theorem COk.plain {n:Int} {ds:List WD} (h:COk n ds):∀ r ∈ yi n ds,∀ x ∈ r,ly x:=fun r hr x hx=>by
 have hn:=h.nn;rcases List.mem_cons.mp hr with rfl | hr
 ·simp only [List.mem_cons,List.not_mem_nil,or_false] at hx;rcases hx with rfl | rfl
  ·exact ⟨by decide +kernel,by decide +kernel,by decide +kernel⟩
  ·exact se (by omega) (by omega)
 ·obtain ⟨d,hd,rfl⟩:=List.mem_map.mp hr;exact (h.al d hd).plain hn.2 x hx
theorem jF {rs:List (List Str)} (h0:rs ≠ []) (h1:∀ r ∈ rs,r ≠ []) (h2:∀ r ∈ rs,∀ x ∈ r,ly x):Oj (Str.join nl (rs.map (Str.join bk)))=rs:=by
 unfold Oj;rw [cP,QN];rw [nu (by simpa using h0) (fun y hy=>by
  obtain ⟨r,hr,rfl⟩:=List.mem_map.mp hy;rw [nv];intro z;rcases sJ z with z | ⟨p,hp,z⟩
  ·cases z
  ·obtain ⟨x,hx,rfl⟩:=List.mem_map.mp hp;exact (h2 r hr x hx).2.2 z)]
 rw [List.map_map];have:∀ r ∈ rs,((fun r=>Txt.split r ⟨#[32]⟩) ∘ Str.join ⟨#[32]⟩) r=r:=fun r hr=>nu (h1 r hr) fun x hx=>(h2 r hr x hx).2.1
 exact (List.map_congr_left this).trans (List.map_id rs)
theorem RB {n:Int} {ds:List WD} (h:COk n ds):Oj (yv n ds)=yi n ds:=jF (by simp [yi]) (fun r hr=>by
 rcases List.mem_cons.mp hr with rfl | hr
 ·simp
 ·obtain ⟨d,hd,rfl⟩:=List.mem_map.mp hr;simp [Wi]) h.plain
theorem qv (sep:Str) (B:Nat):∀ ys:List Str,(∀ y ∈ ys,y.length ≤ B)→(Str.join sep ys).length ≤ ys.length * (B + sep.length)
 | [],_=>by show (Str.empty).length ≤ _;exact Nat.zero_le _
 | [a],h=>by
  have:=h a (by simp);show a.length ≤ _;simp only [List.length_cons,List.length_nil];omega
 | a :: b :: r,h=>by
  have h1:=h a (by simp);have h2:=qv sep B (b :: r) fun y hy=>h y (List.mem_cons_of_mem _ hy)
  show (a ++ sep ++ Str.join sep (b :: r)).length ≤ _;rw [Ty,Ty,List.length_cons,Nat.succ_mul];omega
theorem iF {n:Int} {ds:List WD} (h:COk n ds):(yv n ds).length ≤ 1000:=by
 have h1:∀ y ∈ (yi n ds).map (Str.join bk),y.length ≤ 63:=fun y hy=>by
  obtain ⟨r,hr,rfl⟩:=List.mem_map.mp hy;have:=qv bk 8 r fun x hx=>(h.plain r hr x hx).1
  rw [jB] at this;have hl:r.length ≤ 7:=by
   rcases List.mem_cons.mp hr with rfl | hr
   ·simp
   ·obtain ⟨d,hd,rfl⟩:=List.mem_map.mp hr;simp [Wi]
  omega
 have h2:=qv nl 63 _ h1;rw [Oz] at h2;have h3:((yi n ds).map (Str.join bk)).length ≤ 13:=by
  have:=h.ln;simp [yi];omega
 unfold yv;omega
end My
namespace My
open PySem L2
noncomputable abbrev Ex:List Str:=[Str.ofString "row",Str.ofString "told",Str.ofString "place"]
noncomputable def rdF (row:Int) (ta:Addr) (pl:Int):List (Str × V):=[(Str.ofString "row",.int row),(Str.ofString "told",.ref ta),(Str.ofString "place",.int pl)]
theorem io (row:Int) (ta:Addr) (pl:Int):(rdF row ta pl).map (·.1)=Ex:=rfl
theorem mL (row:Int) (ta:Addr) (pl v:Int):nj (Str.ofString "place") (.int v) (rdF row ta pl)=rdF row ta v:=by
 unfold rdF;simp only [nj];rw [if_neg (by decide +kernel),if_neg (by decide +kernel)];rfl
noncomputable def yh (t:Adr) (H:Hp) (p:Addr) (row:Int) (ws:List Str) (pl:Nat):Prop:=
 (ws.length ≤ 1000∧∀ x ∈ ws,x.length ≤ 1000)∧∃ dx ta,H p=some (.ins t.Qb dx (rdF row ta pl))∧H ta=some (.lst (Tc ws))
noncomputable def ue (p:Addr) (H H':Hp):Prop:=∀ b u,b ≠ p→H b=some u→H' b=some u
theorem ue.trans {p:Addr} {H H1 H2:Hp} (a:ue p H H1) (b:ue p H1 H2):ue p H H2:=fun c u n e=>b c u n (a c u n e)
theorem ue.of {p:Addr} {H H1:Hp} (a:Sb H H1):ue p H H1:=fun c u _ e=>a c u e
theorem ue.put {p:Addr} {H:Hp} {o:HO}:ue p H (upd H p o):=fun c u n e=>by rw [Eb n];exact e
theorem yq (ws:List Str):(Tc ws).length=ws.length:=by unfold Tc;rw [List.length_map]
theorem oH {ws:List Str} {i:Nat} {x:Str} (h:ws[i]? = some x):(Tc ws)[i]? = some (.str x):=by unfold Tc;rw [List.getElem?_map,h];rfl
theorem Yt (ws:List Str):(Tc ws).all Cm=true:=by unfold Tc;simp [Cm]
theorem bA (x:Str) (xs:List Str):inV (.str x) (Tc xs)=decide (x ∈ xs):=by
 unfold inV Tc;rw [List.any_map,Bool.eq_iff_iff];simp only [List.any_eq_true,Function.comp,eqV,beq_iff_eq,decide_eq_true_eq];constructor
 ·rintro ⟨y,hy,rfl⟩;exact hy
 ·intro h;exact ⟨x,h,rfl⟩
section
variable {w:World} {K:PySem.W.Frag} {mg:Str→Option Value} {t:Adr} {H H':Hp} {p:Addr} {row:Int} {ws:List Str} {pl:Nat}
theorem yh.same (h:yh t H p row ws pl) (s:Sb H H'):yh t H' p row ws pl:=by
 obtain ⟨hz,dx,ta,e1,e2⟩:=h;exact ⟨hz,dx,ta,s _ _ e1,s _ _ e2⟩
theorem yh.sameX {q:Addr} (h:yh t H p row ws pl) (s:ue q H H') (n:p ≠ q) (k:∃ C dx fs,H q=some (.ins C dx fs)):yh t H' p row ws pl:=by
 obtain ⟨hz,dx,ta,e1,e2⟩:=h;obtain ⟨C,dq,fs,e3⟩:=k;exact ⟨hz,dx,ta,s _ _ n e1,s _ _ (Bj e2 e3 (by intro z;cases z)) e2⟩
theorem yh.ins (h:yh t H p row ws pl):∃ C dx fs,H p=some (.ins C dx fs):=by
 obtain ⟨hz,dx,ta,e1,e2⟩:=h;exact ⟨_,_,_,e1⟩
theorem yh.no {m:Str} (row:Int) (ta:Addr) (pl:Int) (h:Ex.contains m=false):(rdF row ta pl).lookup m=none:=xn Ex (io ..) h
theorem Yu (T:Txt w K mg t) {dx ta:Addr} {pl:Int} (e:H p=some (.ins t.Qb dx (rdF row ta pl))):Wl K H p (Str.ofString "place") (.int pl):=
 ⟨_,dx,_,e,T.Pb,T.Qf,Le Ex 2 (io ..) (by decide +kernel) rfl⟩
theorem Sy (T:Txt w K mg t) {dx ta:Addr} {pl:Int} (e:H p=some (.ins t.Qb dx (rdF row ta pl))):Wl K H p (Str.ofString "told") (.ref ta):=
 ⟨_,dx,_,e,T.Pb,T.Ni,Le Ex 1 (io ..) (by decide +kernel) rfl⟩
end
noncomputable def zJ (t:Adr):Sp:=fun vs H Q _=>∃ (p dx ta:Addr) (row:Int),vs=[.ref p,.int row,.ref ta]∧H p=some (.ins t.Qb dx [])∧Q .non (upd H p (.ins t.Qb dx (rdF row ta 0)))
noncomputable def rn (t:Adr):Sp:=fun vs H Q _=>∃ p row ws pl,vs=[.ref p]∧yh t H p row ws pl∧pl ≤ ws.length∧Q (.str (ws.getD pl (Str.ofString ""))) H
noncomputable def OF (t:Adr):Sp:=fun vs H Q _=>∃ p row ws pl,vs=[.ref p]∧yh t H p row ws pl∧Q (.bl (decide (pl < ws.length))) H
noncomputable def mP (t:Adr) (H:Hp) (p:Addr) (row:Int) (ws:List Str) (pl:Nat) (R:Hp→Prop):Prop:=∀ H',ue p H H'→(NoT H→NoT H')→yh t H' p row ws pl→R H'
noncomputable def Ru (t:Adr):Sp:=fun vs H Q _=>∃ p row ws pl,vs=[.ref p,.bl true]∧yh t H p row ws pl∧mP t H p row ws (pl + 1) (Q .non)
noncomputable def Du (K:PySem.W.Frag) (t:Adr):Sp:=fun vs H Q _=>∃ p row ws pl x c xs,vs=[.ref p,.ref c]∧yh t H p row ws pl∧ws[pl]? = some x∧SqL K H c (Tc xs)∧x ∈ xs∧mP t H p row ws (pl + 1) (Q (.str x))
noncomputable def Tu (t:Adr):Sp:=fun vs H Q _=>∃ p row ws pl x lo hi v,vs=[.ref p,.int lo,.int hi]∧yh t H p row ws pl∧ws[pl]? = some x∧bH x lo hi=.int v∧NoT H∧mP t H p row ws (pl + 1) (Q (.int v))
noncomputable def DE (t:Adr):Sp:=fun vs H Q _=>∃ p row ws pl,vs=[.ref p]∧yh t H p row ws pl∧pl=ws.length∧Q .non H
section
variable {P:Program} {w:World} {K:PySem.W.Frag} {mg:Str→Option Value} {base:Heap} {t:Adr}
theorem QM (T:Txt w K mg t):Ub P w K mg base CX0 1 t.ke t.mf q33 (zJ t):=by
 refine T.Zj.ok xk (fun vs H Q E h=>?_) (fun _ _ _ s H vs Q E hr h=>?_)
 ·obtain ⟨p,dx,ta,row,rfl,_⟩:=h;rfl
 obtain ⟨p,dx,ta,row,rfl,hp,q⟩:=h;refine ⟨_,(fb (Sg (pv 0) (pv 1) rfl)
   (fb (Sg (pv 0) (pv 2) rfl)
   (lb (Sg (pv 0) gb rfl)))),?_⟩
 walk_at "RD";refine ⟨_,_,_,hp,T.Pb,T.Op,by decide,?_⟩;refine ⟨_,_,_,ib,T.Pb,T.Ni,Jp (n:=999) (by decide),?_⟩;refine ⟨_,_,_,ib,T.Pb,T.Qf,Jp (n:=999) (Jp (n:=998) (by decide)),?_⟩;simp only [Gm];rw [show nj (Str.ofString "row") (V.int row) ([]:List (Str × V))=[(Str.ofString "row",V.int row)] from je [] rfl (by decide +kernel),
  show nj (Str.ofString "told") (V.ref ta) ([(Str.ofString "row",V.int row)]:List (Str × V))=[(Str.ofString "row",V.int row),(Str.ofString "told",V.ref ta)] from je [Str.ofString "row"] rfl (by decide +kernel),
  show nj (Str.ofString "place") (V.int 0) ([(Str.ofString "row",V.int row),(Str.ofString "told",V.ref ta)]:List (Str × V))=[(Str.ofString "row",V.int row),(Str.ofString "told",V.ref ta),(Str.ofString "place",V.int 0)] from je [Str.ofString "row",Str.ofString "told"] rfl (by decide +kernel)]
 exact q
theorem gq (T:Txt w K mg t):Ub P w K mg base CX0 1 t.Bc t.Lc ["self"] (rn t):=by
 refine T.Mi.ok sn (fun vs H Q E h=>?_) (fun _ _ _ s H vs Q E hr h=>?_)
 ·obtain ⟨p,row,ws,pl,rfl,_⟩:=h;rfl
 obtain ⟨p,row,ws,pl,rfl,⟨hz,dx,ta,e1,e2⟩,hle,q⟩:=h;refine ⟨_,(fb (Pc (Ob tf (uc (pv 0) rfl) (qc bc rfl T.Ci ic (ab (uc (pv 0) rfl) jb)) (Vb _)) (lb (Fb xc)) Rb)
   (lb (Fb (Ab ie (uc (pv 0) rfl) (uc (pv 0) rfl))))),?_⟩
 walk_at "RD";refine Mb (decide ((pl:Int)=(ws.length:Int))) (fun Q hQ=>?_) (fun c=>?_) (fun c=>?_)
 ·walk_at "RD";refine ⟨_,Yu T e1,_,Sy T e1,_,rfl,_,.inl (SqL.of e2),rfl,?_⟩;rw [yq];walk_at "RD";exact hQ
 ·walk_at "RD";have c':pl=ws.length:=by have:=of_decide_eq_true c;omega
  rw [show ws.getD pl (Str.ofString "")=Str.ofString "" by rw [List.getD_eq_getElem?_getD,List.getElem?_eq_none (by omega)];rfl] at q;exact q
 ·walk_at "RD";have c':pl < ws.length:=by have:=of_decide_eq_false c;omega
  have hx:ws[pl]? = some ws[pl]:=List.getElem?_eq_getElem c';rw [List.getD_eq_getElem?_getD,hx] at q;exact ⟨_,Sy T e1,_,Yu T e1,_,rfl,_,_,rfl,SqL.of e2,_,wb (oH hx),q⟩
theorem nL (T:Txt w K mg t):Ub P w K mg base CX0 1 t.gd t.Pd ["self"] (OF t):=by
 refine T.Rg.ok Bk (fun vs H Q E h=>?_) (fun _ _ _ s H vs Q E hr h=>?_)
 ·obtain ⟨p,row,ws,pl,rfl,_⟩:=h;rfl
 obtain ⟨p,row,ws,pl,rfl,⟨hz,dx,ta,e1,e2⟩,q⟩:=h;refine ⟨_,(lb (Fb (ae av (uc (pv 0) rfl) (qc bc rfl T.Ci ic (ab (uc (pv 0) rfl) jb)) (Vb _)))),?_⟩;walk_at "RD";have e:decide (pl < ws.length)=decide ((pl:Int) < (ws.length:Int)):=by rw [Bool.eq_iff_iff];simp
 rw [e] at q;refine ⟨_,Yu T e1,_,Sy T e1,_,rfl,_,.inl (SqL.of e2),?_⟩;rw [yq];exact ⟨_,rfl,q⟩
theorem Uy (T:Txt w K mg t):Ub P w K mg base CX0 1 t.Zc t.Cd q16 (Ru t):=by
 refine T.Vj.ok Ho (fun vs H Q E h=>?_) (fun _ _ _ s H vs Q E hr h=>?_)
 ·obtain ⟨p,row,ws,pl,rfl,_⟩:=h;rfl
 obtain ⟨p,row,ws,pl,rfl,⟨hz,dx,ta,e1,e2⟩,q⟩:=h;refine ⟨_,(fb (Pc (Uk (Vh (pv 1))) (lb Ml) Rb)
   (lb (wF (pv 0) gb JN))),?_⟩
 walk_at "RD";refine Mb false (fun Q hQ=>?_) (fun hc=>nomatch hc) (fun _=>?_)
 ·walk_at "RD";exact hQ
 ·walk_at "RD";refine ⟨_,_,_,e1,T.Pb,T.Qf,_,Le Ex 2 (io ..) (by decide +kernel) rfl,_,rfl,_,_,e1,by rw [← List.length_map (f:=(·.1)),io];decide,?_⟩;rw [mL];exact q _ ue.put (fun n=>n.upd) ⟨hz,dx,ta,ib,by rw [Eb (Bj e2 e1 (by intro z;cases z))];exact e2⟩
theorem eB (T:Txt w K mg t):Ub P w K mg base CX0 2 t.Xc t.Jd q34 (Du K t):=by
 have g9:Ub P w K mg base CX0 1 t.Bc t.Lc ["self"] (rn t):=gq T;have g12:Ub P w K mg base CX0 1 t.Zc t.Cd q16 (Ru t):=Uy T;refine T.di.ok zh (fun vs H Q E h=>?_) (fun _ _ _ s H vs Q E hr h=>?_)
 ·obtain ⟨p,row,ws,pl,x,c,xs,rfl,_⟩:=h;rfl
 obtain ⟨p,row,ws,pl,x,c,xs,rfl,R,hx,hc,hm,q⟩:=h;refine ⟨_,(fb (yb (i:=2) zh.nd (sj (pv 0) T.Pb T.Ze g9 hr T.Qe .nil Ce))
   (fb (Ge (He (pv 0) T.Pb T.Ng g12 hr T.Mg .nil Ce (ab (ae ql (pv 2) (pv 1) (by with_unfolding_all rfl)) jb)))
   (lb (Fb (pv 2))))),?_⟩
 have hlt:pl < ws.length:=(List.getElem?_eq_some_iff.mp hx).1;have hg:ws.getD pl (Str.ofString "")=x:=by rw [List.getD_eq_getElem?_getD,hx];rfl
 obtain ⟨_,dx,ta,e1,e2⟩:=id R;walk_at "RD";refine ⟨_,_,e1,yh.no _ _ _ (by decide +kernel),⟨p,row,ws,pl,rfl,R,by omega,?_⟩⟩;rw [hg];walk_at "RD";refine ⟨_,_,e1,yh.no _ _ _ (by decide +kernel),_,.inl hc,rfl,Yt xs,?_⟩;rw [bA,decide_eq_true hm];refine ⟨p,row,ws,pl,rfl,R,fun H' s1 s2 s3=>?_⟩;walk_at "RD";exact q H' s1 s2 s3
theorem Ky (T:Txt w K mg t):Ub P w K mg base CX0 4 t.Ac t.Kc q25 (Tu t):=by
 have g9:Ub P w K mg base CX0 3 t.Bc t.Lc ["self"] (rn t):=(gq T).mono (by decide);have g12:Ub P w K mg base CX0 3 t.Zc t.Cd q16 (Ru t):=(Uy T).mono (by decide);have g32:Ub P w K mg base CX0 3 t.Ln t.Sn q37 SJ:=ON T;refine T.vh.ok Tg (fun vs H Q E h=>?_) (fun _ _ _ s H vs Q E hr h=>?_)
 ·obtain ⟨p,row,ws,pl,x,lo,hi,v,rfl,_⟩:=h;rfl
 obtain ⟨p,row,ws,pl,x,lo,hi,v,rfl,R,hx,hv,nt,q⟩:=h;refine ⟨_,(fb (yb (i:=3) Tg.nd (qb g32 hr T.AF T.Aq.kp T.lD (ab (sj (pv 0) T.Pb T.Ze g9 hr T.Qe .nil Ce) (ab (pv 1) (ab (pv 2) jb)))))
   (fb (Ge (He (pv 0) T.Pb T.Ng g12 hr T.Mg .nil Ce (ab (ae Gv (pv 3) Jg (Vb _)) jb)))
   (lb (Fb (pv 3))))),?_⟩
 have hlt:pl < ws.length:=(List.getElem?_eq_some_iff.mp hx).1;have hg:ws.getD pl (Str.ofString "")=x:=by rw [List.getD_eq_getElem?_getD,hx];rfl
 obtain ⟨hz,dx,ta,e1,e2⟩:=id R;walk_at "RD";refine ⟨_,_,e1,yh.no _ _ _ (by decide +kernel),⟨p,row,ws,pl,rfl,R,by omega,?_⟩⟩;rw [hg];walk_at "RD";refine ⟨x,lo,hi,rfl,hz.2 x (List.mem_of_getElem? hx),nt,?_⟩;rw [hv];walk_at "RD";refine ⟨_,_,e1,yh.no _ _ _ (by decide +kernel),?_⟩;refine ⟨p,row,ws,pl,rfl,R,fun H' s1 s2 s3=>?_⟩;walk_at "RD";exact q H' s1 s2 s3
theorem bK (T:Txt w K mg t):Ub P w K mg base CX0 2 t.Wc t.Kd ["self"] (DE t):=by
 have g33:Ub P w K mg base CX0 1 t.gd t.Pd ["self"] (OF t):=nL T;refine T.Ih.ok Nm (fun vs H Q E h=>?_) (fun _ _ _ s H vs Q E hr h=>?_)
 ·obtain ⟨p,row,ws,pl,rfl,_⟩:=h;rfl
 obtain ⟨p,row,ws,pl,rfl,R,hl,q⟩:=h;obtain ⟨hz,dx,ta,e1,e2⟩:=id R;refine ⟨_,(lb (Pc (Vh (sj (pv 0) T.Pb T.Rl g33 hr T.Ul .nil Ce)) (lb Ml) Rb)),?_⟩;walk_at "RD";refine Mb false (fun Q hQ=>?_) (fun hc=>nomatch hc) (fun _=>?_)
 ·walk_at "RD";refine ⟨_,_,e1,yh.no _ _ _ (by decide +kernel),⟨p,row,ws,pl,rfl,R,?_⟩⟩;rw [decide_eq_false (by omega)];exact ⟨_,rfl,hQ⟩
 ·walk_at "RD";exact q
end
end My
namespace My
open PySem L2
theorem Og {α β:Type} {f:α→β} {l:List α} {i:Nat} {y:β} (h:(l.map f)[i]? = some y):∃ x,l[i]? = some x∧y=f x:=by
 rw [List.getElem?_map] at h;cases e:l[i]? with
 | none=>rw [e] at h;cases h
 | some x=>rw [e] at h;exact ⟨x,rfl,(Option.some.inj h).symm⟩
noncomputable def lP (t:Adr) (H0 H:Hp) (p:Addr) (rows:List (List Str)):Prop:=∃ qs:List Addr,H p=some (.lst (qs.map V.ref))∧H0 p=none∧qs.length=rows.length∧∀ (i:Nat) (q:Addr) (r:List Str),qs[i]? = some q→rows[i]? = some r→yh t H q i r 0∧H0 q=none
noncomputable def Ct (t:Adr):Sp:=fun vs H Q _=>∃ x,vs=[.str x]∧x.length ≤ 20000∧(∀ r ∈ Oj x,r.length ≤ 1000∧∀ y ∈ r,y.length ≤ 1000)∧NoT H∧∀ p H',Sb H H'→NoT H'→lP t H H' p (Oj x)→Q (.ref p) H'
section
variable {P:Program} {w:World} {K:PySem.W.Frag} {mg:Str→Option Value} {base:Heap} {t:Adr}
theorem pC (T:Txt w K mg t):Ub P w K mg base CX0 3 t.Xm t.ao ["text"] (Ct t):=by
 have g34:Ub P w K mg base CX0 2 t.Ov t.Ju ["text"] aB:=(KH T).mono (by decide);have g35:Ub P w K mg base CX0 1 t.ke t.mf q33 (zJ t):=QM T;refine T.Sq.ok LB (fun vs H Q E h=>?_) (fun _ _ _ s H vs Q E hr h=>?_)
 ·obtain ⟨x,rfl,_⟩:=h;rfl
 obtain ⟨x,rfl,hz,hrow,nt,q⟩:=h;refine ⟨_,(lb (Fb (cg rfl (xq rfl T.og (ab (qb g34 hr T.DK T.az.kp T.QL (ab (pv 0) jb)) jb)) (Cc (sc:=ub Ur) rfl (by decide +kernel)) (N:=["row","told"]) (sel:=[none,none]) (Vc (M:=["text"]) (by decide +kernel)) (Blk.of (fun _ _ _ _=>(Xf (K:=K) (n:=2) rfl rfl (vc (Ib (i:=0) (oh (N:=["row","told"]) (by decide +kernel) rfl)) (vc (Ib (i:=1) (oh (N:=["row","told"]) (by decide +kernel) rfl)) Yf)))) (fun _ _ _ _=>⟨_,sf,by walk_at "B"⟩) (fun _ _ _ _=>⟨_,(xm T.gy g35 hr rfl T.Hy T.Gp .nil Ce (ab (pv 0) (ab (pv 1) jb))),by walk_at "B"⟩))))),?_⟩;walk_at "RD";refine ⟨x,rfl,hz,nt,fun p H1 sm1 nt1 ⟨ps,hp,hp0,hpn,hpl,hpa⟩=>?_⟩;walk_at "RD";refine ⟨⟨_,SqL.of hp⟩,?_⟩;have hlen:ps.length ≤ sizeLine:=by
  rw [hpl];unfold Oj;rw [List.length_map];have:=ar (x:=x) (y:=nl) (by rw [Oz];exact Nat.le_refl _);exact Nat.le_trans (show _ ≤ 40000 by omega) (by decide)
 refine bd.enum (xs:=ps.map V.ref) (fun i ys H2=>Sb H1 H2∧NoT H2∧∃ qs:List Addr,ys=qs.map V.ref∧qs.length=i∧∀ (j:Nat) (q:Addr) (r:List Str),qs[j]? = some q→(Oj x)[j]? = some r→yh t H2 q j r 0∧H1 q=none)
  (by rw [List.length_map];exact hlen) ⟨Sb.refl H1,nt1,[],rfl,rfl,fun j q r h _=>by simp at h⟩ ?_ ?_ ?_
 ·rintro i ys H2 hi zzq;refine zzP fun zzM zzh=>?_
  obtain ⟨s2,n2,qs,rfl,hq,_⟩:=zzq;subst zzh;exact ⟨SqL.of (s2 _ _ hp),by rw [List.length_map];omega⟩
 ·rintro i v ys H2 p2 hv ⟨s2,n2,qs,rfl,hq,al⟩ hp2 N hN;rw [List.getElem?_map] at hv;cases hpi:ps[i]? with
  | none=>rw [hpi] at hv;cases hv
  | some pi=>
   rw [hpi] at hv;have e:=(Option.some.inj hv).symm;subst e;refine uh ?_;walk_at "RD";refine ⟨Sub.name2,fun a dx ha hd hne=>?_⟩;refine ⟨a,dx,pi,i,rfl,ib,rfl,?_⟩;rw [Gm];have s3:Sb H2 (upd (upd (upd H2 p2 (.tup [.int i,.ref pi])) dx (.own a)) a (.ins t.Qb dx (rdF i pi 0))):=by
    have s':Sb H2 (upd H2 p2 (.tup [.int i,.ref pi])):=db hp2;exact ((Sb.trans s' (db hd)).updN (s'.free ha))
   obtain ⟨r,hr⟩:∃ r,(Oj x)[i]? = some r:=⟨(Oj x)[i]'(by rw [← hpl];exact (List.getElem?_eq_some_iff.mp hpi).1),List.getElem?_eq_getElem _⟩;have ha2:H2 a=none:=(db hp2).free ha;refine hN _ _ ⟨s2.trans s3,((n2.upd).upd).upd,qs ++ [a],by rw [List.map_append];rfl,by rw [List.length_append,hq];rfl,fun j q' r' h1 h2=>?_⟩;by_cases hj:j < qs.length
   ·rw [List.getElem?_append_left hj] at h1;obtain ⟨z1,z2⟩:=al j q' r' h1 h2;exact ⟨z1.same s3,z2⟩
   ·rw [List.getElem?_append_right (by omega)] at h1;have hj0:j - qs.length=0:=by
     cases hh:j - qs.length with
     | zero=>rfl
     | succ n=>rw [hh] at h1;simp at h1
    rw [hj0] at h1;have e3:a=q':=by simpa using h1
    subst e3;have e4:j=i:=by omega
    subst e4;rw [hr] at h2;cases h2;refine ⟨⟨hrow r (List.mem_of_getElem? hr),dx,pi,ib,?_⟩,s2.free ha2⟩;exact s3 _ _ (s2 _ _ (hpa j pi r hpi hr).1)
 ·rintro ys H2 ⟨s2,n2,qs,rfl,hq,al⟩ p2 hp2;refine q p2 _ ((sm1.trans s2).updN ((sm1.trans s2).free hp2)) (n2.upd) ⟨qs,ib,(sm1.trans s2).free hp2,by rw [hq,List.length_map,hpl],fun i q' r h1 h2=>?_⟩;obtain ⟨z1,z2⟩:=al i q' r h1 h2;exact ⟨z1.same (db hp2),sm1.free z2⟩
end
noncomputable def FQ (q:Addr) (H:Hp) (R:Hp→Prop):Prop:=∀ H',ue q H H'→NoT H'→R H'
noncomputable def QD (t:Adr):Sp:=fun vs H Q _=>∃ q row n,vs=[.ref q]∧yh t H q row [Str.ofString "ring",num n] 0∧(2 ≤ n∧n ≤ 99)∧NoT H∧FQ q H (Q (.int n))
noncomputable def Qk (t:Adr) (H:Hp) (wl:Addr) (ds:List WD):Prop:=∃ as:List Addr,H wl=some (.lst (as.map V.ref))∧as.length=ds.length∧∀ (i:Nat) (a:Addr) (d:WD),as[i]? = some a→ds[i]? = some d→Pe t H a d
noncomputable def ou (t:Adr):Sp:=fun vs H Q _=>∃ q row ws pl wl ds x,vs=[.ref q,.ref wl]∧yh t H q row ws pl∧ws[pl]? = some x∧made x Ai 8=true∧Qk t H wl ds∧ds.length ≤ 12∧(∀ d ∈ ds,d.name ≠ x)∧NoT H ∧
 ∀ H',ue q H H'→NoT H'→yh t H' q row ws (pl + 1)→Q (.str x) H'
noncomputable def BJ (t:Adr):Sp:=fun vs H Q _=>∃ q row ws pl n st fi,vs=[.ref q,.int n,.int st]∧yh t H q row ws pl∧ws[pl]? = some (num fi)∧(0 ≤ st∧st < n)∧(0 ≤ fi∧fi < n)∧st ≠ fi∧n ≤ 99∧NoT H ∧
 ∀ H',ue q H H'→NoT H'→yh t H' q row ws (pl + 1)→Q (.int fi) H'
noncomputable def Xz (t:Adr):Sp:=fun vs H Q _=>∃ d:WD,vs=[.str (ee d.k),.str d.name,.int d.start,.int d.fin,.int d.off,.int d.near,.int d.least]∧d.k < 3∧∀ x H',Sb H H'→(NoT H→NoT H')→Pe t H' x d→H x=none→Q (.ref x) H'
noncomputable def GJ (t:Adr):Sp:=fun vs H Q _=>∃ q row n wl ds d,vs=[.ref q,.int n,.ref wl]∧yh t H q row (Wi d) 0∧WOk n d∧(2 ≤ n∧n ≤ 99)∧Qk t H wl ds∧ds.length ≤ 12∧(∀ e ∈ ds,e.name ≠ d.name)∧NoT H ∧
 ∀ x H',ue q H H'→NoT H'→Pe t H' x d→H x=none→Q (.ref x) H'
theorem Qk.sameX {t:Adr} {H H':Hp} {q wl:Addr} {ds:List WD} {row:Int} {ws:List Str} {pl:Nat} (h:Qk t H wl ds) (s:ue q H H') (r:yh t H q row ws pl):Qk t H' wl ds:=by
 obtain ⟨as,e1,e2,al⟩:=h;obtain ⟨hz,dx,ta,e3,e4⟩:=r;refine ⟨as,s _ _ (Bj e1 e3 (by intro z;cases z)) e1,e2,fun i a d h1 h2=>?_⟩;obtain ⟨hk,dx',e5⟩:=al i a d h1 h2;refine ⟨hk,dx',s _ _ (fun z=>?_) e5⟩;subst z;rw [e5] at e3;have e6:=Option.some.inj e3;injection e6 with _ _ e8;have e9:(7:Nat)=3:=congrArg List.length e8;omega
theorem Qk.same {t:Adr} {H H':Hp} {wl:Addr} {ds:List WD} (h:Qk t H wl ds) (s:Sb H H'):Qk t H' wl ds:=by
 obtain ⟨as,e1,e2,al⟩:=h;exact ⟨as,s _ _ e1,e2,fun i a d h1 h2=>(al i a d h1 h2).same s⟩
section
variable {P:Program} {w:World} {K:PySem.W.Frag} {mg:Str→Option Value} {base:Heap} {t:Adr}
theorem dL (T:Txt w K mg t):Ub P w K mg base CX0 5 t.Jj t.Dj ["reader"] (QD t):=by
 have g22:Ub P w K mg base CX0 4 t.Xc t.Jd q34 (Du K t):=(eB T).mono (by decide);have g8:Ub P w K mg base CX0 4 t.Ac t.Kc q25 (Tu t):=Ky T;have g23:Ub P w K mg base CX0 4 t.Wc t.Kd ["self"] (DE t):=(bK T).mono (by decide);refine T.Fm.ok bp (fun vs H Q E h=>?_) (fun _ _ _ s H vs Q E hr h=>?_)
 ·obtain ⟨q,row,n,rfl,_⟩:=h;rfl
 obtain ⟨q,row,n,rfl,R,hn,nt,qq⟩:=h;refine ⟨_,(fb (Ge (He (pv 0) T.Pb T.Oh g22 hr T.Ph .nil Ce (ab (Pf (ab xc jb)) jb)))
   (fb (yb (i:=1) bp.nd (He (pv 0) T.Pb T.Nc g8 hr T.Qc .nil Ce (ab (Di rfl T.Js T.Xs) (ab (Di rfl T.Nu T.Kv) jb))))
   (fb (Ge (sj (pv 0) T.Pb T.ji g23 hr T.Sh .nil Ce))
   (lb (Fb (pv 1)))))),?_⟩
 obtain ⟨_,dx,ta,e1,e2⟩:=id R;walk_at "RD";refine ⟨_,_,e1,yh.no _ _ _ (by decide +kernel),by decide,fun p hp=>?_⟩;have s0:Sb H (upd H p (.lst [V.str (Str.ofString "ring")])):=db hp;refine ⟨q,row,_,0,Str.ofString "ring",p,[Str.ofString "ring"],rfl,R.same s0,rfl,SqL.of ib,by simp,fun H1 s1 n1 R1=>?_⟩;obtain ⟨_,dx1,ta1,f1,f2⟩:=id R1;walk_at "RD";refine ⟨_,_,f1,yh.no _ _ _ (by decide +kernel),?_⟩;have nt1:=n1 nt.upd;refine ⟨q,row,_,1,num n,2,99,n,rfl,R1,rfl,qo (by omega) (by omega) hn.1 hn.2,nt1,fun H2 s2 n2 R2=>?_⟩;obtain ⟨_,dx2,ta2,g1,g2⟩:=id R2;walk_at "RD";refine ⟨_,_,g1,yh.no _ _ _ (by decide +kernel),?_⟩;refine ⟨q,row,_,2,rfl,R2,rfl,?_⟩;walk_at "RD";exact qq H2 (((ue.of s0).trans s1).trans s2) (n2 nt1)
theorem rC (T:Txt w K mg t):Ub P w K mg base CX0 3 t.Tf t.Lf q38 (ou t):=by
 have g9:Ub P w K mg base CX0 2 t.Bc t.Lc ["self"] (rn t):=(gq T).mono (by decide);have g12:Ub P w K mg base CX0 2 t.Zc t.Cd q16 (Ru t):=(Uy T).mono (by decide);have g36:Ub P w K mg base CX0 2 t.zn t.Zm ["word"] QG:=aM T;refine T.sh.ok Xj (fun vs H Q E h=>?_) (fun _ _ _ s H vs Q E hr h=>?_)
 ·obtain ⟨q,row,ws,pl,wl,ds,x,rfl,_⟩:=h;rfl
 obtain ⟨q,row,ws,pl,wl,ds,x,rfl,R,hx,hm,hW,hdl,hnew,nt,qq⟩:=h;refine ⟨_,(fb (yb (i:=2) Xj.nd (sj (pv 0) T.Pb T.Ze g9 hr T.Qe .nil Ce))
   (fb (Ge (He (pv 0) T.Pb T.Ng g12 hr T.Mg .nil Ce (ab (Sz (qb g36 hr T.fD T.Cr.kp T.AD (ab (pv 2) jb)) (Mr (ae Yo (pv 2) (cg rfl (ng (pv 1)) (Cc (sc:=ub rh) rfl (by decide +kernel)) (N:=["way"]) (sel:=[none]) (Vc (M:=["reader","ways","name"]) (by decide +kernel)) (Blk.of (fun _ _ _ _=>(Ib (i:=0) (oh (N:=["way"]) (by decide +kernel) rfl))) (fun _ _ _ _=>⟨_,sf,by walk_at "B"⟩) (fun _ _ _ _=>⟨_,(uc (pv 0) rfl),by walk_at "B"⟩))) (by with_unfolding_all rfl)))) jb)))
   (lb (Fb (pv 2))))),?_⟩
 have hlt:pl < ws.length:=(List.getElem?_eq_some_iff.mp hx).1;have hg:ws.getD pl (Str.ofString "")=x:=by rw [List.getD_eq_getElem?_getD,hx];rfl
 obtain ⟨hz,dx,ta,e1,e2⟩:=id R;walk_at "RD";refine ⟨_,_,e1,yh.no _ _ _ (by decide +kernel),⟨q,row,ws,pl,rfl,R,by omega,?_⟩⟩;rw [hg];walk_at "RD";refine ⟨_,_,e1,yh.no _ _ _ (by decide +kernel),?_⟩;refine ⟨x,rfl,hz.2 x (List.mem_of_getElem? hx),nt,?_⟩;rw [hm];walk_at "RD";obtain ⟨as,w1,w2,al⟩:=hW;refine ⟨⟨_,SqL.of w1⟩,?_⟩;have hle:(as.map V.ref).length ≤ sizeLine:=by rw [List.length_map,w2];exact Nat.le_trans hdl (by decide)
 refine bd.list_zs (xs:=as.map V.ref) (zs:=ds.map fun d=>V.str d.name) (SqL.of w1) hle (by rw [List.length_map,List.length_map,w2]) (fun i v z N hv hz' hN=>?_) (fun p hp=>?_)
 ·obtain ⟨a,ha,rfl⟩:=Og hv;obtain ⟨d,hd,rfl⟩:=Og hz';walk_at "RD";exact ⟨Sub.name,_,(al i a d ha hd).f_name T,hN⟩
 ·walk_at "RD";have e0:(ds.map fun d=>V.str d.name)=Tc (ds.map (·.name)):=by unfold Tc;rw [List.map_map];rfl
  rw [e0];refine ⟨_,.inl (SqL.of ib),rfl,Yt _,?_⟩;rw [bA,decide_eq_false (fun z=>by
   obtain ⟨d,hd,e⟩:=List.mem_map.mp z;exact hnew d hd e)]
  have s0:Sb H (upd H p (.lst (Tc (ds.map (·.name))))):=db hp;exact ⟨q,row,ws,pl,rfl,R.same s0,fun H' s1 n1 R1=>qq H' ((ue.of s0).trans s1) (n1 nt.upd) R1⟩
theorem DN (T:Txt w K mg t):Ub P w K mg base CX0 5 t.Dl t.Al q28 (BJ t):=by
 have g9:Ub P w K mg base CX0 4 t.Bc t.Lc ["self"] (rn t):=(gq T).mono (by decide);have g8:Ub P w K mg base CX0 4 t.Ac t.Kc q25 (Tu t):=Ky T;refine T.Mo.ok Cy (fun vs H Q E h=>?_) (fun _ _ _ s H vs Q E hr h=>?_)
 ·obtain ⟨q,row,ws,pl,n,st,fi,rfl,_⟩:=h;rfl
 obtain ⟨q,row,ws,pl,n,st,fi,rfl,R,hx,hst,hfi,hne,hn,nt,qq⟩:=h;refine ⟨_,(fb (Pc (Ob tf (sj (pv 0) T.Pb T.Ze g9 hr T.Qe .nil Ce) (Hg gl rfl T.uK wo (ab (pv 2) jb)) (Vb _)) (lb Ml) Rb)
   (lb (Fb (He (pv 0) T.Pb T.Nc g8 hr T.Qc .nil Ce (ab gb (ab (Kb Fg (pv 1) gb) jb)))))),?_⟩
 have hlt:pl < ws.length:=(List.getElem?_eq_some_iff.mp hx).1;have hg:ws.getD pl (Str.ofString "")=num fi:=by rw [List.getD_eq_getElem?_getD,hx];rfl
 obtain ⟨hz,dx,ta,e1,e2⟩:=id R;walk_at "RD";refine Mb false (fun Q hQ=>?_) (fun hc=>nomatch hc) (fun _=>?_)
 ·walk_at "RD";refine ⟨_,_,e1,yh.no _ _ _ (by decide +kernel),⟨q,row,ws,pl,rfl,R,by omega,?_⟩⟩;rw [hg];walk_at "RD";refine ⟨Mq (by omega),?_⟩;rw [decide_eq_false (fun z=>hne (YK (by omega) (by omega) (by omega) (by omega) z).symm)];exact hQ
 ·walk_at "RD";refine ⟨_,_,e1,yh.no _ _ _ (by decide +kernel),⟨q,row,ws,pl,num fi,0,n - 1,fi,rfl,R,hx,qo (by omega) (by omega) (by omega) (by omega),nt,fun H1 s1 n1 R1=>?_⟩⟩;exact qq H1 s1 (n1 nt) R1
theorem EM {t:Adr} {H:Hp} {x dx:Addr} {d:WD} (hx:H x=none) (hd:H dx=none) (hk:d.k < 3) :
  Sb H (upd (upd (upd H dx (.own x)) x (.ins (t.cw d.k) dx [])) x (.ins (t.cw d.k) dx (ss d)))∧(NoT H→NoT (upd (upd (upd H dx (.own x)) x (.ins (t.cw d.k) dx [])) x (.ins (t.cw d.k) dx (ss d)))) ∧
   Pe t (upd (upd (upd H dx (.own x)) x (.ins (t.cw d.k) dx [])) x (.ins (t.cw d.k) dx (ss d))) x d:=
 ⟨(((Sb.refl H).updN hd).updN hx).updN hx,fun n=>((n.upd).upd).upd,hk,dx,ib⟩
theorem NI (T:Txt w K mg t):Ub P w K mg base CX0 4 t.Il t.Cl q29 (Xz t):=by
 have g37:Ub P w K mg base CX0 2 t.Vf t.jh q5 (Nl t 0):=EL T;have g38:Ub P w K mg base CX0 2 t.jf t.Ag q5 (Nl t 1):=yI T;have g39:Ub P w K mg base CX0 2 t.kf t.rg q5 (Nl t 2):=YH T;refine T.Ko.ok Ux (fun vs H Q E h=>?_) (fun _ _ _ s H vs Q E hr h=>?_)
 ·obtain ⟨d,rfl,_⟩:=h;rfl
 obtain ⟨d,rfl,hk,q⟩:=h;refine ⟨_,(fb (Pc (Ob tf (pv 0) xc (Vb _)) (lb (Fb (xm T.JI g37 hr rfl T.sI T.lv .nil Ce (ab (pv 1) (ab (pv 2) (ab (pv 3) (ab (pv 4) (ab (pv 5) (ab (pv 6) jb))))))))) Rb)
   (fb (Pc (Ob tf (pv 0) xc (Vb _)) (lb (Fb (xm T.RG g38 hr rfl T.CD T.Vs .nil Ce (ab (pv 1) (ab (pv 2) (ab (pv 3) (ab (pv 4) (ab (pv 5) (ab (pv 6) jb))))))))) Rb)
   (lb (Fb (xm T.sG g39 hr rfl T.BF T.Es .nil Ce (ab (pv 1) (ab (pv 2) (ab (pv 3) (ab (pv 4) (ab (pv 5) (ab (pv 6) jb))))))))))),?_⟩
 have fin:∀ (x dx:Addr),H x=none→H dx=none→Q (.ref x) (upd (upd (upd H dx (.own x)) x (.ins (t.cw d.k) dx [])) x (.ins (t.cw d.k) dx (ss d))):=fun x dx hx hd=>by
  obtain ⟨m1,m2,m3⟩:=EM (t:=t) (d:=d) hx hd hk;exact q x _ m1 m2 m3 hx
 obtain ⟨k,name,start,fi,off,near,least⟩:=d
 match k,hk with
 | 0,_=>
  (walk_at "RD"; repeat (dsimp only [ee];walk_at "RD"));refine Mb true (fun Q hQ=>?_) (fun _=>?_) (fun hc=>nomatch hc)
  ·walk_at "RD";exact hQ
  ·walk_at "RD";exact fun x dx hx hd hne=>⟨x,dx,⟨0,name,start,fi,off,near,least⟩,rfl,rfl,ib,rfl,fin x dx hx hd⟩
 | 1,_=>
  (walk_at "RD"; repeat (dsimp only [ee];walk_at "RD"));refine Mb false (fun Q hQ=>?_) (fun hc=>nomatch hc) (fun _=>?_)
  ·walk_at "RD";rw [decide_eq_false (by decide +kernel)];exact hQ
  ·walk_at "RD";refine Mb true (fun Q hQ=>?_) (fun _=>?_) (fun hc=>nomatch hc)
   ·walk_at "RD";exact hQ
   ·walk_at "RD";exact fun x dx hx hd hne=>⟨x,dx,⟨1,name,start,fi,off,near,least⟩,rfl,rfl,ib,rfl,fin x dx hx hd⟩
 | 2,_=>
  (walk_at "RD"; repeat (dsimp only [ee];walk_at "RD"));refine Mb false (fun Q hQ=>?_) (fun hc=>nomatch hc) (fun _=>?_)
  ·walk_at "RD";rw [decide_eq_false (by decide +kernel)];exact hQ
  ·walk_at "RD";refine Mb false (fun Q hQ=>?_) (fun hc=>nomatch hc) (fun _=>?_)
   ·walk_at "RD";rw [decide_eq_false (by decide +kernel)];exact hQ
   ·walk_at "RD";exact fun x dx hx hd hne=>⟨x,dx,⟨2,name,start,fi,off,near,least⟩,rfl,rfl,ib,rfl,fin x dx hx hd⟩
theorem GM (T:Txt w K mg t):Ub P w K mg base CX0 6 t.El t.Hl q39 (GJ t):=by
 have g22:Ub P w K mg base CX0 5 t.Xc t.Jd q34 (Du K t):=(eB T).mono (by decide);have g8:Ub P w K mg base CX0 5 t.Ac t.Kc q25 (Tu t):=(Ky T).mono (by decide);have g23:Ub P w K mg base CX0 5 t.Wc t.Kd ["self"] (DE t):=(bK T).mono (by decide);have g40:Ub P w K mg base CX0 5 t.Tf t.Lf q38 (ou t):=(rC T).mono (by decide);have g41:Ub P w K mg base CX0 5 t.Dl t.Al q28 (BJ t):=DN T;have g42:Ub P w K mg base CX0 5 t.Il t.Cl q29 (Xz t):=(NI T).mono (by decide);refine T.No.ok Ie (fun vs H Q E h=>?_) (fun _ _ _ s H vs Q E hr h=>?_)
 ·obtain ⟨q,row,n,wl,ds,d,rfl,_⟩:=h;rfl
 obtain ⟨q,row,n,wl,ds,d,rfl,R,hd,hn,hW,hdl,hnew,nt,qq⟩:=h;refine ⟨_,(fb (yb (i:=3) Ie.nd (He (pv 0) T.Pb T.Oh g22 hr T.Ph .nil Ce (ab (Pf (ab xc (ab xc (ab xc jb)))) jb)))
   (fb (yb (i:=4) Ie.nd (qb g40 hr T.lr T.sh.kp T.mq (ab (pv 0) (ab (pv 2) jb))))
   (fb (yb (i:=5) Ie.nd (He (pv 0) T.Pb T.Nc g8 hr T.Qc .nil Ce (ab gb (ab (Kb Fg (pv 1) gb) jb))))
   (fb (yb (i:=6) Ie.nd (qb g41 hr T.OC T.Mo.kp T.OB (ab (pv 0) (ab (pv 1) (ab (pv 5) jb)))))
   (fb (yb (i:=7) Ie.nd (He (pv 0) T.Pb T.Nc g8 hr T.Qc .nil Ce (ab gb (ab (Di rfl T.JB T.IC) jb))))
   (fb (yb (i:=8) Ie.nd (He (pv 0) T.Pb T.Nc g8 hr T.Qc .nil Ce (ab gb (ab (Di rfl T.Wx T.oy) jb))))
   (fb (yb (i:=9) Ie.nd (He (pv 0) T.Pb T.Nc g8 hr T.Qc .nil Ce (ab gb (ab (Di rfl T.wx T.Jw) jb))))
   (fb (Ge (sj (pv 0) T.Pb T.ji g23 hr T.Sh .nil Ce))
   (lb (Fb (qb g42 hr T.dC T.Ko.kp T.FC (ab (pv 3) (ab (pv 4) (ab (pv 5) (ab (pv 6) (ab (pv 7) (ab (pv 8) (ab (pv 9) jb)))))))))))))))))),?_⟩
 have b1:=hd.st;have b2:=hd.fi;have b3:=hd.of;have b4:=hd.nr;have b5:=hd.le;obtain ⟨_,dx,ta,e1,e2⟩:=id R;walk_at "RD";refine ⟨_,_,e1,yh.no _ _ _ (by decide +kernel),by decide,fun p hp=>?_⟩;have s0:Sb H (upd H p (.lst [V.str (Str.ofString "car"),V.str (Str.ofString "foot"),V.str (Str.ofString "tram")])):=db hp;have hin:ee d.k ∈ [Str.ofString "car",Str.ofString "foot",Str.ofString "tram"]:=by
  have:=hd.k
  match d.k,this with
  | 0,_=>simp [ee]
  | 1,_=>simp [ee]
  | 2,_=>simp [ee]
 refine ⟨q,row,_,0,ee d.k,p,[Str.ofString "car",Str.ofString "foot",Str.ofString "tram"],rfl,R.same s0,rfl,SqL.of ib,hin,fun H1 s1 n1 R1=>?_⟩;have x1:ue q H H1:=(ue.of s0).trans s1;have m1:=n1 nt.upd;walk_at "RD";refine ⟨q,row,_,1,wl,ds,d.name,rfl,R1,rfl,hd.nm,hW.sameX x1 R,hdl,hnew,m1,fun H2 s2 m2 R2=>?_⟩;obtain ⟨_,dx2,ta2,f2,g2⟩:=id R2;have x2:=x1.trans s2;walk_at "RD";refine ⟨_,_,f2,yh.no _ _ _ (by decide +kernel),⟨q,row,_,2,num d.start,0,n - 1,d.start,rfl,R2,rfl,qo (by omega) (by omega) (by omega) (by omega),m2,fun H3 s3 n3 R3=>?_⟩⟩;have x3:=x2.trans s3;have m3:=n3 m2;walk_at "RD";refine ⟨q,row,_,3,n,d.start,d.fin,rfl,R3,rfl,b1,b2,hd.ne,hn.2,m3,fun H4 s4 m4 R4=>?_⟩;obtain ⟨_,dx4,ta4,f4,g4⟩:=id R4;have x4:=x3.trans s4;walk_at "RD";refine ⟨_,_,f4,yh.no _ _ _ (by decide +kernel),⟨q,row,_,4,num d.off,0,30,d.off,rfl,R4,rfl,qo (by omega) (by omega) (by omega) (by omega),m4,fun H5 s5 n5 R5=>?_⟩⟩;obtain ⟨_,dx5,ta5,f5,g5⟩:=id R5;have x5:=x4.trans s5;have m5:=n5 m4;walk_at "RD";refine ⟨_,_,f5,yh.no _ _ _ (by decide +kernel),⟨q,row,_,5,num d.near,0,30,d.near,rfl,R5,rfl,qo (by omega) (by omega) (by omega) (by omega),m5,fun H6 s6 n6 R6=>?_⟩⟩;obtain ⟨_,dx6,ta6,f6,g6⟩:=id R6;have x6:=x5.trans s6;have m6:=n6 m5;walk_at "RD";refine ⟨_,_,f6,yh.no _ _ _ (by decide +kernel),⟨q,row,_,6,num d.least,1,60,d.least,rfl,R6,rfl,qo (by omega) (by omega) (by omega) (by omega),m6,fun H7 s7 n7 R7=>?_⟩⟩;obtain ⟨_,dx7,ta7,f7,g7⟩:=id R7;have x7:=x6.trans s7;have m7:=n7 m6;walk_at "RD";refine ⟨_,_,f7,yh.no _ _ _ (by decide +kernel),⟨q,row,_,7,rfl,R7,rfl,?_⟩⟩;walk_at "RD";refine ⟨d,rfl,hd.k,fun x H8 s8 n8 w8 hx8=>?_⟩;refine qq x H8 (x7.trans (ue.of s8)) (n8 m7) w8 ?_;cases hH:H x with
 | none=>rfl
 | some u=>
  by_cases hxq:x=q
  ·subst hxq;rw [f7] at hx8;cases hx8
  ·rw [x7 x u hxq hH] at hx8;cases hx8
end
end My
namespace My
open PySem L2
noncomputable abbrev JC:List Str:=[Str.ofString "places",Str.ofString "ways",Str.ofString "numbers"]
noncomputable def cF (n:Int) (wl nd:Addr):List (Str × V):=[(Str.ofString "places",.int n),(Str.ofString "ways",.ref wl),(Str.ofString "numbers",.ref nd)]
theorem sv (n:Int) (wl nd:Addr):(cF n wl nd).map (·.1)=JC:=rfl
noncomputable def nm (ds:List WD) (i:Nat):Str:=((ds[i]?).map (·.name)).getD (Str.ofString "")
noncomputable def YC (ds:List WD) (i:Nat):List (Key × V):=(List.range i).map fun j=>(Sum.inr (nm ds j),V.int j)
theorem QB {ds:List WD} {i:Nat} {d:WD} (h:ds[i]? = some d):nm ds i=d.name:=by unfold nm;rw [h];rfl
theorem eF {ds:List WD} (h:(ds.map (·.name)).Nodup) {i j:Nat} (hi:i < ds.length) (hj:j < ds.length) (e:nm ds i=nm ds j):i=j:=by
 rw [QB (List.getElem?_eq_getElem hi),QB (List.getElem?_eq_getElem hj)] at e;have:=(List.getElem_inj (xs:=ds.map (·.name)) (i:=i) (j:=j) (h₀:=by rw [List.length_map];exact hi) (h₁:=by rw [List.length_map];exact hj) h).mp (by rw [List.getElem_map,List.getElem_map];exact e);exact this
theorem vI {ds:List WD} (h:(ds.map (·.name)).Nodup) {i:Nat}:∀ {n:Nat},i < n→n ≤ ds.length→jk (YC ds n) (Sum.inr (nm ds i))=some (.int i):=by
 intro n
 induction n with
 | zero=>intro hi _;omega
 | succ n ih=>
  intro hi hn;unfold YC jk;rw [List.range_succ,List.map_append,List.find?_append];by_cases c:i < n
  ·have:=ih c (by omega);unfold YC jk at this;cases e:List.find? (fun kv=>decide (kv.fst=Sum.inr (nm ds i))) (List.map (fun j=>((Sum.inr (nm ds j):Key),V.int j)) (List.range n)) with
   | none=>rw [e] at this;cases this
   | some p=>rw [e] at this;exact this
  ·have e:i=n:=by omega
   subst e;have no:List.find? (fun kv=>decide (kv.fst=Sum.inr (nm ds i))) (List.map (fun j=>((Sum.inr (nm ds j):Key),V.int j)) (List.range i))=none:=by
    rw [List.find?_eq_none];intro p hp;obtain ⟨j,hj,rfl⟩:=List.mem_map.mp hp;have hj':=List.mem_range.mp hj;simp only [decide_eq_true_eq];intro z;have:=eF h (by omega) (by omega) (Sum.inr.inj z);omega
   rw [no];simp
theorem kH {ds:List WD} (h:(ds.map (·.name)).Nodup) {n:Nat} (hn:n < ds.length):Uq (YC ds n) (Sum.inr (nm ds n)) (.int n)=YC ds (n + 1):=by
 unfold Uq;have no:((YC ds n).any fun kv=>decide (kv.1=Sum.inr (nm ds n)))=false:=by
  rw [List.any_eq_false];intro p hp;obtain ⟨j,hj,rfl⟩:=List.mem_map.mp hp;have hj':=List.mem_range.mp hj;simp only [decide_eq_true_eq];intro z;have:=eF h (by omega) hn (Sum.inr.inj z);omega
 rw [no];unfold YC;rw [List.range_succ,List.map_append];rfl
theorem Do {H H1 H2:Hp} {q:Addr} (a:Sb H H1) (b:ue q H1 H2) (n:H q=none):Sb H H2:=fun c u e=>b c u (Nb e n) (a c u e)
theorem nO {t:Adr} {H:Hp} {p q:Addr} {i j:Int} {ws vs:List Str} {k l:Nat} (a:yh t H p i ws k) (b:yh t H q j vs l) (n:i ≠ j):p ≠ q:=fun z=>by
 subst z;obtain ⟨_,dx,ta,e1,_⟩:=a;obtain ⟨_,dx',ta',e2,_⟩:=b;rw [e1] at e2;have e3:=Option.some.inj e2;injection e3 with _ _ e4;unfold rdF at e4;injection e4 with e5 _;injection e5 with _ e6;injection e6 with e7;exact n e7
theorem BD {t:Adr} {H:Hp} {p q:Addr} {d:WD} {j:Int} {vs:List Str} {l:Nat} (a:Pe t H p d) (b:yh t H q j vs l):p ≠ q:=fun z=>by
 subst z;obtain ⟨_,dx,e1⟩:=a;obtain ⟨_,dx',ta',e2,_⟩:=b;rw [e1] at e2;have e3:=Option.some.inj e2;injection e3 with _ _ e4;exact absurd (congrArg List.length e4) (by show ¬ (7:Nat)=3;decide)
noncomputable def cf (t:Adr) (H:Hp) (c:Addr) (n:Int) (ds:List WD):Prop:=
 ((ds.map (·.name)).Nodup∧ds.length ≤ 12)∧∃ dx wl nd,H c=some (.ins t.jc dx (cF n wl nd))∧Qk t H wl ds∧H nd=some (.dK (YC ds ds.length))
theorem cf.same {t:Adr} {H H':Hp} {c:Addr} {n:Int} {ds:List WD} (h:cf t H c n ds) (s:Sb H H'):cf t H' c n ds:=by
 obtain ⟨h0,dx,wl,nd,e1,e2,e3⟩:=h;exact ⟨h0,dx,wl,nd,s _ _ e1,e2.same s,s _ _ e3⟩
theorem lM {m:Str} (n:Int) (wl nd:Addr) (h:JC.contains m=false):(cF n wl nd).lookup m=none:=xn JC (sv ..) h
section
variable {w:World} {K:PySem.W.Frag} {mg:Str→Option Value} {t:Adr} {H:Hp} {c dx wl nd:Addr} {n:Int}
theorem tI (T:Txt w K mg t) (e:H c=some (.ins t.jc dx (cF n wl nd))):Wl K H c (Str.ofString "places") (.int n):=⟨_,dx,_,e,T.Yc,T.Nh,Le JC 0 (sv ..) (by decide +kernel) rfl⟩
theorem RM (T:Txt w K mg t) (e:H c=some (.ins t.jc dx (cF n wl nd))):Wl K H c (Str.ofString "ways") (.ref wl):=⟨_,dx,_,e,T.Yc,T.ek,Le JC 1 (sv ..) (by decide +kernel) rfl⟩
theorem Tq (T:Txt w K mg t) (e:H c=some (.ins t.jc dx (cF n wl nd))):Wl K H c (Str.ofString "numbers") (.ref nd):=⟨_,dx,_,e,T.Yc,T.xh,Le JC 2 (sv ..) (by decide +kernel) rfl⟩
end
noncomputable def XJ (t:Adr):Sp:=fun vs H Q _=>∃ c dx n wl ds,vs=[.ref c,.int n,.ref wl]∧H c=some (.ins t.jc dx [])∧Qk t H wl ds∧(ds.map (·.name)).Nodup∧ds.length ≤ 12∧NoT H ∧
 ∀ H',ue c H H'→NoT H'→cf t H' c n ds→Q .non H'
noncomputable def tM (t:Adr):Sp:=fun vs H Q _=>∃ n ds,vs=[.str (yv n ds)]∧COk n ds∧NoT H∧∀ c H',Sb H H'→NoT H'→cf t H' c n ds→Q (.ref c) H'
noncomputable def Pw (t:Adr):Sp:=fun vs H Q _=>∃ c n ds,∃ i:Nat,∃ d,vs=[.ref c,.str d.name]∧cf t H c n ds∧ds[i]? = some d∧Q (.int (i:Nat)) H
noncomputable def yn (t:Adr):Sp:=fun vs H Q _=>∃ c n ds,∃ i:Nat,∃ d,vs=[.ref c,.str d.name]∧cf t H c n ds∧ds[i]? = some d∧∀ a,Pe t H a d→Q (.ref a) H
section
variable {P:Program} {w:World} {K:PySem.W.Frag} {mg:Str→Option Value} {base:Heap} {t:Adr}
theorem tO (T:Txt w K mg t):Ub P w K mg base CX0 1 t.Ke t.Wf q51 (XJ t):=by
 refine T.yl.ok ff (fun vs H Q E h=>?_) (fun _ _ _ s H vs Q E hr h=>?_)
 ·obtain ⟨c,dx,n,wl,ds,rfl,_⟩:=h;rfl
 obtain ⟨c,dx,n,wl,ds,rfl,hc,hW,hnd,hdl,nt,q⟩:=h;have hu:=Xl hr;refine ⟨_,(fb (Sg (pv 0) (pv 1) rfl)
   (fb (Sg (pv 0) (pv 2) rfl)
   (fb (Sg (pv 0) JH rfl)
   (lb (Bf PassesOwn.never rfl (xq rfl T.og (ab (pv 2) jb)) (Xf (K:=K) (n:=2) rfl rfl (vc (Ib (i:=3) ff.nd) (vc (Ib (i:=4) ff.nd) Yf))) (lb (ML hu (uc (pv 0) rfl) (uc (pv 4) rfl) (pv 3) rfl))))))),?_⟩
 walk_at "RD";refine ⟨_,_,_,hc,T.Yc,T.Nh,by decide,?_⟩;refine ⟨_,_,_,ib,T.Yc,T.ek,Jp (n:=999) (by decide),fun nd hn=>?_⟩;simp only [Gm] at hn ⊢;rw [show nj (Str.ofString "places") (V.int n) ([]:List (Str × V))=[(Str.ofString "places",V.int n)] from rfl,show nj (Str.ofString "ways") (V.ref wl) [(Str.ofString "places",V.int n)]=[(Str.ofString "places",V.int n),(Str.ofString "ways",V.ref wl)] from je [Str.ofString "places"] rfl (by decide +kernel)] at hn ⊢;have hnc:c ≠ nd:=fun z=>by subst z;rw [ib] at hn;cases hn
 refine ⟨t.jc,dx,[(Str.ofString "places",V.int n),(Str.ofString "ways",V.ref wl)],by rw [Eb hnc];exact ib,T.Yc,T.xh,show (2:Nat) < 1000 by decide,?_⟩;rw [show nj (Str.ofString "numbers") (V.ref nd) [(Str.ofString "places",V.int n),(Str.ofString "ways",V.ref wl)]=cF n wl nd from je [Str.ofString "places",Str.ofString "ways"] rfl (by decide +kernel)];obtain ⟨as,w1,w2,al⟩:=hW;have hHn:H nd=none:=by rw [Eb (Ne.symm hnc)] at hn;exact hn
 have sx:ue c H (upd (upd (upd H c (.ins t.jc dx [(Str.ofString "places",V.int n),(Str.ofString "ways",V.ref wl)])) nd (.dK [])) c (.ins t.jc dx (cF n wl nd))):=fun b u hb e=>by
  rw [Eb hb,Eb (Nb e hHn),Eb hb];exact e
 have hwc:wl ≠ c:=Bj w1 hc (by intro z;cases z);refine ⟨⟨_,SqL.of (sx _ _ hwc w1)⟩,?_⟩;refine nk.enum (xs:=as.map V.ref) (fun i σ H'=>(∃ x y,σ=[some (V.ref c),some (V.int n),some (V.ref wl),x,y])∧H' c=some (.ins t.jc dx (cF n wl nd))∧H' nd=some (.dK (YC ds i))∧ue c H H'∧NoT H') ?_ ?_ ?_ ?_
 ·exact ⟨⟨_,_,rfl⟩,ib,by rw [Eb (Ne.symm hnc),ib];rfl,sx,((nt.upd).upd).upd⟩
 ·rintro i σ H' hi zzq;refine zzP fun zzM zzh=>?_
  obtain ⟨_,_,_,sx',_⟩:=zzq;subst zzh;exact SqL.of (sx' _ _ hwc w1)
 ·rintro i v σ H' p hv ⟨⟨x,y,rfl⟩,h1,h2,sx',nt'⟩ hp;obtain ⟨a,ha,rfl⟩:=Og hv;obtain ⟨hi,_⟩:=List.getElem?_eq_some_iff.mp ha;have hid:i < ds.length:=by omega
  have hd:ds[i]? = some ds[i]:=List.getElem?_eq_getElem hid;have Wa:Pe t H a ds[i]:=al i a _ ha hd;have hac:a ≠ c:=by
   obtain ⟨_,dx',e⟩:=Wa;intro z;subst z;rw [hc] at e;have e2:=Option.some.inj e;injection e2 with _ _ e3;exact absurd (congrArg List.length e3) (by show ¬ (0:Nat)=7;decide)
  have Wa':Pe t H' a ds[i]:=⟨Wa.1,Wa.2.imp fun dx' e=>sx' _ _ hac e⟩;have sp:Sb H' (upd H' p (.tup [.int i,.ref a])):=db hp;refine uh ?_;walk_at "RD";refine ⟨_,Tq T (sp _ _ h1),_,(Wa'.same sp).f_name T,_,rfl,_,jH.k (k:=Sum.inr ds[i].name) (sp _ _ h2) (Nat.lt_of_le_of_lt (show (YC ds i).length ≤ 12 by unfold YC;rw [List.length_map,List.length_range];omega) (by decide)),?_⟩;rw [← QB hd,kH hnd hid];refine ⟨⟨_,rfl⟩,?_,ib,fun b u hb e=>?_,(nt'.upd).upd⟩
  ·rw [Eb hnc];exact sp _ _ h1
  ·rw [Eb (Nb e hHn)];exact sp _ _ (sx' b u hb e)
 ·rintro σ H' zzq;refine zzP fun zzM zzh=>?_
  obtain ⟨⟨x,y,rfl⟩,h1,h2,sx',nt'⟩:=zzq;subst zzh;walk_at "RD";rw [List.length_map,w2] at h2;refine q H' sx' nt' ⟨⟨hnd,hdl⟩,dx,wl,nd,h1,⟨as,sx' _ _ hwc w1,w2,fun i a d h3 h4=>?_⟩,h2⟩;have Wa:=al i a d h3 h4;have hac:a ≠ c:=by
   obtain ⟨_,dx',e⟩:=Wa;intro z;subst z;rw [hc] at e;have e2:=Option.some.inj e;injection e2 with _ _ e3;exact absurd (congrArg List.length e3) (by show ¬ (0:Nat)=7;decide)
  exact ⟨Wa.1,Wa.2.imp fun dx' e=>sx' _ _ hac e⟩
theorem SE (T:Txt w K mg t):Ub P w K mg base CX0 1 t.Wd t.Se q9 (Pw t):=by
 refine T.fj.ok gn (fun vs H Q E h=>?_) (fun _ _ _ s H vs Q E hr h=>?_)
 ·obtain ⟨c,n,ds,i,d,rfl,_⟩:=h;rfl
 obtain ⟨c,n,ds,i,d,rfl,⟨⟨hnd,hdl⟩,dx,wl,nd,e1,e2,e3⟩,hd,q⟩:=h;have hu:=Xl hr;have hv:jk (YC ds ds.length) (Sum.inr d.name)=some (.int i):=by
  rw [← QB hd];exact vI hnd (List.getElem?_eq_some_iff.mp hd).1 (Nat.le_refl _)
 have hg:cC H nd (.str d.name) (some (.int i)):=by rw [← hv];exact cC.k (k:=Sum.inr d.name) e3
 refine ⟨_,(fb (Pc (gu (yE hu (pv 1) (uc (pv 0) rfl))) (lb Ml) Rb)
   (lb (Fb (KL hu (uc (pv 0) rfl) (pv 1) (fun _ _=>rfl))))),?_⟩
 walk_at "RD";refine Mb false (fun Q hQ=>?_) (fun hc=>nomatch hc) (fun _=>?_)
 ·walk_at "RD";refine ⟨_,Tq T e1,_,rfl,_,hg,?_⟩;exact hQ
 ·walk_at "RD";exact ⟨_,Tq T e1,_,rfl,_,hg,q⟩
theorem Lr (T:Txt w K mg t):Ub P w K mg base CX0 2 t.Oc t.pd q9 (yn t):=by
 have g43:Ub P w K mg base CX0 1 t.Wd t.Se q9 (Pw t):=SE T;refine T.Ui.ok Pn (fun vs H Q E h=>?_) (fun _ _ _ s H vs Q E hr h=>?_)
 ·obtain ⟨c,n,ds,i,d,rfl,_⟩:=h;rfl
 obtain ⟨c,n,ds,i,d,rfl,C,hd,q⟩:=h;obtain ⟨⟨hnd,hdl⟩,dx,wl,nd,e1,⟨as,w1,w2,al⟩,e3⟩:=id C;refine ⟨_,(lb (Fb (Ab ie (uc (pv 0) rfl) (He (pv 0) T.Yc T.xo g43 hr T.vo .nil Ce (ab (pv 1) jb))))),?_⟩;walk_at "RD";refine ⟨_,RM T e1,_,_,e1,lM _ _ _ (by decide +kernel),⟨c,n,ds,i,d,rfl,C,hd,?_⟩⟩;have hi:i < as.length:=by rw [w2];exact (List.getElem?_eq_some_iff.mp hd).1
 have ha:as[i]? = some as[i]:=List.getElem?_eq_getElem hi;walk_at "RD";refine ⟨_,SqL.of w1,_,wb (show (as.map V.ref)[i]? = some (V.ref as[i]) by rw [List.getElem?_map,ha];rfl),?_⟩;exact q as[i] (al i _ d ha hd)
theorem nP (T:Txt w K mg t):Ub P w K mg base CX0 7 t.Kf t.Hf ["text"] (tM t):=by
 have g44:Ub P w K mg base CX0 6 t.Xm t.ao ["text"] (Ct t):=(pC T).mono (by decide);have g45:Ub P w K mg base CX0 6 t.Jj t.Dj ["reader"] (QD t):=(dL T).mono (by decide);have g46:Ub P w K mg base CX0 6 t.El t.Hl q39 (GJ t):=GM T;have g47:Ub P w K mg base CX0 5 t.Ke t.Wf q51 (XJ t):=(tO T).mono (by decide);refine T.Ah.ok pe (fun vs H Q E h=>?_) (fun _ _ _ s H vs Q E hr h=>?_)
 ·obtain ⟨n,ds,rfl,_⟩:=h;rfl
 obtain ⟨n,ds,rfl,hC,nt,qq⟩:=h;refine ⟨_,(fb (yb (i:=1) pe.nd (qb g44 hr T.mF T.Sq.kp T.yD (ab (pv 0) jb)))
   (fb (yb (i:=2) pe.nd (qb g45 hr T.ay T.Fm.kp T.Ny (ab (Ab ie (pv 1) gb) jb)))
   (fb (yb (i:=3) pe.nd (Pf jb))
   (fb (Bf PassesOwn.never rfl (ng (yg NK (pv 1) (lg gb) Em)) (Ib (i:=4) pe.nd) (fb (Pc (Ob tf (qc bc rfl T.Ci ic (ab (pv 3) jb)) (Di rfl T.Oy T.my) (Vb _)) (lb Ml) Rb)
   (lb (Ge (Fp PySem.F.plainAttrs_list PySem.F.slot_list_append PySem.F.type_list_append Ak (pv 3) (ab (qb g46 hr T.RC T.No.kp T.lC (ab (pv 4) (ab (pv 2) (ab (pv 3) jb)))) jb))))))
   (fb (Pc (Uk (Gz (pv 3) (fun _=>rfl))) (lb Ml) Rb)
   (lb (Fb (xm T.gC g47 hr rfl T.TC T.Wq .nil Ce (ab (pv 2) (ab (pv 3) jb)))))))))),?_⟩
 have hrow:=RB hC;have hlen:=iF hC;have hnn:=hC.nn;have hln:=hC.ln;walk_at "RD";refine ⟨yv n ds,rfl,by omega,?_,nt,fun p H1 sm1 nt1 R=>?_⟩
 ·rw [hrow];intro r hr;refine ⟨?_,fun x hx=>Nat.le_trans (hC.plain r hr x hx).1 (by decide)⟩;rcases List.mem_cons.mp hr with rfl | hr
  ·show (2:Nat) ≤ 1000;decide
  ·obtain ⟨d,hd,rfl⟩:=List.mem_map.mp hr;show (7:Nat) ≤ 1000;decide
 rw [hrow] at R;obtain ⟨qs,hp,hp0,hql,hqa⟩:=R;have hql':qs.length=ds.length + 1:=by rw [hql];simp [yi]
 obtain ⟨q0,qr,rfl⟩:∃ q0 qr,qs=q0 :: qr:=by
  cases qs with
  | nil=>simp at hql'
  | cons a b=>exact ⟨a,b,rfl⟩
 obtain ⟨R0,hq0⟩:=hqa 0 q0 _ rfl rfl;walk_at "RD";refine ⟨_,SqL.of hp,_,wb (j:=0) rfl,⟨q0,_,n,rfl,R0,hnn,nt1,fun H2 s2 nt2=>⟨Nat.zero_le _,fun wl hwl=>?_⟩⟩⟩;obtain ⟨C0,dq0,fq0,hins⟩:=R0.ins;have hpq:p ≠ q0:=Bj hp hins (by intro z;cases z);have hp2:H2 p=some (.lst ((q0 :: qr).map V.ref)):=s2 _ _ hpq hp;have swl:Sb H2 (upd H2 wl (.lst [])):=db hwl;have hcut:Sv ((q0 :: qr).map V.ref) (some 1) none=qr.map V.ref:=by
  unfold Sv;simp [HT.sIx];exact List.take_of_length_le (by rw [List.length_map];exact Nat.le_refl _)
 refine ⟨_,SqL.of (swl _ _ hp2),fun pc hpc=>?_⟩;rw [hcut];have hpw:pc ≠ wl:=fun z=>by subst z;rw [ib] at hpc;cases hpc
 have spc:Sb (upd H2 wl (.lst [])) (upd (upd H2 wl (.lst [])) pc (.lst (qr.map V.ref))):=db hpc;refine ⟨⟨_,SqL.of ib⟩,?_⟩;have sH2:Sb H H2:=Do sm1 s2 hq0;have hqrl:qr.length=ds.length:=by simpa using hql'
 refine nk.list (xs:=qr.map V.ref) (fun i σ H'=>(∃ x,σ=[some (V.str (yv n ds)),some (V.ref p),some (V.int n),some (V.ref wl),x])∧NoT H'∧Sb H H'∧H' pc=some (.lst (qr.map V.ref))∧H wl=none∧Qk t H' wl (ds.take i) ∧
  ∀ (j:Nat) (q:Addr) (d:WD),i ≤ j→qr[j]? = some q→ds[j]? = some d→yh t H' q ((j + 1:Nat):Int) (Wi d) 0∧H q=none) ?_ ?_ ?_ ?_
 ·refine ⟨⟨_,rfl⟩,(nt2.upd).upd,(sH2.trans swl).trans spc,ib,sH2.free hwl,⟨[],spc _ _ ib,rfl,fun j a d h=>by simp at h⟩,fun j q d _ h1 h2=>?_⟩;have hr:(yi n ds)[j + 1]? = some (Wi d):=by
   unfold yi;rw [List.getElem?_cons_succ,List.getElem?_map,h2];rfl
  obtain ⟨Rj,hqj⟩:=hqa (j + 1) q _ (by rw [List.getElem?_cons_succ];exact h1) hr;refine ⟨((Rj.sameX s2 (nO Rj R0 (by omega)) R0.ins).same swl).same spc,hqj⟩
 ·rintro i σ H' hi zzq;refine zzP fun zzM zzh=>?_
  obtain ⟨_,_,_,h,_⟩:=zzq;subst zzh;exact SqL.of h
 ·rintro i v σ H' hv zzq;refine zzP fun zzM zzh=>?_
  obtain ⟨⟨x,rfl⟩,nt',sm',hpc',hwl0,W,Rs⟩:=zzq;obtain ⟨q,hq,rfl⟩:=Og hv;obtain ⟨hi,_⟩:=List.getElem?_eq_some_iff.mp hq;have hid:i < ds.length:=by omega
  have hd:ds[i]? = some ds[i]:=List.getElem?_eq_getElem hid;obtain ⟨Rq,hqn⟩:=Rs i q _ (Nat.le_refl _) hq hd;have htl:(ds.take i).length=i:=by rw [List.length_take];omega
  obtain ⟨as,w1,w2,al⟩:=id W;subst zzh;walk_at "RD";refine Mb false (fun Q hQ=>?_) (fun hc=>nomatch hc) (fun _=>?_)
  ·walk_at "RD";refine ⟨_,.inl (SqL.of w1),?_⟩;rw [List.length_map,w2,htl];rw [decide_eq_false (by omega)] <;> exact hQ
  ·walk_at "RD";refine ⟨.inl ⟨_,SqL.of w1⟩,?_⟩;refine ⟨q,_,n,wl,ds.take i,ds[i],rfl,Rq,hC.al _ (List.getElem_mem hid),hnn,W,by omega,fun e he z=>?_,nt',fun y H3 s3 nt3 w3 hy3=>?_⟩
   ·obtain ⟨j,hj,rfl⟩:=List.getElem_of_mem he;rw [List.getElem_take] at z;have hj':j < i:=by omega
    have:=eF hC.nd (i:=j) (j:=i) (by omega) hid (by rw [QB (List.getElem?_eq_getElem (by omega)),QB hd];exact z);omega
   ·walk_at "RD";obtain ⟨Cq,dq,fq,hqi⟩:=Rq.ins;have hwq:wl ≠ q:=Bj w1 hqi (by intro z;cases z);have hw3:H3 wl=some (.lst (as.map V.ref)):=s3 _ _ hwq w1;have hsm3:Sb H H3:=Do sm' s3 hqn;refine ⟨_,hw3,Nat.lt_of_le_of_lt (show (as.map V.ref).length ≤ 12 by rw [List.length_map];omega) (by decide),?_⟩;have hyw:y ≠ wl:=fun z=>by
     subst z;rw [w1] at hy3;cases hy3
    refine ⟨⟨_,rfl⟩,nt3.upd,fun b u e=>?_,?_,hwl0,⟨as ++ [y],by rw [ib,List.map_append];rfl,?_,fun j a d h1 h2=>?_⟩,fun j q' d hj h1 h2=>?_⟩
    ·rw [Eb (Nb e hwl0)];exact hsm3 _ _ e
    ·rw [Eb hpw];exact s3 _ _ (Bj hpc' hqi (by intro z;cases z)) hpc'
    ·rw [List.length_append,w2,htl,List.length_take];show i + 1=_;omega
    ·by_cases hj:j < as.length
     ·rw [List.getElem?_append_left hj] at h1;have h2':(ds.take i)[j]? = some d:=by
       rw [List.getElem?_take_of_lt (by omega)];rw [List.getElem?_take_of_lt (by omega)] at h2;exact h2
      obtain ⟨hk,dx',e⟩:=al j a d h1 h2';have haq:a ≠ q:=BD ⟨hk,dx',e⟩ Rq;have haw:a ≠ wl:=Bj e w1 (by intro z;cases z);exact ⟨hk,dx',by rw [Eb haw];exact s3 _ _ haq e⟩
     ·rw [List.getElem?_append_right (by omega)] at h1;have hj0:j - as.length=0:=by
       cases hh:j - as.length with
       | zero=>rfl
       | succ m=>rw [hh] at h1;simp at h1
      rw [hj0] at h1;have e3:y=a:=by simpa using h1
      subst e3;have e4:j=i:=by omega
      subst e4;rw [List.getElem?_take_of_lt (by omega),hd] at h2;cases h2;exact ⟨w3.1,w3.2.imp fun dx' e=>by rw [Eb hyw];exact e⟩
    ·obtain ⟨Rj,hqj⟩:=Rs j q' d (by omega) h1 h2;have R3:=Rj.sameX s3 (nO Rj Rq (by omega)) Rq.ins;refine ⟨?_,hqj⟩;obtain ⟨hz,dx',ta,e1,e2⟩:=R3;refine ⟨hz,dx',ta,by rw [Eb (Bj e1 hw3 (by intro z;cases z))];exact e1,?_⟩;rw [Eb (fun z=>by
      subst z;rw [hw3] at e2;have e5:=Option.some.inj e2;injection e5 with e6;cases as with
      | nil=>exact absurd (congrArg List.length e6) (by show ¬ (0:Nat)=7;decide)
      | cons a r=>injection e6 with e7 _;cases e7)]
     exact e2
 ·rintro σ H' zzq;refine zzP fun zzM zzh=>?_
  obtain ⟨⟨x,rfl⟩,nt',sm',hpc',hwl0,W,Rs⟩:=zzq;subst zzh;rw [List.length_map,hqrl,List.take_length] at W;obtain ⟨as,w1,w2,al⟩:=id W;walk_at "RD";refine Mb false (fun Q hQ=>?_) (fun hc=>nomatch hc) (fun _=>?_)
  ·walk_at "RD";refine ⟨true,.inl ⟨_,SqL.of w1,?_⟩,hQ⟩;cases as with
   | nil=>simp at w2;omega
   | cons a r=>rfl
  ·walk_at "RD";intro c dx hc hdx hne;have sc:Sb H' (upd (upd H' dx (.own c)) c (.ins t.jc dx [])):=((Sb.refl H').updN hdx).updN hc;refine ⟨c,dx,n,wl,ds,rfl,ib,W.same sc,hC.nd,hln.2,(nt'.upd).upd,fun H5 s5 nt5 C5=>⟨rfl,?_⟩⟩;exact qq c H5 (Do (sm'.trans sc) s5 (sm'.free hc)) nt5 C5
end
end My
namespace My
open PySem L2
theorem vB {n s p:Int} (h0:0 ≤ s) (h1:s < n) (h2:0 ≤ p) (h3:p < n):(p - s) % n=if s ≤ p then p - s else p - s + n:=by
 split
 ·rename_i h;exact Int.emod_eq_of_lt (by omega) (by omega)
 ·rename_i h;have e:(p - s) % n=(p - s + n) % n:=(Int.add_emod_right ..).symm;rw [e];exact Int.emod_eq_of_lt (by omega) (by omega)
noncomputable def Mm (n s f p:Int):Bool:=decide (0 < (p - s) % n) && decide ((p - s) % n < (f - s) % n)
noncomputable def Iy (n s f s2 f2:Int):Bool:=decide (f=f2) || (if (s2=s∨s2=f)∨(f2=s∨f2=f) then false else (Mm n s f s2 != Mm n s f f2))
theorem II {s f p:Int} (h1:p ≠ s) (h2:p ≠ f) (h3:s ≠ f):((decide (s < f) && decide (f < p) && !decide (s < p)) || (!decide (s < f) && !decide (f < p) && decide (s < p)))=false:=by
 by_cases a:s < f <;> by_cases b:f < p
 ·rw [decide_eq_true a,decide_eq_true b,decide_eq_true (show s < p by omega)];rfl
 ·rw [decide_eq_true a,decide_eq_false b];rfl
 ·rw [decide_eq_false a,decide_eq_true b];rfl
 ·rw [decide_eq_false a,decide_eq_false b,decide_eq_false (show ¬ s < p by omega)];rfl
theorem QC {s p:Int} (h:s ≠ p):decide (p < s) = !decide (s < p):=by
 by_cases a:s < p
 ·rw [decide_eq_true a,decide_eq_false (by omega)];rfl
 ·rw [decide_eq_false a,decide_eq_true (by omega)];rfl
theorem Cv {n s f p:Int} (hs:0 ≤ s∧s < n) (hf:0 ≤ f∧f < n) (hp:0 ≤ p∧p < n) (h1:p ≠ s) (h2:p ≠ f) (h3:s ≠ f):Mm n s f p=((decide (s < p) && decide (p < f)) || (decide (p < f) && decide (f < s)) || (decide (f < s) && decide (s < p))):=by
 unfold Mm;rw [vB hs.1 hs.2 hp.1 hp.2,vB hs.1 hs.2 hf.1 hf.2,decide_eq_true (show 0 < (if s ≤ p then p - s else p - s + n) by split <;> omega),Bool.true_and,QC h3];by_cases a:s < p <;> by_cases b:s < f
 ·rw [if_pos (by omega),if_pos (by omega),decide_eq_true a,decide_eq_true b,show decide (p - s < f - s)=decide (p < f) from decide_eq_decide.mpr (by omega)];cases decide (p < f) <;> rfl
 ·rw [if_pos (by omega),if_neg (by omega),decide_eq_true a,decide_eq_false b,decide_eq_true (show p - s < f - s + n by omega)];cases decide (p < f) <;> rfl
 ·rw [if_neg (by omega),if_pos (by omega),decide_eq_false a,decide_eq_true b,decide_eq_false (show ¬ p - s + n < f - s by omega)];cases decide (p < f) <;> rfl
 ·rw [if_neg (by omega),if_neg (by omega),decide_eq_false a,decide_eq_false b,show decide (p - s + n < f - s + n)=decide (p < f) from decide_eq_decide.mpr (by omega)];cases decide (p < f) <;> rfl
theorem bP:∀ a b c d e g:Bool,((a && d && !b) || (!a && !d && b))=false→((a && e && !c) || (!a && !e && c))=false→((b && g && !c) || (!b && !g && c))=false→((d && g && !e) || (!d && !g && e))=false →
  (((b && !d) || (!d && !a) || (!a && b)) != ((c && !e) || (!e && !a) || (!a && c)))=(((!b && c) || (c && !g) || (!g && !b)) != ((!d && e) || (e && !g) || (!g && !d))):=by decide +kernel
theorem CC {n s f s2 f2:Int} (hs:0 ≤ s∧s < n) (hf:0 ≤ f∧f < n) (hs2:0 ≤ s2∧s2 < n) (hf2:0 ≤ f2∧f2 < n) (hne:s ≠ f) (hne2:s2 ≠ f2):Iy n s f s2 f2=Iy n s2 f2 s f:=by
 unfold Iy;by_cases e:f=f2
 ·rw [decide_eq_true e,decide_eq_true e.symm];rfl
 ·rw [decide_eq_false e,decide_eq_false (Ne.symm e)];by_cases c:(s2=s∨s2=f)∨(f2=s∨f2=f)
  ·have c':(s=s2∨s=f2)∨(f=s2∨f=f2):=by omega
   rw [if_pos c,if_pos c']
  ·have c':¬ ((s=s2∨s=f2)∨(f=s2∨f=f2)):=by omega
   rw [if_neg c,if_neg c'];have n1:s2 ≠ s:=by omega
   have n2:s2 ≠ f:=by omega
   have n3:f2 ≠ s:=by omega
   have n4:f2 ≠ f:=by omega
   rw [Bool.false_or,Bool.false_or,Cv hs hf hs2 n1 n2 hne,Cv hs hf hf2 n3 n4 hne,Cv hs2 hf2 hs n1.symm n3.symm hne2,Cv hs2 hf2 hf n2.symm n4.symm hne2,QC n1.symm,QC n2.symm,QC n4.symm,QC hne,QC hne2];exact bP _ _ _ _ _ _ (II n1 n2 hne) (II n3 n4 hne) (II n3 hne2.symm n1.symm) (II n4 hne2.symm n2.symm)
noncomputable def iO:List Bool→Nat
 | []=>0
 | b :: r=>(if b then 1 else 0) + 2 * iO r
noncomputable abbrev mt (n:Int) (d e:WD):Bool:=Iy n d.start d.fin e.start e.fin
noncomputable def nJ (t:Adr):Sp:=fun vs H Q _=>∃ a d n p,vs=[.int n,.ref a,.int p]∧Pe t H a d∧0 < n∧Q (.bl (Mm n d.start d.fin p)) H
noncomputable def KN (n:Int) (d e:WD):Bool:=if (e.start=d.start∨e.start=d.fin)∨(e.fin=d.start∨e.fin=d.fin) then false else (Mm n d.start d.fin e.start != Mm n d.start d.fin e.fin)
noncomputable def NE (t:Adr):Sp:=fun vs H Q _=>∃ a b d e n,vs=[.int n,.ref a,.ref b]∧Pe t H a d∧Pe t H b e∧0 < n∧NoT H∧Q (.bl (KN n d e)) H
noncomputable def OI (t:Adr):Sp:=fun vs H Q _=>∃ a b d e n,vs=[.int n,.ref a,.ref b]∧Pe t H a d∧Pe t H b e∧0 < n∧∀ H',Sb H H'→Q (.bl (KN n d e)) H'
noncomputable def WE (t:Adr):Sp:=fun vs H Q _=>∃ c n ds,∃ i j:Nat,∃ d e,vs=[.ref c,.str d.name,.str e.name]∧cf t H c n ds∧0 < n∧ds[i]? = some d∧ds[j]? = some e∧NoT H∧Q (.bl (mt n d e)) H
section
variable {P:Program} {w:World} {K:PySem.W.Frag} {mg:Str→Option Value} {base:Heap} {t:Adr}
theorem qO (T:Txt w K mg t):Ub P w K mg base CX0 1 t.aq t.jq q35 (nJ t):=by
 refine T.kq.ok ix (fun vs H Q E h=>?_) (fun _ _ _ s H vs Q E hr h=>?_)
 ·obtain ⟨a,d,n,p,rfl,_⟩:=h;rfl
 obtain ⟨a,d,n,p,rfl,W,hn,q⟩:=h;refine ⟨_,(fb (yb (i:=3) ix.nd (Kb Ig (Kb Fg (pv 2) (uc (pv 1) rfl)) (pv 0)))
   (lb (Fb (Sz (ae av gb (pv 3) (Vb _)) (Mr (ae av (pv 3) (Kb Ig (Kb Fg (uc (pv 1) rfl) (uc (pv 1) rfl)) (pv 0)) (Vb _))))))),?_⟩
 walk_at "RD";refine ⟨_,W.f_start T,_,rfl,hn,?_⟩;unfold Mm at q;by_cases c:0 < (p - d.start) % n
 ·rw [if_pos (decide_eq_true c)];rw [decide_eq_true c,Bool.true_and] at q;exact ⟨_,W.f_end T,_,W.f_start T,_,rfl,_,rfl,hn,q⟩
 ·rw [if_neg (by simpa using c)];rw [decide_eq_false c,Bool.false_and] at q;exact q
theorem wO (x a b:Int):inV (.int x) [.int a,.int b]=decide (x=a∨x=b):=by
 unfold inV;simp only [List.any_cons,List.any_nil,eqV,Bool.or_false];rw [Bool.eq_iff_iff];simp only [Bool.or_eq_true,beq_iff_eq,decide_eq_true_eq];omega
theorem fL (T:Txt w K mg t):Ub P w K mg base CX0 2 t.Hh t.Lh q26 (NE t):=by
 refine Ub.forget (sp:=OI t) ?_ fun vs H Q E h=>?_
 ·have g30:Ub P w K mg base CX0 1 t.aq t.jq q35 (nJ t):=qO T;refine T.vk.ok Mu (fun vs H Q E h=>?_) (fun _ _ _ s H vs Q E hr h=>?_)
  ·obtain ⟨a,b,d,e,n,rfl,_⟩:=h;rfl
  obtain ⟨a,b,d,e,n,rfl,Wa,Wb,hn,q⟩:=h;refine ⟨_,(fb (Pc (PW.pt (gr (Ob ql (uc (pv 2) rfl) (Pf (ab (uc (pv 1) rfl) (ab (uc (pv 1) rfl) jb))) (by with_unfolding_all rfl)) (wn (Ob ql (uc (pv 2) rfl) (Pf (ab (uc (pv 1) rfl) (ab (uc (pv 1) rfl) jb))) (by with_unfolding_all rfl))))) (lb (Fb Tl)) Rb)
   (lb (Fb (ae TD (qb g30 hr T.uz T.kq.kp T.iA (ab (pv 0) (ab (pv 1) (ab (uc (pv 2) rfl) jb)))) (qb g30 hr T.uz T.kq.kp T.iA (ab (pv 0) (ab (pv 1) (ab (uc (pv 2) rfl) jb)))) (Vb _))))),?_⟩
  walk_at "RD";refine qf (fun b H'=>Sb H H'∧b=decide ((e.start=d.start∨e.start=d.fin)∨(e.fin=d.start∨e.fin=d.fin))) (fun Q hQ=>?_) (fun H' ⟨sm,hb⟩=>?_) (fun H' ⟨sm,hb⟩=>?_)
  ·walk_at "RD";refine ⟨_,Wb.f_start T,_,Wa.f_start T,_,Wa.f_end T,by decide,fun p hp=>⟨_,.inl (SqL.of ib),rfl,rfl,?_⟩⟩;have s1:Sb H (upd H p (.lst [.int d.start,.int d.fin])):=db hp;rw [wO];by_cases c1:e.start=d.start∨e.start=d.fin
   ·rw [if_pos (decide_eq_true c1)];exact hQ _ _ ⟨s1,(decide_eq_true (.inl c1)).symm⟩
   ·rw [if_neg (by simpa using c1)];refine ⟨_,(Wb.same s1).f_end T,_,(Wa.same s1).f_start T,_,(Wa.same s1).f_end T,by decide,fun p2 hp2=>⟨_,.inl (SqL.of ib),rfl,rfl,?_⟩⟩;rw [wO];refine hQ _ _ ⟨s1.trans (db hp2),?_⟩;rw [Bool.eq_iff_iff,decide_eq_true_eq,decide_eq_true_eq];exact ⟨.inr,fun z=>z.resolve_left c1⟩
  ·walk_at "RD";have hb':=of_decide_eq_true hb.symm;have:=q H' sm;unfold KN at this;rw [if_pos hb'] at this;exact this
  ·walk_at "RD";have hb':=of_decide_eq_false hb.symm;refine ⟨_,(Wb.same sm).f_start T,⟨a,d,n,_,rfl,Wa.same sm,hn,?_⟩⟩;refine ⟨_,(Wb.same sm).f_end T,⟨a,d,n,_,rfl,Wa.same sm,hn,?_⟩⟩;refine ⟨rfl,?_⟩;have:=q H' sm;unfold KN at this;rw [if_neg hb'] at this;rw [show (!decide (V.bl (Mm n d.start d.fin e.start)=V.bl (Mm n d.start d.fin e.fin)))=(Mm n d.start d.fin e.start != Mm n d.start d.fin e.fin) by
    cases Mm n d.start d.fin e.start <;> cases Mm n d.start d.fin e.fin <;> rfl]
   exact this
 ·obtain ⟨a,b,d,e,n,h1,h2,h3,h4,nt,q⟩:=h;exact ⟨nt,a,b,d,e,n,h1,h2,h3,h4,fun H' sm=>⟨sm,q⟩⟩
theorem iP (n:Int) (d e:WD):mt n d e=(decide (d.fin=e.fin) || KN n d e):=rfl
theorem aL (T:Txt w K mg t):Ub P w K mg base CX0 3 t.zB t.rB q12 (WE t):=by
 have g10:Ub P w K mg base CX0 2 t.Oc t.pd q9 (yn t):=Lr T;have g48:Ub P w K mg base CX0 2 t.Hh t.Lh q26 (NE t):=fL T;refine T.NG.ok Ly (fun vs H Q E h=>?_) (fun _ _ _ s H vs Q E hr h=>?_)
 ·obtain ⟨c,n,ds,i,j,d,e,rfl,_⟩:=h;rfl
 obtain ⟨c,n,ds,i,j,d,e,rfl,C,hn,hd,he,nt,q⟩:=h;obtain ⟨_,dx,wl,nd,e1,e2,e3⟩:=id C;refine ⟨_,(fb (yb (i:=3) Ly.nd (He (pv 0) T.Yc T.Yd g10 hr T.Zd .nil Ce (ab (pv 1) jb)))
   (fb (yb (i:=4) Ly.nd (He (pv 0) T.Yc T.Yd g10 hr T.Zd .nil Ce (ab (pv 2) jb)))
   (lb (Fb (yL (ae tf (uc (pv 3) rfl) (uc (pv 4) rfl) (Vb _)) (Mr (qb g48 hr T.Yv T.vk.kp T.vx (ab (uc (pv 0) rfl) (ab (pv 3) (ab (pv 4) jb)))))))))),?_⟩
 rw [iP] at q;walk_at "RD";refine ⟨_,_,e1,lM _ _ _ (by decide +kernel),⟨c,n,ds,i,d,rfl,C,hd,fun a Wa=>?_⟩⟩;walk_at "RD";refine ⟨_,_,e1,lM _ _ _ (by decide +kernel),⟨c,n,ds,j,e,rfl,C,he,fun b Wb=>?_⟩⟩;walk_at "RD";refine ⟨_,Wa.f_end T,_,Wb.f_end T,rfl,?_⟩;walk_at "RD";by_cases c1:d.fin=e.fin
 ·rw [if_pos (decide_eq_true c1)];rw [decide_eq_true c1,Bool.true_or] at q;exact q
 ·rw [if_neg (by simpa using c1)];rw [decide_eq_false c1,Bool.false_or] at q;exact ⟨_,tI T e1,⟨a,b,d,e,n,rfl,Wa,Wb,hn,nt,q⟩⟩
end
noncomputable def RJ (t:Adr):Sp:=fun vs H Q _=>∃ c n ds,∃ i j:Nat,∃ d e,vs=[.ref c,.str d.name,.str e.name]∧cf t H c n ds∧ds[i]? = some d∧ds[j]? = some e∧Q (.int (if d.off - e.near > 0 then d.off - e.near else 0)) H
section
variable {P:Program} {w:World} {K:PySem.W.Frag} {mg:Str→Option Value} {base:Heap} {t:Adr}
theorem vO (T:Txt w K mg t):Ub P w K mg base CX0 3 t.WI t.RH q12 (RJ t):=by
 have g10:Ub P w K mg base CX0 2 t.Oc t.pd q9 (yn t):=Lr T;refine T.rK.ok rG (fun vs H Q E h=>?_) (fun _ _ _ s H vs Q E hr h=>?_)
 ·obtain ⟨c,n,ds,i,j,d,e,rfl,_⟩:=h;rfl
 obtain ⟨c,n,ds,i,j,d,e,rfl,C,hd,he,q⟩:=h;obtain ⟨_,dx,wl,nd,e1,e2,e3⟩:=id C;refine ⟨_,(fb (yb (i:=3) rG.nd (He (pv 0) T.Yc T.Yd g10 hr T.Zd .nil Ce (ab (pv 1) jb)))
   (fb (yb (i:=4) rG.nd (He (pv 0) T.Yc T.Yd g10 hr T.Zd .nil Ce (ab (pv 2) jb)))
   (lb (Fb (qc (yr rfl) rfl T.zH Jo (ab gb (ab (Kb Fg (uc (pv 3) rfl) (uc (pv 4) rfl)) jb))))))),?_⟩
 walk_at "RD";refine ⟨_,_,e1,lM _ _ _ (by decide +kernel),⟨c,n,ds,i,d,rfl,C,hd,fun a Wa=>?_⟩⟩;walk_at "RD";refine ⟨_,_,e1,lM _ _ _ (by decide +kernel),⟨c,n,ds,j,e,rfl,C,he,fun b Wb=>?_⟩⟩;walk_at "RD";refine ⟨_,Wa.f_off T,_,Wb.f_near T,?_⟩;walk_at "RD";exact q
end
end My
namespace My
open PySem L2
theorem eg {α:Type} {l:List α} {a x:α} {i:Nat} (h:(l ++ [a])[i]? = some x):(i < l.length∧l[i]? = some x)∨(i=l.length∧x=a):=by
 by_cases hi:i < l.length
 ·rw [List.getElem?_append_left hi] at h;exact .inl ⟨hi,h⟩
 ·rw [List.getElem?_append_right (by omega)] at h;have h0:i - l.length=0:=by
   cases hh:i - l.length with
   | zero=>rfl
   | succ m=>rw [hh] at h;simp at h
  rw [h0] at h;exact .inr ⟨by omega,(by simpa using h:a=x).symm⟩
noncomputable def Ir (H:Hp) (wl:Addr) (ws:List (WD × Int)):Prop:=∃ qs:List Addr,H wl=some (.lst (qs.map V.ref))∧qs.length=ws.length∧∀ (i:Nat) (q:Addr) (p:WD × Int),qs[i]? = some q→ws[i]? = some p→H q=some (.tup [.str p.1.name,.int p.2])
noncomputable def lf (i j:Nat):List Key:=[Sum.inl (i:Int),Sum.inl (j:Int)]
noncomputable def bD (d e:WD):Int:=if d.off - e.near > 0 then d.off - e.near else 0
noncomputable def gj (n:Int) (ws:List (WD × Int)) (i m:Nat):List (List Key × V):=
 (List.range m).filterMap fun j=>match ws[i]?,ws[j]? with
  | some p,some q=>if i ≠ j∧mt n p.1 q.1=true then some (lf i j,V.int (p.2 + bD p.1 q.1)) else none
  | _,_=>none
noncomputable def bg (n:Int) (ws:List (WD × Int)) (i:Nat):List (List Key × V):=(List.range i).flatMap fun k=>gj n ws k ws.length
theorem TB (n:Int) (ws:List (WD × Int)) (i:Nat):gj n ws i 0=[]:=rfl
theorem Lv {n:Int} {ws:List (WD × Int)} {i m:Nat} {p q:WD × Int} (hi:ws[i]? = some p) (hm:ws[m]? = some q) (h:¬ (i ≠ m∧mt n p.1 q.1=true)):gj n ws i (m + 1)=gj n ws i m:=by
 unfold gj;rw [List.range_succ,List.filterMap_append];simp only [List.filterMap_cons,List.filterMap_nil,hi,hm,if_neg h,List.append_nil]
theorem uw {n:Int} {ws:List (WD × Int)} {i m:Nat} {p q:WD × Int} (hi:ws[i]? = some p) (hm:ws[m]? = some q) (h:i ≠ m∧mt n p.1 q.1=true):gj n ws i (m + 1)=gj n ws i m ++ [(lf i m,V.int (p.2 + bD p.1 q.1))]:=by
 unfold gj;rw [List.range_succ,List.filterMap_append];simp only [List.filterMap_cons,List.filterMap_nil,hi,hm,if_pos h]
theorem zt (n:Int) (ws:List (WD × Int)) (i:Nat):bg n ws (i + 1)=bg n ws i ++ gj n ws i ws.length:=by
 unfold bg;rw [List.range_succ,List.flatMap_append];simp
theorem kr {n:Int} {ws:List (WD × Int)} {i m:Nat} {x:List Key × V} (h:x ∈ gj n ws i m):∃ j p q,j < m∧ws[i]? = some p∧ws[j]? = some q∧i ≠ j∧mt n p.1 q.1=true∧x=(lf i j,V.int (p.2 + bD p.1 q.1)):=by
 unfold gj at h;obtain ⟨j,hj,e⟩:=List.mem_filterMap.mp h;have hj':=List.mem_range.mp hj;cases hp:ws[i]? with
 | none=>simp [hp] at e
 | some p=>
  cases hq:ws[j]? with
  | none=>simp [hp,hq] at e
  | some q=>
   simp only [hp,hq] at e;split at e
   ·rename_i c;exact ⟨j,p,q,hj',rfl,hq,c.1,c.2,(Option.some.inj e).symm⟩
   ·cases e
theorem ax {n:Int} {ws:List (WD × Int)} {i:Nat} {x:List Key × V} (h:x ∈ bg n ws i):∃ k,k < i∧x ∈ gj n ws k ws.length:=by
 unfold bg at h;obtain ⟨k,hk,e⟩:=List.mem_flatMap.mp h;exact ⟨k,List.mem_range.mp hk,e⟩
theorem Ti {i j i' j':Nat} (h:lf i j=lf i' j'):i=i'∧j=j':=by
 unfold lf at h;simp only [List.cons.injEq,Sum.inl.injEq,and_true] at h;omega
theorem Vt {kvs:List (List Key × V)} {k:List Key} {v:V} (h:∀ x ∈ kvs,x.1 ≠ k):Uq kvs k v=kvs ++ [(k,v)]:=by
 unfold Uq;rw [if_neg];intro z;obtain ⟨x,hx,e⟩:=List.any_eq_true.mp z;exact h x hx (of_decide_eq_true e)
theorem iI {n:Int} {ws:List (WD × Int)} {i m:Nat} {p q:WD × Int} (hi:ws[i]? = some p) (hm:ws[m]? = some q) (h:i ≠ m∧mt n p.1 q.1=true) :
  Uq (bg n ws i ++ gj n ws i m) (lf i m) (V.int (p.2 + bD p.1 q.1))=bg n ws i ++ gj n ws i (m + 1):=by
 rw [uw hi hm h,Vt,List.append_assoc];intro x hx e;rcases List.mem_append.mp hx with z | z
 ·obtain ⟨k,hk,z⟩:=ax z;obtain ⟨j,p',q',_,_,_,_,_,rfl⟩:=kr z;have:=Ti e;omega
 ·obtain ⟨j,p',q',hj,_,_,_,_,rfl⟩:=kr z;have:=Ti e;omega
theorem Uv (n:Int) (ws:List (WD × Int)) (i m:Nat):(gj n ws i m).length ≤ m:=by
 unfold gj;exact Nat.le_trans (List.length_filterMap_le _ _) (by simp)
theorem ow (n:Int) (ws:List (WD × Int)) (i:Nat):(bg n ws i).length ≤ i * ws.length:=by
 induction i with
 | zero=>simp [bg]
 | succ i ih=>
  rw [zt,List.length_append,Nat.succ_mul];have:=Uv n ws i ws.length;omega
noncomputable def Rc (p:WD × Int):Int:=p.2 + Rn p.1 + Gh p.1
noncomputable def ym (m:Int) (al sd:Addr):List (Str × V):=[(Str.ofString "many",.int m),(Str.ofString "alones",.ref al),(Str.ofString "steps",.ref sd)]
theorem KJ {d:WD} {m:Str} (h:Bs.contains m=false):(ss d).lookup m=none:=xn Bs (Ft _) h
theorem RF {P:Program} {w:World} {K:PySem.W.Frag} {mg:Str→Option Value} {base:Heap} {CX:CXT} {j k:Nat} {OK:Addr→Prop} {m:Str} {ps:List Str} {SPV:Addr→Sp} (V:JL P w K mg base CX j OK m ps SPV) (h:j ≤ k):JL P w K mg base CX k OK m ps SPV:=⟨fun C hC=>by
 obtain ⟨f,fd,h1,h2,h3,h4⟩:=V.ok C hC;exact ⟨f,fd,h1,h2,h3.mono h,h4⟩⟩
theorem Cw {H:Hp} {p b C D dx dy:Addr} {x:Str × V} {fs:List (Str × V)} (hp:H p=some (.ins C dx [])) (hb:H b=some (.ins D dy (x :: fs))):b ≠ p:=fun z=>by
 subst z;rw [hp] at hb;cases hb
theorem SM {t:Adr} {H H':Hp} {p a C dx:Addr} {d:WD} (hp:H p=some (.ins C dx [])) (sx:ue p H H') (h:Pe t H a d):Pe t H' a d:=by
 obtain ⟨h1,dy,e⟩:=h;exact ⟨h1,dy,sx _ _ (Cw hp e) e⟩
theorem KF {t:Adr} {H H':Hp} {p c C dx:Addr} {n:Int} {ds:List WD} (hp:H p=some (.ins C dx [])) (sx:ue p H H') (h:cf t H c n ds):cf t H' c n ds:=by
 obtain ⟨h0,dy,wl,nd,e1,⟨as,w1,w2,w3⟩,e3⟩:=h;exact ⟨h0,dy,wl,nd,sx _ _ (Cw hp e1) e1,⟨as,sx _ _ (Bj w1 hp (by intro z;cases z)) w1,w2,fun i a d h1 h2=>SM hp sx (w3 i a d h1 h2)⟩,sx _ _ (Bj e3 hp (by intro z;cases z)) e3⟩
theorem rH {K:PySem.W.Frag} {a b:Addr} {xs ys:List V} {g:TG} {σb:St} {H:Hp} {tc:TT} {te:TE} {Q:VK} (Pv:Nat→List V→Hp→Prop) (n:Nat) (hn:n=min xs.length ys.length) (hz:n ≤ sizeLine) (h0:Pv 0 [] H) (hl:∀ i zs H,i ≤ n→Pv i zs H→(SqL K H a xs∧SqL K H b ys)∧zs.length ≤ i)
  (hs:∀ i x y zs H p,xs[i]? = some x→ys[i]? = some y→Pv i zs H→H p=none→xg Pv g tc te σb i (.ref p) zs (upd H p (.tup [x,y]))) (hd:∀ zs H,Pv n zs H→∀ p,H p=none→Q (.ref p) (upd H p (.lst zs))):bd (Itz K a b) g tc te σb Q H:=by
 refine bd.of (n:=n) Pv hz h0 (fun i zs H hi p=>?_) (fun zs H p=>?_) (fun i zs H hi p=>(hl i zs H (Nat.le_of_lt hi) p).2) (fun i zs H v H' hi p y=>?_) hd
 ·obtain ⟨⟨z1,z2⟩,_⟩:=hl i zs H (Nat.le_of_lt hi) p;exact ⟨xs,ys,xs[i],ys[i],z1,z2,by rw [List.getElem?_eq_getElem (by omega)],by rw [List.getElem?_eq_getElem (by omega)]⟩
 ·obtain ⟨⟨z1,z2⟩,_⟩:=hl n zs H (Nat.le_refl _) p;exact ⟨xs,ys,z1,z2,by omega⟩
 ·obtain ⟨q,x,y,hq,rfl,hx,hy,rfl⟩:=y;obtain ⟨⟨z1,z2⟩,_⟩:=hl i zs H (Nat.le_of_lt hi) p;exact hs i x y zs H q (hx xs z1) (hy ys z2) p hq
section
variable (P:Program) (w:World)
noncomputable def jd (t:Adr) (H:Hp) (p:Addr) (n:Int) (ws:List (WD × Int)):Prop:=∃ dx al sd,H p=some (.ins t.cc dx (ym ws.length al sd))∧H al=some (.lst (ws.map fun p=>V.int (Rc p)))∧Ol P w H sd (bg n ws ws.length)
noncomputable def Nv (t:Adr):Sp:=fun vs H Q _=>∃ p dx c wl n ds ws,vs=[.ref p,.ref c,.ref wl]∧H p=some (.ins t.cc dx [])∧cf t H c n ds∧0 < n∧Ir H wl ws∧(∀ q ∈ ws,∃ i:Nat,ds[i]? = some q.1)∧ws.length ≤ 20∧(∀ q ∈ ws,0 ≤ q.2∧q.2 ≤ 100000)∧NoT H ∧
 ∀ H',ue p H H'→NoT H'→jd P w t H' p n ws→Q .non H'
end
noncomputable def bq:List Str:=[Str.ofString "many",Str.ofString "alones",Str.ofString "steps"]
theorem oo (m:Int) (al sd:Addr):(ym m al sd).map (·.1)=bq:=rfl
section
variable {P:Program} {w:World} {K:PySem.W.Frag} {mg:Str→Option Value} {base:Heap} {t:Adr}
theorem ve (T:Txt w K mg t) {H:Hp} {p dx al sd:Addr} {m:Int} (e:H p=some (.ins t.cc dx (ym m al sd))):Wl K H p (Str.ofString "steps") (.ref sd):=⟨_,dx,_,e,T.Pi,T.sk,Le bq 2 (oo ..) (by decide +kernel) rfl⟩
theorem Om (T:Txt w K mg t) {H:Hp} {p dx al sd:Addr} {m:Int} (e:H p=some (.ins t.cc dx (ym m al sd))):Wl K H p (Str.ofString "alones") (.ref al):=⟨_,dx,_,e,T.Pi,T.Uj,Le bq 1 (oo ..) (by decide +kernel) rfl⟩
theorem dB (T:Txt w K mg t):Ub P w K mg base CX0 4 t.Re t.Jf q32 (Nv P w t):=by
 have g10:Ub P w K mg base CX0 3 t.Oc t.pd q9 (yn t):=(Lr T).mono (by decide);have V_Way_ready:JL P w K mg base CX0 3 (isW t) "ready" ["self"] (ol t):=RF (kL T) (by decide);have V_Way_fade:JL P w K mg base CX0 3 (isW t) "fade" ["self"] (Ym t):=RF (wN T) (by decide);have g49:Ub P w K mg base CX0 3 t.zB t.rB q12 (WE t):=aL T;have g50:Ub P w K mg base CX0 3 t.WI t.RH q12 (RJ t):=vO T;refine T.Vn.ok Uc (fun vs H Q E h=>?_) (fun _ _ _ s H vs Q E hr h=>?_)
 ·obtain ⟨p,dx,c,wl,n,ds,ws,rfl,_⟩:=h;rfl
 obtain ⟨p,dx,c,wl,n,ds,ws,rfl,hp,C,hn,W,hds,hlen,hb,nt,q⟩:=h;have hu:=Xl hr;refine ⟨_,(fb (gg (i:=3) Uc.nd rfl (Or.inl rfl) rfl (ng (pv 2)) (Cc (sc:=ub eh) rfl (by decide +kernel)) (N:=q59) (sel:=[none,none,some 1]) (Vc (M:=q57) (by decide +kernel)) (Blk.of (fun _ _ _ _=>(Xf (K:=K) (n:=2) rfl rfl (vc (Ib (i:=0) (oh (N:=q59) (by decide +kernel) rfl)) (vc (Ib (i:=1) (oh (N:=q59) (by decide +kernel) rfl)) Yf)))) (fun _ _ _ _=>⟨_,sf,by walk_at "B"⟩) (fun _ _ _ _=>⟨_,(He (pv 2) T.Yc T.Yd g10 hr T.Zd .nil Ce (ab (pv 0) jb)),by walk_at "B"⟩)) rfl)
   (fb (Sg (pv 0) (qc bc rfl T.Ci ic (ab (pv 2) jb)) rfl)
   (fb (Sg (pv 0) (cg rfl (pO rfl T.FO (ab (pv 2) (ab (pv 3) jb))) (Cc (sc:=ub eh) rfl (by decide +kernel)) (N:=["want","way"]) (sel:=[none,none]) (Vc (M:=q57) (by decide +kernel)) (Blk.of (fun _ _ _ _=>(Xf (K:=K) (n:=2) rfl rfl (vc (Ib (i:=0) (oh (N:=["want","way"]) (by decide +kernel) rfl)) (vc (Ib (i:=1) (oh (N:=["want","way"]) (by decide +kernel) rfl)) Yf)))) (fun _ _ _ _=>⟨_,sf,by walk_at "B"⟩) (fun _ _ _ _=>⟨_,(Kb fc (Kb fc (Ab Jb (pv 0) gb) (gw (pv 1) V_Way_fade hr Ce)) (gw (pv 1) V_Way_ready hr Ce)),by walk_at "B"⟩))) rfl)
   (fb (Sg (pv 0) qF rfl)
   (lb (Bf PassesOwn.never rfl (xq rfl T.og (ab (pv 2) jb)) (Xf (K:=K) (n:=2) rfl rfl (vc (Ib (i:=4) Uc.nd) (vc (Ib (i:=5) Uc.nd) Yf))) (lb (Bf PassesOwn.never rfl (xq rfl T.og (ab (pv 2) jb)) (Xf (K:=K) (n:=2) rfl rfl (vc (Ib (i:=6) Uc.nd) (vc (Ib (i:=7) Uc.nd) Yf))) (lb (Pc (PW.pt (Et (Ob TD (pv 4) (pv 6) (Vb _)) (Yq (Vh (qb g49 hr T.mN T.NG.kp T.uO (ab (pv 1) (ab (Ab Jb (pv 5) gb) (ab (Ab Jb (pv 7) gb) jb)))))))) (lb (xy hu (uc (pv 0) rfl) (wc (ab (pv 4) (ab (pv 6) jb))) (Kb fc (Ab Jb (pv 5) gb) (qb g50 hr T.wP T.rK.kp T.dP (ab (pv 1) (ab (Ab Jb (pv 5) gb) (ab (Ab Jb (pv 7) gb) jb))))) rfl)) Rb)))))))))),?_⟩
 obtain ⟨qs,w1,w2,al⟩:=id W;have hql:(qs.map V.ref).length ≤ sizeLine:=Nat.le_trans (show (qs.map V.ref).length ≤ 20 by rw [List.length_map,w2];exact hlen) (by decide);obtain ⟨_,dxc,wlc,ndc,ec1,ec2,ec3⟩:=id C;walk_at "RD";refine ⟨⟨_,SqL.of w1⟩,?_⟩;refine bd.list (xs:=qs.map V.ref) (fun i ys H'=>H'=H∧∃ as:List Addr,ys=as.map V.ref∧as.length=i∧∀ (j:Nat) (a:Addr) (q:WD × Int),as[j]? = some a→ws[j]? = some q→Pe t H a q.1) hql ⟨rfl,[],rfl,rfl,fun j a q h=>by simp at h⟩ (fun i ys H' _ ⟨e,as,e1,e2,_⟩=>by subst e e1;exact ⟨SqL.of w1,by rw [List.length_map,e2];exact Nat.le_refl _⟩) ?_ ?_
 ·rintro i x ys H' hx ⟨rfl,as,rfl,e2,e3⟩ N hN;obtain ⟨qi,hqi,rfl⟩:=Og hx;have hi:i < ws.length:=by rw [← w2];exact (List.getElem?_eq_some_iff.mp hqi).1
  have hwi:ws[i]? = some ws[i]:=List.getElem?_eq_getElem hi;have hq:=al i qi _ hqi hwi;obtain ⟨k,hk⟩:=hds _ (List.mem_of_getElem? hwi);refine Qm (SqT.of hq) ?_;walk_at "RD";refine ⟨Sub.name2,_,_,ec1,lM _ _ _ (by decide +kernel),⟨c,n,ds,k,_,rfl,C,hk,fun a Wa=>?_⟩⟩;show N (as.map V.ref ++ [V.ref a]) H';rw [show as.map V.ref ++ [V.ref a]=(as ++ [a]).map V.ref by rw [List.map_append];rfl];refine hN _ _ ⟨rfl,as ++ [a],rfl,by rw [List.length_append,e2];rfl,fun j b q h1 h2=>?_⟩;rcases eg h1 with z | z
  ·exact e3 j b q z.2 h2
  ·obtain ⟨z1,rfl⟩:=z;rw [z1,e2,hwi] at h2;cases h2;exact Wa
 ·rintro ys H' ⟨rfl,as,rfl,e2,e3⟩ pw hpw;rw [List.length_map,w2] at e2;walk_at "RD";have s1:Sb H' (upd H' pw (.lst (as.map V.ref))):=db hpw;have hpp:pw ≠ p:=fun z=>by subst z;rw [hp] at hpw;cases hpw
  refine ⟨_,.inl (SqL.of (s1 _ _ w1)),_,_,_,s1 _ _ hp,T.Pi,T.em,by decide,?_⟩;have sx2:ue p H' (upd (upd H' pw (.lst (as.map V.ref))) p (.ins t.cc dx [(Str.ofString "many",V.int (ws.length:Int))])):=fun b u hb e=>by rw [Eb hb];exact s1 _ _ e
  have e2p:(upd (upd H' pw (.lst (as.map V.ref))) p (.ins t.cc dx [(Str.ofString "many",V.int (ws.length:Int))])) p=some (.ins t.cc dx [(Str.ofString "many",V.int (ws.length:Int))]):=ib;have e2w:(upd (upd H' pw (.lst (as.map V.ref))) p (.ins t.cc dx [(Str.ofString "many",V.int (ws.length:Int))])) pw=some (.lst (as.map V.ref)):=by rw [Eb hpp];exact ib
  have nt2:NoT (upd (upd H' pw (.lst (as.map V.ref))) p (.ins t.cc dx [(Str.ofString "many",V.int (ws.length:Int))])):=(nt.upd).upd;rw [show nj (Str.ofString "many") (V.int ((qs.map V.ref).length:Int)) ([]:List (Str × V))=[(Str.ofString "many",V.int (ws.length:Int))] by rw [List.length_map,w2];rfl];generalize upd (upd H' pw (.lst (as.map V.ref))) p (.ins t.cc dx [(Str.ofString "many",V.int (ws.length:Int))])=H2 at sx2 e2p e2w nt2 ⊢;have wl2:H2 wl=some (.lst (qs.map V.ref)):=sx2 _ _ (Bj w1 hp (by intro z;cases z)) w1;refine ⟨⟨_,SqL.of wl2⟩,⟨_,SqL.of e2w⟩,?_⟩;refine rH (xs:=qs.map V.ref) (ys:=as.map V.ref) (fun i zs H3=>Sb H2 H3∧NoT H3∧zs=(ws.take i).map fun p=>V.int (Rc p)) ws.length (by rw [List.length_map,List.length_map,w2,e2];simp) (Nat.le_trans hlen (by decide)) ⟨Sb.refl _,nt2,rfl⟩ (fun i zs H3 hi ⟨sm,_,e⟩=>⟨⟨(SqL.of wl2).same sm,(SqL.of e2w).same sm⟩,by rw [e,List.length_map,List.length_take];omega⟩) ?_ ?_
  ·rintro i x y zs H3 r hx hy ⟨sm,nt3,rfl⟩ hr3 N hN;obtain ⟨qi,hqi,rfl⟩:=Og hx;obtain ⟨ai,hai,rfl⟩:=Og hy;have hi:i < ws.length:=by rw [← w2];exact (List.getElem?_eq_some_iff.mp hqi).1
   have hwi:ws[i]? = some ws[i]:=List.getElem?_eq_getElem hi;have hq:H2 qi=some (.tup [.str ws[i].1.name,.int ws[i].2]):=sx2 _ _ (Bj (al i qi _ hqi hwi) hp (by intro z;cases z)) (al i qi _ hqi hwi);have Wa:Pe t H3 ai ws[i].1:=(SM hp sx2 (e3 i ai _ hai hwi)).same sm;have sm4:Sb H3 (upd H3 r (.tup [.ref qi,.ref ai])):=db hr3;have Wb:=Wa.same sm4;refine uh ?_;walk_at "RD";obtain ⟨dk,dxw,hway⟩:=id Wb;refine ⟨Sub.name2,_,SqT.of (sm4 _ _ (sm _ _ hq)),_,wb (j:=1) rfl,_,_,_,hway,⟨_,dk,rfl⟩,KJ (by decide +kernel),_,_,rfl,Wb,rfl,_,rfl,_,rfl,_,_,_,hway,⟨_,dk,rfl⟩,KJ (by decide +kernel),_,_,rfl,Wb,rfl,_,rfl,?_⟩;refine hN _ _ ⟨sm.trans sm4,nt3.upd,?_⟩;rw [List.take_add_one,hwi,List.map_append];rfl
  ·rintro zs H3 ⟨sm,nt3,rfl⟩ pa hpa;rw [List.take_length];walk_at "RD";have s4:Sb H3 (upd H3 pa (.lst (ws.map fun p=>V.int (Rc p)))):=db hpa;have hpap:pa ≠ p:=fun z=>by subst z;rw [sm _ _ e2p] at hpa;cases hpa
   refine ⟨_,_,_,s4 _ _ (sm _ _ e2p),T.Pi,T.Uj,(show (1:Nat) < 1000 by decide),fun sd o hsd hD=>?_⟩;rw [show nj (Str.ofString "alones") (V.ref pa) [(Str.ofString "many",V.int (ws.length:Int))]=[(Str.ofString "many",V.int (ws.length:Int)),(Str.ofString "alones",V.ref pa)] from je [Str.ofString "many"] rfl (by decide +kernel)] at hsd hD ⊢;have hsp:sd ≠ p:=fun z=>by subst z;rw [ib] at hsd;cases hsd
   have hsn:H3 sd=none:=by
    rw [Eb hsp] at hsd;by_cases z:sd=pa
    ·subst z;exact hpa
    ·rw [Eb z] at hsd;exact hsd
   have hsa:sd ≠ pa:=fun z=>by subst z;rw [Eb hsp,ib] at hsd;cases hsd
   refine ⟨t.cc,dx,[(Str.ofString "many",V.int (ws.length:Int)),(Str.ofString "alones",V.ref pa)],by rw [Eb (Ne.symm hsp)];exact ib,T.Pi,T.sk,show (2:Nat) < 1000 by decide,?_⟩;rw [show nj (Str.ofString "steps") (V.ref sd) [(Str.ofString "many",V.int (ws.length:Int)),(Str.ofString "alones",V.ref pa)]=ym ws.length pa sd from je [Str.ofString "many",Str.ofString "alones"] rfl (by decide +kernel)];have sx7:ue p H' (upd (upd (upd (upd H3 pa (.lst (ws.map fun p=>V.int (Rc p)))) p (.ins t.cc dx [(Str.ofString "many",V.int (ws.length:Int)),(Str.ofString "alones",V.ref pa)])) sd (.ext (AtO sd o))) p (.ins t.cc dx (ym ws.length pa sd))):=fun b u hb e=>by
    have e4:=sm _ _ (sx2 _ _ hb e);rw [Eb hb,Eb (Nb e4 hsn),Eb hb];exact s4 _ _ e4
   have e7p:(upd (upd (upd (upd H3 pa (.lst (ws.map fun p=>V.int (Rc p)))) p (.ins t.cc dx [(Str.ofString "many",V.int (ws.length:Int)),(Str.ofString "alones",V.ref pa)])) sd (.ext (AtO sd o))) p (.ins t.cc dx (ym ws.length pa sd))) p=some (.ins t.cc dx (ym ws.length pa sd)):=ib;have e7a:(upd (upd (upd (upd H3 pa (.lst (ws.map fun p=>V.int (Rc p)))) p (.ins t.cc dx [(Str.ofString "many",V.int (ws.length:Int)),(Str.ofString "alones",V.ref pa)])) sd (.ext (AtO sd o))) p (.ins t.cc dx (ym ws.length pa sd))) pa=some (.lst (ws.map fun p=>V.int (Rc p))):=by
    rw [Eb hpap,Eb (Ne.symm hsa),Eb hpap];exact ib
   have nt7:NoT (upd (upd (upd (upd H3 pa (.lst (ws.map fun p=>V.int (Rc p)))) p (.ins t.cc dx [(Str.ofString "many",V.int (ws.length:Int)),(Str.ofString "alones",V.ref pa)])) sd (.ext (AtO sd o))) p (.ins t.cc dx (ym ws.length pa sd))):=(((nt3.upd).upd).upd).upd;have D7:=nI (u:=.ins t.cc dx (ym ws.length pa sd)) hD (Ne.symm hsp) (fun xs z=>by rw [Eb (Ne.symm hsp),ib] at z;cases z);generalize upd (upd (upd (upd H3 pa (.lst (ws.map fun p=>V.int (Rc p)))) p (.ins t.cc dx [(Str.ofString "many",V.int (ws.length:Int)),(Str.ofString "alones",V.ref pa)])) sd (.ext (AtO sd o))) p (.ins t.cc dx (ym ws.length pa sd))=H7 at sx7 e7p e7a nt7 D7 ⊢;have hwp:wl ≠ p:=Bj w1 hp (by intro z;cases z);have hpsn:H' sd=none:=by
    cases e:H' sd with
    | none=>rfl
    | some u=>
     have:=sm _ _ (sx2 _ _ hsp e);rw [hsn] at this;cases this
   refine ⟨⟨_,SqL.of (sx7 _ _ hwp w1)⟩,?_⟩;refine nk.enum (xs:=qs.map V.ref) (fun i σ H8=>(∃ a b c' d,σ=[some (V.ref p),some (V.ref c),some (V.ref wl),some (V.ref pw),a,b,c',d])∧ue p H' H8∧NoT H8∧H8 p=some (.ins t.cc dx (ym ws.length pa sd))∧H8 pa=some (.lst (ws.map fun p=>V.int (Rc p)))∧Ol P w H8 sd (bg n ws i)) ?_ ?_ ?_ ?_
   ·exact ⟨⟨_,_,_,_,rfl⟩,sx7,nt7,e7p,e7a,D7⟩
   ·rintro i σ H8 hi ⟨_,sx8,_⟩;exact SqL.of (sx8 _ _ hwp w1)
   ·rintro i v σ H8 r hv ⟨⟨a,b,c',d,rfl⟩,sx8,nt8,e8p,e8a,D8⟩ hr8;obtain ⟨qi,hqi,rfl⟩:=Og hv;have hi:i < ws.length:=by rw [← w2];exact (List.getElem?_eq_some_iff.mp hqi).1
    have hwi:ws[i]? = some ws[i]:=List.getElem?_eq_getElem hi;have eqi:∀ {H9:Hp},ue p H' H9→H9 qi=some (.tup [.str ws[i].1.name,.int ws[i].2]):=fun sx=>sx _ _ (Bj (al i qi _ hqi hwi) hp (by intro z;cases z)) (al i qi _ hqi hwi)
    obtain ⟨ki,hki⟩:=hds _ (List.mem_of_getElem? hwi);refine uh ?_;walk_at "RD";have s9:Sb H8 (upd H8 r (.tup [.int i,.ref qi])):=db hr8;refine ⟨⟨_,SqL.of (s9 _ _ (sx8 _ _ hwp w1))⟩,?_⟩;refine nk.enum (xs:=qs.map V.ref) (fun j σ H9=>(∃ c' d,σ=[some (V.ref p),some (V.ref c),some (V.ref wl),some (V.ref pw),some (V.int (i:Int)),some (V.ref qi),c',d])∧ue p H' H9∧NoT H9∧H9 p=some (.ins t.cc dx (ym ws.length pa sd))∧H9 pa=some (.lst (ws.map fun p=>V.int (Rc p)))∧Ol P w H9 sd (bg n ws i ++ gj n ws i j)) ?_ ?_ ?_ ?_
    ·exact ⟨⟨_,_,rfl⟩,sx8.trans (ue.of s9),nt8.upd,s9 _ _ e8p,s9 _ _ e8a,by rw [TB,List.append_nil];exact Yb D8 s9⟩
    ·rintro j σ H9 hj ⟨_,sx9,_⟩;exact SqL.of (sx9 _ _ hwp w1)
    ·rintro j v σ H9 r2 hv ⟨⟨c2,d2,rfl⟩,sx9,nt9,e9p,e9a,D9⟩ hr9;obtain ⟨qj,hqj,rfl⟩:=Og hv;have hj:j < ws.length:=by rw [← w2];exact (List.getElem?_eq_some_iff.mp hqj).1
     have hwj:ws[j]? = some ws[j]:=List.getElem?_eq_getElem hj;obtain ⟨kj,hkj⟩:=hds _ (List.mem_of_getElem? hwj);have s10:Sb H9 (upd H9 r2 (.tup [.int j,.ref qj])):=db hr9;have sx10:=sx9.trans (ue.of (p:=p) s10);have eqj:∀ {H9:Hp},ue p H' H9→H9 qj=some (.tup [.str ws[j].1.name,.int ws[j].2]):=fun sx=>sx _ _ (Bj (al j qj _ hqj hwj) hp (by intro z;cases z)) (al j qj _ hqj hwj)
     have nt10:NoT (upd H9 r2 (.tup [.int j,.ref qj])):=nt9.upd;have e10p:=s10 _ _ e9p;have e10a:=s10 _ _ e9a;have D10:=Yb D9 s10;refine uh ?_;simp only [List.set_cons_succ,List.set_cons_zero];generalize upd H9 r2 (.tup [.int j,.ref qj])=H10 at sx10 nt10 e10p e10a D10 ⊢;by_cases hij:i=j
     ·refine Mb false (fun Q hQ=>?_) (fun z=>nomatch z) (fun _=>?_)
      ·walk_at "RD";rw [if_neg (by simp [hij])];exact hQ
      ·simp only [Xb];exact ⟨⟨_,_,rfl⟩,sx10,nt10,e10p,e10a,by rw [Lv hwi hwj (fun z=>z.1 hij)];exact D10⟩
     refine Mb (mt n ws[i].1 ws[j].1) (fun Q hQ=>?_) (fun hm=>?_) (fun hm=>?_)
     ·walk_at "RD";rw [if_pos (by simp;omega)];exact ⟨_,SqT.of (eqi sx10),_,wb (j:=0) rfl,_,SqT.of (eqj sx10),_,wb (j:=0) rfl,c,n,ds,ki,kj,_,_,rfl,KF hp sx10 C,hn,hki,hkj,nt10,_,rfl,hQ⟩
     ·walk_at "RD";refine ⟨_,SqT.of (eqi sx10),_,wb (j:=1) rfl,_,SqT.of (eqi sx10),_,wb (j:=0) rfl,_,SqT.of (eqj sx10),_,wb (j:=0) rfl,c,n,ds,ki,kj,_,_,rfl,KF hp sx10 C,hki,hkj,_,rfl,_,rfl,_,ve T e10p,by decide,fun tp htp=>⟨sd,rfl,_,Yb D10 (db htp),lf i j,(show upd H10 tp (.tup [V.int (i:Int),V.int (j:Int)]) tp=some (HO.tup [V.int (i:Int),V.int (j:Int)]) from ib),?_,fun o hD2=>⟨⟨_,rfl⟩,?_,(nt10.upd).upd,?_,?_,?_⟩⟩⟩
      ·have a1:=ow n ws i;have a2:=Uv n ws i j;have a3:=Nat.mul_le_mul (show i ≤ 20 by omega) hlen;exact Nat.lt_of_le_of_lt (show (bg n ws i ++ gj n ws i j).length ≤ 420 by rw [List.length_append];omega) (by decide)
      ·intro b u hb e;have e1:=sx10 _ _ hb e;rw [Eb (Nb e hpsn),Eb (Nb e1 htp)];exact e1
      ·rw [Eb (Ne.symm hsp),Eb (Nb e10p htp)];exact e10p
      ·rw [Eb (Ne.symm hsa),Eb (Nb e10a htp)];exact e10a
      ·rw [← iI hwi hwj ⟨hij,hm⟩];exact hD2
     ·simp only [Xb];exact ⟨⟨_,_,rfl⟩,sx10,nt10,e10p,e10a,by rw [Lv hwi hwj (fun z=>by rw [hm] at z;exact nomatch z.2)];exact D10⟩
    ·rintro σ H9 zzq;refine zzP fun zzM zzh=>?_
     obtain ⟨⟨c2,d2,rfl⟩,sx9,nt9,e9p,e9a,D9⟩:=zzq;subst zzh;rw [List.length_map,w2,← zt] at D9;exact ⟨⟨_,_,_,_,rfl⟩,sx9,nt9,e9p,e9a,D9⟩
   ·rintro σ H8 zzq;refine zzP fun zzM zzh=>?_
    obtain ⟨⟨a,b,c',d,rfl⟩,sx8,nt8,e8p,e8a,D8⟩:=zzq;subst zzh;rw [List.length_map,w2] at D8;walk_at "RD";exact q _ sx8 nt8 ⟨dx,pa,sd,e8p,e8a,D8⟩
end
theorem xw {H H':Hp} {wl:Addr} {ws:List (WD × Int)} (h:Ir H wl ws) (s:Sb H H'):Ir H' wl ws:=by
 obtain ⟨qs,w1,w2,w3⟩:=h;exact ⟨qs,s _ _ w1,w2,fun i q p h1 h2=>s _ _ (w3 i q p h1 h2)⟩
theorem AH {n:Int} {ws:List (WD × Int)} {i j:Nat} {p q:WD × Int} (hi:ws[i]? = some p) (hj:ws[j]? = some q) (hij:i ≠ j) (hm:mt n p.1 q.1=true):(lf i j,V.int (p.2 + bD p.1 q.1)) ∈ bg n ws ws.length:=by
 unfold bg;refine List.mem_flatMap.mpr ⟨i,List.mem_range.mpr (List.getElem?_eq_some_iff.mp hi).1,?_⟩;unfold gj;refine List.mem_filterMap.mpr ⟨j,List.mem_range.mpr (List.getElem?_eq_some_iff.mp hj).1,?_⟩;simp only [hi,hj,if_pos (And.intro hij hm)]
end My
namespace My
open PySem L2
section
open PySem.Spec PyProof.Rows
section
variable {prog:Program} {w:World} {A:Around} {R:Result→Shared→Prop} {I:Addr} {fp wr:List Addr} {n:Nat} {P:Nat→Value→Prop} {St:Nat→Heap→Prop}
theorem YE (W:Walks prog w A.in1 I fp wr n P St) (bt:Nat→Nat→Bool) (hcmp:CmpOf prog w A.in1 .Gt P bt) (S:Addr) (hSf:S ∉ fp) (dv:Value) (kn:Str) :
  ∀ (k j:Nat) (s:Shared) (acc:Array Value) (c:Nat),n - j=k→j ≤ n→St j s.heap→aO P bt j acc →
  s.heap.get? S=some { cls:=.type "list",dict:=none,data:=.seq acc c,slots:=#[] } →
  (∀ v h' tk,(n=0∧v=dv)∨(0 < n∧P (argBest bt (n - 1)) v)→(∀ b o,b ∉ wr→b ≠ S→s.heap.get? b=some o→h'.get? b=some o)→R (.ok (.ret v)) { s with heap:=h',toks:=tk }) →
  codeAny (model prog w) A (.builtin "max.loop" ⟨[.ref I,.none,.ref S],[(kn,dv)]⟩) R s:=by
 have hSw:S ∉ wr:=fun h=>hSf (W.sub _ h)
 have hname:(toString "max" ++ toString ".loop" : String) = "max.loop" := by decide
 intro k
 induction k with
 | zero=>
  intro j s acc c hk hj hst hB hS hR;have hin:j=n:=by omega
  refine codeAny_builtin PySem.F.entry_max_loop ?_;rw [Around.under_plainId PySem.F.plain_max_loop _];show wpAny _ A.in1 (seqItems? (.ref S) >>= _) _ _ s;refine wpAny_bind (wpAny_seqItems hS rfl ?_);show wpAny _ A.in1 (tryCatch (pyNext (.ref I)) _ >>= _) _ _ s;refine wpAny_bind (wpAny_tryCatch (W.done s _ _ (hin ▸ hst) fun h' tk hk'=>?_));have hS':=hk' S _ hSw hS;rcases hB with ⟨h0,rfl⟩ | ⟨vb,i,hi,rfl,hP⟩
  ·show wpAny _ A.in1 (rule _ >>= _) _ _ _;refine wpAny_bind (wpAny_rule (wpAny_pure ?_));exact hR dv h' tk (.inl ⟨by omega,rfl⟩) fun b o hbw hbS e=>hk' b o hbw e
  ·show wpAny _ A.in1 (updateSeq S (fun _=>#[]) >>= _) _ _ _;refine wpAny_bind ?_;refine wpAny_updateSeq hS' rfl (wpAny_bind (wpAny_letGo (wpAny_pure ?_)));refine hR vb _ tk (.inr ⟨by omega,by rw [show n - 1=i by omega];exact hP⟩) fun b o hbw hbS e=>(Heap.get?_update_other _ _ (Ne.symm hbS)).trans (hk' b o hbw e)
 | succ k ih=>
  intro j s acc c hk hj hst hB hS hR;have hlt:j < n:=by omega
  refine codeAny_builtin PySem.F.entry_max_loop ?_;rw [Around.under_plainId PySem.F.plain_max_loop _];show wpAny _ A.in1 (seqItems? (.ref S) >>= _) _ _ s;refine wpAny_bind (wpAny_seqItems hS rfl ?_);show wpAny _ A.in1 (tryCatch (pyNext (.ref I)) _ >>= _) _ _ s;refine wpAny_bind (wpAny_tryCatch (W.item j s _ _ hlt hst fun v h' tk hP hst' hk'=>?_));have hS':=hk' S _ hSw hS;have put:∀ h'':Heap,h''=h'.update S (Obj.mapSeq (fun _=>#[v,v]))→St (j + 1) h'':=fun h'' e=>by
   subst e;exact W.frame _ _ _ hst' fun b hbf o e=>(Heap.get?_update_other _ _ (fun h:S=b=>hSf (by rw [h];exact hbf))).trans e
  rcases hB with ⟨h0,rfl⟩ | ⟨vb,i,hi,rfl,hPb⟩
  ·show wpAny _ A.in1 (updateSeq S (fun _=>#[v,v]) >>= _) _ _ _;refine wpAny_bind ?_;refine wpAny_updateSeq hS' rfl ?_;rw [hname];refine wpAny_pure ⟨plainId_quiet PySem.F.plain_max_loop _,ih (j + 1) _ #[v,v] _ (by omega) hlt (put _ rfl) (.inr ⟨v,j,rfl,rfl,by subst h0;exact hP⟩) (Heap.get?_update_self _ hS' rfl) fun v' h'' tk'' hP' hk''=>?_⟩;exact hR v' h'' tk'' hP' fun b o hbw hbS e=>hk'' b o hbw hbS ((Heap.get?_update_other _ _ (Ne.symm hbS)).trans (hk' b o hbw e))
  ·subst hi;show wpAny _ A.in1 (tryCatch (holding [v,v] (richCompare .Gt v vb >>= _)) _ >>= _) _ _ _;refine wpAny_bind (wpAny_tryCatch (wpAny_holding (wpAny_bind (hcmp (i + 1) (argBest bt i) v vb _ _ _ hP hPb ?_))));refine wpAny_bind (wpAny_holding (wpAny_truthy_bool ?_));refine wpAny_bind (wpAny_letGo (wpAny_pure ?_));cases hb:bt (i + 1) (argBest bt i) with
   | true=>
    simp only [if_true];refine wpAny_bind ?_;refine wpAny_updateSeq hS' rfl (wpAny_bind (wpAny_letGo ?_));rw [hname];refine wpAny_pure ⟨plainId_quiet PySem.F.plain_max_loop _,ih (i + 1 + 1) _ #[v,v] _ (by omega) hlt (put _ rfl) (.inr ⟨v,i + 1,rfl,rfl,by simp only [argBest,hb,if_true];exact hP⟩) (Heap.get?_update_self _ hS' rfl) fun v' h'' tk'' hP' hk''=>?_⟩;exact hR v' h'' tk'' hP' fun b o hbw hbS e=>hk'' b o hbw hbS ((Heap.get?_update_other _ _ (Ne.symm hbS)).trans (hk' b o hbw e))
   | false=>
    simp only [Bool.false_eq_true,if_false];refine wpAny_bind (wpAny_letGo ?_);rw [hname];refine wpAny_pure ⟨plainId_quiet PySem.F.plain_max_loop _,ih (i + 1 + 1) _ #[vb,vb] c (by omega) hlt hst' (.inr ⟨vb,i + 1,rfl,rfl,by simp only [argBest,hb,Bool.false_eq_true,if_false];exact hPb⟩) hS' fun v' h'' tk'' hP' hk''=>?_⟩;exact hR v' h'' tk'' hP' fun b o hbw hbS e=>hk'' b o hbw hbS (hk' b o hbw e)
end
section
variable {prog:Program} {w:World} {A:Around} {E:Value→Shared→Prop} {s:Shared}
theorem UE (a d:Value):argsOk "max" ⟨[a],[(Str.ofString "default",d)]⟩:=by unfold argsOk;kernel_rfl
theorem uD {l:Addr} {its:Array Value} {dv:Value} {Q:Value→Shared→Prop} (hh:A.handled=none) (hl:s.heap.IsList l its) (ks:List Int) (hk:its.size=ks.length) (hv:∀ (i:Nat) (v:Value),its[i]? = some v→∃ t,v=Value.int (ks.getD i 0) t)
  (hQ:∀ v h' tk,(ks=[]∧v=dv)∨(∃ m t,ks.max? = some m∧v=.int m t)→(∀ b o,s.heap.get? b=some o→h'.get? b=some o)→Q v { s with heap:=h',toks:=tk }) :
  wpAny (model prog w) A (call (.builtin "max") [.ref l] [(Str.ofString "default",dv)]) Q E s:=by
 have hname:(toString "max" ++ toString ".loop" : String) = "max.loop" := by decide
 have hlt:l < s.heap.objs.size:=by obtain ⟨_,e,_⟩:=hl;exact Heap.lt_size e
 refine wpAny_call (codeAny_call_builtin PySem.F.plain_max PySem.F.entry_max ?_);simp only [checkBuiltinCall,PySem.F.kind_max];have key:wpAny (model prog w) A.in1 (Builtin.«max» ⟨[.ref l],[(Str.ofString "default",dv)]⟩) (fun fin s'=>match fin with
   | .done f=>(match (Except.ok f:Result) with | .ok (.ret v)=>Q v s' | .ok _=>False | .error e=>E e s')
   | .again c'=>c'.quiet=true∧codeAny (model prog w) A c' (fun r s'=>match r with | .ok (.ret v)=>Q v s' | .ok _=>False | .error e=>E e s') s') E s:=by
  show wpAny _ A.in1 (Builtin.Builtins.bindParams "max" ["key","default"] 0 ⟨[],[(Str.ofString "default",dv)]⟩ >>= _) _ _ s;refine wpAny_bind (wpAny_of_eq (show Builtin.Builtins.bindParams "max" ["key","default"] 0 ⟨[],[(Str.ofString "default",dv)]⟩=pure [none,some dv] from rfl) ?_);refine wpAny_bind (wpAny_pure ?_);refine wpAny_bind (wpAny_pyIter_list hl ?_);refine wpAny_bind (wpAny_newObj_type ?_);rw [hname];have W:=Walks.list (prog:=prog) (w:=w) (A:=A.in1) hh s.heap.objs.size l (Nat.ne_of_lt hlt) its;have hz1:(s.heap.push { cls:=.type "list_iterator",data:=.fields #[.ref l,.int 0 0] }).objs.size=s.heap.objs.size + 1:=Heap.size_push ..;refine wpAny_pure ⟨plainId_quiet PySem.F.plain_max_loop _,YE W _ (CmpOf.ints_gt (fun i=>ks.getD i 0) fun i v h=>hv i v h) _ ?_ dv _ its.size 0 _ #[] _ rfl (Nat.zero_le _) ?_ (.inl ⟨rfl,rfl⟩) (Heap.get?_push_size _ rfl) fun v h' tk hP hk'=>?_⟩
  ·show (s.heap.push _).objs.size ∉ _;rw [hz1];simp only [List.mem_cons,List.not_mem_nil,or_false,not_or];exact ⟨Nat.succ_ne_self _,Ne.symm (Nat.ne_of_lt (Nat.lt_succ_of_lt hlt))⟩
  ·exact W.frame 0 (s.heap.push { cls:=.type "list_iterator",data:=.fields #[.ref l,.int 0 0] }) _ ⟨⟨_,Heap.get?_push_size _ rfl,rfl,rfl⟩,hl.push _⟩ fun b _ o e=>Heap.get?_push_of_some _ e
  ·refine hQ v h' tk ?_ fun b o e=>hk' b o (fun hm=>?_) ?_ (Heap.get?_push_of_some _ (Heap.get?_push_of_some _ e))
   ·rcases hP with ⟨h0,h1⟩ | ⟨h0,h1⟩
    ·exact .inl ⟨List.length_eq_zero_iff.mp (by omega),h1⟩
    ·obtain ⟨t,e⟩:=hv _ v h1;have hb:=argBest_gt (fun i=>ks.getD i 0) (its.size - 1);refine .inr ⟨_,t,?_,e⟩;rw [List.max?_eq_some_iff];have hi:argBest (fun i j=>decide (ks.getD i 0 > ks.getD j 0)) (its.size - 1) < ks.length:=by omega
     refine ⟨?_,fun b hb'=>?_⟩
     ·rw [List.getD_eq_getElem?_getD,List.getElem?_eq_getElem hi];exact List.getElem_mem hi
     ·obtain ⟨j,hj,rfl⟩:=List.getElem_of_mem hb';have:=hb.2 j (by omega);rw [List.getD_eq_getElem?_getD (i:=j),List.getElem?_eq_getElem hj] at this;exact this
   ·rw [List.mem_singleton.mp hm] at e;exact absurd (Heap.lt_size e) (Nat.lt_irrefl _)
   ·rw [hz1];exact Nat.ne_of_lt (Nat.lt_succ_of_lt (Heap.lt_size e))
 cases hsig:Manifest.signature? "max" with
 | none=>exact wpAny_pure key
 | some sig=>
  have ha:=UE (.ref l) dv;have ha':Bind.checkArgs "max" sig ⟨[.ref l],[(Str.ofString "default",dv)]⟩=pure ():=by simpa only [argsOk,hsig] using ha
  simp only [ha'];exact wpAny_pure key
end
section
variable {X:Cx}
noncomputable def TM (K:PySem.W.Frag) (ta:TA) (td:TE):TE:=fun σ H Q=>ta σ H fun vs H1=>td σ H1 fun y H2=>∃ l ks,vs=[.ref l]∧SqL K H2 l (List.map V.int ks)∧Q (match ks.max? with | some m=>.int m | none=>y) H2
theorem FK {a d:Expr} {ta:TA} {td:TE} {p kp pos:Pos} (hc:X.calm=true) (hg:Gl X "max") (hm:X.mg "max"=none) (ha:PA X [a] ta) (hd:PE X d td)
  (he:∀ pos,backTo pos (starEach [a] X.env)=(false,eval a X.env) :: backTo pos (starEach [] X.env):=by intro _;rfl) (hpl:∀ pos,(backTo pos (starEach [a] X.env)).any (·.1)=false:=by intro _;rfl) :
  PE X (.Call (.Name "max" p) [a] [⟨some "default",d,kp⟩] pos) (TM X.K ta td):=by
 intro pins s σ H Q I h;refine wpAny_Call_Name_kw (cn I hg hm (show bootBuiltins "max"=some (.builtin "max") by decide +kernel) ?_);refine callWith_kw (id := "max") (thn (ha pos pins s σ H _ I h) fun us s1 ⟨vs,H1,I1,r1,q1⟩=>?_) (he:=he pos) (hplain:=hpl pos);refine kws_cons (thn (hd pins s1 σ H1 _ I1 q1) fun v s2 ⟨y,H2,I2,r2,q2⟩=>kws_nil ?_);obtain ⟨l,ks,rfl,hq,q⟩:=q2;cases r1 with
 | cons r rr=>
  cases rr;cases r;obtain ⟨its,rv,pl,hz⟩:=I2.list hq;have hl:=rv.length;rw [List.length_map] at hl;refine uD (I2.ok.hd hc) pl.isList ks (by rw [List.size_toArray];omega) (fun i v hv=>?_) fun v' h' tk hv' hk=>⟨_,H2,I2.kept hk,?_,q⟩
  ·rw [List.getElem?_toArray] at hv;have hi:i < ks.length:=by have:=(List.getElem?_eq_some_iff.mp hv).1;omega
   obtain ⟨w,hw,rw'⟩:=rv.get (show (ks.map V.int)[i]? = some (.int ks[i]) by rw [List.getElem?_map,List.getElem?_eq_getElem hi];rfl);rw [hv] at hw;cases hw;rw [List.getD_eq_getElem?_getD,List.getElem?_eq_getElem hi];exact rw'
  ·rcases hv' with ⟨rfl,rfl⟩ | ⟨m,t,hm,rfl⟩
   ·exact r2
   ·rw [hm];exact ⟨t,rfl⟩
end
end
section
open PySem.Spec PyProof.Rows
variable {prog:Program} {w:World} {A:Around} {E:Value→Shared→Prop} {s:Shared}
theorem yG {it t:Addr} {i:Nat} {its:Array Value} {Q:Value→Shared→Prop} (hh:A.handled=none) (hi:s.heap.IsTupleIter it t i) (ht:s.heap.IsTuple t its)
  (h1:∀ x h',its[i]? = some x→h'.IsTupleIter it t (i + 1)→Heap.SameBut it s.heap h'→Q x { s with heap:=h' })
  (h2:∀ h' e,its[i]? = none→Heap.ExtBut it s.heap h'→(∃ o,h'.get? e=some o∧o.cls=.type "StopIteration")→E (.ref e) { s with heap:=h' }) :
  wpAny (model prog w) A (Builtin.SmallTypes.nextOf (.ref it)) Q E s:=by
 have ty:=hi.typeIs;obtain ⟨⟨c1,d1,dt1,sl1⟩,e1,c1',f1⟩:=id hi;obtain ⟨⟨c2,d2,dt2,sl2⟩,e2,c2',n2,f2⟩:=id ht;simp only at c1' f1 c2' f2;subst c1' f1 c2' f2;obtain ⟨hp,g,d,tk,os⟩:=s;refine wpAny_bind (wpAny_callSpecial?_slot (name:=Str.ofString "__next__") ty PySem.F.slot_tuple_iterator_next (wpAny_call_entry PySem.F.slot_tuple_iterator_next ty PySem.F.entry_tuple_iterator_next ?_ (PySem.F.args_tuple_iterator_next_1 _)));unfold Builtin.«tuple_iterator.__next__»;have key:∀ y,its[i]? = y→its[(i:Int).toNat]? = y:=fun y z=>z
 cases hx:its[i]? with
 | some x=>
  wp_walk
  rw [key _ hx]
  wp_walk
  refine ⟨x,rfl,wpAny_pure (h1 x _ hx ⟨_,Heap.get?_update_self _ e1 rfl,rfl,rfl⟩ (Heap.SameBut.update ..))⟩
 | none=>
  wp_walk
  rw [key _ hx];have hh1:A.in1.handled=none:=hh;unfold Builtin.SmallTypes.stopIteration
  wp_walk
  exact wpAny_raiseNew_none hh1 (h2 _ _ hx (((Heap.SameBut.update ..).extBut.push _).push _) ⟨_,Heap.get?_push_size _ rfl,rfl⟩)
theorem NJ (hh:A.handled=none) {it l:Addr} (ne:l ≠ it) (its:Array Value):Draws prog w A it [it,l] its.size (fun i v=>its[i]? = some v) (fun i h=>h.IsTuple l its∧h.IsTupleIter it l i):=by
 refine { live:=?_,frame:=?_,item:=?_,done:=?_ }
 ·rintro i h zzq;refine zzP fun zzM zzh=>?_
  obtain ⟨_,o,ho,_⟩:=zzq;subst zzh;exact ⟨o,ho⟩
 ·rintro i h h' ⟨a,b⟩ k;refine ⟨a.at ?_,b.at ?_⟩
  ·exact k l (by simp)
  ·exact k it (by simp)
 ·rintro i s Q E lt ⟨a,b⟩ q;refine yG hh b a (fun x h' ex b' sb=>q x h' s.toks ex ⟨a.extBut sb.extBut ne,b'⟩ sb) fun h' e en=>?_
  rw [Array.getElem?_eq_getElem lt] at en;cases en
 ·rintro s Q E ⟨a,b⟩ q;refine yG hh b a (fun x h' ex=>?_) fun h' e _=>q h' e
  rw [Array.getElem?_eq_none (Nat.le_refl _)] at ex;cases ex
theorem yH (l:Addr) (o:Obj) (its:Array Value) (n:Nat) (hc:o.cls=.type "tuple") (hd:o.data=.seq its n) :
  Meets (Builtin.«enumerate.__new__» ⟨[.type "enumerate",.ref l],[]⟩) (fun _ R s=>s.heap.get? l=some o∧∀ hq,hq=(s.heap.push { cls:=.type "tuple_iterator",data:=.fields #[.ref l,.int 0 0] }) →
   R (.ok (.ret (.ref hq.objs.size))) { s with heap:=hq.push { cls:=.type "enumerate",data:=.fields #[.none,.bool false,.ref s.heap.objs.size,rawInt 0,.none,.none] } }):=by
 refine .of_wp fun prog w A R s ⟨e,q⟩=>?_
 have T:s.heap.IsTuple l its:=⟨o,e,hc,n,hd⟩;replace q:=q _ rfl;obtain ⟨c,dc,dt,sl⟩:=o;simp only at hc hd;subst hc hd;obtain ⟨hp,g,d,tk,os⟩:=s;have sb:=sub_enumerate;have go:∀ {A:Around} {E:Value→Shared→Prop} {Q:Value→Shared→Prop},Q (.ref hp.objs.size) ⟨hp.push { cls:=.type "tuple_iterator",data:=.fields #[.ref l,.int 0 0] },g,d,tk,os⟩→wpAny (model prog w) A (pyIter (.ref l)) Q E ⟨hp,g,d,tk,os⟩:=fun h=>wpAny_pyIter_tuple T h
 wp_walk using AutoSeq1.wpAny_loadPart' e
 refine wpAny_stack_any fun st=>wpAny_pure ?_
 generalize hb:List.drop 1 st=b;dsimp only;split
 ·split
  all_goals wp_walk using AutoSeq1.wpAny_loadPart' e,go
  all_goals exact ⟨_,rfl,q⟩
 ·wp_walk using AutoSeq1.wpAny_loadPart' e,go
  exact ⟨_,rfl,q⟩
theorem GE {l:Addr} {its:Array Value} {Q:Value→Shared→Prop} (T:s.heap.IsTuple l its)
  (h:∀ h',IsEnum h' (s.heap.objs.size + 1) s.heap.objs.size 0 .none→h'.IsTupleIter s.heap.objs.size l 0→(∀ b o,s.heap.get? b=some o→h'.get? b=some o)→Q (.ref (s.heap.objs.size + 1)) { s with heap:=h' }) :
  wpAny (model prog w) A (call (.type "enumerate") [.ref l]) Q E s:=by
 obtain ⟨o,e,c,n,d⟩:=T;refine callType_new PySem.F.called_enumerate (by decide) (PySem.F.typeCall_enumerate_1 _) (PySem.F.newCall_enumerate_1 _) (fun obj=>PySem.F.args_object_init_2 obj _) PySem.F.entry_enumerate_new (yH l o its n c d) ⟨e,fun hq eq=>?_⟩;have sz:hq.objs.size=s.heap.objs.size + 1:=by rw [eq];exact Heap.size_push ..
 have at1:hq.get? s.heap.objs.size=some { cls:=.type "tuple_iterator",data:=.fields #[.ref l,.int 0 0] }:=by rw [eq];exact Heap.get?_push_size _ rfl
 have up:∀ b o,s.heap.get? b=some o→hq.get? b=some o:=fun b o z=>by rw [eq];exact Heap.get?_push_of_some _ z
 have at2:=Heap.get?_push_size hq (o:={ cls:=.type "enumerate",data:=.fields #[.none,.bool false,.ref s.heap.objs.size,rawInt 0,.none,.none] }) rfl;show _∧_;rw [sz] at at2 ⊢;exact ⟨⟨_,at2,rfl⟩,h _ at2 ⟨_,Heap.get?_push_of_some _ at1,rfl,rfl⟩ fun b o z=>Heap.get?_push_of_some _ (up b o z)⟩
theorem kI {l a:Addr} {its:Array Value} {ns:List Int} {led:Bool} {Q:Value→Shared→Prop} (hh:A.handled=none) (T:s.heap.IsTuple l its) (hi:IntsAre its.toList ns) (hb:its.size + 1 < scanBound) (la:l ≠ a)
  (ha:s.heap.get? a=some { cls:=.type "set",dict:=none,data:=.set #[] 0 (.fresh 0 0 led) })
  (h:∀ (h':Heap) (tk:Nat),h'.SetOf (intKind prog w) a (fun k=>(firstMet (fun i=>ns.getD i 0) its.size).any (· == k)) (firstMet (fun i=>ns.getD i 0) its.size).length→(∀ b o,b ≠ a→s.heap.get? b=some o→h'.get? b=some o)→Q .none { s with heap:=h',toks:=tk }) :
  codeAny (model prog w) A (.call (.builtin "set.__init__") ⟨[.ref a,.ref l],[]⟩) (wants Q E) s:=by
 refine codeAny_call_builtin PySem.F.called_set.init.plain PySem.F.entry_set_init (check_set_init_1 ⟨_,ha,rfl⟩ ?_);have lt:l < s.heap.objs.size:=by obtain ⟨o,e,_⟩:=T;exact Heap.lt_size e
 have lt2:=Heap.lt_size ha;obtain ⟨⟨c,dc,dt,sl⟩,e,hc,n,hd⟩:=id T;simp only at hc hd;subst hc hd;obtain ⟨hp,g,d,tk,os⟩:=s;have s0:(Value.type "tuple" == Value.type "dict")=false:=by decide
 have s1:isSubtype (.type "tuple") (.type "set")=pure false:=by rw [isSubtype_type];kernel_rfl
 have s2:isSubtype (.type "tuple") (.type "frozenset")=pure false:=by rw [isSubtype_type];kernel_rfl
 have go:∀ {A:Around} {E:Value→Shared→Prop} {Q:Value→Shared→Prop},Q (.ref hp.objs.size) ⟨hp.push { cls:=.type "tuple_iterator",data:=.fields #[.ref l,.int 0 0] },g,d,tk,os⟩→wpAny (model prog w) A (pyIter (.ref l)) Q E ⟨hp,g,d,tk,os⟩:=fun h=>wpAny_pyIter_tuple T h
 have k2:A.in1.in1.handled=none:=by simp [hh]
 have nl:l ≠ hp.objs.size:=Nat.ne_of_lt lt;have nS:a ∉ [hp.objs.size,l]:=by
  simp only [List.mem_cons,List.not_mem_nil,or_false,not_or];exact ⟨Nat.ne_of_lt lt2,Ne.symm la⟩
 unfold Builtin.«set.__init__» noKeywords Builtin.Frozenset.updateFrom
 wp_walk using go
 refine codeAny_set_update_loopS ((Walks.tuple k2 _ l nl its).toS) _ nS (fun i=>ns.getD i 0) (fun i v z=>hi.int_at i v (by rw [Array.getElem?_toList];exact z)) hb _ 0 _ rfl (Nat.zero_le _) ⟨⟨_,Heap.get?_push_size _ rfl,rfl,rfl⟩,T.push _⟩ ?_ fun s' m S'=>?_
 ·refine SetOf_congr ((setObjOf_fresh (knd:=intKind prog w) led).setOf (Heap.get?_push_of_some _ ha) (by unfold scanBound;omega)) (fun _=>rfl) rfl
 ·obtain ⟨h',g',d',tk',os'⟩:=s';obtain rfl:g'=g:=m.gens;obtain rfl:d'=d:=m.drawn;obtain rfl:os'=os:=m.os;refine wpAny_pure (wpAny_pure (h h' tk' S' fun b o nb z=>m.heap b o ?_ (Heap.get?_push_of_some _ z)));simp only [List.mem_cons,List.not_mem_nil,or_false,not_or];exact ⟨nb,Nat.ne_of_lt (Heap.lt_size z)⟩
theorem NH {l:Addr} {its:Array Value} {ns:List Int} {Q:Value→Shared→Prop} (hh:A.handled=none) (T:s.heap.IsTuple l its) (hi:IntsAre its.toList ns) (hb:its.size + 1 < scanBound)
  (h:∀ (h':Heap) (tk:Nat),h'.SetOf (intKind prog w) s.heap.objs.size (fun k=>(firstMet (fun i=>ns.getD i 0) its.size).any (· == k)) (firstMet (fun i=>ns.getD i 0) its.size).length→(∀ b o,s.heap.get? b=some o→h'.get? b=some o)→Q (.ref s.heap.objs.size) { s with heap:=h',toks:=tk }) :
  wpAny (model prog w) A (call (.type "set") [.ref l]) Q E s:=by
 have lt:l < s.heap.objs.size:=by obtain ⟨o,e,_⟩:=T;exact Heap.lt_size e
 have ft:=PySem.F.called_set;have f0:=PySem.F.typeCall_set_1 (.ref l);have f1:=ft.made;have f2:=ft.sub;have f3:=ft.notType;have f4:=ft.canCreate;have f5:=ft.init.lookup;obtain ⟨mc,mt,f6⟩:=ft.mro;refine wpAny_call (codeAny_of_tree (wpAny_pure ⟨Code.quiet_builtin _ (by decide +kernel),codeAny_builtin PySem.F.entry_type_call ?_⟩));rw [Around.under_plain (weight_type_call_type _ _ _) rfl]
 wp_walk
 refine codeAny_mono (code_set_new_1 (.ref l) (E:=E) (Q₁:=fun o s1=>∃ led:Bool,o=.ref s.heap.objs.size∧s1 = { s with heap:=s.heap.push { cls:=.type "set",dict:=none,data:=.set #[] 0 (.fresh 0 0 led) } }) fun led=>⟨led,rfl,rfl⟩) ?_;rintro (er | (_ | _ | _ | v)) s1 z
 ·exact z
 ·exact z.elim
 ·exact z.elim
 ·exact z.elim
 obtain ⟨led,rfl,rfl⟩:=z;have at0:(s.heap.push { cls:=.type "set",dict:=none,data:=.set #[] 0 (.fresh 0 0 led) }).get? s.heap.objs.size=some { cls:=.type "set",dict:=none,data:=.set #[] 0 (.fresh 0 0 led) }:=Heap.get?_push_size _ rfl;have f7:=ft.init.bind (.ref s.heap.objs.size);have ty:Shared.TypeIs { s with heap:=s.heap.push { cls:=.type "set",dict:=none,data:=.set #[] 0 (.fresh 0 0 led) } } (.ref s.heap.objs.size) "set" := ⟨_,at0,rfl⟩
 wp_walk
 refine codeAny_mono (kI (E:=E) (Q:=fun v s2=>v=.none∧Q (.ref s.heap.objs.size) s2) (show A.in1.handled=none by simp [hh]) (T.push _) hi hb (Nat.ne_of_lt lt) at0 fun h' tk S' k=>⟨rfl,h h' tk S' fun b o z=>k b o (Nat.ne_of_lt (Heap.lt_size z)) (Heap.get?_push_of_some _ z)⟩) ?_;rintro (er | (_ | _ | _ | v)) s2 z
 ·exact z
 ·exact z.elim
 ·exact z.elim
 ·exact z.elim
 obtain ⟨rfl,z⟩:=z;exact wpAny_pure (wpAny_pure z)
end
section
open PySem.Spec PyProof.Rows
noncomputable def Iet (K:PySem.W.Frag) (a:Addr):It:=
 ⟨fun i H=>∃ xs x,SqT K H a xs∧xs[i]? = some x,fun i H v H'=>∃ p y,H p=none∧v=.ref p∧(∀ xs,SqT K H a xs→xs[i]? = some y)∧H'=upd H p (.tup [.int i,y]),fun i H=>∃ xs,SqT K H a xs∧xs.length=i⟩
theorem MB {P:Program} {w:World} {K:PySem.W.Frag} {es:List Expr} {k} {pos:Pos} (a e it:Addr) (hne:e ≠ it) (hea:e ≠ a) (hai:a ≠ it) :
  YG P w K (.Tuple es k pos) (Iet K a) [e,it] e (fun i h=>∃ old,IsEnum h e it ((i:Nat):Int) old∧h.IsTupleIter it a i) where
 mem:=by simp
 obj:=fun i h ⟨old,he,hi⟩ b hb=>by
  simp only [List.mem_cons,List.not_mem_nil,or_false] at hb;rcases hb with rfl | rfl
  ·exact ⟨_,he,fun v z=>by
    have z':Data.fields _=Data.cell v:=z;cases z'⟩
  ·obtain ⟨o,q,c,d⟩:=hi;exact ⟨o,q,fun v z=>by rw [d] at z;cases z⟩
 keep:=fun i h h' ⟨old,he,hi⟩ k=>⟨old,k e (by simp) _ he,hi.at fun o q=>k it (by simp) o q⟩
 item:=by
  intro X hP hw hK hc i pins s σ H E I hf ⟨old,he,hi⟩ hg;subst hP hw hK;obtain ⟨xs,x,hq,hx⟩:=hg;obtain ⟨its,rv,p,hz⟩:=I.tuple hq;obtain ⟨u,hu,ru⟩:=rv.get hx;have hlt:i < its.toArray.size:=by
   rw [List.size_toArray];exact (List.getElem?_eq_some_iff.mp hu).1
  refine wpAny_pyNext_enum_itemD (NJ (A:=X.A.in1) (it:=it) (I.ok.hd hc) hai its.toArray) he ⟨p,hi⟩ hlt hne (by simp [hne,hea]) fun y h1 tk hy he1 hi1 ht1 hz1 hk1=>⟨_,rfl,?_⟩
  obtain rfl:y=u:=by
   rw [List.getElem?_toArray,hu] at hy;exact (Option.some.inj hy).symm
  refine wpAny_letOwnedTupleGo_enum he1 fun h2 he2 hs2=>?_
  replace hs2:Heap.SameBut e h1 h2:=hs2;have hel:e < s.heap.objs.size:=Heap.lt_size he;have hk:∀ b o,b ∉ [e,it]→s.heap.get? b=some o→h2.get? b=some o:=fun b o hb q=>by
   simp only [List.mem_cons,List.not_mem_nil,or_false,not_or] at hb;exact hs2.extBut _ _ hb.1 (hk1 b o hb.1 hb.2 q)
  have I1:Inv X pins σ H { s with heap:=h2,toks:=tk + 1 }:=I.turnedL hk hf;have fo:mv X pins H s.heap.objs.size:=I.fpOk (Nat.le_refl _) (I.hok.fresh (Nat.le_refl _));have ht2:h2.get? s.heap.objs.size=some { cls:=.type "tuple",data:=.seq #[.int i tk,y] }:=(hs2.2 _ (Nat.ne_of_gt hel)).trans ht1;have I2:=I1.adopt (o:=.tup [.int i,x]) fo ⟨⟨by show 2 ≤ sizeLine;decide,_,ht2,rfl⟩,[.int i tk,y],.cons ⟨_,rfl⟩ (.cons ru .nil),⟨_,ht2,rfl,_,rfl⟩⟩;refine ⟨.ref s.heap.objs.size,_,I2,rfl,⟨_,x,fo.1,rfl,fun ys hy=>by rw [I.tuple_inj hy hq];exact hx,rfl⟩,⟨y,?_,?_⟩,fun b hb=>?_⟩
  ·have e1:((i + 1:Nat):Int)=(i:Int) + 1:=by omega
   rw [e1];exact he2
  ·exact hi1.2.extBut hs2.extBut (Ne.symm hne)
  ·have hlt:b < s.heap.objs.size:=by
    simp only [List.mem_cons,List.not_mem_nil,or_false] at hb;rcases hb with rfl | rfl
    ·exact hel
    ·obtain ⟨o,q,_⟩:=hi;exact Heap.lt_size q
   rw [Eb (Nat.ne_of_lt hlt)];exact (hf b hb).1
 done:=by
  intro X hP hw hK hc i pins s σ H E I hf ⟨old,he,hi⟩ hg;subst hP hw hK;obtain ⟨xs,hq,hx⟩:=hg;obtain ⟨its,rv,p,hz⟩:=I.tuple hq;have hl:=rv.length;obtain rfl:i=its.toArray.size:=by rw [List.size_toArray];omega
  exact wpAny_pyNext_enum_endD (NJ (A:=X.A.in1) (it:=it) (I.ok.hd hc) hai its.toArray) he ⟨p,hi⟩ fun h' eb=>⟨rfl,I.turnedL (t':=s.toks) (fun b o hb q=>eb b o (fun z=>hb (by simp [z])) q) hf⟩
 self:=fun _ _ _ _ _ ⟨_,he,_⟩ h=>wpAny_pyIter_enum he h
variable {X:Cx}
noncomputable def pJ (K:PySem.W.Frag) (ta:TA):TI:=fun σ H R=>ta σ H fun vs H1=>∃ a,vs=[.ref a]∧(∃ xs,SqT K H1 a xs)∧R (Iet K a) H1
theorem AI {es:List Expr} {k} {tpos:Pos} {a:Expr} {ta:TA} {p pos:Pos} (hg:Gl X "enumerate") (hm:X.mg "enumerate"=none) (ha:PA X [a] ta) (hs:starEach [a] X.env=[(false,eval a X.env)]:=by rfl) :
  PI X (.Tuple es k tpos) (.Call (.Name "enumerate" p) [a] [] pos) (pJ X.K ta):=by
 intro pins s σ H R I h;refine Call_ (cn I hg hm L2.gm (PyProof.Rows.callWith_type1 (thn (ha pos pins s σ H _ I h) fun us s1 ⟨vs,H1,I1,r1,q1⟩=>?_) hs rfl));obtain ⟨a,e,⟨xs,hq⟩,q⟩:=q1;subst e;cases r1 with
 | cons r rr=>
  cases rr;cases r;obtain ⟨its,rv,pl,hz⟩:=I1.tuple hq;have hal:a < s1.heap.objs.size:=by obtain ⟨_,e,_⟩:=pl;exact Heap.lt_size e
  refine GE pl fun h' hE hI hk=>wpAny_pyIter_enum hE ?_
  refine ⟨s1.heap.objs.size + 1,[s1.heap.objs.size + 1,s1.heap.objs.size],_,_,H1,rfl,I1.kept (t':=s1.toks) hk,MB a _ _ (Nat.succ_ne_self _) (Nat.ne_of_gt (Nat.lt_succ_of_lt hal)) (Nat.ne_of_lt hal),⟨_,hE,hI⟩,fun b hb=>?_,q⟩;have hb':s1.heap.objs.size ≤ b:=by
   simp only [List.mem_cons,List.not_mem_nil,or_false] at hb;rcases hb with rfl | rfl
   ·exact Nat.le_succ _
   ·exact Nat.le_refl _
  exact I1.fpOk hb' (I1.hok.fresh hb')
end
section
open PySem.Spec PyProof.Rows
theorem kD {ns:List Int}:∀ {σ:List Int},(ns.foldl step_dedup σ).length=σ.length + ns.length↔ns.Nodup∧∀ x ∈ ns,x ∉ σ:=by
 induction ns with
 | nil=>intro σ;simp
 | cons x ns ih=>
  intro σ;rw [List.foldl_cons,show step_dedup σ x=if σ.any (· == x) then σ else σ ++ [x] from rfl];by_cases hx:x ∈ σ
  ·rw [if_pos (by simpa using hx)];have:=foldl_step_dedup_length_le σ ns;constructor
   ·intro h;rw [List.length_cons] at h;omega
   ·intro h;exact absurd hx (h.2 x (List.mem_cons_self ..))
  ·rw [if_neg (by simpa using hx)];have e:=@ih (σ ++ [x]);rw [List.length_append,List.length_singleton] at e;rw [List.length_cons,show σ.length + (ns.length + 1)=σ.length + 1 + ns.length by omega,List.nodup_cons];refine e.trans ⟨fun h=>⟨⟨fun hm=>h.2 x hm (by simp),h.1⟩,fun y hy=>?_⟩,fun h=>⟨h.1.2,fun y hy hm=>?_⟩⟩
   ·rcases List.mem_cons.mp hy with rfl | hy
    ·exact hx
    ·exact fun z=>h.2 y hy (by simp [z])
   ·rcases List.mem_append.mp hm with z | z
    ·exact h.2 y (List.mem_cons_of_mem _ hy) z
    ·rw [List.mem_singleton.mp z] at hy;exact h.1.1 hy
theorem Wy (ns:List Int):(firstMet (fun i=>ns.getD i 0) ns.length).length < ns.length↔¬ ns.Nodup:=by
 have e:firstMet (fun i=>ns.getD i 0) ns.length=ns.foldl step_dedup []:=by
  unfold firstMet;congr 1;refine List.ext_getElem? fun i=>?_
  rw [List.getElem?_map];by_cases hi:i < ns.length
  ·rw [List.getElem?_range hi];show some (ns.getD i 0)=_;rw [List.getD_eq_getElem?_getD,List.getElem?_eq_getElem hi];rfl
  ·rw [List.getElem?_eq_none (by simpa using hi),List.getElem?_eq_none (by omega)];rfl
 have h1:=@kD ns [];have h2:=foldl_step_dedup_length_le [] ns;rw [e];simp only [List.length_nil,Nat.zero_add,List.not_mem_nil,not_false_eq_true,implies_true,and_true] at h1 h2;rw [← h1];omega
variable {prog:Program} {w:World} {A:Around} {E:Value→Shared→Prop} {s:Shared}
theorem NC {α:Type} {f:α→Int} {c:Int} {l:List α} (h:(l.map f).Nodup):(l.filter fun x=>f x == c).length ≤ 1:=by
 induction l with
 | nil=>simp
 | cons x l ih=>
  rw [List.map_cons,List.nodup_cons] at h;rw [List.filter_cons];split
  ·rename_i hx;have hx':f x=c:=by simpa using hx
   rw [List.filter_eq_nil_iff.mpr (fun y hy z=>h.1 (by rw [hx',← (show f y=c by simpa using z)];exact List.mem_map_of_mem hy))];exact Nat.le_refl _
  ·exact ih h.2
theorem UI {a:Addr} {o:Obj} {es:Array DictEntry} {ep:Nat} {Q:Value→Shared→Prop} (ha:(a == sysModules)=false) (r:JJ s.heap a o es ep) (hk:∀ e ∈ es,∃ b,e.key=.ref b∧s.TypeIs (.ref b) "tuple") (hh:(es.toList.map (·.hash)).Nodup) (hz:es.size ≤ sizeLine)
  (h:∀ h' o' ep',h'.get? s.heap.objs.size=some o'→o'.ExactDict→o'.data=.dict es ep'→(∀ b q,s.heap.get? b=some q→h'.get? b=some q)→Q (.ref s.heap.objs.size) { s with heap:=h' }) :
  wpAny (model prog w) A (call (.type "dict") [.ref a]) Q E s:=by
 refine callType_codes (Q₁:=fun obj s₁=>obj=.ref s.heap.objs.size∧s₁ = { s with heap:=s.heap.push { cls:=.type "dict",data:=.dict #[] } }) PySem.F.kt_called_dict (PySem.F.kt_typeCall_dict_1 _) PySem.F.entry_dict_init (kt_code_dict_new _ ⟨rfl,rfl⟩) ?_;rintro obj s₁ ⟨rfl,rfl⟩;have hn:(s.heap.push { cls:=.type "dict",data:=.dict #[] }).get? s.heap.objs.size=some { cls:=.type "dict",data:=.dict #[] }:=Heap.get?_push_size _ rfl;have ho:(s.heap.push { cls:=.type "dict",data:=.dict #[] }).get? a=some o:=Heap.get?_push_of_some _ r.at_;have tn:Shared.TypeIs { s with heap:=s.heap.push { cls:=.type "dict",data:=.dict #[] } } (.ref s.heap.objs.size) "dict" := ⟨_,hn,rfl⟩;have to:Shared.TypeIs { s with heap:=s.heap.push { cls:=.type "dict",data:=.dict #[] } } (.ref a) "dict" := ⟨_,ho,r.ex.1⟩;have hne:s.heap.objs.size ≠ a:=fun e=>absurd (Heap.lt_size r.at_) (by rw [e];exact Nat.lt_irrefl _)
 refine ⟨tn,PySem.F.args_dict_init_2 _ _,?_⟩;unfold Builtin.«dict.__init__»;refine wpAny_bind ?_;unfold Builtin.Dict.selfAndRest;refine wpAny_bind (wpAny_notOrdered_dict tn ?_);show wpAny _ _ (pure (s.heap.objs.size,[Value.ref a])) _ _ _;refine wpAny_pure ?_;show wpAny _ _ (Builtin.Dict.updateFrom "dict.__init__" s.heap.objs.size (.ref a) [] .none) _ _ _;unfold Builtin.Dict.updateFrom;refine wpAny_bind (wpAny_typeOf to ?_);rw [if_neg (by decide)];refine wpAny_bind ?_;unfold Builtin.Dict.merge;refine wpAny_bind ?_;unfold Builtin.Dict.readDirectly;refine wpAny_bind (wpAny_isInstance to isSubtype_dict_dict ?_);simp only [Bool.not_true,Bool.false_eq_true,if_false];refine wpAny_bind (wpAny_specialOf to PySem.F.slot_dict_iter.lookup (wpAny_pure ?_));simp only [beq_self_eq_true,if_true];refine wpAny_bind (wpAny_pure ?_);unfold Builtin.Dict.mergeDict;rw [if_neg (by simpa using hne)];unfold Builtin.Dict.showsAll;rw [if_neg (by rw [ha];exact Bool.false_ne_true)];refine wpAny_bind (wpAny_pure (wpAny_bind (wpAny_dictEntries ho r.dat ?_)));by_cases he:es=#[]
 ·subst he;dsimp only;rw [if_neg (by simp)];refine wpAny_bind (wpAny_dictEpoch ho r.dat (wpAny_bind (wpAny_dictEntries ho r.dat (wpAny_bind ?_))));rw [Std.Legacy.Range.forIn_eq_forIn_range'];refine wpAny_pure (wpAny_pure ?_);exact wpAny_bind (wpAny_pure (wpAny_pure ⟨rfl,h _ _ _ hn ⟨rfl,rfl,rfl⟩ rfl fun b q e=>Heap.get?_push_of_some _ e⟩))
 ·have hf:(decide (es.size ≤ 8) && es.all fun e=>(keyPart e.key).isSome)=false:=by
   rw [Bool.and_eq_false_iff];refine .inr (Bool.eq_false_iff.mpr fun z=>?_);rw [Array.all_eq_true_iff_forall_mem] at z;have h0:0 < es.size:=Nat.pos_of_ne_zero fun q=>he (Array.eq_empty_of_size_eq_zero q)
   obtain ⟨b,hb,_⟩:=hk _ (Array.getElem_mem h0);have:=z _ (Array.getElem_mem h0);rw [hb] at this;cases this
  dsimp only;rw [hf,if_pos (show (!false)=true from rfl)];refine wpAny_bind (wpAny_dictEntries hn rfl ?_);rw [if_pos (show Array.isEmpty (#[]:Array DictEntry)=true from rfl)];refine wpAny_bind ?_;unfold Builtin.Dict.entriesForEmpty;refine wpAny_bind (wpAny_dictEntries ho r.dat (wpAny_bind ?_));rw [← Array.forIn_toList];refine wpAny_forIn_list _ (fun jy _ s'=>s' = { s with heap:=s.heap.push { cls:=.type "dict",data:=.dict #[] } }∧∀ e ∈ jy,e ∈ es) _ ?_ ?_ _ _ ⟨rfl,fun e he=>Array.mem_toList_iff.mp he⟩
  ·rintro e jy u s' ⟨rfl,hm⟩;obtain ⟨b,hb,ob,hob,hoc⟩:=hk e (hm e (List.mem_cons_self ..));have tb:Shared.TypeIs { s with heap:=s.heap.push { cls:=.type "dict",data:=.dict #[] } } (.ref b) "tuple" := ⟨ob,Heap.get?_push_of_some _ hob,hoc⟩;unfold Builtin.Dict.quietEq;rw [hb];refine wpAny_bind (wpAny_bind (wpAny_specialOf tb PySem.F.slot_tuple_eq.lookup (wpAny_pure ?_)));rw [if_pos (by decide +kernel),if_neg (Nat.not_lt.mpr ?_)]
   ·exact wpAny_pure ⟨rfl,fun e he=>hm e (List.mem_cons_of_mem _ he)⟩
   ·rw [← Array.length_toList,Array.toList_filter];exact NC hh
  ·rintro u s' ⟨rfl,_⟩;refine wpAny_pure ?_;rw [if_pos (by simp [he])];refine wpAny_bind (wpAny_updateDictKeysTo hn rfl (wpAny_pure ?_) (by omega));refine wpAny_bind (wpAny_pure (wpAny_pure ⟨rfl,?_⟩));refine h _ _ _ (Heap.get?_update_self _ hn (Obj.isFreed_of_dict (Obj.data_mapDictKeys rfl _))) ((show Obj.ExactDict { cls:=.type "dict",data:=.dict #[] } from ⟨rfl,rfl,rfl⟩).mapDictKeys _) (Obj.data_mapDictKeys rfl _) fun b q e=>?_
   exact (Heap.get?_update_other _ _ (fun z=>absurd (Heap.lt_size e) (by rw [← z];exact Nat.lt_irrefl _))).trans (Heap.get?_push_of_some _ e)
end
section
open PySem.Spec PyProof.Rows
variable {X:Cx}
noncomputable def xL (P:Program) (w:World) (k:List Key):Int:=(tupleKind (De P w)).hash k
theorem dG (hc:X.calm=true):Ri X (.type "set") (fun xs H Q=>∃ r ns,xs=[.ref r]∧H r=some (.tup (List.map V.int ns))∧ns.length ≤ 1000∧∀ p S n,(n < ns.length↔¬ ns.Nodup)→n ≤ 1000→H p=none→Q (.ref p) (upd H p (.set S n))):=by
 intro pins s σ H xs us Q I r h;obtain ⟨t,ns,rfl,et,hl,q⟩:=h;obtain ⟨u,rfl,ru⟩:=On r;cases ru;obtain ⟨its,rv,pl,hz⟩:=I.tuple (SqT.of et);have hi:=yu rv;have hlen:=hi.length;have hb:its.toArray.size=ns.length:=by rw [List.size_toArray,hlen]
 refine NH (I.ok.hd hc) pl (by simpa using hi) (by rw [hb];show ns.length + 1 < 4096;omega) fun h' tk hS hk=>?_
 rw [hb] at hS;refine ⟨.ref s.heap.objs.size,_,I.laid (a:=s.heap.objs.size) (o:=.set _ _) (t':=tk) hk (Nat.le_refl _) hS,rfl,q _ _ _ (Wy ns) (Nat.le_trans (firstMet_length_le _ _) hl) (I.hok.fresh (Nat.le_refl _))⟩
theorem vC:bootBuiltins "set"=some (.type "set"):=by decide +kernel
theorem ZF:Ri X (.builtin "len") (fun xs H Q=>∃ p S n,xs=[.ref p]∧H p=some (.set S n)∧n ≤ 1000∧Q (.int (n:Nat)) H):=by
 intro pins s σ H xs us Q I r h;obtain ⟨p,S,n,rfl,e,hn,q⟩:=h;obtain ⟨u,rfl,ru⟩:=On r;cases ru;obtain ⟨o,es,ep,t,h1,h2,h3,_,_,_,h4,h5⟩:=(show s.heap.SetOf (intKind X.prog X.w) p S n from I.hok p _ e);refine call_len_set h1 h2 h3 h4 (by omega) ⟨.int (n:Nat),H,I.tok _,⟨_,by rw [h5]⟩,q⟩
theorem FG {R:(List Key × V)→(List Key × Addr × Value)→Prop} {kvs:List (List Key × V)} {xs:List (List Key × Addr × Value)} (h:Paired (fun p q=>p.1=q.1∧R p q) kvs xs) (f:List Key→Int):(kvs.map fun p=>f p.1)=xs.map fun x=>f x.1:=by
 induction h with
 | nil=>rfl
 | cons z _ ih=>rw [List.map_cons,List.map_cons,ih,z.1]
theorem YB:Ri X (.type "dict") (fun xs H Q=>∃ d kvs,xs=[.ref d]∧Ol X.prog X.w H d kvs∧(kvs.map fun p=>xL X.prog X.w p.1).Nodup∧∀ p o,H p=none→Ol X.prog X.w (upd H p (.ext (AtO p o))) p kvs→Q (.ref p) (upd H p (.ext (AtO p o)))):=by
 intro pins s σ H xs us Q I r h;obtain ⟨d,kvs,rfl,⟨o,es,ep,xs,D⟩,hn,q⟩:=h;obtain ⟨u,rfl,ru⟩:=On r;cases ru;have hlen:=Yp D.ks;have hsz:es.size=xs.length:=size_of_entries D.ent;refine UI D.ns (cq I.hok D) (fun e he=>?_) ?_ (by have:=D.sz;omega) fun h' o' ep' g1 g2 g3 g4=>?_
 ·obtain ⟨x,hx,rfl⟩:=List.mem_map.mp (D.ent ▸ Array.mem_toList_iff.mpr he);obtain ⟨i,hi⟩:=List.getElem?_of_mem hx;have hi':i < kvs.length:=by rw [hlen];exact (List.getElem?_eq_some_iff.mp hi).1
  obtain ⟨y,hy,z⟩:=zE D.ks (List.getElem?_eq_getElem hi');rw [hi] at hy;cases hy;obtain ⟨ob,its,n,h1,h2,_⟩:=yp I.hok z.2.1;exact ⟨x.2.1,rfl,ob,h1,h2⟩
 ·rw [D.ent,List.map_map];rw [FG D.ks (fun k=>xL X.prog X.w k)] at hn;exact hn
 ·have hp:H s.heap.objs.size=none:=I.hok.fresh (Nat.le_refl _);have S1:Sb H (upd H s.heap.objs.size (.ext (AtO s.heap.objs.size o'))):=db hp;refine ⟨.ref s.heap.objs.size,_,I.laid (a:=s.heap.objs.size) (o:=.ext (AtO s.heap.objs.size o')) (t':=s.toks) g4 (Nat.le_refl _) ⟨g1,⟨o',g1⟩,fun _ _ q k=>k o' q⟩,rfl,q _ _ hp ⟨o',es,ep',xs,ib,g2,g3,D.ent,D.nd,Paired.mapP D.ks fun p q z=>⟨z.1,S1 _ _ z.2.1,z.2.2⟩,D.sz,beq_eq_false_iff_ne.mpr (Ne.symm (Nat.ne_of_lt I.big))⟩⟩
end
noncomputable def hsh (p:Nat × Nat):Int:=reduceHash (Builtin.Tuple.tupleHashOf [hashInt (p.1:Int),hashInt (p.2:Int)])
noncomputable def prs:List (Nat × Nat):=(List.range 6).flatMap fun i=>(List.range 6).map fun j=>(i,j)
theorem NN:(prs.map hsh).Nodup:=by decide +kernel
theorem gE {p:Nat × Nat} (h1:p.1 < 6) (h2:p.2 < 6):p ∈ prs:=List.mem_flatMap.mpr ⟨p.1,List.mem_range.mpr h1,List.mem_map.mpr ⟨p.2,List.mem_range.mpr h2,rfl⟩⟩
theorem SK {α:Type} {f:α→Int} {l:List α} (h:(l.map f).Nodup):∀ x ∈ l,∀ y ∈ l,f x=f y→x=y:=by
 induction l with
 | nil=>intro x hx;cases hx
 | cons a l ih=>
  rw [List.map_cons,List.nodup_cons] at h;intro x hx y hy e;rcases List.mem_cons.mp hx with hx | hx <;> rcases List.mem_cons.mp hy with hy | hy
  ·rw [hx,hy]
  ·rw [hx] at e;exact absurd (e ▸ List.mem_map_of_mem hy) h.1
  ·rw [hy] at e;exact absurd (e ▸ List.mem_map_of_mem hx) h.1
  ·exact ih h.2 x hx y hy e
end My
namespace My
open PySem L2
structure Sys where
 m:Nat
 e:Nat→Nat→Bool
 st:Nat→Nat→Int
 al:Nat→Int
structure Sys.Ok (S:Sys):Prop where
 lt:∀ {i j},S.e i j=true→i < S.m∧j < S.m∧i ≠ j
 sy:∀ {i j},S.e i j=true→S.e j i=true
 s1:∀ {i j},S.e i j=true→1 ≤ S.st i j
 a1:∀ {i},i < S.m→1 ≤ S.al i
noncomputable abbrev Od:=List (Nat × Nat)
noncomputable def inO (o:Od) (i j:Nat):Bool:=decide ((i,j) ∈ o) || decide ((j,i) ∈ o)
noncomputable def wtO (S:Sys) (z:Int) (o:Od) (i j:Nat):Int:=if (j,i) ∈ o then S.st i j - z else S.st i j
noncomputable def pwO (S:Sys) (z:Int) (o:Od):List Nat→Int
 | []=>0
 | [_]=>0
 | x :: y :: r=>wtO S z o x y + pwO S z o (y :: r)
noncomputable def Pp (o:Od):List Nat→Bool
 | []=>true
 | [_]=>true
 | x :: y :: r=>inO o x y && Pp o (y :: r)
noncomputable def fg (S:Sys) (z:Int) (o:Od) (r:List Nat):Bool:=decide (2 ≤ r.length) && decide r.Nodup && Pp o (r ++ r.take 1) && decide (0 < pwO S z o (r ++ r.take 1))
inductive Pap where
 | alone (k:Nat)
 | ring (r:List Nat)
 | case (i j:Nat) (p q:Pap)
noncomputable def Hc (S:Sys) (z:Int) (o:Od):Pap→Bool
 | .alone k=>decide (z < S.al k)
 | .ring r=>fg S z o r
 | .case i j p q=>S.e i j && !inO o i j && Hc S z (o ++ [(i,j)]) p && Hc S z (o ++ [(j,i)]) q
noncomputable def Hi (m:Nat):Nat→Pap→Prop
 | _,.alone k=>k < m
 | _,.ring r=>∀ k ∈ r,k < m
 | 0,.case _ _ _ _=>False
 | d + 1,.case i j p q=>i < m∧j < m∧Hi m d p∧Hi m d q
noncomputable def Fn (S:Sys) (z:Int) (b:Nat→Int):Prop:=(∀ k,k < S.m→S.al k ≤ z)∧∀ i j,S.e i j=true→S.st i j ≤ (b j - b i) % z
noncomputable def cB (z:Int) (b:Nat→Int) (i:Nat):Int:=(b i - b 0) % z
noncomputable def sL (S:Sys) (z:Int) (b:Nat→Int) (o:Od):Prop:=∀ q ∈ o,S.e q.1 q.2=true∧cB z b q.1 < cB z b q.2
section
variable {S:Sys} {z:Int} {b:Nat→Int} {o:Od}
theorem cx (hz:0 < z) (i:Nat):0 ≤ cB z b i∧cB z b i < z:=⟨Int.emod_nonneg _ (by omega),Int.emod_lt_of_pos _ hz⟩
theorem Mz (i j:Nat):(b j - b i) % z=(cB z b j - cB z b i) % z:=by
 unfold cB;rw [show b j - b i=(b j - b 0) - (b i - b 0) by omega,Int.sub_emod]
theorem mdU {x y:Int} (h:x ≤ y) (hx:0 ≤ x) (hy:y < z):(y - x) % z=y - x:=Int.emod_eq_of_lt (by omega) (by omega)
theorem mdD {x y:Int} (h:y < x) (hx:x < z) (hy:0 ≤ y):(y - x) % z=y - x + z:=by
 rw [← Int.add_emod_right];exact Int.emod_eq_of_lt (by omega) (by omega)
theorem Fn.ne (k:S.Ok) (D:Fn S z b) {i j:Nat} (h:S.e i j=true):cB z b i ≠ cB z b j:=fun q=>by
 have h1:=D.2 i j h;have h2:=k.s1 h;rw [Mz,q,Int.sub_self,Int.zero_emod] at h1;omega
theorem Fn.step (k:S.Ok) (hz:0 < z) (D:Fn S z b) (C:sL S z b o) {i j:Nat} (h:inO o i j=true):wtO S z o i j ≤ cB z b j - cB z b i:=by
 have r1:=cx (b:=b) hz i;have r2:=cx (b:=b) hz j;unfold wtO;split
 ·rename_i hm;obtain ⟨e,l⟩:S.e j i=true∧cB z b j < cB z b i:=C _ hm;have:=D.2 i j (k.sy e);rw [Mz,mdD l r1.2 r2.1] at this;omega
 ·rename_i hm;have hm':(i,j) ∈ o:=by simpa [inO,hm] using h
  obtain ⟨e,l⟩:S.e i j=true∧cB z b i < cB z b j:=C _ hm';have:=D.2 i j e;rw [Mz,mdU (Int.le_of_lt l) r1.1 r2.2] at this;exact this
theorem Fn.path (k:S.Ok) (hz:0 < z) (D:Fn S z b) (C:sL S z b o):∀ (r:List Nat) (x y:Nat),Pp o (x :: r ++ [y])=true→pwO S z o (x :: r ++ [y]) ≤ cB z b y - cB z b x:=by
 intro r
 induction r with
 | nil=>
  intro x y h;have h':inO o x y=true:=by simpa [Pp] using h
  have:=D.step k hz C h';show wtO S z o x y + 0 ≤ _;omega
 | cons u r ih=>
  intro x y h;have h':inO o x u=true∧Pp o (u :: r ++ [y])=true:=by simpa [Pp] using h
  have h1:=D.step k hz C h'.1;have h2:=ih u y h'.2;show wtO S z o x u + pwO S z o (u :: r ++ [y]) ≤ _;omega
theorem Fn.no_ring (k:S.Ok) (hz:0 < z) (D:Fn S z b) (C:sL S z b o) (r:List Nat):fg S z o r=false:=by
 rw [Bool.eq_false_iff];intro h;cases r with
 | nil=>simp [fg] at h
 | cons x r=>
  unfold fg at h;simp only [Bool.and_eq_true,decide_eq_true_eq] at h;have:=D.path k hz C r x x h.1.2;have h2:=h.2;rw [show (x :: r) ++ (x :: r).take 1=x :: r ++ [x] from rfl] at h2;omega
theorem Fn.cons (C:sL S z b o) {i j:Nat} (h:S.e i j=true) (hl:cB z b i < cB z b j):sL S z b (o ++ [(i,j)]):=fun q hq=>by
 rcases List.mem_append.mp hq with hq | hq
 ·exact C q hq
 ·rw [List.mem_singleton.mp hq];exact ⟨h,hl⟩
theorem Fn.sound (k:S.Ok) (hz:0 < z) (D:Fn S z b) (hk:∀ i,S.m ≤ i→S.al i ≤ z):∀ (p:Pap) (o:Od),sL S z b o→Hc S z o p=false:=by
 intro p
 induction p with
 | alone i=>
  intro o _;have:S.al i ≤ z:=by
   by_cases h:i < S.m
   ·exact D.1 i h
   ·exact hk i (by omega)
  simp [Hc];omega
 | ring r=>exact fun o C=>D.no_ring k hz C r
 | case i j p q ihp ihq=>
  intro o C;unfold Hc;cases he:S.e i j with
  | false=>rfl
  | true=>
   rcases Int.lt_or_lt_of_ne (D.ne k he) with h | h
   ·rw [ihp _ (Fn.cons C he h),Bool.and_false,Bool.false_and]
   ·rw [ihq _ (Fn.cons C (k.sy he) h),Bool.and_false]
noncomputable def Qx (S:Sys):Nat→Od
 | 0=>[]
 | k + 1=>Qx S k ++ (if S.e 0 (k + 1) then [(0,k + 1)] else [])
noncomputable def qp (S:Sys):Od:=Qx S (S.m - 1)
theorem Fl {k:Nat} {q:Nat × Nat} (h:q ∈ Qx S k):q.1=0∧0 < q.2∧q.2 ≤ k∧S.e 0 q.2=true:=by
 induction k with
 | zero=>cases h
 | succ k ih=>
  unfold Qx at h;rcases List.mem_append.mp h with h | h
  ·have:=ih h;exact ⟨this.1,this.2.1,by omega,this.2.2.2⟩
  ·split at h
   ·rename_i he;rw [List.mem_singleton.mp h];exact ⟨rfl,Nat.succ_pos _,Nat.le_refl _,he⟩
   ·cases h
theorem MK:∀ k,(Qx S k).Nodup:=by
 intro k
 induction k with
 | zero=>exact List.nodup_nil
 | succ k ih=>
  unfold Qx;split
  ·rw [List.nodup_append];refine ⟨ih,by simp,fun x hx y hy e=>?_⟩;have:=Fl hx;rw [List.mem_singleton.mp hy] at e;rw [e] at this;omega
  ·simpa using ih
theorem Fn.cons0 (k:S.Ok) (hz:0 < z) (D:Fn S z b):sL S z b (qp S):=fun q hq=>by
 obtain ⟨h1,h2,h3,h4⟩:=Fl hq;rw [h1];refine ⟨h4,?_⟩;have hn:=D.ne k h4;have h0:cB z b 0=0:=by unfold cB;rw [Int.sub_self,Int.zero_emod]
 have:=cx (b:=b) hz q.2;omega
theorem Fn.more (hz:0 < z) (D:Fn S z b) {y:Int} (h:z ≤ y):Fn S y (cB z b):=by
 refine ⟨fun i hi=>Int.le_trans (D.1 i hi) h,fun i j e=>?_⟩;have r1:=cx (b:=b) hz i;have r2:=cx (b:=b) hz j;have:=D.2 i j e;rw [Mz] at this;rcases Int.lt_or_le (cB z b j) (cB z b i) with q | q
 ·rw [mdD q r1.2 r2.1] at this;rw [mdD q (by omega) r2.1];omega
 ·rw [mdU q r1.1 r2.2] at this;rw [mdU q r1.1 (by omega)];exact this
theorem jE (k:S.Ok) (hk:∀ i,S.m ≤ i→S.al i ≤ z) {y:Int} {p:Pap} (h:Hc S z (qp S) p=true) (hy:0 < y) (hl:y ≤ z):¬ Fn S y b:=fun D=>by
 have D2:=D.more hy hl;rw [D2.sound k (by omega) hk p _ (D2.cons0 k (by omega))] at h;cases h
end
section
variable {S:Sys} {z:Int} {o:Od}
noncomputable def chF (S:Sys):List Nat→Prop
 | []=>True
 | [_]=>True
 | x :: y :: r=>S.e x y=true∧chF S (y :: r)
theorem Si:∀ (a:List Nat) (x:Nat) (r:List Nat),pwO S z o (a ++ x :: r)=pwO S z o (a ++ [x]) + pwO S z o (x :: r):=by
 intro a
 induction a with
 | nil=>intro x r;simp [pwO]
 | cons u a ih=>
  intro x r;cases a with
  | nil=>simp [pwO]
  | cons v a=>
   have:=ih x r;simp only [List.cons_append,pwO] at this ⊢;omega
theorem bi:∀ (a:List Nat) (x:Nat) (r:List Nat),chF S (a ++ x :: r)↔chF S (a ++ [x])∧chF S (x :: r):=by
 intro a
 induction a with
 | nil=>intro x r;simp [chF]
 | cons u a ih=>
  intro x r;cases a with
  | nil=>simp [chF]
  | cons v a=>
   have:=ih x r;simp only [List.cons_append,chF] at this ⊢;rw [this,and_assoc]
theorem vw:∀ {l:List Nat},¬ l.Nodup→∃ a x b c,l=a ++ x :: (b ++ x :: c):=by
 intro l
 induction l with
 | nil=>intro h;exact absurd List.nodup_nil h
 | cons y t ih=>
  intro h;by_cases hy:y ∈ t
  ·obtain ⟨b,c,rfl⟩:=List.append_of_mem hy;exact ⟨[],y,b,c,rfl⟩
  ·obtain ⟨a,x,b,c,rfl⟩:=ih (fun q=>h (List.nodup_cons.mpr ⟨hy,q⟩));exact ⟨y :: a,x,b,c,rfl⟩
theorem vH:∀ {l:List Nat},l ≠ []→∃ y ∈ l,∀ x ∈ l,y ≤ x:=by
 intro l
 induction l with
 | nil=>intro h;exact absurd rfl h
 | cons x l ih=>
  intro _;by_cases hl:l=[]
  ·subst hl;exact ⟨x,by simp,by simp⟩
  ·obtain ⟨y,hy,h⟩:=ih hl;by_cases q:x ≤ y
   ·refine ⟨x,List.mem_cons_self ..,fun u hu=>?_⟩;rcases List.mem_cons.mp hu with rfl | hu
    ·exact Nat.le_refl _
    ·exact Nat.le_trans q (h u hu)
   ·refine ⟨y,List.mem_cons_of_mem _ hy,fun u hu=>?_⟩;rcases List.mem_cons.mp hu with rfl | hu
    ·omega
    ·exact h u hu
noncomputable def Ap (S:Sys) (z:Int) (o:Od):Prop:=∀ x t,(x :: t).Nodup→(∀ y ∈ t,x < y)→t ≠ []→chF S (x :: t ++ [x])→pwO S z o (x :: t ++ [x]) ≤ 0
theorem Ap.simple (k:S.Ok) (R:Ap S z o) {x:Nat} {t:List Nat} (nd:(x :: t).Nodup) (h:chF S (x :: t ++ [x])):pwO S z o (x :: t ++ [x]) ≤ 0:=by
 have ht:t ≠ []:=fun q=>by
  subst q;exact (k.lt h.1).2.2 rfl
 obtain ⟨y,hy,hl⟩:=vH (l:=x :: t) (by simp);obtain ⟨a,c,e⟩:=List.append_of_mem hy;cases a with
 | nil=>
  cases e;refine R x t nd (fun u hu=>?_) ht h;have:=hl u (List.mem_cons_of_mem _ hu);have:u ≠ x:=fun q=>(List.nodup_cons.mp nd).1 (q ▸ hu)
  omega
 | cons x' a=>
  rw [List.cons_append,List.cons.injEq] at e;obtain ⟨rfl,rfl⟩:=e;have e1:x :: (a ++ y :: c) ++ [x]=(x :: a) ++ y :: (c ++ [x]):=by simp
  have e2:y :: (c ++ x :: a) ++ [y]=(y :: c) ++ x :: (a ++ [y]):=by simp
  rw [e1,bi] at h;have nd':(y :: (c ++ x :: a)).Nodup:=by
   have:=(List.perm_append_comm (l₁:=x :: a) (l₂:=y :: c)).nodup_iff.mp nd;simpa using this
  have:=R y (c ++ x :: a) nd' (fun u hu=>by
   have h1:=hl u (by
    rcases List.mem_append.mp hu with q | q
    ·simp [q]
    ·rcases List.mem_cons.mp q with rfl | q
     ·simp
     ·simp [q])
   have h2:u ≠ y:=fun q=>(List.nodup_cons.mp nd').1 (q ▸ hu)
   omega) (by simp) (by rw [e2,bi];exact ⟨by simpa using h.2,by simpa using h.1⟩)
  rw [e2,Si] at this;rw [e1,Si];simp only [List.cons_append] at this ⊢;omega
theorem Ap.closed (k:S.Ok) (R:Ap S z o):∀ (n:Nat) (x:Nat) (t:List Nat),t.length ≤ n→chF S (x :: t ++ [x])→pwO S z o (x :: t ++ [x]) ≤ 0:=by
 intro n
 induction n with
 | zero=>
  intro x t hn h;have:t=[]:=List.length_eq_zero_iff.mp (by omega);subst this;exact absurd rfl (k.lt h.1).2.2
 | succ n ih=>
  intro x t hn h;by_cases nd:(x :: t).Nodup
  ·exact R.simple k nd h
  ·obtain ⟨a,y,b,c,e⟩:=vw nd;have hlen:=congrArg List.length e;simp only [List.length_cons,List.length_append] at hlen;rw [e,show a ++ y :: (b ++ y :: c) ++ [x]=a ++ y :: (b ++ y :: (c ++ [x])) by simp,bi] at h;obtain ⟨h1,h2⟩:=h;rw [show y :: (b ++ y :: (c ++ [x]))=(y :: b) ++ y :: (c ++ [x]) by simp,bi] at h2;obtain ⟨h2,h3⟩:=h2;have i1:=ih y b (by omega) h2;rw [e,show a ++ y :: (b ++ y :: c) ++ [x]=a ++ y :: (b ++ y :: (c ++ [x])) by simp,Si,show y :: (b ++ y :: (c ++ [x]))=(y :: b) ++ y :: (c ++ [x]) by simp,Si (y :: b)];have i2:pwO S z o (a ++ [y]) + pwO S z o (y :: (c ++ [x])) ≤ 0:=by
    rw [← Si];cases a with
    | nil=>
     cases e;exact ih x c (by simp at hn;omega) h3
    | cons x' a=>
     rw [List.cons_append,List.cons.injEq] at e;obtain ⟨rfl,rfl⟩:=e;refine ih x (a ++ y :: c) (by simp at hn ⊢;omega) ?_ |> fun q=>by simpa using q
     rw [show x :: (a ++ y :: c) ++ [x]=(x :: a) ++ y :: (c ++ [x]) by simp,bi];exact ⟨h1,h3⟩
   omega
theorem Ap.cut (k:S.Ok) (R:Ap S z o) (v:Nat):∀ (n:Nat) (l:List Nat),l.length ≤ n→chF S (l ++ [v])→∃ l',chF S (l' ++ [v])∧(l' ++ [v]).Nodup∧pwO S z o (l ++ [v]) ≤ pwO S z o (l' ++ [v]):=by
 intro n
 induction n with
 | zero=>
  intro l hn h;have:l=[]:=List.length_eq_zero_iff.mp (by omega);subst this;exact ⟨[],h,by simp,Int.le_refl _⟩
 | succ n ih=>
  intro l hn h;by_cases nd:(l ++ [v]).Nodup
  ·exact ⟨l,h,nd,Int.le_refl _⟩
  ·obtain ⟨a,y,b,c,e⟩:=vw nd;have hlen:=congrArg List.length e;simp only [List.length_cons,List.length_append,List.length_nil] at hlen;rw [e,bi] at h;obtain ⟨h1,h2⟩:=h;rw [show y :: (b ++ y :: c)=(y :: b) ++ y :: c by simp,bi] at h2;obtain ⟨h2,h3⟩:=h2;have i1:=R.closed k b.length y b (Nat.le_refl _) h2;obtain ⟨d,ed⟩:∃ d,a ++ y :: c=d ++ [v]:=by
    rcases List.eq_nil_or_concat c with rfl | ⟨c',u,rfl⟩
    ·have:l ++ [v]=(a ++ y :: b) ++ [y]:=by rw [e];simp
     have:=(List.append_inj' this rfl).2;cases this;exact ⟨a,by simp⟩
    ·have:l ++ [v]=(a ++ y :: (b ++ y :: c')) ++ [u]:=by rw [e];simp
     have:=(List.append_inj' this rfl).2;cases this;exact ⟨a ++ y :: c',by simp⟩
   have hd:=congrArg List.length ed;simp only [List.length_cons,List.length_append,List.length_nil] at hd;obtain ⟨l',g1,g2,g3⟩:=ih d (by omega) (by rw [← ed,bi];exact ⟨h1,h3⟩);refine ⟨l',g1,g2,Int.le_trans ?_ g3⟩;rw [← ed,e,Si,show y :: (b ++ y :: c)=(y :: b) ++ y :: c by simp,Si (y :: b),Si a y c];simp only [List.cons_append] at i1 ⊢;omega
noncomputable def relax (S:Sys) (z:Int) (o:Od) (b:Nat→Int) (p:Nat × Nat):Nat→Int:=fun v=>if v=p.2 then max (b p.2) (b p.1 + wtO S z o p.1 p.2) else b v
theorem KA (b:Nat→Int) (p:Nat × Nat) (v:Nat):b v ≤ relax S z o b p v:=by
 unfold relax;split
 ·rename_i h;rw [h];exact Int.le_max_left ..
 ·exact Int.le_refl _
theorem WG:∀ (E:Od) (b:Nat→Int) (v:Nat),b v ≤ E.foldl (relax S z o) b v:=by
 intro E
 induction E with
 | nil=>intro b v;exact Int.le_refl _
 | cons p E ih=>intro b v;exact Int.le_trans (KA b p v) (ih _ v)
theorem cL:∀ (E:Od) (b:Nat→Int) {u v:Nat},(u,v) ∈ E→b u + wtO S z o u v ≤ E.foldl (relax S z o) b v:=by
 intro E
 induction E with
 | nil=>intro b u v h;cases h
 | cons p E ih=>
  intro b u v h;rcases List.mem_cons.mp h with rfl | h
  ·refine Int.le_trans ?_ (WG E _ v);show _ ≤ relax S z o b (u,v) v;unfold relax;rw [if_pos rfl];exact Int.le_max_right ..
  ·have:=KA (S:=S) (z:=z) (o:=o) b p u;exact Int.le_trans (by omega) (ih _ h)
noncomputable def Wk (S:Sys) (z:Int) (o:Od) (b:Nat→Int):Prop:=∀ v,∃ l,chF S (l ++ [v])∧pwO S z o (l ++ [v])=b v
theorem Wk.relax {b:Nat→Int} (h:Wk S z o b) {p:Nat × Nat} (hp:S.e p.1 p.2=true):Wk S z o (relax S z o b p):=fun v=>by
 unfold My.relax;split
 ·rename_i hv;rcases Int.le_total (b p.1 + wtO S z o p.1 p.2) (b p.2) with q | q
  ·rw [Int.max_eq_left q,hv];exact h _
  ·rw [Int.max_eq_right q,hv];obtain ⟨l,h1,h2⟩:=h p.1;refine ⟨l ++ [p.1],?_,?_⟩
   ·rw [show l ++ [p.1] ++ [p.2]=l ++ p.1 :: [p.2] by simp,bi];exact ⟨h1,hp,trivial⟩
   ·rw [show l ++ [p.1] ++ [p.2]=l ++ p.1 :: [p.2] by simp,Si,h2];simp [pwO]
 ·exact h v
theorem Wk.fold:∀ (E:Od) {b:Nat→Int},Wk S z o b→(∀ p ∈ E,S.e p.1 p.2=true)→Wk S z o (E.foldl (My.relax S z o) b):=by
 intro E
 induction E with
 | nil=>intro b h _;exact h
 | cons p E ih=>intro b h hE;exact ih (h.relax (hE p (List.mem_cons_self ..))) fun q hq=>hE q (List.mem_cons_of_mem _ hq)
noncomputable def Rr (S:Sys) (z:Int) (o:Od) (E:Od):Nat→Nat→Int
 | 0=>fun _=>0
 | k + 1=>E.foldl (relax S z o) (Rr S z o E k)
theorem VH {E:Od} (hE:∀ p ∈ E,S.e p.1 p.2=true):∀ k,Wk S z o (Rr S z o E k):=by
 intro k
 induction k with
 | zero=>exact fun v=>⟨[],trivial,rfl⟩
 | succ k ih=>exact ih.fold E hE
theorem pH {E:Od} (hE:∀ i j,S.e i j=true→(i,j) ∈ E):∀ (k:Nat) (v:Nat) (l:List Nat),l.length ≤ k→chF S (l ++ [v])→pwO S z o (l ++ [v]) ≤ Rr S z o E k v:=by
 intro k
 induction k with
 | zero=>
  intro v l hl h;have:l=[]:=List.length_eq_zero_iff.mp (by omega);subst this;exact Int.le_refl _
 | succ k ih=>
  intro v l hl h;rcases List.eq_nil_or_concat l with rfl | ⟨l',u,rfl⟩
  ·exact Int.le_trans (ih v [] (Nat.zero_le _) h) (WG E _ v)
  ·rw [show l'.concat u ++ [v]=l' ++ u :: [v] by simp,bi] at h;have h1:=ih u l' (by simpa using hl) h.1;have h2:=cL (S:=S) (z:=z) (o:=o) E (Rr S z o E k) (hE u v h.2.1);rw [show l'.concat u ++ [v]=l' ++ u :: [v] by simp,Si];show _ ≤ E.foldl (relax S z o) (Rr S z o E k) v;simp only [pwO];omega
theorem UM (k:S.Ok) {v:Nat} (hv:v < S.m):∀ {l:List Nat},chF S (l ++ [v])→∀ x ∈ l ++ [v],x < S.m:=by
 intro l
 induction l with
 | nil=>intro _ x hx;rw [List.mem_singleton.mp hx];exact hv
 | cons u l ih=>
  intro h x hx;have h':S.e u ((l ++ [v]).headD 0)=true∧chF S (l ++ [v]):=by
   cases l with
   | nil=>exact h
   | cons y l=>exact h
  rcases List.mem_cons.mp hx with rfl | hx
  ·exact (k.lt h'.1).1
  ·exact ih h'.2 x hx
theorem wz {m:Nat} {l:List Nat} (nd:l.Nodup) (h:∀ x ∈ l,x < m):l.length ≤ m:=by
 induction m generalizing l with
 | zero=>
  cases l with
  | nil=>exact Nat.le_refl _
  | cons x l=>exact absurd (h x (List.mem_cons_self ..)) (Nat.not_lt_zero _)
 | succ m ih=>
  by_cases q:m ∈ l
  ·have:=ih (nd.erase m) fun x hx=>by
    have h1:=h x (List.mem_of_mem_erase hx);have h2:=(nd.mem_erase_iff.mp hx).1;omega
   rw [List.length_erase_of_mem q] at this;omega
  ·have:=ih nd fun x hx=>by
    have h1:=h x hx;have h2:x ≠ m:=fun e=>q (e ▸ hx)
    omega
   omega
theorem GC (k:S.Ok) {E:Od} (hE:∀ p ∈ E,S.e p.1 p.2=true) (hF:∀ i j,S.e i j=true→(i,j) ∈ E) (R:Ap S z o) {i j:Nat} (h:S.e i j=true):Rr S z o E S.m i + wtO S z o i j ≤ Rr S z o E S.m j:=by
 obtain ⟨l,h1,h2⟩:=VH (z:=z) (o:=o) hE S.m i;have c1:chF S ((l ++ [i]) ++ [j]):=by
  rw [show l ++ [i] ++ [j]=l ++ i :: [j] by simp,bi];exact ⟨h1,h,trivial⟩
 obtain ⟨l',g1,g2,g3⟩:=R.cut k j _ (l ++ [i]) (Nat.le_refl _) c1;have hn:=wz g2 (UM k (k.lt h).2.1 g1);have:=pH (z:=z) (o:=o) hF S.m j l' (by simp at hn;omega) g1;rw [show l ++ [i] ++ [j]=l ++ i :: [j] by simp,Si,h2] at g3;simp only [pwO] at g3;omega
theorem fw (k:S.Ok) (hz:0 < z) (ha:∀ i,i < S.m→S.al i ≤ z) {b:Nat→Int} (ho:∀ i j,S.e i j=true→inO o i j=true) (hs:∀ i j,(i,j) ∈ o→(j,i) ∉ o) (h:∀ i j,S.e i j=true→b i + wtO S z o i j ≤ b j):Fn S z b:=by
 refine ⟨ha,fun i j e=>?_⟩;have h1:=h i j e;have h2:=h j i (k.sy e);have s1:=k.s1 e;have s2:=k.s1 (k.sy e);unfold wtO at h1 h2;by_cases q:(j,i) ∈ o
 ·rw [if_pos q] at h1;rw [if_neg (hs _ _ q)] at h2;rw [← Int.add_emod_right,Int.emod_eq_of_lt (by omega) (by omega)];omega
 ·have q':(i,j) ∈ o:=by simpa [inO,q] using ho i j e
  rw [if_neg q] at h1;rw [if_pos q'] at h2;rw [Int.emod_eq_of_lt (by omega) (by omega)];omega
end
noncomputable def Zl (p:List Nat):Nat:=p.getLast?.getD 0
noncomputable def VC (S:Sys) (p:List Nat):List (List Nat):=((((List.range (S.m - (p.headD 0 + 1))).map fun k=>p.headD 0 + 1 + k).filter fun v=>S.e (Zl p) v).filter fun v=>decide (v ∉ p)).map fun v=>p ++ [v]
noncomputable def lev (S:Sys):Nat→List (List Nat)
 | 0=>(List.range S.m).map fun k=>[k]
 | k + 1=>(lev S k).flatMap (VC S)
noncomputable def clR (S:Sys) (p:List Nat):Bool:=S.e (Zl p) (p.headD 0)
noncomputable def ph (S:Sys):Nat→List (List Nat)
 | 0=>[]
 | k + 1=>ph S k ++ (lev S (k + 1)).filter (clR S)
section
variable {S:Sys} {z:Int} {o:Od}
theorem Bt (a:List Nat) (u:Nat):Zl (a ++ [u])=u:=by unfold Zl;simp
theorem Yz {p q:List Nat}:q ∈ VC S p↔∃ v,q=p ++ [v]∧p.headD 0 < v∧v < S.m∧S.e (Zl p) v=true∧v ∉ p:=by
 unfold VC;constructor
 ·intro h;obtain ⟨v,hv,rfl⟩:=List.mem_map.mp h;obtain ⟨hv,h2⟩:=List.mem_filter.mp hv;obtain ⟨hv,h1⟩:=List.mem_filter.mp hv;obtain ⟨k,hk,rfl⟩:=List.mem_map.mp hv;have:=List.mem_range.mp hk;exact ⟨_,rfl,by omega,by omega,h1,of_decide_eq_true h2⟩
 ·rintro ⟨v,rfl,h1,h2,h3,h4⟩;refine List.mem_map.mpr ⟨v,List.mem_filter.mpr ⟨List.mem_filter.mpr ⟨List.mem_map.mpr ⟨v - (p.headD 0 + 1),List.mem_range.mpr (by omega),by omega⟩,h3⟩,decide_eq_true h4⟩,rfl⟩
theorem GA:∀ (k:Nat) (p:List Nat),p ∈ lev S k→p.length=k + 1∧p.Nodup∧∀ x ∈ p,x < S.m:=by
 intro k
 induction k with
 | zero=>
  intro p h;obtain ⟨v,hv,rfl⟩:=List.mem_map.mp h;exact ⟨rfl,by simp,fun x hx=>by rw [List.mem_singleton.mp hx];exact List.mem_range.mp hv⟩
 | succ k ih=>
  intro p h;obtain ⟨q,hq,h⟩:=List.mem_flatMap.mp h;obtain ⟨v,rfl,h1,h2,h3,h4⟩:=Yz.mp h;obtain ⟨i1,i2,i3⟩:=ih q hq;refine ⟨by rw [List.length_append,i1];rfl,?_,fun x hx=>?_⟩
  ·rw [List.nodup_append];exact ⟨i2,by simp,fun x hx y hy e=>h4 (by rw [← List.mem_singleton.mp hy,← e];exact hx)⟩
  ·rcases List.mem_append.mp hx with hx | hx
   ·exact i3 x hx
   ·rw [List.mem_singleton.mp hx];exact h2
theorem LK:lev S S.m=[]:=by
 refine List.eq_nil_iff_forall_not_mem.mpr fun p hp=>?_
 obtain ⟨h1,h2,h3⟩:=GA _ p hp;have:=wz h2 h3;omega
theorem JA {k:Nat} (h:lev S k=[]):∀ i,lev S (k + i)=[]:=by
 intro i
 induction i with
 | zero=>exact h
 | succ i ih=>show (lev S (k + i)).flatMap (VC S)=[];rw [ih];rfl
theorem NF {p:List Nat} {v:Nat} (hp:p ≠ []) (h:chF S (p ++ [v])):S.e (Zl p) v=true:=by
 rcases List.eq_nil_or_concat p with rfl | ⟨a,u,rfl⟩
 ·exact absurd rfl hp
 ·rw [List.concat_eq_append,List.append_assoc] at h;rw [List.concat_eq_append,Bt];exact ((bi a u [v]).mp h).2.1
theorem mK:∀ (n:Nat) (x:Nat) (t:List Nat),t.length=n→(x :: t).Nodup→(∀ y ∈ t,x < y)→chF S (x :: t)→(∀ y ∈ x :: t,y < S.m)→x :: t ∈ lev S n:=by
 intro n
 induction n with
 | zero=>
  intro x t hn _ _ _ h;have:t=[]:=List.length_eq_zero_iff.mp hn;subst this;exact List.mem_map.mpr ⟨x,List.mem_range.mpr (h x (List.mem_cons_self ..)),rfl⟩
 | succ n ih=>
  intro x t hn nd hl hc hm;rcases List.eq_nil_or_concat t with rfl | ⟨a,v,rfl⟩
  ·cases hn
  ·rw [List.concat_eq_append] at *;rw [← List.cons_append] at nd hc hm ⊢;rw [List.nodup_append] at nd;have hc':chF S (x :: a):=by
    rcases List.eq_nil_or_concat a with rfl | ⟨b,u,rfl⟩
    ·exact trivial
    ·rw [List.concat_eq_append,← List.cons_append] at hc ⊢;rw [List.append_assoc] at hc;exact ((bi (x :: b) u [v]).mp hc).1
   refine List.mem_flatMap.mpr ⟨x :: a,ih x a (by simpa using hn) nd.1 (fun y hy=>hl y (by simp [hy])) hc' (fun y hy=>hm y (by simp only [List.mem_append];exact .inl hy)),Yz.mpr ⟨v,rfl,hl v (by simp),hm v (by simp),NF (by simp) hc,fun h=>nd.2.2 v h v (by simp) rfl⟩⟩
theorem bC {r:List Nat}:∀ {k:Nat},r ∈ ph S k→∃ i,i < k∧r ∈ lev S (i + 1):=by
 intro k
 induction k with
 | zero=>intro h;cases h
 | succ k ih=>
  intro h;rcases List.mem_append.mp h with h | h
  ·obtain ⟨i,hi,h⟩:=ih h;exact ⟨i,by omega,h⟩
  ·exact ⟨k,by omega,(List.mem_filter.mp h).1⟩
theorem CG {r:List Nat} {i k:Nat} (hi:i < k) (h:r ∈ lev S (i + 1)) (hc:clR S r=true):r ∈ ph S k:=by
 induction k with
 | zero=>omega
 | succ k ih=>
  by_cases q:i < k
  ·exact List.mem_append_left _ (ih q)
  ·have:i=k:=by omega
   subst this;exact List.mem_append_right _ (List.mem_filter.mpr ⟨h,hc⟩)
theorem vF (k:S.Ok) {K:Nat} (hK:lev S K=[]) {x:Nat} {t:List Nat} (nd:(x :: t).Nodup) (hl:∀ y ∈ t,x < y) (ht:t ≠ []) (hc:chF S (x :: t ++ [x])):x :: t ∈ ph S K:=by
 obtain ⟨a,u,e⟩:∃ a u,t=a ++ [u]:=by
  rcases List.eq_nil_or_concat t with q | ⟨a,u,q⟩
  ·exact absurd q ht
  ·exact ⟨a,u,by rw [q,List.concat_eq_append]⟩
 have hlast:=NF (p:=x :: t) (by simp) hc;have hx:=(k.lt hlast).2.1;have hc':chF S (x :: t):=by
  rw [e,← List.cons_append] at hc ⊢;rw [List.append_assoc] at hc;exact ((bi (x :: a) u [x]).mp hc).1
 have hm:x :: t ∈ lev S t.length:=mK _ x t rfl nd hl hc' (fun y hy=>UM k hx hc y (List.mem_append_left _ hy));have h1:t.length < K:=by
  rcases Nat.lt_or_ge t.length K with q | q
  ·exact q
  ·have:=JA hK (t.length - K);rw [show K + (t.length - K)=t.length by omega] at this;rw [this] at hm;cases hm
 have h0:0 < t.length:=List.length_pos_iff.mpr ht;refine CG (i:=t.length - 1) (by omega) (by rw [show t.length - 1 + 1=t.length by omega];exact hm) hlast
theorem fE (ho:∀ i j,S.e i j=true→inO o i j=true):∀ (l:List Nat),chF S l→Pp o l=true:=by
 intro l
 induction l with
 | nil=>intro _;rfl
 | cons x l ih=>
  intro h;cases l with
  | nil=>rfl
  | cons y l=>
   have h':S.e x y=true∧chF S (y :: l):=h;show (inO o x y && Pp o (y :: l))=true;rw [ho _ _ h'.1,ih h'.2];rfl
theorem ZB (k:S.Ok) {K:Nat} (hK:lev S K=[]) (ho:∀ i j,S.e i j=true→inO o i j=true) (h:∀ r ∈ ph S K,fg S z o r=false):Ap S z o:=fun x t nd hl ht hc=>by
 have hb:=h _ (vF k hK nd hl ht hc);have h0:0 < t.length:=List.length_pos_iff.mpr ht;unfold fg at hb;rw [show (x :: t) ++ (x :: t).take 1=x :: t ++ [x] from rfl,fE ho _ hc,decide_eq_true (show 2 ≤ (x :: t).length by rw [List.length_cons];omega),decide_eq_true nd] at hb;simpa using hb
theorem Az (p:List Nat):(VC S p).length ≤ S.m:=by
 unfold VC;rw [List.length_map];refine Nat.le_trans (List.length_filter_le ..) (Nat.le_trans (List.length_filter_le ..) ?_);rw [List.length_map,List.length_range];omega
theorem gA {f:List Nat→List (List Nat)} {c:Nat} (h:∀ p,(f p).length ≤ c):∀ l:List (List Nat),(l.flatMap f).length ≤ l.length * c:=by
 intro l
 induction l with
 | nil=>simp
 | cons p l ih=>
  rw [List.flatMap_cons,List.length_append,List.length_cons,Nat.succ_mul];have:=h p;omega
theorem DG:∀ k,(lev S k).length ≤ S.m ^ (k + 1):=by
 intro k
 induction k with
 | zero=>simp [lev]
 | succ k ih=>
  show ((lev S k).flatMap (VC S)).length ≤ _;refine Nat.le_trans (gA Az _) ?_;rw [Nat.pow_succ];exact Nat.mul_le_mul_right _ ih
end
structure Px (S:Sys) (o:Od):Prop where
 e:∀ p ∈ o,S.e p.1 p.2=true
 nd:o.Nodup
 as:∀ i j,(i,j) ∈ o→(j,i) ∉ o
theorem Px.len {S:Sys} {o:Od} (h:Px S o) (k:S.Ok) (hm:S.m ≤ 6):o.length ≤ 36:=by
 have h1:(o.map fun p=>p.1 * 6 + p.2).Nodup:=by
  have:∀ l:Od,l.Nodup→(∀ p ∈ l,p.1 < 6∧p.2 < 6)→(l.map fun p=>p.1 * 6 + p.2).Nodup:=by
   intro l
   induction l with
   | nil=>intro _ _;exact List.nodup_nil
   | cons p l ih=>
    intro nd hl;rw [List.nodup_cons] at nd;rw [List.map_cons,List.nodup_cons];refine ⟨fun hx=>?_,ih nd.2 fun q hq=>hl q (List.mem_cons_of_mem _ hq)⟩;obtain ⟨q,hq,e⟩:=List.mem_map.mp hx;have a1:=hl p (List.mem_cons_self ..);have a2:=hl q (List.mem_cons_of_mem _ hq);exact nd.1 (by rw [show p=q from Prod.ext (by omega) (by omega)];exact hq)
  exact this o h.nd fun p hp=>by have:=k.lt (h.e p hp);omega
 have:=wz (m:=36) h1 fun x hx=>by
  obtain ⟨p,hp,rfl⟩:=List.mem_map.mp hx;have:=k.lt (h.e p hp);omega
 rw [List.length_map] at this;exact this
theorem Px.in_e {S:Sys} {o:Od} (h:Px S o) (k:S.Ok) {i j:Nat} (q:inO o i j=true):S.e i j=true:=by
 unfold inO at q;rcases Bool.or_eq_true_iff.mp q with q | q
 ·exact h.e _ (of_decide_eq_true q)
 ·exact k.sy (h.e _ (of_decide_eq_true q))
theorem Px.put {S:Sys} {o:Od} (h:Px S o) (k:S.Ok) {i j:Nat} (he:S.e i j=true) (hn:inO o i j=false):Px S (o ++ [(i,j)]):=by
 unfold inO at hn;rw [Bool.or_eq_false_iff,decide_eq_false_iff_not,decide_eq_false_iff_not] at hn;refine ⟨fun p hp=>?_,?_,fun a b hab hba=>?_⟩
 ·rcases List.mem_append.mp hp with hp | hp
  ·exact h.e p hp
  ·rw [List.mem_singleton.mp hp];exact he
 ·rw [List.nodup_append];exact ⟨h.nd,by simp,fun x hx y hy e=>hn.1 (by rw [← List.mem_singleton.mp hy,← e];exact hx)⟩
 ·have hne:=(k.lt he).2.2;rcases List.mem_append.mp hab with x | x <;> rcases List.mem_append.mp hba with y | y
  ·exact h.as a b x y
  ·cases List.mem_singleton.mp y;exact hn.2 x
  ·cases List.mem_singleton.mp x;exact hn.2 y
  ·cases List.mem_singleton.mp x;cases List.mem_singleton.mp y;exact hne rfl
theorem Um (o:Od) (i j:Nat):inO o i j=inO o j i:=Bool.or_comm ..
noncomputable def oO (m:Nat):Od:=(List.range m).flatMap fun j=>(List.range j).map fun i=>(i,j)
theorem ZA {m i j:Nat} (h:i < j) (hj:j < m):(i,j) ∈ oO m:=List.mem_flatMap.mpr ⟨j,List.mem_range.mpr hj,List.mem_map.mpr ⟨i,List.mem_range.mpr h,rfl⟩⟩
noncomputable def unO (S:Sys) (o:Od):Nat:=(oO S.m).countP fun p=>S.e p.1 p.2 && !inO o p.1 p.2
theorem Bz {α:Type} {p q:α→Bool} (h:∀ x,q x=true→p x=true):∀ {l:List α} {y:α},y ∈ l→p y=true→q y=false→l.countP q < l.countP p:=by
 intro l
 induction l with
 | nil=>intro y hy;cases hy
 | cons x l ih=>
  intro y hy h1 h2;rw [List.countP_cons,List.countP_cons];have hle:l.countP q ≤ l.countP p:=List.countP_mono_left fun x _=>h x
  rcases List.mem_cons.mp hy with rfl | hy
  ·rw [h1,h2];simp;omega
  ·have:=ih hy h1 h2;by_cases hq:q x=true
   ·rw [h x hq,hq];simp;exact this
   ·rw [Bool.not_eq_true] at hq;rw [hq];simp;omega
section
variable {S:Sys} {o:Od}
theorem tK (i j a b:Nat) (h:inO o a b=true):inO (o ++ [(i,j)]) a b=true:=by
 unfold inO at h ⊢;simp only [Bool.or_eq_true,decide_eq_true_eq,List.mem_append] at h ⊢;exact h.imp .inl .inl
theorem rF (i j:Nat):inO (o ++ [(i,j)]) i j=true:=by
 unfold inO;simp
theorem Vy (k:S.Ok) {i j:Nat} (he:S.e i j=true) (hn:inO o i j=false):unO S (o ++ [(i,j)]) < unO S o:=by
 have hl:=k.lt he;unfold unO;have hmono:∀ p:Nat × Nat,(S.e p.1 p.2 && !inO (o ++ [(i,j)]) p.1 p.2)=true→(S.e p.1 p.2 && !inO o p.1 p.2)=true:=fun p h=>by
  rw [Bool.and_eq_true,Bool.not_eq_true'] at h ⊢;refine ⟨h.1,?_⟩;rw [Bool.eq_false_iff];intro q;rw [tK i j _ _ q] at h;cases h.2
 rcases Nat.lt_or_gt_of_ne hl.2.2 with q | q
 ·exact Bz hmono (ZA q hl.2.1) (by simp [he,hn]) (by simp [rF])
 ·refine Bz hmono (ZA q hl.1) (by simp [k.sy he,Um o j i,hn]) (by simp [Um _ j i,rF])
theorem BK (k:S.Ok) {i j:Nat} (he:S.e i j=true) (hn:inO o i j=false):0 < unO S o:=Nat.lt_of_le_of_lt (Nat.zero_le _) (Vy k he hn)
theorem VA:∀ k,(Qx S k).length ≤ k:=by
 intro k
 induction k with
 | zero=>exact Nat.le_refl _
 | succ k ih=>
  unfold Qx;rw [List.length_append];split <;> simp <;> omega
theorem nK {k j:Nat} (h0:0 < j) (hj:j ≤ k) (he:S.e 0 j=true):(0,j) ∈ Qx S k:=by
 induction k with
 | zero=>omega
 | succ k ih=>
  unfold Qx;by_cases q:j ≤ k
  ·exact List.mem_append_left _ (ih q)
  ·have:j=k + 1:=by omega
   subst this;rw [if_pos he];exact List.mem_append_right _ (by simp)
theorem nz (k:S.Ok) (hm:S.m ≤ 6):unO S (qp S) ≤ 10∧(S.m ≤ 5→unO S (qp S) ≤ 6):=by
 have h:unO S (qp S) ≤ (oO S.m).countP fun p=>decide (p.1 ≠ 0):=by
  refine List.countP_mono_left fun p _ hp=>?_
  rw [Bool.and_eq_true,Bool.not_eq_true'] at hp;refine decide_eq_true fun q=>?_
  rw [q] at hp;have hl:=k.lt hp.1;have:inO (qp S) 0 p.2=true:=by
   unfold inO;rw [decide_eq_true (show (0,p.2) ∈ qp S from nK (by omega) (by omega) hp.1)];rfl
  rw [this] at hp;cases hp.2
 have h6:∀ m,m ≤ 6→((oO m).countP fun p=>decide (p.1 ≠ 0)) ≤ 10∧(m ≤ 5→((oO m).countP fun p=>decide (p.1 ≠ 0)) ≤ 6):=by decide +kernel
 exact ⟨Nat.le_trans h (h6 _ hm).1,fun q=>Nat.le_trans h ((h6 _ hm).2 q)⟩
theorem iz:Px S (qp S) where
 e:=fun p hp=>by
  obtain ⟨h1,h2,h3,h4⟩:=Fl hp;rw [h1];exact h4
 nd:=MK _
 as:=fun i j h1 h2=>by
  have a:=Fl h1;have b:=Fl h2;have:i=0:=a.1;have:0 < i:=b.2.1;omega
noncomputable def Xp (f:Nat→Int):Nat→Int
 | 0=>0
 | k + 1=>Xp f k + f k
theorem fF {f:Nat→Int} {m:Nat} (h:∀ i,i < m→0 ≤ f i):∀ (d i:Nat),i + d ≤ m→Xp f i ≤ Xp f (i + d):=by
 intro d
 induction d with
 | zero=>intro i _;exact Int.le_refl _
 | succ d ih=>
  intro i hi;have h1:=ih i (by omega);have h2:=h (i + d) (by omega);show _ ≤ Xp f (i + d) + f (i + d);omega
theorem Zn {f:Nat→Int} {m:Nat} (h:∀ i,i < m→0 ≤ f i) {i j:Nat} (hij:i < j) (hj:j ≤ m):Xp f i + f i ≤ Xp f j:=by
 have:=fF h (j - (i + 1)) (i + 1) (by omega);rw [show i + 1 + (j - (i + 1))=j by omega] at this;exact this
theorem TK (k:S.Ok) {mx:Nat→Int} (h0:∀ i,0 ≤ mx i) (h:∀ i j,S.e i j=true→S.st i j ≤ mx i):Fn S (Xp (fun i=>S.al i + mx i) S.m) (Xp fun i=>S.al i + mx i):=by
 have hf:∀ i,i < S.m→0 ≤ S.al i + mx i:=fun i hi=>by have:=k.a1 hi;have:=h0 i;omega
 have hs:∀ i,0 + i ≤ S.m→0 ≤ Xp (fun i=>S.al i + mx i) i:=fun i hi=>by
  have:=fF hf i 0 hi;simpa [Xp] using this
 refine ⟨fun i hi=>?_,fun i j e=>?_⟩
 ·have h1:=Zn hf (i:=i) (j:=S.m) hi (Nat.le_refl _);have h2:=hs i (by omega);have h3:=h0 i;omega
 ·have hl:=k.lt e;have hi:=Zn hf (i:=i) (j:=S.m) hl.1 (Nat.le_refl _);have hj:=Zn hf (i:=j) (j:=S.m) hl.2.1 (Nat.le_refl _);have ai:=k.a1 hl.1;have aj:=k.a1 hl.2.1;have mi:=h0 i;have mj:=h0 j;have hs':=h i j e;have pi:=hs i (by omega);have pj:=hs j (by omega);rcases Nat.lt_or_gt_of_ne hl.2.2 with q | q
  ·have g:=Zn hf q (by omega);rw [mdU (by omega) pi (by omega)];omega
  ·have g:=Zn hf q (by omega);rw [mdD (by omega) (by omega) pj];omega
end
end My
namespace My
open PySem L2
noncomputable def Lb (n:Int) (ws:List (WD × Int)):Sys where
 m:=ws.length
 e:=fun i j=>match ws[i]?,ws[j]? with
  | some p,some q=>decide (i ≠ j) && mt n p.1 q.1
  | _,_=>false
 st:=fun i j=>match ws[i]?,ws[j]? with
  | some p,some q=>p.2 + bD p.1 q.1
  | _,_=>0
 al:=fun i=>match ws[i]? with
  | some p=>Rc p
  | none=>0
theorem Fx {n:Int} {ws:List (WD × Int)} {i j:Nat} (h:(Lb n ws).e i j=true):∃ p q,ws[i]? = some p∧ws[j]? = some q∧i ≠ j∧mt n p.1 q.1=true:=by
 unfold Lb at h;cases hp:ws[i]? with
 | none=>simp [hp] at h
 | some p=>
  cases hq:ws[j]? with
  | none=>simp [hp,hq] at h
  | some q=>exact ⟨p,q,rfl,rfl,by simpa [hp,hq] using h⟩
theorem Jm {n:Int} {ws:List (WD × Int)} {i j:Nat} {p q:WD × Int} (hi:ws[i]? = some p) (hj:ws[j]? = some q):(Lb n ws).e i j=(decide (i ≠ j) && mt n p.1 q.1)∧(Lb n ws).st i j=p.2 + bD p.1 q.1:=by
 refine ⟨?_,?_⟩ <;> simp only [Lb,hi,hj]
noncomputable def Jx (n:Int) (ws:List (WD × Int)):Prop:=(∀ p ∈ ws,WOk n p.1∧1 ≤ p.2∧p.2 ≤ 1000)∧ws.length ≤ 6∧ws ≠ []
theorem PL (d e:WD):0 ≤ bD d e:=by unfold bD;split <;> omega
theorem xA {n:Int} {d:WD} (o:WOk n d):0 ≤ Rn d + Gh d:=by
 have h:=o.of;unfold Rn Gh;rcases d with ⟨k,_⟩
 match k with
 | 0=>simp
 | 1=>simpa using h.1
 | k + 2=>simp
theorem Jx.ok {n:Int} {ws:List (WD × Int)} (h:Jx n ws):(Lb n ws).Ok where
 lt:=fun e=>by
  obtain ⟨p,q,h1,h2,h3,_⟩:=Fx e;exact ⟨(List.getElem?_eq_some_iff.mp h1).1,(List.getElem?_eq_some_iff.mp h2).1,h3⟩
 sy:=fun e=>by
  obtain ⟨p,q,h1,h2,h3,h4⟩:=Fx e;obtain ⟨op,_⟩:=h.1 p (List.mem_of_getElem? h1);obtain ⟨oq,_⟩:=h.1 q (List.mem_of_getElem? h2);have hm':mt n q.1 p.1=true:=by rw [← h4];exact (CC op.st op.fi oq.st oq.fi op.ne oq.ne).symm
  rw [(Jm h2 h1).1,hm'];simp [Ne.symm h3]
 s1:=fun e=>by
  obtain ⟨p,q,h1,h2,h3,h4⟩:=Fx e;rw [(Jm h1 h2).2];have:=(h.1 p (List.mem_of_getElem? h1)).2.1;have:=PL p.1 q.1;omega
 a1:=fun {i} hi=>by
  have hp:ws[i]? = some ws[i]:=List.getElem?_eq_getElem hi;obtain ⟨o,l,_⟩:=h.1 _ (List.mem_of_getElem? hp);have e:(Lb n ws).al i=Rc ws[i]:=by
   show (match ws[i]? with | some p=>Rc p | none=>0)=_;rw [hp]
  rw [e];have h1:=xA o;unfold Rc;omega
noncomputable def gv (o:Od):List (List Key × V):=o.map fun p=>(lf p.1 p.2,V.bl true)
theorem mw (o:Od):(gv o).length=o.length:=List.length_map ..
theorem pq (o:Od) (i j:Nat):(jk (gv o) (lf i j)).isSome=decide ((i,j) ∈ o):=by
 induction o with
 | nil=>rfl
 | cons p o ih=>
  unfold gv at ih ⊢;rw [List.map_cons];by_cases h:p=(i,j)
  ·subst h;rw [An rfl];simp
  ·rw [Gn fun e=>h (Prod.ext (Ti e).1 (Ti e).2),ih];simp [Ne.symm h]
theorem bx {o:Od} {i j:Nat} (h:(i,j) ∉ o):Uq (gv o) (lf i j) (V.bl true)=gv (o ++ [(i,j)]):=by
 rw [Vt]
 ·unfold gv;rw [List.map_append];rfl
 ·intro x hx e;obtain ⟨p,hp,rfl⟩:=List.mem_map.mp hx;obtain ⟨e1,e2⟩:=Ti e;subst e1 e2;exact h hp
theorem EC (P:Program) (w:World) {o:Od} (nd:o.Nodup) (h:∀ p ∈ o,p.1 < 6∧p.2 < 6):((gv o).map fun p=>xL P w p.1).Nodup:=by
 unfold gv;rw [List.map_map];show (o.map hsh).Nodup
 induction o with
 | nil=>exact List.nodup_nil
 | cons p o ih=>
  rw [List.nodup_cons] at nd;rw [List.map_cons,List.nodup_cons];refine ⟨fun hm=>?_,ih nd.2 fun q hq=>h q (List.mem_cons_of_mem _ hq)⟩;obtain ⟨q,hq,e⟩:=List.mem_map.mp hm;have h1:=h p (List.mem_cons_self ..);have h2:=h q (List.mem_cons_of_mem _ hq);have:=SK NN q (gE h2.1 h2.2) p (gE h1.1 h1.2) e;exact nd.1 (this ▸ hq)
theorem MA {k:List Key} {v:V}:∀ {kvs:List (List Key × V)},jk kvs k=some v→(k,v) ∈ kvs
 | [],h=>nomatch h
 | p :: r,h=>by
  by_cases e:p.1=k
  ·rw [An e] at h;cases h;rw [← e];exact List.mem_cons_self ..
  ·rw [Gn e] at h;exact List.mem_cons_of_mem _ (MA h)
theorem pA {n:Int} {ws:List (WD × Int)} (i j:Nat):jk (bg n ws ws.length) (lf i j)=if (Lb n ws).e i j then some (V.int ((Lb n ws).st i j)) else none:=by
 have key:∀ v,jk (bg n ws ws.length) (lf i j)=some v→(Lb n ws).e i j=true∧v=V.int ((Lb n ws).st i j):=fun v h=>by
  obtain ⟨k,_,hx⟩:=ax (MA h);obtain ⟨j',p,q,_,h1,h2,h3,h4,e⟩:=kr hx;obtain ⟨rfl,rfl⟩:=Ti (congrArg Prod.fst e);have e2:v=V.int (p.2 + bD p.1 q.1):=congrArg Prod.snd e;rw [(Jm h1 h2).1,(Jm h1 h2).2,h4,e2];simp [h3]
 cases he:(Lb n ws).e i j with
 | true=>
  obtain ⟨p,q,h1,h2,h3,h4⟩:=Fx he;have hm:=AH h1 h2 h3 h4;cases hv:jk (bg n ws ws.length) (lf i j) with
  | none=>exact absurd (List.mem_map_of_mem (f:=(·.1)) hm) (mH hv)
  | some v=>rw [(key v hv).2];rfl
 | false=>
  cases hv:jk (bg n ws ws.length) (lf i j) with
  | none=>rfl
  | some v=>rw [(key v hv).1] at he;cases he
theorem FB {n:Int} {ws:List (WD × Int)} {i j:Nat} (h:(Lb n ws).e i j=true):jk (bg n ws ws.length) (lf i j)=some (V.int ((Lb n ws).st i j)):=by rw [pA,h];rfl
theorem Fu {n:Int} {ws:List (WD × Int)} (i j:Nat):(jk (bg n ws ws.length) (lf i j)).isSome=(Lb n ws).e i j:=by
 rw [pA];cases (Lb n ws).e i j <;> rfl
noncomputable def Rk (P:Program) (w:World) (H:Hp) (a:Addr) (o:Od):Prop:=Ol P w H a (gv o)
section
variable (P:Program) (w:World)
noncomputable def EA:Sp:=fun vs H Q _=>∃ a i j o,vs=[.ref a,.int (i:Nat),.int (j:Nat)]∧Rk P w H a o∧NoT H∧Q (.bl (inO o i j)) H
noncomputable def OE (S:Sys):Sp:=fun vs H Q _=>∃ a i j o,vs=[.ref a,.int (i:Nat),.int (j:Nat)]∧Rk P w H a o∧Px S o∧S.Ok∧S.m ≤ 6∧(i,j) ∉ o∧NoT H ∧
 ∀ r H',Sb H H'→NoT H'→Rk P w H' r (o ++ [(i,j)])→Q (.ref r) H'
noncomputable def WF (t:Adr):Sp:=fun vs H Q _=>∃ wp z a i j o n ws,vs=[.ref wp,.int z,.ref a,.int (i:Nat),.int (j:Nat)]∧jd P w t H wp n ws∧Rk P w H a o∧(Lb n ws).e i j=true∧NoT H∧Q (.int (wtO (Lb n ws) z o i j)) H
noncomputable def xG (t:Adr):Sp:=fun vs H Q _=>∃ wp n ws,vs=[.ref wp]∧jd P w t H wp n ws∧Jx n ws∧NoT H ∧
 ∀ r H',Sb H H'→NoT H'→Rk P w H' r (qp (Lb n ws))→Q (.ref r) H'
end
theorem jd.same {P:Program} {w:World} {t:Adr} {H H':Hp} {p:Addr} {n:Int} {ws:List (WD × Int)} (h:jd P w t H p n ws) (s:Sb H H'):jd P w t H' p n ws:=by
 obtain ⟨dx,al,sd,e1,e2,e3⟩:=h;exact ⟨dx,al,sd,s _ _ e1,s _ _ e2,Yb e3 s⟩
section
variable {P:Program} {w:World} {K:PySem.W.Frag} {mg:Str→Option Value} {base:Heap} {t:Adr}
theorem Vi (T:Txt w K mg t) {H:Hp} {p dx al sd:Addr} {m:Int} (e:H p=some (.ins t.cc dx (ym m al sd))):Wl K H p (Str.ofString "many") (.int m):=⟨_,dx,_,e,T.Pi,T.em,Le bq 0 (oo ..) (by decide +kernel) rfl⟩
theorem OG (T:Txt w K mg t):Ub P w K mg base CX0 1 t.ud t.qd q8 (EA P w):=by
 have key:Ub P w K mg base CX0 1 t.ud t.qd q8 (fun vs H Q _=>∃ a i j o,vs=[.ref a,.int (i:Nat),.int (j:Nat)]∧Rk P w H a o∧∀ H',Sb H H'→Q (.bl (inO o i j)) H'):=by
  refine T.Ee.ok Lp (fun vs H Q E h=>?_) (fun _ _ _ s H vs Q E hr h=>?_)
  ·obtain ⟨a,i,j,o,rfl,_⟩:=h;rfl
  obtain ⟨a,i,j,o,rfl,D,q⟩:=h;have hu:=Xl hr;refine ⟨_,(lb (Fb (yL (hJ (fu hu (wc (ab (pv 1) (ab (pv 2) jb))) (pv 0))) (Mr (hJ (fu hu (wc (ab (pv 2) (ab (pv 1) jb))) (pv 0))))))),?_⟩;walk_at "RD";refine ⟨by decide,fun p hp=>⟨_,Yb D (db hp),lf i j,ib,?_⟩⟩;rw [pq];by_cases h:(i,j) ∈ o
  ·rw [if_pos (decide_eq_true h)];have:=q _ (db (o:=.tup [V.int (i:Int),V.int (j:Int)]) hp);rw [show inO o i j=true by unfold inO;rw [decide_eq_true h];rfl] at this;exact this
  ·rw [if_neg (by rw [decide_eq_false h];exact Bool.false_ne_true)];refine ⟨by decide,fun p2 hp2=>⟨_,Yb (Yb D (db hp)) (db hp2),lf j i,ib,?_⟩⟩;rw [pq];have:=q _ ((db (o:=.tup [V.int (i:Int),V.int (j:Int)]) hp).trans (db (o:=.tup [V.int (j:Int),V.int (i:Int)]) hp2));rw [show inO o i j=decide ((j,i) ∈ o) by unfold inO;rw [decide_eq_false h];rfl] at this;exact this
 exact key.forget fun vs H Q E h=>by
  obtain ⟨a,i,j,o,e,D,nt,q⟩:=h;exact ⟨nt,a,i,j,o,e,D,fun H' sm=>⟨sm,q⟩⟩
theorem bJ (T:Txt w K mg t):Ub P w K mg base CX0 1 t.Xd t.ce q18 (WF P w t):=by
 have key:Ub P w K mg base CX0 1 t.Xd t.ce q18 (fun vs H Q _=>∃ wp z a i j o n ws,vs=[.ref wp,.int z,.ref a,.int (i:Nat),.int (j:Nat)]∧jd P w t H wp n ws∧Rk P w H a o∧(Lb n ws).e i j=true∧∀ H',Sb H H'→Q (.int (wtO (Lb n ws) z o i j)) H'):=by
  refine T.Zf.ok ck (fun vs H Q E h=>?_) (fun _ _ _ s H vs Q E hr h=>?_)
  ·obtain ⟨wp,z,a,i,j,o,n,ws,rfl,_⟩:=h;rfl
  obtain ⟨wp,z,a,i,j,o,n,ws,rfl,⟨dx,al,sd,e1,e2,D⟩,O,he,q⟩:=h;have hu:=Xl hr;refine ⟨_,(fb (yb (i:=5) ck.nd (cE hu (uc (pv 0) rfl) (wc (ab (pv 3) (ab (pv 4) jb))) (fun _ _=>rfl)))
   (lb (Fb (Hv (gu (fu hu (wc (ab (pv 4) (ab (pv 3) jb))) (pv 2))) (Kb Fg (pv 5) (pv 1)) (pv 5))))),?_⟩
  walk_at "RD";refine ⟨_,ve T e1,by decide,fun p hp=>⟨sd,rfl,_,Yb D (db hp),lf i j,ib,_,FB he,by decide,fun p2 hp2=>⟨_,Yb (Yb O (db hp)) (db hp2),lf j i,ib,?_⟩⟩⟩;rw [pq];have:=q _ ((db (o:=.tup [V.int (i:Int),V.int (j:Int)]) hp).trans (db (o:=.tup [V.int (j:Int),V.int (i:Int)]) hp2));unfold wtO at this;by_cases h:(j,i) ∈ o
  ·rw [if_pos (decide_eq_true h)];rw [if_pos h] at this;exact ⟨_,rfl,this⟩
  ·rw [if_neg (by rw [decide_eq_false h];exact Bool.false_ne_true)];rw [if_neg h] at this;exact this
 exact key.forget fun vs H Q E h=>by
  obtain ⟨wp,z,a,i,j,o,n,ws,e,W,O,he,nt,q⟩:=h;exact ⟨nt,wp,z,a,i,j,o,n,ws,e,W,O,he,fun H' sm=>⟨sm,q⟩⟩
theorem UJ (T:Txt w K mg t) (S:Sys):Ub P w K mg base CX0 1 t.Gg t.Dg q8 (OE P w S):=by
 refine T.vf.ok Kn (fun vs H Q E h=>?_) (fun _ _ _ s H vs Q E hr h=>?_)
 ·obtain ⟨a,i,j,o,rfl,_⟩:=h;rfl
 obtain ⟨a,i,j,o,rfl,O,ok,k,hm,hn,nt,q⟩:=h;have hu:=Xl hr;refine ⟨_,(fb (yb (i:=3) Kn.nd (Hg YB rfl T.kN Yy (ab (pv 0) jb)))
   (fb (xy hu (pv 3) (wc (ab (pv 1) (ab (pv 2) jb))) Tl rfl)
   (lb (Fb (pv 3))))),?_⟩
 walk_at "RD";refine ⟨_,O,EC P w ok.nd (fun p hp=>by have:=k.lt (ok.e p hp);omega),fun p ob hp D1=>⟨by decide,fun p2 hp2=>⟨_,Yb D1 (db hp2),lf i j,ib,?_,fun o2 D2=>?_⟩⟩⟩
 ·rw [mw];exact Nat.lt_of_le_of_lt (ok.len k hm) (by decide)
 ·rw [bx hn] at D2;exact q _ _ (fun b u e=>by rw [Eb (Nb e hp)];exact db hp2 _ _ (db hp _ _ e)) ((nt.upd).upd).upd D2
theorem MJ (T:Txt w K mg t):Ub P w K mg base CX0 1 t.re t.qe ["wanted"] (xG P w t):=by
 refine T.pf.ok dg (fun vs H Q E h=>?_) (fun _ _ _ s H vs Q E hr h=>?_)
 ·obtain ⟨wp,n,ws,rfl,_⟩:=h;rfl
 obtain ⟨wp,n,ws,rfl,W,ok,nt,q⟩:=h;obtain ⟨dx,al,sd,e1,e2,D⟩:=id W;have hu:=Xl hr;refine ⟨_,(fb (yb (i:=1) dg.nd qF)
   (fb (Bf PassesOwn.never rfl (ir rfl T.uf (ab gb (ab (uc (pv 0) rfl) jb))) (Ib (i:=2) dg.nd) (lb (Pc (gu (fu hu (wc (ab gb (ab (pv 2) jb))) (uc (pv 0) rfl))) (lb (xy hu (pv 1) (wc (ab gb (ab (pv 2) jb))) Tl rfl)) Rb)))
   (lb (Fb (pv 1))))),?_⟩
 walk_at "RD";intro p ob hp D0;have hl:=ok.2.1;have sA:Sb H (upd H p (.ext (AtO p ob))):=db hp;refine ⟨_,Vi T (sA _ _ e1),_,rfl,by decide,by decide,by omega,by omega,?_⟩;rw [show ((ws.length:Int) - 1).toNat=ws.length - 1 by omega];refine nk.range (fun i σ H'=>Sb H H'∧NoT H'∧Rk P w H' p (Qx (Lb n ws) i)∧∃ x,σ=[some (.ref wp),some (.ref p),x]) ⟨sA,nt.upd,D0,_,rfl⟩ ?_ ?_
 ·rintro i σ H1 hi zzq;refine zzP fun zzM zzh=>?_
  obtain ⟨s1,n1,O1,x,rfl⟩:=zzq;subst zzh;simp only [Rf,List.set_cons_succ,List.set_cons_zero];rw [show (1:Int) + (i:Nat)=((i + 1:Nat):Int) by omega];refine qf (fun b H2=>b=(Lb n ws).e 0 (i + 1)∧Sb H1 H2∧NoT H2) (fun Q hQ=>?_) (fun H2 r2=>?_) (fun H2 r2=>?_)
  ·walk_at "RD";refine ⟨by decide,fun p2 hp2=>⟨_,ve T (db hp2 _ _ (s1 _ _ e1)),sd,rfl,_,Yb (Yb D s1) (db hp2),lf 0 (i + 1),ib,?_⟩⟩;rw [Fu];exact hQ _ _ ⟨rfl,db hp2,n1.upd⟩
  ·obtain ⟨r1,r2,r3⟩:=r2;walk_at "RD";refine ⟨by decide,fun p2 hp2=>⟨_,Yb (Yb O1 r2) (db hp2),lf 0 (i + 1),ib,?_,fun o2 D2=>⟨?_,(r3.upd).upd,?_⟩⟩⟩
   ·rw [mw];have:=VA (S:=Lb n ws) i;exact Nat.lt_of_le_of_lt (show _ ≤ 6 by omega) (by decide)
   ·exact fun b u e=>by rw [Eb (Nb e hp)];exact db hp2 _ _ (r2 _ _ (s1 _ _ e))
   ·rw [bx (fun hm=>by have:=(Fl hm).2.2.1;simp only at this;omega)] at D2;refine ⟨?_,_,rfl⟩;show Rk P w _ p (Qx (Lb n ws) i ++ _);rw [← r1,if_pos rfl];exact D2
  ·obtain ⟨r1,r2,r3⟩:=r2;simp only [Xb];refine ⟨s1.trans r2,r3,?_,_,rfl⟩;show Rk P w H2 p (Qx (Lb n ws) i ++ _);rw [← r1];rw [if_neg Bool.false_ne_true,List.append_nil];exact Yb O1 r2
 ·rintro σ H1 zzq;refine zzP fun zzM zzh=>?_
  obtain ⟨s1,n1,O1,x,rfl⟩:=zzq;subst zzh;walk_at "RD";exact q _ _ s1 n1 O1
end
end My
namespace My
open PySem L2
noncomputable def ac (r:List Nat):List V:=r.map fun k:Nat=>V.int (k:Int)
theorem lc (r:List Nat):(ac r).length=r.length:=List.length_map ..
theorem Xt (r:List Nat):ac r=List.map V.int (r.map fun k:Nat=>(k:Int)):=by unfold ac;rw [List.map_map];rfl
theorem qI (r:List Nat):(r.map fun k:Nat=>(k:Int)).Nodup↔r.Nodup:=by
 induction r with
 | nil=>simp
 | cons x r ih=>
  rw [List.map_cons,List.nodup_cons,List.nodup_cons,ih];refine and_congr_left fun _=>not_congr ⟨fun h=>?_,fun h=>List.mem_map.mpr ⟨x,h,rfl⟩⟩
  obtain ⟨y,hy,e⟩:=List.mem_map.mp h;rw [← Int.ofNat.inj e];exact hy
theorem Kz {r:List Nat} {i:Nat} {v:V} (h:(ac r)[i]? = some v):∃ k,r[i]? = some k∧v=V.int (k:Int):=by
 unfold ac at h;rw [List.getElem?_map] at h;cases hr:r[i]? with
 | none=>rw [hr] at h;cases h
 | some k=>rw [hr] at h;exact ⟨k,rfl,(Option.some.inj h).symm⟩
noncomputable def Gx (r:List Nat) (i:Nat):Nat:=(r[(i + 1) % r.length]?).getD 0
noncomputable def Ks (r:List Nat) (i:Nat):List Nat:=(r ++ r.take 1).take (i + 1)
theorem oF {r:List Nat} (h:r ≠ []):Ks r 0=[r.headD 0]:=by
 cases r with
 | nil=>exact absurd rfl h
 | cons x r=>rfl
theorem uv {r:List Nat} (h:r ≠ []):Ks r r.length=r ++ r.take 1:=by
 unfold Ks;rw [List.take_of_length_le];cases r with
 | nil=>exact absurd rfl h
 | cons x r=>simp
theorem uN {r:List Nat} {i:Nat} (hi:i < r.length):(r ++ r.take 1)[i + 1]? = some (Gx r i):=by
 unfold Gx;by_cases h:i + 1 < r.length
 ·rw [List.getElem?_append_left h,Nat.mod_eq_of_lt h,List.getElem?_eq_getElem h];rfl
 ·have e:i + 1=r.length:=by omega
  rw [List.getElem?_append_right (by omega),e,Nat.mod_self,Nat.sub_self];cases r with
  | nil=>simp at hi
  | cons x r=>rfl
theorem tH {l:List Nat} {i a b:Nat} (h1:l[i]? = some a) (h2:l[i + 1]? = some b):l.take (i + 2)=l.take i ++ a :: [b]∧l.take (i + 1)=l.take i ++ [a]:=by
 have e1:l.take (i + 1)=l.take i ++ [a]:=by rw [List.take_add_one,h1];rfl
 refine ⟨?_,e1⟩;rw [show i + 2=(i + 1) + 1 from rfl,List.take_add_one,h2,e1];simp
theorem Qw {r:List Nat} {i k:Nat} (h:r[i]? = some k):∃ a,Ks r i=a ++ [k]∧Ks r (i + 1)=a ++ k :: [Gx r i]:=by
 have hi:=(List.getElem?_eq_some_iff.mp h).1;have h1:(r ++ r.take 1)[i]? = some k:=by rw [List.getElem?_append_left hi];exact h
 obtain ⟨e1,e2⟩:=tH h1 (uN hi);exact ⟨_,e2,e1⟩
theorem iy (o:Od):∀ (a:List Nat) (x:Nat) (r:List Nat),Pp o (a ++ x :: r)=(Pp o (a ++ [x]) && Pp o (x :: r)):=by
 intro a
 induction a with
 | nil=>intro x r;simp [Pp]
 | cons u a ih=>
  intro x r;cases a with
  | nil=>simp [Pp]
  | cons v a=>
   have:=ih x r;simp only [List.cons_append,Pp] at this ⊢;rw [this,Bool.and_assoc]
theorem YA (o:Od) {r:List Nat} {i:Nat} (hi:i ≤ r.length) (h:Pp o (Ks r i)=false):Pp o (r ++ r.take 1)=false:=by
 unfold Ks at h;cases hx:(r ++ r.take 1)[i]? with
 | none=>
  rw [List.take_of_length_le (by have:=List.getElem?_eq_none_iff.mp hx;omega)] at h;exact h
 | some x=>
  have hl:=(List.getElem?_eq_some_iff.mp hx).1;rw [List.take_add_one,hx] at h;have e:r ++ r.take 1=(r ++ r.take 1).take i ++ x :: (r ++ r.take 1).drop (i + 1):=by
   conv=>lhs;rw [← List.take_append_drop i (r ++ r.take 1)]
   rw [List.drop_eq_getElem_cons hl];rw [(List.getElem?_eq_some_iff.mp hx).2]
  rw [e,iy];have h':Pp o ((r ++ r.take 1).take i ++ [x])=false:=h;rw [h',Bool.false_and]
section
variable (P:Program) (w:World)
noncomputable def PK (t:Adr):Sp:=fun vs H Q _=>∃ wp z a rp o r n ws,vs=[.ref wp,.int z,.ref a,.ref rp]∧jd P w t H wp n ws∧Rk P w H a o∧H rp=some (.tup (ac r))∧r.length ≤ 12∧Px (Lb n ws) o∧Jx n ws∧NoT H∧Q (.bl (fg (Lb n ws) z o r)) H
end
section
variable {P:Program} {w:World} {K:PySem.W.Frag} {mg:Str→Option Value} {base:Heap} {t:Adr}
theorem HM (T:Txt w K mg t):Ub P w K mg base CX0 2 t.wf t.Gf q19 (PK P w t):=by
 have key:Ub P w K mg base CX0 2 t.wf t.Gf q19 (fun vs H Q _=>∃ wp z a rp o r n ws,vs=[.ref wp,.int z,.ref a,.ref rp]∧jd P w t H wp n ws∧Rk P w H a o∧H rp=some (.tup (ac r))∧r.length ≤ 12∧Px (Lb n ws) o∧Jx n ws∧NoT H∧∀ H',Sb H H'→Q (.bl (fg (Lb n ws) z o r)) H'):=by
  have g13:Ub P w K mg base CX0 1 t.ud t.qd q8 (EA P w):=OG T;have g24:Ub P w K mg base CX0 1 t.Xd t.ce q18 (WF P w t):=bJ T;refine T.Wh.ok Xe (fun vs H Q E h=>?_) (fun _ _ _ s H vs Q E hr h=>?_)
  ·obtain ⟨wp,z,a,rp,o,r,n,ws,rfl,_⟩:=h;rfl
  obtain ⟨wp,z,a,rp,o,r,n,ws,rfl,W,O,hrp,hlen,ok,wk,nt,q⟩:=h;refine ⟨_,(fb (Pc (PW.pt (gr (Ob av (qc bc rfl T.Ci ic (ab (pv 3) jb)) gb (Vb _)) (wn (Ob av (qc ZF rfl T.Ci ic (ab (Hg (dG rfl) rfl T.sP vC (ab (pv 3) jb)) jb)) (qc bc rfl T.Ci ic (ab (pv 3) jb)) (Vb _))))) (lb (Fb Tl)) Rb)
   (fb (yb (i:=4) Xe.nd gb)
   (fb (Bf PassesOwn.never rfl (AI rfl T.og (ab (pv 3) jb)) (Xf (K:=K) (n:=2) rfl rfl (vc (Ib (i:=5) Xe.nd) (vc (Ib (i:=6) Xe.nd) Yf))) (fb (yb (i:=7) Xe.nd (Ab Jb (pv 3) (Kb Ig (Kb fc (pv 5) gb) (qc bc rfl T.Ci ic (ab (pv 3) jb)))))
   (fb (Pc (Uk (Vh (qb g13 hr T.Fh T.Ee.kp T.Eh (ab (pv 2) (ab (pv 6) (ab (pv 7) jb)))))) (lb (Fb Tl)) Rb)
   (lb (rJ (i:=4) Xe.nd rfl (Or.inl rfl) (qb g24 hr T.yk T.Zf.kp T.zk (ab (pv 0) (ab (pv 1) (ab (pv 2) (ab (pv 6) (ab (pv 7) jb)))))) iK)))))
   (lb (Fb (ae Pm (pv 4) gb (Vb _))))))),?_⟩
  have hlen2:(ac r).length ≤ 1000:=by rw [lc];omega
  simp only [xb];refine qf (fun b H'=>Sb H H'∧NoT H'∧b = !(decide (2 ≤ r.length) && decide r.Nodup)) (fun Q hQ=>?_) (fun H1 zz=>?_) (fun H1 zz=>?_)
  ·walk_at "RD";refine ⟨_,.inr (SqT.of hrp),?_⟩;rw [lc];by_cases h2:2 ≤ r.length
   ·rw [if_neg (by rw [decide_eq_true_eq];omega)];refine ⟨_,(Xt r) ▸ hrp,by rw [List.length_map];omega,fun p S k hk hk2 hp=>⟨S,k,ib,hk2,_,.inr ((SqT.of hrp).same (db hp)),hQ _ _ ⟨db hp,nt.upd,?_⟩⟩⟩;rw [List.length_map,qI] at hk;rw [lc,decide_eq_true h2,Bool.true_and];by_cases hd:r.Nodup
    ·rw [decide_eq_true hd];exact decide_eq_false fun g=>hk.mp (by omega) hd
    ·rw [decide_eq_false hd];have:=hk.mpr hd;exact decide_eq_true (by omega)
   ·rw [if_pos (by rw [decide_eq_true_eq];omega)];refine hQ _ _ ⟨Sb.refl _,nt,?_⟩;rw [decide_eq_false h2];rfl
  ·obtain ⟨s1,n1,zb⟩:=zz;walk_at "RD";have hc:(decide (2 ≤ r.length) && decide r.Nodup)=false:=by rw [← Bool.not_not (decide (2 ≤ r.length) && decide r.Nodup),← zb];rfl
   have:=q H1 s1;rw [show fg (Lb n ws) z o r=false by unfold fg;rw [hc];rfl] at this;exact this
  obtain ⟨s1,n1,zb⟩:=zz;have hc:(decide (2 ≤ r.length) && decide r.Nodup)=true:=by rw [← Bool.not_not (decide (2 ≤ r.length) && decide r.Nodup),← zb];rfl
  rw [Bool.and_eq_true,decide_eq_true_eq,decide_eq_true_eq] at hc;have hne:r ≠ []:=fun g=>by rw [g] at hc;exact absurd hc.1 (by decide)
  simp only [Xb,xb];(walk_at "RD"; repeat (dsimp only [pJ];walk_at "RD"));have rp1:=s1 _ _ hrp;refine ⟨⟨_,SqT.of rp1⟩,?_⟩;refine nk.of (n:=r.length) (fun i σ H'=>Sb H1 H'∧NoT H'∧Pp o (Ks r i)=true∧∃ x y u,σ=[some (.ref wp),some (.int z),some (.ref a),some (.ref rp),some (.int (pwO (Lb n ws) z o (Ks r i))),x,y,u]) ?_ ?_ ?_ ?_ ?_
  ·rw [oF hne];exact ⟨Sb.refl _,n1,rfl,_,_,_,rfl⟩
  ·rintro i σ H2 hi ⟨s2,_⟩;exact ⟨_,_,SqT.of (s2 _ _ rp1),List.getElem?_eq_getElem (by rw [lc];exact hi)⟩
  ·rintro σ H2 ⟨s2,_⟩;exact ⟨_,SqT.of (s2 _ _ rp1),lc r⟩
  ·rintro i σ H2 v H3 hi ⟨s2,n2,al,x,y,u,rfl⟩ ⟨p,y',hp,rfl,hy,rfl⟩;have hy':=hy _ (SqT.of (s2 _ _ rp1));obtain ⟨k,hk,rfl⟩:=Kz hy';obtain ⟨pr,ep1,ep2⟩:=Qw hk;have s3:=s2.trans (db (o:=.tup [.int i,.int (k:Int)]) hp);have n3:NoT (upd H2 p (.tup [.int i,.int (k:Int)])):=n2.upd;refine uh ?_;simp only [xb,List.set_cons_succ,List.set_cons_zero];generalize upd H2 p (.tup [.int i,.int (k:Int)])=H4 at s3 n3 ⊢;have rp4:=s3 _ _ rp1;have W4:=W.same (s1.trans s3);have O4:Rk P w H4 a o:=Yb O (s1.trans s3);have hm:(i + 1) % r.length < r.length:=Nat.mod_lt _ (by omega);walk_at "RD";refine ⟨_,.inr (SqT.of rp4),by rw [lc];omega,_,SqT.of rp4,V.int (Gx r i:Nat),?_,?_⟩
   ·rw [lc,show ((i:Int) + 1) % (r.length:Int)=(((i + 1) % r.length:Nat):Int) by rw [Int.natCast_emod];rfl];refine wb ?_;unfold ac Gx;rw [List.getElem?_map,List.getElem?_eq_getElem hm];rfl
   have eA:Pp o (Ks r (i + 1))=inO o k (Gx r i):=by rw [ep2,iy,← ep1,al];simp [Pp]
   have eP:pwO (Lb n ws) z o (Ks r (i + 1))=pwO (Lb n ws) z o (Ks r i) + wtO (Lb n ws) z o k (Gx r i):=by rw [ep2,Si,← ep1];simp [pwO]
   refine Mb (!inO o k (Gx r i)) (fun Q hQ=>?_) (fun hb=>?_) (fun hb=>?_)
   ·walk_at "RD";exact ⟨a,k,Gx r i,o,rfl,O4,n3,_,rfl,hQ⟩
   ·walk_at "RD";have:=q H4 (s1.trans s3);rw [show fg (Lb n ws) z o r=false by unfold fg;rw [YA o (i:=i + 1) (by omega) (by rw [eA];simpa using hb),Bool.and_false,Bool.false_and]] at this;exact this
   ·have hb':inO o k (Gx r i)=true:=by simpa using hb
    simp only [Xb];walk_at "RD";refine ⟨wp,z,a,k,Gx r i,o,n,ws,rfl,W4,O4,ok.in_e wk.ok hb',n3,?_⟩;exact ⟨_,_,rfl,rfl,s3,n3,by rw [eA];exact hb',by rw [eP],_,rfl⟩
  ·rintro σ H2 zzq;refine zzP fun zzM zzh=>?_
   obtain ⟨s2,n2,al,x,y,u,rfl⟩:=zzq;subst zzh;rw [uv hne] at al;walk_at "RD";have:=q H2 (s1.trans s2);rw [show fg (Lb n ws) z o r=decide (0 < pwO (Lb n ws) z o (r ++ r.take 1)) by unfold fg;rw [decide_eq_true hc.1,decide_eq_true hc.2,al];rfl] at this;rw [uv hne];exact this
 exact key.forget fun vs H Q E h=>by
  obtain ⟨wp,z,a,rp,o,r,n,ws,e,W,O,hrp,hlen,ok,wk,nt,q⟩:=h;exact ⟨nt,wp,z,a,rp,o,r,n,ws,e,W,O,hrp,hlen,ok,wk,nt,fun H' sm=>⟨sm,q⟩⟩
end
end My
namespace My
open PySem L2
noncomputable def Ed (H:Hp) (qs:List Addr) (ps:List (List Nat)):Prop:=qs.length=ps.length∧∀ (i:Nat) (q:Addr) (p:List Nat),qs[i]? = some q→ps[i]? = some p→H q=some (.tup (ac p))
noncomputable def Ay (H:Hp) (l:Addr) (ps:List (List Nat)):Prop:=∃ qs:List Addr,H l=some (.lst (qs.map V.ref))∧Ed H qs ps
theorem Ed.same {H H':Hp} {qs:List Addr} {ps:List (List Nat)} (h:Ed H qs ps) (s:Sb H H'):Ed H' qs ps:=⟨h.1,fun i q p h1 h2=>s _ _ (h.2 i q p h1 h2)⟩
theorem Ed.nil (H:Hp):Ed H [] []:=⟨rfl,fun i q p h=>by simp at h⟩
theorem Ed.app {H:Hp} {qs rs:List Addr} {ps us:List (List Nat)} (h:Ed H qs ps) (g:Ed H rs us):Ed H (qs ++ rs) (ps ++ us):=by
 refine ⟨by rw [List.length_append,List.length_append,h.1,g.1],fun i q p h1 h2=>?_⟩;by_cases hi:i < qs.length
 ·rw [List.getElem?_append_left hi] at h1;rw [List.getElem?_append_left (by rw [← h.1];exact hi)] at h2;exact h.2 i q p h1 h2
 ·rw [List.getElem?_append_right (by omega)] at h1;rw [List.getElem?_append_right (by rw [← h.1];omega),← h.1] at h2;exact g.2 _ q p h1 h2
theorem Ed.one {H:Hp} {q:Addr} {p:List Nat} (h:H q=some (.tup (ac p))):Ed H [q] [p]:=by
 refine ⟨rfl,fun i q' p' h1 h2=>?_⟩;cases i with
 | zero=>cases h1;cases h2;exact h
 | succ i=>simp at h1
theorem Ed.put {H:Hp} {qs:List Addr} {ps:List (List Nat)} {f:Addr} {xs:List V} {o:HO} (h:Ed H qs ps) (hf:H f=some (.lst xs)):Ed (upd H f o) qs ps:=
 ⟨h.1,fun i q p h1 h2=>by
  have e:=h.2 i q p h1 h2;rw [Eb (fun z=>by rw [z,hf] at e;cases e)];exact e⟩
theorem Ay.same {H H':Hp} {l:Addr} {ps:List (List Nat)} (h:Ay H l ps) (s:Sb H H'):Ay H' l ps:=by
 obtain ⟨qs,e,t⟩:=h;exact ⟨qs,s _ _ e,t.same s⟩
noncomputable def Co (S:Sys) (p:List Nat) (i:Nat):List Nat:=((List.range i).map fun k=>p.headD 0 + 1 + k).filter fun v=>S.e (Zl p) v
theorem eu (S:Sys) (p:List Nat) (i:Nat):Co S p (i + 1)=Co S p i ++ (if S.e (Zl p) (p.headD 0 + 1 + i) then [p.headD 0 + 1 + i] else []):=by
 unfold Co;rw [List.range_succ,List.map_append,List.filter_append,List.map_cons,List.map_nil,List.filter_cons,List.filter_nil]
theorem bw (S:Sys) (p:List Nat) (i:Nat):(Co S p i).length ≤ i:=by
 unfold Co;refine Nat.le_trans (List.length_filter_le ..) ?_;rw [List.length_map,List.length_range];exact Nat.le_refl _
theorem ku {p:List Nat} (h:p ≠ []):atI (ac p) (-1)=some (.int (Zl p:Nat)):=by
 have h0:0 < p.length:=List.length_pos_iff.mpr h;obtain ⟨a,u,rfl⟩:∃ a u,p=a ++ [u]:=by
  rcases List.eq_nil_or_concat p with q | ⟨a,u,q⟩
  ·exact absurd q h
  ·exact ⟨a,u,by rw [q,List.concat_eq_append]⟩
 rw [Bt];unfold atI ixN;rw [lc,if_neg (by decide),if_pos (by omega)];rw [List.length_append] at h0 ⊢;rw [show ((-1:Int) + ((a.length + [u].length:Nat):Int)).toNat=a.length by simp;omega];unfold ac;rw [Option.bind_some,List.getElem?_map,List.getElem?_append_right (Nat.le_refl _),Nat.sub_self];rfl
theorem tE (b:Nat) (l:List Nat):inV (.int (b:Int)) (ac l)=decide (b ∈ l):=by
 unfold inV ac;rw [List.any_map,Bool.eq_iff_iff];simp only [List.any_eq_true,Function.comp,eqV,beq_iff_eq,decide_eq_true_eq];constructor
 ·rintro ⟨y,hy,e⟩;rw [← Int.ofNat.inj e];exact hy
 ·intro h;exact ⟨b,h,rfl⟩
theorem yF {S:Sys} {ps:List (List Nat)} {i:Nat} {p:List Nat} (h:ps[i]? = some p):(ps.take (i + 1)).flatMap (VC S)=(ps.take i).flatMap (VC S) ++ VC S p:=by
 rw [List.take_add_one,h,List.flatMap_append];simp
section
variable (P:Program) (w:World)
noncomputable def lJ (t:Adr):Sp:=fun vs H Q _=>∃ wp pl n ws ps,vs=[.ref wp,.ref pl]∧jd P w t H wp n ws∧Ay H pl ps∧(∀ p ∈ ps,p ≠ []∧p.length ≤ 6∧∀ x ∈ p,x < ws.length)∧ps.length ≤ 280000∧Jx n ws∧NoT H ∧
 ∀ r H',Sb H H'→NoT H'→H r=none→Ay H' r (ps.flatMap (VC (Lb n ws)))→Q (.ref r) H'
end
section
variable {P:Program} {w:World} {K:PySem.W.Frag} {mg:Str→Option Value} {base:Heap} {t:Adr}
theorem VM (T:Txt w K mg t):Ub P w K mg base CX0 1 t.Ld t.Gd q40 (lJ P w t):=by
 refine T.Je.ok vd (fun vs H Q E h=>?_) (fun _ _ _ s H vs Q E hr h=>?_)
 ·obtain ⟨wp,pl,n,ws,ps,rfl,_⟩:=h;rfl
 obtain ⟨wp,pl,n,ws,ps,rfl,W,L,hps,hpl,wk,nt,q⟩:=h;obtain ⟨dx,al,sd,e1,e2,D⟩:=id W;obtain ⟨qs,l1,l2,l3⟩:=id L;have hu:=Xl hr;have hws:=wk.2.1;refine ⟨_,(fb (yb (i:=2) vd.nd (Pf jb))
   (fb (Bf PassesOwn.never rfl (ng (pv 1)) (bz (i:=3) vd.nd rfl (Or.inr rfl)) (fb (gg (i:=4) vd.nd rfl (Or.inl rfl) rfl (ir rfl T.uf (ab (Kb fc (Ab Jb (pv 3) gb) gb) (ab (uc (pv 0) rfl) jb))) (Cc (sc:=ub Hd) rfl (by decide +kernel)) (N:=["want","path","wanted"]) (sel:=[none,some 3,some 0]) (Vc (M:=q53) (by decide +kernel)) (Blk.of (fun _ _ _ _=>(Ib (i:=0) (oh (N:=["want","path","wanted"]) (by decide +kernel) rfl))) (fun _ _ _ _=>⟨_,(Qq (gu (fu hu (wc (ab (Ab Jb (pv 1) (JK kE gb)) (ab (pv 0) jb))) (uc (pv 2) rfl)))),by walk_at "B"⟩) (fun _ _ _ _=>⟨_,(pv 0),by walk_at "B"⟩)) rfl)
   (lb (Ge (Fp PySem.F.plainAttrs_list PySem.F.slot_list_extend PySem.F.type_list_extend jx (pv 2) (ab (cg rfl (ng (pv 4)) (Cc (sc:=ub Hd) rfl (by decide +kernel)) (N:=["want","path"]) (sel:=[none,some 3]) (Vc (M:=q53) (by decide +kernel)) (Blk.of (fun _ _ _ _=>(Ib (i:=0) (oh (N:=["want","path"]) (by decide +kernel) rfl))) (fun _ _ _ _=>⟨_,(Qq (Ob Yo (pv 0) (pv 1) (by with_unfolding_all rfl))),by walk_at "B"⟩) (fun _ _ _ _=>⟨_,(Kb cz (pv 1) (wc (ab (pv 0) jb))),by walk_at "B"⟩))) jb))))))
   (lb (Fb (pv 2))))),?_⟩
 walk_at "RD";refine ⟨by decide,fun f hf=>⟨⟨_,SqL.of ((db hf) _ _ l1)⟩,?_⟩⟩;refine nk.list (xs:=qs.map V.ref) (fun i σ H'=>Sb H H'∧NoT H'∧Ay H' f ((ps.take i).flatMap (VC (Lb n ws)))∧∃ x y,σ=[some (.ref wp),some (.ref pl),some (.ref f),x,y]) ?_ ?_ ?_ ?_
 ·exact ⟨db hf,nt.upd,⟨[],ib,Ed.nil _⟩,_,_,rfl⟩
 ·rintro i σ H' hi ⟨s1,_⟩;exact SqL.of (s1 _ _ l1)
 ·rintro i v σ H1 hv zzq;refine zzP fun zzM zzh=>?_
  obtain ⟨s1,n1,⟨fs,f1,f2⟩,x,y,rfl⟩:=zzq;obtain ⟨qi,hqi,rfl⟩:=Og hv;have hi:i < ps.length:=by rw [← l2];exact (List.getElem?_eq_some_iff.mp hqi).1
  have hpi:ps[i]? = some ps[i]:=List.getElem?_eq_getElem hi;have hq:=l3 i qi _ hqi hpi;obtain ⟨hne,hp6,hpw⟩:=hps _ (List.mem_of_getElem? hpi);subst zzh;generalize ps[i]=p at hpi hq hne hp6 hpw;have D1:=Yb D s1;simp only [xb];walk_at "RD";have hh:p.headD 0 < ws.length:=by
   cases p with
   | nil=>exact absurd rfl hne
   | cons x p=>exact hpw x (List.mem_cons_self ..)
  refine ⟨_,SqT.of (s1 _ _ hq),V.int (p.headD 0:Nat),?_,_,rfl,_,Vi T (s1 _ _ e1),_,rfl,by omega,by omega,by omega,by omega,?_⟩
  ·cases p with
   | nil=>exact absurd rfl hne
   | cons x p=>exact wb (j:=0) rfl
  rw [show ((ws.length:Int) - ((p.headD 0:Nat) + 1)).toNat=ws.length - (p.headD 0 + 1) by omega];refine bd.range (fun i ys H'=>Sb H1 H'∧NoT H'∧ys=ac (Co (Lb n ws) p i)) (Nat.le_trans (show ws.length - (p.headD 0 + 1) ≤ 6 by omega) (by decide)) ⟨Sb.refl _,n1,rfl⟩ (fun i ys H' hi ⟨_,_,e⟩=>by rw [e,lc];exact bw ..) ?_ ?_
  ·rintro k ys H2 hk ⟨s2,n2,rfl⟩ N hN;walk_at "RD";rw [show (p.headD 0:Int) + 1 + (k:Int)=((p.headD 0 + 1 + k:Nat):Int) by omega];refine ⟨Sub.name,_,SqT.of ((s1.trans s2) _ _ hq),_,ku hne,by decide,fun tp htp=>⟨_,ve T (db htp _ _ ((s1.trans s2) _ _ e1)),sd,rfl,_,Yb (Yb D (s1.trans s2)) (db htp),lf (Zl p) (p.headD 0 + 1 + k),ib,?_⟩⟩;rw [Fu];have s4:=s2.trans (db (o:=.tup [V.int ((Zl p:Nat):Int),V.int ((p.headD 0 + 1 + k:Nat):Int)]) htp);cases he:(Lb n ws).e (Zl p) (p.headD 0 + 1 + k) with
   | true=>
    refine hN _ _ ⟨s4,n2.upd,?_⟩;rw [eu,he];unfold ac;rw [if_pos rfl,List.map_append];rfl
   | false=>
    refine hN _ _ ⟨s4,n2.upd,?_⟩;rw [eu,he,if_neg Bool.false_ne_true,List.append_nil]
  ·rintro ys H2 ⟨s2,n2,rfl⟩ nr hnr;have s3:=s2.trans (db (o:=.lst (ac (Co (Lb n ws) p (ws.length - (p.headD 0 + 1))))) hnr);have n3:NoT (upd H2 nr (.lst (ac (Co (Lb n ws) p (ws.length - (p.headD 0 + 1)))))):=n2.upd;have e3:(upd H2 nr (.lst (ac (Co (Lb n ws) p (ws.length - (p.headD 0 + 1)))))) nr=some (.lst (ac (Co (Lb n ws) p (ws.length - (p.headD 0 + 1))))):=ib;generalize upd H2 nr (.lst (ac (Co (Lb n ws) p (ws.length - (p.headD 0 + 1)))))=H3 at s3 n3 e3 ⊢;have hnl:=bw (Lb n ws) p (ws.length - (p.headD 0 + 1));rw [yF hpi];refine ⟨.inl ⟨_,SqL.of (s3 _ _ f1)⟩,nr,rfl,⟨_,SqL.of e3⟩,?_⟩;rw [show VC (Lb n ws) p=((Co (Lb n ws) p (ws.length - (p.headD 0 + 1))).filter fun v=>decide (v ∉ p)).map fun v=>p ++ [v] from rfl];generalize Co (Lb n ws) p (ws.length - (p.headD 0 + 1))=nr at e3 hnl ⊢;refine bd.list (xs:=ac nr) (fun i ys H'=>Sb H3 H'∧NoT H'∧∃ rs:List Addr,ys=rs.map V.ref∧Ed H' rs (((nr.take i).filter fun v=>decide (v ∉ p)).map fun v=>p ++ [v])) (by rw [lc];exact Nat.le_trans (show nr.length ≤ 6 by omega) (by decide)) ⟨Sb.refl _,n3,[],rfl,Ed.nil _⟩ ?_ ?_ ?_
   ·rintro i ys H' hi zzq;refine zzP fun zzM zzh=>?_
    obtain ⟨s4,n4,rs,rfl,t4⟩:=zzq;subst zzh;refine ⟨SqL.of (s4 _ _ e3),?_⟩;rw [List.length_map,t4.1,List.length_map];refine Nat.le_trans (List.length_filter_le ..) ?_;rw [List.length_take];omega
   ·rintro k v ys H4 hv ⟨s4,n4,rs,rfl,t4⟩ N hN;obtain ⟨u,hu',rfl⟩:=Kz hv;walk_at "RD";have q4:=(s1.trans (s3.trans s4)) _ _ hq;refine ⟨Sub.name,_,.inr (SqT.of q4),rfl,?_,?_⟩
    ·refine List.all_eq_true.mpr fun x hx=>?_
     obtain ⟨y,_,rfl⟩:=List.mem_map.mp hx;rfl
    have et:nr.take (k + 1)=nr.take k ++ [u]:=by rw [List.take_add_one,hu'];rfl
    rw [tE];by_cases hup:u ∈ p
    ·rw [decide_eq_true hup,if_neg (by decide)];refine hN _ _ ⟨s4,n4,rs,rfl,?_⟩;rw [et,List.filter_append,List.filter_cons,decide_eq_false (fun z=>z hup),if_neg Bool.false_ne_true,List.filter_nil,List.append_nil];exact t4
    ·rw [decide_eq_false hup,if_pos (by decide)];refine ⟨by decide,fun tp htp=>⟨_,SqT.of (db htp _ _ q4),_,SqT.of ib,(fun z=>hne (by unfold ac at z;exact List.map_eq_nil_iff.mp z)),Nat.le_trans (show (ac p).length + 1 ≤ 7 by rw [lc];omega) (by decide),(fun z=>by cases z),fun _ tq htq=>hN _ _ ⟨?_,?_,rs ++ [tq],by rw [List.map_append];rfl,?_⟩⟩⟩
     ·exact (s4.trans (db htp)).trans (db htq)
     ·exact (n4.upd).upd
     ·rw [et,List.filter_append,List.filter_cons,decide_eq_true hup,if_pos rfl,List.filter_nil,List.map_append];refine (t4.same ((db htp).trans (db htq))).app (Ed.one ?_);rw [ib];unfold ac;rw [List.map_append];rfl
   ·rintro ys H4 ⟨s4,n4,rs,rfl,t4⟩ rl hrl;have s5:=(s3.trans s4).trans (db (o:=.lst (rs.map V.ref)) hrl);have f5:=s5 _ _ f1;rw [lc,List.take_length] at t4;have hfl:fs.length ≤ 280000 * 6:=by
     rw [f2.1];refine Nat.le_trans (gA (c:=6) (fun p=>Nat.le_trans (Az p) hws) _) (Nat.mul_le_mul_right _ ?_);rw [List.length_take];omega
    have hrs:rs.length ≤ 6:=by
     rw [t4.1,List.length_map];exact Nat.le_trans (List.length_filter_le ..) (by omega)
    refine ⟨_,rfl,_,f5,_,ib,?_,?_,?_,⟨fs ++ rs,by rw [ib,List.map_append],?_⟩,_,rfl⟩
    ·rw [List.length_map,List.length_map];exact Nat.le_trans (show fs.length + rs.length ≤ 1680006 by omega) (by decide)
    ·exact (s1.trans s5).updN hf
    ·exact (n4.upd).upd
    ·exact ((f2.same s5).app (t4.same (db hrl))).put f5
 ·rintro σ H1 zzq;refine zzP fun zzM zzh=>?_
  obtain ⟨s1,n1,L1,x,y,rfl⟩:=zzq;subst zzh;walk_at "RD";rw [List.length_map,l2,List.take_length] at L1;exact q f H1 s1 n1 hf L1
end
theorem LC {S:Sys} (hm:S.m ≤ 6):∀ k,k ≤ 6→(ph S k).length ≤ k * 279936:=by
 intro k
 induction k with
 | zero=>intro _;exact Nat.le_refl _
 | succ k ih=>
  intro hk;unfold ph;rw [List.length_append];have h1:=ih (by omega);have h2:=Nat.le_trans (List.length_filter_le (clR S) (lev S (k + 1))) (DG (S:=S) (k + 1));have h3:S.m ^ (k + 1 + 1) ≤ 6 ^ 7:=Nat.le_trans (Nat.pow_le_pow_left hm _) (Nat.pow_le_pow_right (by decide) (by omega));omega
theorem Ed.at {H:Hp} {qs:List Addr} {ps:List (List Nat)} (h:Ed H qs ps) {i:Nat} {q:Addr} (hq:qs[i]? = some q):∃ p,ps[i]? = some p∧H q=some (.tup (ac p)):=by
 have hi:i < ps.length:=by rw [← h.1];exact (List.getElem?_eq_some_iff.mp hq).1
 exact ⟨_,List.getElem?_eq_getElem hi,h.2 i q _ hq (List.getElem?_eq_getElem hi)⟩
section
variable (P:Program) (w:World)
noncomputable def gJ (t:Adr):Sp:=fun vs H Q _=>∃ wp n ws,vs=[.ref wp]∧jd P w t H wp n ws∧Jx n ws∧NoT H ∧
 ∀ r H' k,Sb H H'→NoT H'→lev (Lb n ws) k=[]→k ≤ 6→Ay H' r (ph (Lb n ws) k)→Q (.ref r) H'
end
section
variable {P:Program} {w:World} {K:PySem.W.Frag} {mg:Str→Option Value} {base:Heap} {t:Adr}
theorem EN (T:Txt w K mg t):Ub P w K mg base CX0 2 t.Kl t.Ql ["wanted"] (gJ P w t):=by
 have g51:Ub P w K mg base CX0 1 t.Ld t.Gd q40 (lJ P w t):=VM T;refine T.Uo.ok Fj (fun vs H Q E h=>?_) (fun _ _ _ s H vs Q E hr h=>?_)
 ·obtain ⟨wp,n,ws,rfl,_⟩:=h;rfl
 obtain ⟨wp,n,ws,rfl,W,wk,nt,q⟩:=h;obtain ⟨dx,al,sd,e1,e2,D⟩:=id W;have hu:=Xl hr;have hws:=wk.2.1;have hm:(Lb n ws).m ≤ 6:=hws;refine ⟨_,(fb (yb (i:=1) Fj.nd (Pf jb))
   (fb (gg (i:=2) Fj.nd rfl (Or.inl rfl) rfl (me rfl T.uf (ab (uc (pv 0) rfl) jb)) (Cc (sc:=ub Jl) rfl (by decide +kernel)) (N:=["want"]) (sel:=[none]) (Vc (M:=q54) (by decide +kernel)) (Blk.of (fun _ _ _ _=>(Ib (i:=0) (oh (N:=["want"]) (by decide +kernel) rfl))) (fun _ _ _ _=>⟨_,sf,by walk_at "B"⟩) (fun _ _ _ _=>⟨_,(wc (ab (pv 0) jb)),by walk_at "B"⟩)) rfl)
   (fb (xB PassesOwn.never (Gz (pv 2) (fun _=>rfl)) (fb (yb (i:=2) Fj.nd (qb g51 hr T.Lk T.Je.kp T.Zk (ab (pv 0) (ab (pv 2) jb))))
   (lb (Ge (Fp PySem.F.plainAttrs_list PySem.F.slot_list_extend PySem.F.type_list_extend jx (pv 1) (ab (cg rfl (ng (pv 2)) (Cc (sc:=ub Jl) rfl (by decide +kernel)) (N:=["path","wanted"]) (sel:=[none,some 0]) (Vc (M:=q54) (by decide +kernel)) (Blk.of (fun _ _ _ _=>(Ib (i:=0) (oh (N:=["path","wanted"]) (by decide +kernel) rfl))) (fun _ _ _ _=>⟨_,(Qq (gu (fu hu (wc (ab (Ab Jb (pv 0) (JK kE gb)) (ab (Ab Jb (pv 0) gb) jb))) (uc (pv 1) rfl)))),by walk_at "B"⟩) (fun _ _ _ _=>⟨_,(pv 0),by walk_at "B"⟩))) jb))))))
   (lb (Fb (pv 1)))))),?_⟩
 walk_at "RD";refine ⟨by decide,fun f hf=>⟨_,Vi T ((db hf) _ _ e1),_,rfl,by omega,by omega,?_⟩⟩;rw [show ((ws.length:Int)).toNat=ws.length by omega];have sA:Sb H (upd H f (.lst [])):=db hf;have nA:NoT (upd H f (.lst [])):=nt.upd;have fA:(upd H f (.lst [])) f=some (.lst []):=ib;generalize upd H f (.lst [])=HA at sA nA fA ⊢;refine bd.range (fun i ys H'=>Sb HA H'∧NoT H'∧∃ rs:List Addr,ys=rs.map V.ref∧Ed H' rs ((List.range i).map fun k=>[k])) (Nat.le_trans hws (by decide)) ⟨Sb.refl _,nA,[],rfl,Ed.nil _⟩ (fun i ys H' hi ⟨_,_,rs,e,t'⟩=>by rw [e,List.length_map,t'.1,List.length_map,List.length_range];exact Nat.le_refl _) ?_ ?_
 ·rintro i ys H1 hi ⟨s1,n1,rs,rfl,t1⟩ N hN;walk_at "RD";refine ⟨Sub.name,by decide,fun tp htp=>hN _ _ ⟨s1.trans (db htp),n1.upd,rs ++ [tp],by rw [List.map_append];rfl,?_⟩⟩;rw [List.range_succ,List.map_append];refine (t1.same (db htp)).app (Ed.one ?_);rw [ib];rfl
 rintro ys H1 ⟨s1,n1,rs,rfl,t1⟩ pl hpl;have s2:=s1.trans (db (o:=.lst (rs.map V.ref)) hpl);have n2:NoT (upd H1 pl (.lst (rs.map V.ref))):=n1.upd;have L2':Ay (upd H1 pl (.lst (rs.map V.ref))) pl (lev (Lb n ws) 0):=⟨rs,ib,t1.same (db hpl)⟩;generalize upd H1 pl (.lst (rs.map V.ref))=H2 at s2 n2 L2' ⊢;refine ⟨fun j σ H'=>∃ k pl',j=6 - k∧k ≤ 6∧Sb H H'∧NoT H'∧Ay H' f (ph (Lb n ws) k)∧Ay H' pl' (lev (Lb n ws) k)∧pl' ≠ f∧σ=[some (.ref wp),some (.ref f),some (.ref pl')],⟨6,0,pl,rfl,Nat.zero_le _,sA.trans s2,n2,⟨[],s2 _ _ fA,Ed.nil _⟩,L2',Ne.symm (Nb (s1 _ _ fA) hpl),rfl⟩,?_⟩;rintro j σ H3 zzq;refine zzP fun zzM zzh=>?_
 obtain ⟨k,pl',rfl,hk,s3,n3,F3,L3,hne,rfl⟩:=zzq;obtain ⟨qs,q1,q2⟩:=id L3;obtain ⟨fs,f1,f2⟩:=id F3;subst zzh;walk_at "RD";refine ⟨!(qs.map V.ref).isEmpty,.inl ⟨_,SqL.of q1,rfl⟩,?_⟩;by_cases he:lev (Lb n ws) k=[]
 ·have hq0:qs=[]:=List.length_eq_zero_iff.mp (by rw [q2.1,he];rfl);rw [hq0,if_neg (by decide)];exact q f H3 k s3 n3 he hk F3
 have hq0:qs ≠ []:=fun z=>by
  have:=q2.1;rw [z] at this;exact he (List.length_eq_zero_iff.mp this.symm)
 have hk6:k < 6:=by
  rcases Nat.lt_or_ge k 6 with z | z
  ·exact z
  ·have:=JA (LK (S:=Lb n ws)) (k - (Lb n ws).m);rw [show (Lb n ws).m + (k - (Lb n ws).m)=k by omega] at this;exact absurd this he
 rw [if_pos (by cases qs with | nil=>exact absurd rfl hq0 | cons x l=>rfl)];have hlen:∀ k,k ≤ 6→(lev (Lb n ws) k).length ≤ 279936:=fun k hk=>Nat.le_trans (DG k) (Nat.le_trans (Nat.pow_le_pow_left hm _) (Nat.pow_le_pow_right (n:=6) (by decide) (show k + 1 ≤ 7 by omega)))
 refine ⟨fun σ' H'=>∃ x,Sb H H'∧NoT H'∧Ay H' f (ph (Lb n ws) (k + 1))∧Ay H' x (lev (Lb n ws) (k + 1))∧x ≠ f∧σ'=[some (.ref wp),some (.ref f),some (.ref x)],fun σ' H' z=>?_,?_⟩
 ·obtain ⟨x,z1,z2,z3,z4,z5,z6⟩:=z;exact ⟨6 - (k + 1),by omega,k + 1,rfl,by omega,z1,z2,z3,x,z4,z5,z6⟩
 refine ⟨wp,pl',n,ws,lev (Lb n ws) k,rfl,W.same s3,L3,fun p hp=>?_,?_,wk,n3,fun r H4 s4 n4 hr4 L4=>?_⟩
 ·obtain ⟨g1,g2,g3⟩:=GA _ _ hp;refine ⟨?_,by omega,g3⟩;intro z;rw [z] at g1;cases g1
 ·have:=hlen k hk;omega
 obtain ⟨us,u1,u2⟩:=id L4;have f4:=s4 _ _ f1;have hrf:r ≠ f:=fun z=>by rw [z,f1] at hr4;cases hr4
 refine ⟨.inl ⟨_,SqL.of f4⟩,r,rfl,⟨_,SqL.of u1⟩,?_⟩;have L4':Ed H4 us (lev (Lb n ws) (k + 1)):=u2;have hul:us.length ≤ 279936:=by rw [L4'.1];exact hlen _ (by omega)
 refine bd.list (xs:=us.map V.ref) (fun i ys H'=>Sb H4 H'∧NoT H'∧∃ rs:List Addr,ys=rs.map V.ref∧Ed H' rs (((lev (Lb n ws) (k + 1)).take i).filter (clR (Lb n ws)))) (by rw [List.length_map];exact Nat.le_trans hul (by decide)) ⟨Sb.refl _,n4,[],rfl,Ed.nil _⟩ ?_ ?_ ?_
 ·rintro i ys H' hi zzq;refine zzP fun zzM zzh=>?_
  obtain ⟨s5,n5,rs',rfl,t5⟩:=zzq;subst zzh;refine ⟨SqL.of (s5 _ _ u1),?_⟩;rw [List.length_map,t5.1];refine Nat.le_trans (List.length_filter_le ..) ?_;rw [List.length_take];omega
 ·rintro i v ys H5 hv ⟨s5,n5,rs',rfl,t5⟩ N hN;obtain ⟨qi,hqi,rfl⟩:=Og hv;obtain ⟨p,hp,hpq⟩:=L4'.at hqi;obtain ⟨g1,g2,g3⟩:=GA _ _ (List.mem_of_getElem? hp);have hpne:p ≠ []:=fun z=>by rw [z] at g1;cases g1
  have hp5:=s5 _ _ hpq;have s45:=s3.trans (s4.trans s5);have ef:((lev (Lb n ws) (k + 1)).take (i + 1)).filter (clR (Lb n ws))=((lev (Lb n ws) (k + 1)).take i).filter (clR (Lb n ws)) ++ (if clR (Lb n ws) p then [p] else []):=by
   rw [List.take_add_one,hp,List.filter_append];show _ ++ List.filter _ [p]=_;rw [List.filter_cons,List.filter_nil]
  walk_at "RD";refine ⟨Sub.name,_,SqT.of hp5,_,ku hpne,_,SqT.of hp5,V.int (p.headD 0:Nat),?_,by decide,fun tp htp=>⟨_,ve T (db htp _ _ (s45 _ _ e1)),sd,rfl,_,Yb (Yb D s45) (db htp),lf (Zl p) (p.headD 0),ib,?_⟩⟩
  ·cases p with
   | nil=>exact absurd rfl hpne
   | cons x p=>exact wb (j:=0) rfl
  rw [Fu];have s6:=s5.trans (db (o:=.tup [V.int ((Zl p:Nat):Int),V.int ((p.headD 0:Nat):Int)]) htp);have t6:=t5.same (db (o:=.tup [V.int ((Zl p:Nat):Int),V.int ((p.headD 0:Nat):Int)]) htp);cases hc:(Lb n ws).e (Zl p) (p.headD 0) with
  | true=>
   refine hN _ _ ⟨s6,n5.upd,rs' ++ [qi],by rw [List.map_append];rfl,?_⟩;rw [ef,show clR (Lb n ws) p=true from hc,if_pos rfl];exact t6.app (Ed.one (s6 _ _ hpq))
  | false=>
   refine hN _ _ ⟨s6,n5.upd,rs',rfl,?_⟩;rw [ef,show clR (Lb n ws) p=false from hc,if_neg Bool.false_ne_true,List.append_nil];exact t6
 ·rintro ys H5 ⟨s5,n5,rs',rfl,t5⟩ rl hrl;rw [List.length_map,L4'.1,List.take_length] at t5;have sr:=db (o:=.lst (rs'.map V.ref)) hrl;have f5:=sr _ _ (s5 _ _ f4);have hfl:fs.length ≤ 6 * 279936:=by rw [f2.1];exact Nat.le_trans (LC hm k hk) (Nat.mul_le_mul_right _ hk)
  have hrs:rs'.length ≤ 279936:=by
   rw [t5.1];exact Nat.le_trans (List.length_filter_le ..) (hlen _ (by omega))
  refine ⟨_,rfl,_,f5,_,ib,?_,r,?_,(n5.upd).upd,⟨fs ++ rs',by rw [ib,List.map_append],?_⟩,⟨us,?_,?_⟩,hrf,rfl⟩
  ·rw [List.length_map,List.length_map];exact Nat.le_trans (show fs.length + rs'.length ≤ 1959552 by omega) (by decide)
  ·exact (((s3.trans s4).trans s5).trans sr).updN hf
  ·exact ((f2.same ((s4.trans s5).trans sr)).app (t5.same sr)).put f5
  ·rw [Eb hrf];exact sr _ _ (s5 _ _ u1)
  ·exact ((L4'.same s5).same sr).put f5
end
end My
namespace My
open PySem L2
noncomputable def rf (S:Sys):Od:=(List.range S.m).flatMap fun i=>((List.range S.m).filter fun j=>S.e i j).map fun j=>(i,j)
theorem ll {S:Sys} {i j:Nat} (h:(i,j) ∈ rf S):S.e i j=true:=by
 obtain ⟨k,_,h⟩:=List.mem_flatMap.mp h;obtain ⟨l,hl,e⟩:=List.mem_map.mp h;cases e;exact (List.mem_filter.mp hl).2
theorem Cu {S:Sys} (k:S.Ok) {i j:Nat} (h:S.e i j=true):(i,j) ∈ rf S:=
 List.mem_flatMap.mpr ⟨i,List.mem_range.mpr (k.lt h).1,List.mem_map.mpr ⟨j,List.mem_filter.mpr ⟨List.mem_range.mpr (k.lt h).2.1,h⟩,rfl⟩⟩
theorem eM {n:Int} {ws:List (WD × Int)} {i:Nat} (hi:i < ws.length):∀ k,k ≤ ws.length→gj n ws i k=((List.range k).filter fun j=>(Lb n ws).e i j).map fun j=>(lf i j,V.int ((Lb n ws).st i j)):=by
 have hp:ws[i]? = some ws[i]:=List.getElem?_eq_getElem hi;intro k
 induction k with
 | zero=>intro _;rfl
 | succ k ih=>
  intro hk;have hq:ws[k]? = some ws[k]:=List.getElem?_eq_getElem (by omega);have hs:=Jm (n:=n) hp hq;rw [List.range_succ,List.filter_append,List.map_append,← ih (by omega),List.filter_cons,List.filter_nil];by_cases h:i ≠ k∧mt n ws[i].1 ws[k].1=true
  ·rw [uw hp hq h,hs.1,decide_eq_true h.1,h.2,if_pos (by rfl),List.map_cons,List.map_nil,hs.2]
  ·rw [Lv hp hq h,hs.1,if_neg (by simpa using h),List.map_nil,List.append_nil]
theorem xF {α β:Type} {f g:α→List β}:∀ {l:List α},(∀ x ∈ l,f x=g x)→l.flatMap f=l.flatMap g:=by
 intro l
 induction l with
 | nil=>intro _;rfl
 | cons x l ih=>intro h;rw [List.flatMap_cons,List.flatMap_cons,h x (List.mem_cons_self ..),ih fun y hy=>h y (List.mem_cons_of_mem _ hy)]
theorem Po (n:Int) (ws:List (WD × Int)):bg n ws ws.length=(rf (Lb n ws)).map fun p=>(lf p.1 p.2,V.int ((Lb n ws).st p.1 p.2)):=by
 unfold bg rf;rw [List.map_flatMap];refine xF fun i hi=>?_
 rw [eM (List.mem_range.mp hi) _ (Nat.le_refl _),List.map_map];rfl
theorem iE {n:Int} {ws:List (WD × Int)} (h:ws.length ≤ 6):(rf (Lb n ws)).length ≤ 36:=by
 have:=ow n ws ws.length;rw [Po,List.length_map] at this;exact Nat.le_trans this (Nat.mul_le_mul h h)
theorem Qu {H:Hp} {n:Int} {ws:List (WD × Int)} {xs:List (List Key × Addr × Value)} (r:Paired (fun (p:List Key × V) (q:List Key × Addr × Value)=>p.1=q.1∧H q.2.1=some (.tup (p.1.map kV))∧yd p.2 q.2.2) (bg n ws ws.length) xs) {i:Nat} {k:List Key} {b:Addr} {u:Value} (hx:xs[i]? = some (k,b,u)):∃ x y,(rf (Lb n ws))[i]? = some (x,y)∧H b=some (.tup [.int (x:Nat),.int (y:Nat)]):=by
 rw [Po] at r;have hi:i < ((rf (Lb n ws)).map fun p=>(lf p.1 p.2,V.int ((Lb n ws).st p.1 p.2))).length:=by rw [Yp r];exact (List.getElem?_eq_some_iff.mp hx).1
 obtain ⟨q,hq,z1,z2,z3⟩:=zE r (List.getElem?_eq_getElem hi);rw [hx] at hq;cases hq;rw [List.length_map] at hi;refine ⟨(rf (Lb n ws))[i].1,(rf (Lb n ws))[i].2,List.getElem?_eq_getElem hi,?_⟩;rw [List.getElem_map] at z2;exact z2
section
variable (P:Program) (w:World)
noncomputable def fJ (t:Adr):Sp:=fun vs H Q _=>∃ wp a n ws o,vs=[.ref wp,.ref a]∧jd P w t H wp n ws∧Rk P w H a o∧Jx n ws∧NoT H ∧
 (∀ r i j H',Sb H H'→NoT H'→H' r=some (.tup [.int (i:Nat),.int (j:Nat)])→(Lb n ws).e i j=true→inO o i j=false→Q (.ref r) H')∧((∀ i j,(Lb n ws).e i j=true→inO o i j=true)→Q .non H)
noncomputable def Qv (S:Sys) (b:Nat→Int):List V:=(List.range S.m).map fun v=>V.int (b v)
noncomputable def HJ (t:Adr):Sp:=fun vs H Q _=>∃ wp z a n ws o,vs=[.ref wp,.int z,.ref a]∧jd P w t H wp n ws∧Rk P w H a o∧Jx n ws∧0 < z∧NoT H ∧
 ∀ r H',Sb H H'→NoT H'→H r=none→H' r=some (.lst (Qv (Lb n ws) fun v=>Rr (Lb n ws) z o (rf (Lb n ws)) ws.length v % z))→Q (.ref r) H'
end
theorem uG {S:Sys} {b:Nat→Int} {i:Nat} (h:i < S.m):(Qv S b)[i]? = some (V.int (b i)):=by
 unfold Qv;rw [List.getElem?_map,List.getElem?_range h];rfl
theorem YI {S:Sys} {b c:Nat→Int} {i:Nat} {x:Int} (h1:c i=x) (h2:∀ j,j ≠ i→c j=b j):(Qv S b).set i (V.int x)=Qv S c:=by
 refine List.ext_getElem? fun j=>?_
 unfold Qv;rw [List.getElem?_set];by_cases hj:i=j
 ·subst hj;rw [if_pos rfl,List.length_map,List.length_range];by_cases hl:i < S.m
  ·rw [if_pos hl,List.getElem?_map,List.getElem?_range hl,← h1];rfl
  ·rw [if_neg hl,List.getElem?_map,List.getElem?_eq_none (by rw [List.length_range];omega)];rfl
 ·rw [if_neg hj,List.getElem?_map,List.getElem?_map];by_cases hl:j < S.m
  ·rw [List.getElem?_range hl];show some (V.int (b j))=some (V.int (c j));rw [h2 j (Ne.symm hj)]
  ·rw [List.getElem?_eq_none (by rw [List.length_range];omega)];rfl
theorem HN {n j:Nat} (h:j < n):ixN n (j:Int)=some j:=by unfold ixN;simp;omega
theorem nF {S:Sys} {z:Int} {o:Od} (b:Nat→Int) (i j:Nat):relax S z o b (i,j) j=if b i + wtO S z o i j > b j then b i + wtO S z o i j else b j:=by
 have e:relax S z o b (i,j) j=max (b j) (b i + wtO S z o i j):=if_pos rfl;rw [e,Int.max_def];split <;> split <;> omega
theorem kC {S:Sys} {z:Int} {o:Od} (b:Nat→Int) (i j:Nat) {k:Nat} (h:k ≠ j):relax S z o b (i,j) k=b k:=if_neg h
noncomputable def vQ (z:Int):V→V
 | .int x=>.int (x % z)
 | v=>v
theorem gI (S:Sys) (b:Nat→Int) (z:Int):(Qv S b).map (vQ z)=Qv S fun v=>b v % z:=by
 unfold Qv;rw [List.map_map];rfl
section
variable {P:Program} {w:World} {K:PySem.W.Frag} {mg:Str→Option Value} {base:Heap} {t:Adr}
theorem MN (T:Txt w K mg t):Ub P w K mg base CX0 2 t.Qd t.Sd q41 (fJ P w t):=by
 have g13:Ub P w K mg base CX0 1 t.ud t.qd q8 (EA P w):=OG T;refine T.df.ok Fe (fun vs H Q E h=>?_) (fun _ _ _ s H vs Q E hr h=>?_)
 ·obtain ⟨wp,a,n,ws,o,rfl,_⟩:=h;rfl
 obtain ⟨wp,a,n,ws,o,rfl,W,O,wk,nt,q1,q2⟩:=h;obtain ⟨dx,al,sd,e1,e2,D⟩:=id W;have hu:=Xl hr;refine ⟨_,(fb (Bf PassesOwn.never rfl (VE (uc (pv 0) rfl)) (Xf (K:=K) (n:=2) rfl rfl (vc (Ib (i:=2) Fe.nd) (vc (Ib (i:=3) Fe.nd) Yf))) (lb (Pc (Uk (Vh (qb g13 hr T.Fh T.Ee.kp T.Eh (ab (pv 1) (ab (pv 2) (ab (pv 3) jb)))))) (lb (Fb (wc (ab (pv 2) (ab (pv 3) jb))))) Rb)))
   (lb (Fb Jg))),?_⟩
 walk_at "RD";refine ⟨_,ve T e1,_,rfl,_,D,fun ob es ep xs r=>?_⟩;have hxl:xs.length=(rf (Lb n ws)).length:=by rw [← Yp r.ks,Po,List.length_map]
 refine nk.of (n:=(bg n ws ws.length).length) (fun i σ H'=>H'=H∧(∀ l p,l < i→(rf (Lb n ws))[l]? = some p→inO o p.1 p.2=true)∧∃ x y,σ=[some (.ref wp),some (.ref a),x,y]) ?_ ?_ ?_ ?_ ?_
 ·exact ⟨rfl,fun l p hl=>absurd hl (Nat.not_lt_zero _),_,_,rfl⟩
 ·rintro i σ H' hi ⟨rfl,_⟩;exact ⟨r.at_,hi⟩
 ·rintro σ H' ⟨rfl,_⟩;exact ⟨r.at_,Nat.le_refl _⟩
 ·rintro i σ H' v H2 hi ⟨rfl,hin,x,y,rfl⟩ ⟨rfl,k,b,u,hxs,rfl⟩;obtain ⟨i1,j1,hp,hb⟩:=Qu r.ks hxs;refine Qm (SqT.of hb) ?_;simp only [List.set_cons_succ,List.set_cons_zero];refine Mb (!inO o i1 j1) (fun Q hQ=>?_) (fun hb=>?_) (fun hb=>?_)
  ·walk_at "RD";exact ⟨a,i1,j1,o,rfl,O,nt,_,rfl,hQ⟩
  ·walk_at "RD";refine ⟨by decide,fun tp htp=>q1 tp i1 j1 _ (db htp) nt.upd ib (ll (List.mem_of_getElem? hp)) (by simpa using hb)⟩
  ·simp only [Xb];refine ⟨trivial,fun l p hl hlp=>?_,_,_,rfl⟩;rcases Nat.lt_or_ge l i with z | z
   ·exact hin l p z hlp
   ·have:l=i:=by omega
    subst this;rw [hp] at hlp;cases hlp;simpa using hb
 ·rintro σ H' zzq;refine zzP fun zzM zzh=>?_
  obtain ⟨rfl,hin,x,y,rfl⟩:=zzq;subst zzh;walk_at "RD";refine q2 fun i j he=>?_
  obtain ⟨l,hl⟩:=List.getElem?_of_mem (Cu wk.ok he);refine hin l _ ?_ hl;rw [Po,List.length_map];exact (List.getElem?_eq_some_iff.mp hl).1
theorem XM (T:Txt w K mg t):Ub P w K mg base CX0 2 t.af t.Ye q42 (HJ P w t):=by
 have g24:Ub P w K mg base CX0 1 t.Xd t.ce q18 (WF P w t):=bJ T;refine T.kg.ok Dd (fun vs H Q E h=>?_) (fun _ _ _ s H vs Q E hr h=>?_)
 ·obtain ⟨wp,z,a,n,ws,o,rfl,_⟩:=h;rfl
 obtain ⟨wp,z,a,n,ws,o,rfl,W,O,wk,hz,nt,q⟩:=h;obtain ⟨dx,al,sd,e1,e2,D⟩:=id W;have hu:=Xl hr;have hws:=wk.2.1;refine ⟨_,(fb (gg (i:=3) Dd.nd rfl (Or.inl rfl) rfl (me rfl T.uf (ab (uc (pv 0) rfl) jb)) (Cc (sc:=ub Ue) rfl (by decide +kernel)) (N:=["want"]) (sel:=[none]) (Vc (M:=q55) (by decide +kernel)) (Blk.of (fun _ _ _ _=>(Ib (i:=0) (oh (N:=["want"]) (by decide +kernel) rfl))) (fun _ _ _ _=>⟨_,sf,by walk_at "B"⟩) (fun _ _ _ _=>⟨_,gb,by walk_at "B"⟩)) rfl)
   (fb (Bf PassesOwn.never rfl (me rfl T.uf (ab (uc (pv 0) rfl) jb)) (Ib (i:=4) Dd.nd) (lb (Bf PassesOwn.never rfl (VE (uc (pv 0) rfl)) (Xf (K:=K) (n:=2) rfl rfl (vc (Ib (i:=5) Dd.nd) (vc (Ib (i:=6) Dd.nd) Yf))) (lb (Vv (qc (yr rfl) rfl T.zH Jo (ab (Ab ie (pv 3) (pv 6)) (ab (Kb fc (Ab ie (pv 3) (pv 5)) (qb g24 hr T.yk T.Zf.kp T.zk (ab (pv 0) (ab (pv 1) (ab (pv 2) (ab (pv 5) (ab (pv 6) jb))))))) jb))) (TN (pv 3) (pv 6) QI))))))
   (lb (Fb (cg rfl (ng (pv 3)) (Cc (sc:=ub Ue) rfl (by decide +kernel)) (N:=["begin","size"]) (sel:=[none,some 1]) (Vc (M:=q55) (by decide +kernel)) (Blk.of (fun _ _ _ _=>(Ib (i:=0) (oh (N:=["begin","size"]) (by decide +kernel) rfl))) (fun _ _ _ _=>⟨_,sf,by walk_at "B"⟩) (fun _ _ _ _=>⟨_,(Kb Ig (pv 0) (pv 1)),by walk_at "B"⟩))))))),?_⟩
 walk_at "RD";refine ⟨_,Vi T e1,_,rfl,by omega,by omega,?_⟩;rw [show ((ws.length:Int)).toNat=ws.length by omega];refine bd.range_map (fun _=>V.int 0) (Nat.le_trans hws (by decide)) (fun i N hi hN=>?_) (fun b hb=>?_)
 ·walk_at "RD";exact ⟨Sub.name,hN⟩
 walk_at "RD";have sb:=db (o:=.lst ((List.range ws.length).map fun _=>V.int 0)) hb;refine ⟨_,Vi T (sb _ _ e1),_,rfl,by omega,by omega,?_⟩;rw [show ((ws.length:Int)).toNat=ws.length by omega];refine nk.range (fun i σ H'=>Sb H H'∧NoT H'∧H' b=some (.lst (Qv (Lb n ws) (Rr (Lb n ws) z o (rf (Lb n ws)) i)))∧∃ x y u,σ=[some (.ref wp),some (.int z),some (.ref a),some (.ref b),x,y,u]) ⟨sb,nt.upd,ib,_,_,_,rfl⟩ ?_ ?_
 ·rintro i σ H1 hi zzq;refine zzP fun zzM zzh=>?_
  obtain ⟨s1,n1,b1,x,y,u,rfl⟩:=zzq;subst zzh;walk_at "RD";refine ⟨_,ve T (s1 _ _ e1),_,rfl,_,Yb D s1,fun ob es ep xs r=>?_⟩;have hsd:sd ≠ b:=fun z=>by have g:=r.at_;rw [z,b1] at g;cases g
  refine nk.of (n:=(bg n ws ws.length).length) (fun j σ H'=>ue b H1 H'∧Sb H H'∧NoT H'∧H' b=some (.lst (Qv (Lb n ws) (((rf (Lb n ws)).take j).foldl (relax (Lb n ws) z o) (Rr (Lb n ws) z o (rf (Lb n ws)) i))))∧∃ x y u,σ=[some (.ref wp),some (.int z),some (.ref a),some (.ref b),x,y,u]) ?_ ?_ ?_ ?_ ?_
  ·exact ⟨ue.of (Sb.refl _),s1,n1,b1,_,_,_,rfl⟩
  ·rintro j σ H' hj ⟨sx,_⟩;exact ⟨sx _ _ hsd r.at_,hj⟩
  ·rintro σ H' ⟨sx,_⟩;exact ⟨sx _ _ hsd r.at_,Nat.le_refl _⟩
  ·rintro j σ H' v H2 hj ⟨sx,s2,n2,b2,x,y,u,rfl⟩ ⟨rfl,k,bb,u',hxs,rfl⟩;obtain ⟨i1,j1,hp,hbb⟩:=Qu r.ks hxs;have he:=ll (List.mem_of_getElem? hp);have hlt:=wk.ok.lt he;refine Qm (SqT.of (sx _ _ (fun z=>by rw [z,b1] at hbb;cases hbb) hbb)) ?_;simp only [List.set_cons_succ,List.set_cons_zero];walk_at "RD";have hj1:j1 < (Qv (Lb n ws) (((rf (Lb n ws)).take j).foldl (relax (Lb n ws) z o) (Rr (Lb n ws) z o (rf (Lb n ws)) i))).length:=by unfold Qv;rw [List.length_map,List.length_range];exact hlt.2.1
   refine ⟨_,SqL.of b2,_,wb (j:=j1) (uG hlt.2.1),_,SqL.of b2,_,wb (j:=i1) (uG hlt.1),wp,z,a,i1,j1,o,n,ws,rfl,W.same s2,Yb O s2,he,n2,_,rfl,_,rfl,_,rfl,_,b2,j1,HN hj1,fun c u hc e=>by rw [Eb hc];exact sx _ _ hc e,s2.updN hb,n2.upd,?_,?_⟩
   ·rw [ib];refine congrArg (fun l=>some (HO.lst l)) (YI ?_ fun k hk=>?_)
    ·rw [List.take_add_one,hp,List.foldl_append];exact nF _ i1 j1
    ·rw [List.take_add_one,hp,List.foldl_append];exact kC _ i1 j1 hk
   ·exact ⟨_,rfl⟩
  ·rintro σ H' zzq;refine zzP fun zzM zzh=>?_
   obtain ⟨sx,s2,n2,b2,x,y,u,rfl⟩:=zzq;subst zzh;rw [Po,List.length_map,List.take_length] at b2;exact ⟨s2,n2,b2,_,_,_,rfl⟩
 ·rintro σ H1 zzq;refine zzP fun zzM zzh=>?_
  obtain ⟨s1,n1,b1,x,y,u,rfl⟩:=zzq;subst zzh;walk_at "RD";refine ⟨⟨_,SqL.of b1⟩,?_⟩;refine bd.list_map (vQ z) (SqL.of b1) (by unfold Qv;rw [List.length_map,List.length_range];exact Nat.le_trans hws (by decide)) (fun i x N hx hN=>?_) (fun p hp=>?_)
  ·unfold Qv at hx;obtain ⟨y,_,rfl⟩:=List.mem_map.mp (List.mem_of_getElem? hx);walk_at "RD";exact ⟨Sub.name,hz,hN⟩
  ·rw [gI];exact q p _ (s1.trans (db hp)) n1.upd (s1.free hp) ib
end
end My
namespace My
open PySem L2
section
open PySem.Spec PyProof.Rows
theorem cI {X:Cx} (hc:X.calm=true):Ri X (.builtin "sum") (fun xs H Q=>∃ l ks,xs=[.ref l]∧SqL X.K H l (List.map V.int ks)∧(∀ k ∈ ks,0 ≤ k∧k ≤ 1000000000)∧ks.length ≤ 1000∧Q (.int ks.sum) H):=by
 intro pins s σ H xs us Q I r h;obtain ⟨l,ks,rfl,hq,hk,hl,q⟩:=h;obtain ⟨u,rfl,ru⟩:=On r;cases ru;obtain ⟨its,rv,pl,hz⟩:=I.list hq;obtain ⟨xs,e1,e2⟩:=xC rv;have hil:its.toArray=intItems xs.toArray:=by rw [e1];unfold intItems;simp
 have hls:s.heap.IsList l (intItems xs.toArray):=by rw [← hil];exact pl.isList
 have hxl:xs.length=ks.length:=by rw [← e2,List.length_map]
 have hn:∀ i,i < ks.length→ks[i]? = some (numAt xs.toArray i):=fun i hi=>by
  rw [numAt_eq,List.getD_eq_getElem?_getD];show ks[i]? = some (((xs.map (·.1))[i]?).getD 0);rw [e2,List.getElem?_eq_getElem hi];rfl
 have hps:∀ n,n ≤ ks.length→preSum (numAt xs.toArray) n=(ks.take n).sum∧0 ≤ (ks.take n).sum∧(ks.take n).sum ≤ 1000000000 * (n:Int):=fun n=>by
  induction n with
  | zero=>intro _;exact ⟨by simp [preSum],by simp,by simp⟩
  | succ n ih=>
   intro hn';obtain ⟨i1,i2,i3⟩:=ih (by omega);have e:=hn n (by omega);have hv:=hk _ (List.mem_of_getElem? e);have es:(ks.take (n + 1)).sum=(ks.take n).sum + numAt xs.toArray n:=by
    rw [List.take_add_one,e,List.sum_append];simp
   refine ⟨?_,by omega,by omega⟩;show preSum (numAt xs.toArray) n + numAt xs.toArray n=_;rw [i1,es]
 have hsz:xs.toArray.size=ks.length:=by rw [List.size_toArray,hxl]
 refine sum_intList (I.ok.hd hc) hls (fun j hj=>?_) fun h' tk t' k=>⟨.int ks.sum,H,I.kept k,⟨t',?_⟩,q⟩
 ·rw [hsz] at hj;have e:=hn j hj;have hv:=hk _ (List.mem_of_getElem? e);obtain ⟨p1,p2,p3⟩:=hps (j + 1) (by omega);unfold InLong;rw [p1];omega
 ·rw [hsz,(hps _ (Nat.le_refl _)).1,List.take_length]
end
noncomputable def Zi (H:Hp):Pap→Addr→Prop
 | .alone k,a=>H a=some (.tup [.str (Str.ofString "alone"),.int (k:Nat)])
 | .ring r,a=>∃ b,H a=some (.tup [.str (Str.ofString "ring"),.ref b])∧H b=some (.tup (ac r))
 | .case i j p q,a=>∃ b c,H a=some (.tup [.str (Str.ofString "case"),.int (i:Nat),.int (j:Nat),.ref b,.ref c])∧Zi H p b∧Zi H q c
theorem Zi.same {H H':Hp} (s:Sb H H'):∀ {p:Pap} {a:Addr},Zi H p a→Zi H' p a:=by
 intro p
 induction p with
 | alone k=>intro a h;exact s _ _ h
 | ring r=>intro a ⟨b,h1,h2⟩;exact ⟨b,s _ _ h1,s _ _ h2⟩
 | case i j p q ihp ihq=>intro a ⟨b,c,h1,h2,h3⟩;exact ⟨b,c,s _ _ h1,ihp h2,ihq h3⟩
theorem Fn.mod {S:Sys} {z:Int} {b:Nat→Int} (D:Fn S z b):Fn S z fun v=>b v % z:=⟨D.1,fun i j e=>by
 have:=D.2 i j e;show _ ≤ (b j % z - b i % z) % z;rw [← Int.sub_emod];exact this⟩
noncomputable def xO (S:Sys) (z:Int) (o:Od) (d:Nat) (H H':Hp) (bv pv:V):Prop:=(∃ b pb,bv=.ref pb∧pv=.non∧H pb=none∧H' pb=some (.lst (Qv S b))∧(∀ v,0 ≤ b v∧b v < z)∧Fn S z b)∨(∃ p pa,bv=.non∧pv=.ref pa∧Zi H' p pa∧Hc S z o p=true∧Hi S.m d p)
section
variable (P:Program) (w:World)
noncomputable def EO (t:Adr) (d:Nat) (vs:List V) (H:Hp) (z:Int) (n:Int) (ws:List (WD × Int)) (o:Od):Prop:=∃ wp rl a k,vs=[.ref wp,.int z,.ref rl,.ref a]∧jd P w t H wp n ws∧Ay H rl (ph (Lb n ws) k)∧lev (Lb n ws) k=[]∧k ≤ 6∧Rk P w H a o∧Px (Lb n ws) o∧Jx n ws∧unO (Lb n ws) o ≤ d∧(∀ i,i < ws.length→(Lb n ws).al i ≤ z)∧NoT H
noncomputable def Tz (t:Adr) (d:Nat):Sp:=fun vs H Q _=>∃ z n ws o,EO P w t d vs H z n ws o∧∀ r bv pv H',Sb H H'→NoT H'→H' r=some (.tup [bv,pv])→xO (Lb n ws) z o d H H' bv pv→Q (.ref r) H'
noncomputable def WK (t:Adr):Nat→Sp
 | 0=>fun _ _ _ _=>False
 | d + 1=>Tz P w t d
end
section
variable {P:Program} {w:World} {K:PySem.W.Frag} {mg:Str→Option Value} {base:Heap} {t:Adr}
theorem QA (T:Txt w K mg t) (d:Nat) (g16:Ub P w K mg base CX0 (d + 2) t.ij t.Oi q20 (WK P w t d)):Ub P w K mg base CX0 (d + 3) t.ij t.Oi q20 (Tz P w t d):=by
 refine T.dj.ok Ae (fun vs H Q E h=>?_) (fun _ _ _ s H vs Q E hr h=>?_)
 ·obtain ⟨z,n,ws,o,⟨wp,rl,a,k,rfl,_⟩,_⟩:=h;rfl
 obtain ⟨z,n,ws,o,⟨wp,rl,a,k,rfl,W,R,hk0,hk6,O,od,wk,hd,ha,nt⟩,q⟩:=h;have hu:=Xl hr;have hws:=wk.2.1;have hm:(Lb n ws).m ≤ 6:=hws;have hz:0 < z:=by
  have h0:0 < ws.length:=List.length_pos_iff.mpr wk.2.2;have:=ha 0 h0;have:=wk.ok.a1 (i:=0) h0;omega
 obtain ⟨qs,r1,r2⟩:=id R;have g25:Ub P w K mg base CX0 (d + 2) t.wf t.Gf q19 (PK P w t):=(HM T).mono (by omega);have g52:Ub P w K mg base CX0 (d + 2) t.Qd t.Sd q41 (fJ P w t):=(MN T).mono (by omega);have g53:Ub P w K mg base CX0 (d + 2) t.af t.Ye q42 (HJ P w t):=(XM T).mono (by omega);have g14:Ub P w K mg base CX0 (d + 2) t.Gg t.Dg q8 (OE P w (Lb n ws)):=(UJ T _).mono (by omega);refine ⟨_,(fb (Bf PassesOwn.never rfl (ng (pv 2)) (Ib (i:=4) Ae.nd) (lb (Pc (Vh (qb g25 hr T.ip T.Wh.kp T.gp (ab (pv 0) (ab (pv 1) (ab (pv 3) (ab (pv 4) jb)))))) (lb (Fb (wc (ab Jg (ab (wc (ab xc (ab (pv 4) jb))) jb))))) Rb)))
   (fb (yb (i:=5) Ae.nd (qb g52 hr T.Yl T.df.kp T.Sl (ab (pv 0) (ab (pv 3) jb))))
   (fb (Pc (Ob CF (pv 5) Jg (Vb _)) (lb (Fb (wc (ab (qb g53 hr T.Fo T.kg.kp T.Bo (ab (pv 0) (ab (pv 1) (ab (pv 3) jb)))) (ab Jg jb))))) Rb)
   (fb (Vv (pv 5) (Xf (K:=K) (n:=2) rfl rfl (vc (Ib (i:=6) Ae.nd) (vc (Ib (i:=7) Ae.nd) Yf))))
   (fb (Vv (qb g16 hr T.lq T.dj.kp T.cr (ab (pv 0) (ab (pv 1) (ab (pv 2) (ab (qb g14 hr T.Mh T.vf.kp T.ii (ab (pv 3) (ab (pv 6) (ab (pv 7) jb)))) jb))))) (Xf (K:=K) (n:=2) rfl rfl (vc (Ib (i:=8) Ae.nd) (vc (Ib (i:=9) Ae.nd) Yf))))
   (fb (Pc (Ob Gv (pv 8) Jg (Vb _)) (lb (Fb (wc (ab (pv 8) (ab Jg jb))))) Rb)
   (fb (Vv (qb g16 hr T.lq T.dj.kp T.cr (ab (pv 0) (ab (pv 1) (ab (pv 2) (ab (qb g14 hr T.Mh T.vf.kp T.ii (ab (pv 3) (ab (pv 7) (ab (pv 6) jb)))) jb))))) (Xf (K:=K) (n:=2) rfl rfl (vc (Ib (i:=8) Ae.nd) (vc (Ib (i:=10) Ae.nd) Yf))))
   (fb (Pc (Ob Gv (pv 8) Jg (Vb _)) (lb (Fb (wc (ab (pv 8) (ab Jg jb))))) Rb)
   (lb (Fb (wc (ab Jg (ab (wc (ab xc (ab (pv 6) (ab (pv 7) (ab (pv 9) (ab (pv 10) jb)))))) jb))))))))))))),?_⟩
 simp only [xb];refine Zb (fun σ' H'=>H'=H∧(∀ r ∈ ph (Lb n ws) k,fg (Lb n ws) z o r=false)∧∃ x,σ'=[some (.ref wp),some (.int z),some (.ref rl),some (.ref a),x,none,none,none,none,none,none]) (fun D' hD hrt _ _=>?_) ?_
 ·walk_at "RD";refine ⟨⟨_,SqL.of r1⟩,?_⟩;refine nk.list (xs:=qs.map V.ref) (fun i σ H'=>H'=H∧(∀ (l:Nat) r,l < i→(ph (Lb n ws) k)[l]? = some r→fg (Lb n ws) z o r=false)∧∃ x,σ=[some (.ref wp),some (.int z),some (.ref rl),some (.ref a),x,none,none,none,none,none,none]) ⟨rfl,fun l r hl=>absurd hl (Nat.not_lt_zero _),_,rfl⟩ (fun i σ H' _ z=>by rw [z.1];exact SqL.of r1) ?_ ?_
  ·rintro i v σ H1 hv zzq;refine zzP fun zzM zzh=>?_
   obtain ⟨rfl,hno,x,rfl⟩:=zzq;obtain ⟨qi,hqi,rfl⟩:=Og hv;obtain ⟨r,hr1,hr2⟩:=r2.at hqi;obtain ⟨l,hl,hlev⟩:=bC (List.mem_of_getElem? hr1);obtain ⟨g1,g2,g3⟩:=GA _ _ hlev;subst zzh;simp only [Rf,List.set_cons_succ,List.set_cons_zero];refine Mb (fg (Lb n ws) z o r) (fun Q hQ=>?_) (fun hb=>?_) (fun hb=>?_)
   ·walk_at "RD";exact ⟨wp,z,a,qi,o,r,n,ws,rfl,W,O,hr2,by omega,od,wk,nt,_,rfl,hQ⟩
   ·walk_at "RD";rw [hrt];refine ⟨by decide,fun p1 hp1=>⟨by decide,fun p2 hp2=>?_⟩⟩;have s2:=(db (o:=.tup [.str (Str.ofString "ring"),.ref qi]) hp1).trans (db (o:=.tup [V.non,.ref p1]) hp2);exact q p2 .non (.ref p1) _ s2 ((nt.upd).upd) ib (.inr ⟨.ring r,p1,rfl,rfl,⟨qi,db hp2 _ _ ib,s2 _ _ hr2⟩,hb,by cases d <;> exact g3⟩)
   ·simp only [Xb];refine ⟨trivial,fun l' r' hl' hr'=>?_,_,rfl⟩;rcases Nat.lt_or_ge l' i with y | y
    ·exact hno l' r' y hr'
    ·have:l'=i:=by omega
     subst this;rw [hr1] at hr';cases hr';exact hb
  ·rintro σ H1 zzq;refine zzP fun zzM zzh=>?_
   obtain ⟨rfl,hno,x,rfl⟩:=zzq;subst zzh;refine hD _ _ ⟨rfl,fun r hr=>?_,x,rfl⟩;obtain ⟨l,hl⟩:=List.getElem?_of_mem hr;refine hno l r ?_ hl;rw [List.length_map,r2.1];exact (List.getElem?_eq_some_iff.mp hl).1
 rintro σ1 H1 zzq;refine zzP fun zzM zzh=>?_
 obtain ⟨rfl,hno,x,rfl⟩:=zzq;subst zzh;simp only [xb];refine Zb (fun σ' H'=>Sb H1 H'∧NoT H'∧((H'=H1∧(∀ i j,(Lb n ws).e i j=true→inO o i j=true)∧σ'=[some (.ref wp),some (.int z),some (.ref rl),some (.ref a),x,some .non,none,none,none,none,none])∨∃ pr i j,H' pr=some (.tup [.int (i:Nat),.int (j:Nat)])∧(Lb n ws).e i j=true∧inO o i j=false∧σ'=[some (.ref wp),some (.int z),some (.ref rl),some (.ref a),x,some (.ref pr),none,none,none,none,none])) (fun D' hD hrt _ _=>?_) ?_
 ·walk_at "RD";exact ⟨wp,a,n,ws,o,rfl,W,O,wk,nt,fun r i j H' s2 n2 e he hi=>hD _ _ ⟨s2,n2,.inr ⟨r,i,j,e,he,hi,rfl⟩⟩,fun hi=>hD _ _ ⟨Sb.refl _,nt,.inl ⟨rfl,hi,rfl⟩⟩⟩
 rintro σ2 H2 ⟨s2,n2,(⟨rfl,hall,rfl⟩ | ⟨pr,i,j,hpr,he,hio,rfl⟩)⟩
 ·simp only [xb];refine Mb true (fun Q hQ=>?_) (fun _=>?_) (fun z=>nomatch z)
  ·walk_at "RD";exact hQ
  ·walk_at "RD";refine ⟨wp,z,a,n,ws,o,rfl,W,O,wk,hz,nt,fun r H3 s3 n3 hr3 e3=>⟨by decide,fun p hp=>q p (.ref r) .non _ (s3.trans (db hp)) n3.upd ib (.inl ⟨_,r,rfl,rfl,hr3,db hp _ _ e3,fun v=>⟨Int.emod_nonneg _ (by omega),Int.emod_lt_of_pos _ hz⟩,?_⟩)⟩⟩;exact (fw wk.ok hz ha hall od.as fun i j e=>GC wk.ok (fun p hp=>ll hp) (fun i j h=>Cu wk.ok h) (ZB wk.ok hk0 hall hno) e).mod
 simp only [xb];refine Mb false (fun Q hQ=>?_) (fun z=>nomatch z) (fun _=>?_)
 ·walk_at "RD";exact hQ
 simp only [Xb,xb];obtain ⟨d',rfl⟩:∃ d',d=d' + 1:=⟨d - 1,by have:=BK wk.ok he hio;omega⟩;have hio':=hio;unfold inO at hio';rw [Bool.or_eq_false_iff,decide_eq_false_iff_not,decide_eq_false_iff_not] at hio';have hio2:inO o j i=false:=by rw [Um];exact hio
 refine PF (.ref pr) (fun Q hQ=>by walk_at "RD";exact hQ) (Qm (SqT.of hpr) ?_);simp only [xb,List.set_cons_succ,List.set_cons_zero];refine Zb (fun σ' H'=>∃ Ha bv pv,Sb H2 Ha∧Sb Ha H'∧NoT H'∧xO (Lb n ws) z (o ++ [(i,j)]) d' Ha H' bv pv∧σ'=[some (.ref wp),some (.int z),some (.ref rl),some (.ref a),x,some (.ref pr),some (.int (i:Nat)),some (.int (j:Nat)),some bv,some pv,none]) (fun D' hD hrt _ _=>?_) ?_
 ·walk_at "RD";refine ⟨a,i,j,o,rfl,Yb O s2,od,wk.ok,hm,hio'.1,n2,fun r3 H3 s3 n3 O3=>?_⟩;have s23:=s2.trans s3;refine ⟨z,n,ws,o ++ [(i,j)],⟨wp,rl,r3,k,rfl,W.same s23,R.same s23,hk0,hk6,O3,od.put wk.ok he hio,wk,by have:=Vy (o:=o) wk.ok he hio;omega,ha,n3⟩,fun r4 bv pv H4 s4 n4 e4 SP=>?_⟩;exact ⟨r4,rfl,_,SqT.of e4,rfl,_,_,rfl,_,_,rfl,rfl,hD _ _ ⟨H3,bv,pv,s3,s4,n4,SP,rfl⟩⟩
 rintro σ3 H4 zzq;refine zzP fun zzM zzh=>?_
 obtain ⟨Ha,bv,pv,sa,s4,n4,SP,rfl⟩:=zzq;subst zzh;simp only [xb];have s24:=s2.trans (sa.trans s4);rcases SP with ⟨b,pb,rfl,rfl,hb0,hb1,hb2,hb3⟩ | ⟨p1,pa,rfl,rfl,hp1,hp2,hp3⟩
 ·refine Mb true (fun Q hQ=>?_) (fun _=>?_) (fun z=>nomatch z)
  ·walk_at "RD";exact hQ
  ·walk_at "RD";exact ⟨by decide,fun p hp=>q p _ _ _ (s24.trans (db hp)) n4.upd ib (.inl ⟨b,pb,rfl,rfl,(s2.trans sa).free hb0,db hp _ _ hb1,hb2,hb3⟩)⟩
 refine Mb false (fun Q hQ=>?_) (fun z=>nomatch z) (fun _=>?_)
 ·walk_at "RD";exact hQ
 simp only [Xb,xb];refine Zb (fun σ' H'=>∃ Hb bv pv,Sb H4 Hb∧Sb Hb H'∧NoT H'∧xO (Lb n ws) z (o ++ [(j,i)]) d' Hb H' bv pv∧σ'=[some (.ref wp),some (.int z),some (.ref rl),some (.ref a),x,some (.ref pr),some (.int (i:Nat)),some (.int (j:Nat)),some bv,some (.ref pa),some pv]) (fun D' hD hrt _ _=>?_) ?_
 ·walk_at "RD";refine ⟨a,j,i,o,rfl,Yb O s24,od,wk.ok,hm,hio'.2,n4,fun r5 H5 s5 n5 O5=>?_⟩;have s25:=s24.trans s5;have hei:=wk.ok.sy he;refine ⟨z,n,ws,o ++ [(j,i)],⟨wp,rl,r5,k,rfl,W.same s25,R.same s25,hk0,hk6,O5,od.put wk.ok hei hio2,wk,by have:=Vy (o:=o) wk.ok hei hio2;omega,ha,n5⟩,fun r6 bv pv H6 s6 n6 e6 SP=>?_⟩;exact ⟨r6,rfl,_,SqT.of e6,rfl,_,_,rfl,_,_,rfl,rfl,hD _ _ ⟨H5,bv,pv,s5,s6,n6,SP,rfl⟩⟩
 rintro σ5 H6 zzq;refine zzP fun zzM zzh=>?_
 obtain ⟨Hb,bv,pv,sb,s6,n6,SP,rfl⟩:=zzq;subst zzh;simp only [xb];have s46:=sb.trans s6;have s26:=s24.trans s46;rcases SP with ⟨b,pb,rfl,rfl,hb0,hb1,hb2,hb3⟩ | ⟨p2,pa2,rfl,rfl,hq1,hq2,hq3⟩
 ·refine Mb true (fun Q hQ=>?_) (fun _=>?_) (fun z=>nomatch z)
  ·walk_at "RD";exact hQ
  ·walk_at "RD";exact ⟨by decide,fun p hp=>q p _ _ _ (s26.trans (db hp)) n6.upd ib (.inl ⟨b,pb,rfl,rfl,(s24.trans sb).free hb0,db hp _ _ hb1,hb2,hb3⟩)⟩
 refine Mb false (fun Q hQ=>?_) (fun z=>nomatch z) (fun _=>?_)
 ·walk_at "RD";exact hQ
 simp only [Xb];walk_at "RD";refine ⟨by decide,fun p3 hp3'=>⟨by decide,fun p4 hp4=>?_⟩⟩;have t1:=db (o:=.tup [.str (Str.ofString "case"),.int (i:Nat),.int (j:Nat),.ref pa,.ref pa2]) hp3';have t2:=db (o:=.tup [V.non,.ref p3]) hp4;have hl:=wk.ok.lt he;refine q p4 .non (.ref p3) _ (s26.trans (t1.trans t2)) ((n6.upd).upd) ib (.inr ⟨.case i j p1 p2,p3,rfl,rfl,⟨pa,pa2,t2 _ _ ib,(hp1.same s46).same (t1.trans t2),hq1.same (t1.trans t2)⟩,?_,hl.1,hl.2.1,hp3,hq3⟩);show ((Lb n ws).e i j && !inO o i j && Hc (Lb n ws) z (o ++ [(i,j)]) p1 && Hc (Lb n ws) z (o ++ [(j,i)]) p2)=true;rw [he,hio,hp2,hq2];rfl
theorem ZJ (T:Txt w K mg t):∀ d,Ub P w K mg base CX0 (d + 3) t.ij t.Oi q20 (Tz P w t d)
 | 0=>QA T 0 (T.dj.ok Ae (fun vs H Q E h=>h.elim) (fun cdv A outer s H vs Q E hr h=>h.elim))
 | d + 1=>QA T (d + 1) (ZJ T d)
end
section
variable (P:Program) (w:World)
noncomputable def SD (t:Adr):Sp:=fun vs H Q _=>∃ wp z rl k n ws,vs=[.ref wp,.int z,.ref rl]∧jd P w t H wp n ws∧Ay H rl (ph (Lb n ws) k)∧lev (Lb n ws) k=[]∧k ≤ 6∧Jx n ws∧NoT H ∧
 ∀ r bv pv H',Sb H H'→NoT H'→H' r=some (.tup [bv,pv])→xO (Lb n ws) z (qp (Lb n ws)) (unO (Lb n ws) (qp (Lb n ws))) H H' bv pv→Q (.ref r) H'
noncomputable def xE (t:Adr):Sp:=fun vs H Q _=>∃ wp n ws,vs=[.ref wp]∧jd P w t H wp n ws∧Jx n ws∧NoT H∧∀ z b H',Sb H H'→NoT H'→Fn (Lb n ws) z b→z ≤ 20000→Q (.int z) H'
end
section
variable {P:Program} {w:World} {K:PySem.W.Frag} {mg:Str→Option Value} {base:Heap} {t:Adr}
theorem iq {k:Nat} {f:Addr} {fd:FuncData} {ps:List Str} {sp:Nat→Sp} {m:Nat} (F:∀ n,n ≤ m→Ub P w K mg base CX0 k f fd ps (sp n)):Ub P w K mg base CX0 k f fd ps (fun vs H Q E=>∃ n,n ≤ m∧sp n vs H Q E):=
 ⟨fun vs H Q E ⟨n,hn,h⟩=>(F n hn).len vs H Q E h,fun A outer s H args us vs Q E hr he hb hv ⟨n,hn,h⟩=>(F n hn).run A outer s H args us vs Q E hr he hb hv h⟩
theorem lE {n:Int} {ws:List (WD × Int)} {i:Nat} {p:WD × Int} (h:ws[i]? = some p):(Lb n ws).al i=Rc p:=by
 show (match ws[i]? with | some p=>Rc p | none=>0)=_;rw [h]
theorem AL (T:Txt w K mg t):Ub P w K mg base CX0 14 t.Zg t.lh q43 (SD P w t):=by
 have g16:Ub P w K mg base CX0 13 t.ij t.Oi q20 (fun vs H Q E=>∃ n,n ≤ 10∧Tz P w t n vs H Q E):=iq fun n hn=>(ZJ T n).mono (by omega)
 have g26:Ub P w K mg base CX0 13 t.re t.qe ["wanted"] (xG P w t):=(MJ T).mono (by decide);refine T.Of.ok Ki (fun vs H Q E h=>?_) (fun _ _ _ s H vs Q E hr h=>?_)
 ·obtain ⟨wp,z,rl,k,n,ws,rfl,_⟩:=h;rfl
 obtain ⟨wp,z,rl,k,n,ws,rfl,W,R,hk0,hk6,wk,nt,q⟩:=h;obtain ⟨dx,al,sd,e1,e2,D⟩:=id W;have hu:=Xl hr;have hws:=wk.2.1;refine ⟨_,(fb (Bf PassesOwn.never rfl (xq rfl T.og (ab (uc (pv 0) rfl) jb)) (Xf (K:=K) (n:=2) rfl rfl (vc (Ib (i:=3) Ki.nd) (vc (Ib (i:=4) Ki.nd) Yf))) (lb (Pc (Ob Pm (pv 4) (pv 1) (Vb _)) (lb (Fb (wc (ab Jg (ab (wc (ab xc (ab (pv 3) jb))) jb))))) Rb)))
   (lb (Fb (qb g16 hr T.lq T.dj.kp T.cr (ab (pv 0) (ab (pv 1) (ab (pv 2) (ab (qb g26 hr T.Wj T.pf.kp T.Pj (ab (pv 0) jb)) jb)))))))),?_⟩
 walk_at "RD";refine ⟨_,Om T e1,_,rfl,⟨_,SqL.of e2⟩,?_⟩;refine nk.enum (xs:=ws.map fun p=>V.int (Rc p)) (fun i σ H'=>Sb H H'∧NoT H'∧(∀ l,l < i→(Lb n ws).al l ≤ z)∧∃ x y,σ=[some (.ref wp),some (.int z),some (.ref rl),x,y]) ⟨Sb.refl _,nt,fun l hl=>absurd hl (Nat.not_lt_zero _),_,_,rfl⟩ (fun i σ H' _ ⟨s1,_⟩=>SqL.of (s1 _ _ e2)) ?_ ?_
 ·rintro i v σ H1 tp hv ⟨s1,n1,hal,x,y,rfl⟩ htp;obtain ⟨p,hp,rfl⟩:=Og hv;have hai:=lE (n:=n) hp;have hil:=(List.getElem?_eq_some_iff.mp hp).1;refine uh ?_;simp only [List.set_cons_succ,List.set_cons_zero];have s2:=s1.trans (db (o:=.tup [.int i,.int (Rc p)]) htp);have n2:NoT (upd H1 tp (.tup [.int i,.int (Rc p)])):=n1.upd;generalize upd H1 tp (.tup [.int i,.int (Rc p)])=H2 at s2 n2 ⊢;refine Mb (decide (z < Rc p)) (fun Q hQ=>?_) (fun hb=>?_) (fun hb=>?_)
  ·walk_at "RD";exact hQ
  ·walk_at "RD";refine ⟨by decide,fun p1 hp1=>⟨by decide,fun p2 hp2=>?_⟩⟩;have t1:=db (o:=.tup [.str (Str.ofString "alone"),.int (i:Nat)]) hp1;have t2:=db (o:=.tup [V.non,.ref p1]) hp2;refine q p2 .non (.ref p1) _ (s2.trans (t1.trans t2)) ((n2.upd).upd) ib (.inr ⟨.alone i,p1,rfl,rfl,t2 _ _ ib,?_,?_⟩)
   ·show decide (z < (Lb n ws).al i)=true;rw [hai];exact hb
   ·unfold Hi;exact hil
  ·simp only [Xb];refine ⟨s2,n2,fun l hl=>?_,_,_,rfl⟩;rcases Nat.lt_or_ge l i with y | y
   ·exact hal l y
   ·have:l=i:=by omega
    subst this;rw [hai];have:=of_decide_eq_false hb;omega
 ·rintro σ H1 zzq;refine zzP fun zzM zzh=>?_
  obtain ⟨s1,n1,hal,x,y,rfl⟩:=zzq;subst zzh;rw [List.length_map] at hal;walk_at "RD";refine ⟨wp,n,ws,rfl,W.same s1,wk,n1,fun r H2 s2 n2 O2=>?_⟩;have s12:=s1.trans s2;refine ⟨unO (Lb n ws) (qp (Lb n ws)),(nz wk.ok hws).1,z,n,ws,qp (Lb n ws),⟨wp,rl,r,k,rfl,W.same s12,R.same s12,hk0,hk6,O2,iz,wk,Nat.le_refl _,hal,n2⟩,fun r3 bv pv H3 s3 n3 e3 SP=>q r3 bv pv H3 (s12.trans s3) n3 e3 ?_⟩;rcases SP with ⟨b,pb,h1,h2,h3,h4⟩ | h
  ·exact .inl ⟨b,pb,h1,h2,s12.free h3,h4⟩
  ·exact .inr h
noncomputable def SC:List Int→Int
 | []=>0
 | x :: l=>max x (SC l)
theorem uB:∀ l,0 ≤ SC l
 | []=>Int.le_refl _
 | x :: l=>Int.le_trans (uB l) (Int.le_max_right ..)
theorem OD:∀ {l:List Int} {x:Int},x ∈ l→x ≤ SC l
 | y :: l,x,h=>by
  rcases List.mem_cons.mp h with rfl | h
  ·exact Int.le_max_left ..
  ·exact Int.le_trans (OD h) (Int.le_max_right ..)
theorem YD:∀ {l:List Int} {m:Int},0 ≤ m→(∀ x ∈ l,x ≤ m)→SC l ≤ m
 | [],m,h,_=>h
 | x :: l,m,h,g=>Int.max_le.mpr ⟨g x (List.mem_cons_self ..),YD h fun y hy=>g y (List.mem_cons_of_mem _ hy)⟩
theorem Mx:∀ (l:List Int) (x:Int),0 ≤ x→l.foldl max x=max x (SC l)
 | [],x,h=>(Int.max_eq_left h).symm
 | y :: l,x,h=>by
  rw [List.foldl_cons,Mx l _ (Int.le_trans h (Int.le_max_left ..))];exact Int.max_assoc ..
theorem ZK (l:List Int) (h:∀ x ∈ l,0 ≤ x):(l.max? = none∧SC l=0)∨l.max? = some (SC l):=by
 cases l with
 | nil=>exact .inl ⟨rfl,rfl⟩
 | cons x l=>
  rw [List.max?_cons',Mx l x (h x (List.mem_cons_self ..))];exact .inr rfl
noncomputable def stL (S:Sys) (i:Nat) (l:Od):List Int:=(l.filter fun p=>decide (p.1=i)).map fun p=>S.st p.1 p.2
theorem PM {S:Sys} (k:S.Ok) {i j:Nat} (h:S.e i j=true):S.st i j ∈ stL S i (rf S):=List.mem_map.mpr ⟨(i,j),List.mem_filter.mpr ⟨Cu k h,decide_eq_true rfl⟩,rfl⟩
theorem QE {S:Sys} {i:Nat} {x:Int} (h:x ∈ stL S i (rf S)):∃ j,S.e i j=true∧x=S.st i j:=by
 obtain ⟨⟨a,b⟩,hp,rfl⟩:=List.mem_map.mp h;obtain ⟨h1,h2⟩:=List.mem_filter.mp hp;have:a=i:=of_decide_eq_true h2;subst this;exact ⟨b,ll h1,rfl⟩
theorem XI {f:Nat→Int} {c:Int} (hc:0 ≤ c):∀ {m:Nat},(∀ i,i < m→f i ≤ c)→Xp f m ≤ m * c:=by
 intro m
 induction m with
 | zero=>intro _;simp [Xp]
 | succ m ih=>
  intro h;have h1:=ih fun i hi=>h i (by omega)
  have h2:=h m (by omega);show Xp f m + f m ≤ _;rw [show ((m + 1:Nat):Int) * c=m * c + c by rw [Int.natCast_add,Int.add_mul];simp];omega
theorem rA (f g:Nat→Int):∀ m,Xp (fun i=>f i + g i) m=Xp f m + Xp g m:=by
 intro m
 induction m with
 | zero=>rfl
 | succ m ih=>
  show Xp _ m + (f m + g m)=(Xp f m + f m) + (Xp g m + g m);rw [ih];omega
theorem AN {n:Int} {ws:List (WD × Int)}:∀ k,k ≤ ws.length→((ws.take k).map Rc).sum=Xp (Lb n ws).al k:=by
 intro k
 induction k with
 | zero=>intro _;rfl
 | succ k ih=>
  intro hk;have hp:ws[k]? = some ws[k]:=List.getElem?_eq_getElem (by omega);show _=Xp (Lb n ws).al k + (Lb n ws).al k;rw [List.take_add_one,hp,List.map_append,List.sum_append,ih (by omega),lE hp];simp
theorem VF {n:Int} {d:WD} (o:WOk n d):Rn d + Gh d ≤ 100:=by
 have h:=o.of;unfold Rn Gh;rcases d with ⟨k,_⟩
 match k with
 | 0=>simp
 | 1=>simp at h ⊢;omega
 | k + 2=>simp
theorem cN {n:Int} {d e:WD} (o:WOk n d) (p:WOk n e):bD d e ≤ 100:=by
 have h1:=o.of;have h2:=p.nr;unfold bD;split <;> omega
theorem bL (T:Txt w K mg t):Ub P w K mg base CX0 2 t.dh t.Vg ["wanted"] (xE P w t):=by
 refine T.Gj.ok zg (fun vs H Q E h=>?_) (fun _ _ _ s H vs Q E hr h=>?_)
 ·obtain ⟨wp,n,ws,rfl,_⟩:=h;rfl
 obtain ⟨wp,n,ws,rfl,W,wk,nt,q⟩:=h;obtain ⟨dx,al,sd,e1,e2,D⟩:=id W;have hu:=Xl hr;have hws:=wk.2.1;refine ⟨_,(fb (yb (i:=1) zg.nd (qc (cI rfl) rfl T.WO PB (ab (uc (pv 0) rfl) jb)))
   (fb (Bf PassesOwn.never rfl (me rfl T.uf (ab (uc (pv 0) rfl) jb)) (bz (i:=2) zg.nd rfl (Or.inr rfl)) (lb (rJ (i:=1) zg.nd rfl (Or.inl rfl) (FK rfl rfl T.zH (ab (cg rfl (VE (uc (pv 0) rfl)) (Cc (sc:=ub vj) rfl (by decide +kernel)) (N:=["pair","wanted","want"]) (sel:=[none,some 0,some 2]) (Vc (M:=["wanted","total","want"]) (by decide +kernel)) (Blk.of (fun _ _ _ _=>(Ib (i:=0) (oh (N:=["pair","wanted","want"]) (by decide +kernel) rfl))) (fun _ _ _ _=>⟨_,(Qq (Ob tf (Ab Jb (pv 0) gb) (pv 2) (Vb _))),by walk_at "B"⟩) (fun _ _ _ _=>⟨_,(cE hu (uc (pv 1) rfl) (pv 0) (fun _ _=>rfl)),by walk_at "B"⟩))) jb) gb) iK)))
   (lb (Fb (pv 1))))),?_⟩
 walk_at "RD";have e2':H al=some (.lst ((ws.map Rc).map V.int)):=by rw [List.map_map];exact e2
 refine ⟨_,Om T e1,_,rfl,_,SqL.of e2',?_,by rw [List.length_map];omega,_,Vi T e1,_,rfl,by omega,by omega,?_⟩
 ·intro k hk;obtain ⟨p,hp,rfl⟩:=List.mem_map.mp hk;obtain ⟨h1,h2,h3⟩:=wk.1 p hp;have h4:=xA h1;have h5:=VF h1;unfold Rc;omega
 rw [show ((ws.length:Int)).toNat=ws.length by omega];refine nk.range (fun i σ H'=>Sb H H'∧NoT H'∧∃ x,σ=[some (.ref wp),some (.int ((ws.map Rc).sum + Xp (fun i=>SC (stL (Lb n ws) i (rf (Lb n ws)))) i)),x]) ⟨Sb.refl _,nt,_,by rw [show Xp _ 0=0 from rfl,Int.add_zero]⟩ ?_ ?_
 ·rintro i σ H1 hi zzq;refine zzP fun zzM zzh=>?_
  obtain ⟨s1,n1,x,rfl⟩:=zzq;subst zzh;(walk_at "RD"; repeat (dsimp only [TM];walk_at "RD"));refine ⟨_,ve T (s1 _ _ e1),sd,rfl,_,Yb D s1,fun ob es ep xs r=>?_⟩;have hsl:(rf (Lb n ws)).length ≤ 36:=iE hws;have hal:(bg n ws ws.length).length=(rf (Lb n ws)).length:=by rw [Po,List.length_map]
  refine bd.of (n:=(bg n ws ws.length).length) (fun j ys H'=>H'=H1∧ys=(stL (Lb n ws) i ((rf (Lb n ws)).take j)).map V.int) (by rw [hal];exact Nat.le_trans hsl (by decide)) ⟨rfl,rfl⟩ ?_ ?_ ?_ ?_ ?_
  ·rintro j ys H' hj ⟨rfl,_⟩;exact ⟨r.at_,hj⟩
  ·rintro ys H' ⟨rfl,_⟩;exact ⟨r.at_,Nat.le_refl _⟩
  ·rintro j ys H' hj ⟨_,rfl⟩;unfold stL;rw [List.length_map,List.length_map];refine Nat.le_trans (List.length_filter_le ..) ?_;rw [List.length_take];omega
  ·rintro j ys H' v H2 hj ⟨rfl,rfl⟩ ⟨rfl,k,bb,u',hxs,rfl⟩ N hN;obtain ⟨i1,j1,hp,hbb⟩:=Qu r.ks hxs;have he:=ll (List.mem_of_getElem? hp);have ef:stL (Lb n ws) i ((rf (Lb n ws)).take (j + 1))=stL (Lb n ws) i ((rf (Lb n ws)).take j) ++ (if i1=i then [(Lb n ws).st i1 j1] else []):=by
    unfold stL;rw [List.take_add_one,hp,List.filter_append,List.map_append];show _ ++ List.map _ (List.filter _ [(i1,j1)])=_;rw [List.filter_cons,List.filter_nil];by_cases h:i1=i
    ·rw [if_pos h,if_pos (decide_eq_true h)];rfl
    ·rw [if_neg h,if_neg (by simpa using h)];rfl
   walk_at "RD";refine ⟨Sub.name,_,SqT.of hbb,_,wb (j:=0) rfl,rfl,?_⟩;by_cases h:i1=i
   ·rw [if_pos (by rw [h];exact decide_eq_true rfl)];refine ⟨_,ve T (s1 _ _ e1),sd,rfl,_,Yb D s1,lf i1 j1,hbb,_,FB he,hN _ _ ⟨rfl,?_⟩⟩;rw [ef,if_pos h,List.map_append];rfl
   ·rw [if_neg (by rw [decide_eq_true_eq];exact fun g=>h (Int.ofNat.inj (V.int.inj g)))];refine hN _ _ ⟨rfl,?_⟩;rw [ef,if_neg h,List.append_nil]
  ·rintro ys H' ⟨rfl,rfl⟩ l hl;rw [hal,List.take_length];refine ⟨l,rfl,_,SqL.of ib,?_⟩;have hS:Xp (fun i=>SC (stL (Lb n ws) i (rf (Lb n ws)))) (i + 1)=Xp (fun i=>SC (stL (Lb n ws) i (rf (Lb n ws)))) i + SC (stL (Lb n ws) i (rf (Lb n ws))):=rfl;rcases ZK (stL (Lb n ws) i (rf (Lb n ws))) (fun x hx=>by
    obtain ⟨j,he,rfl⟩:=QE hx;have:=wk.ok.s1 he
    omega) with ⟨g1,g2⟩ | g1
   ·rw [g1];exact ⟨_,_,rfl,rfl,s1.trans (db hl),n1.upd,by rw [hS,g2,← Int.add_assoc],_,rfl⟩
   ·rw [g1];exact ⟨_,_,rfl,rfl,s1.trans (db hl),n1.upd,by rw [hS,← Int.add_assoc],_,rfl⟩
 ·rintro σ H1 zzq;refine zzP fun zzM zzh=>?_
  obtain ⟨s1,n1,x,rfl⟩:=zzq;subst zzh;walk_at "RD";have hT:=TK wk.ok (mx:=fun i=>SC (stL (Lb n ws) i (rf (Lb n ws)))) (fun i=>uB _) fun i j e=>OD (PM wk.ok e)
  rw [rA] at hT;have hs:=AN (n:=n) (ws:=ws) ws.length (Nat.le_refl _);rw [List.take_length] at hs;rw [hs];refine q _ _ H1 s1 n1 hT ?_;rw [← rA];refine Int.le_trans (XI (c:=3000) (by decide) fun i hi=>?_) (show (ws.length:Int) * 3000 ≤ 20000 by omega);have hp:ws[i]? = some ws[i]:=List.getElem?_eq_getElem hi;obtain ⟨h1,h2,h3⟩:=wk.1 _ (List.mem_of_getElem? hp);have h5:=VF h1;have h6:(Lb n ws).al i ≤ 1100:=by
   rw [lE hp];unfold Rc;omega
  have h7:SC (stL (Lb n ws) i (rf (Lb n ws))) ≤ 1100:=by
   refine YD (by decide) fun x hx=>?_
   obtain ⟨j,he,rfl⟩:=QE hx;obtain ⟨p,p',g1,g2,_⟩:=Fx he;rw [(Jm g1 g2).2];have g3:=wk.1 p (List.mem_of_getElem? g1);have g4:=wk.1 p' (List.mem_of_getElem? g2);have:=cN g3.1 g4.1;omega
  omega
end
end My
namespace My
open PySem L2
theorem AJ {n:Int} {ws:List (WD × Int)} {z:Int} (hz:0 ≤ z):∀ i,(Lb n ws).m ≤ i→(Lb n ws).al i ≤ z:=fun i hi=>by
 have e:(Lb n ws).al i=0:=by
  show (match ws[i]? with | some p=>Rc p | none=>0)=0;rw [List.getElem?_eq_none hi]
 rw [e];exact hz
structure ny (S:Sys) (H H':Hp) (z:Int) (pb pa:Addr) (b:Nat→Int) (p:Pap):Prop where
 z1:1 ≤ z
 zl:z ≤ 20000
 nb:H pb=none
 eb:H' pb=some (.lst (Qv S b))
 rb:∀ v,0 ≤ b v∧b v < z
 does:Fn S z b
 pap:Zi H' p pa
 bear:Hc S (z - 1) (qp S) p=true
 form:Hi S.m (unO S (qp S)) p
theorem ny.least {n:Int} {ws:List (WD × Int)} (k:(Lb n ws).Ok) {H H':Hp} {z:Int} {pb pa:Addr} {b:Nat→Int} {p:Pap} (h:ny (Lb n ws) H H' z pb pa b p) {y:Int} (hy:0 < y) (hl:y < z) (c:Nat→Int):¬ Fn (Lb n ws) y c:=
 jE k (AJ (by have:=h.z1;omega)) h.bear hy (by omega)
noncomputable def ShI (n:Int) (ws:List (WD × Int)) (H H3:Hp) (c wl x rl:Addr) (j:Nat) (σ:St) (H':Hp):Prop:=∃ lo hi pa pb p b y1 y2 y3,j=(hi - lo).toNat∧0 ≤ lo∧lo < hi∧hi ≤ 20000∧Sb H3 H'∧NoT H'∧H pb=none∧H' pb=some (.lst (Qv (Lb n ws) b))∧(∀ v,0 ≤ b v∧b v < hi)∧Fn (Lb n ws) hi b∧Zi H' p pa∧Hc (Lb n ws) lo (qp (Lb n ws)) p=true∧Hi (Lb n ws).m (unO (Lb n ws) (qp (Lb n ws))) p∧σ=[some (.ref c),some (.ref wl),some (.ref x),some (.ref rl),some (.int lo),some (.int hi),some (.ref pa),some (.ref pb),y1,y2,y3]
section
variable (P:Program) (w:World)
noncomputable def bM (t:Adr) (vs:List V) (H:Hp) (n:Int) (ws:List (WD × Int)):Prop:=∃ c wl ds,vs=[.ref c,.ref wl]∧cf t H c n ds∧0 < n∧Ir H wl ws∧(∀ q ∈ ws,∃ i:Nat,ds[i]? = some q.1)∧Jx n ws∧NoT H
noncomputable def oB (t:Adr):Sp:=fun vs H Q _=>∃ n ws,bM t vs H n ws∧∀ r z pb pa b p H',Sb H H'→NoT H'→H' r=some (.tup [.int z,.ref pb,.ref pa])→ny (Lb n ws) H H' z pb pa b p→Q (.ref r) H'
end
section
variable {P:Program} {w:World} {K:PySem.W.Frag} {mg:Str→Option Value} {base:Heap} {t:Adr}
theorem FI (T:Txt w K mg t):Ub P w K mg base CX0 15 t.Bl t.Pl q44 (oB t):=by
 have g27:Ub P w K mg base CX0 13 t.Re t.Jf q32 (Nv P w t):=(dB T).mono (by decide);have g54:Ub P w K mg base CX0 14 t.Kl t.Ql ["wanted"] (gJ P w t):=(EN T).mono (by decide);have g55:Ub P w K mg base CX0 14 t.dh t.Vg ["wanted"] (xE P w t):=(bL T).mono (by decide);have g28:Ub P w K mg base CX0 14 t.Zg t.lh q43 (SD P w t):=AL T;refine T.Ao.ok Ec (fun vs H Q E h=>?_) (fun _ _ _ s H vs Q E hr h=>?_)
 ·obtain ⟨n,ws,⟨c,wl,ds,rfl,_⟩,_⟩:=h;rfl
 obtain ⟨n,ws,⟨c,wl,ds,rfl,C,hn,W,hds,wk,nt⟩,q⟩:=h;have hu:=Xl hr;have hlen:ws.length ≤ 20:=by have:=wk.2.1;omega
 have hb:∀ q ∈ ws,0 ≤ q.2∧q.2 ≤ 100000:=fun q hq=>by have:=wk.1 q hq;omega
 have h0:0 < ws.length:=List.length_pos_iff.mpr wk.2.2;refine ⟨_,(fb (yb (i:=2) Ec.nd (xm T.Rz g27 hr rfl T.bB T.Qn .nil Ce (ab (pv 0) (ab (pv 1) jb))))
   (fb (yb (i:=3) Ec.nd (qb g54 hr T.GB T.Uo.kp T.NB (ab (pv 2) jb)))
   (fb (yb (i:=4) Ec.nd gb)
   (fb (yb (i:=5) Ec.nd (qb g55 hr T.Zu T.Gj.kp T.Av (ab (pv 2) jb)))
   (fb (yb (i:=6) Ec.nd (Ab Jb (qb g28 hr T.Ej T.Of.kp T.Mj (ab (pv 2) (ab (pv 4) (ab (pv 3) jb)))) gb))
   (fb (yb (i:=7) Ec.nd (Ab Jb (qb g28 hr T.Ej T.Of.kp T.Mj (ab (pv 2) (ab (pv 5) (ab (pv 3) jb)))) gb))
   (fb (xB PassesOwn.never (Ob Pm (Kb Fg (pv 5) (pv 4)) gb (Vb _)) (fb (yb (i:=8) Ec.nd (Kb GK (Kb fc (pv 4) (pv 5)) gb))
   (fb (Vv (qb g28 hr T.Ej T.Of.kp T.Mj (ab (pv 2) (ab (pv 8) (ab (pv 3) jb)))) (Xf (K:=K) (n:=2) rfl rfl (vc (Ib (i:=9) Ec.nd) (vc (Ib (i:=10) Ec.nd) Yf))))
   (lb (Pc (Ob CF (pv 9) Jg (Vb _)) (fb (yb (i:=4) Ec.nd (pv 8))
   (lb (yb (i:=6) Ec.nd (pv 10)))) (fb (yb (i:=5) Ec.nd (pv 8))
   (lb (yb (i:=7) Ec.nd (pv 9)))))))))
   (lb (Fb (wc (ab (pv 5) (ab (pv 7) (ab (pv 6) jb))))))))))))),?_⟩
 refine zS (fun σ' H'=>∃ x,Sb H H'∧NoT H'∧jd P w t H' x n ws∧σ'=[some (.ref c),some (.ref wl),some (.ref x),none,none,none,none,none,none,none,none]) (fun D' hD=>?_) fun zzM zzh=>?_
 ·walk_at "RD";intro x dx hx hdx hne;have s1:Sb H (upd (upd H dx (.own x)) x (.ins t.cc dx [])):=(db hdx).trans (db (by rw [Eb (Ne.symm hne)];exact hx));refine ⟨x,dx,c,wl,n,ds,ws,rfl,ib,C.same s1,hn,xw W s1,hds,hlen,hb,(nt.upd).upd,fun H2 sx2 nt2 WA=>⟨rfl,?_⟩⟩;exact hD _ _ ⟨x,fun b u e=>sx2 b u (Nb e hx) (s1 _ _ e),nt2,WA,rfl⟩
 rintro σ1 H1 ⟨x,s1,n1,W1,rfl⟩;subst zzh;refine zS (fun σ' H'=>∃ rl k,Sb H1 H'∧NoT H'∧lev (Lb n ws) k=[]∧k ≤ 6∧Ay H' rl (ph (Lb n ws) k)∧σ'=[some (.ref c),some (.ref wl),some (.ref x),some (.ref rl),none,none,none,none,none,none,none]) (fun D' hD=>?_) fun zzM zzh=>?_
 ·walk_at "RD";exact ⟨x,n,ws,rfl,W1,wk,n1,fun r H' k s2 n2 hk0 hk6 L=>hD _ _ ⟨r,k,s2,n2,hk0,hk6,L,rfl⟩⟩
 rintro σ2 H2 ⟨rl,k,s2,n2,hk0,hk6,R,rfl⟩;have W2:=W1.same s2;subst zzh;simp only [xb];walk_at "RD";refine ⟨x,n,ws,rfl,W2,wk,n2,fun hi bh H3 s3 n3 Dh hhi=>?_⟩;have W3:=W2.same s3;have R3:=R.same s3;have h1:1 ≤ hi:=by
  have:=Dh.1 0 h0;have:=wk.ok.a1 (i:=0) h0;omega
 refine ⟨x,0,rl,k,n,ws,rfl,W3,R3,hk0,hk6,wk,n3,fun r4 bv pv H4 s4 n4 e4 SP=>?_⟩;rcases SP with ⟨b,pb,_,_,_,_,_,hb3⟩ | ⟨p0,pa0,rfl,rfl,hp1,hp2,hp3⟩
 ·have g1:=hb3.1 0 h0;have g2:=wk.ok.a1 (i:=0) h0;omega
 refine ⟨r4,rfl,_,SqT.of e4,_,wb (j:=1) rfl,?_⟩;refine ⟨x,hi,rl,k,n,ws,rfl,W3.same s4,R3.same s4,hk0,hk6,wk,n4,fun r5 bv pv H5 s5 n5 e5 SP=>?_⟩;rcases SP with ⟨b0,pb0,rfl,rfl,hb0,hb1,hb2,hb3⟩ | ⟨p1,pa1,_,_,_,g2,_⟩
 case inr=>exact absurd Dh (jE wk.ok (AJ (by omega)) g2 (by omega) (Int.le_refl _))
 refine ⟨r5,rfl,_,SqT.of e5,_,wb (j:=0) rfl,?_⟩;have s35:=s4.trans s5;have s03:=s1.trans (s2.trans s3);refine ⟨ShI n ws H H3 c wl x rl,⟨_,0,hi,pa0,pb0,p0,b0,_,_,_,rfl,Int.le_refl _,by omega,hhi,s35,n5,(s03.trans s4).free hb0,hb1,hb2,hb3,hp1.same s5,hp2,hp3,rfl⟩,?_⟩;rintro j σ H6 zzq;refine zzP fun zzM zzh=>?_
 obtain ⟨lo,hi',pa,pb,p,b,y1,y2,y3,rfl,hlo,hlt,hh,s6,n6,c1,c2,c3,c4,c5,c6,c7,rfl⟩:=zzq;have s06:=s03.trans s6;subst zzh;walk_at "RD";by_cases hw:1 < hi' - lo
 ·rw [if_pos (decide_eq_true hw)];have d1:=Int.ediv_mul_le (lo + hi') (show (2:Int) ≠ 0 by decide);have d2:=Int.lt_ediv_add_one_mul_self (lo + hi') (show (0:Int) < 2 by decide);generalize hsz:(lo + hi') / 2=sz at d1 d2 ⊢;have hs1:lo < sz:=by omega
  have hs2:sz < hi':=by omega
  refine ⟨fun σ' H'=>∃ m',m' < (hi' - lo).toNat∧ShI n ws H H3 c wl x rl m' σ' H',fun σ' H' g=>g,?_⟩;walk_at "RD";refine ⟨by unfold pQ;omega,x,sz,rl,k,n,ws,rfl,W3.same s6,R3.same s6,hk0,hk6,wk,n6,fun r7 bv pv H7 s7 n7 e7 SP=>⟨r7,rfl,_,SqT.of e7,rfl,_,_,rfl,_,_,rfl,rfl,?_⟩⟩;have s37:=s6.trans s7;rcases SP with ⟨b7,pb7,rfl,rfl,f0,f1,f2,f3⟩ | ⟨p7,pa7,rfl,rfl,f1,f2,f3⟩
  ·refine Mb false (fun Q hQ=>?_) (fun z=>nomatch z) (fun _=>?_)
   ·walk_at "RD";exact hQ
   ·walk_at "RD";exact ⟨(sz - lo).toNat,by omega,lo,sz,pa,pb7,p,b7,_,_,_,rfl,hlo,hs1,by omega,s37,n7,s06.free f0,f1,f2,f3,c5.same s7,c6,c7,rfl⟩
  ·refine Mb true (fun Q hQ=>?_) (fun _=>?_) (fun z=>nomatch z)
   ·walk_at "RD";exact hQ
   ·walk_at "RD";exact ⟨(hi' - sz).toNat,by omega,sz,hi',pa7,pb,p7,b,_,_,_,rfl,by omega,hs2,hh,s37,n7,c1,s7 _ _ c2,c3,c4,f1,f2,f3,rfl⟩
 ·rw [if_neg (by simpa using hw)];walk_at "RD";refine ⟨by decide,fun r hr=>q r hi' pb pa b p _ (s06.trans (db hr)) n6.upd ib ⟨by omega,hh,c1,db hr _ _ c2,c3,c4,c5.same (db hr),?_,c7⟩⟩;rw [show hi' - 1=lo by omega];exact c6
end
end My
namespace My
open PySem L2
noncomputable def Kk:Pap→Prop
 | .alone _=>True
 | .ring r=>r.length ≤ 12
 | .case _ _ p q=>Kk p∧Kk q
section
variable (P:Program) (w:World)
noncomputable def NP (t:Adr) (d:Nat) (vs:List V) (H:Hp) (z:Int) (n:Int) (ws:List (WD × Int)) (o:Od) (p:Pap):Prop:=∃ wp a pa,vs=[.ref wp,.int z,.ref a,.ref pa]∧jd P w t H wp n ws∧Rk P w H a o∧Px (Lb n ws) o∧Jx n ws∧Zi H p pa∧Hi ws.length d p∧Kk p∧NoT H
noncomputable def OH (t:Adr) (d:Nat):Sp:=fun vs H Q _=>∃ z n ws o p,NP P w t d vs H z n ws o p∧∀ H',Sb H H'→NoT H'→Q (.bl (Hc (Lb n ws) z o p)) H'
noncomputable def dO (t:Adr):Nat→Sp
 | 0=>fun _ _ _ _=>False
 | d + 1=>OH P w t d
noncomputable def YM (t:Adr) (d:Nat):Sp:=fun vs H Q _=>∃ z n ws o i j p1 p2,NP P w t d vs H z n ws o (.case i j p1 p2)∧∀ H',Sb H H'→NoT H'→Q (.bl (Hc (Lb n ws) z o (.case i j p1 p2))) H'
noncomputable def dA (t:Adr):Sp:=fun vs H Q _=>∃ c wl z pa n ds ws p d,vs=[.ref c,.ref wl,.int z,.ref pa]∧cf t H c n ds∧0 < n∧Ir H wl ws∧(∀ q ∈ ws,∃ i:Nat,ds[i]? = some q.1)∧Jx n ws∧Zi H p pa∧Hi ws.length d p∧d ≤ 10∧Kk p∧NoT H∧∀ H',Sb H H'→NoT H'→Q (.bl (Hc (Lb n ws) z (qp (Lb n ws)) p)) H'
end
section
variable {P:Program} {w:World} {K:PySem.W.Frag} {mg:Str→Option Value} {base:Heap} {t:Adr}
theorem jG (T:Txt w K mg t) (d:Nat) (g17:Ub P w K mg base CX0 (2 * d + 2) t.Te t.bf q10 (dO P w t d)):Ub P w K mg base CX0 (2 * d + 3) t.Rh t.li q10 (YM P w t d):=by
 refine T.Nk.ok Wn (fun vs H Q E h=>?_) (fun _ _ _ s H vs Q E hr h=>?_)
 ·obtain ⟨z,n,ws,o,i,j,p1,p2,⟨wp,a,pa,rfl,_⟩,_⟩:=h;rfl
 obtain ⟨z,n,ws,o,i,j,p1,p2,⟨wp,a,pa,rfl,W,O,od,wk,⟨b,c,h1,h2,h3⟩,hF,hS,nt⟩,q⟩:=h;obtain ⟨dx,al,sd,e1,e2,D⟩:=id W;have hu:=Xl hr;have hm:(Lb n ws).m ≤ 6:=wk.2.1;have g13:Ub P w K mg base CX0 (2 * d + 2) t.ud t.qd q8 (EA P w):=(OG T).mono (by omega);have g14:Ub P w K mg base CX0 (2 * d + 2) t.Gg t.Dg q8 (OE P w (Lb n ws)):=(UJ T _).mono (by omega);obtain ⟨d',rfl⟩:∃ d',d=d' + 1:=by
  cases d with
  | zero=>exact hF.elim
  | succ d=>exact ⟨d,rfl⟩
 obtain ⟨f1,f2,f3,f4⟩:=hF;refine ⟨_,(fb (OM (i:=4) (j:=5) rfl Wn.nd rfl rfl (by decide) rfl rfl (ab (Ab Jb (pv 3) gb) (ab (Ab Jb (pv 3) gb) jb)) rfl)
   (fb (Pc (PW.pt (gr (gu (qG hu (wc (ab (pv 4) (ab (pv 5) jb))) (uc (pv 0) rfl))) (wn (Vh (qb g13 hr T.Fh T.Ee.kp T.Eh (ab (pv 2) (ab (pv 4) (ab (pv 5) jb)))))))) (lb (Fb Tl)) Rb)
   (fb (Pc (Uk (Vh (qb g17 hr T.Nj T.Oe.kp T.xj (ab (pv 0) (ab (pv 1) (ab (qb g14 hr T.Mh T.vf.kp T.ii (ab (pv 2) (ab (pv 4) (ab (pv 5) jb)))) (ab (Ab Jb (pv 3) gb) jb))))))) (lb (Fb Tl)) Rb)
   (lb (Fb (qb g17 hr T.Nj T.Oe.kp T.xj (ab (pv 0) (ab (pv 1) (ab (qb g14 hr T.Mh T.vf.kp T.ii (ab (pv 2) (ab (pv 5) (ab (pv 4) jb)))) (ab (Ab Jb (pv 3) gb) jb)))))))))),?_⟩
 refine zS (fun σ' H'=>Sb H H'∧NoT H'∧σ'=[some (.ref wp),some (.int z),some (.ref a),some (.ref pa),some (.int (i:Int)),some (.int (j:Int))]) (fun D' hD=>?_) fun zzM zzh=>?_
 ·walk_at "RD";exact ⟨_,SqT.of h1,_,wb (j:=1) rfl,_,SqT.of h1,_,wb (j:=2) rfl,hD _ _ ⟨Sb.refl _,nt,rfl⟩⟩
 rintro σ1 H1 ⟨s1,n1,rfl⟩;have hBv:Hc (Lb n ws) z o (.case i j p1 p2)=((Lb n ws).e i j && !inO o i j && Hc (Lb n ws) z (o ++ [(i,j)]) p1 && Hc (Lb n ws) z (o ++ [(j,i)]) p2):=rfl;subst zzh;simp only [xb];refine qf (fun b H'=>Sb H H'∧NoT H'∧b = !((Lb n ws).e i j && !inO o i j)) (fun Q hQ=>?_) (fun H2 zz=>?_) (fun H2 zz=>?_)
 ·walk_at "RD";refine ⟨by decide,fun p hp=>⟨_,ve T ((s1.trans (db hp)) _ _ e1),sd,rfl,_,Yb D (s1.trans (db hp)),lf i j,ib,?_⟩⟩;rw [Fu];have sp:=s1.trans (db (o:=.tup [V.int (i:Int),V.int (j:Int)]) hp);cases he:(Lb n ws).e i j with
  | true=>
   rw [if_neg (by simp)];refine ⟨a,i,j,o,rfl,Yb O sp,n1.upd,_,rfl,hQ _ _ ⟨sp,n1.upd,?_⟩⟩;rw [he,Bool.true_and,Bool.not_not]
  | false=>
   rw [if_pos (by simp)];exact hQ _ _ ⟨sp,n1.upd,by rw [he];rfl⟩
 ·obtain ⟨s2,n2,zb⟩:=zz;have hb:((Lb n ws).e i j && !inO o i j)=false:=by rw [← Bool.not_not ((Lb n ws).e i j && _),← zb];rfl
  walk_at "RD";have:=q H2 s2 n2;rw [hBv,hb] at this;exact this
 obtain ⟨s2,n2,zb⟩:=zz;have hb:((Lb n ws).e i j && !inO o i j)=true:=by rw [← Bool.not_not ((Lb n ws).e i j && _),← zb];rfl
 have hb':=hb;rw [Bool.and_eq_true,Bool.not_eq_true'] at hb';obtain ⟨g1,g2⟩:=hb';have g2':=g2;unfold inO at g2';rw [Bool.or_eq_false_iff,decide_eq_false_iff_not,decide_eq_false_iff_not] at g2';rw [hBv,hb,Bool.true_and] at q;simp only [Xb,xb];refine qf (fun b H'=>Sb H H'∧NoT H'∧b = !Hc (Lb n ws) z (o ++ [(i,j)]) p1) (fun Q hQ=>?_) (fun H3 zz=>?_) (fun H3 zz=>?_)
 ·walk_at "RD";refine ⟨a,i,j,o,rfl,Yb O s2,od,wk.ok,hm,g2'.1,n2,fun r3 H3 s3 n3 O3=>?_⟩;have s23:=s2.trans s3;exact ⟨_,SqT.of (s23 _ _ h1),_,wb (j:=3) rfl,z,n,ws,o ++ [(i,j)],p1,⟨wp,r3,b,rfl,W.same s23,O3,od.put wk.ok g1 g2,wk,h2.same s23,f3,hS.1,n3⟩,fun H' s' n'=>⟨_,rfl,hQ _ _ ⟨s23.trans s',n',rfl⟩⟩⟩
 ·obtain ⟨s3,n3,zb3⟩:=zz;have hb3:Hc (Lb n ws) z (o ++ [(i,j)]) p1=false:=by rw [← Bool.not_not (Hc _ _ _ _),← zb3];rfl
  walk_at "RD";have:=q H3 s3 n3;rw [hb3] at this;exact this
 obtain ⟨s3,n3,zb3⟩:=zz;have hb3:Hc (Lb n ws) z (o ++ [(i,j)]) p1=true:=by rw [← Bool.not_not (Hc _ _ _ _),← zb3];rfl
 rw [hb3,Bool.true_and] at q;simp only [Xb];walk_at "RD";refine ⟨a,j,i,o,rfl,Yb O s3,od,wk.ok,hm,g2'.2,n3,fun r4 H4 s4 n4 O4=>?_⟩;have s34:=s3.trans s4;exact ⟨_,SqT.of (s34 _ _ h1),_,wb (j:=4) rfl,z,n,ws,o ++ [(j,i)],p2,⟨wp,r4,c,rfl,W.same s34,O4,od.put wk.ok (wk.ok.sy g1) (by rw [Um];exact g2),wk,h3.same s34,f4,hS.2,n4⟩,fun H' s' n'=>q _ (s34.trans s') n'⟩
theorem FE (T:Txt w K mg t) (d:Nat) (g56:Ub P w K mg base CX0 (2 * d + 3) t.Rh t.li q10 (YM P w t d)):Ub P w K mg base CX0 (2 * d + 4) t.Te t.bf q10 (OH P w t d):=by
 have g25:Ub P w K mg base CX0 (2 * d + 3) t.wf t.Gf q19 (PK P w t):=(HM T).mono (by omega);refine T.Oe.ok mm (fun vs H Q E h=>?_) (fun _ _ _ s H vs Q E hr h=>?_)
 ·obtain ⟨z,n,ws,o,p,⟨wp,a,pa,rfl,_⟩,_⟩:=h;rfl
 obtain ⟨z,n,ws,o,p,⟨wp,a,pa,rfl,W,O,od,wk,hP,hF,hS,nt⟩,q⟩:=h;obtain ⟨dx,al,sd,e1,e2,D⟩:=id W;refine ⟨_,(fb (Pc (Ob tf (Ab Jb (pv 3) gb) xc (Vb _)) (lb (Fb (ae Pm (Ab ie (uc (pv 0) rfl) (Ab Jb (pv 3) gb)) (pv 1) (Vb _)))) Rb)
   (fb (Pc (Ob tf (Ab Jb (pv 3) gb) xc (Vb _)) (lb (Fb (qb g25 hr T.ip T.Wh.kp T.gp (ab (pv 0) (ab (pv 1) (ab (pv 2) (ab (Ab Jb (pv 3) gb) jb))))))) Rb)
   (lb (Fb (qb g56 hr T.Gw T.Nk.kp T.lw (ab (pv 0) (ab (pv 1) (ab (pv 2) (ab (pv 3) jb))))))))),?_⟩
 simp only [xb];cases p with
 | alone k=>
  have hk:k < ws.length:=by cases d <;> exact hF
  have hwk:ws[k]? = some ws[k]:=List.getElem?_eq_getElem hk;refine Mb true (fun Q hQ=>?_) (fun _=>?_) (fun z=>nomatch z)
  ·walk_at "RD";exact ⟨_,SqT.of hP,_,wb (j:=0) rfl,rfl,by rw [decide_eq_true rfl];exact hQ⟩
  ·walk_at "RD";refine ⟨_,Om T e1,_,SqT.of hP,_,wb (j:=1) rfl,_,rfl,_,_,rfl,SqL.of e2,_,wb (by rw [List.getElem?_map,hwk];rfl),_,rfl,?_⟩;have:=q _ (Sb.refl _) nt;rw [show Hc (Lb n ws) z o (.alone k)=decide (z < Rc ws[k]) by show decide (z < (Lb n ws).al k)=_;rw [lE hwk]] at this;exact this
 | ring r=>
  obtain ⟨b,h1,h2⟩:=hP;refine Mb false (fun Q hQ=>?_) (fun z=>nomatch z) (fun _=>?_)
  ·walk_at "RD";exact ⟨_,SqT.of h1,_,wb (j:=0) rfl,rfl,by rw [show decide (V.str (Str.ofString "ring")=V.str (Str.ofString "alone"))=false by decide +kernel];exact hQ⟩
  simp only [Xb,xb];refine Mb true (fun Q hQ=>?_) (fun _=>?_) (fun z=>nomatch z)
  ·walk_at "RD";exact ⟨_,SqT.of h1,_,wb (j:=0) rfl,rfl,by rw [decide_eq_true rfl];exact hQ⟩
  ·walk_at "RD";exact ⟨_,SqT.of h1,_,wb (j:=1) rfl,wp,z,a,b,o,r,n,ws,rfl,W,O,h2,hS,od,wk,nt,q _ (Sb.refl _) nt⟩
 | case i j p1 p2=>
  obtain ⟨b,c,h1,h2,h3⟩:=id hP;refine Mb false (fun Q hQ=>?_) (fun z=>nomatch z) (fun _=>?_)
  ·walk_at "RD";exact ⟨_,SqT.of h1,_,wb (j:=0) rfl,rfl,by rw [show decide (V.str (Str.ofString "case")=V.str (Str.ofString "alone"))=false by decide +kernel];exact hQ⟩
  simp only [Xb,xb];refine Mb false (fun Q hQ=>?_) (fun z=>nomatch z) (fun _=>?_)
  ·walk_at "RD";exact ⟨_,SqT.of h1,_,wb (j:=0) rfl,rfl,by rw [show decide (V.str (Str.ofString "case")=V.str (Str.ofString "ring"))=false by decide +kernel];exact hQ⟩
  simp only [Xb];walk_at "RD";exact ⟨z,n,ws,o,i,j,p1,p2,⟨wp,a,pa,rfl,W,O,od,wk,hP,hF,hS,nt⟩,q⟩
theorem qN (T:Txt w K mg t):∀ d,Ub P w K mg base CX0 (2 * d + 4) t.Te t.bf q10 (OH P w t d)
 | 0=>FE T 0 (jG T 0 (T.Oe.ok mm (fun vs H Q E h=>h.elim) (fun cdv A outer s H vs Q E hr h=>h.elim)))
 | d + 1=>FE T (d + 1) (jG T (d + 1) (qN T d))
theorem lH (T:Txt w K mg t):Ub P w K mg base CX0 25 t.Dv t.Iv q36 (dA t):=by
 have g27:Ub P w K mg base CX0 23 t.Re t.Jf q32 (Nv P w t):=(dB T).mono (by decide);have g26:Ub P w K mg base CX0 24 t.re t.qe ["wanted"] (xG P w t):=(MJ T).mono (by decide);have g17:Ub P w K mg base CX0 24 t.Te t.bf q10 (fun vs H Q E=>∃ n,n ≤ 10∧OH P w t n vs H Q E):=iq fun n hn=>(qN T n).mono (by omega)
 refine T.Qy.ok zA (fun vs H Q E h=>?_) (fun _ _ _ s H vs Q E hr h=>?_)
 ·obtain ⟨c,wl,z,pa,n,ds,ws,p,d,rfl,_⟩:=h;rfl
 obtain ⟨c,wl,z,pa,n,ds,ws,p,d,rfl,C,hn,W,hds,wk,hP,hF,hd,hS,nt,q⟩:=h;have hlen:ws.length ≤ 20:=by have:=wk.2.1;omega
 have hb:∀ q ∈ ws,0 ≤ q.2∧q.2 ≤ 100000:=fun q hq=>by have:=wk.1 q hq;omega
 refine ⟨_,(fb (yb (i:=4) zA.nd (xm T.Rz g27 hr rfl T.bB T.Qn .nil Ce (ab (pv 0) (ab (pv 1) jb))))
   (lb (Fb (qb g17 hr T.Nj T.Oe.kp T.xj (ab (pv 4) (ab (pv 2) (ab (qb g26 hr T.Wj T.pf.kp T.Pj (ab (pv 4) jb)) (ab (pv 3) jb)))))))),?_⟩
 refine zS (fun σ' H'=>∃ x,Sb H H'∧NoT H'∧jd P w t H' x n ws∧σ'=[some (.ref c),some (.ref wl),some (.int z),some (.ref pa),some (.ref x)]) (fun D' hD=>?_) fun zzM zzh=>?_
 ·walk_at "RD";intro x dx hx hdx hne;have s1:Sb H (upd (upd H dx (.own x)) x (.ins t.cc dx [])):=(db hdx).trans (db (by rw [Eb (Ne.symm hne)];exact hx));refine ⟨x,dx,c,wl,n,ds,ws,rfl,ib,C.same s1,hn,xw W s1,hds,hlen,hb,(nt.upd).upd,fun H2 sx2 nt2 WA=>⟨rfl,?_⟩⟩;exact hD _ _ ⟨x,fun b u e=>sx2 b u (Nb e hx) (s1 _ _ e),nt2,WA,rfl⟩
 rintro σ1 H1 ⟨x,s1,n1,W1,rfl⟩;subst zzh;walk_at "RD";exact ⟨x,n,ws,rfl,W1,wk,n1,fun r H2 s2 n2 O2=>⟨d,hd,z,n,ws,qp (Lb n ws),p,⟨x,r,pa,rfl,W1.same s2,O2,iz,wk,hP.same (s1.trans s2),hF,hS,n2⟩,fun H' s' n'=>q _ ((s1.trans s2).trans s') n'⟩⟩
end
end My
namespace My
open PySem L2
section
open PySem.Spec PyProof.Rows
variable {X:Cx}
noncomputable def FL (K:PySem.W.Frag):V→List V→Hp→VK→Prop:=fun x vs H Q=>∃ l ks k,x=.ref l∧vs=[.int k]∧SqT K H l (List.map V.int ks)∧Q (.int (ks.count k:Nat)) H
noncomputable def cQ (r:V→List V→Hp→VK→Prop) (to:TE) (t:TA):TE:=fun σ H Q=>to σ H fun x H1=>(∃ p xs,x=.ref p∧H1 p=some (.tup xs))∧t σ H1 fun xs H2=>r x xs H2 Q
theorem rO {o e:Expr} {es:List Expr} {to:TE} {t:TA} {name:Str} {apos cpos:Pos} {id:String} {r:V→List V→Hp→VK→Prop} (pa:PlainAttrs "tuple") (slot:Slot "tuple" name id) (hty:typeOf (.builtin id)=pure (.type "method_descriptor")) (hm:MtR X id r) (ho:PE X o to) (ha:PA X (e :: es) t)
  (hbase:attributeBase o name X.env (eval o X.env)=eval o X.env:=by rfl)
  (hfew:((backTo cpos (starEach (e :: es) X.env)).all (fun x=>!x.1) && (backToKw cpos (keywordEach [] X.env)).all (fun x=>x.1.isSome)
   && decide ((e :: es).length + ([]:List Keyword).length + (if ([]:List Keyword).isEmpty then 0 else 1) < 30))=true:=by rfl)
  (hline:(apos.endLine == cpos.line)=true:=by rfl) (hs:starEach (e :: es) X.env=(false,eval e X.env) :: starEach es X.env:=by rfl) (hplain:(backTo cpos (starEach es X.env)).any (·.1)=false:=by rfl) :
  PE X (.Call (.Attribute o name apos) (e :: es) [] cpos) (cQ r to t):=by
 intro pins s σ H Q I h;refine wpAny_Call_method_late hbase hfew hline rfl (thn (ho pins s σ H _ I h) fun v s1 ⟨x,H1,I1,r1,⟨p,xs,ex,ep⟩,q1⟩=>?_);subst ex;cases (show v=Value.ref p from r1);obtain ⟨⟨_,od,hd1,hd2⟩,its,_,ot,ht1,ht2,_⟩:=(show Bd X.prog X.w H1 s1.heap p (.tup xs) from I1.hok _ _ ep);refine ⟨"tuple",id,pa,slot,hty,⟨ot,ht1,ht2⟩,fun a ea=>?_,?_⟩
 ·cases ea;exact ⟨od,hd1,hd2⟩
 have hA:=ha cpos pins s1 σ H1 _ I1 q1;rw [hs] at hA ⊢;refine Calls.callWith_builtin (by show (false || (backTo cpos (starEach es X.env)).any (·.1))=false;rw [hplain] <;> rfl) (Calls.evalArgs_plain ?_);exact thn hA fun us s2 ⟨vs,H2,I2,r2,q2⟩=>hm pins s2 σ H2 (.ref p) vs _ us Q I2 r1 r2 q2
theorem dw (k:Int):∀ {its:List Value} {ns:List Int},IntsAre its ns→its.countP (isInt k)=ns.count k:=by
 intro its ns h
 induction h with
 | nil=>rfl
 | cons n t hr ih=>
  rw [List.countP_cons,List.count_cons,ih];congr 1
theorem dE:MtR X "tuple.count" (FL X.K):=by
 intro pins s σ H x xs v us Q I rx rv h;obtain ⟨l,ks,k,rfl,rfl,hq,q⟩:=h;cases (show v=Value.ref l from rx);obtain ⟨u,rfl,ru⟩:=On rv;obtain ⟨tu,rfl⟩:=(show ∃ t,u=Value.int k t from ru);obtain ⟨its,ri,pl,hz⟩:=I.tuple hq;have hi:=yu ri;obtain ⟨⟨cls,dd,data,sl⟩,ho,hc,n,hd⟩:=id pl;simp only at hc hd;subst hc hd;refine call_meets PySem.F.slot_tuple_count ⟨_,ho,rfl⟩ PySem.F.entry_tuple_count (PySem.F.args_tuple_count_2 _ _) (PySem.SeqAt.tuple_countAt l its.toArray n dd sl (.int k tu) (isInt k)) ⟨ho,fun y hy=>(eq_isInt k tu hi y (by simpa using hy)).at _ _,.int _,H,I.tok _,⟨_,rfl⟩,?_⟩;rw [show its.toArray.toList=its from rfl,dw k hi];exact q
end
section
open PySem.Spec PyProof.Rows PyProof HT
variable {prog:Program} {w:World} {A:Around} {E:Value→Shared→Prop} {s:Shared}
theorem cy (n:Nat):Builtin.Slice.sliceAdjust none none (-1) (n:Int)=((n:Int) - 1,-1):=by
 unfold Builtin.Slice.sliceAdjust;simp
theorem fz (n:Nat):Builtin.Slice.slicePlaces ((n:Int) - 1) (-1) (-1)=n:=by
 unfold Builtin.Slice.slicePlaces;rw [if_neg (by decide)];split
 ·rw [show (- -1:Int)=1 by decide,Int.ediv_one];omega
 ·omega
theorem iD {sl:Addr} {n:Nat} {tk:Tok} {Q:Int × Int × Nat→Shared→Prop} (hs:s.heap.IsSliceOf sl .none .none (.int (-1) tk)) (h:Q ((n:Int) - 1,-1,n) s):wpAny (model prog w) A (Builtin.Slice.sliceApplied (.ref sl) (pure (n:Int))) Q E s:=by
 obtain ⟨os,hos,hcs,hds⟩:=id hs;unfold Builtin.Slice.sliceApplied Builtin.Slice.sliceFields;refine wpAny_bind (wpAny_bind (wpAny_field hos hds (x:=.none) rfl (wpAny_bind (wpAny_field hos hds (x:=.none) rfl (wpAny_bind (wpAny_field hos hds (x:=.int (-1) tk) rfl (wpAny_pure ?_)))))));refine wpAny_bind (slicePart_int ?_);show wpAny _ _ (if ((-1:Int) == 0)=true then _ else _) _ _ s;rw [if_neg (by decide)];refine wpAny_bind (slicePart_none (wpAny_bind (slicePart_none (wpAny_bind (wpAny_pure ?_)))));show wpAny _ _ (match Builtin.Slice.sliceAdjust none none (-1) (n:Int) with | (lo,hi)=>pure (lo,(-1:Int),Builtin.Slice.slicePlaces lo hi (-1))) _ _ s;rw [cy n];show wpAny _ _ (pure ((n:Int) - 1,(-1:Int),Builtin.Slice.slicePlaces ((n:Int) - 1) (-1) (-1))) _ _ s;rw [fz];exact wpAny_pure h
theorem FJ {α β:Type} {f:α→Option β} {g:α→β}:∀ {l:List α},(∀ x ∈ l,f x=some (g x))→l.filterMap f=l.map g
 | [],_=>rfl
 | x :: l,h=>by rw [List.filterMap_cons,h x (List.mem_cons_self ..),List.map_cons,FJ fun y hy=>h y (List.mem_cons_of_mem _ hy)]
theorem LF (xs:Array Value):((List.range xs.size).filterMap fun (m:Nat)=>xs[(((xs.size:Int) - 1) + (m:Int) * (-1)).toNat]?).toArray=xs.toList.reverse.toArray:=by
 congr 1;refine List.ext_getElem? fun i=>?_
 have e:(List.range xs.size).filterMap (fun (m:Nat)=>xs[(((xs.size:Int) - 1) + (m:Int) * (-1)).toNat]?)=(List.range xs.size).map (fun m=>xs.toList.reverse.getD m .none):=by
  refine FJ fun m hm=>?_
  have hm':=List.mem_range.mp hm;rw [show (((xs.size:Int) - 1) + (m:Int) * (-1)).toNat=xs.size - 1 - m by omega];have hl:xs.size - 1 - m < xs.size:=by omega
  rw [Array.getElem?_eq_getElem hl,List.getD_eq_getElem?_getD,List.getElem?_reverse (by rw [Array.length_toList];exact hm'),Array.length_toList,Array.getElem?_toList,Array.getElem?_eq_getElem hl];rfl
 rw [e,List.getElem?_map];by_cases hi:i < xs.size
 ·rw [List.getElem?_range hi];show some (xs.toList.reverse.getD i .none)=_;rw [List.getD_eq_getElem?_getD,List.getElem?_eq_getElem (by rw [List.length_reverse,Array.length_toList];exact hi)];rfl
 ·rw [List.getElem?_eq_none (by rw [List.length_range];omega),List.getElem?_eq_none (by rw [List.length_reverse,Array.length_toList];omega)];rfl
theorem Bx {t sl:Addr} {items:Array Value} {tk:Tok} {Q:Value→Shared→Prop} (ht:IsTup s.heap t items) (hs:s.heap.IsSliceOf sl .none .none (.int (-1) tk))
  (h:Q (.ref s.heap.objs.size) { s with heap:=s.heap.push { cls:=.type "tuple",data:=.seq items.toList.reverse.toArray } })
  (hsz:items.size ≤ sizeLine):wpAny (model prog w) A (getItem (.ref t) (.ref sl)) Q E s:=by
 have htake:sizeOk (.seq items.toList.reverse.toArray):=by
  show items.toList.reverse.toArray.size ≤ sizeLine;rw [List.size_toArray,List.length_reverse,Array.length_toList];exact hsz
 obtain ⟨os,hos,hcs,hds⟩:=id hs;have hTs:s.TypeIs (.ref sl) "slice" := ⟨os,hos,hcs⟩;unfold getItem
 try with_reducible refine wpAny_holding ?_
 first | refine wpAny_bind (wpAny_pure ?_) | skip
 refine wpAny_bind (wpAny_sequenceKey ht.typeIs (by decide) ?_);refine wpAny_bind (wpAny_callSpecial?_slot (name:=Str.ofString "__getitem__") ht.typeIs PyProof.Rows.slot_tuple_getitem
  (wpAny_call_entry PyProof.Rows.slot_tuple_getitem ht.typeIs entry_tuple_getitem ?_ (args_tuple_getitem _ _)))
 show wpAny _ _ (Builtin.Tuple.tupleItemsOf (.ref t) >>= _) _ _ s;refine wpAny_bind (tupleItemsOf_ ht ?_);refine wpAny_bind (wpAny_typeOf hTs ?_);rw [if_pos (by decide)];refine wpAny_bind (iD hs ?_);have hno:¬ ((((items.size:Int) - 1) == 0 && (-1:Int) == 1 && items.size == items.size)=true):=by
  intro q;rw [Bool.and_eq_true,Bool.and_eq_true] at q;exact absurd q.1.2 (by decide)
 show wpAny _ _ (if (((items.size:Int) - 1) == 0 && (-1:Int) == 1 && items.size == items.size)=true then _ else _) _ _ s;rw [if_neg hno,LF]
 first
  | exact wpAny_bind (m:=Builtin.Tuple.tupleExact _) (wpAny_newObj_type (wpAny_pure ⟨_,rfl,wpAny_pure h⟩) htake)
  | exact wpAny_bind (m:=Builtin.Tuple.tupleExact _) (wpAny_newObj_type (wpAny_bind (wpAny_pure (wpAny_pure ⟨_,rfl,wpAny_pure h⟩))) htake)
  | exact wpAny_bind (wpAny_bind (m:=Builtin.Tuple.tupleExact _) (wpAny_newObj_type (wpAny_pure (wpAny_pure ⟨_,rfl,wpAny_pure h⟩)) htake))
  | exact wpAny_bind (wpAny_bind (m:=Builtin.Tuple.tupleExact _) (wpAny_newObj_type (wpAny_pure ⟨_,rfl,wpAny_pure h⟩) htake))
end
section
open PySem.Spec PyProof.Rows
variable {X:Cx} {e:Expr} {te:TE} {st:Expr} {ts:TE} {pos p2:Pos}
theorem NA:∀ {xs:List V} {us:List Value},zd xs us→zd xs.reverse us.reverse
 | [],_,.nil=>.nil
 | x :: xs,_,.cons r t=>by
  rw [List.reverse_cons,List.reverse_cons];exact (NA t).append (.cons r .nil)
noncomputable def fN (K:PySem.W.Frag) (te ts:TE):TE:=fun σ H Q=>te σ H fun x H1=>ts σ H1 fun y H2=>∃ a xs,x=.ref a∧y=.int (-1)∧SqT K H2 a xs∧∀ p,H2 p=none→Q (.ref p) (upd H2 p (.tup xs.reverse))
theorem cM (he:PE X e te) (hst:PE X st ts):PE X (.Subscript e (.Slice none none (some st) p2) pos) (fN X.K te ts):=by
 intro pins s σ H Q I h;refine Subscript_ (thn (he pins s σ H _ I h) fun v s1 ⟨x,H1,I1,r1,q1⟩=>?_);refine wpAny_Slice ?_;rw [evalPart_none];refine wpAny_pure (wpAny_pure ?_);rw [evalPart_some];refine thn (hst pins s1 σ H1 _ I1 q1) fun u s2 ⟨y,H2,I2,r2,a,xs,ex,ey,hx,q2⟩=>?_
 subst ex ey;obtain ⟨tk,rfl⟩:=r2;cases (show v=Value.ref a from r1);have I4:Inv X pins σ H2 { s2 with heap:=s2.heap.push { cls:=.type "slice",data:=.fields #[.none,.none,.int (-1) tk] } }:=I2.kept (t':=s2.toks) fun b ob q=>Heap.get?_push_of_some _ q
 obtain ⟨its,r,ht,hz⟩:=I4.tuple hx;have hlen:its.toArray.size=xs.length:=by rw [List.size_toArray];exact r.length.symm
 show wpAny (model X.prog X.w) X.A (subscriptTail e (.Slice none none (some st) p2) (.ref a) (.ref s2.heap.objs.size)) (EP X pins σ Q) X.xe { s2 with heap:=s2.heap.push { cls:=.type "slice",data:=.fields #[.none,.none,.int (-1) tk] } };refine tail_any (ops:=_) ht.typeIs PyProof.Rows.slot_tuple_getitem.lookup (Bx ht (Heap.IsSliceOf.new ..) ?_ (by rw [hlen];exact hz)) (by with_unfolding_all rfl);refine ⟨.ref _,_,I4.laid (t':=s2.toks) (o:=.tup xs.reverse) (fun b ob q=>Heap.get?_push_of_some _ q) (Nat.le_refl _) ?_,rfl,q2 _ (I4.hok.fresh (Nat.le_refl _))⟩;exact ⟨⟨by rw [List.length_reverse];exact hz,_,Heap.get?_push_size _ rfl,rfl⟩,_,NA r,IsTup.new _ _⟩
end
section
open PySem.Spec PyProof.Rows
variable {X:Cx}
end
end My
namespace My
open PySem L2
noncomputable def Ez (K:PySem.W.Frag) (a:Addr) (ns:List Int) (d:Nat):Sp:=fun vs H Q _=>∃ k m:Nat,vs=[.ref a,.int (k:Int),.int (m:Int),.int (d:Int)]∧(k + 2) * 2 ^ d ≤ 2000∧(1 ≤ m∧m ≤ 6)∧Sc K a ns H∧∀ r p H',Sb H H'→Sc K a ns H'→Zi H' p r→Hi m d p→Kk p→Q (.ref r) H'
noncomputable def xK (K:PySem.W.Frag) (a:Addr) (ns:List Int):Nat→Sp
 | 0=>fun _ _ _ _=>False
 | d + 1=>Ez K a ns d
theorem Wm {m d:Nat} {r:List Nat} (h:∀ k ∈ r,k < m):Hi m d (.ring r):=by cases d <;> exact h
theorem du {m d k:Nat} (h:k < m):Hi m d (.alone k):=by cases d <;> exact h
section
variable {P:Program} {w:World} {K:PySem.W.Frag} {mg:Str→Option Value} {base:Heap} {t:Adr}
theorem BA (T:Txt w K mg t) (a:Addr) (ns:List Int) (h63:ns.length ≤ 63) (d:Nat) (g18:Ub P w K mg base CX0 (d + 2) t.Ff t.Cf q23 (xK K a ns d)):Ub P w K mg base CX0 (d + 3) t.Ff t.Cf q23 (Ez K a ns d):=by
 have g0:Ub P w K mg base CX0 (d + 2) t.Nd t.Md q11 (Mc K a ns):=(Km T a ns h63).mono (by omega);refine T.Af.ok ld (fun vs H Q E h=>?_) (fun _ _ _ s H vs Q E hr h=>?_)
 ·obtain ⟨k,m,rfl,_⟩:=h;rfl
 obtain ⟨k,m,rfl,hk,hm,S,q⟩:=h;have hk2:k ≤ 2000:=by
  have:=Nat.mul_le_mul_left (k + 2) (Nat.one_le_two_pow (n:=d));omega
 refine ⟨_,(fb (yb (i:=4) ld.nd (qb g0 hr T.Db T.Bb.kp T.Cb (ab (pv 0) (ab (Kb fc gb (Kb Fd gb (pv 1))) (ab gb jb)))))
   (fb (Pc (PW.pt (Et (Ob Pm (pv 3) gb (Vb _)) (Et (Ob Pm (pv 4) gb (Vb _)) (Yq (Ob Pm (pv 2) gb (Vb _)))))) (fb (yb (i:=5) ld.nd (qb g0 hr T.Db T.Bb.kp T.Cb (ab (pv 0) (ab (Kb fc gb (Kb Fd gb (pv 1))) (ab (pv 2) jb)))))
   (fb (yb (i:=6) ld.nd (qb g0 hr T.Db T.Bb.kp T.Cb (ab (pv 0) (ab (Kb fc gb (Kb Fd gb (pv 1))) (ab (pv 2) jb)))))
   (fb (yb (i:=7) ld.nd (qb g18 hr T.Fk T.Af.kp T.Ik (ab (pv 0) (ab (Kb fc (Kb Fd gb (pv 1)) gb) (ab (pv 2) (ab (Kb Fg (pv 3) gb) jb))))))
   (lb (Fb (wc (ab xc (ab (pv 5) (ab (pv 6) (ab (pv 7) (ab (qb g18 hr T.Fk T.Af.kp T.Ik (ab (pv 0) (ab (Kb fc (Kb Fd gb (pv 1)) gb) (ab (pv 2) (ab (Kb Fg (pv 3) gb) jb))))) jb))))))))))) Rb)
   (fb (Pc (Ob tf (pv 4) gb (Vb _)) (lb (Fb (wc (ab xc (ab (qb g0 hr T.Db T.Bb.kp T.Cb (ab (pv 0) (ab (Kb fc gb (Kb Fd gb (pv 1))) (ab (pv 2) jb)))) jb))))) Rb)
   (fb (gg (i:=8) ld.nd rfl (Or.inl rfl) rfl (me rfl T.uf (ab (qb g0 hr T.Db T.Bb.kp T.Cb (ab (pv 0) (ab (Kb fc gb (Kb Fd gb (pv 1))) (ab gb jb)))) jb)) (Cc (sc:=ub Zh) rfl (by decide +kernel)) (N:=["_law_n","_law_script","_law_k","_law_many"]) (sel:=[none,some 0,some 1,some 2]) (Vc (M:=q56) (by decide +kernel)) (Blk.of (fun _ _ _ _=>(Ib (i:=0) (oh (N:=["_law_n","_law_script","_law_k","_law_many"]) (by decide +kernel) rfl))) (fun _ _ _ _=>⟨_,sf,by walk_at "B"⟩) (fun _ _ _ _=>⟨_,(qb g0 hr T.Db T.Bb.kp T.Cb (ab (pv 1) (ab (Kb fc (Kb fc gb (Kb Fd gb (pv 2))) (pv 0)) (ab (pv 3) jb)))),by walk_at "B"⟩)) rfl)
   (fb (Pc (Ob tf (pv 4) gb (Vb _)) (fb (nG (i:=9) ld.nd rfl (Or.inr rfl) (qb g0 hr T.Db T.Bb.kp T.Cb (ab (pv 0) (ab (Kb fc gb (Kb Fd gb (pv 1))) (ab (pv 2) jb)))))
   (lb (gg (i:=8) ld.nd rfl (Or.inl rfl) rfl (me rfl T.uf (ab (qc (Hx rfl) rfl T.BN Jt (ab (pv 2) (ab (Kb fc gb (qb g0 hr T.Db T.Bb.kp T.Cb (ab (pv 0) (ab (Kb fc gb (Kb Fd gb (pv 1))) (ab gb jb))))) jb))) jb)) (Cc (sc:=ub Zh) rfl (by decide +kernel)) (N:=["_law_n","_law_first","_law_many"]) (sel:=[none,some 9,some 2]) (Vc (M:=q56) (by decide +kernel)) (Blk.of (fun _ _ _ _=>(Ib (i:=0) (oh (N:=["_law_n","_law_first","_law_many"]) (by decide +kernel) rfl))) (fun _ _ _ _=>⟨_,sf,by walk_at "B"⟩) (fun _ _ _ _=>⟨_,(Kb Ig (Kb fc (pv 1) (pv 0)) (pv 2)),by walk_at "B"⟩)) rfl))) Rb)
   (lb (Fb (wc (ab xc (ab (Hg Iu rfl T.RL Xw (ab (pv 8) jb)) jb)))))))))),?_⟩
 refine zS (fun σ' H'=>H'=H∧∃ wy:Int,σ'=[some (.ref a),some (.int (k:Int)),some (.int (m:Int)),some (.int (d:Int)),some (.int wy),none,none,none,none,none]) (fun D' hD=>?_) fun zzM zzh=>?_
 ·walk_at "RD";exact ⟨.inl (by decide),_,_,rfl,S,by omega,by decide,hD _ _ ⟨rfl,_,rfl⟩⟩
 rintro σ1 H1 ⟨rfl,wy,rfl⟩;subst zzh;simp only [xb];refine Mb (decide (0 < d) && decide (2 < wy) && decide (1 < m)) (fun Q hQ=>?_) (fun hb=>?_) (fun hb=>?_)
 ·walk_at "RD";by_cases c1:0 < d
  ·rw [if_pos (decide_eq_true (by omega))];rw [decide_eq_true c1,Bool.true_and] at hQ;by_cases c2:2 < wy
   ·rw [if_pos (decide_eq_true c2)];rw [decide_eq_true c2,Bool.true_and] at hQ;rw [show decide ((1:Int) < (m:Int))=decide (1 < m) from decide_eq_decide.mpr (by omega)];exact hQ
   ·rw [if_neg (by simpa using c2)];rw [decide_eq_false c2,Bool.false_and] at hQ;exact hQ
  ·rw [if_neg (by rw [decide_eq_true_eq];omega)];rw [decide_eq_false c1,Bool.false_and,Bool.false_and] at hQ;exact hQ
 ·simp only [Bool.and_eq_true,decide_eq_true_eq] at hb;obtain ⟨d',rfl⟩:∃ d',d=d' + 1:=⟨d - 1,by omega⟩;have hk3:(2 * k + 1 + 2) * 2 ^ d' ≤ 2000∧(2 * k + 2 + 2) * 2 ^ d' ≤ 2000:=by
   rw [Nat.pow_succ] at hk;have e1:(k + 2) * (2 ^ d' * 2)=(2 * k + 4) * 2 ^ d':=by rw [Nat.mul_comm (2 ^ d') 2,← Nat.mul_assoc];congr 1;omega
   rw [e1] at hk;exact ⟨Nat.le_trans (Nat.mul_le_mul_right _ (by omega)) hk,Nat.le_trans (Nat.mul_le_mul_right _ (by omega)) hk⟩
  have i1:=Fc ns (201 + 11 * (k:Int)) (m:=(m:Int)) (by omega);have i2:=Jc ns (201 + 11 * (k:Int)) (m:=(m:Int)) (by omega);have j1:=Fc ns (202 + 11 * (k:Int)) (m:=(m:Int)) (by omega);have j2:=Jc ns (202 + 11 * (k:Int)) (m:=(m:Int)) (by omega);obtain ⟨i,hi⟩:∃ i:Nat,Lg ns (201 + 11 * (k:Int)) (m:Int)=(i:Int):=⟨_,(Int.toNat_of_nonneg i1).symm⟩;obtain ⟨j,hj⟩:∃ j:Nat,Lg ns (202 + 11 * (k:Int)) (m:Int)=(j:Int):=⟨_,(Int.toNat_of_nonneg j1).symm⟩;rw [hi] at i2;rw [hj] at j2;simp only [xb];refine zzC (fun σ' H'=>H'=H1∧σ'=[some (.ref a),some (.int (k:Int)),some (.int (m:Int)),some (.int ((d' + 1:Nat):Int)),some (.int wy),some (.int (i:Int)),none,none,none,none]) (fun D' hD=>?_) fun zzM zzh=>?_
  ·walk_at "RD";exact ⟨.inl (by decide),_,_,rfl,S,by omega,by omega,by rw [hi];exact hD _ _ ⟨rfl,rfl⟩⟩
  rintro σ2 H2 ⟨rfl,rfl⟩;subst zzh;simp only [xb];refine zzC (fun σ' H'=>H'=H2∧σ'=[some (.ref a),some (.int (k:Int)),some (.int (m:Int)),some (.int ((d' + 1:Nat):Int)),some (.int wy),some (.int (i:Int)),some (.int (j:Int)),none,none,none]) (fun D' hD=>?_) fun zzM zzh=>?_
  ·walk_at "RD";exact ⟨.inl (by decide),_,_,rfl,S,by omega,by omega,by rw [hj];exact hD _ _ ⟨rfl,rfl⟩⟩
  rintro σ3 H3 ⟨rfl,rfl⟩;subst zzh;simp only [xb];walk_at "RD";have ed:((d' + 1:Nat):Int) - 1=(d':Int):=by omega
  refine ⟨.inl (by decide),2 * k + 1,m,by rw [ed,show 2 * (k:Int) + 1=((2 * k + 1:Nat):Int) by omega],hk3.1,hm,S,fun r1 p1 H4 s4 S4 P1 F1 Sh1=>⟨.inl (by decide),2 * k + 2,m,by rw [ed,show 2 * (k:Int) + 2=((2 * k + 2:Nat):Int) by omega],hk3.2,hm,S4,fun r2 p2 H5 s5 S5 P2 F2 Sh2=>⟨by decide,fun r hr=>?_⟩⟩⟩;exact q r (.case i j p1 p2) _ ((s4.trans s5).trans (db hr)) (S5.new hr) ⟨r1,r2,ib,(P1.same s5).same (db hr),P2.same (db hr)⟩ ⟨by omega,by omega,F1,F2⟩ ⟨Sh1,Sh2⟩
 have i1:=Fc ns (201 + 11 * (k:Int)) (m:=(m:Int)) (by omega);have i2:=Jc ns (201 + 11 * (k:Int)) (m:=(m:Int)) (by omega);obtain ⟨i,hi⟩:∃ i:Nat,Lg ns (201 + 11 * (k:Int)) (m:Int)=(i:Int):=⟨_,(Int.toNat_of_nonneg i1).symm⟩;rw [hi] at i2;simp only [Xb,xb];refine Mb (decide (wy=0)) (fun Q hQ=>?_) (fun hb=>?_) (fun hb=>?_)
 ·walk_at "RD";exact hQ
 ·walk_at "RD";refine ⟨.inl (by decide),_,_,rfl,S,by omega,by omega,by decide,fun r hr=>?_⟩;exact q r (.alone i) _ (db hr) (S.new hr) (by show _=_;rw [ib,hi]) (du (by omega)) trivial
 simp only [Xb,xb];refine zzC (fun σ' H'=>Sb H1 H'∧Sc K a ns H'∧∃ (rl:Addr) (r:List Nat),H' rl=some (.lst (ac r))∧(∀ x ∈ r,x < m)∧r.length ≤ 12∧σ'=[some (.ref a),some (.int (k:Int)),some (.int (m:Int)),some (.int (d:Int)),some (.int wy),none,none,none,some (.ref rl),none]) (fun D' hD=>?_) fun zzM zzh=>?_
 ·have l1:=Fc ns (203 + 11 * (k:Int)) (m:=5) (by decide);have l2:=Jc ns (203 + 11 * (k:Int)) (m:=5) (by decide);walk_at "RD";refine ⟨.inl (by decide),_,_,rfl,S,by omega,by decide,_,rfl,by omega,by omega,?_⟩;have hN:(Lg ns (203 + 11 * (k:Int)) 5).toNat ≤ 5:=by omega
  generalize (Lg ns (203 + 11 * (k:Int)) 5).toNat=N at hN;refine bd.range_map (fun n=>V.int (Lg ns (204 + 11 * (k:Int) + n) m)) (Nat.le_trans hN (by decide)) (fun n N' hn hN'=>?_) (fun p hp=>?_)
  ·walk_at "RD";exact ⟨Sub.name,.inl (by decide),_,_,rfl,S,by omega,by omega,hN'⟩
  ·refine hD _ _ ⟨db hp,S.new hp,p,(List.range N).map (fun n:Nat=>(Lg ns (204 + 11 * (k:Int) + (n:Int)) (m:Int)).toNat),?_,fun x hx=>?_,by rw [List.length_map,List.length_range];omega,rfl⟩
   ·rw [ib];unfold ac;rw [List.map_map];refine congrArg (fun l=>some (HO.lst l)) (List.map_congr_left fun n _=>?_);show V.int _=V.int _;rw [Int.toNat_of_nonneg (Fc ns _ (by omega))]
   ·obtain ⟨n,_,rfl⟩:=List.mem_map.mp hx;have:=Fc ns (204 + 11 * (k:Int) + n) (m:=(m:Int)) (by omega);have:=Jc ns (204 + 11 * (k:Int) + n) (m:=(m:Int)) (by omega);omega
 rintro σ2 H2 ⟨s2,S2,rl,r,e2,hr1,hr2,rfl⟩;subst zzh;simp only [xb];refine zzC (fun σ' H'=>Sb H1 H'∧Sc K a ns H'∧∃ (rl:Addr) (r:List Nat) (x:Option V),H' rl=some (.lst (ac r))∧(∀ x ∈ r,x < m)∧r.length ≤ 12∧σ'=[some (.ref a),some (.int (k:Int)),some (.int (m:Int)),some (.int (d:Int)),some (.int wy),none,none,none,some (.ref rl),x]) (fun D' hD=>?_) fun zzM zzh=>?_
 ·refine Mb (decide (wy=1)) (fun Q hQ=>?_) (fun hb=>?_) (fun hb=>?_)
  ·walk_at "RD";exact hQ
  ·have l1:=Fc ns (203 + 11 * (k:Int)) (m:=3) (by decide);have l2:=Jc ns (203 + 11 * (k:Int)) (m:=3) (by decide);walk_at "RD";refine ⟨.inl (by decide),_,_,rfl,S2,by omega,by omega,.inl (by decide),_,_,rfl,S2,by omega,by decide,_,rfl,by split <;> omega,by split <;> omega,?_⟩;rw [hi];have hN:(if 2 + Lg ns (203 + 11 * (k:Int)) 3 < (m:Int) then 2 + Lg ns (203 + 11 * (k:Int)) 3 else (m:Int)).toNat ≤ 6:=by split <;> omega
   generalize (if 2 + Lg ns (203 + 11 * (k:Int)) 3 < (m:Int) then 2 + Lg ns (203 + 11 * (k:Int)) 3 else (m:Int)).toNat=N at hN;refine bd.range_map (fun n=>V.int (((i + n) % m:Nat):Int)) (Nat.le_trans hN (by decide)) (fun n N' hn hN'=>?_) (fun p hp=>?_)
   ·walk_at "RD";refine ⟨Sub.name,by omega,?_⟩;rw [show ((i:Int) + (n:Int)) % (m:Int)=(((i + n) % m:Nat):Int) by rw [Int.natCast_emod];rfl];exact hN'
   ·refine hD _ _ ⟨s2.trans (db hp),S2.new hp,p,(List.range N).map (fun n=>(i + n) % m),_,?_,fun x hx=>?_,by rw [List.length_map,List.length_range];omega,rfl⟩
    ·rw [ib];unfold ac;rw [List.map_map];rfl
    ·obtain ⟨n,_,rfl⟩:=List.mem_map.mp hx;exact Nat.mod_lt _ (by omega)
  ·simp only [Xb];exact hD _ _ ⟨s2,S2,rl,r,_,e2,hr1,hr2,rfl⟩
 rintro σ3 H3 ⟨s3,S3,rl,r,x,e3,hr1,hr2,rfl⟩;subst zzh;(try dsimp only);walk_at "RD";refine ⟨_,.inl ⟨SqL.of e3,fun l hl=>⟨by decide,fun p hp=>?_⟩⟩⟩;exact q p (.ring r) _ ((s3.trans (db hl)).trans (db hp)) ((S3.new hl).new hp) ⟨l,ib,db hp _ _ ib⟩ (Wm hr1) hr2
theorem qJ (T:Txt w K mg t) (a:Addr) (ns:List Int) (h63:ns.length ≤ 63):∀ d,Ub P w K mg base CX0 (d + 3) t.Ff t.Cf q23 (Ez K a ns d)
 | 0=>BA T a ns h63 0 (T.Af.ok ld (fun vs H Q E h=>h.elim) (fun cdv A outer s H vs Q E hr h=>h.elim))
 | d + 1=>BA T a ns h63 (d + 1) (qJ T a ns h63 d)
end
noncomputable def cu:Pap→Prop
 | .alone _=>True
 | .ring r=>2 ≤ r.length∧r.length ≤ 6
 | .case _ _ p q=>cu p∧cu q
theorem Kg:∀ {p:Pap},cu p→Kk p:=by
 intro p
 induction p with
 | alone k=>intro _;trivial
 | ring r=>intro h;show r.length ≤ 12;have:=h.2;omega
 | case i j p q ihp ihq=>intro h;exact ⟨ihp h.1,ihq h.2⟩
theorem Lw {S:Sys} {z:Int} (hm:S.m ≤ 6):∀ (p:Pap) (d:Nat) (o:Od),Hi S.m d p→Hc S z o p=true→cu p:=by
 intro p
 induction p with
 | alone k=>intro _ _ _ _;trivial
 | ring r=>
  intro d o hf hb;have hf':∀ k ∈ r,k < S.m:=by cases d <;> exact hf
  have hb':fg S z o r=true:=hb;unfold fg at hb';simp only [Bool.and_eq_true,decide_eq_true_eq] at hb';have:=wz hb'.1.1.2 hf';exact ⟨hb'.1.1.1,by omega⟩
 | case i j p q ihp ihq=>
  intro d o hf hb;cases d with
  | zero=>exact hf.elim
  | succ d=>
   obtain ⟨_,_,h1,h2⟩:=hf;have hb':(S.e i j && !inO o i j && Hc S z (o ++ [(i,j)]) p && Hc S z (o ++ [(j,i)]) q)=true:=hb;simp only [Bool.and_eq_true] at hb';exact ⟨ihp d _ h1 hb'.1.2,ihq d _ h2 hb'.2⟩
noncomputable def DB (K:PySem.W.Frag) (a:Addr) (ns:List Int) (d:Nat):Sp:=fun vs H Q _=>∃ (k m:Nat) (pa:Addr) (p:Pap),vs=[.ref a,.ref pa,.int (k:Int)]∧k + d ≤ 100∧(1 ≤ m∧m ≤ 6)∧Zi H p pa∧Hi m d p∧cu p∧Sc K a ns H∧∀ r p' H',Sb H H'→Sc K a ns H'→Zi H' p' r→Hi m d p'→Kk p'→Q (.ref r) H'
noncomputable def CK (K:PySem.W.Frag) (a:Addr) (ns:List Int):Nat→Sp
 | 0=>fun _ _ _ _=>False
 | d + 1=>DB K a ns d
theorem MP {xs:List V} {j:Nat} (h:j ≤ xs.length):Sv xs none (some (j:Int))=xs.take j:=by
 unfold Sv;rw [HT.sIx_nat,Nat.min_eq_left h];show (xs.drop 0).take (j - 0)=_;rw [List.drop_zero,Nat.sub_zero]
theorem DQ {xs:List V} {j:Nat} (h:j ≤ xs.length):Sv xs (some (j:Int)) none=xs.drop j:=by
 unfold Sv;rw [HT.sIx_nat,Nat.min_eq_left h];show (xs.drop j).take (xs.length - j)=_;rw [List.take_of_length_le (by rw [List.length_drop];exact Nat.le_refl _)]
theorem Wt (r:List Nat) (j:Nat):(ac r).take j=ac (r.take j):=by unfold ac;rw [List.map_take]
theorem KC (r:List Nat) (j:Nat):(ac r).drop j=ac (r.drop j):=by unfold ac;rw [List.map_drop]
theorem AE (r:List Nat):(ac r).reverse=ac r.reverse:=by unfold ac;rw [List.map_reverse]
theorem Ww (r u:List Nat):ac r ++ ac u=ac (r ++ u):=by unfold ac;rw [List.map_append]
theorem jo {r:List Nat} (h:r ≠ []):ac r ≠ []:=fun z=>h (by unfold ac at z;exact List.map_eq_nil_iff.mp z)
theorem VL {m:Nat}:∀ {p:Pap} {d:Nat},Hi m d p→Hi m (d + 1) p:=by
 intro p
 induction p with
 | alone k=>intro d h;exact du (by cases d <;> exact h)
 | ring r=>intro d h;exact Wm (by cases d <;> exact h)
 | case i j p q ihp ihq=>
  intro d h;cases d with
  | zero=>exact h.elim
  | succ d=>exact ⟨h.1,h.2.1,ihp h.2.2.1,ihq h.2.2.2⟩
section
variable {P:Program} {w:World} {K:PySem.W.Frag} {mg:Str→Option Value} {base:Heap} {t:Adr}
theorem Iz (T:Txt w K mg t) (a:Addr) (ns:List Int) (h63:ns.length ≤ 63) (d:Nat) (g19:Ub P w K mg base CX0 (d + 2) t.ye t.we q24 (CK K a ns d)):Ub P w K mg base CX0 (d + 3) t.ye t.we q24 (DB K a ns d):=by
 have g0:Ub P w K mg base CX0 (d + 2) t.Nd t.Md q11 (Mc K a ns):=(Km T a ns h63).mono (by omega);refine T.Be.ok Vd (fun vs H Q E h=>?_) (fun _ _ _ s H vs Q E hr h=>?_)
 ·obtain ⟨k,m,pa,p,rfl,_⟩:=h;rfl
 obtain ⟨k,m,pa,p,rfl,hk,hm,hP,hF,hR,S,q⟩:=h;have w1:=Fc ns (402 + 5 * (k:Int)) (m:=4) (by decide);have w2:=Jc ns (402 + 5 * (k:Int)) (m:=4) (by decide);refine ⟨_,(fb (Pc (PW.pt (Et (Ob tf (Ab Jb (pv 1) gb) xc (Vb _)) (Yq (Ob Pm (qb g0 hr T.Db T.Bb.kp T.Cb (ab (pv 0) (ab (Kb fc gb (Kb Fd gb (pv 2))) (ab gb jb)))) gb (Vb _))))) (fb (Pc (Ob tf (qb g0 hr T.Db T.Bb.kp T.Cb (ab (pv 0) (ab (Kb fc gb (Kb Fd gb (pv 2))) (ab gb jb)))) gb (Vb _)) (lb (Fb (wc (ab xc (ab (Ab Jb (pv 1) gb) (ab (Ab Jb (pv 1) gb) (ab (qb g19 hr T.zi T.Be.kp T.Fi (ab (pv 0) (ab (Ab Jb (pv 1) gb) (ab (Kb fc (pv 2) gb) jb)))) (ab (Ab Jb (pv 1) gb) jb)))))))) Rb)
   (lb (Fb (wc (ab xc (ab (Ab Jb (pv 1) gb) (ab (Ab Jb (pv 1) gb) (ab (Ab Jb (pv 1) gb) (ab (qb g19 hr T.zi T.Be.kp T.Fi (ab (pv 0) (ab (Ab Jb (pv 1) gb) (ab (Kb fc (pv 2) gb) jb)))) jb))))))))) Rb)
   (fb (yb (i:=3) Vd.nd (qb g0 hr T.Db T.Bb.kp T.Cb (ab (pv 0) (ab (Kb fc gb (Kb Fd gb (pv 2))) (ab gb jb)))))
   (fb (Pc (Ob tf (Ab Jb (pv 1) gb) xc (Vb _)) (fb (yb (i:=4) Vd.nd (Pf (ab (wc (ab xc (ab (Ab Jb (pv 1) gb) (ab (Ab Jb (pv 1) gb) (ab (Ab Jb (pv 1) gb) (ab (Ab Jb (pv 1) gb) jb)))))) (ab (wc (ab xc (ab (Ab Jb (pv 1) gb) (ab (Ab Jb (pv 1) gb) (ab (Ab Jb (pv 1) gb) (ab (Ab Jb (pv 1) gb) jb)))))) jb))))
   (lb (Fb (Ab ie (Kb RA (pv 4) (Pf (ab (wc (ab xc (ab (Ab Jb (pv 1) gb) (ab (Ab Jb (pv 1) gb) (ab (Ab Jb (pv 1) gb) (ab (Ab Jb (pv 1) gb) jb)))))) (ab (Ab Jb (pv 1) gb) jb)))) (pv 3))))) Rb)
   (fb (Pc (Ob tf (Ab Jb (pv 1) gb) xc (Vb _)) (fb (yb (i:=5) Vd.nd (Ab Jb (pv 1) gb))
   (fb (yb (i:=6) Vd.nd (yg vt (pv 5) Em (lg (Kb Fg (qc bc rfl T.Ci ic (ab (pv 5) jb)) gb))))
   (lb (Fb (wc (ab xc (ab (Ab ie (Pf (ab (cM (pv 5) (JK kE gb)) (ab (Kb cz (yg vt (pv 5) (lg gb) Em) (yg vt (pv 5) Em (lg gb))) (ab (pv 6) (ab (Kb cz (pv 5) (pv 5)) jb))))) (pv 3)) jb))))))) Rb)
   (lb (Fb (wc (ab xc (ab (wc (ab (Ab Jb (pv 1) gb) jb)) jb))))))))),?_⟩
 simp only [xb];cases p with
 | alone i=>
  have hi:i < m:=by cases d <;> exact hF
  refine Mb false (fun Q hQ=>?_) (fun z=>nomatch z) (fun _=>?_)
  ·walk_at "RD";refine ⟨_,SqT.of hP,_,wb (j:=0) rfl,rfl,?_⟩;rw [show decide (V.str (Str.ofString "alone")=V.str (Str.ofString "case"))=false by decide +kernel,if_neg Bool.false_ne_true];exact hQ
  simp only [Xb,xb];refine zzC (fun σ' H'=>H'=H∧∃ x,σ'=[some (.ref a),some (.ref pa),some (.int (k:Int)),x,none,none,none]) (fun D' hD=>?_) fun zzM zzh=>?_
  ·walk_at "RD";exact ⟨.inl (by decide),_,_,rfl,S,by omega,by decide,hD _ _ ⟨rfl,_,rfl⟩⟩
  rintro σ1 H1 ⟨rfl,x,rfl⟩;subst zzh;simp only [xb];refine Mb false (fun Q hQ=>?_) (fun z=>nomatch z) (fun _=>?_)
  ·walk_at "RD";exact ⟨_,SqT.of hP,_,wb (j:=0) rfl,rfl,by rw [show decide (V.str (Str.ofString "alone")=V.str (Str.ofString "case"))=false by decide +kernel];exact hQ⟩
  simp only [Xb,xb];refine Mb false (fun Q hQ=>?_) (fun z=>nomatch z) (fun _=>?_)
  ·walk_at "RD";exact ⟨_,SqT.of hP,_,wb (j:=0) rfl,rfl,by rw [show decide (V.str (Str.ofString "alone")=V.str (Str.ofString "ring"))=false by decide +kernel];exact hQ⟩
  simp only [Xb];walk_at "RD";refine ⟨_,SqT.of hP,_,wb (j:=1) rfl,by decide,fun l hl=>⟨by decide,fun p hp=>?_⟩⟩;exact q p (.ring [i]) _ ((db hl).trans (db hp)) ((S.new hl).new hp) ⟨l,ib,db hp _ _ ib⟩ (Wm (by simpa using hi)) (by show 1 ≤ 12;decide)
 | ring r=>
  obtain ⟨b,h1,h2⟩:=hP;have hR':2 ≤ r.length∧r.length ≤ 6:=hR;have hk':∀ x ∈ r,x < m:=by cases d <;> exact hF
  refine Mb false (fun Q hQ=>?_) (fun z=>nomatch z) (fun _=>?_)
  ·walk_at "RD";refine ⟨_,SqT.of h1,_,wb (j:=0) rfl,rfl,?_⟩;rw [show decide (V.str (Str.ofString "ring")=V.str (Str.ofString "case"))=false by decide +kernel,if_neg Bool.false_ne_true];exact hQ
  simp only [Xb,xb];refine zzC (fun σ' H'=>H'=H∧∃ wy:Nat,wy < 4∧σ'=[some (.ref a),some (.ref pa),some (.int (k:Int)),some (.int (wy:Int)),none,none,none]) (fun D' hD=>?_) fun zzM zzh=>?_
  ·walk_at "RD";exact ⟨.inl (by decide),_,_,rfl,S,by omega,by decide,hD _ _ ⟨rfl,(Lg ns (402 + 5 * (k:Int)) 4).toNat,by omega,by rw [Int.toNat_of_nonneg w1]⟩⟩
  rintro σ1 H1 ⟨rfl,wy,hwy,rfl⟩;subst zzh;simp only [xb];refine Mb false (fun Q hQ=>?_) (fun z=>nomatch z) (fun _=>?_)
  ·walk_at "RD";exact ⟨_,SqT.of h1,_,wb (j:=0) rfl,rfl,by rw [show decide (V.str (Str.ofString "ring")=V.str (Str.ofString "case"))=false by decide +kernel];exact hQ⟩
  simp only [Xb,xb];refine Mb true (fun Q hQ=>?_) (fun _=>?_) (fun z=>nomatch z)
  ·walk_at "RD";exact ⟨_,SqT.of h1,_,wb (j:=0) rfl,rfl,by rw [decide_eq_true rfl];exact hQ⟩
  simp only [xb];refine zzC (fun σ' H'=>H'=H1∧σ'=[some (.ref a),some (.ref pa),some (.int (k:Int)),some (.int (wy:Int)),none,some (.ref b),none]) (fun D' hD=>?_) fun zzM zzh=>?_
  ·walk_at "RD";exact ⟨_,SqT.of h1,_,wb (j:=1) rfl,hD _ _ ⟨rfl,rfl⟩⟩
  rintro σ2 H2 ⟨rfl,rfl⟩;subst zzh;simp only [xb];refine zzC (fun σ' H'=>Sb H2 H'∧Sc K a ns H'∧∃ cb,H' cb=some (.tup (ac (r.take (r.length - 1))))∧σ'=[some (.ref a),some (.ref pa),some (.int (k:Int)),some (.int (wy:Int)),none,some (.ref b),some (.ref cb)]) (fun D' hD=>?_) fun zzM zzh=>?_
  ·walk_at "RD";refine ⟨_,.inr (SqT.of h2),_,SqT.of h2,?_,fun u hu=>?_⟩
   ·rw [lc,show ((r.length:Nat):Int) - 1=((r.length - 1:Nat):Int) by omega,HT.sIx_nat];omega
   ·rw [lc,show ((r.length:Nat):Int) - 1=((r.length - 1:Nat):Int) by omega,MP (by rw [lc];omega),Wt];exact hD _ _ ⟨db hu,S.new hu,u,ib,rfl⟩
  rintro σ3 H3 ⟨s3,S3,cb,hcb,rfl⟩;have hrl:(ac r).length=r.length:=lc r;have hn1:¬ (HT.sIx (ac r).length 0 (some ((1:Nat):Int))=0∧HT.sIx (ac r).length (ac r).length none=(ac r).length):=by rw [HT.sIx_nat,hrl];omega
  have hn2:¬ (HT.sIx (ac r).length 0 none=0∧HT.sIx (ac r).length (ac r).length (some ((1:Nat):Int))=(ac r).length):=by rw [HT.sIx_nat,hrl];omega
  have hd1:r.drop 1 ≠ []:=fun z=>by have:=congrArg List.length z;rw [List.length_drop,List.length_nil] at this;omega
  have ht1:r.take 1 ≠ []:=fun z=>by have:=congrArg List.length z;rw [List.length_take,List.length_nil] at this;omega
  have hr0:r ≠ []:=fun z=>by rw [z] at hR;exact absurd hR.1 (by decide)
  subst zzh;(try dsimp only);(walk_at "RD"; repeat (dsimp only [fN];walk_at "RD"));have b3:=s3 _ _ h2;refine ⟨_,SqT.of b3,fun u1 hu1=>?_⟩;rw [AE];have t1:=db (o:=.tup (ac r.reverse)) hu1;have x1:(upd H3 u1 (.tup (ac r.reverse))) u1=some (.tup (ac r.reverse)):=ib;have S4:=S3.new (o:=.tup (ac r.reverse)) hu1;have b4:=t1 _ _ b3;have c4:=t1 _ _ hcb;have s4:=s3.trans t1;generalize upd H3 u1 (.tup (ac r.reverse))=H4 at t1 x1 S4 b4 c4 s4 ⊢;have k1:Sv (ac r) (some 1) none=ac (r.drop 1):=by rw [← KC];exact DQ (j:=1) (by rw [hrl];omega)
  have k2:Sv (ac r) none (some 1)=ac (r.take 1):=by rw [← Wt];exact MP (j:=1) (by rw [hrl];omega)
  refine ⟨_,SqT.of b4,hn1,fun u2 hu2=>?_⟩;rw [k1];have t5:=db (o:=.tup (ac (r.drop 1))) hu2;have x5:(upd H4 u2 (.tup (ac (r.drop 1)))) u2=some (.tup (ac (r.drop 1))):=ib;have S5:=S4.new (o:=.tup (ac (r.drop 1))) hu2;have b5:=t5 _ _ b4;have c5:=t5 _ _ c4;have s5:=s4.trans t5;have y5:=t5 _ _ x1;generalize upd H4 u2 (.tup (ac (r.drop 1)))=H5 at t5 x5 S5 b5 c5 s5 y5 ⊢;refine ⟨_,SqT.of b5,hn2,fun u3 hu3=>?_⟩;rw [k2];have t6:=db (o:=.tup (ac (r.take 1))) hu3;have x6:(upd H5 u3 (.tup (ac (r.take 1)))) u3=some (.tup (ac (r.take 1))):=ib;have S6:=S5.new (o:=.tup (ac (r.take 1))) hu3;have b6:=t6 _ _ b5;have c6:=t6 _ _ c5;have s6:=s5.trans t6;have y6:=t6 _ _ y5;have z6:=t6 _ _ x5;generalize upd H5 u3 (.tup (ac (r.take 1)))=H6 at t6 x6 S6 b6 c6 s6 y6 z6 ⊢;have hsz:sizeLine ≥ 100:=by decide
  refine ⟨_,SqT.of z6,_,SqT.of x6,jo hd1,by rw [lc,lc,List.length_drop,List.length_take];omega,fun z=>absurd z (jo ht1),fun _ u4 hu4=>?_⟩;rw [Ww];have t7:=db (o:=.tup (ac (r.drop 1 ++ r.take 1))) hu4;have x7:(upd H6 u4 (.tup (ac (r.drop 1 ++ r.take 1)))) u4=some (.tup (ac (r.drop 1 ++ r.take 1))):=ib;have S7:=S6.new (o:=.tup (ac (r.drop 1 ++ r.take 1))) hu4;have b7:=t7 _ _ b6;have c7:=t7 _ _ c6;have s7:=s6.trans t7;have y7:=t7 _ _ y6;generalize upd H6 u4 (.tup (ac (r.drop 1 ++ r.take 1)))=H7 at t7 x7 S7 b7 c7 s7 y7 ⊢;refine ⟨_,SqT.of b7,_,SqT.of b7,jo hr0,by rw [lc];omega,fun z=>absurd z (jo hr0),fun _ u6 hu6=>?_⟩;rw [Ww];have t9:=db (o:=.tup (ac (r ++ r))) hu6;have z9:(upd H7 u6 (.tup (ac (r ++ r)))) u6=some (.tup (ac (r ++ r))):=ib;have S9:=S7.new (o:=.tup (ac (r ++ r))) hu6;have c9:=t9 _ _ c7;have s9:=s7.trans t9;have y9:=t9 _ _ y7;have x9:=t9 _ _ x7;generalize upd H7 u6 (.tup (ac (r ++ r)))=H9 at t9 z9 S9 c9 s9 y9 x9 ⊢;refine ⟨by decide,fun ls hls=>?_⟩;have fin:∀ (u:Addr) (r':List Nat),H9 u=some (.tup (ac r'))→(∀ x ∈ r',x < m)→r'.length ≤ 12→atI [V.ref u1,V.ref u4,V.ref cb,V.ref u6] (wy:Int)=some (.ref u)→∃ v,atI [V.ref u1,V.ref u4,V.ref cb,V.ref u6] (wy:Int)=some v∧2 ≤ sizeLine∧∀ p_4:Addr,(upd H9 ls (HO.lst [V.ref u1,V.ref u4,V.ref cb,V.ref u6])) p_4=none→Q (V.ref p_4) (upd (upd H9 ls (HO.lst [V.ref u1,V.ref u4,V.ref cb,V.ref u6])) p_4 (HO.tup [V.str (Str.ofString "ring"),v])):=by
   intro u r' e1 e2 e3 e4;refine ⟨_,e4,by decide,fun p hp=>?_⟩;exact q p (.ring r') _ ((s9.trans (db hls)).trans (db hp)) ((S9.new hls).new hp) ⟨u,ib,db hp _ _ (db hls _ _ e1)⟩ (Wm e2) e3
  refine ⟨_,SqL.of ib,?_⟩
  match wy,hwy with
  | 0,_=>exact fin u1 _ y9 (fun x hx=>hk' x (List.mem_reverse.mp hx)) (by rw [List.length_reverse];omega) rfl
  | 1,_=>exact fin u4 _ x9 (fun x hx=>hk' x ((List.mem_append.mp hx).elim List.mem_of_mem_drop List.mem_of_mem_take)) (by rw [List.length_append,List.length_drop,List.length_take];omega) rfl
  | 2,_=>exact fin cb _ c9 (fun x hx=>hk' x (List.mem_of_mem_take hx)) (by rw [List.length_take];omega) rfl
  | 3,_=>exact fin u6 _ z9 (fun x hx=>hk' x ((List.mem_append.mp hx).elim id id)) (by rw [List.length_append];omega) rfl
 | case i j p1 p2=>
  obtain ⟨b,c,h1,h2,h3⟩:=hP;obtain ⟨d',rfl⟩:∃ d',d=d' + 1:=by
   cases d with
   | zero=>exact hF.elim
   | succ d=>exact ⟨d,rfl⟩
  obtain ⟨f1,f2,f3,f4⟩:=hF;refine Mb (decide (0 < Lg ns (400 + 5 * (k:Int)) 3)) (fun Q hQ=>?_) (fun _=>?_) (fun _=>?_)
  ·walk_at "RD";refine ⟨_,SqT.of h1,_,wb (j:=0) rfl,rfl,?_⟩;rw [decide_eq_true rfl,if_pos rfl];exact ⟨.inl (by decide),_,_,rfl,S,by omega,by decide,_,rfl,hQ⟩
  ·simp only [xb];refine Mb (decide (Lg ns (401 + 5 * (k:Int)) 2=0)) (fun Q hQ=>?_) (fun _=>?_) (fun _=>?_)
   ·walk_at "RD";refine ⟨.inl (by decide),_,_,rfl,S,by omega,by decide,rfl,?_⟩;rw [show decide (V.int (Lg ns (401 + 5 * (k:Int)) 2)=V.int 0)=decide (Lg ns (401 + 5 * (k:Int)) 2=0) from decide_eq_decide.mpr ⟨fun z=>V.int.inj z,fun z=>by rw [z]⟩];exact hQ
   ·walk_at "RD";refine ⟨_,SqT.of h1,_,wb (j:=1) rfl,_,SqT.of h1,_,wb (j:=2) rfl,_,SqT.of h1,_,wb (j:=3) rfl,?_⟩;refine ⟨k + 1,m,b,p1,by rw [show (k:Int) + 1=((k + 1:Nat):Int) by omega],by omega,hm,h2,f3,hR.1,S,fun r p' H' s' S' P' F' Sh'=>⟨_,SqT.of (s' _ _ h1),_,wb (j:=4) rfl,by decide,fun u hu=>?_⟩⟩;exact q u (.case i j p' p2) _ (s'.trans (db hu)) (S'.new hu) ⟨r,c,ib,P'.same (db hu),(h3.same s').same (db hu)⟩ ⟨f1,f2,F',f4⟩ ⟨Sh',Kg hR.2⟩
   ·walk_at "RD";refine ⟨_,SqT.of h1,_,wb (j:=1) rfl,_,SqT.of h1,_,wb (j:=2) rfl,_,SqT.of h1,_,wb (j:=3) rfl,_,SqT.of h1,_,wb (j:=4) rfl,?_⟩;refine ⟨k + 1,m,c,p2,by rw [show (k:Int) + 1=((k + 1:Nat):Int) by omega],by omega,hm,h3,f4,hR.2,S,fun r p' H' s' S' P' F' Sh'=>⟨by decide,fun u hu=>?_⟩⟩;exact q u (.case i j p1 p') _ (s'.trans (db hu)) (S'.new hu) ⟨b,r,ib,(h2.same s').same (db hu),P'.same (db hu)⟩ ⟨f1,f2,f3,F'⟩ ⟨Kg hR.1,Sh'⟩
  simp only [Xb,xb];refine zzC (fun σ' H'=>H'=H∧∃ wy:Nat,wy < 4∧σ'=[some (.ref a),some (.ref pa),some (.int (k:Int)),some (.int (wy:Int)),none,none,none]) (fun D' hD=>?_) fun zzM zzh=>?_
  ·walk_at "RD";exact ⟨.inl (by decide),_,_,rfl,S,by omega,by decide,hD _ _ ⟨rfl,(Lg ns (402 + 5 * (k:Int)) 4).toNat,by omega,by rw [Int.toNat_of_nonneg w1]⟩⟩
  rintro σ1 H1 ⟨rfl,wy,hwy,rfl⟩;subst zzh;simp only [xb];refine Mb true (fun Q hQ=>?_) (fun _=>?_) (fun z=>nomatch z)
  ·walk_at "RD";exact ⟨_,SqT.of h1,_,wb (j:=0) rfl,rfl,by rw [decide_eq_true rfl];exact hQ⟩
  simp only [xb];refine zzC (fun σ' H'=>Sb H1 H'∧Sc K a ns H'∧∃ so u1 u2,H' so=some (.lst [.ref u1,.ref u2])∧Zi H' (.case j i p1 p2) u1∧Zi H' (.case i j p2 p1) u2∧σ'=[some (.ref a),some (.ref pa),some (.int (k:Int)),some (.int (wy:Int)),some (.ref so),none,none]) (fun D' hD=>?_) fun zzM zzh=>?_
  ·walk_at "RD";refine ⟨_,SqT.of h1,_,wb (j:=2) rfl,_,SqT.of h1,_,wb (j:=1) rfl,_,SqT.of h1,_,wb (j:=3) rfl,_,SqT.of h1,_,wb (j:=4) rfl,by decide,fun u1 hu1=>?_⟩;have g1:=db (o:=.tup [.str (Str.ofString "case"),.int (j:Int),.int (i:Int),.ref b,.ref c]) hu1 _ _ h1;refine ⟨_,SqT.of g1,_,wb (j:=1) rfl,_,SqT.of g1,_,wb (j:=2) rfl,_,SqT.of g1,_,wb (j:=4) rfl,_,SqT.of g1,_,wb (j:=3) rfl,by decide,fun u2 hu2=>⟨by decide,fun so hso=>?_⟩⟩;have z2:=(db (o:=.tup [.str (Str.ofString "case"),.int (i:Int),.int (j:Int),.ref c,.ref b]) hu2).trans (db (o:=.lst [.ref u1,.ref u2]) hso);have z1:=(db (o:=.tup [.str (Str.ofString "case"),.int (j:Int),.int (i:Int),.ref b,.ref c]) hu1).trans z2;exact hD _ _ ⟨z1,((S.new hu1).new hu2).new hso,so,u1,u2,ib,⟨b,c,z2 _ _ ib,h2.same z1,h3.same z1⟩,⟨c,b,db hso _ _ ib,h3.same z1,h2.same z1⟩,rfl⟩
  rintro σ2 H2 ⟨s2,S2,so,u1,u2,e2,P1,P2,rfl⟩;have g1:=s2 _ _ h1;subst zzh;(try dsimp only);walk_at "RD";refine ⟨_,SqT.of g1,_,wb (j:=1) rfl,_,SqT.of g1,_,wb (j:=1) rfl,_,SqT.of g1,_,wb (j:=3) rfl,_,SqT.of g1,_,wb (j:=4) rfl,by decide,fun u3 hu3=>?_⟩;refine ⟨_,SqT.of (db hu3 _ _ g1),_,wb (j:=3) rfl,by decide,fun l hl=>?_⟩;refine ⟨_,db hl _ _ (db hu3 _ _ e2),_,ib,by show 4 ≤ sizeLine;decide,fun l2 hl2=>⟨_,SqL.of ib,?_⟩⟩;have z2:=(db hu3 (o:=.tup [.str (Str.ofString "case"),.int (i:Int),.int (i:Int),.ref b,.ref c])).trans ((db hl (o:=.lst [.ref u3,.ref b])).trans (db hl2 (o:=.lst [.ref u1,.ref u2,.ref u3,.ref b])));have z3:=(db hl (o:=.lst [.ref u3,.ref b])).trans (db hl2 (o:=.lst [.ref u1,.ref u2,.ref u3,.ref b]));have Z:=((S2.new hu3 (o:=.tup [.str (Str.ofString "case"),.int (i:Int),.int (i:Int),.ref b,.ref c])).new hl (o:=.lst [.ref u3,.ref b])).new hl2 (o:=.lst [.ref u1,.ref u2,.ref u3,.ref b]);have q1:=(h2.same s2).same z2;have q2:=(h3.same s2).same z2;have shp:=Kg hR.1;have shq:=Kg hR.2
  match wy,hwy with
  | 0,_=>exact ⟨.ref u1,rfl,q u1 (.case j i p1 p2) _ (s2.trans z2) Z (P1.same z2) ⟨f2,f1,f3,f4⟩ ⟨shp,shq⟩⟩
  | 1,_=>exact ⟨.ref u2,rfl,q u2 (.case i j p2 p1) _ (s2.trans z2) Z (P2.same z2) ⟨f1,f2,f4,f3⟩ ⟨shq,shp⟩⟩
  | 2,_=>exact ⟨.ref u3,rfl,q u3 (.case i i p1 p2) _ (s2.trans z2) Z ⟨b,c,z3 _ _ ib,q1,q2⟩ ⟨f1,f1,f3,f4⟩ ⟨shp,shq⟩⟩
  | 3,_=>exact ⟨.ref b,rfl,q b p1 _ (s2.trans z2) Z q1 (VL f3) shp⟩
theorem fK (T:Txt w K mg t) (a:Addr) (ns:List Int) (h63:ns.length ≤ 63):∀ d,Ub P w K mg base CX0 (d + 3) t.ye t.we q24 (DB K a ns d)
 | 0=>Iz T a ns h63 0 (T.Be.ok Vd (fun vs H Q E h=>h.elim) (fun cdv A outer s H vs Q E hr h=>h.elim))
 | d + 1=>Iz T a ns h63 (d + 1) (fK T a ns h63 d)
end
end My
namespace My
open PySem L2
theorem Dx (x:Str) {a b:Nat} (hab:a ≤ b) (hb:b ≤ x.cps.toList.length):(Txt.slice x (some (a:Int)) (some (b:Int))).cps.toList=(x.cps.toList.drop a).take (b - a):=by
 have hx:x.length=x.cps.toList.length:=by simp [Str.length]
 have e:=StrLaws.sliceText_nat x hab (by rw [hx];exact hb);rw [show Txt.slice x (some (a:Int)) (some (b:Int))=StrLaws.sliceText x (some (a:Int)) (some (b:Int)) from rfl,e]
theorem yz (x:Str) {b:Nat} (hb:b ≤ x.cps.toList.length):(Txt.slice x none (some (b:Int))).cps.toList=x.cps.toList.take b:=by
 have:Txt.slice x none (some (b:Int))=Txt.slice x (some ((0:Nat):Int)) (some (b:Int)):=by
  show StrLaws.sliceText x none (some (b:Int))=StrLaws.sliceText x (some ((0:Nat):Int)) (some (b:Int));unfold StrLaws.sliceText;rw [StrLaws.sliceIdx_none_lo];rfl
 rw [this,Dx x (Nat.zero_le _) hb,List.drop_zero,Nat.sub_zero]
noncomputable def nmA (l:List Nat) (k:Nat):List Nat:=l.take (k + 1)
noncomputable def nmB (l:List Nat) (at_ size f k:Nat):List Nat:=l.take at_ ++ [97 + (f + 7 * k) % 26] ++ (l.drop (at_ + 1)).take (size - (at_ + 1))
theorem PD {l:List Nat} (hl:l.length=8) (al:∀ c ∈ l,97 ≤ c∧c ≤ 122) {k:Nat} (hk:k < 8):(nmA l k).length=k + 1∧∀ c ∈ nmA l k,97 ≤ c∧c ≤ 122:=by
 unfold nmA;exact ⟨by rw [List.length_take];omega,fun c hc=>al c (List.mem_of_mem_take hc)⟩
theorem FM {l:List Nat} (hl:l.length=8) (al:∀ c ∈ l,97 ≤ c∧c ≤ 122) {a z f k:Nat} (ha:a < z) (hz:z ≤ 8):(nmB l a z f k).length=z∧∀ c ∈ nmB l a z f k,97 ≤ c∧c ≤ 122:=by
 unfold nmB;refine ⟨by rw [List.length_append,List.length_append,List.length_take,List.length_take,List.length_drop,List.length_singleton];omega,fun c hc=>?_⟩;rcases List.mem_append.mp hc with hc | hc
 ·rcases List.mem_append.mp hc with hc | hc
  ·exact al c (List.mem_of_mem_take hc)
  ·rw [List.mem_singleton.mp hc];omega
 ·exact al c (List.mem_of_mem_drop (List.mem_of_mem_take hc))
theorem sK {l:List Nat} (hl:l.length=8) {a z f i j:Nat} (ha:a < z) (hz:z ≤ 8) (hi:i < 8) (hj:j < 8) (e:nmB l a z f i=nmB l a z f j):i=j:=by
 have h1:∀ k,(nmB l a z f k)[a]? = some (97 + (f + 7 * k) % 26):=fun k=>by
  unfold nmB;rw [List.append_assoc,List.getElem?_append_right (by rw [List.length_take];omega),List.length_take,show a - min a l.length=0 by omega];rfl
 have h2:=h1 i;rw [e,h1 j] at h2;have:=Option.some.inj h2;omega
theorem NL {x:Str} {l:List Nat} (e:x.cps.toList=l) (h0:1 ≤ l.length) (h1:l.length ≤ 8) (al:∀ c ∈ l,97 ≤ c∧c ≤ 122):made x Ai 8=true:=by
 have hx:x.length=x.cps.toList.length:=by simp [Str.length]
 exact Hw (by rw [hx,e];exact h0) (by rw [hx,e];exact h1) (by rw [e];exact al)
noncomputable def Nms (m:Nat) (xs:List Str):Prop:=xs.length=m∧xs.Nodup∧∀ x ∈ xs,made x Ai 8=true
theorem lK {i:Int} (h0:0 ≤ i) (h1:i < 26):∃ c:Nat,atI (Str.ofString "abcdefghijklmnopqrstuvwxyz").cps.toList i=some c∧c=97 + i.toNat:=by
 have:∀ k,k < 26→atI (Str.ofString "abcdefghijklmnopqrstuvwxyz").cps.toList ((k:Nat):Int)=some (97 + k):=by decide +kernel
 refine ⟨97 + i.toNat,?_,rfl⟩;have e:=this i.toNat (by omega);rwa [Int.toNat_of_nonneg h0] at e
theorem pM:∀ ys:List Str,(Str.join ⟨#[]⟩ ys).cps.toList=(ys.map (·.cps.toList)).flatten
 | []=>rfl
 | [a]=>by
  show a.cps.toList=_;simp
 | a :: b :: r=>by
  show (a ++ ⟨#[]⟩ ++ Str.join ⟨#[]⟩ (b :: r)).cps.toList=_;rw [Str.cps_append,Array.toList_append,Str.cps_append,Array.toList_append,pM (b :: r)];simp
theorem Mt (f:Nat→Nat) (n:Nat):(Txt.join (Str.ofString "") ((List.range n).map fun i=>tw (f i))).cps.toList=(List.range n).map f:=by
 rw [show Txt.join (Str.ofString "") ((List.range n).map fun i=>tw (f i))=Str.join ⟨#[]⟩ ((List.range n).map fun i=>tw (f i)) from StrLaws.glued_eq_join _ _,pM,List.map_map];have:((fun x:Str=>x.cps.toList) ∘ fun i=>tw (f i))=fun i=>[f i]:=rfl
 rw [this]
 induction (List.range n) with
 | nil=>rfl
 | cons a l ih=>rw [List.map_cons,List.flatten_cons,ih];rfl
noncomputable def xx (K:PySem.W.Frag) (a:Addr) (ns:List Int):Sp:=fun vs H Q _=>∃ m:Nat,vs=[.ref a,.int m]∧Sc K a ns H∧(1 ≤ m∧m ≤ 8)∧∀ p xs H',Sb H H'→Sc K a ns H'→H p=none→H' p=some (.lst (Tc xs))→Nms m xs→Q (.ref p) H'
section
variable {P:Program} {w:World} {K:PySem.W.Frag} {mg:Str→Option Value} {base:Heap} {t:Adr}
theorem sF (T:Txt w K mg t) (a:Addr) (ns:List Int) (h63:ns.length ≤ 63):Ub P w K mg base CX0 2 t.si t.ei q45 (xx K a ns):=by
 have g0:Ub P w K mg base CX0 1 t.Nd t.Md q11 (Mc K a ns):=Km T a ns h63;refine T.Yk.ok Dc (fun vs H Q E h=>?_) (fun _ _ _ s H vs Q E hr h=>?_)
 ·obtain ⟨m,rfl,_⟩:=h;rfl
 obtain ⟨m,rfl,S,hm,q⟩:=h;have hL:(Str.ofString "abcdefghijklmnopqrstuvwxyz").length=26:=by decide +kernel
 refine ⟨_,(fb (nG (i:=2) Dc.nd rfl (Or.inr rfl) xc)
   (fb (yb (i:=3) Dc.nd (Fp PySem.F.plainAttrs_str PySem.F.slot_str_join PySem.F.type_str_join vy xc (ab (cg rfl (me rfl T.uf (ab gb jb)) (Cc (sc:=ub Vk) rfl (by decide +kernel)) (N:=["_law_k","_law_letters","_law_script"]) (sel:=[none,some 2,some 0]) (Vc (M:=["_law_script","_law_many","_law_letters","_law_word","_law_size","_law_at","_law_first","_law_some","_law_k","_law_name","_law_sign"]) (by decide +kernel)) (Blk.of (fun _ _ _ _=>(Ib (i:=0) (oh (N:=["_law_k","_law_letters","_law_script"]) (by decide +kernel) rfl))) (fun _ _ _ _=>⟨_,sf,by walk_at "B"⟩) (fun _ _ _ _=>⟨_,(Ab UD (pv 1) (qb g0 hr T.Db T.Bb.kp T.Cb (ab (pv 2) (ab (Kb fc gb (pv 0)) (ab gb jb))))),by walk_at "B"⟩))) jb)))
   (fb (yb (i:=4) Dc.nd (Kb fc gb (qb g0 hr T.Db T.Bb.kp T.Cb (ab (pv 0) (ab gb (ab gb jb))))))
   (fb (yb (i:=5) Dc.nd (qb g0 hr T.Db T.Bb.kp T.Cb (ab (pv 0) (ab gb (ab (pv 4) jb)))))
   (fb (yb (i:=6) Dc.nd (qb g0 hr T.Db T.Bb.kp T.Cb (ab (pv 0) (ab gb (ab gb jb)))))
   (fb (yb (i:=7) Dc.nd (Pf jb))
   (fb (Bf PassesOwn.never rfl (me rfl T.uf (ab (pv 1) jb)) (Ib (i:=8) Dc.nd) (fb (yb (i:=9) Dc.nd (yg MG (pv 3) Em (lg (Kb fc (pv 8) gb))))
   (fb (Pc (Ob tf (qb g0 hr T.Db T.Bb.kp T.Cb (ab (pv 0) (ab gb (ab gb jb)))) gb (Vb _)) (fb (yb (i:=10) Dc.nd (Ab UD (pv 2) (Kb Ig (Kb fc (pv 6) (Kb Fd gb (pv 8))) gb)))
   (lb (yb (i:=9) Dc.nd (Kb Ro (Kb Ro (yg MG (pv 3) Em (lg (pv 5))) (pv 10)) (yg MG (pv 3) (lg (Kb fc (pv 5) gb)) (lg (pv 4))))))) Rb)
   (lb (Ge (Fp PySem.F.plainAttrs_list PySem.F.slot_list_append PySem.F.type_list_append Ak (pv 7) (ab (pv 9) jb)))))))
   (fb (Pc (Ob tf (qb g0 hr T.Db T.Bb.kp T.Cb (ab (pv 0) (ab gb (ab gb jb)))) gb (Vb _)) (lb (Ge (PN PySem.F.plainAttrs_list PySem.F.slot_list_reverse PySem.F.type_list_reverse WB (pv 7)))) Rb)
   (lb (Fb (pv 7))))))))))),?_⟩
 refine zS (fun σ' H'=>H'=H∧σ'=[some (.ref a),some (.int m),some (.str (Str.ofString "abcdefghijklmnopqrstuvwxyz")),none,none,none,none,none,none,none,none]) (fun D' hD=>?_) fun zzM zzh=>?_
 ·walk_at "RD";exact hD _ _ ⟨rfl,rfl⟩
 rintro σ1 H1 ⟨rfl,rfl⟩;subst zzh;refine zS (fun σ' H'=>Sb H1 H'∧Sc K a ns H'∧∃ wd:Str,wd.cps.toList.length=8∧(∀ c ∈ wd.cps.toList,97 ≤ c∧c ≤ 122)∧σ'=[some (.ref a),some (.int m),some (.str (Str.ofString "abcdefghijklmnopqrstuvwxyz")),some (.str wd),none,none,none,none,none,none,none]) (fun D' hD=>?_) fun zzM zzh=>?_
 ·walk_at "RD";refine ⟨by decide,by decide,?_⟩;refine bd.range_map (n:=8) (fun i=>V.str (tw (97 + (Lg ns (100 + (i:Int)) 26).toNat))) (by decide) (fun i N hi hN=>?_) (fun p hp=>?_)
  ·have d1:=Fc ns (100 + (i:Int)) (m:=26) (by decide);have d2:=Jc ns (100 + (i:Int)) (m:=26) (by decide);obtain ⟨c,hc,rfl⟩:=lK d1 d2;(walk_at "RD"; repeat (dsimp only [Mc];walk_at "RD"));exact ⟨Sub.name,S,by omega,by omega,by decide,by rw [hL];decide,_,hc,hN⟩
  ·have e:(List.range 8).map (fun i:Nat=>V.str (tw (97 + (Lg ns (100 + (i:Int)) 26).toNat)))=Tc ((List.range 8).map fun i:Nat=>tw (97 + (Lg ns (100 + (i:Int)) 26).toNat)):=by unfold Tc;rw [List.map_map];rfl
   refine ⟨p,rfl,(List.range 8).map fun i:Nat=>tw (97 + (Lg ns (100 + (i:Int)) 26).toNat),by rw [← e];exact SqL.of ib,?_,?_⟩
   ·have h1:(List.map (fun x:Str=>x.length) ((List.range 8).map fun i:Nat=>tw (97 + (Lg ns (100 + (i:Int)) 26).toNat))).sum=8:=by
     rw [List.map_map];rfl
    rw [h1,List.length_map,List.length_range];decide +kernel
   ·refine hD _ _ ⟨db hp,S.new hp,_,?_,fun c hc=>?_,rfl⟩
    ·rw [Mt (fun i:Nat=>97 + (Lg ns (100 + (i:Int)) 26).toNat) 8,List.length_map,List.length_range]
    ·rw [Mt (fun i:Nat=>97 + (Lg ns (100 + (i:Int)) 26).toNat) 8] at hc;obtain ⟨i,_,rfl⟩:=List.mem_map.mp hc;have d1:=Fc ns (100 + (i:Int)) (m:=26) (by decide);have d2:=Jc ns (100 + (i:Int)) (m:=26) (by decide);omega
 rintro σ2 H2 ⟨s2,S2,wd,hwl,hwa,rfl⟩;have hwn:wd.length=8:=by
  have:wd.length=wd.cps.toList.length:=by simp [Str.length]
  omega
 obtain ⟨z,hzz,hz1⟩:∃ z:Nat,1 + Lg ns 112 8=(z:Nat)∧(1 ≤ z∧z ≤ 8):=by
  have d1:=Fc ns 112 (m:=8) (by decide);have d2:=Jc ns 112 (m:=8) (by decide);exact ⟨(1 + Lg ns 112 8).toNat,by omega,by omega⟩
 subst zzh;refine zS (fun σ' H'=>H'=H2∧σ'=[some (.ref a),some (.int m),some (.str (Str.ofString "abcdefghijklmnopqrstuvwxyz")),some (.str wd),some (.int (z:Nat)),none,none,none,none,none,none]) (fun D' hD=>?_) fun zzM zzh=>?_
 ·(walk_at "RD"; repeat (dsimp only [Mc];walk_at "RD"));rw [hzz];exact ⟨S2,by omega,by omega,by decide,hD _ _ ⟨rfl,rfl⟩⟩
 rintro σ3 H3 ⟨rfl,rfl⟩;obtain ⟨at_,hat,hat1⟩:∃ at_:Nat,Lg ns 113 (z:Int)=(at_:Nat)∧at_ < z:=by
  have d1:=Fc ns 113 (m:=(z:Int)) (by omega);have d2:=Jc ns 113 (m:=(z:Int)) (by omega);exact ⟨(Lg ns 113 (z:Int)).toNat,by omega,by omega⟩
 subst zzh;refine zS (fun σ' H'=>H'=H3∧σ'=[some (.ref a),some (.int m),some (.str (Str.ofString "abcdefghijklmnopqrstuvwxyz")),some (.str wd),some (.int (z:Nat)),some (.int (at_:Nat)),none,none,none,none,none]) (fun D' hD=>?_) fun zzM zzh=>?_
 ·(walk_at "RD"; repeat (dsimp only [Mc];walk_at "RD"));rw [hat];exact ⟨S2,by omega,by omega,by omega,hD _ _ ⟨rfl,rfl⟩⟩
 rintro σ4 H4 ⟨rfl,rfl⟩;obtain ⟨f,hf,hf1⟩:∃ f:Nat,Lg ns 114 26=(f:Nat)∧f < 26:=by
  have d1:=Fc ns 114 (m:=26) (by decide);have d2:=Jc ns 114 (m:=26) (by decide);exact ⟨(Lg ns 114 26).toNat,by omega,by omega⟩
 subst zzh;refine zS (fun σ' H'=>H'=H4∧σ'=[some (.ref a),some (.int m),some (.str (Str.ofString "abcdefghijklmnopqrstuvwxyz")),some (.str wd),some (.int (z:Nat)),some (.int (at_:Nat)),some (.int (f:Nat)),none,none,none,none]) (fun D' hD=>?_) fun zzM zzh=>?_
 ·(walk_at "RD"; repeat (dsimp only [Mc];walk_at "RD"));rw [hf];exact ⟨S2,by omega,by omega,by decide,hD _ _ ⟨rfl,rfl⟩⟩
 rintro σ5 H5 ⟨rfl,rfl⟩;subst zzh;refine zS (fun σ' H'=>Sc K a ns H'∧Sb H5 H'∧∃ rl,H5 rl=none∧H' rl=some (.lst [])∧σ'=[some (.ref a),some (.int m),some (.str (Str.ofString "abcdefghijklmnopqrstuvwxyz")),some (.str wd),some (.int (z:Nat)),some (.int (at_:Nat)),some (.int (f:Nat)),some (.ref rl),none,none,none]) (fun D' hD=>?_) fun zzM zzh=>?_
 ·walk_at "RD";exact ⟨Nat.zero_le _,fun rl hrl=>hD _ _ ⟨S2.new hrl,db hrl,rl,hrl,ib,rfl⟩⟩
 rintro σ6 H6 ⟨S6,s6,rl,hrl,w6,rfl⟩;obtain ⟨b,hb⟩:∃ b:Bool,decide (Lg ns 110 2=1)=b:=⟨_,rfl⟩;subst zzh;obtain ⟨g,hg⟩:∃ g:Nat→List Nat,g=fun k=>if b=true then nmB wd.cps.toList at_ z f k else nmA wd.cps.toList k:=⟨_,rfl⟩
 refine zS (fun σ' H'=>Sc K a ns H'∧Sb H5 H'∧(∃ xs:List Str,H' rl=some (.lst (Tc xs))∧xs.map (·.cps.toList)=(List.range m).map g)∧∃ x8 x9 x10,σ'=[some (.ref a),some (.int m),some (.str (Str.ofString "abcdefghijklmnopqrstuvwxyz")),some (.str wd),some (.int (z:Nat)),some (.int (at_:Nat)),some (.int (f:Nat)),some (.ref rl),x8,x9,x10]) (fun D' hD=>?_) fun zzM zzh=>?_
 ·walk_at "RD";refine ⟨by omega,by omega,?_⟩;refine nk.range (fun i σ H'=>Sc K a ns H'∧Sb H5 H'∧(∃ xs:List Str,H' rl=some (.lst (Tc xs))∧xs.map (·.cps.toList)=(List.range i).map g)∧∃ x8 x9 x10,σ=[some (.ref a),some (.int m),some (.str (Str.ofString "abcdefghijklmnopqrstuvwxyz")),some (.str wd),some (.int (z:Nat)),some (.int (at_:Nat)),some (.int (f:Nat)),some (.ref rl),x8,x9,x10]) ⟨S6,s6,⟨[],w6,rfl⟩,_,_,_,rfl⟩ ?_ ?_
  ·rintro i σ H' hi zzq;refine zzP fun zzM zzh=>?_
   obtain ⟨S7,s7,⟨xs,w7,hxs⟩,x8,x9,x10,rfl⟩:=zzq;have hi8:i < 8:=by have:i < (m:Int).toNat:=hi;omega
   have hxl:xs.length=i:=by have:=congrArg List.length hxs;rwa [List.length_map,List.length_map,List.length_range] at this
   subst zzh;simp only [Rf,xb,List.set_cons_succ,List.set_cons_zero,Int.zero_add];refine zzC (fun σ' H''=>H''=H'∧σ'=[some (.ref a),some (.int m),some (.str (Str.ofString "abcdefghijklmnopqrstuvwxyz")),some (.str wd),some (.int (z:Nat)),some (.int (at_:Nat)),some (.int (f:Nat)),some (.ref rl),some (.int (i:Nat)),some (.str (Txt.slice wd none (some ((i + 1:Nat):Int)))),x10]) (fun D' hD=>?_) fun zzM zzh=>?_
   ·walk_at "RD";exact ⟨by rw [hwn];decide,hD _ _ ⟨rfl,by rw [Int.natCast_add];rfl⟩⟩
   rintro σA HA ⟨rfl,rfl⟩;subst zzh;simp only [xb];refine zzC (fun σ' H''=>H''=HA∧∃ nm:Str,nm.cps.toList=g i∧∃ x10,σ'=[some (.ref a),some (.int m),some (.str (Str.ofString "abcdefghijklmnopqrstuvwxyz")),some (.str wd),some (.int (z:Nat)),some (.int (at_:Nat)),some (.int (f:Nat)),some (.ref rl),some (.int (i:Nat)),some (.str nm),x10]) (fun D' hD=>?_) fun zzM zzh=>?_
   ·refine Mb b (fun Q hQ=>?_) (fun hbt=>?_) (fun hbf=>?_)
    ·(walk_at "RD"; repeat (dsimp only [Mc];walk_at "RD"));rw [hb];exact ⟨S7,by omega,by omega,by decide,hQ⟩
    ·have hgi:g i=nmB wd.cps.toList at_ z f i:=by rw [hg];exact if_pos hbt
     obtain ⟨c,hc,rfl⟩:=lK (i:=((f:Int) + 7 * (i:Int)) % 26) (Int.emod_nonneg _ (by decide)) (Int.emod_lt_of_pos _ (by decide));have hbig:∀ k:Nat,k ≤ 1000→k ≤ sizeLine:=fun k h=>Nat.le_trans h (by decide)
     have l1:=Txt.slice_le wd none (some (at_:Int));have l2:=Txt.slice_le wd (some ((at_:Int) + 1)) (some (z:Int));have l3:(tw (97 + (((f:Int) + 7 * (i:Int)) % 26).toNat)).length=1:=rfl;walk_at "RD";refine ⟨.inl ⟨by decide,by decide⟩,by decide,by rw [hL];decide,_,hc,by rw [hwn];decide,hbig _ (by show _ + (tw (97 + (((f:Int) + 7 * (i:Int)) % 26).toNat)).length ≤ 1000;omega),by rw [hwn];decide,hbig _ (by show (_ ++ tw (97 + (((f:Int) + 7 * (i:Int)) % 26).toNat)).length + _ ≤ 1000;rw [Ty];omega),?_⟩;refine hD _ _ ⟨rfl,_,?_,_,rfl⟩;rw [hgi];unfold nmB;rw [Str.cps_append,Array.toList_append,Str.cps_append,Array.toList_append,yz wd (by omega),show ((at_:Int) + 1)=((at_ + 1:Nat):Int) by omega,Dx wd (by omega) (by omega),show (((f:Int) + 7 * (i:Int)) % 26).toNat=(f + 7 * i) % 26 by omega]
    ·have hgi:g i=nmA wd.cps.toList i:=by rw [hg];exact if_neg (by rw [hbf];decide)
     walk_at "RD";exact hD _ _ ⟨rfl,_,by rw [hgi,yz wd (by omega)];rfl,_,rfl⟩
   rintro σB HB ⟨rfl,nm,hnm,x10,rfl⟩;subst zzh;walk_at "RD";refine ⟨.inl ⟨_,SqL.of w7⟩,_,w7,Nat.lt_of_le_of_lt (show (Tc xs).length ≤ 8 by unfold Tc;rw [List.length_map];omega) (by decide),S7.set w7 (fun _ _ z=>by cases z),s7.updN hrl,⟨xs ++ [nm],?_,?_⟩,?_⟩
   ·rw [ib];unfold Tc;rw [List.map_append];rfl
   ·rw [List.map_append,hxs,List.range_succ,List.map_append,List.map_cons,List.map_nil,hnm];rfl
   ·repeat (first | exact ⟨_,rfl⟩ | refine ⟨⟨_,rfl⟩,?_⟩)
  ·rintro σ H' zzq;refine zzP fun zzM zzh=>?_
   obtain ⟨S7,s7,⟨xs,w7,hxs⟩,x8,x9,x10,rfl⟩:=zzq;subst zzh;exact hD _ _ ⟨S7,s7,⟨xs,w7,by rw [hxs,show (m:Int).toNat=m by omega]⟩,x8,x9,x10,rfl⟩
 rintro σ7 H7 ⟨S7,s7,⟨xs,w7,hxs⟩,x8,x9,x10,rfl⟩;have hxl:xs.length=m:=by have:=congrArg List.length hxs;rwa [List.length_map,List.length_map,List.length_range] at this
 have gok:∀ k,k < m→(1 ≤ (g k).length∧(g k).length ≤ 8)∧∀ c ∈ g k,97 ≤ c∧c ≤ 122:=fun k hk=>by
  rw [hg];dsimp only;split
  ·have:=FM hwl hwa (f:=f) (k:=k) hat1 hz1.2;exact ⟨by omega,this.2⟩
  ·have:=PD hwl hwa (k:=k) (by omega);exact ⟨by omega,this.2⟩
 have ginj:∀ i j,i < m→j < m→g i=g j→i=j:=fun i j hi hj e=>by
  rw [hg] at e
  try dsimp only at e
  split at e
  ·exact sK hwl hat1 hz1.2 (by omega) (by omega) e
  ·have h1:=PD hwl hwa (k:=i) (by omega);have h2:=PD hwl hwa (k:=j) (by omega);rw [e] at h1;omega
 have hat':∀ (i:Nat) (x:Str),xs[i]? = some x→i < m∧x.cps.toList=g i:=fun i x hx=>by
  have hi:i < m:=by rw [← hxl];exact (List.getElem?_eq_some_iff.mp hx).1
  have e:=congrArg (fun l=>l[i]?) hxs
  try dsimp only at e
  rw [List.getElem?_map,hx,List.getElem?_map,List.getElem?_range hi] at e;exact ⟨hi,Option.some.inj e⟩
 have N:Nms m xs:=by
  refine ⟨hxl,List.pairwise_iff_getElem.mpr fun i j hi hj hij e=>?_,fun x hx=>?_⟩
  ·obtain ⟨a1,a2⟩:=hat' i _ (List.getElem?_eq_getElem hi);obtain ⟨b1,b2⟩:=hat' j _ (List.getElem?_eq_getElem hj);rw [e,b2] at a2;have:=ginj i j a1 b1 a2.symm;omega
  ·obtain ⟨i,hi⟩:=List.getElem?_of_mem hx;obtain ⟨a1,a2⟩:=hat' i _ hi;have:=gok i a1;exact NL a2 this.1.1 this.1.2 this.2
 subst zzh;refine zS (fun σ' H'=>Sc K a ns H'∧Sb H5 H'∧(∃ xs:List Str,H' rl=some (.lst (Tc xs))∧Nms m xs)∧∃ x8 x9 x10,σ'=[some (.ref a),some (.int m),some (.str (Str.ofString "abcdefghijklmnopqrstuvwxyz")),some (.str wd),some (.int (z:Nat)),some (.int (at_:Nat)),some (.int (f:Nat)),some (.ref rl),x8,x9,x10]) (fun D' hD=>?_) fun zzM zzh=>?_
 ·refine Mb (decide (Lg ns 111 2=1)) (fun Q hQ=>?_) (fun _=>?_) (fun _=>?_)
  ·(walk_at "RD"; repeat (dsimp only [Mc];walk_at "RD"));exact ⟨S7,by omega,by omega,by decide,hQ⟩
  ·walk_at "RD";refine ⟨.inl ⟨_,SqL.of w7⟩,_,w7,hD _ _ ⟨S7.set w7 (fun _ _ z=>by cases z),s7.updN hrl,⟨xs.reverse,by rw [ib];unfold Tc;rw [List.map_reverse],by rw [List.length_reverse];exact N.1,List.pairwise_reverse.mpr (N.2.1.imp fun h=>Ne.symm h),fun x hx=>N.2.2 x (List.mem_reverse.mp hx)⟩,_,_,_,rfl⟩⟩
  ·walk_at "RD";exact hD _ _ ⟨S7,s7,⟨xs,w7,N⟩,_,_,_,rfl⟩
 rintro σ8 H8 ⟨S8,s8,⟨ys,w8,N8⟩,y8,y9,y10,rfl⟩;subst zzh;walk_at "RD";exact q rl ys H8 (s2.trans s8) S8 (s2.free hrl) w8 N8
end
end My
namespace My
open PySem L2
noncomputable abbrev Rp (d:WD):List V:=[.str (ee d.k),.str d.name,.int d.start,.int d.fin,.int d.off,.int d.near,.int d.least]
noncomputable def LW (H:Hp) (wl:Addr) (ds:List WD):Prop:=∃ qs:List Addr,H wl=some (.lst (qs.map V.ref))∧qs.length=ds.length∧∀ (i:Nat) (q:Addr) (d:WD),qs[i]? = some q→ds[i]? = some d→H q=some (.tup (Rp d))
theorem LW.same {H H':Hp} {wl:Addr} {ds:List WD} (h:LW H wl ds) (s:Sb H H'):LW H' wl ds:=by
 obtain ⟨qs,e1,e2,al⟩:=h;exact ⟨qs,s _ _ e1,e2,fun i q d h1 h2=>s _ _ (al i q d h1 h2)⟩
theorem LW.snoc {H:Hp} {wl p:Addr} {ds:List WD} {d:WD} {qs:List Addr} (l1:H wl=some (.lst (qs.map V.ref))) (l2:qs.length=ds.length)
  (al:∀ (i:Nat) (q:Addr) (d:WD),qs[i]? = some q→ds[i]? = some d→H q=some (.tup (Rp d))) (hp:H p=none) :
  LW (upd (upd H p (.tup (Rp d))) wl (.lst (qs.map V.ref ++ [.ref p]))) wl (ds ++ [d]):=by
 have hpw:p ≠ wl:=(Nb l1 hp).symm;refine ⟨qs ++ [p],by rw [ib,List.map_append];rfl,by rw [List.length_append,List.length_append,l2];rfl,fun i q e h1 h2=>?_⟩;rcases eg h1 with ⟨z1,z2⟩ | ⟨z1,rfl⟩
 ·rcases eg h2 with ⟨y1,y2⟩ | ⟨y1,_⟩
  ·have:=al i q e z2 y2;rw [Eb (Bj this l1 (by intro z;cases z)),Eb (Nb this hp)];exact this
  ·omega
 ·rcases eg h2 with ⟨y1,y2⟩ | ⟨y1,rfl⟩
  ·omega
  ·rw [Eb hpw,ib]
theorem GN {n s j:Int} (h0:0 ≤ s) (h1:s < n) (h2:0 ≤ j) (h3:j < n - 1):s ≠ (s + 1 + j) % n:=by
 by_cases c:s + 1 + j < n
 ·rw [Int.emod_eq_of_lt (by omega) c];omega
 ·rw [show s + 1 + j=(s + 1 + j - n) + n * 1 by omega,Int.add_mul_emod_self_left,Int.emod_eq_of_lt (by omega) (by omega)];omega
theorem zL {i:Int} (h0:0 ≤ i) (h1:i < 3):atI [V.str (Str.ofString "car"),V.str (Str.ofString "foot"),V.str (Str.ofString "tram")] i=some (.str (ee i.toNat)):=by
 have:i=0∨i=1∨i=2:=by omega
 rcases this with rfl | rfl | rfl
 ·exact wb (j:=0) rfl
 ·exact wb (j:=1) rfl
 ·exact wb (j:=2) rfl
structure iM (n:Int) (ds:List WD):Prop where
 al:∀ d ∈ ds,WOk n d∧True
 nd:(ds.map (·.name)).Nodup
theorem iM.cok {n:Int} {ds:List WD} (h:iM n ds) (hn:2 ≤ n∧n ≤ 99) (hl:1 ≤ ds.length∧ds.length ≤ 12):COk n ds:=⟨hn,hl,fun d hd=>(h.al d hd).1,h.nd⟩
noncomputable def gB (K:PySem.W.Frag) (a:Addr) (ns:List Int):Sp:=fun vs H Q _=>∃ (m:Nat) (n:Int),vs=[.ref a,.int m,.int n]∧Sc K a ns H∧(1 ≤ m∧m ≤ 8)∧(4 ≤ n∧n ≤ 99)∧∀ p ds H',Sb H H'→Sc K a ns H'→H p=none→LW H' p ds→ds.length=m→iM n ds→Q (.ref p) H'
section
variable {P:Program} {w:World} {K:PySem.W.Frag} {mg:Str→Option Value} {base:Heap} {t:Adr}
theorem xI (T:Txt w K mg t) (a:Addr) (ns:List Int) (h63:ns.length ≤ 63):Ub P w K mg base CX0 3 t.yj t.lj q46 (gB K a ns):=by
 have g0:Ub P w K mg base CX0 2 t.Nd t.Md q11 (Mc K a ns):=(Km T a ns h63).mono (by decide);have g57:Ub P w K mg base CX0 2 t.si t.ei q45 (xx K a ns):=sF T a ns h63;refine T.wm.ok yc (fun vs H Q E h=>?_) (fun _ _ _ s H vs Q E hr h=>?_)
 ·obtain ⟨m,n,rfl,_⟩:=h;rfl
 obtain ⟨m,n,rfl,S,hm,hn,q⟩:=h;refine ⟨_,(fb (yb (i:=3) yc.nd (qb g57 hr T.yx T.Yk.kp T.Mw (ab (pv 0) (ab (pv 1) jb))))
   (fb (yb (i:=4) yc.nd (qb g0 hr T.Db T.Bb.kp T.Cb (ab (pv 0) (ab gb (ab (pv 2) jb)))))
   (fb (yb (i:=5) yc.nd (Pf jb))
   (fb (Bf PassesOwn.never rfl (me rfl T.uf (ab (pv 1) jb)) (Ib (i:=6) yc.nd) (fb (yb (i:=7) yc.nd (qb g0 hr T.Db T.Bb.kp T.Cb (ab (pv 0) (ab (Kb fc gb (Kb Fd gb (pv 6))) (ab (pv 2) jb)))))
   (fb (yb (i:=8) yc.nd (Kb Ig (Kb fc (Kb fc (pv 7) gb) (qb g0 hr T.Db T.Bb.kp T.Cb (ab (pv 0) (ab (Kb fc gb (Kb Fd gb (pv 6))) (ab (Kb Fg (pv 2) gb) jb))))) (pv 2)))
   (fb (Pc (PW.pt (Et (Ob tf (qb g0 hr T.Db T.Bb.kp T.Cb (ab (pv 0) (ab gb (ab gb jb)))) gb (Vb _)) (Yq (Ob TD (pv 7) (pv 4) (Vb _))))) (lb (yb (i:=8) yc.nd (pv 4))) Rb)
   (fb (yb (i:=9) yc.nd (qb g0 hr T.Db T.Bb.kp T.Cb (ab (pv 0) (ab (Kb fc gb (Kb Fd gb (pv 6))) (ab gb jb)))))
   (fb (yb (i:=10) yc.nd (qb g0 hr T.Db T.Bb.kp T.Cb (ab (pv 0) (ab (Kb fc gb (Kb Fd gb (pv 6))) (ab gb jb)))))
   (fb (Pc (Ob tf (qb g0 hr T.Db T.Bb.kp T.Cb (ab (pv 0) (ab (Kb fc gb (pv 6)) (ab gb jb)))) gb (Vb _)) (lb (yb (i:=9) yc.nd (qb g0 hr T.Db T.Bb.kp T.Cb (ab (pv 0) (ab (Kb fc gb (Kb Fd gb (pv 6))) (ab gb jb)))))) Rb)
   (fb (Pc (Ob tf (qb g0 hr T.Db T.Bb.kp T.Cb (ab (pv 0) (ab (Kb fc gb (Kb Fd gb (pv 6))) (ab gb jb)))) gb (Vb _)) (lb (yb (i:=10) yc.nd (qb g0 hr T.Db T.Bb.kp T.Cb (ab (pv 0) (ab (Kb fc gb (Kb Fd gb (pv 6))) (ab gb jb)))))) Rb)
   (fb (yb (i:=11) yc.nd (Ab ie (Pf (ab xc (ab xc (ab xc jb)))) (qb g0 hr T.Db T.Bb.kp T.Cb (ab (pv 0) (ab (Kb fc gb (Kb Fd gb (pv 6))) (ab gb jb))))))
   (fb (yb (i:=12) yc.nd (Kb fc gb (qb g0 hr T.Db T.Bb.kp T.Cb (ab (pv 0) (ab (Kb fc gb (Kb Fd gb (pv 6))) (ab gb jb))))))
   (lb (Ge (Fp PySem.F.plainAttrs_list PySem.F.slot_list_append PySem.F.type_list_append Ak (pv 5) (ab (wc (ab (pv 11) (ab (Ab ie (pv 3) (pv 6)) (ab (pv 7) (ab (pv 8) (ab (pv 9) (ab (pv 10) (ab (pv 12) jb)))))))) jb))))))))))))))
   (lb (Fb (pv 5))))))),?_⟩
 refine zS (fun σ' H'=>Sb H H'∧Sc K a ns H'∧∃ nl xs,H' nl=some (.lst (Tc xs))∧Nms m xs∧σ'=[some (.ref a),some (.int m),some (.int n),some (.ref nl),none,none,none,none,none,none,none,none,none]) (fun D' hD=>?_) fun zzM zzh=>?_
 ·walk_at "RD";exact ⟨m,rfl,S,hm,fun p xs H' s1 S1 _ e N=>hD _ _ ⟨s1,S1,p,xs,e,N,rfl⟩⟩
 rintro σ1 H1 ⟨s1,S1,nl,xs,en,N,rfl⟩;subst zzh;refine zS (fun σ' H'=>H'=H1∧∃ oe:Int,(0 ≤ oe∧oe < n)∧σ'=[some (.ref a),some (.int m),some (.int n),some (.ref nl),some (.int oe),none,none,none,none,none,none,none,none]) (fun D' hD=>?_) fun zzM zzh=>?_
 ·have d1:=Fc ns 115 (m:=n) (by omega);have d2:=Jc ns 115 (m:=n) (by omega);(walk_at "RD"; repeat (dsimp only [Mc];walk_at "RD"));exact ⟨S1,by omega,by omega,by omega,hD _ _ ⟨rfl,_,⟨d1,d2⟩,rfl⟩⟩
 rintro σ2 H2 ⟨rfl,oe,hoe,rfl⟩;subst zzh;refine zS (fun σ' H'=>Sc K a ns H'∧Sb H2 H'∧∃ wl,H2 wl=none∧H' wl=some (.lst [])∧σ'=[some (.ref a),some (.int m),some (.int n),some (.ref nl),some (.int oe),some (.ref wl),none,none,none,none,none,none,none]) (fun D' hD=>?_) fun zzM zzh=>?_
 ·walk_at "RD";exact ⟨Nat.zero_le _,fun wl hwl=>hD _ _ ⟨S1.new hwl,db hwl,wl,hwl,ib,rfl⟩⟩
 rintro σ3 H3 ⟨S3,s3,wl,hwl,w3,rfl⟩;subst zzh;walk_at "RD";refine ⟨by omega,by omega,?_⟩;refine nk.range (fun i σ H'=>Sc K a ns H'∧Sb H2 H'∧(∃ ds,LW H' wl ds∧ds.length=i∧(∀ d ∈ ds,WOk n d)∧∀ (j:Nat) (d:WD),ds[j]? = some d→xs[j]? = some d.name)∧∃ x6 x7 x8 x9 x10 x11 x12,σ=[some (.ref a),some (.int m),some (.int n),some (.ref nl),some (.int oe),some (.ref wl),x6,x7,x8,x9,x10,x11,x12]) ⟨S3,s3,⟨[],⟨[],w3,rfl,fun i q d h=>by simp at h⟩,rfl,fun d h=>by simp at h,fun j d h=>by simp at h⟩,_,_,_,_,_,_,_,rfl⟩ ?_ ?_
 ·rintro i σ H' hi zzq;refine zzP fun zzM zzh=>?_
  obtain ⟨S4,s4,⟨ds,L4,hdl,hok,hnm⟩,x6,x7,x8,x9,x10,x11,x12,rfl⟩:=zzq;have him:i < m:=by have:i < (m:Int).toNat:=hi;omega
  have hxi:xs[i]? = some (xs[i]'(by rw [N.1];exact him)):=List.getElem?_eq_getElem _;subst zzh;generalize xs[i]'(by rw [N.1];exact him)=nm at hxi;have en4:=s4 _ _ en;have hnat:atI (Tc xs) ((i:Nat):Int)=some (.str nm):=wb (by unfold Tc;rw [List.getElem?_map,hxi];rfl);simp only [Rf,xb,List.set_cons_succ,List.set_cons_zero,Int.zero_add];refine zzC (fun σ' H''=>H''=H'∧∃ st:Int,(0 ≤ st∧st < n)∧σ'=[some (.ref a),some (.int m),some (.int n),some (.ref nl),some (.int oe),some (.ref wl),some (.int (i:Nat)),some (.int st),x8,x9,x10,x11,x12]) (fun D' hD=>?_) fun zzM zzh=>?_
  ·have d1:=Fc ns (120 + 7 * (i:Int)) (m:=n) (by omega);have d2:=Jc ns (120 + 7 * (i:Int)) (m:=n) (by omega);(walk_at "RD"; repeat (dsimp only [Mc];walk_at "RD"));exact ⟨.inl ⟨by decide,by decide⟩,S4,by omega,by omega,by omega,hD _ _ ⟨rfl,_,⟨d1,d2⟩,rfl⟩⟩
  rintro σA HA ⟨rfl,st,hst,rfl⟩;subst zzh;simp only [xb];refine zzC (fun σ' H''=>H''=HA∧∃ fi:Int,(0 ≤ fi∧fi < n)∧st ≠ fi∧σ'=[some (.ref a),some (.int m),some (.int n),some (.ref nl),some (.int oe),some (.ref wl),some (.int (i:Nat)),some (.int st),some (.int fi),x9,x10,x11,x12]) (fun D' hD=>?_) fun zzM zzh=>?_
  ·have d1:=Fc ns (121 + 7 * (i:Int)) (m:=n - 1) (by omega);have d2:=Jc ns (121 + 7 * (i:Int)) (m:=n - 1) (by omega);have m0:=Int.emod_nonneg (st + 1 + Lg ns (121 + 7 * (i:Int)) (n - 1)) (show n ≠ 0 by omega);have m1:=Int.emod_lt_of_pos (st + 1 + Lg ns (121 + 7 * (i:Int)) (n - 1)) (show 0 < n by omega);(walk_at "RD"; repeat (dsimp only [Mc];walk_at "RD"));exact ⟨.inl ⟨by decide,by decide⟩,S4,by omega,by omega,by omega,by omega,hD _ _ ⟨rfl,_,⟨m0,m1⟩,GN hst.1 hst.2 d1 (by omega),rfl⟩⟩
  rintro σB HB ⟨rfl,fi,hfi,hne,rfl⟩;subst zzh;simp only [xb];refine zzC (fun σ' H''=>H''=HB∧∃ fi:Int,(0 ≤ fi∧fi < n)∧st ≠ fi∧σ'=[some (.ref a),some (.int m),some (.int n),some (.ref nl),some (.int oe),some (.ref wl),some (.int (i:Nat)),some (.int st),some (.int fi),x9,x10,x11,x12]) (fun D' hD=>?_) fun zzM zzh=>?_
  ·refine Mb (decide (Lg ns 116 3=0) && decide (st ≠ oe)) (fun Q hQ=>?_) (fun hb=>?_) (fun hb=>?_)
   ·(walk_at "RD"; repeat (dsimp only [Mc];walk_at "RD"));refine ⟨S4,by omega,by omega,by decide,?_⟩;by_cases c0:Lg ns 116 3=0
    ·rw [if_pos (decide_eq_true c0)];rw [decide_eq_true c0,Bool.true_and,show decide (st ≠ oe) = !decide (st=oe) from decide_not] at hQ;exact hQ
    ·rw [if_neg (by simpa using c0)];rw [decide_eq_false c0,Bool.false_and] at hQ;exact hQ
   ·rw [Bool.and_eq_true] at hb;walk_at "RD";exact hD _ _ ⟨rfl,oe,hoe,of_decide_eq_true hb.2,rfl⟩
   ·walk_at "RD";exact hD _ _ ⟨rfl,fi,hfi,hne,rfl⟩
  rintro σC HC ⟨rfl,fi2,hfi2,hne2,rfl⟩;subst zzh;simp only [xb];refine zzC (fun σ' H''=>H''=HC∧∃ of_:Int,(0 ≤ of_∧of_ ≤ 30)∧σ'=[some (.ref a),some (.int m),some (.int n),some (.ref nl),some (.int oe),some (.ref wl),some (.int (i:Nat)),some (.int st),some (.int fi2),some (.int of_),x10,x11,x12]) (fun D' hD=>?_) fun zzM zzh=>?_
  ·have d1:=Fc ns (123 + 7 * (i:Int)) (m:=9) (by decide);have d2:=Jc ns (123 + 7 * (i:Int)) (m:=9) (by decide);(walk_at "RD"; repeat (dsimp only [Mc];walk_at "RD"));exact ⟨.inl ⟨by decide,by decide⟩,S4,by omega,by omega,by decide,hD _ _ ⟨rfl,_,by omega,rfl⟩⟩
  rintro σD HD ⟨rfl,of1,hof1,rfl⟩;subst zzh;simp only [xb];refine zzC (fun σ' H''=>H''=HD∧∃ ne_:Int,(0 ≤ ne_∧ne_ ≤ 30)∧σ'=[some (.ref a),some (.int m),some (.int n),some (.ref nl),some (.int oe),some (.ref wl),some (.int (i:Nat)),some (.int st),some (.int fi2),some (.int of1),some (.int ne_),x11,x12]) (fun D' hD=>?_) fun zzM zzh=>?_
  ·have d1:=Fc ns (125 + 7 * (i:Int)) (m:=6) (by decide);have d2:=Jc ns (125 + 7 * (i:Int)) (m:=6) (by decide);(walk_at "RD"; repeat (dsimp only [Mc];walk_at "RD"));exact ⟨.inl ⟨by decide,by decide⟩,S4,by omega,by omega,by decide,hD _ _ ⟨rfl,_,by omega,rfl⟩⟩
  rintro σE HE ⟨rfl,ne1,hne1,rfl⟩;subst zzh;simp only [xb];refine zzC (fun σ' H''=>H''=HE∧∃ of_:Int,(0 ≤ of_∧of_ ≤ 30)∧σ'=[some (.ref a),some (.int m),some (.int n),some (.ref nl),some (.int oe),some (.ref wl),some (.int (i:Nat)),some (.int st),some (.int fi2),some (.int of_),some (.int ne1),x11,x12]) (fun D' hD=>?_) fun zzM zzh=>?_
  ·refine Mb (decide (Lg ns (117 + (i:Int)) 6=0)) (fun Q hQ=>?_) (fun _=>?_) (fun _=>?_)
   ·(walk_at "RD"; repeat (dsimp only [Mc];walk_at "RD"));exact ⟨S4,by omega,by omega,by decide,hQ⟩
   ·have d1:=Fc ns (123 + 7 * (i:Int)) (m:=31) (by decide);have d2:=Jc ns (123 + 7 * (i:Int)) (m:=31) (by decide);(walk_at "RD"; repeat (dsimp only [Mc];walk_at "RD"));exact ⟨.inl ⟨by decide,by decide⟩,S4,by omega,by omega,by decide,hD _ _ ⟨rfl,_,by omega,rfl⟩⟩
   ·walk_at "RD";exact hD _ _ ⟨rfl,of1,hof1,rfl⟩
  rintro σF HF ⟨rfl,of2,hof2,rfl⟩;subst zzh;simp only [xb];refine zzC (fun σ' H''=>H''=HF∧∃ ne_:Int,(0 ≤ ne_∧ne_ ≤ 30)∧σ'=[some (.ref a),some (.int m),some (.int n),some (.ref nl),some (.int oe),some (.ref wl),some (.int (i:Nat)),some (.int st),some (.int fi2),some (.int of2),some (.int ne_),x11,x12]) (fun D' hD=>?_) fun zzM zzh=>?_
  ·refine Mb (decide (Lg ns (124 + 7 * (i:Int)) 8=0)) (fun Q hQ=>?_) (fun _=>?_) (fun _=>?_)
   ·(walk_at "RD"; repeat (dsimp only [Mc];walk_at "RD"));exact ⟨.inl ⟨by decide,by decide⟩,S4,by omega,by omega,by decide,hQ⟩
   ·have d1:=Fc ns (125 + 7 * (i:Int)) (m:=31) (by decide);have d2:=Jc ns (125 + 7 * (i:Int)) (m:=31) (by decide);(walk_at "RD"; repeat (dsimp only [Mc];walk_at "RD"));exact ⟨.inl ⟨by decide,by decide⟩,S4,by omega,by omega,by decide,hD _ _ ⟨rfl,_,by omega,rfl⟩⟩
   ·walk_at "RD";exact hD _ _ ⟨rfl,ne1,hne1,rfl⟩
  rintro σG HG ⟨rfl,ne2,hne2',rfl⟩;subst zzh;simp only [xb];refine zzC (fun σ' H''=>Sb HG H''∧Sc K a ns H''∧∃ k:Nat,k < 3∧σ'=[some (.ref a),some (.int m),some (.int n),some (.ref nl),some (.int oe),some (.ref wl),some (.int (i:Nat)),some (.int st),some (.int fi2),some (.int of2),some (.int ne2),some (.str (ee k)),x12]) (fun D' hD=>?_) fun zzM zzh=>?_
  ·have d1:=Fc ns (122 + 7 * (i:Int)) (m:=3) (by decide);have d2:=Jc ns (122 + 7 * (i:Int)) (m:=3) (by decide);(walk_at "RD"; repeat (dsimp only [Mc];walk_at "RD"));exact ⟨by decide,fun p hp=>⟨.inl ⟨by decide,by decide⟩,S4.new hp,by omega,by omega,by decide,_,SqL.of ib,_,zL d1 d2,hD _ _ ⟨db hp,S4.new hp,_,by omega,rfl⟩⟩⟩
  rintro σH HH ⟨sH,SH,k,hk,rfl⟩;have enH:=sH _ _ en4;have LH:=L4.same sH;subst zzh;simp only [xb];refine zzC (fun σ' H''=>H''=HH∧∃ le_:Int,(1 ≤ le_∧le_ ≤ 4)∧σ'=[some (.ref a),some (.int m),some (.int n),some (.ref nl),some (.int oe),some (.ref wl),some (.int (i:Nat)),some (.int st),some (.int fi2),some (.int of2),some (.int ne2),some (.str (ee k)),some (.int le_)]) (fun D' hD=>?_) fun zzM zzh=>?_
  ·have d1:=Fc ns (126 + 7 * (i:Int)) (m:=4) (by decide);have d2:=Jc ns (126 + 7 * (i:Int)) (m:=4) (by decide);(walk_at "RD"; repeat (dsimp only [Mc];walk_at "RD"));exact ⟨.inl ⟨by decide,by decide⟩,SH,by omega,by omega,by decide,hD _ _ ⟨rfl,_,by omega,rfl⟩⟩
  rintro σI HI ⟨rfl,le_,hle,rfl⟩;obtain ⟨qs,l1,l2,al⟩:=LH;subst zzh;walk_at "RD";refine ⟨.inl ⟨_,SqL.of l1⟩,_,SqL.of enH,_,hnat,by decide,fun p hp=>?_⟩;have hwp:wl ≠ p:=Nb l1 hp;have L':=LW.snoc (d:=⟨k,nm,st,fi2,of2,ne2,le_⟩) l1 l2 al hp;refine ⟨_,by rw [Eb hwp];exact l1,Nat.lt_of_le_of_lt (show (qs.map V.ref).length ≤ 8 by rw [List.length_map];omega) (by decide),(SH.new hp).set (by rw [Eb hwp];exact l1) (fun _ _ z=>by cases z),((s4.trans sH).trans (db hp)).updN hwl,⟨ds ++ [⟨k,nm,st,fi2,of2,ne2,le_⟩],L',by rw [List.length_append,hdl];rfl,fun d hd=>?_,fun j d hd=>?_⟩,?_⟩
  ·rcases List.mem_append.mp hd with hd | hd
   ·exact hok d hd
   ·rw [List.mem_singleton.mp hd];exact ⟨hk,N.2.2 nm (List.mem_of_getElem? hxi),⟨hst.1,hst.2⟩,⟨hfi2.1,hfi2.2⟩,hne2,hof2,hne2',⟨hle.1,by dsimp only;omega⟩⟩
  ·rcases eg hd with ⟨_,z⟩ | ⟨z,rfl⟩
   ·exact hnm j d z
   ·rw [z,hdl];exact hxi
  ·repeat (first | exact ⟨_,rfl⟩ | refine ⟨⟨_,rfl⟩,?_⟩)
 ·rintro σ H' zzq;refine zzP fun zzM zzh=>?_
  obtain ⟨S4,s4,⟨ds,L4,hdl,hok,hnm⟩,x6,x7,x8,x9,x10,x11,x12,rfl⟩:=zzq;subst zzh;rw [show (m:Int).toNat=m by omega] at hdl;walk_at "RD";refine q wl ds H' (s1.trans s4) S4 (s1.free hwl) L4 hdl ⟨fun d hd=>⟨hok d hd,trivial⟩,?_⟩;have e:ds.map (·.name)=xs:=by
   refine List.ext_getElem? fun j=>?_
   rw [List.getElem?_map];cases h:ds[j]? with
   | some d=>exact (hnm j d h).symm
   | none=>
    have:ds.length ≤ j:=List.getElem?_eq_none_iff.mp h;exact (List.getElem?_eq_none_iff.mpr (by rw [N.1];omega)).symm
  rw [e];exact N.2.1
end
end My
namespace My
open PySem L2
noncomputable def hG (K:PySem.W.Frag):Sp:=fun vs H Q _=>∃ n a b d e,vs=[.ref a,.ref b,.int n]∧SqT K H a (Rp d)∧SqT K H b (Rp e)∧WOk n d∧WOk n e∧NoT H∧Q (.bl (mt n d e)) H
noncomputable def lI (K:PySem.W.Frag):Sp:=fun vs H Q _=>∃ n a b d e,vs=[.ref a,.ref b,.int n]∧SqT K H a (Rp d)∧SqT K H b (Rp e)∧WOk n d∧WOk n e∧∀ H',Sb H H'→Q (.bl (mt n d e)) H'
section
variable {P:Program} {w:World} {K:PySem.W.Frag} {mg:Str→Option Value} {base:Heap} {t:Adr}
theorem EK (T:Txt w K mg t):Ub P w K mg base CX0 1 t.fh t.Wg q48 (hG K):=by
 refine Ub.forget (sp:=lI K) ?_ fun vs H Q E h=>?_
 ·refine T.Hj.ok Gi (fun vs H Q E h=>?_) (fun _ _ _ s H vs Q E hr h=>?_)
  ·obtain ⟨n,a,b,d,e,rfl,_⟩:=h;rfl
  obtain ⟨n,a,b,d,e,rfl,Ta,Tb,hd,he,q⟩:=h;refine ⟨_,(fb (Pc (Ob tf (Ab Jb (pv 0) gb) (Ab Jb (pv 1) gb) (Vb _)) (lb (Fb Tl)) Rb)
   (fb (Pc (PW.pt (gr (Ob ql (Ab Jb (pv 0) gb) (yg vt (pv 1) (lg gb) (lg gb)) (by with_unfolding_all rfl)) (wn (Ob ql (Ab Jb (pv 0) gb) (yg vt (pv 1) (lg gb) (lg gb)) (by with_unfolding_all rfl))))) (lb (Fb Tl)) Rb)
   (fb (yb (i:=3) Gi.nd (Kb Ig (Kb Fg (Ab Jb (pv 0) gb) (Ab Jb (pv 0) gb)) (pv 2)))
   (fb (yb (i:=4) Gi.nd (ae av (Kb Ig (Kb Fg (Ab Jb (pv 1) gb) (Ab Jb (pv 0) gb)) (pv 2)) (pv 3) (Vb _)))
   (lb (Fb (ae TD (pv 4) (ae av (Kb Ig (Kb Fg (Ab Jb (pv 1) gb) (Ab Jb (pv 0) gb)) (pv 2)) (pv 3) (Vb _)) (Vb _)))))))),?_⟩
  have a2:atI (Rp d) 2=some (.int d.start):=wb (j:=2) rfl;have a3:atI (Rp d) 3=some (.int d.fin):=wb (j:=3) rfl;have b2:atI (Rp e) 2=some (.int e.start):=wb (j:=2) rfl;have b3:atI (Rp e) 3=some (.int e.fin):=wb (j:=3) rfl;have f1:=hd.st;have f2:=hd.fi;have f3:=he.st;have f4:=he.fi;refine Mb (decide (d.fin=e.fin)) (fun Q hQ=>?_) (fun c=>?_) (fun c=>?_)
  ·walk_at "RD";refine ⟨_,Ta,_,a3,_,Tb,_,b3,rfl,?_⟩;walk_at "RD";exact hQ
  ·walk_at "RD";have:=q H (Sb.refl H);unfold mt Iy at this;rw [c,Bool.true_or] at this;exact this
  ·have c':=of_decide_eq_false c;walk_at "RD";refine qf (fun b H'=>Sb H H'∧b=decide ((d.start=e.start∨d.start=e.fin)∨(d.fin=e.start∨d.fin=e.fin))) (fun Q hQ=>?_) (fun H' ⟨sm,hb⟩=>?_) (fun H' ⟨sm,hb⟩=>?_)
   ·have hc:Sv (Rp e) (some 2) (some 4)=[V.int e.start,V.int e.fin]:=rfl;have hcut:¬ (HT.sIx (Rp e).length 0 (some 2)=0∧HT.sIx (Rp e).length (Rp e).length (some 4)=(Rp e).length):=by
     show ¬ (HT.sIx 7 0 (some 2)=0∧HT.sIx 7 7 (some 4)=7);decide
    walk_at "RD";refine ⟨_,Ta,_,a2,_,Tb,hcut,fun p hp=>?_⟩;rw [hc];refine ⟨_,.inr (SqT.of ib),rfl,rfl,?_⟩;have s1:Sb H (upd H p (.tup [.int e.start,.int e.fin])):=db hp;rw [wO];by_cases c1:d.start=e.start∨d.start=e.fin
    ·rw [if_pos (decide_eq_true c1)];exact hQ _ _ ⟨s1,(decide_eq_true (.inl c1)).symm⟩
    ·rw [if_neg (by simpa using c1)];refine ⟨_,Ta.same s1,_,a3,_,Tb.same s1,hcut,fun p2 hp2=>?_⟩;rw [hc];refine ⟨_,.inr (SqT.of ib),rfl,rfl,hQ _ _ ⟨s1.trans (db hp2),?_⟩⟩;rw [wO,Bool.eq_iff_iff,decide_eq_true_eq,decide_eq_true_eq];exact ⟨.inr,fun z=>z.resolve_left c1⟩
   ·walk_at "RD";have:=q H' sm;unfold mt Iy at this;rw [c,Bool.false_or,if_pos (by have:=of_decide_eq_true hb.symm;omega)] at this;exact this
   ·have hb':=of_decide_eq_false hb.symm;have hn0:0 < n:=by omega
    have Ta':=Ta.same sm;have Tb':=Tb.same sm;walk_at "RD";refine ⟨_,Ta',_,a3,_,Ta',_,a2,_,rfl,_,rfl,hn0,_,Tb',_,b2,_,Ta',_,a2,_,rfl,_,rfl,hn0,_,Tb',_,b3,_,Ta',_,a2,_,rfl,_,rfl,hn0,?_⟩;have p1:0 < (e.start - d.start) % n:=by rw [vB f1.1 f1.2 f3.1 f3.2];split <;> omega
    have p2:0 < (e.fin - d.start) % n:=by rw [vB f1.1 f1.2 f4.1 f4.2];split <;> omega
    have hq:=q H' sm;unfold mt Iy Mm at hq;rw [c,Bool.false_or,if_neg (by omega),decide_eq_true p1,decide_eq_true p2,Bool.true_and,Bool.true_and] at hq;generalize decide ((e.start - d.start) % n < (d.fin - d.start) % n)=X at hq ⊢;generalize decide ((e.fin - d.start) % n < (d.fin - d.start) % n)=Y at hq ⊢;cases X <;> cases Y <;> exact hq
 ·obtain ⟨n,a,b,d,e,rfl,Ta,Tb,hd,he,nt,q⟩:=h;exact ⟨nt,n,a,b,d,e,rfl,Ta,Tb,hd,he,fun H' sm=>⟨sm,q⟩⟩
end
noncomputable def aA (K:PySem.W.Frag):Sp:=fun vs H Q _=>∃ a d x,vs=[.ref a,.int x]∧SqT K H a (Rp d)∧d.k < 3∧Q (.int (Rc (d,x))) H
theorem GL {k:Nat} (h:k < 3):decide (V.str (ee k)=V.str (Str.ofString "foot"))=decide (k=1):=by
 match k,h with
 | 0,_=>decide +kernel
 | 1,_=>decide +kernel
 | 2,_=>decide +kernel
section
variable {P:Program} {w:World} {K:PySem.W.Frag} {mg:Str→Option Value} {base:Heap} {t:Adr}
theorem VI (T:Txt w K mg t):Ub P w K mg base CX0 1 t.Qh t.Xh q30 (aA K):=by
 refine T.il.ok wv (fun vs H Q E h=>?_) (fun _ _ _ s H vs Q E hr h=>?_)
 ·obtain ⟨a,d,x,rfl,_⟩:=h;rfl
 obtain ⟨a,d,x,rfl,Ta,hk,q⟩:=h;refine ⟨_,(fb (Pc (Ob tf (Ab Jb (pv 0) gb) xc (Vb _)) (lb (Fb (Kb fc (pv 1) (Ab Jb (pv 0) gb)))) Rb)
   (lb (Fb (Kb fc (pv 1) gb)))),?_⟩
 have a0:atI (Rp d) 0=some (.str (ee d.k)):=wb (j:=0) rfl;have a4:atI (Rp d) 4=some (.int d.off):=wb (j:=4) rfl;refine Mb (decide (d.k=1)) (fun Q hQ=>?_) (fun c=>?_) (fun c=>?_)
 ·walk_at "RD";refine ⟨_,Ta,_,a0,rfl,?_⟩;rw [show decide (V.str (ee d.k)=V.str (Str.ofString "foot"))=decide (d.k=1) from GL hk];exact hQ
 ·have c':=of_decide_eq_true c;walk_at "RD";refine ⟨_,Ta,_,a4,_,rfl,?_⟩;have e:Rc (d,x)=x + d.off:=by unfold Rc Rn Gh;rw [c'];simp
  rw [e] at q;exact q
 ·have c':=of_decide_eq_false c;walk_at "RD";have e:Rc (d,x)=x + 3:=by
   unfold Rc Rn Gh
   match hd:d.k,hk,c' with
   | 0,_,_=>simp;omega
   | 1,_,z=>exact absurd rfl z
   | 2,_,_=>simp;omega
  rw [e] at q;exact q
end
end My
namespace My
open PySem L2
noncomputable def Lo (H:Hp) (wl:Addr) (ws:List (WD × Int)):Prop:=∃ qs:List Addr,H wl=some (.lst (qs.map V.ref))∧qs.length=ws.length∧∀ (i:Nat) (q:Addr) (p:WD × Int),qs[i]? = some q→ws[i]? = some p→∃ wq,H q=some (.tup [.ref wq,.int p.2])∧H wq=some (.tup (Rp p.1))
theorem Me {H H':Hp} {wl:Addr} {ws:List (WD × Int)} (h:Lo H wl ws) (s:Sb H H'):Lo H' wl ws:=by
 obtain ⟨qs,e1,e2,al⟩:=h;refine ⟨qs,s _ _ e1,e2,fun i q p h1 h2=>?_⟩;obtain ⟨wq,a1,a2⟩:=al i q p h1 h2;exact ⟨wq,s _ _ a1,s _ _ a2⟩
theorem Eu {K:PySem.W.Frag} {H:Hp} {wl:Addr} {ws:List (WD × Int)} (h:Lo H wl ws) {i:Nat} {p:WD × Int} (hp:ws[i]? = some p):∃ xs q wq,SqL K H wl xs∧atI xs (i:Int)=some (.ref q)∧SqT K H q [.ref wq,.int p.2]∧SqT K H wq (Rp p.1):=by
 obtain ⟨qs,e1,e2,al⟩:=h;have hi:i < qs.length:=by rw [e2];exact (List.getElem?_eq_some_iff.mp hp).1
 have hq:qs[i]? = some qs[i]:=List.getElem?_eq_getElem hi;obtain ⟨wq,a1,a2⟩:=al i _ p hq hp;exact ⟨_,qs[i],wq,SqL.of e1,wb (by rw [List.getElem?_map,hq];rfl),SqT.of a1,SqT.of a2⟩
theorem rD {K:PySem.W.Frag} {H:Hp} {wl:Addr} {ws:List (WD × Int)} (h:Lo H wl ws):∃ xs,SqL K H wl xs∧xs.length=ws.length:=by
 obtain ⟨qs,e1,e2,al⟩:=h;exact ⟨_,SqL.of e1,by rw [List.length_map,e2]⟩
noncomputable def jM (S:Sys) (i j:Nat):V:=if S.e i j then .int (S.st i j) else .non
noncomputable def jv:Sp:=fun vs H Q _=>∃ wl i j n ws,vs=[.ref wl,.int (i:Nat),.int (j:Nat),.int n]∧Lo H wl ws∧(∀ p ∈ ws,WOk n p.1)∧i < ws.length∧j < ws.length∧NoT H∧Q (jM (Lb n ws) i j) H
section
variable {P:Program} {w:World} {K:PySem.W.Frag} {mg:Str→Option Value} {base:Heap} {t:Adr}
theorem kz (T:Txt w K mg t):Ub P w K mg base CX0 2 t.Ve t.We q15 jv:=by
 have g58:Ub P w K mg base CX0 1 t.fh t.Wg q48 (hG K):=EK T;refine T.ag.ok Ps (fun vs H Q E h=>?_) (fun _ _ _ s H vs Q E hr h=>?_)
 ·obtain ⟨wl,i,j,n,ws,rfl,_⟩:=h;rfl
 obtain ⟨wl,i,j,n,ws,rfl,L,hw,hi,hj,nt,q⟩:=h;have hwi:ws[i]? = some ws[i]:=List.getElem?_eq_getElem hi;have hwj:ws[j]? = some ws[j]:=List.getElem?_eq_getElem hj;obtain ⟨xs,qi,wi,L1,ai,ei1,ei2⟩:=Eu (K:=K) L hwi;obtain ⟨ys,qj,wj,L2',aj,ej1,ej2⟩:=Eu (K:=K) L hwj;have oi:=hw _ (List.mem_of_getElem? hwi);have oj:=hw _ (List.mem_of_getElem? hwj);have hs:=Jm (n:=n) hwi hwj;unfold jM at q;rw [hs.1,hs.2] at q;refine ⟨_,(fb (Pc (PW.pt (gr (Ob tf (pv 1) (pv 2) (Vb _)) (wn (Uk (Vh (qb g58 hr T.xv T.Hj.kp T.Mv (ab (Ab Jb (Ab ie (pv 0) (pv 1)) gb) (ab (Ab Jb (Ab ie (pv 0) (pv 2)) gb) (ab (pv 3) jb))))))))) (lb (Fb Jg)) Rb)
   (lb (Fb (Kb fc (Ab Jb (Ab ie (pv 0) (pv 1)) gb) (qc (yr rfl) rfl T.zH Jo (ab gb (ab (Kb Fg (Ab Jb (Ab Jb (Ab ie (pv 0) (pv 1)) gb) gb) (Ab Jb (Ab Jb (Ab ie (pv 0) (pv 2)) gb) gb)) jb))))))),?_⟩
 refine Mb (!(decide (i ≠ j) && mt n ws[i].1 ws[j].1)) (fun Q hQ=>?_) (fun c=>?_) (fun c=>?_)
 ·walk_at "RD";by_cases hij:i=j
  ·rw [if_pos (decide_eq_true (by omega))];rw [decide_eq_false (fun z=>z hij)] at hQ;exact hQ
  ·rw [if_neg (by rw [decide_eq_true_eq];omega)];rw [decide_eq_true hij,Bool.true_and] at hQ;exact ⟨_,L1,_,ai,_,rfl,_,ei1,_,wb (j:=0) rfl,_,L2',_,aj,_,rfl,_,ej1,_,wb (j:=0) rfl,n,wi,wj,_,_,rfl,ei2,ej2,oi,oj,nt,_,rfl,hQ⟩
 ·walk_at "RD";rw [show (decide (i ≠ j) && mt n ws[i].1 ws[j].1)=false by rw [← Bool.not_not (decide (i ≠ j) && _),c];rfl,if_neg Bool.false_ne_true] at q;exact q
 ·rw [show (decide (i ≠ j) && mt n ws[i].1 ws[j].1)=true by simpa using c,if_pos rfl] at q;walk_at "RD";refine ⟨_,L1,_,ai,_,rfl,_,ei1,_,wb (j:=1) rfl,_,L1,_,ai,_,rfl,_,ei1,_,wb (j:=0) rfl,_,rfl,_,ei2,_,wb (j:=4) rfl,_,L2',_,aj,_,rfl,_,ej1,_,wb (j:=0) rfl,_,rfl,_,ej2,_,wb (j:=5) rfl,_,rfl,_,rfl,_,rfl,q⟩
end
end My
namespace My
open PySem L2
noncomputable def uu (K:PySem.W.Frag) (a:Addr) (ns:List Int):Sp:=fun vs H Q _=>vs=[.ref a]∧Sc K a ns H∧∀ n:Int,(4 ≤ n∧n ≤ 99)→Q (.int n) H
noncomputable def Fz (K:PySem.W.Frag) (a:Addr) (ns:List Int):Sp:=fun vs H Q _=>∃ wl ds,vs=[.ref a,.ref wl]∧Sc K a ns H∧LW H wl ds∧(0 < ds.length∧ds.length ≤ 12) ∧
 ∀ p H' ws,Sb H H'→Sc K a ns H'→Lo H' p ws→(0 < ws.length∧ws.length ≤ 5)→(∀ x ∈ ws,x.1 ∈ ds∧1 ≤ x.2∧x.2 ≤ 60)→Q (.ref p) H'
section
variable {P:Program} {w:World} {K:PySem.W.Frag} {mg:Str→Option Value} {base:Heap} {t:Adr}
theorem UC (T:Txt w K mg t) (a:Addr) (ns:List Int) (h63:ns.length ≤ 63):Ub P w K mg base CX0 2 t.Yg t.Xg q14 (uu K a ns):=by
 have g0:Ub P w K mg base CX0 1 t.Nd t.Md q11 (Mc K a ns):=Km T a ns h63;refine T.tj.ok Os (fun vs H Q E h=>?_) (fun _ _ _ s H vs Q E hr h=>?_)
 ·obtain ⟨rfl,_⟩:=h;rfl
 obtain ⟨rfl,S,q⟩:=h;have d1:=Fc ns 0 (m:=13) (by decide);have d2:=Jc ns 0 (m:=13) (by decide);refine ⟨_,(lb (Fb (Hv (Ob tf (qb g0 hr T.Db T.Bb.kp T.Cb (ab (pv 0) (ab gb (ab gb jb)))) gb (Vb _)) gb (Kb fc gb (qb g0 hr T.Db T.Bb.kp T.Cb (ab (pv 0) (ab gb (ab gb jb)))))))),?_⟩;walk_at "RD";refine ⟨_,_,rfl,S,by decide,by decide,?_⟩;refine ⟨rfl,?_⟩;by_cases z:Lg ns 1 6=0
 ·rw [if_pos (by rw [z];rfl)];exact q 99 (by decide)
 ·rw [if_neg (by simpa using z)];exact ⟨_,_,rfl,S,by decide,by decide,_,rfl,q _ (by omega)⟩
theorem UH (T:Txt w K mg t) (a:Addr) (ns:List Int) (h63:ns.length ≤ 63):Ub P w K mg base CX0 2 t.mh t.gh q49 (Fz K a ns):=by
 have g0:Ub P w K mg base CX0 1 t.Nd t.Md q11 (Mc K a ns):=Km T a ns h63;refine T.Ij.ok md (fun vs H Q E h=>?_) (fun _ _ _ s H vs Q E hr h=>?_)
 ·obtain ⟨wl,ds,rfl,_⟩:=h;rfl
 obtain ⟨wl,ds,rfl,S,⟨qs,w1,w2,w3⟩,⟨hl0,hl1⟩,q⟩:=h;refine ⟨_,(fb (yb (i:=2) md.nd (Kb fc gb (qb g0 hr T.Db T.Bb.kp T.Cb (ab (pv 0) (ab gb (ab gb jb))))))
   (fb (Pc (Ob tf (qb g0 hr T.Db T.Bb.kp T.Cb (ab (pv 0) (ab gb (ab gb jb)))) gb (Vb _)) (lb (yb (i:=2) md.nd gb)) Rb)
   (fb (yb (i:=3) md.nd (qb g0 hr T.Db T.Bb.kp T.Cb (ab (pv 0) (ab gb (ab (qc bc rfl T.Ci ic (ab (pv 1) jb)) jb)))))
   (fb (yb (i:=4) md.nd (Pf jb))
   (fb (Bf PassesOwn.never rfl (me rfl T.uf (ab (qc (Hx rfl) rfl T.BN Jt (ab (pv 2) (ab (qc bc rfl T.Ci ic (ab (pv 1) jb)) jb))) jb)) (Ib (i:=5) md.nd) (fb (yb (i:=6) md.nd (Kb fc gb (qb g0 hr T.Db T.Bb.kp T.Cb (ab (pv 0) (ab (Kb fc gb (pv 5)) (ab gb jb))))))
   (fb (Pc (Ob tf (qb g0 hr T.Db T.Bb.kp T.Cb (ab (pv 0) (ab gb (ab gb jb)))) gb (Vb _)) (lb (yb (i:=6) md.nd (Kb fc gb (qb g0 hr T.Db T.Bb.kp T.Cb (ab (pv 0) (ab (Kb fc gb (pv 5)) (ab gb jb))))))) Rb)
   (lb (Ge (Fp PySem.F.plainAttrs_list PySem.F.slot_list_append PySem.F.type_list_append Ak (pv 4) (ab (wc (ab (Ab ie (pv 1) (Kb Ig (Kb fc (pv 3) (pv 5)) (qc bc rfl T.Ci ic (ab (pv 1) jb)))) (ab (pv 6) jb))) jb)))))))
   (lb (Fb (pv 4)))))))),?_⟩
 have d1:=Fc ns 3 (m:=4) (by decide);have d2:=Jc ns 3 (m:=4) (by decide);refine zS (fun σ' H'=>H'=H∧∃ m:Int,(1 ≤ m∧m ≤ 4)∧σ'=[some (.ref a),some (.ref wl),some (.int m),none,none,none,none]) (fun D' hD'=>?_) fun zzM zzh=>?_
 ·walk_at "RD";exact ⟨_,_,rfl,S,by decide,by decide,_,rfl,hD' _ _ ⟨rfl,_,by omega,rfl⟩⟩
 rintro σ0 H0 ⟨rfl,m0,hm0,rfl⟩;subst zzh;refine zS (fun σ' H'=>H'=H0∧∃ m:Int,(1 ≤ m∧m ≤ 5)∧σ'=[some (.ref a),some (.ref wl),some (.int m),none,none,none,none]) (fun D' hD'=>?_) fun zzM zzh=>?_
 ·refine Mb (decide (Lg ns 4 4=0)) (fun Q hQ=>?_) (fun h=>?_) (fun h=>?_)
  ·walk_at "RD";refine ⟨_,_,rfl,S,by decide,by decide,rfl,?_⟩;walk_at "RD";exact hQ
  ·walk_at "RD";exact hD' _ _ ⟨rfl,5,by decide,rfl⟩
  ·simp only [Xb];exact hD' _ _ ⟨rfl,_,by omega,rfl⟩
 rintro σ' H' ⟨rfl,m,hm,rfl⟩;subst zzh;simp only [xb];have d3:=Fc ns 5 (m:=(ds.length:Int)) (by omega);have d4:=Jc ns 5 (m:=(ds.length:Int)) (by omega);have hqn:(qs.map V.ref).length=ds.length:=by rw [List.length_map,w2]
 refine zzC (fun σ' H2=>H2=H'∧σ'=[some (.ref a),some (.ref wl),some (.int m),some (.int (Lg ns 5 (ds.length:Int))),none,none,none]) (fun D' hD'=>?_) fun zzM zzh=>?_
 ·walk_at "RD";refine ⟨_,.inl (SqL.of w1),?_⟩;rw [hqn];exact ⟨_,_,rfl,S,by decide,by omega,hD' _ _ ⟨rfl,rfl⟩⟩
 rintro σ1 H1 ⟨rfl,rfl⟩;subst zzh;simp only [xb];generalize hdr:Lg ns 5 (ds.length:Int)=dr at d3 d4 ⊢;walk_at "RD";refine ⟨by decide,fun p hp=>?_⟩;have s1:Sb H1 (upd H1 p (.lst [])):=db hp;refine ⟨_,.inl (SqL.of (s1 _ _ w1)),?_⟩;rw [hqn];refine ⟨by split <;> omega,by split <;> omega,?_⟩;have hN1:0 < (if (ds.length:Int) < m then (ds.length:Int) else m).toNat∧(if (ds.length:Int) < m then (ds.length:Int) else m).toNat ≤ 5:=by split <;> omega
 generalize (if (ds.length:Int) < m then (ds.length:Int) else m).toNat=N at hN1 ⊢;refine nk.range (fun i σ H2=>(∃ x y,σ=[some (V.ref a),some (V.ref wl),some (V.int m),some (V.int (dr)),some (V.ref p),x,y])∧Sb H1 H2∧Sc K a ns H2∧∃ ws,Lo H2 p ws∧ws.length=i∧∀ x ∈ ws,x.1 ∈ ds∧1 ≤ x.2∧x.2 ≤ 60) ?_ ?_ ?_
 ·exact ⟨⟨_,_,rfl⟩,s1,S.new hp,[],⟨[],ib,rfl,fun i q p h=>by simp at h⟩,rfl,fun x h=>by simp at h⟩
 ·rintro i σ H2 hi zzq;refine zzP fun zzM zzh=>?_
  obtain ⟨⟨x,y,rfl⟩,s2,S2,ws,⟨qw,l1,l2,l3⟩,hl,hx⟩:=zzq;have e1:=Fc ns (60 + i) (m:=12) (by decide);have e2:=Jc ns (60 + i) (m:=12) (by decide);have e3:=Fc ns (60 + i) (m:=60) (by decide);have e4:=Jc ns (60 + i) (m:=60) (by decide);subst zzh;simp only [Rf,xb,List.set_cons_succ,List.set_cons_zero];rw [Int.zero_add];refine zzC (fun σ' H3=>H3=H2∧∃ tn:Int,(1 ≤ tn∧tn ≤ 60)∧σ'=[some (V.ref a),some (V.ref wl),some (V.int m),some (V.int dr),some (V.ref p),some (V.int (i:Int)),some (V.int tn)]) (fun D' hD'=>?_) fun zzM zzh=>?_
  ·walk_at "RD";exact ⟨_,_,rfl,S2,by omega,by decide,_,rfl,hD' _ _ ⟨rfl,_,by omega,rfl⟩⟩
  rintro σ0 H0 ⟨rfl,tn0,htn0,rfl⟩;subst zzh;simp only [xb];refine zzC (fun σ' H3=>H3=H0∧∃ tn:Int,(1 ≤ tn∧tn ≤ 60)∧σ'=[some (V.ref a),some (V.ref wl),some (V.int m),some (V.int (dr)),some (V.ref p),some (V.int (i:Int)),some (V.int tn)]) (fun D' hD'=>?_) fun zzM zzh=>?_
  ·refine Mb (decide (Lg ns 70 6=0)) (fun Q hQ=>?_) (fun h=>?_) (fun h=>?_)
   ·walk_at "RD";refine ⟨_,_,rfl,S2,by decide,by decide,rfl,?_⟩;walk_at "RD";exact hQ
   ·walk_at "RD";refine ⟨_,_,rfl,S2,by omega,by decide,_,rfl,?_⟩;exact hD' _ _ ⟨rfl,_,by omega,rfl⟩
   ·simp only [Xb];exact hD' _ _ ⟨rfl,_,by omega,rfl⟩
  rintro σ' H3 ⟨rfl,tn,htn,rfl⟩;have z0:=Int.emod_nonneg (dr + i) (show (ds.length:Int) ≠ 0 by omega);have z1:=Int.emod_lt_of_pos (dr + i) (show (0:Int) < ds.length by omega);obtain ⟨k,hk⟩:∃ k:Nat,(dr + i) % (ds.length:Int)=(k:Int):=⟨_,(Int.toNat_of_nonneg z0).symm⟩;have hkl:k < ds.length:=by omega
  have hdk:ds[k]? = some ds[k]:=List.getElem?_eq_getElem hkl;have hqk:qs[k]? = some (qs[k]'(by omega)):=List.getElem?_eq_getElem (by omega);have ewk:=w3 k _ _ hqk hdk;subst zzh;walk_at "RD";refine ⟨.inl ⟨_,SqL.of l1⟩,_,.inl (SqL.of (s2 _ _ w1)),by rw [hqn];omega,_,SqL.of (s2 _ _ w1),V.ref (qs[k]'(by omega)),by rw [hqn,hk];exact wb (by rw [List.getElem?_map,hqk];rfl),by decide,fun tp htp=>?_⟩;have s3:Sb H3 (upd H3 tp (.tup [V.ref (qs[k]'(by omega)),V.int tn])):=db htp;have htn':(upd H3 tp (.tup [V.ref (qs[k]'(by omega)),V.int tn])) tp=some (.tup [V.ref (qs[k]'(by omega)),V.int tn]):=ib;have S3:=S2.new (o:=.tup [V.ref (qs[k]'(by omega)),V.int tn]) htp;have hsn:=s2.trans s3;generalize upd H3 tp (.tup [V.ref (qs[k]'(by omega)),V.int tn])=H4 at s3 htn' S3 hsn ⊢;have l4:=s3 _ _ l1;refine ⟨_,l4,Nat.lt_of_le_of_lt (show (qw.map V.ref).length ≤ 5 by rw [List.length_map,l2,hl];omega) (by decide),⟨_,rfl⟩,hsn.updN hp,S3.set l4 (by intro ob z h;cases h),ws ++ [(ds[k],tn)],⟨qw ++ [tp],by rw [ib,List.map_append];rfl,by rw [List.length_append,List.length_append,l2];rfl,fun j q x h1 h2=>?_⟩,by rw [List.length_append,hl];rfl,fun x hm=>?_⟩
  ·have keep:∀ {b:Addr} {xs:List V},H4 b=some (.tup xs)→upd H4 p (.lst (qw.map V.ref ++ [V.ref tp])) b=some (.tup xs):=fun e=>by rw [Eb (Bj e l4 (by intro z;cases z))];exact e
   rcases eg h1 with ⟨g1,g2⟩ | ⟨g1,g2⟩
   ·rcases eg h2 with ⟨g3,g4⟩ | ⟨g3,g4⟩
    ·obtain ⟨wq,v1,v2⟩:=l3 j q x g2 g4;exact ⟨wq,keep (s3 _ _ v1),keep (s3 _ _ v2)⟩
    ·omega
   ·rcases eg h2 with ⟨g3,g4⟩ | ⟨g3,g4⟩
    ·omega
    ·subst g2 g4;exact ⟨_,keep htn',keep (hsn _ _ ewk)⟩
  ·rcases List.mem_append.mp hm with g | g
   ·exact hx x g
   ·rw [List.mem_singleton.mp g];exact ⟨List.mem_of_getElem? hdk,htn.1,htn.2⟩
 ·rintro σ H2 zzq;refine zzP fun zzM zzh=>?_
  obtain ⟨⟨x,y,rfl⟩,s2,S2,ws,L,hl,hx⟩:=zzq;subst zzh;walk_at "RD";exact q _ _ _ s2 S2 L (by omega) hx
end
theorem AK (n:Int):Str.ofString "ring " ++ num n=Str.join bk [Str.ofString "ring",num n]:=by
 apply QF;have e1:(Str.ofString "ring ").cps.toList=[114,105,110,103,32]:=by decide +kernel
 have e2:(Str.ofString "ring").cps.toList=[114,105,110,103]:=by decide +kernel
 rw [QN,nv];simp only [Str.cps_append,Array.toList_append,List.map_cons,List.map_nil,jl,e1,e2,List.cons_append,List.nil_append]
theorem eJ {B:Nat}:∀ {ys:List Str},(∀ y ∈ ys,y.length ≤ B)→(ys.map (·.length)).sum ≤ ys.length * B
 | [],_=>by simp
 | a :: r,h=>by
  have h1:=h a (by simp);have h2:=eJ (B:=B) (ys:=r) fun y hy=>h y (List.mem_cons_of_mem _ hy)
  rw [List.map_cons,List.sum_cons,List.length_cons,Nat.succ_mul];omega
theorem XL {n:Int} {ds:List WD} (h:COk n ds):∀ y ∈ (yi n ds).map (Str.join bk),y.length ≤ 63:=fun y hy=>by
 obtain ⟨r,hr,rfl⟩:=List.mem_map.mp hy;have:=qv bk 8 r fun x hx=>(h.plain r hr x hx).1
 rw [jB] at this;have hl:r.length ≤ 7:=by
  rcases List.mem_cons.mp hr with rfl | hr
  ·simp
  ·obtain ⟨d,hd,rfl⟩:=List.mem_map.mp hr;simp [Wi]
 omega
noncomputable def nB (K:PySem.W.Frag):Sp:=fun vs H Q _=>∃ n wl ds,vs=[.int n,.ref wl]∧LW H wl ds∧iM n ds∧(2 ≤ n∧n ≤ 99)∧(1 ≤ ds.length∧ds.length ≤ 12)∧NoT H∧Q (.str (yv n ds)) H
noncomputable def kG (K:PySem.W.Frag):Sp:=fun vs H Q _=>∃ n wl ds,vs=[.int n,.ref wl]∧LW H wl ds∧iM n ds∧(2 ≤ n∧n ≤ 99)∧(1 ≤ ds.length∧ds.length ≤ 12)∧∀ H',Sb H H'→Q (.str (yv n ds)) H'
section
variable {P:Program} {w:World} {K:PySem.W.Frag} {mg:Str→Option Value} {base:Heap} {t:Adr}
theorem MI (T:Txt w K mg t):Ub P w K mg base CX0 1 t.jj t.Lj q47 (nB K):=by
 refine Ub.forget (sp:=kG K) ?_ fun vs H Q E h=>?_
 ·refine T.Hm.ok uk (fun vs H Q E h=>?_) (fun _ _ _ s H vs Q E hr h=>?_)
  ·obtain ⟨n,wl,ds,rfl,_⟩:=h;rfl
  obtain ⟨n,wl,ds,rfl,L,D,hn,hl,q⟩:=h;refine ⟨_,(fb (yb (i:=2) uk.nd (Pf (ab (Kb Ro xc (Hg gl rfl T.uK wo (ab (pv 0) jb))) jb)))
   (fb (Bf PassesOwn.never rfl (ng (pv 1)) (Ib (i:=3) uk.nd) (lb (Ge (Fp PySem.F.plainAttrs_list PySem.F.slot_list_append PySem.F.type_list_append Ak (pv 2) (ab (Fp PySem.F.plainAttrs_str PySem.F.slot_str_join PySem.F.type_str_join vy xc (ab (Kb RA (Pf (ab (Ab Jb (pv 3) gb) (ab (Ab Jb (pv 3) gb) jb))) (cg rfl (gO (yg vt (pv 3) (lg gb) Em)) (Cc (sc:=ub Im) rfl (by decide +kernel)) (N:=["_law_number"]) (sel:=[none]) (Vc (M:=["_law_places_here","_law_ways_here","_law_rows","_law_way"]) (by decide +kernel)) (Blk.of (fun _ _ _ _=>(Ib (i:=0) (oh (N:=["_law_number"]) (by decide +kernel) rfl))) (fun _ _ _ _=>⟨_,sf,by walk_at "B"⟩) (fun _ _ _ _=>⟨_,(Hg gl rfl T.uK wo (ab (pv 0) jb)),by walk_at "B"⟩)))) jb)) jb)))))
   (lb (Fb (Fp PySem.F.plainAttrs_str PySem.F.slot_str_join PySem.F.type_str_join vy xc (ab (pv 2) jb)))))),?_⟩
  have hC:=D.cok hn hl;obtain ⟨qs,l1,l2,al⟩:=L;have hlen:∀ x:Str,ly x→x.length ≤ 8:=fun x h=>h.1
  have hbig:∀ k:Nat,k ≤ 1000→k ≤ sizeLine:=fun k h=>Nat.le_trans h (by decide)
  have hr5:(Str.ofString "ring ").length=5:=by decide +kernel
  have hb1:(Str.ofString " ").length=1:=by decide +kernel
  walk_at "RD";have hn8:(Str.ofString (toString n)).length ≤ 8:=(se (v:=n) (by omega) (by omega)).1;refine ⟨Mq (by omega),hbig _ (by rw [hr5];omega),by decide,fun rl hrl'=>?_⟩;rw [AK];have s0:Sb H (upd H rl (.lst [V.str (Str.join bk [Str.ofString "ring",num n])])):=db hrl';refine ⟨⟨_,SqL.of (s0 _ _ l1)⟩,?_⟩;refine nk.list (xs:=qs.map V.ref) (fun i σ H'=>Sb H H'∧H' rl=some (.lst (Tc ((yi n (ds.take i)).map (Str.join bk))))∧∃ x,σ=[some (.int n),some (.ref wl),some (.ref rl),x]) ?_ ?_ ?_ ?_
  ·exact ⟨s0,ib,none,rfl⟩
  ·rintro i σ H' hi ⟨sm,_,_⟩;exact SqL.of (sm _ _ l1)
  ·rintro i v σ H' hv zzq;refine zzP fun zzM zzh=>?_
   obtain ⟨sm,hr,x,rfl⟩:=zzq;obtain ⟨q',hq,rfl⟩:=Og hv;have hid:i < ds.length:=by rw [← l2];exact (List.getElem?_eq_some_iff.mp hq).1
   have hd:ds[i]? = some ds[i]:=List.getElem?_eq_getElem hid;have hT:SqT K H' q' (Rp ds[i]):=SqT.of (sm _ _ (al i q' _ hq hd));have hw:=(D.al _ (List.mem_of_getElem? hd)).1;have b1:=hw.st;have b2:=hw.fi;have b3:=hw.of;have b4:=hw.nr;have b5:=hw.le;have z1:=hlen _ (su ds[i].k);have z2:=hlen _ (Ht hw.nm);have z3:(num ds[i].start).length ≤ 8:=hlen _ (se (v:=ds[i].start) (by omega) (by omega));have z4:(num ds[i].fin).length ≤ 8:=hlen _ (se (v:=ds[i].fin) (by omega) (by omega));have z5:(num ds[i].off).length ≤ 8:=hlen _ (se (v:=ds[i].off) (by omega) (by omega));have z7:(num ds[i].least).length ≤ 8:=hlen _ (se (v:=ds[i].least) (by omega) (by omega));have z6:(num ds[i].near).length ≤ 8:=hlen _ (se (v:=ds[i].near) (by omega) (by omega));subst zzh;walk_at "RD";refine ⟨.inl ⟨_,SqL.of hr⟩,?_⟩;have at0:atI (Rp ds[i]) 0=some (.str (ee ds[i].k)):=wb (j:=0) rfl;have at1:atI (Rp ds[i]) 1=some (.str ds[i].name):=wb (j:=1) rfl;have hcut:Sv (Rp ds[i]) (some 2) none=[.int ds[i].start,.int ds[i].fin,.int ds[i].off,.int ds[i].near,.int ds[i].least]:=rfl;refine ⟨_,hT,_,at0,_,hT,_,at1,by decide,fun p0 hp0=>?_⟩;have s1:Sb H' (upd H' p0 (.lst [.str (ee ds[i].k),.str ds[i].name])):=db hp0;have hr1:=s1 _ _ hr;have hp01:(upd H' p0 (.lst [.str (ee ds[i].k),.str ds[i].name])) p0=some (.lst [.str (ee ds[i].k),.str ds[i].name]):=ib;have sm1:=sm.trans s1;have hT1:=hT.same s1;generalize upd H' p0 (.lst [.str (ee ds[i].k),.str ds[i].name])=H1 at hr1 hp01 sm1 hT1 ⊢;refine ⟨_,hT1,(show ¬ (HT.sIx 7 0 (some 2)=0∧HT.sIx 7 7 none=7) by decide),fun p hp=>⟨⟨_,SqT.of ib⟩,?_⟩⟩;rw [hcut];refine bd.tup_zs (xs:=[.int ds[i].start,.int ds[i].fin,.int ds[i].off,.int ds[i].near,.int ds[i].least]) (zs:=Tc [num ds[i].start,num ds[i].fin,num ds[i].off,num ds[i].near,num ds[i].least]) (SqT.of ib) (hbig _ (show 5 ≤ 1000 by decide)) rfl (fun j v z N hv hz hN=>?_) (fun p2 hp2=>?_)
   ·have key:∃ a:Int,v=.int a∧z=.str (num a)∧0 ≤ a∧a < 100:=by
     match j,hv,hz with
     | 0,hv,hz=>cases hv;cases hz;exact ⟨_,rfl,rfl,b1.1,by omega⟩
     | 1,hv,hz=>cases hv;cases hz;exact ⟨_,rfl,rfl,b2.1,by omega⟩
     | 2,hv,hz=>cases hv;cases hz;exact ⟨_,rfl,rfl,b3.1,by omega⟩
     | 3,hv,hz=>cases hv;cases hz;exact ⟨_,rfl,rfl,b4.1,by omega⟩
     | 4,hv,hz=>cases hv;cases hz;exact ⟨_,rfl,rfl,by omega,by omega⟩
     | k + 5,hv,hz=>simp at hv
    obtain ⟨a,rfl,rfl,ha0,ha1⟩:=key;walk_at "RD";exact ⟨Sub.name,Mq (by omega),hN⟩
   ·have s2:Sb H1 (upd (upd H1 p (.tup [.int ds[i].start,.int ds[i].fin,.int ds[i].off,.int ds[i].near,.int ds[i].least])) p2 (.lst (Tc [num ds[i].start,num ds[i].fin,num ds[i].off,num ds[i].near,num ds[i].least]))):=(db hp).trans (db hp2);have e2:(upd (upd H1 p (.tup [.int ds[i].start,.int ds[i].fin,.int ds[i].off,.int ds[i].near,.int ds[i].least])) p2 (.lst (Tc [num ds[i].start,num ds[i].fin,num ds[i].off,num ds[i].near,num ds[i].least]))) p2=some (.lst (Tc [num ds[i].start,num ds[i].fin,num ds[i].off,num ds[i].near,num ds[i].least])):=ib;generalize upd (upd H1 p (.tup [.int ds[i].start,.int ds[i].fin,.int ds[i].off,.int ds[i].near,.int ds[i].least])) p2 (.lst (Tc [num ds[i].start,num ds[i].fin,num ds[i].off,num ds[i].near,num ds[i].least]))=H2 at s2 e2 ⊢;refine ⟨_,rfl,_,s2 _ _ hp01,_,e2,hbig _ (show 2 + 5 ≤ 1000 by decide),fun p3 hp3=>?_⟩;have hr3:(upd H2 p3 (.lst ([V.str (ee ds[i].k),V.str ds[i].name] ++ Tc [num ds[i].start,num ds[i].fin,num ds[i].off,num ds[i].near,num ds[i].least]))) rl=some (.lst (Tc ((yi n (ds.take i)).map (Str.join bk)))):=by
     rw [Eb (Nb (s2 _ _ hr1) hp3)];exact s2 _ _ hr1
    refine ⟨Wi ds[i],SqL.of ib,?_,_,hr3,?_,?_,?_,_,rfl⟩
    ·rw [hb1];simp only [Wi,List.map_cons,List.map_nil,List.sum_cons,List.sum_nil,List.length_cons,List.length_nil];omega
    ·rw [yq,List.length_map];exact Nat.lt_of_le_of_lt (show (yi n (ds.take i)).length ≤ 13 by unfold yi;rw [List.length_cons,List.length_map,List.length_take];omega) (by decide)
    ·exact fun b u e=>by rw [Eb (Nb e hrl')];exact (db hp3) _ _ (s2 _ _ (sm1 _ _ e))
    ·rw [ib,show Txt.join (Str.ofString " ") (Wi ds[i])=Str.join bk (Wi ds[i]) from StrLaws.glued_eq_join _ _];congr 2;unfold yi Tc;simp;rw [List.take_add_one,List.getElem?_map,hd];rfl
  ·rintro σ H' zzq;refine zzP fun zzM zzh=>?_
   obtain ⟨sm,hr,x,rfl⟩:=zzq;subst zzh;walk_at "RD";rw [List.length_map,l2,List.take_length] at hr;refine ⟨_,SqL.of hr,?_,?_⟩
   ·have h63:∀ y ∈ (yi n ds).map (Str.join bk),y.length ≤ 63:=XL hC;have h13:((yi n ds).map (Str.join bk)).length ≤ 13:=by
     unfold yi;rw [List.length_map,List.length_cons,List.length_map];omega
    have:=eJ h63;rw [show (Str.ofString "\n").length=1 by decide +kernel];omega
   ·have:=q H' sm;unfold yv at this;rw [show Txt.join (Str.ofString "\n") ((yi n ds).map (Str.join bk))=Str.join nl ((yi n ds).map (Str.join bk)) from StrLaws.glued_eq_join _ _];exact this
 ·obtain ⟨n,wl,ds,h1,h2,h3,h4,h5,nt,q⟩:=h;exact ⟨nt,n,wl,ds,h1,h2,h3,h4,h5,fun H' sm=>⟨sm,q⟩⟩
end
end My
namespace My
open PySem L2
noncomputable def AhQ (H:Hp) (qs:List Addr) (o:Od):Prop:=qs.length=o.length∧∀ (i:Nat) (q:Addr) (p:Nat × Nat),qs[i]? = some q→o[i]? = some p→H q=some (.tup [.int (p.1:Int),.int (p.2:Int)])
noncomputable def oK (H:Hp) (l:Addr) (o:Od):Prop:=∃ qs:List Addr,H l=some (.lst (qs.map V.ref))∧AhQ H qs o
theorem AhQ.same {H H':Hp} {qs:List Addr} {o:Od} (h:AhQ H qs o) (s:Sb H H'):AhQ H' qs o:=⟨h.1,fun i q p h1 h2=>s _ _ (h.2 i q p h1 h2)⟩
theorem oK.same {H H':Hp} {l:Addr} {o:Od} (h:oK H l o) (s:Sb H H'):oK H' l o:=by
 obtain ⟨qs,e,a⟩:=h;exact ⟨qs,s _ _ e,a.same s⟩
theorem AhQ.snoc {H:Hp} {qs:List Addr} {o:Od} {q:Addr} {i j:Nat} (h:AhQ H qs o) (e:H q=some (.tup [.int (i:Int),.int (j:Int)])):AhQ H (qs ++ [q]) (o ++ [(i,j)]):=by
 refine ⟨by rw [List.length_append,List.length_append,h.1];rfl,fun k q' p h1 h2=>?_⟩;rcases eg h1 with ⟨g1,g2⟩ | ⟨g1,g2⟩
 ·rcases eg h2 with ⟨g3,g4⟩ | ⟨g3,g4⟩
  ·exact h.2 k q' p g2 g4
  ·have:=h.1;omega
 ·rcases eg h2 with ⟨g3,g4⟩ | ⟨g3,g4⟩
  ·have:=h.1;omega
  ·rw [g2,g4];exact e
theorem uM {K:PySem.W.Frag} {H:Hp} {q x:Addr} {a b i j:Int} (h1:H q=some (.tup [.int a,.int b])) (h2:H x=some (.tup [.int i,.int j])):EqH K H 8 (.ref q) (.ref x) (a == i && b == j):=by
 have:=EqH.tup (K:=K) (k:=7) (e:=fun l=>if l=0 then a == i else b == j) (SqT.of h1) (SqT.of h2) (fun l u v g1 g2=>by
  match l,g1,g2 with
  | 0,g1,g2=>cases g1;cases g2;exact EqH.flat rfl rfl
  | 1,g1,g2=>cases g1;cases g2;exact EqH.flat rfl rfl)
 have e:((List.range (min [V.int a,V.int b].length [V.int i,V.int j].length)).all (fun l=>if l=0 then a == i else b == j) && [V.int a,V.int b].length == [V.int i,V.int j].length)=(a == i && b == j):=by
  show ((List.range 2).all (fun l=>if l=0 then a == i else b == j) && true)=_;rw [Bool.and_true,show List.range 2=[0,1] from rfl];simp
 rw [e] at this;exact this
noncomputable def fAh (H:Hp) (i j:Int) (q:Addr):Bool:=match H q with
 | some (.tup [.int a,.int b])=>a == i && b == j
 | _=>false
theorem ME {H:Hp} {i j a b:Int} {q:Addr} (h:H q=some (.tup [.int a,.int b])):fAh H i j q=(a == i && b == j):=by unfold fAh;rw [h]
theorem zG {K:PySem.W.Frag} {H:Hp} {qs:List Addr} {o:Od} {x:Addr} {i j:Int} (h:AhQ H qs o) (hx:H x=some (.tup [.int i,.int j])):∀ q ∈ qs,EqH K H 8 (.ref q) (.ref x) (fAh H i j q):=fun q hq=>by
 obtain ⟨k,hk⟩:=List.getElem?_of_mem hq;have hl:k < o.length:=by rw [← h.1];exact (List.getElem?_eq_some_iff.mp hk).1
 have e:=h.2 k q _ hk (List.getElem?_eq_getElem hl);rw [ME e];exact uM e hx
theorem Ox {H:Hp} {qs:List Addr} {o:Od} (h:AhQ H qs o) (i j:Nat):qs.any (fAh H i j)=decide ((i,j) ∈ o):=by
 rw [Bool.eq_iff_iff,List.any_eq_true,decide_eq_true_eq];constructor
 ·rintro ⟨q,hq,e⟩;obtain ⟨k,hk⟩:=List.getElem?_of_mem hq;have hl:k < o.length:=by rw [← h.1];exact (List.getElem?_eq_some_iff.mp hk).1
  rw [ME (h.2 k q _ hk (List.getElem?_eq_getElem hl))] at e;simp only [Bool.and_eq_true,beq_iff_eq,Int.ofNat_inj] at e;have:o[k]=(i,j):=Prod.ext e.1 e.2;rw [← this];exact List.getElem_mem hl
 ·intro hm;obtain ⟨k,hk⟩:=List.getElem?_of_mem hm;have hl:k < qs.length:=by rw [h.1];exact (List.getElem?_eq_some_iff.mp hk).1
  refine ⟨qs[k],List.getElem_mem hl,?_⟩;rw [ME (h.2 k _ _ (List.getElem?_eq_getElem hl) hk)];simp
theorem DC (r:List Nat) (u:Nat):(r.map fun k:Nat=>(k:Int)).count (u:Int)=r.count u:=by
 induction r with
 | nil=>rfl
 | cons x r ih=>
  rw [List.map_cons,List.count_cons,List.count_cons,ih];congr 1;by_cases h:x=u
  ·subst h;simp
  ·have h2:(x:Int) ≠ (u:Int):=fun z=>h (Int.ofNat.inj z)
   rw [if_neg (by simpa using h2),if_neg (by simpa using h)]
theorem lA (S:Sys) (z:Int) (o:Od) (r:List Nat):Pp o (Ks r 0)=true∧pwO S z o (Ks r 0)=0:=by
 cases r with
 | nil=>exact ⟨rfl,rfl⟩
 | cons x r=>exact ⟨rfl,rfl⟩
noncomputable def jJ:Sp:=fun vs H Q _=>∃ wl n ws,vs=[.ref wl,.int n]∧Lo H wl ws∧(∀ p ∈ ws,WOk n p.1)∧(0 < ws.length∧ws.length ≤ 6)∧NoT H∧∀ r H',Sb H H'→NoT H'→oK H' r (qp (Lb n ws))→Q (.ref r) H'
noncomputable def tJ:Sp:=fun vs H Q _=>∃ wl n z rp al ws r o,vs=[.ref wl,.int n,.int z,.ref rp,.ref al]∧Lo H wl ws∧(∀ p ∈ ws,WOk n p.1)∧H rp=some (.tup (ac r))∧r.length ≤ 12∧oK H al o∧Px (Lb n ws) o∧(Lb n ws).Ok∧(0 ≤ z∧z ≤ 100000)∧NoT H∧Q (.bl (fg (Lb n ws) z o r)) H
section
variable {P:Program} {w:World} {K:PySem.W.Frag} {mg:Str→Option Value} {base:Heap} {t:Adr}
theorem rM (T:Txt w K mg t):Ub P w K mg base CX0 3 t.ci t.gi q21 jJ:=by
 have g15:Ub P w K mg base CX0 2 t.Ve t.We q15 jv:=kz T;refine T.Jk.ok fv (fun vs H Q E h=>?_) (fun _ _ _ s H vs Q E hr h=>?_)
 ·obtain ⟨wl,n,ws,rfl,_⟩:=h;rfl
 obtain ⟨wl,n,ws,rfl,L,hw,hl,nt,q⟩:=h;obtain ⟨xs,L1,L2'⟩:=rD (K:=K) L;refine ⟨_,(lb (Fb (cg rfl (ir rfl T.uf (ab gb (ab (qc bc rfl T.Ci ic (ab (pv 0) jb)) jb))) (Cc (sc:=ub ml) rfl (by decide +kernel)) (N:=["_law_j","_law_wanted_here","_law_places_here"]) (sel:=[none,some 0,some 1]) (Vc (M:=q21) (by decide +kernel)) (Blk.of (fun _ _ _ _=>(Ib (i:=0) (oh (N:=["_law_j","_law_wanted_here","_law_places_here"]) (by decide +kernel) rfl))) (fun _ _ _ _=>⟨_,(Qq (Ob Gv (qb g15 hr T.zj T.ag.kp T.Aj (ab (pv 1) (ab gb (ab (pv 0) (ab (pv 2) jb))))) Jg (Vb _))),by walk_at "B"⟩) (fun _ _ _ _=>⟨_,(wc (ab gb (ab (pv 0) jb))),by walk_at "B"⟩))))),?_⟩;walk_at "RD";refine ⟨_,.inl L1,by omega,by omega,by omega,by omega,?_⟩;rw [L2',show ((ws.length:Int) - 1).toNat=ws.length - 1 by omega];refine bd.range (fun i ys H'=>Sb H H'∧NoT H'∧∃ qs:List Addr,ys=qs.map V.ref∧AhQ H' qs (Qx (Lb n ws) i)) (Nat.le_trans (show ws.length - 1 ≤ 6 by omega) (by decide)) ⟨Sb.refl _,nt,[],rfl,rfl,fun i q p h=>by simp at h⟩ (fun i ys H' hi ⟨_,_,qs,e,a⟩=>by rw [e,List.length_map,a.1];exact VA i) ?_ ?_
 ·rintro i ys H1 hi ⟨s1,n1,qs,rfl,a1⟩ N hN;walk_at "RD";refine ⟨Sub.name,wl,0,i + 1,n,ws,by rw [show (1:Int) + (i:Int)=((i + 1:Nat):Int) by omega];rfl,Me L s1,hw,by omega,by omega,n1,?_⟩;have eo:Qx (Lb n ws) (i + 1)=Qx (Lb n ws) i ++ (if (Lb n ws).e 0 (i + 1) then [(0,i + 1)] else []):=rfl;unfold jM;cases he:(Lb n ws).e 0 (i + 1) with
  | true=>
   rw [if_pos rfl];dsimp only;rw [if_pos (by rfl)];refine ⟨by decide,fun p hp=>hN _ _ ⟨s1.trans (db hp),n1.upd,qs ++ [p],by rw [List.map_append];rfl,?_⟩⟩;rw [eo,he,if_pos rfl];refine (a1.same (db hp)).snoc ?_;rw [ib,show (1:Int) + (i:Int)=((i + 1:Nat):Int) by omega];rfl
  | false=>
   rw [if_neg Bool.false_ne_true];dsimp only;rw [if_neg (by simp)];refine hN _ _ ⟨s1,n1,qs,rfl,?_⟩;rw [eo,he,if_neg Bool.false_ne_true,List.append_nil];exact a1
 ·rintro ys H1 ⟨s1,n1,qs,rfl,a1⟩ p hp;exact q p _ (s1.trans (db hp)) n1.upd ⟨qs,ib,a1.same (db hp)⟩
theorem NM (T:Txt w K mg t):Ub P w K mg base CX0 3 t.Ud t.Td q31 tJ:=by
 have g15:Ub P w K mg base CX0 2 t.Ve t.We q15 jv:=kz T;have key:Ub P w K mg base CX0 3 t.Ud t.Td q31 (fun vs H Q _=>∃ wl n z rp al ws r o,vs=[.ref wl,.int n,.int z,.ref rp,.ref al]∧Lo H wl ws∧(∀ p ∈ ws,WOk n p.1)∧H rp=some (.tup (ac r))∧r.length ≤ 12∧oK H al o∧Px (Lb n ws) o∧(Lb n ws).Ok∧(0 ≤ z∧z ≤ 100000)∧NoT H∧∀ H',Sb H H'→Q (.bl (fg (Lb n ws) z o r)) H'):=by
  refine T.jg.ok zc (fun vs H Q E h=>?_) (fun _ _ _ s H vs Q E hr h=>?_)
  ·obtain ⟨wl,n,z,rp,al,ws,r,o,rfl,_⟩:=h;rfl
  obtain ⟨wl,n,z,rp,al,ws,r,o,rfl,L,hw,hrp,hlen,A1,od,ok,hz,nt,q⟩:=h;have hU:=hr.units;refine ⟨_,(fb (yb (i:=5) zc.nd gb)
   (fb (yb (i:=6) zc.nd gb)
   (fb (Bf PassesOwn.never rfl (me rfl T.uf (ab (qc bc rfl T.Ci ic (ab (pv 3) jb)) jb)) (Ib (i:=7) zc.nd) (fb (yb (i:=8) zc.nd (Ab Jb (pv 3) (pv 7)))
   (fb (yb (i:=9) zc.nd (Ab Jb (pv 3) (Kb Ig (Kb fc (pv 7) gb) (qc bc rfl T.Ci ic (ab (pv 3) jb)))))
   (fb (Pc (PW.pt (gr (Ob Pm (rO PySem.F.plainAttrs_tuple PySem.F.slot_tuple_count PySem.F.type_tuple_count dE (pv 3) (ab (pv 8) jb)) gb (Vb _)) (gr (Ob av (qc bc rfl T.Ci ic (ab (pv 3) jb)) gb (Vb _)) (wn (PW.pt (Et (Ob (Ew hU) (wc (ab (pv 8) (ab (pv 9) jb))) (pv 4) (by with_unfolding_all rfl)) (Yq (Ob (Ew hU) (wc (ab (pv 9) (ab (pv 8) jb))) (pv 4) (by with_unfolding_all rfl))))))))) (lb (Fb Tl)) Rb)
   (fb (yb (i:=5) zc.nd (Kb fc (pv 5) (qb g15 hr T.zj T.ag.kp T.Aj (ab (pv 0) (ab (pv 8) (ab (pv 9) (ab (pv 1) jb)))))))
   (lb (Pc (Ob (KD hU) (wc (ab (pv 9) (ab (pv 8) jb))) (pv 4) (by with_unfolding_all rfl)) (lb (yb (i:=6) zc.nd (Kb fc (pv 6) gb))) Rb)))))))
   (lb (Fb (Sz (ae Pm (qc bc rfl T.Ci ic (ab (pv 3) jb)) gb (Vb _)) (Mr (ae Pm (pv 5) (Kb Fd (pv 2) (pv 6)) (Vb _))))))))),?_⟩
  have hrl:(ac r).length=r.length:=lc r;simp only [xb];walk_at "RD";refine ⟨_,.inr (SqT.of hrp),by omega,by rw [hrl];omega,?_⟩;rw [hrl,show ((r.length:Nat):Int).toNat=r.length by rfl];refine nk.range (fun k σ H'=>Sb H H'∧NoT H'∧(∀ (i x:Nat),i < k→r[i]? = some x→r.count x ≤ 1)∧(0 < k→2 ≤ r.length)∧Pp o (Ks r k)=true∧∃ Tt R:Int,Tt - z * R=pwO (Lb n ws) z o (Ks r k)∧∃ x1 x2 x3,σ=[some (.ref wl),some (.int n),some (.int z),some (.ref rp),some (.ref al),some (.int Tt),some (.int R),x1,x2,x3]) ⟨Sb.refl _,nt,fun i x hi=>absurd hi (Nat.not_lt_zero _),fun h=>absurd h (Nat.not_lt_zero _),(lA (Lb n ws) z o r).1,0,0,by rw [(lA (Lb n ws) z o r).2];omega,_,_,_,rfl⟩ ?_ ?_
  ·rintro k σ H1 hk zzq;refine zzP fun zzM zzh=>?_
   obtain ⟨s1,n1,hcnt,h2,al1,Tt,R,hTR,x1,x2,x3,rfl⟩:=zzq;have hrk:r[k]? = some r[k]:=List.getElem?_eq_getElem hk;obtain ⟨pr,ep1,ep2⟩:=Qw hrk;subst zzh;generalize r[k]=u at hrk ep1 ep2;have eA:Pp o (Ks r (k + 1))=inO o u (Gx r k):=by rw [ep2,iy,← ep1,al1];simp [Pp]
   have eP:pwO (Lb n ws) z o (Ks r (k + 1))=pwO (Lb n ws) z o (Ks r k) + wtO (Lb n ws) z o u (Gx r k):=by rw [ep2,Si,← ep1];simp [pwO]
   have hm:(k + 1) % r.length < r.length:=Nat.mod_lt _ (by omega);have rp1:=s1 _ _ hrp;simp only [Rf,xb,List.set_cons_succ,List.set_cons_zero];rw [Int.zero_add];refine zzC (fun σ' H'=>H'=H1∧σ'=[some (.ref wl),some (.int n),some (.int z),some (.ref rp),some (.ref al),some (.int Tt),some (.int R),some (.int (k:Int)),some (.int (u:Int)),x3]) (fun D' hD=>?_) fun zzM zzh=>?_
   ·walk_at "RD";exact ⟨_,SqT.of rp1,_,wb (by unfold ac;rw [List.getElem?_map,hrk];rfl),hD _ _ ⟨rfl,rfl⟩⟩
   rintro σ2 H2 ⟨rfl,rfl⟩;subst zzh;simp only [xb];refine zzC (fun σ' H'=>H'=H2∧σ'=[some (.ref wl),some (.int n),some (.int z),some (.ref rp),some (.ref al),some (.int Tt),some (.int R),some (.int (k:Int)),some (.int (u:Int)),some (.int (Gx r k:Nat))]) (fun D' hD=>?_) fun zzM zzh=>?_
   ·walk_at "RD";refine ⟨_,.inr (SqT.of rp1),by rw [lc];omega,_,SqT.of rp1,V.int (Gx r k:Nat),?_,hD _ _ ⟨rfl,rfl⟩⟩;rw [lc,show ((k:Int) + 1) % (r.length:Int)=(((k + 1) % r.length:Nat):Int) by rw [Int.natCast_emod];rfl];refine wb ?_;unfold ac Gx;rw [List.getElem?_map,List.getElem?_eq_getElem hm];rfl
   rintro σ3 H3 ⟨rfl,rfl⟩;subst zzh;generalize Gx r k=v at eA eP ⊢;simp only [xb];obtain ⟨qs,a1,a2⟩:=A1.same s1;refine qf (fun b H'=>Sb H3 H'∧NoT H'∧b = !(decide (r.count u ≤ 1) && decide (2 ≤ r.length) && inO o u v)) (fun Q hQ=>?_) (fun H4 zz=>?_) (fun H4 zz=>?_)
   ·(walk_at "RD"; repeat (dsimp only [cQ];walk_at "RD"));refine ⟨⟨_,rp1⟩,rp,r.map (fun k:Nat=>(k:Int)),(u:Int),rfl,rfl,SqT.of (by rw [← Xt];exact rp1),?_⟩;rw [DC];refine ⟨_,rfl,?_⟩;by_cases c1:r.count u ≤ 1
    ·rw [if_neg (by rw [decide_eq_true_eq];omega)];refine ⟨_,.inr (SqT.of rp1),?_⟩;rw [lc];by_cases c2:2 ≤ r.length
     ·rw [if_neg (by rw [decide_eq_true_eq];omega)];refine ⟨by decide,fun p1 hp1=>⟨qs,SqL.of (db hp1 _ _ a1),_,zG (a2.same (db hp1)) ib,?_⟩⟩;rw [Ox (a2.same (db hp1))];by_cases c3:(u,v) ∈ o
      ·rw [decide_eq_true c3,if_neg (by decide)];refine hQ _ _ ⟨db hp1,n1.upd,?_⟩;rw [decide_eq_true c1,decide_eq_true c2];unfold inO;rw [decide_eq_true c3];rfl
      ·rw [decide_eq_false c3,if_pos (by decide)];refine ⟨by decide,fun p2 hp2=>⟨qs,SqL.of (db hp2 _ _ (db hp1 _ _ a1)),_,zG ((a2.same (db hp1)).same (db hp2)) ib,?_⟩⟩;rw [Ox ((a2.same (db hp1)).same (db hp2))];refine hQ _ _ ⟨(db hp1).trans (db hp2),(n1.upd).upd,?_⟩;rw [decide_eq_true c1,decide_eq_true c2];unfold inO;rw [decide_eq_false c3];rfl
     ·rw [if_pos (by rw [decide_eq_true_eq];omega)];refine hQ _ _ ⟨Sb.refl _,n1,?_⟩;rw [decide_eq_false c2,Bool.and_false];rfl
    ·rw [if_pos (by rw [decide_eq_true_eq];omega)];refine hQ _ _ ⟨Sb.refl _,n1,?_⟩;rw [decide_eq_false c1];rfl
   ·obtain ⟨s4,n4,zb⟩:=zz;walk_at "RD";have:=q H4 (s1.trans s4);have hb:(decide (r.count u ≤ 1) && decide (2 ≤ r.length) && inO o u v)=false:=by rw [← Bool.not_not (decide (r.count u ≤ 1) && _ && _),← zb];rfl
    rw [show fg (Lb n ws) z o r=false by
     unfold fg;by_cases c1:r.Nodup
     ·by_cases c2:2 ≤ r.length
      ·have c3:inO o u v=false:=by
        rw [decide_eq_true (List.nodup_iff_count.mp c1 u),decide_eq_true c2] at hb;exact hb
       rw [YA o (i:=k + 1) (by omega) (by rw [eA];exact c3),Bool.and_false,Bool.false_and]
      ·rw [decide_eq_false c2];rfl
     ·rw [decide_eq_false c1,Bool.and_false];rfl] at this
    exact this
   obtain ⟨s4,n4,zb⟩:=zz;have hb:(decide (r.count u ≤ 1) && decide (2 ≤ r.length) && inO o u v)=true:=by rw [← Bool.not_not (decide (r.count u ≤ 1) && _ && _),← zb];rfl
   simp only [Bool.and_eq_true,decide_eq_true_eq] at hb;obtain ⟨⟨b1,b2⟩,b3⟩:=hb;have he:=od.in_e ok b3;have s14:=s1.trans s4;have hbeh:jM (Lb n ws) u v=.int ((Lb n ws).st u v):=by unfold jM;rw [he];rfl
   simp only [Xb,xb];refine zzC (fun σ' H'=>H'=H4∧σ'=[some (.ref wl),some (.int n),some (.int z),some (.ref rp),some (.ref al),some (.int (Tt + (Lb n ws).st u v)),some (.int R),some (.int (k:Int)),some (.int (u:Int)),some (.int (v:Int))]) (fun D' hD=>?_) fun zzM zzh=>?_
   ·walk_at "RD";refine ⟨wl,u,v,n,ws,rfl,Me L s14,hw,(ok.lt he).1,(ok.lt he).2.1,n4,?_⟩;rw [hbeh];exact ⟨_,rfl,hD _ _ ⟨rfl,rfl⟩⟩
   rintro σ5 H5 ⟨rfl,rfl⟩;subst zzh;(try dsimp only);have fin:∀ (H':Hp) (R':Int),Sb H5 H'→NoT H'→z * R'=z * R + (if (v,u) ∈ o then z else 0)→(fun k σ H'=>Sb H H'∧NoT H'∧(∀ (i x:Nat),i < k→r[i]? = some x→r.count x ≤ 1)∧(0 < k→2 ≤ r.length)∧Pp o (Ks r k)=true∧∃ Tt R:Int,Tt - z * R=pwO (Lb n ws) z o (Ks r k)∧∃ x1 x2 x3,σ=[some (V.ref wl),some (.int n),some (.int z),some (.ref rp),some (.ref al),some (.int Tt),some (.int R),x1,x2,x3]) (k + 1) [some (.ref wl),some (.int n),some (.int z),some (.ref rp),some (.ref al),some (.int (Tt + (Lb n ws).st u v)),some (.int R'),some (.int (k:Int)),some (.int (u:Int)),some (.int (v:Int))] H':=fun H' R' s6 n6 hR=>by
    refine ⟨s14.trans s6,n6,fun i x hi hx=>?_,fun _=>b2,by rw [eA];exact b3,_,_,?_,_,_,_,rfl⟩
    ·rcases Nat.lt_or_ge i k with y | y
     ·exact hcnt i x y hx
     ·have:i=k:=by omega
      subst this;rw [hrk] at hx;cases hx;exact b1
    ·rw [eP,hR,← hTR];unfold wtO;split <;> omega
   obtain ⟨qs5,a51,a52⟩:=A1.same s14;refine qf (fun b H'=>Sb H5 H'∧NoT H'∧b=decide ((v,u) ∈ o)) (fun Q hQ=>?_) (fun H6 zz=>?_) (fun H6 zz=>?_)
   ·walk_at "RD";refine ⟨by decide,fun p1 hp1=>⟨qs5,SqL.of (db hp1 _ _ a51),_,zG (a52.same (db hp1)) ib,?_⟩⟩;rw [Ox (a52.same (db hp1))];exact hQ _ _ ⟨db hp1,n4.upd,rfl⟩
   ·obtain ⟨s6,n6,zb⟩:=zz;have hm:=of_decide_eq_true zb.symm;refine PF (.int (R + 1)) (fun Q hQ=>?_) ?_
    ·walk_at "RD";exact hQ
    ·simp only [Rf,List.set_cons_succ,List.set_cons_zero];exact fin H6 (R + 1) s6 n6 (by rw [if_pos hm,Int.mul_add];omega)
   ·obtain ⟨s6,n6,zb⟩:=zz;have hm:=of_decide_eq_false zb.symm;simp only [Xb];exact fin H6 R s6 n6 (by rw [if_neg hm];omega)
  ·rintro σ H1 zzq;refine zzP fun zzM zzh=>?_
   obtain ⟨s1,n1,hcnt,h2,al1,Tt,R,hTR,x1,x2,x3,rfl⟩:=zzq;subst zzh;walk_at "RD";refine ⟨_,.inr (SqT.of (s1 _ _ hrp)),?_⟩;rw [lc];have:=q H1 s1;by_cases c:1 < r.length
   ·rw [if_pos (by rw [decide_eq_true_eq];omega)];refine ⟨.inl (by omega),?_⟩;have hnd:r.Nodup:=List.nodup_iff_count.mpr fun x=>by
     by_cases hx:x ∈ r
     ·obtain ⟨i,hi⟩:=List.getElem?_of_mem hx;exact hcnt i x (List.getElem?_eq_some_iff.mp hi).1 hi
     ·rw [List.count_eq_zero_of_not_mem hx];exact Nat.zero_le _
    have hne:r ≠ []:=fun z=>by rw [z] at c;simp at c
    rw [uv hne] at al1 hTR;rw [show fg (Lb n ws) z o r=decide (z * R < Tt) by
     unfold fg;rw [decide_eq_true (show 2 ≤ r.length by omega),decide_eq_true hnd,al1];show decide (0 < pwO (Lb n ws) z o (r ++ r.take 1))=_;rw [← hTR,decide_eq_decide]
     omega] at this
    exact this
   ·rw [if_neg (by rw [decide_eq_true_eq];omega)];rw [show fg (Lb n ws) z o r=false by unfold fg;rw [decide_eq_false (show ¬ 2 ≤ r.length by omega)];rfl] at this;exact this
 exact key.forget fun vs H Q E h=>by
  obtain ⟨wl,n,z,rp,al,ws,r,o,e,L,hw,hrp,hlen,A1,od,ok,hz,nt,q⟩:=h;exact ⟨nt,wl,n,z,rp,al,ws,r,o,e,L,hw,hrp,hlen,A1,od,ok,hz,nt,fun H' sm=>⟨sm,q⟩⟩
end
end My
namespace My
open PySem L2
noncomputable def wA (d:Nat):Sp:=fun vs H Q _=>∃ wl n z pa al ws p o,vs=[.ref wl,.int n,.int z,.ref pa,.ref al]∧Lo H wl ws∧(∀ p ∈ ws,WOk n p.1)∧ws.length ≤ 6∧Zi H p pa∧Hi ws.length d p∧Kk p∧oK H al o∧Px (Lb n ws) o∧(Lb n ws).Ok∧(0 ≤ z∧z ≤ 100000)∧NoT H∧∀ H',Sb H H'→NoT H'→Q (.bl (Hc (Lb n ws) z o p)) H'
noncomputable def zK:Nat→Sp
 | 0=>fun _ _ _ _=>False
 | d + 1=>wA d
section
variable {P:Program} {w:World} {K:PySem.W.Frag} {mg:Str→Option Value} {base:Heap} {t:Adr}
theorem AB (T:Txt w K mg t) (d:Nat) (g20:Ub P w K mg base CX0 (d + 3) t.xf t.Df q22 (zK d)):Ub P w K mg base CX0 (d + 4) t.xf t.Df q22 (wA d):=by
 have g59:Ub P w K mg base CX0 (d + 3) t.Qh t.Xh q30 (aA K):=(VI T).mono (by omega);have g15:Ub P w K mg base CX0 (d + 3) t.Ve t.We q15 jv:=(kz T).mono (by omega);have g60:Ub P w K mg base CX0 (d + 3) t.Ud t.Td q31 tJ:=(NM T).mono (by omega);refine T.Ef.ok ah (fun vs H Q E h=>?_) (fun _ _ _ s H vs Q E hr h=>?_)
 ·obtain ⟨wl,n,z,pa,al,ws,p,o,rfl,_⟩:=h;rfl
 obtain ⟨wl,n,z,pa,al,ws,p,o,rfl,L,hw,hws,hP,hF,hsh,A1,od,ok,hz,nt,q⟩:=h;have hU:=hr.units;have hm:(Lb n ws).m ≤ 6:=hws;refine ⟨_,(fb (Pc (Ob tf (Ab Jb (pv 3) gb) xc (Vb _)) (lb (Fb (ae Pm (qb g59 hr T.nw T.il.kp T.Tv (ab (Ab Jb (Ab ie (pv 0) (Ab Jb (pv 3) gb)) gb) (ab (Ab Jb (Ab ie (pv 0) (Ab Jb (pv 3) gb)) gb) jb))) (pv 2) (Vb _)))) Rb)
   (fb (Pc (Ob tf (Ab Jb (pv 3) gb) xc (Vb _)) (lb (Fb (qb g60 hr T.Oo T.jg.kp T.Vo (ab (pv 0) (ab (pv 1) (ab (pv 2) (ab (Ab Jb (pv 3) gb) (ab (pv 4) jb)))))))) Rb)
   (fb (yb (i:=5) ah.nd (Ab Jb (pv 3) gb))
   (fb (yb (i:=6) ah.nd (Ab Jb (pv 3) gb))
   (fb (Pc (PW.pt (gr (Ob CF (qb g15 hr T.zj T.ag.kp T.Aj (ab (pv 0) (ab (pv 5) (ab (pv 6) (ab (pv 1) jb))))) Jg (Vb _)) (gr (Ob (KD hU) (wc (ab (pv 5) (ab (pv 6) jb))) (pv 4) (by with_unfolding_all rfl)) (wn (Ob (KD hU) (wc (ab (pv 6) (ab (pv 5) jb))) (pv 4) (by with_unfolding_all rfl)))))) (lb (Fb Tl)) Rb)
   (fb (Pc (Uk (Vh (qb g20 hr T.Pk T.Ef.kp T.Sk (ab (pv 0) (ab (pv 1) (ab (pv 2) (ab (Ab Jb (pv 3) gb) (ab (Kb RA (pv 4) (Pf (ab (wc (ab (pv 5) (ab (pv 6) jb))) jb))) jb)))))))) (lb (Fb Tl)) Rb)
   (lb (Fb (qb g20 hr T.Pk T.Ef.kp T.Sk (ab (pv 0) (ab (pv 1) (ab (pv 2) (ab (Ab Jb (pv 3) gb) (ab (Kb RA (pv 4) (Pf (ab (wc (ab (pv 6) (ab (pv 5) jb))) jb))) jb)))))))))))))),?_⟩
 simp only [xb];cases p with
 | alone k=>
  have hk:k < ws.length:=by cases d <;> exact hF
  have hwk:ws[k]? = some ws[k]:=List.getElem?_eq_getElem hk;obtain ⟨xs,qk,wq,L1,ak,e1,e2⟩:=Eu (K:=K) L hwk;have hB':Hc (Lb n ws) z o (.alone k)=decide (z < Rc ws[k]):=by rw [← lE (n:=n) hwk];rfl
  refine Mb true (fun Q hQ=>?_) (fun _=>?_) (fun z=>nomatch z)
  ·walk_at "RD";exact ⟨_,SqT.of hP,_,wb (j:=0) rfl,rfl,by rw [decide_eq_true rfl];exact hQ⟩
  ·walk_at "RD";refine ⟨_,SqT.of hP,_,wb (j:=1) rfl,xs,_,rfl,L1,_,ak,_,rfl,_,e1,_,wb (j:=0) rfl,_,SqT.of hP,_,wb (j:=1) rfl,xs,_,rfl,L1,_,ak,_,rfl,_,e1,_,wb (j:=1) rfl,wq,ws[k].1,_,rfl,e2,(hw _ (List.mem_of_getElem? hwk)).k,_,rfl,?_⟩;rw [← hB'];exact q _ (Sb.refl _) nt
 | ring r=>
  obtain ⟨b,h1,h2⟩:=hP;refine Mb false (fun Q hQ=>?_) (fun z=>nomatch z) (fun _=>?_)
  ·walk_at "RD";exact ⟨_,SqT.of h1,_,wb (j:=0) rfl,rfl,by rw [show decide (V.str (Str.ofString "ring")=V.str (Str.ofString "alone"))=false by decide +kernel];exact hQ⟩
  simp only [Xb,xb];refine Mb true (fun Q hQ=>?_) (fun _=>?_) (fun z=>nomatch z)
  ·walk_at "RD";exact ⟨_,SqT.of h1,_,wb (j:=0) rfl,rfl,by rw [decide_eq_true rfl];exact hQ⟩
  ·walk_at "RD";refine ⟨_,SqT.of h1,_,wb (j:=1) rfl,wl,n,z,b,al,ws,r,o,rfl,L,hw,h2,hsh,A1,od,ok,hz,nt,?_⟩;exact q _ (Sb.refl _) nt
 | case i j p1 p2=>
  obtain ⟨b,c,h1,h2,h3⟩:=hP;obtain ⟨d',rfl⟩:∃ d',d=d' + 1:=by
   cases d with
   | zero=>exact hF.elim
   | succ d=>exact ⟨d,rfl⟩
  obtain ⟨f1,f2,f3,f4⟩:=hF;have hB:Hc (Lb n ws) z o (.case i j p1 p2)=((Lb n ws).e i j && !inO o i j && Hc (Lb n ws) z (o ++ [(i,j)]) p1 && Hc (Lb n ws) z (o ++ [(j,i)]) p2):=rfl;refine Mb false (fun Q hQ=>?_) (fun z=>nomatch z) (fun _=>?_)
  ·walk_at "RD";exact ⟨_,SqT.of h1,_,wb (j:=0) rfl,rfl,by rw [show decide (V.str (Str.ofString "case")=V.str (Str.ofString "alone"))=false by decide +kernel];exact hQ⟩
  simp only [Xb,xb];refine Mb false (fun Q hQ=>?_) (fun z=>nomatch z) (fun _=>?_)
  ·walk_at "RD";exact ⟨_,SqT.of h1,_,wb (j:=0) rfl,rfl,by rw [show decide (V.str (Str.ofString "case")=V.str (Str.ofString "ring"))=false by decide +kernel];exact hQ⟩
  simp only [Xb,xb];refine zzC (fun σ' H'=>H'=H∧σ'=[some (.ref wl),some (.int n),some (.int z),some (.ref pa),some (.ref al),some (.int (i:Int)),none]) (fun D' hD=>?_) fun zzM zzh=>?_
  ·walk_at "RD";exact ⟨_,SqT.of h1,_,wb (j:=1) rfl,hD _ _ ⟨rfl,rfl⟩⟩
  rintro σ1 H1 ⟨rfl,rfl⟩;subst zzh;simp only [xb];refine zzC (fun σ' H'=>H'=H1∧σ'=[some (.ref wl),some (.int n),some (.int z),some (.ref pa),some (.ref al),some (.int (i:Int)),some (.int (j:Int))]) (fun D' hD=>?_) fun zzM zzh=>?_
  ·walk_at "RD";exact ⟨_,SqT.of h1,_,wb (j:=2) rfl,hD _ _ ⟨rfl,rfl⟩⟩
  rintro σ2 H2 ⟨rfl,rfl⟩;obtain ⟨qs,a1,a2⟩:=id A1;subst zzh;simp only [xb];refine qf (fun b H'=>b = !((Lb n ws).e i j && !inO o i j)∧Sb H2 H'∧NoT H') (fun Q hQ=>?_) (fun H' zy=>?_) (fun H3 zz=>?_)
  ·walk_at "RD";refine ⟨wl,i,j,n,ws,rfl,L,hw,f1,f2,nt,?_⟩;unfold jM;cases g1:(Lb n ws).e i j with
   | false=>
    rw [if_neg Bool.false_ne_true];rw [if_pos (by simp)];exact hQ _ _ ⟨by rw [g1];rfl,Sb.refl _,nt⟩
   | true=>
    rw [if_pos rfl];rw [if_neg (by simp)];refine ⟨by decide,fun p1 hp1=>⟨qs,SqL.of (db hp1 _ _ a1),_,zG (a2.same (db hp1)) ib,?_⟩⟩;rw [Ox (a2.same (db hp1))];by_cases c1:(i,j) ∈ o
    ·rw [decide_eq_true c1,if_pos rfl];exact hQ _ _ ⟨by unfold inO;rw [g1,decide_eq_true c1];rfl,db hp1,nt.upd⟩
    ·rw [decide_eq_false c1,if_neg Bool.false_ne_true];refine ⟨by decide,fun p2 hp2=>⟨qs,SqL.of (db hp2 _ _ (db hp1 _ _ a1)),_,zG ((a2.same (db hp1)).same (db hp2)) ib,?_⟩⟩;rw [Ox ((a2.same (db hp1)).same (db hp2))];exact hQ _ _ ⟨by unfold inO;rw [g1,decide_eq_false c1];simp,(db hp1).trans (db hp2),(nt.upd).upd⟩
  ·obtain ⟨zb,s3,n3⟩:=zy;have zb':((Lb n ws).e i j && !inO o i j)=false:=by rw [← Bool.not_not ((Lb n ws).e i j && !inO o i j),← zb];rfl
   have:=q _ s3 n3;rw [hB,zb'] at this;walk_at "RD";exact this
  obtain ⟨zb,s3,n3⟩:=zz;have zb':((Lb n ws).e i j && !inO o i j)=true:=by rw [← Bool.not_not ((Lb n ws).e i j && !inO o i j),← zb];rfl
  rw [zb',Bool.true_and] at hB;rw [Bool.and_eq_true,Bool.not_eq_true'] at zb';obtain ⟨g1,g2⟩:=zb';have hql:qs.length ≤ 36:=by rw [a2.1];exact od.len ok hm
  have hlen:∀ p:Addr,(qs.map V.ref).length + [V.ref p].length ≤ sizeLine:=fun p=>Nat.le_trans (show _ ≤ 37 by rw [List.length_map];simp;omega) (by decide)
  simp only [Xb,xb];refine qf (fun b H'=>b = !Hc (Lb n ws) z (o ++ [(i,j)]) p1∧Sb H2 H'∧NoT H') (fun Q hQ=>?_) (fun H' zy=>?_) (fun H4 zz=>?_)
  ·walk_at "RD";refine ⟨_,SqT.of (s3 _ _ h1),_,wb (j:=3) rfl,by decide,fun u1 hu1=>⟨by decide,fun u2 hu2=>?_⟩⟩;have t1:=db (o:=.tup [.int (i:Int),.int (j:Int)]) hu1;have t2:=db (o:=.lst [.ref u1]) hu2;refine ⟨_,(t1.trans t2) _ _ (s3 _ _ a1),_,ib,hlen u1,fun u3 hu3=>?_⟩;have t3:=db (o:=.lst (qs.map V.ref ++ [V.ref u1])) hu3;have t13:=(s3.trans t1).trans (t2.trans t3);refine ⟨wl,n,z,b,u3,ws,_,o ++ [(i,j)],rfl,Me L t13,hw,hws,h2.same t13,f3,hsh.1,⟨qs ++ [u1],by rw [ib,List.map_append];rfl,(a2.same t13).snoc ((t2.trans t3) _ _ ib)⟩,od.put ok g1 g2,ok,hz,((n3.upd).upd).upd,fun H' s' n'=>⟨_,rfl,hQ _ _ ⟨rfl,t13.trans s',n'⟩⟩⟩
  ·obtain ⟨zb,s4,n4⟩:=zy;have zb':Hc (Lb n ws) z (o ++ [(i,j)]) p1=false:=by rw [← Bool.not_not (Hc (Lb n ws) z (o ++ [(i,j)]) p1),← zb];rfl
   have:=q _ s4 n4;rw [hB,zb'] at this;walk_at "RD";exact this
  obtain ⟨zb2,s4,n4⟩:=zz;have zb3:Hc (Lb n ws) z (o ++ [(i,j)]) p1=true:=by rw [← Bool.not_not (Hc (Lb n ws) z (o ++ [(i,j)]) p1),← zb2];rfl
  rw [zb3,Bool.true_and] at hB;simp only [Xb];walk_at "RD"
  ·refine ⟨_,SqT.of (s4 _ _ h1),_,wb (j:=4) rfl,by decide,fun u1 hu1=>⟨by decide,fun u2 hu2=>?_⟩⟩;have t1:=db (o:=.tup [.int (j:Int),.int (i:Int)]) hu1;have t2:=db (o:=.lst [.ref u1]) hu2;refine ⟨_,(t1.trans t2) _ _ (s4 _ _ a1),_,ib,hlen u1,fun u3 hu3=>?_⟩;have t3:=db (o:=.lst (qs.map V.ref ++ [V.ref u1])) hu3;have t13:=(s4.trans t1).trans (t2.trans t3);refine ⟨wl,n,z,c,u3,ws,_,o ++ [(j,i)],rfl,Me L t13,hw,hws,h3.same t13,f4,hsh.2,⟨qs ++ [u1],by rw [ib,List.map_append];rfl,(a2.same t13).snoc ((t2.trans t3) _ _ ib)⟩,od.put ok (ok.sy g1) (by rw [Um];exact g2),ok,hz,((n4.upd).upd).upd,fun H' s' n'=>by rw [← hB];exact q _ (t13.trans s') n'⟩
theorem kK (T:Txt w K mg t):∀ d,Ub P w K mg base CX0 (d + 4) t.xf t.Df q22 (wA d)
 | 0=>AB T 0 (T.Ef.ok ah (fun vs H Q E h=>h.elim) (fun cdv A outer s H vs Q E hr h=>h.elim))
 | d + 1=>AB T (d + 1) (kK T d)
end
end My
namespace My
open PySem L2
theorem IG {H H':Hp} {p:Addr} {qs:List Addr} {ws:List (WD × Int)} (s:Sb H H') (hp:H' p=some (.lst (qs.map V.ref))) (hl:qs.length=ws.length) (al:∀ (i:Nat) (q:Addr) (p:WD × Int),qs[i]? = some q→ws[i]? = some p→H q=some (.tup [.str p.1.name,.int p.2])):Ir H' p ws:=
 ⟨qs,hp,hl,fun i q p h1 h2=>s _ _ (al i q p h1 h2)⟩
noncomputable def yJ (t:Adr):Sp:=fun vs H Q _=>∃ (c wl pa:Addr) (n z:Int) (ds:List WD) (ws:List (WD × Int)) (p:Pap) (d:Nat),vs=[.ref c,.ref wl,.int n,.int z,.ref pa]∧cf t H c n ds∧0 < n∧Lo H wl ws∧(∀ q ∈ ws,∃ i:Nat,ds[i]? = some q.1)∧Jx n ws∧Zi H p pa∧Hi ws.length d p∧d ≤ 10∧Kk p∧(0 ≤ z∧z ≤ 100000)∧NoT H∧∀ H',Sb H H'→NoT H'→Q (.bl true) H'
section
variable {P:Program} {w:World} {K:PySem.W.Frag} {mg:Str→Option Value} {base:Heap} {t:Adr}
theorem oM (T:Txt w K mg t):Ub P w K mg base CX0 26 t.wg t.ug q50 (yJ t):=by
 have g61:Ub P w K mg base CX0 25 t.Dv t.Iv q36 (dA t):=lH T;have g62:Ub P w K mg base CX0 25 t.ci t.gi q21 jJ:=(rM T).mono (by decide);have g20:Ub P w K mg base CX0 25 t.xf t.Df q22 (fun vs H Q E=>∃ n,n ≤ 10∧wA n vs H Q E):=iq fun n hn=>(kK T n).mono (by omega)
 refine T.gf.ok Sf (fun vs H Q E h=>?_) (fun _ _ _ s H vs Q E hr h=>?_)
 ·obtain ⟨c,wl,pa,n,z,ds,ws,p,d,rfl,_⟩:=h;rfl
 obtain ⟨c,wl,pa,n,z,ds,ws,p,d,rfl,C,hn,hL,hin,wk,hP,hF,hd,hS,hz,nt,q⟩:=h;have hU:=hr.units;have hlen:=wk.2.1;obtain ⟨qs,w1,w2,w3⟩:=id hL;have hqn:(qs.map V.ref).length=ws.length:=by rw [List.length_map,w2]
 have hok:∀ p ∈ ws,WOk n p.1:=fun p hp=>(wk.1 p hp).1
 have h0:0 < ws.length:=List.length_pos_iff.mpr wk.2.2;refine ⟨_,(fb (gg (i:=5) Sf.nd rfl (Or.inl rfl) rfl (ng (pv 1)) (Cc (sc:=ub Ji) rfl (by decide +kernel)) (N:=["_law_one"]) (sel:=[none]) (Vc (M:=["_law_crossing","_law_wanted_here","_law_places_here","_law_size","_law_paper_here","_law_wants","_law_found","_law_due"]) (by decide +kernel)) (Blk.of (fun _ _ _ _=>(Ib (i:=0) (oh (N:=["_law_one"]) (by decide +kernel) rfl))) (fun _ _ _ _=>⟨_,sf,by walk_at "B"⟩) (fun _ _ _ _=>⟨_,(wc (ab (Ab Jb (Ab Jb (pv 0) gb) gb) (ab (Ab Jb (pv 0) gb) jb))),by walk_at "B"⟩)) rfl)
   (fb (yb (i:=6) Sf.nd (qb g61 hr T.KK T.Qy.kp T.lL (ab (pv 0) (ab (Hg Vw rfl T.sO Xy (ab (pv 5) jb)) (ab (pv 3) (ab (pv 4) jb))))))
   (fb (yb (i:=7) Sf.nd (qb g20 hr T.Pk T.Ef.kp T.Sk (ab (pv 1) (ab (pv 2) (ab (pv 3) (ab (pv 4) (ab (qb g62 hr T.kx T.Jk.kp T.ox (ab (pv 1) (ab (pv 2) jb))) jb)))))))
   (lb (Fb (Sz (qc wH rfl T.Kw So (ab (pv 6) (ab (gL (v:=.ty "bool") rfl T.jO Fy rfl) jb))) (Mr (ae tf (pv 6) (pv 7) (Vb _))))))))),?_⟩
 refine zS (fun σ' H'=>Sb H H'∧NoT H'∧∃ tl,Ir H' tl ws∧σ'=[some (.ref c),some (.ref wl),some (.int n),some (.int z),some (.ref pa),some (.ref tl),none,none]) (fun D' hD=>?_) fun zzM zzh=>?_
 ·walk_at "RD";refine ⟨⟨_,SqL.of w1⟩,?_⟩;refine bd.list (xs:=qs.map V.ref) (fun i ys H'=>Sb H H'∧NoT H'∧∃ qw:List Addr,ys=qw.map V.ref∧qw.length=i∧∀ (j:Nat) (q:Addr) (p:WD × Int),qw[j]? = some q→ws[j]? = some p→H' q=some (.tup [.str p.1.name,.int p.2])) (by rw [hqn];exact Nat.le_trans hlen (by decide)) ⟨Sb.refl _,nt,[],rfl,rfl,fun j q p h=>by simp at h⟩ ?_ ?_ ?_
  ·rintro i ys H' hi zzq;refine zzP fun zzM zzh=>?_
   obtain ⟨s5,_,qw,rfl,hq,_⟩:=zzq;subst zzh;exact ⟨SqL.of (s5 _ _ w1),by rw [List.length_map,hq];exact Nat.le_refl _⟩
  ·rintro i v ys H' hv zzq;refine zzP fun zzM zzh=>?_
   obtain ⟨s5,n5,qw,rfl,hq,al⟩:=zzq;obtain ⟨qi,hqi,rfl⟩:=Og hv;have hi:i < ws.length:=by rw [← w2];exact (List.getElem?_eq_some_iff.mp hqi).1
   have hwi:ws[i]? = some ws[i]:=List.getElem?_eq_getElem hi;obtain ⟨wq,e1,e2⟩:=w3 i qi _ hqi hwi;subst zzh;intro N hN;walk_at "RD";refine ⟨Sub.name,_,SqT.of (s5 _ _ e1),_,wb (j:=0) rfl,_,rfl,_,SqT.of (s5 _ _ e2),_,wb (j:=1) rfl,_,SqT.of (s5 _ _ e1),_,wb (j:=1) rfl,by decide,fun p hp=>hN _ _ ⟨s5.trans (db hp),n5.upd,qw ++ [p],by rw [List.map_append];rfl,by rw [List.length_append,hq];rfl,fun j q x h1 h2=>?_⟩⟩;rcases eg h1 with ⟨g1,g2⟩ | ⟨g1,g2⟩
   ·exact (db hp) _ _ (al j q x g2 h2)
   ·rw [g1,hq,hwi] at h2;cases h2;rw [g2];exact ib
  ·rintro ys H' ⟨s5,n5,qw,rfl,hq,al⟩ p hp;refine hD _ _ ⟨s5.trans (db hp),n5.upd,p,⟨qw,ib,by rw [hq,hqn],fun j q x h1 h2=>(db hp) _ _ (al j q x h1 h2)⟩,rfl⟩
 rintro σ1 H1 ⟨s1,n1,tl,hT,rfl⟩;obtain ⟨qt,t1,t2,t3⟩:=id hT;subst zzh;refine zS (fun σ' H'=>Sb H1 H'∧NoT H'∧σ'=[some (.ref c),some (.ref wl),some (.int n),some (.int z),some (.ref pa),some (.ref tl),some (.bl (Hc (Lb n ws) z (qp (Lb n ws)) p)),none]) (fun D' hD=>?_) fun zzM zzh=>?_
 ·walk_at "RD";refine ⟨_,.inl (SqL.of t1),fun l hl=>?_⟩;have sN:=db (o:=.lst (qt.map V.ref)) hl;exact ⟨c,l,z,pa,n,ds,ws,p,d,rfl,(C.same s1).same sN,hn,IG sN ib t2 t3,hin,wk,(hP.same s1).same sN,hF,hd,hS,n1.upd,fun H3 s3 n3=>hD _ _ ⟨sN.trans s3,n3,rfl⟩⟩
 rintro σ2 H2 ⟨s2,n2,rfl⟩;have s12:=s1.trans s2;subst zzh;refine zS (fun σ' H'=>Sb H2 H'∧NoT H'∧σ'=[some (.ref c),some (.ref wl),some (.int n),some (.int z),some (.ref pa),some (.ref tl),some (.bl (Hc (Lb n ws) z (qp (Lb n ws)) p)),some (.bl (Hc (Lb n ws) z (qp (Lb n ws)) p))]) (fun D' hD=>?_) fun zzM zzh=>?_
 ·walk_at "RD";exact ⟨wl,n,ws,rfl,Me hL s12,hok,by omega,n2,fun al H' s' n' A'=>⟨d,hd,wl,n,z,pa,al,ws,p,qp (Lb n ws),rfl,Me hL (s12.trans s'),hok,hlen,hP.same (s12.trans s'),hF,hS,A',iz,wk.ok,hz,n',fun H3 s3 n3=>hD _ _ ⟨s'.trans s3,n3,rfl⟩⟩⟩
 rintro σ3 H3 ⟨s3,n3,rfl⟩;subst zzh;(try dsimp only);walk_at "RD";have fin:=q _ (s12.trans s3) n3;refine ⟨_,.bl _,true,rfl,?_⟩;rw [if_pos rfl];exact fin
end
section
variable {P:Program} {w:World} {K:PySem.W.Frag} {mg:Str→Option Value} {base:Heap} {t:Adr}
theorem YN (T:Txt w K mg t):Ub P w K mg base CX0 27 t.OL t.GH q14 (yN K):=by
 refine T.OO.ok xl (fun vs H Q E h=>?_) (fun _ _ _ s H vs Q E hr h=>?_)
 ·obtain ⟨a,ns,rfl,_⟩:=h;rfl
 obtain ⟨a,ns,rfl,S0,h63,q⟩:=h;have hU:=hr.units;have g0:Ub P w K mg base CX0 26 t.Nd t.Md q11 (Mc K a ns):=(Km T a ns h63).mono (by decide);have g63:Ub P w K mg base CX0 26 t.Yg t.Xg q14 (uu K a ns):=(UC T a ns h63).mono (by decide);have g64:Ub P w K mg base CX0 26 t.yj t.lj q46 (gB K a ns):=(xI T a ns h63).mono (by decide);have g65:Ub P w K mg base CX0 26 t.jj t.Lj q47 (nB K):=(MI T).mono (by decide);have g66:Ub P w K mg base CX0 26 t.Kf t.Hf ["text"] (tM t):=(nP T).mono (by decide);have g67:Ub P w K mg base CX0 26 t.mh t.gh q49 (Fz K a ns):=(UH T a ns h63).mono (by decide);have g68:Ub P w K mg base CX0 26 t.Bl t.Pl q44 (oB t):=(FI T).mono (by decide);have g18:Ub P w K mg base CX0 26 t.Ff t.Cf q23 (Ez K a ns 3):=(qJ T a ns h63 3).mono (by decide);have g19:Ub P w K mg base CX0 26 t.ye t.we q24 (fun vs H Q E=>∃ d,d ≤ 10∧DB K a ns d vs H Q E):=iq fun d hd=>(fK T a ns h63 d).mono (by omega)
 have g29:Ub P w K mg base CX0 26 t.wg t.ug q50 (yJ t):=oM T;refine ⟨_,(fb (yb (i:=1) xl.nd (qb g63 hr T.Wu T.tj.kp T.Gu (ab (pv 0) jb)))
   (fb (yb (i:=2) xl.nd (qb g64 hr T.Tx T.wm.kp T.Ey (ab (pv 0) (ab (Kb fc gb (qb g0 hr T.Db T.Bb.kp T.Cb (ab (pv 0) (ab gb (ab gb jb))))) (ab (pv 1) jb)))))
   (fb (yb (i:=3) xl.nd (qb g66 hr T.zr T.Ah.kp T.Vr (ab (qb g65 hr T.Jy T.Hm.kp T.By (ab (pv 1) (ab (pv 2) jb))) jb)))
   (fb (yb (i:=4) xl.nd (qb g67 hr T.Ev T.Ij.kp T.vv (ab (pv 0) (ab (pv 2) jb))))
   (fb (yb (i:=5) xl.nd (qb g0 hr T.Db T.Bb.kp T.Cb (ab (pv 0) (ab gb (ab gb jb)))))
   (fb (Bf PassesOwn.never rfl (me rfl T.uf (ab gb jb)) (Ib (i:=6) xl.nd) (fb (yb (i:=7) xl.nd (qb g18 hr T.Fk T.Af.kp T.Ik (ab (pv 0) (ab (Kb Fd gb (pv 6)) (ab (qc bc rfl T.Ci ic (ab (pv 4) jb)) (ab gb jb))))))
   (lb (Pc (Uk (Vh (qb g29 hr T.Ii T.gf.kp T.xi (ab (pv 3) (ab (pv 4) (ab (pv 1) (ab (pv 5) (ab (pv 7) jb)))))))) (lb (Fb Tl)) Rb))))
   (fb (yb (i:=8) xl.nd (qb g68 hr T.qC T.Ao.kp T.KB (ab (pv 3) (ab (cg rfl (ng (pv 4)) (Cc (sc:=ub qL) rfl (by decide +kernel)) (N:=["_law_one"]) (sel:=[none]) (Vc (M:=["_law_script","_law_places_here","_law_ways_here","_law_crossing","_law_wanted_here","_law_size","_law_k","_law_paper_here","_law_told","_law_some","_law_spoiled_here"]) (by decide +kernel)) (Blk.of (fun _ _ _ _=>(Ib (i:=0) (oh (N:=["_law_one"]) (by decide +kernel) rfl))) (fun _ _ _ _=>⟨_,sf,by walk_at "B"⟩) (fun _ _ _ _=>⟨_,(wc (ab (Ab Jb (Ab Jb (pv 0) gb) gb) (ab (Ab Jb (pv 0) gb) jb))),by walk_at "B"⟩))) jb))))
   (fb (Bf PassesOwn.never rfl (ng (Pf (ab (Kb Fg (Ab Jb (pv 8) gb) gb) (ab (Ab Jb (pv 8) gb) (ab (pv 5) jb))))) (Ib (i:=9) xl.nd) (lb (Pc (Uk (Vh (qb g29 hr T.Ii T.gf.kp T.xi (ab (pv 3) (ab (pv 4) (ab (pv 1) (ab (pv 9) (ab (Ab Jb (pv 8) gb) jb)))))))) (lb (Fb Tl)) Rb)))
   (fb (yb (i:=10) xl.nd (qb g19 hr T.zi T.Be.kp T.Fi (ab (pv 0) (ab (Ab Jb (pv 8) gb) (ab gb jb)))))
   (lb (Fb (qb g29 hr T.Ii T.gf.kp T.xi (ab (pv 3) (ab (pv 4) (ab (pv 1) (ab (Kb Fg (Ab Jb (pv 8) gb) gb) (ab (pv 10) jb))))))))))))))))),?_⟩
 refine zS (fun σ' H'=>H'=H∧∃ n:Int,(4 ≤ n∧n ≤ 99)∧σ'=[some (.ref a),some (.int n),none,none,none,none,none,none,none,none,none]) (fun D' hD=>?_) fun zzM zzh=>?_
 ·walk_at "RD";exact ⟨rfl,S0,fun n hn=>hD _ _ ⟨rfl,n,hn,rfl⟩⟩
 rintro σ1 H1 ⟨rfl,n,hn,rfl⟩;subst zzh;refine zS (fun σ' H'=>Sb H1 H'∧Sc K a ns H'∧∃ wl ds,LW H' wl ds∧(1 ≤ ds.length∧ds.length ≤ 6)∧iM n ds∧σ'=[some (.ref a),some (.int n),some (.ref wl),none,none,none,none,none,none,none,none]) (fun D' hD=>?_) fun zzM zzh=>?_
 ·have d1:=Fc ns 2 (m:=6) (by decide);have d2:=Jc ns 2 (m:=6) (by decide);(walk_at "RD"; repeat (dsimp only [Mc];walk_at "RD"));obtain ⟨m,hm⟩:∃ m:Nat,1 + Lg ns 2 6=(m:Int):=⟨(1 + Lg ns 2 6).toNat,by omega⟩;rw [hm];exact ⟨S0,by decide,by decide,by decide,m,n,rfl,S0,by omega,by omega,fun p ds H' s2 S2 _ L hl D=>hD _ _ ⟨s2,S2,p,ds,L,by omega,D,rfl⟩⟩
 rintro σ2 H2 ⟨s2,S2,wl,ds,hW,hdl,D,rfl⟩;subst zzh;refine zS (fun σ' H'=>Sb H2 H'∧Sc K a ns H'∧∃ c,cf t H' c n ds∧σ'=[some (.ref a),some (.int n),some (.ref wl),some (.ref c),none,none,none,none,none,none,none]) (fun D' hD=>?_) fun zzM zzh=>?_
 ·walk_at "RD";refine ⟨n,wl,ds,rfl,hW,D,by omega,by omega,S2.nt,n,ds,rfl,D.cok (by omega) (by omega),S2.nt,fun c H' s3 n3 C3=>hD _ _ ⟨s3,S2.same s3 n3,c,C3,rfl⟩⟩
 rintro σ3 H3 ⟨s3,S3,c,C3,rfl⟩;subst zzh;refine zS (fun σ' H'=>Sb H3 H'∧Sc K a ns H'∧∃ ul ws,Lo H' ul ws∧(0 < ws.length∧ws.length ≤ 5)∧(∀ x ∈ ws,x.1 ∈ ds∧1 ≤ x.2∧x.2 ≤ 60)∧σ'=[some (.ref a),some (.int n),some (.ref wl),some (.ref c),some (.ref ul),none,none,none,none,none,none]) (fun D' hD=>?_) fun zzM zzh=>?_
 ·walk_at "RD";exact ⟨wl,ds,rfl,S3,hW.same s3,by omega,fun p H' ws s4 S4 L hl hx=>hD _ _ ⟨s4,S4,p,ws,L,hl,hx,rfl⟩⟩
 rintro σ4 H4 ⟨s4,S4,ul,ws,hL,hwl,hwx,rfl⟩;obtain ⟨qs,w1,w2,w3⟩:=id hL;have hqn:(qs.map V.ref).length=ws.length:=by rw [List.length_map,w2]
 have hok:∀ p ∈ ws,WOk n p.1:=fun p hp=>(D.al _ (hwx p hp).1).1
 have wk:Jx n ws:=⟨fun p hp=>⟨hok p hp,by have:=(hwx p hp).2;omega⟩,by omega,List.length_pos_iff.mp hwl.1⟩;have hin:∀ q ∈ ws,∃ i:Nat,ds[i]? = some q.1:=fun p hp=>List.getElem?_of_mem (hwx p hp).1
 have hab:∀ q ∈ ws,0 ≤ q.2∧q.2 ≤ 100000:=fun p hp=>by have:=(hwx p hp).2;omega
 subst zzh;simp only [xb];have y1:=Fc ns 6 (m:=41) (by decide);have y2:=Jc ns 6 (m:=41) (by decide);refine zzC (fun σ' H'=>H'=H4∧∃ y:Int,(0 ≤ y∧y ≤ 41)∧σ'=[some (.ref a),some (.int n),some (.ref wl),some (.ref c),some (.ref ul),some (.int y),none,none,none,none,none]) (fun D' hD=>?_) fun zzM zzh=>?_
 ·walk_at "RD";exact ⟨_,_,rfl,S4,by decide,by decide,hD _ _ ⟨rfl,_,by omega,rfl⟩⟩
 rintro σ5 H5 ⟨rfl,y,hy,rfl⟩;have hun:=(nz wk.ok wk.2.1).1;have C5:=C3.same s4;subst zzh;simp only [xb];walk_at "RD";refine ⟨by decide,by decide,?_⟩;rw [show Int.toNat 2=2 from rfl];refine nk.range (fun i σ H'=>Sb H5 H'∧Sc K a ns H'∧∃ x6 x7,σ=[some (.ref a),some (.int n),some (.ref wl),some (.ref c),some (.ref ul),some (.int y),x6,x7,none,none,none]) ⟨Sb.refl _,S4,_,_,rfl⟩ ?_ ?_
 ·rintro i σ H6 hi zzq;refine zzP fun zzM zzh=>?_
  obtain ⟨s6,S6,x6,x7,rfl⟩:=zzq;subst zzh;simp only [Rf,xb,List.set_cons_succ,List.set_cons_zero];rw [Int.zero_add];refine zzC (fun σ' H'=>Sb H6 H'∧Sc K a ns H'∧∃ (pa:Addr) (p:Pap),Zi H' p pa∧Hi ws.length 3 p∧Kk p∧σ'=[some (.ref a),some (.int n),some (.ref wl),some (.ref c),some (.ref ul),some (.int y),some (.int (i:Int)),some (.ref pa),none,none,none]) (fun D' hD=>?_) fun zzM zzh=>?_
  ·walk_at "RD";refine ⟨.inl (by decide),_,.inl (SqL.of (s6 _ _ w1)),20 * i,ws.length,by rw [hqn,show (20:Int) * (i:Int)=((20 * i:Nat):Int) by omega];rfl,by omega,by omega,S6,fun r p H' s' S' P' F' Sh'=>hD _ _ ⟨s',S',r,p,P',F',Sh',rfl⟩⟩
  rintro σ7 H7 ⟨s7,S7,pa,p,P7,F7,Sh7,rfl⟩;subst zzh;(try dsimp only);refine qf (fun b H'=>b=false∧Sb H7 H'∧Sc K a ns H') (fun Q hQ=>?_) (fun H' z=>nomatch z.1) (fun H' z=>?_)
  ·walk_at "RD";exact ⟨c,ul,pa,n,y,ds,ws,p,3,rfl,C5.same (s6.trans s7),by omega,Me hL (s6.trans s7),hin,wk,P7,F7,by decide,Sh7,by omega,S7.nt,fun H8 s8 n8=>⟨_,rfl,hQ _ _ ⟨rfl,s8,S7.same s8 n8⟩⟩⟩
  ·simp only [Xb];exact ⟨(s6.trans s7).trans z.2.1,z.2.2,_,_,rfl⟩
 ·rintro σ H6 zzq;refine zzP fun zzM zzh=>?_
  obtain ⟨s56,S6,x6,x7,rfl⟩:=zzq;have w16:=s56 _ _ w1;subst zzh;simp only [xb];refine zzC (fun σ' H'=>Sb H6 H'∧Sc K a ns H'∧∃ (rt pb pa:Addr) (z:Int) (p:Pap),(1 ≤ z∧z ≤ 20000)∧H' rt=some (.tup [.int z,.ref pb,.ref pa])∧Zi H' p pa∧Hi ws.length (unO (Lb n ws) (qp (Lb n ws))) p∧cu p∧σ'=[some (.ref a),some (.int n),some (.ref wl),some (.ref c),some (.ref ul),some (.int y),x6,x7,some (.ref rt),none,none]) (fun D' hD=>?_) fun zzM zzh=>?_
  ·walk_at "RD";refine ⟨⟨_,SqL.of w16⟩,?_⟩;refine bd.list (xs:=qs.map V.ref) (fun i ys H'=>Sb H6 H'∧Sc K a ns H'∧∃ qw:List Addr,ys=qw.map V.ref∧qw.length=i∧∀ (j:Nat) (q:Addr) (p:WD × Int),qw[j]? = some q→ws[j]? = some p→H' q=some (.tup [.str p.1.name,.int p.2])) (by rw [hqn];exact Nat.le_trans hwl.2 (by decide)) ⟨Sb.refl _,S6,[],rfl,rfl,fun j q p h=>by simp at h⟩ ?_ ?_ ?_
   ·rintro i ys H' hi zzq;refine zzP fun zzM zzh=>?_
    obtain ⟨s5,_,qw,rfl,hq,_⟩:=zzq;subst zzh;exact ⟨SqL.of (s5 _ _ w16),by rw [List.length_map,hq];exact Nat.le_refl _⟩
   ·rintro i v ys H' hv zzq;refine zzP fun zzM zzh=>?_
    obtain ⟨s5,S5,qw,rfl,hq,al⟩:=zzq;obtain ⟨qi,hqi,rfl⟩:=Og hv;have hi:i < ws.length:=by rw [← w2];exact (List.getElem?_eq_some_iff.mp hqi).1
    have hwi:ws[i]? = some ws[i]:=List.getElem?_eq_getElem hi;obtain ⟨wq,e1,e2⟩:=w3 i qi _ hqi hwi;subst zzh;intro N hN;walk_at "RD";refine ⟨Sub.name,_,SqT.of (s5 _ _ (s56 _ _ e1)),_,wb (j:=0) rfl,_,rfl,_,SqT.of (s5 _ _ (s56 _ _ e2)),_,wb (j:=1) rfl,_,SqT.of (s5 _ _ (s56 _ _ e1)),_,wb (j:=1) rfl,by decide,fun p hp=>hN _ _ ⟨s5.trans (db hp),S5.new hp,qw ++ [p],by rw [List.map_append];rfl,by rw [List.length_append,hq];rfl,fun j q x h1 h2=>?_⟩⟩;rcases eg h1 with ⟨g1,g2⟩ | ⟨g1,g2⟩
    ·exact (db hp) _ _ (al j q x g2 h2)
    ·rw [g1,hq,hwi] at h2;cases h2;rw [g2];exact ib
   ·rintro ys H' ⟨s5,S5,qw,rfl,hq,al⟩ p hp;refine ⟨n,ws,⟨c,p,ds,rfl,(C5.same s56).same (s5.trans (db hp)),by omega,⟨qw,ib,by rw [hq,hqn],fun j q x h1 h2=>(db hp) _ _ (al j q x h1 h2)⟩,hin,wk,(S5.new hp).nt⟩,fun r z pb pa b p' H7 s7 n7 e7 SA=>?_⟩;have s67:=(s5.trans (db hp)).trans s7;exact hD _ _ ⟨s67,S6.same s67 n7,r,pb,pa,z,p',⟨SA.z1,SA.zl⟩,e7,SA.pap,SA.form,Lw (by show ws.length ≤ 6;omega) p' _ _ SA.form SA.bear,rfl⟩
  rintro σ7 H7 ⟨s7,S7,rt,pb,pa,z,p,hz,e7,P7,F7,R7,rfl⟩;have s57:=s56.trans s7;have Sh7:=Kg R7;subst zzh;simp only [xb];walk_at "RD";refine ⟨_,SqT.of e7,_,wb (j:=0) rfl,_,rfl,_,SqT.of e7,_,wb (j:=0) rfl,by decide,fun l hl=>⟨⟨_,SqL.of ib⟩,?_⟩⟩;have s8:=db (o:=.lst [.int (z - 1),.int z,.int y]) hl;have S8:=S7.new (o:=.lst [.int (z - 1),.int z,.int y]) hl;have e8:(upd H7 l (.lst [.int (z - 1),.int z,.int y])) l=some (.lst [.int (z - 1),.int z,.int y]):=ib;show nk _ _ _ _ _ (upd H7 l (.lst [.int (z - 1),.int z,.int y]));generalize upd H7 l (.lst [.int (z - 1),.int z,.int y])=H8 at s8 S8 e8 ⊢;have s58:=s57.trans s8;have P8:=P7.same s8;have e78:=s8 _ _ e7;refine nk.list (xs:=[V.int (z - 1),V.int z,V.int y]) (fun i σ H'=>Sb H8 H'∧Sc K a ns H'∧∃ x,σ=[some (.ref a),some (.int n),some (.ref wl),some (.ref c),some (.ref ul),some (.int y),x6,x7,some (.ref rt),x,none]) ?_ ?_ ?_ ?_
  ·exact ⟨Sb.refl _,S8,_,rfl⟩
  ·rintro i σ H' hi ⟨s9,_⟩;exact SqL.of (s9 _ _ e8)
  ·rintro i v σ H9 hv zzq;refine zzP fun zzM zzh=>?_
   obtain ⟨s9,S9,x,rfl⟩:=zzq;obtain ⟨u,rfl,hu⟩:∃ u:Int,v=.int u∧0 ≤ u∧u ≤ 100000:=by
    have hv':=List.mem_of_getElem? hv;simp only [List.mem_cons,List.not_mem_nil,or_false] at hv';rcases hv' with rfl | rfl | rfl
    ·exact ⟨_,rfl,by omega⟩
    ·exact ⟨_,rfl,by omega⟩
    ·exact ⟨_,rfl,by omega⟩
   subst zzh;simp only [Rf,List.set_cons_succ,List.set_cons_zero];refine qf (fun b H'=>b=false∧Sb H9 H'∧Sc K a ns H') (fun Q hQ=>?_) (fun H' z=>nomatch z.1) (fun H' z=>?_)
   ·walk_at "RD";exact ⟨_,SqT.of (s9 _ _ e78),_,wb (j:=2) rfl,c,ul,pa,n,u,ds,ws,p,_,rfl,C5.same (s58.trans s9),by omega,Me hL (s58.trans s9),hin,wk,P8.same s9,F7,hun,Sh7,hu,S9.nt,fun H10 s10 n10=>⟨_,rfl,hQ _ _ ⟨rfl,s10,S9.same s10 n10⟩⟩⟩
   ·simp only [Xb];exact ⟨s9.trans z.2.1,z.2.2,_,rfl⟩
  ·rintro σ H9 zzq;refine zzP fun zzM zzh=>?_
   obtain ⟨s9,S9,x,rfl⟩:=zzq;have s59:=s58.trans s9;have e9:=s9 _ _ e78;subst zzh;simp only [xb];refine zzC (fun σ' H'=>Sb H9 H'∧Sc K a ns H'∧∃ (r4:Addr) (p4:Pap),Zi H' p4 r4∧Hi ws.length (unO (Lb n ws) (qp (Lb n ws))) p4∧Kk p4∧σ'=[some (.ref a),some (.int n),some (.ref wl),some (.ref c),some (.ref ul),some (.int y),x6,x7,some (.ref rt),x,some (.ref r4)]) (fun D' hD=>?_) fun zzM zzh=>?_
   ·walk_at "RD";exact ⟨_,SqT.of e9,_,wb (j:=2) rfl,_,hun,0,ws.length,pa,p,rfl,by omega,by omega,P8.same s9,F7,R7,S9,fun r4 p4 H12 s12 S12 P4 F4 Sh4=>hD _ _ ⟨s12,S12,r4,p4,P4,F4,Sh4,rfl⟩⟩
   rintro σ10 H10 ⟨s10,S10,r4,p4,P4,F4,Sh4,rfl⟩;subst zzh;(try dsimp only);walk_at "RD";exact ⟨_,SqT.of (s10 _ _ e9),_,wb (j:=0) rfl,_,rfl,c,ul,r4,n,z - 1,ds,ws,p4,_,rfl,C5.same (s59.trans s10),by omega,Me hL (s59.trans s10),hin,wk,P4,F4,hun,Sh4,by omega,S10.nt,fun H11 s11 n11=>q _⟩
end
end My
structure PySem.W.Fast:Prop where(tw2709320741621296906 tw15573590645420586 tw11792897314743049943 tw6646455372321233245 tw13551211894454268058 tw18176887300451960489 tw16781722783496875164 tw524468285947326475 tw302360055122303399 tw4515136270932535859 tw13190400663396395603 tw6973862717801782047 tw213789513475130268 tw5447886421685353033 tw15652545641617798368 tw13643581631014585548 tw12447117911985932772 tw529856453192220650 tw5190197379082612493 tw1443555192123805698 tw11370414769239072847 tw895629227116366015 tw15501626682052127027 tw16390958351406624886 tw5905871652728458959 tw6881905439092780870 tw16558538799526521452 tw12918594814013878048 tw4044139565803598162 tw13742264970543866276 tw13699458780457070906 tw18031938144532532809 tw7144839634774067406 tw15745007002049567717 tw2532063140055016007 tw13950199248136600821 tw13202982799978521480 tw7454874099842867726 tw9569434088875789211 tw7798958432778518837 tw11147360635339125024 tw8779949315100417950 tw9062772783056102378 tw4337091848215470994 tw10244964660192564145 tw6825572669966635767 tw1223507768834240942 tw17909039898713484498 tw13027177115039210449 tw16160367454055825852 tw4324792164466619647 tw13463117324252678902 tw7012711055303926399 tw3398161786597995298 tw8527178736883991293 tw3726470578380399324 tw10904002326961340188 tw3581057191016343724 tw2023055743689440080 tw11560236510253696339 tw1935324233750303311 tw4597564151004839675 tw1895552258962718995 tw10639218186846640773 tw770017730661832028 tw6983034867502429122 tw6771959622646977500 tw8105662035096343356 tw170563130647042795 tw15676061451208263024 tw7919806672946615525 tw13921516258326093104 tw5736999545832443990 tw4845001193831410774 tw9829409759705451504 tw3765140822611277531 tw3586924128545012912 tw5361407616107289369 tw4425860790006210836 tw5007647807170431576 tw9119181777930471919 tw7273568761268418658 tw11284027192641991718 tw13833148589917935678 tw14259069252834271472 tw16604701085754759999 tw18264131572085181829 tw18112166128698793049 tw9421331977948206333 tw3046876317389546906 tw5070739542404484764 tw5129745681345806878 tw4856093176260944728 tw1524113889623212942 tw12504310539458574632 tw16123332079219689515 tw7529806540821067556 tw8642335017056333825 tw6208873653293385556 tw3585735621798856126 tw7460210576920235339 tw2673751359888613863 tw10052246651385455185 tw1046142517911609112 tw7457978014332860600 tw14244870243525136332 tw2998233199083636486 tw18361655261015402605 tw13713888838496651520 tw16447774633047534641 tw15207794719686923447 tw2304827979145063355 tw13005894252217455722 tw2563279316094639354 tw17054971485961758394 tw5980435449364966753 tw11807599427155963054 tw1328501914563128523 tw1638657312619656394 tw18431882587279959937 tw2140161027670720458 tw1643250239617043647 tw3744081821910342150 tw1567607200839093295 tw5287909220363356299 tw553309354622845682 tw16115797097542172036 tw9005215411316468776 tw10631855612804067358 tw2538374308664627389 tw7377324502565506616 tw16854720033472304195 tw7448348422149724652 tw16988387589355876671 tw9369936513293892919 tw18155308898640373660 tw15394508664984935061 tw17276861455607074172 tw8996660998142715372 tw7406234880050420181 tw3152201707708110877 tw12312267073774555680 tw12614390660505857891 tw274522864243844894 tw11595578399586347425 tw12917786034440740947 tw4733591026535075765 tw1252247083369917156 tw17926378669249477500 tw3228282111533369010 tw12791807836512913670 tw15254842260567582747 tw16600663458289423238 tw12715939290575218713 tw12644824044635810066 tw5010955147560746815 tw11255689390147580284 tw700402210997999424 tw17378143549596250658 tw3488993008777948642 tw14447042245178651383 tw7914763246848936563 tw13283454068905320403 tw5992976487070719843 tw8748919413169596594 tw392614306483899540 tw14469432747738259962 tw1046518422843654060 tw15876381628660831655 tw6003528301517494048 tw14483874909686142997 tw8102501704300307510 tw16187108023349955366 tw10632989343643230949 tw8505354419472760183 tw3338720497297185984 tw2762061235397496712 tw14505433327368013741 tw10244530368885375423 tw5707297627410214291 tw5636302290384035017 tw8492127386675813062 tw17536047879984425813 tw7881646992534154146 tw6720101080041341686 tw18129966846304688670 tw11837147140129831559 tw15740400570228741135 tw9678508062986244780 tw5240382074498014598 tw10957366605700942413 tw11733920422269098510 tw10322091048893421358 tw369260783238277916 tw12606948395343805458 tw8041642603345883367 tw11640677221049017418 tw4516418208773154980 tw10627583084833152874 tw6519323060593221451 tw17777674490498672435 tw17692276420501870252 tw7257212509842117992 tw7788032476116418499 tw17162683223709968958 tw4924544280413269375 tw690826239077699254 tw15800590984074586508 tw8741506144938145887 tw3730232443115795201 tw17671338941451347532 tw2440406391111215829 tw12925626771810197855 tw6061998839296367568 tw16600964893361911043 tw11335988513839795076 tw11421465585629161786 tw7876345375536935724 tw1607133621721683696 tw10048621232747289466 tw14271741039908234401 tw12991147295398984439 tw1819438356675187347 tw7531591127657550060 tw11203016027257045362 tw16816764033260278096 tw8223145313055199551 tw15417103351775660873 tw17044687243928321731 tw3857499878021883615 tw3507270430505784275 tw15512662329568589537 tw7209396220046362147 tw8501414120370921038 tw11352066833334202009 tw14990864605581189172 tw10158563772939027062 tw8238668334631609319 tw2040035511091850090 tw2014801396268908990 tw346587443436427457 tw5266532697255177242 tw4794834274870825216 tw15690343014184553069 tw13906578725014761498 tw18115202685079857547 tw8235975710458342675 tw13801113806436095527 tw15770742595090417829 tw13549857173974218987 tw4860144936691879368 tw11286335599736152922 tw9710181048002186228 tw7910385412260345466 tw12933345337836336643 tw9588901642879753400 tw11180846572263382527 tw12493845837670936780 tw10013778039240323630 tw4884884573474017774 tw16979745774604201209 tw16526002511247102297 tw16910340221920612514 tw5691793744711947851 tw6021325343415881360 tw3833694209692411475 tw6766503088797155964 tw13459671262936158702 tw14480960137680653944 tw4534210175352210825 tw3568291692810062342 tw10749607136206027549 tw4665159616026619739 tw12903884077971880303 tw1206206136443380091 tw4108459826208662355 tw3332417947689963236 tw5919526594816561933 tw9967645473073399269 tw14392744640409979006 tw2547223590321264203 tw16967535037853270051 tw7084576523235902306 tw3737162717578417242 tw8792726624666108083 tw836144237316666581 tw8046917756045023242 tw592007093205174686 tw7131318467150201440 tw12516253359750722757 tw9242701034337395410 tw14439541207224722816 tw1246487083647670970 tw10212672113304409504 tw6228077078571872221 tw14778689946046000856 tw15487393991867301008 tw9374020347001826041 tw13121033726030743570 tw17742156964156158724 tw6676739107178369243 tw10455957714339491898 tw12078104259019860581 tw15969652664145811731 tw1507818497444363585 tw15835241502922122239 tw6681803873940824771 tw4189697705387528740 tw10751304221704128470 tw17117003302950439180 tw547157181816412605 tw8206087841279390038 tw2936074551667322164 tw10689000166537542644 tw8049291014342997732 tw3457623464647526438 tw11981240390962163281 tw15821599478358028084 tw16454218700182048698 tw10139726048179358004 tw15058649311840023995 tw13862391483826356795 tw12619618671197970643 tw12066883207035437919 tw2820058634558355371 tw14537509175974817543 tw10784709033252336447 tw3327477604718827957 tw13495018927670093171 tw7528263738299531978 tw12859173933814214081 tw18074902926896313278 tw15132773858745838945 tw13886316250100779981 tw9460422635196129748 tw2044956327445333776 tw14326315700520251813 tw4645719961955162751 tw7325621280741455287 tw12165007191139850830 tw13175184047406626097 tw3560790329058901906 tw13244357041820455589 tw18115806320166267244 tw7864603766855647616 tw10798305123427696947 tw11450415522477561840 tw13055335863976087532 tw3299524753737170516 tw5641370546488798770 tw17847075480926332776 tw1149792274562143799 tw4694523725938354634 tw10407326270227485521 tw14549559828240409269 tw11442599435493740093 tw2342442757839007544 tw18136177000431561358 tw3263332697829023666 tw15038415932546994531 tw8183277719287093717 tw4562680572525343156 tw5233969435961670095 tw13682182026090296786 tw3589551379367828896 tw14916833085884462602 tw7891409907328498204 tw16608234206048364939 tw15636856307893201900 tw1501401615773310728 tw17676023568174398448 tw559679071288831916 tw16937944405927284675 tw9194025247581693466 tw16614079112385172134 tw8229184725972543189 tw13041905088422878273 tw16439485024310468216 tw1919225485562689964 tw3844083361379201144 tw10794566856758882470 tw6268953459965108896 tw10966729178861809052 tw10412450270124048443 tw9970472190045300431 tw8448556192388621290 tw876431979295191930 tw17344290781172856894 tw9546755879027996881 tw14083204447687352052 tw17448972934404587026 tw7873426360868253166 tw3312610717999513895 tw8746180299354029929 tw9865577557839788673 tw13529833980424856772 tw6895976504839403862 tw5918653188275800165 tw8834519163748884614 tw1914883658589656523 tw8861311720089745941 tw7657895274227602391 tw3449996587099319391 tw9964101573353782445 tw16481385073586364217 tw3150826059293551909 tw5990225353650536830 tw14388587506276597107 tw6919456384640270722 tw6435897332116989362 tw4722472330319198102 tw14506187033104445522 tw2266178623516374441 tw4039725036367535295 tw1296320663759532174 tw7272294840172705343 tw13057368915739965544 tw18123153516859336625 tw2295488797594634392 tw11930431882988442753 tw11508110608793095858 tw2741291462013052265 tw7163461885065602796 tw13359110908542646190 tw4753257949571718904 tw11036997119094569074 tw18372806347302342026 tw9328862729211518256 tw483941862386179265 tw5579919554330326437 tw16281972292674672629 tw8815557663068568452 tw8045447952242114042 tw17143142929931099703 tw11658349037708024439 tw3781877537078000518 tw11270677080710688644 tw6368190784740692958 tw14255562635837931292 tw1974186490040050725 tw17951065634800345159 tw8477629050282164589 tw10465497523940210909 tw2235074915911073876 tw4833748436225109945 tw3104482502904038449 tw8943956663913074634 tw3031924046030087576 tw15617204390480199363 tw8505975948802685212 tw10088879207617657238:True)
open PySem PySem.W PyProof.Rows
set_option maxRecDepth 100000 in
set_option maxHeartbeats 0 in
theorem PySem.Challenge.cw_lampway_k61_papers_read_holds : PySem.Challenge.rw_lampway_k61_papers_read.Holds := by
 w_on;o_law;k_head;(case hw=>w_witness2)
 k_fill
 refine L2.aI (l:=PySem.Challenge.rw_lampway_k61_papers_read) (n:=63) (k:=27) (x := "_law_script") (CX:=L2.CX0) (sp:=L2.yN) rfl (by decide) rfl ⟨rfl,by decide,by decide⟩ (fun w h Y=>PySem.W.kIn_of Y) ?F ?S ?C
 case F=>
  intro w mg fa h KX G hmg;have T:∃ t,My.Txt w (L2.KOf KX) mg t:=by
   dsimp only [L2.KOf];refine' ⟨My.Adr.mk,⟨?mqaa,?Fqab,?mqac,?Fqad,?mqae,?Fqaf,?mqag,?Fqah,?mqai,?Fqaj,?mqak,?Fqal,?mqam,?Fqan,?mqao,?Fqap,?mqaq,?Fqar,?mqas,?Fqat,?mqau,?Fqav,?mqaw,?Fqax,?mqay,?Fqaz,?mqba,?Fqbb,?mqbc,?Fqbd,?mqbe,?Fqbf,?mqbg,?Fqbh,?mqbi,?Fqbj,?mqbk,?Fqbl,?mqbm,?Fqbn,?mqbo,?Fqbp,?mqbq,?Fqbr,?mqbs,?Fqbt,?mqbu,?Fqbv,?mqbw,?Fqbx,?mqby,?Fqbz,?mqca,?Fqcb,?mqcc,?Fqcd,?mqce,?Fqcf,?mqcg,?Fqch,?mqci,?Fqcj,?mqck,?Fqcl,?mqcm,?Fqcn,?mqco,?Fqcp,?mqcq,?Fqcr,?mqcs,?Fqct,?mqcu,?Fqcv,?mqcw,?Fqcx,?mqcy,?Fqcz,?mqda,?Fqdb,?mqdc,?Fqdd,?mqde,?Fqdf,?mqdg,?Fqdh,?mqdi,?Fqdj,?mqdk,?Fqdl,?mqdm,?Fqdn,?mqdo,?Fqdp,?mqdq,?Fqdr,?mqds,?eqdt,?Fqdu,?mqdv,?eqdw,?Fqdx,?eqdy,?Fqdz,?eqea,?Fqeb,?eqec,?Fqed,?eqee,?Fqef,?eqeg,?Fqeh,?eqei,?Fqej,?eqek,?Fqel,?mqem,?eqen,?Fqeo,?mqep,?eqeq,?Fqer,?eqes,?Fqet,?eqeu,?Fqev,?mqew,?eqex,?Fqey,?eqez,?Fqfa,?eqfb,?Fqfc,?mqfd,?eqfe,?Fqff,?eqfg,?Fqfh,?eqfi,?Fqfj,?mqfk,?eqfl,?Fqfm,?eqfn,?Fqfo,?eqfp,?Fqfq,?sqfr,?sqfs,?nqft,?nqfu,?nqfv,?sqfw,?sqfx,?sqfy,?sqfz,?sqga,?sqgb,?sqgc,?sqgd,?sqge,?nqgf,?nqgg,?nqgh,?sqgi,?nqgj,?nqgk,?nqgl,?nqgm,?nqgn,?nqgo,?nqgp,?sqgq,?sqgr,?sqgs,?sqgt,?nqgu,?nqgv,?nqgw,?nqgx,?nqgy,?nqgz,?nqha,?sqhb,?sqhc,?sqhd,?sqhe,?nqhf,?nqhg,?nqhh,?nqhi,?nqhj,?nqhk,?nqhl,?sqhm,?sqhn,?sqho,?sqhp,?nqhq,?nqhr,?nqhs,?nqht,?nqhu,?nqhv,?nqhw,?sqhx,?sqhy,?sqhz,?sqia,?nqib,?nqic,?nqid,?dqie,?dqif,?dqig,?dqih,?dqii,?dqij,?sqik,?mqil,?vqim,?mqin,?vqio,?mqip,?vqiq,?mqir,?vqis,?mqit,?vqiu,?mqiv,?vqiw,?mqix,?vqiy,?mqiz,?vqja,?mqjb,?vqjc,?mqjd,?vqje,?bqjf,?bqjg,?bqjh,?bqji,?bqjj,?bqjk,?bqjl,?bqjm,?bqjn,?bqjo,?bqjp,?bqjq,?bqjr,?bqjs,?bqjt,?bqju,?lqjv⟩⟩
   case mqaa | mqac | mqae | mqag | mqai | mqak | mqam | mqao | mqaq | mqas | mqau | mqaw | mqay | mqba | mqbc | mqbe | mqbg | mqbi | mqbk | mqbm | mqbo | mqbq | mqbs | mqbu | mqbw | mqby | mqca | mqcc | mqce | mqcg | mqci | mqck | mqcm | mqco | mqcq | mqcs | mqcu | mqcw | mqcy | mqda | mqdc | mqde | mqdg | mqdi | mqdk | mqdm | mqdo | mqdq | mqds | mqdv | mqem | mqep | mqew | mqfd | mqfk | mqil | mqin | mqip | mqir | mqit | mqiv | mqix | mqiz | mqjb | mqjd=>(try dsimp only);refine' PySem.W.mg_of KX G ?z;case z=>k_is
   case eqdt | eqdw | eqdy | eqea | eqec | eqee | eqeg | eqei | eqek | eqen | eqeq | eqes | eqeu | eqex | eqez | eqfb | eqfe | eqfg | eqfi | eqfl | eqfn | eqfp=>(try dsimp only);k_is
   case sqfr | sqfs | sqfw | sqfx | sqfy | sqfz | sqga | sqgb | sqgc | sqgd | sqge | sqgi | sqgq | sqgr | sqgs | sqgt | sqhb | sqhc | sqhd | sqhe | sqhm | sqhn | sqho | sqhp | sqhx | sqhy | sqhz | sqia | sqik=>(try dsimp only);constructor <;> k_is
   case Fqab | Fqad | Fqaf | Fqah | Fqaj | Fqal | Fqan | Fqap | Fqar | Fqat | Fqav | Fqax | Fqaz | Fqbb | Fqbd | Fqbf | Fqbh | Fqbj | Fqbl | Fqbn | Fqbp | Fqbr | Fqbt | Fqbv | Fqbx | Fqbz | Fqcb | Fqcd | Fqcf | Fqch | Fqcj | Fqcl | Fqcn | Fqcp | Fqcr | Fqct | Fqcv | Fqcx | Fqcz | Fqdb | Fqdd | Fqdf | Fqdh | Fqdj | Fqdl | Fqdn | Fqdp | Fqdr | Fqdu | Fqdx | Fqdz | Fqeb | Fqed | Fqef | Fqeh | Fqej | Fqel | Fqeo | Fqer | Fqet | Fqev | Fqey | Fqfa | Fqfc | Fqff | Fqfh | Fqfj | Fqfm | Fqfo | Fqfq=>(try dsimp only);refine' L2.WN ?x ?y ?z;(case x=>k_is);(case y=>k_is);(case z=>k_is)
   case nqft | nqfu | nqfv | nqgf | nqgg | nqgh | nqgj | nqgk | nqgl | nqgm | nqgn | nqgo | nqgp | nqgu | nqgv | nqgw | nqgx | nqgy | nqgz | nqha | nqhf | nqhg | nqhh | nqhi | nqhj | nqhk | nqhl | nqhq | nqhr | nqhs | nqht | nqhu | nqhv | nqhw | nqib | nqic | nqid=>(try dsimp only);unfold L2.kc;k_is
   case dqie | dqif | dqig | dqih | dqii | dqij=>(try dsimp only);decide
   case vqim | vqio | vqiq | vqis | vqiu | vqiw | vqiy | vqja | vqjc | vqje=>(try dsimp only);exact ⟨_,rfl⟩
   case bqjf | bqjg | bqjh | bqji | bqjj | bqjk | bqjl | bqjm | bqjn | bqjo | bqjp | bqjq | bqjr | bqjs | bqjt | bqju=>(try dsimp only);refine' PySem.W.mg_none_of KX G ?z;case z=>k_is
   case lqjv=>(try dsimp only);exact fun _ _=>.of_eq rfl
  obtain ⟨t,T⟩:=T;have e0:=hmg.symm.trans T.pP;cases e0;exact ⟨t.GH,T.tN,fun base kb nb=>My.YN T⟩
 case S=>exact fun K H a ns hl hO hS=>⟨a,ns,rfl,L2.Sc.of_only hO hS,hl,fun _=>rfl⟩
 case C=>exact fun _ _ _ _ z=>z
