import PyProof.Rows.All
import Wide.All
import OpenK.AllK
import Wide.FinOn
import Lean
import PyProof.EqAt
import PyProof.EqKinds
import PyProof.TupleCall
import KE.KTryMore
import PyProof.NsDelKeeps
import PySem.Challenge.RW_lampway_k64_whole_shortest_round
set_option compiler.extract_closed false
set_option Elab.async false
set_option linter.all false
set_option maxRecDepth 100000
namespace L2
open PySem PySem.Spec PyProof.Rows
noncomputable abbrev Key:=Sum Int Str
noncomputable def eC:Key→Value→Bool
 | .inl k,v=>Value.isInt k v
 | .inr x,v=>Value.isStrOf x v
noncomputable def VP (w:World):Key→Int
 | .inl k=>hashInt k
 | .inr x=>hashStr w x
theorem fe:∀ {k:Key} {v:Value},eC k v=true→(∃ i t,k=Sum.inl i∧v=Value.int i t)∨(∃ x t,k=Sum.inr x∧v=Value.str x t)
 | .inl i,v,h=>by
  obtain ⟨t,e⟩:=Value.isInt_shape (k:=i) (v:=v) h;exact .inl ⟨i,t,rfl,e⟩
 | .inr x,v,h=>by
  obtain ⟨t,e⟩:=Value.isStrOf_shape (x:=x) (v:=v) h;exact .inr ⟨x,t,rfl,e⟩
theorem fD (i:Int) (t:Tok):eC (.inl i) (.int i t)=true:=by simp [eC,Value.isInt]
theorem PF (x:Str) (t:Tok):eC (.inr x) (.str x t)=true:=by simp [eC,Value.isStrOf]
theorem uN (a b:Int):decide ((Sum.inl a:Key)=Sum.inl b)=(a == b):=by
 by_cases e:a=b
 ·subst e;simp
 ·have h:¬ (Sum.inl a:Key)=Sum.inl b:=fun q=>e (Sum.inl.inj q)
  rw [decide_eq_false h];exact (beq_eq_false_iff_ne.mpr e).symm
theorem zM (a b:Str):decide ((Sum.inr a:Key)=Sum.inr b)=decide (a=b):=by
 by_cases e:a=b
 ·subst e;simp
 ·have h:¬ (Sum.inr a:Key)=Sum.inr b:=fun q=>e (Sum.inr.inj q)
  rw [decide_eq_false h,decide_eq_false e]
theorem KM (a:Int) (b:Str):decide ((Sum.inl a:Key)=Sum.inr b)=false:=decide_eq_false (fun q=>nomatch q)
theorem bM (a:Str) (b:Int):decide ((Sum.inr a:Key)=Sum.inl b)=false:=decide_eq_false (fun q=>nomatch q)
noncomputable def we (prog:Program) (w:World):PySem.KeyKind prog w Key where
 is:=eC
 hash:=VP w
 inj:=fun v a b ha hb=>by
  rcases fe ha with ⟨i,t,rfl,rfl⟩ | ⟨x,t,rfl,rfl⟩
  ·rcases fe hb with ⟨j,u,rfl,e⟩ | ⟨y,u,rfl,e⟩
   ·injection e with e1 _;rw [e1]
   ·exact nomatch e
  ·rcases fe hb with ⟨j,u,rfl,e⟩ | ⟨y,u,rfl,e⟩
   ·exact nomatch e
   ·injection e with e1 _;rw [e1]
 byValue:=fun k v h=>by
  rcases fe h with ⟨i,t,rfl,rfl⟩ | ⟨x,t,rfl,rfl⟩ <;> rfl
 pyHash:=fun hv h=>by
  rcases fe hv with ⟨i,t,rfl,rfl⟩ | ⟨x,t,rfl,rfl⟩
  ·exact wpAny_pyHash_int h
  ·exact wpAny_pyHash_str h
 eqBool:=fun hu hv h=>by
  rcases fe hu with ⟨i,t,rfl,rfl⟩ | ⟨x,t,rfl,rfl⟩
  ·rcases fe hv with ⟨j,u,rfl,rfl⟩ | ⟨y,u,rfl,rfl⟩
   ·rw [uN] at h;exact wpAny_eqBool_int h
   ·rw [KM] at h;exact SeqAt.EqAt.int_str i t y u _ _ _ _ h
  ·rcases fe hv with ⟨j,u,rfl,rfl⟩ | ⟨y,u,rfl,rfl⟩
   ·rw [bM] at h;exact SeqAt.EqAt.str_int x t j u _ _ _ _ h
   ·rw [zM] at h;exact wpAny_eqBool_str h
 «strs»:=fun k x t v h=>by
  rcases fe h with ⟨i,u,rfl,e⟩ | ⟨y,u,rfl,e⟩
  ·exact nomatch e
  ·injection e with e1 _;subst e1;cases v <;> rfl
theorem Gx (prog:Program) (w:World) (i:Int) (t:Tok):(we prog w).is (.inl i) (.int i t)=true:=fD i t
theorem Ox (prog:Program) (w:World) (x:Str) (t:Tok):(we prog w).is (.inr x) (.str x t)=true:=PF x t
end L2
namespace L2
open PySem PySem.Spec PyProof.Rows
inductive V where
 | non | bl (b:Bool) | int (i:Int) | str (x:Str) | byt (b:Array UInt8) | flt (b:UInt64) | ref (a:Addr) | ty (n:String)
 deriving DecidableEq
noncomputable def zd:V→Value→Prop
 | .non,u=>u=Value.none
 | .bl b,u=>u=Value.bool b
 | .int i,u=>∃ t,u=Value.int i t
 | .str x,u=>∃ t,u=Value.str x t
 | .byt b,u=>∃ t,u=Value.bytes b t
 | .flt b,u=>∃ t,u=Value.float b t
 | .ref a,u=>u=Value.ref a
 | .ty n,u=>u=Value.type n
noncomputable abbrev pd:List V→List Value→Prop:=Paired zd
theorem pd.length {xs:List V} {us:List Value} (r:pd xs us):xs.length=us.length:=Paired.length r
theorem pd.get:∀ {xs:List V} {us:List Value} {i:Nat} {x:V},pd xs us→xs[i]? = some x→∃ u,us[i]? = some u∧zd x u
 | _,_,_,_,.nil,e=>by simp at e
 | _,_,0,_,.cons r _,e=>by simp at e;subst e;exact ⟨_,rfl,r⟩
 | _,_,i + 1,x,.cons _ t,e=>by
  obtain ⟨u,h1,h2⟩:=pd.get (i:=i) (x:=x) t (by simpa using e);exact ⟨u,by simpa using h1,h2⟩
theorem pd.set {x:V} {u:Value} (r:zd x u):∀ {xs:List V} {us:List Value} (i:Nat),pd xs us→pd (xs.set i x) (us.set i u)
 | _,_,_,.nil=>.nil
 | _,_,0,.cons _ t=>.cons r t
 | _,_,i + 1,.cons q t=>.cons q (pd.set r i t)
theorem pd.append:∀ {xs ys:List V} {us ws:List Value},pd xs us→pd ys ws→pd (xs ++ ys) (us ++ ws)
 | _,_,_,_,.nil,s=>s
 | _,_,_,_,.cons r t,s=>.cons r (pd.append t s)
theorem pd.take:∀ {xs:List V} {us:List Value} (n:Nat),pd xs us→pd (xs.take n) (us.take n)
 | _,_,0,_=>.nil
 | _,_,_ + 1,.nil=>.nil
 | _,_,n + 1,.cons r t=>.cons r (pd.take n t)
theorem pd.drop:∀ {xs:List V} {us:List Value} (n:Nat),pd xs us→pd (xs.drop n) (us.drop n)
 | _,_,0,r=>r
 | _,_,_ + 1,.nil=>.nil
 | _,_,n + 1,.cons _ t=>pd.drop n t
theorem pd.none_of:∀ {xs:List V} {us:List Value} {i:Nat},pd xs us→xs[i]? = none→us[i]? = none:=fun {xs us i} r e=>by
 have h1:=r.length;have h2:xs.length ≤ i:=List.getElem?_eq_none_iff.mp e;exact List.getElem?_eq_none_iff.mpr (by omega)
noncomputable def gu:Option V→Option Value→Prop
 | some v,some u=>zd v u
 | none,none=>True
 | _,_=>False
noncomputable def KV {κ:Type}:List (κ × V)→List (κ × Value)→Prop:=Paired fun (p:κ × V) (q:κ × Value)=>p.1=q.1∧zd p.2 q.2
noncomputable def kV:Key→V
 | .inl i=>.int i
 | .inr x=>.str x
inductive HO where
  | lst (xs:List V)
  | tup (xs:List V)
  | dK (kvs:List (Key × V)) | dT (kvs:List (List Key × V))
  | set (S:Int→Bool) (n:Nat)
  | ins (C dx:Addr) (fs:List (Str × V))
  | own (x:Addr)
  | xd (fs:List (Str × V))
  | met (f x:Addr)
  | rng (lo hi:Int)
  | frz (o:Obj) (u:HO)
  | tbl (ps:Array Value)
  | ext (φ:Heap→Prop)
noncomputable abbrev Hp:=Addr→Option HO
noncomputable def upd (H:Hp) (a:Addr) (o:HO):Hp:=fun b=>if b=a then some o else H b
theorem ib {H:Hp} {a:Addr} {o:HO}:upd H a o a=some o:=by unfold upd;rw [if_pos rfl]
theorem Ab {H:Hp} {a b:Addr} {o:HO} (h:b ≠ a):upd H a o b=H b:=by unfold upd;rw [if_neg h]
theorem Em {H:Hp} {a:Addr} {o u:HO}:upd (upd H a o) a u=upd H a u:=by
 funext b;unfold upd;split <;> rfl
theorem Aj {H:Hp} {a b:Addr} {o u:HO} (h:H a=some o) (h':H b=some u) (d:o ≠ u):a ≠ b:=by
 intro e;subst e;rw [h] at h';exact d (Option.some.inj h')
theorem Lb {H:Hp} {a b:Addr} {o:HO} (h:H a=some o) (h':H b=none):a ≠ b:=by
 intro e;subst e;rw [h] at h';cases h'
section
variable (P:Program) (w:World)
noncomputable def Bd (H:Hp) (h:Heap) (a:Addr):HO→Prop
 | .lst xs=>xs.length ≤ sizeLine∧∃ (its:List Value) (n:Nat),pd xs its∧h.get? a=some { cls:=.type "list",data:=.seq its.toArray n }
 | .tup xs=>(xs.length ≤ sizeLine∧∃ ob,h.get? a=some ob∧ob.dict=none)∧∃ its:List Value,pd xs its∧IsTup h a its.toArray
 | .dK kvs=>kvs.length ≤ sizeLine∧(a == sysModules)=false∧∃ vs,KV kvs vs∧h.DictOf (we P w) a vs
 | .dT kvs=>kvs.length ≤ sizeLine∧(a == sysModules)=false∧∃ xs:List (List Key × Addr × Value),
   Paired (fun (p:List Key × V) (q:List Key × Addr × Value)=>p.1=q.1∧H q.2.1=some (.tup (p.1.map kV))∧zd p.2 q.2.2) kvs xs ∧
   ∃ o es ep,h.get? a=some o∧o.ExactDict∧o.data=.dict es ep∧es.toList=xs.map (entryOfKey (tupleKind (we P w)))∧(xs.map (·.1)).Nodup
 | .set S n=>h.SetOf (intKind P w) a S n
 | .ins C dx fs=>H dx=some (.own a)∧fs.length ≤ 1000∧dx ≠ a∧h.get? a=some (PySem.W.instObj C dx) ∧
   ∃ mA,h.Ns1 dx mA∧(∀ f,gu (fs.lookup f) (mA f))∧PySem.Within mA (fs.map (·.1))
 | .own _=>∃ o,h.get? a=some o
 | .xd fs=>∃ mA,h.Ns1 a mA∧∀ f,gu (fs.lookup f) (mA f)
 | .rng lo hi=>∃ t u v,h.get? a=some { cls:=.type "range",data:=.fields #[.int lo t,.int hi u,.int 1 v] }
 | .frz o u=>h.get? a=some o∧Bd H h a u
 | .tbl ps=>h.get? a=some { cls:=.none,data:=.fields ps }
 | .met f x=>h.get? a=some (PySem.W.methodObj (.ref f) (.ref x))
 | .ext φ=>φ h∧(∃ o,h.get? a=some o)∧∀ h1 h2:Heap,φ h1→(∀ o,h1.get? a=some o→h2.get? a=some o)→φ h2
noncomputable def HOk (H:Hp) (h:Heap):Prop:=∀ a o,H a=some o→Bd P w H h a o
end
section
variable {P:Program} {w:World} {H H':Hp} {h h':Heap} {a:Addr} {o:HO}
theorem Bd.lt (x:Bd P w H h a o):a < h.objs.size:=by
 cases o with
 | lst xs=>obtain ⟨_,_,_,_,e⟩:=x;exact Heap.lt_size e
 | tup xs=>obtain ⟨_,_,_,p⟩:=x;exact p.lt
 | dK kvs=>obtain ⟨_,_,_,_,o,_,_,e,_⟩:=x;exact Heap.lt_size e
 | dT kvs=>obtain ⟨_,_,_,_,o,_,_,e,_⟩:=x;exact Heap.lt_size e
 | set S n=>obtain ⟨o,_,_,_,e,_⟩:=x;exact Heap.lt_size e
 | ins C dx fs=>obtain ⟨_,_,_,e,_⟩:=x;exact Heap.lt_size e
 | own y=>obtain ⟨_,e⟩:=x;exact Heap.lt_size e
 | xd fs=>obtain ⟨_,⟨_,_,_,e,_⟩,_⟩:=x;exact Heap.lt_size e
 | rng lo hi=>obtain ⟨_,_,_,e⟩:=x;exact Heap.lt_size e
 | frz ob u=>obtain ⟨e,_⟩:=x;exact Heap.lt_size e
 | tbl ps=>exact Heap.lt_size (show h.get? a=some _ from x)
 | met f y=>exact Heap.lt_size (show h.get? a=some _ from x)
 | ext φ=>obtain ⟨_,⟨_,e⟩,_⟩:=x;exact Heap.lt_size e
theorem Paired.mapP {α β:Type} {F G:α→β→Prop}:∀ {l₁:List α} {l₂:List β},Paired F l₁ l₂→(∀ a b,F a b→G a b)→Paired G l₁ l₂
 | _,_,.nil,_=>.nil
 | _,_,.cons r t,f=>.cons (f _ _ r) (Paired.mapP t f)
theorem Bd.stay (x:Bd P w H h a o) (k:∀ b u,(b=a∨H b=some (.own a))→h.get? b=some u→h'.get? b=some u)
  (ho:∀ b,H b=some (.own a)→H' b=some (.own a)) (ht:∀ b xs,H b=some (.tup xs)→H' b=some (.tup xs)):Bd P w H' h' a o:=by
 induction o with
 | lst xs=>obtain ⟨z,its,n,r,e⟩:=x;exact ⟨z,its,n,r,k _ _ (.inl rfl) e⟩
 | tup xs=>obtain ⟨⟨z,oz,ez,dz⟩,its,r,ob,e,c⟩:=x;exact ⟨⟨z,oz,k _ _ (.inl rfl) ez,dz⟩,its,r,ob,k _ _ (.inl rfl) e,c⟩
 | dK kvs=>obtain ⟨z,y,vs,r,ob,es,ep,e,c⟩:=x;exact ⟨z,y,vs,r,ob,es,ep,k _ _ (.inl rfl) e,c⟩
 | dT kvs=>
  obtain ⟨z,y,xs,r,ob,es,ep,e,c⟩:=x;exact ⟨z,y,xs,Paired.mapP r fun p q z=>⟨z.1,ht _ _ z.2.1,z.2.2⟩,ob,es,ep,k _ _ (.inl rfl) e,c⟩
 | set S n=>obtain ⟨ob,es,ep,t,e,c⟩:=x;exact ⟨ob,es,ep,t,k _ _ (.inl rfl) e,c⟩
 | ins C dx fs=>
  obtain ⟨d,z,ne,e,mA,⟨od,es,ep,e2,c⟩,r⟩:=x;exact ⟨ho _ d,z,ne,k _ _ (.inl rfl) e,mA,⟨od,es,ep,k _ _ (.inr d) e2,c⟩,r⟩
 | own y=>obtain ⟨ob,e⟩:=x;exact ⟨ob,k _ _ (.inl rfl) e⟩
 | xd fs=>obtain ⟨mA,⟨od,es,ep,e,c⟩,r⟩:=x;exact ⟨mA,⟨od,es,ep,k _ _ (.inl rfl) e,c⟩,r⟩
 | rng lo hi=>obtain ⟨t,u,v,e⟩:=x;exact ⟨t,u,v,k _ _ (.inl rfl) e⟩
 | frz ob u ih=>obtain ⟨e,q⟩:=x;exact ⟨k _ _ (.inl rfl) e,ih q⟩
 | tbl ps=>
  have e:h.get? a=some { cls:=.none,data:=.fields ps }:=x;show h'.get? a=some { cls:=.none,data:=.fields ps };exact k a _ (.inl rfl) e
 | met f y=>
  have e:h.get? a=some (PySem.W.methodObj (.ref f) (.ref y)):=x;show h'.get? a=some (PySem.W.methodObj (.ref f) (.ref y));exact k a _ (.inl rfl) e
 | ext φ=>obtain ⟨p,⟨o,e⟩,st⟩:=x;exact ⟨st _ _ p fun o q=>k _ _ (.inl rfl) q,⟨o,k _ _ (.inl rfl) e⟩,st⟩
theorem HOk.lt (x:HOk P w H h) (e:H a=some o):a < h.objs.size:=(x a o e).lt
theorem HOk.fresh (x:HOk P w H h) (e:h.objs.size ≤ a):H a=none:=by
 cases q:H a with
 | none=>rfl
 | some u=>exact absurd (Nat.lt_of_lt_of_le (x.lt q) e) (Nat.lt_irrefl _)
theorem HOk.kept (x:HOk P w H h) (k:∀ b u,h.get? b=some u→h'.get? b=some u):HOk P w H h':=fun a o e=>
 (x a o e).stay (fun b u _ q=>k b u q) (fun _ q=>q) fun _ _ q=>q
theorem HOk.laid (x:HOk P w H h) (k:∀ b u,h.get? b=some u→h'.get? b=some u) (hp:h.objs.size ≤ a) (new:Bd P w (upd H a o) h' a o):HOk P w (upd H a o) h':=fun b u e=>by
 have hn:=x.fresh hp;by_cases hb:b=a
 ·subst hb;rw [ib] at e;cases e;exact new
 ·rw [Ab hb] at e;exact (x b u e).stay (fun c v _ q=>k c v q) (fun c q=>by rw [Ab (Lb q hn)];exact q) fun c xs q=>by rw [Ab (Lb q hn)];exact q
end
noncomputable def Rd (H:Hp) (a:Addr) (u:HO):Prop:=H a=some u∨∃ o,H a=some (.frz o u)
theorem Rd.of {H:Hp} {a:Addr} {u:HO} (h:H a=some u):Rd H a u:=.inl h
theorem Rd.ok {P:Program} {w:World} {H:Hp} {h:Heap} {a:Addr} {u:HO} (r:Rd H a u) (x:HOk P w H h):Bd P w H h a u:=by
 rcases r with r | ⟨o,r⟩
 ·exact x a u r
 ·obtain ⟨_,q⟩:=x a _ r;exact q
noncomputable def Mut:Option HO→Prop
 | some (.lst _)=>True
 | some (.dK _)=>True
 | some (.dT _)=>True
 | some (.set _ _)=>True
 | some (.ins _ _ _)=>True
 | some (.ext _)=>True
 | _=>False
section
variable {P:Program} {w:World} {H:Hp} {h h':Heap} {x e:Addr} {o':HO}
theorem HOk.write (ok:HOk P w H h) (mu:Mut (H x)) (he:e=x∨H e=some (.own x)) (k:∀ b u,b ≠ e→h.get? b=some u→h'.get? b=some u) (heo:∃ u,h'.get? e=some u)
  (new:Bd P w (upd H x o') h' x o'):HOk P w (upd H x o') h':=fun b u q=>by
 have nown:∀ c y,H c=some (.own y)→c ≠ x:=fun c y r z=>by subst z;rw [r] at mu;exact mu
 have ntup:∀ c xs,H c=some (.tup xs)→c ≠ x:=fun c xs r z=>by subst z;rw [r] at mu;exact mu
 by_cases hb:b=x
 ·subst hb;rw [ib] at q;cases q;exact new
 ·rw [Ab hb] at q;by_cases hbe:b=e
  ·have q':H b=some (.own x):=by
    rcases he with z | z
    ·exact absurd (hbe.trans z) hb
    ·rw [hbe];exact z
   rw [q] at q';cases q';obtain ⟨v,hv⟩:=heo;exact ⟨v,by rw [hbe];exact hv⟩
  ·refine (ok b u q).stay (fun c v hc r=>k c v ?_ r) (fun c r=>by rw [Ab (nown c b r)];exact r) fun c xs r=>by rw [Ab (ntup c xs r)];exact r
   rcases hc with rfl | hc
   ·exact hbe
   ·rintro rfl;rcases he with z | z
    ·exact nown c b hc z
    ·rw [hc] at z;cases z;exact hb rfl
end
structure Un (fs ex:List Addr) (H H':Hp) (h h':Heap):Prop where
 keep:∀ b o,h.get? b=some o→H b=none→b ∉ fs→b ∉ ex→h'.get? b=some o
 slot:∀ b o,h.get? b=some o→H b=none→b ∈ fs→b ∉ ex→∃ sl,h'.get? b=some { o with slots:=sl }
 free:∀ b o,h.get? b=some o→H b=none→b ∉ ex→H' b=none
 there:∀ b o,h.get? b=some o→b ∉ ex→∃ o',h'.get? b=some o'
 tups:∀ b xs,H b=some (.tup xs)→H' b=some (.tup xs)
 frzs:∀ b o u,H b=some (.frz o u)→H' b=some (.frz o u)
 tbls:∀ b ps,H b=some (.tbl ps)→∃ more,H' b=some (.tbl (ps ++ more))
section
variable {fs fs' ex ex':List Addr} {H H1 H2:Hp} {h h1 h2 h':Heap} {a x e:Addr} {o:HO}
theorem Un.any (u:Un fs ex H H1 h h1) {b:Addr} {ob:Obj} (q:h.get? b=some ob) (n:H b=none) (hx:b ∉ ex):∃ sl,h1.get? b=some { ob with slots:=sl }:=by
 by_cases hb:b ∈ fs
 ·exact u.slot b ob q n hb hx
 ·exact ⟨ob.slots,u.keep b ob q n hb hx⟩
theorem Un.trans (a:Un fs ex H H1 h h1) (b:Un fs ex H1 H2 h1 h2):Un fs ex H H2 h h2 where
 keep:=fun c ob q n hc hx=>b.keep c ob (a.keep c ob q n hc hx) (a.free c ob q n hx) hc hx
 slot:=fun c ob q n hc hx=>by
  obtain ⟨sl,e1⟩:=a.slot c ob q n hc hx;obtain ⟨sl',e2⟩:=b.slot c _ e1 (a.free c ob q n hx) hc hx;exact ⟨sl',e2⟩
 free:=fun c ob q n hx=>by
  obtain ⟨o',e1⟩:=a.there c ob q hx;exact b.free c o' e1 (a.free c ob q n hx) hx
 there:=fun c ob q hx=>by
  obtain ⟨o',e1⟩:=a.there c ob q hx;exact b.there c o' e1 hx
 tups:=fun c xs q=>b.tups c xs (a.tups c xs q)
 frzs:=fun c ob xs q=>b.frzs c ob xs (a.frzs c ob xs q)
 tbls:=fun c ps q=>by
  obtain ⟨m1,e1⟩:=a.tbls c ps q;obtain ⟨m2,e2⟩:=b.tbls c _ e1;exact ⟨m1 ++ m2,by rw [e2,Array.append_assoc]⟩
theorem Un.kept (k:∀ b u,h.get? b=some u→h'.get? b=some u):Un fs ex H H h h':=
 ⟨fun b ob q _ _ _=>k b ob q,fun b ob q _ _ _=>⟨ob.slots,k b ob q⟩,fun _ _ _ n _=>n,fun b ob q _=>⟨ob,k b ob q⟩,fun _ _ q=>q,fun _ _ _ q=>q,fun _ ps q=>⟨#[],by rw [q];simp⟩⟩
theorem Un.refl:Un fs ex H H h h:=Un.kept fun _ _ q=>q
theorem Un.laid (k:∀ b u,h.get? b=some u→h'.get? b=some u) (hp:h.objs.size ≤ a) (hn:H a=none):Un fs ex H (upd H a o) h h' where
 keep:=fun b u q _ _ _=>k b u q
 slot:=fun b u q _ _ _=>⟨u.slots,k b u q⟩
 free:=fun b u q n _=>by rw [Ab (Nat.ne_of_lt (Nat.lt_of_lt_of_le (Heap.lt_size q) hp))];exact n
 there:=fun b u q _=>⟨u,k b u q⟩
 tups:=fun b xs q=>by rw [Ab (Lb q hn)];exact q
 frzs:=fun b u xs q=>by rw [Ab (Lb q hn)];exact q
 tbls:=fun b ps q=>⟨#[],by rw [Ab (Lb q hn),q];simp⟩
theorem Un.write (mu:Mut (H x)) (he:e=x∨H e=some (.own x)) (k:∀ b u,b ≠ e→h.get? b=some u→h'.get? b=some u) (heo:∃ u,h'.get? e=some u):Un fs ex H (upd H x o) h h':=by
 have hx:∀ b,H b=none→b ≠ x:=fun b n z=>by subst z;rw [n] at mu;exact mu
 have hb:∀ b,H b=none→b ≠ e:=fun b n z=>by
  subst z;rcases he with r | r
  ·exact hx b n r
  ·rw [n] at r;cases r
 have hm:∀ b u,H b=some u→¬ Mut (some u)→b ≠ x:=fun b u q nm z=>by subst z;rw [q] at mu;exact nm mu
 refine ⟨fun b u q n _ _=>k b u (hb b n) q,fun b u q n _ _=>⟨u.slots,k b u (hb b n) q⟩,fun b u q n _=>by rw [Ab (hx b n)];exact n,fun b u q _=>?_,
  fun b xs q=>by rw [Ab (hm b _ q fun z=>z)];exact q,fun b u xs q=>by rw [Ab (hm b _ q fun z=>z)];exact q,fun b ps q=>⟨#[],by rw [Ab (hm b _ q fun z=>z),q];simp⟩⟩
 by_cases hbe:b=e
 ·subst hbe;exact heo
 ·exact ⟨u,k b u hbe q⟩
theorem Un.mono (u:Un fs ex H H1 h h1) (hs:∀ b ∈ fs,b ∈ fs') (hx:∀ b ∈ ex,b ∈ ex'):Un fs' ex' H H1 h h1:=
 ⟨fun b ob q n hb he=>u.keep b ob q n (fun z=>hb (hs b z)) fun z=>he (hx b z),fun _ _ q n _ he=>u.any q n fun z=>he (hx _ z),fun b ob q n he=>u.free b ob q n fun z=>he (hx b z),fun b ob q he=>u.there b ob q fun z=>he (hx b z),u.tups,u.frzs,u.tbls⟩
end
noncomputable def trk (h:Heap) (H:Hp):List Addr:=(List.range h.objs.size).filter fun a=>(H a).isSome
noncomputable def NG (h:Heap) (H:Hp):Heap:=PySem.W.hideAll h (trk h H)
theorem OE (h:Heap) (H:Hp):(NG h H).objs.size=h.objs.size:=PySem.W.hideAll_size _ _
theorem MH {h:Heap} {H:Hp} {b:Addr} {o:Obj} (e:h.get? b=some o) (n:H b=none):(NG h H).get? b=some o:=
 PySem.W.hideAll_get _ e fun hm=>by
  have q:(H b).isSome=true:=(List.mem_filter.mp hm).2;rw [n] at q;simp at q
theorem BL {h:Heap} {H:Hp} {b:Addr} {o:Obj} (e:(NG h H).get? b=some o):h.get? b=some o∧H b=none:=by
 have e':h.get? b=some o:=PySem.W.of_hideAll (trk h H) e;refine ⟨e',?_⟩;cases q:H b with
 | none=>rfl
 | some x=>
  have hm:b ∈ trk h H:=List.mem_filter.mpr ⟨List.mem_range.mpr (Heap.lt_size e'),by simp [q]⟩;have z:(NG h H).get? b=none:=PySem.W.hideAll_none (trk h H) hm;rw [z] at e;cases e
noncomputable def UJ (g h:Heap) (L:Addr):List (Addr × Obj):=(List.range h.objs.size).filterMap fun a=>if a=L∨(g.get? a).isSome=true then none else (h.get? a).map fun o=>(a,o)
noncomputable def Tx (g h:Heap) (L d:Addr):List (Addr × Obj):=(UJ g h L).filter fun p=>decide (p.1 ≠ d)
end L2
namespace L2
open PySem PySem.Spec PyProof.Rows
structure Mod (K:PySem.W.Frag) (mg:Str→Option Value) (base:Heap):Prop where
 kin:K.In base
 glob:base.Ns mainGlobals mg
 blt:∃ mb,base.Ns builtinsNs mb∧∀ x:Str,x ≠ "__name__" → mb x=bootBuiltins x
 nolimit:base.NoLimit
structure Cx where
 prog:Program
 w:World
 K:PySem.W.Frag
 mg:Str→Option Value
 base:Heap
 A:Around
 N:List Str
 s₀:Shared
 H₀:Hp
 env:Env
 outer:List Env
 stack:List Env
 ex:List Addr
 fn:Str→Bool
 calm:Bool
 pn:List (Addr × Obj)
 xe:Value→Shared→Prop
noncomputable def frs (l:List Env):List Addr:=l.filterMap (·.frame)
noncomputable abbrev Cx.fs (X:Cx):List Addr:=frs X.outer
noncomputable def Vis (sc:Scope) (x:Str):Prop:=sc.names.lookup x=some .local∨sc.names.lookup x=some .cell∨sc.names.lookup x=some .free
noncomputable def Loc (sc:Scope) (x:Str):Prop:=sc.names.lookup x=some .local∨sc.names.lookup x=some .cell
noncomputable def PP (env:Env) (h:Heap) (m:Str→Option Value) (x:Str) (u:Value):Prop:=
 (env.kindOf x=some .local∧m x=some u)∨((env.kindOf x=some .cell∨env.kindOf x=some .free)∧∃ c,env.cells.lookup x=some c∧h.IsCell c (some u))
structure Cx.Ok (X:Cx):Prop where
 mod:Mod X.K X.mg X.base
 kind:X.env.scope.kind=.function
 glob:X.env.globals=mainGlobals
 blt:X.env.builtins=builtinsNs
 above:X.s₀.heap.objs.size ≤ X.env.locals
 inj:∀ x y c,X.env.cells.lookup x=some c→X.env.cells.lookup y=some c→x=y
 has:∀ x,(X.env.kindOf x=some .cell∨X.env.kindOf x=some .free)→∃ c,X.env.cells.lookup x=some c
 cab:∀ x c,X.fn x=true→X.env.cells.lookup x=some c→X.s₀.heap.objs.size ≤ c
 hd:X.calm=true→X.A.handled=none
 frames:X.A.frames=some X.stack
 stk:X.stack=X.outer∨(X.stack=X.env :: X.outer∧X.env.frame=some X.env.locals)
 exf:∀ b ∈ X.ex,b ≠ X.env.locals∧∀ x c,X.env.cells.lookup x=some c→c ≠ b
 bs:∀ b o,X.base.get? b=some o→X.s₀.heap.get? b=some o∧X.H₀ b=none
 bsz:X.base.objs.size ≤ X.s₀.heap.objs.size
 noex:∀ b o,X.base.get? b=some o→b ∉ X.ex
 exfs:∀ b ∈ X.ex,b ∉ X.fs
 funs:X.s₀.heap.FunFrames X.base X.outer
 frf:∀ b ∈ X.fs,X.H₀ b=none
structure Inv (X:Cx) (pins:List (Addr × Obj)) (σ:List (Option V)) (H:Hp) (s:Shared):Prop where
 ok:X.Ok
 os:s.os=X.s₀.os
 bare:AllBare s.gens
 base:Un X.fs X.ex X.H₀ H X.s₀.heap s.heap
 loc:∃ m,s.heap.Ns X.env.locals m∧∀ (i:Nat) (x:Str) (v:V),X.N[i]? = some x→σ[i]? = some (some v)→Vis X.env.scope x→∃ u,zd v u∧PP X.env s.heap m x u
 cell:∀ x c,X.env.cells.lookup x=some c→∃ v,s.heap.IsCell c v
 free:H X.env.locals=none
 freeC:∀ x c,X.env.cells.lookup x=some c→H c=none
 pin:∀ p ∈ X.pn ++ pins,s.heap.get? p.1=some p.2∧H p.1=none∧p.1 ≠ X.env.locals∧p.1 ∉ X.fs∧∀ v,p.2.data ≠ .cell v
 hok:HOk X.prog X.w H s.heap
 len:σ.length=X.N.length
section
variable {X:Cx} {pins:List (Addr × Obj)} {σ:List (Option V)} {H H':Hp} {s:Shared} {h':Heap}
theorem Cx.Ok.nofr (ok:X.Ok) {b:Addr} {o:Obj} (e:X.base.get? b=some o):b ∉ X.fs:=fun hb=>by
 have:=(ok.funs.mem hb).1;rw [e] at this;cases this
theorem Inv.bs (I:Inv X pins σ H s):∀ b o,X.base.get? b=some o→s.heap.get? b=some o∧H b=none:=fun b o e=>
 ⟨I.base.keep b o (I.ok.bs b o e).1 (I.ok.bs b o e).2 (I.ok.nofr e) (I.ok.noex b o e),I.base.free b o (I.ok.bs b o e).1 (I.ok.bs b o e).2 (I.ok.noex b o e)⟩
theorem Inv.bk (I:Inv X pins σ H s):∀ b o,X.base.get? b=some o→s.heap.get? b=some o:=fun b o e=>(I.bs b o e).1
theorem Inv.mod (I:Inv X pins σ H s):Mod X.K X.mg X.base:=I.ok.mod
theorem Inv.kIn (I:Inv X pins σ H s):X.K.In s.heap:=I.ok.mod.kin.keeps I.bk
theorem Inv.nolimit (I:Inv X pins σ H s):s.heap.NoLimit:=I.ok.mod.nolimit.keeps I.bk
theorem Inv.fr (I:Inv X pins σ H s):∃ m,Fr X.base X.env.locals s.heap m:=
 let ⟨m,hn,_⟩:=I.loc
 ⟨m,hn,I.bk,Nat.le_trans I.ok.bsz I.ok.above⟩
theorem Inv.lt (I:Inv X pins σ H s):X.env.locals < s.heap.objs.size:=let ⟨_,hn,_⟩:=I.loc;hn.lt
theorem Inv.sz (I:Inv X pins σ H s):X.s₀.heap.objs.size ≤ s.heap.objs.size:=Nat.le_trans I.ok.above (Nat.le_of_lt I.lt)
theorem Inv.nofs (I:Inv X pins σ H s) {a:Addr} (h:s.heap.objs.size ≤ a):a ∉ X.fs:=fun hb=>by
 obtain ⟨_,o,ho,_⟩:=I.ok.funs.mem hb;exact absurd (Nat.lt_of_lt_of_le (Heap.lt_size ho) (Nat.le_trans I.sz h)) (Nat.lt_irrefl _)
theorem Inv.cne (I:Inv X pins σ H s):∀ x c,X.env.cells.lookup x=some c→c ≠ X.env.locals:=fun x c e z=>by
 obtain ⟨v,o,ho,hd⟩:=I.cell x c e;obtain ⟨m,⟨o',es,ep,ho',hd',_⟩,_⟩:=I.loc;rw [z,ho'] at ho;cases ho;rw [hd'] at hd;cases hd
theorem Inv.funs (I:Inv X pins σ H s):s.heap.FunFrames X.base X.outer:=by
 have all:∀ (l:List Env),(∀ b ∈ frs l,b ∈ X.fs)→X.s₀.heap.FunFrames X.base l→s.heap.FunFrames X.base l:=by
  intro l
  induction l with
  | nil=>intro _ _;trivial
  | cons env r ih=>
   intro hs hl;obtain ⟨hk,⟨L,o,hf,hn,ho,hd⟩,hr⟩:=hl;have hL:L ∈ X.fs:=hs L (by unfold frs;rw [List.filterMap_cons,hf];exact List.mem_cons_self);obtain ⟨sl,e⟩:=I.base.slot L o ho (I.ok.frf L hL) hL fun z=>I.ok.exfs L z hL
   exact ⟨hk,⟨L,_,hf,hn,e,hd⟩,ih (fun b hb=>hs b (by unfold frs;rw [List.filterMap_cons,hf];exact List.mem_cons_of_mem _ hb)) hr⟩
 exact all X.outer (fun _ hb=>hb) I.ok.funs
theorem Inv.stack (I:Inv X pins σ H s):s.heap.FunFrames X.base X.stack:=by
 rcases I.ok.stk with e | ⟨e,hf⟩
 ·rw [e];exact I.funs
 ·rw [e];obtain ⟨m,hn,_⟩:=I.loc;refine .cons (by rw [I.ok.kind];decide) hf hn ?_ I.funs;exact Heap.get?_none_of_le (Nat.le_trans I.ok.bsz I.ok.above)
theorem Inv.stkSub (I:Inv X pins σ H s):∀ b ∈ frs X.stack,b ∈ X.env.locals :: X.fs:=fun b hb=>by
 rcases I.ok.stk with e | ⟨e,hf⟩
 ·rw [e] at hb;exact List.mem_cons_of_mem _ hb
 ·rw [e] at hb;unfold frs at hb;rw [List.filterMap_cons,hf] at hb;exact hb
theorem Inv.stkFree (I:Inv X pins σ H s):∀ b ∈ frs X.stack,H b=none:=fun b hb=>by
 rcases List.mem_cons.mp (I.stkSub b hb) with e | hb
 ·rw [e];exact I.free
 ·obtain ⟨_,o,ho,_⟩:=I.ok.funs.mem hb;exact I.base.free b o ho (I.ok.frf b hb) fun z=>I.ok.exfs b z hb
theorem Inv.step {g':Array GenState} {t':Nat} {d':Drawn} {ch:List Addr} (I:Inv X pins σ H s)
  (hch:∀ b ∈ ch,(b ∈ X.ex∨X.s₀.heap.objs.size ≤ b)∧b ≠ X.env.locals∧(∀ x c,X.env.cells.lookup x=some c→c ≠ b)∧∀ p ∈ X.pn ++ pins,p.1 ≠ b)
  (keep:∀ b o,b ≠ X.env.locals→b ∉ X.fs→b ∉ ch→s.heap.get? b=some o→H b=none→h'.get? b=some o)
  (slot:∀ b o,b ≠ X.env.locals→b ∈ X.fs→b ∉ ch→s.heap.get? b=some o→H b=none→∃ sl,h'.get? b=some { o with slots:=sl }) (free:∀ b o,b ∉ ch→s.heap.get? b=some o→H b=none→H' b=none)
  (there:∀ b o,b ∉ ch→s.heap.get? b=some o→∃ o',h'.get? b=some o')
  (tups:∀ b xs,H b=some (.tup xs)→H' b=some (.tup xs)) (frzs:∀ b o u,H b=some (.frz o u)→H' b=some (.frz o u)) (tbls:∀ b ps,H b=some (.tbl ps)→∃ more,H' b=some (.tbl (ps ++ more)))
  (ns:∀ m,s.heap.Ns X.env.locals m→h'.Ns X.env.locals m) (hok:HOk X.prog X.w H' h') (hg:AllBare g') :
  Inv X pins σ H' { s with heap:=h',gens:=g',drawn:=d',toks:=t' }:=by
 have neL:∀ b o,X.s₀.heap.get? b=some o→b ≠ X.env.locals:=fun b o e=>Nat.ne_of_lt (Nat.lt_of_lt_of_le (Heap.lt_size e) I.ok.above)
 have neC:∀ b o,X.s₀.heap.get? b=some o→b ∉ X.ex→b ∉ ch:=fun b o e hx hb=>by
  rcases (hch b hb).1 with z | z
  ·exact hx z
  ·exact absurd (Nat.lt_of_lt_of_le (Heap.lt_size e) z) (Nat.lt_irrefl _)
 have cellK:∀ x c,X.env.cells.lookup x=some c→∀ v,s.heap.IsCell c v→h'.IsCell c v:=fun x c e v ⟨o,ho,hd⟩=>by
  have nch:c ∉ ch:=fun z=>(hch c z).2.2.1 x c e rfl
  by_cases hc:c ∈ X.fs
  ·obtain ⟨sl,q⟩:=slot c o (I.cne x c e) hc nch ho (I.freeC x c e);exact ⟨_,q,hd⟩
  ·exact ⟨o,keep c o (I.cne x c e) hc nch ho (I.freeC x c e),hd⟩
 refine ⟨I.ok,I.os,hg,⟨fun b o e n hb hx=>?_,fun b o e n hb hx=>?_,fun b o e n hx=>?_,fun b o e hx=>?_,fun b xs e=>tups b xs (I.base.tups b xs e),fun b o xs e=>frzs b o xs (I.base.frzs b o xs e),fun b ps e=>?_⟩,?_,fun x c e=>?_,?_,fun x c e=>?_,fun p hp=>?_,hok,I.len⟩
 ·exact keep b o (neL b o e) hb (neC b o e hx) (I.base.keep b o e n hb hx) (I.base.free b o e n hx)
 ·obtain ⟨sl,e1⟩:=I.base.slot b o e n hb hx;obtain ⟨sl',e2⟩:=slot b _ (neL b o e) hb (neC b o e hx) e1 (I.base.free b o e n hx);exact ⟨sl',e2⟩
 ·obtain ⟨o',e1⟩:=I.base.there b o e hx;exact free b o' (neC b o e hx) e1 (I.base.free b o e n hx)
 ·obtain ⟨o',e1⟩:=I.base.there b o e hx;exact there b o' (neC b o e hx) e1
 ·obtain ⟨m1,e1⟩:=I.base.tbls b ps e;obtain ⟨m2,e2⟩:=tbls b _ e1;exact ⟨m1 ++ m2,by rw [e2,Array.append_assoc]⟩
 ·obtain ⟨m,hn,hl⟩:=I.loc;refine ⟨m,ns m hn,fun i x v e1 e2 e3=>?_⟩;obtain ⟨u,r,l⟩:=hl i x v e1 e2 e3;refine ⟨u,r,?_⟩;rcases l with l | ⟨k,c,e,z⟩
  ·exact .inl l
  ·exact .inr ⟨k,c,e,cellK x c e _ z⟩
 ·obtain ⟨v,z⟩:=I.cell x c e;exact ⟨v,cellK x c e v z⟩
 ·obtain ⟨m,⟨o,_,_,ho,_⟩,_⟩:=I.loc;exact free _ o (fun z=>(hch _ z).2.1 rfl) ho I.free
 ·obtain ⟨v,o,ho,hd⟩:=I.cell x c e;exact free c o (fun z=>(hch c z).2.2.1 x c e rfl) ho (I.freeC x c e)
 ·obtain ⟨e,n,ne,nf,d⟩:=I.pin p hp;have nch:p.1 ∉ ch:=fun z=>(hch p.1 z).2.2.2 p hp rfl
  exact ⟨keep p.1 p.2 ne nf nch e n,free p.1 p.2 nch e n,ne,nf,d⟩
theorem Inv.un {t':Nat} (I:Inv X pins σ H s) (u:Un X.fs [] H H' s.heap h') (hok:HOk X.prog X.w H' h'):Inv X pins σ H' { s with heap:=h',toks:=t' }:=by
 obtain ⟨m,⟨o,es,ep,ho,r⟩,_⟩:=id I.loc;obtain ⟨sl,hL⟩:=u.any ho I.free (by simp);exact I.step (g':=s.gens) (d':=s.drawn) (ch:=[]) (fun _ z=>nomatch z) (fun b o _ hb _ e n=>u.keep b o e n hb (by simp)) (fun b o _ hb _ e n=>u.slot b o e n hb (by simp)) (fun b o _ e n=>u.free b o e n (by simp)) (fun b o _ e=>u.there b o e (by simp)) u.tups u.frzs u.tbls (fun m' hm=>by
  obtain ⟨o',es',ep',ho',r'⟩:=hm;rw [ho] at ho';cases ho';exact ⟨_,es',ep',hL,r'⟩) hok I.bare
theorem Inv.call {g':Array GenState} {t':Nat} {d':Drawn} {ch:List Addr} (I:Inv X pins σ H s) (u:Un (frs X.stack) ch H H' s.heap h') (hok:HOk X.prog X.w H' h') (hg:AllBare g')
  (hch:∀ b ∈ ch,(b ∈ X.ex∨X.s₀.heap.objs.size ≤ b)∧b ≠ X.env.locals∧(∀ x c,X.env.cells.lookup x=some c→c ≠ b)∧∀ p ∈ X.pn ++ pins,p.1 ≠ b) :
  Inv X pins σ H' { s with heap:=h',gens:=g',drawn:=d',toks:=t' }:=by
 obtain ⟨m,⟨o,es,ep,ho,r⟩,_⟩:=id I.loc;obtain ⟨sl,hL⟩:=u.any ho I.free fun z=>(hch _ z).2.1 rfl
 exact I.step (ch:=ch) hch (fun b o hL hb hc e n=>u.keep b o e n (fun z=>(List.mem_cons.mp (I.stkSub b z)).elim hL hb) hc) (fun b o _ _ hc e n=>u.any e n hc) (fun b o hc e n=>u.free b o e n hc) (fun b o hc e=>u.there b o e hc) u.tups u.frzs u.tbls (fun m' hm=>by
  obtain ⟨o',es',ep',ho',r'⟩:=hm;rw [ho] at ho';cases ho';exact ⟨_,es',ep',hL,r'⟩) hok hg
theorem Inv.turned {t':Nat} {it:Addr} (I:Inv X pins σ H s) (k:∀ b o,b ≠ it→s.heap.get? b=some o→h'.get? b=some o) (hn:H it=none) (hL:it ≠ X.env.locals)
  (h1:it ∈ X.ex∨X.s₀.heap.objs.size ≤ it) (h2:∀ x c,X.env.cells.lookup x=some c→c ≠ it) (h3:∀ p ∈ X.pn ++ pins,p.1 ≠ it):Inv X pins σ H { s with heap:=h',toks:=t' }:=by
 have nit:∀ b u,H b=some u→b ≠ it:=fun b u e z=>by rw [z,hn] at e;cases e
 refine I.step (g':=s.gens) (d':=s.drawn) (ch:=[it]) (fun b hb=>?_) (fun b o _ _ hc e _=>k b o (fun z=>hc (by simp [z])) e) (fun b o _ _ hc e _=>⟨o.slots,k b o (fun z=>hc (by simp [z])) e⟩) (fun _ _ _ _ n=>n)
  (fun b o hc e=>⟨o,k b o (fun z=>hc (by simp [z])) e⟩) (fun _ _ e=>e) (fun _ _ _ e=>e) (fun b ps e=>⟨#[],by rw [e];simp⟩) (fun m hm=>?_) (fun b u e=>?_) I.bare
 ·have e:b=it:=by simpa using hb
  subst e;exact ⟨h1,hL,h2,h3⟩
 ·obtain ⟨o,es,ep,ho,r⟩:=hm;exact ⟨o,es,ep,k _ o (Ne.symm hL) ho,r⟩
 ·refine (I.hok b u e).stay (fun c v hc q=>k c v ?_ q) (fun _ q=>q) fun _ _ q=>q
  rcases hc with z | z
  ·rw [z];exact nit b u e
  ·exact nit c _ z
theorem Inv.tok (I:Inv X pins σ H s) (t:Nat):Inv X pins σ H { s with toks:=t }:=I.un (h':=s.heap) (t':=t) Un.refl I.hok
theorem Inv.kept {t':Nat} (I:Inv X pins σ H s) (k:∀ b u,s.heap.get? b=some u→h'.get? b=some u):Inv X pins σ H { s with heap:=h',toks:=t' }:=I.un (Un.kept k) (I.hok.kept k)
theorem Inv.laid {a:Addr} {o:HO} {t':Nat} (I:Inv X pins σ H s) (k:∀ b u,s.heap.get? b=some u→h'.get? b=some u) (hp:s.heap.objs.size ≤ a) (new:Bd X.prog X.w (upd H a o) h' a o) :
  Inv X pins σ (upd H a o) { s with heap:=h',toks:=t' }:=I.un (Un.laid k hp (I.hok.fresh hp)) (I.hok.laid k hp new)
theorem Inv.write {x e:Addr} {o:HO} {t':Nat} (I:Inv X pins σ H s) (mu:Mut (H x)) (he:e=x∨H e=some (.own x)) (k:∀ b u,b ≠ e→s.heap.get? b=some u→h'.get? b=some u) (heo:∃ u,h'.get? e=some u)
  (new:Bd X.prog X.w (upd H x o) h' x o):Inv X pins σ (upd H x o) { s with heap:=h',toks:=t' }:=I.un (Un.write mu he k heo) (I.hok.write mu he k heo new)
theorem Inv.weak {σ':List (Option V)} (I:Inv X pins σ H s) (hl:σ'.length=σ.length) (w:∀ (i:Nat) v,σ'[i]? = some (some v)→σ[i]? = some (some v)):Inv X pins σ' H s:=
 ⟨I.ok,I.os,I.bare,I.base,let ⟨m,hn,hl'⟩:=I.loc;⟨m,hn,fun i x v e1 e2 e3=>hl' i x v e1 (w i v e2) e3⟩,I.cell,I.free,I.freeC,I.pin,I.hok,hl.trans I.len⟩
theorem Inv.pins_of {pins':List (Addr × Obj)} (I:Inv X pins σ H s) (h:∀ p ∈ pins',s.heap.get? p.1=some p.2∧H p.1=none∧p.1 ≠ X.env.locals∧p.1 ∉ X.fs∧∀ v,p.2.data ≠ .cell v):Inv X pins' σ H s:=
 ⟨I.ok,I.os,I.bare,I.base,I.loc,I.cell,I.free,I.freeC,fun p hp=>(List.mem_append.mp hp).elim (fun z=>I.pin p (List.mem_append_left _ z)) (h p),I.hok,I.len⟩
theorem Az {N:List Str} (hN:N.Nodup) {i j:Nat} {x:Str} (a:N[i]? = some x) (b:N[j]? = some x):i=j:=by
 obtain ⟨h1,e1⟩:=List.getElem?_eq_some_iff.mp a;obtain ⟨h2,e2⟩:=List.getElem?_eq_some_iff.mp b;exact (List.getElem_inj hN).mp (e1.trans e2.symm)
theorem Bw {M:Model} {A:Around} {E:Value→Shared→Prop} {i:Nat} {x:Str} {v:V} {u:Value} {Q:Unit→Shared→Prop} (I:Inv X pins σ H s) (hN:X.N.Nodup) (hi:X.N[i]? = some x) (hx:Loc X.env.scope x) (r:zd v u)
  (h:∀ s',Inv X pins (σ.set i (some v)) H s'→(∃ a,Heap.SameBut a s.heap s'.heap∧(a=X.env.locals∨X.env.cells.lookup x=some a))→Q () s') (hf:X.fn x=true∨X.env.scope.names.lookup x=some .local:=by first | exact .inl rfl | exact .inr rfl | assumption):wpAny M A (storeName X.env x u) Q E s:=by
 obtain ⟨m,hn,hl⟩:=id I.loc;have hcls:(X.env.scope.kind == .class || (X.env.scope.kind == .module && X.env.locals != X.env.globals))=false:=by rw [I.ok.kind];rfl
 have hiσ:i < σ.length:=by rw [I.len];exact (List.getElem?_eq_some_iff.mp hi).1
 have cne:=I.cne;have tracked:∀ {a:Addr} {h':Heap},(∃ o,s.heap.get? a=some o∧H a=none)→Heap.SameBut a s.heap h'→HOk X.prog X.w H h':=fun {a h'} ha hs b ob e=>by
  obtain ⟨_,_,hfree⟩:=ha;refine (I.hok b ob e).stay (fun c w' hc q=>(hs.2 c ?_).trans q) (fun _ q=>q) fun _ _ q=>q
  rintro rfl;rcases hc with rfl | hc
  ·rw [hfree] at e;cases e
  ·rw [hfree] at hc;cases hc
 rcases hx with hk | hk
 ·refine wpAny_storeName_local hk hn (fun h' hn' hs=>?_) hcls;obtain ⟨oL,_,_,hoL,_⟩:=id hn;refine h _ ⟨I.ok,I.os,I.bare,⟨fun b o e n hb hx=>?_,fun b o e n hb hx=>?_,I.base.free,fun b o e hx=>?_,I.base.tups,I.base.frzs,I.base.tbls⟩,⟨_,hn',fun j y v' e1 e2 e3=>?_⟩,fun y c e=>?_,I.free,I.freeC,fun p hp=>?_,tracked ⟨oL,hoL,I.free⟩ hs,by simpa using I.len⟩ ⟨_,hs,.inl rfl⟩
  ·exact (hs.2 b (Nat.ne_of_lt (Nat.lt_of_lt_of_le (Heap.lt_size e) I.ok.above))).trans (I.base.keep b o e n hb hx)
  ·obtain ⟨sl,e1⟩:=I.base.slot b o e n hb hx;exact ⟨sl,(hs.2 b (Nat.ne_of_lt (Nat.lt_of_lt_of_le (Heap.lt_size e) I.ok.above))).trans e1⟩
  ·obtain ⟨o',e1⟩:=I.base.there b o e hx;exact ⟨o',(hs.2 b (Nat.ne_of_lt (Nat.lt_of_lt_of_le (Heap.lt_size e) I.ok.above))).trans e1⟩
  ·by_cases hj:j=i
   ·subst hj;rw [hi] at e1;cases e1;rw [List.getElem?_set_self hiσ] at e2;cases e2;exact ⟨u,r,.inl ⟨hk,by simp⟩⟩
   ·rw [List.getElem?_set_ne (Ne.symm hj)] at e2;obtain ⟨u',r',q⟩:=hl j y v' e1 e2 e3;refine ⟨u',r',?_⟩;rcases q with ⟨k,e⟩ | ⟨k,c,e,z⟩
    ·refine .inl ⟨k,?_⟩;have:y ≠ x:=fun e=>hj (Az hN e1 (e ▸ hi))
     simp [this,e]
    ·exact .inr ⟨k,c,e,z.sameBut hs (cne y c e)⟩
  ·obtain ⟨w',z⟩:=I.cell y c e;exact ⟨w',z.sameBut hs (cne y c e)⟩
  ·obtain ⟨e,n,ne,nf,d⟩:=I.pin p hp;exact ⟨(hs.2 p.1 ne).trans e,n,ne,nf,d⟩
 ·have hfn:X.fn x=true:=by
   rcases hf with z | z
   ·exact z
   ·rw [z] at hk;cases hk
  obtain ⟨c,hc⟩:=I.ok.has x (.inl hk);obtain ⟨w',z⟩:=I.cell x c hc;refine wpAny_storeName_cell I.ok.kind hk hc z (fun h' hc' hs=>?_);obtain ⟨oc,hoc,hocd⟩:=id z;refine h { s with heap:=h' } ⟨I.ok,I.os,I.bare,⟨fun b o e n hb hx=>?_,fun b o e n hb hx=>?_,I.base.free,fun b o e hx=>?_,I.base.tups,I.base.frzs,I.base.tbls⟩,⟨m,hn.sameBut hs (Ne.symm (cne x c hc)),fun j y v' e1 e2 e3=>?_⟩,fun y c' e=>?_,I.free,I.freeC,fun p hp=>?_,tracked ⟨oc,hoc,I.freeC x c hc⟩ hs,by simpa using I.len⟩ ⟨c,hs,.inr hc⟩
  ·exact (hs.2 b (Nat.ne_of_lt (Nat.lt_of_lt_of_le (Heap.lt_size e) (I.ok.cab x c hfn hc)))).trans (I.base.keep b o e n hb hx)
  ·obtain ⟨sl,e1⟩:=I.base.slot b o e n hb hx;exact ⟨sl,(hs.2 b (Nat.ne_of_lt (Nat.lt_of_lt_of_le (Heap.lt_size e) (I.ok.cab x c hfn hc)))).trans e1⟩
  ·obtain ⟨o',e1⟩:=I.base.there b o e hx;exact ⟨o',(hs.2 b (Nat.ne_of_lt (Nat.lt_of_lt_of_le (Heap.lt_size e) (I.ok.cab x c hfn hc)))).trans e1⟩
  ·by_cases hj:j=i
   ·subst hj;rw [hi] at e1;cases e1;rw [List.getElem?_set_self hiσ] at e2;cases e2;exact ⟨u,r,.inr ⟨.inl hk,c,hc,hc'⟩⟩
   ·rw [List.getElem?_set_ne (Ne.symm hj)] at e2;obtain ⟨u',r',q⟩:=hl j y v' e1 e2 e3;refine ⟨u',r',?_⟩;rcases q with q | ⟨k,c',e,z'⟩
    ·exact .inl q
    ·refine .inr ⟨k,c',e,z'.sameBut hs ?_⟩;rintro rfl;exact hj (Az hN e1 (I.ok.inj _ _ _ e hc ▸ hi))
  ·by_cases hcc:c'=c
   ·subst hcc;exact ⟨_,hc'⟩
   ·obtain ⟨w2,z2⟩:=I.cell y c' e;exact ⟨w2,z2.sameBut hs hcc⟩
  ·obtain ⟨e,n,ne,nf,d⟩:=I.pin p hp;refine ⟨(hs.2 p.1 ?_).trans e,n,ne,nf,d⟩;intro q;rw [q,hoc] at e;have q':oc=p.2:=Option.some.inj e;exact d w' (by rw [← q'];exact hocd)
theorem wv {M:Model} {A:Around} {E:Value→Shared→Prop} {i:Nat} {x:Str} {v:V} {u:Value} {Q:Unit→Shared→Prop} (I:Inv X pins σ H s) (hN:X.N.Nodup) (hi:X.N[i]? = some x) (hx:Loc X.env.scope x) (r:zd v u)
  (h:∀ s',Inv X pins (σ.set i (some v)) H s'→Q () s') (hf:X.fn x=true∨X.env.scope.names.lookup x=some .local:=by first | exact .inl rfl | exact .inr rfl | assumption):wpAny M A (storeName X.env x u) Q E s:=
 Bw I hN hi hx r (fun s' I' _=>h s' I') hf
theorem Inv.call' {s':Shared} {ch:List Addr} (I:Inv X pins σ H s) (ho:s'.os=s.os) (u:Un (frs X.stack) ch H H' s.heap s'.heap) (hok:HOk X.prog X.w H' s'.heap) (hg:AllBare s'.gens)
  (hch:∀ b ∈ ch,(b ∈ X.ex∨X.s₀.heap.objs.size ≤ b)∧b ≠ X.env.locals∧(∀ x c,X.env.cells.lookup x=some c→c ≠ b)∧∀ p ∈ X.pn ++ pins,p.1 ≠ b):Inv X pins σ H' s':=by
 obtain ⟨h',g',d',t',o'⟩:=s';have e:o'=s.os:=ho;subst e;exact I.call (g':=g') (t':=t') (d':=d') u hok hg hch
end
noncomputable abbrev XK:=Value→Option Addr→Hp→Prop
noncomputable abbrev St:=List (Option V)
noncomputable abbrev VK:=V→Hp→Prop
noncomputable abbrev TE:=St→Hp→VK→Prop
noncomputable abbrev TT:=St→Hp→(Bool→Hp→Prop)→Prop
noncomputable abbrev TA:=St→Hp→(List V→Hp→Prop)→Prop
structure Xj where
 nx:St→Hp→Prop
 rt:VK
 bk:St→Hp→Prop:=fun _ _=>False
 ct:St→Hp→Prop:=fun _ _=>False
noncomputable abbrev TS:=Xj→St→Hp→Prop
noncomputable def EP (X:Cx) (pins:List (Addr × Obj)) (σ:St) (Q:VK) (u:Value) (s':Shared):Prop:=∃ v H',Inv X pins σ H' s'∧zd v u∧Q v H'
noncomputable def TP (X:Cx) (pins:List (Addr × Obj)) (σ:St) (Q:Bool→Hp→Prop) (b:Bool) (s':Shared):Prop:=∃ H',Inv X pins σ H' s'∧Q b H'
noncomputable def AP (X:Cx) (pins:List (Addr × Obj)) (σ:St) (Q:List V→Hp→Prop) (us:List Value) (s':Shared):Prop:=∃ vs H',Inv X pins σ H' s'∧pd vs us∧Q vs H'
noncomputable def SP (X:Cx) (pins:List (Addr × Obj)) (D:Xj) (f:Flow) (s':Shared):Prop:=
 match f with
 | .next=>∃ σ' H',Inv X pins σ' H' s'∧D.nx σ' H'
 | .brk=>∃ σ' H',Inv X pins σ' H' s'∧D.bk σ' H'
 | .cont=>∃ σ' H',Inv X pins σ' H' s'∧D.ct σ' H'
 | .ret u=>∃ v σ' H',Inv X pins σ' H' s'∧zd v u∧D.rt v H'
noncomputable def PE (X:Cx) (e:Expr) (t:TE):Prop:=
 ∀ (pins:List (Addr × Obj)) (s:Shared) (σ:St) (H:Hp) (Q:VK),Inv X pins σ H s→t σ H Q→wpAny (model X.prog X.w) X.A (eval e X.env) (EP X pins σ Q) X.xe s
noncomputable def PT (X:Cx) (e:Expr) (t:TT):Prop:=
 ∀ (pins:List (Addr × Obj)) (s:Shared) (σ:St) (H:Hp) (Q:Bool→Hp→Prop),Inv X pins σ H s→t σ H Q→wpAny (model X.prog X.w) X.A (isTrue e X.env (eval e X.env)) (TP X pins σ Q) X.xe s
noncomputable def PW (X:Cx) (e:Expr) (t:TT):Prop:=
 ∀ (whole:Sem Value) (pins:List (Addr × Obj)) (s:Shared) (σ:St) (H:Hp) (Q:Bool→Hp→Prop),Inv X pins σ H s→t σ H Q→wpAny (model X.prog X.w) X.A (isTrue e X.env whole) (TP X pins σ Q) X.xe s
theorem PW.pt {X:Cx} {e:Expr} {t:TT} (h:PW X e t):PT X e t:=h _
noncomputable def PA (X:Cx) (es:List Expr) (t:TA):Prop:=
 ∀ (pos:Pos) (pins:List (Addr × Obj)) (s:Shared) (σ:St) (H:Hp) (Q:List V→Hp→Prop),Inv X pins σ H s→t σ H Q→wpAny (model X.prog X.w) X.A (spliced (backTo pos (starEach es X.env))) (AP X pins σ Q) X.xe s
noncomputable def PS (X:Cx) (st:Stmt) (t:TS):Prop:=
 ∀ (pins:List (Addr × Obj)) (s:Shared) (σ:St) (H:Hp) (D:Xj),Inv X pins σ H s→t D σ H→wpAny (model X.prog X.w) X.A (exec st X.env) (SP X pins D) X.xe s
noncomputable def PSs (X:Cx) (st:List Stmt) (t:TS):Prop:=
 ∀ (pins:List (Addr × Obj)) (s:Shared) (σ:St) (H:Hp) (D:Xj),Inv X pins σ H s→t D σ H→wpAny (model X.prog X.w) X.A (execs st X.env) (SP X pins D) X.xe s
theorem thn {α:Type} {t:Sem α} {Q Q':α→Shared→Prop} {M:Model} {A:Around} {E:Value→Shared→Prop} {s:Shared} (h:wpAny M A t Q E s) (hQ:∀ a s,Q a s→Q' a s):wpAny M A t Q' E s:=wpAny_mono h hQ fun _ _ x=>x
end L2
namespace L2
open PySem PySem.Spec PyProof.Rows
section
variable {X:Cx}
noncomputable def QI (H:Hp) (Q:VK):Option (Option V)→Prop
 | some (some v)=>Q v H
 | _=>False
theorem Uv (H:Hp) (Q:VK) (v:V):QI H Q (some (some v))=Q v H:=rfl
theorem QI.out {H:Hp} {Q:VK}:∀ {o:Option (Option V)},QI H Q o→∃ v,o=some (some v)∧Q v H
 | some (some v),h=>⟨v,rfl,h⟩
 | some none,h=>h.elim
 | none,h=>h.elim
theorem mK (H:Hp) (Q:VK) (o:Option (Option V)):QI H Q o = ∃ v,o=some (some v)∧Q v H:=propext ⟨QI.out,fun ⟨_,e,h⟩=>e ▸ h⟩
noncomputable def Wj (x:V) (k:Int→Prop):Prop:=match x with
 | .int i=>k i
 | _=>False
theorem mz (i:Int) (k:Int→Prop):Wj (.int i) k=k i:=rfl
theorem Wj.out {x:V} {k:Int→Prop} (h:Wj x k):∃ i,x=.int i∧k i:=by
 cases x with
 | int i=>exact ⟨i,rfl,h⟩
 | _=>exact h.elim
theorem JK (x:V) (k:Int→Prop):Wj x k = ∃ i,x=.int i∧k i:=propext ⟨Wj.out,fun ⟨_,e,h⟩=>e ▸ h⟩
noncomputable def BlQ (x:V) (k:Bool→Prop):Prop:=match x with
 | .bl i=>k i
 | _=>False
theorem bJ (i:Bool) (k:Bool→Prop):BlQ (.bl i) k=k i:=rfl
theorem BlQ.out {x:V} {k:Bool→Prop} (h:BlQ x k):∃ i,x=.bl i∧k i:=by
 cases x with
 | bl i=>exact ⟨i,rfl,h⟩
 | _=>exact h.elim
theorem iN (x:V) (k:Bool→Prop):BlQ x k = ∃ i,x=.bl i∧k i:=propext ⟨BlQ.out,fun ⟨_,e,h⟩=>e ▸ h⟩
noncomputable def Xh (x:V) (k:Addr→Prop):Prop:=match x with
 | .ref i=>k i
 | _=>False
theorem yA (i:Addr) (k:Addr→Prop):Xh (.ref i) k=k i:=rfl
theorem Xh.out {x:V} {k:Addr→Prop} (h:Xh x k):∃ i,x=.ref i∧k i:=by
 cases x with
 | ref i=>exact ⟨i,rfl,h⟩
 | _=>exact h.elim
theorem fK (x:V) (k:Addr→Prop):Xh x k = ∃ i,x=.ref i∧k i:=propext ⟨Xh.out,fun ⟨_,e,h⟩=>e ▸ h⟩
noncomputable def EB (xs:List V) (k:V→Prop):Prop:=match xs with
 | [y]=>k y
 | _=>False
theorem Xz (y:V) (k:V→Prop):EB [y] k=k y:=rfl
theorem EB.out:∀ {xs:List V} {k:V→Prop},EB xs k→∃ y,xs=[y]∧k y
 | [y],_,h=>⟨y,rfl,h⟩
 | [],_,h=>h.elim
 | _ :: _ :: _,_,h=>h.elim
theorem gL (xs:List V) (k:V→Prop):EB xs k = ∃ y,xs=[y]∧k y:=propext ⟨EB.out,fun ⟨_,e,h⟩=>e ▸ h⟩
noncomputable def zO (i:Nat):TE:=fun σ H Q=>QI H Q σ[i]?
noncomputable def tC (v:V):TE:=fun _ H Q=>Q v H
theorem nM {i:Nat} {x:Str} {pos:Pos} (hN:X.N[i]? = some x) (hv:Vis X.env.scope x) (hd:(x == ("__debug__" : Str))=false:=by decide) (hcd:(x == ("__classdict__" : Str))=false:=by decide):PE X (.Name x pos) (zO i):=by
 intro pins s σ H Q I h;obtain ⟨v,e,h⟩:=QI.out h;obtain ⟨m,hn,hl⟩:=I.loc;obtain ⟨u,r,l⟩:=hl i x v hN e hv;have fin:EP X pins σ Q u s:=⟨v,H,I,r,h⟩;rcases l with ⟨hk,hm⟩ | ⟨hk,c,hc,hcell⟩
 ·exact wpAny_Name (wpAny_loadName_local I.ok.kind hk hn hm fin) hd
 ·rcases hk with hk | hk
  ·exact wpAny_Name (wpAny_loadName_cell I.ok.kind hk hc hcell fin) hd
  ·exact wpAny_Name (wpAny_loadName_free I.ok.kind hk hc hcell fin hcd) hd
theorem jb {i j pos}:PE X (.Constant (.int i) j pos) (tC (.int i)):=fun _ _ _ H _ I h=>wpAny_Constant_int ⟨.int i,H,I.tok _,⟨_,rfl⟩,h⟩
theorem Xf {b j pos}:PE X (.Constant (.bool b) j pos) (tC (.bl b)):=fun _ _ _ H _ I h=>Constant_bool ⟨.bl b,H,I,rfl,h⟩
theorem Rf {j pos}:PE X (.Constant .none j pos) (tC .non):=fun _ _ _ H _ I h=>Constant_none ⟨.non,H,I,rfl,h⟩
theorem ad {x j pos}:PE X (.Constant (.str x) j pos) (tC (.str x)):=fun _ _ _ H _ I h=>Calls.Constant_str ⟨.str x,H,I.tok _,⟨_,rfl⟩,h⟩
noncomputable def Gl (X:Cx) (x:Str):Prop:=X.env.kindOf x=some .globalImplicit
theorem xv {E:Value→Shared→Prop} {pins:List (Addr × Obj)} {s:Shared} {σ:St} {H:Hp} {x:Str} {u:Value} {pos:Pos} {Q:Value→Shared→Prop} (I:Inv X pins σ H s) (hg:Gl X x) (hm:X.mg x=some u) (h:Q u s)
  (hd:(x == ("__debug__" : Str))=false:=by decide):wpAny (model X.prog X.w) X.A (eval (.Name x pos) X.env) Q E s:=
 Calls.Name_function_global I.ok.kind hg (Calls.loadGlobal_global (by rw [I.ok.glob];exact I.mod.glob.keeps I.bk) hm h) hd
theorem rn {E:Value→Shared→Prop} {pins:List (Addr × Obj)} {s:Shared} {σ:St} {H:Hp} {x:Str} {u:Value} {pos:Pos} {Q:Value→Shared→Prop} (I:Inv X pins σ H s) (hg:Gl X x) (hm:X.mg x=none) (hv:bootBuiltins x=some u) (h:Q u s)
  (hn:x ≠ "__name__" := by decide) (hd:(x == ("__debug__" : Str))=false:=by decide):wpAny (model X.prog X.w) X.A (eval (.Name x pos) X.env) Q E s:=by
 obtain ⟨mb,h1,h2⟩:=I.mod.blt;exact Calls.Name_function_global I.ok.kind hg (Calls.loadGlobal_builtin (by rw [I.ok.glob];exact I.mod.glob.keeps I.bk) hm (by rw [I.ok.blt];exact h1.keeps I.bk) ((h2 x hn).trans hv) h) hd
theorem si {x:Str} {v:V} {u:Value} {pos:Pos} (hg:Gl X x) (hm:X.mg x=some u) (r:zd v u) (hd:(x == ("__debug__" : Str))=false:=by decide):PE X (.Name x pos) (tC v):=
 fun _ _ _ H _ I h=>xv I hg hm ⟨v,H,I,r,h⟩ hd
theorem Ci {x:Str} {v:V} {u:Value} {pos:Pos} (hg:Gl X x) (hm:X.mg x=none) (hv:bootBuiltins x=some u) (r:zd v u) (hn:x ≠ "__name__" := by decide) (hd:(x == ("__debug__" : Str))=false:=by decide):PE X (.Name x pos) (tC v):=
 fun _ _ _ H _ I h=>rn I hg hm hv ⟨v,H,I,r,h⟩ hn hd
variable {a b:Expr} {ta tb:TE} {pos:Pos}
noncomputable def PC (X:Cx) (op:CmpOp) (a b:Expr) (t:TE):Prop:=
 ∀ (pins:List (Addr × Obj)) (s:Shared) (σ:St) (H:Hp) (Q:VK),Inv X pins σ H s→t σ H Q →
  wpAny (model X.prog X.w) X.A (eval a X.env) (fun v s₁=>wpAny (model X.prog X.w) X.A (eval b X.env) (fun u s₂=>wpAny (model X.prog X.w) X.A (compareOp op v u) (EP X pins σ Q) X.xe s₂) X.xe s₁) X.xe s
theorem Vz (b:Expr) {op:CmpOp} (h:op ≠ .In) (h2:op ≠ .NotIn):behindInMarks op b=false:=by
 have e1:(op == CmpOp.In)=false:=by cases op <;> first | rfl | exact absurd rfl h
 have e2:(op == CmpOp.NotIn)=false:=by cases op <;> first | rfl | exact absurd rfl h2
 cases b <;> simp [behindInMarks,e1,e2]
noncomputable def tB (t:TE):TT:=fun σ H Q=>t σ H fun x H1=>BlQ x fun c=>Q c H1
theorem UI {op:CmpOp} {t:TE} (h:PC X op a b t) (h1:behindInMarks op b=false:=by first | exact Vz _ (by decide) (by decide) | rfl):PE X (.Compare a [op] [b] pos) t:=fun pins s σ H Q I hw=>wpAny_Compare1 (h pins s σ H Q I hw) h1
theorem vw {op:CmpOp} {t:TE} (h:PC X op a b t) (h1:behindInMarks op b=false:=by first | exact Vz _ (by decide) (by decide) | rfl):PT X (.Compare a [op] [b] pos) (tB t):=by
 intro pins s σ H Q I hw;refine wpAny_isTrue_Compare1 (thn (h pins s σ H _ I hw) fun v s1 h1=>thn h1 fun u s2 h2=>thn h2 fun c s3 hZ1=>?_) h1;obtain ⟨x,H1,I1,r1,q1⟩:=hZ1;obtain ⟨d,rfl,q⟩:=BlQ.out q1;cases r1;exact wpAny_truthy_bool ⟨H1,I1,q⟩
theorem pe {e:Expr} {t:TE} (h:PE X e t) (he:∀ whole,isTrue e X.env whole=(do let v ← whole;standAt e.pos;holding [v] (truthy v)):=by intro _;rfl):PT X e (tB t):=by
 intro pins s σ H Q I hw;refine isTrue_plain (thn (h pins s σ H _ I hw) fun v s1 hZ1=>?_) (he _);obtain ⟨x,H1,I1,r1,q1⟩:=hZ1;obtain ⟨d,rfl,q⟩:=BlQ.out q1;cases r1;exact wpAny_truthy_bool ⟨H1,I1,q⟩
variable {tA tB':TT} {Tx:List Expr}
noncomputable def iP (t u:TT):TT:=fun σ H Q=>t σ H fun c H1=>if c=true then u σ H1 Q else Q false H1
noncomputable def tOr (t u:TT):TT:=fun σ H Q=>t σ H fun c H1=>if c=true then Q true H1 else u σ H1 Q
noncomputable def bP (t:TT):TT:=fun σ H Q=>t σ H fun c H1=>Q (!c) H1
theorem Ku (ha:PT X a tA):PW X (.BoolOp .And [a] pos) tA:=by
 intro wh pins s σ H Q I h;refine isTrue_and (thn (ha pins s σ H Q I h) fun c s1 e=>?_);cases c with
 | true=>exact isTrue_and_nil e
 | false=>exact e
theorem Bg (ha:PT X a tA):PW X (.BoolOp .Or [a] pos) tA:=by
 intro wh pins s σ H Q I h;refine isTrue_or (thn (ha pins s σ H Q I h) fun c s1 e=>?_);cases c with
 | false=>exact isTrue_or_nil e
 | true=>exact e
theorem Kz (ha:PT X a tA) (hb:PW X (.BoolOp .And (b :: Tx) pos) tB'):PW X (.BoolOp .And (a :: b :: Tx) pos) (iP tA tB'):=by
 intro wh pins s σ H Q I h;refine isTrue_and (thn (ha pins s σ H _ I h) fun c s1 hZ1=>?_);obtain ⟨H1,I1,q1⟩:=hZ1;cases c with
 | true=>exact hb wh pins s1 σ H1 Q I1 q1
 | false=>exact ⟨H1,I1,q1⟩
theorem Zg (ha:PT X a tA) (hb:PW X (.BoolOp .Or (b :: Tx) pos) tB'):PW X (.BoolOp .Or (a :: b :: Tx) pos) (tOr tA tB'):=by
 intro wh pins s σ H Q I h;refine isTrue_or (thn (ha pins s σ H _ I h) fun c s1 hZ1=>?_);obtain ⟨H1,I1,q1⟩:=hZ1;cases c with
 | true=>exact ⟨H1,I1,q1⟩
 | false=>exact hb wh pins s1 σ H1 Q I1 q1
theorem af (ha:PT X a tA):PT X (.UnaryOp .Not a pos) (bP tA):=by
 intro pins s σ H Q I h;exact isTrue_not (ha pins s σ H (fun c H1=>Q (!c) H1) I h)
noncomputable def ZL (ta tb:TE):TE:=fun σ H Q=>ta σ H fun x H1=>BlQ x fun c=>if c=true then tb σ H1 Q else Q (.bl false) H1
noncomputable def aP (ta tb:TE):TE:=fun σ H Q=>ta σ H fun x H1=>BlQ x fun c=>if c=true then Q (.bl true) H1 else tb σ H1 Q
noncomputable def rN (ta:TE):TE:=fun σ H Q=>ta σ H fun x H1=>BlQ x fun c=>Q (.bl (!c)) H1
theorem fm {op} {t:TE} (h:PE X a t):PE X (.BoolOp op [a] pos) t:=fun pins s σ H Q I hw=>BoolOp_one (h pins s σ H Q I hw)
theorem Om (ha:PE X a ta) (hb:PE X (.BoolOp .And (b :: Tx) pos) tb):PE X (.BoolOp .And (a :: b :: Tx) pos) (ZL ta tb):=by
 intro pins s σ H Q I h;refine BoolOp_and (thn (ha pins s σ H _ I h) fun v s1 hZ1=>?_);obtain ⟨x,H1,I1,r1,q1⟩:=hZ1;obtain ⟨c,rfl,zq⟩:=BlQ.out q1;cases r1;refine wpAny_truthy_bool ?_;cases c with
 | true=>exact hb pins s1 σ H1 Q I1 zq
 | false=>exact ⟨.bl false,H1,I1,rfl,zq⟩
theorem OJ (ha:PE X a ta) (hb:PE X (.BoolOp .Or (b :: Tx) pos) tb):PE X (.BoolOp .Or (a :: b :: Tx) pos) (aP ta tb):=by
 intro pins s σ H Q I h;refine BoolOp_or (thn (ha pins s σ H _ I h) fun v s1 hZ1=>?_);obtain ⟨x,H1,I1,r1,q1⟩:=hZ1;obtain ⟨c,rfl,zq⟩:=BlQ.out q1;cases r1;refine wpAny_truthy_bool ?_;cases c with
 | false=>exact hb pins s1 σ H1 Q I1 zq
 | true=>exact ⟨.bl true,H1,I1,rfl,zq⟩
theorem ON (ha:PE X a ta):PE X (.UnaryOp .Not a pos) (rN ta):=by
 intro pins s σ H Q I h;refine UnaryOp_ (thn (ha pins s σ H _ I h) fun v s1 hZ1=>?_);obtain ⟨x,H1,I1,r1,q1⟩:=hZ1;obtain ⟨c,rfl,zq⟩:=BlQ.out q1;cases r1;exact not_of (wpAny_truthy_bool ⟨.bl (!c),H1,I1,rfl,zq⟩)
noncomputable def tIf (t:TT) (ta tb:TE):TE:=fun σ H Q=>t σ H fun c H1=>if c=true then ta σ H1 Q else tb σ H1 Q
theorem zu {c:Expr} (hc:PT X c tA) (ha:PE X a ta) (hb:PE X b tb):PE X (.IfExp c a b pos) (tIf tA ta tb):=by
 intro pins s σ H Q I h;refine wpAny_IfExp (thn (hc pins s σ H _ I h) fun d s1 hZ1=>?_);obtain ⟨H1,I1,q1⟩:=hZ1;cases d with
 | true=>exact ha pins s1 σ H1 Q I1 q1
 | false=>exact hb pins s1 σ H1 Q I1 q1
end
end L2
namespace L2
open PySem PySem.Spec PyProof.Rows
noncomputable def SqL (K:PySem.W.Frag) (H:Hp) (a:Addr) (xs:List V):Prop:=
 Rd H a (.lst xs) ∨
  ∃ (o:Obj) (its:Array Value) (n:Nat),K.lookup a=some o∧o.cls=.type "list" ∧ o.dict=none∧o.data=.seq its n∧its.size ≤ sizeLine∧pd xs its.toList
noncomputable def SqT (K:PySem.W.Frag) (H:Hp) (a:Addr) (xs:List V):Prop:=
 Rd H a (.tup xs) ∨
  ∃ (o:Obj) (its:Array Value) (n:Nat),K.lookup a=some o∧o.cls=.type "tuple" ∧ o.data=.seq its n∧its.size ≤ sizeLine∧pd xs its.toList
noncomputable def NP:Value→Option V
 | .none=>some .non
 | .bool b=>some (.bl b)
 | .int i _=>some (.int i)
 | .str x _=>some (.str x)
 | .bytes b _=>some (.byt b)
 | .float b _=>some (.flt b)
 | .ref a=>some (.ref a)
 | .type n=>some (.ty n)
 | _=>none
theorem zd.abs {x:V} {u:Value} (r:zd x u):NP u=some x:=by
 cases x with
 | non=>cases r;rfl
 | bl _=>cases r;rfl
 | int _=>obtain ⟨t,rfl⟩:=r;rfl
 | str _=>obtain ⟨t,rfl⟩:=r;rfl
 | byt _=>obtain ⟨t,rfl⟩:=r;rfl
 | flt _=>obtain ⟨t,rfl⟩:=r;rfl
 | ref _=>cases r;rfl
 | ty _=>cases r;rfl
theorem zd.inj {x y:V} {u:Value} (r:zd x u) (q:zd y u):x=y:=Option.some.inj (r.abs.symm.trans q.abs)
theorem pd.inj:∀ {xs ys:List V} {us:List Value},pd xs us→pd ys us→xs=ys
 | _,_,_,.nil,.nil=>rfl
 | _,_,_,.cons r t,.cons r' t'=>by rw [r.inj r',pd.inj t t']
section
variable {X:Cx} {pins:List (Addr × Obj)} {σ:St} {H:Hp} {s:Shared} {a:Addr} {xs ys:List V}
theorem SqL.of {K:PySem.W.Frag} (h:H a=some (.lst xs)):SqL K H a xs:=.inl (.inl h)
theorem SqT.of {K:PySem.W.Frag} (h:H a=some (.tup xs)):SqT K H a xs:=.inl (.inl h)
theorem Inv.list (I:Inv X pins σ H s) (h:SqL X.K H a xs):∃ its:List Value,pd xs its∧PlainL s.heap a its.toArray∧xs.length ≤ sizeLine:=by
 rcases h with h | ⟨o,its,n,hk,hc,hd,hs,hz,r⟩
 ·obtain ⟨z,its,n,r,e⟩:=h.ok I.hok;exact ⟨its,r,⟨_,n,e,rfl,rfl,rfl⟩,z⟩
 ·refine ⟨its.toList,r,⟨o,n,I.kIn a o hk,hc,hd,by simpa using hs⟩,?_⟩;have e:=r.length;simp only [Array.length_toList] at e;omega
theorem Inv.tuple (I:Inv X pins σ H s) (h:SqT X.K H a xs):∃ its:List Value,pd xs its∧IsTup s.heap a its.toArray∧xs.length ≤ sizeLine:=by
 rcases h with h | ⟨o,its,n,hk,hc,hs,hz,r⟩
 ·obtain ⟨z,its,r,p⟩:=h.ok I.hok;exact ⟨its,r,p,z.1⟩
 ·refine ⟨its.toList,r,⟨o,I.kIn a o hk,hc,n,by simpa using hs⟩,?_⟩;have e:=r.length;simp only [Array.length_toList] at e;omega
theorem Inv.list_inj (I:Inv X pins σ H s) (h:SqL X.K H a xs) (h':SqL X.K H a ys):xs=ys:=by
 obtain ⟨its,r,⟨o,n,e,_,_,d⟩,_⟩:=I.list h;obtain ⟨its',r',⟨o',n',e',_,_,d'⟩,_⟩:=I.list h';rw [e] at e';cases e';rw [d] at d';injection d' with d1 _;have:its=its':=by simpa using congrArg Array.toList d1
 subst this;exact r.inj r'
theorem Inv.tuple_inj (I:Inv X pins σ H s) (h:SqT X.K H a xs) (h':SqT X.K H a ys):xs=ys:=by
 obtain ⟨its,r,⟨o,e,_,n,d⟩,_⟩:=I.tuple h;obtain ⟨its',r',⟨o',e',_,n',d'⟩,_⟩:=I.tuple h';rw [e] at e';cases e';rw [d] at d';injection d' with d1 _;have:its=its':=by simpa using congrArg Array.toList d1
 subst this;exact r.inj r'
end
noncomputable abbrev Cx.wish (X:Cx) (E:Value→Shared→Prop):Cx:={ X with xe:=E }
noncomputable abbrev Cx.nox (X:Cx):Cx:=X.wish fun _ _=>False
theorem Cx.Ok.wish {X:Cx} (ok:X.Ok) (E:Value→Shared→Prop):(X.wish E).Ok:=
 ⟨ok.mod,ok.kind,ok.glob,ok.blt,ok.above,ok.inj,ok.has,ok.cab,ok.hd,ok.frames,ok.stk,ok.exf,ok.bs,ok.bsz,ok.noex,ok.exfs,ok.funs,ok.frf⟩
theorem Cx.Ok.unwish {X:Cx} {E:Value→Shared→Prop} (ok:(X.wish E).Ok):X.Ok:=
 ⟨ok.mod,ok.kind,ok.glob,ok.blt,ok.above,ok.inj,ok.has,ok.cab,ok.hd,ok.frames,ok.stk,ok.exf,ok.bs,ok.bsz,ok.noex,ok.exfs,ok.funs,ok.frf⟩
section
variable {X:Cx} {pins:List (Addr × Obj)} {σ:St} {H:Hp} {s:Shared} {E:Value→Shared→Prop}
theorem Inv.wish (I:Inv X pins σ H s) (E:Value→Shared→Prop):Inv (X.wish E) pins σ H s:=⟨I.ok.wish E,I.os,I.bare,I.base,I.loc,I.cell,I.free,I.freeC,I.pin,I.hok,I.len⟩
theorem Inv.unwish (I:Inv (X.wish E) pins σ H s):Inv X pins σ H s:=⟨I.ok.unwish,I.os,I.bare,I.base,I.loc,I.cell,I.free,I.freeC,I.pin,I.hok,I.len⟩
theorem SP.unwish {D:Xj} {f:Flow} {s':Shared} (h:SP (X.wish E) pins D f s'):SP X pins D f s':=by
 cases f with
 | next=>obtain ⟨σ',H',I,q⟩:=h;exact ⟨σ',H',I.unwish,q⟩
 | brk=>obtain ⟨σ',H',I,q⟩:=h;exact ⟨σ',H',I.unwish,q⟩
 | cont=>obtain ⟨σ',H',I,q⟩:=h;exact ⟨σ',H',I.unwish,q⟩
 | ret u=>obtain ⟨v,σ',H',I,r,q⟩:=h;exact ⟨v,σ',H',I.unwish,r,q⟩
theorem PE.nox {e:Expr} {t:TE} (h:PE X.nox e t):PE X e t:=fun pins s σ H Q I hw=>
 wpAny_mono (h pins s σ H Q (I.wish _) hw) (fun _ _ ⟨v,H',I',r,q⟩=>⟨v,H',I'.unwish,r,q⟩) fun _ _ z=>False.elim z
theorem PT.nox {e:Expr} {t:TT} (h:PT X.nox e t):PT X e t:=fun pins s σ H Q I hw=>
 wpAny_mono (h pins s σ H Q (I.wish _) hw) (fun _ _ ⟨H',I',q⟩=>⟨H',I'.unwish,q⟩) fun _ _ z=>False.elim z
theorem PSs.nox {st:List Stmt} {t:TS} (h:PSs X.nox st t):PSs X st t:=fun pins s σ H D I hw=>
 wpAny_mono (h pins s σ H D (I.wish _) hw) (fun _ _ q=>q.unwish) fun _ _ z=>False.elim z
end
section
variable {X:Cx} {st:Stmt} {Tx:List Stmt} {t u:TS} {e:Expr} {te:TE} {pos:Pos}
noncomputable def MN:TS:=fun D σ H=>D.nx σ H
noncomputable def hz0:Nat:=0
noncomputable def hz1:Nat:=hz0
noncomputable def hz2:Nat:=hz1
noncomputable def hz3:Nat:=hz2
noncomputable def hz4:Nat:=hz3
noncomputable def hz5:Nat:=hz4
noncomputable def hz6:Nat:=hz5
noncomputable def hz7:Nat:=hz6
noncomputable def hz8:Nat:=hz7
noncomputable def hz9:Nat:=hz8
noncomputable def OP:Nat:=hz9
noncomputable def aQ:Nat:=OP
noncomputable def bQ:Nat:=aQ
noncomputable def GP (t u:TS):TS:=fun D σ H=>(fun _:Nat=>t { D with nx:=u D } σ H) bQ
theorem Ob:PSs X [] MN:=fun _ _ σ H _ I h=>wpAny_execs_nil ⟨σ,H,I,h⟩
theorem db (h1:PS X st t) (h2:PSs X Tx u):PSs X (st :: Tx) (GP t u):=by
 intro pins s σ H D I h;refine wpAny_execs_cons (thn (h1 pins s σ H { D with nx:=u D } I h) fun f s1 q=>?_);cases f with
 | next=>
  obtain ⟨σ',H',I',q⟩:=q;exact h2 pins s1 σ' H' D I' q
 | ret v=>exact q
 | brk=>exact q
 | cont=>exact q
theorem lb (h1:PS X st t):PSs X [st] t:=by
 intro pins s σ H D I h;refine wpAny_execs_cons (thn (h1 pins s σ H D I h) fun f s1 q=>?_);cases f with
 | next=>exact wpAny_execs_nil q
 | ret v=>exact q
 | brk=>exact q
 | cont=>exact q
theorem Inv.quiet {pins:List (Addr × Obj)} {σ:St} {H:Hp} {s:Shared} (I:Inv X pins σ H s):interactive X.env=false:=by simp [interactive,I.ok.kind]
noncomputable def DN (te:TE):TS:=fun D σ H=>te σ H fun _ H1=>D.nx σ H1
theorem ke (he:PE X e te) (hs:swapsWith e none pos.line X.env=pure false:=by rfl):PS X (.Expr e pos) (DN te):=by
 intro pins s σ H D I h;exact wpAny_Expr_any (thn (he pins s σ H _ I h) fun v s1 ⟨x,H1,I1,r1,q1⟩=>⟨σ,H1,I1,q1⟩) I.quiet hs
noncomputable def ZN (te:TE):TS:=fun D σ H=>te σ H D.rt
theorem Bb (he:PE X e te):PS X (.Return (some e) pos) (ZN te):=by
 intro pins s σ H D I h;exact wpAny_Return_some (thn (he pins s σ H _ I h) fun v s1 ⟨x,H1,I1,r1,q1⟩=>⟨x,σ,H1,I1,r1,q1⟩)
noncomputable def dO (c:TT) (t u:TS):TS:=fun D σ H=>c σ H fun b H1=>if b=true then t D σ H1 else u D σ H1
theorem Dc {c:Expr} {a b:List Stmt} {tc:TT} (hc:PT X c tc) (ha:PSs X a t) (hb:PSs X b u):PS X (.If c a b pos) (dO tc t u):=by
 intro pins s σ H D I h;refine wpAny_If (thn (hc pins s σ H _ I h) fun d s1 hZ1=>?_);obtain ⟨H1,I1,q1⟩:=hZ1;cases d with
 | true=>exact ha pins s1 σ H1 D I1 q1
 | false=>exact hb pins s1 σ H1 D I1 q1
noncomputable def JI:TS:=fun _ _ _=>False
theorem Cl:PS X st JI:=fun _ _ _ _ _ _ h=>h.elim
end
noncomputable abbrev TG:=V→St→Hp→(St→Hp→Prop)→Prop
noncomputable abbrev TGs:=List V→St→Hp→(St→Hp→Prop)→Prop
noncomputable def PG (X:Cx) (target:Expr) (t:TG):Prop:=
 ∀ (pins:List (Addr × Obj)) (s:Shared) (σ:St) (H:Hp) (v:V) (u:Value) (Q:St→Hp→Prop),Inv X pins σ H s→zd v u→t v σ H Q →
  wpAny (model X.prog X.w) X.A (assign target X.env u) (fun _ s'=>∃ σ' H',Inv X pins σ' H' s'∧Q σ' H') X.xe s
noncomputable def PGs (X:Cx) (ts:List Expr) (t:TGs):Prop:=
 ∀ (pins:List (Addr × Obj)) (s:Shared) (σ:St) (H:Hp) (vs:List V) (us:List Value) (Q:St→Hp→Prop),Inv X pins σ H s→pd vs us→t vs σ H Q →
  wpAny (model X.prog X.w) X.A (assignInOrder ((assignEach ts X.env).map (·.2)) us) (fun _ s'=>∃ σ' H',Inv X pins σ' H' s'∧Q σ' H') X.xe s
noncomputable abbrev RN:=V→V→V→Hp→(Hp→Prop)→Prop
noncomputable def kP (X:Cx) (t:RN):Prop:=
 ∀ (pins:List (Addr × Obj)) (s:Shared) (σ:St) (H:Hp) (o i v:V) (ov iv u:Value) (Q:Hp→Prop),Inv X pins σ H s→zd o ov→zd i iv→zd v u→t o i v H Q →
  wpAny (model X.prog X.w) X.A (setItem ov iv u) (fun _ s'=>∃ H',Inv X pins σ H' s'∧Q H') X.xe s
noncomputable abbrev TIp:=V→V→Hp→VK→Prop
noncomputable def PIp (X:Cx) (op:Operator) (t:TIp):Prop:=
 ∀ (pins:List (Addr × Obj)) (s:Shared) (σ:St) (H:Hp) (x y:V) (v u:Value) (Q:VK),Inv X pins σ H s→zd x v→zd y u→t x y H Q →
  wpAny (model X.prog X.w) X.A (inplaceOp op v u) (EP X pins σ Q) X.xe s
section
variable {X:Cx} {pos:Pos}
noncomputable def ms (i:Nat):TG:=fun v σ H Q=>Q (σ.set i (some v)) H
theorem By {i:Nat} {x:Str} (hN:X.N.Nodup) (hi:X.N[i]? = some x) (hx:Loc X.env.scope x) (hf:X.fn x=true∨X.env.scope.names.lookup x=some .local:=by first | exact .inl rfl | exact .inr rfl | assumption):PG X (.Name x pos) (ms i):=by
 intro pins s σ H v u Q I r h;exact wpAny_assign_Name (wv I hN hi hx r (fun s' I'=>⟨_,H,I',h⟩) hf)
noncomputable def XN:TGs:=fun vs σ H Q=>vs=[]∧Q σ H
noncomputable def MB (t:TG) (u:TGs):TGs:=fun vs σ H Q=>∃ v r,vs=v :: r∧t v σ H fun σ' H'=>u r σ' H' Q
theorem Df:PGs X [] XN:=by
 intro pins s σ H vs us Q I r h;obtain ⟨e,h⟩:=h;subst e;cases r;exact assignInOrder_nil ⟨σ,H,I,h⟩
theorem lc {e:Expr} {es:List Expr} {t:TG} {u:TGs} (h1:PG X e t) (h2:PGs X es u)
  (hs:(assignEach (e :: es) X.env).map (·.2)=assign e X.env :: (assignEach es X.env).map (·.2):=by rfl):PGs X (e :: es) (MB t u):=by
 intro pins s σ H vs us Q I r h;obtain ⟨v,vr,e1,h⟩:=h;subst e1;cases r with
 | cons r rr=>
  rw [hs];refine assignInOrder_cons (thn (h1 pins s σ H _ _ _ I r h) fun _ s1 hZ1=>?_);obtain ⟨σ1,H1,I1,q1⟩:=hZ1;exact h2 pins s1 σ1 H1 _ _ Q I1 rr q1
noncomputable def JM (K:PySem.W.Frag) (n:Nat) (t:TGs):TG:=fun v σ H Q=>∃ a xs,v=.ref a∧SqT K H a xs∧xs.length=n∧t xs σ H Q
theorem OL {es:List Expr} {k:Nat} {t:TGs} {n:Nat} (hc:X.calm=true) (h:PGs X es t)
  (hn:(assignEach es X.env).length=n:=by rfl) (hst:(assignEach es X.env).findIdx? (·.1)=none:=by rfl):PG X (.Tuple es k pos) (JM X.K n t):=by
 intro pins s σ H v u Q I r hw;obtain ⟨a,xs,e1,hq,hl,hw⟩:=hw;subst e1;cases r;obtain ⟨its,rv,ht,hz⟩:=I.tuple hq;refine assign_Tuple_tuple (I.ok.hd hc) ht (by simp [hn,← hl,rv.length]) hst fun h' hx=>?_
 have I1:Inv X pins σ H { s with heap:=h' }:=I.kept (t':=s.toks) fun b o e=>hx b o (Nat.ne_of_lt (Heap.lt_size e)) e
 exact h pins _ σ H xs _ Q I1 (by simpa using rv) hw
noncomputable def BP (to ti:TE) (t:RN):TG:=fun v σ H Q=>to σ H fun o H1=>ti σ H1 fun i H2=>t o i v H2 fun H3=>Q σ H3
theorem bN {o i:Expr} {to ti:TE} {t:RN} (ho:PE X o to) (hi:PE X i ti) (hs:kP X t)
  (ha:∀ v,assign (.Subscript o i pos) X.env v=(do
   let ov ← holding [v] (eval o X.env)
   let iv ← holding [v,ov] (eval i X.env)
   standAt pos
   holding [v,ov,iv] (setItem ov iv v)
   release [v,ov,iv] []):=by intro _;rfl):PG X (.Subscript o i pos) (BP to ti t):=by
 intro pins s σ H v u Q I r h;rw [ha];refine wpAny_bind (wpAny_holding (thn (ho pins s σ H _ I h) fun ov s1 hZ1=>?_));obtain ⟨x,H1,I1,r1,q1⟩:=hZ1;refine wpAny_bind (wpAny_holding (thn (hi pins s1 σ H1 _ I1 q1) fun iv s2 hZ1=>?_));obtain ⟨y,H2,I2,r2,q2⟩:=hZ1;refine wpAny_bind (wpAny_standAt (wpAny_bind (wpAny_holding (thn (hs pins s2 σ H2 x y v ov iv u _ I2 r1 r2 r q2) fun _ s3 hZ1=>?_))));obtain ⟨H3,I3,q3⟩:=hZ1;exact wpAny_release ⟨σ,H3,I3,q3⟩
noncomputable def HL (te:TE) (g:TG):TS:=fun D σ H=>te σ H fun x H1=>g x σ H1 D.nx
theorem xw {tg e:Expr} {te:TE} {g:TG} (he:PE X e te) (hg:PG X tg g) (hs:swapsWithSole [tg] e pos.line X.env=pure false:=by rfl) (hw:swappedStores [tg] e X.env=pure none:=by rfl)
  (h1:(assignEach [tg] X.env).map (·.2)=[assign tg X.env]:=by rfl):PS X (.Assign [tg] e pos) (HL te g):=by
 intro pins s σ H D I h;refine wpAny_Assign_stores (thn (he pins s σ H _ I h) fun v s1 hZ1=>?_) hs hw;obtain ⟨x,H1,I1,r1,q1⟩:=hZ1;rw [h1];exact thn (hg pins s1 σ H1 x v _ I1 r1 q1) fun _ s2 q=>q
theorem lJ {i:Nat} {x:Str} {e:Expr} {te:TE} {pos':Pos} (hN:X.N.Nodup) (hi:X.N[i]? = some x) (hx:Loc X.env.scope x) (he:PE X e te) (hs:swapsWith e (some (.Name x pos')) pos.line X.env=pure false:=by rfl) (hf:X.fn x=true∨X.env.scope.names.lookup x=some .local:=by first | exact .inl rfl | exact .inr rfl | assumption) :
  PS X (.Assign [.Name x pos'] e pos) (HL te (ms i)):=by
 intro pins s σ H D I h;refine wpAny_Assign_Name (thn (he pins s σ H _ I h) fun v s1 hZ1=>?_) hs;obtain ⟨y,H1,I1,r1,q1⟩:=hZ1;exact wv I1 hN hi hx r1 (fun s2 I2=>⟨_,H1,I2,q1⟩) hf
noncomputable def dP (i:Nat) (te:TE) (ti:TIp):TS:=fun D σ H=>∃ x,σ[i]? = some (some x)∧te σ H fun y H1=>ti x y H1 fun z H2=>D.nx (σ.set i (some z)) H2
theorem wJ {i:Nat} {x:Str} {e:Expr} {te:TE} {op:Operator} {ti:TIp} {pos':Pos} (hN:X.N.Nodup) (hi:X.N[i]? = some x) (hx:Loc X.env.scope x) (he:PE X e te) (ho:PIp X op ti) (hf:X.fn x=true∨X.env.scope.names.lookup x=some .local:=by first | exact .inl rfl | exact .inr rfl | assumption) :
  PS X (.AugAssign (.Name x pos') op e pos) (dP i te ti):=by
 intro pins s σ H D I h;obtain ⟨v,e1,h⟩:=h;obtain ⟨m,hn,hl⟩:=I.loc;have vis:Vis X.env.scope x:=by rcases hx with k | k;exact .inl k;exact .inr (.inl k)
 obtain ⟨u,r,l⟩:=hl i x v hi e1 vis;refine wpAny_AugAssign_Name ?_;have go:wpAny (model X.prog X.w) X.A (eval e X.env) (fun w s₂=>wpAny (model X.prog X.w) X.A (inplaceOp op u w) (fun r s₃=>wpAny (model X.prog X.w) X.A (storeName X.env x r) (fun _=>SP X pins D .next) X.xe s₃) X.xe s₂) X.xe s:=by
  refine thn (he pins s σ H _ I h) fun w s1 hZ1=>?_
  obtain ⟨y,H1,I1,r1,q1⟩:=hZ1;refine thn (ho pins s1 σ H1 v y u w _ I1 r r1 q1) fun z s2 hZ1=>?_
  obtain ⟨zv,H2,I2,r2,q2⟩:=hZ1;exact wv I2 hN hi hx r2 (fun s3 I3=>⟨_,H2,I3,q2⟩) hf
 rcases l with ⟨hk,hm⟩ | ⟨hk,c,hc,hcell⟩
 ·exact wpAny_loadName_local I.ok.kind hk hn hm go
 ·rcases hk with hk | hk
  ·exact wpAny_loadName_cell I.ok.kind hk hc hcell go
  ·rcases hx with k | k
   ·have:X.env.scope.names.lookup x=some .free:=hk;rw [k] at this;cases this
   ·have:X.env.scope.names.lookup x=some .free:=hk;rw [k] at this;cases this
noncomputable def ipI (f:Int→Int→Int):TIp:=fun x y H Q=>∃ i j,x=.int i∧y=.int j∧Q (.int (f i j)) H
theorem GI:PIp X .Add (ipI fun i j=>i + j):=by
 intro pins s σ H x y v u Q I r1 r2 h;obtain ⟨i,j,e1,e2,q⟩:=h;subst e1;subst e2;obtain ⟨t,rfl⟩:=r1;obtain ⟨t',rfl⟩:=r2;exact iadd_int ⟨.int _,H,I.tok _,⟨_,rfl⟩,q⟩
end
section
variable {X:Cx} {pos:Pos}
noncomputable def TL (c:TT) (tb:TS):TS:=fun D σ H=>∃ W:Nat→St→Hp→Prop,(∃ m,W m σ H)∧∀ m σ H,W m σ H →
 c σ H fun b H1=>if b=true then ∃ N:St→Hp→Prop,(∀ σ' H',N σ' H'→∃ m',m' < m∧W m' σ' H')∧tb { D with nx:=N,ct:=N,bk:=D.nx } σ H1 else D.nx σ H1
theorem pz {c:Expr} {body:List Stmt} {tc:TT} {tb:TS} (hp:PassesOwn (model X.prog X.w) X.A X.env X.xe) (hc:PT X c tc) (hb:PSs X body tb):PS X (.While c body [] pos) (TL tc tb):=by
 intro pins s σ H D I h;obtain ⟨W,⟨m0,w0⟩,turn⟩:=h;refine wpAny_While (codeAny_whileLoop (fun n s'=>∃ σ' H',Inv X pins σ' H' s'∧W n σ' H') ?_ m0 ⟨σ,H,I,w0⟩);rintro n s1 ⟨σ1,H1,I1,w1⟩;refine wpAny_passesOwn hp (thn (hc pins s1 σ1 H1 _ I1 (turn n σ1 H1 w1)) fun b s2 hZ1=>?_);obtain ⟨H2,I2,q2⟩:=hZ1;cases b with
 | true=>
  obtain ⟨N,hN,q2⟩:=q2;rw [if_pos rfl];refine wpAny_passesOwn hp (thn (hb pins s2 σ1 H2 _ I2 q2) fun f s3 q3=>?_);cases f with
  | next=>
   obtain ⟨σ3,H3,I3,n3⟩:=q3;obtain ⟨m',hm,w3⟩:=hN σ3 H3 n3;exact ⟨m',hm,σ3,H3,I3,w3⟩
  | cont=>
   obtain ⟨σ3,H3,I3,n3⟩:=q3;obtain ⟨m',hm,w3⟩:=hN σ3 H3 n3;exact ⟨m',hm,σ3,H3,I3,w3⟩
  | brk=>exact q3
  | ret v=>exact q3
 | false=>
  rw [if_neg Bool.false_ne_true];exact wpAny_execs_nil ⟨σ1,H2,I2,q2⟩
end
structure It where
 go:Nat→Hp→Prop
 yld:Nat→Hp→V→Hp→Prop
 stop:Nat→Hp→Prop
noncomputable def Uu (X:Cx) (pins:List (Addr × Obj)) (H:Hp) (b:Addr):Prop:=
 H b=none∧b ≠ X.env.locals∧b ∉ X.fs∧(b ∈ X.ex∨X.s₀.heap.objs.size ≤ b)∧(∀ x c,X.env.cells.lookup x=some c→c ≠ b)∧∀ p ∈ X.pn ++ pins,p.1 ≠ b
theorem Inv.fpOk {X:Cx} {pins:List (Addr × Obj)} {σ:St} {H H':Hp} {s:Shared} {b:Addr} (I:Inv X pins σ H s) (hb:s.heap.objs.size ≤ b) (hn:H' b=none):Uu X pins H' b:=by
 refine ⟨hn,Nat.ne_of_gt (Nat.lt_of_lt_of_le I.lt hb),I.nofs hb,.inr (Nat.le_trans I.sz hb),fun x c e z=>?_,fun p hp z=>?_⟩
 ·obtain ⟨v,q⟩:=I.cell x c e;exact absurd (Nat.lt_of_lt_of_le q.lt (by rw [z];exact hb)) (Nat.lt_irrefl _)
 ·exact absurd (Nat.lt_of_lt_of_le (Heap.lt_size (I.pin p hp).1) (by rw [z];exact hb)) (Nat.lt_irrefl _)
structure rG (P:Program) (w:World) (K:PySem.W.Frag) (tg:Expr) (J:It) (fp:List Addr) (it:Addr) (tn:Nat→Heap→Prop):Prop where
 mem:it ∈ fp
 obj:∀ i h,tn i h→∀ b ∈ fp,∃ o,h.get? b=some o∧∀ v,o.data ≠ .cell v
 keep:∀ i h h',tn i h→(∀ b ∈ fp,∀ o,h.get? b=some o→h'.get? b=some o)→tn i h'
 item:∀ (X:Cx),X.prog=P→X.w=w→X.K=K→X.calm=true→∀ (i:Nat) (pins:List (Addr × Obj)) (s:Shared) (σ:St) (H:Hp) (E:Value→Shared→Prop),Inv X pins σ H s→(∀ b ∈ fp,Uu X pins H b)→tn i s.heap→J.go i H →
  wpAny (model P w) X.A (pyNext (.ref it)) (fun r s1=>∃ u,r=some u ∧
   wpAny (model P w) X.A (letOwnedTupleGo tg (.ref it) u) (fun _ s2=>∃ x H',Inv X pins σ H' s2∧zd x u∧J.yld i H x H'∧tn (i + 1) s2.heap∧∀ b ∈ fp,H' b=none) E s1) E s
 done:∀ (X:Cx),X.prog=P→X.w=w→X.K=K→X.calm=true→∀ (i:Nat) (pins:List (Addr × Obj)) (s:Shared) (σ:St) (H:Hp) (E:Value→Shared→Prop),Inv X pins σ H s→(∀ b ∈ fp,Uu X pins H b)→tn i s.heap→J.stop i H →
  wpAny (model P w) X.A (pyNext (.ref it)) (fun r s1=>r=none∧Inv X pins σ H s1) E s
 self:∀ (A:Around) (i:Nat) (s:Shared) (Q:Value→Shared→Prop) (E:Value→Shared→Prop),tn i s.heap→Q (.ref it) s→wpAny (model P w) A (pyIter (.ref it)) Q E s
noncomputable abbrev TI:=St→Hp→(It→Hp→Prop)→Prop
noncomputable def PIE (X:Cx) (pins:List (Addr × Obj)) (σ:St) (tg:Expr) (R:It→Hp→Prop) (itv:Value) (s2:Shared):Prop:=
 ∃ (it:Addr) (fp:List Addr) (tn:Nat→Heap→Prop) (J:It) (H':Hp),itv=.ref it∧Inv X pins σ H' s2∧rG X.prog X.w X.K tg J fp it tn∧tn 0 s2.heap∧(∀ b ∈ fp,Uu X pins H' b)∧R J H'
noncomputable def PI (X:Cx) (tg iter:Expr) (wi:TI):Prop:=
 ∀ (pins:List (Addr × Obj)) (s:Shared) (σ:St) (H:Hp) (R:It→Hp→Prop),Inv X pins σ H s→wi σ H R →
  wpAny (model X.prog X.w) X.A (eval iter X.env) (fun v s1=>wpAny (model X.prog X.w) X.A (pyIter v) (PIE X pins σ tg R) X.xe s1) X.xe s
theorem QE {M:Model} {A:Around} {E:Value→Shared→Prop} {s:Shared} {tg:Expr} {it:Addr} {u:Value} {o:Obj} {n:String} {vs:Array Value} {Q:Unit→Shared→Prop} (ho:s.heap.get? it=some o) (hc:o.cls=.type n) (hd:o.data=.fields vs)
    (hn:["enumerate","zip","dict_itemiterator","dict_reverseitemiterator","odict_iterator","itertools.zip_longest","itertools.pairwise"].contains n=false) (hQ:Q () s):wpAny M A (letOwnedTupleGo tg (.ref it) u) Q E s:=by
  unfold letOwnedTupleGo;cases tg <;> first
    | exact wpAny_pure hQ
    | (cases u <;> first
        | exact wpAny_pure hQ
        | (refine wpAny_bind (wpAny_load ho ?_)
           rw [hc,hd];show wpAny M A (if (["enumerate","zip","dict_itemiterator","dict_reverseitemiterator","odict_iterator","itertools.zip_longest","itertools.pairwise"].contains n && vs[0]? == some (rawInt _))=true then _ else _) Q E s;rw [if_neg (by intro h;rw [hn,Bool.false_and] at h;cases h)];exact wpAny_pure hQ))
noncomputable def Itl (K:PySem.W.Frag) (a:Addr):It:=
 ⟨fun i H=>∃ xs x,SqL K H a xs∧xs[i]? = some x,fun i H x H'=>H'=H∧∀ xs,SqL K H a xs→xs[i]? = some x,fun i H=>∃ xs,SqL K H a xs∧xs.length ≤ i⟩
noncomputable def Itt (K:PySem.W.Frag) (a:Addr):It:=
 ⟨fun i H=>∃ xs x,SqT K H a xs∧xs[i]? = some x,fun i H x H'=>H'=H∧∀ xs,SqT K H a xs→xs[i]? = some x,fun i H=>∃ xs,SqT K H a xs∧xs.length ≤ i⟩
noncomputable def Itr (lo:Int) (n:Nat):It:=⟨fun i _=>i < n,fun i H x H'=>H'=H∧x=.int (lo + i),fun i _=>n ≤ i⟩
theorem YF {P:Program} {w:World} {K:PySem.W.Frag} {tg:Expr} (a it:Addr):rG P w K tg (Itl K a) [it] it (fun i h=>h.IsListIter it a i) where
 mem:=by simp
 obj:=fun i h st b hb=>by
  have e:b=it:=by simpa using hb
  subst e;obtain ⟨o,e,c,d⟩:=st;exact ⟨o,e,fun v z=>by rw [d] at z;cases z⟩
 keep:=fun i h h' st k=>st.at fun o e=>k it (by simp) o e
 item:=by
  intro X hP hw hK hc i pins s σ H E I hf st hg;subst hP hw hK;obtain ⟨xs,x,hq,hx⟩:=hg;obtain ⟨its,rv,p,hz⟩:=I.list hq;obtain ⟨u,hu,ru⟩:=rv.get hx;obtain ⟨f0,f1,f2,f3,f4,f5⟩:=hf it (by simp);refine wpAny_pyNext_list_item st p.isList (x:=u) (by simpa using hu) fun h' st' sb=>?_
  have I1:Inv X pins σ H { s with heap:=h' }:=I.turned (t':=s.toks) (fun b o hb e=>(sb.2 b hb).trans e) f0 f1 f3 f4 f5;obtain ⟨o,e,c,d⟩:=id st';exact ⟨u,rfl,QE (s:={ s with heap:=h' }) e c d (by decide) ⟨x,H,I1,ru,⟨rfl,fun ys hy=>by rw [I.list_inj hy hq];exact hx⟩,st',fun b hb=>(hf b hb).1⟩⟩
 done:=by
  intro X hP hw hK hc i pins s σ H E I hf st hg;subst hP hw hK;obtain ⟨xs,hq,hx⟩:=hg;obtain ⟨its,rv,p,hz⟩:=I.list hq;obtain ⟨f0,f1,f2,f3,f4,f5⟩:=hf it (by simp);have hl:=rv.length;exact wpAny_pyNext_list_end (I.ok.hd hc) st p.isList (by simp;omega) fun h' eb=>⟨rfl,I.turned (t':=s.toks) (fun b o hb e=>eb b o hb e) f0 f1 f3 f4 f5⟩
 self:=fun _ _ _ _ _ st h=>wpAny_pyIter_listiter st h
theorem iB {P:Program} {w:World} {K:PySem.W.Frag} {tg:Expr} (a it:Addr):rG P w K tg (Itt K a) [it] it (fun i h=>h.IsTupleIter it a i) where
 mem:=by simp
 obj:=fun i h st b hb=>by
  have e:b=it:=by simpa using hb
  subst e;obtain ⟨o,e,c,d⟩:=st;exact ⟨o,e,fun v z=>by rw [d] at z;cases z⟩
 keep:=fun i h h' st k=>st.at fun o e=>k it (by simp) o e
 item:=by
  intro X hP hw hK hc i pins s σ H E I hf st hg;subst hP hw hK;obtain ⟨xs,x,hq,hx⟩:=hg;obtain ⟨its,rv,p,hz⟩:=I.tuple hq;obtain ⟨u,hu,ru⟩:=rv.get hx;obtain ⟨f0,f1,f2,f3,f4,f5⟩:=hf it (by simp);refine wpAny_pyNext_tuple_item st (show s.heap.IsTuple a its.toArray from p) (x:=u) (by simpa using hu) fun h' st' sb=>?_
  have I1:Inv X pins σ H { s with heap:=h' }:=I.turned (t':=s.toks) (fun b o hb e=>(sb.2 b hb).trans e) f0 f1 f3 f4 f5;obtain ⟨o,e,c,d⟩:=id st';exact ⟨u,rfl,QE (s:={ s with heap:=h' }) e c d (by decide) ⟨x,H,I1,ru,⟨rfl,fun ys hy=>by rw [I.tuple_inj hy hq];exact hx⟩,st',fun b hb=>(hf b hb).1⟩⟩
 done:=by
  intro X hP hw hK hc i pins s σ H E I hf st hg;subst hP hw hK;obtain ⟨xs,hq,hx⟩:=hg;obtain ⟨its,rv,p,hz⟩:=I.tuple hq;obtain ⟨f0,f1,f2,f3,f4,f5⟩:=hf it (by simp);have hl:=rv.length;exact wpAny_pyNext_tuple_end (I.ok.hd hc) st (show s.heap.IsTuple a its.toArray from p) (by simp;omega) fun h' eb=>⟨rfl,I.turned (t':=s.toks) (fun b o hb e=>eb b o hb e) f0 f1 f3 f4 f5⟩
 self:=fun _ _ _ _ _ st h=>wpAny_pyIter_tupleiter st h
theorem lB {P:Program} {w:World} {K:PySem.W.Frag} {tg:Expr} (it:Addr) (lo:Int) (n:Nat):rG P w K tg (Itr lo n) [it] it (fun i h=>IsRangeIter h it (lo + (i:Nat) * 1) ((n:Int) - (i:Nat)) 1) where
 mem:=by simp
 obj:=fun i h st b hb=>by
  have e:b=it:=by simpa using hb
  subst e;exact ⟨_,st,fun v z=>by
   have z':Data.fields _=Data.cell v:=z;cases z'⟩
 keep:=fun i h h' st k=>k it (by simp) _ st
 item:=by
  intro X hP hw hK hc i pins s σ H E I hf st hg;subst hP hw hK;obtain ⟨f0,f1,f2,f3,f4,f5⟩:=hf it (by simp);have W:=Walks.range (prog:=X.prog) (w:=X.w) (I.ok.hd hc) it lo 1 n;refine W.item i s _ _ hg st fun v h' tk hv st' kk=>?_
  obtain ⟨t,rfl⟩:=hv;have I1:Inv X pins σ H { s with heap:=h',toks:=tk }:=I.turned (fun b o hb e=>kk b o (by simpa using hb) e) f0 f1 f3 f4 f5;refine ⟨_,rfl,QE (s:={ s with heap:=h',toks:=tk }) (n := "range_iterator") st' rfl rfl (by decide) ⟨.int (lo + i),H,I1,⟨t,?_⟩,⟨rfl,rfl⟩,st',fun b hb=>(hf b hb).1⟩⟩;rw [Int.mul_one]
 done:=by
  intro X hP hw hK hc i pins s σ H E I hf st hg;subst hP hw hK;obtain ⟨f0,f1,f2,f3,f4,f5⟩:=hf it (by simp);exact wpAny_pyNext_range_end (I.ok.hd hc) st (by have:n ≤ i:=hg;omega) fun h' eb=>⟨rfl,I.turned (t':=s.toks) (fun b o hb e=>eb b o hb e) f0 f1 f3 f4 f5⟩
 self:=fun _ _ _ _ _ st h=>wpAny_pyIter_rangeiter st h
end L2
namespace L2
open PySem PySem.Spec PyProof.Rows
section
variable {X:Cx} {tg:Expr}
noncomputable def PN (K:PySem.W.Frag) (tl:TE):TI:=fun σ H R=>tl σ H fun x H1=>Xh x fun a=>(∃ xs,SqL K H1 a xs)∧R (Itl K a) H1
noncomputable def sP (K:PySem.W.Frag) (tl:TE):TI:=fun σ H R=>tl σ H fun x H1=>Xh x fun a=>(∃ xs,SqT K H1 a xs)∧R (Itt K a) H1
theorem Eg {l:Expr} {tl:TE} (hl:PE X l tl):PI X tg l (PN X.K tl):=by
 intro pins s σ H R I h;refine thn (hl pins s σ H _ I h) fun v s1 hZ1=>?_
 obtain ⟨x,H1,I1,r1,q1⟩:=hZ1;obtain ⟨a,e,⟨xs,hq⟩,q⟩:=Xh.out q1;subst e;cases r1;obtain ⟨its,rv,p,hz⟩:=I1.list hq;refine wpAny_pyIter_list p.isList ?_;refine ⟨s1.heap.objs.size,[s1.heap.objs.size],_,_,H1,rfl,I1.kept (t':=s1.toks) fun b o e=>Heap.get?_push_of_some _ e,YF a _,⟨_,Heap.get?_push_size _ rfl,rfl,rfl⟩,fun b hb=>?_,q⟩;have e:b=s1.heap.objs.size:=by simpa using hb
 subst e;exact I1.fpOk (Nat.le_refl _) (I1.hok.fresh (Nat.le_refl _))
theorem oJ {l:Expr} {tl:TE} (hl:PE X l tl):PI X tg l (sP X.K tl):=by
 intro pins s σ H R I h;refine thn (hl pins s σ H _ I h) fun v s1 hZ1=>?_
 obtain ⟨x,H1,I1,r1,q1⟩:=hZ1;obtain ⟨a,e,⟨xs,hq⟩,q⟩:=Xh.out q1;subst e;cases r1;obtain ⟨its,rv,p,hz⟩:=I1.tuple hq;refine wpAny_pyIter_tuple (show s1.heap.IsTuple a its.toArray from p) ?_;refine ⟨s1.heap.objs.size,[s1.heap.objs.size],_,_,H1,rfl,I1.kept (t':=s1.toks) fun b o e=>Heap.get?_push_of_some _ e,iB a _,⟨_,Heap.get?_push_size _ rfl,rfl,rfl⟩,fun b hb=>?_,q⟩;have e:b=s1.heap.objs.size:=by simpa using hb
 subst e;exact I1.fpOk (Nat.le_refl _) (I1.hok.fresh (Nat.le_refl _))
theorem Uz {pins:List (Addr × Obj)} {σ:St} {H:Hp} {s:Shared} {R:It→Hp→Prop} {E:Value→Shared→Prop} {lo hi:Int} {t u v:Tok} {tk:Nat} (I:Inv X pins σ H s) (h1:-(2 ^ 62) ≤ lo) (h2:lo < 2 ^ 62) (h3:-(2 ^ 62) ≤ hi) (h4:hi < 2 ^ 62)
  (q:R (Itr lo (hi - lo).toNat) H):wpAny (model X.prog X.w) X.A (pyIter (.ref s.heap.objs.size)) (PIE X pins σ tg R) E { s with heap:=s.heap.push { cls:=.type "range",data:=.fields #[.int lo t,.int hi u,.int 1 v] },toks:=tk }:=by
 refine wpAny_pyIter_range (IsRange.new ..) (small_one h1 h2 h3 h4) ?_;have I1:Inv X pins σ H { s with heap:=s.heap.push { cls:=.type "range",data:=.fields #[.int lo t,.int hi u,.int 1 v] },toks:=tk }:=I.kept fun b o e=>Heap.get?_push_of_some _ e
 refine ⟨(s.heap.push { cls:=.type "range",data:=.fields #[.int lo t,.int hi u,.int 1 v] }).objs.size,[(s.heap.push { cls:=.type "range",data:=.fields #[.int lo t,.int hi u,.int 1 v] }).objs.size],_,_,H,rfl,
  I1.kept (t':=tk) fun b o e=>Heap.get?_push_of_some _ e,lB _ lo (hi - lo).toNat,?_,fun b hb=>?_,q⟩
 ·have e1:lo + ((0:Nat):Int) * 1=lo:=by simp
  have e2:(((hi - lo).toNat:Nat):Int) - ((0:Nat):Int)=Builtin.Range.rangeSize lo hi 1:=by rw [rangeSize_one];split <;> omega
  show IsRangeIter _ _ (lo + ((0:Nat):Int) * 1) ((((hi - lo).toNat:Nat):Int) - ((0:Nat):Int)) 1;rw [e1,e2];exact Heap.get?_push_size _ rfl
 ·have e:b=(s.heap.push { cls:=.type "range",data:=.fields #[.int lo t,.int hi u,.int 1 v] }).objs.size:=by simpa using hb
  subst e;exact I1.fpOk (Nat.le_refl _) (I1.hok.fresh (Nat.le_refl _))
noncomputable def ML (ta:TA):TI:=fun σ H R=>ta σ H fun vs H1=>EB vs fun x=>Wj x fun j=>-(2 ^ 62) ≤ j∧j < 2 ^ 62∧R (Itr 0 j.toNat) H1
noncomputable def SL (ta:TA):TI:=fun σ H R=>ta σ H fun vs H1=>∃ i j:Int,vs=[.int i,.int j]∧(-(2 ^ 62) ≤ i∧i < 2 ^ 62∧-(2 ^ 62) ≤ j∧j < 2 ^ 62)∧R (Itr i (j - i).toNat) H1
theorem Ae {a:Expr} {ta:TA} {p pos:Pos} (hg:Gl X "range") (hm:X.mg "range"=none) (ha:PA X [a] ta) (hs:starEach [a] X.env=[(false,eval a X.env)]:=by rfl):PI X tg (.Call (.Name "range" p) [a] [] pos) (ML ta):=by
 intro pins s σ H R I h;refine Call_ (rn I hg hm boot_range (PyProof.Rows.callWith_type1 (thn (ha pos pins s σ H _ I h) fun us s1 hZ1=>?_) hs rfl));obtain ⟨vs,H1,I1,r1,q1⟩:=hZ1;obtain ⟨zx,ze,zq⟩:=EB.out q1;obtain ⟨j,zf,zp,q2,q⟩:=Wj.out zq;have e:=ze.trans (congrArg (fun z=>[z]) zf);subst e;cases r1 with
 | cons r rr=>
  cases rr;obtain ⟨t,rfl⟩:=r;exact call_range_1 (Uz I1 (by omega) (by omega) zp q2 (by simpa using q))
theorem Aq {a b:Expr} {ta:TA} {p pos:Pos} (hg:Gl X "range") (hm:X.mg "range"=none) (ha:PA X [a,b] ta) (hs:starEach [a,b] X.env=[(false,eval a X.env),(false,eval b X.env)]:=by rfl) (hs2:starEach [b] X.env=[(false,eval b X.env)]:=by rfl) :
  PI X tg (.Call (.Name "range" p) [a,b] [] pos) (SL ta):=by
 intro pins s σ H R I h;refine Call_ (rn I hg hm boot_range (PyProof.Rows.callWith_type1 (thn (ha pos pins s σ H _ I h) fun us s1 hZ1=>?_) (by rw [hs,hs2]) (by rw [hs2];rfl)));obtain ⟨vs,H1,I1,r1,q1⟩:=hZ1;obtain ⟨i,j,e,⟨q1,q2,q3,q4⟩,q⟩:=q1;subst e;cases r1 with
 | cons r rr=>
  cases rr with
  | cons r' rr=>
   cases rr;obtain ⟨t,rfl⟩:=r;obtain ⟨t',rfl⟩:=r';exact call_range_2 (Uz I1 q1 q2 q3 q4 q)
noncomputable def CP (wi:TI) (g:TG) (tb:TS):TS:=fun D σ H=>wi σ H fun J H1=>∃ W:Nat→Nat→St→Hp→Prop,(∃ m,W 0 m σ H1)∧∀ i m σ H,W i m σ H →
 (J.stop i H∧D.nx σ H)∨(J.go i H∧∃ N:St→Hp→Prop,(∀ σ' H',N σ' H'→∃ m',m' < m∧W (i + 1) m' σ' H')∧∀ x H',J.yld i H x H'→g x σ H' fun σ2 H2=>tb { D with nx:=N,ct:=N,bk:=D.nx } σ2 H2)
noncomputable def gw (fp:List Addr) (h:Heap):List (Addr × Obj):=fp.filterMap fun b=>(h.get? b).map fun o=>(b,o)
theorem El {fp:List Addr} {h:Heap} {b:Addr} {o:Obj} (hb:b ∈ fp) (e:h.get? b=some o):(b,o) ∈ gw fp h:=List.mem_filterMap.mpr ⟨b,hb,by rw [e];rfl⟩
theorem RD {fp:List Addr} {h:Heap} {p:Addr × Obj} (hp:p ∈ gw fp h):p.1 ∈ fp∧h.get? p.1=some p.2:=by
 obtain ⟨b,hb,e⟩:=List.mem_filterMap.mp hp;cases q:h.get? b with
 | none=>rw [q] at e;cases e
 | some o=>
  rw [q] at e;have e':(b,o)=p:=Option.some.inj e;subst e';exact ⟨hb,q⟩
theorem Inv.pinned {pins:List (Addr × Obj)} {σ:St} {H:Hp} {s:Shared} {fp:List Addr} (I:Inv X pins σ H s) (hf:∀ b ∈ fp,Uu X pins H b) (ho:∀ b ∈ fp,∃ o,s.heap.get? b=some o∧∀ v,o.data ≠ .cell v):Inv X (pins ++ gw fp s.heap) σ H s:=
 I.pins_of fun p hp=>(List.mem_append.mp hp).elim (fun z=>I.pin p (List.mem_append_right _ z)) fun z=>by
  obtain ⟨hb,e⟩:=RD z;obtain ⟨f0,f1,f2,_⟩:=hf p.1 hb;obtain ⟨o,e',d⟩:=ho p.1 hb;rw [e] at e';cases e';exact ⟨e,f0,f1,f2,d⟩
theorem Inv.unpinned {pins pl:List (Addr × Obj)} {σ:St} {H:Hp} {s:Shared} (I:Inv X (pins ++ pl) σ H s):Inv X pins σ H s:=I.pins_of fun p hp=>I.pin p (List.mem_append_right _ (List.mem_append_left _ hp))
theorem cf {iter:Expr} {body:List Stmt} {wi:TI} {g:TG} {tb:TS} {pos:Pos} (hp:PassesOwn (model X.prog X.w) X.A X.env X.xe) (hc:X.calm=true) (hi:PI X tg iter wi) (hg:PG X tg g) (hb:PSs X body tb)
  (hs:∀ x,foldedSetIterable iter X.env x=pure x:=by intro _;rfl):PS X (.For tg iter body [] pos) (CP wi g tb):=by
 intro pins s σ H D I h;refine wpAny_For (thn (hi pins s σ H _ I h) fun v s1 h1=>thn h1 fun itv s2 h2=>?_) hs;obtain ⟨it,fp,tn,J,H2,e,I2,T,st2,f2,W,⟨m0,w0⟩,turn⟩:=h2;subst e;have stat:∀ {H':Hp},(∀ b ∈ fp,H' b=none)→∀ b ∈ fp,Uu X pins H' b:=fun hn b hb=>⟨hn b hb,(f2 b hb).2⟩
 refine codeAny_forLoop_any (fun n s'=>∃ i σ' H',Inv X pins σ' H' s'∧tn i s'.heap∧(∀ b ∈ fp,H' b=none)∧W i n σ' H') ?_ m0 ⟨0,σ,H2,I2,st2,fun b hb=>(f2 b hb).1,w0⟩;rintro n s3 ⟨i,σ3,H3,I3,st3,fr3,w3⟩;rcases turn i n σ3 H3 w3 with ⟨stop,qn⟩ | ⟨go,N,hN,step⟩
 ·refine wpAny_passesOwn hp (thn (T.done X rfl rfl rfl hc i pins s3 σ3 H3 X.xe I3 (stat fr3) st3 stop) fun r s4 hZ1=>?_);obtain ⟨hr,I4⟩:=hZ1;subst hr;exact wpAny_execs_nil ⟨σ3,H3,I4,qn⟩
 ·refine wpAny_passesOwn hp (thn (T.item X rfl rfl rfl hc i pins s3 σ3 H3 X.xe I3 (stat fr3) st3 go) fun r s4 hZ1=>?_);obtain ⟨u,hr,h4⟩:=hZ1;subst hr;refine wpAny_passesOwn hp (thn h4 fun _ s5 hZ1=>?_);obtain ⟨x,H5,I5,r5,y5,st5,fr5⟩:=hZ1;have I5':=I5.pinned (stat fr5) (T.obj _ _ st5);refine wpAny_passesOwn hp (thn (hg _ s5 σ3 H5 x u _ I5' r5 (step x H5 y5)) fun _ s6 hZ1=>?_);obtain ⟨σ6,H6,I6,q6⟩:=hZ1;refine wpAny_passesOwn hp (thn (hb _ s6 σ6 H6 _ I6 q6) fun f s7 q7=>?_);have again:∀ {σ7:St} {H7:Hp},Inv X (pins ++ gw fp s5.heap) σ7 H7 s7→N σ7 H7→∃ m,m < n∧∃ i σ' H',Inv X pins σ' H' s7∧tn i s7.heap∧(∀ b ∈ fp,H' b=none)∧W i m σ' H':=fun {σ7 H7} I7 n7=>by
   obtain ⟨m',hm,w7⟩:=hN σ7 H7 n7;refine ⟨m',hm,i + 1,σ7,H7,I7.unpinned,T.keep _ _ _ st5 fun b hb o e=>(I7.pin (b,o) (List.mem_append_right _ (List.mem_append_right _ (El hb e)))).1,fun b hb=>?_,w7⟩;obtain ⟨o,e,d⟩:=T.obj _ _ st5 b hb;exact (I7.pin (b,o) (List.mem_append_right _ (List.mem_append_right _ (El hb e)))).2.1
  cases f with
  | next=>obtain ⟨σ7,H7,I7,n7⟩:=q7;exact again I7 n7
  | cont=>obtain ⟨σ7,H7,I7,n7⟩:=q7;exact again I7 n7
  | brk=>obtain ⟨σ7,H7,I7,q7⟩:=q7;exact ⟨σ7,H7,I7.unpinned,q7⟩
  | ret v=>obtain ⟨x7,σ7,H7,I7,r7,q7⟩:=q7;exact ⟨x7,σ7,H7,I7.unpinned,r7,q7⟩
end
theorem qH {K:PySem.W.Frag} {a:Addr} {xs:List V} {g:TG} {tb:TS} {D:Xj} {σ:St} {H:Hp} (Pv:Nat→St→Hp→Prop) (h0:Pv 0 σ H) (hl:∀ i σ H,i ≤ xs.length→Pv i σ H→SqL K H a xs)
  (hs:∀ i x σ H,xs[i]? = some x→Pv i σ H→g x σ H fun σ2 H2=>tb { D with nx:=Pv (i + 1),ct:=Pv (i + 1),bk:=D.nx } σ2 H2) (hd:∀ σ H,Pv xs.length σ H→D.nx σ H) :
  ∃ W:Nat→Nat→St→Hp→Prop,(∃ m,W 0 m σ H)∧∀ i m σ H,W i m σ H →
   ((Itl K a).stop i H∧D.nx σ H)∨((Itl K a).go i H∧∃ N:St→Hp→Prop,(∀ σ' H',N σ' H'→∃ m',m' < m∧W (i + 1) m' σ' H')∧∀ x H',(Itl K a).yld i H x H'→g x σ H' fun σ2 H2=>tb { D with nx:=N,ct:=N,bk:=D.nx } σ2 H2):=by
 refine ⟨fun i m σ H=>m=xs.length - i∧i ≤ xs.length∧Pv i σ H,⟨xs.length,by simp,Nat.zero_le _,h0⟩,?_⟩;rintro i m σ H ⟨rfl,hi,p⟩;have q:=hl i σ H hi p;by_cases hlt:i < xs.length
 ·refine .inr ⟨⟨xs,xs[i],q,by simp [hlt]⟩,Pv (i + 1),fun σ' H' p'=>⟨xs.length - (i + 1),by omega,rfl,hlt,p'⟩,fun x H' y=>?_⟩;obtain ⟨e,y⟩:=y;subst e;exact hs i x σ _ (y xs q) p
 ·have e:i=xs.length:=by omega
  subst e;exact .inl ⟨⟨xs,q,Nat.le_refl _⟩,hd σ H p⟩
theorem KF {lo:Int} {n:Nat} {g:TG} {tb:TS} {D:Xj} {σ:St} {H:Hp} (Pv:Nat→St→Hp→Prop) (h0:Pv 0 σ H)
  (hs:∀ i σ H,i < n→Pv i σ H→g (.int (lo + i)) σ H fun σ2 H2=>tb { D with nx:=Pv (i + 1),ct:=Pv (i + 1),bk:=D.nx } σ2 H2) (hd:∀ σ H,Pv n σ H→D.nx σ H) :
  ∃ W:Nat→Nat→St→Hp→Prop,(∃ m,W 0 m σ H)∧∀ i m σ H,W i m σ H →
   ((Itr lo n).stop i H∧D.nx σ H)∨((Itr lo n).go i H∧∃ N:St→Hp→Prop,(∀ σ' H',N σ' H'→∃ m',m' < m∧W (i + 1) m' σ' H')∧∀ x H',(Itr lo n).yld i H x H'→g x σ H' fun σ2 H2=>tb { D with nx:=N,ct:=N,bk:=D.nx } σ2 H2):=by
 refine ⟨fun i m σ H=>m=n - i∧i ≤ n∧Pv i σ H,⟨n,by simp,Nat.zero_le _,h0⟩,?_⟩;rintro i m σ H ⟨rfl,hi,p⟩;by_cases hlt:i < n
 ·refine .inr ⟨hlt,Pv (i + 1),fun σ' H' p'=>⟨n - (i + 1),by omega,rfl,hlt,p'⟩,fun x H' y=>?_⟩;obtain ⟨e,y⟩:=y;subst e y;exact hs i σ _ hlt p
 ·have e:i=n:=by omega
  subst e;exact .inl ⟨Nat.le_refl _,hd σ H p⟩
end L2
namespace L2
open PySem PySem.Spec PyProof.Rows
noncomputable abbrev R2:=V→V→Hp→VK→Prop
noncomputable def OpR (X:Cx) (f:Value→Value→Sem Value) (r:R2):Prop:=
 ∀ (pins:List (Addr × Obj)) (s:Shared) (σ:St) (H:Hp) (x y:V) (v u:Value) (Q:VK),Inv X pins σ H s→zd x v→zd y u→r x y H Q →
  wpAny (model X.prog X.w) X.A (f v u) (EP X pins σ Q) X.xe s
noncomputable def UnR (X:Cx) (f:Value→Sem Value) (r:V→Hp→VK→Prop):Prop:=
 ∀ (pins:List (Addr × Obj)) (s:Shared) (σ:St) (H:Hp) (x:V) (v:Value) (Q:VK),Inv X pins σ H s→zd x v→r x H Q →
  wpAny (model X.prog X.w) X.A (f v) (EP X pins σ Q) X.xe s
noncomputable def Fj (X:Cx) (f:Value) (r:List V→Hp→VK→Prop):Prop:=
 ∀ (pins:List (Addr × Obj)) (s:Shared) (σ:St) (H:Hp) (xs:List V) (us:List Value) (Q:VK),Inv X pins σ H s→pd xs us→r xs H Q →
  wpAny (model X.prog X.w) X.A (call f us) (EP X pins σ Q) X.xe s
noncomputable def cQ (X:Cx) (r:V→Hp→(Bool→Hp→Prop)→Prop):Prop:=
 ∀ (pins:List (Addr × Obj)) (s:Shared) (σ:St) (H:Hp) (x:V) (v:Value) (Q:Bool→Hp→Prop),Inv X pins σ H s→zd x v→r x H Q →
  wpAny (model X.prog X.w) X.A (truthy v) (TP X pins σ Q) X.xe s
noncomputable def tOp (r:R2) (ta tb:TE):TE:=fun σ H Q=>ta σ H fun x H1=>tb σ H1 fun y H2=>r x y H2 Q
noncomputable def tUn (r:V→Hp→VK→Prop) (ta:TE):TE:=fun σ H Q=>ta σ H fun x H1=>r x H1 Q
noncomputable def rI (C:Int→Int→Prop) (g:Int→Int→V):R2:=fun x y H Q=>Wj x fun i=>Wj y fun j=>C i j∧Q (g i j) H
noncomputable def rI0 (g:Int→Int→V):R2:=fun x y H Q=>Wj x fun i=>Wj y fun j=>Q (g i j) H
noncomputable def rU (g:Int→V):V→Hp→VK→Prop:=fun x H Q=>Wj x fun i=>Q (g i) H
section
variable {X:Cx} {a b c:Expr} {ta tb tc:TE} {pos:Pos}
theorem UO (ha:PE X a ta) (hb:PE X b tb) {pins:List (Addr × Obj)} {s:Shared} {σ:St} {H:Hp} {R:V→V→Hp→Prop} (I:Inv X pins σ H s)
  (h:ta σ H fun x H1=>tb σ H1 fun y H2=>R x y H2) {Q:Value→Shared→Prop} {f:Value→Value→Sem Value}
  (hf:∀ v u s2 x y H2,Inv X pins σ H2 s2→zd x v→zd y u→R x y H2→wpAny (model X.prog X.w) X.A (f v u) Q X.xe s2) :
  wpAny (model X.prog X.w) X.A (eval a X.env) (fun v s₁=>wpAny (model X.prog X.w) X.A (eval b X.env) (fun u s₂=>wpAny (model X.prog X.w) X.A (f v u) Q X.xe s₂) X.xe s₁) X.xe s:=by
 refine thn (ha pins s σ H _ I h) fun v s1 hZ1=>?_
 obtain ⟨x,H1,I1,r1,q1⟩:=hZ1;refine thn (hb pins s1 σ H1 _ I1 q1) fun u s2 hZ1=>?_
 obtain ⟨y,H2,I2,r2,q2⟩:=hZ1;exact hf v u s2 x y H2 I2 r1 r2 q2
theorem Yb {op:Operator} {r:R2} (ho:OpR X (binaryOp op) r) (ha:PE X a ta) (hb:PE X b tb):PE X (.BinOp a op b pos) (tOp r ta tb):=by
 intro pins s σ H Q I h;exact wpAny_BinOp (UO ha hb I h fun v u s2 x y H2 I2 rx ry q=>ho pins s2 σ H2 x y v u Q I2 rx ry q)
theorem oN {op:UnaryOp} {r:V→Hp→VK→Prop} (ho:UnR X (unaryOp op) r) (ha:PE X a ta):PE X (.UnaryOp op a pos) (tUn r ta):=by
 intro pins s σ H Q I h;exact UnaryOp_ (thn (ha pins s σ H _ I h) fun v s1 ⟨x,H1,I1,r1,q1⟩=>ho pins s1 σ H1 x v Q I1 r1 q1)
theorem opI {f:Value→Value→Sem Value} {C:Int→Int→Prop} {g:Int→Int→Int}
  (rule:∀ (i j:Int) (t u:Tok) (s:Shared) (Q:Value→Shared→Prop) (E:Value→Shared→Prop),C i j→Q (.int (g i j) s.toks) { s with toks:=s.toks + 1 }→wpAny (model X.prog X.w) X.A (f (.int i t) (.int j u)) Q E s) :
  OpR X f (rI C fun i j=>.int (g i j)):=by
 intro pins s σ H x y v u Q I rx ry h;obtain ⟨i,rfl,hzz⟩:=Wj.out h;obtain ⟨j,rfl,hc,q⟩:=Wj.out hzz;obtain ⟨t,rfl⟩:=rx;obtain ⟨t',rfl⟩:=ry;exact rule i j t t' s _ _ hc ⟨.int (g i j),H,I.tok _,⟨_,rfl⟩,q⟩
theorem XO {f:Value→Value→Sem Value} {g:Int→Int→Int}
  (rule:∀ (i j:Int) (t u:Tok) (s:Shared) (Q:Value→Shared→Prop) (E:Value→Shared→Prop),Q (.int (g i j) s.toks) { s with toks:=s.toks + 1 }→wpAny (model X.prog X.w) X.A (f (.int i t) (.int j u)) Q E s) :
  OpR X f (rI0 fun i j=>.int (g i j)):=by
 intro pins s σ H x y v u Q I rx ry h;obtain ⟨i,rfl,hzz⟩:=Wj.out h;obtain ⟨j,rfl,q⟩:=Wj.out hzz;obtain ⟨t,rfl⟩:=rx;obtain ⟨t',rfl⟩:=ry;exact rule i j t t' s _ _ ⟨.int (g i j),H,I.tok _,⟨_,rfl⟩,q⟩
theorem WN {f:Value→Value→Sem Value} {g:Int→Int→Bool}
  (rule:∀ (i j:Int) (t u:Tok) (s:Shared) (Q:Value→Shared→Prop) (E:Value→Shared→Prop),Q (.bool (g i j)) s→wpAny (model X.prog X.w) X.A (f (.int i t) (.int j u)) Q E s) :
  OpR X f (rI0 fun i j=>.bl (g i j)):=by
 intro pins s σ H x y v u Q I rx ry h;obtain ⟨i,rfl,hzz⟩:=Wj.out h;obtain ⟨j,rfl,q⟩:=Wj.out hzz;obtain ⟨t,rfl⟩:=rx;obtain ⟨t',rfl⟩:=ry;exact rule i j t t' s _ _ ⟨.bl (g i j),H,I,rfl,q⟩
noncomputable def YO (i j:Int):Prop:=0 < j∧j < 1073741824
noncomputable def sK (i j:Int):Prop:=(-(2 ^ 64) < i∧i < 2 ^ 64)∨(-(2 ^ 64) < j∧j < 2 ^ 64)
theorem sK.ok {i j:Int} (h:sK i j):IntMulOk i j:=by
 rcases h with ⟨h1,h2⟩ | ⟨h1,h2⟩
 ·exact .of_left (intBits_le_64 h1 h2)
 ·exact .of_right (intBits_le_64 h1 h2)
theorem wc:OpR X (binaryOp .Add) (rI0 fun i j=>.int (i + j)):=XO fun _ _ _ _ _ _ _ q=>add_int q
theorem Vh:OpR X (binaryOp .Sub) (rI0 fun i j=>.int (i - j)):=XO fun _ _ _ _ _ _ _ q=>sub_int q
theorem ph:OpR X (binaryOp .Mult) (rI sK fun i j=>.int (i * j)):=opI fun _ _ _ _ _ _ _ hc q=>mul_int q hc.ok
theorem QJ:OpR X (binaryOp .FloorDiv) (rI YO fun i j=>.int (i / j)):=opI fun i j _ _ _ _ _ hc q=>by
 have h1:(0:Int) < j:=hc.1;have h2:j < 1073741824:=hc.2;exact floordiv_int (by omega) (by rw [Int.fdiv_eq_ediv_of_nonneg i (by omega)];exact q) (.inl (PyProof.noPylong_small (by omega)))
theorem wg:OpR X (binaryOp .Mod) (rI (fun _ j=>0 < j) fun i j=>.int (i % j)):=opI fun i j _ _ _ _ _ hc q=>by
 have h1:(0:Int) < j:=hc;exact mod_int' (by omega) (by rw [Int.fmod_eq_emod_of_nonneg i (by omega)];exact q)
theorem unI {f:Value→Sem Value} {g:Int→Int}
  (rule:∀ (i:Int) (t:Tok) (s:Shared) (Q:Value→Shared→Prop) (E:Value→Shared→Prop),Q (.int (g i) s.toks) { s with toks:=s.toks + 1 }→wpAny (model X.prog X.w) X.A (f (.int i t)) Q E s) :
  UnR X f (rU fun i=>.int (g i)):=by
 intro pins s σ H x v Q I rx h;obtain ⟨i,rfl,q⟩:=Wj.out h;obtain ⟨t,rfl⟩:=rx;exact rule i t s _ _ ⟨.int (g i),H,I.tok _,⟨_,rfl⟩,q⟩
theorem YI:UnR X (unaryOp .USub) (rU fun i=>.int (-i)):=unI fun _ _ _ _ _ q=>neg_int q
end
noncomputable def dM:V→V→Bool
 | .non,.non=>true | .non,.int _=>true | .int _,.non=>true | .non,.bl _=>true | .bl _,.non=>true | .non,.str _=>true | .str _,.non=>true
 | .int _,.int _=>true | .bl _,.bl _=>true | .str _,.str _=>true | .byt _,.byt _=>true
 | .int _,.str _=>true | .str _,.int _=>true | .bl _,.str _=>true | .str _,.bl _=>true
 | _,_=>false
noncomputable def rEq:R2:=fun x y H Q=>dM x y=true∧Q (.bl (decide (x=y))) H
noncomputable def rNe:R2:=fun x y H Q=>dM x y=true∧Q (.bl (!decide (x=y))) H
theorem DD {i j:Int}:decide (V.int i=V.int j)=(i == j):=by
 rw [Bool.eq_iff_iff];simp
theorem KJ {i j:Bool}:decide (V.bl i=V.bl j)=(i == j):=by
 rw [Bool.eq_iff_iff];simp
theorem dG {i j:Str}:decide (V.str i=V.str j)=(i == j):=by
 rw [Bool.eq_iff_iff];simp
theorem YE {i j:Array UInt8}:decide (V.byt i=V.byt j)=(i.toList == j.toList):=by
 rw [Bool.eq_iff_iff];cases i;cases j;simp
section
variable {X:Cx} {a b c:Expr} {ta tb tc:TE} {pos:Pos}
theorem Wc {pins:List (Addr × Obj)} {σ:St} {H:Hp} {s:Shared} {Q:VK} {k k':Bool} (I:Inv X pins σ H s) (q:Q (.bl k) H) (e:k=k'):EP X pins σ Q (.bool k') s:=by
 subst e;exact ⟨.bl k,H,I,rfl,q⟩
theorem Of:OpR X (compareOp .Eq) rEq:=by
 intro pins s σ H x y v u Q I rx ry h;obtain ⟨hs,q⟩:=h;cases x with
 | non=>
  cases rx;cases y with
  | non=>cases ry;exact PySem.EqNone.eq_none_none (Wc I q (by simp))
  | bl j=>cases ry;exact PySem.EqNone.eq_none_bool (Wc I q (by simp))
  | int j=>obtain ⟨t',rfl⟩:=ry;exact PySem.EqNone.eq_none_int (Wc I q (by simp))
  | str j=>obtain ⟨t',rfl⟩:=ry;exact PySem.EqNone.eq_none_str (Wc I q (by simp))
  | _=>exact absurd (show false=true from hs) Bool.false_ne_true
 | bl i=>
  cases rx;cases y with
  | non=>cases ry;exact PySem.EqNone.eq_bool_none (Wc I q (by simp))
  | bl j=>cases ry;exact eq_bool (Wc I q KJ)
  | str j=>obtain ⟨t',rfl⟩:=ry;exact PySem.EqMixed.eq_bool_str (Wc I q (by simp))
  | _=>exact absurd (show false=true from hs) Bool.false_ne_true
 | int i=>
  obtain ⟨t,rfl⟩:=rx;cases y with
  | non=>cases ry;exact PySem.EqNone.eq_int_none (Wc I q (by simp))
  | int j=>obtain ⟨t',rfl⟩:=ry;exact eq_int (Wc I q DD)
  | str j=>obtain ⟨t',rfl⟩:=ry;exact PySem.EqMixed.eq_int_str (Wc I q (by simp))
  | _=>exact absurd (show false=true from hs) Bool.false_ne_true
 | str i=>
  obtain ⟨t,rfl⟩:=rx;cases y with
  | non=>cases ry;exact PySem.EqNone.eq_str_none (Wc I q (by simp))
  | bl j=>cases ry;exact PySem.EqMixed.eq_str_bool (Wc I q (by simp))
  | int j=>obtain ⟨t',rfl⟩:=ry;exact PySem.EqMixed.eq_str_int (Wc I q (by simp))
  | str j=>obtain ⟨t',rfl⟩:=ry;exact eq_str (Wc I q dG)
  | _=>exact absurd (show false=true from hs) Bool.false_ne_true
 | byt i=>
  obtain ⟨t,rfl⟩:=rx;cases y with
  | byt j=>obtain ⟨t',rfl⟩:=ry;exact PySem.W.eq_bytes (Wc I q YE)
  | _=>exact absurd (show false=true from hs) Bool.false_ne_true
 | _=>cases y <;> exact absurd (show false=true from hs) Bool.false_ne_true
theorem Vs:OpR X (compareOp .NotEq) rNe:=by
 intro pins s σ H x y v u Q I rx ry h;obtain ⟨hs,q⟩:=h;cases x with
 | non=>
  cases rx;cases y with
  | non=>cases ry;exact PySem.EqNone.ne_none_none (Wc I q (by simp))
  | bl j=>cases ry;exact PySem.EqNone.ne_none_bool (Wc I q (by simp))
  | int j=>obtain ⟨t',rfl⟩:=ry;exact PySem.EqNone.ne_none_int (Wc I q (by simp))
  | str j=>obtain ⟨t',rfl⟩:=ry;exact PySem.EqNone.ne_none_str (Wc I q (by simp))
  | _=>exact absurd (show false=true from hs) Bool.false_ne_true
 | bl i=>
  cases rx;cases y with
  | non=>cases ry;exact PySem.EqNone.ne_bool_none (Wc I q (by simp))
  | bl j=>cases ry;exact ne_bool (Wc I q (congrArg not KJ))
  | str j=>obtain ⟨t',rfl⟩:=ry;exact PySem.EqMixed.ne_bool_str (Wc I q (by simp))
  | _=>exact absurd (show false=true from hs) Bool.false_ne_true
 | int i=>
  obtain ⟨t,rfl⟩:=rx;cases y with
  | non=>cases ry;exact PySem.EqNone.ne_int_none (Wc I q (by simp))
  | int j=>obtain ⟨t',rfl⟩:=ry;exact ne_int (Wc I q (congrArg not DD))
  | str j=>obtain ⟨t',rfl⟩:=ry;exact PySem.EqMixed.ne_int_str (Wc I q (by simp))
  | _=>exact absurd (show false=true from hs) Bool.false_ne_true
 | str i=>
  obtain ⟨t,rfl⟩:=rx;cases y with
  | non=>cases ry;exact PySem.EqNone.ne_str_none (Wc I q (by simp))
  | bl j=>cases ry;exact PySem.EqMixed.ne_str_bool (Wc I q (by simp))
  | int j=>obtain ⟨t',rfl⟩:=ry;exact PySem.EqMixed.ne_str_int (Wc I q (by simp))
  | str j=>obtain ⟨t',rfl⟩:=ry;exact ne_str (Wc I q (congrArg not dG))
  | _=>exact absurd (show false=true from hs) Bool.false_ne_true
 | byt i=>
  obtain ⟨t,rfl⟩:=rx;cases y with
  | byt j=>obtain ⟨t',rfl⟩:=ry;exact PySem.W.ne_bytes (Wc I q (congrArg not YE))
  | _=>exact absurd (show false=true from hs) Bool.false_ne_true
 | _=>cases y <;> exact absurd (show false=true from hs) Bool.false_ne_true
theorem Sm:OpR X (compareOp .Lt) (rI0 fun i j=>.bl (decide (i < j))):=WN fun _ _ _ _ _ _ _ q=>lt_int q
theorem LO:OpR X (compareOp .LtE) (rI0 fun i j=>.bl (decide (i ≤ j))):=WN fun _ _ _ _ _ _ _ q=>le_int q
theorem Jp:OpR X (compareOp .Gt) (rI0 fun i j=>.bl (decide (j < i))):=WN fun _ _ _ _ _ _ _ q=>gt_int q
theorem FO:OpR X (compareOp .GtE) (rI0 fun i j=>.bl (decide (j ≤ i))):=WN fun _ _ _ _ _ _ _ q=>ge_int q
theorem xE:OpR X (compareOp .In) (fun x y H Q=>∃ i j,x=.str i∧y=.str j∧Q (.bl (!(Builtin.Str.occurrences j i 0 j.length 1).isEmpty)) H):=by
 intro pins s σ H x y v u Q I rx ry h;obtain ⟨i,j,rfl,rfl,q⟩:=h;obtain ⟨t,rfl⟩:=rx;obtain ⟨t',rfl⟩:=ry;exact in_str (Wc I q rfl)
theorem hG:OpR X (compareOp .Is) (fun x y H Q=>y=.non∧Q (.bl (decide (x=.non))) H):=by
 intro pins s σ H x y v u Q I rx ry h;obtain ⟨rfl,q⟩:=h;cases ry;refine is_none_gen (Wc I q ?_);cases x <;> first
  | (cases rx;rfl)
  | (obtain ⟨t,rfl⟩:=rx;rfl)
theorem Yq:OpR X (compareOp .IsNot) (fun x y H Q=>y=.non∧Q (.bl (!decide (x=.non))) H):=by
 intro pins s σ H x y v u Q I rx ry h;obtain ⟨rfl,q⟩:=h;cases ry;refine isnot_none_gen (Wc I q ?_);cases x <;> first
  | (cases rx;rfl)
  | (obtain ⟨t,rfl⟩:=rx;rfl)
theorem OpR.or {f:Value→Value→Sem Value} {r r':R2} (h:OpR X f r) (h':OpR X f r'):OpR X f (fun x y H Q=>r x y H Q∨r' x y H Q):=by
 intro pins s σ H x y v u Q I rx ry q;rcases q with q | q
 ·exact h pins s σ H x y v u Q I rx ry q
 ·exact h' pins s σ H x y v u Q I rx ry q
theorem Ub (b:Expr) {op:CmpOp} (h:op ≠ .In:=by decide) (h2:op ≠ .NotIn:=by decide):behindInMarks op b=false:=by
 have e1:(op == CmpOp.In)=false:=by cases op <;> first | rfl | exact absurd rfl h
 have e2:(op == CmpOp.NotIn)=false:=by cases op <;> first | rfl | exact absurd rfl h2
 cases b <;> simp [behindInMarks,e1,e2]
theorem ld {op:CmpOp} {r:R2} (ho:OpR X (compareOp op) r) (ha:PE X a ta) (hb:PE X b tb) (hm:behindInMarks op b=false):PE X (.Compare a [op] [b] pos) (tOp r ta tb):=by
 intro pins s σ H Q I h;exact wpAny_Compare1 (UO ha hb I h fun v u s2 x y H2 I2 rx ry q=>ho pins s2 σ H2 x y v u Q I2 rx ry q) hm
noncomputable def KN (t:TE):TT:=fun σ H Q=>t σ H fun x H'=>BlQ x fun k=>Q k H'
theorem Gb {op:CmpOp} {r:R2} (ho:OpR X (compareOp op) r) (ha:PE X a ta) (hb:PE X b tb) (hm:behindInMarks op b=false):PT X (.Compare a [op] [b] pos) (KN (tOp r ta tb)):=by
 intro pins s σ H Q I h;refine wpAny_isTrue_Compare1 (thn (ha pins s σ H _ I h) fun v s1 ⟨x,H1,I1,r1,q1⟩=>thn (hb pins s1 σ H1 _ I1 q1) fun u s2 ⟨y,H2,I2,r2,q2⟩=>
  thn (ho pins s2 σ H2 x y v u _ I2 r1 r2 q2) fun c s3 ⟨z,H3,I3,r3,zq⟩=>?_) hm
 obtain ⟨k,e,q3⟩:=BlQ.out zq;subst e;cases r3;exact wpAny_truthy_bool ⟨H3,I3,q3⟩
noncomputable def qJ (r r':R2) (ta tb tc:TE):TE:=fun σ H Q=>ta σ H fun x H1=>tb σ H1 fun y H2=>r x y H2 fun z H3=>BlQ z fun k=>
 (if k=true then tc σ H3 fun w' H4=>r' y w' H4 Q else Q (.bl false) H3)
theorem ZG {op op':CmpOp} {r r':R2} (ho:OpR X (compareOp op) r) (ho':OpR X (compareOp op') r') (ha:PE X a ta) (hb:PE X b tb) (hc:PE X c tc)
  (hm:lastMarks [op,op'] [b,c]=false:=by with_unfolding_all rfl):PE X (.Compare a [op,op'] [b,c] pos) (qJ r r' ta tb tc):=by
 intro pins s σ H Q I h;refine Compare_chain (thn (ha pins s σ H _ I h) fun v s1 ⟨x,H1,I1,r1,q1⟩=>chain_link (thn (hb pins s1 σ H1 _ I1 q1) fun u s2 ⟨y,H2,I2,r2,q2⟩=>
  thn (ho pins s2 σ H2 x y v u _ I2 r1 r2 q2) fun d s3 ⟨z,H3,I3,r3,zq⟩=>?_)) hm
 obtain ⟨k,e,q3⟩:=BlQ.out zq;subst e;cases r3;refine wpAny_truthy_bool ?_;cases k with
 | false=>exact ite_ff ⟨.bl false,H3,I3,rfl,q3⟩
 | true=>exact ite_tt (chain_last (thn (hc pins s3 σ H3 _ I3 q3) fun w' s4 ⟨z',H4,I4,r4,q4⟩=>ho' pins s4 σ H4 y z' u w' Q I4 r2 r4 q4))
noncomputable def yP (K:PySem.W.Frag) (x:V) (H:Hp) (k:Bool):Prop:=
 match x with
 | .non=>k=false
 | .bl b=>k=b
 | .int i=>k=(i != 0)
 | .str y=>y.length ≤ sizeLine∧k=((y.length:Int) != 0)
 | .byt y=>y.size ≤ sizeLine∧k=((y.size:Int) != 0)
 | .ref p=>(∃ xs,SqL K H p xs∧k = !xs.isEmpty)∨(∃ xs,SqT K H p xs∧k = !xs.isEmpty)∨∃ kvs,H p=some (.dK kvs)∧k = !kvs.isEmpty
 | _=>False
theorem rC {κ:Type} {kvs:List (κ × V)} {vs:List (κ × Value)} (r:KV kvs vs):(!vs.isEmpty) = !kvs.isEmpty:=by
 cases r <;> rfl
theorem ku {xs:List V} {its:List Value} (r:pd xs its):(!its.toArray.isEmpty) = !xs.isEmpty:=by
 cases r <;> simp
theorem Jq:(sizeLine:Nat) < 2 ^ 63:=by rw [sizeLine_eq];decide
theorem pN:cQ X (fun x H Q=>∃ k,yP X.K x H k∧Q k H):=by
 intro pins s σ H x v Q I rx h;obtain ⟨k,e,q⟩:=h;have hl:=Jq;have hs:sizeLine=16777216:=sizeLine_eq;cases x with
 | non=>
  cases rx;have e':k=false:=e;subst e';exact truthy_none ⟨H,I,q⟩
 | bl b=>
  cases rx;have e':k=b:=e;subst e';exact wpAny_truthy_bool ⟨H,I,q⟩
 | int i=>
  obtain ⟨t,rfl⟩:=rx;have e':k=(i != 0):=e;subst e';exact PySem.P.truthy_int ⟨H,I,q⟩
 | str y=>
  obtain ⟨t,rfl⟩:=rx;obtain ⟨hy,e'⟩:y.length ≤ sizeLine∧k=((y.length:Int) != 0):=e;subst e';exact PySem.P.truthy_str (by omega) ⟨H,I.tok _,q⟩
 | byt y=>
  obtain ⟨t,rfl⟩:=rx;obtain ⟨hy,e'⟩:y.size ≤ sizeLine∧k=((y.size:Int) != 0):=e;subst e';exact PySem.W.truthy_bytes (by omega) ⟨H,I.tok _,q⟩
 | ref p=>
  cases rx;have e':(∃ xs,SqL X.K H p xs∧k = !xs.isEmpty)∨(∃ xs,SqT X.K H p xs∧k = !xs.isEmpty)∨∃ kvs,H p=some (.dK kvs)∧k = !kvs.isEmpty:=e;rcases e' with ⟨xs,hx,e'⟩ | ⟨xs,hx,e'⟩ | ⟨kvs,hx,e'⟩
  ·subst e';obtain ⟨its,r,pl,hz⟩:=I.list hx;have hlen:=r.length;exact wpAny_truthy_list pl.isList (by simp only [List.size_toArray];omega) ⟨H,I.tok _,by rw [ku r];exact q⟩
  ·subst e';obtain ⟨its,r,pl,hz⟩:=I.tuple hx;have hlen:=r.length;exact truthy_tuple pl (by simp only [List.size_toArray];omega) ⟨H,I.tok _,by rw [ku r];exact q⟩
  ·subst e';obtain ⟨hz,hS,vs,r,m⟩:kvs.length ≤ sizeLine∧(p == sysModules)=false∧∃ vs,KV kvs vs∧s.heap.DictOf (we X.prog X.w) p vs:=I.hok p _ hx;have hlen:kvs.length=vs.length:=Paired.length r;exact wpAny_truthy_dict hS m (by omega) ⟨H,I.tok _,by rw [rC r];exact q⟩
 | _=>exact (show False from e).elim
theorem cA (ha:PE X a ta) (he:∀ whole,isTrue a X.env whole=(do let v ← whole;standAt a.pos;holding [v] (truthy v))) :
  PT X a (fun σ H Q=>ta σ H fun x H'=>∃ k,yP X.K x H' k∧Q k H'):=by
 intro pins s σ H Q I h;exact isTrue_plain (thn (ha pins s σ H _ I h) fun v s1 ⟨x,H1,I1,r1,q1⟩=>pN pins s1 σ H1 x v Q I1 r1 q1) (he _)
theorem Sn:OpR X (binaryOp .Add) (fun x y H Q=>∃ i j,x=.str i∧y=.str j∧i.length + j.length ≤ sizeLine∧Q (.str (i ++ j)) H):=by
 intro pins s σ H x y v u Q I rx ry h;obtain ⟨i,j,rfl,rfl,hz,q⟩:=h;obtain ⟨t,rfl⟩:=rx;obtain ⟨t',rfl⟩:=ry;exact add_str (fun t' tk=>⟨.str (i ++ j),H,I.tok _,⟨_,rfl⟩,q⟩) hz
theorem Zn {x:V} {us:List Value} (r:pd [x] us):∃ u,us=[u]∧zd x u:=by
 cases r with
 | cons r1 r2=>cases r2;exact ⟨_,rfl,r1⟩
theorem eK {x y:V} {us:List Value} (r:pd [x,y] us):∃ u w',us=[u,w']∧zd x u∧zd y w':=by
 cases r with
 | cons r1 r2=>
  cases r2 with
  | cons r3 r4=>cases r4;exact ⟨_,_,rfl,r1,r3⟩
theorem Nr (hc:X.calm=true):Fj X (.builtin "max") (fun xs H Q=>∃ i j,xs=[.int i,.int j]∧Q (.int (if j > i then j else i)) H):=by
 intro pins s σ H xs us Q I r h;obtain ⟨i,j,rfl,q⟩:=h;obtain ⟨u,w',rfl,⟨t,rfl⟩,⟨t',rfl⟩⟩:=eK r;refine max_two_ints (I.ok.hd hc) fun h' tk k=>⟨_,H,I.kept k,?_,q⟩
 by_cases hj:j > i
 ·rw [if_pos hj,if_pos hj];exact ⟨_,rfl⟩
 ·rw [if_neg hj,if_neg hj];exact ⟨_,rfl⟩
theorem cG (hc:X.calm=true):Fj X (.builtin "min") (fun xs H Q=>∃ i j,xs=[.int i,.int j]∧Q (.int (if j < i then j else i)) H):=by
 intro pins s σ H xs us Q I r h;obtain ⟨i,j,rfl,q⟩:=h;obtain ⟨u,w',rfl,⟨t,rfl⟩,⟨t',rfl⟩⟩:=eK r;refine min_two_ints (I.ok.hd hc) fun h' tk k=>⟨_,H,I.kept k,?_,q⟩
 by_cases hj:j < i
 ·rw [if_pos hj,if_pos hj];exact ⟨_,rfl⟩
 ·rw [if_neg hj,if_neg hj];exact ⟨_,rfl⟩
theorem Xk:Fj X (.type "str") (fun xs H Q=>∃ i,xs=[.int i]∧i.natAbs.log2 < 1920∧Q (.str (toString i)) H):=by
 intro pins s σ H xs us Q I r h;obtain ⟨i,rfl,hz,q⟩:=h;obtain ⟨u,rfl,t,rfl⟩:=Zn r;exact PySem.P.str_of_int hz ⟨.str _,H,I.tok _,⟨_,rfl⟩,q⟩
end
end L2
namespace L2
open PySem PySem.Spec PyProof.Rows
structure YJ (h:Heap) (x dx C:Addr) (mA:Str→Option Value):Prop where
 obj:h.get? x=some (PySem.W.instObj C dx)
 ns:h.Ns1 dx mA
 ne:dx ≠ x
theorem QD {h:Heap} {dx:Addr} {mA:Str→Option Value} (n:h.Ns1 dx mA):∃ od,h.get? dx=some od∧∀ name,PySem.W.lookIn name od=some (mA name):=by
 obtain ⟨o,es,ep,ho,hd,hk,_,hm⟩:=n;refine ⟨o,ho,fun name=>?_⟩;have e:=hm name;unfold nsFind findBy at e;rw [← Array.find?_toList] at e;unfold PySem.W.lookIn;rw [hd];dsimp only;split
 ·rename_i y q;rw [q] at e;exact congrArg some e
 ·rename_i q;rw [q] at e;have a:es.toList.any (·.refKey)=false:=by
   rw [List.any_eq_false];intro y hy;obtain ⟨z,t,hkey⟩:=hk y (Array.mem_toList_iff.mp hy);simp [DictEntry.refKey,hkey]
  have a':¬ es.toList.any (·.refKey)=true:=by rw [a];exact Bool.false_ne_true
  rw [if_neg a'];exact congrArg some e
theorem YJ.look {h:Heap} {x dx C:Addr} {mA:Str→Option Value} (I:YJ h x dx C mA):∃ od,PySem.W.InstAt h x (PySem.W.instObj C dx) C (some od)∧∀ name,PySem.W.lookIn name od=some (mA name):=
 let ⟨od,ho,hl⟩:=QD I.ns
 ⟨od,⟨I.obj,rfl,rfl,ho⟩,hl⟩
section
variable {prog:Program} {w:World} {A:Around} {E:Value→Shared→Prop} {s:Shared} {K:PySem.W.Frag} {x dx C f:Addr} {mA:Str→Option Value} {name:Str} {v:Value}
theorem XJ {expr:Bool} {Q:Value→Shared→Prop} (X:K.In s.heap) (I:YJ s.heap x dx C mA) (hg:PySem.W.plainGet K C name=true) (hh:PySem.W.hasDictIn K C=true)
  (ha:PySem.W.findIn K (.ref C) name=some none) (hv:mA name=some v) (hv':PySem.W.handedIn v=true) (h:Q v { s with toks:=s.toks + 1 }) :
  wpAny (model prog w) A (getAttr (.ref x) name expr) Q E s:=by
 obtain ⟨od,J,hl⟩:=I.look;exact PySem.W.get_value X J (PySem.W.plainGet_of hg).1 (PySem.W.findObj_own hh ha rfl (by rw [hl,hv])) hv' h
theorem BH {pl:Sem Bool} {Q:Value × List Value→Shared→Prop} (X:K.In s.heap) (I:YJ s.heap x dx C mA) (hg:PySem.W.plainGet K C name=true)
  (hf:PySem.W.findIn K (.ref C) name=some (some (.ref f))) (ht:PySem.W.isFn K (.ref f)=true) (hv:mA name=none) (h:Q (.ref f,[.ref x]) s) :
  wpAny (model prog w) A (getMethod (.ref x) name pl) Q E s:=by
 obtain ⟨od,J,hl⟩:=I.look;exact PySem.W.method_fn X J (PySem.W.plainGet_of hg).1 (PySem.W.plainGet_of hg).2 hf (beq_iff_eq.mp ht) (by show (PySem.W.lookIn name od).map (·.isSome)=some false;rw [hl,hv];rfl) h
theorem cL {ns:List Str} {Q:Unit→Shared→Prop} (X:K.In s.heap) (I:YJ s.heap x dx C mA)
  (hs:PySem.W.findIn K (.ref C) "__setattr__"=some (some (.builtin "object.__setattr__"))) (hp:PySem.W.plainOver K C=true) (ht:PySem.W.takerIn K C name=some none) (hh:PySem.W.hasDictIn K C=true)
  (hw:PySem.Within mA ns) (hsz:ns.length ≤ sizeLine)
  (h:∀ h',YJ h' x dx C (fun y=>if y=name then some v else mA y)→Heap.SameBut dx s.heap h'→Q () { s with heap:=h',toks:=s.toks + 2 }) :
  wpAny (model prog w) A (setAttr (.ref x) name v) Q E s:=by
 obtain ⟨od,J,hl⟩:=I.look;refine PySem.W.set_plain X J hs (PySem.W.osa_open (s:={ s with toks:=s.toks + 1 }) (r:=none) X J hp ht fun b=>?_);obtain ⟨cd,hc,hd'⟩:=PySem.W.any_some hh;have hx:s.heap.get? x=some ⟨.ref C,some dx,.plain,#[]⟩:=I.obj;refine wpAny_bind (wpAny_pure (wpAny_bind (wpAny_bind (wpAny_loadPart hx (wpAny_bind (PySem.W.Looks.here (s:={ s with toks:=s.toks + 1 }) (PySem.W.looks_clsIn X hc) ?_))))));rw [hd'];refine wpAny_pure (a:=some dx) (wpAny_bind (wpAny_pure (wpAny_bind ?_)));refine wpAny_nsSet1 (s:={ s with toks:=s.toks + 1 }) I.ns fun h' hn2 hs2=>?_
 obtain ⟨oD,esD,epD,hoD,hdD,hcD⟩:=hn2.count (PySem.Within.cons name v hw);refine wpAny_bind (wpAny_lookBehind hoD (by rw [hdD];exact pastItsLine_dict (Nat.le_trans hcD (by rw [List.length_cons];omega))) ?_);exact wpAny_pure (h _ ⟨(hs2.2 _ (Ne.symm I.ne)).trans I.obj,hn2,I.ne⟩ hs2)
theorem KH {R:Result→Shared→Prop} {vs:List Value} {kw:List (Str × Value)} (X:K.In s.heap) (hm:PySem.W.makesIn K C=true)
  (hi:PySem.W.findIn K (.ref C) "__init__"=some (some (.ref f))) (hf:PySem.W.typeIn K (.ref f)=some (.type "function"))
  (h:codeAny (model prog w) (A.under (.builtin "type.__call__" ⟨.ref C :: vs,kw⟩)) (.call (.ref f) ⟨.ref (s.heap.objs.size + 1) :: vs,kw⟩) (PySem.W.InitBack (s.heap.objs.size + 1) R)
   { s with heap:=(s.heap.push PySem.W.emptyDict).push (PySem.W.instObj C s.heap.objs.size) }) :
  codeAny (model prog w) A (.call (.ref C) ⟨vs,kw⟩) R s:=by
 obtain ⟨hh,g,d,t,os⟩:=s;exact PySem.W.make_core (PySem.W.makes_of X hm) (PySem.W.looks_findIn X hi) (fun self=>PySem.W.bind_fn X self hf) (.inl rfl) h
end
noncomputable def sj (f:Str) (v:V):List (Str × V)→List (Str × V)
 | []=>[(f,v)]
 | (g,x) :: r=>if g=f then (g,v) :: r else (g,x) :: sj f v r
theorem Jr (f g:Str) (v:V):∀ fs:List (Str × V),(sj f v fs).lookup g=if g=f then some v else fs.lookup g
 | []=>by
  show List.lookup g [(f,v)]=_;by_cases h:g=f
  ·have hb:(g == f)=true:=beq_iff_eq.mpr h;simp only [List.lookup,hb,if_pos h]
  ·have hb:(g == f)=false:=beq_eq_false_iff_ne.mpr h;simp only [List.lookup,hb,if_neg h]
 | (k,x) :: r=>by
  have ih:=Jr f g v r;rw [show sj f v ((k,x) :: r)=(if k=f then (k,v) :: r else (k,x) :: sj f v r) from rfl];by_cases hk:k=f
  ·rw [if_pos hk];by_cases h:g=k
   ·have hb:(g == k)=true:=beq_iff_eq.mpr h;simp only [List.lookup,hb,if_pos (h.trans hk)]
   ·have hb:(g == k)=false:=beq_eq_false_iff_ne.mpr h;simp only [List.lookup,hb,if_neg (fun e:g=f=>h (e.trans hk.symm))]
  ·rw [if_neg hk];by_cases h:g=k
   ·have hb:(g == k)=true:=beq_iff_eq.mpr h;simp only [List.lookup,hb,if_neg (fun e:g=f=>hk (h.symm.trans e))]
   ·have hb:(g == k)=false:=beq_eq_false_iff_ne.mpr h;simp only [List.lookup,hb];exact ih
theorem pq (f:Str) (v:V):∀ fs:List (Str × V),f ∈ (sj f v fs).map (·.1)∧∀ g,g ∈ fs.map (·.1)→g ∈ (sj f v fs).map (·.1)
 | []=>⟨by simp [sj],fun g h=>by simp at h⟩
 | (k,x) :: r=>by
  obtain ⟨i1,i2⟩:=pq f v r;rw [show sj f v ((k,x) :: r)=(if k=f then (k,v) :: r else (k,x) :: sj f v r) from rfl];by_cases hk:k=f
  ·rw [if_pos hk];subst hk;exact ⟨by simp,fun g h=>by simpa using h⟩
  ·rw [if_neg hk];refine ⟨?_,fun g h=>?_⟩
   ·rw [List.map_cons];exact List.mem_cons_of_mem _ i1
   ·rw [List.map_cons] at h ⊢;rcases List.mem_cons.mp h with e | e
    ·exact List.mem_cons.mpr (.inl e)
    ·exact List.mem_cons_of_mem _ (i2 g e)
theorem tm (f:Str) (v:V):∀ fs:List (Str × V),(sj f v fs).length ≤ fs.length + 1
 | []=>by simp [sj]
 | (k,x) :: r=>by
  have ih:=tm f v r;rw [show sj f v ((k,x) :: r)=(if k=f then (k,v) :: r else (k,x) :: sj f v r) from rfl];by_cases hk:k=f
  ·rw [if_pos hk,List.length_cons,List.length_cons];omega
  ·rw [if_neg hk,List.length_cons,List.length_cons];omega
theorem gu.some_of {v:V} {o:Option Value} (r:gu (some v) o):∃ u,o=some u∧zd v u:=by
 cases o with
 | none=>exact (show False from r).elim
 | some u=>exact ⟨u,rfl,r⟩
theorem gu.none_of {o:Option Value} (r:gu none o):o=none:=by
 cases o with
 | none=>rfl
 | some u=>exact (show False from r).elim
theorem ME {v:V} {u:Value} (r:zd v u):PySem.W.handedIn u=true:=by
 cases v with
 | non=>cases (show u=Value.none from r);rfl
 | bl b=>cases (show u=Value.bool b from r);rfl
 | int i=>obtain ⟨t,e⟩:=(show ∃ t,u=Value.int i t from r);cases e;rfl
 | str x=>obtain ⟨t,e⟩:=(show ∃ t,u=Value.str x t from r);cases e;rfl
 | byt b=>obtain ⟨t,e⟩:=(show ∃ t,u=Value.bytes b t from r);cases e;rfl
 | flt b=>obtain ⟨t,e⟩:=(show ∃ t,u=Value.float b t from r);cases e;rfl
 | ref a=>cases (show u=Value.ref a from r);rfl
 | ty n=>cases (show u=Value.type n from r);rfl
section
variable {P:Program} {w:World} {H H':Hp} {h h':Heap} {a C dx:Addr} {fs fs':List (Str × V)}
theorem nv (hok:HOk P w H h) (e:H a=some (.ins C dx fs)):∃ mA,YJ h a dx C mA∧(∀ f,gu (fs.lookup f) (mA f))∧PySem.Within mA (fs.map (·.1))∧fs.length ≤ 1000∧H dx=some (.own a):=by
 obtain ⟨d,z,ne,ob,mA,n,r,q⟩:=(show Bd P w H h a (.ins C dx fs) from hok a _ e);exact ⟨mA,⟨ob,n,ne⟩,r,q,z,d⟩
end
structure Cls (K:PySem.W.Frag) (C:Addr):Prop where
 pg:PySem.W.plainGet K C Str.empty=true
 hd:PySem.W.hasDictIn K C=true
 po:PySem.W.plainOver K C=true
 sa:PySem.W.findIn K (.ref C) "__setattr__"=some (some (.builtin "object.__setattr__"))
theorem Cls.get {K:PySem.W.Frag} {C:Addr} (c:Cls K C) (f:Str):PySem.W.plainGet K C f=true:=c.pg
noncomputable def kc (K:PySem.W.Frag) (C:Addr) (f:Str):Prop:=PySem.W.findIn K (.ref C) f=some none
theorem kc.taker {K:PySem.W.Frag} {C:Addr} {f:Str} (n:kc K C f):PySem.W.takerIn K C f=some none:=by
 unfold PySem.W.takerIn;rw [show PySem.W.findIn K (.ref C) f=some none from n];rfl
structure Con (K:PySem.W.Frag) (C:Addr) (f:Str) (v:V) (u:Value):Prop where
 at_:PySem.W.findIn K (.ref C) f=some (some u)
 rel:zd v u
 get:PySem.W.specialIn K u "__get__"=some none
 cp:PySem.W.copiedNames.contains f=false
structure su (K:PySem.W.Frag) (C:Addr) (m:Str) (f:Addr):Prop where
 at_:PySem.W.findIn K (.ref C) m=some (some (.ref f))
 fn:PySem.W.isFn K (.ref f)=true
 kp:PySem.W.keepIn K (.ref f)=true
section
variable {X:Cx} {pins:List (Addr × Obj)} {σ:St} {H:Hp} {s:Shared} {a C dx:Addr} {fs:List (Str × V)} {f:Str} {v:V} {A:Around} {E:Value→Shared→Prop}
theorem Vt {b:Bool} {Q:Value→Shared→Prop} (I:Inv X pins σ H s) (e:H a=some (.ins C dx fs)) (c:Cls X.K C) (n:kc X.K C f) (l:fs.lookup f=some v)
  (h:∀ u s',Inv X pins σ H s'→zd v u→Q u s'):wpAny (model X.prog X.w) A (getAttr (.ref a) f b) Q E s:=by
 obtain ⟨mA,O,r,_,_,_⟩:=nv I.hok e;obtain ⟨u,hu,ru⟩:=gu.some_of (v:=v) (o:=mA f) (by rw [← l];exact r f);exact XJ I.kIn O (c.get f) c.hd n hu (ME ru) (h u _ (I.tok _) ru)
theorem ao {m:Str} {g:Addr} {pl:Sem Bool} {Q:Value × List Value→Shared→Prop} (I:Inv X pins σ H s) (e:H a=some (.ins C dx fs)) (c:Cls X.K C) (k:su X.K C m g) (l:fs.lookup m=none)
  (h:Q (.ref g,[.ref a]) s):wpAny (model X.prog X.w) A (getMethod (.ref a) m pl) Q E s:=by
 obtain ⟨mA,O,r,_,_,_⟩:=nv I.hok e;have hn:mA m=none:=gu.none_of (by rw [← l];exact r m);exact BH I.kIn O (c.get m) k.at_ k.fn hn h
theorem tt {y:V} {u:Value} {Q:Unit→Shared→Prop} (I:Inv X pins σ H s) (e:H a=some (.ins C dx fs)) (c:Cls X.K C) (n:kc X.K C f) (hl:fs.length < 1000) (ry:zd y u)
  (h:∀ s',Inv X pins σ (upd H a (.ins C dx (sj f y fs))) s'→Q () s'):wpAny (model X.prog X.w) A (setAttr (.ref a) f u) Q E s:=by
 obtain ⟨mA,O,r,wi,_,ho⟩:=nv I.hok e;have hz:(fs.map (·.1)).length ≤ sizeLine:=by rw [List.length_map,sizeLine_eq];omega
 refine cL I.kIn O c.sa c.po n.taker c.hd wi hz fun h' O' sb=>h _ ?_
 have hd:∃ o,h'.get? dx=some o:=let ⟨o,_,_,e',_⟩:=O'.ns;⟨o,e'⟩;refine I.write (x:=a) (e:=dx) (by rw [e];exact True.intro) (.inr ho) (fun b q hb z=>(sb.2 b hb).trans z) hd ?_;refine ⟨by rw [Ab O.ne];exact ho,?_,O.ne,O'.obj,_,O'.ns,fun g=>?_,fun g hg=>?_⟩
 ·have:=tm f y fs;omega
 ·show gu ((sj f y fs).lookup g) (if g=f then some u else mA g);rw [Jr];by_cases q:g=f
  ·rw [if_pos q,if_pos q];exact ry
  ·rw [if_neg q,if_neg q];exact r g
 ·by_cases q:g=f
  ·rw [q];exact (pq f y fs).1
  ·refine (pq f y fs).2 g (wi g fun z=>hg ?_);show (if g=f then some u else mA g)=none;rw [if_neg q];exact z
theorem Inv.made (I:Inv X pins σ H s):Inv X pins σ (upd (upd H s.heap.objs.size (.own (s.heap.objs.size + 1))) (s.heap.objs.size + 1) (.ins C s.heap.objs.size []))
  { s with heap:=(s.heap.push PySem.W.emptyDict).push (PySem.W.instObj C s.heap.objs.size) }:=by
 have e1:(s.heap.push PySem.W.emptyDict).get? s.heap.objs.size=some PySem.W.emptyDict:=Heap.get?_push_size s.heap rfl;have e2:((s.heap.push PySem.W.emptyDict).push (PySem.W.instObj C s.heap.objs.size)).get? (s.heap.objs.size + 1)=some (PySem.W.instObj C s.heap.objs.size):=by
  have:=Heap.get?_push_size (s.heap.push PySem.W.emptyDict) (o:=PySem.W.instObj C s.heap.objs.size) rfl;rwa [Heap.size_push] at this
 have e3:(s.heap.push PySem.W.emptyDict).Ns s.heap.objs.size (fun _=>none):=⟨PySem.W.emptyDict,#[],_,e1,rfl,(fun e he=>absurd he (by simp)),fun _=>rfl⟩;have I1:=I.laid (a:=s.heap.objs.size) (o:=.own (s.heap.objs.size + 1)) (h':=s.heap.push PySem.W.emptyDict) (t':=s.toks) (fun b u q=>Heap.get?_push_of_some _ q) (Nat.le_refl _) ⟨_,e1⟩;refine I1.laid (a:=s.heap.objs.size + 1) (o:=.ins C s.heap.objs.size []) (t':=s.toks) (fun b u q=>Heap.get?_push_of_some _ q) (Nat.le_of_eq (Heap.size_push _ _)) ?_;have ne:s.heap.objs.size ≠ s.heap.objs.size + 1:=Nat.ne_of_lt (Nat.lt_succ_self _);refine ⟨by rw [Ab ne,ib],Nat.zero_le _,ne,e2,fun _=>none,(Heap.Ns1.of_empty e3).at fun o q=>Heap.get?_push_of_some _ q,fun _=>True.intro,fun y hy=>absurd rfl hy⟩
theorem zK {prog:Program} {w:World} {env:Env} {e:Expr} {f:Str} {pos:Pos} {s:Shared} {Q:Value→Shared→Prop} (hb:attributeBase e f env (eval e env)=eval e env)
  (h:wpAny (model prog w) A (eval e env) (fun o s₁=>wpAny (model prog w) A (getAttr o f true) Q E s₁) E s):wpAny (model prog w) A (eval (.Attribute e f pos) env) Q E s:=
 Attribute_any_ h (by rw [arm_eval_Attribute,hb])
end
noncomputable def Rl (K:PySem.W.Frag) (H:Hp) (a:Addr) (f:Str) (v:V):Prop:=∃ C dx fs,H a=some (.ins C dx fs)∧Cls K C∧kc K C f∧fs.lookup f=some v
noncomputable def rP (K:PySem.W.Frag) (ta:TE) (f:Str):TE:=fun σ H Q=>ta σ H fun x H1=>Xh x fun a=>∃ v,Rl K H1 a f v∧Q v H1
noncomputable def wP (K:PySem.W.Frag) (ta tv:TE) (f:Str):TS:=fun D σ H=>tv σ H fun y H1=>ta σ H1 fun x H2=>Xh x fun a=>∃ C dx fs,H2 a=some (.ins C dx fs)∧Cls K C∧kc K C f∧fs.length < 1000 ∧
 D.nx σ (upd H2 a (.ins C dx (sj f y fs)))
noncomputable def xP (X:Cx) (op:Operator) (rd:V→V→Hp→VK→Prop):Prop:=
 ∀ (pins:List (Addr × Obj)) (s:Shared) (σ:St) (H:Hp) (x y:V) (u v:Value) (Q:VK),Inv X pins σ H s→zd x u→zd y v→rd x y H Q→wpAny (model X.prog X.w) X.A (inplaceOp op u v) (EP X pins σ Q) X.xe s
noncomputable def SE (K:PySem.W.Frag) (ta tv:TE) (rd:V→V→Hp→VK→Prop) (f:Str):TS:=fun D σ H=>ta σ H fun x H1=>∃ a C dx fs v,x=.ref a∧H1 a=some (.ins C dx fs)∧Cls K C∧kc K C f∧fs.lookup f=some v ∧
 tv σ H1 fun y H2=>rd v y H2 fun z H3=>∃ dx' fs',H3 a=some (.ins C dx' fs')∧fs'.length < 1000∧D.nx σ (upd H3 a (.ins C dx' (sj f z fs')))
section
variable {X:Cx} {o e value:Expr} {f:Str} {pos pos' tpos:Pos} {ta tv:TE}
theorem qc (he:PE X e ta) (hb:attributeBase e f X.env (eval e X.env)=eval e X.env):PE X (.Attribute e f pos) (rP X.K ta f):=by
 intro pins s σ H Q I h;refine zK hb (thn (he pins s σ H _ I h) fun u s1 hZ1=>?_);obtain ⟨x,H1,I1,rx,zq⟩:=hZ1;obtain ⟨a,ex,v,⟨C,dx,fs,ea,c,n,l⟩,q⟩:=Xh.out zq;subst ex;obtain rfl:u=Value.ref a:=rx;exact Vt I1 ea c n l fun u' s2 I2 ru=>⟨v,H1,I2,ru,q⟩
theorem Pg (ha:PE X o ta) (hv:PE X value tv) (hs:swapsWith value (some (.Attribute o f pos')) pos.line X.env=pure false):PS X (.Assign [.Attribute o f pos'] value pos) (wP X.K ta tv f):=by
 intro pins s σ H D I h;refine plainObj_wpAny_Assign_Attribute (thn (hv pins s σ H _ I h) fun u s1 ⟨y,H1,I1,ry,q⟩=>thn (ha pins s1 σ H1 _ I1 q) fun ov s2 hZ1=>?_) hs;obtain ⟨x,H2,I2,rx,zq⟩:=hZ1;obtain ⟨a,ex,C,dx,fs,ea,c,n,l,q2⟩:=Xh.out zq;subst ex;obtain rfl:ov=Value.ref a:=rx;exact tt I2 ea c n l ry fun s3 I3=>⟨σ,_,I3,q2⟩
theorem qE {op:Operator} {rd:V→V→Hp→VK→Prop} (ha:PE X o ta) (hv:PE X value tv) (hop:xP X op rd):PS X (.AugAssign (.Attribute o f tpos) op value pos) (SE X.K ta tv rd f):=by
 intro pins s σ H D I h;refine wpAny_AugAssign_AttributeAny (thn (ha pins s σ H _ I h) fun ov s1 hZ1=>?_);obtain ⟨x,H1,I1,rx,a,C,dx,fs,v,ex,ea,c,n,l,q⟩:=hZ1;subst ex;obtain rfl:ov=Value.ref a:=rx;refine Vt I1 ea c n l fun u s2 I2 ru=>thn (hv pins s2 σ H1 _ I2 q) fun w3 s3 ⟨y,H2,I3,ry,q3⟩=>thn (hop pins s3 σ H2 v y u w3 _ I3 ru ry q3) fun w4 s4 hZ1=>?_
 obtain ⟨z,H3,I4,rz,dx',fs',ea',l',q4⟩:=hZ1;exact tt I4 ea' c n l' rz fun s5 I5=>⟨σ,_,I5,q4⟩
noncomputable def HP:V→V→Hp→VK→Prop:=fun x y H Q=>∃ i j,x=.int i∧y=.int j∧Q (.int (i + j)) H
theorem qM:xP X .Add HP:=by
 rintro pins s σ H x y u v Q I rx ry ⟨i,j,rfl,rfl,q⟩;obtain ⟨t,rfl⟩:=(show ∃ t,u=Value.int i t from rx);obtain ⟨t',rfl⟩:=(show ∃ t',v=Value.int j t' from ry);exact PyProof.Rows.iadd_int ⟨.int (i + j),H,I.tok _,⟨_,rfl⟩,q⟩
end
section
variable {X:Cx} {pins:List (Addr × Obj)} {σ:St} {H:Hp} {s:Shared} {A:Around} {E:Value→Shared→Prop} {Q:Value→Shared→Prop} {c:Value} {b:Bool}
inductive JA (K:PySem.W.Frag) (H:Hp):V→Value→Prop where
 | non:JA K H .non (.type "NoneType")
 | bl (x:Bool):JA K H (.bl x) (.type "bool")
 | int (i:Int):JA K H (.int i) (.type "int")
 | str (x:Str):JA K H (.str x) (.type "str")
 | flt (x:UInt64):JA K H (.flt x) (.type "float")
 | lst {a:Addr} {xs:List V} (e:H a=some (.lst xs)):JA K H (.ref a) (.type "list")
 | frz {a:Addr} {o:Obj} {xs:List V} (e:H a=some (.frz o (.lst xs))):JA K H (.ref a) (.type "list")
 | tup {a:Addr} {xs:List V} (e:H a=some (.tup xs)):JA K H (.ref a) (.type "tuple")
 | dK {a:Addr} {kvs:List (Key × V)} (e:H a=some (.dK kvs)):JA K H (.ref a) (.type "dict")
 | dT {a:Addr} {kvs:List (List Key × V)} (e:H a=some (.dT kvs)):JA K H (.ref a) (.type "dict")
 | ins {a C dx:Addr} {fs:List (Str × V)} (e:H a=some (.ins C dx fs)) (cl:Cls K C) (ha:PySem.W.findIn K (.ref C) "__class__"=some (some (.builtin "object.__class__")))
   (hn:PySem.W.specialIn K (.builtin "object.__class__") "__get__"=some (some (.builtin "getset_descriptor.__get__"))) (htk:PySem.W.takesIn K (.builtin "object.__class__")=some true)
   (hm:PySem.W.mroIn K C (.type "object")=some true):JA K H (.ref a) (.ref C)
theorem BF {x:V} {u t:Value} (I:Inv X pins σ H s) (rx:zd x u) (ty:JA X.K H x t) (e:PySem.W.kitOne X.K t c=some b) (h:∀ tk,Q (.bool b) { s with toks:=tk }) :
  wpAny (model X.prog X.w) A (call (.builtin "isinstance") [u,c]) Q E s:=by
 cases ty with
 | non=>cases (show u=Value.none from rx);exact PySem.W.kia_one PySem.W.kitx_none I.kIn True.intro e (fun z=>nomatch z) h
 | bl y=>cases (show u=Value.bool y from rx);exact PySem.W.kia_one PySem.W.kitx_bool I.kIn True.intro e (fun z=>nomatch z) h
 | int i=>obtain ⟨t,q⟩:=(show ∃ t,u=Value.int i t from rx);cases q;exact PySem.W.kia_one PySem.W.kitx_int I.kIn True.intro e (fun z=>nomatch z) h
 | str y=>obtain ⟨t,q⟩:=(show ∃ t,u=Value.str y t from rx);cases q;exact PySem.W.kia_one PySem.W.kitx_str I.kIn True.intro e (fun z=>nomatch z) h
 | flt y=>obtain ⟨t,q⟩:=(show ∃ t,u=Value.float y t from rx);cases q;exact PySem.W.kia_one PySem.W.kitx_float I.kIn True.intro e (fun z=>nomatch z) h
 | @lst a xs ea=>
  cases (show u=Value.ref a from rx);obtain ⟨_,_,n,_,h1⟩:=(show Bd X.prog X.w H s.heap a (.lst xs) from I.hok a _ ea);exact PySem.W.kia_one PySem.W.kitx_list I.kIn ⟨_,h1,rfl⟩ e (fun z=>nomatch z) h
 | @frz a ob xs ea=>
  cases (show u=Value.ref a from rx);obtain ⟨_,_,_,n,_,h1⟩:=(show Bd X.prog X.w H s.heap a (.frz ob (.lst xs)) from I.hok a _ ea);exact PySem.W.kia_one PySem.W.kitx_list I.kIn ⟨_,h1,rfl⟩ e (fun z=>nomatch z) h
 | @tup a xs ea=>
  cases (show u=Value.ref a from rx);obtain ⟨_,_,_,p⟩:=(show Bd X.prog X.w H s.heap a (.tup xs) from I.hok a _ ea);obtain ⟨o,h1,h2,_⟩:=p;exact PySem.W.kia_one PySem.W.kitx_tuple I.kIn ⟨o,h1,h2⟩ e (fun z=>nomatch z) h
 | @dK a kvs ea=>
  cases (show u=Value.ref a from rx);obtain ⟨_,_,vs,_,p⟩:=(show Bd X.prog X.w H s.heap a (.dK kvs) from I.hok a _ ea);obtain ⟨o,es,ep,h1,h2,_⟩:=p;exact PySem.W.kia_one PySem.W.kitx_dict I.kIn ⟨o,h1,h2.1⟩ e (fun z=>nomatch z) h
 | @dT a kvs ea=>
  cases (show u=Value.ref a from rx);obtain ⟨_,_,xs,_,o,es,ep,h1,h2,_⟩:=(show Bd X.prog X.w H s.heap a (.dT kvs) from I.hok a _ ea);exact PySem.W.kia_one PySem.W.kitx_dict I.kIn ⟨o,h1,h2.1⟩ e (fun z=>nomatch z) h
 | @ins a C dx fs ea cl ha hn htk hm=>
  cases (show u=Value.ref a from rx);obtain ⟨mA,O,_⟩:=nv I.hok ea;obtain ⟨od,J,_⟩:=O.look;exact PySem.W.kia_one (PySem.W.kitx_own (cl.get _) cl.hd ha hn htk hm) I.kIn J e (fun z=>nomatch z) h
end
end L2
namespace L2
open PySem PySem.Spec PyProof.Rows
structure Yj (k:Nat) (A:Around):Prop where
 hd:A.handled=none
 dp:A.depth + 3 * k + 5 < recursionLimit
 un:A.units + 16 * k + 200 < cLine
theorem Yj.mono {j k:Nat} {A:Around} (r:Yj k A) (h:j ≤ k):Yj j A:=⟨r.hd,by have:=r.dp;omega,by have:=r.un;omega⟩
theorem Yj.deeper {k:Nat} {A:Around} (r:Yj (k + 1) A) (env:Env):Yj k (A.deeper env):=
 ⟨r.hd,by have:=r.dp;show A.depth + 1 + 3 * k + 5 < _;omega,by have:=r.un;show A.units + 3 + 16 * k + 200 < _;omega⟩
theorem Yj.in1 {k:Nat} {A:Around} (r:Yj (k + 1) A):Yj k A.in1:=
 ⟨r.hd,by have:=r.dp;show A.depth + 3 * k + 5 < _;omega,by have:=r.un;show A.units + 1 + 16 * k + 200 < _;omega⟩
theorem eB {A:Around} {C:Addr} {us:List Value} {kw:List (Str × Value)}:(A.under (.builtin "type.__call__" ⟨.ref C :: us,kw⟩)).depth=A.depth + 1:=by
 first | rfl | simp [Around.under,Code.weight,Code.isCreation,Code.isGuard,Code.isCaller,Code.frames,Code.isFrame,guardIds]
theorem NB {A:Around} {C:Addr} {us:List Value} {kw:List (Str × Value)}:(A.under (.builtin "type.__call__" ⟨.ref C :: us,kw⟩)).units=A.units + 1:=by
 first | rfl | simp [Around.under,Code.cUnits,Code.frames,Code.isFrame]
theorem Yj.make {k:Nat} {A:Around} (r:Yj (k + 1) A) (C:Addr) (us:List Value) (kw:List (Str × Value)):Yj k (A.under (.builtin "type.__call__" ⟨.ref C :: us,kw⟩)):=
 ⟨r.hd,by have:=r.dp;rw [eB];omega,by have:=r.un;rw [NB];omega⟩
theorem Yj.depth {k:Nat} {A:Around} (r:Yj k A):A.depth < recursionLimit:=by have:=r.dp;omega
theorem Yj.units {k:Nat} {A:Around} (r:Yj k A):A.units + 64 < cLine:=by have:=r.un;omega
noncomputable def UN:TA:=fun _ H Q=>Q [] H
noncomputable def CM (ta:TE) (tr:TA):TA:=fun σ H Q=>ta σ H fun x H1=>tr σ H1 fun xs H2=>Q (x :: xs) H2
section
variable {X:Cx} {e:Expr} {es:List Expr} {te:TE} {t:TA} {pos:Pos}
theorem fb:PA X [] UN:=fun _ _ _ _ H Q I h=>Calls.spliced_nil ⟨[],H,I,.nil,h⟩
theorem cb (ha:PE X e te) (hr:PA X es t) (hs:starEach (e :: es) X.env=(false,eval e X.env) :: starEach es X.env:=by rfl):PA X (e :: es) (CM te t):=by
 intro pos pins s σ H Q I h;rw [hs];show wpAny _ _ (spliced ((false,eval e X.env) :: backTo pos (starEach es X.env))) _ _ s;refine Calls.spliced_cons (thn (ha pins s σ H _ I h) fun u s1 hZ1=>?_);obtain ⟨x,H1,I1,r1,q1⟩:=hZ1;exact thn (hr pos pins s1 σ H1 _ I1 q1) fun us s2 ⟨xs,H2,I2,r2,q2⟩=>⟨x :: xs,H2,I2,.cons r1 r2,q2⟩
noncomputable def lP (t:TA):TE:=fun σ H Q=>t σ H fun xs H1=>xs.length ≤ sizeLine∧∀ p,H1 p=none→Q (.ref p) (upd H1 p (.tup xs))
noncomputable def pP (t:TA):TE:=fun σ H Q=>t σ H fun xs H1=>xs.length ≤ sizeLine∧∀ p,H1 p=none→Q (.ref p) (upd H1 p (.lst xs))
theorem Nc {x1} (h:PA X es t):PE X (.Tuple es x1 pos) (lP t):=by
 intro pins s σ H Q I hq;refine wpAny_Tuple_spliced (thn (h pos pins s σ H _ I hq) fun us s1 ⟨xs,H1,I1,r,z,q⟩=>⟨by rw [← r.length];exact z,?_⟩);have hf:H1 s1.heap.objs.size=none:=I1.hok.fresh (Nat.le_refl _);refine ⟨.ref s1.heap.objs.size,upd H1 s1.heap.objs.size (.tup xs),I1.laid (t':=s1.toks) (fun b u e=>Heap.get?_push_of_some _ e) (Nat.le_refl _) ?_,rfl,q _ hf⟩;exact ⟨⟨z,_,Heap.get?_push_size _ rfl,rfl⟩,us,r,⟨_,Heap.get?_push_size _ rfl,rfl,_,rfl⟩⟩
theorem qh (h:PA X es t):PE X (.List es pos) (pP t):=by
 intro pins s σ H Q I hq;refine wpAny_List_spliced (thn (h pos pins s σ H _ I hq) fun us s1 ⟨xs,H1,I1,r,z,q⟩=>⟨by rw [← r.length];exact z,?_⟩);have hf:H1 s1.heap.objs.size=none:=I1.hok.fresh (Nat.le_refl _);refine ⟨.ref s1.heap.objs.size,upd H1 s1.heap.objs.size (.lst xs),I1.laid (t':=s1.toks) (fun b u e=>Heap.get?_push_of_some _ e) (Nat.le_refl _) ?_,rfl,q _ hf⟩;exact ⟨z,us,0,r,Heap.get?_push_size _ rfl⟩
end
noncomputable abbrev Sp:=List V→Hp→VK→XK→Prop
noncomputable abbrev CXT:=List Env→Hp→Shared→XK→Value→Shared→Prop
structure SD (P:Program) (w:World) (K:PySem.W.Frag) (mg:Str→Option Value) (base:Heap) (A:Around) (outer:List Env) (s:Shared) (H:Hp):Prop where
 frames:A.frames=some outer
 mod:Mod K mg base
 bs:∀ b o,base.get? b=some o→s.heap.get? b=some o∧H b=none
 bsz:base.objs.size ≤ s.heap.objs.size
 funs:s.heap.FunFrames base outer
 frf:∀ b ∈ frs outer,H b=none
 hok:HOk P w H s.heap
 bare:AllBare s.gens
noncomputable def CE (outer:List Env) (P:Program) (w:World) (H:Hp) (s:Shared) (Q:VK) (u:Value) (s':Shared):Prop:=
 ∃ v H',s'.os=s.os∧AllBare s'.gens∧Un (frs outer) [] H H' s.heap s'.heap∧HOk P w H' s'.heap∧zd v u∧Q v H'
noncomputable def CR (CX:CXT) (outer:List Env) (P:Program) (w:World) (H:Hp) (s:Shared) (Q:VK) (E:XK) (r:Result) (s':Shared):Prop:=
 match r with
 | .ok (.ret u)=>CE outer P w H s Q u s'
 | .ok _=>False
 | .error e=>CX outer H s E e s'
structure Zb (P:Program) (w:World) (K:PySem.W.Frag) (mg:Str→Option Value) (base:Heap) (CX:CXT) (k:Nat) (f:Addr) (fd:FuncData) (ps:List Str) (sp:Sp):Prop where
 len:∀ vs H Q E,sp vs H Q E→vs.length=ps.length
 run:∀ (A:Around) (outer:List Env) (s:Shared) (H:Hp) (args:Args) (us:List Value) (vs:List V) (Q:VK) (E:XK),Yj k A→SD P w K mg base A outer s H→BindsTo s fd args (ps.zip us)→pd vs us→sp vs H Q E →
  codeAny (model P w) A (.call (.ref f) args) (CR CX outer P w H s Q E) s
theorem Zb.mono {P:Program} {w:World} {K:PySem.W.Frag} {mg:Str→Option Value} {base:Heap} {CX:CXT} {j k:Nat} {f:Addr} {fd:FuncData} {ps:List Str} {sp:Sp} (F:Zb P w K mg base CX j f fd ps sp) (h:j ≤ k) :
  Zb P w K mg base CX k f fd ps sp:=⟨F.len,fun A outer s H args us vs Q E hr=>F.run A outer s H args us vs Q E (hr.mono h)⟩
theorem Zb.imp {P:Program} {w:World} {K:PySem.W.Frag} {mg:Str→Option Value} {base:Heap} {CX:CXT} {k:Nat} {f:Addr} {fd:FuncData} {ps:List Str} {sp sp':Sp} (F:Zb P w K mg base CX k f fd ps sp)
  (h:∀ vs H Q E,sp' vs H Q E→sp vs H Q E):Zb P w K mg base CX k f fd ps sp':=
 ⟨fun vs H Q E q=>F.len vs H Q E (h _ _ _ _ q),fun A outer s H args us vs Q E hr he hb hv hs=>F.run A outer s H args us vs Q E hr he hb hv (h _ _ _ _ hs)⟩
theorem SD.make {P:Program} {w:World} {K:PySem.W.Frag} {mg:Str→Option Value} {base:Heap} {A:Around} {outer:List Env} {s:Shared} {H:Hp} (e:SD P w K mg base A outer s H) (C:Addr) (us:List Value) (kw:List (Str × Value)) :
  SD P w K mg base (A.under (.builtin "type.__call__" ⟨.ref C :: us,kw⟩)) outer s H:=⟨by first | exact e.frames | (simpa [Around.under,Code.envs,Code.isFrame,pushEnvs] using e.frames),e.mod,e.bs,e.bsz,e.funs,e.frf,e.hok,e.bare⟩
theorem SD.in1 {P:Program} {w:World} {K:PySem.W.Frag} {mg:Str→Option Value} {base:Heap} {A:Around} {outer:List Env} {s:Shared} {H:Hp} (e:SD P w K mg base A outer s H) :
  SD P w K mg base A.in1 outer s H:=⟨e.frames,e.mod,e.bs,e.bsz,e.funs,e.frf,e.hok,e.bare⟩
section
variable {X:Cx} {pins:List (Addr × Obj)} {σ:St} {H:Hp} {s s':Shared}
theorem Inv.env0 (I:Inv X pins σ H s):SD X.prog X.w X.K X.mg X.base X.A X.stack s H:=
 ⟨I.ok.frames,I.ok.mod,I.bs,Nat.le_trans I.ok.bsz I.sz,I.stack,I.stkFree,I.hok,I.bare⟩
theorem Inv.after {Q:VK} {u:Value} (I:Inv X pins σ H s) (h:CE X.stack X.prog X.w H s Q u s'):EP X pins σ Q u s':=by
 obtain ⟨v,H',os,bare,un,hok,r,q⟩:=h;obtain ⟨hh,g,d,t,os'⟩:=s';obtain rfl:os'=s.os:=os;exact ⟨v,H',I.call (h':=hh) (g':=g) (d':=d) (t':=t) (ch:=[]) un hok bare (fun b z=>absurd z (by simp)),r,q⟩
end
noncomputable def jH (sp:Sp) (dvs:List V) (E:XK) (t:TA):TE:=fun σ H Q=>t σ H fun vs H1=>sp (vs ++ dvs) H1 Q E
noncomputable def BK (C:Addr) (m:Str) (sp:Sp) (dvs:List V) (E:XK) (ta:TE) (t:TA):TE:=fun σ H Q=>ta σ H fun x H1=>Xh x fun a=>∃ dx fs,H1 a=some (.ins C dx fs)∧fs.lookup m=none ∧
 t σ H1 fun vs H2=>sp (x :: (vs ++ dvs)) H2 Q E
noncomputable def qN (C:Addr) (sp:Sp) (dvs:List V) (E:XK) (t:TA):TE:=fun σ H Q=>t σ H fun vs H1=>∀ x dx,H1 x=none→H1 dx=none→dx ≠ x →
 sp (.ref x :: (vs ++ dvs)) (upd (upd H1 dx (.own x)) x (.ins C dx [])) (fun v H2=>v=.non∧Q (.ref x) H2) E
noncomputable def gc (K:PySem.W.Frag) (fd:FuncData) (ps:List Str) (ds:List Value):Prop:=
 ∀ (s:Shared) (us:List Value),K.In s.heap→(us ++ ds).length=ps.length→BindsTo s fd ⟨us,[]⟩ (ps.zip (us ++ ds))
theorem gc.all {K:PySem.W.Frag} {fd:FuncData} {ps:List Str} (h:∀ us:List Value,us.length=ps.length→bindArgs fd ⟨us,[]⟩=pure (ps.zip us)):gc K fd ps []:=fun s us _ hl=>by
 rw [List.append_nil] at hl ⊢;exact .of_eq (h us hl)
noncomputable def Pm (CX:CXT) (X:Cx) (E:XK):Prop:=∀ (pins:List (Addr × Obj)) (σ:St) (H:Hp) (s:Shared) (e:Value) (s':Shared),Inv X pins σ H s→CX X.stack H s E e s'→X.xe e s'
section
variable {X:Cx} {CX:CXT} {k:Nat} {f C:Addr} {fd:FuncData} {ps:List Str} {sp:Sp} {dvs:List V} {ds:List Value} {E:XK} {x m:Str} {p pos apos:Pos} {e o:Expr} {es:List Expr} {ta:TE} {t:TA}
theorem Jw {pins:List (Addr × Obj)} {σ:St} {H:Hp} {s:Shared} {Q:VK} {us:List Value} {vs:List V} (F:Zb X.prog X.w X.K X.mg X.base CX k f fd ps sp) (hr:Yj k X.A) (hb:gc X.K fd ps ds) (hd:pd dvs ds) (hx:Pm CX X E)
  (I:Inv X pins σ H s) (r:pd vs us) (h:sp (vs ++ dvs) H Q E):wpAny (model X.prog X.w) X.A (call (.ref f) us) (EP X pins σ Q) X.xe s:=by
 have r2:pd (vs ++ dvs) (us ++ ds):=r.append hd;have hl:(us ++ ds).length=ps.length:=by rw [← r2.length];exact F.len _ _ _ _ h
 refine wpAny_call (codeAny_mono (F.run X.A X.stack s H ⟨us,[]⟩ (us ++ ds) (vs ++ dvs) Q E hr I.env0 (hb s us I.kIn hl) r2 h) fun r s' hq=>?_);cases r with
 | error e=>exact hx pins σ H s e s' I hq
 | ok fl=>
  cases fl with
  | ret u=>exact I.after hq
  | next=>exact False.elim hq
  | brk=>exact False.elim hq
  | cont=>exact False.elim hq
theorem IK (F:Zb X.prog X.w X.K X.mg X.base CX k f fd ps sp) (hr:Yj k X.A) (hg:Gl X x) (hm:X.mg x=some (.ref f)) (hk:PySem.W.keepIn X.K (.ref f)=true) (hb:gc X.K fd ps ds) (hd:pd dvs ds) (hx:Pm CX X E)
  (ha:PA X (e :: es) t) (hdb:(x == ("__debug__" : Str))=false:=by decide) (he:starEach (e :: es) X.env=(false,eval e X.env) :: starEach es X.env:=by rfl) (hpl:(backTo pos (starEach es X.env)).any (·.1)=false:=by rfl) :
  PE X (.Call (.Name x p) (e :: es) [] pos) (jH sp dvs E t):=by
 intro pins s σ H Q I h;refine wpAny_Call_Name_kw (xv I hg hm ?_ hdb);refine PySem.W.callWith_K (h₀:=X.base) I.ok.mod.kin hk (thn (ha pos pins s σ H _ I h) fun us s1 ⟨vs,H1,I1,r,q⟩=>⟨I1.kIn,?_⟩) he hpl;exact Jw F hr hb hd hx I1 r q
theorem Fe {pl:Sem Bool} (he:PE X o ta) (c:Cls X.K C) (hm:su X.K C m f) (F:Zb X.prog X.w X.K X.mg X.base CX k f fd ps sp) (hr:Yj k X.A) (hb:gc X.K fd ps ds) (hd:pd dvs ds) (hx:Pm CX X E) (ha:PA X (e :: es) t)
  (hst:starEach (e :: es) X.env=(false,eval e X.env) :: starEach es X.env:=by rfl) (hpl:(backTo pos (starEach es X.env)).any (·.1)=false:=by rfl)
  (ht:eval (.Call (.Attribute o m apos) (e :: es) [] pos) X.env=(do
   let ov ← eval o X.env
   standAt apos.atName
   let (f,first) ← holding [ov] (getMethod ov m pl)
   callWith pos f first (backTo pos (starEach (e :: es) X.env)) (backToKw pos (keywordEach [] X.env))):=by rfl) :
  PE X (.Call (.Attribute o m apos) (e :: es) [] pos) (BK C m sp dvs E ta t):=by
 intro pins s σ H Q I h;refine PySem.W.methodCall_KW (pl:=pl) (thn (he pins s σ H _ I h) fun u s1 hZ1=>?_) ht;obtain ⟨x,H1,I1,rx,zq⟩:=hZ1;obtain ⟨a,ex,dx,fs,ea,l,q⟩:=Xh.out zq;subst ex;obtain rfl:u=Value.ref a:=rx;refine ao I1 ea c hm l ?_;refine PySem.W.callWith_K (first:=[.ref a]) (h₀:=X.base) I.ok.mod.kin hm.kp (thn (ha pos pins s1 σ H1 _ I1 q) fun us s2 ⟨vs,H2,I2,r,q2⟩=>⟨I2.kIn,?_⟩) hst hpl;exact Jw (us:=.ref a :: us) (vs:=.ref a :: vs) F hr hb hd hx I2 (.cons rfl r) q2
theorem rj {pl:Sem Bool} (he:PE X o ta) (c:Cls X.K C) (hm:su X.K C m f) (F:Zb X.prog X.w X.K X.mg X.base CX k f fd ps sp) (hr:Yj k X.A) (hb:gc X.K fd ps ds) (hd:pd dvs ds) (hx:Pm CX X E)
  (ht:eval (.Call (.Attribute o m apos) [] [] pos) X.env=(do
   let ov ← eval o X.env
   standAt apos.atName
   let (f,first) ← holding [ov] (getMethod ov m pl)
   callWith pos f first (backTo pos (starEach [] X.env)) (backToKw pos (keywordEach [] X.env))):=by rfl) :
  PE X (.Call (.Attribute o m apos) [] [] pos) (BK C m sp dvs E ta UN):=by
 intro pins s σ H Q I h;refine PySem.W.methodCall_KW (pl:=pl) (thn (he pins s σ H _ I h) fun u s1 hZ1=>?_) ht;obtain ⟨x,H1,I1,rx,zq⟩:=hZ1;obtain ⟨a,ex,dx,fs,ea,l,q⟩:=Xh.out zq;subst ex;obtain rfl:u=Value.ref a:=rx;refine ao I1 ea c hm l ?_;exact PySem.W.callWith_K0 (first:=[.ref a]) I1.kIn hm.kp (Jw (us:=[.ref a]) (vs:=[.ref a]) F hr hb hd hx I1 (.cons rfl .nil) q)
structure Mk (K:PySem.W.Frag) (C f:Addr):Prop where
 makes:PySem.W.makesIn K C=true
 init:PySem.W.findIn K (.ref C) "__init__"=some (some (.ref f))
 fn:PySem.W.isFn K (.ref f)=true
 kp:PySem.W.keepIn K (.ref C)=true
theorem mI {pins:List (Addr × Obj)} {σ:St} {H:Hp} {s:Shared} {Q:VK} {us:List Value} {vs:List V} (M:Mk X.K C f) (F:Zb X.prog X.w X.K X.mg X.base CX k f fd ps sp) (hr:Yj (k + 1) X.A) (hb:gc X.K fd ps ds) (hd:pd dvs ds)
  (hx:Pm CX X E) (I:Inv X pins σ H s) (r:pd vs us)
  (h:∀ x dx,H x=none→H dx=none→dx ≠ x→sp (.ref x :: (vs ++ dvs)) (upd (upd H dx (.own x)) x (.ins C dx [])) (fun v H2=>v=.non∧Q (.ref x) H2) E) :
  wpAny (model X.prog X.w) X.A (call (.ref C) us) (EP X pins σ Q) X.xe s:=by
 have hq:=h (s.heap.objs.size + 1) s.heap.objs.size (I.hok.fresh (Nat.le_succ _)) (I.hok.fresh (Nat.le_refl _)) (Nat.ne_of_lt (Nat.lt_succ_self _));have I2:=Inv.made (C:=C) I;have r2:pd (V.ref (s.heap.objs.size + 1) :: (vs ++ dvs)) (Value.ref (s.heap.objs.size + 1) :: (us ++ ds)):=.cons rfl (r.append hd);have hl:(Value.ref (s.heap.objs.size + 1) :: us ++ ds).length=ps.length:=by
  have e:=r2.length;rw [F.len _ _ _ _ hq] at e;exact e.symm
 refine wpAny_call (KH (f:=f) I.kIn M.makes M.init (beq_iff_eq.mp M.fn) (codeAny_mono (F.run _ X.stack _ _ ⟨Value.ref (s.heap.objs.size + 1) :: us,[]⟩ (Value.ref (s.heap.objs.size + 1) :: (us ++ ds)) _ _ E (hr.make C us [])
  (I2.env0.make C us []) (hb _ (Value.ref (s.heap.objs.size + 1) :: us) I2.kIn hl) r2 hq) fun r s' hq'=>?_))
 cases r with
 | error e=>exact hx pins σ _ _ e s' I2 hq'
 | ok fl=>
  cases fl with
  | ret u=>
   obtain ⟨v,H',I3,rv,ev,q3⟩:=I2.after hq';subst ev;exact ⟨rv,⟨V.ref (s.heap.objs.size + 1),H',I3,rfl,q3⟩⟩
  | next=>exact False.elim hq'
  | brk=>exact False.elim hq'
  | cont=>exact False.elim hq'
theorem Wn (M:Mk X.K C f) (F:Zb X.prog X.w X.K X.mg X.base CX k f fd ps sp) (hr:Yj (k + 1) X.A) (hg:Gl X x) (hm:X.mg x=some (.ref C)) (hb:gc X.K fd ps ds) (hd:pd dvs ds) (hx:Pm CX X E)
  (ha:PA X (e :: es) t) (hdb:(x == ("__debug__" : Str))=false:=by decide) (he:starEach (e :: es) X.env=(false,eval e X.env) :: starEach es X.env:=by rfl) (hpl:(backTo pos (starEach es X.env)).any (·.1)=false:=by rfl) :
  PE X (.Call (.Name x p) (e :: es) [] pos) (qN C sp dvs E t):=by
 intro pins s σ H Q I h;refine wpAny_Call_Name_kw (xv I hg hm ?_ hdb);refine PySem.W.callWith_K (h₀:=X.base) I.ok.mod.kin M.kp (thn (ha pos pins s σ H _ I h) fun us s1 ⟨vs,H1,I1,r,q⟩=>⟨I1.kIn,?_⟩) he hpl;exact mI M F hr hb hd hx I1 r q
end
section
variable {X:Cx} {CX:CXT} {k:Nat} {f C:Addr} {fd:FuncData} {ps ks:List Str} {sp:Sp} {E:XK} {x m:Str} {p pos apos kpos:Pos} {e o:Expr} {es:List Expr} {kws:List Keyword} {te ta:TE} {t tk:TA} {nm:Option Str}
structure qP (K:PySem.W.Frag) (fd:FuncData) (ps ks:List Str) (g:List Value→List Value→List Value) (gV:List V→List V→List V):Prop where
 to:∀ (s:Shared) (us ws:List Value),K.In s.heap→(g us ws).length=ps.length→BindsTo s fd ⟨us,ks.zip ws⟩ (ps.zip (g us ws))
 rel:∀ {vs:List V} {us:List Value} {zs:List V} {ws:List Value},pd vs us→pd zs ws→pd (gV vs zs) (g us ws)
variable {g:List Value→List Value→List Value} {gV:List V→List V→List V}
end
structure Cb (N P:List Str) (sc:Scope):Prop where
 kind:sc.kind=.function
 co:sc.isCoroutine=false
 gen:sc.isGenerator=false
 nd:N.Nodup
 pre:N.take P.length=P
 par:∀ x ∈ P,sc.names.lookup x=some .local∨sc.names.lookup x=some .cell
 nofree:∀ y ∈ sc.names,y.2 ≠ .free
theorem cx {kindOf:Str→Option NameKind} {x:Str}:∀ {binds:List (Str × Value)} {m:Str→Option Value},(∀ v,(x,v) ∉ binds)→bindL kindOf binds m x=m x
 | [],_,_=>rfl
 | (n,v) :: r,m,h=>by
  unfold bindL;rw [cx fun w hw=>h w (List.mem_cons_of_mem _ hw)];split
  ·have:x ≠ n:=by rintro rfl;exact h v List.mem_cons_self
   simp [this]
  ·rfl
theorem Rw {kindOf:Str→Option NameKind} {x:Str}:∀ {binds:List (Str × Value)} {m:Str→Option Value},(∀ v,(x,v) ∉ binds)→bindC kindOf binds m x=m x
 | [],_,_=>rfl
 | (n,v) :: r,m,h=>by
  unfold bindC;rw [Rw fun w hw=>h w (List.mem_cons_of_mem _ hw)];split
  ·rfl
  ·have:x ≠ n:=by rintro rfl;exact h v List.mem_cons_self
   simp [this]
theorem Tv {kindOf:Str→Option NameKind} {x:Str} {v:Value}:∀ {P:List Str} {vs:List Value} {i:Nat} {m:Str→Option Value},P.Nodup→P[i]? = some x→vs[i]? = some v→kindOf x=some .local →
  bindL kindOf (P.zip vs) m x=some v
 | [],_,_,_,_,h,_,_=>by simp at h
 | _ :: _,[],_,_,_,_,h,_=>by simp at h
 | p :: P,w :: vs,0,m,nd,h1,h2,hk=>by
  simp at h1 h2;subst h1;subst h2;show bindL kindOf ((p,w) :: P.zip vs) m p=_;unfold bindL;rw [cx fun v hv=>(List.nodup_cons.mp nd).1 (List.of_mem_zip hv).1,if_pos hk];simp
 | p :: P,w :: vs,i + 1,m,nd,h1,h2,hk=>by
  show bindL kindOf ((p,w) :: P.zip vs) m x=_;unfold bindL;exact Tv (i:=i) (List.nodup_cons.mp nd).2 (by simpa using h1) (by simpa using h2) hk
theorem Zv {kindOf:Str→Option NameKind} {x:Str} {v:Value}:∀ {P:List Str} {vs:List Value} {i:Nat} {m:Str→Option Value},P.Nodup→P[i]? = some x→vs[i]? = some v→kindOf x ≠ some .local →
  bindC kindOf (P.zip vs) m x=some v
 | [],_,_,_,_,h,_,_=>by simp at h
 | _ :: _,[],_,_,_,_,h,_=>by simp at h
 | p :: P,w :: vs,0,m,nd,h1,h2,hk=>by
  simp at h1 h2;subst h1;subst h2;show bindC kindOf ((p,w) :: P.zip vs) m p=_;unfold bindC;rw [Rw fun v hv=>(List.nodup_cons.mp nd).1 (List.of_mem_zip hv).1,if_neg hk];simp
 | p :: P,w :: vs,i + 1,m,nd,h1,h2,hk=>by
  show bindC kindOf ((p,w) :: P.zip vs) m x=_;unfold bindC;exact Zv (i:=i) (List.nodup_cons.mp nd).2 (by simpa using h1) (by simpa using h2) hk
noncomputable def start (N:List Str) (vs:List V):St:=vs.map some ++ List.replicate (N.length - vs.length) none
noncomputable def xK (CX:CXT) (P:Program) (w:World) (K:PySem.W.Frag) (mg:Str→Option Value) (base:Heap) (N:List Str) (qual:Str) (scope:Scope) (f:Addr) (cd:Value) (A:Around) (outer:List Env) (s:Shared) (H:Hp) (E:XK):Cx where
 prog:=P
 w:=w
 K:=K
 mg:=mg
 base:=base
 A:=A.deeper (envOfC qual scope s.heap.objs.size f cd)
 N:=N
 s₀:=s
 H₀:=H
 env:=envOfC qual scope s.heap.objs.size f cd
 outer:=outer
 stack:=envOfC qual scope s.heap.objs.size f cd :: outer
 ex:=[]
 calm:=true
 fn:=fun _=>true
 pn:=[]
 xe:=fun e s'=>wpAny (model P w) (A.deeper (envOfC qual scope s.heap.objs.size f cd)) (leaving (envOfC qual scope s.heap.objs.size f cd) e) (fun _ s''=>CX outer H s E e s'') (fun e' s''=>CX outer H s E e' s'') s'
theorem kz {sc:Scope} {n:Nat} {x:Str} (h:sc.names.lookup x=some .cell):∃ c,(cellsFrom n sc.names []).lookup x=some c:=by
 have q:=PySem.W.cellsFrom_some sc.names n [] (.inl h);exact Option.isSome_iff_exists.mp q
theorem DE {CX:CXT} {P:Program} {w:World} {K:PySem.W.Frag} {mg:Str→Option Value} {base:Heap} {N ps:List Str} {qual:Str} {scope:Scope} {f:Addr} {cd:Value} {A:Around} {outer:List Env} {s s1:Shared} {H:Hp} {E:XK} {us:List Value} {vs:List V}
  (S:Cb N ps scope) (hd:A.handled=none) (e0:SD P w K mg base A outer s H) (hl:vs.length=ps.length) (r:pd vs us)
  (x:InCallC s s.heap.objs.size (bindL (envOfC qual scope s.heap.objs.size f cd).kindOf (ps.zip us) fun _=>none) (cellsFrom (s.heap.objs.size + 1) scope.names []) (bindC (envOfC qual scope s.heap.objs.size f cd).kindOf (ps.zip us) fun _=>none) s1) :
  Inv (xK CX P w K mg base N qual scope f cd A outer s H E) [] (start N vs) H s1:=by
 have hpl:ps.length ≤ N.length:=by have:=congrArg List.length S.pre;rw [List.length_take] at this;omega
 obtain ⟨h1,tk,rfl,hk⟩:=x.done;have noA:∀ b:Addr,b ∉ (xK CX P w K mg base N qual scope f cd A outer s H E).ex:=fun b z=>absurd (show b ∈ ([]:List Addr) from z) (by simp)
 refine ⟨⟨e0.mod,S.kind,rfl,rfl,Nat.le_refl _,fun y z c h1 h2=>?_,fun y hy=>?_,fun y c _ h=>?_,fun _=>hd,Around.frames_deeper e0.frames,.inr ⟨rfl,rfl⟩,fun b z=>absurd z (noA b),e0.bs,e0.bsz,fun b _ _=>noA b,fun b z=>absurd z (noA b),e0.funs,e0.frf⟩,
  rfl,e0.bare,Un.kept hk,⟨_,x.toInCall.ns,fun i y v h1 h2 h3=>?_⟩,fun y c h=>⟨_,x.cell y c h⟩,e0.hok.fresh (Nat.le_refl _),fun y c h=>?_,fun p hp=>absurd (show p ∈ ([]:List (Addr × Obj)) from hp) (by simp),e0.hok.kept hk,?_⟩
 ·exact name_of_addr x.apart (PySem.mem_of_lookup h1) (PySem.mem_of_lookup h2)
 ·have hy:scope.names.lookup y=some .cell∨scope.names.lookup y=some .free:=hy;rcases hy with hy | hy
  ·exact kz hy
  ·exact absurd rfl (S.nofree _ (PySem.mem_of_lookup hy))
 ·exact Nat.le_of_lt (x.above y c (PySem.mem_of_lookup h))
 ·have hi:i < vs.length:=by
   unfold start at h2;by_cases hi:i < vs.length
   ·exact hi
   ·rw [List.getElem?_append_right (by simpa using hi)] at h2;rw [List.getElem?_replicate] at h2;split at h2 <;> cases h2
  have ha:vs[i]? = some v:=by
   unfold start at h2;rw [List.getElem?_append_left (by simpa using hi),List.getElem?_map] at h2;cases e:vs[i]? with
   | none=>rw [e] at h2;cases h2
   | some a=>rw [e] at h2;cases h2;rfl
  obtain ⟨u,hu,rv⟩:=r.get ha;have hp:ps[i]? = some y:=by
   rw [← S.pre,List.getElem?_take_of_lt (by omega)];exact h1
  have ndP:ps.Nodup:=by rw [← S.pre];exact S.nd.sublist (List.take_sublist _ _)
  refine ⟨u,rv,?_⟩;rcases S.par y (List.mem_of_getElem? hp) with k | k
  ·exact .inl ⟨k,Tv ndP hp hu k⟩
  ·obtain ⟨c,e⟩:=kz (n:=s.heap.objs.size + 1) k;refine .inr ⟨.inl k,c,e,?_⟩;have q:=x.cell y c e;rw [Zv ndP hp hu (by show scope.names.lookup y ≠ _;rw [k];decide)] at q;exact q
 ·exact e0.hok.fresh (Nat.le_of_lt (x.above y c (PySem.mem_of_lookup h)))
 ·unfold start;show _=N.length;rw [List.length_append,List.length_map,List.length_replicate];omega
theorem vO {CX:CXT} {P:Program} {w:World} {K:PySem.W.Frag} {mg:Str→Option Value} {base:Heap} {k:Nat} {f:Addr} {name qual:Str} {params:Arguments} {body:List Stmt} {scope:Scope} {dV kV doc pm cdv ct oc:Value} {an od:Option Addr}
  {osl:Array (Option Value)} {N ps:List Str} {sp:Sp} (lk:K.lookup f=some ⟨oc,od,.func (PySem.W.fnOf name qual params body scope dV kV doc pm an cdv ct),osl⟩) (hcd:PySem.W.codeIn K cdv qual=true) (S:Cb N ps scope)
  (len:∀ vs H Q E,sp vs H Q E→vs.length=ps.length)
  (hbody:∀ (A:Around) (outer:List Env) (s:Shared) (H:Hp) (vs:List V) (Q:VK) (E:XK),Yj k (A.deeper (envOfC qual scope s.heap.objs.size f cdv))→sp vs H Q E →
   ∃ t,PSs (xK CX P w K mg base N qual scope f cdv A outer s H E) body t∧t { nx:=fun _ H'=>Q .non H',rt:=Q } (start N vs) H) :
  Zb P w K mg base CX (k + 1) f (PySem.W.fnOf name qual params body scope dV kV doc pm an cdv ct) ps sp:=by
 refine ⟨len,fun A outer s H args us vs Q E hr e0 hb r hsp=>?_⟩;have hl:=len _ _ _ _ hsp;have KX:K.In s.heap:=e0.mod.kin.keeps fun b o e=>(e0.bs b o e).1
 have lim:s.heap.NoLimit:=e0.mod.nolimit.keeps fun b o e=>(e0.bs b o e).1
 have hkind:∀ y ∈ ps.zip us,scope.names.lookup y.1=some .local∨(scope.names.lookup y.1=some .cell∧((cellsFrom (s.heap.objs.size + 1) scope.names []).lookup y.1).isSome=true):=fun ⟨n,v⟩ hy=>by
  rcases S.par n (List.of_mem_zip hy).1 with q | q
  ·exact .inl q
  ·exact .inr ⟨q,PySem.W.cellsFrom_some _ _ _ (.inl q)⟩
 refine codeAny_call_function hr.depth (KX _ _ lk) rfl S.co S.gen rfl (PySem.W.codeRec_of KX hcd) (hb _ _ _ _ ?_);refine wpAny_newFunctionEnv_cells S.kind hkind fun env he s1 x=>?_
 subst he;refine ⟨lim.keeps x.toInCall.keep,codeAny_func ?_⟩;obtain ⟨t,ht,hq⟩:=hbody A outer s H vs Q E (hr.deeper _) hsp;have I:Inv (xK CX P w K mg base N qual scope f cdv A outer s H E) [] (start N vs) H s1:=DE S hr.hd e0 hl r x;refine wpAny_mono (ht [] s1 (start N vs) H _ I hq) (fun fl s' hs=>?_) fun e s' hs=>hs
 have fin:∀ {σ':St} {H':Hp} {v:V} {u:Value},Inv (xK CX P w K mg base N qual scope f cdv A outer s H E) [] σ' H' s'→zd v u→Q v H'→CE outer P w H s Q u s':=
  fun {σ' H' v u} J rv q=>⟨v,H',J.os,J.bare,J.base,J.hok,rv,q⟩
 cases fl with
 | ret u=>
  obtain ⟨v,σ',H',J,rv,q⟩:=hs;exact fin J rv q
 | next=>
  obtain ⟨σ',H',J,q⟩:=hs;exact fin (v:=V.non) (u:=Value.none) J rfl q
 | brk=>
  obtain ⟨_,_,_,q⟩:=hs;exact False.elim q
 | cont=>
  obtain ⟨_,_,_,q⟩:=hs;exact False.elim q
end L2
namespace L2
open PySem PySem.Spec PyProof.Rows
section
variable {X:Cx} {x:Str} {p pos:Pos} {e:Expr} {es:List Expr} {t:TA} {id T:String} {r:List V→Hp→VK→Prop}
noncomputable def tCB (r:List V→Hp→VK→Prop) (t:TA):TE:=fun σ H Q=>t σ H fun vs H1=>r vs H1 Q
theorem Kb (hc:Fj X (.builtin id) r) (hg:Gl X x) (hm:X.mg x=none) (hv:bootBuiltins x=some (.builtin id)) (ha:PA X (e :: es) t) (hn:x ≠ "__name__" := by decide) (hdb:(x == ("__debug__" : Str))=false:=by decide)
  (he:starEach (e :: es) X.env=(false,eval e X.env) :: starEach es X.env:=by rfl) (hpl:(backTo pos (starEach es X.env)).any (·.1)=false:=by rfl):PE X (.Call (.Name x p) (e :: es) [] pos) (tCB r t):=by
 intro pins s σ H Q I h;refine wpAny_Call_Name_kw (rn I hg hm hv ?_ hn hdb);exact PyProof.Rows.callWith_builtin1 (thn (ha pos pins s σ H _ I h) fun us s1 ⟨vs,H1,I1,r1,q1⟩=>hc pins s1 σ H1 vs us Q I1 r1 q1) he hpl
theorem ug (hc:Fj X (.type T) r) (hg:Gl X x) (hm:X.mg x=none) (hv:bootBuiltins x=some (.type T)) (ha:PA X (e :: es) t) (hn:x ≠ "__name__" := by decide) (hdb:(x == ("__debug__" : Str))=false:=by decide)
  (he:starEach (e :: es) X.env=(false,eval e X.env) :: starEach es X.env:=by rfl) (hpl:(backTo pos (starEach es X.env)).any (·.1)=false:=by rfl):PE X (.Call (.Name x p) (e :: es) [] pos) (tCB r t):=by
 intro pins s σ H Q I h;refine wpAny_Call_Name_kw (rn I hg hm hv ?_ hn hdb);exact PyProof.Rows.callWith_type1 (thn (ha pos pins s σ H _ I h) fun us s1 ⟨vs,H1,I1,r1,q1⟩=>hc pins s1 σ H1 vs us Q I1 r1 q1) he hpl
end
end L2
namespace HT
open PySem PyProof.Rows
section
open PySem.SeqAt
open PySem.AutoSeq1 (wpAny_loadPart')
open PySem.MeetsSeq PySem.MeetsSeq2 PySem.MeetsSeq3
end
section
variable {prog:Program} {w:World} {A:Around} {E:Value→Shared→Prop} {s:Shared}
theorem cat_tup {t b:Addr} {vs ws:List Value} {Q:Value→Shared→Prop} (ht:IsTup s.heap t vs.toArray) (hb:IsTup s.heap b ws.toArray) (hv:vs ≠ [])
  (h1:ws=[]→Q (.ref t) s) (h2:ws ≠ []→Q (.ref s.heap.objs.size) { s with heap:=s.heap.push { cls:=.type "tuple",data:=.seq (vs ++ ws).toArray } })
  (hsz:vs.length + ws.length ≤ sizeLine):wpAny (model prog w) A (binaryOp .Add (.ref t) (.ref b)) Q E s:=by
 obtain ⟨⟨cls,dd,data,sl⟩,ho,hc,n,hd⟩:=id ht;obtain ⟨⟨cls2,dd2,data2,sl2⟩,ho2,hc2,n2,hd2⟩:=id hb;simp only at hc hd hc2 hd2;subst hc hd hc2 hd2;have e:vs.toArray ++ ws.toArray=(vs ++ ws).toArray:=by simp
 by_cases hw:ws=[]
 ·exact concat_meets ⟨_,ho,rfl⟩ ⟨_,ho2,rfl⟩ noFill_tuple_add seq_tuple_add PySem.F.slot_tuple_add PySem.F.entry_tuple_add (PySem.F.args_tuple_add_2 _ _)
   (tuple_addW1 t b vs.toArray ws.toArray n n2 dd dd2 sl sl2 (by simpa using hv) (by simp [hw])) ⟨ho,ho2,h1 hw⟩
 ·refine concat_meets ⟨_,ho,rfl⟩ ⟨_,ho2,rfl⟩ noFill_tuple_add seq_tuple_add PySem.F.slot_tuple_add PySem.F.entry_tuple_add (PySem.F.args_tuple_add_2 _ _)
   (tuple_addW2 t b vs.toArray ws.toArray n n2 dd dd2 sl sl2 (by simpa using hv) (by simpa using hw) (by rw [List.size_toArray,List.size_toArray];exact hsz)) ⟨ho,ho2,?_⟩
  rw [e];exact h2 hw
noncomputable def sIx (n d:Nat):Option Int→Nat
 | none=>d
 | some v=>if v < 0 then (v + (n:Int)).toNat else min v.toNat n
theorem nN (n d:Nat) (hd:d ≤ n) (o:Option Int):sIx n d o ≤ n:=by
 cases o with
 | none=>exact hd
 | some v=>
  show (if v < 0 then (v + (n:Int)).toNat else min v.toNat n) ≤ n;by_cases hv:v < 0
  ·rw [if_pos hv];omega
  ·rw [if_neg hv];exact Nat.min_le_right _ _
theorem ZC (v:Int) (n d:Nat):(if v < 0 then max (v + (n:Int)) 0 else min v (n:Int))=((sIx n d (some v):Nat):Int):=by
 show (if v < 0 then max (v + (n:Int)) 0 else min v (n:Int))=(((if v < 0 then (v + (n:Int)).toNat else min v.toNat n):Nat):Int);by_cases hv:v < 0
 ·simp only [if_pos hv];omega
 ·simp only [if_neg hv];omega
theorem oC (lo hi:Option Int) (n:Nat):Builtin.Slice.sliceAdjust lo hi 1 (n:Int)=(((sIx n 0 lo:Nat):Int),((sIx n n hi:Nat):Int)):=by
 have h1:¬ ((1:Int) < 0):=by omega
 unfold Builtin.Slice.sliceAdjust;simp only [h1,if_false];refine Prod.ext ?_ ?_
 ·cases lo with
  | none=>rfl
  | some v=>exact ZC v n 0
 ·cases hi with
  | none=>rfl
  | some v=>exact ZC v n n
theorem qB (i j:Nat):Builtin.Slice.slicePlaces (i:Int) (j:Int) 1=j - i:=by
 unfold Builtin.Slice.slicePlaces;have h1:(1:Int) > 0:=by omega
 simp only [h1,if_true,Int.ediv_one];split <;> omega
theorem Ct {v:Value} {o:Option Int} {Q:Option Int→Shared→Prop} (p:IsPart v o) (h:Q o s):wpAny (model prog w) A (Builtin.Slice.slicePartIndex v) Q E s:=by
 cases p with
 | none=>exact slicePart_none h
 | int i t=>exact slicePart_int h
theorem gp {sl:Addr} {vl vu:Value} {lo hi:Option Int} {n:Nat} {Q:Int × Int × Nat→Shared→Prop} (hs:s.heap.IsSliceOf sl vl vu .none) (pl:IsPart vl lo) (pu:IsPart vu hi)
  (h:Q (((sIx n 0 lo:Nat):Int),1,sIx n n hi - sIx n 0 lo) s):wpAny (model prog w) A (Builtin.Slice.sliceApplied (.ref sl) (pure (n:Int))) Q E s:=by
 obtain ⟨os,hos,hcs,hds⟩:=id hs;unfold Builtin.Slice.sliceApplied Builtin.Slice.sliceFields;refine wpAny_bind (wpAny_bind (wpAny_field hos hds (x:=vl) rfl (wpAny_bind (wpAny_field hos hds (x:=vu) rfl (wpAny_bind (wpAny_field hos hds (x:=.none) rfl (wpAny_pure ?_)))))));refine wpAny_bind (slicePart_none ?_);show wpAny _ _ (if ((1:Int) == 0)=true then _ else _) _ _ s;rw [if_neg (by decide)];refine wpAny_bind (Ct pl (wpAny_bind (Ct pu (wpAny_bind (wpAny_pure ?_)))));show wpAny _ _ (match Builtin.Slice.sliceAdjust lo hi 1 (n:Int) with | (lo,hi)=>pure (lo,(1:Int),Builtin.Slice.slicePlaces lo hi 1)) _ _ s;rw [oC lo hi n];show wpAny _ _ (pure (((sIx n 0 lo:Nat):Int),(1:Int),Builtin.Slice.slicePlaces ((sIx n 0 lo:Nat):Int) ((sIx n n hi:Nat):Int) 1)) _ _ s;rw [qB];exact wpAny_pure h
theorem WH (xs:Array Value) (i k:Nat):((List.range k).filterMap fun (m:Nat)=>xs[((i:Int) + (m:Int) * 1).toNat]?).toArray=((xs.toList.drop i).take k).toArray:=by
 have e:(fun (m:Nat)=>xs[((i:Int) + (m:Int) * 1).toNat]?)=fun m=>xs[i + m]?:=by
  funext m;have:((i:Int) + (m:Int) * 1).toNat=i + m:=by omega
  rw [this]
 rw [e];have:=pick_run xs i k;rw [List.filterMap_map] at this;have e2:((fun x=>xs[x]?) ∘ fun x=>i + x)=fun m=>xs[i + m]?:=rfl
 rw [e2] at this;rw [this]
theorem getItem_tuple_cut {t sl:Addr} {items:Array Value} {vl vu:Value} {lo hi:Option Int} {Q:Value→Shared→Prop} (ht:IsTup s.heap t items) (hs:s.heap.IsSliceOf sl vl vu .none) (pl:IsPart vl lo) (pu:IsPart vu hi)
  (hw:¬ (sIx items.size 0 lo=0∧sIx items.size items.size hi=items.size))
  (h:Q (.ref s.heap.objs.size) { s with heap:=s.heap.push { cls:=.type "tuple",data:=.seq ((items.toList.drop (sIx items.size 0 lo)).take (sIx items.size items.size hi - sIx items.size 0 lo)).toArray } })
  (hsz:items.size ≤ sizeLine):wpAny (model prog w) A (getItem (.ref t) (.ref sl)) Q E s:=by
 have htake:sizeOk (.seq ((items.toList.drop (sIx items.size 0 lo)).take (sIx items.size items.size hi - sIx items.size 0 lo)).toArray):=by
  show ((items.toList.drop (sIx items.size 0 lo)).take (sIx items.size items.size hi - sIx items.size 0 lo)).toArray.size ≤ sizeLine;rw [List.size_toArray,List.length_take,List.length_drop,Array.length_toList];omega
 have hj:sIx items.size items.size hi ≤ items.size:=nN _ _ (Nat.le_refl _) hi;obtain ⟨os,hos,hcs,hds⟩:=id hs;have hTs:s.TypeIs (.ref sl) "slice" := ⟨os,hos,hcs⟩;unfold getItem
 try with_reducible refine wpAny_holding ?_
 first | refine wpAny_bind (wpAny_pure ?_) | skip
 refine wpAny_bind (wpAny_sequenceKey ht.typeIs (by decide) ?_);refine wpAny_bind (wpAny_callSpecial?_slot (name:=Str.ofString "__getitem__") ht.typeIs PyProof.Rows.slot_tuple_getitem
  (wpAny_call_entry PyProof.Rows.slot_tuple_getitem ht.typeIs entry_tuple_getitem ?_ (args_tuple_getitem _ _)))
 show wpAny _ _ (Builtin.Tuple.tupleItemsOf (.ref t) >>= _) _ _ s;refine wpAny_bind (tupleItemsOf_ ht ?_);refine wpAny_bind (wpAny_typeOf hTs ?_);rw [if_pos (by decide)];refine wpAny_bind (gp hs pl pu ?_);have hno:¬ ((((sIx items.size 0 lo:Nat):Int) == 0 && (1:Int) == 1 && (sIx items.size items.size hi - sIx items.size 0 lo) == items.size)=true):=by
  intro q;rw [Bool.and_eq_true,Bool.and_eq_true] at q;have q1:((sIx items.size 0 lo:Nat):Int)=0:=eq_of_beq q.1.1;have q2:sIx items.size items.size hi - sIx items.size 0 lo=items.size:=eq_of_beq q.2;exact hw ⟨by omega,by omega⟩
 show wpAny _ _ (if (((sIx items.size 0 lo:Nat):Int) == 0 && (1:Int) == 1 && (sIx items.size items.size hi - sIx items.size 0 lo) == items.size)=true then _ else _) _ _ s;rw [if_neg hno,WH]
 first
  | exact wpAny_bind (m:=Builtin.Tuple.tupleExact _) (wpAny_newObj_type (wpAny_pure ⟨_,rfl,wpAny_pure h⟩) htake)
  | exact wpAny_bind (m:=Builtin.Tuple.tupleExact _) (wpAny_newObj_type (wpAny_bind (wpAny_pure (wpAny_pure ⟨_,rfl,wpAny_pure h⟩))) htake)
  | exact wpAny_bind (wpAny_bind (m:=Builtin.Tuple.tupleExact _) (wpAny_newObj_type (wpAny_pure (wpAny_pure ⟨_,rfl,wpAny_pure h⟩)) htake))
  | exact wpAny_bind (wpAny_bind (m:=Builtin.Tuple.tupleExact _) (wpAny_newObj_type (wpAny_pure ⟨_,rfl,wpAny_pure h⟩) htake))
end
end HT
namespace L2
open PySem PySem.Spec PyProof.Rows
noncomputable abbrev TO:=St→Hp→(Option Int→Hp→Prop)→Prop
noncomputable def PO (X:Cx) (e:Option Expr) (t:TO):Prop:=
 ∀ (pins:List (Addr × Obj)) (s:Shared) (σ:St) (H:Hp) (Q:Option Int→Hp→Prop),Inv X pins σ H s→t σ H Q →
  wpAny (model X.prog X.w) X.A (evalPart e X.env) (fun u s'=>∃ o H',Inv X pins σ H' s'∧IsPart u o∧Q o H') X.xe s
noncomputable def vD:TO:=fun _ H Q=>Q none H
noncomputable def KL (t:TE):TO:=fun σ H Q=>t σ H fun x H1=>Wj x fun i=>Q (some i) H1
theorem Ys {ns:List Int}:∀ {us:List Value},pd (ns.map V.int) us→IntsAre us ns:=by
 induction ns with
 | nil=>intro us r;rw [List.map_nil] at r;cases r;exact .nil
 | cons n ns ih=>
  intro us r;rw [List.map_cons] at r;cases r with
  | cons r1 r2=>
   obtain ⟨t,e⟩:=r1;subst e;exact .cons n t (ih r2)
section
variable {X:Cx} {e:Expr} {te:TE} {lo hi:Option Expr} {tl th:TO} {pos p2:Pos}
theorem xu:PO X none vD:=by
 intro pins s σ H Q I h;rw [evalPart_none];exact wpAny_pure ⟨none,H,I,.none,h⟩
theorem Di (h:PE X e te):PO X (some e) (KL te):=by
 intro pins s σ H Q I hw;rw [evalPart_some];refine thn (h pins s σ H _ I hw) fun u s1 hZ1=>?_
 obtain ⟨x,H1,I1,r1,q1⟩:=hZ1;obtain ⟨i,rfl,q⟩:=Wj.out q1;obtain ⟨t,rfl⟩:=r1;exact ⟨some i,H1,I1,.int i t,q⟩
noncomputable def SlR (X:Cx) (r:V→Option Int→Option Int→Hp→VK→Prop):Prop:=
 ∀ (pins:List (Addr × Obj)) (s:Shared) (σ:St) (H:Hp) (x:V) (v vl vu:Value) (lo hi:Option Int) (sl:Addr) (Q:VK),Inv X pins σ H s→zd x v→s.heap.IsSliceOf sl vl vu .none→IsPart vl lo→IsPart vu hi→r x lo hi H Q →
  ∃ T id,typeLookup (.type T) "__getitem__"=pure (some (.builtin id))∧s.TypeIs v T∧wpAny (model X.prog X.w) X.A (getItem v (.ref sl)) (EP X pins σ Q) X.xe s
theorem SlR.or {r r':V→Option Int→Option Int→Hp→VK→Prop} (h:SlR X r) (h':SlR X r'):SlR X (fun x lo hi H Q=>r x lo hi H Q∨r' x lo hi H Q):=by
 intro pins s σ H x v vl vu lo hi sl Q I rx hs pl pu q;rcases q with q | q
 ·exact h pins s σ H x v vl vu lo hi sl Q I rx hs pl pu q
 ·exact h' pins s σ H x v vl vu lo hi sl Q I rx hs pl pu q
noncomputable def tSl (r:V→Option Int→Option Int→Hp→VK→Prop) (te:TE) (tl th:TO):TE:=fun σ H Q=>te σ H fun x H1=>tl σ H1 fun l H2=>th σ H2 fun u H3=>r x l u H3 Q
theorem Bj {r:V→Option Int→Option Int→Hp→VK→Prop} (hr:SlR X r) (he:PE X e te) (hl:PO X lo tl) (hu:PO X hi th):PE X (.Subscript e (.Slice lo hi none p2) pos) (tSl r te tl th):=by
 intro pins s σ H Q I h;refine Subscript_ (thn (he pins s σ H _ I h) fun v s1 hZ1=>?_);obtain ⟨x,H1,I1,r1,q1⟩:=hZ1;refine wpAny_Slice (thn (hl pins s1 σ H1 _ I1 q1) fun vl s2 ⟨l,H2,I2,pl,q2⟩=>thn (hu pins s2 σ H2 _ I2 q2) fun vu s3 hZ1=>?_);obtain ⟨u,H3,I3,pu,q3⟩:=hZ1;rw [evalPart_none];refine wpAny_pure ?_;have I4:Inv X pins σ H3 { s3 with heap:=s3.heap.push { cls:=.type "slice",data:=.fields #[vl,vu,.none] } }:=I3.kept (t':=s3.toks) fun b ob q=>Heap.get?_push_of_some _ q
 obtain ⟨T,id,hT,ht,hg⟩:=hr pins { s3 with heap:=s3.heap.push { cls:=.type "slice",data:=.fields #[vl,vu,.none] } } σ H3 x v vl vu l u s3.heap.objs.size Q I4 r1 (Heap.IsSliceOf.new ..) pl pu q3;show wpAny (model X.prog X.w) X.A (subscriptTail e (.Slice lo hi none p2) v (.ref s3.heap.objs.size)) (EP X pins σ Q) X.xe { s3 with heap:=s3.heap.push { cls:=.type "slice",data:=.fields #[vl,vu,.none] } };exact tail_any (ops:=[.ref s3.heap.objs.size,v]) ht hT hg (by with_unfolding_all rfl)
noncomputable def uC (xs:List V) (lo hi:Option Int):List V:=(xs.drop (HT.sIx xs.length 0 lo)).take (HT.sIx xs.length xs.length hi - HT.sIx xs.length 0 lo)
theorem ir (xs:List V) (lo hi:Option Int):(uC xs lo hi).length ≤ xs.length:=by
 unfold uC;rw [List.length_take,List.length_drop];omega
noncomputable def fP (K:PySem.W.Frag):V→Option Int→Option Int→Hp→VK→Prop:=fun x lo hi H Q=>∃ a xs,x=.ref a∧SqT K H a xs ∧
 ¬ (HT.sIx xs.length 0 lo=0∧HT.sIx xs.length xs.length hi=xs.length)∧∀ p,H p=none→Q (.ref p) (upd H p (.tup (uC xs lo hi)))
theorem yE:SlR X (fP X.K):=by
 intro pins s σ H x v vl vu lo hi sl Q I rx hs pl pu h;obtain ⟨a,xs,rfl,hx,hw,q⟩:=h;cases rx;obtain ⟨its,r,ht,hz⟩:=I.tuple hx;have hlen:its.toArray.size=xs.length:=by rw [List.size_toArray];exact r.length.symm
 refine ⟨"tuple",_,PyProof.Rows.slot_tuple_getitem.lookup,ht.typeIs,?_⟩;refine HT.getItem_tuple_cut ht hs pl pu (by rw [hlen];exact hw) ?_ (by rw [hlen];exact hz);rw [hlen];refine ⟨.ref s.heap.objs.size,_,I.laid (t':=s.toks) (o:=.tup (uC xs lo hi)) (fun b ob q=>Heap.get?_push_of_some _ q) (Nat.le_refl _) ?_,rfl,q _ (I.hok.fresh (Nat.le_refl _))⟩;exact ⟨⟨Nat.le_trans (ir xs lo hi) hz,_,Heap.get?_push_size _ rfl,rfl⟩,_,(r.drop (HT.sIx xs.length 0 lo)).take (HT.sIx xs.length xs.length hi - HT.sIx xs.length 0 lo),IsTup.new _ _⟩
noncomputable def sM (K:PySem.W.Frag):R2:=fun x y H Q=>∃ a b xs ys,x=.ref a∧y=.ref b∧SqT K H a xs∧SqT K H b ys∧xs ≠ []∧xs.length + ys.length ≤ sizeLine ∧
 (ys=[]→Q (.ref a) H)∧(ys ≠ []→∀ p,H p=none→Q (.ref p) (upd H p (.tup (xs ++ ys))))
theorem pd.nil_iff {xs:List V} {us:List Value} (r:pd xs us):us=[]↔xs=[]:=by
 cases r with
 | nil=>simp
 | cons _ _=>simp
theorem EK:OpR X (binaryOp .Add) (sM X.K):=by
 intro pins s σ H x y v u Q I rx ry h;obtain ⟨a,b,xs,ys,rfl,rfl,ha,hb,hx,hz,q1,q2⟩:=h;cases rx;cases ry;obtain ⟨its,r1,p1,_⟩:=I.tuple ha;obtain ⟨its2,r2,p2,_⟩:=I.tuple hb;refine HT.cat_tup p1 p2 (fun z=>hx (r1.nil_iff.mp z)) (fun z=>⟨.ref a,H,I,rfl,q1 (r2.nil_iff.mp z)⟩) (fun z=>?_) (by rw [← r1.length,← r2.length];exact hz);refine ⟨.ref s.heap.objs.size,_,I.laid (t':=s.toks) (o:=.tup (xs ++ ys)) (fun b ob q=>Heap.get?_push_of_some _ q) (Nat.le_refl _) ?_,rfl,q2 (fun w=>z (r2.nil_iff.mpr w)) _ (I.hok.fresh (Nat.le_refl _))⟩;exact ⟨⟨by rw [List.length_append];exact hz,_,Heap.get?_push_size _ rfl,rfl⟩,_,r1.append r2,IsTup.new _ _⟩
end
end L2
namespace L2
open PySem PySem.Spec PyProof.Rows
noncomputable def ixN (n:Nat) (i:Int):Option Nat:=if 0 ≤ i then (if i < n then some i.toNat else none) else if -(n:Int) ≤ i then some (i + n).toNat else none
noncomputable def atI {α:Type} (xs:List α) (i:Int):Option α:=(ixN xs.length i).bind fun j=>xs[j]?
theorem KD {n:Nat} {i:Int} {j:Nat} (h:ixN n i=some j):seqIndex? i n=some j∧j < n∧-(n:Int) ≤ i∧i < n:=by
 unfold ixN at h;by_cases h0:0 ≤ i
 ·rw [if_pos h0] at h;by_cases h1:i < n
  ·rw [if_pos h1] at h;have e:i.toNat=j:=Option.some.inj h;exact ⟨by rw [seqIndex_of h0 h1,e],by omega,by omega,h1⟩
  ·rw [if_neg h1] at h;cases h
 ·rw [if_neg h0] at h;by_cases h1:-(n:Int) ≤ i
  ·rw [if_pos h1] at h;have e:(i + n).toNat=j:=Option.some.inj h;exact ⟨by rw [seqIndex_neg (by omega) h1,e],by omega,h1,by omega⟩
  ·rw [if_neg h1] at h;cases h
theorem Px {α:Type} {xs:List α} {i:Int} {v:α} (h:atI xs i=some v):∃ j,seqIndex? i xs.length=some j∧xs[j]? = some v∧j < xs.length∧-(xs.length:Int) ≤ i∧i < xs.length:=by
 unfold atI at h;cases e:ixN xs.length i with
 | none=>rw [e] at h;cases h
 | some j=>
  rw [e] at h;obtain ⟨h1,h2,h3,h4⟩:=KD e;exact ⟨j,h1,h,h2,h3,h4⟩
theorem yb {α:Type} {xs:List α} {j:Nat} {v:α} (h:xs[j]? = some v):atI xs (j:Int)=some v:=by
 have hj:j < xs.length:=(List.getElem?_eq_some_iff.mp h).1;have e:ixN xs.length (j:Int)=some j:=by
  unfold ixN;rw [if_pos (by omega),if_pos (by omega)];simp
 unfold atI;rw [e];exact h
noncomputable def OC (b:Expr):Prop:=∀ o i,subscripted b false o i=operate [o,i] (getItem o i)
noncomputable def IxR (X:Cx) (r:R2):Prop:=
 ∀ (value slice:Expr) (pins:List (Addr × Obj)) (s:Shared) (σ:St) (H:Hp) (x y:V) (v u:Value) (Q:VK),Inv X pins σ H s→zd x v→zd y u→r x y H Q →
  subscripted slice false v u=operate [v,u] (getItem v u)→wpAny (model X.prog X.w) X.A (subscriptTail value slice v u) (EP X pins σ Q) X.xe s
noncomputable def MtR (X:Cx) (id:String) (r:V→List V→Hp→VK→Prop):Prop:=
 ∀ (pins:List (Addr × Obj)) (s:Shared) (σ:St) (H:Hp) (x:V) (xs:List V) (v:Value) (us:List Value) (Q:VK),Inv X pins σ H s→zd x v→pd xs us→r x xs H Q →
  wpAny (model X.prog X.w) X.A (call (.builtin id) (v :: us)) (EP X pins σ Q) X.xe s
section
variable {X:Cx} {a b:Expr} {ta tb:TE} {pos:Pos}
theorem IxR.or {r r':R2} (h:IxR X r) (h':IxR X r'):IxR X (fun x y H Q=>r x y H Q∨r' x y H Q):=by
 intro value slice pins s σ H x y v u Q I rx ry q hs;rcases q with q | q
 ·exact h value slice pins s σ H x y v u Q I rx ry q hs
 ·exact h' value slice pins s σ H x y v u Q I rx ry q hs
theorem MtR.or {id:String} {r r':V→List V→Hp→VK→Prop} (h:MtR X id r) (h':MtR X id r'):MtR X id (fun x xs H Q=>r x xs H Q∨r' x xs H Q):=by
 intro pins s σ H x xs v us Q I rx rs q;rcases q with q | q
 ·exact h pins s σ H x xs v us Q I rx rs q
 ·exact h' pins s σ H x xs v us Q I rx rs q
theorem nO {r:R2} (hr:IxR X r) (ha:PE X a ta) (hb:PE X b tb) (hs:OC b):PE X (.Subscript a b pos) (tOp r ta tb):=by
 intro pins s σ H Q I h;exact Subscript_ (UO ha hb I h fun v u s2 x y H2 I2 rx ry q=>hr a b pins s2 σ H2 x y v u Q I2 rx ry q (hs _ _))
noncomputable def tP (K:PySem.W.Frag):R2:=fun x y H Q=>Xh x fun p=>∃ xs,Wj y fun i=>SqL K H p xs∧∃ v,atI xs i=some v∧Q v H
noncomputable def LP (K:PySem.W.Frag):R2:=fun x y H Q=>Xh x fun p=>∃ xs,Wj y fun i=>SqT K H p xs∧∃ v,atI xs i=some v∧Q v H
noncomputable def KP:R2:=fun x y H Q=>∃ z i c,x=.str z∧y=.int i∧z.length ≤ sizeLine∧atI z.cps.toList i=some c∧Q (.str ⟨#[c]⟩) H
theorem Qd:IxR X (tP X.K):=by
 intro value slice pins s σ H x y v u Q I rx ry h hs;obtain ⟨p,rfl,xs,hzz⟩:=Xh.out h;obtain ⟨i,rfl,hq,z,he,q⟩:=Wj.out hzz;cases rx;obtain ⟨t,rfl⟩:=ry;obtain ⟨its,r,pl,hz⟩:=I.list hq;obtain ⟨j,h1,h2,h3,h4,h5⟩:=Px he;obtain ⟨w,ew,rw'⟩:=r.get h2;have hl:=r.length;have hn:=Jq;have fin:EP X pins σ Q w s:=⟨z,H,I,rw',q⟩;by_cases h0:0 ≤ i
 ·have hj:i.toNat=j:=by
   rw [seqIndex_of h0 h5] at h1;exact Option.some.inj h1
  exact item_listR pl.isList h0 (by omega) (by rw [hj];simpa using ew) fin hs
 ·have hj:(i + (its.toArray.size:Int)).toNat=j:=by
   rw [seqIndex_neg (by omega) h4] at h1;rw [List.size_toArray,← hl];exact Option.some.inj h1
  exact subscriptTail_builtinR (x:=w) pl.isList.typeIs slot_list_getitem.lookup
   (wpAny_getItem_list_neg (Q:=fun r s'=>r=w∧EP X pins σ Q r s') pl.isList (by omega) (by rw [List.size_toArray] <;> omega) (by omega) (by rw [hj];simpa using ew) ⟨rfl,fin⟩) hs
theorem Vb:IxR X (LP X.K):=by
 intro value slice pins s σ H x y v u Q I rx ry h hs;obtain ⟨p,rfl,xs,hzz⟩:=Xh.out h;obtain ⟨i,rfl,hq,z,he,q⟩:=Wj.out hzz;cases rx;obtain ⟨t,rfl⟩:=ry;obtain ⟨its,r,pl,hz⟩:=I.tuple hq;obtain ⟨j,h1,h2,h3,h4,h5⟩:=Px he;obtain ⟨w,ew,rw'⟩:=r.get h2;have hl:=r.length;have hn:=Jq;have fin:EP X pins σ Q w s:=⟨z,H,I,rw',q⟩;exact subscriptTail_builtinR (x:=w) pl.typeIs slot_tuple_getitem.lookup
  (getItem_tuple (j:=j) (Q:=fun r s'=>r=w∧EP X pins σ Q r s') pl (by omega) (by omega) (by rw [List.size_toArray,← hl];exact h1) (by simpa using ew) ⟨rfl,fin⟩) hs
theorem lF:IxR X KP:=by
 intro value slice pins s σ H x y v u Q I rx ry h hs;obtain ⟨z,i,c,rfl,rfl,hz,he,q⟩:=h;obtain ⟨t,rfl⟩:=rx;obtain ⟨t',rfl⟩:=ry;obtain ⟨j,h1,h2,h3,h4,h5⟩:=Px he;have hl:z.cps.toList.length=z.length:=by simp [Str.length]
 rw [hl] at h1 h4 h5;have hn:=Jq;exact tail_any (typeIs_str s z t) slot_str_getitem.lookup (getItem_str (c:=c) (by
  have e1:decide (i < -(2 ^ 63:Int))=false:=decide_eq_false (by omega);have e2:decide (i ≥ 2 ^ 63)=false:=decide_eq_false (by omega);rw [e1,e2,Bool.or_false]) (by rw [h1];simpa using h2) ⟨.str ⟨#[c]⟩,H,I.tok _,⟨_,rfl⟩,q⟩) hs
theorem LB (its:List Value) (n j:Nat) (u:Value):Obj.mapSeq (·.setIfInBounds j u) { cls:=.type "list",data:=.seq its.toArray n } = { cls:=.type "list",data:=.seq (its.set j u).toArray n }:=by
 simp [Obj.mapSeq]
theorem Inv.lst {pins:List (Addr × Obj)} {σ:St} {H:Hp} {s:Shared} {p:Addr} {xs:List V} (I:Inv X pins σ H s) (h:H p=some (.lst xs)) :
  ∃ (its:List Value) (n:Nat),pd xs its∧s.heap.get? p=some { cls:=.type "list",data:=.seq its.toArray n }∧xs.length ≤ sizeLine:=by
 obtain ⟨z,its,n,r,e⟩:=I.hok p _ h;exact ⟨its,n,r,e,z⟩
theorem Inv.lstUpd {pins:List (Addr × Obj)} {σ:St} {H:Hp} {s:Shared} {p:Addr} {xs ys:List V} {its its':List Value} {n n':Nat} {f:Obj→Obj} (I:Inv X pins σ H s) (h:H p=some (.lst xs))
  (ho:s.heap.get? p=some { cls:=.type "list",data:=.seq its.toArray n }) (hf:f { cls:=.type "list",data:=.seq its.toArray n } = { cls:=.type "list",data:=.seq its'.toArray n' }) (r:pd ys its') (hz:ys.length ≤ sizeLine) (t:Nat) :
  Inv X pins σ (upd H p (.lst ys)) { s with heap:=s.heap.update p f,toks:=t }:=by
 have e:(s.heap.update p f).get? p=some { cls:=.type "list",data:=.seq its'.toArray n' }:=by
  rw [Heap.get?_update_self f ho (by rw [hf] <;> rfl),hf]
 refine I.write (x:=p) (e:=p) (by rw [h];trivial) (.inl rfl) (fun b u hb q=>(Heap.get?_update_other _ _ (Ne.symm hb)).trans q) ⟨_,e⟩ ?_;exact ⟨hz,its',n',r,e⟩
noncomputable def FM:V→V→V→Hp→(Hp→Prop)→Prop:=fun o i v H Q=>Xh o fun p=>∃ xs,Wj i fun k=>H p=some (.lst xs)∧∃ j,ixN xs.length k=some j∧Q (upd H p (.lst (xs.set j v)))
theorem nI:kP X FM:=by
 intro pins s σ H o i v ov iv u Q I ro ri rv h;obtain ⟨p,rfl,xs,hzz⟩:=Xh.out h;obtain ⟨k,rfl,hp,j,hj,q⟩:=Wj.out hzz;cases ro;obtain ⟨t,rfl⟩:=ri;obtain ⟨its,n,r,ho,hz⟩:=I.lst hp;obtain ⟨h1,h2,h3,h4⟩:=KD hj;have hl:=r.length;have hn:=Jq;have I':Inv X pins σ (upd H p (.lst (xs.set j v))) { s with heap:=s.heap.update p (Obj.mapSeq (·.setIfInBounds j u)) }:=
  I.lstUpd hp ho (LB its n j u) (r.set rv j) (by rw [List.length_set];exact hz) s.toks
 by_cases h0:0 ≤ k
 ·have hk:k.toNat=j:=by
   rw [seqIndex_of h0 h4] at h1;exact Option.some.inj h1
  exact PySem.W.ki_setAt ho h0 (by omega) (by rw [List.size_toArray,← hl];exact h4) (by rw [hk];exact ⟨_,I',q⟩)
 ·have hk:(k + (its.toArray.size:Int)).toNat=j:=by
   rw [seqIndex_neg (by omega) h3] at h1;rw [List.size_toArray,← hl];exact Option.some.inj h1
  exact PySem.W.ki_setBack ho (by omega) (by rw [List.size_toArray,← hl];exact h3) (by omega) (by rw [hk];exact ⟨_,I',q⟩)
theorem Ow (lo hi:Option Int) (n:Nat):(sliceBounds lo hi none n).1=((HT.sIx n 0 lo:Nat):Int)∧(sliceBounds lo hi none n).2.1=((HT.sIx n n hi:Nat):Int)∧(sliceBounds lo hi none n).2.2=1:=by
 refine ⟨?_,?_,rfl⟩
 ·cases lo with
  | none=>simp [sliceBounds,HT.sIx]
  | some i=>
   simp only [sliceBounds,HT.sIx,Option.getD_none,show (1:Int) > 0 by decide,if_true];by_cases h:i < 0
   ·simp only [h,if_true] <;> omega
   ·simp only [h,if_false] <;> omega
 ·cases hi with
  | none=>simp [sliceBounds,HT.sIx]
  | some i=>
   simp only [sliceBounds,HT.sIx,Option.getD_none,show (1:Int) > 0 by decide,if_true];by_cases h:i < 0
   ·simp only [h,if_true] <;> omega
   ·simp only [h,if_false] <;> omega
theorem Zu (its:List Value) (lo hi:Option Int):slicePick its.toArray lo hi none=((its.drop (HT.sIx its.length 0 lo)).take (HT.sIx its.length its.length hi - HT.sIx its.length 0 lo)).toArray:=by
 obtain ⟨h1,h2,h3⟩:=Ow lo hi its.toArray.size;unfold slicePick;rw [h1,h2,h3];simp only [sliceRange_one,pick_run,List.size_toArray] <;> rfl
noncomputable def mP (K:PySem.W.Frag):V→Option Int→Option Int→Hp→VK→Prop:=fun x lo hi H Q=>∃ a xs,x=.ref a∧SqL K H a xs∧∀ p,H p=none→Q (.ref p) (upd H p (.lst (uC xs lo hi)))
theorem oK:SlR X (mP X.K):=by
 intro pins s σ H x v vl vu lo hi sl Q I rx hs pl pu h;obtain ⟨a,xs,rfl,hx,q⟩:=h;cases rx;obtain ⟨its,r,ht,hz⟩:=I.list hx;have hlen:=r.length;refine ⟨"list",_,slot_list_getitem.lookup,ht.isList.typeIs,?_⟩;refine wpAny_getItem_list_slice ht.isList hs pl pu .none (by simp) ?_ (by rw [List.size_toArray] <;> omega);rw [Zu,← hlen];refine ⟨.ref s.heap.objs.size,_,I.laid (t':=s.toks) (o:=.lst (uC xs lo hi)) (fun b ob q=>Heap.get?_push_of_some _ q) (Nat.le_refl _) ?_,rfl,q _ (I.hok.fresh (Nat.le_refl _))⟩;exact ⟨Nat.le_trans (ir xs lo hi) hz,_,0,(r.drop (HT.sIx xs.length 0 lo)).take (HT.sIx xs.length xs.length hi - HT.sIx xs.length 0 lo),Heap.get?_push_size _ rfl⟩
noncomputable def Jl:V→Bool
 | .non=>true
 | .bl _=>true
 | .int _=>true
 | .str _=>true
 | _=>false
noncomputable def eqV:V→V→Bool
 | .non,.non=>true
 | .bl a,.bl b=>a == b
 | .bl a,.int b=>(if a then 1 else 0) == b
 | .int a,.bl b=>a == (if b then 1 else 0)
 | .int a,.int b=>a == b
 | .str a,.str b=>a == b
 | _,_=>false
theorem kJ {A:Around} {s:Shared} {y x:V} {u v:Value} (ry:zd y u) (rx:zd x v) (fy:Jl y=true) (fx:Jl x=true):SeqAt.EqAt A s u v (eqV y x):=by
 cases y with
 | non=>
  cases ry;cases x with
  | non=>cases rx;exact SeqAt.EqAt.same _
  | bl b=>cases rx;exact SeqAt.EqAt.none_bool b
  | int b=>obtain ⟨t,rfl⟩:=rx;exact SeqAt.EqAt.none_int b t
  | str b=>obtain ⟨t,rfl⟩:=rx;exact SeqAt.EqAt.none_str b t
  | _=>exact absurd (show false=true from fx) Bool.false_ne_true
 | bl a=>
  cases ry;cases x with
  | non=>cases rx;exact SeqAt.EqAt.bool_none a
  | bl b=>cases rx;exact SeqAt.EqAt.bool_bool a b
  | int b=>obtain ⟨t,rfl⟩:=rx;exact SeqAt.EqAt.bool_int a b t
  | str b=>obtain ⟨t,rfl⟩:=rx;exact SeqAt.EqAt.bool_str a b t
  | _=>exact absurd (show false=true from fx) Bool.false_ne_true
 | int a=>
  obtain ⟨t',rfl⟩:=ry;cases x with
  | non=>cases rx;exact SeqAt.EqAt.int_none a t'
  | bl b=>cases rx;exact SeqAt.EqAt.int_bool a t' b
  | int b=>obtain ⟨t,rfl⟩:=rx;exact SeqAt.EqAt.int_int a t' b t
  | str b=>obtain ⟨t,rfl⟩:=rx;exact SeqAt.EqAt.int_str a t' b t
  | _=>exact absurd (show false=true from fx) Bool.false_ne_true
 | str a=>
  obtain ⟨t',rfl⟩:=ry;cases x with
  | non=>cases rx;exact SeqAt.EqAt.str_none a t'
  | bl b=>cases rx;exact SeqAt.EqAt.str_bool a t' b
  | int b=>obtain ⟨t,rfl⟩:=rx;exact SeqAt.EqAt.str_int a t' b t
  | str b=>obtain ⟨t,rfl⟩:=rx;exact SeqAt.EqAt.str_str a t' b t
  | _=>exact absurd (show false=true from fx) Bool.false_ne_true
 | _=>exact absurd (show false=true from fy) Bool.false_ne_true
noncomputable def eqU (x:V) (u:Value):Bool:=match u with
 | .none=>eqV .non x
 | .bool b=>eqV (.bl b) x
 | .int i _=>eqV (.int i) x
 | .str z _=>eqV (.str z) x
 | _=>false
theorem XI {x y:V} {u:Value} (r:zd y u) (f:Jl y=true):eqU x u=eqV y x:=by
 cases y with
 | non=>cases r;rfl
 | bl b=>cases r;rfl
 | int i=>obtain ⟨t,rfl⟩:=r;rfl
 | str z=>obtain ⟨t,rfl⟩:=r;rfl
 | _=>exact absurd (show false=true from f) Bool.false_ne_true
theorem nq {x:V}:∀ {xs:List V} {us:List Value},pd xs us→xs.all Jl=true→us.any (eqU x)=xs.any fun y=>eqV y x
 | _,_,.nil,_=>rfl
 | y :: xs,u :: us,.cons r t,f=>by
  rw [List.all_cons,Bool.and_eq_true] at f;rw [List.any_cons,List.any_cons,XI r f.1,nq t f.2]
theorem Jm {A:Around} {s:Shared} {x:V} {v:Value} (rx:zd x v) (fx:Jl x=true):∀ {xs:List V} {us:List Value},pd xs us→xs.all Jl=true→∀ u ∈ us,SeqAt.EqAt A s u v (eqU x u)
 | _,_,.nil,_=>fun u hu=>by cases hu
 | y :: xs,u :: us,.cons r t,f=>fun u' hu=>by
  rw [List.all_cons,Bool.and_eq_true] at f;rcases List.mem_cons.mp hu with rfl | hu
  ·rw [XI r f.1];exact kJ r rx f.1 fx
  ·exact Jm rx fx t f.2 u' hu
noncomputable def inV (x:V) (xs:List V):Bool:=xs.any fun y=>eqV y x
noncomputable def rIn (K:PySem.W.Frag) (neg:Bool):R2:=fun x y H Q=>∃ p xs,y=.ref p∧(SqL K H p xs∨SqT K H p xs)∧Jl x=true∧xs.all Jl=true∧Q (.bl (if neg then !inV x xs else inV x xs)) H
theorem rk:OpR X (compareOp .In) (rIn X.K false):=by
 intro pins s σ H x y v u Q I rx ry h;obtain ⟨p,xs,rfl,hq,fx,fs,q⟩:=h;cases ry;rcases hq with hq | hq
 ·obtain ⟨its,r,pl,hz⟩:=I.list hq;refine SeqAt.in_listAt (eqU x) pl.isList (fun w hw=>Jm rx fx r fs w (by simpa using hw)) ⟨.bl _,H,I,rfl,?_⟩;rw [show its.toArray.any (eqU x)=its.any (eqU x) by simp,nq r fs];exact q
 ·obtain ⟨its,r,pl,hz⟩:=I.tuple hq;refine SeqAt.in_tupleAt (eqU x) pl (fun w hw=>Jm rx fx r fs w (by simpa using hw)) ⟨.bl _,H,I,rfl,?_⟩;rw [show its.toArray.any (eqU x)=its.any (eqU x) by simp,nq r fs];exact q
theorem Ko:OpR X (compareOp .NotIn) (rIn X.K true):=by
 intro pins s σ H x y v u Q I rx ry h;obtain ⟨p,xs,rfl,hq,fx,fs,q⟩:=h;cases ry;rcases hq with hq | hq
 ·obtain ⟨its,r,pl,hz⟩:=I.list hq;refine SeqAt.notIn_listAt (eqU x) pl.isList (fun w hw=>Jm rx fx r fs w (by simpa using hw)) ⟨.bl _,H,I,rfl,?_⟩;rw [show its.toArray.any (eqU x)=its.any (eqU x) by simp,nq r fs];exact q
 ·obtain ⟨its,r,pl,hz⟩:=I.tuple hq;refine SeqAt.notIn_tupleAt (eqU x) pl (fun w hw=>Jm rx fx r fs w (by simpa using hw)) ⟨.bl _,H,I,rfl,?_⟩;rw [show its.toArray.any (eqU x)=its.any (eqU x) by simp,nq r fs];exact q
theorem Fb:Fj X (.builtin "len") (fun xs H Q=>EB xs fun x=>Xh x fun p=>∃ ys,(SqL X.K H p ys∨SqT X.K H p ys)∧Q (.int ys.length) H):=by
 intro pins s σ H xs us Q I r h;obtain ⟨zx,rfl,hzz⟩:=EB.out h;obtain ⟨p,rfl,ys,hq,q⟩:=Xh.out hzz;obtain ⟨u,rfl,rx⟩:=Zn r;cases rx;have hn:=Jq;rcases hq with hq | hq
 ·obtain ⟨its,r',pl,hz⟩:=I.list hq;have hlen:=r'.length;exact Calls.call_len_list pl.isList (by simp only [List.size_toArray] <;> omega) ⟨.int ys.length,H,I.tok _,⟨s.toks + 1,by rw [List.size_toArray,hlen]⟩,q⟩
 ·obtain ⟨its,r',pl,hz⟩:=I.tuple hq;have hlen:=r'.length;exact len_tuple pl (by simp only [List.size_toArray] <;> omega) ⟨.int ys.length,H,I.tok _,⟨s.toks + 1,by rw [List.size_toArray,hlen]⟩,q⟩
theorem aw:Fj X (.builtin "len") (fun xs H Q=>∃ z,xs=[.str z]∧z.length ≤ sizeLine∧Q (.int z.length) H):=by
 intro pins s σ H xs us Q I r h;obtain ⟨z,rfl,hz,q⟩:=h;obtain ⟨u,rfl,t,rfl⟩:=Zn r;have hn:=Jq;exact len_str (by omega) ⟨.int z.length,H,I.tok _,⟨_,rfl⟩,q⟩
theorem Fj.or {f:Value} {r r':List V→Hp→VK→Prop} (h:Fj X f r) (h':Fj X f r'):Fj X f (fun xs H Q=>r xs H Q∨r' xs H Q):=by
 intro pins s σ H xs us Q I rs q;rcases q with q | q
 ·exact h pins s σ H xs us Q I rs q
 ·exact h' pins s σ H xs us Q I rs q
theorem Qo:Fj X (.type "list") (fun xs H Q=>∃ p ys,xs=[.ref p]∧(SqL X.K H p ys∨SqT X.K H p ys)∧∀ l,H l=none→Q (.ref l) (upd H l (.lst ys))):=by
 intro pins s σ H xs us Q I r h;obtain ⟨p,ys,rfl,hq,q⟩:=h;obtain ⟨u,rfl,rx⟩:=Zn r;cases rx;have fin:∀ (its:List Value),pd ys its→ys.length ≤ sizeLine→∀ (h':Heap) (c':Nat),(∀ b o',s.heap.get? b=some o'→h'.get? b=some o') →
   h'.get? s.heap.objs.size=some { cls:=.type "list",dict:=none,data:=.seq its.toArray c',slots:=#[] }→EP X pins σ Q (.ref s.heap.objs.size) { s with heap:=h' }:=fun its r' hz h' c' kp e=>
  ⟨.ref s.heap.objs.size,_,I.laid (t':=s.toks) kp (Nat.le_refl _) (show Bd X.prog X.w _ h' _ (.lst ys) from ⟨hz,its,c',r',e⟩),rfl,q _ (I.hok.fresh (Nat.le_refl _))⟩
 rcases hq with hq | hq
 ·obtain ⟨its,r',pl,hz⟩:=I.list hq;have hlen:=r'.length;obtain ⟨o,ho,hc,n,hd⟩:=pl.isList;exact call_list_seq p (.inl rfl) ho hc hd (fun h' c' kp e=>fin its r' hz h' c' kp e) (by simp only [List.size_toArray] <;> omega)
 ·obtain ⟨its,r',pl,hz⟩:=I.tuple hq;have hlen:=r'.length;obtain ⟨o,ho,hc,n,hd⟩:=pl;exact call_list_seq p (.inr rfl) ho hc hd (fun h' c' kp e=>fin its r' hz h' c' kp e) (by simp only [List.size_toArray] <;> omega)
noncomputable def tyV (K:PySem.W.Frag) (T:String) (x:V) (H:Hp):Prop:=match x with
 | .str _=>T = "str"
 | .int _=>T = "int"
 | .ref p=>(T = "list" ∧ ∃ xs,SqL K H p xs)∨(T = "tuple" ∧ ∃ o,K.lookup p=some o∧o.cls=.type "tuple" ∧ o.dict=none) ∨
   (T = "dict" ∧ ((∃ kvs,H p=some (.dK kvs))∨∃ kvs,H p=some (.dT kvs)))∨(T = "set" ∧ ∃ S n,H p=some (.set S n))
 | _=>False
theorem uI {pins:List (Addr × Obj)} {σ:St} {H:Hp} {s:Shared} {T:String} {x:V} {v:Value} (I:Inv X pins σ H s) (r:zd x v) (ty:tyV X.K T x H) :
  s.TypeIs v T∧∀ a,v=.ref a→∃ ob,s.heap.get? a=some ob∧ob.dict=none:=by
 cases x with
 | str z=>
  obtain ⟨t,rfl⟩:=r;cases (show T = "str" from ty);exact ⟨typeIs_str s z t,fun _ e=>nomatch e⟩
 | int i=>
  obtain ⟨t,rfl⟩:=r;cases (show T = "int" from ty);exact ⟨typeIs_int s i t,fun _ e=>nomatch e⟩
 | ref p=>
  cases r;rcases ty with ⟨rfl,xs,hq⟩ | ⟨rfl,o,hk,hc,hd⟩ | ⟨rfl,hk⟩ | ⟨rfl,S,n,hk⟩
  ·obtain ⟨its,_,pl,_⟩:=I.list hq;refine ⟨pl.isList.typeIs,fun a e=>?_⟩;cases e;obtain ⟨o,n,e,c,hd,_⟩:=pl;exact ⟨o,e,hd⟩
  ·refine ⟨⟨o,I.kIn p o hk,hc⟩,fun a e=>?_⟩;cases e;exact ⟨o,I.kIn _ o hk,hd⟩
  ·have z:∃ o,s.heap.get? p=some o∧o.ExactDict:=by
    rcases hk with ⟨kvs,hk⟩ | ⟨kvs,hk⟩
    ·obtain ⟨_,_,_,_,o,_,_,e,ex,_⟩:=I.hok p _ hk;exact ⟨o,e,ex⟩
    ·obtain ⟨_,_,_,_,o,_,_,e,ex,_⟩:=I.hok p _ hk;exact ⟨o,e,ex⟩
   obtain ⟨o,e,ex⟩:=z;refine ⟨⟨o,e,ex.1⟩,fun a e2=>?_⟩;cases e2;exact ⟨o,e,ex.2.1⟩
  ·obtain ⟨o,_,_,_,e,ex,_⟩:=I.hok p _ hk;refine ⟨⟨o,e,ex.1⟩,fun a e2=>?_⟩;cases e2;exact ⟨o,e,ex.2.1⟩
 | _=>exact False.elim ty
noncomputable def DP (K:PySem.W.Frag) (T:String) (r:V→List V→Hp→VK→Prop) (to:TE):TE:=fun σ H Q=>to σ H fun x H1=>tyV K T x H1∧r x [] H1 Q
noncomputable def tBM (K:PySem.W.Frag) (T:String) (r:V→List V→Hp→VK→Prop) (to:TE) (t:TA):TE:=fun σ H Q=>to σ H fun x H1=>tyV K T x H1∧t σ H1 fun xs H2=>r x xs H2 Q
variable {o e:Expr} {es:List Expr} {to:TE} {t:TA} {name:Str} {apos cpos:Pos} {T id:String} {r:V→List V→Hp→VK→Prop}
theorem dJ (pa:PlainAttrs T) (slot:Slot T name id) (hty:typeOf (.builtin id)=pure (.type "method_descriptor")) (hm:MtR X id r) (ho:PE X o to)
  (hbase:attributeBase o name X.env (eval o X.env)=eval o X.env:=by rfl) (hline:(apos.endLine == cpos.line)=true:=by rfl):PE X (.Call (.Attribute o name apos) [] [] cpos) (DP X.K T r to):=by
 intro pins s σ H Q I h;refine wpAny_Call_method0_late hbase hline (thn (ho pins s σ H _ I h) fun v s1 hZ1=>?_);obtain ⟨x,H1,I1,r1,ty,q1⟩:=hZ1;obtain ⟨h1,h2⟩:=uI I1 r1 ty;exact ⟨T,id,pa,slot,hty,h1,h2,Calls.callWith_builtin rfl (PySem.evalArgs_none (hm pins s1 σ H1 x [] v [] Q I1 r1 .nil q1))⟩
theorem uo (pa:PlainAttrs T) (slot:Slot T name id) (hty:typeOf (.builtin id)=pure (.type "method_descriptor")) (hm:MtR X id r) (ho:PE X o to) (ha:PA X (e :: es) t)
  (hbase:attributeBase o name X.env (eval o X.env)=eval o X.env:=by rfl)
  (hfew:((backTo cpos (starEach (e :: es) X.env)).all (fun x=>!x.1) && (backToKw cpos (keywordEach [] X.env)).all (fun x=>x.1.isSome)
   && decide ((e :: es).length + ([]:List Keyword).length + (if ([]:List Keyword).isEmpty then 0 else 1) < 30))=true:=by rfl)
  (hline:(apos.endLine == cpos.line)=true:=by rfl) (hs:starEach (e :: es) X.env=(false,eval e X.env) :: starEach es X.env:=by rfl) (hplain:(backTo cpos (starEach es X.env)).any (·.1)=false:=by rfl) :
  PE X (.Call (.Attribute o name apos) (e :: es) [] cpos) (tBM X.K T r to t):=by
 intro pins s σ H Q I h;refine wpAny_Call_method_late hbase hfew hline rfl (thn (ho pins s σ H _ I h) fun v s1 hZ1=>?_);obtain ⟨x,H1,I1,r1,ty,q1⟩:=hZ1;obtain ⟨h1,h2⟩:=uI I1 r1 ty;refine ⟨T,id,pa,slot,hty,h1,h2,?_⟩;have hA:=ha cpos pins s1 σ H1 _ I1 q1;rw [hs] at hA ⊢;refine Calls.callWith_builtin (by show (false || (backTo cpos (starEach es X.env)).any (·.1))=false;rw [hplain] <;> rfl) (Calls.evalArgs_plain ?_);exact thn hA fun us s2 ⟨vs,H2,I2,r2,q2⟩=>hm pins s2 σ H2 x vs v us Q I2 r1 r2 q2
end
end L2
namespace L2
open PySem PySem.Spec PyProof.Rows
noncomputable def MtM (X:Cx) (id:String) (r:V→List V→Hp→VK→Prop):Prop:=
 ∀ (pins:List (Addr × Obj)) (s:Shared) (σ:St) (H:Hp) (x:V) (xs:List V) (v:Value) (us:List Value) (Q:VK),Inv X pins σ H s→zd x v→pd xs us→r x xs H Q →
  wpAny (model X.prog X.w) X.A (call (.builtin id) (v :: us)) (EP X pins σ Q) X.xe s
theorem pd.one:∀ {x:V} {us:List Value},pd [x] us→∃ u,us=[u]∧zd x u
 | _,_,.cons r .nil=>⟨_,rfl,r⟩
theorem pd.two:∀ {x y:V} {us:List Value},pd [x,y] us→∃ u v,us=[u,v]∧zd x u∧zd y v
 | _,_,_,.cons r (.cons q .nil)=>⟨_,_,rfl,r,q⟩
theorem pd.zero:∀ {us:List Value},pd [] us→us=[]
 | _,.nil=>rfl
theorem pd.reverse {xs:List V} {us:List Value} (h:pd xs us):pd xs.reverse us.reverse:=by
 induction h with
 | nil=>exact .nil
 | cons r t ih=>rw [List.reverse_cons,List.reverse_cons];exact pd.append ih (.cons r .nil)
section
variable {X:Cx} {pins:List (Addr × Obj)} {σ:St} {H:Hp} {s:Shared} {l b:Addr} {xs ys zs:List V}
theorem Inv.lset {its its':List Value} {n:Nat} {f:Array Value→Array Value} {t':Nat} (I:Inv X pins σ H s) (hH:H l=some (.lst xs))
  (e:s.heap.get? l=some { cls:=.type "list",data:=.seq its.toArray n }) (hf:f its.toArray=its'.toArray) (hv:pd ys its') (hz:ys.length ≤ sizeLine) :
  Inv X pins σ (upd H l (.lst ys)) { s with heap:=s.heap.update l (Obj.mapSeq f),toks:=t' }:=by
 have q:=PySem.IsL.update e f;rw [hf] at q;refine I.write (x:=l) (e:=l) (by rw [hH];exact trivial) (.inl rfl) (fun b' u hb hu=>(Heap.get?_update_other s.heap (Obj.mapSeq f) (Ne.symm hb)).trans hu) ⟨_,q⟩ ?_;exact ⟨hz,its',_,hv,q⟩
theorem Inv.lnew {its:List Value} {t':Nat} (I:Inv X pins σ H s) (hv:pd ys its) (hz:ys.length ≤ sizeLine) :
  Inv X pins σ (upd H s.heap.objs.size (.lst ys)) { s with heap:=s.heap.push { cls:=.type "list",data:=.seq its.toArray },toks:=t' }:=
 I.laid (fun _ _ q=>Heap.get?_push_of_some _ q) (Nat.le_refl _) ⟨hz,its,0,hv,Heap.get?_push_size _ rfl⟩
theorem Inv.fresh (I:Inv X pins σ H s):H s.heap.objs.size=none:=I.hok.fresh (Nat.le_refl _)
theorem Inv.lstM (I:Inv X pins σ H s) (hH:H l=some (.lst xs)):xs.length ≤ sizeLine∧∃ (its:List Value) (n:Nat),pd xs its∧xs.length=its.length∧s.heap.get? l=some { cls:=.type "list",data:=.seq its.toArray n }:=by
 obtain ⟨z,its,n,r,e⟩:=I.hok l _ hH;exact ⟨z,its,n,r,r.length,e⟩
theorem AH {n:Nat} (h:n ≤ sizeLine):Builtin.List.listTooLong n=false:=by
 unfold Builtin.List.listTooLong;exact decide_eq_false (by omega)
end
section
variable {X:Cx}
noncomputable def eG:V→List V→Hp→VK→Prop:=fun x vs H Q=>Xh x fun l=>EB vs fun y=>∃ xs,H l=some (.lst xs)∧xs.length < sizeLine∧Q .non (upd H l (.lst (xs ++ [y])))
theorem Ji:MtM X "list.append" eG:=by
 intro pins s σ H x vs v us Q I rx rv h;obtain ⟨l,rfl,hzz⟩:=Xh.out h;obtain ⟨y,rfl,xs,hH,hz,q⟩:=EB.out hzz;cases rx;obtain ⟨u,rfl,ru⟩:=rv.one;obtain ⟨z,its,n,r,hl,e⟩:=I.lstM hH;refine call_meets F.slot_list_append ⟨_,e,rfl⟩ F.entry_list_append (F.args_list_append_2 _ _) (PySem.list_append l its.toArray n u (by rw [List.size_toArray];omega)) ⟨e,?_⟩;refine ⟨.non,_,I.lset (its':=its ++ [u]) hH e (by simp) (r.append (.cons ru .nil)) ?_,rfl,q⟩;rw [List.length_append,List.length_singleton];omega
noncomputable def nF:V→List V→Hp→VK→Prop:=fun x vs H Q=>∃ l b xs zs,x=.ref l∧vs=[.ref b]∧H l=some (.lst xs)∧H b=some (.lst zs)∧xs.length + zs.length ≤ sizeLine∧Q .non (upd H l (.lst (xs ++ zs)))
theorem Iw:MtM X "list.extend" nF:=by
 intro pins s σ H x vs v us Q I rx rv h;obtain ⟨l,b,xs,zs,rfl,rfl,hH,hB,hz,q⟩:=h;cases rx;obtain ⟨u,rfl,ru⟩:=rv.one;cases ru;obtain ⟨z,its,n,r,hl,e⟩:=I.lstM hH;obtain ⟨z2,its2,n2,r2,hl2,e2⟩:=I.lstM hB;have hsz:its.toArray.size + its2.toArray.size ≤ sizeLine:=by rw [List.size_toArray,List.size_toArray];omega
 have hlong:¬ (!its.toArray.isEmpty && Builtin.List.listTooLong (its.toArray.size + its2.toArray.size))=true:=by
  rw [AH hsz,Bool.and_false];exact Bool.false_ne_true
 refine call_meets F.slot_list_extend ⟨_,e,rfl⟩ F.entry_list_extend (F.args_list_extend_2 _ _)
  (AutoSeq1.list_extend_list_list_0 l its.toArray n b its2.toArray n2 hlong (by rw [List.size_toArray];omega) (by omega)) ⟨e,e2,?_⟩
 refine ⟨.non,_,I.lset (its':=its ++ its2) hH e (by simp) (r.append r2) ?_,rfl,q⟩;rw [List.length_append];omega
noncomputable def Yz:V→List V→Hp→VK→Prop:=fun x vs H Q=>∃ l xs,x=.ref l∧vs=[]∧H l=some (.lst xs)∧Q .non (upd H l (.lst xs.reverse))
theorem rB:MtM X "list.reverse" Yz:=by
 intro pins s σ H x vs v us Q I rx rv h;obtain ⟨l,xs,rfl,rfl,hH,q⟩:=h;cases rx;have hus:=rv.zero;subst hus;obtain ⟨z,its,n,r,hl,e⟩:=I.lstM hH;refine call_meets F.slot_list_reverse ⟨_,e,rfl⟩ F.entry_list_reverse (F.args_list_reverse_1 _) (AutoSeq1.list_reverse_list_0 l its.toArray n (by rw [List.size_toArray];omega)) ⟨e,?_⟩;refine ⟨.non,_,I.lset (its':=its.reverse) hH e (by simp) r.reverse ?_,rfl,q⟩;rw [List.length_reverse];omega
noncomputable def vJ:V→List V→Hp→VK→Prop:=fun x vs H Q=>∃ l xs,x=.ref l∧vs=[]∧H l=some (.lst xs)∧Q .non (upd H l (.lst []))
theorem EG:MtM X "list.clear" vJ:=by
 intro pins s σ H x vs v us Q I rx rv h;obtain ⟨l,xs,rfl,rfl,hH,q⟩:=h;cases rx;have hus:=rv.zero;subst hus;obtain ⟨z,its,n,r,hl,e⟩:=I.lstM hH;refine call_meets F.slot_list_clear ⟨_,e,rfl⟩ F.entry_list_clear (F.args_list_clear_1 _) (AutoSeq1.list_clear_list_0 l its.toArray n (by rw [List.size_toArray];omega)) ⟨e,?_⟩;exact ⟨.non,_,I.lset (its':=[]) (ys:=[]) hH e rfl .nil (Nat.zero_le _),rfl,q⟩
noncomputable def vP:R2:=fun x y H Q=>∃ l b xs zs,x=.ref l∧y=.ref b∧H l=some (.lst xs)∧H b=some (.lst zs)∧xs.length + zs.length ≤ sizeLine∧∀ p,H p=none→Q (.ref p) (upd H p (.lst (xs ++ zs)))
theorem rF:OpR X (binaryOp .Add) vP:=by
 intro pins s σ H x y v u Q I rx ry h;obtain ⟨l,b,xs,zs,rfl,rfl,hH,hB,hz,q⟩:=h;cases rx;cases ry;obtain ⟨z,its,n,r,hl,e⟩:=I.lstM hH;obtain ⟨z2,its2,n2,r2,hl2,e2⟩:=I.lstM hB;refine PySem.P.add_list e e2 ?_ (by rw [List.size_toArray,List.size_toArray];omega);have ea:its.toArray ++ its2.toArray=(its ++ its2).toArray:=by simp
 rw [ea];exact ⟨.ref _,_,I.lnew (t':=s.toks) (r.append r2) (by rw [List.length_append];omega),rfl,q _ I.fresh⟩
end
section
variable {prog:Program} {w:World} {A:Around} {E:Value→Shared→Prop} {s:Shared}
end
section
variable {X:Cx}
end
end L2
namespace L2
open PySem PySem.Spec PyProof.Rows
section
variable {κ:Type} [DecidableEq κ]
noncomputable def mm (kvs:List (κ × V)) (k:κ):Option V:=(kvs.find? fun kv=>decide (kv.1=k)).map (·.2)
noncomputable def Wq (kvs:List (κ × V)) (k:κ) (v:V):List (κ × V):=
 if (kvs.any fun kv=>decide (kv.1=k))=true then kvs.map (fun kv=>if kv.1=k then (kv.1,v) else kv) else kvs ++ [(k,v)]
noncomputable def fM (kvs:List (κ × V)) (k:κ):List (κ × V):=kvs.filter fun kv=>decide (kv.1 ≠ k)
theorem Hn {p:κ × V} {r:List (κ × V)} {k:κ} (e:p.1=k):mm (p :: r) k=some p.2:=by simp [mm,List.find?_cons,e]
theorem sn {p:κ × V} {r:List (κ × V)} {k:κ} (e:¬ p.1=k):mm (p :: r) k=mm r k:=by simp [mm,List.find?_cons,e]
theorem Pu (k:κ):∀ kvs:List (κ × V),(kvs.any fun kv=>decide (kv.1=k))=(mm kvs k).isSome
 | []=>rfl
 | p :: r=>by
  rw [List.any_cons];by_cases e:p.1=k
  ·simp only [Hn e,decide_eq_true e,Bool.true_or,Option.isSome_some]
  ·rw [sn e,decide_eq_false e,Bool.false_or];exact Pu k r
theorem Sq (kvs:List (κ × V)) (k:κ) (v:V):(Wq kvs k v).length ≤ kvs.length + 1:=by
 unfold Wq;split
 ·rw [List.length_map];omega
 ·rw [List.length_append,List.length_cons,List.length_nil];omega
theorem gu.isSome_eq {o:Option V} {u:Option Value} (r:gu o u):o.isSome=u.isSome:=by
 cases o with
 | none=>cases u with
  | none=>rfl
  | some _=>exact (show False from r).elim
 | some _=>cases u with
  | none=>exact (show False from r).elim
  | some _=>rfl
theorem gu.getD {o:Option V} {u:Option Value} {d:V} {d':Value} (r:gu o u) (rd:zd d d'):zd (o.getD d) (u.getD d'):=by
 cases o with
 | none=>cases u with
  | none=>exact rd
  | some _=>exact (show False from r).elim
 | some _=>cases u with
  | none=>exact (show False from r).elim
  | some _=>exact r
theorem KV.val {kvs:List (κ × V)} {vs:List (κ × Value)} (r:KV kvs vs) (k:κ):gu (mm kvs k) (valueAt vs k):=by
 unfold KV at r
 induction r with
 | nil=>exact True.intro
 | @cons p q ps qs h t ih=>
  obtain ⟨h1,h2⟩:=h;by_cases e:p.1=k
  ·have e':q.1=k:=h1.symm.trans e;have b:valueAt (q :: qs) k=some q.2:=by simp [valueAt,List.find?_cons,e']
   rw [Hn e,b];exact h2
  ·have e':¬ q.1=k:=fun z=>e (h1.trans z)
   have b:valueAt (q :: qs) k=valueAt qs k:=by simp [valueAt,List.find?_cons,e']
   rw [sn e,b];exact ih
theorem KV.any {kvs:List (κ × V)} {vs:List (κ × Value)} (r:KV kvs vs) (k:κ):(kvs.any fun kv=>decide (kv.1=k))=vs.any fun kv=>decide (kv.1=k):=by
 unfold KV at r
 induction r with
 | nil=>rfl
 | cons h t ih=>rw [List.any_cons,List.any_cons,ih,h.1]
theorem KV.repl {kvs:List (κ × V)} {vs:List (κ × Value)} (r:KV kvs vs) (k:κ) {y:V} {u:Value} (ry:zd y u) :
  KV (kvs.map fun kv=>if kv.1=k then (kv.1,y) else kv) (vs.map fun kv=>if kv.1=k then (kv.1,u) else kv):=by
 unfold KV at r ⊢
 induction r with
 | nil=>exact .nil
 | @cons p q ps qs h t ih=>
  rw [List.map_cons,List.map_cons];refine .cons ?_ ih;obtain ⟨h1,h2⟩:=h;by_cases e:p.1=k
  ·rw [if_pos e,if_pos (h1.symm.trans e)];exact ⟨h1,ry⟩
  ·rw [if_neg e,if_neg (fun z=>e (h1.trans z))];exact ⟨h1,h2⟩
theorem KV.put {kvs:List (κ × V)} {vs:List (κ × Value)} (r:KV kvs vs) (k:κ) {y:V} {u:Value} (ry:zd y u):KV (Wq kvs k y) (stored vs k u):=by
 unfold Wq stored;rw [r.any k];by_cases e:(vs.any fun kv=>decide (kv.1=k))=true
 ·rw [if_pos e,if_pos e];exact r.repl k ry
 ·rw [if_neg e,if_neg e];exact Paired.snoc r ⟨rfl,ry⟩
theorem KV.drop {kvs:List (κ × V)} {vs:List (κ × Value)} (r:KV kvs vs) (k:κ):KV (fM kvs k) (without vs k):=by
 unfold KV at r ⊢;unfold fM without
 induction r with
 | nil=>exact .nil
 | @cons p q ps qs h t ih=>
  obtain ⟨h1,h2⟩:=h;rw [List.filter_cons,List.filter_cons];by_cases e:p.1=k
  ·have a:¬ decide (p.1 ≠ k)=true:=by simp [e]
   have b:¬ decide (q.1 ≠ k)=true:=by simp [h1.symm.trans e]
   rw [if_neg a,if_neg b];exact ih
  ·have e':¬ q.1=k:=fun z=>e (h1.trans z)
   have a:decide (p.1 ≠ k)=true:=by simp [e]
   have b:decide (q.1 ≠ k)=true:=by simp [e']
   rw [if_pos a,if_pos b];exact .cons ⟨h1,h2⟩ ih
theorem KV.keys {kvs:List (κ × V)} {vs:List (κ × Value)} (r:KV kvs vs):kvs.map (·.1)=vs.map (·.1):=by
 unfold KV at r
 induction r with
 | nil=>rfl
 | cons h t ih=>rw [List.map_cons,List.map_cons,ih,h.1]
theorem KV.length {kvs:List (κ × V)} {vs:List (κ × Value)} (r:KV kvs vs):kvs.length=vs.length:=Paired.length r
end
theorem DG {P:Program} {w:World} {k:Key} {u:Value} (r:zd (kV k) u):(we P w).is k u=true:=by
 cases k with
 | inl i=>obtain ⟨t,e⟩:=(show ∃ t,u=Value.int i t from r);subst e;exact Gx P w i t
 | inr x=>obtain ⟨t,e⟩:=(show ∃ t,u=Value.str x t from r);subst e;exact Ox P w x t
theorem Kw {P:Program} {w:World}:∀ {ks:List Key} {us:List Value},pd (ks.map kV) us→ItemsAre (we P w) ks us
 | [],_,r=>by rw [List.map_nil] at r;cases r;exact .nil
 | k :: ks,_,r=>by
  rw [List.map_cons] at r;cases r with
  | cons h t=>exact .cons (DG h) (Kw t)
noncomputable abbrev KT (H:Hp):List (List Key × V)→List (List Key × Addr × Value)→Prop:=Paired fun p q=>p.1=q.1∧H q.2.1=some (.tup (p.1.map kV))∧zd p.2 q.2.2
theorem KT.val {H:Hp} {kvs:List (List Key × V)} {xs:List (List Key × Addr × Value)} (r:KT H kvs xs) (k:List Key):gu (mm kvs k) ((atKey xs k).map (·.2)):=by
 induction r with
 | nil=>exact True.intro
 | @cons p q ps qs h t ih=>
  obtain ⟨h1,_,h2⟩:=h;by_cases e:p.1=k
  ·have e':q.1=k:=h1.symm.trans e;have b:atKey (q :: qs) k=some q.2:=by simp [atKey,List.find?_cons,e']
   rw [Hn e,b];exact h2
  ·have e':¬ q.1=k:=fun z=>e (h1.trans z)
   have b:atKey (q :: qs) k=atKey qs k:=by simp [atKey,List.find?_cons,e']
   rw [sn e,b];exact ih
theorem KT.repl {H:Hp} {kvs:List (List Key × V)} {xs:List (List Key × Addr × Value)} (r:KT H kvs xs) (k:List Key) {y:V} {u:Value} (ry:zd y u) :
  KT H (kvs.map fun kv=>if kv.1=k then (kv.1,y) else kv) (xs.map (putAt k u)):=by
 induction r with
 | nil=>exact .nil
 | @cons p q ps qs h t ih=>
  rw [List.map_cons,List.map_cons];refine .cons ?_ ih;obtain ⟨h1,h2,h3⟩:=h;unfold putAt;by_cases e:p.1=k
  ·rw [if_pos e,if_pos (h1.symm.trans e)];exact ⟨h1,h2,ry⟩
  ·rw [if_neg e,if_neg (fun z=>e (h1.trans z))];exact ⟨h1,h2,h3⟩
theorem KT.put {H:Hp} {kvs:List (List Key × V)} {xs:List (List Key × Addr × Value)} (r:KT H kvs xs) (k:List Key) {b:Addr} {y:V} {u:Value} (hb:H b=some (.tup (k.map kV))) (ry:zd y u) :
  KT H (Wq kvs k y) (storedH xs k b u):=by
 have e:(kvs.any fun kv=>decide (kv.1=k))=(atKey xs k).isSome:=by
  rw [Pu,(r.val k).isSome_eq,Option.isSome_map]
 unfold Wq storedH;rw [e];by_cases q:(atKey xs k).isSome=true
 ·rw [if_pos q,if_pos q];exact r.repl k ry
 ·rw [if_neg q,if_neg q];exact Paired.snoc r ⟨rfl,hb,ry⟩
theorem KT.keeps {H H':Hp} {kvs:List (List Key × V)} {xs:List (List Key × Addr × Value)} (r:KT H kvs xs) (ht:∀ b ys,H b=some (.tup ys)→H' b=some (.tup ys)):KT H' kvs xs:=
 Paired.mapP r fun _ _ z=>⟨z.1,ht _ _ z.2.1,z.2.2⟩
section
variable {P:Program} {w:World} {H:Hp} {h:Heap} {a:Addr}
theorem cM {u:HO} (ok:HOk P w H h) (e:Rd H a u):Bd P w H h a u:=e.ok ok
theorem oI {kvs:List (Key × V)} (ok:HOk P w H h) (e:Rd H a (.dK kvs)):kvs.length ≤ sizeLine∧(a == sysModules)=false∧∃ vs,KV kvs vs∧h.DictOf (we P w) a vs:=
 show Bd P w H h a (.dK kvs) from cM ok e
theorem CO {kvs:List (Key × V)} (ok:HOk P w H h) (e:H a=some (.dK kvs)):kvs.length ≤ sizeLine∧(a == sysModules)=false∧∃ vs,KV kvs vs∧h.DictOf (we P w) a vs:=oI ok (.inl e)
theorem Xq {ks:List Key} (ok:HOk P w H h) (e:H a=some (.tup (ks.map kV))):(tupleKind (we P w)).is h ks a:=by
 obtain ⟨_,its,r,o,h1,h2,n,h3⟩:=(show Bd P w H h a (.tup (ks.map kV)) from ok a _ e);exact ⟨o,its.toArray,n,h1,h2,h3,by simpa using Kw r⟩
theorem xH {kvs:List (List Key × V)} (ok:HOk P w H h) (e:Rd H a (.dT kvs)):kvs.length ≤ sizeLine∧(a == sysModules)=false ∧
  ∃ xs,KT H kvs xs∧h.DictOfH (tupleKind (we P w)) a xs:=by
 obtain ⟨z,y,xs,r,o,es,ep,h1,h2,h3,h4,h5⟩:=(show Bd P w H h a (.dT kvs) from cM ok e);refine ⟨z,y,xs,r,o,es,ep,h1,h2,h3,h4,fun x hx=>?_,h5⟩;have all:∀ {l:List (List Key × V)} {m:List (List Key × Addr × Value)},KT H l m→∀ x ∈ m,(tupleKind (we P w)).is h x.1 x.2.1:=by
  intro l m q
  induction q with
  | nil=>intro x hx;exact nomatch hx
  | @cons p q ps qs hq t ih=>
   intro x hx;rcases List.mem_cons.mp hx with e | hx
   ·subst e;exact Xq ok (by rw [← hq.1];exact hq.2.1)
   ·exact ih x hx
 exact all r x hx
theorem aL {kvs:List (List Key × V)} (ok:HOk P w H h) (e:H a=some (.dT kvs)):kvs.length ≤ sizeLine∧(a == sysModules)=false ∧
  ∃ xs,KT H kvs xs∧h.DictOfH (tupleKind (we P w)) a xs:=xH ok (.inl e)
end
noncomputable def UB (H:Hp) (a:Addr) (y:V) (r:Option V):Prop:=
 (∃ kvs k,Rd H a (.dK kvs)∧y=kV k∧r=mm kvs k)∨∃ kvs k b,Rd H a (.dT kvs)∧y=.ref b∧H b=some (.tup (k.map kV))∧r=mm kvs k
noncomputable def aH (H:Hp) (a:Addr) (y v:V) (H':Hp):Prop:=
 (∃ kvs k,H a=some (.dK kvs)∧y=kV k∧kvs.length < sizeLine∧H'=upd H a (.dK (Wq kvs k v))) ∨
 ∃ kvs k b,H a=some (.dT kvs)∧y=.ref b∧H b=some (.tup (k.map kV))∧kvs.length < sizeLine∧H'=upd H a (.dT (Wq kvs k v))
theorem UB.k {H:Hp} {a:Addr} {kvs:List (Key × V)} {k:Key} (e:H a=some (.dK kvs)):UB H a (kV k) (mm kvs k):=.inl ⟨kvs,k,.inl e,rfl,rfl⟩
theorem UB.t {H:Hp} {a b:Addr} {kvs:List (List Key × V)} {k:List Key} (e:H a=some (.dT kvs)) (eb:H b=some (.tup (k.map kV))):UB H a (.ref b) (mm kvs k):=.inr ⟨kvs,k,b,.inl e,rfl,eb,rfl⟩
theorem aH.k {H:Hp} {a:Addr} {kvs:List (Key × V)} {k:Key} {v:V} (e:H a=some (.dK kvs)) (hl:kvs.length < sizeLine):aH H a (kV k) v (upd H a (.dK (Wq kvs k v))):=.inl ⟨kvs,k,e,rfl,hl,rfl⟩
theorem aH.t {H:Hp} {a b:Addr} {kvs:List (List Key × V)} {k:List Key} {v:V} (e:H a=some (.dT kvs)) (eb:H b=some (.tup (k.map kV))) (hl:kvs.length < sizeLine) :
  aH H a (.ref b) v (upd H a (.dT (Wq kvs k v))):=.inr ⟨kvs,k,b,e,rfl,eb,hl,rfl⟩
section
variable {X:Cx} {pins:List (Addr × Obj)} {σ:St} {H:Hp} {s:Shared} {a:Addr} {y v:V} {u r:Value} {o:Option V} {A:Around} {E:Value→Shared→Prop}
theorem Inv.big (I:Inv X pins σ H s):sysModules < s.heap.objs.size:=by
 have h:mainGlobals < s.heap.objs.size:=(I.mod.glob.keeps I.bk).lt;exact Nat.lt_trans (by decide) h
theorem NF {Q:Value→Shared→Prop} (hu:A.units + 1 < cLine) (I:Inv X pins σ H s) (g:UB H a y (some v)) (ry:zd y u) (h:∀ w' s',Inv X pins σ H s'→zd v w'→Q w' s') :
  wpAny (model X.prog X.w) A (getItem (.ref a) u) Q E s:=by
 rcases g with ⟨kvs,k,e,ey,l⟩ | ⟨kvs,k,b,e,ey,eb,l⟩
 ·subst ey;obtain ⟨z,hd,vs,rel,dd⟩:=oI I.hok e;obtain ⟨w',hw,rw'⟩:=gu.some_of (v:=v) (o:=valueAt vs k) (by rw [l];exact rel.val k);exact wpAny_getItem_of (DG ry) dd.mapOf hw (h w' _ (I.tok _) rw')
 ·subst ey;cases (show u=Value.ref b from ry);obtain ⟨z,hd,xs,rel,dd⟩:=xH I.hok e;obtain ⟨w',hw,rw'⟩:=gu.some_of (v:=v) (o:=(atKey xs k).map (·.2)) (by rw [l];exact rel.val k);obtain ⟨p,hp,hp2⟩:=Option.map_eq_some_iff.mp hw;refine wpAny_getItem_heap (tupleKind_room_in1 hu) (Xq I.hok eb) dd hp ?_;rw [hp2];exact h w' _ (I.tok _) rw'
theorem tK {Q:Value→Shared→Prop} (hu:A.units + 1 < cLine) (I:Inv X pins σ H s) (g:UB H a y o) (ry:zd y u) (h:∀ s',Inv X pins σ H s'→Q (.bool (!o.isSome)) s') :
  wpAny (model X.prog X.w) A (compareOp .NotIn u (.ref a)) Q E s:=by
 rcases g with ⟨kvs,k,e,ey,l⟩ | ⟨kvs,k,b,e,ey,eb,l⟩
 ·subst ey;obtain ⟨z,hd,vs,rel,dd⟩:=oI I.hok e;refine wpAny_notIn_of (DG ry) hd dd.mapOf ?_;rw [← (rel.val k).isSome_eq,← l];exact h _ (I.tok _)
 ·subst ey;cases (show u=Value.ref b from ry);obtain ⟨z,hd,xs,rel,dd⟩:=xH I.hok e;refine wpAny_notIn_heap (tupleKind_room_in1 hu) (Xq I.hok eb) hd dd ?_;have q:=(rel.val k).isSome_eq;rw [Option.isSome_map] at q;rw [← q,← l];exact h _ (I.tok _)
theorem tD {h':Heap} {t':Nat} {ob:HO} (I:Inv X pins σ H s) (mu:Mut (H a)) (hs:Heap.SameBut a s.heap h') (he:∃ q,h'.get? a=some q) (new:Bd X.prog X.w (upd H a ob) h' a ob) :
  Inv X pins σ (upd H a ob) { s with heap:=h',toks:=t' }:=
 I.write (x:=a) (e:=a) mu (.inl rfl) (fun b q hb z=>(hs.2 b hb).trans z) he new
theorem AN {P:Program} {w:World} {H':Hp} {h':Heap} {kvs:List (Key × V)} {vs:List (Key × Value)} (z:kvs.length ≤ sizeLine) (hd:(a == sysModules)=false) (rel:KV kvs vs) (dd:h'.DictOf (we P w) a vs) :
  Bd P w H' h' a (.dK kvs):=⟨z,hd,vs,rel,dd⟩
theorem Xv {H':Hp} {Q:Unit→Shared→Prop} (hu:A.units + 1 < cLine) (I:Inv X pins σ H s) (g:aH H a y v H') (ry:zd y u) (rv:zd v r) (h:∀ s',Inv X pins σ H' s'→Q () s') :
  wpAny (model X.prog X.w) A (setItem (.ref a) u r) Q E s:=by
 rcases g with ⟨kvs,k,e,ey,l,eH⟩ | ⟨kvs,k,b,e,ey,eb,l,eH⟩
 ·subst ey eH;obtain ⟨z,hd,vs,rel,dd⟩:=CO I.hok e;have hz:vs.length ≤ sizeLine:=by rw [← rel.length];exact z
  have hl:(Wq kvs k v).length ≤ sizeLine:=by have:=Sq kvs k v;omega
  refine wpAny_setItem_pairs (hsz:=hz) (DG ry) dd fun h' dd' hs=>h _ ?_
  have he:∃ q,h'.get? a=some q:=let ⟨q,_,_,hq,_⟩:=dd';⟨q,hq⟩;exact tD I (by rw [e];exact True.intro) hs he (AN hl hd (rel.put k rv) dd')
 ·subst ey eH;cases (show u=Value.ref b from ry);obtain ⟨z,hd,xs,rel,dd⟩:=aL I.hok e;have hz:xs.length ≤ sizeLine:=by rw [← Paired.length rel];exact z
  have hl:(Wq kvs k v).length ≤ sizeLine:=by have:=Sq kvs k v;omega
  refine wpAny_setItem_heap (hsz:=hz) (tupleKind_room_in1 hu) (Xq I.hok eb) dd fun h' dd' hs=>h _ ?_
  obtain ⟨q,es,ep,hq,h2,h3,h4,_,h5⟩:=dd';refine tD I (by rw [e];exact True.intro) hs ⟨q,hq⟩ ⟨hl,hd,_,(rel.put k eb rv).keeps fun c ys ec=>?_,q,es,ep,hq,h2,h3,h4,h5⟩;rw [Ab (Aj ec e (fun z=>nomatch z))];exact ec
end
section
variable {X:Cx} {pins:List (Addr × Obj)} {σ:St} {H:Hp} {s:Shared} {a:Addr} {kvs:List (Key × V)} {k:Key} {u:Value} {A:Around} {E:Value→Shared→Prop}
end
noncomputable def uO (i:Expr):Prop:=∀ ov iv,subscripted i false ov iv=operate [ov,iv] (getItem ov iv)
theorem FD {prog:Program} {w:World} {A:Around} {E:Value→Shared→Prop} {s:Shared} {env:Env} {value slice:Expr} {pos:Pos} {T id:String} {Q:Value→Shared→Prop}
  (hl:typeLookup (.type T) "__getitem__"=pure (some (.builtin id))) (hs:uO slice)
  (h:wpAny (model prog w) A (eval value env) (fun o s₁=>wpAny (model prog w) A (eval slice env) (fun i s₂=>s₂.TypeIs o T∧wpAny (model prog w) A (getItem o i) Q E s₂) E s₁) E s) :
  wpAny (model prog w) A (eval (.Subscript value slice pos) env) Q E s:=by
 refine Subscript_ (wpAny_mono h (fun o s₁ h₁=>wpAny_mono h₁ (fun i s₂ h₂=>?_) fun _ _ x=>x) fun _ _ x=>x);obtain ⟨hT,h₂⟩:=h₂;unfold subscriptTail;refine wpAny_bind ?_;rw [getitemInPython_of_ne hT.not_modules];refine wpAny_bind (wpAny_specialOf hT hl ?_);have fin:wpAny (model prog w) A (subscripted slice false o i) (fun r s₃=>wpAny (model prog w) A (letTemporaryGo value o r >>= fun _=>pure r) Q E s₃) E s₂:=by
  rw [hs o i];exact wpAny_operating (wpAny_mono h₂ (fun r s₃ h₃=>wpAny_bind (wpAny_letTemporaryGo (wpAny_pure h₃))) fun _ _ x=>x)
 first
  | exact wpAny_pure (wpAny_bind fin)
  | exact wpAny_bind (wpAny_pure (wpAny_bind fin))
  | exact wpAny_bind fin
theorem Mx {X:Cx} {pins:List (Addr × Obj)} {σ:St} {H:Hp} {s:Shared} {a:Addr} {y:V} {o:Option V} (I:Inv X pins σ H s) (g:UB H a y o):s.TypeIs (.ref a) "dict" := by
 rcases g with ⟨kvs,k,e,_,_⟩ | ⟨kvs,k,b,e,_,_,_⟩
 ·obtain ⟨_,_,vs,_,dd⟩:=oI I.hok e;exact dd.typeIs
 ·obtain ⟨_,_,xs,_,dd⟩:=xH I.hok e;exact dd.typeIs
noncomputable def oM (td ty:TE):TE:=fun σ H Q=>td σ H fun x H1=>ty σ H1 fun y H2=>Xh x fun a=>∃ v,UB H2 a y (some v)∧Q v H2
noncomputable def BC (ty td:TE):TE:=fun σ H Q=>ty σ H fun y H1=>td σ H1 fun x H2=>Xh x fun a=>∃ o,UB H2 a y o∧Q (.bl (!o.isSome)) H2
noncomputable def cN (td ty tv:TE):TS:=fun D σ H=>tv σ H fun v H1=>td σ H1 fun x H2=>ty σ H2 fun y H3=>Xh x fun a=>∃ H4,aH H3 a y v H4∧D.nx σ H4
section
variable {X:Cx} {o i e value:Expr} {pos pos' tpos:Pos} {td ty tv:TE}
theorem bK (hu:X.A.units + 1 < cLine) (ho:PE X o td) (hi:PE X i ty) (hs:uO i):PE X (.Subscript o i pos) (oM td ty):=by
 intro pins s σ H Q I h;refine FD PySem.F.slot_dict_getitem.lookup hs (thn (ho pins s σ H _ I h) fun u s1 ⟨x,H1,I1,rx,q1⟩=>thn (hi pins s1 σ H1 _ I1 q1) fun iv s2 hZ1=>?_);obtain ⟨y,H2,I2,ry,zq⟩:=hZ1;obtain ⟨a,ex,v,g,q2⟩:=Xh.out zq;subst ex;obtain rfl:u=Value.ref a:=rx;exact ⟨Mx I2 g,NF hu I2 g ry fun w' s3 I3 rw'=>⟨v,H2,I3,rw',q2⟩⟩
theorem mF (hu:X.A.units + 1 < cLine) (hi:PE X i ty) (ho:PE X o td):PC X .NotIn i o (BC ty td):=by
 intro pins s σ H Q I h;refine thn (hi pins s σ H _ I h) fun iv s1 ⟨y,H1,I1,ry,q1⟩=>thn (ho pins s1 σ H1 _ I1 q1) fun u s2 hZ1=>?_
 obtain ⟨x,H2,I2,rx,zq⟩:=hZ1;obtain ⟨a,ex,ov,g,q2⟩:=Xh.out zq;subst ex;obtain rfl:u=Value.ref a:=rx;exact tK hu I2 g ry fun s3 I3=>⟨.bl (!ov.isSome),H2,I3,rfl,q2⟩
theorem jK (hu:X.A.units + 1 < cLine) (ho:PE X o td) (hi:PE X i ty) (hv:PE X value tv) (hs:swapsWith value (some (.Subscript o i pos')) pos.line X.env=pure false) :
  PS X (.Assign [.Subscript o i pos'] value pos) (cN td ty tv):=by
 intro pins s σ H D I h;refine wpAny_Assign_Subscript (thn (hv pins s σ H _ I h) fun r s1 ⟨v,H1,I1,rv,q1⟩=>thn (ho pins s1 σ H1 _ I1 q1) fun u s2 ⟨x,H2,I2,rx,q2⟩=>thn (hi pins s2 σ H2 _ I2 q2) fun iv s3 hZ1=>?_) hs;obtain ⟨y,H3,I3,ry,zq⟩:=hZ1;obtain ⟨a,ex,H4,g,q3⟩:=Xh.out zq;subst ex;obtain rfl:u=Value.ref a:=rx;exact Xv hu I3 g ry rv fun s4 I4=>⟨σ,H4,I4,q3⟩
end
theorem CG {P:Program} {w:World} {H:Hp} (h:Heap) (hb:sysModules < h.objs.size):Bd P w H (h.push { cls:=.type "dict",data:=.dict #[] }) h.objs.size (.dK []):=
 ⟨Nat.zero_le _,beq_eq_false_iff_ne.mpr (Ne.symm (Nat.ne_of_lt hb)),[],.nil,Heap.DictOf.new h⟩
theorem RH {P:Program} {w:World} {H:Hp} (h:Heap) (hb:sysModules < h.objs.size):Bd P w H (h.push { cls:=.type "dict",data:=.dict #[] }) h.objs.size (.dT []):=
 ⟨Nat.zero_le _,beq_eq_false_iff_ne.mpr (Ne.symm (Nat.ne_of_lt hb)),[],.nil,_,#[],0,Heap.get?_push_size _ rfl,⟨rfl,rfl,rfl⟩,rfl,rfl,List.nodup_nil⟩
noncomputable def iJ:TE:=fun _ H Q=>∀ p,H p=none→Q (.ref p) (upd H p (.dK []))
noncomputable def xI:TE:=fun _ H Q=>∀ p,H p=none→Q (.ref p) (upd H p (.dT []))
section
variable {X:Cx} {pos:Pos}
theorem cH:PE X (.Dict [] [] pos) iJ:=fun pins s σ H Q I h=>
 wpAny_Dict_empty ⟨.ref s.heap.objs.size,_,I.laid (a:=s.heap.objs.size) (o:=.dK []) (t':=s.toks) (fun _ _ q=>Heap.get?_push_of_some _ q) (Nat.le_refl _) (CG s.heap I.big),rfl,h _ (I.hok.fresh (Nat.le_refl _))⟩
theorem JH:PE X (.Dict [] [] pos) xI:=fun pins s σ H Q I h=>
 wpAny_Dict_empty ⟨.ref s.heap.objs.size,_,I.laid (a:=s.heap.objs.size) (o:=.dT []) (t':=s.toks) (fun _ _ q=>Heap.get?_push_of_some _ q) (Nat.le_refl _) (RH s.heap I.big),rfl,h _ (I.hok.fresh (Nat.le_refl _))⟩
end
noncomputable def UM (kvs more:List (Key × V)):List (Key × V):=more.foldl (fun acc kv=>Wq acc kv.1 kv.2) kvs
theorem KV.merge:∀ {more:List (Key × V)} {rs:List (Key × Value)} {kvs:List (Key × V)} {vs:List (Key × Value)},KV more rs→KV kvs vs→KV (UM kvs more) (merged vs rs):=by
 intro more rs kvs vs r;unfold KV at r
 induction r generalizing kvs vs with
 | nil=>intro q;exact q
 | @cons p q ps qs h t ih=>
  intro r0;have e:KV (Wq kvs p.1 p.2) (stored vs q.1 q.2):=by
   have:=r0.put p.1 h.2;rw [← h.1];exact this
  exact ih e
structure M1 (X:Cx) (o:Expr) (m:Str) (apos:Pos) (e:Expr) (cpos:Pos):Prop where
 base:attributeBase o m X.env (eval o X.env)=eval o X.env
 few:((backTo cpos (starEach [e] X.env)).all (fun x=>!x.1) && (backToKw cpos (keywordEach [] X.env)).all (fun x=>x.1.isSome)
  && decide (([e]:List Expr).length + ([]:List Keyword).length + (if ([]:List Keyword).isEmpty then 0 else 1) < 30))=true
 line:(apos.endLine == cpos.line)=true
 trees:backTo cpos (starEach [e] X.env)=[(false,eval e X.env)]
structure M2 (X:Cx) (o:Expr) (m:Str) (apos:Pos) (e f:Expr) (cpos:Pos):Prop where
 base:attributeBase o m X.env (eval o X.env)=eval o X.env
 few:((backTo cpos (starEach [e,f] X.env)).all (fun x=>!x.1) && (backToKw cpos (keywordEach [] X.env)).all (fun x=>x.1.isSome)
  && decide (([e,f]:List Expr).length + ([]:List Keyword).length + (if ([]:List Keyword).isEmpty then 0 else 1) < 30))=true
 line:(apos.endLine == cpos.line)=true
 trees:backTo cpos (starEach [e,f] X.env)=[(false,eval e X.env),(false,eval f X.env)]
section
variable {X:Cx} {pins:List (Addr × Obj)} {σ:St} {H:Hp} {s:Shared} {a:Addr} {y d:V} {u r:Value} {o:Option V} {A:Around} {E:Value→Shared→Prop}
end
section
variable {X:Cx} {o e f:Expr} {apos cpos:Pos} {td ty tx:TE}
end
section
variable {X:Cx} {pins:List (Addr × Obj)} {σ:St} {H:Hp} {s:Shared} {a:Addr} {kvs:List (Key × V)} {A:Around} {E:Value→Shared→Prop}
end
section
variable {X:Cx} {pins:List (Addr × Obj)} {σ:St} {H:Hp} {s:Shared} {a:Addr} {y:V} {u:Value} {A:Around} {E:Value→Shared→Prop}
end
end L2
namespace Att
open PySem PySem.W PySem.Calls PyProof.Rows
theorem yr {P:Params} {h:Heap}:∀ (ns:List Int) (vs:List Value),WellAll P h vs (ns.map WData.int)→IntsAre vs ns:=by
 intro ns
 induction ns with
 | nil=>
  intro vs w;rw [List.map_nil] at w;cases w;exact .nil
 | cons n ns ih=>
  intro vs w;rw [List.map_cons] at w;cases w with
  | cons a b=>
   cases a;exact .cons _ _ (ih _ b)
theorem uE {l:OpenLaw} {n:Nat} (hn:l.most=some n) {P:Params} {h:Heap} {args:List WData} {vals:List Value}
  (hpre:l.row.toRowW.claim.pre args=true) (hwl:WellAll P h vals args) :
  ∃ a vs ns,vals=[Value.ref a]∧args=[WData.list (ns.map WData.int)]∧h.get? a=some { cls:=.type "list",data:=.seq vs.toArray }∧IntsAre vs ns∧ns.length ≤ n:=by
 have hsh:WShape.hasAll [] args [.list .int]=true:=(pre_splitW hpre).1;have hc:l.pre.holds [] { args:=args }=true:=(pre_splitW hpre).2;obtain ⟨d,r,rfl,h1,h2⟩:=hasAllW_cons hsh;obtain rfl:=hasAllW_nil h2;obtain ⟨xs,rfl,h3⟩:=hasW_list h1;obtain ⟨ns,rfl⟩:=items_int h3;have hlen:ns.length ≤ n:=by
  unfold OpenLaw.pre at hc;have h4:(WTm.not (.lt (.lit (.int (n:Int))) (.len (.arg 0)))).holds [] { args:=[.list (ns.map .int)] }=true:=by
   have h4:=(holds_andW hc).1;rw [hn] at h4;exact h4
  have h5:=condW_of h4 (w_not (w_lt w_lit (w_len_list (w_arg rfl))));rw [List.length_map] at h5;refine Nat.le_of_not_lt fun q=>?_
  have q':(n:Int) < ((ns.length:Nat):Int):=by omega
  first
   | (rw [decide_eq_true q'] at h5;exact absurd h5 (by decide))
   | (simp at h5;omega)
 cases hwl with
 | cons w1 w2=>
  cases w2;cases w1 with
  | list ho hall=>exact ⟨_,_,ns,rfl,rfl,ho,yr ns _ hall,hlen⟩
theorem IE (l:OpenLaw) (args:List WData):l.row.toRowW.claim.post args (.bool true) args=true:=
 postW_of (r:=l.row.toRowW) (X:=(true == true))
  (show WShape.has [] (.bool true) .bool=true by first | rfl | decide | simp [WShape.has,WShape.arms,WShape.armsAll])
  (show (WTm.eq .res (.lit (.bool true))).value [] { args:=args,res:=some (.bool true),after:=args }=some (.bool (true == true)) from w_eq_bool (w_res rfl) w_lit) rfl
theorem attach_call {l:OpenLaw} {n:Nat} {q:Program} {loose:List Str} {XP:(Str→Option Value)→Heap→Prop} {YP:World→Heap→Prop} {d:DefRec}
  (hn:l.most=some n) (hdf:d.params.defaults=[])
  (call:∀ (w:World) (s₀ s₁:Shared) (mg mb:Str→Option Value) (fa:Addr) (o:Obj) (pm cd doc:Value) (a:Addr) (vs:List Value) (ns:List Int),
   Ground q loose [] XP w s₀ mg mb s₁.heap→YP w s₁.heap →
   s₁.heap.get? fa=some o→o.data=.func (docDef d.name d.params d.body d.scope pm cd doc)→s₁.heap.CodeRec cd d.name→mg d.name=some (.ref fa) →
   s₁.heap.get? a=some { cls:=.type "list",data:=.seq vs.toArray }→IntsAre vs ns→ns.length ≤ n→s₁.gens=#[] →
   codeAny (model l.prog w) callerA (.call (.ref fa) ⟨[.ref a],[]⟩) (fun r s'=>r=.ok (.ret (.bool true))∧OldK s₁.heap s'.heap∧s'.os=s₁.os∧AllBare s'.gens) s₁) :
  WalkO q loose XP YP l.row.toRowW d [] (fun f vs=>PySem.call f vs):=by
 intro w s₀ s₁ mg mb G Y fa o pm cd doc dV kV ho hd hcd hD hmg hg args vals as hpre hlay hrd hwl hlo;obtain rfl:dV=.none:=Dflts.none hD hdf;obtain rfl:kV=.none:=Dflts.noKw hD;obtain ⟨a,vs,ns,rfl,rfl,hobj,hints,hlen⟩:=uE hn hpre hwl;refine enter_call (codeAny_mono (call w s₀ s₁ mg mb fa o pm cd doc a vs ns G Y ho (fd_plain hd) hcd hmg hobj hints hlen hg) fun r s' hq=>?_);obtain ⟨rfl,h2,h3,h4⟩:=hq;exact ⟨.inl ⟨.bool true,.bool true,[],rfl,fun _=>rfl,.bool true,IE l _,fun _=>⟨List.Pairwise.nil,fun _ hm=>(nomatch hm)⟩⟩,h2,h3,h4⟩
section
variable {prog:Program} {w:World} {A:Around} {E:Value→Shared→Prop} {s:Shared} {K:Frag}
end
end Att
namespace L2
open PySem PySem.Spec PyProof.Rows
theorem ix:∀ {vs:List Value} {ns:List Int},IntsAre vs ns→pd (ns.map V.int) vs
 | _,_,.nil=>.nil
 | _,_,.cons n t h=>.cons ⟨t,rfl⟩ (ix h)
noncomputable def JN (H:Hp):Prop:=∀ b,H b=none∨∃ o xs,H b=some (.frz o (.lst xs))
theorem zH {P:Program} {w:World} {K:PySem.W.Frag} {mg mb:Str→Option Value} {CX:CXT} {k:Nat} {fa a:Addr} {fd:FuncData} {x:Str} {sp:Sp} {s₁:Shared} {vs:List Value} {ns:List Int}
  (KX:K.In s₁.heap) (hns:s₁.heap.Ns mainGlobals mg) (hb:s₁.heap.Ns builtinsNs mb) (hbb:∀ x:Str,x ≠ "__name__" → mb x=bootBuiltins x) (hlim:s₁.heap.NoLimit) (hg:s₁.gens=#[])
  (ha:s₁.heap.get? a=some { cls:=.type "list",data:=.seq vs.toArray }) (hi:IntsAre vs ns) (hl:ns.length ≤ sizeLine) (hr:Yj k callerA)
  (F:∀ base:Heap,K.In base→base.Ns mainGlobals mg→Zb P w K mg base CX k fa fd [x] sp) (hbind:∀ (s:Shared) (u:Value),BindsTo s fd ⟨[u],[]⟩ [(x,u)])
  (hsp:∀ H:Hp,JN H→SqL K H a (ns.map V.int)→sp [.ref a] H (fun v _=>v=.bl true) fun _ _ _=>False)
  (hCX:∀ H e s',CX [] H s₁ (fun _ _ _=>False) e s'→False) :
  codeAny (model P w) callerA (.call (.ref fa) ⟨[.ref a],[]⟩) (fun r s'=>r=.ok (.ret (.bool true))∧OldK s₁.heap s'.heap∧s'.os=s₁.os∧AllBare s'.gens) s₁:=by
 have rv:=ix hi;have lenV:=hi.length;have core:∀ H:Hp,JN H→SqL K H a (ns.map V.int)→HOk P w H s₁.heap→(∀ b,H b ≠ none→b=a)→(H a ≠ none→K.lookup a=none) →
   codeAny (model P w) callerA (.call (.ref fa) ⟨[.ref a],[]⟩) (fun r s'=>r=.ok (.ret (.bool true))∧OldK s₁.heap s'.heap∧s'.os=s₁.os∧AllBare s'.gens) s₁:=by
  intro H hO hS hok hA hK;have base_of:∀ {b:Addr} {o:Obj},s₁.heap.get? b=some o→H b=none→(NG s₁.heap H).get? b=some o:=fun e n=>MH e n
  have noA:∀ {b:Addr} {o:Obj} {es:Array DictEntry} {ep:Nat},s₁.heap.get? b=some o→o.data=.dict es ep→H b=none:=fun {b o es ep} e d=>by
   cases q:H b with
   | none=>rfl
   | some u=>
    have e':b=a:=hA b (by rw [q];simp);subst e';rw [ha] at e;cases e;have d':Data.seq vs.toArray _=Data.dict es ep:=d;cases d'
  have nsK:∀ {b:Addr} {m:Str→Option Value},s₁.heap.Ns b m→(NG s₁.heap H).Ns b m:=fun {b m} ⟨o,es,ep,e,d,r⟩=>⟨o,es,ep,base_of e (noA e d),d,r⟩
  have hKb:K.In (NG s₁.heap H):=fun b o e=>base_of (KX b o e) (by
   cases q:H b with
   | none=>rfl
   | some u=>
    have e':b=a:=hA b (by rw [q];simp);subst e';rw [hK (by rw [q];simp)] at e;cases e)
  have hM:Mod K mg (NG s₁.heap H):=⟨hKb,nsK hns,⟨mb,nsK hb,hbb⟩,let ⟨mc,h1,h2⟩:=hlim;⟨mc,nsK h1,h2⟩⟩;have e0:SD P w K mg (NG s₁.heap H) callerA [] s₁ H:=⟨rfl,hM,fun b o e=>BL e,Nat.le_of_eq (OE _ _),trivial,fun b hb=>absurd (show b ∈ ([]:List Addr) from hb) (by simp),hok,.of_eq hg⟩;refine codeAny_mono ((F _ hKb (nsK hns)).run callerA [] s₁ H ⟨[.ref a],[]⟩ [.ref a] [.ref a] _ _ hr e0 (hbind s₁ (.ref a)) (.cons rfl .nil) (hsp H hO hS)) fun r s' h=>?_
  cases r with
  | error e=>exact (hCX H e s' h).elim
  | ok fl=>
   cases fl with
   | next=>exact False.elim h
   | brk=>exact False.elim h
   | cont=>exact False.elim h
   | ret u=>
    obtain ⟨v,H',os,bare,un,hok',r',q⟩:=h;have q':v=.bl true:=q;subst q';obtain rfl:u=Value.bool true:=r';refine ⟨rfl,OldK.of_keep fun b o e=>?_,os,bare⟩;cases q:H b with
    | none=>exact un.keep b o e q (by intro z;exact absurd (show b ∈ ([]:List Addr) from z) (by simp)) (by simp)
    | some u=>
     rcases hO b with z | ⟨ob,xs,z⟩
     ·rw [q] at z;cases z
     ·have z2:=un.frzs b ob _ z;obtain ⟨e1,_⟩:=hok b _ z;obtain ⟨e2,_⟩:=hok' b _ z2;rw [e] at e1;cases e1;exact e2
 cases hk:K.lookup a with
 | some o=>
  have e:=KX a o hk;rw [ha] at e;cases e;refine core (fun _=>none) (fun _=>.inl rfl) (.inr ⟨_,vs.toArray,_,hk,rfl,rfl,rfl,by rw [List.size_toArray,lenV];exact hl,by simpa using rv⟩) (fun b u z=>by have z':(none:Option HO)=some u:=z;cases z') (fun b z=>absurd rfl z) fun z=>absurd rfl z
 | none=>
  refine core (fun b=>if b=a then some (.frz { cls:=.type "list",data:=.seq vs.toArray } (.lst (ns.map V.int))) else none) (fun b=>?_) (.inl (.inr ⟨{ cls:=.type "list",data:=.seq vs.toArray },if_pos rfl⟩)) (fun b u z=>?_) (fun b z=>?_) fun _=>hk
  ·by_cases hb:b=a
   ·exact .inr ⟨_,_,if_pos hb⟩
   ·exact .inl (if_neg hb)
  ·by_cases hb:b=a
   ·have z':=(if_pos hb).symm.trans z;cases z';subst hb;exact ⟨ha,by rw [List.length_map];exact hl,vs,_,rv,ha⟩
   ·have z':=(if_neg hb).symm.trans z;cases z'
  ·by_cases hb:b=a
   ·exact hb
   ·exact absurd (if_neg hb) z
end L2
namespace L2
open PySem PySem.Spec PyProof.Rows
noncomputable abbrev KOf {K:PySem.W.Frag} {h:Heap} (_:K.In h):PySem.W.Frag:=K
theorem QK {l:PySem.W.OpenLaw} {n k:Nat} {q:Program} {loose:List Str} {XP:(Str→Option Value)→Heap→Prop} {YP:World→Heap→Prop} {d:DefRec} {K:Params→PySem.W.Frag} {CX:World→CXT} {sp:World→Sp} {x:Str}
  (hn:l.most=some n) (hn2:n ≤ sizeLine) (hdf:d.params.defaults=[]) (hr:Yj k callerA)
  (hY:∀ (w:World) (h:Heap),YP w h→(K w.params).In h)
  (F:∀ (w:World) (mg:Str→Option Value) (fa:Addr) (h:Heap),(K w.params).In h→h.Ns mainGlobals mg→mg d.name=some (.ref fa) →
   ∃ fd:FuncData,(∀ (s:Shared) (u:Value),BindsTo s fd ⟨[u],[]⟩ [(x,u)]) ∧
    ∀ base:Heap,(K w.params).In base→base.Ns mainGlobals mg→Zb l.prog w (K w.params) mg base (CX w) k fa fd [x] (sp w))
  (hsp:∀ (w:World) (H:Hp) (a:Addr) (ns:List Int),ns.length ≤ n→JN H→SqL (K w.params) H a (ns.map V.int)→sp w [.ref a] H (fun v _=>v=.bl true) fun _ _ _=>False)
  (hCX:∀ (w:World) (H:Hp) (s:Shared) (e:Value) (s':Shared),CX w [] H s (fun _ _ _=>False) e s'→False) :
  PySem.W.WalkO q loose XP YP l.row.toRowW d [] (fun f vs=>PySem.call f vs):=by
 refine Att.attach_call hn hdf fun w s₀ s₁ mg mb fa o pm cd doc a vs ns G Y ho hd hcd hmg hobj hints hlen hg=>?_
 have KX:=hY w _ Y;obtain ⟨fd,hb,hF⟩:=F w mg fa _ KX G.T.g hmg;exact zH KX G.T.g G.T.b G.T.builtins G.T.nolimit hg hobj hints (Nat.le_trans hlen hn2) hr hF hb (fun H hO hS=>hsp w H a ns hlen hO hS) fun H e s'=>hCX w H s₁ e s'
theorem uH {l:PySem.W.OpenLaw} {n k:Nat} {q:Program} {loose:List Str} {XP:(Str→Option Value)→Heap→Prop} {YP:World→Heap→Prop} {d:DefRec} {K:Params→PySem.W.Frag} {CX:CXT} {sp:PySem.W.Frag→Sp} {x:Str}
  (hn:l.most=some n) (hn2:n ≤ sizeLine) (hdf:d.params.defaults=[]) (hr:Yj k callerA)
  (hY:∀ (w:World) (h:Heap),YP w h→(K w.params).In h)
  (F:∀ (w:World) (mg:Str→Option Value) (fa:Addr) (h:Heap),(K w.params).In h→h.Ns mainGlobals mg→mg d.name=some (.ref fa) →
   ∃ fd:FuncData,(∀ (s:Shared) (u:Value),BindsTo s fd ⟨[u],[]⟩ [(x,u)]) ∧
    ∀ base:Heap,(K w.params).In base→base.Ns mainGlobals mg→Zb l.prog w (K w.params) mg base CX k fa fd [x] (sp (K w.params)))
  (hsp:∀ (K:PySem.W.Frag) (H:Hp) (a:Addr) (ns:List Int),ns.length ≤ n→JN H→SqL K H a (ns.map V.int)→sp K [.ref a] H (fun v _=>v=.bl true) fun _ _ _=>False)
  (hCX:∀ (H:Hp) (s:Shared) (e:Value) (s':Shared),CX [] H s (fun _ _ _=>False) e s'→False) :
  PySem.W.WalkO q loose XP YP l.row.toRowW d [] (fun f vs=>PySem.call f vs):=
 QK (K:=K) (CX:=fun _=>CX) (sp:=fun w=>sp (K w.params)) hn hn2 hdf hr hY F (fun w H a ns h1 h2 h3=>hsp (K w.params) H a ns h1 h2 h3) fun _ H s e s'=>hCX H s e s'
end L2
namespace L2
open PySem PySem.Spec PyProof.Rows
noncomputable def md (s:Stmt) (j:Nat):Stmt:=match s with
 | .ClassDef _ _ _ body _ _ _ _ _ _ _=>body.getD j (.Pass ⟨0,0,0,0⟩)
 | _=>.Pass ⟨0,0,0,0⟩
noncomputable def wu (s:Stmt):Arguments:=match s with
 | .FunctionDef _ a _ _ _ _ _ _ _ _=>a
 | _=>{ posonlyargs:=[],args:=[],vararg:=none,kwonlyargs:=[],kw_defaults:=[],kwarg:=none,defaults:=[] }
noncomputable def aq (s:Stmt):List Stmt:=match s with
 | .FunctionDef _ _ b _ _ _ _ _ _ _=>b
 | _=>[]
noncomputable def ub (s:Stmt):Scope:=match s with
 | .FunctionDef _ _ _ _ _ _ sc _ _ _=>sc
 | _=>{ kind:=.function,names:=[],isGenerator:=false,isCoroutine:=false }
noncomputable abbrev CX0:CXT:=fun _ _ _ _ _ _=>False
noncomputable abbrev E0:XK:=fun _ _ _=>False
theorem ye {X:Cx}:Pm CX0 X E0:=fun _ _ _ _ _ _ _ h=>h.elim
structure Fun (K:PySem.W.Frag) (x qual:Str) (st:Stmt) (f:Addr) (fd:FuncData):Prop where
 ex:∃ (oc:Value) (od:Option Addr) (kV doc pm:Value) (an:Option Addr) (cdv ct:Value) (osl:Array (Option Value)),
  fd=PySem.W.fnOf x qual (wu st) (aq st) (ub st) .none kV doc pm an cdv ct∧K.lookup f=some ⟨oc,od,.func fd,osl⟩∧PySem.W.codeIn K cdv qual=true
 kp:PySem.W.keepIn K (.ref f)=true
section
variable {P:Program} {w:World} {K:PySem.W.Frag} {mg:Str→Option Value} {base:Heap}
theorem Fun.ok {x qual:Str} {st:Stmt} {f:Addr} {fd:FuncData} {N ps:List Str} {k:Nat} {sp:Sp} (F:Fun K x qual st f fd) (S:Cb N ps (ub st)) (len:∀ vs H Q E,sp vs H Q E→vs.length=ps.length)
  (hbody:∀ (cdv:Value) (A:Around) (outer:List Env) (s:Shared) (H:Hp) (vs:List V) (Q:VK) (E:XK),Yj k (A.deeper (envOfC qual (ub st) s.heap.objs.size f cdv))→sp vs H Q E →
   ∃ t,PSs (xK CX0 P w K mg base N qual (ub st) f cdv A outer s H E).nox (aq st) t∧t { nx:=fun _ H'=>Q .non H',rt:=Q } (start N vs) H):Zb P w K mg base CX0 (k + 1) f fd ps sp:=by
 obtain ⟨oc,od,kV,doc,pm,an,cdv,ct,osl,rfl,lk,hcd⟩:=F.ex;refine vO lk hcd S len fun A outer s H vs Q E hr hsp=>?_
 obtain ⟨t,h,q⟩:=hbody cdv A outer s H vs Q E hr hsp;exact ⟨t,h.nox,q⟩
theorem Fun.binds {x qual:Str} {st:Stmt} {f:Addr} {fd:FuncData} {ps:List Str} (F:Fun K x qual st f fd)
  (h:∀ (kV doc pm:Value) (an:Option Addr) (cdv ct:Value) (us:List Value),us.length=ps.length→bindArgs (PySem.W.fnOf x qual (wu st) (aq st) (ub st) .none kV doc pm an cdv ct) ⟨us,[]⟩=pure (ps.zip us)):gc K fd ps []:=by
 obtain ⟨oc,od,kV,doc,pm,an,cdv,ct,osl,rfl,lk,hcd⟩:=F.ex;exact .all (h kV doc pm an cdv ct)
theorem IM {x qual:Str} {st:Stmt} {f:Addr} {oc:Value} {od an:Option Addr} {osl:Array (Option Value)} {kV doc pm cdv ct:Value} (l:K.lookup f=some ⟨oc,od,.func (PySem.W.fnOf x qual (wu st) (aq st) (ub st) .none kV doc pm an cdv ct),osl⟩)
  (c:PySem.W.codeIn K cdv qual=true) (k:PySem.W.keepIn K (.ref f)=true):Fun K x qual st f (PySem.W.fnOf x qual (wu st) (aq st) (ub st) .none kV doc pm an cdv ct):=⟨⟨oc,od,kV,doc,pm,an,cdv,ct,osl,rfl,l,c⟩,k⟩
end
theorem om {A:Around} {k:Nat} (hr:Yj k A):A.units + 1 < cLine:=Nat.lt_of_le_of_lt (Nat.add_le_add_left (by decide:1 ≤ 64) _) hr.units
section
variable {X:Cx}
theorem pv (i:Nat) {x:Str} {pos:Pos} (hN:X.N[i]? = some x:=by rfl) (hv:Vis X.env.scope x:=by first | exact Or.inl rfl | exact Or.inr (Or.inl rfl) | exact Or.inr (Or.inr rfl)) (hd:(x == ("__debug__" : Str))=false:=by decide)
  (hcd:(x == ("__classdict__" : Str))=false:=by decide):PE X (.Name x pos) (zO i):=nM hN hv hd hcd
end
noncomputable def ac (H H':Hp):Prop:=∀ b o,H b=some o→H' b=some o
theorem ac.refl (H:Hp):ac H H:=fun _ _ h=>h
theorem ac.trans {H H1 H2:Hp} (a:ac H H1) (b:ac H1 H2):ac H H2:=fun c o h=>b c o (a c o h)
theorem ac.free {H H':Hp} (e:ac H H') {l:Addr} (h:H' l=Option.none):H l=Option.none:=by
 cases q:H l with
 | none=>rfl
 | some o=>
  rw [e l o q] at h;cases h
theorem ac.seq {K:PySem.W.Frag} {H H':Hp} {a:Addr} {xs:List V} (e:ac H H') (h:SqL K H a xs):SqL K H' a xs:=by
 rcases h with (h | ⟨o,h⟩) | h
 ·exact .inl (.inl (e _ _ h))
 ·exact .inl (.inr ⟨o,e _ _ h⟩)
 ·exact .inr h
section
variable {κ:Type} [DecidableEq κ]
theorem EH {kvs:List (κ × V)} {k:κ} (h:mm kvs k=none):¬ k ∈ kvs.map (·.1):=by
 intro m;obtain ⟨p,hp,e⟩:=List.mem_map.mp m;have q:(kvs.any fun kv=>decide (kv.1=k))=true:=List.any_eq_true.mpr ⟨p,hp,decide_eq_true e⟩;rw [Pu,h] at q;exact absurd q (by simp)
end
end L2
set_option maxHeartbeats 4000000
namespace L2
open PySem PySem.Spec PyProof.Rows
noncomputable def Iv (cells:List (Str × Addr)):List (Str × NameKind)→List (Str × Addr)→List (Str × Addr)
 | [],acc=>acc
 | (n,k) :: r,acc=>if k == .free then (match cells.lookup n with | some c=>Iv cells r ((n,c) :: acc) | none=>Iv cells r acc) else Iv cells r acc
theorem Lx {env:Env}:∀ (names:List (Str × NameKind)) (acc:List (Str × Addr)),(∀ y ∈ names,y.2=.free→∃ c,env.cells.lookup y.1=some c) →
  (forIn names acc (fun (x:Str × NameKind) (cs:List (Str × Addr))=>(if (x.2 == .free)=true then do let a ← cellOf env x.1;pure (ForInStep.yield ((x.1,a) :: cs)) else pure (ForInStep.yield cs):Sem (ForInStep (List (Str × Addr))))))=pure (Iv env.cells names acc)
 | [],acc,_=>rfl
 | (n,k) :: r,acc,h=>by
  have hr:∀ y ∈ r,y.2=.free→∃ c,env.cells.lookup y.1=some c:=fun y hy=>h y (List.mem_cons_of_mem _ hy)
  rw [List.forIn_cons];by_cases hk:(k == NameKind.free)=true
  ·have e:k=.free:=by simpa using hk
   obtain ⟨c,hc⟩:=h (n,k) List.mem_cons_self e;have hc':env.cells.lookup n=some c:=hc;simp only [Iv,hk,if_true,hc',cellOf];exact Lx r _ hr
  ·simp only [Iv,hk];exact Lx r _ hr
theorem gD {scope:Scope} {env:Env} (h:∀ y ∈ scope.names,y.2=.free→∃ c,env.cells.lookup y.1=some c):closureFor scope env=pure (Iv env.cells scope.names []):=by
 unfold closureFor;exact congrArg (fun t=>t >>= pure) (Lx scope.names [] h)
theorem Rp {cells:List (Str × Addr)}:∀ (names:List (Str × NameKind)) (acc:List (Str × Addr)) {x:Str} {c:Addr},(Iv cells names acc).lookup x=some c→acc.lookup x=some c∨cells.lookup x=some c
 | [],acc,x,c,h=>.inl h
 | (n,k) :: r,acc,x,c,h=>by
  unfold Iv at h;split at h
  ·cases q:cells.lookup n with
   | none=>rw [q] at h;exact Rp r acc h
   | some d=>
    rw [q] at h;rcases Rp r _ h with z | z
    ·rw [List.lookup_cons] at z;by_cases hx:(x == n)=true
     ·rw [hx] at z;have e:x=n:=by simpa using hx
      subst e
      right;rw [q];exact z
     ·have hx':(x == n)=false:=by simpa using hx
      rw [hx'] at z;exact .inl z
    ·exact .inr z
  ·exact Rp r acc h
theorem xn {cells:List (Str × Addr)}:∀ (names:List (Str × NameKind)) (acc:List (Str × Addr)) {x:Str} {c:Addr},acc.lookup x=some c→cells.lookup x=some c→(Iv cells names acc).lookup x=some c
 | [],acc,x,c,h,_=>h
 | (n,k) :: r,acc,x,c,h,hc=>by
  unfold Iv;split
  ·cases q:cells.lookup n with
   | none=>exact xn r acc h hc
   | some d=>
    refine xn r _ ?_ hc;rw [List.lookup_cons];by_cases hx:(x == n)=true
    ·have e:x=n:=by simpa using hx
     subst e;rw [hx];rw [q] at hc;exact hc
    ·have hx':(x == n)=false:=by simpa using hx
     rw [hx'];exact h
  ·exact xn r acc h hc
theorem Um {cells:List (Str × Addr)}:∀ (names:List (Str × NameKind)) (acc:List (Str × Addr)) {x:Str} {c:Addr},(x,NameKind.free) ∈ names→cells.lookup x=some c→(Iv cells names acc).lookup x=some c
 | [],_,_,_,h,_=>nomatch h
 | (n,k) :: r,acc,x,c,h,hc=>by
  rcases List.mem_cons.mp h with e | h
  ·cases e;unfold Iv;rw [if_pos (by decide),hc];refine xn r _ ?_ hc;rw [List.lookup_cons];simp
  ·unfold Iv;split
   ·cases q:cells.lookup n with
    | none=>exact Um r acc h hc
    | some d=>exact Um r _ h hc
   ·exact Um r acc h hc
theorem qo {α:Type}:∀ {l:List (Str × α)} {x:Str} {a:α},l.lookup x=some a→(x,a) ∈ l
 | [],_,_,h=>by simp at h
 | (n,b) :: r,x,a,h=>by
  rw [List.lookup_cons] at h;by_cases hx:(x == n)=true
  ·have e:x=n:=by simpa using hx
   subst e;rw [hx] at h;have e2:b=a:=Option.some.inj h;subst e2;exact List.mem_cons_self
  ·have hx':(x == n)=false:=by simpa using hx
   rw [hx'] at h;exact List.mem_cons_of_mem _ (qo h)
theorem Ux {env:Env} {scope:Scope} {x:Str} {k:NameKind} (h:(relabel scope env).names.lookup x=some k) (hk:k=.cell∨k=.free) (hc:∀ y ∈ scope.names,y.2 ≠ .cell):(x,NameKind.free) ∈ scope.names:=by
 have h1:=qo h;obtain ⟨⟨n,j⟩,hm,e⟩:=List.mem_map.mp h1;have e':(if (j == NameKind.free && env.scope.kind == .function && env.kindOf n == some .cell)=true then (n,NameKind.cell) else (n,j))=(x,k):=e;split at e'
 ·rename_i hcond;have e1:n=x:=(Prod.mk.inj e').1;subst e1;have hj:j=.free:=by
   simp only [Bool.and_eq_true] at hcond;simpa using hcond.1.1
  subst hj;exact hm
 ·have e1:n=x:=(Prod.mk.inj e').1;have e2:j=k:=(Prod.mk.inj e').2;subst e1;subst e2;rcases hk with z | z
  ·exact absurd z (hc _ hm)
  ·subst z;exact hm
theorem rm {env:Env} {scope:Scope} {x:Str} (h:scope.names.lookup x=some .free):(relabel scope env).names.lookup x=some .cell∨(relabel scope env).names.lookup x=some .free:=by
 have all:∀ (names:List (Str × NameKind)),names.lookup x=some .free →
   (names.map fun (n,k)=>if (k == NameKind.free && env.scope.kind == .function && env.kindOf n == some .cell) then (n,NameKind.cell) else (n,k)).lookup x=some .cell ∨
   (names.map fun (n,k)=>if (k == NameKind.free && env.scope.kind == .function && env.kindOf n == some .cell) then (n,NameKind.cell) else (n,k)).lookup x=some .free:=by
  intro names
  induction names with
  | nil=>intro h;simp at h
  | cons p r ih=>
   obtain ⟨n,k⟩:=p;intro h;rw [List.map_cons];by_cases hx:(x == n)=true
   ·simp only [List.lookup_cons,hx] at h;have hk:k=.free:=Option.some.inj h;subst hk;by_cases hc:(NameKind.free == NameKind.free && env.scope.kind == .function && env.kindOf n == some .cell)=true
    ·left;simp only [if_pos hc,List.lookup_cons,hx]
    ·right;simp only [if_neg hc,List.lookup_cons,hx]
   ·have hx':(x == n)=false:=by simpa using hx
    simp only [List.lookup_cons,hx'] at h;by_cases hc:(k == NameKind.free && env.scope.kind == .function && env.kindOf n == some .cell)=true
    ·simp only [if_pos hc,List.lookup_cons,hx'];exact ih h
    ·simp only [if_neg hc,List.lookup_cons,hx'];exact ih h
 exact all scope.names h
noncomputable abbrev Cx.block (X:Cx) (scope:Scope) (C:Addr) (N:List Str) (s:Shared) (H:Hp) (fp:List Addr):Cx where
 prog:=X.prog
 w:=X.w
 K:=X.K
 mg:=X.mg
 base:=X.base
 A:=X.A
 N:=N
 s₀:=s
 H₀:=H
 env:=compEnvC scope (Iv X.env.cells scope.names []) C X.env
 outer:=X.stack
 stack:=X.stack
 ex:=fp
 fn:=fun _=>false
 calm:=X.calm
 pn:=[]
 xe:=fun _ _=>False
structure Xo (env:Env) (scope:Scope):Prop where
 kind:scope.kind=.function
 nocell:∀ y ∈ scope.names,y.2 ≠ .cell
 fr:∀ y ∈ scope.names,y.2=.free→env.kindOf y.1=some .cell∨env.kindOf y.1=some .free
 loc:∀ x ∈ scope.names,x.2=.local→scope.names.lookup x.1=some .local
noncomputable def blk (sel:List (Option Nat)) (σ:St):St:=sel.map fun o=>o.bind fun j=>(σ[j]?).join
noncomputable def BE (M:List Str) (scope:Scope) (N:List Str) (sel:List (Option Nat)):Prop:=
 sel.length=N.length∧∀ (i j:Nat) (x:Str),sel[i]? = some (some j)→N[i]? = some x→M[j]? = some x∧scope.names.lookup x=some .free
section
variable {X:Cx} {pins:List (Addr × Obj)} {σ:St} {H:Hp} {s:Shared} {scope:Scope} {fp:List Addr} {C:Addr} {N:List Str}
theorem Xo.cells (S:Xo X.env scope) (ok:X.Ok):∀ y ∈ scope.names,y.2=.free→∃ c,X.env.cells.lookup y.1=some c:=fun y hy e=>ok.has y.1 (S.fr y hy e)
theorem Qt {x:Str} {c:Addr} (h:(Iv X.env.cells scope.names []).lookup x=some c):X.env.cells.lookup x=some c:=by
 rcases Rp _ _ h with z | z
 ·simp at z
 ·exact z
theorem oA (I:Inv X pins σ H s) (S:Xo X.env scope) (hf:∀ b ∈ fp,Uu X pins H b) (hs:∀ b ∈ fp,b < s.heap.objs.size) (hC:s.heap.objs.size ≤ C):(X.block scope C N s H fp).Ok where
 mod:=I.ok.mod
 kind:=S.kind
 glob:=I.ok.glob
 blt:=I.ok.blt
 above:=hC
 inj:=fun x y c h1 h2=>I.ok.inj x y c (Qt h1) (Qt h2)
 has:=fun x h=>by
  have hk:∃ k,(relabel scope X.env).names.lookup x=some k∧(k=.cell∨k=.free):=by
   rcases h with h | h
   ·exact ⟨_,h,.inl rfl⟩
   ·exact ⟨_,h,.inr rfl⟩
  obtain ⟨k,h1,h2⟩:=hk;have hm:=Ux h1 h2 S.nocell;obtain ⟨c,hc⟩:=S.cells I.ok _ hm rfl;exact ⟨c,Um _ _ hm hc⟩
 cab:=fun _ _ h _=>nomatch h
 hd:=I.ok.hd
 frames:=I.ok.frames
 stk:=.inl rfl
 exf:=fun b hb=>⟨Nat.ne_of_lt (Nat.lt_of_lt_of_le (hs b hb) hC),fun x c e=>(hf b hb).2.2.2.2.1 x c (Qt e)⟩
 bs:=I.bs
 bsz:=Nat.le_trans I.ok.bsz I.sz
 noex:=fun b o e hb=>by
  rcases (hf b hb).2.2.2.1 with z | z
  ·exact I.ok.noex b o e z
  ·exact absurd (Nat.lt_of_lt_of_le (Nat.lt_of_lt_of_le (Heap.lt_size e) I.ok.bsz) z) (Nat.lt_irrefl _)
 exfs:=fun b hb hz=>by
  rcases List.mem_cons.mp (I.stkSub b hz) with z | z
  ·exact (hf b hb).2.1 z
  ·exact (hf b hb).2.2.1 z
 funs:=I.stack
 frf:=I.stkFree
theorem UC {h':Heap} {t':Nat} {m:Str→Option Value} {sel:List (Option Nat)} (I:Inv X pins σ H s) (S:Xo X.env scope) (hf:∀ b ∈ fp,Uu X pins H b) (hs:∀ b ∈ fp,b < s.heap.objs.size) (hC:s.heap.objs.size ≤ C)
  (k:∀ b o,s.heap.get? b=some o→h'.get? b=some o) (hn:h'.Ns C m) (hsel:BE X.N scope N sel):Inv (X.block scope C N s H fp) [] (blk sel σ) H { s with heap:=h',toks:=t' } where
 ok:=oA I S hf hs hC
 os:=rfl
 bare:=I.bare
 base:=Un.kept k
 loc:=by
  refine ⟨m,hn,fun i x v e1 e2 e3=>?_⟩;obtain ⟨m0,hn0,hl⟩:=I.loc;obtain ⟨j,ej,eσ⟩:∃ j,sel[i]? = some (some j)∧σ[j]? = some (some v):=by
   unfold blk at e2;rw [List.getElem?_map] at e2;cases q:sel[i]? with
   | none=>rw [q] at e2;cases e2
   | some o=>
    rw [q] at e2;cases o with
    | none=>cases e2
    | some j=>
     refine ⟨j,rfl,?_⟩;have e2':(σ[j]?).join=some v:=Option.some.inj e2;cases r:σ[j]? with
     | none=>rw [r] at e2';cases e2'
     | some z=>rw [r] at e2';exact congrArg some e2'
  obtain ⟨eN,hfr⟩:=hsel.2 i j x ej e1;have hm:=qo hfr;have hk:=S.fr _ hm rfl;have hv:Vis X.env.scope x:=hk.elim (fun z=>.inr (.inl z)) fun z=>.inr (.inr z)
  obtain ⟨u,r,l⟩:=hl j x v eN eσ hv;refine ⟨u,r,?_⟩;rcases l with ⟨hloc,_⟩ | ⟨_,c,hc,hcell⟩
  ·rcases hk with z | z <;> (have z':X.env.kindOf x=_:=z;rw [hloc] at z';cases z')
  ·refine .inr ⟨?_,c,Um _ _ hm hc,?_⟩
   ·exact rm hfr
   ·obtain ⟨o,ho,hd⟩:=hcell;exact ⟨o,k _ _ ho,hd⟩
 cell:=fun x c e=>by
  obtain ⟨v,o,ho,hd⟩:=I.cell x c (Qt e);exact ⟨v,o,k _ _ ho,hd⟩
 free:=I.hok.fresh hC
 freeC:=fun x c e=>I.freeC x c (Qt e)
 pin:=fun p hp=>nomatch hp
 hok:=I.hok.kept k
 len:=by unfold blk;rw [List.length_map];exact hsel.1
theorem Inv.adopt {a:Addr} {o:HO} (I:Inv X pins σ H s) (fo:Uu X pins H a) (new:Bd X.prog X.w (upd H a o) s.heap a o):Inv X pins σ (upd H a o) s:=by
 obtain ⟨hn,hL,hfs,hex,hcl,hpn⟩:=fo;refine I.step (g':=s.gens) (d':=s.drawn) (t':=s.toks) (h':=s.heap) (ch:=[a]) (fun b hb=>?_) (fun b o _ _ _ e _=>e) (fun b o _ _ _ e _=>⟨o.slots,e⟩) (fun b o hb e n=>?_) (fun b o _ e=>⟨o,e⟩)
  (fun b xs e=>?_) (fun b o u e=>?_) (fun b ps e=>⟨#[],?_⟩) (fun m hm=>hm) (fun b u e=>?_) I.bare
 ·have e:b=a:=by simpa using hb
  subst e;exact ⟨hex,hL,hcl,hpn⟩
 ·rw [Ab (fun z=>hb (by simp [z]))];exact n
 ·rw [Ab (Lb e hn)];exact e
 ·rw [Ab (Lb e hn)];exact e
 ·rw [Ab (Lb e hn),e];simp
 ·by_cases hb:b=a
  ·subst hb;rw [ib] at e;cases e;exact new
  ·rw [Ab hb] at e;exact (I.hok b u e).stay (fun c v _ q=>q) (fun c q=>by rw [Ab (Lb q hn)];exact q) fun c xs q=>by rw [Ab (Lb q hn)];exact q
end
theorem Nl {prog:Program} {w:World} {A:Around} {R:Result→Shared→Prop} {s:Shared} {elt target iter:Expr} {ifs:List Expr} {scope:Scope} {pos:Pos} {it acc:Value} {env:Env} (I:Nat→Shared→Prop)
  (turn:∀ n s,I n s→wpAny (model prog w) A (pyNext it) (fun r s₁=>match r with
   | none=>R (.ok .next) s₁
   | some v=>wpAny (model prog w) A (letOwnedTupleGo target it v) (fun _ s₀=>wpAny (model prog w) A (assign target env v) (fun _ s₂=>
     wpAny (model prog w) A (forIn ifs true fun c r=>if r=true then do let ok ← isTrue c env (eval c env);pure (ForInStep.yield ok) else pure (ForInStep.yield r)) (fun ok s₃=>
      if ok=true then wpAny (model prog w) A (eval elt env) (fun x s₄=>
       wpAny (model prog w) A (call (.builtin "list.append") [acc,x]) (fun _ s₅=>∃ m,m < n∧I m s₅) (fun _ _=>False) s₄) (fun _ _=>False) s₃
      else ∃ m,m < n∧I m s₃) (fun _ _=>False) s₂) (fun _ _=>False) s₀) (fun _ _=>False) s₁) (fun _ _=>False) s)
  (n:Nat) (h:I n s) :
  codeAny (model prog w) A (.compLoop (.ListComp elt [⟨target,iter,ifs,0⟩] scope pos) 0 it acc env) R s:=by
 refine codeAny_loop rfl I (fun n s hI=>?_) n h;show wpAny _ A ((compTurn (.ListComp elt [⟨target,iter,ifs,0⟩] scope pos) 0 it acc env).onRaise (fun x=>do noteFrame x env;theTreesLotGoes x)) _ _ s;refine wpAny_noted (wpAny_noRaise ?_);rw [compTurn_list];refine wpAny_bind (wpAny_standAt (wpAny_bind (wpAny_mono (turn n s hI) (fun r s₁ h₁=>?_) fun _ _ h'=>h')));cases r with
 | none=>exact wpAny_pure h₁
 | some v=>
  refine wpAny_bind (wpAny_mono h₁ (fun _ s₀ h₀=>?_) fun _ _ h'=>h');refine wpAny_bind (wpAny_mono h₀ (fun _ s₂ h₂=>wpAny_bind (wpAny_mono h₂ (fun ok s₃ h₃=>?_) fun _ _ h'=>h')) fun _ _ h'=>h');cases ok with
  | false=>exact wpAny_pure ⟨rfl,h₃⟩
  | true=>
   exact wpAny_bind (wpAny_bind (wpAny_mono h₃ (fun x s₄ h₄=>wpAny_bind (wpAny_mono h₄ (fun _ s₅ h₅=>wpAny_pure (wpAny_pure ⟨rfl,h₅⟩)) fun _ _ h'=>h')) fun _ _ h'=>h'))
noncomputable def PTs (X:Cx) (ifs:List Expr) (t:TT):Prop:=
 ∀ (pins:List (Addr × Obj)) (s:Shared) (σ:St) (H:Hp) (Q:Bool→Hp→Prop),Inv X pins σ H s→t σ H Q →
  wpAny (model X.prog X.w) X.A (forIn ifs true fun c r=>if r=true then do let ok ← isTrue c X.env (eval c X.env);pure (ForInStep.yield ok) else pure (ForInStep.yield r)) (TP X pins σ Q) X.xe s
noncomputable def Pw:TT:=fun _ H Q=>Q true H
theorem Kg {X:Cx}:PTs X [] Pw:=fun _ _ _ H _ I h=>wpAny_tests_nil ⟨H,I,h⟩
theorem Ho {X:Cx} {c:Expr} {t:TT} (h:PT X c t):PTs X [c] t:=fun pins s σ H Q I q=>wpAny_tests_one (h pins s σ H Q I q)
noncomputable def Sub (σ σ':St):Prop:=σ'.length=σ.length∧∀ (i:Nat) (v:V),σ[i]? = some (some v)→σ'[i]? = some (some v)
theorem Sub.refl (σ:St):Sub σ σ:=⟨rfl,fun _ _ h=>h⟩
theorem Sub.set {σ σ':St} {i:Nat} {x:Option V} (h:Sub σ σ') (e:σ[i]? = some none):Sub σ (σ'.set i x):=by
 refine ⟨by rw [List.length_set];exact h.1,fun j v q=>?_⟩;have hj:i ≠ j:=fun z=>by subst z;rw [e] at q;cases q
 rw [List.getElem?_set_ne hj];exact h.2 j v q
noncomputable def Nx (J:It) (g:TG) (tc:TT) (te:TE) (σb:St) (Q:VK) (W:Nat→Nat→List V→Hp→Prop):Prop:=∀ i m ys H,W i m ys H →
 (J.stop i H∧∀ p,H p=none→Q (.ref p) (upd H p (.lst ys))) ∨
 (J.go i H∧ys.length < sizeLine∧∀ x H',J.yld i H x H'→g x σb H' fun σ2 H2=>Sub σb σ2∧tc σ2 H2 fun c H3=>if c=true then te σ2 H3 fun y H4=>∃ m',m' < m∧W (i + 1) m' (ys ++ [y]) H4 else ∃ m',m' < m∧W (i + 1) m' ys H3)
noncomputable def yL (wi:TI) (g:TG) (tc:TT) (te:TE) (sel:List (Option Nat)):TE:=fun σ H Q=>wi σ H fun J H1=>∃ W:Nat→Nat→List V→Hp→Prop,(∃ m,W 0 m [] H1)∧Nx J g tc te (blk sel σ) Q W
section
variable {X:Cx} {elt tg iter:Expr} {ifs:List Expr} {scope:Scope} {pos:Pos} {wi:TI} {g:TG} {tc:TT} {te:TE} {N:List Str} {sel:List (Option Nat)}
structure Blk (X:Cx) (scope:Scope) (N:List Str) (tg elt:Expr) (ifs:List Expr) (g:TG) (tc:TT) (te:TE):Prop where
 tgt:∀ C s H fp,PG (X.block scope C N s H fp) tg g
 tests:∀ C s H fp,PTs (X.block scope C N s H fp) ifs tc
 elem:∀ C s H fp,PE (X.block scope C N s H fp) elt te
theorem Blk.of {X:Cx} {scope:Scope} {N:List Str} {tg elt:Expr} {ifs:List Expr} {g:TG} {tc:TT} {te:TE} (h1:∀ C s H fp,PG (X.block scope C N s H fp) tg g)
  (h2:∀ C s H fp,∃ t,PTs (X.block scope C N s H fp) ifs t∧t=tc) (h3:∀ C s H fp,∃ t,PE (X.block scope C N s H fp) elt t∧t=te):Blk X scope N tg elt ifs g tc te:=
 ⟨h1,fun C s H fp=>by obtain ⟨t,h,rfl⟩:=h2 C s H fp;exact h,fun C s H fp=>by obtain ⟨t,h,rfl⟩:=h3 C s H fp;exact h⟩
theorem bw {pins:List (Addr × Obj)} {s₂:Shared} {σ:St} {H₂:Hp} {Q:VK} {it:Addr} {fp:List Addr} {tn:Nat→Heap→Prop} {J:It} {W:Nat→Nat→List V→Hp→Prop} {E:Value→Shared→Prop} {RR:Value→Addr→Result→Shared→Prop}
  (hc:X.calm=true) (S:Xo X.env scope) (hsel:BE X.N scope N sel) (B:Blk X scope N tg elt ifs g tc te) (I2:Inv X pins σ H₂ s₂) (T:rG X.prog X.w X.K tg J fp it tn) (st2:tn 0 s₂.heap) (f2:∀ b ∈ fp,Uu X pins H₂ b)
  (w0:∃ m,W 0 m [] H₂) (hW:Nx J g tc te (blk sel σ) Q W)
  (fin:∀ D C ys H' s',Inv X pins σ (upd H' D (.lst ys)) s'→(∃ m,s'.heap.Ns C m)→Uu X pins (upd H' D (.lst ys)) C→Q (.ref D) (upd H' D (.lst ys))→RR (.ref D) C (.ok .next) s') :
  wpAny (model X.prog X.w) X.A (newList []) (fun acc s₃=>wpAny (model X.prog X.w) X.A (newFunctionEnv scope X.env.globals (Iv X.env.cells scope.names []) [] X.env.qual none .none (some X.env)) (fun cenv s₄=>
   codeAny (model X.prog X.w) X.A (.compStart (.ListComp elt [⟨tg,iter,ifs,0⟩] scope pos) 0 (.ref it) acc { cenv with scope:=relabel scope X.env }) (RR acc cenv.locals) s₄) E s₃) E s₂:=by
 refine wpAny_newObj_type (wpAny_newFunctionEnv S.nocell (by intro y hy;simp at hy) (fun h₁ hns₁ hsb₁=>?_) S.kind);dsimp only at hns₁ hsb₁ ⊢;generalize hH2:s₂.heap.push { cls:=.type "list",dict:=none,data:=.seq ([]:List Value).toArray }=H2 at hns₁ hsb₁ ⊢;have hC:H2.objs.size=s₂.heap.objs.size + 1:=by rw [← hH2,Heap.size_push]
 have hDC:s₂.heap.objs.size ≠ H2.objs.size:=by rw [hC];exact Nat.ne_of_lt (Nat.lt_succ_self _)
 have hCle:s₂.heap.objs.size ≤ H2.objs.size:=by rw [hC];exact Nat.le_succ _
 have below:∀ b,b < s₂.heap.objs.size→b ≠ H2.objs.size∧b ≠ s₂.heap.objs.size:=fun b hb=>⟨by rw [hC];exact Nat.ne_of_lt (Nat.lt_succ_of_lt hb),Nat.ne_of_lt hb⟩
 have old:∀ b o,s₂.heap.get? b=some o→h₁.get? b=some o:=fun b o e=>hsb₁.extBut b o (below b (Heap.lt_size e)).1 (Heap.get?_push_of_some _ (hH2 ▸ Heap.get?_push_of_some _ e))
 have hacc:h₁.get? s₂.heap.objs.size=some { cls:=.type "list",data:=.seq ([]:List Value).toArray }:=hsb₁.extBut _ _ hDC (Heap.get?_push_of_some _ (hH2 ▸ Heap.get?_push_size _ rfl));have fps:∀ b ∈ fp,b < s₂.heap.objs.size:=fun b hb=>by
  obtain ⟨o,e,_⟩:=T.obj _ _ st2 b hb;exact Heap.lt_size e
 generalize hCe:H2.objs.size=C at *;generalize hDe:s₂.heap.objs.size=D at *;have st1:tn 0 h₁:=T.keep _ _ _ st2 fun b _ o e=>old b o e
 have IB0:Inv (X.block scope C N s₂ H₂ fp) [] (blk sel σ) H₂ { s₂ with heap:=h₁,toks:=s₂.toks + ([]:List (Str × Value)).length }:=
  UC I2 S f2 (fun b hb=>by rw [hDe];exact fps b hb) (by rw [hDe];exact hCle) old hns₁ hsel
 have hDfs:D ∉ (X.block scope C N s₂ H₂ fp).fs:=fun z=>by
  have z':=I2.stkSub D z;rcases List.mem_cons.mp z' with e | e
  ·exact absurd I2.lt (by rw [← e,hDe];exact Nat.lt_irrefl _)
  ·exact I2.nofs (by rw [hDe];exact Nat.le_refl _) e
 have loop:∀ s₃:Shared,s₃ = { s₂ with heap:=h₁,toks:=s₂.toks + ([]:List (Str × Value)).length } →
   codeAny (model X.prog X.w) X.A (.compLoop (.ListComp elt [⟨tg,iter,ifs,0⟩] scope pos) 0 (.ref it) (.ref D) (compEnvC scope (Iv X.env.cells scope.names []) C X.env)) (RR (.ref D) C) s₃:=by
  rintro s₃ rfl;obtain ⟨m0,w0⟩:=w0;refine Nl (fun k s'=>∃ i ys us n H',Inv (X.block scope C N s₂ H₂ fp) [(D,{ cls:=.type "list",data:=.seq us n })] (blk sel σ) H' s'∧(∃ vs:List Value,us=vs.toArray∧pd ys vs)∧ys.length ≤ sizeLine∧tn i s'.heap∧(∀ b ∈ fp,H' b=none)∧W i k ys H') ?_ m0
   ⟨0,[],_,0,H₂,IB0.pins_of fun p hp=>?_,⟨[],rfl,.nil⟩,Nat.zero_le _,st1,fun b hb=>(f2 b hb).1,w0⟩
  ·rintro k s' ⟨i,ys,us,n,H',IB,⟨vs,rfl,rv⟩,hyz,st,fr,w⟩;have fpB:∀ {pl:List (Addr × Obj)} {H'':Hp},(∀ p ∈ pl,p.1=D)→(∀ b ∈ fp,H'' b=none)→∀ b ∈ fp,Uu (X.block scope C N s₂ H₂ fp) pl H'' b:=fun {pl H''} hp hn b hb=>
    ⟨hn b hb,(below b (fps b hb)).1,(oA (N:=N) (C:=C) I2 S f2 (fun b hb=>by rw [hDe];exact fps b hb) (by rw [hDe];exact hCle)).exfs b hb,.inl hb,fun x c e=>(f2 b hb).2.2.2.2.1 x c (Qt e),fun p hpp z=>by
     have hpp':p ∈ pl:=by simpa using hpp
     exact (below b (fps b hb)).2 (by rw [← z];exact hp p hpp')⟩
   have hD1:∀ p ∈ [((D,{ cls:=.type "list",data:=.seq vs.toArray n }):Addr × Obj)],p.1=D:=fun p hp=>by
    have e:p=(D,{ cls:=.type "list",data:=.seq vs.toArray n }):=by simpa using hp
    rw [e]
   rcases hW i k ys H' w with ⟨stop,qn⟩ | ⟨go,hlen,step⟩
   ·refine thn (T.done (X.block scope C N s₂ H₂ fp) rfl rfl rfl hc i _ s' _ H' _ IB (fpB hD1 fr) st stop) fun r s4 hZ1=>?_
    obtain ⟨hr,I4⟩:=hZ1;subst hr;have pD:=I4.pin (D,{ cls:=.type "list",data:=.seq vs.toArray n }) (by simp);have hDn:H' D=none:=pD.2.1;have IX:Inv X pins σ H' s4:=I2.call' (ch:=fp) I4.os I4.base I4.hok I4.bare fun b hb=>⟨(f2 b hb).2.2.2.1,(f2 b hb).2.1,(f2 b hb).2.2.2.2.1,(f2 b hb).2.2.2.2.2⟩
    have foD:Uu X pins H' D:=I2.fpOk (by rw [hDe];exact Nat.le_refl _) hDn;have IA:Inv X pins σ (upd H' D (.lst ys)) s4:=IX.adopt foD ⟨hyz,vs,n,rv,pD.1⟩;obtain ⟨mC,hnC,_⟩:=I4.loc;refine fin D C ys H' s4 IA ⟨mC,hnC⟩ (I2.fpOk (by rw [hDe];exact hCle) ?_) (qn D hDn);rw [Ab (Ne.symm hDC)];exact I4.free
   ·refine thn (T.item (X.block scope C N s₂ H₂ fp) rfl rfl rfl hc i _ s' _ H' _ IB (fpB hD1 fr) st go) fun r s4 hZ1=>?_
    obtain ⟨u,hr,h4⟩:=hZ1;subst hr;refine thn h4 fun _ s5 hZ1=>?_
    obtain ⟨x,H5,I5,r5,y5,st5,fr5⟩:=hZ1;have I5':=I5.pinned (fpB hD1 fr5) (T.obj _ _ st5);refine thn (B.tgt C s₂ H₂ fp _ s5 _ H5 x u _ I5' r5 (step x H5 y5)) fun _ s6 hZ1=>?_
    obtain ⟨σ6,H6,I6,sb,q6⟩:=hZ1;refine thn (B.tests C s₂ H₂ fp _ s6 σ6 H6 _ I6 q6) fun c s7 hZ1=>?_
    obtain ⟨H7,I7,q7⟩:=hZ1;have again:∀ {σ8:St} {H8:Hp} {s8:Shared},Inv (X.block scope C N s₂ H₂ fp) ([(D,{ cls:=.type "list",data:=.seq vs.toArray n })] ++ gw fp s5.heap) σ8 H8 s8→tn (i + 1) s8.heap∧(∀ b ∈ fp,H8 b=none):=fun {σ8 H8 s8} I8=>by
     refine ⟨T.keep _ _ _ st5 fun b hb o e=>(I8.pin (b,o) (List.mem_append_right _ (List.mem_append_right _ (El hb e)))).1,fun b hb=>?_⟩;obtain ⟨o,e,d⟩:=T.obj _ _ st5 b hb;exact (I8.pin (b,o) (List.mem_append_right _ (List.mem_append_right _ (El hb e)))).2.1
    have back:∀ {H8:Hp} {s8:Shared} {pl:List (Addr × Obj)},Inv (X.block scope C N s₂ H₂ fp) pl σ6 H8 s8→Inv (X.block scope C N s₂ H₂ fp) pl (blk sel σ) H8 s8:=fun {H8 s8 pl} I8=>I8.weak sb.1.symm sb.2
    cases c with
    | false=>
     obtain ⟨m',hm,w'⟩:=q7;obtain ⟨t1,t2⟩:=again I7;exact ⟨m',hm,i + 1,ys,_,n,H7,back I7.unpinned,⟨vs,rfl,rv⟩,hyz,t1,t2,w'⟩
    | true=>
     refine thn (B.elem C s₂ H₂ fp _ s7 σ6 H7 _ I7 q7) fun v s8 hZ1=>?_
     obtain ⟨y,H8,I8,r8,m',hm,w'⟩:=hZ1;obtain ⟨t1,t2⟩:=again I8;have pD:=I8.pin (D,{ cls:=.type "list",data:=.seq vs.toArray n }) (by simp);refine append_at (hsz:=by have:=rv.length;rw [List.size_toArray];omega) pD.1 fun h9 hs9 hD9=>?_
     have IB':Inv (X.block scope C N s₂ H₂ fp) [] (blk sel σ) H8 s8:=(back I8).pins_of fun p hp=>nomatch hp
     have foD:Uu (X.block scope C N s₂ H₂ fp) [] H8 D:=⟨pD.2.1,hDC,hDfs,.inr (by show s₂.heap.objs.size ≤ D;rw [hDe];exact Nat.le_refl _),(fun x c e z=>by
      obtain ⟨cv,o,ho,hd⟩:=I8.cell x c e;rw [z,pD.1] at ho;cases ho;cases hd),(fun p hp=>nomatch hp)⟩
     have I9:Inv (X.block scope C N s₂ H₂ fp) [] (blk sel σ) H8 { s8 with heap:=h9 }:=IB'.turned (t':=s8.toks) (it:=D) (fun b o hb e=>(hs9.2 b hb).trans e) foD.1 foD.2.1 foD.2.2.2.1 foD.2.2.2.2.1 foD.2.2.2.2.2;refine ⟨m',hm,i + 1,ys ++ [y],vs.toArray.push v,n + 1,H8,I9.pins_of fun p hp=>?_,⟨vs ++ [v],by simp,Paired.snoc rv r8⟩,by rw [List.length_append,List.length_singleton];omega,T.keep _ _ _ t1 fun b hb o e=>(hs9.2 b (below b (fps b hb)).2).trans e,t2,w'⟩;have e:p=(D,{ cls:=.type "list",data:=.seq (vs.toArray.push v) (n + 1) }):=by simpa using hp
     subst e;exact ⟨hD9,pD.2.1,hDC,hDfs,fun v z=>by cases z⟩
  ·have e:p=(D,{ cls:=.type "list",data:=.seq ([]:List Value).toArray }):=by simpa using hp
   subst e;exact ⟨hacc,I2.hok.fresh (by rw [hDe];exact Nat.le_refl _),hDC,hDfs,fun v z=>by cases z⟩
 exact codeAny_compStart_list (loop _ rfl) (T.self _ 0 _ _ _ st1 (loop _ rfl))
theorem Yf (hc:X.calm=true) (hi:PI X tg iter wi) (S:Xo X.env scope) (hsel:BE X.N scope N sel) (B:Blk X scope N tg elt ifs g tc te)
  (hs:∀ x,foldedSetIterable iter X.env x=pure x:=by intro _;rfl):PE X (.ListComp elt [⟨tg,iter,ifs,0⟩] scope pos) (yL wi g tc te sel):=by
 intro pins s σ H Q I h;rw [eval_ListComp];refine wpAny_comprehension_free (use:=none) rfl hs (gD (S.cells I.ok)) S.kind S.loc ?_;refine thn (hi pins s σ H _ I h) fun v s1 h1=>thn h1 fun itv s2 h2=>?_
 obtain ⟨it,fp,tn,J,H2,e,I2,T,st2,f2,W,w0,hW⟩:=h2;subst e;refine bw (RR:=fun acc C=>compPost (model X.prog X.w) X.A X.xe none (EP X pins σ Q) acc C) hc S hsel B I2 T st2 f2 w0 hW fun D C ys H' s' I' ⟨m,hm⟩ fo q=>?_
 exact ⟨m,hm,fun h' hsb=>⟨.ref D,_,I'.turned (t':=s'.toks) (it:=C) (fun b o hb e=>(hsb.2 b hb).trans e) fo.1 fo.2.1 fo.2.2.2.1 fo.2.2.2.2.1 fo.2.2.2.2.2,rfl,q⟩⟩
theorem cj {i:Nat} {y:Str} {py spos:Pos} (hN:X.N.Nodup) (hi:X.N[i]? = some y) (hx:Loc X.env.scope y) (hc:X.calm=true) (hit:PI X tg iter wi) (S:Xo X.env scope) (hsel:BE X.N scope N sel) (B:Blk X scope N tg elt ifs g tc te)
  (hsw:swapsWith (.ListComp elt [⟨tg,iter,ifs,0⟩] scope pos) (some (.Name y py)) spos.line X.env=pure true) (hf:X.fn y=true∨X.env.scope.names.lookup y=some .local:=by first | exact .inl rfl | exact .inr rfl | assumption)
  (hs:∀ x,foldedSetIterable iter X.env x=pure x:=by intro _;rfl):PS X (.Assign [.Name y py] (.ListComp elt [⟨tg,iter,ifs,0⟩] scope pos) spos) (HL (yL wi g tc te sel) (ms i)):=by
 intro pins s σ H D I h;rw [exec_Assign_Name_used _ _ _ _ hsw];refine wpAny_bind (wpAny_standAt (wpAny_bind ?_));show wpAny _ X.A (do let _ ← comprehension (.ListComp elt [⟨tg,iter,ifs,0⟩] scope pos) scope X.env _ (newList []) false (eval iter X.env) (some (assign (.Name y py) X.env))) _ _ s;refine wpAny_bind (wpAny_mono (wpAny_comprehension_free (use:=some (assign (.Name y py) X.env)) (Q:=fun _ s'=>SP X pins D .next s') rfl hs (gD (S.cells I.ok)) S.kind S.loc ?_) (fun _ s' hq=>wpAny_pure (wpAny_pure hq)) fun _ _ e=>e);refine thn (hit pins s σ H _ I h) fun v s1 h1=>thn h1 fun itv s2 h2=>?_
 obtain ⟨it,fp,tn,J,H2,e,I2,T,st2,f2,W,w0,hW⟩:=h2;subst e;refine bw (RR:=fun acc C=>compPost (model X.prog X.w) X.A X.xe (some (assign (.Name y py) X.env)) (fun _ s'=>SP X pins D .next s') acc C) hc S hsel B I2 T st2 f2 w0 hW fun Da C ys H' s' I' ⟨m,hm⟩ fo q=>?_
 show wpAny _ X.A (assign (.Name y py) X.env (.ref Da)) _ _ _;refine wpAny_assign_Name (Bw I' hN hi hx (show zd (.ref Da) (.ref Da) from rfl) (fun s3 I3 hZ1=>?_) hf);obtain ⟨a,hsb,ha⟩:=hZ1;have hCa:C ≠ a:=by
  rcases ha with z | z
  ·rw [z];exact fo.2.1
  ·exact fun w=>fo.2.2.2.2.1 y a z w.symm
 refine ⟨m,hm.sameBut hsb hCa,fun h' hsb'=>⟨_,_,I3.turned (t':=s3.toks) (it:=C) (fun b o hb e=>(hsb'.2 b hb).trans e) fo.1 fo.2.1 fo.2.2.2.1 fo.2.2.2.2.1 fo.2.2.2.2.2,q⟩⟩
end
noncomputable def jg (Pv:Nat→List V→Hp→Prop) (g:TG) (tc:TT) (te:TE) (σb:St) (i:Nat) (x:V) (ys:List V) (H:Hp):Prop:=
 ∀ N:List V→Hp→Prop,(∀ ys' H',Pv (i + 1) ys' H'→N ys' H')→g x σb H fun σ2 H2=>Sub σb σ2∧tc σ2 H2 fun c H3=>if c=true then te σ2 H3 fun y H4=>N (ys ++ [y]) H4 else N ys H3
theorem IF {K:PySem.W.Frag} {a:Addr} {xs:List V} {g:TG} {tc:TT} {te:TE} {σb:St} {Q:VK} {H:Hp} (Pv:Nat→List V→Hp→Prop) (hz:xs.length ≤ sizeLine) (h0:Pv 0 [] H) (hl:∀ i ys H,i ≤ xs.length→Pv i ys H→SqL K H a xs∧ys.length ≤ i)
  (hs:∀ i x ys H,xs[i]? = some x→Pv i ys H→jg Pv g tc te σb i x ys H) (hd:∀ ys H,Pv xs.length ys H→∀ p,H p=none→Q (.ref p) (upd H p (.lst ys))) :
  ∃ W:Nat→Nat→List V→Hp→Prop,(∃ m,W 0 m [] H)∧Nx (Itl K a) g tc te σb Q W:=by
 refine ⟨fun i m ys H=>m=xs.length - i∧i ≤ xs.length∧Pv i ys H,⟨xs.length,by simp,Nat.zero_le _,h0⟩,?_⟩;rintro i m ys H ⟨rfl,hi,p⟩;have q:=(hl i ys H hi p).1;have hyl:=(hl i ys H hi p).2;by_cases hlt:i < xs.length
 ·refine .inr ⟨⟨xs,xs[i],q,by simp [hlt]⟩,by omega,fun x H' y=>?_⟩;obtain ⟨e,y⟩:=y;subst e;exact hs i x ys _ (y xs q) p (fun ys' H'=>∃ m',m' < xs.length - i∧m'=xs.length - (i + 1)∧i + 1 ≤ xs.length∧Pv (i + 1) ys' H') fun ys' H' r=>⟨xs.length - (i + 1),by omega,rfl,hlt,r⟩
 ·have e:i=xs.length:=by omega
  subst e;exact .inl ⟨⟨xs,q,Nat.le_refl _⟩,hd ys H p⟩
theorem xA {K:PySem.W.Frag} {a:Addr} {xs:List V} {g:TG} {tc:TT} {te:TE} {σb:St} {Q:VK} {H:Hp} (Pv:Nat→List V→Hp→Prop) (hz:xs.length ≤ sizeLine) (h0:Pv 0 [] H) (hl:∀ i ys H,i ≤ xs.length→Pv i ys H→SqT K H a xs∧ys.length ≤ i)
  (hs:∀ i x ys H,xs[i]? = some x→Pv i ys H→jg Pv g tc te σb i x ys H) (hd:∀ ys H,Pv xs.length ys H→∀ p,H p=none→Q (.ref p) (upd H p (.lst ys))) :
  ∃ W:Nat→Nat→List V→Hp→Prop,(∃ m,W 0 m [] H)∧Nx (Itt K a) g tc te σb Q W:=by
 refine ⟨fun i m ys H=>m=xs.length - i∧i ≤ xs.length∧Pv i ys H,⟨xs.length,by simp,Nat.zero_le _,h0⟩,?_⟩;rintro i m ys H ⟨rfl,hi,p⟩;have q:=(hl i ys H hi p).1;have hyl:=(hl i ys H hi p).2;by_cases hlt:i < xs.length
 ·refine .inr ⟨⟨xs,xs[i],q,by simp [hlt]⟩,by omega,fun x H' y=>?_⟩;obtain ⟨e,y⟩:=y;subst e;exact hs i x ys _ (y xs q) p (fun ys' H'=>∃ m',m' < xs.length - i∧m'=xs.length - (i + 1)∧i + 1 ≤ xs.length∧Pv (i + 1) ys' H') fun ys' H' r=>⟨xs.length - (i + 1),by omega,rfl,hlt,r⟩
 ·have e:i=xs.length:=by omega
  subst e;exact .inl ⟨⟨xs,q,Nat.le_refl _⟩,hd ys H p⟩
theorem kB {lo:Int} {n:Nat} {g:TG} {tc:TT} {te:TE} {σb:St} {Q:VK} {H:Hp} (Pv:Nat→List V→Hp→Prop) (hz:n ≤ sizeLine) (h0:Pv 0 [] H) (hl:∀ i ys H,i ≤ n→Pv i ys H→ys.length ≤ i)
  (hs:∀ i ys H,i < n→Pv i ys H→jg Pv g tc te σb i (.int (lo + i)) ys H) (hd:∀ ys H,Pv n ys H→∀ p,H p=none→Q (.ref p) (upd H p (.lst ys))) :
  ∃ W:Nat→Nat→List V→Hp→Prop,(∃ m,W 0 m [] H)∧Nx (Itr lo n) g tc te σb Q W:=by
 refine ⟨fun i m ys H=>m=n - i∧i ≤ n∧Pv i ys H,⟨n,by simp,Nat.zero_le _,h0⟩,?_⟩;rintro i m ys H ⟨rfl,hi,p⟩;have hyl:=hl i ys H hi p;by_cases hlt:i < n
 ·refine .inr ⟨hlt,by omega,fun x H' y=>?_⟩;obtain ⟨e,y⟩:=y;subst e y;exact hs i ys _ hlt p (fun ys' H'=>∃ m',m' < n - i∧m'=n - (i + 1)∧i + 1 ≤ n∧Pv (i + 1) ys' H') fun ys' H' r=>⟨n - (i + 1),by omega,rfl,hlt,r⟩
 ·have e:i=n:=by omega
  subst e;exact .inl ⟨Nat.le_refl _,hd ys H p⟩
end L2
namespace L2
open PySem PySem.Spec PyProof.Rows
noncomputable def Its (xs:List V):It:=⟨fun i _=>i < xs.length,fun i H x H'=>H'=H∧xs[i]? = some x,fun i _=>xs.length ≤ i⟩
theorem Ht {P:Program} {w:World} {K:PySem.W.Frag} {tg:Expr} {it:Addr} {xs:List V} {PV:Nat→Value→Prop} {St:Nat→Heap→Prop} (hW:∀ A:Around,A.handled=none→Walks P w A it [it] [it] xs.length PV St)
  (hP:∀ i v,PV i v→∃ x,xs[i]? = some x∧zd x v)
  (hgo:∀ i h,St i h→∃ o n vs,h.get? it=some o∧o.cls=.type n∧o.data=.fields vs∧["enumerate","zip","dict_itemiterator","dict_reverseitemiterator","odict_iterator","itertools.zip_longest","itertools.pairwise"].contains n=false)
  (hfr:∀ i h h',St i h→(∀ o,h.get? it=some o→h'.get? it=some o)→St i h')
  (hself:∀ (A:Around) (i:Nat) (s:Shared) (Q:Value→Shared→Prop) (E:Value→Shared→Prop),St i s.heap→Q (.ref it) s→wpAny (model P w) A (pyIter (.ref it)) Q E s) :
  rG P w K tg (Its xs) [it] it (fun i h=>i ≤ xs.length∧St i h) where
 mem:=by simp
 obj:=fun i h st b hb=>by
  have e:b=it:=by simpa using hb
  subst e;obtain ⟨o,n,vs,e,_,d,_⟩:=hgo i h st.2;exact ⟨o,e,fun v z=>by rw [d] at z;cases z⟩
 keep:=fun i h h' st k=>⟨st.1,hfr i h h' st.2 fun o e=>k it (by simp) o e⟩
 item:=by
  intro X hP' hw hK hc i pins s σ H E I hf st hg;subst hP' hw hK;obtain ⟨f0,f1,f2,f3,f4,f5⟩:=hf it (by simp);refine (hW X.A (I.ok.hd hc)).item i s _ _ hg st.2 fun v h' tk hv st' kk=>?_
  obtain ⟨x,hx,rx⟩:=hP i v hv;have I1:Inv X pins σ H { s with heap:=h',toks:=tk }:=I.turned (fun b o hb e=>kk b o (by simpa using hb) e) f0 f1 f3 f4 f5;obtain ⟨o,n,vs,e,c,d,nm⟩:=hgo _ _ st';exact ⟨v,rfl,QE (s:={ s with heap:=h',toks:=tk }) e c d nm ⟨x,H,I1,rx,⟨rfl,hx⟩,⟨hg,st'⟩,fun b hb=>(hf b hb).1⟩⟩
 done:=by
  intro X hP' hw hK hc i pins s σ H E I hf st hg;subst hP' hw hK;obtain ⟨f0,f1,f2,f3,f4,f5⟩:=hf it (by simp);have e:i=xs.length:=Nat.le_antisymm st.1 hg;subst e;exact (hW X.A (I.ok.hd hc)).done s _ _ st.2 fun h' tk kk=>⟨rfl,I.turned (fun b o hb e=>kk b o (by simpa using hb) e) f0 f1 f3 f4 f5⟩
 self:=fun A i s Q E st h=>hself A i s Q E st.2 h
noncomputable def bx (c:Nat):Str:=⟨#[c]⟩
noncomputable def Mj (x:Str):List V:=x.cps.toList.map fun c=>V.str (bx c)
theorem zn (x:Str):(Mj x).length=x.cps.size:=by unfold Mj;simp
theorem iE {x:Str} {i c:Nat} (h:x.cps[i]? = some c):(Mj x)[i]? = some (.str (bx c)):=by
 unfold Mj;rw [List.getElem?_map,Array.getElem?_toList,h];rfl
theorem Ut {x:Str} {i:Nat} {v:Value} (h:SignAt x i v):∃ y,(Mj x)[i]? = some y∧zd y v:=by
 obtain ⟨c,u,hc,rfl⟩:=h;exact ⟨.str (bx c),iE hc,u,rfl⟩
section
variable {X:Cx} {tg:Expr}
noncomputable def zP (tl:TE):TI:=fun σ H R=>tl σ H fun x H1=>∃ z,x=.str z∧R (Its (Mj z)) H1
theorem GN {l:Expr} {tl:TE} (hl:PE X l tl):PI X tg l (zP tl):=by
 intro pins s σ H R I h;refine thn (hl pins s σ H _ I h) fun v s1 hZ1=>?_
 obtain ⟨x,H1,I1,r1,q1⟩:=hZ1;obtain ⟨z,e,q⟩:=q1;subst e;obtain ⟨t,rfl⟩:=r1;have fo:∀ b ∈ [s1.heap.objs.size],Uu X pins H1 b:=fun b hb=>by
  have e:b=s1.heap.objs.size:=by simpa using hb
  subst e;exact I1.fpOk (Nat.le_refl _) (I1.hok.fresh (Nat.le_refl _))
 have hz:=zn z;cases ha:z.cps.all (· < 128) with
 | false=>
  refine wpAny_pyIter_wide ha ⟨s1.heap.objs.size,[s1.heap.objs.size],fun i h=>i ≤ (Mj z).length∧h.IsStrIter s1.heap.objs.size "str_iterator" z t i,_,H1,rfl,I1.kept (t':=s1.toks) fun b o e=>Heap.get?_push_of_some _ e,
   Ht (fun A hA=>by rw [hz];exact Walks.strWide hA _ z t) (fun i v=>Ut) (fun i h ⟨o,e,c,d⟩=>⟨o,_,_,e,c,d,by decide⟩) (fun i h h' ⟨o,e,r⟩ k=>⟨o,k o e,r⟩) (fun A i s Q E st q=>wpAny_pyIter_striter_wide st q),
   ⟨Nat.zero_le _,_,Heap.get?_push_size _ rfl,rfl,rfl⟩,fo,q⟩
 | true=>
  refine wpAny_pyIter_ascii ha ⟨s1.heap.objs.size,[s1.heap.objs.size],fun i h=>i ≤ (Mj z).length∧h.IsStrIter s1.heap.objs.size "str_ascii_iterator" z t i,_,H1,rfl,I1.kept (t':=s1.toks) fun b o e=>Heap.get?_push_of_some _ e,
   Ht (fun A hA=>by rw [hz];exact Walks.strAscii hA _ z t) (fun i v=>Ut) (fun i h ⟨o,e,c,d⟩=>⟨o,_,_,e,c,d,by decide⟩) (fun i h h' ⟨o,e,r⟩ k=>⟨o,k o e,r⟩) (fun A i s Q E st q=>wpAny_pyIter_striter_ascii st q),
   ⟨Nat.zero_le _,_,Heap.get?_push_size _ rfl,rfl,rfl⟩,fo,q⟩
end
theorem rL {xs:List V} {g:TG} {tb:TS} {D:Xj} {σ:St} {H:Hp} (Pv:Nat→St→Hp→Prop) (h0:Pv 0 σ H)
  (hs:∀ i x σ H,xs[i]? = some x→Pv i σ H→g x σ H fun σ2 H2=>tb { D with nx:=Pv (i + 1),ct:=Pv (i + 1),bk:=D.nx } σ2 H2) (hd:∀ σ H,Pv xs.length σ H→D.nx σ H) :
  ∃ W:Nat→Nat→St→Hp→Prop,(∃ m,W 0 m σ H)∧∀ i m σ H,W i m σ H →
   ((Its xs).stop i H∧D.nx σ H)∨((Its xs).go i H∧∃ N:St→Hp→Prop,(∀ σ' H',N σ' H'→∃ m',m' < m∧W (i + 1) m' σ' H')∧∀ x H',(Its xs).yld i H x H'→g x σ H' fun σ2 H2=>tb { D with nx:=N,ct:=N,bk:=D.nx } σ2 H2):=by
 refine ⟨fun i m σ H=>m=xs.length - i∧i ≤ xs.length∧Pv i σ H,⟨xs.length,by simp,Nat.zero_le _,h0⟩,?_⟩;rintro i m σ H ⟨rfl,hi,p⟩;by_cases hlt:i < xs.length
 ·refine .inr ⟨hlt,Pv (i + 1),fun σ' H' p'=>⟨xs.length - (i + 1),by omega,rfl,hlt,p'⟩,fun x H' y=>?_⟩;obtain ⟨e,y⟩:=y;subst e;exact hs i x σ _ y p
 ·have e:i=xs.length:=by omega
  subst e;exact .inl ⟨Nat.le_refl _,hd σ H p⟩
theorem gI {xs:List V} {g:TG} {tc:TT} {te:TE} {σb:St} {Q:VK} {H:Hp} (Pv:Nat→List V→Hp→Prop) (hz:xs.length ≤ sizeLine) (h0:Pv 0 [] H) (hl:∀ i ys H,i ≤ xs.length→Pv i ys H→ys.length ≤ i)
  (hs:∀ i x ys H,xs[i]? = some x→Pv i ys H→jg Pv g tc te σb i x ys H) (hd:∀ ys H,Pv xs.length ys H→∀ p,H p=none→Q (.ref p) (upd H p (.lst ys))) :
  ∃ W:Nat→Nat→List V→Hp→Prop,(∃ m,W 0 m [] H)∧Nx (Its xs) g tc te σb Q W:=by
 refine ⟨fun i m ys H=>m=xs.length - i∧i ≤ xs.length∧Pv i ys H,⟨xs.length,by simp,Nat.zero_le _,h0⟩,?_⟩;rintro i m ys H ⟨rfl,hi,p⟩;have hyl:=hl i ys H hi p;by_cases hlt:i < xs.length
 ·refine .inr ⟨hlt,by omega,fun x H' y=>?_⟩;obtain ⟨e,y⟩:=y;subst e;exact hs i x ys _ y p (fun ys' H'=>∃ m',m' < xs.length - i∧m'=xs.length - (i + 1)∧i + 1 ≤ xs.length∧Pv (i + 1) ys' H') fun ys' H' r=>⟨xs.length - (i + 1),by omega,rfl,hlt,r⟩
 ·have e:i=xs.length:=by omega
  subst e;exact .inl ⟨Nat.le_refl _,hd ys H p⟩
section
variable {X:Cx}
noncomputable def IP:V→Option Int→Option Int→Hp→VK→Prop:=fun x lo hi H Q=>∃ z,x=.str z∧z.length ≤ sizeLine∧Q (.str (Txt.slice z lo hi)) H
theorem DF:SlR X IP:=by
 intro pins s σ H x v vl vu lo hi sl Q I rx hs pl pu h;obtain ⟨z,rfl,hz,q⟩:=h;obtain ⟨t,rfl⟩:=rx;refine ⟨"str",_,F.slot_str_getitem.lookup,typeIs_str s z t,?_⟩;have fin:∀ t' k,EP X pins σ Q (.str (Txt.slice z lo hi) t') { s with toks:=k }:=fun t' k=>⟨.str _,H,I.tok _,⟨_,rfl⟩,q⟩
 cases pl with
 | none=>
  cases pu with
  | none=>exact wpAny_getItem_str_slice (l:=none) (u:=none) (st:=none) hs rfl (post_val_or_str ⟨Nat.le_trans (Txt.slice_le z _ _) hz,fin⟩)
  | int j uj=>exact wpAny_getItem_str_slice (l:=none) (u:=some (j,uj)) (st:=none) hs rfl (post_val_or_str ⟨Nat.le_trans (Txt.slice_le z _ _) hz,fin⟩)
 | int i ui=>
  cases pu with
  | none=>exact wpAny_getItem_str_slice (l:=some (i,ui)) (u:=none) (st:=none) hs rfl (post_val_or_str ⟨Nat.le_trans (Txt.slice_le z _ _) hz,fin⟩)
  | int j uj=>exact wpAny_getItem_str_slice (l:=some (i,ui)) (u:=some (j,uj)) (st:=none) hs rfl (post_val_or_str ⟨Nat.le_trans (Txt.slice_le z _ _) hz,fin⟩)
noncomputable def Lc (ys:List Str):List V:=ys.map V.str
theorem fC:∀ {ys:List Str} {us:List Value},pd (Lc ys) us→StrsAre us ys:=by
 intro ys
 induction ys with
 | nil=>intro us r;cases r;exact .nil
 | cons y ys ih=>
  intro us r;cases r with
  | cons r1 r2=>
   obtain ⟨t,rfl⟩:=r1;exact .cons y t (ih r2)
theorem Nw:∀ (l:List (Str × Tok)),pd (Lc (l.map (·.1))) (strValues l)
 | []=>.nil
 | (x,t) :: r=>.cons ⟨t,rfl⟩ (Nw r)
noncomputable def LN (K:PySem.W.Frag):V→List V→Hp→VK→Prop:=fun x vs H Q=>∃ sep p ys,x=.str sep∧vs=[.ref p]∧SqL K H p (Lc ys)∧(ys.map (·.length)).sum + ys.length * sep.length ≤ 16777216∧Q (.str (Txt.join sep ys)) H
theorem ky:MtR X "str.join" (LN X.K):=by
 intro pins s σ H x xs v us Q I rx rv h;obtain ⟨sep,p,ys,rfl,rfl,hq,hz,q⟩:=h;obtain ⟨t,rfl⟩:=rx;obtain ⟨u,rfl,ru⟩:=Zn rv;cases ru;obtain ⟨its,r,pl,_⟩:=I.list hq;exact join_list pl.isList (by simpa using fC r) hz fun t' k=>⟨.str _,H,I.tok _,⟨_,rfl⟩,q⟩
end
theorem ZB {prog:Program} {w:World} {A:Around} {E:Value→Shared→Prop} {s:Shared} {x y:Str} {t u:Tok} {Q:Value→Shared→Prop} (hy:(y.length == 0)=false)
  (h:∀ l k,l.map (·.1)=Txt.split x y→Q (.ref s.heap.objs.size) { s with heap:=s.heap.push { cls:=.type "list",data:=.seq (strValues l).toArray },toks:=k }) (hsz:x.length + 2 ≤ sizeLine) :
  wpAny (model prog w) A (call (.builtin "str.split") [.str x t,.str y u]) Q E s:=by
 have hn:(Builtin.Str.partsBetween x (Builtin.Str.occurrences x y 0 x.length (x.length + 1)) y.length).length ≤ sizeLine:=by
  have e1:=StrLaws.occ_length_le x y 0 x.length (x.length + 1);rw [length_partsBetween];omega
 cases h1:(decide (x.length < y.length) || decide (Builtin.Str.strKind x < Builtin.Str.strKind y))
 ·cases hf:(Builtin.Str.occurrences x y 0 x.length (x.length + 1)).isEmpty
  ·refine call_meets F.slot_str_split (typeIs_str _ _ _) F.entry_str_split (F.args_str_split_2 _ _) (meets_str_split_sep x y t u h1 hy hf (by omega) hn) ?_;show wants Q E _ { s with toks:=_,heap:=s.heap.push { cls:=.type "list",data:=.seq (strsFrom s.toks (Builtin.Str.partsBetween x (Builtin.Str.occurrences x y 0 x.length (x.length + 1)) y.length)).toArray } };rw [strsFrom_eq];exact h (numbered s.toks _) _ ((numbered_texts _ _).trans ((if_neg (ne_true_of_eq_false h1)).trans (if_neg (ne_true_of_eq_false hf))).symm)
  ·exact call_meets F.slot_str_split (typeIs_str _ _ _) F.entry_str_split (F.args_str_split_2 _ _) (meets_str_split_not_found x y t u h1 hy hf)
    (h [(x,t)] s.toks ((if_neg (ne_true_of_eq_false h1)).trans (if_pos hf)).symm)
 ·exact call_meets F.slot_str_split (typeIs_str _ _ _) F.entry_str_split (F.args_str_split_2 _ _) (meets_str_split_cannot_occur x y t u h1)
   (h [(x,t)] s.toks (if_pos h1).symm)
section
variable {X:Cx}
noncomputable def vI:V→List V→Hp→VK→Prop:=fun x vs H Q=>∃ z y,x=.str z∧vs=[.str y]∧y.length ≠ 0∧z.length + 2 ≤ sizeLine∧(Txt.split z y).length ≤ sizeLine∧∀ p,H p=none→Q (.ref p) (upd H p (.lst (Lc (Txt.split z y))))
theorem az:MtR X "str.split" vI:=by
 intro pins s σ H x xs v us Q I rx rv h;obtain ⟨z,y,rfl,rfl,hy,hz,hn,q⟩:=h;obtain ⟨t,rfl⟩:=rx;obtain ⟨u,rfl,ru⟩:=Zn rv;obtain ⟨tu,rfl⟩:=ru;refine ZB (by simpa using hy) (fun l k hl=>?_) hz;refine ⟨.ref s.heap.objs.size,_,I.laid (t':=k) (o:=.lst (Lc (Txt.split z y))) (fun b o e=>Heap.get?_push_of_some _ e) (Nat.le_refl _) ⟨by unfold Lc;rw [List.length_map];exact hn,strValues l,0,by rw [← hl];exact Nw l,Heap.get?_push_size _ rfl⟩,rfl,q _ (I.hok.fresh (Nat.le_refl _))⟩
theorem pE:Fj X (.type "int") (fun xs H Q=>∃ z n,xs=[.str z]∧intText? z=some n∧z.length ≤ 640∧Q (.int n) H):=by
 intro pins s σ H xs us Q I r h;obtain ⟨z,n,rfl,hn,hz,q⟩:=h;obtain ⟨u,rfl,t,rfl⟩:=Zn r;exact PySem.W.KIN.call_text hn hz ⟨.int n,H,I.tok _,⟨_,rfl⟩,q⟩
theorem fw:∀ {bs:List Bool} {us:List Value},pd (bs.map V.bl) us→us=bs.map Value.bool
 | [],_,.nil=>rfl
 | b :: bs,_,.cons r t=>by
  have e:_=Value.bool b:=r;rw [e,fw t];rfl
theorem yy {A:Around} (bs:List Bool):TruthOf X.prog X.w A (fun i v=>(bs.map Value.bool).toArray[i]? = some v) (fun i=>bs.getD i true):=by
 intro i v s Q E hP hQ;have e:(bs.map Value.bool)[i]? = some v:=by simpa using hP
 rw [List.getElem?_map] at e;cases q:bs[i]? with
 | none=>rw [q] at e;cases e
 | some b=>
  rw [q] at e;have e':Value.bool b=v:=Option.some.inj e;subst e';refine wpAny_truthy_bool ?_;have:bs.getD i true=b:=by simp [List.getD,q]
  have hQ':Q (bs.getD i true) s:=hQ;rw [this] at hQ';exact hQ'
theorem AF (bs:List Bool):(List.range bs.length).all (fun i=>bs.getD i true)=bs.all id:=by
 rw [Bool.eq_iff_iff];simp only [List.all_eq_true,List.mem_range,id];constructor
 ·intro h b hb;obtain ⟨i,hi,e⟩:=List.mem_iff_getElem.mp hb;have:=h i hi;simp [List.getD,hi,e] at this;exact this
 ·intro h i hi;simp [List.getD,hi];exact h _ (List.getElem_mem hi)
theorem YG (hc:X.calm=true):Fj X (.builtin "all") (fun xs H Q=>∃ (p:Addr) (bs:List Bool),xs=[.ref p]∧SqL X.K H p (bs.map V.bl)∧Q (.bl (bs.all id)) H):=by
 intro pins s σ H xs us Q I r h;obtain ⟨p,bs,rfl,hq,q⟩:=h;obtain ⟨u,rfl,ru⟩:=Zn r;cases ru;obtain ⟨its,rv,pl,_⟩:=I.list hq;have e:=fw rv;subst e;refine call_all_walk (wpAny_pyIter_list pl.isList ?_);have hne:p ≠ s.heap.objs.size:=Nat.ne_of_lt (by obtain ⟨o,_,ho,_⟩:=pl;exact Heap.lt_size ho);refine ⟨s.heap.objs.size,_,_,_,_,_,fun i=>bs.getD i true,rfl,Walks.list (show X.A.in1.handled=none from I.ok.hd hc) _ p hne (bs.map Value.bool).toArray,⟨⟨_,Heap.get?_push_size _ rfl,rfl,rfl⟩,pl.isList.at fun o e=>Heap.get?_push_of_some _ e⟩,yy bs,fun h' tk kk=>?_⟩;refine ⟨.bl (bs.all id),H,I.kept fun b o e=>kk b o (by simpa using Nat.ne_of_lt (Heap.lt_size e)) (Heap.get?_push_of_some _ e),?_,q⟩;show Value.bool _=Value.bool _;rw [show (bs.map Value.bool).toArray.size=bs.length by simp,AF]
theorem ag:Fj X (.builtin "isinstance") (fun xs H Q=>∃ x T t b,xs=[x,.ty T]∧JA X.K H x t∧PySem.W.kitOne X.K t (.type T)=some b∧Q (.bl b) H):=by
 intro pins s σ H xs us Q I r h;obtain ⟨x,T,t,b,rfl,ty,e,q⟩:=h;obtain ⟨u,u2,rfl,rx,r2⟩:=eK r;cases r2;exact BF I rx ty e fun tk=>⟨.bl b,H,I.tok _,rfl,q⟩
end
end L2
namespace L2
open PySem PySem.Spec PyProof.Rows
theorem Bi {X:Cx} {N:List Str} (h:N.Nodup) (e:X.N=N):X.N.Nodup:=e ▸ h
noncomputable def xD (sc scope:Scope):Bool:=
 (scope.kind == .function) && scope.names.all (fun y=>y.2 != .cell) && scope.names.all (fun y=>y.2 != .free || sc.names.lookup y.1 == some .cell || sc.names.lookup y.1 == some .free) &&
  scope.names.all (fun y=>y.2 != .local || scope.names.lookup y.1 == some .local)
theorem Ec {env:Env} {sc scope:Scope} (he:env.scope=sc) (h:xD sc scope=true):Xo env scope:=by
 subst he;unfold xD at h;simp only [Bool.and_eq_true,List.all_eq_true] at h;obtain ⟨⟨⟨h1,h2⟩,h3⟩,h4⟩:=h;refine ⟨by simpa using h1,fun y hy e=>?_,fun y hy e=>?_,fun y hy e=>?_⟩
 ·have:=h2 y hy;rw [e] at this;exact absurd this (by decide)
 ·have:=h3 y hy;rw [e] at this;simp only [Bool.or_eq_true] at this;rcases this with (z | z) | z
  ·exact absurd z (by decide)
  ·exact .inl (show env.scope.names.lookup y.1=some .cell by simpa using z)
  ·exact .inr (show env.scope.names.lookup y.1=some .free by simpa using z)
 ·have:=h4 y hy;rw [e] at this;simp only [Bool.or_eq_true] at this;rcases this with z | z
  ·exact absurd z (by decide)
  ·simpa using z
noncomputable def MP (M:List Str) (scope:Scope) (N:List Str) (sel:List (Option Nat)):Bool:=
 sel.length == N.length && (sel.zip N).all fun p=>match p.1 with | none=>true | some j=>M[j]? == some p.2 && scope.names.lookup p.2 == some .free
theorem kd {M:List Str} {scope:Scope} {N:List Str} {sel:List (Option Nat)} (h:MP M scope N sel=true):BE M scope N sel:=by
 unfold MP at h;simp only [Bool.and_eq_true,List.all_eq_true] at h;refine ⟨by simpa using h.1,fun i j x e1 e2=>?_⟩;have hm:(some j,x) ∈ sel.zip N:=by
  rw [List.mem_iff_getElem?];exact ⟨i,by rw [List.getElem?_zip_eq_some];exact ⟨e1,e2⟩⟩
 have:=h.2 _ hm;simp only [Bool.and_eq_true] at this;exact ⟨by simpa using this.1,by simpa using this.2⟩
noncomputable def noT:HO→Bool
 | .dT _=>false
 | .frz _ u=>noT u
 | _=>true
noncomputable def NoT (H:Hp):Prop:=∀ b o,H b=some o→noT o=true
theorem Bd.back {P:Program} {w:World} {H H':Hp} {h h':Heap} {a:Addr}:∀ (o:HO),noT o=true→Bd P w H' h' a o→Bd P w H h a o→Bd P w H h' a o
 | .lst _,_,x,_=>x
 | .tup _,_,x,_=>x
 | .dK _,_,x,_=>x
 | .dT _,e,_,_=>absurd e (by unfold noT;decide)
 | .set _ _,_,x,_=>x
 | .ins _ _ _,_,x,y=>⟨y.1,x.2⟩
 | .own _,_,x,_=>x
 | .xd _,_,x,_=>x
 | .met _ _,_,x,_=>x
 | .rng _ _,_,x,_=>x
 | .frz ob u,e,x,y=>⟨x.1,Bd.back u (by unfold noT at e;exact e) x.2 y.2⟩
 | .tbl _,_,x,_=>x
 | .ext _,_,x,_=>x
section
variable {P:Program} {w:World} {K:PySem.W.Frag} {mg:Str→Option Value} {base:Heap}
theorem Zb.forget {k:Nat} {f:Addr} {fd:FuncData} {ps:List Str} {sp sp':Sp} (F:Zb P w K mg base CX0 k f fd ps sp)
  (h:∀ vs H Q E,sp' vs H Q E→NoT H∧sp vs H (fun v H'=>ac H H'∧Q v H) E):Zb P w K mg base CX0 k f fd ps sp':=by
 refine ⟨fun vs H Q E q=>F.len vs H _ E (h vs H Q E q).2,fun A outer s H args us vs Q E hr he hb hv hs=>?_⟩;obtain ⟨nt,q⟩:=h vs H Q E hs;refine codeAny_mono (F.run A outer s H args us vs _ E hr he hb hv q) fun r s' hq=>?_
 cases r with
 | error e=>exact hq
 | ok fl=>
  cases fl with
  | next=>exact hq
  | brk=>exact hq
  | cont=>exact hq
  | ret u=>
   obtain ⟨v,H',os,bare,un,hok,rv,sm,q'⟩:=hq;exact ⟨v,H,os,bare,⟨un.keep,un.slot,fun _ _ _ n _=>n,un.there,fun _ _ z=>z,fun _ _ _ z=>z,fun _ ps z=>⟨#[],by rw [z];simp⟩⟩,fun a o e=>(hok a o (sm a o e)).back o (nt a o e) (he.hok a o e),rv,q'⟩
end
theorem gb {H:Hp} {p:Addr} {o:HO} (h:H p=none):ac H (upd H p o):=fun b u q=>by rw [Ab (Lb q h)];exact q
theorem ac.updN {H H1:Hp} {p:Addr} {o:HO} (s:ac H H1) (h:H p=none):ac H (upd H1 p o):=fun b u q=>by rw [Ab (Lb q h)];exact s b u q
structure Sc (K:PySem.W.Frag) (a:Addr) (ns:List Int) (H:Hp):Prop where
 sq:(∃ o,H a=some (.frz o (.lst (ns.map V.int))))∨∃ (o:Obj) (its:Array Value) (n:Nat),K.lookup a=some o∧o.cls=.type "list" ∧ o.dict=none∧o.data=.seq its n∧its.size ≤ sizeLine∧pd (ns.map V.int) its.toList
 nt:NoT H
section
variable {K:PySem.W.Frag} {a p:Addr} {ns:List Int} {H H':Hp} {o:HO}
theorem Sc.seq (s:Sc K a ns H):SqL K H a (ns.map V.int):=by
 rcases s.sq with ⟨o,h⟩ | h
 ·exact .inl (.inr ⟨o,h⟩)
 ·exact .inr h
theorem Sc.new (s:Sc K a ns H) (hp:H p=none) (ho:noT o=true:=by rfl):Sc K a ns (upd H p o):=by
 refine ⟨?_,fun b u e=>?_⟩
 ·rcases s.sq with ⟨ob,h⟩ | h
  ·exact .inl ⟨ob,by rw [Ab (Lb h hp)];exact h⟩
  ·exact .inr h
 ·by_cases hb:b=p
  ·subst hb;rw [ib] at e;cases e;exact ho
  ·rw [Ab hb] at e;exact s.nt b u e
theorem Sc.set {u:HO} (s:Sc K a ns H) (hp:H p=some u) (hu:∀ ob z,u ≠ .frz ob z) (ho:noT o=true:=by rfl):Sc K a ns (upd H p o):=by
 refine ⟨?_,fun b x e=>?_⟩
 ·rcases s.sq with ⟨ob,h⟩ | h
  ·refine .inl ⟨ob,?_⟩;have hne:a ≠ p:=fun z=>by subst z;rw [hp] at h;exact hu _ _ (Option.some.inj h)
   rw [Ab hne];exact h
  ·exact .inr h
 ·by_cases hb:b=p
  ·subst hb;rw [ib] at e;cases e;exact ho
  ·rw [Ab hb] at e;exact s.nt b x e
theorem Sc.of_only (hO:JN H) (hS:SqL K H a (ns.map V.int)):Sc K a ns H:=by
 refine ⟨?_,fun b u e=>?_⟩
 ·rcases hS with (h | ⟨o,h⟩) | h
  ·rcases hO a with z | ⟨ob,xs,z⟩
   ·rw [h] at z;cases z
   ·rw [h] at z;cases z
  ·exact .inl ⟨o,h⟩
  ·exact .inr h
 ·rcases hO b with z | ⟨ob,xs,z⟩
  ·rw [e] at z;cases z
  ·rw [e] at z;cases z;rfl
end
noncomputable def YL (K:PySem.W.Frag):Sp:=fun vs H Q _=>∃ (a:Addr) (ns:List Int),vs=[.ref a]∧Sc K a ns H∧ns.length ≤ 63∧∀ H',Q (.bl true) H'
theorem Nb:bootBuiltins "len"=some (.builtin "len"):=PySem.boot_len
theorem FB:bootBuiltins "all"=some (.builtin "all"):=by decide +kernel
theorem oB:bootBuiltins "min"=some (.builtin "min"):=by decide +kernel
theorem Do:bootBuiltins "max"=some (.builtin "max"):=by decide +kernel
theorem WB:bootBuiltins "sum"=some (.builtin "sum"):=by decide +kernel
theorem jc:bootBuiltins "isinstance"=some (.builtin "isinstance"):=by decide +kernel
theorem Il:bootBuiltins "int"=some (.type "int"):=by decide +kernel
theorem Rn:bootBuiltins "str"=some (.type "str"):=by decide +kernel
theorem Cm:bootBuiltins "bool"=some (.type "bool"):=by decide +kernel
theorem Dm:bootBuiltins "list"=some (.type "list"):=by decide +kernel
theorem zk:bootBuiltins "tuple"=some (.type "tuple"):=by decide +kernel
theorem Ly:bootBuiltins "dict"=some (.type "dict"):=by decide +kernel
theorem Rd.same {H H':Hp} {a:Addr} {o:HO} (h:Rd H a o) (s:ac H H'):Rd H' a o:=by
 rcases h with h | ⟨ob,h⟩
 ·exact .inl (s _ _ h)
 ·exact .inr ⟨ob,s _ _ h⟩
theorem SqL.same {K:PySem.W.Frag} {H H':Hp} {a:Addr} {xs:List V} (h:SqL K H a xs) (s:ac H H'):SqL K H' a xs:=by
 rcases h with h | h
 ·exact .inl (h.same s)
 ·exact .inr h
theorem SqT.same {K:PySem.W.Frag} {H H':Hp} {a:Addr} {xs:List V} (h:SqT K H a xs) (s:ac H H'):SqT K H' a xs:=by
 rcases h with h | h
 ·exact .inl (h.same s)
 ·exact .inr h
theorem NoT.upd {H:Hp} {p:Addr} {o:HO} (h:NoT H) (ho:noT o=true:=by rfl):NoT (upd H p o):=fun b u e=>by
 by_cases hb:b=p
 ·subst hb;rw [ib] at e;cases e;exact ho
 ·rw [Ab hb] at e;exact h b u e
theorem Sc.same {K:PySem.W.Frag} {a:Addr} {ns:List Int} {H H':Hp} (s:Sc K a ns H) (sm:ac H H') (nt:NoT H'):Sc K a ns H':=by
 refine ⟨?_,nt⟩;rcases s.sq with ⟨o,h⟩ | h
 ·exact .inl ⟨o,sm _ _ h⟩
 ·exact .inr h
end L2
namespace L2
open PySem PySem.Spec PyProof.Rows
structure jP (K:PySem.W.Frag) (C:Addr) (m:Str) (f:Addr):Prop where
 rd:PySem.W.readsIn K C (.type "type")=true
 fd:PySem.W.findCls K (.ref C) (.type "type") m=some (.val (.ref f))
 ga:PySem.W.specialIn K (.ref C) "__getattribute__"=some (some (.builtin "type.__getattribute__"))
 kp:PySem.W.keepIn K (.ref f)=true
structure eL (P:Program) (w:World) (K:PySem.W.Frag) (mg:Str→Option Value) (base:Heap) (CX:CXT) (k:Nat) (OK:Addr→Prop) (m:Str) (ps:List Str) (SPV:Addr→Sp):Prop where
 ok:∀ C,OK C→∃ f fd,Cls K C∧su K C m f∧Zb P w K mg base CX k f fd ps (SPV C)∧gc K fd ps []
noncomputable def HJ (OK:Addr→Prop) (m:Str) (SPV:Addr→Sp) (E:XK) (ta:TE) (t:TA):TE:=fun σ H Q=>ta σ H fun x H1=>∃ a C dx fs,x=.ref a∧H1 a=some (.ins C dx fs)∧OK C∧fs.lookup m=none ∧
 t σ H1 fun vs H2=>SPV C (x :: vs) H2 Q E
section
variable {X:Cx} {CX:CXT} {k:Nat} {f C:Addr} {fd:FuncData} {ps:List Str} {sp:Sp} {dvs:List V} {ds:List Value} {E:XK} {x m:Str} {p pos apos:Pos} {e o:Expr} {es:List Expr} {ta:TE} {t:TA}
theorem Av {pl:Sem Bool} (hg:Gl X x) (hm:X.mg x=some (.ref C)) (c:jP X.K C m f) (F:Zb X.prog X.w X.K X.mg X.base CX k f fd ps sp) (hr:Yj k X.A) (hb:gc X.K fd ps ds) (hd:pd dvs ds) (hx:Pm CX X E) (ha:PA X (e :: es) t)
  (hdb:(x == ("__debug__" : Str))=false:=by decide) (hst:starEach (e :: es) X.env=(false,eval e X.env) :: starEach es X.env:=by rfl) (hpl:(backTo pos (starEach es X.env)).any (·.1)=false:=by rfl)
  (ht:eval (.Call (.Attribute (.Name x p) m apos) (e :: es) [] pos) X.env=(do
   let ov ← eval (.Name x p) X.env
   standAt apos.atName
   let (f,first) ← holding [ov] (getMethod ov m pl)
   callWith pos f first (backTo pos (starEach (e :: es) X.env)) (backToKw pos (keywordEach [] X.env))):=by rfl) :
  PE X (.Call (.Attribute (.Name x p) m apos) (e :: es) [] pos) (jH sp dvs E t):=by
 intro pins s σ H Q I h;refine PySem.W.methodCall_KW (pl:=pl) (xv I hg hm ?_ hdb) ht;refine PySem.W.method_cls I.kIn c.ga (PySem.W.cls_value I.kIn c.rd c.fd rfl ?_);have I1:=I.tok (s.toks + 1);refine PySem.W.callWith_K (first:=[]) (h₀:=X.base) I.ok.mod.kin c.kp (thn (ha pos pins _ σ H _ I1 h) fun us s2 ⟨vs,H2,I2,r,q2⟩=>⟨I2.kIn,?_⟩) hst hpl;exact Jw F hr hb hd hx I2 r q2
variable {OK:Addr→Prop} {SPV:Addr→Sp}
theorem Bx {pl:Sem Bool} (he:PE X o ta) (V:eL X.prog X.w X.K X.mg X.base CX k OK m ps SPV) (hr:Yj k X.A) (hx:Pm CX X E)
  (ht:eval (.Call (.Attribute o m apos) [] [] pos) X.env=(do
   let ov ← eval o X.env
   standAt apos.atName
   let (f,first) ← holding [ov] (getMethod ov m pl)
   callWith pos f first (backTo pos (starEach [] X.env)) (backToKw pos (keywordEach [] X.env))):=by rfl) :
  PE X (.Call (.Attribute o m apos) [] [] pos) (HJ OK m SPV E ta UN):=by
 intro pins s σ H Q I h;refine PySem.W.methodCall_KW (pl:=pl) (thn (he pins s σ H _ I h) fun u s1 hZ1=>?_) ht;obtain ⟨x,H1,I1,rx,a,C,dx,fs,ex,ea,ok,l,q⟩:=hZ1;subst ex;obtain rfl:u=Value.ref a:=rx;obtain ⟨f,fd,c,hm,F,hb⟩:=V.ok C ok;refine ao I1 ea c hm l ?_;exact PySem.W.callWith_K0 (first:=[.ref a]) I1.kIn hm.kp (Jw (us:=[.ref a]) (vs:=[.ref a]) (dvs:=[]) F hr hb .nil hx I1 (.cons rfl .nil) q)
end
section
variable {X:Cx} {x:Str} {p pos:Pos} {i:Expr} {ty:TE} {u:Value} {kvs:List (Str × V)}
end
theorem je {f:Str} {v:V}:∀ {fs:List (Str × V)} (ks:List Str),fs.map (·.1)=ks→ks.contains f=false→sj f v fs=fs ++ [(f,v)]
 | [],_,_,_=>rfl
 | (g,y) :: r,ks,e,h=>by
  cases e;rw [List.map_cons,List.contains_cons] at h;have h1:=(Bool.or_eq_false_iff.mp h);have hne:¬ g=f:=fun z=>by
   have:=h1.1;rw [z] at this;simp at this
  show (if g=f then _ else _)=_;rw [if_neg hne,je _ rfl h1.2];rfl
theorem Cp {f:Str} {v:V} {fs:List (Str × V)} {n:Nat} (h:fs.length < n):(sj f v fs).length < n + 1:=Nat.lt_of_le_of_lt (tm f v fs) (by omega)
theorem Ee {f:Str} {v:V}:∀ {fs:List (Str × V)} (ks:List Str) (i:Nat),fs.map (·.1)=ks→ks.findIdx? (· == f)=some i→fs[i]? = some (f,v)→fs.lookup f=some v
 | [],_,_,_,_,h=>by simp at h
 | (g,y) :: r,ks,i,e,h,hv=>by
  cases e;rw [List.map_cons,List.findIdx?_cons] at h;rw [List.lookup];by_cases e:g=f
  ·subst e;rw [beq_self_eq_true,if_pos rfl] at h;cases h;have:(g,y)=(g,v):=by simpa using hv
   cases this;rw [beq_self_eq_true]
  ·rw [beq_eq_false_iff_ne.mpr e,if_neg (by decide)] at h;obtain ⟨j,hj,rfl⟩:=Option.map_eq_some_iff.mp h;rw [beq_eq_false_iff_ne.mpr (fun z=>e z.symm)];exact Ee _ j rfl hj (by simpa using hv)
theorem Wm {f:Str}:∀ {fs:List (Str × V)} (ks:List Str),fs.map (·.1)=ks→ks.contains f=false→fs.lookup f=none
 | [],_,_,_=>rfl
 | (g,y) :: r,ks,e,h=>by
  cases e;rw [List.map_cons,List.contains_cons] at h;have h1:=(Bool.or_eq_false_iff.mp h);rw [List.lookup,h1.1];exact Wm _ rfl h1.2
end L2
namespace L2
open PySem PySem.Spec PyProof.Rows
theorem Inv.turnedL {X:Cx} {pins:List (Addr × Obj)} {σ:St} {H:Hp} {s:Shared} {h':Heap} {t':Nat} {fp:List Addr} (I:Inv X pins σ H s) (k:∀ b o,b ∉ fp→s.heap.get? b=some o→h'.get? b=some o)
  (hf:∀ b ∈ fp,Uu X pins H b):Inv X pins σ H { s with heap:=h',toks:=t' }:=by
 have nit:∀ b u,H b=some u→b ∉ fp:=fun b u e z=>by rw [(hf b z).1] at e;cases e
 refine I.step (g':=s.gens) (d':=s.drawn) (ch:=fp) (fun b hb=>?_) (fun b o _ _ hc e _=>k b o hc e) (fun b o _ _ hc e _=>⟨o.slots,k b o hc e⟩) (fun _ _ _ _ n=>n)
  (fun b o hc e=>⟨o,k b o hc e⟩) (fun _ _ e=>e) (fun _ _ _ e=>e) (fun b ps e=>⟨#[],by rw [e];simp⟩) (fun m hm=>?_) (fun b u e=>?_) I.bare
 ·obtain ⟨f0,f1,f2,f3,f4,f5⟩:=hf b hb;exact ⟨f3,f1,f4,f5⟩
 ·obtain ⟨o,es,ep,ho,r⟩:=hm;exact ⟨o,es,ep,k _ o (fun z=>(hf _ z).2.1 rfl) ho,r⟩
 ·refine (I.hok b u e).stay (fun c v hc q=>k c v ?_ q) (fun _ q=>q) fun _ _ q=>q
  rcases hc with z | z
  ·rw [z];exact nit b u e
  ·exact nit c _ z
noncomputable def Ite (K:PySem.W.Frag) (a:Addr):It:=
 ⟨fun i H=>∃ xs x,SqL K H a xs∧xs[i]? = some x,fun i H v H'=>∃ p y,H p=none∧v=.ref p∧(∀ xs,SqL K H a xs→xs[i]? = some y)∧H'=upd H p (.tup [.int i,y]),fun i H=>∃ xs,SqL K H a xs∧xs.length ≤ i⟩
theorem EF {P:Program} {w:World} {K:PySem.W.Frag} {es:List Expr} {k} {pos:Pos} (a e it:Addr) (hne:e ≠ it) :
  rG P w K (.Tuple es k pos) (Ite K a) [e,it] e (fun i h=>∃ old,IsEnum h e it ((i:Nat):Int) old∧h.IsListIter it a i) where
 mem:=by simp
 obj:=fun i h ⟨old,he,hi⟩ b hb=>by
  simp only [List.mem_cons,List.not_mem_nil,or_false] at hb;rcases hb with rfl | rfl
  ·exact ⟨_,he,fun v z=>by
    have z':Data.fields _=Data.cell v:=z;cases z'⟩
  ·obtain ⟨o,q,c,d⟩:=hi;exact ⟨o,q,fun v z=>by rw [d] at z;cases z⟩
 keep:=fun i h h' ⟨old,he,hi⟩ k=>⟨old,k e (by simp) _ he,hi.at fun o q=>k it (by simp) o q⟩
 item:=by
  intro X hP hw hK hc i pins s σ H E I hf ⟨old,he,hi⟩ hg;subst hP hw hK;obtain ⟨xs,x,hq,hx⟩:=hg;obtain ⟨its,rv,p,hz⟩:=I.list hq;obtain ⟨u,hu,ru⟩:=rv.get hx;refine wpAny_pyNext_enum_item he hi p.isList (x:=u) (by simpa using hu) hne fun h1 he1 hi1 ht1 hz1 hk1=>⟨_,rfl,?_⟩
  refine wpAny_letOwnedTupleGo_enum he1 fun h2 he2 hs2=>?_
  replace hs2:Heap.SameBut e h1 h2:=hs2;have hel:e < s.heap.objs.size:=Heap.lt_size he;have hk:∀ b o,b ∉ [e,it]→s.heap.get? b=some o→h2.get? b=some o:=fun b o hb q=>by
   simp only [List.mem_cons,List.not_mem_nil,or_false,not_or] at hb;exact hs2.extBut _ _ hb.1 (hk1 b o hb.1 hb.2 q)
  have I1:Inv X pins σ H { s with heap:=h2,toks:=s.toks + 1 }:=I.turnedL hk hf;have fo:Uu X pins H s.heap.objs.size:=I.fpOk (Nat.le_refl _) (I.hok.fresh (Nat.le_refl _));have ht2:h2.get? s.heap.objs.size=some { cls:=.type "tuple",data:=.seq #[.int i s.toks,u] }:=(hs2.2 _ (Nat.ne_of_gt hel)).trans ht1;have I2:=I1.adopt (o:=.tup [.int i,x]) fo ⟨⟨by show 2 ≤ sizeLine;decide,_,ht2,rfl⟩,[.int i s.toks,u],.cons ⟨_,rfl⟩ (.cons ru .nil),⟨_,ht2,rfl,_,rfl⟩⟩;refine ⟨.ref s.heap.objs.size,_,I2,rfl,⟨_,x,fo.1,rfl,fun ys hy=>by rw [I.list_inj hy hq];exact hx,rfl⟩,⟨u,?_,?_⟩,fun b hb=>?_⟩
  ·have e1:((i + 1:Nat):Int)=(i:Int) + 1:=by omega
   rw [e1];exact he2
  ·exact hi1.extBut hs2.extBut (Ne.symm hne)
  ·have hlt:b < s.heap.objs.size:=by
    simp only [List.mem_cons,List.not_mem_nil,or_false] at hb;rcases hb with rfl | rfl
    ·exact hel
    ·obtain ⟨o,q,_⟩:=hi;exact Heap.lt_size q
   rw [Ab (Nat.ne_of_lt hlt)];exact (hf b hb).1
 done:=by
  intro X hP hw hK hc i pins s σ H E I hf ⟨old,he,hi⟩ hg;subst hP hw hK;obtain ⟨xs,hq,hx⟩:=hg;obtain ⟨its,rv,p,hz⟩:=I.list hq;have hl:=rv.length;exact wpAny_pyNext_enum_end (I.ok.hd hc) he hi p.isList (by simp;omega) fun h' eb=>⟨rfl,I.turnedL (t':=s.toks) (fun b o hb q=>eb b o (fun z=>hb (by simp [z])) q) hf⟩
 self:=fun _ _ _ _ _ ⟨_,he,_⟩ h=>wpAny_pyIter_enum he h
theorem lm:bootBuiltins "enumerate"=some (.type "enumerate"):=by decide +kernel
theorem zG:bootBuiltins "zip"=some (.type "zip"):=by decide +kernel
noncomputable def Itz (K:PySem.W.Frag) (a b:Addr):It:=
  ⟨fun i H=>∃ xs ys x y,SqL K H a xs∧SqL K H b ys∧xs[i]? = some x∧ys[i]? = some y,
   fun i H v H'=>∃ p x y,H p=none∧v=.ref p∧(∀ xs,SqL K H a xs→xs[i]? = some x)∧(∀ ys,SqL K H b ys→ys[i]? = some y)∧H'=upd H p (.tup [x,y]),
   fun i H=>∃ xs ys,SqL K H a xs∧SqL K H b ys∧(xs.length ≤ i∨ys.length ≤ i)⟩
theorem Qg {h:Heap} {a b:Addr} {o o':Obj} {c d:String} (ha:h.get? a=some o) (hb:h.get? b=some o') (hc:o.cls=.type c) (hd:o'.cls=.type d) (n:c ≠ d):a ≠ b:=fun z=>by
 subst z;rw [ha] at hb;cases hb;rw [hc] at hd;cases hd;exact n rfl
theorem zw {h:Heap} {z TI TO i1 i2 l1 l2:Addr} {f0 u1 u2 v1 v2:Value} {k1 k2:Nat} {xs ys:Array Value} (hz:IsZip h z TI TO f0) (hTI:IsPair h TI u1 u2) (hTO:IsPair h TO v1 v2) (h1:h.IsListIter i1 l1 k1) (h2:h.IsListIter i2 l2 k2)
  (g1:h.IsList l1 xs) (g2:h.IsList l2 ys) (nT:TI ≠ TO) (ni:i1 ≠ i2):ZipApart z TI TO i1 i2 l1 l2:=by
 obtain ⟨o1,e1,c1,_⟩:=h1;obtain ⟨o2,e2,c2,_⟩:=h2;obtain ⟨p1,f1,d1,_⟩:=g1;obtain ⟨p2,f2,d2,_⟩:=g2;exact ⟨Qg hTI hz rfl rfl (by decide),Qg hTO hz rfl rfl (by decide),Qg e1 hz c1 rfl (by decide),Qg e2 hz c2 rfl (by decide),nT,Qg hTI e1 rfl c1 (by decide),Qg hTI e2 rfl c2 (by decide),
  Qg hTO e1 rfl c1 (by decide),Qg hTO e2 rfl c2 (by decide),ni,Qg f1 hz d1 rfl (by decide),Qg f1 hTO d1 rfl (by decide),Qg f1 e1 d1 c1 (by decide),Qg f1 e2 d1 c2 (by decide),
  Qg f2 hz d2 rfl (by decide),Qg f2 hTO d2 rfl (by decide),Qg f2 e1 d2 c1 (by decide),Qg f2 e2 d2 c2 (by decide)⟩
theorem MG {P:Program} {w:World} {K:PySem.W.Frag} {es:List Expr} {k} {pos:Pos} (a b z TI TO i1 i2:Addr) (nT:TI ≠ TO) (ni:i1 ≠ i2) :
  rG P w K (.Tuple es k pos) (Itz K a b) [z,TI,TO,i1,i2] z (fun i h=>IsZip h z TI TO .none∧IsPair h TI (.ref i1) (.ref i2)∧(∃ u v,IsPair h TO u v)∧h.IsListIter i1 a i∧h.IsListIter i2 b i) where
 mem:=by simp
 obj:=fun i h ⟨hz,hTI,⟨u,v,hTO⟩,⟨o1,e1,_,d1⟩,o2,e2,_,d2⟩ c hc=>by
  simp only [List.mem_cons,List.not_mem_nil,or_false] at hc;rcases hc with rfl | rfl | rfl | rfl | rfl
  ·exact ⟨_,hz,fun v z=>by
    have z':Data.fields _=Data.cell v:=z;cases z'⟩
  ·exact ⟨_,hTI,fun v z=>by
    have z':Data.seq _ _=Data.cell v:=z;cases z'⟩
  ·exact ⟨_,hTO,fun v z=>by
    have z':Data.seq _ _=Data.cell v:=z;cases z'⟩
  ·exact ⟨o1,e1,fun v z=>by rw [d1] at z;cases z⟩
  ·exact ⟨o2,e2,fun v z=>by rw [d2] at z;cases z⟩
 keep:=fun i h h' ⟨hz,hTI,⟨u,v,hTO⟩,h1,h2⟩ k=>⟨k z (by simp) _ hz,k TI (by simp) _ hTI,⟨u,v,k TO (by simp) _ hTO⟩,h1.at fun o q=>k i1 (by simp) o q,h2.at fun o q=>k i2 (by simp) o q⟩
 item:=by
  intro X hP hw hK hc i pins s σ H E I hf ⟨hz,hTI,⟨u,v,hTO⟩,h1,h2⟩ hg;subst hP hw hK;obtain ⟨xs,ys,x,y,hq,hr,hx,hy⟩:=hg;obtain ⟨its,rv,p,hz1⟩:=I.list hq;obtain ⟨jts,rw',p',hz2⟩:=I.list hr;obtain ⟨ux,hu,ru⟩:=rv.get hx;obtain ⟨uy,hv,rv'⟩:=rw'.get hy;have D:=zw hz hTI hTO h1 h2 p.isList p'.isList nT ni;refine wpAny_pyNext_zip_item D hz hTI hTO h1 h2 p.isList p'.isList (x:=ux) (y:=uy) (by simpa using hu) (by simpa using hv) fun g gz gTO g1 g2 gT gs gk=>⟨_,rfl,?_⟩
  refine wpAny_letOwnedTupleGo_zip gz fun g' gz' hs'=>?_
  replace hs':Heap.SameBut z g g':=hs';have hzl:z < s.heap.objs.size:=Heap.lt_size hz;have hk:∀ c o,c ∉ [z,TI,TO,i1,i2]→s.heap.get? c=some o→g'.get? c=some o:=fun c o hc q=>by
   simp only [List.mem_cons,List.not_mem_nil,or_false,not_or] at hc;exact hs'.extBut _ _ hc.1 (gk c o hc.1 hc.2.2.1 hc.2.2.2.1 hc.2.2.2.2 q)
  have I1:Inv X pins σ H { s with heap:=g',toks:=s.toks }:=I.turnedL hk hf;have fo:Uu X pins H s.heap.objs.size:=I.fpOk (Nat.le_refl _) (I.hok.fresh (Nat.le_refl _));have ht2:IsPair g' s.heap.objs.size ux uy:=(hs'.2 _ (Nat.ne_of_gt hzl)).trans gT;have I2:=I1.adopt (o:=.tup [x,y]) fo ⟨⟨by show 2 ≤ sizeLine;decide,_,ht2,rfl⟩,[ux,uy],.cons ru (.cons rv' .nil),⟨_,ht2,rfl,_,rfl⟩⟩;refine ⟨.ref s.heap.objs.size,_,I2,rfl,⟨_,x,y,fo.1,rfl,fun ys hy=>by rw [I.list_inj hy hq];exact hx,fun zs hzs=>by rw [I.list_inj hzs hr];exact hy,rfl⟩,⟨gz',?_,⟨_,_,hs'.extBut _ _ D.TOz gTO⟩,g1.extBut hs'.extBut D.i1z,g2.extBut hs'.extBut D.i2z⟩,fun b hb=>?_⟩
  ·exact hs'.extBut _ _ D.TIz (gk _ _ D.TIz D.TITO D.TIi1 D.TIi2 hTI)
  ·have hlt:b < s.heap.objs.size:=by
    obtain ⟨o1,e1,_⟩:=h1;obtain ⟨o2,e2,_⟩:=h2;simp only [List.mem_cons,List.not_mem_nil,or_false] at hb;rcases hb with rfl | rfl | rfl | rfl | rfl
    ·exact hzl
    ·exact Heap.lt_size hTI
    ·exact Heap.lt_size hTO
    ·exact Heap.lt_size e1
    ·exact Heap.lt_size e2
   rw [Ab (Nat.ne_of_lt hlt)];exact (hf b hb).1
 done:=by
  intro X hP hw hK hc i pins s σ H E I hf ⟨hz,hTI,⟨u,v,hTO⟩,h1,h2⟩ hg;subst hP hw hK;obtain ⟨xs,ys,hq,hr,hx⟩:=hg;obtain ⟨its,rv,p,hz1⟩:=I.list hq;obtain ⟨jts,rw',p',hz2⟩:=I.list hr;have hl:=rv.length;have hl':=rw'.length;have D:=zw hz hTI hTO h1 h2 p.isList p'.isList nT ni;exact wpAny_pyNext_zip_end (I.ok.hd hc) D hz hTI hTO h1 h2 p.isList p'.isList (by simp;omega) fun h' eb=>⟨rfl,I.turnedL (t':=s.toks) (fun b o hb q=>eb b o (fun z=>hb (by simp [z])) (fun z=>hb (by simp [z])) (fun z=>hb (by simp [z])) (fun z=>hb (by simp [z])) q) hf⟩
 self:=fun _ _ _ _ _ ⟨hz,_⟩ h=>wpAny_pyIter_zip hz h
section
variable {X:Cx}
noncomputable def pM (K:PySem.W.Frag) (ta:TA):TI:=fun σ H R=>ta σ H fun vs H1=>∃ a,vs=[.ref a]∧(∃ xs,SqL K H1 a xs)∧R (Ite K a) H1
theorem Hq {es:List Expr} {k} {tpos:Pos} {a:Expr} {ta:TA} {p pos:Pos} (hg:Gl X "enumerate") (hm:X.mg "enumerate"=none) (ha:PA X [a] ta) (hs:starEach [a] X.env=[(false,eval a X.env)]:=by rfl) :
  PI X (.Tuple es k tpos) (.Call (.Name "enumerate" p) [a] [] pos) (pM X.K ta):=by
 intro pins s σ H R I h;refine Call_ (rn I hg hm lm (PyProof.Rows.callWith_type1 (thn (ha pos pins s σ H _ I h) fun us s1 hZ1=>?_) hs rfl));obtain ⟨vs,H1,I1,r1,q1⟩:=hZ1;obtain ⟨a,e,⟨xs,hq⟩,q⟩:=q1;subst e;cases r1 with
 | cons r rr=>
  cases rr;cases r;obtain ⟨its,rv,pl,hz⟩:=I1.list hq;refine call_enumerate_list pl.isList fun h' hE hI hsz hk=>wpAny_pyIter_enum hE ?_
  refine ⟨s1.heap.objs.size + 1,[s1.heap.objs.size + 1,s1.heap.objs.size],_,_,H1,rfl,I1.kept (t':=s1.toks) hk,EF a _ _ (Nat.succ_ne_self _),⟨_,hE,hI⟩,fun b hb=>?_,q⟩;have hb':s1.heap.objs.size ≤ b:=by
   simp only [List.mem_cons,List.not_mem_nil,or_false] at hb;rcases hb with rfl | rfl
   ·exact Nat.le_succ _
   ·exact Nat.le_refl _
  exact I1.fpOk hb' (I1.hok.fresh hb')
noncomputable def JP (K:PySem.W.Frag) (ta:TA):TI:=fun σ H R=>ta σ H fun vs H1=>∃ a b,vs=[.ref a,.ref b]∧(∃ xs,SqL K H1 a xs)∧(∃ ys,SqL K H1 b ys)∧R (Itz K a b) H1
theorem gM {es:List Expr} {k} {tpos:Pos} {a b:Expr} {ta:TA} {p pos:Pos} (hg:Gl X "zip") (hm:X.mg "zip"=none) (ha:PA X [a,b] ta) (hs:starEach [a,b] X.env=[(false,eval a X.env),(false,eval b X.env)]:=by rfl)
  (hs2:starEach [b] X.env=[(false,eval b X.env)]:=by rfl):PI X (.Tuple es k tpos) (.Call (.Name "zip" p) [a,b] [] pos) (JP X.K ta):=by
 intro pins s σ H R I h;refine Call_ (rn I hg hm zG (PyProof.Rows.callWith_type1 (thn (ha pos pins s σ H _ I h) fun us s1 hZ1=>?_) (by rw [hs,hs2]) (by rw [hs2];rfl)));obtain ⟨vs,H1,I1,r1,q1⟩:=hZ1;obtain ⟨a,b,e,⟨xs,hq⟩,⟨ys,hr⟩,q⟩:=q1;subst e;cases r1 with
 | cons r rr=>
  cases rr with
  | cons r' rr=>
   cases rr;cases r;cases r';obtain ⟨its,rv,pl,hz⟩:=I1.list hq;obtain ⟨jts,rv',pl',hz'⟩:=I1.list hr;refine call_zip_2 pl.isList pl'.isList fun h' hz hTI hTO h1 h2 hsz hk=>wpAny_pyIter_zip hz ?_
   refine ⟨s1.heap.objs.size + 4,[s1.heap.objs.size + 4,s1.heap.objs.size + 2,s1.heap.objs.size + 3,s1.heap.objs.size,s1.heap.objs.size + 1],_,_,H1,rfl,I1.kept (t':=s1.toks) hk,
    MG a b _ _ _ _ _ (Nat.ne_of_lt (Nat.lt_succ_self _)) (Nat.ne_of_lt (Nat.lt_succ_self _)),⟨hz,hTI,⟨_,_,hTO⟩,h1,h2⟩,fun c hc=>?_,q⟩
   have hb':s1.heap.objs.size ≤ c:=by
    simp only [List.mem_cons,List.not_mem_nil,or_false] at hc;rcases hc with rfl | rfl | rfl | rfl | rfl
    ·exact Nat.le_add_right _ _
    ·exact Nat.le_add_right _ _
    ·exact Nat.le_add_right _ _
    ·exact Nat.le_refl _
    ·exact Nat.le_add_right _ _
   exact I1.fpOk hb' (I1.hok.fresh hb')
end
theorem uf {X:Cx} {es:List Expr} {k:Nat} {pos:Pos} {t:TGs} {n:Nat} {K:PySem.W.Frag} (hK:X.K=K) (hc:X.calm=true) (h:PGs X es t)
  (hn:(assignEach es X.env).length=n:=by rfl) (hst:(assignEach es X.env).findIdx? (·.1)=none:=by rfl):PG X (.Tuple es k pos) (JM K n t):=by
 subst hK;exact OL hc h hn hst
section
variable {X:Cx}
end
end L2
namespace L2
open PySem PySem.Spec PyProof.Rows
inductive EqH (K:PySem.W.Frag) (H:Hp):Nat→V→V→Bool→Prop
 | flat {k:Nat} {x y:V} (hx:Jl x=true) (hy:Jl y=true):EqH K H k x y (eqV x y)
 | lst {k:Nat} {p q:Addr} {xs ys:List V} {e:Nat→Bool} (hp:SqL K H p xs) (hq:SqL K H q ys) (hl:xs.length=ys.length) (he:∀ (j:Nat) (x y:V),xs[j]? = some x→ys[j]? = some y→EqH K H k x y (e j)):EqH K H (k + 1) (.ref p) (.ref q) ((List.range xs.length).all e)
 | lstN {k:Nat} {p q:Addr} {xs ys:List V} (hp:SqL K H p xs) (hq:SqL K H q ys) (hl:xs.length ≠ ys.length):EqH K H (k + 1) (.ref p) (.ref q) false
 | tup {k:Nat} {p q:Addr} {xs ys:List V} {e:Nat→Bool} (hp:SqT K H p xs) (hq:SqT K H q ys) (he:∀ (j:Nat) (x y:V),xs[j]? = some x→ys[j]? = some y→EqH K H k x y (e j)):EqH K H (k + 1) (.ref p) (.ref q) ((List.range (min xs.length ys.length)).all e && xs.length == ys.length)
theorem Zz {x:V} (h:Jl x=true):eqV x x=true:=by
 cases x <;> first | rfl | (simp [eqV];done) | cases h
theorem Nt {n:Nat} {e:Nat→Bool} (h:∀ j,j < n→e j=true):(List.range n).all e=true:=by
 rw [List.all_eq_true];exact fun j hj=>h j (List.mem_range.mp hj)
section
variable {X:Cx} {pins:List (Addr × Obj)} {σ:St} {H:Hp} {s:Shared}
theorem EqH.self (I:Inv X pins σ H s) {k:Nat} {x y:V} {b:Bool} (h:EqH X.K H k x y b) (e:x=y):b=true:=by
 induction h with
 | flat hx hy=>subst e;exact Zz hx
 | @lst k p q xs ys f hp hq hl he ih=>
  injection e with e;subst e;have:=I.list_inj hp hq;subst this;refine Nt fun j hj=>?_
  exact ih j xs[j] xs[j] (List.getElem?_eq_getElem hj) (List.getElem?_eq_getElem hj) rfl
 | lstN hp hq hl=>
  injection e with e;subst e;have:=I.list_inj hp hq;subst this;exact absurd rfl hl
 | @tup k p q xs ys f hp hq he ih=>
  injection e with e;subst e;have:=I.tuple_inj hp hq;subst this;rw [Bool.and_eq_true];refine ⟨Nt fun j hj=>?_,by simp⟩;have hj':j < xs.length:=by omega
  exact ih j xs[j] xs[j] (List.getElem?_eq_getElem hj') (List.getElem?_eq_getElem hj') rfl
theorem dj (A:Around):A.in1.units=A.units + 1:=rfl
theorem Mu (I:Inv X pins σ H s) {k:Nat} {x y:V} {b:Bool} (h:EqH X.K H k x y b):∀ (A:Around) (v u:Value),A.units + k < cLine→zd x v→zd y u →
  SeqAt.EqAt A s v u b∧(∀ p q,x=.ref p→y=.ref q→SeqAt.RcAt A s v u b):=by
 induction h with
 | flat hx hy=>
  intro A v u hu rx ry;refine ⟨kJ rx ry hx hy,fun p q e _=>?_⟩;subst e;cases hx
 | @lst k p q xs ys f hp hq hl he ih=>
  intro A v u hu rx ry;cases rx;cases ry;obtain ⟨its,r,pl,hz⟩:=I.list hp;obtain ⟨jts,r',pl',hz'⟩:=I.list hq;have l1:=r.length;have l2:=r'.length;have rc:SeqAt.RcAt A s (.ref p) (.ref q) ((List.range xs.length).all f):=by
   have:=SeqAt.RcAt.lists (A:=A) (e:=f) pl.isList pl'.isList (by simp only [List.size_toArray];omega) (by omega) fun j h1 h2=>by
    simp only [List.size_toArray] at h1 h2;have hj:j < xs.length:=by omega
    have hj':j < ys.length:=by omega
    obtain ⟨a,ha,ra⟩:=r.get (List.getElem?_eq_getElem hj);obtain ⟨c,hc,rc⟩:=r'.get (List.getElem?_eq_getElem hj');have ea:its.toArray[j]=a:=by
     have:=List.getElem?_eq_getElem h1;rw [ha] at this;simpa using (Option.some.inj this).symm
    have ec:jts.toArray[j]=c:=by
     have:=List.getElem?_eq_getElem h2;rw [hc] at this;simpa using (Option.some.inj this).symm
    rw [ea,ec];exact (ih j _ _ (List.getElem?_eq_getElem hj) (List.getElem?_eq_getElem hj') A.in1 a c (by rw [dj];omega) ra rc).1
   rwa [List.size_toArray,← l1] at this
  refine ⟨?_,fun _ _ _ _=>rc⟩;by_cases hne:p=q
  ·have hb:=(EqH.lst hp hq hl he).self I (congrArg V.ref hne);rw [hb,hne];exact SeqAt.EqAt.same _
  ·exact SeqAt.EqAt.of_refs hne rc
 | @lstN k p q xs ys hp hq hl=>
  intro A v u hu rx ry;cases rx;cases ry;obtain ⟨its,r,pl,hz⟩:=I.list hp;obtain ⟨jts,r',pl',hz'⟩:=I.list hq;have l1:=r.length;have l2:=r'.length;have rc:SeqAt.RcAt A s (.ref p) (.ref q) false:=SeqAt.RcAt.lists_lengths pl.isList pl'.isList (by simp only [List.size_toArray,bne_iff_ne,ne_eq];omega) (by omega);refine ⟨SeqAt.EqAt.of_refs (fun e=>hl ?_) rc,fun _ _ _ _=>rc⟩;subst e;rw [I.list_inj hp hq]
 | @tup k p q xs ys f hp hq he ih=>
  intro A v u hu rx ry;cases rx;cases ry;obtain ⟨its,r,pl,hz⟩:=I.tuple hp;obtain ⟨jts,r',pl',hz'⟩:=I.tuple hq;have l1:=r.length;have l2:=r'.length;have rc:SeqAt.RcAt A s (.ref p) (.ref q) ((List.range (min xs.length ys.length)).all f && xs.length == ys.length):=by
   have:=SeqAt.RcAt.tuples (A:=A) (e:=f) pl pl' (by omega) fun j h1 h2=>by
    simp only [List.size_toArray] at h1 h2;have hj:j < xs.length:=by omega
    have hj':j < ys.length:=by omega
    obtain ⟨a,ha,ra⟩:=r.get (List.getElem?_eq_getElem hj);obtain ⟨c,hc,rc⟩:=r'.get (List.getElem?_eq_getElem hj');have ea:its.toArray[j]=a:=by
     have:=List.getElem?_eq_getElem h1;rw [ha] at this;simpa using (Option.some.inj this).symm
    have ec:jts.toArray[j]=c:=by
     have:=List.getElem?_eq_getElem h2;rw [hc] at this;simpa using (Option.some.inj this).symm
    rw [ea,ec];exact (ih j _ _ (List.getElem?_eq_getElem hj) (List.getElem?_eq_getElem hj') A.in1 a c (by rw [dj];omega) ra rc).1
   rwa [List.size_toArray,List.size_toArray,← l1,← l2] at this
  refine ⟨?_,fun _ _ _ _=>rc⟩;by_cases hne:p=q
  ·have hb:=(EqH.tup hp hq he).self I (congrArg V.ref hne);rw [hb,hne];exact SeqAt.EqAt.same _
  ·exact SeqAt.EqAt.of_refs hne rc
end
section
variable {X:Cx} {pins:List (Addr × Obj)} {σ:St} {H:Hp} {s:Shared}
theorem Ov (I:Inv X pins σ H s) {k:Nat} {A:Around} {xs ys:List V} {its jts:List Value} {f:Nat→Bool} (hu:A.units + k < cLine) (r:pd xs its) (r':pd ys jts)
  (he:∀ (j:Nat) (x y:V),xs[j]? = some x→ys[j]? = some y→EqH X.K H k x y (f j)):∀ j (h1:j < its.toArray.size) (h2:j < jts.toArray.size),SeqAt.EqAt A s its.toArray[j] jts.toArray[j] (f j):=fun j h1 h2=>by
 simp only [List.size_toArray] at h1 h2;have l1:=r.length;have l2:=r'.length;have hj:j < xs.length:=by omega
 have hj':j < ys.length:=by omega
 obtain ⟨a,ha,ra⟩:=r.get (List.getElem?_eq_getElem hj);obtain ⟨c,hc,rc⟩:=r'.get (List.getElem?_eq_getElem hj');have ea:its.toArray[j]=a:=by
  have:=List.getElem?_eq_getElem h1;rw [ha] at this;simpa using (Option.some.inj this).symm
 have ec:jts.toArray[j]=c:=by
  have:=List.getElem?_eq_getElem h2;rw [hc] at this;simpa using (Option.some.inj this).symm
 rw [ea,ec];exact (Mu I (he j _ _ (List.getElem?_eq_getElem hj) (List.getElem?_eq_getElem hj')) A a c hu ra rc).1
theorem ZM (I:Inv X pins σ H s) {k:Nat} {p q:Addr} {b:Bool} (h:EqH X.K H k (.ref p) (.ref q) b) (A:Around) (hu:A.units + k < cLine):SeqAt.RcNeAt A s (.ref p) (.ref q) (!b):=by
 cases h with
 | flat hx hy=>cases hx
 | @lst k _ _ xs ys f hp hq hl he=>
  obtain ⟨its,r,pl,hz⟩:=I.list hp;obtain ⟨jts,r',pl',hz'⟩:=I.list hq;have l1:=r.length;have l2:=r'.length;have:=SeqAt.RcNeAt.lists (A:=A) (e:=f) pl.isList pl'.isList (by simp only [List.size_toArray];omega) (by omega) (Ov I (A:=A.in1) (k:=k) (by rw [dj];omega) r r' he);rwa [List.size_toArray,← l1] at this
 | @lstN k _ _ xs ys hp hq hl=>
  obtain ⟨its,r,pl,hz⟩:=I.list hp;obtain ⟨jts,r',pl',hz'⟩:=I.list hq;have l1:=r.length;have l2:=r'.length;exact SeqAt.RcNeAt.lists_lengths pl.isList pl'.isList (by simp only [List.size_toArray,bne_iff_ne,ne_eq];omega) (by omega)
 | @tup k _ _ xs ys f hp hq he=>
  obtain ⟨its,r,pl,hz⟩:=I.tuple hp;obtain ⟨jts,r',pl',hz'⟩:=I.tuple hq;have l1:=r.length;have l2:=r'.length;have:=SeqAt.RcNeAt.tuples (A:=A) (e:=f) pl pl' (by omega) (Ov I (A:=A.in1) (k:=k) (by rw [dj];omega) r r' he);rwa [List.size_toArray,List.size_toArray,← l1,← l2] at this
end
section
variable {X:Cx}
noncomputable def cP (K:PySem.W.Frag):R2:=fun x y H Q=>∃ p q b,x=.ref p∧y=.ref q∧EqH K H 8 (.ref p) (.ref q) b∧Q (.bl (!b)) H
theorem RL (hU:X.A.units + 64 < cLine):OpR X (compareOp .NotEq) (cP X.K):=by
 intro pins s σ H x y v u Q I rx ry h;obtain ⟨p,q,b,rfl,rfl,hE,q'⟩:=h;cases rx;cases ry;exact ZM I hE X.A (by omega) _ _ _ _ ⟨.bl (!b),H,I,rfl,q'⟩
end
theorem EqH.mono {K:PySem.W.Frag} {H:Hp} {j k:Nat} {x y:V} {b:Bool} (h:EqH K H j x y b):j ≤ k→EqH K H k x y b:=by
 induction h generalizing k with
 | flat hx hy=>exact fun _=>.flat hx hy
 | lst hp hq hl he ih=>
  intro hk;obtain ⟨m,rfl⟩:∃ m,k=m + 1:=⟨k - 1,by omega⟩;exact .lst hp hq hl fun j x y h1 h2=>ih j x y h1 h2 (by omega)
 | lstN hp hq hl=>
  intro hk;obtain ⟨m,rfl⟩:∃ m,k=m + 1:=⟨k - 1,by omega⟩;exact .lstN hp hq hl
 | tup hp hq he ih=>
  intro hk;obtain ⟨m,rfl⟩:∃ m,k=m + 1:=⟨k - 1,by omega⟩;exact .tup hp hq fun j x y h1 h2=>ih j x y h1 h2 (by omega)
end L2
namespace L2
open PySem PySem.Spec PyProof.Rows PySem.Builtin PySem.Builtin.ObjectAttr
noncomputable abbrev bmV:List Value:=[.type "ValueError",.type "Exception",.type "BaseException",.type "object"]
noncomputable def MJ (K:PySem.W.Frag) (C fI:Addr):Bool:=
 match K.lookup C with
 | some ⟨.type "type",_,.cls cd,sl⟩=>
  match cd.mro,sl.toList with
  | .ref D :: tl,[_,_,_,_,some (.builtin n),_]=>
   (D == C) && (n == "ValueError.__new__") && (cd.hasDel == false) && (cd.hasDict == true) && PySem.W.tailIn K bmV tl && PySem.W.nsOkIn K cd.ns && (PySem.W.nsIn K cd.ns "__init__" == some (some (.ref fI)))
  | _,_=>false
 | _=>false
section
variable {P:Program} {w:World} {A:Around} {h:Heap} {g:Array GenState} {d:Drawn} {t:Nat} {os:OsState} {K:PySem.W.Frag} {C fI:Addr} {R:Result→Shared→Prop}
end
noncomputable def RJ:List Value→Bool
 | .ref _ :: r=>RJ r
 | l=>l == bmV
structure ZP (K:PySem.W.Frag) (C:Addr):Prop where
 hd:PySem.W.hasDictIn K C=true
 ov:((PySem.W.clsIn K C).any fun cd=>RJ cd.mro)=true
 sa:PySem.W.findIn K (.ref C) "__setattr__"=some (some (.builtin "object.__setattr__"))
 ga:PySem.W.findIn K (.ref C) "__getattribute__"=some (some (.builtin "BaseException.__getattribute__"))
 gt:PySem.W.findIn K (.ref C) "__getattr__"=some none
 ex:∃ fI,MJ K C fI=true
noncomputable def XF (x C:Addr) (od:Option Addr):Heap→Prop:=fun h=>∃ vs sl,h.get? x=some ⟨.ref C,od,.fields vs,sl⟩∧1 < vs.size∧vs[1]? = some .none
noncomputable def XD (dx:Addr) (fs:List (Str × V)):Heap→Prop:=fun h=>∃ mA,h.Ns1 dx mA∧(∀ f,gu (fs.lookup f) (mA f))∧PySem.Within mA (fs.map (·.1))
theorem XF.at {x C:Addr} {od:Option Addr} {h h':Heap} (z:XF x C od h) (k:∀ o,h.get? x=some o→h'.get? x=some o):XF x C od h':=let ⟨vs,sl,e,r⟩:=z;⟨vs,sl,k _ e,r⟩
theorem XD.at {dx:Addr} {fs:List (Str × V)} {h h':Heap} (z:XD dx fs h) (k:∀ o,h.get? dx=some o→h'.get? dx=some o):XD dx fs h':=let ⟨mA,e,r⟩:=z;⟨mA,e.at k,r⟩
theorem XF.ok {P:Program} {w:World} {H:Hp} {h:Heap} {x C:Addr} {od:Option Addr} (z:XF x C od h):Bd P w H h x (.ext (XF x C od)):=by
 obtain ⟨vs,sl,e,r⟩:=id z;exact ⟨z,⟨_,e⟩,fun h1 h2 q k=>q.at k⟩
theorem XD.ok {P:Program} {w:World} {H:Hp} {h:Heap} {dx:Addr} {fs:List (Str × V)} (z:XD dx fs h):Bd P w H h dx (.ext (XD dx fs)):=by
 obtain ⟨mA,⟨o,es,ep,e,_⟩,_⟩:=id z;exact ⟨z,⟨_,e⟩,fun h1 h2 q k=>q.at k⟩
section
variable {prog:Program} {w:World} {A:Around} {E:Value→Shared→Prop} {K:PySem.W.Frag} {C x:Addr} {s:Shared} {R:Result→Shared→Prop}
end
section
variable {X:Cx} {pins:List (Addr × Obj)} {σ:St} {H:Hp} {s:Shared} {x C dx:Addr} {fs:List (Str × V)} {f:Str} {y:V} {u:Value} {A:Around} {E:Value→Shared→Prop} {Q:Unit→Shared→Prop}
noncomputable def XA (x C:Addr) (od:Option Addr):Heap→Prop:=fun h=>∃ vs sl,h.get? x=some ⟨.ref C,od,.fields vs,sl⟩
theorem XA.at {x C:Addr} {od:Option Addr} {h h':Heap} (z:XA x C od h) (k:∀ o,h.get? x=some o→h'.get? x=some o):XA x C od h':=let ⟨vs,sl,e⟩:=z;⟨vs,sl,k _ e⟩
theorem XA.ok {P:Program} {w:World} {H:Hp} {h:Heap} {x C:Addr} {od:Option Addr} (z:XA x C od h):Bd P w H h x (.ext (XA x C od)):=by
 obtain ⟨vs,sl,e⟩:=id z;exact ⟨z,⟨_,e⟩,fun h1 h2 q k=>q.at k⟩
end
noncomputable abbrev TJ:=St→Hp→(Hp→Prop)→Prop
section
variable {X:Cx} {e:Expr} {es:List Expr} {n:Nat} {t:TJ} {te:TE} {pos:Pos}
end
structure eQ (K:PySem.W.Frag) (L:Addr) (m:Str):Prop where
 rd:PySem.W.readsIn K L (.type "type")=true
 fd:PySem.W.findCls K (.ref L) (.type "type") m=some (.val (.builtin "ValueError.__init__"))
 ga:PySem.W.specialIn K (.ref L) "__getattribute__"=some (some (.builtin "type.__getattribute__"))
section
variable {X:Cx} {L:Addr} {x:Str} {p pos apos:Pos} {e:Expr} {es:List Expr} {t:TA}
end
structure MkX (K:PySem.W.Frag) (C fI:Addr):Prop where
 e:MJ K C fI=true
 fn:PySem.W.typeIn K (.ref fI)=some (.type "function")
 kp:PySem.W.keepIn K (.ref C)=true
section
variable {X:Cx} {k:Nat} {f C:Addr} {fd:FuncData} {ps:List Str} {sp:Sp} {x g:Str} {p pos pos' apos:Pos} {e o value:Expr} {es:List Expr} {ta tv:TE} {t:TA}
end
end L2
namespace L2
open PySem PySem.Spec PyProof.Rows PySem.Builtin PySem.Builtin.ObjectAttr
noncomputable def FlA (x C:Addr) (od:Option Addr) (T:Addr) (fl:Value) (h:Heap):Prop:=
 T ≠ x∧∃ vs sl oT ts,h.get? x=some ⟨.ref C,od,.fields vs,sl⟩∧vs[1]? = some (.ref T)∧h.get? T=some oT∧oT.data=.fields ts∧ts[3]? = some fl
structure Kp (fs:List Addr) (x:Addr) (To:Option Addr) (h h':Heap):Prop where
 keep:∀ b o,h.get? b=some o→b ∉ fs→b ≠ x→some b ≠ To→h'.get? b=some o
 slot:∀ b o,h.get? b=some o→b ∈ fs→∃ sl,h'.get? b=some { o with slots:=sl }
 there:∀ b o,h.get? b=some o→∃ o',h'.get? b=some o'
section
variable {M:Model} {A:Around} {E:Value→Shared→Prop} {s:Shared}
theorem nofr {base h:Heap} {l:List Env} {b:Addr} {o:Obj} {vs:Array Value} (hl:h.FunFrames base l) (e:h.get? b=some o) (d:o.data=.fields vs):b ∉ frs l:=fun hm=>by
 obtain ⟨_,o',e',nf⟩:=hl.mem hm;rw [e] at e';cases e';exact nf vs d
end
section
variable {P:Program} {w:World} {H:Hp} {h h':Heap} {fs:List Addr} {x C T:Addr} {od:Option Addr} {fl:Value} {To:Option Addr} {o:HO}
theorem Kp.hok (k:Kp fs x To h h') (ok:HOk P w H h) (hfs:∀ b ∈ fs,H b=none) (hT:∀ t,To=some t→H t=none) (mu:Mut (H x)) (new:XA x C od h'):HOk P w (upd H x (.ext (XA x C od))) h':=fun b u q=>by
 have nown:∀ c y,H c=some (.own y)→c ≠ x:=fun c y r z=>by subst z;rw [r] at mu;exact mu
 have ntup:∀ c xs,H c=some (.tup xs)→c ≠ x:=fun c xs r z=>by subst z;rw [r] at mu;exact mu
 have kk:∀ c v,c ≠ x→H c ≠ none→h.get? c=some v→h'.get? c=some v:=fun c v n1 n2 r=>k.keep c v r (fun z=>n2 (hfs c z)) n1 fun z=>n2 (hT c z.symm)
 by_cases hb:b=x
 ·subst hb;rw [ib] at q;cases q;exact new.ok
 ·rw [Ab hb] at q;refine (ok b u q).stay (fun c v hc r=>?_) (fun c r=>by rw [Ab (nown c b r)];exact r) fun c xs r=>by rw [Ab (ntup c xs r)];exact r
  rcases hc with rfl | hc
  ·exact kk c v hb (by rw [q];exact fun z=>by cases z) r
  ·exact kk c v (nown c b hc) (by rw [hc];exact fun z=>by cases z) r
theorem Kp.un (k:Kp fs x To h h') (hT:∀ t,To=some t→H t=none) (mu:Mut (H x)):Un fs To.toList H (upd H x o) h h':=by
 have hx:∀ b,H b=none→b ≠ x:=fun b n z=>by subst z;rw [n] at mu;exact mu
 have hm:∀ b u,H b=some u→¬ Mut (some u)→b ≠ x:=fun b u q nm z=>by subst z;rw [q] at mu;exact nm mu
 refine ⟨fun b u q n n1 n2=>k.keep b u q n1 (hx b n) fun z=>n2 (by rw [← z];simp),fun b u q n n1 n2=>k.slot b u q n1,fun b u q n _=>by rw [Ab (hx b n)];exact n,fun b u q _=>k.there b u q,
  fun b xs q=>by rw [Ab (hm b _ q fun z=>z)];exact q,fun b u xs q=>by rw [Ab (hm b _ q fun z=>z)];exact q,fun b ps q=>⟨#[],by rw [Ab (hm b _ q fun z=>z),q];simp⟩⟩
end
noncomputable def CX1 (P:Program) (w:World):CXT:=fun outer H s E e s'=>
 ∃ x C od H' T,e=.ref x∧s'.os=s.os∧AllBare s'.gens∧Un (frs outer) [] H H' s.heap s'.heap∧HOk P w H' s'.heap∧H' x=some (.ext (XA x C od))∧s.heap.objs.size ≤ T∧H' T=none∧FlA x C od T .none s'.heap∧E (.ref C) od H'
theorem Un.less {fs fs' ex ex':List Addr} {H H':Hp} {h h':Heap} (u:Un fs ex H H' h h') (hs:∀ b o,h.get? b=some o→b ∈ fs→b ∈ fs') (hx:∀ b o,h.get? b=some o→b ∈ ex→b ∈ ex'):Un fs' ex' H H' h h':=
 ⟨fun b o q n n1 n2=>u.keep b o q n (fun z=>n1 (hs b o q z)) fun z=>n2 (hx b o q z),fun b o q n _ n2=>u.any q n fun z=>n2 (hx b o q z),fun b o q n n2=>u.free b o q n fun z=>n2 (hx b o q z),fun b o q n2=>u.there b o q fun z=>n2 (hx b o q z),u.tups,u.frzs,u.tbls⟩
structure Fr1 (X:Cx):Prop where
 st:X.stack=X.env :: X.outer
 fr:X.env.frame=some X.env.locals
noncomputable def RP (X:Cx) (pins:List (Addr × Obj)) (T:Addr):Prop:=(T ∈ X.ex∨X.s₀.heap.objs.size ≤ T)∧T ≠ X.env.locals∧(∀ x c,X.env.cells.lookup x=some c→c ≠ T)∧∀ p ∈ X.pn ++ pins,p.1 ≠ T
section
variable {X:Cx} {pins:List (Addr × Obj)} {σ:St} {H:Hp} {s:Shared} {T x C:Addr} {od:Option Addr} {E:St→XK} {M:Model} {A:Around} {E':Value→Shared→Prop} {Q:Unit→Shared→Prop} {e fl:Value} {h':Heap}
end
section
variable {P:Program} {w:World} {K:PySem.W.Frag} {mg:Str→Option Value} {base:Heap} {N:List Str} {qual:Str} {scope:Scope} {f:Addr} {cd:Value} {A:Around} {outer:List Env} {s:Shared} {H:Hp} {E:XK}
end
section
variable {X:Cx} {CX:CXT} {k:Nat} {f C:Addr} {fd:FuncData} {ps:List Str} {sp:Sp} {dvs:List V} {ds:List Value} {E:St→XK} {x m:Str} {p pos apos:Pos} {e o:Expr} {es:List Expr} {ta:TE} {t:TA}
end
noncomputable abbrev Cx.tr (X:Cx) (pn:List (Addr × Obj)) (E:Value→Shared→Prop):Cx:={ X with pn:=X.pn ++ pn,xe:=E }
noncomputable abbrev Cx.hn (X:Cx) (e:Value):Cx:={ X with A:=X.A.mark (some e),calm:=false,xe:=fun _ _=>False }
section
variable {X:Cx} {pins pins':List (Addr × Obj)} {σ:St} {H:Hp} {s:Shared} {E:Value→Shared→Prop} {e:Value}
theorem Cx.Ok.tr (ok:X.Ok) (pn:List (Addr × Obj)) (E:Value→Shared→Prop):(X.tr pn E).Ok:=
 ⟨ok.mod,ok.kind,ok.glob,ok.blt,ok.above,ok.inj,ok.has,ok.cab,ok.hd,ok.frames,ok.stk,ok.exf,ok.bs,ok.bsz,ok.noex,ok.exfs,ok.funs,ok.frf⟩
theorem Cx.Ok.hn (ok:X.Ok) (e:Value):(X.hn e).Ok:=
 ⟨ok.mod,ok.kind,ok.glob,ok.blt,ok.above,ok.inj,ok.has,ok.cab,(fun z=>Bool.noConfusion z),ok.frames,ok.stk,ok.exf,ok.bs,ok.bsz,ok.noex,ok.exfs,ok.funs,ok.frf⟩
theorem Inv.tr (I:Inv X pins σ H s) (E:Value→Shared→Prop):Inv (X.tr pins E) [] σ H s:=⟨I.ok.tr pins E,I.os,I.bare,I.base,I.loc,I.cell,I.free,I.freeC,fun p hp=>I.pin p (by simpa using hp),I.hok,I.len⟩
theorem Inv.hn (I:Inv X pins σ H s) (e:Value):Inv (X.hn e) pins σ H s:=⟨I.ok.hn e,I.os,I.bare,I.base,I.loc,I.cell,I.free,I.freeC,I.pin,I.hok,I.len⟩
end
noncomputable def Xj.gone (D:Xj) (i:Nat):Xj:={ nx:=fun σ H=>D.nx (σ.set i none) H,rt:=D.rt,bk:=fun σ H=>D.bk (σ.set i none) H,ct:=fun σ H=>D.ct (σ.set i none) H }
section
variable {X:Cx} {body suite:List Stmt} {b0:Stmt} {x n:Str} {c:Addr} {i:Nat} {tb:(St→XK)→TS} {th:TS} {xp hp pos:Pos}
end
theorem QC (D:Xj) (i:Nat) (σ:St) (H:Hp):(D.gone i).nx σ H=D.nx (σ.set i none) H:=rfl
theorem pG (D:Xj) (i:Nat) (v:V) (H:Hp):(D.gone i).rt v H=D.rt v H:=rfl
theorem OwnTail.has {h:Heap} {bm tl:List Value} {v:Value} (T:OwnTail h bm tl) (e:bm.contains v=true):tl.contains v=true:=by
 induction T with
 | base=>exact e
 | own _ _ _ _ ih=>rw [List.contains_cons,ih,Bool.or_true]
section
variable {X:Cx} {e:Expr} {te:TE} {pos:Pos} {E:St→XK}
theorem PS.nox {X:Cx} {st:Stmt} {t:TS} (h:PS X.nox st t):PS X st t:=fun pins s σ H D I hw=>
 wpAny_mono (h pins s σ H D (I.wish _) hw) (fun _ _ q=>q.unwish) fun _ _ z=>False.elim z
end
noncomputable def xeB (B:Cx) (E:XK) (e:Value) (s':Shared):Prop:=
 ∃ pins fl σ' H' x C od T,e=.ref x∧Inv B pins σ' H' s'∧H' x=some (.ext (XA x C od))∧H' T=none∧RP B pins T∧B.s₀.heap.objs.size ≤ T∧FlA x C od T fl s'.heap∧E (.ref C) od H'
structure gP (X:Cx) (scope:Scope) (N:List Str) (tg elt:Expr) (ifs:List Expr) (g:TG) (tc:TT) (te:XK→TE):Prop where
 tgt:∀ E C s H fp,PG ((X.block scope C N s H fp).wish (xeB (X.block scope C N s H fp) E)) tg g
 tests:∀ E C s H fp,PTs ((X.block scope C N s H fp).wish (xeB (X.block scope C N s H fp) E)) ifs tc
 elem:∀ E C s H fp,PE ((X.block scope C N s H fp).wish (xeB (X.block scope C N s H fp) E)) elt (te E)
theorem gP.of {X:Cx} {scope:Scope} {N:List Str} {tg elt:Expr} {ifs:List Expr} {g:TG} {tc:TT} {te:XK→TE} (h1:∀ E C s H fp,PG ((X.block scope C N s H fp).wish (xeB (X.block scope C N s H fp) E)) tg g)
  (h2:∀ E C s H fp,∃ t,PTs ((X.block scope C N s H fp).wish (xeB (X.block scope C N s H fp) E)) ifs t∧t=tc) (h3:∀ E C s H fp,∃ t,PE ((X.block scope C N s H fp).wish (xeB (X.block scope C N s H fp) E)) elt t∧t=te E):gP X scope N tg elt ifs g tc te:=
 ⟨h1,fun E C s H fp=>by obtain ⟨t,h,rfl⟩:=h2 E C s H fp;exact h,fun E C s H fp=>by obtain ⟨t,h,e⟩:=h3 E C s H fp;rw [← e];exact h⟩
section
variable {X:Cx} {elt tg iter:Expr} {ifs:List Expr} {scope:Scope} {pos:Pos} {wi:TI} {g:TG} {tc:TT} {te:XK→TE} {N:List Str} {sel:List (Option Nat)}
theorem FlA.but {x C T c:Addr} {od:Option Addr} {fl:Value} {h h':Heap} (z:FlA x C od T fl h) (n1:x ≠ c) (n2:T ≠ c) (k:∀ b,b ≠ c→h'.get? b=h.get? b):FlA x C od T fl h':=by
 obtain ⟨ne,vs,sl,oT,ts,he,h1,hT,hd,h3⟩:=z;exact ⟨ne,vs,sl,oT,ts,(k _ n1).trans he,h1,(k _ n2).trans hT,hd,h3⟩
end
structure uP (K:PySem.W.Frag) (C:Addr):Prop where
 cl:Cls K C
 ha:PySem.W.findIn K (.ref C) "__class__"=some (some (.builtin "object.__class__"))
 hn:PySem.W.specialIn K (.builtin "object.__class__") "__get__"=some (some (.builtin "getset_descriptor.__get__"))
 htk:PySem.W.takesIn K (.builtin "object.__class__")=some true
 hm:PySem.W.mroIn K C (.type "object")=some true
theorem uP.ty {K:PySem.W.Frag} {H:Hp} {C a dx:Addr} {fs:List (Str × V)} (c:uP K C) (e:H a=some (.ins C dx fs)):JA K H (.ref a) (.ref C):=.ins e c.cl c.ha c.hn c.htk c.hm
end L2
namespace L2
open PySem PySem.Spec PyProof.Rows
section
variable {X:Cx} {tg:Expr}
end
section
variable {prog:Program} {w:World} {A:Around} {E:Value→Shared→Prop} {s:Shared} {it l:Addr} {items:Array Value}
end
section
variable {X:Cx}
end
section
variable {prog:Program} {w:World} {A:Around} {R:Result→Shared→Prop} {I:Addr} {fp wr:List Addr} {n:Nat} {P:Nat→Value→Prop} {St:Nat→Heap→Prop}
noncomputable def NM (P:Nat→Value→Prop) (bt:Nat→Nat→Bool) (j:Nat) (acc:Array Value):Prop:=(j=0∧acc=#[])∨∃ vb i,j=i + 1∧acc=#[vb,vb]∧P (argBest bt i) vb
end
section
variable {prog:Program} {w:World} {A:Around} {E:Value→Shared→Prop} {s:Shared}
end
section
variable {X:Cx}
end
end L2
namespace L2
open PySem PySem.Spec PyProof.Rows
structure gQ (K:PySem.W.Frag) (C:Addr):Prop where
 x:ZP K C
 ha:PySem.W.findIn K (.ref C) "__class__"=some (some (.builtin "object.__class__"))
 hn:PySem.W.specialIn K (.builtin "object.__class__") "__get__"=some (some (.builtin "getset_descriptor.__get__"))
 htk:PySem.W.takesIn K (.builtin "object.__class__")=some true
 hm:PySem.W.mroIn K C (.type "object")=some true
section
variable {prog:Program} {w:World} {A:Around} {E:Value→Shared→Prop} {s:Shared} {K:PySem.W.Frag} {x C:Addr} {od:Obj} {dx:Addr} {vs:Array Value} {sl:Array (Option Value)}
end
theorem xq:∀ {cs:List Addr} {us:List Value},pd (cs.map V.ref) us→us=cs.map Value.ref
 | [],_,.nil=>rfl
 | c :: cs,_,.cons r t=>by
  rw [xq t];cases (show _=Value.ref c from r);rfl
noncomputable def wO (K:PySem.W.Frag) (neg:Bool):R2:=fun x y H Q=>∃ p qs f,y=.ref p∧SqL K H p (List.map V.ref qs)∧(∀ q ∈ qs,EqH K H 8 (.ref q) x (f q))∧Q (.bl (if neg then !(qs.any f) else qs.any f)) H
noncomputable def eU (f:Addr→Bool):Value→Bool
 | .ref q=>f q
 | _=>false
theorem sI (f:Addr→Bool) (qs:List Addr):(qs.map Value.ref).toArray.any (eU f)=qs.any f:=by
 rw [List.any_toArray,List.any_map];rfl
section
variable {X:Cx}
theorem Yw (hU:X.A.units + 64 < cLine):OpR X (compareOp .NotIn) (wO X.K true):=by
 intro pins s σ H x y v u Q I rx ry h;obtain ⟨p,qs,f,rfl,hp,he,q⟩:=h;cases ry;obtain ⟨its,r,pl,hz⟩:=I.list hp;have e1:=xq r;subst e1;refine SeqAt.notIn_listAt (eU f) pl.isList (fun w hw=>?_) ⟨.bl _,H,I,rfl,?_⟩
 ·obtain ⟨q',hq',rfl⟩:=List.mem_map.mp (by simpa using hw:w ∈ qs.map Value.ref);exact (Mu I (he q' hq') X.A.in1 (.ref q') v (by rw [dj];omega) rfl rx).1
 ·rw [sI];exact q
theorem mG (hU:X.A.units + 64 < cLine):OpR X (compareOp .In) (wO X.K false):=by
 intro pins s σ H x y v u Q I rx ry h;obtain ⟨p,qs,f,rfl,hp,he,q⟩:=h;cases ry;obtain ⟨its,r,pl,hz⟩:=I.list hp;have e1:=xq r;subst e1;refine SeqAt.in_listAt (eU f) pl.isList (fun w hw=>?_) ⟨.bl _,H,I,rfl,?_⟩
 ·obtain ⟨q',hq',rfl⟩:=List.mem_map.mp (by simpa using hw:w ∈ qs.map Value.ref);exact (Mu I (he q' hq') X.A.in1 (.ref q') v (by rw [dj];omega) rfl rx).1
 ·rw [sI];exact q
end
theorem Zb.quiet {P:Program} {w:World} {K:PySem.W.Frag} {mg:Str→Option Value} {base:Heap} {k:Nat} {f:Addr} {fd:FuncData} {ps:List Str} {sp sp':Sp} (F:Zb P w K mg base (CX1 P w) k f fd ps sp)
  (h:∀ vs H Q E,sp' vs H Q E→sp vs H Q (fun _ _ _=>False)):Zb P w K mg base CX0 k f fd ps sp':=by
 refine ⟨fun vs H Q E q=>F.len vs H _ _ (h vs H Q E q),fun A outer s H args us vs Q E hr he hb hv hs=>?_⟩;refine codeAny_mono (F.run A outer s H args us vs Q _ hr he hb hv (h vs H Q E hs)) fun r s' hq=>?_
 cases r with
 | error e=>
  obtain ⟨x,C,od,H',T,_,_,_,_,_,_,_,_,_,z⟩:=hq;exact z.elim
 | ok fl=>cases fl <;> exact hq
end L2
namespace L2
open PySem PySem.Spec PyProof.Rows
structure yo (k:Nat) (A:Around):Prop where
 dp:A.depth + 3 * k + 5 < recursionLimit
 un:A.units + 16 * k + 200 < cLine
theorem Yj.h {k:Nat} {A:Around} (r:Yj k A):yo k A:=⟨r.dp,r.un⟩
theorem yo.mono {j k:Nat} {A:Around} (r:yo k A) (h:j ≤ k):yo j A:=⟨by have:=r.dp;omega,by have:=r.un;omega⟩
theorem yo.deeper {k:Nat} {A:Around} (r:yo (k + 1) A) (env:Env):yo k (A.deeper env):=
 ⟨by have:=r.dp;show A.depth + 1 + 3 * k + 5 < _;omega,by have:=r.un;show A.units + 3 + 16 * k + 200 < _;omega⟩
theorem yo.depth {k:Nat} {A:Around} (r:yo k A):A.depth < recursionLimit:=by have:=r.dp;omega
theorem yo.units {k:Nat} {A:Around} (r:yo k A):A.units + 64 < cLine:=by have:=r.un;omega
theorem Yj.hn {k:Nat} {X:Cx} {e:Value} (r:Yj k X.A):yo k (X.hn e).A:=⟨r.dp,r.un⟩
structure lK (P:Program) (w:World) (K:PySem.W.Frag) (mg:Str→Option Value) (base:Heap) (CX:CXT) (k:Nat) (f:Addr) (fd:FuncData) (ps:List Str) (sp:Sp):Prop where
 len:∀ vs H Q E,sp vs H Q E→vs.length=ps.length
 run:∀ (A:Around) (outer:List Env) (s:Shared) (H:Hp) (args:Args) (us:List Value) (vs:List V) (Q:VK) (E:XK),yo k A→SD P w K mg base A outer s H→BindsTo s fd args (ps.zip us)→pd vs us→sp vs H Q E →
  codeAny (model P w) A (.call (.ref f) args) (CR CX outer P w H s Q E) s
theorem lK.mono {P:Program} {w:World} {K:PySem.W.Frag} {mg:Str→Option Value} {base:Heap} {CX:CXT} {j k:Nat} {f:Addr} {fd:FuncData} {ps:List Str} {sp:Sp} (F:lK P w K mg base CX j f fd ps sp) (h:j ≤ k) :
  lK P w K mg base CX k f fd ps sp:=⟨F.len,fun A outer s H args us vs Q E hr=>F.run A outer s H args us vs Q E (hr.mono h)⟩
section
variable {X:Cx} {CX:CXT} {k:Nat} {f C:Addr} {fd:FuncData} {ps:List Str} {sp:Sp} {dvs:List V} {ds:List Value} {E:XK} {x m:Str} {p pos apos:Pos} {e o:Expr} {es:List Expr} {ta:TE} {t:TA}
end
noncomputable def mO (CX:CXT) (P:Program) (w:World) (K:PySem.W.Frag) (mg:Str→Option Value) (base:Heap) (N:List Str) (qual:Str) (scope:Scope) (f:Addr) (cd:Value) (A:Around) (outer:List Env) (s:Shared) (H:Hp) (E:XK):Cx where
 prog:=P
 w:=w
 K:=K
 mg:=mg
 base:=base
 A:=A.deeper (envOfC qual scope s.heap.objs.size f cd)
 N:=N
 s₀:=s
 H₀:=H
 env:=envOfC qual scope s.heap.objs.size f cd
 outer:=outer
 stack:=envOfC qual scope s.heap.objs.size f cd :: outer
 ex:=[]
 calm:=false
 fn:=fun _=>true
 pn:=[]
 xe:=fun e s'=>wpAny (model P w) (A.deeper (envOfC qual scope s.heap.objs.size f cd)) (leaving (envOfC qual scope s.heap.objs.size f cd) e) (fun _ s''=>CX outer H s E e s'') (fun e' s''=>CX outer H s E e' s'') s'
section
variable {P:Program} {w:World} {K:PySem.W.Frag} {mg:Str→Option Value} {base:Heap}
end
end L2
namespace L2
open PySem PySem.Spec PyProof.Rows
section
variable {X:Cx}
end
end L2
namespace L2
open PySem PySem.Spec PyProof.Rows
section
variable {α:Type} {M:List α→Prop}
theorem us1 (h:∀ a,M [a]):∀ us:List α,us.length=1→M us | [a],_=>h a
theorem us2 (h:∀ a b,M [a,b]):∀ us:List α,us.length=2→M us | [a,b],_=>h a b
theorem us3 (h:∀ a b c,M [a,b,c]):∀ us:List α,us.length=3→M us | [a,b,c],_=>h a b c
theorem us4 (h:∀ a b c d,M [a,b,c,d]):∀ us:List α,us.length=4→M us | [a,b,c,d],_=>h a b c d
theorem us5 (h:∀ a b c d e,M [a,b,c,d,e]):∀ us:List α,us.length=5→M us | [a,b,c,d,e],_=>h a b c d e
theorem us7 (h:∀ a b c d e f g,M [a,b,c,d,e,f,g]):∀ us:List α,us.length=7→M us | [a,b,c,d,e,f,g],_=>h a b c d e f g
theorem us8 (h:∀ a b c d e f g i,M [a,b,c,d,e,f,g,i]):∀ us:List α,us.length=8→M us | [a,b,c,d,e,f,g,i],_=>h a b c d e f g i
end
structure XB (K:PySem.W.Frag) (C:Addr):Prop where
 hd:PySem.W.hasDictIn K C=true
 ov:((PySem.W.clsIn K C).any fun cd=>RJ cd.mro)=true
 sa:PySem.W.findIn K (.ref C) "__setattr__"=some (some (.builtin "object.__setattr__"))
 ga:PySem.W.findIn K (.ref C) "__getattribute__"=some (some (.builtin "BaseException.__getattribute__"))
 gt:PySem.W.findIn K (.ref C) "__getattr__"=some none
structure IB (K:PySem.W.Frag) (C:Addr):Prop where
 ha:PySem.W.findIn K (.ref C) "__class__"=some (some (.builtin "object.__class__"))
 hn:PySem.W.specialIn K (.builtin "object.__class__") "__get__"=some (some (.builtin "getset_descriptor.__get__"))
 htk:PySem.W.takesIn K (.builtin "object.__class__")=some true
 hm:PySem.W.mroIn K C (.type "object")=some true
end L2
namespace L2
open PySem PySem.Spec PyProof.Rows
theorem zB {ks:List Int}:∀ {its:List Value},pd (ks.map V.int) its→∃ xs:List (Int × Tok),its=xs.map (fun p=>Value.int p.1 p.2)∧xs.map (·.1)=ks:=by
 induction ks with
 | nil=>intro its r;cases r;exact ⟨[],rfl,rfl⟩
 | cons k ks ih=>
  intro its r;cases r with
  | cons h t=>
   obtain ⟨xs,e1,e2⟩:=ih t;obtain ⟨tk,rfl⟩:=(show ∃ t,_=Value.int k t from h);exact ⟨(k,tk) :: xs,by rw [List.map_cons,← e1],by rw [List.map_cons,e2]⟩
section
variable {X:Cx}
end
end L2
namespace L2
open PySem PySem.Spec PyProof.Rows
noncomputable def SM (p d:Addr):Heap→Prop:=fun h=>PySem.W.KdlKeysView h p d
noncomputable def BO (p d:Addr):Heap→Prop:=fun h=>h.IsValuesView p d
theorem SM.ok {P:Program} {w:World} {H:Hp} {h:Heap} {p d:Addr} (z:SM p d h):Bd P w H h p (.ext (SM p d)):=
 ⟨z,let ⟨o,ho,_⟩:=z;⟨o,ho⟩,fun _ _ z1 k=>let ⟨o,ho,x⟩:=z1;⟨o,k o ho,x⟩⟩
theorem BO.ok {P:Program} {w:World} {H:Hp} {h:Heap} {p d:Addr} (z:BO p d h):Bd P w H h p (.ext (BO p d)):=
 ⟨z,let ⟨o,ho,_⟩:=z;⟨o,ho⟩,fun _ _ z1 k=>let ⟨o,ho,x⟩:=z1;⟨o,k o ho,x⟩⟩
section
variable {X:Cx}
noncomputable def wx:V→List V→Hp→VK→Prop:=fun x vs H Q=>∃ d kvs,x=.ref d∧vs=[]∧H d=some (.dK kvs)∧∀ p,H p=none→Q (.ref p) (upd H p (.ext (SM p d)))
end
end L2
namespace L2
open PySem PySem.Spec PyProof.Rows
noncomputable abbrev TF:=St→Hp→Str→(Str→Hp→Prop)→Prop
section
variable {X:Cx} {e:Expr} {es:List Expr} {t:TF} {te:TE} {pos:Pos}
end
end L2
namespace L2
open PySem PySem.Spec PyProof.Rows
noncomputable def jO (p:Addr) (a b c:Int):Heap→Prop:=fun h=>∃ t u v,IsRange h p a b c t u v
theorem jO.ok {P:Program} {w:World} {H:Hp} {h:Heap} {p:Addr} {a b c:Int} (z:jO p a b c h):Bd P w H h p (.ext (jO p a b c)):=
 ⟨z,let ⟨_,_,_,e⟩:=z;⟨_,e⟩,fun _ _ z1 k=>let ⟨t,u,v,e⟩:=z1;⟨t,u,v,k _ e⟩⟩
section
variable {X:Cx}
end
end L2
namespace L2
open PySem PySem.Spec PyProof.Rows
noncomputable def QP (c:Addr) (qual:Str):Heap→Prop:=fun h=>h.CodeRec (.ref c) qual
noncomputable def Tab (H:Hp) (Pt:Addr) (pos:Pos) (qual:Str):Prop:=
 ∃ ps,H Pt=some (.tbl ps)∧(ps=#[]∨∃ c',ps=#[rawInt pos.line,rawInt pos.col,.ref c']∧H c'=some (.ext (QP c' qual)))
noncomputable def Yv (Pt:Addr) (H H':Hp):Prop:=∀ b o,b ≠ Pt→H b=some o→H' b=some o
theorem Yv.refl (Pt:Addr) (H:Hp):Yv Pt H H:=fun _ _ _ h=>h
theorem Yv.trans {Pt:Addr} {H H1 H2:Hp} (a:Yv Pt H H1) (b:Yv Pt H1 H2):Yv Pt H H2:=fun c o n h=>b c o n (a c o n h)
theorem ac.p {Pt:Addr} {H H':Hp} (s:ac H H'):Yv Pt H H':=fun b o _ h=>s b o h
theorem Tab.ne {H:Hp} {Pt b:Addr} {pos:Pos} {qual:Str} {o:HO} (t:Tab H Pt pos qual) (h:H b=some o) (ho:∀ ps,o ≠ .tbl ps):b ≠ Pt:=fun e=>by
 obtain ⟨ps,e1,_⟩:=t;subst e;rw [e1] at h;exact ho ps (Option.some.inj h).symm
theorem Tab.step {H H':Hp} {Pt:Addr} {pos:Pos} {qual:Str} (t:Tab H Pt pos qual) (s:ac H H'):Tab H' Pt pos qual:=by
 obtain ⟨ps,e,d⟩:=t;refine ⟨ps,s _ _ e,?_⟩;rcases d with d | ⟨c',d,e'⟩
 ·exact .inl d
 ·exact .inr ⟨c',d,s _ _ e'⟩
structure fQ (X:Cx) (c Pt:Addr):Prop where
 code:X.env.code=.ref c
 hd:PySem.W.CodeHd X.base c Pt
 bm:X.base.BuiltinsAt X.mg Pt
section
variable {X:Cx} {pins:List (Addr × Obj)} {σ:St} {H:Hp} {s:Shared} {params:Arguments} {body:Expr} {scope:Scope} {pos:Pos} {c Pt:Addr} {clos:List (Str × Addr)} {Q:Value→Shared→Prop}
end
section
variable {P:Program} {w:World} {K:PySem.W.Frag} {mg:Str→Option Value} {base:Heap}
end
structure dQ (p y:Str) (sc:Scope):Prop where
 kind:sc.kind=.function
 co:sc.isCoroutine=false
 gen:sc.isGenerator=false
 ne:p ≠ y
 par:sc.names.lookup p=some .local
 yf:sc.names.lookup y=some .free
 nocell:∀ z ∈ sc.names,z.2 ≠ .cell
 one:∀ z ∈ sc.names,z.2=.free→z.1=y
section
variable {X:Cx} {pins:List (Addr × Obj)} {σ:St} {H:Hp} {s:Shared} {k:Nat} {f c' cl:Addr} {q p y:Str} {params:Arguments} {body:Expr} {scope:Scope} {v:V} {t:TE}
end
end L2
namespace L2
open PySem PySem.Spec PyProof.Rows
end L2
namespace L2
open PySem PySem.Spec PyProof.Rows
section
variable {P:Program} {w:World} {A:Around} {E:Value→Shared→Prop} {s:Shared}
structure DJ (h:Heap) (d:Addr) (o:Obj) (es:Array DictEntry) (ep:Nat):Prop where
 at_:h.get? d=some o
 ex:o.ExactDict
 dat:o.data=.dict es ep
theorem zF {d:Addr} {o:Obj} {es:Array DictEntry} {ep:Nat} (r:DJ s.heap d o es ep):s.TypeIs (.ref d) "dict" := ⟨o,r.at_,r.ex.1⟩
theorem GE {d:Addr} {o:Obj} {es:Array DictEntry} {ep:Nat} {Q:Value→Shared→Prop} (hd:(d == sysModules)=false) (r:DJ s.heap d o es ep)
  (hQ:Q (.ref s.heap.objs.size) { s with heap:=s.heap.push { cls:=.type "dict_keyiterator",data:=.fields #[.ref d,.int 0 0,.int es.size 0,.int ep 0] } }) :
  wpAny (model P w) A (pyIter (.ref d)) Q E s:=by
 have hT:=zF r;refine wpAny_pyIter_slot hT F.slot_dict_iter (wpAny_call_entry F.slot_dict_iter hT F.entry_dict_iter ?_ (F.args_dict_iter_1 _));unfold Builtin.«dict.__iter__» Builtin.Dict.dictSlotNone;refine wpAny_bind (wpAny_bind (wpAny_notOrdered_dict hT (wpAny_pure ?_)));show wpAny _ _ (Builtin.Dict.showsAll d >>= _) _ _ s;unfold Builtin.Dict.showsAll;rw [if_neg (by rw [hd];exact Bool.false_ne_true)];refine wpAny_bind (wpAny_pure (wpAny_bind (wpAny_dictEntries r.at_ r.dat (wpAny_bind (wpAny_dictEpoch r.at_ r.dat ?_)))));refine wpAny_bind (wpAny_newObj_type (wpAny_pure ⟨_,rfl,"dict_keyiterator",_,⟨_,Heap.get?_push_size _ rfl,rfl⟩,F.slot_dict_keyiterator_next.lookup,?_⟩));simpa [rawInt] using hQ
theorem mE {it d:Addr} {o:Obj} {i ep:Nat} {es:Array DictEntry} {e:DictEntry} {Q:Option Value→Shared→Prop} (hit:s.heap.IsKeyIter it d i es.size ep) (r:DJ s.heap d o es ep) (hx:es[i]? = some e)
  (hQ:∀ h',h'.IsKeyIter it d (i + 1) es.size ep→Heap.SameBut it s.heap h'→Q (some e.key) { s with heap:=h' }):wpAny (model P w) A (pyNext (.ref it)) Q E s:=by
 obtain ⟨oi,ho,hc,hd⟩:=id hit;have hown:Builtin.Dict_items.ownsTuple "dict_keyiterator"=false:=by decide
 have hlt:i < es.size:=by
  rcases Nat.lt_or_ge i es.size with h | h
  ·exact h
  ·rw [Array.getElem?_eq_none h] at hx;cases hx
 unfold pyNext;refine wpAny_bind (wpAny_attempt (wpAny_callSpecial?_slot (name:=Str.ofString "__next__") hit.typeIs F.slot_dict_keyiterator_next
  (wpAny_call_entry F.slot_dict_keyiterator_next hit.typeIs F.entry_dict_keyiterator_next ?_ (F.args_dict_keyiterator_next_1 _))))
 refine wpAny_bind (wpAny_pure (wpAny_bind (wpAny_bind ?_)))
 first | refine wpAny_bind (wpAny_typeNameOfWhole_keyiter hit.typeIs (wpAny_pure ?_)) | refine wpAny_bind (wpAny_typeNameOf_keyiter hit.typeIs (wpAny_pure ?_))
 refine wpAny_bind (wpAny_fieldsOf ho hd ?_);simp only [hown,Bool.false_eq_true,if_false];show wpAny _ _ (if (Value.ref d == Value.none)=true then _ else _) _ _ s;rw [if_neg (show ¬ ((Value.ref d == Value.none)=true) from Bool.false_ne_true)];refine wpAny_bind (wpAny_pure (wpAny_bind (wpAny_dictEntries r.at_ r.dat ?_)));rw [if_neg (by simp)];refine wpAny_bind (wpAny_pure (wpAny_bind (wpAny_dictEpoch r.at_ r.dat ?_)));rw [if_neg (by simp)];refine wpAny_pure ?_;simp only [show ¬ ((i:Int) < 0) from by omega,if_false,Int.toNat_natCast,hx];refine wpAny_bind ?_
 first | refine wpAny_bind (wpAny_typeNameOfWhole_keyiter hit.typeIs (wpAny_pure ?_)) | refine wpAny_bind (wpAny_typeNameOf_keyiter hit.typeIs (wpAny_pure ?_))
 refine wpAny_bind (wpAny_isOneOf_keyiter hit.typeIs ?_);show wpAny _ _ (setField (.ref it) 1 (rawInt ((i:Int) + 1)) >>= _) _ _ s;refine wpAny_bind (wpAny_setField ho hd (by simp) ?_);have hit':(s.heap.update it (Obj.mapFields (·.setIfInBounds 1 (rawInt ((i:Int) + 1))))).IsKeyIter it d (i + 1) es.size ep:=
  ⟨_,Heap.get?_update_self _ ho (Obj.isFreed_of_fields (Obj.data_mapFields hd _)),(Obj.cls_mapFields ..).trans hc,by rw [Obj.data_mapFields hd];simp [rawInt]⟩
 refine wpAny_bind (wpAny_holding (wpAny_bind (wpAny_isOneOf_keyiter (s:={ s with heap:=s.heap.update it (Obj.mapFields (·.setIfInBounds 1 (rawInt ((i:Int) + 1)))) }) hit'.typeIs ?_)));show wpAny _ _ (pure e.key) _ _ _;exact wpAny_pure (wpAny_pure ⟨_,rfl,wpAny_pure (hQ _ hit' (Heap.SameBut.update ..))⟩)
theorem WG {it d:Addr} {o:Obj} {i ep:Nat} {es:Array DictEntry} {Q:Option Value→Shared→Prop} (hh:A.handled=none) (hit:s.heap.IsKeyIter it d i es.size ep) (r:DJ s.heap d o es ep) (hx:es.size ≤ i)
  (hQ:∀ h',Heap.ExtBut it s.heap h'→Q none { s with heap:=h' }):wpAny (model P w) A (pyNext (.ref it)) Q E s:=by
 obtain ⟨oi,ho,hc,hd⟩:=id hit;have hown:Builtin.Dict_items.ownsTuple "dict_keyiterator"=false:=by decide
 unfold pyNext;refine wpAny_bind (wpAny_attempt (wpAny_callSpecial?_slot (name:=Str.ofString "__next__") hit.typeIs F.slot_dict_keyiterator_next
  (wpAny_call_entry F.slot_dict_keyiterator_next hit.typeIs F.entry_dict_keyiterator_next ?_ (F.args_dict_keyiterator_next_1 _))))
 refine wpAny_bind (wpAny_pure (wpAny_bind (wpAny_bind ?_)))
 first | refine wpAny_bind (wpAny_typeNameOfWhole_keyiter hit.typeIs (wpAny_pure ?_)) | refine wpAny_bind (wpAny_typeNameOf_keyiter hit.typeIs (wpAny_pure ?_))
 refine wpAny_bind (wpAny_fieldsOf ho hd ?_);simp only [hown,Bool.false_eq_true,if_false];show wpAny _ _ (if (Value.ref d == Value.none)=true then _ else _) _ _ s;rw [if_neg (show ¬ ((Value.ref d == Value.none)=true) from Bool.false_ne_true)];refine wpAny_bind (wpAny_pure (wpAny_bind (wpAny_dictEntries r.at_ r.dat ?_)));rw [if_neg (by simp)];refine wpAny_bind (wpAny_pure (wpAny_bind (wpAny_dictEpoch r.at_ r.dat ?_)));rw [if_neg (by simp)];refine wpAny_pure ?_;simp only [show ¬ ((i:Int) < 0) from by omega,if_false,Int.toNat_natCast,Array.getElem?_eq_none hx];refine wpAny_bind ?_
 first | refine wpAny_bind (wpAny_typeNameOfWhole_keyiter hit.typeIs (wpAny_pure ?_)) | refine wpAny_bind (wpAny_typeNameOf_keyiter hit.typeIs (wpAny_pure ?_))
 show wpAny _ _ (setField (.ref it) 0 .none >>= _) _ _ s;refine wpAny_bind (wpAny_setField ho hd (by simp) ?_);show wpAny _ _ (newExc (.type "StopIteration") [] >>= _) _ _ _;refine wpAny_bind ?_;simp only [newExc,newTuple];refine wpAny_bind (wpAny_newObj_type ?_ (by size_fits));refine wpAny_bind (m:=firstArgMember _ _) (wpAny_of_eq (a:=Value.none) (by first | rfl | (simp only [firstArgMember];rfl)) ?_);refine wpAny_newObj_type ?_ (by size_fits);simp only [raiseNew];refine wpAny_bind (wpAny_handled ?_);rw [show A.in1.handled=none from hh];refine wpAny_bind (wpAny_pure (wpAny_throw ?_));refine wpAny_bind (wpAny_isInstance (T := "StopIteration") (b:=true) ⟨_,Heap.get?_push_size _ rfl,rfl⟩ isSubtype_stop ?_);exact wpAny_pure (hQ _ (((Heap.SameBut.update ..).extBut.push _).push _))
end
noncomputable def AtO (a:Addr) (o:Obj):Heap→Prop:=fun h=>h.get? a=some o
theorem bE {α β:Type} {F:α→β→Prop} {l₁:List α} {l₂:List β} (r:Paired F l₁ l₂):∀ {i:Nat} {a:α},l₁[i]? = some a→∃ b,l₂[i]? = some b∧F a b:=by
 induction r with
 | nil=>intro i a e;cases e
 | cons h _ ih=>
  intro i a e;cases i with
  | zero=>cases e;exact ⟨_,rfl,h⟩
  | succ j=>exact ih (by simpa using e)
theorem Wp {α β:Type} {F:α→β→Prop} {l₁:List α} {l₂:List β} (r:Paired F l₁ l₂):l₁.length=l₂.length:=by
 induction r with
 | nil=>rfl
 | cons _ _ ih=>simp [ih]
structure TN (P:Program) (w:World) (H:Hp) (a:Addr) (kvs:List (List Key × V)) (o:Obj) (es:Array DictEntry) (ep:Nat) (xs:List (List Key × Addr × Value)):Prop where
 at_:H a=some (.ext (AtO a o))
 ex:o.ExactDict
 dat:o.data=.dict es ep
 ent:es.toList=xs.map (entryOfKey (tupleKind (we P w)))
 nd:(xs.map (·.1)).Nodup
 ks:Paired (fun (p:List Key × V) (q:List Key × Addr × Value)=>p.1=q.1∧H q.2.1=some (.tup (p.1.map kV))∧zd p.2 q.2.2) kvs xs
 sz:kvs.length ≤ sizeLine
 ns:(a == sysModules)=false
noncomputable def Hm (P:Program) (w:World) (H:Hp) (a:Addr) (kvs:List (List Key × V)):Prop:=∃ o es ep xs,TN P w H a kvs o es ep xs
section
variable {P:Program} {w:World} {H H':Hp} {h:Heap} {a:Addr} {kvs:List (List Key × V)}
theorem cc (d:Hm P w H a kvs) (s:ac H H'):Hm P w H' a kvs:=by
 obtain ⟨o,es,ep,xs,r⟩:=d;exact ⟨o,es,ep,xs,s _ _ r.at_,r.ex,r.dat,r.ent,r.nd,Paired.mapP r.ks fun p q z=>⟨z.1,s _ _ z.2.1,z.2.2⟩,r.sz,r.ns⟩
theorem VG {p:Addr} {u:HO} (d:Hm P w H a kvs) (hp:p ≠ a) (ht:∀ xs,H p ≠ some (.tup xs)):Hm P w (upd H p u) a kvs:=by
 obtain ⟨o,es,ep,xs,r⟩:=d;exact ⟨o,es,ep,xs,by rw [Ab (Ne.symm hp)];exact r.at_,r.ex,r.dat,r.ent,r.nd,Paired.mapP r.ks fun q q' z=>⟨z.1,by rw [Ab (fun e=>ht _ (e ▸ z.2.1))];exact z.2.1,z.2.2⟩,r.sz,r.ns⟩
theorem Yp {o:Obj} {es:Array DictEntry} {ep:Nat} {xs:List (List Key × Addr × Value)} (ok:HOk P w H h) (r:TN P w H a kvs o es ep xs):DJ h a o es ep:=
 ⟨(ok a _ r.at_).1,r.ex,r.dat⟩
theorem kD (ok:HOk P w H h) (d:Hm P w H a kvs):Mut (H a)∧(∃ u,h.get? a=some u)∧Bd P w (upd H a (.dT kvs)) h a (.dT kvs):=by
 obtain ⟨o,es,ep,xs,r⟩:=d;have e:=(Yp ok r).at_;refine ⟨by rw [r.at_];exact True.intro,⟨o,e⟩,r.sz,r.ns,xs,Paired.mapP r.ks fun q q' z=>⟨z.1,?_,z.2.2⟩,o,es,ep,e,r.ex,r.dat,r.ent,r.nd⟩;rw [Ab (fun e=>by have:=z.2.1;rw [e,r.at_] at this;cases this)];exact z.2.1
theorem tw (ok:HOk P w H h) (d:Hm P w H a kvs):HOk P w (upd H a (.dT kvs)) h:=
 have z:=kD ok d
 ok.write z.1 (.inl rfl) (fun _ _ _ q=>q) z.2.1 z.2.2
theorem SK {b:Addr} {xs:List V} (d:Hm P w H a kvs) (e:H b=some (.tup xs)):b ≠ a:=fun z=>by
 obtain ⟨o,es,ep,ys,r⟩:=d;have:=r.at_;rw [← z,e] at this;cases this
end
section
variable {X:Cx} {pins:List (Addr × Obj)} {σ:St} {H:Hp} {s:Shared} {a b:Addr} {kvs:List (List Key × V)} {k:List Key} {v:V} {r:Value} {A:Around} {E:Value→Shared→Prop}
theorem Hz {o':HO} (I:Inv X pins σ H s) (mu:Mut (H a)) (ex:∃ u,s.heap.get? a=some u) (new:Bd X.prog X.w (upd H a o') s.heap a o'):Inv X pins σ (upd H a o') s:=
 I.un (t':=s.toks) (h':=s.heap) (Un.write mu (.inl rfl) (fun _ _ _ q=>q) ex) (I.hok.write mu (.inl rfl) (fun _ _ _ q=>q) ex new)
theorem FH (I:Inv X pins σ H s) (d:Hm X.prog X.w H a kvs):Inv X pins σ (upd H a (.dT kvs)) s:=
 have z:=kD I.hok d
 Hz I z.1 z.2.1 z.2.2
theorem RA (I:Inv X pins σ H s) (e:H a=some (.dT kvs)):∃ o,Inv X pins σ (upd H a (.ext (AtO a o))) s∧Hm X.prog X.w (upd H a (.ext (AtO a o))) a kvs:=by
 obtain ⟨z,y,xs,r,o,es,ep,h1,h2,h3,h4,h5⟩:=(show Bd X.prog X.w H s.heap a (.dT kvs) from I.hok a _ e);refine ⟨o,Hz I (by rw [e];exact True.intro) ⟨o,h1⟩ ⟨h1,⟨o,h1⟩,fun _ _ q k=>k o q⟩,o,es,ep,xs,ib ..,h2,h3,h4,h5,Paired.mapP r fun p q z=>⟨z.1,?_,z.2.2⟩,z,y⟩;rw [Ab (fun q=>by have:=z.2.1;rw [q,e] at this;cases this)];exact z.2.1
theorem yN {Q:Value→Shared→Prop} (hu:A.units + 1 < cLine) (I:Inv X pins σ H s) (d:Hm X.prog X.w H a kvs) (eb:H b=some (.tup (k.map kV))) (l:mm kvs k=some v) (h:∀ w' s',Inv X pins σ H s'→zd v w'→Q w' s') :
  wpAny (model X.prog X.w) A (getItem (.ref a) (.ref b)) Q E s:=by
 obtain ⟨z,hd,xs,rel,dd⟩:=aL (tw I.hok d) (ib ..);obtain ⟨w',hw,rw'⟩:=gu.some_of (v:=v) (o:=(atKey xs k).map (·.2)) (by rw [← l];exact rel.val k);obtain ⟨p,hp,hp2⟩:=Option.map_eq_some_iff.mp hw;refine wpAny_getItem_heap (tupleKind_room_in1 hu) (Xq I.hok eb) dd hp ?_;rw [hp2];exact h w' _ (I.tok _) rw'
theorem GO {Q:Value→Shared→Prop} (hu:A.units + 1 < cLine) (I:Inv X pins σ H s) (d:Hm X.prog X.w H a kvs) (eb:H b=some (.tup (k.map kV))) (h:∀ s',Inv X pins σ H s'→Q (.bool (mm kvs k).isSome) s') :
  wpAny (model X.prog X.w) A (compareOp .In (.ref b) (.ref a)) Q E s:=by
 obtain ⟨z,hd,xs,rel,dd⟩:=aL (tw I.hok d) (ib ..);refine wpAny_in_heap (tupleKind_room_in1 hu) (Xq I.hok eb) hd dd ?_;have q:=(rel.val k).isSome_eq;rw [Option.isSome_map] at q;rw [← q];exact h _ (I.tok _)
theorem TM {Q:Unit→Shared→Prop} (hu:A.units + 1 < cLine) (I:Inv X pins σ H s) (d:Hm X.prog X.w H a kvs) (eb:H b=some (.tup (k.map kV))) (hl:kvs.length < sizeLine) (rv:zd v r)
  (h:∀ o s',Inv X pins σ (upd H a (.ext (AtO a o))) s'→Hm X.prog X.w (upd H a (.ext (AtO a o))) a (Wq kvs k v)→Q () s'):wpAny (model X.prog X.w) A (setItem (.ref a) (.ref b) r) Q E s:=by
 refine Xv hu (FH I d) (aH.t (ib ..) (by rw [Ab (SK d eb)];exact eb) hl) (show zd (.ref b) (.ref b) from rfl) rv fun s' I'=>?_
 rw [Em] at I';obtain ⟨o,I2,d2⟩:=RA I' (ib ..);rw [Em] at I2 d2;exact h o s' I2 d2
end
noncomputable def QL (P:Program) (w:World) (td ty:TE):TE:=fun σ H Q=>td σ H fun x H1=>ty σ H1 fun y H2=>∃ a b kvs k v,x=.ref a∧y=.ref b∧Hm P w H2 a kvs∧H2 b=some (.tup (k.map kV))∧mm kvs k=some v∧Q v H2
noncomputable def nP (P:Program) (w:World) (ty td:TE):TE:=fun σ H Q=>ty σ H fun y H1=>td σ H1 fun x H2=>∃ a b kvs k,x=.ref a∧y=.ref b∧Hm P w H2 a kvs∧H2 b=some (.tup (k.map kV))∧Q (.bl (mm kvs k).isSome) H2
noncomputable def aN (P:Program) (w:World) (td ty tv:TE):TS:=fun D σ H=>tv σ H fun v H1=>td σ H1 fun x H2=>ty σ H2 fun y H3=>∃ a b kvs k,x=.ref a∧y=.ref b∧Hm P w H3 a kvs∧H3 b=some (.tup (k.map kV))∧kvs.length < sizeLine∧∀ o,Hm P w (upd H3 a (.ext (AtO a o))) a (Wq kvs k v)→D.nx σ (upd H3 a (.ext (AtO a o)))
noncomputable def XM (P:Program) (w:World):TE:=fun _ H Q=>∀ p o,H p=none→Hm P w (upd H p (.ext (AtO p o))) p []→Q (.ref p) (upd H p (.ext (AtO p o)))
section
variable {X:Cx} {o i e value:Expr} {pos pos' tpos:Pos} {td ty tv:TE}
theorem iF (hu:X.A.units + 1 < cLine) (ho:PE X o td) (hi:PE X i ty) (hs:uO i):PE X (.Subscript o i pos) (QL X.prog X.w td ty):=by
 intro pins s σ H Q I h;refine FD PySem.F.slot_dict_getitem.lookup hs (thn (ho pins s σ H _ I h) fun u s1 ⟨x,H1,I1,rx,q1⟩=>thn (hi pins s1 σ H1 _ I1 q1) fun iv s2 hZ1=>?_);obtain ⟨y,H2,I2,ry,a,b,kvs,k,v,ex,ey,d,eb,l,q2⟩:=hZ1;subst ex ey;obtain rfl:u=Value.ref a:=rx;obtain rfl:iv=Value.ref b:=ry;refine ⟨?_,yN hu I2 d eb l fun w' s3 I3 rw'=>⟨v,H2,I3,rw',q2⟩⟩;obtain ⟨ob,es,ep,xs,r⟩:=d;exact zF (Yp I2.hok r)
theorem Ws (hu:X.A.units + 1 < cLine) (hi:PE X i ty) (ho:PE X o td):PC X .In i o (nP X.prog X.w ty td):=by
 intro pins s σ H Q I h;refine thn (hi pins s σ H _ I h) fun iv s1 ⟨y,H1,I1,ry,q1⟩=>thn (ho pins s1 σ H1 _ I1 q1) fun u s2 hZ1=>?_
 obtain ⟨x,H2,I2,rx,a,b,kvs,k,ex,ey,d,eb,q2⟩:=hZ1;subst ex ey;obtain rfl:u=Value.ref a:=rx;obtain rfl:iv=Value.ref b:=ry;exact GO hu I2 d eb fun s3 I3=>⟨.bl (mm kvs k).isSome,H2,I3,rfl,q2⟩
theorem my (hu:X.A.units + 1 < cLine) (ho:PE X o td) (hi:PE X i ty) (hv:PE X value tv) (hs:swapsWith value (some (.Subscript o i pos')) pos.line X.env=pure false) :
  PS X (.Assign [.Subscript o i pos'] value pos) (aN X.prog X.w td ty tv):=by
 intro pins s σ H D I h;refine wpAny_Assign_Subscript (thn (hv pins s σ H _ I h) fun r s1 ⟨v,H1,I1,rv,q1⟩=>thn (ho pins s1 σ H1 _ I1 q1) fun u s2 ⟨x,H2,I2,rx,q2⟩=>thn (hi pins s2 σ H2 _ I2 q2) fun iv s3 hZ1=>?_) hs;obtain ⟨y,H3,I3,ry,a,b,kvs,k,ex,ey,d,eb,hl,q3⟩:=hZ1;subst ex ey;obtain rfl:u=Value.ref a:=rx;obtain rfl:iv=Value.ref b:=ry;exact TM hu I3 d eb hl rv fun ob s4 I4 d4=>⟨σ,_,I4,q3 ob d4⟩
theorem yF:PE X (.Dict [] [] pos) (XM X.prog X.w):=fun pins s σ H Q I h=>by
 refine thn (JH pins s σ H (fun x H1=>∃ p,x=.ref p∧H p=none∧H1=upd H p (.dT [])) I fun p hp=>⟨p,rfl,hp,rfl⟩) fun v s1 hZ1=>?_
 obtain ⟨x,H1,I1,r1,p,ex,hp,eH⟩:=hZ1;subst ex eH;obtain ⟨o,I2,d2⟩:=RA I1 (ib ..);rw [Em] at I2 d2;exact ⟨.ref p,_,I2,r1,h p o hp d2⟩
end
noncomputable def Itk (d:Addr) (o:Obj) (kvs:List (List Key × V)) (xs:List (List Key × Addr × Value)):It:=
 ⟨fun i H=>H d=some (.ext (AtO d o))∧i < kvs.length,fun i H x H'=>H'=H∧∃ k b u,xs[i]? = some (k,b,u)∧x=.ref b,fun i H=>H d=some (.ext (AtO d o))∧kvs.length ≤ i⟩
theorem cI {P:Program} {w:World} {K:PySem.W.Frag} {tg:Expr} {d it:Addr} {o:Obj} {es:Array DictEntry} {ep:Nat} {kvs:List (List Key × V)} {xs:List (List Key × Addr × Value)} (ex:o.ExactDict) (ho:o.data=.dict es ep)
  (ent:es.toList=xs.map (entryOfKey (tupleKind (we P w)))) (hl:kvs.length=xs.length):rG P w K tg (Itk d o kvs xs) [it] it (fun i h=>h.IsKeyIter it d i es.size ep) where
 mem:=by simp
 obj:=fun i h st b hb=>by
  have e:b=it:=by simpa using hb
  subst e;obtain ⟨o,e,c,d⟩:=st;exact ⟨o,e,fun v z=>by rw [d] at z;cases z⟩
 keep:=fun i h h' st k=>st.at fun o e=>k it (by simp) o e
 item:=by
  intro X hP hw hK hc i pins s σ H E I hf st hg;subst hP hw hK;obtain ⟨hq,hx⟩:=hg;have r:DJ s.heap d o es ep:=⟨(I.hok d _ hq).1,ex,ho⟩;obtain ⟨f0,f1,f2,f3,f4,f5⟩:=hf it (by simp);obtain ⟨q,hq2⟩:∃ q,xs[i]? = some q:=⟨_,List.getElem?_eq_getElem (by omega)⟩;refine mE st r (e:=entryOfKey (tupleKind (we X.prog X.w)) q) (by rw [entry_at ent,hq2];rfl) fun h' st' sb=>?_
  have I1:Inv X pins σ H { s with heap:=h' }:=I.turned (t':=s.toks) (fun b o hb e=>(sb.2 b hb).trans e) f0 f1 f3 f4 f5;obtain ⟨o2,e,c,dd⟩:=id st';exact ⟨_,rfl,QE (s:={ s with heap:=h' }) e c dd (by decide) ⟨.ref q.2.1,H,I1,rfl,⟨rfl,q.1,q.2.1,q.2.2,hq2,rfl⟩,st',fun b hb=>(hf b hb).1⟩⟩
 done:=by
  intro X hP hw hK hc i pins s σ H E I hf st hg;subst hP hw hK;obtain ⟨hq,hx⟩:=hg;have r:DJ s.heap d o es ep:=⟨(I.hok d _ hq).1,ex,ho⟩;obtain ⟨f0,f1,f2,f3,f4,f5⟩:=hf it (by simp);have hz:es.size=xs.length:=size_of_entries ent;exact WG (I.ok.hd hc) st r (by omega) fun h' eb=>⟨rfl,I.turned (t':=s.toks) (fun b o hb e=>eb b o hb e) f0 f1 f3 f4 f5⟩
 self:=fun _ _ _ _ _ st h=>wpAny_pyIter_keyiter st h
section
variable {X:Cx} {tg:Expr}
noncomputable def FP (P:Program) (w:World) (tl:TE):TI:=fun σ H R=>tl σ H fun x H1=>∃ d kvs,x=.ref d∧Hm P w H1 d kvs∧∀ o es ep xs,TN P w H1 d kvs o es ep xs→R (Itk d o kvs xs) H1
theorem yD {l:Expr} {tl:TE} (hl:PE X l tl):PI X tg l (FP X.prog X.w tl):=by
 intro pins s σ H R I h;refine thn (hl pins s σ H _ I h) fun v s1 hZ1=>?_
 obtain ⟨x,H1,I1,r1,q1⟩:=hZ1;obtain ⟨d,kvs,e,⟨o,es,ep,xs,r⟩,q⟩:=q1;subst e;cases r1;refine GE r.ns (Yp I1.hok r) ?_;refine ⟨s1.heap.objs.size,[s1.heap.objs.size],_,_,_,rfl,I1.kept (t':=s1.toks) fun b o e=>Heap.get?_push_of_some _ e,cI r.ex r.dat r.ent (Wp r.ks),⟨_,Heap.get?_push_size _ rfl,rfl,rfl⟩,fun b hb=>?_,q o es ep xs r⟩;have e:b=s1.heap.objs.size:=by simpa using hb
 subst e;exact I1.fpOk (Nat.le_refl _) (I1.hok.fresh (Nat.le_refl _))
end
end L2
namespace L2
open PySem PySem.Spec PyProof.Rows
noncomputable def yO (p d:Addr):Heap→Prop:=fun h=>h.IsItemsView p d
theorem yO.ok {P:Program} {w:World} {H:Hp} {h:Heap} {p d:Addr} (z:yO p d h):Bd P w H h p (.ext (yO p d)):=
 ⟨z,let ⟨o,ho,_⟩:=z;⟨o,ho⟩,fun _ _ z1 k=>let ⟨o,ho,x⟩:=z1;⟨o,k o ho,x⟩⟩
structure pO (H H':Hp) (l:Addr) (as:List Addr) (kvs:List (Key × V)):Prop where
 same:∀ b o,H b=some o→H' b=some o
 fresh:H l=none
 frAll:∀ a ∈ as,H a=none
 at_:H' l=some (.lst (as.map V.ref))
 len:as.length=kvs.length
 al:∀ (j:Nat) (a:Addr) (q:Key × V),as[j]? = some a→kvs[j]? = some q→H' a=some (.tup [kV q.1,q.2])
 only:∀ b o,H' b=some o→H b=some o∨o=.lst (as.map V.ref)∨∃ q ∈ kvs,o=.tup [kV q.1,q.2]
section
variable {X:Cx}
end
end L2
namespace L2
open PySem PySem.Spec PyProof.Rows
section
open AutoSeq1 (wpAny_loadPart')
open MeetsSeq MeetsSeq2 MeetsSeq3 SeqRoads2
variable {P:Program} {w:World} {l b:Addr} {xs ys:Array Value} {n m:Nat} {dd de:Option Addr} {sl sm:Array (Option Value)}
end
section
variable {X:Cx} {pins:List (Addr × Obj)} {σ:St} {H:Hp} {s:Shared}
structure DL (H:Hp) (p:Addr) (ps:List Addr) (ks:List (List (Key × V))):Prop where
 at_:H p=some (.lst (ps.map V.ref))
 len:ps.length=ks.length
 al:∀ (j:Nat) (a:Addr) (kvs:List (Key × V)),ps[j]? = some a→ks[j]? = some kvs→H a=some (.dK kvs)
end
section
variable {X:Cx}
end
end L2
namespace L2
open PySem PySem.Spec PyProof.Rows
section
variable {X:Cx} {pins:List (Addr × Obj)} {σ:St} {H:Hp} {s:Shared} {d:Addr} {o:Obj} {kvs:List (Key × V)}
end
section
variable {X:Cx} {tg:Expr}
end
end L2
namespace L2
open PySem PySem.Spec PyProof.Rows
structure YN (X:Cx) (pins:List (Addr × Obj)) (H:Hp) (S:Addr):Prop where
 nn:H S=none
 nl:S ≠ X.env.locals
 ge:X.s₀.heap.objs.size ≤ S
 nc:∀ x c,X.env.cells.lookup x=some c→c ≠ S
 np:∀ p ∈ X.pn ++ pins,p.1 ≠ S
 nf:S ∉ X.fs
theorem YN.of {X:Cx} {pins:List (Addr × Obj)} {σ:St} {H:Hp} {s:Shared} {S:Addr} (I:Inv X pins σ H s) (h:s.heap.objs.size ≤ S):YN X pins H S:=
 ⟨I.hok.fresh h,fun z=>absurd (Nat.lt_of_lt_of_le I.lt h) (by rw [z];exact Nat.lt_irrefl _),Nat.le_trans I.sz h,fun x c e z=>by
  obtain ⟨v,o,ho,_⟩:=I.cell x c e;exact absurd (Nat.lt_of_lt_of_le (Heap.lt_size ho) h) (by rw [z];exact Nat.lt_irrefl _),fun p hp z=>by
  have ho:=(I.pin p hp).1;exact absurd (Nat.lt_of_lt_of_le (Heap.lt_size ho) h) (by rw [z];exact Nat.lt_irrefl _),I.nofs h⟩
theorem YN.turn {X:Cx} {pins:List (Addr × Obj)} {σ:St} {H:Hp} {s:Shared} {S:Addr} {h':Heap} {t':Nat} (o:YN X pins H S) (I:Inv X pins σ H s) (k:∀ b o,b ≠ S→s.heap.get? b=some o→h'.get? b=some o):Inv X pins σ H { s with heap:=h',toks:=t' }:=
 I.turned k o.nn o.nl (.inr o.ge) o.nc o.np
section
variable {X:Cx} {A:Around} {pins:List (Addr × Obj)} {σ:St} {H:Hp} {l q I S:Addr} {n:Nat} {P:Nat→Value→Prop} {R:Result→Shared→Prop}
end
end L2
namespace L2
open PySem PySem.Spec PyProof.Rows
structure WP (p y z:Str) (sc:Scope):Prop where
 kind:sc.kind=.function
 co:sc.isCoroutine=false
 gen:sc.isGenerator=false
 ne:y ≠ z
 par:sc.names.lookup p=some .local
 yf:sc.names.lookup y=some .free
 zf:sc.names.lookup z=some .free
 nocell:∀ z ∈ sc.names,z.2 ≠ .cell
 two:∀ b ∈ sc.names,b.2=.free→b.1=y∨b.1=z
section
variable {X:Cx} {A:Around} {pins:List (Addr × Obj)} {σ:St} {H:Hp} {s:Shared} {k:Nat} {f c' c1 c2:Addr} {q p y z:Str} {params:Arguments} {body:Expr} {scope:Scope} {v1 v2:V} {t:TE}
end
end L2
namespace L2
open PySem PySem.Spec PyProof.Rows
theorem SqL.p {K:PySem.W.Frag} {H H':Hp} {a Pt:Addr} {xs:List V} {pos:Pos} {q:Str} (s:Yv Pt H H') (t:Tab H Pt pos q) (h:SqL K H a xs):SqL K H' a xs:=by
 rcases h with (h | ⟨o,h⟩) | h
 ·exact .inl (.inl (s _ _ (t.ne h (fun _ z=>by cases z)) h))
 ·exact .inl (.inr ⟨o,s _ _ (t.ne h (fun _ z=>by cases z)) h⟩)
 ·exact .inr h
end L2
namespace L2
open PySem PySem.Spec PyProof.Rows
end L2
namespace L2
open PySem PySem.Spec PyProof.Rows
end L2
namespace L2
open PySem PySem.Spec PyProof.Rows
end L2
namespace L2
open PySem PySem.Spec PyProof.Rows
end L2
namespace L2
open PySem PySem.Spec PyProof.Rows
theorem vE (i:Nat) (σ:St) (H:Hp) (Q:VK):zO i σ H Q=(QI H Q σ[i]?):=rfl
theorem eM (v:V) (x_0:St) (H:Hp) (Q:VK):tC v x_0 H Q=(Q v H):=rfl
theorem NN (t:TE) (σ:St) (H:Hp) (Q:(Bool→Hp→Prop)):tB t σ H Q=(t σ H fun x H1=>BlQ x fun c=>Q c H1):=rfl
theorem WE (t u:TT) (σ:St) (H:Hp) (Q:(Bool→Hp→Prop)):iP t u σ H Q=(t σ H fun c H1=>if c=true then u σ H1 Q else Q false H1):=rfl
theorem RI (t u:TT) (σ:St) (H:Hp) (Q:(Bool→Hp→Prop)):tOr t u σ H Q=(t σ H fun c H1=>if c=true then Q true H1 else u σ H1 Q):=rfl
theorem JD (t:TT) (σ:St) (H:Hp) (Q:(Bool→Hp→Prop)):bP t σ H Q=(t σ H fun c H1=>Q (!c) H1):=rfl
theorem iz (ta tb:TE) (σ:St) (H:Hp) (Q:VK):ZL ta tb σ H Q=(ta σ H fun x H1=>BlQ x fun c=>if c=true then tb σ H1 Q else Q (.bl false) H1):=rfl
theorem aE (ta tb:TE) (σ:St) (H:Hp) (Q:VK):aP ta tb σ H Q=(ta σ H fun x H1=>BlQ x fun c=>if c=true then Q (.bl true) H1 else tb σ H1 Q):=rfl
theorem lz (ta:TE) (σ:St) (H:Hp) (Q:VK):rN ta σ H Q=(ta σ H fun x H1=>BlQ x fun c=>Q (.bl (!c)) H1):=rfl
theorem xJ (t:TT) (ta tb:TE) (σ:St) (H:Hp) (Q:VK):tIf t ta tb σ H Q=(t σ H fun c H1=>if c=true then ta σ H1 Q else tb σ H1 Q):=rfl
theorem Xb (D:Xj) (σ:St) (H:Hp):MN  D σ H=(D.nx σ H):=rfl
theorem xb (t u:TS) (D:Xj) (σ:St) (H:Hp):GP t u D σ H=(t { D with nx:=u D } σ H):=rfl
theorem MA (te:TE) (D:Xj) (σ:St) (H:Hp):DN te D σ H=(te σ H fun _ H1=>D.nx σ H1):=rfl
theorem gG (te:TE) (D:Xj) (σ:St) (H:Hp):ZN te D σ H=(te σ H D.rt):=rfl
theorem Ww (x_0:Xj) (x_1:St) (x_2:Hp):JI  x_0 x_1 x_2=(False):=rfl
theorem lf (i:Nat) (v:V) (σ:St) (H:Hp) (Q:(St→Hp→Prop)):ms i v σ H Q=(Q (σ.set i (some v)) H):=rfl
theorem SF (vs:List V) (σ:St) (H:Hp) (Q:(St→Hp→Prop)):XN  vs σ H Q=(vs=[]∧Q σ H):=rfl
theorem CA (t:TG) (u:TGs) (vs:List V) (σ:St) (H:Hp) (Q:(St→Hp→Prop)):MB t u vs σ H Q=(∃ v r,vs=v :: r∧t v σ H fun σ' H'=>u r σ' H' Q):=rfl
theorem LD (K:PySem.W.Frag) (n:Nat) (t:TGs) (v:V) (σ:St) (H:Hp) (Q:(St→Hp→Prop)):JM K n t v σ H Q=(∃ a xs,v=.ref a∧SqT K H a xs∧xs.length=n∧t xs σ H Q):=rfl
theorem TD (to ti:TE) (t:RN) (v:V) (σ:St) (H:Hp) (Q:(St→Hp→Prop)):BP to ti t v σ H Q=(to σ H fun o H1=>ti σ H1 fun i H2=>t o i v H2 fun H3=>Q σ H3):=rfl
theorem PD (te:TE) (g:TG) (D:Xj) (σ:St) (H:Hp):HL te g D σ H=(te σ H fun x H1=>g x σ H1 D.nx):=rfl
theorem eE (i:Nat) (te:TE) (ti:TIp) (D:Xj) (σ:St) (H:Hp):dP i te ti D σ H=(∃ x,σ[i]? = some (some x)∧te σ H fun y H1=>ti x y H1 fun z H2=>D.nx (σ.set i (some z)) H2):=rfl
theorem jA (K:PySem.W.Frag) (tl:TE) (σ:St) (H:Hp) (R:(It→Hp→Prop)):PN K tl σ H R=(tl σ H fun x H1=>Xh x fun a=>(∃ xs,SqL K H1 a xs)∧R (Itl K a) H1):=rfl
theorem kE (K:PySem.W.Frag) (tl:TE) (σ:St) (H:Hp) (R:(It→Hp→Prop)):sP K tl σ H R=(tl σ H fun x H1=>Xh x fun a=>(∃ xs,SqT K H1 a xs)∧R (Itt K a) H1):=rfl
theorem EI (r:R2) (ta tb:TE) (σ:St) (H:Hp) (Q:VK):tOp r ta tb σ H Q=(ta σ H fun x H1=>tb σ H1 fun y H2=>r x y H2 Q):=rfl
theorem aJ (r:V→Hp→VK→Prop) (ta:TE) (σ:St) (H:Hp) (Q:VK):tUn r ta σ H Q=(ta σ H fun x H1=>r x H1 Q):=rfl
theorem vM (C:Int→Int→Prop) (g:Int→Int→V) (x:V) (y:V) (H:Hp) (Q:VK):rI C g x y H Q=(Wj x fun i=>Wj y fun j=>C i j∧Q (g i j) H):=rfl
theorem zJ (g:Int→Int→V) (x:V) (y:V) (H:Hp) (Q:VK):rI0 g x y H Q=(Wj x fun i=>Wj y fun j=>Q (g i j) H):=rfl
theorem PM (g:Int→V) (x:V) (H:Hp) (Q:VK):rU g x H Q=(Wj x fun i=>Q (g i) H):=rfl
theorem ZI (x:V) (y:V) (H:Hp) (Q:VK):rEq  x y H Q=(dM x y=true∧Q (.bl (decide (x=y))) H):=rfl
theorem GJ (x:V) (y:V) (H:Hp) (Q:VK):rNe  x y H Q=(dM x y=true∧Q (.bl (!decide (x=y))) H):=rfl
theorem pA (t:TE) (σ:St) (H:Hp) (Q:(Bool→Hp→Prop)):KN t σ H Q=(t σ H fun x H'=>BlQ x fun k=>Q k H'):=rfl
theorem Vw (r r':R2) (ta tb tc:TE) (σ:St) (H:Hp) (Q:VK):qJ r r' ta tb tc σ H Q=(ta σ H fun x H1=>tb σ H1 fun y H2=>r x y H2 fun z H3=>BlQ z fun k=>
 (if k=true then tc σ H3 fun w' H4=>r' y w' H4 Q else Q (.bl false) H3)):=rfl
theorem pF (K:PySem.W.Frag) (ta:TE) (f:Str) (σ:St) (H:Hp) (Q:VK):rP K ta f σ H Q=(ta σ H fun x H1=>Xh x fun a=>∃ v,Rl K H1 a f v∧Q v H1):=rfl
theorem ZD (K:PySem.W.Frag) (ta tv:TE) (f:Str) (D:Xj) (σ:St) (H:Hp):wP K ta tv f D σ H=(tv σ H fun y H1=>ta σ H1 fun x H2=>Xh x fun a=>∃ C dx fs,H2 a=some (.ins C dx fs)∧Cls K C∧kc K C f∧fs.length < 1000 ∧
 D.nx σ (upd H2 a (.ins C dx (sj f y fs)))):=rfl
theorem At (K:PySem.W.Frag) (ta tv:TE) (rd:V→V→Hp→VK→Prop) (f:Str) (D:Xj) (σ:St) (H:Hp):SE K ta tv rd f D σ H=(ta σ H fun x H1=>∃ a C dx fs v,x=.ref a∧H1 a=some (.ins C dx fs)∧Cls K C∧kc K C f∧fs.lookup f=some v ∧
 tv σ H1 fun y H2=>rd v y H2 fun z H3=>∃ dx' fs',H3 a=some (.ins C dx' fs')∧fs'.length < 1000∧D.nx σ (upd H3 a (.ins C dx' (sj f z fs')))):=rfl
theorem OF (x:V) (y:V) (H:Hp) (Q:VK):HP  x y H Q=(∃ i j,x=.int i∧y=.int j∧Q (.int (i + j)) H):=rfl
theorem fG (x_0:St) (H:Hp) (Q:(List V→Hp→Prop)):UN  x_0 H Q=(Q [] H):=rfl
theorem rA (ta:TE) (tr:TA) (σ:St) (H:Hp) (Q:(List V→Hp→Prop)):CM ta tr σ H Q=(ta σ H fun x H1=>tr σ H1 fun xs H2=>Q (x :: xs) H2):=rfl
theorem uD (t:TA) (σ:St) (H:Hp) (Q:VK):lP t σ H Q=(t σ H fun xs H1=>xs.length ≤ sizeLine∧∀ p,H1 p=none→Q (.ref p) (upd H1 p (.tup xs))):=rfl
theorem AD (t:TA) (σ:St) (H:Hp) (Q:VK):pP t σ H Q=(t σ H fun xs H1=>xs.length ≤ sizeLine∧∀ p,H1 p=none→Q (.ref p) (upd H1 p (.lst xs))):=rfl
theorem uA (sp:Sp) (dvs:List V) (E:XK) (t:TA) (σ:St) (H:Hp) (Q:VK):jH sp dvs E t σ H Q=(t σ H fun vs H1=>sp (vs ++ dvs) H1 Q E):=rfl
theorem VA (C:Addr) (m:Str) (sp:Sp) (dvs:List V) (E:XK) (ta:TE) (t:TA) (σ:St) (H:Hp) (Q:VK):BK C m sp dvs E ta t σ H Q=(ta σ H fun x H1=>Xh x fun a=>∃ dx fs,H1 a=some (.ins C dx fs)∧fs.lookup m=none ∧
 t σ H1 fun vs H2=>sp (x :: (vs ++ dvs)) H2 Q E):=rfl
theorem AA (C:Addr) (sp:Sp) (dvs:List V) (E:XK) (t:TA) (σ:St) (H:Hp) (Q:VK):qN C sp dvs E t σ H Q=(t σ H fun vs H1=>∀ x dx,H1 x=none→H1 dx=none→dx ≠ x →
 sp (.ref x :: (vs ++ dvs)) (upd (upd H1 dx (.own x)) x (.ins C dx [])) (fun v H2=>v=.non∧Q (.ref x) H2) E):=rfl
theorem DI (r:List V→Hp→VK→Prop) (t:TA) (σ:St) (H:Hp) (Q:VK):tCB r t σ H Q=(t σ H fun vs H1=>r vs H1 Q):=rfl
theorem au (x_0:St) (H:Hp) (Q:(Option Int→Hp→Prop)):vD  x_0 H Q=(Q none H):=rfl
theorem wz (t:TE) (σ:St) (H:Hp) (Q:(Option Int→Hp→Prop)):KL t σ H Q=(t σ H fun x H1=>Wj x fun i=>Q (some i) H1):=rfl
theorem NI (r:V→Option Int→Option Int→Hp→VK→Prop) (te:TE) (tl th:TO) (σ:St) (H:Hp) (Q:VK):tSl r te tl th σ H Q=(te σ H fun x H1=>tl σ H1 fun l H2=>th σ H2 fun u H3=>r x l u H3 Q):=rfl
theorem ZF (K:PySem.W.Frag) (x:V) (lo:Option Int) (hi:Option Int) (H:Hp) (Q:VK):fP K x lo hi H Q=(∃ a xs,x=.ref a∧SqT K H a xs ∧
 ¬ (HT.sIx xs.length 0 lo=0∧HT.sIx xs.length xs.length hi=xs.length)∧∀ p,H p=none→Q (.ref p) (upd H p (.tup (uC xs lo hi)))):=rfl
theorem Pz (K:PySem.W.Frag) (x:V) (y:V) (H:Hp) (Q:VK):sM K x y H Q=(∃ a b xs ys,x=.ref a∧y=.ref b∧SqT K H a xs∧SqT K H b ys∧xs ≠ []∧xs.length + ys.length ≤ sizeLine ∧
 (ys=[]→Q (.ref a) H)∧(ys ≠ []→∀ p,H p=none→Q (.ref p) (upd H p (.tup (xs ++ ys))))):=rfl
theorem vF (K:PySem.W.Frag) (x:V) (y:V) (H:Hp) (Q:VK):tP K x y H Q=(Xh x fun p=>∃ xs,Wj y fun i=>SqL K H p xs∧∃ v,atI xs i=some v∧Q v H):=rfl
theorem sE (K:PySem.W.Frag) (x:V) (y:V) (H:Hp) (Q:VK):LP K x y H Q=(Xh x fun p=>∃ xs,Wj y fun i=>SqT K H p xs∧∃ v,atI xs i=some v∧Q v H):=rfl
theorem FE (x:V) (y:V) (H:Hp) (Q:VK):KP  x y H Q=(∃ z i c,x=.str z∧y=.int i∧z.length ≤ sizeLine∧atI z.cps.toList i=some c∧Q (.str ⟨#[c]⟩) H):=rfl
theorem Dz (o:V) (i:V) (v:V) (H:Hp) (Q:(Hp→Prop)):FM  o i v H Q=(Xh o fun p=>∃ xs,Wj i fun k=>H p=some (.lst xs)∧∃ j,ixN xs.length k=some j∧Q (upd H p (.lst (xs.set j v)))):=rfl
theorem ED (K:PySem.W.Frag) (x:V) (lo:Option Int) (hi:Option Int) (H:Hp) (Q:VK):mP K x lo hi H Q=(∃ a xs,x=.ref a∧SqL K H a xs∧∀ p,H p=none→Q (.ref p) (upd H p (.lst (uC xs lo hi)))):=rfl
theorem BJ (K:PySem.W.Frag) (neg:Bool) (x:V) (y:V) (H:Hp) (Q:VK):rIn K neg x y H Q=(∃ p xs,y=.ref p∧(SqL K H p xs∨SqT K H p xs)∧Jl x=true∧xs.all Jl=true∧Q (.bl (if neg then !inV x xs else inV x xs)) H):=rfl
theorem BD (K:PySem.W.Frag) (T:String) (r:V→List V→Hp→VK→Prop) (to:TE) (σ:St) (H:Hp) (Q:VK):DP K T r to σ H Q=(to σ H fun x H1=>tyV K T x H1∧r x [] H1 Q):=rfl
theorem yJ (K:PySem.W.Frag) (T:String) (r:V→List V→Hp→VK→Prop) (to:TE) (t:TA) (σ:St) (H:Hp) (Q:VK):tBM K T r to t σ H Q=(to σ H fun x H1=>tyV K T x H1∧t σ H1 fun xs H2=>r x xs H2 Q):=rfl
theorem Et (x:V) (vs:List V) (H:Hp) (Q:VK):eG  x vs H Q=(Xh x fun l=>EB vs fun y=>∃ xs,H l=some (.lst xs)∧xs.length < sizeLine∧Q .non (upd H l (.lst (xs ++ [y])))):=rfl
theorem Zt (x:V) (vs:List V) (H:Hp) (Q:VK):nF  x vs H Q=(∃ l b xs zs,x=.ref l∧vs=[.ref b]∧H l=some (.lst xs)∧H b=some (.lst zs)∧xs.length + zs.length ≤ sizeLine∧Q .non (upd H l (.lst (xs ++ zs)))):=rfl
theorem bq (x:V) (vs:List V) (H:Hp) (Q:VK):Yz  x vs H Q=(∃ l xs,x=.ref l∧vs=[]∧H l=some (.lst xs)∧Q .non (upd H l (.lst xs.reverse))):=rfl
theorem ax (x:V) (vs:List V) (H:Hp) (Q:VK):vJ  x vs H Q=(∃ l xs,x=.ref l∧vs=[]∧H l=some (.lst xs)∧Q .non (upd H l (.lst []))):=rfl
theorem gE (x:V) (y:V) (H:Hp) (Q:VK):vP  x y H Q=(∃ l b xs zs,x=.ref l∧y=.ref b∧H l=some (.lst xs)∧H b=some (.lst zs)∧xs.length + zs.length ≤ sizeLine∧∀ p,H p=none→Q (.ref p) (upd H p (.lst (xs ++ zs)))):=rfl
theorem Jz (td ty:TE) (σ:St) (H:Hp) (Q:VK):oM td ty σ H Q=(td σ H fun x H1=>ty σ H1 fun y H2=>Xh x fun a=>∃ v,UB H2 a y (some v)∧Q v H2):=rfl
theorem Zs (ty td:TE) (σ:St) (H:Hp) (Q:VK):BC ty td σ H Q=(ty σ H fun y H1=>td σ H1 fun x H2=>Xh x fun a=>∃ o,UB H2 a y o∧Q (.bl (!o.isSome)) H2):=rfl
theorem iA (td ty tv:TE) (D:Xj) (σ:St) (H:Hp):cN td ty tv D σ H=(tv σ H fun v H1=>td σ H1 fun x H2=>ty σ H2 fun y H3=>Xh x fun a=>∃ H4,aH H3 a y v H4∧D.nx σ H4):=rfl
theorem Lv (x_0:St) (H:Hp) (Q:VK):iJ  x_0 H Q=(∀ p,H p=none→Q (.ref p) (upd H p (.dK []))):=rfl
theorem nw (x_0:St) (H:Hp) (Q:VK):xI  x_0 H Q=(∀ p,H p=none→Q (.ref p) (upd H p (.dT []))):=rfl
theorem bz (x_0:St) (H:Hp) (Q:(Bool→Hp→Prop)):Pw  x_0 H Q=(Q true H):=rfl
theorem AC (tl:TE) (σ:St) (H:Hp) (R:(It→Hp→Prop)):zP tl σ H R=(tl σ H fun x H1=>∃ z,x=.str z∧R (Its (Mj z)) H1):=rfl
theorem AE (x:V) (lo:Option Int) (hi:Option Int) (H:Hp) (Q:VK):IP  x lo hi H Q=(∃ z,x=.str z∧z.length ≤ sizeLine∧Q (.str (Txt.slice z lo hi)) H):=rfl
theorem OA (K:PySem.W.Frag) (x:V) (vs:List V) (H:Hp) (Q:VK):LN K x vs H Q=(∃ sep p ys,x=.str sep∧vs=[.ref p]∧SqL K H p (Lc ys)∧(ys.map (·.length)).sum + ys.length * sep.length ≤ 16777216∧Q (.str (Txt.join sep ys)) H):=rfl
theorem Gw (x:V) (vs:List V) (H:Hp) (Q:VK):vI  x vs H Q=(∃ z y,x=.str z∧vs=[.str y]∧y.length ≠ 0∧z.length + 2 ≤ sizeLine∧(Txt.split z y).length ≤ sizeLine∧∀ p,H p=none→Q (.ref p) (upd H p (.lst (Lc (Txt.split z y))))):=rfl
theorem Cw (OK:Addr→Prop) (m:Str) (SPV:Addr→Sp) (E:XK) (ta:TE) (t:TA) (σ:St) (H:Hp) (Q:VK):HJ OK m SPV E ta t σ H Q=(ta σ H fun x H1=>∃ a C dx fs,x=.ref a∧H1 a=some (.ins C dx fs)∧OK C∧fs.lookup m=none ∧
 t σ H1 fun vs H2=>SPV C (x :: vs) H2 Q E):=rfl
theorem dA (K:PySem.W.Frag) (ta:TA) (σ:St) (H:Hp) (R:(It→Hp→Prop)):pM K ta σ H R=(ta σ H fun vs H1=>∃ a,vs=[.ref a]∧(∃ xs,SqL K H1 a xs)∧R (Ite K a) H1):=rfl
theorem sD (K:PySem.W.Frag) (ta:TA) (σ:St) (H:Hp) (R:(It→Hp→Prop)):JP K ta σ H R=(ta σ H fun vs H1=>∃ a b,vs=[.ref a,.ref b]∧(∃ xs,SqL K H1 a xs)∧(∃ ys,SqL K H1 b ys)∧R (Itz K a b) H1):=rfl
theorem ID (K:PySem.W.Frag) (x:V) (y:V) (H:Hp) (Q:VK):cP K x y H Q=(∃ p q b,x=.ref p∧y=.ref q∧EqH K H 8 (.ref p) (.ref q) b∧Q (.bl (!b)) H):=rfl
theorem iG (K:PySem.W.Frag) (neg:Bool) (x:V) (y:V) (H:Hp) (Q:VK):wO K neg x y H Q=(∃ p qs f,y=.ref p∧SqL K H p (List.map V.ref qs)∧(∀ q ∈ qs,EqH K H 8 (.ref q) x (f q))∧Q (.bl (if neg then !(qs.any f) else qs.any f)) H):=rfl
theorem gA (x:V) (vs:List V) (H:Hp) (Q:VK):wx  x vs H Q=(∃ d kvs,x=.ref d∧vs=[]∧H d=some (.dK kvs)∧∀ p,H p=none→Q (.ref p) (upd H p (.ext (SM p d)))):=rfl
theorem BA (P:Program) (w:World) (td ty:TE) (σ:St) (H:Hp) (Q:VK):QL P w td ty σ H Q=(td σ H fun x H1=>ty σ H1 fun y H2=>∃ a b kvs k v,x=.ref a∧y=.ref b∧Hm P w H2 a kvs∧H2 b=some (.tup (k.map kV))∧mm kvs k=some v∧Q v H2):=rfl
theorem wF (P:Program) (w:World) (ty td:TE) (σ:St) (H:Hp) (Q:VK):nP P w ty td σ H Q=(ty σ H fun y H1=>td σ H1 fun x H2=>∃ a b kvs k,x=.ref a∧y=.ref b∧Hm P w H2 a kvs∧H2 b=some (.tup (k.map kV))∧Q (.bl (mm kvs k).isSome) H2):=rfl
theorem Wy (P:Program) (w:World) (td ty tv:TE) (D:Xj) (σ:St) (H:Hp):aN P w td ty tv D σ H=(tv σ H fun v H1=>td σ H1 fun x H2=>ty σ H2 fun y H3=>∃ a b kvs k,x=.ref a∧y=.ref b∧Hm P w H3 a kvs∧H3 b=some (.tup (k.map kV))∧kvs.length < sizeLine∧∀ o,Hm P w (upd H3 a (.ext (AtO a o))) a (Wq kvs k v)→D.nx σ (upd H3 a (.ext (AtO a o)))):=rfl
theorem Oy (P:Program) (w:World) (x_0:St) (H:Hp) (Q:VK):XM P w x_0 H Q=(∀ p o,H p=none→Hm P w (upd H p (.ext (AtO p o))) p []→Q (.ref p) (upd H p (.ext (AtO p o)))):=rfl
theorem sF (P:Program) (w:World) (tl:TE) (σ:St) (H:Hp) (R:(It→Hp→Prop)):FP P w tl σ H R=(tl σ H fun x H1=>∃ d kvs,x=.ref d∧Hm P w H1 d kvs∧∀ o es ep xs,TN P w H1 d kvs o es ep xs→R (Itk d o kvs xs) H1):=rfl
noncomputable def Zj (J:It) (g:TG) (tb:TS) (D:Xj) (σ:St) (H:Hp):Prop:=∃ W:Nat→Nat→St→Hp→Prop,(∃ m,W 0 m σ H)∧∀ i m σ H,W i m σ H →
 (J.stop i H∧D.nx σ H)∨(J.go i H∧∃ N:St→Hp→Prop,(∀ σ' H',N σ' H'→∃ m',m' < m∧W (i + 1) m' σ' H')∧∀ x H',J.yld i H x H'→g x σ H' fun σ2 H2=>tb { D with nx:=N,ct:=N,bk:=D.nx } σ2 H2)
theorem ZE (wi:TI) (g:TG) (tb:TS) (D:Xj) (σ:St) (H:Hp):CP wi g tb D σ H=wi σ H fun J H1=>Zj J g tb D σ H1:=rfl
noncomputable def gd (J:It) (g:TG) (tc:TT) (te:TE) (σb:St) (Q:VK) (H:Hp):Prop:=∃ W:Nat→Nat→List V→Hp→Prop,(∃ m,W 0 m [] H)∧Nx J g tc te σb Q W
theorem DA (wi:TI) (g:TG) (tc:TT) (te:TE) (sel:List (Option Nat)) (σ:St) (H:Hp) (Q:VK):yL wi g tc te sel σ H Q=wi σ H fun J H1=>gd J g tc te (blk sel σ) Q H1:=rfl
theorem cz (ta:TA) (σ:St) (H:Hp) (R:It→Hp→Prop):ML ta σ H R=(ta σ H fun vs H1=>EB vs fun x=>Wj x fun j=>-4611686018427387904 ≤ j∧j < 4611686018427387904∧R (Itr 0 j.toNat) H1):=rfl
theorem qA (ta:TA) (σ:St) (H:Hp) (R:It→Hp→Prop):SL ta σ H R=(ta σ H fun vs H1=>∃ i j:Int,vs=[.int i,.int j]∧(-4611686018427387904 ≤ i∧i < 4611686018427387904∧-4611686018427387904 ≤ j∧j < 4611686018427387904)∧R (Itr i (j - i).toNat) H1):=rfl
theorem lO {α β:Type} (f:α→β):[].map f=[]:=rfl
theorem RO {α β:Type} (f:α→β) (a:α) (l:List α):(a :: l).map f=f a :: l.map f:=rfl
theorem cO {α:Type} (l:List α):[] ++ l=l:=rfl
theorem tO {α:Type} (a:α) (l r:List α):(a :: l) ++ r=a :: (l ++ r):=rfl
theorem MO {α:Type} (a b:α) (l:List α):(a :: l).set 0 b=b :: l:=rfl
theorem VO {α:Type} (a b:α) (l:List α) (n:Nat):(a :: l).set (n + 1) b=a :: l.set n b:=rfl
theorem qO {α:Type} (a:α) (l:List α):(a :: l)[0]? = some a:=rfl
theorem DO {α:Type} (a:α) (l:List α) (n:Nat):(a :: l)[n + 1]? = l[n]?:=rfl
theorem fO {α:Type}:([]:List α).length=0:=rfl
theorem iO {α:Type} (a:α) (l:List α):(a :: l).length=l.length + 1:=rfl
theorem dBn {α β:Type} (f:α→Option β):(none:Option α).bind f=none:=rfl
theorem dBs {α β:Type} (f:α→Option β) (a:α):(some a).bind f=f a:=rfl
theorem dJs {α:Type} (a:Option α):(some a).join=a:=rfl
theorem dJn {α:Type}:(none:Option (Option α)).join=none:=rfl
theorem MF (sel:List (Option Nat)) (σ:St):blk sel σ=sel.map fun o=>o.bind fun j=>(σ[j]?).join:=rfl
theorem Ib {c:TT} {t u:TS} {D:Xj} {σ:St} {H:Hp} (b:Bool) (hc:∀ Q:Bool→Hp→Prop,Q b H→c σ H Q) (h1:b=true→t D σ H) (h2:b=false→u D σ H):dO c t u D σ H:=by
 refine hc _ ?_;cases b with
 | true=>exact h1 rfl
 | false=>exact h2 rfl
theorem og {c:TT} {t u:TS} {D:Xj} {σ:St} {H:Hp} (R:Bool→Hp→Prop) (hc:∀ Q:Bool→Hp→Prop,(∀ b H',R b H'→Q b H')→c σ H Q) (h1:∀ H',R true H'→t D σ H') (h2:∀ H',R false H'→u D σ H'):dO c t u D σ H:=by
 refine hc _ fun b H' r=>?_
 cases b with
 | true=>exact h1 H' r
 | false=>exact h2 H' r
theorem fc {t:TS} {D:Xj} {σ:St} {H:Hp} (R:St→Hp→Prop) (h:∀ D':Xj,(∀ σ H,R σ H→D'.nx σ H)→D'.rt=D.rt→D'.bk=D.bk→D'.ct=D.ct→t D' σ H) (hR:∀ σ H,R σ H→D.nx σ H):t D σ H:=h D hR rfl rfl rfl
theorem zzC {t:TS} {D:Xj} {σ:St} {H:Hp} (R:St->Hp->Prop) (h:∀ D':Xj,(∀ σ H,R σ H->D'.nx σ H)->t D' σ H) (hR:∀ M,M=D.nx->∀ σ H,R σ H->M σ H):t D σ H:=h D (hR _ rfl)
theorem zzP {p:Prop} (h:∀ q,q=p->q):p:=h p rfl
theorem zzD {t:TS} {D:Xj} {σ:St} {H:Hp} (R:St->Hp->Prop) (h:∀ D':Xj,(∀ σ H,R σ H->D'.nx σ H)->t D' σ H) (hR:∀ σ H,R σ H->D.nx σ H):t D σ H:=h D hR
theorem zS {t u:TS} {D:Xj} {σ:St} {H:Hp} (R:St->Hp->Prop) (h:∀ D':Xj,(∀ σ H,R σ H->D'.nx σ H)->t D' σ H) (hR:∀ M,M=u D->∀ σ H,R σ H->M σ H):GP t u D σ H:=h { D with nx:=u D } (hR _ rfl)
theorem CF {te:TE} {g:TG} {D:Xj} {σ:St} {H:Hp} (v:V) (hc:∀ Q:VK,Q v H→te σ H Q) (h:g v σ H D.nx):HL te g D σ H:=hc _ h
theorem AK {te:TE} {D:Xj} {σ:St} {H:Hp} (v:V) (hc:∀ Q:VK,Q v H→te σ H Q) (h:D.rt v H):ZN te D σ H:=hc _ h
theorem Rx (x y:Str):(x ++ y).length=x.length + y.length:=by
 show (x.cps ++ y.cps).size=_;rw [Array.size_append];rfl
theorem Zj.range {lo:Int} {n:Nat} {g:TG} {tb:TS} {D:Xj} {σ:St} {H:Hp} (Pv:Nat→St→Hp→Prop) (h0:Pv 0 σ H)
  (hs:∀ i σ H,i < n→Pv i σ H→g (.int (lo + i)) σ H fun σ2 H2=>tb { D with nx:=Pv (i + 1),ct:=Pv (i + 1),bk:=D.nx } σ2 H2) (hd:∀ σ H,Pv n σ H→D.nx σ H):Zj (Itr lo n) g tb D σ H:=KF Pv h0 hs hd
theorem Zj.list {K:PySem.W.Frag} {a:Addr} {xs:List V} {g:TG} {tb:TS} {D:Xj} {σ:St} {H:Hp} (Pv:Nat→St→Hp→Prop) (h0:Pv 0 σ H) (hl:∀ i σ H,i ≤ xs.length→Pv i σ H→SqL K H a xs)
  (hs:∀ i x σ H,xs[i]? = some x→Pv i σ H→g x σ H fun σ2 H2=>tb { D with nx:=Pv (i + 1),ct:=Pv (i + 1),bk:=D.nx } σ2 H2) (hd:∀ σ H,Pv xs.length σ H→D.nx σ H):Zj (Itl K a) g tb D σ H:=qH Pv h0 hl hs hd
theorem Zj.its {xs:List V} {g:TG} {tb:TS} {D:Xj} {σ:St} {H:Hp} (Pv:Nat→St→Hp→Prop) (h0:Pv 0 σ H)
  (hs:∀ i x σ H,xs[i]? = some x→Pv i σ H→g x σ H fun σ2 H2=>tb { D with nx:=Pv (i + 1),ct:=Pv (i + 1),bk:=D.nx } σ2 H2) (hd:∀ σ H,Pv xs.length σ H→D.nx σ H):Zj (Its xs) g tb D σ H:=rL Pv h0 hs hd
theorem gd.list {K:PySem.W.Frag} {a:Addr} {xs:List V} {g:TG} {tc:TT} {te:TE} {σb:St} {Q:VK} {H:Hp} (Pv:Nat→List V→Hp→Prop) (hz:xs.length ≤ sizeLine) (h0:Pv 0 [] H) (hl:∀ i ys H,i ≤ xs.length→Pv i ys H→SqL K H a xs∧ys.length ≤ i)
  (hs:∀ i x ys H,xs[i]? = some x→Pv i ys H→jg Pv g tc te σb i x ys H) (hd:∀ ys H,Pv xs.length ys H→∀ p,H p=none→Q (.ref p) (upd H p (.lst ys))):gd (Itl K a) g tc te σb Q H:=IF Pv hz h0 hl hs hd
theorem gd.its {xs:List V} {g:TG} {tc:TT} {te:TE} {σb:St} {Q:VK} {H:Hp} (Pv:Nat→List V→Hp→Prop) (hz:xs.length ≤ sizeLine) (h0:Pv 0 [] H) (hl:∀ i ys H,i ≤ xs.length→Pv i ys H→ys.length ≤ i)
  (hs:∀ i x ys H,xs[i]? = some x→Pv i ys H→jg Pv g tc te σb i x ys H) (hd:∀ ys H,Pv xs.length ys H→∀ p,H p=none→Q (.ref p) (upd H p (.lst ys))):gd (Its xs) g tc te σb Q H:=gI Pv hz h0 hl hs hd
theorem gd.range {lo:Int} {n:Nat} {g:TG} {tc:TT} {te:TE} {σb:St} {Q:VK} {H:Hp} (Pv:Nat→List V→Hp→Prop) (hz:n ≤ sizeLine) (h0:Pv 0 [] H) (hl:∀ i ys H,i ≤ n→Pv i ys H→ys.length ≤ i)
  (hs:∀ i ys H,i < n→Pv i ys H→jg Pv g tc te σb i (.int (lo + i)) ys H) (hd:∀ ys H,Pv n ys H→∀ p,H p=none→Q (.ref p) (upd H p (.lst ys))):gd (Itr lo n) g tc te σb Q H:=kB Pv hz h0 hl hs hd
theorem Vm {α β:Type} {xs:List α} {i:Nat} {x:α} (f:α→β) (h:xs[i]? = some x):(xs.take (i + 1)).map f=(xs.take i).map f ++ [f x]:=by
 rw [List.take_add_one,h,List.map_append];rfl
theorem gd.its_map {xs:List V} {g:TG} {te:TE} {σb:St} {Q:VK} {H:Hp} (f:V→V) (hz:xs.length ≤ sizeLine) (hs:∀ (i:Nat) (x:V) (N:V→Hp→Prop),xs[i]? = some x→N (f x) H→g x σb H fun σ2 H2=>Sub σb σ2∧te σ2 H2 N)
  (hd:∀ p,H p=none→Q (.ref p) (upd H p (.lst (xs.map f)))):gd (Its xs) g Pw te σb Q H:=by
 refine gd.its (fun i ys H'=>H'=H∧ys=(xs.take i).map f) hz ⟨rfl,rfl⟩ (fun i ys H' hi ⟨_,e⟩=>?_) (fun i x ys H' hx ⟨e1,e2⟩ N hN=>?_) (fun ys H' ⟨e1,e2⟩ p hp=>?_)
 ·rw [e,List.length_map,List.length_take];omega
 ·subst e1;exact hs i x (fun y H4=>N (ys ++ [y]) H4) hx (hN _ _ ⟨rfl,by rw [e2,Vm f hx]⟩)
 ·subst e1;rw [e2,List.take_length];exact hd p hp
theorem gd.list_map {K:PySem.W.Frag} {a:Addr} {xs:List V} {g:TG} {te:TE} {σb:St} {Q:VK} {H:Hp} (f:V→V) (hl:SqL K H a xs) (hz:xs.length ≤ sizeLine) (hs:∀ (i:Nat) (x:V) (N:V→Hp→Prop),xs[i]? = some x→N (f x) H→g x σb H fun σ2 H2=>Sub σb σ2∧te σ2 H2 N)
  (hd:∀ p,H p=none→Q (.ref p) (upd H p (.lst (xs.map f)))):gd (Itl K a) g Pw te σb Q H:=by
 refine gd.list (fun i ys H'=>H'=H∧ys=(xs.take i).map f) hz ⟨rfl,rfl⟩ (fun i ys H' hi ⟨e0,e⟩=>?_) (fun i x ys H' hx ⟨e1,e2⟩ N hN=>?_) (fun ys H' ⟨e1,e2⟩ p hp=>?_)
 ·subst e0;exact ⟨hl,by rw [e,List.length_map,List.length_take];omega⟩
 ·subst e1;exact hs i x (fun y H4=>N (ys ++ [y]) H4) hx (hN _ _ ⟨rfl,by rw [e2,Vm f hx]⟩)
 ·subst e1;rw [e2,List.take_length];exact hd p hp
theorem gd.range_map {lo:Int} {n:Nat} {g:TG} {te:TE} {σb:St} {Q:VK} {H:Hp} (f:Nat→V) (hz:n ≤ sizeLine) (hs:∀ (i:Nat) (N:V→Hp→Prop),i < n→N (f i) H→g (.int (lo + i)) σb H fun σ2 H2=>Sub σb σ2∧te σ2 H2 N)
  (hd:∀ p,H p=none→Q (.ref p) (upd H p (.lst ((List.range n).map f)))):gd (Itr lo n) g Pw te σb Q H:=by
 refine gd.range (fun i ys H'=>H'=H∧ys=(List.range i).map f) hz ⟨rfl,rfl⟩ (fun i ys H' hi ⟨_,e⟩=>?_) (fun i ys H' hi ⟨e1,e2⟩ N hN=>?_) (fun ys H' ⟨e1,e2⟩ p hp=>?_)
 ·rw [e,List.length_map,List.length_range];exact Nat.le_refl _
 ·subst e1;exact hs i (fun y H4=>N (ys ++ [y]) H4) hi (hN _ _ ⟨rfl,by rw [e2,List.range_succ,List.map_append];rfl⟩)
 ·subst e1;rw [e2];exact hd p hp
theorem gd.list_mk {K:PySem.W.Frag} {a:Addr} {xs:List V} {g:TG} {te:TE} {σb:St} {Q:VK} {H:Hp} (f:V→HO) (hl:SqL K H a xs) (hz:xs.length ≤ sizeLine) (hn:∀ x,noT (f x)=true)
  (hs:∀ (i:Nat) (x:V) (H1:Hp) (N:V→Hp→Prop),xs[i]? = some x→ac H H1→(NoT H→NoT H1)→(∀ q,H1 q=none→N (.ref q) (upd H1 q (f x)))→g x σb H1 fun σ2 H2=>Sub σb σ2∧te σ2 H2 N)
  (hd:∀ (qs:List Addr) (H1:Hp),ac H H1→(NoT H→NoT H1)→qs.length=xs.length→(∀ (j:Nat) (q:Addr) (x:V),qs[j]? = some q→xs[j]? = some x→H1 q=some (f x)∧H q=none)→∀ p,H1 p=none→Q (.ref p) (upd H1 p (.lst (qs.map V.ref)))):gd (Itl K a) g Pw te σb Q H:=by
 refine gd.list (fun i ys H'=>∃ qs:List Addr,ys=qs.map V.ref∧qs.length=i∧ac H H'∧(NoT H→NoT H')∧∀ (j:Nat) (q:Addr) (x:V),qs[j]? = some q→xs[j]? = some x→H' q=some (f x)∧H q=none) hz
  ⟨[],rfl,rfl,ac.refl H,id,fun j q x h _=>by simp at h⟩ ?_ ?_ ?_
 ·rintro i ys H' hi zzq;refine zzP fun zzM zzh=>?_
  obtain ⟨qs,e,e2,sm,_,_⟩:=zzq;subst zzh;exact ⟨hl.same sm,by rw [e,List.length_map];omega⟩
 ·rintro i x ys H' hx ⟨qs,e1,e2,sm,nt,al⟩ N hN;refine hs i x H' (fun y H4=>N (ys ++ [y]) H4) hx sm nt fun q hq=>hN _ _ ⟨qs ++ [q],by rw [e1,List.map_append];rfl,by rw [List.length_append,e2];rfl,sm.updN (sm.free hq),fun n=>(nt n).upd (hn x),fun j q' x' h1 h2=>?_⟩
  by_cases hj:j < qs.length
  ·rw [List.getElem?_append_left hj] at h1;obtain ⟨z1,z2⟩:=al j q' x' h1 h2;exact ⟨by rw [Ab (Lb z1 hq)];exact z1,z2⟩
  ·rw [List.getElem?_append_right (by omega)] at h1;have hj0:j - qs.length=0:=by
    cases hh:j - qs.length with
    | zero=>rfl
    | succ n=>rw [hh] at h1;simp at h1
   rw [hj0] at h1;have e3:q=q':=by simpa using h1
   subst e3;have e4:j=i:=by omega
   subst e4;rw [hx] at h2;cases h2;exact ⟨ib,sm.free hq⟩
 ·rintro ys H' ⟨qs,e1,e2,sm,nt,al⟩ p hp;subst e1;exact hd qs H' sm nt e2 al p hp
theorem Zj.of {J:It} {n:Nat} {g:TG} {tb:TS} {D:Xj} {σ:St} {H:Hp} (Pv:Nat→St→Hp→Prop) (h0:Pv 0 σ H) (hgo:∀ i σ H,i < n→Pv i σ H→J.go i H) (hst:∀ σ H,Pv n σ H→J.stop n H)
  (hs:∀ i σ H x H',i < n→Pv i σ H→J.yld i H x H'→g x σ H' fun σ2 H2=>tb { D with nx:=Pv (i + 1),ct:=Pv (i + 1),bk:=D.nx } σ2 H2) (hd:∀ σ H,Pv n σ H→D.nx σ H):Zj J g tb D σ H:=by
 refine ⟨fun i m σ H=>m=n - i∧i ≤ n∧Pv i σ H,⟨n,by simp,Nat.zero_le _,h0⟩,?_⟩;rintro i m σ H ⟨rfl,hi,p⟩;by_cases hlt:i < n
 ·exact .inr ⟨hgo i σ H hlt p,Pv (i + 1),fun σ' H' p'=>⟨n - (i + 1),by omega,rfl,hlt,p'⟩,fun x H' y=>hs i σ H x H' hlt p y⟩
 ·have e:i=n:=by omega
  subst e;exact .inl ⟨hst σ H p,hd σ H p⟩
theorem gd.of {J:It} {n:Nat} {g:TG} {tc:TT} {te:TE} {σb:St} {Q:VK} {H:Hp} (Pv:Nat→List V→Hp→Prop) (hz:n ≤ sizeLine) (h0:Pv 0 [] H) (hgo:∀ i ys H,i < n→Pv i ys H→J.go i H) (hst:∀ ys H,Pv n ys H→J.stop n H) (hl:∀ i ys H,i < n→Pv i ys H→ys.length ≤ i)
  (hs:∀ i ys H x H',i < n→Pv i ys H→J.yld i H x H'→jg Pv g tc te σb i x ys H') (hd:∀ ys H,Pv n ys H→∀ p,H p=none→Q (.ref p) (upd H p (.lst ys))):gd J g tc te σb Q H:=by
 refine ⟨fun i m ys H=>m=n - i∧i ≤ n∧Pv i ys H,⟨n,by simp,Nat.zero_le _,h0⟩,?_⟩;rintro i m ys H ⟨rfl,hi,p⟩;by_cases hlt:i < n
 ·have hyl:=hl i ys H hlt p;refine .inr ⟨hgo i ys H hlt p,by omega,fun x H' y=>?_⟩;exact hs i ys H x H' hlt p y (fun ys' H'=>∃ m',m' < n - i∧m'=n - (i + 1)∧i + 1 ≤ n∧Pv (i + 1) ys' H') fun ys' H' r=>⟨n - (i + 1),by omega,rfl,hlt,r⟩
 ·have e:i=n:=by omega
  subst e;exact .inl ⟨hst ys H p,hd ys H p⟩
section
variable {K:PySem.W.Frag} {a b:Addr} {xs ys:List V} {g:TG} {tb:TS} {D:Xj} {σ σb:St} {H:Hp} {tc:TT} {te:TE} {Q:VK}
theorem Zj.enum (Pv:Nat→St→Hp→Prop) (h0:Pv 0 σ H) (hl:∀ i σ H,i ≤ xs.length→Pv i σ H→SqL K H a xs)
  (hs:∀ i x σ H p,xs[i]? = some x→Pv i σ H→H p=none→g (.ref p) σ (upd H p (.tup [.int i,x])) fun σ2 H2=>tb { D with nx:=Pv (i + 1),ct:=Pv (i + 1),bk:=D.nx } σ2 H2) (hd:∀ σ H,Pv xs.length σ H→D.nx σ H):Zj (Ite K a) g tb D σ H:=by
 refine Zj.of (n:=xs.length) Pv h0 (fun i σ H hi p=>⟨xs,xs[i],hl i σ H (Nat.le_of_lt hi) p,by simp [hi]⟩) (fun σ H p=>⟨xs,hl _ σ H (Nat.le_refl _) p,Nat.le_refl _⟩) (fun i σ H v H' hi p y=>?_) hd;obtain ⟨q,x,hq,rfl,hx,rfl⟩:=y;exact hs i x σ H q (hx xs (hl i σ H (Nat.le_of_lt hi) p)) p hq
theorem Zj.zip (Pv:Nat→St→Hp→Prop) (h0:Pv 0 σ H) (hl:∀ i σ H,i ≤ xs.length→Pv i σ H→SqL K H a xs∧SqL K H b ys) (n:Nat) (hn:n=min xs.length ys.length)
  (hs:∀ i x y σ H p,xs[i]? = some x→ys[i]? = some y→Pv i σ H→H p=none→g (.ref p) σ (upd H p (.tup [x,y])) fun σ2 H2=>tb { D with nx:=Pv (i + 1),ct:=Pv (i + 1),bk:=D.nx } σ2 H2) (hd:∀ σ H,Pv n σ H→D.nx σ H):Zj (Itz K a b) g tb D σ H:=by
 subst hn;refine Zj.of (n:=min xs.length ys.length) Pv h0 (fun i σ H hi p=>?_) (fun σ H p=>?_) (fun i σ H v H' hi p y=>?_) hd
 ·obtain ⟨z1,z2⟩:=hl i σ H (by omega) p;exact ⟨xs,ys,xs[i],ys[i],z1,z2,by rw [List.getElem?_eq_getElem (by omega)],by rw [List.getElem?_eq_getElem (by omega)]⟩
 ·obtain ⟨z1,z2⟩:=hl _ σ H (by omega) p;exact ⟨xs,ys,z1,z2,by omega⟩
 ·obtain ⟨q,x,y,hq,rfl,hx,hy,rfl⟩:=y;obtain ⟨z1,z2⟩:=hl i σ H (by omega) p;exact hs i x y σ H q (hx xs z1) (hy ys z2) p hq
theorem gd.enum (Pv:Nat→List V→Hp→Prop) (hz:xs.length ≤ sizeLine) (h0:Pv 0 [] H) (hl:∀ i ys H,i ≤ xs.length→Pv i ys H→SqL K H a xs∧ys.length ≤ i)
  (hs:∀ i x ys H p,xs[i]? = some x→Pv i ys H→H p=none→jg Pv g tc te σb i (.ref p) ys (upd H p (.tup [.int i,x]))) (hd:∀ ys H,Pv xs.length ys H→∀ p,H p=none→Q (.ref p) (upd H p (.lst ys))):gd (Ite K a) g tc te σb Q H:=by
 refine gd.of (n:=xs.length) Pv hz h0 (fun i ys H hi p=>⟨xs,xs[i],(hl i ys H (Nat.le_of_lt hi) p).1,by simp [hi]⟩) (fun ys H p=>⟨xs,(hl _ ys H (Nat.le_refl _) p).1,Nat.le_refl _⟩) (fun i ys H hi p=>(hl i ys H (Nat.le_of_lt hi) p).2) (fun i zs H v H' hi p y=>?_) hd;obtain ⟨q,x,hq,rfl,hx,rfl⟩:=y;exact hs i x zs H q (hx xs (hl i zs H (Nat.le_of_lt hi) p).1) p hq
theorem vn {i j:Nat} {p:Addr} {x y:V} {R:St→Hp→Prop} (h:SqT K H p [x,y]) (q:R ((σ.set i (some x)).set j (some y)) H):JM K 2 (MB (ms i) (MB (ms j) XN)) (.ref p) σ H R:=
 ⟨p,_,rfl,h,rfl,x,_,rfl,y,_,rfl,rfl,q⟩
theorem xh {i j:Nat} {p:Addr} {x y:V} {R:St→Hp→Prop} (q:R ((σ.set i (some x)).set j (some y)) (upd H p (.tup [x,y]))):JM K 2 (MB (ms i) (MB (ms j) XN)) (.ref p) σ (upd H p (.tup [x,y])) R:=
 vn (.inl (.inl ib)) q
end
theorem Sub.name2 {r:St} {v w:Option V}:Sub (none :: none :: r) (v :: w :: r):=by
 refine ⟨rfl,fun i u h=>?_⟩
 match i with
 | 0=>cases h
 | 1=>cases h
 | i + 2=>exact h
theorem gd.list_zs {K:PySem.W.Frag} {a:Addr} {xs zs:List V} {g:TG} {te:TE} {σb:St} {Q:VK} {H:Hp} (hl:SqL K H a xs) (hz:xs.length ≤ sizeLine) (he:zs.length=xs.length)
  (hs:∀ (i:Nat) (x z:V) (N:V→Hp→Prop),xs[i]? = some x→zs[i]? = some z→N z H→g x σb H fun σ2 H2=>Sub σb σ2∧te σ2 H2 N) (hd:∀ p,H p=none→Q (.ref p) (upd H p (.lst zs))):gd (Itl K a) g Pw te σb Q H:=by
 refine gd.list (fun i ys H'=>H'=H∧ys=zs.take i) hz ⟨rfl,rfl⟩ (fun i ys H' hi ⟨e0,e⟩=>?_) (fun i x ys H' hx ⟨e1,e2⟩ N hN=>?_) (fun ys H' ⟨e1,e2⟩ p hp=>?_)
 ·subst e0;exact ⟨hl,by rw [e,List.length_take];omega⟩
 ·subst e1;have hi:i < zs.length:=by rw [he];exact (List.getElem?_eq_some_iff.mp hx).1
  have hz':zs[i]? = some zs[i]:=List.getElem?_eq_getElem hi;exact hs i x zs[i] (fun y H4=>N (ys ++ [y]) H4) hx hz' (hN _ _ ⟨rfl,by rw [e2,List.take_add_one,hz'];rfl⟩)
 ·subst e1;rw [e2,← he,List.take_length];exact hd p hp
theorem gd.tup_zs {K:PySem.W.Frag} {a:Addr} {xs zs:List V} {g:TG} {te:TE} {σb:St} {Q:VK} {H:Hp} (hl:SqT K H a xs) (hz:xs.length ≤ sizeLine) (he:zs.length=xs.length)
  (hs:∀ (i:Nat) (x z:V) (N:V→Hp→Prop),xs[i]? = some x→zs[i]? = some z→N z H→g x σb H fun σ2 H2=>Sub σb σ2∧te σ2 H2 N) (hd:∀ p,H p=none→Q (.ref p) (upd H p (.lst zs))):gd (Itt K a) g Pw te σb Q H:=by
 refine xA (xs:=xs) (fun i ys H'=>H'=H∧ys=zs.take i) hz ⟨rfl,rfl⟩ (fun i ys H' hi ⟨e0,e⟩=>?_) (fun i x ys H' hx ⟨e1,e2⟩ N hN=>?_) (fun ys H' ⟨e1,e2⟩ p hp=>?_)
 ·subst e0;exact ⟨hl,by rw [e,List.length_take];omega⟩
 ·subst e1;have hi:i < zs.length:=by rw [he];exact (List.getElem?_eq_some_iff.mp hx).1
  have hz':zs[i]? = some zs[i]:=List.getElem?_eq_getElem hi;exact hs i x zs[i] (fun y H4=>N (ys ++ [y]) H4) hx hz' (hN _ _ ⟨rfl,by rw [e2,List.take_add_one,hz'];rfl⟩)
 ·subst e1;rw [e2,← he,List.take_length];exact hd p hp
theorem Sub.name {r:St} {v:Option V}:Sub (none :: r) (v :: r):=by
 refine ⟨rfl,fun i w h=>?_⟩;cases i with
 | zero=>cases h
 | succ i=>exact h
end L2
namespace L2
open PySem PySem.Spec PyProof.Rows
theorem wb {X:Cx} {i:Nat} {x:Str} {e:Expr} {te:TE} {pos pos':Pos} (hN:X.N.Nodup) (he:PE X e te) (hi:X.N[i]? = some x:=by rfl) (hx:Loc X.env.scope x:=by exact Or.inl rfl) (hs:swapsWith e (some (.Name x pos')) pos.line X.env=pure false:=by rfl) (hf:X.fn x=true∨X.env.scope.names.lookup x=some .local:=by first | exact .inl rfl | exact .inr rfl | assumption):PS X (.Assign [.Name x pos'] e pos) (HL te (ms i)):=lJ hN hi hx he hs hf
theorem Eb {X:Cx} {pos:Pos} {i:Nat} {x:Str} (hN:X.N.Nodup) (hi:X.N[i]? = some x:=by rfl) (hx:Loc X.env.scope x:=by exact Or.inl rfl) (hf:X.fn x=true∨X.env.scope.names.lookup x=some .local:=by first | exact .inl rfl | exact .inr rfl | assumption):PG X (.Name x pos) (ms i):=By hN hi hx hf
theorem Db {X:Cx} {a b:Expr} {ta tb:TE} {pos:Pos} {r:R2} (hr:IxR X r) (ha:PE X a ta) (hb:PE X b tb) (hs:OC b:=by exact fun _ _=>rfl):PE X (.Subscript a b pos) (tOp r ta tb):=nO hr ha hb hs
theorem qb {X:Cx} {k:Nat} {f:Addr} {fd:FuncData} {ps:List Str} {sp:Sp} {x:Str} {p pos:Pos} {e:Expr} {es:List Expr} {t:TA} (F:Zb X.prog X.w X.K X.mg X.base CX0 k f fd ps sp) (hr:Yj k X.A) (hm:X.mg x=some (.ref f)) (hk:PySem.W.keepIn X.K (.ref f)=true) (hb:gc X.K fd ps []) (ha:PA X (e :: es) t) (hg:Gl X x:=by rfl) (hdb:(x == ("__debug__" : Str))=false:=by decide) (he:starEach (e :: es) X.env=(false,eval e X.env) :: starEach es X.env:=by rfl) (hpl:(backTo pos (starEach es X.env)).any (·.1)=false:=by rfl):PE X (.Call (.Name x p) (e :: es) [] pos) (jH sp [] E0 t):=IK F hr hg hm hk hb .nil ye ha hdb he hpl
end L2
local macro_rules | `(tactic| walk_at "RD")=>`(tactic| ((try dsimp only [L2.xK,L2.mO,L2.Cx.nox,L2.Cx.wish,L2.Cx.block,L2.Cx.tr,L2.Cx.hn,L2.vE,L2.eM,L2.NN,L2.WE,L2.RI,L2.JD,L2.iz,L2.aE,L2.lz,L2.xJ,L2.Xb,L2.xb,L2.MA,L2.gG,L2.Ww,L2.lf,L2.SF,L2.CA,L2.LD,L2.TD,L2.PD,L2.eE,L2.jA,L2.kE,L2.EI,L2.aJ,L2.vM,L2.zJ,L2.PM,L2.ZI,L2.GJ,L2.pA,L2.Vw,L2.pF,L2.ZD,L2.At,L2.OF,L2.fG,L2.rA,L2.uD,L2.AD,L2.uA,L2.VA,L2.AA,L2.DI,L2.au,L2.wz,L2.NI,L2.ZF,L2.Pz,L2.vF,L2.sE,L2.FE,L2.Dz,L2.ED,L2.BJ,L2.BD,L2.yJ,L2.Et,L2.Zt,L2.bq,L2.ax,L2.gE,L2.Jz,L2.Zs,L2.iA,L2.Lv,L2.nw,L2.bz,L2.AC,L2.AE,L2.OA,L2.Gw,L2.Cw,L2.dA,L2.sD,L2.ID,L2.iG,L2.gA,L2.BA,L2.wF,L2.Wy,L2.Oy,L2.sF,L2.ZE,L2.DA,L2.cz,L2.qA,L2.QC,L2.pG,L2.Uv,L2.mz,L2.bJ,L2.yA,L2.Xz,L2.start,L2.MF,L2.lO,L2.RO,L2.cO,L2.tO,L2.MO,L2.VO,L2.qO,L2.DO,L2.fO,L2.iO,L2.dBn,L2.dBs,L2.dJs,L2.dJn,Nat.reduceAdd,Nat.reduceSub,List.replicate]);(try simp only [L2.vE,L2.eM,L2.NN,L2.WE,L2.RI,L2.JD,L2.iz,L2.aE,L2.lz,L2.xJ,L2.Xb,L2.xb,L2.MA,L2.gG,L2.Ww,L2.lf,L2.SF,L2.CA,L2.LD,L2.TD,L2.PD,L2.eE,L2.jA,L2.kE,L2.EI,L2.aJ,L2.vM,L2.zJ,L2.PM,L2.ZI,L2.GJ,L2.pA,L2.Vw,L2.pF,L2.ZD,L2.At,L2.OF,L2.fG,L2.rA,L2.uD,L2.AD,L2.uA,L2.VA,L2.AA,L2.DI,L2.au,L2.wz,L2.NI,L2.ZF,L2.Pz,L2.vF,L2.sE,L2.FE,L2.Dz,L2.ED,L2.BJ,L2.BD,L2.yJ,L2.Et,L2.Zt,L2.bq,L2.ax,L2.gE,L2.Jz,L2.Zs,L2.iA,L2.Lv,L2.nw,L2.bz,L2.AC,L2.AE,L2.OA,L2.Gw,L2.Cw,L2.dA,L2.sD,L2.ID,L2.iG,L2.gA,L2.BA,L2.wF,L2.Wy,L2.Oy,L2.sF,L2.ZE,L2.DA,L2.cz,L2.qA,L2.QC,L2.pG,L2.Uv,L2.mz,L2.bJ,L2.yA,L2.Xz,L2.mK,L2.JK,L2.iN,L2.fK,L2.gL,L2.start,L2.MF,List.map_cons,List.map_nil,Option.bind_none,Option.bind_some,Option.join_some,Option.join_none,List.length_cons,List.length_nil,Nat.reduceAdd,Nat.reduceSub,Nat.zero_add,List.replicate,List.cons_append,List.nil_append,List.append_nil,List.set_cons_zero,List.set_cons_succ,List.getElem?_cons_zero,List.getElem?_cons_succ,Option.some.injEq,L2.V.int.injEq,L2.V.bl.injEq,L2.V.str.injEq,L2.V.ref.injEq,L2.V.ty.injEq,exists_eq_left',exists_eq_left,exists_and_left,List.cons.injEq,and_true,true_and,and_assoc,Int.zero_add,reduceCtorEq,false_and,exists_false,and_false,ite_true,ite_false,if_true,if_false,Bool.false_eq_true,L2.dM,L2.tyV,false_or,or_false,Bool.not_true,Bool.not_false,decide_true,decide_false])))
local macro_rules | `(tactic| walk_at "B")=>`(tactic| first | rfl | (dsimp only [L2.Cx.block];done) | (dsimp only [L2.Cx.block];exact rfl))
local macro_rules | `(tactic| walk_at "F")=>`(tactic| exact ⟨rfl,rfl,rfl,by decide +kernel,rfl,by decide +kernel,by decide +kernel⟩)
namespace My
open PySem L2
noncomputable abbrev q5:List Str:=["self","name","start","end","off","near","least"]
noncomputable abbrev q8:List Str:=["self","name"]
noncomputable abbrev q9:List Str:=["order","one","other"]
noncomputable abbrev q10:List Str:=["crossing","one","other"]
noncomputable abbrev q11:List Str:=["_law_script","_law_k","_law_many"]
noncomputable abbrev q12:List Str:=["_law_wanted_here","_law_i","_law_j","_law_places_here"]
noncomputable abbrev q13:List Str:=["_law_paper","_law_many","_law_deep"]
noncomputable abbrev q14:List Str:=["word","signs","most"]
noncomputable abbrev q15:List Str:=["_law_script"]
noncomputable abbrev q16:List Str:=["_law_k","_law_many"]
noncomputable abbrev q17:List Str:=["self","good"]
noncomputable abbrev q18:List Str:=["self","kind","name","start","end","off","near","least"]
noncomputable abbrev q19:List Str:=["wanted","size","order","one","other"]
noncomputable abbrev q20:List Str:=["wanted","size","rings","order"]
noncomputable abbrev q21:List Str:=["_law_way","_law_turns"]
noncomputable abbrev q22:List Str:=["_law_wanted_here","_law_places_here"]
noncomputable abbrev q23:List Str:=["_law_wanted_here","_law_places_here","_law_size","_law_paper","_law_ahead_here"]
noncomputable abbrev q24:List Str:=["self","low","high"]
noncomputable abbrev q25:List Str:=["places","way","second"]
noncomputable abbrev q26:List Str:=["wanted","size","order","ring"]
noncomputable abbrev q27:List Str:=["word","most_figures"]
noncomputable abbrev q28:List Str:=["reader","places","start"]
noncomputable abbrev q29:List Str:=["sort","name","start","end","off","near","least"]
noncomputable abbrev q30:List Str:=["_law_wanted_here","_law_places_here","_law_size","_law_ring","_law_ahead_here"]
noncomputable abbrev q31:List Str:=["self","row","told"]
noncomputable abbrev q32:List Str:=["self","choices"]
noncomputable abbrev q33:List Str:=["places","way","place"]
noncomputable abbrev q34:List Str:=["wanted","paths"]
noncomputable abbrev q35:List Str:=["wanted","order"]
noncomputable abbrev q36:List Str:=["wanted","size","order"]
noncomputable abbrev q37:List Str:=["wanted","size","rings"]
noncomputable abbrev q38:List Str:=["crossing","wants"]
noncomputable abbrev q39:List Str:=["word","low","high"]
noncomputable abbrev q40:List Str:=["reader","ways"]
noncomputable abbrev q41:List Str:=["reader","places","ways"]
noncomputable abbrev q42:List Str:=["_law_script","_law_many"]
noncomputable abbrev q43:List Str:=["_law_script","_law_many","_law_places_here"]
noncomputable abbrev q44:List Str:=["_law_places_here","_law_ways_here"]
noncomputable abbrev q45:List Str:=["_law_one","_law_other","_law_places_here"]
noncomputable abbrev q46:List Str:=["_law_script","_law_ways_here"]
noncomputable abbrev q47:List Str:=["_law_wanted_here","_law_places_here","_law_size","_law_begins"]
noncomputable abbrev q48:List Str:=["_law_begins","_law_many","_law_size"]
noncomputable abbrev q49:List Str:=["self","crossing","wants"]
noncomputable abbrev q50:List Str:=["self","places","ways"]
noncomputable abbrev q51:List Str:=["wanted","paths","found","path","nearby"]
noncomputable abbrev q52:List Str:=["wanted","found","paths"]
noncomputable abbrev q53:List Str:=["wanted","size","order","begins","want","one","other"]
noncomputable abbrev q54:List Str:=["self","crossing","wants","ways","one","want","other","second"]
noncomputable abbrev q56:List Str:=["name","turns","crossing"]
noncomputable def top (i:Nat):Stmt:=PySem.Challenge.pw_lampway_k64_whole_shortest_round.main.body.getD i (.Pass ⟨0,0,0,0⟩)
noncomputable abbrev UA:Stmt:=top 2
theorem vx:Cb ["places","way","place","steps"] q33 (ub UA):=(by walk_at "F")
noncomputable abbrev Wo:Stmt:=top 3
theorem ou:Cb q25 q25 (ub Wo):=(by walk_at "F")
noncomputable abbrev SI:Stmt:=top 4
theorem ny:Cb ["crossing","one","other","way","second"] q10 (ub SI):=(by walk_at "F")
noncomputable abbrev dN:Stmt:=top 5
theorem jG:Cb ["crossing","one","other","way","second"] q10 (ub dN):=(by walk_at "F")
noncomputable abbrev Nj:Stmt:=top 9
theorem Uf:Cb ["wanted","order","other"] ["wanted"] (ub Nj):=(by walk_at "F")
noncomputable abbrev Ck:Stmt:=top 10
theorem Ep:Cb q9 q9 (ub Ck):=(by walk_at "F")
noncomputable abbrev So:Stmt:=top 11
theorem Nm:Cb ["order","one","other","more"] q9 (ub So):=(by walk_at "F")
noncomputable abbrev Rk:Stmt:=top 12
theorem Tj:Cb ["wanted","size","order","one","other","step"] q19 (ub Rk):=(by walk_at "F")
noncomputable abbrev Lo:Stmt:=top 13
theorem Se:Cb ["wanted","size","order","ring","total","place","one","other"] q26 (ub Lo):=(by walk_at "F")
noncomputable abbrev Jd:Stmt:=top 15
theorem jd:Cb q51 q34 (ub Jd):=(by walk_at "F")
noncomputable abbrev Fl:Stmt:=top 16
theorem Dj:Cb q52 ["wanted"] (ub Fl):=(by walk_at "F")
noncomputable abbrev Ng:Stmt:=top 17
theorem Be:Cb ["wanted","order","one","other"] q35 (ub Ng):=(by walk_at "F")
noncomputable abbrev Te:Stmt:=top 18
theorem Cd:Cb q53 q36 (ub Te):=(by walk_at "F")
noncomputable abbrev Qv:Stmt:=top 19
theorem ue:Cb ["wanted","size","rings","order","ring","pair","one","other","begins","paper","second"] q20 (ub Qv):=(by walk_at "F")
noncomputable abbrev Ym:Stmt:=top 20
theorem yi:Cb ["wanted","size","rings","want","turns"] q37 (ub Ym):=(by walk_at "F")
noncomputable abbrev gj:Stmt:=top 21
theorem bg:Cb ["wanted","total","want"] ["wanted"] (ub gj):=(by walk_at "F")
noncomputable abbrev ut:Stmt:=top 22
theorem zc:Cb ["crossing","wants","wanted","rings","low","high","paper","begins","size","found","no_begins"] q38 (ub ut):=(by walk_at "F")
noncomputable abbrev Yx:Stmt:=top 32
theorem GG:Cb ["text"] ["text"] (ub Yx):=(by walk_at "F")
noncomputable abbrev xk:Stmt:=top 33
theorem Wu:Cb q14 q14 (ub xk):=(by walk_at "F")
noncomputable abbrev Kr:Stmt:=top 34
theorem Wv:Cb q27 q27 (ub Kr):=(by walk_at "F")
noncomputable abbrev lx:Stmt:=top 35
theorem Xt:Cb ["word","low","high","number"] q39 (ub lx):=(by walk_at "F")
noncomputable abbrev uw:Stmt:=top 36
theorem RB:Cb ["word"] ["word"] (ub uw):=(by walk_at "F")
noncomputable abbrev mr:Stmt:=top 39
theorem sB:Cb ["text"] ["text"] (ub mr):=(by walk_at "F")
noncomputable abbrev kq:Stmt:=top 53
theorem Vo:Cb ["reader","places"] ["reader"] (ub kq):=(by walk_at "F")
noncomputable abbrev uh:Stmt:=top 54
theorem Uj:Cb ["reader","ways","name"] q40 (ub uh):=(by walk_at "F")
noncomputable abbrev zt:Stmt:=top 55
theorem Dy:Cb q28 q28 (ub zt):=(by walk_at "F")
noncomputable abbrev ju:Stmt:=top 56
theorem xy:Cb q29 q29 (ub ju):=(by walk_at "F")
noncomputable abbrev Yt:Stmt:=top 57
theorem De:Cb ["reader","places","ways","sort","name","start","end","off","near","least"] q41 (ub Yt):=(by walk_at "F")
noncomputable abbrev nk:Stmt:=top 58
theorem me:Cb ["text","rows","places","ways","reader"] ["text"] (ub nk):=(by walk_at "F")
noncomputable abbrev Fq:Stmt:=top 60
theorem Vk:Cb ["_law_script","_law_k","_law_many","_law_cell","_law_seed"] q11 (ub Fq):=(by walk_at "F")
noncomputable abbrev Lm:Stmt:=top 61
theorem Bs:Cb q15 q15 (ub Lm):=(by walk_at "F")
noncomputable abbrev Nk:Stmt:=top 62
theorem Ac:Cb ["_law_script","_law_many","_law_letters","_law_word","_law_size","_law_at","_law_first","_law_some","_law_k","_law_name","_law_sign"] q42 (ub Nk):=(by walk_at "F")
noncomputable abbrev Qr:Stmt:=top 63
theorem uc:Cb ["_law_script","_law_many","_law_places_here","_law_names_here","_law_one_end","_law_ways_here","_law_k","_law_start","_law_end","_law_off","_law_near","_law_sort","_law_least"] q43 (ub Qr):=(by walk_at "F")
noncomputable abbrev vm:Stmt:=top 64
theorem Tk:Cb ["_law_places_here","_law_ways_here","_law_rows","_law_way"] q44 (ub vm):=(by walk_at "F")
noncomputable abbrev Mm:Stmt:=top 65
theorem xi:Cb ["_law_one","_law_other","_law_places_here","_law_far","_law_is_in"] q45 (ub Mm):=(by walk_at "F")
noncomputable abbrev gn:Stmt:=top 66
theorem Yc:Cb ["_law_script","_law_ways_here","_law_many","_law_first","_law_wanted_here","_law_k","_law_turns"] q46 (ub gn):=(by walk_at "F")
noncomputable abbrev bp:Stmt:=top 67
theorem Bu:Cb q21 q21 (ub bp):=(by walk_at "F")
noncomputable abbrev Cn:Stmt:=top 68
theorem Fs:Cb q12 q12 (ub Cn):=(by walk_at "F")
noncomputable abbrev Zk:Stmt:=top 69
theorem Gu:Cb q22 q22 (ub Zk):=(by walk_at "F")
noncomputable abbrev Gi:Stmt:=top 70
theorem vc:Cb ["_law_wanted_here","_law_places_here","_law_size","_law_ring","_law_ahead_here","_law_total","_law_rounds","_law_k","_law_i","_law_j"] q30 (ub Gi):=(by walk_at "F")
noncomputable abbrev No:Stmt:=top 71
theorem Tg:Cb ["_law_wanted_here","_law_places_here","_law_size","_law_paper","_law_ahead_here","_law_i","_law_j"] q23 (ub No):=(by walk_at "F")
noncomputable abbrev am:Stmt:=top 72
theorem Vq:Cb q16 q16 (ub am):=(by walk_at "F")
noncomputable abbrev Fg:Stmt:=top 73
theorem Ii:Cb q13 q13 (ub Fg):=(by walk_at "F")
noncomputable abbrev Zw:Stmt:=top 74
theorem ll:Cb ["_law_wanted_here","_law_places_here","_law_size","_law_begins","_law_i","_law_j","_law_turns"] q47 (ub Zw):=(by walk_at "F")
noncomputable abbrev Wi:Stmt:=top 75
theorem di:Cb ["_law_begins","_law_many","_law_size","_law_begin"] q48 (ub Wi):=(by walk_at "F")
noncomputable abbrev bL:Stmt:=top 76
theorem Bk:Cb ["_law_script","_law_places_here","_law_ways_here","_law_crossing","_law_wanted_here","_law_wants","_law_handed","_law_told","_law_size","_law_begins","_law_again"] q15 (ub bL):=(by walk_at "F")
noncomputable abbrev Sg:Stmt:=md (top 7) 0
theorem Pc:Cb q54 q49 (ub Sg):=(by walk_at "F")
noncomputable abbrev Vj:Stmt:=md (top 38) 0
theorem ik:Cb q31 q31 (ub Vj):=(by walk_at "F")
noncomputable abbrev Vi:Stmt:=md (top 38) 1
theorem Tm:Cb ["self"] ["self"] (ub Vi):=(by walk_at "F")
noncomputable abbrev Rg:Stmt:=md (top 38) 2
theorem ek:Cb ["self"] ["self"] (ub Rg):=(by walk_at "F")
noncomputable abbrev Pn:Stmt:=md (top 38) 3
noncomputable abbrev Sj:Stmt:=md (top 38) 4
theorem bo:Cb q17 q17 (ub Sj):=(by walk_at "F")
noncomputable abbrev Rh:Stmt:=md (top 38) 5
theorem Eh:Cb ["self","choices","found"] q32 (ub Rh):=(by walk_at "F")
noncomputable abbrev zh:Stmt:=md (top 38) 6
theorem Og:Cb ["self","low","high","found"] q24 (ub zh):=(by walk_at "F")
noncomputable abbrev Uh:Stmt:=md (top 38) 7
theorem Am:Cb ["self"] ["self"] (ub Uh):=(by walk_at "F")
noncomputable abbrev Ft:Stmt:=md (top 41) 0
theorem ar:Cb q18 q18 (ub Ft):=(by walk_at "F")
noncomputable abbrev Km:Stmt:=md (top 42) 0
theorem dn:Cb q5 q5 (ub Km):=(by walk_at "F")
noncomputable abbrev Vl:Stmt:=md (top 42) 1
theorem jq:Cb ["self"] ["self"] (ub Vl):=(by walk_at "F")
noncomputable abbrev Gn:Stmt:=md (top 42) 2
theorem Qs:Cb ["self"] ["self"] (ub Gn):=(by walk_at "F")
noncomputable abbrev jm:Stmt:=md (top 43) 0
theorem Fm:Cb q5 q5 (ub jm):=(by walk_at "F")
noncomputable abbrev Hk:Stmt:=md (top 43) 1
theorem Mp:Cb ["self"] ["self"] (ub Hk):=(by walk_at "F")
noncomputable abbrev Ul:Stmt:=md (top 43) 2
theorem Er:Cb ["self"] ["self"] (ub Ul):=(by walk_at "F")
noncomputable abbrev Zl:Stmt:=md (top 44) 0
theorem xm:Cb q5 q5 (ub Zl):=(by walk_at "F")
noncomputable abbrev dl:Stmt:=md (top 44) 1
theorem jp:Cb ["self"] ["self"] (ub dl):=(by walk_at "F")
noncomputable abbrev Wl:Stmt:=md (top 44) 2
theorem mq:Cb ["self"] ["self"] (ub Wl):=(by walk_at "F")
noncomputable abbrev Ik:Stmt:=md (top 52) 0
theorem Ze:Cb ["self","places","ways","number","way"] q50 (ub Ik):=(by walk_at "F")
noncomputable abbrev Pi:Stmt:=md (top 52) 2
theorem mn:Cb q8 q8 (ub Pi):=(by walk_at "F")
noncomputable abbrev Mi:Stmt:=md (top 52) 3
theorem bn:Cb q8 q8 (ub Mi):=(by walk_at "F")
set_option genInjectivity false in
set_option genInjectivity false in
structure Adr where
 {Op Sh kA lI jf Sd gi Vd yg Ad Bl Ld We Ni Wg dh il yv zg Jj Ln Dn Qm xj Hf Hl yl ml Gf Ce Xg Ih Hj nj lh fh xg ie Jh Zd sf eg ud An Qe uK tf se yc Vc Ef Uc Mc xc Oc Tf Lf cg jh bf Mf fg df Ff lg Ge Pd Kc bc Rb Jn Xc Bc Cc ic:Addr}
 {Pp Ph tz dI gf Ud ei Yd rg Hd kl Md Me Zi nh Vg ol Iu qg Gj Fn Qn Im ij Af xl ql Al Nf He ah Hh tj Ij kh gh Ag ee Nh Xd qf kg vd Zm Re qI mh kf Ic Kd En qd Ed Jc Fd oh eh Ai zj gg Bh vi ng Ah zi wf Ve bd:FuncData}
 {lw cm qx km Po dm Lq Kt jn yq:Value}
structure Txt (w:World) (K:PySem.W.Frag) (mg:Str→Option Value) (t:Adr):Prop where
 FA:mg "in_bow"=some (.ref t.Op)
 Tp:Fun K "in_bow" "in_bow" UA t.Op t.Pp
 yx:mg "bows_cross"=some (.ref t.Sh)
 Uk:Fun K "bows_cross" "bows_cross" Wo t.Sh t.Ph
 jM:mg "meet"=some (.ref t.kA)
 dE:Fun K "meet" "meet" SI t.kA t.tz
 NO:mg "gap"=some (.ref t.lI)
 wK:Fun K "gap" "gap" dN t.lI t.dI
 vp:mg "order_at_first"=some (.ref t.jf)
 Ig:Fun K "order_at_first" "order_at_first" Nj t.jf t.gf
 Dk:mg "in_some_order"=some (.ref t.Sd)
 vf:Fun K "in_some_order" "in_some_order" Ck t.Sd t.Ud
 Ro:mg "with_ahead"=some (.ref t.gi)
 Qh:Fun K "with_ahead" "with_ahead" So t.gi t.ei
 Kk:mg "step_in_order"=some (.ref t.Vd)
 Bf:Fun K "step_in_order" "step_in_order" Rk t.Vd t.Yd
 ow:mg "ring_bears"=some (.ref t.yg)
 fk:Fun K "ring_bears" "ring_bears" Lo t.yg t.rg
 pk:mg "paths_longer_by_one"=some (.ref t.Ad)
 Ie:Fun K "paths_longer_by_one" "paths_longer_by_one" Jd t.Ad t.Hd
 nB:mg "rings_of"=some (.ref t.Bl)
 jo:Fun K "rings_of" "rings_of" Fl t.Bl t.kl
 Ml:mg "pair_without_order"=some (.ref t.Ld)
 Ye:Fun K "pair_without_order" "pair_without_order" Ng t.Ld t.Md
 Tn:mg "begins_in_order"=some (.ref t.We)
 Vf:Fun K "begins_in_order" "begins_in_order" Te t.We t.Me
 Pq:mg "settled"=some (.ref t.Ni)
 Ui:Fun K "settled" "settled" Qv t.Ni t.Zi
 jj:mg "settled_for"=some (.ref t.Wg)
 Jf:Fun K "settled_for" "settled_for" Ym t.Wg t.nh
 Fv:mg "long_enough"=some (.ref t.dh)
 Cj:Fun K "long_enough" "long_enough" gj t.dh t.Vg
 Xs:mg "shortest"=some (.ref t.il)
 Dl:Fun K "shortest" "shortest" ut t.il t.ol
 tL:mg "words"=some (.ref t.yv)
 wy:Fun K "words" "words" Yx t.yv t.Iu
 Oo:mg "is_made_of"=some (.ref t.zg)
 ii:Fun K "is_made_of" "is_made_of" xk t.zg t.qg
 Ix:mg "is_number"=some (.ref t.Jj)
 zm:Fun K "is_number" "is_number" Kr t.Jj t.Gj
 GF:mg "figured"=some (.ref t.Ln)
 rq:Fun K "figured" "figured" lx t.Ln t.Fn
 UE:mg "is_name"=some (.ref t.Dn)
 lq:Fun K "is_name" "is_name" uw t.Dn t.Qn
 cE:mg "readers"=some (.ref t.Qm)
 Hr:Fun K "readers" "readers" mr t.Qm t.Im
 Xx:mg "read_ring"=some (.ref t.xj)
 wm:Fun K "read_ring" "read_ring" kq t.xj t.ij
 uq:mg "read_new_name"=some (.ref t.Hf)
 Ch:Fun K "read_new_name" "read_new_name" uh t.Hf t.Af
 KB:mg "read_end"=some (.ref t.Hl)
 Xn:Fun K "read_end" "read_end" zt t.Hl t.xl
 TB:mg "made_way"=some (.ref t.yl)
 wo:Fun K "made_way" "made_way" ju t.yl t.ql
 qC:mg "read_way"=some (.ref t.ml)
 Ao:Fun K "read_way" "read_way" Yt t.ml t.Al
 Tq:mg "read_crossing"=some (.ref t.Gf)
 vh:Fun K "read_crossing" "read_crossing" nk t.Gf t.Nf
 Sb:mg "_law_draw"=some (.ref t.Ce)
 Mb:Fun K "_law_draw" "_law_draw" Fq t.Ce t.He
 qv:mg "_law_places"=some (.ref t.Xg)
 lj:Fun K "_law_places" "_law_places" Lm t.Xg t.ah
 Ew:mg "_law_names"=some (.ref t.Ih)
 Qk:Fun K "_law_names" "_law_names" Nk t.Ih t.Hh
 Zx:mg "_law_ways"=some (.ref t.Hj)
 um:Fun K "_law_ways" "_law_ways" Qr t.Hj t.tj
 cy:mg "_law_text"=some (.ref t.nj)
 Bm:Fun K "_law_text" "_law_text" vm t.nj t.Ij
 vv:mg "_law_is_met"=some (.ref t.lh)
 yj:Fun K "_law_is_met" "_law_is_met" Mm t.lh t.kh
 sv:mg "_law_wanted"=some (.ref t.fh)
 vj:Fun K "_law_wanted" "_law_wanted" gn t.fh t.gh
 Zo:mg "_law_alone"=some (.ref t.xg)
 Mh:Fun K "_law_alone" "_law_alone" bp t.xg t.Ag
 Yg:mg "_law_behind"=some (.ref t.ie)
 Xe:Fun K "_law_behind" "_law_behind" Cn t.ie t.ee
 iw:mg "_law_ahead"=some (.ref t.Jh)
 Fk:Fun K "_law_ahead" "_law_ahead" Zk t.Jh t.Nh
 Co:mg "_law_ring_bears"=some (.ref t.Zd)
 Zf:Fun K "_law_ring_bears" "_law_ring_bears" Gi t.Zd t.Xd
 Jk:mg "_law_bears"=some (.ref t.sf)
 rf:Fun K "_law_bears" "_law_bears" No t.sf t.qf
 dg:mg "_law_is_want"=some (.ref t.eg)
 ve:Fun K "_law_is_want" "_law_is_want" am t.eg t.kg
 Lg:mg "_law_is_formed"=some (.ref t.ud)
 yd:Fun K "_law_is_formed" "_law_is_formed" Fg t.ud t.vd
 Tw:mg "_law_do"=some (.ref t.An)
 Rm:Fun K "_law_do" "_law_do" Zw t.An t.Zm
 Go:mg "_law_are_begins"=some (.ref t.Qe)
 Wf:Fun K "_law_are_begins" "_law_are_begins" Wi t.Qe t.Re
 AO:mg "law"=some (.ref t.uK)
 SO:Fun K "law" "law" bL t.uK t.qI
 SG:mg "Wanted"=some (.ref t.bc)
 BG:PySem.W.findIn K (.ref t.bc) "__init__"=some (some (.ref t.tf))
 Nn:Fun K "__init__" "Wanted.__init__" Sg t.tf t.mh
 Ky:mg "RowReader"=some (.ref t.Rb)
 wC:PySem.W.findIn K (.ref t.Rb) "__init__"=some (some (.ref t.se))
 Qj:Fun K "__init__" "RowReader.__init__" Vj t.se t.kf
 jB:PySem.W.findIn K (.ref t.Rb) "ahead"=some (some (.ref t.yc))
 Ri:Fun K "ahead" "RowReader.ahead" Vi t.yc t.Ic
 Ex:PySem.W.findIn K (.ref t.Rb) "has_more"=some (some (.ref t.Vc))
 Mg:Fun K "has_more" "RowReader.has_more" Rg t.Vc t.Kd
 Vy:PySem.W.findIn K (.ref t.Rb) "refuse"=some (some (.ref t.Ef))
 Zy:Fun K "refuse" "RowReader.refuse" Pn t.Ef t.En
 vC:PySem.W.findIn K (.ref t.Rb) "take"=some (some (.ref t.Uc))
 Lj:Fun K "take" "RowReader.take" Sj t.Uc t.qd
 zA:PySem.W.findIn K (.ref t.Rb) "one_of"=some (some (.ref t.Mc))
 Oh:Fun K "one_of" "RowReader.one_of" Rh t.Mc t.Ed
 Ny:PySem.W.findIn K (.ref t.Rb) "figures"=some (some (.ref t.xc))
 yh:Fun K "figures" "RowReader.figures" zh t.xc t.Jc
 yz:PySem.W.findIn K (.ref t.Rb) "finish"=some (some (.ref t.Oc))
 Th:Fun K "finish" "RowReader.finish" Uh t.Oc t.Fd
 mL:mg "Way"=some (.ref t.Jn)
 EL:PySem.W.findIn K (.ref t.Jn) "__init__"=some (some (.ref t.Tf))
 lu:Fun K "__init__" "Way.__init__" Ft t.Tf t.oh
 XG:mg "CarWay"=some (.ref t.Xc)
 LG:PySem.W.findIn K (.ref t.Xc) "__init__"=some (some (.ref t.Lf))
 yn:Fun K "__init__" "CarWay.__init__" Km t.Lf t.eh
 xG:PySem.W.findIn K (.ref t.Xc) "ready"=some (some (.ref t.cg))
 em:Fun K "ready" "CarWay.ready" Vl t.cg t.Ai
 dH:PySem.W.findIn K (.ref t.Xc) "fade"=some (some (.ref t.jh))
 wn:Fun K "fade" "CarWay.fade" Gn t.jh t.zj
 VD:mg "FootWay"=some (.ref t.Bc)
 wG:PySem.W.findIn K (.ref t.Bc) "__init__"=some (some (.ref t.bf))
 im:Fun K "__init__" "FootWay.__init__" jm t.bf t.gg
 CD:PySem.W.findIn K (.ref t.Bc) "ready"=some (some (.ref t.Mf))
 Ek:Fun K "ready" "FootWay.ready" Hk t.Mf t.Bh
 uG:PySem.W.findIn K (.ref t.Bc) "fade"=some (some (.ref t.fg))
 Yl:Fun K "fade" "FootWay.fade" Ul t.fg t.vi
 RF:mg "TramWay"=some (.ref t.Cc)
 qG:PySem.W.findIn K (.ref t.Cc) "__init__"=some (some (.ref t.df))
 Xl:Fun K "__init__" "TramWay.__init__" Zl t.df t.ng
 EE:PySem.W.findIn K (.ref t.Cc) "ready"=some (some (.ref t.Ff))
 Yk:Fun K "ready" "TramWay.ready" dl t.Ff t.Ah
 sG:PySem.W.findIn K (.ref t.Cc) "fade"=some (some (.ref t.lg))
 gm:Fun K "fade" "TramWay.fade" Wl t.lg t.zi
 lC:mg "Crossing"=some (.ref t.ic)
 lG:PySem.W.findIn K (.ref t.ic) "__init__"=some (some (.ref t.Ge))
 sk:Fun K "__init__" "Crossing.__init__" Ik t.Ge t.wf
 CB:PySem.W.findIn K (.ref t.ic) "number"=some (some (.ref t.Pd))
 Ti:Fun K "number" "Crossing.number" Pi t.Pd t.Ve
 kC:PySem.W.findIn K (.ref t.ic) "called"=some (some (.ref t.Kc))
 Si:Fun K "called" "Crossing.called" Mi t.Kc t.bd
 Hi:Cls K t.bc
 kH:Mk K t.bc t.tf
 Tl:kc K t.bc "many"
 Oj:kc K t.bc "alones"
 jk:kc K t.bc "steps"
 Pb:Cls K t.Rb
 Ay:Mk K t.Rb t.se
 Je:su K t.Rb "ahead" t.yc
 Ql:su K t.Rb "has_more" t.Vc
 bA:su K t.Rb "refuse" t.Ef
 Gg:su K t.Rb "take" t.Uc
 Yh:su K t.Rb "one_of" t.Mc
 Hc:su K t.Rb "figures" t.xc
 ci:su K t.Rb "finish" t.Oc
 lp:kc K t.Rb "row"
 Xi:kc K t.Rb "told"
 Cf:kc K t.Rb "place"
 WO:Cls K t.Jn
 UK:kc K t.Jn "kind"
 lL:kc K t.Jn "name"
 AJ:kc K t.Jn "start"
 CL:kc K t.Jn "end"
 FL:kc K t.Jn "off"
 YK:kc K t.Jn "near"
 pJ:kc K t.Jn "least"
 Mr:Cls K t.Xc
 lH:Mk K t.Xc t.Lf
 Js:su K t.Xc "ready" t.cg
 Gv:su K t.Xc "fade" t.jh
 Ds:kc K t.Xc "kind"
 Wr:kc K t.Xc "name"
 Cr:kc K t.Xc "start"
 Ev:kc K t.Xc "end"
 jv:kc K t.Xc "off"
 Ps:kc K t.Xc "near"
 Pr:kc K t.Xc "least"
 zo:Cls K t.Bc
 aG:Mk K t.Bc t.bf
 Ar:su K t.Bc "ready" t.Mf
 Sr:su K t.Bc "fade" t.fg
 Bq:kc K t.Bc "kind"
 zr:kc K t.Bc "name"
 Gp:kc K t.Bc "start"
 Os:kc K t.Bc "end"
 Cs:kc K t.Bc "off"
 xr:kc K t.Bc "near"
 Ip:kc K t.Bc "least"
 mo:Cls K t.Cc
 rE:Mk K t.Cc t.df
 cq:su K t.Cc "ready" t.Ff
 As:su K t.Cc "fade" t.lg
 Zq:kc K t.Cc "kind"
 gq:kc K t.Cc "name"
 Dp:kc K t.Cc "start"
 Vr:kc K t.Cc "end"
 Ur:kc K t.Cc "off"
 cr:kc K t.Cc "near"
 Bp:kc K t.Cc "least"
 Rc:Cls K t.ic
 vB:Mk K t.ic t.Ge
 ko:su K t.ic "number" t.Pd
 Nd:su K t.ic "called" t.Kc
 Lh:kc K t.ic "places"
 Kj:kc K t.ic "ways"
 Fh:kc K t.ic "numbers"
 AG:t.Jn ≠ t.Xc
 yG:t.Jn ≠ t.Bc
 tG:t.Jn ≠ t.Cc
 Ki:t.Xc ≠ t.Bc
 Qi:t.Xc ≠ t.Cc
 Wh:t.Bc ≠ t.Cc
 Jo:jP K t.Jn "__init__" t.Tf
 UF:mg "FIGURES"=some t.lw
 bD:zd (.str (Str.ofString "0123456789")) t.lw
 ls:mg "LEAST_PLACES"=some t.cm
 Ks:zd (.int 2) t.cm
 gF:mg "LETTERS"=some t.qx
 eD:zd (.str (Str.ofString "abcdefghijklmnopqrstuvwxyz")) t.qx
 Yr:mg "MOST_FIGURES"=some t.km
 Gs:zd (.int 3) t.km
 xx:mg "MOST_LEAST"=some t.Po
 Xw:zd (.int 60) t.Po
 Es:mg "MOST_LETTERS"=some t.dm
 js:zd (.int 8) t.dm
 gy:mg "MOST_NEAR"=some t.Lq
 Jy:zd (.int 30) t.Lq
 cC:mg "MOST_OFF"=some t.Kt
 nC:zd (.int 30) t.Kt
 fv:mg "MOST_PLACES"=some t.jn
 Ou:zd (.int 99) t.jn
 Qx:mg "MOST_WAYS"=some t.yq
 Wx:zd (.int 12) t.yq
 rO:mg "all"=none
 MC:mg "bool"=none
 PL:mg "dict"=none
 Sf:mg "enumerate"=none
 yH:mg "int"=none
 Zc:mg "isinstance"=none
 ff:mg "len"=none
 wD:mg "list"=none
 JG:mg "max"=none
 oO:mg "min"=none
 Kf:mg "range"=none
 sO:mg "set"=none
 jL:mg "str"=none
 KO:mg "sum"=none
 vy:mg "tuple"=none
 QO:mg "zip"=none
 mM:∀ (s:Shared) (u:Value),BindsTo s t.qI ⟨[u],[]⟩ [("_law_script",u)]
section
variable {w:World} {K:PySem.W.Frag} {mg:Str→Option Value} {t:Adr} (T:Txt w K mg t)
include T
theorem Txt.Ty:gc K t.Pp q33 []:=T.Tp.binds fun _ _ _ _ _ _=>us3 fun _ _ _=>rfl
theorem Txt.Ax:gc K t.Ph q25 []:=T.Uk.binds fun _ _ _ _ _ _=>us3 fun _ _ _=>rfl
theorem Txt.JL:gc K t.tz q10 []:=T.dE.binds fun _ _ _ _ _ _=>us3 fun _ _ _=>rfl
theorem Txt.EO:gc K t.dI q10 []:=T.wK.binds fun _ _ _ _ _ _=>us3 fun _ _ _=>rfl
theorem Txt.ip:gc K t.gf ["wanted"] []:=T.Ig.binds fun _ _ _ _ _ _=>us1 fun _=>rfl
theorem Txt.uk:gc K t.Ud q9 []:=T.vf.binds fun _ _ _ _ _ _=>us3 fun _ _ _=>rfl
theorem Txt.Mo:gc K t.ei q9 []:=T.Qh.binds fun _ _ _ _ _ _=>us3 fun _ _ _=>rfl
theorem Txt.Sk:gc K t.Yd q19 []:=T.Bf.binds fun _ _ _ _ _ _=>us5 fun _ _ _ _ _=>rfl
theorem Txt.Jv:gc K t.rg q26 []:=T.fk.binds fun _ _ _ _ _ _=>us4 fun _ _ _ _=>rfl
theorem Txt.Lk:gc K t.Hd q34 []:=T.Ie.binds fun _ _ _ _ _ _=>us2 fun _ _=>rfl
theorem Txt.aC:gc K t.kl ["wanted"] []:=T.jo.binds fun _ _ _ _ _ _=>us1 fun _=>rfl
theorem Txt.Kl:gc K t.Md q35 []:=T.Ye.binds fun _ _ _ _ _ _=>us2 fun _ _=>rfl
theorem Txt.io:gc K t.Me q36 []:=T.Vf.binds fun _ _ _ _ _ _=>us3 fun _ _ _=>rfl
theorem Txt.ur:gc K t.Zi q20 []:=T.Ui.binds fun _ _ _ _ _ _=>us4 fun _ _ _ _=>rfl
theorem Txt.Ej:gc K t.nh q37 []:=T.Jf.binds fun _ _ _ _ _ _=>us3 fun _ _ _=>rfl
theorem Txt.Cu:gc K t.Vg ["wanted"] []:=T.Cj.binds fun _ _ _ _ _ _=>us1 fun _=>rfl
theorem Txt.fu:gc K t.ol q38 []:=T.Dl.binds fun _ _ _ _ _ _=>us2 fun _ _=>rfl
theorem Txt.zL:gc K t.Iu ["text"] []:=T.wy.binds fun _ _ _ _ _ _=>us1 fun _=>rfl
theorem Txt.ap:gc K t.qg q14 []:=T.ii.binds fun _ _ _ _ _ _=>us3 fun _ _ _=>rfl
theorem Txt.Cy:gc K t.Gj q27 []:=T.zm.binds fun _ _ _ _ _ _=>us2 fun _ _=>rfl
theorem Txt.jF:gc K t.Fn q39 []:=T.rq.binds fun _ _ _ _ _ _=>us3 fun _ _ _=>rfl
theorem Txt.EC:gc K t.Qn ["word"] []:=T.lq.binds fun _ _ _ _ _ _=>us1 fun _=>rfl
theorem Txt.lD:gc K t.Im ["text"] []:=T.Hr.binds fun _ _ _ _ _ _=>us1 fun _=>rfl
theorem Txt.Vx:gc K t.ij ["reader"] []:=T.wm.binds fun _ _ _ _ _ _=>us1 fun _=>rfl
theorem Txt.Kq:gc K t.Af q40 []:=T.Ch.binds fun _ _ _ _ _ _=>us2 fun _ _=>rfl
theorem Txt.GB:gc K t.xl q28 []:=T.Xn.binds fun _ _ _ _ _ _=>us3 fun _ _ _=>rfl
theorem Txt.dC:gc K t.ql q29 []:=T.wo.binds fun _ _ _ _ _ _=>us7 fun _ _ _ _ _ _ _=>rfl
theorem Txt.mB:gc K t.Al q41 []:=T.Ao.binds fun _ _ _ _ _ _=>us3 fun _ _ _=>rfl
theorem Txt.Ir:gc K t.Nf ["text"] []:=T.vh.binds fun _ _ _ _ _ _=>us1 fun _=>rfl
theorem Txt.Qb:gc K t.He q11 []:=T.Mb.binds fun _ _ _ _ _ _=>us3 fun _ _ _=>rfl
theorem Txt.Qu:gc K t.ah q15 []:=T.lj.binds fun _ _ _ _ _ _=>us1 fun _=>rfl
theorem Txt.Mv:gc K t.Hh q42 []:=T.Qk.binds fun _ _ _ _ _ _=>us2 fun _ _=>rfl
theorem Txt.Fy:gc K t.tj q43 []:=T.um.binds fun _ _ _ _ _ _=>us3 fun _ _ _=>rfl
theorem Txt.Sx:gc K t.Ij q44 []:=T.Bm.binds fun _ _ _ _ _ _=>us2 fun _ _=>rfl
theorem Txt.Fu:gc K t.kh q45 []:=T.yj.binds fun _ _ _ _ _ _=>us3 fun _ _ _=>rfl
theorem Txt.Yu:gc K t.gh q46 []:=T.vj.binds fun _ _ _ _ _ _=>us2 fun _ _=>rfl
theorem Txt.Uo:gc K t.Ag q21 []:=T.Mh.binds fun _ _ _ _ _ _=>us2 fun _ _=>rfl
theorem Txt.Ug:gc K t.ee q12 []:=T.Xe.binds fun _ _ _ _ _ _=>us4 fun _ _ _ _=>rfl
theorem Txt.Lw:gc K t.Nh q22 []:=T.Fk.binds fun _ _ _ _ _ _=>us2 fun _ _=>rfl
theorem Txt.Eo:gc K t.Xd q30 []:=T.Zf.binds fun _ _ _ _ _ _=>us5 fun _ _ _ _ _=>rfl
theorem Txt.Ak:gc K t.qf q23 []:=T.rf.binds fun _ _ _ _ _ _=>us5 fun _ _ _ _ _=>rfl
theorem Txt.ig:gc K t.kg q16 []:=T.ve.binds fun _ _ _ _ _ _=>us2 fun _ _=>rfl
theorem Txt.Dg:gc K t.vd q13 []:=T.yd.binds fun _ _ _ _ _ _=>us3 fun _ _ _=>rfl
theorem Txt.yw:gc K t.Zm q47 []:=T.Rm.binds fun _ _ _ _ _ _=>us4 fun _ _ _ _=>rfl
theorem Txt.Bo:gc K t.Re q48 []:=T.Wf.binds fun _ _ _ _ _ _=>us3 fun _ _ _=>rfl
theorem Txt.Tu:gc K t.mh q49 []:=T.Nn.binds fun _ _ _ _ _ _=>us3 fun _ _ _=>rfl
theorem Txt.qp:gc K t.kf q31 []:=T.Qj.binds fun _ _ _ _ _ _=>us3 fun _ _ _=>rfl
theorem Txt.Le:gc K t.Ic ["self"] []:=T.Ri.binds fun _ _ _ _ _ _=>us1 fun _=>rfl
theorem Txt.Ol:gc K t.Kd ["self"] []:=T.Mg.binds fun _ _ _ _ _ _=>us1 fun _=>rfl
theorem Txt.Jg:gc K t.qd q17 []:=T.Lj.binds fun _ _ _ _ _ _=>us2 fun _ _=>rfl
theorem Txt.Gh:gc K t.Ed q32 []:=T.Oh.binds fun _ _ _ _ _ _=>us2 fun _ _=>rfl
theorem Txt.Gc:gc K t.Jc q24 []:=T.yh.binds fun _ _ _ _ _ _=>us3 fun _ _ _=>rfl
theorem Txt.Zh:gc K t.Fd ["self"] []:=T.Th.binds fun _ _ _ _ _ _=>us1 fun _=>rfl
theorem Txt.Fo:gc K t.oh q18 []:=T.lu.binds fun _ _ _ _ _ _=>us8 fun _ _ _ _ _ _ _ _=>rfl
theorem Txt.uu:gc K t.eh q5 []:=T.yn.binds fun _ _ _ _ _ _=>us7 fun _ _ _ _ _ _ _=>rfl
theorem Txt.ss:gc K t.Ai ["self"] []:=T.em.binds fun _ _ _ _ _ _=>us1 fun _=>rfl
theorem Txt.gv:gc K t.zj ["self"] []:=T.wn.binds fun _ _ _ _ _ _=>us1 fun _=>rfl
theorem Txt.Tr:gc K t.gg q5 []:=T.im.binds fun _ _ _ _ _ _=>us7 fun _ _ _ _ _ _ _=>rfl
theorem Txt.kr:gc K t.Bh ["self"] []:=T.Ek.binds fun _ _ _ _ _ _=>us1 fun _=>rfl
theorem Txt.Hs:gc K t.vi ["self"] []:=T.Yl.binds fun _ _ _ _ _ _=>us1 fun _=>rfl
theorem Txt.Ls:gc K t.ng q5 []:=T.Xl.binds fun _ _ _ _ _ _=>us7 fun _ _ _ _ _ _ _=>rfl
theorem Txt.Zp:gc K t.Ah ["self"] []:=T.Yk.binds fun _ _ _ _ _ _=>us1 fun _=>rfl
theorem Txt.Ss:gc K t.zi ["self"] []:=T.gm.binds fun _ _ _ _ _ _=>us1 fun _=>rfl
theorem Txt.Gr:gc K t.wf q50 []:=T.sk.binds fun _ _ _ _ _ _=>us3 fun _ _ _=>rfl
theorem Txt.oo:gc K t.Ve q8 []:=T.Ti.binds fun _ _ _ _ _ _=>us2 fun _ _=>rfl
theorem Txt.Td:gc K t.bd q8 []:=T.Si.binds fun _ _ _ _ _ _=>us2 fun _ _=>rfl
end
noncomputable def vk (ns:List Int) (k m:Int):Int:=
 ((((if 0 < (ns.length:Int) then ns.getD (k % (ns.length:Int)).toNat 0 else 0) % 1000003 + 31 * k * k + 1) * 48271 % 999983 * 7919) % 524287) % m
theorem ae (ns:List Int) (k:Int) {m:Int} (h:0 < m):0 ≤ vk ns k m:=Int.emod_nonneg _ (by omega)
theorem Wd (ns:List Int) (k:Int) {m:Int} (h:0 < m):vk ns k m < m:=Int.emod_lt_of_pos _ h
noncomputable def Tc (K:PySem.W.Frag) (a:Addr) (ns:List Int):Sp:=fun vs H Q _=>∃ k m,vs=[.ref a,.int k,.int m]∧Sc K a ns H∧(0 ≤ k∧k < 1000000)∧0 < m∧Q (.int (vk ns k m)) H
section
variable {P:Program} {w:World} {K:PySem.W.Frag} {mg:Str→Option Value} {base:Heap} {t:Adr}
theorem jr (T:Txt w K mg t) (a:Addr) (ns:List Int) (h63:ns.length ≤ 63):Zb P w K mg base CX0 1 t.Ce t.He q11 (Tc K a ns):=by
 refine T.Mb.ok Vk (fun vs H Q E h=>?_) (fun _ _ _ s H vs Q E hr h=>?_)
 ·obtain ⟨k,m,rfl,_⟩:=h;rfl
 obtain ⟨k,m,rfl,S,⟨h0,h1⟩,hm,q⟩:=h;refine ⟨_,(db (wb (i:=3) Vk.nd (zu (Gb Jp (Kb Fb rfl T.ff Nb (cb (pv 0) fb)) jb (Ub _)) (Db Qd (pv 0) (Yb wg (pv 1) (Kb Fb rfl T.ff Nb (cb (pv 0) fb)))) jb))
   (db (wb (i:=4) Vk.nd (Yb wc (Yb wc (Yb wg (pv 3) jb) (Yb ph (Yb ph jb (pv 1)) (pv 1))) jb))
   (lb (Bb (Yb wg (Yb wg (Yb ph (Yb wg (Yb ph (pv 4) jb) jb) jb) jb) (pv 2)))))),?_⟩
 walk_at "RD";refine ⟨_,.inl S.seq,?_⟩;rw [List.length_map];have hkk:(0:Int) ≤ k * k∧k * k < 1000000 * 1000000:=⟨Int.mul_nonneg h0 h0,Int.mul_lt_mul' (by omega) h1 h0 (by decide)⟩;have fin:∀ i:Int,(0:Int) < 1000003∧sK 31 k∧sK (31 * k) k∧sK (i % 1000003 + 31 * k * k + 1) 48271∧(0:Int) < 999983∧sK ((i % 1000003 + 31 * k * k + 1) * 48271 % 999983) 7919∧(0:Int) < 524287∧0 < m:=by
  intro i;refine ⟨by decide,.inl (by decide),.inr (by omega),.inr (by decide),by decide,.inr (by decide),by decide,hm⟩
 by_cases c:(0:Int) < (ns.length:Int)
 ·rw [if_pos (decide_eq_true c)];have hk:0 ≤ k % (ns.length:Int)∧k % (ns.length:Int) < (ns.length:Int):=⟨Int.emod_nonneg _ (by omega),Int.emod_lt_of_pos _ c⟩;refine ⟨_,.inl S.seq,by rw [List.length_map];exact c,_,S.seq,?_⟩;rw [List.length_map];have hj:(k % (ns.length:Int)).toNat < ns.length:=by omega
  refine ⟨.int ns[(k % (ns.length:Int)).toNat],?_,_,rfl,?_⟩
  ·have e:=yb (xs:=ns.map V.int) (j:=(k % (ns.length:Int)).toNat) (v:=.int ns[(k % (ns.length:Int)).toNat]) (by rw [List.getElem?_map,List.getElem?_eq_getElem hj] <;> rfl);rwa [Int.toNat_of_nonneg hk.1] at e
  ·obtain ⟨f1,f2,f3,f4,f5,f6,f7,f8⟩:=fin ns[(k % (ns.length:Int)).toNat];refine ⟨f1,f2,f3,f4,f5,f6,f7,f8,?_⟩;have e:vk ns k m=(((ns[(k % (ns.length:Int)).toNat] % 1000003 + 31 * k * k + 1) * 48271 % 999983 * 7919) % 524287) % m:=by
    unfold vk;rw [if_pos c,List.getD_eq_getElem?_getD,List.getElem?_eq_getElem hj];rfl
   rw [← e];exact q
 ·rw [if_neg (by simpa using c)];obtain ⟨f1,f2,f3,f4,f5,f6,f7,f8⟩:=fin 0;refine ⟨f1,f2,f3,f4,f5,f6,f7,f8,?_⟩;have e:vk ns k m=(((0 % 1000003 + 31 * k * k + 1) * 48271 % 999983 * 7919) % 524287) % m:=by
   unfold vk;rw [if_neg c]
  rw [← e];exact q
end
theorem VN {w:Str}:w=Str.ofString "" ↔ w.length=0:=by
 constructor
 ·rintro rfl;decide +kernel
 ·intro h;have e:w.cps=#[]:=Array.eq_empty_of_size_eq_zero h;have e2:(Str.ofString "").cps=#[]:=by decide +kernel
  cases w;cases h2:Str.ofString "";rw [h2] at e2;simp only at e e2;rw [e,e2]
noncomputable def inL (sg:Str) (c:Nat):Bool:=!(Builtin.Str.occurrences sg (bx c) 0 sg.length 1).isEmpty
theorem ly (sg:Str) (c:Nat):inL sg c=decide (c ∈ sg.cps.toList):=StrLaws.found_one sg c
noncomputable def made (w sg:Str) (m:Int):Bool:=if w=Str.ofString "" then false else if m < (w.length:Int) then false else w.cps.toList.all (inL sg)
noncomputable def gr:Sp:=fun vs H Q _=>∃ w sg m,vs=[.str w,.str sg,.int m]∧w.length ≤ 1000∧NoT H∧Q (.bl (made w sg m)) H
noncomputable def aI:Sp:=fun vs H Q _=>∃ w sg m,vs=[.str w,.str sg,.int m]∧w.length ≤ 1000∧∀ H',ac H H'→Q (.bl (made w sg m)) H'
section
variable {P:Program} {w:World} {K:PySem.W.Frag} {mg:Str→Option Value} {base:Heap} {t:Adr}
theorem tE (T:Txt w K mg t):Zb P w K mg base CX0 1 t.zg t.qg q14 gr:=by
 refine Zb.forget (sp:=aI) ?_ fun vs H Q E h=>?_
 ·refine T.ii.ok Wu (fun vs H Q E h=>?_) (fun _ _ _ s H vs Q E hr h=>?_)
  ·obtain ⟨w,sg,m,rfl,_⟩:=h;rfl
  obtain ⟨w,sg,m,rfl,hz,q⟩:=h;have hz':w.length ≤ sizeLine:=Nat.le_trans hz (by decide);refine ⟨_,(db (Dc (PW.pt (Zg (Gb Of (pv 0) ad (Ub _)) (Bg (Gb Jp (Kb aw rfl T.ff Nb (cb (pv 0) fb)) (pv 2) (Ub _))))) (lb (Bb Xf)) Ob)
   (lb (Bb (Kb (YG rfl) rfl T.rO FB (cb (Yf rfl (GN (pv 0)) (Ec (sc:=ub xk) rfl (by decide +kernel)) (N:=["sign","signs"]) (sel:=[none,some 1]) (kd (M:=q14) (by decide +kernel)) (Blk.of (fun _ _ _ _=>(Eb (i:=0) (Bi (N:=["sign","signs"]) (by decide +kernel) rfl))) (fun _ _ _ _=>⟨_,Kg,by walk_at "B"⟩) (fun _ _ _ _=>⟨_,(ld xE (pv 0) (pv 1) (by with_unfolding_all rfl)),by walk_at "B"⟩))) fb))))),?_⟩
  walk_at "RD";refine Ib (decide (w=Str.ofString "") || decide (m < (w.length:Int))) (fun Q hQ=>?_) (fun hb=>?_) (fun hb=>?_)
  ·walk_at "RD";by_cases c:w=Str.ofString ""
   ·rw [if_pos (decide_eq_true c)];rw [decide_eq_true c,Bool.true_or] at hQ;exact hQ
   ·rw [if_neg (by simpa using c)];rw [decide_eq_false c,Bool.false_or] at hQ;exact ⟨hz',hQ⟩
  ·walk_at "RD";have e:made w sg m=false:=by
    unfold made;simp only [Bool.or_eq_true,decide_eq_true_eq] at hb;by_cases c:w=Str.ofString ""
    ·rw [if_pos c]
    ·rw [if_neg c,if_pos (hb.resolve_left c)]
   have:=q H (ac.refl H);rw [e] at this;exact this
  ·walk_at "RD";have e:made w sg m=w.cps.toList.all (inL sg):=by
    unfold made;simp only [Bool.or_eq_false_iff,decide_eq_false_iff_not] at hb;rw [if_neg hb.1,if_neg hb.2]
   refine gd.its_map (fun x=>match x with | .str y=>.bl (!(Builtin.Str.occurrences sg y 0 sg.length 1).isEmpty) | _=>.non) (by rw [zn];exact hz') (fun i x N hx hN=>?_) (fun p hp=>?_)
   ·unfold Mj at hx;rw [List.getElem?_map] at hx;cases hc:w.cps.toList[i]? with
    | none=>rw [hc] at hx;cases hx
    | some c=>
     rw [hc] at hx;have hx':V.str (bx c)=x:=Option.some.inj hx;subst hx';walk_at "RD";exact ⟨Sub.name,hN⟩
   ·refine ⟨p,rfl,w.cps.toList.map (inL sg),SqL.of ?_,?_⟩
    ·rw [ib];unfold Mj;rw [List.map_map,List.map_map];rfl
    ·have:=q (upd H p (.lst (List.map (fun x=>match x with | .str y=>.bl (!(Builtin.Str.occurrences sg y 0 sg.length 1).isEmpty) | _=>.non) (Mj w)))) (gb hp);rw [e] at this;rw [List.all_map];exact this
 ·obtain ⟨w,sg,m,e,hz,nt,q⟩:=h;exact ⟨nt,w,sg,m,e,hz,fun H' sm=>⟨sm,q⟩⟩
end
noncomputable abbrev yK:Str:=Str.ofString "0123456789"
noncomputable def Np (c:Nat):Bool:=decide (48 ≤ c∧c ≤ 57)
theorem vH (c:Nat):inL yK c=Np c:=by
 rw [ly,show yK.cps.toList=List.range' 48 10 by decide +kernel];unfold Np;refine decide_eq_decide.mpr ?_;rw [List.mem_range'_1];exact and_congr_right fun _=>show c < 58↔c ≤ 57 from Nat.lt_succ_iff
noncomputable abbrev cs (w:Str):List Nat:=w.cps.toList
theorem kG (w:Str):(cs w).length=w.length:=by simp [cs,Str.length]
noncomputable def okB (w:Str):Bool:=decide (1 ≤ (cs w).length) && decide ((cs w).length ≤ 3) && (cs w).all Np && (decide ((cs w).length ≤ 1) || decide ((cs w).headD 0 ≠ 48))
noncomputable abbrev val (w:Str):Int:=((NumText.digitsVal (cs w):Nat):Int)
noncomputable def vG (w:Str) (lo hi:Int):V:=if okB w && !(decide (val w < lo) || decide (hi < val w)) then .int (val w) else .non
theorem XE {w:Str} {c:Nat}:w=⟨#[c]⟩↔cs w=[c]:=by
 constructor
 ·rintro rfl;rfl
 ·intro h;cases w with
  | mk a=>
   have e:a=#[c]:=Array.toList_inj.mp h;rw [e]
theorem Ey:Str.ofString "0"=⟨#[48]⟩:=by decide +kernel
theorem Nv (w:Str):made w yK 3=(decide (1 ≤ (cs w).length) && decide ((cs w).length ≤ 3) && (cs w).all Np):=by
 unfold made;have e:(inL yK)=Np:=funext vH;rw [e];by_cases h1:w=Str.ofString ""
 ·have h2:=VN.mp h1;rw [if_pos h1,kG,h2];rfl
 ·have h2:¬ w.length=0:=fun z=>h1 (VN.mpr z)
  rw [if_neg h1,kG];by_cases h3:(3:Int) < (w.length:Int)
  ·rw [if_pos h3,decide_eq_false (show ¬ w.length ≤ 3 by omega),Bool.and_false,Bool.false_and]
  ·rw [if_neg h3,decide_eq_true (show 1 ≤ w.length by omega),decide_eq_true (show w.length ≤ 3 by omega)];rfl
theorem Du {l:List Nat} (h:l.all Np=true):NumText.AllDigits l:=fun c hc=>by
 have:=List.all_eq_true.mp h c hc;simpa [Np] using this
theorem wM {w:Str} (h:okB w=true):(1 ≤ (cs w).length∧(cs w).length ≤ 3)∧(cs w).all Np=true:=by
 unfold okB at h;simp only [Bool.and_eq_true,decide_eq_true_eq] at h;exact h.1
noncomputable def nG:Sp:=fun vs H Q _=>∃ w,vs=[.str w,.int 3]∧w.length ≤ 1000∧NoT H∧Q (.bl (okB w)) H
noncomputable def AI:Sp:=fun vs H Q _=>∃ w lo hi,vs=[.str w,.int lo,.int hi]∧w.length ≤ 1000∧NoT H∧Q (vG w lo hi) H
section
variable {P:Program} {w:World} {K:PySem.W.Frag} {mg:Str→Option Value} {base:Heap} {t:Adr}
theorem IN (T:Txt w K mg t):Zb P w K mg base CX0 2 t.Jj t.Gj q27 nG:=by
 have g18:Zb P w K mg base CX0 1 t.zg t.qg q14 gr:=tE T;refine T.zm.ok Wv (fun vs H Q E h=>?_) (fun _ _ _ s H vs Q E hr h=>?_)
 ·obtain ⟨w,rfl,_⟩:=h;rfl
 obtain ⟨w,rfl,hz,nt,q⟩:=h;have hz':w.length ≤ sizeLine:=Nat.le_trans hz (by decide);refine ⟨_,(db (Dc (af (pe (qb g18 hr T.Oo T.ii.kp T.ap (cb (pv 0) (cb (si rfl T.UF T.bD) (cb (pv 1) fb)))))) (lb (Bb Xf)) Ob)
   (lb (Bb (OJ (ld Of (pv 0) ad (Ub _)) (fm (ld Vs (Db lF (pv 0) jb) ad (Ub _))))))),?_⟩
 refine Ib (!made w yK 3) (fun Q hQ=>?_) (fun hb=>?_) (fun hb=>?_)
 ·(walk_at "RD"; repeat (dsimp only [gr];walk_at "RD"));exact ⟨hz,nt,hQ⟩
 ·walk_at "RD";have e:okB w=false:=by
   have hb':made w yK 3=false:=by simpa using hb
   rw [Nv] at hb';unfold okB;rw [hb'];rfl
  rw [e] at q;exact q
 ·have hb':made w yK 3=true:=by simpa using hb
  rw [Nv] at hb';rw [Xb];dsimp only;refine AK (.bl (okB w)) (fun Q hQ=>?_) ?_
  case refine_2=>exact q
  walk_at "RD";have hb2:(1 ≤ (cs w).length∧(cs w).length ≤ 3)∧(cs w).all Np=true:=by
   simpa only [Bool.and_eq_true,decide_eq_true_eq] using hb'
  obtain ⟨c,r,hcr⟩:∃ c r,cs w=c :: r:=by
   cases h:cs w with
   | nil=>rw [h] at hb2;exact absurd hb2.1.1 (by decide)
   | cons c r=>exact ⟨c,r,rfl⟩
  have ok:okB w=(decide ((cs w).length ≤ 1) || decide ((cs w).headD 0 ≠ 48)):=by
   unfold okB;rw [hb',Bool.true_and]
  by_cases c0:w=Str.ofString "0"
  ·rw [if_pos (decide_eq_true c0)];have e:cs w=[48]:=by rw [c0,Ey]
   rw [ok,e] at hQ;exact hQ
  ·rw [if_neg (by simpa using c0)];refine ⟨hz',c,?_,?_⟩
   ·have:=yb (xs:=cs w) (j:=0) (v:=c) (by rw [hcr];rfl);exact this
   ·have e2:decide ((⟨#[c]⟩:Str)=Str.ofString "0")=decide (c=48):=by
     rw [Ey];by_cases h48:c=48
     ·rw [h48];simp
     ·rw [decide_eq_false h48,decide_eq_false];intro z;have z2:=XE.mp z;exact h48 (List.cons.inj z2).1
    rw [e2];have e3:okB w = !decide (c=48):=by
     rw [ok,hcr];show (decide ((c :: r).length ≤ 1) || decide (c ≠ 48))=_;by_cases h48:c=48
     ·have hr:r ≠ []:=fun z=>c0 (by rw [Ey];exact XE.mpr (by rw [hcr,z,h48]))
      have:¬ (c :: r).length ≤ 1:=by
       cases r with
       | nil=>exact absurd rfl hr
       | cons d r=>simp
      rw [decide_eq_false this,h48];rfl
     ·rw [decide_eq_true h48,Bool.or_true,decide_eq_false h48];rfl
    rw [← e3];exact hQ
theorem zN (T:Txt w K mg t):Zb P w K mg base CX0 3 t.Ln t.Fn q39 AI:=by
 have g29:Zb P w K mg base CX0 2 t.Jj t.Gj q27 nG:=IN T;refine T.rq.ok Xt (fun vs H Q E h=>?_) (fun _ _ _ s H vs Q E hr h=>?_)
 ·obtain ⟨w,lo,hi,rfl,_⟩:=h;rfl
 obtain ⟨w,lo,hi,rfl,hz,nt,q⟩:=h;refine ⟨_,(db (Dc (af (pe (qb g29 hr T.Ix T.zm.kp T.Cy (cb (pv 0) (cb (si rfl T.Yr T.Gs) fb))))) (lb (Bb Rf)) Ob)
   (db (wb (i:=3) Xt.nd (ug pE rfl T.yH Il (cb (pv 0) fb)))
   (db (Dc (PW.pt (Zg (Gb Sm (pv 3) (pv 1) (Ub _)) (Bg (Gb Jp (pv 3) (pv 2) (Ub _))))) (lb (Bb Rf)) Ob)
   (lb (Bb (pv 3)))))),?_⟩
 refine Ib (!okB w) (fun Q hQ=>?_) (fun hb=>?_) (fun hb=>?_)
 ·(walk_at "RD"; repeat (dsimp only [nG];walk_at "RD"));exact ⟨hz,nt,hQ⟩
 ·walk_at "RD";have hb':okB w=false:=by simpa using hb
  have e:vG w lo hi=.non:=by unfold vG;rw [hb'];rfl
  rw [e] at q;exact q
 ·have hb':okB w=true:=by simpa using hb
  have h3:(1 ≤ (cs w).length∧(cs w).length ≤ 3)∧(cs w).all Np=true:=by
   have:=hb';unfold okB at this;simp only [Bool.and_eq_true,decide_eq_true_eq] at this;exact this.1
  have hl:=kG w;have hi':intText? w=some (val w):=intText_digits (Du h3.2) (fun z=>by have z':cs w=[]:=z;rw [z'] at h3;exact absurd h3.1.1 (by decide)) (by omega);walk_at "RD";refine ⟨val w,hi',by omega,?_⟩;refine Ib (decide (val w < lo) || decide (hi < val w)) (fun Q hQ=>?_) (fun hc=>?_) (fun hc=>?_)
  ·walk_at "RD";by_cases c:val w < lo
   ·rw [if_pos (decide_eq_true c)];rw [decide_eq_true c,Bool.true_or] at hQ;exact hQ
   ·rw [if_neg (by simpa using c)];rw [decide_eq_false c,Bool.false_or] at hQ;exact hQ
  ·walk_at "RD";have e:vG w lo hi=.non:=by unfold vG;rw [hb',hc];rfl
   rw [e] at q;exact q
  ·walk_at "RD";have e:vG w lo hi=.int (val w):=by unfold vG;rw [hb',hc];rfl
   rw [e] at q;exact q
end
theorem lr {n:Nat} (h:n < 1000):n.log2 < 1920:=by
 by_cases h0:n=0
 ·subst h0;decide
 ·rw [Nat.log2_lt h0];exact Nat.lt_of_lt_of_le h (Nat.le_trans (show 1000 ≤ 2 ^ 10 by decide) (Nat.pow_le_pow_right (by decide) (by decide)))
theorem oH:∀ n,n < 1000→(Nat.toDigits 10 n).length ≤ 3:=by decide +kernel
theorem VJ {n:Int} (h0:0 ≤ n) (h1:n ≤ 999):(Str.ofString (toString n)).length ≤ 3:=by
 have e:=PySem.W.KIN.signs_num n.toNat;rw [Int.toNat_of_nonneg h0] at e;have l:(Str.ofString (toString n)).length=(Str.ofString (toString n)).cps.toList.length:=by simp [Str.length]
 rw [l,e,List.length_map];exact oH _ (by omega)
noncomputable abbrev Ei:Str:=Str.ofString "abcdefghijklmnopqrstuvwxyz"
noncomputable def dF:Sp:=fun vs H Q _=>∃ w,vs=[.str w]∧w.length ≤ 1000∧NoT H∧Q (.bl (made w Ei 8)) H
section
variable {P:Program} {w:World} {K:PySem.W.Frag} {mg:Str→Option Value} {base:Heap} {t:Adr}
theorem uL (T:Txt w K mg t):Zb P w K mg base CX0 2 t.Dn t.Qn ["word"] dF:=by
 have g18:Zb P w K mg base CX0 1 t.zg t.qg q14 gr:=tE T;refine T.lq.ok RB (fun vs H Q E h=>?_) (fun _ _ _ s H vs Q E hr h=>?_)
 ·obtain ⟨w,rfl,_⟩:=h;rfl
 obtain ⟨w,rfl,hz,nt,q⟩:=h;refine ⟨_,(lb (Bb (qb g18 hr T.Oo T.ii.kp T.ap (cb (pv 0) (cb (si rfl T.gF T.eD) (cb (si rfl T.Es T.js) fb)))))),?_⟩;(walk_at "RD"; repeat (dsimp only [gr];walk_at "RD"));exact ⟨hz,nt,q⟩
end
noncomputable abbrev nl:Str:=Str.ofString "\n"
noncomputable abbrev bk:Str:=Str.ofString " "
theorem JO:nl=⟨#[10]⟩:=by decide +kernel
theorem LM:bk=⟨#[32]⟩:=by decide +kernel
noncomputable def Pj (x:Str):List (List Str):=(Txt.split x nl).map fun r=>Txt.split r bk
theorem wt:∀ {ys:List Str} {y:Str},y ∈ ys→y.length ≤ (ys.map (·.length)).sum
 | [],_,h=>nomatch h
 | a :: r,y,h=>by
  rw [List.map_cons,List.sum_cons];rcases List.mem_cons.mp h with rfl | h
  ·omega
  ·have:=wt h;omega
theorem FK {x y r:Str} (hy:1 ≤ y.length) (h:r ∈ Txt.split x y):r.length ≤ x.length + 1:=by
 have h1:=PyProof.Rows.split_weight x y hy;have h2:=wt h;omega
theorem Qq {x y:Str} (hy:1 ≤ y.length):(Txt.split x y).length ≤ x.length + 1:=by
 have h1:=PyProof.Rows.split_weight x y hy;omega
theorem QH (x y:Str):Txt.split x y ≠ []:=by
 unfold Txt.split;split
 ·simp
 ·split
  ·simp
  ·rw [StrLaws.partsBetween_eq];obtain ⟨p,r,e⟩:=StrLaws.partsFrom_ne x y.length 0 (Builtin.Str.occurrences x y 0 x.length (x.length + 1));rw [e];simp
noncomputable def LL (H0 H:Hp) (p:Addr) (rows:List (List Str)):Prop:=∃ qs:List Addr,H p=some (.lst (qs.map V.ref))∧H0 p=none∧p ∉ qs∧qs.length=rows.length∧∀ (i:Nat) (q:Addr) (r:List Str),qs[i]? = some q→rows[i]? = some r→H q=some (.lst (Lc r))∧H0 q=none
noncomputable def Yy:Sp:=fun vs H Q _=>∃ x,vs=[.str x]∧x.length ≤ 20000∧NoT H∧∀ p H',ac H H'→NoT H'→LL H H' p (Pj x)→Q (.ref p) H'
theorem Qy:nl.length=1:=by decide +kernel
theorem wA:bk.length=1:=by decide +kernel
section
variable {P:Program} {w:World} {K:PySem.W.Frag} {mg:Str→Option Value} {base:Heap} {t:Adr}
theorem mH (T:Txt w K mg t):Zb P w K mg base CX0 1 t.yv t.Iu ["text"] Yy:=by
 refine T.wy.ok GG (fun vs H Q E h=>?_) (fun _ _ _ s H vs Q E hr h=>?_)
 ·obtain ⟨x,rfl,_⟩:=h;rfl
 obtain ⟨x,rfl,hz,nt,q⟩:=h;have hzz:∀ n:Nat,n ≤ 40000→n ≤ sizeLine:=fun n h=>Nat.le_trans h (by decide)
 refine ⟨_,(lb (Bb (Yf rfl (Eg (uo PySem.F.plainAttrs_str PySem.F.slot_str_split PySem.F.type_str_split az (pv 0) (cb ad fb))) (Ec (sc:=ub Yx) rfl (by decide +kernel)) (N:=["row"]) (sel:=[none]) (kd (M:=["text"]) (by decide +kernel)) (Blk.of (fun _ _ _ _=>(Eb (i:=0) (Bi (N:=["row"]) (by decide +kernel) rfl))) (fun _ _ _ _=>⟨_,Kg,by walk_at "B"⟩) (fun _ _ _ _=>⟨_,(uo PySem.F.plainAttrs_str PySem.F.slot_str_split PySem.F.type_str_split az (pv 0) (cb ad fb)),by walk_at "B"⟩))))),?_⟩;walk_at "RD";have hy:1 ≤ nl.length:=by rw [Qy];exact Nat.le_refl _
 have hy2:1 ≤ bk.length:=by rw [wA];exact Nat.le_refl _
 have hs:=Qq (x:=x) hy;have hs':(Lc (Txt.split x nl)).length ≤ sizeLine:=by unfold Lc;rw [List.length_map];exact hzz _ (by omega)
 refine ⟨by rw [Qy];decide,hzz _ (by omega),hzz _ (show (Txt.split x nl).length ≤ 40000 by omega),fun p hp=>⟨⟨_,SqL.of ib⟩,?_⟩⟩;refine gd.list_mk (xs:=Lc (Txt.split x nl)) (fun v=>match v with | .str r=>.lst (Lc (Txt.split r bk)) | _=>.lst []) (SqL.of ib) hs' (fun v=>by cases v <;> rfl) (fun i v H1 N hx sm nt1 hN=>?_) (fun qs H1 sm nt1 hl al p2 hp2=>?_)
 ·unfold Lc at hx;rw [List.getElem?_map] at hx;cases hr:(Txt.split x nl)[i]? with
  | none=>rw [hr] at hx;cases hx
  | some r=>
   rw [hr] at hx;have e:=Option.some.inj hx;subst e;have hm:=FK hy (List.mem_of_getElem? hr);have hs2:=Qq (x:=r) hy2;walk_at "RD";exact ⟨Sub.name,by rw [wA];decide,hzz _ (by omega),hzz _ (show (Txt.split r bk).length ≤ 40000 by omega),hN⟩
 ·have sm0:ac H H1:=(gb hp).trans sm;refine q _ _ (sm0.updN (sm0.free hp2)) ((nt1 (nt.upd)).upd) ⟨qs,ib,sm0.free hp2,fun hm=>?_,?_,fun i q' r h1 h2=>?_⟩
  ·obtain ⟨j,hj,e⟩:=List.getElem_of_mem hm;have hj2:j < (Lc (Txt.split x nl)).length:=by omega
   have:=al j p2 _ (by rw [List.getElem?_eq_getElem hj,e]) (List.getElem?_eq_getElem hj2);rw [hp2] at this;cases this.1
  ·rw [hl];unfold Pj Lc;rw [List.length_map,List.length_map]
  ·unfold Pj at h2;rw [List.getElem?_map] at h2;cases hr:(Txt.split x nl)[i]? with
   | none=>rw [hr] at h2;cases h2
   | some r0=>
    rw [hr] at h2;have e:=Option.some.inj h2;subst e;have z:=al i q' (.str r0) h1 (by unfold Lc;rw [List.getElem?_map,hr];rfl);refine ⟨by rw [Ab (Lb z.1 hp2)];exact z.1,?_⟩;have:=z.2;by_cases hq:q'=p
    ·rw [hq];exact hp
    ·rwa [Ab hq] at this
end
end My
namespace My
open PySem L2
structure WD where
 k:Nat
 name:Str
 start:Int
 fin:Int
 off:Int
 near:Int
 least:Int
noncomputable def ce:Nat→Str
 | 0=>Str.ofString "car"
 | 1=>Str.ofString "foot"
 | _=>Str.ofString "tram"
noncomputable def Adr.cw (t:Adr):Nat→Addr
 | 0=>t.Xc
 | 1=>t.Bc
 | _=>t.Cc
noncomputable def Rr (d:WD):List (Str × V):=[(Str.ofString "kind",.str (ce d.k)),(Str.ofString "name",.str d.name),(Str.ofString "start",.int d.start),(Str.ofString "end",.int d.fin),(Str.ofString "off",.int d.off),(Str.ofString "near",.int d.near),(Str.ofString "least",.int d.least)]
noncomputable abbrev Us:List Str:=[Str.ofString "kind",Str.ofString "name",Str.ofString "start",Str.ofString "end",Str.ofString "off",Str.ofString "near",Str.ofString "least"]
theorem yt (d:WD):(Rr d).map (·.1)=Us:=rfl
noncomputable def Ue (t:Adr) (H:Hp) (p:Addr) (d:WD):Prop:=d.k < 3∧∃ dx,H p=some (.ins (t.cw d.k) dx (Rr d))
theorem Ue.same {t:Adr} {H H':Hp} {p:Addr} {d:WD} (h:Ue t H p d) (s:ac H H'):Ue t H' p d:=⟨h.1,h.2.imp fun dx e=>s _ _ e⟩
noncomputable def isW (t:Adr) (C:Addr):Prop:=∃ k,k < 3∧C=t.cw k
noncomputable def ji (d:WD):Int:=match d.k with | 0=>1 | 1=>0 | _=>2
noncomputable def cn (d:WD):Int:=match d.k with | 0=>2 | 1=>d.off | _=>1
section
variable {w:World} {K:PySem.W.Frag} {mg:Str→Option Value} {t:Adr}
theorem Txt.clw (T:Txt w K mg t):∀ k,Cls K (t.cw k)
 | 0=>T.Mr
 | 1=>T.zo
 | _ + 2=>T.mo
theorem Txt.naw (T:Txt w K mg t) {f:Str} (hf:f ∈ Us):∀ k,kc K (t.cw k) f:=by
 intro k;simp only [Us,List.mem_cons,List.not_mem_nil,or_false] at hf;rcases hf with rfl | rfl | rfl | rfl | rfl | rfl | rfl
 ·match k with
  | 0=>exact T.Ds
  | 1=>exact T.Bq
  | _ + 2=>exact T.Zq
 ·match k with
  | 0=>exact T.Wr
  | 1=>exact T.zr
  | _ + 2=>exact T.gq
 ·match k with
  | 0=>exact T.Cr
  | 1=>exact T.Gp
  | _ + 2=>exact T.Dp
 ·match k with
  | 0=>exact T.Ev
  | 1=>exact T.Os
  | _ + 2=>exact T.Vr
 ·match k with
  | 0=>exact T.jv
  | 1=>exact T.Cs
  | _ + 2=>exact T.Ur
 ·match k with
  | 0=>exact T.Ps
  | 1=>exact T.xr
  | _ + 2=>exact T.cr
 ·match k with
  | 0=>exact T.Pr
  | 1=>exact T.Ip
  | _ + 2=>exact T.Bp
theorem Txt.cw_inj (T:Txt w K mg t) {j k:Nat} (hj:j < 3) (hk:k < 3) (e:t.cw j=t.cw k):j=k:=by
 match j,k,hj,hk with
 | 0,0,_,_=>rfl
 | 0,1,_,_=>exact absurd e T.Ki
 | 0,2,_,_=>exact absurd e T.Qi
 | 1,0,_,_=>exact absurd e.symm T.Ki
 | 1,1,_,_=>rfl
 | 1,2,_,_=>exact absurd e T.Wh
 | 2,0,_,_=>exact absurd e.symm T.Qi
 | 2,1,_,_=>exact absurd e.symm T.Wh
 | 2,2,_,_=>rfl
 | j + 3,_,h,_=>omega
 | _,k + 3,_,h=>omega
theorem Ue.fld (T:Txt w K mg t) {H:Hp} {p:Addr} {d:WD} (h:Ue t H p d) {f:Str} {v:V} (i:Nat) (hi:Us.findIdx? (· == f)=some i) (hv:(Rr d)[i]? = some (f,v)):Rl K H p f v:=by
 obtain ⟨_,dx,e⟩:=h;have hm:f ∈ Us:=by
  obtain ⟨hlt,h1,_⟩:=List.findIdx?_eq_some_iff_getElem.mp hi;have:Us[i]=f:=by simpa using h1
  rw [← this];exact List.getElem_mem hlt
 exact ⟨_,dx,_,e,T.clw _,T.naw hm _,Ee Us i (yt d) hi hv⟩
theorem Ue.f_name (T:Txt w K mg t) {H:Hp} {p:Addr} {d:WD} (h:Ue t H p d):Rl K H p (Str.ofString "name") (.str d.name):=h.fld T 1 (by decide +kernel) rfl
theorem Ue.f_start (T:Txt w K mg t) {H:Hp} {p:Addr} {d:WD} (h:Ue t H p d):Rl K H p (Str.ofString "start") (.int d.start):=h.fld T 2 (by decide +kernel) rfl
theorem Ue.f_end (T:Txt w K mg t) {H:Hp} {p:Addr} {d:WD} (h:Ue t H p d):Rl K H p (Str.ofString "end") (.int d.fin):=h.fld T 3 (by decide +kernel) rfl
theorem Ue.f_off (T:Txt w K mg t) {H:Hp} {p:Addr} {d:WD} (h:Ue t H p d):Rl K H p (Str.ofString "off") (.int d.off):=h.fld T 4 (by decide +kernel) rfl
theorem Ue.f_near (T:Txt w K mg t) {H:Hp} {p:Addr} {d:WD} (h:Ue t H p d):Rl K H p (Str.ofString "near") (.int d.near):=h.fld T 5 (by decide +kernel) rfl
end
noncomputable def mv (t:Adr):Sp:=fun vs H Q _=>∃ (p dx:Addr) (d:WD),vs=[.ref p,.str (ce d.k),.str d.name,.int d.start,.int d.fin,.int d.off,.int d.near,.int d.least]∧d.k < 3∧H p=some (.ins (t.cw d.k) dx [])∧Q .non (upd H p (.ins (t.cw d.k) dx (Rr d)))
noncomputable def gl (t:Adr) (k:Nat):Sp:=fun vs H Q _=>∃ (p dx:Addr) (d:WD),vs=[.ref p,.str d.name,.int d.start,.int d.fin,.int d.off,.int d.near,.int d.least]∧d.k=k∧H p=some (.ins (t.cw d.k) dx [])∧Q .non (upd H p (.ins (t.cw d.k) dx (Rr d)))
section
variable {P:Program} {w:World} {K:PySem.W.Frag} {mg:Str→Option Value} {base:Heap} {t:Adr}
theorem iy (T:Txt w K mg t):Zb P w K mg base CX0 1 t.Tf t.oh q18 (mv t):=by
 refine T.lu.ok ar (fun vs H Q E h=>?_) (fun _ _ _ s H vs Q E hr h=>?_)
 ·obtain ⟨p,dx,d,rfl,_⟩:=h;rfl
 obtain ⟨p,dx,d,rfl,hk,hp,q⟩:=h;refine ⟨_,(db (Pg (pv 0) (pv 1) rfl)
   (db (Pg (pv 0) (pv 2) rfl)
   (db (Pg (pv 0) (pv 3) rfl)
   (db (Pg (pv 0) (pv 4) rfl)
   (db (Pg (pv 0) (pv 5) rfl)
   (db (Pg (pv 0) (pv 6) rfl)
   (lb (Pg (pv 0) (pv 7) rfl)))))))),?_⟩
 walk_at "RD";have na:∀ {f:Str},f ∈ Us→kc K (t.cw d.k) f:=fun hf=>T.naw hf d.k
 refine ⟨_,_,_,hp,T.clw _,na (by decide +kernel),by decide,?_⟩;refine ⟨_,_,_,ib,T.clw _,na (by decide +kernel),Cp (n:=999) (by decide),?_⟩;refine ⟨_,_,_,ib,T.clw _,na (by decide +kernel),Cp (n:=999) (Cp (n:=998) (by decide)),?_⟩;refine ⟨_,_,_,ib,T.clw _,na (by decide +kernel),Cp (n:=999) (Cp (n:=998) (Cp (n:=997) (by decide))),?_⟩;refine ⟨_,_,_,ib,T.clw _,na (by decide +kernel),Cp (n:=999) (Cp (n:=998) (Cp (n:=997) (Cp (n:=996) (by decide)))),?_⟩;refine ⟨_,_,_,ib,T.clw _,na (by decide +kernel),Cp (n:=999) (Cp (n:=998) (Cp (n:=997) (Cp (n:=996) (Cp (n:=995) (by decide))))),?_⟩;refine ⟨_,_,_,ib,T.clw _,na (by decide +kernel),Cp (n:=999) (Cp (n:=998) (Cp (n:=997) (Cp (n:=996) (Cp (n:=995) (Cp (n:=994) (by decide)))))),?_⟩;simp only [Em];rw [show sj (Str.ofString "kind") (V.str (ce d.k)) ([]:List (Str × V))=[(Str.ofString "kind",V.str (ce d.k))] from je [] rfl (by decide +kernel),
  show sj (Str.ofString "name") (V.str d.name) ([(Str.ofString "kind",V.str (ce d.k))]:List (Str × V))=[(Str.ofString "kind",V.str (ce d.k)),(Str.ofString "name",V.str d.name)] from je [Str.ofString "kind"] rfl (by decide +kernel),
  show sj (Str.ofString "start") (V.int d.start) ([(Str.ofString "kind",V.str (ce d.k)),(Str.ofString "name",V.str d.name)]:List (Str × V))=[(Str.ofString "kind",V.str (ce d.k)),(Str.ofString "name",V.str d.name),(Str.ofString "start",V.int d.start)] from je [Str.ofString "kind",Str.ofString "name"] rfl (by decide +kernel),
  show sj (Str.ofString "end") (V.int d.fin) ([(Str.ofString "kind",V.str (ce d.k)),(Str.ofString "name",V.str d.name),(Str.ofString "start",V.int d.start)]:List (Str × V))=[(Str.ofString "kind",V.str (ce d.k)),(Str.ofString "name",V.str d.name),(Str.ofString "start",V.int d.start),(Str.ofString "end",V.int d.fin)] from je [Str.ofString "kind",Str.ofString "name",Str.ofString "start"] rfl (by decide +kernel),
  show sj (Str.ofString "off") (V.int d.off) ([(Str.ofString "kind",V.str (ce d.k)),(Str.ofString "name",V.str d.name),(Str.ofString "start",V.int d.start),(Str.ofString "end",V.int d.fin)]:List (Str × V))=[(Str.ofString "kind",V.str (ce d.k)),(Str.ofString "name",V.str d.name),(Str.ofString "start",V.int d.start),(Str.ofString "end",V.int d.fin),(Str.ofString "off",V.int d.off)] from je [Str.ofString "kind",Str.ofString "name",Str.ofString "start",Str.ofString "end"] rfl (by decide +kernel),
  show sj (Str.ofString "near") (V.int d.near) ([(Str.ofString "kind",V.str (ce d.k)),(Str.ofString "name",V.str d.name),(Str.ofString "start",V.int d.start),(Str.ofString "end",V.int d.fin),(Str.ofString "off",V.int d.off)]:List (Str × V))=[(Str.ofString "kind",V.str (ce d.k)),(Str.ofString "name",V.str d.name),(Str.ofString "start",V.int d.start),(Str.ofString "end",V.int d.fin),(Str.ofString "off",V.int d.off),(Str.ofString "near",V.int d.near)] from je [Str.ofString "kind",Str.ofString "name",Str.ofString "start",Str.ofString "end",Str.ofString "off"] rfl (by decide +kernel),
  show sj (Str.ofString "least") (V.int d.least) ([(Str.ofString "kind",V.str (ce d.k)),(Str.ofString "name",V.str d.name),(Str.ofString "start",V.int d.start),(Str.ofString "end",V.int d.fin),(Str.ofString "off",V.int d.off),(Str.ofString "near",V.int d.near)]:List (Str × V))=[(Str.ofString "kind",V.str (ce d.k)),(Str.ofString "name",V.str d.name),(Str.ofString "start",V.int d.start),(Str.ofString "end",V.int d.fin),(Str.ofString "off",V.int d.off),(Str.ofString "near",V.int d.near),(Str.ofString "least",V.int d.least)] from je [Str.ofString "kind",Str.ofString "name",Str.ofString "start",Str.ofString "end",Str.ofString "off",Str.ofString "near"] rfl (by decide +kernel)]
 exact q
theorem ZJ (T:Txt w K mg t):Zb P w K mg base CX0 2 t.Lf t.eh q5 (gl t 0):=by
 have g12:Zb P w K mg base CX0 1 t.Tf t.oh q18 (mv t):=iy T;refine T.yn.ok dn (fun vs H Q E h=>?_) (fun _ _ _ s H vs Q E hr h=>?_)
 ·obtain ⟨p,dx,d,rfl,_⟩:=h;rfl
 obtain ⟨p,dx,d,rfl,hk,hp,q⟩:=h;refine ⟨_,(lb (ke (Av rfl T.mL T.Jo g12 hr T.Fo .nil ye (cb (pv 0) (cb ad (cb (pv 1) (cb (pv 2) (cb (pv 3) (cb (pv 4) (cb (pv 5) (cb (pv 6) fb))))))))))),?_⟩;walk_at "RD";exact ⟨p,dx,d,by rw [hk];rfl,by omega,hp,q⟩
theorem KG (T:Txt w K mg t):Zb P w K mg base CX0 2 t.bf t.gg q5 (gl t 1):=by
 have g12:Zb P w K mg base CX0 1 t.Tf t.oh q18 (mv t):=iy T;refine T.im.ok Fm (fun vs H Q E h=>?_) (fun _ _ _ s H vs Q E hr h=>?_)
 ·obtain ⟨p,dx,d,rfl,_⟩:=h;rfl
 obtain ⟨p,dx,d,rfl,hk,hp,q⟩:=h;refine ⟨_,(lb (ke (Av rfl T.mL T.Jo g12 hr T.Fo .nil ye (cb (pv 0) (cb ad (cb (pv 1) (cb (pv 2) (cb (pv 3) (cb (pv 4) (cb (pv 5) (cb (pv 6) fb))))))))))),?_⟩;walk_at "RD";exact ⟨p,dx,d,by rw [hk];rfl,by omega,hp,q⟩
theorem jI (T:Txt w K mg t):Zb P w K mg base CX0 2 t.df t.ng q5 (gl t 2):=by
 have g12:Zb P w K mg base CX0 1 t.Tf t.oh q18 (mv t):=iy T;refine T.Xl.ok xm (fun vs H Q E h=>?_) (fun _ _ _ s H vs Q E hr h=>?_)
 ·obtain ⟨p,dx,d,rfl,_⟩:=h;rfl
 obtain ⟨p,dx,d,rfl,hk,hp,q⟩:=h;refine ⟨_,(lb (ke (Av rfl T.mL T.Jo g12 hr T.Fo .nil ye (cb (pv 0) (cb ad (cb (pv 1) (cb (pv 2) (cb (pv 3) (cb (pv 4) (cb (pv 5) (cb (pv 6) fb))))))))))),?_⟩;walk_at "RD";exact ⟨p,dx,d,by rw [hk];rfl,by omega,hp,q⟩
end
noncomputable def ck (t:Adr) (C:Addr):Sp:=fun vs H Q _=>∃ p d,vs=[.ref p]∧Ue t H p d∧C=t.cw d.k∧Q (.int (ji d)) H
noncomputable def On (t:Adr) (C:Addr):Sp:=fun vs H Q _=>∃ p d,vs=[.ref p]∧Ue t H p d∧C=t.cw d.k∧Q (.int (cn d)) H
section
variable {P:Program} {w:World} {K:PySem.W.Frag} {mg:Str→Option Value} {base:Heap} {t:Adr}
theorem br (T:Txt w K mg t):Zb P w K mg base CX0 1 t.cg t.Ai ["self"] (ck t (t.cw 0)):=by
 refine T.em.ok jq (fun vs H Q E h=>?_) (fun _ _ _ s H vs Q E hr h=>?_)
 ·obtain ⟨p,d,rfl,_⟩:=h;rfl
 obtain ⟨p,d,rfl,W,hC,q⟩:=h;have hk:=(T.cw_inj (by decide) W.1 hC).symm;refine ⟨_,(lb (Bb jb)),?_⟩;rw [show ji d=1 by unfold ji;simp only [hk]] at q;walk_at "RD";exact q
theorem pp (T:Txt w K mg t):Zb P w K mg base CX0 1 t.Mf t.Bh ["self"] (ck t (t.cw 1)):=by
 refine T.Ek.ok Mp (fun vs H Q E h=>?_) (fun _ _ _ s H vs Q E hr h=>?_)
 ·obtain ⟨p,d,rfl,_⟩:=h;rfl
 obtain ⟨p,d,rfl,W,hC,q⟩:=h;have hk:=(T.cw_inj (by decide) W.1 hC).symm;refine ⟨_,(lb (Bb jb)),?_⟩;rw [show ji d=0 by unfold ji;simp only [hk]] at q;walk_at "RD";exact q
theorem yp (T:Txt w K mg t):Zb P w K mg base CX0 1 t.Ff t.Ah ["self"] (ck t (t.cw 2)):=by
 refine T.Yk.ok jp (fun vs H Q E h=>?_) (fun _ _ _ s H vs Q E hr h=>?_)
 ·obtain ⟨p,d,rfl,_⟩:=h;rfl
 obtain ⟨p,d,rfl,W,hC,q⟩:=h;have hk:=(T.cw_inj (by decide) W.1 hC).symm;refine ⟨_,(lb (Bb jb)),?_⟩;rw [show ji d=2 by unfold ji;simp only [hk]] at q;walk_at "RD";exact q
theorem pK (T:Txt w K mg t):eL P w K mg base CX0 1 (isW t) "ready" ["self"] (ck t):=by
 refine ⟨fun C hC=>?_⟩;obtain ⟨k,hk,rfl⟩:=hC
 match k,hk with
 | 0,_=>exact ⟨_,_,T.Mr,T.Js,br T,T.ss⟩
 | 1,_=>exact ⟨_,_,T.zo,T.Ar,pp T,T.kr⟩
 | 2,_=>exact ⟨_,_,T.mo,T.cq,yp T,T.Zp⟩
theorem Zr (T:Txt w K mg t):Zb P w K mg base CX0 1 t.jh t.zj ["self"] (On t (t.cw 0)):=by
 refine T.wn.ok Qs (fun vs H Q E h=>?_) (fun _ _ _ s H vs Q E hr h=>?_)
 ·obtain ⟨p,d,rfl,_⟩:=h;rfl
 obtain ⟨p,d,rfl,W,hC,q⟩:=h;have hk:=(T.cw_inj (by decide) W.1 hC).symm;refine ⟨_,(lb (Bb jb)),?_⟩;rw [show cn d=2 by unfold cn;simp only [hk]] at q;walk_at "RD";exact q
theorem Lr (T:Txt w K mg t):Zb P w K mg base CX0 1 t.fg t.vi ["self"] (On t (t.cw 1)):=by
 refine T.Yl.ok Er (fun vs H Q E h=>?_) (fun _ _ _ s H vs Q E hr h=>?_)
 ·obtain ⟨p,d,rfl,_⟩:=h;rfl
 obtain ⟨p,d,rfl,W,hC,q⟩:=h;have hk:=(T.cw_inj (by decide) W.1 hC).symm;refine ⟨_,(lb (Bb (qc (pv 0) rfl))),?_⟩;rw [show cn d=d.off by unfold cn;simp only [hk]] at q;walk_at "RD";exact ⟨_,W.f_off T,q⟩
theorem Gq (T:Txt w K mg t):Zb P w K mg base CX0 1 t.lg t.zi ["self"] (On t (t.cw 2)):=by
 refine T.gm.ok mq (fun vs H Q E h=>?_) (fun _ _ _ s H vs Q E hr h=>?_)
 ·obtain ⟨p,d,rfl,_⟩:=h;rfl
 obtain ⟨p,d,rfl,W,hC,q⟩:=h;have hk:=(T.cw_inj (by decide) W.1 hC).symm;refine ⟨_,(lb (Bb jb)),?_⟩;rw [show cn d=1 by unfold cn;simp only [hk]] at q;walk_at "RD";exact q
theorem xM (T:Txt w K mg t):eL P w K mg base CX0 1 (isW t) "fade" ["self"] (On t):=by
 refine ⟨fun C hC=>?_⟩;obtain ⟨k,hk,rfl⟩:=hC
 match k,hk with
 | 0,_=>exact ⟨_,_,T.Mr,T.Gv,Zr T,T.gv⟩
 | 1,_=>exact ⟨_,_,T.zo,T.Sr,Lr T,T.Hs⟩
 | 2,_=>exact ⟨_,_,T.mo,T.As,Gq T,T.Ss⟩
end
noncomputable def jl (c:Nat):List (List Nat)→List Nat
 | []=>[]
 | [a]=>a
 | a :: b :: r=>a ++ c :: jl c (b :: r)
theorem nE {c:Nat}:∀ {a b X Y:List Nat},c ∉ a→c ∉ b→a ++ c :: X=b ++ c :: Y→a=b∧X=Y
 | [],[],X,Y,_,_,h=>⟨rfl,(List.cons.inj h).2⟩
 | [],d :: b,X,Y,_,hb,h=>absurd (List.cons.inj h).1 (fun z=>hb (by simp [← z]))
 | d :: a,[],X,Y,ha,_,h=>absurd (List.cons.inj h).1 (fun z=>ha (by simp [z]))
 | d :: a,e :: b,X,Y,ha,hb,h=>by
  obtain ⟨h1,h2⟩:=List.cons.inj h;obtain ⟨e1,e2⟩:=nE (fun z=>ha (List.mem_cons_of_mem _ z)) (fun z=>hb (List.mem_cons_of_mem _ z)) h2;exact ⟨by rw [h1,e1],e2⟩
theorem mJ {c:Nat}:∀ {ps qs:List (List Nat)},(∀ p ∈ ps,c ∉ p)→(∀ q ∈ qs,c ∉ q)→ps ≠ []→qs ≠ []→jl c ps=jl c qs→ps=qs
 | [a],[b],_,_,_,_,h=>by rw [show a=b from h]
 | [a],b :: b' :: r,ha,_,_,_,h=>absurd (show c ∈ a by rw [show a=b ++ c :: jl c (b' :: r) from h];simp) (ha a (by simp))
 | a :: a' :: r,[b],_,hb,_,_,h=>absurd (show c ∈ b by rw [show b=a ++ c :: jl c (a' :: r) from h.symm];simp) (hb b (by simp))
 | a :: a' :: r,b :: b' :: s,ha,hb,_,_,h=>by
  obtain ⟨e1,e2⟩:=nE (ha a (by simp)) (hb b (by simp)) (show a ++ c :: jl c (a' :: r)=b ++ c :: jl c (b' :: s) from h);rw [e1,mJ (fun p hp=>ha p (List.mem_cons_of_mem _ hp)) (fun q hq=>hb q (List.mem_cons_of_mem _ hq)) (by simp) (by simp) e2]
 | [],_,_,_,h,_,_=>absurd rfl h
 | _ :: _,[],_,_,_,h,_=>absurd rfl h
theorem FI {c d:Nat}:∀ {ps:List (List Nat)},d ∈ jl c ps→d=c∨∃ p ∈ ps,d ∈ p
 | [],h=>nomatch h
 | [a],h=>.inr ⟨a,by simp,h⟩
 | a :: b :: r,h=>by
  rcases List.mem_append.mp (show d ∈ a ++ c :: jl c (b :: r) from h) with h | h
  ·exact .inr ⟨a,by simp,h⟩
  ·rcases List.mem_cons.mp h with h | h
   ·exact .inl h
   ·rcases FI h with h | ⟨p,hp,h⟩
    ·exact .inl h
    ·exact .inr ⟨p,List.mem_cons_of_mem _ hp,h⟩
theorem Ru (c:Nat):∀ ys:List Str,(Str.join ⟨#[c]⟩ ys).cps.toList=jl c (ys.map (·.cps.toList))
 | []=>rfl
 | [a]=>rfl
 | a :: b :: r=>by
  show (a ++ ⟨#[c]⟩ ++ Str.join ⟨#[c]⟩ (b :: r)).cps.toList=_;rw [Str.cps_append,Array.toList_append,Str.cps_append,Array.toList_append,Ru c (b :: r)];simp [jl]
theorem JF {x y:Str} (h:x.cps.toList=y.cps.toList):x=y:=by
 cases x;cases y;exact congrArg Str.mk (Array.toList_inj.mp h)
theorem Jt {c:Nat} {ys:List Str} (hn:ys ≠ []) (hf:∀ y ∈ ys,c ∉ y.cps.toList):Txt.split (Str.join ⟨#[c]⟩ ys) ⟨#[c]⟩=ys:=by
 have e:=congrArg (·.cps.toList) (StrLaws.join_split (Str.join ⟨#[c]⟩ ys) ⟨#[c]⟩);simp only [Ru] at e;have e2:=mJ (c:=c) (ps:=(Txt.split (Str.join ⟨#[c]⟩ ys) ⟨#[c]⟩).map (·.cps.toList)) (qs:=ys.map (·.cps.toList)) (fun p hp=>by
  obtain ⟨y,hy,rfl⟩:=List.mem_map.mp hp;exact StrLaws.split_free _ c y hy) (fun p hp=>by
  obtain ⟨y,hy,rfl⟩:=List.mem_map.mp hp;exact hf y hy) (by simp [QH]) (by simpa using hn) e
 exact (List.map_inj_right fun x y h=>JF h).mp e2
noncomputable abbrev num (v:Int):Str:=Str.ofString (toString v)
theorem NK:∀ n,n < 1000→(decide (1 ≤ ((Nat.toDigits 10 n).map Char.toNat).length) && decide (((Nat.toDigits 10 n).map Char.toNat).length ≤ 3) && ((Nat.toDigits 10 n).map Char.toNat).all Np && (decide (((Nat.toDigits 10 n).map Char.toNat).length ≤ 1) || decide (((Nat.toDigits 10 n).map Char.toNat).headD 0 ≠ 48)) &&
  decide (NumText.digitsVal ((Nat.toDigits 10 n).map Char.toNat)=n))=true:=by decide +kernel
theorem Sz {v:Int} (h0:0 ≤ v) (h1:v < 1000):okB (num v)=true∧val (num v)=v:=by
 have e:=PySem.W.KIN.signs_num v.toNat;rw [Int.toNat_of_nonneg h0] at e;have a:=NK v.toNat (by omega);rw [← e,Bool.and_eq_true,decide_eq_true_eq] at a;exact ⟨a.1,by show ((NumText.digitsVal (cs (num v)):Nat):Int)=v;rw [a.2];omega⟩
theorem vo {v lo hi:Int} (h0:0 ≤ v) (h1:v < 1000) (hl:lo ≤ v) (hh:v ≤ hi):vG (num v) lo hi=.int v:=by
 obtain ⟨a,b⟩:=Sz h0 h1;unfold vG;rw [a,b,decide_eq_false (by omega:¬ v < lo),decide_eq_false (by omega:¬ hi < v)];rfl
theorem PK {u v:Int} (h0:0 ≤ u) (h1:u < 1000) (h2:0 ≤ v) (h3:v < 1000) (e:num u=num v):u=v:=by
 rw [← (Sz h0 h1).2,e,(Sz h2 h3).2]
theorem Qz {v:Int} (h0:0 ≤ v) (h1:v < 1000):∀ c ∈ (num v).cps.toList,48 ≤ c∧c ≤ 57:=fun c hc=>by
 have:=List.all_eq_true.mp (wM (Sz h0 h1).1).2 c hc;simpa [Np] using this
theorem YM:∀ c ∈ Ei.cps.toList,97 ≤ c∧c ≤ 122:=by decide +kernel
theorem EM:∀ k,k < 26→97 + k ∈ Ei.cps.toList:=by decide +kernel
theorem Gk {x:Str} (h:made x Ei 8=true):(1 ≤ x.length∧x.length ≤ 8)∧∀ c ∈ x.cps.toList,97 ≤ c∧c ≤ 122:=by
 unfold made at h;split at h
 ·cases h
 ·rename_i h1;split at h
  ·cases h
  ·rename_i h2;have h3:¬ x.length=0:=fun z=>h1 (VN.mpr z)
   refine ⟨by omega,fun c hc=>?_⟩;have:=List.all_eq_true.mp h c hc;rw [ly] at this;exact YM c (of_decide_eq_true this)
theorem Hw {x:Str} (h0:1 ≤ x.length) (h1:x.length ≤ 8) (h:∀ c ∈ x.cps.toList,97 ≤ c∧c ≤ 122):made x Ei 8=true:=by
 unfold made;rw [if_neg (fun z=>by have:=VN.mp z;omega),if_neg (by omega)];refine List.all_eq_true.mpr fun c hc=>?_
 have:=h c hc;rw [ly];have e:=EM (c - 97) (by omega);rw [show 97 + (c - 97)=c by omega] at e;exact decide_eq_true e
structure WOk (n:Int) (d:WD):Prop where
 k:d.k < 3
 nm:made d.name Ei 8=true
 st:0 ≤ d.start∧d.start < n
 fi:0 ≤ d.fin∧d.fin < n
 ne:d.start ≠ d.fin
 of:0 ≤ d.off∧d.off ≤ 30
 nr:0 ≤ d.near∧d.near ≤ 30
 le:1 ≤ d.least∧d.least ≤ 60
structure COk (n:Int) (ds:List WD):Prop where
 nn:2 ≤ n∧n ≤ 99
 ln:1 ≤ ds.length∧ds.length ≤ 12
 al:∀ d ∈ ds,WOk n d
 nd:(ds.map (·.name)).Nodup
noncomputable def Yi (d:WD):List Str:=[ce d.k,d.name,num d.start,num d.fin,num d.off,num d.near,num d.least]
noncomputable def li (n:Int) (ds:List WD):List (List Str):=[Str.ofString "ring",num n] :: ds.map Yi
noncomputable def yu (n:Int) (ds:List WD):Str:=Str.join nl ((li n ds).map (Str.join bk))
noncomputable def Hy (x:Str):Prop:=x.length ≤ 8∧(32:Nat) ∉ x.cps.toList∧(10:Nat) ∉ x.cps.toList
theorem Rt (k:Nat):Hy (ce k):=by
 match k with
 | 0=>exact ⟨by decide +kernel,by decide +kernel,by decide +kernel⟩
 | 1=>exact ⟨by decide +kernel,by decide +kernel,by decide +kernel⟩
 | _ + 2=>exact ⟨show (Str.ofString "tram").length ≤ 8 by decide +kernel,show (32:Nat) ∉ (Str.ofString "tram").cps.toList by decide +kernel,show (10:Nat) ∉ (Str.ofString "tram").cps.toList by decide +kernel⟩
theorem re {v:Int} (h0:0 ≤ v) (h1:v < 1000):Hy (num v):=
 ⟨Nat.le_trans (VJ h0 (by omega)) (by decide),fun z=>by have:=Qz h0 h1 _ z;omega,fun z=>by have:=Qz h0 h1 _ z;omega⟩
theorem cu {x:Str} (h:made x Ei 8=true):Hy x:=
 ⟨(Gk h).1.2,fun z=>by have:=(Gk h).2 _ z;omega,fun z=>by have:=(Gk h).2 _ z;omega⟩
theorem WOk.plain {n:Int} {d:WD} (h:WOk n d) (hn:n ≤ 99):∀ x ∈ Yi d,Hy x:=fun x hx=>by
 have h1:=h.st;have h2:=h.fi;have h3:=h.of;have h4:=h.nr;have h5:=h.le;simp only [Yi,List.mem_cons,List.not_mem_nil,or_false] at hx;rcases hx with rfl | rfl | rfl | rfl | rfl | rfl | rfl
 ·exact Rt _
 ·exact cu h.nm
 ·exact re (by omega) (by omega)
 ·exact re (by omega) (by omega)
 ·exact re (by omega) (by omega)
 ·exact re (by omega) (by omega)
 ·exact re (by omega) (by omega)
theorem COk.plain {n:Int} {ds:List WD} (h:COk n ds):∀ r ∈ li n ds,∀ x ∈ r,Hy x:=fun r hr x hx=>by
 have hn:=h.nn;rcases List.mem_cons.mp hr with rfl | hr
 ·simp only [List.mem_cons,List.not_mem_nil,or_false] at hx;rcases hx with rfl | rfl
  ·exact ⟨by decide +kernel,by decide +kernel,by decide +kernel⟩
  ·exact re (by omega) (by omega)
 ·obtain ⟨d,hd,rfl⟩:=List.mem_map.mp hr;exact (h.al d hd).plain hn.2 x hx
theorem dD {rs:List (List Str)} (h0:rs ≠ []) (h1:∀ r ∈ rs,r ≠ []) (h2:∀ r ∈ rs,∀ x ∈ r,Hy x):Pj (Str.join nl (rs.map (Str.join bk)))=rs:=by
 unfold Pj;rw [JO,LM];rw [Jt (by simpa using h0) (fun y hy=>by
  obtain ⟨r,hr,rfl⟩:=List.mem_map.mp hy;rw [Ru];intro z;rcases FI z with z | ⟨p,hp,z⟩
  ·cases z
  ·obtain ⟨x,hx,rfl⟩:=List.mem_map.mp hp;exact (h2 r hr x hx).2.2 z)]
 rw [List.map_map];have:∀ r ∈ rs,((fun r=>Txt.split r ⟨#[32]⟩) ∘ Str.join ⟨#[32]⟩) r=r:=fun r hr=>Jt (h1 r hr) fun x hx=>(h2 r hr x hx).2.1
 exact (List.map_congr_left this).trans (List.map_id rs)
theorem PB {n:Int} {ds:List WD} (h:COk n ds):Pj (yu n ds)=li n ds:=dD (by simp [li]) (fun r hr=>by
 rcases List.mem_cons.mp hr with rfl | hr
 ·simp
 ·obtain ⟨d,hd,rfl⟩:=List.mem_map.mp hr;simp [Yi]) h.plain
theorem Bv (sep:Str) (B:Nat):∀ ys:List Str,(∀ y ∈ ys,y.length ≤ B)→(Str.join sep ys).length ≤ ys.length * (B + sep.length)
 | [],_=>by show (Str.empty).length ≤ _;exact Nat.zero_le _
 | [a],h=>by
  have:=h a (by simp);show a.length ≤ _;simp only [List.length_cons,List.length_nil];omega
 | a :: b :: r,h=>by
  have h1:=h a (by simp);have h2:=Bv sep B (b :: r) fun y hy=>h y (List.mem_cons_of_mem _ hy)
  show (a ++ sep ++ Str.join sep (b :: r)).length ≤ _;rw [Rx,Rx,List.length_cons,Nat.succ_mul];omega
theorem zE {n:Int} {ds:List WD} (h:COk n ds):(yu n ds).length ≤ 1000:=by
 have h1:∀ y ∈ (li n ds).map (Str.join bk),y.length ≤ 63:=fun y hy=>by
  obtain ⟨r,hr,rfl⟩:=List.mem_map.mp hy;have:=Bv bk 8 r fun x hx=>(h.plain r hr x hx).1
  rw [wA] at this;have hl:r.length ≤ 7:=by
   rcases List.mem_cons.mp hr with rfl | hr
   ·simp
   ·obtain ⟨d,hd,rfl⟩:=List.mem_map.mp hr;simp [Yi]
  omega
 have h2:=Bv nl 63 _ h1;rw [Qy] at h2;have h3:((li n ds).map (Str.join bk)).length ≤ 13:=by
  have:=h.ln;simp [li];omega
 unfold yu;omega
end My
namespace My
open PySem L2
noncomputable abbrev wx:List Str:=[Str.ofString "row",Str.ofString "told",Str.ofString "place"]
noncomputable def rdF (row:Int) (ta:Addr) (pl:Int):List (Str × V):=[(Str.ofString "row",.int row),(Str.ofString "told",.ref ta),(Str.ofString "place",.int pl)]
theorem Mn (row:Int) (ta:Addr) (pl:Int):(rdF row ta pl).map (·.1)=wx:=rfl
theorem dL (row:Int) (ta:Addr) (pl v:Int):sj (Str.ofString "place") (.int v) (rdF row ta pl)=rdF row ta v:=by
 unfold rdF;simp only [sj];rw [if_neg (by decide +kernel),if_neg (by decide +kernel)];rfl
noncomputable def sh (t:Adr) (H:Hp) (p:Addr) (row:Int) (ws:List Str) (pl:Nat):Prop:=
 (ws.length ≤ 1000∧∀ x ∈ ws,x.length ≤ 1000)∧∃ dx ta,H p=some (.ins t.Rb dx (rdF row ta pl))∧H ta=some (.lst (Lc ws))
noncomputable def qe (p:Addr) (H H':Hp):Prop:=∀ b u,b ≠ p→H b=some u→H' b=some u
theorem qe.trans {p:Addr} {H H1 H2:Hp} (a:qe p H H1) (b:qe p H1 H2):qe p H H2:=fun c u n e=>b c u n (a c u n e)
theorem qe.of {p:Addr} {H H1:Hp} (a:ac H H1):qe p H H1:=fun c u _ e=>a c u e
theorem qe.put {p:Addr} {H:Hp} {o:HO}:qe p H (upd H p o):=fun c u n e=>by rw [Ab n];exact e
theorem Mq (ws:List Str):(Lc ws).length=ws.length:=by unfold Lc;rw [List.length_map]
theorem OG {ws:List Str} {i:Nat} {x:Str} (h:ws[i]? = some x):(Lc ws)[i]? = some (.str x):=by unfold Lc;rw [List.getElem?_map,h];rfl
theorem Dt (ws:List Str):(Lc ws).all Jl=true:=by unfold Lc;simp [Jl]
theorem Bz (x:Str) (xs:List Str):inV (.str x) (Lc xs)=decide (x ∈ xs):=by
 unfold inV Lc;rw [List.any_map,Bool.eq_iff_iff];simp only [List.any_eq_true,Function.comp,eqV,beq_iff_eq,decide_eq_true_eq];constructor
 ·rintro ⟨y,hy,rfl⟩;exact hy
 ·intro h;exact ⟨x,h,rfl⟩
section
variable {w:World} {K:PySem.W.Frag} {mg:Str→Option Value} {t:Adr} {H H':Hp} {p:Addr} {row:Int} {ws:List Str} {pl:Nat}
theorem sh.same (h:sh t H p row ws pl) (s:ac H H'):sh t H' p row ws pl:=by
 obtain ⟨hz,dx,ta,e1,e2⟩:=h;exact ⟨hz,dx,ta,s _ _ e1,s _ _ e2⟩
theorem sh.sameX {q:Addr} (h:sh t H p row ws pl) (s:qe q H H') (n:p ≠ q) (k:∃ C dx fs,H q=some (.ins C dx fs)):sh t H' p row ws pl:=by
 obtain ⟨hz,dx,ta,e1,e2⟩:=h;obtain ⟨C,dq,fs,e3⟩:=k;exact ⟨hz,dx,ta,s _ _ n e1,s _ _ (Aj e2 e3 (by intro z;cases z)) e2⟩
theorem sh.ins (h:sh t H p row ws pl):∃ C dx fs,H p=some (.ins C dx fs):=by
 obtain ⟨hz,dx,ta,e1,e2⟩:=h;exact ⟨_,_,_,e1⟩
theorem sh.no {m:Str} (row:Int) (ta:Addr) (pl:Int) (h:wx.contains m=false):(rdF row ta pl).lookup m=none:=Wm wx (Mn ..) h
theorem av (T:Txt w K mg t) {dx ta:Addr} {pl:Int} (e:H p=some (.ins t.Rb dx (rdF row ta pl))):Rl K H p (Str.ofString "place") (.int pl):=
 ⟨_,dx,_,e,T.Pb,T.Cf,Ee wx 2 (Mn ..) (by decide +kernel) rfl⟩
theorem zy (T:Txt w K mg t) {dx ta:Addr} {pl:Int} (e:H p=some (.ins t.Rb dx (rdF row ta pl))):Rl K H p (Str.ofString "told") (.ref ta):=
 ⟨_,dx,_,e,T.Pb,T.Xi,Ee wx 1 (Mn ..) (by decide +kernel) rfl⟩
end
noncomputable def cJ (t:Adr):Sp:=fun vs H Q _=>∃ (p dx ta:Addr) (row:Int),vs=[.ref p,.int row,.ref ta]∧H p=some (.ins t.Rb dx [])∧Q .non (upd H p (.ins t.Rb dx (rdF row ta 0)))
noncomputable def Kn (t:Adr):Sp:=fun vs H Q _=>∃ p row ws pl,vs=[.ref p]∧sh t H p row ws pl∧pl ≤ ws.length∧Q (.str (ws.getD pl (Str.ofString ""))) H
noncomputable def iD (t:Adr):Sp:=fun vs H Q _=>∃ p row ws pl,vs=[.ref p]∧sh t H p row ws pl∧Q (.bl (decide (pl < ws.length))) H
noncomputable def eO (t:Adr) (H:Hp) (p:Addr) (row:Int) (ws:List Str) (pl:Nat) (R:Hp→Prop):Prop:=∀ H',qe p H H'→(NoT H→NoT H')→sh t H' p row ws pl→R H'
noncomputable def Nu (t:Adr):Sp:=fun vs H Q _=>∃ p row ws pl,vs=[.ref p,.bl true]∧sh t H p row ws pl∧eO t H p row ws (pl + 1) (Q .non)
noncomputable def Su (K:PySem.W.Frag) (t:Adr):Sp:=fun vs H Q _=>∃ p row ws pl x c xs,vs=[.ref p,.ref c]∧sh t H p row ws pl∧ws[pl]? = some x∧SqL K H c (Lc xs)∧x ∈ xs∧eO t H p row ws (pl + 1) (Q (.str x))
noncomputable def Dv (t:Adr):Sp:=fun vs H Q _=>∃ p row ws pl x lo hi v,vs=[.ref p,.int lo,.int hi]∧sh t H p row ws pl∧ws[pl]? = some x∧vG x lo hi=.int v∧NoT H∧eO t H p row ws (pl + 1) (Q (.int v))
noncomputable def tF (t:Adr):Sp:=fun vs H Q _=>∃ p row ws pl,vs=[.ref p]∧sh t H p row ws pl∧pl=ws.length∧Q .non H
section
variable {P:Program} {w:World} {K:PySem.W.Frag} {mg:Str→Option Value} {base:Heap} {t:Adr}
theorem vN (T:Txt w K mg t):Zb P w K mg base CX0 1 t.se t.kf q31 (cJ t):=by
 refine T.Qj.ok ik (fun vs H Q E h=>?_) (fun _ _ _ s H vs Q E hr h=>?_)
 ·obtain ⟨p,dx,ta,row,rfl,_⟩:=h;rfl
 obtain ⟨p,dx,ta,row,rfl,hp,q⟩:=h;refine ⟨_,(db (Pg (pv 0) (pv 1) rfl)
   (db (Pg (pv 0) (pv 2) rfl)
   (lb (Pg (pv 0) jb rfl)))),?_⟩
 walk_at "RD";refine ⟨_,_,_,hp,T.Pb,T.lp,by decide,?_⟩;refine ⟨_,_,_,ib,T.Pb,T.Xi,Cp (n:=999) (by decide),?_⟩;refine ⟨_,_,_,ib,T.Pb,T.Cf,Cp (n:=999) (Cp (n:=998) (by decide)),?_⟩;simp only [Em];rw [show sj (Str.ofString "row") (V.int row) ([]:List (Str × V))=[(Str.ofString "row",V.int row)] from je [] rfl (by decide +kernel),
  show sj (Str.ofString "told") (V.ref ta) ([(Str.ofString "row",V.int row)]:List (Str × V))=[(Str.ofString "row",V.int row),(Str.ofString "told",V.ref ta)] from je [Str.ofString "row"] rfl (by decide +kernel),
  show sj (Str.ofString "place") (V.int 0) ([(Str.ofString "row",V.int row),(Str.ofString "told",V.ref ta)]:List (Str × V))=[(Str.ofString "row",V.int row),(Str.ofString "told",V.ref ta),(Str.ofString "place",V.int 0)] from je [Str.ofString "row",Str.ofString "told"] rfl (by decide +kernel)]
 exact q
theorem Vp (T:Txt w K mg t):Zb P w K mg base CX0 1 t.yc t.Ic ["self"] (Kn t):=by
 refine T.Ri.ok Tm (fun vs H Q E h=>?_) (fun _ _ _ s H vs Q E hr h=>?_)
 ·obtain ⟨p,row,ws,pl,rfl,_⟩:=h;rfl
 obtain ⟨p,row,ws,pl,rfl,⟨hz,dx,ta,e1,e2⟩,hle,q⟩:=h;refine ⟨_,(db (Dc (Gb Of (qc (pv 0) rfl) (Kb Fb rfl T.ff Nb (cb (qc (pv 0) rfl) fb)) (Ub _)) (lb (Bb ad)) Ob)
   (lb (Bb (Db Qd (qc (pv 0) rfl) (qc (pv 0) rfl))))),?_⟩
 walk_at "RD";refine Ib (decide ((pl:Int)=(ws.length:Int))) (fun Q hQ=>?_) (fun c=>?_) (fun c=>?_)
 ·walk_at "RD";refine ⟨_,av T e1,_,zy T e1,_,rfl,_,.inl (SqL.of e2),rfl,?_⟩;rw [Mq];walk_at "RD";exact hQ
 ·walk_at "RD";have c':pl=ws.length:=by have:=of_decide_eq_true c;omega
  rw [show ws.getD pl (Str.ofString "")=Str.ofString "" by rw [List.getD_eq_getElem?_getD,List.getElem?_eq_none (by omega)];rfl] at q;exact q
 ·walk_at "RD";have c':pl < ws.length:=by have:=of_decide_eq_false c;omega
  have hx:ws[pl]? = some ws[pl]:=List.getElem?_eq_getElem c';rw [List.getD_eq_getElem?_getD,hx] at q;exact ⟨_,zy T e1,_,av T e1,_,rfl,_,_,rfl,SqL.of e2,_,yb (OG hx),q⟩
theorem GK (T:Txt w K mg t):Zb P w K mg base CX0 1 t.Vc t.Kd ["self"] (iD t):=by
 refine T.Mg.ok ek (fun vs H Q E h=>?_) (fun _ _ _ s H vs Q E hr h=>?_)
 ·obtain ⟨p,row,ws,pl,rfl,_⟩:=h;rfl
 obtain ⟨p,row,ws,pl,rfl,⟨hz,dx,ta,e1,e2⟩,q⟩:=h;refine ⟨_,(lb (Bb (ld Sm (qc (pv 0) rfl) (Kb Fb rfl T.ff Nb (cb (qc (pv 0) rfl) fb)) (Ub _)))),?_⟩;walk_at "RD";have e:decide (pl < ws.length)=decide ((pl:Int) < (ws.length:Int)):=by rw [Bool.eq_iff_iff];simp
 rw [e] at q;refine ⟨_,av T e1,_,zy T e1,_,rfl,_,.inl (SqL.of e2),?_⟩;rw [Mq];exact ⟨_,rfl,q⟩
theorem Hx (T:Txt w K mg t):Zb P w K mg base CX0 1 t.Uc t.qd q17 (Nu t):=by
 refine T.Lj.ok bo (fun vs H Q E h=>?_) (fun _ _ _ s H vs Q E hr h=>?_)
 ·obtain ⟨p,row,ws,pl,rfl,_⟩:=h;rfl
 obtain ⟨p,row,ws,pl,rfl,⟨hz,dx,ta,e1,e2⟩,q⟩:=h;refine ⟨_,(db (Dc (af (pe (pv 1))) (lb Cl) Ob)
   (lb (qE (pv 0) jb qM))),?_⟩
 walk_at "RD";refine Ib false (fun Q hQ=>?_) (fun hc=>nomatch hc) (fun _=>?_)
 ·walk_at "RD";exact hQ
 ·walk_at "RD";refine ⟨_,_,_,e1,T.Pb,T.Cf,_,Ee wx 2 (Mn ..) (by decide +kernel) rfl,_,rfl,_,_,e1,by rw [← List.length_map (f:=(·.1)),Mn];decide,?_⟩;rw [dL];exact q _ qe.put (fun n=>n.upd) ⟨hz,dx,ta,ib,by rw [Ab (Aj e2 e1 (by intro z;cases z))];exact e2⟩
theorem GA (T:Txt w K mg t):Zb P w K mg base CX0 2 t.Mc t.Ed q32 (Su K t):=by
 have g9:Zb P w K mg base CX0 1 t.yc t.Ic ["self"] (Kn t):=Vp T;have g13:Zb P w K mg base CX0 1 t.Uc t.qd q17 (Nu t):=Hx T;refine T.Oh.ok Eh (fun vs H Q E h=>?_) (fun _ _ _ s H vs Q E hr h=>?_)
 ·obtain ⟨p,row,ws,pl,x,c,xs,rfl,_⟩:=h;rfl
 obtain ⟨p,row,ws,pl,x,c,xs,rfl,R,hx,hc,hm,q⟩:=h;refine ⟨_,(db (wb (i:=2) Eh.nd (rj (pv 0) T.Pb T.Je g9 hr T.Le .nil ye))
   (db (ke (Fe (pv 0) T.Pb T.Gg g13 hr T.Jg .nil ye (cb (ld rk (pv 2) (pv 1) (by with_unfolding_all rfl)) fb)))
   (lb (Bb (pv 2))))),?_⟩
 have hlt:pl < ws.length:=(List.getElem?_eq_some_iff.mp hx).1;have hg:ws.getD pl (Str.ofString "")=x:=by rw [List.getD_eq_getElem?_getD,hx];rfl
 obtain ⟨_,dx,ta,e1,e2⟩:=id R;walk_at "RD";refine ⟨_,_,e1,sh.no _ _ _ (by decide +kernel),⟨p,row,ws,pl,rfl,R,by omega,?_⟩⟩;rw [hg];walk_at "RD";refine ⟨_,_,e1,sh.no _ _ _ (by decide +kernel),_,.inl hc,rfl,Dt xs,?_⟩;rw [Bz,decide_eq_true hm];refine ⟨p,row,ws,pl,rfl,R,fun H' s1 s2 s3=>?_⟩;walk_at "RD";exact q H' s1 s2 s3
theorem qy (T:Txt w K mg t):Zb P w K mg base CX0 4 t.xc t.Jc q24 (Dv t):=by
 have g9:Zb P w K mg base CX0 3 t.yc t.Ic ["self"] (Kn t):=(Vp T).mono (by decide);have g13:Zb P w K mg base CX0 3 t.Uc t.qd q17 (Nu t):=(Hx T).mono (by decide);have g30:Zb P w K mg base CX0 3 t.Ln t.Fn q39 AI:=zN T;refine T.yh.ok Og (fun vs H Q E h=>?_) (fun _ _ _ s H vs Q E hr h=>?_)
 ·obtain ⟨p,row,ws,pl,x,lo,hi,v,rfl,_⟩:=h;rfl
 obtain ⟨p,row,ws,pl,x,lo,hi,v,rfl,R,hx,hv,nt,q⟩:=h;refine ⟨_,(db (wb (i:=3) Og.nd (qb g30 hr T.GF T.rq.kp T.jF (cb (rj (pv 0) T.Pb T.Je g9 hr T.Le .nil ye) (cb (pv 1) (cb (pv 2) fb)))))
   (db (ke (Fe (pv 0) T.Pb T.Gg g13 hr T.Jg .nil ye (cb (ld Yq (pv 3) Rf (Ub _)) fb)))
   (lb (Bb (pv 3))))),?_⟩
 have hlt:pl < ws.length:=(List.getElem?_eq_some_iff.mp hx).1;have hg:ws.getD pl (Str.ofString "")=x:=by rw [List.getD_eq_getElem?_getD,hx];rfl
 obtain ⟨hz,dx,ta,e1,e2⟩:=id R;walk_at "RD";refine ⟨_,_,e1,sh.no _ _ _ (by decide +kernel),⟨p,row,ws,pl,rfl,R,by omega,?_⟩⟩;rw [hg];walk_at "RD";refine ⟨x,lo,hi,rfl,hz.2 x (List.mem_of_getElem? hx),nt,?_⟩;rw [hv];walk_at "RD";refine ⟨_,_,e1,sh.no _ _ _ (by decide +kernel),?_⟩;refine ⟨p,row,ws,pl,rfl,R,fun H' s1 s2 s3=>?_⟩;walk_at "RD";exact q H' s1 s2 s3
theorem uJ (T:Txt w K mg t):Zb P w K mg base CX0 2 t.Oc t.Fd ["self"] (tF t):=by
 have g31:Zb P w K mg base CX0 1 t.Vc t.Kd ["self"] (iD t):=GK T;refine T.Th.ok Am (fun vs H Q E h=>?_) (fun _ _ _ s H vs Q E hr h=>?_)
 ·obtain ⟨p,row,ws,pl,rfl,_⟩:=h;rfl
 obtain ⟨p,row,ws,pl,rfl,R,hl,q⟩:=h;obtain ⟨hz,dx,ta,e1,e2⟩:=id R;refine ⟨_,(lb (Dc (pe (rj (pv 0) T.Pb T.Ql g31 hr T.Ol .nil ye)) (lb Cl) Ob)),?_⟩;walk_at "RD";refine Ib false (fun Q hQ=>?_) (fun hc=>nomatch hc) (fun _=>?_)
 ·walk_at "RD";refine ⟨_,_,e1,sh.no _ _ _ (by decide +kernel),⟨p,row,ws,pl,rfl,R,?_⟩⟩;rw [decide_eq_false (by omega)];exact ⟨_,rfl,hQ⟩
 ·walk_at "RD";exact q
end
end My
namespace My
open PySem L2
theorem vg {α β:Type} {f:α→β} {l:List α} {i:Nat} {y:β} (h:(l.map f)[i]? = some y):∃ x,l[i]? = some x∧y=f x:=by
 rw [List.getElem?_map] at h;cases e:l[i]? with
 | none=>rw [e] at h;cases h
 | some x=>rw [e] at h;exact ⟨x,rfl,(Option.some.inj h).symm⟩
noncomputable def xO (t:Adr) (H0 H:Hp) (p:Addr) (rows:List (List Str)):Prop:=∃ qs:List Addr,H p=some (.lst (qs.map V.ref))∧H0 p=none∧qs.length=rows.length∧∀ (i:Nat) (q:Addr) (r:List Str),qs[i]? = some q→rows[i]? = some r→sh t H q i r 0∧H0 q=none
noncomputable def du (t:Adr):Sp:=fun vs H Q _=>∃ x,vs=[.str x]∧x.length ≤ 20000∧(∀ r ∈ Pj x,r.length ≤ 1000∧∀ y ∈ r,y.length ≤ 1000)∧NoT H∧∀ p H',ac H H'→NoT H'→xO t H H' p (Pj x)→Q (.ref p) H'
section
variable {P:Program} {w:World} {K:PySem.W.Frag} {mg:Str→Option Value} {base:Heap} {t:Adr}
theorem iC (T:Txt w K mg t):Zb P w K mg base CX0 3 t.Qm t.Im ["text"] (du t):=by
 have g32:Zb P w K mg base CX0 2 t.yv t.Iu ["text"] Yy:=(mH T).mono (by decide);have g33:Zb P w K mg base CX0 1 t.se t.kf q31 (cJ t):=vN T;refine T.Hr.ok sB (fun vs H Q E h=>?_) (fun _ _ _ s H vs Q E hr h=>?_)
 ·obtain ⟨x,rfl,_⟩:=h;rfl
 obtain ⟨x,rfl,hz,hrow,nt,q⟩:=h;refine ⟨_,(lb (Bb (Yf rfl (Hq rfl T.Sf (cb (qb g32 hr T.tL T.wy.kp T.zL (cb (pv 0) fb)) fb)) (Ec (sc:=ub mr) rfl (by decide +kernel)) (N:=["row","told"]) (sel:=[none,none]) (kd (M:=["text"]) (by decide +kernel)) (Blk.of (fun _ _ _ _=>(uf (K:=K) (n:=2) rfl rfl (lc (Eb (i:=0) (Bi (N:=["row","told"]) (by decide +kernel) rfl)) (lc (Eb (i:=1) (Bi (N:=["row","told"]) (by decide +kernel) rfl)) Df)))) (fun _ _ _ _=>⟨_,Kg,by walk_at "B"⟩) (fun _ _ _ _=>⟨_,(Wn T.Ay g33 hr rfl T.Ky T.qp .nil ye (cb (pv 0) (cb (pv 1) fb))),by walk_at "B"⟩))))),?_⟩;walk_at "RD";refine ⟨x,rfl,hz,nt,fun p H1 sm1 nt1 ⟨ps,hp,hp0,hpn,hpl,hpa⟩=>?_⟩;walk_at "RD";refine ⟨⟨_,SqL.of hp⟩,?_⟩;have hlen:ps.length ≤ sizeLine:=by
  rw [hpl];unfold Pj;rw [List.length_map];have:=Qq (x:=x) (y:=nl) (by rw [Qy];exact Nat.le_refl _);exact Nat.le_trans (show _ ≤ 40000 by omega) (by decide)
 refine gd.enum (xs:=ps.map V.ref) (fun i ys H2=>ac H1 H2∧NoT H2∧∃ qs:List Addr,ys=qs.map V.ref∧qs.length=i∧∀ (j:Nat) (q:Addr) (r:List Str),qs[j]? = some q→(Pj x)[j]? = some r→sh t H2 q j r 0∧H1 q=none)
  (by rw [List.length_map];exact hlen) ⟨ac.refl H1,nt1,[],rfl,rfl,fun j q r h _=>by simp at h⟩ ?_ ?_ ?_
 ·rintro i ys H2 hi zzq;refine zzP fun zzM zzh=>?_
  obtain ⟨s2,n2,qs,rfl,hq,_⟩:=zzq;subst zzh;exact ⟨SqL.of (s2 _ _ hp),by rw [List.length_map];omega⟩
 ·rintro i v ys H2 p2 hv ⟨s2,n2,qs,rfl,hq,al⟩ hp2 N hN;rw [List.getElem?_map] at hv;cases hpi:ps[i]? with
  | none=>rw [hpi] at hv;cases hv
  | some pi=>
   rw [hpi] at hv;have e:=(Option.some.inj hv).symm;subst e;refine xh ?_;walk_at "RD";refine ⟨Sub.name2,fun a dx ha hd hne=>?_⟩;refine ⟨a,dx,pi,i,rfl,ib,rfl,?_⟩;rw [Em];have s3:ac H2 (upd (upd (upd H2 p2 (.tup [.int i,.ref pi])) dx (.own a)) a (.ins t.Rb dx (rdF i pi 0))):=by
    have s':ac H2 (upd H2 p2 (.tup [.int i,.ref pi])):=gb hp2;exact ((ac.trans s' (gb hd)).updN (s'.free ha))
   obtain ⟨r,hr⟩:∃ r,(Pj x)[i]? = some r:=⟨(Pj x)[i]'(by rw [← hpl];exact (List.getElem?_eq_some_iff.mp hpi).1),List.getElem?_eq_getElem _⟩;have ha2:H2 a=none:=(gb hp2).free ha;refine hN _ _ ⟨s2.trans s3,((n2.upd).upd).upd,qs ++ [a],by rw [List.map_append];rfl,by rw [List.length_append,hq];rfl,fun j q' r' h1 h2=>?_⟩;by_cases hj:j < qs.length
   ·rw [List.getElem?_append_left hj] at h1;obtain ⟨z1,z2⟩:=al j q' r' h1 h2;exact ⟨z1.same s3,z2⟩
   ·rw [List.getElem?_append_right (by omega)] at h1;have hj0:j - qs.length=0:=by
     cases hh:j - qs.length with
     | zero=>rfl
     | succ n=>rw [hh] at h1;simp at h1
    rw [hj0] at h1;have e3:a=q':=by simpa using h1
    subst e3;have e4:j=i:=by omega
    subst e4;rw [hr] at h2;cases h2;refine ⟨⟨hrow r (List.mem_of_getElem? hr),dx,pi,ib,?_⟩,s2.free ha2⟩;exact s3 _ _ (s2 _ _ (hpa j pi r hpi hr).1)
 ·rintro ys H2 ⟨s2,n2,qs,rfl,hq,al⟩ p2 hp2;refine q p2 _ ((sm1.trans s2).updN ((sm1.trans s2).free hp2)) (n2.upd) ⟨qs,ib,(sm1.trans s2).free hp2,by rw [hq,List.length_map,hpl],fun i q' r h1 h2=>?_⟩;obtain ⟨z1,z2⟩:=al i q' r h1 h2;exact ⟨z1.same (gb hp2),sm1.free z2⟩
end
noncomputable def UP (q:Addr) (H:Hp) (R:Hp→Prop):Prop:=∀ H',qe q H H'→NoT H'→R H'
noncomputable def WC (t:Adr):Sp:=fun vs H Q _=>∃ q row n,vs=[.ref q]∧sh t H q row [Str.ofString "ring",num n] 0∧(2 ≤ n∧n ≤ 99)∧NoT H∧UP q H (Q (.int n))
noncomputable def yk (t:Adr) (H:Hp) (wl:Addr) (ds:List WD):Prop:=∃ as:List Addr,H wl=some (.lst (as.map V.ref))∧as.length=ds.length∧∀ (i:Nat) (a:Addr) (d:WD),as[i]? = some a→ds[i]? = some d→Ue t H a d
noncomputable def vt (t:Adr):Sp:=fun vs H Q _=>∃ q row ws pl wl ds x,vs=[.ref q,.ref wl]∧sh t H q row ws pl∧ws[pl]? = some x∧made x Ei 8=true∧yk t H wl ds∧ds.length ≤ 12∧(∀ d ∈ ds,d.name ≠ x)∧NoT H ∧
 ∀ H',qe q H H'→NoT H'→sh t H' q row ws (pl + 1)→Q (.str x) H'
noncomputable def jJ (t:Adr):Sp:=fun vs H Q _=>∃ q row ws pl n st fi,vs=[.ref q,.int n,.int st]∧sh t H q row ws pl∧ws[pl]? = some (num fi)∧(0 ≤ st∧st < n)∧(0 ≤ fi∧fi < n)∧st ≠ fi∧n ≤ 99∧NoT H ∧
 ∀ H',qe q H H'→NoT H'→sh t H' q row ws (pl + 1)→Q (.int fi) H'
noncomputable def dB (t:Adr):Sp:=fun vs H Q _=>∃ d:WD,vs=[.str (ce d.k),.str d.name,.int d.start,.int d.fin,.int d.off,.int d.near,.int d.least]∧d.k < 3∧∀ x H',ac H H'→(NoT H→NoT H')→Ue t H' x d→H x=none→Q (.ref x) H'
noncomputable def sJ (t:Adr):Sp:=fun vs H Q _=>∃ q row n wl ds d,vs=[.ref q,.int n,.ref wl]∧sh t H q row (Yi d) 0∧WOk n d∧(2 ≤ n∧n ≤ 99)∧yk t H wl ds∧ds.length ≤ 12∧(∀ e ∈ ds,e.name ≠ d.name)∧NoT H ∧
 ∀ x H',qe q H H'→NoT H'→Ue t H' x d→H x=none→Q (.ref x) H'
theorem yk.sameX {t:Adr} {H H':Hp} {q wl:Addr} {ds:List WD} {row:Int} {ws:List Str} {pl:Nat} (h:yk t H wl ds) (s:qe q H H') (r:sh t H q row ws pl):yk t H' wl ds:=by
 obtain ⟨as,e1,e2,al⟩:=h;obtain ⟨hz,dx,ta,e3,e4⟩:=r;refine ⟨as,s _ _ (Aj e1 e3 (by intro z;cases z)) e1,e2,fun i a d h1 h2=>?_⟩;obtain ⟨hk,dx',e5⟩:=al i a d h1 h2;refine ⟨hk,dx',s _ _ (fun z=>?_) e5⟩;subst z;rw [e5] at e3;have e6:=Option.some.inj e3;injection e6 with _ _ e8;have e9:(7:Nat)=3:=congrArg List.length e8;omega
theorem yk.same {t:Adr} {H H':Hp} {wl:Addr} {ds:List WD} (h:yk t H wl ds) (s:ac H H'):yk t H' wl ds:=by
 obtain ⟨as,e1,e2,al⟩:=h;exact ⟨as,s _ _ e1,e2,fun i a d h1 h2=>(al i a d h1 h2).same s⟩
section
variable {P:Program} {w:World} {K:PySem.W.Frag} {mg:Str→Option Value} {base:Heap} {t:Adr}
theorem xL (T:Txt w K mg t):Zb P w K mg base CX0 5 t.xj t.ij ["reader"] (WC t):=by
 have g19:Zb P w K mg base CX0 4 t.Mc t.Ed q32 (Su K t):=(GA T).mono (by decide);have g8:Zb P w K mg base CX0 4 t.xc t.Jc q24 (Dv t):=qy T;have g20:Zb P w K mg base CX0 4 t.Oc t.Fd ["self"] (tF t):=(uJ T).mono (by decide);refine T.wm.ok Vo (fun vs H Q E h=>?_) (fun _ _ _ s H vs Q E hr h=>?_)
 ·obtain ⟨q,row,n,rfl,_⟩:=h;rfl
 obtain ⟨q,row,n,rfl,R,hn,nt,qq⟩:=h;refine ⟨_,(db (ke (Fe (pv 0) T.Pb T.Yh g19 hr T.Gh .nil ye (cb (qh (cb ad fb)) fb)))
   (db (wb (i:=1) Vo.nd (Fe (pv 0) T.Pb T.Hc g8 hr T.Gc .nil ye (cb (si rfl T.ls T.Ks) (cb (si rfl T.fv T.Ou) fb))))
   (db (ke (rj (pv 0) T.Pb T.ci g20 hr T.Zh .nil ye))
   (lb (Bb (pv 1)))))),?_⟩
 obtain ⟨_,dx,ta,e1,e2⟩:=id R;walk_at "RD";refine ⟨_,_,e1,sh.no _ _ _ (by decide +kernel),by decide,fun p hp=>?_⟩;have s0:ac H (upd H p (.lst [V.str (Str.ofString "ring")])):=gb hp;refine ⟨q,row,_,0,Str.ofString "ring",p,[Str.ofString "ring"],rfl,R.same s0,rfl,SqL.of ib,by simp,fun H1 s1 n1 R1=>?_⟩;obtain ⟨_,dx1,ta1,f1,f2⟩:=id R1;walk_at "RD";refine ⟨_,_,f1,sh.no _ _ _ (by decide +kernel),?_⟩;have nt1:=n1 nt.upd;refine ⟨q,row,_,1,num n,2,99,n,rfl,R1,rfl,vo (by omega) (by omega) hn.1 hn.2,nt1,fun H2 s2 n2 R2=>?_⟩;obtain ⟨_,dx2,ta2,g1,g2⟩:=id R2;walk_at "RD";refine ⟨_,_,g1,sh.no _ _ _ (by decide +kernel),?_⟩;refine ⟨q,row,_,2,rfl,R2,rfl,?_⟩;walk_at "RD";exact qq H2 (((qe.of s0).trans s1).trans s2) (n2 nt1)
theorem sC (T:Txt w K mg t):Zb P w K mg base CX0 3 t.Hf t.Af q40 (vt t):=by
 have g9:Zb P w K mg base CX0 2 t.yc t.Ic ["self"] (Kn t):=(Vp T).mono (by decide);have g13:Zb P w K mg base CX0 2 t.Uc t.qd q17 (Nu t):=(Hx T).mono (by decide);have g34:Zb P w K mg base CX0 2 t.Dn t.Qn ["word"] dF:=uL T;refine T.Ch.ok Uj (fun vs H Q E h=>?_) (fun _ _ _ s H vs Q E hr h=>?_)
 ·obtain ⟨q,row,ws,pl,wl,ds,x,rfl,_⟩:=h;rfl
 obtain ⟨q,row,ws,pl,wl,ds,x,rfl,R,hx,hm,hW,hdl,hnew,nt,qq⟩:=h;refine ⟨_,(db (wb (i:=2) Uj.nd (rj (pv 0) T.Pb T.Je g9 hr T.Le .nil ye))
   (db (ke (Fe (pv 0) T.Pb T.Gg g13 hr T.Jg .nil ye (cb (Om (qb g34 hr T.UE T.lq.kp T.EC (cb (pv 2) fb)) (fm (ld Ko (pv 2) (Yf rfl (Eg (pv 1)) (Ec (sc:=ub uh) rfl (by decide +kernel)) (N:=["way"]) (sel:=[none]) (kd (M:=["reader","ways","name"]) (by decide +kernel)) (Blk.of (fun _ _ _ _=>(Eb (i:=0) (Bi (N:=["way"]) (by decide +kernel) rfl))) (fun _ _ _ _=>⟨_,Kg,by walk_at "B"⟩) (fun _ _ _ _=>⟨_,(qc (pv 0) rfl),by walk_at "B"⟩))) (by with_unfolding_all rfl)))) fb)))
   (lb (Bb (pv 2))))),?_⟩
 have hlt:pl < ws.length:=(List.getElem?_eq_some_iff.mp hx).1;have hg:ws.getD pl (Str.ofString "")=x:=by rw [List.getD_eq_getElem?_getD,hx];rfl
 obtain ⟨hz,dx,ta,e1,e2⟩:=id R;walk_at "RD";refine ⟨_,_,e1,sh.no _ _ _ (by decide +kernel),⟨q,row,ws,pl,rfl,R,by omega,?_⟩⟩;rw [hg];walk_at "RD";refine ⟨_,_,e1,sh.no _ _ _ (by decide +kernel),?_⟩;refine ⟨x,rfl,hz.2 x (List.mem_of_getElem? hx),nt,?_⟩;rw [hm];walk_at "RD";obtain ⟨as,w1,w2,al⟩:=hW;refine ⟨⟨_,SqL.of w1⟩,?_⟩;have hle:(as.map V.ref).length ≤ sizeLine:=by rw [List.length_map,w2];exact Nat.le_trans hdl (by decide)
 refine gd.list_zs (xs:=as.map V.ref) (zs:=ds.map fun d=>V.str d.name) (SqL.of w1) hle (by rw [List.length_map,List.length_map,w2]) (fun i v z N hv hz' hN=>?_) (fun p hp=>?_)
 ·obtain ⟨a,ha,rfl⟩:=vg hv;obtain ⟨d,hd,rfl⟩:=vg hz';walk_at "RD";exact ⟨Sub.name,_,(al i a d ha hd).f_name T,hN⟩
 ·walk_at "RD";have e0:(ds.map fun d=>V.str d.name)=Lc (ds.map (·.name)):=by unfold Lc;rw [List.map_map];rfl
  rw [e0];refine ⟨_,.inl (SqL.of ib),rfl,Dt _,?_⟩;rw [Bz,decide_eq_false (fun z=>by
   obtain ⟨d,hd,e⟩:=List.mem_map.mp z;exact hnew d hd e)]
  have s0:ac H (upd H p (.lst (Lc (ds.map (·.name))))):=gb hp;exact ⟨q,row,ws,pl,rfl,R.same s0,fun H' s1 n1 R1=>qq H' ((qe.of s0).trans s1) (n1 nt.upd) R1⟩
theorem lM (T:Txt w K mg t):Zb P w K mg base CX0 5 t.Hl t.xl q28 (jJ t):=by
 have g9:Zb P w K mg base CX0 4 t.yc t.Ic ["self"] (Kn t):=(Vp T).mono (by decide);have g8:Zb P w K mg base CX0 4 t.xc t.Jc q24 (Dv t):=qy T;refine T.Xn.ok Dy (fun vs H Q E h=>?_) (fun _ _ _ s H vs Q E hr h=>?_)
 ·obtain ⟨q,row,ws,pl,n,st,fi,rfl,_⟩:=h;rfl
 obtain ⟨q,row,ws,pl,n,st,fi,rfl,R,hx,hst,hfi,hne,hn,nt,qq⟩:=h;refine ⟨_,(db (Dc (Gb Of (rj (pv 0) T.Pb T.Je g9 hr T.Le .nil ye) (ug Xk rfl T.jL Rn (cb (pv 2) fb)) (Ub _)) (lb Cl) Ob)
   (lb (Bb (Fe (pv 0) T.Pb T.Hc g8 hr T.Gc .nil ye (cb jb (cb (Yb Vh (pv 1) jb) fb)))))),?_⟩
 have hlt:pl < ws.length:=(List.getElem?_eq_some_iff.mp hx).1;have hg:ws.getD pl (Str.ofString "")=num fi:=by rw [List.getD_eq_getElem?_getD,hx];rfl
 obtain ⟨hz,dx,ta,e1,e2⟩:=id R;walk_at "RD";refine Ib false (fun Q hQ=>?_) (fun hc=>nomatch hc) (fun _=>?_)
 ·walk_at "RD";refine ⟨_,_,e1,sh.no _ _ _ (by decide +kernel),⟨q,row,ws,pl,rfl,R,by omega,?_⟩⟩;rw [hg];walk_at "RD";refine ⟨lr (by omega),?_⟩;rw [decide_eq_false (fun z=>hne (PK (by omega) (by omega) (by omega) (by omega) z).symm)];exact hQ
 ·walk_at "RD";refine ⟨_,_,e1,sh.no _ _ _ (by decide +kernel),⟨q,row,ws,pl,num fi,0,n - 1,fi,rfl,R,hx,vo (by omega) (by omega) (by omega) (by omega),nt,fun H1 s1 n1 R1=>?_⟩⟩;exact qq H1 s1 (n1 nt) R1
theorem gN {t:Adr} {H:Hp} {x dx:Addr} {d:WD} (hx:H x=none) (hd:H dx=none) (hk:d.k < 3) :
  ac H (upd (upd (upd H dx (.own x)) x (.ins (t.cw d.k) dx [])) x (.ins (t.cw d.k) dx (Rr d)))∧(NoT H→NoT (upd (upd (upd H dx (.own x)) x (.ins (t.cw d.k) dx [])) x (.ins (t.cw d.k) dx (Rr d)))) ∧
   Ue t (upd (upd (upd H dx (.own x)) x (.ins (t.cw d.k) dx [])) x (.ins (t.cw d.k) dx (Rr d))) x d:=
 ⟨(((ac.refl H).updN hd).updN hx).updN hx,fun n=>((n.upd).upd).upd,hk,dx,ib⟩
theorem rH (T:Txt w K mg t):Zb P w K mg base CX0 4 t.yl t.ql q29 (dB t):=by
 have g35:Zb P w K mg base CX0 2 t.Lf t.eh q5 (gl t 0):=ZJ T;have g36:Zb P w K mg base CX0 2 t.bf t.gg q5 (gl t 1):=KG T;have g37:Zb P w K mg base CX0 2 t.df t.ng q5 (gl t 2):=jI T;refine T.wo.ok xy (fun vs H Q E h=>?_) (fun _ _ _ s H vs Q E hr h=>?_)
 ·obtain ⟨d,rfl,_⟩:=h;rfl
 obtain ⟨d,rfl,hk,q⟩:=h;refine ⟨_,(db (Dc (Gb Of (pv 0) ad (Ub _)) (lb (Bb (Wn T.lH g35 hr rfl T.XG T.uu .nil ye (cb (pv 1) (cb (pv 2) (cb (pv 3) (cb (pv 4) (cb (pv 5) (cb (pv 6) fb))))))))) Ob)
   (db (Dc (Gb Of (pv 0) ad (Ub _)) (lb (Bb (Wn T.aG g36 hr rfl T.VD T.Tr .nil ye (cb (pv 1) (cb (pv 2) (cb (pv 3) (cb (pv 4) (cb (pv 5) (cb (pv 6) fb))))))))) Ob)
   (lb (Bb (Wn T.rE g37 hr rfl T.RF T.Ls .nil ye (cb (pv 1) (cb (pv 2) (cb (pv 3) (cb (pv 4) (cb (pv 5) (cb (pv 6) fb))))))))))),?_⟩
 have fin:∀ (x dx:Addr),H x=none→H dx=none→Q (.ref x) (upd (upd (upd H dx (.own x)) x (.ins (t.cw d.k) dx [])) x (.ins (t.cw d.k) dx (Rr d))):=fun x dx hx hd=>by
  obtain ⟨m1,m2,m3⟩:=gN (t:=t) (d:=d) hx hd hk;exact q x _ m1 m2 m3 hx
 obtain ⟨k,name,start,fi,off,near,least⟩:=d
 match k,hk with
 | 0,_=>
  (walk_at "RD"; repeat (dsimp only [ce];walk_at "RD"));refine Ib true (fun Q hQ=>?_) (fun _=>?_) (fun hc=>nomatch hc)
  ·walk_at "RD";exact hQ
  ·walk_at "RD";exact fun x dx hx hd hne=>⟨x,dx,⟨0,name,start,fi,off,near,least⟩,rfl,rfl,ib,rfl,fin x dx hx hd⟩
 | 1,_=>
  (walk_at "RD"; repeat (dsimp only [ce];walk_at "RD"));refine Ib false (fun Q hQ=>?_) (fun hc=>nomatch hc) (fun _=>?_)
  ·walk_at "RD";rw [decide_eq_false (by decide +kernel)];exact hQ
  ·walk_at "RD";refine Ib true (fun Q hQ=>?_) (fun _=>?_) (fun hc=>nomatch hc)
   ·walk_at "RD";exact hQ
   ·walk_at "RD";exact fun x dx hx hd hne=>⟨x,dx,⟨1,name,start,fi,off,near,least⟩,rfl,rfl,ib,rfl,fin x dx hx hd⟩
 | 2,_=>
  (walk_at "RD"; repeat (dsimp only [ce];walk_at "RD"));refine Ib false (fun Q hQ=>?_) (fun hc=>nomatch hc) (fun _=>?_)
  ·walk_at "RD";rw [decide_eq_false (by decide +kernel)];exact hQ
  ·walk_at "RD";refine Ib false (fun Q hQ=>?_) (fun hc=>nomatch hc) (fun _=>?_)
   ·walk_at "RD";rw [decide_eq_false (by decide +kernel)];exact hQ
   ·walk_at "RD";exact fun x dx hx hd hne=>⟨x,dx,⟨2,name,start,fi,off,near,least⟩,rfl,rfl,ib,rfl,fin x dx hx hd⟩
theorem UL (T:Txt w K mg t):Zb P w K mg base CX0 6 t.ml t.Al q41 (sJ t):=by
 have g19:Zb P w K mg base CX0 5 t.Mc t.Ed q32 (Su K t):=(GA T).mono (by decide);have g8:Zb P w K mg base CX0 5 t.xc t.Jc q24 (Dv t):=(qy T).mono (by decide);have g20:Zb P w K mg base CX0 5 t.Oc t.Fd ["self"] (tF t):=(uJ T).mono (by decide);have g38:Zb P w K mg base CX0 5 t.Hf t.Af q40 (vt t):=(sC T).mono (by decide);have g39:Zb P w K mg base CX0 5 t.Hl t.xl q28 (jJ t):=lM T;have g40:Zb P w K mg base CX0 5 t.yl t.ql q29 (dB t):=(rH T).mono (by decide);refine T.Ao.ok De (fun vs H Q E h=>?_) (fun _ _ _ s H vs Q E hr h=>?_)
 ·obtain ⟨q,row,n,wl,ds,d,rfl,_⟩:=h;rfl
 obtain ⟨q,row,n,wl,ds,d,rfl,R,hd,hn,hW,hdl,hnew,nt,qq⟩:=h;refine ⟨_,(db (wb (i:=3) De.nd (Fe (pv 0) T.Pb T.Yh g19 hr T.Gh .nil ye (cb (qh (cb ad (cb ad (cb ad fb)))) fb)))
   (db (wb (i:=4) De.nd (qb g38 hr T.uq T.Ch.kp T.Kq (cb (pv 0) (cb (pv 2) fb))))
   (db (wb (i:=5) De.nd (Fe (pv 0) T.Pb T.Hc g8 hr T.Gc .nil ye (cb jb (cb (Yb Vh (pv 1) jb) fb))))
   (db (wb (i:=6) De.nd (qb g39 hr T.KB T.Xn.kp T.GB (cb (pv 0) (cb (pv 1) (cb (pv 5) fb)))))
   (db (wb (i:=7) De.nd (Fe (pv 0) T.Pb T.Hc g8 hr T.Gc .nil ye (cb jb (cb (si rfl T.cC T.nC) fb))))
   (db (wb (i:=8) De.nd (Fe (pv 0) T.Pb T.Hc g8 hr T.Gc .nil ye (cb jb (cb (si rfl T.gy T.Jy) fb))))
   (db (wb (i:=9) De.nd (Fe (pv 0) T.Pb T.Hc g8 hr T.Gc .nil ye (cb jb (cb (si rfl T.xx T.Xw) fb))))
   (db (ke (rj (pv 0) T.Pb T.ci g20 hr T.Zh .nil ye))
   (lb (Bb (qb g40 hr T.TB T.wo.kp T.dC (cb (pv 3) (cb (pv 4) (cb (pv 5) (cb (pv 6) (cb (pv 7) (cb (pv 8) (cb (pv 9) fb)))))))))))))))))),?_⟩
 have b1:=hd.st;have b2:=hd.fi;have b3:=hd.of;have b4:=hd.nr;have b5:=hd.le;obtain ⟨_,dx,ta,e1,e2⟩:=id R;walk_at "RD";refine ⟨_,_,e1,sh.no _ _ _ (by decide +kernel),by decide,fun p hp=>?_⟩;have s0:ac H (upd H p (.lst [V.str (Str.ofString "car"),V.str (Str.ofString "foot"),V.str (Str.ofString "tram")])):=gb hp;have hin:ce d.k ∈ [Str.ofString "car",Str.ofString "foot",Str.ofString "tram"]:=by
  have:=hd.k
  match d.k,this with
  | 0,_=>simp [ce]
  | 1,_=>simp [ce]
  | 2,_=>simp [ce]
 refine ⟨q,row,_,0,ce d.k,p,[Str.ofString "car",Str.ofString "foot",Str.ofString "tram"],rfl,R.same s0,rfl,SqL.of ib,hin,fun H1 s1 n1 R1=>?_⟩;have x1:qe q H H1:=(qe.of s0).trans s1;have m1:=n1 nt.upd;walk_at "RD";refine ⟨q,row,_,1,wl,ds,d.name,rfl,R1,rfl,hd.nm,hW.sameX x1 R,hdl,hnew,m1,fun H2 s2 m2 R2=>?_⟩;obtain ⟨_,dx2,ta2,f2,g2⟩:=id R2;have x2:=x1.trans s2;walk_at "RD";refine ⟨_,_,f2,sh.no _ _ _ (by decide +kernel),⟨q,row,_,2,num d.start,0,n - 1,d.start,rfl,R2,rfl,vo (by omega) (by omega) (by omega) (by omega),m2,fun H3 s3 n3 R3=>?_⟩⟩;have x3:=x2.trans s3;have m3:=n3 m2;walk_at "RD";refine ⟨q,row,_,3,n,d.start,d.fin,rfl,R3,rfl,b1,b2,hd.ne,hn.2,m3,fun H4 s4 m4 R4=>?_⟩;obtain ⟨_,dx4,ta4,f4,g4⟩:=id R4;have x4:=x3.trans s4;walk_at "RD";refine ⟨_,_,f4,sh.no _ _ _ (by decide +kernel),⟨q,row,_,4,num d.off,0,30,d.off,rfl,R4,rfl,vo (by omega) (by omega) (by omega) (by omega),m4,fun H5 s5 n5 R5=>?_⟩⟩;obtain ⟨_,dx5,ta5,f5,g5⟩:=id R5;have x5:=x4.trans s5;have m5:=n5 m4;walk_at "RD";refine ⟨_,_,f5,sh.no _ _ _ (by decide +kernel),⟨q,row,_,5,num d.near,0,30,d.near,rfl,R5,rfl,vo (by omega) (by omega) (by omega) (by omega),m5,fun H6 s6 n6 R6=>?_⟩⟩;obtain ⟨_,dx6,ta6,f6,g6⟩:=id R6;have x6:=x5.trans s6;have m6:=n6 m5;walk_at "RD";refine ⟨_,_,f6,sh.no _ _ _ (by decide +kernel),⟨q,row,_,6,num d.least,1,60,d.least,rfl,R6,rfl,vo (by omega) (by omega) (by omega) (by omega),m6,fun H7 s7 n7 R7=>?_⟩⟩;obtain ⟨_,dx7,ta7,f7,g7⟩:=id R7;have x7:=x6.trans s7;have m7:=n7 m6;walk_at "RD";refine ⟨_,_,f7,sh.no _ _ _ (by decide +kernel),⟨q,row,_,7,rfl,R7,rfl,?_⟩⟩;walk_at "RD";refine ⟨d,rfl,hd.k,fun x H8 s8 n8 w8 hx8=>?_⟩;refine qq x H8 (x7.trans (qe.of s8)) (n8 m7) w8 ?_;cases hH:H x with
 | none=>rfl
 | some u=>
  by_cases hxq:x=q
  ·subst hxq;rw [f7] at hx8;cases hx8
  ·rw [x7 x u hxq hH] at hx8;cases hx8
end
end My
namespace My
open PySem L2
noncomputable abbrev jC:List Str:=[Str.ofString "places",Str.ofString "ways",Str.ofString "numbers"]
noncomputable def cF (n:Int) (wl nd:Addr):List (Str × V):=[(Str.ofString "places",.int n),(Str.ofString "ways",.ref wl),(Str.ofString "numbers",.ref nd)]
theorem Hu (n:Int) (wl nd:Addr):(cF n wl nd).map (·.1)=jC:=rfl
noncomputable def nm (ds:List WD) (i:Nat):Str:=((ds[i]?).map (·.name)).getD (Str.ofString "")
noncomputable def yC (ds:List WD) (i:Nat):List (Key × V):=(List.range i).map fun j=>(Sum.inr (nm ds j),V.int j)
theorem xB {ds:List WD} {i:Nat} {d:WD} (h:ds[i]? = some d):nm ds i=d.name:=by unfold nm;rw [h];rfl
theorem kF {ds:List WD} (h:(ds.map (·.name)).Nodup) {i j:Nat} (hi:i < ds.length) (hj:j < ds.length) (e:nm ds i=nm ds j):i=j:=by
 rw [xB (List.getElem?_eq_getElem hi),xB (List.getElem?_eq_getElem hj)] at e;have:=(List.getElem_inj (xs:=ds.map (·.name)) (i:=i) (j:=j) (h₀:=by rw [List.length_map];exact hi) (h₁:=by rw [List.length_map];exact hj) h).mp (by rw [List.getElem_map,List.getElem_map];exact e);exact this
theorem iI {ds:List WD} (h:(ds.map (·.name)).Nodup) {i:Nat}:∀ {n:Nat},i < n→n ≤ ds.length→mm (yC ds n) (Sum.inr (nm ds i))=some (.int i):=by
 intro n
 induction n with
 | zero=>intro hi _;omega
 | succ n ih=>
  intro hi hn;unfold yC mm;rw [List.range_succ,List.map_append,List.find?_append];by_cases c:i < n
  ·have:=ih c (by omega);unfold yC mm at this;cases e:List.find? (fun kv=>decide (kv.fst=Sum.inr (nm ds i))) (List.map (fun j=>((Sum.inr (nm ds j):Key),V.int j)) (List.range n)) with
   | none=>rw [e] at this;cases this
   | some p=>rw [e] at this;exact this
  ·have e:i=n:=by omega
   subst e;have no:List.find? (fun kv=>decide (kv.fst=Sum.inr (nm ds i))) (List.map (fun j=>((Sum.inr (nm ds j):Key),V.int j)) (List.range i))=none:=by
    rw [List.find?_eq_none];intro p hp;obtain ⟨j,hj,rfl⟩:=List.mem_map.mp hp;have hj':=List.mem_range.mp hj;simp only [decide_eq_true_eq];intro z;have:=kF h (by omega) (by omega) (Sum.inr.inj z);omega
   rw [no];simp
theorem bH {ds:List WD} (h:(ds.map (·.name)).Nodup) {n:Nat} (hn:n < ds.length):Wq (yC ds n) (Sum.inr (nm ds n)) (.int n)=yC ds (n + 1):=by
 unfold Wq;have no:((yC ds n).any fun kv=>decide (kv.1=Sum.inr (nm ds n)))=false:=by
  rw [List.any_eq_false];intro p hp;obtain ⟨j,hj,rfl⟩:=List.mem_map.mp hp;have hj':=List.mem_range.mp hj;simp only [decide_eq_true_eq];intro z;have:=kF h (by omega) hn (Sum.inr.inj z);omega
 rw [no];unfold yC;rw [List.range_succ,List.map_append];rfl
theorem Vn {H H1 H2:Hp} {q:Addr} (a:ac H H1) (b:qe q H1 H2) (n:H q=none):ac H H2:=fun c u e=>b c u (Lb e n) (a c u e)
theorem BM {t:Adr} {H:Hp} {p q:Addr} {i j:Int} {ws vs:List Str} {k l:Nat} (a:sh t H p i ws k) (b:sh t H q j vs l) (n:i ≠ j):p ≠ q:=fun z=>by
 subst z;obtain ⟨_,dx,ta,e1,_⟩:=a;obtain ⟨_,dx',ta',e2,_⟩:=b;rw [e1] at e2;have e3:=Option.some.inj e2;injection e3 with _ _ e4;unfold rdF at e4;injection e4 with e5 _;injection e5 with _ e6;injection e6 with e7;exact n e7
theorem VF {t:Adr} {H:Hp} {p q:Addr} {d:WD} {j:Int} {vs:List Str} {l:Nat} (a:Ue t H p d) (b:sh t H q j vs l):p ≠ q:=fun z=>by
 subst z;obtain ⟨_,dx,e1⟩:=a;obtain ⟨_,dx',ta',e2,_⟩:=b;rw [e1] at e2;have e3:=Option.some.inj e2;injection e3 with _ _ e4;exact absurd (congrArg List.length e4) (by show ¬ (7:Nat)=3;decide)
noncomputable def xf (t:Adr) (H:Hp) (c:Addr) (n:Int) (ds:List WD):Prop:=
 ((ds.map (·.name)).Nodup∧ds.length ≤ 12)∧∃ dx wl nd,H c=some (.ins t.ic dx (cF n wl nd))∧yk t H wl ds∧H nd=some (.dK (yC ds ds.length))
theorem xf.same {t:Adr} {H H':Hp} {c:Addr} {n:Int} {ds:List WD} (h:xf t H c n ds) (s:ac H H'):xf t H' c n ds:=by
 obtain ⟨h0,dx,wl,nd,e1,e2,e3⟩:=h;exact ⟨h0,dx,wl,nd,s _ _ e1,e2.same s,s _ _ e3⟩
theorem GL {m:Str} (n:Int) (wl nd:Addr) (h:jC.contains m=false):(cF n wl nd).lookup m=none:=Wm jC (Hu ..) h
section
variable {w:World} {K:PySem.W.Frag} {mg:Str→Option Value} {t:Adr} {H:Hp} {c dx wl nd:Addr} {n:Int}
theorem NH (T:Txt w K mg t) (e:H c=some (.ins t.ic dx (cF n wl nd))):Rl K H c (Str.ofString "places") (.int n):=⟨_,dx,_,e,T.Rc,T.Lh,Ee jC 0 (Hu ..) (by decide +kernel) rfl⟩
theorem iM (T:Txt w K mg t) (e:H c=some (.ins t.ic dx (cF n wl nd))):Rl K H c (Str.ofString "ways") (.ref wl):=⟨_,dx,_,e,T.Rc,T.Kj,Ee jC 1 (Hu ..) (by decide +kernel) rfl⟩
theorem Br (T:Txt w K mg t) (e:H c=some (.ins t.ic dx (cF n wl nd))):Rl K H c (Str.ofString "numbers") (.ref nd):=⟨_,dx,_,e,T.Rc,T.Fh,Ee jC 2 (Hu ..) (by decide +kernel) rfl⟩
end
noncomputable def KI (t:Adr):Sp:=fun vs H Q _=>∃ c dx n wl ds,vs=[.ref c,.int n,.ref wl]∧H c=some (.ins t.ic dx [])∧yk t H wl ds∧(ds.map (·.name)).Nodup∧ds.length ≤ 12∧NoT H ∧
 ∀ H',qe c H H'→NoT H'→xf t H' c n ds→Q .non H'
noncomputable def mN (t:Adr):Sp:=fun vs H Q _=>∃ n ds,vs=[.str (yu n ds)]∧COk n ds∧NoT H∧∀ c H',ac H H'→NoT H'→xf t H' c n ds→Q (.ref c) H'
noncomputable def kx (t:Adr):Sp:=fun vs H Q _=>∃ c n ds,∃ i:Nat,∃ d,vs=[.ref c,.str d.name]∧xf t H c n ds∧ds[i]? = some d∧Q (.int (i:Nat)) H
noncomputable def Xm (t:Adr):Sp:=fun vs H Q _=>∃ c n ds,∃ i:Nat,∃ d,vs=[.ref c,.str d.name]∧xf t H c n ds∧ds[i]? = some d∧∀ a,Ue t H a d→Q (.ref a) H
section
variable {P:Program} {w:World} {K:PySem.W.Frag} {mg:Str→Option Value} {base:Heap} {t:Adr}
theorem WL (T:Txt w K mg t):Zb P w K mg base CX0 1 t.Ge t.wf q50 (KI t):=by
 refine T.sk.ok Ze (fun vs H Q E h=>?_) (fun _ _ _ s H vs Q E hr h=>?_)
 ·obtain ⟨c,dx,n,wl,ds,rfl,_⟩:=h;rfl
 obtain ⟨c,dx,n,wl,ds,rfl,hc,hW,hnd,hdl,nt,q⟩:=h;have hu:=om hr;refine ⟨_,(db (Pg (pv 0) (pv 1) rfl)
   (db (Pg (pv 0) (pv 2) rfl)
   (db (Pg (pv 0) cH rfl)
   (lb (cf PassesOwn.never rfl (Hq rfl T.Sf (cb (pv 2) fb)) (uf (K:=K) (n:=2) rfl rfl (lc (Eb (i:=3) Ze.nd) (lc (Eb (i:=4) Ze.nd) Df))) (lb (jK hu (qc (pv 0) rfl) (qc (pv 4) rfl) (pv 3) rfl))))))),?_⟩
 walk_at "RD";refine ⟨_,_,_,hc,T.Rc,T.Lh,by decide,?_⟩;refine ⟨_,_,_,ib,T.Rc,T.Kj,Cp (n:=999) (by decide),fun nd hn=>?_⟩;simp only [Em] at hn ⊢;rw [show sj (Str.ofString "places") (V.int n) ([]:List (Str × V))=[(Str.ofString "places",V.int n)] from rfl,show sj (Str.ofString "ways") (V.ref wl) [(Str.ofString "places",V.int n)]=[(Str.ofString "places",V.int n),(Str.ofString "ways",V.ref wl)] from je [Str.ofString "places"] rfl (by decide +kernel)] at hn ⊢;have hnc:c ≠ nd:=fun z=>by subst z;rw [ib] at hn;cases hn
 refine ⟨t.ic,dx,[(Str.ofString "places",V.int n),(Str.ofString "ways",V.ref wl)],by rw [Ab hnc];exact ib,T.Rc,T.Fh,show (2:Nat) < 1000 by decide,?_⟩;rw [show sj (Str.ofString "numbers") (V.ref nd) [(Str.ofString "places",V.int n),(Str.ofString "ways",V.ref wl)]=cF n wl nd from je [Str.ofString "places",Str.ofString "ways"] rfl (by decide +kernel)];obtain ⟨as,w1,w2,al⟩:=hW;have hHn:H nd=none:=by rw [Ab (Ne.symm hnc)] at hn;exact hn
 have sx:qe c H (upd (upd (upd H c (.ins t.ic dx [(Str.ofString "places",V.int n),(Str.ofString "ways",V.ref wl)])) nd (.dK [])) c (.ins t.ic dx (cF n wl nd))):=fun b u hb e=>by
  rw [Ab hb,Ab (Lb e hHn),Ab hb];exact e
 have hwc:wl ≠ c:=Aj w1 hc (by intro z;cases z);refine ⟨⟨_,SqL.of (sx _ _ hwc w1)⟩,?_⟩;refine Zj.enum (xs:=as.map V.ref) (fun i σ H'=>(∃ x y,σ=[some (V.ref c),some (V.int n),some (V.ref wl),x,y])∧H' c=some (.ins t.ic dx (cF n wl nd))∧H' nd=some (.dK (yC ds i))∧qe c H H'∧NoT H') ?_ ?_ ?_ ?_
 ·exact ⟨⟨_,_,rfl⟩,ib,by rw [Ab (Ne.symm hnc),ib];rfl,sx,((nt.upd).upd).upd⟩
 ·rintro i σ H' hi zzq;refine zzP fun zzM zzh=>?_
  obtain ⟨_,_,_,sx',_⟩:=zzq;subst zzh;exact SqL.of (sx' _ _ hwc w1)
 ·rintro i v σ H' p hv ⟨⟨x,y,rfl⟩,h1,h2,sx',nt'⟩ hp;obtain ⟨a,ha,rfl⟩:=vg hv;obtain ⟨hi,_⟩:=List.getElem?_eq_some_iff.mp ha;have hid:i < ds.length:=by omega
  have hd:ds[i]? = some ds[i]:=List.getElem?_eq_getElem hid;have Wa:Ue t H a ds[i]:=al i a _ ha hd;have hac:a ≠ c:=by
   obtain ⟨_,dx',e⟩:=Wa;intro z;subst z;rw [hc] at e;have e2:=Option.some.inj e;injection e2 with _ _ e3;exact absurd (congrArg List.length e3) (by show ¬ (0:Nat)=7;decide)
  have Wa':Ue t H' a ds[i]:=⟨Wa.1,Wa.2.imp fun dx' e=>sx' _ _ hac e⟩;have sp:ac H' (upd H' p (.tup [.int i,.ref a])):=gb hp;refine xh ?_;walk_at "RD";refine ⟨_,Br T (sp _ _ h1),_,(Wa'.same sp).f_name T,_,rfl,_,aH.k (k:=Sum.inr ds[i].name) (sp _ _ h2) (Nat.lt_of_le_of_lt (show (yC ds i).length ≤ 12 by unfold yC;rw [List.length_map,List.length_range];omega) (by decide)),?_⟩;rw [← xB hd,bH hnd hid];refine ⟨⟨_,rfl⟩,?_,ib,fun b u hb e=>?_,(nt'.upd).upd⟩
  ·rw [Ab hnc];exact sp _ _ h1
  ·rw [Ab (Lb e hHn)];exact sp _ _ (sx' b u hb e)
 ·rintro σ H' zzq;refine zzP fun zzM zzh=>?_
  obtain ⟨⟨x,y,rfl⟩,h1,h2,sx',nt'⟩:=zzq;subst zzh;walk_at "RD";rw [List.length_map,w2] at h2;refine q H' sx' nt' ⟨⟨hnd,hdl⟩,dx,wl,nd,h1,⟨as,sx' _ _ hwc w1,w2,fun i a d h3 h4=>?_⟩,h2⟩;have Wa:=al i a d h3 h4;have hac:a ≠ c:=by
   obtain ⟨_,dx',e⟩:=Wa;intro z;subst z;rw [hc] at e;have e2:=Option.some.inj e;injection e2 with _ _ e3;exact absurd (congrArg List.length e3) (by show ¬ (0:Nat)=7;decide)
  exact ⟨Wa.1,Wa.2.imp fun dx' e=>sx' _ _ hac e⟩
theorem mD (T:Txt w K mg t):Zb P w K mg base CX0 1 t.Pd t.Ve q8 (kx t):=by
 refine T.Ti.ok mn (fun vs H Q E h=>?_) (fun _ _ _ s H vs Q E hr h=>?_)
 ·obtain ⟨c,n,ds,i,d,rfl,_⟩:=h;rfl
 obtain ⟨c,n,ds,i,d,rfl,⟨⟨hnd,hdl⟩,dx,wl,nd,e1,e2,e3⟩,hd,q⟩:=h;have hu:=om hr;have hv:mm (yC ds ds.length) (Sum.inr d.name)=some (.int i):=by
  rw [← xB hd];exact iI hnd (List.getElem?_eq_some_iff.mp hd).1 (Nat.le_refl _)
 have hg:UB H nd (.str d.name) (some (.int i)):=by rw [← hv];exact UB.k (k:=Sum.inr d.name) e3
 refine ⟨_,(db (Dc (vw (mF hu (pv 1) (qc (pv 0) rfl))) (lb Cl) Ob)
   (lb (Bb (bK hu (qc (pv 0) rfl) (pv 1) (fun _ _=>rfl))))),?_⟩
 walk_at "RD";refine Ib false (fun Q hQ=>?_) (fun hc=>nomatch hc) (fun _=>?_)
 ·walk_at "RD";refine ⟨_,Br T e1,_,rfl,_,hg,?_⟩;exact hQ
 ·walk_at "RD";exact ⟨_,Br T e1,_,rfl,_,hg,q⟩
theorem Dr (T:Txt w K mg t):Zb P w K mg base CX0 2 t.Kc t.bd q8 (Xm t):=by
 have g41:Zb P w K mg base CX0 1 t.Pd t.Ve q8 (kx t):=mD T;refine T.Si.ok bn (fun vs H Q E h=>?_) (fun _ _ _ s H vs Q E hr h=>?_)
 ·obtain ⟨c,n,ds,i,d,rfl,_⟩:=h;rfl
 obtain ⟨c,n,ds,i,d,rfl,C,hd,q⟩:=h;obtain ⟨⟨hnd,hdl⟩,dx,wl,nd,e1,⟨as,w1,w2,al⟩,e3⟩:=id C;refine ⟨_,(lb (Bb (Db Qd (qc (pv 0) rfl) (Fe (pv 0) T.Rc T.ko g41 hr T.oo .nil ye (cb (pv 1) fb))))),?_⟩;walk_at "RD";refine ⟨_,iM T e1,_,_,e1,GL _ _ _ (by decide +kernel),⟨c,n,ds,i,d,rfl,C,hd,?_⟩⟩;have hi:i < as.length:=by rw [w2];exact (List.getElem?_eq_some_iff.mp hd).1
 have ha:as[i]? = some as[i]:=List.getElem?_eq_getElem hi;walk_at "RD";refine ⟨_,SqL.of w1,_,yb (show (as.map V.ref)[i]? = some (V.ref as[i]) by rw [List.getElem?_map,ha];rfl),?_⟩;exact q as[i] (al i _ d ha hd)
theorem gO (T:Txt w K mg t):Zb P w K mg base CX0 7 t.Gf t.Nf ["text"] (mN t):=by
 have g42:Zb P w K mg base CX0 6 t.Qm t.Im ["text"] (du t):=(iC T).mono (by decide);have g43:Zb P w K mg base CX0 6 t.xj t.ij ["reader"] (WC t):=(xL T).mono (by decide);have g44:Zb P w K mg base CX0 6 t.ml t.Al q41 (sJ t):=UL T;have g45:Zb P w K mg base CX0 5 t.Ge t.wf q50 (KI t):=(WL T).mono (by decide);refine T.vh.ok me (fun vs H Q E h=>?_) (fun _ _ _ s H vs Q E hr h=>?_)
 ·obtain ⟨n,ds,rfl,_⟩:=h;rfl
 obtain ⟨n,ds,rfl,hC,nt,qq⟩:=h;refine ⟨_,(db (wb (i:=1) me.nd (qb g42 hr T.cE T.Hr.kp T.lD (cb (pv 0) fb)))
   (db (wb (i:=2) me.nd (qb g43 hr T.Xx T.wm.kp T.Vx (cb (Db Qd (pv 1) jb) fb)))
   (db (wb (i:=3) me.nd (qh fb))
   (db (cf PassesOwn.never rfl (Eg (Bj oK (pv 1) (Di jb) xu)) (Eb (i:=4) me.nd) (db (Dc (Gb Of (Kb Fb rfl T.ff Nb (cb (pv 3) fb)) (si rfl T.Qx T.Wx) (Ub _)) (lb Cl) Ob)
   (lb (ke (uo PySem.F.plainAttrs_list PySem.F.slot_list_append PySem.F.type_list_append Ji (pv 3) (cb (qb g44 hr T.qC T.Ao.kp T.mB (cb (pv 4) (cb (pv 2) (cb (pv 3) fb)))) fb))))))
   (db (Dc (af (cA (pv 3) (fun _=>rfl))) (lb Cl) Ob)
   (lb (Bb (Wn T.vB g45 hr rfl T.lC T.Gr .nil ye (cb (pv 2) (cb (pv 3) fb)))))))))),?_⟩
 have hrow:=PB hC;have hlen:=zE hC;have hnn:=hC.nn;have hln:=hC.ln;walk_at "RD";refine ⟨yu n ds,rfl,by omega,?_,nt,fun p H1 sm1 nt1 R=>?_⟩
 ·rw [hrow];intro r hr;refine ⟨?_,fun x hx=>Nat.le_trans (hC.plain r hr x hx).1 (by decide)⟩;rcases List.mem_cons.mp hr with rfl | hr
  ·show (2:Nat) ≤ 1000;decide
  ·obtain ⟨d,hd,rfl⟩:=List.mem_map.mp hr;show (7:Nat) ≤ 1000;decide
 rw [hrow] at R;obtain ⟨qs,hp,hp0,hql,hqa⟩:=R;have hql':qs.length=ds.length + 1:=by rw [hql];simp [li]
 obtain ⟨q0,qr,rfl⟩:∃ q0 qr,qs=q0 :: qr:=by
  cases qs with
  | nil=>simp at hql'
  | cons a b=>exact ⟨a,b,rfl⟩
 obtain ⟨R0,hq0⟩:=hqa 0 q0 _ rfl rfl;walk_at "RD";refine ⟨_,SqL.of hp,_,yb (j:=0) rfl,⟨q0,_,n,rfl,R0,hnn,nt1,fun H2 s2 nt2=>⟨Nat.zero_le _,fun wl hwl=>?_⟩⟩⟩;obtain ⟨C0,dq0,fq0,hins⟩:=R0.ins;have hpq:p ≠ q0:=Aj hp hins (by intro z;cases z);have hp2:H2 p=some (.lst ((q0 :: qr).map V.ref)):=s2 _ _ hpq hp;have swl:ac H2 (upd H2 wl (.lst [])):=gb hwl;have hcut:uC ((q0 :: qr).map V.ref) (some 1) none=qr.map V.ref:=by
  unfold uC;simp [HT.sIx];exact List.take_of_length_le (by rw [List.length_map];exact Nat.le_refl _)
 refine ⟨_,SqL.of (swl _ _ hp2),fun pc hpc=>?_⟩;rw [hcut];have hpw:pc ≠ wl:=fun z=>by subst z;rw [ib] at hpc;cases hpc
 have spc:ac (upd H2 wl (.lst [])) (upd (upd H2 wl (.lst [])) pc (.lst (qr.map V.ref))):=gb hpc;refine ⟨⟨_,SqL.of ib⟩,?_⟩;have sH2:ac H H2:=Vn sm1 s2 hq0;have hqrl:qr.length=ds.length:=by simpa using hql'
 refine Zj.list (xs:=qr.map V.ref) (fun i σ H'=>(∃ x,σ=[some (V.str (yu n ds)),some (V.ref p),some (V.int n),some (V.ref wl),x])∧NoT H'∧ac H H'∧H' pc=some (.lst (qr.map V.ref))∧H wl=none∧yk t H' wl (ds.take i) ∧
  ∀ (j:Nat) (q:Addr) (d:WD),i ≤ j→qr[j]? = some q→ds[j]? = some d→sh t H' q ((j + 1:Nat):Int) (Yi d) 0∧H q=none) ?_ ?_ ?_ ?_
 ·refine ⟨⟨_,rfl⟩,(nt2.upd).upd,(sH2.trans swl).trans spc,ib,sH2.free hwl,⟨[],spc _ _ ib,rfl,fun j a d h=>by simp at h⟩,fun j q d _ h1 h2=>?_⟩;have hr:(li n ds)[j + 1]? = some (Yi d):=by
   unfold li;rw [List.getElem?_cons_succ,List.getElem?_map,h2];rfl
  obtain ⟨Rj,hqj⟩:=hqa (j + 1) q _ (by rw [List.getElem?_cons_succ];exact h1) hr;refine ⟨((Rj.sameX s2 (BM Rj R0 (by omega)) R0.ins).same swl).same spc,hqj⟩
 ·rintro i σ H' hi zzq;refine zzP fun zzM zzh=>?_
  obtain ⟨_,_,_,h,_⟩:=zzq;subst zzh;exact SqL.of h
 ·rintro i v σ H' hv zzq;refine zzP fun zzM zzh=>?_
  obtain ⟨⟨x,rfl⟩,nt',sm',hpc',hwl0,W,Rs⟩:=zzq;obtain ⟨q,hq,rfl⟩:=vg hv;obtain ⟨hi,_⟩:=List.getElem?_eq_some_iff.mp hq;have hid:i < ds.length:=by omega
  have hd:ds[i]? = some ds[i]:=List.getElem?_eq_getElem hid;obtain ⟨Rq,hqn⟩:=Rs i q _ (Nat.le_refl _) hq hd;have htl:(ds.take i).length=i:=by rw [List.length_take];omega
  obtain ⟨as,w1,w2,al⟩:=id W;subst zzh;walk_at "RD";refine Ib false (fun Q hQ=>?_) (fun hc=>nomatch hc) (fun _=>?_)
  ·walk_at "RD";refine ⟨_,.inl (SqL.of w1),?_⟩;rw [List.length_map,w2,htl];rw [decide_eq_false (by omega)] <;> exact hQ
  ·walk_at "RD";refine ⟨.inl ⟨_,SqL.of w1⟩,?_⟩;refine ⟨q,_,n,wl,ds.take i,ds[i],rfl,Rq,hC.al _ (List.getElem_mem hid),hnn,W,by omega,fun e he z=>?_,nt',fun y H3 s3 nt3 w3 hy3=>?_⟩
   ·obtain ⟨j,hj,rfl⟩:=List.getElem_of_mem he;rw [List.getElem_take] at z;have hj':j < i:=by omega
    have:=kF hC.nd (i:=j) (j:=i) (by omega) hid (by rw [xB (List.getElem?_eq_getElem (by omega)),xB hd];exact z);omega
   ·walk_at "RD";obtain ⟨Cq,dq,fq,hqi⟩:=Rq.ins;have hwq:wl ≠ q:=Aj w1 hqi (by intro z;cases z);have hw3:H3 wl=some (.lst (as.map V.ref)):=s3 _ _ hwq w1;have hsm3:ac H H3:=Vn sm' s3 hqn;refine ⟨_,hw3,Nat.lt_of_le_of_lt (show (as.map V.ref).length ≤ 12 by rw [List.length_map];omega) (by decide),?_⟩;have hyw:y ≠ wl:=fun z=>by
     subst z;rw [w1] at hy3;cases hy3
    refine ⟨⟨_,rfl⟩,nt3.upd,fun b u e=>?_,?_,hwl0,⟨as ++ [y],by rw [ib,List.map_append];rfl,?_,fun j a d h1 h2=>?_⟩,fun j q' d hj h1 h2=>?_⟩
    ·rw [Ab (Lb e hwl0)];exact hsm3 _ _ e
    ·rw [Ab hpw];exact s3 _ _ (Aj hpc' hqi (by intro z;cases z)) hpc'
    ·rw [List.length_append,w2,htl,List.length_take];show i + 1=_;omega
    ·by_cases hj:j < as.length
     ·rw [List.getElem?_append_left hj] at h1;have h2':(ds.take i)[j]? = some d:=by
       rw [List.getElem?_take_of_lt (by omega)];rw [List.getElem?_take_of_lt (by omega)] at h2;exact h2
      obtain ⟨hk,dx',e⟩:=al j a d h1 h2';have haq:a ≠ q:=VF ⟨hk,dx',e⟩ Rq;have haw:a ≠ wl:=Aj e w1 (by intro z;cases z);exact ⟨hk,dx',by rw [Ab haw];exact s3 _ _ haq e⟩
     ·rw [List.getElem?_append_right (by omega)] at h1;have hj0:j - as.length=0:=by
       cases hh:j - as.length with
       | zero=>rfl
       | succ m=>rw [hh] at h1;simp at h1
      rw [hj0] at h1;have e3:y=a:=by simpa using h1
      subst e3;have e4:j=i:=by omega
      subst e4;rw [List.getElem?_take_of_lt (by omega),hd] at h2;cases h2;exact ⟨w3.1,w3.2.imp fun dx' e=>by rw [Ab hyw];exact e⟩
    ·obtain ⟨Rj,hqj⟩:=Rs j q' d (by omega) h1 h2;have R3:=Rj.sameX s3 (BM Rj Rq (by omega)) Rq.ins;refine ⟨?_,hqj⟩;obtain ⟨hz,dx',ta,e1,e2⟩:=R3;refine ⟨hz,dx',ta,by rw [Ab (Aj e1 hw3 (by intro z;cases z))];exact e1,?_⟩;rw [Ab (fun z=>by
      subst z;rw [hw3] at e2;have e5:=Option.some.inj e2;injection e5 with e6;cases as with
      | nil=>exact absurd (congrArg List.length e6) (by show ¬ (0:Nat)=7;decide)
      | cons a r=>injection e6 with e7 _;cases e7)]
     exact e2
 ·rintro σ H' zzq;refine zzP fun zzM zzh=>?_
  obtain ⟨⟨x,rfl⟩,nt',sm',hpc',hwl0,W,Rs⟩:=zzq;subst zzh;rw [List.length_map,hqrl,List.take_length] at W;obtain ⟨as,w1,w2,al⟩:=id W;walk_at "RD";refine Ib false (fun Q hQ=>?_) (fun hc=>nomatch hc) (fun _=>?_)
  ·walk_at "RD";refine ⟨true,.inl ⟨_,SqL.of w1,?_⟩,hQ⟩;cases as with
   | nil=>simp at w2;omega
   | cons a r=>rfl
  ·walk_at "RD";intro c dx hc hdx hne;have sc:ac H' (upd (upd H' dx (.own c)) c (.ins t.ic dx [])):=((ac.refl H').updN hdx).updN hc;refine ⟨c,dx,n,wl,ds,rfl,ib,W.same sc,hC.nd,hln.2,(nt'.upd).upd,fun H5 s5 nt5 C5=>⟨rfl,?_⟩⟩;exact qq c H5 (Vn (sm'.trans sc) s5 (sm'.free hc)) nt5 C5
end
end My
namespace My
open PySem L2
theorem Iz {n s p:Int} (h0:0 ≤ s) (h1:s < n) (h2:0 ≤ p) (h3:p < n):(p - s) % n=if s ≤ p then p - s else p - s + n:=by
 split
 ·rename_i h;exact Int.emod_eq_of_lt (by omega) (by omega)
 ·rename_i h;have e:(p - s) % n=(p - s + n) % n:=(Int.add_emod_right ..).symm;rw [e];exact Int.emod_eq_of_lt (by omega) (by omega)
noncomputable def ym (n s f p:Int):Bool:=decide (0 < (p - s) % n) && decide ((p - s) % n < (f - s) % n)
noncomputable def ay (n s f s2 f2:Int):Bool:=decide (f=f2) || (if (s2=s∨s2=f)∨(f2=s∨f2=f) then false else (ym n s f s2 != ym n s f f2))
theorem VH {s f p:Int} (h1:p ≠ s) (h2:p ≠ f) (h3:s ≠ f):((decide (s < f) && decide (f < p) && !decide (s < p)) || (!decide (s < f) && !decide (f < p) && decide (s < p)))=false:=by
 by_cases a:s < f <;> by_cases b:f < p
 ·rw [decide_eq_true a,decide_eq_true b,decide_eq_true (show s < p by omega)];rfl
 ·rw [decide_eq_true a,decide_eq_false b];rfl
 ·rw [decide_eq_false a,decide_eq_true b];rfl
 ·rw [decide_eq_false a,decide_eq_false b,decide_eq_false (show ¬ s < p by omega)];rfl
theorem yB {s p:Int} (h:s ≠ p):decide (p < s) = !decide (s < p):=by
 by_cases a:s < p
 ·rw [decide_eq_true a,decide_eq_false (by omega)];rfl
 ·rw [decide_eq_false a,decide_eq_true (by omega)];rfl
theorem Cv {n s f p:Int} (hs:0 ≤ s∧s < n) (hf:0 ≤ f∧f < n) (hp:0 ≤ p∧p < n) (h1:p ≠ s) (h2:p ≠ f) (h3:s ≠ f):ym n s f p=((decide (s < p) && decide (p < f)) || (decide (p < f) && decide (f < s)) || (decide (f < s) && decide (s < p))):=by
 unfold ym;rw [Iz hs.1 hs.2 hp.1 hp.2,Iz hs.1 hs.2 hf.1 hf.2,decide_eq_true (show 0 < (if s ≤ p then p - s else p - s + n) by split <;> omega),Bool.true_and,yB h3];by_cases a:s < p <;> by_cases b:s < f
 ·rw [if_pos (by omega),if_pos (by omega),decide_eq_true a,decide_eq_true b,show decide (p - s < f - s)=decide (p < f) from decide_eq_decide.mpr (by omega)];cases decide (p < f) <;> rfl
 ·rw [if_pos (by omega),if_neg (by omega),decide_eq_true a,decide_eq_false b,decide_eq_true (show p - s < f - s + n by omega)];cases decide (p < f) <;> rfl
 ·rw [if_neg (by omega),if_pos (by omega),decide_eq_false a,decide_eq_true b,decide_eq_false (show ¬ p - s + n < f - s by omega)];cases decide (p < f) <;> rfl
 ·rw [if_neg (by omega),if_neg (by omega),decide_eq_false a,decide_eq_false b,show decide (p - s + n < f - s + n)=decide (p < f) from decide_eq_decide.mpr (by omega)];cases decide (p < f) <;> rfl
theorem bO:∀ a b c d e g:Bool,((a && d && !b) || (!a && !d && b))=false→((a && e && !c) || (!a && !e && c))=false→((b && g && !c) || (!b && !g && c))=false→((d && g && !e) || (!d && !g && e))=false →
  (((b && !d) || (!d && !a) || (!a && b)) != ((c && !e) || (!e && !a) || (!a && c)))=(((!b && c) || (c && !g) || (!g && !b)) != ((!d && e) || (e && !g) || (!g && !d))):=by decide +kernel
theorem VB {n s f s2 f2:Int} (hs:0 ≤ s∧s < n) (hf:0 ≤ f∧f < n) (hs2:0 ≤ s2∧s2 < n) (hf2:0 ≤ f2∧f2 < n) (hne:s ≠ f) (hne2:s2 ≠ f2):ay n s f s2 f2=ay n s2 f2 s f:=by
 unfold ay;by_cases e:f=f2
 ·rw [decide_eq_true e,decide_eq_true e.symm];rfl
 ·rw [decide_eq_false e,decide_eq_false (Ne.symm e)];by_cases c:(s2=s∨s2=f)∨(f2=s∨f2=f)
  ·have c':(s=s2∨s=f2)∨(f=s2∨f=f2):=by omega
   rw [if_pos c,if_pos c']
  ·have c':¬ ((s=s2∨s=f2)∨(f=s2∨f=f2)):=by omega
   rw [if_neg c,if_neg c'];have n1:s2 ≠ s:=by omega
   have n2:s2 ≠ f:=by omega
   have n3:f2 ≠ s:=by omega
   have n4:f2 ≠ f:=by omega
   rw [Bool.false_or,Bool.false_or,Cv hs hf hs2 n1 n2 hne,Cv hs hf hf2 n3 n4 hne,Cv hs2 hf2 hs n1.symm n3.symm hne2,Cv hs2 hf2 hf n2.symm n4.symm hne2,yB n1.symm,yB n2.symm,yB n4.symm,yB hne,yB hne2];exact bO _ _ _ _ _ _ (VH n1 n2 hne) (VH n3 n4 hne) (VH n3 hne2.symm n1.symm) (VH n4 hne2.symm n2.symm)
noncomputable def aM:List Bool→Nat
 | []=>0
 | b :: r=>(if b then 1 else 0) + 2 * aM r
noncomputable abbrev mt (n:Int) (d e:WD):Bool:=ay n d.start d.fin e.start e.fin
noncomputable def rJ (t:Adr):Sp:=fun vs H Q _=>∃ a d n p,vs=[.int n,.ref a,.int p]∧Ue t H a d∧0 < n∧Q (.bl (ym n d.start d.fin p)) H
noncomputable def tN (n:Int) (d e:WD):Bool:=if (e.start=d.start∨e.start=d.fin)∨(e.fin=d.start∨e.fin=d.fin) then false else (ym n d.start d.fin e.start != ym n d.start d.fin e.fin)
noncomputable def zD (t:Adr):Sp:=fun vs H Q _=>∃ a b d e n,vs=[.int n,.ref a,.ref b]∧Ue t H a d∧Ue t H b e∧0 < n∧NoT H∧Q (.bl (tN n d e)) H
noncomputable def iH (t:Adr):Sp:=fun vs H Q _=>∃ a b d e n,vs=[.int n,.ref a,.ref b]∧Ue t H a d∧Ue t H b e∧0 < n∧∀ H',ac H H'→Q (.bl (tN n d e)) H'
noncomputable def jE (t:Adr):Sp:=fun vs H Q _=>∃ c n ds,∃ i j:Nat,∃ d e,vs=[.ref c,.str d.name,.str e.name]∧xf t H c n ds∧0 < n∧ds[i]? = some d∧ds[j]? = some e∧NoT H∧Q (.bl (mt n d e)) H
section
variable {P:Program} {w:World} {K:PySem.W.Frag} {mg:Str→Option Value} {base:Heap} {t:Adr}
theorem wN (T:Txt w K mg t):Zb P w K mg base CX0 1 t.Op t.Pp q33 (rJ t):=by
 refine T.Tp.ok vx (fun vs H Q E h=>?_) (fun _ _ _ s H vs Q E hr h=>?_)
 ·obtain ⟨a,d,n,p,rfl,_⟩:=h;rfl
 obtain ⟨a,d,n,p,rfl,W,hn,q⟩:=h;refine ⟨_,(db (wb (i:=3) vx.nd (Yb wg (Yb Vh (pv 2) (qc (pv 1) rfl)) (pv 0)))
   (lb (Bb (Om (ld Sm jb (pv 3) (Ub _)) (fm (ld Sm (pv 3) (Yb wg (Yb Vh (qc (pv 1) rfl) (qc (pv 1) rfl)) (pv 0)) (Ub _))))))),?_⟩
 walk_at "RD";refine ⟨_,W.f_start T,_,rfl,hn,?_⟩;unfold ym at q;by_cases c:0 < (p - d.start) % n
 ·rw [if_pos (decide_eq_true c)];rw [decide_eq_true c,Bool.true_and] at q;exact ⟨_,W.f_end T,_,W.f_start T,_,rfl,_,rfl,hn,q⟩
 ·rw [if_neg (by simpa using c)];rw [decide_eq_false c,Bool.false_and] at q;exact q
theorem SN (x a b:Int):inV (.int x) [.int a,.int b]=decide (x=a∨x=b):=by
 unfold inV;simp only [List.any_cons,List.any_nil,eqV,Bool.or_false];rw [Bool.eq_iff_iff];simp only [Bool.or_eq_true,beq_iff_eq,decide_eq_true_eq];omega
theorem WJ (T:Txt w K mg t):Zb P w K mg base CX0 2 t.Sh t.Ph q25 (zD t):=by
 refine Zb.forget (sp:=iH t) ?_ fun vs H Q E h=>?_
 ·have g25:Zb P w K mg base CX0 1 t.Op t.Pp q33 (rJ t):=wN T;refine T.Uk.ok ou (fun vs H Q E h=>?_) (fun _ _ _ s H vs Q E hr h=>?_)
  ·obtain ⟨a,b,d,e,n,rfl,_⟩:=h;rfl
  obtain ⟨a,b,d,e,n,rfl,Wa,Wb,hn,q⟩:=h;refine ⟨_,(db (Dc (PW.pt (Zg (Gb rk (qc (pv 2) rfl) (qh (cb (qc (pv 1) rfl) (cb (qc (pv 1) rfl) fb))) (by with_unfolding_all rfl)) (Bg (Gb rk (qc (pv 2) rfl) (qh (cb (qc (pv 1) rfl) (cb (qc (pv 1) rfl) fb))) (by with_unfolding_all rfl))))) (lb (Bb Xf)) Ob)
   (lb (Bb (ld Vs (qb g25 hr T.FA T.Tp.kp T.Ty (cb (pv 0) (cb (pv 1) (cb (qc (pv 2) rfl) fb)))) (qb g25 hr T.FA T.Tp.kp T.Ty (cb (pv 0) (cb (pv 1) (cb (qc (pv 2) rfl) fb)))) (Ub _))))),?_⟩
  walk_at "RD";refine og (fun b H'=>ac H H'∧b=decide ((e.start=d.start∨e.start=d.fin)∨(e.fin=d.start∨e.fin=d.fin))) (fun Q hQ=>?_) (fun H' ⟨sm,hb⟩=>?_) (fun H' ⟨sm,hb⟩=>?_)
  ·walk_at "RD";refine ⟨_,Wb.f_start T,_,Wa.f_start T,_,Wa.f_end T,by decide,fun p hp=>⟨_,.inl (SqL.of ib),rfl,rfl,?_⟩⟩;have s1:ac H (upd H p (.lst [.int d.start,.int d.fin])):=gb hp;rw [SN];by_cases c1:e.start=d.start∨e.start=d.fin
   ·rw [if_pos (decide_eq_true c1)];exact hQ _ _ ⟨s1,(decide_eq_true (.inl c1)).symm⟩
   ·rw [if_neg (by simpa using c1)];refine ⟨_,(Wb.same s1).f_end T,_,(Wa.same s1).f_start T,_,(Wa.same s1).f_end T,by decide,fun p2 hp2=>⟨_,.inl (SqL.of ib),rfl,rfl,?_⟩⟩;rw [SN];refine hQ _ _ ⟨s1.trans (gb hp2),?_⟩;rw [Bool.eq_iff_iff,decide_eq_true_eq,decide_eq_true_eq];exact ⟨.inr,fun z=>z.resolve_left c1⟩
  ·walk_at "RD";have hb':=of_decide_eq_true hb.symm;have:=q H' sm;unfold tN at this;rw [if_pos hb'] at this;exact this
  ·walk_at "RD";have hb':=of_decide_eq_false hb.symm;refine ⟨_,(Wb.same sm).f_start T,⟨a,d,n,_,rfl,Wa.same sm,hn,?_⟩⟩;refine ⟨_,(Wb.same sm).f_end T,⟨a,d,n,_,rfl,Wa.same sm,hn,?_⟩⟩;refine ⟨rfl,?_⟩;have:=q H' sm;unfold tN at this;rw [if_neg hb'] at this;rw [show (!decide (V.bl (ym n d.start d.fin e.start)=V.bl (ym n d.start d.fin e.fin)))=(ym n d.start d.fin e.start != ym n d.start d.fin e.fin) by
    cases ym n d.start d.fin e.start <;> cases ym n d.start d.fin e.fin <;> rfl]
   exact this
 ·obtain ⟨a,b,d,e,n,h1,h2,h3,h4,nt,q⟩:=h;exact ⟨nt,a,b,d,e,n,h1,h2,h3,h4,fun H' sm=>⟨sm,q⟩⟩
theorem kO (n:Int) (d e:WD):mt n d e=(decide (d.fin=e.fin) || tN n d e):=rfl
theorem qL (T:Txt w K mg t):Zb P w K mg base CX0 3 t.kA t.tz q10 (jE t):=by
 have g10:Zb P w K mg base CX0 2 t.Kc t.bd q8 (Xm t):=Dr T;have g46:Zb P w K mg base CX0 2 t.Sh t.Ph q25 (zD t):=WJ T;refine T.dE.ok ny (fun vs H Q E h=>?_) (fun _ _ _ s H vs Q E hr h=>?_)
 ·obtain ⟨c,n,ds,i,j,d,e,rfl,_⟩:=h;rfl
 obtain ⟨c,n,ds,i,j,d,e,rfl,C,hn,hd,he,nt,q⟩:=h;obtain ⟨_,dx,wl,nd,e1,e2,e3⟩:=id C;refine ⟨_,(db (wb (i:=3) ny.nd (Fe (pv 0) T.Rc T.Nd g10 hr T.Td .nil ye (cb (pv 1) fb)))
   (db (wb (i:=4) ny.nd (Fe (pv 0) T.Rc T.Nd g10 hr T.Td .nil ye (cb (pv 2) fb)))
   (lb (Bb (OJ (ld Of (qc (pv 3) rfl) (qc (pv 4) rfl) (Ub _)) (fm (qb g46 hr T.yx T.Uk.kp T.Ax (cb (qc (pv 0) rfl) (cb (pv 3) (cb (pv 4) fb)))))))))),?_⟩
 rw [kO] at q;walk_at "RD";refine ⟨_,_,e1,GL _ _ _ (by decide +kernel),⟨c,n,ds,i,d,rfl,C,hd,fun a Wa=>?_⟩⟩;walk_at "RD";refine ⟨_,_,e1,GL _ _ _ (by decide +kernel),⟨c,n,ds,j,e,rfl,C,he,fun b Wb=>?_⟩⟩;walk_at "RD";refine ⟨_,Wa.f_end T,_,Wb.f_end T,rfl,?_⟩;walk_at "RD";by_cases c1:d.fin=e.fin
 ·rw [if_pos (decide_eq_true c1)];rw [decide_eq_true c1,Bool.true_or] at q;exact q
 ·rw [if_neg (by simpa using c1)];rw [decide_eq_false c1,Bool.false_or] at q;exact ⟨_,NH T e1,⟨a,b,d,e,n,rfl,Wa,Wb,hn,nt,q⟩⟩
end
noncomputable def eJ (t:Adr):Sp:=fun vs H Q _=>∃ c n ds,∃ i j:Nat,∃ d e,vs=[.ref c,.str d.name,.str e.name]∧xf t H c n ds∧ds[i]? = some d∧ds[j]? = some e∧Q (.int (if d.off - e.near > 0 then d.off - e.near else 0)) H
section
variable {P:Program} {w:World} {K:PySem.W.Frag} {mg:Str→Option Value} {base:Heap} {t:Adr}
theorem FN (T:Txt w K mg t):Zb P w K mg base CX0 3 t.lI t.dI q10 (eJ t):=by
 have g10:Zb P w K mg base CX0 2 t.Kc t.bd q8 (Xm t):=Dr T;refine T.wK.ok jG (fun vs H Q E h=>?_) (fun _ _ _ s H vs Q E hr h=>?_)
 ·obtain ⟨c,n,ds,i,j,d,e,rfl,_⟩:=h;rfl
 obtain ⟨c,n,ds,i,j,d,e,rfl,C,hd,he,q⟩:=h;obtain ⟨_,dx,wl,nd,e1,e2,e3⟩:=id C;refine ⟨_,(db (wb (i:=3) jG.nd (Fe (pv 0) T.Rc T.Nd g10 hr T.Td .nil ye (cb (pv 1) fb)))
   (db (wb (i:=4) jG.nd (Fe (pv 0) T.Rc T.Nd g10 hr T.Td .nil ye (cb (pv 2) fb)))
   (lb (Bb (Kb (Nr rfl) rfl T.JG Do (cb jb (cb (Yb Vh (qc (pv 3) rfl) (qc (pv 4) rfl)) fb))))))),?_⟩
 walk_at "RD";refine ⟨_,_,e1,GL _ _ _ (by decide +kernel),⟨c,n,ds,i,d,rfl,C,hd,fun a Wa=>?_⟩⟩;walk_at "RD";refine ⟨_,_,e1,GL _ _ _ (by decide +kernel),⟨c,n,ds,j,e,rfl,C,he,fun b Wb=>?_⟩⟩;walk_at "RD";refine ⟨_,Wa.f_off T,_,Wb.f_near T,?_⟩;walk_at "RD";exact q
end
end My
namespace My
open PySem L2
theorem Hg {α:Type} {l:List α} {a x:α} {i:Nat} (h:(l ++ [a])[i]? = some x):(i < l.length∧l[i]? = some x)∨(i=l.length∧x=a):=by
 by_cases hi:i < l.length
 ·rw [List.getElem?_append_left hi] at h;exact .inl ⟨hi,h⟩
 ·rw [List.getElem?_append_right (by omega)] at h;have h0:i - l.length=0:=by
   cases hh:i - l.length with
   | zero=>rfl
   | succ m=>rw [hh] at h;simp at h
  rw [h0] at h;exact .inr ⟨by omega,(by simpa using h:a=x).symm⟩
noncomputable def iu (H:Hp) (wl:Addr) (ws:List (WD × Int)):Prop:=∃ qs:List Addr,H wl=some (.lst (qs.map V.ref))∧qs.length=ws.length∧∀ (i:Nat) (q:Addr) (p:WD × Int),qs[i]? = some q→ws[i]? = some p→H q=some (.tup [.str p.1.name,.int p.2])
noncomputable def mf (i j:Nat):List Key:=[Sum.inl (i:Int),Sum.inl (j:Int)]
noncomputable def xC (d e:WD):Int:=if d.off - e.near > 0 then d.off - e.near else 0
noncomputable def fj (n:Int) (ws:List (WD × Int)) (i m:Nat):List (List Key × V):=
 (List.range m).filterMap fun j=>match ws[i]?,ws[j]? with
  | some p,some q=>if i ≠ j∧mt n p.1 q.1=true then some (mf i j,V.int (p.2 + xC p.1 q.1)) else none
  | _,_=>none
noncomputable def Pf (n:Int) (ws:List (WD × Int)) (i:Nat):List (List Key × V):=(List.range i).flatMap fun k=>fj n ws k ws.length
theorem gC (n:Int) (ws:List (WD × Int)) (i:Nat):fj n ws i 0=[]:=rfl
theorem lv {n:Int} {ws:List (WD × Int)} {i m:Nat} {p q:WD × Int} (hi:ws[i]? = some p) (hm:ws[m]? = some q) (h:¬ (i ≠ m∧mt n p.1 q.1=true)):fj n ws i (m + 1)=fj n ws i m:=by
 unfold fj;rw [List.range_succ,List.filterMap_append];simp only [List.filterMap_cons,List.filterMap_nil,hi,hm,if_neg h,List.append_nil]
theorem Uw {n:Int} {ws:List (WD × Int)} {i m:Nat} {p q:WD × Int} (hi:ws[i]? = some p) (hm:ws[m]? = some q) (h:i ≠ m∧mt n p.1 q.1=true):fj n ws i (m + 1)=fj n ws i m ++ [(mf i m,V.int (p.2 + xC p.1 q.1))]:=by
 unfold fj;rw [List.range_succ,List.filterMap_append];simp only [List.filterMap_cons,List.filterMap_nil,hi,hm,if_pos h]
theorem jt (n:Int) (ws:List (WD × Int)) (i:Nat):Pf n ws (i + 1)=Pf n ws i ++ fj n ws i ws.length:=by
 unfold Pf;rw [List.range_succ,List.flatMap_append];simp
theorem Oq {n:Int} {ws:List (WD × Int)} {i m:Nat} {x:List Key × V} (h:x ∈ fj n ws i m):∃ j p q,j < m∧ws[i]? = some p∧ws[j]? = some q∧i ≠ j∧mt n p.1 q.1=true∧x=(mf i j,V.int (p.2 + xC p.1 q.1)):=by
 unfold fj at h;obtain ⟨j,hj,e⟩:=List.mem_filterMap.mp h;have hj':=List.mem_range.mp hj;cases hp:ws[i]? with
 | none=>simp [hp] at e
 | some p=>
  cases hq:ws[j]? with
  | none=>simp [hp,hq] at e
  | some q=>
   simp only [hp,hq] at e;split at e
   ·rename_i c;exact ⟨j,p,q,hj',rfl,hq,c.1,c.2,(Option.some.inj e).symm⟩
   ·cases e
theorem mw {n:Int} {ws:List (WD × Int)} {i:Nat} {x:List Key × V} (h:x ∈ Pf n ws i):∃ k,k < i∧x ∈ fj n ws k ws.length:=by
 unfold Pf at h;obtain ⟨k,hk,e⟩:=List.mem_flatMap.mp h;exact ⟨k,List.mem_range.mp hk,e⟩
theorem Oi {i j i' j':Nat} (h:mf i j=mf i' j'):i=i'∧j=j':=by
 unfold mf at h;simp only [List.cons.injEq,Sum.inl.injEq,and_true] at h;omega
theorem kt {kvs:List (List Key × V)} {k:List Key} {v:V} (h:∀ x ∈ kvs,x.1 ≠ k):Wq kvs k v=kvs ++ [(k,v)]:=by
 unfold Wq;rw [if_neg];intro z;obtain ⟨x,hx,e⟩:=List.any_eq_true.mp z;exact h x hx (of_decide_eq_true e)
theorem fH {n:Int} {ws:List (WD × Int)} {i m:Nat} {p q:WD × Int} (hi:ws[i]? = some p) (hm:ws[m]? = some q) (h:i ≠ m∧mt n p.1 q.1=true) :
  Wq (Pf n ws i ++ fj n ws i m) (mf i m) (V.int (p.2 + xC p.1 q.1))=Pf n ws i ++ fj n ws i (m + 1):=by
 rw [Uw hi hm h,kt,List.append_assoc];intro x hx e;rcases List.mem_append.mp hx with z | z
 ·obtain ⟨k,hk,z⟩:=mw z;obtain ⟨j,p',q',_,_,_,_,_,rfl⟩:=Oq z;have:=Oi e;omega
 ·obtain ⟨j,p',q',hj,_,_,_,_,rfl⟩:=Oq z;have:=Oi e;omega
theorem sw (n:Int) (ws:List (WD × Int)) (i m:Nat):(fj n ws i m).length ≤ m:=by
 unfold fj;exact Nat.le_trans (List.length_filterMap_le _ _) (by simp)
theorem Aw (n:Int) (ws:List (WD × Int)) (i:Nat):(Pf n ws i).length ≤ i * ws.length:=by
 induction i with
 | zero=>simp [Pf]
 | succ i ih=>
  rw [jt,List.length_append,Nat.succ_mul];have:=sw n ws i ws.length;omega
noncomputable def Qc (p:WD × Int):Int:=p.2 + cn p.1 + ji p.1
noncomputable def qm (m:Int) (al sd:Addr):List (Str × V):=[(Str.ofString "many",.int m),(Str.ofString "alones",.ref al),(Str.ofString "steps",.ref sd)]
theorem OI {d:WD} {m:Str} (h:Us.contains m=false):(Rr d).lookup m=none:=Wm Us (yt _) h
theorem OD {P:Program} {w:World} {K:PySem.W.Frag} {mg:Str→Option Value} {base:Heap} {CX:CXT} {j k:Nat} {OK:Addr→Prop} {m:Str} {ps:List Str} {SPV:Addr→Sp} (V:eL P w K mg base CX j OK m ps SPV) (h:j ≤ k):eL P w K mg base CX k OK m ps SPV:=⟨fun C hC=>by
 obtain ⟨f,fd,h1,h2,h3,h4⟩:=V.ok C hC;exact ⟨f,fd,h1,h2,h3.mono h,h4⟩⟩
theorem Mw {H:Hp} {p b C D dx dy:Addr} {x:Str × V} {fs:List (Str × V)} (hp:H p=some (.ins C dx [])) (hb:H b=some (.ins D dy (x :: fs))):b ≠ p:=fun z=>by
 subst z;rw [hp] at hb;cases hb
theorem CN {t:Adr} {H H':Hp} {p a C dx:Addr} {d:WD} (hp:H p=some (.ins C dx [])) (sx:qe p H H') (h:Ue t H a d):Ue t H' a d:=by
 obtain ⟨h1,dy,e⟩:=h;exact ⟨h1,dy,sx _ _ (Mw hp e) e⟩
theorem RE {t:Adr} {H H':Hp} {p c C dx:Addr} {n:Int} {ds:List WD} (hp:H p=some (.ins C dx [])) (sx:qe p H H') (h:xf t H c n ds):xf t H' c n ds:=by
 obtain ⟨h0,dy,wl,nd,e1,⟨as,w1,w2,w3⟩,e3⟩:=h;exact ⟨h0,dy,wl,nd,sx _ _ (Mw hp e1) e1,⟨as,sx _ _ (Aj w1 hp (by intro z;cases z)) w1,w2,fun i a d h1 h2=>CN hp sx (w3 i a d h1 h2)⟩,sx _ _ (Aj e3 hp (by intro z;cases z)) e3⟩
theorem GH {K:PySem.W.Frag} {a b:Addr} {xs ys:List V} {g:TG} {σb:St} {H:Hp} {tc:TT} {te:TE} {Q:VK} (Pv:Nat→List V→Hp→Prop) (n:Nat) (hn:n=min xs.length ys.length) (hz:n ≤ sizeLine) (h0:Pv 0 [] H) (hl:∀ i zs H,i ≤ n→Pv i zs H→(SqL K H a xs∧SqL K H b ys)∧zs.length ≤ i)
  (hs:∀ i x y zs H p,xs[i]? = some x→ys[i]? = some y→Pv i zs H→H p=none→jg Pv g tc te σb i (.ref p) zs (upd H p (.tup [x,y]))) (hd:∀ zs H,Pv n zs H→∀ p,H p=none→Q (.ref p) (upd H p (.lst zs))):gd (Itz K a b) g tc te σb Q H:=by
 refine gd.of (n:=n) Pv hz h0 (fun i zs H hi p=>?_) (fun zs H p=>?_) (fun i zs H hi p=>(hl i zs H (Nat.le_of_lt hi) p).2) (fun i zs H v H' hi p y=>?_) hd
 ·obtain ⟨⟨z1,z2⟩,_⟩:=hl i zs H (Nat.le_of_lt hi) p;exact ⟨xs,ys,xs[i],ys[i],z1,z2,by rw [List.getElem?_eq_getElem (by omega)],by rw [List.getElem?_eq_getElem (by omega)]⟩
 ·obtain ⟨⟨z1,z2⟩,_⟩:=hl n zs H (Nat.le_refl _) p;exact ⟨xs,ys,z1,z2,by omega⟩
 ·obtain ⟨q,x,y,hq,rfl,hx,hy,rfl⟩:=y;obtain ⟨⟨z1,z2⟩,_⟩:=hl i zs H (Nat.le_of_lt hi) p;exact hs i x y zs H q (hx xs z1) (hy ys z2) p hq
section
variable (P:Program) (w:World)
noncomputable def Dd (t:Adr) (H:Hp) (p:Addr) (n:Int) (ws:List (WD × Int)):Prop:=∃ dx al sd,H p=some (.ins t.bc dx (qm ws.length al sd))∧H al=some (.lst (ws.map fun p=>V.int (Qc p)))∧Hm P w H sd (Pf n ws ws.length)
noncomputable def fz (t:Adr):Sp:=fun vs H Q _=>∃ p dx c wl n ds ws,vs=[.ref p,.ref c,.ref wl]∧H p=some (.ins t.bc dx [])∧xf t H c n ds∧0 < n∧iu H wl ws∧(∀ q ∈ ws,∃ i:Nat,ds[i]? = some q.1)∧ws.length ≤ 20∧(∀ q ∈ ws,0 ≤ q.2∧q.2 ≤ 100000)∧NoT H ∧
 ∀ H',qe p H H'→NoT H'→Dd P w t H' p n ws→Q .non H'
end
noncomputable def Qp:List Str:=[Str.ofString "many",Str.ofString "alones",Str.ofString "steps"]
theorem Yn (m:Int) (al sd:Addr):(qm m al sd).map (·.1)=Qp:=rfl
section
variable {P:Program} {w:World} {K:PySem.W.Frag} {mg:Str→Option Value} {base:Heap} {t:Adr}
theorem Pe (T:Txt w K mg t) {H:Hp} {p dx al sd:Addr} {m:Int} (e:H p=some (.ins t.bc dx (qm m al sd))):Rl K H p (Str.ofString "steps") (.ref sd):=⟨_,dx,_,e,T.Hi,T.jk,Ee Qp 2 (Yn ..) (by decide +kernel) rfl⟩
theorem Nq (T:Txt w K mg t) {H:Hp} {p dx al sd:Addr} {m:Int} (e:H p=some (.ins t.bc dx (qm m al sd))):Rl K H p (Str.ofString "alones") (.ref al):=⟨_,dx,_,e,T.Hi,T.Oj,Ee Qp 1 (Yn ..) (by decide +kernel) rfl⟩
theorem bI (T:Txt w K mg t):Zb P w K mg base CX0 4 t.tf t.mh q49 (fz P w t):=by
 have g10:Zb P w K mg base CX0 3 t.Kc t.bd q8 (Xm t):=(Dr T).mono (by decide);have V_Way_ready:eL P w K mg base CX0 3 (isW t) "ready" ["self"] (ck t):=OD (pK T) (by decide);have V_Way_fade:eL P w K mg base CX0 3 (isW t) "fade" ["self"] (On t):=OD (xM T) (by decide);have g47:Zb P w K mg base CX0 3 t.kA t.tz q10 (jE t):=qL T;have g48:Zb P w K mg base CX0 3 t.lI t.dI q10 (eJ t):=FN T;refine T.Nn.ok Pc (fun vs H Q E h=>?_) (fun _ _ _ s H vs Q E hr h=>?_)
 ·obtain ⟨p,dx,c,wl,n,ds,ws,rfl,_⟩:=h;rfl
 obtain ⟨p,dx,c,wl,n,ds,ws,rfl,hp,C,hn,W,hds,hlen,hb,nt,q⟩:=h;have hu:=om hr;refine ⟨_,(db (cj (i:=3) Pc.nd rfl (Or.inl rfl) rfl (Eg (pv 2)) (Ec (sc:=ub Sg) rfl (by decide +kernel)) (N:=q56) (sel:=[none,none,some 1]) (kd (M:=q54) (by decide +kernel)) (Blk.of (fun _ _ _ _=>(uf (K:=K) (n:=2) rfl rfl (lc (Eb (i:=0) (Bi (N:=q56) (by decide +kernel) rfl)) (lc (Eb (i:=1) (Bi (N:=q56) (by decide +kernel) rfl)) Df)))) (fun _ _ _ _=>⟨_,Kg,by walk_at "B"⟩) (fun _ _ _ _=>⟨_,(Fe (pv 2) T.Rc T.Nd g10 hr T.Td .nil ye (cb (pv 0) fb)),by walk_at "B"⟩)) rfl)
   (db (Pg (pv 0) (Kb Fb rfl T.ff Nb (cb (pv 2) fb)) rfl)
   (db (Pg (pv 0) (Yf rfl (gM rfl T.QO (cb (pv 2) (cb (pv 3) fb))) (Ec (sc:=ub Sg) rfl (by decide +kernel)) (N:=["want","way"]) (sel:=[none,none]) (kd (M:=q54) (by decide +kernel)) (Blk.of (fun _ _ _ _=>(uf (K:=K) (n:=2) rfl rfl (lc (Eb (i:=0) (Bi (N:=["want","way"]) (by decide +kernel) rfl)) (lc (Eb (i:=1) (Bi (N:=["want","way"]) (by decide +kernel) rfl)) Df)))) (fun _ _ _ _=>⟨_,Kg,by walk_at "B"⟩) (fun _ _ _ _=>⟨_,(Yb wc (Yb wc (Db Vb (pv 0) jb) (Bx (pv 1) V_Way_fade hr ye)) (Bx (pv 1) V_Way_ready hr ye)),by walk_at "B"⟩))) rfl)
   (db (Pg (pv 0) yF rfl)
   (lb (cf PassesOwn.never rfl (Hq rfl T.Sf (cb (pv 2) fb)) (uf (K:=K) (n:=2) rfl rfl (lc (Eb (i:=4) Pc.nd) (lc (Eb (i:=5) Pc.nd) Df))) (lb (cf PassesOwn.never rfl (Hq rfl T.Sf (cb (pv 2) fb)) (uf (K:=K) (n:=2) rfl rfl (lc (Eb (i:=6) Pc.nd) (lc (Eb (i:=7) Pc.nd) Df))) (lb (Dc (PW.pt (Kz (Gb Vs (pv 4) (pv 6) (Ub _)) (Ku (pe (qb g47 hr T.jM T.dE.kp T.JL (cb (pv 1) (cb (Db Vb (pv 5) jb) (cb (Db Vb (pv 7) jb) fb)))))))) (lb (my hu (qc (pv 0) rfl) (Nc (cb (pv 4) (cb (pv 6) fb))) (Yb wc (Db Vb (pv 5) jb) (qb g48 hr T.NO T.wK.kp T.EO (cb (pv 1) (cb (Db Vb (pv 5) jb) (cb (Db Vb (pv 7) jb) fb))))) rfl)) Ob)))))))))),?_⟩
 obtain ⟨qs,w1,w2,al⟩:=id W;have hql:(qs.map V.ref).length ≤ sizeLine:=Nat.le_trans (show (qs.map V.ref).length ≤ 20 by rw [List.length_map,w2];exact hlen) (by decide);obtain ⟨_,dxc,wlc,ndc,ec1,ec2,ec3⟩:=id C;walk_at "RD";refine ⟨⟨_,SqL.of w1⟩,?_⟩;refine gd.list (xs:=qs.map V.ref) (fun i ys H'=>H'=H∧∃ as:List Addr,ys=as.map V.ref∧as.length=i∧∀ (j:Nat) (a:Addr) (q:WD × Int),as[j]? = some a→ws[j]? = some q→Ue t H a q.1) hql ⟨rfl,[],rfl,rfl,fun j a q h=>by simp at h⟩ (fun i ys H' _ ⟨e,as,e1,e2,_⟩=>by subst e e1;exact ⟨SqL.of w1,by rw [List.length_map,e2];exact Nat.le_refl _⟩) ?_ ?_
 ·rintro i x ys H' hx ⟨rfl,as,rfl,e2,e3⟩ N hN;obtain ⟨qi,hqi,rfl⟩:=vg hx;have hi:i < ws.length:=by rw [← w2];exact (List.getElem?_eq_some_iff.mp hqi).1
  have hwi:ws[i]? = some ws[i]:=List.getElem?_eq_getElem hi;have hq:=al i qi _ hqi hwi;obtain ⟨k,hk⟩:=hds _ (List.mem_of_getElem? hwi);refine vn (SqT.of hq) ?_;walk_at "RD";refine ⟨Sub.name2,_,_,ec1,GL _ _ _ (by decide +kernel),⟨c,n,ds,k,_,rfl,C,hk,fun a Wa=>?_⟩⟩;show N (as.map V.ref ++ [V.ref a]) H';rw [show as.map V.ref ++ [V.ref a]=(as ++ [a]).map V.ref by rw [List.map_append];rfl];refine hN _ _ ⟨rfl,as ++ [a],rfl,by rw [List.length_append,e2];rfl,fun j b q h1 h2=>?_⟩;rcases Hg h1 with z | z
  ·exact e3 j b q z.2 h2
  ·obtain ⟨z1,rfl⟩:=z;rw [z1,e2,hwi] at h2;cases h2;exact Wa
 ·rintro ys H' ⟨rfl,as,rfl,e2,e3⟩ pw hpw;rw [List.length_map,w2] at e2;walk_at "RD";have s1:ac H' (upd H' pw (.lst (as.map V.ref))):=gb hpw;have hpp:pw ≠ p:=fun z=>by subst z;rw [hp] at hpw;cases hpw
  refine ⟨_,.inl (SqL.of (s1 _ _ w1)),_,_,_,s1 _ _ hp,T.Hi,T.Tl,by decide,?_⟩;have sx2:qe p H' (upd (upd H' pw (.lst (as.map V.ref))) p (.ins t.bc dx [(Str.ofString "many",V.int (ws.length:Int))])):=fun b u hb e=>by rw [Ab hb];exact s1 _ _ e
  have e2p:(upd (upd H' pw (.lst (as.map V.ref))) p (.ins t.bc dx [(Str.ofString "many",V.int (ws.length:Int))])) p=some (.ins t.bc dx [(Str.ofString "many",V.int (ws.length:Int))]):=ib;have e2w:(upd (upd H' pw (.lst (as.map V.ref))) p (.ins t.bc dx [(Str.ofString "many",V.int (ws.length:Int))])) pw=some (.lst (as.map V.ref)):=by rw [Ab hpp];exact ib
  have nt2:NoT (upd (upd H' pw (.lst (as.map V.ref))) p (.ins t.bc dx [(Str.ofString "many",V.int (ws.length:Int))])):=(nt.upd).upd;rw [show sj (Str.ofString "many") (V.int ((qs.map V.ref).length:Int)) ([]:List (Str × V))=[(Str.ofString "many",V.int (ws.length:Int))] by rw [List.length_map,w2];rfl];generalize upd (upd H' pw (.lst (as.map V.ref))) p (.ins t.bc dx [(Str.ofString "many",V.int (ws.length:Int))])=H2 at sx2 e2p e2w nt2 ⊢;have wl2:H2 wl=some (.lst (qs.map V.ref)):=sx2 _ _ (Aj w1 hp (by intro z;cases z)) w1;refine ⟨⟨_,SqL.of wl2⟩,⟨_,SqL.of e2w⟩,?_⟩;refine GH (xs:=qs.map V.ref) (ys:=as.map V.ref) (fun i zs H3=>ac H2 H3∧NoT H3∧zs=(ws.take i).map fun p=>V.int (Qc p)) ws.length (by rw [List.length_map,List.length_map,w2,e2];simp) (Nat.le_trans hlen (by decide)) ⟨ac.refl _,nt2,rfl⟩ (fun i zs H3 hi ⟨sm,_,e⟩=>⟨⟨(SqL.of wl2).same sm,(SqL.of e2w).same sm⟩,by rw [e,List.length_map,List.length_take];omega⟩) ?_ ?_
  ·rintro i x y zs H3 r hx hy ⟨sm,nt3,rfl⟩ hr3 N hN;obtain ⟨qi,hqi,rfl⟩:=vg hx;obtain ⟨ai,hai,rfl⟩:=vg hy;have hi:i < ws.length:=by rw [← w2];exact (List.getElem?_eq_some_iff.mp hqi).1
   have hwi:ws[i]? = some ws[i]:=List.getElem?_eq_getElem hi;have hq:H2 qi=some (.tup [.str ws[i].1.name,.int ws[i].2]):=sx2 _ _ (Aj (al i qi _ hqi hwi) hp (by intro z;cases z)) (al i qi _ hqi hwi);have Wa:Ue t H3 ai ws[i].1:=(CN hp sx2 (e3 i ai _ hai hwi)).same sm;have sm4:ac H3 (upd H3 r (.tup [.ref qi,.ref ai])):=gb hr3;have Wb:=Wa.same sm4;refine xh ?_;walk_at "RD";obtain ⟨dk,dxw,hway⟩:=id Wb;refine ⟨Sub.name2,_,SqT.of (sm4 _ _ (sm _ _ hq)),_,yb (j:=1) rfl,_,_,_,hway,⟨_,dk,rfl⟩,OI (by decide +kernel),_,_,rfl,Wb,rfl,_,rfl,_,rfl,_,_,_,hway,⟨_,dk,rfl⟩,OI (by decide +kernel),_,_,rfl,Wb,rfl,_,rfl,?_⟩;refine hN _ _ ⟨sm.trans sm4,nt3.upd,?_⟩;rw [List.take_add_one,hwi,List.map_append];rfl
  ·rintro zs H3 ⟨sm,nt3,rfl⟩ pa hpa;rw [List.take_length];walk_at "RD";have s4:ac H3 (upd H3 pa (.lst (ws.map fun p=>V.int (Qc p)))):=gb hpa;have hpap:pa ≠ p:=fun z=>by subst z;rw [sm _ _ e2p] at hpa;cases hpa
   refine ⟨_,_,_,s4 _ _ (sm _ _ e2p),T.Hi,T.Oj,(show (1:Nat) < 1000 by decide),fun sd o hsd hD=>?_⟩;rw [show sj (Str.ofString "alones") (V.ref pa) [(Str.ofString "many",V.int (ws.length:Int))]=[(Str.ofString "many",V.int (ws.length:Int)),(Str.ofString "alones",V.ref pa)] from je [Str.ofString "many"] rfl (by decide +kernel)] at hsd hD ⊢;have hsp:sd ≠ p:=fun z=>by subst z;rw [ib] at hsd;cases hsd
   have hsn:H3 sd=none:=by
    rw [Ab hsp] at hsd;by_cases z:sd=pa
    ·subst z;exact hpa
    ·rw [Ab z] at hsd;exact hsd
   have hsa:sd ≠ pa:=fun z=>by subst z;rw [Ab hsp,ib] at hsd;cases hsd
   refine ⟨t.bc,dx,[(Str.ofString "many",V.int (ws.length:Int)),(Str.ofString "alones",V.ref pa)],by rw [Ab (Ne.symm hsp)];exact ib,T.Hi,T.jk,show (2:Nat) < 1000 by decide,?_⟩;rw [show sj (Str.ofString "steps") (V.ref sd) [(Str.ofString "many",V.int (ws.length:Int)),(Str.ofString "alones",V.ref pa)]=qm ws.length pa sd from je [Str.ofString "many",Str.ofString "alones"] rfl (by decide +kernel)];have sx7:qe p H' (upd (upd (upd (upd H3 pa (.lst (ws.map fun p=>V.int (Qc p)))) p (.ins t.bc dx [(Str.ofString "many",V.int (ws.length:Int)),(Str.ofString "alones",V.ref pa)])) sd (.ext (AtO sd o))) p (.ins t.bc dx (qm ws.length pa sd))):=fun b u hb e=>by
    have e4:=sm _ _ (sx2 _ _ hb e);rw [Ab hb,Ab (Lb e4 hsn),Ab hb];exact s4 _ _ e4
   have e7p:(upd (upd (upd (upd H3 pa (.lst (ws.map fun p=>V.int (Qc p)))) p (.ins t.bc dx [(Str.ofString "many",V.int (ws.length:Int)),(Str.ofString "alones",V.ref pa)])) sd (.ext (AtO sd o))) p (.ins t.bc dx (qm ws.length pa sd))) p=some (.ins t.bc dx (qm ws.length pa sd)):=ib;have e7a:(upd (upd (upd (upd H3 pa (.lst (ws.map fun p=>V.int (Qc p)))) p (.ins t.bc dx [(Str.ofString "many",V.int (ws.length:Int)),(Str.ofString "alones",V.ref pa)])) sd (.ext (AtO sd o))) p (.ins t.bc dx (qm ws.length pa sd))) pa=some (.lst (ws.map fun p=>V.int (Qc p))):=by
    rw [Ab hpap,Ab (Ne.symm hsa),Ab hpap];exact ib
   have nt7:NoT (upd (upd (upd (upd H3 pa (.lst (ws.map fun p=>V.int (Qc p)))) p (.ins t.bc dx [(Str.ofString "many",V.int (ws.length:Int)),(Str.ofString "alones",V.ref pa)])) sd (.ext (AtO sd o))) p (.ins t.bc dx (qm ws.length pa sd))):=(((nt3.upd).upd).upd).upd;have D7:=VG (u:=.ins t.bc dx (qm ws.length pa sd)) hD (Ne.symm hsp) (fun xs z=>by rw [Ab (Ne.symm hsp),ib] at z;cases z);generalize upd (upd (upd (upd H3 pa (.lst (ws.map fun p=>V.int (Qc p)))) p (.ins t.bc dx [(Str.ofString "many",V.int (ws.length:Int)),(Str.ofString "alones",V.ref pa)])) sd (.ext (AtO sd o))) p (.ins t.bc dx (qm ws.length pa sd))=H7 at sx7 e7p e7a nt7 D7 ⊢;have hwp:wl ≠ p:=Aj w1 hp (by intro z;cases z);have hpsn:H' sd=none:=by
    cases e:H' sd with
    | none=>rfl
    | some u=>
     have:=sm _ _ (sx2 _ _ hsp e);rw [hsn] at this;cases this
   refine ⟨⟨_,SqL.of (sx7 _ _ hwp w1)⟩,?_⟩;refine Zj.enum (xs:=qs.map V.ref) (fun i σ H8=>(∃ a b c' d,σ=[some (V.ref p),some (V.ref c),some (V.ref wl),some (V.ref pw),a,b,c',d])∧qe p H' H8∧NoT H8∧H8 p=some (.ins t.bc dx (qm ws.length pa sd))∧H8 pa=some (.lst (ws.map fun p=>V.int (Qc p)))∧Hm P w H8 sd (Pf n ws i)) ?_ ?_ ?_ ?_
   ·exact ⟨⟨_,_,_,_,rfl⟩,sx7,nt7,e7p,e7a,D7⟩
   ·rintro i σ H8 hi ⟨_,sx8,_⟩;exact SqL.of (sx8 _ _ hwp w1)
   ·rintro i v σ H8 r hv ⟨⟨a,b,c',d,rfl⟩,sx8,nt8,e8p,e8a,D8⟩ hr8;obtain ⟨qi,hqi,rfl⟩:=vg hv;have hi:i < ws.length:=by rw [← w2];exact (List.getElem?_eq_some_iff.mp hqi).1
    have hwi:ws[i]? = some ws[i]:=List.getElem?_eq_getElem hi;have eqi:∀ {H9:Hp},qe p H' H9→H9 qi=some (.tup [.str ws[i].1.name,.int ws[i].2]):=fun sx=>sx _ _ (Aj (al i qi _ hqi hwi) hp (by intro z;cases z)) (al i qi _ hqi hwi)
    obtain ⟨ki,hki⟩:=hds _ (List.mem_of_getElem? hwi);refine xh ?_;walk_at "RD";have s9:ac H8 (upd H8 r (.tup [.int i,.ref qi])):=gb hr8;refine ⟨⟨_,SqL.of (s9 _ _ (sx8 _ _ hwp w1))⟩,?_⟩;refine Zj.enum (xs:=qs.map V.ref) (fun j σ H9=>(∃ c' d,σ=[some (V.ref p),some (V.ref c),some (V.ref wl),some (V.ref pw),some (V.int (i:Int)),some (V.ref qi),c',d])∧qe p H' H9∧NoT H9∧H9 p=some (.ins t.bc dx (qm ws.length pa sd))∧H9 pa=some (.lst (ws.map fun p=>V.int (Qc p)))∧Hm P w H9 sd (Pf n ws i ++ fj n ws i j)) ?_ ?_ ?_ ?_
    ·exact ⟨⟨_,_,rfl⟩,sx8.trans (qe.of s9),nt8.upd,s9 _ _ e8p,s9 _ _ e8a,by rw [gC,List.append_nil];exact cc D8 s9⟩
    ·rintro j σ H9 hj ⟨_,sx9,_⟩;exact SqL.of (sx9 _ _ hwp w1)
    ·rintro j v σ H9 r2 hv ⟨⟨c2,d2,rfl⟩,sx9,nt9,e9p,e9a,D9⟩ hr9;obtain ⟨qj,hqj,rfl⟩:=vg hv;have hj:j < ws.length:=by rw [← w2];exact (List.getElem?_eq_some_iff.mp hqj).1
     have hwj:ws[j]? = some ws[j]:=List.getElem?_eq_getElem hj;obtain ⟨kj,hkj⟩:=hds _ (List.mem_of_getElem? hwj);have s10:ac H9 (upd H9 r2 (.tup [.int j,.ref qj])):=gb hr9;have sx10:=sx9.trans (qe.of (p:=p) s10);have eqj:∀ {H9:Hp},qe p H' H9→H9 qj=some (.tup [.str ws[j].1.name,.int ws[j].2]):=fun sx=>sx _ _ (Aj (al j qj _ hqj hwj) hp (by intro z;cases z)) (al j qj _ hqj hwj)
     have nt10:NoT (upd H9 r2 (.tup [.int j,.ref qj])):=nt9.upd;have e10p:=s10 _ _ e9p;have e10a:=s10 _ _ e9a;have D10:=cc D9 s10;refine xh ?_;simp only [List.set_cons_succ,List.set_cons_zero];generalize upd H9 r2 (.tup [.int j,.ref qj])=H10 at sx10 nt10 e10p e10a D10 ⊢;by_cases hij:i=j
     ·refine Ib false (fun Q hQ=>?_) (fun z=>nomatch z) (fun _=>?_)
      ·walk_at "RD";rw [if_neg (by simp [hij])];exact hQ
      ·simp only [Xb];exact ⟨⟨_,_,rfl⟩,sx10,nt10,e10p,e10a,by rw [lv hwi hwj (fun z=>z.1 hij)];exact D10⟩
     refine Ib (mt n ws[i].1 ws[j].1) (fun Q hQ=>?_) (fun hm=>?_) (fun hm=>?_)
     ·walk_at "RD";rw [if_pos (by simp;omega)];exact ⟨_,SqT.of (eqi sx10),_,yb (j:=0) rfl,_,SqT.of (eqj sx10),_,yb (j:=0) rfl,c,n,ds,ki,kj,_,_,rfl,RE hp sx10 C,hn,hki,hkj,nt10,_,rfl,hQ⟩
     ·walk_at "RD";refine ⟨_,SqT.of (eqi sx10),_,yb (j:=1) rfl,_,SqT.of (eqi sx10),_,yb (j:=0) rfl,_,SqT.of (eqj sx10),_,yb (j:=0) rfl,c,n,ds,ki,kj,_,_,rfl,RE hp sx10 C,hki,hkj,_,rfl,_,rfl,_,Pe T e10p,by decide,fun tp htp=>⟨sd,rfl,_,cc D10 (gb htp),mf i j,(show upd H10 tp (.tup [V.int (i:Int),V.int (j:Int)]) tp=some (HO.tup [V.int (i:Int),V.int (j:Int)]) from ib),?_,fun o hD2=>⟨⟨_,rfl⟩,?_,(nt10.upd).upd,?_,?_,?_⟩⟩⟩
      ·have a1:=Aw n ws i;have a2:=sw n ws i j;have a3:=Nat.mul_le_mul (show i ≤ 20 by omega) hlen;exact Nat.lt_of_le_of_lt (show (Pf n ws i ++ fj n ws i j).length ≤ 420 by rw [List.length_append];omega) (by decide)
      ·intro b u hb e;have e1:=sx10 _ _ hb e;rw [Ab (Lb e hpsn),Ab (Lb e1 htp)];exact e1
      ·rw [Ab (Ne.symm hsp),Ab (Lb e10p htp)];exact e10p
      ·rw [Ab (Ne.symm hsa),Ab (Lb e10a htp)];exact e10a
      ·rw [← fH hwi hwj ⟨hij,hm⟩];exact hD2
     ·simp only [Xb];exact ⟨⟨_,_,rfl⟩,sx10,nt10,e10p,e10a,by rw [lv hwi hwj (fun z=>by rw [hm] at z;exact nomatch z.2)];exact D10⟩
    ·rintro σ H9 zzq;refine zzP fun zzM zzh=>?_
     obtain ⟨⟨c2,d2,rfl⟩,sx9,nt9,e9p,e9a,D9⟩:=zzq;subst zzh;rw [List.length_map,w2,← jt] at D9;exact ⟨⟨_,_,_,_,rfl⟩,sx9,nt9,e9p,e9a,D9⟩
   ·rintro σ H8 zzq;refine zzP fun zzM zzh=>?_
    obtain ⟨⟨a,b,c',d,rfl⟩,sx8,nt8,e8p,e8a,D8⟩:=zzq;subst zzh;rw [List.length_map,w2] at D8;walk_at "RD";exact q _ sx8 nt8 ⟨dx,pa,sd,e8p,e8a,D8⟩
end
theorem WF {H H':Hp} {wl:Addr} {ws:List (WD × Int)} (h:iu H wl ws) (s:ac H H'):iu H' wl ws:=by
 obtain ⟨qs,w1,w2,w3⟩:=h;exact ⟨qs,s _ _ w1,w2,fun i q p h1 h2=>s _ _ (w3 i q p h1 h2)⟩
theorem pH {n:Int} {ws:List (WD × Int)} {i j:Nat} {p q:WD × Int} (hi:ws[i]? = some p) (hj:ws[j]? = some q) (hij:i ≠ j) (hm:mt n p.1 q.1=true):(mf i j,V.int (p.2 + xC p.1 q.1)) ∈ Pf n ws ws.length:=by
 unfold Pf;refine List.mem_flatMap.mpr ⟨i,List.mem_range.mpr (List.getElem?_eq_some_iff.mp hi).1,?_⟩;unfold fj;refine List.mem_filterMap.mpr ⟨j,List.mem_range.mpr (List.getElem?_eq_some_iff.mp hj).1,?_⟩;simp only [hi,hj,if_pos (And.intro hij hm)]
end My
namespace My
open PySem L2
section
open PySem.Spec PyProof.Rows
section
variable {prog:Program} {w:World} {A:Around} {R:Result→Shared→Prop} {I:Addr} {fp wr:List Addr} {n:Nat} {P:Nat→Value→Prop} {St:Nat→Heap→Prop}
theorem XC (W:Walks prog w A.in1 I fp wr n P St) (bt:Nat→Nat→Bool) (hcmp:CmpOf prog w A.in1 .Gt P bt) (S:Addr) (hSf:S ∉ fp) (dv:Value) (kn:Str) :
  ∀ (k j:Nat) (s:Shared) (acc:Array Value) (c:Nat),n - j=k→j ≤ n→St j s.heap→NM P bt j acc →
  s.heap.get? S=some { cls:=.type "list",dict:=none,data:=.seq acc c,slots:=#[] } →
  (∀ v h' tk,(n=0∧v=dv)∨(0 < n∧P (argBest bt (n - 1)) v)→(∀ b o,b ∉ wr→b ≠ S→s.heap.get? b=some o→h'.get? b=some o)→R (.ok (.ret v)) { s with heap:=h',toks:=tk }) →
  codeAny (model prog w) A (.builtin "max.loop" ⟨[.ref I,.none,.ref S],[(kn,dv)]⟩) R s:=by
 have hSw:S ∉ wr:=fun h=>hSf (W.sub _ h)
 have hname:(toString "max" ++ toString ".loop" : String) = "max.loop" := by decide
 intro k
 induction k with
 | zero=>
  intro j s acc c hk hj hst hB hS hR;have hin:j=n:=by omega
  refine codeAny_builtin PySem.F.entry_max_loop ?_;rw [Around.under_plainId PySem.F.plain_max_loop _];show wpAny _ A.in1 (seqItems? (.ref S) >>= _) _ _ s;refine wpAny_bind (wpAny_seqItems hS rfl ?_);show wpAny _ A.in1 (tryCatch (pyNext (.ref I)) _ >>= _) _ _ s;refine wpAny_bind (wpAny_tryCatch (W.done s _ _ (hin ▸ hst) fun h' tk hk'=>?_));have hS':=hk' S _ hSw hS;rcases hB with ⟨h0,rfl⟩ | ⟨vb,i,hi,rfl,hP⟩
  ·show wpAny _ A.in1 (rule _ >>= _) _ _ _;refine wpAny_bind (wpAny_rule (wpAny_pure ?_));exact hR dv h' tk (.inl ⟨by omega,rfl⟩) fun b o hbw hbS e=>hk' b o hbw e
  ·show wpAny _ A.in1 (updateSeq S (fun _=>#[]) >>= _) _ _ _;refine wpAny_bind ?_;refine wpAny_updateSeq hS' rfl (wpAny_bind (wpAny_letGo (wpAny_pure ?_)));refine hR vb _ tk (.inr ⟨by omega,by rw [show n - 1=i by omega];exact hP⟩) fun b o hbw hbS e=>(Heap.get?_update_other _ _ (Ne.symm hbS)).trans (hk' b o hbw e)
 | succ k ih=>
  intro j s acc c hk hj hst hB hS hR;have hlt:j < n:=by omega
  refine codeAny_builtin PySem.F.entry_max_loop ?_;rw [Around.under_plainId PySem.F.plain_max_loop _];show wpAny _ A.in1 (seqItems? (.ref S) >>= _) _ _ s;refine wpAny_bind (wpAny_seqItems hS rfl ?_);show wpAny _ A.in1 (tryCatch (pyNext (.ref I)) _ >>= _) _ _ s;refine wpAny_bind (wpAny_tryCatch (W.item j s _ _ hlt hst fun v h' tk hP hst' hk'=>?_));have hS':=hk' S _ hSw hS;have put:∀ h'':Heap,h''=h'.update S (Obj.mapSeq (fun _=>#[v,v]))→St (j + 1) h'':=fun h'' e=>by
   subst e;exact W.frame _ _ _ hst' fun b hbf o e=>(Heap.get?_update_other _ _ (fun h:S=b=>hSf (by rw [h];exact hbf))).trans e
  rcases hB with ⟨h0,rfl⟩ | ⟨vb,i,hi,rfl,hPb⟩
  ·show wpAny _ A.in1 (updateSeq S (fun _=>#[v,v]) >>= _) _ _ _;refine wpAny_bind ?_;refine wpAny_updateSeq hS' rfl ?_;rw [hname];refine wpAny_pure ⟨plainId_quiet PySem.F.plain_max_loop _,ih (j + 1) _ #[v,v] _ (by omega) hlt (put _ rfl) (.inr ⟨v,j,rfl,rfl,by subst h0;exact hP⟩) (Heap.get?_update_self _ hS' rfl) fun v' h'' tk'' hP' hk''=>?_⟩;exact hR v' h'' tk'' hP' fun b o hbw hbS e=>hk'' b o hbw hbS ((Heap.get?_update_other _ _ (Ne.symm hbS)).trans (hk' b o hbw e))
  ·subst hi;show wpAny _ A.in1 (tryCatch (holding [v,v] (richCompare .Gt v vb >>= _)) _ >>= _) _ _ _;refine wpAny_bind (wpAny_tryCatch (wpAny_holding (wpAny_bind (hcmp (i + 1) (argBest bt i) v vb _ _ _ hP hPb ?_))));refine wpAny_bind (wpAny_holding (wpAny_truthy_bool ?_));refine wpAny_bind (wpAny_letGo (wpAny_pure ?_));cases hb:bt (i + 1) (argBest bt i) with
   | true=>
    simp only [if_true];refine wpAny_bind ?_;refine wpAny_updateSeq hS' rfl (wpAny_bind (wpAny_letGo ?_));rw [hname];refine wpAny_pure ⟨plainId_quiet PySem.F.plain_max_loop _,ih (i + 1 + 1) _ #[v,v] _ (by omega) hlt (put _ rfl) (.inr ⟨v,i + 1,rfl,rfl,by simp only [argBest,hb,if_true];exact hP⟩) (Heap.get?_update_self _ hS' rfl) fun v' h'' tk'' hP' hk''=>?_⟩;exact hR v' h'' tk'' hP' fun b o hbw hbS e=>hk'' b o hbw hbS ((Heap.get?_update_other _ _ (Ne.symm hbS)).trans (hk' b o hbw e))
   | false=>
    simp only [Bool.false_eq_true,if_false];refine wpAny_bind (wpAny_letGo ?_);rw [hname];refine wpAny_pure ⟨plainId_quiet PySem.F.plain_max_loop _,ih (i + 1 + 1) _ #[vb,vb] c (by omega) hlt hst' (.inr ⟨vb,i + 1,rfl,rfl,by simp only [argBest,hb,Bool.false_eq_true,if_false];exact hPb⟩) hS' fun v' h'' tk'' hP' hk''=>?_⟩;exact hR v' h'' tk'' hP' fun b o hbw hbS e=>hk'' b o hbw hbS (hk' b o hbw e)
end
section
variable {prog:Program} {w:World} {A:Around} {E:Value→Shared→Prop} {s:Shared}
theorem aD (a d:Value):argsOk "max" ⟨[a],[(Str.ofString "default",d)]⟩:=by unfold argsOk;kernel_rfl
theorem uF {l:Addr} {its:Array Value} {dv:Value} {Q:Value→Shared→Prop} (hh:A.handled=none) (hl:s.heap.IsList l its) (ks:List Int) (hk:its.size=ks.length) (hv:∀ (i:Nat) (v:Value),its[i]? = some v→∃ t,v=Value.int (ks.getD i 0) t)
  (hQ:∀ v h' tk,(ks=[]∧v=dv)∨(∃ m t,ks.max? = some m∧v=.int m t)→(∀ b o,s.heap.get? b=some o→h'.get? b=some o)→Q v { s with heap:=h',toks:=tk }) :
  wpAny (model prog w) A (call (.builtin "max") [.ref l] [(Str.ofString "default",dv)]) Q E s:=by
 have hname:(toString "max" ++ toString ".loop" : String) = "max.loop" := by decide
 have hlt:l < s.heap.objs.size:=by obtain ⟨_,e,_⟩:=hl;exact Heap.lt_size e
 refine wpAny_call (codeAny_call_builtin PySem.F.plain_max PySem.F.entry_max ?_);simp only [checkBuiltinCall,PySem.F.kind_max];have key:wpAny (model prog w) A.in1 (Builtin.«max» ⟨[.ref l],[(Str.ofString "default",dv)]⟩) (fun fin s'=>match fin with
   | .done f=>(match (Except.ok f:Result) with | .ok (.ret v)=>Q v s' | .ok _=>False | .error e=>E e s')
   | .again c'=>c'.quiet=true∧codeAny (model prog w) A c' (fun r s'=>match r with | .ok (.ret v)=>Q v s' | .ok _=>False | .error e=>E e s') s') E s:=by
  show wpAny _ A.in1 (Builtin.Builtins.bindParams "max" ["key","default"] 0 ⟨[],[(Str.ofString "default",dv)]⟩ >>= _) _ _ s;refine wpAny_bind (wpAny_of_eq (show Builtin.Builtins.bindParams "max" ["key","default"] 0 ⟨[],[(Str.ofString "default",dv)]⟩=pure [none,some dv] from rfl) ?_);refine wpAny_bind (wpAny_pure ?_);refine wpAny_bind (wpAny_pyIter_list hl ?_);refine wpAny_bind (wpAny_newObj_type ?_);rw [hname];have W:=Walks.list (prog:=prog) (w:=w) (A:=A.in1) hh s.heap.objs.size l (Nat.ne_of_lt hlt) its;have hz1:(s.heap.push { cls:=.type "list_iterator",data:=.fields #[.ref l,.int 0 0] }).objs.size=s.heap.objs.size + 1:=Heap.size_push ..;refine wpAny_pure ⟨plainId_quiet PySem.F.plain_max_loop _,XC W _ (CmpOf.ints_gt (fun i=>ks.getD i 0) fun i v h=>hv i v h) _ ?_ dv _ its.size 0 _ #[] _ rfl (Nat.zero_le _) ?_ (.inl ⟨rfl,rfl⟩) (Heap.get?_push_size _ rfl) fun v h' tk hP hk'=>?_⟩
  ·show (s.heap.push _).objs.size ∉ _;rw [hz1];simp only [List.mem_cons,List.not_mem_nil,or_false,not_or];exact ⟨Nat.succ_ne_self _,Ne.symm (Nat.ne_of_lt (Nat.lt_succ_of_lt hlt))⟩
  ·exact W.frame 0 (s.heap.push { cls:=.type "list_iterator",data:=.fields #[.ref l,.int 0 0] }) _ ⟨⟨_,Heap.get?_push_size _ rfl,rfl,rfl⟩,hl.push _⟩ fun b _ o e=>Heap.get?_push_of_some _ e
  ·refine hQ v h' tk ?_ fun b o e=>hk' b o (fun hm=>?_) ?_ (Heap.get?_push_of_some _ (Heap.get?_push_of_some _ e))
   ·rcases hP with ⟨h0,h1⟩ | ⟨h0,h1⟩
    ·exact .inl ⟨List.length_eq_zero_iff.mp (by omega),h1⟩
    ·obtain ⟨t,e⟩:=hv _ v h1;have hb:=argBest_gt (fun i=>ks.getD i 0) (its.size - 1);refine .inr ⟨_,t,?_,e⟩;rw [List.max?_eq_some_iff];have hi:argBest (fun i j=>decide (ks.getD i 0 > ks.getD j 0)) (its.size - 1) < ks.length:=by omega
     refine ⟨?_,fun b hb'=>?_⟩
     ·rw [List.getD_eq_getElem?_getD,List.getElem?_eq_getElem hi];exact List.getElem_mem hi
     ·obtain ⟨j,hj,rfl⟩:=List.getElem_of_mem hb';have:=hb.2 j (by omega);rw [List.getD_eq_getElem?_getD (i:=j),List.getElem?_eq_getElem hj] at this;exact this
   ·rw [List.mem_singleton.mp hm] at e;exact absurd (Heap.lt_size e) (Nat.lt_irrefl _)
   ·rw [hz1];exact Nat.ne_of_lt (Nat.lt_succ_of_lt (Heap.lt_size e))
 cases hsig:Manifest.signature? "max" with
 | none=>exact wpAny_pure key
 | some sig=>
  have ha:=aD (.ref l) dv;have ha':Bind.checkArgs "max" sig ⟨[.ref l],[(Str.ofString "default",dv)]⟩=pure ():=by simpa only [argsOk,hsig] using ha
  simp only [ha'];exact wpAny_pure key
end
section
variable {X:Cx}
noncomputable def QM (K:PySem.W.Frag) (ta:TA) (td:TE):TE:=fun σ H Q=>ta σ H fun vs H1=>td σ H1 fun y H2=>∃ l ks,vs=[.ref l]∧SqL K H2 l (List.map V.int ks)∧Q (match ks.max? with | some m=>.int m | none=>y) H2
theorem RK {a d:Expr} {ta:TA} {td:TE} {p kp pos:Pos} (hc:X.calm=true) (hg:Gl X "max") (hm:X.mg "max"=none) (ha:PA X [a] ta) (hd:PE X d td)
  (he:∀ pos,backTo pos (starEach [a] X.env)=(false,eval a X.env) :: backTo pos (starEach [] X.env):=by intro _;rfl) (hpl:∀ pos,(backTo pos (starEach [a] X.env)).any (·.1)=false:=by intro _;rfl) :
  PE X (.Call (.Name "max" p) [a] [⟨some "default",d,kp⟩] pos) (QM X.K ta td):=by
 intro pins s σ H Q I h;refine wpAny_Call_Name_kw (rn I hg hm (show bootBuiltins "max"=some (.builtin "max") by decide +kernel) ?_);refine callWith_kw (id := "max") (thn (ha pos pins s σ H _ I h) fun us s1 ⟨vs,H1,I1,r1,q1⟩=>?_) (he:=he pos) (hplain:=hpl pos);refine kws_cons (thn (hd pins s1 σ H1 _ I1 q1) fun v s2 ⟨y,H2,I2,r2,q2⟩=>kws_nil ?_);obtain ⟨l,ks,rfl,hq,q⟩:=q2;cases r1 with
 | cons r rr=>
  cases rr;cases r;obtain ⟨its,rv,pl,hz⟩:=I2.list hq;have hl:=rv.length;rw [List.length_map] at hl;refine uF (I2.ok.hd hc) pl.isList ks (by rw [List.size_toArray];omega) (fun i v hv=>?_) fun v' h' tk hv' hk=>⟨_,H2,I2.kept hk,?_,q⟩
  ·rw [List.getElem?_toArray] at hv;have hi:i < ks.length:=by have:=(List.getElem?_eq_some_iff.mp hv).1;omega
   obtain ⟨w,hw,rw'⟩:=rv.get (show (ks.map V.int)[i]? = some (.int ks[i]) by rw [List.getElem?_map,List.getElem?_eq_getElem hi];rfl);rw [hv] at hw;cases hw;rw [List.getD_eq_getElem?_getD,List.getElem?_eq_getElem hi];exact rw'
  ·rcases hv' with ⟨rfl,rfl⟩ | ⟨m,t,hm,rfl⟩
   ·exact r2
   ·rw [hm];exact ⟨t,rfl⟩
end
end
section
open PySem.Spec PyProof.Rows
variable {prog:Program} {w:World} {A:Around} {E:Value→Shared→Prop} {s:Shared}
theorem fE {it t:Addr} {i:Nat} {its:Array Value} {Q:Value→Shared→Prop} (hh:A.handled=none) (hi:s.heap.IsTupleIter it t i) (ht:s.heap.IsTuple t its)
  (h1:∀ x h',its[i]? = some x→h'.IsTupleIter it t (i + 1)→Heap.SameBut it s.heap h'→Q x { s with heap:=h' })
  (h2:∀ h' e,its[i]? = none→Heap.ExtBut it s.heap h'→(∃ o,h'.get? e=some o∧o.cls=.type "StopIteration")→E (.ref e) { s with heap:=h' }) :
  wpAny (model prog w) A (Builtin.SmallTypes.nextOf (.ref it)) Q E s:=by
 have ty:=hi.typeIs;obtain ⟨⟨c1,d1,dt1,sl1⟩,e1,c1',f1⟩:=id hi;obtain ⟨⟨c2,d2,dt2,sl2⟩,e2,c2',n2,f2⟩:=id ht;simp only at c1' f1 c2' f2;subst c1' f1 c2' f2;obtain ⟨hp,g,d,tk,os⟩:=s;refine wpAny_bind (wpAny_callSpecial?_slot (name:=Str.ofString "__next__") ty PySem.F.slot_tuple_iterator_next (wpAny_call_entry PySem.F.slot_tuple_iterator_next ty PySem.F.entry_tuple_iterator_next ?_ (PySem.F.args_tuple_iterator_next_1 _)));unfold Builtin.«tuple_iterator.__next__»;have key:∀ y,its[i]? = y→its[(i:Int).toNat]? = y:=fun y z=>z
 cases hx:its[i]? with
 | some x=>
  wp_walk
  rw [key _ hx]
  wp_walk
  refine ⟨x,rfl,wpAny_pure (h1 x _ hx ⟨_,Heap.get?_update_self _ e1 rfl,rfl,rfl⟩ (Heap.SameBut.update ..))⟩
 | none=>
  wp_walk
  rw [key _ hx];have hh1:A.in1.handled=none:=hh;unfold Builtin.SmallTypes.stopIteration
  wp_walk
  exact wpAny_raiseNew_none hh1 (h2 _ _ hx (((Heap.SameBut.update ..).extBut.push _).push _) ⟨_,Heap.get?_push_size _ rfl,rfl⟩)
theorem gJ (hh:A.handled=none) {it l:Addr} (ne:l ≠ it) (its:Array Value):Draws prog w A it [it,l] its.size (fun i v=>its[i]? = some v) (fun i h=>h.IsTuple l its∧h.IsTupleIter it l i):=by
 refine { live:=?_,frame:=?_,item:=?_,done:=?_ }
 ·rintro i h zzq;refine zzP fun zzM zzh=>?_
  obtain ⟨_,o,ho,_⟩:=zzq;subst zzh;exact ⟨o,ho⟩
 ·rintro i h h' ⟨a,b⟩ k;refine ⟨a.at ?_,b.at ?_⟩
  ·exact k l (by simp)
  ·exact k it (by simp)
 ·rintro i s Q E lt ⟨a,b⟩ q;refine fE hh b a (fun x h' ex b' sb=>q x h' s.toks ex ⟨a.extBut sb.extBut ne,b'⟩ sb) fun h' e en=>?_
  rw [Array.getElem?_eq_getElem lt] at en;cases en
 ·rintro s Q E ⟨a,b⟩ q;refine fE hh b a (fun x h' ex=>?_) fun h' e _=>q h' e
  rw [Array.getElem?_eq_none (Nat.le_refl _)] at ex;cases ex
theorem ZH (l:Addr) (o:Obj) (its:Array Value) (n:Nat) (hc:o.cls=.type "tuple") (hd:o.data=.seq its n) :
  Meets (Builtin.«enumerate.__new__» ⟨[.type "enumerate",.ref l],[]⟩) (fun _ R s=>s.heap.get? l=some o∧∀ hq,hq=(s.heap.push { cls:=.type "tuple_iterator",data:=.fields #[.ref l,.int 0 0] }) →
   R (.ok (.ret (.ref hq.objs.size))) { s with heap:=hq.push { cls:=.type "enumerate",data:=.fields #[.none,.bool false,.ref s.heap.objs.size,rawInt 0,.none,.none] } }):=by
 refine .of_wp fun prog w A R s ⟨e,q⟩=>?_
 have T:s.heap.IsTuple l its:=⟨o,e,hc,n,hd⟩;replace q:=q _ rfl;obtain ⟨c,dc,dt,sl⟩:=o;simp only at hc hd;subst hc hd;obtain ⟨hp,g,d,tk,os⟩:=s;have sb:=sub_enumerate;have go:∀ {A:Around} {E:Value→Shared→Prop} {Q:Value→Shared→Prop},Q (.ref hp.objs.size) ⟨hp.push { cls:=.type "tuple_iterator",data:=.fields #[.ref l,.int 0 0] },g,d,tk,os⟩→wpAny (model prog w) A (pyIter (.ref l)) Q E ⟨hp,g,d,tk,os⟩:=fun h=>wpAny_pyIter_tuple T h
 wp_walk using AutoSeq1.wpAny_loadPart' e
 refine wpAny_stack_any fun st=>wpAny_pure ?_
 generalize hb:List.drop 1 st=b;dsimp only;split
 ·split
  all_goals wp_walk using AutoSeq1.wpAny_loadPart' e,go
  all_goals exact ⟨_,rfl,q⟩
 ·wp_walk using AutoSeq1.wpAny_loadPart' e,go
  exact ⟨_,rfl,q⟩
theorem NE {l:Addr} {its:Array Value} {Q:Value→Shared→Prop} (T:s.heap.IsTuple l its)
  (h:∀ h',IsEnum h' (s.heap.objs.size + 1) s.heap.objs.size 0 .none→h'.IsTupleIter s.heap.objs.size l 0→(∀ b o,s.heap.get? b=some o→h'.get? b=some o)→Q (.ref (s.heap.objs.size + 1)) { s with heap:=h' }) :
  wpAny (model prog w) A (call (.type "enumerate") [.ref l]) Q E s:=by
 obtain ⟨o,e,c,n,d⟩:=T;refine callType_new PySem.F.called_enumerate (by decide) (PySem.F.typeCall_enumerate_1 _) (PySem.F.newCall_enumerate_1 _) (fun obj=>PySem.F.args_object_init_2 obj _) PySem.F.entry_enumerate_new (ZH l o its n c d) ⟨e,fun hq eq=>?_⟩;have sz:hq.objs.size=s.heap.objs.size + 1:=by rw [eq];exact Heap.size_push ..
 have at1:hq.get? s.heap.objs.size=some { cls:=.type "tuple_iterator",data:=.fields #[.ref l,.int 0 0] }:=by rw [eq];exact Heap.get?_push_size _ rfl
 have up:∀ b o,s.heap.get? b=some o→hq.get? b=some o:=fun b o z=>by rw [eq];exact Heap.get?_push_of_some _ z
 have at2:=Heap.get?_push_size hq (o:={ cls:=.type "enumerate",data:=.fields #[.none,.bool false,.ref s.heap.objs.size,rawInt 0,.none,.none] }) rfl;show _∧_;rw [sz] at at2 ⊢;exact ⟨⟨_,at2,rfl⟩,h _ at2 ⟨_,Heap.get?_push_of_some _ at1,rfl,rfl⟩ fun b o z=>Heap.get?_push_of_some _ (up b o z)⟩
theorem DH {l a:Addr} {its:Array Value} {ns:List Int} {led:Bool} {Q:Value→Shared→Prop} (hh:A.handled=none) (T:s.heap.IsTuple l its) (hi:IntsAre its.toList ns) (hb:its.size + 1 < scanBound) (la:l ≠ a)
  (ha:s.heap.get? a=some { cls:=.type "set",dict:=none,data:=.set #[] 0 (.fresh 0 0 led) })
  (h:∀ (h':Heap) (tk:Nat),h'.SetOf (intKind prog w) a (fun k=>(firstMet (fun i=>ns.getD i 0) its.size).any (· == k)) (firstMet (fun i=>ns.getD i 0) its.size).length→(∀ b o,b ≠ a→s.heap.get? b=some o→h'.get? b=some o)→Q .none { s with heap:=h',toks:=tk }) :
  codeAny (model prog w) A (.call (.builtin "set.__init__") ⟨[.ref a,.ref l],[]⟩) (wants Q E) s:=by
 refine codeAny_call_builtin PySem.F.called_set.init.plain PySem.F.entry_set_init (check_set_init_1 ⟨_,ha,rfl⟩ ?_);have lt:l < s.heap.objs.size:=by obtain ⟨o,e,_⟩:=T;exact Heap.lt_size e
 have lt2:=Heap.lt_size ha;obtain ⟨⟨c,dc,dt,sl⟩,e,hc,n,hd⟩:=id T;simp only at hc hd;subst hc hd;obtain ⟨hp,g,d,tk,os⟩:=s;have s0:(Value.type "tuple" == Value.type "dict")=false:=by decide
 have s1:isSubtype (.type "tuple") (.type "set")=pure false:=by rw [isSubtype_type];kernel_rfl
 have s2:isSubtype (.type "tuple") (.type "frozenset")=pure false:=by rw [isSubtype_type];kernel_rfl
 have go:∀ {A:Around} {E:Value→Shared→Prop} {Q:Value→Shared→Prop},Q (.ref hp.objs.size) ⟨hp.push { cls:=.type "tuple_iterator",data:=.fields #[.ref l,.int 0 0] },g,d,tk,os⟩→wpAny (model prog w) A (pyIter (.ref l)) Q E ⟨hp,g,d,tk,os⟩:=fun h=>wpAny_pyIter_tuple T h
 have k2:A.in1.in1.handled=none:=by simp [hh]
 have nl:l ≠ hp.objs.size:=Nat.ne_of_lt lt;have nS:a ∉ [hp.objs.size,l]:=by
  simp only [List.mem_cons,List.not_mem_nil,or_false,not_or];exact ⟨Nat.ne_of_lt lt2,Ne.symm la⟩
 unfold Builtin.«set.__init__» noKeywords Builtin.Frozenset.updateFrom
 wp_walk using go
 refine codeAny_set_update_loopS ((Walks.tuple k2 _ l nl its).toS) _ nS (fun i=>ns.getD i 0) (fun i v z=>hi.int_at i v (by rw [Array.getElem?_toList];exact z)) hb _ 0 _ rfl (Nat.zero_le _) ⟨⟨_,Heap.get?_push_size _ rfl,rfl,rfl⟩,T.push _⟩ ?_ fun s' m S'=>?_
 ·refine SetOf_congr ((setObjOf_fresh (knd:=intKind prog w) led).setOf (Heap.get?_push_of_some _ ha) (by unfold scanBound;omega)) (fun _=>rfl) rfl
 ·obtain ⟨h',g',d',tk',os'⟩:=s';obtain rfl:g'=g:=m.gens;obtain rfl:d'=d:=m.drawn;obtain rfl:os'=os:=m.os;refine wpAny_pure (wpAny_pure (h h' tk' S' fun b o nb z=>m.heap b o ?_ (Heap.get?_push_of_some _ z)));simp only [List.mem_cons,List.not_mem_nil,or_false,not_or];exact ⟨nb,Nat.ne_of_lt (Heap.lt_size z)⟩
theorem FG {l:Addr} {its:Array Value} {ns:List Int} {Q:Value→Shared→Prop} (hh:A.handled=none) (T:s.heap.IsTuple l its) (hi:IntsAre its.toList ns) (hb:its.size + 1 < scanBound)
  (h:∀ (h':Heap) (tk:Nat),h'.SetOf (intKind prog w) s.heap.objs.size (fun k=>(firstMet (fun i=>ns.getD i 0) its.size).any (· == k)) (firstMet (fun i=>ns.getD i 0) its.size).length→(∀ b o,s.heap.get? b=some o→h'.get? b=some o)→Q (.ref s.heap.objs.size) { s with heap:=h',toks:=tk }) :
  wpAny (model prog w) A (call (.type "set") [.ref l]) Q E s:=by
 have lt:l < s.heap.objs.size:=by obtain ⟨o,e,_⟩:=T;exact Heap.lt_size e
 have ft:=PySem.F.called_set;have f0:=PySem.F.typeCall_set_1 (.ref l);have f1:=ft.made;have f2:=ft.sub;have f3:=ft.notType;have f4:=ft.canCreate;have f5:=ft.init.lookup;obtain ⟨mc,mt,f6⟩:=ft.mro;refine wpAny_call (codeAny_of_tree (wpAny_pure ⟨Code.quiet_builtin _ (by decide +kernel),codeAny_builtin PySem.F.entry_type_call ?_⟩));rw [Around.under_plain (weight_type_call_type _ _ _) rfl]
 wp_walk
 refine codeAny_mono (code_set_new_1 (.ref l) (E:=E) (Q₁:=fun o s1=>∃ led:Bool,o=.ref s.heap.objs.size∧s1 = { s with heap:=s.heap.push { cls:=.type "set",dict:=none,data:=.set #[] 0 (.fresh 0 0 led) } }) fun led=>⟨led,rfl,rfl⟩) ?_;rintro (er | (_ | _ | _ | v)) s1 z
 ·exact z
 ·exact z.elim
 ·exact z.elim
 ·exact z.elim
 obtain ⟨led,rfl,rfl⟩:=z;have at0:(s.heap.push { cls:=.type "set",dict:=none,data:=.set #[] 0 (.fresh 0 0 led) }).get? s.heap.objs.size=some { cls:=.type "set",dict:=none,data:=.set #[] 0 (.fresh 0 0 led) }:=Heap.get?_push_size _ rfl;have f7:=ft.init.bind (.ref s.heap.objs.size);have ty:Shared.TypeIs { s with heap:=s.heap.push { cls:=.type "set",dict:=none,data:=.set #[] 0 (.fresh 0 0 led) } } (.ref s.heap.objs.size) "set" := ⟨_,at0,rfl⟩
 wp_walk
 refine codeAny_mono (DH (E:=E) (Q:=fun v s2=>v=.none∧Q (.ref s.heap.objs.size) s2) (show A.in1.handled=none by simp [hh]) (T.push _) hi hb (Nat.ne_of_lt lt) at0 fun h' tk S' k=>⟨rfl,h h' tk S' fun b o z=>k b o (Nat.ne_of_lt (Heap.lt_size z)) (Heap.get?_push_of_some _ z)⟩) ?_;rintro (er | (_ | _ | _ | v)) s2 z
 ·exact z
 ·exact z.elim
 ·exact z.elim
 ·exact z.elim
 obtain ⟨rfl,z⟩:=z;exact wpAny_pure (wpAny_pure z)
end
section
open PySem.Spec PyProof.Rows
noncomputable def Iet (K:PySem.W.Frag) (a:Addr):It:=
 ⟨fun i H=>∃ xs x,SqT K H a xs∧xs[i]? = some x,fun i H v H'=>∃ p y,H p=none∧v=.ref p∧(∀ xs,SqT K H a xs→xs[i]? = some y)∧H'=upd H p (.tup [.int i,y]),fun i H=>∃ xs,SqT K H a xs∧xs.length=i⟩
theorem pC {P:Program} {w:World} {K:PySem.W.Frag} {es:List Expr} {k} {pos:Pos} (a e it:Addr) (hne:e ≠ it) (hea:e ≠ a) (hai:a ≠ it) :
  rG P w K (.Tuple es k pos) (Iet K a) [e,it] e (fun i h=>∃ old,IsEnum h e it ((i:Nat):Int) old∧h.IsTupleIter it a i) where
 mem:=by simp
 obj:=fun i h ⟨old,he,hi⟩ b hb=>by
  simp only [List.mem_cons,List.not_mem_nil,or_false] at hb;rcases hb with rfl | rfl
  ·exact ⟨_,he,fun v z=>by
    have z':Data.fields _=Data.cell v:=z;cases z'⟩
  ·obtain ⟨o,q,c,d⟩:=hi;exact ⟨o,q,fun v z=>by rw [d] at z;cases z⟩
 keep:=fun i h h' ⟨old,he,hi⟩ k=>⟨old,k e (by simp) _ he,hi.at fun o q=>k it (by simp) o q⟩
 item:=by
  intro X hP hw hK hc i pins s σ H E I hf ⟨old,he,hi⟩ hg;subst hP hw hK;obtain ⟨xs,x,hq,hx⟩:=hg;obtain ⟨its,rv,p,hz⟩:=I.tuple hq;obtain ⟨u,hu,ru⟩:=rv.get hx;have hlt:i < its.toArray.size:=by
   rw [List.size_toArray];exact (List.getElem?_eq_some_iff.mp hu).1
  refine wpAny_pyNext_enum_itemD (gJ (A:=X.A.in1) (it:=it) (I.ok.hd hc) hai its.toArray) he ⟨p,hi⟩ hlt hne (by simp [hne,hea]) fun y h1 tk hy he1 hi1 ht1 hz1 hk1=>⟨_,rfl,?_⟩
  obtain rfl:y=u:=by
   rw [List.getElem?_toArray,hu] at hy;exact (Option.some.inj hy).symm
  refine wpAny_letOwnedTupleGo_enum he1 fun h2 he2 hs2=>?_
  replace hs2:Heap.SameBut e h1 h2:=hs2;have hel:e < s.heap.objs.size:=Heap.lt_size he;have hk:∀ b o,b ∉ [e,it]→s.heap.get? b=some o→h2.get? b=some o:=fun b o hb q=>by
   simp only [List.mem_cons,List.not_mem_nil,or_false,not_or] at hb;exact hs2.extBut _ _ hb.1 (hk1 b o hb.1 hb.2 q)
  have I1:Inv X pins σ H { s with heap:=h2,toks:=tk + 1 }:=I.turnedL hk hf;have fo:Uu X pins H s.heap.objs.size:=I.fpOk (Nat.le_refl _) (I.hok.fresh (Nat.le_refl _));have ht2:h2.get? s.heap.objs.size=some { cls:=.type "tuple",data:=.seq #[.int i tk,y] }:=(hs2.2 _ (Nat.ne_of_gt hel)).trans ht1;have I2:=I1.adopt (o:=.tup [.int i,x]) fo ⟨⟨by show 2 ≤ sizeLine;decide,_,ht2,rfl⟩,[.int i tk,y],.cons ⟨_,rfl⟩ (.cons ru .nil),⟨_,ht2,rfl,_,rfl⟩⟩;refine ⟨.ref s.heap.objs.size,_,I2,rfl,⟨_,x,fo.1,rfl,fun ys hy=>by rw [I.tuple_inj hy hq];exact hx,rfl⟩,⟨y,?_,?_⟩,fun b hb=>?_⟩
  ·have e1:((i + 1:Nat):Int)=(i:Int) + 1:=by omega
   rw [e1];exact he2
  ·exact hi1.2.extBut hs2.extBut (Ne.symm hne)
  ·have hlt:b < s.heap.objs.size:=by
    simp only [List.mem_cons,List.not_mem_nil,or_false] at hb;rcases hb with rfl | rfl
    ·exact hel
    ·obtain ⟨o,q,_⟩:=hi;exact Heap.lt_size q
   rw [Ab (Nat.ne_of_lt hlt)];exact (hf b hb).1
 done:=by
  intro X hP hw hK hc i pins s σ H E I hf ⟨old,he,hi⟩ hg;subst hP hw hK;obtain ⟨xs,hq,hx⟩:=hg;obtain ⟨its,rv,p,hz⟩:=I.tuple hq;have hl:=rv.length;obtain rfl:i=its.toArray.size:=by rw [List.size_toArray];omega
  exact wpAny_pyNext_enum_endD (gJ (A:=X.A.in1) (it:=it) (I.ok.hd hc) hai its.toArray) he ⟨p,hi⟩ fun h' eb=>⟨rfl,I.turnedL (t':=s.toks) (fun b o hb q=>eb b o (fun z=>hb (by simp [z])) q) hf⟩
 self:=fun _ _ _ _ _ ⟨_,he,_⟩ h=>wpAny_pyIter_enum he h
variable {X:Cx}
noncomputable def JJ (K:PySem.W.Frag) (ta:TA):TI:=fun σ H R=>ta σ H fun vs H1=>∃ a,vs=[.ref a]∧(∃ xs,SqT K H1 a xs)∧R (Iet K a) H1
theorem tH {es:List Expr} {k} {tpos:Pos} {a:Expr} {ta:TA} {p pos:Pos} (hg:Gl X "enumerate") (hm:X.mg "enumerate"=none) (ha:PA X [a] ta) (hs:starEach [a] X.env=[(false,eval a X.env)]:=by rfl) :
  PI X (.Tuple es k tpos) (.Call (.Name "enumerate" p) [a] [] pos) (JJ X.K ta):=by
 intro pins s σ H R I h;refine Call_ (rn I hg hm L2.lm (PyProof.Rows.callWith_type1 (thn (ha pos pins s σ H _ I h) fun us s1 ⟨vs,H1,I1,r1,q1⟩=>?_) hs rfl));obtain ⟨a,e,⟨xs,hq⟩,q⟩:=q1;subst e;cases r1 with
 | cons r rr=>
  cases rr;cases r;obtain ⟨its,rv,pl,hz⟩:=I1.tuple hq;have hal:a < s1.heap.objs.size:=by obtain ⟨_,e,_⟩:=pl;exact Heap.lt_size e
  refine NE pl fun h' hE hI hk=>wpAny_pyIter_enum hE ?_
  refine ⟨s1.heap.objs.size + 1,[s1.heap.objs.size + 1,s1.heap.objs.size],_,_,H1,rfl,I1.kept (t':=s1.toks) hk,pC a _ _ (Nat.succ_ne_self _) (Nat.ne_of_gt (Nat.lt_succ_of_lt hal)) (Nat.ne_of_lt hal),⟨_,hE,hI⟩,fun b hb=>?_,q⟩;have hb':s1.heap.objs.size ≤ b:=by
   simp only [List.mem_cons,List.not_mem_nil,or_false] at hb;rcases hb with rfl | rfl
   ·exact Nat.le_succ _
   ·exact Nat.le_refl _
  exact I1.fpOk hb' (I1.hok.fresh hb')
end
section
open PySem.Spec PyProof.Rows
theorem KC {ns:List Int}:∀ {σ:List Int},(ns.foldl step_dedup σ).length=σ.length + ns.length↔ns.Nodup∧∀ x ∈ ns,x ∉ σ:=by
 induction ns with
 | nil=>intro σ;simp
 | cons x ns ih=>
  intro σ;rw [List.foldl_cons,show step_dedup σ x=if σ.any (· == x) then σ else σ ++ [x] from rfl];by_cases hx:x ∈ σ
  ·rw [if_pos (by simpa using hx)];have:=foldl_step_dedup_length_le σ ns;constructor
   ·intro h;rw [List.length_cons] at h;omega
   ·intro h;exact absurd hx (h.2 x (List.mem_cons_self ..))
  ·rw [if_neg (by simpa using hx)];have e:=@ih (σ ++ [x]);rw [List.length_append,List.length_singleton] at e;rw [List.length_cons,show σ.length + (ns.length + 1)=σ.length + 1 + ns.length by omega,List.nodup_cons];refine e.trans ⟨fun h=>⟨⟨fun hm=>h.2 x hm (by simp),h.1⟩,fun y hy=>?_⟩,fun h=>⟨h.1.2,fun y hy hm=>?_⟩⟩
   ·rcases List.mem_cons.mp hy with rfl | hy
    ·exact hx
    ·exact fun z=>h.2 y hy (by simp [z])
   ·rcases List.mem_append.mp hm with z | z
    ·exact h.2 y (List.mem_cons_of_mem _ hy) z
    ·rw [List.mem_singleton.mp z] at hy;exact h.1.1 hy
theorem oy (ns:List Int):(firstMet (fun i=>ns.getD i 0) ns.length).length < ns.length↔¬ ns.Nodup:=by
 have e:firstMet (fun i=>ns.getD i 0) ns.length=ns.foldl step_dedup []:=by
  unfold firstMet;congr 1;refine List.ext_getElem? fun i=>?_
  rw [List.getElem?_map];by_cases hi:i < ns.length
  ·rw [List.getElem?_range hi];show some (ns.getD i 0)=_;rw [List.getD_eq_getElem?_getD,List.getElem?_eq_getElem hi];rfl
  ·rw [List.getElem?_eq_none (by simpa using hi),List.getElem?_eq_none (by omega)];rfl
 have h1:=@KC ns [];have h2:=foldl_step_dedup_length_le [] ns;rw [e];simp only [List.length_nil,Nat.zero_add,List.not_mem_nil,not_false_eq_true,implies_true,and_true] at h1 h2;rw [← h1];omega
variable {prog:Program} {w:World} {A:Around} {E:Value→Shared→Prop} {s:Shared}
theorem BB {α:Type} {f:α→Int} {c:Int} {l:List α} (h:(l.map f).Nodup):(l.filter fun x=>f x == c).length ≤ 1:=by
 induction l with
 | nil=>simp
 | cons x l ih=>
  rw [List.map_cons,List.nodup_cons] at h;rw [List.filter_cons];split
  ·rename_i hx;have hx':f x=c:=by simpa using hx
   rw [List.filter_eq_nil_iff.mpr (fun y hy z=>h.1 (by rw [hx',← (show f y=c by simpa using z)];exact List.mem_map_of_mem hy))];exact Nat.le_refl _
  ·exact ih h.2
theorem CH {a:Addr} {o:Obj} {es:Array DictEntry} {ep:Nat} {Q:Value→Shared→Prop} (ha:(a == sysModules)=false) (r:DJ s.heap a o es ep) (hk:∀ e ∈ es,∃ b,e.key=.ref b∧s.TypeIs (.ref b) "tuple") (hh:(es.toList.map (·.hash)).Nodup) (hz:es.size ≤ sizeLine)
  (h:∀ h' o' ep',h'.get? s.heap.objs.size=some o'→o'.ExactDict→o'.data=.dict es ep'→(∀ b q,s.heap.get? b=some q→h'.get? b=some q)→Q (.ref s.heap.objs.size) { s with heap:=h' }) :
  wpAny (model prog w) A (call (.type "dict") [.ref a]) Q E s:=by
 refine callType_codes (Q₁:=fun obj s₁=>obj=.ref s.heap.objs.size∧s₁ = { s with heap:=s.heap.push { cls:=.type "dict",data:=.dict #[] } }) PySem.F.kt_called_dict (PySem.F.kt_typeCall_dict_1 _) PySem.F.entry_dict_init (kt_code_dict_new _ ⟨rfl,rfl⟩) ?_;rintro obj s₁ ⟨rfl,rfl⟩;have hn:(s.heap.push { cls:=.type "dict",data:=.dict #[] }).get? s.heap.objs.size=some { cls:=.type "dict",data:=.dict #[] }:=Heap.get?_push_size _ rfl;have ho:(s.heap.push { cls:=.type "dict",data:=.dict #[] }).get? a=some o:=Heap.get?_push_of_some _ r.at_;have tn:Shared.TypeIs { s with heap:=s.heap.push { cls:=.type "dict",data:=.dict #[] } } (.ref s.heap.objs.size) "dict" := ⟨_,hn,rfl⟩;have to:Shared.TypeIs { s with heap:=s.heap.push { cls:=.type "dict",data:=.dict #[] } } (.ref a) "dict" := ⟨_,ho,r.ex.1⟩;have hne:s.heap.objs.size ≠ a:=fun e=>absurd (Heap.lt_size r.at_) (by rw [e];exact Nat.lt_irrefl _)
 refine ⟨tn,PySem.F.args_dict_init_2 _ _,?_⟩;unfold Builtin.«dict.__init__»;refine wpAny_bind ?_;unfold Builtin.Dict.selfAndRest;refine wpAny_bind (wpAny_notOrdered_dict tn ?_);show wpAny _ _ (pure (s.heap.objs.size,[Value.ref a])) _ _ _;refine wpAny_pure ?_;show wpAny _ _ (Builtin.Dict.updateFrom "dict.__init__" s.heap.objs.size (.ref a) [] .none) _ _ _;unfold Builtin.Dict.updateFrom;refine wpAny_bind (wpAny_typeOf to ?_);rw [if_neg (by decide)];refine wpAny_bind ?_;unfold Builtin.Dict.merge;refine wpAny_bind ?_;unfold Builtin.Dict.readDirectly;refine wpAny_bind (wpAny_isInstance to isSubtype_dict_dict ?_);simp only [Bool.not_true,Bool.false_eq_true,if_false];refine wpAny_bind (wpAny_specialOf to PySem.F.slot_dict_iter.lookup (wpAny_pure ?_));simp only [beq_self_eq_true,if_true];refine wpAny_bind (wpAny_pure ?_);unfold Builtin.Dict.mergeDict;rw [if_neg (by simpa using hne)];unfold Builtin.Dict.showsAll;rw [if_neg (by rw [ha];exact Bool.false_ne_true)];refine wpAny_bind (wpAny_pure (wpAny_bind (wpAny_dictEntries ho r.dat ?_)));by_cases he:es=#[]
 ·subst he;dsimp only;rw [if_neg (by simp)];refine wpAny_bind (wpAny_dictEpoch ho r.dat (wpAny_bind (wpAny_dictEntries ho r.dat (wpAny_bind ?_))));rw [Std.Legacy.Range.forIn_eq_forIn_range'];refine wpAny_pure (wpAny_pure ?_);exact wpAny_bind (wpAny_pure (wpAny_pure ⟨rfl,h _ _ _ hn ⟨rfl,rfl,rfl⟩ rfl fun b q e=>Heap.get?_push_of_some _ e⟩))
 ·have hf:(decide (es.size ≤ 8) && es.all fun e=>(keyPart e.key).isSome)=false:=by
   rw [Bool.and_eq_false_iff];refine .inr (Bool.eq_false_iff.mpr fun z=>?_);rw [Array.all_eq_true_iff_forall_mem] at z;have h0:0 < es.size:=Nat.pos_of_ne_zero fun q=>he (Array.eq_empty_of_size_eq_zero q)
   obtain ⟨b,hb,_⟩:=hk _ (Array.getElem_mem h0);have:=z _ (Array.getElem_mem h0);rw [hb] at this;cases this
  dsimp only;rw [hf,if_pos (show (!false)=true from rfl)];refine wpAny_bind (wpAny_dictEntries hn rfl ?_);rw [if_pos (show Array.isEmpty (#[]:Array DictEntry)=true from rfl)];refine wpAny_bind ?_;unfold Builtin.Dict.entriesForEmpty;refine wpAny_bind (wpAny_dictEntries ho r.dat (wpAny_bind ?_));rw [← Array.forIn_toList];refine wpAny_forIn_list _ (fun Tx _ s'=>s' = { s with heap:=s.heap.push { cls:=.type "dict",data:=.dict #[] } }∧∀ e ∈ Tx,e ∈ es) _ ?_ ?_ _ _ ⟨rfl,fun e he=>Array.mem_toList_iff.mp he⟩
  ·rintro e Tx u s' ⟨rfl,hm⟩;obtain ⟨b,hb,ob,hob,hoc⟩:=hk e (hm e (List.mem_cons_self ..));have tb:Shared.TypeIs { s with heap:=s.heap.push { cls:=.type "dict",data:=.dict #[] } } (.ref b) "tuple" := ⟨ob,Heap.get?_push_of_some _ hob,hoc⟩;unfold Builtin.Dict.quietEq;rw [hb];refine wpAny_bind (wpAny_bind (wpAny_specialOf tb PySem.F.slot_tuple_eq.lookup (wpAny_pure ?_)));rw [if_pos (by decide +kernel),if_neg (Nat.not_lt.mpr ?_)]
   ·exact wpAny_pure ⟨rfl,fun e he=>hm e (List.mem_cons_of_mem _ he)⟩
   ·rw [← Array.length_toList,Array.toList_filter];exact BB hh
  ·rintro u s' ⟨rfl,_⟩;refine wpAny_pure ?_;rw [if_pos (by simp [he])];refine wpAny_bind (wpAny_updateDictKeysTo hn rfl (wpAny_pure ?_) (by omega));refine wpAny_bind (wpAny_pure (wpAny_pure ⟨rfl,?_⟩));refine h _ _ _ (Heap.get?_update_self _ hn (Obj.isFreed_of_dict (Obj.data_mapDictKeys rfl _))) ((show Obj.ExactDict { cls:=.type "dict",data:=.dict #[] } from ⟨rfl,rfl,rfl⟩).mapDictKeys _) (Obj.data_mapDictKeys rfl _) fun b q e=>?_
   exact (Heap.get?_update_other _ _ (fun z=>absurd (Heap.lt_size e) (by rw [← z];exact Nat.lt_irrefl _))).trans (Heap.get?_push_of_some _ e)
end
section
open PySem.Spec PyProof.Rows
variable {X:Cx}
noncomputable def nL (P:Program) (w:World) (k:List Key):Int:=(tupleKind (we P w)).hash k
theorem LF (hc:X.calm=true):Fj X (.type "set") (fun xs H Q=>∃ r ns,xs=[.ref r]∧H r=some (.tup (List.map V.int ns))∧ns.length ≤ 1000∧∀ p S n,(n < ns.length↔¬ ns.Nodup)→n ≤ 1000→H p=none→Q (.ref p) (upd H p (.set S n))):=by
 intro pins s σ H xs us Q I r h;obtain ⟨t,ns,rfl,et,hl,q⟩:=h;obtain ⟨u,rfl,ru⟩:=Zn r;cases ru;obtain ⟨its,rv,pl,hz⟩:=I.tuple (SqT.of et);have hi:=Ys rv;have hlen:=hi.length;have hb:its.toArray.size=ns.length:=by rw [List.size_toArray,hlen]
 refine FG (I.ok.hd hc) pl (by simpa using hi) (by rw [hb];show ns.length + 1 < 4096;omega) fun h' tk hS hk=>?_
 rw [hb] at hS;refine ⟨.ref s.heap.objs.size,_,I.laid (a:=s.heap.objs.size) (o:=.set _ _) (t':=tk) hk (Nat.le_refl _) hS,rfl,q _ _ _ (oy ns) (Nat.le_trans (firstMet_length_le _ _) hl) (I.hok.fresh (Nat.le_refl _))⟩
theorem wB:bootBuiltins "set"=some (.type "set"):=by decide +kernel
theorem zC:Fj X (.builtin "len") (fun xs H Q=>∃ p S n,xs=[.ref p]∧H p=some (.set S n)∧n ≤ 1000∧Q (.int (n:Nat)) H):=by
 intro pins s σ H xs us Q I r h;obtain ⟨p,S,n,rfl,e,hn,q⟩:=h;obtain ⟨u,rfl,ru⟩:=Zn r;cases ru;obtain ⟨o,es,ep,t,h1,h2,h3,_,_,_,h4,h5⟩:=(show s.heap.SetOf (intKind X.prog X.w) p S n from I.hok p _ e);refine call_len_set h1 h2 h3 h4 (by omega) ⟨.int (n:Nat),H,I.tok _,⟨_,by rw [h5]⟩,q⟩
theorem FF {R:(List Key × V)→(List Key × Addr × Value)→Prop} {kvs:List (List Key × V)} {xs:List (List Key × Addr × Value)} (h:Paired (fun p q=>p.1=q.1∧R p q) kvs xs) (f:List Key→Int):(kvs.map fun p=>f p.1)=xs.map fun x=>f x.1:=by
 induction h with
 | nil=>rfl
 | cons z _ ih=>rw [List.map_cons,List.map_cons,ih,z.1]
theorem gB:Fj X (.type "dict") (fun xs H Q=>∃ d kvs,xs=[.ref d]∧Hm X.prog X.w H d kvs∧(kvs.map fun p=>nL X.prog X.w p.1).Nodup∧∀ p o,H p=none→Hm X.prog X.w (upd H p (.ext (AtO p o))) p kvs→Q (.ref p) (upd H p (.ext (AtO p o)))):=by
 intro pins s σ H xs us Q I r h;obtain ⟨d,kvs,rfl,⟨o,es,ep,xs,D⟩,hn,q⟩:=h;obtain ⟨u,rfl,ru⟩:=Zn r;cases ru;have hlen:=Wp D.ks;have hsz:es.size=xs.length:=size_of_entries D.ent;refine CH D.ns (Yp I.hok D) (fun e he=>?_) ?_ (by have:=D.sz;omega) fun h' o' ep' g1 g2 g3 g4=>?_
 ·obtain ⟨x,hx,rfl⟩:=List.mem_map.mp (D.ent ▸ Array.mem_toList_iff.mpr he);obtain ⟨i,hi⟩:=List.getElem?_of_mem hx;have hi':i < kvs.length:=by rw [hlen];exact (List.getElem?_eq_some_iff.mp hi).1
  obtain ⟨y,hy,z⟩:=bE D.ks (List.getElem?_eq_getElem hi');rw [hi] at hy;cases hy;obtain ⟨ob,its,n,h1,h2,_⟩:=Xq I.hok z.2.1;exact ⟨x.2.1,rfl,ob,h1,h2⟩
 ·rw [D.ent,List.map_map];rw [FF D.ks (fun k=>nL X.prog X.w k)] at hn;exact hn
 ·have hp:H s.heap.objs.size=none:=I.hok.fresh (Nat.le_refl _);have S1:ac H (upd H s.heap.objs.size (.ext (AtO s.heap.objs.size o'))):=gb hp;refine ⟨.ref s.heap.objs.size,_,I.laid (a:=s.heap.objs.size) (o:=.ext (AtO s.heap.objs.size o')) (t':=s.toks) g4 (Nat.le_refl _) ⟨g1,⟨o',g1⟩,fun _ _ q k=>k o' q⟩,rfl,q _ _ hp ⟨o',es,ep',xs,ib,g2,g3,D.ent,D.nd,Paired.mapP D.ks fun p q z=>⟨z.1,S1 _ _ z.2.1,z.2.2⟩,D.sz,beq_eq_false_iff_ne.mpr (Ne.symm (Nat.ne_of_lt I.big))⟩⟩
end
noncomputable def hsh (p:Nat × Nat):Int:=reduceHash (Builtin.Tuple.tupleHashOf [hashInt (p.1:Int),hashInt (p.2:Int)])
noncomputable def prs:List (Nat × Nat):=(List.range 6).flatMap fun i=>(List.range 6).map fun j=>(i,j)
theorem NL:(prs.map hsh).Nodup:=by decide +kernel
theorem TC {p:Nat × Nat} (h1:p.1 < 6) (h2:p.2 < 6):p ∈ prs:=List.mem_flatMap.mpr ⟨p.1,List.mem_range.mpr h1,List.mem_map.mpr ⟨p.2,List.mem_range.mpr h2,rfl⟩⟩
theorem LK {α:Type} {f:α→Int} {l:List α} (h:(l.map f).Nodup):∀ x ∈ l,∀ y ∈ l,f x=f y→x=y:=by
 induction l with
 | nil=>intro x hx;cases hx
 | cons a l ih=>
  rw [List.map_cons,List.nodup_cons] at h;intro x hx y hy e;rcases List.mem_cons.mp hx with hx | hx <;> rcases List.mem_cons.mp hy with hy | hy
  ·rw [hx,hy]
  ·rw [hx] at e;exact absurd (e ▸ List.mem_map_of_mem hy) h.1
  ·rw [hy] at e;exact absurd (e ▸ List.mem_map_of_mem hx) h.1
  ·exact ih h.2 x hx y hy e
end My
namespace My
open PySem L2
structure Sys where
 m:Nat
 e:Nat→Nat→Bool
 st:Nat→Nat→Int
 al:Nat→Int
structure Sys.Ok (S:Sys):Prop where
 lt:∀ {i j},S.e i j=true→i < S.m∧j < S.m∧i ≠ j
 sy:∀ {i j},S.e i j=true→S.e j i=true
 s1:∀ {i j},S.e i j=true→1 ≤ S.st i j
 a1:∀ {i},i < S.m→1 ≤ S.al i
noncomputable abbrev Od:=List (Nat × Nat)
noncomputable def inO (o:Od) (i j:Nat):Bool:=decide ((i,j) ∈ o) || decide ((j,i) ∈ o)
noncomputable def wtO (S:Sys) (z:Int) (o:Od) (i j:Nat):Int:=if (j,i) ∈ o then S.st i j - z else S.st i j
noncomputable def pwO (S:Sys) (z:Int) (o:Od):List Nat→Int
 | []=>0
 | [_]=>0
 | x :: y :: r=>wtO S z o x y + pwO S z o (y :: r)
noncomputable def Fp (o:Od):List Nat→Bool
 | []=>true
 | [_]=>true
 | x :: y :: r=>inO o x y && Fp o (y :: r)
noncomputable def Qf (S:Sys) (z:Int) (o:Od) (r:List Nat):Bool:=decide (2 ≤ r.length) && decide r.Nodup && Fp o (r ++ r.take 1) && decide (0 < pwO S z o (r ++ r.take 1))
inductive Pap where
 | alone (k:Nat)
 | ring (r:List Nat)
 | case (i j:Nat) (p q:Pap)
noncomputable def Cg (S:Sys) (z:Int) (o:Od):Pap→Bool
 | .alone k=>decide (z < S.al k)
 | .ring r=>Qf S z o r
 | .case i j p q=>S.e i j && !inO o i j && Cg S z (o ++ [(i,j)]) p && Cg S z (o ++ [(j,i)]) q
noncomputable def uv (m:Nat):Nat→Pap→Prop
 | _,.alone k=>k < m
 | _,.ring r=>∀ k ∈ r,k < m
 | 0,.case _ _ _ _=>False
 | d + 1,.case i j p q=>i < m∧j < m∧uv m d p∧uv m d q
noncomputable def Sl (S:Sys) (z:Int) (b:Nat→Int):Prop:=(∀ k,k < S.m→S.al k ≤ z)∧∀ i j,S.e i j=true→S.st i j ≤ (b j - b i) % z
noncomputable def cB (z:Int) (b:Nat→Int) (i:Nat):Int:=(b i - b 0) % z
noncomputable def vK (S:Sys) (z:Int) (b:Nat→Int) (o:Od):Prop:=∀ q ∈ o,S.e q.1 q.2=true∧cB z b q.1 < cB z b q.2
section
variable {S:Sys} {z:Int} {b:Nat→Int} {o:Od}
theorem Dw (hz:0 < z) (i:Nat):0 ≤ cB z b i∧cB z b i < z:=⟨Int.emod_nonneg _ (by omega),Int.emod_lt_of_pos _ hz⟩
theorem YA (i j:Nat):(b j - b i) % z=(cB z b j - cB z b i) % z:=by
 unfold cB;rw [show b j - b i=(b j - b 0) - (b i - b 0) by omega,Int.sub_emod]
theorem mdU {x y:Int} (h:x ≤ y) (hx:0 ≤ x) (hy:y < z):(y - x) % z=y - x:=Int.emod_eq_of_lt (by omega) (by omega)
theorem mdD {x y:Int} (h:y < x) (hx:x < z) (hy:0 ≤ y):(y - x) % z=y - x + z:=by
 rw [← Int.add_emod_right];exact Int.emod_eq_of_lt (by omega) (by omega)
theorem Sl.ne (k:S.Ok) (D:Sl S z b) {i j:Nat} (h:S.e i j=true):cB z b i ≠ cB z b j:=fun q=>by
 have h1:=D.2 i j h;have h2:=k.s1 h;rw [YA,q,Int.sub_self,Int.zero_emod] at h1;omega
theorem Sl.step (k:S.Ok) (hz:0 < z) (D:Sl S z b) (C:vK S z b o) {i j:Nat} (h:inO o i j=true):wtO S z o i j ≤ cB z b j - cB z b i:=by
 have r1:=Dw (b:=b) hz i;have r2:=Dw (b:=b) hz j;unfold wtO;split
 ·rename_i hm;obtain ⟨e,l⟩:S.e j i=true∧cB z b j < cB z b i:=C _ hm;have:=D.2 i j (k.sy e);rw [YA,mdD l r1.2 r2.1] at this;omega
 ·rename_i hm;have hm':(i,j) ∈ o:=by simpa [inO,hm] using h
  obtain ⟨e,l⟩:S.e i j=true∧cB z b i < cB z b j:=C _ hm';have:=D.2 i j e;rw [YA,mdU (Int.le_of_lt l) r1.1 r2.2] at this;exact this
theorem Sl.path (k:S.Ok) (hz:0 < z) (D:Sl S z b) (C:vK S z b o):∀ (r:List Nat) (x y:Nat),Fp o (x :: r ++ [y])=true→pwO S z o (x :: r ++ [y]) ≤ cB z b y - cB z b x:=by
 intro r
 induction r with
 | nil=>
  intro x y h;have h':inO o x y=true:=by simpa [Fp] using h
  have:=D.step k hz C h';show wtO S z o x y + 0 ≤ _;omega
 | cons u r ih=>
  intro x y h;have h':inO o x u=true∧Fp o (u :: r ++ [y])=true:=by simpa [Fp] using h
  have h1:=D.step k hz C h'.1;have h2:=ih u y h'.2;show wtO S z o x u + pwO S z o (u :: r ++ [y]) ≤ _;omega
theorem Sl.no_ring (k:S.Ok) (hz:0 < z) (D:Sl S z b) (C:vK S z b o) (r:List Nat):Qf S z o r=false:=by
 rw [Bool.eq_false_iff];intro h;cases r with
 | nil=>simp [Qf] at h
 | cons x r=>
  unfold Qf at h;simp only [Bool.and_eq_true,decide_eq_true_eq] at h;have:=D.path k hz C r x x h.1.2;have h2:=h.2;rw [show (x :: r) ++ (x :: r).take 1=x :: r ++ [x] from rfl] at h2;omega
theorem Sl.cons (C:vK S z b o) {i j:Nat} (h:S.e i j=true) (hl:cB z b i < cB z b j):vK S z b (o ++ [(i,j)]):=fun q hq=>by
 rcases List.mem_append.mp hq with hq | hq
 ·exact C q hq
 ·rw [List.mem_singleton.mp hq];exact ⟨h,hl⟩
theorem Sl.sound (k:S.Ok) (hz:0 < z) (D:Sl S z b) (hk:∀ i,S.m ≤ i→S.al i ≤ z):∀ (p:Pap) (o:Od),vK S z b o→Cg S z o p=false:=by
 intro p
 induction p with
 | alone i=>
  intro o _;have:S.al i ≤ z:=by
   by_cases h:i < S.m
   ·exact D.1 i h
   ·exact hk i (by omega)
  simp [Cg];omega
 | ring r=>exact fun o C=>D.no_ring k hz C r
 | case i j p q ihp ihq=>
  intro o C;unfold Cg;cases he:S.e i j with
  | false=>rfl
  | true=>
   rcases Int.lt_or_lt_of_ne (D.ne k he) with h | h
   ·rw [ihp _ (Sl.cons C he h),Bool.and_false,Bool.false_and]
   ·rw [ihq _ (Sl.cons C (k.sy he) h),Bool.and_false]
noncomputable def Dx (S:Sys):Nat→Od
 | 0=>[]
 | k + 1=>Dx S k ++ (if S.e 0 (k + 1) then [(0,k + 1)] else [])
noncomputable def Ts (S:Sys):Od:=Dx S (S.m - 1)
theorem el {k:Nat} {q:Nat × Nat} (h:q ∈ Dx S k):q.1=0∧0 < q.2∧q.2 ≤ k∧S.e 0 q.2=true:=by
 induction k with
 | zero=>cases h
 | succ k ih=>
  unfold Dx at h;rcases List.mem_append.mp h with h | h
  ·have:=ih h;exact ⟨this.1,this.2.1,by omega,this.2.2.2⟩
  ·split at h
   ·rename_i he;rw [List.mem_singleton.mp h];exact ⟨rfl,Nat.succ_pos _,Nat.le_refl _,he⟩
   ·cases h
theorem kK:∀ k,(Dx S k).Nodup:=by
 intro k
 induction k with
 | zero=>exact List.nodup_nil
 | succ k ih=>
  unfold Dx;split
  ·rw [List.nodup_append];refine ⟨ih,by simp,fun x hx y hy e=>?_⟩;have:=el hx;rw [List.mem_singleton.mp hy] at e;rw [e] at this;omega
  ·simpa using ih
theorem Sl.cons0 (k:S.Ok) (hz:0 < z) (D:Sl S z b):vK S z b (Ts S):=fun q hq=>by
 obtain ⟨h1,h2,h3,h4⟩:=el hq;rw [h1];refine ⟨h4,?_⟩;have hn:=D.ne k h4;have h0:cB z b 0=0:=by unfold cB;rw [Int.sub_self,Int.zero_emod]
 have:=Dw (b:=b) hz q.2;omega
theorem Sl.more (hz:0 < z) (D:Sl S z b) {y:Int} (h:z ≤ y):Sl S y (cB z b):=by
 refine ⟨fun i hi=>Int.le_trans (D.1 i hi) h,fun i j e=>?_⟩;have r1:=Dw (b:=b) hz i;have r2:=Dw (b:=b) hz j;have:=D.2 i j e;rw [YA] at this;rcases Int.lt_or_le (cB z b j) (cB z b i) with q | q
 ·rw [mdD q r1.2 r2.1] at this;rw [mdD q (by omega) r2.1];omega
 ·rw [mdU q r1.1 r2.2] at this;rw [mdU q r1.1 (by omega)];exact this
theorem bG (k:S.Ok) (hk:∀ i,S.m ≤ i→S.al i ≤ z) {y:Int} {p:Pap} (h:Cg S z (Ts S) p=true) (hy:0 < y) (hl:y ≤ z):¬ Sl S y b:=fun D=>by
 have D2:=D.more hy hl;rw [D2.sound k (by omega) hk p _ (D2.cons0 k (by omega))] at h;cases h
end
section
variable {S:Sys} {z:Int} {o:Od}
noncomputable def chF (S:Sys):List Nat→Prop
 | []=>True
 | [_]=>True
 | x :: y :: r=>S.e x y=true∧chF S (y :: r)
theorem Fi:∀ (a:List Nat) (x:Nat) (r:List Nat),pwO S z o (a ++ x :: r)=pwO S z o (a ++ [x]) + pwO S z o (x :: r):=by
 intro a
 induction a with
 | nil=>intro x r;simp [pwO]
 | cons u a ih=>
  intro x r;cases a with
  | nil=>simp [pwO]
  | cons v a=>
   have:=ih x r;simp only [List.cons_append,pwO] at this ⊢;omega
theorem Kh:∀ (a:List Nat) (x:Nat) (r:List Nat),chF S (a ++ x :: r)↔chF S (a ++ [x])∧chF S (x :: r):=by
 intro a
 induction a with
 | nil=>intro x r;simp [chF]
 | cons u a ih=>
  intro x r;cases a with
  | nil=>simp [chF]
  | cons v a=>
   have:=ih x r;simp only [List.cons_append,chF] at this ⊢;rw [this,and_assoc]
theorem Sv:∀ {l:List Nat},¬ l.Nodup→∃ a x b c,l=a ++ x :: (b ++ x :: c):=by
 intro l
 induction l with
 | nil=>intro h;exact absurd List.nodup_nil h
 | cons y t ih=>
  intro h;by_cases hy:y ∈ t
  ·obtain ⟨b,c,rfl⟩:=List.append_of_mem hy;exact ⟨[],y,b,c,rfl⟩
  ·obtain ⟨a,x,b,c,rfl⟩:=ih (fun q=>h (List.nodup_cons.mpr ⟨hy,q⟩));exact ⟨y :: a,x,b,c,rfl⟩
theorem eI:∀ {l:List Nat},l ≠ []→∃ y ∈ l,∀ x ∈ l,y ≤ x:=by
 intro l
 induction l with
 | nil=>intro h;exact absurd rfl h
 | cons x l ih=>
  intro _;by_cases hl:l=[]
  ·subst hl;exact ⟨x,by simp,by simp⟩
  ·obtain ⟨y,hy,h⟩:=ih hl;by_cases q:x ≤ y
   ·refine ⟨x,List.mem_cons_self ..,fun u hu=>?_⟩;rcases List.mem_cons.mp hu with rfl | hu
    ·exact Nat.le_refl _
    ·exact Nat.le_trans q (h u hu)
   ·refine ⟨y,List.mem_cons_of_mem _ hy,fun u hu=>?_⟩;rcases List.mem_cons.mp hu with rfl | hu
    ·omega
    ·exact h u hu
noncomputable def Yo (S:Sys) (z:Int) (o:Od):Prop:=∀ x t,(x :: t).Nodup→(∀ y ∈ t,x < y)→t ≠ []→chF S (x :: t ++ [x])→pwO S z o (x :: t ++ [x]) ≤ 0
theorem Yo.simple (k:S.Ok) (R:Yo S z o) {x:Nat} {t:List Nat} (nd:(x :: t).Nodup) (h:chF S (x :: t ++ [x])):pwO S z o (x :: t ++ [x]) ≤ 0:=by
 have ht:t ≠ []:=fun q=>by
  subst q;exact (k.lt h.1).2.2 rfl
 obtain ⟨y,hy,hl⟩:=eI (l:=x :: t) (by simp);obtain ⟨a,c,e⟩:=List.append_of_mem hy;cases a with
 | nil=>
  cases e;refine R x t nd (fun u hu=>?_) ht h;have:=hl u (List.mem_cons_of_mem _ hu);have:u ≠ x:=fun q=>(List.nodup_cons.mp nd).1 (q ▸ hu)
  omega
 | cons x' a=>
  rw [List.cons_append,List.cons.injEq] at e;obtain ⟨rfl,rfl⟩:=e;have e1:x :: (a ++ y :: c) ++ [x]=(x :: a) ++ y :: (c ++ [x]):=by simp
  have e2:y :: (c ++ x :: a) ++ [y]=(y :: c) ++ x :: (a ++ [y]):=by simp
  rw [e1,Kh] at h;have nd':(y :: (c ++ x :: a)).Nodup:=by
   have:=(List.perm_append_comm (l₁:=x :: a) (l₂:=y :: c)).nodup_iff.mp nd;simpa using this
  have:=R y (c ++ x :: a) nd' (fun u hu=>by
   have h1:=hl u (by
    rcases List.mem_append.mp hu with q | q
    ·simp [q]
    ·rcases List.mem_cons.mp q with rfl | q
     ·simp
     ·simp [q])
   have h2:u ≠ y:=fun q=>(List.nodup_cons.mp nd').1 (q ▸ hu)
   omega) (by simp) (by rw [e2,Kh];exact ⟨by simpa using h.2,by simpa using h.1⟩)
  rw [e2,Fi] at this;rw [e1,Fi];simp only [List.cons_append] at this ⊢;omega
theorem Yo.closed (k:S.Ok) (R:Yo S z o):∀ (n:Nat) (x:Nat) (t:List Nat),t.length ≤ n→chF S (x :: t ++ [x])→pwO S z o (x :: t ++ [x]) ≤ 0:=by
 intro n
 induction n with
 | zero=>
  intro x t hn h;have:t=[]:=List.length_eq_zero_iff.mp (by omega);subst this;exact absurd rfl (k.lt h.1).2.2
 | succ n ih=>
  intro x t hn h;by_cases nd:(x :: t).Nodup
  ·exact R.simple k nd h
  ·obtain ⟨a,y,b,c,e⟩:=Sv nd;have hlen:=congrArg List.length e;simp only [List.length_cons,List.length_append] at hlen;rw [e,show a ++ y :: (b ++ y :: c) ++ [x]=a ++ y :: (b ++ y :: (c ++ [x])) by simp,Kh] at h;obtain ⟨h1,h2⟩:=h;rw [show y :: (b ++ y :: (c ++ [x]))=(y :: b) ++ y :: (c ++ [x]) by simp,Kh] at h2;obtain ⟨h2,h3⟩:=h2;have i1:=ih y b (by omega) h2;rw [e,show a ++ y :: (b ++ y :: c) ++ [x]=a ++ y :: (b ++ y :: (c ++ [x])) by simp,Fi,show y :: (b ++ y :: (c ++ [x]))=(y :: b) ++ y :: (c ++ [x]) by simp,Fi (y :: b)];have i2:pwO S z o (a ++ [y]) + pwO S z o (y :: (c ++ [x])) ≤ 0:=by
    rw [← Fi];cases a with
    | nil=>
     cases e;exact ih x c (by simp at hn;omega) h3
    | cons x' a=>
     rw [List.cons_append,List.cons.injEq] at e;obtain ⟨rfl,rfl⟩:=e;refine ih x (a ++ y :: c) (by simp at hn ⊢;omega) ?_ |> fun q=>by simpa using q
     rw [show x :: (a ++ y :: c) ++ [x]=(x :: a) ++ y :: (c ++ [x]) by simp,Kh];exact ⟨h1,h3⟩
   omega
theorem Yo.cut (k:S.Ok) (R:Yo S z o) (v:Nat):∀ (n:Nat) (l:List Nat),l.length ≤ n→chF S (l ++ [v])→∃ l',chF S (l' ++ [v])∧(l' ++ [v]).Nodup∧pwO S z o (l ++ [v]) ≤ pwO S z o (l' ++ [v]):=by
 intro n
 induction n with
 | zero=>
  intro l hn h;have:l=[]:=List.length_eq_zero_iff.mp (by omega);subst this;exact ⟨[],h,by simp,Int.le_refl _⟩
 | succ n ih=>
  intro l hn h;by_cases nd:(l ++ [v]).Nodup
  ·exact ⟨l,h,nd,Int.le_refl _⟩
  ·obtain ⟨a,y,b,c,e⟩:=Sv nd;have hlen:=congrArg List.length e;simp only [List.length_cons,List.length_append,List.length_nil] at hlen;rw [e,Kh] at h;obtain ⟨h1,h2⟩:=h;rw [show y :: (b ++ y :: c)=(y :: b) ++ y :: c by simp,Kh] at h2;obtain ⟨h2,h3⟩:=h2;have i1:=R.closed k b.length y b (Nat.le_refl _) h2;obtain ⟨d,ed⟩:∃ d,a ++ y :: c=d ++ [v]:=by
    rcases List.eq_nil_or_concat c with rfl | ⟨c',u,rfl⟩
    ·have:l ++ [v]=(a ++ y :: b) ++ [y]:=by rw [e];simp
     have:=(List.append_inj' this rfl).2;cases this;exact ⟨a,by simp⟩
    ·have:l ++ [v]=(a ++ y :: (b ++ y :: c')) ++ [u]:=by rw [e];simp
     have:=(List.append_inj' this rfl).2;cases this;exact ⟨a ++ y :: c',by simp⟩
   have hd:=congrArg List.length ed;simp only [List.length_cons,List.length_append,List.length_nil] at hd;obtain ⟨l',g1,g2,g3⟩:=ih d (by omega) (by rw [← ed,Kh];exact ⟨h1,h3⟩);refine ⟨l',g1,g2,Int.le_trans ?_ g3⟩;rw [← ed,e,Fi,show y :: (b ++ y :: c)=(y :: b) ++ y :: c by simp,Fi (y :: b),Fi a y c];simp only [List.cons_append] at i1 ⊢;omega
noncomputable def relax (S:Sys) (z:Int) (o:Od) (b:Nat→Int) (p:Nat × Nat):Nat→Int:=fun v=>if v=p.2 then max (b p.2) (b p.1 + wtO S z o p.1 p.2) else b v
theorem uz (b:Nat→Int) (p:Nat × Nat) (v:Nat):b v ≤ relax S z o b p v:=by
 unfold relax;split
 ·rename_i h;rw [h];exact Int.le_max_left ..
 ·exact Int.le_refl _
theorem VC:∀ (E:Od) (b:Nat→Int) (v:Nat),b v ≤ E.foldl (relax S z o) b v:=by
 intro E
 induction E with
 | nil=>intro b v;exact Int.le_refl _
 | cons p E ih=>intro b v;exact Int.le_trans (uz b p v) (ih _ v)
theorem HK:∀ (E:Od) (b:Nat→Int) {u v:Nat},(u,v) ∈ E→b u + wtO S z o u v ≤ E.foldl (relax S z o) b v:=by
 intro E
 induction E with
 | nil=>intro b u v h;cases h
 | cons p E ih=>
  intro b u v h;rcases List.mem_cons.mp h with rfl | h
  ·refine Int.le_trans ?_ (VC E _ v);show _ ≤ relax S z o b (u,v) v;unfold relax;rw [if_pos rfl];exact Int.le_max_right ..
  ·have:=uz (S:=S) (z:=z) (o:=o) b p u;exact Int.le_trans (by omega) (ih _ h)
noncomputable def Wk (S:Sys) (z:Int) (o:Od) (b:Nat→Int):Prop:=∀ v,∃ l,chF S (l ++ [v])∧pwO S z o (l ++ [v])=b v
theorem Wk.relax {b:Nat→Int} (h:Wk S z o b) {p:Nat × Nat} (hp:S.e p.1 p.2=true):Wk S z o (relax S z o b p):=fun v=>by
 unfold My.relax;split
 ·rename_i hv;rcases Int.le_total (b p.1 + wtO S z o p.1 p.2) (b p.2) with q | q
  ·rw [Int.max_eq_left q,hv];exact h _
  ·rw [Int.max_eq_right q,hv];obtain ⟨l,h1,h2⟩:=h p.1;refine ⟨l ++ [p.1],?_,?_⟩
   ·rw [show l ++ [p.1] ++ [p.2]=l ++ p.1 :: [p.2] by simp,Kh];exact ⟨h1,hp,trivial⟩
   ·rw [show l ++ [p.1] ++ [p.2]=l ++ p.1 :: [p.2] by simp,Fi,h2];simp [pwO]
 ·exact h v
theorem Wk.fold:∀ (E:Od) {b:Nat→Int},Wk S z o b→(∀ p ∈ E,S.e p.1 p.2=true)→Wk S z o (E.foldl (My.relax S z o) b):=by
 intro E
 induction E with
 | nil=>intro b h _;exact h
 | cons p E ih=>intro b h hE;exact ih (h.relax (hE p (List.mem_cons_self ..))) fun q hq=>hE q (List.mem_cons_of_mem _ hq)
noncomputable def Dq (S:Sys) (z:Int) (o:Od) (E:Od):Nat→Nat→Int
 | 0=>fun _=>0
 | k + 1=>E.foldl (relax S z o) (Dq S z o E k)
theorem RG {E:Od} (hE:∀ p ∈ E,S.e p.1 p.2=true):∀ k,Wk S z o (Dq S z o E k):=by
 intro k
 induction k with
 | zero=>exact fun v=>⟨[],trivial,rfl⟩
 | succ k ih=>exact ih.fold E hE
theorem PH {E:Od} (hE:∀ i j,S.e i j=true→(i,j) ∈ E):∀ (k:Nat) (v:Nat) (l:List Nat),l.length ≤ k→chF S (l ++ [v])→pwO S z o (l ++ [v]) ≤ Dq S z o E k v:=by
 intro k
 induction k with
 | zero=>
  intro v l hl h;have:l=[]:=List.length_eq_zero_iff.mp (by omega);subst this;exact Int.le_refl _
 | succ k ih=>
  intro v l hl h;rcases List.eq_nil_or_concat l with rfl | ⟨l',u,rfl⟩
  ·exact Int.le_trans (ih v [] (Nat.zero_le _) h) (VC E _ v)
  ·rw [show l'.concat u ++ [v]=l' ++ u :: [v] by simp,Kh] at h;have h1:=ih u l' (by simpa using hl) h.1;have h2:=HK (S:=S) (z:=z) (o:=o) E (Dq S z o E k) (hE u v h.2.1);rw [show l'.concat u ++ [v]=l' ++ u :: [v] by simp,Fi];show _ ≤ E.foldl (relax S z o) (Dq S z o E k) v;simp only [pwO];omega
theorem jN (k:S.Ok) {v:Nat} (hv:v < S.m):∀ {l:List Nat},chF S (l ++ [v])→∀ x ∈ l ++ [v],x < S.m:=by
 intro l
 induction l with
 | nil=>intro _ x hx;rw [List.mem_singleton.mp hx];exact hv
 | cons u l ih=>
  intro h x hx;have h':S.e u ((l ++ [v]).headD 0)=true∧chF S (l ++ [v]):=by
   cases l with
   | nil=>exact h
   | cons y l=>exact h
  rcases List.mem_cons.mp hx with rfl | hx
  ·exact (k.lt h'.1).1
  ·exact ih h'.2 x hx
theorem EA {m:Nat} {l:List Nat} (nd:l.Nodup) (h:∀ x ∈ l,x < m):l.length ≤ m:=by
 induction m generalizing l with
 | zero=>
  cases l with
  | nil=>exact Nat.le_refl _
  | cons x l=>exact absurd (h x (List.mem_cons_self ..)) (Nat.not_lt_zero _)
 | succ m ih=>
  by_cases q:m ∈ l
  ·have:=ih (nd.erase m) fun x hx=>by
    have h1:=h x (List.mem_of_mem_erase hx);have h2:=(nd.mem_erase_iff.mp hx).1;omega
   rw [List.length_erase_of_mem q] at this;omega
  ·have:=ih nd fun x hx=>by
    have h1:=h x hx;have h2:x ≠ m:=fun e=>q (e ▸ hx)
    omega
   omega
theorem fB (k:S.Ok) {E:Od} (hE:∀ p ∈ E,S.e p.1 p.2=true) (hF:∀ i j,S.e i j=true→(i,j) ∈ E) (R:Yo S z o) {i j:Nat} (h:S.e i j=true):Dq S z o E S.m i + wtO S z o i j ≤ Dq S z o E S.m j:=by
 obtain ⟨l,h1,h2⟩:=RG (z:=z) (o:=o) hE S.m i;have c1:chF S ((l ++ [i]) ++ [j]):=by
  rw [show l ++ [i] ++ [j]=l ++ i :: [j] by simp,Kh];exact ⟨h1,h,trivial⟩
 obtain ⟨l',g1,g2,g3⟩:=R.cut k j _ (l ++ [i]) (Nat.le_refl _) c1;have hn:=EA g2 (jN k (k.lt h).2.1 g1);have:=PH (z:=z) (o:=o) hF S.m j l' (by simp at hn;omega) g1;rw [show l ++ [i] ++ [j]=l ++ i :: [j] by simp,Fi,h2] at g3;simp only [pwO] at g3;omega
theorem dw (k:S.Ok) (hz:0 < z) (ha:∀ i,i < S.m→S.al i ≤ z) {b:Nat→Int} (ho:∀ i j,S.e i j=true→inO o i j=true) (hs:∀ i j,(i,j) ∈ o→(j,i) ∉ o) (h:∀ i j,S.e i j=true→b i + wtO S z o i j ≤ b j):Sl S z b:=by
 refine ⟨ha,fun i j e=>?_⟩;have h1:=h i j e;have h2:=h j i (k.sy e);have s1:=k.s1 e;have s2:=k.s1 (k.sy e);unfold wtO at h1 h2;by_cases q:(j,i) ∈ o
 ·rw [if_pos q] at h1;rw [if_neg (hs _ _ q)] at h2;rw [← Int.add_emod_right,Int.emod_eq_of_lt (by omega) (by omega)];omega
 ·have q':(i,j) ∈ o:=by simpa [inO,q] using ho i j e
  rw [if_neg q] at h1;rw [if_pos q'] at h2;rw [Int.emod_eq_of_lt (by omega) (by omega)];omega
end
noncomputable def Pl (p:List Nat):Nat:=p.getLast?.getD 0
noncomputable def bC (S:Sys) (p:List Nat):List (List Nat):=((((List.range (S.m - (p.headD 0 + 1))).map fun k=>p.headD 0 + 1 + k).filter fun v=>S.e (Pl p) v).filter fun v=>decide (v ∉ p)).map fun v=>p ++ [v]
noncomputable def lev (S:Sys):Nat→List (List Nat)
 | 0=>(List.range S.m).map fun k=>[k]
 | k + 1=>(lev S k).flatMap (bC S)
noncomputable def clR (S:Sys) (p:List Nat):Bool:=S.e (Pl p) (p.headD 0)
noncomputable def rh (S:Sys):Nat→List (List Nat)
 | 0=>[]
 | k + 1=>rh S k ++ (lev S (k + 1)).filter (clR S)
section
variable {S:Sys} {z:Int} {o:Od}
theorem Bt (a:List Nat) (u:Nat):Pl (a ++ [u])=u:=by unfold Pl;simp
theorem Sy {p q:List Nat}:q ∈ bC S p↔∃ v,q=p ++ [v]∧p.headD 0 < v∧v < S.m∧S.e (Pl p) v=true∧v ∉ p:=by
 unfold bC;constructor
 ·intro h;obtain ⟨v,hv,rfl⟩:=List.mem_map.mp h;obtain ⟨hv,h2⟩:=List.mem_filter.mp hv;obtain ⟨hv,h1⟩:=List.mem_filter.mp hv;obtain ⟨k,hk,rfl⟩:=List.mem_map.mp hv;have:=List.mem_range.mp hk;exact ⟨_,rfl,by omega,by omega,h1,of_decide_eq_true h2⟩
 ·rintro ⟨v,rfl,h1,h2,h3,h4⟩;refine List.mem_map.mpr ⟨v,List.mem_filter.mpr ⟨List.mem_filter.mpr ⟨List.mem_map.mpr ⟨v - (p.headD 0 + 1),List.mem_range.mpr (by omega),by omega⟩,h3⟩,decide_eq_true h4⟩,rfl⟩
theorem Rz:∀ (k:Nat) (p:List Nat),p ∈ lev S k→p.length=k + 1∧p.Nodup∧∀ x ∈ p,x < S.m:=by
 intro k
 induction k with
 | zero=>
  intro p h;obtain ⟨v,hv,rfl⟩:=List.mem_map.mp h;exact ⟨rfl,by simp,fun x hx=>by rw [List.mem_singleton.mp hx];exact List.mem_range.mp hv⟩
 | succ k ih=>
  intro p h;obtain ⟨q,hq,h⟩:=List.mem_flatMap.mp h;obtain ⟨v,rfl,h1,h2,h3,h4⟩:=Sy.mp h;obtain ⟨i1,i2,i3⟩:=ih q hq;refine ⟨by rw [List.length_append,i1];rfl,?_,fun x hx=>?_⟩
  ·rw [List.nodup_append];exact ⟨i2,by simp,fun x hx y hy e=>h4 (by rw [← List.mem_singleton.mp hy,← e];exact hx)⟩
  ·rcases List.mem_append.mp hx with hx | hx
   ·exact i3 x hx
   ·rw [List.mem_singleton.mp hx];exact h2
theorem TK:lev S S.m=[]:=by
 refine List.eq_nil_iff_forall_not_mem.mpr fun p hp=>?_
 obtain ⟨h1,h2,h3⟩:=Rz _ p hp;have:=EA h2 h3;omega
theorem nz {k:Nat} (h:lev S k=[]):∀ i,lev S (k + i)=[]:=by
 intro i
 induction i with
 | zero=>exact h
 | succ i ih=>show (lev S (k + i)).flatMap (bC S)=[];rw [ih];rfl
theorem fF {p:List Nat} {v:Nat} (hp:p ≠ []) (h:chF S (p ++ [v])):S.e (Pl p) v=true:=by
 rcases List.eq_nil_or_concat p with rfl | ⟨a,u,rfl⟩
 ·exact absurd rfl hp
 ·rw [List.concat_eq_append,List.append_assoc] at h;rw [List.concat_eq_append,Bt];exact ((Kh a u [v]).mp h).2.1
theorem qK:∀ (n:Nat) (x:Nat) (t:List Nat),t.length=n→(x :: t).Nodup→(∀ y ∈ t,x < y)→chF S (x :: t)→(∀ y ∈ x :: t,y < S.m)→x :: t ∈ lev S n:=by
 intro n
 induction n with
 | zero=>
  intro x t hn _ _ _ h;have:t=[]:=List.length_eq_zero_iff.mp hn;subst this;exact List.mem_map.mpr ⟨x,List.mem_range.mpr (h x (List.mem_cons_self ..)),rfl⟩
 | succ n ih=>
  intro x t hn nd hl hc hm;rcases List.eq_nil_or_concat t with rfl | ⟨a,v,rfl⟩
  ·cases hn
  ·rw [List.concat_eq_append] at *;rw [← List.cons_append] at nd hc hm ⊢;rw [List.nodup_append] at nd;have hc':chF S (x :: a):=by
    rcases List.eq_nil_or_concat a with rfl | ⟨b,u,rfl⟩
    ·exact trivial
    ·rw [List.concat_eq_append,← List.cons_append] at hc ⊢;rw [List.append_assoc] at hc;exact ((Kh (x :: b) u [v]).mp hc).1
   refine List.mem_flatMap.mpr ⟨x :: a,ih x a (by simpa using hn) nd.1 (fun y hy=>hl y (by simp [hy])) hc' (fun y hy=>hm y (by simp only [List.mem_append];exact .inl hy)),Sy.mpr ⟨v,rfl,hl v (by simp),hm v (by simp),fF (by simp) hc,fun h=>nd.2.2 v h v (by simp) rfl⟩⟩
theorem YB {r:List Nat}:∀ {k:Nat},r ∈ rh S k→∃ i,i < k∧r ∈ lev S (i + 1):=by
 intro k
 induction k with
 | zero=>intro h;cases h
 | succ k ih=>
  intro h;rcases List.mem_append.mp h with h | h
  ·obtain ⟨i,hi,h⟩:=ih h;exact ⟨i,by omega,h⟩
  ·exact ⟨k,by omega,(List.mem_filter.mp h).1⟩
theorem UD {r:List Nat} {i k:Nat} (hi:i < k) (h:r ∈ lev S (i + 1)) (hc:clR S r=true):r ∈ rh S k:=by
 induction k with
 | zero=>omega
 | succ k ih=>
  by_cases q:i < k
  ·exact List.mem_append_left _ (ih q)
  ·have:i=k:=by omega
   subst this;exact List.mem_append_right _ (List.mem_filter.mpr ⟨h,hc⟩)
theorem GC (k:S.Ok) {K:Nat} (hK:lev S K=[]) {x:Nat} {t:List Nat} (nd:(x :: t).Nodup) (hl:∀ y ∈ t,x < y) (ht:t ≠ []) (hc:chF S (x :: t ++ [x])):x :: t ∈ rh S K:=by
 obtain ⟨a,u,e⟩:∃ a u,t=a ++ [u]:=by
  rcases List.eq_nil_or_concat t with q | ⟨a,u,q⟩
  ·exact absurd q ht
  ·exact ⟨a,u,by rw [q,List.concat_eq_append]⟩
 have hlast:=fF (p:=x :: t) (by simp) hc;have hx:=(k.lt hlast).2.1;have hc':chF S (x :: t):=by
  rw [e,← List.cons_append] at hc ⊢;rw [List.append_assoc] at hc;exact ((Kh (x :: a) u [x]).mp hc).1
 have hm:x :: t ∈ lev S t.length:=qK _ x t rfl nd hl hc' (fun y hy=>jN k hx hc y (List.mem_append_left _ hy));have h1:t.length < K:=by
  rcases Nat.lt_or_ge t.length K with q | q
  ·exact q
  ·have:=nz hK (t.length - K);rw [show K + (t.length - K)=t.length by omega] at this;rw [this] at hm;cases hm
 have h0:0 < t.length:=List.length_pos_iff.mpr ht;refine UD (i:=t.length - 1) (by omega) (by rw [show t.length - 1 + 1=t.length by omega];exact hm) hlast
theorem wE (ho:∀ i j,S.e i j=true→inO o i j=true):∀ (l:List Nat),chF S l→Fp o l=true:=by
 intro l
 induction l with
 | nil=>intro _;rfl
 | cons x l ih=>
  intro h;cases l with
  | nil=>rfl
  | cons y l=>
   have h':S.e x y=true∧chF S (y :: l):=h;show (inO o x y && Fp o (y :: l))=true;rw [ho _ _ h'.1,ih h'.2];rfl
theorem QB (k:S.Ok) {K:Nat} (hK:lev S K=[]) (ho:∀ i j,S.e i j=true→inO o i j=true) (h:∀ r ∈ rh S K,Qf S z o r=false):Yo S z o:=fun x t nd hl ht hc=>by
 have hb:=h _ (GC k hK nd hl ht hc);have h0:0 < t.length:=List.length_pos_iff.mpr ht;unfold Qf at hb;rw [show (x :: t) ++ (x :: t).take 1=x :: t ++ [x] from rfl,wE ho _ hc,decide_eq_true (show 2 ≤ (x :: t).length by rw [List.length_cons];omega),decide_eq_true nd] at hb;simpa using hb
theorem QA (p:List Nat):(bC S p).length ≤ S.m:=by
 unfold bC;rw [List.length_map];refine Nat.le_trans (List.length_filter_le ..) (Nat.le_trans (List.length_filter_le ..) ?_);rw [List.length_map,List.length_range];omega
theorem vz {f:List Nat→List (List Nat)} {c:Nat} (h:∀ p,(f p).length ≤ c):∀ l:List (List Nat),(l.flatMap f).length ≤ l.length * c:=by
 intro l
 induction l with
 | nil=>simp
 | cons p l ih=>
  rw [List.flatMap_cons,List.length_append,List.length_cons,Nat.succ_mul];have:=h p;omega
theorem JC:∀ k,(lev S k).length ≤ S.m ^ (k + 1):=by
 intro k
 induction k with
 | zero=>simp [lev]
 | succ k ih=>
  show ((lev S k).flatMap (bC S)).length ≤ _;refine Nat.le_trans (vz QA _) ?_;rw [Nat.pow_succ];exact Nat.mul_le_mul_right _ ih
end
structure Iy (S:Sys) (o:Od):Prop where
 e:∀ p ∈ o,S.e p.1 p.2=true
 nd:o.Nodup
 as:∀ i j,(i,j) ∈ o→(j,i) ∉ o
theorem Iy.len {S:Sys} {o:Od} (h:Iy S o) (k:S.Ok) (hm:S.m ≤ 6):o.length ≤ 36:=by
 have h1:(o.map fun p=>p.1 * 6 + p.2).Nodup:=by
  have:∀ l:Od,l.Nodup→(∀ p ∈ l,p.1 < 6∧p.2 < 6)→(l.map fun p=>p.1 * 6 + p.2).Nodup:=by
   intro l
   induction l with
   | nil=>intro _ _;exact List.nodup_nil
   | cons p l ih=>
    intro nd hl;rw [List.nodup_cons] at nd;rw [List.map_cons,List.nodup_cons];refine ⟨fun hx=>?_,ih nd.2 fun q hq=>hl q (List.mem_cons_of_mem _ hq)⟩;obtain ⟨q,hq,e⟩:=List.mem_map.mp hx;have a1:=hl p (List.mem_cons_self ..);have a2:=hl q (List.mem_cons_of_mem _ hq);exact nd.1 (by rw [show p=q from Prod.ext (by omega) (by omega)];exact hq)
  exact this o h.nd fun p hp=>by have:=k.lt (h.e p hp);omega
 have:=EA (m:=36) h1 fun x hx=>by
  obtain ⟨p,hp,rfl⟩:=List.mem_map.mp hx;have:=k.lt (h.e p hp);omega
 rw [List.length_map] at this;exact this
theorem Iy.in_e {S:Sys} {o:Od} (h:Iy S o) (k:S.Ok) {i j:Nat} (q:inO o i j=true):S.e i j=true:=by
 unfold inO at q;rcases Bool.or_eq_true_iff.mp q with q | q
 ·exact h.e _ (of_decide_eq_true q)
 ·exact k.sy (h.e _ (of_decide_eq_true q))
theorem Iy.put {S:Sys} {o:Od} (h:Iy S o) (k:S.Ok) {i j:Nat} (he:S.e i j=true) (hn:inO o i j=false):Iy S (o ++ [(i,j)]):=by
 unfold inO at hn;rw [Bool.or_eq_false_iff,decide_eq_false_iff_not,decide_eq_false_iff_not] at hn;refine ⟨fun p hp=>?_,?_,fun a b hab hba=>?_⟩
 ·rcases List.mem_append.mp hp with hp | hp
  ·exact h.e p hp
  ·rw [List.mem_singleton.mp hp];exact he
 ·rw [List.nodup_append];exact ⟨h.nd,by simp,fun x hx y hy e=>hn.1 (by rw [← List.mem_singleton.mp hy,← e];exact hx)⟩
 ·have hne:=(k.lt he).2.2;rcases List.mem_append.mp hab with x | x <;> rcases List.mem_append.mp hba with y | y
  ·exact h.as a b x y
  ·cases List.mem_singleton.mp y;exact hn.2 x
  ·cases List.mem_singleton.mp x;exact hn.2 y
  ·cases List.mem_singleton.mp x;cases List.mem_singleton.mp y;exact hne rfl
theorem Xp (o:Od) (i j:Nat):inO o i j=inO o j i:=Bool.or_comm ..
noncomputable def XL (m:Nat):Od:=(List.range m).flatMap fun j=>(List.range j).map fun i=>(i,j)
theorem NA {m i j:Nat} (h:i < j) (hj:j < m):(i,j) ∈ XL m:=List.mem_flatMap.mpr ⟨j,List.mem_range.mpr hj,List.mem_map.mpr ⟨i,List.mem_range.mpr h,rfl⟩⟩
noncomputable def unO (S:Sys) (o:Od):Nat:=(XL S.m).countP fun p=>S.e p.1 p.2 && !inO o p.1 p.2
theorem Fz {α:Type} {p q:α→Bool} (h:∀ x,q x=true→p x=true):∀ {l:List α} {y:α},y ∈ l→p y=true→q y=false→l.countP q < l.countP p:=by
 intro l
 induction l with
 | nil=>intro y hy;cases hy
 | cons x l ih=>
  intro y hy h1 h2;rw [List.countP_cons,List.countP_cons];have hle:l.countP q ≤ l.countP p:=List.countP_mono_left fun x _=>h x
  rcases List.mem_cons.mp hy with rfl | hy
  ·rw [h1,h2];simp;omega
  ·have:=ih hy h1 h2;by_cases hq:q x=true
   ·rw [h x hq,hq];simp;exact this
   ·rw [Bool.not_eq_true] at hq;rw [hq];simp;omega
section
variable {S:Sys} {o:Od}
theorem MK (i j a b:Nat) (h:inO o a b=true):inO (o ++ [(i,j)]) a b=true:=by
 unfold inO at h ⊢;simp only [Bool.or_eq_true,decide_eq_true_eq,List.mem_append] at h ⊢;exact h.imp .inl .inl
theorem GD (i j:Nat):inO (o ++ [(i,j)]) i j=true:=by
 unfold inO;simp
theorem jy (k:S.Ok) {i j:Nat} (he:S.e i j=true) (hn:inO o i j=false):unO S (o ++ [(i,j)]) < unO S o:=by
 have hl:=k.lt he;unfold unO;have hmono:∀ p:Nat × Nat,(S.e p.1 p.2 && !inO (o ++ [(i,j)]) p.1 p.2)=true→(S.e p.1 p.2 && !inO o p.1 p.2)=true:=fun p h=>by
  rw [Bool.and_eq_true,Bool.not_eq_true'] at h ⊢;refine ⟨h.1,?_⟩;rw [Bool.eq_false_iff];intro q;rw [MK i j _ _ q] at h;cases h.2
 rcases Nat.lt_or_gt_of_ne hl.2.2 with q | q
 ·exact Fz hmono (NA q hl.2.1) (by simp [he,hn]) (by simp [GD])
 ·refine Fz hmono (NA q hl.1) (by simp [k.sy he,Xp o j i,hn]) (by simp [Xp _ j i,GD])
theorem wL (k:S.Ok) {i j:Nat} (he:S.e i j=true) (hn:inO o i j=false):0 < unO S o:=Nat.lt_of_le_of_lt (Nat.zero_le _) (jy k he hn)
theorem xz:∀ k,(Dx S k).length ≤ k:=by
 intro k
 induction k with
 | zero=>exact Nat.le_refl _
 | succ k ih=>
  unfold Dx;rw [List.length_append];split <;> simp <;> omega
theorem DK {k j:Nat} (h0:0 < j) (hj:j ≤ k) (he:S.e 0 j=true):(0,j) ∈ Dx S k:=by
 induction k with
 | zero=>omega
 | succ k ih=>
  unfold Dx;by_cases q:j ≤ k
  ·exact List.mem_append_left _ (ih q)
  ·have:j=k + 1:=by omega
   subst this;rw [if_pos he];exact List.mem_append_right _ (by simp)
theorem Xy (k:S.Ok) (hm:S.m ≤ 6):unO S (Ts S) ≤ 10∧(S.m ≤ 5→unO S (Ts S) ≤ 6):=by
 have h:unO S (Ts S) ≤ (XL S.m).countP fun p=>decide (p.1 ≠ 0):=by
  refine List.countP_mono_left fun p _ hp=>?_
  rw [Bool.and_eq_true,Bool.not_eq_true'] at hp;refine decide_eq_true fun q=>?_
  rw [q] at hp;have hl:=k.lt hp.1;have:inO (Ts S) 0 p.2=true:=by
   unfold inO;rw [decide_eq_true (show (0,p.2) ∈ Ts S from DK (by omega) (by omega) hp.1)];rfl
  rw [this] at hp;cases hp.2
 have h6:∀ m,m ≤ 6→((XL m).countP fun p=>decide (p.1 ≠ 0)) ≤ 10∧(m ≤ 5→((XL m).countP fun p=>decide (p.1 ≠ 0)) ≤ 6):=by decide +kernel
 exact ⟨Nat.le_trans h (h6 _ hm).1,fun q=>Nat.le_trans h ((h6 _ hm).2 q)⟩
theorem qD:Iy S (Ts S) where
 e:=fun p hp=>by
  obtain ⟨h1,h2,h3,h4⟩:=el hp;rw [h1];exact h4
 nd:=kK _
 as:=fun i j h1 h2=>by
  have a:=el h1;have b:=el h2;have:i=0:=a.1;have:0 < i:=b.2.1;omega
noncomputable def Lp (f:Nat→Int):Nat→Int
 | 0=>0
 | k + 1=>Lp f k + f k
theorem YD {f:Nat→Int} {m:Nat} (h:∀ i,i < m→0 ≤ f i):∀ (d i:Nat),i + d ≤ m→Lp f i ≤ Lp f (i + d):=by
 intro d
 induction d with
 | zero=>intro i _;exact Int.le_refl _
 | succ d ih=>
  intro i hi;have h1:=ih i (by omega);have h2:=h (i + d) (by omega);show _ ≤ Lp f (i + d) + f (i + d);omega
theorem Bn {f:Nat→Int} {m:Nat} (h:∀ i,i < m→0 ≤ f i) {i j:Nat} (hij:i < j) (hj:j ≤ m):Lp f i + f i ≤ Lp f j:=by
 have:=YD h (j - (i + 1)) (i + 1) (by omega);rw [show i + 1 + (j - (i + 1))=j by omega] at this;exact this
theorem gK (k:S.Ok) {mx:Nat→Int} (h0:∀ i,0 ≤ mx i) (h:∀ i j,S.e i j=true→S.st i j ≤ mx i):Sl S (Lp (fun i=>S.al i + mx i) S.m) (Lp fun i=>S.al i + mx i):=by
 have hf:∀ i,i < S.m→0 ≤ S.al i + mx i:=fun i hi=>by have:=k.a1 hi;have:=h0 i;omega
 have hs:∀ i,0 + i ≤ S.m→0 ≤ Lp (fun i=>S.al i + mx i) i:=fun i hi=>by
  have:=YD hf i 0 hi;simpa [Lp] using this
 refine ⟨fun i hi=>?_,fun i j e=>?_⟩
 ·have h1:=Bn hf (i:=i) (j:=S.m) hi (Nat.le_refl _);have h2:=hs i (by omega);have h3:=h0 i;omega
 ·have hl:=k.lt e;have hi:=Bn hf (i:=i) (j:=S.m) hl.1 (Nat.le_refl _);have hj:=Bn hf (i:=j) (j:=S.m) hl.2.1 (Nat.le_refl _);have ai:=k.a1 hl.1;have aj:=k.a1 hl.2.1;have mi:=h0 i;have mj:=h0 j;have hs':=h i j e;have pi:=hs i (by omega);have pj:=hs j (by omega);rcases Nat.lt_or_gt_of_ne hl.2.2 with q | q
  ·have g:=Bn hf q (by omega);rw [mdU (by omega) pi (by omega)];omega
  ·have g:=Bn hf q (by omega);rw [mdD (by omega) (by omega) pj];omega
end
end My
namespace My
open PySem L2
noncomputable def Jb (n:Int) (ws:List (WD × Int)):Sys where
 m:=ws.length
 e:=fun i j=>match ws[i]?,ws[j]? with
  | some p,some q=>decide (i ≠ j) && mt n p.1 q.1
  | _,_=>false
 st:=fun i j=>match ws[i]?,ws[j]? with
  | some p,some q=>p.2 + xC p.1 q.1
  | _,_=>0
 al:=fun i=>match ws[i]? with
  | some p=>Qc p
  | none=>0
theorem Iq {n:Int} {ws:List (WD × Int)} {i j:Nat} (h:(Jb n ws).e i j=true):∃ p q,ws[i]? = some p∧ws[j]? = some q∧i ≠ j∧mt n p.1 q.1=true:=by
 unfold Jb at h;cases hp:ws[i]? with
 | none=>simp [hp] at h
 | some p=>
  cases hq:ws[j]? with
  | none=>simp [hp,hq] at h
  | some q=>exact ⟨p,q,rfl,rfl,by simpa [hp,hq] using h⟩
theorem Gm {n:Int} {ws:List (WD × Int)} {i j:Nat} {p q:WD × Int} (hi:ws[i]? = some p) (hj:ws[j]? = some q):(Jb n ws).e i j=(decide (i ≠ j) && mt n p.1 q.1)∧(Jb n ws).st i j=p.2 + xC p.1 q.1:=by
 refine ⟨?_,?_⟩ <;> simp only [Jb,hi,hj]
noncomputable def lA (n:Int) (ws:List (WD × Int)):Prop:=(∀ p ∈ ws,WOk n p.1∧1 ≤ p.2∧p.2 ≤ 1000)∧ws.length ≤ 6∧ws ≠ []
theorem fL (d e:WD):0 ≤ xC d e:=by unfold xC;split <;> omega
theorem Py {n:Int} {d:WD} (o:WOk n d):0 ≤ cn d + ji d:=by
 have h:=o.of;unfold cn ji;rcases d with ⟨k,_⟩
 match k with
 | 0=>simp
 | 1=>simpa using h.1
 | k + 2=>simp
theorem lA.ok {n:Int} {ws:List (WD × Int)} (h:lA n ws):(Jb n ws).Ok where
 lt:=fun e=>by
  obtain ⟨p,q,h1,h2,h3,_⟩:=Iq e;exact ⟨(List.getElem?_eq_some_iff.mp h1).1,(List.getElem?_eq_some_iff.mp h2).1,h3⟩
 sy:=fun e=>by
  obtain ⟨p,q,h1,h2,h3,h4⟩:=Iq e;obtain ⟨op,_⟩:=h.1 p (List.mem_of_getElem? h1);obtain ⟨oq,_⟩:=h.1 q (List.mem_of_getElem? h2);have hm':mt n q.1 p.1=true:=by rw [← h4];exact (VB op.st op.fi oq.st oq.fi op.ne oq.ne).symm
  rw [(Gm h2 h1).1,hm'];simp [Ne.symm h3]
 s1:=fun e=>by
  obtain ⟨p,q,h1,h2,h3,h4⟩:=Iq e;rw [(Gm h1 h2).2];have:=(h.1 p (List.mem_of_getElem? h1)).2.1;have:=fL p.1 q.1;omega
 a1:=fun {i} hi=>by
  have hp:ws[i]? = some ws[i]:=List.getElem?_eq_getElem hi;obtain ⟨o,l,_⟩:=h.1 _ (List.mem_of_getElem? hp);have e:(Jb n ws).al i=Qc ws[i]:=by
   show (match ws[i]? with | some p=>Qc p | none=>0)=_;rw [hp]
  rw [e];have h1:=Py o;unfold Qc;omega
noncomputable def Lu (o:Od):List (List Key × V):=o.map fun p=>(mf p.1 p.2,V.bl true)
theorem gx (o:Od):(Lu o).length=o.length:=List.length_map ..
theorem iq (o:Od) (i j:Nat):(mm (Lu o) (mf i j)).isSome=decide ((i,j) ∈ o):=by
 induction o with
 | nil=>rfl
 | cons p o ih=>
  unfold Lu at ih ⊢;rw [List.map_cons];by_cases h:p=(i,j)
  ·subst h;rw [Hn rfl];simp
  ·rw [sn fun e=>h (Prod.ext (Oi e).1 (Oi e).2),ih];simp [Ne.symm h]
theorem Fw {o:Od} {i j:Nat} (h:(i,j) ∉ o):Wq (Lu o) (mf i j) (V.bl true)=Lu (o ++ [(i,j)]):=by
 rw [kt]
 ·unfold Lu;rw [List.map_append];rfl
 ·intro x hx e;obtain ⟨p,hp,rfl⟩:=List.mem_map.mp hx;obtain ⟨e1,e2⟩:=Oi e;subst e1 e2;exact h hp
theorem pB (P:Program) (w:World) {o:Od} (nd:o.Nodup) (h:∀ p ∈ o,p.1 < 6∧p.2 < 6):((Lu o).map fun p=>nL P w p.1).Nodup:=by
 unfold Lu;rw [List.map_map];show (o.map hsh).Nodup
 induction o with
 | nil=>exact List.nodup_nil
 | cons p o ih=>
  rw [List.nodup_cons] at nd;rw [List.map_cons,List.nodup_cons];refine ⟨fun hm=>?_,ih nd.2 fun q hq=>h q (List.mem_cons_of_mem _ hq)⟩;obtain ⟨q,hq,e⟩:=List.mem_map.mp hm;have h1:=h p (List.mem_cons_self ..);have h2:=h q (List.mem_cons_of_mem _ hq);have:=LK NL q (TC h2.1 h2.2) p (TC h1.1 h1.2) e;exact nd.1 (this ▸ hq)
theorem aB {k:List Key} {v:V}:∀ {kvs:List (List Key × V)},mm kvs k=some v→(k,v) ∈ kvs
 | [],h=>nomatch h
 | p :: r,h=>by
  by_cases e:p.1=k
  ·rw [Hn e] at h;cases h;rw [← e];exact List.mem_cons_self ..
  ·rw [sn e] at h;exact List.mem_cons_of_mem _ (aB h)
theorem Ry {n:Int} {ws:List (WD × Int)} (i j:Nat):mm (Pf n ws ws.length) (mf i j)=if (Jb n ws).e i j then some (V.int ((Jb n ws).st i j)) else none:=by
 have key:∀ v,mm (Pf n ws ws.length) (mf i j)=some v→(Jb n ws).e i j=true∧v=V.int ((Jb n ws).st i j):=fun v h=>by
  obtain ⟨k,_,hx⟩:=mw (aB h);obtain ⟨j',p,q,_,h1,h2,h3,h4,e⟩:=Oq hx;obtain ⟨rfl,rfl⟩:=Oi (congrArg Prod.fst e);have e2:v=V.int (p.2 + xC p.1 q.1):=congrArg Prod.snd e;rw [(Gm h1 h2).1,(Gm h1 h2).2,h4,e2];simp [h3]
 cases he:(Jb n ws).e i j with
 | true=>
  obtain ⟨p,q,h1,h2,h3,h4⟩:=Iq he;have hm:=pH h1 h2 h3 h4;cases hv:mm (Pf n ws ws.length) (mf i j) with
  | none=>exact absurd (List.mem_map_of_mem (f:=(·.1)) hm) (EH hv)
  | some v=>rw [(key v hv).2];rfl
 | false=>
  cases hv:mm (Pf n ws ws.length) (mf i j) with
  | none=>rfl
  | some v=>rw [(key v hv).1] at he;cases he
theorem Nz {n:Int} {ws:List (WD × Int)} {i j:Nat} (h:(Jb n ws).e i j=true):mm (Pf n ws ws.length) (mf i j)=some (V.int ((Jb n ws).st i j)):=by rw [Ry,h];rfl
theorem Kx {n:Int} {ws:List (WD × Int)} (i j:Nat):(mm (Pf n ws ws.length) (mf i j)).isSome=(Jb n ws).e i j:=by
 rw [Ry];cases (Jb n ws).e i j <;> rfl
noncomputable def Ll (P:Program) (w:World) (H:Hp) (a:Addr) (o:Od):Prop:=Hm P w H a (Lu o)
section
variable (P:Program) (w:World)
noncomputable def NC:Sp:=fun vs H Q _=>∃ a i j o,vs=[.ref a,.int (i:Nat),.int (j:Nat)]∧Ll P w H a o∧NoT H∧Q (.bl (inO o i j)) H
noncomputable def hJ (S:Sys):Sp:=fun vs H Q _=>∃ a i j o,vs=[.ref a,.int (i:Nat),.int (j:Nat)]∧Ll P w H a o∧Iy S o∧S.Ok∧S.m ≤ 6∧(i,j) ∉ o∧NoT H ∧
 ∀ r H',ac H H'→NoT H'→Ll P w H' r (o ++ [(i,j)])→Q (.ref r) H'
noncomputable def MD (t:Adr):Sp:=fun vs H Q _=>∃ wp z a i j o n ws,vs=[.ref wp,.int z,.ref a,.int (i:Nat),.int (j:Nat)]∧Dd P w t H wp n ws∧Ll P w H a o∧(Jb n ws).e i j=true∧NoT H∧Q (.int (wtO (Jb n ws) z o i j)) H
noncomputable def LI (t:Adr):Sp:=fun vs H Q _=>∃ wp n ws,vs=[.ref wp]∧Dd P w t H wp n ws∧lA n ws∧NoT H ∧
 ∀ r H',ac H H'→NoT H'→Ll P w H' r (Ts (Jb n ws))→Q (.ref r) H'
end
theorem Dd.same {P:Program} {w:World} {t:Adr} {H H':Hp} {p:Addr} {n:Int} {ws:List (WD × Int)} (h:Dd P w t H p n ws) (s:ac H H'):Dd P w t H' p n ws:=by
 obtain ⟨dx,al,sd,e1,e2,e3⟩:=h;exact ⟨dx,al,sd,s _ _ e1,s _ _ e2,cc e3 s⟩
section
variable {P:Program} {w:World} {K:PySem.W.Frag} {mg:Str→Option Value} {base:Heap} {t:Adr}
theorem Li (T:Txt w K mg t) {H:Hp} {p dx al sd:Addr} {m:Int} (e:H p=some (.ins t.bc dx (qm m al sd))):Rl K H p (Str.ofString "many") (.int m):=⟨_,dx,_,e,T.Hi,T.Tl,Ee Qp 0 (Yn ..) (by decide +kernel) rfl⟩
theorem BI (T:Txt w K mg t):Zb P w K mg base CX0 1 t.Sd t.Ud q9 (NC P w):=by
 have key:Zb P w K mg base CX0 1 t.Sd t.Ud q9 (fun vs H Q _=>∃ a i j o,vs=[.ref a,.int (i:Nat),.int (j:Nat)]∧Ll P w H a o∧∀ H',ac H H'→Q (.bl (inO o i j)) H'):=by
  refine T.vf.ok Ep (fun vs H Q E h=>?_) (fun _ _ _ s H vs Q E hr h=>?_)
  ·obtain ⟨a,i,j,o,rfl,_⟩:=h;rfl
  obtain ⟨a,i,j,o,rfl,D,q⟩:=h;have hu:=om hr;refine ⟨_,(lb (Bb (OJ (UI (Ws hu (Nc (cb (pv 1) (cb (pv 2) fb))) (pv 0))) (fm (UI (Ws hu (Nc (cb (pv 2) (cb (pv 1) fb))) (pv 0))))))),?_⟩;walk_at "RD";refine ⟨by decide,fun p hp=>⟨_,cc D (gb hp),mf i j,ib,?_⟩⟩;rw [iq];by_cases h:(i,j) ∈ o
  ·rw [if_pos (decide_eq_true h)];have:=q _ (gb (o:=.tup [V.int (i:Int),V.int (j:Int)]) hp);rw [show inO o i j=true by unfold inO;rw [decide_eq_true h];rfl] at this;exact this
  ·rw [if_neg (by rw [decide_eq_false h];exact Bool.false_ne_true)];refine ⟨by decide,fun p2 hp2=>⟨_,cc (cc D (gb hp)) (gb hp2),mf j i,ib,?_⟩⟩;rw [iq];have:=q _ ((gb (o:=.tup [V.int (i:Int),V.int (j:Int)]) hp).trans (gb (o:=.tup [V.int (j:Int),V.int (i:Int)]) hp2));rw [show inO o i j=decide ((j,i) ∈ o) by unfold inO;rw [decide_eq_false h];rfl] at this;exact this
 exact key.forget fun vs H Q E h=>by
  obtain ⟨a,i,j,o,e,D,nt,q⟩:=h;exact ⟨nt,a,i,j,o,e,D,fun H' sm=>⟨sm,q⟩⟩
theorem nJ (T:Txt w K mg t):Zb P w K mg base CX0 1 t.Vd t.Yd q19 (MD P w t):=by
 have key:Zb P w K mg base CX0 1 t.Vd t.Yd q19 (fun vs H Q _=>∃ wp z a i j o n ws,vs=[.ref wp,.int z,.ref a,.int (i:Nat),.int (j:Nat)]∧Dd P w t H wp n ws∧Ll P w H a o∧(Jb n ws).e i j=true∧∀ H',ac H H'→Q (.int (wtO (Jb n ws) z o i j)) H'):=by
  refine T.Bf.ok Tj (fun vs H Q E h=>?_) (fun _ _ _ s H vs Q E hr h=>?_)
  ·obtain ⟨wp,z,a,i,j,o,n,ws,rfl,_⟩:=h;rfl
  obtain ⟨wp,z,a,i,j,o,n,ws,rfl,⟨dx,al,sd,e1,e2,D⟩,O,he,q⟩:=h;have hu:=om hr;refine ⟨_,(db (wb (i:=5) Tj.nd (iF hu (qc (pv 0) rfl) (Nc (cb (pv 3) (cb (pv 4) fb))) (fun _ _=>rfl)))
   (lb (Bb (zu (vw (Ws hu (Nc (cb (pv 4) (cb (pv 3) fb))) (pv 2))) (Yb Vh (pv 5) (pv 1)) (pv 5))))),?_⟩
  walk_at "RD";refine ⟨_,Pe T e1,by decide,fun p hp=>⟨sd,rfl,_,cc D (gb hp),mf i j,ib,_,Nz he,by decide,fun p2 hp2=>⟨_,cc (cc O (gb hp)) (gb hp2),mf j i,ib,?_⟩⟩⟩;rw [iq];have:=q _ ((gb (o:=.tup [V.int (i:Int),V.int (j:Int)]) hp).trans (gb (o:=.tup [V.int (j:Int),V.int (i:Int)]) hp2));unfold wtO at this;by_cases h:(j,i) ∈ o
  ·rw [if_pos (decide_eq_true h)];rw [if_pos h] at this;exact ⟨_,rfl,this⟩
  ·rw [if_neg (by rw [decide_eq_false h];exact Bool.false_ne_true)];rw [if_neg h] at this;exact this
 exact key.forget fun vs H Q E h=>by
  obtain ⟨wp,z,a,i,j,o,n,ws,e,W,O,he,nt,q⟩:=h;exact ⟨nt,wp,z,a,i,j,o,n,ws,e,W,O,he,fun H' sm=>⟨sm,q⟩⟩
theorem HN (T:Txt w K mg t) (S:Sys):Zb P w K mg base CX0 1 t.gi t.ei q9 (hJ P w S):=by
 refine T.Qh.ok Nm (fun vs H Q E h=>?_) (fun _ _ _ s H vs Q E hr h=>?_)
 ·obtain ⟨a,i,j,o,rfl,_⟩:=h;rfl
 obtain ⟨a,i,j,o,rfl,O,ok,k,hm,hn,nt,q⟩:=h;have hu:=om hr;refine ⟨_,(db (wb (i:=3) Nm.nd (ug gB rfl T.PL Ly (cb (pv 0) fb)))
   (db (my hu (pv 3) (Nc (cb (pv 1) (cb (pv 2) fb))) Xf rfl)
   (lb (Bb (pv 3))))),?_⟩
 walk_at "RD";refine ⟨_,O,pB P w ok.nd (fun p hp=>by have:=k.lt (ok.e p hp);omega),fun p ob hp D1=>⟨by decide,fun p2 hp2=>⟨_,cc D1 (gb hp2),mf i j,ib,?_,fun o2 D2=>?_⟩⟩⟩
 ·rw [gx];exact Nat.lt_of_le_of_lt (ok.len k hm) (by decide)
 ·rw [Fw hn] at D2;exact q _ _ (fun b u e=>by rw [Ab (Lb e hp)];exact gb hp2 _ _ (gb hp _ _ e)) ((nt.upd).upd).upd D2
theorem BN (T:Txt w K mg t):Zb P w K mg base CX0 1 t.jf t.gf ["wanted"] (LI P w t):=by
 refine T.Ig.ok Uf (fun vs H Q E h=>?_) (fun _ _ _ s H vs Q E hr h=>?_)
 ·obtain ⟨wp,n,ws,rfl,_⟩:=h;rfl
 obtain ⟨wp,n,ws,rfl,W,ok,nt,q⟩:=h;obtain ⟨dx,al,sd,e1,e2,D⟩:=id W;have hu:=om hr;refine ⟨_,(db (wb (i:=1) Uf.nd yF)
   (db (cf PassesOwn.never rfl (Aq rfl T.Kf (cb jb (cb (qc (pv 0) rfl) fb))) (Eb (i:=2) Uf.nd) (lb (Dc (vw (Ws hu (Nc (cb jb (cb (pv 2) fb))) (qc (pv 0) rfl))) (lb (my hu (pv 1) (Nc (cb jb (cb (pv 2) fb))) Xf rfl)) Ob)))
   (lb (Bb (pv 1))))),?_⟩
 walk_at "RD";intro p ob hp D0;have hl:=ok.2.1;have sA:ac H (upd H p (.ext (AtO p ob))):=gb hp;refine ⟨_,Li T (sA _ _ e1),_,rfl,by decide,by decide,by omega,by omega,?_⟩;rw [show ((ws.length:Int) - 1).toNat=ws.length - 1 by omega];refine Zj.range (fun i σ H'=>ac H H'∧NoT H'∧Ll P w H' p (Dx (Jb n ws) i)∧∃ x,σ=[some (.ref wp),some (.ref p),x]) ⟨sA,nt.upd,D0,_,rfl⟩ ?_ ?_
 ·rintro i σ H1 hi zzq;refine zzP fun zzM zzh=>?_
  obtain ⟨s1,n1,O1,x,rfl⟩:=zzq;subst zzh;simp only [lf,List.set_cons_succ,List.set_cons_zero];rw [show (1:Int) + (i:Nat)=((i + 1:Nat):Int) by omega];refine og (fun b H2=>b=(Jb n ws).e 0 (i + 1)∧ac H1 H2∧NoT H2) (fun Q hQ=>?_) (fun H2 r2=>?_) (fun H2 r2=>?_)
  ·walk_at "RD";refine ⟨by decide,fun p2 hp2=>⟨_,Pe T (gb hp2 _ _ (s1 _ _ e1)),sd,rfl,_,cc (cc D s1) (gb hp2),mf 0 (i + 1),ib,?_⟩⟩;rw [Kx];exact hQ _ _ ⟨rfl,gb hp2,n1.upd⟩
  ·obtain ⟨r1,r2,r3⟩:=r2;walk_at "RD";refine ⟨by decide,fun p2 hp2=>⟨_,cc (cc O1 r2) (gb hp2),mf 0 (i + 1),ib,?_,fun o2 D2=>⟨?_,(r3.upd).upd,?_⟩⟩⟩
   ·rw [gx];have:=xz (S:=Jb n ws) i;exact Nat.lt_of_le_of_lt (show _ ≤ 6 by omega) (by decide)
   ·exact fun b u e=>by rw [Ab (Lb e hp)];exact gb hp2 _ _ (r2 _ _ (s1 _ _ e))
   ·rw [Fw (fun hm=>by have:=(el hm).2.2.1;simp only at this;omega)] at D2;refine ⟨?_,_,rfl⟩;show Ll P w _ p (Dx (Jb n ws) i ++ _);rw [← r1,if_pos rfl];exact D2
  ·obtain ⟨r1,r2,r3⟩:=r2;simp only [Xb];refine ⟨s1.trans r2,r3,?_,_,rfl⟩;show Ll P w H2 p (Dx (Jb n ws) i ++ _);rw [← r1];rw [if_neg Bool.false_ne_true,List.append_nil];exact cc O1 r2
 ·rintro σ H1 zzq;refine zzP fun zzM zzh=>?_
  obtain ⟨s1,n1,O1,x,rfl⟩:=zzq;subst zzh;walk_at "RD";exact q _ _ s1 n1 O1
end
end My
namespace My
open PySem L2
noncomputable def Ke (r:List Nat):List V:=r.map fun k:Nat=>V.int (k:Int)
theorem Fc (r:List Nat):(Ke r).length=r.length:=List.length_map ..
theorem bu (r:List Nat):Ke r=List.map V.int (r.map fun k:Nat=>(k:Int)):=by unfold Ke;rw [List.map_map];rfl
theorem XH (r:List Nat):(r.map fun k:Nat=>(k:Int)).Nodup↔r.Nodup:=by
 induction r with
 | nil=>simp
 | cons x r ih=>
  rw [List.map_cons,List.nodup_cons,List.nodup_cons,ih];refine and_congr_left fun _=>not_congr ⟨fun h=>?_,fun h=>List.mem_map.mpr ⟨x,h,rfl⟩⟩
  obtain ⟨y,hy,e⟩:=List.mem_map.mp h;rw [← Int.ofNat.inj e];exact hy
theorem nu {r:List Nat} {i:Nat} {v:V} (h:(Ke r)[i]? = some v):∃ k,r[i]? = some k∧v=V.int (k:Int):=by
 unfold Ke at h;rw [List.getElem?_map] at h;cases hr:r[i]? with
 | none=>rw [hr] at h;cases h
 | some k=>rw [hr] at h;exact ⟨k,rfl,(Option.some.inj h).symm⟩
noncomputable def px (r:List Nat) (i:Nat):Nat:=(r[(i + 1) % r.length]?).getD 0
noncomputable def Xr (r:List Nat) (i:Nat):List Nat:=(r ++ r.take 1).take (i + 1)
theorem IC {r:List Nat} (h:r ≠ []):Xr r 0=[r.headD 0]:=by
 cases r with
 | nil=>exact absurd rfl h
 | cons x r=>rfl
theorem Ju {r:List Nat} (h:r ≠ []):Xr r r.length=r ++ r.take 1:=by
 unfold Xr;rw [List.take_of_length_le];cases r with
 | nil=>exact absurd rfl h
 | cons x r=>simp
theorem VL {r:List Nat} {i:Nat} (hi:i < r.length):(r ++ r.take 1)[i + 1]? = some (px r i):=by
 unfold px;by_cases h:i + 1 < r.length
 ·rw [List.getElem?_append_left h,Nat.mod_eq_of_lt h,List.getElem?_eq_getElem h];rfl
 ·have e:i + 1=r.length:=by omega
  rw [List.getElem?_append_right (by omega),e,Nat.mod_self,Nat.sub_self];cases r with
  | nil=>simp at hi
  | cons x r=>rfl
theorem IH {l:List Nat} {i a b:Nat} (h1:l[i]? = some a) (h2:l[i + 1]? = some b):l.take (i + 2)=l.take i ++ a :: [b]∧l.take (i + 1)=l.take i ++ [a]:=by
 have e1:l.take (i + 1)=l.take i ++ [a]:=by rw [List.take_add_one,h1];rfl
 refine ⟨?_,e1⟩;rw [show i + 2=(i + 1) + 1 from rfl,List.take_add_one,h2,e1];simp
theorem Kv {r:List Nat} {i k:Nat} (h:r[i]? = some k):∃ a,Xr r i=a ++ [k]∧Xr r (i + 1)=a ++ k :: [px r i]:=by
 have hi:=(List.getElem?_eq_some_iff.mp h).1;have h1:(r ++ r.take 1)[i]? = some k:=by rw [List.getElem?_append_left hi];exact h
 obtain ⟨e1,e2⟩:=IH h1 (VL hi);exact ⟨_,e2,e1⟩
theorem Gy (o:Od):∀ (a:List Nat) (x:Nat) (r:List Nat),Fp o (a ++ x :: r)=(Fp o (a ++ [x]) && Fp o (x :: r)):=by
 intro a
 induction a with
 | nil=>intro x r;simp [Fp]
 | cons u a ih=>
  intro x r;cases a with
  | nil=>simp [Fp]
  | cons v a=>
   have:=ih x r;simp only [List.cons_append,Fp] at this ⊢;rw [this,Bool.and_assoc]
theorem Uy (o:Od) {r:List Nat} {i:Nat} (hi:i ≤ r.length) (h:Fp o (Xr r i)=false):Fp o (r ++ r.take 1)=false:=by
 unfold Xr at h;cases hx:(r ++ r.take 1)[i]? with
 | none=>
  rw [List.take_of_length_le (by have:=List.getElem?_eq_none_iff.mp hx;omega)] at h;exact h
 | some x=>
  have hl:=(List.getElem?_eq_some_iff.mp hx).1;rw [List.take_add_one,hx] at h;have e:r ++ r.take 1=(r ++ r.take 1).take i ++ x :: (r ++ r.take 1).drop (i + 1):=by
   conv=>lhs;rw [← List.take_append_drop i (r ++ r.take 1)]
   rw [List.drop_eq_getElem_cons hl];rw [(List.getElem?_eq_some_iff.mp hx).2]
  rw [e,Gy];have h':Fp o ((r ++ r.take 1).take i ++ [x])=false:=h;rw [h',Bool.false_and]
section
variable (P:Program) (w:World)
noncomputable def fN (t:Adr):Sp:=fun vs H Q _=>∃ wp z a rp o r n ws,vs=[.ref wp,.int z,.ref a,.ref rp]∧Dd P w t H wp n ws∧Ll P w H a o∧H rp=some (.tup (Ke r))∧r.length ≤ 12∧Iy (Jb n ws) o∧lA n ws∧NoT H∧Q (.bl (Qf (Jb n ws) z o r)) H
end
section
variable {P:Program} {w:World} {K:PySem.W.Frag} {mg:Str→Option Value} {base:Heap} {t:Adr}
theorem aO (T:Txt w K mg t):Zb P w K mg base CX0 2 t.yg t.rg q26 (fN P w t):=by
 have key:Zb P w K mg base CX0 2 t.yg t.rg q26 (fun vs H Q _=>∃ wp z a rp o r n ws,vs=[.ref wp,.int z,.ref a,.ref rp]∧Dd P w t H wp n ws∧Ll P w H a o∧H rp=some (.tup (Ke r))∧r.length ≤ 12∧Iy (Jb n ws) o∧lA n ws∧NoT H∧∀ H',ac H H'→Q (.bl (Qf (Jb n ws) z o r)) H'):=by
  have g21:Zb P w K mg base CX0 1 t.Sd t.Ud q9 (NC P w):=BI T;have g22:Zb P w K mg base CX0 1 t.Vd t.Yd q19 (MD P w t):=nJ T;refine T.fk.ok Se (fun vs H Q E h=>?_) (fun _ _ _ s H vs Q E hr h=>?_)
  ·obtain ⟨wp,z,a,rp,o,r,n,ws,rfl,_⟩:=h;rfl
  obtain ⟨wp,z,a,rp,o,r,n,ws,rfl,W,O,hrp,hlen,ok,wk,nt,q⟩:=h;refine ⟨_,(db (Dc (PW.pt (Zg (Gb Sm (Kb Fb rfl T.ff Nb (cb (pv 3) fb)) jb (Ub _)) (Bg (Gb Sm (Kb zC rfl T.ff Nb (cb (ug (LF rfl) rfl T.sO wB (cb (pv 3) fb)) fb)) (Kb Fb rfl T.ff Nb (cb (pv 3) fb)) (Ub _))))) (lb (Bb Xf)) Ob)
   (db (wb (i:=4) Se.nd jb)
   (db (cf PassesOwn.never rfl (tH rfl T.Sf (cb (pv 3) fb)) (uf (K:=K) (n:=2) rfl rfl (lc (Eb (i:=5) Se.nd) (lc (Eb (i:=6) Se.nd) Df))) (db (wb (i:=7) Se.nd (Db Vb (pv 3) (Yb wg (Yb wc (pv 5) jb) (Kb Fb rfl T.ff Nb (cb (pv 3) fb)))))
   (db (Dc (af (pe (qb g21 hr T.Dk T.vf.kp T.uk (cb (pv 2) (cb (pv 6) (cb (pv 7) fb)))))) (lb (Bb Xf)) Ob)
   (lb (wJ (i:=4) Se.nd rfl (Or.inl rfl) (qb g22 hr T.Kk T.Bf.kp T.Sk (cb (pv 0) (cb (pv 1) (cb (pv 2) (cb (pv 6) (cb (pv 7) fb)))))) GI)))))
   (lb (Bb (ld Jp (pv 4) jb (Ub _))))))),?_⟩
  have hlen2:(Ke r).length ≤ 1000:=by rw [Fc];omega
  simp only [xb];refine og (fun b H'=>ac H H'∧NoT H'∧b = !(decide (2 ≤ r.length) && decide r.Nodup)) (fun Q hQ=>?_) (fun H1 zz=>?_) (fun H1 zz=>?_)
  ·walk_at "RD";refine ⟨_,.inr (SqT.of hrp),?_⟩;rw [Fc];by_cases h2:2 ≤ r.length
   ·rw [if_neg (by rw [decide_eq_true_eq];omega)];refine ⟨_,(bu r) ▸ hrp,by rw [List.length_map];omega,fun p S k hk hk2 hp=>⟨S,k,ib,hk2,_,.inr ((SqT.of hrp).same (gb hp)),hQ _ _ ⟨gb hp,nt.upd,?_⟩⟩⟩;rw [List.length_map,XH] at hk;rw [Fc,decide_eq_true h2,Bool.true_and];by_cases hd:r.Nodup
    ·rw [decide_eq_true hd];exact decide_eq_false fun g=>hk.mp (by omega) hd
    ·rw [decide_eq_false hd];have:=hk.mpr hd;exact decide_eq_true (by omega)
   ·rw [if_pos (by rw [decide_eq_true_eq];omega)];refine hQ _ _ ⟨ac.refl _,nt,?_⟩;rw [decide_eq_false h2];rfl
  ·obtain ⟨s1,n1,zb⟩:=zz;walk_at "RD";have hc:(decide (2 ≤ r.length) && decide r.Nodup)=false:=by rw [← Bool.not_not (decide (2 ≤ r.length) && decide r.Nodup),← zb];rfl
   have:=q H1 s1;rw [show Qf (Jb n ws) z o r=false by unfold Qf;rw [hc];rfl] at this;exact this
  obtain ⟨s1,n1,zb⟩:=zz;have hc:(decide (2 ≤ r.length) && decide r.Nodup)=true:=by rw [← Bool.not_not (decide (2 ≤ r.length) && decide r.Nodup),← zb];rfl
  rw [Bool.and_eq_true,decide_eq_true_eq,decide_eq_true_eq] at hc;have hne:r ≠ []:=fun g=>by rw [g] at hc;exact absurd hc.1 (by decide)
  simp only [Xb,xb];(walk_at "RD"; repeat (dsimp only [JJ];walk_at "RD"));have rp1:=s1 _ _ hrp;refine ⟨⟨_,SqT.of rp1⟩,?_⟩;refine Zj.of (n:=r.length) (fun i σ H'=>ac H1 H'∧NoT H'∧Fp o (Xr r i)=true∧∃ x y u,σ=[some (.ref wp),some (.int z),some (.ref a),some (.ref rp),some (.int (pwO (Jb n ws) z o (Xr r i))),x,y,u]) ?_ ?_ ?_ ?_ ?_
  ·rw [IC hne];exact ⟨ac.refl _,n1,rfl,_,_,_,rfl⟩
  ·rintro i σ H2 hi ⟨s2,_⟩;exact ⟨_,_,SqT.of (s2 _ _ rp1),List.getElem?_eq_getElem (by rw [Fc];exact hi)⟩
  ·rintro σ H2 ⟨s2,_⟩;exact ⟨_,SqT.of (s2 _ _ rp1),Fc r⟩
  ·rintro i σ H2 v H3 hi ⟨s2,n2,al,x,y,u,rfl⟩ ⟨p,y',hp,rfl,hy,rfl⟩;have hy':=hy _ (SqT.of (s2 _ _ rp1));obtain ⟨k,hk,rfl⟩:=nu hy';obtain ⟨pr,ep1,ep2⟩:=Kv hk;have s3:=s2.trans (gb (o:=.tup [.int i,.int (k:Int)]) hp);have n3:NoT (upd H2 p (.tup [.int i,.int (k:Int)])):=n2.upd;refine xh ?_;simp only [xb,List.set_cons_succ,List.set_cons_zero];generalize upd H2 p (.tup [.int i,.int (k:Int)])=H4 at s3 n3 ⊢;have rp4:=s3 _ _ rp1;have W4:=W.same (s1.trans s3);have O4:Ll P w H4 a o:=cc O (s1.trans s3);have hm:(i + 1) % r.length < r.length:=Nat.mod_lt _ (by omega);walk_at "RD";refine ⟨_,.inr (SqT.of rp4),by rw [Fc];omega,_,SqT.of rp4,V.int (px r i:Nat),?_,?_⟩
   ·rw [Fc,show ((i:Int) + 1) % (r.length:Int)=(((i + 1) % r.length:Nat):Int) by rw [Int.natCast_emod];rfl];refine yb ?_;unfold Ke px;rw [List.getElem?_map,List.getElem?_eq_getElem hm];rfl
   have eA:Fp o (Xr r (i + 1))=inO o k (px r i):=by rw [ep2,Gy,← ep1,al];simp [Fp]
   have eP:pwO (Jb n ws) z o (Xr r (i + 1))=pwO (Jb n ws) z o (Xr r i) + wtO (Jb n ws) z o k (px r i):=by rw [ep2,Fi,← ep1];simp [pwO]
   refine Ib (!inO o k (px r i)) (fun Q hQ=>?_) (fun hb=>?_) (fun hb=>?_)
   ·walk_at "RD";exact ⟨a,k,px r i,o,rfl,O4,n3,_,rfl,hQ⟩
   ·walk_at "RD";have:=q H4 (s1.trans s3);rw [show Qf (Jb n ws) z o r=false by unfold Qf;rw [Uy o (i:=i + 1) (by omega) (by rw [eA];simpa using hb),Bool.and_false,Bool.false_and]] at this;exact this
   ·have hb':inO o k (px r i)=true:=by simpa using hb
    simp only [Xb];walk_at "RD";refine ⟨wp,z,a,k,px r i,o,n,ws,rfl,W4,O4,ok.in_e wk.ok hb',n3,?_⟩;exact ⟨_,_,rfl,rfl,s3,n3,by rw [eA];exact hb',by rw [eP],_,rfl⟩
  ·rintro σ H2 zzq;refine zzP fun zzM zzh=>?_
   obtain ⟨s2,n2,al,x,y,u,rfl⟩:=zzq;subst zzh;rw [Ju hne] at al;walk_at "RD";have:=q H2 (s1.trans s2);rw [show Qf (Jb n ws) z o r=decide (0 < pwO (Jb n ws) z o (r ++ r.take 1)) by unfold Qf;rw [decide_eq_true hc.1,decide_eq_true hc.2,al];rfl] at this;rw [Ju hne];exact this
 exact key.forget fun vs H Q E h=>by
  obtain ⟨wp,z,a,rp,o,r,n,ws,e,W,O,hrp,hlen,ok,wk,nt,q⟩:=h;exact ⟨nt,wp,z,a,rp,o,r,n,ws,e,W,O,hrp,hlen,ok,wk,nt,fun H' sm=>⟨sm,q⟩⟩
end
end My
namespace My
open PySem L2
noncomputable def Gd (H:Hp) (qs:List Addr) (ps:List (List Nat)):Prop:=qs.length=ps.length∧∀ (i:Nat) (q:Addr) (p:List Nat),qs[i]? = some q→ps[i]? = some p→H q=some (.tup (Ke p))
noncomputable def Jx (H:Hp) (l:Addr) (ps:List (List Nat)):Prop:=∃ qs:List Addr,H l=some (.lst (qs.map V.ref))∧Gd H qs ps
theorem Gd.same {H H':Hp} {qs:List Addr} {ps:List (List Nat)} (h:Gd H qs ps) (s:ac H H'):Gd H' qs ps:=⟨h.1,fun i q p h1 h2=>s _ _ (h.2 i q p h1 h2)⟩
theorem Gd.nil (H:Hp):Gd H [] []:=⟨rfl,fun i q p h=>by simp at h⟩
theorem Gd.app {H:Hp} {qs rs:List Addr} {ps us:List (List Nat)} (h:Gd H qs ps) (g:Gd H rs us):Gd H (qs ++ rs) (ps ++ us):=by
 refine ⟨by rw [List.length_append,List.length_append,h.1,g.1],fun i q p h1 h2=>?_⟩;by_cases hi:i < qs.length
 ·rw [List.getElem?_append_left hi] at h1;rw [List.getElem?_append_left (by rw [← h.1];exact hi)] at h2;exact h.2 i q p h1 h2
 ·rw [List.getElem?_append_right (by omega)] at h1;rw [List.getElem?_append_right (by rw [← h.1];omega),← h.1] at h2;exact g.2 _ q p h1 h2
theorem Gd.one {H:Hp} {q:Addr} {p:List Nat} (h:H q=some (.tup (Ke p))):Gd H [q] [p]:=by
 refine ⟨rfl,fun i q' p' h1 h2=>?_⟩;cases i with
 | zero=>cases h1;cases h2;exact h
 | succ i=>simp at h1
theorem Gd.put {H:Hp} {qs:List Addr} {ps:List (List Nat)} {f:Addr} {xs:List V} {o:HO} (h:Gd H qs ps) (hf:H f=some (.lst xs)):Gd (upd H f o) qs ps:=
 ⟨h.1,fun i q p h1 h2=>by
  have e:=h.2 i q p h1 h2;rw [Ab (fun z=>by rw [z,hf] at e;cases e)];exact e⟩
theorem Jx.same {H H':Hp} {l:Addr} {ps:List (List Nat)} (h:Jx H l ps) (s:ac H H'):Jx H' l ps:=by
 obtain ⟨qs,e,t⟩:=h;exact ⟨qs,s _ _ e,t.same s⟩
noncomputable def xo (S:Sys) (p:List Nat) (i:Nat):List Nat:=((List.range i).map fun k=>p.headD 0 + 1 + k).filter fun v=>S.e (Pl p) v
theorem Mt (S:Sys) (p:List Nat) (i:Nat):xo S p (i + 1)=xo S p i ++ (if S.e (Pl p) (p.headD 0 + 1 + i) then [p.headD 0 + 1 + i] else []):=by
 unfold xo;rw [List.range_succ,List.map_append,List.filter_append,List.map_cons,List.map_nil,List.filter_cons,List.filter_nil]
theorem ww (S:Sys) (p:List Nat) (i:Nat):(xo S p i).length ≤ i:=by
 unfold xo;refine Nat.le_trans (List.length_filter_le ..) ?_;rw [List.length_map,List.length_range];exact Nat.le_refl _
theorem Wt {p:List Nat} (h:p ≠ []):atI (Ke p) (-1)=some (.int (Pl p:Nat)):=by
 have h0:0 < p.length:=List.length_pos_iff.mpr h;obtain ⟨a,u,rfl⟩:∃ a u,p=a ++ [u]:=by
  rcases List.eq_nil_or_concat p with q | ⟨a,u,q⟩
  ·exact absurd q h
  ·exact ⟨a,u,by rw [q,List.concat_eq_append]⟩
 rw [Bt];unfold atI ixN;rw [Fc,if_neg (by decide),if_pos (by omega)];rw [List.length_append] at h0 ⊢;rw [show ((-1:Int) + ((a.length + [u].length:Nat):Int)).toNat=a.length by simp;omega];unfold Ke;rw [Option.bind_some,List.getElem?_map,List.getElem?_append_right (Nat.le_refl _),Nat.sub_self];rfl
theorem ND (b:Nat) (l:List Nat):inV (.int (b:Int)) (Ke l)=decide (b ∈ l):=by
 unfold inV Ke;rw [List.any_map,Bool.eq_iff_iff];simp only [List.any_eq_true,Function.comp,eqV,beq_iff_eq,decide_eq_true_eq];constructor
 ·rintro ⟨y,hy,e⟩;rw [← Int.ofNat.inj e];exact hy
 ·intro h;exact ⟨b,h,rfl⟩
theorem YC {S:Sys} {ps:List (List Nat)} {i:Nat} {p:List Nat} (h:ps[i]? = some p):(ps.take (i + 1)).flatMap (bC S)=(ps.take i).flatMap (bC S) ++ bC S p:=by
 rw [List.take_add_one,h,List.flatMap_append];simp
section
variable (P:Program) (w:World)
noncomputable def WI (t:Adr):Sp:=fun vs H Q _=>∃ wp pl n ws ps,vs=[.ref wp,.ref pl]∧Dd P w t H wp n ws∧Jx H pl ps∧(∀ p ∈ ps,p ≠ []∧p.length ≤ 6∧∀ x ∈ p,x < ws.length)∧ps.length ≤ 280000∧lA n ws∧NoT H ∧
 ∀ r H',ac H H'→NoT H'→H r=none→Jx H' r (ps.flatMap (bC (Jb n ws)))→Q (.ref r) H'
end
section
variable {P:Program} {w:World} {K:PySem.W.Frag} {mg:Str→Option Value} {base:Heap} {t:Adr}
theorem VM (T:Txt w K mg t):Zb P w K mg base CX0 1 t.Ad t.Hd q34 (WI P w t):=by
 refine T.Ie.ok jd (fun vs H Q E h=>?_) (fun _ _ _ s H vs Q E hr h=>?_)
 ·obtain ⟨wp,pl,n,ws,ps,rfl,_⟩:=h;rfl
 obtain ⟨wp,pl,n,ws,ps,rfl,W,L,hps,hpl,wk,nt,q⟩:=h;obtain ⟨dx,al,sd,e1,e2,D⟩:=id W;obtain ⟨qs,l1,l2,l3⟩:=id L;have hu:=om hr;have hws:=wk.2.1;refine ⟨_,(db (wb (i:=2) jd.nd (qh fb))
   (db (cf PassesOwn.never rfl (Eg (pv 1)) (By (i:=3) jd.nd rfl (Or.inr rfl)) (db (cj (i:=4) jd.nd rfl (Or.inl rfl) rfl (Aq rfl T.Kf (cb (Yb wc (Db Vb (pv 3) jb) jb) (cb (qc (pv 0) rfl) fb))) (Ec (sc:=ub Jd) rfl (by decide +kernel)) (N:=["want","path","wanted"]) (sel:=[none,some 3,some 0]) (kd (M:=q51) (by decide +kernel)) (Blk.of (fun _ _ _ _=>(Eb (i:=0) (Bi (N:=["want","path","wanted"]) (by decide +kernel) rfl))) (fun _ _ _ _=>⟨_,(Ho (vw (Ws hu (Nc (cb (Db Vb (pv 1) (oN YI jb)) (cb (pv 0) fb))) (qc (pv 2) rfl)))),by walk_at "B"⟩) (fun _ _ _ _=>⟨_,(pv 0),by walk_at "B"⟩)) rfl)
   (lb (ke (uo PySem.F.plainAttrs_list PySem.F.slot_list_extend PySem.F.type_list_extend Iw (pv 2) (cb (Yf rfl (Eg (pv 4)) (Ec (sc:=ub Jd) rfl (by decide +kernel)) (N:=["want","path"]) (sel:=[none,some 3]) (kd (M:=q51) (by decide +kernel)) (Blk.of (fun _ _ _ _=>(Eb (i:=0) (Bi (N:=["want","path"]) (by decide +kernel) rfl))) (fun _ _ _ _=>⟨_,(Ho (Gb Ko (pv 0) (pv 1) (by with_unfolding_all rfl))),by walk_at "B"⟩) (fun _ _ _ _=>⟨_,(Yb EK (pv 1) (Nc (cb (pv 0) fb))),by walk_at "B"⟩))) fb))))))
   (lb (Bb (pv 2))))),?_⟩
 walk_at "RD";refine ⟨by decide,fun f hf=>⟨⟨_,SqL.of ((gb hf) _ _ l1)⟩,?_⟩⟩;refine Zj.list (xs:=qs.map V.ref) (fun i σ H'=>ac H H'∧NoT H'∧Jx H' f ((ps.take i).flatMap (bC (Jb n ws)))∧∃ x y,σ=[some (.ref wp),some (.ref pl),some (.ref f),x,y]) ?_ ?_ ?_ ?_
 ·exact ⟨gb hf,nt.upd,⟨[],ib,Gd.nil _⟩,_,_,rfl⟩
 ·rintro i σ H' hi ⟨s1,_⟩;exact SqL.of (s1 _ _ l1)
 ·rintro i v σ H1 hv zzq;refine zzP fun zzM zzh=>?_
  obtain ⟨s1,n1,⟨fs,f1,f2⟩,x,y,rfl⟩:=zzq;obtain ⟨qi,hqi,rfl⟩:=vg hv;have hi:i < ps.length:=by rw [← l2];exact (List.getElem?_eq_some_iff.mp hqi).1
  have hpi:ps[i]? = some ps[i]:=List.getElem?_eq_getElem hi;have hq:=l3 i qi _ hqi hpi;obtain ⟨hne,hp6,hpw⟩:=hps _ (List.mem_of_getElem? hpi);subst zzh;generalize ps[i]=p at hpi hq hne hp6 hpw;have D1:=cc D s1;simp only [xb];walk_at "RD";have hh:p.headD 0 < ws.length:=by
   cases p with
   | nil=>exact absurd rfl hne
   | cons x p=>exact hpw x (List.mem_cons_self ..)
  refine ⟨_,SqT.of (s1 _ _ hq),V.int (p.headD 0:Nat),?_,_,rfl,_,Li T (s1 _ _ e1),_,rfl,by omega,by omega,by omega,by omega,?_⟩
  ·cases p with
   | nil=>exact absurd rfl hne
   | cons x p=>exact yb (j:=0) rfl
  rw [show ((ws.length:Int) - ((p.headD 0:Nat) + 1)).toNat=ws.length - (p.headD 0 + 1) by omega];refine gd.range (fun i ys H'=>ac H1 H'∧NoT H'∧ys=Ke (xo (Jb n ws) p i)) (Nat.le_trans (show ws.length - (p.headD 0 + 1) ≤ 6 by omega) (by decide)) ⟨ac.refl _,n1,rfl⟩ (fun i ys H' hi ⟨_,_,e⟩=>by rw [e,Fc];exact ww ..) ?_ ?_
  ·rintro k ys H2 hk ⟨s2,n2,rfl⟩ N hN;walk_at "RD";rw [show (p.headD 0:Int) + 1 + (k:Int)=((p.headD 0 + 1 + k:Nat):Int) by omega];refine ⟨Sub.name,_,SqT.of ((s1.trans s2) _ _ hq),_,Wt hne,by decide,fun tp htp=>⟨_,Pe T (gb htp _ _ ((s1.trans s2) _ _ e1)),sd,rfl,_,cc (cc D (s1.trans s2)) (gb htp),mf (Pl p) (p.headD 0 + 1 + k),ib,?_⟩⟩;rw [Kx];have s4:=s2.trans (gb (o:=.tup [V.int ((Pl p:Nat):Int),V.int ((p.headD 0 + 1 + k:Nat):Int)]) htp);cases he:(Jb n ws).e (Pl p) (p.headD 0 + 1 + k) with
   | true=>
    refine hN _ _ ⟨s4,n2.upd,?_⟩;rw [Mt,he];unfold Ke;rw [if_pos rfl,List.map_append];rfl
   | false=>
    refine hN _ _ ⟨s4,n2.upd,?_⟩;rw [Mt,he,if_neg Bool.false_ne_true,List.append_nil]
  ·rintro ys H2 ⟨s2,n2,rfl⟩ nr hnr;have s3:=s2.trans (gb (o:=.lst (Ke (xo (Jb n ws) p (ws.length - (p.headD 0 + 1))))) hnr);have n3:NoT (upd H2 nr (.lst (Ke (xo (Jb n ws) p (ws.length - (p.headD 0 + 1)))))):=n2.upd;have e3:(upd H2 nr (.lst (Ke (xo (Jb n ws) p (ws.length - (p.headD 0 + 1)))))) nr=some (.lst (Ke (xo (Jb n ws) p (ws.length - (p.headD 0 + 1))))):=ib;generalize upd H2 nr (.lst (Ke (xo (Jb n ws) p (ws.length - (p.headD 0 + 1)))))=H3 at s3 n3 e3 ⊢;have hnl:=ww (Jb n ws) p (ws.length - (p.headD 0 + 1));rw [YC hpi];refine ⟨.inl ⟨_,SqL.of (s3 _ _ f1)⟩,nr,rfl,⟨_,SqL.of e3⟩,?_⟩;rw [show bC (Jb n ws) p=((xo (Jb n ws) p (ws.length - (p.headD 0 + 1))).filter fun v=>decide (v ∉ p)).map fun v=>p ++ [v] from rfl];generalize xo (Jb n ws) p (ws.length - (p.headD 0 + 1))=nr at e3 hnl ⊢;refine gd.list (xs:=Ke nr) (fun i ys H'=>ac H3 H'∧NoT H'∧∃ rs:List Addr,ys=rs.map V.ref∧Gd H' rs (((nr.take i).filter fun v=>decide (v ∉ p)).map fun v=>p ++ [v])) (by rw [Fc];exact Nat.le_trans (show nr.length ≤ 6 by omega) (by decide)) ⟨ac.refl _,n3,[],rfl,Gd.nil _⟩ ?_ ?_ ?_
   ·rintro i ys H' hi zzq;refine zzP fun zzM zzh=>?_
    obtain ⟨s4,n4,rs,rfl,t4⟩:=zzq;subst zzh;refine ⟨SqL.of (s4 _ _ e3),?_⟩;rw [List.length_map,t4.1,List.length_map];refine Nat.le_trans (List.length_filter_le ..) ?_;rw [List.length_take];omega
   ·rintro k v ys H4 hv ⟨s4,n4,rs,rfl,t4⟩ N hN;obtain ⟨u,hu',rfl⟩:=nu hv;walk_at "RD";have q4:=(s1.trans (s3.trans s4)) _ _ hq;refine ⟨Sub.name,_,.inr (SqT.of q4),rfl,?_,?_⟩
    ·refine List.all_eq_true.mpr fun x hx=>?_
     obtain ⟨y,_,rfl⟩:=List.mem_map.mp hx;rfl
    have et:nr.take (k + 1)=nr.take k ++ [u]:=by rw [List.take_add_one,hu'];rfl
    rw [ND];by_cases hup:u ∈ p
    ·rw [decide_eq_true hup,if_neg (by decide)];refine hN _ _ ⟨s4,n4,rs,rfl,?_⟩;rw [et,List.filter_append,List.filter_cons,decide_eq_false (fun z=>z hup),if_neg Bool.false_ne_true,List.filter_nil,List.append_nil];exact t4
    ·rw [decide_eq_false hup,if_pos (by decide)];refine ⟨by decide,fun tp htp=>⟨_,SqT.of (gb htp _ _ q4),_,SqT.of ib,(fun z=>hne (by unfold Ke at z;exact List.map_eq_nil_iff.mp z)),Nat.le_trans (show (Ke p).length + 1 ≤ 7 by rw [Fc];omega) (by decide),(fun z=>by cases z),fun _ tq htq=>hN _ _ ⟨?_,?_,rs ++ [tq],by rw [List.map_append];rfl,?_⟩⟩⟩
     ·exact (s4.trans (gb htp)).trans (gb htq)
     ·exact (n4.upd).upd
     ·rw [et,List.filter_append,List.filter_cons,decide_eq_true hup,if_pos rfl,List.filter_nil,List.map_append];refine (t4.same ((gb htp).trans (gb htq))).app (Gd.one ?_);rw [ib];unfold Ke;rw [List.map_append];rfl
   ·rintro ys H4 ⟨s4,n4,rs,rfl,t4⟩ rl hrl;have s5:=(s3.trans s4).trans (gb (o:=.lst (rs.map V.ref)) hrl);have f5:=s5 _ _ f1;rw [Fc,List.take_length] at t4;have hfl:fs.length ≤ 280000 * 6:=by
     rw [f2.1];refine Nat.le_trans (vz (c:=6) (fun p=>Nat.le_trans (QA p) hws) _) (Nat.mul_le_mul_right _ ?_);rw [List.length_take];omega
    have hrs:rs.length ≤ 6:=by
     rw [t4.1,List.length_map];exact Nat.le_trans (List.length_filter_le ..) (by omega)
    refine ⟨_,rfl,_,f5,_,ib,?_,?_,?_,⟨fs ++ rs,by rw [ib,List.map_append],?_⟩,_,rfl⟩
    ·rw [List.length_map,List.length_map];exact Nat.le_trans (show fs.length + rs.length ≤ 1680006 by omega) (by decide)
    ·exact (s1.trans s5).updN hf
    ·exact (n4.upd).upd
    ·exact ((f2.same s5).app (t4.same (gb hrl))).put f5
 ·rintro σ H1 zzq;refine zzP fun zzM zzh=>?_
  obtain ⟨s1,n1,L1,x,y,rfl⟩:=zzq;subst zzh;walk_at "RD";rw [List.length_map,l2,List.take_length] at L1;exact q f H1 s1 n1 hf L1
end
theorem DB {S:Sys} (hm:S.m ≤ 6):∀ k,k ≤ 6→(rh S k).length ≤ k * 279936:=by
 intro k
 induction k with
 | zero=>intro _;exact Nat.le_refl _
 | succ k ih=>
  intro hk;unfold rh;rw [List.length_append];have h1:=ih (by omega);have h2:=Nat.le_trans (List.length_filter_le (clR S) (lev S (k + 1))) (JC (S:=S) (k + 1));have h3:S.m ^ (k + 1 + 1) ≤ 6 ^ 7:=Nat.le_trans (Nat.pow_le_pow_left hm _) (Nat.pow_le_pow_right (by decide) (by omega));omega
theorem Gd.at {H:Hp} {qs:List Addr} {ps:List (List Nat)} (h:Gd H qs ps) {i:Nat} {q:Addr} (hq:qs[i]? = some q):∃ p,ps[i]? = some p∧H q=some (.tup (Ke p)):=by
 have hi:i < ps.length:=by rw [← h.1];exact (List.getElem?_eq_some_iff.mp hq).1
 exact ⟨_,List.getElem?_eq_getElem hi,h.2 i q _ hq (List.getElem?_eq_getElem hi)⟩
section
variable (P:Program) (w:World)
noncomputable def VI (t:Adr):Sp:=fun vs H Q _=>∃ wp n ws,vs=[.ref wp]∧Dd P w t H wp n ws∧lA n ws∧NoT H ∧
 ∀ r H' k,ac H H'→NoT H'→lev (Jb n ws) k=[]→k ≤ 6→Jx H' r (rh (Jb n ws) k)→Q (.ref r) H'
end
section
variable {P:Program} {w:World} {K:PySem.W.Frag} {mg:Str→Option Value} {base:Heap} {t:Adr}
theorem AM (T:Txt w K mg t):Zb P w K mg base CX0 2 t.Bl t.kl ["wanted"] (VI P w t):=by
 have g49:Zb P w K mg base CX0 1 t.Ad t.Hd q34 (WI P w t):=VM T;refine T.jo.ok Dj (fun vs H Q E h=>?_) (fun _ _ _ s H vs Q E hr h=>?_)
 ·obtain ⟨wp,n,ws,rfl,_⟩:=h;rfl
 obtain ⟨wp,n,ws,rfl,W,wk,nt,q⟩:=h;obtain ⟨dx,al,sd,e1,e2,D⟩:=id W;have hu:=om hr;have hws:=wk.2.1;have hm:(Jb n ws).m ≤ 6:=hws;refine ⟨_,(db (wb (i:=1) Dj.nd (qh fb))
   (db (cj (i:=2) Dj.nd rfl (Or.inl rfl) rfl (Ae rfl T.Kf (cb (qc (pv 0) rfl) fb)) (Ec (sc:=ub Fl) rfl (by decide +kernel)) (N:=["want"]) (sel:=[none]) (kd (M:=q52) (by decide +kernel)) (Blk.of (fun _ _ _ _=>(Eb (i:=0) (Bi (N:=["want"]) (by decide +kernel) rfl))) (fun _ _ _ _=>⟨_,Kg,by walk_at "B"⟩) (fun _ _ _ _=>⟨_,(Nc (cb (pv 0) fb)),by walk_at "B"⟩)) rfl)
   (db (pz PassesOwn.never (cA (pv 2) (fun _=>rfl)) (db (wb (i:=2) Dj.nd (qb g49 hr T.pk T.Ie.kp T.Lk (cb (pv 0) (cb (pv 2) fb))))
   (lb (ke (uo PySem.F.plainAttrs_list PySem.F.slot_list_extend PySem.F.type_list_extend Iw (pv 1) (cb (Yf rfl (Eg (pv 2)) (Ec (sc:=ub Fl) rfl (by decide +kernel)) (N:=["path","wanted"]) (sel:=[none,some 0]) (kd (M:=q52) (by decide +kernel)) (Blk.of (fun _ _ _ _=>(Eb (i:=0) (Bi (N:=["path","wanted"]) (by decide +kernel) rfl))) (fun _ _ _ _=>⟨_,(Ho (vw (Ws hu (Nc (cb (Db Vb (pv 0) (oN YI jb)) (cb (Db Vb (pv 0) jb) fb))) (qc (pv 1) rfl)))),by walk_at "B"⟩) (fun _ _ _ _=>⟨_,(pv 0),by walk_at "B"⟩))) fb))))))
   (lb (Bb (pv 1)))))),?_⟩
 walk_at "RD";refine ⟨by decide,fun f hf=>⟨_,Li T ((gb hf) _ _ e1),_,rfl,by omega,by omega,?_⟩⟩;rw [show ((ws.length:Int)).toNat=ws.length by omega];have sA:ac H (upd H f (.lst [])):=gb hf;have nA:NoT (upd H f (.lst [])):=nt.upd;have fA:(upd H f (.lst [])) f=some (.lst []):=ib;generalize upd H f (.lst [])=HA at sA nA fA ⊢;refine gd.range (fun i ys H'=>ac HA H'∧NoT H'∧∃ rs:List Addr,ys=rs.map V.ref∧Gd H' rs ((List.range i).map fun k=>[k])) (Nat.le_trans hws (by decide)) ⟨ac.refl _,nA,[],rfl,Gd.nil _⟩ (fun i ys H' hi ⟨_,_,rs,e,t'⟩=>by rw [e,List.length_map,t'.1,List.length_map,List.length_range];exact Nat.le_refl _) ?_ ?_
 ·rintro i ys H1 hi ⟨s1,n1,rs,rfl,t1⟩ N hN;walk_at "RD";refine ⟨Sub.name,by decide,fun tp htp=>hN _ _ ⟨s1.trans (gb htp),n1.upd,rs ++ [tp],by rw [List.map_append];rfl,?_⟩⟩;rw [List.range_succ,List.map_append];refine (t1.same (gb htp)).app (Gd.one ?_);rw [ib];rfl
 rintro ys H1 ⟨s1,n1,rs,rfl,t1⟩ pl hpl;have s2:=s1.trans (gb (o:=.lst (rs.map V.ref)) hpl);have n2:NoT (upd H1 pl (.lst (rs.map V.ref))):=n1.upd;have L2':Jx (upd H1 pl (.lst (rs.map V.ref))) pl (lev (Jb n ws) 0):=⟨rs,ib,t1.same (gb hpl)⟩;generalize upd H1 pl (.lst (rs.map V.ref))=H2 at s2 n2 L2' ⊢;refine ⟨fun j σ H'=>∃ k pl',j=6 - k∧k ≤ 6∧ac H H'∧NoT H'∧Jx H' f (rh (Jb n ws) k)∧Jx H' pl' (lev (Jb n ws) k)∧pl' ≠ f∧σ=[some (.ref wp),some (.ref f),some (.ref pl')],⟨6,0,pl,rfl,Nat.zero_le _,sA.trans s2,n2,⟨[],s2 _ _ fA,Gd.nil _⟩,L2',Ne.symm (Lb (s1 _ _ fA) hpl),rfl⟩,?_⟩;rintro j σ H3 zzq;refine zzP fun zzM zzh=>?_
 obtain ⟨k,pl',rfl,hk,s3,n3,F3,L3,hne,rfl⟩:=zzq;obtain ⟨qs,q1,q2⟩:=id L3;obtain ⟨fs,f1,f2⟩:=id F3;subst zzh;walk_at "RD";refine ⟨!(qs.map V.ref).isEmpty,.inl ⟨_,SqL.of q1,rfl⟩,?_⟩;by_cases he:lev (Jb n ws) k=[]
 ·have hq0:qs=[]:=List.length_eq_zero_iff.mp (by rw [q2.1,he];rfl);rw [hq0,if_neg (by decide)];exact q f H3 k s3 n3 he hk F3
 have hq0:qs ≠ []:=fun z=>by
  have:=q2.1;rw [z] at this;exact he (List.length_eq_zero_iff.mp this.symm)
 have hk6:k < 6:=by
  rcases Nat.lt_or_ge k 6 with z | z
  ·exact z
  ·have:=nz (TK (S:=Jb n ws)) (k - (Jb n ws).m);rw [show (Jb n ws).m + (k - (Jb n ws).m)=k by omega] at this;exact absurd this he
 rw [if_pos (by cases qs with | nil=>exact absurd rfl hq0 | cons x l=>rfl)];have hlen:∀ k,k ≤ 6→(lev (Jb n ws) k).length ≤ 279936:=fun k hk=>Nat.le_trans (JC k) (Nat.le_trans (Nat.pow_le_pow_left hm _) (Nat.pow_le_pow_right (n:=6) (by decide) (show k + 1 ≤ 7 by omega)))
 refine ⟨fun σ' H'=>∃ x,ac H H'∧NoT H'∧Jx H' f (rh (Jb n ws) (k + 1))∧Jx H' x (lev (Jb n ws) (k + 1))∧x ≠ f∧σ'=[some (.ref wp),some (.ref f),some (.ref x)],fun σ' H' z=>?_,?_⟩
 ·obtain ⟨x,z1,z2,z3,z4,z5,z6⟩:=z;exact ⟨6 - (k + 1),by omega,k + 1,rfl,by omega,z1,z2,z3,x,z4,z5,z6⟩
 refine ⟨wp,pl',n,ws,lev (Jb n ws) k,rfl,W.same s3,L3,fun p hp=>?_,?_,wk,n3,fun r H4 s4 n4 hr4 L4=>?_⟩
 ·obtain ⟨g1,g2,g3⟩:=Rz _ _ hp;refine ⟨?_,by omega,g3⟩;intro z;rw [z] at g1;cases g1
 ·have:=hlen k hk;omega
 obtain ⟨us,u1,u2⟩:=id L4;have f4:=s4 _ _ f1;have hrf:r ≠ f:=fun z=>by rw [z,f1] at hr4;cases hr4
 refine ⟨.inl ⟨_,SqL.of f4⟩,r,rfl,⟨_,SqL.of u1⟩,?_⟩;have L4':Gd H4 us (lev (Jb n ws) (k + 1)):=u2;have hul:us.length ≤ 279936:=by rw [L4'.1];exact hlen _ (by omega)
 refine gd.list (xs:=us.map V.ref) (fun i ys H'=>ac H4 H'∧NoT H'∧∃ rs:List Addr,ys=rs.map V.ref∧Gd H' rs (((lev (Jb n ws) (k + 1)).take i).filter (clR (Jb n ws)))) (by rw [List.length_map];exact Nat.le_trans hul (by decide)) ⟨ac.refl _,n4,[],rfl,Gd.nil _⟩ ?_ ?_ ?_
 ·rintro i ys H' hi zzq;refine zzP fun zzM zzh=>?_
  obtain ⟨s5,n5,rs',rfl,t5⟩:=zzq;subst zzh;refine ⟨SqL.of (s5 _ _ u1),?_⟩;rw [List.length_map,t5.1];refine Nat.le_trans (List.length_filter_le ..) ?_;rw [List.length_take];omega
 ·rintro i v ys H5 hv ⟨s5,n5,rs',rfl,t5⟩ N hN;obtain ⟨qi,hqi,rfl⟩:=vg hv;obtain ⟨p,hp,hpq⟩:=L4'.at hqi;obtain ⟨g1,g2,g3⟩:=Rz _ _ (List.mem_of_getElem? hp);have hpne:p ≠ []:=fun z=>by rw [z] at g1;cases g1
  have hp5:=s5 _ _ hpq;have s45:=s3.trans (s4.trans s5);have ef:((lev (Jb n ws) (k + 1)).take (i + 1)).filter (clR (Jb n ws))=((lev (Jb n ws) (k + 1)).take i).filter (clR (Jb n ws)) ++ (if clR (Jb n ws) p then [p] else []):=by
   rw [List.take_add_one,hp,List.filter_append];show _ ++ List.filter _ [p]=_;rw [List.filter_cons,List.filter_nil]
  walk_at "RD";refine ⟨Sub.name,_,SqT.of hp5,_,Wt hpne,_,SqT.of hp5,V.int (p.headD 0:Nat),?_,by decide,fun tp htp=>⟨_,Pe T (gb htp _ _ (s45 _ _ e1)),sd,rfl,_,cc (cc D s45) (gb htp),mf (Pl p) (p.headD 0),ib,?_⟩⟩
  ·cases p with
   | nil=>exact absurd rfl hpne
   | cons x p=>exact yb (j:=0) rfl
  rw [Kx];have s6:=s5.trans (gb (o:=.tup [V.int ((Pl p:Nat):Int),V.int ((p.headD 0:Nat):Int)]) htp);have t6:=t5.same (gb (o:=.tup [V.int ((Pl p:Nat):Int),V.int ((p.headD 0:Nat):Int)]) htp);cases hc:(Jb n ws).e (Pl p) (p.headD 0) with
  | true=>
   refine hN _ _ ⟨s6,n5.upd,rs' ++ [qi],by rw [List.map_append];rfl,?_⟩;rw [ef,show clR (Jb n ws) p=true from hc,if_pos rfl];exact t6.app (Gd.one (s6 _ _ hpq))
  | false=>
   refine hN _ _ ⟨s6,n5.upd,rs',rfl,?_⟩;rw [ef,show clR (Jb n ws) p=false from hc,if_neg Bool.false_ne_true,List.append_nil];exact t6
 ·rintro ys H5 ⟨s5,n5,rs',rfl,t5⟩ rl hrl;rw [List.length_map,L4'.1,List.take_length] at t5;have sr:=gb (o:=.lst (rs'.map V.ref)) hrl;have f5:=sr _ _ (s5 _ _ f4);have hfl:fs.length ≤ 6 * 279936:=by rw [f2.1];exact Nat.le_trans (DB hm k hk) (Nat.mul_le_mul_right _ hk)
  have hrs:rs'.length ≤ 279936:=by
   rw [t5.1];exact Nat.le_trans (List.length_filter_le ..) (hlen _ (by omega))
  refine ⟨_,rfl,_,f5,_,ib,?_,r,?_,(n5.upd).upd,⟨fs ++ rs',by rw [ib,List.map_append],?_⟩,⟨us,?_,?_⟩,hrf,rfl⟩
  ·rw [List.length_map,List.length_map];exact Nat.le_trans (show fs.length + rs'.length ≤ 1959552 by omega) (by decide)
  ·exact (((s3.trans s4).trans s5).trans sr).updN hf
  ·exact ((f2.same ((s4.trans s5).trans sr)).app (t5.same sr)).put f5
  ·rw [Ab hrf];exact sr _ _ (s5 _ _ u1)
  ·exact ((L4'.same s5).same sr).put f5
end
end My
namespace My
open PySem L2
noncomputable def pf (S:Sys):Od:=(List.range S.m).flatMap fun i=>((List.range S.m).filter fun j=>S.e i j).map fun j=>(i,j)
theorem Pk {S:Sys} {i j:Nat} (h:(i,j) ∈ pf S):S.e i j=true:=by
 obtain ⟨k,_,h⟩:=List.mem_flatMap.mp h;obtain ⟨l,hl,e⟩:=List.mem_map.mp h;cases e;exact (List.mem_filter.mp hl).2
theorem Hv {S:Sys} (k:S.Ok) {i j:Nat} (h:S.e i j=true):(i,j) ∈ pf S:=
 List.mem_flatMap.mpr ⟨i,List.mem_range.mpr (k.lt h).1,List.mem_map.mpr ⟨j,List.mem_filter.mpr ⟨List.mem_range.mpr (k.lt h).2.1,h⟩,rfl⟩⟩
theorem CK {n:Int} {ws:List (WD × Int)} {i:Nat} (hi:i < ws.length):∀ k,k ≤ ws.length→fj n ws i k=((List.range k).filter fun j=>(Jb n ws).e i j).map fun j=>(mf i j,V.int ((Jb n ws).st i j)):=by
 have hp:ws[i]? = some ws[i]:=List.getElem?_eq_getElem hi;intro k
 induction k with
 | zero=>intro _;rfl
 | succ k ih=>
  intro hk;have hq:ws[k]? = some ws[k]:=List.getElem?_eq_getElem (by omega);have hs:=Gm (n:=n) hp hq;rw [List.range_succ,List.filter_append,List.map_append,← ih (by omega),List.filter_cons,List.filter_nil];by_cases h:i ≠ k∧mt n ws[i].1 ws[k].1=true
  ·rw [Uw hp hq h,hs.1,decide_eq_true h.1,h.2,if_pos (by rfl),List.map_cons,List.map_nil,hs.2]
  ·rw [lv hp hq h,hs.1,if_neg (by simpa using h),List.map_nil,List.append_nil]
theorem cD {α β:Type} {f g:α→List β}:∀ {l:List α},(∀ x ∈ l,f x=g x)→l.flatMap f=l.flatMap g:=by
 intro l
 induction l with
 | nil=>intro _;rfl
 | cons x l ih=>intro h;rw [List.flatMap_cons,List.flatMap_cons,h x (List.mem_cons_self ..),ih fun y hy=>h y (List.mem_cons_of_mem _ hy)]
theorem Io (n:Int) (ws:List (WD × Int)):Pf n ws ws.length=(pf (Jb n ws)).map fun p=>(mf p.1 p.2,V.int ((Jb n ws).st p.1 p.2)):=by
 unfold Pf pf;rw [List.map_flatMap];refine cD fun i hi=>?_
 rw [CK (List.mem_range.mp hi) _ (Nat.le_refl _),List.map_map];rfl
theorem CC {n:Int} {ws:List (WD × Int)} (h:ws.length ≤ 6):(pf (Jb n ws)).length ≤ 36:=by
 have:=Aw n ws ws.length;rw [Io,List.length_map] at this;exact Nat.le_trans this (Nat.mul_le_mul h h)
theorem qu {H:Hp} {n:Int} {ws:List (WD × Int)} {xs:List (List Key × Addr × Value)} (r:Paired (fun (p:List Key × V) (q:List Key × Addr × Value)=>p.1=q.1∧H q.2.1=some (.tup (p.1.map kV))∧zd p.2 q.2.2) (Pf n ws ws.length) xs) {i:Nat} {k:List Key} {b:Addr} {u:Value} (hx:xs[i]? = some (k,b,u)):∃ x y,(pf (Jb n ws))[i]? = some (x,y)∧H b=some (.tup [.int (x:Nat),.int (y:Nat)]):=by
 rw [Io] at r;have hi:i < ((pf (Jb n ws)).map fun p=>(mf p.1 p.2,V.int ((Jb n ws).st p.1 p.2))).length:=by rw [Wp r];exact (List.getElem?_eq_some_iff.mp hx).1
 obtain ⟨q,hq,z1,z2,z3⟩:=bE r (List.getElem?_eq_getElem hi);rw [hx] at hq;cases hq;rw [List.length_map] at hi;refine ⟨(pf (Jb n ws))[i].1,(pf (Jb n ws))[i].2,List.getElem?_eq_getElem hi,?_⟩;rw [List.getElem_map] at z2;exact z2
section
variable (P:Program) (w:World)
noncomputable def EJ (t:Adr):Sp:=fun vs H Q _=>∃ wp a n ws o,vs=[.ref wp,.ref a]∧Dd P w t H wp n ws∧Ll P w H a o∧lA n ws∧NoT H ∧
 (∀ r i j H',ac H H'→NoT H'→H' r=some (.tup [.int (i:Nat),.int (j:Nat)])→(Jb n ws).e i j=true→inO o i j=false→Q (.ref r) H')∧((∀ i j,(Jb n ws).e i j=true→inO o i j=true)→Q .non H)
noncomputable def eu (S:Sys) (b:Nat→Int):List V:=(List.range S.m).map fun v=>V.int (b v)
noncomputable def wI (t:Adr):Sp:=fun vs H Q _=>∃ wp z a n ws o,vs=[.ref wp,.int z,.ref a]∧Dd P w t H wp n ws∧Ll P w H a o∧lA n ws∧0 < z∧NoT H ∧
 ∀ r H',ac H H'→NoT H'→H r=none→H' r=some (.lst (eu (Jb n ws) fun v=>Dq (Jb n ws) z o (pf (Jb n ws)) ws.length v % z))→Q (.ref r) H'
end
theorem nD {S:Sys} {b:Nat→Int} {i:Nat} (h:i < S.m):(eu S b)[i]? = some (V.int (b i)):=by
 unfold eu;rw [List.getElem?_map,List.getElem?_range h];rfl
theorem kI {S:Sys} {b c:Nat→Int} {i:Nat} {x:Int} (h1:c i=x) (h2:∀ j,j ≠ i→c j=b j):(eu S b).set i (V.int x)=eu S c:=by
 refine List.ext_getElem? fun j=>?_
 unfold eu;rw [List.getElem?_set];by_cases hj:i=j
 ·subst hj;rw [if_pos rfl,List.length_map,List.length_range];by_cases hl:i < S.m
  ·rw [if_pos hl,List.getElem?_map,List.getElem?_range hl,← h1];rfl
  ·rw [if_neg hl,List.getElem?_map,List.getElem?_eq_none (by rw [List.length_range];omega)];rfl
 ·rw [if_neg hj,List.getElem?_map,List.getElem?_map];by_cases hl:j < S.m
  ·rw [List.getElem?_range hl];show some (V.int (b j))=some (V.int (c j));rw [h2 j (Ne.symm hj)]
  ·rw [List.getElem?_eq_none (by rw [List.length_range];omega)];rfl
theorem OM {n j:Nat} (h:j < n):ixN n (j:Int)=some j:=by unfold ixN;simp;omega
theorem FC {S:Sys} {z:Int} {o:Od} (b:Nat→Int) (i j:Nat):relax S z o b (i,j) j=if b i + wtO S z o i j > b j then b i + wtO S z o i j else b j:=by
 have e:relax S z o b (i,j) j=max (b j) (b i + wtO S z o i j):=if_pos rfl;rw [e,Int.max_def];split <;> split <;> omega
theorem uB {S:Sys} {z:Int} {o:Od} (b:Nat→Int) (i j:Nat) {k:Nat} (h:k ≠ j):relax S z o b (i,j) k=b k:=if_neg h
noncomputable def oP (z:Int):V→V
 | .int x=>.int (x % z)
 | v=>v
theorem nH (S:Sys) (b:Nat→Int) (z:Int):(eu S b).map (oP z)=eu S fun v=>b v % z:=by
 unfold eu;rw [List.map_map];rfl
section
variable {P:Program} {w:World} {K:PySem.W.Frag} {mg:Str→Option Value} {base:Heap} {t:Adr}
theorem kM (T:Txt w K mg t):Zb P w K mg base CX0 2 t.Ld t.Md q35 (EJ P w t):=by
 have g21:Zb P w K mg base CX0 1 t.Sd t.Ud q9 (NC P w):=BI T;refine T.Ye.ok Be (fun vs H Q E h=>?_) (fun _ _ _ s H vs Q E hr h=>?_)
 ·obtain ⟨wp,a,n,ws,o,rfl,_⟩:=h;rfl
 obtain ⟨wp,a,n,ws,o,rfl,W,O,wk,nt,q1,q2⟩:=h;obtain ⟨dx,al,sd,e1,e2,D⟩:=id W;have hu:=om hr;refine ⟨_,(db (cf PassesOwn.never rfl (yD (qc (pv 0) rfl)) (uf (K:=K) (n:=2) rfl rfl (lc (Eb (i:=2) Be.nd) (lc (Eb (i:=3) Be.nd) Df))) (lb (Dc (af (pe (qb g21 hr T.Dk T.vf.kp T.uk (cb (pv 1) (cb (pv 2) (cb (pv 3) fb)))))) (lb (Bb (Nc (cb (pv 2) (cb (pv 3) fb))))) Ob)))
   (lb (Bb Rf))),?_⟩
 walk_at "RD";refine ⟨_,Pe T e1,_,rfl,_,D,fun ob es ep xs r=>?_⟩;have hxl:xs.length=(pf (Jb n ws)).length:=by rw [← Wp r.ks,Io,List.length_map]
 refine Zj.of (n:=(Pf n ws ws.length).length) (fun i σ H'=>H'=H∧(∀ l p,l < i→(pf (Jb n ws))[l]? = some p→inO o p.1 p.2=true)∧∃ x y,σ=[some (.ref wp),some (.ref a),x,y]) ?_ ?_ ?_ ?_ ?_
 ·exact ⟨rfl,fun l p hl=>absurd hl (Nat.not_lt_zero _),_,_,rfl⟩
 ·rintro i σ H' hi ⟨rfl,_⟩;exact ⟨r.at_,hi⟩
 ·rintro σ H' ⟨rfl,_⟩;exact ⟨r.at_,Nat.le_refl _⟩
 ·rintro i σ H' v H2 hi ⟨rfl,hin,x,y,rfl⟩ ⟨rfl,k,b,u,hxs,rfl⟩;obtain ⟨i1,j1,hp,hb⟩:=qu r.ks hxs;refine vn (SqT.of hb) ?_;simp only [List.set_cons_succ,List.set_cons_zero];refine Ib (!inO o i1 j1) (fun Q hQ=>?_) (fun hb=>?_) (fun hb=>?_)
  ·walk_at "RD";exact ⟨a,i1,j1,o,rfl,O,nt,_,rfl,hQ⟩
  ·walk_at "RD";refine ⟨by decide,fun tp htp=>q1 tp i1 j1 _ (gb htp) nt.upd ib (Pk (List.mem_of_getElem? hp)) (by simpa using hb)⟩
  ·simp only [Xb];refine ⟨trivial,fun l p hl hlp=>?_,_,_,rfl⟩;rcases Nat.lt_or_ge l i with z | z
   ·exact hin l p z hlp
   ·have:l=i:=by omega
    subst this;rw [hp] at hlp;cases hlp;simpa using hb
 ·rintro σ H' zzq;refine zzP fun zzM zzh=>?_
  obtain ⟨rfl,hin,x,y,rfl⟩:=zzq;subst zzh;walk_at "RD";refine q2 fun i j he=>?_
  obtain ⟨l,hl⟩:=List.getElem?_of_mem (Hv wk.ok he);refine hin l _ ?_ hl;rw [Io,List.length_map];exact (List.getElem?_eq_some_iff.mp hl).1
theorem GM (T:Txt w K mg t):Zb P w K mg base CX0 2 t.We t.Me q36 (wI P w t):=by
 have g22:Zb P w K mg base CX0 1 t.Vd t.Yd q19 (MD P w t):=nJ T;refine T.Vf.ok Cd (fun vs H Q E h=>?_) (fun _ _ _ s H vs Q E hr h=>?_)
 ·obtain ⟨wp,z,a,n,ws,o,rfl,_⟩:=h;rfl
 obtain ⟨wp,z,a,n,ws,o,rfl,W,O,wk,hz,nt,q⟩:=h;obtain ⟨dx,al,sd,e1,e2,D⟩:=id W;have hu:=om hr;have hws:=wk.2.1;refine ⟨_,(db (cj (i:=3) Cd.nd rfl (Or.inl rfl) rfl (Ae rfl T.Kf (cb (qc (pv 0) rfl) fb)) (Ec (sc:=ub Te) rfl (by decide +kernel)) (N:=["want"]) (sel:=[none]) (kd (M:=q53) (by decide +kernel)) (Blk.of (fun _ _ _ _=>(Eb (i:=0) (Bi (N:=["want"]) (by decide +kernel) rfl))) (fun _ _ _ _=>⟨_,Kg,by walk_at "B"⟩) (fun _ _ _ _=>⟨_,jb,by walk_at "B"⟩)) rfl)
   (db (cf PassesOwn.never rfl (Ae rfl T.Kf (cb (qc (pv 0) rfl) fb)) (Eb (i:=4) Cd.nd) (lb (cf PassesOwn.never rfl (yD (qc (pv 0) rfl)) (uf (K:=K) (n:=2) rfl rfl (lc (Eb (i:=5) Cd.nd) (lc (Eb (i:=6) Cd.nd) Df))) (lb (xw (Kb (Nr rfl) rfl T.JG Do (cb (Db Qd (pv 3) (pv 6)) (cb (Yb wc (Db Qd (pv 3) (pv 5)) (qb g22 hr T.Kk T.Bf.kp T.Sk (cb (pv 0) (cb (pv 1) (cb (pv 2) (cb (pv 5) (cb (pv 6) fb))))))) fb))) (bN (pv 3) (pv 6) nI))))))
   (lb (Bb (Yf rfl (Eg (pv 3)) (Ec (sc:=ub Te) rfl (by decide +kernel)) (N:=["begin","size"]) (sel:=[none,some 1]) (kd (M:=q53) (by decide +kernel)) (Blk.of (fun _ _ _ _=>(Eb (i:=0) (Bi (N:=["begin","size"]) (by decide +kernel) rfl))) (fun _ _ _ _=>⟨_,Kg,by walk_at "B"⟩) (fun _ _ _ _=>⟨_,(Yb wg (pv 0) (pv 1)),by walk_at "B"⟩))))))),?_⟩
 walk_at "RD";refine ⟨_,Li T e1,_,rfl,by omega,by omega,?_⟩;rw [show ((ws.length:Int)).toNat=ws.length by omega];refine gd.range_map (fun _=>V.int 0) (Nat.le_trans hws (by decide)) (fun i N hi hN=>?_) (fun b hb=>?_)
 ·walk_at "RD";exact ⟨Sub.name,hN⟩
 walk_at "RD";have sb:=gb (o:=.lst ((List.range ws.length).map fun _=>V.int 0)) hb;refine ⟨_,Li T (sb _ _ e1),_,rfl,by omega,by omega,?_⟩;rw [show ((ws.length:Int)).toNat=ws.length by omega];refine Zj.range (fun i σ H'=>ac H H'∧NoT H'∧H' b=some (.lst (eu (Jb n ws) (Dq (Jb n ws) z o (pf (Jb n ws)) i)))∧∃ x y u,σ=[some (.ref wp),some (.int z),some (.ref a),some (.ref b),x,y,u]) ⟨sb,nt.upd,ib,_,_,_,rfl⟩ ?_ ?_
 ·rintro i σ H1 hi zzq;refine zzP fun zzM zzh=>?_
  obtain ⟨s1,n1,b1,x,y,u,rfl⟩:=zzq;subst zzh;walk_at "RD";refine ⟨_,Pe T (s1 _ _ e1),_,rfl,_,cc D s1,fun ob es ep xs r=>?_⟩;have hsd:sd ≠ b:=fun z=>by have g:=r.at_;rw [z,b1] at g;cases g
  refine Zj.of (n:=(Pf n ws ws.length).length) (fun j σ H'=>qe b H1 H'∧ac H H'∧NoT H'∧H' b=some (.lst (eu (Jb n ws) (((pf (Jb n ws)).take j).foldl (relax (Jb n ws) z o) (Dq (Jb n ws) z o (pf (Jb n ws)) i))))∧∃ x y u,σ=[some (.ref wp),some (.int z),some (.ref a),some (.ref b),x,y,u]) ?_ ?_ ?_ ?_ ?_
  ·exact ⟨qe.of (ac.refl _),s1,n1,b1,_,_,_,rfl⟩
  ·rintro j σ H' hj ⟨sx,_⟩;exact ⟨sx _ _ hsd r.at_,hj⟩
  ·rintro σ H' ⟨sx,_⟩;exact ⟨sx _ _ hsd r.at_,Nat.le_refl _⟩
  ·rintro j σ H' v H2 hj ⟨sx,s2,n2,b2,x,y,u,rfl⟩ ⟨rfl,k,bb,u',hxs,rfl⟩;obtain ⟨i1,j1,hp,hbb⟩:=qu r.ks hxs;have he:=Pk (List.mem_of_getElem? hp);have hlt:=wk.ok.lt he;refine vn (SqT.of (sx _ _ (fun z=>by rw [z,b1] at hbb;cases hbb) hbb)) ?_;simp only [List.set_cons_succ,List.set_cons_zero];walk_at "RD";have hj1:j1 < (eu (Jb n ws) (((pf (Jb n ws)).take j).foldl (relax (Jb n ws) z o) (Dq (Jb n ws) z o (pf (Jb n ws)) i))).length:=by unfold eu;rw [List.length_map,List.length_range];exact hlt.2.1
   refine ⟨_,SqL.of b2,_,yb (j:=j1) (nD hlt.2.1),_,SqL.of b2,_,yb (j:=i1) (nD hlt.1),wp,z,a,i1,j1,o,n,ws,rfl,W.same s2,cc O s2,he,n2,_,rfl,_,rfl,_,rfl,_,b2,j1,OM hj1,fun c u hc e=>by rw [Ab hc];exact sx _ _ hc e,s2.updN hb,n2.upd,?_,?_⟩
   ·rw [ib];refine congrArg (fun l=>some (HO.lst l)) (kI ?_ fun k hk=>?_)
    ·rw [List.take_add_one,hp,List.foldl_append];exact FC _ i1 j1
    ·rw [List.take_add_one,hp,List.foldl_append];exact uB _ i1 j1 hk
   ·exact ⟨_,rfl⟩
  ·rintro σ H' zzq;refine zzP fun zzM zzh=>?_
   obtain ⟨sx,s2,n2,b2,x,y,u,rfl⟩:=zzq;subst zzh;rw [Io,List.length_map,List.take_length] at b2;exact ⟨s2,n2,b2,_,_,_,rfl⟩
 ·rintro σ H1 zzq;refine zzP fun zzM zzh=>?_
  obtain ⟨s1,n1,b1,x,y,u,rfl⟩:=zzq;subst zzh;walk_at "RD";refine ⟨⟨_,SqL.of b1⟩,?_⟩;refine gd.list_map (oP z) (SqL.of b1) (by unfold eu;rw [List.length_map,List.length_range];exact Nat.le_trans hws (by decide)) (fun i x N hx hN=>?_) (fun p hp=>?_)
  ·unfold eu at hx;obtain ⟨y,_,rfl⟩:=List.mem_map.mp (List.mem_of_getElem? hx);walk_at "RD";exact ⟨Sub.name,hz,hN⟩
  ·rw [nH];exact q p _ (s1.trans (gb hp)) n1.upd (s1.free hp) ib
end
end My
namespace My
open PySem L2
section
open PySem.Spec PyProof.Rows
theorem UG {X:Cx} (hc:X.calm=true):Fj X (.builtin "sum") (fun xs H Q=>∃ l ks,xs=[.ref l]∧SqL X.K H l (List.map V.int ks)∧(∀ k ∈ ks,0 ≤ k∧k ≤ 1000000000)∧ks.length ≤ 1000∧Q (.int ks.sum) H):=by
 intro pins s σ H xs us Q I r h;obtain ⟨l,ks,rfl,hq,hk,hl,q⟩:=h;obtain ⟨u,rfl,ru⟩:=Zn r;cases ru;obtain ⟨its,rv,pl,hz⟩:=I.list hq;obtain ⟨xs,e1,e2⟩:=zB rv;have hil:its.toArray=intItems xs.toArray:=by rw [e1];unfold intItems;simp
 have hls:s.heap.IsList l (intItems xs.toArray):=by rw [← hil];exact pl.isList
 have hxl:xs.length=ks.length:=by rw [← e2,List.length_map]
 have hn:∀ i,i < ks.length→ks[i]? = some (numAt xs.toArray i):=fun i hi=>by
  rw [numAt_eq,List.getD_eq_getElem?_getD];show ks[i]? = some (((xs.map (·.1))[i]?).getD 0);rw [e2,List.getElem?_eq_getElem hi];rfl
 have hps:∀ n,n ≤ ks.length→preSum (numAt xs.toArray) n=(ks.take n).sum∧0 ≤ (ks.take n).sum∧(ks.take n).sum ≤ 1000000000 * (n:Int):=fun n=>by
  induction n with
  | zero=>intro _;exact ⟨by simp [preSum],by simp,by simp⟩
  | succ n ih=>
   intro hn';obtain ⟨i1,i2,i3⟩:=ih (by omega);have e:=hn n (by omega);have hv:=hk _ (List.mem_of_getElem? e);have es:(ks.take (n + 1)).sum=(ks.take n).sum + numAt xs.toArray n:=by
    rw [List.take_add_one,e,List.sum_append];simp
   refine ⟨?_,by omega,by omega⟩;show preSum (numAt xs.toArray) n + numAt xs.toArray n=_;rw [i1,es]
 have hsz:xs.toArray.size=ks.length:=by rw [List.size_toArray,hxl]
 refine sum_intList (I.ok.hd hc) hls (fun j hj=>?_) fun h' tk t' k=>⟨.int ks.sum,H,I.kept k,⟨t',?_⟩,q⟩
 ·rw [hsz] at hj;have e:=hn j hj;have hv:=hk _ (List.mem_of_getElem? e);obtain ⟨p1,p2,p3⟩:=hps (j + 1) (by omega);unfold InLong;rw [p1];omega
 ·rw [hsz,(hps _ (Nat.le_refl _)).1,List.take_length]
end
noncomputable def Ms (H:Hp):Pap→Addr→Prop
 | .alone k,a=>H a=some (.tup [.str (Str.ofString "alone"),.int (k:Nat)])
 | .ring r,a=>∃ b,H a=some (.tup [.str (Str.ofString "ring"),.ref b])∧H b=some (.tup (Ke r))
 | .case i j p q,a=>∃ b c,H a=some (.tup [.str (Str.ofString "case"),.int (i:Nat),.int (j:Nat),.ref b,.ref c])∧Ms H p b∧Ms H q c
theorem Ms.same {H H':Hp} (s:ac H H'):∀ {p:Pap} {a:Addr},Ms H p a→Ms H' p a:=by
 intro p
 induction p with
 | alone k=>intro a h;exact s _ _ h
 | ring r=>intro a ⟨b,h1,h2⟩;exact ⟨b,s _ _ h1,s _ _ h2⟩
 | case i j p q ihp ihq=>intro a ⟨b,c,h1,h2,h3⟩;exact ⟨b,c,s _ _ h1,ihp h2,ihq h3⟩
theorem Sl.mod {S:Sys} {z:Int} {b:Nat→Int} (D:Sl S z b):Sl S z fun v=>b v % z:=⟨D.1,fun i j e=>by
 have:=D.2 i j e;show _ ≤ (b j % z - b i % z) % z;rw [← Int.sub_emod];exact this⟩
noncomputable def QN (S:Sys) (z:Int) (o:Od) (d:Nat) (H H':Hp) (bv pv:V):Prop:=(∃ b pb,bv=.ref pb∧pv=.non∧H pb=none∧H' pb=some (.lst (eu S b))∧(∀ v,0 ≤ b v∧b v < z)∧Sl S z b)∨(∃ p pa,bv=.non∧pv=.ref pa∧Ms H' p pa∧Cg S z o p=true∧uv S.m d p)
section
variable (P:Program) (w:World)
noncomputable def OO (t:Adr) (d:Nat) (vs:List V) (H:Hp) (z:Int) (n:Int) (ws:List (WD × Int)) (o:Od):Prop:=∃ wp rl a k,vs=[.ref wp,.int z,.ref rl,.ref a]∧Dd P w t H wp n ws∧Jx H rl (rh (Jb n ws) k)∧lev (Jb n ws) k=[]∧k ≤ 6∧Ll P w H a o∧Iy (Jb n ws) o∧lA n ws∧unO (Jb n ws) o ≤ d∧(∀ i,i < ws.length→(Jb n ws).al i ≤ z)∧NoT H
noncomputable def Oz (t:Adr) (d:Nat):Sp:=fun vs H Q _=>∃ z n ws o,OO P w t d vs H z n ws o∧∀ r bv pv H',ac H H'→NoT H'→H' r=some (.tup [bv,pv])→QN (Jb n ws) z o d H H' bv pv→Q (.ref r) H'
noncomputable def ZK (t:Adr):Nat→Sp
 | 0=>fun _ _ _ _=>False
 | d + 1=>Oz P w t d
end
section
variable {P:Program} {w:World} {K:PySem.W.Frag} {mg:Str→Option Value} {base:Heap} {t:Adr}
theorem Ez (T:Txt w K mg t) (d:Nat) (g14:Zb P w K mg base CX0 (d + 2) t.Ni t.Zi q20 (ZK P w t d)):Zb P w K mg base CX0 (d + 3) t.Ni t.Zi q20 (Oz P w t d):=by
 refine T.Ui.ok ue (fun vs H Q E h=>?_) (fun _ _ _ s H vs Q E hr h=>?_)
 ·obtain ⟨z,n,ws,o,⟨wp,rl,a,k,rfl,_⟩,_⟩:=h;rfl
 obtain ⟨z,n,ws,o,⟨wp,rl,a,k,rfl,W,R,hk0,hk6,O,od,wk,hd,ha,nt⟩,q⟩:=h;have hu:=om hr;have hws:=wk.2.1;have hm:(Jb n ws).m ≤ 6:=hws;have hz:0 < z:=by
  have h0:0 < ws.length:=List.length_pos_iff.mpr wk.2.2;have:=ha 0 h0;have:=wk.ok.a1 (i:=0) h0;omega
 obtain ⟨qs,r1,r2⟩:=id R;have g50:Zb P w K mg base CX0 (d + 2) t.yg t.rg q26 (fN P w t):=(aO T).mono (by omega);have g51:Zb P w K mg base CX0 (d + 2) t.Ld t.Md q35 (EJ P w t):=(kM T).mono (by omega);have g52:Zb P w K mg base CX0 (d + 2) t.We t.Me q36 (wI P w t):=(GM T).mono (by omega);have g26:Zb P w K mg base CX0 (d + 2) t.gi t.ei q9 (hJ P w (Jb n ws)):=(HN T _).mono (by omega);refine ⟨_,(db (cf PassesOwn.never rfl (Eg (pv 2)) (Eb (i:=4) ue.nd) (lb (Dc (pe (qb g50 hr T.ow T.fk.kp T.Jv (cb (pv 0) (cb (pv 1) (cb (pv 3) (cb (pv 4) fb)))))) (lb (Bb (Nc (cb Rf (cb (Nc (cb ad (cb (pv 4) fb))) fb))))) Ob)))
   (db (wb (i:=5) ue.nd (qb g51 hr T.Ml T.Ye.kp T.Kl (cb (pv 0) (cb (pv 3) fb))))
   (db (Dc (Gb hG (pv 5) Rf (Ub _)) (lb (Bb (Nc (cb (qb g52 hr T.Tn T.Vf.kp T.io (cb (pv 0) (cb (pv 1) (cb (pv 3) fb)))) (cb Rf fb))))) Ob)
   (db (xw (pv 5) (uf (K:=K) (n:=2) rfl rfl (lc (Eb (i:=6) ue.nd) (lc (Eb (i:=7) ue.nd) Df))))
   (db (xw (qb g14 hr T.Pq T.Ui.kp T.ur (cb (pv 0) (cb (pv 1) (cb (pv 2) (cb (qb g26 hr T.Ro T.Qh.kp T.Mo (cb (pv 3) (cb (pv 6) (cb (pv 7) fb)))) fb))))) (uf (K:=K) (n:=2) rfl rfl (lc (Eb (i:=8) ue.nd) (lc (Eb (i:=9) ue.nd) Df))))
   (db (Dc (Gb Yq (pv 8) Rf (Ub _)) (lb (Bb (Nc (cb (pv 8) (cb Rf fb))))) Ob)
   (db (xw (qb g14 hr T.Pq T.Ui.kp T.ur (cb (pv 0) (cb (pv 1) (cb (pv 2) (cb (qb g26 hr T.Ro T.Qh.kp T.Mo (cb (pv 3) (cb (pv 7) (cb (pv 6) fb)))) fb))))) (uf (K:=K) (n:=2) rfl rfl (lc (Eb (i:=8) ue.nd) (lc (Eb (i:=10) ue.nd) Df))))
   (db (Dc (Gb Yq (pv 8) Rf (Ub _)) (lb (Bb (Nc (cb (pv 8) (cb Rf fb))))) Ob)
   (lb (Bb (Nc (cb Rf (cb (Nc (cb ad (cb (pv 6) (cb (pv 7) (cb (pv 9) (cb (pv 10) fb)))))) fb))))))))))))),?_⟩
 simp only [xb];refine fc (fun σ' H'=>H'=H∧(∀ r ∈ rh (Jb n ws) k,Qf (Jb n ws) z o r=false)∧∃ x,σ'=[some (.ref wp),some (.int z),some (.ref rl),some (.ref a),x,none,none,none,none,none,none]) (fun D' hD hrt _ _=>?_) ?_
 ·walk_at "RD";refine ⟨⟨_,SqL.of r1⟩,?_⟩;refine Zj.list (xs:=qs.map V.ref) (fun i σ H'=>H'=H∧(∀ (l:Nat) r,l < i→(rh (Jb n ws) k)[l]? = some r→Qf (Jb n ws) z o r=false)∧∃ x,σ=[some (.ref wp),some (.int z),some (.ref rl),some (.ref a),x,none,none,none,none,none,none]) ⟨rfl,fun l r hl=>absurd hl (Nat.not_lt_zero _),_,rfl⟩ (fun i σ H' _ z=>by rw [z.1];exact SqL.of r1) ?_ ?_
  ·rintro i v σ H1 hv zzq;refine zzP fun zzM zzh=>?_
   obtain ⟨rfl,hno,x,rfl⟩:=zzq;obtain ⟨qi,hqi,rfl⟩:=vg hv;obtain ⟨r,hr1,hr2⟩:=r2.at hqi;obtain ⟨l,hl,hlev⟩:=YB (List.mem_of_getElem? hr1);obtain ⟨g1,g2,g3⟩:=Rz _ _ hlev;subst zzh;simp only [lf,List.set_cons_succ,List.set_cons_zero];refine Ib (Qf (Jb n ws) z o r) (fun Q hQ=>?_) (fun hb=>?_) (fun hb=>?_)
   ·walk_at "RD";exact ⟨wp,z,a,qi,o,r,n,ws,rfl,W,O,hr2,by omega,od,wk,nt,_,rfl,hQ⟩
   ·walk_at "RD";rw [hrt];refine ⟨by decide,fun p1 hp1=>⟨by decide,fun p2 hp2=>?_⟩⟩;have s2:=(gb (o:=.tup [.str (Str.ofString "ring"),.ref qi]) hp1).trans (gb (o:=.tup [V.non,.ref p1]) hp2);exact q p2 .non (.ref p1) _ s2 ((nt.upd).upd) ib (.inr ⟨.ring r,p1,rfl,rfl,⟨qi,gb hp2 _ _ ib,s2 _ _ hr2⟩,hb,by cases d <;> exact g3⟩)
   ·simp only [Xb];refine ⟨trivial,fun l' r' hl' hr'=>?_,_,rfl⟩;rcases Nat.lt_or_ge l' i with y | y
    ·exact hno l' r' y hr'
    ·have:l'=i:=by omega
     subst this;rw [hr1] at hr';cases hr';exact hb
  ·rintro σ H1 zzq;refine zzP fun zzM zzh=>?_
   obtain ⟨rfl,hno,x,rfl⟩:=zzq;subst zzh;refine hD _ _ ⟨rfl,fun r hr=>?_,x,rfl⟩;obtain ⟨l,hl⟩:=List.getElem?_of_mem hr;refine hno l r ?_ hl;rw [List.length_map,r2.1];exact (List.getElem?_eq_some_iff.mp hl).1
 rintro σ1 H1 zzq;refine zzP fun zzM zzh=>?_
 obtain ⟨rfl,hno,x,rfl⟩:=zzq;subst zzh;simp only [xb];refine fc (fun σ' H'=>ac H1 H'∧NoT H'∧((H'=H1∧(∀ i j,(Jb n ws).e i j=true→inO o i j=true)∧σ'=[some (.ref wp),some (.int z),some (.ref rl),some (.ref a),x,some .non,none,none,none,none,none])∨∃ pr i j,H' pr=some (.tup [.int (i:Nat),.int (j:Nat)])∧(Jb n ws).e i j=true∧inO o i j=false∧σ'=[some (.ref wp),some (.int z),some (.ref rl),some (.ref a),x,some (.ref pr),none,none,none,none,none])) (fun D' hD hrt _ _=>?_) ?_
 ·walk_at "RD";exact ⟨wp,a,n,ws,o,rfl,W,O,wk,nt,fun r i j H' s2 n2 e he hi=>hD _ _ ⟨s2,n2,.inr ⟨r,i,j,e,he,hi,rfl⟩⟩,fun hi=>hD _ _ ⟨ac.refl _,nt,.inl ⟨rfl,hi,rfl⟩⟩⟩
 rintro σ2 H2 ⟨s2,n2,(⟨rfl,hall,rfl⟩ | ⟨pr,i,j,hpr,he,hio,rfl⟩)⟩
 ·simp only [xb];refine Ib true (fun Q hQ=>?_) (fun _=>?_) (fun z=>nomatch z)
  ·walk_at "RD";exact hQ
  ·walk_at "RD";refine ⟨wp,z,a,n,ws,o,rfl,W,O,wk,hz,nt,fun r H3 s3 n3 hr3 e3=>⟨by decide,fun p hp=>q p (.ref r) .non _ (s3.trans (gb hp)) n3.upd ib (.inl ⟨_,r,rfl,rfl,hr3,gb hp _ _ e3,fun v=>⟨Int.emod_nonneg _ (by omega),Int.emod_lt_of_pos _ hz⟩,?_⟩)⟩⟩;exact (dw wk.ok hz ha hall od.as fun i j e=>fB wk.ok (fun p hp=>Pk hp) (fun i j h=>Hv wk.ok h) (QB wk.ok hk0 hall hno) e).mod
 simp only [xb];refine Ib false (fun Q hQ=>?_) (fun z=>nomatch z) (fun _=>?_)
 ·walk_at "RD";exact hQ
 simp only [Xb,xb];obtain ⟨d',rfl⟩:∃ d',d=d' + 1:=⟨d - 1,by have:=wL wk.ok he hio;omega⟩;have hio':=hio;unfold inO at hio';rw [Bool.or_eq_false_iff,decide_eq_false_iff_not,decide_eq_false_iff_not] at hio';have hio2:inO o j i=false:=by rw [Xp];exact hio
 refine CF (.ref pr) (fun Q hQ=>by walk_at "RD";exact hQ) (vn (SqT.of hpr) ?_);simp only [xb,List.set_cons_succ,List.set_cons_zero];refine fc (fun σ' H'=>∃ Ha bv pv,ac H2 Ha∧ac Ha H'∧NoT H'∧QN (Jb n ws) z (o ++ [(i,j)]) d' Ha H' bv pv∧σ'=[some (.ref wp),some (.int z),some (.ref rl),some (.ref a),x,some (.ref pr),some (.int (i:Nat)),some (.int (j:Nat)),some bv,some pv,none]) (fun D' hD hrt _ _=>?_) ?_
 ·walk_at "RD";refine ⟨a,i,j,o,rfl,cc O s2,od,wk.ok,hm,hio'.1,n2,fun r3 H3 s3 n3 O3=>?_⟩;have s23:=s2.trans s3;refine ⟨z,n,ws,o ++ [(i,j)],⟨wp,rl,r3,k,rfl,W.same s23,R.same s23,hk0,hk6,O3,od.put wk.ok he hio,wk,by have:=jy (o:=o) wk.ok he hio;omega,ha,n3⟩,fun r4 bv pv H4 s4 n4 e4 SP=>?_⟩;exact ⟨r4,rfl,_,SqT.of e4,rfl,_,_,rfl,_,_,rfl,rfl,hD _ _ ⟨H3,bv,pv,s3,s4,n4,SP,rfl⟩⟩
 rintro σ3 H4 zzq;refine zzP fun zzM zzh=>?_
 obtain ⟨Ha,bv,pv,sa,s4,n4,SP,rfl⟩:=zzq;subst zzh;simp only [xb];have s24:=s2.trans (sa.trans s4);rcases SP with ⟨b,pb,rfl,rfl,hb0,hb1,hb2,hb3⟩ | ⟨p1,pa,rfl,rfl,hp1,hp2,hp3⟩
 ·refine Ib true (fun Q hQ=>?_) (fun _=>?_) (fun z=>nomatch z)
  ·walk_at "RD";exact hQ
  ·walk_at "RD";exact ⟨by decide,fun p hp=>q p _ _ _ (s24.trans (gb hp)) n4.upd ib (.inl ⟨b,pb,rfl,rfl,(s2.trans sa).free hb0,gb hp _ _ hb1,hb2,hb3⟩)⟩
 refine Ib false (fun Q hQ=>?_) (fun z=>nomatch z) (fun _=>?_)
 ·walk_at "RD";exact hQ
 simp only [Xb,xb];refine fc (fun σ' H'=>∃ Hb bv pv,ac H4 Hb∧ac Hb H'∧NoT H'∧QN (Jb n ws) z (o ++ [(j,i)]) d' Hb H' bv pv∧σ'=[some (.ref wp),some (.int z),some (.ref rl),some (.ref a),x,some (.ref pr),some (.int (i:Nat)),some (.int (j:Nat)),some bv,some (.ref pa),some pv]) (fun D' hD hrt _ _=>?_) ?_
 ·walk_at "RD";refine ⟨a,j,i,o,rfl,cc O s24,od,wk.ok,hm,hio'.2,n4,fun r5 H5 s5 n5 O5=>?_⟩;have s25:=s24.trans s5;have hei:=wk.ok.sy he;refine ⟨z,n,ws,o ++ [(j,i)],⟨wp,rl,r5,k,rfl,W.same s25,R.same s25,hk0,hk6,O5,od.put wk.ok hei hio2,wk,by have:=jy (o:=o) wk.ok hei hio2;omega,ha,n5⟩,fun r6 bv pv H6 s6 n6 e6 SP=>?_⟩;exact ⟨r6,rfl,_,SqT.of e6,rfl,_,_,rfl,_,_,rfl,rfl,hD _ _ ⟨H5,bv,pv,s5,s6,n6,SP,rfl⟩⟩
 rintro σ5 H6 zzq;refine zzP fun zzM zzh=>?_
 obtain ⟨Hb,bv,pv,sb,s6,n6,SP,rfl⟩:=zzq;subst zzh;simp only [xb];have s46:=sb.trans s6;have s26:=s24.trans s46;rcases SP with ⟨b,pb,rfl,rfl,hb0,hb1,hb2,hb3⟩ | ⟨p2,pa2,rfl,rfl,hq1,hq2,hq3⟩
 ·refine Ib true (fun Q hQ=>?_) (fun _=>?_) (fun z=>nomatch z)
  ·walk_at "RD";exact hQ
  ·walk_at "RD";exact ⟨by decide,fun p hp=>q p _ _ _ (s26.trans (gb hp)) n6.upd ib (.inl ⟨b,pb,rfl,rfl,(s24.trans sb).free hb0,gb hp _ _ hb1,hb2,hb3⟩)⟩
 refine Ib false (fun Q hQ=>?_) (fun z=>nomatch z) (fun _=>?_)
 ·walk_at "RD";exact hQ
 simp only [Xb];walk_at "RD";refine ⟨by decide,fun p3 hp3'=>⟨by decide,fun p4 hp4=>?_⟩⟩;have t1:=gb (o:=.tup [.str (Str.ofString "case"),.int (i:Nat),.int (j:Nat),.ref pa,.ref pa2]) hp3';have t2:=gb (o:=.tup [V.non,.ref p3]) hp4;have hl:=wk.ok.lt he;refine q p4 .non (.ref p3) _ (s26.trans (t1.trans t2)) ((n6.upd).upd) ib (.inr ⟨.case i j p1 p2,p3,rfl,rfl,⟨pa,pa2,t2 _ _ ib,(hp1.same s46).same (t1.trans t2),hq1.same (t1.trans t2)⟩,?_,hl.1,hl.2.1,hp3,hq3⟩);show ((Jb n ws).e i j && !inO o i j && Cg (Jb n ws) z (o ++ [(i,j)]) p1 && Cg (Jb n ws) z (o ++ [(j,i)]) p2)=true;rw [he,hio,hp2,hq2];rfl
theorem tI (T:Txt w K mg t):∀ d,Zb P w K mg base CX0 (d + 3) t.Ni t.Zi q20 (Oz P w t d)
 | 0=>Ez T 0 (T.Ui.ok ue (fun vs H Q E h=>h.elim) (fun cdv A outer s H vs Q E hr h=>h.elim))
 | d + 1=>Ez T (d + 1) (tI T d)
end
section
variable (P:Program) (w:World)
noncomputable def oE (t:Adr):Sp:=fun vs H Q _=>∃ wp z rl k n ws,vs=[.ref wp,.int z,.ref rl]∧Dd P w t H wp n ws∧Jx H rl (rh (Jb n ws) k)∧lev (Jb n ws) k=[]∧k ≤ 6∧lA n ws∧NoT H ∧
 ∀ r bv pv H',ac H H'→NoT H'→H' r=some (.tup [bv,pv])→QN (Jb n ws) z (Ts (Jb n ws)) (unO (Jb n ws) (Ts (Jb n ws))) H H' bv pv→Q (.ref r) H'
noncomputable def jD (t:Adr):Sp:=fun vs H Q _=>∃ wp n ws,vs=[.ref wp]∧Dd P w t H wp n ws∧lA n ws∧NoT H∧∀ z b H',ac H H'→NoT H'→Sl (Jb n ws) z b→z ≤ 20000→Q (.int z) H'
end
section
variable {P:Program} {w:World} {K:PySem.W.Frag} {mg:Str→Option Value} {base:Heap} {t:Adr}
theorem Vu {k:Nat} {f:Addr} {fd:FuncData} {ps:List Str} {sp:Nat→Sp} {m:Nat} (F:∀ n,n ≤ m→Zb P w K mg base CX0 k f fd ps (sp n)):Zb P w K mg base CX0 k f fd ps (fun vs H Q E=>∃ n,n ≤ m∧sp n vs H Q E):=
 ⟨fun vs H Q E ⟨n,hn,h⟩=>(F n hn).len vs H Q E h,fun A outer s H args us vs Q E hr he hb hv ⟨n,hn,h⟩=>(F n hn).run A outer s H args us vs Q E hr he hb hv h⟩
theorem LC {n:Int} {ws:List (WD × Int)} {i:Nat} {p:WD × Int} (h:ws[i]? = some p):(Jb n ws).al i=Qc p:=by
 show (match ws[i]? with | some p=>Qc p | none=>0)=_;rw [h]
theorem PJ (T:Txt w K mg t):Zb P w K mg base CX0 14 t.Wg t.nh q37 (oE P w t):=by
 have g14:Zb P w K mg base CX0 13 t.Ni t.Zi q20 (fun vs H Q E=>∃ n,n ≤ 10∧Oz P w t n vs H Q E):=Vu fun n hn=>(tI T n).mono (by omega)
 have g53:Zb P w K mg base CX0 13 t.jf t.gf ["wanted"] (LI P w t):=(BN T).mono (by decide);refine T.Jf.ok yi (fun vs H Q E h=>?_) (fun _ _ _ s H vs Q E hr h=>?_)
 ·obtain ⟨wp,z,rl,k,n,ws,rfl,_⟩:=h;rfl
 obtain ⟨wp,z,rl,k,n,ws,rfl,W,R,hk0,hk6,wk,nt,q⟩:=h;obtain ⟨dx,al,sd,e1,e2,D⟩:=id W;have hu:=om hr;have hws:=wk.2.1;refine ⟨_,(db (cf PassesOwn.never rfl (Hq rfl T.Sf (cb (qc (pv 0) rfl) fb)) (uf (K:=K) (n:=2) rfl rfl (lc (Eb (i:=3) yi.nd) (lc (Eb (i:=4) yi.nd) Df))) (lb (Dc (Gb Jp (pv 4) (pv 1) (Ub _)) (lb (Bb (Nc (cb Rf (cb (Nc (cb ad (cb (pv 3) fb))) fb))))) Ob)))
   (lb (Bb (qb g14 hr T.Pq T.Ui.kp T.ur (cb (pv 0) (cb (pv 1) (cb (pv 2) (cb (qb g53 hr T.vp T.Ig.kp T.ip (cb (pv 0) fb)) fb)))))))),?_⟩
 walk_at "RD";refine ⟨_,Nq T e1,_,rfl,⟨_,SqL.of e2⟩,?_⟩;refine Zj.enum (xs:=ws.map fun p=>V.int (Qc p)) (fun i σ H'=>ac H H'∧NoT H'∧(∀ l,l < i→(Jb n ws).al l ≤ z)∧∃ x y,σ=[some (.ref wp),some (.int z),some (.ref rl),x,y]) ⟨ac.refl _,nt,fun l hl=>absurd hl (Nat.not_lt_zero _),_,_,rfl⟩ (fun i σ H' _ ⟨s1,_⟩=>SqL.of (s1 _ _ e2)) ?_ ?_
 ·rintro i v σ H1 tp hv ⟨s1,n1,hal,x,y,rfl⟩ htp;obtain ⟨p,hp,rfl⟩:=vg hv;have hai:=LC (n:=n) hp;have hil:=(List.getElem?_eq_some_iff.mp hp).1;refine xh ?_;simp only [List.set_cons_succ,List.set_cons_zero];have s2:=s1.trans (gb (o:=.tup [.int i,.int (Qc p)]) htp);have n2:NoT (upd H1 tp (.tup [.int i,.int (Qc p)])):=n1.upd;generalize upd H1 tp (.tup [.int i,.int (Qc p)])=H2 at s2 n2 ⊢;refine Ib (decide (z < Qc p)) (fun Q hQ=>?_) (fun hb=>?_) (fun hb=>?_)
  ·walk_at "RD";exact hQ
  ·walk_at "RD";refine ⟨by decide,fun p1 hp1=>⟨by decide,fun p2 hp2=>?_⟩⟩;have t1:=gb (o:=.tup [.str (Str.ofString "alone"),.int (i:Nat)]) hp1;have t2:=gb (o:=.tup [V.non,.ref p1]) hp2;refine q p2 .non (.ref p1) _ (s2.trans (t1.trans t2)) ((n2.upd).upd) ib (.inr ⟨.alone i,p1,rfl,rfl,t2 _ _ ib,?_,?_⟩)
   ·show decide (z < (Jb n ws).al i)=true;rw [hai];exact hb
   ·unfold uv;exact hil
  ·simp only [Xb];refine ⟨s2,n2,fun l hl=>?_,_,_,rfl⟩;rcases Nat.lt_or_ge l i with y | y
   ·exact hal l y
   ·have:l=i:=by omega
    subst this;rw [hai];have:=of_decide_eq_false hb;omega
 ·rintro σ H1 zzq;refine zzP fun zzM zzh=>?_
  obtain ⟨s1,n1,hal,x,y,rfl⟩:=zzq;subst zzh;rw [List.length_map] at hal;walk_at "RD";refine ⟨wp,n,ws,rfl,W.same s1,wk,n1,fun r H2 s2 n2 O2=>?_⟩;have s12:=s1.trans s2;refine ⟨unO (Jb n ws) (Ts (Jb n ws)),(Xy wk.ok hws).1,z,n,ws,Ts (Jb n ws),⟨wp,rl,r,k,rfl,W.same s12,R.same s12,hk0,hk6,O2,qD,wk,Nat.le_refl _,hal,n2⟩,fun r3 bv pv H3 s3 n3 e3 SP=>q r3 bv pv H3 (s12.trans s3) n3 e3 ?_⟩;rcases SP with ⟨b,pb,h1,h2,h3,h4⟩ | h
  ·exact .inl ⟨b,pb,h1,h2,s12.free h3,h4⟩
  ·exact .inr h
noncomputable def OB:List Int→Int
 | []=>0
 | x :: l=>max x (OB l)
theorem bB:∀ l,0 ≤ OB l
 | []=>Int.le_refl _
 | x :: l=>Int.le_trans (bB l) (Int.le_max_right ..)
theorem DC:∀ {l:List Int} {x:Int},x ∈ l→x ≤ OB l
 | y :: l,x,h=>by
  rcases List.mem_cons.mp h with rfl | h
  ·exact Int.le_max_left ..
  ·exact Int.le_trans (DC h) (Int.le_max_right ..)
theorem VE:∀ {l:List Int} {m:Int},0 ≤ m→(∀ x ∈ l,x ≤ m)→OB l ≤ m
 | [],m,h,_=>h
 | x :: l,m,h,g=>Int.max_le.mpr ⟨g x (List.mem_cons_self ..),VE h fun y hy=>g y (List.mem_cons_of_mem _ hy)⟩
theorem Sw:∀ (l:List Int) (x:Int),0 ≤ x→l.foldl max x=max x (OB l)
 | [],x,h=>(Int.max_eq_left h).symm
 | y :: l,x,h=>by
  rw [List.foldl_cons,Sw l _ (Int.le_trans h (Int.le_max_left ..))];exact Int.max_assoc ..
theorem nK (l:List Int) (h:∀ x ∈ l,0 ≤ x):(l.max? = none∧OB l=0)∨l.max? = some (OB l):=by
 cases l with
 | nil=>exact .inl ⟨rfl,rfl⟩
 | cons x l=>
  rw [List.max?_cons',Sw l x (h x (List.mem_cons_self ..))];exact .inr rfl
noncomputable def stL (S:Sys) (i:Nat) (l:Od):List Int:=(l.filter fun p=>decide (p.1=i)).map fun p=>S.st p.1 p.2
theorem DM {S:Sys} (k:S.Ok) {i j:Nat} (h:S.e i j=true):S.st i j ∈ stL S i (pf S):=List.mem_map.mpr ⟨(i,j),List.mem_filter.mpr ⟨Hv k h,decide_eq_true rfl⟩,rfl⟩
theorem oF {S:Sys} {i:Nat} {x:Int} (h:x ∈ stL S i (pf S)):∃ j,S.e i j=true∧x=S.st i j:=by
 obtain ⟨⟨a,b⟩,hp,rfl⟩:=List.mem_map.mp h;obtain ⟨h1,h2⟩:=List.mem_filter.mp hp;have:a=i:=of_decide_eq_true h2;subst this;exact ⟨b,Pk h1,rfl⟩
theorem gH {f:Nat→Int} {c:Int} (hc:0 ≤ c):∀ {m:Nat},(∀ i,i < m→f i ≤ c)→Lp f m ≤ m * c:=by
 intro m
 induction m with
 | zero=>intro _;simp [Lp]
 | succ m ih=>
  intro h;have h1:=ih fun i hi=>h i (by omega)
  have h2:=h m (by omega);show Lp f m + f m ≤ _;rw [show ((m + 1:Nat):Int) * c=m * c + c by rw [Int.natCast_add,Int.add_mul];simp];omega
theorem Mz (f g:Nat→Int):∀ m,Lp (fun i=>f i + g i) m=Lp f m + Lp g m:=by
 intro m
 induction m with
 | zero=>rfl
 | succ m ih=>
  show Lp _ m + (f m + g m)=(Lp f m + f m) + (Lp g m + g m);rw [ih];omega
theorem sN {n:Int} {ws:List (WD × Int)}:∀ k,k ≤ ws.length→((ws.take k).map Qc).sum=Lp (Jb n ws).al k:=by
 intro k
 induction k with
 | zero=>intro _;rfl
 | succ k ih=>
  intro hk;have hp:ws[k]? = some ws[k]:=List.getElem?_eq_getElem (by omega);show _=Lp (Jb n ws).al k + (Jb n ws).al k;rw [List.take_add_one,hp,List.map_append,List.sum_append,ih (by omega),LC hp];simp
theorem aF {n:Int} {d:WD} (o:WOk n d):cn d + ji d ≤ 100:=by
 have h:=o.of;unfold cn ji;rcases d with ⟨k,_⟩
 match k with
 | 0=>simp
 | 1=>simp at h ⊢;omega
 | k + 2=>simp
theorem RM {n:Int} {d e:WD} (o:WOk n d) (p:WOk n e):xC d e ≤ 100:=by
 have h1:=o.of;have h2:=p.nr;unfold xC;split <;> omega
theorem NJ (T:Txt w K mg t):Zb P w K mg base CX0 2 t.dh t.Vg ["wanted"] (jD P w t):=by
 refine T.Cj.ok bg (fun vs H Q E h=>?_) (fun _ _ _ s H vs Q E hr h=>?_)
 ·obtain ⟨wp,n,ws,rfl,_⟩:=h;rfl
 obtain ⟨wp,n,ws,rfl,W,wk,nt,q⟩:=h;obtain ⟨dx,al,sd,e1,e2,D⟩:=id W;have hu:=om hr;have hws:=wk.2.1;refine ⟨_,(db (wb (i:=1) bg.nd (Kb (UG rfl) rfl T.KO WB (cb (qc (pv 0) rfl) fb)))
   (db (cf PassesOwn.never rfl (Ae rfl T.Kf (cb (qc (pv 0) rfl) fb)) (By (i:=2) bg.nd rfl (Or.inr rfl)) (lb (wJ (i:=1) bg.nd rfl (Or.inl rfl) (RK rfl rfl T.JG (cb (Yf rfl (yD (qc (pv 0) rfl)) (Ec (sc:=ub gj) rfl (by decide +kernel)) (N:=["pair","wanted","want"]) (sel:=[none,some 0,some 2]) (kd (M:=["wanted","total","want"]) (by decide +kernel)) (Blk.of (fun _ _ _ _=>(Eb (i:=0) (Bi (N:=["pair","wanted","want"]) (by decide +kernel) rfl))) (fun _ _ _ _=>⟨_,(Ho (Gb Of (Db Vb (pv 0) jb) (pv 2) (Ub _))),by walk_at "B"⟩) (fun _ _ _ _=>⟨_,(iF hu (qc (pv 1) rfl) (pv 0) (fun _ _=>rfl)),by walk_at "B"⟩))) fb) jb) GI)))
   (lb (Bb (pv 1))))),?_⟩
 walk_at "RD";have e2':H al=some (.lst ((ws.map Qc).map V.int)):=by rw [List.map_map];exact e2
 refine ⟨_,Nq T e1,_,rfl,_,SqL.of e2',?_,by rw [List.length_map];omega,_,Li T e1,_,rfl,by omega,by omega,?_⟩
 ·intro k hk;obtain ⟨p,hp,rfl⟩:=List.mem_map.mp hk;obtain ⟨h1,h2,h3⟩:=wk.1 p hp;have h4:=Py h1;have h5:=aF h1;unfold Qc;omega
 rw [show ((ws.length:Int)).toNat=ws.length by omega];refine Zj.range (fun i σ H'=>ac H H'∧NoT H'∧∃ x,σ=[some (.ref wp),some (.int ((ws.map Qc).sum + Lp (fun i=>OB (stL (Jb n ws) i (pf (Jb n ws)))) i)),x]) ⟨ac.refl _,nt,_,by rw [show Lp _ 0=0 from rfl,Int.add_zero]⟩ ?_ ?_
 ·rintro i σ H1 hi zzq;refine zzP fun zzM zzh=>?_
  obtain ⟨s1,n1,x,rfl⟩:=zzq;subst zzh;(walk_at "RD"; repeat (dsimp only [QM];walk_at "RD"));refine ⟨_,Pe T (s1 _ _ e1),sd,rfl,_,cc D s1,fun ob es ep xs r=>?_⟩;have hsl:(pf (Jb n ws)).length ≤ 36:=CC hws;have hal:(Pf n ws ws.length).length=(pf (Jb n ws)).length:=by rw [Io,List.length_map]
  refine gd.of (n:=(Pf n ws ws.length).length) (fun j ys H'=>H'=H1∧ys=(stL (Jb n ws) i ((pf (Jb n ws)).take j)).map V.int) (by rw [hal];exact Nat.le_trans hsl (by decide)) ⟨rfl,rfl⟩ ?_ ?_ ?_ ?_ ?_
  ·rintro j ys H' hj ⟨rfl,_⟩;exact ⟨r.at_,hj⟩
  ·rintro ys H' ⟨rfl,_⟩;exact ⟨r.at_,Nat.le_refl _⟩
  ·rintro j ys H' hj ⟨_,rfl⟩;unfold stL;rw [List.length_map,List.length_map];refine Nat.le_trans (List.length_filter_le ..) ?_;rw [List.length_take];omega
  ·rintro j ys H' v H2 hj ⟨rfl,rfl⟩ ⟨rfl,k,bb,u',hxs,rfl⟩ N hN;obtain ⟨i1,j1,hp,hbb⟩:=qu r.ks hxs;have he:=Pk (List.mem_of_getElem? hp);have ef:stL (Jb n ws) i ((pf (Jb n ws)).take (j + 1))=stL (Jb n ws) i ((pf (Jb n ws)).take j) ++ (if i1=i then [(Jb n ws).st i1 j1] else []):=by
    unfold stL;rw [List.take_add_one,hp,List.filter_append,List.map_append];show _ ++ List.map _ (List.filter _ [(i1,j1)])=_;rw [List.filter_cons,List.filter_nil];by_cases h:i1=i
    ·rw [if_pos h,if_pos (decide_eq_true h)];rfl
    ·rw [if_neg h,if_neg (by simpa using h)];rfl
   walk_at "RD";refine ⟨Sub.name,_,SqT.of hbb,_,yb (j:=0) rfl,rfl,?_⟩;by_cases h:i1=i
   ·rw [if_pos (by rw [h];exact decide_eq_true rfl)];refine ⟨_,Pe T (s1 _ _ e1),sd,rfl,_,cc D s1,mf i1 j1,hbb,_,Nz he,hN _ _ ⟨rfl,?_⟩⟩;rw [ef,if_pos h,List.map_append];rfl
   ·rw [if_neg (by rw [decide_eq_true_eq];exact fun g=>h (Int.ofNat.inj (V.int.inj g)))];refine hN _ _ ⟨rfl,?_⟩;rw [ef,if_neg h,List.append_nil]
  ·rintro ys H' ⟨rfl,rfl⟩ l hl;rw [hal,List.take_length];refine ⟨l,rfl,_,SqL.of ib,?_⟩;have hS:Lp (fun i=>OB (stL (Jb n ws) i (pf (Jb n ws)))) (i + 1)=Lp (fun i=>OB (stL (Jb n ws) i (pf (Jb n ws)))) i + OB (stL (Jb n ws) i (pf (Jb n ws))):=rfl;rcases nK (stL (Jb n ws) i (pf (Jb n ws))) (fun x hx=>by
    obtain ⟨j,he,rfl⟩:=oF hx;have:=wk.ok.s1 he
    omega) with ⟨g1,g2⟩ | g1
   ·rw [g1];exact ⟨_,_,rfl,rfl,s1.trans (gb hl),n1.upd,by rw [hS,g2,← Int.add_assoc],_,rfl⟩
   ·rw [g1];exact ⟨_,_,rfl,rfl,s1.trans (gb hl),n1.upd,by rw [hS,← Int.add_assoc],_,rfl⟩
 ·rintro σ H1 zzq;refine zzP fun zzM zzh=>?_
  obtain ⟨s1,n1,x,rfl⟩:=zzq;subst zzh;walk_at "RD";have hT:=gK wk.ok (mx:=fun i=>OB (stL (Jb n ws) i (pf (Jb n ws)))) (fun i=>bB _) fun i j e=>DC (DM wk.ok e)
  rw [Mz] at hT;have hs:=sN (n:=n) (ws:=ws) ws.length (Nat.le_refl _);rw [List.take_length] at hs;rw [hs];refine q _ _ H1 s1 n1 hT ?_;rw [← Mz];refine Int.le_trans (gH (c:=3000) (by decide) fun i hi=>?_) (show (ws.length:Int) * 3000 ≤ 20000 by omega);have hp:ws[i]? = some ws[i]:=List.getElem?_eq_getElem hi;obtain ⟨h1,h2,h3⟩:=wk.1 _ (List.mem_of_getElem? hp);have h5:=aF h1;have h6:(Jb n ws).al i ≤ 1100:=by
   rw [LC hp];unfold Qc;omega
  have h7:OB (stL (Jb n ws) i (pf (Jb n ws))) ≤ 1100:=by
   refine VE (by decide) fun x hx=>?_
   obtain ⟨j,he,rfl⟩:=oF hx;obtain ⟨p,p',g1,g2,_⟩:=Iq he;rw [(Gm g1 g2).2];have g3:=wk.1 p (List.mem_of_getElem? g1);have g4:=wk.1 p' (List.mem_of_getElem? g2);have:=RM g3.1 g4.1;omega
  omega
end
end My
namespace My
open PySem L2
theorem IJ {n:Int} {ws:List (WD × Int)} {z:Int} (hz:0 ≤ z):∀ i,(Jb n ws).m ≤ i→(Jb n ws).al i ≤ z:=fun i hi=>by
 have e:(Jb n ws).al i=0:=by
  show (match ws[i]? with | some p=>Qc p | none=>0)=0;rw [List.getElem?_eq_none hi]
 rw [e];exact hz
structure Eu (S:Sys) (H H':Hp) (z:Int) (pb pa:Addr) (b:Nat→Int) (p:Pap):Prop where
 z1:1 ≤ z
 zl:z ≤ 20000
 nb:H pb=none
 eb:H' pb=some (.lst (eu S b))
 rb:∀ v,0 ≤ b v∧b v < z
 does:Sl S z b
 pap:Ms H' p pa
 bear:Cg S (z - 1) (Ts S) p=true
 form:uv S.m (unO S (Ts S)) p
theorem Eu.least {n:Int} {ws:List (WD × Int)} (k:(Jb n ws).Ok) {H H':Hp} {z:Int} {pb pa:Addr} {b:Nat→Int} {p:Pap} (h:Eu (Jb n ws) H H' z pb pa b p) {y:Int} (hy:0 < y) (hl:y < z) (c:Nat→Int):¬ Sl (Jb n ws) y c:=
 bG k (IJ (by have:=h.z1;omega)) h.bear hy (by omega)
noncomputable def ShI (n:Int) (ws:List (WD × Int)) (H H3:Hp) (c wl x rl:Addr) (j:Nat) (σ:St) (H':Hp):Prop:=∃ lo hi pa pb p b y1 y2 y3,j=(hi - lo).toNat∧0 ≤ lo∧lo < hi∧hi ≤ 20000∧ac H3 H'∧NoT H'∧H pb=none∧H' pb=some (.lst (eu (Jb n ws) b))∧(∀ v,0 ≤ b v∧b v < hi)∧Sl (Jb n ws) hi b∧Ms H' p pa∧Cg (Jb n ws) lo (Ts (Jb n ws)) p=true∧uv (Jb n ws).m (unO (Jb n ws) (Ts (Jb n ws))) p∧σ=[some (.ref c),some (.ref wl),some (.ref x),some (.ref rl),some (.int lo),some (.int hi),some (.ref pa),some (.ref pb),y1,y2,y3]
section
variable (P:Program) (w:World)
noncomputable def rK (t:Adr) (vs:List V) (H:Hp) (n:Int) (ws:List (WD × Int)):Prop:=∃ c wl ds,vs=[.ref c,.ref wl]∧xf t H c n ds∧0 < n∧iu H wl ws∧(∀ q ∈ ws,∃ i:Nat,ds[i]? = some q.1)∧lA n ws∧NoT H
noncomputable def Wz (t:Adr):Sp:=fun vs H Q _=>∃ n ws,rK t vs H n ws∧∀ r z pb pa b p H',ac H H'→NoT H'→H' r=some (.tup [.int z,.ref pb,.ref pa])→Eu (Jb n ws) H H' z pb pa b p→Q (.ref r) H'
end
section
variable {P:Program} {w:World} {K:PySem.W.Frag} {mg:Str→Option Value} {base:Heap} {t:Adr}
theorem IG (T:Txt w K mg t):Zb P w K mg base CX0 15 t.il t.ol q38 (Wz t):=by
 have g54:Zb P w K mg base CX0 13 t.tf t.mh q49 (fz P w t):=(bI T).mono (by decide);have g55:Zb P w K mg base CX0 14 t.Bl t.kl ["wanted"] (VI P w t):=(AM T).mono (by decide);have g56:Zb P w K mg base CX0 14 t.dh t.Vg ["wanted"] (jD P w t):=(NJ T).mono (by decide);have g23:Zb P w K mg base CX0 14 t.Wg t.nh q37 (oE P w t):=PJ T;refine T.Dl.ok zc (fun vs H Q E h=>?_) (fun _ _ _ s H vs Q E hr h=>?_)
 ·obtain ⟨n,ws,⟨c,wl,ds,rfl,_⟩,_⟩:=h;rfl
 obtain ⟨n,ws,⟨c,wl,ds,rfl,C,hn,W,hds,wk,nt⟩,q⟩:=h;have hu:=om hr;have hlen:ws.length ≤ 20:=by have:=wk.2.1;omega
 have hb:∀ q ∈ ws,0 ≤ q.2∧q.2 ≤ 100000:=fun q hq=>by have:=wk.1 q hq;omega
 have h0:0 < ws.length:=List.length_pos_iff.mpr wk.2.2;refine ⟨_,(db (wb (i:=2) zc.nd (Wn T.kH g54 hr rfl T.SG T.Tu .nil ye (cb (pv 0) (cb (pv 1) fb))))
   (db (wb (i:=3) zc.nd (qb g55 hr T.nB T.jo.kp T.aC (cb (pv 2) fb)))
   (db (wb (i:=4) zc.nd jb)
   (db (wb (i:=5) zc.nd (qb g56 hr T.Fv T.Cj.kp T.Cu (cb (pv 2) fb)))
   (db (wb (i:=6) zc.nd (Db Vb (qb g23 hr T.jj T.Jf.kp T.Ej (cb (pv 2) (cb (pv 4) (cb (pv 3) fb)))) jb))
   (db (wb (i:=7) zc.nd (Db Vb (qb g23 hr T.jj T.Jf.kp T.Ej (cb (pv 2) (cb (pv 5) (cb (pv 3) fb)))) jb))
   (db (pz PassesOwn.never (Gb Jp (Yb Vh (pv 5) (pv 4)) jb (Ub _)) (db (wb (i:=8) zc.nd (Yb QJ (Yb wc (pv 4) (pv 5)) jb))
   (db (xw (qb g23 hr T.jj T.Jf.kp T.Ej (cb (pv 2) (cb (pv 8) (cb (pv 3) fb)))) (uf (K:=K) (n:=2) rfl rfl (lc (Eb (i:=9) zc.nd) (lc (Eb (i:=10) zc.nd) Df))))
   (lb (Dc (Gb hG (pv 9) Rf (Ub _)) (db (wb (i:=4) zc.nd (pv 8))
   (lb (wb (i:=6) zc.nd (pv 10)))) (db (wb (i:=5) zc.nd (pv 8))
   (lb (wb (i:=7) zc.nd (pv 9)))))))))
   (lb (Bb (Nc (cb (pv 5) (cb (pv 7) (cb (pv 6) fb))))))))))))),?_⟩
 refine zS (fun σ' H'=>∃ x,ac H H'∧NoT H'∧Dd P w t H' x n ws∧σ'=[some (.ref c),some (.ref wl),some (.ref x),none,none,none,none,none,none,none,none]) (fun D' hD=>?_) fun zzM zzh=>?_
 ·walk_at "RD";intro x dx hx hdx hne;have s1:ac H (upd (upd H dx (.own x)) x (.ins t.bc dx [])):=(gb hdx).trans (gb (by rw [Ab (Ne.symm hne)];exact hx));refine ⟨x,dx,c,wl,n,ds,ws,rfl,ib,C.same s1,hn,WF W s1,hds,hlen,hb,(nt.upd).upd,fun H2 sx2 nt2 WA=>⟨rfl,?_⟩⟩;exact hD _ _ ⟨x,fun b u e=>sx2 b u (Lb e hx) (s1 _ _ e),nt2,WA,rfl⟩
 rintro σ1 H1 ⟨x,s1,n1,W1,rfl⟩;subst zzh;refine zS (fun σ' H'=>∃ rl k,ac H1 H'∧NoT H'∧lev (Jb n ws) k=[]∧k ≤ 6∧Jx H' rl (rh (Jb n ws) k)∧σ'=[some (.ref c),some (.ref wl),some (.ref x),some (.ref rl),none,none,none,none,none,none,none]) (fun D' hD=>?_) fun zzM zzh=>?_
 ·walk_at "RD";exact ⟨x,n,ws,rfl,W1,wk,n1,fun r H' k s2 n2 hk0 hk6 L=>hD _ _ ⟨r,k,s2,n2,hk0,hk6,L,rfl⟩⟩
 rintro σ2 H2 ⟨rl,k,s2,n2,hk0,hk6,R,rfl⟩;have W2:=W1.same s2;subst zzh;simp only [xb];walk_at "RD";refine ⟨x,n,ws,rfl,W2,wk,n2,fun hi bh H3 s3 n3 Dh hhi=>?_⟩;have W3:=W2.same s3;have R3:=R.same s3;have h1:1 ≤ hi:=by
  have:=Dh.1 0 h0;have:=wk.ok.a1 (i:=0) h0;omega
 refine ⟨x,0,rl,k,n,ws,rfl,W3,R3,hk0,hk6,wk,n3,fun r4 bv pv H4 s4 n4 e4 SP=>?_⟩;rcases SP with ⟨b,pb,_,_,_,_,_,hb3⟩ | ⟨p0,pa0,rfl,rfl,hp1,hp2,hp3⟩
 ·have g1:=hb3.1 0 h0;have g2:=wk.ok.a1 (i:=0) h0;omega
 refine ⟨r4,rfl,_,SqT.of e4,_,yb (j:=1) rfl,?_⟩;refine ⟨x,hi,rl,k,n,ws,rfl,W3.same s4,R3.same s4,hk0,hk6,wk,n4,fun r5 bv pv H5 s5 n5 e5 SP=>?_⟩;rcases SP with ⟨b0,pb0,rfl,rfl,hb0,hb1,hb2,hb3⟩ | ⟨p1,pa1,_,_,_,g2,_⟩
 case inr=>exact absurd Dh (bG wk.ok (IJ (by omega)) g2 (by omega) (Int.le_refl _))
 refine ⟨r5,rfl,_,SqT.of e5,_,yb (j:=0) rfl,?_⟩;have s35:=s4.trans s5;have s03:=s1.trans (s2.trans s3);refine ⟨ShI n ws H H3 c wl x rl,⟨_,0,hi,pa0,pb0,p0,b0,_,_,_,rfl,Int.le_refl _,by omega,hhi,s35,n5,(s03.trans s4).free hb0,hb1,hb2,hb3,hp1.same s5,hp2,hp3,rfl⟩,?_⟩;rintro j σ H6 zzq;refine zzP fun zzM zzh=>?_
 obtain ⟨lo,hi',pa,pb,p,b,y1,y2,y3,rfl,hlo,hlt,hh,s6,n6,c1,c2,c3,c4,c5,c6,c7,rfl⟩:=zzq;have s06:=s03.trans s6;subst zzh;walk_at "RD";by_cases hw:1 < hi' - lo
 ·rw [if_pos (decide_eq_true hw)];have d1:=Int.ediv_mul_le (lo + hi') (show (2:Int) ≠ 0 by decide);have d2:=Int.lt_ediv_add_one_mul_self (lo + hi') (show (0:Int) < 2 by decide);generalize hsz:(lo + hi') / 2=sz at d1 d2 ⊢;have hs1:lo < sz:=by omega
  have hs2:sz < hi':=by omega
  refine ⟨fun σ' H'=>∃ m',m' < (hi' - lo).toNat∧ShI n ws H H3 c wl x rl m' σ' H',fun σ' H' g=>g,?_⟩;walk_at "RD";refine ⟨by unfold YO;omega,x,sz,rl,k,n,ws,rfl,W3.same s6,R3.same s6,hk0,hk6,wk,n6,fun r7 bv pv H7 s7 n7 e7 SP=>⟨r7,rfl,_,SqT.of e7,rfl,_,_,rfl,_,_,rfl,rfl,?_⟩⟩;have s37:=s6.trans s7;rcases SP with ⟨b7,pb7,rfl,rfl,f0,f1,f2,f3⟩ | ⟨p7,pa7,rfl,rfl,f1,f2,f3⟩
  ·refine Ib false (fun Q hQ=>?_) (fun z=>nomatch z) (fun _=>?_)
   ·walk_at "RD";exact hQ
   ·walk_at "RD";exact ⟨(sz - lo).toNat,by omega,lo,sz,pa,pb7,p,b7,_,_,_,rfl,hlo,hs1,by omega,s37,n7,s06.free f0,f1,f2,f3,c5.same s7,c6,c7,rfl⟩
  ·refine Ib true (fun Q hQ=>?_) (fun _=>?_) (fun z=>nomatch z)
   ·walk_at "RD";exact hQ
   ·walk_at "RD";exact ⟨(hi' - sz).toNat,by omega,sz,hi',pa7,pb,p7,b,_,_,_,rfl,by omega,hs2,hh,s37,n7,c1,s7 _ _ c2,c3,c4,f1,f2,f3,rfl⟩
 ·rw [if_neg (by simpa using hw)];walk_at "RD";refine ⟨by decide,fun r hr=>q r hi' pb pa b p _ (s06.trans (gb hr)) n6.upd ib ⟨by omega,hh,c1,gb hr _ _ c2,c3,c4,c5.same (gb hr),?_,c7⟩⟩;rw [show hi' - 1=lo by omega];exact c6
end
end My
namespace My
open PySem L2
theorem ox (x:Str) {a b:Nat} (hab:a ≤ b) (hb:b ≤ x.cps.toList.length):(Txt.slice x (some (a:Int)) (some (b:Int))).cps.toList=(x.cps.toList.drop a).take (b - a):=by
 have hx:x.length=x.cps.toList.length:=by simp [Str.length]
 have e:=StrLaws.sliceText_nat x hab (by rw [hx];exact hb);rw [show Txt.slice x (some (a:Int)) (some (b:Int))=StrLaws.sliceText x (some (a:Int)) (some (b:Int)) from rfl,e]
theorem Gz (x:Str) {b:Nat} (hb:b ≤ x.cps.toList.length):(Txt.slice x none (some (b:Int))).cps.toList=x.cps.toList.take b:=by
 have:Txt.slice x none (some (b:Int))=Txt.slice x (some ((0:Nat):Int)) (some (b:Int)):=by
  show StrLaws.sliceText x none (some (b:Int))=StrLaws.sliceText x (some ((0:Nat):Int)) (some (b:Int));unfold StrLaws.sliceText;rw [StrLaws.sliceIdx_none_lo];rfl
 rw [this,ox x (Nat.zero_le _) hb,List.drop_zero,Nat.sub_zero]
noncomputable def nmA (l:List Nat) (k:Nat):List Nat:=l.take (k + 1)
noncomputable def nmB (l:List Nat) (at_ size f k:Nat):List Nat:=l.take at_ ++ [97 + (f + 7 * k) % 26] ++ (l.drop (at_ + 1)).take (size - (at_ + 1))
theorem xF {l:List Nat} (hl:l.length=8) (al:∀ c ∈ l,97 ≤ c∧c ≤ 122) {k:Nat} (hk:k < 8):(nmA l k).length=k + 1∧∀ c ∈ nmA l k,97 ≤ c∧c ≤ 122:=by
 unfold nmA;exact ⟨by rw [List.length_take];omega,fun c hc=>al c (List.mem_of_mem_take hc)⟩
theorem uM {l:List Nat} (hl:l.length=8) (al:∀ c ∈ l,97 ≤ c∧c ≤ 122) {a z f k:Nat} (ha:a < z) (hz:z ≤ 8):(nmB l a z f k).length=z∧∀ c ∈ nmB l a z f k,97 ≤ c∧c ≤ 122:=by
 unfold nmB;refine ⟨by rw [List.length_append,List.length_append,List.length_take,List.length_take,List.length_drop,List.length_singleton];omega,fun c hc=>?_⟩;rcases List.mem_append.mp hc with hc | hc
 ·rcases List.mem_append.mp hc with hc | hc
  ·exact al c (List.mem_of_mem_take hc)
  ·rw [List.mem_singleton.mp hc];omega
 ·exact al c (List.mem_of_mem_drop (List.mem_of_mem_take hc))
theorem iL {l:List Nat} (hl:l.length=8) {a z f i j:Nat} (ha:a < z) (hz:z ≤ 8) (hi:i < 8) (hj:j < 8) (e:nmB l a z f i=nmB l a z f j):i=j:=by
 have h1:∀ k,(nmB l a z f k)[a]? = some (97 + (f + 7 * k) % 26):=fun k=>by
  unfold nmB;rw [List.append_assoc,List.getElem?_append_right (by rw [List.length_take];omega),List.length_take,show a - min a l.length=0 by omega];rfl
 have h2:=h1 i;rw [e,h1 j] at h2;have:=Option.some.inj h2;omega
theorem kL {x:Str} {l:List Nat} (e:x.cps.toList=l) (h0:1 ≤ l.length) (h1:l.length ≤ 8) (al:∀ c ∈ l,97 ≤ c∧c ≤ 122):made x Ei 8=true:=by
 have hx:x.length=x.cps.toList.length:=by simp [Str.length]
 exact Hw (by rw [hx,e];exact h0) (by rw [hx,e];exact h1) (by rw [e];exact al)
noncomputable def Nms (m:Nat) (xs:List Str):Prop:=xs.length=m∧xs.Nodup∧∀ x ∈ xs,made x Ei 8=true
theorem MI {i:Int} (h0:0 ≤ i) (h1:i < 26):∃ c:Nat,atI (Str.ofString "abcdefghijklmnopqrstuvwxyz").cps.toList i=some c∧c=97 + i.toNat:=by
 have:∀ k,k < 26→atI (Str.ofString "abcdefghijklmnopqrstuvwxyz").cps.toList ((k:Nat):Int)=some (97 + k):=by decide +kernel
 refine ⟨97 + i.toNat,?_,rfl⟩;have e:=this i.toNat (by omega);rwa [Int.toNat_of_nonneg h0] at e
theorem kN:∀ ys:List Str,(Str.join ⟨#[]⟩ ys).cps.toList=(ys.map (·.cps.toList)).flatten
 | []=>rfl
 | [a]=>by
  show a.cps.toList=_;simp
 | a :: b :: r=>by
  show (a ++ ⟨#[]⟩ ++ Str.join ⟨#[]⟩ (b :: r)).cps.toList=_;rw [Str.cps_append,Array.toList_append,Str.cps_append,Array.toList_append,kN (b :: r)];simp
theorem xt (f:Nat→Nat) (n:Nat):(Txt.join (Str.ofString "") ((List.range n).map fun i=>bx (f i))).cps.toList=(List.range n).map f:=by
 rw [show Txt.join (Str.ofString "") ((List.range n).map fun i=>bx (f i))=Str.join ⟨#[]⟩ ((List.range n).map fun i=>bx (f i)) from StrLaws.glued_eq_join _ _,kN,List.map_map];have:((fun x:Str=>x.cps.toList) ∘ fun i=>bx (f i))=fun i=>[f i]:=rfl
 rw [this]
 induction (List.range n) with
 | nil=>rfl
 | cons a l ih=>rw [List.map_cons,List.flatten_cons,ih];rfl
noncomputable def Qw (K:PySem.W.Frag) (a:Addr) (ns:List Int):Sp:=fun vs H Q _=>∃ m:Nat,vs=[.ref a,.int m]∧Sc K a ns H∧(1 ≤ m∧m ≤ 8)∧∀ p xs H',ac H H'→Sc K a ns H'→H p=none→H' p=some (.lst (Lc xs))→Nms m xs→Q (.ref p) H'
section
variable {P:Program} {w:World} {K:PySem.W.Frag} {mg:Str→Option Value} {base:Heap} {t:Adr}
theorem QF (T:Txt w K mg t) (a:Addr) (ns:List Int) (h63:ns.length ≤ 63):Zb P w K mg base CX0 2 t.Ih t.Hh q42 (Qw K a ns):=by
 have g0:Zb P w K mg base CX0 1 t.Ce t.He q11 (Tc K a ns):=jr T a ns h63;refine T.Qk.ok Ac (fun vs H Q E h=>?_) (fun _ _ _ s H vs Q E hr h=>?_)
 ·obtain ⟨m,rfl,_⟩:=h;rfl
 obtain ⟨m,rfl,S,hm,q⟩:=h;have hL:(Str.ofString "abcdefghijklmnopqrstuvwxyz").length=26:=by decide +kernel
 refine ⟨_,(db (lJ (i:=2) Ac.nd rfl (Or.inr rfl) ad)
   (db (wb (i:=3) Ac.nd (uo PySem.F.plainAttrs_str PySem.F.slot_str_join PySem.F.type_str_join ky ad (cb (Yf rfl (Ae rfl T.Kf (cb jb fb)) (Ec (sc:=ub Nk) rfl (by decide +kernel)) (N:=["_law_k","_law_letters","_law_script"]) (sel:=[none,some 2,some 0]) (kd (M:=["_law_script","_law_many","_law_letters","_law_word","_law_size","_law_at","_law_first","_law_some","_law_k","_law_name","_law_sign"]) (by decide +kernel)) (Blk.of (fun _ _ _ _=>(Eb (i:=0) (Bi (N:=["_law_k","_law_letters","_law_script"]) (by decide +kernel) rfl))) (fun _ _ _ _=>⟨_,Kg,by walk_at "B"⟩) (fun _ _ _ _=>⟨_,(Db lF (pv 1) (qb g0 hr T.Sb T.Mb.kp T.Qb (cb (pv 2) (cb (Yb wc jb (pv 0)) (cb jb fb))))),by walk_at "B"⟩))) fb)))
   (db (wb (i:=4) Ac.nd (Yb wc jb (qb g0 hr T.Sb T.Mb.kp T.Qb (cb (pv 0) (cb jb (cb jb fb))))))
   (db (wb (i:=5) Ac.nd (qb g0 hr T.Sb T.Mb.kp T.Qb (cb (pv 0) (cb jb (cb (pv 4) fb)))))
   (db (wb (i:=6) Ac.nd (qb g0 hr T.Sb T.Mb.kp T.Qb (cb (pv 0) (cb jb (cb jb fb)))))
   (db (wb (i:=7) Ac.nd (qh fb))
   (db (cf PassesOwn.never rfl (Ae rfl T.Kf (cb (pv 1) fb)) (Eb (i:=8) Ac.nd) (db (wb (i:=9) Ac.nd (Bj DF (pv 3) xu (Di (Yb wc (pv 8) jb))))
   (db (Dc (Gb Of (qb g0 hr T.Sb T.Mb.kp T.Qb (cb (pv 0) (cb jb (cb jb fb)))) jb (Ub _)) (db (wb (i:=10) Ac.nd (Db lF (pv 2) (Yb wg (Yb wc (pv 6) (Yb ph jb (pv 8))) jb)))
   (lb (wb (i:=9) Ac.nd (Yb Sn (Yb Sn (Bj DF (pv 3) xu (Di (pv 5))) (pv 10)) (Bj DF (pv 3) (Di (Yb wc (pv 5) jb)) (Di (pv 4))))))) Ob)
   (lb (ke (uo PySem.F.plainAttrs_list PySem.F.slot_list_append PySem.F.type_list_append Ji (pv 7) (cb (pv 9) fb)))))))
   (db (Dc (Gb Of (qb g0 hr T.Sb T.Mb.kp T.Qb (cb (pv 0) (cb jb (cb jb fb)))) jb (Ub _)) (lb (ke (dJ PySem.F.plainAttrs_list PySem.F.slot_list_reverse PySem.F.type_list_reverse rB (pv 7)))) Ob)
   (lb (Bb (pv 7))))))))))),?_⟩
 refine zS (fun σ' H'=>H'=H∧σ'=[some (.ref a),some (.int m),some (.str (Str.ofString "abcdefghijklmnopqrstuvwxyz")),none,none,none,none,none,none,none,none]) (fun D' hD=>?_) fun zzM zzh=>?_
 ·walk_at "RD";exact hD _ _ ⟨rfl,rfl⟩
 rintro σ1 H1 ⟨rfl,rfl⟩;subst zzh;refine zS (fun σ' H'=>ac H1 H'∧Sc K a ns H'∧∃ wd:Str,wd.cps.toList.length=8∧(∀ c ∈ wd.cps.toList,97 ≤ c∧c ≤ 122)∧σ'=[some (.ref a),some (.int m),some (.str (Str.ofString "abcdefghijklmnopqrstuvwxyz")),some (.str wd),none,none,none,none,none,none,none]) (fun D' hD=>?_) fun zzM zzh=>?_
 ·walk_at "RD";refine ⟨by decide,by decide,?_⟩;refine gd.range_map (n:=8) (fun i=>V.str (bx (97 + (vk ns (100 + (i:Int)) 26).toNat))) (by decide) (fun i N hi hN=>?_) (fun p hp=>?_)
  ·have d1:=ae ns (100 + (i:Int)) (m:=26) (by decide);have d2:=Wd ns (100 + (i:Int)) (m:=26) (by decide);obtain ⟨c,hc,rfl⟩:=MI d1 d2;(walk_at "RD"; repeat (dsimp only [Tc];walk_at "RD"));exact ⟨Sub.name,S,by omega,by omega,by decide,by rw [hL];decide,_,hc,hN⟩
  ·have e:(List.range 8).map (fun i:Nat=>V.str (bx (97 + (vk ns (100 + (i:Int)) 26).toNat)))=Lc ((List.range 8).map fun i:Nat=>bx (97 + (vk ns (100 + (i:Int)) 26).toNat)):=by unfold Lc;rw [List.map_map];rfl
   refine ⟨p,rfl,(List.range 8).map fun i:Nat=>bx (97 + (vk ns (100 + (i:Int)) 26).toNat),by rw [← e];exact SqL.of ib,?_,?_⟩
   ·have h1:(List.map (fun x:Str=>x.length) ((List.range 8).map fun i:Nat=>bx (97 + (vk ns (100 + (i:Int)) 26).toNat))).sum=8:=by
     rw [List.map_map];rfl
    rw [h1,List.length_map,List.length_range];decide +kernel
   ·refine hD _ _ ⟨gb hp,S.new hp,_,?_,fun c hc=>?_,rfl⟩
    ·rw [xt (fun i:Nat=>97 + (vk ns (100 + (i:Int)) 26).toNat) 8,List.length_map,List.length_range]
    ·rw [xt (fun i:Nat=>97 + (vk ns (100 + (i:Int)) 26).toNat) 8] at hc;obtain ⟨i,_,rfl⟩:=List.mem_map.mp hc;have d1:=ae ns (100 + (i:Int)) (m:=26) (by decide);have d2:=Wd ns (100 + (i:Int)) (m:=26) (by decide);omega
 rintro σ2 H2 ⟨s2,S2,wd,hwl,hwa,rfl⟩;have hwn:wd.length=8:=by
  have:wd.length=wd.cps.toList.length:=by simp [Str.length]
  omega
 obtain ⟨z,hzz,hz1⟩:∃ z:Nat,1 + vk ns 112 8=(z:Nat)∧(1 ≤ z∧z ≤ 8):=by
  have d1:=ae ns 112 (m:=8) (by decide);have d2:=Wd ns 112 (m:=8) (by decide);exact ⟨(1 + vk ns 112 8).toNat,by omega,by omega⟩
 subst zzh;refine zS (fun σ' H'=>H'=H2∧σ'=[some (.ref a),some (.int m),some (.str (Str.ofString "abcdefghijklmnopqrstuvwxyz")),some (.str wd),some (.int (z:Nat)),none,none,none,none,none,none]) (fun D' hD=>?_) fun zzM zzh=>?_
 ·(walk_at "RD"; repeat (dsimp only [Tc];walk_at "RD"));rw [hzz];exact ⟨S2,by omega,by omega,by decide,hD _ _ ⟨rfl,rfl⟩⟩
 rintro σ3 H3 ⟨rfl,rfl⟩;obtain ⟨at_,hat,hat1⟩:∃ at_:Nat,vk ns 113 (z:Int)=(at_:Nat)∧at_ < z:=by
  have d1:=ae ns 113 (m:=(z:Int)) (by omega);have d2:=Wd ns 113 (m:=(z:Int)) (by omega);exact ⟨(vk ns 113 (z:Int)).toNat,by omega,by omega⟩
 subst zzh;refine zS (fun σ' H'=>H'=H3∧σ'=[some (.ref a),some (.int m),some (.str (Str.ofString "abcdefghijklmnopqrstuvwxyz")),some (.str wd),some (.int (z:Nat)),some (.int (at_:Nat)),none,none,none,none,none]) (fun D' hD=>?_) fun zzM zzh=>?_
 ·(walk_at "RD"; repeat (dsimp only [Tc];walk_at "RD"));rw [hat];exact ⟨S2,by omega,by omega,by omega,hD _ _ ⟨rfl,rfl⟩⟩
 rintro σ4 H4 ⟨rfl,rfl⟩;obtain ⟨f,hf,hf1⟩:∃ f:Nat,vk ns 114 26=(f:Nat)∧f < 26:=by
  have d1:=ae ns 114 (m:=26) (by decide);have d2:=Wd ns 114 (m:=26) (by decide);exact ⟨(vk ns 114 26).toNat,by omega,by omega⟩
 subst zzh;refine zS (fun σ' H'=>H'=H4∧σ'=[some (.ref a),some (.int m),some (.str (Str.ofString "abcdefghijklmnopqrstuvwxyz")),some (.str wd),some (.int (z:Nat)),some (.int (at_:Nat)),some (.int (f:Nat)),none,none,none,none]) (fun D' hD=>?_) fun zzM zzh=>?_
 ·(walk_at "RD"; repeat (dsimp only [Tc];walk_at "RD"));rw [hf];exact ⟨S2,by omega,by omega,by decide,hD _ _ ⟨rfl,rfl⟩⟩
 rintro σ5 H5 ⟨rfl,rfl⟩;subst zzh;refine zS (fun σ' H'=>Sc K a ns H'∧ac H5 H'∧∃ rl,H5 rl=none∧H' rl=some (.lst [])∧σ'=[some (.ref a),some (.int m),some (.str (Str.ofString "abcdefghijklmnopqrstuvwxyz")),some (.str wd),some (.int (z:Nat)),some (.int (at_:Nat)),some (.int (f:Nat)),some (.ref rl),none,none,none]) (fun D' hD=>?_) fun zzM zzh=>?_
 ·walk_at "RD";exact ⟨Nat.zero_le _,fun rl hrl=>hD _ _ ⟨S2.new hrl,gb hrl,rl,hrl,ib,rfl⟩⟩
 rintro σ6 H6 ⟨S6,s6,rl,hrl,w6,rfl⟩;obtain ⟨b,hb⟩:∃ b:Bool,decide (vk ns 110 2=1)=b:=⟨_,rfl⟩;subst zzh;obtain ⟨g,hg⟩:∃ g:Nat→List Nat,g=fun k=>if b=true then nmB wd.cps.toList at_ z f k else nmA wd.cps.toList k:=⟨_,rfl⟩
 refine zS (fun σ' H'=>Sc K a ns H'∧ac H5 H'∧(∃ xs:List Str,H' rl=some (.lst (Lc xs))∧xs.map (·.cps.toList)=(List.range m).map g)∧∃ x8 x9 x10,σ'=[some (.ref a),some (.int m),some (.str (Str.ofString "abcdefghijklmnopqrstuvwxyz")),some (.str wd),some (.int (z:Nat)),some (.int (at_:Nat)),some (.int (f:Nat)),some (.ref rl),x8,x9,x10]) (fun D' hD=>?_) fun zzM zzh=>?_
 ·walk_at "RD";refine ⟨by omega,by omega,?_⟩;refine Zj.range (fun i σ H'=>Sc K a ns H'∧ac H5 H'∧(∃ xs:List Str,H' rl=some (.lst (Lc xs))∧xs.map (·.cps.toList)=(List.range i).map g)∧∃ x8 x9 x10,σ=[some (.ref a),some (.int m),some (.str (Str.ofString "abcdefghijklmnopqrstuvwxyz")),some (.str wd),some (.int (z:Nat)),some (.int (at_:Nat)),some (.int (f:Nat)),some (.ref rl),x8,x9,x10]) ⟨S6,s6,⟨[],w6,rfl⟩,_,_,_,rfl⟩ ?_ ?_
  ·rintro i σ H' hi zzq;refine zzP fun zzM zzh=>?_
   obtain ⟨S7,s7,⟨xs,w7,hxs⟩,x8,x9,x10,rfl⟩:=zzq;have hi8:i < 8:=by have:i < (m:Int).toNat:=hi;omega
   have hxl:xs.length=i:=by have:=congrArg List.length hxs;rwa [List.length_map,List.length_map,List.length_range] at this
   subst zzh;simp only [lf,xb,List.set_cons_succ,List.set_cons_zero,Int.zero_add];refine zzC (fun σ' H''=>H''=H'∧σ'=[some (.ref a),some (.int m),some (.str (Str.ofString "abcdefghijklmnopqrstuvwxyz")),some (.str wd),some (.int (z:Nat)),some (.int (at_:Nat)),some (.int (f:Nat)),some (.ref rl),some (.int (i:Nat)),some (.str (Txt.slice wd none (some ((i + 1:Nat):Int)))),x10]) (fun D' hD=>?_) fun zzM zzh=>?_
   ·walk_at "RD";exact ⟨by rw [hwn];decide,hD _ _ ⟨rfl,by rw [Int.natCast_add];rfl⟩⟩
   rintro σA HA ⟨rfl,rfl⟩;subst zzh;simp only [xb];refine zzC (fun σ' H''=>H''=HA∧∃ nm:Str,nm.cps.toList=g i∧∃ x10,σ'=[some (.ref a),some (.int m),some (.str (Str.ofString "abcdefghijklmnopqrstuvwxyz")),some (.str wd),some (.int (z:Nat)),some (.int (at_:Nat)),some (.int (f:Nat)),some (.ref rl),some (.int (i:Nat)),some (.str nm),x10]) (fun D' hD=>?_) fun zzM zzh=>?_
   ·refine Ib b (fun Q hQ=>?_) (fun hbt=>?_) (fun hbf=>?_)
    ·(walk_at "RD"; repeat (dsimp only [Tc];walk_at "RD"));rw [hb];exact ⟨S7,by omega,by omega,by decide,hQ⟩
    ·have hgi:g i=nmB wd.cps.toList at_ z f i:=by rw [hg];exact if_pos hbt
     obtain ⟨c,hc,rfl⟩:=MI (i:=((f:Int) + 7 * (i:Int)) % 26) (Int.emod_nonneg _ (by decide)) (Int.emod_lt_of_pos _ (by decide));have hbig:∀ k:Nat,k ≤ 1000→k ≤ sizeLine:=fun k h=>Nat.le_trans h (by decide)
     have l1:=Txt.slice_le wd none (some (at_:Int));have l2:=Txt.slice_le wd (some ((at_:Int) + 1)) (some (z:Int));have l3:(bx (97 + (((f:Int) + 7 * (i:Int)) % 26).toNat)).length=1:=rfl;walk_at "RD";refine ⟨.inl ⟨by decide,by decide⟩,by decide,by rw [hL];decide,_,hc,by rw [hwn];decide,hbig _ (by show _ + (bx (97 + (((f:Int) + 7 * (i:Int)) % 26).toNat)).length ≤ 1000;omega),by rw [hwn];decide,hbig _ (by show (_ ++ bx (97 + (((f:Int) + 7 * (i:Int)) % 26).toNat)).length + _ ≤ 1000;rw [Rx];omega),?_⟩;refine hD _ _ ⟨rfl,_,?_,_,rfl⟩;rw [hgi];unfold nmB;rw [Str.cps_append,Array.toList_append,Str.cps_append,Array.toList_append,Gz wd (by omega),show ((at_:Int) + 1)=((at_ + 1:Nat):Int) by omega,ox wd (by omega) (by omega),show (((f:Int) + 7 * (i:Int)) % 26).toNat=(f + 7 * i) % 26 by omega]
    ·have hgi:g i=nmA wd.cps.toList i:=by rw [hg];exact if_neg (by rw [hbf];decide)
     walk_at "RD";exact hD _ _ ⟨rfl,_,by rw [hgi,Gz wd (by omega)];rfl,_,rfl⟩
   rintro σB HB ⟨rfl,nm,hnm,x10,rfl⟩;subst zzh;walk_at "RD";refine ⟨.inl ⟨_,SqL.of w7⟩,_,w7,Nat.lt_of_le_of_lt (show (Lc xs).length ≤ 8 by unfold Lc;rw [List.length_map];omega) (by decide),S7.set w7 (fun _ _ z=>by cases z),s7.updN hrl,⟨xs ++ [nm],?_,?_⟩,?_⟩
   ·rw [ib];unfold Lc;rw [List.map_append];rfl
   ·rw [List.map_append,hxs,List.range_succ,List.map_append,List.map_cons,List.map_nil,hnm];rfl
   ·repeat (first | exact ⟨_,rfl⟩ | refine ⟨⟨_,rfl⟩,?_⟩)
  ·rintro σ H' zzq;refine zzP fun zzM zzh=>?_
   obtain ⟨S7,s7,⟨xs,w7,hxs⟩,x8,x9,x10,rfl⟩:=zzq;subst zzh;exact hD _ _ ⟨S7,s7,⟨xs,w7,by rw [hxs,show (m:Int).toNat=m by omega]⟩,x8,x9,x10,rfl⟩
 rintro σ7 H7 ⟨S7,s7,⟨xs,w7,hxs⟩,x8,x9,x10,rfl⟩;have hxl:xs.length=m:=by have:=congrArg List.length hxs;rwa [List.length_map,List.length_map,List.length_range] at this
 have gok:∀ k,k < m→(1 ≤ (g k).length∧(g k).length ≤ 8)∧∀ c ∈ g k,97 ≤ c∧c ≤ 122:=fun k hk=>by
  rw [hg];dsimp only;split
  ·have:=uM hwl hwa (f:=f) (k:=k) hat1 hz1.2;exact ⟨by omega,this.2⟩
  ·have:=xF hwl hwa (k:=k) (by omega);exact ⟨by omega,this.2⟩
 have ginj:∀ i j,i < m→j < m→g i=g j→i=j:=fun i j hi hj e=>by
  rw [hg] at e
  try dsimp only at e
  split at e
  ·exact iL hwl hat1 hz1.2 (by omega) (by omega) e
  ·have h1:=xF hwl hwa (k:=i) (by omega);have h2:=xF hwl hwa (k:=j) (by omega);rw [e] at h1;omega
 have hat':∀ (i:Nat) (x:Str),xs[i]? = some x→i < m∧x.cps.toList=g i:=fun i x hx=>by
  have hi:i < m:=by rw [← hxl];exact (List.getElem?_eq_some_iff.mp hx).1
  have e:=congrArg (fun l=>l[i]?) hxs
  try dsimp only at e
  rw [List.getElem?_map,hx,List.getElem?_map,List.getElem?_range hi] at e;exact ⟨hi,Option.some.inj e⟩
 have N:Nms m xs:=by
  refine ⟨hxl,List.pairwise_iff_getElem.mpr fun i j hi hj hij e=>?_,fun x hx=>?_⟩
  ·obtain ⟨a1,a2⟩:=hat' i _ (List.getElem?_eq_getElem hi);obtain ⟨b1,b2⟩:=hat' j _ (List.getElem?_eq_getElem hj);rw [e,b2] at a2;have:=ginj i j a1 b1 a2.symm;omega
  ·obtain ⟨i,hi⟩:=List.getElem?_of_mem hx;obtain ⟨a1,a2⟩:=hat' i _ hi;have:=gok i a1;exact kL a2 this.1.1 this.1.2 this.2
 subst zzh;refine zS (fun σ' H'=>Sc K a ns H'∧ac H5 H'∧(∃ xs:List Str,H' rl=some (.lst (Lc xs))∧Nms m xs)∧∃ x8 x9 x10,σ'=[some (.ref a),some (.int m),some (.str (Str.ofString "abcdefghijklmnopqrstuvwxyz")),some (.str wd),some (.int (z:Nat)),some (.int (at_:Nat)),some (.int (f:Nat)),some (.ref rl),x8,x9,x10]) (fun D' hD=>?_) fun zzM zzh=>?_
 ·refine Ib (decide (vk ns 111 2=1)) (fun Q hQ=>?_) (fun _=>?_) (fun _=>?_)
  ·(walk_at "RD"; repeat (dsimp only [Tc];walk_at "RD"));exact ⟨S7,by omega,by omega,by decide,hQ⟩
  ·walk_at "RD";refine ⟨.inl ⟨_,SqL.of w7⟩,_,w7,hD _ _ ⟨S7.set w7 (fun _ _ z=>by cases z),s7.updN hrl,⟨xs.reverse,by rw [ib];unfold Lc;rw [List.map_reverse],by rw [List.length_reverse];exact N.1,List.pairwise_reverse.mpr (N.2.1.imp fun h=>Ne.symm h),fun x hx=>N.2.2 x (List.mem_reverse.mp hx)⟩,_,_,_,rfl⟩⟩
  ·walk_at "RD";exact hD _ _ ⟨S7,s7,⟨xs,w7,N⟩,_,_,_,rfl⟩
 rintro σ8 H8 ⟨S8,s8,⟨ys,w8,N8⟩,y8,y9,y10,rfl⟩;subst zzh;walk_at "RD";exact q rl ys H8 (s2.trans s8) S8 (s2.free hrl) w8 N8
end
end My
namespace My
open PySem L2
noncomputable abbrev Ap (d:WD):List V:=[.str (ce d.k),.str d.name,.int d.start,.int d.fin,.int d.off,.int d.near,.int d.least]
noncomputable def LW (H:Hp) (wl:Addr) (ds:List WD):Prop:=∃ qs:List Addr,H wl=some (.lst (qs.map V.ref))∧qs.length=ds.length∧∀ (i:Nat) (q:Addr) (d:WD),qs[i]? = some q→ds[i]? = some d→H q=some (.tup (Ap d))
theorem LW.same {H H':Hp} {wl:Addr} {ds:List WD} (h:LW H wl ds) (s:ac H H'):LW H' wl ds:=by
 obtain ⟨qs,e1,e2,al⟩:=h;exact ⟨qs,s _ _ e1,e2,fun i q d h1 h2=>s _ _ (al i q d h1 h2)⟩
theorem LW.snoc {H:Hp} {wl p:Addr} {ds:List WD} {d:WD} {qs:List Addr} (l1:H wl=some (.lst (qs.map V.ref))) (l2:qs.length=ds.length)
  (al:∀ (i:Nat) (q:Addr) (d:WD),qs[i]? = some q→ds[i]? = some d→H q=some (.tup (Ap d))) (hp:H p=none) :
  LW (upd (upd H p (.tup (Ap d))) wl (.lst (qs.map V.ref ++ [.ref p]))) wl (ds ++ [d]):=by
 have hpw:p ≠ wl:=(Lb l1 hp).symm;refine ⟨qs ++ [p],by rw [ib,List.map_append];rfl,by rw [List.length_append,List.length_append,l2];rfl,fun i q e h1 h2=>?_⟩;rcases Hg h1 with ⟨z1,z2⟩ | ⟨z1,rfl⟩
 ·rcases Hg h2 with ⟨y1,y2⟩ | ⟨y1,_⟩
  ·have:=al i q e z2 y2;rw [Ab (Aj this l1 (by intro z;cases z)),Ab (Lb this hp)];exact this
  ·omega
 ·rcases Hg h2 with ⟨y1,y2⟩ | ⟨y1,rfl⟩
  ·omega
  ·rw [Ab hpw,ib]
theorem HM {n s j:Int} (h0:0 ≤ s) (h1:s < n) (h2:0 ≤ j) (h3:j < n - 1):s ≠ (s + 1 + j) % n:=by
 by_cases c:s + 1 + j < n
 ·rw [Int.emod_eq_of_lt (by omega) c];omega
 ·rw [show s + 1 + j=(s + 1 + j - n) + n * 1 by omega,Int.add_mul_emod_self_left,Int.emod_eq_of_lt (by omega) (by omega)];omega
theorem SJ {i:Int} (h0:0 ≤ i) (h1:i < 3):atI [V.str (Str.ofString "car"),V.str (Str.ofString "foot"),V.str (Str.ofString "tram")] i=some (.str (ce i.toNat)):=by
 have:i=0∨i=1∨i=2:=by omega
 rcases this with rfl | rfl | rfl
 ·exact yb (j:=0) rfl
 ·exact yb (j:=1) rfl
 ·exact yb (j:=2) rfl
structure IL (n:Int) (ds:List WD):Prop where
 al:∀ d ∈ ds,WOk n d∧True
 nd:(ds.map (·.name)).Nodup
theorem IL.cok {n:Int} {ds:List WD} (h:IL n ds) (hn:2 ≤ n∧n ≤ 99) (hl:1 ≤ ds.length∧ds.length ≤ 12):COk n ds:=⟨hn,hl,fun d hd=>(h.al d hd).1,h.nd⟩
noncomputable def Cz (K:PySem.W.Frag) (a:Addr) (ns:List Int):Sp:=fun vs H Q _=>∃ (m:Nat) (n:Int),vs=[.ref a,.int m,.int n]∧Sc K a ns H∧(1 ≤ m∧m ≤ 8)∧(4 ≤ n∧n ≤ 99)∧∀ p ds H',ac H H'→Sc K a ns H'→H p=none→LW H' p ds→ds.length=m→IL n ds→Q (.ref p) H'
section
variable {P:Program} {w:World} {K:PySem.W.Frag} {mg:Str→Option Value} {base:Heap} {t:Adr}
theorem TH (T:Txt w K mg t) (a:Addr) (ns:List Int) (h63:ns.length ≤ 63):Zb P w K mg base CX0 3 t.Hj t.tj q43 (Cz K a ns):=by
 have g0:Zb P w K mg base CX0 2 t.Ce t.He q11 (Tc K a ns):=(jr T a ns h63).mono (by decide);have g57:Zb P w K mg base CX0 2 t.Ih t.Hh q42 (Qw K a ns):=QF T a ns h63;refine T.um.ok uc (fun vs H Q E h=>?_) (fun _ _ _ s H vs Q E hr h=>?_)
 ·obtain ⟨m,n,rfl,_⟩:=h;rfl
 obtain ⟨m,n,rfl,S,hm,hn,q⟩:=h;refine ⟨_,(db (wb (i:=3) uc.nd (qb g57 hr T.Ew T.Qk.kp T.Mv (cb (pv 0) (cb (pv 1) fb))))
   (db (wb (i:=4) uc.nd (qb g0 hr T.Sb T.Mb.kp T.Qb (cb (pv 0) (cb jb (cb (pv 2) fb)))))
   (db (wb (i:=5) uc.nd (qh fb))
   (db (cf PassesOwn.never rfl (Ae rfl T.Kf (cb (pv 1) fb)) (Eb (i:=6) uc.nd) (db (wb (i:=7) uc.nd (qb g0 hr T.Sb T.Mb.kp T.Qb (cb (pv 0) (cb (Yb wc jb (Yb ph jb (pv 6))) (cb (pv 2) fb)))))
   (db (wb (i:=8) uc.nd (Yb wg (Yb wc (Yb wc (pv 7) jb) (qb g0 hr T.Sb T.Mb.kp T.Qb (cb (pv 0) (cb (Yb wc jb (Yb ph jb (pv 6))) (cb (Yb Vh (pv 2) jb) fb))))) (pv 2)))
   (db (Dc (PW.pt (Kz (Gb Of (qb g0 hr T.Sb T.Mb.kp T.Qb (cb (pv 0) (cb jb (cb jb fb)))) jb (Ub _)) (Ku (Gb Vs (pv 7) (pv 4) (Ub _))))) (lb (wb (i:=8) uc.nd (pv 4))) Ob)
   (db (wb (i:=9) uc.nd (qb g0 hr T.Sb T.Mb.kp T.Qb (cb (pv 0) (cb (Yb wc jb (Yb ph jb (pv 6))) (cb jb fb)))))
   (db (wb (i:=10) uc.nd (qb g0 hr T.Sb T.Mb.kp T.Qb (cb (pv 0) (cb (Yb wc jb (Yb ph jb (pv 6))) (cb jb fb)))))
   (db (Dc (Gb Of (qb g0 hr T.Sb T.Mb.kp T.Qb (cb (pv 0) (cb (Yb wc jb (pv 6)) (cb jb fb)))) jb (Ub _)) (lb (wb (i:=9) uc.nd (qb g0 hr T.Sb T.Mb.kp T.Qb (cb (pv 0) (cb (Yb wc jb (Yb ph jb (pv 6))) (cb jb fb)))))) Ob)
   (db (Dc (Gb Of (qb g0 hr T.Sb T.Mb.kp T.Qb (cb (pv 0) (cb (Yb wc jb (Yb ph jb (pv 6))) (cb jb fb)))) jb (Ub _)) (lb (wb (i:=10) uc.nd (qb g0 hr T.Sb T.Mb.kp T.Qb (cb (pv 0) (cb (Yb wc jb (Yb ph jb (pv 6))) (cb jb fb)))))) Ob)
   (db (wb (i:=11) uc.nd (Db Qd (qh (cb ad (cb ad (cb ad fb)))) (qb g0 hr T.Sb T.Mb.kp T.Qb (cb (pv 0) (cb (Yb wc jb (Yb ph jb (pv 6))) (cb jb fb))))))
   (db (wb (i:=12) uc.nd (Yb wc jb (qb g0 hr T.Sb T.Mb.kp T.Qb (cb (pv 0) (cb (Yb wc jb (Yb ph jb (pv 6))) (cb jb fb))))))
   (lb (ke (uo PySem.F.plainAttrs_list PySem.F.slot_list_append PySem.F.type_list_append Ji (pv 5) (cb (Nc (cb (pv 11) (cb (Db Qd (pv 3) (pv 6)) (cb (pv 7) (cb (pv 8) (cb (pv 9) (cb (pv 10) (cb (pv 12) fb)))))))) fb))))))))))))))
   (lb (Bb (pv 5))))))),?_⟩
 refine zS (fun σ' H'=>ac H H'∧Sc K a ns H'∧∃ nl xs,H' nl=some (.lst (Lc xs))∧Nms m xs∧σ'=[some (.ref a),some (.int m),some (.int n),some (.ref nl),none,none,none,none,none,none,none,none,none]) (fun D' hD=>?_) fun zzM zzh=>?_
 ·walk_at "RD";exact ⟨m,rfl,S,hm,fun p xs H' s1 S1 _ e N=>hD _ _ ⟨s1,S1,p,xs,e,N,rfl⟩⟩
 rintro σ1 H1 ⟨s1,S1,nl,xs,en,N,rfl⟩;subst zzh;refine zS (fun σ' H'=>H'=H1∧∃ oe:Int,(0 ≤ oe∧oe < n)∧σ'=[some (.ref a),some (.int m),some (.int n),some (.ref nl),some (.int oe),none,none,none,none,none,none,none,none]) (fun D' hD=>?_) fun zzM zzh=>?_
 ·have d1:=ae ns 115 (m:=n) (by omega);have d2:=Wd ns 115 (m:=n) (by omega);(walk_at "RD"; repeat (dsimp only [Tc];walk_at "RD"));exact ⟨S1,by omega,by omega,by omega,hD _ _ ⟨rfl,_,⟨d1,d2⟩,rfl⟩⟩
 rintro σ2 H2 ⟨rfl,oe,hoe,rfl⟩;subst zzh;refine zS (fun σ' H'=>Sc K a ns H'∧ac H2 H'∧∃ wl,H2 wl=none∧H' wl=some (.lst [])∧σ'=[some (.ref a),some (.int m),some (.int n),some (.ref nl),some (.int oe),some (.ref wl),none,none,none,none,none,none,none]) (fun D' hD=>?_) fun zzM zzh=>?_
 ·walk_at "RD";exact ⟨Nat.zero_le _,fun wl hwl=>hD _ _ ⟨S1.new hwl,gb hwl,wl,hwl,ib,rfl⟩⟩
 rintro σ3 H3 ⟨S3,s3,wl,hwl,w3,rfl⟩;subst zzh;walk_at "RD";refine ⟨by omega,by omega,?_⟩;refine Zj.range (fun i σ H'=>Sc K a ns H'∧ac H2 H'∧(∃ ds,LW H' wl ds∧ds.length=i∧(∀ d ∈ ds,WOk n d)∧∀ (j:Nat) (d:WD),ds[j]? = some d→xs[j]? = some d.name)∧∃ x6 x7 x8 x9 x10 x11 x12,σ=[some (.ref a),some (.int m),some (.int n),some (.ref nl),some (.int oe),some (.ref wl),x6,x7,x8,x9,x10,x11,x12]) ⟨S3,s3,⟨[],⟨[],w3,rfl,fun i q d h=>by simp at h⟩,rfl,fun d h=>by simp at h,fun j d h=>by simp at h⟩,_,_,_,_,_,_,_,rfl⟩ ?_ ?_
 ·rintro i σ H' hi zzq;refine zzP fun zzM zzh=>?_
  obtain ⟨S4,s4,⟨ds,L4,hdl,hok,hnm⟩,x6,x7,x8,x9,x10,x11,x12,rfl⟩:=zzq;have him:i < m:=by have:i < (m:Int).toNat:=hi;omega
  have hxi:xs[i]? = some (xs[i]'(by rw [N.1];exact him)):=List.getElem?_eq_getElem _;subst zzh;generalize xs[i]'(by rw [N.1];exact him)=nm at hxi;have en4:=s4 _ _ en;have hnat:atI (Lc xs) ((i:Nat):Int)=some (.str nm):=yb (by unfold Lc;rw [List.getElem?_map,hxi];rfl);simp only [lf,xb,List.set_cons_succ,List.set_cons_zero,Int.zero_add];refine zzC (fun σ' H''=>H''=H'∧∃ st:Int,(0 ≤ st∧st < n)∧σ'=[some (.ref a),some (.int m),some (.int n),some (.ref nl),some (.int oe),some (.ref wl),some (.int (i:Nat)),some (.int st),x8,x9,x10,x11,x12]) (fun D' hD=>?_) fun zzM zzh=>?_
  ·have d1:=ae ns (120 + 7 * (i:Int)) (m:=n) (by omega);have d2:=Wd ns (120 + 7 * (i:Int)) (m:=n) (by omega);(walk_at "RD"; repeat (dsimp only [Tc];walk_at "RD"));exact ⟨.inl ⟨by decide,by decide⟩,S4,by omega,by omega,by omega,hD _ _ ⟨rfl,_,⟨d1,d2⟩,rfl⟩⟩
  rintro σA HA ⟨rfl,st,hst,rfl⟩;subst zzh;simp only [xb];refine zzC (fun σ' H''=>H''=HA∧∃ fi:Int,(0 ≤ fi∧fi < n)∧st ≠ fi∧σ'=[some (.ref a),some (.int m),some (.int n),some (.ref nl),some (.int oe),some (.ref wl),some (.int (i:Nat)),some (.int st),some (.int fi),x9,x10,x11,x12]) (fun D' hD=>?_) fun zzM zzh=>?_
  ·have d1:=ae ns (121 + 7 * (i:Int)) (m:=n - 1) (by omega);have d2:=Wd ns (121 + 7 * (i:Int)) (m:=n - 1) (by omega);have m0:=Int.emod_nonneg (st + 1 + vk ns (121 + 7 * (i:Int)) (n - 1)) (show n ≠ 0 by omega);have m1:=Int.emod_lt_of_pos (st + 1 + vk ns (121 + 7 * (i:Int)) (n - 1)) (show 0 < n by omega);(walk_at "RD"; repeat (dsimp only [Tc];walk_at "RD"));exact ⟨.inl ⟨by decide,by decide⟩,S4,by omega,by omega,by omega,by omega,hD _ _ ⟨rfl,_,⟨m0,m1⟩,HM hst.1 hst.2 d1 (by omega),rfl⟩⟩
  rintro σB HB ⟨rfl,fi,hfi,hne,rfl⟩;subst zzh;simp only [xb];refine zzC (fun σ' H''=>H''=HB∧∃ fi:Int,(0 ≤ fi∧fi < n)∧st ≠ fi∧σ'=[some (.ref a),some (.int m),some (.int n),some (.ref nl),some (.int oe),some (.ref wl),some (.int (i:Nat)),some (.int st),some (.int fi),x9,x10,x11,x12]) (fun D' hD=>?_) fun zzM zzh=>?_
  ·refine Ib (decide (vk ns 116 3=0) && decide (st ≠ oe)) (fun Q hQ=>?_) (fun hb=>?_) (fun hb=>?_)
   ·(walk_at "RD"; repeat (dsimp only [Tc];walk_at "RD"));refine ⟨S4,by omega,by omega,by decide,?_⟩;by_cases c0:vk ns 116 3=0
    ·rw [if_pos (decide_eq_true c0)];rw [decide_eq_true c0,Bool.true_and,show decide (st ≠ oe) = !decide (st=oe) from decide_not] at hQ;exact hQ
    ·rw [if_neg (by simpa using c0)];rw [decide_eq_false c0,Bool.false_and] at hQ;exact hQ
   ·rw [Bool.and_eq_true] at hb;walk_at "RD";exact hD _ _ ⟨rfl,oe,hoe,of_decide_eq_true hb.2,rfl⟩
   ·walk_at "RD";exact hD _ _ ⟨rfl,fi,hfi,hne,rfl⟩
  rintro σC HC ⟨rfl,fi2,hfi2,hne2,rfl⟩;subst zzh;simp only [xb];refine zzC (fun σ' H''=>H''=HC∧∃ of_:Int,(0 ≤ of_∧of_ ≤ 30)∧σ'=[some (.ref a),some (.int m),some (.int n),some (.ref nl),some (.int oe),some (.ref wl),some (.int (i:Nat)),some (.int st),some (.int fi2),some (.int of_),x10,x11,x12]) (fun D' hD=>?_) fun zzM zzh=>?_
  ·have d1:=ae ns (123 + 7 * (i:Int)) (m:=9) (by decide);have d2:=Wd ns (123 + 7 * (i:Int)) (m:=9) (by decide);(walk_at "RD"; repeat (dsimp only [Tc];walk_at "RD"));exact ⟨.inl ⟨by decide,by decide⟩,S4,by omega,by omega,by decide,hD _ _ ⟨rfl,_,by omega,rfl⟩⟩
  rintro σD HD ⟨rfl,of1,hof1,rfl⟩;subst zzh;simp only [xb];refine zzC (fun σ' H''=>H''=HD∧∃ ne_:Int,(0 ≤ ne_∧ne_ ≤ 30)∧σ'=[some (.ref a),some (.int m),some (.int n),some (.ref nl),some (.int oe),some (.ref wl),some (.int (i:Nat)),some (.int st),some (.int fi2),some (.int of1),some (.int ne_),x11,x12]) (fun D' hD=>?_) fun zzM zzh=>?_
  ·have d1:=ae ns (125 + 7 * (i:Int)) (m:=6) (by decide);have d2:=Wd ns (125 + 7 * (i:Int)) (m:=6) (by decide);(walk_at "RD"; repeat (dsimp only [Tc];walk_at "RD"));exact ⟨.inl ⟨by decide,by decide⟩,S4,by omega,by omega,by decide,hD _ _ ⟨rfl,_,by omega,rfl⟩⟩
  rintro σE HE ⟨rfl,ne1,hne1,rfl⟩;subst zzh;simp only [xb];refine zzC (fun σ' H''=>H''=HE∧∃ of_:Int,(0 ≤ of_∧of_ ≤ 30)∧σ'=[some (.ref a),some (.int m),some (.int n),some (.ref nl),some (.int oe),some (.ref wl),some (.int (i:Nat)),some (.int st),some (.int fi2),some (.int of_),some (.int ne1),x11,x12]) (fun D' hD=>?_) fun zzM zzh=>?_
  ·refine Ib (decide (vk ns (117 + (i:Int)) 6=0)) (fun Q hQ=>?_) (fun _=>?_) (fun _=>?_)
   ·(walk_at "RD"; repeat (dsimp only [Tc];walk_at "RD"));exact ⟨S4,by omega,by omega,by decide,hQ⟩
   ·have d1:=ae ns (123 + 7 * (i:Int)) (m:=31) (by decide);have d2:=Wd ns (123 + 7 * (i:Int)) (m:=31) (by decide);(walk_at "RD"; repeat (dsimp only [Tc];walk_at "RD"));exact ⟨.inl ⟨by decide,by decide⟩,S4,by omega,by omega,by decide,hD _ _ ⟨rfl,_,by omega,rfl⟩⟩
   ·walk_at "RD";exact hD _ _ ⟨rfl,of1,hof1,rfl⟩
  rintro σF HF ⟨rfl,of2,hof2,rfl⟩;subst zzh;simp only [xb];refine zzC (fun σ' H''=>H''=HF∧∃ ne_:Int,(0 ≤ ne_∧ne_ ≤ 30)∧σ'=[some (.ref a),some (.int m),some (.int n),some (.ref nl),some (.int oe),some (.ref wl),some (.int (i:Nat)),some (.int st),some (.int fi2),some (.int of2),some (.int ne_),x11,x12]) (fun D' hD=>?_) fun zzM zzh=>?_
  ·refine Ib (decide (vk ns (124 + 7 * (i:Int)) 8=0)) (fun Q hQ=>?_) (fun _=>?_) (fun _=>?_)
   ·(walk_at "RD"; repeat (dsimp only [Tc];walk_at "RD"));exact ⟨.inl ⟨by decide,by decide⟩,S4,by omega,by omega,by decide,hQ⟩
   ·have d1:=ae ns (125 + 7 * (i:Int)) (m:=31) (by decide);have d2:=Wd ns (125 + 7 * (i:Int)) (m:=31) (by decide);(walk_at "RD"; repeat (dsimp only [Tc];walk_at "RD"));exact ⟨.inl ⟨by decide,by decide⟩,S4,by omega,by omega,by decide,hD _ _ ⟨rfl,_,by omega,rfl⟩⟩
   ·walk_at "RD";exact hD _ _ ⟨rfl,ne1,hne1,rfl⟩
  rintro σG HG ⟨rfl,ne2,hne2',rfl⟩;subst zzh;simp only [xb];refine zzC (fun σ' H''=>ac HG H''∧Sc K a ns H''∧∃ k:Nat,k < 3∧σ'=[some (.ref a),some (.int m),some (.int n),some (.ref nl),some (.int oe),some (.ref wl),some (.int (i:Nat)),some (.int st),some (.int fi2),some (.int of2),some (.int ne2),some (.str (ce k)),x12]) (fun D' hD=>?_) fun zzM zzh=>?_
  ·have d1:=ae ns (122 + 7 * (i:Int)) (m:=3) (by decide);have d2:=Wd ns (122 + 7 * (i:Int)) (m:=3) (by decide);(walk_at "RD"; repeat (dsimp only [Tc];walk_at "RD"));exact ⟨by decide,fun p hp=>⟨.inl ⟨by decide,by decide⟩,S4.new hp,by omega,by omega,by decide,_,SqL.of ib,_,SJ d1 d2,hD _ _ ⟨gb hp,S4.new hp,_,by omega,rfl⟩⟩⟩
  rintro σH HH ⟨sH,SH,k,hk,rfl⟩;have enH:=sH _ _ en4;have LH:=L4.same sH;subst zzh;simp only [xb];refine zzC (fun σ' H''=>H''=HH∧∃ le_:Int,(1 ≤ le_∧le_ ≤ 4)∧σ'=[some (.ref a),some (.int m),some (.int n),some (.ref nl),some (.int oe),some (.ref wl),some (.int (i:Nat)),some (.int st),some (.int fi2),some (.int of2),some (.int ne2),some (.str (ce k)),some (.int le_)]) (fun D' hD=>?_) fun zzM zzh=>?_
  ·have d1:=ae ns (126 + 7 * (i:Int)) (m:=4) (by decide);have d2:=Wd ns (126 + 7 * (i:Int)) (m:=4) (by decide);(walk_at "RD"; repeat (dsimp only [Tc];walk_at "RD"));exact ⟨.inl ⟨by decide,by decide⟩,SH,by omega,by omega,by decide,hD _ _ ⟨rfl,_,by omega,rfl⟩⟩
  rintro σI HI ⟨rfl,le_,hle,rfl⟩;obtain ⟨qs,l1,l2,al⟩:=LH;subst zzh;walk_at "RD";refine ⟨.inl ⟨_,SqL.of l1⟩,_,SqL.of enH,_,hnat,by decide,fun p hp=>?_⟩;have hwp:wl ≠ p:=Lb l1 hp;have L':=LW.snoc (d:=⟨k,nm,st,fi2,of2,ne2,le_⟩) l1 l2 al hp;refine ⟨_,by rw [Ab hwp];exact l1,Nat.lt_of_le_of_lt (show (qs.map V.ref).length ≤ 8 by rw [List.length_map];omega) (by decide),(SH.new hp).set (by rw [Ab hwp];exact l1) (fun _ _ z=>by cases z),((s4.trans sH).trans (gb hp)).updN hwl,⟨ds ++ [⟨k,nm,st,fi2,of2,ne2,le_⟩],L',by rw [List.length_append,hdl];rfl,fun d hd=>?_,fun j d hd=>?_⟩,?_⟩
  ·rcases List.mem_append.mp hd with hd | hd
   ·exact hok d hd
   ·rw [List.mem_singleton.mp hd];exact ⟨hk,N.2.2 nm (List.mem_of_getElem? hxi),⟨hst.1,hst.2⟩,⟨hfi2.1,hfi2.2⟩,hne2,hof2,hne2',⟨hle.1,by dsimp only;omega⟩⟩
  ·rcases Hg hd with ⟨_,z⟩ | ⟨z,rfl⟩
   ·exact hnm j d z
   ·rw [z,hdl];exact hxi
  ·repeat (first | exact ⟨_,rfl⟩ | refine ⟨⟨_,rfl⟩,?_⟩)
 ·rintro σ H' zzq;refine zzP fun zzM zzh=>?_
  obtain ⟨S4,s4,⟨ds,L4,hdl,hok,hnm⟩,x6,x7,x8,x9,x10,x11,x12,rfl⟩:=zzq;subst zzh;rw [show (m:Int).toNat=m by omega] at hdl;walk_at "RD";refine q wl ds H' (s1.trans s4) S4 (s1.free hwl) L4 hdl ⟨fun d hd=>⟨hok d hd,trivial⟩,?_⟩;have e:ds.map (·.name)=xs:=by
   refine List.ext_getElem? fun j=>?_
   rw [List.getElem?_map];cases h:ds[j]? with
   | some d=>exact (hnm j d h).symm
   | none=>
    have:ds.length ≤ j:=List.getElem?_eq_none_iff.mp h;exact (List.getElem?_eq_none_iff.mpr (by rw [N.1];omega)).symm
  rw [e];exact N.2.1
end
end My
namespace My
open PySem L2
noncomputable def eF (K:PySem.W.Frag):Sp:=fun vs H Q _=>∃ n a b d e,vs=[.ref a,.ref b,.int n]∧SqT K H a (Ap d)∧SqT K H b (Ap e)∧WOk n d∧WOk n e∧NoT H∧Q (.bl (mt n d e)) H
noncomputable def wH (K:PySem.W.Frag):Sp:=fun vs H Q _=>∃ n a b d e,vs=[.ref a,.ref b,.int n]∧SqT K H a (Ap d)∧SqT K H b (Ap e)∧WOk n d∧WOk n e∧∀ H',ac H H'→Q (.bl (mt n d e)) H'
section
variable {P:Program} {w:World} {K:PySem.W.Frag} {mg:Str→Option Value} {base:Heap} {t:Adr}
theorem AL (T:Txt w K mg t):Zb P w K mg base CX0 1 t.lh t.kh q45 (eF K):=by
 refine Zb.forget (sp:=wH K) ?_ fun vs H Q E h=>?_
 ·refine T.yj.ok xi (fun vs H Q E h=>?_) (fun _ _ _ s H vs Q E hr h=>?_)
  ·obtain ⟨n,a,b,d,e,rfl,_⟩:=h;rfl
  obtain ⟨n,a,b,d,e,rfl,Ta,Tb,hd,he,q⟩:=h;refine ⟨_,(db (Dc (Gb Of (Db Vb (pv 0) jb) (Db Vb (pv 1) jb) (Ub _)) (lb (Bb Xf)) Ob)
   (db (Dc (PW.pt (Zg (Gb rk (Db Vb (pv 0) jb) (Bj yE (pv 1) (Di jb) (Di jb)) (by with_unfolding_all rfl)) (Bg (Gb rk (Db Vb (pv 0) jb) (Bj yE (pv 1) (Di jb) (Di jb)) (by with_unfolding_all rfl))))) (lb (Bb Xf)) Ob)
   (db (wb (i:=3) xi.nd (Yb wg (Yb Vh (Db Vb (pv 0) jb) (Db Vb (pv 0) jb)) (pv 2)))
   (db (wb (i:=4) xi.nd (ld Sm (Yb wg (Yb Vh (Db Vb (pv 1) jb) (Db Vb (pv 0) jb)) (pv 2)) (pv 3) (Ub _)))
   (lb (Bb (ld Vs (pv 4) (ld Sm (Yb wg (Yb Vh (Db Vb (pv 1) jb) (Db Vb (pv 0) jb)) (pv 2)) (pv 3) (Ub _)) (Ub _)))))))),?_⟩
  have a2:atI (Ap d) 2=some (.int d.start):=yb (j:=2) rfl;have a3:atI (Ap d) 3=some (.int d.fin):=yb (j:=3) rfl;have b2:atI (Ap e) 2=some (.int e.start):=yb (j:=2) rfl;have b3:atI (Ap e) 3=some (.int e.fin):=yb (j:=3) rfl;have f1:=hd.st;have f2:=hd.fi;have f3:=he.st;have f4:=he.fi;refine Ib (decide (d.fin=e.fin)) (fun Q hQ=>?_) (fun c=>?_) (fun c=>?_)
  ·walk_at "RD";refine ⟨_,Ta,_,a3,_,Tb,_,b3,rfl,?_⟩;walk_at "RD";exact hQ
  ·walk_at "RD";have:=q H (ac.refl H);unfold mt ay at this;rw [c,Bool.true_or] at this;exact this
  ·have c':=of_decide_eq_false c;walk_at "RD";refine og (fun b H'=>ac H H'∧b=decide ((d.start=e.start∨d.start=e.fin)∨(d.fin=e.start∨d.fin=e.fin))) (fun Q hQ=>?_) (fun H' ⟨sm,hb⟩=>?_) (fun H' ⟨sm,hb⟩=>?_)
   ·have hc:uC (Ap e) (some 2) (some 4)=[V.int e.start,V.int e.fin]:=rfl;have hcut:¬ (HT.sIx (Ap e).length 0 (some 2)=0∧HT.sIx (Ap e).length (Ap e).length (some 4)=(Ap e).length):=by
     show ¬ (HT.sIx 7 0 (some 2)=0∧HT.sIx 7 7 (some 4)=7);decide
    walk_at "RD";refine ⟨_,Ta,_,a2,_,Tb,hcut,fun p hp=>?_⟩;rw [hc];refine ⟨_,.inr (SqT.of ib),rfl,rfl,?_⟩;have s1:ac H (upd H p (.tup [.int e.start,.int e.fin])):=gb hp;rw [SN];by_cases c1:d.start=e.start∨d.start=e.fin
    ·rw [if_pos (decide_eq_true c1)];exact hQ _ _ ⟨s1,(decide_eq_true (.inl c1)).symm⟩
    ·rw [if_neg (by simpa using c1)];refine ⟨_,Ta.same s1,_,a3,_,Tb.same s1,hcut,fun p2 hp2=>?_⟩;rw [hc];refine ⟨_,.inr (SqT.of ib),rfl,rfl,hQ _ _ ⟨s1.trans (gb hp2),?_⟩⟩;rw [SN,Bool.eq_iff_iff,decide_eq_true_eq,decide_eq_true_eq];exact ⟨.inr,fun z=>z.resolve_left c1⟩
   ·walk_at "RD";have:=q H' sm;unfold mt ay at this;rw [c,Bool.false_or,if_pos (by have:=of_decide_eq_true hb.symm;omega)] at this;exact this
   ·have hb':=of_decide_eq_false hb.symm;have hn0:0 < n:=by omega
    have Ta':=Ta.same sm;have Tb':=Tb.same sm;walk_at "RD";refine ⟨_,Ta',_,a3,_,Ta',_,a2,_,rfl,_,rfl,hn0,_,Tb',_,b2,_,Ta',_,a2,_,rfl,_,rfl,hn0,_,Tb',_,b3,_,Ta',_,a2,_,rfl,_,rfl,hn0,?_⟩;have p1:0 < (e.start - d.start) % n:=by rw [Iz f1.1 f1.2 f3.1 f3.2];split <;> omega
    have p2:0 < (e.fin - d.start) % n:=by rw [Iz f1.1 f1.2 f4.1 f4.2];split <;> omega
    have hq:=q H' sm;unfold mt ay ym at hq;rw [c,Bool.false_or,if_neg (by omega),decide_eq_true p1,decide_eq_true p2,Bool.true_and,Bool.true_and] at hq;generalize decide ((e.start - d.start) % n < (d.fin - d.start) % n)=X at hq ⊢;generalize decide ((e.fin - d.start) % n < (d.fin - d.start) % n)=Y at hq ⊢;cases X <;> cases Y <;> exact hq
 ·obtain ⟨n,a,b,d,e,rfl,Ta,Tb,hd,he,nt,q⟩:=h;exact ⟨nt,n,a,b,d,e,rfl,Ta,Tb,hd,he,fun H' sm=>⟨sm,q⟩⟩
end
noncomputable def Au (K:PySem.W.Frag):Sp:=fun vs H Q _=>∃ a d x,vs=[.ref a,.int x]∧SqT K H a (Ap d)∧d.k < 3∧Q (.int (Qc (d,x))) H
theorem sL {k:Nat} (h:k < 3):decide (V.str (ce k)=V.str (Str.ofString "foot"))=decide (k=1):=by
 match k,h with
 | 0,_=>decide +kernel
 | 1,_=>decide +kernel
 | 2,_=>decide +kernel
section
variable {P:Program} {w:World} {K:PySem.W.Frag} {mg:Str→Option Value} {base:Heap} {t:Adr}
theorem ZA (T:Txt w K mg t):Zb P w K mg base CX0 1 t.xg t.Ag q21 (Au K):=by
 refine T.Mh.ok Bu (fun vs H Q E h=>?_) (fun _ _ _ s H vs Q E hr h=>?_)
 ·obtain ⟨a,d,x,rfl,_⟩:=h;rfl
 obtain ⟨a,d,x,rfl,Ta,hk,q⟩:=h;refine ⟨_,(db (Dc (Gb Of (Db Vb (pv 0) jb) ad (Ub _)) (lb (Bb (Yb wc (pv 1) (Db Vb (pv 0) jb)))) Ob)
   (lb (Bb (Yb wc (pv 1) jb)))),?_⟩
 have a0:atI (Ap d) 0=some (.str (ce d.k)):=yb (j:=0) rfl;have a4:atI (Ap d) 4=some (.int d.off):=yb (j:=4) rfl;refine Ib (decide (d.k=1)) (fun Q hQ=>?_) (fun c=>?_) (fun c=>?_)
 ·walk_at "RD";refine ⟨_,Ta,_,a0,rfl,?_⟩;rw [show decide (V.str (ce d.k)=V.str (Str.ofString "foot"))=decide (d.k=1) from sL hk];exact hQ
 ·have c':=of_decide_eq_true c;walk_at "RD";refine ⟨_,Ta,_,a4,_,rfl,?_⟩;have e:Qc (d,x)=x + d.off:=by unfold Qc cn ji;rw [c'];simp
  rw [e] at q;exact q
 ·have c':=of_decide_eq_false c;walk_at "RD";have e:Qc (d,x)=x + 3:=by
   unfold Qc cn ji
   match hd:d.k,hk,c' with
   | 0,_,_=>simp;omega
   | 1,_,z=>exact absurd rfl z
   | 2,_,_=>simp;omega
  rw [e] at q;exact q
end
end My
namespace My
open PySem L2
noncomputable def so (H:Hp) (wl:Addr) (ws:List (WD × Int)):Prop:=∃ qs:List Addr,H wl=some (.lst (qs.map V.ref))∧qs.length=ws.length∧∀ (i:Nat) (q:Addr) (p:WD × Int),qs[i]? = some q→ws[i]? = some p→∃ wq,H q=some (.tup [.ref wq,.int p.2])∧H wq=some (.tup (Ap p.1))
theorem Oe {H H':Hp} {wl:Addr} {ws:List (WD × Int)} (h:so H wl ws) (s:ac H H'):so H' wl ws:=by
 obtain ⟨qs,e1,e2,al⟩:=h;refine ⟨qs,s _ _ e1,e2,fun i q p h1 h2=>?_⟩;obtain ⟨wq,a1,a2⟩:=al i q p h1 h2;exact ⟨wq,s _ _ a1,s _ _ a2⟩
theorem Up {K:PySem.W.Frag} {H:Hp} {wl:Addr} {ws:List (WD × Int)} (h:so H wl ws) {i:Nat} {p:WD × Int} (hp:ws[i]? = some p):∃ xs q wq,SqL K H wl xs∧atI xs (i:Int)=some (.ref q)∧SqT K H q [.ref wq,.int p.2]∧SqT K H wq (Ap p.1):=by
 obtain ⟨qs,e1,e2,al⟩:=h;have hi:i < qs.length:=by rw [e2];exact (List.getElem?_eq_some_iff.mp hp).1
 have hq:qs[i]? = some qs[i]:=List.getElem?_eq_getElem hi;obtain ⟨wq,a1,a2⟩:=al i _ p hq hp;exact ⟨_,qs[i],wq,SqL.of e1,yb (by rw [List.getElem?_map,hq];rfl),SqT.of a1,SqT.of a2⟩
theorem Vv {K:PySem.W.Frag} {H:Hp} {wl:Addr} {ws:List (WD × Int)} (h:so H wl ws):∃ xs,SqL K H wl xs∧xs.length=ws.length:=by
 obtain ⟨qs,e1,e2,al⟩:=h;exact ⟨_,SqL.of e1,by rw [List.length_map,e2]⟩
noncomputable def bvL (bs:List Int) (i:Nat):Int:=(bs[i]?).getD 0
theorem JE {bs:List Int} {i:Nat} {x:Int} (h:bs[i]? = some x):bvL bs i=x:=by unfold bvL;rw [h];rfl
theorem OH {n:Int} {ws:List (WD × Int)} {i j:Nat} (h:(Jb n ws).e i j=true):i < ws.length:=by
 obtain ⟨p,q,h1,h2,_⟩:=Iq h;exact (List.getElem?_eq_some_iff.mp h1).1
theorem iK {n:Int} {ws:List (WD × Int)} {i j:Nat} (h:(Jb n ws).e i j=true):j < ws.length:=by
 obtain ⟨p,q,h1,h2,_⟩:=Iq h;exact (List.getElem?_eq_some_iff.mp h2).1
noncomputable def UH (S:Sys) (i j:Nat):V:=if S.e i j then .int (S.st i j) else .non
noncomputable def vq:Sp:=fun vs H Q _=>∃ wl i j n ws,vs=[.ref wl,.int (i:Nat),.int (j:Nat),.int n]∧so H wl ws∧(∀ p ∈ ws,WOk n p.1)∧i < ws.length∧j < ws.length∧NoT H∧Q (UH (Jb n ws) i j) H
noncomputable def zI:Sp:=fun vs H Q _=>∃ wl n size bl ws bs,vs=[.ref wl,.int n,.int size,.ref bl]∧so H wl ws∧(∀ p ∈ ws,WOk n p.1)∧ws.length ≤ 6∧H bl=some (.lst (bs.map V.int))∧bs.length=ws.length∧0 < size∧NoT H∧∀ r,(r=true↔Sl (Jb n ws) size (bvL bs))→Q (.bl r) H
section
variable {P:Program} {w:World} {K:PySem.W.Frag} {mg:Str→Option Value} {base:Heap} {t:Adr}
theorem Xu (T:Txt w K mg t):Zb P w K mg base CX0 2 t.ie t.ee q12 vq:=by
 have g58:Zb P w K mg base CX0 1 t.lh t.kh q45 (eF K):=AL T;refine T.Xe.ok Fs (fun vs H Q E h=>?_) (fun _ _ _ s H vs Q E hr h=>?_)
 ·obtain ⟨wl,i,j,n,ws,rfl,_⟩:=h;rfl
 obtain ⟨wl,i,j,n,ws,rfl,L,hw,hi,hj,nt,q⟩:=h;have hwi:ws[i]? = some ws[i]:=List.getElem?_eq_getElem hi;have hwj:ws[j]? = some ws[j]:=List.getElem?_eq_getElem hj;obtain ⟨xs,qi,wi,L1,ai,ei1,ei2⟩:=Up (K:=K) L hwi;obtain ⟨ys,qj,wj,L2',aj,ej1,ej2⟩:=Up (K:=K) L hwj;have oi:=hw _ (List.mem_of_getElem? hwi);have oj:=hw _ (List.mem_of_getElem? hwj);have hs:=Gm (n:=n) hwi hwj;unfold UH at q;rw [hs.1,hs.2] at q;refine ⟨_,(db (Dc (PW.pt (Zg (Gb Of (pv 1) (pv 2) (Ub _)) (Bg (af (pe (qb g58 hr T.vv T.yj.kp T.Fu (cb (Db Vb (Db Qd (pv 0) (pv 1)) jb) (cb (Db Vb (Db Qd (pv 0) (pv 2)) jb) (cb (pv 3) fb))))))))) (lb (Bb Rf)) Ob)
   (lb (Bb (Yb wc (Db Vb (Db Qd (pv 0) (pv 1)) jb) (Kb (Nr rfl) rfl T.JG Do (cb jb (cb (Yb Vh (Db Vb (Db Vb (Db Qd (pv 0) (pv 1)) jb) jb) (Db Vb (Db Vb (Db Qd (pv 0) (pv 2)) jb) jb)) fb))))))),?_⟩
 refine Ib (!(decide (i ≠ j) && mt n ws[i].1 ws[j].1)) (fun Q hQ=>?_) (fun c=>?_) (fun c=>?_)
 ·walk_at "RD";by_cases hij:i=j
  ·rw [if_pos (decide_eq_true (by omega))];rw [decide_eq_false (fun z=>z hij)] at hQ;exact hQ
  ·rw [if_neg (by rw [decide_eq_true_eq];omega)];rw [decide_eq_true hij,Bool.true_and] at hQ;exact ⟨_,L1,_,ai,_,rfl,_,ei1,_,yb (j:=0) rfl,_,L2',_,aj,_,rfl,_,ej1,_,yb (j:=0) rfl,n,wi,wj,_,_,rfl,ei2,ej2,oi,oj,nt,_,rfl,hQ⟩
 ·walk_at "RD";rw [show (decide (i ≠ j) && mt n ws[i].1 ws[j].1)=false by rw [← Bool.not_not (decide (i ≠ j) && _),c];rfl,if_neg Bool.false_ne_true] at q;exact q
 ·rw [show (decide (i ≠ j) && mt n ws[i].1 ws[j].1)=true by simpa using c,if_pos rfl] at q;walk_at "RD";refine ⟨_,L1,_,ai,_,rfl,_,ei1,_,yb (j:=1) rfl,_,L1,_,ai,_,rfl,_,ei1,_,yb (j:=0) rfl,_,rfl,_,ei2,_,yb (j:=4) rfl,_,L2',_,aj,_,rfl,_,ej1,_,yb (j:=0) rfl,_,rfl,_,ej2,_,yb (j:=5) rfl,_,rfl,_,rfl,_,rfl,q⟩
theorem WM (T:Txt w K mg t):Zb P w K mg base CX0 3 t.An t.Zm q47 zI:=by
 have g24:Zb P w K mg base CX0 2 t.xg t.Ag q21 (Au K):=(ZA T).mono (by decide);have g11:Zb P w K mg base CX0 2 t.ie t.ee q12 vq:=Xu T;refine T.Rm.ok ll (fun vs H Q E h=>?_) (fun _ _ _ s H vs Q E hr h=>?_)
 ·obtain ⟨wl,n,size,bl,ws,bs,rfl,_⟩:=h;rfl
 obtain ⟨wl,n,size,bl,ws,bs,rfl,L,hw,hlen,eb,hbl,hsz,nt,q⟩:=h;obtain ⟨xs,L1,L2'⟩:=Vv (K:=K) L;refine ⟨_,(db (cf PassesOwn.never rfl (Ae rfl T.Kf (cb (Kb Fb rfl T.ff Nb (cb (pv 0) fb)) fb)) (Eb (i:=4) ll.nd) (db (Dc (Gb Jp (qb g24 hr T.Zo T.Mh.kp T.Uo (cb (Db Vb (Db Qd (pv 0) (pv 4)) jb) (cb (Db Vb (Db Qd (pv 0) (pv 4)) jb) fb))) (pv 2) (Ub _)) (lb (Bb Xf)) Ob)
   (lb (cf PassesOwn.never rfl (Ae rfl T.Kf (cb (Kb Fb rfl T.ff Nb (cb (pv 0) fb)) fb)) (Eb (i:=5) ll.nd) (db (wb (i:=6) ll.nd (qb g11 hr T.Yg T.Xe.kp T.Ug (cb (pv 0) (cb (pv 4) (cb (pv 5) (cb (pv 1) fb))))))
   (lb (Dc (PW.pt (Kz (Gb Yq (pv 6) Rf (Ub _)) (Ku (Gb Sm (Yb wg (Yb Vh (Db Qd (pv 3) (pv 5)) (Db Qd (pv 3) (pv 4))) (pv 2)) (pv 6) (Ub _))))) (lb (Bb Xf)) Ob)))))))
   (lb (Bb Xf))),?_⟩
 walk_at "RD";refine ⟨_,.inl L1,by omega,by rw [L2'];omega,?_⟩;rw [show ((xs.length:Nat):Int).toNat=ws.length by rw [L2'];rfl];refine Zj.range (fun i σ H1=>(∃ a b c,σ=[some (V.ref wl),some (V.int n),some (V.int size),some (V.ref bl),a,b,c])∧H1=H∧∀ l:Nat,l < i→(Jb n ws).al l ≤ size∧∀ j,(Jb n ws).e l j=true→(Jb n ws).st l j ≤ (bvL bs j - bvL bs l) % size) ⟨⟨_,_,_,rfl⟩,rfl,fun l hl=>absurd hl (Nat.not_lt_zero _)⟩ ?_ ?_
 ·rintro i σ H1 hi zzq;refine zzP fun zzM zzh=>?_
  obtain ⟨⟨a,b,c,rfl⟩,rfl,hdo⟩:=zzq;have hwi:ws[i]? = some ws[i]:=List.getElem?_eq_getElem hi;have bi:bs[i]? = some (bs[i]'(by omega)):=List.getElem?_eq_getElem (by omega);obtain ⟨ys,qi,wi,M1,ai,ei1,ei2⟩:=Up (K:=K) L hwi;have oi:=hw _ (List.mem_of_getElem? hwi);subst zzh;simp only [lf,xb,List.set_cons_succ,List.set_cons_zero];rw [Int.zero_add];refine Ib (decide (size < (Jb n ws).al i)) (fun Q hQ=>?_) (fun h=>?_) (fun h=>?_)
  ·walk_at "RD";rw [LC hwi] at hQ;exact ⟨_,M1,_,ai,_,rfl,_,ei1,_,yb (j:=0) rfl,_,M1,_,ai,_,rfl,_,ei1,_,yb (j:=1) rfl,wi,ws[i].1,_,rfl,ei2,oi.k,_,rfl,hQ⟩
  ·walk_at "RD";refine q false ⟨(fun z=>by cases z),fun z=>?_⟩;have:=z.1 i hi;have:=of_decide_eq_true h;omega
  simp only [Xb];have h':=of_decide_eq_false h;walk_at "RD";refine ⟨_,.inl L1,by omega,by rw [L2'];omega,?_⟩;rw [show ((xs.length:Nat):Int).toNat=ws.length by rw [L2'];rfl];refine Zj.range (fun j σ H2=>(∃ b c,σ=[some (V.ref wl),some (V.int n),some (V.int size),some (V.ref bl),some (V.int (i:Nat)),b,c])∧H2=H1∧∀ l,l < j→(Jb n ws).e i l=true→(Jb n ws).st i l ≤ (bvL bs l - bvL bs i) % size) ⟨⟨_,_,rfl⟩,rfl,fun l hl=>absurd hl (Nat.not_lt_zero _)⟩ ?_ ?_
  ·rintro j σ H2 hj zzq;refine zzP fun zzM zzh=>?_
   obtain ⟨⟨b,c,rfl⟩,rfl,hin⟩:=zzq;have bj:bs[j]? = some (bs[j]'(by omega)):=List.getElem?_eq_getElem (by omega);subst zzh;simp only [lf,xb,List.set_cons_succ,List.set_cons_zero];rw [Int.zero_add];refine fc (fun σ' H'=>H'=H2∧σ'=[some (V.ref wl),some (V.int n),some (V.int size),some (V.ref bl),some (V.int (i:Nat)),some (V.int (j:Nat)),some (UH (Jb n ws) i j)]) (fun D' hD hrt _ _=>?_) ?_
   ·walk_at "RD";exact ⟨wl,i,j,n,ws,rfl,L,hw,hi,hj,nt,hD _ _ ⟨rfl,rfl⟩⟩
   rintro σ3 H3 ⟨rfl,rfl⟩;dsimp only;refine Ib ((Jb n ws).e i j && decide ((bvL bs j - bvL bs i) % size < (Jb n ws).st i j)) (fun Q hQ=>?_) (fun c=>?_) (fun c=>?_)
   ·unfold UH;walk_at "RD";have aj:atI (bs.map V.int) (j:Int)=some (V.int (bvL bs j)):=yb (by rw [List.getElem?_map,bj,JE bj];rfl);have ab:atI (bs.map V.int) (i:Int)=some (V.int (bvL bs i)):=yb (by rw [List.getElem?_map,bi,JE bi];rfl);cases he:(Jb n ws).e i j with
    | true=>
     rw [if_pos rfl,if_pos (by rfl)];rw [he,Bool.true_and] at hQ;exact ⟨_,SqL.of eb,_,aj,_,SqL.of eb,_,ab,_,rfl,_,rfl,hsz,_,rfl,hQ⟩
    | false=>
     rw [if_neg Bool.false_ne_true,if_neg (by simp)];rw [he,Bool.false_and] at hQ;exact hQ
   ·rw [Bool.and_eq_true,decide_eq_true_eq] at c;walk_at "RD";refine q false ⟨(fun z=>by cases z),fun z=>?_⟩;have:=z.2 i j c.1;omega
   ·simp only [Xb];refine ⟨⟨_,_,rfl⟩,trivial,fun l hl e=>?_⟩;rcases Nat.lt_or_ge l j with y | y
    ·exact hin l y e
    ·have:l=j:=by omega
     subst this;rw [e,Bool.true_and] at c;have:=of_decide_eq_false c;omega
  ·rintro σ H2 zzq;refine zzP fun zzM zzh=>?_
   obtain ⟨⟨b,c,rfl⟩,rfl,hin⟩:=zzq;subst zzh;refine ⟨⟨_,_,_,rfl⟩,rfl,fun l hl=>?_⟩;rcases Nat.lt_or_ge l i with y | y
   ·exact hdo l y
   ·have:l=i:=by omega
    subst this;exact ⟨by omega,fun j e=>hin j (iK e) e⟩
 ·rintro σ H1 zzq;refine zzP fun zzM zzh=>?_
  obtain ⟨⟨a,b,c,rfl⟩,rfl,hdo⟩:=zzq;subst zzh;walk_at "RD";refine q true ⟨fun _=>⟨fun k hk=>(hdo k hk).1,fun i j e=>(hdo i (OH e)).2 j e⟩,fun _=>rfl⟩
end
end My
namespace My
open PySem L2
noncomputable def Ot (K:PySem.W.Frag) (a:Addr) (ns:List Int):Sp:=fun vs H Q _=>vs=[.ref a]∧Sc K a ns H∧∀ n:Int,(4 ≤ n∧n ≤ 99)→Q (.int n) H
noncomputable def vA (K:PySem.W.Frag) (a:Addr) (ns:List Int):Sp:=fun vs H Q _=>∃ wl ds,vs=[.ref a,.ref wl]∧Sc K a ns H∧LW H wl ds∧(0 < ds.length∧ds.length ≤ 12) ∧
 ∀ p H' ws,ac H H'→Sc K a ns H'→so H' p ws→(0 < ws.length∧ws.length ≤ 5)→(∀ x ∈ ws,x.1 ∈ ds∧1 ≤ x.2∧x.2 ≤ 60)→Q (.ref p) H'
section
variable {P:Program} {w:World} {K:PySem.W.Frag} {mg:Str→Option Value} {base:Heap} {t:Adr}
theorem JB (T:Txt w K mg t) (a:Addr) (ns:List Int) (h63:ns.length ≤ 63):Zb P w K mg base CX0 2 t.Xg t.ah q15 (Ot K a ns):=by
 have g0:Zb P w K mg base CX0 1 t.Ce t.He q11 (Tc K a ns):=jr T a ns h63;refine T.lj.ok Bs (fun vs H Q E h=>?_) (fun _ _ _ s H vs Q E hr h=>?_)
 ·obtain ⟨rfl,_⟩:=h;rfl
 obtain ⟨rfl,S,q⟩:=h;have d1:=ae ns 0 (m:=13) (by decide);have d2:=Wd ns 0 (m:=13) (by decide);refine ⟨_,(lb (Bb (zu (Gb Of (qb g0 hr T.Sb T.Mb.kp T.Qb (cb (pv 0) (cb jb (cb jb fb)))) jb (Ub _)) jb (Yb wc jb (qb g0 hr T.Sb T.Mb.kp T.Qb (cb (pv 0) (cb jb (cb jb fb)))))))),?_⟩;walk_at "RD";refine ⟨_,_,rfl,S,by decide,by decide,?_⟩;refine ⟨rfl,?_⟩;by_cases z:vk ns 1 6=0
 ·rw [if_pos (by rw [z];rfl)];exact q 99 (by decide)
 ·rw [if_neg (by simpa using z)];exact ⟨_,_,rfl,S,by decide,by decide,_,rfl,q _ (by omega)⟩
theorem YH (T:Txt w K mg t) (a:Addr) (ns:List Int) (h63:ns.length ≤ 63):Zb P w K mg base CX0 2 t.fh t.gh q46 (vA K a ns):=by
 have g0:Zb P w K mg base CX0 1 t.Ce t.He q11 (Tc K a ns):=jr T a ns h63;refine T.vj.ok Yc (fun vs H Q E h=>?_) (fun _ _ _ s H vs Q E hr h=>?_)
 ·obtain ⟨wl,ds,rfl,_⟩:=h;rfl
 obtain ⟨wl,ds,rfl,S,⟨qs,w1,w2,w3⟩,⟨hl0,hl1⟩,q⟩:=h;refine ⟨_,(db (wb (i:=2) Yc.nd (Yb wc jb (qb g0 hr T.Sb T.Mb.kp T.Qb (cb (pv 0) (cb jb (cb jb fb))))))
   (db (Dc (Gb Of (qb g0 hr T.Sb T.Mb.kp T.Qb (cb (pv 0) (cb jb (cb jb fb)))) jb (Ub _)) (lb (wb (i:=2) Yc.nd jb)) Ob)
   (db (wb (i:=3) Yc.nd (qb g0 hr T.Sb T.Mb.kp T.Qb (cb (pv 0) (cb jb (cb (Kb Fb rfl T.ff Nb (cb (pv 1) fb)) fb)))))
   (db (wb (i:=4) Yc.nd (qh fb))
   (db (cf PassesOwn.never rfl (Ae rfl T.Kf (cb (Kb (cG rfl) rfl T.oO oB (cb (pv 2) (cb (Kb Fb rfl T.ff Nb (cb (pv 1) fb)) fb))) fb)) (Eb (i:=5) Yc.nd) (db (wb (i:=6) Yc.nd (Yb wc jb (qb g0 hr T.Sb T.Mb.kp T.Qb (cb (pv 0) (cb (Yb wc jb (pv 5)) (cb jb fb))))))
   (db (Dc (Gb Of (qb g0 hr T.Sb T.Mb.kp T.Qb (cb (pv 0) (cb jb (cb jb fb)))) jb (Ub _)) (lb (wb (i:=6) Yc.nd (Yb wc jb (qb g0 hr T.Sb T.Mb.kp T.Qb (cb (pv 0) (cb (Yb wc jb (pv 5)) (cb jb fb))))))) Ob)
   (lb (ke (uo PySem.F.plainAttrs_list PySem.F.slot_list_append PySem.F.type_list_append Ji (pv 4) (cb (Nc (cb (Db Qd (pv 1) (Yb wg (Yb wc (pv 3) (pv 5)) (Kb Fb rfl T.ff Nb (cb (pv 1) fb)))) (cb (pv 6) fb))) fb)))))))
   (lb (Bb (pv 4)))))))),?_⟩
 have d1:=ae ns 3 (m:=4) (by decide);have d2:=Wd ns 3 (m:=4) (by decide);refine zS (fun σ' H'=>H'=H∧∃ m:Int,(1 ≤ m∧m ≤ 4)∧σ'=[some (.ref a),some (.ref wl),some (.int m),none,none,none,none]) (fun D' hD'=>?_) fun zzM zzh=>?_
 ·walk_at "RD";exact ⟨_,_,rfl,S,by decide,by decide,_,rfl,hD' _ _ ⟨rfl,_,by omega,rfl⟩⟩
 rintro σ0 H0 ⟨rfl,m0,hm0,rfl⟩;subst zzh;refine zS (fun σ' H'=>H'=H0∧∃ m:Int,(1 ≤ m∧m ≤ 5)∧σ'=[some (.ref a),some (.ref wl),some (.int m),none,none,none,none]) (fun D' hD'=>?_) fun zzM zzh=>?_
 ·refine Ib (decide (vk ns 4 4=0)) (fun Q hQ=>?_) (fun h=>?_) (fun h=>?_)
  ·walk_at "RD";refine ⟨_,_,rfl,S,by decide,by decide,rfl,?_⟩;walk_at "RD";exact hQ
  ·walk_at "RD";exact hD' _ _ ⟨rfl,5,by decide,rfl⟩
  ·simp only [Xb];exact hD' _ _ ⟨rfl,_,by omega,rfl⟩
 rintro σ' H' ⟨rfl,m,hm,rfl⟩;subst zzh;simp only [xb];have d3:=ae ns 5 (m:=(ds.length:Int)) (by omega);have d4:=Wd ns 5 (m:=(ds.length:Int)) (by omega);have hqn:(qs.map V.ref).length=ds.length:=by rw [List.length_map,w2]
 refine zzC (fun σ' H2=>H2=H'∧σ'=[some (.ref a),some (.ref wl),some (.int m),some (.int (vk ns 5 (ds.length:Int))),none,none,none]) (fun D' hD'=>?_) fun zzM zzh=>?_
 ·walk_at "RD";refine ⟨_,.inl (SqL.of w1),?_⟩;rw [hqn];exact ⟨_,_,rfl,S,by decide,by omega,hD' _ _ ⟨rfl,rfl⟩⟩
 rintro σ1 H1 ⟨rfl,rfl⟩;subst zzh;simp only [xb];generalize hdr:vk ns 5 (ds.length:Int)=dr at d3 d4 ⊢;walk_at "RD";refine ⟨by decide,fun p hp=>?_⟩;have s1:ac H1 (upd H1 p (.lst [])):=gb hp;refine ⟨_,.inl (SqL.of (s1 _ _ w1)),?_⟩;rw [hqn];refine ⟨by split <;> omega,by split <;> omega,?_⟩;have hN1:0 < (if (ds.length:Int) < m then (ds.length:Int) else m).toNat∧(if (ds.length:Int) < m then (ds.length:Int) else m).toNat ≤ 5:=by split <;> omega
 generalize (if (ds.length:Int) < m then (ds.length:Int) else m).toNat=N at hN1 ⊢;refine Zj.range (fun i σ H2=>(∃ x y,σ=[some (V.ref a),some (V.ref wl),some (V.int m),some (V.int (dr)),some (V.ref p),x,y])∧ac H1 H2∧Sc K a ns H2∧∃ ws,so H2 p ws∧ws.length=i∧∀ x ∈ ws,x.1 ∈ ds∧1 ≤ x.2∧x.2 ≤ 60) ?_ ?_ ?_
 ·exact ⟨⟨_,_,rfl⟩,s1,S.new hp,[],⟨[],ib,rfl,fun i q p h=>by simp at h⟩,rfl,fun x h=>by simp at h⟩
 ·rintro i σ H2 hi zzq;refine zzP fun zzM zzh=>?_
  obtain ⟨⟨x,y,rfl⟩,s2,S2,ws,⟨qw,l1,l2,l3⟩,hl,hx⟩:=zzq;have e1:=ae ns (60 + i) (m:=12) (by decide);have e2:=Wd ns (60 + i) (m:=12) (by decide);have e3:=ae ns (60 + i) (m:=60) (by decide);have e4:=Wd ns (60 + i) (m:=60) (by decide);subst zzh;simp only [lf,xb,List.set_cons_succ,List.set_cons_zero];rw [Int.zero_add];refine zzC (fun σ' H3=>H3=H2∧∃ tn:Int,(1 ≤ tn∧tn ≤ 60)∧σ'=[some (V.ref a),some (V.ref wl),some (V.int m),some (V.int dr),some (V.ref p),some (V.int (i:Int)),some (V.int tn)]) (fun D' hD'=>?_) fun zzM zzh=>?_
  ·walk_at "RD";exact ⟨_,_,rfl,S2,by omega,by decide,_,rfl,hD' _ _ ⟨rfl,_,by omega,rfl⟩⟩
  rintro σ0 H0 ⟨rfl,tn0,htn0,rfl⟩;subst zzh;simp only [xb];refine zzC (fun σ' H3=>H3=H0∧∃ tn:Int,(1 ≤ tn∧tn ≤ 60)∧σ'=[some (V.ref a),some (V.ref wl),some (V.int m),some (V.int (dr)),some (V.ref p),some (V.int (i:Int)),some (V.int tn)]) (fun D' hD'=>?_) fun zzM zzh=>?_
  ·refine Ib (decide (vk ns 70 6=0)) (fun Q hQ=>?_) (fun h=>?_) (fun h=>?_)
   ·walk_at "RD";refine ⟨_,_,rfl,S2,by decide,by decide,rfl,?_⟩;walk_at "RD";exact hQ
   ·walk_at "RD";refine ⟨_,_,rfl,S2,by omega,by decide,_,rfl,?_⟩;exact hD' _ _ ⟨rfl,_,by omega,rfl⟩
   ·simp only [Xb];exact hD' _ _ ⟨rfl,_,by omega,rfl⟩
  rintro σ' H3 ⟨rfl,tn,htn,rfl⟩;have z0:=Int.emod_nonneg (dr + i) (show (ds.length:Int) ≠ 0 by omega);have z1:=Int.emod_lt_of_pos (dr + i) (show (0:Int) < ds.length by omega);obtain ⟨k,hk⟩:∃ k:Nat,(dr + i) % (ds.length:Int)=(k:Int):=⟨_,(Int.toNat_of_nonneg z0).symm⟩;have hkl:k < ds.length:=by omega
  have hdk:ds[k]? = some ds[k]:=List.getElem?_eq_getElem hkl;have hqk:qs[k]? = some (qs[k]'(by omega)):=List.getElem?_eq_getElem (by omega);have ewk:=w3 k _ _ hqk hdk;subst zzh;walk_at "RD";refine ⟨.inl ⟨_,SqL.of l1⟩,_,.inl (SqL.of (s2 _ _ w1)),by rw [hqn];omega,_,SqL.of (s2 _ _ w1),V.ref (qs[k]'(by omega)),by rw [hqn,hk];exact yb (by rw [List.getElem?_map,hqk];rfl),by decide,fun tp htp=>?_⟩;have s3:ac H3 (upd H3 tp (.tup [V.ref (qs[k]'(by omega)),V.int tn])):=gb htp;have htn':(upd H3 tp (.tup [V.ref (qs[k]'(by omega)),V.int tn])) tp=some (.tup [V.ref (qs[k]'(by omega)),V.int tn]):=ib;have S3:=S2.new (o:=.tup [V.ref (qs[k]'(by omega)),V.int tn]) htp;have hsn:=s2.trans s3;generalize upd H3 tp (.tup [V.ref (qs[k]'(by omega)),V.int tn])=H4 at s3 htn' S3 hsn ⊢;have l4:=s3 _ _ l1;refine ⟨_,l4,Nat.lt_of_le_of_lt (show (qw.map V.ref).length ≤ 5 by rw [List.length_map,l2,hl];omega) (by decide),⟨_,rfl⟩,hsn.updN hp,S3.set l4 (by intro ob z h;cases h),ws ++ [(ds[k],tn)],⟨qw ++ [tp],by rw [ib,List.map_append];rfl,by rw [List.length_append,List.length_append,l2];rfl,fun j q x h1 h2=>?_⟩,by rw [List.length_append,hl];rfl,fun x hm=>?_⟩
  ·have keep:∀ {b:Addr} {xs:List V},H4 b=some (.tup xs)→upd H4 p (.lst (qw.map V.ref ++ [V.ref tp])) b=some (.tup xs):=fun e=>by rw [Ab (Aj e l4 (by intro z;cases z))];exact e
   rcases Hg h1 with ⟨g1,g2⟩ | ⟨g1,g2⟩
   ·rcases Hg h2 with ⟨g3,g4⟩ | ⟨g3,g4⟩
    ·obtain ⟨wq,v1,v2⟩:=l3 j q x g2 g4;exact ⟨wq,keep (s3 _ _ v1),keep (s3 _ _ v2)⟩
    ·omega
   ·rcases Hg h2 with ⟨g3,g4⟩ | ⟨g3,g4⟩
    ·omega
    ·subst g2 g4;exact ⟨_,keep htn',keep (hsn _ _ ewk)⟩
  ·rcases List.mem_append.mp hm with g | g
   ·exact hx x g
   ·rw [List.mem_singleton.mp g];exact ⟨List.mem_of_getElem? hdk,htn.1,htn.2⟩
 ·rintro σ H2 zzq;refine zzP fun zzM zzh=>?_
  obtain ⟨⟨x,y,rfl⟩,s2,S2,ws,L,hl,hx⟩:=zzq;subst zzh;walk_at "RD";exact q _ _ _ s2 S2 L (by omega) hx
end
theorem aK (n:Int):Str.ofString "ring " ++ num n=Str.join bk [Str.ofString "ring",num n]:=by
 apply JF;have e1:(Str.ofString "ring ").cps.toList=[114,105,110,103,32]:=by decide +kernel
 have e2:(Str.ofString "ring").cps.toList=[114,105,110,103]:=by decide +kernel
 rw [LM,Ru];simp only [Str.cps_append,Array.toList_append,List.map_cons,List.map_nil,jl,e1,e2,List.cons_append,List.nil_append]
theorem FJ {B:Nat}:∀ {ys:List Str},(∀ y ∈ ys,y.length ≤ B)→(ys.map (·.length)).sum ≤ ys.length * B
 | [],_=>by simp
 | a :: r,h=>by
  have h1:=h a (by simp);have h2:=FJ (B:=B) (ys:=r) fun y hy=>h y (List.mem_cons_of_mem _ hy)
  rw [List.map_cons,List.sum_cons,List.length_cons,Nat.succ_mul];omega
theorem KK {n:Int} {ds:List WD} (h:COk n ds):∀ y ∈ (li n ds).map (Str.join bk),y.length ≤ 63:=fun y hy=>by
 obtain ⟨r,hr,rfl⟩:=List.mem_map.mp hy;have:=Bv bk 8 r fun x hx=>(h.plain r hr x hx).1
 rw [wA] at this;have hl:r.length ≤ 7:=by
  rcases List.mem_cons.mp hr with rfl | hr
  ·simp
  ·obtain ⟨d,hd,rfl⟩:=List.mem_map.mp hr;simp [Yi]
 omega
noncomputable def qz (K:PySem.W.Frag):Sp:=fun vs H Q _=>∃ n wl ds,vs=[.int n,.ref wl]∧LW H wl ds∧IL n ds∧(2 ≤ n∧n ≤ 99)∧(1 ≤ ds.length∧ds.length ≤ 12)∧NoT H∧Q (.str (yu n ds)) H
noncomputable def RC (K:PySem.W.Frag):Sp:=fun vs H Q _=>∃ n wl ds,vs=[.int n,.ref wl]∧LW H wl ds∧IL n ds∧(2 ≤ n∧n ≤ 99)∧(1 ≤ ds.length∧ds.length ≤ 12)∧∀ H',ac H H'→Q (.str (yu n ds)) H'
section
variable {P:Program} {w:World} {K:PySem.W.Frag} {mg:Str→Option Value} {base:Heap} {t:Adr}
theorem pI (T:Txt w K mg t):Zb P w K mg base CX0 1 t.nj t.Ij q44 (qz K):=by
 refine Zb.forget (sp:=RC K) ?_ fun vs H Q E h=>?_
 ·refine T.Bm.ok Tk (fun vs H Q E h=>?_) (fun _ _ _ s H vs Q E hr h=>?_)
  ·obtain ⟨n,wl,ds,rfl,_⟩:=h;rfl
  obtain ⟨n,wl,ds,rfl,L,D,hn,hl,q⟩:=h;refine ⟨_,(db (wb (i:=2) Tk.nd (qh (cb (Yb Sn ad (ug Xk rfl T.jL Rn (cb (pv 0) fb))) fb)))
   (db (cf PassesOwn.never rfl (Eg (pv 1)) (Eb (i:=3) Tk.nd) (lb (ke (uo PySem.F.plainAttrs_list PySem.F.slot_list_append PySem.F.type_list_append Ji (pv 2) (cb (uo PySem.F.plainAttrs_str PySem.F.slot_str_join PySem.F.type_str_join ky ad (cb (Yb rF (qh (cb (Db Vb (pv 3) jb) (cb (Db Vb (pv 3) jb) fb))) (Yf rfl (oJ (Bj yE (pv 3) (Di jb) xu)) (Ec (sc:=ub vm) rfl (by decide +kernel)) (N:=["_law_number"]) (sel:=[none]) (kd (M:=["_law_places_here","_law_ways_here","_law_rows","_law_way"]) (by decide +kernel)) (Blk.of (fun _ _ _ _=>(Eb (i:=0) (Bi (N:=["_law_number"]) (by decide +kernel) rfl))) (fun _ _ _ _=>⟨_,Kg,by walk_at "B"⟩) (fun _ _ _ _=>⟨_,(ug Xk rfl T.jL Rn (cb (pv 0) fb)),by walk_at "B"⟩)))) fb)) fb)))))
   (lb (Bb (uo PySem.F.plainAttrs_str PySem.F.slot_str_join PySem.F.type_str_join ky ad (cb (pv 2) fb)))))),?_⟩
  have hC:=D.cok hn hl;obtain ⟨qs,l1,l2,al⟩:=L;have hlen:∀ x:Str,Hy x→x.length ≤ 8:=fun x h=>h.1
  have hbig:∀ k:Nat,k ≤ 1000→k ≤ sizeLine:=fun k h=>Nat.le_trans h (by decide)
  have hr5:(Str.ofString "ring ").length=5:=by decide +kernel
  have hb1:(Str.ofString " ").length=1:=by decide +kernel
  walk_at "RD";have hn8:(Str.ofString (toString n)).length ≤ 8:=(re (v:=n) (by omega) (by omega)).1;refine ⟨lr (by omega),hbig _ (by rw [hr5];omega),by decide,fun rl hrl'=>?_⟩;rw [aK];have s0:ac H (upd H rl (.lst [V.str (Str.join bk [Str.ofString "ring",num n])])):=gb hrl';refine ⟨⟨_,SqL.of (s0 _ _ l1)⟩,?_⟩;refine Zj.list (xs:=qs.map V.ref) (fun i σ H'=>ac H H'∧H' rl=some (.lst (Lc ((li n (ds.take i)).map (Str.join bk))))∧∃ x,σ=[some (.int n),some (.ref wl),some (.ref rl),x]) ?_ ?_ ?_ ?_
  ·exact ⟨s0,ib,none,rfl⟩
  ·rintro i σ H' hi ⟨sm,_,_⟩;exact SqL.of (sm _ _ l1)
  ·rintro i v σ H' hv zzq;refine zzP fun zzM zzh=>?_
   obtain ⟨sm,hr,x,rfl⟩:=zzq;obtain ⟨q',hq,rfl⟩:=vg hv;have hid:i < ds.length:=by rw [← l2];exact (List.getElem?_eq_some_iff.mp hq).1
   have hd:ds[i]? = some ds[i]:=List.getElem?_eq_getElem hid;have hT:SqT K H' q' (Ap ds[i]):=SqT.of (sm _ _ (al i q' _ hq hd));have hw:=(D.al _ (List.mem_of_getElem? hd)).1;have b1:=hw.st;have b2:=hw.fi;have b3:=hw.of;have b4:=hw.nr;have b5:=hw.le;have z1:=hlen _ (Rt ds[i].k);have z2:=hlen _ (cu hw.nm);have z3:(num ds[i].start).length ≤ 8:=hlen _ (re (v:=ds[i].start) (by omega) (by omega));have z4:(num ds[i].fin).length ≤ 8:=hlen _ (re (v:=ds[i].fin) (by omega) (by omega));have z5:(num ds[i].off).length ≤ 8:=hlen _ (re (v:=ds[i].off) (by omega) (by omega));have z7:(num ds[i].least).length ≤ 8:=hlen _ (re (v:=ds[i].least) (by omega) (by omega));have z6:(num ds[i].near).length ≤ 8:=hlen _ (re (v:=ds[i].near) (by omega) (by omega));subst zzh;walk_at "RD";refine ⟨.inl ⟨_,SqL.of hr⟩,?_⟩;have at0:atI (Ap ds[i]) 0=some (.str (ce ds[i].k)):=yb (j:=0) rfl;have at1:atI (Ap ds[i]) 1=some (.str ds[i].name):=yb (j:=1) rfl;have hcut:uC (Ap ds[i]) (some 2) none=[.int ds[i].start,.int ds[i].fin,.int ds[i].off,.int ds[i].near,.int ds[i].least]:=rfl;refine ⟨_,hT,_,at0,_,hT,_,at1,by decide,fun p0 hp0=>?_⟩;have s1:ac H' (upd H' p0 (.lst [.str (ce ds[i].k),.str ds[i].name])):=gb hp0;have hr1:=s1 _ _ hr;have hp01:(upd H' p0 (.lst [.str (ce ds[i].k),.str ds[i].name])) p0=some (.lst [.str (ce ds[i].k),.str ds[i].name]):=ib;have sm1:=sm.trans s1;have hT1:=hT.same s1;generalize upd H' p0 (.lst [.str (ce ds[i].k),.str ds[i].name])=H1 at hr1 hp01 sm1 hT1 ⊢;refine ⟨_,hT1,(show ¬ (HT.sIx 7 0 (some 2)=0∧HT.sIx 7 7 none=7) by decide),fun p hp=>⟨⟨_,SqT.of ib⟩,?_⟩⟩;rw [hcut];refine gd.tup_zs (xs:=[.int ds[i].start,.int ds[i].fin,.int ds[i].off,.int ds[i].near,.int ds[i].least]) (zs:=Lc [num ds[i].start,num ds[i].fin,num ds[i].off,num ds[i].near,num ds[i].least]) (SqT.of ib) (hbig _ (show 5 ≤ 1000 by decide)) rfl (fun j v z N hv hz hN=>?_) (fun p2 hp2=>?_)
   ·have key:∃ a:Int,v=.int a∧z=.str (num a)∧0 ≤ a∧a < 100:=by
     match j,hv,hz with
     | 0,hv,hz=>cases hv;cases hz;exact ⟨_,rfl,rfl,b1.1,by omega⟩
     | 1,hv,hz=>cases hv;cases hz;exact ⟨_,rfl,rfl,b2.1,by omega⟩
     | 2,hv,hz=>cases hv;cases hz;exact ⟨_,rfl,rfl,b3.1,by omega⟩
     | 3,hv,hz=>cases hv;cases hz;exact ⟨_,rfl,rfl,b4.1,by omega⟩
     | 4,hv,hz=>cases hv;cases hz;exact ⟨_,rfl,rfl,by omega,by omega⟩
     | k + 5,hv,hz=>simp at hv
    obtain ⟨a,rfl,rfl,ha0,ha1⟩:=key;walk_at "RD";exact ⟨Sub.name,lr (by omega),hN⟩
   ·have s2:ac H1 (upd (upd H1 p (.tup [.int ds[i].start,.int ds[i].fin,.int ds[i].off,.int ds[i].near,.int ds[i].least])) p2 (.lst (Lc [num ds[i].start,num ds[i].fin,num ds[i].off,num ds[i].near,num ds[i].least]))):=(gb hp).trans (gb hp2);have e2:(upd (upd H1 p (.tup [.int ds[i].start,.int ds[i].fin,.int ds[i].off,.int ds[i].near,.int ds[i].least])) p2 (.lst (Lc [num ds[i].start,num ds[i].fin,num ds[i].off,num ds[i].near,num ds[i].least]))) p2=some (.lst (Lc [num ds[i].start,num ds[i].fin,num ds[i].off,num ds[i].near,num ds[i].least])):=ib;generalize upd (upd H1 p (.tup [.int ds[i].start,.int ds[i].fin,.int ds[i].off,.int ds[i].near,.int ds[i].least])) p2 (.lst (Lc [num ds[i].start,num ds[i].fin,num ds[i].off,num ds[i].near,num ds[i].least]))=H2 at s2 e2 ⊢;refine ⟨_,rfl,_,s2 _ _ hp01,_,e2,hbig _ (show 2 + 5 ≤ 1000 by decide),fun p3 hp3=>?_⟩;have hr3:(upd H2 p3 (.lst ([V.str (ce ds[i].k),V.str ds[i].name] ++ Lc [num ds[i].start,num ds[i].fin,num ds[i].off,num ds[i].near,num ds[i].least]))) rl=some (.lst (Lc ((li n (ds.take i)).map (Str.join bk)))):=by
     rw [Ab (Lb (s2 _ _ hr1) hp3)];exact s2 _ _ hr1
    refine ⟨Yi ds[i],SqL.of ib,?_,_,hr3,?_,?_,?_,_,rfl⟩
    ·rw [hb1];simp only [Yi,List.map_cons,List.map_nil,List.sum_cons,List.sum_nil,List.length_cons,List.length_nil];omega
    ·rw [Mq,List.length_map];exact Nat.lt_of_le_of_lt (show (li n (ds.take i)).length ≤ 13 by unfold li;rw [List.length_cons,List.length_map,List.length_take];omega) (by decide)
    ·exact fun b u e=>by rw [Ab (Lb e hrl')];exact (gb hp3) _ _ (s2 _ _ (sm1 _ _ e))
    ·rw [ib,show Txt.join (Str.ofString " ") (Yi ds[i])=Str.join bk (Yi ds[i]) from StrLaws.glued_eq_join _ _];congr 2;unfold li Lc;simp;rw [List.take_add_one,List.getElem?_map,hd];rfl
  ·rintro σ H' zzq;refine zzP fun zzM zzh=>?_
   obtain ⟨sm,hr,x,rfl⟩:=zzq;subst zzh;walk_at "RD";rw [List.length_map,l2,List.take_length] at hr;refine ⟨_,SqL.of hr,?_,?_⟩
   ·have h63:∀ y ∈ (li n ds).map (Str.join bk),y.length ≤ 63:=KK hC;have h13:((li n ds).map (Str.join bk)).length ≤ 13:=by
     unfold li;rw [List.length_map,List.length_cons,List.length_map];omega
    have:=FJ h63;rw [show (Str.ofString "\n").length=1 by decide +kernel];omega
   ·have:=q H' sm;unfold yu at this;rw [show Txt.join (Str.ofString "\n") ((li n ds).map (Str.join bk))=Str.join nl ((li n ds).map (Str.join bk)) from StrLaws.glued_eq_join _ _];exact this
 ·obtain ⟨n,wl,ds,h1,h2,h3,h4,h5,nt,q⟩:=h;exact ⟨nt,n,wl,ds,h1,h2,h3,h4,h5,fun H' sm=>⟨sm,q⟩⟩
end
end My
namespace My
open PySem L2
section
open PySem.Spec PyProof.Rows
variable {X:Cx}
noncomputable def WK (K:PySem.W.Frag):V→List V→Hp→VK→Prop:=fun x vs H Q=>∃ l ks k,x=.ref l∧vs=[.int k]∧SqT K H l (List.map V.int ks)∧Q (.int (ks.count k:Nat)) H
noncomputable def ZO (r:V→List V→Hp→VK→Prop) (to:TE) (t:TA):TE:=fun σ H Q=>to σ H fun x H1=>(∃ p xs,x=.ref p∧H1 p=some (.tup xs))∧t σ H1 fun xs H2=>r x xs H2 Q
theorem xN {o e:Expr} {es:List Expr} {to:TE} {t:TA} {name:Str} {apos cpos:Pos} {id:String} {r:V→List V→Hp→VK→Prop} (pa:PlainAttrs "tuple") (slot:Slot "tuple" name id) (hty:typeOf (.builtin id)=pure (.type "method_descriptor")) (hm:MtR X id r) (ho:PE X o to) (ha:PA X (e :: es) t)
  (hbase:attributeBase o name X.env (eval o X.env)=eval o X.env:=by rfl)
  (hfew:((backTo cpos (starEach (e :: es) X.env)).all (fun x=>!x.1) && (backToKw cpos (keywordEach [] X.env)).all (fun x=>x.1.isSome)
   && decide ((e :: es).length + ([]:List Keyword).length + (if ([]:List Keyword).isEmpty then 0 else 1) < 30))=true:=by rfl)
  (hline:(apos.endLine == cpos.line)=true:=by rfl) (hs:starEach (e :: es) X.env=(false,eval e X.env) :: starEach es X.env:=by rfl) (hplain:(backTo cpos (starEach es X.env)).any (·.1)=false:=by rfl) :
  PE X (.Call (.Attribute o name apos) (e :: es) [] cpos) (ZO r to t):=by
 intro pins s σ H Q I h;refine wpAny_Call_method_late hbase hfew hline rfl (thn (ho pins s σ H _ I h) fun v s1 ⟨x,H1,I1,r1,⟨p,xs,ex,ep⟩,q1⟩=>?_);subst ex;cases (show v=Value.ref p from r1);obtain ⟨⟨_,od,hd1,hd2⟩,its,_,ot,ht1,ht2,_⟩:=(show Bd X.prog X.w H1 s1.heap p (.tup xs) from I1.hok _ _ ep);refine ⟨"tuple",id,pa,slot,hty,⟨ot,ht1,ht2⟩,fun a ea=>?_,?_⟩
 ·cases ea;exact ⟨od,hd1,hd2⟩
 have hA:=ha cpos pins s1 σ H1 _ I1 q1;rw [hs] at hA ⊢;refine Calls.callWith_builtin (by show (false || (backTo cpos (starEach es X.env)).any (·.1))=false;rw [hplain] <;> rfl) (Calls.evalArgs_plain ?_);exact thn hA fun us s2 ⟨vs,H2,I2,r2,q2⟩=>hm pins s2 σ H2 (.ref p) vs _ us Q I2 r1 r2 q2
theorem jx (k:Int):∀ {its:List Value} {ns:List Int},IntsAre its ns→its.countP (isInt k)=ns.count k:=by
 intro its ns h
 induction h with
 | nil=>rfl
 | cons n t hr ih=>
  rw [List.countP_cons,List.count_cons,ih];congr 1
theorem oG:MtR X "tuple.count" (WK X.K):=by
 intro pins s σ H x xs v us Q I rx rv h;obtain ⟨l,ks,k,rfl,rfl,hq,q⟩:=h;cases (show v=Value.ref l from rx);obtain ⟨u,rfl,ru⟩:=Zn rv;obtain ⟨tu,rfl⟩:=(show ∃ t,u=Value.int k t from ru);obtain ⟨its,ri,pl,hz⟩:=I.tuple hq;have hi:=Ys ri;obtain ⟨⟨cls,dd,data,sl⟩,ho,hc,n,hd⟩:=id pl;simp only at hc hd;subst hc hd;refine call_meets PySem.F.slot_tuple_count ⟨_,ho,rfl⟩ PySem.F.entry_tuple_count (PySem.F.args_tuple_count_2 _ _) (PySem.SeqAt.tuple_countAt l its.toArray n dd sl (.int k tu) (isInt k)) ⟨ho,fun y hy=>(eq_isInt k tu hi y (by simpa using hy)).at _ _,.int _,H,I.tok _,⟨_,rfl⟩,?_⟩;rw [show its.toArray.toList=its from rfl,jx k hi];exact q
end
end My
namespace My
open PySem L2
noncomputable def AhQ (H:Hp) (qs:List Addr) (o:Od):Prop:=qs.length=o.length∧∀ (i:Nat) (q:Addr) (p:Nat × Nat),qs[i]? = some q→o[i]? = some p→H q=some (.tup [.int (p.1:Int),.int (p.2:Int)])
noncomputable def vL (H:Hp) (l:Addr) (o:Od):Prop:=∃ qs:List Addr,H l=some (.lst (qs.map V.ref))∧AhQ H qs o
theorem AhQ.same {H H':Hp} {qs:List Addr} {o:Od} (h:AhQ H qs o) (s:ac H H'):AhQ H' qs o:=⟨h.1,fun i q p h1 h2=>s _ _ (h.2 i q p h1 h2)⟩
theorem vL.same {H H':Hp} {l:Addr} {o:Od} (h:vL H l o) (s:ac H H'):vL H' l o:=by
 obtain ⟨qs,e,a⟩:=h;exact ⟨qs,s _ _ e,a.same s⟩
theorem AhQ.snoc {H:Hp} {qs:List Addr} {o:Od} {q:Addr} {i j:Nat} (h:AhQ H qs o) (e:H q=some (.tup [.int (i:Int),.int (j:Int)])):AhQ H (qs ++ [q]) (o ++ [(i,j)]):=by
 refine ⟨by rw [List.length_append,List.length_append,h.1];rfl,fun k q' p h1 h2=>?_⟩;rcases Hg h1 with ⟨g1,g2⟩ | ⟨g1,g2⟩
 ·rcases Hg h2 with ⟨g3,g4⟩ | ⟨g3,g4⟩
  ·exact h.2 k q' p g2 g4
  ·have:=h.1;omega
 ·rcases Hg h2 with ⟨g3,g4⟩ | ⟨g3,g4⟩
  ·have:=h.1;omega
  ·rw [g2,g4];exact e
theorem yM {K:PySem.W.Frag} {H:Hp} {q x:Addr} {a b i j:Int} (h1:H q=some (.tup [.int a,.int b])) (h2:H x=some (.tup [.int i,.int j])):EqH K H 8 (.ref q) (.ref x) (a == i && b == j):=by
 have:=EqH.tup (K:=K) (k:=7) (e:=fun l=>if l=0 then a == i else b == j) (SqT.of h1) (SqT.of h2) (fun l u v g1 g2=>by
  match l,g1,g2 with
  | 0,g1,g2=>cases g1;cases g2;exact EqH.flat rfl rfl
  | 1,g1,g2=>cases g1;cases g2;exact EqH.flat rfl rfl)
 have e:((List.range (min [V.int a,V.int b].length [V.int i,V.int j].length)).all (fun l=>if l=0 then a == i else b == j) && [V.int a,V.int b].length == [V.int i,V.int j].length)=(a == i && b == j):=by
  show ((List.range 2).all (fun l=>if l=0 then a == i else b == j) && true)=_;rw [Bool.and_true,show List.range 2=[0,1] from rfl];simp
 rw [e] at this;exact this
noncomputable def fAh (H:Hp) (i j:Int) (q:Addr):Bool:=match H q with
 | some (.tup [.int a,.int b])=>a == i && b == j
 | _=>false
theorem qF {H:Hp} {i j a b:Int} {q:Addr} (h:H q=some (.tup [.int a,.int b])):fAh H i j q=(a == i && b == j):=by unfold fAh;rw [h]
theorem lE {K:PySem.W.Frag} {H:Hp} {qs:List Addr} {o:Od} {x:Addr} {i j:Int} (h:AhQ H qs o) (hx:H x=some (.tup [.int i,.int j])):∀ q ∈ qs,EqH K H 8 (.ref q) (.ref x) (fAh H i j q):=fun q hq=>by
 obtain ⟨k,hk⟩:=List.getElem?_of_mem hq;have hl:k < o.length:=by rw [← h.1];exact (List.getElem?_eq_some_iff.mp hk).1
 have e:=h.2 k q _ hk (List.getElem?_eq_getElem hl);rw [qF e];exact yM e hx
theorem Rv {H:Hp} {qs:List Addr} {o:Od} (h:AhQ H qs o) (i j:Nat):qs.any (fAh H i j)=decide ((i,j) ∈ o):=by
 rw [Bool.eq_iff_iff,List.any_eq_true,decide_eq_true_eq];constructor
 ·rintro ⟨q,hq,e⟩;obtain ⟨k,hk⟩:=List.getElem?_of_mem hq;have hl:k < o.length:=by rw [← h.1];exact (List.getElem?_eq_some_iff.mp hk).1
  rw [qF (h.2 k q _ hk (List.getElem?_eq_getElem hl))] at e;simp only [Bool.and_eq_true,beq_iff_eq,Int.ofNat_inj] at e;have:o[k]=(i,j):=Prod.ext e.1 e.2;rw [← this];exact List.getElem_mem hl
 ·intro hm;obtain ⟨k,hk⟩:=List.getElem?_of_mem hm;have hl:k < qs.length:=by rw [h.1];exact (List.getElem?_eq_some_iff.mp hk).1
  refine ⟨qs[k],List.getElem_mem hl,?_⟩;rw [qF (h.2 k _ _ (List.getElem?_eq_getElem hl) hk)];simp
theorem AB (r:List Nat) (u:Nat):(r.map fun k:Nat=>(k:Int)).count (u:Int)=r.count u:=by
 induction r with
 | nil=>rfl
 | cons x r ih=>
  rw [List.map_cons,List.count_cons,List.count_cons,ih];congr 1;by_cases h:x=u
  ·subst h;simp
  ·have h2:(x:Int) ≠ (u:Int):=fun z=>h (Int.ofNat.inj z)
   rw [if_neg (by simpa using h2),if_neg (by simpa using h)]
theorem Lz (S:Sys) (z:Int) (o:Od) (r:List Nat):Fp o (Xr r 0)=true∧pwO S z o (Xr r 0)=0:=by
 cases r with
 | nil=>exact ⟨rfl,rfl⟩
 | cons x r=>exact ⟨rfl,rfl⟩
noncomputable def tJ:Sp:=fun vs H Q _=>∃ wl n ws,vs=[.ref wl,.int n]∧so H wl ws∧(∀ p ∈ ws,WOk n p.1)∧(0 < ws.length∧ws.length ≤ 6)∧NoT H∧∀ r H',ac H H'→NoT H'→vL H' r (Ts (Jb n ws))→Q (.ref r) H'
noncomputable def LJ:Sp:=fun vs H Q _=>∃ wl n z rp al ws r o,vs=[.ref wl,.int n,.int z,.ref rp,.ref al]∧so H wl ws∧(∀ p ∈ ws,WOk n p.1)∧H rp=some (.tup (Ke r))∧r.length ≤ 12∧vL H al o∧Iy (Jb n ws) o∧(Jb n ws).Ok∧(0 ≤ z∧z ≤ 100000)∧NoT H∧Q (.bl (Qf (Jb n ws) z o r)) H
section
variable {P:Program} {w:World} {K:PySem.W.Frag} {mg:Str→Option Value} {base:Heap} {t:Adr}
theorem lN (T:Txt w K mg t):Zb P w K mg base CX0 3 t.Jh t.Nh q22 tJ:=by
 have g11:Zb P w K mg base CX0 2 t.ie t.ee q12 vq:=Xu T;refine T.Fk.ok Gu (fun vs H Q E h=>?_) (fun _ _ _ s H vs Q E hr h=>?_)
 ·obtain ⟨wl,n,ws,rfl,_⟩:=h;rfl
 obtain ⟨wl,n,ws,rfl,L,hw,hl,nt,q⟩:=h;obtain ⟨xs,L1,L2'⟩:=Vv (K:=K) L;refine ⟨_,(lb (Bb (Yf rfl (Aq rfl T.Kf (cb jb (cb (Kb Fb rfl T.ff Nb (cb (pv 0) fb)) fb))) (Ec (sc:=ub Zk) rfl (by decide +kernel)) (N:=["_law_j","_law_wanted_here","_law_places_here"]) (sel:=[none,some 0,some 1]) (kd (M:=q22) (by decide +kernel)) (Blk.of (fun _ _ _ _=>(Eb (i:=0) (Bi (N:=["_law_j","_law_wanted_here","_law_places_here"]) (by decide +kernel) rfl))) (fun _ _ _ _=>⟨_,(Ho (Gb Yq (qb g11 hr T.Yg T.Xe.kp T.Ug (cb (pv 1) (cb jb (cb (pv 0) (cb (pv 2) fb))))) Rf (Ub _))),by walk_at "B"⟩) (fun _ _ _ _=>⟨_,(Nc (cb jb (cb (pv 0) fb))),by walk_at "B"⟩))))),?_⟩;walk_at "RD";refine ⟨_,.inl L1,by omega,by omega,by omega,by omega,?_⟩;rw [L2',show ((ws.length:Int) - 1).toNat=ws.length - 1 by omega];refine gd.range (fun i ys H'=>ac H H'∧NoT H'∧∃ qs:List Addr,ys=qs.map V.ref∧AhQ H' qs (Dx (Jb n ws) i)) (Nat.le_trans (show ws.length - 1 ≤ 6 by omega) (by decide)) ⟨ac.refl _,nt,[],rfl,rfl,fun i q p h=>by simp at h⟩ (fun i ys H' hi ⟨_,_,qs,e,a⟩=>by rw [e,List.length_map,a.1];exact xz i) ?_ ?_
 ·rintro i ys H1 hi ⟨s1,n1,qs,rfl,a1⟩ N hN;walk_at "RD";refine ⟨Sub.name,wl,0,i + 1,n,ws,by rw [show (1:Int) + (i:Int)=((i + 1:Nat):Int) by omega];rfl,Oe L s1,hw,by omega,by omega,n1,?_⟩;have eo:Dx (Jb n ws) (i + 1)=Dx (Jb n ws) i ++ (if (Jb n ws).e 0 (i + 1) then [(0,i + 1)] else []):=rfl;unfold UH;cases he:(Jb n ws).e 0 (i + 1) with
  | true=>
   rw [if_pos rfl];dsimp only;rw [if_pos (by rfl)];refine ⟨by decide,fun p hp=>hN _ _ ⟨s1.trans (gb hp),n1.upd,qs ++ [p],by rw [List.map_append];rfl,?_⟩⟩;rw [eo,he,if_pos rfl];refine (a1.same (gb hp)).snoc ?_;rw [ib,show (1:Int) + (i:Int)=((i + 1:Nat):Int) by omega];rfl
  | false=>
   rw [if_neg Bool.false_ne_true];dsimp only;rw [if_neg (by simp)];refine hN _ _ ⟨s1,n1,qs,rfl,?_⟩;rw [eo,he,if_neg Bool.false_ne_true,List.append_nil];exact a1
 ·rintro ys H1 ⟨s1,n1,qs,rfl,a1⟩ p hp;exact q p _ (s1.trans (gb hp)) n1.upd ⟨qs,ib,a1.same (gb hp)⟩
theorem EN (T:Txt w K mg t):Zb P w K mg base CX0 3 t.Zd t.Xd q30 LJ:=by
 have g11:Zb P w K mg base CX0 2 t.ie t.ee q12 vq:=Xu T;have key:Zb P w K mg base CX0 3 t.Zd t.Xd q30 (fun vs H Q _=>∃ wl n z rp al ws r o,vs=[.ref wl,.int n,.int z,.ref rp,.ref al]∧so H wl ws∧(∀ p ∈ ws,WOk n p.1)∧H rp=some (.tup (Ke r))∧r.length ≤ 12∧vL H al o∧Iy (Jb n ws) o∧(Jb n ws).Ok∧(0 ≤ z∧z ≤ 100000)∧NoT H∧∀ H',ac H H'→Q (.bl (Qf (Jb n ws) z o r)) H'):=by
  refine T.Zf.ok vc (fun vs H Q E h=>?_) (fun _ _ _ s H vs Q E hr h=>?_)
  ·obtain ⟨wl,n,z,rp,al,ws,r,o,rfl,_⟩:=h;rfl
  obtain ⟨wl,n,z,rp,al,ws,r,o,rfl,L,hw,hrp,hlen,A1,od,ok,hz,nt,q⟩:=h;have hU:=hr.units;refine ⟨_,(db (wb (i:=5) vc.nd jb)
   (db (wb (i:=6) vc.nd jb)
   (db (cf PassesOwn.never rfl (Ae rfl T.Kf (cb (Kb Fb rfl T.ff Nb (cb (pv 3) fb)) fb)) (Eb (i:=7) vc.nd) (db (wb (i:=8) vc.nd (Db Vb (pv 3) (pv 7)))
   (db (wb (i:=9) vc.nd (Db Vb (pv 3) (Yb wg (Yb wc (pv 7) jb) (Kb Fb rfl T.ff Nb (cb (pv 3) fb)))))
   (db (Dc (PW.pt (Zg (Gb Jp (xN PySem.F.plainAttrs_tuple PySem.F.slot_tuple_count PySem.F.type_tuple_count oG (pv 3) (cb (pv 8) fb)) jb (Ub _)) (Zg (Gb Sm (Kb Fb rfl T.ff Nb (cb (pv 3) fb)) jb (Ub _)) (Bg (PW.pt (Kz (Gb (Yw hU) (Nc (cb (pv 8) (cb (pv 9) fb))) (pv 4) (by with_unfolding_all rfl)) (Ku (Gb (Yw hU) (Nc (cb (pv 9) (cb (pv 8) fb))) (pv 4) (by with_unfolding_all rfl))))))))) (lb (Bb Xf)) Ob)
   (db (wb (i:=5) vc.nd (Yb wc (pv 5) (qb g11 hr T.Yg T.Xe.kp T.Ug (cb (pv 0) (cb (pv 8) (cb (pv 9) (cb (pv 1) fb)))))))
   (lb (Dc (Gb (mG hU) (Nc (cb (pv 9) (cb (pv 8) fb))) (pv 4) (by with_unfolding_all rfl)) (lb (wb (i:=6) vc.nd (Yb wc (pv 6) jb))) Ob)))))))
   (lb (Bb (Om (ld Jp (Kb Fb rfl T.ff Nb (cb (pv 3) fb)) jb (Ub _)) (fm (ld Jp (pv 5) (Yb ph (pv 2) (pv 6)) (Ub _))))))))),?_⟩
  have hrl:(Ke r).length=r.length:=Fc r;simp only [xb];walk_at "RD";refine ⟨_,.inr (SqT.of hrp),by omega,by rw [hrl];omega,?_⟩;rw [hrl,show ((r.length:Nat):Int).toNat=r.length by rfl];refine Zj.range (fun k σ H'=>ac H H'∧NoT H'∧(∀ (i x:Nat),i < k→r[i]? = some x→r.count x ≤ 1)∧(0 < k→2 ≤ r.length)∧Fp o (Xr r k)=true∧∃ Tt R:Int,Tt - z * R=pwO (Jb n ws) z o (Xr r k)∧∃ x1 x2 x3,σ=[some (.ref wl),some (.int n),some (.int z),some (.ref rp),some (.ref al),some (.int Tt),some (.int R),x1,x2,x3]) ⟨ac.refl _,nt,fun i x hi=>absurd hi (Nat.not_lt_zero _),fun h=>absurd h (Nat.not_lt_zero _),(Lz (Jb n ws) z o r).1,0,0,by rw [(Lz (Jb n ws) z o r).2];omega,_,_,_,rfl⟩ ?_ ?_
  ·rintro k σ H1 hk zzq;refine zzP fun zzM zzh=>?_
   obtain ⟨s1,n1,hcnt,h2,al1,Tt,R,hTR,x1,x2,x3,rfl⟩:=zzq;have hrk:r[k]? = some r[k]:=List.getElem?_eq_getElem hk;obtain ⟨pr,ep1,ep2⟩:=Kv hrk;subst zzh;generalize r[k]=u at hrk ep1 ep2;have eA:Fp o (Xr r (k + 1))=inO o u (px r k):=by rw [ep2,Gy,← ep1,al1];simp [Fp]
   have eP:pwO (Jb n ws) z o (Xr r (k + 1))=pwO (Jb n ws) z o (Xr r k) + wtO (Jb n ws) z o u (px r k):=by rw [ep2,Fi,← ep1];simp [pwO]
   have hm:(k + 1) % r.length < r.length:=Nat.mod_lt _ (by omega);have rp1:=s1 _ _ hrp;simp only [lf,xb,List.set_cons_succ,List.set_cons_zero];rw [Int.zero_add];refine zzC (fun σ' H'=>H'=H1∧σ'=[some (.ref wl),some (.int n),some (.int z),some (.ref rp),some (.ref al),some (.int Tt),some (.int R),some (.int (k:Int)),some (.int (u:Int)),x3]) (fun D' hD=>?_) fun zzM zzh=>?_
   ·walk_at "RD";exact ⟨_,SqT.of rp1,_,yb (by unfold Ke;rw [List.getElem?_map,hrk];rfl),hD _ _ ⟨rfl,rfl⟩⟩
   rintro σ2 H2 ⟨rfl,rfl⟩;subst zzh;simp only [xb];refine zzC (fun σ' H'=>H'=H2∧σ'=[some (.ref wl),some (.int n),some (.int z),some (.ref rp),some (.ref al),some (.int Tt),some (.int R),some (.int (k:Int)),some (.int (u:Int)),some (.int (px r k:Nat))]) (fun D' hD=>?_) fun zzM zzh=>?_
   ·walk_at "RD";refine ⟨_,.inr (SqT.of rp1),by rw [Fc];omega,_,SqT.of rp1,V.int (px r k:Nat),?_,hD _ _ ⟨rfl,rfl⟩⟩;rw [Fc,show ((k:Int) + 1) % (r.length:Int)=(((k + 1) % r.length:Nat):Int) by rw [Int.natCast_emod];rfl];refine yb ?_;unfold Ke px;rw [List.getElem?_map,List.getElem?_eq_getElem hm];rfl
   rintro σ3 H3 ⟨rfl,rfl⟩;subst zzh;generalize px r k=v at eA eP ⊢;simp only [xb];obtain ⟨qs,a1,a2⟩:=A1.same s1;refine og (fun b H'=>ac H3 H'∧NoT H'∧b = !(decide (r.count u ≤ 1) && decide (2 ≤ r.length) && inO o u v)) (fun Q hQ=>?_) (fun H4 zz=>?_) (fun H4 zz=>?_)
   ·(walk_at "RD"; repeat (dsimp only [ZO];walk_at "RD"));refine ⟨⟨_,rp1⟩,rp,r.map (fun k:Nat=>(k:Int)),(u:Int),rfl,rfl,SqT.of (by rw [← bu];exact rp1),?_⟩;rw [AB];refine ⟨_,rfl,?_⟩;by_cases c1:r.count u ≤ 1
    ·rw [if_neg (by rw [decide_eq_true_eq];omega)];refine ⟨_,.inr (SqT.of rp1),?_⟩;rw [Fc];by_cases c2:2 ≤ r.length
     ·rw [if_neg (by rw [decide_eq_true_eq];omega)];refine ⟨by decide,fun p1 hp1=>⟨qs,SqL.of (gb hp1 _ _ a1),_,lE (a2.same (gb hp1)) ib,?_⟩⟩;rw [Rv (a2.same (gb hp1))];by_cases c3:(u,v) ∈ o
      ·rw [decide_eq_true c3,if_neg (by decide)];refine hQ _ _ ⟨gb hp1,n1.upd,?_⟩;rw [decide_eq_true c1,decide_eq_true c2];unfold inO;rw [decide_eq_true c3];rfl
      ·rw [decide_eq_false c3,if_pos (by decide)];refine ⟨by decide,fun p2 hp2=>⟨qs,SqL.of (gb hp2 _ _ (gb hp1 _ _ a1)),_,lE ((a2.same (gb hp1)).same (gb hp2)) ib,?_⟩⟩;rw [Rv ((a2.same (gb hp1)).same (gb hp2))];refine hQ _ _ ⟨(gb hp1).trans (gb hp2),(n1.upd).upd,?_⟩;rw [decide_eq_true c1,decide_eq_true c2];unfold inO;rw [decide_eq_false c3];rfl
     ·rw [if_pos (by rw [decide_eq_true_eq];omega)];refine hQ _ _ ⟨ac.refl _,n1,?_⟩;rw [decide_eq_false c2,Bool.and_false];rfl
    ·rw [if_pos (by rw [decide_eq_true_eq];omega)];refine hQ _ _ ⟨ac.refl _,n1,?_⟩;rw [decide_eq_false c1];rfl
   ·obtain ⟨s4,n4,zb⟩:=zz;walk_at "RD";have:=q H4 (s1.trans s4);have hb:(decide (r.count u ≤ 1) && decide (2 ≤ r.length) && inO o u v)=false:=by rw [← Bool.not_not (decide (r.count u ≤ 1) && _ && _),← zb];rfl
    rw [show Qf (Jb n ws) z o r=false by
     unfold Qf;by_cases c1:r.Nodup
     ·by_cases c2:2 ≤ r.length
      ·have c3:inO o u v=false:=by
        rw [decide_eq_true (List.nodup_iff_count.mp c1 u),decide_eq_true c2] at hb;exact hb
       rw [Uy o (i:=k + 1) (by omega) (by rw [eA];exact c3),Bool.and_false,Bool.false_and]
      ·rw [decide_eq_false c2];rfl
     ·rw [decide_eq_false c1,Bool.and_false];rfl] at this
    exact this
   obtain ⟨s4,n4,zb⟩:=zz;have hb:(decide (r.count u ≤ 1) && decide (2 ≤ r.length) && inO o u v)=true:=by rw [← Bool.not_not (decide (r.count u ≤ 1) && _ && _),← zb];rfl
   simp only [Bool.and_eq_true,decide_eq_true_eq] at hb;obtain ⟨⟨b1,b2⟩,b3⟩:=hb;have he:=od.in_e ok b3;have s14:=s1.trans s4;have hbeh:UH (Jb n ws) u v=.int ((Jb n ws).st u v):=by unfold UH;rw [he];rfl
   simp only [Xb,xb];refine zzC (fun σ' H'=>H'=H4∧σ'=[some (.ref wl),some (.int n),some (.int z),some (.ref rp),some (.ref al),some (.int (Tt + (Jb n ws).st u v)),some (.int R),some (.int (k:Int)),some (.int (u:Int)),some (.int (v:Int))]) (fun D' hD=>?_) fun zzM zzh=>?_
   ·walk_at "RD";refine ⟨wl,u,v,n,ws,rfl,Oe L s14,hw,(ok.lt he).1,(ok.lt he).2.1,n4,?_⟩;rw [hbeh];exact ⟨_,rfl,hD _ _ ⟨rfl,rfl⟩⟩
   rintro σ5 H5 ⟨rfl,rfl⟩;subst zzh;dsimp only;have fin:∀ (H':Hp) (R':Int),ac H5 H'→NoT H'→z * R'=z * R + (if (v,u) ∈ o then z else 0)→(fun k σ H'=>ac H H'∧NoT H'∧(∀ (i x:Nat),i < k→r[i]? = some x→r.count x ≤ 1)∧(0 < k→2 ≤ r.length)∧Fp o (Xr r k)=true∧∃ Tt R:Int,Tt - z * R=pwO (Jb n ws) z o (Xr r k)∧∃ x1 x2 x3,σ=[some (V.ref wl),some (.int n),some (.int z),some (.ref rp),some (.ref al),some (.int Tt),some (.int R),x1,x2,x3]) (k + 1) [some (.ref wl),some (.int n),some (.int z),some (.ref rp),some (.ref al),some (.int (Tt + (Jb n ws).st u v)),some (.int R'),some (.int (k:Int)),some (.int (u:Int)),some (.int (v:Int))] H':=fun H' R' s6 n6 hR=>by
    refine ⟨s14.trans s6,n6,fun i x hi hx=>?_,fun _=>b2,by rw [eA];exact b3,_,_,?_,_,_,_,rfl⟩
    ·rcases Nat.lt_or_ge i k with y | y
     ·exact hcnt i x y hx
     ·have:i=k:=by omega
      subst this;rw [hrk] at hx;cases hx;exact b1
    ·rw [eP,hR,← hTR];unfold wtO;split <;> omega
   obtain ⟨qs5,a51,a52⟩:=A1.same s14;refine og (fun b H'=>ac H5 H'∧NoT H'∧b=decide ((v,u) ∈ o)) (fun Q hQ=>?_) (fun H6 zz=>?_) (fun H6 zz=>?_)
   ·walk_at "RD";refine ⟨by decide,fun p1 hp1=>⟨qs5,SqL.of (gb hp1 _ _ a51),_,lE (a52.same (gb hp1)) ib,?_⟩⟩;rw [Rv (a52.same (gb hp1))];exact hQ _ _ ⟨gb hp1,n4.upd,rfl⟩
   ·obtain ⟨s6,n6,zb⟩:=zz;have hm:=of_decide_eq_true zb.symm;refine CF (.int (R + 1)) (fun Q hQ=>?_) ?_
    ·walk_at "RD";exact hQ
    ·simp only [lf,List.set_cons_succ,List.set_cons_zero];exact fin H6 (R + 1) s6 n6 (by rw [if_pos hm,Int.mul_add];omega)
   ·obtain ⟨s6,n6,zb⟩:=zz;have hm:=of_decide_eq_false zb.symm;simp only [Xb];exact fin H6 R s6 n6 (by rw [if_neg hm];omega)
  ·rintro σ H1 zzq;refine zzP fun zzM zzh=>?_
   obtain ⟨s1,n1,hcnt,h2,al1,Tt,R,hTR,x1,x2,x3,rfl⟩:=zzq;subst zzh;walk_at "RD";refine ⟨_,.inr (SqT.of (s1 _ _ hrp)),?_⟩;rw [Fc];have:=q H1 s1;by_cases c:1 < r.length
   ·rw [if_pos (by rw [decide_eq_true_eq];omega)];refine ⟨.inl (by omega),?_⟩;have hnd:r.Nodup:=List.nodup_iff_count.mpr fun x=>by
     by_cases hx:x ∈ r
     ·obtain ⟨i,hi⟩:=List.getElem?_of_mem hx;exact hcnt i x (List.getElem?_eq_some_iff.mp hi).1 hi
     ·rw [List.count_eq_zero_of_not_mem hx];exact Nat.zero_le _
    have hne:r ≠ []:=fun z=>by rw [z] at c;simp at c
    rw [Ju hne] at al1 hTR;rw [show Qf (Jb n ws) z o r=decide (z * R < Tt) by
     unfold Qf;rw [decide_eq_true (show 2 ≤ r.length by omega),decide_eq_true hnd,al1];show decide (0 < pwO (Jb n ws) z o (r ++ r.take 1))=_;rw [← hTR,decide_eq_decide]
     omega] at this
    exact this
   ·rw [if_neg (by rw [decide_eq_true_eq];omega)];rw [show Qf (Jb n ws) z o r=false by unfold Qf;rw [decide_eq_false (show ¬ 2 ≤ r.length by omega)];rfl] at this;exact this
 exact key.forget fun vs H Q E h=>by
  obtain ⟨wl,n,z,rp,al,ws,r,o,e,L,hw,hrp,hlen,A1,od,ok,hz,nt,q⟩:=h;exact ⟨nt,wl,n,z,rp,al,ws,r,o,e,L,hw,hrp,hlen,A1,od,ok,hz,nt,fun H' sm=>⟨sm,q⟩⟩
end
end My
namespace My
open PySem L2
noncomputable def jz:Pap→Prop
 | .alone _=>True
 | .ring r=>r.length ≤ 12
 | .case _ _ p q=>jz p∧jz q
theorem Uq {S:Sys} {z:Int} (hm:S.m ≤ 6):∀ (p:Pap) (d:Nat) (o:Od),uv S.m d p→Cg S z o p=true→jz p:=by
 intro p
 induction p with
 | alone k=>intro _ _ _ _;trivial
 | ring r=>
  intro d o hf hb;have hf':∀ k ∈ r,k < S.m:=by cases d <;> exact hf
  have hb':Qf S z o r=true:=hb;unfold Qf at hb';simp only [Bool.and_eq_true,decide_eq_true_eq] at hb';have:=EA hb'.1.1.2 hf';show r.length ≤ 12;omega
 | case i j p q ihp ihq=>
  intro d o hf hb;cases d with
  | zero=>exact hf.elim
  | succ d=>
   obtain ⟨_,_,h1,h2⟩:=hf;have hb':(S.e i j && !inO o i j && Cg S z (o ++ [(i,j)]) p && Cg S z (o ++ [(j,i)]) q)=true:=hb;simp only [Bool.and_eq_true] at hb';exact ⟨ihp d _ h1 hb'.1.2,ihq d _ h2 hb'.2⟩
noncomputable def KA (d:Nat):Sp:=fun vs H Q _=>∃ wl n z pa al ws p o,vs=[.ref wl,.int n,.int z,.ref pa,.ref al]∧so H wl ws∧(∀ p ∈ ws,WOk n p.1)∧ws.length ≤ 6∧Ms H p pa∧uv ws.length d p∧Cg (Jb n ws) z o p=true∧vL H al o∧Iy (Jb n ws) o∧(Jb n ws).Ok∧(0 ≤ z∧z ≤ 100000)∧NoT H∧∀ H',ac H H'→NoT H'→Q (.bl true) H'
noncomputable def cK:Nat→Sp
 | 0=>fun _ _ _ _=>False
 | d + 1=>KA d
noncomputable def CI:Sp:=fun vs H Q _=>∃ (bl:Addr) (m:Nat) (z:Int) (bs:List Int),vs=[.ref bl,.int (m:Int),.int z]∧H bl=some (.lst (bs.map V.int))∧bs.length=m∧(∀ b ∈ bs,0 ≤ b∧b < z)∧Q (.bl true) H
noncomputable def II:Sp:=fun vs H Q _=>∃ k m:Nat,vs=[.int (k:Int),.int (m:Int)]∧k < m∧Q (.bl true) H
noncomputable def Tz (d:Nat):Sp:=fun vs H Q _=>∃ (pa:Addr) (m e:Nat) (p:Pap),vs=[.ref pa,.int (m:Int),.int (e:Int)]∧Ms H p pa∧uv m d p∧jz p∧e + d ≤ 10∧NoT H∧∀ H',ac H H'→NoT H'→Q (.bl true) H'
noncomputable def pL:Nat→Sp
 | 0=>fun _ _ _ _=>False
 | d + 1=>Tz d
section
variable {P:Program} {w:World} {K:PySem.W.Frag} {mg:Str→Option Value} {base:Heap} {t:Adr}
theorem tM (T:Txt w K mg t):Zb P w K mg base CX0 1 t.eg t.kg q16 II:=by
 refine T.ve.ok Vq (fun vs H Q E h=>?_) (fun _ _ _ s H vs Q E hr h=>?_)
 ·obtain ⟨k,m,rfl,_⟩:=h;rfl
 obtain ⟨k,m,rfl,hk,q⟩:=h;refine ⟨_,(lb (Bb (Om (Kb ag rfl T.Zc jc (cb (pv 0) (cb (Ci (v:=.ty "int") rfl T.yH Il rfl) fb))) (Om (ON (Kb ag rfl T.Zc jc (cb (pv 0) (cb (Ci (v:=.ty "bool") rfl T.MC Cm rfl) fb)))) (fm (ZG LO Sm jb (pv 0) (pv 1))))))),?_⟩;walk_at "RD";refine ⟨_,.int _,true,rfl,?_⟩;rw [if_pos rfl];refine ⟨_,.int _,false,rfl,?_⟩;rw [if_pos (by decide),if_pos (decide_eq_true (by omega)),decide_eq_true (show (k:Int) < (m:Int) by omega)];exact q
theorem aA (T:Txt w K mg t) (d:Nat) (g15:Zb P w K mg base CX0 (d + 3) t.sf t.qf q23 (cK d)):Zb P w K mg base CX0 (d + 4) t.sf t.qf q23 (KA d):=by
 have g24:Zb P w K mg base CX0 (d + 3) t.xg t.Ag q21 (Au K):=(ZA T).mono (by omega);have g11:Zb P w K mg base CX0 (d + 3) t.ie t.ee q12 vq:=(Xu T).mono (by omega);have g59:Zb P w K mg base CX0 (d + 3) t.Zd t.Xd q30 LJ:=(EN T).mono (by omega);refine T.rf.ok Tg (fun vs H Q E h=>?_) (fun _ _ _ s H vs Q E hr h=>?_)
 ·obtain ⟨wl,n,z,pa,al,ws,p,o,rfl,_⟩:=h;rfl
 obtain ⟨wl,n,z,pa,al,ws,p,o,rfl,L,hw,hws,hP,hF,hB,A1,od,ok,hz,nt,q⟩:=h;have hU:=hr.units;have hm:(Jb n ws).m ≤ 6:=hws;have hsh:=Uq hm p d o hF hB;refine ⟨_,(db (Dc (Gb Of (Db Vb (pv 3) jb) ad (Ub _)) (lb (Bb (ld Jp (qb g24 hr T.Zo T.Mh.kp T.Uo (cb (Db Vb (Db Qd (pv 0) (Db Vb (pv 3) jb)) jb) (cb (Db Vb (Db Qd (pv 0) (Db Vb (pv 3) jb)) jb) fb))) (pv 2) (Ub _)))) Ob)
   (db (Dc (Gb Of (Db Vb (pv 3) jb) ad (Ub _)) (lb (Bb (qb g59 hr T.Co T.Zf.kp T.Eo (cb (pv 0) (cb (pv 1) (cb (pv 2) (cb (Db Vb (pv 3) jb) (cb (pv 4) fb)))))))) Ob)
   (db (wb (i:=5) Tg.nd (Db Vb (pv 3) jb))
   (db (wb (i:=6) Tg.nd (Db Vb (pv 3) jb))
   (db (Dc (PW.pt (Zg (Gb hG (qb g11 hr T.Yg T.Xe.kp T.Ug (cb (pv 0) (cb (pv 5) (cb (pv 6) (cb (pv 1) fb))))) Rf (Ub _)) (Zg (Gb (mG hU) (Nc (cb (pv 5) (cb (pv 6) fb))) (pv 4) (by with_unfolding_all rfl)) (Bg (Gb (mG hU) (Nc (cb (pv 6) (cb (pv 5) fb))) (pv 4) (by with_unfolding_all rfl)))))) (lb (Bb Xf)) Ob)
   (db (Dc (af (pe (qb g15 hr T.Jk T.rf.kp T.Ak (cb (pv 0) (cb (pv 1) (cb (pv 2) (cb (Db Vb (pv 3) jb) (cb (Yb rF (pv 4) (qh (cb (Nc (cb (pv 5) (cb (pv 6) fb))) fb))) fb)))))))) (lb (Bb Xf)) Ob)
   (lb (Bb (qb g15 hr T.Jk T.rf.kp T.Ak (cb (pv 0) (cb (pv 1) (cb (pv 2) (cb (Db Vb (pv 3) jb) (cb (Yb rF (pv 4) (qh (cb (Nc (cb (pv 6) (cb (pv 5) fb))) fb))) fb)))))))))))))),?_⟩
 simp only [xb];cases p with
 | alone k=>
  have hk:k < ws.length:=by cases d <;> exact hF
  have hwk:ws[k]? = some ws[k]:=List.getElem?_eq_getElem hk;obtain ⟨xs,qk,wq,L1,ak,e1,e2⟩:=Up (K:=K) L hwk;have hB':z < Qc ws[k]:=by rw [← LC (n:=n) hwk];exact of_decide_eq_true hB
  refine Ib true (fun Q hQ=>?_) (fun _=>?_) (fun z=>nomatch z)
  ·walk_at "RD";exact ⟨_,SqT.of hP,_,yb (j:=0) rfl,rfl,by rw [decide_eq_true rfl];exact hQ⟩
  ·walk_at "RD";refine ⟨_,SqT.of hP,_,yb (j:=1) rfl,xs,_,rfl,L1,_,ak,_,rfl,_,e1,_,yb (j:=0) rfl,_,SqT.of hP,_,yb (j:=1) rfl,xs,_,rfl,L1,_,ak,_,rfl,_,e1,_,yb (j:=1) rfl,wq,ws[k].1,_,rfl,e2,(hw _ (List.mem_of_getElem? hwk)).k,_,rfl,?_⟩;rw [decide_eq_true hB'];exact q _ (ac.refl _) nt
 | ring r=>
  obtain ⟨b,h1,h2⟩:=hP;refine Ib false (fun Q hQ=>?_) (fun z=>nomatch z) (fun _=>?_)
  ·walk_at "RD";exact ⟨_,SqT.of h1,_,yb (j:=0) rfl,rfl,by rw [show decide (V.str (Str.ofString "ring")=V.str (Str.ofString "alone"))=false by decide +kernel];exact hQ⟩
  simp only [Xb,xb];refine Ib true (fun Q hQ=>?_) (fun _=>?_) (fun z=>nomatch z)
  ·walk_at "RD";exact ⟨_,SqT.of h1,_,yb (j:=0) rfl,rfl,by rw [decide_eq_true rfl];exact hQ⟩
  ·walk_at "RD";refine ⟨_,SqT.of h1,_,yb (j:=1) rfl,wl,n,z,b,al,ws,r,o,rfl,L,hw,h2,hsh,A1,od,ok,hz,nt,?_⟩;rw [show Qf (Jb n ws) z o r=true from hB];exact q _ (ac.refl _) nt
 | case i j p1 p2=>
  obtain ⟨b,c,h1,h2,h3⟩:=hP;obtain ⟨d',rfl⟩:∃ d',d=d' + 1:=by
   cases d with
   | zero=>exact hF.elim
   | succ d=>exact ⟨d,rfl⟩
  obtain ⟨f1,f2,f3,f4⟩:=hF;have hB':((Jb n ws).e i j && !inO o i j && Cg (Jb n ws) z (o ++ [(i,j)]) p1 && Cg (Jb n ws) z (o ++ [(j,i)]) p2)=true:=hB;simp only [Bool.and_eq_true,Bool.not_eq_true'] at hB';obtain ⟨⟨⟨g1,g2⟩,g3⟩,g4⟩:=hB';have g2':=g2;unfold inO at g2';rw [Bool.or_eq_false_iff] at g2';have hbeh:UH (Jb n ws) i j=.int ((Jb n ws).st i j):=by unfold UH;rw [g1];rfl
  refine Ib false (fun Q hQ=>?_) (fun z=>nomatch z) (fun _=>?_)
  ·walk_at "RD";exact ⟨_,SqT.of h1,_,yb (j:=0) rfl,rfl,by rw [show decide (V.str (Str.ofString "case")=V.str (Str.ofString "alone"))=false by decide +kernel];exact hQ⟩
  simp only [Xb,xb];refine Ib false (fun Q hQ=>?_) (fun z=>nomatch z) (fun _=>?_)
  ·walk_at "RD";exact ⟨_,SqT.of h1,_,yb (j:=0) rfl,rfl,by rw [show decide (V.str (Str.ofString "case")=V.str (Str.ofString "ring"))=false by decide +kernel];exact hQ⟩
  simp only [Xb,xb];refine zzC (fun σ' H'=>H'=H∧σ'=[some (.ref wl),some (.int n),some (.int z),some (.ref pa),some (.ref al),some (.int (i:Int)),none]) (fun D' hD=>?_) fun zzM zzh=>?_
  ·walk_at "RD";exact ⟨_,SqT.of h1,_,yb (j:=1) rfl,hD _ _ ⟨rfl,rfl⟩⟩
  rintro σ1 H1 ⟨rfl,rfl⟩;subst zzh;simp only [xb];refine zzC (fun σ' H'=>H'=H1∧σ'=[some (.ref wl),some (.int n),some (.int z),some (.ref pa),some (.ref al),some (.int (i:Int)),some (.int (j:Int))]) (fun D' hD=>?_) fun zzM zzh=>?_
  ·walk_at "RD";exact ⟨_,SqT.of h1,_,yb (j:=2) rfl,hD _ _ ⟨rfl,rfl⟩⟩
  rintro σ2 H2 ⟨rfl,rfl⟩;obtain ⟨qs,a1,a2⟩:=id A1;subst zzh;simp only [xb];refine og (fun b H'=>b=false∧ac H2 H'∧NoT H') (fun Q hQ=>?_) (fun H' z=>nomatch z.1) (fun H3 zz=>?_)
  ·walk_at "RD";refine ⟨wl,i,j,n,ws,rfl,L,hw,f1,f2,nt,?_⟩;rw [hbeh];dsimp only;rw [if_neg (by simp)];refine ⟨by decide,fun p1 hp1=>⟨qs,SqL.of (gb hp1 _ _ a1),_,lE (a2.same (gb hp1)) ib,?_⟩⟩;rw [Rv (a2.same (gb hp1)),g2'.1,if_neg Bool.false_ne_true];refine ⟨by decide,fun p2 hp2=>⟨qs,SqL.of (gb hp2 _ _ (gb hp1 _ _ a1)),_,lE ((a2.same (gb hp1)).same (gb hp2)) ib,?_⟩⟩;rw [Rv ((a2.same (gb hp1)).same (gb hp2)),g2'.2];exact hQ _ _ ⟨rfl,(gb hp1).trans (gb hp2),(nt.upd).upd⟩
  obtain ⟨_,s3,n3⟩:=zz;have hql:qs.length ≤ 36:=by rw [a2.1];exact od.len ok hm
  have hlen:∀ p:Addr,(qs.map V.ref).length + [V.ref p].length ≤ sizeLine:=fun p=>Nat.le_trans (show _ ≤ 37 by rw [List.length_map];simp;omega) (by decide)
  simp only [Xb,xb];refine og (fun b H'=>b=false∧ac H2 H'∧NoT H') (fun Q hQ=>?_) (fun H' z=>nomatch z.1) (fun H4 zz=>?_)
  ·walk_at "RD";refine ⟨_,SqT.of (s3 _ _ h1),_,yb (j:=3) rfl,by decide,fun u1 hu1=>⟨by decide,fun u2 hu2=>?_⟩⟩;have t1:=gb (o:=.tup [.int (i:Int),.int (j:Int)]) hu1;have t2:=gb (o:=.lst [.ref u1]) hu2;refine ⟨_,(t1.trans t2) _ _ (s3 _ _ a1),_,ib,hlen u1,fun u3 hu3=>?_⟩;have t3:=gb (o:=.lst (qs.map V.ref ++ [V.ref u1])) hu3;have t13:=(s3.trans t1).trans (t2.trans t3);refine ⟨wl,n,z,b,u3,ws,_,o ++ [(i,j)],rfl,Oe L t13,hw,hws,h2.same t13,f3,g3,⟨qs ++ [u1],by rw [ib,List.map_append];rfl,(a2.same t13).snoc ((t2.trans t3) _ _ ib)⟩,od.put ok g1 g2,ok,hz,((n3.upd).upd).upd,fun H' s' n'=>⟨_,rfl,hQ _ _ ⟨rfl,t13.trans s',n'⟩⟩⟩
  obtain ⟨_,s4,n4⟩:=zz;simp only [Xb];walk_at "RD"
  ·refine ⟨_,SqT.of (s4 _ _ h1),_,yb (j:=4) rfl,by decide,fun u1 hu1=>⟨by decide,fun u2 hu2=>?_⟩⟩;have t1:=gb (o:=.tup [.int (j:Int),.int (i:Int)]) hu1;have t2:=gb (o:=.lst [.ref u1]) hu2;refine ⟨_,(t1.trans t2) _ _ (s4 _ _ a1),_,ib,hlen u1,fun u3 hu3=>?_⟩;have t3:=gb (o:=.lst (qs.map V.ref ++ [V.ref u1])) hu3;have t13:=(s4.trans t1).trans (t2.trans t3);refine ⟨wl,n,z,c,u3,ws,_,o ++ [(j,i)],rfl,Oe L t13,hw,hws,h3.same t13,f4,g4,⟨qs ++ [u1],by rw [ib,List.map_append];rfl,(a2.same t13).snoc ((t2.trans t3) _ _ ib)⟩,od.put ok (ok.sy g1) (by rw [Xp];exact g2),ok,hz,((n4.upd).upd).upd,fun H' s' n'=>q _ (t13.trans s') n'⟩
theorem yI (T:Txt w K mg t):∀ d,Zb P w K mg base CX0 (d + 4) t.sf t.qf q23 (KA d)
 | 0=>aA T 0 (T.rf.ok Tg (fun vs H Q E h=>h.elim) (fun cdv A outer s H vs Q E hr h=>h.elim))
 | d + 1=>aA T (d + 1) (yI T d)
theorem LA (T:Txt w K mg t) (d:Nat) (g16:Zb P w K mg base CX0 (d + 2) t.ud t.vd q13 (pL d)):Zb P w K mg base CX0 (d + 3) t.ud t.vd q13 (Tz d):=by
 have g17:Zb P w K mg base CX0 (d + 2) t.eg t.kg q16 II:=(tM T).mono (by omega);refine T.yd.ok Ii (fun vs H Q E h=>?_) (fun _ _ _ s H vs Q E hr h=>?_)
 ·obtain ⟨pa,m,e,p,rfl,_⟩:=h;rfl
 obtain ⟨pa,m,e,p,rfl,hP,hF,hS,hd,nt,q⟩:=h;refine ⟨_,(db (Dc (PW.pt (Zg (af (pe (Kb ag rfl T.Zc jc (cb (pv 0) (cb (Ci (v:=.ty "tuple") rfl T.vy zk rfl) fb))))) (Zg (Gb Sm (Kb Fb rfl T.ff Nb (cb (pv 0) fb)) jb (Ub _)) (Bg (Gb Jp (pv 2) jb (Ub _)))))) (lb (Bb Xf)) Ob)
   (db (Dc (Gb Of (Db Vb (pv 0) jb) ad (Ub _)) (lb (Bb (Om (ld Of (Kb Fb rfl T.ff Nb (cb (pv 0) fb)) jb (Ub _)) (fm (qb g17 hr T.dg T.ve.kp T.ig (cb (Db Vb (pv 0) jb) (cb (pv 1) fb))))))) Ob)
   (db (Dc (Gb Of (Db Vb (pv 0) jb) ad (Ub _)) (db (Dc (PW.pt (Zg (Gb Vs (Kb Fb rfl T.ff Nb (cb (pv 0) fb)) jb (Ub _)) (Bg (af (pe (Kb ag rfl T.Zc jc (cb (Db Vb (pv 0) jb) (cb (Ci (v:=.ty "tuple") rfl T.vy zk rfl) fb)))))))) (lb (Bb Xf)) Ob)
   (lb (Bb (ld Of (Kb Fb rfl T.ff Nb (cb (Yf rfl (oJ (Db Vb (pv 0) jb)) (Ec (sc:=ub Fg) rfl (by decide +kernel)) (N:=q16) (sel:=[none,some 1]) (kd (M:=q13) (by decide +kernel)) (Blk.of (fun _ _ _ _=>(Eb (i:=0) (Bi (N:=q16) (by decide +kernel) rfl))) (fun _ _ _ _=>⟨_,(Ho (af (pe (qb g17 hr T.dg T.ve.kp T.ig (cb (pv 0) (cb (pv 1) fb)))))),by walk_at "B"⟩) (fun _ _ _ _=>⟨_,(pv 0),by walk_at "B"⟩))) fb)) jb (Ub _))))) Ob)
   (db (Dc (PW.pt (Zg (Gb Vs (Db Vb (pv 0) jb) ad (Ub _)) (Bg (Gb Vs (Kb Fb rfl T.ff Nb (cb (pv 0) fb)) jb (Ub _))))) (lb (Bb Xf)) Ob)
   (db (Dc (PW.pt (Zg (af (pe (qb g17 hr T.dg T.ve.kp T.ig (cb (Db Vb (pv 0) jb) (cb (pv 1) fb))))) (Bg (af (pe (qb g17 hr T.dg T.ve.kp T.ig (cb (Db Vb (pv 0) jb) (cb (pv 1) fb)))))))) (lb (Bb Xf)) Ob)
   (lb (Bb (Om (qb g16 hr T.Lg T.yd.kp T.Dg (cb (Db Vb (pv 0) jb) (cb (pv 1) (cb (Yb wc (pv 2) jb) fb)))) (fm (qb g16 hr T.Lg T.yd.kp T.Dg (cb (Db Vb (pv 0) jb) (cb (pv 1) (cb (Yb wc (pv 2) jb) fb))))))))))))),?_⟩
 simp only [xb];cases p with
 | alone k=>
  have hk:k < m:=by cases d <;> exact hF
  refine Ib false (fun Q hQ=>?_) (fun z=>nomatch z) (fun _=>?_)
  ·walk_at "RD";refine ⟨_,.tup hP,true,rfl,?_⟩;rw [if_neg (by decide)];refine ⟨_,.inr (SqT.of hP),?_⟩;rw [if_neg (by simp),decide_eq_false (show ¬ (10:Int) < (e:Int) by omega)];exact hQ
  simp only [Xb,xb];refine Ib true (fun Q hQ=>?_) (fun _=>?_) (fun z=>nomatch z)
  ·walk_at "RD";exact ⟨_,SqT.of hP,_,yb (j:=0) rfl,rfl,by rw [decide_eq_true rfl];exact hQ⟩
  ·walk_at "RD";refine ⟨_,.inr (SqT.of hP),?_⟩;rw [if_pos (by simp)];exact ⟨_,SqT.of hP,_,yb (j:=1) rfl,k,m,rfl,hk,q _ (ac.refl _) nt⟩
 | ring r=>
  obtain ⟨b,h1,h2⟩:=hP;have hk:∀ k ∈ r,k < m:=by cases d <;> exact hF
  refine Ib false (fun Q hQ=>?_) (fun z=>nomatch z) (fun _=>?_)
  ·walk_at "RD";refine ⟨_,.tup h1,true,rfl,?_⟩;rw [if_neg (by decide)];refine ⟨_,.inr (SqT.of h1),?_⟩;rw [if_neg (by simp),decide_eq_false (show ¬ (10:Int) < (e:Int) by omega)];exact hQ
  simp only [Xb,xb];refine Ib false (fun Q hQ=>?_) (fun z=>nomatch z) (fun _=>?_)
  ·walk_at "RD";exact ⟨_,SqT.of h1,_,yb (j:=0) rfl,rfl,by rw [show decide (V.str (Str.ofString "ring")=V.str (Str.ofString "alone"))=false by decide +kernel];exact hQ⟩
  simp only [Xb,xb];refine Ib true (fun Q hQ=>?_) (fun _=>?_) (fun z=>nomatch z)
  ·walk_at "RD";exact ⟨_,SqT.of h1,_,yb (j:=0) rfl,rfl,by rw [decide_eq_true rfl];exact hQ⟩
  simp only [xb];refine Ib false (fun Q hQ=>?_) (fun z=>nomatch z) (fun _=>?_)
  ·walk_at "RD";refine ⟨_,.inr (SqT.of h1),?_⟩;rw [if_neg (by simp)];exact ⟨_,SqT.of h1,_,yb (j:=1) rfl,_,.tup h2,true,rfl,hQ⟩
  simp only [Xb];walk_at "RD";refine ⟨_,SqT.of h1,_,yb (j:=1) rfl,b,rfl,⟨_,SqT.of h2⟩,?_⟩;refine xA (xs:=Ke r) (fun i ys H'=>H'=H∧ys=[]) (by rw [Fc];exact Nat.le_trans hS (by decide)) ⟨rfl,rfl⟩ (fun i ys H' hi ⟨e0,e1⟩=>?_) (fun i x ys H' hx ⟨e1,e2⟩ N hN=>?_) (fun ys H' ⟨e1,e2⟩ p hp=>?_)
  ·subst e0 e1;exact ⟨SqT.of h2,Nat.zero_le _⟩
  ·subst e1 e2;obtain ⟨k,hk',rfl⟩:=nu hx;walk_at "RD";refine ⟨Sub.name,k,m,rfl,hk k (List.mem_of_getElem? hk'),_,rfl,?_⟩;rw [if_neg (by decide)];exact hN _ _ ⟨rfl,rfl⟩
  ·subst e1 e2;exact ⟨p,rfl,_,.inl (SqL.of ib),q _ (gb hp) nt.upd⟩
 | case i j p1 p2=>
  obtain ⟨b,c,h1,h2,h3⟩:=hP;obtain ⟨d',rfl⟩:∃ d',d=d' + 1:=by
   cases d with
   | zero=>exact hF.elim
   | succ d=>exact ⟨d,rfl⟩
  obtain ⟨f1,f2,f3,f4⟩:=hF;refine Ib false (fun Q hQ=>?_) (fun z=>nomatch z) (fun _=>?_)
  ·walk_at "RD";refine ⟨_,.tup h1,true,rfl,?_⟩;rw [if_neg (by decide)];refine ⟨_,.inr (SqT.of h1),?_⟩;rw [if_neg (by simp),decide_eq_false (show ¬ (10:Int) < (e:Int) by omega)];exact hQ
  simp only [Xb,xb];refine Ib false (fun Q hQ=>?_) (fun z=>nomatch z) (fun _=>?_)
  ·walk_at "RD";exact ⟨_,SqT.of h1,_,yb (j:=0) rfl,rfl,by rw [show decide (V.str (Str.ofString "case")=V.str (Str.ofString "alone"))=false by decide +kernel];exact hQ⟩
  simp only [Xb,xb];refine Ib false (fun Q hQ=>?_) (fun z=>nomatch z) (fun _=>?_)
  ·walk_at "RD";exact ⟨_,SqT.of h1,_,yb (j:=0) rfl,rfl,by rw [show decide (V.str (Str.ofString "case")=V.str (Str.ofString "ring"))=false by decide +kernel];exact hQ⟩
  simp only [Xb,xb];refine Ib false (fun Q hQ=>?_) (fun z=>nomatch z) (fun _=>?_)
  ·walk_at "RD";refine ⟨_,SqT.of h1,_,yb (j:=0) rfl,rfl,?_⟩;rw [decide_eq_true rfl,if_neg (by decide)];exact ⟨_,.inr (SqT.of h1),hQ⟩
  simp only [Xb,xb];refine Ib false (fun Q hQ=>?_) (fun z=>nomatch z) (fun _=>?_)
  ·walk_at "RD";refine ⟨_,SqT.of h1,_,yb (j:=1) rfl,i,m,rfl,f1,_,rfl,?_⟩;rw [if_neg (by decide)];exact ⟨_,SqT.of h1,_,yb (j:=2) rfl,j,m,rfl,f2,_,rfl,hQ⟩
  simp only [Xb];walk_at "RD";refine ⟨_,SqT.of h1,_,yb (j:=3) rfl,b,m,e + 1,p1,rfl,h2,f3,hS.1,by omega,nt,fun H' s' n'=>⟨_,rfl,?_⟩⟩;rw [if_pos rfl];exact ⟨_,SqT.of (s' _ _ h1),_,yb (j:=4) rfl,c,m,e + 1,p2,rfl,h3.same s',f4,hS.2,by omega,n',fun H2 s2 n2=>q _ (s'.trans s2) n2⟩
theorem CJ (T:Txt w K mg t):∀ d,Zb P w K mg base CX0 (d + 3) t.ud t.vd q13 (Tz d)
 | 0=>LA T 0 (T.yd.ok Ii (fun vs H Q E h=>h.elim) (fun cdv A outer s H vs Q E hr h=>h.elim))
 | d + 1=>LA T (d + 1) (CJ T d)
theorem MM (T:Txt w K mg t):Zb P w K mg base CX0 1 t.Qe t.Re q48 CI:=by
 refine T.Wf.ok di (fun vs H Q E h=>?_) (fun _ _ _ s H vs Q E hr h=>?_)
 ·obtain ⟨bl,m,z,bs,rfl,_⟩:=h;rfl
 obtain ⟨bl,m,z,bs,rfl,hb,hl,hbb,q⟩:=h;refine ⟨_,(db (Dc (PW.pt (Zg (af (pe (Kb ag rfl T.Zc jc (cb (pv 0) (cb (Ci (v:=.ty "list") rfl T.wD Dm rfl) fb))))) (Bg (Gb Vs (Kb Fb rfl T.ff Nb (cb (pv 0) fb)) (pv 1) (Ub _))))) (lb (Bb Xf)) Ob)
   (db (cf PassesOwn.never rfl (Eg (pv 0)) (Eb (i:=3) di.nd) (lb (Dc (PW.pt (Zg (af (pe (Kb ag rfl T.Zc jc (cb (pv 3) (cb (Ci (v:=.ty "int") rfl T.yH Il rfl) fb))))) (Zg (pe (Kb ag rfl T.Zc jc (cb (pv 3) (cb (Ci (v:=.ty "bool") rfl T.MC Cm rfl) fb)))) (Zg (Gb Sm (pv 3) jb (Ub _)) (Bg (Gb FO (pv 3) (pv 2) (Ub _))))))) (lb (Bb Xf)) Ob)))
   (lb (Bb Xf)))),?_⟩
 simp only [xb];refine Ib false (fun Q hQ=>?_) (fun z=>nomatch z) (fun _=>?_)
 ·walk_at "RD";refine ⟨_,.lst hb,true,rfl,?_⟩;rw [if_neg (by decide)];refine ⟨_,.inl (SqL.of hb),?_⟩;rw [List.length_map,hl,decide_eq_true rfl];exact hQ
 simp only [Xb,xb];walk_at "RD";refine ⟨⟨_,SqL.of hb⟩,?_⟩;refine Zj.list (xs:=bs.map V.int) (fun i σ H'=>H'=H∧∃ x,σ=[some (.ref bl),some (.int (m:Int)),some (.int z),x]) ⟨rfl,_,rfl⟩ (fun i σ H' _ y=>by rw [y.1];exact SqL.of hb) ?_ ?_
 ·rintro i v σ H1 hv ⟨rfl,x,rfl⟩;obtain ⟨b,hb1,rfl⟩:=vg hv;have hbz:=hbb b (List.mem_of_getElem? hb1);simp only [lf,List.set_cons_succ,List.set_cons_zero];refine Ib false (fun Q hQ=>?_) (fun z=>nomatch z) (fun _=>?_)
  ·walk_at "RD";refine ⟨_,.int _,true,rfl,?_⟩;rw [if_neg (by decide)];refine ⟨_,.int _,false,rfl,?_⟩;rw [if_neg (by decide),if_neg (by rw [decide_eq_true_eq];omega),decide_eq_false (by omega)];exact hQ
  ·simp only [Xb];exact ⟨trivial,_,rfl⟩
 ·rintro σ H1 ⟨rfl,x,rfl⟩;walk_at "RD";exact q
end
end My
namespace My
open PySem L2
theorem jw {H H':Hp} {p:Addr} {qs:List Addr} {ws:List (WD × Int)} (s:ac H H') (hp:H' p=some (.lst (qs.map V.ref))) (hl:qs.length=ws.length) (al:∀ (i:Nat) (q:Addr) (p:WD × Int),qs[i]? = some q→ws[i]? = some p→H q=some (.tup [.str p.1.name,.int p.2])):iu H' p ws:=
 ⟨qs,hp,hl,fun i q p h1 h2=>s _ _ (al i q p h1 h2)⟩
theorem rD {K:PySem.W.Frag} {H:Hp} {q:Addr} {a:Str} {b:Int} {k:Nat} (h:H q=some (.tup [.str a,.int b])):EqH K H (k + 1) (.ref q) (.ref q) true:=by
 have:=EqH.tup (k:=k) (e:=fun _=>true) (SqT.of (K:=K) h) (SqT.of h) (fun j x y h1 h2=>by
  rw [h1] at h2;cases h2;have hf:Jl x=true:=by
   match j,h1 with
   | 0,h1=>cases h1;rfl
   | 1,h1=>cases h1;rfl
  have:=EqH.flat (K:=K) (H:=H) (k:=k) hf hf;rwa [Zz hf] at this)
 exact this
theorem QG (n:Nat):(List.range n).all (fun _=>true)=true:=List.all_eq_true.mpr fun _ _=>rfl
noncomputable def bsL (S:Sys) (b:Nat→Int):List Int:=(List.range S.m).map b
theorem SC (S:Sys) (b:Nat→Int):eu S b=(bsL S b).map V.int:=by unfold eu bsL;rw [List.map_map];rfl
theorem Fx (S:Sys) (b:Nat→Int):(bsL S b).length=S.m:=by unfold bsL;rw [List.length_map,List.length_range]
theorem fJ {S:Sys} {b:Nat→Int} {i:Nat} (h:i < S.m):bvL (bsL S b) i=b i:=JE (by unfold bsL;rw [List.getElem?_map,List.getElem?_range h];rfl)
theorem bF {S:Sys} (k:S.Ok) {z:Int} {b:Nat→Int} (D:Sl S z b):Sl S z (bvL (bsL S b)):=⟨D.1,fun i j e=>by rw [fJ (k.lt e).1,fJ (k.lt e).2.1];exact D.2 i j e⟩
section
variable {P:Program} {w:World} {K:PySem.W.Frag} {mg:Str→Option Value} {base:Heap} {t:Adr}
theorem rM (T:Txt w K mg t):Zb P w K mg base CX0 18 t.uK t.qI q15 (YL K):=by
 refine T.SO.ok Bk (fun vs H Q E h=>?_) (fun _ _ _ s H vs Q E hr h=>?_)
 ·obtain ⟨a,ns,rfl,_⟩:=h;rfl
 obtain ⟨a,ns,rfl,S0,h63,q⟩:=h;have hU:=hr.units;have g0:Zb P w K mg base CX0 17 t.Ce t.He q11 (Tc K a ns):=(jr T a ns h63).mono (by decide);have g60:Zb P w K mg base CX0 17 t.Xg t.ah q15 (Ot K a ns):=(JB T a ns h63).mono (by decide);have g61:Zb P w K mg base CX0 17 t.Hj t.tj q43 (Cz K a ns):=(TH T a ns h63).mono (by decide);have g62:Zb P w K mg base CX0 17 t.nj t.Ij q44 (qz K):=(pI T).mono (by decide);have g63:Zb P w K mg base CX0 17 t.Gf t.Nf ["text"] (mN t):=(gO T).mono (by decide);have g64:Zb P w K mg base CX0 17 t.fh t.gh q46 (vA K a ns):=(YH T a ns h63).mono (by decide);have g27:Zb P w K mg base CX0 17 t.An t.Zm q47 zI:=(WM T).mono (by decide);have g28:Zb P w K mg base CX0 17 t.il t.ol q38 (Wz t):=(IG T).mono (by decide);have g65:Zb P w K mg base CX0 17 t.Qe t.Re q48 CI:=(MM T).mono (by decide);have g66:Zb P w K mg base CX0 17 t.Jh t.Nh q22 tJ:=(lN T).mono (by decide);have g16:Zb P w K mg base CX0 17 t.ud t.vd q13 (fun vs H Q E=>∃ n,n ≤ 10∧Tz n vs H Q E):=Vu fun n hn=>(CJ T n).mono (by omega)
 have g15:Zb P w K mg base CX0 17 t.sf t.qf q23 (fun vs H Q E=>∃ n,n ≤ 10∧KA n vs H Q E):=Vu fun n hn=>(yI T n).mono (by omega)
 refine ⟨_,(db (wb (i:=1) Bk.nd (qb g60 hr T.qv T.lj.kp T.Qu (cb (pv 0) fb)))
   (db (wb (i:=2) Bk.nd (qb g61 hr T.Zx T.um.kp T.Fy (cb (pv 0) (cb (Yb wc jb (qb g0 hr T.Sb T.Mb.kp T.Qb (cb (pv 0) (cb jb (cb jb fb))))) (cb (pv 1) fb)))))
   (db (wb (i:=3) Bk.nd (qb g63 hr T.Tq T.vh.kp T.Ir (cb (qb g62 hr T.cy T.Bm.kp T.Sx (cb (pv 1) (cb (pv 2) fb))) fb)))
   (db (wb (i:=4) Bk.nd (qb g64 hr T.sv T.vj.kp T.Yu (cb (pv 0) (cb (pv 2) fb))))
   (db (cj (i:=5) Bk.nd rfl (Or.inl rfl) rfl (Eg (pv 4)) (Ec (sc:=ub bL) rfl (by decide +kernel)) (N:=["_law_one"]) (sel:=[none]) (kd (M:=["_law_script","_law_places_here","_law_ways_here","_law_crossing","_law_wanted_here","_law_wants","_law_handed","_law_told","_law_size","_law_begins","_law_again"]) (by decide +kernel)) (Blk.of (fun _ _ _ _=>(Eb (i:=0) (Bi (N:=["_law_one"]) (by decide +kernel) rfl))) (fun _ _ _ _=>⟨_,Kg,by walk_at "B"⟩) (fun _ _ _ _=>⟨_,(Nc (cb (Db Vb (Db Vb (pv 0) jb) jb) (cb (Db Vb (pv 0) jb) fb))),by walk_at "B"⟩)) rfl)
   (db (wb (i:=6) Bk.nd (ug Qo rfl T.wD Dm (cb (pv 5) fb)))
   (db (wb (i:=7) Bk.nd (qb g28 hr T.Xs T.Dl.kp T.fu (cb (pv 3) (cb (pv 6) fb))))
   (db (Dc (PW.pt (Zg (af (pe (Kb ag rfl T.Zc jc (cb (pv 7) (cb (Ci (v:=.ty "tuple") rfl T.vy zk rfl) fb))))) (Zg (Gb Vs (Kb Fb rfl T.ff Nb (cb (pv 7) fb)) jb (Ub _)) (Bg (Gb (RL hU) (pv 6) (pv 5) (Ub _)))))) (lb (Bb Xf)) Ob)
   (db (wb (i:=8) Bk.nd (Db Vb (pv 7) jb))
   (db (Dc (PW.pt (Zg (af (pe (Kb ag rfl T.Zc jc (cb (pv 8) (cb (Ci (v:=.ty "int") rfl T.yH Il rfl) fb))))) (Zg (pe (Kb ag rfl T.Zc jc (cb (pv 8) (cb (Ci (v:=.ty "bool") rfl T.MC Cm rfl) fb)))) (Bg (Gb Sm (pv 8) jb (Ub _)))))) (lb (Bb Xf)) Ob)
   (db (wb (i:=9) Bk.nd (Db Vb (pv 7) jb))
   (db (Dc (PW.pt (Zg (af (pe (qb g65 hr T.Go T.Wf.kp T.Bo (cb (pv 9) (cb (Kb Fb rfl T.ff Nb (cb (pv 5) fb)) (cb (pv 8) fb)))))) (Bg (af (pe (qb g27 hr T.Tw T.Rm.kp T.yw (cb (pv 4) (cb (pv 1) (cb (pv 8) (cb (pv 9) fb)))))))))) (lb (Bb Xf)) Ob)
   (db (Dc (af (pe (qb g16 hr T.Lg T.yd.kp T.Dg (cb (Db Vb (pv 7) jb) (cb (Kb Fb rfl T.ff Nb (cb (pv 5) fb)) (cb jb fb)))))) (lb (Bb Xf)) Ob)
   (db (Dc (af (pe (qb g15 hr T.Jk T.rf.kp T.Ak (cb (pv 4) (cb (pv 1) (cb (Yb Vh (pv 8) jb) (cb (Db Vb (pv 7) jb) (cb (qb g66 hr T.iw T.Fk.kp T.Lw (cb (pv 4) (cb (pv 1) fb))) fb)))))))) (lb (Bb Xf)) Ob)
   (db (ke (dJ PySem.F.plainAttrs_list PySem.F.slot_list_clear PySem.F.type_list_clear EG (pv 6)))
   (db (ke (uo PySem.F.plainAttrs_list PySem.F.slot_list_append PySem.F.type_list_append Ji (pv 9) (cb jb fb)))
   (db (wb (i:=10) Bk.nd (qb g28 hr T.Xs T.Dl.kp T.fu (cb (pv 3) (cb (ug Qo rfl T.wD Dm (cb (pv 5) fb)) fb))))
   (lb (Bb (Om (ld Of (Db Vb (pv 10) jb) (pv 8) (Ub _)) (Om (qb g27 hr T.Tw T.Rm.kp T.yw (cb (pv 4) (cb (pv 1) (cb (pv 8) (cb (Db Vb (pv 10) jb) fb))))) (fm (ld Of (Kb Fb rfl T.ff Nb (cb (Db Vb (pv 10) jb) fb)) (Kb Fb rfl T.ff Nb (cb (pv 5) fb)) (Ub _)))))))))))))))))))))))),?_⟩
 refine zS (fun σ' H'=>H'=H∧∃ n:Int,(4 ≤ n∧n ≤ 99)∧σ'=[some (.ref a),some (.int n),none,none,none,none,none,none,none,none,none]) (fun D' hD=>?_) fun zzM zzh=>?_
 ·walk_at "RD";exact ⟨rfl,S0,fun n hn=>hD _ _ ⟨rfl,n,hn,rfl⟩⟩
 rintro σ1 H1 ⟨rfl,n,hn,rfl⟩;subst zzh;refine zS (fun σ' H'=>ac H1 H'∧Sc K a ns H'∧∃ wl ds,LW H' wl ds∧(1 ≤ ds.length∧ds.length ≤ 6)∧IL n ds∧σ'=[some (.ref a),some (.int n),some (.ref wl),none,none,none,none,none,none,none,none]) (fun D' hD=>?_) fun zzM zzh=>?_
 ·have d1:=ae ns 2 (m:=6) (by decide);have d2:=Wd ns 2 (m:=6) (by decide);(walk_at "RD"; repeat (dsimp only [Tc];walk_at "RD"));obtain ⟨m,hm⟩:∃ m:Nat,1 + vk ns 2 6=(m:Int):=⟨(1 + vk ns 2 6).toNat,by omega⟩;rw [hm];exact ⟨S0,by decide,by decide,by decide,m,n,rfl,S0,by omega,by omega,fun p ds H' s2 S2 _ L hl D=>hD _ _ ⟨s2,S2,p,ds,L,by omega,D,rfl⟩⟩
 rintro σ2 H2 ⟨s2,S2,wl,ds,hW,hdl,D,rfl⟩;subst zzh;refine zS (fun σ' H'=>ac H2 H'∧Sc K a ns H'∧∃ c,xf t H' c n ds∧σ'=[some (.ref a),some (.int n),some (.ref wl),some (.ref c),none,none,none,none,none,none,none]) (fun D' hD=>?_) fun zzM zzh=>?_
 ·walk_at "RD";refine ⟨n,wl,ds,rfl,hW,D,by omega,by omega,S2.nt,n,ds,rfl,D.cok (by omega) (by omega),S2.nt,fun c H' s3 n3 C3=>hD _ _ ⟨s3,S2.same s3 n3,c,C3,rfl⟩⟩
 rintro σ3 H3 ⟨s3,S3,c,C3,rfl⟩;subst zzh;refine zS (fun σ' H'=>ac H3 H'∧Sc K a ns H'∧∃ ul ws,so H' ul ws∧(0 < ws.length∧ws.length ≤ 5)∧(∀ x ∈ ws,x.1 ∈ ds∧1 ≤ x.2∧x.2 ≤ 60)∧σ'=[some (.ref a),some (.int n),some (.ref wl),some (.ref c),some (.ref ul),none,none,none,none,none,none]) (fun D' hD=>?_) fun zzM zzh=>?_
 ·walk_at "RD";exact ⟨wl,ds,rfl,S3,hW.same s3,by omega,fun p H' ws s4 S4 L hl hx=>hD _ _ ⟨s4,S4,p,ws,L,hl,hx,rfl⟩⟩
 rintro σ4 H4 ⟨s4,S4,ul,ws,hL,hwl,hwx,rfl⟩;obtain ⟨qs,w1,w2,w3⟩:=id hL;have hqn:(qs.map V.ref).length=ws.length:=by rw [List.length_map,w2]
 have hok:∀ p ∈ ws,WOk n p.1:=fun p hp=>(D.al _ (hwx p hp).1).1
 have wk:lA n ws:=⟨fun p hp=>⟨hok p hp,by have:=(hwx p hp).2;omega⟩,by omega,List.length_pos_iff.mp hwl.1⟩;have hin:∀ q ∈ ws,∃ i:Nat,ds[i]? = some q.1:=fun p hp=>List.getElem?_of_mem (hwx p hp).1
 have hab:∀ q ∈ ws,0 ≤ q.2∧q.2 ≤ 100000:=fun p hp=>by have:=(hwx p hp).2;omega
 subst zzh;refine zS (fun σ' H'=>ac H4 H'∧Sc K a ns H'∧∃ tl,iu H' tl ws∧σ'=[some (.ref a),some (.int n),some (.ref wl),some (.ref c),some (.ref ul),some (.ref tl),none,none,none,none,none]) (fun D' hD=>?_) fun zzM zzh=>?_
 ·walk_at "RD";refine ⟨⟨_,SqL.of w1⟩,?_⟩;refine gd.list (xs:=qs.map V.ref) (fun i ys H'=>ac H4 H'∧Sc K a ns H'∧∃ qw:List Addr,ys=qw.map V.ref∧qw.length=i∧∀ (j:Nat) (q:Addr) (p:WD × Int),qw[j]? = some q→ws[j]? = some p→H' q=some (.tup [.str p.1.name,.int p.2])) (by rw [hqn];exact Nat.le_trans hwl.2 (by decide)) ⟨ac.refl _,S4,[],rfl,rfl,fun j q p h=>by simp at h⟩ ?_ ?_ ?_
  ·rintro i ys H' hi zzq;refine zzP fun zzM zzh=>?_
   obtain ⟨s5,_,qw,rfl,hq,_⟩:=zzq;subst zzh;exact ⟨SqL.of (s5 _ _ w1),by rw [List.length_map,hq];exact Nat.le_refl _⟩
  ·rintro i v ys H' hv zzq;refine zzP fun zzM zzh=>?_
   obtain ⟨s5,S5,qw,rfl,hq,al⟩:=zzq;obtain ⟨qi,hqi,rfl⟩:=vg hv;have hi:i < ws.length:=by rw [← w2];exact (List.getElem?_eq_some_iff.mp hqi).1
   have hwi:ws[i]? = some ws[i]:=List.getElem?_eq_getElem hi;obtain ⟨wq,e1,e2⟩:=w3 i qi _ hqi hwi;subst zzh;intro N hN;walk_at "RD";refine ⟨Sub.name,_,SqT.of (s5 _ _ e1),_,yb (j:=0) rfl,_,rfl,_,SqT.of (s5 _ _ e2),_,yb (j:=1) rfl,_,SqT.of (s5 _ _ e1),_,yb (j:=1) rfl,by decide,fun p hp=>hN _ _ ⟨s5.trans (gb hp),S5.new hp,qw ++ [p],by rw [List.map_append];rfl,by rw [List.length_append,hq];rfl,fun j q x h1 h2=>?_⟩⟩;rcases Hg h1 with ⟨g1,g2⟩ | ⟨g1,g2⟩
   ·exact (gb hp) _ _ (al j q x g2 h2)
   ·rw [g1,hq,hwi] at h2;cases h2;rw [g2];exact ib
  ·rintro ys H' ⟨s5,S5,qw,rfl,hq,al⟩ p hp;refine hD _ _ ⟨s5.trans (gb hp),S5.new hp,p,⟨qw,ib,by rw [hq,hqn],fun j q x h1 h2=>(gb hp) _ _ (al j q x h1 h2)⟩,rfl⟩
 rintro σ5 H5 ⟨s5,S5,tl,hT,rfl⟩;obtain ⟨qt,t1,t2,t3⟩:=id hT;have C5:=C3.same (s4.trans s5);subst zzh;refine zS (fun σ' H'=>ac H5 H'∧Sc K a ns H'∧∃ hd,H5 hd=none∧H' hd=some (.lst (qt.map V.ref))∧σ'=[some (.ref a),some (.int n),some (.ref wl),some (.ref c),some (.ref ul),some (.ref tl),some (.ref hd),none,none,none,none]) (fun D' hD=>?_) fun zzM zzh=>?_
 ·walk_at "RD";exact ⟨_,.inl (SqL.of t1),fun l hl=>hD _ _ ⟨gb hl,S5.new hl,l,hl,ib,rfl⟩⟩
 rintro σ6 H6 ⟨s6,S6,hd,hd0,hd1,rfl⟩;have hL6:=Oe hL (s5.trans s6);subst zzh;refine zS (fun σ' H'=>ac H6 H'∧Sc K a ns H'∧∃ r z pb pa b p,H' r=some (.tup [.int z,.ref pb,.ref pa])∧Eu (Jb n ws) H6 H' z pb pa b p∧σ'=[some (.ref a),some (.int n),some (.ref wl),some (.ref c),some (.ref ul),some (.ref tl),some (.ref hd),some (.ref r),none,none,none]) (fun D' hD=>?_) fun zzM zzh=>?_
 ·walk_at "RD";exact ⟨n,ws,⟨c,hd,ds,rfl,C5.same s6,by omega,jw s6 hd1 t2 t3,hin,wk,S6.nt⟩,fun r z pb pa b p H' s7 n7 e7 SA=>hD _ _ ⟨s7,S6.same s7 n7,r,z,pb,pa,b,p,e7,SA,rfl⟩⟩
 rintro σ7 H7 ⟨s7,S7,r,z,pb,pa,b,p,r7,SA,rfl⟩;have hz1:=SA.z1;have hzl:=SA.zl;have s57:=s6.trans s7;have hL7:=Oe hL6 s7;have eb7:H7 pb=some (.lst ((bsL (Jb n ws) b).map V.int)):=by rw [← SC];exact SA.eb
 have hbl:(bsL (Jb n ws) b).length=ws.length:=Fx ..;have hdo:=bF wk.ok SA.does;have hsh:=Uq (show (Jb n ws).m ≤ 6 by exact wk.2.1) p _ _ SA.form SA.bear;have hun:=(Xy wk.ok wk.2.1).1;subst zzh;refine zS (fun σ' H'=>H'=H7∧σ'=[some (.ref a),some (.int n),some (.ref wl),some (.ref c),some (.ref ul),some (.ref tl),some (.ref hd),some (.ref r),none,none,none]) (fun D' hD=>?_) fun zzM zzh=>?_
 ·refine Ib false (fun Q hQ=>?_) (fun z=>nomatch z) (fun _=>?_)
  ·walk_at "RD";refine ⟨_,.tup r7,true,rfl,?_⟩;rw [if_neg (by decide)];refine ⟨_,.inr (SqT.of r7),?_⟩;rw [if_neg (by simp)];refine ⟨true,?_,hQ⟩;have:=EqH.lst (k:=7) (e:=fun _=>true) (SqL.of (K:=K) (s7 _ _ hd1)) (SqL.of (s57 _ _ t1)) rfl (fun j x y h1 h2=>by
    rw [h1] at h2;cases h2;obtain ⟨q,hq,rfl⟩:=vg h1;have hj:j < ws.length:=by rw [← t2];exact (List.getElem?_eq_some_iff.mp hq).1
    exact rD (s57 _ _ (t3 j q _ hq (List.getElem?_eq_getElem hj))))
   rwa [QG] at this
  ·simp only [Xb];exact hD _ _ ⟨rfl,rfl⟩
 rintro σ8 H8 ⟨rfl,rfl⟩;subst zzh;refine zS (fun σ' H'=>H'=H8∧σ'=[some (.ref a),some (.int n),some (.ref wl),some (.ref c),some (.ref ul),some (.ref tl),some (.ref hd),some (.ref r),some (.int z),none,none]) (fun D' hD=>?_) fun zzM zzh=>?_
 ·walk_at "RD";exact ⟨_,SqT.of r7,_,yb (j:=0) rfl,hD _ _ ⟨rfl,rfl⟩⟩
 rintro σ9 H9 ⟨rfl,rfl⟩;subst zzh;refine zS (fun σ' H'=>H'=H9∧σ'=[some (.ref a),some (.int n),some (.ref wl),some (.ref c),some (.ref ul),some (.ref tl),some (.ref hd),some (.ref r),some (.int z),none,none]) (fun D' hD=>?_) fun zzM zzh=>?_
 ·refine Ib false (fun Q hQ=>?_) (fun z=>nomatch z) (fun _=>?_)
  ·walk_at "RD";refine ⟨_,.int _,true,rfl,?_⟩;rw [if_neg (by decide)];refine ⟨_,.int _,false,rfl,?_⟩;rw [if_neg (by decide),decide_eq_false (show ¬ z < 1 by omega)];exact hQ
  ·simp only [Xb];exact hD _ _ ⟨rfl,rfl⟩
 rintro σ10 H10 ⟨rfl,rfl⟩;subst zzh;refine zS (fun σ' H'=>H'=H10∧σ'=[some (.ref a),some (.int n),some (.ref wl),some (.ref c),some (.ref ul),some (.ref tl),some (.ref hd),some (.ref r),some (.int z),some (.ref pb),none]) (fun D' hD=>?_) fun zzM zzh=>?_
 ·walk_at "RD";exact ⟨_,SqT.of r7,_,yb (j:=1) rfl,hD _ _ ⟨rfl,rfl⟩⟩
 rintro σ11 H11 ⟨rfl,rfl⟩;subst zzh;refine zS (fun σ' H'=>H'=H11∧σ'=[some (.ref a),some (.int n),some (.ref wl),some (.ref c),some (.ref ul),some (.ref tl),some (.ref hd),some (.ref r),some (.int z),some (.ref pb),none]) (fun D' hD=>?_) fun zzM zzh=>?_
 ·refine Ib false (fun Q hQ=>?_) (fun z=>nomatch z) (fun _=>?_)
  ·walk_at "RD";refine ⟨_,.inl (SqL.of (s57 _ _ t1)),pb,ws.length,z,bsL (Jb n ws) b,by rw [List.length_map,t2],eb7,hbl,fun x hx=>?_,_,rfl,?_⟩
   ·obtain ⟨i,_,rfl⟩:=List.mem_map.mp hx;exact SA.rb i
   rw [if_neg (by decide)];refine ⟨ul,n,z,pb,ws,bsL (Jb n ws) b,rfl,hL7,hok,by omega,eb7,hbl,by omega,S7.nt,fun r2 hr2=>⟨_,rfl,?_⟩⟩;rw [hr2.mpr hdo];exact hQ
  ·simp only [Xb];exact hD _ _ ⟨rfl,rfl⟩
 rintro σ12 H12 ⟨rfl,rfl⟩;subst zzh;refine zS (fun σ' H'=>ac H12 H'∧Sc K a ns H'∧σ'=[some (.ref a),some (.int n),some (.ref wl),some (.ref c),some (.ref ul),some (.ref tl),some (.ref hd),some (.ref r),some (.int z),some (.ref pb),none]) (fun D' hD=>?_) fun zzM zzh=>?_
 ·refine og (fun b H'=>b=false∧ac H12 H'∧Sc K a ns H') (fun Q hQ=>?_) (fun H' z=>nomatch z.1) (fun H' z=>?_)
  ·walk_at "RD";exact ⟨_,SqT.of r7,_,yb (j:=2) rfl,_,.inl (SqL.of (s57 _ _ t1)),unO (Jb n ws) (Ts (Jb n ws)),hun,pa,ws.length,0,p,by rw [List.length_map,t2];rfl,SA.pap,SA.form,hsh,by omega,S7.nt,fun H' s' n'=>⟨_,rfl,hQ _ _ ⟨rfl,s',S7.same s' n'⟩⟩⟩
  ·simp only [Xb];exact hD _ _ ⟨z.2.1,z.2.2,rfl⟩
 rintro σ13 H13 ⟨s13,S13,rfl⟩;subst zzh;refine zS (fun σ' H'=>ac H12 H'∧Sc K a ns H'∧σ'=[some (.ref a),some (.int n),some (.ref wl),some (.ref c),some (.ref ul),some (.ref tl),some (.ref hd),some (.ref r),some (.int z),some (.ref pb),none]) (fun D' hD=>?_) fun zzM zzh=>?_
 ·refine og (fun b H'=>b=false∧ac H12 H'∧Sc K a ns H') (fun Q hQ=>?_) (fun H' z=>nomatch z.1) (fun H' z=>?_)
  ·walk_at "RD";exact ⟨_,SqT.of (s13 _ _ r7),_,yb (j:=2) rfl,ul,n,ws,rfl,Oe hL7 s13,hok,by omega,S13.nt,fun al H' s' n' A'=>⟨unO (Jb n ws) (Ts (Jb n ws)),hun,ul,n,z - 1,pa,al,ws,p,Ts (Jb n ws),rfl,Oe hL7 (s13.trans s'),hok,wk.2.1,SA.pap.same (s13.trans s'),SA.form,SA.bear,A',qD,wk.ok,by omega,n',fun H2 s2 n2=>⟨_,rfl,hQ _ _ ⟨rfl,(s13.trans s').trans s2,(S13.same s' n').same s2 n2⟩⟩⟩⟩
  ·simp only [Xb];exact hD _ _ ⟨z.2.1,z.2.2,rfl⟩
 rintro σ14 H14 ⟨s14,S14,rfl⟩;have hph:hd ≠ pb:=Lb hd1 SA.nb;have hpb0:H5 pb=none:=s6.free SA.nb;have s5e:=s57.trans s14;have e14:=s14 _ _ (s7 _ _ hd1);have b14:=s14 _ _ eb7;subst zzh;refine zS (fun σ' H'=>ac H5 H'∧Sc K a ns H'∧H' pb=some (.lst ((bsL (Jb n ws) b).map V.int))∧σ'=[some (.ref a),some (.int n),some (.ref wl),some (.ref c),some (.ref ul),some (.ref tl),some (.ref hd),some (.ref r),some (.int z),some (.ref pb),none]) (fun D' hD=>?_) fun zzM zzh=>?_
 ·walk_at "RD";exact ⟨.inl ⟨_,SqL.of e14⟩,_,e14,hD _ _ ⟨s5e.updN hd0,S14.set e14 (by intro ob z h;cases h),by rw [Ab (Ne.symm hph)];exact b14,rfl⟩⟩
 rintro σ15 H15 ⟨s15,S15,b15,rfl⟩;subst zzh;refine zS (fun σ' H'=>ac H5 H'∧Sc K a ns H'∧σ'=[some (.ref a),some (.int n),some (.ref wl),some (.ref c),some (.ref ul),some (.ref tl),some (.ref hd),some (.ref r),some (.int z),some (.ref pb),none]) (fun D' hD=>?_) fun zzM zzh=>?_
 ·walk_at "RD";exact ⟨.inl ⟨_,SqL.of b15⟩,_,b15,Nat.lt_of_le_of_lt (show _ ≤ 6 by rw [List.length_map,hbl];omega) (by decide),hD _ _ ⟨s15.updN hpb0,S15.set b15 (by intro ob z h;cases h),rfl⟩⟩
 rintro σ16 H16 ⟨s16,S16,rfl⟩;subst zzh;refine zS (fun σ' H'=>ac H16 H'∧Sc K a ns H'∧∃ r2 pb2 pa2 b2,H' r2=some (.tup [.int z,.ref pb2,.ref pa2])∧H' pb2=some (.lst ((bsL (Jb n ws) b2).map V.int))∧Sl (Jb n ws) z b2∧σ'=[some (.ref a),some (.int n),some (.ref wl),some (.ref c),some (.ref ul),some (.ref tl),some (.ref hd),some (.ref r),some (.int z),some (.ref pb),some (.ref r2)]) (fun D' hD=>?_) fun zzM zzh=>?_
 ·walk_at "RD";refine ⟨_,.inl (SqL.of (s16 _ _ t1)),fun l hl=>⟨n,ws,⟨c,l,ds,rfl,(C5.same s16).same (gb hl),by omega,jw (s16.trans (gb hl)) ib t2 t3,hin,wk,S16.nt.upd⟩,fun r2 z2 pb2 pa2 b2 p2 H' s' n' e' SB=>?_⟩⟩;have hz2:z2=z:=by
   rcases Int.lt_trichotomy z2 z with q | q | q
   ·exact absurd SB.does (SA.least wk.ok (by have:=SB.z1;omega) q b2)
   ·exact q
   ·exact absurd SA.does (SB.least wk.ok (by omega) q b)
  subst hz2;exact hD _ _ ⟨(gb hl).trans s',(S16.new hl).same s' n',r2,pb2,pa2,b2,e',by rw [← SC];exact SB.eb,SB.does,rfl⟩
 rintro σ17 H17 ⟨s17,S17,r2,pb2,pa2,b2,e17,eb17,D17,rfl⟩;have s5f:=s16.trans s17;subst zzh;dsimp only;walk_at "RD";refine ⟨_,SqT.of e17,_,yb (j:=0) rfl,rfl,?_⟩;rw [if_pos (decide_eq_true rfl)];refine ⟨_,SqT.of e17,_,yb (j:=1) rfl,ul,n,z,pb2,ws,bsL (Jb n ws) b2,rfl,Oe hL (s5.trans s5f),hok,by omega,eb17,Fx ..,by omega,S17.nt,fun r3 hr3=>⟨_,rfl,?_⟩⟩;rw [if_pos (hr3.mpr (bF wk.ok D17))];refine ⟨_,SqT.of e17,_,yb (j:=1) rfl,_,rfl,_,.inl (SqL.of eb17),_,.inl (SqL.of (s5f _ _ t1)),?_⟩;rw [List.length_map,List.length_map,t2,decide_eq_true (show (((bsL (Jb n ws) b2).length:Nat):Int)=((ws.length:Nat):Int) by rw [Fx];rfl)];exact q _
end
end My
structure PySem.W.Fast:Prop where(tw10848047729231415125 tw3962693794338169732 tw2357689025757045612 tw18436794808327227184 tw339707407011117264 tw12137069407465195410 tw7359350675527201059 tw5828522124581217989 tw7720840332933270695 tw3336061393426906004 tw11931236825369821268 tw11733649596860242406 tw9116322814404364603 tw12090110532248502554 tw13205075310375334271 tw598741128229139525 tw603756902961210396 tw11310815095838096689 tw18392906913437740708 tw17746491242948906473 tw1898437369862447307 tw10321466433113317154 tw8886139165714811287 tw1866324184147607225 tw7323889517804890028 tw14124155681933350871 tw10686837444607649986 tw9039625911284572251 tw7800677198956941984 tw14356694352534130050 tw9838043690610904993 tw5237739206381451166 tw7466016088910973960 tw13929795690455449591 tw4964004136056926503 tw12278011427579247448 tw3364089819822980062 tw5218367603455216417 tw17431353004787346107 tw13368397590678755326 tw12058581813115786121 tw17447209580058213318 tw1938948348104746875 tw5592558846952992242 tw9671719012203959483 tw1713942033871895333 tw5789978936974854252 tw16627496627282157956 tw17891629071802720423 tw1338076323177651053 tw14906484373548577954 tw9475501992094292594 tw18337306100436126862 tw7822724481432379981 tw18290571454188349494 tw17775554425081716878 tw7941150258433983813 tw1044742638645943503 tw9331745942163762352 tw17368660010578749138 tw3882227654530839195 tw12833706604078270725 tw6674055988393700469 tw10820282774922775456 tw2516630250426830759 tw6994268768330472676 tw427237339705426906 tw6238307564620864001 tw12980208230837385127 tw12695100958281795338 tw2162434310328791853 tw15445581954113382470 tw10540730343606598913 tw4367534460119671552 tw2988462664664899737 tw17420198984882084316 tw5324400102975301744 tw11827162370402885054 tw12114481732605458465 tw4929995802901837470 tw2767916023155832668 tw12109782057944558138 tw5037956547470443327 tw1168189546658604975 tw1684248718939054947 tw1702834963480577204 tw1220198555720037696 tw17432569202262795312 tw10808958041843061047 tw12373674791198355876 tw11233046342861294135 tw2922361985677679929 tw12953816452371197067 tw10686499630297418620 tw6126770900234414842 tw3257398494672237136 tw3919942570466142243 tw16071883687834779878 tw1324839927132553857 tw7937878369858379871 tw7606257808813370480 tw2465663185984784728 tw2657467395533210950 tw13167006680340241868 tw10074750098641359700 tw3893374178211691413 tw12749126350579515289 tw4474411017873179778 tw6524402002439634238 tw6945671125865180891 tw4159116338348142276 tw11926896103621376731 tw9566075522074906481 tw8676355998787624523 tw721186957549182848 tw18328886365177290607 tw18151488258938231107 tw6776726327962933560 tw18402543170409289019 tw11450993275900325819 tw1606072233419011691 tw2332594256081267731 tw9010878871325401045 tw3182029678586334922 tw6736036094398181919 tw14599350344339736941 tw1900027465256433011 tw2421198126519200538 tw3137441479745116316 tw10113480863903387782 tw17463587767686298075 tw13452532888062560608 tw13787915083494528027 tw16141730370555146860 tw5709511702694553350 tw17887434695860922870 tw16477780081280675413 tw14216813758276504305 tw2736589923122534623 tw8799030945839036052 tw1969342705446063938 tw2350421659706452459 tw16860142477355302038 tw5409351974882516159 tw8480150886150703708 tw13476995617010111717 tw580091512173711717 tw1403891141690597731 tw8397954094059510442 tw15348265508071762121 tw9237738594231185572 tw1304300977506146089 tw6139590137994117481 tw6601757950424390203 tw15529793369042449912 tw13715950945329858521 tw15570501974541567241 tw8975171965307545671 tw11090027406826479830 tw17254670895370281528 tw7315437277541105725 tw3683367116661483146 tw13175902155526665910 tw5838820819280029946 tw5423974226921027070 tw4761475839639383407 tw15699357006461798123 tw656276976745491311 tw6461215977302002906 tw7107469767289476831 tw2450886983860304518 tw1487149105743676422 tw5253476301789047186 tw1094998415858606704 tw14303307718354964179 tw17264985845369935311 tw16847637107395968924 tw2799688895324200657 tw17114307167865075384 tw16777812300934559923 tw16509107405635832805 tw2370738837639365152 tw2211757252659778461 tw1316013575224695870 tw15964275634457306386 tw11864257093477187324 tw14082252045629673781 tw18042612540821451363 tw6682386265319906614 tw4012135151646102396 tw13244747414983531768 tw17145248879429601836 tw14157752518788557132 tw3640130296722798469 tw11573794390763246221 tw6748371751065755058 tw6775430570756178567 tw13473385564530018904 tw6590792691937584120 tw7475363762783382367 tw12067053861274377916 tw8213912851421649181 tw11196492858763574223 tw3622964551452743781 tw11017779222855458486 tw17816134326141357181 tw6287831981580708302 tw333149246033398412 tw1779729213834802183 tw6200208760509026635 tw18015285079813973775 tw5817925195455226119 tw1500205414345408236 tw4428919399485655574 tw5873124549456339367 tw14266474836462078507 tw12144540450660559905 tw6776789432549000854 tw3425487256289462514 tw2783142989831280432 tw3941087234879948207 tw1755420681085145738 tw12210683462627790689 tw3819609634837132029 tw1623411525994144225 tw4953686009955694662 tw7516027588248816687 tw7565821792732485272 tw8400440438455249877 tw10481131522314710530 tw2292943107280826506 tw5018579362621385299 tw11010909519907537993 tw13012183161798877686 tw14460412772954804896 tw4831491364467225337 tw16529999352332538017 tw12781797681224945047 tw1612659240947885486 tw12880049566211037412 tw2318945284157140905 tw2652526239280481787 tw16616772611275055445 tw12823090628528176448 tw10797679450273519087 tw10897840443218059537 tw9058555523540323814 tw18354958850918717083 tw15250325291485831470 tw17910234888393365541 tw5072523710052681569 tw6756419451305504731 tw16975887152617892268 tw15877370756594530568 tw6637705229705636473 tw9955103889363450345 tw12182651966704032975 tw13430413824367804001 tw16875711344844976293 tw16768981341574808850 tw7584831220770005580 tw14601034730061443083 tw4970754429026680264 tw10883295444590845600 tw1286646456860308155 tw17028988328591771106 tw5690402405429461306 tw5200551131351862041 tw8097496413944603513 tw16119355021575758769 tw12880564935778462482 tw206497970215188495 tw4954756804219682193 tw14792485190792772252 tw4931214883337675306 tw17108037619955761129 tw5773955866530042397 tw1675539658211648776 tw14353483513499922204 tw12343543293435692222 tw7395219210966937878 tw13413307675899443308 tw2604667613479894324 tw9017031051364438531 tw10755679578761322228 tw15861204783217847747 tw446814901373344377 tw16386560270114910165 tw3825439134213322916 tw8673335725583648569 tw15827103004895880504 tw17105790764635288369 tw688276379571304894 tw14514117957255460293 tw7500737868396156814 tw5696783868060687203 tw6803508763893574092 tw7416072577963238385 tw12242497017742835586 tw967166066654903848 tw5489883729176569196 tw3668829540574298226 tw4899486142752175803 tw9072175191757351222 tw2572031519350388536 tw9448708978065458641 tw11849673466694399992 tw6781482642386285393 tw6160339161122982874 tw5693351975560277511 tw991334170185975614 tw298745486250266893 tw15851911372100810919 tw560198257817269602 tw6510726621087508908 tw14481033309535657262 tw2217466399235813130 tw18010925940333761491 tw17167980719978972211 tw6750153647544547471 tw10934200727869950359 tw4872213937455648810 tw2666242034394405644 tw10640518130698727568 tw11809901688566315569 tw5264484031655422524 tw3326444853690654143 tw3508003056315455781 tw2510181959723209724 tw6525158192355277573 tw4105916616937817824 tw7894116439007145577 tw4755809260904922106 tw3028217173791305228 tw2835259364831075056 tw9738557428302914237 tw3753414308357275285 tw9769041034074855917 tw11494857900540580323 tw15878839145207064399 tw12904430830392775089 tw11991343233132639419 tw6506808977775314743 tw15080701663976970306 tw5474886658090945031 tw12111525810173493577 tw8031013839659927394 tw3403177176037302126 tw10299757686227931606 tw18412270725926565158 tw10096512984259637144 tw2606823662995606091 tw13119230187656903906 tw13013794621056584621 tw313216222934913039 tw5049204907256263014 tw11496691032977634014 tw9279938111996532553 tw3534250290648838003 tw6602328200356280269 tw6396785297783306461 tw14853406376978754392 tw3522051605147179501 tw9578673796691404994 tw3644870939959478198 tw40929399940701067 tw325639574359030413 tw14419426649928807990 tw15654284127576037280 tw3570713249978359133 tw3402824334248575301 tw2503623132997239636 tw17558976602691693056 tw7180546624288163314 tw10934297560651686726 tw17370013021908175545 tw1009585068753951416 tw3575217996455418280 tw1298981174449250350 tw3175640764629691874 tw4377084005697566679 tw18232520097623562244 tw14168777067905710337 tw12771430115897854546 tw956364492182262881 tw16047066039769219986 tw1075242638928985939 tw9580465444372860450 tw15872864706817027528 tw17235960081110290321 tw9469362172965802557 tw11528669050403280686 tw12303622115837046113 tw7782600749260444615 tw15978726912117393109 tw8451298974542093174 tw3315068888310892700 tw590547632374056852 tw6525487140721691186 tw3190356269657304422 tw8644189330998239545 tw5115247910414503162 tw4955735036514327535 tw7725539259658515531 tw2551548642512776281 tw15570326546687135055 tw12780318598296053151 tw2758320987600765079 tw357642250067275013 tw14255238563562956554 tw9980481209165410686 tw6676154270109741529 tw14070416388970992894 tw3151885953419032679 tw14847445939843449729 tw15995544345036670455 tw3975955635906761597 tw1546371430215360120 tw9867138465651436963 tw8998492975162144592 tw15437731719204069120 tw5660311121395626544 tw3886379579445269671 tw10780772697453374917 tw8368984602667024050 tw11864986469301985612 tw13085287257016263494 tw9261320089158011373 tw17432519140767173664 tw5785707995228146717 tw6528583943560145380 tw13509172264940714747 tw12143103341781004922 tw11111493263856327428 tw9806081562435759128 tw6872127306958135778 tw3892379155995819264 tw18200430019877255945 tw13129034863563205599 tw15787991265161803091 tw5794597255280902599:True)
open PySem PySem.W PyProof.Rows
set_option maxRecDepth 100000 in
set_option maxHeartbeats 0 in
theorem PySem.Challenge.cw_lampway_k64_whole_shortest_round_holds : PySem.Challenge.rw_lampway_k64_whole_shortest_round.Holds := by
 w_on;o_law;k_head;(case hw=>w_witness2)
 k_fill
 refine L2.uH (l:=PySem.Challenge.rw_lampway_k64_whole_shortest_round) (n:=63) (k:=18) (x := "_law_script") (CX:=L2.CX0) (sp:=L2.YL) rfl (by decide) rfl ⟨rfl,by decide,by decide⟩ (fun w h Y=>PySem.W.kIn_of Y) ?F ?S ?C
 case F=>
  intro w mg fa h KX G hmg;have T:∃ t,My.Txt w (L2.KOf KX) mg t:=by
   dsimp only [L2.KOf];refine' ⟨My.Adr.mk,⟨?mqaa,?Fqab,?mqac,?Fqad,?mqae,?Fqaf,?mqag,?Fqah,?mqai,?Fqaj,?mqak,?Fqal,?mqam,?Fqan,?mqao,?Fqap,?mqaq,?Fqar,?mqas,?Fqat,?mqau,?Fqav,?mqaw,?Fqax,?mqay,?Fqaz,?mqba,?Fqbb,?mqbc,?Fqbd,?mqbe,?Fqbf,?mqbg,?Fqbh,?mqbi,?Fqbj,?mqbk,?Fqbl,?mqbm,?Fqbn,?mqbo,?Fqbp,?mqbq,?Fqbr,?mqbs,?Fqbt,?mqbu,?Fqbv,?mqbw,?Fqbx,?mqby,?Fqbz,?mqca,?Fqcb,?mqcc,?Fqcd,?mqce,?Fqcf,?mqcg,?Fqch,?mqci,?Fqcj,?mqck,?Fqcl,?mqcm,?Fqcn,?mqco,?Fqcp,?mqcq,?Fqcr,?mqcs,?Fqct,?mqcu,?Fqcv,?mqcw,?Fqcx,?mqcy,?Fqcz,?mqda,?Fqdb,?mqdc,?Fqdd,?mqde,?Fqdf,?mqdg,?Fqdh,?mqdi,?Fqdj,?mqdk,?Fqdl,?mqdm,?Fqdn,?mqdo,?eqdp,?Fqdq,?mqdr,?eqds,?Fqdt,?eqdu,?Fqdv,?eqdw,?Fqdx,?eqdy,?Fqdz,?eqea,?Fqeb,?eqec,?Fqed,?eqee,?Fqef,?eqeg,?Fqeh,?mqei,?eqej,?Fqek,?mqel,?eqem,?Fqen,?eqeo,?Fqep,?eqeq,?Fqer,?mqes,?eqet,?Fqeu,?eqev,?Fqew,?eqex,?Fqey,?mqez,?eqfa,?Fqfb,?eqfc,?Fqfd,?eqfe,?Fqff,?mqfg,?eqfh,?Fqfi,?eqfj,?Fqfk,?eqfl,?Fqfm,?sqfn,?sqfo,?nqfp,?nqfq,?nqfr,?sqfs,?sqft,?sqfu,?sqfv,?sqfw,?sqfx,?sqfy,?sqfz,?sqga,?nqgb,?nqgc,?nqgd,?sqge,?nqgf,?nqgg,?nqgh,?nqgi,?nqgj,?nqgk,?nqgl,?sqgm,?sqgn,?sqgo,?sqgp,?nqgq,?nqgr,?nqgs,?nqgt,?nqgu,?nqgv,?nqgw,?sqgx,?sqgy,?sqgz,?sqha,?nqhb,?nqhc,?nqhd,?nqhe,?nqhf,?nqhg,?nqhh,?sqhi,?sqhj,?sqhk,?sqhl,?nqhm,?nqhn,?nqho,?nqhp,?nqhq,?nqhr,?nqhs,?sqht,?sqhu,?sqhv,?sqhw,?nqhx,?nqhy,?nqhz,?dqia,?dqib,?dqic,?dqid,?dqie,?dqif,?sqig,?mqih,?vqii,?mqij,?vqik,?mqil,?vqim,?mqin,?vqio,?mqip,?vqiq,?mqir,?vqis,?mqit,?vqiu,?mqiv,?vqiw,?mqix,?vqiy,?mqiz,?vqja,?bqjb,?bqjc,?bqjd,?bqje,?bqjf,?bqjg,?bqjh,?bqji,?bqjj,?bqjk,?bqjl,?bqjm,?bqjn,?bqjo,?bqjp,?bqjq,?lqjr⟩⟩
   case mqaa | mqac | mqae | mqag | mqai | mqak | mqam | mqao | mqaq | mqas | mqau | mqaw | mqay | mqba | mqbc | mqbe | mqbg | mqbi | mqbk | mqbm | mqbo | mqbq | mqbs | mqbu | mqbw | mqby | mqca | mqcc | mqce | mqcg | mqci | mqck | mqcm | mqco | mqcq | mqcs | mqcu | mqcw | mqcy | mqda | mqdc | mqde | mqdg | mqdi | mqdk | mqdm | mqdo | mqdr | mqei | mqel | mqes | mqez | mqfg | mqih | mqij | mqil | mqin | mqip | mqir | mqit | mqiv | mqix | mqiz=>(try dsimp only);refine' PySem.W.mg_of KX G ?z;case z=>k_is
   case eqdp | eqds | eqdu | eqdw | eqdy | eqea | eqec | eqee | eqeg | eqej | eqem | eqeo | eqeq | eqet | eqev | eqex | eqfa | eqfc | eqfe | eqfh | eqfj | eqfl=>(try dsimp only);k_is
   case sqfn | sqfo | sqfs | sqft | sqfu | sqfv | sqfw | sqfx | sqfy | sqfz | sqga | sqge | sqgm | sqgn | sqgo | sqgp | sqgx | sqgy | sqgz | sqha | sqhi | sqhj | sqhk | sqhl | sqht | sqhu | sqhv | sqhw | sqig=>(try dsimp only);constructor <;> k_is
   case Fqab | Fqad | Fqaf | Fqah | Fqaj | Fqal | Fqan | Fqap | Fqar | Fqat | Fqav | Fqax | Fqaz | Fqbb | Fqbd | Fqbf | Fqbh | Fqbj | Fqbl | Fqbn | Fqbp | Fqbr | Fqbt | Fqbv | Fqbx | Fqbz | Fqcb | Fqcd | Fqcf | Fqch | Fqcj | Fqcl | Fqcn | Fqcp | Fqcr | Fqct | Fqcv | Fqcx | Fqcz | Fqdb | Fqdd | Fqdf | Fqdh | Fqdj | Fqdl | Fqdn | Fqdq | Fqdt | Fqdv | Fqdx | Fqdz | Fqeb | Fqed | Fqef | Fqeh | Fqek | Fqen | Fqep | Fqer | Fqeu | Fqew | Fqey | Fqfb | Fqfd | Fqff | Fqfi | Fqfk | Fqfm=>(try dsimp only);refine' L2.IM ?x ?y ?z;(case x=>k_is);(case y=>k_is);(case z=>k_is)
   case nqfp | nqfq | nqfr | nqgb | nqgc | nqgd | nqgf | nqgg | nqgh | nqgi | nqgj | nqgk | nqgl | nqgq | nqgr | nqgs | nqgt | nqgu | nqgv | nqgw | nqhb | nqhc | nqhd | nqhe | nqhf | nqhg | nqhh | nqhm | nqhn | nqho | nqhp | nqhq | nqhr | nqhs | nqhx | nqhy | nqhz=>(try dsimp only);unfold L2.kc;k_is
   case dqia | dqib | dqic | dqid | dqie | dqif=>(try dsimp only);decide
   case vqii | vqik | vqim | vqio | vqiq | vqis | vqiu | vqiw | vqiy | vqja=>(try dsimp only);exact ⟨_,rfl⟩
   case bqjb | bqjc | bqjd | bqje | bqjf | bqjg | bqjh | bqji | bqjj | bqjk | bqjl | bqjm | bqjn | bqjo | bqjp | bqjq=>(try dsimp only);refine' PySem.W.mg_none_of KX G ?z;case z=>k_is
   case lqjr=>(try dsimp only);exact fun _ _=>.of_eq rfl
  obtain ⟨t,T⟩:=T;have e0:=hmg.symm.trans T.AO;cases e0;exact ⟨t.qI,T.mM,fun base kb nb=>My.rM T⟩
 case S=>exact fun K H a ns hl hO hS=>⟨a,ns,rfl,L2.Sc.of_only hO hS,hl,fun _=>rfl⟩
 case C=>exact fun _ _ _ _ z=>z
